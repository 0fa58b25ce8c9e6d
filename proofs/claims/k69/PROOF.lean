import PyProof.Rows.All
import Wide.All
import OpenK.AllK
import Wide.FinOn
import Lean
import PyProof.EqAt
import PyProof.EqKinds
import PyProof.TupleCall
import KE.KRevIter
import PyProof.ListRange
import PyProof.TupleOfGen
import PyProof.Draws
import PyProof.EnumMake
import PyProof.EnumFor
import PyProof.NeKinds
import KE.KDictList
import PyProof.Rows.TupDisplay
import PyProof.ZipIter
import PyProof.Rows.ZipGen
import KE.KItemsList
import PyProof.Rows.SumAny
import PyProof.StrWalks
import PyProof.StrCalls
import PyProof.StrCalls3
import PyProof.StrLawsFirst
import PyProof.StrLawsIn
import PyProof.SliceStr2
import PyProof.StrBlockI
import PyProof.Rows.StrWeight2
import PyProof.ListNew
import PyProof.DictRoadsH
import PyProof.WalkInts
import PyProof.Rows.MinMaxN
import KE.KDictLaws
import PyProof.StrCalls2
import PyProof.StrLawsChain
import KE.KIntText
import KE.KxText
import KE.KMinKey
import KE.KPairComp
import PyProof.MaxThree
import PyProof.DictValues
import PySem.Challenge.RW_guessroom_k69_whole_least
set_option Elab.async false
set_option linter.all false
set_option maxRecDepth 100000
namespace L2
open PySem PySem.Spec PyProof.Rows
abbrev Key:=Sum Int Str
def UC:Key->Value->Bool
 |.inl k,v=>Value.isInt k v
 |.inr x,v=>Value.isStrOf x v
def keyH (w:World):Key->Int
 |.inl k=>hashInt k
 |.inr x=>hashStr w x
theorem B0:∀{k:Key} {v:Value},UC k v=true->(∃i t,k=Sum.inl i/\v=Value.int i t)\/(∃x t,k=Sum.inr x/\v=Value.str x t)
 |.inl i,v,h=>by
  obtain⟨t,e⟩:=Value.isInt_shape (k:=i) (v:=v) h
  exact .inl ⟨i,t,rfl,e⟩
 |.inr x,v,h=>by
  obtain⟨t,e⟩:=Value.isStrOf_shape (x:=x) (v:=v) h
  exact .inr ⟨x,t,rfl,e⟩
theorem XM (i:Int)(t:Tok):UC (.inl i) (.int i t)=true:=by simp[UC,Value.isInt]
theorem XN (x:Str)(t:Tok):UC (.inr x) (.str x t)=true:=by simp[UC,Value.isStrOf]
theorem Cz_ (a b:Int):decide ((Sum.inl a:Key)=Sum.inl b)=(a==b):=by
 by_cases e:a=b
 ·subst e;simp
 ·have h:¬ (Sum.inl a:Key)=Sum.inl b:=fun q=>e (Sum.inl.inj q)
  rw[decide_eq_false h]
  exact (beq_eq_false_iff_ne.mpr e).symm
theorem CA_ (a b:Str):decide ((Sum.inr a:Key)=Sum.inr b)=decide (a=b):=by
 by_cases e:a=b
 ·subst e;simp
 ·have h:¬ (Sum.inr a:Key)=Sum.inr b:=fun q=>e (Sum.inr.inj q)
  rw[decide_eq_false h,decide_eq_false e]
theorem CB_ (a:Int)(b:Str):decide ((Sum.inl a:Key)=Sum.inr b)=false:=decide_eq_false (fun q=>nomatch q)
theorem CC_ (a:Str)(b:Int):decide ((Sum.inr a:Key)=Sum.inl b)=false:=decide_eq_false (fun q=>nomatch q)
def B8 (prog:Program)(w:World):PySem.KeyKind prog w Key where
 is:=UC
 hash:=keyH w
 inj:=fun v a b ha hb=>by
  rcases B0 ha with ⟨i,t,rfl,rfl⟩|⟨x,t,rfl,rfl⟩
  ·rcases B0 hb with ⟨j,u,rfl,e⟩|⟨y,u,rfl,e⟩
   ·injection e with e1 _;rw[e1]
   ·exact nomatch e
  ·rcases B0 hb with ⟨j,u,rfl,e⟩|⟨y,u,rfl,e⟩
   ·exact nomatch e
   ·injection e with e1 _;rw[e1]
 byValue:=fun k v h=>by
  rcases B0 h with ⟨i,t,rfl,rfl⟩|⟨x,t,rfl,rfl⟩<;>rfl
 pyHash:=fun hv h=>by
  rcases B0 hv with ⟨i,t,rfl,rfl⟩|⟨x,t,rfl,rfl⟩
  ·exact wpAny_pyHash_int h
  ·exact wpAny_pyHash_str h
 eqBool:=fun hu hv h=>by
  rcases B0 hu with ⟨i,t,rfl,rfl⟩|⟨x,t,rfl,rfl⟩
  ·rcases B0 hv with ⟨j,u,rfl,rfl⟩|⟨y,u,rfl,rfl⟩
   ·rw[Cz_]at h;exact wpAny_eqBool_int h
   ·rw[CB_]at h;exact SeqAt.EqAt.int_str i t y u _ _ _ _ h
  ·rcases B0 hv with ⟨j,u,rfl,rfl⟩|⟨y,u,rfl,rfl⟩
   ·rw[CC_]at h;exact SeqAt.EqAt.str_int x t j u _ _ _ _ h
   ·rw[CA_]at h;exact wpAny_eqBool_str h
 «strs» := fun k x t v h=>by
  rcases B0 h with ⟨i,u,rfl,e⟩|⟨y,u,rfl,e⟩
  ·exact nomatch e
  ·injection e with e1 _
   subst e1
   cases v<;>rfl
theorem UD (prog:Program)(w:World)(i:Int)(t:Tok):(B8 prog w).is (.inl i) (.int i t)=true:=XM i t
theorem UE (prog:Program)(w:World)(x:Str)(t:Tok):(B8 prog w).is (.inr x) (.str x t)=true:=XN x t
inductive V where
 | non|bl (b:Bool)|int (i:Int)|str (x:Str)|byt (b:Array UInt8)|flt (b:UInt64)|ref (a:Addr)|ty (n:String)
 deriving DecidableEq
def RelV:V->Value->Prop
 |.non,u=>u=Value.none
 |.bl b,u=>u=Value.bool b
 |.int i,u=>∃t,u=Value.int i t
 |.str x,u=>∃t,u=Value.str x t
 |.byt b,u=>∃t,u=Value.bytes b t
 |.flt b,u=>∃t,u=Value.float b t
 |.ref a,u=>u=Value.ref a
 |.ty n,u=>u=Value.type n
abbrev Vals:List V->List Value->Prop:=Paired RelV
theorem Vals.length {xs:List V}{us:List Value}(r:Vals xs us):xs.length=us.length:=Paired.length r
theorem Vals.get:∀{xs:List V} {us:List Value} {i:Nat} {x:V},Vals xs us->xs[i]?=some x->∃u,us[i]?=some u/\RelV x u
 |_,_,_,_,.nil,e=>by simp at e
 |_,_,0,_,.cons r _,e=>by simp at e;subst e;exact⟨_,rfl,r⟩
 |_,_,i+1,x,.cons _ t,e=>by
  obtain⟨u,h1,h2⟩:=Vals.get (i:=i) (x:=x) t (by simpa using e)
  exact⟨u,by simpa using h1,h2⟩
theorem Vals.set {x:V}{u:Value}(r:RelV x u):∀{xs:List V} {us:List Value} (i:Nat),Vals xs us->Vals (xs.set i x) (us.set i u)
 |_,_,_,.nil=>.nil
 |_,_,0,.cons _ t=>.cons r t
 |_,_,i+1,.cons q t=>.cons q (Vals.set r i t)
theorem Vals.append:∀{xs ys:List V} {us ws:List Value},Vals xs us->Vals ys ws->Vals (xs++ys) (us++ws)
 |_,_,_,_,.nil,s=>s
 |_,_,_,_,.cons r t,s=>.cons r (Vals.append t s)
theorem Vals.take:∀{xs:List V} {us:List Value} (n:Nat),Vals xs us->Vals (xs.take n) (us.take n)
 |_,_,0,_=>.nil
 |_,_,_+1,.nil=>.nil
 |_,_,n+1,.cons r t=>.cons r (Vals.take n t)
theorem Vals.drop:∀{xs:List V} {us:List Value} (n:Nat),Vals xs us->Vals (xs.drop n) (us.drop n)
 |_,_,0,r=>r
 |_,_,_+1,.nil=>.nil
 |_,_,n+1,.cons _ t=>Vals.drop n t
def RelO:Option V->Option Value->Prop
 |some v,some u=>RelV v u
 |none,none=>True
 |_,_=>False
def KV {κ:Type}:List (κ×V)->List (κ×Value)->Prop:=Paired fun (p:κ×V) (q:κ×Value)=>p.1=q.1/\RelV p.2 q.2
def kV:Key->V
 |.inl i=>.int i
 |.inr x=>.str x
inductive HO where
 | lst (xs:List V)
 | tup (xs:List V)
 | dK (kvs:List (Key×V))|dT (kvs:List (List Key×V))
 | set (S:Int->Bool) (n:Nat)
 | ins (C dx:Addr) (fs:List (Str×V))
 | own (x:Addr)
 | xd (fs:List (Str×V))
 | met (f x:Addr)
 | rng (lo hi:Int)
 | frz (o:Obj) (u:HO)
 | tbl (ps:Array Value)
 | ext (φ:Heap->Prop)
abbrev Hp:=Addr->Option HO
def upd (H:Hp)(a:Addr)(o:HO):Hp:=fun b=>if b=a then some o else H b
theorem Ac {H:Hp}{a:Addr}{o:HO}:upd H a o a=some o:=by unfold upd;rw[if_pos rfl]
theorem Aw {H:Hp}{a b:Addr}{o:HO}(h:b≠a):upd H a o b=H b:=by unfold upd;rw[if_neg h]
theorem BG_ {H:Hp}{a:Addr}{o u:HO}:upd (upd H a o) a u=upd H a u:=by
 funext b;unfold upd;split<;>rfl
theorem Ek_ {H:Hp}{a b:Addr}{o u:HO}(h:H a=some o)(h':H b=some u)(d:o≠u):a≠b:=by
 intro e;subst e;rw[h]at h';exact d (Option.some.inj h')
theorem BL {H:Hp}{a b:Addr}{o:HO}(h:H a=some o)(h':H b=none):a≠b:=by
 intro e;subst e;rw[h]at h';cases h'
section
variable (P:Program) (w:World)
def Bq (H:Hp)(h:Heap)(a:Addr):HO->Prop
 |.lst xs=>xs.length<=sizeLine/\∃(its:List Value) (n:Nat),Vals xs its/\h.get? a=some {cls:=.type "list",data:=.seq its.toArray n}
 |.tup xs=>xs.length<=sizeLine/\∃its:List Value,Vals xs its/\IsTup h a its.toArray
 |.dK kvs=>kvs.length<=sizeLine/\(a==sysModules)=false/\∃vs,KV kvs vs/\h.DictOf (B8 P w) a vs
 |.dT kvs=>kvs.length<=sizeLine/\(a==sysModules)=false/\∃xs:List (List Key×Addr×Value),
   Paired (fun (p:List Key×V) (q:List Key×Addr×Value)=>p.1=q.1/\H q.2.1=some (.tup (p.1.map kV))/\RelV p.2 q.2.2) kvs xs /\
   ∃o es ep,h.get? a=some o/\o.ExactDict/\o.data=.dict es ep/\es.toList=xs.map (entryOfKey (tupleKind (B8 P w)))/\(xs.map (·.1)).Nodup
 |.set S n=>h.SetOf (intKind P w) a S n
 |.ins C dx fs=>H dx=some (.own a)/\fs.length<=1000/\dx≠a/\h.get? a=some (PySem.W.instObj C dx) /\
   ∃mA,h.Ns1 dx mA/\(∀f,RelO (fs.lookup f) (mA f))/\PySem.Within mA (fs.map (·.1))
 |.own _=>∃o,h.get? a=some o
 |.xd fs=>∃mA,h.Ns1 a mA/\∀f,RelO (fs.lookup f) (mA f)
 |.rng lo hi=>∃t u v,h.get? a=some {cls:=.type "range",data:=.fields #[.int lo t,.int hi u,.int 1 v]}
 |.frz o u=>h.get? a=some o/\Bq H h a u
 |.tbl ps=>h.get? a=some {cls:=.none,data:=.fields ps}
 |.met f x=>h.get? a=some (PySem.W.methodObj (.ref f) (.ref x))
 |.ext φ=>φ h/\(∃o,h.get? a=some o)/\∀h1 h2:Heap,φ h1->(∀o,h1.get? a=some o->h2.get? a=some o)->φ h2
def HOk (H:Hp)(h:Heap):Prop:=∀a o,H a=some o->Bq P w H h a o
end
section
variable {P:Program} {w:World} {H H':Hp} {h h':Heap} {a:Addr} {o:HO}
theorem Bq.lt (x:Bq P w H h a o):a<h.objs.size:=by
 cases o with
 |lst xs=>obtain⟨_,_,_,_,e⟩:=x;exact Heap.lt_size e
 |tup xs=>obtain⟨_,_,_,p⟩:=x;exact p.lt
 |dK kvs=>obtain⟨_,_,_,_,o,_,_,e,_⟩:=x;exact Heap.lt_size e
 |dT kvs=>obtain⟨_,_,_,_,o,_,_,e,_⟩:=x;exact Heap.lt_size e
 |set S n=>obtain⟨o,_,_,_,e,_⟩:=x;exact Heap.lt_size e
 |ins C dx fs=>obtain⟨_,_,_,e,_⟩:=x;exact Heap.lt_size e
 |own y=>obtain⟨_,e⟩:=x;exact Heap.lt_size e
 |xd fs=>obtain⟨_,⟨_,_,_,e,_⟩,_⟩:=x;exact Heap.lt_size e
 |rng lo hi=>obtain⟨_,_,_,e⟩:=x;exact Heap.lt_size e
 |frz ob u=>obtain⟨e,_⟩:=x;exact Heap.lt_size e
 |tbl ps=>exact Heap.lt_size (show h.get? a=some _ from x)
 |met f y=>exact Heap.lt_size (show h.get? a=some _ from x)
 |ext φ=>obtain⟨_,⟨_,e⟩,_⟩:=x;exact Heap.lt_size e
theorem Paired.mapP {α β:Type}{F G:α->β->Prop}:∀{l₁:List α} {l₂:List β},Paired F l₁ l₂->(∀a b,F a b->G a b)->Paired G l₁ l₂
 |_,_,.nil,_=>.nil
 |_,_,.cons r t,f=>.cons (f _ _ r) (Paired.mapP t f)
theorem Bq.stay (x:Bq P w H h a o)(k:∀b u,(b=a\/H b=some (.own a))->h.get? b=some u->h'.get? b=some u)
  (ho:∀b,H b=some (.own a)->H' b=some (.own a)) (ht:∀b xs,H b=some (.tup xs)->H' b=some (.tup xs)):Bq P w H' h' a o:=by
 induction o with
 |lst xs=>obtain⟨z,its,n,r,e⟩:=x;exact⟨z,its,n,r,k _ _ (.inl rfl) e⟩
 |tup xs=>obtain⟨z,its,r,ob,e,c⟩:=x;exact⟨z,its,r,ob,k _ _ (.inl rfl) e,c⟩
 |dK kvs=>obtain⟨z,y,vs,r,ob,es,ep,e,c⟩:=x;exact⟨z,y,vs,r,ob,es,ep,k _ _ (.inl rfl) e,c⟩
 |dT kvs=>
  obtain⟨z,y,xs,r,ob,es,ep,e,c⟩:=x
  exact⟨z,y,xs,Paired.mapP r fun p q z=>⟨z.1,ht _ _ z.2.1,z.2.2⟩,ob,es,ep,k _ _ (.inl rfl) e,c⟩
 |set S n=>obtain⟨ob,es,ep,t,e,c⟩:=x;exact⟨ob,es,ep,t,k _ _ (.inl rfl) e,c⟩
 |ins C dx fs=>
  obtain⟨d,z,ne,e,mA,⟨od,es,ep,e2,c⟩,r⟩:=x
  exact⟨ho _ d,z,ne,k _ _ (.inl rfl) e,mA,⟨od,es,ep,k _ _ (.inr d) e2,c⟩,r⟩
 |own y=>obtain⟨ob,e⟩:=x;exact⟨ob,k _ _ (.inl rfl) e⟩
 |xd fs=>obtain⟨mA,⟨od,es,ep,e,c⟩,r⟩:=x;exact⟨mA,⟨od,es,ep,k _ _ (.inl rfl) e,c⟩,r⟩
 |rng lo hi=>obtain⟨t,u,v,e⟩:=x;exact⟨t,u,v,k _ _ (.inl rfl) e⟩
 |frz ob u ih=>obtain⟨e,q⟩:=x;exact⟨k _ _ (.inl rfl) e,ih q⟩
 |tbl ps=>
  have e:h.get? a=some {cls:=.none,data:=.fields ps}:=x
  show h'.get? a=some {cls:=.none,data:=.fields ps}
  exact k a _ (.inl rfl) e
 |met f y=>
  have e:h.get? a=some (PySem.W.methodObj (.ref f) (.ref y)):=x
  show h'.get? a=some (PySem.W.methodObj (.ref f) (.ref y))
  exact k a _ (.inl rfl) e
 |ext φ=>obtain⟨p,⟨o,e⟩,st⟩:=x;exact⟨st _ _ p fun o q=>k _ _ (.inl rfl) q,⟨o,k _ _ (.inl rfl) e⟩,st⟩
theorem HOk.lt (x:HOk P w H h)(e:H a=some o):a<h.objs.size:=(x a o e).lt
theorem HOk.fresh (x:HOk P w H h)(e:h.objs.size<=a):H a=none:=by
 cases q:H a with
 |none=>rfl
 |some u=>exact absurd (Nat.lt_of_lt_of_le (x.lt q) e) (Nat.lt_irrefl _)
theorem HOk.kept (x:HOk P w H h)(k:∀b u,h.get? b=some u->h'.get? b=some u):HOk P w H h':=fun a o e=>
 (x a o e).stay (fun b u _ q=>k b u q) (fun _ q=>q) fun _ _ q=>q
theorem HOk.laid (x:HOk P w H h)(k:∀b u,h.get? b=some u->h'.get? b=some u)(hp:h.objs.size<=a)(new:Bq P w (upd H a o) h' a o):HOk P w (upd H a o) h':=fun b u e=>by
 have hn:=x.fresh hp
 by_cases hb:b=a
 ·subst hb;rw[Ac]at e;cases e;exact new
 ·rw[Aw hb]at e
  exact (x b u e).stay (fun c v _ q=>k c v q) (fun c q=>by rw[Aw (BL q hn)];exact q) fun c xs q=>by rw[Aw (BL q hn)];exact q
end
def Rd (H:Hp)(a:Addr)(u:HO):Prop:=H a=some u \/ ∃o,H a=some (.frz o u)
theorem Rd.ok {P:Program}{w:World}{H:Hp}{h:Heap}{a:Addr}{u:HO}(r:Rd H a u)(x:HOk P w H h):Bq P w H h a u:=by
 rcases r with r|⟨o,r⟩
 ·exact x a u r
 ·obtain⟨_,q⟩:=x a _ r
  exact q
def Mut:Option HO->Prop
 |some (.lst _)=>True
 |some (.dK _)=>True
 |some (.dT _)=>True
 |some (.set _ _)=>True
 |some (.ins _ _ _)=>True
 |some (.ext _)=>True
 |_=>False
section
variable {P:Program} {w:World} {H:Hp} {h h':Heap} {x e:Addr} {o':HO}
theorem HOk.write (ok:HOk P w H h)(mu:Mut (H x))(he:e=x\/H e=some (.own x))(k:∀b u,b≠e->h.get? b=some u->h'.get? b=some u)(heo:∃u,h'.get? e=some u)
  (new:Bq P w (upd H x o') h' x o'):HOk P w (upd H x o') h':=fun b u q=>by
 have nown:∀c y,H c=some (.own y)->c≠x:=fun c y r z=>by subst z;rw[r]at mu;exact mu
 have ntup:∀c xs,H c=some (.tup xs)->c≠x:=fun c xs r z=>by subst z;rw[r]at mu;exact mu
 by_cases hb:b=x
 ·subst hb;rw[Ac]at q;cases q;exact new
 ·rw[Aw hb]at q
  by_cases hbe:b=e
  ·have q':H b=some (.own x):=by
    rcases he with z|z
    ·exact absurd (hbe.trans z) hb
    ·rw[hbe];exact z
   rw[q]at q';cases q'
   obtain⟨v,hv⟩:=heo
   exact⟨v,by rw[hbe];exact hv⟩
  ·refine (ok b u q).stay (fun c v hc r=>k c v ?_ r) (fun c r=>by rw[Aw (nown c b r)];exact r) fun c xs r=>by rw[Aw (ntup c xs r)];exact r
   rcases hc with rfl|hc
   ·exact hbe
   ·rintro rfl
    rcases he with z|z
    ·exact nown c b hc z
    ·rw[hc]at z;cases z;exact hb rfl
end
structure Un (fs ex:List Addr)(H H':Hp)(h h':Heap):Prop where
 keep:∀b o,h.get? b=some o->H b=none->b∉fs->b∉ex->h'.get? b=some o
 slot:∀b o,h.get? b=some o->H b=none->b∈fs->b∉ex->∃sl,h'.get? b=some {o with slots:=sl}
 free:∀b o,h.get? b=some o->H b=none->b∉ex->H' b=none
 there:∀b o,h.get? b=some o->b∉ex->∃o',h'.get? b=some o'
 tups:∀b xs,H b=some (.tup xs)->H' b=some (.tup xs)
 frzs:∀b o u,H b=some (.frz o u)->H' b=some (.frz o u)
 tbls:∀b ps,H b=some (.tbl ps)->∃more,H' b=some (.tbl (ps++more))
section
variable {fs fs' ex ex':List Addr} {H H1 H2:Hp} {h h1 h2 h':Heap} {a x e:Addr} {o:HO}
theorem Un.any (u:Un fs ex H H1 h h1){b:Addr}{ob:Obj}(q:h.get? b=some ob)(n:H b=none)(hx:b∉ex):∃sl,h1.get? b=some {ob with slots:=sl}:=by
 by_cases hb:b∈fs
 ·exact u.slot b ob q n hb hx
 ·exact⟨ob.slots,u.keep b ob q n hb hx⟩
theorem Un.kept (k:∀b u,h.get? b=some u->h'.get? b=some u):Un fs ex H H h h' :=
 ⟨fun b ob q _ _ _=>k b ob q,fun b ob q _ _ _=>⟨ob.slots,k b ob q⟩,fun _ _ _ n _=>n,fun b ob q _=>⟨ob,k b ob q⟩,fun _ _ q=>q,fun _ _ _ q=>q,fun _ ps q=>⟨#[],by rw[q];simp⟩⟩
theorem Un.refl:Un fs ex H H h h:=Un.kept fun _ _ q=>q
theorem Un.laid (k:∀b u,h.get? b=some u->h'.get? b=some u)(hp:h.objs.size<=a)(hn:H a=none):Un fs ex H (upd H a o) h h' where
 keep:=fun b u q _ _ _=>k b u q
 slot:=fun b u q _ _ _=>⟨u.slots,k b u q⟩
 free:=fun b u q n _=>by rw[Aw (Nat.ne_of_lt (Nat.lt_of_lt_of_le (Heap.lt_size q) hp))];exact n
 there:=fun b u q _=>⟨u,k b u q⟩
 tups:=fun b xs q=>by rw[Aw (BL q hn)];exact q
 frzs:=fun b u xs q=>by rw[Aw (BL q hn)];exact q
 tbls:=fun b ps q=>⟨#[],by rw[Aw (BL q hn),q];simp⟩
theorem Un.write (mu:Mut (H x))(he:e=x\/H e=some (.own x))(k:∀b u,b≠e->h.get? b=some u->h'.get? b=some u)(heo:∃u,h'.get? e=some u):Un fs ex H (upd H x o) h h':=by
 have hx:∀b,H b=none->b≠x:=fun b n z=>by subst z;rw[n]at mu;exact mu
 have hb:∀b,H b=none->b≠e:=fun b n z=>by
  subst z
  rcases he with r|r
  ·exact hx b n r
  ·rw[n]at r;cases r
 have hm:∀b u,H b=some u->¬ Mut (some u)->b≠x:=fun b u q nm z=>by subst z;rw[q]at mu;exact nm mu
 refine⟨fun b u q n _ _=>k b u (hb b n) q,fun b u q n _ _=>⟨u.slots,k b u (hb b n) q⟩,fun b u q n _=>by rw[Aw (hx b n)];exact n,fun b u q _=>?_,
  fun b xs q=>by rw[Aw (hm b _ q fun z=>z)];exact q,fun b u xs q=>by rw[Aw (hm b _ q fun z=>z)];exact q,fun b ps q=>⟨#[],by rw[Aw (hm b _ q fun z=>z),q];simp⟩⟩
 by_cases hbe:b=e
 ·subst hbe;exact heo
 ·exact⟨u,k b u hbe q⟩
end
def trk (h:Heap)(H:Hp):List Addr:=(List.range h.objs.size).filter fun a=>(H a).isSome
def hidT (h:Heap)(H:Hp):Heap:=PySem.W.hideAll h (trk h H)
theorem XO (h:Heap)(H:Hp):(hidT h H).objs.size=h.objs.size:=PySem.W.hideAll_size _ _
theorem Zz {h:Heap}{H:Hp}{b:Addr}{o:Obj}(e:h.get? b=some o)(n:H b=none):(hidT h H).get? b=some o:=
 PySem.W.hideAll_get _ e fun hm=>by
  have q:(H b).isSome=true:=(List.mem_filter.mp hm).2
  rw[n]at q;simp at q
theorem BH_ {h:Heap}{H:Hp}{b:Addr}{o:Obj}(e:(hidT h H).get? b=some o):h.get? b=some o/\H b=none:=by
 have e':h.get? b=some o:=PySem.W.of_hideAll (trk h H) e
 refine⟨e',?_⟩
 cases q:H b with
 |none=>rfl
 |some x=>
  have hm:b∈trk h H:=List.mem_filter.mpr ⟨List.mem_range.mpr (Heap.lt_size e'),by simp[q]⟩
  have z:(hidT h H).get? b=none:=PySem.W.hideAll_none (trk h H) hm
  rw[z]at e;cases e
def BI_ (g h:Heap)(L:Addr):List (Addr×Obj):=(List.range h.objs.size).filterMap fun a=>if a=L\/(g.get? a).isSome=true then none else (h.get? a).map fun o=>(a,o)
def rest (g h:Heap)(L d:Addr):List (Addr×Obj):=(BI_ g h L).filter fun p=>decide (p.1≠d)
end L2
namespace L2
open PySem PySem.Spec PyProof.Rows
structure Mod (K:PySem.W.Frag)(mg:Str->Option Value)(base:Heap):Prop where
 kin:K.In base
 glob:base.Ns mainGlobals mg
 blt:∃mb,base.Ns builtinsNs mb/\∀x:Str,x ≠ "__name__" -> mb x=bootBuiltins x
 nolimit:base.NoLimit
structure Cx where
 prog:Program
 w:World
 K:PySem.W.Frag
 mg:Str->Option Value
 base:Heap
 A:Around
 N:List Str
 s₀:Shared
 H₀:Hp
 env:Env
 outer:List Env
 stack:List Env
 ex:List Addr
 fn:Str->Bool
 calm:Bool
 pn:List (Addr×Obj)
 xe:Value->Shared->Prop
def frs (l:List Env):List Addr:=l.filterMap (·.frame)
abbrev Cx.fs (X:Cx):List Addr:=frs X.outer
def Vis (sc:Scope)(x:Str):Prop:=sc.names.lookup x=some .local\/sc.names.lookup x=some .cell\/sc.names.lookup x=some .free
def Loc (sc:Scope)(x:Str):Prop:=sc.names.lookup x=some .local\/sc.names.lookup x=some .cell
def Look (env:Env)(h:Heap)(m:Str->Option Value)(x:Str)(u:Value):Prop:=
 (env.kindOf x=some .local/\m x=some u)\/((env.kindOf x=some .cell\/env.kindOf x=some .free)/\∃c,env.cells.lookup x=some c/\h.IsCell c (some u))
structure Cx.Ok (X:Cx):Prop where
 mod:Mod X.K X.mg X.base
 kind:X.env.scope.kind=.function
 glob:X.env.globals=mainGlobals
 blt:X.env.builtins=builtinsNs
 above:X.s₀.heap.objs.size<=X.env.locals
 inj:∀x y c,X.env.cells.lookup x=some c->X.env.cells.lookup y=some c->x=y
 has:∀x,(X.env.kindOf x=some .cell\/X.env.kindOf x=some .free)->∃c,X.env.cells.lookup x=some c
 cab:∀x c,X.fn x=true->X.env.cells.lookup x=some c->X.s₀.heap.objs.size<=c
 hd:X.calm=true->X.A.handled=none
 frames:X.A.frames=some X.stack
 stk:X.stack=X.outer\/(X.stack=X.env::X.outer/\X.env.frame=some X.env.locals)
 exf:∀b∈X.ex,b≠X.env.locals/\∀x c,X.env.cells.lookup x=some c->c≠b
 bs:∀b o,X.base.get? b=some o->X.s₀.heap.get? b=some o/\X.H₀ b=none
 bsz:X.base.objs.size<=X.s₀.heap.objs.size
 noex:∀b o,X.base.get? b=some o->b∉X.ex
 exfs:∀b∈X.ex,b∉X.fs
 funs:X.s₀.heap.FunFrames X.base X.outer
 frf:∀b∈X.fs,X.H₀ b=none
structure Inv (X:Cx)(pins:List (Addr×Obj))(σ:List (Option V))(H:Hp)(s:Shared):Prop where
 ok:X.Ok
 os:s.os=X.s₀.os
 bare:AllBare s.gens
 base:Un X.fs X.ex X.H₀ H X.s₀.heap s.heap
 loc:∃m,s.heap.Ns X.env.locals m/\∀(i:Nat) (x:Str) (v:V),X.N[i]?=some x->σ[i]?=some (some v)->Vis X.env.scope x->∃u,RelV v u/\Look X.env s.heap m x u
 cell:∀x c,X.env.cells.lookup x=some c->∃v,s.heap.IsCell c v
 free:H X.env.locals=none
 freeC:∀x c,X.env.cells.lookup x=some c->H c=none
 pin:∀p∈X.pn++pins,s.heap.get? p.1=some p.2/\H p.1=none/\p.1≠X.env.locals/\p.1∉X.fs/\∀v,p.2.data ≠ .cell v
 hok:HOk X.prog X.w H s.heap
 len:σ.length=X.N.length
section
variable {X:Cx} {pins:List (Addr×Obj)} {σ:List (Option V)} {H H':Hp} {s:Shared} {h':Heap}
theorem Cx.Ok.nofr (ok:X.Ok){b:Addr}{o:Obj}(e:X.base.get? b=some o):b∉X.fs:=fun hb=>by
 have:=(ok.funs.mem hb).1
 rw[e]at this;cases this
theorem Inv.bs (I:Inv X pins σ H s):∀b o,X.base.get? b=some o->s.heap.get? b=some o/\H b=none:=fun b o e=>
 ⟨I.base.keep b o (I.ok.bs b o e).1 (I.ok.bs b o e).2 (I.ok.nofr e) (I.ok.noex b o e),I.base.free b o (I.ok.bs b o e).1 (I.ok.bs b o e).2 (I.ok.noex b o e)⟩
theorem Inv.bk (I:Inv X pins σ H s):∀b o,X.base.get? b=some o->s.heap.get? b=some o:=fun b o e=>(I.bs b o e).1
theorem Inv.mod (I:Inv X pins σ H s):Mod X.K X.mg X.base:=I.ok.mod
theorem Inv.kIn (I:Inv X pins σ H s):X.K.In s.heap:=I.ok.mod.kin.keeps I.bk
theorem Inv.lt (I:Inv X pins σ H s):X.env.locals<s.heap.objs.size:=let ⟨_,hn,_⟩:=I.loc;hn.lt
theorem Inv.sz (I:Inv X pins σ H s):X.s₀.heap.objs.size<=s.heap.objs.size:=Nat.le_trans I.ok.above (Nat.le_of_lt I.lt)
theorem Inv.nofs (I:Inv X pins σ H s){a:Addr}(h:s.heap.objs.size<=a):a∉X.fs:=fun hb=>by
 obtain⟨_,o,ho,_⟩:=I.ok.funs.mem hb
 exact absurd (Nat.lt_of_lt_of_le (Heap.lt_size ho) (Nat.le_trans I.sz h)) (Nat.lt_irrefl _)
theorem Inv.cne (I:Inv X pins σ H s):∀x c,X.env.cells.lookup x=some c->c≠X.env.locals:=fun x c e z=>by
 obtain⟨v,o,ho,hd⟩:=I.cell x c e
 obtain⟨m,⟨o',es,ep,ho',hd',_⟩,_⟩:=I.loc
 rw[z,ho']at ho;cases ho;rw[hd']at hd;cases hd
theorem Inv.funs (I:Inv X pins σ H s):s.heap.FunFrames X.base X.outer:=by
 have all:∀(l:List Env),(∀b∈frs l,b∈X.fs)->X.s₀.heap.FunFrames X.base l->s.heap.FunFrames X.base l:=by
  intro l
  induction l with
  |nil=>intro _ _;trivial
  |cons env r ih=>
   intro hs hl
   obtain⟨hk,⟨L,o,hf,hn,ho,hd⟩,hr⟩:=hl
   have hL:L∈X.fs:=hs L (by unfold frs;rw[List.filterMap_cons,hf];exact List.mem_cons_self)
   obtain⟨sl,e⟩:=I.base.slot L o ho (I.ok.frf L hL) hL fun z=>I.ok.exfs L z hL
   exact⟨hk,⟨L,_,hf,hn,e,hd⟩,ih (fun b hb=>hs b (by unfold frs;rw[List.filterMap_cons,hf];exact List.mem_cons_of_mem _ hb)) hr⟩
 exact all X.outer (fun _ hb=>hb) I.ok.funs
theorem Inv.stack (I:Inv X pins σ H s):s.heap.FunFrames X.base X.stack:=by
 rcases I.ok.stk with e|⟨e,hf⟩
 ·rw[e];exact I.funs
 ·rw[e]
  obtain⟨m,hn,_⟩:=I.loc
  refine .cons (by rw[I.ok.kind];decide) hf hn ?_ I.funs
  exact Heap.get?_none_of_le (Nat.le_trans I.ok.bsz I.ok.above)
theorem Inv.stkSub (I:Inv X pins σ H s):∀b∈frs X.stack,b∈X.env.locals::X.fs:=fun b hb=>by
 rcases I.ok.stk with e|⟨e,hf⟩
 ·rw[e]at hb;exact List.mem_cons_of_mem _ hb
 ·rw[e]at hb
  unfold frs at hb
  rw[List.filterMap_cons,hf]at hb
  exact hb
theorem Inv.stkFree (I:Inv X pins σ H s):∀b∈frs X.stack,H b=none:=fun b hb=>by
 rcases List.mem_cons.mp (I.stkSub b hb) with e|hb
 ·rw[e];exact I.free
 ·obtain⟨_,o,ho,_⟩:=I.ok.funs.mem hb
  exact I.base.free b o ho (I.ok.frf b hb) fun z=>I.ok.exfs b z hb
theorem Inv.step {g':Array GenState}{t':Nat}{d':Drawn}{ch:List Addr}(I:Inv X pins σ H s)
  (hch:∀b∈ch,(b∈X.ex\/X.s₀.heap.objs.size<=b)/\b≠X.env.locals/\(∀x c,X.env.cells.lookup x=some c->c≠b)/\∀p∈X.pn++pins,p.1≠b)
  (keep:∀b o,b≠X.env.locals->b∉X.fs->b∉ch->s.heap.get? b=some o->H b=none->h'.get? b=some o)
  (slot:∀b o,b≠X.env.locals->b∈X.fs->b∉ch->s.heap.get? b=some o->H b=none->∃sl,h'.get? b=some {o with slots:=sl}) (free:∀b o,b∉ch->s.heap.get? b=some o->H b=none->H' b=none)
  (there:∀b o,b∉ch->s.heap.get? b=some o->∃o',h'.get? b=some o')
  (tups:∀b xs,H b=some (.tup xs)->H' b=some (.tup xs)) (frzs:∀b o u,H b=some (.frz o u)->H' b=some (.frz o u)) (tbls:∀b ps,H b=some (.tbl ps)->∃more,H' b=some (.tbl (ps++more)))
  (ns:∀m,s.heap.Ns X.env.locals m->h'.Ns X.env.locals m) (hok:HOk X.prog X.w H' h') (hg:AllBare g'):
  Inv X pins σ H' {s with heap:=h',gens:=g',drawn:=d',toks:=t' }:=by
 have neL:∀b o,X.s₀.heap.get? b=some o->b≠X.env.locals:=fun b o e=>Nat.ne_of_lt (Nat.lt_of_lt_of_le (Heap.lt_size e) I.ok.above)
 have neC:∀b o,X.s₀.heap.get? b=some o->b∉X.ex->b∉ch:=fun b o e hx hb=>by
  rcases (hch b hb).1 with z|z
  ·exact hx z
  ·exact absurd (Nat.lt_of_lt_of_le (Heap.lt_size e) z) (Nat.lt_irrefl _)
 have cellK:∀x c,X.env.cells.lookup x=some c->∀v,s.heap.IsCell c v->h'.IsCell c v:=fun x c e v ⟨o,ho,hd⟩=>by
  have nch:c∉ch:=fun z=>(hch c z).2.2.1 x c e rfl
  by_cases hc:c∈X.fs
  ·obtain⟨sl,q⟩:=slot c o (I.cne x c e) hc nch ho (I.freeC x c e)
   exact⟨_,q,hd⟩
  ·exact⟨o,keep c o (I.cne x c e) hc nch ho (I.freeC x c e),hd⟩
 refine⟨I.ok,I.os,hg,⟨fun b o e n hb hx=>?_,fun b o e n hb hx=>?_,fun b o e n hx=>?_,fun b o e hx=>?_,fun b xs e=>tups b xs (I.base.tups b xs e),fun b o xs e=>frzs b o xs (I.base.frzs b o xs e),fun b ps e=>?_⟩,?_,fun x c e=>?_,?_,fun x c e=>?_,fun p hp=>?_,hok,I.len⟩
 ·exact keep b o (neL b o e) hb (neC b o e hx) (I.base.keep b o e n hb hx) (I.base.free b o e n hx)
 ·obtain⟨sl,e1⟩:=I.base.slot b o e n hb hx
  obtain⟨sl',e2⟩:=slot b _ (neL b o e) hb (neC b o e hx) e1 (I.base.free b o e n hx)
  exact⟨sl',e2⟩
 ·obtain⟨o',e1⟩:=I.base.there b o e hx
  exact free b o' (neC b o e hx) e1 (I.base.free b o e n hx)
 ·obtain⟨o',e1⟩:=I.base.there b o e hx
  exact there b o' (neC b o e hx) e1
 ·obtain⟨m1,e1⟩:=I.base.tbls b ps e
  obtain⟨m2,e2⟩:=tbls b _ e1
  exact⟨m1++m2,by rw[e2,Array.append_assoc]⟩
 ·obtain⟨m,hn,hl⟩:=I.loc
  refine⟨m,ns m hn,fun i x v e1 e2 e3=>?_⟩
  obtain⟨u,r,l⟩:=hl i x v e1 e2 e3
  refine⟨u,r,?_⟩
  rcases l with l|⟨k,c,e,z⟩
  ·exact .inl l
  ·exact .inr ⟨k,c,e,cellK x c e _ z⟩
 ·obtain⟨v,z⟩:=I.cell x c e
  exact⟨v,cellK x c e v z⟩
 ·obtain⟨m,⟨o,_,_,ho,_⟩,_⟩:=I.loc
  exact free _ o (fun z=>(hch _ z).2.1 rfl) ho I.free
 ·obtain⟨v,o,ho,hd⟩:=I.cell x c e
  exact free c o (fun z=>(hch c z).2.2.1 x c e rfl) ho (I.freeC x c e)
 ·obtain⟨e,n,ne,nf,d⟩:=I.pin p hp
  have nch:p.1∉ch:=fun z=>(hch p.1 z).2.2.2 p hp rfl
  exact⟨keep p.1 p.2 ne nf nch e n,free p.1 p.2 nch e n,ne,nf,d⟩
theorem Inv.un {t':Nat}(I:Inv X pins σ H s)(u:Un X.fs [] H H' s.heap h')(hok:HOk X.prog X.w H' h'):Inv X pins σ H' {s with heap:=h',toks:=t' }:=by
 obtain⟨m,⟨o,es,ep,ho,r⟩,_⟩:=id I.loc
 obtain⟨sl,hL⟩:=u.any ho I.free (by simp)
 exact I.step (g':=s.gens) (d':=s.drawn) (ch:=[]) (fun _ z=>nomatch z) (fun b o _ hb _ e n=>u.keep b o e n hb (by simp)) (fun b o _ hb _ e n=>u.slot b o e n hb (by simp)) (fun b o _ e n=>u.free b o e n (by simp)) (fun b o _ e=>u.there b o e (by simp)) u.tups u.frzs u.tbls (fun m' hm=>by
  obtain⟨o',es',ep',ho',r'⟩:=hm
  rw[ho]at ho';cases ho'
  exact⟨_,es',ep',hL,r'⟩) hok I.bare
theorem Inv.call {g':Array GenState}{t':Nat}{d':Drawn}{ch:List Addr}(I:Inv X pins σ H s)(u:Un (frs X.stack) ch H H' s.heap h')(hok:HOk X.prog X.w H' h')(hg:AllBare g')
  (hch:∀b∈ch,(b∈X.ex\/X.s₀.heap.objs.size<=b)/\b≠X.env.locals/\(∀x c,X.env.cells.lookup x=some c->c≠b)/\∀p∈X.pn++pins,p.1≠b):
  Inv X pins σ H' {s with heap:=h',gens:=g',drawn:=d',toks:=t' }:=by
 obtain⟨m,⟨o,es,ep,ho,r⟩,_⟩:=id I.loc
 obtain⟨sl,hL⟩:=u.any ho I.free fun z=>(hch _ z).2.1 rfl
 exact I.step (ch:=ch) hch (fun b o hL hb hc e n=>u.keep b o e n (fun z=>(List.mem_cons.mp (I.stkSub b z)).elim hL hb) hc) (fun b o _ _ hc e n=>u.any e n hc) (fun b o hc e n=>u.free b o e n hc) (fun b o hc e=>u.there b o e hc) u.tups u.frzs u.tbls (fun m' hm=>by
  obtain⟨o',es',ep',ho',r'⟩:=hm
  rw[ho]at ho';cases ho'
  exact⟨_,es',ep',hL,r'⟩) hok hg
theorem Inv.turned {t':Nat}{it:Addr}(I:Inv X pins σ H s)(k:∀b o,b≠it->s.heap.get? b=some o->h'.get? b=some o)(hn:H it=none)(hL:it≠X.env.locals)
  (h1:it∈X.ex\/X.s₀.heap.objs.size<=it) (h2:∀x c,X.env.cells.lookup x=some c->c≠it) (h3:∀p∈X.pn++pins,p.1≠it):Inv X pins σ H {s with heap:=h',toks:=t' }:=by
 have nit:∀b u,H b=some u->b≠it:=fun b u e z=>by rw[z,hn]at e;cases e
 refine I.step (g':=s.gens) (d':=s.drawn) (ch:=[it]) (fun b hb=>?_) (fun b o _ _ hc e _=>k b o (fun z=>hc (by simp[z])) e) (fun b o _ _ hc e _=>⟨o.slots,k b o (fun z=>hc (by simp[z])) e⟩) (fun _ _ _ _ n=>n)
  (fun b o hc e=>⟨o,k b o (fun z=>hc (by simp[z])) e⟩) (fun _ _ e=>e) (fun _ _ _ e=>e) (fun b ps e=>⟨#[],by rw[e];simp⟩) (fun m hm=>?_) (fun b u e=>?_) I.bare
 ·have e:b=it:=by simpa using hb
  subst e
  exact⟨h1,hL,h2,h3⟩
 ·obtain⟨o,es,ep,ho,r⟩:=hm
  exact⟨o,es,ep,k _ o (Ne.symm hL) ho,r⟩
 ·refine (I.hok b u e).stay (fun c v hc q=>k c v ?_ q) (fun _ q=>q) fun _ _ q=>q
  rcases hc with z|z
  ·rw[z];exact nit b u e
  ·exact nit c _ z
theorem Inv.tok (I:Inv X pins σ H s)(t:Nat):Inv X pins σ H {s with toks:=t}:=I.un (h':=s.heap) (t':=t) Un.refl I.hok
theorem Inv.kept {t':Nat}(I:Inv X pins σ H s)(k:∀b u,s.heap.get? b=some u->h'.get? b=some u):Inv X pins σ H {s with heap:=h',toks:=t' }:=I.un (Un.kept k) (I.hok.kept k)
theorem Inv.laid {a:Addr}{o:HO}{t':Nat}(I:Inv X pins σ H s)(k:∀b u,s.heap.get? b=some u->h'.get? b=some u)(hp:s.heap.objs.size<=a)(new:Bq X.prog X.w (upd H a o) h' a o):
  Inv X pins σ (upd H a o) {s with heap:=h',toks:=t' }:=I.un (Un.laid k hp (I.hok.fresh hp)) (I.hok.laid k hp new)
theorem Inv.write {x e:Addr}{o:HO}{t':Nat}(I:Inv X pins σ H s)(mu:Mut (H x))(he:e=x\/H e=some (.own x))(k:∀b u,b≠e->s.heap.get? b=some u->h'.get? b=some u)(heo:∃u,h'.get? e=some u)
  (new:Bq X.prog X.w (upd H x o) h' x o):Inv X pins σ (upd H x o) {s with heap:=h',toks:=t' }:=I.un (Un.write mu he k heo) (I.hok.write mu he k heo new)
theorem Inv.pins_of {pins':List (Addr×Obj)}(I:Inv X pins σ H s)(h:∀p∈pins',s.heap.get? p.1=some p.2/\H p.1=none/\p.1≠X.env.locals/\p.1∉X.fs/\∀v,p.2.data ≠ .cell v):Inv X pins' σ H s:=
 ⟨I.ok,I.os,I.bare,I.base,I.loc,I.cell,I.free,I.freeC,fun p hp=>(List.mem_append.mp hp).elim (fun z=>I.pin p (List.mem_append_left _ z)) (h p),I.hok,I.len⟩
theorem VD {N:List Str}(hN:N.Nodup){i j:Nat}{x:Str}(a:N[i]?=some x)(b:N[j]?=some x):i=j:=by
 obtain⟨h1,e1⟩:=List.getElem?_eq_some_iff.mp a
 obtain⟨h2,e2⟩:=List.getElem?_eq_some_iff.mp b
 exact (List.getElem_inj hN).mp (e1.trans e2.symm)
theorem SJ {M:Model}{A:Around}{E:Value->Shared->Prop}{i:Nat}{x:Str}{v:V}{u:Value}{Q:Unit->Shared->Prop}(I:Inv X pins σ H s)(hN:X.N.Nodup)(hi:X.N[i]?=some x)(hx:Loc X.env.scope x)(r:RelV v u)
  (h:∀s',Inv X pins (σ.set i (some v)) H s'->(∃a,Heap.SameBut a s.heap s'.heap/\(a=X.env.locals\/X.env.cells.lookup x=some a))->Q () s') (hf:X.fn x=true\/X.env.scope.names.lookup x=some .local:=by first|exact .inl rfl|exact .inr rfl|assumption):wpAny M A (storeName X.env x u) Q E s:=by
 obtain⟨m,hn,hl⟩:=id I.loc
 have hcls:(X.env.scope.kind == .class||(X.env.scope.kind == .module&&X.env.locals != X.env.globals))=false:=by rw[I.ok.kind];rfl
 have hiσ:i<σ.length:=by rw[I.len];exact (List.getElem?_eq_some_iff.mp hi).1
 have cne:=I.cne
 have tracked:∀{a:Addr} {h':Heap},(∃o,s.heap.get? a=some o/\H a=none)->Heap.SameBut a s.heap h'->HOk X.prog X.w H h':=fun {a h'} ha hs b ob e=>by
  obtain⟨_,_,hfree⟩:=ha
  refine (I.hok b ob e).stay (fun c w' hc q=>(hs.2 c ?_).trans q) (fun _ q=>q) fun _ _ q=>q
  rintro rfl
  rcases hc with rfl|hc
  ·rw[hfree]at e;cases e
  ·rw[hfree]at hc;cases hc
 rcases hx with hk|hk
 ·refine wpAny_storeName_local hk hn (fun h' hn' hs=>?_) hcls
  obtain⟨oL,_,_,hoL,_⟩:=id hn
  refine h _ ⟨I.ok,I.os,I.bare,⟨fun b o e n hb hx=>?_,fun b o e n hb hx=>?_,I.base.free,fun b o e hx=>?_,I.base.tups,I.base.frzs,I.base.tbls⟩,⟨_,hn',fun j y v' e1 e2 e3=>?_⟩,fun y c e=>?_,I.free,I.freeC,fun p hp=>?_,tracked ⟨oL,hoL,I.free⟩ hs,by simpa using I.len⟩ ⟨_,hs,.inl rfl⟩
  ·exact (hs.2 b (Nat.ne_of_lt (Nat.lt_of_lt_of_le (Heap.lt_size e) I.ok.above))).trans (I.base.keep b o e n hb hx)
  ·obtain⟨sl,e1⟩:=I.base.slot b o e n hb hx
   exact⟨sl,(hs.2 b (Nat.ne_of_lt (Nat.lt_of_lt_of_le (Heap.lt_size e) I.ok.above))).trans e1⟩
  ·obtain⟨o',e1⟩:=I.base.there b o e hx
   exact⟨o',(hs.2 b (Nat.ne_of_lt (Nat.lt_of_lt_of_le (Heap.lt_size e) I.ok.above))).trans e1⟩
  ·by_cases hj:j=i
   ·subst hj
    rw[hi]at e1;cases e1
    rw[List.getElem?_set_self hiσ]at e2
    cases e2
    exact⟨u,r,.inl ⟨hk,by simp⟩⟩
   ·rw[List.getElem?_set_ne (Ne.symm hj)]at e2
    obtain⟨u',r',q⟩:=hl j y v' e1 e2 e3
    refine⟨u',r',?_⟩
    rcases q with ⟨k,e⟩|⟨k,c,e,z⟩
    ·refine .inl ⟨k,?_⟩
     have:y≠x:=fun e=>hj (VD hN e1 (e ▸ hi))
     simp[this,e]
    ·exact .inr ⟨k,c,e,z.sameBut hs (cne y c e)⟩
  ·obtain⟨w',z⟩:=I.cell y c e
   exact⟨w',z.sameBut hs (cne y c e)⟩
  ·obtain⟨e,n,ne,nf,d⟩:=I.pin p hp
   exact⟨(hs.2 p.1 ne).trans e,n,ne,nf,d⟩
 ·have hfn:X.fn x=true:=by
   rcases hf with z|z
   ·exact z
   ·rw[z]at hk;cases hk
  obtain⟨c,hc⟩:=I.ok.has x (.inl hk)
  obtain⟨w',z⟩:=I.cell x c hc
  refine wpAny_storeName_cell I.ok.kind hk hc z (fun h' hc' hs=>?_)
  obtain⟨oc,hoc,hocd⟩:=id z
  refine h {s with heap:=h' } ⟨I.ok,I.os,I.bare,⟨fun b o e n hb hx=>?_,fun b o e n hb hx=>?_,I.base.free,fun b o e hx=>?_,I.base.tups,I.base.frzs,I.base.tbls⟩,⟨m,hn.sameBut hs (Ne.symm (cne x c hc)),fun j y v' e1 e2 e3=>?_⟩,fun y c' e=>?_,I.free,I.freeC,fun p hp=>?_,tracked ⟨oc,hoc,I.freeC x c hc⟩ hs,by simpa using I.len⟩ ⟨c,hs,.inr hc⟩
  ·exact (hs.2 b (Nat.ne_of_lt (Nat.lt_of_lt_of_le (Heap.lt_size e) (I.ok.cab x c hfn hc)))).trans (I.base.keep b o e n hb hx)
  ·obtain⟨sl,e1⟩:=I.base.slot b o e n hb hx
   exact⟨sl,(hs.2 b (Nat.ne_of_lt (Nat.lt_of_lt_of_le (Heap.lt_size e) (I.ok.cab x c hfn hc)))).trans e1⟩
  ·obtain⟨o',e1⟩:=I.base.there b o e hx
   exact⟨o',(hs.2 b (Nat.ne_of_lt (Nat.lt_of_lt_of_le (Heap.lt_size e) (I.ok.cab x c hfn hc)))).trans e1⟩
  ·by_cases hj:j=i
   ·subst hj
    rw[hi]at e1;cases e1
    rw[List.getElem?_set_self hiσ]at e2
    cases e2
    exact⟨u,r,.inr ⟨.inl hk,c,hc,hc'⟩⟩
   ·rw[List.getElem?_set_ne (Ne.symm hj)]at e2
    obtain⟨u',r',q⟩:=hl j y v' e1 e2 e3
    refine⟨u',r',?_⟩
    rcases q with q|⟨k,c',e,z'⟩
    ·exact .inl q
    ·refine .inr ⟨k,c',e,z'.sameBut hs ?_⟩
     rintro rfl
     exact hj (VD hN e1 (I.ok.inj _ _ _ e hc ▸ hi))
  ·by_cases hcc:c'=c
   ·subst hcc;exact⟨_,hc'⟩
   ·obtain⟨w2,z2⟩:=I.cell y c' e
    exact⟨w2,z2.sameBut hs hcc⟩
  ·obtain⟨e,n,ne,nf,d⟩:=I.pin p hp
   refine⟨(hs.2 p.1 ?_).trans e,n,ne,nf,d⟩
   intro q
   rw[q,hoc]at e
   have q':oc=p.2:=Option.some.inj e
   exact d w' (by rw[<-q'];exact hocd)
theorem PN {M:Model}{A:Around}{E:Value->Shared->Prop}{i:Nat}{x:Str}{v:V}{u:Value}{Q:Unit->Shared->Prop}(I:Inv X pins σ H s)(hN:X.N.Nodup)(hi:X.N[i]?=some x)(hx:Loc X.env.scope x)(r:RelV v u)
  (h:∀s',Inv X pins (σ.set i (some v)) H s'->Q () s') (hf:X.fn x=true\/X.env.scope.names.lookup x=some .local:=by first|exact .inl rfl|exact .inr rfl|assumption):wpAny M A (storeName X.env x u) Q E s:=
 SJ I hN hi hx r (fun s' I' _=>h s' I') hf
theorem Inv.call' {s':Shared}{ch:List Addr}(I:Inv X pins σ H s)(ho:s'.os=s.os)(u:Un (frs X.stack) ch H H' s.heap s'.heap)(hok:HOk X.prog X.w H' s'.heap)(hg:AllBare s'.gens)
  (hch:∀b∈ch,(b∈X.ex\/X.s₀.heap.objs.size<=b)/\b≠X.env.locals/\(∀x c,X.env.cells.lookup x=some c->c≠b)/\∀p∈X.pn++pins,p.1≠b):Inv X pins σ H' s':=by
 obtain⟨h',g',d',t',o'⟩:=s'
 have e:o'=s.os:=ho
 subst e
 exact I.call (g':=g') (t':=t') (d':=d') u hok hg hch
end
abbrev XK:=Value->Option Addr->Hp->Prop
abbrev St:=List (Option V)
abbrev VK:=V->Hp->Prop
abbrev TE:=St->Hp->VK->Prop
abbrev TT:=St->Hp->(Bool->Hp->Prop)->Prop
abbrev TA:=St->Hp->(List V->Hp->Prop)->Prop
structure Ends where
 nx:St->Hp->Prop
 rt:VK
 bk:St->Hp->Prop:=fun _ _=>False
 ct:St->Hp->Prop:=fun _ _=>False
abbrev TS:=Ends->St->Hp->Prop
def EP (X:Cx)(pins:List (Addr×Obj))(σ:St)(Q:VK)(u:Value)(s':Shared):Prop:=∃v H',Inv X pins σ H' s'/\RelV v u/\Q v H'
def TP (X:Cx)(pins:List (Addr×Obj))(σ:St)(Q:Bool->Hp->Prop)(b:Bool)(s':Shared):Prop:=∃H',Inv X pins σ H' s'/\Q b H'
def AP (X:Cx)(pins:List (Addr×Obj))(σ:St)(Q:List V->Hp->Prop)(us:List Value)(s':Shared):Prop:=∃vs H',Inv X pins σ H' s'/\Vals vs us/\Q vs H'
def SP (X:Cx)(pins:List (Addr×Obj))(D:Ends)(f:Flow)(s':Shared):Prop:=
 match f with
 |.next=>∃σ' H',Inv X pins σ' H' s'/\D.nx σ' H'
 |.brk=>∃σ' H',Inv X pins σ' H' s'/\D.bk σ' H'
 |.cont=>∃σ' H',Inv X pins σ' H' s'/\D.ct σ' H'
 |.ret u=>∃v σ' H',Inv X pins σ' H' s'/\RelV v u/\D.rt v H'
def PE (X:Cx)(e:Expr)(t:TE):Prop:=
 ∀(pins:List (Addr×Obj)) (s:Shared) (σ:St) (H:Hp) (Q:VK),Inv X pins σ H s->t σ H Q->wpAny (model X.prog X.w) X.A (eval e X.env) (EP X pins σ Q) X.xe s
def PT (X:Cx)(e:Expr)(t:TT):Prop:=
 ∀(pins:List (Addr×Obj)) (s:Shared) (σ:St) (H:Hp) (Q:Bool->Hp->Prop),Inv X pins σ H s->t σ H Q->wpAny (model X.prog X.w) X.A (isTrue e X.env (eval e X.env)) (TP X pins σ Q) X.xe s
def PW (X:Cx)(e:Expr)(t:TT):Prop:=
 ∀(whole:Sem Value) (pins:List (Addr×Obj)) (s:Shared) (σ:St) (H:Hp) (Q:Bool->Hp->Prop),Inv X pins σ H s->t σ H Q->wpAny (model X.prog X.w) X.A (isTrue e X.env whole) (TP X pins σ Q) X.xe s
theorem PW.pt {X:Cx}{e:Expr}{t:TT}(h:PW X e t):PT X e t:=h _
def PA (X:Cx)(es:List Expr)(t:TA):Prop:=
 ∀(pos:Pos) (pins:List (Addr×Obj)) (s:Shared) (σ:St) (H:Hp) (Q:List V->Hp->Prop),Inv X pins σ H s->t σ H Q->wpAny (model X.prog X.w) X.A (spliced (backTo pos (starEach es X.env))) (AP X pins σ Q) X.xe s
def PS (X:Cx)(st:Stmt)(t:TS):Prop:=
 ∀(pins:List (Addr×Obj)) (s:Shared) (σ:St) (H:Hp) (D:Ends),Inv X pins σ H s->t D σ H->wpAny (model X.prog X.w) X.A (exec st X.env) (SP X pins D) X.xe s
def PSs (X:Cx)(st:List Stmt)(t:TS):Prop:=
 ∀(pins:List (Addr×Obj)) (s:Shared) (σ:St) (H:Hp) (D:Ends),Inv X pins σ H s->t D σ H->wpAny (model X.prog X.w) X.A (execs st X.env) (SP X pins D) X.xe s
theorem thn {α:Type}{t:Sem α}{Q Q':α->Shared->Prop}{M:Model}{A:Around}{E:Value->Shared->Prop}{s:Shared}(h:wpAny M A t Q E s)(hQ:∀a s,Q a s->Q' a s):wpAny M A t Q' E s:=wpAny_mono h hQ fun _ _ x=>x
end L2
namespace L2
open PySem PySem.Spec PyProof.Rows
section
variable {X:Cx}
def tVar (i:Nat):TE:=fun σ H Q=>∃v,σ[i]?=some (some v)/\Q v H
def tC (v:V):TE:=fun _ H Q=>Q v H
theorem CD_ {i:Nat}{x:Str}{pos:Pos}(hN:X.N[i]?=some x)(hv:Vis X.env.scope x)(hd:(x==("__debug__" : Str))=false:=by decide)(hcd:(x==("__classdict__" : Str))=false:=by decide):PE X (.Name x pos) (tVar i):=by
 intro pins s σ H Q I h
 obtain⟨v,e,h⟩:=h
 obtain⟨m,hn,hl⟩:=I.loc
 obtain⟨u,r,l⟩:=hl i x v hN e hv
 have fin:EP X pins σ Q u s:=⟨v,H,I,r,h⟩
 rcases l with ⟨hk,hm⟩|⟨hk,c,hc,hcell⟩
 ·exact wpAny_Name (wpAny_loadName_local I.ok.kind hk hn hm fin) hd
 ·rcases hk with hk|hk
  ·exact wpAny_Name (wpAny_loadName_cell I.ok.kind hk hc hcell fin) hd
  ·exact wpAny_Name (wpAny_loadName_free I.ok.kind hk hc hcell fin hcd) hd
theorem Af {i j pos}:PE X (.Constant (.int i) j pos) (tC (.int i)):=fun _ _ _ H _ I h=>wpAny_Constant_int ⟨.int i,H,I.tok _,⟨_,rfl⟩,h⟩
theorem EX {b j pos}:PE X (.Constant (.bool b) j pos) (tC (.bl b)):=fun _ _ _ H _ I h=>Constant_bool ⟨.bl b,H,I,rfl,h⟩
theorem SK {j pos}:PE X (.Constant .none j pos) (tC .non):=fun _ _ _ H _ I h=>Constant_none ⟨.non,H,I,rfl,h⟩
theorem AJ_ {x j pos}:PE X (.Constant (.str x) j pos) (tC (.str x)):=fun _ _ _ H _ I h=>Calls.Constant_str ⟨.str x,H,I.tok _,⟨_,rfl⟩,h⟩
def Gl (X:Cx)(x:Str):Prop:=X.env.kindOf x=some .globalImplicit
theorem XQ {E:Value->Shared->Prop}{pins:List (Addr×Obj)}{s:Shared}{σ:St}{H:Hp}{x:Str}{u:Value}{pos:Pos}{Q:Value->Shared->Prop}(I:Inv X pins σ H s)(hg:Gl X x)(hm:X.mg x=some u)(h:Q u s)
  (hd:(x==("__debug__" : Str))=false:=by decide):wpAny (model X.prog X.w) X.A (eval (.Name x pos) X.env) Q E s:=
 Calls.Name_function_global I.ok.kind hg (Calls.loadGlobal_global (by rw[I.ok.glob];exact I.mod.glob.keeps I.bk) hm h) hd
theorem LN {E:Value->Shared->Prop}{pins:List (Addr×Obj)}{s:Shared}{σ:St}{H:Hp}{x:Str}{u:Value}{pos:Pos}{Q:Value->Shared->Prop}(I:Inv X pins σ H s)(hg:Gl X x)(hm:X.mg x=none)(hv:bootBuiltins x=some u)(h:Q u s)
  (hn:x ≠ "__name__" := by decide) (hd:(x==("__debug__" : Str))=false:=by decide):wpAny (model X.prog X.w) X.A (eval (.Name x pos) X.env) Q E s:=by
 obtain⟨mb,h1,h2⟩:=I.mod.blt
 exact Calls.Name_function_global I.ok.kind hg (Calls.loadGlobal_builtin (by rw[I.ok.glob];exact I.mod.glob.keeps I.bk) hm (by rw[I.ok.blt];exact h1.keeps I.bk) ((h2 x hn).trans hv) h) hd
theorem GL {x:Str}{v:V}{u:Value}{pos:Pos}(hg:Gl X x)(hm:X.mg x=none)(hv:bootBuiltins x=some u)(r:RelV v u)(hn:x ≠ "__name__" := by decide)(hd:(x==("__debug__" : Str))=false:=by decide):PE X (.Name x pos) (tC v):=
 fun _ _ _ H _ I h=>LN I hg hm hv ⟨v,H,I,r,h⟩ hn hd
variable {a b:Expr} {ta tb:TE} {pos:Pos}
def tB (t:TE):TT:=fun σ H Q=>t σ H fun x H1=>∃c,x=.bl c/\Q c H1
theorem DL {e:Expr}{t:TE}(h:PE X e t)(he:∀whole,isTrue e X.env whole=(do let v <- whole;standAt e.pos;holding [v] (truthy v)):=by intro _;rfl):PT X e (tB t):=by
 intro pins s σ H Q I hw
 refine isTrue_plain (thn (h pins s σ H _ I hw) fun v s1 ⟨x,H1,I1,r1,q1⟩=>?_) (he _)
 obtain⟨d,rfl,q⟩:=q1
 cases r1
 exact wpAny_truthy_bool ⟨H1,I1,q⟩
variable {tA tB':TT} {rest:List Expr}
def tAnd (t u:TT):TT:=fun σ H Q=>t σ H fun c H1=>if c=true then u σ H1 Q else Q false H1
def tOr (t u:TT):TT:=fun σ H Q=>t σ H fun c H1=>if c=true then Q true H1 else u σ H1 Q
def tNot (t:TT):TT:=fun σ H Q=>t σ H fun c H1=>Q (!c) H1
theorem UG (ha:PT X a tA):PW X (.BoolOp .And [a] pos) tA:=by
 intro wh pins s σ H Q I h
 refine isTrue_and (thn (ha pins s σ H Q I h) fun c s1 e=>?_)
 cases c with
 |true=>exact isTrue_and_nil e
 |false=>exact e
theorem HE (ha:PT X a tA):PW X (.BoolOp .Or [a] pos) tA:=by
 intro wh pins s σ H Q I h
 refine isTrue_or (thn (ha pins s σ H Q I h) fun c s1 e=>?_)
 cases c with
 |false=>exact isTrue_or_nil e
 |true=>exact e
theorem XR (ha:PT X a tA)(hb:PW X (.BoolOp .And (b::rest) pos) tB'):PW X (.BoolOp .And (a::b::rest) pos) (tAnd tA tB'):=by
 intro wh pins s σ H Q I h
 refine isTrue_and (thn (ha pins s σ H _ I h) fun c s1 ⟨H1,I1,q1⟩=>?_)
 cases c with
 |true=>exact hb wh pins s1 σ H1 Q I1 q1
 |false=>exact⟨H1,I1,q1⟩
theorem Jo (ha:PT X a tA)(hb:PW X (.BoolOp .Or (b::rest) pos) tB'):PW X (.BoolOp .Or (a::b::rest) pos) (tOr tA tB'):=by
 intro wh pins s σ H Q I h
 refine isTrue_or (thn (ha pins s σ H _ I h) fun c s1 ⟨H1,I1,q1⟩=>?_)
 cases c with
 |true=>exact⟨H1,I1,q1⟩
 |false=>exact hb wh pins s1 σ H1 Q I1 q1
theorem EY (ha:PT X a tA):PT X (.UnaryOp .Not a pos) (tNot tA):=by
 intro pins s σ H Q I h
 exact isTrue_not (ha pins s σ H (fun c H1=>Q (!c) H1) I h)
def CE_ (ta tb:TE):TE:=fun σ H Q=>ta σ H fun x H1=>∃c,x=.bl c/\if c=true then tb σ H1 Q else Q (.bl false) H1
def tOrV (ta tb:TE):TE:=fun σ H Q=>ta σ H fun x H1=>∃c,x=.bl c/\if c=true then Q (.bl true) H1 else tb σ H1 Q
def CF_ (ta:TE):TE:=fun σ H Q=>ta σ H fun x H1=>∃c,x=.bl c/\Q (.bl (!c)) H1
theorem XS {op}{t:TE}(h:PE X a t):PE X (.BoolOp op [a] pos) t:=fun pins s σ H Q I hw=>BoolOp_one (h pins s σ H Q I hw)
theorem AK_ (ha:PE X a ta)(hb:PE X (.BoolOp .And (b::rest) pos) tb):PE X (.BoolOp .And (a::b::rest) pos) (CE_ ta tb):=by
 intro pins s σ H Q I h
 refine BoolOp_and (thn (ha pins s σ H _ I h) fun v s1 ⟨x,H1,I1,r1,q1⟩=>?_)
 obtain⟨c,rfl,q1⟩:=q1
 cases r1
 refine wpAny_truthy_bool ?_
 cases c with
 |true=>exact hb pins s1 σ H1 Q I1 q1
 |false=>exact⟨.bl false,H1,I1,rfl,q1⟩
theorem El_ (ha:PE X a ta)(hb:PE X (.BoolOp .Or (b::rest) pos) tb):PE X (.BoolOp .Or (a::b::rest) pos) (tOrV ta tb):=by
 intro pins s σ H Q I h
 refine BoolOp_or (thn (ha pins s σ H _ I h) fun v s1 ⟨x,H1,I1,r1,q1⟩=>?_)
 obtain⟨c,rfl,q1⟩:=q1
 cases r1
 refine wpAny_truthy_bool ?_
 cases c with
 |false=>exact hb pins s1 σ H1 Q I1 q1
 |true=>exact⟨.bl true,H1,I1,rfl,q1⟩
theorem CG_ (ha:PE X a ta):PE X (.UnaryOp .Not a pos) (CF_ ta):=by
 intro pins s σ H Q I h
 refine UnaryOp_ (thn (ha pins s σ H _ I h) fun v s1 ⟨x,H1,I1,r1,q1⟩=>?_)
 obtain⟨c,rfl,q1⟩:=q1
 cases r1
 exact not_of (wpAny_truthy_bool ⟨.bl (!c),H1,I1,rfl,q1⟩)
def tIf (t:TT)(ta tb:TE):TE:=fun σ H Q=>t σ H fun c H1=>if c=true then ta σ H1 Q else tb σ H1 Q
theorem VE {c:Expr}(hc:PT X c tA)(ha:PE X a ta)(hb:PE X b tb):PE X (.IfExp c a b pos) (tIf tA ta tb):=by
 intro pins s σ H Q I h
 refine wpAny_IfExp (thn (hc pins s σ H _ I h) fun d s1 ⟨H1,I1,q1⟩=>?_)
 cases d with
 |true=>exact ha pins s1 σ H1 Q I1 q1
 |false=>exact hb pins s1 σ H1 Q I1 q1
end
end L2
namespace L2
open PySem PySem.Spec PyProof.Rows
def SqL (K:PySem.W.Frag)(H:Hp)(a:Addr)(xs:List V):Prop:=
 Rd H a (.lst xs) \/
  ∃(o:Obj) (its:Array Value) (n:Nat),K.lookup a=some o/\o.cls=.type "list" /\ o.dict=none/\o.data=.seq its n/\its.size<=sizeLine/\Vals xs its.toList
def SqT (K:PySem.W.Frag)(H:Hp)(a:Addr)(xs:List V):Prop:=
 Rd H a (.tup xs) \/
  ∃(o:Obj) (its:Array Value) (n:Nat),K.lookup a=some o/\o.cls=.type "tuple" /\ o.data=.seq its n/\its.size<=sizeLine/\Vals xs its.toList
def absV:Value->Option V
 |.none=>some .non
 |.bool b=>some (.bl b)
 |.int i _=>some (.int i)
 |.str x _=>some (.str x)
 |.bytes b _=>some (.byt b)
 |.float b _=>some (.flt b)
 |.ref a=>some (.ref a)
 |.type n=>some (.ty n)
 |_=>none
theorem RelV.abs {x:V}{u:Value}(r:RelV x u):absV u=some x:=by
 cases x with
 |non=>cases r;rfl
 |bl _=>cases r;rfl
 |int _=>obtain⟨t,rfl⟩:=r;rfl
 |str _=>obtain⟨t,rfl⟩:=r;rfl
 |byt _=>obtain⟨t,rfl⟩:=r;rfl
 |flt _=>obtain⟨t,rfl⟩:=r;rfl
 |ref _=>cases r;rfl
 |ty _=>cases r;rfl
theorem RelV.inj {x y:V}{u:Value}(r:RelV x u)(q:RelV y u):x=y:=Option.some.inj (r.abs.symm.trans q.abs)
theorem Vals.inj:∀{xs ys:List V} {us:List Value},Vals xs us->Vals ys us->xs=ys
 |_,_,_,.nil,.nil=>rfl
 |_,_,_,.cons r t,.cons r' t'=>by rw[r.inj r',Vals.inj t t']
section
variable {X:Cx} {pins:List (Addr×Obj)} {σ:St} {H:Hp} {s:Shared} {a:Addr} {xs ys:List V}
theorem SqL.of {K:PySem.W.Frag}(h:H a=some (.lst xs)):SqL K H a xs:=.inl (.inl h)
theorem SqT.of {K:PySem.W.Frag}(h:H a=some (.tup xs)):SqT K H a xs:=.inl (.inl h)
theorem Inv.list (I:Inv X pins σ H s)(h:SqL X.K H a xs):∃its:List Value,Vals xs its/\PlainL s.heap a its.toArray/\xs.length<=sizeLine:=by
 rcases h with h|⟨o,its,n,hk,hc,hd,hs,hz,r⟩
 ·obtain⟨z,its,n,r,e⟩:=h.ok I.hok
  exact⟨its,r,⟨_,n,e,rfl,rfl,rfl⟩,z⟩
 ·refine⟨its.toList,r,⟨o,n,I.kIn a o hk,hc,hd,by simpa using hs⟩,?_⟩
  have e:=r.length
  simp only[Array.length_toList]at e
  omega
theorem Inv.tuple (I:Inv X pins σ H s)(h:SqT X.K H a xs):∃its:List Value,Vals xs its/\IsTup s.heap a its.toArray/\xs.length<=sizeLine:=by
 rcases h with h|⟨o,its,n,hk,hc,hs,hz,r⟩
 ·obtain⟨z,its,r,p⟩:=h.ok I.hok
  exact⟨its,r,p,z⟩
 ·refine⟨its.toList,r,⟨o,I.kIn a o hk,hc,n,by simpa using hs⟩,?_⟩
  have e:=r.length
  simp only[Array.length_toList]at e
  omega
theorem Inv.list_inj (I:Inv X pins σ H s)(h:SqL X.K H a xs)(h':SqL X.K H a ys):xs=ys:=by
 obtain⟨its,r,⟨o,n,e,_,_,d⟩,_⟩:=I.list h
 obtain⟨its',r',⟨o',n',e',_,_,d'⟩,_⟩:=I.list h'
 rw[e]at e';cases e'
 rw[d]at d'
 injection d' with d1 _
 have:its=its':=by simpa using congrArg Array.toList d1
 subst this
 exact r.inj r'
theorem Inv.tuple_inj (I:Inv X pins σ H s)(h:SqT X.K H a xs)(h':SqT X.K H a ys):xs=ys:=by
 obtain⟨its,r,⟨o,e,_,n,d⟩,_⟩:=I.tuple h
 obtain⟨its',r',⟨o',e',_,n',d'⟩,_⟩:=I.tuple h'
 rw[e]at e';cases e'
 rw[d]at d'
 injection d' with d1 _
 have:its=its':=by simpa using congrArg Array.toList d1
 subst this
 exact r.inj r'
end
abbrev Cx.wish (X:Cx)(E:Value->Shared->Prop):Cx:={X with xe:=E}
abbrev Cx.nox (X:Cx):Cx:=X.wish fun _ _=>False
theorem Cx.Ok.wish {X:Cx}(ok:X.Ok)(E:Value->Shared->Prop):(X.wish E).Ok:=
 ⟨ok.mod,ok.kind,ok.glob,ok.blt,ok.above,ok.inj,ok.has,ok.cab,ok.hd,ok.frames,ok.stk,ok.exf,ok.bs,ok.bsz,ok.noex,ok.exfs,ok.funs,ok.frf⟩
theorem Cx.Ok.unwish {X:Cx}{E:Value->Shared->Prop}(ok:(X.wish E).Ok):X.Ok:=
 ⟨ok.mod,ok.kind,ok.glob,ok.blt,ok.above,ok.inj,ok.has,ok.cab,ok.hd,ok.frames,ok.stk,ok.exf,ok.bs,ok.bsz,ok.noex,ok.exfs,ok.funs,ok.frf⟩
section
variable {X:Cx} {pins:List (Addr×Obj)} {σ:St} {H:Hp} {s:Shared} {E:Value->Shared->Prop}
theorem Inv.wish (I:Inv X pins σ H s)(E:Value->Shared->Prop):Inv (X.wish E) pins σ H s:=⟨I.ok.wish E,I.os,I.bare,I.base,I.loc,I.cell,I.free,I.freeC,I.pin,I.hok,I.len⟩
theorem Inv.unwish (I:Inv (X.wish E) pins σ H s):Inv X pins σ H s:=⟨I.ok.unwish,I.os,I.bare,I.base,I.loc,I.cell,I.free,I.freeC,I.pin,I.hok,I.len⟩
theorem SP.unwish {D:Ends}{f:Flow}{s':Shared}(h:SP (X.wish E) pins D f s'):SP X pins D f s':=by
 cases f with
 |next=>obtain⟨σ',H',I,q⟩:=h;exact⟨σ',H',I.unwish,q⟩
 |brk=>obtain⟨σ',H',I,q⟩:=h;exact⟨σ',H',I.unwish,q⟩
 |cont=>obtain⟨σ',H',I,q⟩:=h;exact⟨σ',H',I.unwish,q⟩
 |ret u=>obtain⟨v,σ',H',I,r,q⟩:=h;exact⟨v,σ',H',I.unwish,r,q⟩
theorem PSs.nox {st:List Stmt}{t:TS}(h:PSs X.nox st t):PSs X st t:=fun pins s σ H D I hw=>
 wpAny_mono (h pins s σ H D (I.wish _) hw) (fun _ _ q=>q.unwish) fun _ _ z=>False.elim z
end
section
variable {X:Cx} {st:Stmt} {rest:List Stmt} {t u:TS} {e:Expr} {te:TE} {pos:Pos}
def CH_:TS:=fun D σ H=>D.nx σ H
def tSeq (t u:TS):TS:=fun D σ H=>t {D with nx:=u D} σ H
theorem AY:PSs X [] CH_:=fun _ _ σ H _ I h=>wpAny_execs_nil ⟨σ,H,I,h⟩
theorem Ad (h1:PS X st t)(h2:PSs X rest u):PSs X (st::rest) (tSeq t u):=by
 intro pins s σ H D I h
 refine wpAny_execs_cons (thn (h1 pins s σ H {D with nx:=u D} I h) fun f s1 q=>?_)
 cases f with
 |next=>
  obtain⟨σ',H',I',q⟩:=q
  exact h2 pins s1 σ' H' D I' q
 |ret v=>exact q
 |brk=>exact q
 |cont=>exact q
theorem Ag (h1:PS X st t):PSs X [st] t:=by
 intro pins s σ H D I h
 refine wpAny_execs_cons (thn (h1 pins s σ H D I h) fun f s1 q=>?_)
 cases f with
 |next=>exact wpAny_execs_nil q
 |ret v=>exact q
 |brk=>exact q
 |cont=>exact q
theorem Inv.quiet {pins:List (Addr×Obj)}{σ:St}{H:Hp}{s:Shared}(I:Inv X pins σ H s):interactive X.env=false:=by simp[interactive,I.ok.kind]
def CI_ (te:TE):TS:=fun D σ H=>te σ H fun _ H1=>D.nx σ H1
theorem DB (he:PE X e te)(hs:swapsWith e none pos.line X.env=pure false:=by rfl):PS X (.Expr e pos) (CI_ te):=by
 intro pins s σ H D I h
 exact wpAny_Expr_any (thn (he pins s σ H _ I h) fun v s1 ⟨x,H1,I1,r1,q1⟩=>⟨σ,H1,I1,q1⟩) I.quiet hs
def tRet (te:TE):TS:=fun D σ H=>te σ H D.rt
theorem Ap (he:PE X e te):PS X (.Return (some e) pos) (tRet te):=by
 intro pins s σ H D I h
 exact wpAny_Return_some (thn (he pins s σ H _ I h) fun v s1 ⟨x,H1,I1,r1,q1⟩=>⟨x,σ,H1,I1,r1,q1⟩)
def tIfS (c:TT)(t u:TS):TS:=fun D σ H=>c σ H fun b H1=>if b=true then t D σ H1 else u D σ H1
theorem Dt {c:Expr}{a b:List Stmt}{tc:TT}(hc:PT X c tc)(ha:PSs X a t)(hb:PSs X b u):PS X (.If c a b pos) (tIfS tc t u):=by
 intro pins s σ H D I h
 refine wpAny_If (thn (hc pins s σ H _ I h) fun d s1 ⟨H1,I1,q1⟩=>?_)
 cases d with
 |true=>exact ha pins s1 σ H1 D I1 q1
 |false=>exact hb pins s1 σ H1 D I1 q1
end
abbrev TG:=V->St->Hp->(St->Hp->Prop)->Prop
abbrev TGs:=List V->St->Hp->(St->Hp->Prop)->Prop
def PG (X:Cx)(target:Expr)(t:TG):Prop:=
 ∀(pins:List (Addr×Obj)) (s:Shared) (σ:St) (H:Hp) (v:V) (u:Value) (Q:St->Hp->Prop),Inv X pins σ H s->RelV v u->t v σ H Q ->
  wpAny (model X.prog X.w) X.A (assign target X.env u) (fun _ s'=>∃σ' H',Inv X pins σ' H' s'/\Q σ' H') X.xe s
def PGs (X:Cx)(ts:List Expr)(t:TGs):Prop:=
 ∀(pins:List (Addr×Obj)) (s:Shared) (σ:St) (H:Hp) (vs:List V) (us:List Value) (Q:St->Hp->Prop),Inv X pins σ H s->Vals vs us->t vs σ H Q ->
  wpAny (model X.prog X.w) X.A (assignInOrder ((assignEach ts X.env).map (·.2)) us) (fun _ s'=>∃σ' H',Inv X pins σ' H' s'/\Q σ' H') X.xe s
abbrev TSet:=V->V->V->Hp->(Hp->Prop)->Prop
def PSet (X:Cx)(t:TSet):Prop:=
 ∀(pins:List (Addr×Obj)) (s:Shared) (σ:St) (H:Hp) (o i v:V) (ov iv u:Value) (Q:Hp->Prop),Inv X pins σ H s->RelV o ov->RelV i iv->RelV v u->t o i v H Q ->
  wpAny (model X.prog X.w) X.A (setItem ov iv u) (fun _ s'=>∃H',Inv X pins σ H' s'/\Q H') X.xe s
abbrev TIp:=V->V->Hp->VK->Prop
def PIp (X:Cx)(op:Operator)(t:TIp):Prop:=
 ∀(pins:List (Addr×Obj)) (s:Shared) (σ:St) (H:Hp) (x y:V) (v u:Value) (Q:VK),Inv X pins σ H s->RelV x v->RelV y u->t x y H Q ->
  wpAny (model X.prog X.w) X.A (inplaceOp op v u) (EP X pins σ Q) X.xe s
section
variable {X:Cx} {pos:Pos}
def Mb (i:Nat):TG:=fun v σ H Q=>Q (σ.set i (some v)) H
theorem Am {i:Nat}{x:Str}(hN:X.N.Nodup)(hi:X.N[i]?=some x)(hx:Loc X.env.scope x)(hf:X.fn x=true\/X.env.scope.names.lookup x=some .local:=by first|exact .inl rfl|exact .inr rfl|assumption):PG X (.Name x pos) (Mb i):=by
 intro pins s σ H v u Q I r h
 exact wpAny_assign_Name (PN I hN hi hx r (fun s' I'=>⟨_,H,I',h⟩) hf)
def gNil:TGs:=fun vs σ H Q=>vs=[]/\Q σ H
def CJ_ (t:TG)(u:TGs):TGs:=fun vs σ H Q=>∃v r,vs=v::r/\t v σ H fun σ' H'=>u r σ' H' Q
theorem La:PGs X [] gNil:=by
 intro pins s σ H vs us Q I r h
 obtain⟨e,h⟩:=h
 subst e
 cases r
 exact assignInOrder_nil ⟨σ,H,I,h⟩
theorem DA {e:Expr}{es:List Expr}{t:TG}{u:TGs}(h1:PG X e t)(h2:PGs X es u)
  (hs:(assignEach (e::es) X.env).map (·.2)=assign e X.env::(assignEach es X.env).map (·.2):=by rfl):PGs X (e::es) (CJ_ t u):=by
 intro pins s σ H vs us Q I r h
 obtain⟨v,vr,e1,h⟩:=h
 subst e1
 cases r with
 |cons r rr=>
  rw[hs]
  refine assignInOrder_cons (thn (h1 pins s σ H _ _ _ I r h) fun _ s1 ⟨σ1,H1,I1,q1⟩=>?_)
  exact h2 pins s1 σ1 H1 _ _ Q I1 rr q1
def gTup (K:PySem.W.Frag)(n:Nat)(t:TGs):TG:=fun v σ H Q=>∃a xs,v=.ref a/\SqT K H a xs/\xs.length=n/\t xs σ H Q
theorem VF {es:List Expr}{k:Nat}{t:TGs}{n:Nat}(hc:X.calm=true)(h:PGs X es t)
  (hn:(assignEach es X.env).length=n:=by rfl) (hst:(assignEach es X.env).findIdx? (·.1)=none:=by rfl):PG X (.Tuple es k pos) (gTup X.K n t):=by
 intro pins s σ H v u Q I r hw
 obtain⟨a,xs,e1,hq,hl,hw⟩:=hw
 subst e1
 cases r
 obtain⟨its,rv,ht,hz⟩:=I.tuple hq
 refine assign_Tuple_tuple (I.ok.hd hc) ht (by simp[hn,<-hl,rv.length]) hst fun h' hx=>?_
 have I1:Inv X pins σ H {s with heap:=h' }:=I.kept (t':=s.toks) fun b o e=>hx b o (Nat.ne_of_lt (Heap.lt_size e)) e
 exact h pins _ σ H xs _ Q I1 (by simpa using rv) hw
def gSub (to ti:TE)(t:TSet):TG:=fun v σ H Q=>to σ H fun o H1=>ti σ H1 fun i H2=>t o i v H2 fun H3=>Q σ H3
theorem CK_ {o i:Expr}{to ti:TE}{t:TSet}(ho:PE X o to)(hi:PE X i ti)(hs:PSet X t)
  (ha:∀v,assign (.Subscript o i pos) X.env v=(do
   let ov <- holding [v] (eval o X.env)
   let iv <- holding [v,ov] (eval i X.env)
   standAt pos
   holding [v,ov,iv] (setItem ov iv v)
   release [v,ov,iv] []):=by intro _;rfl):PG X (.Subscript o i pos) (gSub to ti t):=by
 intro pins s σ H v u Q I r h
 rw[ha]
 refine wpAny_bind (wpAny_holding (thn (ho pins s σ H _ I h) fun ov s1 ⟨x,H1,I1,r1,q1⟩=>?_))
 refine wpAny_bind (wpAny_holding (thn (hi pins s1 σ H1 _ I1 q1) fun iv s2 ⟨y,H2,I2,r2,q2⟩=>?_))
 refine wpAny_bind (wpAny_standAt (wpAny_bind (wpAny_holding (thn (hs pins s2 σ H2 x y v ov iv u _ I2 r1 r2 r q2) fun _ s3 ⟨H3,I3,q3⟩=>?_))))
 exact wpAny_release ⟨σ,H3,I3,q3⟩
def tAsg (te:TE)(g:TG):TS:=fun D σ H=>te σ H fun x H1=>g x σ H1 D.nx
theorem CL_ {tg e:Expr}{te:TE}{g:TG}(he:PE X e te)(hg:PG X tg g)(hs:swapsWithSole [tg] e pos.line X.env=pure false:=by rfl)(hw:swappedStores [tg] e X.env=pure none:=by rfl)
  (h1:(assignEach [tg] X.env).map (·.2)=[assign tg X.env]:=by rfl):PS X (.Assign [tg] e pos) (tAsg te g):=by
 intro pins s σ H D I h
 refine wpAny_Assign_stores (thn (he pins s σ H _ I h) fun v s1 ⟨x,H1,I1,r1,q1⟩=>?_) hs hw
 rw[h1]
 exact thn (hg pins s1 σ H1 x v _ I1 r1 q1) fun _ s2 q=>q
theorem Aj {i:Nat}{x:Str}{e:Expr}{te:TE}{pos':Pos}(hN:X.N.Nodup)(hi:X.N[i]?=some x)(hx:Loc X.env.scope x)(he:PE X e te)(hs:swapsWith e (some (.Name x pos')) pos.line X.env=pure false:=by rfl)(hf:X.fn x=true\/X.env.scope.names.lookup x=some .local:=by first|exact .inl rfl|exact .inr rfl|assumption):
  PS X (.Assign [.Name x pos'] e pos) (tAsg te (Mb i)):=by
 intro pins s σ H D I h
 refine wpAny_Assign_Name (thn (he pins s σ H _ I h) fun v s1 ⟨y,H1,I1,r1,q1⟩=>?_) hs
 exact PN I1 hN hi hx r1 (fun s2 I2=>⟨_,H1,I2,q1⟩) hf
def tAug (i:Nat)(te:TE)(ti:TIp):TS:=fun D σ H=>∃x,σ[i]?=some (some x)/\te σ H fun y H1=>ti x y H1 fun z H2=>D.nx (σ.set i (some z)) H2
theorem CM_ {i:Nat}{x:Str}{e:Expr}{te:TE}{op:Operator}{ti:TIp}{pos':Pos}(hN:X.N.Nodup)(hi:X.N[i]?=some x)(hx:Loc X.env.scope x)(he:PE X e te)(ho:PIp X op ti)(hf:X.fn x=true\/X.env.scope.names.lookup x=some .local:=by first|exact .inl rfl|exact .inr rfl|assumption):
  PS X (.AugAssign (.Name x pos') op e pos) (tAug i te ti):=by
 intro pins s σ H D I h
 obtain⟨v,e1,h⟩:=h
 obtain⟨m,hn,hl⟩:=I.loc
 have vis:Vis X.env.scope x:=by rcases hx with k|k;exact .inl k;exact .inr (.inl k)
 obtain⟨u,r,l⟩:=hl i x v hi e1 vis
 refine wpAny_AugAssign_Name ?_
 have go:wpAny (model X.prog X.w) X.A (eval e X.env) (fun w s₂=>wpAny (model X.prog X.w) X.A (inplaceOp op u w) (fun r s₃=>wpAny (model X.prog X.w) X.A (storeName X.env x r) (fun _=>SP X pins D .next) X.xe s₃) X.xe s₂) X.xe s:=by
  refine thn (he pins s σ H _ I h) fun w s1 ⟨y,H1,I1,r1,q1⟩=>?_
  refine thn (ho pins s1 σ H1 v y u w _ I1 r r1 q1) fun z s2 ⟨zv,H2,I2,r2,q2⟩=>?_
  exact PN I2 hN hi hx r2 (fun s3 I3=>⟨_,H2,I3,q2⟩) hf
 rcases l with ⟨hk,hm⟩|⟨hk,c,hc,hcell⟩
 ·exact wpAny_loadName_local I.ok.kind hk hn hm go
 ·rcases hk with hk|hk
  ·exact wpAny_loadName_cell I.ok.kind hk hc hcell go
  ·rcases hx with k|k
   ·have:X.env.scope.names.lookup x=some .free:=hk
    rw[k]at this;cases this
   ·have:X.env.scope.names.lookup x=some .free:=hk
    rw[k]at this;cases this
def ipI (f:Int->Int->Int):TIp:=fun x y H Q=>∃i j,x=.int i/\y=.int j/\Q (.int (f i j)) H
theorem CN_:PIp X .Add (ipI fun i j=>i+j):=by
 intro pins s σ H x y v u Q I r1 r2 h
 obtain⟨i,j,e1,e2,q⟩:=h
 subst e1;subst e2
 obtain⟨t,rfl⟩:=r1
 obtain⟨t',rfl⟩:=r2
 exact iadd_int ⟨.int _,H,I.tok _,⟨_,rfl⟩,q⟩
end
section
variable {X:Cx} {pos:Pos}
def AL_ (c:TT)(tb:TS):TS:=fun D σ H=>∃W:Nat->St->Hp->Prop,(∃m,W m σ H)/\∀m σ H,W m σ H ->
 c σ H fun b H1=>if b=true then ∃N:St->Hp->Prop,(∀σ' H',N σ' H'->∃m',m'<m/\W m' σ' H')/\tb {D with nx:=N,ct:=N,bk:=D.nx} σ H1 else D.nx σ H1
theorem PQ {c:Expr}{body:List Stmt}{tc:TT}{tb:TS}(hp:PassesOwn (model X.prog X.w) X.A X.env X.xe)(hc:PT X c tc)(hb:PSs X body tb):PS X (.While c body [] pos) (AL_ tc tb):=by
 intro pins s σ H D I h
 obtain⟨W,⟨m0,w0⟩,turn⟩:=h
 refine wpAny_While (codeAny_whileLoop (fun n s'=>∃σ' H',Inv X pins σ' H' s'/\W n σ' H') ?_ m0 ⟨σ,H,I,w0⟩)
 rintro n s1 ⟨σ1,H1,I1,w1⟩
 refine wpAny_passesOwn hp (thn (hc pins s1 σ1 H1 _ I1 (turn n σ1 H1 w1)) fun b s2 ⟨H2,I2,q2⟩=>?_)
 cases b with
 |true=>
  obtain⟨N,hN,q2⟩:=q2
  rw[if_pos rfl]
  refine wpAny_passesOwn hp (thn (hb pins s2 σ1 H2 _ I2 q2) fun f s3 q3=>?_)
  cases f with
  |next=>
   obtain⟨σ3,H3,I3,n3⟩:=q3
   obtain⟨m',hm,w3⟩:=hN σ3 H3 n3
   exact⟨m',hm,σ3,H3,I3,w3⟩
  |cont=>
   obtain⟨σ3,H3,I3,n3⟩:=q3
   obtain⟨m',hm,w3⟩:=hN σ3 H3 n3
   exact⟨m',hm,σ3,H3,I3,w3⟩
  |brk=>exact q3
  |ret v=>exact q3
 |false=>
  rw[if_neg Bool.false_ne_true]
  exact wpAny_execs_nil ⟨σ1,H2,I2,q2⟩
end
structure It where
 go:Nat->Hp->Prop
 yld:Nat->Hp->V->Hp->Prop
 stop:Nat->Hp->Prop
def FpOk (X:Cx)(pins:List (Addr×Obj))(H:Hp)(b:Addr):Prop:=
 H b=none/\b≠X.env.locals/\b∉X.fs/\(b∈X.ex\/X.s₀.heap.objs.size<=b)/\(∀x c,X.env.cells.lookup x=some c->c≠b)/\∀p∈X.pn++pins,p.1≠b
theorem Inv.fpOk {X:Cx}{pins:List (Addr×Obj)}{σ:St}{H H':Hp}{s:Shared}{b:Addr}(I:Inv X pins σ H s)(hb:s.heap.objs.size<=b)(hn:H' b=none):FpOk X pins H' b:=by
 refine⟨hn,Nat.ne_of_gt (Nat.lt_of_lt_of_le I.lt hb),I.nofs hb,.inr (Nat.le_trans I.sz hb),fun x c e z=>?_,fun p hp z=>?_⟩
 ·obtain⟨v,q⟩:=I.cell x c e
  exact absurd (Nat.lt_of_lt_of_le q.lt (by rw[z];exact hb)) (Nat.lt_irrefl _)
 ·exact absurd (Nat.lt_of_lt_of_le (Heap.lt_size (I.pin p hp).1) (by rw[z];exact hb)) (Nat.lt_irrefl _)
structure Turn (P:Program)(w:World)(K:PySem.W.Frag)(tg:Expr)(J:It)(fp:List Addr)(it:Addr)(tn:Nat->Heap->Prop):Prop where
 mem:it∈fp
 obj:∀i h,tn i h->∀b∈fp,∃o,h.get? b=some o/\∀v,o.data ≠ .cell v
 keep:∀i h h',tn i h->(∀b∈fp,∀o,h.get? b=some o->h'.get? b=some o)->tn i h'
 item:∀(X:Cx),X.prog=P->X.w=w->X.K=K->X.calm=true->∀(i:Nat) (pins:List (Addr×Obj)) (s:Shared) (σ:St) (H:Hp) (E:Value->Shared->Prop),Inv X pins σ H s->(∀b∈fp,FpOk X pins H b)->tn i s.heap->J.go i H ->
  wpAny (model P w) X.A (pyNext (.ref it)) (fun r s1=>∃u,r=some u /\
   wpAny (model P w) X.A (letOwnedTupleGo tg (.ref it) u) (fun _ s2=>∃x H',Inv X pins σ H' s2/\RelV x u/\J.yld i H x H'/\tn (i+1) s2.heap/\∀b∈fp,H' b=none) E s1) E s
 done:∀(X:Cx),X.prog=P->X.w=w->X.K=K->X.calm=true->∀(i:Nat) (pins:List (Addr×Obj)) (s:Shared) (σ:St) (H:Hp) (E:Value->Shared->Prop),Inv X pins σ H s->(∀b∈fp,FpOk X pins H b)->tn i s.heap->J.stop i H ->
  wpAny (model P w) X.A (pyNext (.ref it)) (fun r s1=>r=none/\Inv X pins σ H s1) E s
 self:∀(A:Around) (i:Nat) (s:Shared) (Q:Value->Shared->Prop) (E:Value->Shared->Prop),tn i s.heap->Q (.ref it) s->wpAny (model P w) A (pyIter (.ref it)) Q E s
abbrev TI:=St->Hp->(It->Hp->Prop)->Prop
def PIE (X:Cx)(pins:List (Addr×Obj))(σ:St)(tg:Expr)(R:It->Hp->Prop)(itv:Value)(s2:Shared):Prop:=
 ∃(it:Addr) (fp:List Addr) (tn:Nat->Heap->Prop) (J:It) (H':Hp),itv=.ref it/\Inv X pins σ H' s2/\Turn X.prog X.w X.K tg J fp it tn/\tn 0 s2.heap/\(∀b∈fp,FpOk X pins H' b)/\R J H'
def PI (X:Cx)(tg iter:Expr)(wi:TI):Prop:=
 ∀(pins:List (Addr×Obj)) (s:Shared) (σ:St) (H:Hp) (R:It->Hp->Prop),Inv X pins σ H s->wi σ H R ->
  wpAny (model X.prog X.w) X.A (eval iter X.env) (fun v s1=>wpAny (model X.prog X.w) X.A (pyIter v) (PIE X pins σ tg R) X.xe s1) X.xe s
theorem ZA {M:Model}{A:Around}{E:Value->Shared->Prop}{s:Shared}{tg:Expr}{it:Addr}{u:Value}{o:Obj}{n:String}{vs:Array Value}{Q:Unit->Shared->Prop}(ho:s.heap.get? it=some o)(hc:o.cls=.type n)(hd:o.data=.fields vs)
    (hn:["enumerate","zip","dict_itemiterator","dict_reverseitemiterator","odict_iterator","itertools.zip_longest","itertools.pairwise"].contains n=false) (hQ:Q () s):wpAny M A (letOwnedTupleGo tg (.ref it) u) Q E s:=by
  unfold letOwnedTupleGo
  cases tg<;>first
    | exact wpAny_pure hQ
    | (cases u<;>first
        | exact wpAny_pure hQ
        | (refine wpAny_bind (wpAny_load ho ?_)
           rw[hc,hd]
           show wpAny M A (if (["enumerate","zip","dict_itemiterator","dict_reverseitemiterator","odict_iterator","itertools.zip_longest","itertools.pairwise"].contains n&&vs[0]? == some (rawInt _))=true then _ else _) Q E s
           rw[if_neg (by intro h;rw[hn,Bool.false_and]at h;cases h)]
           exact wpAny_pure hQ))
def Itl (K:PySem.W.Frag)(a:Addr):It:=
 ⟨fun i H=>∃xs x,SqL K H a xs/\xs[i]?=some x,fun i H x H'=>H'=H/\∀xs,SqL K H a xs->xs[i]?=some x,fun i H=>∃xs,SqL K H a xs/\xs.length<=i⟩
def Itt (K:PySem.W.Frag)(a:Addr):It:=
 ⟨fun i H=>∃xs x,SqT K H a xs/\xs[i]?=some x,fun i H x H'=>H'=H/\∀xs,SqT K H a xs->xs[i]?=some x,fun i H=>∃xs,SqT K H a xs/\xs.length<=i⟩
def Itr (lo:Int)(n:Nat):It:=⟨fun i _=>i<n,fun i H x H'=>H'=H/\x=.int (lo+i),fun i _=>n<=i⟩
theorem SM {P:Program}{w:World}{K:PySem.W.Frag}{tg:Expr}(a it:Addr):Turn P w K tg (Itl K a) [it] it (fun i h=>h.IsListIter it a i) where
 mem:=by simp
 obj:=fun i h st b hb=>by
  have e:b=it:=by simpa using hb
  subst e
  obtain⟨o,e,c,d⟩:=st
  exact⟨o,e,fun v z=>by rw[d]at z;cases z⟩
 keep:=fun i h h' st k=>st.at fun o e=>k it (by simp) o e
 item:=by
  intro X hP hw hK hc i pins s σ H E I hf st hg
  subst hP hw hK
  obtain⟨xs,x,hq,hx⟩:=hg
  obtain⟨its,rv,p,hz⟩:=I.list hq
  obtain⟨u,hu,ru⟩:=rv.get hx
  obtain⟨f0,f1,f2,f3,f4,f5⟩:=hf it (by simp)
  refine wpAny_pyNext_list_item st p.isList (x:=u) (by simpa using hu) fun h' st' sb=>?_
  have I1:Inv X pins σ H {s with heap:=h' }:=I.turned (t':=s.toks) (fun b o hb e=>(sb.2 b hb).trans e) f0 f1 f3 f4 f5
  obtain⟨o,e,c,d⟩:=id st'
  exact⟨u,rfl,ZA (s:={s with heap:=h' }) e c d (by decide) ⟨x,H,I1,ru,⟨rfl,fun ys hy=>by rw[I.list_inj hy hq];exact hx⟩,st',fun b hb=>(hf b hb).1⟩⟩
 done:=by
  intro X hP hw hK hc i pins s σ H E I hf st hg
  subst hP hw hK
  obtain⟨xs,hq,hx⟩:=hg
  obtain⟨its,rv,p,hz⟩:=I.list hq
  obtain⟨f0,f1,f2,f3,f4,f5⟩:=hf it (by simp)
  have hl:=rv.length
  exact wpAny_pyNext_list_end (I.ok.hd hc) st p.isList (by simp;omega) fun h' eb=>⟨rfl,I.turned (t':=s.toks) (fun b o hb e=>eb b o hb e) f0 f1 f3 f4 f5⟩
 self:=fun _ _ _ _ _ st h=>wpAny_pyIter_listiter st h
theorem O0 {P:Program}{w:World}{K:PySem.W.Frag}{tg:Expr}(a it:Addr):Turn P w K tg (Itt K a) [it] it (fun i h=>h.IsTupleIter it a i) where
 mem:=by simp
 obj:=fun i h st b hb=>by
  have e:b=it:=by simpa using hb
  subst e
  obtain⟨o,e,c,d⟩:=st
  exact⟨o,e,fun v z=>by rw[d]at z;cases z⟩
 keep:=fun i h h' st k=>st.at fun o e=>k it (by simp) o e
 item:=by
  intro X hP hw hK hc i pins s σ H E I hf st hg
  subst hP hw hK
  obtain⟨xs,x,hq,hx⟩:=hg
  obtain⟨its,rv,p,hz⟩:=I.tuple hq
  obtain⟨u,hu,ru⟩:=rv.get hx
  obtain⟨f0,f1,f2,f3,f4,f5⟩:=hf it (by simp)
  refine wpAny_pyNext_tuple_item st (show s.heap.IsTuple a its.toArray from p) (x:=u) (by simpa using hu) fun h' st' sb=>?_
  have I1:Inv X pins σ H {s with heap:=h' }:=I.turned (t':=s.toks) (fun b o hb e=>(sb.2 b hb).trans e) f0 f1 f3 f4 f5
  obtain⟨o,e,c,d⟩:=id st'
  exact⟨u,rfl,ZA (s:={s with heap:=h' }) e c d (by decide) ⟨x,H,I1,ru,⟨rfl,fun ys hy=>by rw[I.tuple_inj hy hq];exact hx⟩,st',fun b hb=>(hf b hb).1⟩⟩
 done:=by
  intro X hP hw hK hc i pins s σ H E I hf st hg
  subst hP hw hK
  obtain⟨xs,hq,hx⟩:=hg
  obtain⟨its,rv,p,hz⟩:=I.tuple hq
  obtain⟨f0,f1,f2,f3,f4,f5⟩:=hf it (by simp)
  have hl:=rv.length
  exact wpAny_pyNext_tuple_end (I.ok.hd hc) st (show s.heap.IsTuple a its.toArray from p) (by simp;omega) fun h' eb=>⟨rfl,I.turned (t':=s.toks) (fun b o hb e=>eb b o hb e) f0 f1 f3 f4 f5⟩
 self:=fun _ _ _ _ _ st h=>wpAny_pyIter_tupleiter st h
theorem Ws {P:Program}{w:World}{K:PySem.W.Frag}{tg:Expr}(it:Addr)(lo:Int)(n:Nat):Turn P w K tg (Itr lo n) [it] it (fun i h=>IsRangeIter h it (lo+(i:Nat)*1) ((n:Int)-(i:Nat)) 1) where
 mem:=by simp
 obj:=fun i h st b hb=>by
  have e:b=it:=by simpa using hb
  subst e
  exact⟨_,st,fun v z=>by
   have z':Data.fields _=Data.cell v:=z
   cases z'⟩
 keep:=fun i h h' st k=>k it (by simp) _ st
 item:=by
  intro X hP hw hK hc i pins s σ H E I hf st hg
  subst hP hw hK
  obtain⟨f0,f1,f2,f3,f4,f5⟩:=hf it (by simp)
  have W:=Walks.range (prog:=X.prog) (w:=X.w) (I.ok.hd hc) it lo 1 n
  refine W.item i s _ _ hg st fun v h' tk hv st' kk=>?_
  obtain⟨t,rfl⟩:=hv
  have I1:Inv X pins σ H {s with heap:=h',toks:=tk}:=I.turned (fun b o hb e=>kk b o (by simpa using hb) e) f0 f1 f3 f4 f5
  refine⟨_,rfl,ZA (s:={s with heap:=h',toks:=tk}) (n := "range_iterator") st' rfl rfl (by decide) ⟨.int (lo+i),H,I1,⟨t,?_⟩,⟨rfl,rfl⟩,st',fun b hb=>(hf b hb).1⟩⟩
  rw[Int.mul_one]
 done:=by
  intro X hP hw hK hc i pins s σ H E I hf st hg
  subst hP hw hK
  obtain⟨f0,f1,f2,f3,f4,f5⟩:=hf it (by simp)
  exact wpAny_pyNext_range_end (I.ok.hd hc) st (by have:n<=i:=hg;omega) fun h' eb=>⟨rfl,I.turned (t':=s.toks) (fun b o hb e=>eb b o hb e) f0 f1 f3 f4 f5⟩
 self:=fun _ _ _ _ _ st h=>wpAny_pyIter_rangeiter st h
end L2
namespace L2
open PySem PySem.Spec PyProof.Rows
section
variable {X:Cx} {tg:Expr}
def CO_ (K:PySem.W.Frag)(tl:TE):TI:=fun σ H R=>tl σ H fun x H1=>∃a,x=.ref a/\(∃xs,SqL K H1 a xs)/\R (Itl K a) H1
def iTup (K:PySem.W.Frag)(tl:TE):TI:=fun σ H R=>tl σ H fun x H1=>∃a,x=.ref a/\(∃xs,SqT K H1 a xs)/\R (Itt K a) H1
theorem Lb {l:Expr}{tl:TE}(hl:PE X l tl):PI X tg l (CO_ X.K tl):=by
 intro pins s σ H R I h
 refine thn (hl pins s σ H _ I h) fun v s1 ⟨x,H1,I1,r1,q1⟩=>?_
 obtain⟨a,e,⟨xs,hq⟩,q⟩:=q1
 subst e
 cases r1
 obtain⟨its,rv,p,hz⟩:=I1.list hq
 refine wpAny_pyIter_list p.isList ?_
 refine⟨s1.heap.objs.size,[s1.heap.objs.size],_,_,H1,rfl,I1.kept (t':=s1.toks) fun b o e=>Heap.get?_push_of_some _ e,SM a _,⟨_,Heap.get?_push_size _ rfl,rfl,rfl⟩,fun b hb=>?_,q⟩
 have e:b=s1.heap.objs.size:=by simpa using hb
 subst e
 exact I1.fpOk (Nat.le_refl _) (I1.hok.fresh (Nat.le_refl _))
theorem Hu {l:Expr}{tl:TE}(hl:PE X l tl):PI X tg l (iTup X.K tl):=by
 intro pins s σ H R I h
 refine thn (hl pins s σ H _ I h) fun v s1 ⟨x,H1,I1,r1,q1⟩=>?_
 obtain⟨a,e,⟨xs,hq⟩,q⟩:=q1
 subst e
 cases r1
 obtain⟨its,rv,p,hz⟩:=I1.tuple hq
 refine wpAny_pyIter_tuple (show s1.heap.IsTuple a its.toArray from p) ?_
 refine⟨s1.heap.objs.size,[s1.heap.objs.size],_,_,H1,rfl,I1.kept (t':=s1.toks) fun b o e=>Heap.get?_push_of_some _ e,O0 a _,⟨_,Heap.get?_push_size _ rfl,rfl,rfl⟩,fun b hb=>?_,q⟩
 have e:b=s1.heap.objs.size:=by simpa using hb
 subst e
 exact I1.fpOk (Nat.le_refl _) (I1.hok.fresh (Nat.le_refl _))
theorem VG {pins:List (Addr×Obj)}{σ:St}{H:Hp}{s:Shared}{R:It->Hp->Prop}{E:Value->Shared->Prop}{lo hi:Int}{t u v:Tok}{tk:Nat}(I:Inv X pins σ H s)(h1 : -(2 ^ 62)<=lo)(h2:lo<2 ^ 62)(h3 : -(2 ^ 62)<=hi)(h4:hi<2 ^ 62)
  (q:R (Itr lo (hi-lo).toNat) H):wpAny (model X.prog X.w) X.A (pyIter (.ref s.heap.objs.size)) (PIE X pins σ tg R) E {s with heap:=s.heap.push {cls:=.type "range",data:=.fields #[.int lo t,.int hi u,.int 1 v]},toks:=tk}:=by
 refine wpAny_pyIter_range (IsRange.new ..) (small_one h1 h2 h3 h4) ?_
 have I1:Inv X pins σ H {s with heap:=s.heap.push {cls:=.type "range",data:=.fields #[.int lo t,.int hi u,.int 1 v]},toks:=tk}:=I.kept fun b o e=>Heap.get?_push_of_some _ e
 refine⟨(s.heap.push {cls:=.type "range",data:=.fields #[.int lo t,.int hi u,.int 1 v]}).objs.size,[(s.heap.push {cls:=.type "range",data:=.fields #[.int lo t,.int hi u,.int 1 v]}).objs.size],_,_,H,rfl,
  I1.kept (t':=tk) fun b o e=>Heap.get?_push_of_some _ e,Ws _ lo (hi-lo).toNat,?_,fun b hb=>?_,q⟩
 ·have e1:lo+((0:Nat):Int)*1=lo:=by simp
  have e2:(((hi-lo).toNat:Nat):Int)-((0:Nat):Int)=Builtin.Range.rangeSize lo hi 1:=by rw[rangeSize_one];split<;>omega
  show IsRangeIter _ _ (lo+((0:Nat):Int)*1) ((((hi-lo).toNat:Nat):Int)-((0:Nat):Int)) 1
  rw[e1,e2]
  exact Heap.get?_push_size _ rfl
 ·have e:b=(s.heap.push {cls:=.type "range",data:=.fields #[.int lo t,.int hi u,.int 1 v]}).objs.size:=by simpa using hb
  subst e
  exact I1.fpOk (Nat.le_refl _) (I1.hok.fresh (Nat.le_refl _))
def CP_ (ta:TA):TI:=fun σ H R=>ta σ H fun vs H1=>∃j:Int,vs=[.int j] /\ -(2 ^ 62)<=j/\j<2 ^ 62/\R (Itr 0 j.toNat) H1
def CQ_ (ta:TA):TI:=fun σ H R=>ta σ H fun vs H1=>∃i j:Int,vs=[.int i,.int j]/\(-(2 ^ 62)<=i/\i<2 ^ 62 /\ -(2 ^ 62)<=j/\j<2 ^ 62)/\R (Itr i (j-i).toNat) H1
theorem AQ {a:Expr}{ta:TA}{p pos:Pos}(hg:Gl X "range")(hm:X.mg "range"=none)(ha:PA X [a] ta)(hs:starEach [a] X.env=[(false,eval a X.env)]:=by rfl):PI X tg (.Call (.Name "range" p) [a] [] pos) (CP_ ta):=by
 intro pins s σ H R I h
 refine Call_ (LN I hg hm boot_range (PyProof.Rows.callWith_type1 (thn (ha pos pins s σ H _ I h) fun us s1 ⟨vs,H1,I1,r1,q1⟩=>?_) hs rfl))
 obtain⟨j,e,q1,q2,q⟩:=q1
 subst e
 cases r1 with
 |cons r rr=>
  cases rr
  obtain⟨t,rfl⟩:=r
  exact call_range_1 (VG I1 (by omega) (by omega) q1 q2 (by simpa using q))
theorem XT {a b:Expr}{ta:TA}{p pos:Pos}(hg:Gl X "range")(hm:X.mg "range"=none)(ha:PA X [a,b] ta)(hs:starEach [a,b] X.env=[(false,eval a X.env),(false,eval b X.env)]:=by rfl)(hs2:starEach [b] X.env=[(false,eval b X.env)]:=by rfl):
  PI X tg (.Call (.Name "range" p) [a,b] [] pos) (CQ_ ta):=by
 intro pins s σ H R I h
 refine Call_ (LN I hg hm boot_range (PyProof.Rows.callWith_type1 (thn (ha pos pins s σ H _ I h) fun us s1 ⟨vs,H1,I1,r1,q1⟩=>?_) (by rw[hs,hs2]) (by rw[hs2];rfl)))
 obtain⟨i,j,e,⟨q1,q2,q3,q4⟩,q⟩:=q1
 subst e
 cases r1 with
 |cons r rr=>
  cases rr with
  |cons r' rr=>
   cases rr
   obtain⟨t,rfl⟩:=r
   obtain⟨t',rfl⟩:=r'
   exact call_range_2 (VG I1 q1 q2 q3 q4 q)
def tFor (wi:TI)(g:TG)(tb:TS):TS:=fun D σ H=>wi σ H fun J H1=>∃W:Nat->Nat->St->Hp->Prop,(∃m,W 0 m σ H1)/\∀i m σ H,W i m σ H ->
 (J.stop i H/\D.nx σ H)\/(J.go i H/\∃N:St->Hp->Prop,(∀σ' H',N σ' H'->∃m',m'<m/\W (i+1) m' σ' H')/\∀x H',J.yld i H x H'->g x σ H' fun σ2 H2=>tb {D with nx:=N,ct:=N,bk:=D.nx} σ2 H2)
def O1 (fp:List Addr)(h:Heap):List (Addr×Obj):=fp.filterMap fun b=>(h.get? b).map fun o=>(b,o)
theorem Fx {fp:List Addr}{h:Heap}{b:Addr}{o:Obj}(hb:b∈fp)(e:h.get? b=some o):(b,o)∈O1 fp h:=List.mem_filterMap.mpr ⟨b,hb,by rw[e];rfl⟩
theorem XU {fp:List Addr}{h:Heap}{p:Addr×Obj}(hp:p∈O1 fp h):p.1∈fp/\h.get? p.1=some p.2:=by
 obtain⟨b,hb,e⟩:=List.mem_filterMap.mp hp
 cases q:h.get? b with
 |none=>rw[q]at e;cases e
 |some o=>
  rw[q]at e
  have e':(b,o)=p:=Option.some.inj e
  subst e'
  exact⟨hb,q⟩
theorem Inv.pinned {pins:List (Addr×Obj)}{σ:St}{H:Hp}{s:Shared}{fp:List Addr}(I:Inv X pins σ H s)(hf:∀b∈fp,FpOk X pins H b)(ho:∀b∈fp,∃o,s.heap.get? b=some o/\∀v,o.data ≠ .cell v):Inv X (pins++O1 fp s.heap) σ H s:=
 I.pins_of fun p hp=>(List.mem_append.mp hp).elim (fun z=>I.pin p (List.mem_append_right _ z)) fun z=>by
  obtain⟨hb,e⟩:=XU z
  obtain⟨f0,f1,f2,_⟩:=hf p.1 hb
  obtain⟨o,e',d⟩:=ho p.1 hb
  rw[e]at e';cases e'
  exact⟨e,f0,f1,f2,d⟩
theorem Inv.unpinned {pins pl:List (Addr×Obj)}{σ:St}{H:Hp}{s:Shared}(I:Inv X (pins++pl) σ H s):Inv X pins σ H s:=I.pins_of fun p hp=>I.pin p (List.mem_append_right _ (List.mem_append_left _ hp))
theorem B7 {iter:Expr}{body:List Stmt}{wi:TI}{g:TG}{tb:TS}{pos:Pos}(hp:PassesOwn (model X.prog X.w) X.A X.env X.xe)(hc:X.calm=true)(hi:PI X tg iter wi)(hg:PG X tg g)(hb:PSs X body tb)
  (hs:∀x,foldedSetIterable iter X.env x=pure x:=by intro _;rfl):PS X (.For tg iter body [] pos) (tFor wi g tb):=by
 intro pins s σ H D I h
 refine wpAny_For (thn (hi pins s σ H _ I h) fun v s1 h1=>thn h1 fun itv s2 h2=>?_) hs
 obtain⟨it,fp,tn,J,H2,e,I2,T,st2,f2,W,⟨m0,w0⟩,turn⟩:=h2
 subst e
 -- what stays true of the iterator's objects through the loop
 have stat:∀{H':Hp},(∀b∈fp,H' b=none)->∀b∈fp,FpOk X pins H' b:=fun hn b hb=>⟨hn b hb,(f2 b hb).2⟩
 refine codeAny_forLoop_any (fun n s'=>∃i σ' H',Inv X pins σ' H' s'/\tn i s'.heap/\(∀b∈fp,H' b=none)/\W i n σ' H') ?_ m0 ⟨0,σ,H2,I2,st2,fun b hb=>(f2 b hb).1,w0⟩
 rintro n s3 ⟨i,σ3,H3,I3,st3,fr3,w3⟩
 rcases turn i n σ3 H3 w3 with ⟨stop,qn⟩|⟨go,N,hN,step⟩
 ·refine wpAny_passesOwn hp (thn (T.done X rfl rfl rfl hc i pins s3 σ3 H3 X.xe I3 (stat fr3) st3 stop) fun r s4 ⟨hr,I4⟩=>?_)
  subst hr
  exact wpAny_execs_nil ⟨σ3,H3,I4,qn⟩
 ·refine wpAny_passesOwn hp (thn (T.item X rfl rfl rfl hc i pins s3 σ3 H3 X.xe I3 (stat fr3) st3 go) fun r s4 ⟨u,hr,h4⟩=>?_)
  subst hr
  refine wpAny_passesOwn hp (thn h4 fun _ s5 ⟨x,H5,I5,r5,y5,st5,fr5⟩=>?_)
  have I5':=I5.pinned (stat fr5) (T.obj _ _ st5)
  refine wpAny_passesOwn hp (thn (hg _ s5 σ3 H5 x u _ I5' r5 (step x H5 y5)) fun _ s6 ⟨σ6,H6,I6,q6⟩=>?_)
  refine wpAny_passesOwn hp (thn (hb _ s6 σ6 H6 _ I6 q6) fun f s7 q7=>?_)
  have again:∀{σ7:St} {H7:Hp},Inv X (pins++O1 fp s5.heap) σ7 H7 s7->N σ7 H7->∃m,m<n/\∃i σ' H',Inv X pins σ' H' s7/\tn i s7.heap/\(∀b∈fp,H' b=none)/\W i m σ' H':=fun {σ7 H7} I7 n7=>by
   obtain⟨m',hm,w7⟩:=hN σ7 H7 n7
   refine⟨m',hm,i+1,σ7,H7,I7.unpinned,T.keep _ _ _ st5 fun b hb o e=>(I7.pin (b,o) (List.mem_append_right _ (List.mem_append_right _ (Fx hb e)))).1,fun b hb=>?_,w7⟩
   obtain⟨o,e,d⟩:=T.obj _ _ st5 b hb
   exact (I7.pin (b,o) (List.mem_append_right _ (List.mem_append_right _ (Fx hb e)))).2.1
  cases f with
  |next=>obtain⟨σ7,H7,I7,n7⟩:=q7;exact again I7 n7
  |cont=>obtain⟨σ7,H7,I7,n7⟩:=q7;exact again I7 n7
  |brk=>obtain⟨σ7,H7,I7,q7⟩:=q7;exact⟨σ7,H7,I7.unpinned,q7⟩
  |ret v=>obtain⟨x7,σ7,H7,I7,r7,q7⟩:=q7;exact⟨x7,σ7,H7,I7.unpinned,r7,q7⟩
end
theorem ZC {K:PySem.W.Frag}{a:Addr}{xs:List V}{g:TG}{tb:TS}{D:Ends}{σ:St}{H:Hp}(Pv:Nat->St->Hp->Prop)(h0:Pv 0 σ H)(hl:∀i σ H,i<=xs.length->Pv i σ H->SqL K H a xs)
  (hs:∀i x σ H,xs[i]?=some x->Pv i σ H->g x σ H fun σ2 H2=>tb {D with nx:=Pv (i+1),ct:=Pv (i+1),bk:=D.nx} σ2 H2) (hd:∀σ H,Pv xs.length σ H->D.nx σ H):
  ∃W:Nat->Nat->St->Hp->Prop,(∃m,W 0 m σ H)/\∀i m σ H,W i m σ H ->
   ((Itl K a).stop i H/\D.nx σ H)\/((Itl K a).go i H/\∃N:St->Hp->Prop,(∀σ' H',N σ' H'->∃m',m'<m/\W (i+1) m' σ' H')/\∀x H',(Itl K a).yld i H x H'->g x σ H' fun σ2 H2=>tb {D with nx:=N,ct:=N,bk:=D.nx} σ2 H2):=by
 refine⟨fun i m σ H=>m=xs.length-i/\i<=xs.length/\Pv i σ H,⟨xs.length,by simp,Nat.zero_le _,h0⟩,?_⟩
 rintro i m σ H ⟨rfl,hi,p⟩
 have q:=hl i σ H hi p
 by_cases hlt:i<xs.length
 ·refine .inr ⟨⟨xs,xs[i],q,by simp[hlt]⟩,Pv (i+1),fun σ' H' p'=>⟨xs.length-(i+1),by omega,rfl,hlt,p'⟩,fun x H' y=>?_⟩
  obtain⟨e,y⟩:=y
  subst e
  exact hs i x σ _ (y xs q) p
 ·have e:i=xs.length:=by omega
  subst e
  exact .inl ⟨⟨xs,q,Nat.le_refl _⟩,hd σ H p⟩
theorem BJ_ {K:PySem.W.Frag}{a:Addr}{xs:List V}{g:TG}{tb:TS}{D:Ends}{σ:St}{H:Hp}(Pv:Nat->St->Hp->Prop)(h0:Pv 0 σ H)(hl:∀i σ H,i<=xs.length->Pv i σ H->SqT K H a xs)
  (hs:∀i x σ H,xs[i]?=some x->Pv i σ H->g x σ H fun σ2 H2=>tb {D with nx:=Pv (i+1),ct:=Pv (i+1),bk:=D.nx} σ2 H2) (hd:∀σ H,Pv xs.length σ H->D.nx σ H):
  ∃W:Nat->Nat->St->Hp->Prop,(∃m,W 0 m σ H)/\∀i m σ H,W i m σ H ->
   ((Itt K a).stop i H/\D.nx σ H)\/((Itt K a).go i H/\∃N:St->Hp->Prop,(∀σ' H',N σ' H'->∃m',m'<m/\W (i+1) m' σ' H')/\∀x H',(Itt K a).yld i H x H'->g x σ H' fun σ2 H2=>tb {D with nx:=N,ct:=N,bk:=D.nx} σ2 H2):=by
 refine⟨fun i m σ H=>m=xs.length-i/\i<=xs.length/\Pv i σ H,⟨xs.length,by simp,Nat.zero_le _,h0⟩,?_⟩
 rintro i m σ H ⟨rfl,hi,p⟩
 have q:=hl i σ H hi p
 by_cases hlt:i<xs.length
 ·refine .inr ⟨⟨xs,xs[i],q,by simp[hlt]⟩,Pv (i+1),fun σ' H' p'=>⟨xs.length-(i+1),by omega,rfl,hlt,p'⟩,fun x H' y=>?_⟩
  obtain⟨e,y⟩:=y
  subst e
  exact hs i x σ _ (y xs q) p
 ·have e:i=xs.length:=by omega
  subst e
  exact .inl ⟨⟨xs,q,Nat.le_refl _⟩,hd σ H p⟩
theorem XW {lo:Int}{n:Nat}{g:TG}{tb:TS}{D:Ends}{σ:St}{H:Hp}(Pv:Nat->St->Hp->Prop)(h0:Pv 0 σ H)
  (hs:∀i σ H,i<n->Pv i σ H->g (.int (lo+i)) σ H fun σ2 H2=>tb {D with nx:=Pv (i+1),ct:=Pv (i+1),bk:=D.nx} σ2 H2) (hd:∀σ H,Pv n σ H->D.nx σ H):
  ∃W:Nat->Nat->St->Hp->Prop,(∃m,W 0 m σ H)/\∀i m σ H,W i m σ H ->
   ((Itr lo n).stop i H/\D.nx σ H)\/((Itr lo n).go i H/\∃N:St->Hp->Prop,(∀σ' H',N σ' H'->∃m',m'<m/\W (i+1) m' σ' H')/\∀x H',(Itr lo n).yld i H x H'->g x σ H' fun σ2 H2=>tb {D with nx:=N,ct:=N,bk:=D.nx} σ2 H2):=by
 refine⟨fun i m σ H=>m=n-i/\i<=n/\Pv i σ H,⟨n,by simp,Nat.zero_le _,h0⟩,?_⟩
 rintro i m σ H ⟨rfl,hi,p⟩
 by_cases hlt:i<n
 ·refine .inr ⟨hlt,Pv (i+1),fun σ' H' p'=>⟨n-(i+1),by omega,rfl,hlt,p'⟩,fun x H' y=>?_⟩
  obtain⟨e,y⟩:=y
  subst e y
  exact hs i σ _ hlt p
 ·have e:i=n:=by omega
  subst e
  exact .inl ⟨Nat.le_refl _,hd σ H p⟩
end L2
namespace L2
open PySem PySem.Spec PyProof.Rows
abbrev R2:=V->V->Hp->VK->Prop
def OpR (X:Cx)(f:Value->Value->Sem Value)(r:R2):Prop:=
 ∀(pins:List (Addr×Obj)) (s:Shared) (σ:St) (H:Hp) (x y:V) (v u:Value) (Q:VK),Inv X pins σ H s->RelV x v->RelV y u->r x y H Q ->
  wpAny (model X.prog X.w) X.A (f v u) (EP X pins σ Q) X.xe s
def UnR (X:Cx)(f:Value->Sem Value)(r:V->Hp->VK->Prop):Prop:=
 ∀(pins:List (Addr×Obj)) (s:Shared) (σ:St) (H:Hp) (x:V) (v:Value) (Q:VK),Inv X pins σ H s->RelV x v->r x H Q ->
  wpAny (model X.prog X.w) X.A (f v) (EP X pins σ Q) X.xe s
def HH (X:Cx)(f:Value)(r:List V->Hp->VK->Prop):Prop:=
 ∀(pins:List (Addr×Obj)) (s:Shared) (σ:St) (H:Hp) (xs:List V) (us:List Value) (Q:VK),Inv X pins σ H s->Vals xs us->r xs H Q ->
  wpAny (model X.prog X.w) X.A (call f us) (EP X pins σ Q) X.xe s
def tOp (r:R2)(ta tb:TE):TE:=fun σ H Q=>ta σ H fun x H1=>tb σ H1 fun y H2=>r x y H2 Q
def tUn (r:V->Hp->VK->Prop)(ta:TE):TE:=fun σ H Q=>ta σ H fun x H1=>r x H1 Q
def rI (C:Int->Int->Prop)(g:Int->Int->V):R2:=fun x y H Q=>∃i j,x=.int i/\y=.int j/\C i j/\Q (g i j) H
def rI0 (g:Int->Int->V):R2:=fun x y H Q=>∃i j,x=.int i/\y=.int j/\Q (g i j) H
def rU (g:Int->V):V->Hp->VK->Prop:=fun x H Q=>∃i,x=.int i/\Q (g i) H
section
variable {X:Cx} {a b c:Expr} {ta tb tc:TE} {pos:Pos}
theorem binT (ha:PE X a ta)(hb:PE X b tb){pins:List (Addr×Obj)}{s:Shared}{σ:St}{H:Hp}{R:V->V->Hp->Prop}(I:Inv X pins σ H s)
  (h:ta σ H fun x H1=>tb σ H1 fun y H2=>R x y H2) {Q:Value->Shared->Prop} {f:Value->Value->Sem Value}
  (hf:∀v u s2 x y H2,Inv X pins σ H2 s2->RelV x v->RelV y u->R x y H2->wpAny (model X.prog X.w) X.A (f v u) Q X.xe s2):
  wpAny (model X.prog X.w) X.A (eval a X.env) (fun v s₁=>wpAny (model X.prog X.w) X.A (eval b X.env) (fun u s₂=>wpAny (model X.prog X.w) X.A (f v u) Q X.xe s₂) X.xe s₁) X.xe s:=by
 refine thn (ha pins s σ H _ I h) fun v s1 ⟨x,H1,I1,r1,q1⟩=>?_
 refine thn (hb pins s1 σ H1 _ I1 q1) fun u s2 ⟨y,H2,I2,r2,q2⟩=>?_
 exact hf v u s2 x y H2 I2 r1 r2 q2
theorem Aq {op:Operator}{r:R2}(ho:OpR X (binaryOp op) r)(ha:PE X a ta)(hb:PE X b tb):PE X (.BinOp a op b pos) (tOp r ta tb):=by
 intro pins s σ H Q I h
 exact wpAny_BinOp (binT ha hb I h fun v u s2 x y H2 I2 rx ry q=>ho pins s2 σ H2 x y v u Q I2 rx ry q)
theorem Wt {op:UnaryOp}{r:V->Hp->VK->Prop}(ho:UnR X (unaryOp op) r)(ha:PE X a ta):PE X (.UnaryOp op a pos) (tUn r ta):=by
 intro pins s σ H Q I h
 exact UnaryOp_ (thn (ha pins s σ H _ I h) fun v s1 ⟨x,H1,I1,r1,q1⟩=>ho pins s1 σ H1 x v Q I1 r1 q1)
theorem opI {f:Value->Value->Sem Value}{C:Int->Int->Prop}{g:Int->Int->Int}
  (rule:∀(i j:Int) (t u:Tok) (s:Shared) (Q:Value->Shared->Prop) (E:Value->Shared->Prop),C i j->Q (.int (g i j) s.toks) {s with toks:=s.toks+1}->wpAny (model X.prog X.w) X.A (f (.int i t) (.int j u)) Q E s):
  OpR X f (rI C fun i j=>.int (g i j)):=by
 intro pins s σ H x y v u Q I rx ry h
 obtain⟨i,j,rfl,rfl,hc,q⟩:=h
 obtain⟨t,rfl⟩:=rx
 obtain⟨t',rfl⟩:=ry
 exact rule i j t t' s _ _ hc ⟨.int (g i j),H,I.tok _,⟨_,rfl⟩,q⟩
theorem opI0 {f:Value->Value->Sem Value}{g:Int->Int->Int}
  (rule:∀(i j:Int) (t u:Tok) (s:Shared) (Q:Value->Shared->Prop) (E:Value->Shared->Prop),Q (.int (g i j) s.toks) {s with toks:=s.toks+1}->wpAny (model X.prog X.w) X.A (f (.int i t) (.int j u)) Q E s):
  OpR X f (rI0 fun i j=>.int (g i j)):=by
 intro pins s σ H x y v u Q I rx ry h
 obtain⟨i,j,rfl,rfl,q⟩:=h
 obtain⟨t,rfl⟩:=rx
 obtain⟨t',rfl⟩:=ry
 exact rule i j t t' s _ _ ⟨.int (g i j),H,I.tok _,⟨_,rfl⟩,q⟩
theorem opB0 {f:Value->Value->Sem Value}{g:Int->Int->Bool}
  (rule:∀(i j:Int) (t u:Tok) (s:Shared) (Q:Value->Shared->Prop) (E:Value->Shared->Prop),Q (.bool (g i j)) s->wpAny (model X.prog X.w) X.A (f (.int i t) (.int j u)) Q E s):
  OpR X f (rI0 fun i j=>.bl (g i j)):=by
 intro pins s σ H x y v u Q I rx ry h
 obtain⟨i,j,rfl,rfl,q⟩:=h
 obtain⟨t,rfl⟩:=rx
 obtain⟨t',rfl⟩:=ry
 exact rule i j t t' s _ _ ⟨.bl (g i j),H,I,rfl,q⟩
def CDiv (i j:Int):Prop:=0<j/\j<1073741824
def CMul (i j:Int):Prop:=(-(2 ^ 64)<i/\i<2 ^ 64)\/(-(2 ^ 64)<j/\j<2 ^ 64)
theorem CMul.ok {i j:Int}(h:CMul i j):IntMulOk i j:=by
 rcases h with ⟨h1,h2⟩|⟨h1,h2⟩
 ·exact .of_left (intBits_le_64 h1 h2)
 ·exact .of_right (intBits_le_64 h1 h2)
theorem Cv:OpR X (binaryOp .Add) (rI0 fun i j=>.int (i+j)):=opI0 fun _ _ _ _ _ _ _ q=>add_int q
theorem LO:OpR X (binaryOp .Sub) (rI0 fun i j=>.int (i-j)):=opI0 fun _ _ _ _ _ _ _ q=>sub_int q
theorem Ds:OpR X (binaryOp .Mult) (rI CMul fun i j=>.int (i*j)):=opI fun _ _ _ _ _ _ _ hc q=>mul_int q hc.ok
theorem Lc:OpR X (binaryOp .FloorDiv) (rI CDiv fun i j=>.int (i / j)):=opI fun i j _ _ _ _ _ hc q=>by
 have h1:(0:Int)<j:=hc.1
 have h2:j<1073741824:=hc.2
 exact floordiv_int (by omega) (by rw[Int.fdiv_eq_ediv_of_nonneg i (by omega)];exact q) (.inl (PyProof.noPylong_small (by omega)))
theorem Cg:OpR X (binaryOp .Mod) (rI (fun _ j=>0<j) fun i j=>.int (i%j)):=opI fun i j _ _ _ _ _ hc q=>by
 have h1:(0:Int)<j:=hc
 exact mod_int' (by omega) (by rw[Int.fmod_eq_emod_of_nonneg i (by omega)];exact q)
theorem unI {f:Value->Sem Value}{g:Int->Int}
  (rule:∀(i:Int) (t:Tok) (s:Shared) (Q:Value->Shared->Prop) (E:Value->Shared->Prop),Q (.int (g i) s.toks) {s with toks:=s.toks+1}->wpAny (model X.prog X.w) X.A (f (.int i t)) Q E s):
  UnR X f (rU fun i=>.int (g i)):=by
 intro pins s σ H x v Q I rx h
 obtain⟨i,rfl,q⟩:=h
 obtain⟨t,rfl⟩:=rx
 exact rule i t s _ _ ⟨.int (g i),H,I.tok _,⟨_,rfl⟩,q⟩
theorem O2:UnR X (unaryOp .USub) (rU fun i=>.int (-i)):=unI fun _ _ _ _ _ q=>neg_int q
end
def scal:V->V->Bool
 |.non,.non=>true | .non,.int _=>true | .int _,.non=>true | .non,.bl _=>true | .bl _,.non=>true | .non,.str _=>true | .str _,.non=>true
 |.int _,.int _=>true | .bl _,.bl _=>true | .str _,.str _=>true | .byt _,.byt _=>true
 |.int _,.str _=>true | .str _,.int _=>true | .bl _,.str _=>true | .str _,.bl _=>true
 |_,_=>false
def rEq:R2:=fun x y H Q=>scal x y=true/\Q (.bl (decide (x=y))) H
def rNe:R2:=fun x y H Q=>scal x y=true/\Q (.bl (!decide (x=y))) H
theorem XX {i j:Int}:decide (V.int i=V.int j)=(i==j):=by
 rw[Bool.eq_iff_iff]
 simp
theorem AM_ {i j:Bool}:decide (V.bl i=V.bl j)=(i==j):=by
 rw[Bool.eq_iff_iff]
 simp
theorem XY {i j:Str}:decide (V.str i=V.str j)=(i==j):=by
 rw[Bool.eq_iff_iff]
 simp
theorem XZ {i j:Array UInt8}:decide (V.byt i=V.byt j)=(i.toList==j.toList):=by
 rw[Bool.eq_iff_iff]
 cases i
 cases j
 simp
section
variable {X:Cx} {a b c:Expr} {ta tb tc:TE} {pos:Pos}
theorem Bx {pins:List (Addr×Obj)}{σ:St}{H:Hp}{s:Shared}{Q:VK}{k k':Bool}(I:Inv X pins σ H s)(q:Q (.bl k) H)(e:k=k'):EP X pins σ Q (.bool k') s:=by
 subst e
 exact⟨.bl k,H,I,rfl,q⟩
theorem UH:OpR X (compareOp .Eq) rEq:=by
 intro pins s σ H x y v u Q I rx ry h
 obtain⟨hs,q⟩:=h
 cases x with
 |non=>
  cases rx
  cases y with
  |non=>cases ry;exact PySem.EqNone.eq_none_none (Bx I q (by simp))
  |bl j=>cases ry;exact PySem.EqNone.eq_none_bool (Bx I q (by simp))
  |int j=>obtain⟨t',rfl⟩:=ry;exact PySem.EqNone.eq_none_int (Bx I q (by simp))
  |str j=>obtain⟨t',rfl⟩:=ry;exact PySem.EqNone.eq_none_str (Bx I q (by simp))
  |_=>exact absurd (show false=true from hs) Bool.false_ne_true
 |bl i=>
  cases rx
  cases y with
  |non=>cases ry;exact PySem.EqNone.eq_bool_none (Bx I q (by simp))
  |bl j=>cases ry;exact eq_bool (Bx I q AM_)
  |str j=>obtain⟨t',rfl⟩:=ry;exact PySem.EqMixed.eq_bool_str (Bx I q (by simp))
  |_=>exact absurd (show false=true from hs) Bool.false_ne_true
 |int i=>
  obtain⟨t,rfl⟩:=rx
  cases y with
  |non=>cases ry;exact PySem.EqNone.eq_int_none (Bx I q (by simp))
  |int j=>obtain⟨t',rfl⟩:=ry;exact eq_int (Bx I q XX)
  |str j=>obtain⟨t',rfl⟩:=ry;exact PySem.EqMixed.eq_int_str (Bx I q (by simp))
  |_=>exact absurd (show false=true from hs) Bool.false_ne_true
 |str i=>
  obtain⟨t,rfl⟩:=rx
  cases y with
  |non=>cases ry;exact PySem.EqNone.eq_str_none (Bx I q (by simp))
  |bl j=>cases ry;exact PySem.EqMixed.eq_str_bool (Bx I q (by simp))
  |int j=>obtain⟨t',rfl⟩:=ry;exact PySem.EqMixed.eq_str_int (Bx I q (by simp))
  |str j=>obtain⟨t',rfl⟩:=ry;exact eq_str (Bx I q XY)
  |_=>exact absurd (show false=true from hs) Bool.false_ne_true
 |byt i=>
  obtain⟨t,rfl⟩:=rx
  cases y with
  |byt j=>obtain⟨t',rfl⟩:=ry;exact PySem.W.eq_bytes (Bx I q XZ)
  |_=>exact absurd (show false=true from hs) Bool.false_ne_true
 |_=>cases y<;>exact absurd (show false=true from hs) Bool.false_ne_true
theorem N1:OpR X (compareOp .NotEq) rNe:=by
 intro pins s σ H x y v u Q I rx ry h
 obtain⟨hs,q⟩:=h
 cases x with
 |non=>
  cases rx
  cases y with
  |non=>cases ry;exact PySem.EqNone.ne_none_none (Bx I q (by simp))
  |bl j=>cases ry;exact PySem.EqNone.ne_none_bool (Bx I q (by simp))
  |int j=>obtain⟨t',rfl⟩:=ry;exact PySem.EqNone.ne_none_int (Bx I q (by simp))
  |str j=>obtain⟨t',rfl⟩:=ry;exact PySem.EqNone.ne_none_str (Bx I q (by simp))
  |_=>exact absurd (show false=true from hs) Bool.false_ne_true
 |bl i=>
  cases rx
  cases y with
  |non=>cases ry;exact PySem.EqNone.ne_bool_none (Bx I q (by simp))
  |bl j=>cases ry;exact ne_bool (Bx I q (congrArg not AM_))
  |str j=>obtain⟨t',rfl⟩:=ry;exact PySem.EqMixed.ne_bool_str (Bx I q (by simp))
  |_=>exact absurd (show false=true from hs) Bool.false_ne_true
 |int i=>
  obtain⟨t,rfl⟩:=rx
  cases y with
  |non=>cases ry;exact PySem.EqNone.ne_int_none (Bx I q (by simp))
  |int j=>obtain⟨t',rfl⟩:=ry;exact ne_int (Bx I q (congrArg not XX))
  |str j=>obtain⟨t',rfl⟩:=ry;exact PySem.EqMixed.ne_int_str (Bx I q (by simp))
  |_=>exact absurd (show false=true from hs) Bool.false_ne_true
 |str i=>
  obtain⟨t,rfl⟩:=rx
  cases y with
  |non=>cases ry;exact PySem.EqNone.ne_str_none (Bx I q (by simp))
  |bl j=>cases ry;exact PySem.EqMixed.ne_str_bool (Bx I q (by simp))
  |int j=>obtain⟨t',rfl⟩:=ry;exact PySem.EqMixed.ne_str_int (Bx I q (by simp))
  |str j=>obtain⟨t',rfl⟩:=ry;exact ne_str (Bx I q (congrArg not XY))
  |_=>exact absurd (show false=true from hs) Bool.false_ne_true
 |byt i=>
  obtain⟨t,rfl⟩:=rx
  cases y with
  |byt j=>obtain⟨t',rfl⟩:=ry;exact PySem.W.ne_bytes (Bx I q (congrArg not XZ))
  |_=>exact absurd (show false=true from hs) Bool.false_ne_true
 |_=>cases y<;>exact absurd (show false=true from hs) Bool.false_ne_true
theorem SN:OpR X (compareOp .Lt) (rI0 fun i j=>.bl (decide (i<j))):=opB0 fun _ _ _ _ _ _ _ q=>lt_int q
theorem Em_:OpR X (compareOp .LtE) (rI0 fun i j=>.bl (decide (i<=j))):=opB0 fun _ _ _ _ _ _ _ q=>le_int q
theorem ZD:OpR X (compareOp .Gt) (rI0 fun i j=>.bl (decide (j<i))):=opB0 fun _ _ _ _ _ _ _ q=>gt_int q
theorem CR_:OpR X (compareOp .GtE) (rI0 fun i j=>.bl (decide (j<=i))):=opB0 fun _ _ _ _ _ _ _ q=>ge_int q
theorem CS_:OpR X (compareOp .Is) (fun x y H Q=>y=.non/\Q (.bl (decide (x=.non))) H):=by
 intro pins s σ H x y v u Q I rx ry h
 obtain⟨rfl,q⟩:=h
 cases ry
 refine is_none_gen (Bx I q ?_)
 cases x<;>first
  | (cases rx;rfl)
  | (obtain⟨t,rfl⟩:=rx;rfl)
theorem X0:OpR X (compareOp .IsNot) (fun x y H Q=>y=.non/\Q (.bl (!decide (x=.non))) H):=by
 intro pins s σ H x y v u Q I rx ry h
 obtain⟨rfl,q⟩:=h
 cases ry
 refine isnot_none_gen (Bx I q ?_)
 cases x<;>first
  | (cases rx;rfl)
  | (obtain⟨t,rfl⟩:=rx;rfl)
theorem A3 (b:Expr){op:CmpOp}(h:op ≠ .In:=by decide)(h2:op ≠ .NotIn:=by decide):behindInMarks op b=false:=by
 have e1:(op==CmpOp.In)=false:=by cases op<;>first|rfl|exact absurd rfl h
 have e2:(op==CmpOp.NotIn)=false:=by cases op<;>first|rfl|exact absurd rfl h2
 cases b<;>simp[behindInMarks,e1,e2]
theorem MN {op:CmpOp}{r:R2}(ho:OpR X (compareOp op) r)(ha:PE X a ta)(hb:PE X b tb)(hm:behindInMarks op b=false):PE X (.Compare a [op] [b] pos) (tOp r ta tb):=by
 intro pins s σ H Q I h
 exact wpAny_Compare1 (binT ha hb I h fun v u s2 x y H2 I2 rx ry q=>ho pins s2 σ H2 x y v u Q I2 rx ry q) hm
def CT_ (t:TE):TT:=fun σ H Q=>t σ H fun x H'=>∃k,x=.bl k/\Q k H'
theorem AJ {op:CmpOp}{r:R2}(ho:OpR X (compareOp op) r)(ha:PE X a ta)(hb:PE X b tb)(hm:behindInMarks op b=false):PT X (.Compare a [op] [b] pos) (CT_ (tOp r ta tb)):=by
 intro pins s σ H Q I h
 refine wpAny_isTrue_Compare1 (thn (ha pins s σ H _ I h) fun v s1 ⟨x,H1,I1,r1,q1⟩=>thn (hb pins s1 σ H1 _ I1 q1) fun u s2 ⟨y,H2,I2,r2,q2⟩ =>
  thn (ho pins s2 σ H2 x y v u _ I2 r1 r2 q2) fun c s3 ⟨z,H3,I3,r3,k,e,q3⟩=>?_) hm
 subst e
 cases r3
 exact wpAny_truthy_bool ⟨H3,I3,q3⟩
def AN_ (r r':R2)(ta tb tc:TE):TE:=fun σ H Q=>ta σ H fun x H1=>tb σ H1 fun y H2=>r x y H2 fun z H3=>∃k,z=.bl k /\
 (if k=true then tc σ H3 fun w' H4=>r' y w' H4 Q else Q (.bl false) H3)
theorem ZE {op op':CmpOp}{r r':R2}(ho:OpR X (compareOp op) r)(ho':OpR X (compareOp op') r')(ha:PE X a ta)(hb:PE X b tb)(hc:PE X c tc)
  (hm:lastMarks [op,op'] [b,c]=false:=by with_unfolding_all rfl):PE X (.Compare a [op,op'] [b,c] pos) (AN_ r r' ta tb tc):=by
 intro pins s σ H Q I h
 refine Compare_chain (thn (ha pins s σ H _ I h) fun v s1 ⟨x,H1,I1,r1,q1⟩=>chain_link (thn (hb pins s1 σ H1 _ I1 q1) fun u s2 ⟨y,H2,I2,r2,q2⟩ =>
  thn (ho pins s2 σ H2 x y v u _ I2 r1 r2 q2) fun d s3 ⟨z,H3,I3,r3,k,e,q3⟩=>?_)) hm
 subst e
 cases r3
 refine wpAny_truthy_bool ?_
 cases k with
 |false=>exact ite_ff ⟨.bl false,H3,I3,rfl,q3⟩
 |true=>exact ite_tt (chain_last (thn (hc pins s3 σ H3 _ I3 q3) fun w' s4 ⟨z',H4,I4,r4,q4⟩=>ho' pins s4 σ H4 y z' u w' Q I4 r2 r4 q4))
theorem VH:(sizeLine:Nat)<2 ^ 63:=by rw[sizeLine_eq];decide
theorem vals1 {x:V}{us:List Value}(r:Vals [x] us):∃u,us=[u]/\RelV x u:=by
 cases r with
 |cons r1 r2=>cases r2;exact⟨_,rfl,r1⟩
theorem vals2 {x y:V}{us:List Value}(r:Vals [x,y] us):∃u w',us=[u,w']/\RelV x u/\RelV y w':=by
 cases r with
 |cons r1 r2=>
  cases r2 with
  |cons r3 r4=>cases r4;exact⟨_,_,rfl,r1,r3⟩
theorem MO (hc:X.calm=true):HH X (.builtin "max") (fun xs H Q=>∃i j,xs=[.int i,.int j]/\Q (.int (if j > i then j else i)) H):=by
 intro pins s σ H xs us Q I r h
 obtain⟨i,j,rfl,q⟩:=h
 obtain⟨u,w',rfl,⟨t,rfl⟩,⟨t',rfl⟩⟩:=vals2 r
 refine max_two_ints (I.ok.hd hc) fun h' tk k=>⟨_,H,I.kept k,?_,q⟩
 by_cases hj:j > i
 ·rw[if_pos hj,if_pos hj];exact⟨_,rfl⟩
 ·rw[if_neg hj,if_neg hj];exact⟨_,rfl⟩
end
end L2
namespace L2
open PySem PySem.Spec PyProof.Rows
structure ObjM (h:Heap)(x dx C:Addr)(mA:Str->Option Value):Prop where
 obj:h.get? x=some (PySem.W.instObj C dx)
 ns:h.Ns1 dx mA
 ne:dx≠x
theorem X1 {h:Heap}{dx:Addr}{mA:Str->Option Value}(n:h.Ns1 dx mA):∃od,h.get? dx=some od/\∀name,PySem.W.lookIn name od=some (mA name):=by
 obtain⟨o,es,ep,ho,hd,hk,_,hm⟩:=n
 refine⟨o,ho,fun name=>?_⟩
 have e:=hm name
 unfold nsFind findBy at e
 rw[<-Array.find?_toList]at e
 unfold PySem.W.lookIn
 rw[hd]
 dsimp only
 split
 ·rename_i y q
  rw[q]at e
  exact congrArg some e
 ·rename_i q
  rw[q]at e
  have a:es.toList.any (·.refKey)=false:=by
   rw[List.any_eq_false]
   intro y hy
   obtain⟨z,t,hkey⟩:=hk y (Array.mem_toList_iff.mp hy)
   simp[DictEntry.refKey,hkey]
  have a':¬ es.toList.any (·.refKey)=true:=by rw[a];exact Bool.false_ne_true
  rw[if_neg a']
  exact congrArg some e
theorem ObjM.look {h:Heap}{x dx C:Addr}{mA:Str->Option Value}(I:ObjM h x dx C mA):∃od,PySem.W.InstAt h x (PySem.W.instObj C dx) C (some od)/\∀name,PySem.W.lookIn name od=some (mA name):=
 let ⟨od,ho,hl⟩:=X1 I.ns
 ⟨od,⟨I.obj,rfl,rfl,ho⟩,hl⟩
theorem RelO.some_of {v:V}{o:Option Value}(r:RelO (some v) o):∃u,o=some u/\RelV v u:=by
 cases o with
 |none=>exact (show False from r).elim
 |some u=>exact⟨u,rfl,r⟩
section
variable {P:Program} {w:World} {H H':Hp} {h h':Heap} {a C dx:Addr} {fs fs':List (Str×V)}
theorem BK_ (hok:HOk P w H h)(e:H a=some (.ins C dx fs)):∃mA,ObjM h a dx C mA/\(∀f,RelO (fs.lookup f) (mA f))/\PySem.Within mA (fs.map (·.1))/\fs.length<=1000/\H dx=some (.own a):=by
 obtain⟨d,z,ne,ob,mA,n,r,q⟩:=(show Bq P w H h a (.ins C dx fs) from hok a _ e)
 exact⟨mA,⟨ob,n,ne⟩,r,q,z,d⟩
end
structure Cls (K:PySem.W.Frag)(C:Addr):Prop where
 pg:PySem.W.plainGet K C Str.empty=true
 hd:PySem.W.hasDictIn K C=true
 po:PySem.W.plainOver K C=true
 sa:PySem.W.findIn K (.ref C) "__setattr__"=some (some (.builtin "object.__setattr__"))
theorem Cls.get {K:PySem.W.Frag}{C:Addr}(c:Cls K C)(f:Str):PySem.W.plainGet K C f=true:=c.pg
section
variable {X:Cx} {pins:List (Addr×Obj)} {σ:St} {H:Hp} {s:Shared} {A:Around} {E:Value->Shared->Prop} {Q:Value->Shared->Prop} {c:Value} {b:Bool}
inductive TyOf (K:PySem.W.Frag)(H:Hp):V->Value->Prop where
 | non:TyOf K H .non (.type "NoneType")
 | bl (x:Bool):TyOf K H (.bl x) (.type "bool")
 | int (i:Int):TyOf K H (.int i) (.type "int")
 | str (x:Str):TyOf K H (.str x) (.type "str")
 | flt (x:UInt64):TyOf K H (.flt x) (.type "float")
 | lst {a:Addr} {xs:List V} (e:H a=some (.lst xs)):TyOf K H (.ref a) (.type "list")
 | frz {a:Addr} {o:Obj} {xs:List V} (e:H a=some (.frz o (.lst xs))):TyOf K H (.ref a) (.type "list")
 | tup {a:Addr} {xs:List V} (e:H a=some (.tup xs)):TyOf K H (.ref a) (.type "tuple")
 | dK {a:Addr} {kvs:List (Key×V)} (e:H a=some (.dK kvs)):TyOf K H (.ref a) (.type "dict")
 | dT {a:Addr} {kvs:List (List Key×V)} (e:H a=some (.dT kvs)):TyOf K H (.ref a) (.type "dict")
 | ins {a C dx:Addr} {fs:List (Str×V)} (e:H a=some (.ins C dx fs)) (cl:Cls K C) (ha:PySem.W.findIn K (.ref C) "__class__"=some (some (.builtin "object.__class__")))
   (hn:PySem.W.specialIn K (.builtin "object.__class__") "__get__"=some (some (.builtin "getset_descriptor.__get__"))) (htk:PySem.W.takesIn K (.builtin "object.__class__")=some true)
   (hm:PySem.W.mroIn K C (.type "object")=some true):TyOf K H (.ref a) (.ref C)
theorem X2 {x:V}{u t:Value}(I:Inv X pins σ H s)(rx:RelV x u)(ty:TyOf X.K H x t)(e:PySem.W.kitOne X.K t c=some b)(h:∀tk,Q (.bool b) {s with toks:=tk}):
  wpAny (model X.prog X.w) A (call (.builtin "isinstance") [u,c]) Q E s:=by
 cases ty with
 |non=>cases (show u=Value.none from rx);exact PySem.W.kia_one PySem.W.kitx_none I.kIn True.intro e (fun z=>nomatch z) h
 |bl y=>cases (show u=Value.bool y from rx);exact PySem.W.kia_one PySem.W.kitx_bool I.kIn True.intro e (fun z=>nomatch z) h
 |int i=>obtain⟨t,q⟩:=(show ∃t,u=Value.int i t from rx);cases q;exact PySem.W.kia_one PySem.W.kitx_int I.kIn True.intro e (fun z=>nomatch z) h
 |str y=>obtain⟨t,q⟩:=(show ∃t,u=Value.str y t from rx);cases q;exact PySem.W.kia_one PySem.W.kitx_str I.kIn True.intro e (fun z=>nomatch z) h
 |flt y=>obtain⟨t,q⟩:=(show ∃t,u=Value.float y t from rx);cases q;exact PySem.W.kia_one PySem.W.kitx_float I.kIn True.intro e (fun z=>nomatch z) h
 |@lst a xs ea=>
  cases (show u=Value.ref a from rx)
  obtain⟨_,_,n,_,h1⟩:=(show Bq X.prog X.w H s.heap a (.lst xs) from I.hok a _ ea)
  exact PySem.W.kia_one PySem.W.kitx_list I.kIn ⟨_,h1,rfl⟩ e (fun z=>nomatch z) h
 |@frz a ob xs ea=>
  cases (show u=Value.ref a from rx)
  obtain⟨_,_,_,n,_,h1⟩:=(show Bq X.prog X.w H s.heap a (.frz ob (.lst xs)) from I.hok a _ ea)
  exact PySem.W.kia_one PySem.W.kitx_list I.kIn ⟨_,h1,rfl⟩ e (fun z=>nomatch z) h
 |@tup a xs ea=>
  cases (show u=Value.ref a from rx)
  obtain⟨_,_,_,p⟩:=(show Bq X.prog X.w H s.heap a (.tup xs) from I.hok a _ ea)
  obtain⟨o,h1,h2,_⟩:=p
  exact PySem.W.kia_one PySem.W.kitx_tuple I.kIn ⟨o,h1,h2⟩ e (fun z=>nomatch z) h
 |@dK a kvs ea=>
  cases (show u=Value.ref a from rx)
  obtain⟨_,_,vs,_,p⟩:=(show Bq X.prog X.w H s.heap a (.dK kvs) from I.hok a _ ea)
  obtain⟨o,es,ep,h1,h2,_⟩:=p
  exact PySem.W.kia_one PySem.W.kitx_dict I.kIn ⟨o,h1,h2.1⟩ e (fun z=>nomatch z) h
 |@dT a kvs ea=>
  cases (show u=Value.ref a from rx)
  obtain⟨_,_,xs,_,o,es,ep,h1,h2,_⟩:=(show Bq X.prog X.w H s.heap a (.dT kvs) from I.hok a _ ea)
  exact PySem.W.kia_one PySem.W.kitx_dict I.kIn ⟨o,h1,h2.1⟩ e (fun z=>nomatch z) h
 |@ins a C dx fs ea cl ha hn htk hm=>
  cases (show u=Value.ref a from rx)
  obtain⟨mA,O,_⟩:=BK_ I.hok ea
  obtain⟨od,J,_⟩:=O.look
  exact PySem.W.kia_one (PySem.W.kitx_own (cl.get _) cl.hd ha hn htk hm) I.kIn J e (fun z=>nomatch z) h
end
end L2
namespace L2
open PySem PySem.Spec PyProof.Rows
structure Room (k:Nat)(A:Around):Prop where
 hd:A.handled=none
 dp:A.depth+3*k+5<recursionLimit
 un:A.units+16*k+200<cLine
theorem Room.mono {j k:Nat}{A:Around}(r:Room k A)(h:j<=k):Room j A:=⟨r.hd,by have:=r.dp;omega,by have:=r.un;omega⟩
theorem Room.deeper {k:Nat}{A:Around}(r:Room (k+1) A)(env:Env):Room k (A.deeper env):=
 ⟨r.hd,by have:=r.dp;show A.depth+1+3*k+5<_;omega,by have:=r.un;show A.units+3+16*k+200<_;omega⟩
theorem Room.depth {k:Nat}{A:Around}(r:Room k A):A.depth<recursionLimit:=by have:=r.dp;omega
theorem Room.units {k:Nat}{A:Around}(r:Room k A):A.units+64<cLine:=by have:=r.un;omega
theorem Room.units0 {k:Nat}{A:Around}(r:Room k A):A.units<cLine:=by have:=r.un;omega
def tNil:TA:=fun _ H Q=>Q [] H
def CU_ (ta:TE)(tr:TA):TA:=fun σ H Q=>ta σ H fun x H1=>tr σ H1 fun xs H2=>Q (x::xs) H2
section
variable {X:Cx} {e:Expr} {es:List Expr} {te:TE} {t:TA} {pos:Pos}
theorem Ab:PA X [] tNil:=fun _ _ _ _ H Q I h=>Calls.spliced_nil ⟨[],H,I,.nil,h⟩
theorem Aa (ha:PE X e te)(hr:PA X es t)(hs:starEach (e::es) X.env=(false,eval e X.env)::starEach es X.env:=by rfl):PA X (e::es) (CU_ te t):=by
 intro pos pins s σ H Q I h
 rw[hs]
 show wpAny _ _ (spliced ((false,eval e X.env)::backTo pos (starEach es X.env))) _ _ s
 refine Calls.spliced_cons (thn (ha pins s σ H _ I h) fun u s1 ⟨x,H1,I1,r1,q1⟩=>?_)
 exact thn (hr pos pins s1 σ H1 _ I1 q1) fun us s2 ⟨xs,H2,I2,r2,q2⟩=>⟨x::xs,H2,I2,.cons r1 r2,q2⟩
def tTup (t:TA):TE:=fun σ H Q=>t σ H fun xs H1=>xs.length<=sizeLine/\∀p,H1 p=none->Q (.ref p) (upd H1 p (.tup xs))
def tLst (t:TA):TE:=fun σ H Q=>t σ H fun xs H1=>xs.length<=sizeLine/\∀p,H1 p=none->Q (.ref p) (upd H1 p (.lst xs))
theorem Bz {x1}(h:PA X es t):PE X (.Tuple es x1 pos) (tTup t):=by
 intro pins s σ H Q I hq
 refine wpAny_Tuple_spliced (thn (h pos pins s σ H _ I hq) fun us s1 ⟨xs,H1,I1,r,z,q⟩=>⟨by rw[<-r.length];exact z,?_⟩)
 have hf:H1 s1.heap.objs.size=none:=I1.hok.fresh (Nat.le_refl _)
 refine⟨.ref s1.heap.objs.size,upd H1 s1.heap.objs.size (.tup xs),I1.laid (t':=s1.toks) (fun b u e=>Heap.get?_push_of_some _ e) (Nat.le_refl _) ?_,rfl,q _ hf⟩
 exact⟨z,us,r,⟨_,Heap.get?_push_size _ rfl,rfl,_,rfl⟩⟩
theorem Fm (h:PA X es t):PE X (.List es pos) (tLst t):=by
 intro pins s σ H Q I hq
 refine wpAny_List_spliced (thn (h pos pins s σ H _ I hq) fun us s1 ⟨xs,H1,I1,r,z,q⟩=>⟨by rw[<-r.length];exact z,?_⟩)
 have hf:H1 s1.heap.objs.size=none:=I1.hok.fresh (Nat.le_refl _)
 refine⟨.ref s1.heap.objs.size,upd H1 s1.heap.objs.size (.lst xs),I1.laid (t':=s1.toks) (fun b u e=>Heap.get?_push_of_some _ e) (Nat.le_refl _) ?_,rfl,q _ hf⟩
 exact⟨z,us,0,r,Heap.get?_push_size _ rfl⟩
end
abbrev Sp:=List V->Hp->VK->XK->Prop
abbrev CXT:=List Env->Hp->Shared->XK->Value->Shared->Prop
structure Env0 (P:Program)(w:World)(K:PySem.W.Frag)(mg:Str->Option Value)(base:Heap)(A:Around)(outer:List Env)(s:Shared)(H:Hp):Prop where
 frames:A.frames=some outer
 mod:Mod K mg base
 bs:∀b o,base.get? b=some o->s.heap.get? b=some o/\H b=none
 bsz:base.objs.size<=s.heap.objs.size
 funs:s.heap.FunFrames base outer
 frf:∀b∈frs outer,H b=none
 hok:HOk P w H s.heap
 bare:AllBare s.gens
def CE (outer:List Env)(P:Program)(w:World)(H:Hp)(s:Shared)(Q:VK)(u:Value)(s':Shared):Prop:=
 ∃v H',s'.os=s.os/\AllBare s'.gens/\Un (frs outer) [] H H' s.heap s'.heap/\HOk P w H' s'.heap/\RelV v u/\Q v H'
def CR (CX:CXT)(outer:List Env)(P:Program)(w:World)(H:Hp)(s:Shared)(Q:VK)(E:XK)(r:Result)(s':Shared):Prop:=
 match r with
 |.ok (.ret u)=>CE outer P w H s Q u s'
 |.ok _=>False
 |.error e=>CX outer H s E e s'
structure FnOk (P:Program)(w:World)(K:PySem.W.Frag)(mg:Str->Option Value)(base:Heap)(CX:CXT)(k:Nat)(f:Addr)(fd:FuncData)(ps:List Str)(sp:Sp):Prop where
 len:∀vs H Q E,sp vs H Q E->vs.length=ps.length
 run:∀(A:Around) (outer:List Env) (s:Shared) (H:Hp) (args:Args) (us:List Value) (vs:List V) (Q:VK) (E:XK),Room k A->Env0 P w K mg base A outer s H->BindsTo s fd args (ps.zip us)->Vals vs us->sp vs H Q E ->
  codeAny (model P w) A (.call (.ref f) args) (CR CX outer P w H s Q E) s
section
variable {X:Cx} {pins:List (Addr×Obj)} {σ:St} {H:Hp} {s s':Shared}
theorem Inv.env0 (I:Inv X pins σ H s):Env0 X.prog X.w X.K X.mg X.base X.A X.stack s H:=
 ⟨I.ok.frames,I.ok.mod,I.bs,Nat.le_trans I.ok.bsz I.sz,I.stack,I.stkFree,I.hok,I.bare⟩
theorem Inv.after {Q:VK}{u:Value}(I:Inv X pins σ H s)(h:CE X.stack X.prog X.w H s Q u s'):EP X pins σ Q u s':=by
 obtain⟨v,H',os,bare,un,hok,r,q⟩:=h
 obtain⟨hh,g,d,t,os'⟩:=s'
 obtain rfl:os'=s.os:=os
 exact⟨v,H',I.call (h':=hh) (g':=g) (d':=d) (t':=t) (ch:=[]) un hok bare (fun b z=>absurd z (by simp)),r,q⟩
end
def CV_ (sp:Sp)(dvs:List V)(E:XK)(t:TA):TE:=fun σ H Q=>t σ H fun vs H1=>sp (vs++dvs) H1 Q E
def Binds (K:PySem.W.Frag)(fd:FuncData)(ps:List Str)(ds:List Value):Prop:=
 ∀(s:Shared) (us:List Value),K.In s.heap->(us++ds).length=ps.length->BindsTo s fd ⟨us,[]⟩ (ps.zip (us++ds))
theorem Binds.all {K:PySem.W.Frag}{fd:FuncData}{ps:List Str}(h:∀us:List Value,us.length=ps.length->bindArgs fd ⟨us,[]⟩=pure (ps.zip us)):Binds K fd ps []:=fun s us _ hl=>by
 rw[List.append_nil]at hl ⊢
 exact .of_eq (h us hl)
def SR (CX:CXT)(X:Cx)(E:XK):Prop:=∀(pins:List (Addr×Obj)) (σ:St) (H:Hp) (s:Shared) (e:Value) (s':Shared),Inv X pins σ H s->CX X.stack H s E e s'->X.xe e s'
section
variable {X:Cx} {CX:CXT} {k:Nat} {f C:Addr} {fd:FuncData} {ps:List Str} {sp:Sp} {dvs:List V} {ds:List Value} {E:XK} {x m:Str} {p pos apos:Pos} {e o:Expr} {es:List Expr} {ta:TE} {t:TA}
theorem CW_ {pins:List (Addr×Obj)}{σ:St}{H:Hp}{s:Shared}{Q:VK}{us:List Value}{vs:List V}(F:FnOk X.prog X.w X.K X.mg X.base CX k f fd ps sp)(hr:Room k X.A)(hb:Binds X.K fd ps ds)(hd:Vals dvs ds)(hx:SR CX X E)
  (I:Inv X pins σ H s) (r:Vals vs us) (h:sp (vs++dvs) H Q E):wpAny (model X.prog X.w) X.A (call (.ref f) us) (EP X pins σ Q) X.xe s:=by
 have r2:Vals (vs++dvs) (us++ds):=r.append hd
 have hl:(us++ds).length=ps.length:=by rw[<-r2.length];exact F.len _ _ _ _ h
 refine wpAny_call (codeAny_mono (F.run X.A X.stack s H ⟨us,[]⟩ (us++ds) (vs++dvs) Q E hr I.env0 (hb s us I.kIn hl) r2 h) fun r s' hq=>?_)
 cases r with
 |error e=>exact hx pins σ H s e s' I hq
 |ok fl=>
  cases fl with
  |ret u=>exact I.after hq
  |next=>exact False.elim hq
  |brk=>exact False.elim hq
  |cont=>exact False.elim hq
theorem Ah (F:FnOk X.prog X.w X.K X.mg X.base CX k f fd ps sp)(hr:Room k X.A)(hg:Gl X x)(hm:X.mg x=some (.ref f))(hk:PySem.W.keepIn X.K (.ref f)=true)(hb:Binds X.K fd ps ds)(hd:Vals dvs ds)(hx:SR CX X E)
  (ha:PA X (e::es) t) (hdb:(x==("__debug__" : Str))=false:=by decide) (he:starEach (e::es) X.env=(false,eval e X.env)::starEach es X.env:=by rfl) (hpl:(backTo pos (starEach es X.env)).any (·.1)=false:=by rfl):
  PE X (.Call (.Name x p) (e::es) [] pos) (CV_ sp dvs E t):=by
 intro pins s σ H Q I h
 refine wpAny_Call_Name_kw (XQ I hg hm ?_ hdb)
 refine PySem.W.callWith_K (h₀:=X.base) I.ok.mod.kin hk (thn (ha pos pins s σ H _ I h) fun us s1 ⟨vs,H1,I1,r,q⟩=>⟨I1.kIn,?_⟩) he hpl
 exact CW_ F hr hb hd hx I1 r q
end
structure FnScope (N P:List Str)(sc:Scope):Prop where
 kind:sc.kind=.function
 co:sc.isCoroutine=false
 gen:sc.isGenerator=false
 nd:N.Nodup
 pre:N.take P.length=P
 par:∀x∈P,sc.names.lookup x=some .local\/sc.names.lookup x=some .cell
 nofree:∀y∈sc.names,y.2 ≠ .free
theorem SS {kindOf:Str->Option NameKind}{x:Str}:∀{binds:List (Str×Value)} {m:Str->Option Value},(∀v,(x,v)∉binds)->bindL kindOf binds m x=m x
 |[],_,_=>rfl
 | (n,v)::r,m,h=>by
  unfold bindL
  rw[SS fun w hw=>h w (List.mem_cons_of_mem _ hw)]
  split
  ·have:x≠n:=by rintro rfl;exact h v List.mem_cons_self
   simp[this]
  ·rfl
theorem SU {kindOf:Str->Option NameKind}{x:Str}:∀{binds:List (Str×Value)} {m:Str->Option Value},(∀v,(x,v)∉binds)->bindC kindOf binds m x=m x
 |[],_,_=>rfl
 | (n,v)::r,m,h=>by
  unfold bindC
  rw[SU fun w hw=>h w (List.mem_cons_of_mem _ hw)]
  split
  ·rfl
  ·have:x≠n:=by rintro rfl;exact h v List.mem_cons_self
   simp[this]
theorem SV {kindOf:Str->Option NameKind}{x:Str}{v:Value}:∀{P:List Str} {vs:List Value} {i:Nat} {m:Str->Option Value},P.Nodup->P[i]?=some x->vs[i]?=some v->kindOf x=some .local ->
  bindL kindOf (P.zip vs) m x=some v
 |[],_,_,_,_,h,_,_=>by simp at h
 |_::_,[],_,_,_,_,h,_=>by simp at h
 |p::P,w::vs,0,m,nd,h1,h2,hk=>by
  simp at h1 h2;subst h1;subst h2
  show bindL kindOf ((p,w)::P.zip vs) m p=_
  unfold bindL
  rw[SS fun v hv=>(List.nodup_cons.mp nd).1 (List.of_mem_zip hv).1,if_pos hk]
  simp
 |p::P,w::vs,i+1,m,nd,h1,h2,hk=>by
  show bindL kindOf ((p,w)::P.zip vs) m x=_
  unfold bindL
  exact SV (i:=i) (List.nodup_cons.mp nd).2 (by simpa using h1) (by simpa using h2) hk
theorem SW {kindOf:Str->Option NameKind}{x:Str}{v:Value}:∀{P:List Str} {vs:List Value} {i:Nat} {m:Str->Option Value},P.Nodup->P[i]?=some x->vs[i]?=some v->kindOf x≠some .local ->
  bindC kindOf (P.zip vs) m x=some v
 |[],_,_,_,_,h,_,_=>by simp at h
 |_::_,[],_,_,_,_,h,_=>by simp at h
 |p::P,w::vs,0,m,nd,h1,h2,hk=>by
  simp at h1 h2;subst h1;subst h2
  show bindC kindOf ((p,w)::P.zip vs) m p=_
  unfold bindC
  rw[SU fun v hv=>(List.nodup_cons.mp nd).1 (List.of_mem_zip hv).1,if_neg hk]
  simp
 |p::P,w::vs,i+1,m,nd,h1,h2,hk=>by
  show bindC kindOf ((p,w)::P.zip vs) m x=_
  unfold bindC
  exact SW (i:=i) (List.nodup_cons.mp nd).2 (by simpa using h1) (by simpa using h2) hk
def start (N:List Str)(vs:List V):St:=vs.map some++List.replicate (N.length-vs.length) none
def cxOf (CX:CXT)(P:Program)(w:World)(K:PySem.W.Frag)(mg:Str->Option Value)(base:Heap)(N:List Str)(qual:Str)(scope:Scope)(f:Addr)(cd:Value)(A:Around)(outer:List Env)(s:Shared)(H:Hp)(E:XK):Cx where
 prog:=P
 w:=w
 K:=K
 mg:=mg
 base:=base
 A:=A.deeper (envOfC qual scope s.heap.objs.size f cd)
 N:=N
 s₀:=s
 H₀:=H
 env:=envOfC qual scope s.heap.objs.size f cd
 outer:=outer
 stack:=envOfC qual scope s.heap.objs.size f cd::outer
 ex:=[]
 calm:=true
 fn:=fun _=>true
 pn:=[]
 xe:=fun e s'=>wpAny (model P w) (A.deeper (envOfC qual scope s.heap.objs.size f cd)) (leaving (envOfC qual scope s.heap.objs.size f cd) e) (fun _ s''=>CX outer H s E e s'') (fun e' s''=>CX outer H s E e' s'') s'
theorem VI {sc:Scope}{n:Nat}{x:Str}(h:sc.names.lookup x=some .cell):∃c,(cellsFrom n sc.names []).lookup x=some c:=by
 have q:=PySem.W.cellsFrom_some sc.names n [] (.inl h)
 exact Option.isSome_iff_exists.mp q
theorem X3 {CX:CXT}{P:Program}{w:World}{K:PySem.W.Frag}{mg:Str->Option Value}{base:Heap}{N ps:List Str}{qual:Str}{scope:Scope}{f:Addr}{cd:Value}{A:Around}{outer:List Env}{s s1:Shared}{H:Hp}{E:XK}{us:List Value}{vs:List V}
  (S:FnScope N ps scope) (hd:A.handled=none) (e0:Env0 P w K mg base A outer s H) (hl:vs.length=ps.length) (r:Vals vs us)
  (x:InCallC s s.heap.objs.size (bindL (envOfC qual scope s.heap.objs.size f cd).kindOf (ps.zip us) fun _=>none) (cellsFrom (s.heap.objs.size+1) scope.names []) (bindC (envOfC qual scope s.heap.objs.size f cd).kindOf (ps.zip us) fun _=>none) s1):
  Inv (cxOf CX P w K mg base N qual scope f cd A outer s H E) [] (start N vs) H s1:=by
 have hpl:ps.length<=N.length:=by have:=congrArg List.length S.pre;rw[List.length_take]at this;omega
 obtain⟨h1,tk,rfl,hk⟩:=x.done
 have noA:∀b:Addr,b∉(cxOf CX P w K mg base N qual scope f cd A outer s H E).ex:=fun b z=>absurd (show b∈([]:List Addr) from z) (by simp)
 refine⟨⟨e0.mod,S.kind,rfl,rfl,Nat.le_refl _,fun y z c h1 h2=>?_,fun y hy=>?_,fun y c _ h=>?_,fun _=>hd,Around.frames_deeper e0.frames,.inr ⟨rfl,rfl⟩,fun b z=>absurd z (noA b),e0.bs,e0.bsz,fun b _ _=>noA b,fun b z=>absurd z (noA b),e0.funs,e0.frf⟩,
  rfl,e0.bare,Un.kept hk,⟨_,x.toInCall.ns,fun i y v h1 h2 h3=>?_⟩,fun y c h=>⟨_,x.cell y c h⟩,e0.hok.fresh (Nat.le_refl _),fun y c h=>?_,fun p hp=>absurd (show p∈([]:List (Addr×Obj)) from hp) (by simp),e0.hok.kept hk,?_⟩
 ·exact name_of_addr x.apart (PySem.mem_of_lookup h1) (PySem.mem_of_lookup h2)
 ·have hy:scope.names.lookup y=some .cell\/scope.names.lookup y=some .free:=hy
  rcases hy with hy|hy
  ·exact VI hy
  ·exact absurd rfl (S.nofree _ (PySem.mem_of_lookup hy))
 ·exact Nat.le_of_lt (x.above y c (PySem.mem_of_lookup h))
 ·have hi:i<vs.length:=by
   unfold start at h2
   by_cases hi:i<vs.length
   ·exact hi
   ·rw[List.getElem?_append_right (by simpa using hi)]at h2
    rw[List.getElem?_replicate]at h2
    split at h2<;>cases h2
  have ha:vs[i]?=some v:=by
   unfold start at h2
   rw[List.getElem?_append_left (by simpa using hi),List.getElem?_map]at h2
   cases e:vs[i]? with
   |none=>rw[e]at h2;cases h2
   |some a=>rw[e]at h2;cases h2;rfl
  obtain⟨u,hu,rv⟩:=r.get ha
  have hp:ps[i]?=some y:=by
   rw[<-S.pre,List.getElem?_take_of_lt (by omega)];exact h1
  have ndP:ps.Nodup:=by rw[<-S.pre];exact S.nd.sublist (List.take_sublist _ _)
  refine⟨u,rv,?_⟩
  rcases S.par y (List.mem_of_getElem? hp) with k|k
  ·exact .inl ⟨k,SV ndP hp hu k⟩
  ·obtain⟨c,e⟩:=VI (n:=s.heap.objs.size+1) k
   refine .inr ⟨.inl k,c,e,?_⟩
   have q:=x.cell y c e
   rw[SW ndP hp hu (by show scope.names.lookup y≠_;rw[k];decide)]at q
   exact q
 ·exact e0.hok.fresh (Nat.le_of_lt (x.above y c (PySem.mem_of_lookup h)))
 ·unfold start
  show _=N.length
  rw[List.length_append,List.length_map,List.length_replicate]
  omega
theorem CX_ {CX:CXT}{P:Program}{w:World}{K:PySem.W.Frag}{mg:Str->Option Value}{base:Heap}{k:Nat}{f:Addr}{name qual:Str}{params:Arguments}{body:List Stmt}{scope:Scope}{dV kV doc pm cdv ct oc:Value}{an od:Option Addr}
  {osl:Array (Option Value)} {N ps:List Str} {sp:Sp} (lk:K.lookup f=some ⟨oc,od,.func (PySem.W.fnOf name qual params body scope dV kV doc pm an cdv ct),osl⟩) (hcd:PySem.W.codeIn K cdv qual=true) (S:FnScope N ps scope)
  (len:∀vs H Q E,sp vs H Q E->vs.length=ps.length)
  (hbody:∀(A:Around) (outer:List Env) (s:Shared) (H:Hp) (vs:List V) (Q:VK) (E:XK),Room k (A.deeper (envOfC qual scope s.heap.objs.size f cdv))->sp vs H Q E ->
   ∃t,PSs (cxOf CX P w K mg base N qual scope f cdv A outer s H E) body t/\t {nx:=fun _ H'=>Q .non H',rt:=Q} (start N vs) H):
  FnOk P w K mg base CX (k+1) f (PySem.W.fnOf name qual params body scope dV kV doc pm an cdv ct) ps sp:=by
 refine⟨len,fun A outer s H args us vs Q E hr e0 hb r hsp=>?_⟩
 have hl:=len _ _ _ _ hsp
 have KX:K.In s.heap:=e0.mod.kin.keeps fun b o e=>(e0.bs b o e).1
 have lim:s.heap.NoLimit:=e0.mod.nolimit.keeps fun b o e=>(e0.bs b o e).1
 have hkind:∀y∈ps.zip us,scope.names.lookup y.1=some .local\/(scope.names.lookup y.1=some .cell/\((cellsFrom (s.heap.objs.size+1) scope.names []).lookup y.1).isSome=true):=fun ⟨n,v⟩ hy=>by
  rcases S.par n (List.of_mem_zip hy).1 with q|q
  ·exact .inl q
  ·exact .inr ⟨q,PySem.W.cellsFrom_some _ _ _ (.inl q)⟩
 refine codeAny_call_function hr.depth (KX _ _ lk) rfl S.co S.gen rfl (PySem.W.codeRec_of KX hcd) (hb _ _ _ _ ?_)
 refine wpAny_newFunctionEnv_cells S.kind hkind fun env he s1 x=>?_
 subst he
 refine⟨lim.keeps x.toInCall.keep,codeAny_func ?_⟩
 obtain⟨t,ht,hq⟩:=hbody A outer s H vs Q E (hr.deeper _) hsp
 have I:Inv (cxOf CX P w K mg base N qual scope f cdv A outer s H E) [] (start N vs) H s1:=X3 S hr.hd e0 hl r x
 refine wpAny_mono (ht [] s1 (start N vs) H _ I hq) (fun fl s' hs=>?_) fun e s' hs=>hs
 have fin:∀{σ':St} {H':Hp} {v:V} {u:Value},Inv (cxOf CX P w K mg base N qual scope f cdv A outer s H E) [] σ' H' s'->RelV v u->Q v H'->CE outer P w H s Q u s' :=
  fun {σ' H' v u} J rv q=>⟨v,H',J.os,J.bare,J.base,J.hok,rv,q⟩
 cases fl with
 |ret u=>
  obtain⟨v,σ',H',J,rv,q⟩:=hs
  exact fin J rv q
 |next=>
  obtain⟨σ',H',J,q⟩:=hs
  exact fin (v:=V.non) (u:=Value.none) J rfl q
 |brk=>
  obtain⟨_,_,_,q⟩:=hs
  exact False.elim q
 |cont=>
  obtain⟨_,_,_,q⟩:=hs
  exact False.elim q
end L2
namespace L2
open PySem PySem.Spec PyProof.Rows
section
variable {X:Cx} {x:Str} {p pos:Pos} {e:Expr} {es:List Expr} {t:TA} {id T:String} {r:List V->Hp->VK->Prop}
def tCB (r:List V->Hp->VK->Prop)(t:TA):TE:=fun σ H Q=>t σ H fun vs H1=>r vs H1 Q
theorem Ak (hc:HH X (.builtin id) r)(hg:Gl X x)(hm:X.mg x=none)(hv:bootBuiltins x=some (.builtin id))(ha:PA X (e::es) t)(hn:x ≠ "__name__" := by decide)(hdb:(x==("__debug__" : Str))=false:=by decide)
  (he:starEach (e::es) X.env=(false,eval e X.env)::starEach es X.env:=by rfl) (hpl:(backTo pos (starEach es X.env)).any (·.1)=false:=by rfl):PE X (.Call (.Name x p) (e::es) [] pos) (tCB r t):=by
 intro pins s σ H Q I h
 refine wpAny_Call_Name_kw (LN I hg hm hv ?_ hn hdb)
 exact PyProof.Rows.callWith_builtin1 (thn (ha pos pins s σ H _ I h) fun us s1 ⟨vs,H1,I1,r1,q1⟩=>hc pins s1 σ H1 vs us Q I1 r1 q1) he hpl
theorem Ax (hc:HH X (.type T) r)(hg:Gl X x)(hm:X.mg x=none)(hv:bootBuiltins x=some (.type T))(ha:PA X (e::es) t)(hn:x ≠ "__name__" := by decide)(hdb:(x==("__debug__" : Str))=false:=by decide)
  (he:starEach (e::es) X.env=(false,eval e X.env)::starEach es X.env:=by rfl) (hpl:(backTo pos (starEach es X.env)).any (·.1)=false:=by rfl):PE X (.Call (.Name x p) (e::es) [] pos) (tCB r t):=by
 intro pins s σ H Q I h
 refine wpAny_Call_Name_kw (LN I hg hm hv ?_ hn hdb)
 exact PyProof.Rows.callWith_type1 (thn (ha pos pins s σ H _ I h) fun us s1 ⟨vs,H1,I1,r1,q1⟩=>hc pins s1 σ H1 vs us Q I1 r1 q1) he hpl
end
end L2
namespace HT
open PySem PyProof.Rows
def lexLt:List Int->List Int->Bool
 |[],[]=>false
 |[],_::_=>true
 |_::_,[]=>false
 |x::xs,y::ys=>if x=y then lexLt xs ys else decide (x<y)
theorem lexLt_cons (x y:Int)(xs ys:List Int):lexLt (x::xs) (y::ys)=if x=y then lexLt xs ys else decide (x<y):=rfl
theorem PR:lexLt [] []=false:=rfl
theorem N2 (y:Int)(ys:List Int):lexLt [] (y::ys)=true:=rfl
theorem N3 (x:Int)(xs:List Int):lexLt (x::xs) []=false:=rfl
theorem ZF (A:Around)(s:Shared)(a:Int)(t:Tok)(c:Int)(u:Tok):∃e,SeqAt.EqAt A s (.int a t) (.int c u) e/\(e=true↔a=c):=
 ⟨(a==c),SeqAt.EqAt.int_int a t c u,by simp⟩
theorem ZG (A:Around)(s:Shared)(a:Int)(t:Tok)(c:Int)(u:Tok)(prog:Program)(w:World)(E:Value->Shared->Prop)(Q:Value->Shared->Prop)(h:Q (.bool (decide (a<c))) s):
  wpAny (model prog w) A (richCompare .Lt (.int a t) (.int c u)) Q E s:=
 (PyProof.Rows.lt_int h:wpAny (model prog w) A (compareOp .Lt (.int a t) (.int c u)) Q E s)
section
open PySem.SeqAt
open PySem.AutoSeq1 (wpAny_loadPart')
open PySem.MeetsSeq PySem.MeetsSeq2 PySem.MeetsSeq3
theorem PU (l b:Addr)(items items2:Array Value)(n n2:Nat)(dd dd2:Option Addr)(sl sl2:Array (Option Value))(ns ms:List Int)(hi:IntsAre items.toList ns)(hj:IntsAre items2.toList ms):
  Meets (Builtin.«tuple.__lt__» ⟨[.ref l,.ref b],[]⟩)
   (fun _ R s=>s.heap.get? l=some {cls:=.type "tuple",dict:=dd,data:=.seq items n,slots:=sl}/\s.heap.get? b=some {cls:=.type "tuple",dict:=dd2,data:=.seq items2 n2,slots:=sl2} /\
    R (.ok (.ret (.bool (lexLt ns ms)))) s):=
 .of_wp fun prog w A R s h=>by
  obtain⟨hp,g,d,tk,os⟩:=s;obtain⟨hl,hb,h⟩:=h
  have f2:=AutoSeq1.sub_tuple_tuple
  have z1:items.size=ns.length:=by rw[<-hi.length];simp
  have z2:items2.size=ms.length:=by rw[<-hj.length];simp
  wp_walk using wpAny_loadPart' hl,wpAny_loadPart' hb,wpAny_forIn_list _ (fun rest b s'=>b.1=none/\s'=⟨hp,g,d,tk,os⟩/\∃(vs ws:List Value) (ns' ms':List Int),rest=vs.zip ws /\
   IntsAre vs ns'/\IntsAre ws ms'/\ns'.length+items2.size=ms'.length+items.size/\R (.ok (.ret (.bool (lexLt ns' ms')))) ⟨hp,g,d,tk,os⟩) _
  case turn=>
   rintro⟨y,x⟩ rest b s' ⟨hb',rfl,vs,ws,ns',ms',hz,hvi,hwi,hlen,hR⟩
   cases hvi with
   |nil=>rw[List.zip_nil_left]at hz;cases hz
   |cons a t hvi' =>
    cases hwi with
    |nil=>rw[List.zip_nil_right]at hz;cases hz
    |cons c u hwi' =>
     rw[List.zip_cons_cons]at hz
     injection hz with hyx hrest
     injection hyx with hy hx
     subst hy hx
     rw[lexLt_cons]at hR
     simp only[List.length_cons]at hlen
     obtain⟨e,he,hiff⟩:=ZF A.in1 ⟨hp,g,d,tk,os⟩ a t c u
     refine wpAny_bind (he prog w _ _ ?_)
     cases e with
     |true=>
      rw[if_pos (hiff.mp rfl)]at hR
      wp_walk
      exact⟨rfl,rfl,_,_,_,_,hrest,hvi',hwi',by omega,hR⟩
     |false=>
      rw[if_neg (fun q=>absurd (hiff.mpr q) Bool.false_ne_true)]at hR
      have hri:=ZG A.in1 ⟨hp,g,d,tk,os⟩ a t c u prog w
      wp_walk using hri
      exact⟨_,rfl,by simpa using hR⟩
  case fin=>
   rintro⟨b1,b2⟩ s' ⟨hb',rfl,vs,ws,ns',ms',hz,hvi,hwi,hlen,hR⟩
   simp only at hb'
   subst hb'
   have hv:lexLt ns' ms'=decide (items.size<items2.size):=by
    cases hvi with
    |nil=>
     cases hwi with
     |nil=>
      simp only[List.length_nil]at hlen
      rw[PR]
      exact (decide_eq_false (by omega)).symm
     |cons c u hw=>
      simp only[List.length_nil,List.length_cons]at hlen
      rw[N2]
      exact (decide_eq_true (by omega)).symm
    |cons a t hv=>
     cases hwi with
     |nil=>
      simp only[List.length_nil,List.length_cons]at hlen
      rw[N3]
      exact (decide_eq_false (by omega)).symm
     |cons c u hw=>
      rw[List.zip_cons_cons]at hz
      cases hz
   rw[hv]at hR
   wp_walk
   exact⟨_,rfl,by simpa [Builtin.Tuple.tupleCompareSizes] using hR⟩
  case h=>
   exact⟨rfl,rfl,items.toList,items2.toList,ns,ms,rfl,hi,hj,by omega,h⟩
end
section
variable {prog:Program} {w:World} {A:Around} {E:Value->Shared->Prop} {s:Shared}
theorem lt_tupInts {l b:Addr}{items items2:Array Value}{ns ms:List Int}{Q:Value->Shared->Prop}(hl:IsTup s.heap l items)(hb:IsTup s.heap b items2)(hi:IntsAre items.toList ns)(hj:IntsAre items2.toList ms)
  (hu:A.units<cLine) (h:Q (.bool (lexLt ns ms)) s):wpAny (model prog w) A (compareOp .Lt (.ref l) (.ref b)) Q E s:=by
 obtain⟨⟨cls,dd,data,sl⟩,ho,hc,n,hd⟩:=id hl
 obtain⟨⟨cls2,dd2,data2,sl2⟩,ho2,hc2,n2,hd2⟩:=id hb
 simp only at hc hd hc2 hd2
 subst hc hd hc2 hd2
 exact richCompare_meets_room (op:=.Lt) ⟨_,ho,rfl⟩ ⟨_,ho2,rfl⟩ PySem.F.slot_tuple_lt PySem.F.entry_tuple_lt (PySem.F.args_tuple_lt_2 _ _) (PU l b items items2 n n2 dd dd2 sl sl2 ns ms hi hj)
  ⟨ho,ho2,show Value.bool (lexLt ns ms)≠Value.notImplemented/\Q (.bool (lexLt ns ms)) s from ⟨(fun x=>nomatch x),h⟩⟩ hu
theorem cat_tup {t b:Addr}{vs ws:List Value}{Q:Value->Shared->Prop}(ht:IsTup s.heap t vs.toArray)(hb:IsTup s.heap b ws.toArray)(hv:vs ≠ [])
  (h1:ws=[]->Q (.ref t) s) (h2:ws ≠ []->Q (.ref s.heap.objs.size) {s with heap:=s.heap.push {cls:=.type "tuple",data:=.seq (vs++ws).toArray} })
  (hsz:vs.length+ws.length<=sizeLine):wpAny (model prog w) A (binaryOp .Add (.ref t) (.ref b)) Q E s:=by
 obtain⟨⟨cls,dd,data,sl⟩,ho,hc,n,hd⟩:=id ht
 obtain⟨⟨cls2,dd2,data2,sl2⟩,ho2,hc2,n2,hd2⟩:=id hb
 simp only at hc hd hc2 hd2
 subst hc hd hc2 hd2
 have e:vs.toArray++ws.toArray=(vs++ws).toArray:=by simp
 by_cases hw:ws=[]
 ·exact concat_meets ⟨_,ho,rfl⟩ ⟨_,ho2,rfl⟩ noFill_tuple_add seq_tuple_add PySem.F.slot_tuple_add PySem.F.entry_tuple_add (PySem.F.args_tuple_add_2 _ _)
   (tuple_addW1 t b vs.toArray ws.toArray n n2 dd dd2 sl sl2 (by simpa using hv) (by simp[hw])) ⟨ho,ho2,h1 hw⟩
 ·refine concat_meets ⟨_,ho,rfl⟩ ⟨_,ho2,rfl⟩ noFill_tuple_add seq_tuple_add PySem.F.slot_tuple_add PySem.F.entry_tuple_add (PySem.F.args_tuple_add_2 _ _)
   (tuple_addW2 t b vs.toArray ws.toArray n n2 dd dd2 sl sl2 (by simpa using hv) (by simpa using hw) (by rw[List.size_toArray,List.size_toArray];exact hsz)) ⟨ho,ho2,?_⟩
  rw[e]
  exact h2 hw
def sIx (n d:Nat):Option Int->Nat
 |none=>d
 |some v=>if v<0 then (v+(n:Int)).toNat else min v.toNat n
theorem sIx_none (n d:Nat):sIx n d none=d:=rfl
theorem sIx_nat (n d k:Nat):sIx n d (some (k:Int))=min k n:=by
 show (if (k:Int)<0 then ((k:Int)+(n:Int)).toNat else min (k:Int).toNat n)=min k n
 rw[if_neg (by omega),Int.toNat_natCast]
theorem CY_ (n d:Nat)(hd:d<=n)(o:Option Int):sIx n d o<=n:=by
 cases o with
 |none=>exact hd
 |some v=>
  show (if v<0 then (v+(n:Int)).toNat else min v.toNat n)<=n
  by_cases hv:v<0
  ·rw[if_pos hv];omega
  ·rw[if_neg hv];exact Nat.min_le_right _ _
theorem X4 (v:Int)(n d:Nat):(if v<0 then max (v+(n:Int)) 0 else min v (n:Int))=((sIx n d (some v):Nat):Int):=by
 show (if v<0 then max (v+(n:Int)) 0 else min v (n:Int))=(((if v<0 then (v+(n:Int)).toNat else min v.toNat n):Nat):Int)
 by_cases hv:v<0
 ·simp only[if_pos hv];omega
 ·simp only[if_neg hv];omega
theorem Wu (lo hi:Option Int)(n:Nat):Builtin.Slice.sliceAdjust lo hi 1 (n:Int)=(((sIx n 0 lo:Nat):Int),((sIx n n hi:Nat):Int)):=by
 have h1:¬ ((1:Int)<0):=by omega
 unfold Builtin.Slice.sliceAdjust
 simp only[h1,if_false]
 refine Prod.ext ?_ ?_
 ·cases lo with
  |none=>rfl
  |some v=>exact X4 v n 0
 ·cases hi with
  |none=>rfl
  |some v=>exact X4 v n n
theorem Wv (i j:Nat):Builtin.Slice.slicePlaces (i:Int) (j:Int) 1=j-i:=by
 unfold Builtin.Slice.slicePlaces
 have h1:(1:Int) > 0:=by omega
 simp only[h1,if_true,Int.ediv_one]
 split<;>omega
theorem O3 {v:Value}{o:Option Int}{Q:Option Int->Shared->Prop}(p:IsPart v o)(h:Q o s):wpAny (model prog w) A (Builtin.Slice.slicePartIndex v) Q E s:=by
 cases p with
 |none=>exact slicePart_none h
 |int i t=>exact slicePart_int h
theorem Hv {sl:Addr}{vl vu:Value}{lo hi:Option Int}{n:Nat}{Q:Int×Int×Nat->Shared->Prop}(hs:s.heap.IsSliceOf sl vl vu .none)(pl:IsPart vl lo)(pu:IsPart vu hi)
  (h:Q (((sIx n 0 lo:Nat):Int),1,sIx n n hi-sIx n 0 lo) s):wpAny (model prog w) A (Builtin.Slice.sliceApplied (.ref sl) (pure (n:Int))) Q E s:=by
 obtain⟨os,hos,hcs,hds⟩:=id hs
 unfold Builtin.Slice.sliceApplied Builtin.Slice.sliceFields
 refine wpAny_bind (wpAny_bind (wpAny_field hos hds (x:=vl) rfl (wpAny_bind (wpAny_field hos hds (x:=vu) rfl (wpAny_bind (wpAny_field hos hds (x:=.none) rfl (wpAny_pure ?_)))))))
 refine wpAny_bind (slicePart_none ?_)
 show wpAny _ _ (if ((1:Int)==0)=true then _ else _) _ _ s
 rw[if_neg (by decide)]
 refine wpAny_bind (O3 pl (wpAny_bind (O3 pu (wpAny_bind (wpAny_pure ?_)))))
 show wpAny _ _ (match Builtin.Slice.sliceAdjust lo hi 1 (n:Int) with|(lo,hi)=>pure (lo,(1:Int),Builtin.Slice.slicePlaces lo hi 1)) _ _ s
 rw[Wu lo hi n]
 show wpAny _ _ (pure (((sIx n 0 lo:Nat):Int),(1:Int),Builtin.Slice.slicePlaces ((sIx n 0 lo:Nat):Int) ((sIx n n hi:Nat):Int) 1)) _ _ s
 rw[Wv]
 exact wpAny_pure h
theorem ZH (xs:Array Value)(i k:Nat):((List.range k).filterMap fun (m:Nat)=>xs[((i:Int)+(m:Int)*1).toNat]?).toArray=((xs.toList.drop i).take k).toArray:=by
 have e:(fun (m:Nat)=>xs[((i:Int)+(m:Int)*1).toNat]?)=fun m=>xs[i+m]?:=by
  funext m
  have:((i:Int)+(m:Int)*1).toNat=i+m:=by omega
  rw[this]
 rw[e]
 have:=pick_run xs i k
 rw[List.filterMap_map]at this
 have e2:((fun x=>xs[x]?) ∘ fun x=>i+x)=fun m=>xs[i+m]?:=rfl
 rw[e2]at this
 rw[this]
theorem getItem_tuple_cut {t sl:Addr}{items:Array Value}{vl vu:Value}{lo hi:Option Int}{Q:Value->Shared->Prop}(ht:IsTup s.heap t items)(hs:s.heap.IsSliceOf sl vl vu .none)(pl:IsPart vl lo)(pu:IsPart vu hi)
  (hw:¬ (sIx items.size 0 lo=0/\sIx items.size items.size hi=items.size))
  (h:Q (.ref s.heap.objs.size) {s with heap:=s.heap.push {cls:=.type "tuple",data:=.seq ((items.toList.drop (sIx items.size 0 lo)).take (sIx items.size items.size hi-sIx items.size 0 lo)).toArray} })
  (hsz:items.size<=sizeLine):wpAny (model prog w) A (getItem (.ref t) (.ref sl)) Q E s:=by
 have htake:sizeOk (.seq ((items.toList.drop (sIx items.size 0 lo)).take (sIx items.size items.size hi-sIx items.size 0 lo)).toArray):=by
  show ((items.toList.drop (sIx items.size 0 lo)).take (sIx items.size items.size hi-sIx items.size 0 lo)).toArray.size<=sizeLine
  rw[List.size_toArray,List.length_take,List.length_drop,Array.length_toList]
  omega
 have hj:sIx items.size items.size hi<=items.size:=CY_ _ _ (Nat.le_refl _) hi
 obtain⟨os,hos,hcs,hds⟩:=id hs
 have hTs:s.TypeIs (.ref sl) "slice" := ⟨os,hos,hcs⟩
 unfold getItem
 try with_reducible refine wpAny_holding ?_
 first|refine wpAny_bind (wpAny_pure ?_)|skip
 refine wpAny_bind (wpAny_sequenceKey ht.typeIs (by decide) ?_)
 refine wpAny_bind (wpAny_callSpecial?_slot (name:=Str.ofString "__getitem__") ht.typeIs PyProof.Rows.slot_tuple_getitem
  (wpAny_call_entry PyProof.Rows.slot_tuple_getitem ht.typeIs entry_tuple_getitem ?_ (args_tuple_getitem _ _)))
 show wpAny _ _ (Builtin.Tuple.tupleItemsOf (.ref t) >>= _) _ _ s
 refine wpAny_bind (tupleItemsOf_ ht ?_)
 refine wpAny_bind (wpAny_typeOf hTs ?_)
 rw[if_pos (by decide)]
 refine wpAny_bind (Hv hs pl pu ?_)
 have hno:¬ ((((sIx items.size 0 lo:Nat):Int)==0&&(1:Int)==1&&(sIx items.size items.size hi-sIx items.size 0 lo)==items.size)=true):=by
  intro q
  rw[Bool.and_eq_true,Bool.and_eq_true]at q
  have q1:((sIx items.size 0 lo:Nat):Int)=0:=eq_of_beq q.1.1
  have q2:sIx items.size items.size hi-sIx items.size 0 lo=items.size:=eq_of_beq q.2
  exact hw ⟨by omega,by omega⟩
 show wpAny _ _ (if (((sIx items.size 0 lo:Nat):Int)==0&&(1:Int)==1&&(sIx items.size items.size hi-sIx items.size 0 lo)==items.size)=true then _ else _) _ _ s
 rw[if_neg hno,ZH]
 first
  | exact wpAny_bind (m:=Builtin.Tuple.tupleExact _) (wpAny_newObj_type (wpAny_pure ⟨_,rfl,wpAny_pure h⟩) htake)
  | exact wpAny_bind (m:=Builtin.Tuple.tupleExact _) (wpAny_newObj_type (wpAny_bind (wpAny_pure (wpAny_pure ⟨_,rfl,wpAny_pure h⟩))) htake)
  | exact wpAny_bind (wpAny_bind (m:=Builtin.Tuple.tupleExact _) (wpAny_newObj_type (wpAny_pure (wpAny_pure ⟨_,rfl,wpAny_pure h⟩)) htake))
  | exact wpAny_bind (wpAny_bind (m:=Builtin.Tuple.tupleExact _) (wpAny_newObj_type (wpAny_pure ⟨_,rfl,wpAny_pure h⟩) htake))
end
end HT
namespace L2
open PySem PySem.Spec PyProof.Rows
abbrev TO:=St->Hp->(Option Int->Hp->Prop)->Prop
def PO (X:Cx)(e:Option Expr)(t:TO):Prop:=
 ∀(pins:List (Addr×Obj)) (s:Shared) (σ:St) (H:Hp) (Q:Option Int->Hp->Prop),Inv X pins σ H s->t σ H Q ->
  wpAny (model X.prog X.w) X.A (evalPart e X.env) (fun u s'=>∃o H',Inv X pins σ H' s'/\IsPart u o/\Q o H') X.xe s
def X5:TO:=fun _ H Q=>Q none H
def CZ_ (t:TE):TO:=fun σ H Q=>t σ H fun x H1=>∃i,x=.int i/\Q (some i) H1
theorem intsAre_of {ns:List Int}:∀{us:List Value},Vals (ns.map V.int) us->IntsAre us ns:=by
 induction ns with
 |nil=>intro us r;rw[List.map_nil]at r;cases r;exact .nil
 |cons n ns ih=>
  intro us r
  rw[List.map_cons]at r
  cases r with
  |cons r1 r2=>
   obtain⟨t,e⟩:=r1
   subst e
   exact .cons n t (ih r2)
section
variable {X:Cx} {e:Expr} {te:TE} {lo hi:Option Expr} {tl th:TO} {pos p2:Pos}
theorem Jp:PO X none X5:=by
 intro pins s σ H Q I h
 rw[evalPart_none]
 exact wpAny_pure ⟨none,H,I,.none,h⟩
theorem Jq (h:PE X e te):PO X (some e) (CZ_ te):=by
 intro pins s σ H Q I hw
 rw[evalPart_some]
 refine thn (h pins s σ H _ I hw) fun u s1 ⟨x,H1,I1,r1,q1⟩=>?_
 obtain⟨i,rfl,q⟩:=q1
 obtain⟨t,rfl⟩:=r1
 exact⟨some i,H1,I1,.int i t,q⟩
def SlR (X:Cx)(r:V->Option Int->Option Int->Hp->VK->Prop):Prop:=
 ∀(pins:List (Addr×Obj)) (s:Shared) (σ:St) (H:Hp) (x:V) (v vl vu:Value) (lo hi:Option Int) (sl:Addr) (Q:VK),Inv X pins σ H s->RelV x v->s.heap.IsSliceOf sl vl vu .none->IsPart vl lo->IsPart vu hi->r x lo hi H Q ->
  ∃T id,typeLookup (.type T) "__getitem__"=pure (some (.builtin id))/\s.TypeIs v T/\wpAny (model X.prog X.w) X.A (getItem v (.ref sl)) (EP X pins σ Q) X.xe s
def tSl (r:V->Option Int->Option Int->Hp->VK->Prop)(te:TE)(tl th:TO):TE:=fun σ H Q=>te σ H fun x H1=>tl σ H1 fun l H2=>th σ H2 fun u H3=>r x l u H3 Q
theorem GN {r:V->Option Int->Option Int->Hp->VK->Prop}(hr:SlR X r)(he:PE X e te)(hl:PO X lo tl)(hu:PO X hi th):PE X (.Subscript e (.Slice lo hi none p2) pos) (tSl r te tl th):=by
 intro pins s σ H Q I h
 refine Subscript_ (thn (he pins s σ H _ I h) fun v s1 ⟨x,H1,I1,r1,q1⟩=>?_)
 refine wpAny_Slice (thn (hl pins s1 σ H1 _ I1 q1) fun vl s2 ⟨l,H2,I2,pl,q2⟩=>thn (hu pins s2 σ H2 _ I2 q2) fun vu s3 ⟨u,H3,I3,pu,q3⟩=>?_)
 rw[evalPart_none]
 refine wpAny_pure ?_
 have I4:Inv X pins σ H3 {s3 with heap:=s3.heap.push {cls:=.type "slice",data:=.fields #[vl,vu,.none]} }:=I3.kept (t':=s3.toks) fun b ob q=>Heap.get?_push_of_some _ q
 obtain⟨T,id,hT,ht,hg⟩:=hr pins {s3 with heap:=s3.heap.push {cls:=.type "slice",data:=.fields #[vl,vu,.none]} } σ H3 x v vl vu l u s3.heap.objs.size Q I4 r1 (Heap.IsSliceOf.new ..) pl pu q3
 show wpAny (model X.prog X.w) X.A (subscriptTail e (.Slice lo hi none p2) v (.ref s3.heap.objs.size)) (EP X pins σ Q) X.xe {s3 with heap:=s3.heap.push {cls:=.type "slice",data:=.fields #[vl,vu,.none]} }
 exact tail_any (ops:=[.ref s3.heap.objs.size,v]) ht hT hg (by with_unfolding_all rfl)
def cutV (xs:List V)(lo hi:Option Int):List V:=(xs.drop (HT.sIx xs.length 0 lo)).take (HT.sIx xs.length xs.length hi-HT.sIx xs.length 0 lo)
theorem UI (xs:List V)(lo hi:Option Int):(cutV xs lo hi).length<=xs.length:=by
 unfold cutV
 rw[List.length_take,List.length_drop]
 omega
def rSlT (K:PySem.W.Frag):V->Option Int->Option Int->Hp->VK->Prop:=fun x lo hi H Q=>∃a xs,x=.ref a/\SqT K H a xs /\
 ¬ (HT.sIx xs.length 0 lo=0/\HT.sIx xs.length xs.length hi=xs.length)/\∀p,H p=none->Q (.ref p) (upd H p (.tup (cutV xs lo hi)))
theorem Da_:SlR X (rSlT X.K):=by
 intro pins s σ H x v vl vu lo hi sl Q I rx hs pl pu h
 obtain⟨a,xs,rfl,hx,hw,q⟩:=h
 cases rx
 obtain⟨its,r,ht,hz⟩:=I.tuple hx
 have hlen:its.toArray.size=xs.length:=by rw[List.size_toArray];exact r.length.symm
 refine⟨"tuple",_,PyProof.Rows.slot_tuple_getitem.lookup,ht.typeIs,?_⟩
 refine HT.getItem_tuple_cut ht hs pl pu (by rw[hlen];exact hw) ?_ (by rw[hlen];exact hz)
 rw[hlen]
 refine⟨.ref s.heap.objs.size,_,I.laid (t':=s.toks) (o:=.tup (cutV xs lo hi)) (fun b ob q=>Heap.get?_push_of_some _ q) (Nat.le_refl _) ?_,rfl,q _ (I.hok.fresh (Nat.le_refl _))⟩
 exact⟨Nat.le_trans (UI xs lo hi) hz,_,(r.drop (HT.sIx xs.length 0 lo)).take (HT.sIx xs.length xs.length hi-HT.sIx xs.length 0 lo),IsTup.new _ _⟩
def rLtT (K:PySem.W.Frag):R2:=fun x y H Q=>∃a b ns ms,x=.ref a/\y=.ref b/\SqT K H a (ns.map V.int)/\SqT K H b (ms.map V.int)/\Q (.bl (HT.lexLt ns ms)) H
theorem Db_ (hu:X.A.units<cLine):OpR X (compareOp .Lt) (rLtT X.K):=by
 intro pins s σ H x y v u Q I rx ry h
 obtain⟨a,b,ns,ms,rfl,rfl,ha,hb,q⟩:=h
 cases rx
 cases ry
 obtain⟨its,r1,p1,_⟩:=I.tuple ha
 obtain⟨its2,r2,p2,_⟩:=I.tuple hb
 have i1:IntsAre its.toArray.toList ns:=intsAre_of r1
 have i2:IntsAre its2.toArray.toList ms:=intsAre_of r2
 exact HT.lt_tupInts p1 p2 i1 i2 hu ⟨.bl (HT.lexLt ns ms),H,I,rfl,q⟩
def En_ (K:PySem.W.Frag):R2:=fun x y H Q=>∃a b xs ys,x=.ref a/\y=.ref b/\SqT K H a xs/\SqT K H b ys/\xs ≠ []/\xs.length+ys.length<=sizeLine /\
 (ys=[]->Q (.ref a) H)/\(ys ≠ []->∀p,H p=none->Q (.ref p) (upd H p (.tup (xs++ys))))
theorem Vals.nil_iff {xs:List V}{us:List Value}(r:Vals xs us):us=[]↔xs=[]:=by
 cases r with
 |nil=>simp
 |cons _ _=>simp
theorem BL_:OpR X (binaryOp .Add) (En_ X.K):=by
 intro pins s σ H x y v u Q I rx ry h
 obtain⟨a,b,xs,ys,rfl,rfl,ha,hb,hx,hz,q1,q2⟩:=h
 cases rx
 cases ry
 obtain⟨its,r1,p1,_⟩:=I.tuple ha
 obtain⟨its2,r2,p2,_⟩:=I.tuple hb
 refine HT.cat_tup p1 p2 (fun z=>hx (r1.nil_iff.mp z)) (fun z=>⟨.ref a,H,I,rfl,q1 (r2.nil_iff.mp z)⟩) (fun z=>?_) (by rw[<-r1.length,<-r2.length];exact hz)
 refine⟨.ref s.heap.objs.size,_,I.laid (t':=s.toks) (o:=.tup (xs++ys)) (fun b ob q=>Heap.get?_push_of_some _ q) (Nat.le_refl _) ?_,rfl,q2 (fun w=>z (r2.nil_iff.mpr w)) _ (I.hok.fresh (Nat.le_refl _))⟩
 exact⟨by rw[List.length_append];exact hz,_,r1.append r2,IsTup.new _ _⟩
end
end L2
namespace L2
open PySem PySem.Spec PyProof.Rows
def ixN (n:Nat)(i:Int):Option Nat:=if 0<=i then (if i<n then some i.toNat else none) else if -(n:Int)<=i then some (i+n).toNat else none
def atI {α:Type}(xs:List α)(i:Int):Option α:=(ixN xs.length i).bind fun j=>xs[j]?
theorem X6 {n:Nat}{i:Int}{j:Nat}(h:ixN n i=some j):seqIndex? i n=some j/\j<n /\ -(n:Int)<=i/\i<n:=by
 unfold ixN at h
 by_cases h0:0<=i
 ·rw[if_pos h0]at h
  by_cases h1:i<n
  ·rw[if_pos h1]at h
   have e:i.toNat=j:=Option.some.inj h
   exact⟨by rw[seqIndex_of h0 h1,e],by omega,by omega,h1⟩
  ·rw[if_neg h1]at h;cases h
 ·rw[if_neg h0]at h
  by_cases h1 : -(n:Int)<=i
  ·rw[if_pos h1]at h
   have e:(i+n).toNat=j:=Option.some.inj h
   exact⟨by rw[seqIndex_neg (by omega) h1,e],by omega,h1,by omega⟩
  ·rw[if_neg h1]at h;cases h
theorem X7 {α:Type}{xs:List α}{i:Int}{v:α}(h:atI xs i=some v):∃j,seqIndex? i xs.length=some j/\xs[j]?=some v/\j<xs.length /\ -(xs.length:Int)<=i/\i<xs.length:=by
 unfold atI at h
 cases e:ixN xs.length i with
 |none=>rw[e]at h;cases h
 |some j=>
  rw[e]at h
  obtain⟨h1,h2,h3,h4⟩:=X6 e
  exact⟨j,h1,h,h2,h3,h4⟩
theorem Bc {α:Type}{xs:List α}{j:Nat}{v:α}(h:xs[j]?=some v):atI xs (j:Int)=some v:=by
 have hj:j<xs.length:=(List.getElem?_eq_some_iff.mp h).1
 have e:ixN xs.length (j:Int)=some j:=by
  unfold ixN
  rw[if_pos (by omega),if_pos (by omega)];simp
 unfold atI;rw[e];exact h
def BM_ (b:Expr):Prop:=∀o i,subscripted b false o i=operate [o,i] (getItem o i)
def IxR (X:Cx)(r:R2):Prop:=
 ∀(value slice:Expr) (pins:List (Addr×Obj)) (s:Shared) (σ:St) (H:Hp) (x y:V) (v u:Value) (Q:VK),Inv X pins σ H s->RelV x v->RelV y u->r x y H Q ->
  subscripted slice false v u=operate [v,u] (getItem v u)->wpAny (model X.prog X.w) X.A (subscriptTail value slice v u) (EP X pins σ Q) X.xe s
def MtR (X:Cx)(id:String)(r:V->List V->Hp->VK->Prop):Prop:=
 ∀(pins:List (Addr×Obj)) (s:Shared) (σ:St) (H:Hp) (x:V) (xs:List V) (v:Value) (us:List Value) (Q:VK),Inv X pins σ H s->RelV x v->Vals xs us->r x xs H Q ->
  wpAny (model X.prog X.w) X.A (call (.builtin id) (v::us)) (EP X pins σ Q) X.xe s
section
variable {X:Cx} {a b:Expr} {ta tb:TE} {pos:Pos}
theorem Ar {r:R2}(hr:IxR X r)(ha:PE X a ta)(hb:PE X b tb)(hs:BM_ b):PE X (.Subscript a b pos) (tOp r ta tb):=by
 intro pins s σ H Q I h
 exact Subscript_ (binT ha hb I h fun v u s2 x y H2 I2 rx ry q=>hr a b pins s2 σ H2 x y v u Q I2 rx ry q (hs _ _))
def rIxL (K:PySem.W.Frag):R2:=fun x y H Q=>∃p xs i v,x=.ref p/\y=.int i/\SqL K H p xs/\atI xs i=some v/\Q v H
def rIxT (K:PySem.W.Frag):R2:=fun x y H Q=>∃p xs i v,x=.ref p/\y=.int i/\SqT K H p xs/\atI xs i=some v/\Q v H
theorem CF:IxR X (rIxL X.K):=by
 intro value slice pins s σ H x y v u Q I rx ry h hs
 obtain⟨p,xs,i,z,rfl,rfl,hq,he,q⟩:=h
 cases rx
 obtain⟨t,rfl⟩:=ry
 obtain⟨its,r,pl,hz⟩:=I.list hq
 obtain⟨j,h1,h2,h3,h4,h5⟩:=X7 he
 obtain⟨w,ew,rw'⟩:=r.get h2
 have hl:=r.length
 have hn:=VH
 have fin:EP X pins σ Q w s:=⟨z,H,I,rw',q⟩
 by_cases h0:0<=i
 ·have hj:i.toNat=j:=by
   rw[seqIndex_of h0 h5]at h1
   exact Option.some.inj h1
  exact item_listR pl.isList h0 (by omega) (by rw[hj];simpa using ew) fin hs
 ·have hj:(i+(its.toArray.size:Int)).toNat=j:=by
   rw[seqIndex_neg (by omega) h4]at h1
   rw[List.size_toArray,<-hl]
   exact Option.some.inj h1
  exact subscriptTail_builtinR (x:=w) pl.isList.typeIs slot_list_getitem.lookup
   (wpAny_getItem_list_neg (Q:=fun r s'=>r=w/\EP X pins σ Q r s') pl.isList (by omega) (by rw[List.size_toArray]<;>omega) (by omega) (by rw[hj];simpa using ew) ⟨rfl,fin⟩) hs
theorem Al:IxR X (rIxT X.K):=by
 intro value slice pins s σ H x y v u Q I rx ry h hs
 obtain⟨p,xs,i,z,rfl,rfl,hq,he,q⟩:=h
 cases rx
 obtain⟨t,rfl⟩:=ry
 obtain⟨its,r,pl,hz⟩:=I.tuple hq
 obtain⟨j,h1,h2,h3,h4,h5⟩:=X7 he
 obtain⟨w,ew,rw'⟩:=r.get h2
 have hl:=r.length
 have hn:=VH
 have fin:EP X pins σ Q w s:=⟨z,H,I,rw',q⟩
 exact subscriptTail_builtinR (x:=w) pl.typeIs slot_tuple_getitem.lookup
  (getItem_tuple (j:=j) (Q:=fun r s'=>r=w/\EP X pins σ Q r s') pl (by omega) (by omega) (by rw[List.size_toArray,<-hl];exact h1) (by simpa using ew) ⟨rfl,fin⟩) hs
theorem Ww (its:List Value)(n j:Nat)(u:Value):Obj.mapSeq (·.setIfInBounds j u) {cls:=.type "list",data:=.seq its.toArray n}={cls:=.type "list",data:=.seq (its.set j u).toArray n}:=by
 simp[Obj.mapSeq]
theorem Inv.lst {pins:List (Addr×Obj)}{σ:St}{H:Hp}{s:Shared}{p:Addr}{xs:List V}(I:Inv X pins σ H s)(h:H p=some (.lst xs)):
  ∃(its:List Value) (n:Nat),Vals xs its/\s.heap.get? p=some {cls:=.type "list",data:=.seq its.toArray n}/\xs.length<=sizeLine:=by
 obtain⟨z,its,n,r,e⟩:=I.hok p _ h
 exact⟨its,n,r,e,z⟩
theorem Inv.lstUpd {pins:List (Addr×Obj)}{σ:St}{H:Hp}{s:Shared}{p:Addr}{xs ys:List V}{its its':List Value}{n n':Nat}{f:Obj->Obj}(I:Inv X pins σ H s)(h:H p=some (.lst xs))
  (ho:s.heap.get? p=some {cls:=.type "list",data:=.seq its.toArray n}) (hf:f {cls:=.type "list",data:=.seq its.toArray n}={cls:=.type "list",data:=.seq its'.toArray n' }) (r:Vals ys its') (hz:ys.length<=sizeLine) (t:Nat):
  Inv X pins σ (upd H p (.lst ys)) {s with heap:=s.heap.update p f,toks:=t}:=by
 have e:(s.heap.update p f).get? p=some {cls:=.type "list",data:=.seq its'.toArray n' }:=by
  rw[Heap.get?_update_self f ho (by rw[hf]<;>rfl),hf]
 refine I.write (x:=p) (e:=p) (by rw[h];trivial) (.inl rfl) (fun b u hb q=>(Heap.get?_update_other _ _ (Ne.symm hb)).trans q) ⟨_,e⟩ ?_
 exact⟨hz,its',n',r,e⟩
def Dc_:V->V->V->Hp->(Hp->Prop)->Prop:=fun o i v H Q=>∃p xs k j,o=.ref p/\i=.int k/\H p=some (.lst xs)/\ixN xs.length k=some j/\Q (upd H p (.lst (xs.set j v)))
theorem set_list:PSet X Dc_:=by
 intro pins s σ H o i v ov iv u Q I ro ri rv h
 obtain⟨p,xs,k,j,rfl,rfl,hp,hj,q⟩:=h
 cases ro
 obtain⟨t,rfl⟩:=ri
 obtain⟨its,n,r,ho,hz⟩:=I.lst hp
 obtain⟨h1,h2,h3,h4⟩:=X6 hj
 have hl:=r.length
 have hn:=VH
 have I':Inv X pins σ (upd H p (.lst (xs.set j v))) {s with heap:=s.heap.update p (Obj.mapSeq (·.setIfInBounds j u))}:=
  I.lstUpd hp ho (Ww its n j u) (r.set rv j) (by rw[List.length_set];exact hz) s.toks
 by_cases h0:0<=k
 ·have hk:k.toNat=j:=by
   rw[seqIndex_of h0 h4]at h1
   exact Option.some.inj h1
  exact PySem.W.ki_setAt ho h0 (by omega) (by rw[List.size_toArray,<-hl];exact h4) (by rw[hk];exact⟨_,I',q⟩)
 ·have hk:(k+(its.toArray.size:Int)).toNat=j:=by
   rw[seqIndex_neg (by omega) h3]at h1
   rw[List.size_toArray,<-hl]
   exact Option.some.inj h1
  exact PySem.W.ki_setBack ho (by omega) (by rw[List.size_toArray,<-hl];exact h3) (by omega) (by rw[hk];exact⟨_,I',q⟩)
def PV:V->Bool
 |.non=>true
 |.bl _=>true
 |.int _=>true
 |.str _=>true
 |_=>false
def eqV:V->V->Bool
 |.non,.non=>true
 |.bl a,.bl b=>a==b
 |.bl a,.int b=>(if a then 1 else 0)==b
 |.int a,.bl b=>a==(if b then 1 else 0)
 |.int a,.int b=>a==b
 |.str a,.str b=>a==b
 |_,_=>false
theorem AO_ {A:Around}{s:Shared}{y x:V}{u v:Value}(ry:RelV y u)(rx:RelV x v)(fy:PV y=true)(fx:PV x=true):SeqAt.EqAt A s u v (eqV y x):=by
 cases y with
 |non=>
  cases ry
  cases x with
  |non=>cases rx;exact SeqAt.EqAt.same _
  |bl b=>cases rx;exact SeqAt.EqAt.none_bool b
  |int b=>obtain⟨t,rfl⟩:=rx;exact SeqAt.EqAt.none_int b t
  |str b=>obtain⟨t,rfl⟩:=rx;exact SeqAt.EqAt.none_str b t
  |_=>exact absurd (show false=true from fx) Bool.false_ne_true
 |bl a=>
  cases ry
  cases x with
  |non=>cases rx;exact SeqAt.EqAt.bool_none a
  |bl b=>cases rx;exact SeqAt.EqAt.bool_bool a b
  |int b=>obtain⟨t,rfl⟩:=rx;exact SeqAt.EqAt.bool_int a b t
  |str b=>obtain⟨t,rfl⟩:=rx;exact SeqAt.EqAt.bool_str a b t
  |_=>exact absurd (show false=true from fx) Bool.false_ne_true
 |int a=>
  obtain⟨t',rfl⟩:=ry
  cases x with
  |non=>cases rx;exact SeqAt.EqAt.int_none a t'
  |bl b=>cases rx;exact SeqAt.EqAt.int_bool a t' b
  |int b=>obtain⟨t,rfl⟩:=rx;exact SeqAt.EqAt.int_int a t' b t
  |str b=>obtain⟨t,rfl⟩:=rx;exact SeqAt.EqAt.int_str a t' b t
  |_=>exact absurd (show false=true from fx) Bool.false_ne_true
 |str a=>
  obtain⟨t',rfl⟩:=ry
  cases x with
  |non=>cases rx;exact SeqAt.EqAt.str_none a t'
  |bl b=>cases rx;exact SeqAt.EqAt.str_bool a t' b
  |int b=>obtain⟨t,rfl⟩:=rx;exact SeqAt.EqAt.str_int a t' b t
  |str b=>obtain⟨t,rfl⟩:=rx;exact SeqAt.EqAt.str_str a t' b t
  |_=>exact absurd (show false=true from fx) Bool.false_ne_true
 |_=>exact absurd (show false=true from fy) Bool.false_ne_true
theorem Ai:HH X (.builtin "len") (fun xs H Q=>∃p ys,xs=[.ref p]/\(SqL X.K H p ys\/SqT X.K H p ys)/\Q (.int ys.length) H):=by
 intro pins s σ H xs us Q I r h
 obtain⟨p,ys,rfl,hq,q⟩:=h
 obtain⟨u,rfl,rx⟩:=vals1 r
 cases rx
 have hn:=VH
 rcases hq with hq|hq
 ·obtain⟨its,r',pl,hz⟩:=I.list hq
  have hlen:=r'.length
  exact Calls.call_len_list pl.isList (by simp only[List.size_toArray]<;>omega) ⟨.int ys.length,H,I.tok _,⟨s.toks+1,by rw[List.size_toArray,hlen]⟩,q⟩
 ·obtain⟨its,r',pl,hz⟩:=I.tuple hq
  have hlen:=r'.length
  exact len_tuple pl (by simp only[List.size_toArray]<;>omega) ⟨.int ys.length,H,I.tok _,⟨s.toks+1,by rw[List.size_toArray,hlen]⟩,q⟩
theorem SX:HH X (.type "list") (fun xs H Q=>∃p ys,xs=[.ref p]/\(SqL X.K H p ys\/SqT X.K H p ys)/\∀l,H l=none->Q (.ref l) (upd H l (.lst ys))):=by
 intro pins s σ H xs us Q I r h
 obtain⟨p,ys,rfl,hq,q⟩:=h
 obtain⟨u,rfl,rx⟩:=vals1 r
 cases rx
 have fin:∀(its:List Value),Vals ys its->ys.length<=sizeLine->∀(h':Heap) (c':Nat),(∀b o',s.heap.get? b=some o'->h'.get? b=some o') ->
   h'.get? s.heap.objs.size=some {cls:=.type "list",dict:=none,data:=.seq its.toArray c',slots := #[]}->EP X pins σ Q (.ref s.heap.objs.size) {s with heap:=h' }:=fun its r' hz h' c' kp e=>
  ⟨.ref s.heap.objs.size,_,I.laid (t':=s.toks) kp (Nat.le_refl _) (show Bq X.prog X.w _ h' _ (.lst ys) from ⟨hz,its,c',r',e⟩),rfl,q _ (I.hok.fresh (Nat.le_refl _))⟩
 rcases hq with hq|hq
 ·obtain⟨its,r',pl,hz⟩:=I.list hq
  have hlen:=r'.length
  obtain⟨o,ho,hc,n,hd⟩:=pl.isList
  exact call_list_seq p (.inl rfl) ho hc hd (fun h' c' kp e=>fin its r' hz h' c' kp e) (by simp only[List.size_toArray]<;>omega)
 ·obtain⟨its,r',pl,hz⟩:=I.tuple hq
  have hlen:=r'.length
  obtain⟨o,ho,hc,n,hd⟩:=pl
  exact call_list_seq p (.inr rfl) ho hc hd (fun h' c' kp e=>fin its r' hz h' c' kp e) (by simp only[List.size_toArray]<;>omega)
theorem J3:HH X (.type "tuple") (fun xs H Q=>∃p ys,xs=[.ref p]/\((SqL X.K H p ys/\∀l,H l=none->Q (.ref l) (upd H l (.tup ys)))\/(SqT X.K H p ys/\Q (.ref p) H))):=by
 intro pins s σ H xs us Q I r h
 obtain⟨p,ys,rfl,h⟩:=h
 obtain⟨u,rfl,rx⟩:=vals1 r
 cases rx
 rcases h with ⟨hq,q⟩|⟨hq,q⟩
 ·obtain⟨its,r',pl,hz⟩:=I.list hq
  have hlen:=r'.length
  refine call_tuple_list pl.isList (fun h' kp=>?_) (by simp only[List.size_toArray]<;>omega)
  have I1:Inv X pins σ H {s with heap:=h' }:=I.kept (t':=s.toks) kp
  have I2:Inv X pins σ (upd H h'.objs.size (.tup ys)) {s with heap:=h'.push {cls:=.type "tuple",data:=.seq its.toArray} }:=
   I1.laid (t':=s.toks) (fun b o e=>Heap.get?_push_of_some _ e) (Nat.le_refl _) (show Bq X.prog X.w _ _ _ (.tup ys) from ⟨hz,its,r',IsTup.new _ _⟩)
  exact⟨.ref h'.objs.size,_,I2,rfl,q _ (I1.hok.fresh (Nat.le_refl _))⟩
 ·obtain⟨its,r',pl,hz⟩:=I.tuple hq
  exact call_tuple_same pl ⟨.ref p,H,I,rfl,q⟩
def tyV (K:PySem.W.Frag)(T:String)(x:V)(H:Hp):Prop:=match x with
 |.str _=>T = "str"
 |.int _=>T = "int"
 |.ref p=>(T = "list" /\ ∃xs,SqL K H p xs)\/(T = "tuple" /\ ∃o,K.lookup p=some o/\o.cls=.type "tuple" /\ o.dict=none) \/
   (T = "dict" /\ ((∃kvs,H p=some (.dK kvs)) \/ ∃kvs,H p=some (.dT kvs)))\/(T = "set" /\ ∃S n,H p=some (.set S n))
 |_=>False
theorem Dd_ {pins:List (Addr×Obj)}{σ:St}{H:Hp}{s:Shared}{T:String}{x:V}{v:Value}(I:Inv X pins σ H s)(r:RelV x v)(ty:tyV X.K T x H):
  s.TypeIs v T/\∀a,v=.ref a->∃ob,s.heap.get? a=some ob/\ob.dict=none:=by
 cases x with
 |str z=>
  obtain⟨t,rfl⟩:=r
  cases (show T = "str" from ty)
  exact⟨typeIs_str s z t,fun _ e=>nomatch e⟩
 |int i=>
  obtain⟨t,rfl⟩:=r
  cases (show T = "int" from ty)
  exact⟨typeIs_int s i t,fun _ e=>nomatch e⟩
 |ref p=>
  cases r
  rcases ty with ⟨rfl,xs,hq⟩|⟨rfl,o,hk,hc,hd⟩|⟨rfl,hk⟩|⟨rfl,S,n,hk⟩
  ·obtain⟨its,_,pl,_⟩:=I.list hq
   refine⟨pl.isList.typeIs,fun a e=>?_⟩
   cases e
   obtain⟨o,n,e,c,hd,_⟩:=pl
   exact⟨o,e,hd⟩
  ·refine⟨⟨o,I.kIn p o hk,hc⟩,fun a e=>?_⟩
   cases e
   exact⟨o,I.kIn _ o hk,hd⟩
  ·have z:∃o,s.heap.get? p=some o/\o.ExactDict:=by
    rcases hk with ⟨kvs,hk⟩|⟨kvs,hk⟩
    ·obtain⟨_,_,_,_,o,_,_,e,ex,_⟩:=I.hok p _ hk
     exact⟨o,e,ex⟩
    ·obtain⟨_,_,_,_,o,_,_,e,ex,_⟩:=I.hok p _ hk
     exact⟨o,e,ex⟩
   obtain⟨o,e,ex⟩:=z
   refine⟨⟨o,e,ex.1⟩,fun a e2=>?_⟩
   cases e2
   exact⟨o,e,ex.2.1⟩
  ·obtain⟨o,_,_,_,e,ex,_⟩:=I.hok p _ hk
   refine⟨⟨o,e,ex.1⟩,fun a e2=>?_⟩
   cases e2
   exact⟨o,e,ex.2.1⟩
 |_=>exact False.elim ty
def tBM (K:PySem.W.Frag)(T:String)(r:V->List V->Hp->VK->Prop)(to:TE)(t:TA):TE:=fun σ H Q=>to σ H fun x H1=>tyV K T x H1/\t σ H1 fun xs H2=>r x xs H2 Q
variable {o e:Expr} {es:List Expr} {to:TE} {t:TA} {name:Str} {apos cpos:Pos} {T id:String} {r:V->List V->Hp->VK->Prop}
theorem J4 (pa:PlainAttrs T)(slot:Slot T name id)(hty:typeOf (.builtin id)=pure (.type "method_descriptor"))(hm:MtR X id r)(ho:PE X o to)(ha:PA X (e::es) t)
  (hbase:attributeBase o name X.env (eval o X.env)=eval o X.env:=by rfl)
  (hfew:((backTo cpos (starEach (e::es) X.env)).all (fun x => !x.1)&&(backToKw cpos (keywordEach [] X.env)).all (fun x=>x.1.isSome)
   && decide ((e::es).length+([]:List Keyword).length+(if ([]:List Keyword).isEmpty then 0 else 1)<30))=true:=by rfl)
  (hline:(apos.endLine==cpos.line)=true:=by rfl) (hs:starEach (e::es) X.env=(false,eval e X.env)::starEach es X.env:=by rfl) (hplain:(backTo cpos (starEach es X.env)).any (·.1)=false:=by rfl):
  PE X (.Call (.Attribute o name apos) (e::es) [] cpos) (tBM X.K T r to t):=by
 intro pins s σ H Q I h
 refine wpAny_Call_method_late hbase hfew hline rfl (thn (ho pins s σ H _ I h) fun v s1 ⟨x,H1,I1,r1,ty,q1⟩=>?_)
 obtain⟨h1,h2⟩:=Dd_ I1 r1 ty
 refine⟨T,id,pa,slot,hty,h1,h2,?_⟩
 have hA:=ha cpos pins s1 σ H1 _ I1 q1
 rw[hs]at hA ⊢
 refine Calls.callWith_builtin (by show (false||(backTo cpos (starEach es X.env)).any (·.1))=false;rw[hplain]<;>rfl) (Calls.evalArgs_plain ?_)
 exact thn hA fun us s2 ⟨vs,H2,I2,r2,q2⟩=>hm pins s2 σ H2 x vs v us Q I2 r1 r2 q2
/- xs.append(e),list.index on a module's tuple .. are MtR facts of 06m -/
end
end L2
namespace L2
open PySem PySem.Spec PyProof.Rows
def MtM (X:Cx)(id:String)(r:V->List V->Hp->VK->Prop):Prop:=
 ∀(pins:List (Addr×Obj)) (s:Shared) (σ:St) (H:Hp) (x:V) (xs:List V) (v:Value) (us:List Value) (Q:VK),Inv X pins σ H s->RelV x v->Vals xs us->r x xs H Q ->
  wpAny (model X.prog X.w) X.A (call (.builtin id) (v::us)) (EP X pins σ Q) X.xe s
theorem Vals.one:∀{x:V} {us:List Value},Vals [x] us->∃u,us=[u]/\RelV x u
 |_,_,.cons r .nil=>⟨_,rfl,r⟩
theorem Vals.rep {xs:List V}{us:List Value}(h:Vals xs us):∀k:Nat,Vals (List.replicate k xs).flatten (List.replicate k us).flatten
 |0=>.nil
 |k+1=>by
  rw[List.replicate_succ,List.replicate_succ,List.flatten_cons,List.flatten_cons]
  exact Vals.append h (Vals.rep h k)
theorem foldl_rep (its:List Value):∀(k:Nat) (acc:List Value),
  List.foldl (fun x1 x2=>x1++x2) acc.toArray (List.replicate k its.toArray)=(acc++(List.replicate k its).flatten).toArray
 |0,acc=>by simp
 |k+1,acc=>by
  have e:acc.toArray++its.toArray=(acc++its).toArray:=by simp
  have e2:(acc++its)++(List.replicate k its).flatten=acc++(List.replicate (k+1) its).flatten:=by
   rw[List.replicate_succ,List.flatten_cons,List.append_assoc]
  rw[<-e2,<-foldl_rep its k (acc++its),<-e,List.replicate_succ,List.foldl_cons]
section
variable {X:Cx} {pins:List (Addr×Obj)} {σ:St} {H:Hp} {s:Shared} {l b:Addr} {xs ys zs:List V}
theorem Inv.lset {its its':List Value}{n:Nat}{f:Array Value->Array Value}{t':Nat}(I:Inv X pins σ H s)(hH:H l=some (.lst xs))
  (e:s.heap.get? l=some {cls:=.type "list",data:=.seq its.toArray n}) (hf:f its.toArray=its'.toArray) (hv:Vals ys its') (hz:ys.length<=sizeLine):
  Inv X pins σ (upd H l (.lst ys)) {s with heap:=s.heap.update l (Obj.mapSeq f),toks:=t' }:=by
 have q:=PySem.IsL.update e f
 rw[hf]at q
 refine I.write (x:=l) (e:=l) (by rw[hH];exact trivial) (.inl rfl) (fun b' u hb hu=>(Heap.get?_update_other s.heap (Obj.mapSeq f) (Ne.symm hb)).trans hu) ⟨_,q⟩ ?_
 exact⟨hz,its',_,hv,q⟩
theorem Inv.lnew {its:List Value}{t':Nat}(I:Inv X pins σ H s)(hv:Vals ys its)(hz:ys.length<=sizeLine):
  Inv X pins σ (upd H s.heap.objs.size (.lst ys)) {s with heap:=s.heap.push {cls:=.type "list",data:=.seq its.toArray},toks:=t' }:=
 I.laid (fun _ _ q=>Heap.get?_push_of_some _ q) (Nat.le_refl _) ⟨hz,its,0,hv,Heap.get?_push_size _ rfl⟩
theorem Inv.fresh (I:Inv X pins σ H s):H s.heap.objs.size=none:=I.hok.fresh (Nat.le_refl _)
theorem Inv.lstM (I:Inv X pins σ H s)(hH:H l=some (.lst xs)):xs.length<=sizeLine/\∃(its:List Value) (n:Nat),Vals xs its/\xs.length=its.length/\s.heap.get? l=some {cls:=.type "list",data:=.seq its.toArray n}:=by
 obtain⟨z,its,n,r,e⟩:=I.hok l _ hH
 exact⟨z,its,n,r,r.length,e⟩
theorem ZI {n:Nat}(h:n<=sizeLine):Builtin.List.listTooLong n=false:=by
 unfold Builtin.List.listTooLong
 exact decide_eq_false (by omega)
end
section
variable {X:Cx}
def X8:V->List V->Hp->VK->Prop:=fun x vs H Q=>∃l xs y,x=.ref l/\vs=[y]/\H l=some (.lst xs)/\xs.length<sizeLine/\Q .non (upd H l (.lst (xs++[y])))
theorem B9:MtM X "list.append" X8:=by
 intro pins s σ H x vs v us Q I rx rv h
 obtain⟨l,xs,y,rfl,rfl,hH,hz,q⟩:=h
 cases rx
 obtain⟨u,rfl,ru⟩:=rv.one
 obtain⟨z,its,n,r,hl,e⟩:=I.lstM hH
 refine call_meets F.slot_list_append ⟨_,e,rfl⟩ F.entry_list_append (F.args_list_append_2 _ _) (PySem.list_append l its.toArray n u (by rw[List.size_toArray];omega)) ⟨e,?_⟩
 refine⟨.non,_,I.lset (its':=its++[u]) hH e (by simp) (r.append (.cons ru .nil)) ?_,rfl,q⟩
 rw[List.length_append,List.length_singleton]
 omega
def X9:V->List V->Hp->VK->Prop:=fun x vs H Q=>∃l b xs zs,x=.ref l/\vs=[.ref b]/\H l=some (.lst xs)/\H b=some (.lst zs)/\xs.length+zs.length<=sizeLine/\Q .non (upd H l (.lst (xs++zs)))
theorem Ya:MtM X "list.extend" X9:=by
 intro pins s σ H x vs v us Q I rx rv h
 obtain⟨l,b,xs,zs,rfl,rfl,hH,hB,hz,q⟩:=h
 cases rx
 obtain⟨u,rfl,ru⟩:=rv.one
 cases ru
 obtain⟨z,its,n,r,hl,e⟩:=I.lstM hH
 obtain⟨z2,its2,n2,r2,hl2,e2⟩:=I.lstM hB
 have hsz:its.toArray.size+its2.toArray.size<=sizeLine:=by rw[List.size_toArray,List.size_toArray];omega
 have hlong:¬ (!its.toArray.isEmpty&&Builtin.List.listTooLong (its.toArray.size+its2.toArray.size))=true:=by
  rw[ZI hsz,Bool.and_false]
  exact Bool.false_ne_true
 refine call_meets F.slot_list_extend ⟨_,e,rfl⟩ F.entry_list_extend (F.args_list_extend_2 _ _)
  (AutoSeq1.list_extend_list_list_0 l its.toArray n b its2.toArray n2 hlong (by rw[List.size_toArray];omega) (by omega)) ⟨e,e2,?_⟩
 refine⟨.non,_,I.lset (its':=its++its2) hH e (by simp) (r.append r2) ?_,rfl,q⟩
 rw[List.length_append]
 omega
def rCat:R2:=fun x y H Q=>∃l b xs zs,x=.ref l/\y=.ref b/\H l=some (.lst xs)/\H b=some (.lst zs)/\xs.length+zs.length<=sizeLine/\∀p,H p=none->Q (.ref p) (upd H p (.lst (xs++zs)))
theorem AP_:OpR X (binaryOp .Add) rCat:=by
 intro pins s σ H x y v u Q I rx ry h
 obtain⟨l,b,xs,zs,rfl,rfl,hH,hB,hz,q⟩:=h
 cases rx
 cases ry
 obtain⟨z,its,n,r,hl,e⟩:=I.lstM hH
 obtain⟨z2,its2,n2,r2,hl2,e2⟩:=I.lstM hB
 refine PySem.P.add_list e e2 ?_ (by rw[List.size_toArray,List.size_toArray];omega)
 have ea:its.toArray++its2.toArray=(its++its2).toArray:=by simp
 rw[ea]
 exact⟨.ref _,_,I.lnew (t':=s.toks) (r.append r2) (by rw[List.length_append];omega),rfl,q _ I.fresh⟩
theorem len_rep {α:Type}(xs:List α)(k:Nat):(List.replicate k xs).flatten.length=k*xs.length:=by
 induction k with
 |zero=>simp
 |succ k ih=>rw[List.replicate_succ,List.flatten_cons,List.length_append,ih,Nat.succ_mul,Nat.add_comm]
end
end L2
namespace Att
open PySem PySem.W PySem.Calls PyProof.Rows
theorem MQ {P:Params}{h:Heap}:∀(ns:List Int) (vs:List Value),WellAll P h vs (ns.map WData.int)->IntsAre vs ns:=by
 intro ns
 induction ns with
 |nil=>
  intro vs w
  rw[List.map_nil]at w
  cases w
  exact .nil
 |cons n ns ih=>
  intro vs w
  rw[List.map_cons]at w
  cases w with
  |cons a b=>
   cases a
   exact .cons _ _ (ih _ b)
theorem Yb {l:OpenLaw}{n:Nat}(hn:l.most=some n){P:Params}{h:Heap}{args:List WData}{vals:List Value}
  (hpre:l.row.toRowW.claim.pre args=true) (hwl:WellAll P h vals args):
  ∃a vs ns,vals=[Value.ref a]/\args=[WData.list (ns.map WData.int)]/\h.get? a=some {cls:=.type "list",data:=.seq vs.toArray}/\IntsAre vs ns/\ns.length<=n:=by
 have hsh:WShape.hasAll [] args [.list .int]=true:=(pre_splitW hpre).1
 have hc:l.pre.holds [] {args:=args}=true:=(pre_splitW hpre).2
 obtain⟨d,r,rfl,h1,h2⟩:=hasAllW_cons hsh
 obtain rfl:=hasAllW_nil h2
 obtain⟨xs,rfl,h3⟩:=hasW_list h1
 obtain⟨ns,rfl⟩:=items_int h3
 have hlen:ns.length<=n:=by
  unfold OpenLaw.pre at hc
  have h4:(WTm.not (.lt (.lit (.int (n:Int))) (.len (.arg 0)))).holds [] {args:=[.list (ns.map .int)]}=true:=by
   have h4:=(holds_andW hc).1
   rw[hn]at h4
   exact h4
  have h5:=condW_of h4 (w_not (w_lt w_lit (w_len_list (w_arg rfl))))
  rw[List.length_map]at h5
  refine Nat.le_of_not_lt fun q=>?_
  have q':(n:Int)<((ns.length:Nat):Int):=by omega
  first
   | (rw[decide_eq_true q']at h5;exact absurd h5 (by decide))
   | (simp at h5;omega)
 cases hwl with
 |cons w1 w2=>
  cases w2
  cases w1 with
  |list ho hall=>exact⟨_,_,ns,rfl,rfl,ho,MQ ns _ hall,hlen⟩
theorem Yc (l:OpenLaw)(args:List WData):l.row.toRowW.claim.post args (.bool true) args=true:=
 postW_of (r:=l.row.toRowW) (X:=(true==true))
  (show WShape.has [] (.bool true) .bool=true by first|rfl|decide|simp[WShape.has,WShape.arms,WShape.armsAll])
  (show (WTm.eq .res (.lit (.bool true))).value [] {args:=args,res:=some (.bool true),after:=args}=some (.bool (true==true)) from w_eq_bool (w_res rfl) w_lit) rfl
theorem attach_call {l:OpenLaw}{n:Nat}{q:Program}{loose:List Str}{XP:(Str->Option Value)->Heap->Prop}{YP:World->Heap->Prop}{d:DefRec}
  (hn:l.most=some n) (hdf:d.params.defaults=[])
  (call:∀(w:World) (s₀ s₁:Shared) (mg mb:Str->Option Value) (fa:Addr) (o:Obj) (pm cd doc:Value) (a:Addr) (vs:List Value) (ns:List Int),
   Ground q loose [] XP w s₀ mg mb s₁.heap->YP w s₁.heap ->
   s₁.heap.get? fa=some o->o.data=.func (docDef d.name d.params d.body d.scope pm cd doc)->s₁.heap.CodeRec cd d.name->mg d.name=some (.ref fa) ->
   s₁.heap.get? a=some {cls:=.type "list",data:=.seq vs.toArray}->IntsAre vs ns->ns.length<=n->s₁.gens = #[] ->
   codeAny (model l.prog w) callerA (.call (.ref fa) ⟨[.ref a],[]⟩) (fun r s'=>r=.ok (.ret (.bool true))/\OldK s₁.heap s'.heap/\s'.os=s₁.os/\AllBare s'.gens) s₁):
  WalkO q loose XP YP l.row.toRowW d [] (fun f vs=>PySem.call f vs):=by
 intro w s₀ s₁ mg mb G Y fa o pm cd doc dV kV ho hd hcd hD hmg hg args vals as hpre hlay hrd hwl hlo
 obtain rfl:dV=.none:=Dflts.none hD hdf
 obtain rfl:kV=.none:=Dflts.noKw hD
 obtain⟨a,vs,ns,rfl,rfl,hobj,hints,hlen⟩:=Yb hn hpre hwl
 refine enter_call (codeAny_mono (call w s₀ s₁ mg mb fa o pm cd doc a vs ns G Y ho (fd_plain hd) hcd hmg hobj hints hlen hg) fun r s' hq=>?_)
 obtain⟨rfl,h2,h3,h4⟩:=hq
 exact⟨.inl ⟨.bool true,.bool true,[],rfl,fun _=>rfl,.bool true,Yc l _,fun _=>⟨List.Pairwise.nil,fun _ hm=>(nomatch hm)⟩⟩,h2,h3,h4⟩
end Att
namespace L2
open PySem PySem.Spec PyProof.Rows
theorem SY:∀{vs:List Value} {ns:List Int},IntsAre vs ns->Vals (ns.map V.int) vs
 |_,_,.nil=>.nil
 |_,_,.cons n t h=>.cons ⟨t,rfl⟩ (SY h)
def Only (H:Hp):Prop:=∀b,H b=none \/ ∃o xs,H b=some (.frz o (.lst xs))
theorem ZJ {P:Program}{w:World}{K:PySem.W.Frag}{mg mb:Str->Option Value}{CX:CXT}{k:Nat}{fa a:Addr}{fd:FuncData}{x:Str}{sp:Sp}{s₁:Shared}{vs:List Value}{ns:List Int}
  (KX:K.In s₁.heap) (hns:s₁.heap.Ns mainGlobals mg) (hb:s₁.heap.Ns builtinsNs mb) (hbb:∀x:Str,x ≠ "__name__" -> mb x=bootBuiltins x) (hlim:s₁.heap.NoLimit) (hg:s₁.gens = #[])
  (ha:s₁.heap.get? a=some {cls:=.type "list",data:=.seq vs.toArray}) (hi:IntsAre vs ns) (hl:ns.length<=sizeLine) (hr:Room k callerA)
  (F:∀base:Heap,K.In base->base.Ns mainGlobals mg->FnOk P w K mg base CX k fa fd [x] sp) (hbind:∀(s:Shared) (u:Value),BindsTo s fd ⟨[u],[]⟩ [(x,u)])
  (hsp:∀H:Hp,Only H->SqL K H a (ns.map V.int)->sp [.ref a] H (fun v _=>v=.bl true) fun _ _ _=>False)
  (hCX:∀H e s',CX [] H s₁ (fun _ _ _=>False) e s'->False):
  codeAny (model P w) callerA (.call (.ref fa) ⟨[.ref a],[]⟩) (fun r s'=>r=.ok (.ret (.bool true))/\OldK s₁.heap s'.heap/\s'.os=s₁.os/\AllBare s'.gens) s₁:=by
 have rv:=SY hi
 have lenV:=hi.length
 -- from an abstract heap in which nothing but the script may be tracked
 have core:∀H:Hp,Only H->SqL K H a (ns.map V.int)->HOk P w H s₁.heap->(∀b,H b≠none->b=a)->(H a≠none->K.lookup a=none) ->
   codeAny (model P w) callerA (.call (.ref fa) ⟨[.ref a],[]⟩) (fun r s'=>r=.ok (.ret (.bool true))/\OldK s₁.heap s'.heap/\s'.os=s₁.os/\AllBare s'.gens) s₁:=by
  intro H hO hS hok hA hK
  have base_of:∀{b:Addr} {o:Obj},s₁.heap.get? b=some o->H b=none->(hidT s₁.heap H).get? b=some o:=fun e n=>Zz e n
  have noA:∀{b:Addr} {o:Obj} {es:Array DictEntry} {ep:Nat},s₁.heap.get? b=some o->o.data=.dict es ep->H b=none:=fun {b o es ep} e d=>by
   cases q:H b with
   |none=>rfl
   |some u=>
    have e':b=a:=hA b (by rw[q];simp)
    subst e'
    rw[ha]at e;cases e
    have d':Data.seq vs.toArray _=Data.dict es ep:=d
    cases d'
  have nsK:∀{b:Addr} {m:Str->Option Value},s₁.heap.Ns b m->(hidT s₁.heap H).Ns b m:=fun {b m} ⟨o,es,ep,e,d,r⟩=>⟨o,es,ep,base_of e (noA e d),d,r⟩
  have hKb:K.In (hidT s₁.heap H):=fun b o e=>base_of (KX b o e) (by
   cases q:H b with
   |none=>rfl
   |some u=>
    have e':b=a:=hA b (by rw[q];simp)
    subst e'
    rw[hK (by rw[q];simp)]at e;cases e)
  have hM:Mod K mg (hidT s₁.heap H):=⟨hKb,nsK hns,⟨mb,nsK hb,hbb⟩,let ⟨mc,h1,h2⟩:=hlim;⟨mc,nsK h1,h2⟩⟩
  have e0:Env0 P w K mg (hidT s₁.heap H) callerA [] s₁ H:=⟨rfl,hM,fun b o e=>BH_ e,Nat.le_of_eq (XO _ _),trivial,fun b hb=>absurd (show b∈([]:List Addr) from hb) (by simp),hok,.of_eq hg⟩
  refine codeAny_mono ((F _ hKb (nsK hns)).run callerA [] s₁ H ⟨[.ref a],[]⟩ [.ref a] [.ref a] _ _ hr e0 (hbind s₁ (.ref a)) (.cons rfl .nil) (hsp H hO hS)) fun r s' h=>?_
  cases r with
  |error e=>exact (hCX H e s' h).elim
  |ok fl=>
   cases fl with
   |next=>exact False.elim h
   |brk=>exact False.elim h
   |cont=>exact False.elim h
   |ret u=>
    obtain⟨v,H',os,bare,un,hok',r',q⟩:=h
    have q':v=.bl true:=q
    subst q'
    obtain rfl:u=Value.bool true:=r'
    refine⟨rfl,OldK.of_keep fun b o e=>?_,os,bare⟩
    cases q:H b with
    |none=>exact un.keep b o e q (by intro z;exact absurd (show b∈([]:List Addr) from z) (by simp)) (by simp)
    |some u=>
     rcases hO b with z|⟨ob,xs,z⟩
     ·rw[q]at z;cases z
     ·have z2:=un.frzs b ob _ z
      obtain⟨e1,_⟩:=hok b _ z
      obtain⟨e2,_⟩:=hok' b _ z2
      rw[e]at e1;cases e1
      exact e2
 cases hk:K.lookup a with
 |some o=>
  -- the script is one of the module's own objects
  have e:=KX a o hk
  rw[ha]at e
  cases e
  refine core (fun _=>none) (fun _=>.inl rfl) (.inr ⟨_,vs.toArray,_,hk,rfl,rfl,rfl,by rw[List.size_toArray,lenV];exact hl,by simpa using rv⟩) (fun b u z=>by have z':(none:Option HO)=some u:=z;cases z') (fun b z=>absurd rfl z) fun z=>absurd rfl z
 |none=>
  refine core (fun b=>if b=a then some (.frz {cls:=.type "list",data:=.seq vs.toArray} (.lst (ns.map V.int))) else none) (fun b=>?_) (.inl (.inr ⟨{cls:=.type "list",data:=.seq vs.toArray},if_pos rfl⟩)) (fun b u z=>?_) (fun b z=>?_) fun _=>hk
  ·by_cases hb:b=a
   ·exact .inr ⟨_,_,if_pos hb⟩
   ·exact .inl (if_neg hb)
  ·by_cases hb:b=a
   ·have z':=(if_pos hb).symm.trans z
    cases z'
    subst hb
    exact⟨ha,by rw[List.length_map];exact hl,vs,_,rv,ha⟩
   ·have z':=(if_neg hb).symm.trans z
    cases z'
  ·by_cases hb:b=a
   ·exact hb
   ·exact absurd (if_neg hb) z
theorem walk_of {l:PySem.W.OpenLaw}{n k:Nat}{q:Program}{loose:List Str}{XP:(Str->Option Value)->Heap->Prop}{YP:World->Heap->Prop}{d:DefRec}{K:Params->PySem.W.Frag}{CX:World->CXT}{sp:World->Sp}{x:Str}
  (hn:l.most=some n) (hn2:n<=sizeLine) (hdf:d.params.defaults=[]) (hr:Room k callerA)
  (hY:∀(w:World) (h:Heap),YP w h->(K w.params).In h)
  (F:∀(w:World) (mg:Str->Option Value) (fa:Addr) (h:Heap),(K w.params).In h->h.Ns mainGlobals mg->mg d.name=some (.ref fa) ->
   ∃fd:FuncData,(∀(s:Shared) (u:Value),BindsTo s fd ⟨[u],[]⟩ [(x,u)]) /\
    ∀base:Heap,(K w.params).In base->base.Ns mainGlobals mg->FnOk l.prog w (K w.params) mg base (CX w) k fa fd [x] (sp w))
  (hsp:∀(w:World) (H:Hp) (a:Addr) (ns:List Int),ns.length<=n->Only H->SqL (K w.params) H a (ns.map V.int)->sp w [.ref a] H (fun v _=>v=.bl true) fun _ _ _=>False)
  (hCX:∀(w:World) (H:Hp) (s:Shared) (e:Value) (s':Shared),CX w [] H s (fun _ _ _=>False) e s'->False):
  PySem.W.WalkO q loose XP YP l.row.toRowW d [] (fun f vs=>PySem.call f vs):=by
 refine Att.attach_call hn hdf fun w s₀ s₁ mg mb fa o pm cd doc a vs ns G Y ho hd hcd hmg hobj hints hlen hg=>?_
 have KX:=hY w _ Y
 obtain⟨fd,hb,hF⟩:=F w mg fa _ KX G.T.g hmg
 exact ZJ KX G.T.g G.T.b G.T.builtins G.T.nolimit hg hobj hints (Nat.le_trans hlen hn2) hr hF hb (fun H hO hS=>hsp w H a ns hlen hO hS) fun H e s'=>hCX w H s₁ e s'
def As (s:Stmt):Arguments:=match s with
 |.FunctionDef _ a _ _ _ _ _ _ _ _=>a
 |_=>{posonlyargs:=[],args:=[],vararg:=none,kwonlyargs:=[],kw_defaults:=[],kwarg:=none,defaults:=[]}
def Ao (s:Stmt):List Stmt:=match s with
 |.FunctionDef _ _ b _ _ _ _ _ _ _=>b
 |_=>[]
def Ae (s:Stmt):Scope:=match s with
 |.FunctionDef _ _ _ _ _ _ sc _ _ _=>sc
 |_=>{kind:=.function,names:=[],isGenerator:=false,isCoroutine:=false}
abbrev CX0:CXT:=fun _ _ _ _ _ _=>False
abbrev E0:XK:=fun _ _ _=>False
theorem AD {X:Cx}:SR CX0 X E0:=fun _ _ _ _ _ _ _ h=>h.elim
structure Fun (K:PySem.W.Frag)(x qual:Str)(st:Stmt)(f:Addr)(fd:FuncData):Prop where
 ex:∃(oc:Value) (od:Option Addr) (kV doc pm:Value) (an:Option Addr) (cdv ct:Value) (osl:Array (Option Value)),
  fd=PySem.W.fnOf x qual (As st) (Ao st) (Ae st) .none kV doc pm an cdv ct/\K.lookup f=some ⟨oc,od,.func fd,osl⟩/\PySem.W.codeIn K cdv qual=true
 kp:PySem.W.keepIn K (.ref f)=true
section
variable {P:Program} {w:World} {K:PySem.W.Frag} {mg:Str->Option Value} {base:Heap}
theorem Fun.ok {x qual:Str}{st:Stmt}{f:Addr}{fd:FuncData}{N ps:List Str}{k:Nat}{sp:Sp}(F:Fun K x qual st f fd)(S:FnScope N ps (Ae st))(len:∀vs H Q E,sp vs H Q E->vs.length=ps.length)
  (hbody:∀(cdv:Value) (A:Around) (outer:List Env) (s:Shared) (H:Hp) (vs:List V) (Q:VK) (E:XK),Room k (A.deeper (envOfC qual (Ae st) s.heap.objs.size f cdv))->sp vs H Q E ->
   ∃t,PSs (cxOf CX0 P w K mg base N qual (Ae st) f cdv A outer s H E).nox (Ao st) t/\t {nx:=fun _ H'=>Q .non H',rt:=Q} (start N vs) H):FnOk P w K mg base CX0 (k+1) f fd ps sp:=by
 obtain⟨oc,od,kV,doc,pm,an,cdv,ct,osl,rfl,lk,hcd⟩:=F.ex
 refine CX_ lk hcd S len fun A outer s H vs Q E hr hsp=>?_
 obtain⟨t,h,q⟩:=hbody cdv A outer s H vs Q E hr hsp
 exact⟨t,h.nox,q⟩
theorem Fun.binds {x qual:Str}{st:Stmt}{f:Addr}{fd:FuncData}{ps:List Str}(F:Fun K x qual st f fd)
  (h:∀(kV doc pm:Value) (an:Option Addr) (cdv ct:Value) (us:List Value),us.length=ps.length->bindArgs (PySem.W.fnOf x qual (As st) (Ao st) (Ae st) .none kV doc pm an cdv ct) ⟨us,[]⟩=pure (ps.zip us)):Binds K fd ps []:=by
 obtain⟨oc,od,kV,doc,pm,an,cdv,ct,osl,rfl,lk,hcd⟩:=F.ex
 exact .all (h kV doc pm an cdv ct)
theorem AI {x qual:Str}{st:Stmt}{f:Addr}{oc:Value}{od an:Option Addr}{osl:Array (Option Value)}{kV doc pm cdv ct:Value}(l:K.lookup f=some ⟨oc,od,.func (PySem.W.fnOf x qual (As st) (Ao st) (Ae st) .none kV doc pm an cdv ct),osl⟩)
  (c:PySem.W.codeIn K cdv qual=true) (k:PySem.W.keepIn K (.ref f)=true):Fun K x qual st f (PySem.W.fnOf x qual (As st) (Ao st) (Ae st) .none kV doc pm an cdv ct):=⟨⟨oc,od,kV,doc,pm,an,cdv,ct,osl,rfl,l,c⟩,k⟩
end
theorem ZK {A:Around}{k:Nat}(hr:Room k A):A.units+1<cLine:=Nat.lt_of_le_of_lt (Nat.add_le_add_left (by decide:1<=64) _) hr.units
section
variable {X:Cx}
theorem pv (i:Nat){x:Str}{pos:Pos}(hN:X.N[i]?=some x:=by rfl)(hv:Vis X.env.scope x:=by first|exact Or.inl rfl|exact Or.inr (Or.inl rfl)|exact Or.inr (Or.inr rfl))(hd:(x==("__debug__" : Str))=false:=by decide)
  (hcd:(x==("__classdict__" : Str))=false:=by decide):PE X (.Name x pos) (tVar i):=CD_ hN hv hd hcd
end
theorem ite2 {c A B:Prop}[Decidable c](h1:c->A)(h2:¬ c->B):if c then A else B:=by
 by_cases h:c
 ·rw[if_pos h]
  exact h1 h
 ·rw[if_neg h]
  exact h2 h
def Same (H H':Hp):Prop:=∀b o,H b=some o->H' b=some o
theorem Same.refl (H:Hp):Same H H:=fun _ _ h=>h
theorem Same.trans {H H1 H2:Hp}(a:Same H H1)(b:Same H1 H2):Same H H2:=fun c o h=>b c o (a c o h)
theorem Same.seq {K:PySem.W.Frag}{H H':Hp}{a:Addr}{xs:List V}(e:Same H H')(h:SqL K H a xs):SqL K H' a xs:=by
 rcases h with (h|⟨o,h⟩)|h
 ·exact .inl (.inl (e _ _ h))
 ·exact .inl (.inr ⟨o,e _ _ h⟩)
 ·exact .inr h
end L2
set_option maxHeartbeats 4000000
namespace L2
open PySem PySem.Spec PyProof.Rows
section
variable {κ:Type} [DecidableEq κ]
def valV (kvs:List (κ×V))(k:κ):Option V:=(kvs.find? fun kv=>decide (kv.1=k)).map (·.2)
def putK (kvs:List (κ×V))(k:κ)(v:V):List (κ×V):=
 if (kvs.any fun kv=>decide (kv.1=k))=true then kvs.map (fun kv=>if kv.1=k then (kv.1,v) else kv) else kvs++[(k,v)]
theorem PX {p:κ×V}{r:List (κ×V)}{k:κ}(e:p.1=k):valV (p::r) k=some p.2:=by simp[valV,List.find?_cons,e]
theorem PY {p:κ×V}{r:List (κ×V)}{k:κ}(e:¬ p.1=k):valV (p::r) k=valV r k:=by simp[valV,List.find?_cons,e]
theorem J5 (k:κ):∀kvs:List (κ×V),(kvs.any fun kv=>decide (kv.1=k))=(valV kvs k).isSome
 |[]=>rfl
 |p::r=>by
  rw[List.any_cons]
  by_cases e:p.1=k
  ·simp only[PX e,decide_eq_true e,Bool.true_or,Option.isSome_some]
  ·rw[PY e,decide_eq_false e,Bool.false_or];exact J5 k r
theorem Jr (kvs:List (κ×V))(k:κ)(v:V):(putK kvs k v).length<=kvs.length+1:=by
 unfold putK
 split
 ·rw[List.length_map];omega
 ·rw[List.length_append,List.length_cons,List.length_nil];omega
theorem ZL {kvs:List (κ×V)}{k:κ}(v:V)(h:valV kvs k=none):putK kvs k v=kvs++[(k,v)]:=by
 unfold putK
 rw[J5,h]
 exact if_neg (by decide)
theorem RelO.isSome_eq {o:Option V}{u:Option Value}(r:RelO o u):o.isSome=u.isSome:=by
 cases o with
 |none=>cases u with
  |none=>rfl
  |some _=>exact (show False from r).elim
 |some _=>cases u with
  |none=>exact (show False from r).elim
  |some _=>rfl
theorem KV.val {kvs:List (κ×V)}{vs:List (κ×Value)}(r:KV kvs vs)(k:κ):RelO (valV kvs k) (valueAt vs k):=by
 unfold KV at r
 induction r with
 |nil=>exact True.intro
 |@cons p q ps qs h t ih=>
  obtain⟨h1,h2⟩:=h
  by_cases e:p.1=k
  ·have e':q.1=k:=h1.symm.trans e
   have b:valueAt (q::qs) k=some q.2:=by simp[valueAt,List.find?_cons,e']
   rw[PX e,b];exact h2
  ·have e':¬ q.1=k:=fun z=>e (h1.trans z)
   have b:valueAt (q::qs) k=valueAt qs k:=by simp[valueAt,List.find?_cons,e']
   rw[PY e,b];exact ih
theorem KV.any {kvs:List (κ×V)}{vs:List (κ×Value)}(r:KV kvs vs)(k:κ):(kvs.any fun kv=>decide (kv.1=k))=vs.any fun kv=>decide (kv.1=k):=by
 unfold KV at r
 induction r with
 |nil=>rfl
 |cons h t ih=>rw[List.any_cons,List.any_cons,ih,h.1]
theorem KV.repl {kvs:List (κ×V)}{vs:List (κ×Value)}(r:KV kvs vs)(k:κ){y:V}{u:Value}(ry:RelV y u):
  KV (kvs.map fun kv=>if kv.1=k then (kv.1,y) else kv) (vs.map fun kv=>if kv.1=k then (kv.1,u) else kv):=by
 unfold KV at r ⊢
 induction r with
 |nil=>exact .nil
 |@cons p q ps qs h t ih=>
  rw[List.map_cons,List.map_cons]
  refine .cons ?_ ih
  obtain⟨h1,h2⟩:=h
  by_cases e:p.1=k
  ·rw[if_pos e,if_pos (h1.symm.trans e)];exact⟨h1,ry⟩
  ·rw[if_neg e,if_neg (fun z=>e (h1.trans z))];exact⟨h1,h2⟩
theorem KV.put {kvs:List (κ×V)}{vs:List (κ×Value)}(r:KV kvs vs)(k:κ){y:V}{u:Value}(ry:RelV y u):KV (putK kvs k y) (stored vs k u):=by
 unfold putK stored
 rw[r.any k]
 by_cases e:(vs.any fun kv=>decide (kv.1=k))=true
 ·rw[if_pos e,if_pos e];exact r.repl k ry
 ·rw[if_neg e,if_neg e];exact Paired.snoc r ⟨rfl,ry⟩
theorem KV.length {kvs:List (κ×V)}{vs:List (κ×Value)}(r:KV kvs vs):kvs.length=vs.length:=Paired.length r
end
theorem ZM {P:Program}{w:World}{k:Key}{u:Value}(r:RelV (kV k) u):(B8 P w).is k u=true:=by
 cases k with
 |inl i=>obtain⟨t,e⟩:=(show ∃t,u=Value.int i t from r);subst e;exact UD P w i t
 |inr x=>obtain⟨t,e⟩:=(show ∃t,u=Value.str x t from r);subst e;exact UE P w x t
theorem S0 {P:Program}{w:World}:∀{ks:List Key} {us:List Value},Vals (ks.map kV) us->ItemsAre (B8 P w) ks us
 |[],_,r=>by rw[List.map_nil]at r;cases r;exact .nil
 |k::ks,_,r=>by
  rw[List.map_cons]at r
  cases r with
  |cons h t=>exact .cons (ZM h) (S0 t)
abbrev KT (H:Hp):List (List Key×V)->List (List Key×Addr×Value)->Prop:=Paired fun p q=>p.1=q.1/\H q.2.1=some (.tup (p.1.map kV))/\RelV p.2 q.2.2
theorem KT.val {H:Hp}{kvs:List (List Key×V)}{xs:List (List Key×Addr×Value)}(r:KT H kvs xs)(k:List Key):RelO (valV kvs k) ((atKey xs k).map (·.2)):=by
 induction r with
 |nil=>exact True.intro
 |@cons p q ps qs h t ih=>
  obtain⟨h1,_,h2⟩:=h
  by_cases e:p.1=k
  ·have e':q.1=k:=h1.symm.trans e
   have b:atKey (q::qs) k=some q.2:=by simp[atKey,List.find?_cons,e']
   rw[PX e,b];exact h2
  ·have e':¬ q.1=k:=fun z=>e (h1.trans z)
   have b:atKey (q::qs) k=atKey qs k:=by simp[atKey,List.find?_cons,e']
   rw[PY e,b];exact ih
theorem KT.repl {H:Hp}{kvs:List (List Key×V)}{xs:List (List Key×Addr×Value)}(r:KT H kvs xs)(k:List Key){y:V}{u:Value}(ry:RelV y u):
  KT H (kvs.map fun kv=>if kv.1=k then (kv.1,y) else kv) (xs.map (putAt k u)):=by
 induction r with
 |nil=>exact .nil
 |@cons p q ps qs h t ih=>
  rw[List.map_cons,List.map_cons]
  refine .cons ?_ ih
  obtain⟨h1,h2,h3⟩:=h
  unfold putAt
  by_cases e:p.1=k
  ·rw[if_pos e,if_pos (h1.symm.trans e)];exact⟨h1,h2,ry⟩
  ·rw[if_neg e,if_neg (fun z=>e (h1.trans z))];exact⟨h1,h2,h3⟩
theorem KT.put {H:Hp}{kvs:List (List Key×V)}{xs:List (List Key×Addr×Value)}(r:KT H kvs xs)(k:List Key){b:Addr}{y:V}{u:Value}(hb:H b=some (.tup (k.map kV)))(ry:RelV y u):
  KT H (putK kvs k y) (storedH xs k b u):=by
 have e:(kvs.any fun kv=>decide (kv.1=k))=(atKey xs k).isSome:=by
  rw[J5,(r.val k).isSome_eq,Option.isSome_map]
 unfold putK storedH
 rw[e]
 by_cases q:(atKey xs k).isSome=true
 ·rw[if_pos q,if_pos q];exact r.repl k ry
 ·rw[if_neg q,if_neg q];exact Paired.snoc r ⟨rfl,hb,ry⟩
theorem KT.keeps {H H':Hp}{kvs:List (List Key×V)}{xs:List (List Key×Addr×Value)}(r:KT H kvs xs)(ht:∀b ys,H b=some (.tup ys)->H' b=some (.tup ys)):KT H' kvs xs:=
 Paired.mapP r fun _ _ z=>⟨z.1,ht _ _ z.2.1,z.2.2⟩
section
variable {P:Program} {w:World} {H:Hp} {h:Heap} {a:Addr}
theorem ZN {u:HO}(ok:HOk P w H h)(e:Rd H a u):Bq P w H h a u:=e.ok ok
theorem ZO {kvs:List (Key×V)}(ok:HOk P w H h)(e:Rd H a (.dK kvs)):kvs.length<=sizeLine/\(a==sysModules)=false/\∃vs,KV kvs vs/\h.DictOf (B8 P w) a vs:=
 show Bq P w H h a (.dK kvs) from ZN ok e
theorem De_ {kvs:List (Key×V)}(ok:HOk P w H h)(e:H a=some (.dK kvs)):kvs.length<=sizeLine/\(a==sysModules)=false/\∃vs,KV kvs vs/\h.DictOf (B8 P w) a vs:=ZO ok (.inl e)
theorem Yd {ks:List Key}(ok:HOk P w H h)(e:H a=some (.tup (ks.map kV))):(tupleKind (B8 P w)).is h ks a:=by
 obtain⟨_,its,r,o,h1,h2,n,h3⟩:=(show Bq P w H h a (.tup (ks.map kV)) from ok a _ e)
 exact⟨o,its.toArray,n,h1,h2,h3,by simpa using S0 r⟩
theorem BN_ {kvs:List (List Key×V)}(ok:HOk P w H h)(e:Rd H a (.dT kvs)):kvs.length<=sizeLine/\(a==sysModules)=false /\
  ∃xs,KT H kvs xs/\h.DictOfH (tupleKind (B8 P w)) a xs:=by
 obtain⟨z,y,xs,r,o,es,ep,h1,h2,h3,h4,h5⟩:=(show Bq P w H h a (.dT kvs) from ZN ok e)
 refine⟨z,y,xs,r,o,es,ep,h1,h2,h3,h4,fun x hx=>?_,h5⟩
 have all:∀{l:List (List Key×V)} {m:List (List Key×Addr×Value)},KT H l m->∀x∈m,(tupleKind (B8 P w)).is h x.1 x.2.1:=by
  intro l m q
  induction q with
  |nil=>intro x hx;exact nomatch hx
  |@cons p q ps qs hq t ih=>
   intro x hx
   rcases List.mem_cons.mp hx with e|hx
   ·subst e
    exact Yd ok (by rw[<-hq.1];exact hq.2.1)
   ·exact ih x hx
 exact all r x hx
theorem Eo_ {kvs:List (List Key×V)}(ok:HOk P w H h)(e:H a=some (.dT kvs)):kvs.length<=sizeLine/\(a==sysModules)=false /\
  ∃xs,KT H kvs xs/\h.DictOfH (tupleKind (B8 P w)) a xs:=BN_ ok (.inl e)
end
def DGet (H:Hp)(a:Addr)(y:V)(r:Option V):Prop:=
 (∃kvs k,Rd H a (.dK kvs)/\y=kV k/\r=valV kvs k) \/ ∃kvs k b,Rd H a (.dT kvs)/\y=.ref b/\H b=some (.tup (k.map kV))/\r=valV kvs k
def DPut (H:Hp)(a:Addr)(y v:V)(H':Hp):Prop:=
 (∃kvs k,H a=some (.dK kvs)/\y=kV k/\kvs.length<sizeLine/\H'=upd H a (.dK (putK kvs k v))) \/
 ∃kvs k b,H a=some (.dT kvs)/\y=.ref b/\H b=some (.tup (k.map kV))/\kvs.length<sizeLine/\H'=upd H a (.dT (putK kvs k v))
theorem DGet.k {H:Hp}{a:Addr}{kvs:List (Key×V)}{k:Key}(e:H a=some (.dK kvs)):DGet H a (kV k) (valV kvs k):=.inl ⟨kvs,k,.inl e,rfl,rfl⟩
theorem DPut.k {H:Hp}{a:Addr}{kvs:List (Key×V)}{k:Key}{v:V}(e:H a=some (.dK kvs))(hl:kvs.length<sizeLine):DPut H a (kV k) v (upd H a (.dK (putK kvs k v))):=.inl ⟨kvs,k,e,rfl,hl,rfl⟩
theorem DPut.t {H:Hp}{a b:Addr}{kvs:List (List Key×V)}{k:List Key}{v:V}(e:H a=some (.dT kvs))(eb:H b=some (.tup (k.map kV)))(hl:kvs.length<sizeLine):
  DPut H a (.ref b) v (upd H a (.dT (putK kvs k v))):=.inr ⟨kvs,k,b,e,rfl,eb,hl,rfl⟩
section
variable {X:Cx} {pins:List (Addr×Obj)} {σ:St} {H:Hp} {s:Shared} {a:Addr} {y v:V} {u r:Value} {o:Option V} {A:Around} {E:Value->Shared->Prop}
theorem Inv.big (I:Inv X pins σ H s):sysModules<s.heap.objs.size:=by
 have h:mainGlobals<s.heap.objs.size:=(I.mod.glob.keeps I.bk).lt
 exact Nat.lt_trans (by decide) h
theorem Ye {Q:Value->Shared->Prop}(hu:A.units+1<cLine)(I:Inv X pins σ H s)(g:DGet H a y (some v))(ry:RelV y u)(h:∀w' s',Inv X pins σ H s'->RelV v w'->Q w' s'):
  wpAny (model X.prog X.w) A (getItem (.ref a) u) Q E s:=by
 rcases g with ⟨kvs,k,e,ey,l⟩|⟨kvs,k,b,e,ey,eb,l⟩
 ·subst ey
  obtain⟨z,hd,vs,rel,dd⟩:=ZO I.hok e
  obtain⟨w',hw,rw'⟩:=RelO.some_of (v:=v) (o:=valueAt vs k) (by rw[l];exact rel.val k)
  exact wpAny_getItem_of (ZM ry) dd.mapOf hw (h w' _ (I.tok _) rw')
 ·subst ey
  cases (show u=Value.ref b from ry)
  obtain⟨z,hd,xs,rel,dd⟩:=BN_ I.hok e
  obtain⟨w',hw,rw'⟩:=RelO.some_of (v:=v) (o:=(atKey xs k).map (·.2)) (by rw[l];exact rel.val k)
  obtain⟨p,hp,hp2⟩:=Option.map_eq_some_iff.mp hw
  refine wpAny_getItem_heap (tupleKind_room_in1 hu) (Yd I.hok eb) dd hp ?_
  rw[hp2]
  exact h w' _ (I.tok _) rw'
theorem PZ {h':Heap}{t':Nat}{ob:HO}(I:Inv X pins σ H s)(mu:Mut (H a))(hs:Heap.SameBut a s.heap h')(he:∃q,h'.get? a=some q)(new:Bq X.prog X.w (upd H a ob) h' a ob):
  Inv X pins σ (upd H a ob) {s with heap:=h',toks:=t' }:=
 I.write (x:=a) (e:=a) mu (.inl rfl) (fun b q hb z=>(hs.2 b hb).trans z) he new
theorem AQ_ {P:Program}{w:World}{H':Hp}{h':Heap}{kvs:List (Key×V)}{vs:List (Key×Value)}(z:kvs.length<=sizeLine)(hd:(a==sysModules)=false)(rel:KV kvs vs)(dd:h'.DictOf (B8 P w) a vs):
  Bq P w H' h' a (.dK kvs):=⟨z,hd,vs,rel,dd⟩
theorem Yf {H':Hp}{Q:Unit->Shared->Prop}(hu:A.units+1<cLine)(I:Inv X pins σ H s)(g:DPut H a y v H')(ry:RelV y u)(rv:RelV v r)(h:∀s',Inv X pins σ H' s'->Q () s'):
  wpAny (model X.prog X.w) A (setItem (.ref a) u r) Q E s:=by
 rcases g with ⟨kvs,k,e,ey,l,eH⟩|⟨kvs,k,b,e,ey,eb,l,eH⟩
 ·subst ey eH
  obtain⟨z,hd,vs,rel,dd⟩:=De_ I.hok e
  have hz:vs.length<=sizeLine:=by rw[<-rel.length];exact z
  have hl:(putK kvs k v).length<=sizeLine:=by have:=Jr kvs k v;omega
  refine wpAny_setItem_pairs (hsz:=hz) (ZM ry) dd fun h' dd' hs=>h _ ?_
  have he:∃q,h'.get? a=some q:=let ⟨q,_,_,hq,_⟩:=dd';⟨q,hq⟩
  exact PZ I (by rw[e];exact True.intro) hs he (AQ_ hl hd (rel.put k rv) dd')
 ·subst ey eH
  cases (show u=Value.ref b from ry)
  obtain⟨z,hd,xs,rel,dd⟩:=Eo_ I.hok e
  have hz:xs.length<=sizeLine:=by rw[<-Paired.length rel];exact z
  have hl:(putK kvs k v).length<=sizeLine:=by have:=Jr kvs k v;omega
  refine wpAny_setItem_heap (hsz:=hz) (tupleKind_room_in1 hu) (Yd I.hok eb) dd fun h' dd' hs=>h _ ?_
  obtain⟨q,es,ep,hq,h2,h3,h4,_,h5⟩:=dd'
  refine PZ I (by rw[e];exact True.intro) hs ⟨q,hq⟩ ⟨hl,hd,_,(rel.put k eb rv).keeps fun c ys ec=>?_,q,es,ep,hq,h2,h3,h4,h5⟩
  rw[Aw (Ek_ ec e (fun z=>nomatch z))]
  exact ec
end
def NoSl (i:Expr):Prop:=∀ov iv,subscripted i false ov iv=operate [ov,iv] (getItem ov iv)
theorem BO_ {prog:Program}{w:World}{A:Around}{E:Value->Shared->Prop}{s:Shared}{env:Env}{value slice:Expr}{pos:Pos}{T id:String}{Q:Value->Shared->Prop}
  (hl:typeLookup (.type T) "__getitem__"=pure (some (.builtin id))) (hs:NoSl slice)
  (h:wpAny (model prog w) A (eval value env) (fun o s₁=>wpAny (model prog w) A (eval slice env) (fun i s₂=>s₂.TypeIs o T/\wpAny (model prog w) A (getItem o i) Q E s₂) E s₁) E s):
  wpAny (model prog w) A (eval (.Subscript value slice pos) env) Q E s:=by
 refine Subscript_ (wpAny_mono h (fun o s₁ h₁=>wpAny_mono h₁ (fun i s₂ h₂=>?_) fun _ _ x=>x) fun _ _ x=>x)
 obtain⟨hT,h₂⟩:=h₂
 unfold subscriptTail
 refine wpAny_bind ?_
 rw[getitemInPython_of_ne hT.not_modules]
 refine wpAny_bind (wpAny_specialOf hT hl ?_)
 have fin:wpAny (model prog w) A (subscripted slice false o i) (fun r s₃=>wpAny (model prog w) A (letTemporaryGo value o r >>= fun _=>pure r) Q E s₃) E s₂:=by
  rw[hs o i]
  exact wpAny_operating (wpAny_mono h₂ (fun r s₃ h₃=>wpAny_bind (wpAny_letTemporaryGo (wpAny_pure h₃))) fun _ _ x=>x)
 first
  | exact wpAny_pure (wpAny_bind fin)
  | exact wpAny_bind (wpAny_pure (wpAny_bind fin))
  | exact wpAny_bind fin
theorem UJ {X:Cx}{pins:List (Addr×Obj)}{σ:St}{H:Hp}{s:Shared}{a:Addr}{y:V}{o:Option V}(I:Inv X pins σ H s)(g:DGet H a y o):s.TypeIs (.ref a) "dict" := by
 rcases g with ⟨kvs,k,e,_,_⟩|⟨kvs,k,b,e,_,_,_⟩
 ·obtain⟨_,_,vs,_,dd⟩:=ZO I.hok e
  exact dd.typeIs
 ·obtain⟨_,_,xs,_,dd⟩:=BN_ I.hok e
  exact dd.typeIs
def Df_ (td ty:TE):TE:=fun σ H Q=>td σ H fun x H1=>ty σ H1 fun y H2=>∃a v,x=.ref a/\DGet H2 a y (some v)/\Q v H2
def Dg_ (td ty tv:TE):TS:=fun D σ H=>tv σ H fun v H1=>td σ H1 fun x H2=>ty σ H2 fun y H3=>∃a H4,x=.ref a/\DPut H3 a y v H4/\D.nx σ H4
section
variable {X:Cx} {o i e value:Expr} {pos pos' tpos:Pos} {td ty tv:TE}
theorem BP_ (hu:X.A.units+1<cLine)(ho:PE X o td)(hi:PE X i ty)(hs:NoSl i):PE X (.Subscript o i pos) (Df_ td ty):=by
 intro pins s σ H Q I h
 refine BO_ PySem.F.slot_dict_getitem.lookup hs (thn (ho pins s σ H _ I h) fun u s1 ⟨x,H1,I1,rx,q1⟩=>thn (hi pins s1 σ H1 _ I1 q1) fun iv s2 ⟨y,H2,I2,ry,a,v,ex,g,q2⟩=>?_)
 subst ex
 obtain rfl:u=Value.ref a:=rx
 exact⟨UJ I2 g,Ye hu I2 g ry fun w' s3 I3 rw'=>⟨v,H2,I3,rw',q2⟩⟩
theorem UK (hu:X.A.units+1<cLine)(ho:PE X o td)(hi:PE X i ty)(hv:PE X value tv)(hs:swapsWith value (some (.Subscript o i pos')) pos.line X.env=pure false):
  PS X (.Assign [.Subscript o i pos'] value pos) (Dg_ td ty tv):=by
 intro pins s σ H D I h
 refine wpAny_Assign_Subscript (thn (hv pins s σ H _ I h) fun r s1 ⟨v,H1,I1,rv,q1⟩=>thn (ho pins s1 σ H1 _ I1 q1) fun u s2 ⟨x,H2,I2,rx,q2⟩=>thn (hi pins s2 σ H2 _ I2 q2) fun iv s3 ⟨y,H3,I3,ry,a,H4,ex,g,q3⟩=>?_) hs
 subst ex
 obtain rfl:u=Value.ref a:=rx
 exact Yf hu I3 g ry rv fun s4 I4=>⟨σ,H4,I4,q3⟩
end
theorem VJ {P:Program}{w:World}{H:Hp}(h:Heap)(hb:sysModules<h.objs.size):Bq P w H (h.push {cls:=.type "dict",data:=.dict #[]}) h.objs.size (.dK []):=
 ⟨Nat.zero_le _,beq_eq_false_iff_ne.mpr (Ne.symm (Nat.ne_of_lt hb)),[],.nil,Heap.DictOf.new h⟩
theorem ZP {P:Program}{w:World}{H:Hp}(h:Heap)(hb:sysModules<h.objs.size):Bq P w H (h.push {cls:=.type "dict",data:=.dict #[]}) h.objs.size (.dT []):=
 ⟨Nat.zero_le _,beq_eq_false_iff_ne.mpr (Ne.symm (Nat.ne_of_lt hb)),[],.nil,_,#[],0,Heap.get?_push_size _ rfl,⟨rfl,rfl,rfl⟩,rfl,rfl,List.nodup_nil⟩
def AR_:TE:=fun _ H Q=>∀p,H p=none->Q (.ref p) (upd H p (.dK []))
def AS_:TE:=fun _ H Q=>∀p,H p=none->Q (.ref p) (upd H p (.dT []))
section
variable {X:Cx} {pos:Pos}
theorem P0:PE X (.Dict [] [] pos) AR_:=fun pins s σ H Q I h=>
 wpAny_Dict_empty ⟨.ref s.heap.objs.size,_,I.laid (a:=s.heap.objs.size) (o:=.dK []) (t':=s.toks) (fun _ _ q=>Heap.get?_push_of_some _ q) (Nat.le_refl _) (VJ s.heap I.big),rfl,h _ (I.hok.fresh (Nat.le_refl _))⟩
theorem ZQ:PE X (.Dict [] [] pos) AS_:=fun pins s σ H Q I h=>
 wpAny_Dict_empty ⟨.ref s.heap.objs.size,_,I.laid (a:=s.heap.objs.size) (o:=.dT []) (t':=s.toks) (fun _ _ q=>Heap.get?_push_of_some _ q) (Nat.le_refl _) (ZP s.heap I.big),rfl,h _ (I.hok.fresh (Nat.le_refl _))⟩
end
def MR:List (TE×TE)->St->Hp->(List (V×V)->Hp->Prop)->Prop
 |[],_,H,Q=>Q [] H
 | (tk,tv)::r,σ,H,Q=>tk σ H fun x H1=>tv σ H1 fun y H2=>MR r σ H2 fun ps H3=>Q ((x,y)::ps) H3
abbrev VV:List (V×V)->List (Value×Value)->Prop:=Paired fun p q=>RelV p.1 q.1/\RelV p.2 q.2
def PPs (X:Cx)(pos:Pos)(keys:List (Option Expr))(values:List Expr)(trs:List (TE×TE)):Prop:=
 ∀(pins:List (Addr×Obj)) (s:Shared) (σ:St) (H:Hp) (Q:List (V×V)->Hp->Prop),Inv X pins σ H s->MR trs σ H Q ->
  wpAny (model X.prog X.w) X.A (evalPairs (pairTrees keys values X.env pos)) (fun vs s'=>∃ps H',Inv X pins σ H' s'/\VV ps vs/\Q ps H') X.xe s
theorem BQ_ {X:Cx}{pos:Pos}:PPs X pos [] [] []:=fun pins s σ H Q I h=>pairTrees_nil_walk ⟨[],H,I,.nil,h⟩
theorem ZR {X:Cx}{pos:Pos}{k v:Expr}{ks:List (Option Expr)}{vs:List Expr}{tk tv:TE}{trs:List (TE×TE)}(hk:PE X k tk)(hv:PE X v tv)(hr:PPs X pos ks vs trs):
  PPs X pos (some k::ks) (v::vs) ((tk,tv)::trs):=fun pins s σ H Q I h=>
 pairTrees_cons_walk (thn (hk pins s σ H _ I h) fun u s1 ⟨x,H1,I1,rx,q1⟩=>thn (hv pins s1 σ H1 _ I1 q1) fun w2 s2 ⟨y,H2,I2,ry,q2⟩ =>
  thn (hr pins s2 σ H2 _ I2 q2) fun ws s3 ⟨ps,H3,I3,rel,q3⟩=>⟨(x,y)::ps,H3,I3,.cons ⟨rx,ry⟩ rel,q3⟩)
def LP (kvs more:List (Key×V)):List (Key×V):=more.foldl (fun acc kv=>putK acc kv.1 kv.2) kvs
theorem KV.merge:∀{more:List (Key×V)} {rs:List (Key×Value)} {kvs:List (Key×V)} {vs:List (Key×Value)},KV more rs->KV kvs vs->KV (LP kvs more) (merged vs rs):=by
 intro more rs kvs vs r
 unfold KV at r
 induction r generalizing kvs vs with
 |nil=>intro q;exact q
 |@cons p q ps qs h t ih=>
  intro r0
  have e:KV (putK kvs p.1 p.2) (stored vs q.1 q.2):=by
   have:=r0.put p.1 h.2
   rw[<-h.1];exact this
  exact ih e
theorem J6:∀(more kvs:List (Key×V)),(LP kvs more).length<=kvs.length+more.length
 |[],kvs=>by show kvs.length<=kvs.length+0;omega
 |p::r,kvs=>by
  have h1:=J6 r (putK kvs p.1 p.2)
  have h2:=Jr kvs p.1 p.2
  show (LP (putK kvs p.1 p.2) r).length<=_
  rw[List.length_cons];omega
theorem O4 {P:Program}{w:World}:∀{kvs:List (Key×V)} {ws:List (Value×Value)},VV (kvs.map fun kv=>(kV kv.1,kv.2)) ws->∃rs,Carries (B8 P w) ws rs/\KV kvs rs
 |[],_,r=>by rw[List.map_nil]at r;cases r;exact⟨[],True.intro,.nil⟩
 |p::kvs,_,r=>by
  rw[List.map_cons]at r
  cases r with
  |@cons a b as bs h t=>
   obtain⟨rs,c,q⟩:=O4 (P:=P) (w:=w) t
   obtain⟨b1,b2⟩:=b
   exact⟨(p.1,b2)::rs,⟨ZM h.1,rfl,c⟩,.cons ⟨rfl,h.2⟩ q⟩
def BR_ (trs:List (TE×TE)):TE:=fun σ H Q=>∀p,H p=none->MR trs σ (upd H p (.dK [])) fun ps H2=>H2 p=some (.dK [])/\∃kvs:List (Key×V),ps=kvs.map (fun kv=>(kV kv.1,kv.2))/\kvs.length<=15/\Q (.ref p) (upd H2 p (.dK (LP [] kvs)))
theorem BS_ {X:Cx}{pos:Pos}{keys:List (Option Expr)}{values:List Expr}{trs:List (TE×TE)}(h:PPs X pos keys values trs)(hall:keys.all (·.isSome)=true)(hl:keys.length=values.length)(h0:keys ≠ [])
  (h15:keys.length<=15):PE X (.Dict keys values pos) (BR_ trs):=by
 intro pins s σ H Q I q
 have hn:=I.hok.fresh (Nat.le_refl s.heap.objs.size)
 have I1:=I.laid (a:=s.heap.objs.size) (o:=.dK []) (h':=s.heap.push {cls:=.type "dict",data:=.dict #[]}) (t':=s.toks) (fun _ _ q=>Heap.get?_push_of_some _ q) (Nat.le_refl _) (VJ s.heap I.big)
 refine wpAny_Dict_walk (knd:=B8 X.prog X.w) hall hl h0 h15 (thn (h pins _ σ _ _ I1 (q _ hn)) fun ws s2 ⟨ps,H2,I2,rel,e,kvs,ep,lk,q2⟩=>?_)
 subst ep
 obtain⟨rs,c,rk⟩:=O4 (P:=X.prog) (w:=X.w) rel
 obtain⟨z,hd,vs0,r0,dd⟩:=De_ I2.hok e
 cases r0
 refine⟨rs,c,dd,fun h' dd' hs=>⟨.ref s.heap.objs.size,_,?_,rfl,q2⟩⟩
 have hz:(LP [] kvs).length<=sizeLine:=by
  have h1:=J6 kvs []
  rw[List.length_nil]at h1
  rw[sizeLine_eq];omega
 have he:∃q,h'.get? s.heap.objs.size=some q:=let ⟨q,_,_,hq,_⟩:=dd';⟨q,hq⟩
 exact PZ I2 (by rw[e];exact True.intro) hs he (AQ_ hz hd (rk.merge .nil) dd')
end L2
namespace L2
open PySem PySem.Spec PyProof.Rows
def clOf (env:Env):List (Str×NameKind)->List (Str×Addr)->List (Str×Addr)
 |[],acc=>acc
 | (n,k)::r,acc=>if (k == .free)=true then clOf env r ((n,(env.cells.lookup n).getD 0)::acc) else clOf env r acc
theorem Ld {env:Env}{scope:Scope}(h:∀p∈scope.names,p.2=.free->∃c,env.cells.lookup p.1=some c):closureFor scope env=pure (clOf env scope.names []):=by
 have go:∀(l:List (Str×NameKind)) (acc:List (Str×Addr)),(∀p∈l,p.2=.free->∃c,env.cells.lookup p.1=some c) ->
   (forIn l acc fun (x:Str×NameKind) (cs:List (Str×Addr))=>(if (x.2 == .free)=true then do let c <- cellOf env x.1;pure (ForInStep.yield ((x.1,c)::cs)) else pure (ForInStep.yield cs):Sem (ForInStep (List (Str×Addr)))))=(pure (clOf env l acc):Sem (List (Str×Addr))):=by
  intro l
  induction l with
  |nil=>intro acc _;rfl
  |cons p r ih=>
   intro acc hl
   obtain⟨n,k⟩:=p
   rw[List.forIn_cons]
   by_cases hk:(k == .free)=true
   ·obtain⟨c,hc⟩:=hl (n,k) List.mem_cons_self (by simpa using hk)
    have e1:cellOf env n=pure c:=by unfold cellOf;rw[hc]
    have ih':=ih ((n,c)::acc) fun q hq=>hl q (List.mem_cons_of_mem _ hq)
    show ((if (k == .free)=true then do let c <- cellOf env n;pure (ForInStep.yield ((n,c)::acc)) else pure (ForInStep.yield acc):Sem _) >>= _)=_
    rw[if_pos hk,e1]
    show (forIn r ((n,c)::acc) _:Sem _)=_
    rw[clOf,if_pos hk,hc]
    exact ih'
   ·have ih':=ih acc fun q hq=>hl q (List.mem_cons_of_mem _ hq)
    show ((if (k == .free)=true then do let c <- cellOf env n;pure (ForInStep.yield ((n,c)::acc)) else pure (ForInStep.yield acc):Sem _) >>= _)=_
    rw[if_neg hk]
    show (forIn r acc _:Sem _)=_
    rw[clOf,if_neg hk]
    exact ih'
 have e:=go scope.names [] h
 unfold closureFor
 show (forIn scope.names [] _ >>= fun cs=>pure cs:Sem _)=_
 have e2:(forIn scope.names [] (fun (x:Str×NameKind) (r:List (Str×Addr))=>(match x with
   | (name,kind)=>if (kind == .free)=true then do let c <- cellOf env name;pure (ForInStep.yield ((name,c)::r)) else do pure PUnit.unit;pure (ForInStep.yield r):Sem (ForInStep (List (Str×Addr))))))=(pure (clOf env scope.names []):Sem (List (Str×Addr))):=e
 exact congrArg (fun z=>z >>= fun cs=>pure cs) e2
theorem ME {env:Env}:∀(l:List (Str×NameKind)) (acc:List (Str×Addr)),(∀p∈l,p.2=.free->∃c,env.cells.lookup p.1=some c)->(∀q∈acc,env.cells.lookup q.1=some q.2)->∀q∈clOf env l acc,env.cells.lookup q.1=some q.2
 |[],_,_,ha,q,hq=>ha q hq
 | (n,k)::r,acc,hl,ha,q,hq=>by
  unfold clOf at hq
  by_cases hk:(k == .free)=true
  ·rw[if_pos hk]at hq
   obtain⟨c,hc⟩:=hl (n,k) List.mem_cons_self (by simpa using hk)
   refine ME r _ (fun p hp=>hl p (List.mem_cons_of_mem _ hp)) (fun p hp=>?_) q hq
   rcases List.mem_cons.mp hp with rfl|hp
   ·show env.cells.lookup n=some ((env.cells.lookup n).getD 0)
    rw[hc];rfl
   ·exact ha p hp
  ·rw[if_neg hk]at hq
   exact ME r _ (fun p hp=>hl p (List.mem_cons_of_mem _ hp)) ha q hq
theorem IP {env:Env}:∀(l:List (Str×NameKind)) (acc:List (Str×Addr)) (x:Str),((x,NameKind.free)∈l \/ ∃c,(x,c)∈acc)->∃c,(x,c)∈clOf env l acc
 |[],_,_,h=>by
  rcases h with h|h
  ·cases h
  ·exact h
 | (n,k)::r,acc,x,h=>by
  unfold clOf
  by_cases hk:(k == .free)=true
  ·rw[if_pos hk]
   refine IP r _ x ?_
   rcases h with h|⟨c,h⟩
   ·rcases List.mem_cons.mp h with h|h
    ·cases h
     exact .inr ⟨_,List.mem_cons_self⟩
    ·exact .inl h
   ·exact .inr ⟨c,List.mem_cons_of_mem _ h⟩
  ·rw[if_neg hk]
   refine IP r _ x ?_
   rcases h with h|h
   ·rcases List.mem_cons.mp h with h|h
    ·cases h
     exact absurd rfl hk
    ·exact .inl h
   ·exact .inr h
theorem BN {β:Type}:∀{l:List (Str×β)} {x:Str} {c:β},(x,c)∈l->∃c',l.lookup x=some c'
 |[],_,_,h=>by cases h
 | (n,d)::r,x,c,h=>by
  by_cases hx:(x==n)=true
  ·exact⟨d,by rw[List.lookup_cons,hx]⟩
  ·rcases List.mem_cons.mp h with h|h
   ·cases h;exact absurd (beq_self_eq_true _) hx
   ·obtain⟨c',e⟩:=BN h
    exact⟨c',by rw[List.lookup_cons];simp only[Bool.not_eq_true]at hx;rw[hx];exact e⟩
def relF (env:Env):Str×NameKind->Str×NameKind:=fun (n,k)=>if (k==NameKind.free&&env.scope.kind == .function&&env.kindOf n==some .cell) then (n,NameKind.cell) else (n,k)
theorem MF {env:Env}{n:Str}{k:NameKind}(h:(k==NameKind.free&&env.scope.kind == .function&&env.kindOf n==some .cell)=true):relF env (n,k)=(n,.cell):=if_pos h
theorem P4 {env:Env}{n:Str}{k:NameKind}(h:¬ (k==NameKind.free&&env.scope.kind == .function&&env.kindOf n==some .cell)=true):relF env (n,k)=(n,k):=if_neg h
theorem HI {env:Env}:∀{names:List (Str×NameKind)} {x:Str} {k:NameKind},(∀y∈names,y.2 ≠ .cell) ->
  (names.map (relF env)).lookup x=some k->(k=.cell\/k=.free)->(x,NameKind.free)∈names
 |[],_,_,_,h,_=>by simp at h
 | (n,k')::r,x,k,hc,h,hk=>by
  have ih := @HI env r x k (fun y hy=>hc y (List.mem_cons_of_mem _ hy))
  rw[List.map_cons]at h
  by_cases hb:(k'==NameKind.free&&env.scope.kind == .function&&env.kindOf n==some .cell)=true
  ·rw[MF hb,List.lookup_cons]at h
   cases hx:x==n with
   |true=>
    have e:x=n:=by simpa using hx
    subst e
    have e2:k'=.free:=by
     simp only[Bool.and_eq_true]at hb
     simpa using hb.1.1
    subst e2
    exact List.mem_cons_self
   |false=>
    rw[hx]at h
    exact List.mem_cons_of_mem _ (ih h hk)
  ·rw[P4 hb,List.lookup_cons]at h
   cases hx:x==n with
   |true=>
    rw[hx]at h
    have e:x=n:=by simpa using hx
    subst e
    have e2:k'=k:=Option.some.inj h
    subst e2
    rcases hk with rfl|rfl
    ·exact absurd rfl (hc _ List.mem_cons_self)
    ·exact List.mem_cons_self
   |false=>
    rw[hx]at h
    exact List.mem_cons_of_mem _ (ih h hk)
theorem HJ {env:Env}:∀{names:List (Str×NameKind)} {x:Str},names.lookup x=some .free ->
  ∃k,(k=NameKind.cell\/k=NameKind.free)/\(names.map (relF env)).lookup x=some k
 |[],_,h=>by simp at h
 | (n,k')::r,x,h=>by
  have ih := @HJ env r x
  rw[List.lookup_cons]at h
  rw[List.map_cons]
  cases hx:x==n with
  |true=>
   rw[hx]at h
   have e2:k'=.free:=Option.some.inj h
   subst e2
   by_cases hb:((NameKind.free:NameKind)==NameKind.free&&env.scope.kind == .function&&env.kindOf n==some .cell)=true
   ·exact⟨.cell,.inl rfl,by rw[MF hb,List.lookup_cons,hx]⟩
   ·exact⟨.free,.inr rfl,by rw[P4 hb,List.lookup_cons,hx]⟩
  |false=>
   rw[hx]at h
   obtain⟨k,hk,e⟩:=ih h
   refine⟨k,hk,?_⟩
   by_cases hb:(k'==NameKind.free&&env.scope.kind == .function&&env.kindOf n==some .cell)=true
   ·rw[MF hb,List.lookup_cons,hx];exact e
   ·rw[P4 hb,List.lookup_cons,hx];exact e
end L2
namespace L2
open PySem PySem.Spec PyProof.Rows
section
variable {prog:Program} {w:World} {A:Around} {R:Result->Shared->Prop} {s:Shared}
abbrev cpW (prog:Program)(w:World)(A:Around)(R:Result->Shared->Prop)(env:Env){α:Type}(m:Sem α)(Q:α->Shared->Prop):Shared->Prop:=wpAny (model prog w) A m Q (notedBy (model prog w) A env fun e t=>R (.error e) t)
theorem LQ {elt target iter:Expr}{ifs:List Expr}{scope:Scope}{pos:Pos}{it acc:Value}{env:Env}(I:Nat->Shared->Prop)
  (turn:∀n s,I n s->cpW prog w A R env (pyNext it) (fun r s=>match r with
   |none=>R (.ok .next) s
   |some v=>cpW prog w A R env (letOwnedTupleGo target it v) (fun _=>cpW prog w A R env (assign target env v) fun _=>cpW prog w A R env (forIn ifs true fun c r=>if r=true then do let ok <- isTrue c env (eval c env);pure (ForInStep.yield ok) else pure (ForInStep.yield r)) fun ok s=>
     if ok=true then cpW prog w A R env (eval elt env) (fun x=>cpW prog w A R env (call (.builtin "list.append") [acc,x]) fun _ t=>∃m,m<n/\I m t) s else ∃m,m<n/\I m s) s) s)
  (n:Nat) (h:I n s):codeAny (model prog w) A (.compLoop (.ListComp elt [⟨target,iter,ifs,0⟩] scope pos) 0 it acc env) R s:=by
 have mono:∀{α β:Type} {m:Sem α} {f:α->Sem β} {Q:α->Shared->Prop} {Q':β->Shared->Prop} {s:Shared},cpW prog w A R env m Q s->(∀a t,Q a t->cpW prog w A R env (f a) Q' t)->cpW prog w A R env (m >>= f) Q' s:=fun h k=>wpAny_bind (wpAny_mono h k fun _ _ e=>e)
 refine codeAny_loop rfl I (fun n s hI=>wpAny_noted ?_) n h
 rw[compTurn_list]
 refine wpAny_bind (wpAny_standAt (mono (turn n s hI) fun r s1 h1=>?_))
 cases r with
 |none=>exact wpAny_pure h1
 |some v=>
  refine mono h1 fun _ _ h2=>mono h2 fun _ _ h3=>mono h3 fun ok s4 h4=>?_
  cases ok with
  |false=>exact wpAny_pure ⟨rfl,h4⟩
  |true=>exact wpAny_bind (mono h4 fun _ _ h5=>mono h5 fun _ _ h6=>wpAny_pure (wpAny_pure ⟨rfl,h6⟩))
end
abbrev Cx.blk (X:Cx)(N:List Str)(sc:Scope)(C:Addr)(s₀:Shared)(H₀:Hp)(ex:List Addr):Cx:=
 {X with N:=N,env:=compEnvC sc (clOf X.env sc.names []) C X.env,outer:=X.stack,s₀:=s₀,H₀:=H₀,ex:=ex,fn:=fun _=>false,pn:=[],xe:=fun _ _=>False}
structure BlkSc (X:Cx)(sc:Scope):Prop where
 kind:sc.kind=.function
 nocell:∀y∈sc.names,y.2 ≠ .cell
 loc:∀y∈sc.names,y.2=.local->sc.names.lookup y.1=some .local
 free:∀y∈sc.names,y.2=.free->X.env.kindOf y.1=some .cell\/X.env.kindOf y.1=some .free
abbrev Caps:=List (Str×Option Nat)
def Caps.names (c:Caps):List Str:=c.map (·.1)
def Caps.st (c:Caps)(σ:St):St:=c.map fun p=>p.2.bind fun j=>(σ[j]?).join
def FD (N:List Str)(sc:Scope):Caps->Prop
 |[]=>True
 | (_,none)::r=>FD N sc r
 | (x,some j)::r=>(N[j]?=some x/\sc.names.lookup x=some .free)/\FD N sc r
theorem FD.get {N:List Str}{sc:Scope}:∀{c:Caps} {i:Nat} {x:Str} {j:Nat},FD N sc c->c[i]?=some (x,some j)->N[j]?=some x/\sc.names.lookup x=some .free
 |[],_,_,_,_,h=>by simp at h
 | (y,none)::r,0,x,j,_,h=>by simp at h
 | (y,none)::r,i+1,x,j,ok,h=>FD.get (c:=r) (i:=i) ok (by simpa using h)
 | (y,some k)::r,0,x,j,ok,h=>by
  simp only[List.getElem?_cons_zero,Option.some.injEq,Prod.mk.injEq]at h
  obtain⟨rfl,rfl⟩:=h
  exact ok.1
 | (y,some k)::r,i+1,x,j,ok,h=>FD.get (c:=r) (i:=i) ok.2 (by simpa using h)
section
variable {X:Cx} {pins:List (Addr×Obj)} {σ:St} {H:Hp} {s:Shared} {sc:Scope} {fp:List Addr}
theorem MS (I:Inv X pins σ H s)(S:BlkSc X sc):∀p∈sc.names,p.2=.free->∃c,X.env.cells.lookup p.1=some c:=fun p hp e=>I.ok.has p.1 (S.free p hp e)
theorem DM (I:Inv X pins σ H s)(S:BlkSc X sc){x:Str}{c:Addr}(h:(clOf X.env sc.names []).lookup x=some c):X.env.cells.lookup x=some c:=
 ME sc.names [] (MS I S) (fun q hq=>by cases hq) (x,c) (PySem.mem_of_lookup h)
theorem Dh_ {N:List Str}{C:Addr}(I:Inv X pins σ H s)(S:BlkSc X sc)(hC:s.heap.objs.size<=C)(hf:∀b∈fp,FpOk X pins H b)(ho:∀b∈fp,∃o,s.heap.get? b=some o):(X.blk N sc C s H fp).Ok where
 mod:=I.ok.mod
 kind:=S.kind
 glob:=I.ok.glob
 blt:=I.ok.blt
 above:=hC
 inj:=fun x y c h1 h2=>I.ok.inj x y c (DM I S h1) (DM I S h2)
 has:=fun x hx=>by
  have hx':(x,NameKind.free)∈sc.names:=by
   rcases hx with hx|hx
   ·exact HI (env:=X.env) S.nocell hx (.inl rfl)
   ·exact HI (env:=X.env) S.nocell hx (.inr rfl)
  obtain⟨c,hc⟩:=IP (env:=X.env) sc.names [] x (.inl hx')
  exact BN hc
 cab:=fun x c h=>absurd (show false=true from h) Bool.false_ne_true
 hd:=I.ok.hd
 frames:=I.ok.frames
 stk:=.inl rfl
 exf:=fun b hb=>by
  obtain⟨o,ho⟩:=ho b hb
  refine⟨Nat.ne_of_lt (Nat.lt_of_lt_of_le (Heap.lt_size ho) hC),fun x c h=>(hf b hb).2.2.2.2.1 x c (DM I S h)⟩
 bs:=I.bs
 bsz:=Nat.le_trans I.ok.bsz I.sz
 noex:=fun b o e hb=>by
  rcases (hf b hb).2.2.2.1 with z|z
  ·exact I.ok.noex b o e z
  ·exact absurd (Nat.lt_of_lt_of_le (Heap.lt_size (I.ok.bs b o e).1) z) (Nat.lt_irrefl _)
 exfs:=fun b hb z=>by
  rcases List.mem_cons.mp (I.stkSub b z) with e|e
  ·exact (hf b hb).2.1 e
  ·exact (hf b hb).2.2.1 e
 funs:=I.stack
 frf:=I.stkFree
theorem Yg {c:Caps}{C:Addr}{s4:Shared}{m:Str->Option Value}(I:Inv X pins σ H s)(S:BlkSc X sc)(hc:FD X.N sc c)(hC:s.heap.objs.size<=C)(hf:∀b∈fp,FpOk X pins H b)(ho:∀b∈fp,∃o,s.heap.get? b=some o)
  (hos:s4.os=s.os) (hb:s4.gens=s.gens) (hk:∀b o,s.heap.get? b=some o->s4.heap.get? b=some o) (hn:s4.heap.Ns C m):Inv (X.blk c.names sc C s H fp) [] (c.st σ) H s4 where
 ok:=Dh_ I S hC hf ho
 os:=hos
 bare:=by rw[hb];exact I.bare
 base:=Un.kept hk
 loc:=by
  refine⟨m,hn,fun i x v h1 h2 hv=>?_⟩
  have h1':(c.map (·.1))[i]?=some x:=h1
  have h2':(c.map fun p=>p.2.bind fun j=>(σ[j]?).join)[i]?=some (some v):=h2
  rw[List.getElem?_map]at h1' h2'
  cases e:c[i]? with
  |none=>rw[e]at h1';cases h1'
  |some p=>
   obtain⟨y,oj⟩:=p
   rw[e]at h1' h2'
   have e1:y=x:=Option.some.inj h1'
   subst e1
   have e2:(oj.bind fun j=>(σ[j]?).join)=some v:=Option.some.inj h2'
   cases oj with
   |none=>cases e2
   |some j=>
    have e3:(σ[j]?).join=some v:=e2
    have e4:σ[j]?=some (some v):=by
     cases q:σ[j]? with
     |none=>rw[q]at e3;cases e3
     |some z=>rw[q]at e3;exact congrArg some e3
    obtain⟨k1,k2⟩:=FD.get hc e
    have k3:X.env.kindOf y=some .cell\/X.env.kindOf y=some .free:=S.free (y,.free) (PySem.mem_of_lookup k2) rfl
    have vis:Vis X.env.scope y:=by
     rcases k3 with k|k
     ·exact .inr (.inl k)
     ·exact .inr (.inr k)
    obtain⟨mX,hnX,hl⟩:=I.loc
    obtain⟨u,r,l⟩:=hl j y v k1 e4 vis
    refine⟨u,r,?_⟩
    rcases l with ⟨k,_⟩|⟨_,ca,hca,z⟩
    ·rcases k3 with k' | k'<;>(rw[k]at k';cases k')
    ·obtain⟨kd,hkd,ek⟩:=HJ (env:=X.env) k2
     have hk2:(compEnvC sc (clOf X.env sc.names []) C X.env).kindOf y=some kd:=ek
     obtain⟨c',hc'⟩:=IP (env:=X.env) sc.names [] y (.inl (PySem.mem_of_lookup k2))
     obtain⟨c2,hc2⟩:=BN hc'
     have e5:=DM I S hc2
     rw[hca]at e5
     have e6:ca=c2:=Option.some.inj e5
     subst e6
     refine .inr ⟨?_,ca,hc2,?_⟩
     ·rcases hkd with rfl|rfl
      ·exact .inl hk2
      ·exact .inr hk2
     ·obtain⟨oc,hoc,hd⟩:=z
      exact⟨oc,hk _ _ hoc,hd⟩
 cell:=fun x ca h=>by
  obtain⟨v,oc,hoc,hd⟩:=I.cell x ca (DM I S h)
  exact⟨v,oc,hk _ _ hoc,hd⟩
 free:=I.hok.fresh hC
 freeC:=fun x ca h=>I.freeC x ca (DM I S h)
 pin:=fun p hp=>absurd (show p∈([]:List (Addr×Obj)) from hp) (by simp)
 hok:=I.hok.kept hk
 len:=by show (c.map _).length=(c.map _).length;rw[List.length_map,List.length_map]
theorem HOk.track {P:Program}{w:World}{H:Hp}{h:Heap}{a:Addr}{o:HO}(x:HOk P w H h)(hn:H a=none)(new:Bq P w (upd H a o) h a o):HOk P w (upd H a o) h:=fun b u e=>by
 by_cases hb:b=a
 ·subst hb;rw[Ac]at e;cases e;exact new
 ·rw[Aw hb]at e
  exact (x b u e).stay (fun c v _ q=>q) (fun c q=>by rw[Aw (BL q hn)];exact q) fun c xs q=>by rw[Aw (BL q hn)];exact q
theorem Un.track {fs ex:List Addr}{H H':Hp}{h h':Heap}{a:Addr}{o:HO}(u:Un fs ex H H' h h')(ha:h.objs.size<=a)(hn:H' a=none):Un fs ex H (upd H' a o) h h' where
 keep:=u.keep
 slot:=u.slot
 free:=fun b ob q n hx=>by rw[Aw (Nat.ne_of_lt (Nat.lt_of_lt_of_le (Heap.lt_size q) ha))];exact u.free b ob q n hx
 there:=u.there
 tups:=fun b xs q=>by rw[Aw (BL (u.tups b xs q) hn)];exact u.tups b xs q
 frzs:=fun b ob xs q=>by rw[Aw (BL (u.frzs b ob xs q) hn)];exact u.frzs b ob xs q
 tbls:=fun b ps q=>by
  obtain⟨more,e⟩:=u.tbls b ps q
  exact⟨more,by rw[Aw (BL e hn)];exact e⟩
theorem BT_ {c:Caps}{C D:Addr}{s':Shared}{σ':St}{H':Hp}{o:HO}(I:Inv X pins σ H s)(J:Inv (X.blk c.names sc C s H fp) [] σ' H' s')(hf:∀b∈fp,FpOk X pins H b)(hD:s.heap.objs.size<=D)(hn:H' D=none)
  (new:Bq X.prog X.w (upd H' D o) s'.heap D o):Inv X pins σ (upd H' D o) s':=by
 have u:Un (frs X.stack) fp H H' s.heap s'.heap:=J.base
 exact I.call' J.os (u.track hD hn) (J.hok.track hn new) J.bare fun b hb=>⟨(hf b hb).2.2.2.1,(hf b hb).2.1,(hf b hb).2.2.2.2.1,(hf b hb).2.2.2.2.2⟩
end
def PF (X:Cx)(ifs:List Expr)(t:TT):Prop:=
 ∀(pins:List (Addr×Obj)) (s:Shared) (σ:St) (H:Hp) (Q:Bool->Hp->Prop),Inv X pins σ H s->t σ H Q ->
  wpAny (model X.prog X.w) X.A (forIn ifs true fun c r=>if r=true then do let ok <- isTrue c X.env (eval c X.env);pure (ForInStep.yield ok) else pure (ForInStep.yield r)) (TP X pins σ Q) X.xe s
def N4:TT:=fun _ H Q=>Q true H
theorem CH {X:Cx}:PF X [] N4:=fun _ _ _ H _ I h=>wpAny_tests_nil ⟨H,I,h⟩
def ZS (wi:TI)(cp:Caps)(g:TG)(tc:TT)(te:TE):TE:=fun σ H Q=>wi σ H fun J H1=>∃W:Nat->Nat->List V->St->Hp->Prop,(∃m,W 0 m [] (cp.st σ) H1)/\∀i m ys σ' H',W i m ys σ' H' ->
 ys.length<sizeLine/\((J.stop i H'/\∀D,H' D=none->Q (.ref D) (upd H' D (.lst ys)))\/(J.go i H'/\∃N:List V->St->Hp->Prop,(∀zs σ2 H2,N zs σ2 H2->∃m',m'<m/\W (i+1) m' zs σ2 H2)/\∀x H2,J.yld i H' x H2->g x σ' H2 fun σ2 H3=>tc σ2 H3 fun b H4=>
  if b=true then te σ2 H4 fun v H5=>N (ys++[v]) σ2 H5 else N ys σ2 H4))
section
variable {X:Cx} {tg iter elt:Expr} {ifs:List Expr} {sc:Scope} {pos:Pos} {wi:TI} {cp:Caps} {g:TG} {tc:TT} {te:TE}
theorem S1 (hc:X.calm=true)(S:BlkSc X sc)(hcp:FD X.N sc cp)
  (hg:∀C s₀ H₀ ex,PG (X.blk cp.names sc C s₀ H₀ ex) tg g) (hf:∀C s₀ H₀ ex,PF (X.blk cp.names sc C s₀ H₀ ex) ifs tc) (he:∀C s₀ H₀ ex,PE (X.blk cp.names sc C s₀ H₀ ex) elt te)
  {pins:List (Addr×Obj)} {σ:St} {H:Hp} {s:Shared} {J:It} {it:Addr} {fp:List Addr} {tn:Nat->Heap->Prop} {Q:VK} {RR:Value->Addr->Result->Shared->Prop} {E:Value->Shared->Prop}
  (I:Inv X pins σ H s) (T:Turn X.prog X.w X.K tg J fp it tn) (st:tn 0 s.heap) (fpo:∀b∈fp,FpOk X pins H b)
  (hw:∃W:Nat->Nat->List V->St->Hp->Prop,(∃m,W 0 m [] (cp.st σ) H)/\∀i m ys σ' H',W i m ys σ' H' ->
   ys.length<sizeLine/\((J.stop i H'/\∀D,H' D=none->Q (.ref D) (upd H' D (.lst ys)))\/(J.go i H'/\∃N:List V->St->Hp->Prop,(∀zs σ2 H2,N zs σ2 H2->∃m',m'<m/\W (i+1) m' zs σ2 H2)/\∀x H2,J.yld i H' x H2->g x σ' H2 fun σ2 H3=>tc σ2 H3 fun b H4=>
    if b=true then te σ2 H4 fun v H5=>N (ys++[v]) σ2 H5 else N ys σ2 H4)))
  (hR:∀D C s' H' (m:Str->Option Value),Inv X pins σ H' s'->Q (.ref D) H'->s'.heap.Ns C m->H' C=none->C≠X.env.locals->X.s₀.heap.objs.size<=C->(∀x c,X.env.cells.lookup x=some c->c≠C)->(∀p∈X.pn++pins,p.1≠C)->RR (.ref D) C (.ok .next) s'):
  wpAny (model X.prog X.w) X.A (newList []) (fun acc s₃=>wpAny (model X.prog X.w) X.A (newFunctionEnv sc X.env.globals (clOf X.env sc.names []) [] X.env.qual none .none (some X.env)) (fun cenv s₄=>
   codeAny (model X.prog X.w) X.A (.compStart (.ListComp elt [⟨tg,iter,ifs,0⟩] sc pos) 0 (.ref it) acc {cenv with scope:=relabel sc X.env}) (RR acc cenv.locals) s₄) E s₃) E s:=by
 obtain⟨W,⟨m0,w0⟩,turn⟩:=hw
 refine wpAny_newObj_type (wpAny_newFunctionEnv S.nocell (by intro y hy;simp at hy) (fun h₁ hns₁ hsb₁=>?_) S.kind)
 dsimp only at hns₁ hsb₁ ⊢
 generalize hH2:s.heap.push {cls:=.type "list",dict:=none,data:=.seq ([]:List Value).toArray}=H2 at hns₁ hsb₁ ⊢
 have hC:H2.objs.size=s.heap.objs.size+1:=by rw[<-hH2,Heap.size_push]
 have hDC:s.heap.objs.size≠H2.objs.size:=by rw[hC];exact Nat.ne_of_lt (Nat.lt_succ_self _)
 have hCle:s.heap.objs.size<=H2.objs.size:=by rw[hC];exact Nat.le_succ _
 have below:∀b,b<s.heap.objs.size->b≠H2.objs.size:=fun b hb=>by rw[hC];exact Nat.ne_of_lt (Nat.lt_succ_of_lt hb)
 have old:∀b o,s.heap.get? b=some o->h₁.get? b=some o:=fun b o e=>hsb₁.extBut b o (below b (Heap.lt_size e)) (Heap.get?_push_of_some _ (hH2 ▸ Heap.get?_push_of_some _ e))
 have hacc:h₁.get? s.heap.objs.size=some {cls:=.type "list",data:=.seq ([]:List Value).toArray 0}:=hsb₁.extBut _ _ hDC (Heap.get?_push_of_some _ (hH2 ▸ Heap.get?_push_size _ rfl))
 have hst₁:tn 0 h₁:=T.keep 0 _ _ st fun b _ o e=>old b o e
 have hobj:∀b∈fp,∃o,s.heap.get? b=some o:=fun b hb=>let ⟨o,e,_⟩:=T.obj 0 _ st b hb;⟨o,e⟩
 have J0:Inv (X.blk cp.names sc H2.objs.size s H fp) [] (cp.st σ) H {s with heap:=h₁,toks:=s.toks+([]:List (Str×Value)).length}:=Yg I S hcp hCle fpo hobj rfl rfl old hns₁
 have nfs:∀b,s.heap.objs.size<=b->b∉frs X.stack:=fun b hb z=>by
  rcases List.mem_cons.mp (I.stkSub b z) with e|e
  ·exact absurd (Nat.lt_of_lt_of_le I.lt (by rw[<-e];exact hb)) (Nat.lt_irrefl _)
  ·exact I.nofs hb e
 have ncell:∀b,s.heap.objs.size<=b->∀x c,X.env.cells.lookup x=some c->c≠b:=fun b hb x c e z=>by
  obtain⟨v,q⟩:=I.cell x c e
  exact absurd (Nat.lt_of_lt_of_le q.lt (by rw[z];exact hb)) (Nat.lt_irrefl _)
 have fpb:∀{pins':List (Addr×Obj)} {H':Hp},(∀b∈fp,H' b=none)->(∀p∈pins',p.1∉fp)->∀b∈fp,FpOk (X.blk cp.names sc H2.objs.size s H fp) pins' H' b:=fun {pins' H'} hn hp b hb=>by
  obtain⟨o,e⟩:=hobj b hb
  refine⟨hn b hb,below b (Heap.lt_size e),fun z=>?_,.inl hb,fun x c h=>(fpo b hb).2.2.2.2.1 x c (DM I S h),fun p hp' z=>?_⟩
  ·rcases List.mem_cons.mp (I.stkSub b z) with e|e
   ·exact (fpo b hb).2.1 e
   ·exact (fpo b hb).2.2.1 e
  ·have hp'':p∈pins':=by simpa using hp'
   exact hp p hp'' (by rw[z];exact hb)
 have loop:∀s₃:Shared,s₃={s with heap:=h₁,toks:=s.toks+([]:List (Str×Value)).length} ->
   codeAny (model X.prog X.w) X.A (.compLoop (.ListComp elt [⟨tg,iter,ifs,0⟩] sc pos) 0 (.ref it) (.ref s.heap.objs.size) (compEnvC sc (clOf X.env sc.names []) H2.objs.size X.env))
    (RR (.ref s.heap.objs.size) H2.objs.size) s₃:=by
  rintro s₃ rfl
  refine LQ (fun n s'=>∃i σ' H' ys its k,Inv (X.blk cp.names sc H2.objs.size s H fp) [] σ' H' s'/\tn i s'.heap/\(∀b∈fp,H' b=none)/\H' s.heap.objs.size=none /\
   s'.heap.get? s.heap.objs.size=some {cls:=.type "list",data:=.seq its.toArray k}/\Vals ys its/\W i n ys σ' H') ?_ m0
   ⟨0,_,H,[],[],0,J0,hst₁,fun b hb=>(fpo b hb).1,I.hok.fresh (Nat.le_refl _),hacc,.nil,w0⟩
  rintro n s3 ⟨i,σ3,H3,ys,its,k,I3,st3,fr3,hD3,e3,rv,w3⟩
  obtain⟨hz,tr⟩:=turn i n ys σ3 H3 w3
  have hlen:=rv.length
  -- the accumulator stands still while anything else runs
  have dpin:∀p ∈ [(s.heap.objs.size,({cls:=.type "list",data:=.seq its.toArray k}:Obj))],p.1∉fp:=fun p hp z=>by
   have e:p=_:=List.mem_singleton.mp hp
   subst e
   obtain⟨o,e⟩:=hobj _ z
   exact absurd (Heap.lt_size e) (Nat.lt_irrefl _)
  have I3':Inv (X.blk cp.names sc H2.objs.size s H fp) [(s.heap.objs.size,({cls:=.type "list",data:=.seq its.toArray k}:Obj))] σ3 H3 s3:=I3.pins_of fun p hp=>by
   have e:p=_:=List.mem_singleton.mp hp
   subst e
   exact⟨e3,hD3,hDC,nfs _ (Nat.le_refl _),fun v z=>by cases z⟩
  have stat:∀b∈fp,FpOk (X.blk cp.names sc H2.objs.size s H fp) [(s.heap.objs.size,({cls:=.type "list",data:=.seq its.toArray k}:Obj))] H3 b:=fpb fr3 dpin
  rcases tr with ⟨stop,qn⟩|⟨go,N,hN,step⟩
  ·refine thn (T.done (X.blk cp.names sc H2.objs.size s H fp) rfl rfl rfl hc i _ s3 σ3 H3 _ I3' stat st3 stop) fun r s4 ⟨hr,I4⟩=>?_
   subst hr
   obtain⟨e4,n4,_⟩:=I4.pin (s.heap.objs.size,({cls:=.type "list",data:=.seq its.toArray k}:Obj)) (by simp)
   have new:Bq X.prog X.w (upd H3 s.heap.objs.size (.lst ys)) s4.heap s.heap.objs.size (.lst ys):=⟨Nat.le_of_lt hz,its,k,rv,e4⟩
   obtain⟨mC,hnC,_⟩:=I4.loc
   have I4':Inv (X.blk cp.names sc H2.objs.size s H fp) [] σ3 H3 s4:=I4.pins_of fun p hp=>by cases hp
   have I5:=BT_ I I4' fpo (Nat.le_refl _) n4 new
   refine hR _ _ s4 _ mC I5 (qn _ n4) hnC ?_ (Nat.ne_of_gt (Nat.lt_of_lt_of_le I.lt hCle)) (Nat.le_trans I.sz hCle) (ncell _ hCle) fun p hp z=>?_
   ·rw[Aw (Ne.symm hDC)];exact I4.free
   ·exact absurd (Nat.lt_of_lt_of_le (Heap.lt_size (I.pin p hp).1) (by rw[z];exact hCle)) (Nat.lt_irrefl _)
  ·refine thn (T.item (X.blk cp.names sc H2.objs.size s H fp) rfl rfl rfl hc i _ s3 σ3 H3 _ I3' stat st3 go) fun r s4 ⟨u,hr,h4⟩=>?_
   subst hr
   refine thn h4 fun _ s5 ⟨x,H5,I5,r5,y5,st5,fr5⟩=>?_
   have I5':=I5.pinned (fpb fr5 dpin) (T.obj _ _ st5)
   have fin:∀{σ7:St} {H7:Hp} {s7:Shared},Inv (X.blk cp.names sc H2.objs.size s H fp) ([(s.heap.objs.size,({cls:=.type "list",data:=.seq its.toArray k}:Obj))]++O1 fp s5.heap) σ7 H7 s7 ->
     s7.heap.get? s.heap.objs.size=some {cls:=.type "list",data:=.seq its.toArray k}/\H7 s.heap.objs.size=none/\(∀b∈fp,H7 b=none)/\∀b∈fp,∀o,s5.heap.get? b=some o->s7.heap.get? b=some o:=fun {σ7 H7 s7} I7=>by
    obtain⟨e7,n7,_⟩:=I7.pin (s.heap.objs.size,({cls:=.type "list",data:=.seq its.toArray k}:Obj)) (by simp)
    refine⟨e7,n7,fun b hb=>?_,fun b hb o e=>?_⟩
    ·obtain⟨o,e,_⟩:=T.obj _ _ st5 b hb
     exact (I7.pin (b,o) (List.mem_append_right _ (List.mem_append_right _ (Fx hb e)))).2.1
    ·exact (I7.pin (b,o) (List.mem_append_right _ (List.mem_append_right _ (Fx hb e)))).1
   refine wpAny_mono (hg _ _ _ _ _ s5 σ3 H5 x u _ I5' r5 (step x H5 y5)) (fun _ s6 ⟨σ6,H6,I6,q6⟩=>?_) fun _ _ z=>False.elim z
   refine wpAny_mono (hf _ _ _ _ _ s6 σ6 H6 _ I6 q6) (fun ok s7 ⟨H7,I7,q7⟩=>?_) fun _ _ z=>False.elim z
   cases ok with
   |false=>
    rw[if_neg Bool.false_ne_true]
    rw[if_neg Bool.false_ne_true]at q7
    obtain⟨m',hm,w7⟩:=hN _ _ _ q7
    obtain⟨e7,n7,fr7,k7⟩:=fin I7
    exact⟨m',hm,i+1,σ6,H7,ys,its,k,I7.pins_of (fun p hp=>by cases hp),T.keep _ _ _ st5 k7,fr7,n7,e7,rv,w7⟩
   |true=>
    rw[if_pos rfl]
    rw[if_pos rfl]at q7
    refine wpAny_mono (he _ _ _ _ _ s7 σ6 H7 _ I7 q7) (fun v s8 ⟨y,H8,I8,r8,q8⟩=>?_) fun _ _ z=>False.elim z
    obtain⟨m',hm,w8⟩:=hN _ _ _ q8
    obtain⟨e8,n8,fr8,k8⟩:=fin I8
    refine call_meets F.slot_list_append ⟨_,e8,rfl⟩ F.entry_list_append (F.args_list_append_2 _ _) (PySem.list_append s.heap.objs.size its.toArray k v (by rw[List.size_toArray];omega)) ⟨e8,?_⟩
    obtain⟨k',q⟩:∃k',(s8.heap.update s.heap.objs.size (Obj.mapSeq fun x=>x.push v)).get? s.heap.objs.size=some {cls:=.type "list",data:=.seq (its++[v]).toArray k' }:=⟨_,by
     have q:=PySem.IsL.update e8 fun x=>x.push v
     have e:(its++[v]).toArray=its.toArray.push v:=by simp
     rw[e]
     exact q⟩
    have I8':Inv (X.blk cp.names sc H2.objs.size s H fp) [] σ6 H8 s8:=I8.pins_of fun p hp=>by cases hp
    have I9:Inv (X.blk cp.names sc H2.objs.size s H fp) [] σ6 H8 {s8 with heap:=s8.heap.update s.heap.objs.size (Obj.mapSeq fun x=>x.push v),toks:=s8.toks}:=
     I8'.turned (it:=s.heap.objs.size) (fun b o hb e=>(Heap.get?_update_other _ _ (Ne.symm hb)).trans e) n8 hDC (.inr (Nat.le_refl _)) (fun x c e=>ncell _ (Nat.le_refl _) x c (DM I S e)) (fun p hp=>by cases hp)
    refine⟨m',hm,i+1,σ6,H8,ys++[y],its++[v],k',I9,T.keep (i+1) s5.heap _ st5 (fun b hb o e=>?_),fr8,n8,q,rv.append (.cons r8 .nil),w8⟩
    ·refine (Heap.get?_update_other _ _ ?_).trans (k8 b hb o e)
     intro z
     obtain⟨ob,eb⟩:=hobj b hb
     exact absurd (Heap.lt_size eb) (by rw[<-z];exact Nat.lt_irrefl _)
 exact codeAny_compStart_list (loop _ rfl) (T.self _ 0 _ _ _ hst₁ (loop _ rfl))
theorem CG (hc:X.calm=true)(S:BlkSc X sc)(hcp:FD X.N sc cp)(hi:PI X tg iter wi)
  (hg:∀C s₀ H₀ ex,PG (X.blk cp.names sc C s₀ H₀ ex) tg g) (hf:∀C s₀ H₀ ex,PF (X.blk cp.names sc C s₀ H₀ ex) ifs tc) (he:∀C s₀ H₀ ex,PE (X.blk cp.names sc C s₀ H₀ ex) elt te)
  (hs:∀x,foldedSetIterable iter X.env x=pure x:=by intro _;rfl):PE X (.ListComp elt [⟨tg,iter,ifs,0⟩] sc pos) (ZS wi cp g tc te):=by
 intro pins s σ H Q I h
 rw[eval_ListComp]
 refine wpAny_comprehension_free (use:=none) rfl hs (Ld (MS I S)) S.kind S.loc (thn (hi pins s σ H _ I h) fun xv s₁ h₁=>thn h₁ fun itv s₂ h₂=>?_)
 obtain⟨it,fp,tn,J,H2,e,I2,T,st2,f2,hw⟩:=h₂
 subst e
 refine S1 (RR:=fun acc C=>compPost (model X.prog X.w) X.A X.xe none (EP X pins σ Q) acc C) hc S hcp hg hf he I2 T st2 f2 hw ?_
 intro D C s' H' m I' q hn hC hL hz hcl hp
 exact⟨m,hn,fun h' hs'=>⟨.ref D,H',I'.turned (t':=s'.toks) (it:=C) (fun b o hb e=>hs'.extBut b o hb e) hC hL (.inr hz) hcl hp,rfl,q⟩⟩
theorem UL {i:Nat}{x:Str}{px spos:Pos}(hN:X.N.Nodup)(hi:X.N[i]?=some x)(hx:X.env.scope.names.lookup x=some .local)(hc:X.calm=true)(S:BlkSc X sc)(hcp:FD X.N sc cp)(hit:PI X tg iter wi)
  (hg:∀C s₀ H₀ ex,PG (X.blk cp.names sc C s₀ H₀ ex) tg g) (hf:∀C s₀ H₀ ex,PF (X.blk cp.names sc C s₀ H₀ ex) ifs tc) (he:∀C s₀ H₀ ex,PE (X.blk cp.names sc C s₀ H₀ ex) elt te)
  (hsw:swapsWith (.ListComp elt [⟨tg,iter,ifs,0⟩] sc pos) (some (.Name x px)) spos.line X.env=pure true:=by rfl)
  (hs:∀x,foldedSetIterable iter X.env x=pure x:=by intro _;rfl):PS X (.Assign [.Name x px] (.ListComp elt [⟨tg,iter,ifs,0⟩] sc pos) spos) (tAsg (ZS wi cp g tc te) (Mb i)):=by
 intro pins s σ H D I h
 rw[exec_Assign_Name_used _ _ _ _ hsw]
 refine wpAny_bind (wpAny_standAt (wpAny_bind ?_))
 show wpAny _ X.A (do let _ <- comprehension (.ListComp elt [⟨tg,iter,ifs,0⟩] sc pos) sc X.env _ (newList []) false (eval iter X.env) (some (assign (.Name x px) X.env))) _ _ s
 refine wpAny_bind (wpAny_mono (wpAny_comprehension_free (use:=some (assign (.Name x px) X.env)) (Q:=fun _ s'=>SP X pins D .next s') rfl hs (Ld (MS I S)) S.kind S.loc
  (thn (hit pins s σ H _ I h) fun xv s₁ h₁=>thn h₁ fun itv s₂ h₂=>?_)) (fun _ s' hq=>wpAny_pure (wpAny_pure hq)) fun _ _ e=>e)
 obtain⟨it,fp,tn,J,H2,e,I2,T,st2,f2,hw⟩:=h₂
 subst e
 refine S1 (RR:=fun acc C=>compPost (model X.prog X.w) X.A X.xe (some (assign (.Name x px) X.env)) (fun _ s'=>SP X pins D .next s') acc C) (Q:=fun v H1=>Mb i v σ H1 D.nx) hc S hcp hg hf he I2 T st2 f2 hw ?_
 intro Dl C s' H' m I' q hn hC hL hz hcl hp
 show wpAny _ X.A (assign (.Name x px) X.env (.ref Dl)) _ _ _
 refine wpAny_assign_Name (SJ I' hN hi (.inl hx) (v:=.ref Dl) rfl (fun s'' I'' ⟨a,hsb,ha⟩=>?_) (.inr hx))
 have hne:C≠a:=by
  rcases ha with rfl|ha
  ·exact hL
  ·exact fun z=>hcl _ _ ha z.symm
 refine⟨m,hn.sameBut hsb hne,fun h' hs'=>⟨_,H',I''.turned (t':=s''.toks) (it:=C) (fun b o hb e=>hs'.extBut b o hb e) hC hL (.inr hz) hcl hp,q⟩⟩
end
theorem Yh {K:PySem.W.Frag}{a:Addr}{xs:List V}{g:TG}{tc:TT}{te:TE}{Q:VK}{σ:St}{H:Hp}(Pv:Nat->List V->St->Hp->Prop)(h0:Pv 0 [] σ H)(hz:xs.length<sizeLine)
  (hl:∀i ys σ H,i<=xs.length->Pv i ys σ H->SqL K H a xs/\ys.length<=i)
  (hs:∀i x ys σ H,xs[i]?=some x->Pv i ys σ H->g x σ H fun σ2 H2=>tc σ2 H2 fun b H3=>if b=true then te σ2 H3 fun v H4=>Pv (i+1) (ys++[v]) σ2 H4 else Pv (i+1) ys σ2 H3)
  (hd:∀ys σ H,Pv xs.length ys σ H->∀D,H D=none->Q (.ref D) (upd H D (.lst ys))):
  ∃W:Nat->Nat->List V->St->Hp->Prop,(∃m,W 0 m [] σ H)/\∀i m ys σ' H',W i m ys σ' H' ->
   ys.length<sizeLine/\(((Itl K a).stop i H'/\∀D,H' D=none->Q (.ref D) (upd H' D (.lst ys)))\/((Itl K a).go i H'/\∃N:List V->St->Hp->Prop,(∀zs σ2 H2,N zs σ2 H2->∃m',m'<m/\W (i+1) m' zs σ2 H2)/\∀x H2,(Itl K a).yld i H' x H2->g x σ' H2 fun σ2 H3=>tc σ2 H3 fun b H4=>
    if b=true then te σ2 H4 fun v H5=>N (ys++[v]) σ2 H5 else N ys σ2 H4)):=by
 refine⟨fun i m ys σ H=>m=xs.length-i/\i<=xs.length/\Pv i ys σ H,⟨xs.length,by simp,Nat.zero_le _,h0⟩,?_⟩
 rintro i m ys σ H ⟨rfl,hi,p⟩
 obtain⟨q,ly⟩:=hl i ys σ H hi p
 refine⟨by omega,?_⟩
 by_cases hlt:i<xs.length
 ·refine .inr ⟨⟨xs,xs[i],q,by simp[hlt]⟩,Pv (i+1),fun zs σ' H' p'=>⟨xs.length-(i+1),by omega,rfl,hlt,p'⟩,fun x H' y=>?_⟩
  obtain⟨e,y⟩:=y
  subst e
  exact hs i x ys σ _ (y xs q) p
 ·have e:i=xs.length:=by omega
  subst e
  exact .inl ⟨⟨xs,q,Nat.le_refl _⟩,hd ys σ H p⟩
theorem ZT {K:PySem.W.Frag}{a:Addr}{xs:List V}{g:TG}{tc:TT}{te:TE}{Q:VK}{σ:St}{H:Hp}(Pv:Nat->List V->St->Hp->Prop)(h0:Pv 0 [] σ H)(hz:xs.length<sizeLine)
  (hl:∀i ys σ H,i<=xs.length->Pv i ys σ H->SqT K H a xs/\ys.length<=i)
  (hs:∀i x ys σ H,xs[i]?=some x->Pv i ys σ H->g x σ H fun σ2 H2=>tc σ2 H2 fun b H3=>if b=true then te σ2 H3 fun v H4=>Pv (i+1) (ys++[v]) σ2 H4 else Pv (i+1) ys σ2 H3)
  (hd:∀ys σ H,Pv xs.length ys σ H->∀D,H D=none->Q (.ref D) (upd H D (.lst ys))):
  ∃W:Nat->Nat->List V->St->Hp->Prop,(∃m,W 0 m [] σ H)/\∀i m ys σ' H',W i m ys σ' H' ->
   ys.length<sizeLine/\(((Itt K a).stop i H'/\∀D,H' D=none->Q (.ref D) (upd H' D (.lst ys)))\/((Itt K a).go i H'/\∃N:List V->St->Hp->Prop,(∀zs σ2 H2,N zs σ2 H2->∃m',m'<m/\W (i+1) m' zs σ2 H2)/\∀x H2,(Itt K a).yld i H' x H2->g x σ' H2 fun σ2 H3=>tc σ2 H3 fun b H4=>
    if b=true then te σ2 H4 fun v H5=>N (ys++[v]) σ2 H5 else N ys σ2 H4)):=by
 refine⟨fun i m ys σ H=>m=xs.length-i/\i<=xs.length/\Pv i ys σ H,⟨xs.length,by simp,Nat.zero_le _,h0⟩,?_⟩
 rintro i m ys σ H ⟨rfl,hi,p⟩
 obtain⟨q,ly⟩:=hl i ys σ H hi p
 refine⟨by omega,?_⟩
 by_cases hlt:i<xs.length
 ·refine .inr ⟨⟨xs,xs[i],q,by simp[hlt]⟩,Pv (i+1),fun zs σ' H' p'=>⟨xs.length-(i+1),by omega,rfl,hlt,p'⟩,fun x H' y=>?_⟩
  obtain⟨e,y⟩:=y
  subst e
  exact hs i x ys σ _ (y xs q) p
 ·have e:i=xs.length:=by omega
  subst e
  exact .inl ⟨⟨xs,q,Nat.le_refl _⟩,hd ys σ H p⟩
theorem Wx {lo:Int}{n:Nat}{g:TG}{tc:TT}{te:TE}{Q:VK}{σ:St}{H:Hp}(Pv:Nat->List V->St->Hp->Prop)(h0:Pv 0 [] σ H)(hz:n<sizeLine)
  (hl:∀i ys σ H,i<=n->Pv i ys σ H->ys.length<=i)
  (hs:∀i ys σ H,i<n->Pv i ys σ H->g (.int (lo+i)) σ H fun σ2 H2=>tc σ2 H2 fun b H3=>if b=true then te σ2 H3 fun v H4=>Pv (i+1) (ys++[v]) σ2 H4 else Pv (i+1) ys σ2 H3)
  (hd:∀ys σ H,Pv n ys σ H->∀D,H D=none->Q (.ref D) (upd H D (.lst ys))):
  ∃W:Nat->Nat->List V->St->Hp->Prop,(∃m,W 0 m [] σ H)/\∀i m ys σ' H',W i m ys σ' H' ->
   ys.length<sizeLine/\(((Itr lo n).stop i H'/\∀D,H' D=none->Q (.ref D) (upd H' D (.lst ys)))\/((Itr lo n).go i H'/\∃N:List V->St->Hp->Prop,(∀zs σ2 H2,N zs σ2 H2->∃m',m'<m/\W (i+1) m' zs σ2 H2)/\∀x H2,(Itr lo n).yld i H' x H2->g x σ' H2 fun σ2 H3=>tc σ2 H3 fun b H4=>
    if b=true then te σ2 H4 fun v H5=>N (ys++[v]) σ2 H5 else N ys σ2 H4)):=by
 refine⟨fun i m ys σ H=>m=n-i/\i<=n/\Pv i ys σ H,⟨n,by simp,Nat.zero_le _,h0⟩,?_⟩
 rintro i m ys σ H ⟨rfl,hi,p⟩
 have ly:=hl i ys σ H hi p
 refine⟨by omega,?_⟩
 by_cases hlt:i<n
 ·refine .inr ⟨hlt,Pv (i+1),fun zs σ' H' p'=>⟨n-(i+1),by omega,rfl,hlt,p'⟩,fun x H' y=>?_⟩
  obtain⟨e,y⟩:=y
  subst e y
  exact hs i ys σ _ hlt p
 ·have e:i=n:=by omega
  subst e
  exact .inl ⟨Nat.le_refl _,hd ys σ H p⟩
end L2
namespace L2
open PySem PySem.Spec PyProof.Rows
section
variable {X:Cx}
theorem P5 {bs:List Bool}{its:List Value}(r:Vals (bs.map V.bl) its){i:Nat}{v:Value}(h:its[i]?=some v):∃b,bs[i]?=some b/\v=.bool b:=by
 have hi:i<its.length:=(List.getElem?_eq_some_iff.mp h).1
 have hl:=r.length
 rw[List.length_map]at hl
 obtain⟨u,hu,ru⟩:=r.get (i:=i) (x:=V.bl bs[i]) (by rw[List.getElem?_map];simp[show i<bs.length by omega])
 rw[h]at hu
 cases hu
 exact⟨bs[i],by simp[show i<bs.length by omega],ru⟩
theorem Di_ (bs:List Bool):(List.range bs.length).map (fun i=>bs.getD i false)=bs:=
 List.ext_getElem (by simp) fun i _ h=>by simp[h]
theorem range_all {bs:List Bool}:(List.range bs.length).all (fun i=>bs.getD i false)=bs.all id:=by
 have e:=congrArg (fun l=>l.all id) (Di_ bs)
 rw[List.all_map]at e;exact e
theorem UM {bs:List Bool}{its:List Value}{A:Around}{P:Program}{w:World}(r:Vals (bs.map V.bl) its):TruthOf P w A (fun i v=>its.toArray[i]?=some v) (fun i=>bs.getD i false):=by
 intro i v s Q E hv hq
 obtain⟨b,hb,e⟩:=P5 r (by simpa using hv)
 subst e
 refine wpAny_truthy_bool ?_
 have e:bs.getD i false=b:=by rw[List.getD_eq_getElem?_getD,hb];rfl
 have hq':Q (bs.getD i false) s:=hq
 rw[e]at hq'
 exact hq'
theorem ZU (hc:X.calm=true):HH X (.builtin "all") (fun xs H Q=>∃(p:Addr) (bs:List Bool),xs=[.ref p]/\SqL X.K H p (bs.map V.bl)/\Q (.bl (bs.all id)) H):=by
 intro pins s σ H xs us Q I r h
 obtain⟨p,bs,rfl,hq,q⟩:=h
 obtain⟨u,rfl,ru⟩:=vals1 r
 cases ru
 obtain⟨its,rv,pl,hz⟩:=I.list hq
 have hlen:=rv.length
 rw[List.length_map]at hlen
 have hh:X.A.in1.handled=none:=I.ok.hd hc
 obtain⟨o,ho,_⟩:=id pl.isList
 have hne:p≠s.heap.objs.size:=Nat.ne_of_lt (Heap.lt_size ho)
 refine call_all_walk (wpAny_pyIter_list pl.isList ?_)
 refine⟨s.heap.objs.size,_,_,its.toArray.size,_,_,fun i=>bs.getD i false,rfl,Walks.list hh _ p hne its.toArray,⟨⟨_,Heap.get?_push_size _ rfl,rfl,rfl⟩,pl.isList.at fun o e=>Heap.get?_push_of_some _ e⟩,UM rv,fun h' tk hk=>?_⟩
 refine⟨.bl (bs.all id),H,I.kept (t':=tk) fun b o e=>hk b o ?_ (Heap.get?_push_of_some _ e),?_,q⟩
 ·intro hb
  have e':b=s.heap.objs.size:=by simpa using hb
  exact absurd (Heap.lt_size e) (by rw[e'];exact Nat.lt_irrefl _)
 ·rw[List.size_toArray,<-hlen,range_all];rfl
theorem GO:HH X (.builtin "isinstance") (fun xs H Q=>∃x c cv t b,xs=[x,c]/\TyOf X.K H x t/\(∀u,RelV c u->u=cv)/\PySem.W.kitOne X.K t cv=some b/\Q (.bl b) H):=by
 intro pins s σ H xs us Q I r h
 obtain⟨x,c,cv,t,b,rfl,ty,hc,hk,q⟩:=h
 obtain⟨u,w',rfl,rx,rc⟩:=vals2 r
 rw[hc _ rc]
 exact X2 I rx ty hk fun tk=>⟨.bl b,H,I.tok tk,rfl,q⟩
def EqD (K:PySem.W.Frag)(H:Hp):Nat->V->V->Bool->Prop
 |0,x,y,b=>PV x=true/\PV y=true/\b=eqV x y
 |n+1,x,y,b=>(PV x=true/\PV y=true/\b=eqV x y) \/ ∃a c xs ys,x=.ref a/\y=.ref c/\((SqL K H a xs/\SqL K H c ys)\/(SqT K H a xs/\SqT K H c ys)) /\
   ∃e:Nat->Bool,(∀i x y,xs[i]?=some x->ys[i]?=some y->EqD K H n x y (e i))/\b=(decide (xs.length=ys.length)&&(List.range (min xs.length ys.length)).all e)
theorem in1_units (A:Around):A.in1.units=A.units+1:=rfl
theorem VL {x:V}(h:PV x=true):eqV x x=true:=by
 cases x<;>first|rfl|(simp[eqV];done)|exact absurd (show false=true from h) Bool.false_ne_true
theorem EqD.self {pins:List (Addr×Obj)}{s:Shared}{σ:St}{H:Hp}(I:Inv X pins σ H s):∀(n:Nat) {x:V} {b:Bool},EqD X.K H n x x b->b=true:=by
 intro n
 induction n with
 |zero=>
  rintro x b ⟨fx,_,rfl⟩
  exact VL fx
 |succ n ih=>
  rintro x b (⟨fx,_,rfl⟩|⟨a,c,xs,ys,rfl,e2,hq,e,he,rfl⟩)
  ·exact VL fx
  ·cases e2
   have exy:xs=ys:=by
    rcases hq with ⟨h1,h2⟩|⟨h1,h2⟩
    ·exact I.list_inj h1 h2
    ·exact I.tuple_inj h1 h2
   subst exy
   simp only[decide_true,Bool.true_and,Nat.min_self,List.all_eq_true,List.mem_range]
   intro i hi
   exact ih (he i xs[i] xs[i] (by simp[hi]) (by simp[hi]))
theorem Yi {n m:Nat}{e:Nat->Bool}:((List.range (min n m)).all e&&n==m)=(decide (n=m)&&(List.range (min n m)).all e):=by
 rw[Bool.and_comm]
 congr 1
theorem EqD.at {pins:List (Addr×Obj)}{s:Shared}{σ:St}{H:Hp}(I:Inv X pins σ H s):∀(n:Nat) (A:Around) {x y:V} {u v:Value} {b:Bool},A.units+n<cLine->RelV x u->RelV y v->EqD X.K H n x y b ->
  SeqAt.EqAt A s u v b/\∀a c,x=.ref a->y=.ref c->SeqAt.RcAt A s u v b:=by
 intro n
 induction n with
 |zero=>
  intro A x y u v b hu rx ry h
  obtain⟨fx,fy,rfl⟩:=h
  refine⟨AO_ rx ry fx fy,?_⟩
  rintro a c rfl rfl
  exact absurd (show false=true from fx) Bool.false_ne_true
 |succ n ih=>
  intro A x y u v b hu rx ry h
  have hself:=h
  rcases h with ⟨fx,fy,rfl⟩|⟨a,c,xs,ys,rfl,rfl,hq,e,he,rfl⟩
  ·refine⟨AO_ rx ry fx fy,?_⟩
   rintro a c rfl rfl
   exact absurd (show false=true from fx) Bool.false_ne_true
  ·cases rx
   cases ry
   have key:∀(its its2:List Value),Vals xs its->Vals ys its2->∀j (h1:j<its.toArray.size) (h2:j<its2.toArray.size),SeqAt.EqAt A.in1 s its.toArray[j] its2.toArray[j] (e j):=fun its its2 r1 r2 j h1 h2=>by
    have l1:=r1.length
    have l2:=r2.length
    rw[List.size_toArray]at h1 h2
    obtain⟨u1,g1,q1⟩:=r1.get (i:=j) (x:=xs[j]'(by omega)) (by simp[show j<xs.length by omega])
    obtain⟨u2,g2,q2⟩:=r2.get (i:=j) (x:=ys[j]'(by omega)) (by simp[show j<ys.length by omega])
    have k1:its.toArray[j]'(by rw[List.size_toArray];exact h1)=u1:=by
     have:=(List.getElem?_eq_some_iff.mp g1).2
     simpa using this
    have k2:its2.toArray[j]'(by rw[List.size_toArray];exact h2)=u2:=by
     have:=(List.getElem?_eq_some_iff.mp g2).2
     simpa using this
    rw[k1,k2]
    exact (ih A.in1 (by rw[in1_units];omega) q1 q2 (he j _ _ (by simp[show j<xs.length by omega]) (by simp[show j<ys.length by omega]))).1
   have rc:SeqAt.RcAt A s (.ref a) (.ref c) (decide (xs.length=ys.length)&&(List.range (min xs.length ys.length)).all e):=by
    rcases hq with ⟨h1,h2⟩|⟨h1,h2⟩
    ·obtain⟨its,r1,p1,_⟩:=I.list h1
     obtain⟨its2,r2,p2,_⟩:=I.list h2
     have l1:=r1.length
     have l2:=r2.length
     by_cases hl:xs.length=ys.length
     ·have:=SeqAt.RcAt.lists (e:=e) p1.isList p2.isList (by rw[List.size_toArray,List.size_toArray];omega) (by omega) (key its its2 r1 r2)
      rw[List.size_toArray,<-l1]at this
      rw[decide_eq_true hl,Bool.true_and,<-hl,Nat.min_self]
      exact this
     ·rw[decide_eq_false hl,Bool.false_and]
      exact SeqAt.RcAt.lists_lengths p1.isList p2.isList (by rw[List.size_toArray,List.size_toArray];simp;omega) (by omega)
    ·obtain⟨its,r1,p1,_⟩:=I.tuple h1
     obtain⟨its2,r2,p2,_⟩:=I.tuple h2
     have l1:=r1.length
     have l2:=r2.length
     have:=SeqAt.RcAt.tuples (e:=e) (show s.heap.IsTuple a its.toArray from p1) (show s.heap.IsTuple c its2.toArray from p2) (by omega) (key its its2 r1 r2)
     rw[List.size_toArray,List.size_toArray,<-l1,<-l2,Yi]at this
     exact this
   refine⟨?_,fun a' c' _ _=>rc⟩
   by_cases hac:a=c
   ·subst hac
    rw[EqD.self I (n+1) hself]
    exact SeqAt.EqAt.same _
   ·exact SeqAt.EqAt.of_refs hac rc
theorem EqD.flat {K:PySem.W.Frag}{H:Hp}{a c:Addr}{xs ys:List V}(hq:(SqL K H a xs/\SqL K H c ys)\/(SqT K H a xs/\SqT K H c ys))(fx:∀x∈xs,PV x=true)(fy:∀y∈ys,PV y=true)(hi:∀x∈xs,∀y∈ys,eqV x y=decide (x=y))(n:Nat):
  EqD K H (n+1) (.ref a) (.ref c) (decide (xs=ys)):=by
 have base:∀m i x y,xs[i]?=some x->ys[i]?=some y->EqD K H m x y (decide (x=y)):=fun m i x y h1 h2=>by
  have m1:=List.mem_of_getElem? h1
  have m2:=List.mem_of_getElem? h2
  cases m with
  |zero=>exact⟨fx _ m1,fy _ m2,(hi _ m1 _ m2).symm⟩
  |succ m=>exact .inl ⟨fx _ m1,fy _ m2,(hi _ m1 _ m2).symm⟩
 refine .inr ⟨a,c,xs,ys,rfl,rfl,hq,fun i=>match xs[i]?,ys[i]? with|some x,some y=>decide (x=y)|_,_=>true,fun i x y h1 h2=>?_,?_⟩
 ·simp only[h1,h2]
  exact base n i x y h1 h2
 ·rw[Bool.eq_iff_iff]
  simp only[decide_eq_true_eq,Bool.and_eq_true,List.all_eq_true,List.mem_range]
  constructor
  ·rintro rfl
   refine⟨rfl,fun i hi=>?_⟩
   have hi:i<xs.length:=by omega
   simp[hi]
  ·rintro⟨hl,h⟩
   refine List.ext_getElem? fun i=>?_
   by_cases hi:i<xs.length
   ·have:=h i (by omega)
    simp[hi,show i<ys.length by omega]at this
    simp[hi,show i<ys.length by omega,this]
   ·rw[List.getElem?_eq_none (by omega),List.getElem?_eq_none (by omega)]
end
end L2
namespace L2
open PySem PySem.Spec PyProof.Rows
def Dj_ (outer:List (Str×NameKind))(sc:Scope):Bool:=
 sc.kind == .function&&sc.names.all (fun y=>y.2 != .cell&&(y.2 != .local||sc.names.lookup y.1==some .local)&&(y.2 != .free||outer.lookup y.1==some .cell||outer.lookup y.1==some .free))
theorem Du {X:Cx}{sc:Scope}(h:Dj_ X.env.scope.names sc=true):BlkSc X sc:=by
 unfold Dj_ at h
 rw[Bool.and_eq_true,List.all_eq_true]at h
 obtain⟨h1,h2⟩:=h
 refine⟨by simpa using h1,fun y hy z=>?_,fun y hy z=>?_,fun y hy z=>?_⟩
 ·have:=h2 y hy
  simp only[Bool.and_eq_true]at this
  have:=this.1.1
  rw[z]at this
  exact absurd this (by decide)
 ·have:=h2 y hy
  simp only[Bool.and_eq_true]at this
  have:=this.1.2
  rw[z]at this
  simpa using this
 ·have:=h2 y hy
  simp only[Bool.and_eq_true]at this
  have:=this.2
  rw[z]at this
  have t:(X.env.scope.names.lookup y.1==some .cell||X.env.scope.names.lookup y.1==some .free)=true:=by simpa using this
  rw[Bool.or_eq_true]at t
  rcases t with t|t
  ·exact .inl (by show X.env.scope.names.lookup y.1=some .cell;simpa using t)
  ·exact .inr (by show X.env.scope.names.lookup y.1=some .free;simpa using t)
section
variable {t u:TS} {te ta tb tc':TE} {tt tu:TT} {A B:TA} {D:Ends} {σ:St} {H:Hp} {Q:VK} {R:Bool->Hp->Prop} {S:List V->Hp->Prop} {i:Nat} {v:V} {g:TG} {r r':R2} {K:PySem.W.Frag} {wi:TI} {cp:Caps}
theorem Dk_:tSeq t u D σ H=t {D with nx:=u D} σ H:=rfl
theorem AT_:CH_ D σ H=D.nx σ H:=rfl
theorem Dl_:tAsg te g D σ H=te σ H fun x H1=>g x σ H1 D.nx:=rfl
theorem Yj {N:St->Hp->Prop}:Mb i v σ H N=N (σ.set i (some v)) H:=rfl
theorem Dm_:tVar i σ H Q=∃v,σ[i]?=some (some v)/\Q v H:=rfl
theorem r_c:tC v σ H Q=Q v H:=rfl
theorem r_op:tOp r ta tb σ H Q=ta σ H fun x H1=>tb σ H1 fun y H2=>r x y H2 Q:=rfl
theorem r_un {f:V->Hp->VK->Prop}:tUn f ta σ H Q=ta σ H fun x H1=>f x H1 Q:=rfl
theorem r_I {C:Int->Int->Prop}{f:Int->Int->V}{x y:V}:rI C f x y H Q=∃i j,x=.int i/\y=.int j/\C i j/\Q (f i j) H:=rfl
theorem r_I0 {f:Int->Int->V}{x y:V}:rI0 f x y H Q=∃i j,x=.int i/\y=.int j/\Q (f i j) H:=rfl
theorem r_U {f:Int->V}{x:V}:rU f x H Q=∃i,x=.int i/\Q (f i) H:=rfl
theorem AU_ {sp:Sp}{dvs:List V}{E:XK}:CV_ sp dvs E A σ H Q=A σ H fun vs H1=>sp (vs++dvs) H1 Q E:=rfl
theorem AV_:CU_ te A σ H S=te σ H fun x H1=>A σ H1 fun xs H2=>S (x::xs) H2:=rfl
theorem Dn_:tNil σ H S=S [] H:=rfl
theorem Do_:tRet te D σ H=te σ H D.rt:=rfl
theorem AW_:CI_ te D σ H=te σ H fun _ H1=>D.nx σ H1:=rfl
theorem r_if:tIfS tt t u D σ H=tt σ H fun b H1=>if b=true then t D σ H1 else u D σ H1:=rfl
theorem r_B:tB te σ H R=te σ H fun x H1=>∃c,x=.bl c/\R c H1:=rfl
theorem AX_:CT_ te σ H R=te σ H fun x H1=>∃c,x=.bl c/\R c H1:=rfl
theorem Dp_:tAnd tt tu σ H R=tt σ H fun c H1=>if c=true then tu σ H1 R else R false H1:=rfl
theorem r_or:tOr tt tu σ H R=tt σ H fun c H1=>if c=true then R true H1 else tu σ H1 R:=rfl
theorem Dq_:tNot tt σ H R=tt σ H fun c H1=>R (!c) H1:=rfl
theorem AY_:CE_ ta tb σ H Q=ta σ H fun x H1=>∃c,x=.bl c/\if c=true then tb σ H1 Q else Q (.bl false) H1:=rfl
theorem Dr_:tOrV ta tb σ H Q=ta σ H fun x H1=>∃c,x=.bl c/\if c=true then Q (.bl true) H1 else tb σ H1 Q:=rfl
theorem AZ_:CF_ ta σ H Q=ta σ H fun x H1=>∃c,x=.bl c/\Q (.bl (!c)) H1:=rfl
theorem Yk:AN_ r r' ta tb tc' σ H Q=ta σ H fun x H1=>tb σ H1 fun y H2=>r x y H2 fun z H3=>∃k,z=.bl k/\(if k=true then tc' σ H3 fun w' H4=>r' y w' H4 Q else Q (.bl false) H3):=rfl
theorem Ds_:tIf tt ta tb σ H Q=tt σ H fun c H1=>if c=true then ta σ H1 Q else tb σ H1 Q:=rfl
theorem r_CB {f:List V->Hp->VK->Prop}:tCB f A σ H Q=A σ H fun vs H1=>f vs H1 Q:=rfl
theorem Dt_:tLst A σ H Q=A σ H fun xs H1=>xs.length<=sizeLine/\∀p,H1 p=none->Q (.ref p) (upd H1 p (.lst xs)):=rfl
theorem Du_:tTup A σ H Q=A σ H fun xs H1=>xs.length<=sizeLine/\∀p,H1 p=none->Q (.ref p) (upd H1 p (.tup xs)):=rfl
theorem Dv_ {x y:V}:rIxL K x y H Q=∃p xs i v,x=.ref p/\y=.int i/\SqL K H p xs/\atI xs i=some v/\Q v H:=rfl
theorem Dw_ {x y:V}:rIxT K x y H Q=∃p xs i v,x=.ref p/\y=.int i/\SqT K H p xs/\atI xs i=some v/\Q v H:=rfl
theorem r_sl {f:V->Option Int->Option Int->Hp->VK->Prop}{tl th:TO}:tSl f te tl th σ H Q=te σ H fun x H1=>tl σ H1 fun l H2=>th σ H2 fun u H3=>f x l u H3 Q:=rfl
theorem Ba_ {U:Option Int->Hp->Prop}:CZ_ te σ H U=te σ H fun x H1=>∃i,x=.int i/\U (some i) H1:=rfl
theorem VM {U:Option Int->Hp->Prop}:X5 σ H U=U none H:=rfl
theorem r_BM {T:String}{f:V->List V->Hp->VK->Prop}:tBM K T f te A σ H Q=te σ H fun x H1=>tyV K T x H1/\A σ H1 fun xs H2=>f x xs H2 Q:=rfl
theorem VN {x:V}{vs:List V}:X8 x vs H Q=∃l xs y,x=.ref l/\vs=[y]/\H l=some (.lst xs)/\xs.length<sizeLine/\Q .non (upd H l (.lst (xs++[y]))):=rfl
theorem Bb_ {to ti:TE}{ts:TSet}{N:St->Hp->Prop}:gSub to ti ts v σ H N=to σ H fun o H1=>ti σ H1 fun i H2=>ts o i v H2 fun H3=>N σ H3:=rfl
theorem Bc_ {o k:V}{N:Hp->Prop}:Dc_ o k v H N=∃p xs m j,o=.ref p/\k=.int m/\H p=some (.lst xs)/\ixN xs.length m=some j/\N (upd H p (.lst (xs.set j v))):=rfl
theorem r_Eq {x y:V}:rEq x y H Q=(scal x y=true/\Q (.bl (decide (x=y))) H):=rfl
theorem r_Ne {x y:V}:rNe x y H Q=(scal x y=true/\Q (.bl (!decide (x=y))) H):=rfl
theorem Dx_ {x y:V}:rLtT K x y H Q=∃a b ns ms,x=.ref a/\y=.ref b/\SqT K H a (ns.map V.int)/\SqT K H b (ms.map V.int)/\Q (.bl (HT.lexLt ns ms)) H:=rfl
theorem Yl {Z:It->Hp->Prop}:CO_ K te σ H Z=te σ H fun x H1=>∃a,x=.ref a/\(∃xs,SqL K H1 a xs)/\Z (Itl K a) H1:=rfl
theorem Bd_ {Z:It->Hp->Prop}:iTup K te σ H Z=te σ H fun x H1=>∃a,x=.ref a/\(∃xs,SqT K H1 a xs)/\Z (Itt K a) H1:=rfl
theorem Ym {Z:It->Hp->Prop}:CP_ A σ H Z=A σ H fun vs H1=>∃j:Int,vs=[.int j] /\ -(2 ^ 62)<=j/\j<2 ^ 62/\Z (Itr 0 j.toNat) H1:=rfl
theorem Dy_ {ti:TIp}:tAug i te ti D σ H=∃x,σ[i]?=some (some x)/\te σ H fun y H1=>ti x y H1 fun z H2=>D.nx (σ.set i (some z)) H2:=rfl
theorem r_ip {f:Int->Int->Int}{x y:V}:ipI f x y H Q=∃i j,x=.int i/\y=.int j/\Q (.int (f i j)) H:=rfl
theorem Yn:N4 σ H R=R true H:=rfl
end
theorem Same.new {H:Hp}{p:Addr}{o:HO}(h:H p=none):Same H (upd H p o):=fun b u e=>by rw[Aw (BL e h)];exact e
theorem Same.newT {H H':Hp}{p:Addr}{o:HO}(s:Same H H')(h:H' p=none):Same H (upd H' p o):=s.trans (Same.new h)
theorem Same.over {H H':Hp}{p:Addr}{o:HO}(s:Same H H')(h:H p=none):Same H (upd H' p o):=fun b u e=>by rw[Aw (BL e h)];exact s b u e
theorem Same.seqT {K:PySem.W.Frag}{H H':Hp}{a:Addr}{xs:List V}(e:Same H H')(h:SqT K H a xs):SqT K H' a xs:=by
 rcases h with (h|⟨o,h⟩)|h
 ·exact .inl (.inl (e _ _ h))
 ·exact .inl (.inr ⟨o,e _ _ h⟩)
 ·exact .inr h
theorem hu9 {k:Nat}{A:Around}(hr:Room k A):A.units+8<cLine:=by have:=hr.units;omega
section
variable {K:PySem.W.Frag} {wi:TI} {cp:Caps} {g:TG} {tc:TT} {te:TE} {σ:St} {H:Hp} {Q:VK}
theorem Dz_ {CX:CXT}{P:Program}{w:World}{mg:Str->Option Value}{base:Heap}{N:List Str}{qual:Str}{scope:Scope}{f:Addr}{cd:Value}{A:Around}{outer:List Env}{s:Shared}{E:XK}:(cxOf CX P w K mg base N qual scope f cd A outer s H E).K=K:=rfl
def Js (J:It)(cp:Caps)(g:TG)(tc:TT)(te:TE)(σ:St)(H1:Hp)(Q:VK):Prop:=∃W:Nat->Nat->List V->St->Hp->Prop,(∃m,W 0 m [] (cp.st σ) H1)/\∀i m ys σ' H',W i m ys σ' H' ->
 ys.length<sizeLine/\((J.stop i H'/\∀D,H' D=none->Q (.ref D) (upd H' D (.lst ys)))\/(J.go i H'/\∃N:List V->St->Hp->Prop,(∀zs σ2 H2,N zs σ2 H2->∃m',m'<m/\W (i+1) m' zs σ2 H2)/\∀x H2,J.yld i H' x H2->g x σ' H2 fun σ2 H3=>tc σ2 H3 fun b H4=>
  if b=true then te σ2 H4 fun v H5=>N (ys++[v]) σ2 H5 else N ys σ2 H4))
theorem Be_:ZS wi cp g tc te σ H Q=wi σ H fun J H1=>Js J cp g tc te σ H1 Q:=rfl
def ForW (J:It)(g:TG)(tb:TS)(D:Ends)(σ:St)(H1:Hp):Prop:=∃W:Nat->Nat->St->Hp->Prop,(∃m,W 0 m σ H1)/\∀i m σ H,W i m σ H ->
 (J.stop i H/\D.nx σ H)\/(J.go i H/\∃N:St->Hp->Prop,(∀σ' H',N σ' H'->∃m',m'<m/\W (i+1) m' σ' H')/\∀x H',J.yld i H x H'->g x σ H' fun σ2 H2=>tb {D with nx:=N,ct:=N,bk:=D.nx} σ2 H2)
theorem DA_ {tb:TS}{D:Ends}:tFor wi g tb D σ H=wi σ H fun J H1=>ForW J g tb D σ H1:=rfl
theorem forL {a:Addr}{xs:List V}{g:TG}{tb:TS}{D:Ends}{σ:St}{H:Hp}(Pv:Nat->St->Hp->Prop)(h0:Pv 0 σ H)(hl:∀i σ H,i<=xs.length->Pv i σ H->SqL K H a xs)
  (hs:∀i x σ H,xs[i]?=some x->Pv i σ H->g x σ H fun σ2 H2=>tb {D with nx:=Pv (i+1),ct:=Pv (i+1),bk:=D.nx} σ2 H2) (hd:∀σ H,Pv xs.length σ H->D.nx σ H):ForW (Itl K a) g tb D σ H:=ZC Pv h0 hl hs hd
theorem forT {a:Addr}{xs:List V}{g:TG}{tb:TS}{D:Ends}{σ:St}{H:Hp}(Pv:Nat->St->Hp->Prop)(h0:Pv 0 σ H)(hl:∀i σ H,i<=xs.length->Pv i σ H->SqT K H a xs)
  (hs:∀i x σ H,xs[i]?=some x->Pv i σ H->g x σ H fun σ2 H2=>tb {D with nx:=Pv (i+1),ct:=Pv (i+1),bk:=D.nx} σ2 H2) (hd:∀σ H,Pv xs.length σ H->D.nx σ H):ForW (Itt K a) g tb D σ H:=BJ_ Pv h0 hl hs hd
theorem forR {lo:Int}{n:Nat}{g:TG}{tb:TS}{D:Ends}{σ:St}{H:Hp}(Pv:Nat->St->Hp->Prop)(h0:Pv 0 σ H)
  (hs:∀i σ H,i<n->Pv i σ H->g (.int (lo+i)) σ H fun σ2 H2=>tb {D with nx:=Pv (i+1),ct:=Pv (i+1),bk:=D.nx} σ2 H2) (hd:∀σ H,Pv n σ H->D.nx σ H):ForW (Itr lo n) g tb D σ H:=XW Pv h0 hs hd
theorem ZV {a:Addr}{xs:List V}(Pv:Nat->List V->St->Hp->Prop)(h0:Pv 0 [] (cp.st σ) H)(hz:xs.length<sizeLine)
  (hl:∀i ys σ H,i<=xs.length->Pv i ys σ H->SqL K H a xs/\ys.length<=i)
  (hs:∀i x ys σ H,xs[i]?=some x->Pv i ys σ H->g x σ H fun σ2 H2=>tc σ2 H2 fun b H3=>if b=true then te σ2 H3 fun v H4=>Pv (i+1) (ys++[v]) σ2 H4 else Pv (i+1) ys σ2 H3)
  (hd:∀ys σ H,Pv xs.length ys σ H->∀D,H D=none->Q (.ref D) (upd H D (.lst ys))):Js (Itl K a) cp g tc te σ H Q:=Yh Pv h0 hz hl hs hd
theorem Yo {a:Addr}{xs:List V}(Pv:Nat->List V->St->Hp->Prop)(h0:Pv 0 [] (cp.st σ) H)(hz:xs.length<sizeLine)
  (hl:∀i ys σ H,i<=xs.length->Pv i ys σ H->SqT K H a xs/\ys.length<=i)
  (hs:∀i x ys σ H,xs[i]?=some x->Pv i ys σ H->g x σ H fun σ2 H2=>tc σ2 H2 fun b H3=>if b=true then te σ2 H3 fun v H4=>Pv (i+1) (ys++[v]) σ2 H4 else Pv (i+1) ys σ2 H3)
  (hd:∀ys σ H,Pv xs.length ys σ H->∀D,H D=none->Q (.ref D) (upd H D (.lst ys))):Js (Itt K a) cp g tc te σ H Q:=ZT Pv h0 hz hl hs hd
theorem N5 {lo:Int}{n:Nat}(Pv:Nat->List V->St->Hp->Prop)(h0:Pv 0 [] (cp.st σ) H)(hz:n<sizeLine)
  (hl:∀i ys σ H,i<=n->Pv i ys σ H->ys.length<=i)
  (hs:∀i ys σ H,i<n->Pv i ys σ H->g (.int (lo+i)) σ H fun σ2 H2=>tc σ2 H2 fun b H3=>if b=true then te σ2 H3 fun v H4=>Pv (i+1) (ys++[v]) σ2 H4 else Pv (i+1) ys σ2 H3)
  (hd:∀ys σ H,Pv n ys σ H->∀D,H D=none->Q (.ref D) (upd H D (.lst ys))):Js (Itr lo n) cp g tc te σ H Q:=Wx Pv h0 hz hl hs hd
theorem P6 {a:Addr}{xs:List V}{σ':St}(f:V->V)(e:cp.st σ=none::σ')(hl:SqT K H a xs)(hz:xs.length<sizeLine)(hs:∀x∈xs,∀R:VK,R (f x) H->te (some x::σ') H R)(hd:∀D,H D=none->Q (.ref D) (upd H D (.lst (xs.map f)))):
  Js (Itt K a) cp (Mb 0) N4 te σ H Q:=by
 refine Yo (xs:=xs) (fun i ys σ2 H2=>H2=H/\ys=(xs.take i).map f/\∃o,σ2=o::σ') ⟨rfl,by simp,none,e⟩ hz (fun i ys σ2 H2 hi h=>?_) (fun i x ys σ2 H2 hx h=>?_) (fun ys σ2 H2 h=>?_)
 ·obtain⟨rfl,rfl,_⟩:=h
  exact⟨hl,by rw[List.length_map,List.length_take];omega⟩
 ·obtain⟨rfl,rfl,o,rfl⟩:=h
  refine hs x (List.mem_of_getElem? hx) _ ⟨rfl,?_,some x,rfl⟩
  rw[List.take_add_one,hx];simp
 ·obtain⟨rfl,rfl,_⟩:=h
  rw[List.take_length]
  exact hd
theorem ZW {a:Addr}{xs:List V}{σ':St}(f:V->V)(e:cp.st σ=none::σ')(hl:SqL K H a xs)(hz:xs.length<sizeLine)(hs:∀x∈xs,∀R:VK,R (f x) H->te (some x::σ') H R)(hd:∀D,H D=none->Q (.ref D) (upd H D (.lst (xs.map f)))):
  Js (Itl K a) cp (Mb 0) N4 te σ H Q:=by
 refine ZV (xs:=xs) (fun i ys σ2 H2=>H2=H/\ys=(xs.take i).map f/\∃o,σ2=o::σ') ⟨rfl,by simp,none,e⟩ hz (fun i ys σ2 H2 hi h=>?_) (fun i x ys σ2 H2 hx h=>?_) (fun ys σ2 H2 h=>?_)
 ·obtain⟨rfl,rfl,_⟩:=h
  exact⟨hl,by rw[List.length_map,List.length_take];omega⟩
 ·obtain⟨rfl,rfl,o,rfl⟩:=h
  refine hs x (List.mem_of_getElem? hx) _ ⟨rfl,?_,some x,rfl⟩
  rw[List.take_add_one,hx];simp
 ·obtain⟨rfl,rfl,_⟩:=h
  rw[List.take_length]
  exact hd
end
def tCut (t u:TS):TS:=fun D σ H=>∃R:St->Hp->Prop,t {D with nx:=R} σ H/\∀σ' H',R σ' H'->u D σ' H'
theorem Yp {X:Cx}{st:Stmt}{rest:List Stmt}{t u:TS}(h1:PS X st t)(h2:PSs X rest u):PSs X (st::rest) (tCut t u):=by
 intro pins s σ H D I h
 obtain⟨R,ha,hb⟩:=h
 refine wpAny_execs_cons (thn (h1 pins s σ H {D with nx:=R} I ha) fun f s1 q=>?_)
 cases f with
 |next=>
  obtain⟨σ',H',I',q⟩:=q
  exact h2 pins s1 σ' H' D I' (hb σ' H' q)
 |ret v=>exact q
 |brk=>exact q
 |cont=>exact q
theorem An:1000000<sizeLine:=by rw[sizeLine_eq];decide
theorem J7 {ns:List Int}{x:V}(h:x∈ns.map V.int):∃n,n∈ns/\x=.int n:=by
 obtain⟨n,hn,e⟩:=List.mem_map.mp h
 exact⟨n,hn,e.symm⟩
theorem GP {ns:List Int}{i:Nat}{x:V}(h:(ns.map V.int)[i]?=some x):∃n,ns[i]?=some n/\x=.int n:=by
 rw[List.getElem?_map]at h
 cases e:ns[i]? with
 |none=>rw[e]at h;cases h
 |some n=>rw[e]at h;exact⟨n,rfl,(Option.some.inj h).symm⟩
theorem DB_ {n:Nat}{i:Int}(h0:0<=i)(h1:i<n):ixN n i=some i.toNat:=by
 unfold ixN;rw[if_pos h0,if_pos h1]
theorem Bf_ {α:Type}{xs:List α}{i:Int}{v:α}(h0:0<=i)(h:xs[i.toNat]?=some v):atI xs i=some v:=by
 have:=Bc h
 rwa [show ((i.toNat:Nat):Int)=i by omega]at this
theorem F6 {K:PySem.W.Frag}{t:Value}:PySem.W.kitOne K t t=some true:=by unfold PySem.W.kitOne;rw[if_pos (by simp)]
theorem S2 {K:PySem.W.Frag}:PySem.W.kitOne K (.type "int") (.type "bool")=some false:=by
 first|rfl|decide +kernel|(unfold PySem.W.kitOne;kernel_rfl)
theorem J8 {n:String}:∀u,RelV (V.ty n) u->u=.type n:=fun _ h=>h
end L2
namespace L2
open PySem PySem.W PySem.Spec PySem.Calls PyProof.Rows
section
variable {prog:Program} {w:World} {A:Around} {E:Value->Shared->Prop} {s:Shared} {K:Frag} {x D:Addr} {ox:Obj}
structure ExcCls (K:Frag)(D:Addr):Prop where
 ga:findIn K (.ref D) "__getattribute__"=some (some (.builtin "BaseException.__getattribute__"))
 hk:findIn K (.ref D) "__getattr__"=some none
 cl:(clsIn K D).isSome=true
 ca:findIn K (.ref D) "__class__"=some (some (.builtin "object.__class__"))
 gs:specialIn K (.builtin "object.__class__") "__get__"=some (some (.builtin "getset_descriptor.__get__"))
 tk:takesIn K (.builtin "object.__class__")=some true
 mo:mroIn K D (.type "object")=some true
 mb:mroIn K D (.type "BaseException")=some true
def ExcAt (x D:Addr)(h:Heap):Prop:=∃ox,h.get? x=some ox/\ox.cls=.ref D
theorem ExcAt.type {M:Model}{h:Heap}(I:ExcAt x D h):Looks M h (typeOf (.ref x)) (.ref D):=by
 obtain⟨ox,h1,h2⟩:=I
 exact h2 ▸ (Looks.ld h1).andThen .now
theorem ZX {M:Model}{h:Heap}(X:K.In h)(C:ExcCls K D):Looks M h (Builtin.ObjectAttr.find (.ref x) (.ref D) "__class__") (.bind (.builtin "getset_descriptor.__get__") (.builtin "object.__class__")):=
 (looks_findIn X C.ca).andThen ((show Looks M h (Builtin.ObjectAttr.getOf (some (.builtin "object.__class__"))) _ from looks_specialIn X C.gs).andThen
  ((show Looks M h (Builtin.ObjectAttr.dataDescriptor? (some (.builtin "object.__class__")) (some (.builtin "getset_descriptor.__get__"))) (some (.builtin "getset_descriptor.__get__",.builtin "object.__class__")) from (looks_takesIn X C.tk).andThen .now).andThen (Looks.tag .now)))
open Builtin Builtin.ObjectAttr Builtin.Getset_descriptor in
theorem BU_ {R:Result->Shared->Prop}{tp:Value}(X:K.In s.heap)(I:ExcAt x D s.heap)(hm:mroIn K D (.type "object")=some true)(h:R (.ok (.ret (.ref D))) s):codeAny (model prog w) A (.call (.builtin "getset_descriptor.__get__") ⟨[.builtin "object.__class__",.ref x,tp],[]⟩) R s:=by
 have l0:=I.type (M:=model prog w)
 have l1:=looks_mroIn (M:=model prog w) X hm
 obtain⟨_,_,_,_,_⟩:=s
 have sg:=KF.slot_gs
 refine codeAny_call_builtin sg.plain KF.entry_gs (sg.check _ _ _ _ _ _ _ _ KF.type_class (KF.args_gs _ _ _) ?_)
 unfold Builtin.«getset_descriptor.__get__» descrGet
 rw[dga_obj]
 unfold descrGetter descrCheckInstance isInstance descrNameAndClass
 refine wpAny_bind (wpAny_pure ?_)
 simp only[KF.owner_class]
 repeat lk
 refine⟨Code.quiet_builtin _ (by decide +kernel),codeAny_builtin KF.entry_class ?_⟩
 unfold Builtin.«object.__class__» shownTypeOf
 repeat lk
 exact h
theorem Yq {M:Model}{nameV:Value}{Q:Unit->Shared->Prop}(X:K.In s.heap)(I:ExcAt x D s.heap)(C:ExcCls K D)(hq:Q () s):wpAny M A (checkBuiltinCall "BaseException.__getattribute__" ⟨[.ref x,nameV],[]⟩) Q E s:=by
 have a1:=F.args_bexc_ga (.ref x) nameV
 have l0:=I.type (M:=M)
 have l1:=looks_mroIn (M:=M) X C.mb
 obtain⟨_,_,_,_,_⟩:=s
 simp only[checkBuiltinCall,show builtinKind "BaseException.__getattribute__"=some .slot by decide +kernel,show splitId "BaseException.__getattribute__"=some ("BaseException","__getattribute__") by decide +kernel,isInstance]
 repeat (first|lk|wp_step)
 exact hq
theorem Yr {tk:Tok}{Q:Fin->Shared->Prop}(X:K.In s.heap)(I:ExcAt x D s.heap)(C:ExcCls K D)(hq:Q (.done (.ret (.ref D))) s):wpAny (model prog w) A (Builtin.«object.__getattribute__» ⟨[.ref x,.str "__class__" tk],[]⟩) Q E s:=by
 obtain⟨hh,g,d,t,os⟩:=s
 have L0:=I.type (M:=model prog w)
 have L1:=ZX (M:=model prog w) (x:=x) X C
 unfold Builtin.«object.__getattribute__»
 refine wpAny_bind (wpAny_pure ?_)
 refine wpAny_bind (wpAny_pure ?_)
 refine wpAny_bind (L0.at ?_)
 refine wpAny_bind (L1.at ?_)
 show wpAny _ _ (Builtin.ObjectAttr.bindTo _ _ _ _) _ _ _
 unfold Builtin.ObjectAttr.bindTo
 dsimp only
 refine wpAny_bind (wpAny_holding (wpAny_call (BU_ (K:=K) (s:=⟨hh,g,d,t,os⟩) X I C.mo ?_)))
 exact wpAny_pure hq
theorem Ys {Q:Option Value->Shared->Prop}(X:K.In s.heap)(I:ExcAt x D s.heap)(C:ExcCls K D)(h:Q (some (.ref D)) {s with toks:=s.toks+1}):wpAny (model prog w) A (getAttr? (.ref x) "__class__") Q E s:=by
 obtain⟨hh,g,d,t,os⟩:=s
 have L0:=I.type (M:=model prog w)
 have L1:=looks_findIn (M:=model prog w) X C.ga
 have L2:=looks_findIn (M:=model prog w) X C.hk
 unfold getAttr? getAttrBy? getAttrBy
 refine wpAny_bind (wpAny_mkText (wpAny_bind (wpAny_attempt (wpAny_holding (wpAny_bind (L0.at (wpAny_bind (L1.at ?_))))))))
 show wpAny _ _ (getAttrByItsOwn _ _ _ _ _ _) _ _ _
 unfold getAttrByItsOwn hookBefore
 refine wpAny_bind ?_
 rw[if_pos (by rfl)]
 refine L2.at (wpAny_bind (wpAny_attempt (wpAny_holding ?_)))
 unfold callGetattribute
 rw[if_neg (by decide)]
 unfold boundAndCalled
 have f3:=PySem.F.attr_ValueError.ga.bind (.ref x)
 refine wpAny_bind (wpAny_of_eq f3 ?_)
 refine wpAny_call (codeAny_call_builtin PySem.F.attr_ValueError.ga.plain F.entry_bexc_ga (Yq (K:=K) (s:=⟨hh,g,d,t+1,os⟩) X I C (Yr (K:=K) (s:=⟨hh,g,d,t+1,os⟩) X I C ?_)))
 exact wpAny_pure (wpAny_pure h)
theorem ZY (C:ExcCls K D):KitX K (.ref x) (.ref D) (ExcAt x D):=by
 have cl:=C.cl
 unfold clsIn at cl
 refine⟨fun _ _ _ I=>I.type,fun _ _ X _=>?_,fun h tp dd its n sl X htp=>?_,fun X I k=>Ys X I C k⟩
 ·split at cl
  ·rename_i ho
   intro A' Q' E' s' k q
   exact wpAny_bind (wpAny_loadPart (k _ _ (X _ _ ho)) (wpAny_pure q))
  ·cases cl
 ·split at cl
  ·rename_i ho
   cases hb:(Value.ref D==Value.ref tp) with
   |false=>rfl
   |true=>
    obtain rfl:D=tp:=Value.ref.inj (beq_iff_eq.mp hb)
    cases (X _ _ ho).symm.trans htp
  ·cases cl
end
section
variable {P:Program} {w:World}
theorem Bq.there {H:Hp}{h:Heap}{a:Addr}{o:HO}(x:Bq P w H h a o):∃ob,h.get? a=some ob:=by
 induction o with
 |lst xs=>obtain⟨_,_,_,_,e⟩:=x;exact⟨_,e⟩
 |tup xs=>obtain⟨_,_,_,ob,e,_⟩:=x;exact⟨_,e⟩
 |dK kvs=>obtain⟨_,_,_,_,o,_,_,e,_⟩:=x;exact⟨_,e⟩
 |dT kvs=>obtain⟨_,_,_,_,o,_,_,e,_⟩:=x;exact⟨_,e⟩
 |set S n=>obtain⟨o,_,_,_,e,_⟩:=x;exact⟨_,e⟩
 |ins C dx fs=>obtain⟨_,_,_,e,_⟩:=x;exact⟨_,e⟩
 |own y=>obtain⟨_,e⟩:=x;exact⟨_,e⟩
 |xd fs=>obtain⟨_,⟨_,_,_,e,_⟩,_⟩:=x;exact⟨_,e⟩
 |rng lo hi=>obtain⟨_,_,_,e⟩:=x;exact⟨_,e⟩
 |frz ob u ih=>obtain⟨e,_⟩:=x;exact⟨_,e⟩
 |tbl ps=>exact⟨_,(show h.get? a=some _ from x)⟩
 |met f y=>exact⟨_,(show h.get? a=some _ from x)⟩
 |ext φ=>obtain⟨_,⟨_,e⟩,_⟩:=x;exact⟨_,e⟩
structure Fly (P:Program)(w:World)(fs:List Addr)(H1 H':Hp)(h1 g B:Heap):Prop where
 un:Un fs [] H1 H' h1 g
 hok:HOk P w H' g
 cov:∀b o,g.get? b=some o->(H' b≠none \/ ∃o',h1.get? b=some o')->b∉fs->B.get? b=some o
theorem Fly.move {fs:List Addr}{H1 H':Hp}{h1 g B h2:Heap}(x:Fly P w fs H1 H' h1 g B)(frees:∀b∈fs,H' b=none)(st:B.StaysIn h2)(up:∀b∈fs,∀o,g.get? b=some o->∃sl,h2.get? b=some {o with slots:=sl}):Fly P w fs H1 H' h1 h2 B:=by
 have keep:∀b o,g.get? b=some o->(H' b≠none \/ ∃o',h1.get? b=some o')->b∉fs->h2.get? b=some o:=fun b o e h n=>st b o (x.cov b o e h n)
 have nfs:∀b u,H' b=some u->b∉fs:=fun b u e z=>by rw[frees b z]at e;cases e
 refine⟨⟨fun b o e n hb hx=>?_,fun b o e n hb hx=>?_,fun b o e n hx=>x.un.free b o e n hx,fun b o e hx=>?_,x.un.tups,x.un.frzs,x.un.tbls⟩,fun b u e=>?_,fun b o e h n=>?_⟩
 ·exact keep b o (x.un.keep b o e n hb hx) (.inr ⟨o,e⟩) hb
 ·obtain⟨sl,e1⟩:=x.un.slot b o e n hb hx
  obtain⟨sl',e2⟩:=up b hb _ e1
  exact⟨sl',e2⟩
 ·obtain⟨o',e1⟩:=x.un.there b o e hx
  by_cases hb:b∈fs
  ·obtain⟨sl',e2⟩:=up b hb _ e1
   exact⟨_,e2⟩
  ·exact⟨o',keep b o' e1 (.inr ⟨o,e⟩) hb⟩
 ·refine (x.hok b u e).stay (fun c v hc q=>?_) (fun _ q=>q) fun _ _ q=>q
  rcases hc with rfl|hc
  ·exact keep c v q (.inl (by rw[e];simp)) (nfs c u e)
  ·exact keep c v q (.inl (by rw[hc];simp)) (nfs c _ hc)
 ·-- B has it still
  have ⟨o1,e1⟩:∃o1,g.get? b=some o1:=by
   rcases h with h|⟨o',h⟩
   ·cases q:H' b with
    |none=>exact absurd q h
    |some u=>exact (x.hok b u q).there
   ·exact x.un.there b o' h (by simp)
  have e2:=x.cov b o1 e1 h n
  have e3:=st b o1 e2
  rw[e]at e3
  cases e3
  exact e2
def CXe (P:Program)(w:World):CXT:=fun outer H s E e s'=>∃(ea:Addr) (cls a0:Value) (H':Hp) (B:Heap),e=.ref ea/\s'.os=s.os/\AllBare s'.gens/\Fly P w (frs outer) H H' s.heap s'.heap B/\Heap.FlyingW B outer ea cls a0 s'.heap/\E cls none H'
theorem S3 {X:Cx}{pins:List (Addr×Obj)}{σ:St}{H1 H':Hp}{s1:Shared}{g B:Heap}(I:Inv X pins σ H1 s1)(x:Fly P w (frs X.stack) H1 H' s1.heap g B):∀b∈frs X.stack,H' b=none:=fun b hb=>by
 obtain⟨_,o,ho,_⟩:=I.stack.mem hb
 exact x.un.free b o ho (I.stkFree b hb) (by simp)
theorem BV_ {K:PySem.W.Frag}{mg:Str->Option Value}{base:Heap}{N:List Str}{qual:Str}{scope:Scope}{f:Addr}{cd:Value}{A:Around}{outer:List Env}{s:Shared}{H:Hp}{E E':XK}(hE:∀c d H',E' c d H'->E c d H'):
  SR (CXe P w) (cxOf (CXe P w) P w K mg base N qual scope f cd A outer s H E) E':=by
 intro pins σ H1 s1 e s' I hc
 obtain⟨ea,cls,a0,H',B,rfl,os,bare,fl,fw,q⟩:=hc
 have fr:(cxOf (CXe P w) P w K mg base N qual scope f cd A outer s H E).A.frames=some (envOfC qual scope s.heap.objs.size f cd::outer):=I.ok.frames
 refine wpAny_leaves_onW fr rfl fw fun h' fw' ups=>?_
 have fl2:=fl.move (S3 I fl) fw'.1 (fun b hb o e=>by
  obtain⟨_,o',ho',nf⟩:=fw.2.2.1.mem hb
  rw[e]at ho';cases ho'
  exact ups b o e nf)
 have I2:Inv (cxOf (CXe P w) P w K mg base N qual scope f cd A outer s H E) pins σ H' {s' with heap:=h' }:=I.call' (s':={s' with heap:=h' }) os fl2.un fl2.hok bare (fun b hb=>by cases hb)
 refine⟨ea,cls,a0,H',B,rfl,I2.os,I2.bare,⟨I2.base,I2.hok,fun b o e h n=>fl2.cov b o e ?_ (fun z=>?_)⟩,fw',hE _ _ _ q⟩
 ·rcases h with h|⟨o',h⟩
  ·exact .inl h
  ·obtain⟨o2,e2⟩:=I.base.there b o' h (by show b∉([]:List Addr);simp)
   exact .inr ⟨o2,e2⟩
 ·rcases List.mem_cons.mp (I.stkSub b z) with e' | e'
  ·rcases h with h|⟨o',h⟩
   ·exact h (by rw[e'];exact I2.free)
   ·have:=Heap.lt_size h
    rw[e']at this
    exact absurd (Nat.lt_of_lt_of_le this I.ok.above) (Nat.lt_irrefl _)
  ·exact n e'
theorem DC_ {K:PySem.W.Frag}{mg:Str->Option Value}{base:Heap}{N:List Str}{qual:Str}{scope:Scope}{f:Addr}{cd:Value}{A:Around}{outer:List Env}{s:Shared}{H:Hp}{E:XK}
  {pins:List (Addr×Obj)} {σ:St} {H1:Hp} {s1:Shared} {h':Heap} {ea:Addr} {cls:Value} {vs:List Value}
  (I:Inv (cxOf (CXe P w) P w K mg base N qual scope f cd A outer s H E) pins σ H1 s1) (hx:Heap.MadeExcOf s1.heap h' ea cls vs) (q:E cls none H1):
  (cxOf (CXe P w) P w K mg base N qual scope f cd A outer s H E).xe (.ref ea) {s1 with heap:=h' }:=by
 have fr:(cxOf (CXe P w) P w K mg base N qual scope f cd A outer s H E).A.frames=some (envOfC qual scope s.heap.objs.size f cd::outer):=I.ok.frames
 have hin:∀env∈(envOfC qual scope s.heap.objs.size f cd::outer),∀b,env.frame=some b->b∈frs (envOfC qual scope s.heap.objs.size f cd::outer):=fun env he b hb=>List.mem_filterMap.mpr ⟨env,he,hb⟩
 have stk:=I.stack
 have fl:Fly P w (frs (envOfC qual scope s.heap.objs.size f cd::outer)) H1 H1 s1.heap s1.heap (PySem.W.hideAll s1.heap (frs (envOfC qual scope s.heap.objs.size f cd::outer))):=⟨Un.refl,I.hok,fun b o e _ n=>PySem.W.hideAll_get _ e n⟩
 refine wpAny_leaves_madeW (base:=PySem.W.hideAll s1.heap (frs (envOfC qual scope s.heap.objs.size f cd::outer))) (h:=s1.heap) fr rfl (fun b o q=>PySem.W.of_hideAll _ q) ?_ hx fun h'' t fw' ht hnt ups=>?_
 ·exact PySem.W.funFrames_hide stk hin
 ·have fl2:=fl.move (S3 (X:=cxOf (CXe P w) P w K mg base N qual scope f cd A outer s H E) I fl) fw'.1 (fun b hb o e=>by
   obtain⟨_,o',ho',nf⟩:=stk.mem hb
   rw[e]at ho';cases ho'
   exact ups b o (hx.keeps b o e) nf)
  have I2:Inv (cxOf (CXe P w) P w K mg base N qual scope f cd A outer s H E) pins σ H1 {s1 with heap:=h'' }:=I.call' (s':={s1 with heap:=h'' }) rfl fl2.un fl2.hok I.bare (fun b hb=>by cases hb)
  refine⟨ea,cls,.ref t,H1,_,rfl,I2.os,I2.bare,⟨I2.base,I2.hok,fun b o e h n=>fl2.cov b o e ?_ (fun z=>?_)⟩,fw',q⟩
  ·rcases h with h|⟨o',h⟩
   ·exact .inl h
   ·obtain⟨o2,e2⟩:=I.base.there b o' h (by show b∉([]:List Addr);simp)
    exact .inr ⟨o2,e2⟩
  ·rcases List.mem_cons.mp (I.stkSub b z) with e' | e'
   ·rcases h with h|⟨o',h⟩
    ·exact h (by rw[e'];exact I2.free)
    ·have:=Heap.lt_size h
     rw[e']at this
     exact absurd (Nat.lt_of_lt_of_le this I.ok.above) (Nat.lt_irrefl _)
   ·exact n e'
end
theorem BW_ {K:Frag}{h:Heap}{C:Addr}{bmB:List Value}{newId:String}(X:K.In h)(q:excIn K C bmB newId=true):
  ∃bm N nm q bs hdct sn sub ab col dd k0 k1 k2 k3 k5 mN,h.get? C=some (excClassObj nm q C N bs bm hdct sn sub ab col dd k0 k1 k2 k3 k5 newId)/\h.Ns N mN/\mN "__init__"=none/\OwnTail h bmB bm:=by
 unfold excIn at q
 split at q
 case h_2=>cases q
 rename_i d0 c0 s0 hl
 split at q
 case h_2=>cases q
 rename_i B tl a0 a1 a2 a3 id0 a5 em es
 have g:=X C _ hl
 repeat rw[Bool.and_eq_true]at q
 rcases q with ⟨⟨⟨⟨⟨e1,e2⟩,e3⟩,e4⟩,e5⟩,e6⟩
 cases eq_of_beq e1
 cases eq_of_beq e2
 rcases s0 with ⟨l0⟩
 cases es
 rcases c0 with ⟨f0,f1,f2,f3,f4,f5,f6,f7,f8,f9,f10⟩
 cases em
 cases f10
 ·exact⟨tl,f3,f0,f4,f1,f5,f6,f7,f8,f9,d0,a0,a1,a2,a3,a5,h.nsMap f3,g,.of_isNs (isNs_of_in X e5),nsMap_none_of_in X e5 (eq_of_beq e6),tail_of_in X e4⟩
 ·cases e3
def bmV:List Value:=[.type "ValueError",.type "Exception",.type "BaseException",.type "object"]
section
variable {P:Program} {w:World} {K:PySem.W.Frag} {mg:Str->Option Value} {base:Heap} {N:List Str} {qual:Str} {scope:Scope} {f:Addr} {cd:Value} {A:Around} {outer:List Env} {s:Shared} {H:Hp} {E:XK}
def Bg_ (C:Addr)(E:XK)(ta:TA):TS:=fun _ σ H=>ta σ H fun vs H1=>vs.length<=sizeLine/\E (.ref C) none H1
theorem VO {x:Str}{C:Addr}{newId:String}{np cpos pos:Pos}{e₀:Expr}{rest:List Expr}{ta:TA}(hm:mg x=some (.ref C))(hx:excIn K C bmV newId=true)(hg:Gl (cxOf (CXe P w) P w K mg base N qual scope f cd A outer s H E) x)
  (hn:newId = "ValueError.__new__") (ha:PA (cxOf (CXe P w) P w K mg base N qual scope f cd A outer s H E) (e₀::rest) ta)
  (he:starEach (e₀::rest) (cxOf (CXe P w) P w K mg base N qual scope f cd A outer s H E).env=(false,eval e₀ (cxOf (CXe P w) P w K mg base N qual scope f cd A outer s H E).env)::starEach rest (cxOf (CXe P w) P w K mg base N qual scope f cd A outer s H E).env:=by rfl)
  (hplain:(backTo cpos (starEach rest (cxOf (CXe P w) P w K mg base N qual scope f cd A outer s H E).env)).any (·.1)=false:=by rfl) (hd:(x==("__debug__" : Str))=false:=by decide):
  PS (cxOf (CXe P w) P w K mg base N qual scope f cd A outer s H E) (.Raise (some (.Call (.Name x np) (e₀::rest) [] cpos)) none pos) (Bg_ C E ta):=by
 intro pins s1 σ H1 D I h
 subst hn
 obtain⟨bm,Nc,nm,q,bs,hdct,sn,sub,ab,col,dd,k0,k1,k2,k3,k5,mN,hC,hN,hni,T⟩:=BW_ I.mod.kin hx
 refine wpAny_Raise_call_subU (C:=C) (nm:=nm) (q:=q) (N:=Nc) (bs:=bs) (bm:=bm) (hdct:=hdct) (sn:=sn) (sub:=sub) (ab:=ab) (col:=col) (dd:=dd) (k0:=k0) (k1:=k1) (k2:=k2) (k3:=k3) (k5:=k5)
  PySem.F.excBase_ValueError (bmB:=bmV) (by decide +kernel) PySem.F.excBase_ValueError (mN:=mN) (T.hasType PySem.F.excBase_ValueError.hasBase) (I.ok.hd rfl) (by rw[he];show (false||(backTo cpos (starEach rest _)).any (·.1))=false;rw[hplain];rfl) hni (XQ I hg hm ⟨rfl,?_⟩ hd)
 have hA:=ha cpos pins s1 σ H1 _ I h
 rw[he]at hA ⊢
 refine Calls.evalArgs_plain (thn hA fun us s2 ⟨vs,H2,I2,r2,hz,q2⟩=>⟨rfl,by rw[<-r2.length];exact hz,I2.bk _ _ hC,hN.keeps I2.bk,T.keeps I2.bk,fun h' e hm=>DC_ I2 hm q2⟩)
end
end L2
namespace L2
open PySem PySem.Spec PyProof.Rows
def excO (ea C:Addr):HO:=.ext (ExcAt ea C)
theorem S4 {X:Cx}:HH X (.builtin "isinstance") (fun xs H Q=>∃ea C c cv b,xs=[.ref ea,c]/\H ea=some (excO ea C)/\ExcCls X.K C/\(∀u,RelV c u->u=cv)/\PySem.W.kitOne X.K (.ref C) cv=some b/\Q (.bl b) H):=by
 intro pins s σ H xs us Q I r h
 obtain⟨ea,C,c,cv,b,rfl,hea,hC,hc,hk,q⟩:=h
 obtain⟨u,w',rfl,rx,rc⟩:=vals2 r
 rw[hc _ rc]
 cases rx
 obtain⟨p,_,_⟩:=(show Bq X.prog X.w H s.heap ea (.ext (ExcAt ea C)) from I.hok ea _ hea)
 exact PySem.W.kia_one (ZY hC) I.kIn p hk (fun z=>nomatch z) fun tk=>⟨.bl b,H,I.tok tk,rfl,q⟩
end L2
namespace HT
open PySem PySem.Spec PyProof.Rows
open PySem.AutoSeq1 (wpAny_loadPart')
section
open PySem.SeqAt PySem.MeetsSeq PySem.MeetsSeq2 PySem.MeetsSeq3
theorem int_rmul_tup (a:Int)(t:Tok)(l:Addr)(items:Array Value)(n:Nat)(dd:Option Addr)(sl:Array (Option Value)):
  Meets (Builtin.«int.__rmul__» ⟨[.int a t,.ref l],[]⟩) (fun _ R s=>s.heap.get? l=some {cls:=.type "tuple",dict:=dd,data:=.seq items n,slots:=sl}/\R (.ok (.ret Value.notImplemented)) s):=
 .of_wp fun prog w A R s h=>by obtain⟨hp,g,d,tk,os⟩:=s;obtain⟨hl,h⟩:=h;wp_walk using wpAny_loadPart' hl;exact⟨_,rfl,h⟩
theorem noFill_tuple_mul:fillsNumberSlot (.type "tuple") "mul"=pure false:=by
 first|exact fillsNumberSlot_false (by decide +kernel)|(unfold fillsNumberSlot;kernel_rfl)|kernel_rfl
theorem repeat_tuple:seqRepeat? (.type "tuple")=pure (some (.builtin "tuple.__mul__")):=by
 unfold seqRepeat?
 rw[PySem.seqSlot_of (T := "tuple") (name := "__mul__") (id := "tuple.__mul__") F.slot_tuple_mul.lookup (by decide +kernel),PySem.seqSlot_of (T := "tuple") (name := "__rmul__") (id := "tuple.__rmul__") F.slot_tuple_rmul.lookup (by decide +kernel)]
 rfl
theorem tup_mul_one (l:Addr)(items:Array Value)(n:Nat)(dd:Option Addr)(sl:Array (Option Value))(u:Tok):
  Meets (Builtin.«tuple.__mul__» ⟨[.ref l,.int 1 u],[]⟩) (fun _ R s=>s.heap.get? l=some {cls:=.type "tuple",dict:=dd,data:=.seq items n,slots:=sl}/\R (.ok (.ret (Value.ref l))) s):=
 .of_wp fun prog w A R s h=>by
  obtain⟨hp,g,d,tk,os⟩:=s;obtain⟨hl,h⟩:=h
  have f1:=AutoSeq1.idx_int
  unfold Builtin.«tuple.__mul__»
  wp_walk using wpAny_loadPart' hl
  exact⟨_,rfl,h⟩
theorem tup_mul_none (l:Addr)(items:Array Value)(n:Nat)(dd:Option Addr)(sl:Array (Option Value))(x:Int)(u:Tok)(h0:¬ items.isEmpty=true)(h1:x<=0)(h2 : -(2 ^ 63)<=x):
  Meets (Builtin.«tuple.__mul__» ⟨[.ref l,.int x u],[]⟩) (fun _ R s=>s.heap.get? l=some {cls:=.type "tuple",dict:=dd,data:=.seq items n,slots:=sl}/\R (.ok (.ret (Value.ref s.heap.objs.size))) {s with heap:=s.heap.push {cls:=.type "tuple",data:=.seq #[]} }):=
 .of_wp fun prog w A R s h=>by
  obtain⟨hp,g,d,tk,os⟩:=s;obtain⟨hl,h⟩:=h
  have f1:=AutoSeq1.idx_int
  have c1:(decide (x < -(2 ^ 63:Int))||decide (x >= 2 ^ 63))=false:=by simp;omega
  have c2:(items.isEmpty||x==1)=false:=by simp at h0 ⊢;exact⟨h0,by omega⟩
  have c3:(decide (x<=0)||items.isEmpty)=true:=by simp[h1]
  unfold Builtin.«tuple.__mul__»
  wp_walk using wpAny_loadPart' hl
  rw[if_neg (by rw[c1];exact Bool.false_ne_true)]
  wp_walk using wpAny_loadPart' hl
  rw[if_neg (by rw[c2];exact Bool.false_ne_true)]
  rw[if_pos c3]
  wp_walk using wpAny_loadPart' hl
  exact⟨_,rfl,h⟩
theorem tup_mul_many (l:Addr)(items:Array Value)(n:Nat)(dd:Option Addr)(sl:Array (Option Value))(x:Int)(u:Tok)(h0:¬ items.isEmpty=true)(h1:1<x)(h2:x<2 ^ 63)(h3:items.size*x.toNat<=sizeLine):
  Meets (Builtin.«tuple.__mul__» ⟨[.ref l,.int x u],[]⟩) (fun _ R s=>s.heap.get? l=some {cls:=.type "tuple",dict:=dd,data:=.seq items n,slots:=sl}/\R (.ok (.ret (Value.ref s.heap.objs.size))) {s with heap:=s.heap.push {cls:=.type "tuple",data:=.seq ((List.replicate x.toNat items).foldl (· ++ ·) #[])} }):=
 .of_wp fun prog w A R s h=>by
  obtain⟨hp,g,d,tk,os⟩:=s;obtain⟨hl,h⟩:=h
  have f1:=AutoSeq1.idx_int
  have hs:sizeLine=16777216:=sizeLine_eq
  have c1:(decide (x < -(2 ^ 63:Int))||decide (x >= 2 ^ 63))=false:=by simp;omega
  have c2:(items.isEmpty||x==1)=false:=by simp at h0 ⊢;exact⟨h0,by omega⟩
  have c3:(decide (x<=0)||items.isEmpty)=false:=by simp at h0 ⊢;exact⟨by omega,h0⟩
  obtain⟨k,rfl⟩:∃k:Nat,x=(k:Int):=⟨x.toNat,by omega⟩
  have c4:¬ ((items.size:Int)*(k:Int) > (2 ^ 63-1) / 8):=by
   rw[Int.toNat_natCast]at h3
   have:((items.size*k:Nat):Int)=(items.size:Int)*(k:Int):=by push_cast;rfl
   omega
  have c5:Builtin.Tuple.tupleTooMany ((items.size:Int)*(k:Int))=false:=by
   unfold Builtin.Tuple.tupleTooMany
   rw[Int.toNat_natCast]at h3
   have:((items.size*k:Nat):Int)=(items.size:Int)*(k:Int):=by push_cast;rfl
   simp
   omega
  unfold Builtin.«tuple.__mul__»
  wp_walk using wpAny_loadPart' hl
  rw[if_neg (by rw[c1];exact Bool.false_ne_true)]
  wp_walk using wpAny_loadPart' hl
  rw[if_neg (by rw[c2];exact Bool.false_ne_true)]
  rw[if_neg (by rw[c3];exact Bool.false_ne_true),if_neg c4,if_neg (by rw[c5];exact Bool.false_ne_true)]
  wp_walk using wpAny_loadPart' hl
  have hz:¬ (List.foldl (fun x1 x2=>x1++x2) #[] (List.replicate ((k:Int)).toNat items)).size > sizeLine:=by
   have:=L2.foldl_rep items.toList k []
   rw[List.nil_append]at this
   have e:items.toList.toArray=items:=by simp
   rw[e]at this
   rw[Int.toNat_natCast,this,List.size_toArray,L2.len_rep]
   rw[Int.toNat_natCast]at h3
   rw[Array.length_toList,Nat.mul_comm]
   omega
  rw[if_neg hz]
  wp_walk using wpAny_loadPart' hl
  exact⟨_,rfl,h⟩
end
end HT
namespace L2
open PySem PySem.Spec PyProof.Rows
section
variable {X:Cx}
def P7 (K:PySem.W.Frag):R2:=fun x y H Q=>∃l k xs,x=.ref l/\y=.int k/\SqT K H l xs/\xs ≠ [] /\ -(2 ^ 63)<=k/\k<2 ^ 63/\xs.length*k.toNat<=sizeLine /\
 (k=1->Q (.ref l) H)/\(k≠1->∀p,H p=none->Q (.ref p) (upd H p (.tup (List.replicate k.toNat xs).flatten)))
theorem P8:OpR X (binaryOp .Mult) (P7 X.K):=by
 intro pins s σ H x y v u Q I rx ry h
 obtain⟨l,k,xs,rfl,rfl,hq,hne,h1,h2,hz,q1,q2⟩:=h
 cases rx
 obtain⟨t,rfl⟩:=ry
 obtain⟨its,r,p1,_⟩:=I.tuple hq
 have hlen:=r.length
 have hn':¬ its.toArray.isEmpty=true:=by
  intro z
  have:its=[]:=by simpa using z
  exact hne (r.nil_iff.mp this)
 obtain⟨⟨cls,dd,data,sl⟩,ho,hc,n,hd⟩:=id p1
 simp only at hc hd
 subst hc hd
 refine wpAny_binaryOp_repeat_ref (T := "tuple") (U := "int") (by decide) ⟨_,ho,rfl⟩ (fun s'=>typeIs_int s' k t) HT.noFill_tuple_mul F.fills_int_mul F.slot_int_rmul HT.repeat_tuple F.slot_int_index.lookup
  (call_meets F.slot_int_rmul (typeIs_int s k t) F.entry_int_rmul (F.args_int_rmul_2 _ _) (HT.int_rmul_tup k t l its.toArray n dd sl) ⟨ho,rfl,⟨_,ho,rfl⟩,?_⟩)
 by_cases k1:k=1
 ·subst k1
  exact call_meets F.slot_tuple_mul ⟨_,ho,rfl⟩ F.entry_tuple_mul (F.args_tuple_mul_2 _ _) (HT.tup_mul_one l its.toArray n dd sl t) ⟨ho,⟨.ref l,H,I,rfl,q1 rfl⟩⟩
 ·have fin:∀(ys:List Value),Vals (List.replicate k.toNat xs).flatten ys->EP X pins σ Q (.ref s.heap.objs.size) {s with heap:=s.heap.push {cls:=.type "tuple",data:=.seq ys.toArray} }:=fun ys rv=>
   ⟨.ref s.heap.objs.size,_,I.laid (t':=s.toks) (o:=.tup (List.replicate k.toNat xs).flatten) (fun b ob q=>Heap.get?_push_of_some _ q) (Nat.le_refl _) ⟨by rw[len_rep,Nat.mul_comm];exact hz,_,rv,IsTup.new _ _⟩,rfl,q2 k1 _ (I.hok.fresh (Nat.le_refl _))⟩
  by_cases k0:k<=0
  ·refine call_meets F.slot_tuple_mul ⟨_,ho,rfl⟩ F.entry_tuple_mul (F.args_tuple_mul_2 _ _) (HT.tup_mul_none l its.toArray n dd sl k t hn' k0 h1) ⟨ho,?_⟩
   exact fin [] (by rw[show k.toNat=0 by omega];exact .nil)
  ·refine call_meets F.slot_tuple_mul ⟨_,ho,rfl⟩ F.entry_tuple_mul (F.args_tuple_mul_2 _ _) (HT.tup_mul_many l its.toArray n dd sl k t hn' (by omega) h2 (by rw[List.size_toArray,<-hlen];exact hz)) ⟨ho,?_⟩
   have e:=foldl_rep its k.toNat []
   rw[List.nil_append]at e
   have e':List.foldl (fun x1 x2=>x1++x2) #[] (List.replicate k.toNat its.toArray)=(List.replicate k.toNat its).flatten.toArray:=e
   rw[e']
   exact fin _ (r.rep k.toNat)
def Dv (K:PySem.W.Frag):R2:=fun x y H Q=>∃a b xs ys,x=.ref a/\y=.ref b/\SqT K H a xs/\SqT K H b ys/\xs.length+ys.length<=sizeLine /\
 (xs=[]->Q (.ref b) H)/\(xs ≠ []->ys=[]->Q (.ref a) H)/\(xs ≠ []->ys ≠ []->∀p,H p=none->Q (.ref p) (upd H p (.tup (xs++ys))))
theorem Dp:OpR X (binaryOp .Add) (Dv X.K):=by
 intro pins s σ H x y v u Q I rx ry h
 obtain⟨a,b,xs,ys,rfl,rfl,ha,hb,hz,q0,q1,q2⟩:=h
 by_cases hx:xs=[]
 ·subst hx
  cases rx
  cases ry
  obtain⟨its,r1,p1,_⟩:=I.tuple ha
  obtain⟨its2,r2,p2,_⟩:=I.tuple hb
  have:its=[]:=r1.nil_iff.mpr rfl
  subst this
  obtain⟨⟨cls,dd,data,sl⟩,ho,hc,n,hd⟩:=id p1
  obtain⟨⟨cls2,dd2,data2,sl2⟩,ho2,hc2,n2,hd2⟩:=id p2
  simp only at hc hd hc2 hd2
  subst hc hd hc2 hd2
  exact concat_meets ⟨_,ho,rfl⟩ ⟨_,ho2,rfl⟩ noFill_tuple_add seq_tuple_add PySem.F.slot_tuple_add PySem.F.entry_tuple_add (PySem.F.args_tuple_add_2 _ _)
   (PyProof.Rows.tuple_addW0 a b _ _ n n2 dd dd2 sl sl2 rfl) ⟨ho,ho2,⟨.ref b,H,I,rfl,q0 rfl⟩⟩
 ·exact BL_ pins s σ H _ _ v u Q I rx ry ⟨a,b,xs,ys,rfl,rfl,ha,hb,hx,hz,q1 hx,q2 hx⟩
end
theorem Yt {c:TT}{tb:TS}{D:Ends}{σ:St}{H:Hp}(Pv:Nat->St->Hp->Prop)(h0:∃m,Pv m σ H)
  (hs:∀m σ H,Pv m σ H->c σ H fun b H1=>if b=true then ∃N:St->Hp->Prop,(∀σ' H',N σ' H'->∃m',m'<m/\Pv m' σ' H')/\tb {D with nx:=N,ct:=N,bk:=D.nx} σ H1 else D.nx σ H1):AL_ c tb D σ H:=⟨Pv,h0,hs⟩
section
variable {K:PySem.W.Frag} {H:Hp} {Q:VK}
theorem P7.of {l:Addr}{k:Int}{xs:List V}(hq:SqT K H l xs)(hne:xs ≠ [])(h1 : -(2 ^ 63)<=k)(h2:k<2 ^ 63)(hz:xs.length*k.toNat<=sizeLine)(h:∀p H',Same H H'->SqT K H' p (List.replicate k.toNat xs).flatten->Q (.ref p) H'):P7 K (.ref l) (.int k) H Q:=by
 refine⟨l,k,xs,rfl,rfl,hq,hne,h1,h2,hz,fun e=>?_,fun _ p hp=>h p _ (Same.new hp) (SqT.of Ac)⟩
 subst e
 exact h l H (Same.refl _) (by simpa using hq)
theorem Dv.of {a b:Addr}{xs ys:List V}(ha:SqT K H a xs)(hb:SqT K H b ys)(hz:xs.length+ys.length<=sizeLine)(h:∀p H',Same H H'->SqT K H' p (xs++ys)->Q (.ref p) H'):Dv K (.ref a) (.ref b) H Q:=by
 refine⟨a,b,xs,ys,rfl,rfl,ha,hb,hz,fun e=>?_,fun _ e=>?_,fun _ _ p hp=>h p _ (Same.new hp) (SqT.of Ac)⟩
 ·subst e;exact h b H (Same.refl _) (by simpa using hb)
 ·subst e;exact h a H (Same.refl _) (by simpa using ha)
end
theorem DD_ {K:PySem.W.Frag}{H:Hp}{Q:VK}{x:V}{lo hi:Option Int}:rSlT K x lo hi H Q=∃a xs,x=.ref a/\SqT K H a xs /\
 ¬ (HT.sIx xs.length 0 lo=0/\HT.sIx xs.length xs.length hi=xs.length)/\∀p,H p=none->Q (.ref p) (upd H p (.tup (cutV xs lo hi))):=rfl
inductive TyW (K:PySem.W.Frag)(H:Hp):V->Value->Prop where
 | non:TyW K H .non (.type "NoneType")
 | bl (x:Bool):TyW K H (.bl x) (.type "bool")
 | int (i:Int):TyW K H (.int i) (.type "int")
 | str (x:Str):TyW K H (.str x) (.type "str")
 | lst {a:Addr} {xs:List V} (e:SqL K H a xs):TyW K H (.ref a) (.type "list")
 | tup {a:Addr} {xs:List V} (e:SqT K H a xs):TyW K H (.ref a) (.type "tuple")
 | exc {a C:Addr} (e:H a=some (excO a C)) (c:ExcCls K C):TyW K H (.ref a) (.ref C)
theorem BO {X:Cx}:HH X (.builtin "isinstance") (fun xs H Q=>∃x c cv t b,xs=[x,c]/\TyW X.K H x t/\(∀u,RelV c u->u=cv)/\PySem.W.kitOne X.K t cv=some b/\Q (.bl b) H):=by
 intro pins s σ H xs us Q I r h
 obtain⟨x,c,cv,t,b,rfl,ty,hc,hk,q⟩:=h
 cases ty with
 |non=>exact GO pins s σ H _ us Q I r ⟨_,c,cv,_,b,rfl,.non,hc,hk,q⟩
 |bl y=>exact GO pins s σ H _ us Q I r ⟨_,c,cv,_,b,rfl,.bl y,hc,hk,q⟩
 |int y=>exact GO pins s σ H _ us Q I r ⟨_,c,cv,_,b,rfl,.int y,hc,hk,q⟩
 |str y=>exact GO pins s σ H _ us Q I r ⟨_,c,cv,_,b,rfl,.str y,hc,hk,q⟩
 |exc e hC=>exact S4 pins s σ H _ us Q I r ⟨_,_,c,cv,b,rfl,e,hC,hc,hk,q⟩
 |@lst a xs e=>
  obtain⟨u,w',rfl,rx,rc⟩:=vals2 r
  rw[hc _ rc]
  cases rx
  obtain⟨its,_,pl,_⟩:=I.list e
  obtain⟨o,ho,hcl,_⟩:=pl.isList
  exact PySem.W.kia_one PySem.W.kitx_list I.kIn ⟨o,ho,hcl⟩ hk (fun z=>nomatch z) fun tk=>⟨.bl b,H,I.tok tk,rfl,q⟩
 |@tup a xs e=>
  obtain⟨u,w',rfl,rx,rc⟩:=vals2 r
  rw[hc _ rc]
  cases rx
  obtain⟨its,_,⟨o,ho,hcl,_⟩,_⟩:=I.tuple e
  exact PySem.W.kia_one PySem.W.kitx_tuple I.kIn ⟨o,ho,hcl⟩ hk (fun z=>nomatch z) fun tk=>⟨.bl b,H,I.tok tk,rfl,q⟩
end L2
namespace GW
def Ci (L:Int):List Int->Int
 |[]=>0
 |x::r=>Ci L r*L+x+1
def place (L:Int)(w:List Int):Int:=Ci L w.reverse
def inW (L x:Int):Bool:=decide (0<=x)&&decide (x<L)
def isW (L:Int)(ws:List Int):Bool:=ws.all (inW L)
theorem BX_ {L x:Int}:inW L x=true↔0<=x/\x<L:=by simp[inW]
theorem AB {L:Int}{ws:List Int}:isW L ws=true ↔ ∀x∈ws,0<=x/\x<L:=by simp[isW,BX_]
theorem MT (L:Int):place L []=0:=rfl
def many (L:Int):Nat->Int
 |0=>0
 |k+1=>many L k*L+1
theorem DC {L:Int}(hL:0<L):∀k,0<=many L k
 |0=>Int.le_refl _
 |k+1=>by
  have:=Int.mul_nonneg (DC hL k) (Int.le_of_lt hL)
  show 0<=many L k*L+1
  omega
theorem Fo {L:Int}(hL:0<L):∀{l:List Int},(∀x∈l,0<=x/\x<L)->many L l.length<=Ci L l/\Ci L l<many L (l.length+1)
 |[],_=>by simp[Ci,many]
 |x::r,h=>by
  have hx:=h x List.mem_cons_self
  obtain⟨h1,h2⟩:=Fo hL (l:=r) fun y hy=>h y (List.mem_cons_of_mem _ hy)
  show many L r.length*L+1<=Ci L r*L+x+1/\Ci L r*L+x+1<many L (r.length+1)*L+1
  have a1:=Int.mul_le_mul_of_nonneg_right h1 (Int.le_of_lt hL)
  have a2:=Int.mul_le_mul_of_nonneg_right (show Ci L r+1<=many L (r.length+1) by omega) (Int.le_of_lt hL)
  rw[Int.add_mul]at a2
  omega
theorem EZ {L:Int}(hL:0<L){w:List Int}(h:isW L w=true):many L w.length<=place L w/\place L w<many L (w.length+1):=by
 have:=Fo hL (l:=w.reverse) (fun x hx=>AB.mp h x (List.mem_reverse.mp hx))
 rw[List.length_reverse]at this
 exact this
theorem Yu {L:Int}(hL:0<L){j k:Nat}(h:j<=k):many L j<=many L k:=by
 induction h with
 |refl=>exact Int.le_refl _
 |step _ ih=>
  rename_i m _
  refine Int.le_trans ih ?_
  show many L m<=many L m*L+1
  have:many L m*1<=many L m*L:=Int.mul_le_mul_of_nonneg_left (by omega) (DC hL m)
  omega
theorem Gy (L:Int)(w:List Int)(x:Int):place L (w++[x])=place L w*L+x+1:=by
 unfold place
 rw[List.reverse_append];rfl
end GW
namespace L2
open PySem PySem.Spec PyProof.Rows
section
variable {P:Program} {w:World} {K:PySem.W.Frag} {mg:Str->Option Value} {base:Heap}
theorem Fun.okE {x qual:Str}{st:Stmt}{f:Addr}{fd:FuncData}{N ps:List Str}{k:Nat}{sp:Sp}(F:Fun K x qual st f fd)(S:FnScope N ps (Ae st))(len:∀vs H Q E,sp vs H Q E->vs.length=ps.length)
  (hbody:∀(cdv:Value) (A:Around) (outer:List Env) (s:Shared) (H:Hp) (vs:List V) (Q:VK) (E:XK),Room k (A.deeper (envOfC qual (Ae st) s.heap.objs.size f cdv))->sp vs H Q E ->
   ∃t,PSs (cxOf (CXe P w) P w K mg base N qual (Ae st) f cdv A outer s H E) (Ao st) t/\t {nx:=fun _ H'=>Q .non H',rt:=Q} (start N vs) H):FnOk P w K mg base (CXe P w) (k+1) f fd ps sp:=by
 obtain⟨oc,od,kV,doc,pm,an,cdv,ct,osl,rfl,lk,hcd⟩:=F.ex
 exact CX_ lk hcd S len fun A outer s H vs Q E hr hsp=>hbody cdv A outer s H vs Q E hr hsp
theorem Yv {X:Cx}:SR (CXe P w) X E0:=fun _ _ _ _ _ _ _ h=>by
 obtain⟨_,_,_,_,_,_,_,_,_,_,q⟩:=h
 exact q.elim
end
section
variable {te ta tb:TE} {A:TA} {D:Ends} {σ:St} {H:Hp} {Q:VK} {K:PySem.W.Frag} {tbd ts:TS}
theorem VP {x:V}{vs:List V}:X9 x vs H Q=∃l b xs zs,x=.ref l/\vs=[.ref b]/\H l=some (.lst xs)/\H b=some (.lst zs)/\xs.length+zs.length<=sizeLine/\Q .non (upd H l (.lst (xs++zs))):=rfl
theorem DE_ {x y:V}:rCat x y H Q=∃l b xs zs,x=.ref l/\y=.ref b/\H l=some (.lst xs)/\H b=some (.lst zs)/\xs.length+zs.length<=sizeLine/\∀p,H p=none->Q (.ref p) (upd H p (.lst (xs++zs))):=rfl
theorem Yw {C:Addr}{E:XK}:Bg_ C E A D σ H=A σ H fun vs H1=>vs.length<=sizeLine/\E (.ref C) none H1:=rfl
end
end L2
namespace L2
open PySem PySem.Spec PyProof.Rows
theorem BY_ (x y:Int):eqV (.int x) (.int y)=decide (V.int x=V.int y):=by
 by_cases h:x=y
 ·subst h;simp[eqV]
 ·rw[decide_eq_false (fun z=>h (by injection z))];simp[eqV,h]
theorem EqD.ints {K:PySem.W.Frag}{H:Hp}{a c:Addr}{xs ys:List Int}(hq:(SqL K H a (xs.map V.int)/\SqL K H c (ys.map V.int))\/(SqT K H a (xs.map V.int)/\SqT K H c (ys.map V.int)))(n:Nat):EqD K H (n+1) (.ref a) (.ref c) (decide (xs=ys)):=by
 have:=EqD.flat hq (fun x hx=>by obtain⟨_,_,rfl⟩:=J7 hx;rfl) (fun x hx=>by obtain⟨_,_,rfl⟩:=J7 hx;rfl) (fun x hx y hy=>by obtain⟨_,_,rfl⟩:=J7 hx;obtain⟨_,_,rfl⟩:=J7 hy;exact BY_ _ _) n
 have e:decide (xs.map V.int=ys.map V.int)=decide (xs=ys):=by
  rw[Bool.eq_iff_iff]
  simp only[decide_eq_true_eq]
  constructor
  ·intro h
   exact (List.map_inj_right (fun a b h=>by injection h)).mp h
  ·intro h;rw[h]
 rw[e]at this
 exact this
end L2
namespace GW
def Yx (L:Int)(back:List Int)(rest:Int):Int:=back.foldr (fun x acc=>acc*L+x+1) rest
theorem MU (L:Int):∀l:List Int,Yx L l 0=Ci L l
 |[]=>rfl
 |x::r=>by
  show Yx L r 0*L+x+1=Ci L r*L+x+1
  rw[MU L r]
end GW
namespace L2
open PySem PySem.Spec PyProof.Rows
def iSeq (K:PySem.W.Frag)(tl:TE):TI:=fun σ H R=>tl σ H fun x H1=>∃a,x=.ref a/\(((∃xs,SqL K H1 a xs)/\R (Itl K a) H1)\/((∃xs,SqT K H1 a xs)/\R (Itt K a) H1))
theorem Bh_ {K:PySem.W.Frag}{te:TE}{σ:St}{H:Hp}{Z:It->Hp->Prop}:iSeq K te σ H Z=te σ H fun x H1=>∃a,x=.ref a/\(((∃xs,SqL K H1 a xs)/\Z (Itl K a) H1)\/((∃xs,SqT K H1 a xs)/\Z (Itt K a) H1)):=rfl
theorem Yy {X:Cx}{tg l:Expr}{tl:TE}(hl:PE X l tl):PI X tg l (iSeq X.K tl):=by
 intro pins s σ H R I h
 refine thn (hl pins s σ H _ I h) fun v s1 ⟨x,H1,I1,r1,q1⟩=>?_
 obtain⟨a,e,q⟩:=q1
 subst e
 cases r1
 rcases q with ⟨⟨xs,hq⟩,q⟩|⟨⟨xs,hq⟩,q⟩
 ·obtain⟨its,rv,p,hz⟩:=I1.list hq
  refine wpAny_pyIter_list p.isList ?_
  refine⟨s1.heap.objs.size,[s1.heap.objs.size],_,_,H1,rfl,I1.kept (t':=s1.toks) fun b o e=>Heap.get?_push_of_some _ e,SM a _,⟨_,Heap.get?_push_size _ rfl,rfl,rfl⟩,fun b hb=>?_,q⟩
  have e:b=s1.heap.objs.size:=by simpa using hb
  subst e
  exact I1.fpOk (Nat.le_refl _) (I1.hok.fresh (Nat.le_refl _))
 ·obtain⟨its,rv,p,hz⟩:=I1.tuple hq
  refine wpAny_pyIter_tuple (show s1.heap.IsTuple a its.toArray from p) ?_
  refine⟨s1.heap.objs.size,[s1.heap.objs.size],_,_,H1,rfl,I1.kept (t':=s1.toks) fun b o e=>Heap.get?_push_of_some _ e,O0 a _,⟨_,Heap.get?_push_size _ rfl,rfl,rfl⟩,fun b hb=>?_,q⟩
  have e:b=s1.heap.objs.size:=by simpa using hb
  subst e
  exact I1.fpOk (Nat.le_refl _) (I1.hok.fresh (Nat.le_refl _))
end L2
namespace GW
def J9 (L:Int)(p:Int)(w:List Int):Int:=w.foldl (fun p x=>p*L+x+1) p
theorem Ka (L:Int)(w:List Int):place L w=J9 L 0 w:=by
 unfold place J9
 rw[<-MU]
 unfold Yx
 rw[List.foldr_reverse]
theorem MV {L:Int}(hL:0<L):∀{xs ys:List Int} {p q:Int},p<q->xs.length=ys.length->isW L xs=true->isW L ys=true->J9 L p xs<J9 L q ys
 |[],[],_,_,h,_,_,_=>h
 |[],_::_,_,_,_,h,_,_=>by simp at h
 |_::_,[],_,_,_,h,_,_=>by simp at h
 |x::xs,y::ys,p,q,h,hl,hx,hy=>by
  have hx0:=AB.mp hx x List.mem_cons_self
  have hy0:=AB.mp hy y List.mem_cons_self
  refine MV hL (p:=p*L+x+1) (q:=q*L+y+1) ?_ (by simpa using hl) (AB.mpr fun z hz=>AB.mp hx z (List.mem_cons_of_mem _ hz)) (AB.mpr fun z hz=>AB.mp hy z (List.mem_cons_of_mem _ hz))
  have:=Int.mul_le_mul_of_nonneg_right (show p+1<=q by omega) (Int.le_of_lt hL)
  rw[Int.add_mul]at this
  omega
theorem Le {L:Int}(hL:0<L):∀{xs ys:List Int} {p:Int},xs.length=ys.length->isW L xs=true->isW L ys=true->(J9 L p xs<J9 L p ys↔HT.lexLt xs ys=true)
 |[],[],_,_,_,_=>by simp[J9,HT.lexLt]
 |[],_::_,_,h,_,_=>by simp at h
 |_::_,[],_,h,_,_=>by simp at h
 |x::xs,y::ys,p,hl,hx,hy=>by
  have hxs:isW L xs=true:=AB.mpr fun z hz=>AB.mp hx z (List.mem_cons_of_mem _ hz)
  have hys:isW L ys=true:=AB.mpr fun z hz=>AB.mp hy z (List.mem_cons_of_mem _ hz)
  have hl':xs.length=ys.length:=by simpa using hl
  show J9 L (p*L+x+1) xs<J9 L (p*L+y+1) ys↔_
  rw[HT.lexLt_cons]
  by_cases e:x=y
  ·subst e
   rw[if_pos rfl]
   exact Le hL hl' hxs hys
  ·rw[if_neg e]
   by_cases hlt:x<y
   ·simp only[hlt,decide_true,iff_true]
    exact MV hL (by omega) hl' hxs hys
   ·simp only[hlt,decide_false,Bool.false_eq_true,iff_false]
    have:=MV hL (p:=p*L+y+1) (q:=p*L+x+1) (by omega) hl'.symm hys hxs
    omega
theorem Yz {L:Int}(hL:0<L):∀{xs ys:List Int},isW L xs=true->isW L ys=true->place L xs=place L ys->xs=ys:=by
 have key:∀{l m:List Int},(∀x∈l,0<=x/\x<L)->(∀x∈m,0<=x/\x<L)->Ci L l=Ci L m->l=m:=by
  intro l
  induction l with
  |nil=>
   intro m _ hm h
   cases m with
   |nil=>rfl
   |cons y s=>
    have hy:=hm y List.mem_cons_self
    have:=(Fo hL (l:=s) fun z hz=>hm z (List.mem_cons_of_mem _ hz)).1
    have h0:=DC hL s.length
    have hp:=Int.mul_nonneg (show 0<=Ci L s by omega) (Int.le_of_lt hL)
    have h':(0:Int)=Ci L s*L+y+1:=h
    omega
  |cons x r ih=>
   intro m hl hm h
   have hx:=hl x List.mem_cons_self
   cases m with
   |nil=>
    have:=(Fo hL (l:=r) fun z hz=>hl z (List.mem_cons_of_mem _ hz)).1
    have h0:=DC hL r.length
    have hp:=Int.mul_nonneg (show 0<=Ci L r by omega) (Int.le_of_lt hL)
    have h':Ci L r*L+x+1=(0:Int):=h
    omega
   |cons y s=>
    have hy:=hm y List.mem_cons_self
    have h':Ci L r*L+x+1=Ci L s*L+y+1:=h
    have e1:Ci L r=Ci L s:=by
     rcases Int.lt_trichotomy (Ci L r) (Ci L s) with hlt|he|hlt
     ·have:=Int.mul_le_mul_of_nonneg_right (show Ci L r+1<=Ci L s by omega) (Int.le_of_lt hL)
      rw[Int.add_mul]at this;omega
     ·exact he
     ·have:=Int.mul_le_mul_of_nonneg_right (show Ci L s+1<=Ci L r by omega) (Int.le_of_lt hL)
      rw[Int.add_mul]at this;omega
    rw[e1]at h'
    rw[ih (fun z hz=>hl z (List.mem_cons_of_mem _ hz)) (fun z hz=>hm z (List.mem_cons_of_mem _ hz)) e1,show x=y by omega]
 intro xs ys hx hy h
 have:=key (l:=xs.reverse) (m:=ys.reverse) (fun x h=>AB.mp hx x (List.mem_reverse.mp h)) (fun x h=>AB.mp hy x (List.mem_reverse.mp h)) h
 exact List.reverse_inj.mp this
end GW
namespace L2
open PySem PySem.Spec PyProof.Rows
section
variable {X:Cx} {K:PySem.W.Frag}
theorem Ep (h:X.K=K):IxR X (rIxT K):=by subst h;exact Al
theorem ZZ (h:X.K=K):IxR X (rIxL K):=by subst h;exact CF
end
end L2
namespace GW
def DF_ (ways:List (List Int))(r x:Int):Int:=(ways.getD r.toNat []).getD x.toNat 0
end GW
namespace L2
open PySem PySem.Spec PyProof.Rows GW
theorem YA {α:Type}{xs:List α}{v:α}(h:xs[xs.length-1]?=some v):atI xs (-1)=some v:=by
 have hlt:=(List.getElem?_eq_some_iff.mp h).1
 unfold atI ixN
 rw[if_neg (by omega),if_pos (by omega)]
 show xs[(-1+(xs.length:Int)).toNat]?=some v
 rw[show (-1+(xs.length:Int)).toNat=xs.length-1 by omega]
 exact h
theorem Gi {ns:List Int}{i:Int}{v:Int}(h0:0<=i)(h:ns[i.toNat]?=some v):atI (ns.map V.int) i=some (V.int v):=Bf_ h0 (by rw[List.getElem?_map,h];rfl)
theorem Ay {K:PySem.W.Frag}{H:Hp}{p t:Addr}{xs ys zs:List V}(hp:H p=some (.lst zs))(h:SqT K H t xs):SqT K (upd H p (.lst ys)) t xs:=by
 rcases h with (q|⟨o,q⟩)|q
 ·refine .inl (.inl ?_)
  rw[Aw (fun z=>by rw[z,hp]at q;cases q)];exact q
 ·refine .inl (.inr ⟨o,?_⟩)
  rw[Aw (fun z=>by rw[z,hp]at q;cases q)];exact q
 ·exact .inr q
end L2
namespace PySem
open Sem (wp)
open AutoSeq1 (wpAny_loadPart')
section
variable {prog:Program} {w:World} {A:Around} {E:Value->Shared->Prop} {s:Shared}
theorem newT {l:List Value}{Q:Value->Shared->Prop}(hl:l.length<=sizeLine)(h:∀h',s.heap.push {cls:=.type "tuple",data:=.seq l.toArray}=h'->Q (.ref s.heap.objs.size) {s with heap:=h' }):wpAny (model prog w) A (newTuple l) Q E s:=wpAny_newTuple (h _ rfl)
theorem psh {h h':Heap}{o:Obj}(q:h.push o=h')(ho:o.isFreed=false):(∀c u,h.get? c=some u->h'.get? c=some u)/\h'.get? h.objs.size=some o/\h'.objs.size=h.objs.size+1:=by
 subst q
 exact⟨fun c u x=>Heap.get?_push_of_some _ x,Heap.get?_push_size _ ho,Heap.size_push ..⟩
theorem Lf {it l:Addr}{i:Nat}{items:Array Value}{Q:Value->Shared->Prop}(hit:s.heap.IsTupleIter it l i)(hl:s.heap.IsTuple l items)
  (hQ:∀x h',items[i]?=some x->h'.IsTupleIter it l (i+1)->Heap.SameBut it s.heap h'->Q x {s with heap:=h' })
  (hE:items[i]?=none->A.handled=none/\∀h' e,Heap.ExtBut it s.heap h'->(∃o,h'.get? e=some o/\o.cls=.type "StopIteration")->E (.ref e) {s with heap:=h' }):wpAny (model prog w) A (Builtin.SmallTypes.nextOf (.ref it)) Q E s:=by
 obtain⟨⟨c,dc,da,sl⟩,ho,hc,hd⟩:=id hit
 obtain⟨⟨c',dc',da',sl'⟩,hol,hc',nl,hdl⟩:=hl
 replace hc:c=_:=hc;replace hd:da=_:=hd;replace hc':c'=_:=hc';replace hdl:da'=_:=hdl
 subst hc hd hc' hdl
 have e1:=F.slot_tuple_iterator_next
 unfold Builtin.SmallTypes.nextOf
 refine wpAny_bind (wpAny_callSpecial?_slot hit.typeIs e1 (wpAny_call_entry e1 hit.typeIs F.entry_tuple_iterator_next ?_ (F.args_tuple_iterator_next_1 _)))
 wp_walk
 cases hx:items[i]? with
 |some x=>
  simp only[Int.toNat_natCast,hx]
  wp_walk
  exact⟨x,rfl,wpAny_pure (hQ x _ hx ⟨_,Heap.get?_update_self _ ho (by simp[Obj.mapFields,Obj.isFreed]),rfl,by simp[Obj.mapFields,rawInt]⟩ (Heap.SameBut.update ..))⟩
 |none=>
  obtain⟨hh,hE⟩:=hE hx
  have h1:A.in1.handled=none:=hh
  simp only[Int.toNat_natCast,hx]
  wp_walk
  unfold raiseNew
  wp_walk
  exact hE _ _ (((Heap.SameBut.update ..).extBut.push _).push _) ⟨_,Heap.get?_push_size _ rfl,rfl⟩
theorem Draws.tuple (hh:A.handled=none)(it l:Addr)(hne:l≠it)(items:Array Value):
  Draws prog w A it [it,l] items.size (fun i v=>items[i]?=some v) (fun i h=>h.IsTupleIter it l i/\h.IsTuple l items) where
 live:=fun _ _ st=>let ⟨o,e,_⟩:=st.1;⟨o,e⟩
 frame:=fun _ _ _ st k=>⟨st.1.at fun o e=>k it (by simp) o e,let ⟨o,e,r⟩:=st.2;⟨o,k l (by simp) o e,r⟩⟩
 item:=fun i t Q E hi st q=>Lf st.1 st.2 (fun x h' e1 e2 e3=>q x h' t.toks e1 ⟨e2,st.2.extBut e3.extBut hne⟩ e3) fun z=>by rw[Array.getElem?_eq_none_iff]at z;omega
 done:=fun t Q E st q=>Lf st.1 st.2 (fun x h' e1=>by have:=(Array.getElem?_eq_some_iff.mp e1).1;omega) fun _=>⟨hh,q⟩
theorem I0 {l:Addr}{items:Array Value}{Q:Value->Shared->Prop}(hL:s.heap.IsTuple l items)
  (h:∀h',IsEnum h' (s.heap.objs.size+1) s.heap.objs.size 0 .none->h'.IsTupleIter s.heap.objs.size l 0->h'.objs.size=s.heap.objs.size+2->(∀b o,s.heap.get? b=some o->h'.get? b=some o)->Q (.ref (s.heap.objs.size+1)) {s with heap:=h' }):
  wpAny (model prog w) A (call (.type "enumerate") [.ref l]) Q E s:=by
 have M:Meets (Builtin.«enumerate.__new__» ⟨[.type "enumerate",.ref l],[]⟩) fun _ R t=>t.heap.IsTuple l items/\∀h',IsEnum h' (t.heap.objs.size+1) t.heap.objs.size 0 .none->h'.IsTupleIter t.heap.objs.size l 0->h'.objs.size=t.heap.objs.size+2->(∀b o,t.heap.get? b=some o->h'.get? b=some o)->R (.ok (.ret (.ref (t.heap.objs.size+1)))) {t with heap:=h' }:=.of_wp fun prog w A R t ⟨hl,q⟩=>by
  have hsub:=sub_enumerate
  obtain⟨hp,g,d,tk,os⟩:=t
  obtain⟨⟨c,dc,da,sl⟩,e1,hc,n,hd⟩:=id hl
  have fin:∀f,f=Fin.done (.ret (.ref (hp.push {cls:=.type "tuple_iterator",data:=.fields #[.ref l,.int 0 0]}).objs.size))->∃x,f=.done (.ret x)/\R (.ok (.ret x)) ⟨(hp.push {cls:=.type "tuple_iterator",data:=.fields #[.ref l,.int 0 0]}).push {cls:=.type "enumerate",data:=.fields #[.none,.bool false,.ref hp.objs.size,rawInt 0,.none,.none]},g,d,tk,os⟩:=fun f hf=>by
   have z:=Heap.size_push hp {cls:=.type "tuple_iterator",data:=.fields #[.ref l,.int 0 0]}
   rw[z]at hf
   have y:=Heap.get?_push_size (hp.push {cls:=.type "tuple_iterator",data:=.fields #[.ref l,.int 0 0]}) (o:={cls:=.type "enumerate",data:=.fields #[.none,.bool false,.ref hp.objs.size,rawInt 0,.none,.none]}) rfl
   rw[z]at y
   exact⟨_,hf,q _ y ⟨_,Heap.get?_push_of_some _ (Heap.get?_push_size _ rfl),rfl,rfl⟩ (by rw[Heap.size_push,z]) fun b o x=>Heap.get?_push_of_some _ (Heap.get?_push_of_some _ x)⟩
  wp_walk using AutoSeq1.wpAny_loadPart' e1
  refine wpAny_stack_any fun st=>wpAny_pure ?_
  split
  ·rename_i c _ _ _ _ _
   cases (c==Value.type "enumerate")<;>(wp_walk using AutoSeq1.wpAny_loadPart' e1,wpAny_pyIter_tuple hl;exact fin _ rfl)
  ·wp_walk using AutoSeq1.wpAny_loadPart' e1,wpAny_pyIter_tuple hl
   exact fin _ rfl
 exact callType_new F.called_enumerate (by decide) (F.typeCall_enumerate_1 _) (F.newCall_enumerate_1 _) (fun obj=>F.args_object_init_2 obj _) F.entry_enumerate_new M ⟨hL,fun h' a b c d=>⟨⟨_,a,rfl⟩,h h' a b c d⟩⟩
end
end PySem
namespace L2
open PySem PySem.Spec PyProof.Rows
section
variable {X:Cx} {pins:List (Addr×Obj)} {σ:St} {H:Hp} {s:Shared}
theorem Inv.un2 {h':Heap}{e it:Addr}(I:Inv X pins σ H s)(k:∀b o,b≠e->b≠it->s.heap.get? b=some o->h'.get? b=some o)(f1:FpOk X pins H e)(f2:FpOk X pins H it):Un (frs X.stack) [e,it] H H s.heap h'/\HOk X.prog X.w H h':=by
 have ne:∀b u,H b=some u->b≠e/\b≠it:=fun b u q=>⟨(fun z=>by rw[z,f1.1]at q;cases q),(fun z=>by rw[z,f2.1]at q;cases q)⟩
 have nch:∀{b:Addr},b ∉ [e,it]->b≠e/\b≠it:=fun hb=>by simpa using hb
 refine⟨⟨fun b o q _ _ hb=>k b o (nch hb).1 (nch hb).2 q,fun b o q _ _ hb=>⟨o.slots,k b o (nch hb).1 (nch hb).2 q⟩,fun _ _ _ n _=>n,fun b o q hb=>⟨o,k b o (nch hb).1 (nch hb).2 q⟩,fun _ _ q=>q,fun _ _ _ q=>q,fun b ps q=>⟨#[],by rw[q];simp⟩⟩,fun b u q=>?_⟩
 refine (I.hok b u q).stay (fun c v hc qv=>?_) (fun _ q=>q) fun _ _ q=>q
 have hne:c≠e/\c≠it:=by
  rcases hc with rfl|hc
  ·exact ne _ _ q
  ·exact ne _ _ hc
 exact k c v hne.1 hne.2 qv
theorem FpOk.ch {b:Addr}(f:FpOk X pins H b):(b∈X.ex\/X.s₀.heap.objs.size<=b)/\b≠X.env.locals/\(∀x c,X.env.cells.lookup x=some c->c≠b)/\∀p∈X.pn++pins,p.1≠b:=⟨f.2.2.2.1,f.2.1,f.2.2.2.2.1,f.2.2.2.2.2⟩
end
def Itn (K:PySem.W.Frag)(a:Addr)(xs:List V):It:=⟨fun i H=>i<xs.length/\SqT K H a xs,fun i H x H'=>∃t v,H t=none/\xs[i]?=some v/\x=.ref t/\H'=upd H t (.tup [.int i,v]),fun i H=>i=xs.length/\SqT K H a xs⟩
theorem Wy {P:Program}{w:World}{K:PySem.W.Frag}{elts:List Expr}{x1}{tpos:Pos}(a e it:Addr)(hei:e≠it)(hai:a≠it)(hae:a≠e)(xs:List V):Turn P w K (.Tuple elts x1 tpos) (Itn K a xs) [e,it] e (fun i h=>∃old,IsEnum h e it (i:Nat) old/\h.IsTupleIter it a i) where
 mem:=by simp
 obj:=fun i h st b hb=>by
  obtain⟨old,h1,o,h2,c,d⟩:=st
  rcases List.mem_cons.mp hb with rfl|hb
  ·exact⟨_,h1,fun v z=>by cases z⟩
  ·rw[List.mem_singleton.mp hb]
   exact⟨o,h2,fun v z=>by rw[d]at z;cases z⟩
 keep:=fun i h h' st k=>by
  obtain⟨old,h1,h2⟩:=st
  exact⟨old,k e (by simp) _ h1,h2.at fun o q=>k it (by simp) o q⟩
 item:=by
  intro X hP hw hK hc i pins s σ H E I hf st hg
  subst hP hw hK
  obtain⟨hi,hq⟩:=hg
  obtain⟨old,he,hit⟩:=st
  obtain⟨its,rv,p,hz⟩:=I.tuple hq
  have hl:=rv.length
  have pt:s.heap.IsTuple a its.toArray:=p
  have f1:=hf e (by simp)
  have f2:=hf it (by simp)
  have Dw:=Draws.tuple (prog:=X.prog) (w:=X.w) (A:=X.A.in1) (I.ok.hd hc) it a hai its.toArray
  refine wpAny_pyNext_enum_itemD Dw he ⟨hit,pt⟩ (by simp;omega) hei (by simp[hei,Ne.symm hae]) fun u h' tk hu heo hst' hget hsz hk=>?_
  have hT:s.heap.objs.size≠e:=Nat.ne_of_gt (Heap.lt_size he)
  refine⟨_,rfl,wpAny_letOwnedTupleGo_enum heo fun h2 he2 hs2=>?_⟩
  have hk2:∀b o,b≠e->b≠it->s.heap.get? b=some o->h2.get? b=some o:=fun b o h1 h3 q=>(hs2.2 b h1).trans (hk b o h1 h3 q)
  obtain⟨un,hok⟩:=I.un2 hk2 f1 f2
  have hn:H s.heap.objs.size=none:=I.hok.fresh (Nat.le_refl _)
  have hv:xs[i]?=some xs[i]:=by simp[hi]
  obtain⟨u',hu',ru⟩:=rv.get hv
  have eu:u'=u:=by
   have hu2:its[i]?=some u:=by simpa using hu
   rw[hu']at hu2
   exact Option.some.inj hu2
  subst eu
  have hget2:h2.get? s.heap.objs.size=some {cls:=.type "tuple",data:=.seq #[.int i tk,u']}:=(hs2.2 _ hT).trans hget
  have new:Bq X.prog X.w (upd H s.heap.objs.size (.tup [.int i,xs[i]])) h2 s.heap.objs.size (.tup [.int i,xs[i]]):=⟨by have:=An;simp;omega,[.int i tk,u'],.cons ⟨tk,rfl⟩ (.cons ru .nil),_,hget2,rfl,_,rfl⟩
  refine⟨.ref s.heap.objs.size,upd H s.heap.objs.size (.tup [.int i,xs[i]]),I.call' (s':={s with heap:=h2,toks:=tk+1}) (ch:=[e,it]) rfl (un.track (Nat.le_refl _) hn) (hok.track hn new) I.bare (fun b hb=>?_),rfl,⟨_,_,hn,hv,rfl,rfl⟩,?_,fun b hb=>?_⟩
  ·exact (hf b hb).ch
  ·refine⟨u',by simpa using he2,?_⟩
   exact hst'.1.at fun o q=>(hs2.2 it (Ne.symm hei)).trans q
  ·have hb':=hf b hb
   have:∃o,s.heap.get? b=some o:=by
    rcases List.mem_cons.mp hb with rfl|hb
    ·exact⟨_,he⟩
    ·rw[List.mem_singleton.mp hb]
     obtain⟨o,ho,_⟩:=hit
     exact⟨o,ho⟩
   obtain⟨o,ho⟩:=this
   rw[Aw (Nat.ne_of_lt (Heap.lt_size ho))]
   exact hb'.1
 done:=by
  intro X hP hw hK hc i pins s σ H E I hf st hg
  subst hP hw hK
  obtain⟨hi,hq⟩:=hg
  subst hi
  obtain⟨old,he,hit⟩:=st
  obtain⟨its,rv,p,hz⟩:=I.tuple hq
  have hl:=rv.length
  have pt:s.heap.IsTuple a its.toArray:=p
  have Dw:=Draws.tuple (prog:=X.prog) (w:=X.w) (A:=X.A.in1) (I.ok.hd hc) it a hai its.toArray
  obtain⟨f0,f1,f2,f3,f4,f5⟩:=hf it (by simp)
  refine wpAny_pyNext_enum_endD Dw he ⟨by rw[List.size_toArray,<-hl];exact hit,pt⟩ fun h' eb=>⟨rfl,I.turned (t':=s.toks) (fun b o hb e=>eb b o hb e) f0 f1 f3 f4 f5⟩
 self:=fun A i s Q E st h=>by
  obtain⟨old,he,_⟩:=st
  exact wpAny_pyIter_enum he h
def Bi_ (K:PySem.W.Frag)(tl:TE):TI:=fun σ H R=>tl σ H fun x H1=>∃a xs,x=.ref a/\SqT K H1 a xs/\R (Itn K a xs) H1
theorem VQ {K:PySem.W.Frag}{te:TE}{σ:St}{H:Hp}{Z:It->Hp->Prop}:Bi_ K te σ H Z=te σ H fun x H1=>∃a xs,x=.ref a/\SqT K H1 a xs/\Z (Itn K a xs) H1:=rfl
theorem Bj_ {K:PySem.W.Frag}{n:Nat}{t:TGs}{v:V}{σ:St}{H:Hp}{N:St->Hp->Prop}:gTup K n t v σ H N=∃a xs,v=.ref a/\SqT K H a xs/\xs.length=n/\t xs σ H N:=rfl
theorem YB {t:TG}{u:TGs}{vs:List V}{σ:St}{H:Hp}{N:St->Hp->Prop}:CJ_ t u vs σ H N=∃v r,vs=v::r/\t v σ H fun σ' H'=>u r σ' H' N:=rfl
theorem Bk_ {vs:List V}{σ:St}{H:Hp}{N:St->Hp->Prop}:gNil vs σ H N=(vs=[]/\N σ H):=rfl
theorem P9 {X:Cx}{elts:List Expr}{x1}{tpos:Pos}{e:Expr}{te:TE}{p pos:Pos}(hg:Gl X "enumerate")(hm:X.mg "enumerate"=none)(he:PE X e te)(hs:starEach [e] X.env=[(false,eval e X.env)]:=by rfl):PI X (.Tuple elts x1 tpos) (.Call (.Name "enumerate" p) [e] [] pos) (Bi_ X.K te):=by
 intro pins s σ H R I h
 refine Call_ (LN I hg hm boot_enumerate (PyProof.Rows.callWith_type1 (thn (Aa he Ab hs pos pins s σ H (fun vs H1=>∃a xs,vs=[.ref a]/\SqT X.K H1 a xs/\R (Itn X.K a xs) H1) I ?_) fun us s1 ⟨vs,H1,I1,r1,q1⟩=>?_) hs rfl))
 ·show te σ H _
  have:(fun x H1=>∃a xs,x=V.ref a/\SqT X.K H1 a xs/\R (Itn X.K a xs) H1)=(fun x H1=>tNil σ H1 fun xs H2=>∃a ys,x::xs=[V.ref a]/\SqT X.K H2 a ys/\R (Itn X.K a ys) H2):=by
   funext x H1
   simp[tNil]
  rw[<-this]
  exact h
 ·obtain⟨a,xs,rfl,hq,q⟩:=q1
  cases r1 with
  |cons r rr=>
   cases rr
   cases r
   obtain⟨its,rv,p,hz⟩:=I1.tuple hq
   have pt:s1.heap.IsTuple a its.toArray:=p
   obtain⟨oa,hoa,_⟩:=id pt
   have ha:=Heap.lt_size hoa
   refine I0 pt fun h' he' hit' hsz hk=>?_
   refine wpAny_pyIter_enum (s:={s1 with heap:=h' }) he' ?_
   have I2:Inv X pins σ H1 {s1 with heap:=h' }:=I1.kept (t':=s1.toks) hk
   refine⟨s1.heap.objs.size+1,[s1.heap.objs.size+1,s1.heap.objs.size],_,_,H1,rfl,I2,Wy a (s1.heap.objs.size+1) s1.heap.objs.size (Nat.succ_ne_self _) (Nat.ne_of_lt ha) (Nat.ne_of_lt (Nat.lt_succ_of_lt ha)) xs,⟨_,he',hit'⟩,fun b hb=>?_,q⟩
   have hle:s1.heap.objs.size<=b:=by
    rcases List.mem_cons.mp hb with rfl|hb
    ·omega
    ·rw[List.mem_singleton.mp hb];exact Nat.le_refl _
   exact I1.fpOk hle (I1.hok.fresh hle)
theorem forN {K:PySem.W.Frag}{a:Addr}{xs:List V}{g:TG}{tb:TS}{D:Ends}{σ:St}{H:Hp}(Pv:Nat->St->Hp->Prop)(h0:Pv 0 σ H)(hl:∀i σ H,i<=xs.length->Pv i σ H->SqT K H a xs)
  (hs:∀i v σ H t,xs[i]?=some v->Pv i σ H->H t=none->g (.ref t) σ (upd H t (.tup [.int i,v])) fun σ2 H2=>tb {D with nx:=Pv (i+1),ct:=Pv (i+1),bk:=D.nx} σ2 H2) (hd:∀σ H,Pv xs.length σ H->D.nx σ H):ForW (Itn K a xs) g tb D σ H:=by
 refine⟨fun i m σ H=>m=xs.length-i/\i<=xs.length/\Pv i σ H,⟨xs.length,by simp,Nat.zero_le _,h0⟩,?_⟩
 rintro i m σ H ⟨rfl,hi,p⟩
 by_cases hlt:i<xs.length
 ·refine .inr ⟨⟨hlt,hl i σ H hi p⟩,Pv (i+1),fun σ' H' p'=>⟨xs.length-(i+1),by omega,rfl,hlt,p'⟩,fun x H' y=>?_⟩
  obtain⟨t,v,hn,hv,rfl,rfl⟩:=y
  exact hs i v σ H t hv p hn
 ·have e:i=xs.length:=by omega
  subst e
  exact .inl ⟨⟨rfl,hl _ σ H hi p⟩,hd σ H p⟩
section
variable {td ty tv tx:TE} {D:Ends} {σ:St} {H:Hp} {Q:VK}
theorem Bl_:Df_ td ty σ H Q=td σ H fun x H1=>ty σ H1 fun y H2=>∃a v,x=.ref a/\DGet H2 a y (some v)/\Q v H2:=rfl
theorem Bm_:Dg_ td ty tv D σ H=tv σ H fun v H1=>td σ H1 fun x H2=>ty σ H2 fun y H3=>∃a H4,x=.ref a/\DPut H3 a y v H4/\D.nx σ H4:=rfl
theorem Bn_ {trs:List (TE×TE)}:BR_ trs σ H Q=∀p,H p=none->MR trs σ (upd H p (.dK [])) fun ps H2=>H2 p=some (.dK [])/\∃kvs:List (Key×V),ps=kvs.map (fun kv=>(kV kv.1,kv.2))/\kvs.length<=15/\Q (.ref p) (upd H2 p (.dK (LP [] kvs))):=rfl
theorem VR {R:List (V×V)->Hp->Prop}:MR [] σ H R=R [] H:=rfl
theorem VS {r:List (TE×TE)}{R:List (V×V)->Hp->Prop}:MR ((td,tv)::r) σ H R=td σ H fun x H1=>tv σ H1 fun y H2=>MR r σ H2 fun ps H3=>R ((x,y)::ps) H3:=rfl
end
end L2
namespace GW
def Bo_ (w:List Int):List (Int×List Int)->Nat->List Int->List (Int×List Int)
 |ents,_,[]=>ents
 |ents,x,g::r=>Bo_ w (if g∈ents.map (·.1) then ents else ents++[(g,w++[(x:Int)])]) (x+1) r
def bfs (ways:List (List Int)):Nat->List (Int×List Int)->Nat->List (Int×List Int)
 |0,ents,_=>ents
 |f+1,ents,i=>match ents[i]? with
  |none=>ents
  |some e=>bfs ways f (Bo_ e.2 ents 0 (ways.getD e.1.toNat [])) (i+1)
def YC (ways:List (List Int)):List (Int×List Int):=bfs ways (ways.length+1) [(0,[])] 0
def Seen (L:Int)(ways:List (List Int))(ents:List (Int×List Int))(r:Int)(w:List Int)(x:Nat):Prop:=∀y:Int,0<=y->y<x->∃e'∈ents,e'.1=DF_ ways r y/\place L e'.2<=place L (w++[y])
end GW
namespace L2
open PySem PySem.Spec PyProof.Rows GW
def Ents (K:PySem.W.Frag)(H:Hp)(d:Addr)(ents:List (Int×List Int)):Prop:=∃kvs:List (Key×V),H d=some (.dK kvs)/\kvs.length=ents.length/\∀(i:Nat) (e:Int×List Int),ents[i]?=some e->∃t,kvs[i]?=some (Sum.inl e.1,V.ref t)/\SqT K H t (e.2.map V.int)
theorem S5 {K:PySem.W.Frag}{H:Hp}{p t:Addr}{xs:List V}{kvs kvs':List (Key×V)}(hp:H p=some (.dK kvs))(h:SqT K H t xs):SqT K (upd H p (.dK kvs')) t xs:=by
 rcases h with (q|⟨o,q⟩)|q
 ·refine .inl (.inl ?_)
  rw[Aw (fun z=>by rw[z,hp]at q;cases q)];exact q
 ·refine .inl (.inr ⟨o,?_⟩)
  rw[Aw (fun z=>by rw[z,hp]at q;cases q)];exact q
 ·exact .inr q
theorem Ents.no {K:PySem.W.Frag}{H:Hp}{d:Addr}{ents:List (Int×List Int)}(h:Ents K H d ents){g:Int}(hg:g∉ents.map (·.1)):DGet H d (.int g) none:=by
 obtain⟨kvs,h1,h2,h3⟩:=h
 have e:valV kvs (Sum.inl g:Key)=none:=by
  unfold valV
  rw[Option.map_eq_none_iff,List.find?_eq_none]
  intro kv hkv
  obtain⟨i,hi,e⟩:=List.getElem_of_mem hkv
  obtain⟨t,a,_⟩:=h3 i ents[i] (by simp[show i<ents.length by omega])
  have e2:kvs[i]?=some kv:=by rw[List.getElem?_eq_getElem hi,e]
  rw[e2]at a
  cases a
  simp only[decide_eq_true_eq]
  intro z
  injection z with z
  exact hg (List.mem_map.mpr ⟨ents[i],List.getElem_mem _,z⟩)
 have:=DGet.k (k:=(Sum.inl g:Key)) h1
 rw[e]at this
 exact this
theorem Ents.put {K:PySem.W.Frag}{H:Hp}{d t:Addr}{ents:List (Int×List Int)}{g:Int}{w:List Int}(h:Ents K H d ents)(hg:g∉ents.map (·.1))(hz:ents.length<1000)(ht:SqT K H t (w.map V.int)):∃H',DPut H d (.int g) (.ref t) H'/\(∃kvs kvs',H d=some (.dK kvs)/\H'=upd H d (.dK kvs'))/\Ents K H' d (ents++[(g,w)]):=by
 have hno:=h.no hg
 obtain⟨kvs,h1,h2,h3⟩:=h
 have hl:=An
 have hv:valV kvs (Sum.inl g:Key)=none:=by
  rcases hno with ⟨kvs',k,e,ey,er⟩|⟨kvs',k,b,e,ey,_⟩
  ·have e1:kvs'=kvs:=by
    rcases e with e|⟨o,e⟩
    ·rw[h1]at e;cases e;rfl
    ·rw[h1]at e;cases e
   subst e1
   cases k with
   |inl m=>
    have:m=g:=by injection ey with ey;exact ey.symm
    subst this
    exact er.symm
   |inr m=>cases ey
  ·cases ey
 have hp:putK kvs (Sum.inl g:Key) (V.ref t)=kvs++[(Sum.inl g,V.ref t)]:=by
  unfold putK
  rw[J5,hv]
  rfl
 refine⟨_,DPut.k (k:=(Sum.inl g:Key)) h1 (by omega),⟨kvs,_,h1,rfl⟩,kvs++[(Sum.inl g,V.ref t)],by rw[Ac,hp],by simp[h2],fun i e he=>?_⟩
 by_cases hi:i<ents.length
 ·rw[List.getElem?_append_left hi]at he
  obtain⟨t',a,b⟩:=h3 i e he
  exact⟨t',by rw[List.getElem?_append_left (by omega)];exact a,S5 h1 b⟩
 ·have hlt:=(List.getElem?_eq_some_iff.mp he).1
  rw[List.length_append,List.length_singleton]at hlt
  have e1:i=ents.length:=by omega
  subst e1
  rw[List.getElem?_append_right (Nat.le_refl _),Nat.sub_self]at he
  simp at he
  subst he
  exact⟨t,by rw[List.getElem?_append_right (by omega),h2,Nat.sub_self];rfl,S5 h1 ht⟩
end L2
namespace L2
open PySem PySem.Spec PyProof.Rows
def ups (n:Nat):List Int:=(List.range n).map fun i:Nat=>(i:Int)
def rNeD (K:PySem.W.Frag)(n:Nat):R2:=fun x y H Q=>∃a c b,x=.ref a/\y=.ref c/\EqD K H n x y b/\Q (.bl (!b)) H
theorem DG_ {K:PySem.W.Frag}{n:Nat}{x y:V}{H:Hp}{Q:VK}:rNeD K n x y H Q=∃a c b,x=.ref a/\y=.ref c/\EqD K H n x y b/\Q (.bl (!b)) H:=rfl
theorem S6 {X:Cx}(n:Nat)(hu:X.A.units+n<cLine):OpR X (compareOp .NotEq) (rNeD X.K n):=by
 intro pins s σ H x y v u Q I rx ry h
 obtain⟨a,c,b,rfl,rfl,h,q⟩:=h
 cases rx
 cases ry
 cases n with
 |zero=>exact absurd (show false=true from h.1) Bool.false_ne_true
 |succ n=>
  rcases h with ⟨fx,_⟩|⟨a',c',xs,ys,e1,e2,hq,e,he,rfl⟩
  ·exact absurd (show false=true from fx) Bool.false_ne_true
  ·cases e1
   cases e2
   have key:∀(its its2:List Value),Vals xs its->Vals ys its2->∀j (h1:j<its.toArray.size) (h2:j<its2.toArray.size),SeqAt.EqAt X.A.in1 s its.toArray[j] its2.toArray[j] (e j):=fun its its2 r1 r2 j h1 h2=>by
    have l1:=r1.length
    have l2:=r2.length
    rw[List.size_toArray]at h1 h2
    obtain⟨u1,g1,q1⟩:=r1.get (i:=j) (x:=xs[j]'(by omega)) (by simp[show j<xs.length by omega])
    obtain⟨u2,g2,q2⟩:=r2.get (i:=j) (x:=ys[j]'(by omega)) (by simp[show j<ys.length by omega])
    have k1:its.toArray[j]'(by rw[List.size_toArray];exact h1)=u1:=by
     have:=(List.getElem?_eq_some_iff.mp g1).2
     simpa using this
    have k2:its2.toArray[j]'(by rw[List.size_toArray];exact h2)=u2:=by
     have:=(List.getElem?_eq_some_iff.mp g2).2
     simpa using this
    rw[k1,k2]
    exact (EqD.at I n X.A.in1 (by rw[in1_units];omega) q1 q2 (he j _ _ (by simp[show j<xs.length by omega]) (by simp[show j<ys.length by omega]))).1
   have fin:EP X pins σ Q (.bool (!(decide (xs.length=ys.length)&&(List.range (min xs.length ys.length)).all e))) s:=⟨.bl _,H,I,rfl,q⟩
   rcases hq with ⟨h1,h2⟩|⟨h1,h2⟩
   ·obtain⟨its,r1,p1,_⟩:=I.list h1
    obtain⟨its2,r2,p2,_⟩:=I.list h2
    have l1:=r1.length
    have l2:=r2.length
    by_cases hl:xs.length=ys.length
    ·have:=SeqAt.RcNeAt.lists (e:=e) p1.isList p2.isList (by rw[List.size_toArray,List.size_toArray];omega) (by omega) (key its its2 r1 r2)
     rw[List.size_toArray,<-l1]at this
     rw[decide_eq_true hl,Bool.true_and,<-hl,Nat.min_self]at fin
     exact this _ _ _ _ fin
    ·have:=SeqAt.RcNeAt.lists_lengths (A:=X.A) p1.isList p2.isList (by rw[List.size_toArray,List.size_toArray];simp;omega) (by omega)
     rw[decide_eq_false hl,Bool.false_and]at fin
     exact this _ _ _ _ fin
   ·obtain⟨its,r1,p1,_⟩:=I.tuple h1
    obtain⟨its2,r2,p2,_⟩:=I.tuple h2
    have l1:=r1.length
    have l2:=r2.length
    have:=SeqAt.RcNeAt.tuples (e:=e) (show s.heap.IsTuple a its.toArray from p1) (show s.heap.IsTuple c its2.toArray from p2) (by omega) (key its its2 r1 r2)
    rw[List.size_toArray,List.size_toArray,<-l1,<-l2,Yi]at this
    exact this _ _ _ _ fin
def Bp_ (tk tv:TE):TE:=BR_ [(tk,tv)]
theorem Z0 {X:Cx}{pos:Pos}{k v:Expr}{tk tv:TE}(hk:PE X k tk)(hv:PE X v tv):PE X (.Dict [some k] [v] pos) (Bp_ tk tv):=BS_ (ZR hk hv BQ_) rfl rfl (by intro z;cases z) (by show 1<=15;decide)
theorem YD {tk tv:TE}{σ:St}{H:Hp}{Q:VK}:Bp_ tk tv σ H Q=∀p,H p=none->tk σ (upd H p (.dK [])) fun x H1=>tv σ H1 fun y H2=>H2 p=some (.dK [])/\∃kvs:List (Key×V),[(x,y)]=kvs.map (fun kv=>(kV kv.1,kv.2))/\kvs.length<=15/\Q (.ref p) (upd H2 p (.dK (LP [] kvs))):=rfl
end L2
namespace GW
theorem VT {L:Int}(hL:0<L){xs ys:List Int}(hx:isW L xs=true)(hy:isW L ys=true)(h:place L xs<=place L ys):xs.length<=ys.length:=by
 obtain⟨a1,a2⟩:=EZ hL hx
 obtain⟨b1,b2⟩:=EZ hL hy
 refine Nat.le_of_not_lt fun hlt=>?_
 have:=Yu hL (show ys.length+1<=xs.length from hlt)
 omega
end GW
namespace L2
open PySem PySem.Spec PyProof.Rows
theorem Vals.ofIx:∀{xs:List V} {us:List Value},us.length=xs.length->(∀(i:Nat) (v:Value),us[i]?=some v->∃x,xs[i]?=some x/\RelV x v)->Vals xs us
 |[],[],_,_=>.nil
 |[],_::_,h,_=>by simp at h
 |_::_,[],h,_=>by simp at h
 |x::xs,u::us,h,k=>by
  refine .cons ?_ (Vals.ofIx (by simpa using h) fun i v hv=>?_)
  ·obtain⟨y,e,r⟩:=k 0 u rfl
   cases e
   exact r
  ·obtain⟨y,e,r⟩:=k (i+1) v (by simpa using hv)
   exact⟨y,by simpa using e,r⟩
theorem S7 {k:Key}{v:Value}(h:UC k v=true):RelV (kV k) v:=by
 rcases B0 h with ⟨i,t,rfl,e⟩|⟨x,t,rfl,e⟩
 ·exact⟨t,e⟩
 ·exact⟨t,e⟩
end L2
namespace GW
theorem lex_lt {L:Int}(hL:0<L){xs ys:List Int}(hx:isW L xs=true)(hy:isW L ys=true)(h:place L xs<place L ys):(xs.length:Int)<ys.length\/((xs.length:Int)=ys.length/\xs.length=ys.length/\HT.lexLt xs ys=true):=by
 have h1:=VT hL hx hy (Int.le_of_lt h)
 by_cases e:xs.length=ys.length
 ·refine .inr ⟨by omega,e,(Le hL (p:=0) e hx hy).mp ?_⟩
  rw[<-Ka,<-Ka]
  exact h
 ·exact .inl (by omega)
end GW
namespace L2
open PySem PySem.Spec PyProof.Rows
def Itm (K:PySem.W.Frag)(a:Addr)(xs:List V):It:=⟨fun i H=>i<xs.length/\SqL K H a xs,fun i H x H'=>∃t v,H t=none/\xs[i]?=some v/\x=.ref t/\H'=upd H t (.tup [.int i,v]),fun i H=>i=xs.length/\SqL K H a xs⟩
theorem Wz {P:Program}{w:World}{K:PySem.W.Frag}{elts:List Expr}{x1}{tpos:Pos}(a e it:Addr)(hei:e≠it)(hai:a≠it)(hae:a≠e)(xs:List V):Turn P w K (.Tuple elts x1 tpos) (Itm K a xs) [e,it] e (fun i h=>∃old,IsEnum h e it (i:Nat) old/\h.IsListIter it a i) where
 mem:=by simp
 obj:=fun i h st b hb=>by
  obtain⟨old,h1,o,h2,c,d⟩:=st
  rcases List.mem_cons.mp hb with rfl|hb
  ·exact⟨_,h1,fun v z=>by cases z⟩
  ·rw[List.mem_singleton.mp hb]
   exact⟨o,h2,fun v z=>by rw[d]at z;cases z⟩
 keep:=fun i h h' st k=>by
  obtain⟨old,h1,h2⟩:=st
  exact⟨old,k e (by simp) _ h1,h2.at fun o q=>k it (by simp) o q⟩
 item:=by
  intro X hP hw hK hc i pins s σ H E I hf st hg
  subst hP hw hK
  obtain⟨hi,hq⟩:=hg
  obtain⟨old,he,hit⟩:=st
  obtain⟨its,rv,p,hz⟩:=I.list hq
  have hl:=rv.length
  have pt:s.heap.IsList a its.toArray:=p.isList
  have f1:=hf e (by simp)
  have f2:=hf it (by simp)
  have Dw:=Draws.list (prog:=X.prog) (w:=X.w) (A:=X.A.in1) (I.ok.hd hc) it a hai its.toArray
  refine wpAny_pyNext_enum_itemD Dw he ⟨hit,pt⟩ (by simp;omega) hei (by simp[hei,Ne.symm hae]) fun u h' tk hu heo hst' hget hsz hk=>?_
  have hT:s.heap.objs.size≠e:=Nat.ne_of_gt (Heap.lt_size he)
  refine⟨_,rfl,wpAny_letOwnedTupleGo_enum heo fun h2 he2 hs2=>?_⟩
  have hk2:∀b o,b≠e->b≠it->s.heap.get? b=some o->h2.get? b=some o:=fun b o h1 h3 q=>(hs2.2 b h1).trans (hk b o h1 h3 q)
  obtain⟨un,hok⟩:=I.un2 hk2 f1 f2
  have hn:H s.heap.objs.size=none:=I.hok.fresh (Nat.le_refl _)
  have hv:xs[i]?=some xs[i]:=by simp[hi]
  obtain⟨u',hu',ru⟩:=rv.get hv
  have eu:u'=u:=by
   have hu2:its[i]?=some u:=by simpa using hu
   rw[hu']at hu2
   exact Option.some.inj hu2
  subst eu
  have hget2:h2.get? s.heap.objs.size=some {cls:=.type "tuple",data:=.seq #[.int i tk,u']}:=(hs2.2 _ hT).trans hget
  have new:Bq X.prog X.w (upd H s.heap.objs.size (.tup [.int i,xs[i]])) h2 s.heap.objs.size (.tup [.int i,xs[i]]):=⟨by have:=An;simp;omega,[.int i tk,u'],.cons ⟨tk,rfl⟩ (.cons ru .nil),_,hget2,rfl,_,rfl⟩
  refine⟨.ref s.heap.objs.size,upd H s.heap.objs.size (.tup [.int i,xs[i]]),I.call' (s':={s with heap:=h2,toks:=tk+1}) (ch:=[e,it]) rfl (un.track (Nat.le_refl _) hn) (hok.track hn new) I.bare (fun b hb=>?_),rfl,⟨_,_,hn,hv,rfl,rfl⟩,?_,fun b hb=>?_⟩
  ·exact (hf b hb).ch
  ·refine⟨u',by simpa using he2,?_⟩
   exact hst'.1.at fun o q=>(hs2.2 it (Ne.symm hei)).trans q
  ·have hb':=hf b hb
   have:∃o,s.heap.get? b=some o:=by
    rcases List.mem_cons.mp hb with rfl|hb
    ·exact⟨_,he⟩
    ·rw[List.mem_singleton.mp hb]
     obtain⟨o,ho,_⟩:=hit
     exact⟨o,ho⟩
   obtain⟨o,ho⟩:=this
   rw[Aw (Nat.ne_of_lt (Heap.lt_size ho))]
   exact hb'.1
 done:=by
  intro X hP hw hK hc i pins s σ H E I hf st hg
  subst hP hw hK
  obtain⟨hi,hq⟩:=hg
  subst hi
  obtain⟨old,he,hit⟩:=st
  obtain⟨its,rv,p,hz⟩:=I.list hq
  have hl:=rv.length
  have pt:s.heap.IsList a its.toArray:=p.isList
  have Dw:=Draws.list (prog:=X.prog) (w:=X.w) (A:=X.A.in1) (I.ok.hd hc) it a hai its.toArray
  obtain⟨f0,f1,f2,f3,f4,f5⟩:=hf it (by simp)
  refine wpAny_pyNext_enum_endD Dw he ⟨by rw[List.size_toArray,<-hl];exact hit,pt⟩ fun h' eb=>⟨rfl,I.turned (t':=s.toks) (fun b o hb e=>eb b o hb e) f0 f1 f3 f4 f5⟩
 self:=fun A i s Q E st h=>by
  obtain⟨old,he,_⟩:=st
  exact wpAny_pyIter_enum he h
def Bq_ (K:PySem.W.Frag)(tl:TE):TI:=fun σ H R=>tl σ H fun x H1=>∃a xs,x=.ref a/\SqL K H1 a xs/\R (Itm K a xs) H1
theorem VU {K:PySem.W.Frag}{te:TE}{σ:St}{H:Hp}{Z:It->Hp->Prop}:Bq_ K te σ H Z=te σ H fun x H1=>∃a xs,x=.ref a/\SqL K H1 a xs/\Z (Itm K a xs) H1:=rfl
theorem VW {X:Cx}{elts:List Expr}{x1}{tpos:Pos}{e:Expr}{te:TE}{p pos:Pos}(hg:Gl X "enumerate")(hm:X.mg "enumerate"=none)(he:PE X e te)(hs:starEach [e] X.env=[(false,eval e X.env)]:=by rfl):PI X (.Tuple elts x1 tpos) (.Call (.Name "enumerate" p) [e] [] pos) (Bq_ X.K te):=by
 intro pins s σ H R I h
 refine Call_ (LN I hg hm boot_enumerate (PyProof.Rows.callWith_type1 (thn (Aa he Ab hs pos pins s σ H (fun vs H1=>∃a xs,vs=[.ref a]/\SqL X.K H1 a xs/\R (Itm X.K a xs) H1) I ?_) fun us s1 ⟨vs,H1,I1,r1,q1⟩=>?_) hs rfl))
 ·show te σ H _
  have:(fun x H1=>∃a xs,x=V.ref a/\SqL X.K H1 a xs/\R (Itm X.K a xs) H1)=(fun x H1=>tNil σ H1 fun xs H2=>∃a ys,x::xs=[V.ref a]/\SqL X.K H2 a ys/\R (Itm X.K a ys) H2):=by
   funext x H1
   simp[tNil]
  rw[<-this]
  exact h
 ·obtain⟨a,xs,rfl,hq,q⟩:=q1
  cases r1 with
  |cons r rr=>
   cases rr
   cases r
   obtain⟨its,rv,p,hz⟩:=I1.list hq
   have pt:s1.heap.IsList a its.toArray:=p.isList
   obtain⟨oa,hoa,_⟩:=id pt
   have ha:=Heap.lt_size hoa
   refine call_enumerate_list pt fun h' he' hit' hsz hk=>?_
   refine wpAny_pyIter_enum (s:={s1 with heap:=h' }) he' ?_
   have I2:Inv X pins σ H1 {s1 with heap:=h' }:=I1.kept (t':=s1.toks) hk
   refine⟨s1.heap.objs.size+1,[s1.heap.objs.size+1,s1.heap.objs.size],_,_,H1,rfl,I2,Wz a (s1.heap.objs.size+1) s1.heap.objs.size (Nat.succ_ne_self _) (Nat.ne_of_lt ha) (Nat.ne_of_lt (Nat.lt_succ_of_lt ha)) xs,⟨_,he',hit'⟩,fun b hb=>?_,q⟩
   have hle:s1.heap.objs.size<=b:=by
    rcases List.mem_cons.mp hb with rfl|hb
    ·omega
    ·rw[List.mem_singleton.mp hb];exact Nat.le_refl _
   exact I1.fpOk hle (I1.hok.fresh hle)
theorem forM {K:PySem.W.Frag}{a:Addr}{xs:List V}{g:TG}{tb:TS}{D:Ends}{σ:St}{H:Hp}(Pv:Nat->St->Hp->Prop)(h0:Pv 0 σ H)(hl:∀i σ H,i<=xs.length->Pv i σ H->SqL K H a xs)
  (hs:∀i v σ H t,xs[i]?=some v->Pv i σ H->H t=none->g (.ref t) σ (upd H t (.tup [.int i,v])) fun σ2 H2=>tb {D with nx:=Pv (i+1),ct:=Pv (i+1),bk:=D.nx} σ2 H2) (hd:∀σ H,Pv xs.length σ H->D.nx σ H):ForW (Itm K a xs) g tb D σ H:=by
 refine⟨fun i m σ H=>m=xs.length-i/\i<=xs.length/\Pv i σ H,⟨xs.length,by simp,Nat.zero_le _,h0⟩,?_⟩
 rintro i m σ H ⟨rfl,hi,p⟩
 by_cases hlt:i<xs.length
 ·refine .inr ⟨⟨hlt,hl i σ H hi p⟩,Pv (i+1),fun σ' H' p'=>⟨xs.length-(i+1),by omega,rfl,hlt,p'⟩,fun x H' y=>?_⟩
  obtain⟨t,v,hn,hv,rfl,rfl⟩:=y
  exact hs i v σ H t hv p hn
 ·have e:i=xs.length:=by omega
  subst e
  exact .inl ⟨⟨rfl,hl _ σ H hi p⟩,hd σ H p⟩
def rng (i j:Int):List Int:=(List.range (j-i).toNat).map fun k:Nat=>i+(k:Int)
end L2
namespace PySem
open Sem (wp)
def Heap.DEnt (h:Heap)(d:Addr)(es:Array DictEntry)(ep:Nat):Prop:=∃o,h.get? d=some o/\o.ExactDict/\o.data=.dict es ep
section
variable {prog:Program} {w:World} {A:Around} {E:Value->Shared->Prop} {s:Shared} {d it:Addr} {es:Array DictEntry} {i ep:Nat}
theorem Heap.DEnt.typeIs (h:s.heap.DEnt d es ep):s.TypeIs (.ref d) "dict" := let ⟨o,ho,hc,_⟩:=h;⟨o,ho,hc.1⟩
theorem Heap.DEnt.at {h h':Heap}(x:h.DEnt d es ep)(e:∀o,h.get? d=some o->h'.get? d=some o):h'.DEnt d es ep:=let ⟨o,ho,r⟩:=x;⟨o,e _ ho,r⟩
theorem Heap.DEnt.lt_size {h:Heap}(x:h.DEnt d es ep):d<h.objs.size:=let ⟨_,ho,_⟩:=x;Heap.lt_size ho
theorem UN {Q:Value->Shared->Prop}(hd:(d==sysModules)=false)(hm:s.heap.DEnt d es ep)
  (hQ:Q (.ref s.heap.objs.size) {s with heap:=s.heap.push {cls:=.type "dict_keyiterator",data:=.fields #[.ref d,.int 0 0,.int es.size 0,.int ep 0]} }):wpAny (model prog w) A (pyIter (.ref d)) Q E s:=by
 have hT:=hm.typeIs
 obtain⟨o,ho,hc,hdat⟩:=id hm
 refine wpAny_pyIter_slot hT F.slot_dict_iter (wpAny_call_entry F.slot_dict_iter hT F.entry_dict_iter (?_:wpAny _ _ (Builtin.«dict.__iter__» _) _ _ s) (F.args_dict_iter_1 _))
 unfold Builtin.«dict.__iter__»;refine wpAny_bind ?_
 unfold Builtin.Dict.dictSlotNone;refine wpAny_bind (wpAny_notOrdered_dict hT ?_)
 show wpAny _ _ (pure (Value.ref d)) _ _ s;refine wpAny_pure ?_
 show wpAny _ _ (Builtin.Dict.showsAll d >>= _) _ _ s;unfold Builtin.Dict.showsAll
 rw[if_neg (fun z=>by rw[hd]at z;cases z)]
 refine wpAny_bind (wpAny_pure (wpAny_bind (wpAny_dictEntries ho hdat (wpAny_bind (wpAny_dictEpoch ho hdat ?_)))))
 refine wpAny_bind (wpAny_newObj_type (wpAny_pure ⟨_,rfl,"dict_keyiterator",_,⟨_,Heap.get?_push_size _ rfl,rfl⟩,F.slot_dict_keyiterator_next.lookup,?_⟩));simpa [rawInt] using hQ
theorem Mc {Q:Option Value->Shared->Prop}(hit:s.heap.IsKeyIter it d i es.size ep)(hm:s.heap.DEnt d es ep)(hlt:i<es.size)
  (hQ:∀h',h'.IsKeyIter it d (i+1) es.size ep->Heap.SameBut it s.heap h'->Q (some es[i].key) {s with heap:=h' }):wpAny (model prog w) A (pyNext (.ref it)) Q E s:=by
 obtain⟨o,ho,hc,hd⟩:=id hit
 obtain⟨od,hod,hcd,hdd⟩:=id hm
 have hown:Builtin.Dict_items.ownsTuple "dict_keyiterator"=false:=by decide
 unfold pyNext
 refine wpAny_bind (wpAny_attempt (wpAny_callSpecial?_slot (name:=Str.ofString "__next__") hit.typeIs F.slot_dict_keyiterator_next (wpAny_call_entry F.slot_dict_keyiterator_next hit.typeIs F.entry_dict_keyiterator_next ?_ (F.args_dict_keyiterator_next_1 _))))
 refine wpAny_bind (wpAny_pure (wpAny_bind (wpAny_bind ?_)))
 first|refine wpAny_bind (wpAny_typeNameOfWhole_keyiter hit.typeIs (wpAny_pure (wpAny_bind (wpAny_fieldsOf ho hd ?_))))|refine wpAny_bind (wpAny_typeNameOf_keyiter hit.typeIs (wpAny_pure (wpAny_bind (wpAny_fieldsOf ho hd ?_))))
 simp only[hown,Bool.false_eq_true,if_false];show wpAny _ _ (if (Value.ref d==Value.none)=true then _ else _) _ _ s
 rw[if_neg (show ¬ ((Value.ref d==Value.none)=true) from fun z=>Bool.false_ne_true z)]
 refine wpAny_bind (wpAny_pure (wpAny_bind (wpAny_dictEntries hod hdd ?_)))
 rw[if_neg (by simp)];refine wpAny_bind (wpAny_pure (wpAny_bind (wpAny_dictEpoch hod hdd ?_)))
 rw[if_neg (by simp)];refine wpAny_pure ?_
 simp only[show ¬ ((i:Int)<0) from by omega,if_false,Int.toNat_natCast,Array.getElem?_eq_getElem hlt];refine wpAny_bind ?_
 first|refine wpAny_bind (wpAny_typeNameOfWhole_keyiter hit.typeIs (wpAny_pure (wpAny_bind (wpAny_isOneOf_keyiter hit.typeIs ?_))))|refine wpAny_bind (wpAny_typeNameOf_keyiter hit.typeIs (wpAny_pure (wpAny_bind (wpAny_isOneOf_keyiter hit.typeIs ?_))))
 show wpAny _ _ (setField (.ref it) 1 (rawInt ((i:Int)+1)) >>= _) _ _ s;refine wpAny_bind (wpAny_setField ho hd (by simp) ?_)
 have hit':(s.heap.update it (Obj.mapFields (·.setIfInBounds 1 (rawInt ((i:Int)+1))))).IsKeyIter it d (i+1) es.size ep:=⟨_,Heap.get?_update_self _ ho (Obj.isFreed_of_fields (Obj.data_mapFields hd _)),(Obj.cls_mapFields ..).trans hc,by rw[Obj.data_mapFields hd];simp[rawInt]⟩
 refine wpAny_bind (wpAny_holding (wpAny_bind (wpAny_isOneOf_keyiter (s:={s with heap:=s.heap.update it (Obj.mapFields (·.setIfInBounds 1 (rawInt ((i:Int)+1))))}) hit'.typeIs ?_)))
 show wpAny _ _ (pure es[i].key) _ _ _;exact wpAny_pure (wpAny_pure ⟨_,rfl,wpAny_pure (hQ _ hit' (Heap.SameBut.update ..))⟩)
theorem MW {Q:Option Value->Shared->Prop}(hh:A.handled=none)(hit:s.heap.IsKeyIter it d i es.size ep)(hm:s.heap.DEnt d es ep)(hge:es.size<=i)
  (hQ:∀h',Heap.ExtBut it s.heap h'->Q none {s with heap:=h' }):wpAny (model prog w) A (pyNext (.ref it)) Q E s:=by
 obtain⟨o,ho,hc,hd⟩:=id hit
 obtain⟨od,hod,hcd,hdd⟩:=id hm
 have hown:Builtin.Dict_items.ownsTuple "dict_keyiterator"=false:=by decide
 unfold pyNext
 refine wpAny_bind (wpAny_attempt (wpAny_callSpecial?_slot (name:=Str.ofString "__next__") hit.typeIs F.slot_dict_keyiterator_next (wpAny_call_entry F.slot_dict_keyiterator_next hit.typeIs F.entry_dict_keyiterator_next ?_ (F.args_dict_keyiterator_next_1 _))))
 refine wpAny_bind (wpAny_pure (wpAny_bind (wpAny_bind ?_)))
 first|refine wpAny_bind (wpAny_typeNameOfWhole_keyiter hit.typeIs (wpAny_pure (wpAny_bind (wpAny_fieldsOf ho hd ?_))))|refine wpAny_bind (wpAny_typeNameOf_keyiter hit.typeIs (wpAny_pure (wpAny_bind (wpAny_fieldsOf ho hd ?_))))
 simp only[hown,Bool.false_eq_true,if_false];show wpAny _ _ (if (Value.ref d==Value.none)=true then _ else _) _ _ s
 rw[if_neg (show ¬ ((Value.ref d==Value.none)=true) from fun z=>Bool.false_ne_true z)]
 refine wpAny_bind (wpAny_pure (wpAny_bind (wpAny_dictEntries hod hdd ?_)))
 rw[if_neg (by simp)];refine wpAny_bind (wpAny_pure (wpAny_bind (wpAny_dictEpoch hod hdd ?_)))
 rw[if_neg (by simp)];refine wpAny_pure ?_
 simp only[show ¬ ((i:Int)<0) from by omega,if_false,Int.toNat_natCast,Array.getElem?_eq_none hge];refine wpAny_bind ?_
 first|refine wpAny_bind (wpAny_typeNameOfWhole_keyiter hit.typeIs (wpAny_pure ?_))|refine wpAny_bind (wpAny_typeNameOf_keyiter hit.typeIs (wpAny_pure ?_))
 show wpAny _ _ (setField (.ref it) 0 .none >>= _) _ _ s;refine wpAny_bind (wpAny_setField ho hd (by simp) ?_)
 show wpAny _ _ (newExc (.type "StopIteration") [] >>= _) _ _ _;refine wpAny_bind ?_
 simp only[newExc,newTuple];refine wpAny_bind (wpAny_newObj_type ?_ (by size_fits))
 refine wpAny_bind (m:=firstArgMember _ _) (wpAny_of_eq (a:=Value.none) (by first|rfl|(simp only[firstArgMember];rfl)) (wpAny_newObj_type ?_ (by size_fits)))
 simp only[raiseNew];refine wpAny_bind (wpAny_handled ?_)
 rw[show A.in1.handled=none from hh];refine wpAny_bind (wpAny_pure (wpAny_throw ?_))
 refine wpAny_bind (wpAny_isInstance (T := "StopIteration") (b:=true) ⟨_,Heap.get?_push_size _ rfl,rfl⟩ isSubtype_stop (wpAny_pure (hQ _ (((Heap.SameBut.update ..).extBut.push _).push _))))
theorem Walks.dent (hh:A.handled=none)(I:Addr)(hne:d≠I):Walks prog w A I [I,d] [I] es.size (fun i v=>∃e,es[i]?=some e/\v=e.key) (fun i h=>h.IsKeyIter I d i es.size ep/\h.DEnt d es ep) where
 sub:=fun b hb=>by simp at hb;simp[hb]
 frame:=fun _ _ _ st hk=>⟨st.1.at fun o e=>hk I (by simp) o e,st.2.at fun o e=>hk d (by simp) o e⟩
 item:=fun i s Q E hi st hQ=>by
  refine Mc st.1 st.2 hi fun h' hit' hs'=>?_
  exact hQ _ h' s.toks ⟨es[i],by simp[hi],rfl⟩ ⟨hit',st.2.at fun o e=>hs'.extBut d o hne e⟩ fun b o hb e=>hs'.extBut b o (fun z=>hb (by simp[z])) e
 done:=fun s Q E st hQ=>MW hh st.1 st.2 (Nat.le_refl _) fun h' he'=>hQ h' s.toks fun b o hb e=>he' b o (fun z=>hb (by simp[z])) e
 self:=fun _ _ _ _ st hQ=>wpAny_pyIter_keyiter st.1 hQ
theorem Z5 (lo:(d==sysModules)=false):PySem.W.KdlSrc prog w "dict" d d es.size (fun i v=>∃e,es[i]?=some e/\v=e.key) (fun h=>h.DEnt d es ep) where
 type:=fun _ hm=>hm.typeIs
 there:=fun _ hm=>⟨hm.lt_size,hm.lt_size⟩
 keep:=fun _ _ hm hk=>hm.at fun o e=>hk d (.inl rfl) o e
 notList:=by decide
 notTuple:=by decide
 hint:=fun _ _ _ _ hm hq=>PySem.W.kdl_hint_dict hm.typeIs hq
 iter:=fun _ _ hh hm=>⟨_,_,(fun _ _ hq=>UN lo hm hq),Walks.dent hh _ (Nat.ne_of_lt hm.lt_size),⟨⟨_,Heap.get?_push_size _ rfl,rfl,rfl⟩,hm.at fun o e=>Heap.get?_push_of_some _ e⟩⟩
end
end PySem
namespace L2
open PySem PySem.Spec PyProof.Rows
theorem IQ {α β:Type}{F:α->β->Prop}:∀{l:List α} {m:List β} {i:Nat} {a:α},Paired F l m->l[i]?=some a->∃b,m[i]?=some b/\F a b
 |_,_,_,_,.nil,e=>by simp at e
 |_,_,0,_,.cons r _,e=>by simp at e;subst e;exact⟨_,rfl,r⟩
 |_,_,i+1,a,.cons _ t,e=>by
  obtain⟨b,h1,h2⟩:=IQ (i:=i) (a:=a) t (by simpa using e)
  exact⟨b,by simpa using h1,h2⟩
theorem BZ_ {P:Program}{w:World}{H:Hp}{h:Heap}{a:Addr}{kvs:List (List Key×V)}(ok:HOk P w H h)(e:Rd H a (.dT kvs)):
  ∃o es ep,h.get? a=some o/\o.ExactDict/\o.data=.dict es ep/\es.size=kvs.length/\(a==sysModules)=false/\kvs.length<=sizeLine /\
   ∀(i:Nat) (k:List Key) (v:V),kvs[i]?=some (k,v)->∃b en,es[i]?=some en/\en.key=.ref b/\H b=some (.tup (k.map kV)):=by
 obtain⟨z,y,xs,r,o,es,ep,h1,h2,h3,h4,h5⟩:=(show Bq P w H h a (.dT kvs) from ZN ok e)
 have hl:=Paired.length r
 have hs:es.size=kvs.length:=by rw[<-Array.length_toList,h4,List.length_map,hl]
 refine⟨o,es,ep,h1,h2,h3,hs,y,z,fun i k v hk=>?_⟩
 obtain⟨q,hq,e1,e2,_⟩:=IQ r hk
 refine⟨q.2.1,entryOfKey (tupleKind (B8 P w)) q,?_,rfl,e2⟩
 rw[<-Array.getElem?_toList,h4,List.getElem?_map,hq];rfl
theorem HK {X:Cx}(hc:X.calm=true):HH X (.type "list") (fun xs H Q=>∃p kvs,xs=[.ref p]/\Rd H p (.dT kvs)/\∀l rs,H l=none->rs.length=kvs.length ->
  (∀(i:Nat) (k:List Key) (v:V),kvs[i]?=some (k,v)->∃b,rs[i]?=some (V.ref b)/\H b=some (.tup (k.map kV)))->Q (.ref l) (upd H l (.lst rs))):=by
 intro pins s σ H xs us Q I r h
 obtain⟨p,kvs,rfl,hp,q⟩:=h
 obtain⟨u,rfl,rx⟩:=vals1 r
 cases rx
 obtain⟨o,es,ep,g1,g2,g3,g4,g5,g6,g7⟩:=BZ_ I.hok hp
 refine PySem.W.kdl_call (Z5 (es:=es) (ep:=ep) g5) (I.ok.hd hc) ⟨o,g1,g2,g3⟩ (by omega) fun h' tk acc' c' hk hD hacc=>?_
 let f:DictEntry->V:=fun e=>match e.key with | .ref b=>V.ref b|_=>.non
 have hat:∀(i:Nat) (k:List Key) (v:V),kvs[i]?=some (k,v)->∃b,(es.toList.map f)[i]?=some (V.ref b)/\H b=some (.tup (k.map kV)):=fun i k v hkv=>by
  obtain⟨b,en,e1,e2,e3⟩:=g7 i k v hkv
  refine⟨b,?_,e3⟩
  rw[List.getElem?_map,Array.getElem?_toList,e1]
  show some (f en)=_
  simp only[f,e2]
 have hlen:(es.toList.map f).length=kvs.length:=by rw[List.length_map,Array.length_toList,g4]
 have hv:Vals (es.toList.map f) acc'.toList:=by
  refine Vals.ofIx (by rw[hlen,<-g4];simpa using hacc.1) fun i v hv=>?_
  obtain⟨e,he,rfl⟩:=hacc.2 i v (by simpa using hv)
  have hi:i<kvs.length:=by rw[<-g4];exact (Array.getElem?_eq_some_iff.mp he).1
  obtain⟨b,en,e1,e2,e3⟩:=g7 i kvs[i].1 kvs[i].2 (by simp[hi])
  rw[he]at e1
  cases e1
  refine⟨V.ref b,?_,by rw[e2];rfl⟩
  rw[List.getElem?_map,Array.getElem?_toList,he]
  show some (f e)=_
  simp only[f,e2]
 exact⟨.ref _,_,I.laid (t':=tk) hk (Nat.le_refl _) (show Bq X.prog X.w _ h' _ (.lst (es.toList.map f)) from ⟨by rw[hlen];exact g6,acc'.toList,c',hv,by simpa using hD⟩),rfl,q _ _ (I.hok.fresh (Nat.le_refl _)) hlen hat⟩
end L2
namespace GB
open GW
variable {α:Type} [DecidableEq α]
def Ep_ (step:α->Int->α)(a:α)(ws:List Int):α:=ws.foldl step a
structure B (L:Int)(step:α->Int->α)(st:α)(ok:α->Prop)(ents:List (α×List Int))(i:Nat)(top:Int):Prop where
 hd:ents[0]?=some (st,[])
 il:i<=ents.length
 sh:∀(j:Nat) (e:α×List Int),ents[j]?=some e->e.2.length<=j
 nod:(ents.map (·.1)).Nodup
 rng:∀e∈ents,ok e.1
 wd:∀e∈ents,isW L e.2=true/\Ep_ step st e.2=e.1
 inc:∀(j k:Nat) (a b:α×List Int),j<k->ents[j]?=some a->ents[k]?=some b->place L a.2<place L b.2
 bnd:∀e∈ents,place L e.2<top
 don:∀j,j<i->∀e,ents[j]?=some e->∀x:Int,0<=x->x<L->∃e'∈ents,e'.1=step e.1 x/\place L e'.2<=place L (e.2++[x])
variable {L:Int} {step:α->Int->α} {st:α} {ok:α->Prop} {ents:List (α×List Int)} {i:Nat} {top:Int}
def Eq_ (ways:List (List Int))(r:Int)(ws:List Int):Int:=ws.foldl (DF_ ways) r
end GB
namespace L2
open PySem PySem.Spec PyProof.Rows GW GB
def TK (H H':Hp):Prop:=∀b xs,H b=some (.tup xs)->H' b=some (.tup xs)
theorem TK.of {H H':Hp}(s:Same H H'):TK H H':=fun b xs h=>s b _ h
end L2
namespace L2
theorem YE {σ:St}{H:Hp}{Q:VK}:AR_ σ H Q=∀p,H p=none->Q (.ref p) (upd H p (.dK [])):=rfl
theorem YF {σ:St}{H:Hp}{Q:VK}:AS_ σ H Q=∀p,H p=none->Q (.ref p) (upd H p (.dT [])):=rfl
end L2
namespace GB
open GW
theorem YG {L:Int}(hL:0<L){xs ys:List Int}(hx:isW L xs=true)(hy:isW L ys=true):((xs.length:Int)<ys.length\/((xs.length:Int)=ys.length/\HT.lexLt xs ys=true))↔place L xs<place L ys:=by
 constructor
 ·rintro (h|⟨h1,h2⟩)
  ·refine Int.lt_of_not_ge fun hge=>?_
   have:=VT hL hy hx hge
   omega
  ·have:=(Le hL (p:=0) (by omega) hx hy).mpr h2
   rw[<-Ka,<-Ka]at this
   exact this
 ·intro h
  rcases lex_lt hL hx hy h with h|⟨h1,_,h2⟩
  ·exact .inl h
  ·exact .inr ⟨h1,h2⟩
theorem YH {L:Int}(hL:0<L){w:List Int}(hw:isW L w=true):0<=place L w:=by
 have:=(EZ hL hw).1
 have:=DC hL w.length
 omega
theorem Qa {L:Int}{v w:List Int}(h:isW L v=true)(g:isW L w=true):isW L (v++w)=true:=AB.mpr fun x hx=>(List.mem_append.mp hx).elim (AB.mp h x) (AB.mp g x)
end GB
namespace L2
open PySem PySem.Spec PyProof.Rows
theorem UO:∀(names:List (Str×NameKind)) (h:Heap) (acc:List (Str×Addr)) (x:Str) (c:Addr),(cellsFrom h.objs.size names acc).lookup x=some c->((pushCells h names).IsCell c none/\h.objs.size<=c)\/acc.lookup x=some c
 |[],_,_,_,_,e=>.inr e
 | (y,k)::r,h,acc,x,c,e=>by
  unfold cellsFrom at e
  unfold pushCells
  by_cases hk:(k == .cell)=true
  ·rw[if_pos hk]at e ⊢
   have e':(cellsFrom (h.push {cls:=.type "cell",data:=.cell none}).objs.size r ((y,h.objs.size)::acc)).lookup x=some c:=by rw[Heap.size_push];exact e
   rcases UO r _ _ x c e' with ⟨a,b⟩|q
   ·rw[Heap.size_push]at b
    exact .inl ⟨a,Nat.le_of_succ_le b⟩
   ·rw[List.lookup_cons]at q
    cases hx:x==y with
    |true=>
     rw[hx]at q
     have:h.objs.size=c:=Option.some.inj q
     subst this
     exact .inl ⟨⟨_,pushCells_keeps _ _ _ _ (Heap.get?_push_size _ rfl),rfl⟩,Nat.le_refl _⟩
    |false=>rw[hx]at q;exact .inr q
  ·rw[if_neg hk]at e ⊢
   exact UO r h acc x c e
theorem MG:∀(names:List (Str×NameKind)) (n:Nat) (acc:List (Str×Addr)) (x:Str) (c:Addr),(cellsFrom n names acc).lookup x=some c->n<=c\/acc.lookup x=some c
 |[],_,_,_,_,e=>.inr e
 | (y,k)::r,n,acc,x,c,e=>by
  unfold cellsFrom at e
  by_cases hk:(k == .cell)=true
  ·rw[if_pos hk]at e
   rcases MG r _ _ x c e with b|q
   ·exact .inl (Nat.le_of_succ_le b)
   ·rw[List.lookup_cons]at q
    cases hx:x==y with
    |true=>rw[hx]at q;have:n=c:=Option.some.inj q;exact .inl (Nat.le_of_eq this)
    |false=>rw[hx]at q;exact .inr q
  ·rw[if_neg hk]at e
   exact MG r n acc x c e
theorem YI:∀(names:List (Str×NameKind)) (n:Nat) (acc:List (Str×Addr)),(∀x y c,acc.lookup x=some c->acc.lookup y=some c->x=y)->(∀x c,acc.lookup x=some c->c<n)->∀x y c,(cellsFrom n names acc).lookup x=some c->(cellsFrom n names acc).lookup y=some c->x=y
 |[],_,_,hi,_,x,y,c,e1,e2=>hi x y c e1 e2
 | (z,k)::r,n,acc,hi,hb,x,y,c,e1,e2=>by
  unfold cellsFrom at e1 e2
  by_cases hk:(k == .cell)=true
  ·rw[if_pos hk]at e1 e2
   refine YI r (n+1) ((z,n)::acc) (fun x y c h1 h2=>?_) (fun x c h=>?_) x y c e1 e2
   ·rw[List.lookup_cons]at h1 h2
    cases hx:x==z with
    |true=>
     cases hy:y==z with
     |true=>rw[beq_iff_eq.mp hx,beq_iff_eq.mp hy]
     |false=>
      rw[hx]at h1;rw[hy]at h2
      have e:n=c:=Option.some.inj h1
      exact absurd (hb y c h2) (by rw[<-e];exact Nat.lt_irrefl _)
    |false=>
     cases hy:y==z with
     |true=>
      rw[hx]at h1;rw[hy]at h2
      have e:n=c:=Option.some.inj h2
      exact absurd (hb x c h1) (by rw[<-e];exact Nat.lt_irrefl _)
     |false=>rw[hx]at h1;rw[hy]at h2;exact hi x y c h1 h2
   ·rw[List.lookup_cons]at h
    cases hx:x==z with
    |true=>rw[hx]at h;have e:n=c:=Option.some.inj h;rw[<-e];exact Nat.lt_succ_self _
    |false=>rw[hx]at h;exact Nat.lt_succ_of_lt (hb x c h)
  ·rw[if_neg hk]at e1 e2
   exact YI r n acc hi hb x y c e1 e2
theorem UP:∀(names:List (Str×NameKind)) (n:Nat) (acc:List (Str×Addr)) (x:Str),(∀p∈names,p.1=x->p.2 ≠ .cell)->(cellsFrom n names acc).lookup x=acc.lookup x
 |[],_,_,_,_=>rfl
 | (y,k)::r,n,acc,x,h=>by
  unfold cellsFrom
  by_cases hk:(k == .cell)=true
  ·rw[if_pos hk,UP r _ _ x fun p hp=>h p (List.mem_cons_of_mem _ hp),List.lookup_cons]
   cases hx:x==y with
   |true=>exact absurd (beq_iff_eq.mp hk) (h (y,k) List.mem_cons_self (beq_iff_eq.mp hx).symm)
   |false=>rfl
  ·rw[if_neg hk]
   exact UP r n acc x fun p hp=>h p (List.mem_cons_of_mem _ hp)
theorem S8 {M:Model}{A:Around}{E:Value->Shared->Prop}{s:Shared}{sc:Scope}{globals:Addr}{cl:List (Str×Addr)}{qual:Str}{outer:Env}{Q:Env->Shared->Prop}
  (hQ:Q {scope:=sc,locals:=s.heap.objs.size,globals,cells:=cellsFrom (s.heap.objs.size+1) sc.names cl,qual,func:=none,code:=outer.code,frame:=outer.frame,builtins:=outer.builtins} {s with heap:=pushCells (s.heap.push {cls:=.type "dict",data:=.dict #[]}) sc.names}):
  wpAny M A (newFunctionEnv sc globals cl [] qual none .none (some outer)) Q E s:=by
 simp only[newFunctionEnv,Option.isSome_some,if_true]
 refine wpAny_bind (wpAny_alloc (wpAny_bind (wpAny_layCells _ (fun name kind cells=>by cases hkc:kind==NameKind.cell<;>simp[hkc]) _ _ _ _ ?_)))
 rw[show ({s with heap:=s.heap.push {cls:=.type "dict",data:=.dict #[]} }:Shared).heap.objs.size=s.heap.objs.size+1 from Heap.size_push ..]
 refine wpAny_bind ?_
 rw[List.forIn_nil]
 exact wpAny_pure (wpAny_pure hQ)
abbrev ownC (X:Cx)(sc:Scope)(C:Addr):List (Str×Addr):=cellsFrom (C+1) sc.names (clOf X.env sc.names [])
abbrev Cx.blkC (X:Cx)(N:List Str)(sc:Scope)(C:Addr)(s₀:Shared)(H₀:Hp)(ex:List Addr):Cx:=
 {X with N:=N,env:=compEnvC sc (ownC X sc C) C X.env,outer:=X.stack,s₀:=s₀,H₀:=H₀,ex:=ex,fn:=fun x=>sc.names.lookup x==some .cell,pn:=[],xe:=fun _ _=>False}
theorem MX {env:Env}:∀(l:List (Str×NameKind)) (acc:List (Str×Addr)) (x:Str) (c:Addr),(x,c)∈clOf env l acc->(x,NameKind.free)∈l\/(x,c)∈acc
 |[],_,_,_,h=>.inr h
 | (n,k)::r,acc,x,c,h=>by
  unfold clOf at h
  by_cases hk:(k == .free)=true
  ·rw[if_pos hk]at h
   rcases MX r _ x c h with q|q
   ·exact .inl (List.mem_cons_of_mem _ q)
   ·rcases List.mem_cons.mp q with q|q
    ·cases q
     rw[beq_iff_eq.mp hk]
     exact .inl List.mem_cons_self
    ·exact .inr q
  ·rw[if_neg hk]at h
   rcases MX r _ x c h with q|q
   ·exact .inl (List.mem_cons_of_mem _ q)
   ·exact .inr q
structure BlkScC (X:Cx)(sc:Scope):Prop where
 kind:sc.kind=.function
 one:∀y∈sc.names,∀z∈sc.names,y.1=z.1->y.2=z.2
 loc:∀y∈sc.names,y.2=.local->sc.names.lookup y.1=some .local
 free:∀y∈sc.names,y.2=.free->X.env.kindOf y.1=some .cell\/X.env.kindOf y.1=some .free
section
variable {X:Cx} {pins:List (Addr×Obj)} {σ:St} {H:Hp} {s:Shared} {sc:Scope} {fp:List Addr}
theorem O5 (I:Inv X pins σ H s)(S:BlkScC X sc):∀p∈sc.names,p.2=.free->∃c,X.env.cells.lookup p.1=some c:=fun p hp e=>I.ok.has p.1 (S.free p hp e)
theorem GQ (I:Inv X pins σ H s)(S:BlkScC X sc){x:Str}{c:Addr}(h:(clOf X.env sc.names []).lookup x=some c):X.env.cells.lookup x=some c:=
 ME sc.names [] (O5 I S) (fun q hq=>by cases hq) (x,c) (PySem.mem_of_lookup h)
theorem Lg {C:Addr}(I:Inv X pins σ H s)(S:BlkScC X sc){x:Str}{c:Addr}(h:(ownC X sc C).lookup x=some c):C+1<=c\/X.env.cells.lookup x=some c:=by
 rcases MG _ _ _ _ _ h with q|q
 ·exact .inl q
 ·exact .inr (GQ I S q)
theorem GR {env:Env}:∀{names:List (Str×NameKind)} {x:Str} {k:NameKind},(names.map (relF env)).lookup x=some k->(k=.cell\/k=.free)->(x,NameKind.free)∈names\/names.lookup x=some .cell
 |[],_,_,h,_=>by simp at h
 | (n,k')::r,x,k,h,hk=>by
  have ih := @GR env r x k
  rw[List.map_cons]at h
  rw[List.lookup_cons]
  by_cases hb:(k'==NameKind.free&&env.scope.kind == .function&&env.kindOf n==some .cell)=true
  ·rw[MF hb,List.lookup_cons]at h
   cases hx:x==n with
   |true=>
    have e:x=n:=by simpa using hx
    subst e
    have e2:k'=.free:=by
     simp only[Bool.and_eq_true]at hb
     simpa using hb.1.1
    subst e2
    exact .inl List.mem_cons_self
   |false=>
    rw[hx]at h
    rcases ih h hk with q|q
    ·exact .inl (List.mem_cons_of_mem _ q)
    ·exact .inr q
  ·rw[P4 hb,List.lookup_cons]at h
   cases hx:x==n with
   |true=>
    rw[hx]at h
    have e:x=n:=by simpa using hx
    subst e
    have e2:k'=k:=Option.some.inj h
    subst e2
    rcases hk with rfl|rfl
    ·exact .inr rfl
    ·exact .inl List.mem_cons_self
   |false=>
    rw[hx]at h
    rcases ih h hk with q|q
    ·exact .inl (List.mem_cons_of_mem _ q)
    ·exact .inr q
theorem Ca_ {N:List Str}{C:Addr}(I:Inv X pins σ H s)(S:BlkScC X sc)(hC:s.heap.objs.size<=C)(hf:∀b∈fp,FpOk X pins H b)(ho:∀b∈fp,∃o,s.heap.get? b=some o):(X.blkC N sc C s H fp).Ok where
 mod:=I.ok.mod
 kind:=S.kind
 glob:=I.ok.glob
 blt:=I.ok.blt
 above:=hC
 inj:=fun x y c h1 h2=>by
  refine YI sc.names (C+1) (clOf X.env sc.names []) (fun x y c h1 h2=>I.ok.inj x y c (GQ I S h1) (GQ I S h2)) (fun x c h=>?_) x y c h1 h2
  obtain⟨v,q⟩:=I.cell x c (GQ I S h)
  exact Nat.lt_succ_of_lt (Nat.lt_of_lt_of_le q.lt hC)
 has:=fun x hx=>by
  have hx':(x,NameKind.free)∈sc.names\/sc.names.lookup x=some .cell:=by
   rcases hx with hx|hx
   ·exact GR (env:=X.env) hx (.inl rfl)
   ·exact GR (env:=X.env) hx (.inr rfl)
  refine Option.isSome_iff_exists.mp (PySem.W.cellsFrom_some sc.names (C+1) (clOf X.env sc.names []) ?_)
  rcases hx' with q|q
  ·obtain⟨c,hc⟩:=IP (env:=X.env) sc.names [] x (.inl q)
   obtain⟨c',e⟩:=BN hc
   exact .inr (by rw[e];rfl)
  ·exact .inl q
 cab:=fun x c h e=>by
  have hx:sc.names.lookup x=some .cell:=by simpa using h
  rcases MG _ _ _ _ _ e with q|q
  ·exact Nat.le_trans hC (Nat.le_of_succ_le q)
  ·rcases MX _ _ _ _ (PySem.mem_of_lookup q) with z|z
   ·have:=S.one _ (PySem.mem_of_lookup hx) _ z rfl
    cases this
   ·cases z
 hd:=I.ok.hd
 frames:=I.ok.frames
 stk:=.inl rfl
 exf:=fun b hb=>by
  obtain⟨o,ho⟩:=ho b hb
  refine⟨Nat.ne_of_lt (Nat.lt_of_lt_of_le (Heap.lt_size ho) hC),fun x c h=>?_⟩
  rcases Lg I S h with q|q
  ·intro z;rw[z]at q;exact absurd (Nat.lt_of_lt_of_le (Heap.lt_size ho) hC) (Nat.not_lt_of_le (Nat.le_of_succ_le q))
  ·exact (hf b hb).2.2.2.2.1 x c q
 bs:=I.bs
 bsz:=Nat.le_trans I.ok.bsz I.sz
 noex:=fun b o e hb=>by
  rcases (hf b hb).2.2.2.1 with z|z
  ·exact I.ok.noex b o e z
  ·exact absurd (Nat.lt_of_lt_of_le (Heap.lt_size (I.ok.bs b o e).1) z) (Nat.lt_irrefl _)
 exfs:=fun b hb z=>by
  rcases List.mem_cons.mp (I.stkSub b z) with e|e
  ·exact (hf b hb).2.1 e
  ·exact (hf b hb).2.2.1 e
 funs:=I.stack
 frf:=I.stkFree
theorem WA {c:Caps}{C:Addr}{s4:Shared}{m:Str->Option Value}(I:Inv X pins σ H s)(S:BlkScC X sc)(hc:FD X.N sc c)(hC:s.heap.objs.size<=C)(hf:∀b∈fp,FpOk X pins H b)(ho:∀b∈fp,∃o,s.heap.get? b=some o)
  (hos:s4.os=s.os) (hb:s4.gens=s.gens) (hk:∀b o,s.heap.get? b=some o->s4.heap.get? b=some o) (hn:s4.heap.Ns C m)
  (hcl:∀x c,(ownC X sc C).lookup x=some c->(s4.heap.IsCell c none/\C+1<=c)\/(clOf X.env sc.names []).lookup x=some c):Inv (X.blkC c.names sc C s H fp) [] (c.st σ) H s4 where
 ok:=Ca_ I S hC hf ho
 os:=hos
 bare:=by rw[hb];exact I.bare
 base:=Un.kept hk
 loc:=by
  refine⟨m,hn,fun i x v h1 h2 hv=>?_⟩
  have h1':(c.map (·.1))[i]?=some x:=h1
  have h2':(c.map fun p=>p.2.bind fun j=>(σ[j]?).join)[i]?=some (some v):=h2
  rw[List.getElem?_map]at h1' h2'
  cases e:c[i]? with
  |none=>rw[e]at h1';cases h1'
  |some p=>
   obtain⟨y,oj⟩:=p
   rw[e]at h1' h2'
   have e1:y=x:=Option.some.inj h1'
   subst e1
   have e2:(oj.bind fun j=>(σ[j]?).join)=some v:=Option.some.inj h2'
   cases oj with
   |none=>cases e2
   |some j=>
    have e3:(σ[j]?).join=some v:=e2
    have e4:σ[j]?=some (some v):=by
     cases q:σ[j]? with
     |none=>rw[q]at e3;cases e3
     |some z=>rw[q]at e3;exact congrArg some e3
    obtain⟨k1,k2⟩:=FD.get hc e
    have kmem:=PySem.mem_of_lookup k2
    have k3:X.env.kindOf y=some .cell\/X.env.kindOf y=some .free:=S.free (y,.free) kmem rfl
    have vis:Vis X.env.scope y:=by
     rcases k3 with k|k
     ·exact .inr (.inl k)
     ·exact .inr (.inr k)
    obtain⟨mX,hnX,hl⟩:=I.loc
    obtain⟨u,r,l⟩:=hl j y v k1 e4 vis
    refine⟨u,r,?_⟩
    rcases l with ⟨k,_⟩|⟨_,ca,hca,z⟩
    ·rcases k3 with k' | k'<;>(rw[k]at k';cases k')
    ·obtain⟨kd,hkd,ek⟩:=HJ (env:=X.env) k2
     have hk2:(compEnvC sc (ownC X sc C) C X.env).kindOf y=some kd:=ek
     obtain⟨c',hc'⟩:=IP (env:=X.env) sc.names [] y (.inl kmem)
     obtain⟨c2,hc2⟩:=BN hc'
     have e5:=GQ I S hc2
     rw[hca]at e5
     have e6:ca=c2:=Option.some.inj e5
     subst e6
     have e7:(ownC X sc C).lookup y=some ca:=by
      rw[UP sc.names (C+1) _ y fun p hp ep z=>?_]
      ·exact hc2
      ·have:=S.one p hp (y,.free) kmem ep
       rw[z]at this;cases this
     refine .inr ⟨?_,ca,e7,?_⟩
     ·rcases hkd with rfl|rfl
      ·exact .inl hk2
      ·exact .inr hk2
     ·obtain⟨oc,hoc,hd⟩:=z
      exact⟨oc,hk _ _ hoc,hd⟩
 cell:=fun x ca h=>by
  rcases hcl x ca h with ⟨q,_⟩|q
  ·exact⟨_,q⟩
  ·obtain⟨v,oc,hoc,hd⟩:=I.cell x ca (GQ I S q)
   exact⟨v,oc,hk _ _ hoc,hd⟩
 free:=I.hok.fresh hC
 freeC:=fun x ca h=>by
  rcases hcl x ca h with ⟨_,q⟩|q
  ·exact I.hok.fresh (Nat.le_trans hC (Nat.le_of_succ_le q))
  ·exact I.freeC x ca (GQ I S q)
 pin:=fun p hp=>absurd (show p∈([]:List (Addr×Obj)) from hp) (by simp)
 hok:=I.hok.kept hk
 len:=by show (c.map _).length=(c.map _).length;rw[List.length_map,List.length_map]
theorem Z6 {c:Caps}{C D:Addr}{s':Shared}{σ':St}{H':Hp}{o:HO}(I:Inv X pins σ H s)(J:Inv (X.blkC c.names sc C s H fp) [] σ' H' s')(hf:∀b∈fp,FpOk X pins H b)(hD:s.heap.objs.size<=D)(hn:H' D=none)
  (new:Bq X.prog X.w (upd H' D o) s'.heap D o):Inv X pins σ (upd H' D o) s':=by
 have u:Un (frs X.stack) fp H H' s.heap s'.heap:=J.base
 exact I.call' J.os (u.track hD hn) (J.hok.track hn new) J.bare fun b hb=>⟨(hf b hb).2.2.2.1,(hf b hb).2.1,(hf b hb).2.2.2.2.1,(hf b hb).2.2.2.2.2⟩
end
section
variable {X:Cx} {tg iter elt:Expr} {ifs:List Expr} {sc:Scope} {pos:Pos} {wi:TI} {cp:Caps} {g:TG} {tc:TT} {te:TE}
theorem WB (hc:X.calm=true)(S:BlkScC X sc)(hcp:FD X.N sc cp)
  (hg:∀C s₀ H₀ ex,PG (X.blkC cp.names sc C s₀ H₀ ex) tg g) (hf:∀C s₀ H₀ ex,PF (X.blkC cp.names sc C s₀ H₀ ex) ifs tc) (he:∀C s₀ H₀ ex,PE (X.blkC cp.names sc C s₀ H₀ ex) elt te)
  {pins:List (Addr×Obj)} {σ:St} {H:Hp} {s:Shared} {J:It} {it:Addr} {fp:List Addr} {tn:Nat->Heap->Prop} {Q:VK} {RR:Value->Addr->Result->Shared->Prop} {E:Value->Shared->Prop}
  (I:Inv X pins σ H s) (T:Turn X.prog X.w X.K tg J fp it tn) (st:tn 0 s.heap) (fpo:∀b∈fp,FpOk X pins H b)
  (hw:∃W:Nat->Nat->List V->St->Hp->Prop,(∃m,W 0 m [] (cp.st σ) H)/\∀i m ys σ' H',W i m ys σ' H' ->
   ys.length<sizeLine/\((J.stop i H'/\∀D,H' D=none->Q (.ref D) (upd H' D (.lst ys)))\/(J.go i H'/\∃N:List V->St->Hp->Prop,(∀zs σ2 H2,N zs σ2 H2->∃m',m'<m/\W (i+1) m' zs σ2 H2)/\∀x H2,J.yld i H' x H2->g x σ' H2 fun σ2 H3=>tc σ2 H3 fun b H4=>
    if b=true then te σ2 H4 fun v H5=>N (ys++[v]) σ2 H5 else N ys σ2 H4)))
  (hR:∀D C s' H' (m:Str->Option Value),Inv X pins σ H' s'->Q (.ref D) H'->s'.heap.Ns C m->H' C=none->C≠X.env.locals->X.s₀.heap.objs.size<=C->(∀x c,X.env.cells.lookup x=some c->c≠C)->(∀p∈X.pn++pins,p.1≠C)->RR (.ref D) C (.ok .next) s'):
  wpAny (model X.prog X.w) X.A (newList []) (fun acc s₃=>wpAny (model X.prog X.w) X.A (newFunctionEnv sc X.env.globals (clOf X.env sc.names []) [] X.env.qual none .none (some X.env)) (fun cenv s₄=>
   codeAny (model X.prog X.w) X.A (.compStart (.ListComp elt [⟨tg,iter,ifs,0⟩] sc pos) 0 (.ref it) acc {cenv with scope:=relabel sc X.env}) (RR acc cenv.locals) s₄) E s₃) E s:=by
 obtain⟨W,⟨m0,w0⟩,turn⟩:=hw
 refine wpAny_newObj_type (S8 ?_)
 dsimp only
 generalize hH2:s.heap.push {cls:=.type "list",dict:=none,data:=.seq ([]:List Value).toArray}=H2
 obtain⟨h₁,hh₁⟩:∃h₁,h₁=pushCells (H2.push {cls:=.type "dict",data:=.dict #[]}) sc.names:=⟨_,rfl⟩
 rw[<-hh₁]
 have hcells:∀x c,(ownC X sc H2.objs.size).lookup x=some c->(h₁.IsCell c none/\H2.objs.size+1<=c)\/(clOf X.env sc.names []).lookup x=some c:=fun x c e=>by
  have:=UO sc.names (H2.push {cls:=.type "dict",data:=.dict #[]}) (clOf X.env sc.names []) x c (by rw[Heap.size_push];exact e)
  rw[Heap.size_push]at this
  rw[hh₁];exact this
 have hns₁:h₁.Ns H2.objs.size (fun _=>none):=by rw[hh₁];exact (Heap.Ns.new H2 (.type "dict")).keeps (pushCells_keeps _ _)
 have keep₁:∀b o,H2.get? b=some o->h₁.get? b=some o:=fun b o e=>by rw[hh₁];exact pushCells_keeps _ _ b o (Heap.get?_push_of_some _ e)
 have hC:H2.objs.size=s.heap.objs.size+1:=by rw[<-hH2,Heap.size_push]
 have hDC:s.heap.objs.size≠H2.objs.size:=by rw[hC];exact Nat.ne_of_lt (Nat.lt_succ_self _)
 have hCle:s.heap.objs.size<=H2.objs.size:=by rw[hC];exact Nat.le_succ _
 have below:∀b,b<s.heap.objs.size->b≠H2.objs.size:=fun b hb=>by rw[hC];exact Nat.ne_of_lt (Nat.lt_succ_of_lt hb)
 have old:∀b o,s.heap.get? b=some o->h₁.get? b=some o:=fun b o e=>keep₁ b o (hH2 ▸ Heap.get?_push_of_some _ e)
 have hacc:h₁.get? s.heap.objs.size=some {cls:=.type "list",data:=.seq ([]:List Value).toArray 0}:=keep₁ _ _ (hH2 ▸ Heap.get?_push_size _ rfl)
 have hst₁:tn 0 h₁:=T.keep 0 _ _ st fun b _ o e=>old b o e
 have hobj:∀b∈fp,∃o,s.heap.get? b=some o:=fun b hb=>let ⟨o,e,_⟩:=T.obj 0 _ st b hb;⟨o,e⟩
 have J0:Inv (X.blkC cp.names sc H2.objs.size s H fp) [] (cp.st σ) H {s with heap:=h₁}:=WA I S hcp hCle fpo hobj rfl rfl old hns₁ hcells
 have nfs:∀b,s.heap.objs.size<=b->b∉frs X.stack:=fun b hb z=>by
  rcases List.mem_cons.mp (I.stkSub b z) with e|e
  ·exact absurd (Nat.lt_of_lt_of_le I.lt (by rw[<-e];exact hb)) (Nat.lt_irrefl _)
  ·exact I.nofs hb e
 have ncell:∀b,s.heap.objs.size<=b->∀x c,X.env.cells.lookup x=some c->c≠b:=fun b hb x c e z=>by
  obtain⟨v,q⟩:=I.cell x c e
  exact absurd (Nat.lt_of_lt_of_le q.lt (by rw[z];exact hb)) (Nat.lt_irrefl _)
 have fpb:∀{pins':List (Addr×Obj)} {H':Hp},(∀b∈fp,H' b=none)->(∀p∈pins',p.1∉fp)->∀b∈fp,FpOk (X.blkC cp.names sc H2.objs.size s H fp) pins' H' b:=fun {pins' H'} hn hp b hb=>by
  obtain⟨o,e⟩:=hobj b hb
  refine⟨hn b hb,below b (Heap.lt_size e),fun z=>?_,.inl hb,fun x c h=>(by
   rcases Lg I S h with q|q
   ·intro z;rw[z]at q;exact absurd (Heap.lt_size e) (Nat.not_lt_of_le (Nat.le_trans hCle (Nat.le_of_succ_le q)))
   ·exact (fpo b hb).2.2.2.2.1 x c q),fun p hp' z=>?_⟩
  ·rcases List.mem_cons.mp (I.stkSub b z) with e|e
   ·exact (fpo b hb).2.1 e
   ·exact (fpo b hb).2.2.1 e
  ·have hp'':p∈pins':=by simpa using hp'
   exact hp p hp'' (by rw[z];exact hb)
 have loop:∀s₃:Shared,s₃={s with heap:=h₁} ->
   codeAny (model X.prog X.w) X.A (.compLoop (.ListComp elt [⟨tg,iter,ifs,0⟩] sc pos) 0 (.ref it) (.ref s.heap.objs.size) (compEnvC sc (ownC X sc H2.objs.size) H2.objs.size X.env))
    (RR (.ref s.heap.objs.size) H2.objs.size) s₃:=by
  rintro s₃ rfl
  refine LQ (fun n s'=>∃i σ' H' ys its k,Inv (X.blkC cp.names sc H2.objs.size s H fp) [] σ' H' s'/\tn i s'.heap/\(∀b∈fp,H' b=none)/\H' s.heap.objs.size=none /\
   s'.heap.get? s.heap.objs.size=some {cls:=.type "list",data:=.seq its.toArray k}/\Vals ys its/\W i n ys σ' H') ?_ m0
   ⟨0,_,H,[],[],0,J0,hst₁,fun b hb=>(fpo b hb).1,I.hok.fresh (Nat.le_refl _),hacc,.nil,w0⟩
  rintro n s3 ⟨i,σ3,H3,ys,its,k,I3,st3,fr3,hD3,e3,rv,w3⟩
  obtain⟨hz,tr⟩:=turn i n ys σ3 H3 w3
  have hlen:=rv.length
  -- the accumulator stands still while anything else runs
  have dpin:∀p ∈ [(s.heap.objs.size,({cls:=.type "list",data:=.seq its.toArray k}:Obj))],p.1∉fp:=fun p hp z=>by
   have e:p=_:=List.mem_singleton.mp hp
   subst e
   obtain⟨o,e⟩:=hobj _ z
   exact absurd (Heap.lt_size e) (Nat.lt_irrefl _)
  have I3':Inv (X.blkC cp.names sc H2.objs.size s H fp) [(s.heap.objs.size,({cls:=.type "list",data:=.seq its.toArray k}:Obj))] σ3 H3 s3:=I3.pins_of fun p hp=>by
   have e:p=_:=List.mem_singleton.mp hp
   subst e
   exact⟨e3,hD3,hDC,nfs _ (Nat.le_refl _),fun v z=>by cases z⟩
  have stat:∀b∈fp,FpOk (X.blkC cp.names sc H2.objs.size s H fp) [(s.heap.objs.size,({cls:=.type "list",data:=.seq its.toArray k}:Obj))] H3 b:=fpb fr3 dpin
  rcases tr with ⟨stop,qn⟩|⟨go,N,hN,step⟩
  ·refine thn (T.done (X.blkC cp.names sc H2.objs.size s H fp) rfl rfl rfl hc i _ s3 σ3 H3 _ I3' stat st3 stop) fun r s4 ⟨hr,I4⟩=>?_
   subst hr
   obtain⟨e4,n4,_⟩:=I4.pin (s.heap.objs.size,({cls:=.type "list",data:=.seq its.toArray k}:Obj)) (by simp)
   have new:Bq X.prog X.w (upd H3 s.heap.objs.size (.lst ys)) s4.heap s.heap.objs.size (.lst ys):=⟨Nat.le_of_lt hz,its,k,rv,e4⟩
   obtain⟨mC,hnC,_⟩:=I4.loc
   have I4':Inv (X.blkC cp.names sc H2.objs.size s H fp) [] σ3 H3 s4:=I4.pins_of fun p hp=>by cases hp
   have I5:=Z6 I I4' fpo (Nat.le_refl _) n4 new
   refine hR _ _ s4 _ mC I5 (qn _ n4) hnC ?_ (Nat.ne_of_gt (Nat.lt_of_lt_of_le I.lt hCle)) (Nat.le_trans I.sz hCle) (ncell _ hCle) fun p hp z=>?_
   ·rw[Aw (Ne.symm hDC)];exact I4.free
   ·exact absurd (Nat.lt_of_lt_of_le (Heap.lt_size (I.pin p hp).1) (by rw[z];exact hCle)) (Nat.lt_irrefl _)
  ·refine thn (T.item (X.blkC cp.names sc H2.objs.size s H fp) rfl rfl rfl hc i _ s3 σ3 H3 _ I3' stat st3 go) fun r s4 ⟨u,hr,h4⟩=>?_
   subst hr
   refine thn h4 fun _ s5 ⟨x,H5,I5,r5,y5,st5,fr5⟩=>?_
   have I5':=I5.pinned (fpb fr5 dpin) (T.obj _ _ st5)
   have fin:∀{σ7:St} {H7:Hp} {s7:Shared},Inv (X.blkC cp.names sc H2.objs.size s H fp) ([(s.heap.objs.size,({cls:=.type "list",data:=.seq its.toArray k}:Obj))]++O1 fp s5.heap) σ7 H7 s7 ->
     s7.heap.get? s.heap.objs.size=some {cls:=.type "list",data:=.seq its.toArray k}/\H7 s.heap.objs.size=none/\(∀b∈fp,H7 b=none)/\∀b∈fp,∀o,s5.heap.get? b=some o->s7.heap.get? b=some o:=fun {σ7 H7 s7} I7=>by
    obtain⟨e7,n7,_⟩:=I7.pin (s.heap.objs.size,({cls:=.type "list",data:=.seq its.toArray k}:Obj)) (by simp)
    refine⟨e7,n7,fun b hb=>?_,fun b hb o e=>?_⟩
    ·obtain⟨o,e,_⟩:=T.obj _ _ st5 b hb
     exact (I7.pin (b,o) (List.mem_append_right _ (List.mem_append_right _ (Fx hb e)))).2.1
    ·exact (I7.pin (b,o) (List.mem_append_right _ (List.mem_append_right _ (Fx hb e)))).1
   refine wpAny_mono (hg _ _ _ _ _ s5 σ3 H5 x u _ I5' r5 (step x H5 y5)) (fun _ s6 ⟨σ6,H6,I6,q6⟩=>?_) fun _ _ z=>False.elim z
   refine wpAny_mono (hf _ _ _ _ _ s6 σ6 H6 _ I6 q6) (fun ok s7 ⟨H7,I7,q7⟩=>?_) fun _ _ z=>False.elim z
   cases ok with
   |false=>
    rw[if_neg Bool.false_ne_true]
    rw[if_neg Bool.false_ne_true]at q7
    obtain⟨m',hm,w7⟩:=hN _ _ _ q7
    obtain⟨e7,n7,fr7,k7⟩:=fin I7
    exact⟨m',hm,i+1,σ6,H7,ys,its,k,I7.pins_of (fun p hp=>by cases hp),T.keep _ _ _ st5 k7,fr7,n7,e7,rv,w7⟩
   |true=>
    rw[if_pos rfl]
    rw[if_pos rfl]at q7
    refine wpAny_mono (he _ _ _ _ _ s7 σ6 H7 _ I7 q7) (fun v s8 ⟨y,H8,I8,r8,q8⟩=>?_) fun _ _ z=>False.elim z
    obtain⟨m',hm,w8⟩:=hN _ _ _ q8
    obtain⟨e8,n8,fr8,k8⟩:=fin I8
    refine call_meets F.slot_list_append ⟨_,e8,rfl⟩ F.entry_list_append (F.args_list_append_2 _ _) (PySem.list_append s.heap.objs.size its.toArray k v (by rw[List.size_toArray];omega)) ⟨e8,?_⟩
    obtain⟨k',q⟩:∃k',(s8.heap.update s.heap.objs.size (Obj.mapSeq fun x=>x.push v)).get? s.heap.objs.size=some {cls:=.type "list",data:=.seq (its++[v]).toArray k' }:=⟨_,by
     have q:=PySem.IsL.update e8 fun x=>x.push v
     have e:(its++[v]).toArray=its.toArray.push v:=by simp
     rw[e]
     exact q⟩
    have I8':Inv (X.blkC cp.names sc H2.objs.size s H fp) [] σ6 H8 s8:=I8.pins_of fun p hp=>by cases hp
    have I9:Inv (X.blkC cp.names sc H2.objs.size s H fp) [] σ6 H8 {s8 with heap:=s8.heap.update s.heap.objs.size (Obj.mapSeq fun x=>x.push v),toks:=s8.toks}:=
     I8'.turned (it:=s.heap.objs.size) (fun b o hb e=>(Heap.get?_update_other _ _ (Ne.symm hb)).trans e) n8 hDC (.inr (Nat.le_refl _)) (fun x c e=>by
      rcases Lg I S e with q|q
      ·intro z;rw[z]at q;exact absurd (Nat.le_trans q hCle) (Nat.not_succ_le_self _)
      ·exact ncell _ (Nat.le_refl _) x c q) (fun p hp=>by cases hp)
    refine⟨m',hm,i+1,σ6,H8,ys++[y],its++[v],k',I9,T.keep (i+1) s5.heap _ st5 (fun b hb o e=>?_),fr8,n8,q,rv.append (.cons r8 .nil),w8⟩
    ·refine (Heap.get?_update_other _ _ ?_).trans (k8 b hb o e)
     intro z
     obtain⟨ob,eb⟩:=hobj b hb
     exact absurd (Heap.lt_size eb) (by rw[<-z];exact Nat.lt_irrefl _)
 exact codeAny_compStart_list (loop _ rfl) (T.self _ 0 _ _ _ hst₁ (loop _ rfl))
theorem VX (hc:X.calm=true)(S:BlkScC X sc)(hcp:FD X.N sc cp)(hi:PI X tg iter wi)
  (hg:∀C s₀ H₀ ex,PG (X.blkC cp.names sc C s₀ H₀ ex) tg g) (hf:∀C s₀ H₀ ex,PF (X.blkC cp.names sc C s₀ H₀ ex) ifs tc) (he:∀C s₀ H₀ ex,PE (X.blkC cp.names sc C s₀ H₀ ex) elt te)
  (hs:∀x,foldedSetIterable iter X.env x=pure x:=by intro _;rfl):PE X (.ListComp elt [⟨tg,iter,ifs,0⟩] sc pos) (ZS wi cp g tc te):=by
 intro pins s σ H Q I h
 rw[eval_ListComp]
 refine wpAny_comprehension_free (use:=none) rfl hs (Ld (O5 I S)) S.kind S.loc (thn (hi pins s σ H _ I h) fun xv s₁ h₁=>thn h₁ fun itv s₂ h₂=>?_)
 obtain⟨it,fp,tn,J,H2,e,I2,T,st2,f2,hw⟩:=h₂
 subst e
 refine WB (RR:=fun acc C=>compPost (model X.prog X.w) X.A X.xe none (EP X pins σ Q) acc C) hc S hcp hg hf he I2 T st2 f2 hw ?_
 intro D C s' H' m I' q hn hC hL hz hcl hp
 exact⟨m,hn,fun h' hs'=>⟨.ref D,H',I'.turned (t':=s'.toks) (it:=C) (fun b o hb e=>hs'.extBut b o hb e) hC hL (.inr hz) hcl hp,rfl,q⟩⟩
end
def Br_ (outer:List (Str×NameKind))(sc:Scope):Bool:=
 sc.kind == .function&&sc.names.all (fun y=>(y.2 != .local||sc.names.lookup y.1==some .local)&&(y.2 != .free||outer.lookup y.1==some .cell||outer.lookup y.1==some .free)&&sc.names.all fun z=>y.1 != z.1||y.2==z.2)
theorem YJ {X:Cx}{sc:Scope}(h:Br_ X.env.scope.names sc=true):BlkScC X sc:=by
 unfold Br_ at h
 rw[Bool.and_eq_true,List.all_eq_true]at h
 obtain⟨h1,h2⟩:=h
 refine⟨by simpa using h1,fun y hy z hz e=>?_,fun y hy z=>?_,fun y hy z=>?_⟩
 ·have:=h2 y hy
  simp only[Bool.and_eq_true,List.all_eq_true]at this
  have:=this.2 z hz
  rw[e]at this
  simpa using this
 ·have:=h2 y hy
  simp only[Bool.and_eq_true]at this
  have:=this.1.1
  rw[z]at this
  simpa using this
 ·have:=h2 y hy
  simp only[Bool.and_eq_true]at this
  have:=this.1.2
  rw[z]at this
  have t:(X.env.scope.names.lookup y.1==some .cell||X.env.scope.names.lookup y.1==some .free)=true:=by simpa using this
  rw[Bool.or_eq_true]at t
  rcases t with t|t
  ·exact .inl (by show X.env.scope.names.lookup y.1=some .cell;simpa using t)
  ·exact .inr (by show X.env.scope.names.lookup y.1=some .free;simpa using t)
end L2
namespace L2
open PySem PySem.Spec PyProof.Rows GW
def Fn (K:PySem.W.Frag)(H:Hp)(xs:List V)(ws:List (List Int)):Prop:=xs.length=ws.length/\∀(i:Nat) (w:List Int),ws[i]?=some w->∃t,xs[i]?=some (.ref t)/\H t=some (.tup (w.map V.int))
theorem Fn.mono {K:PySem.W.Frag}{H H':Hp}{xs:List V}{ws:List (List Int)}(h:Fn K H xs ws)(k:TK H H'):Fn K H' xs ws:=by
 refine⟨h.1,fun i w hw=>?_⟩
 obtain⟨t,a,b⟩:=h.2 i w hw
 exact⟨t,a,k _ _ b⟩
theorem Fn.at {K:PySem.W.Frag}{H:Hp}{xs:List V}{ws:List (List Int)}(h:Fn K H xs ws){i:Nat}{x:V}(hx:xs[i]?=some x):∃t w,ws[i]?=some w/\x=.ref t/\H t=some (.tup (w.map V.int)):=by
 have hi:i<ws.length:=by rw[<-h.1];exact (List.getElem?_eq_some_iff.mp hx).1
 obtain⟨t,a,b⟩:=h.2 i ws[i] (by simp[hi])
 rw[hx]at a
 exact⟨t,ws[i],by simp[hi],Option.some.inj a,b⟩
theorem Fn.eq {K:PySem.W.Frag}{H:Hp}{xs ys:List V}{ws:List (List Int)}{a b:Addr}(h:Fn K H xs ws)(g:Fn K H ys ws)(ha:SqL K H a xs)(hb:SqL K H b ys)(n:Nat):EqD K H (n+2) (.ref a) (.ref b) true:=by
 refine .inr ⟨a,b,xs,ys,rfl,rfl,.inl ⟨ha,hb⟩,fun _=>true,fun i x y hx hy=>?_,by rw[h.1,g.1];simp⟩
 obtain⟨t,w,e1,rfl,e2⟩:=h.at hx
 obtain⟨u,w',f1,rfl,f2⟩:=g.at hy
 rw[e1]at f1
 cases f1
 have:=EqD.ints (K:=K) (H:=H) (a:=t) (c:=u) (xs:=w) (ys:=w) (.inr ⟨SqT.of e2,SqT.of f2⟩) n
 rw[decide_eq_true rfl]at this
 exact this
def rInW (K:PySem.W.Frag)(neg:Bool):R2:=fun x y H Q=>∃p t xs w ws,y=.ref p/\x=.ref t/\SqL K H p xs/\Fn K H xs ws/\SqT K H t (w.map V.int)/\Q (.bl (if neg then !decide (w∈ws) else decide (w∈ws))) H
theorem DH_ {K:PySem.W.Frag}{neg:Bool}{x y:V}{H:Hp}{Q:VK}:rInW K neg x y H Q=∃p t xs w ws,y=.ref p/\x=.ref t/\SqL K H p xs/\Fn K H xs ws/\SqT K H t (w.map V.int)/\Q (.bl (if neg then !decide (w∈ws) else decide (w∈ws))) H:=rfl
theorem Z7 {X:Cx}{pins:List (Addr×Obj)}{σ:St}{H:Hp}{s:Shared}{p t:Addr}{xs:List V}{w:List Int}{ws:List (List Int)}(hu:X.A.units+8<cLine)(I:Inv X pins σ H s)(hp:SqL X.K H p xs)(hw:Fn X.K H xs ws)(ht:SqT X.K H t (w.map V.int)):
  ∃(its:Array Value) (e:Value->Bool),s.heap.IsList p its/\(∀y,y∈its->SeqAt.EqAt X.A.in1 s y (.ref t) (e y))/\its.any e=decide (w∈ws):=by
 obtain⟨its,r,pl,_⟩:=I.list hp
 have hl:=r.length
 let e:Value->Bool:=fun y => @decide (∃(i:Nat) (a:Addr),y=.ref a/\xs[i]?=some (.ref a)/\ws[i]?=some w) (Classical.propDecidable _)
 have ee:∀(i:Nat) (a:Addr) (v:List Int),xs[i]?=some (.ref a)->ws[i]?=some v->e (.ref a)=decide (v=w):=fun i a v hx hv=>by
  obtain⟨a',a1,a2⟩:=hw.2 i v hv
  rw[hx]at a1
  cases a1
  rw[Bool.eq_iff_iff]
  show @decide _ (Classical.propDecidable _)=true↔_
  rw[@decide_eq_true_iff _ (Classical.propDecidable _),decide_eq_true_eq]
  constructor
  ·rintro⟨j,b,hb,hxj,hwj⟩
   cases hb
   obtain⟨b',b1,b2⟩:=hw.2 j w hwj
   rw[hxj]at b1
   cases b1
   rw[a2]at b2
   have:=Option.some.inj b2
   injection this with this
   exact (List.map_inj_right (fun x y z=>V.int.inj z)).mp this
  ·rintro rfl
   exact⟨i,a,rfl,hx,hv⟩
 refine⟨its.toArray,e,pl.isList,fun y hy=>?_,?_⟩
 ·have hy':y∈its:=by simpa using hy
  obtain⟨i,hi,ei⟩:=List.getElem_of_mem hy'
  have hix:i<xs.length:=by omega
  obtain⟨u,hu',ru⟩:=r.get (i:=i) (x:=xs[i]) (by simp[hix])
  rw[List.getElem?_eq_getElem hi,ei]at hu'
  cases hu'
  obtain⟨a,v,e1,e2,e3⟩:=hw.at (i:=i) (x:=xs[i]) (by simp[hix])
  rw[e2]at ru
  cases ru
  rw[ee i a v (by rw[List.getElem?_eq_getElem hix,e2]) e1]
  exact (EqD.at (x:=V.ref a) (y:=V.ref t) I 2 X.A.in1 (by rw[in1_units];omega) rfl rfl (EqD.ints (xs:=v) (ys:=w) (.inr ⟨SqT.of e3,ht⟩) 1)).1
 ·rw[Bool.eq_iff_iff,decide_eq_true_eq]
  rw[show its.toArray.any e=its.any e by simp,List.any_eq_true]
  constructor
  ·rintro⟨y,hy,hey⟩
   obtain⟨j,b,_,_,hwj⟩:=(@decide_eq_true_iff _ (Classical.propDecidable _)).mp hey
   exact List.mem_of_getElem? hwj
  ·intro hm
   obtain⟨i,hi,ei⟩:=List.getElem_of_mem hm
   obtain⟨a,a1,a2⟩:=hw.2 i w (by rw[List.getElem?_eq_getElem hi,ei])
   obtain⟨u,hu',ru⟩:=r.get a1
   cases ru
   refine⟨.ref a,List.mem_of_getElem? hu',?_⟩
   rw[ee i a w a1 (by rw[List.getElem?_eq_getElem hi,ei])]
   simp
theorem YK {X:Cx}(hu:X.A.units+8<cLine):OpR X (compareOp .NotIn) (rInW X.K true):=by
 intro pins s σ H x y v u Q I rx ry h
 obtain⟨p,t,xs,w,ws,rfl,rfl,hp,hw,ht,q⟩:=h
 cases ry
 cases rx
 obtain⟨its,e,h1,h2,h3⟩:=Z7 hu I hp hw ht
 refine SeqAt.notIn_listAt e h1 h2 ⟨.bl _,H,I,rfl,?_⟩
 rw[h3]
 exact q
theorem Dv.ofS {K:PySem.W.Frag}{H:Hp}{Q:VK}{a b:Addr}{xs ys:List V}(ha:H a=some (.tup xs))(hb:H b=some (.tup ys))(hz:xs.length+ys.length<=sizeLine)(h:∀p H',Same H H'->H' p=some (.tup (xs++ys))->Q (.ref p) H'):Dv K (.ref a) (.ref b) H Q:=by
 refine⟨a,b,xs,ys,rfl,rfl,SqT.of ha,SqT.of hb,hz,fun e=>?_,fun _ e=>?_,fun _ _ p hp=>h p _ (Same.new hp) Ac⟩
 ·subst e;exact h b H (Same.refl _) (by simpa using hb)
 ·subst e;exact h a H (Same.refl _) (by simpa using ha)
theorem Inv.unL {X:Cx}{pins:List (Addr×Obj)}{σ:St}{H:Hp}{s:Shared}{h':Heap}{fp:List Addr}(I:Inv X pins σ H s)(k:∀b o,b∉fp->s.heap.get? b=some o->h'.get? b=some o)(f:∀b∈fp,FpOk X pins H b):Un (frs X.stack) fp H H s.heap h'/\HOk X.prog X.w H h':=by
 have ne:∀b u,H b=some u->b∉fp:=fun b u q hb=>by rw[(f b hb).1]at q;cases q
 refine⟨⟨fun b o q _ _ hb=>k b o hb q,fun b o q _ _ hb=>⟨o.slots,k b o hb q⟩,fun _ _ _ n _=>n,fun b o q hb=>⟨o,k b o hb q⟩,fun _ _ q=>q,fun _ _ _ q=>q,fun b ps q=>⟨#[],by rw[q];simp⟩⟩,fun b u q=>?_⟩
 refine (I.hok b u q).stay (fun c v hc qv=>?_) (fun _ q=>q) fun _ _ q=>q
 have hne:c∉fp:=by
  rcases hc with rfl|hc
  ·exact ne _ _ q
  ·exact ne _ _ hc
 exact k c v hne qv
end L2
namespace GW
def ins (s:List (List Int))(w:List Int):List (List Int):=if w∈s then s else s++[w]
end GW
namespace L2
open PySem PySem.Spec PyProof.Rows GW
def wkey (w:List Int):List Key:=w.map Sum.inl
theorem UQ (w:List Int):(wkey w).map kV=w.map V.int:=by unfold wkey;rw[List.map_map];rfl
theorem Z8 {v w:List Int}(h:wkey v=wkey w):v=w:=(List.map_inj_right (fun x y z=>Sum.inl.inj z)).mp h
def S9 (ws:List (List Int))(kvs:List (List Key×V)):Prop:=kvs.map (·.1)=ws.map wkey
theorem S9.len {ws:List (List Int)}{kvs:List (List Key×V)}(h:S9 ws kvs):kvs.length=ws.length:=by
 have:=congrArg List.length h
 simpa using this
theorem S9.some_iff {ws:List (List Int)}{kvs:List (List Key×V)}(h:S9 ws kvs)(w:List Int):(valV kvs (wkey w)).isSome=decide (w∈ws):=by
 rw[<-J5,Bool.eq_iff_iff,decide_eq_true_eq,List.any_eq_true]
 constructor
 ·rintro⟨kv,hkv,e⟩
  have e:=of_decide_eq_true e
  have:wkey w∈ws.map wkey:=by rw[<-h,<-e];exact List.mem_map.mpr ⟨kv,hkv,rfl⟩
  obtain⟨q,hq,e2⟩:=List.mem_map.mp this
  exact Z8 e2 ▸ hq
 ·intro hw
  have:wkey w∈kvs.map (·.1):=by rw[h];exact List.mem_map.mpr ⟨w,hw,rfl⟩
  obtain⟨kv,hkv,e⟩:=List.mem_map.mp this
  exact⟨kv,hkv,decide_eq_true e⟩
theorem S9.words {K:PySem.W.Frag}{H:Hp}{ws:List (List Int)}{kvs:List (List Key×V)}{rs:List V}(h:S9 ws kvs)(hl:rs.length=kvs.length)(hr:∀(i:Nat) (k:List Key) (v:V),kvs[i]?=some (k,v)->∃b,rs[i]?=some (V.ref b)/\H b=some (.tup (k.map kV))):Fn K H rs ws:=by
 refine⟨by rw[hl,h.len],fun i w hw=>?_⟩
 have hi:i<kvs.length:=by rw[h.len];exact (List.getElem?_eq_some_iff.mp hw).1
 have e:(kvs.map (·.1))[i]?=some (wkey w):=by rw[h,List.getElem?_map,hw];rfl
 rw[List.getElem?_map,List.getElem?_eq_getElem hi]at e
 have e:kvs[i].1=wkey w:=Option.some.inj e
 obtain⟨b,b1,b2⟩:=hr i kvs[i].1 kvs[i].2 (by simp[hi])
 exact⟨b,b1,by rw[b2,e,UQ]⟩
end L2
namespace PySem.W
open PySem PySem.Calls PyProof.Rows PyProof.V PySem.Spec
end PySem.W
namespace L2
open PySem PySem.Spec PyProof.Rows
theorem VY {P:Program}{w:World}{H:Hp}{h:Heap}{a:Addr}{kvs:List (List Key×V)}(ok:HOk P w H h)(e:Rd H a (.dT kvs)):
  ∃o es ep,h.get? a=some o/\o.ExactDict/\o.data=.dict es ep/\es.size=kvs.length/\(a==sysModules)=false/\kvs.length<=sizeLine /\
   ∀(i:Nat) (k:List Key) (v:V),kvs[i]?=some (k,v)->∃b en,es[i]?=some en/\en.key=.ref b/\H b=some (.tup (k.map kV))/\RelV v en.val:=by
 obtain⟨z,y,xs,r,o,es,ep,h1,h2,h3,h4,h5⟩:=(show Bq P w H h a (.dT kvs) from ZN ok e)
 have hl:=Paired.length r
 have hs:es.size=kvs.length:=by rw[<-Array.length_toList,h4,List.length_map,hl]
 refine⟨o,es,ep,h1,h2,h3,hs,y,z,fun i k v hk=>?_⟩
 obtain⟨q,hq,e1,e2,e3⟩:=IQ r hk
 refine⟨q.2.1,entryOfKey (tupleKind (B8 P w)) q,?_,rfl,e2,e3⟩
 rw[<-Array.getElem?_toList,h4,List.getElem?_map,hq];rfl
def ents (es:List (List Int×Int)):List (List Key×V):=es.map fun e=>(wkey e.1,V.int e.2)
theorem Qb {X:Cx}(hc:X.calm=true):HH X (.builtin "sum") (fun xs H Q=>∃(p:Addr) (ns:List Int),xs=[.ref p]/\SqL X.K H p (ns.map V.int)/\Q (.int ns.sum) H):=by
 intro pins s σ H xs us Q I r h
 obtain⟨p,ns,rfl,hq,q⟩:=h
 obtain⟨u,rfl,rx⟩:=vals1 r
 cases rx
 obtain⟨its,r',pl,_⟩:=I.list hq
 have i1:IntsAre its ns:=by simpa using intsAre_of r'
 obtain⟨ys,e⟩:=i1.allInts.items
 have e2:=i1.numsOf
 rw[show its=its.toArray.toList from rfl,e,nums_intItems]at e2
 have hl:=pl.isList
 rw[e]at hl
 refine sum_intListG (I.ok.hd hc) hl fun h' tk t' hk=>?_
 rw[preSum_eq,List.take_of_length_le (by simp),e2]
 exact⟨.int ns.sum,H,I.kept hk,⟨_,rfl⟩,q⟩
end L2
namespace L2
open PySem PySem.W PySem.Spec PySem.Calls PyProof.Rows
theorem P7.ofS {K:PySem.W.Frag}{H:Hp}{Q:VK}{l:Addr}{k:Int}{xs:List V}(hq:H l=some (.tup xs))(hne:xs ≠ [])(h1 : -(2 ^ 63)<=k)(h2:k<2 ^ 63)(hz:xs.length*k.toNat<=sizeLine)(h:∀p H',Same H H'->H' p=some (.tup (List.replicate k.toNat xs).flatten)->Q (.ref p) H'):P7 K (.ref l) (.int k) H Q:=by
 refine⟨l,k,xs,rfl,rfl,SqT.of hq,hne,h1,h2,hz,fun e=>?_,fun _ p hp=>h p _ (Same.new hp) Ac⟩
 subst e
 exact h l H (Same.refl _) (by simpa using hq)
end L2
namespace PrimeO
def GS (p:Nat):Prop:=∀d,2<=d->d<p->p%d≠0
theorem GS.small {p k:Nat}(hp:2<=p)(hk:p<k*k)(h:∀d,2<=d->d<k->d<p->p%d≠0):GS p:=by
 intro d h1 h2 h3
 by_cases hd:d<k
 ·exact h d h1 hd h2 h3
 ·have e:d*(p / d)=p:=by have:=Nat.div_add_mod p d;omega
  generalize p / d=q at e
  have hq0:q≠0:=fun z=>by rw[z]at e;omega
  have hq1:q≠1:=fun z=>by rw[z]at e;omega
  have hqk:q<k:=by
   refine Nat.lt_of_not_le fun z=>?_
   have:=Nat.mul_le_mul (Nat.le_of_not_lt hd) z
   omega
  refine h q (by omega) hqk ?_ (by rw[<-e];exact Nat.mul_mod_left d q)
  have:2*q<=d*q:=Nat.mul_le_mul_right q h1
  omega
def chk (p lo:Nat):Nat->Bool
 |0=>(Nat.beq (Nat.mod p lo) 0).not
 |n+1=>(chk p lo n).and (chk p (Nat.add lo (Nat.pow 2 n)) n)
theorem Qc (p:Nat):∀(n lo:Nat),chk p lo n=true->∀d,lo<=d->d<lo+2 ^ n->p%d≠0
 |0,lo,h,d,h1,h2=>by
  have:d=lo:=by simp at h2;omega
  subst this
  intro z
  have z':Nat.mod p d=0:=z
  unfold chk at h
  rw[z']at h
  simp at h
 |n+1,lo,h,d,h1,h2=>by
  unfold chk at h
  have h':=Bool.and_eq_true_iff.mp h
  by_cases hd:d<lo+2 ^ n
  ·exact Qc p n lo h'.1 d h1 hd
  ·have e:lo+2 ^ n+2 ^ n=lo+2 ^ (n+1):=by rw[Nat.pow_succ];omega
   exact Qc p n (lo+2 ^ n) h'.2 d (by omega) (by omega)
theorem Gz {p n:Nat}(hp:2<=p)(h:chk p 2 n=true)(hk:p<(2+2 ^ n)*(2+2 ^ n)):GS p:=
 GS.small hp hk fun d h1 h2 _=>Qc p n 2 h d h1 h2
theorem nd2:GS 2:=fun d h1 h2=>by omega
theorem nd3:GS 3:=fun d h1 h2=>by
 have:d=2:=by omega
 subst this;decide
theorem nd5:GS 5:=Gz (n:=0) (by decide) (by decide) (by decide)
theorem nd7:GS 7:=Gz (n:=0) (by decide) (by decide) (by decide)
theorem Cb_:GS 65537:=Gz (n:=8) (by decide) (by decide +kernel) (by decide +kernel)
theorem Er_:GS 998244353:=Gz (n:=15) (by decide) (by decide +kernel) (by decide +kernel)
theorem DI_:GS 2147483647:=Gz (n:=16) (by decide) (by decide +kernel) (by decide +kernel)
theorem Bs_:∀(m n:Nat) (f:Nat->Nat),(∀i,i<n->f i<m)->(∀i j,i<j->j<n->f i≠f j)->n<=m
 |0,n,f,h,_=>by
  refine Nat.le_of_not_lt fun z=>?_
  exact absurd (h 0 z) (Nat.not_lt_zero _)
 |m+1,0,f,_,_=>Nat.zero_le _
 |m+1,n+1,f,h,g=>by
  -- the last value is taken out: whoever has the value m takes the value of the last one
  let f':Nat->Nat:=fun i=>if f i=m then f n else f i
  refine Nat.succ_le_succ (Bs_ m n f' (fun i hi=>?_) (fun i j hij hj=>?_))
  ·show (if f i=m then f n else f i)<m
   by_cases e:f i=m
   ·rw[if_pos e]
    have h1:=h n (by omega)
    have h2:=g i n hi (by omega)
    omega
   ·rw[if_neg e]
    have:=h i (by omega)
    omega
  ·show (if f i=m then f n else f i)≠(if f j=m then f n else f j)
   have a:=g i j hij (by omega)
   have b:=g i n (by omega) (by omega)
   have c:=g j n (by omega) (by omega)
   by_cases e:f i=m
   ·rw[if_pos e]
    by_cases e':f j=m
    ·omega
    ·rw[if_neg e'];omega
   ·rw[if_neg e]
    by_cases e':f j=m
    ·rw[if_pos e'];exact b
    ·rw[if_neg e'];exact a
theorem pow_one {q x:Int}(h:q ∣ x-1):∀n:Nat,q ∣ x ^ n-1
 |0=>by simp
 |n+1=>by
  have e:x ^ (n+1)-1=x ^ n*(x-1)+(x ^ n-1):=by
   rw[Int.pow_succ,Int.mul_sub];omega
  rw[e]
  exact Int.dvd_add (Int.dvd_mul_of_dvd_right h) (pow_one h n)
theorem YL {q x:Int}(h:q ∣ x+1):∀n:Nat,q ∣ x ^ (2*n+1)+1
 |0=>by rw[show 2*0+1=1 from rfl,Int.pow_succ,Int.pow_zero,Int.one_mul];exact h
 |n+1=>by
  have e:x ^ (2*(n+1)+1)+1=x*x*(x ^ (2*n+1)+1)-(x-1)*(x+1):=by
   have:x ^ (2*(n+1)+1)=x*x*x ^ (2*n+1):=by
    rw[show 2*(n+1)+1=2*n+1+1+1 from by omega,Int.pow_succ,Int.pow_succ,Int.mul_assoc,Int.mul_comm]
   rw[this,Int.mul_add,Int.mul_add,Int.sub_mul,Int.mul_one,Int.mul_one,Int.one_mul];omega
  rw[e]
  exact Int.dvd_sub (Int.dvd_mul_of_dvd_right (YL h n)) (Int.dvd_mul_of_dvd_right h)
theorem Z9:∀(d:Nat),0<d->∃k m,d=2 ^ k*(2*m+1):=by
 intro d
 induction d using Nat.strongRecOn with
 |ind d ih=>
  intro hd
  by_cases h:d%2=0
  ·obtain⟨k,m,e⟩:=ih (d / 2) (by omega) (by omega)
   refine⟨k+1,m,?_⟩
   rw[Nat.pow_succ,Nat.mul_right_comm,<-e];omega
  ·exact⟨0,d / 2,by simp;omega⟩
theorem order {q b:Nat}{e:Nat}(hq:3<=q)(h:(q:Int) ∣ (b:Int) ^ (2 ^ e)+1):2 ^ (e+1)<=q:=by
 have hb:Int.gcd (b:Int) q=1:=by
  have h1:((Int.gcd (b:Int) q:Nat):Int) ∣ (b:Int):=Int.gcd_dvd_left ..
  have h2:((Int.gcd (b:Int) q:Nat):Int) ∣ (q:Int):=Int.gcd_dvd_right ..
  have h3:=Int.dvd_trans h2 h
  have h4:((Int.gcd (b:Int) q:Nat):Int) ∣ (b:Int) ^ (2 ^ e):=by
   obtain⟨c,hc⟩:∃c,2 ^ e=c+1:=⟨2 ^ e-1,by have:=Nat.two_pow_pos e;omega⟩
   rw[hc,Int.pow_succ]
   exact Int.dvd_mul_of_dvd_right h1
  have h5:((Int.gcd (b:Int) q:Nat):Int) ∣ 1:=by
   have:=Int.dvd_sub h3 h4
   rwa [show (b:Int) ^ (2 ^ e)+1-(b:Int) ^ (2 ^ e)=1 from by omega]at this
  have:=Int.le_of_dvd (by decide) h5
  have h6:Int.gcd (b:Int) q≠0:=fun z=>by
   have:=Int.gcd_eq_zero_iff.mp z
   omega
  omega
 refine Bs_ q (2 ^ (e+1)) (fun i=>b ^ i%q) (fun i _=>Nat.mod_lt _ (by omega)) (fun i j hij hj hm=>?_)
 -- q divides b ^ (j-i)-1
 have hm:b ^ i%q=b ^ j%q:=hm
 have d1:(q:Int) ∣ (b:Int) ^ i*((b:Int) ^ (j-i)-1):=by
  have e1:(b:Int) ^ i*((b:Int) ^ (j-i)-1)=((b ^ j:Nat):Int)-((b ^ i:Nat):Int):=by
   rw[Int.mul_sub,<-Int.pow_add,show i+(j-i)=j from by omega,Int.mul_one,Int.natCast_pow,Int.natCast_pow]
  rw[e1]
  refine Int.dvd_of_emod_eq_zero ?_
  have:((b ^ i:Nat):Int)%q=((b ^ j:Nat):Int)%q:=by exact_mod_cast hm
  exact Int.emod_eq_emod_iff_emod_sub_eq_zero.mp this.symm
 have cop:∀n:Nat,(Int.gcd ((b:Int) ^ n) q)=1:=fun n=>by
  induction n with
  |zero=>simp
  |succ n ih=>rw[Int.pow_succ,Int.gcd_mul_right_left_of_gcd_eq_one ih];exact hb
 have d2:(q:Int) ∣ (b:Int) ^ (j-i)-1:=by
  refine Int.natAbs_dvd_natAbs.mp ?_
  have:=Int.natAbs_dvd_natAbs.mpr d1
  rw[Int.natAbs_mul]at this
  exact Nat.Coprime.dvd_of_dvd_mul_left (show Nat.Coprime _ _ from by have:=cop i;rw[Int.gcd_comm]at this;exact this) this
 obtain⟨k,m,hd⟩:=Z9 (j-i) (by omega)
 have hk:k<=e:=by
  refine Nat.le_of_not_lt fun z=>?_
  have h1:2 ^ (e+1)<=2 ^ k:=Nat.pow_le_pow_right (by decide) z
  have h2:2 ^ k*1<=2 ^ k*(2*m+1):=Nat.mul_le_mul_left _ (by omega)
  omega
 have d3:=pow_one d2 (2 ^ (e-k))
 rw[<-Int.pow_mul,hd,show 2 ^ k*(2*m+1)*2 ^ (e-k)=2 ^ e*(2*m+1) from by
  rw[Nat.mul_right_comm,<-Nat.pow_add,show k+(e-k)=e from by omega],Int.pow_mul]at d3
 have d4:=YL h m
 have d5:=Int.dvd_sub d4 d3
 rw[show ((b:Int) ^ 2 ^ e) ^ (2*m+1)+1-(((b:Int) ^ 2 ^ e) ^ (2*m+1)-1)=2 from by omega]at d5
 have:=Int.le_of_dvd (by decide) d5
 omega
def chain (p:Nat):List Nat->Bool
 |[]=>true
 |a::l=>match l with
  |[]=>true
  |b::_=>(Nat.beq (Nat.mod (Nat.mul a a) p) b).and (chain p l)
theorem O6 {p:Nat}:∀(l:List Nat) (a z:Nat),chain p (a::l)=true->(a::l).getLast?=some z->z<p->a<p->a ^ (2 ^ l.length)%p=z
 |[],a,z,_,h,_,ha=>by simp at h;subst h;simp[Nat.mod_eq_of_lt ha]
 |b::l,a,z,hc,h,hz,ha=>by
  unfold chain at hc
  have hc:=Bool.and_eq_true_iff.mp hc
  have e1:a*a%p=b:=Nat.eq_of_beq_eq_true hc.1
  have hb:b<p:=by rw[<-e1];exact Nat.mod_lt _ (by omega)
  have:=O6 l b z hc.2 (by simpa using h) hz hb
  rw[List.length_cons,Nat.pow_succ,Nat.mul_comm,Nat.pow_mul,Nat.pow_two,Nat.pow_mod,e1]
  exact this
theorem Es_ {p b:Nat}{l:List Nat}(hc:chain p (b::l)=true)(hl:(b::l).getLast?=some (p-1))(hp:2<=p)(hb:b<p)(q:Nat)(hq:3<=q)(h:p%q=0):2 ^ (l.length+1)<=q:=by
 have hs:=O6 l b (p-1) hc hl (by omega) hb
 generalize l.length=e at hs
 generalize hB:b ^ (2 ^ e)=B at hs
 have hd:(p:Int) ∣ (b:Int) ^ (2 ^ e)+1:=by
  rw[<-Int.natCast_pow,hB]
  have e1:(B+1)%p=0:=by
   rw[Nat.add_mod,hs]
   by_cases h1:p=1
   ·omega
   ·rw[Nat.mod_eq_of_lt (show 1<p by omega),show p-1+1=p from by omega,Nat.mod_self]
  have:=Nat.dvd_of_mod_eq_zero e1
  exact_mod_cast this
 exact order hq (Int.dvd_trans (Int.natCast_dvd_natCast.mpr (Nat.dvd_of_mod_eq_zero h)) hd)
theorem YM {p m:Nat}(big:∀q,2<=q->p%q=0->m<=q)(hm:p<m*m):GS p:=by
 intro d h1 h2 h3
 have e:d*(p / d)=p:=by have:=Nat.div_add_mod p d;omega
 generalize p / d=q at e
 have hq0:q≠0:=fun z=>by rw[z]at e;omega
 have hq1:q≠1:=fun z=>by rw[z]at e;omega
 have a:=big d h1 h3
 have b:=big q (by omega) (by rw[<-e];exact Nat.mul_mod_left d q)
 have:=Nat.mul_le_mul a b
 omega
def DJ_:List Nat:=[59049,3486784401,88018457703999454,45929738478236762,40666034766347230,7693334418966794,176686083274693707,64249661930383583,109385274370896747,125617409189584062,109468562634608601,122701423696867897,35622580771213151,82435950289412150,18627153503673630,120469760524761789,172035590580311624,13190307153726193,3107064753164151,70140624860640424,166009780229527061,23535563731210449,68090728368441414,150068836334812601,160932145882353616,92767654578329832,20253417367123262,76076963643055978,116396373174297913,124091118791727052,120512899165957516,106587366619394153,174473325657852776,42422798089771761,51278126999645464,27655269229009543,75436749302249212,127846334706536764,179803962838676295,39860844515238771,117110086334503012,28926655053941789,99636062047316279,57472177291655405,45590227996605173,164322947671277915,78463280652552016,5197029465238183,37154148892138879,155338536803674377,66159313984295070,171458397805620753,174530742592475567,180143985094819840]
theorem Et_:GS 180143985094819841:=YM (m:=36028797018963968) (fun q hq h=>by
  have h2:q≠2:=fun z=>by subst z;exact absurd h (by decide +kernel)
  have:=Es_ (p:=180143985094819841) (b:=243) (l:=DJ_) (by decide +kernel) (by decide +kernel) (by decide +kernel) (by decide +kernel) q (by omega) h
  rwa [show 2 ^ (DJ_.length+1)=36028797018963968 from by decide +kernel]at this) (by decide +kernel)
theorem GS.gcd {p:Nat}(h:GS p){x:Nat}(h0:0<x)(h1:x<p):Nat.gcd x p=1:=by
 have g1:Nat.gcd x p<=x:=Nat.le_of_dvd h0 (Nat.gcd_dvd_left ..)
 have g0:0<Nat.gcd x p:=Nat.gcd_pos_of_pos_left _ h0
 refine Classical.byContradiction fun z=>?_
 exact h (Nat.gcd x p) (by omega) (by omega) (Nat.mod_eq_zero_of_dvd (Nat.gcd_dvd_right ..))
def Pr (p:Int):Prop:=2<=p/\p<1000000000000000000/\GS p.toNat
theorem Pr.gcd {p x:Int}(h:Pr p)(h0:0<x)(h1:x<p):Int.gcd x p=1:=by
 have:=h.2.2.gcd (x:=x.toNat) (by omega) (by omega)
 have e:Int.gcd x p=Nat.gcd x.toNat p.toNat:=by
  unfold Int.gcd
  rw[show x.natAbs=x.toNat from by omega,show p.natAbs=p.toNat from by have:=h.1;omega]
 rw[e];exact this
theorem Cc_:∀p ∈ [(2:Int),3,5,7,65537,998244353,2147483647,180143985094819841],Pr p:=by
 intro p hp
 simp at hp
 rcases hp with rfl|rfl|rfl|rfl|rfl|rfl|rfl|rfl
 ·exact⟨by decide,by decide,nd2⟩
 ·exact⟨by decide,by decide,nd3⟩
 ·exact⟨by decide,by decide,nd5⟩
 ·exact⟨by decide,by decide,nd7⟩
 ·exact⟨by decide,by decide,Cb_⟩
 ·exact⟨by decide,by decide,Er_⟩
 ·exact⟨by decide,by decide,DI_⟩
 ·exact⟨by decide,by decide,Et_⟩
end PrimeO
namespace L2
open PySem PySem.Spec PyProof.Rows
theorem Aa_ {X:Cx}:OpR X (binaryOp .FloorDiv) (rI (fun _ j=>0<j/\j<1208925819614629174706176) fun i j=>.int (i / j)):=opI fun i j _ _ _ _ _ hc q=>by
 have h1:(0:Int)<j:=hc.1
 have h2:j<1208925819614629174706176:=hc.2
 refine floordiv_int (by omega) (by rw[Int.fdiv_eq_ediv_of_nonneg i (by omega)];exact q) (.inl (PyProof.noPylong_of_log2 ?_))
 have:j.natAbs<2 ^ 80:=by
  rw[show (2:Nat) ^ 80=1208925819614629174706176 from by decide];omega
 have:=(Nat.log2_lt (n:=j.natAbs) (k:=80) (by omega)).mpr this
 omega
theorem YN {A:TA}{σ:St}{H:Hp}{Z:It->Hp->Prop}:CQ_ A σ H Z=A σ H fun vs H1=>∃i j:Int,vs=[.int i,.int j]/\(-(2 ^ 62)<=i/\i<2 ^ 62 /\ -(2 ^ 62)<=j/\j<2 ^ 62)/\Z (Itr i (j-i).toNat) H1:=rfl
end L2
namespace PySem
open Sem (wp)
open PySem.F
def GA (t:Bool)(h:Heap)(l:Addr)(xs:Array Value):Prop:=match t with|false=>h.IsList l xs|true=>h.IsTuple l xs
def E1 (t:Bool)(h:Heap)(i l:Addr)(k:Nat):Prop:=match t with|false=>h.IsListIter i l k|true=>h.IsTupleIter i l k
theorem GA.extBut {t:Bool}{h h':Heap}{a b items}(x:GA t h a items)(hs:Heap.ExtBut b h h')(hab:a≠b):GA t h' a items:=by
 cases t
 ·exact Heap.IsList.extBut x hs hab
 ·exact Heap.IsTuple.extBut x hs hab
theorem GA.push {t:Bool}{h:Heap}{a items}(x:GA t h a items)(o:Obj):GA t (h.push o) a items:=by
 cases t
 ·exact Heap.IsList.push x o
 ·exact Heap.IsTuple.push x o
theorem GA.lt {t:Bool}{h:Heap}{a items}(x:GA t h a items):a<h.objs.size:=by
 cases t
 ·obtain⟨_,e,_⟩:=x;exact Heap.lt_size e
 ·obtain⟨_,e,_⟩:=x;exact Heap.lt_size e
theorem E1.extBut {t:Bool}{h h':Heap}{a b l i}(x:E1 t h a l i)(hs:Heap.ExtBut b h h')(hab:a≠b):E1 t h' a l i:=by
 cases t
 ·exact Heap.IsListIter.extBut x hs hab
 ·exact Heap.IsTupleIter.extBut x hs hab
theorem E1.at {t:Bool}{h h':Heap}{a l i}(x:E1 t h a l i)(e:∀o,h.get? a=some o->h'.get? a=some o):E1 t h' a l i:=by
 cases t
 ·exact Heap.IsListIter.at x e
 ·exact Heap.IsTupleIter.at x e
theorem E1.ob {t:Bool}{h:Heap}{a l i}(x:E1 t h a l i):∃o,h.get? a=some o/\o.data=.fields #[.ref l,.int i 0]:=by
 cases t
 ·obtain⟨o,e,_,d⟩:=x;exact⟨o,e,d⟩
 ·obtain⟨o,e,_,d⟩:=x;exact⟨o,e,d⟩
section
variable {prog:Program} {w:World} {A:Around} {E:Value->Shared->Prop} {s:Shared}
theorem YO {t:Bool}{it l:Addr}{i:Nat}{items:Array Value}{Q:Value->Shared->Prop}(hit:E1 t s.heap it l i)(hl:GA t s.heap l items)
  (hQ:∀x h',items[i]?=some x->E1 t h' it l (i+1)->Heap.SameBut it s.heap h'->Q x {s with heap:=h' })
  (hE:items[i]?=none->A.handled=none/\∀h' e,Heap.ExtBut it s.heap h'->(∃o,h'.get? e=some o/\o.cls=.type "StopIteration")->E (.ref e) {s with heap:=h' }):wpAny (model prog w) A (Builtin.SmallTypes.nextOf (.ref it)) Q E s:=by
 cases t
 ·cases hx:items[i]? with
  |some x=>exact wpAny_nextOf_list_item hit hl hx fun h'=>hQ x h' hx
  |none=>exact wpAny_nextOf_list_end (hE hx).1 hit hl hx (hE hx).2
 ·exact Lf hit hl hQ hE
def Cd_ (t:Bool):Value:=match t with|false=>.type "list_iterator" |true=>.type "tuple_iterator"
theorem E1.mk {t:Bool}{h:Heap}{a l:Addr}(g:h.get? a=some {cls:=Cd_ t,data:=.fields #[.ref l,.int 0 0]}):E1 t h a l 0:=by
 cases t
 ·exact⟨_,g,rfl,rfl⟩
 ·exact⟨_,g,rfl,rfl⟩
theorem Md {t:Bool}{l:Addr}{items}{Q:Value->Shared->Prop}(hl:GA t s.heap l items)
  (hQ:Q (.ref s.heap.objs.size) {s with heap:=s.heap.push {cls:=Cd_ t,data:=.fields #[.ref l,.int 0 0]} }):wpAny (model prog w) A (pyIter (.ref l)) Q E s:=by
 cases t
 ·exact wpAny_pyIter_list hl hQ
 ·exact wpAny_pyIter_tuple hl hQ
end
section
variable {prog:Program} {w:World} {A:Around} {E:Value->Shared->Prop} {s:Shared}
theorem YQ {t:Bool}{l:Addr}{items}{Q:Value->Shared->Prop}(hl:GA t s.heap l items)(h:∀h',s.heap.push {cls:=Cd_ t,data:=.fields #[.ref l,.int 0 0]}=h'->Q (.ref s.heap.objs.size) {s with heap:=h' }):wpAny (model prog w) A (pyIter (.ref l)) Q E s:=Md hl (h _ rfl)
theorem zipN {t1 t2:Bool}{z TI TO i1 i2 l1 l2:Addr}{k1 k2:Nat}{xs ys:Array Value}{a b:Value}{Q:Option Value->Shared->Prop}(D:ZipApart z TI TO i1 i2 l1 l2)(hz:IsZip s.heap z TI TO .none)(hTI:IsPair s.heap TI (.ref i1) (.ref i2))(hTO:IsPair s.heap TO a b)
  (h1:E1 t1 s.heap i1 l1 k1) (h2:E1 t2 s.heap i2 l2 k2) (hl1:GA t1 s.heap l1 xs) (hl2:GA t2 s.heap l2 ys)
  (hQ:∀x y h',xs[k1]?=some x->ys[k2]?=some y->IsZip h' z TI TO (rawInt s.heap.objs.size)->IsPair h' TO x y->E1 t1 h' i1 l1 (k1+1)->E1 t2 h' i2 l2 (k2+1)->IsPair h' s.heap.objs.size x y->h'.objs.size=s.heap.objs.size+1->(∀c o,c≠z->c≠TO->c≠i1->c≠i2->s.heap.get? c=some o->h'.get? c=some o)->Q (some (.ref s.heap.objs.size)) {s with heap:=h' })
  (hN:xs[k1]?=none\/ys[k2]?=none->A.handled=none/\∀h',(∀c o,c≠z->c≠TO->c≠i1->c≠i2->s.heap.get? c=some o->h'.get? c=some o)->Q none {s with heap:=h' }):wpAny (model prog w) A (pyNext (.ref z)) Q E s:=by
 have hT:s.TypeIs (.ref z) "zip" := ⟨_,hz,rfl⟩
 have e1:=F.slot_zip_next
 unfold pyNext
 refine wpAny_bind (wpAny_attempt (wpAny_callSpecial?_slot hT e1 (wpAny_call_entry e1 hT F.entry_zip_next ?_ (F.args_zip_next_1 _))))
 wp_walk using wpAny_setField_rec hz
 ·exact Nat.lt_of_sub_eq_succ rfl
 intro u0 g0 k0
 replace g0:IsZip u0 z TI TO .ellipsis:=g0
 have m1:E1 t1 u0 i1 l1 k1:=h1.extBut k0.extBut D.i1z
 have m2:GA t1 u0 l1 xs:=hl1.extBut k0.extBut D.l1z
 simp only[List.zipIdx_cons,List.zipIdx_nil,List.forIn_cons,List.forIn_nil]
 have stop:∀h' (e:Addr),(∀c o,c≠z->c≠TO->c≠i1->c≠i2->s.heap.get? c=some o->h'.get? c=some o)->IsZip h' z TI TO .ellipsis->(∃o,h'.get? e=some o/\o.cls=.type "StopIteration")->xs[k1]?=none\/ys[k2]?=none ->
   wpAny (model prog w) A.in1 (setField (.ref z) 0 .none) (fun _ s''=>wpAny (model prog w) A (do if <- isInstance (.ref e) (.type "StopIteration") then pure none else throw (.ref e)) Q E s'') (fun e s'=>wpAny (model prog w) A (do if <- isInstance e (.type "StopIteration") then pure none else throw e) Q E s') {s with heap:=h' }:=fun h' e kk hz' he hx=>by
  obtain⟨o,e2,e3⟩:=he
  have n:e≠z:=fun x=>by subst x;rw[hz']at e2;cases e2;simp at e3
  refine wpAny_setField_rec hz' (Nat.lt_of_sub_eq_succ rfl) fun h2 _ k2=>wpAny_bind (wpAny_isInstance (T := "StopIteration") (b:=true) ⟨o,k2.extBut e o n e2,e3⟩ isSubtype_stop (wpAny_pure ((hN hx).2 h2 fun c o n1 n2 n3 n4 q=>k2.extBut c o n1 (kk c o n1 n2 n3 n4 q))))
 wp_walk using wpAny_onRaise,YO (A:=A.in1) (s:={s with heap:=u0}) m1 m2
 ·intro x u1 hx m3 k3
  have y0:IsPair u1 TO a b:=k3.extBut TO _ D.TOi1 (k0.extBut TO _ D.TOz hTO)
  wp_walk using wpAny_updateSeq_pair y0
  intro u2 y2 k4
  replace y2:IsPair u2 TO x b:=y2
  have kk:∀c o,c≠z->c≠TO->c≠i1->s.heap.get? c=some o->u2.get? c=some o:=fun c o n1 n2 n3 q=>k4.extBut c o n2 (k3.extBut c o n3 (k0.extBut c o n1 q))
  have g2:IsZip u2 z TI TO .ellipsis:=k4.extBut _ _ D.TOz.symm (k3.extBut _ _ D.i1z.symm g0)
  have m4:E1 t2 u2 i2 l2 k2:=h2.at fun o q=>kk _ o D.i2z D.TOi2.symm D.i12.symm q
  have m5:GA t2 u2 l2 ys:=((hl2.extBut k0.extBut D.l2z).extBut k3.extBut D.l2i1).extBut k4.extBut D.l2TO
  wp_walk using wpAny_onRaise,YO (A:=A.in1) (s:={s with heap:=u2}) m4 m5
  ·intro y u3 hy m6 k5
   have y3:IsPair u3 TO x b:=k5.extBut TO _ D.TOi2 y2
   wp_walk using wpAny_updateSeq_pair y3
   intro u4 y4 k6
   replace y4:IsPair u4 TO x y:=y4
   have g4:IsZip u4 z TI TO .ellipsis:=k6.extBut _ _ D.TOz.symm (k5.extBut _ _ D.i2z.symm g2)
   have zz:u4.objs.size=s.heap.objs.size:=k6.1.trans (k5.1.trans (k4.1.trans (k3.1.trans k0.1)))
   wp_walk using newT
   ·exact (show 2<=sizeLine from by decide)
   intro u5 q5
   have kp:∀c o,u4.get? c=some o->u5.get? c=some o:=fun c o q=>by rw[<-q5];exact Heap.get?_push_of_some _ q
   have g5:=kp z _ g4
   have y5:IsPair u5 u4.objs.size x y:=by rw[<-q5];exact Heap.get?_push_size _ rfl
   have z5:u5.objs.size=u4.objs.size+1:=by rw[<-q5];exact Heap.size_push ..
   wp_walk using wpAny_setField_rec g5
   ·exact Nat.lt_of_sub_eq_succ rfl
   intro u6 g6 k7
   replace g6:IsZip u6 z TI TO (rawInt u4.objs.size):=g6
   wp_walk using wpAny_setField_rec g6
   ·exact Nat.lt_of_sub_eq_succ rfl
   intro u7 g7 k8
   replace g7:IsZip u7 z TI TO (rawInt u4.objs.size):=g7
   refine wpAny_pure ⟨_,rfl,wpAny_pure ?_⟩
   show Q (some (Value.ref u4.objs.size)) _
   have up:∀c o,c≠z->u4.get? c=some o->u7.get? c=some o:=fun c o n q=>k8.extBut c o n (k7.extBut c o n (kp c o q))
   have nz:u4.objs.size≠z:=Nat.ne_of_gt (Heap.lt_size g4)
   have y7:=k8.extBut _ _ nz (k7.extBut _ _ nz y5)
   rw[zz]at g7 y7 z5 ⊢
   exact hQ x y u7 hx hy g7 (up _ _ D.TOz y4) ((m3.at fun o q=>k6.extBut _ o D.TOi1.symm (k5.extBut _ o D.i12 (k4.extBut _ o D.TOi1.symm q))).at fun o q=>up _ o D.i1z q) ((m6.at fun o q=>k6.extBut _ o D.TOi2.symm q).at fun o q=>up _ o D.i2z q) y7 ((k8.1.trans k7.1).trans z5)
    fun c o n1 n2 n3 n4 q=>up c o n1 (k6.extBut c o n2 (k5.extBut c o n4 (kk c o n1 n2 n3 q)))
  ·refine fun hy=>⟨(hN (.inr hy)).1,fun u3 e k5 he=>?_⟩
   exact stop u3 e (fun c o n1 n2 n3 n4 q=>k5 c o n4 (kk c o n1 n2 n3 q)) (k5 z _ D.i2z.symm g2) he (.inr hy)
 ·refine fun hx=>⟨(hN (.inl hx)).1,fun u1 e k3 he=>?_⟩
  exact stop u1 e (fun c o n1 n2 n3 n4 q=>k3 c o n3 (k0.extBut c o n1 q)) (k3 z _ D.i1z.symm g0) he (.inl hx)
theorem UR {t1 t2:Bool}{l1 l2:Addr}{xs ys:Array Value}{Q:Value->Shared->Prop}(hl1:GA t1 s.heap l1 xs)(hl2:GA t2 s.heap l2 ys)
  (h:∀h',IsZip h' (s.heap.objs.size+4) (s.heap.objs.size+2) (s.heap.objs.size+3) .none->IsPair h' (s.heap.objs.size+2) (.ref s.heap.objs.size) (.ref (s.heap.objs.size+1))->IsPair h' (s.heap.objs.size+3) .none .none->E1 t1 h' s.heap.objs.size l1 0->E1 t2 h' (s.heap.objs.size+1) l2 0->h'.objs.size=s.heap.objs.size+5->(∀c o,s.heap.get? c=some o->h'.get? c=some o)->Q (.ref (s.heap.objs.size+4)) {s with heap:=h' }):
  wpAny (model prog w) A (call (.type "zip") [.ref l1,.ref l2]) Q E s:=by
 have M:Meets (Builtin.«zip.__new__» ⟨[.type "zip",.ref l1,.ref l2],[]⟩) fun _ R t=>t=s/\∀h',IsZip h' (s.heap.objs.size+4) (s.heap.objs.size+2) (s.heap.objs.size+3) .none->IsPair h' (s.heap.objs.size+2) (.ref s.heap.objs.size) (.ref (s.heap.objs.size+1))->IsPair h' (s.heap.objs.size+3) .none .none->E1 t1 h' s.heap.objs.size l1 0->E1 t2 h' (s.heap.objs.size+1) l2 0->h'.objs.size=s.heap.objs.size+5->(∀c o,s.heap.get? c=some o->h'.get? c=some o)->R (.ok (.ret (.ref (s.heap.objs.size+4)))) {s with heap:=h' }:=.of_wp fun prog w A R t ⟨e,q⟩=>by
  subst e
  obtain⟨hp,g,d,tk,os⟩:=t
  have hsub:=sub_zip
  wp_walk using YQ hl1
  intro u1 q1
  obtain⟨a1,b1,c1⟩:=psh q1 rfl
  have hl2':GA t2 u1 l2 ys:=by rw[<-q1];exact GA.push hl2 _
  wp_walk using YQ (s:=⟨u1,g,d,tk,os⟩) hl2'
  intro u2 q2
  obtain⟨a2,b2,c2⟩:=psh q2 rfl
  wp_walk using newT
  ·exact (show 2<=sizeLine from by decide)
  intro u3 q3
  obtain⟨a3,b3,c3⟩:=psh q3 rfl
  wp_walk using newT
  ·exact (show 2<=sizeLine from by decide)
  intro u4 q4
  obtain⟨a4,b4,c4⟩:=psh q4 rfl
  wp_walk
  refine⟨_,rfl,?_⟩
  have Z1:u1.objs.size=hp.objs.size+1:=c1
  have Z2:u2.objs.size=hp.objs.size+2:=(show u2.objs.size=u1.objs.size+1 from c2).trans (by rw[Z1])
  have Z3:u3.objs.size=hp.objs.size+3:=(show u3.objs.size=u2.objs.size+1 from c3).trans (by rw[Z2])
  have Z4:u4.objs.size=hp.objs.size+4:=(show u4.objs.size=u3.objs.size+1 from c4).trans (by rw[Z3])
  obtain⟨a5,b5,c5⟩:=psh (rfl:u4.push {cls:=.type "zip",data:=.fields #[.none,.bool false,.bool false,.ref u2.objs.size,.ref u3.objs.size]}=_) rfl
  replace b1:u1.get? hp.objs.size=_:=b1
  replace b2:u2.get? u1.objs.size=_:=b2
  replace b3:IsPair u3 u2.objs.size (.ref hp.objs.size) (.ref u1.objs.size):=b3
  replace b4:IsPair u4 u3.objs.size .none .none:=b4
  show R (.ok (.ret (.ref u4.objs.size))) ⟨u4.push {cls:=.type "zip",data:=.fields #[.none,.bool false,.bool false,.ref u2.objs.size,.ref u3.objs.size]},g,d,tk,os⟩
  rw[Z1,Z2]at b3
  rw[Z1]at b2
  rw[Z3]at b4
  rw[Z2,Z3,Z4]at b5
  rw[Z2,Z3]at a5 c5 ⊢
  rw[Z4]at c5 ⊢
  exact q _ b5 (a5 _ _ (a4 _ _ b3)) (a5 _ _ b4) (E1.mk (a5 _ _ (a4 _ _ (a3 _ _ (a2 _ _ b1))))) (E1.mk (a5 _ _ (a4 _ _ (a3 _ _ b2)))) c5 fun c o x=>a5 _ _ (a4 _ _ (a3 _ _ (a2 _ _ (a1 _ _ x))))
 exact callType_new F.called_zip (by decide) (F.typeCall_zip_2 _ _) (F.newCall_zip_2 _ _) (fun obj=>F.args_object_init_3 obj _ _) F.entry_zip_new M ⟨rfl,fun h' a b c d e f g=>⟨⟨_,a,rfl⟩,h h' a b c d e f g⟩⟩
end
end PySem
namespace L2
open PySem PySem.Spec PyProof.Rows GW
def SqB (K:PySem.W.Frag)(H:Hp)(t:Bool)(a:Addr)(xs:List V):Prop:=match t with|false=>SqL K H a xs|true=>SqT K H a xs
theorem SqB.mono {K:PySem.W.Frag}{H H':Hp}{t:Bool}{a:Addr}{xs:List V}(h:SqB K H t a xs)(s:Same H H'):SqB K H' t a xs:=by
 cases t
 ·exact s.seq h
 ·exact s.seqT h
theorem Inv.seqB {X:Cx}{pins:List (Addr×Obj)}{σ:St}{H:Hp}{s:Shared}{t:Bool}{a:Addr}{xs:List V}(I:Inv X pins σ H s)(h:SqB X.K H t a xs):∃its:List Value,Vals xs its/\GA t s.heap a its.toArray:=by
 cases t
 ·obtain⟨its,r,p,_⟩:=I.list h
  exact⟨its,r,p.isList⟩
 ·obtain⟨its,r,p,_⟩:=I.tuple h
  exact⟨its,r,p⟩
def Itz2 (K:PySem.W.Frag)(t1 t2:Bool)(a b:Addr)(xs ys:List V):It:=⟨fun i H=>i<xs.length/\i<ys.length/\SqB K H t1 a xs/\SqB K H t2 b ys,fun i H x H'=>∃t u v,H t=none/\xs[i]?=some u/\ys[i]?=some v/\x=.ref t/\H'=upd H t (.tup [u,v]),fun i H=>(xs.length<=i\/ys.length<=i)/\SqB K H t1 a xs/\SqB K H t2 b ys⟩
theorem YR {P:Program}{w:World}{K:PySem.W.Frag}{elts:List Expr}{x1}{tpos:Pos}{t1 t2:Bool}{a b z TI TO i1 i2:Addr}(D:ZipApart z TI TO i1 i2 a b)(xs ys:List V):Turn P w K (.Tuple elts x1 tpos) (Itz2 K t1 t2 a b xs ys) [z,TI,TO,i1,i2] z
  (fun i h=>IsZip h z TI TO .none/\IsPair h TI (.ref i1) (.ref i2)/\(∃c d,IsPair h TO c d)/\E1 t1 h i1 a i/\E1 t2 h i2 b i) where
 mem:=by simp
 obj:=fun i h st c hc=>by
  obtain⟨h1,h2,⟨u,v,h3⟩,h4',h5'⟩:=st
  obtain⟨o4,h4,d4⟩:=h4'.ob
  obtain⟨o5,h5,d5⟩:=h5'.ob
  simp only[List.mem_cons,List.not_mem_nil,or_false]at hc
  rcases hc with rfl|rfl|rfl|rfl|rfl
  ·exact⟨_,h1,fun v z=>by cases z⟩
  ·exact⟨_,h2,fun v z=>by cases z⟩
  ·exact⟨_,h3,fun v z=>by cases z⟩
  ·exact⟨o4,h4,fun v z=>by rw[d4]at z;cases z⟩
  ·exact⟨o5,h5,fun v z=>by rw[d5]at z;cases z⟩
 keep:=fun i h h' st k=>by
  obtain⟨h1,h2,⟨u,v,h3⟩,h4,h5⟩:=st
  exact⟨k z (by simp) _ h1,k TI (by simp) _ h2,⟨u,v,k TO (by simp) _ h3⟩,h4.at fun o q=>k i1 (by simp) o q,h5.at fun o q=>k i2 (by simp) o q⟩
 item:=by
  intro X hP hw hK hc i pins s σ H E I hf st hg
  subst hP hw hK
  obtain⟨hi,hj,hq,hq2⟩:=hg
  obtain⟨hz,hTI,⟨c,d,hTO⟩,h1,h2⟩:=st
  obtain⟨its,rv,p⟩:=I.seqB hq
  obtain⟨its2,rv2,p2⟩:=I.seqB hq2
  obtain⟨u,hu,ru⟩:=rv.get (i:=i) (x:=xs[i]) (by simp[hi])
  obtain⟨v,hv,rv'⟩:=rv2.get (i:=i) (x:=ys[i]) (by simp[hj])
  have l1:=rv.length
  have l2:=rv2.length
  refine zipN D hz hTI hTO h1 h2 p p2 (fun u' v' h' eu ev g1 g2 g3 g4 g5 gs gk=>?_) fun y=>by simp at y;omega
  obtain rfl:u=u':=by simpa [hu] using eu
  obtain rfl:v=v':=by simpa [hv] using ev
  have hTz:s.heap.objs.size≠z:=Nat.ne_of_gt (Heap.lt_size hz)
  refine⟨_,rfl,wpAny_letOwnedTupleGo_zip g1 fun h2' e1 hs2=>?_⟩
  have hk2:∀b o,b ∉ [z,TI,TO,i1,i2]->s.heap.get? b=some o->h2'.get? b=some o:=fun b o hb q=>by
   simp only[List.mem_cons,List.not_mem_nil,or_false,not_or]at hb
   exact (hs2.2 b hb.1).trans (gk b o hb.1 hb.2.2.1 hb.2.2.2.1 hb.2.2.2.2 q)
  obtain⟨un,hok⟩:=I.unL hk2 hf
  have hn:H s.heap.objs.size=none:=I.hok.fresh (Nat.le_refl _)
  have new:Bq X.prog X.w (upd H s.heap.objs.size (.tup [xs[i],ys[i]])) h2' s.heap.objs.size (.tup [xs[i],ys[i]]):=⟨by have:=An;simp;omega,[u,v],.cons ru (.cons rv' .nil),_,(hs2.2 _ hTz).trans g5,rfl,_,rfl⟩
  refine⟨.ref s.heap.objs.size,upd H s.heap.objs.size (.tup [xs[i],ys[i]]),I.call' (s':={s with heap:=h2' }) (ch:=[z,TI,TO,i1,i2]) rfl (un.track (Nat.le_refl _) hn) (hok.track hn new) I.bare (fun b hb=>?_),rfl,⟨_,_,_,hn,by simp[hi],by simp[hj],rfl,rfl⟩,?_,fun b hb=>?_⟩
  ·exact (hf b hb).ch
  ·refine⟨e1,(hs2.2 TI D.TIz).trans (gk TI _ D.TIz D.TITO D.TIi1 D.TIi2 hTI),⟨u,v,(hs2.2 TO D.TOz).trans g2⟩,g3.at fun o q=>(hs2.2 i1 D.i1z).trans q,g4.at fun o q=>(hs2.2 i2 D.i2z).trans q⟩
  ·have hb':=hf b hb
   have:∃o,s.heap.get? b=some o:=by
    simp only[List.mem_cons,List.not_mem_nil,or_false]at hb
    rcases hb with rfl|rfl|rfl|rfl|rfl
    ·exact⟨_,hz⟩
    ·exact⟨_,hTI⟩
    ·exact⟨_,hTO⟩
    ·obtain⟨o,ho,_⟩:=h1.ob;exact⟨o,ho⟩
    ·obtain⟨o,ho,_⟩:=h2.ob;exact⟨o,ho⟩
   obtain⟨o,ho⟩:=this
   rw[Aw (Nat.ne_of_lt (Heap.lt_size ho))]
   exact hb'.1
 done:=by
  intro X hP hw hK hc i pins s σ H E I hf st hg
  subst hP hw hK
  obtain⟨hi,hq,hq2⟩:=hg
  obtain⟨hz,hTI,⟨c,d,hTO⟩,h1,h2⟩:=st
  obtain⟨its,rv,p⟩:=I.seqB hq
  obtain⟨its2,rv2,p2⟩:=I.seqB hq2
  have l1:=rv.length
  have l2:=rv2.length
  refine zipN D hz hTI hTO h1 h2 p p2 (fun u v h' eu ev=>by have a:=(Array.getElem?_eq_some_iff.mp eu).1;have b:=(Array.getElem?_eq_some_iff.mp ev).1;simp at a b;omega) fun _=>⟨I.ok.hd hc,fun h' gk=>⟨rfl,?_⟩⟩
  obtain⟨un,hok⟩:=I.unL (h':=h') (fun b o hb q=>by
   simp only[List.mem_cons,List.not_mem_nil,or_false,not_or]at hb
   exact gk b o hb.1 hb.2.2.1 hb.2.2.2.1 hb.2.2.2.2 q) hf
  exact I.call' (s':={s with heap:=h' }) (ch:=[z,TI,TO,i1,i2]) rfl un hok I.bare fun b hb=>(hf b hb).ch
 self:=fun A i s Q E st h=>wpAny_pyIter_zip st.1 h
def DK_ (K:PySem.W.Frag)(ta:TA):TI:=fun σ H R=>ta σ H fun vs H1=>∃a b xs ys t1 t2,vs=[.ref a,.ref b]/\SqB K H1 t1 a xs/\SqB K H1 t2 b ys/\R (Itz2 K t1 t2 a b xs ys) H1
theorem YS {K:PySem.W.Frag}{ta:TA}{σ:St}{H:Hp}{Z:It->Hp->Prop}:DK_ K ta σ H Z=ta σ H fun vs H1=>∃a b xs ys t1 t2,vs=[.ref a,.ref b]/\SqB K H1 t1 a xs/\SqB K H1 t2 b ys/\Z (Itz2 K t1 t2 a b xs ys) H1:=rfl
theorem YT {X:Cx}{elts:List Expr}{x1}{tpos:Pos}{e f:Expr}{ta:TA}{p pos:Pos}(hg:Gl X "zip")(hm:X.mg "zip"=none)(ha:PA X [e,f] ta)(hs:starEach [e,f] X.env=[(false,eval e X.env),(false,eval f X.env)]:=by rfl)(hs2:starEach [f] X.env=[(false,eval f X.env)]:=by rfl):PI X (.Tuple elts x1 tpos) (.Call (.Name "zip" p) [e,f] [] pos) (DK_ X.K ta):=by
 intro pins s σ H R I h
 refine Call_ (LN I hg hm boot_zip (PyProof.Rows.callWith_type1 (thn (ha pos pins s σ H _ I h) fun us s1 ⟨vs,H1,I1,r1,q1⟩=>?_) (by rw[hs,hs2]) (by rw[hs2];rfl)))
 obtain⟨a,b,xs,ys,t1,t2,ev,hq,hq2,q⟩:=q1
 subst ev
 cases r1 with
 |cons r rr=>cases rr with
  |cons r' rr=>
   cases rr
   cases r
   cases r'
   obtain⟨its,rv,pl⟩:=I1.seqB hq
   obtain⟨its2,rv2,pl2⟩:=I1.seqB hq2
   refine UR pl pl2 fun h' hz hTI hTO hi1 hi2 hsz hk=>?_
   refine wpAny_pyIter_zip (s:={s1 with heap:=h' }) hz ?_
   have I2:Inv X pins σ H1 {s1 with heap:=h' }:=I1.kept (t':=s1.toks) hk
   refine⟨_,_,_,_,H1,rfl,I2,YR (zipApart_new pl.lt pl2.lt) xs ys,⟨hz,hTI,⟨_,_,hTO⟩,hi1,hi2⟩,fun c hc=>?_,q⟩
   have hle:s1.heap.objs.size<=c:=by
    simp only[List.mem_cons,List.not_mem_nil,or_false]at hc
    rcases hc with rfl|rfl|rfl|rfl|rfl
    ·exact Nat.le_add_right _ 4
    ·exact Nat.le_add_right _ 2
    ·exact Nat.le_add_right _ 3
    ·exact Nat.le_refl _
    ·exact Nat.le_add_right _ 1
   exact I1.fpOk hle (I1.hok.fresh hle)
theorem DL_ {K:PySem.W.Frag}{cp:Caps}{t1 t2:Bool}{a b:Addr}{xs ys:List V}{g:TG}{tc:TT}{te:TE}{Q:VK}{σ:St}{H:Hp}(n:Nat)(hn1:n<=xs.length)(hn2:n<=ys.length)(hn3:xs.length=n\/ys.length=n)(Pv:Nat->List V->St->Hp->Prop)(h0:Pv 0 [] (cp.st σ) H)(hz:n<sizeLine)
  (hl:∀i zs σ H,i<=n->Pv i zs σ H->SqB K H t1 a xs/\SqB K H t2 b ys/\zs.length<=i)
  (hs:∀i u v zs σ H t,i<n->xs[i]?=some u->ys[i]?=some v->Pv i zs σ H->H t=none->g (.ref t) σ (upd H t (.tup [u,v])) fun σ2 H2=>tc σ2 H2 fun b H3=>if b=true then te σ2 H3 fun v H4=>Pv (i+1) (zs++[v]) σ2 H4 else Pv (i+1) zs σ2 H3)
  (hd:∀zs σ H,Pv n zs σ H->∀D,H D=none->Q (.ref D) (upd H D (.lst zs))):Js (Itz2 K t1 t2 a b xs ys) cp g tc te σ H Q:=by
 refine⟨fun i m zs σ H=>m=n-i/\i<=n/\Pv i zs σ H,⟨n,by simp,Nat.zero_le _,h0⟩,?_⟩
 rintro i m zs σ H ⟨rfl,hi,p⟩
 obtain⟨q1,q2,ly⟩:=hl i zs σ H hi p
 refine⟨by omega,?_⟩
 by_cases hlt:i<n
 ·refine .inr ⟨⟨by omega,by omega,q1,q2⟩,Pv (i+1),fun zs' σ' H' p'=>⟨n-(i+1),by omega,rfl,hlt,p'⟩,fun x H' y=>?_⟩
  obtain⟨t,u,v,e1,e2,e3,rfl,rfl⟩:=y
  exact hs i u v zs σ H t hlt e2 e3 p e1
 ·have e:i=n:=by omega
  subst e
  exact .inl ⟨⟨by omega,q1,q2⟩,hd zs σ H p⟩
theorem VZ {K:PySem.W.Frag}{cp:Caps}{te:TE}{Q:VK}{σ:St}{H:Hp}{t:Bool}{a:Addr}{xs:List V}{σ':St}(f:V->V)(e:cp.st σ=none::σ')(hl:SqB K H t a xs)(hz:xs.length<sizeLine)(hs:∀x∈xs,∀R:VK,R (f x) H->te (some x::σ') H R)(hd:∀D,H D=none->Q (.ref D) (upd H D (.lst (xs.map f)))):
  ((∃xs,SqL K H a xs)/\Js (Itl K a) cp (Mb 0) N4 te σ H Q)\/((∃xs,SqT K H a xs)/\Js (Itt K a) cp (Mb 0) N4 te σ H Q):=by
 cases t
 ·exact .inl ⟨⟨_,hl⟩,ZW f e hl hz hs hd⟩
 ·exact .inr ⟨⟨_,hl⟩,P6 f e hl hz hs hd⟩
theorem V0 {K:PySem.W.Frag}{cp:Caps}{g:TG}{te:TE}{Q:VK}{σ:St}{H:Hp}{t1 t2:Bool}{a b:Addr}{xs ys:List Int}{σ':St}(f:Int->Int->Int)(e:cp.st σ=none::none::σ')(h1:SqB K H t1 a (xs.map V.int))(h2:SqB K H t2 b (ys.map V.int))(hlen:xs.length=ys.length)(hz:xs.length<sizeLine)
  (hg:∀t u v o1 o2 H N,H t=some (.tup [u,v])->N (some u::some v::σ') H->g (.ref t) (o1::o2::σ') H N)
  (hs:∀x y H',x∈xs->y∈ys->Same H H'->∀R:VK,R (.int (f x y)) H'->te (some (.int x)::some (.int y)::σ') H' R)
  (hd:∀H' D,Same H H'->H' D=none->Q (.ref D) (upd H' D (.lst ((List.zipWith f xs ys).map V.int)))):Js (Itz2 K t1 t2 a b (xs.map V.int) (ys.map V.int)) cp g N4 te σ H Q:=by
 refine DL_ xs.length (by rw[List.length_map];omega) (by rw[List.length_map];omega) (by rw[List.length_map];exact .inl rfl) (fun i zs σ2 H2=>Same H H2/\zs=((List.zipWith f xs ys).take i).map V.int/\∃o1 o2,σ2=o1::o2::σ') ⟨Same.refl _,by simp,none,none,e⟩ hz (fun i zs σ2 H2 hi h=>?_) (fun i u v zs σ2 H2 t hi hu hv h ht=>?_) (fun zs σ2 H2 h D hD=>?_)
 ·obtain⟨s2,rfl,_⟩:=h
  exact⟨h1.mono s2,h2.mono s2,by rw[List.length_map,List.length_take];omega⟩
 ·obtain⟨s2,rfl,o1,o2,rfl⟩:=h
  obtain⟨x,hx,rfl⟩:=GP hu
  obtain⟨y,hy,rfl⟩:=GP hv
  refine hg t _ _ o1 o2 _ _ Ac ?_
  rw[Yn,if_pos rfl]
  refine hs x y _ (List.mem_of_getElem? hx) (List.mem_of_getElem? hy) (s2.newT ht) _ ⟨s2.newT ht,?_,_,_,rfl⟩
  rw[List.take_add_one,List.getElem?_zipWith,hx,hy];simp
 ·obtain⟨s2,rfl,_⟩:=h
  have:=hd H2 D s2 hD
  rwa [List.take_of_length_le (by rw[List.length_zipWith];omega)]
end L2
namespace Nest
def sl (row:List Int)(b i:Nat):List Int:=(row.take i).drop b
def dl (p e x:Int):Int:=if x=e then -1 else if p<=x then 1 else 0
def outF (p e:Int)(s:List Int×Int)(x:Int):List Int×Int:=if x=e then (s.1,s.2-1) else (if s.2=0 then s.1++[x] else s.1,if p<=x then s.2+1 else s.2)
def outS (p e:Int)(l:List Int):List Int×Int:=l.foldl (outF p e) ([],0)
def outW (p e:Int)(l:List Int):List Int:=(outS p e l).1
def wd (p e:Int)(row:List Int)(i a:Nat):List Int:=outW p e (sl row (a+1) i)
end Nest
namespace L2
open PySem PySem.Spec PyProof.Rows GW
theorem US {X:Cx}{K:PySem.W.Frag}{es:List Expr}{k:Nat}{t:TGs}{n:Nat}{pos:Pos}(hK:X.K=K)(hc:X.calm=true)(h:PGs X es t)
  (hn:(assignEach es X.env).length=n:=by rfl) (hst:(assignEach es X.env).findIdx? (·.1)=none:=by rfl):PG X (.Tuple es k pos) (gTup K n t):=by
 subst hK
 exact VF hc h hn hst
end L2
namespace HT
open PySem PySem.Spec PyProof.Rows L2
section
variable {prog:Program} {w:World} {A:Around} {E:Value->Shared->Prop} {s:Shared}
theorem getItem_tuple_whole {t sl:Addr}{items:Array Value}{vl vu:Value}{lo hi:Option Int}{Q:Value->Shared->Prop}(ht:IsTup s.heap t items)(hs:s.heap.IsSliceOf sl vl vu .none)(pl:IsPart vl lo)(pu:IsPart vu hi)
  (hw:sIx items.size 0 lo=0/\sIx items.size items.size hi=items.size) (h:Q (.ref t) s):wpAny (model prog w) A (getItem (.ref t) (.ref sl)) Q E s:=by
 obtain⟨os,hos,hcs,hds⟩:=id hs
 have hTs:s.TypeIs (.ref sl) "slice" := ⟨os,hos,hcs⟩
 unfold getItem
 try with_reducible refine wpAny_holding ?_
 first|refine wpAny_bind (wpAny_pure ?_)|skip
 refine wpAny_bind (wpAny_sequenceKey ht.typeIs (by decide) ?_)
 refine wpAny_bind (wpAny_callSpecial?_slot (name:=Str.ofString "__getitem__") ht.typeIs PyProof.Rows.slot_tuple_getitem
  (wpAny_call_entry PyProof.Rows.slot_tuple_getitem ht.typeIs entry_tuple_getitem ?_ (args_tuple_getitem _ _)))
 show wpAny _ _ (Builtin.Tuple.tupleItemsOf (.ref t) >>= _) _ _ s
 refine wpAny_bind (tupleItemsOf_ ht ?_)
 refine wpAny_bind (wpAny_typeOf hTs ?_)
 rw[if_pos (by decide)]
 refine wpAny_bind (Hv hs pl pu ?_)
 rw[hw.1,hw.2]
 show wpAny _ _ (if ((((0:Nat):Int)==0&&(1:Int)==1&&(items.size-0)==items.size)=true) then _ else _) _ _ s
 rw[if_pos (by simp)]
 refine wpAny_bind ?_
 unfold Builtin.Tuple.tupleIsExact
 refine wpAny_bind (wpAny_typeOf ht.typeIs (wpAny_pure ?_))
 rw[if_pos (by decide)]
 refine wpAny_bind (wpAny_rule ?_)
 exact wpAny_pure ⟨_,rfl,wpAny_pure h⟩
end
end HT
namespace L2
open PySem PySem.Spec PyProof.Rows GW
def DM_ (K:PySem.W.Frag):V->Option Int->Option Int->Hp->VK->Prop:=fun x lo hi H Q=>∃a xs,x=.ref a/\SqT K H a xs/\∀p H',Same H H'->SqT K H' p (cutV xs lo hi)->Q (.ref p) H'
theorem Bt_ {K:PySem.W.Frag}{x:V}{lo hi:Option Int}{H:Hp}{Q:VK}:DM_ K x lo hi H Q=∃a xs,x=.ref a/\SqT K H a xs/\∀p H',Same H H'->SqT K H' p (cutV xs lo hi)->Q (.ref p) H':=rfl
theorem Jt {X:Cx}:SlR X (DM_ X.K):=by
 intro pins s σ H x v vl vu lo hi sl Q I rx hs pl pu h
 obtain⟨a,xs,rfl,hx,q⟩:=h
 by_cases hw:HT.sIx xs.length 0 lo=0/\HT.sIx xs.length xs.length hi=xs.length
 ·cases rx
  obtain⟨its,r,ht,hz⟩:=I.tuple hx
  have hlen:its.toArray.size=xs.length:=by rw[List.size_toArray];exact r.length.symm
  refine⟨"tuple",_,PyProof.Rows.slot_tuple_getitem.lookup,ht.typeIs,?_⟩
  refine HT.getItem_tuple_whole ht hs pl pu (by rw[hlen];exact hw) ⟨.ref a,H,I,rfl,q a H (Same.refl _) ?_⟩
  unfold cutV
  rw[hw.1,hw.2,List.drop_zero,Nat.sub_zero,List.take_length]
  exact hx
 ·exact Da_ pins s σ H (.ref a) v vl vu lo hi sl Q I rx hs pl pu ⟨a,xs,rfl,hx,hw,fun p hp=>q p _ (Same.new hp) (SqT.of Ac)⟩
theorem Ce_ {X:Cx}{K:PySem.W.Frag}{tg l:Expr}{tl:TE}(hK:X.K=K)(hl:PE X l tl):PI X tg l (iSeq K tl):=by subst hK;exact Yy hl
theorem Cf_ {X:Cx}{K:PySem.W.Frag}{tg l:Expr}{tl:TE}(hK:X.K=K)(hl:PE X l tl):PI X tg l (iTup K tl):=by subst hK;exact Hu hl
theorem YU {K:PySem.W.Frag}{cp:Caps}{te:TE}{Q:VK}{σ:St}{H:Hp}{t:Bool}{a:Addr}{xs:List V}{σ':St}(g:Nat->V)(e:cp.st σ=none::σ')(hl:SqB K H t a xs)(hz:xs.length<sizeLine)(hs:∀i x,xs[i]?=some x->∀R:VK,R (g i) H->te (some x::σ') H R)(hd:∀D,H D=none->Q (.ref D) (upd H D (.lst ((List.range xs.length).map g)))):
  ((∃xs,SqL K H a xs)/\Js (Itl K a) cp (Mb 0) N4 te σ H Q)\/((∃xs,SqT K H a xs)/\Js (Itt K a) cp (Mb 0) N4 te σ H Q):=by
 cases t
 ·refine .inl ⟨⟨_,hl⟩,ZV (xs:=xs) (fun i ys σ2 H2=>H2=H/\ys=(List.range i).map g/\∃o,σ2=o::σ') ⟨rfl,rfl,none,e⟩ hz (fun i ys σ2 H2 hi h=>?_) (fun i x ys σ2 H2 hx h=>?_) (fun ys σ2 H2 h=>?_)⟩
  ·obtain⟨rfl,rfl,_⟩:=h
   exact⟨hl,by rw[List.length_map,List.length_range];exact Nat.le_refl _⟩
  ·obtain⟨rfl,rfl,o,rfl⟩:=h
   refine hs i x hx _ ⟨rfl,?_,some x,rfl⟩
   rw[List.range_succ,List.map_append];rfl
  ·obtain⟨rfl,rfl,_⟩:=h
   exact hd
 ·refine .inr ⟨⟨_,hl⟩,Yo (xs:=xs) (fun i ys σ2 H2=>H2=H/\ys=(List.range i).map g/\∃o,σ2=o::σ') ⟨rfl,rfl,none,e⟩ hz (fun i ys σ2 H2 hi h=>?_) (fun i x ys σ2 H2 hx h=>?_) (fun ys σ2 H2 h=>?_)⟩
  ·obtain⟨rfl,rfl,_⟩:=h
   exact⟨hl,by rw[List.length_map,List.length_range];exact Nat.le_refl _⟩
  ·obtain⟨rfl,rfl,o,rfl⟩:=h
   refine hs i x hx _ ⟨rfl,?_,some x,rfl⟩
   rw[List.range_succ,List.map_append];rfl
  ·obtain⟨rfl,rfl,_⟩:=h
   exact hd
end L2
namespace L2
open PySem PySem.Spec PyProof.Rows
theorem MY {X:Cx}{K:PySem.W.Frag}(h:X.K=K):OpR X (binaryOp .Add) (Dv K):=by subst h;exact Dp
end L2
set_option maxHeartbeats 1000000
set_option maxHeartbeats 4000000
namespace L2
section
variable {α:Type} [DecidableEq α]
def ins1 (acc:List α)(x:α):List α:=if x∈acc then acc else acc++[x]
def Cg_ (acc row:List α):List α:=row.foldl ins1 acc
def YV (row:List α):List α:=Cg_ [] row
def num (row:List α):List Int:=row.map fun x=>((YV row).idxOf x:Int)
def ncl (row:List α):Nat:=(YV row).length
end
def rowB (n:Nat)(b:List Int->Nat->Int)(w:List Int):List Int:=(List.range n).map (b w)
abbrev StC:=List (List Int)×List Int
def Eu_ (n:Nat)(b:List Int->Nat->Int)(w:List Int)(st:StC)(x:Nat):StC:=if ncl st.2<ncl (st.2.zip (rowB n b ((x:Int)::w))) then (st.1++[(x:Int)::w],num (st.2.zip (rowB n b ((x:Int)::w)))) else st
def DN_ (n:Nat)(b:List Int->Nat->Int)(w:List Int)(L:Nat)(st:StC):StC:=(List.range L).foldl (Eu_ n b w) st
def Bu_ (n:Nat)(b:List Int->Nat->Int)(L:Nat):Nat->Nat->StC->StC
 |0,_,st=>st
 |f+1,k,st=>if k<st.1.length then Bu_ n b L f (k+1) (DN_ n b (st.1.getD k []) L st) else st
section
variable {n L:Nat} {b:List Int->Nat->Int} {w:List Int} {st:StC}
def wcOf (n L:Nat)(b:List Int->Nat->Int):StC:=Bu_ n b L 41 0 ([[]],num (rowB n b []))
end
end L2
namespace L2
open GW GB
def bW (marks:List Int)(ways:List (List Int))(w:List Int)(r:Nat):Int:=marks.getD (Eq_ ways (r:Int) w).toNat 0
def cf (c:List Int)(r:Int):Int:=c.getD r.toNat 0
def hm (c R:List Int)(r:Int):Int:=(((YV (R.map (cf c))).idxOf (cf c r):Nat):Int)
def DO_ (c acc:List Int)(r:Int):List Int:=if cf c r∈acc.map (cf c) then acc else acc++[r]
def FR (c R:List Int):List Int:=R.foldl (DO_ c) []
def hrow (c R:List Int)(ways:List (List Int))(r:Int):List Int:=(ways.getD r.toNat []).map (hm c R)
def cOf (L:Nat)(marks:List Int)(ways:List (List Int)):List Int:=(wcOf marks.length L (bW marks ways)).2
def rOf (ways:List (List Int)):List Int:=(YC ways).map (·.1)
def sF (L:Nat)(marks:List Int)(ways:List (List Int)):List Int:=FR (cOf L marks ways) (rOf ways)
def sW (L:Nat)(marks:List Int)(ways:List (List Int)):List (List Int):=(sF L marks ways).map (hrow (cOf L marks ways) (rOf ways) ways)
def hO (L:Nat)(marks:List Int)(ways:List (List Int))(r:Int):Int:=hm (cOf L marks ways) (rOf ways) r
section
variable {L:Nat} {marks:List Int} {ways:List (List Int)}
def wi (ways:List (List Int))(r:Int):List Int:=(((YC ways).find? fun e=>decide (e.1=r)).map (·.2)).getD []
end
end L2
set_option maxHeartbeats 1000000
set_option maxHeartbeats 4000000
namespace L2
open PySem PySem.Spec PyProof.Rows
section
variable {X:Cx} {pins:List (Addr×Obj)} {σ:St} {H:Hp} {s:Shared} {a:Addr}
theorem Inv.freezeK {kvs:List (Key×V)}{o:Obj}(I:Inv X pins σ H s)(e:H a=some (.dK kvs))(ho:s.heap.get? a=some o):Inv X pins σ (upd H a (.frz o (.dK kvs))) s:=by
 refine PZ (h':=s.heap) (t':=s.toks) I (by rw[e];exact True.intro) ⟨rfl,fun _ _=>rfl⟩ ⟨o,ho⟩ ?_
 exact⟨ho,(show Bq X.prog X.w H s.heap a (.dK kvs) from I.hok a _ e)⟩
end
theorem dkAt {P:Program}{w:World}{H:Hp}{h:Heap}{a:Addr}{kvs:List (Key×V)}(ok:HOk P w H h)(e:Rd H a (.dK kvs)):
  ∃vs ep,h.DictAt (B8 P w) a vs ep/\KV kvs vs/\(a==sysModules)=false/\kvs.length<=sizeLine:=by
 obtain⟨z,y,vs,r,m⟩:=ZO ok e
 obtain⟨ep,hat⟩:=m.dictAt
 exact⟨vs,ep,hat,r,y,z⟩
theorem KV.get {kvs:List (Key×V)}{vs:List (Key×Value)}(r:KV kvs vs){i:Nat}{k:Key}{v:V}(h:kvs[i]?=some (k,v)):∃u,vs[i]?=some (k,u)/\RelV v u:=by
 obtain⟨q,hq,e1,e2⟩:=IQ r h
 exact⟨q.2,by rw[hq,show k=q.1 from e1],e2⟩
def ItkK (o:Obj)(a:Addr)(kvs:List (Key×V)):It:=⟨fun i H=>i<kvs.length/\H a=some (.frz o (.dK kvs)),fun i H x H'=>H'=H/\∃k v,kvs[i]?=some (k,v)/\x=kV k,fun i H=>kvs.length<=i/\H a=some (.frz o (.dK kvs))⟩
theorem Ab_ {P:Program}{w:World}{H:Hp}{h:Heap}{a:Addr}{o:Obj}{kvs:List (Key×V)}{es:Array DictEntry}{ep:Nat}(ok:HOk P w H h)(hd:o.data=.dict es ep)(e:H a=some (.frz o (.dK kvs))):∃vs,h.DictAt (B8 P w) a vs ep/\KV kvs vs/\vs.length=kvs.length:=by
 obtain⟨hko,_⟩:=(show Bq P w H h a (.frz o (.dK kvs)) from ok a _ e)
 obtain⟨vs,ep',hat,r,_,_⟩:=dkAt ok (.inr ⟨o,e⟩)
 obtain⟨o',es',g1,g2,g3,g4⟩:=id hat
 rw[hko]at g1
 cases g1
 rw[hd]at g3
 cases g3
 exact⟨vs,hat,r,r.length.symm⟩
def FzAt (d:Addr)(H H':Hp):Prop:=(∀a u,a≠d->H a=some u->H' a=some u)/\∀u,H d=some u->H' d=some u \/ ∃kvs o,u=.dK kvs/\H' d=some (.frz o (.dK kvs))
theorem FzAt.of {d:Addr}{H H':Hp}(s:Same H H'):FzAt d H H':=⟨fun a u _ h=>s a u h,fun u h=>.inl (s d u h)⟩
theorem FzAt.trans {d:Addr}{H H' H2:Hp}(s:FzAt d H H')(t:FzAt d H' H2):FzAt d H H2:=by
 refine⟨fun a u ha h=>t.1 a u ha (s.1 a u ha h),fun u h=>?_⟩
 rcases s.2 u h with h' | ⟨kvs,o,e,h'⟩
 ·exact t.2 u h'
 ·rcases t.2 _ h' with h2|⟨_,_,e2,_⟩
  ·exact .inr ⟨kvs,o,e,h2⟩
  ·cases e2
theorem FzAt.lst {d a:Addr}{H H':Hp}{xs:List V}(s:FzAt d H H')(h:H a=some (.lst xs)):H' a=some (.lst xs):=by
 by_cases e:a=d
 ·subst e
  rcases s.2 _ h with h' | ⟨_,_,e,_⟩
  ·exact h'
  ·cases e
 ·exact s.1 a _ e h
theorem FzAt.seqT {d a:Addr}{K:PySem.W.Frag}{H H':Hp}{xs:List V}(s:FzAt d H H')(h:SqT K H a xs):SqT K H' a xs:=by
 have key:∀u,(∀kvs,u ≠ .dK kvs)->H a=some u->H' a=some u:=fun u hu h=>by
  by_cases e:a=d
  ·subst e
   rcases s.2 _ h with h' | ⟨kvs,_,e,_⟩
   ·exact h'
   ·exact absurd e (hu kvs)
  ·exact s.1 a _ e h
 rcases h with (q|⟨o,q⟩)|q
 ·exact .inl (.inl (key _ (fun _ z=>nomatch z) q))
 ·exact .inl (.inr ⟨o,key _ (fun _ z=>nomatch z) q⟩)
 ·exact .inr q
theorem FzAt.rd {d a:Addr}{H H':Hp}{kvs:List (Key×V)}(s:FzAt d H H')(h:Rd H a (.dK kvs)):Rd H' a (.dK kvs):=by
 by_cases e:a=d
 ·subst e
  rcases h with h|⟨o,h⟩
  ·rcases s.2 _ h with h' | ⟨kvs,o,e,h'⟩
   ·exact .inl h'
   ·cases e;exact .inr ⟨o,h'⟩
  ·rcases s.2 _ h with h' | ⟨kvs,o',e,h'⟩
   ·exact .inr ⟨o,h'⟩
   ·cases e
 ·rcases h with h|⟨o,h⟩
  ·exact .inl (s.1 a _ e h)
  ·exact .inr ⟨o,s.1 a _ e h⟩
theorem FzAt.same {d:Addr}{H0 H H':Hp}(s:FzAt d H H')(h:Same H0 H)(hd:H0 d=none):Same H0 H':=fun a u e=>s.1 a u (fun z=>by rw[z,hd]at e;cases e) (h a u e)
theorem FzAt.new {d:Addr}{H H':Hp}{o:Obj}{kvs:List (Key×V)}(h:Rd H d (.dK kvs))(h1:H' d=some (.frz o (.dK kvs)))(h2:∀b,b≠d->H' b=H b)(h3:∀o',H d=some (.frz o' (.dK kvs))->o'=o):FzAt d H H':=by
 refine⟨fun a u ha e=>by rw[h2 a ha];exact e,fun u e=>?_⟩
 rcases h with h|⟨o',h⟩
 ·rw[h]at e;cases e;exact .inr ⟨kvs,o,rfl,h1⟩
 ·rw[h]at e;cases e;rw[h3 o' h] ;exact .inl h1
theorem frzK {X:Cx}{pins:List (Addr×Obj)}{σ:St}{H:Hp}{s:Shared}{a:Addr}{kvs:List (Key×V)}(I:Inv X pins σ H s)(e:Rd H a (.dK kvs)):
  ∃o es vs ep H2,Inv X pins σ H2 s/\H2 a=some (.frz o (.dK kvs))/\FzAt a H H2/\s.heap.DictAt (B8 X.prog X.w) a vs ep/\s.heap.get? a=some o/\o.ExactDict/\o.data=.dict es ep/\vs.length=kvs.length/\(a==sysModules)=false:=by
 obtain⟨vs,ep,hat,r,g5,g6⟩:=dkAt I.hok e
 obtain⟨od,es,g1,g2,g3,g4⟩:=id hat
 rcases e with e|⟨o,e⟩
 ·exact⟨od,es,vs,ep,_,I.freezeK e g1,Ac,FzAt.new (.inl e) Ac (fun b hb=>Aw hb) (fun o' z=>by rw[e]at z;cases z),hat,g1,g2,g3,r.length.symm,g5⟩
 ·obtain⟨hko,_⟩:=(show Bq X.prog X.w H s.heap a (.frz o (.dK kvs)) from I.hok a _ e)
  rw[hko]at g1
  cases g1
  exact⟨_,es,vs,ep,H,I,e,FzAt.of (Same.refl _),hat,hko,g2,g3,r.length.symm,g5⟩
theorem WD {P:Program}{w:World}{K:PySem.W.Frag}{tg:Expr}{o:Obj}{a it:Addr}{kvs:List (Key×V)}{es:Array DictEntry}{ep:Nat}(hai:a≠it)(hd:o.data=.dict es ep):
  Turn P w K tg (ItkK o a kvs) [it] it (fun i h=>h.IsKeyIter it a i kvs.length ep) where
 mem:=by simp
 obj:=fun i h st b hb=>by
  have e:b=it:=by simpa using hb
  subst e
  obtain⟨o,e,c,d⟩:=st
  exact⟨o,e,fun v z=>by rw[d]at z;cases z⟩
 keep:=fun i h h' st k=>st.at fun o e=>k it (by simp) o e
 item:=by
  intro X hP hw hK hcm i pins s σ H E I hf st hg
  subst hP hw hK
  obtain⟨hi,hq⟩:=hg
  obtain⟨vs,hat,r,hl⟩:=Ab_ I.hok hd hq
  obtain⟨kv,hkv⟩:∃kv,kvs[i]?=some kv:=⟨kvs[i],by simp[hi]⟩
  obtain⟨k,v⟩:=kv
  obtain⟨u,hu,ru⟩:=KV.get r hkv
  obtain⟨f0,f1,f2,f3,f4,f5⟩:=hf it (by simp)
  refine wpAny_pyNext_dict_item (kvs:=vs) (by rw[hl];exact st) hat hu fun key h' hk st' sb=>?_
  rw[hl]at st'
  have I1:Inv X pins σ H {s with heap:=h' }:=I.turned (t':=s.toks) (fun b o hb e=>(sb.2 b hb).trans e) f0 f1 f3 f4 f5
  obtain⟨io,e,c,d⟩:=id st'
  exact⟨_,rfl,ZA (s:={s with heap:=h' }) e c d (by decide) ⟨kV k,H,I1,S7 hk,⟨rfl,k,v,hkv,rfl⟩,st',fun b hb=>(hf b hb).1⟩⟩
 done:=by
  intro X hP hw hK hcm i pins s σ H E I hf st hg
  subst hP hw hK
  obtain⟨hi,hq⟩:=hg
  obtain⟨vs,hat,r,hl⟩:=Ab_ I.hok hd hq
  obtain⟨f0,f1,f2,f3,f4,f5⟩:=hf it (by simp)
  exact wpAny_pyNext_dict_end (kvs:=vs) (I.ok.hd hcm) (by rw[hl];exact st) hat (List.getElem?_eq_none (by omega)) fun h' eb=>⟨rfl,I.turned (t':=s.toks) (fun b o hb e=>eb b o hb e) f0 f1 f3 f4 f5⟩
 self:=fun _ _ _ _ _ st h=>wpAny_pyIter_keyiter st h
def Bv_ (td:TE):TI:=fun σ H R=>td σ H fun x H1=>∃a kvs,x=.ref a/\Rd H1 a (.dK kvs)/\∀o H2,H2 a=some (.frz o (.dK kvs))->FzAt a H1 H2->R (ItkK o a kvs) H2
theorem V1 {te:TE}{σ:St}{H:Hp}{Z:It->Hp->Prop}:Bv_ te σ H Z=te σ H fun x H1=>∃a kvs,x=.ref a/\Rd H1 a (.dK kvs)/\∀o H2,H2 a=some (.frz o (.dK kvs))->FzAt a H1 H2->Z (ItkK o a kvs) H2:=rfl
theorem Ac_ {X:Cx}{tg:Expr}{l:Expr}{tl:TE}(hl:PE X l tl):PI X tg l (Bv_ tl):=by
 intro pins s σ H R I h
 refine thn (hl pins s σ H _ I h) fun v s1 ⟨x,H1,I1,r1,q1⟩=>?_
 obtain⟨a,kvs,e,hq,q⟩:=q1
 subst e
 cases r1
 obtain⟨o,es,vs,ep,H2,I2,hfz,hF,hat,g1,g2,g3,hlen,g5⟩:=frzK I1 hq
 refine wpAny_pyIter_dict g5 hat ?_
 refine⟨s1.heap.objs.size,[s1.heap.objs.size],_,_,_,rfl,I2.kept (t':=s1.toks) fun b o e=>Heap.get?_push_of_some _ e,WD (o:=o) (kvs:=kvs) (Nat.ne_of_lt (Heap.lt_size g1)) g3,⟨_,Heap.get?_push_size _ rfl,rfl,by rw[hlen];rfl⟩,fun b hb=>?_,q o H2 hfz hF⟩
 have e:b=s1.heap.objs.size:=by simpa using hb
 subst e
 exact I2.fpOk (Nat.le_refl _) (I2.hok.fresh (Nat.le_refl _))
theorem Ev_ {o:Obj}{a:Addr}{kvs:List (Key×V)}{g:TG}{tb:TS}{D:Ends}{σ:St}{H:Hp}(Pv:Nat->St->Hp->Prop)(h0:Pv 0 σ H)(hl:∀i σ H,i<=kvs.length->Pv i σ H->H a=some (.frz o (.dK kvs)))
  (hs:∀i k v σ H,kvs[i]?=some (k,v)->Pv i σ H->g (kV k) σ H fun σ2 H2=>tb {D with nx:=Pv (i+1),ct:=Pv (i+1),bk:=D.nx} σ2 H2) (hd:∀σ H,Pv kvs.length σ H->D.nx σ H):ForW (ItkK o a kvs) g tb D σ H:=by
 refine⟨fun i m σ H=>m+i=kvs.length/\Pv i σ H,⟨kvs.length,by omega,h0⟩,fun i m σ H ⟨hm,hp⟩=>?_⟩
 have hq:=hl i σ H (by omega) hp
 by_cases hi:i<kvs.length
 ·refine .inr ⟨⟨hi,hq⟩,Pv (i+1),fun σ' H' h=>⟨m-1,by omega,by omega,h⟩,fun x H' hy=>?_⟩
  obtain⟨rfl,k,v,hk,rfl⟩:=hy
  exact hs i k v σ _ hk hp
 ·have e:i=kvs.length:=by omega
  subst e
  exact .inl ⟨⟨Nat.le_refl _,hq⟩,hd σ H hp⟩
def ItiK (o:Obj)(a:Addr)(kvs:List (Key×V)):It:=⟨fun i H=>i<kvs.length/\H a=some (.frz o (.dK kvs)),fun i H x H'=>∃t k v,H t=none/\kvs[i]?=some (k,v)/\x=.ref t/\H'=upd H t (.tup [kV k,v]),fun i H=>kvs.length<=i/\H a=some (.frz o (.dK kvs))⟩
theorem UT {P:Program}{w:World}{K:PySem.W.Frag}{elts:List Expr}{x1}{tpos:Pos}{o:Obj}{a it:Addr}{kvs:List (Key×V)}{es:Array DictEntry}{ep:Nat}(hai:a≠it)(hd:o.data=.dict es ep):
  Turn P w K (.Tuple elts x1 tpos) (ItiK o a kvs) [it] it (fun i h=>∃ok ov,IsItemIter h it a i kvs.length ep ok ov) where
 mem:=by simp
 obj:=fun i h st b hb=>by
  have e:b=it:=by simpa using hb
  subst e
  obtain⟨ok,ov,e⟩:=st
  exact⟨_,e,fun v z=>by cases z⟩
 keep:=fun i h h' st k=>by
  obtain⟨ok,ov,e⟩:=st
  exact⟨ok,ov,k it (by simp) _ e⟩
 item:=by
  intro X hP hw hK hcm i pins s σ H E I hf st hg
  subst hP hw hK
  obtain⟨hi,hq⟩:=hg
  obtain⟨ok,ov,st⟩:=st
  obtain⟨vs,hat,r,hl⟩:=Ab_ I.hok hd hq
  obtain⟨kv,hkv⟩:∃kv,kvs[i]?=some kv:=⟨kvs[i],by simp[hi]⟩
  obtain⟨k,v⟩:=kv
  obtain⟨u,hu,ru⟩:=KV.get r hkv
  refine wpAny_pyNext_items_item (kvs:=vs) (by rw[hl];exact st) hat hu fun key h' hk g1 g5 gsz gk=>?_
  rw[hl]at g1
  have hTz:s.heap.objs.size≠it:=Nat.ne_of_gt (Heap.lt_size st)
  refine⟨_,rfl,wpAny_letOwnedTupleGo_items g1 fun h2' e1 hs2=>?_⟩
  have hk2:∀b o,b ∉ [it]->s.heap.get? b=some o->h2'.get? b=some o:=fun b o hb q=>by
   simp only[List.mem_singleton]at hb
   exact (hs2.2 b hb).trans (gk b o hb q)
  obtain⟨un,hok⟩:=I.unL hk2 hf
  have hn:H s.heap.objs.size=none:=I.hok.fresh (Nat.le_refl _)
  have new:Bq X.prog X.w (upd H s.heap.objs.size (.tup [kV k,v])) h2' s.heap.objs.size (.tup [kV k,v]):=⟨by have:=An;simp;omega,[key,u],.cons (S7 hk) (.cons ru .nil),_,(hs2.2 _ hTz).trans g5,rfl,_,rfl⟩
  refine⟨.ref s.heap.objs.size,upd H s.heap.objs.size (.tup [kV k,v]),I.call' (s':={s with heap:=h2' }) (ch:=[it]) rfl (un.track (Nat.le_refl _) hn) (hok.track hn new) I.bare (fun b hb=>(hf b hb).ch),rfl,⟨_,k,v,hn,hkv,rfl,rfl⟩,⟨_,_,e1⟩,fun b hb=>?_⟩
  have hb':=hf b hb
  have e:b=it:=by simpa using hb
  subst e
  rw[Aw (Nat.ne_of_lt (Heap.lt_size st))]
  exact hb'.1
 done:=by
  intro X hP hw hK hcm i pins s σ H E I hf st hg
  subst hP hw hK
  obtain⟨hi,hq⟩:=hg
  obtain⟨ok,ov,st⟩:=st
  obtain⟨vs,hat,r,hl⟩:=Ab_ I.hok hd hq
  refine wpAny_pyNext_items_end (kvs:=vs) (I.ok.hd hcm) (by rw[hl];exact st) hat (List.getElem?_eq_none (by omega)) fun h' eb=>⟨rfl,?_⟩
  obtain⟨f0,f1,f2,f3,f4,f5⟩:=hf it (by simp)
  exact I.turned (t':=s.toks) (fun b o hb e=>eb b o hb e) f0 f1 f3 f4 f5
 self:=fun A i s Q E st h=>by
  obtain⟨ok,ov,st⟩:=st
  exact PySem.W.kcp_self st h
def YW (td:TE):TI:=fun σ H R=>td σ H fun x H1=>∃a kvs,x=.ref a/\Rd H1 a (.dK kvs)/\∀o H2,H2 a=some (.frz o (.dK kvs))->FzAt a H1 H2->R (ItiK o a kvs) H2
theorem Ta {te:TE}{σ:St}{H:Hp}{Z:It->Hp->Prop}:YW te σ H Z=te σ H fun x H1=>∃a kvs,x=.ref a/\Rd H1 a (.dK kvs)/\∀o H2,H2 a=some (.frz o (.dK kvs))->FzAt a H1 H2->Z (ItiK o a kvs) H2:=rfl
theorem YX {X:Cx}{elts:List Expr}{x1}{tpos:Pos}{o:Expr}{td:TE}{apos cpos:Pos}(ho:PE X o td)(hbase:attributeBase o "items" X.env (eval o X.env)=eval o X.env:=by rfl)(hline:(apos.endLine==cpos.line)=true:=by rfl):PI X (.Tuple elts x1 tpos) (.Call (.Attribute o "items" apos) [] [] cpos) (YW td):=by
 intro pins s σ H R I h
 refine wpAny_Call_method0_late hbase hline (thn (ho pins s σ H _ I h) fun v s1 ⟨x,H1,I1,r1,q1⟩=>?_)
 obtain⟨a,kvs,e,hq,q⟩:=q1
 subst e
 obtain rfl:v=Value.ref a:=r1
 obtain⟨od,es,vs,ep,H2,I2,hfz,hF,hat,g1,g2,g3,hlen,g5⟩:=frzK I1 hq
 have hT:s1.TypeIs (.ref a) "dict" := ⟨od,g1,g2.1⟩
 refine⟨"dict","dict.items",PySem.F.plainAttrs_dict,PySem.F.slot_dict_items,PySem.F.type_dict_items,hT,fun b e=>?_,Calls.callWith_builtin rfl (PySem.evalArgs_none ?_)⟩
 ·cases e
  exact⟨od,g1,g2.2.1⟩
 refine wpAny_call_entry PySem.F.slot_dict_items hT PySem.F.entry_dict_items (?_:wpAny _ _ (Builtin.«dict.items» _) _ _ s1) (PySem.F.args_dict_items_1 _)
 unfold Builtin.«dict.items»
 refine wpAny_bind ?_
 unfold Builtin.Dict.noArgs
 refine wpAny_bind (wpAny_notOrdered_dict hT ?_)
 show wpAny _ _ (pure a) _ _ s1
 refine wpAny_pure ?_
 show wpAny _ _ (Builtin.Dict.showsAll a >>= _) _ _ s1
 unfold Builtin.Dict.showsAll
 rw[if_neg (by rw[g5];exact Bool.false_ne_true)]
 refine wpAny_bind (wpAny_pure ?_)
 refine wpAny_bind (wpAny_newObj_type (wpAny_pure ⟨_,rfl,?_⟩))
 have hk1:∀b u,s1.heap.get? b=some u->(s1.heap.push {cls:=.type "dict_items",data:=.fields #[.ref a]}).get? b=some u:=fun b u e=>Heap.get?_push_of_some _ e
 refine wpAny_pyIter_items (s:={s1 with heap:=s1.heap.push {cls:=.type "dict_items",data:=.fields #[.ref a]} }) ⟨_,Heap.get?_push_size _ rfl,rfl,rfl⟩ (hat.keep hk1) ?_
 have hle:s1.heap.objs.size<=(s1.heap.push {cls:=.type "dict_items",data:=.fields #[.ref a]}).objs.size:=by rw[Heap.size_push];exact Nat.le_succ _
 refine⟨_,[(s1.heap.push {cls:=.type "dict_items",data:=.fields #[.ref a]}).objs.size],_,_,_,rfl,I2.kept (t':=s1.toks) fun b u e=>Heap.get?_push_of_some _ (hk1 b u e),UT (o:=od) (kvs:=kvs) (Nat.ne_of_lt (Nat.lt_of_lt_of_le (Heap.lt_size g1) hle)) g3,⟨.none,.none,?_⟩,fun b hb=>?_,q od H2 hfz hF⟩
 ·rw[<-hlen];exact Heap.get?_push_size _ rfl
 ·have e:b=(s1.heap.push {cls:=.type "dict_items",data:=.fields #[.ref a]}).objs.size:=by simpa using hb
  subst e
  exact I2.fpOk hle (I2.hok.fresh hle)
theorem Ew_ {o:Obj}{a:Addr}{kvs:List (Key×V)}{g:TG}{tb:TS}{D:Ends}{σ:St}{H:Hp}(Pv:Nat->St->Hp->Prop)(h0:Pv 0 σ H)(hl:∀i σ H,i<=kvs.length->Pv i σ H->H a=some (.frz o (.dK kvs)))
  (hs:∀i k v t σ H,kvs[i]?=some (k,v)->Pv i σ H->H t=none->g (.ref t) σ (upd H t (.tup [kV k,v])) fun σ2 H2=>tb {D with nx:=Pv (i+1),ct:=Pv (i+1),bk:=D.nx} σ2 H2) (hd:∀σ H,Pv kvs.length σ H->D.nx σ H):ForW (ItiK o a kvs) g tb D σ H:=by
 refine⟨fun i m σ H=>m+i=kvs.length/\Pv i σ H,⟨kvs.length,by omega,h0⟩,fun i m σ H ⟨hm,hp⟩=>?_⟩
 have hq:=hl i σ H (by omega) hp
 by_cases hi:i<kvs.length
 ·refine .inr ⟨⟨hi,hq⟩,Pv (i+1),fun σ' H' h=>⟨m-1,by omega,by omega,h⟩,fun x H' hy=>?_⟩
  obtain⟨t,k,v,ht,hk,rfl,rfl⟩:=hy
  exact hs i k v t σ _ hk hp ht
 ·have e:i=kvs.length:=by omega
  subst e
  exact .inl ⟨⟨Nat.le_refl _,hq⟩,hd σ H hp⟩
def iOr (t u:TI):TI:=fun σ H R=>t σ H R\/u σ H R
theorem DP_ {t u:TI}{σ:St}{H:Hp}{Z:It->Hp->Prop}:iOr t u σ H Z=(t σ H Z\/u σ H Z):=rfl
theorem DQ_ {X:Cx}{tg e:Expr}{t u:TI}(h:PI X tg e t)(g:PI X tg e u):PI X tg e (iOr t u):=fun pins s σ H R I q=>q.elim (fun q=>h pins s σ H R I q) (fun q=>g pins s σ H R I q)
theorem forE {K:PySem.W.Frag}{t:Bool}{a:Addr}{xs:List V}{g:TG}{tb:TS}{D:Ends}{σ:St}{H:Hp}(h:SqB K H t a xs)(Pv:Nat->St->Hp->Prop)(h0:Pv 0 σ H)(hl:∀i σ H,i<=xs.length->Pv i σ H->SqB K H t a xs)
  (hs:∀i v σ H q,xs[i]?=some v->Pv i σ H->H q=none->g (.ref q) σ (upd H q (.tup [.int i,v])) fun σ2 H2=>tb {D with nx:=Pv (i+1),ct:=Pv (i+1),bk:=D.nx} σ2 H2) (hd:∀σ H,Pv xs.length σ H->D.nx σ H):
  (∃ys,SqL K H a ys/\ForW (Itm K a ys) g tb D σ H) \/ ∃ys,SqT K H a ys/\ForW (Itn K a ys) g tb D σ H:=by
 cases t
 ·exact .inl ⟨xs,h,forM Pv h0 hl hs hd⟩
 ·exact .inr ⟨xs,h,forN Pv h0 hl hs hd⟩
theorem Ex_ {K:PySem.W.Frag}{cp:Caps}{t:Bool}{a:Addr}{xs:List V}{g:TG}{tc:TT}{te:TE}{Q:VK}{σ:St}{H:Hp}(h:SqB K H t a xs)(Pv:Nat->List V->St->Hp->Prop)(h0:Pv 0 [] (cp.st σ) H)(hz:xs.length<sizeLine)
  (hl:∀i zs σ H,i<=xs.length->Pv i zs σ H->SqB K H t a xs/\zs.length<=i)
  (hs:∀i v zs σ H q,xs[i]?=some v->Pv i zs σ H->H q=none->g (.ref q) σ (upd H q (.tup [.int i,v])) fun σ2 H2=>tc σ2 H2 fun b H3=>if b=true then te σ2 H3 fun v H4=>Pv (i+1) (zs++[v]) σ2 H4 else Pv (i+1) zs σ2 H3)
  (hd:∀zs σ H,Pv xs.length zs σ H->∀D,H D=none->Q (.ref D) (upd H D (.lst zs))):
  (∃ys,SqL K H a ys/\Js (Itm K a ys) cp g tc te σ H Q) \/ ∃ys,SqT K H a ys/\Js (Itn K a ys) cp g tc te σ H Q:=by
 cases t
 ·refine .inl ⟨xs,h,fun i m zs σ H=>m=xs.length-i/\i<=xs.length/\Pv i zs σ H,⟨xs.length,by simp,Nat.zero_le _,h0⟩,?_⟩
  rintro i m zs σ H ⟨rfl,hi,p⟩
  obtain⟨q1,ly⟩:=hl i zs σ H hi p
  refine⟨by omega,?_⟩
  by_cases hlt:i<xs.length
  ·refine .inr ⟨⟨hlt,q1⟩,Pv (i+1),fun zs' σ' H' p'=>⟨xs.length-(i+1),by omega,rfl,hlt,p'⟩,fun x H' y=>?_⟩
   obtain⟨q,v,e1,e2,rfl,rfl⟩:=y
   exact hs i v zs σ H q e2 p e1
  ·have e:i=xs.length:=by omega
   subst e
   exact .inl ⟨⟨rfl,q1⟩,hd zs σ H p⟩
 ·refine .inr ⟨xs,h,fun i m zs σ H=>m=xs.length-i/\i<=xs.length/\Pv i zs σ H,⟨xs.length,by simp,Nat.zero_le _,h0⟩,?_⟩
  rintro i m zs σ H ⟨rfl,hi,p⟩
  obtain⟨q1,ly⟩:=hl i zs σ H hi p
  refine⟨by omega,?_⟩
  by_cases hlt:i<xs.length
  ·refine .inr ⟨⟨hlt,q1⟩,Pv (i+1),fun zs' σ' H' p'=>⟨xs.length-(i+1),by omega,rfl,hlt,p'⟩,fun x H' y=>?_⟩
   obtain⟨q,v,e1,e2,rfl,rfl⟩:=y
   exact hs i v zs σ H q e2 p e1
  ·have e:i=xs.length:=by omega
   subst e
   exact .inl ⟨⟨rfl,q1⟩,hd zs σ H p⟩
theorem Av {X:Cx}:HH X (.type "tuple") (fun xs H Q=>∃p ys,xs=[.ref p]/\((SqL X.K H p ys/\∀l,H l=none->Q (.ref l) (upd H l (.tup ys)))\/False)):=fun pins s σ H xs us Q I r h=>by
 obtain⟨p,ys,e,h|h⟩:=h
 ·exact J3 pins s σ H xs us Q I r ⟨p,ys,e,.inl h⟩
 ·exact h.elim
theorem LR {X:Cx}:HH X (.type "tuple") (fun xs H Q=>∃p ys,xs=[.ref p]/\(False\/(SqT X.K H p ys/\Q (.ref p) H))):=fun pins s σ H xs us Q I r h=>by
 obtain⟨p,ys,e,h|h⟩:=h
 ·exact h.elim
 ·exact J3 pins s σ H xs us Q I r ⟨p,ys,e,.inr h⟩
theorem Kb {X:Cx}{K:PySem.W.Frag}(h:X.K=K):HH X (.type "tuple") (fun xs H Q=>∃p ys,xs=[.ref p]/\((SqL K H p ys/\∀l,H l=none->Q (.ref l) (upd H l (.tup ys)))\/False)):=by subst h;exact Av
theorem Qd {X:Cx}{K:PySem.W.Frag}(h:X.K=K):HH X (.type "tuple") (fun xs H Q=>∃p ys,xs=[.ref p]/\(False\/(SqT K H p ys/\Q (.ref p) H))):=by subst h;exact LR
theorem len1 {α:Type}{us:List α}(h:us.length=1):∃a,us=[a]:=by match us,h with|[a],_=>exact⟨a,rfl⟩
theorem len2 {α:Type}{us:List α}(h:us.length=2):∃a b,us=[a,b]:=by match us,h with|[a,b],_=>exact⟨a,b,rfl⟩
theorem len3 {α:Type}{us:List α}(h:us.length=3):∃a b c,us=[a,b,c]:=by match us,h with|[a,b,c],_=>exact⟨a,b,c,rfl⟩
theorem len4 {α:Type}{us:List α}(h:us.length=4):∃a b c d,us=[a,b,c,d]:=by match us,h with|[a,b,c,d],_=>exact⟨a,b,c,d,rfl⟩
theorem len5 {α:Type}{us:List α}(h:us.length=5):∃a b c d e,us=[a,b,c,d,e]:=by match us,h with|[a,b,c,d,e],_=>exact⟨a,b,c,d,e,rfl⟩
def YY (u:TS)(D:Ends):St->Hp->Prop:=u D
def DR_ (t u:TS):TS:=fun D σ H=>t {D with nx:=YY u D} σ H
theorem Bw_ {t u:TS}{D:Ends}{σ:St}{H:Hp}:DR_ t u D σ H=t {D with nx:=YY u D} σ H:=rfl
theorem Fp {u:TS}{D:Ends}{σ:St}{H:Hp}(h:u D σ H):YY u D σ H:=h
theorem Fq {X:Cx}{st:Stmt}{rest:List Stmt}{t u:TS}(h1:PS X st t)(h2:PSs X rest u):PSs X (st::rest) (DR_ t u):=Ad h1 h2
end L2
set_option maxHeartbeats 1000000
set_option maxHeartbeats 4000000
namespace PySem.W
open PySem PySem.Calls PyProof.Rows PyProof.V PySem.Spec
section
variable {prog:Program} {w:World} {A:Around} {E:Value->Shared->Prop} {s:Shared} {r d:Addr} {es:Array DictEntry} {ep:Nat} {od:Obj}
abbrev viO (d:Addr)(i n ep:Nat):Obj:={cls:=.type "dict_valueiterator",dict:=none,data:=.fields #[.ref d,.int i 0,.int n 0,.int ep 0],slots := #[]}
theorem Ad_ {v:Addr}{Q:Value->Shared->Prop}(hv:s.heap.IsValuesView v d)(hod:s.heap.get? d=some od)(hdd:od.data=.dict es ep)
  (h:Q (.ref s.heap.objs.size) {s with heap:=s.heap.push (viO d 0 es.size ep)}):wpAny (model prog w) A (pyIter (.ref v)) Q E s:=by
 have hT:=hv.typeIs
 obtain⟨⟨c1,d1,a1,s1⟩,hv1,hc,hv2⟩:=hv
 replace hv2:a1=_:=hv2
 obtain⟨c,dc,da,sl⟩:=od
 replace hdd:da=_:=hdd
 subst hdd hv2
 have e1:=PySem.F.slot_dict_values_iter
 refine wpAny_pyIter_slot hT e1 (wpAny_call_entry e1 hT PySem.F.entry_dict_values_iter ?_ (PySem.F.args_dict_values_iter_1 _))
 wp_walk
 exact⟨_,rfl,_,_,⟨_,Heap.get?_push_size _ rfl,rfl⟩,PySem.F.slot_dict_valueiterator_next.lookup,h⟩
theorem V2 {it:Addr}{i:Nat}{Q:Option Value->Shared->Prop}(hh:A.handled=none)(hit:s.heap.get? it=some (viO d i es.size ep))(hod:s.heap.get? d=some od)(hdd:od.data=.dict es ep)
  (hQ:∀e h',es[i]?=some e->h'.get? it=some (viO d (i+1) es.size ep)->Heap.SameBut it s.heap h'->Q (some e.val) {s with heap:=h' })
  (hN:es[i]?=none->∀h',Heap.ExtBut it s.heap h'->Q none {s with heap:=h' }):wpAny (model prog w) A (pyNext (.ref it)) Q E s:=by
 have hT:s.TypeIs (.ref it) "dict_valueiterator" := ⟨_,hit,rfl⟩
 have e1:=PySem.F.slot_dict_valueiterator_next
 have h1:A.in1.handled=none:=hh
 obtain⟨c,dc,da,sl⟩:=od
 replace hdd:da=_:=hdd
 subst hdd
 unfold pyNext
 refine wpAny_bind (wpAny_attempt (wpAny_callSpecial?_slot hT e1 (wpAny_call_entry e1 hT PySem.F.entry_dict_valueiterator_next ?_ (PySem.F.args_dict_valueiterator_next_1 _))))
 wp_walk
 cases hi:es[i]? with
 |some e=>
  simp only[show ¬ ((i:Int)<0) from by omega,if_false,Int.toNat_natCast,hi]
  wp_walk using wpAny_setField_rec hit
  ·exact Nat.lt_of_sub_eq_succ rfl
  intro h1 g1 k1
  replace g1:h1.get? it=some (viO d (i+1) es.size ep):=g1
  wp_walk
  exact⟨_,rfl,wpAny_pure (hQ e h1 hi g1 k1)⟩
 |none=>
  simp only[show ¬ ((i:Int)<0) from by omega,if_false,Int.toNat_natCast,hi]
  wp_walk using wpAny_setField_rec hit
  ·exact Nat.lt_of_sub_eq_succ rfl
  intro h1 g1 k1
  wp_walk
  exact wpAny_raiseNew_none hh (wpAny_bind (wpAny_isInstance (T := "StopIteration") (b:=true) ⟨_,Heap.get?_push_size _ rfl,rfl⟩ isSubtype_stop (wpAny_pure (hN hi _ ((k1.extBut.push _).push _)))))
end
section
variable {prog:Program} {w:World} {r d:Addr} {es:Array DictEntry} {ep:Nat} {od:Obj}
theorem val_src (hdd:od.data=.dict es ep):KdlSrc prog w "dict_values" r d es.size (fun i v=>∃e,es[i]?=some e/\v=e.val) (fun h=>h.IsValuesView r d/\h.get? d=some od) where
 type:=fun _ m=>m.1.typeIs
 there:=fun _ m=>⟨let ⟨_,o,_⟩:=m.1;Heap.lt_size o,Heap.lt_size m.2⟩
 keep:=fun _ _ m k=>⟨let ⟨o,e,x⟩:=m.1;⟨o,k r (.inl rfl) o e,x⟩,k d (.inr rfl) _ m.2⟩
 notList:=by decide
 notTuple:=by decide
 hint:=fun _ _ _ _ m q=>kdl_hint_values m.1.typeIs q
 iter:=fun A s hh m=>⟨viO d 0 es.size ep,fun i h=>h.get? s.heap.objs.size=some (viO d i es.size ep)/\h.get? d=some od,fun _ _ q=>Ad_ m.1 m.2 hdd q,{
   sub:=fun b hb=>by simp at hb;simp[hb]
   frame:=fun _ _ _ st k=>⟨k _ (by simp) _ st.1,k _ (by simp) _ st.2⟩
   item:=fun i t Q E hi st q=>V2 hh st.1 st.2 hdd (fun e h' e1 e2 e3=>q _ h' t.toks ⟨e,e1,rfl⟩ ⟨e2,e3.extBut _ _ (Nat.ne_of_lt (Heap.lt_size m.2)) st.2⟩ fun b o n z=>e3.extBut b o (fun y=>n (by simp[y])) z) fun z=>by rw[Array.getElem?_eq_none_iff]at z;omega
   done:=fun t Q E st q=>V2 hh st.1 st.2 hdd (fun e h' e1=>by have:=(Array.getElem?_eq_some_iff.mp e1).1;omega) fun _ h' x=>q h' t.toks fun b o n z=>x b o (fun y=>n (by simp[y])) z
   self:=fun _ _ _ _ st q=>wpAny_pyIter_valiter ⟨_,st.1,rfl,rfl⟩ q},⟨Heap.get?_push_size _ rfl,Heap.get?_push_of_some _ m.2⟩⟩
end
end PySem.W
namespace L2
open PySem PySem.Spec PyProof.Rows
def N6 (v d:Addr):HO:=.ext (fun h=>h.IsValuesView v d)
def DS_ (td:TE):TE:=fun σ H Q=>td σ H fun x H1=>∃d kvs,x=.ref d/\Rd H1 d (.dT kvs)/\∀v,H1 v=none->Q (.ref v) (upd H1 v (N6 v d))
theorem Bx_ {td:TE}{σ:St}{H:Hp}{Q:VK}:DS_ td σ H Q=td σ H fun x H1=>∃d kvs,x=.ref d/\Rd H1 d (.dT kvs)/\∀v,H1 v=none->Q (.ref v) (upd H1 v (N6 v d)):=rfl
theorem YZ {X:Cx}{o:Expr}{td:TE}{apos cpos:Pos}(ho:PE X o td)(hbase:attributeBase o "values" X.env (eval o X.env)=eval o X.env:=by rfl)(hline:(apos.endLine==cpos.line)=true:=by rfl):PE X (.Call (.Attribute o "values" apos) [] [] cpos) (DS_ td):=by
 intro pins s σ H Q I h
 refine wpAny_Call_method0_late hbase hline (thn (ho pins s σ H _ I h) fun v s1 ⟨x,H1,I1,r1,d,kvs,ex,hd,q⟩=>?_)
 subst ex
 obtain rfl:v=Value.ref d:=r1
 obtain⟨od,es,ep,g1,g2,g3,g4,g5,g6,g7⟩:=VY I1.hok hd
 have hT:s1.TypeIs (.ref d) "dict" := ⟨od,g1,g2.1⟩
 refine⟨"dict","dict.values",PySem.F.plainAttrs_dict,PySem.F.slot_dict_values,PySem.F.type_dict_values,hT,fun b e=>?_,Calls.callWith_builtin rfl (PySem.evalArgs_none ?_)⟩
 ·cases e
  exact⟨od,g1,g2.2.1⟩
 refine wpAny_call_entry PySem.F.slot_dict_values hT PySem.F.entry_dict_values (?_:wpAny _ _ (Builtin.«dict.values» _) _ _ s1) (PySem.F.args_dict_values_1 _)
 refine wpAny_bind ?_
 unfold Builtin.Dict.noArgs
 refine wpAny_bind (wpAny_notOrdered_dict hT ?_)
 show wpAny _ _ (pure d) _ _ s1
 refine wpAny_pure ?_
 show wpAny _ _ (Builtin.Dict.showsAll d >>= _) _ _ s1
 unfold Builtin.Dict.showsAll
 rw[if_neg (by rw[g5];exact Bool.false_ne_true)]
 refine wpAny_bind (wpAny_pure ?_)
 refine wpAny_bind (wpAny_newObj_type (wpAny_pure ⟨_,rfl,?_⟩))
 have new:Bq X.prog X.w (upd H1 s1.heap.objs.size (N6 s1.heap.objs.size d)) (s1.heap.push {cls:=.type "dict_values",data:=.fields #[.ref d]}) s1.heap.objs.size (N6 s1.heap.objs.size d):=
  ⟨⟨_,Heap.get?_push_size _ rfl,rfl,rfl⟩,⟨_,Heap.get?_push_size _ rfl⟩,fun h1 h2 ⟨o,e,r⟩ k=>⟨o,k o e,r⟩⟩
 exact⟨.ref _,_,I1.laid (t':=s1.toks) (fun b u e=>Heap.get?_push_of_some _ e) (Nat.le_refl _) new,rfl,q _ (I1.hok.fresh (Nat.le_refl _))⟩
theorem Me {X:Cx}(hc:X.calm=true):HH X (.type "list") (fun xs H Q=>∃v d kvs,xs=[.ref v]/\H v=some (N6 v d)/\Rd H d (.dT kvs)/\∀l,H l=none->Q (.ref l) (upd H l (.lst (kvs.map (·.2))))):=by
 intro pins s σ H xs us Q I r h
 obtain⟨p,d,kvs,rfl,hv,hp,q⟩:=h
 obtain⟨u,rfl,rx⟩:=vals1 r
 cases rx
 obtain⟨o,es,ep,g1,g2,g3,g4,g5,g6,g7⟩:=VY I.hok hp
 obtain⟨hview,_⟩:=(show Bq X.prog X.w H s.heap p (N6 p d) from I.hok p _ hv)
 refine PySem.W.kdl_call (PySem.W.val_src g3) (I.ok.hd hc) ⟨hview,g1⟩ (by rw[g4];exact g6) fun h' tk acc c hk hS hacc=>?_
 have hal:acc.size=kvs.length:=hacc.1.trans g4
 have hv:Vals (kvs.map (·.2)) acc.toList:=by
  refine Vals.ofIx (by rw[List.length_map,Array.length_toList,hal]) fun i v hv=>?_
  have hi:i<kvs.length:=by rw[<-hal];simpa using (List.getElem?_eq_some_iff.mp hv).1
  obtain⟨e,hk',rfl⟩:=hacc.2 i v (by simpa using hv)
  obtain⟨b,en,a1,a2,a3,a4⟩:=g7 i kvs[i].1 kvs[i].2 (by simp[hi])
  rw[a1]at hk'
  cases hk'
  exact⟨kvs[i].2,by simp[hi],a4⟩
 exact⟨.ref _,_,I.laid (t':=tk) hk (Nat.le_refl _) (show Bq X.prog X.w _ h' _ (.lst (kvs.map (·.2))) from ⟨by rw[List.length_map];exact g6,acc.toList,c,hv,by simpa using hS⟩),rfl,q _ (I.hok.fresh (Nat.le_refl _))⟩
end L2
namespace Mine
open PySem L2 GW GB PrimeO
local macro_rules | `(tactic| walk_at "rd") => `(tactic| (try dsimp only[↓Dk_,↓AT_,↓Dl_,↓Yj,↓Dm_,↓r_c,↓r_op,↓r_un,↓r_I,↓r_I0,↓r_U,↓AU_,↓AV_,↓Dn_,↓Do_,↓AW_,↓r_if,↓r_B,↓AX_,↓Dp_,↓r_or,↓Dq_,↓AY_,↓Dr_,↓AZ_,↓Yk,↓Ds_,↓r_CB,↓Dt_,↓Du_,↓Dv_,↓Dw_,↓r_sl,↓Ba_,↓VM,↓DD_,↓r_BM,↓VN,↓Bb_,↓Bc_,↓r_Eq,↓r_Ne,↓Dx_,↓Yl,↓Bd_,↓Ym,↓Dy_,↓r_ip,↓Yn,↓Be_,↓DA_,↓VP,↓DE_,↓Yw,↓VQ,↓YD,↓DG_,↓Bj_,↓YB,↓Bk_,↓Bl_,↓Bm_,↓Bn_,↓VR,↓VS,↓VU,↓Bh_,↓V1,↓Ta,↓DP_,↓Bw_,↓YE,↓YF,↓DH_,↓Bx_,↓YN,↓YS,↓Bt_,Dz_,L2.start,List.map_cons,List.map_nil,List.length_cons,List.length_nil,List.cons_append,List.nil_append,List.replicate,List.getElem?_cons_zero,List.getElem?_cons_succ,List.set_cons_zero,List.set_cons_succ,scal])<;>(try simp only[↓Dk_,↓AT_,↓Dl_,↓Yj,↓Dm_,↓r_c,↓r_op,↓r_un,↓r_I,↓r_I0,↓r_U,↓AU_,↓AV_,↓Dn_,↓Do_,↓AW_,↓r_if,↓r_B,↓AX_,↓Dp_,↓r_or,↓Dq_,↓AY_,↓Dr_,↓AZ_,↓Yk,↓Ds_,↓r_CB,↓Dt_,↓Du_,↓Dv_,↓Dw_,↓r_sl,↓Ba_,↓VM,↓DD_,↓r_BM,↓VN,↓Bb_,↓Bc_,↓r_Eq,↓r_Ne,↓Dx_,↓Yl,↓Bd_,↓Ym,↓Dy_,↓r_ip,↓Yn,↓Be_,↓DA_,↓VP,↓DE_,↓Yw,↓VQ,↓YD,↓DG_,↓Bj_,↓YB,↓Bk_,↓Bl_,↓Bm_,↓Bn_,↓VR,↓VS,↓VU,↓Bh_,↓V1,↓Ta,↓DP_,↓Bw_,↓YE,↓YF,↓DH_,↓Bx_,↓YN,↓YS,↓Bt_,Dz_,L2.start,List.map_cons,List.map_nil,List.length_cons,List.length_nil,List.cons_append,List.nil_append,List.append_nil,List.replicate,List.getElem?_cons_zero,List.getElem?_cons_succ,List.set_cons_zero,List.set_cons_succ,Option.some.injEq,V.int.injEq,V.str.injEq,V.ref.injEq,V.bl.injEq,List.cons.injEq,and_true,true_and,and_assoc,exists_and_left,exists_eq_left',exists_eq_left,exists_eq_right,exists_eq,if_true,if_false,Bool.false_eq_true,decide_eq_true_eq,scal,Nat.reduceAdd,Nat.reduceSub,reduceCtorEq,Bool.not_true,Bool.not_false]))
def top (i:Nat):Stmt:=PySem.Challenge.pw_guessroom_k69_whole_least.main.body.getD i (.Pass ⟨0,0,0,0⟩)
abbrev FE:Stmt:=top 5
theorem BM:FnScope ["p","number","one","two","factor_of_one","factor_of_two","times","rest","factor_of_rest"] ["p","number"] (Ae FE):=⟨rfl,rfl,rfl,by decide +kernel,rfl,by decide +kernel,by decide +kernel⟩
abbrev F7:Stmt:=top 6
theorem Y0:FnScope ["p","factor","row"] ["p","factor","row"] (Ae F7):=⟨rfl,rfl,rfl,by decide +kernel,rfl,by decide +kernel,by decide +kernel⟩
abbrev Ju:Stmt:=top 7
theorem Ae_:FnScope ["p","row","other"] ["p","row","other"] (Ae Ju):=⟨rfl,rfl,rfl,by decide +kernel,rfl,by decide +kernel,by decide +kernel⟩
abbrev E2:Stmt:=top 8
theorem WE:FnScope ["p","row","other"] ["p","row","other"] (Ae E2):=⟨rfl,rfl,rfl,by decide +kernel,rfl,by decide +kernel,by decide +kernel⟩
abbrev AU:Stmt:=top 10
theorem Er:FnScope ["row","place","number"] ["row"] (Ae AU):=⟨rfl,rfl,rfl,by decide +kernel,rfl,by decide +kernel,by decide +kernel⟩
abbrev Dx:Stmt:=top 11
theorem GC:FnScope ["p","bases","row","left","place","base"] ["p","bases","row"] (Ae Dx):=⟨rfl,rfl,rfl,by decide +kernel,rfl,by decide +kernel,by decide +kernel⟩
abbrev CI:Stmt:=top 12
theorem F8:FnScope ["p","bases","left","place","base","more","other"] ["p","bases","left","place"] (Ae CI):=⟨rfl,rfl,rfl,by decide +kernel,rfl,by decide +kernel,by decide +kernel⟩
abbrev A4:Stmt:=top 13
theorem AK:FnScope ["p","rows","size","places","bases","number","row","left","place"] ["p","rows","size"] (Ae A4):=⟨rfl,rfl,rfl,by decide +kernel,rfl,by decide +kernel,by decide +kernel⟩
abbrev LS:Stmt:=top 14
theorem Ch_:FnScope ["size","place"] ["size","place"] (Ae LS):=⟨rfl,rfl,rfl,by decide +kernel,rfl,by decide +kernel,by decide +kernel⟩
abbrev Bd:Stmt:=top 15
theorem AR:FnScope ["p","rows","some","size","count","marked","bases","told","row","left","is_made"] ["p","rows","some","size"] (Ae Bd):=⟨rfl,rfl,rfl,by decide +kernel,rfl,by decide +kernel,by decide +kernel⟩
abbrev FF:Stmt:=top 16
theorem WG:FnScope ["p","rows","parts","size"] ["p","rows","parts","size"] (Ae FF):=⟨rfl,rfl,rfl,by decide +kernel,rfl,by decide +kernel,by decide +kernel⟩
abbrev FG:Stmt:=top 18
theorem WH:FnScope ["letters","word"] ["letters","word"] (Ae FG):=⟨rfl,rfl,rfl,by decide +kernel,rfl,by decide +kernel,by decide +kernel⟩
abbrev CJ:Stmt:=top 19
theorem Qe:FnScope ["letters","word"] ["letters","word"] (Ae CJ):=⟨rfl,rfl,rfl,by decide +kernel,rfl,by decide +kernel,by decide +kernel⟩
abbrev D3:Stmt:=top 21
theorem WI:FnScope ["house","row","letter"] ["house","row","letter"] (Ae D3):=⟨rfl,rfl,rfl,by decide +kernel,rfl,by decide +kernel,by decide +kernel⟩
abbrev CK:Stmt:=top 22
theorem GU:FnScope ["house","word","rows","letter"] ["house","word"] (Ae CK):=⟨rfl,rfl,rfl,by decide +kernel,rfl,by decide +kernel,by decide +kernel⟩
abbrev CL:Stmt:=top 23
theorem Qf:FnScope ["house","word"] ["house","word"] (Ae CL):=⟨rfl,rfl,rfl,by decide +kernel,rfl,by decide +kernel,by decide +kernel⟩
abbrev Jv:Stmt:=top 24
theorem Af_:FnScope ["house","word"] ["house","word"] (Ae Jv):=⟨rfl,rfl,rfl,by decide +kernel,rfl,by decide +kernel,by decide +kernel⟩
abbrev CM:Stmt:=top 25
theorem Qg:FnScope ["table"] ["table"] (Ae CM):=⟨rfl,rfl,rfl,by decide +kernel,rfl,by decide +kernel,by decide +kernel⟩
abbrev DD:Stmt:=top 26
theorem LU:FnScope ["house","tables"] ["house"] (Ae DD):=⟨rfl,rfl,rfl,by decide +kernel,rfl,by decide +kernel,by decide +kernel⟩
abbrev Cj:Stmt:=top 28
theorem AO:FnScope ["house","p","rows","bases","found","walked","word","row","left","place","letter"] ["house"] (Ae Cj):=⟨rfl,rfl,rfl,by decide +kernel,rfl,by decide +kernel,by decide +kernel⟩
abbrev CN:Stmt:=top 29
theorem Dq:FnScope ["house","rows","own","made","row","goals"] ["house"] (Ae CN):=⟨rfl,rfl,rfl,by decide +kernel,rfl,by decide +kernel,by decide +kernel⟩
abbrev DO:Stmt:=top 30
theorem Es:FnScope ["house","basis","size","tables","letter","last"] ["house"] (Ae DO):=⟨rfl,rfl,rfl,by decide +kernel,rfl,by decide +kernel,by decide +kernel⟩
abbrev CO:Stmt:=top 31
theorem Tc:FnScope ["house"] ["house"] (Ae CO):=⟨rfl,rfl,rfl,by decide +kernel,rfl,by decide +kernel,by decide +kernel⟩
abbrev Cm:Stmt:=top 32
theorem N7:FnScope ["house"] ["house"] (Ae Cm):=⟨rfl,rfl,rfl,by decide +kernel,rfl,by decide +kernel,by decide +kernel⟩
abbrev CP:Stmt:=top 33
theorem Qh:FnScope ["house"] ["house"] (Ae CP):=⟨rfl,rfl,rfl,by decide +kernel,rfl,by decide +kernel,by decide +kernel⟩
abbrev B1:Stmt:=top 35
theorem Td:FnScope ["script","k"] ["script","k"] (Ae B1):=⟨rfl,rfl,rfl,by decide +kernel,rfl,by decide +kernel,by decide +kernel⟩
abbrev BA:Stmt:=top 36
theorem Hw:FnScope ["number","part"] ["number"] (Ae BA):=⟨rfl,rfl,rfl,by decide +kernel,rfl,by decide +kernel,by decide +kernel⟩
abbrev CQ:Stmt:=top 37
theorem Fs:FnScope ["cell","some","number"] ["cell"] (Ae CQ):=⟨rfl,rfl,rfl,by decide +kernel,rfl,by decide +kernel,by decide +kernel⟩
abbrev BP:Stmt:=top 38
theorem Qi:FnScope ["found"] ["found"] (Ae BP):=⟨rfl,rfl,rfl,by decide +kernel,rfl,by decide +kernel,by decide +kernel⟩
abbrev Br:Stmt:=top 39
theorem Jb:FnScope ["script","k","p","many"] ["script","k","p"] (Ae Br):=⟨rfl,rfl,rfl,by decide +kernel,rfl,by decide +kernel,by decide +kernel⟩
abbrev DQ:Stmt:=top 40
theorem UU:FnScope ["script","at","many","p"] ["script","at","many","p"] (Ae DQ):=⟨rfl,rfl,rfl,by decide +kernel,rfl,by decide +kernel,by decide +kernel⟩
abbrev Cn:Stmt:=top 41
theorem Jc:FnScope ["found","due","k"] ["found","due"] (Ae Cn):=⟨rfl,rfl,rfl,by decide +kernel,rfl,by decide +kernel,by decide +kernel⟩
abbrev CS:Stmt:=top 42
theorem D4:FnScope ["script","at","p","letters","many","tables","letter","base","first"] ["script","at","p","letters","many"] (Ae CS):=⟨rfl,rfl,rfl,by decide +kernel,rfl,by decide +kernel,by decide +kernel⟩
abbrev CT:Stmt:=top 43
theorem HN:FnScope ["p","row","table","told","c"] ["p","row","table"] (Ae CT):=⟨rfl,rfl,rfl,by decide +kernel,rfl,by decide +kernel,by decide +kernel⟩
abbrev CU:Stmt:=top 44
theorem Qj:FnScope ["p","one","two"] ["p","one","two"] (Ae CU):=⟨rfl,rfl,rfl,by decide +kernel,rfl,by decide +kernel,by decide +kernel⟩
abbrev Co:Stmt:=top 45
theorem EU:FnScope ["house","word","row","letter"] ["house","word"] (Ae Co):=⟨rfl,rfl,rfl,by decide +kernel,rfl,by decide +kernel,by decide +kernel⟩
abbrev CV:Stmt:=top 46
theorem Bk:FnScope ["house","script","at","p","many","apart_way","tables","letter","beside","table","number"] ["house","script","at"] (Ae CV):=⟨rfl,rfl,rfl,by decide +kernel,rfl,by decide +kernel,by decide +kernel⟩
abbrev Bn:Stmt:=top 47
theorem GD:FnScope ["p","row","i","j","times","number"] ["p","row","i","j","times"] (Ae Bn):=⟨rfl,rfl,rfl,by decide +kernel,rfl,by decide +kernel,by decide +kernel⟩
abbrev BB:Stmt:=top 48
theorem Mf:FnScope ["p","row","times","other"] ["p","row","times","other"] (Ae BB):=⟨rfl,rfl,rfl,by decide +kernel,rfl,by decide +kernel,by decide +kernel⟩
abbrev Cp:Stmt:=top 49
theorem By:FnScope ["house","i","j","times","p","tables","table","rows","row","last","first"] ["house","i","j","times"] (Ae Cp):=⟨rfl,rfl,rfl,by decide +kernel,rfl,by decide +kernel,by decide +kernel⟩
abbrev B2:Stmt:=top 50
theorem BC:FnScope ["house","script","at","many","k","cell","times"] ["house","script","at"] (Ae B2):=⟨rfl,rfl,rfl,by decide +kernel,rfl,by decide +kernel,by decide +kernel⟩
abbrev B3:Stmt:=top 51
theorem HR:FnScope ["found","letters","letter"] ["found","letters"] (Ae B3):=⟨rfl,rfl,rfl,by decide +kernel,rfl,by decide +kernel,by decide +kernel⟩
abbrev CW:Stmt:=top 52
theorem Qk:FnScope ["one","two"] ["one","two"] (Ae CW):=⟨rfl,rfl,rfl,by decide +kernel,rfl,by decide +kernel,by decide +kernel⟩
abbrev Et:Stmt:=top 53
theorem B4:FnScope ["house","most","told","longest","size","longer","pair","letter","row"] ["house","most"] (Ae Et):=⟨rfl,rfl,rfl,by decide +kernel,rfl,by decide +kernel,by decide +kernel⟩
abbrev Be:Stmt:=top 54
theorem F9:FnScope ["words","letters","most","k"] ["words","letters","most"] (Ae Be):=⟨rfl,rfl,rfl,by decide +kernel,rfl,by decide +kernel,by decide +kernel⟩
abbrev Bf:Stmt:=top 55
theorem BQ:FnScope ["found","p","letters","many","rows","table","row","number"] ["found","p","letters","many"] (Ae Bf):=⟨rfl,rfl,rfl,by decide +kernel,rfl,by decide +kernel,by decide +kernel⟩
abbrev A5:Stmt:=top 56
theorem BD:FnScope ["one","two","most","mine","other","k"] ["one","two"] (Ae A5):=⟨rfl,rfl,rfl,by decide +kernel,rfl,by decide +kernel,by decide +kernel⟩
abbrev DE:Stmt:=top 57
theorem Te:FnScope ["many","place"] ["many","place"] (Ae DE):=⟨rfl,rfl,rfl,by decide +kernel,rfl,by decide +kernel,by decide +kernel⟩
abbrev Ql:Stmt:=top 58
theorem Kc:FnScope ["script","p","letters","many","one","two","found","words","k"] ["script"] (Ae Ql):=⟨rfl,rfl,rfl,by decide +kernel,rfl,by decide +kernel,by decide +kernel⟩
def O7:Caps:=[("number",none),("p",some 0),("factor",some 1)]
theorem Qm:(Caps.names O7).Nodup:=by decide +kernel
def Tf:Caps:=[("one",none),("two",none),("p",some 0)]
theorem LV:(Caps.names Tf).Nodup:=by decide +kernel
def MZ:Caps:=[("one",none),("two",none)]
theorem Jd:(Caps.names MZ).Nodup:=by decide +kernel
def M0:Caps:=[("number",none),("p",some 0)]
theorem N8:(Caps.names M0).Nodup:=by decide +kernel
def V3:Caps:=[("other",none),("place",some 1)]
theorem UW:(Caps.names V3).Nodup:=by decide +kernel
def FH:Caps:=[("place",none),("row",none),("count",some 4)]
theorem Eo:(Caps.names FH).Nodup:=by decide +kernel
def FJ:Caps:=[("number",none),("p",some 0)]
theorem Hz:(Caps.names FJ).Nodup:=by decide +kernel
def M3:Caps:=[("place",none),("p",some 0),("parts",some 2),("rows",some 1)]
theorem N9:(Caps.names M3).Nodup:=by decide +kernel
def M4:Caps:=[("row",none),("place",some 0)]
theorem Oa:(Caps.names M4).Nodup:=by decide +kernel
def M5:Caps:=[("letter",none),("letters",some 0)]
theorem Ob:(Caps.names M5).Nodup:=by decide +kernel
def HS:Caps:=[("place",none),("table",some 0)]
theorem Kd:(Caps.names HS).Nodup:=by decide +kernel
def HU:Caps:=[("row",none),("place",some 0)]
theorem Ke:(Caps.names HU).Nodup:=by decide +kernel
def Kf:Caps:=[("table",none)]
theorem Mg:(Caps.names Kf).Nodup:=by decide +kernel
def Je:Caps:=[("letter",none),("house",some 0),("row",some 4)]
theorem Lh:(Caps.names Je).Nodup:=by decide +kernel
def LW:Caps:=[("made",none),("letter",some 4)]
theorem M6:(Caps.names LW).Nodup:=by decide +kernel
def LX:Caps:=[("word",none),("house",some 0)]
theorem M7:(Caps.names LX).Nodup:=by decide +kernel
def LY:Caps:=[("k",none),("script",some 0),("p",some 3),("at",some 1)]
theorem M8:(Caps.names LY).Nodup:=by decide +kernel
def Jf:Caps:=[("k",none),("script",some 0),("many",some 4),("p",some 2),("base",some 7)]
theorem Li:(Caps.names Jf).Nodup:=by decide +kernel
def Kg:Caps:=[("k",none),("row",some 1),("c",some 4),("table",some 2)]
theorem Mh:(Caps.names Kg).Nodup:=by decide +kernel
def Jg:Caps:=[("k",none),("one",some 1),("two",some 2)]
theorem Lj:(Caps.names Jg).Nodup:=by decide +kernel
def Jh:Caps:=[("row",none)]
theorem Lk:(Caps.names Jh).Nodup:=by decide +kernel
def Ji:Caps:=[("k",none),("letter",some 7),("beside",some 8),("house",some 0)]
theorem Ll:(Caps.names Ji).Nodup:=by decide +kernel
def GF:Caps:=[("c",none),("p",some 0),("row",some 1),("times",some 2),("other",some 3)]
theorem Ja:(Caps.names GF).Nodup:=by decide +kernel
structure Txt (mg:Str->Option Value):Prop where
 all:mg "all"=none
 bool:mg "bool"=none
 enumerate:mg "enumerate"=none
 int:mg "int"=none
 isinstance:mg "isinstance"=none
 len:mg "len"=none
 list:mg "list"=none
 max:mg "max"=none
 range:mg "range"=none
 sum:mg "sum"=none
 tuple:mg "tuple"=none
 zip:mg "zip"=none
structure Exs (K:PySem.W.Frag)(mg:Str->Option Value)(C_AskError C_BadWord C_NoInverse:Addr):Prop where
 m_AskError:mg "AskError"=some (.ref C_AskError)
 m_BadWord:mg "BadWord"=some (.ref C_BadWord)
 m_NoInverse:mg "NoInverse"=some (.ref C_NoInverse)
 x_BadWord:PySem.W.excIn K C_BadWord bmV "ValueError.__new__"=true
 c_BadWord:ExcCls K C_BadWord
 e_BadWord:PySem.W.exmOne K (.ref C_BadWord) (.ref C_AskError)=some true
 v_BadWord:PySem.W.kitOne K (.ref C_BadWord) (.type "ValueError")=some true
 ee_BadWord:PySem.W.exmOne K (.ref C_BadWord) (.ref C_BadWord)=some true
 k_BadWord_AskError:PySem.W.kitOne K (.ref C_BadWord) (.ref C_AskError)=some true
 k_BadWord_BadWord:PySem.W.kitOne K (.ref C_BadWord) (.ref C_BadWord)=some true
 k_BadWord_NoInverse:PySem.W.kitOne K (.ref C_BadWord) (.ref C_NoInverse)=some false
 x_NoInverse:PySem.W.excIn K C_NoInverse bmV "ValueError.__new__"=true
 c_NoInverse:ExcCls K C_NoInverse
 e_NoInverse:PySem.W.exmOne K (.ref C_NoInverse) (.ref C_AskError)=some true
 v_NoInverse:PySem.W.kitOne K (.ref C_NoInverse) (.type "ValueError")=some true
 ee_NoInverse:PySem.W.exmOne K (.ref C_NoInverse) (.ref C_NoInverse)=some true
 k_NoInverse_AskError:PySem.W.kitOne K (.ref C_NoInverse) (.ref C_AskError)=some true
 k_NoInverse_BadWord:PySem.W.kitOne K (.ref C_NoInverse) (.ref C_BadWord)=some false
 k_NoInverse_NoInverse:PySem.W.kitOne K (.ref C_NoInverse) (.ref C_NoInverse)=some true
section
variable {P:Program} {w:World} {K:PySem.W.Frag} {mg:Str->Option Value} {base:Heap}
variable {C_AskError C_BadWord C_NoInverse:Addr}
def dotW (xs ys:List Int):Int:=(List.zipWith (fun x y=>x*y) xs ys).sum
def colW (rows:List (List Int))(c:Nat):List Int:=rows.map fun r=>r.getD c 0
def A2 (K:PySem.W.Frag)(H:Hp)(xs:List V)(rows:List (List Int)):Prop:=xs.length=rows.length/\∀(i:Nat) (r:List Int),rows[i]?=some r->∃t,xs[i]?=some (.ref t)/\SqT K H t (r.map V.int)
theorem A2.mono {K:PySem.W.Frag}{H H':Hp}{xs:List V}{rows:List (List Int)}(h:A2 K H xs rows)(s:Same H H'):A2 K H' xs rows:=by
 refine⟨h.1,fun i r hi=>?_⟩
 obtain⟨t,a,b⟩:=h.2 i r hi
 exact⟨t,a,s.seqT b⟩
theorem A2.nil {K:PySem.W.Frag}{H:Hp}:A2 K H [] []:=⟨rfl,fun i r h=>by simp at h⟩
theorem A2.snoc {K:PySem.W.Frag}{H:Hp}{xs:List V}{rows:List (List Int)}{t:Addr}{r:List Int}(h:A2 K H xs rows)(g:SqT K H t (r.map V.int)):A2 K H (xs++[.ref t]) (rows++[r]):=by
 refine⟨by simp[h.1],fun i v hi=>?_⟩
 by_cases hl:i<rows.length
 ·rw[List.getElem?_append_left hl]at hi
  rw[List.getElem?_append_left (by rw[h.1];exact hl)]
  exact h.2 i v hi
 ·have:=(List.getElem?_eq_some_iff.mp hi).1
  rw[List.length_append,List.length_singleton]at this
  have e:i=rows.length:=by omega
  subst e
  rw[List.getElem?_append_right (Nat.le_refl _),Nat.sub_self]at hi
  simp at hi
  subst hi
  exact⟨t,by rw[<-h.1];simp,g⟩
def D0 (p:Int)(rows:List (List Int))(am:List Int)(n:Nat):List Int:=(List.range n).map fun c=>dotW am (colW rows c)%p
theorem DT_ (rows:List (List Int))(c:Nat):(List.range rows.length).map (fun i=>V.int ((rows.getD i []).getD c 0))=(colW rows c).map V.int:=by
 refine List.ext_getElem (by simp[colW]) fun i h1 h2=>?_
 have hi:i<rows.length:=by simpa using h1
 simp[colW,List.getD_eq_getElem?_getD,hi]
theorem DU_ (am:List Int)(rows:List (List Int))(c:Nat)(h:am.length=rows.length):(List.range rows.length).map (fun k=>am.getD k 0*(rows.getD k []).getD c 0)=List.zipWith (fun x y=>x*y) am (colW rows c):=by
 refine List.ext_getElem (by simp[colW,h]) fun i h1 h2=>?_
 have hi:i<rows.length:=by simpa using h1
 have hi':i<am.length:=by omega
 simp[colW,List.getD_eq_getElem?_getD,hi,hi']
theorem MK {r:List Int}{c:Nat}(h:c<r.length):atI (r.map V.int) (c:Int)=some (.int (r.getD c 0)):=by
 refine Bc ?_
 rw[List.getElem?_map,List.getElem?_eq_getElem h,List.getD_eq_getElem?_getD,List.getElem?_eq_getElem h];rfl
theorem O8 (xs:List V)(m:Nat):cutV xs none (some (m:Int))=xs.take m:=by
 unfold cutV
 rw[HT.sIx_nat,HT.sIx_none,List.drop_zero,Nat.sub_zero,List.take_eq_take_iff]
 omega
theorem WJ (xs:List V)(m:Nat):cutV xs (some (m:Int)) none=xs.drop m:=by
 unfold cutV
 rw[HT.sIx_nat,HT.sIx_none]
 rcases Nat.le_total m xs.length with h|h
 ·rw[Nat.min_eq_left h]
  exact List.take_of_length_le (by rw[List.length_drop];exact Nat.le_refl _)
 ·rw[Nat.min_eq_right h,List.drop_of_length_le h,List.drop_length,List.take_nil]
theorem BE (ys:List Int):dotW [] ys=0:=by unfold dotW;simp
theorem EV (xs:List Int):dotW xs []=0:=by unfold dotW;simp
theorem AE (x y:Int)(xs ys:List Int):dotW (x::xs) (y::ys)=x*y+dotW xs ys:=by unfold dotW;simp
theorem Bb:∀xs ys:List Int,dotW xs ys=dotW ys xs
 |[],ys=>by rw[BE,EV]
 |x::xs,[]=>by rw[BE,EV]
 |x::xs,y::ys=>by rw[AE,AE,Bb xs ys,Int.mul_comm]
theorem M9:∀(xs ys us vs:List Int),xs.length=us.length->dotW (xs++ys) (us++vs)=dotW xs us+dotW ys vs
 |[],ys,us,vs,h=>by
  have:us=[]:=List.length_eq_zero_iff.mp (by simpa using h.symm)
  subst this
  simp[BE]
 |x::xs,ys,u::us,vs,h=>by
  rw[List.cons_append,List.cons_append,AE,AE,M9 xs ys us vs (by simpa using h)]
  omega
 |x::xs,ys,[],vs,h=>by simp at h
theorem Ft (n:Nat):∀xs:List Int,dotW xs (List.replicate n 0)=0:=by
 induction n with
 |zero=>intro xs;rw[List.replicate_zero,EV]
 |succ n ih=>
  intro xs
  cases xs with
  |nil=>rw[BE]
  |cons x xs=>rw[List.replicate_succ,AE,ih];omega
theorem HV (a:Int):∀xs ys:List Int,dotW (xs.map (a * ·)) ys=a*dotW xs ys
 |[],ys=>by rw[List.map_nil,BE];omega
 |x::xs,[]=>by rw[EV,EV];omega
 |x::xs,y::ys=>by rw[List.map_cons,AE,AE,HV a xs ys,Int.mul_add,Int.mul_assoc]
def cg (p:Int)(xs ys:List Int):Prop:=xs.map (· % p)=ys.map (· % p)
theorem cg.len {p:Int}{xs ys:List Int}(h:cg p xs ys):xs.length=ys.length:=by
 have:=congrArg List.length h
 simpa using this
theorem cg.refl (p:Int)(xs:List Int):cg p xs xs:=rfl
theorem cg.dot {p:Int}:∀{xs xs' ys ys':List Int},cg p xs xs'->cg p ys ys'->dotW xs ys%p=dotW xs' ys'%p
 |[],[],ys,ys',_,_=>by rw[BE,BE]
 |[],x::xs',ys,ys',h,_=>by have:=h.len;simp at this
 |x::xs,[],ys,ys',h,_=>by have:=h.len;simp at this
 |x::xs,x'::xs',[],[],_,_=>by rw[EV,EV]
 |x::xs,x'::xs',[],y::ys',_,h=>by have:=h.len;simp at this
 |x::xs,x'::xs',y::ys,[],_,h=>by have:=h.len;simp at this
 |x::xs,x'::xs',y::ys,y'::ys',h,g=>by
  obtain⟨h1,h2⟩:=List.cons.inj h
  obtain⟨g1,g2⟩:=List.cons.inj g
  have h1:x%p=x'%p:=h1
  have g1:y%p=y'%p:=g1
  rw[AE,AE,Int.add_emod,Int.mul_emod,h1,g1,cg.dot (xs:=xs) (ys:=ys) h2 g2,<-Int.mul_emod,<-Int.add_emod]
theorem cg.map {p:Int}{α:Type}{f g:α->Int}{l:List α}(h:∀a∈l,f a%p=g a%p):cg p (l.map f) (l.map g):=by
 unfold cg
 rw[List.map_map,List.map_map]
 exact List.map_congr_left h
theorem cg.getD {p:Int}{xs ys:List Int}(h:cg p xs ys)(c:Nat):xs.getD c 0%p=ys.getD c 0%p:=by
 have hl:=h.len
 by_cases hc:c<xs.length
 ·have e:=congrArg (fun l:List Int=>l[c]?) h
  rw[List.getElem?_map,List.getElem?_map,List.getElem?_eq_getElem hc,List.getElem?_eq_getElem (by omega)]at e
  rw[List.getD_eq_getElem?_getD,List.getD_eq_getElem?_getD,List.getElem?_eq_getElem hc,List.getElem?_eq_getElem (by omega)]
  exact Option.some.inj e
 ·rw[List.getD_eq_getElem?_getD,List.getD_eq_getElem?_getD,List.getElem?_eq_none (by omega),List.getElem?_eq_none (by omega)]
def cgT (p:Int)(a b:List (List Int)):Prop:=a.length=b.length/\∀i,cg p (a.getD i []) (b.getD i [])
theorem cgT.refl (p:Int)(a:List (List Int)):cgT p a a:=⟨rfl,fun _=>rfl⟩
theorem cgT.col {p:Int}{a b:List (List Int)}(h:cgT p a b)(c:Nat):cg p (colW a c) (colW b c):=by
 unfold cg colW
 rw[List.map_map,List.map_map]
 refine List.ext_getElem? fun i=>?_
 rw[List.getElem?_map,List.getElem?_map]
 have hl:=h.1
 by_cases hi:i<a.length
 ·rw[List.getElem?_eq_getElem hi,List.getElem?_eq_getElem (show i<b.length by omega)]
  have:=(h.2 i).getD c
  rw[List.getD_eq_getElem?_getD (l:=a),List.getD_eq_getElem?_getD (l:=b),List.getElem?_eq_getElem hi,List.getElem?_eq_getElem (show i<b.length by omega)]at this
  exact congrArg some this
 ·rw[List.getElem?_eq_none (by omega),List.getElem?_eq_none (by omega)]
theorem Qn:∀(u v w:List Int),u.length=v.length->dotW (List.zipWith (· + ·) u v) w=dotW u w+dotW v w
 |[],[],w,_=>by simp[BE]
 |[],y::v,w,h=>by simp at h
 |x::u,[],w,h=>by simp at h
 |x::u,y::v,[],_=>by simp[EV]
 |x::u,y::v,z::w,h=>by
  rw[List.zipWith_cons_cons,AE,AE,AE,Qn u v w (by simpa using h),Int.add_mul];omega
theorem IS {d:Nat}{col:List Int}(hc:col.length=d):∀(tb:List (List Int)) (row:List Int),(∀r∈tb,r.length=d)->row.length=tb.length->dotW ((List.range d).map fun c=>dotW row (colW tb c)) col=dotW row (tb.map fun r=>dotW col r)
 |[],row,_,h=>by
  have:row=[]:=List.length_eq_zero_iff.mp (by simpa using h)
  subst this
  rw[BE]
  have e:((List.range d).map fun c=>dotW [] (colW [] c))=List.replicate d 0:=by
   refine List.ext_getElem? fun i=>?_
   by_cases hi:i<d
   ·rw[List.getElem?_map,List.getElem?_range hi,List.getElem?_replicate,if_pos hi];rfl
   ·rw[List.getElem?_eq_none (by simp;omega),List.getElem?_eq_none (by simp;omega)]
  rw[e,Bb,Ft]
 |r::tb,[],_,h=>by simp at h
 |r::tb,x::row,hd,h=>by
  have ih:=IS hc tb row (fun s hs=>hd s (List.mem_cons_of_mem _ hs)) (by simpa using h)
  have hr:=hd r (List.mem_cons_self ..)
  have e:((List.range d).map fun c=>dotW (x::row) (colW (r::tb) c))=List.zipWith (· + ·) (r.map (x * ·)) ((List.range d).map fun c=>dotW row (colW tb c)):=by
   refine List.ext_getElem? fun i=>?_
   rw[List.getElem?_zipWith]
   by_cases hi:i<d
   ·rw[List.getElem?_map,List.getElem?_range hi,List.getElem?_map,List.getElem?_map,List.getElem?_range hi,List.getElem?_eq_getElem (show i<r.length by omega)]
    show some (dotW (x::row) (r.getD i 0::colW tb i))=some (x*r[i]+dotW row (colW tb i))
    rw[AE,List.getD_eq_getElem?_getD,List.getElem?_eq_getElem (show i<r.length by omega)];rfl
   ·rw[List.getElem?_eq_none (by simp;omega),List.getElem?_eq_none (show (r.map (x * ·)).length<=i by simp;omega)]
  rw[e,Qn _ _ _ (by simp[hr]),HV,ih,List.map_cons,AE,Bb r col]
theorem O9 {α:Type}(z:α)(r:List α):(List.range r.length).map (fun i=>r.getD i z)=r:=by
 refine List.ext_getElem (by simp) fun i h1 h2=>?_
 simp[List.getD_eq_getElem?_getD,h2]
def Span (p:Int)(n:Nat)(S:List (List Int))(v:Nat->Int):Prop:=∃cs:List Int,cs.length=S.length/\∀i:Nat,i<n->v i%p=dotW cs (colW S i)%p
theorem EW (S:List (List Int))(i:Nat):(colW S i).length=S.length:=by unfold colW;rw[List.length_map]
theorem Span.congr {p:Int}{n:Nat}{S:List (List Int)}{v u:Nat->Int}(h:Span p n S v)(e:∀i:Nat,i<n->u i%p=v i%p):Span p n S u:=by
 obtain⟨cs,a,b⟩:=h
 exact⟨cs,a,fun i hi=>(e i hi).trans (b i hi)⟩
theorem Span.zero {p:Int}{n:Nat}{S:List (List Int)}:Span p n S fun _=>0:=
 ⟨List.replicate S.length 0,List.length_replicate,fun i _=>by rw[Bb,Ft]⟩
theorem Span.add {p:Int}{n:Nat}{S:List (List Int)}{v u:Nat->Int}(h:Span p n S v)(g:Span p n S u):Span p n S fun i=>v i+u i:=by
 obtain⟨cs,a,b⟩:=h
 obtain⟨ds,a',b'⟩:=g
 refine⟨List.zipWith (· + ·) cs ds,by rw[List.length_zipWith,a,a',Nat.min_self],fun i hi=>?_⟩
 rw[Qn _ _ _ (by rw[a,a']),Int.add_emod,b i hi,b' i hi,<-Int.add_emod]
theorem Span.smul {p:Int}{n:Nat}{S:List (List Int)}{v:Nat->Int}(c:Int)(h:Span p n S v):Span p n S fun i=>c*v i:=by
 obtain⟨cs,a,b⟩:=h
 refine⟨cs.map (c * ·),by rw[List.length_map,a],fun i hi=>?_⟩
 rw[HV,Int.mul_emod,b i hi,<-Int.mul_emod]
theorem Span.app {p:Int}{n:Nat}{S:List (List Int)}{v:Nat->Int}(h:Span p n S v)(T:List (List Int)):Span p n (S++T) v:=by
 obtain⟨cs,a,b⟩:=h
 refine⟨cs++List.replicate T.length 0,by rw[List.length_append,List.length_append,List.length_replicate,a],fun i hi=>?_⟩
 unfold colW at *
 rw[List.map_append,M9 _ _ _ _ (by rw[List.length_map,a]),Bb (List.replicate _ _),Ft,Int.add_zero]
 exact b i hi
theorem Span.last {p:Int}{n:Nat}(S:List (List Int))(r:List Int):Span p n (S++[r]) fun i=>r.getD i 0:=by
 refine⟨List.replicate S.length 0++[1],by simp,fun i _=>?_⟩
 unfold colW
 rw[List.map_append,M9 _ _ _ _ (by rw[List.length_map,List.length_replicate]),Bb (List.replicate _ _),Ft]
 show _=(0+dotW [1] [r.getD i 0])%p
 rw[AE,BE]
 congr 1
 show r.getD i 0=0+(1*r.getD i 0+0)
 omega
theorem Span.mem {p:Int}{n:Nat}{S:List (List Int)}{r:List Int}(h:r∈S):Span p n S fun i=>r.getD i 0:=by
 obtain⟨A,B,rfl⟩:=List.append_of_mem h
 rw[show A++r::B=(A++[r])++B by simp]
 exact (Span.last A r).app B
theorem Span.comb {p:Int}{n:Nat}{S:List (List Int)}:∀{T:List (List Int)} (cs:List Int),(∀r∈T,Span p n S fun i=>r.getD i 0)->cs.length=T.length->Span p n S fun i=>dotW cs (colW T i)
 |[],cs,_,h=>by
  have:cs=[]:=List.length_eq_zero_iff.mp h
  subst this
  exact Span.zero.congr fun i _=>by rw[BE]
 |r::T,[],_,h=>by simp at h
 |r::T,c::cs,hT,h=>by
  have ih:=Span.comb (T:=T) cs (fun s hs=>hT s (List.mem_cons_of_mem _ hs)) (by simpa using h)
  refine (((hT r (List.mem_cons_self ..)).smul c).add ih).congr fun i _=>?_
  show dotW (c::cs) (r.getD i 0::colW T i)%p=_
  rw[AE]
theorem Span.trans {p:Int}{n:Nat}{S T:List (List Int)}{v:Nat->Int}(h:Span p n T v)(hT:∀r∈T,Span p n S fun i=>r.getD i 0):Span p n S v:=by
 obtain⟨cs,a,b⟩:=h
 exact (Span.comb cs hT a).congr b
theorem Ag_ {p:Int}(cs:List Int):∀(zs:List Int),(∀z∈zs,z%p=0)->dotW cs zs%p=0:=by
 induction cs with
 |nil=>intro zs _;rw[BE];simp
 |cons c cs ih=>
  intro zs hz
  cases zs with
  |nil=>rw[EV];simp
  |cons z zs=>
   rw[AE,Int.add_emod,ih zs fun y hy=>hz y (List.mem_cons_of_mem _ hy),Int.mul_emod,hz z (List.mem_cons_self ..)]
   simp
def cof (bs:List (Nat×List Int))(row:List Int):List Int:=bs.map fun x=>row.getD x.1 0
def basR (bs:List (Nat×List Int)):List (List Int):=bs.map (·.2)
structure Bs (p:Int)(n:Nat)(bs:List (Nat×List Int)):Prop where
 len:∀x∈bs,x.2.length=n/\x.1<n/\∀y∈x.2,0<=y/\y<p
 own:∀x∈bs,x.2.getD x.1 0=1
 off:bs.Pairwise fun x y=>x.2.getD y.1 0=0/\y.2.getD x.1 0=0
def GV (p:Int)(left:List Int)(x:Nat×List Int):List Int:=if left.getD x.1 0=0 then left else List.zipWith (fun a b=>(a+b)%p) left (x.2.map fun y => -left.getD x.1 0*y%p)
def Az (p:Int)(bs:List (Nat×List Int))(row:List Int):List Int:=bs.foldl (GV p) (row.map (· % p))
theorem Ah_ {f:Int->Int->Int}(f0:f 0 0=0){xs ys:List Int}(h:xs.length=ys.length)(i:Nat):(List.zipWith f xs ys).getD i 0=f (xs.getD i 0) (ys.getD i 0):=by
 rw[List.getD_eq_getElem?_getD,List.getD_eq_getElem?_getD,List.getD_eq_getElem?_getD,List.getElem?_zipWith]
 by_cases hi:i<xs.length
 ·rw[List.getElem?_eq_getElem hi,List.getElem?_eq_getElem (show i<ys.length by omega)];rfl
 ·rw[List.getElem?_eq_none (by omega),List.getElem?_eq_none (by omega)];exact f0.symm
theorem Kh {f:Int->Int}(f0:f 0=0)(xs:List Int)(i:Nat):(xs.map f).getD i 0=f (xs.getD i 0):=by
 rw[List.getD_eq_getElem?_getD,List.getD_eq_getElem?_getD,List.getElem?_map]
 cases xs[i]? with
 |none=>exact f0.symm
 |some x=>rfl
theorem Qo {p:Int}{n:Nat}{left:List Int}{x:Nat×List Int}(hl:left.length=n)(hx:x.2.length=n)(i:Nat):(GV p left x).length=n/\(GV p left x).getD i 0%p=(left.getD i 0-left.getD x.1 0*x.2.getD i 0)%p:=by
 unfold GV
 split
 ·rename_i h0
  exact⟨hl,by rw[h0];congr 1;omega⟩
 ·refine⟨by rw[List.length_zipWith,List.length_map];omega,?_⟩
  rw[Ah_ (by simp) (by rw[List.length_map];omega),Kh (by simp),Int.emod_emod_of_dvd _ (Int.dvd_refl p),Int.add_emod,Int.emod_emod_of_dvd _ (Int.dvd_refl p),<-Int.add_emod]
  congr 1
  rw[Int.neg_mul];omega
theorem GX (xs ys:List Int)(h:xs.length=ys.length)(x y:Int):dotW (xs++[x]) (ys++[y])=dotW xs ys+x*y:=by
 rw[M9 _ _ _ _ h,AE,BE];omega
theorem D5 {p:Int}{n:Nat}(row:List Int)(hr:row.length=n):∀(bs:List (Nat×List Int)),Bs p n bs->(Az p bs row).length=n/\∀i:Nat,(Az p bs row).getD i 0%p=(row.getD i 0-dotW (cof bs row) (colW (basR bs) i))%p:=by
 intro bs
 generalize hk:bs.length=k
 induction k generalizing bs with
 |zero=>
  intro _
  have:bs=[]:=List.length_eq_zero_iff.mp hk
  subst this
  refine⟨by unfold Az;simp[hr],fun i=>?_⟩
  show (row.map (· % p)).getD i 0%p=(row.getD i 0-dotW [] _)%p
  rw[Kh (by simp),Int.emod_emod_of_dvd _ (Int.dvd_refl p),BE]
  congr 1;omega
 |succ k ih=>
  intro hB
  obtain⟨P,x,rfl⟩:∃P x,bs=P++[x]:=⟨bs.dropLast,bs.getLast (by intro e;subst e;simp at hk),(List.dropLast_concat_getLast _).symm⟩
  have hP:Bs p n P:=⟨fun y hy=>hB.len y (List.mem_append_left _ hy),fun y hy=>hB.own y (List.mem_append_left _ hy),(List.pairwise_append.mp hB.off).1⟩
  obtain⟨l1,l2⟩:=ih P (by simp at hk;omega) hP
  have hx:=hB.len x (by simp)
  have hoff:∀y∈P,y.2.getD x.1 0=0:=fun y hy=>((List.pairwise_append.mp hB.off).2.2 y hy x (by simp)).1
  have e:Az p (P++[x]) row=GV p (Az p P row) x:=by unfold Az;rw[List.foldl_append];rfl
  rw[e]
  refine⟨(Qo l1 hx.1 0).1,fun i=>?_⟩
  have hz:dotW (cof P row) (colW (basR P) x.1)=0:=by
   have:colW (basR P) x.1=List.replicate P.length 0:=by
    refine List.eq_replicate_iff.mpr ⟨by unfold colW basR;simp,fun z hz=>?_⟩
    unfold colW basR at hz
    rw[List.map_map]at hz
    obtain⟨y,hy,rfl⟩:=List.mem_map.mp hz
    exact hoff y hy
   rw[this,Ft]
  have hq:=l2 x.1
  rw[hz,Int.sub_zero]at hq
  have e2:dotW (cof (P++[x]) row) (colW (basR (P++[x])) i)=dotW (cof P row) (colW (basR P) i)+row.getD x.1 0*x.2.getD i 0:=by
   unfold cof colW basR
   rw[List.map_append,List.map_append,List.map_append]
   exact GX _ _ (by simp) _ _
  rw[(Qo l1 hx.1 i).2,e2,Int.sub_emod,l2 i,Int.mul_emod,hq,<-Int.mul_emod,<-Int.sub_emod]
  congr 1
  omega
theorem HW {p:Int}(hp:0<p)(row:List Int)(bs:List (Nat×List Int)):∀y∈Az p bs row,0<=y/\y<p:=by
 have key:∀(bs:List (Nat×List Int)) (l:List Int),(∀y∈l,0<=y/\y<p)->∀y∈bs.foldl (GV p) l,0<=y/\y<p:=fun bs=>by
  induction bs with
  |nil=>exact fun l h=>h
  |cons x bs ih=>
   intro l h
   refine ih (GV p l x) ?_
   unfold GV
   split
   ·exact h
   ·intro y hy
    obtain⟨i,hi⟩:=List.mem_iff_getElem?.mp hy
    rw[List.getElem?_zipWith]at hi
    split at hi
    ·cases hi
     exact⟨Int.emod_nonneg _ (by omega),Int.emod_lt_of_pos _ hp⟩
    ·cases hi
 refine key bs _ fun y hy=>?_
 obtain⟨z,_,rfl⟩:=List.mem_map.mp hy
 exact⟨Int.emod_nonneg _ (by omega),Int.emod_lt_of_pos _ hp⟩
theorem getD_in {p:Int}(hp:0<p){l:List Int}(h:∀y∈l,0<=y/\y<p)(i:Nat):0<=l.getD i 0/\l.getD i 0<p:=by
 rw[List.getD_eq_getElem?_getD]
 cases e:l[i]? with
 |none=>exact⟨by simp,by simpa using hp⟩
 |some y=>exact h y (List.mem_of_getElem? e)
theorem Y1 {p:Int}{n:Nat}(row:List Int):∀{bs:List (Nat×List Int)},Bs p n bs->∀x∈bs,dotW (cof bs row) (colW (basR bs) x.1)=row.getD x.1 0
 |[],_,x,hx=>by simp at hx
 |y::bs,hB,x,hx=>by
  have hoff:=List.pairwise_cons.mp hB.off
  have hT:Bs p n bs:=⟨fun z hz=>hB.len z (List.mem_cons_of_mem _ hz),fun z hz=>hB.own z (List.mem_cons_of_mem _ hz),hoff.2⟩
  show dotW (row.getD y.1 0::cof bs row) (y.2.getD x.1 0::colW (basR bs) x.1)=_
  rw[AE]
  rcases List.mem_cons.mp hx with rfl|hx
  ·have:colW (basR bs) x.1=List.replicate bs.length 0:=by
    refine List.eq_replicate_iff.mpr ⟨by unfold colW basR;simp,fun z hz=>?_⟩
    unfold colW basR at hz
    rw[List.map_map]at hz
    obtain⟨y,hy,rfl⟩:=List.mem_map.mp hz
    exact (hoff.1 y hy).2
   rw[this,Ft,hB.own x (List.mem_cons_self ..)];omega
  ·rw[(hoff.1 x hx).1,Y1 row hT x hx];omega
theorem Qp {p:Int}{n:Nat}(hp:0<p){row:List Int}(hr:row.length=n){bs:List (Nat×List Int)}(hB:Bs p n bs):∀x∈bs,(Az p bs row).getD x.1 0=0:=fun x hx=>by
 have h:=(D5 row hr bs hB).2 x.1
 rw[Y1 row hB x hx,Int.sub_self]at h
 have:=getD_in hp (HW hp row bs) x.1
 rw[Int.emod_eq_of_lt this.1 this.2]at h
 simpa using h
def Tg (p inv:Int)(bs:List (Nat×List Int))(left:List Int)(q:Nat):List (Nat×List Int):=
 let base:=left.map fun y=>inv*y%p
 (bs.map fun x=>(x.1,Az p [(q,base)] x.2))++[(q,base)]
theorem Ai_ {p inv:Int}{n:Nat}(hp:2<=p){bs:List (Nat×List Int)}(hB:Bs p n bs){left:List Int}(hl:left.length=n)(hin:∀y∈left,0<=y/\y<p)(h0:∀x∈bs,left.getD x.1 0=0){q:Nat}(hq:q<n)(hi:inv*left.getD q 0%p=1):Bs p n (Tg p inv bs left q):=by
 obtain⟨base,hb⟩:∃base:List Int,base=left.map fun y=>inv*y%p:=⟨_,rfl⟩
 have hbl:base.length=n:=by rw[hb,List.length_map,hl]
 have hbin:∀y∈base,0<=y/\y<p:=fun y hy=>by
  rw[hb]at hy
  obtain⟨z,_,rfl⟩:=List.mem_map.mp hy
  exact⟨Int.emod_nonneg _ (by omega),Int.emod_lt_of_pos _ (by omega)⟩
 have hbat:∀i,base.getD i 0=inv*left.getD i 0%p:=fun i=>by rw[hb,Kh (by simp)]
 have hbq:base.getD q 0=1:=by rw[hbat,hi]
 have hb0:∀x∈bs,base.getD x.1 0=0:=fun x hx=>by rw[hbat,h0 x hx];simp
 have h1:Bs p n [(q,base)]:=⟨fun x hx=>by rw[List.mem_singleton.mp hx];exact⟨hbl,hq,hbin⟩,fun x hx=>by rw[List.mem_singleton.mp hx];exact hbq,List.pairwise_singleton ..⟩
 have hnew:∀x∈bs,∀i,(Az p [(q,base)] x.2).getD i 0=(x.2.getD i 0-x.2.getD q 0*base.getD i 0)%p:=fun x hx i=>by
  have:=(D5 x.2 (hB.len x hx).1 _ h1).2 i
  have g:=getD_in (by omega) (HW (p:=p) (by omega) x.2 [(q,base)]) i
  rw[Int.emod_eq_of_lt g.1 g.2]at this
  rw[this]
  congr 2
  show dotW [x.2.getD q 0] [base.getD i 0]=_
  rw[AE,BE];omega
 have hold:∀x∈bs,∀i,base.getD i 0=0->(Az p [(q,base)] x.2).getD i 0=x.2.getD i 0:=fun x hx i h=>by
  rw[hnew x hx i,h,Int.mul_zero,Int.sub_zero]
  have g:=getD_in (by omega) (hB.len x hx).2.2 i
  exact Int.emod_eq_of_lt g.1 g.2
 show Bs p n ((bs.map fun x=>(x.1,Az p [(q,left.map fun y=>inv*y%p)] x.2))++[(q,left.map fun y=>inv*y%p)])
 rw[<-hb]
 refine⟨fun x hx=>?_,fun x hx=>?_,?_⟩
 ·rcases List.mem_append.mp hx with hx|hx
  ·obtain⟨y,hy,rfl⟩:=List.mem_map.mp hx
   exact⟨(D5 y.2 (hB.len y hy).1 _ h1).1,(hB.len y hy).2.1,HW (by omega) _ _⟩
  ·rw[List.mem_singleton.mp hx];exact⟨hbl,hq,hbin⟩
 ·rcases List.mem_append.mp hx with hx|hx
  ·obtain⟨y,hy,rfl⟩:=List.mem_map.mp hx
   show (Az p [(q,base)] y.2).getD y.1 0=1
   rw[hold y hy _ (hb0 y hy)];exact hB.own y hy
  ·rw[List.mem_singleton.mp hx];exact hbq
 ·refine List.pairwise_append.mpr ⟨?_,List.pairwise_singleton ..,fun x hx y hy=>?_⟩
  ·refine List.pairwise_map.mpr ((List.Pairwise.and_mem.mp hB.off).imp fun {x y} h=>?_)
   obtain⟨hx,hy,h⟩:=h
   exact⟨by show (Az p [(q,base)] x.2).getD y.1 0=0;rw[hold x hx _ (hb0 y hy)];exact h.1,by show (Az p [(q,base)] y.2).getD x.1 0=0;rw[hold y hy _ (hb0 x hx)];exact h.2⟩
  ·obtain⟨z,hz,rfl⟩:=List.mem_map.mp hx
   rw[List.mem_singleton.mp hy]
   refine⟨?_,hb0 z hz⟩
   show (Az p [(q,base)] z.2).getD q 0=0
   rw[hnew z hz,hbq,Int.mul_one,Int.sub_self];simp
theorem By_ {p:Int}{n:Nat}:∀{bs:List (Nat×List Int)} (cs:List Int),Bs p n bs->cs.length=bs.length->bs.map (fun x=>dotW cs (colW (basR bs) x.1))=cs
 |[],cs,_,h=>by
  have:cs=[]:=List.length_eq_zero_iff.mp h
  subst this;rfl
 |y::bs,[],_,h=>by simp at h
 |y::bs,c::cs,hB,h=>by
  have hoff:=List.pairwise_cons.mp hB.off
  have hT:Bs p n bs:=⟨fun z hz=>hB.len z (List.mem_cons_of_mem _ hz),fun z hz=>hB.own z (List.mem_cons_of_mem _ hz),hoff.2⟩
  have ih:=By_ cs hT (by simpa using h)
  have z0:colW (basR bs) y.1=List.replicate bs.length 0:=by
   refine List.eq_replicate_iff.mpr ⟨by unfold colW basR;simp,fun z hz=>?_⟩
   unfold colW basR at hz
   rw[List.map_map]at hz
   obtain⟨x,hx,rfl⟩:=List.mem_map.mp hz
   exact (hoff.1 x hx).2
  have e:∀i,dotW (c::cs) (colW (basR (y::bs)) i)=c*y.2.getD i 0+dotW cs (colW (basR bs) i):=fun i=>by
   show dotW (c::cs) (y.2.getD i 0::colW (basR bs) i)=_
   rw[AE]
  rw[List.map_cons,e,z0,Ft,hB.own y (List.mem_cons_self ..)]
  congr 1
  ·omega
  ·refine (List.map_congr_left fun x hx=>?_).trans ih
   rw[e,(hoff.1 x hx).1];omega
theorem Y2 {p:Int}{n m:Nat}(hp:0<p){row:List Int}(hr:row.length=n){bs:List (Nat×List Int)}(hB:Bs p n bs)(hm:∀x∈bs,x.1<m)(h:Span p m (basR bs) fun i=>row.getD i 0):∀i:Nat,i<m->(Az p bs row).getD i 0=0:=fun i hi=>by
 obtain⟨cs,a,b⟩:=h
 have a':cs.length=bs.length:=by rw[a];unfold basR;rw[List.length_map]
 have e:cg p (cof bs row) cs:=by
  rw[<-By_ cs hB a']
  unfold cof
  exact cg.map fun x hx=>b x.1 (hm x hx)
 have h1:=(D5 row hr bs hB).2 i
 rw[Int.sub_emod,cg.dot e (cg.refl p (colW (basR bs) i)),<-b i hi,<-Int.sub_emod,Int.sub_self]at h1
 have g:=getD_in hp (HW hp row bs) i
 rw[Int.emod_eq_of_lt g.1 g.2]at h1
 simpa using h1
theorem Th {p:Int}{n m:Nat}{row:List Int}(hr:row.length=n){bs:List (Nat×List Int)}(hB:Bs p n bs)(h:∀i:Nat,i<m->(Az p bs row).getD i 0=0):Span p m (basR bs) fun i=>row.getD i 0:=by
 refine⟨cof bs row,by unfold cof basR;simp,fun i hi=>?_⟩
 have h1:=(D5 row hr bs hB).2 i
 rw[h i hi]at h1
 have:=Int.emod_emod_of_dvd (row.getD i 0-dotW (cof bs row) (colW (basR bs) i)) (Int.dvd_refl p)
 exact Int.emod_eq_emod_iff_emod_sub_eq_zero.mpr (by rw[<-h1];simp)
structure Seen (p:Int)(n m:Nat)(seen:List (List Int))(bs:List (Nat×List Int)):Prop where
 b:Bs p n bs
 lt:∀x∈bs,x.1<m
 made:∀x∈bs,Span p n seen fun i=>x.2.getD i 0
 kept:∀r∈seen,r.length=n/\Span p m (basR bs) fun i=>r.getD i 0
theorem Y3 {p:Int}{n:Nat}{row:List Int}(hr:row.length=n){bs:List (Nat×List Int)}(hB:Bs p n bs){seen:List (List Int)}(h:∀x∈bs,Span p n seen fun i=>x.2.getD i 0):Span p n (seen++[row]) fun i=>(Az p bs row).getD i 0:=by
 have h1:Span p n (seen++[row]) fun i=>dotW (cof bs row) (colW (basR bs) i):=Span.comb _ (fun r hr'=>by
  obtain⟨x,hx,rfl⟩:=List.mem_map.mp hr'
  exact (h x hx).app [row]) (by unfold cof basR;simp)
 refine ((Span.last seen row).add (h1.smul (-1))).congr fun i _=>?_
 rw[(D5 row hr bs hB).2 i]
 congr 1
 show _=row.getD i 0 + -1*dotW (cof bs row) (colW (basR bs) i)
 omega
theorem Seen.same {p:Int}{n m:Nat}{seen:List (List Int)}{bs:List (Nat×List Int)}(S:Seen p n m seen bs){row:List Int}(hr:row.length=n)(h:∀i:Nat,i<m->(Az p bs row).getD i 0=0):Seen p n m (seen++[row]) bs:=
 ⟨S.b,S.lt,fun x hx=>(S.made x hx).app [row],fun r hr'=>by
  rcases List.mem_append.mp hr' with h' | h'
  ·exact S.kept r h'
  ·rw[List.mem_singleton.mp h'];exact⟨hr,Th hr S.b h⟩⟩
theorem Seen.more {p inv:Int}{n m:Nat}(hp:2<=p)(hmn:m<=n){seen:List (List Int)}{bs:List (Nat×List Int)}(S:Seen p n m seen bs){row:List Int}(hr:row.length=n){q:Nat}(hq:q<m)(hi:inv*(Az p bs row).getD q 0%p=1):Seen p n m (seen++[row]) (Tg p inv bs (Az p bs row) q):=by
 have hl:=(D5 row hr bs S.b).1
 have hB:=Ai_ hp S.b hl (HW (by omega) row bs) (Qp (by omega) hr S.b) (show q<n by omega) hi
 have hleft:=Y3 hr S.b S.made
 have hat:=(D5 row hr bs S.b).2
 generalize Az p bs row=left at hl hi hB hleft hat ⊢
 obtain⟨base,hb⟩:∃base:List Int,base=left.map fun y=>inv*y%p:=⟨_,rfl⟩
 have ew:Tg p inv bs left q=(bs.map fun x=>(x.1,Az p [(q,base)] x.2))++[(q,base)]:=by rw[hb];rfl
 have hbat:∀i,base.getD i 0=inv*left.getD i 0%p:=fun i=>by rw[hb,Kh (by simp)]
 rw[ew]at hB ⊢
 have hbl:base.length=n:=(hB.len (q,base) (by simp)).1
 have h1:Bs p n [(q,base)]:=⟨fun x hx=>by rw[List.mem_singleton.mp hx];exact hB.len (q,base) (by simp),fun x hx=>by rw[List.mem_singleton.mp hx];exact hB.own (q,base) (by simp),List.pairwise_singleton ..⟩
 have hnew:∀x∈bs,∀i,(Az p [(q,base)] x.2).getD i 0%p=(x.2.getD i 0-x.2.getD q 0*base.getD i 0)%p:=fun x hx i=>by
  rw[(D5 x.2 (S.b.len x hx).1 _ h1).2 i]
  congr 2
  show dotW [x.2.getD q 0] [base.getD i 0]=_
  rw[AE,BE];omega
 have hbase:Span p n (seen++[row]) fun i=>base.getD i 0:=(hleft.smul inv).congr fun i _=>by
  rw[hbat,Int.emod_emod_of_dvd _ (Int.dvd_refl p)]
 have hbn:base∈basR ((bs.map fun x=>(x.1,Az p [(q,base)] x.2))++[(q,base)]):=by unfold basR;simp
 have hnb:∀x∈bs,Az p [(q,base)] x.2∈basR ((bs.map fun x=>(x.1,Az p [(q,base)] x.2))++[(q,base)]):=fun x hx=>by
  unfold basR
  rw[List.map_append,List.map_map]
  exact List.mem_append_left _ (List.mem_map.mpr ⟨x,hx,rfl⟩)
 have hold:∀r∈basR bs,Span p m (basR ((bs.map fun x=>(x.1,Az p [(q,base)] x.2))++[(q,base)])) fun i=>r.getD i 0:=fun r hr'=>by
  obtain⟨x,hx,rfl⟩:=List.mem_map.mp hr'
  refine ((Span.mem (hnb x hx)).add ((Span.mem hbn).smul (x.2.getD q 0))).congr fun i _=>?_
  show _=((Az p [(q,base)] x.2).getD i 0+x.2.getD q 0*base.getD i 0)%p
  rw[Int.add_emod,hnew x hx i,<-Int.add_emod]
  congr 1
  omega
 refine⟨hB,fun x hx=>?_,fun x hx=>?_,fun r hr'=>?_⟩
 ·rcases List.mem_append.mp hx with hx|hx
  ·obtain⟨y,hy,rfl⟩:=List.mem_map.mp hx
   exact S.lt y hy
  ·rw[List.mem_singleton.mp hx];exact hq
 ·rcases List.mem_append.mp hx with hx|hx
  ·obtain⟨y,hy,rfl⟩:=List.mem_map.mp hx
   refine (((S.made y hy).app [row]).add (hbase.smul (-y.2.getD q 0))).congr fun i _=>?_
   show (Az p [(q,base)] y.2).getD i 0%p=(y.2.getD i 0 + -y.2.getD q 0*base.getD i 0)%p
   rw[hnew y hy i,Int.neg_mul]
   congr 1
  ·rw[List.mem_singleton.mp hx];exact hbase
 ·rcases List.mem_append.mp hr' with h' | h'
  ·exact⟨(S.kept r h').1,(S.kept r h').2.trans hold⟩
  ·rw[List.mem_singleton.mp h']
   refine⟨hr,?_⟩
   have h2:Span p m (basR ((bs.map fun x=>(x.1,Az p [(q,base)] x.2))++[(q,base)])) fun i=>dotW (cof bs row) (colW (basR bs) i):=Span.comb _ hold (by unfold cof basR;simp)
   refine (h2.add ((Span.mem hbn).smul (left.getD q 0))).congr fun i _=>?_
   show row.getD i 0%p=(dotW (cof bs row) (colW (basR bs) i)+left.getD q 0*base.getD i 0)%p
   have e3:left.getD q 0*base.getD i 0%p=left.getD i 0%p:=by
    rw[hbat,Int.mul_emod,Int.emod_emod_of_dvd _ (Int.dvd_refl p),<-Int.mul_emod,show left.getD q 0*(inv*left.getD i 0)=(inv*left.getD q 0)*left.getD i 0 by rw[<-Int.mul_assoc,Int.mul_comm (left.getD q 0)],Int.mul_emod,hi]
    rw[Int.one_mul,Int.emod_emod_of_dvd _ (Int.dvd_refl p)]
   rw[Int.add_emod,e3,hat i,<-Int.add_emod]
   congr 1
   omega
def D1 (n k:Nat):List Int:=(List.range n).map fun i=>if i=k then 1 else 0
theorem Qq {n k:Nat}:∀cs:List Int,cs.length=n->dotW cs ((List.range n).map fun i=>if i=k then 1 else 0)=cs.getD k 0:=by
 intro cs hc
 have key:∀(m:Nat) (cs:List Int),dotW cs ((List.range' m cs.length).map fun i=>if i=k then 1 else 0)=if m<=k then cs.getD (k-m) 0 else 0:=fun m cs=>by
  induction cs generalizing m with
  |nil=>rw[BE];split<;>simp
  |cons c cs ih=>
   rw[List.length_cons,List.range'_succ,List.map_cons,AE,ih (m+1)]
   by_cases h1:m=k
   ·subst h1
    rw[if_pos rfl,if_neg (by omega),if_pos (Nat.le_refl _),Nat.sub_self]
    show c*1+0=c
    omega
   ·rw[if_neg h1]
    by_cases h2:m+1<=k
    ·rw[if_pos h2,if_pos (by omega),show k-m=(k-(m+1))+1 by omega]
     show c*0+cs.getD (k-(m+1)) 0=cs.getD (k-(m+1)) 0
     omega
    ·rw[if_neg h2,if_neg (by omega)];omega
 have:=key 0 cs
 rw[if_pos (Nat.zero_le _),Nat.sub_zero,hc,<-List.range_eq_range']at this
 exact this
def Bt (rows:List (List Int)):List (List Int):=(List.range rows.length).map fun k=>rows.getD k []++D1 rows.length k
theorem Ki {xs ys:List Int}{i:Nat}(h:i<xs.length):(xs++ys).getD i 0=xs.getD i 0:=by
 rw[List.getD_eq_getElem?_getD,List.getElem?_append_left h,<-List.getD_eq_getElem?_getD]
theorem Ti {xs ys:List Int}{i:Nat}:(xs++ys).getD (xs.length+i) 0=ys.getD i 0:=by
 rw[List.getD_eq_getElem?_getD,List.getElem?_append_right (by omega),show xs.length+i-xs.length=i by omega,<-List.getD_eq_getElem?_getD]
theorem Ci_ {n k i:Nat}(hi:i<n):(D1 n k).getD i 0=if i=k then 1 else 0:=by
 unfold D1
 rw[List.getD_eq_getElem?_getD,List.getElem?_map,List.getElem?_range hi];rfl
theorem Jw {m:Nat}{rows:List (List Int)}(h:∀r∈rows,r.length=m){i:Nat}(hi:i<m):colW (Bt rows) i=colW rows i:=by
 unfold colW Bt
 rw[List.map_map]
 have:(List.range rows.length).map ((fun r:List Int=>r.getD i 0) ∘ fun k=>rows.getD k []++D1 rows.length k)=(List.range rows.length).map fun k=>(rows.getD k []).getD i 0:=by
  refine List.map_congr_left fun k hk=>?_
  have hk:=List.mem_range.mp hk
  have e:rows.getD k []=rows[k]:=by rw[List.getD_eq_getElem?_getD,List.getElem?_eq_getElem hk];rfl
  show (rows.getD k []++D1 rows.length k).getD i 0=_
  rw[Ki (by rw[e,h _ (List.getElem_mem hk)];exact hi)]
 rw[this]
 have:rows.map (fun r=>r.getD i 0)=((List.range rows.length).map fun k=>rows.getD k []).map fun r=>r.getD i 0:=by rw[O9]
 rw[this,List.map_map];rfl
theorem UX {m:Nat}{rows:List (List Int)}(h:∀r∈rows,r.length=m){j:Nat}(hj:j<rows.length):colW (Bt rows) (m+j)=D1 rows.length j:=by
 unfold colW Bt
 rw[List.map_map]
 show (List.range rows.length).map _=(List.range rows.length).map _
 refine List.map_congr_left fun k hk=>?_
 have hk:=List.mem_range.mp hk
 have e:rows.getD k []=rows[k]:=by rw[List.getD_eq_getElem?_getD,List.getElem?_eq_getElem hk];rfl
 have hl:(rows.getD k []).length=m:=by rw[e,h _ (List.getElem_mem hk)]
 show (rows.getD k []++D1 rows.length k).getD (m+j) 0=if k=j then 1 else 0
 rw[<-hl,Ti,Ci_ hj]
 by_cases hkj:k=j
 ·rw[if_pos hkj,if_pos hkj.symm]
 ·rw[if_neg hkj,if_neg (Ne.symm hkj)]
theorem UY {p:Int}{m:Nat}{rows:List (List Int)}(h:∀r∈rows,r.length=m){v:Nat->Int}(hv:Span p (m+rows.length) (Bt rows) v):∀i:Nat,i<m->v i%p=dotW ((List.range rows.length).map fun k=>v (m+k)) (colW rows i)%p:=fun i hi=>by
 obtain⟨cs,a,b⟩:=hv
 have a':cs.length=rows.length:=by rw[a];unfold Bt;simp
 have e:cg p ((List.range rows.length).map fun k=>v (m+k)) cs:=by
  have:cs=(List.range rows.length).map fun k=>cs.getD k 0:=by rw[<-a'];exact (O9 0 cs).symm
  rw[this]
  refine cg.map fun k hk=>?_
  have hk:=List.mem_range.mp hk
  rw[b (m+k) (by omega),UX h hk]
  unfold D1
  rw[Qq cs a']
 rw[b i (by omega),Jw h hi,cg.dot e (cg.refl p _)]
theorem Span.less {p:Int}{n m:Nat}{S:List (List Int)}{v:Nat->Int}(h:Span p n S v)(hm:m<=n):Span p m S v:=by
 obtain⟨cs,a,b⟩:=h
 exact⟨cs,a,fun i hi=>b i (by omega)⟩
theorem Seen.iff {p:Int}{n m:Nat}(hp:0<p)(hmn:m<=n){seen:List (List Int)}{bs:List (Nat×List Int)}(S:Seen p n m seen bs){row:List Int}(hw:row.length=n):(∀i:Nat,i<m->(Az p bs row).getD i 0=0)↔Span p m seen fun i=>row.getD i 0:=by
 refine⟨fun h=>(Th hw S.b h).trans fun r hr=>?_,fun h=>Y2 hp hw S.b S.lt (h.trans fun r hr=>(S.kept r hr).2)⟩
 obtain⟨x,hx,rfl⟩:=List.mem_map.mp hr
 exact (S.made x hx).less hmn
open Classical in
noncomputable def HX (p:Int)(m:Nat)(rows:List (List Int)):List Nat:=(List.range rows.length).filter fun k=>decide (¬ Span p m (rows.take k) fun i=>(rows.getD k []).getD i 0)
open Classical in
theorem Na (p:Int)(m:Nat)(rows:List (List Int))(r:List Int):HX p m (rows++[r])=HX p m rows++(if Span p m rows (fun i=>r.getD i 0) then [] else [rows.length]):=by
 unfold HX
 rw[List.length_append,List.length_singleton,List.range_succ,List.filter_append]
 congr 1
 ·refine List.filter_congr fun k hk=>?_
  have hk:=List.mem_range.mp hk
  rw[List.take_append_of_le_length (by omega),List.getD_eq_getElem?_getD,List.getElem?_append_left hk,<-List.getD_eq_getElem?_getD]
 ·rw[List.filter_cons,List.filter_nil,List.take_left,List.getD_eq_getElem?_getD,List.getElem?_append_right (Nat.le_refl _),Nat.sub_self]
  show (if decide (¬ Span p m rows fun i=>r.getD i 0)=true then [rows.length] else [])=_
  by_cases h:Span p m rows fun i=>r.getD i 0
  ·rw[if_neg (by rw[decide_eq_true_eq];exact fun g=>g h),if_pos h]
  ·rw[if_pos (decide_eq_true h),if_neg h]
def Indep (p:Int)(m:Nat)(rows:List (List Int)):Prop:=∀cs:List Int,cs.length=rows.length->(∀i:Nat,i<m->dotW cs (colW rows i)%p=0)->∀c∈cs,c%p=0
theorem Qr (R S:List (List Int))(i:Nat):colW (R++S) i=colW R i++colW S i:=by unfold colW;rw[List.map_append]
theorem Indep.uniq {p:Int}{m:Nat}{rows:List (List Int)}(h:Indep p m rows){cs ds:List Int}(hc:cs.length=rows.length)(hd:ds.length=rows.length)(e:∀i:Nat,i<m->dotW cs (colW rows i)%p=dotW ds (colW rows i)%p):cg p cs ds:=by
 have key:=h (List.zipWith (· + ·) cs (ds.map (-1 * ·))) (by simp[hc,hd]) fun i hi=>by
  rw[Qn _ _ _ (by simp[hc,hd]),HV]
  have:=Int.emod_eq_emod_iff_emod_sub_eq_zero.mp (e i hi)
  rwa [show dotW cs (colW rows i) + -1*dotW ds (colW rows i)=dotW cs (colW rows i)-dotW ds (colW rows i) by omega]
 unfold cg
 refine List.ext_getElem (by simp[hc,hd]) fun i h1 h2=>?_
 rw[List.getElem_map,List.getElem_map]
 have i1:i<cs.length:=by simpa using h1
 have i2:i<ds.length:=by simpa using h2
 have:=key (cs[i] + -1*ds[i]) (List.mem_iff_getElem.mpr ⟨i,by simp;omega,by simp⟩)
 refine Int.emod_eq_emod_iff_emod_sub_eq_zero.mpr ?_
 rwa [show cs[i]-ds[i]=cs[i] + -1*ds[i] by omega]
theorem Indep.nil (p:Int)(m:Nat):Indep p m []:=fun cs a _ c hc=>by
 have:cs=[]:=List.length_eq_zero_iff.mp a
 subst this;simp at hc
theorem WK {m:Nat}{rows:List (List Int)}(h:∀r∈rows,r.length=m):∀r∈Bt rows,r.length=m+rows.length:=fun r hr=>by
 unfold Bt at hr
 obtain⟨k,hk,rfl⟩:=List.mem_map.mp hr
 have hk:=List.mem_range.mp hk
 have e:rows.getD k []=rows[k]:=by rw[List.getD_eq_getElem?_getD,List.getElem?_eq_getElem hk];rfl
 rw[List.length_append,e,h _ (List.getElem_mem hk)];unfold D1;simp
theorem UZ {p:Int}{m:Nat}{rows:List (List Int)}(h:∀r∈rows,r.length=m){v:Nat->Int}:Span p m (Bt rows) v↔Span p m rows v:=by
 have l:(Bt rows).length=rows.length:=by unfold Bt;simp
 constructor
 ·rintro⟨cs,a,b⟩
  exact⟨cs,by rw[a,l],fun i hi=>by rw[b i hi,Jw h hi]⟩
 ·rintro⟨cs,a,b⟩
  exact⟨cs,by rw[a,l],fun i hi=>by rw[b i hi,Jw h hi]⟩
theorem Cj_ (c i:Nat):(List.replicate c (0:Int)).getD i 0=0:=by
 rw[List.getD_eq_getElem?_getD,List.getElem?_replicate];split<;>rfl
theorem Y4 {p:Int}(hp:0<p){m:Nat}{rows:List (List Int)}(h:∀r∈rows,r.length=m){bs:List (Nat×List Int)}(S:Seen p (m+rows.length) m (Bt rows) bs){row:List Int}(hw:row.length=m):(∀i:Nat,i<m->(Az p bs (row++List.replicate rows.length 0)).getD i 0=0)↔Span p m rows fun i=>row.getD i 0:=by
 rw[S.iff hp (by omega) (by simp[hw]),UZ h]
 exact⟨fun g=>g.congr fun i hi=>by rw[Ki (by omega)],fun g=>g.congr fun i hi=>by rw[Ki (by omega)]⟩
theorem DV_ {p:Int}(hp:0<p){m:Nat}{rows:List (List Int)}(h:∀r∈rows,r.length=m){bs:List (Nat×List Int)}(S:Seen p (m+rows.length) m (Bt rows) bs){row:List Int}(hw:row.length=m)(h0:∀i:Nat,i<m->(Az p bs (row++List.replicate rows.length 0)).getD i 0=0):∀i:Nat,i<m->row.getD i 0%p=dotW ((List.range rows.length).map fun k => -(Az p bs (row++List.replicate rows.length 0)).getD (m+k) 0%p) (colW rows i)%p:=by
 have hat:=(D5 (row++List.replicate rows.length 0) (by simp[hw]:_=m+rows.length) bs S.b).2
 generalize hL:Az p bs (row++List.replicate rows.length 0)=left at hat h0 ⊢
 have hs:Span p (m+rows.length) (Bt rows) fun i=>dotW (cof bs (row++List.replicate rows.length 0)) (colW (basR bs) i):=Span.comb _ (fun r hr=>by
  obtain⟨x,hx,rfl⟩:=List.mem_map.mp hr
  exact S.made x hx) (by unfold cof basR;simp)
 intro i hi
 have h1:=UY h hs i hi
 have h2:=hat i
 rw[h0 i hi,Ki (by omega)]at h2
 have e1:row.getD i 0%p=dotW (cof bs (row++List.replicate rows.length 0)) (colW (basR bs) i)%p:=Int.emod_eq_emod_iff_emod_sub_eq_zero.mpr (by rw[<-h2];simp)
 rw[e1,h1]
 refine cg.dot (cg.map fun k hk=>?_) (cg.refl p _)
 have h3:=hat (m+k)
 rw[<-hw,Ti,Cj_,hw,Int.zero_sub]at h3
 rw[Int.emod_emod_of_dvd _ (Int.dvd_refl p),<-Int.neg_neg (dotW _ _)]
 have d:=Int.dvd_of_emod_eq_zero (Int.emod_eq_emod_iff_emod_sub_eq_zero.mp h3)
 refine Int.emod_eq_emod_iff_emod_sub_eq_zero.mpr (Int.emod_eq_zero_of_dvd ?_)
 have e:∀x y:Int,- -x - -y=y - -x:=fun x y=>by omega
 rw[e];exact d
theorem DW_ {p:Int}(hp:0<p){m:Nat}{rows:List (List Int)}(h:∀r∈rows,r.length=m)(hI:Indep p m rows){bs:List (Nat×List Int)}(S:Seen p (m+rows.length) m (Bt rows) bs){row:List Int}(hw:row.length=m){am:List Int}(ha:am.length=rows.length)(hin:∀x∈am,0<=x/\x<p)(he:∀i:Nat,i<m->row.getD i 0%p=dotW am (colW rows i)%p):((Az p bs (row++List.replicate rows.length 0)).drop m).map (fun y => -y%p)=am:=by
 have h0:=(Y4 hp h S hw).mpr ⟨am,ha,he⟩
 have hl:=(D5 (row++List.replicate rows.length 0) (by simp[hw]:_=m+rows.length) bs S.b).1
 have hf:=DV_ hp h S hw h0
 generalize Az p bs (row++List.replicate rows.length 0)=left at hl hf h0 ⊢
 have e0:(left.drop m).map (fun y => -y%p)=(List.range rows.length).map fun k => -left.getD (m+k) 0%p:=by
  refine List.ext_getElem (by simp[hl]) fun i h1 h2=>?_
  have hi:m+i<left.length:=by simp at h1;omega
  rw[List.getElem_map,List.getElem_map,List.getElem_range,List.getElem_drop,List.getD_eq_getElem?_getD,List.getElem?_eq_getElem hi];rfl
 have hu:=hI.uniq (cs:=(List.range rows.length).map fun k => -left.getD (m+k) 0%p) (ds:=am) (by simp) ha fun i hi=>(hf i hi).symm.trans (he i hi)
 rw[e0]
 unfold cg at hu
 rw[List.map_map]at hu
 have e2:am.map (· % p)=am:=by
  conv=>rhs;rw[<-List.map_id am]
  exact List.map_congr_left fun x hx=>Int.emod_eq_of_lt (hin x hx).1 (hin x hx).2
 rw[e2]at hu
 rw[<-hu]
 refine List.map_congr_left fun k _=>?_
 show _=(-left.getD (m+k) 0%p)%p
 rw[Int.emod_emod_of_dvd _ (Int.dvd_refl p)]
theorem V4:∀(m:Nat) (l:List Nat),l.Nodup->(∀x∈l,x<m)->l.length<=m
 |0,l,_,h=>by
  cases l with
  |nil=>exact Nat.le_refl _
  |cons x l=>exact absurd (h x (List.mem_cons_self ..)) (Nat.not_lt_zero _)
 |m+1,l,nd,h=>by
  have h1:=V4 m (l.erase m) (nd.erase m) fun x hx=>by
   have hx1:=h x (List.mem_of_mem_erase hx)
   have hx2:x≠m:=fun e=>by
    subst e
    exact (List.Nodup.not_mem_erase nd) hx
   omega
  have h2:=List.length_erase (a:=m) (l:=l)
  by_cases hm:m∈l
  ·rw[if_pos hm]at h2
   omega
  ·rw[if_neg hm]at h2;omega
theorem bez (a b:Nat):∃x y:Int,x*a+y*b=(Nat.gcd a b:Int):=by
 induction a,b using Nat.gcd.induction with
 |H0 n=>exact⟨0,1,by simp⟩
 |H1 m n hm ih=>
  obtain⟨x,y,h⟩:=ih
  refine⟨y-x*((n / m:Nat):Int),x,?_⟩
  rw[Nat.gcd_rec m n,<-h]
  have e:(n:Int)=(m:Int)*((n / m:Nat):Int)+((n%m:Nat):Int):=by
   have:=Nat.div_add_mod n m
   rw[<-Int.natCast_mul,<-Int.natCast_add,this]
  have e2:x*(n:Int)=x*((m:Int)*((n / m:Nat):Int))+x*((n%m:Nat):Int):=by rw[<-Int.mul_add,<-e]
  rw[e2,Int.sub_mul,Int.mul_assoc,Int.mul_comm ((n / m:Nat):Int) (m:Int)]
  omega
theorem DX_ {p a:Int}(hp:2<=p)(h0:0<a)(hg:Int.gcd a p=1):∃inv:Int,inv*a%p=1:=by
 obtain⟨x,y,h⟩:=bez a.natAbs p.natAbs
 rw[show Nat.gcd a.natAbs p.natAbs=1 from hg,show (a.natAbs:Int)=a by omega,show (p.natAbs:Int)=p by omega]at h
 refine⟨x,?_⟩
 have e:x*a=1+p*(-y):=by rw[Int.mul_neg,Int.mul_comm p y];omega
 rw[e,Int.add_mul_emod_self_left]
 exact Int.emod_eq_of_lt (by decide) (by omega)
structure GcdI (p n one two f g:Int):Prop where
 o:0<one
 o1:one<=p
 t:0<=two
 t1:two<=p
 gc:Int.gcd one two=1
 f1:(f*n-one)%p=0
 g1:(g*n-two)%p=0
theorem Ck_ {a b:Int}(ha:0<a)(hb:0<b)(h:Int.gcd a b=1):Int.gcd b (a%b)=1:=by
 have m0:=Int.emod_nonneg a (show b≠0 by omega)
 have e:(a%b).natAbs=a.natAbs%b.natAbs:=by
  have e1:a%b=((a.natAbs%b.natAbs:Nat):Int):=by rw[Int.natCast_emod,show (a.natAbs:Int)=a from by omega,show (b.natAbs:Int)=b from by omega]
  rw[e1,Int.natAbs_natCast]
 unfold Int.gcd at h ⊢
 rw[e,Nat.gcd_comm,<-Nat.gcd_rec,Nat.gcd_comm];exact h
theorem GcdI.step {p n one two f g:Int}(h:GcdI p n one two f g)(ht:two≠0):GcdI p n two (one-one / two*two) g (f-one / two*g):=by
 have hp:0<two:=by have:=h.t;omega
 have e:one-one / two*two=one%two:=by have:=Int.mul_ediv_add_emod one two;rw[Int.mul_comm];omega
 refine⟨hp,h.t1,by rw[e];exact Int.emod_nonneg _ ht,by rw[e];have:=Int.emod_lt_of_pos one hp;have:=h.t1;omega,?_,h.g1,?_⟩
 ·rw[e];exact Ck_ h.o hp h.gc
 ·have e2:(f-one / two*g)*n-(one-one / two*two)=(f*n-one)-one / two*(g*n-two):=by
   rw[Int.sub_mul,Int.mul_sub,Int.mul_assoc];omega
  have d1:=Int.dvd_of_emod_eq_zero h.f1
  have d2:=Int.dvd_of_emod_eq_zero h.g1
  rw[e2]
  exact Int.emod_eq_zero_of_dvd (Int.dvd_sub d1 (Int.dvd_mul_of_dvd_right d2))
theorem GcdI.done {p n one f g:Int}(h:GcdI p n one 0 f g)(hp:2<=p):f%p*n%p=1:=by
 have e:one=1:=by have:=h.gc;have:=h.o;rw[Int.gcd_zero_right] at *;omega
 have:=h.f1
 rw[e]at this
 have d:=Int.dvd_of_emod_eq_zero this
 have e3:f*n%p=1%p:=Int.emod_eq_emod_iff_emod_sub_eq_zero.mpr this
 have e4:f%p*n%p=f*n%p:=by rw[Int.mul_emod,Int.emod_emod,<-Int.mul_emod]
 rw[e4,e3]
 exact Int.emod_eq_of_lt (by decide) (by omega)
def Pb (NI:Addr):Sp:=fun vs H Q E=>∃(p n:Int),vs=[.int p,.int n]/\2<=p/\p<1000000000000000000/\(n%p=0->E (.ref NI) none H)/\(n%p≠0->Int.gcd (n%p) p=1/\∀r,0<=r->r<p->r*n%p=1->Q (.int r) H)
theorem WL {f:Addr}{fd:FuncData}(F:Fun K "inverse" "inverse" FE f fd)(T:Txt mg)
  (Z:Exs K mg C_AskError C_BadWord C_NoInverse)
  : FnOk P w K mg base (CXe P w) 1 f fd ["p","number"] (Pb C_NoInverse):=by
 refine F.okE BM (fun vs H Q E h=>?_) (fun cdv A outer s H vs Q E hr h=>?_)
 ·obtain⟨p,n,rfl,_⟩:=h;rfl
 ·obtain⟨p,n,rfl,hp,hp18,kE,k⟩:=h
  have hl:=An
  refine⟨_,(Ad (Aj (i:=2) BM.nd rfl (Or.inl rfl) (pv 0))
   (Ad (Aj (i:=3) BM.nd rfl (Or.inl rfl) (Aq Cg (pv 1) (pv 0)))
   (Ad (Dt (AJ UH (pv 3) Af (A3 _))
   (Ag (VO Z.m_NoInverse Z.x_NoInverse rfl rfl (Aa AJ_ Ab)))
   AY)
   (Ad (Aj (i:=4) BM.nd rfl (Or.inl rfl) Af)
   (Ad (Aj (i:=5) BM.nd rfl (Or.inl rfl) Af)
   (Ad (PQ PassesOwn.leaving (AJ N1 (pv 3) Af (A3 _))
   (Ad (Aj (i:=6) BM.nd rfl (Or.inl rfl) (Aq Aa_ (pv 2) (pv 3)))
   (Ad (Aj (i:=7) BM.nd rfl (Or.inl rfl) (Aq LO (pv 2) (Aq Ds (pv 6) (pv 3))))
   (Ad (Aj (i:=8) BM.nd rfl (Or.inl rfl) (Aq LO (pv 4) (Aq Ds (pv 6) (pv 5))))
   (Ad (Aj (i:=2) BM.nd rfl (Or.inl rfl) (pv 3))
   (Ad (Aj (i:=4) BM.nd rfl (Or.inl rfl) (pv 5))
   (Ad (Aj (i:=3) BM.nd rfl (Or.inl rfl) (pv 7))
   (Ag (Aj (i:=5) BM.nd rfl (Or.inl rfl) (pv 8))))))))))
   (Ag (Ap (Aq Cg (pv 4) (pv 0)))))))))),?_⟩
  walk_at "rd"
  refine⟨by omega,ite2 (fun e=>⟨by omega,kE e⟩) (fun e=>?_)⟩
  obtain⟨hg,kq⟩:=k e
  have m0:=Int.emod_nonneg n (show p≠0 by omega)
  have m1:=Int.emod_lt_of_pos n (show 0<p by omega)
  obtain⟨Pv,hPv⟩:∃Pv:Nat->St->Hp->Prop,∀m σ2 H2,Pv m σ2 H2↔(H2=H/\∃(one two f g:Int) (o6 o7 o8:Option V),m=two.toNat/\GcdI p n one two f g/\σ2=[some (.int p),some (.int n),some (.int one),some (.int two),some (.int f),some (.int g),o6,o7,o8]):=⟨_,fun _ _ _=>Iff.rfl⟩
  refine Yt Pv ⟨_,(hPv _ _ _).mpr ⟨rfl,p,n%p,0,1,none,none,none,rfl,⟨by omega,by omega,m0,by omega,by rw[Int.gcd_comm];exact hg,Int.emod_eq_zero_of_dvd ⟨-1,by rw[Int.zero_mul];omega⟩,Int.emod_eq_zero_of_dvd ⟨n / p,by rw[Int.one_mul];have:=Int.mul_ediv_add_emod n p;omega⟩⟩,rfl⟩⟩ ?_
  intro m σ2 H2 hpv
  obtain⟨rfl,one,two,f,g,o6,o7,o8,rfl,G,rfl⟩:=(hPv _ _ _).mp hpv
  have g1:=G.o
  have g2:=G.o1
  have g3:=G.t
  have g4:=G.t1
  walk_at "rd"
  by_cases ht:two=0
  ·rw[if_neg (by simp[ht])]
   subst ht
   walk_at "rd"
   exact⟨by omega,kq _ (Int.emod_nonneg _ (by omega)) (Int.emod_lt_of_pos _ (by omega)) (G.done hp)⟩
  ·rw[if_pos (by simp[ht])]
   have q0:=Int.ediv_nonneg (show 0<=one by omega) g3
   have q1:one / two<=one:=Int.ediv_le_self _ (by omega)
   have G':=G.step ht
   have r1:=G'.t
   refine⟨fun σ' H'=>∃m',m'<two.toNat/\Pv m' σ' H',fun _ _ h=>h,by omega,by omega,.inr ⟨by omega,by omega⟩,.inl ⟨by omega,by omega⟩,(one-one / two*two).toNat,?_,(hPv _ _ _).mpr ⟨rfl,_,_,_,_,_,_,_,rfl,G',rfl⟩⟩
   have e1:one-one / two*two=one%two:=by have:=Int.mul_ediv_add_emod one two;rw[Int.mul_comm];omega
   have:=Int.emod_lt_of_pos one (show 0<two by omega)
   omega
def Nb (K:PySem.W.Frag):Sp:=fun vs H Q _=>∃(p f:Int) (t:Bool) (a:Addr) (xs:List Int),vs=[.int p,.int f,.ref a]/\0<p/\(-(2 ^ 64)<f/\f<2 ^ 64)/\SqB K H t a (xs.map V.int)/\xs.length<=900/\∀q H',Same H H'->H' q=some (.tup ((xs.map fun x=>f*x%p).map V.int))->Q (.ref q) H'
theorem Y5 {f:Addr}{fd:FuncData}(F:Fun K "scaled" "scaled" F7 f fd)(T:Txt mg)
  (Z:Exs K mg C_AskError C_BadWord C_NoInverse)
  : FnOk P w K mg base CX0 1 f fd ["p","factor","row"] (Nb K):=by
 refine F.ok Y0 (fun vs H Q E h=>?_) (fun cdv A outer s H vs Q E hr h=>?_)
 ·obtain⟨p,f,t,a,xs,rfl,_⟩:=h;rfl
 ·obtain⟨p,f,t,a,xs,rfl,hp,hf,ha,hz,k⟩:=h
  have hl:=An
  refine⟨_,(Ag (Ap (Ax Av rfl T.tuple PyProof.Rows.boot_tuple (Aa (CG rfl (Du rfl) (cp:=O7) ⟨⟨rfl,rfl⟩,⟨⟨rfl,rfl⟩,True.intro⟩⟩ (Yy (pv 2)) (fun _ _ _ _=>(Am (i:=0) Qm rfl (Or.inl rfl))) (fun _ _ _ _=>CH) (fun _ _ _ _=>(Aq Cg (Aq Ds (pv 2) (pv 0)) (pv 1)))) Ab)))),?_⟩
  walk_at "rd"
  obtain⟨g,hg⟩:∃g:V->V,∀n:Int,g (V.int n)=.int (f*n%p):=⟨fun x=>match x with | .int n=>.int (f*n%p)|_=>.non,fun _=>rfl⟩
  refine VZ (σ':=[some (.int p),some (.int f)]) g rfl ha (by rw[List.length_map];omega) (fun x hx R hR=>?_) (fun D hD=>?_)
  ·obtain⟨n,hn,rfl⟩:=List.mem_map.mp hx
   rw[hg]at hR
   walk_at "rd"
   exact⟨.inl hf,hp,hR⟩
  ·have em:(xs.map V.int).map g=(xs.map fun x=>f*x%p).map V.int:=by
    rw[List.map_map,List.map_map]
    exact List.map_congr_left fun n _=>hg n
   rw[em]
   refine⟨D,rfl,_,.inl ⟨SqL.of Ac,fun q hq=>k q _ ((Same.new hD).newT hq) Ac⟩⟩
def V5 (K:PySem.W.Frag):Sp:=fun vs H Q _=>∃(p:Int) (t1 t2:Bool) (a b:Addr) (xs ys:List Int),vs=[.int p,.ref a,.ref b]/\0<p/\SqB K H t1 a (xs.map V.int)/\SqB K H t2 b (ys.map V.int)/\xs.length=ys.length/\xs.length<=900/\∀q H',Same H H'->H' q=some (.tup ((List.zipWith (fun x y=>(x+y)%p) xs ys).map V.int))->Q (.ref q) H'
theorem Aj_ {f:Addr}{fd:FuncData}(F:Fun K "added" "added" Ju f fd)(T:Txt mg)
  (Z:Exs K mg C_AskError C_BadWord C_NoInverse)
  : FnOk P w K mg base CX0 1 f fd ["p","row","other"] (V5 K):=by
 refine F.ok Ae_ (fun vs H Q E h=>?_) (fun cdv A outer s H vs Q E hr h=>?_)
 ·obtain⟨p,t1,t2,a,b,xs,ys,rfl,_⟩:=h;rfl
 ·obtain⟨p,t1,t2,a,b,xs,ys,rfl,hp,ha,hb,hlen,hz,k⟩:=h
  have hl:=An
  refine⟨_,(Ag (Ap (Ax Av rfl T.tuple PyProof.Rows.boot_tuple (Aa (CG rfl (Du rfl) (cp:=Tf) ⟨⟨rfl,rfl⟩,True.intro⟩ (YT rfl T.zip (Aa (pv 1) (Aa (pv 2) Ab))) (fun _ _ _ _=>(US (K:=K) (n:=2) rfl rfl (DA (Am (i:=0) LV rfl (Or.inl rfl)) (DA (Am (i:=1) LV rfl (Or.inl rfl)) La)))) (fun _ _ _ _=>CH) (fun _ _ _ _=>(Aq Cg (Aq Cv (pv 0) (pv 1)) (pv 2)))) Ab)))),?_⟩
  walk_at "rd"
  refine⟨_,_,t1,ha,t2,hb,V0 (σ':=[some (.int p)]) (fun x y=>(x+y)%p) rfl ha hb hlen (by omega) (fun t u v o1 o2 H1 N ht hN=>?_) (fun x y H1 hx hy s1 R hR=>?_) (fun H1 D s1 hD=>?_)⟩
  ·walk_at "rd"
   exact⟨_,SqT.of ht,rfl,_,_,rfl,_,_,rfl,rfl,hN⟩
  ·walk_at "rd"
   exact⟨hp,hR⟩
  ·refine⟨D,rfl,_,.inl ⟨SqL.of Ac,fun q hq=>k q _ ((s1.newT hD).newT hq) Ac⟩⟩
def Lm (K:PySem.W.Frag):Sp:=fun vs H Q _=>∃(p:Int) (t1 t2:Bool) (a b:Addr) (xs ys:List Int),vs=[.int p,.ref a,.ref b]/\0<p/\SqB K H t1 a (xs.map V.int)/\SqB K H t2 b (ys.map V.int)/\xs.length=ys.length/\xs.length<=900/\(∀x∈xs,-(2 ^ 64)<x/\x<2 ^ 64)/\∀H',Same H H'->Q (.int (dotW xs ys%p)) H'
theorem WM {f:Addr}{fd:FuncData}(F:Fun K "product" "product" E2 f fd)(T:Txt mg)
  (Z:Exs K mg C_AskError C_BadWord C_NoInverse)
  : FnOk P w K mg base CX0 1 f fd ["p","row","other"] (Lm K):=by
 refine F.ok WE (fun vs H Q E h=>?_) (fun cdv A outer s H vs Q E hr h=>?_)
 ·obtain⟨p,t1,t2,a,b,xs,ys,rfl,_⟩:=h;rfl
 ·obtain⟨p,t1,t2,a,b,xs,ys,rfl,hp,ha,hb,hlen,hz,hx64,k⟩:=h
  have hl:=An
  refine⟨_,(Ag (Ap (Aq Cg (Ak (Qb rfl) rfl T.sum PyProof.Rows.boot_sum (Aa (CG rfl (Du rfl) (cp:=MZ) True.intro (YT rfl T.zip (Aa (pv 1) (Aa (pv 2) Ab))) (fun _ _ _ _=>(US (K:=K) (n:=2) rfl rfl (DA (Am (i:=0) Jd rfl (Or.inl rfl)) (DA (Am (i:=1) Jd rfl (Or.inl rfl)) La)))) (fun _ _ _ _=>CH) (fun _ _ _ _=>(Aq Ds (pv 0) (pv 1)))) Ab)) (pv 0)))),?_⟩
  walk_at "rd"
  refine⟨_,_,t1,ha,t2,hb,V0 (σ':=[]) (fun x y=>x*y) rfl ha hb hlen (by omega) (fun t u v o1 o2 H1 N ht hN=>?_) (fun x y H1 hx hy s1 R hR=>?_) (fun H1 D s1 hD=>?_)⟩
  ·walk_at "rd"
   exact⟨_,SqT.of ht,rfl,_,_,rfl,_,_,rfl,rfl,hN⟩
  ·walk_at "rd"
   exact⟨.inl (hx64 x hx),hR⟩
  ·exact⟨D,rfl,_,SqL.of Ac,hp,k _ (s1.newT hD)⟩
def Pd (K:PySem.W.Frag):Sp:=fun vs H Q _=>∃(p:Int) (t1 t2:Bool) (a b:Addr) (xs:List V) (rows:List (List Int)) (am:List Int) (n:Nat),vs=[.int p,.ref a,.ref b,.int n]/\0<p/\SqB K H t1 a xs/\A2 K H xs rows/\(∀r∈rows,r.length=n)/\SqB K H t2 b (am.map V.int)/\am.length=rows.length/\rows.length<=900/\n<=900/\(∀x∈am,-(2 ^ 64)<x/\x<2 ^ 64)/\∀q H',Same H H'->H' q=some (.tup ((D0 p rows am n).map V.int))->Q (.ref q) H'
theorem WN {f:Addr}{fd:FuncData}(F:Fun K "made_of" "made_of" FF f fd)(T:Txt mg)
  (Z:Exs K mg C_AskError C_BadWord C_NoInverse)
  {CY:Addr} {Eu:FuncData} (GG:FnOk P w K mg base CX0 1 CY Eu ["p","row","other"] (Lm K)) (E3:Fun K "product" "product" E2 CY Eu) (GH:Binds K Eu ["p","row","other"] []) (GI:mg "product"=some (.ref CY))
  : FnOk P w K mg base CX0 2 f fd ["p","rows","parts","size"] (Pd K):=by
 refine F.ok WG (fun vs H Q E h=>?_) (fun cdv A outer s H vs Q E hr h=>?_)
 ·obtain⟨p,t1,t2,a,b,xs,rows,am,n,rfl,_⟩:=h;rfl
 ·obtain⟨p,t1,t2,a,b,xs,rows,am,n,rfl,hp,ha,hrw,hrn,hb,hlen,hz,hn,h64,k⟩:=h
  have hl:=An
  refine⟨_,(Ag (Ap (Ax Av rfl T.tuple PyProof.Rows.boot_tuple (Aa (VX rfl (YJ rfl) (cp:=M3) ⟨⟨rfl,rfl⟩,⟨⟨rfl,rfl⟩,⟨⟨rfl,rfl⟩,True.intro⟩⟩⟩ (AQ rfl T.range (Aa (pv 3) Ab)) (fun _ _ _ _=>(Am (i:=0) N9 rfl (Or.inr rfl))) (fun _ _ _ _=>CH) (fun _ _ _ _=>(Ah GG (hr.mono (by decide)) rfl GI E3.kp GH .nil AD (Aa (pv 1) (Aa (pv 2) (Aa (CG rfl (Du rfl) (cp:=M4) ⟨⟨rfl,rfl⟩,True.intro⟩ (Ce_ (K:=K) rfl (pv 3)) (fun _ _ _ _=>(Am (i:=0) Oa rfl (Or.inl rfl))) (fun _ _ _ _=>CH) (fun _ _ _ _=>(Ar (Ep (K:=K) rfl) (pv 0) (pv 1) (fun _ _=>rfl)))) Ab)))))) Ab)))),?_⟩
  walk_at "rd"
  refine⟨by omega,by omega,?_⟩
  rw[Int.toNat_natCast]
  obtain⟨Pc,hPc⟩:∃Pc:Nat->List V->St->Hp->Prop,∀c ys σ4 H4,Pc c ys σ4 H4↔(Same H H4/\ys=((List.range c).map fun c=>dotW am (colW rows c)%p).map V.int/\∃o,σ4=[o,some (.int p),some (.ref b),some (.ref a)]):=⟨_,fun _ _ _ _=>Iff.rfl⟩
  refine N5 Pc ((hPc _ _ _ _).mpr ⟨Same.refl _,rfl,none,rfl⟩) (by omega) (fun c ys σ4 H4 _ h4=>?_) (fun c ys σ4 H4 hc h4=>?_) (fun ys σ4 H4 h4 D hD=>?_)
  ·obtain⟨_,rfl,_⟩:=(hPc _ _ _ _).mp h4
   rw[List.length_map,List.length_map,List.length_range];exact Nat.le_refl _
  ·obtain⟨s4,rfl,o,rfl⟩:=(hPc _ _ _ _).mp h4
   rw[Int.zero_add]
   walk_at "rd"
   refine YU (σ':=[some (.int c)]) (fun i=>V.int ((rows.getD i []).getD c 0)) rfl (ha.mono s4) (by rw[hrw.1];omega) (fun i x hx R hR=>?_) (fun D hD=>?_)
   ·have hi:i<rows.length:=by rw[<-hrw.1];exact (List.getElem?_eq_some_iff.mp hx).1
    obtain⟨t,e1,e2⟩:=hrw.2 i rows[i] (by simp[hi])
    rw[hx]at e1
    cases e1
    have hcl:c<(rows[i]).length:=by rw[hrn _ (List.getElem_mem hi)];exact hc
    have er:rows.getD i []=rows[i]:=by rw[List.getD_eq_getElem?_getD,List.getElem?_eq_getElem hi];rfl
    rw[er,List.getD_eq_getElem?_getD,List.getElem?_eq_getElem hcl]at hR
    walk_at "rd"
    exact⟨_,s4.seqT e2,_,Gi (by omega) (v:=(rows[i])[c]) (by simp[hcl]),hR⟩
   ·rw[hrw.1,DT_] at *
    have sD:=Same.new hD (o:=.lst ((colW rows c).map V.int))
    walk_at "rd"
    refine⟨p,t2,false,b,D,am,colW rows c,rfl,hp,hb.mono (s4.trans sD),SqL.of Ac,by unfold colW;rw[List.length_map];exact hlen,by omega,h64,fun H5 s5=>(hPc _ _ _ _).mpr ⟨(s4.trans sD).trans s5,?_,_,rfl⟩⟩
    rw[List.range_succ,List.map_append,List.map_append];rfl
  ·obtain⟨s4,rfl,o,rfl⟩:=(hPc _ _ _ _).mp h4
   exact⟨D,rfl,_,.inl ⟨SqL.of Ac,fun q hq=>k q _ ((s4.newT hD).newT hq) Ac⟩⟩
def BasD (K:PySem.W.Frag)(H:Hp)(d:Addr)(bs:List (Nat×List Int)):Prop:=∃kvs:List (Key×V),Rd H d (.dK kvs)/\kvs.length=bs.length/\∀(i:Nat) (x:Nat×List Int),bs[i]?=some x->∃t,kvs[i]?=some (Sum.inl (x.1:Int),V.ref t)/\SqT K H t (x.2.map V.int)
theorem BasD.fz {K:PySem.W.Frag}{H H':Hp}{d e:Addr}{bs:List (Nat×List Int)}(h:BasD K H d bs)(s:FzAt e H H'):BasD K H' d bs:=by
 obtain⟨kvs,h1,h2,h3⟩:=h
 refine⟨kvs,s.rd h1,h2,fun i x hx=>?_⟩
 obtain⟨t,a,b⟩:=h3 i x hx
 exact⟨t,a,s.seqT b⟩
theorem BasD.mono {K:PySem.W.Frag}{H H':Hp}{d:Addr}{bs:List (Nat×List Int)}(h:BasD K H d bs)(s:Same H H'):BasD K H' d bs:=h.fz (FzAt.of (d:=d) s)
def V6 (K:PySem.W.Frag):Sp:=fun vs H Q _=>∃(a:Addr) (xs:List Int),vs=[.ref a]/\SqT K H a (xs.map V.int)/\xs.length<=900/\(∀(q:Nat) (H':Hp),Same H H'->q<xs.length->xs.getD q 0≠0->Q (.int q) H')/\∀H',Same H H'->(∀q:Nat,q<xs.length->xs.getD q 0=0)->Q .non H'
theorem Lo {f:Addr}{fd:FuncData}(F:Fun K "place_of_first" "place_of_first" AU f fd)(T:Txt mg)
  (Z:Exs K mg C_AskError C_BadWord C_NoInverse)
  : FnOk P w K mg base CX0 1 f fd ["row"] (V6 K):=by
 refine F.ok Er (fun vs H Q E h=>?_) (fun cdv A outer s H vs Q E hr h=>?_)
 ·obtain⟨a,xs,rfl,_⟩:=h;rfl
 ·obtain⟨a,xs,rfl,ha,hz,k1,k2⟩:=h
  have hl:=An
  refine⟨_,(Ad (B7 PassesOwn.never rfl (P9 rfl T.enumerate (pv 0)) (VF rfl (DA (Am (i:=1) Er.nd rfl (Or.inl rfl)) (DA (Am (i:=2) Er.nd rfl (Or.inl rfl)) La)))
   (Ag (Dt (AJ N1 (pv 2) Af (A3 _))
   (Ag (Ap (pv 1)))
   AY)))
   (Ag (Ap SK))),?_⟩
  walk_at "rd"
  obtain⟨Pv,hPv⟩:∃Pv:Nat->St->Hp->Prop,∀i σ' H',Pv i σ' H'↔(Same H H'/\(∀q:Nat,q<i->xs.getD q 0=0)/\∃o1 o2,σ'=[some (.ref a),o1,o2]):=⟨_,fun _ _ _=>Iff.rfl⟩
  refine⟨_,ha,forN Pv ((hPv _ _ _).mpr ⟨Same.refl _,fun q hq=>by omega,none,none,rfl⟩) (fun i σ' H' _ h'=>((hPv _ _ _).mp h').1.seqT ha) (fun i v σ' H' t hv h' ht=>?_) (fun σ' H' h'=>?_)⟩
  ·obtain⟨s1,h0,o1,o2,rfl⟩:=(hPv _ _ _).mp h'
   obtain⟨x,hx,rfl⟩:∃x,xs[i]?=some x/\v=.int x:=by
    rw[List.getElem?_map]at hv
    cases e:xs[i]? with
    |none=>rw[e]at hv;cases hv
    |some x=>rw[e]at hv;exact⟨x,rfl,(Option.some.inj hv).symm⟩
   have hi:i<xs.length:=(List.getElem?_eq_some_iff.mp hx).1
   have ex:xs.getD i 0=x:=by rw[List.getD_eq_getElem?_getD,hx];rfl
   walk_at "rd"
   refine⟨_,SqT.of Ac,rfl,_,_,rfl,_,_,rfl,rfl,rfl,?_⟩
   have s2:=s1.newT ht (o:=.tup [.int i,.int x])
   by_cases hx0:x=0
   ·rw[if_neg (by simp[hx0])]
    refine (hPv _ _ _).mpr ⟨s2,fun q hq=>?_,_,_,rfl⟩
    rcases Nat.lt_or_ge q i with h|h
    ·exact h0 q h
    ·rw[show q=i by omega,ex,hx0]
   ·rw[if_pos (by simp[hx0])]
    exact k1 i _ s2 hi (by rw[ex];exact hx0)
  ·obtain⟨s1,h0,o1,o2,rfl⟩:=(hPv _ _ _).mp h'
   walk_at "rd"
   exact k2 _ s1 (by simpa using h0)
def Nd (K:PySem.W.Frag):Sp:=fun vs H Q _=>∃(p:Int) (d r:Addr) (t:Bool) (bs:List (Nat×List Int)) (row:List Int),vs=[.int p,.ref d,.ref r]/\0<p/\p<2 ^ 62/\BasD K H d bs/\SqB K H t r (row.map V.int)/\row.length<=900/\(∀x∈bs,x.2.length=row.length/\x.1<row.length)/\∀q H',FzAt d H H'->SqT K H' q ((Az p bs row).map V.int)->Q (.ref q) H'
theorem WO {f:Addr}{fd:FuncData}(F:Fun K "left_of" "left_of" Dx f fd)(T:Txt mg)
  (Z:Exs K mg C_AskError C_BadWord C_NoInverse)
  {D7:Addr} {FK:FuncData} (IT:FnOk P w K mg base CX0 1 D7 FK ["p","factor","row"] (Nb K)) (Ga:Fun K "scaled" "scaled" F7 D7 FK) (IU:Binds K FK ["p","factor","row"] []) (IV:mg "scaled"=some (.ref D7))
  {Jx:Addr} {Qs:FuncData} (U0:FnOk P w K mg base CX0 1 Jx Qs ["p","row","other"] (V5 K)) (Nf:Fun K "added" "added" Ju Jx Qs) (U1:Binds K Qs ["p","row","other"] []) (U2:mg "added"=some (.ref Jx))
  : FnOk P w K mg base CX0 2 f fd ["p","bases","row"] (Nd K):=by
 refine F.ok GC (fun vs H Q E h=>?_) (fun cdv A outer s H vs Q E hr h=>?_)
 ·obtain⟨p,d,r,t,bs,row,rfl,_⟩:=h;rfl
 ·obtain⟨p,d,r,t,bs,row,rfl,hp,hp62,hB,hrow,hz,hbs,k⟩:=h
  have hl:=An
  refine⟨_,(Ad (Aj (i:=3) GC.nd rfl (Or.inl rfl) (Ax Av rfl T.tuple PyProof.Rows.boot_tuple (Aa (CG rfl (Du rfl) (cp:=M0) ⟨⟨rfl,rfl⟩,True.intro⟩ (Yy (pv 2)) (fun _ _ _ _=>(Am (i:=0) N8 rfl (Or.inl rfl))) (fun _ _ _ _=>CH) (fun _ _ _ _=>(Aq Cg (pv 0) (pv 1)))) Ab)))
   (Ad (B7 PassesOwn.never rfl (YX (pv 1)) (VF rfl (DA (Am (i:=4) GC.nd rfl (Or.inl rfl)) (DA (Am (i:=5) GC.nd rfl (Or.inl rfl)) La)))
   (Ag (Dt (AJ N1 (Ar Al (pv 3) (pv 4) (fun _ _=>rfl)) Af (A3 _))
   (Ag (Aj (i:=3) GC.nd rfl (Or.inl rfl) (Ah U0 (hr.mono (by decide)) rfl U2 Nf.kp U1 .nil AD (Aa (pv 0) (Aa (pv 3) (Aa (Ah IT (hr.mono (by decide)) rfl IV Ga.kp IU .nil AD (Aa (pv 0) (Aa (Wt O2 (Ar Al (pv 3) (pv 4) (fun _ _=>rfl))) (Aa (pv 5) Ab)))) Ab))))))
   AY)))
   (Ag (Ap (pv 3))))),?_⟩
  walk_at "rd"
  obtain⟨g,hg⟩:∃g:V->V,∀n:Int,g (V.int n)=.int (n%p):=⟨fun x=>match x with | .int n=>.int (n%p)|_=>.non,fun _=>rfl⟩
  refine VZ (σ':=[some (.int p)]) g rfl hrow (by rw[List.length_map];omega) (fun x hx R hR=>?_) (fun D hD=>?_)
  ·obtain⟨n,hn,rfl⟩:=List.mem_map.mp hx
   rw[hg]at hR
   walk_at "rd"
   exact⟨hp,hR⟩
  ·have em:(row.map V.int).map g=(row.map fun x=>x%p).map V.int:=by
    rw[List.map_map,List.map_map]
    exact List.map_congr_left fun n _=>hg n
   rw[em]
   refine⟨D,rfl,_,.inl ⟨SqL.of Ac,fun q hq=>?_⟩⟩
   have s0:=(Same.new hD (o:=.lst ((row.map fun x=>x%p).map V.int))).newT hq (o:=.tup ((row.map fun x=>x%p).map V.int))
   obtain⟨kvs,b1,b2,b3⟩:=hB.mono s0
   refine⟨kvs,b1,fun o H2 hfr hF=>?_⟩
   have hF0:FzAt d H H2:=(FzAt.of s0).trans hF
   obtain⟨Pv,hPv⟩:∃Pv:Nat->St->Hp->Prop,∀i σ' H',Pv i σ' H'↔(Same H2 H'/\∃(l:Addr) (o1 o2:Option V),SqT K H' l (((bs.take i).foldl (GV p) (row.map fun x=>x%p)).map V.int)/\σ'=[some (.int p),some (.ref d),some (.ref r),some (.ref l),o1,o2]):=⟨_,fun _ _ _=>Iff.rfl⟩
   have hlen:∀i:Nat,((bs.take i).foldl (GV p) (row.map fun x=>x%p)).length=row.length/\∀y∈(bs.take i).foldl (GV p) (row.map fun x=>x%p),0<=y/\y<p:=fun i=>⟨by
    have key:∀(bs:List (Nat×List Int)) (l:List Int),(∀x∈bs,x.2.length=l.length)->(bs.foldl (GV p) l).length=l.length:=fun bs=>by
     induction bs with
     |nil=>exact fun l _=>rfl
     |cons x bs ih=>
      intro l h
      have e:(GV p l x).length=l.length:=(Qo rfl (h x (List.mem_cons_self ..)) 0).1
      rw[List.foldl_cons,ih _ (fun y hy=>by rw[e];exact h y (List.mem_cons_of_mem _ hy)),e]
    rw[key _ _ fun x hx=>by rw[List.length_map];exact (hbs x (List.mem_of_mem_take hx)).1,List.length_map],HW hp row (bs.take i)⟩
   refine Ew_ Pv ((hPv _ _ _).mpr ⟨Same.refl _,q,none,none,by rw[List.take_zero];exact hF.seqT (SqT.of Ac),rfl⟩) (fun i σ' H' _ h'=>((hPv _ _ _).mp h').1 _ _ hfr) (fun i key v tt σ' H' hkv h' htt=>?_) (fun σ' H' h'=>?_)
   ·obtain⟨s1,lf,o1,o2,hlf,rfl⟩:=(hPv _ _ _).mp h'
    have hib:i<bs.length:=by rw[<-b2];exact (List.getElem?_eq_some_iff.mp hkv).1
    have hbi:bs[i]?=some bs[i]:=by simp[hib]
    obtain⟨bt,hbt,hbase⟩:=b3 i _ hbi
    rw[hkv]at hbt
    cases hbt
    have hmem:bs[i]∈bs:=List.getElem_mem hib
    have hbl:=hbs _ hmem
    obtain⟨ll,lin⟩:=hlen i
    have etk:(bs.take (i+1)).foldl (GV p) (row.map fun x=>x%p)=GV p ((bs.take i).foldl (GV p) (row.map fun x=>x%p)) bs[i]:=by
     rw[List.take_succ_eq_append_getElem hib,List.foldl_append];rfl
    have hbase':SqT K H' bt (bs[i].2.map V.int):=s1.seqT (hF.seqT hbase)
    generalize (bs.take i).foldl (GV p) (row.map fun x=>x%p)=left at ll lin hlf etk
    generalize bs[i]=x at hbl hbase' etk hkv
    obtain⟨pl,xb⟩:=x
    have g:=getD_in hp lin pl
    have s2:=Same.new htt (o:=.tup [kV (Sum.inl (pl:Int)),.ref bt])
    have hpl:pl<left.length:=by rw[ll];exact hbl.2
    walk_at "rd"
    refine⟨_,SqT.of Ac,rfl,_,_,rfl,_,_,rfl,rfl,?_⟩
    refine⟨_,(pl:Int),rfl,s2.seqT hlf,_,MK hpl,rfl,?_⟩
    have hxl:xb.length=row.length:=hbl.1
    by_cases h0:left.getD pl 0=0
    ·rw[if_neg (by rw[h0];simp)]
     refine (hPv _ _ _).mpr ⟨s1.trans s2,lf,_,_,?_,rfl⟩
     rw[etk]
     unfold GV
     rw[if_pos h0];exact s2.seqT hlf
    ·rw[if_pos (by simp only[V.int.injEq,Bool.not_eq_eq_eq_not,Bool.not_true,decide_eq_false_iff_not];exact h0)]
     refine⟨_,(pl:Int),rfl,s2.seqT hlf,_,MK hpl,_,rfl,p,-left.getD pl 0,true,bt,xb,rfl,hp,⟨by omega,by omega⟩,s2.seqT hbase',by omega,fun q1 H4 s4 hq1=>⟨p,true,true,lf,q1,left,_,rfl,hp,(s2.trans s4).seqT hlf,SqT.of hq1,by rw[List.length_map];omega,by omega,fun q5 H5 s5 hq5=>(hPv _ _ _).mpr ⟨s1.trans (s2.trans (s4.trans s5)),q5,_,_,?_,rfl⟩⟩⟩
     rw[etk]
     unfold GV
     rw[if_neg h0];exact SqT.of hq5
   ·obtain⟨s1,lf,o1,o2,hlf,rfl⟩:=(hPv _ _ _).mp h'
    rw[b2,List.take_length]at hlf
    walk_at "rd"
    exact k lf _ (hF0.trans (FzAt.of s1)) hlf
theorem Bs.nodup {p:Int}{n:Nat}{bs:List (Nat×List Int)}(h:Bs p n bs):(bs.map (·.1)).Nodup:=by
 refine List.pairwise_map.mpr ((List.Pairwise.and_mem.mp h.off).imp fun {x y} g e=>?_)
 obtain⟨hx,hy,g1,_⟩:=g
 rw[<-e,h.own x hx]at g1
 exact absurd g1 (by decide)
def Cl_ (K:PySem.W.Frag):Sp:=fun vs H Q _=>∃(p:Int) (d l:Addr) (q:Nat) (bs:List (Nat×List Int)) (left:List Int),vs=[.int p,.ref d,.ref l,.int q]/\Pr p/\BasD K H d bs/\SqT K H l (left.map V.int)/\q<left.length/\left.length<=900/\0<left.getD q 0/\left.getD q 0<p/\bs.length<=900/\(∀x∈bs,x.2.length=left.length/\x.1<left.length)/\(bs.map (·.1)).Nodup/\q∉bs.map (·.1)/\∀m inv H',FzAt d H H'->0<=inv->inv<p->inv*left.getD q 0%p=1->BasD K H' m (Tg p inv bs left q)->H m=none->Q (.ref m) H'
def PutD (K:PySem.W.Frag)(H:Hp)(d:Addr)(bs:List (Nat×List Int)):Prop:=Ents K H d (bs.map fun x=>((x.1:Int),x.2))
theorem PutD.bas {K:PySem.W.Frag}{H:Hp}{d:Addr}{bs:List (Nat×List Int)}(h:PutD K H d bs):BasD K H d bs:=by
 obtain⟨kvs,h1,h2,h3⟩:=h
 refine⟨kvs,.inl h1,by rw[h2,List.length_map],fun i x hx=>?_⟩
 exact h3 i ((x.1:Int),x.2) (by rw[List.getElem?_map,hx];rfl)
theorem PutD.fz {K:PySem.W.Frag}{H H':Hp}{d e:Addr}{bs:List (Nat×List Int)}(h:PutD K H d bs)(s:FzAt e H H')(hne:d≠e):PutD K H' d bs:=by
 obtain⟨kvs,h1,h2,h3⟩:=h
 refine⟨kvs,s.1 _ _ hne h1,h2,fun i x hx=>?_⟩
 obtain⟨t,a,b⟩:=h3 i x hx
 exact⟨t,a,s.seqT b⟩
theorem PutD.put {K:PySem.W.Frag}{H:Hp}{d t:Addr}{bs:List (Nat×List Int)}{q:Nat}{v:List Int}(h:PutD K H d bs)(hq:q∉bs.map (·.1))(hz:bs.length<1000)(ht:SqT K H t (v.map V.int)):∃H',DPut H d (.int q) (.ref t) H'/\(∃kvs kvs',H d=some (.dK kvs)/\H'=upd H d (.dK kvs'))/\PutD K H' d (bs++[(q,v)]):=by
 have:=Ents.put (g:=(q:Int)) (w:=v) h (fun hm=>hq (by
  rw[List.map_map]at hm
  obtain⟨x,hx,e⟩:=List.mem_map.mp hm
  exact List.mem_map.mpr ⟨x,hx,by have:((x.1:Int))=(q:Int):=e;omega⟩)) (by rw[List.length_map];exact hz) ht
 obtain⟨H',a,b,c⟩:=this
 exact⟨H',a,b,by unfold PutD;rw[List.map_append];exact c⟩
theorem PutD.nil {K:PySem.W.Frag}{H:Hp}{d:Addr}(h:H d=some (.dK [])):PutD K H d []:=⟨[],h,rfl,fun i x hx=>by simp at hx⟩
theorem BasD.get {K:PySem.W.Frag}{H:Hp}{d:Addr}{bs:List (Nat×List Int)}(h:BasD K H d bs)(nod:(bs.map (·.1)).Nodup){x:Nat×List Int}(hx:x∈bs):∃t,DGet H d (.int x.1) (some (.ref t))/\SqT K H t (x.2.map V.int):=by
 obtain⟨kvs,h1,h2,h3⟩:=h
 obtain⟨i,hi,ei⟩:=List.getElem_of_mem hx
 have ei':bs[i]?=some x:=by rw[List.getElem?_eq_getElem hi,ei]
 obtain⟨t,a,b⟩:=h3 i _ ei'
 refine⟨t,?_,b⟩
 have hf:valV kvs (Sum.inl (x.1:Int):Key)=some (.ref t):=by
  unfold valV
  cases hq:kvs.find? (fun kv=>decide (kv.1=(Sum.inl (x.1:Int):Key))) with
  |none=>
   rw[List.find?_eq_none]at hq
   have:=hq _ (List.mem_of_getElem? a)
   simp at this
  |some kv=>
   have hk:=List.find?_some hq
   simp only[decide_eq_true_eq]at hk
   obtain⟨j,hj,ej⟩:=List.getElem_of_mem (List.mem_of_find?_eq_some hq)
   have hj':j<bs.length:=by omega
   obtain⟨t',a',b'⟩:=h3 j bs[j] (by simp[hj'])
   have e2:kvs[j]?=some kv:=by rw[List.getElem?_eq_getElem hj,ej]
   rw[e2]at a'
   have a2:kv=(Sum.inl (bs[j].1:Int),V.ref t'):=Option.some.inj a'
   rw[a2]at hk
   have hk':bs[j].1=x.1:=by injection hk with hk;omega
   have ij:i=j:=by
    refine (List.getElem_inj (h₀:=by simpa using hi) (h₁:=by simpa using hj') nod).mp ?_
    simp[ei,hk']
   subst ij
   rw[e2]at a
   have a3:kv=(Sum.inl (x.1:Int),V.ref t):=Option.some.inj a
   rw[a3];rfl
 exact .inl ⟨kvs,Sum.inl (x.1:Int),h1,rfl,hf.symm⟩
theorem SqT.offm {K:PySem.W.Frag}{H H':Hp}{m t:Addr}{xs:List V}{kv:List (Key×V)}(h:SqT K H t xs)(hm:H m=some (.dK kv))(s:∀a u,a≠m->H a=some u->H' a=some u):SqT K H' t xs:=by
 rcases h with (q|⟨o,q⟩)|q
 ·exact .inl (.inl (s _ _ (fun z=>by rw[z,hm]at q;cases q) q))
 ·exact .inl (.inr ⟨o,s _ _ (fun z=>by rw[z,hm]at q;cases q) q⟩)
 ·exact .inr q
theorem BasD.offm {K:PySem.W.Frag}{H H':Hp}{m d:Addr}{bs:List (Nat×List Int)}{kv:List (Key×V)}(h:BasD K H d bs)(hm:H m=some (.dK kv))(hd:d≠m)(s:∀a u,a≠m->H a=some u->H' a=some u):BasD K H' d bs:=by
 obtain⟨kvs,h1,h2,h3⟩:=h
 refine⟨kvs,?_,h2,fun i x hx=>?_⟩
 ·rcases h1 with h1|⟨o,h1⟩
  ·exact .inl (s _ _ hd h1)
  ·exact .inr ⟨o,s _ _ hd h1⟩
 ·obtain⟨t,a,b⟩:=h3 i x hx
  exact⟨t,a,SqT.offm b hm s⟩
theorem Tj {f:Addr}{fd:FuncData}(F:Fun K "with_base" "with_base" CI f fd)(T:Txt mg)
  (Z:Exs K mg C_AskError C_BadWord C_NoInverse)
  {FL:Addr} {Lp:FuncData} (Ng:FnOk P w K mg base (CXe P w) 1 FL Lp ["p","number"] (Pb C_NoInverse)) (HY:Fun K "inverse" "inverse" FE FL Lp) (Nh:Binds K Lp ["p","number"] []) (Ni:mg "inverse"=some (.ref FL))
  {D7:Addr} {FK:FuncData} (IT:FnOk P w K mg base CX0 1 D7 FK ["p","factor","row"] (Nb K)) (Ga:Fun K "scaled" "scaled" F7 D7 FK) (IU:Binds K FK ["p","factor","row"] []) (IV:mg "scaled"=some (.ref D7))
  {A6:Addr} {Bg:FuncData} (Cw:FnOk P w K mg base CX0 2 A6 Bg ["p","bases","row"] (Nd K)) (BR:Fun K "left_of" "left_of" Dx A6 Bg) (Cy:Binds K Bg ["p","bases","row"] []) (Cz:mg "left_of"=some (.ref A6))
  : FnOk P w K mg base CX0 3 f fd ["p","bases","left","place"] (Cl_ K):=by
 refine F.ok F8 (fun vs H Q E h=>?_) (fun cdv A outer s H vs Q E hr h=>?_)
 ·obtain⟨p,d,l,q,bs,left,rfl,_⟩:=h;rfl
 ·obtain⟨p,d,l,q,bs,left,rfl,hp,hB,hL,hq,hz,h0,h1,hbz,hbs,nod,hqn,k⟩:=h
  have hl:=An
  have hp1:=hp.1
  have hp2:=hp.2.1
  have em:left.getD q 0%p=left.getD q 0:=Int.emod_eq_of_lt (by omega) h1
  refine⟨_,(Ad (Aj (i:=4) F8.nd rfl (Or.inl rfl) (Ah IT (hr.mono (by decide)) rfl IV Ga.kp IU .nil AD (Aa (pv 0) (Aa (Ah Ng (hr.mono (by decide)) rfl Ni HY.kp Nh .nil (Yv (P:=P) (w:=w)) (Aa (pv 0) (Aa (Ar Al (pv 2) (pv 3) (fun _ _=>rfl)) Ab))) (Aa (pv 2) Ab)))))
   (Ad (Aj (i:=5) F8.nd rfl (Or.inl rfl) P0)
   (Ad (B7 PassesOwn.never rfl (Ac_ (pv 1)) (Am (i:=6) F8.nd rfl (Or.inl rfl))
   (Ag (UK (ZK hr) (pv 5) (pv 6) (Ah Cw (hr.mono (by decide)) rfl Cz BR.kp Cy .nil AD (Aa (pv 0) (Aa (Z0 (pv 3) (pv 4)) (Aa (BP_ (ZK hr) (pv 1) (pv 6) (fun _ _=>rfl)) Ab)))) rfl)))
   (Ad (UK (ZK hr) (pv 5) (pv 3) (pv 4) rfl)
   (Ag (Ap (pv 5))))))),?_⟩
  walk_at "rd"
  refine⟨_,hL,_,MK hq,p,_,rfl,hp1,hp2,fun z=>by rw[em]at z;omega,fun _=>⟨by rw[em];exact hp.gcd h0 h1,fun inv i0 i1 hinv=>?_⟩⟩
  walk_at "rd"
  refine⟨p,inv,true,l,left,rfl,by omega,⟨by omega,by omega⟩,hL,hz,fun b H1 s1 hb=>?_⟩
  walk_at "rd"
  intro m hm
  obtain⟨base,hbase⟩:∃base:List Int,base=left.map fun y=>inv*y%p:=⟨_,rfl⟩
  rw[<-hbase]at hb
  have hm0:H m=none:=by
   cases e:H m with
   |none=>rfl
   |some u=>rw[s1 _ _ e]at hm;cases hm
  have s2:=s1.trans (Same.new hm (o:=.dK []))
  obtain⟨kvs,b1,b2,b3⟩:=hB.mono s2
  refine⟨kvs,b1,fun o H3 hfr hF=>?_⟩
  have hdm:d≠m:=fun z=>by
   subst z
   obtain⟨kvs0,c1,_⟩:=hB
   rcases c1 with c1|⟨o',c1⟩
   ·rw[hm0]at c1;cases c1
   ·rw[hm0]at c1;cases c1
  have hb3:H3 b=some (.tup (base.map V.int)):=by
   have:upd H1 m (.dK []) b=some (.tup (base.map V.int)):=(Same.new hm) _ _ hb
   exact (hF.1 b _ (fun z=>by
    subst z
    rcases b1 with c1|⟨o',c1⟩
    ·rw[this]at c1;cases c1
    ·rw[this]at c1;cases c1) this)
  have hm3:H3 m=some (.dK []):=hF.1 m _ (Ne.symm hdm) Ac
  have hB3:BasD K H3 d bs:=BasD.fz ⟨kvs,b1,b2,b3⟩ hF
  have hqn':q<left.length:=hq
  obtain⟨Pv,hPv⟩:∃Pv:Nat->St->Hp->Prop,∀i σ' H',Pv i σ' H'↔((∀a u,a≠m->H3 a=some u->H' a=some u)/\PutD K H' m ((bs.take i).map fun x=>(x.1,Az p [(q,base)] x.2))/\∃o1,σ'=[some (.int p),some (.ref d),some (.ref l),some (.int q),some (.ref b),some (.ref m),o1]):=⟨_,fun _ _ _=>Iff.rfl⟩
  have hbaseLen:base.length=left.length:=by rw[hbase,List.length_map]
  refine Ev_ Pv ((hPv _ _ _).mpr ⟨fun a u _ h=>h,PutD.nil hm3,none,rfl⟩) (fun i σ' H' _ h'=>((hPv _ _ _).mp h').1 d _ hdm hfr) (fun i key v σ' H' hkv h'=>?_) (fun σ' H' h'=>?_)
  ·obtain⟨s3,hP,o1,rfl⟩:=(hPv _ _ _).mp h'
   have hib:i<bs.length:=by rw[<-b2];exact (List.getElem?_eq_some_iff.mp hkv).1
   have hbi:bs[i]?=some bs[i]:=by simp[hib]
   obtain⟨t,ht,_⟩:=b3 i _ hbi
   rw[hkv]at ht
   cases ht
   have hmem:bs[i]∈bs:=List.getElem_mem hib
   have etk:bs.take (i+1)=bs.take i++[bs[i]]:=List.take_succ_eq_append_getElem hib
   have hnk:bs[i].1∉(bs.take i).map (·.1):=fun hm=>by
    rw[List.map_take]at hm
    obtain⟨j,hj1,hj2⟩:=List.mem_take_iff_getElem.mp hm
    have:(bs.map (·.1))[j]'(by omega)=(bs.map (·.1))[i]'(by rw[List.length_map];exact hib):=by rw[hj2];simp
    have:=(List.getElem_inj nod).mp this
    omega
   have hbl:=hbs _ hmem
   generalize bs[i]=x at hmem etk hnk hbl hkv
   obtain⟨pl,xb⟩:=x
   walk_at "rd"
   intro e he
   have sE:=Same.new he (o:=.dK (LP [] [((Sum.inl (q:Int):Key),V.ref b)]))
   have hB':=(hB3.offm hm3 hdm s3).mono sE
   have hb':=sE.seqT (SqT.offm (SqT.of (K:=K) hb3) hm3 s3)
   refine⟨Ac,[((Sum.inl (q:Int):Key),V.ref b)],rfl,Nat.le_of_ble_eq_true rfl,?_⟩
   rw[BG_]
   obtain⟨t',hget,hrow⟩:=hB'.get nod hmem
   have hne:m≠e:=fun z=>by
    subst z
    obtain⟨kk,h1,_⟩:=hP
    rw[he]at h1;cases h1
   have hxl:xb.length=left.length:=hbl.1
   refine⟨_,hget,p,e,t',true,[(q,base)],xb,rfl,by omega,by omega,⟨_,.inl Ac,rfl,fun j x hx=>?_⟩,hrow,by omega,fun x hx=>?_,fun q1 H4 hF4 hq1=>?_⟩
   ·have hj:j=0:=by
     have:=(List.getElem?_eq_some_iff.mp hx).1
     simp at this;omega
    subst hj
    cases hx
    exact⟨b,rfl,hb'⟩
   ·rw[List.mem_singleton.mp hx];exact⟨hbaseLen.trans hxl.symm,by omega⟩
   ·have hP4:PutD K H4 m ((bs.take i).map fun x=>(x.1,Az p [(q,base)] x.2)):=(hP.fz (FzAt.of sE) hne).fz hF4 hne
    obtain⟨H5,g1,⟨kv1,kv2,g2,rfl⟩,g3⟩:=hP4.put (q:=pl) (v:=Az p [(q,base)] xb) (t:=q1) (by rw[List.map_map];exact hnk) (by rw[List.length_map,List.length_take];omega) hq1
    refine⟨_,g1,(hPv _ _ _).mpr ⟨fun a u ha h=>?_,by rw[etk,List.map_append];exact g3,_,rfl⟩⟩
    rw[Aw ha]
    exact hF4.1 a u (fun z=>by have:=s3 a u ha h;rw[z,he]at this;cases this) (sE _ _ (s3 a u ha h))
  ·obtain⟨s3,hP,o1,rfl⟩:=(hPv _ _ _).mp h'
   rw[b2,List.take_length]at hP
   walk_at "rd"
   obtain⟨H5,g1,⟨kv1,kv2,g2,rfl⟩,g3⟩:=hP.put (q:=q) (v:=base) (t:=b) (by rw[List.map_map];exact hqn) (by rw[List.length_map];omega) (SqT.offm (SqT.of (K:=K) hb3) hm3 s3)
   refine⟨_,g1,k m inv _ ⟨fun a u ha h=>?_,fun u h=>?_⟩ i0 i1 hinv (by
    have ew:Tg p inv bs left q=(bs.map fun x=>(x.1,Az p [(q,base)] x.2))++[(q,base)]:=by rw[hbase];rfl
    rw[ew];exact g3.bas) hm0⟩
   ·have ham:a≠m:=fun z=>by rw[z,hm0]at h;cases h
    rw[Aw ham]
    exact s3 a u ham (hF.1 a u ha (s2 _ _ h))
   ·rw[Aw hdm]
    rcases hF.2 u (s2 _ _ h) with h' | ⟨kvs,o,e,h'⟩
    ·exact .inl (s3 _ _ hdm h')
    ·exact .inr ⟨kvs,o,e,s3 _ _ hdm h'⟩
def natV (ks:List Nat):List V:=ks.map fun (k:Nat)=>V.int (k:Int)
def Bz_ (K:PySem.W.Frag):Sp:=fun vs H Q _=>∃(p:Int) (t:Bool) (a:Addr) (m n:Nat) (xs:List V) (rows:List (List Int)),vs=[.int p,.ref a,.int m]/\Pr p/\SqB K H t a xs/\A2 K H xs rows/\(∀r∈rows,r.length=n)/\m<=n/\n<=900/\rows.length<=900/\∀q l d bs H',Same H H'->SqT K H' q [.ref l,.ref d]->H' l=some (.lst (natV (HX p m rows)))->BasD K H' d bs->Seen p n m rows bs->H d=none->H l=none->Q (.ref q) H'
theorem BasD.offl {K:PySem.W.Frag}{H:Hp}{p d:Addr}{bs:List (Nat×List Int)}{zs ys:List V}(h:BasD K H d bs)(hp:H p=some (.lst zs)):BasD K (upd H p (.lst ys)) d bs:=by
 obtain⟨kvs,h1,h2,h3⟩:=h
 refine⟨kvs,?_,h2,fun i x hx=>?_⟩
 ·rcases h1 with h1|⟨o,h1⟩
  ·exact .inl (by rw[Aw (fun z=>by rw[z,hp]at h1;cases h1)];exact h1)
  ·exact .inr ⟨o,by rw[Aw (fun z=>by rw[z,hp]at h1;cases h1)];exact h1⟩
 ·obtain⟨t,a,b⟩:=h3 i x hx
  exact⟨t,a,Ay hp b⟩
theorem Same.gone {H H':Hp}{a:Addr}(s:Same H H')(h:H' a=none):H a=none:=by
 cases e:H a with
 |none=>rfl
 |some u=>rw[s _ _ e]at h;cases h
theorem Tn (p inv:Int)(bs:List (Nat×List Int))(left:List Int)(q:Nat):(Tg p inv bs left q).length=bs.length+1:=by unfold Tg;simp
theorem Jy {f:Addr}{fd:FuncData}(F:Fun K "chosen_and_bases" "chosen_and_bases" A4 f fd)(T:Txt mg)
  (Z:Exs K mg C_AskError C_BadWord C_NoInverse)
  {Au:Addr} {AA:FuncData} (AV:FnOk P w K mg base CX0 1 Au AA ["row"] (V6 K)) (AH:Fun K "place_of_first" "place_of_first" AU Au AA) (AW:Binds K AA ["row"] []) (AX:mg "place_of_first"=some (.ref Au))
  {A6:Addr} {Bg:FuncData} (Cw:FnOk P w K mg base CX0 2 A6 Bg ["p","bases","row"] (Nd K)) (BR:Fun K "left_of" "left_of" Dx A6 Bg) (Cy:Binds K Bg ["p","bases","row"] []) (Cz:mg "left_of"=some (.ref A6))
  {BF:Addr} {CZ:FuncData} (Ew:FnOk P w K mg base CX0 3 BF CZ ["p","bases","left","place"] (Cl_ K)) (C0:Fun K "with_base" "with_base" CI BF CZ) (Ex:Binds K CZ ["p","bases","left","place"] []) (Ey:mg "with_base"=some (.ref BF))
  : FnOk P w K mg base CX0 4 f fd ["p","rows","size"] (Bz_ K):=by
 refine F.ok AK (fun vs H Q E h=>?_) (fun cdv A outer s H vs Q E hr h=>?_)
 ·obtain⟨p,t,a,m,n,xs,rows,rfl,_⟩:=h;rfl
 ·obtain⟨p,t,a,m,n,xs,rows,rfl,hp,ha,hR,hrn,hmn,hn,hz,k⟩:=h
  have hl:=An
  have hp1:=hp.1
  have hp2:=hp.2.1
  refine⟨_,(Ad (Aj (i:=3) AK.nd rfl (Or.inl rfl) (Fm Ab))
   (Ad (Aj (i:=4) AK.nd rfl (Or.inl rfl) P0)
   (Ad (B7 PassesOwn.never rfl (DQ_ (VW rfl T.enumerate (pv 1)) (P9 rfl T.enumerate (pv 1))) (VF rfl (DA (Am (i:=5) AK.nd rfl (Or.inl rfl)) (DA (Am (i:=6) AK.nd rfl (Or.inl rfl)) La)))
   (Ad (Aj (i:=7) AK.nd rfl (Or.inl rfl) (Ah Cw (hr.mono (by decide)) rfl Cz BR.kp Cy .nil AD (Aa (pv 0) (Aa (pv 4) (Aa (pv 6) Ab)))))
   (Ad (Aj (i:=8) AK.nd rfl (Or.inl rfl) (Ah AV (hr.mono (by decide)) rfl AX AH.kp AW .nil AD (Aa (GN Jt (pv 7) Jp (Jq (pv 2))) Ab)))
   (Ag (Dt (AJ X0 (pv 8) SK (A3 _))
   (Ad (DB (J4 PySem.F.plainAttrs_list PySem.F.slot_list_append PySem.F.type_list_append B9 (pv 3) (Aa (pv 5) Ab)))
   (Ag (Aj (i:=4) AK.nd rfl (Or.inl rfl) (Ah Ew (hr.mono (by decide)) rfl Ey C0.kp Ex .nil AD (Aa (pv 0) (Aa (pv 4) (Aa (pv 7) (Aa (pv 8) Ab))))))))
   AY)))))
   (Ag (Ap (Bz (Aa (pv 3) (Aa (pv 4) Ab)))))))),?_⟩
  walk_at "rd"
  refine⟨Nat.zero_le _,fun l hl0 d0 hd0=>?_⟩
  have s0:=(Same.new hl0 (o:=.lst [])).newT hd0 (o:=.dK [])
  have hd00:H d0=none:=by
   cases e:H d0 with
   |none=>rfl
   |some u=>rw[(Same.new hl0 (o:=.lst [])) _ _ e]at hd0;cases hd0
  have hne:l≠d0:=fun z=>by subst z;rw[Ac]at hd0;cases hd0
  obtain⟨Pv,hPv⟩:∃Pv:Nat->St->Hp->Prop,∀i σ' H',Pv i σ' H'↔(Same H H'/\H' l=some (.lst (natV (HX p m (rows.take i))))/\∃(d:Addr) (bs:List (Nat×List Int)) (o1 o2 o3 o4:Option V),H d=none/\BasD K H' d bs/\Seen p n m (rows.take i) bs/\bs.length<=i/\σ'=[some (.int p),some (.ref a),some (.int m),some (.ref l),some (.ref d),o1,o2,o3,o4]):=⟨_,fun _ _ _=>Iff.rfl⟩
  refine forE (ha.mono s0) Pv ((hPv _ _ _).mpr ⟨s0,by rw[Aw hne,Ac];rfl,d0,[],none,none,none,none,hd00,PutD.bas (PutD.nil Ac),⟨⟨by simp,by simp,.nil⟩,by simp,by simp,by simp⟩,Nat.le_refl _,rfl⟩) (fun i σ' H' _ h'=>ha.mono ((hPv _ _ _).mp h').1) (fun i v σ' H' q hv h' hq=>?_) (fun σ' H' h'=>?_)
  ·obtain⟨s1,hl1,d,bs,o1,o2,o3,o4,hd,hB,hS,hbz,rfl⟩:=(hPv _ _ _).mp h'
   have hi:i<rows.length:=by rw[<-hR.1];exact (List.getElem?_eq_some_iff.mp hv).1
   have hri:rows[i]?=some rows[i]:=by simp[hi]
   obtain⟨tr,ht,hrow⟩:=hR.2 i _ hri
   rw[hv]at ht
   cases ht
   have hrl:=hrn _ (List.getElem_mem hi)
   have etk:rows.take (i+1)=rows.take i++[rows[i]]:=(List.take_succ_eq_append_getElem hi)
   generalize rows[i]=row at hrow hrl etk
   walk_at "rd"
   have s2:=Same.new hq (o:=.tup [.int i,.ref tr])
   refine⟨_,SqT.of Ac,rfl,_,_,rfl,_,_,rfl,rfl,p,d,tr,true,bs,row,rfl,by omega,by omega,hB.mono s2,s2.seqT (s1.seqT hrow),by omega,fun x hx=>by rw[hrl];exact⟨(hS.b.len x hx).1,(hS.b.len x hx).2.1⟩,fun q1 H3 hF3 hq1=>⟨q1,rfl,_,hq1,fun p1 H4 s4 hp1'=>?_⟩⟩
   rw[O8,<-List.map_take]at hp1'
   have hiff:=hS.iff (by omega) hmn hrl
   have hll:=(D5 row hrl bs hS.b).1
   have hlin:=HW (p:=p) (by omega) row bs
   have hown:=Qp (p:=p) (by omega) hrl hS.b
   have hmore:=fun (inv:Int) (qq:Nat) (h1:qq<m) (h2:inv*(Az p bs row).getD qq 0%p=1)=>hS.more (inv:=inv) hp1 hmn hrl h1 h2
   have hsame:=hS.same hrl
   generalize Az p bs row=left at hq1 hp1' hiff hll hlin hown hmore hsame
   have htk:∀qq:Nat,qq<m->(left.take m).getD qq 0=left.getD qq 0:=fun qq hqq=>by
    rw[List.getD_eq_getElem?_getD,List.getElem?_take,if_pos hqq,<-List.getD_eq_getElem?_getD]
   have hlt:(left.take m).length=m:=by rw[List.length_take];omega
   have hl3:=hF3.lst (s2 _ _ hl1)
   have hti:(rows.take i).length=i:=by rw[List.length_take];omega
   have hcl:(HX p m (rows.take i)).length<=i:=by
    unfold HX
    refine Nat.le_trans (List.length_filter_le _ _) ?_
    rw[List.length_range,hti];exact Nat.le_refl _
   refine⟨p1,left.take m,rfl,hp1',by omega,fun qn H5 s5 hqn hq0=>?_,fun H5 s5 hall=>?_⟩
   ·rw[hlt]at hqn
    rw[htk qn hqn]at hq0
    rw[if_pos (by simp)]
    have hl5:=s5 _ _ (s4 _ _ hl3)
    have g:=getD_in (show 0<p by omega) hlin qn
    have hsp:¬ Span p m (rows.take i) fun j=>row.getD j 0:=fun z=>hq0 (hiff.mpr z qn hqn)
    have hB5:=((hB.mono s2).fz hF3).mono (s4.trans s5)
    have hS5:Same H H5:=(hF3.same (s1.trans s2) hd).trans (s4.trans s5)
    have hne:d≠l:=fun z=>by
     obtain⟨kk,c1,_⟩:=hB
     rcases c1 with c1|⟨o,c1⟩
     ·rw[z,hl1]at c1;cases c1
     ·rw[z,hl1]at c1;cases c1
    refine⟨.inl ⟨rfl,_,SqL.of hl5⟩,_,hl5,by unfold natV;rw[List.length_map];omega,p,d,q1,qn,bs,left,rfl,hp,hB5.offl hl5,Ay hl5 ((s4.trans s5).seqT hq1),by omega,by omega,by omega,g.2,by omega,fun x hx=>by rw[hll];exact⟨(hS.b.len x hx).1,(hS.b.len x hx).2.1⟩,hS.b.nodup,fun hm=>?_,fun m' inv H7 hF7 i0 i1 hinv hB7 hm7=>?_⟩
    ·obtain⟨x,hx,e⟩:=List.mem_map.mp hm
     exact hq0 (by rw[<-e];exact hown x hx)
    ·have hS6:Same H (upd H5 l (.lst (natV (HX p m (rows.take i))++[V.int i]))):=hS5.over hl0
     refine (hPv _ _ _).mpr ⟨hF7.same hS6 hd,?_,m',_,_,_,_,_,Mine.Same.gone hS6 hm7,hB7,by rw[etk];exact hmore inv qn hqn hinv,by rw[Tn];omega,rfl⟩
     rw[hF7.lst Ac,etk,Na,if_neg hsp,hti]
     unfold natV
     rw[List.map_append];rfl
   ·show if (!decide (V.non=V.non))=true then _ else _
    rw[if_neg (by simp)]
    have hz0:∀j:Nat,j<m->left.getD j 0=0:=fun j hj=>by rw[<-htk j hj];exact hall j (by omega)
    have hsp:=hiff.mp hz0
    refine (hPv _ _ _).mpr ⟨(hF3.same (s1.trans s2) hd).trans (s4.trans s5),?_,d,bs,_,_,_,_,hd,((hB.mono s2).fz hF3).mono (s4.trans s5),by rw[etk];exact hsame hz0,by omega,rfl⟩
    rw[s5 _ _ (s4 _ _ hl3),etk,Na,if_pos hsp,List.append_nil]
  ·obtain⟨s1,hl1,d,bs,o1,o2,o3,o4,hd,hB,hS,hbz,rfl⟩:=(hPv _ _ _).mp h'
   rw[hR.1,List.take_length]at hl1 hS
   walk_at "rd"
   refine⟨by omega,fun q hq=>?_⟩
   have s2:=Same.new hq (o:=.tup [.ref l,.ref d])
   exact k q l d bs _ (s1.trans s2) (SqT.of Ac) (s2 _ _ hl1) (hB.mono s2) hS hd hl0
def U3 (K:PySem.W.Frag):Sp:=fun vs H Q _=>∃(n:Nat) (k:Nat),vs=[.int n,.int k]/\n<=900/\∀q H',Same H H'->SqT K H' q ((D1 n k).map V.int)->Q (.ref q) H'
theorem Cm_ {f:Addr}{fd:FuncData}(F:Fun K "unit" "unit" LS f fd)(T:Txt mg)
  (Z:Exs K mg C_AskError C_BadWord C_NoInverse)
  : FnOk P w K mg base CX0 1 f fd ["size","place"] (U3 K):=by
 refine F.ok Ch_ (fun vs H Q E h=>?_) (fun cdv A outer s H vs Q E hr h=>?_)
 ·obtain⟨n,k,rfl,_⟩:=h;rfl
 ·obtain⟨n,c,rfl,hn,k⟩:=h
  have hl:=An
  refine⟨_,(Ag (Ap (Ax Av rfl T.tuple PyProof.Rows.boot_tuple (Aa (CG rfl (Du rfl) (cp:=V3) ⟨⟨rfl,rfl⟩,True.intro⟩ (AQ rfl T.range (Aa (pv 0) Ab)) (fun _ _ _ _=>(Am (i:=0) UW rfl (Or.inl rfl))) (fun _ _ _ _=>CH) (fun _ _ _ _=>(VE (AJ UH (pv 0) (pv 1) (A3 _)) Af Af))) Ab)))),?_⟩
  walk_at "rd"
  refine⟨by omega,by omega,?_⟩
  rw[Int.toNat_natCast]
  refine N5 (fun j zs σ4 H4=>H4=H/\zs=(((List.range j).map fun i=>if i=c then (1:Int) else 0)).map V.int/\∃o,σ4=[o,some (.int c)]) ⟨rfl,rfl,none,rfl⟩ (by omega) (fun j zs σ4 H4 _ h4=>?_) (fun j zs σ4 H4 hj h4=>?_) (fun zs σ4 H4 h4 D hD=>?_)
  ·rw[h4.2.1,List.length_map,List.length_map,List.length_range];exact Nat.le_refl _
  ·obtain⟨rfl,rfl,o,rfl⟩:=h4
   rw[Int.zero_add]
   walk_at "rd"
   rw[List.range_succ,List.map_append,List.map_append]
   by_cases hjc:j=c
   ·rw[if_pos (by rw[hjc])]
    exact⟨by rw[List.map_singleton,if_pos hjc];rfl,_,rfl⟩
   ·rw[if_neg (by omega)]
    exact⟨by rw[List.map_singleton,if_neg hjc];rfl,_,rfl⟩
  ·obtain⟨rfl,rfl,o,rfl⟩:=h4
   exact⟨D,rfl,_,.inl ⟨SqL.of Ac,fun q hq=>k q _ ((Same.new hD).newT hq) (SqT.of Ac)⟩⟩
theorem WQ (d:Nat)(v:V):(List.replicate d [v]).flatten=List.replicate d v:=by
 induction d with
 |zero=>rfl
 |succ d ih=>rw[List.replicate_succ,List.flatten_cons,ih,List.replicate_succ];rfl
def ToldF (H:Hp)(p:Int)(m:Nat)(rows:List (List Int))(bs:List (Nat×List Int))(zs:List V)(somes:List (List Int)):Prop:=zs.length=somes.length/\∀(i:Nat) (r:List Int),somes[i]?=some r->(Span p m rows (fun j=>r.getD j 0)/\∃c,zs[i]?=some (.ref c)/\H c=some (.lst ((((Az p bs (r++List.replicate rows.length 0)).drop m).map fun y => -y%p).map V.int)))\/(¬ Span p m rows (fun j=>r.getD j 0)/\zs[i]?=some .non)
def DY_ (K:PySem.W.Frag):Sp:=fun vs H Q _=>∃(p:Int) (t:Bool) (a b:Addr) (m:Nat) (xs ys:List V) (rows somes:List (List Int)),vs=[.int p,.ref a,.ref b,.int m]/\Pr p/\SqB K H t a xs/\A2 K H xs rows/\(∀r∈rows,r.length=m)/\SqL K H b ys/\A2 K H ys somes/\(∀r∈somes,r.length=m)/\m<=400/\rows.length<=400/\somes.length<=900/\∀l zs bs H',Same H H'->H l=none->H' l=some (.lst zs)->Seen p (m+rows.length) m (Bt rows) bs->ToldF H' p m rows bs zs somes->Q (.ref l) H'
theorem ToldF.keep {H H':Hp}{p:Int}{m:Nat}{rows somes:List (List Int)}{bs:List (Nat×List Int)}{zs:List V}(h:ToldF H p m rows bs zs somes)(k:∀c ys,(∃j:Nat,zs[j]?=some (V.ref c))->H c=some (.lst ys)->H' c=some (.lst ys)):ToldF H' p m rows bs zs somes:=by
 refine⟨h.1,fun i r hi=>?_⟩
 rcases h.2 i r hi with ⟨a,c,e1,e2⟩|h'
 ·exact .inl ⟨a,c,e1,k c _ ⟨i,e1⟩ e2⟩
 ·exact .inr h'
theorem ToldF.snoc {H:Hp}{p:Int}{m:Nat}{rows somes:List (List Int)}{bs:List (Nat×List Int)}{zs:List V}{r:List Int}{z:V}(h:ToldF H p m rows bs zs somes)(g:(Span p m rows (fun j=>r.getD j 0)/\∃c,z=.ref c/\H c=some (.lst ((((Az p bs (r++List.replicate rows.length 0)).drop m).map fun y => -y%p).map V.int)))\/(¬ Span p m rows (fun j=>r.getD j 0)/\z=.non)):ToldF H p m rows bs (zs++[z]) (somes++[r]):=by
 refine⟨by simp[h.1],fun i v hi=>?_⟩
 by_cases hl:i<somes.length
 ·rw[List.getElem?_append_left hl]at hi
  rw[List.getElem?_append_left (by rw[h.1];exact hl)]
  exact h.2 i v hi
 ·have:=(List.getElem?_eq_some_iff.mp hi).1
  rw[List.length_append,List.length_singleton]at this
  have e:i=somes.length:=by omega
  subst e
  rw[List.getElem?_append_right (Nat.le_refl _),Nat.sub_self]at hi
  simp at hi
  subst hi
  have ez:(zs++[z])[somes.length]?=some z:=by rw[<-h.1];simp
  rw[ez]
  rcases g with ⟨a,c,e1,e2⟩|⟨a,e1⟩
  ·exact .inl ⟨a,c,by rw[e1],e2⟩
  ·exact .inr ⟨a,by rw[e1]⟩
theorem V7 {zs:List V}{z v:V}{j:Nat}(h:(zs++[z])[j]?=some v):zs[j]?=some v\/z=v:=by
 by_cases hl:j<zs.length
 ·rw[List.getElem?_append_left hl]at h;exact .inl h
 ·rw[List.getElem?_append_right (by omega)]at h
  have:=(List.getElem?_eq_some_iff.mp h).1
  simp at this
  have e:j-zs.length=0:=by omega
  rw[e]at h
  exact .inr (by simpa using h)
theorem Kj {f:Addr}{fd:FuncData}(F:Fun K "factors_of_each" "factors_of_each" Bd f fd)(T:Txt mg)
  (Z:Exs K mg C_AskError C_BadWord C_NoInverse)
  {Au:Addr} {AA:FuncData} (AV:FnOk P w K mg base CX0 1 Au AA ["row"] (V6 K)) (AH:Fun K "place_of_first" "place_of_first" AU Au AA) (AW:Binds K AA ["row"] []) (AX:mg "place_of_first"=some (.ref Au))
  {A6:Addr} {Bg:FuncData} (Cw:FnOk P w K mg base CX0 2 A6 Bg ["p","bases","row"] (Nd K)) (BR:Fun K "left_of" "left_of" Dx A6 Bg) (Cy:Binds K Bg ["p","bases","row"] []) (Cz:mg "left_of"=some (.ref A6))
  {A7:Addr} {DF:FuncData} (D8:FnOk P w K mg base CX0 4 A7 DF ["p","rows","size"] (Bz_ K)) (BS:Fun K "chosen_and_bases" "chosen_and_bases" A4 A7 DF) (D9:Binds K DF ["p","rows","size"] []) (Ea:mg "chosen_and_bases"=some (.ref A7))
  {HZ:Addr} {Jz:FuncData} (Pf:FnOk P w K mg base CX0 1 HZ Jz ["size","place"] (U3 K)) (LZ:Fun K "unit" "unit" LS HZ Jz) (Pg:Binds K Jz ["size","place"] []) (Ph:mg "unit"=some (.ref HZ))
  : FnOk P w K mg base CX0 5 f fd ["p","rows","some","size"] (DY_ K):=by
 refine F.ok AR (fun vs H Q E h=>?_) (fun cdv A outer s H vs Q E hr h=>?_)
 ·obtain⟨p,t,a,b,m,xs,ys,rows,somes,rfl,_⟩:=h;rfl
 ·obtain⟨p,t,a,b,m,xs,ys,rows,somes,rfl,hp,ha,hR,hrn,hb,hY,hsn,hm,hz,hsz,k⟩:=h
  have hl:=An
  have hp1:=hp.1
  have hp2:=hp.2.1
  refine⟨_,(Ad (Aj (i:=4) AR.nd rfl (Or.inr rfl) (Ak Ai (by rfl) T.len PySem.boot_len (Aa (pv 1) Ab)))
   (Ad (UL (i:=5) AR.nd rfl rfl rfl (Du rfl) (cp:=FH) ⟨⟨rfl,rfl⟩,True.intro⟩ (DQ_ (VW rfl T.enumerate (pv 1)) (P9 rfl T.enumerate (pv 1))) (fun _ _ _ _=>(US (K:=K) (n:=2) rfl rfl (DA (Am (i:=0) Eo rfl (Or.inl rfl)) (DA (Am (i:=1) Eo rfl (Or.inl rfl)) La)))) (fun _ _ _ _=>CH) (fun _ _ _ _=>(Aq (MY (K:=K) rfl) (Ax (Qd (K:=K) rfl) rfl T.tuple PyProof.Rows.boot_tuple (Aa (pv 1) Ab)) (Ah Pf (hr.mono (by decide)) rfl Ph LZ.kp Pg .nil AD (Aa (pv 2) (Aa (pv 0) Ab))))))
   (Ad (Aj (i:=6) AR.nd rfl (Or.inl rfl) (Ar Al (Ah D8 (hr.mono (by decide)) rfl Ea BS.kp D9 .nil AD (Aa (pv 0) (Aa (pv 5) (Aa (pv 3) Ab)))) Af (fun _ _=>rfl)))
   (Ad (Aj (i:=7) AR.nd rfl (Or.inl rfl) (Fm Ab))
   (Ad (B7 PassesOwn.never rfl (Lb (pv 2)) (Am (i:=8) AR.nd rfl (Or.inl rfl))
   (Ad (Aj (i:=9) AR.nd rfl (Or.inl rfl) (Ah Cw (hr.mono (by decide)) rfl Cz BR.kp Cy .nil AD (Aa (pv 0) (Aa (pv 6) (Aa (Aq Dp (Ax LR rfl T.tuple PyProof.Rows.boot_tuple (Aa (pv 8) Ab)) (Aq P8 (Bz (Aa Af Ab)) (pv 4))) Ab)))))
   (Ad (Aj (i:=10) AR.nd rfl (Or.inl rfl) (MN CS_ (Ah AV (hr.mono (by decide)) rfl AX AH.kp AW .nil AD (Aa (GN Jt (pv 9) Jp (Jq (pv 3))) Ab)) SK (A3 _)))
   (Ag (DB (J4 PySem.F.plainAttrs_list PySem.F.slot_list_append PySem.F.type_list_append B9 (pv 7) (Aa (VE (DL (pv 10)) (CG rfl (Du rfl) (cp:=FJ) ⟨⟨rfl,rfl⟩,True.intro⟩ (Hu (GN Jt (pv 9) (Jq (pv 3)) Jp)) (fun _ _ _ _=>(Am (i:=0) Hz rfl (Or.inl rfl))) (fun _ _ _ _=>CH) (fun _ _ _ _=>(Aq Cg (Wt O2 (pv 0)) (pv 1)))) SK) Ab)))))))
   (Ag (Ap (pv 7)))))))),?_⟩
  walk_at "rd"
  refine⟨xs,(by cases t;exact .inl ha;exact .inr ha),?_⟩
  rw[hR.1]
  have hlm:(Bt rows).length=rows.length:=by unfold Bt;simp
  obtain⟨Pc,hPc⟩:∃Pc:Nat->List V->St->Hp->Prop,∀j zs σ4 H4,Pc j zs σ4 H4↔(Same H H4/\A2 K H4 zs ((Bt rows).take j)/\∃o1 o2,σ4=[o1,o2,some (.int rows.length)]):=⟨_,fun _ _ _ _=>Iff.rfl⟩
  refine Ex_ ha Pc ((hPc _ _ _ _).mpr ⟨Same.refl _,by rw[List.take_zero];exact A2.nil,none,none,rfl⟩) (by rw[hR.1];omega) (fun j zs σ4 H4 hj h4=>?_) (fun j v zs σ4 H4 q hv h4 hq=>?_) (fun zs σ4 H4 h4 D hD=>?_)
  ·obtain⟨s4,hR4,_⟩:=(hPc _ _ _ _).mp h4
   exact⟨ha.mono s4,by rw[hR4.1,List.length_take];omega⟩
  ·obtain⟨s4,hR4,o1,o2,rfl⟩:=(hPc _ _ _ _).mp h4
   have hi:j<rows.length:=by rw[<-hR.1];exact (List.getElem?_eq_some_iff.mp hv).1
   obtain⟨tr,ht,hrow⟩:=hR.2 j rows[j] (by simp[hi])
   rw[hv]at ht
   cases ht
   have s5:=Same.new hq (o:=.tup [.int j,.ref tr])
   have etk:(Bt rows).take (j+1)=(Bt rows).take j++[rows[j]++D1 rows.length j]:=by
    rw[List.take_succ_eq_append_getElem (hlm ▸ hi)]
    congr 2
    unfold Bt
    rw[List.getElem_map,List.getElem_range,List.getD_eq_getElem?_getD,List.getElem?_eq_getElem hi];rfl
   have hrl:=hrn _ (List.getElem_mem hi)
   generalize rows[j]=row at hrow etk hrl
   walk_at "rd"
   refine⟨_,SqT.of Ac,rfl,_,_,rfl,_,_,rfl,rfl,tr,rfl,_,.inr ⟨s5.seqT (s4.seqT hrow),rows.length,j,rfl,by omega,fun q6 H6 s6 hq6=>?_⟩⟩
   refine Dv.of (s6.seqT (s5.seqT (s4.seqT hrow))) hq6 (by unfold D1;simp;omega) fun q7 H7 s7 hq7=>?_
   refine (hPc _ _ _ _).mpr ⟨s4.trans (s5.trans (s6.trans s7)),?_,_,_,rfl⟩
   rw[etk]
   exact (hR4.mono (s5.trans (s6.trans s7))).snoc (by rw[List.map_append];exact hq7)
  ·obtain⟨s4,hR4,o1,o2,rfl⟩:=(hPc _ _ _ _).mp h4
   rw[hR.1,<-hlm,List.take_length]at hR4
   walk_at "rd"
   have sD:=Same.new hD (o:=.lst zs)
   refine⟨p,false,D,m,m+rows.length,zs,Bt rows,rfl,hp,SqL.of Ac,hR4.mono sD,WK hrn,by omega,by omega,by omega,fun q6 l6 d bs H6 s6 hq6 _ hB S hd0 _=>⟨q6,rfl,_,hq6,.ref d,rfl,Nat.zero_le _,fun l hl0=>?_⟩⟩
   have s60:Same H H6:=(s4.trans sD).trans s6
   have s7:=Same.new hl0 (o:=.lst [])
   have hd00:H d=none:=Mine.Same.gone (s4.trans sD) hd0
   have hl00:H l=none:=Mine.Same.gone s60 hl0
   refine⟨⟨_,(s60.trans s7).seq hb⟩,?_⟩
   obtain⟨Pv,hPv⟩:∃Pv:Nat->St->Hp->Prop,∀i σ' H',Pv i σ' H'↔(Same H H'/\BasD K H' d bs/\∃(us:List V) (o1 o2 o3:Option V),H' l=some (.lst us)/\ToldF H' p m rows bs us (somes.take i)/\(∀(j:Nat) (c:Addr),us[j]?=some (.ref c)->c≠l)/\σ'=[some (.int p),some (.ref a),some (.ref b),some (.int m),some (.int rows.length),some (.ref D),some (.ref d),some (.ref l),o1,o2,o3]):=⟨_,fun _ _ _=>Iff.rfl⟩
   refine forL Pv ((hPv _ _ _).mpr ⟨s60.trans s7,hB.mono s7,[],none,none,none,Ac,⟨rfl,fun i r hi=>by simp at hi⟩,by simp,rfl⟩) (fun i σ' H' _ h'=>((hPv _ _ _).mp h').1.seq hb) (fun i v σ' H' hv h'=>?_) (fun σ' H' h'=>?_)
   ·obtain⟨s8,hB8,us,o1,o2,o3,hu,hT,hne,rfl⟩:=(hPv _ _ _).mp h'
    have hi:i<somes.length:=by rw[<-hY.1];exact (List.getElem?_eq_some_iff.mp hv).1
    obtain⟨tr,ht,hrow⟩:=hY.2 i somes[i] (by simp[hi])
    rw[hv]at ht
    cases ht
    have hrl:=hsn _ (List.getElem_mem hi)
    have etk:somes.take (i+1)=somes.take i++[somes[i]]:=List.take_succ_eq_append_getElem hi
    generalize somes[i]=row at hrow hrl etk
    walk_at "rd"
    have etl:(somes.take i).length=i:=by rw[List.length_take];omega
    refine⟨_,.inr ⟨s8.seqT hrow,by omega,fun p1 hp1'=>?_⟩⟩
    have sA:=Same.new hp1' (o:=.tup [V.int 0])
    refine P7.of (SqT.of Ac) (by simp) (by omega) (by omega) (by simp;omega) fun pt H2 s2 ht=>?_
    rw[Int.toNat_natCast,WQ]at ht
    refine Dv.of ((s8.trans (sA.trans s2)).seqT hrow) ht (by simp;omega) fun q5 H5 s5 hq5=>?_
    have sB:=sA.trans (s2.trans s5)
    have erow:(row++List.replicate rows.length 0).map V.int=row.map V.int++List.replicate rows.length (V.int 0):=by rw[List.map_append,List.map_replicate]
    rw[<-erow]at hq5
    have hr0:(row++List.replicate rows.length (0:Int)).length=m+rows.length:=by simp[hrl]
    have hll:=(D5 (row++List.replicate rows.length 0) hr0 bs S.b).1
    have hiff:=Y4 (show 0<p by omega) hrn S hrl
    refine⟨p,d,q5,true,bs,row++List.replicate rows.length 0,rfl,by omega,by omega,hB8.mono sB,hq5,by omega,fun x hx=>by rw[hr0];exact⟨(S.b.len x hx).1,(S.b.len x hx).2.1⟩,fun q6 H6 hF6 hq6=>⟨q6,rfl,_,hq6,fun p7 H7 s7 hp7=>?_⟩⟩
    rw[O8,<-List.map_take]at hp7
    have hlt:((Az p bs (row++List.replicate rows.length 0)).take m).length=m:=by rw[List.length_take];omega
    have htk:∀qq:Nat,qq<m->((Az p bs (row++List.replicate rows.length 0)).take m).getD qq 0=(Az p bs (row++List.replicate rows.length 0)).getD qq 0:=fun qq hqq=>by
     rw[List.getD_eq_getElem?_getD,List.getElem?_take,if_pos hqq,<-List.getD_eq_getElem?_getD]
    generalize hleft:Az p bs (row++List.replicate rows.length 0)=left at hq6 hp7 hll hiff hlt htk
    have hu6:=hF6.lst (sB _ _ hu)
    have hS6:Same H H6:=hF6.same (s8.trans sB) hd00
    refine⟨p7,left.take m,rfl,hp7,by omega,fun qn H9 s9 hqn hq0=>?_,fun H9 s9 hall=>?_⟩
    ·rw[hlt]at hqn
     rw[htk qn hqn]at hq0
     have hu9:=s9 _ _ (s7 _ _ hu6)
     refine⟨.inl ⟨rfl,_,SqL.of hu9⟩,?_⟩
     show if V.int qn=V.non then _ else _
     rw[if_neg (by simp)]
     have hnsp:¬ Span p m rows fun j=>row.getD j 0:=fun z=>hq0 (hiff.mpr z qn hqn)
     refine⟨_,hu9,by rw[hT.1];omega,(hPv _ _ _).mpr ⟨((hS6.trans (s7.trans s9))).over hl00,(((hB8.mono sB).fz hF6).mono (s7.trans s9)).offl hu9,us++[.non],_,_,_,Ac,?_,fun j c hj=>?_,rfl⟩⟩
     ·rw[etk]
      refine (hT.keep fun c ys hc h=>?_).snoc (.inr ⟨hnsp,rfl⟩)
      obtain⟨j,hj⟩:=hc
      rw[Aw (hne j c hj)]
      exact s9 _ _ (s7 _ _ (hF6.lst (sB _ _ h)))
     ·rcases V7 hj with hj|hj
      ·exact hne j c hj
      ·cases hj
    ·have hz0:∀j:Nat,j<m->left.getD j 0=0:=fun j hj=>by rw[<-htk j hj];exact hall j (by omega)
     have hsp:=hiff.mp hz0
     have hu9:=s9 _ _ (s7 _ _ hu6)
     refine⟨.inl ⟨rfl,_,SqL.of hu9⟩,?_⟩
     show if V.non=V.non then _ else _
     rw[if_pos rfl]
     refine⟨q6,rfl,_,(s7.trans s9).seqT hq6,fun p8 H10 s10 hp8=>⟨⟨_,hp8⟩,?_⟩⟩
     rw[WJ,<-List.map_drop]at hp8
     obtain⟨gg,hgg⟩:∃g:V->V,∀n:Int,g (V.int n)=.int (-n%p):=⟨fun x=>match x with | .int n=>.int (-n%p)|_=>.non,fun _=>rfl⟩
     refine P6 (σ':=[some (.int p)]) gg rfl hp8 (by rw[List.length_map,List.length_drop];omega) (fun x hx R hR=>?_) (fun D2 hD2=>?_)
     ·obtain⟨n,hn,rfl⟩:=List.mem_map.mp hx
      rw[hgg]at hR
      walk_at "rd"
      exact⟨by omega,hR⟩
     ·have em:((left.drop m).map V.int).map gg=((left.drop m).map fun y => -y%p).map V.int:=by
       rw[List.map_map,List.map_map]
       exact List.map_congr_left fun n _=>hgg n
      rw[em]
      have sD2:=Same.new hD2 (o:=.lst (((left.drop m).map fun y => -y%p).map V.int))
      have hu10:=sD2 _ _ (s10 _ _ hu9)
      have hDl:D2≠l:=fun z=>by rw[z,s10 _ _ hu9]at hD2;cases hD2
      have sZ:=s7.trans (s9.trans (s10.trans sD2))
      refine⟨_,hu10,by rw[hT.1];omega,(hPv _ _ _).mpr ⟨(hS6.trans sZ).over hl00,(((hB8.mono sB).fz hF6).mono sZ).offl hu10,us++[.ref D2],_,_,_,Ac,?_,fun j c hj=>?_,rfl⟩⟩
      ·rw[etk]
       refine (hT.keep fun c ys hc h=>?_).snoc (.inl ⟨hsp,D2,rfl,?_⟩)
       ·obtain⟨j,hj⟩:=hc
        rw[Aw (hne j c hj)]
        exact sZ _ _ (hF6.lst (sB _ _ h))
       ·rw[Aw hDl,Ac,hleft]
      ·rcases V7 hj with hj|hj
       ·exact hne j c hj
       ·cases hj;exact hDl
   ·obtain⟨s8,hB8,us,o1,o2,o3,hu,hT,hne,rfl⟩:=(hPv _ _ _).mp h'
    rw[hY.1,List.take_length]at hT
    walk_at "rd"
    exact k l us bs _ s8 hl00 hu S hT
def Pj (K:PySem.W.Frag):Sp:=fun vs H Q _=>∃(L:Int) (a:Addr) (ws:List Int),vs=[.int L,.ref a]/\SqT K H a (ws.map V.int)/\ws.length<=1000/\∀H',Same H H'->Q (.bl (isW L ws)) H'
theorem WR {f:Addr}{fd:FuncData}(F:Fun K "is_word" "is_word" FG f fd)(T:Txt mg)
  (Z:Exs K mg C_AskError C_BadWord C_NoInverse)
  : FnOk P w K mg base CX0 1 f fd ["letters","word"] (Pj K):=by
 refine F.ok WH (fun vs H Q E h=>?_) (fun cdv A outer s H vs Q E hr h=>?_)
 ·obtain⟨L,a,ws,rfl,_⟩:=h;rfl
 ·obtain⟨L,a,ws,rfl,hw,hz,k⟩:=h
  have hl:=An
  refine⟨_,(Ag (Ap (Ak (ZU rfl) rfl T.all PyProof.Rows.boot_all (Aa (CG rfl (Du rfl) (cp:=M5) ⟨⟨rfl,rfl⟩,True.intro⟩ (Hu (pv 1)) (fun _ _ _ _=>(Am (i:=0) Ob rfl (Or.inl rfl))) (fun _ _ _ _=>CH) (fun _ _ _ _=>(ZE Em_ SN Af (pv 0) (pv 1)))) Ab)))),?_⟩
  walk_at "rd"
  refine⟨⟨_,hw⟩,P6 (σ':=[some (.int L)]) (fun x=>match x with | .int n=>.bl (inW L n)|_=>.non) rfl hw (by rw[List.length_map];omega) (fun x hx R hR=>?_) (fun D hD=>?_)⟩
  ·obtain⟨n,_,rfl⟩:=J7 hx
   walk_at "rd"
   by_cases h0:0<=n
   ·simp only[h0,if_true]
    simpa [inW,h0] using hR
   ·simp only[h0,if_false]
    simpa [inW,h0] using hR
  ·refine⟨D,rfl,ws.map (inW L),.inl (.inl ?_),?_⟩
   ·rw[Ac,List.map_map,List.map_map];rfl
   ·have:=k _ (Same.new hD (o:=.lst ((ws.map V.int).map fun x=>match x with | .int n=>.bl (inW L n)|_=>.non)))
    simpa [isW,List.all_map] using this
def V8 (K:PySem.W.Frag)(BW:Addr):Sp:=fun vs H Q E=>∃(L:Int) (a:Addr) (ws:List Int),vs=[.int L,.ref a]/\SqT K H a (ws.map V.int)/\ws.length<=1000/\(isW L ws=true->∀H',Same H H'->Q .non H')/\(isW L ws=false->∀H',Same H H'->E (.ref BW) none H')
theorem Qt {f:Addr}{fd:FuncData}(F:Fun K "check_word" "check_word" CJ f fd)(T:Txt mg)
  (Z:Exs K mg C_AskError C_BadWord C_NoInverse)
  {FN:Addr} {Lq:FuncData} (Nj:FnOk P w K mg base CX0 1 FN Lq ["letters","word"] (Pj K)) (Ia:Fun K "is_word" "is_word" FG FN Lq) (Nk:Binds K Lq ["letters","word"] []) (Nl:mg "is_word"=some (.ref FN))
  : FnOk P w K mg base (CXe P w) 2 f fd ["letters","word"] (V8 K C_BadWord):=by
 refine F.okE Qe (fun vs H Q E h=>?_) (fun cdv A outer s H vs Q E hr h=>?_)
 ·obtain⟨L,a,ws,rfl,_⟩:=h;rfl
 ·obtain⟨L,a,ws,rfl,hw,hz,k,kE⟩:=h
  have hl:=An
  refine⟨_,(Ag (Dt (EY (DL (Ah Nj (hr.mono (by decide)) rfl Nl Ia.kp Nk .nil AD (Aa (pv 0) (Aa (pv 1) Ab)))))
   (Ag (VO Z.m_BadWord Z.x_BadWord rfl rfl (Aa AJ_ Ab)))
   AY)),?_⟩
  walk_at "rd"
  refine⟨L,a,ws,rfl,hw,hz,fun H' s'=>?_⟩
  walk_at "rd"
  cases hv:isW L ws with
  |true=>
   simp only[Bool.not_true,Bool.false_eq_true,if_false]
   exact k hv H' s'
  |false=>
   simp only[Bool.not_false,if_true]
   exact⟨by omega,kE hv H' s'⟩
def Tabs (K:PySem.W.Frag)(H:Hp)(tt:Addr)(tables:List (List (List Int))):Prop:=∃us:List Addr,SqT K H tt (us.map V.ref)/\us.length=tables.length/\∀(i:Nat) (u:Addr) (tb:List (List Int)),us[i]?=some u->tables[i]?=some tb->∃xs,SqT K H u xs/\A2 K H xs tb
theorem Tabs.mono {K:PySem.W.Frag}{H H':Hp}{tt:Addr}{tables:List (List (List Int))}(h:Tabs K H tt tables)(s:Same H H'):Tabs K H' tt tables:=by
 obtain⟨us,a,b,c⟩:=h
 refine⟨us,s.seqT a,b,fun i u tb h1 h2=>?_⟩
 obtain⟨xs,d,e⟩:=c i u tb h1 h2
 exact⟨xs,s.seqT d,e.mono s⟩
def SumH (K:PySem.W.Frag)(H:Hp)(h:Addr)(p:Int)(L:Int)(first:List Int)(tables:List (List (List Int)))(last:List Int):Prop:=∃tf tt tl:Addr,SqT K H h [.int p,.int L,.ref tf,.ref tt,.ref tl]/\SqT K H tf (first.map V.int)/\SqT K H tl (last.map V.int)/\Tabs K H tt tables
theorem SumH.mono {K:PySem.W.Frag}{H H':Hp}{h:Addr}{p L:Int}{first last:List Int}{tables:List (List (List Int))}(x:SumH K H h p L first tables last)(s:Same H H'):SumH K H' h p L first tables last:=by
 obtain⟨tf,tt,tl,a,b,c,d⟩:=x
 exact⟨tf,tt,tl,s.seqT a,s.seqT b,s.seqT c,d.mono s⟩
structure WfSum (p L:Int)(d:Nat)(first:List Int)(tables:List (List (List Int)))(last:List Int):Prop where
 p2:2<=p
 p18:p<1000000000000000000
 dl:d<=16
 f:first.length=d/\∀x∈first,0<=x/\x<p
 l:last.length=d/\∀x∈last,0<=x/\x<p
 t:(tables.length:Int)=L
 tt:∀tb∈tables,tb.length=d/\∀r∈tb,r.length=d
def Fi (p:Int)(d:Nat)(tables:List (List (List Int)))(row:List Int)(x:Int):List Int:=D0 p (tables.getD x.toNat []) row d
def rowS (p:Int)(d:Nat)(tables:List (List (List Int)))(first ws:List Int):List Int:=ws.foldl (Fi p d tables) first
theorem Ak_ {p:Int}(hp:0<p){rows:List (List Int)}{am:List Int}{n:Nat}:∀x∈D0 p rows am n,0<=x/\x<p:=fun x hx=>by
 obtain⟨c,_,rfl⟩:=List.mem_map.mp hx
 exact⟨Int.emod_nonneg _ (by omega),Int.emod_lt_of_pos _ hp⟩
theorem Y6 (p:Int)(rows:List (List Int))(am:List Int)(n:Nat):(D0 p rows am n).length=n:=by unfold D0;rw[List.length_map,List.length_range]
theorem WfSum.row {p L:Int}{d:Nat}{first last:List Int}{tables:List (List (List Int))}(wf:WfSum p L d first tables last)(ws:List Int):(rowS p d tables first ws).length=d/\∀x∈rowS p d tables first ws,0<=x/\x<p:=by
 have h2:=wf.p2
 have key:∀(ws r:List Int),(r.length=d/\∀x∈r,0<=x/\x<p)->((ws.foldl (Fi p d tables) r).length=d/\∀x∈ws.foldl (Fi p d tables) r,0<=x/\x<p):=fun ws=>by
  induction ws with
  |nil=>exact fun r h=>h
  |cons y ws ih=>exact fun r _=>ih _ ⟨Y6 _ _ _ _,Ak_ (by omega)⟩
 exact key ws first wf.f
theorem To {p:Int}{d:Nat}{tables:List (List (List Int))}{first ws:List Int}{i:Nat}{x:Int}(h:ws[i]?=some x):rowS p d tables first (ws.take (i+1))=Fi p d tables (rowS p d tables first (ws.take i)) x:=by
 unfold rowS
 rw[List.take_add_one,h,Option.toList_some,List.foldl_append];rfl
theorem WfSum.table {p L:Int}{d:Nat}{first last:List Int}{tables:List (List (List Int))}(wf:WfSum p L d first tables last){x:Int}(x0:0<=x)(x1:x<L):tables[x.toNat]?=some (tables.getD x.toNat [])/\(tables.getD x.toNat []).length=d/\∀r∈tables.getD x.toNat [],r.length=d:=by
 have hx:x.toNat<tables.length:=by have:=wf.t;omega
 have e:tables.getD x.toNat []=tables[x.toNat]:=by rw[List.getD_eq_getElem?_getD,List.getElem?_eq_getElem hx];rfl
 rw[e]
 exact⟨by rw[List.getElem?_eq_getElem hx],wf.tt _ (List.getElem_mem hx)⟩
theorem Tabs.at {K:PySem.W.Frag}{H:Hp}{tt:Addr}{tables:List (List (List Int))}(h:Tabs K H tt tables){i:Nat}{tb:List (List Int)}(ht:tables[i]?=some tb):∃zs u xs,SqT K H tt zs/\atI zs (i:Int)=some (V.ref u)/\SqT K H u xs/\A2 K H xs tb:=by
 obtain⟨us,a,b,c⟩:=h
 have hi:i<us.length:=by rw[b];exact (List.getElem?_eq_some_iff.mp ht).1
 have hu:us[i]?=some us[i]:=by simp[hi]
 obtain⟨xs,d,e⟩:=c i _ tb hu ht
 exact⟨_,us[i],xs,a,Bc (by rw[List.getElem?_map,hu];rfl),d,e⟩
def IW (K:PySem.W.Frag):Sp:=fun vs H Q _=>∃(h r:Addr) (p L x:Int) (d:Nat) (first last row:List Int) (tables:List (List (List Int))),vs=[.ref h,.ref r,.int x]/\SumH K H h p L first tables last/\WfSum p L d first tables last/\SqT K H r (row.map V.int)/\row.length=d/\(∀y∈row,0<=y/\y<p)/\0<=x/\x<L/\∀q H',Same H H'->H' q=some (.tup ((Fi p d tables row x).map V.int))->Q (.ref q) H'
theorem WT {f:Addr}{fd:FuncData}(F:Fun K "stepped" "stepped" D3 f fd)(T:Txt mg)
  (Z:Exs K mg C_AskError C_BadWord C_NoInverse)
  {FO:Addr} {Lr:FuncData} (Nm:FnOk P w K mg base CX0 2 FO Lr ["p","rows","parts","size"] (Pd K)) (Ib:Fun K "made_of" "made_of" FF FO Lr) (Nn:Binds K Lr ["p","rows","parts","size"] []) (Np:mg "made_of"=some (.ref FO))
  : FnOk P w K mg base CX0 3 f fd ["house","row","letter"] (IW K):=by
 refine F.ok WI (fun vs H Q E h=>?_) (fun cdv A outer s H vs Q E hr h=>?_)
 ·obtain⟨h,r,p,L,x,d,first,last,row,tables,rfl,_⟩:=h;rfl
 ·obtain⟨h,r,p,L,x,d,first,last,row,tables,rfl,hh,wf,hrr,hrl,hri,x0,x1,k⟩:=h
  have h2:=wf.p2
  have h18:=wf.p18
  have hd:=wf.dl
  refine⟨_,(Ag (Ap (Ah Nm (hr.mono (by decide)) rfl Np Ib.kp Nn .nil AD (Aa (Ar Al (pv 0) Af (fun _ _=>rfl)) (Aa (Ar Al (Ar Al (pv 0) Af (fun _ _=>rfl)) (pv 2) (fun _ _=>rfl)) (Aa (pv 1) (Aa (Ak Ai (by rfl) T.len PySem.boot_len (Aa (pv 1) Ab)) Ab))))))),?_⟩
  obtain⟨tf,tt,tl,e1,e2,e3,e4⟩:=id hh
  obtain⟨t1,t2,t3⟩:=wf.table x0 x1
  obtain⟨zs,u,xs,z1,z2,z3,z4⟩:=e4.at t1
  rw[Int.toNat_of_nonneg x0]at z2
  walk_at "rd"
  refine⟨_,e1,_,rfl,_,e1,_,rfl,?_⟩
  walk_at "rd"
  exact⟨_,z1,_,z2,_,.inr hrr,p,true,true,u,r,xs,tables.getD x.toNat [],row,d,by rw[List.length_map,hrl],by omega,z3,z4,t3,hrr,by rw[t2];exact hrl,by omega,by omega,(fun y hy=>by have:=hri y hy;omega),fun q H' s' hq=>k q H' s' hq⟩
def Kk (K:PySem.W.Frag)(BW:Addr):Sp:=fun vs H Q E=>∃(h a:Addr) (p L:Int) (d:Nat) (first last ws:List Int) (tables:List (List (List Int))),vs=[.ref h,.ref a]/\SumH K H h p L first tables last/\WfSum p L d first tables last/\SqT K H a (ws.map V.int)/\ws.length<=600/\(isW L ws=true->∀(q t:Addr) (xs:List V) (H':Hp),Same H H'->H' q=some (.lst (xs++[V.ref t]))->SqT K H' t ((rowS p d tables first ws).map V.int)->Q (.ref q) H')/\(isW L ws=false->∀H',Same H H'->E (.ref BW) none H')
theorem Qu {f:Addr}{fd:FuncData}(F:Fun K "rows_along" "rows_along" CK f fd)(T:Txt mg)
  (Z:Exs K mg C_AskError C_BadWord C_NoInverse)
  {C1:Addr} {GY:FuncData} (Ic:FnOk P w K mg base (CXe P w) 2 C1 GY ["letters","word"] (V8 K C_BadWord)) (E4:Fun K "check_word" "check_word" CJ C1 GY) (Ie:Binds K GY ["letters","word"] []) (Ig:mg "check_word"=some (.ref C1))
  {BG:Addr} {Ca:FuncData} (Eb:FnOk P w K mg base CX0 3 BG Ca ["house","row","letter"] (IW K)) (C2:Fun K "stepped" "stepped" D3 BG Ca) (Ec:Binds K Ca ["house","row","letter"] []) (Ed:mg "stepped"=some (.ref BG))
  : FnOk P w K mg base (CXe P w) 4 f fd ["house","word"] (Kk K C_BadWord):=by
 refine F.okE GU (fun vs H Q E h=>?_) (fun cdv A outer s H vs Q E hr h=>?_)
 ·obtain⟨h,a,p,L,d,first,last,ws,tables,rfl,_⟩:=h;rfl
 ·obtain⟨h,a,p,L,d,first,last,ws,tables,rfl,hh,wf,hw,hz,k,kE⟩:=h
  have hl:=An
  refine⟨_,(Ad (DB (Ah Ic (hr.mono (by decide)) rfl Ig E4.kp Ie .nil (BV_ fun _ _ _ h=>h) (Aa (Ar Al (pv 0) Af (fun _ _=>rfl)) (Aa (pv 1) Ab))))
   (PSs.nox (Ad (Aj (i:=2) GU.nd rfl (Or.inl rfl) (Fm (Aa (Ar Al (pv 0) Af (fun _ _=>rfl)) Ab)))
   (Ad (B7 PassesOwn.never rfl (Hu (pv 1)) (Am (i:=3) GU.nd rfl (Or.inl rfl))
   (Ag (DB (J4 PySem.F.plainAttrs_list PySem.F.slot_list_append PySem.F.type_list_append B9 (pv 2) (Aa (Ah Eb (hr.mono (by decide)) rfl Ed C2.kp Ec .nil AD (Aa (pv 0) (Aa (Ar CF (pv 2) (Wt O2 Af) (fun _ _=>rfl)) (Aa (pv 3) Ab)))) Ab)))))
   (Ag (Ap (pv 2))))))),?_⟩
  obtain⟨tf,tt,tl,e1,e2,e3,e4⟩:=id hh
  walk_at "rd"
  refine⟨_,e1,_,rfl,L,a,ws,rfl,hw,by omega,fun hv H1 s1=>?_,kE⟩
  walk_at "rd"
  refine⟨_,s1.seqT e1,_,rfl,by omega,fun q hq=>?_⟩
  have s0:=Same.new hq (o:=.lst [V.ref tf])
  refine⟨⟨_,(s1.trans s0).seqT hw⟩,?_⟩
  obtain⟨Pv,hPv⟩:∃Pv:Nat->St->Hp->Prop,∀i σ' H',Pv i σ' H'↔(∃(xs:List V) (t:Addr) (o:Option V),Same H1 H'/\H' q=some (.lst (xs++[V.ref t]))/\xs.length=i/\SqT K H' t ((rowS p d tables first (ws.take i)).map V.int)/\σ'=[some (.ref h),some (.ref a),some (.ref q),o]):=⟨_,fun _ _ _=>Iff.rfl⟩
  refine forT (xs:=ws.map V.int) Pv ((hPv _ _ _).mpr ⟨[],tf,none,s0,Ac,rfl,(s1.trans s0).seqT e2,rfl⟩) (fun i σ' H' _ h'=>by obtain⟨_,_,_,s',_⟩:=(hPv _ _ _).mp h';exact (s1.trans s').seqT hw) (fun i x σ' H' hx h'=>?_) (fun σ' H' h'=>?_)
  ·obtain⟨xs,t,o,s2,hq2,hxl,ht,rfl⟩:=(hPv _ _ _).mp h'
   obtain⟨n,hn,rfl⟩:=GP hx
   have hi:=(List.getElem?_eq_some_iff.mp hn).1
   have hnr:=AB.mp hv n (List.mem_of_getElem? hn)
   obtain⟨r1,r2⟩:=wf.row (ws.take i)
   walk_at "rd"
   refine⟨.inl ⟨rfl,_,SqL.of hq2⟩,_,SqL.of hq2,_,YA (v:=V.ref t) (by simp),h,t,p,L,n,d,first,last,_,tables,rfl,hh.mono (s1.trans s2),wf,ht,r1,r2,hnr.1,hnr.2,fun q3 H3 s3 hq3=>?_⟩
   refine⟨_,s3 _ _ hq2,by simp;omega,(hPv _ _ _).mpr ⟨xs++[V.ref t],q3,_,(s2.trans s3).over hq,Ac,by simp[hxl],?_,rfl⟩⟩
   rw[To hn]
   exact Ay (s3 _ _ hq2) (SqT.of hq3)
  ·obtain⟨xs,t,o,s2,hq2,hxl,ht,rfl⟩:=(hPv _ _ _).mp h'
   rw[List.length_map,List.take_length]at ht
   walk_at "rd"
   exact k hv q t xs _ (s1.trans s2) hq2 ht
def Kl (K:PySem.W.Frag)(BW:Addr):Sp:=fun vs H Q E=>∃(h a:Addr) (p L:Int) (d:Nat) (first last ws:List Int) (tables:List (List (List Int))),vs=[.ref h,.ref a]/\SumH K H h p L first tables last/\WfSum p L d first tables last/\SqT K H a (ws.map V.int)/\ws.length<=600/\(isW L ws=true->∀(t:Addr) (H':Hp),Same H H'->SqT K H' t ((rowS p d tables first ws).map V.int)->Q (.ref t) H')/\(isW L ws=false->∀H',Same H H'->E (.ref BW) none H')
theorem Qv {f:Addr}{fd:FuncData}(F:Fun K "row_behind" "row_behind" CL f fd)(T:Txt mg)
  (Z:Exs K mg C_AskError C_BadWord C_NoInverse)
  {C3:Addr} {GZ:FuncData} (Ih:FnOk P w K mg base (CXe P w) 4 C3 GZ ["house","word"] (Kk K C_BadWord)) (E5:Fun K "rows_along" "rows_along" CK C3 GZ) (Ii:Binds K GZ ["house","word"] []) (Ij:mg "rows_along"=some (.ref C3))
  : FnOk P w K mg base (CXe P w) 5 f fd ["house","word"] (Kl K C_BadWord):=by
 refine F.okE Qf (fun vs H Q E h=>?_) (fun cdv A outer s H vs Q E hr h=>?_)
 ·obtain⟨h,a,p,L,d,first,last,ws,tables,rfl,_⟩:=h;rfl
 ·obtain⟨h,a,p,L,d,first,last,ws,tables,rfl,hh,wf,hw,hz,k,kE⟩:=h
  refine⟨_,(Ag (Ap (Ar CF (Ah Ih (hr.mono (by decide)) rfl Ij E5.kp Ii .nil (BV_ fun _ _ _ h=>h) (Aa (pv 0) (Aa (pv 1) Ab))) (Wt O2 Af) (fun _ _=>rfl)))),?_⟩
  walk_at "rd"
  refine⟨h,a,p,L,d,first,last,ws,tables,rfl,hh,wf,hw,hz,fun hv q t xs H1 s1 hq ht=>?_,kE⟩
  walk_at "rd"
  exact⟨_,SqL.of hq,_,YA (v:=V.ref t) (by simp),k hv t _ s1 ht⟩
def V9 (K:PySem.W.Frag)(BW:Addr):Sp:=fun vs H Q E=>∃(h a:Addr) (p L:Int) (d:Nat) (first last ws:List Int) (tables:List (List (List Int))),vs=[.ref h,.ref a]/\SumH K H h p L first tables last/\WfSum p L d first tables last/\SqT K H a (ws.map V.int)/\ws.length<=600/\(isW L ws=true->∀H',Same H H'->Q (.int (dotW last (rowS p d tables first ws)%p)) H')/\(isW L ws=false->∀H',Same H H'->E (.ref BW) none H')
theorem Al_ {f:Addr}{fd:FuncData}(F:Fun K "worth" "worth" Jv f fd)(T:Txt mg)
  (Z:Exs K mg C_AskError C_BadWord C_NoInverse)
  {CY:Addr} {Eu:FuncData} (GG:FnOk P w K mg base CX0 1 CY Eu ["p","row","other"] (Lm K)) (E3:Fun K "product" "product" E2 CY Eu) (GH:Binds K Eu ["p","row","other"] []) (GI:mg "product"=some (.ref CY))
  {C4:Addr} {G0:FuncData} (Ik:FnOk P w K mg base (CXe P w) 5 C4 G0 ["house","word"] (Kl K C_BadWord)) (E6:Fun K "row_behind" "row_behind" CL C4 G0) (Il:Binds K G0 ["house","word"] []) (Im:mg "row_behind"=some (.ref C4))
  : FnOk P w K mg base (CXe P w) 6 f fd ["house","word"] (V9 K C_BadWord):=by
 refine F.okE Af_ (fun vs H Q E h=>?_) (fun cdv A outer s H vs Q E hr h=>?_)
 ·obtain⟨h,a,p,L,d,first,last,ws,tables,rfl,_⟩:=h;rfl
 ·obtain⟨h,a,p,L,d,first,last,ws,tables,rfl,hh,wf,hw,hz,k,kE⟩:=h
  have h2:=wf.p2
  have h18:=wf.p18
  have hd:=wf.dl
  have hl':=wf.l
  refine⟨_,(Ag (Ap (Ah GG (hr.mono (by decide)) rfl GI E3.kp GH .nil AD (Aa (Ar Al (pv 0) Af (fun _ _=>rfl)) (Aa (Ar Al (pv 0) Af (fun _ _=>rfl)) (Aa (Ah Ik (hr.mono (by decide)) rfl Im E6.kp Il .nil (BV_ fun _ _ _ h=>h) (Aa (pv 0) (Aa (pv 1) Ab))) Ab)))))),?_⟩
  obtain⟨tf,tt,tl,e1,e2,e3,e4⟩:=id hh
  obtain⟨r1,r2⟩:=wf.row ws
  walk_at "rd"
  refine⟨_,e1,_,rfl,_,e1,_,rfl,h,a,p,L,d,first,last,ws,tables,rfl,hh,wf,hw,hz,fun hv t H1 s1 ht=>?_,kE⟩
  walk_at "rd"
  exact⟨p,true,true,tl,t,last,_,rfl,by omega,s1.seqT e3,ht,by rw[r1];exact hl'.1,by omega,(fun x hx=>by have:=hl'.2 x hx;omega),fun H2 s2=>k hv _ (s1.trans s2)⟩
def stepI (d:Nat)(tables:List (List (List Int)))(row:List Int)(x:Int):List Int:=(List.range d).map fun c=>dotW row (colW (tables.getD x.toNat []) c)
def rowI (d:Nat)(tables:List (List (List Int)))(first ws:List Int):List Int:=ws.foldl (stepI d tables) first
theorem Am_ {p:Int}{d:Nat}{t t':List (List (List Int))}{r r':List Int}{x:Int}(ht:cgT p (t.getD x.toNat []) (t'.getD x.toNat []))(hr:cg p r r'):cg p (Fi p d t r x) (stepI d t' r' x):=by
 unfold Fi D0 stepI
 refine cg.map fun c _=>?_
 rw[Int.emod_emod_of_dvd _ (Int.dvd_refl p)]
 exact hr.dot (ht.col c)
theorem U4 {p:Int}{d:Nat}{t t':List (List (List Int))}(ht:∀i:Nat,cgT p (t.getD i []) (t'.getD i [])):∀(ws:List Int) {r r':List Int},cg p r r'->cg p (rowS p d t r ws) (rowI d t' r' ws)
 |[],r,r',h=>h
 |x::ws,r,r',h=>U4 ht ws (Am_ (ht _) h)
theorem Tp {d:Nat}{t:List (List (List Int))}{r:List Int}{x:Int}:(stepI d t r x).length=d:=by unfold stepI;simp
theorem Wa {d:Nat}{t:List (List (List Int))}:∀(ws:List Int) {r:List Int},r.length=d->(rowI d t r ws).length=d
 |[],r,h=>h
 |x::ws,r,h=>Wa ws Tp
structure Dim (d:Nat)(tb:List (List Int)):Prop where
 n:tb.length=d
 r:∀r∈tb,r.length=d
def E7 (d:Nat)(tb:List (List Int)):List (List Int):=(List.range d).map fun c=>colW tb c
theorem Wb {d k:Nat}{tb:List (List Int)}(h:Dim d tb)(hk:k<d):colW (E7 d tb) k=tb.getD k []:=by
 have hkl:k<tb.length:=by rw[h.n];exact hk
 have e:tb.getD k []=tb[k]:=by rw[List.getD_eq_getElem?_getD,List.getElem?_eq_getElem hkl];rfl
 have hl:=h.r _ (List.getElem_mem hkl)
 rw[e]
 unfold colW E7
 rw[List.map_map]
 refine List.ext_getElem? fun i=>?_
 by_cases hi:i<d
 ·rw[List.getElem?_map,List.getElem?_range hi,List.getElem?_eq_getElem (show i<tb[k].length by omega)]
  show some ((colW tb i).getD k 0)=_
  congr 1
  unfold colW
  rw[List.getD_eq_getElem?_getD,List.getElem?_map,List.getElem?_eq_getElem hkl]
  show tb[k].getD i 0=_
  rw[List.getD_eq_getElem?_getD,List.getElem?_eq_getElem (show i<tb[k].length by omega)];rfl
 ·rw[List.getElem?_eq_none (by simp;omega),List.getElem?_eq_none (by omega)]
theorem Y7 {d:Nat}{T t:List (List (List Int))}{x:Int}(hT:T.getD x.toNat []=E7 d (t.getD x.toNat []))(h:Dim d (t.getD x.toNat [])){row col:List Int}(l1:row.length=d)(l2:col.length=d):dotW (stepI d t row x) col=dotW row (stepI d T col x):=by
 unfold stepI
 rw[IS l2 _ row h.r (by rw[h.n];exact l1),hT]
 congr 1
 refine List.ext_getElem? fun k=>?_
 by_cases hk:k<d
 ·have hkl:k<(t.getD x.toNat []).length:=by rw[h.n];exact hk
  rw[List.getElem?_map,List.getElem?_map,List.getElem?_range hk,List.getElem?_eq_getElem hkl]
  show some (dotW col (t.getD x.toNat [])[k])=some (dotW col (colW (E7 d (t.getD x.toNat [])) k))
  rw[Wb h hk]
  congr 2
  rw[List.getD_eq_getElem?_getD (l:=t.getD x.toNat []),List.getElem?_eq_getElem hkl];rfl
 ·rw[List.getElem?_eq_none (by rw[List.length_map,h.n];omega),List.getElem?_eq_none (by simp;omega)]
theorem Wc {L d:Nat}{T t:List (List (List Int))}(hT:∀i:Nat,i<L->T.getD i []=E7 d (t.getD i []))(h:∀i:Nat,i<L->Dim d (t.getD i [])):∀(ws:List Int) {row col:List Int},(∀x∈ws,0<=x/\x<L)->row.length=d->col.length=d->dotW (rowI d t row ws) col=dotW row (rowI d T col ws.reverse)
 |[],row,col,_,_,_=>rfl
 |x::ws,row,col,hw,l1,l2=>by
  have hx:=hw x (List.mem_cons_self ..)
  show dotW (rowI d t (stepI d t row x) ws) col=_
  rw[Wc hT h ws (fun y hy=>hw y (List.mem_cons_of_mem _ hy)) Tp l2,Y7 (hT _ (by omega)) (h _ (by omega)) l1 (Wa _ l2),List.reverse_cons]
  unfold rowI
  rw[List.foldl_append];rfl
theorem Y8 {d:Nat}{tb:List (List Int)}(h:Dim d tb):Dim d (E7 d tb):=⟨by unfold E7;simp,fun r hr=>by
 obtain⟨c,_,rfl⟩:=List.mem_map.mp hr
 unfold colW;rw[List.length_map];exact h.n⟩
theorem WU {d:Nat}{tb:List (List Int)}(h:Dim d tb):E7 d (E7 d tb)=tb:=by
 refine List.ext_getElem? fun k=>?_
 by_cases hk:k<d
 ·have hkl:k<tb.length:=by rw[h.n];exact hk
  show ((List.range d).map fun c=>colW (E7 d tb) c)[k]?=_
  rw[List.getElem?_map,List.getElem?_range hk,List.getElem?_eq_getElem hkl]
  show some (colW (E7 d tb) k)=_
  rw[Wb h hk,List.getD_eq_getElem?_getD,List.getElem?_eq_getElem hkl];rfl
 ·rw[List.getElem?_eq_none (by unfold E7;simp;omega),List.getElem?_eq_none (by rw[h.n];omega)]
def HD (K:PySem.W.Frag)(H:Hp)(zs:List V)(tabs:List (List (List Int))):Prop:=zs.length=tabs.length/\∀(i:Nat) (tb:List (List Int)),tabs[i]?=some tb->∃(u:Addr) (xs:List V),zs[i]?=some (.ref u)/\SqT K H u xs/\A2 K H xs tb
theorem HD.mono {K:PySem.W.Frag}{H H':Hp}{zs:List V}{tabs:List (List (List Int))}(h:HD K H zs tabs)(s:Same H H'):HD K H' zs tabs:=⟨h.1,fun i tb hi=>by
 obtain⟨u,xs,a,b,c⟩:=h.2 i tb hi
 exact⟨u,xs,a,s.seqT b,c.mono s⟩⟩
theorem HD.nil {K:PySem.W.Frag}{H:Hp}:HD K H [] []:=⟨rfl,fun i tb h=>by simp at h⟩
theorem HD.snoc {K:PySem.W.Frag}{H:Hp}{zs:List V}{tabs:List (List (List Int))}(h:HD K H zs tabs){u:Addr}{xs:List V}{tb:List (List Int)}(h1:SqT K H u xs)(h2:A2 K H xs tb):HD K H (zs++[.ref u]) (tabs++[tb]):=by
 refine⟨by rw[List.length_append,List.length_append,h.1];rfl,fun i r hi=>?_⟩
 by_cases hl:i<tabs.length
 ·rw[List.getElem?_append_left hl]at hi
  rw[List.getElem?_append_left (by rw[h.1];exact hl)]
  exact h.2 i r hi
 ·have:=(List.getElem?_eq_some_iff.mp hi).1
  rw[List.length_append,List.length_singleton]at this
  have e:i=tabs.length:=by omega
  subst e
  rw[List.getElem?_append_right (Nat.le_refl _),Nat.sub_self]at hi
  simp at hi
  subst hi
  exact⟨u,xs,by rw[<-h.1];simp,h1,h2⟩
theorem HD.tabs {K:PySem.W.Frag}{H:Hp}{tt:Addr}{zs:List V}{tabs:List (List (List Int))}(h:HD K H zs tabs)(ht:SqT K H tt zs):Tabs K H tt tabs:=by
 refine⟨zs.map (fun v=>match v with | .ref t=>t|_=>0),?_,by rw[List.length_map];exact h.1,fun i u tb hi hr=>?_⟩
 ·have e:(zs.map (fun v=>match v with | .ref t=>t|_=>0)).map V.ref=zs:=by
   rw[List.map_map]
   refine List.ext_getElem? fun i=>?_
   rw[List.getElem?_map]
   by_cases hi:i<tabs.length
   ·obtain⟨t,_,a,_⟩:=h.2 i tabs[i] (by simp[hi])
    rw[a];rfl
   ·rw[List.getElem?_eq_none (by rw[h.1];omega)];rfl
  rw[e];exact ht
 ·obtain⟨t',xs,a,b,c⟩:=h.2 i tb hr
  rw[List.getElem?_map,a]at hi
  cases hi
  exact⟨xs,b,c⟩
theorem An_ {K:PySem.W.Frag}{u:Addr}{xs:List V}{tb:List (List Int)}{cp:Caps}{te:TE}{Q:VK}{σ σ':St}{H:Hp}(c:Nat)(e:cp.st σ=none::σ')(hu:SqT K H u xs)(hX:A2 K H xs tb)(hc:∀r∈tb,c<r.length)(hz:tb.length<=900)
  (hs:∀(t:Addr) (r:List Int) (R:VK),c<r.length->SqT K H t (r.map V.int)->R (.int (r.getD c 0)) H->te (some (.ref t)::σ') H R)
  (hd:∀D,H D=none->Q (.ref D) (upd H D (.lst ((colW tb c).map V.int)))):(∃xs,SqT K H u xs)/\Js (Itt K u) cp (Mb 0) N4 te σ H Q:=by
 have hl:=An
 have hxl:=hX.1
 refine⟨⟨_,hu⟩,Yo (xs:=xs) (fun i ys σ2 H2=>H2=H/\ys=(colW (tb.take i) c).map V.int/\∃o,σ2=o::σ') ⟨rfl,by simp[colW],none,e⟩ (by omega) (fun i ys σ2 H2 hi h=>⟨by rw[h.1];exact hu,by rw[h.2.1];unfold colW;rw[List.length_map,List.length_map,List.length_take];omega⟩) (fun i x ys σ2 H2 hx h=>?_) (fun ys σ2 H2 h D hD=>?_)⟩
 ·obtain⟨rfl,rfl,o,rfl⟩:=h
  have hi:i<tb.length:=by rw[<-hxl];exact (List.getElem?_eq_some_iff.mp hx).1
  have hai:tb[i]?=some tb[i]:=by simp[hi]
  obtain⟨t,e1,e2⟩:=hX.2 i _ hai
  rw[hx]at e1
  cases e1
  refine hs t tb[i] _ (hc _ (List.getElem_mem hi)) e2 ⟨rfl,?_,_,rfl⟩
  unfold colW
  rw[List.take_add_one,hai,List.map_append,List.map_append];rfl
 ·obtain⟨rfl,rfl,_⟩:=h
  rw[hxl,List.take_length]
  exact hd D hD
def We (K:PySem.W.Frag):Sp:=fun vs H Q _=>∃(u:Addr) (xs:List V) (tb:List (List Int)) (d:Nat),vs=[.ref u]/\SqT K H u xs/\A2 K H xs tb/\Dim d tb/\d<=16/\∀q zs H',Same H H'->H' q=some (.tup zs)->A2 K H' zs (E7 d tb)->Q (.ref q) H'
theorem Qw {f:Addr}{fd:FuncData}(F:Fun K "table_back" "table_back" CM f fd)(T:Txt mg)
  (Z:Exs K mg C_AskError C_BadWord C_NoInverse)
  : FnOk P w K mg base CX0 1 f fd ["table"] (We K):=by
 refine F.ok Qg (fun vs H Q E h=>?_) (fun cdv A outer s H vs Q E hr h=>?_)
 ·obtain⟨u,xs,tb,d,rfl,_⟩:=h;rfl
 ·obtain⟨u,xs,tb,d,rfl,hu,hX,da,hd,k⟩:=h
  have hl:=An
  have hxl:=hX.1
  have hdn:=da.n
  refine⟨_,(Ag (Ap (Ax Av rfl T.tuple PyProof.Rows.boot_tuple (Aa (VX rfl (YJ rfl) (cp:=HS) ⟨⟨rfl,rfl⟩,True.intro⟩ (AQ rfl T.range (Aa (Ak Ai (by rfl) T.len PySem.boot_len (Aa (pv 0) Ab)) Ab)) (fun _ _ _ _=>(Am (i:=0) Kd rfl (Or.inr rfl))) (fun _ _ _ _=>CH) (fun _ _ _ _=>(Ax (Kb (K:=K) rfl) rfl T.tuple PyProof.Rows.boot_tuple (Aa (CG rfl (Du rfl) (cp:=HU) ⟨⟨rfl,rfl⟩,True.intro⟩ (Cf_ (K:=K) rfl (pv 1)) (fun _ _ _ _=>(Am (i:=0) Ke rfl (Or.inl rfl))) (fun _ _ _ _=>CH) (fun _ _ _ _=>(Ar (Ep (K:=K) rfl) (pv 0) (pv 1) (fun _ _=>rfl)))) Ab)))) Ab)))),?_⟩
  walk_at "rd"
  refine⟨_,.inr hu,by omega,by omega,?_⟩
  rw[Int.toNat_natCast,hxl,hdn]
  refine N5 (fun c zs σ4 H4=>Same H H4/\A2 K H4 zs ((List.range c).map (fun c=>colW tb c))/\∃o,σ4=[o,some (.ref u)]) ⟨Same.refl _,A2.nil,none,rfl⟩ (by omega) (fun c zs σ4 H4 _ h4=>?_) (fun c zs σ4 H4 hc h4=>?_) (fun zs σ4 H4 h4 D hD=>?_)
  ·rw[h4.2.1.1,List.length_map,List.length_range];exact Nat.le_refl _
  ·obtain⟨s4,hZ,o,rfl⟩:=h4
   rw[Int.zero_add]
   walk_at "rd"
   refine An_ (σ':=[some (.int c)]) c rfl (s4.seqT hu) (hX.mono s4) (fun r hr=>by rw[da.r r hr];exact hc) (by omega) (fun t r R hcr ht hR=>?_) (fun D hD=>?_)
   ·walk_at "rd"
    exact⟨_,ht,_,MK hcr,hR⟩
   ·refine⟨D,rfl,_,.inl ⟨SqL.of Ac,fun q hq=>?_⟩⟩
    have sq:=(Same.new hD (o:=.lst ((colW tb c).map V.int))).newT hq (o:=.tup ((colW tb c).map V.int))
    refine⟨s4.trans sq,?_,_,rfl⟩
    rw[List.range_succ,List.map_append]
    exact (hZ.mono sq).snoc (SqT.of Ac)
  ·obtain⟨s4,hZ,o,rfl⟩:=h4
   refine⟨D,rfl,_,.inl ⟨SqL.of Ac,fun q hq=>?_⟩⟩
   have sq:=(Same.new hD (o:=.lst zs)).newT hq (o:=.tup zs)
   exact k q zs _ (s4.trans sq) Ac (hZ.mono sq)
def Wg (K:PySem.W.Frag):Sp:=fun vs H Q _=>∃(h:Addr) (p L:Int) (d:Nat) (f l:List Int) (t:List (List (List Int))),vs=[.ref h]/\SumH K H h p L f t l/\WfSum p L d f t l/\L<=6/\∀q H',Same H H'->SumH K H' q p L l (t.map (E7 d)) f->Q (.ref q) H'
theorem Tq {f:Addr}{fd:FuncData}(F:Fun K "sums_back" "sums_back" DD f fd)(T:Txt mg)
  (Z:Exs K mg C_AskError C_BadWord C_NoInverse)
  {C5:Addr} {G3:FuncData} (Io:FnOk P w K mg base CX0 1 C5 G3 ["table"] (We K)) (E8:Fun K "table_back" "table_back" CM C5 G3) (Ip:Binds K G3 ["table"] []) (Iq:mg "table_back"=some (.ref C5))
  : FnOk P w K mg base CX0 2 f fd ["house"] (Wg K):=by
 refine F.ok LU (fun vs H Q E h=>?_) (fun cdv A outer s H vs Q E hr h=>?_)
 ·obtain⟨h,p,L,d,f,l,t,rfl,_⟩:=h;rfl
 ·obtain⟨h,p,L,d,f,l,t,rfl,hs,wf,hL6,k⟩:=h
  have hl:=An
  obtain⟨a1,a2,a3,x1,x2,x3,us,x4,x5,x6⟩:=hs
  have ht:=wf.t
  refine⟨_,(Ad (Aj (i:=1) LU.nd rfl (Or.inl rfl) (Ax Av rfl T.tuple PyProof.Rows.boot_tuple (Aa (CG rfl (Du rfl) (cp:=Kf) True.intro (Hu (Ar Al (pv 0) Af (fun _ _=>rfl))) (fun _ _ _ _=>(Am (i:=0) Mg rfl (Or.inl rfl))) (fun _ _ _ _=>CH) (fun _ _ _ _=>(Ah Io (hr.mono (by decide)) rfl Iq E8.kp Ip .nil AD (Aa (pv 0) Ab)))) Ab)))
   (Ag (Ap (Bz (Aa (Ar Al (pv 0) Af (fun _ _=>rfl)) (Aa (Ar Al (pv 0) Af (fun _ _=>rfl)) (Aa (Ar Al (pv 0) Af (fun _ _=>rfl)) (Aa (pv 1) (Aa (Ar Al (pv 0) Af (fun _ _=>rfl)) Ab))))))))),?_⟩
  walk_at "rd"
  refine⟨_,x1,_,rfl,a2,rfl,⟨_,x4⟩,Yo (xs:=us.map V.ref) (fun i zs σ2 H2=>Same H H2/\HD K H2 zs ((t.map (E7 d)).take i)/\∃o,σ2=[o]) ⟨Same.refl _,HD.nil,none,rfl⟩ (by rw[List.length_map];omega) (fun i zs σ2 H2 hi h=>⟨h.1.seqT x4,by rw[h.2.1.1,List.length_take];omega⟩) (fun i x zs σ2 H2 hx h=>?_) (fun zs σ2 H2 h D hD=>?_)⟩
  ·obtain⟨s,hZ,o,rfl⟩:=h
   obtain⟨u,hu,rfl⟩:∃u,us[i]?=some u/\x=.ref u:=by
    rw[List.getElem?_map]at hx
    cases h1:us[i]? with
    |none=>rw[h1]at hx;cases hx
    |some u=>rw[h1]at hx;cases hx;exact⟨u,rfl,rfl⟩
   have hi:i<t.length:=by rw[<-x5];exact (List.getElem?_eq_some_iff.mp hu).1
   have hti:t[i]?=some t[i]:=by simp[hi]
   obtain⟨xs,c1,c2⟩:=x6 i u _ hu hti
   have hw:=wf.tt _ (List.getElem_mem hi)
   walk_at "rd"
   refine⟨u,xs,t[i],d,rfl,s.seqT c1,c2.mono s,⟨hw.1,hw.2⟩,wf.dl,fun q ys H3 s3 hq hy=>⟨s.trans s3,?_,_,rfl⟩⟩
   rw[List.take_add_one,List.getElem?_map,hti]
   exact (hZ.mono s3).snoc (SqT.of hq) hy
  ·obtain⟨s,hZ,_⟩:=h
   rw[List.length_map,x5,<-List.length_map (f:=E7 d),List.take_length]at hZ
   refine⟨D,rfl,_,.inl ⟨SqL.of Ac,fun q hq=>?_⟩⟩
   have sD:=(Same.new hD (o:=.lst zs)).newT hq (o:=.tup zs)
   have s3:=s.trans sD
   have hq3:upd (upd H2 D (.lst zs)) q (.tup zs) q=some (.tup zs):=Ac
   have hZ3:=hZ.mono sD
   generalize upd (upd H2 D (.lst zs)) q (.tup zs)=H3 at sD s3 hq3 hZ3 ⊢
   refine⟨_,s3.seqT x1,_,rfl,_,s3.seqT x1,_,rfl,_,s3.seqT x1,_,rfl,_,s3.seqT x1,_,rfl,by omega,fun qz hqz=>?_⟩
   have sz:=Same.new hqz (o:=.tup [V.int p,V.int L,V.ref a3,V.ref q,V.ref a1])
   have s4:=s3.trans sz
   exact k qz _ s4 ⟨a3,q,a1,SqT.of Ac,s4.seqT x3,s4.seqT x2,(hZ3.mono sz).tabs (sz.seqT (SqT.of hq3))⟩
theorem Indep.of {p:Int}(hp:2<=p)(hI:∀a:Int,0<a->a<p->∃inv:Int,inv*a%p=1){m:Nat}:∀(k:Nat) (rows:List (List Int)),rows.length=k->(∀i:Nat,i<rows.length->¬ Span p m (rows.take i) fun j=>(rows.getD i []).getD j 0)->Indep p m rows
 |0,rows,hk,_=>by
  have:rows=[]:=List.length_eq_zero_iff.mp hk
  subst this
  exact Indep.nil p m
 |k+1,rows,hk,h=>by
  obtain⟨R,r,rfl⟩:∃R r,rows=R++[r]:=⟨rows.dropLast,rows.getLast (by intro e;subst e;simp at hk),(List.dropLast_concat_getLast _).symm⟩
  have hkl:R.length=k:=by simp at hk;exact hk
  have ih:=Indep.of hp hI k R hkl fun i hi=>by
   have:=h i (by simp;omega)
   rw[List.take_append_of_le_length (by omega)]at this
   rw[List.getD_eq_getElem?_getD,List.getElem?_append_left hi]at this
   rw[List.getD_eq_getElem?_getD]
   exact this
  have hl:=h R.length (by simp)
  rw[List.take_left' rfl,List.getD_eq_getElem?_getD,List.getElem?_append_right (Nat.le_refl _),Nat.sub_self]at hl
  intro cs hc h0
  obtain⟨ds,c,rfl⟩:∃ds c,cs=ds++[c]:=⟨cs.dropLast,cs.getLast (by intro e;subst e;simp at hc),(List.dropLast_concat_getLast _).symm⟩
  have hdl:ds.length=R.length:=by simp at hc;exact hc
  have hsum:∀i:Nat,i<m->(dotW ds (colW R i)+c*r.getD i 0)%p=0:=fun i hi=>by
   have:=h0 i hi
   rw[Qr]at this
   rw[show colW [r] i=[r.getD i 0] from rfl,GX _ _ (by rw[EW,hdl])]at this
   exact this
  have hc0:c%p=0:=by
   refine Decidable.byContradiction fun hne=>hl ?_
   have hm0:=Int.emod_nonneg c (show p≠0 by omega)
   have hm1:=Int.emod_lt_of_pos c (show 0<p by omega)
   obtain⟨inv,hinv⟩:=hI (c%p) (by omega) hm1
   refine⟨ds.map (-inv * ·),by rw[List.length_map,hdl],fun i hi=>?_⟩
   rw[HV]
   show ((some r).getD []).getD i 0%p=_
   have h1:=hsum i hi
   have hinv':inv*c%p=1:=by rw[Int.mul_emod,<-hinv,Int.mul_emod inv (c%p),Int.emod_emod_of_dvd _ (Int.dvd_refl p)]
   have e:r.getD i 0 - -inv*dotW ds (colW R i)=inv*(dotW ds (colW R i)+c*r.getD i 0)-(inv*c-1)*r.getD i 0:=by
    rw[Int.mul_add,Int.sub_mul,Int.one_mul,Int.neg_mul,Int.mul_assoc];omega
   refine Int.emod_eq_emod_iff_emod_sub_eq_zero.mpr ?_
   show (r.getD i 0-_)%p=0
   rw[e]
   have d1:p ∣ inv*(dotW ds (colW R i)+c*r.getD i 0):=Int.dvd_mul_of_dvd_right (Int.dvd_of_emod_eq_zero h1)
   have d2:p ∣ (inv*c-1)*r.getD i 0:=Int.dvd_mul_of_dvd_left (Int.dvd_of_emod_eq_zero (by rw[Int.sub_emod,hinv'];have:(1:Int)%p=1:=Int.emod_eq_of_lt (by omega) (by omega);rw[this];simp))
   exact Int.emod_eq_zero_of_dvd (Int.dvd_sub d1 d2)
  intro x hx
  rcases List.mem_append.mp hx with hx|hx
  ·refine ih ds hdl (fun i hi=>?_) x hx
   have h1:=hsum i hi
   rw[Int.add_emod,Int.mul_emod,hc0]at h1
   simpa using h1
  ·rw[List.mem_singleton.mp hx];exact hc0
structure BW (p L:Int)(d:Nat)(tables:List (List (List Int)))(first:List Int)(F:List (List Int))(n:Nat)(K:List (List Int)):Prop where
 nF:n<=F.length
 f0:F[0]?=some []
 valid:∀f∈F,isW L f=true
 sorted:F.Pairwise fun a b=>place L a<place L b
 from_:∀f∈F,f=[] \/ ∃u x,f=u++[x]/\u∈F.take n
 kF:∀w∈K,w∈F.take n
 kSort:K.Pairwise fun a b=>place L a<place L b
 kids:∀w∈K,∀x:Int,0<=x->x<L->w++[x]∈F
 kPre:∀w∈K,w=[]\/w.dropLast∈K
 fPre:∀f∈F,f=[]\/f.dropLast∈K
 free:∀i:Nat,i<K.length->¬ Span p d ((K.take i).map (rowS p d tables first)) fun j=>(rowS p d tables first (K.getD i [])).getD j 0
 span:∀f∈F.take n,∃j:Nat,j<=K.length/\Span p d ((K.take j).map (rowS p d tables first)) (fun i=>(rowS p d tables first f).getD i 0)/\∀w∈K.take j,place L w<=place L f
 flen:(F.length:Int)=1+K.length*L
 short:∀f∈F,f.length<=K.length
 zero:n=0->K=[]/\F=[[]]
 nil0:0<n->(∀i:Nat,i<d->first.getD i 0%p=0)->K=[]
 nil1:0<n->¬ (∀i:Nat,i<d->first.getD i 0%p=0)->K[0]?=some []
theorem BW.start {p L:Int}{d:Nat}{tables:List (List (List Int))}{first:List Int}:BW p L d tables first [[]] 0 [] where
 nF:=by simp
 f0:=rfl
 valid:=fun f hf=>by rw[List.mem_singleton.mp hf];rfl
 sorted:=List.pairwise_singleton ..
 from_:=fun f hf=>.inl (List.mem_singleton.mp hf)
 kF:=fun w hw=>by cases hw
 kSort:=.nil
 kids:=fun w hw=>by cases hw
 kPre:=fun w hw=>by cases hw
 fPre:=fun f hf=>.inl (List.mem_singleton.mp hf)
 free:=fun i hi=>by simp at hi
 span:=fun f hf=>by simp at hf
 flen:=by simp
 short:=fun f hf=>by rw[List.mem_singleton.mp hf];exact Nat.le_refl _
 zero:=fun _=>⟨rfl,rfl⟩
 nil0:=fun h=>absurd h (Nat.lt_irrefl 0)
 nil1:=fun h=>absurd h (Nat.lt_irrefl 0)
theorem U5 {α:Type}{R:α->α->Prop}{F:List α}(h:F.Pairwise R){n:Nat}{f w:α}(hf:F[n]?=some f)(hw:w∈F.take n):R w f:=by
 obtain⟨i,hi⟩:=List.mem_iff_getElem?.mp hw
 rw[List.getElem?_take]at hi
 split at hi
 ·rename_i hlt
  have h1:=(List.getElem?_eq_some_iff.mp hi)
  have h2:=(List.getElem?_eq_some_iff.mp hf)
  have:=List.pairwise_iff_getElem.mp h i n h1.1 h2.1 hlt
  rw[h1.2,h2.2]at this
  exact this
 ·cases hi
theorem BU {α:Type}{F:List α}{n:Nat}{f x:α}(hf:F[n]?=some f):x∈F.take (n+1)↔x∈F.take n\/x=f:=by
 rw[List.take_add_one,hf]
 simp
section
variable {p L:Int} {d:Nat} {tables:List (List (List Int))} {first:List Int} {F:List (List Int)} {n:Nat} {K:List (List Int)}
theorem BW.lt (h:BW p L d tables first F n K){f w:List Int}(hf:F[n]?=some f)(hw:w∈K):place L w<place L f:=U5 h.sorted hf (h.kF w hw)
theorem BW.once (h:BW p L d tables first F n K){f:List Int}(hf:F[n]?=some f)(hn:0<n):f ≠ []:=fun e=>by
 have h0:([]:List Int)∈F.take n:=List.mem_iff_getElem?.mpr ⟨0,by rw[List.getElem?_take,if_pos hn];exact h.f0⟩
 have:=U5 h.sorted hf h0
 rw[e]at this
 omega
theorem BW.some_ (h:BW p L d tables first F n K){f:List Int}(hf:F[n]?=some f)(hn:0<n):K ≠ []:=fun e=>by
 rcases h.fPre f (List.mem_of_getElem? hf) with z|z
 ·exact h.once hf hn z
 ·rw[e]at z;cases z
theorem BW.same (h:BW p L d tables first F n K){v:Nat->Int}:Span p d ((F.take n).map (rowS p d tables first)) v↔Span p d (K.map (rowS p d tables first)) v:=by
 constructor
 ·refine fun g=>g.trans fun r hr=>?_
  obtain⟨f,hf,rfl⟩:=List.mem_map.mp hr
  obtain⟨j,hj,a,_⟩:=h.span f hf
  have:=a.app ((K.drop j).map (rowS p d tables first))
  rwa [<-List.map_append,List.take_append_drop]at this
 ·refine fun g=>g.trans fun r hr=>?_
  obtain⟨w,hw,rfl⟩:=List.mem_map.mp hr
  exact Span.mem (List.mem_map_of_mem (h.kF w hw))
theorem BW.skip (h:BW p L d tables first F n K){f:List Int}(hf:F[n]?=some f)(hs:Span p d (K.map (rowS p d tables first)) fun i=>(rowS p d tables first f).getD i 0):BW p L d tables first F (n+1) K where
 nF:=(List.getElem?_eq_some_iff.mp hf).1
 f0:=h.f0
 valid:=h.valid
 sorted:=h.sorted
 from_:=fun g hg=>by
  rcases h.from_ g hg with z|⟨u,x,a,b⟩
  ·exact .inl z
  ·exact .inr ⟨u,x,a,(BU hf).mpr (.inl b)⟩
 kF:=fun w hw=>(BU hf).mpr (.inl (h.kF w hw))
 kSort:=h.kSort
 kids:=h.kids
 kPre:=h.kPre
 fPre:=h.fPre
 free:=h.free
 flen:=h.flen
 short:=h.short
 span:=fun g hg=>by
  rcases (BU hf).mp hg with hg|rfl
  ·exact h.span g hg
  ·exact⟨K.length,Nat.le_refl _,by rw[List.take_length];exact hs,fun w hw=>by rw[List.take_length]at hw;exact Int.le_of_lt (h.lt hf hw)⟩
 zero:=fun z=>by omega
 nil0:=fun _ z=>by
  by_cases hn:n=0
  ·exact (h.zero hn).1
  ·exact h.nil0 (by omega) z
 nil1:=fun _ z=>by
  by_cases hn:n=0
  ·subst hn
   obtain⟨e1,e2⟩:=h.zero rfl
   rw[h.f0]at hf
   cases hf
   rw[e1]at hs
   obtain⟨cs,a,b⟩:=hs
   have:cs=[]:=List.length_eq_zero_iff.mp a
   subst this
   refine absurd (fun i hi=>?_) z
   have e:first.getD i 0%p=dotW [] _%p:=b i hi
   rw[e,BE];simp
  ·exact h.nil1 (by omega) z
theorem BW.add {Ln:Nat}(hL:L=(Ln:Int))(h:BW p L d tables first F n K){f:List Int}(hf:F[n]?=some f)(hs:¬ Span p d (K.map (rowS p d tables first)) fun i=>(rowS p d tables first f).getD i 0):BW p L d tables first (F++(List.range Ln).map fun (x:Nat)=>f++[(x:Int)]) (n+1) (K++[f]):=by
 have hfF:=List.mem_of_getElem? hf
 have hfv:=h.valid f hfF
 have hnl:=(List.getElem?_eq_some_iff.mp hf).1
 have htk:(F++(List.range Ln).map fun (x:Nat)=>f++[(x:Int)]).take (n+1)=F.take (n+1):=List.take_append_of_le_length (by omega)
 have hp0:∀w:List Int,isW L w=true->0<=place L w:=fun w hw=>by
  by_cases hL0:0<L
  ·have:=(EZ hL0 hw).1
   have:=DC hL0 w.length
   omega
  ·cases w with
   |nil=>rw[MT];exact Int.le_refl 0
   |cons x w=>have:=AB.mp hw x (by simp);omega
 have hnew:∀g∈(List.range Ln).map (fun (x:Nat)=>f++[(x:Int)]),∃x:Int,g=f++[x]/\0<=x/\x<L:=fun g hg=>by
  obtain⟨x,hx,rfl⟩:=List.mem_map.mp hg
  exact⟨x,rfl,by omega,by have:=List.mem_range.mp hx;omega⟩
 refine⟨by simp;omega,?_,fun g hg=>?_,?_,fun g hg=>?_,fun w hw=>?_,?_,fun w hw x x0 x1=>?_,fun w hw=>?_,fun g hg=>?_,fun i hi=>?_,fun g hg=>?_,?_,fun g hg=>?_,fun z=>by omega,fun _ z=>?_,fun _ z=>?_⟩
 ·rw[List.getElem?_append_left (by omega)];exact h.f0
 ·rcases List.mem_append.mp hg with hg|hg
  ·exact h.valid g hg
  ·obtain⟨x,rfl,x0,x1⟩:=hnew g hg
   refine AB.mpr fun y hy=>?_
   rcases List.mem_append.mp hy with hy|hy
   ·exact AB.mp hfv y hy
   ·rw[List.mem_singleton.mp hy];exact⟨x0,x1⟩
 ·refine List.pairwise_append.mpr ⟨h.sorted,?_,fun a ha b hb=>?_⟩
  ·refine List.pairwise_map.mpr ((List.pairwise_lt_range).imp fun {x y} hxy=>?_)
   rw[Gy,Gy];omega
  ·obtain⟨x,rfl,x0,x1⟩:=hnew b hb
   rw[Gy]
   have hpf:=hp0 f hfv
   have hm:0<=place L f*L:=Int.mul_nonneg hpf (by omega)
   rcases h.from_ a ha with rfl|⟨u,y,rfl,hu⟩
   ·rw[MT];omega
   ·have hlt:=U5 h.sorted hf hu
    have hy:=AB.mp (h.valid _ ha) y (by simp)
    rw[Gy]
    have:(place L u+1)*L<=place L f*L:=Int.mul_le_mul_of_nonneg_right (by omega) (by omega)
    rw[Int.add_mul,Int.one_mul]at this
    omega
 ·rw[htk]
  rcases List.mem_append.mp hg with hg|hg
  ·rcases h.from_ g hg with z|⟨u,x,a,b⟩
   ·exact .inl z
   ·exact .inr ⟨u,x,a,(BU hf).mpr (.inl b)⟩
  ·obtain⟨x,rfl,x0,x1⟩:=hnew g hg
   exact .inr ⟨f,x,rfl,(BU hf).mpr (.inr rfl)⟩
 ·rw[htk]
  rcases List.mem_append.mp hw with hw|hw
  ·exact (BU hf).mpr (.inl (h.kF w hw))
  ·exact (BU hf).mpr (.inr (List.mem_singleton.mp hw))
 ·refine List.pairwise_append.mpr ⟨h.kSort,List.pairwise_singleton ..,fun a ha b hb=>?_⟩
  rw[List.mem_singleton.mp hb]
  exact h.lt hf ha
 ·rcases List.mem_append.mp hw with hw|hw
  ·exact List.mem_append_left _ (h.kids w hw x x0 x1)
  ·rw[List.mem_singleton.mp hw]
   refine List.mem_append_right _ (List.mem_map.mpr ⟨x.toNat,List.mem_range.mpr (by omega),?_⟩)
   rw[Int.toNat_of_nonneg x0]
 ·rcases List.mem_append.mp hw with hw|hw
  ·rcases h.kPre w hw with z|z
   ·exact .inl z
   ·exact .inr (List.mem_append_left _ z)
  ·rw[List.mem_singleton.mp hw]
   rcases h.fPre f hfF with z|z
   ·exact .inl z
   ·exact .inr (List.mem_append_left _ z)
 ·rcases List.mem_append.mp hg with hg|hg
  ·rcases h.fPre g hg with z|z
   ·exact .inl z
   ·exact .inr (List.mem_append_left _ z)
  ·obtain⟨x,rfl,x0,x1⟩:=hnew g hg
   exact .inr (by rw[List.dropLast_concat];simp)
 ·by_cases hik:i<K.length
  ·have:=h.free i hik
   rw[List.take_append_of_le_length (by omega),List.getD_eq_getElem?_getD,List.getElem?_append_left hik,<-List.getD_eq_getElem?_getD]
   exact this
  ·have ei:i=K.length:=by simp at hi;omega
   subst ei
   rw[List.take_left' rfl,List.getD_eq_getElem?_getD,List.getElem?_append_right (Nat.le_refl _),Nat.sub_self]
   exact hs
 ·rw[htk]at hg
  rcases (BU hf).mp hg with hg|rfl
  ·obtain⟨j,a,b,c⟩:=h.span g hg
   refine⟨j,by simp;omega,?_,?_⟩
   ·rw[List.take_append_of_le_length a];exact b
   ·rw[List.take_append_of_le_length a];exact c
  ·refine⟨K.length+1,by simp,?_,fun w hw=>?_⟩
   ·rw[List.take_of_length_le (by simp),List.map_append]
    exact Span.last _ _
   ·rw[List.take_of_length_le (by simp)]at hw
    rcases List.mem_append.mp hw with hw|hw
    ·exact Int.le_of_lt (h.lt hf hw)
    ·rw[List.mem_singleton.mp hw];exact Int.le_refl _
 ·have:=h.flen
  rw[List.length_append,List.length_append,List.length_map,List.length_range]
  push_cast
  rw[this,<-hL,Int.add_mul]
  simp
  omega
 ·rw[List.length_append,List.length_singleton]
  rcases List.mem_append.mp hg with hg|hg
  ·have:=h.short g hg;omega
  ·obtain⟨x,rfl,x0,x1⟩:=hnew g hg
   rw[List.length_append,List.length_singleton]
   have:=h.short f hfF;omega
 ·exfalso
  by_cases hn:n=0
  ·subst hn
   obtain⟨e1,e2⟩:=h.zero rfl
   rw[h.f0]at hf
   cases hf
   rw[e1]at hs
   exact hs ⟨[],rfl,fun i hi=>by rw[BE];show first.getD i 0%p=0%p;rw[z i hi];simp⟩
  ·exact h.some_ hf (by omega) (h.nil0 (by omega) z)
 ·by_cases hn:n=0
  ·subst hn
   obtain⟨e1,e2⟩:=h.zero rfl
   rw[h.f0]at hf
   cases hf
   rw[e1];rfl
  ·have:=h.nil1 (by omega) z
   have hk:0<K.length:=(List.getElem?_eq_some_iff.mp this).1
   rw[List.getElem?_append_left hk];exact this
end
def RowD (K:PySem.W.Frag)(H:Hp)(kvs:List (List Key×V))(ws:List (List Int))(row:List Int->List Int):Prop:=S9 ws kvs/\A2 K H (kvs.map (·.2)) (ws.map row)
def Prs (K:PySem.W.Frag)(H:Hp)(xs:List V)(ws:List (List Int))(row:List Int->List Int):Prop:=xs.length=ws.length/\∀(i:Nat) (v:List Int),ws[i]?=some v->∃t a b,xs[i]?=some (.ref t)/\SqT K H t [.ref a,.ref b]/\H a=some (.tup (v.map V.int))/\SqT K H b ((row v).map V.int)
theorem Prs.mono {K:PySem.W.Frag}{H H':Hp}{xs:List V}{ws:List (List Int)}{row:List Int->List Int}(h:Prs K H xs ws row)(s:∀t ys,SqT K H t ys->SqT K H' t ys)(s2:∀t ys,H t=some (.tup ys)->H' t=some (.tup ys)):Prs K H' xs ws row:=⟨h.1,fun i v hi=>by
 obtain⟨t,a,b,e,h1,h2,h3⟩:=h.2 i v hi
 exact⟨t,a,b,e,s _ _ h1,s2 _ _ h2,s _ _ h3⟩⟩
theorem Prs.snoc {K:PySem.W.Frag}{H:Hp}{xs:List V}{ws:List (List Int)}{row:List Int->List Int}(h:Prs K H xs ws row){t a b:Addr}{v:List Int}(h1:SqT K H t [.ref a,.ref b])(h2:H a=some (.tup (v.map V.int)))(h3:SqT K H b ((row v).map V.int)):Prs K H (xs++[.ref t]) (ws++[v]) row:=by
 refine⟨by rw[List.length_append,List.length_append,h.1];rfl,fun i r hi=>?_⟩
 by_cases hil:i<ws.length
 ·rw[List.getElem?_append_left hil]at hi
  rw[List.getElem?_append_left (by rw[h.1];exact hil)]
  exact h.2 i r hi
 ·have:=(List.getElem?_eq_some_iff.mp hi).1
  rw[List.length_append,List.length_singleton]at this
  have ei:i=ws.length:=by omega
  subst ei
  rw[List.getElem?_append_right (Nat.le_refl _),Nat.sub_self]at hi
  simp at hi
  subst hi
  exact⟨t,a,b,by rw[<-h.1];simp,h1,h2,h3⟩
theorem A2.mono2 {K:PySem.W.Frag}{H H':Hp}{xs:List V}{rows:List (List Int)}(h:A2 K H xs rows)(s:∀t ys,SqT K H t ys->SqT K H' t ys):A2 K H' xs rows:=⟨h.1,fun i r hi=>by
 obtain⟨t,e,h1⟩:=h.2 i r hi
 exact⟨t,e,s _ _ h1⟩⟩
theorem _root_.L2.Same.gone' {H H':Hp}{a:Addr}(s:Same H H')(h:H' a=none):H a=none:=by
 cases e:H a with
 |none=>rfl
 |some u=>rw[s _ _ e]at h;cases h
theorem Nq {K:PySem.W.Frag}{H:Hp}{p t:Addr}{xs:List V}{kvs kvs':List (List Key×V)}(hp:H p=some (.dT kvs))(h:SqT K H t xs):SqT K (upd H p (.dT kvs')) t xs:=by
 rcases h with (q|⟨o,q⟩)|q
 ·refine .inl (.inl ?_)
  rw[Aw (fun z=>by rw[z,hp]at q;cases q)];exact q
 ·refine .inl (.inr ⟨o,?_⟩)
  rw[Aw (fun z=>by rw[z,hp]at q;cases q)];exact q
 ·exact .inr q
theorem BasD.offT {K:PySem.W.Frag}{H:Hp}{p d:Addr}{bs:List (Nat×List Int)}{kvs kvs':List (List Key×V)}(h:BasD K H d bs)(hp:H p=some (.dT kvs)):BasD K (upd H p (.dT kvs')) d bs:=by
 obtain⟨kv,h1,h2,h3⟩:=h
 refine⟨kv,?_,h2,fun i x hx=>?_⟩
 ·rcases h1 with h1|⟨o,h1⟩
  ·exact .inl (by rw[Aw (fun z=>by rw[z,hp]at h1;cases h1)];exact h1)
  ·exact .inr ⟨o,by rw[Aw (fun z=>by rw[z,hp]at h1;cases h1)];exact h1⟩
 ·obtain⟨t,a,b⟩:=h3 i x hx
  exact⟨t,a,Nq hp b⟩
theorem BasD.ne {K:PySem.W.Frag}{H:Hp}{p d:Addr}{bs:List (Nat×List Int)}{o:HO}(h:BasD K H d bs)(hp:H p=some o)(h1:∀kvs,o ≠ .dK kvs)(h2:∀ob kvs,o ≠ .frz ob (.dK kvs)):p≠d:=fun z=>by
 obtain⟨kv,h3,_⟩:=h
 rcases h3 with h3|⟨ob,h3⟩
 ·rw[<-z,hp]at h3;exact h1 _ (Option.some.inj h3)
 ·rw[<-z,hp]at h3;exact h2 _ _ (Option.some.inj h3)
theorem _root_.L2.FzAt.tup {d a:Addr}{H H':Hp}{xs:List V}(s:FzAt d H H')(h:H a=some (.tup xs)):H' a=some (.tup xs):=by
 by_cases e:a=d
 ·subst e
  rcases s.2 _ h with g|⟨kvs,o,g,_⟩
  ·exact g
  ·cases g
 ·exact s.1 a _ e h
def Qx (K:PySem.W.Frag):Sp:=fun vs H Q _=>∃(h:Addr) (p:Int) (L d:Nat) (first last:List Int) (tables:List (List (List Int))),vs=[.ref h]/\Pr p/\SumH K H h p L first tables last/\WfSum p L d first tables last/\L<=6/\d<=16/\∀q kvs F ws H',Same H H'->H' q=some (.dT kvs)->H q=none->RowD K H' kvs ws (Mine.rowS p d tables first)->BW p L d tables first F F.length ws->ws.length<=d->Q (.ref q) H'
theorem Qy {f:Addr}{fd:FuncData}(F:Fun K "basis_rows" "basis_rows" Cj f fd)(T:Txt mg)
  (Z:Exs K mg C_AskError C_BadWord C_NoInverse)
  {Au:Addr} {AA:FuncData} (AV:FnOk P w K mg base CX0 1 Au AA ["row"] (V6 K)) (AH:Fun K "place_of_first" "place_of_first" AU Au AA) (AW:Binds K AA ["row"] []) (AX:mg "place_of_first"=some (.ref Au))
  {A6:Addr} {Bg:FuncData} (Cw:FnOk P w K mg base CX0 2 A6 Bg ["p","bases","row"] (Nd K)) (BR:Fun K "left_of" "left_of" Dx A6 Bg) (Cy:Binds K Bg ["p","bases","row"] []) (Cz:mg "left_of"=some (.ref A6))
  {BF:Addr} {CZ:FuncData} (Ew:FnOk P w K mg base CX0 3 BF CZ ["p","bases","left","place"] (Cl_ K)) (C0:Fun K "with_base" "with_base" CI BF CZ) (Ex:Binds K CZ ["p","bases","left","place"] []) (Ey:mg "with_base"=some (.ref BF))
  {BG:Addr} {Ca:FuncData} (Eb:FnOk P w K mg base CX0 3 BG Ca ["house","row","letter"] (IW K)) (C2:Fun K "stepped" "stepped" D3 BG Ca) (Ec:Binds K Ca ["house","row","letter"] []) (Ed:mg "stepped"=some (.ref BG))
  : FnOk P w K mg base CX0 4 f fd ["house"] (Qx K):=by
 refine F.ok AO (fun vs H Q E h=>?_) (fun cdv A outer s H vs Q E hr h=>?_)
 ·obtain⟨h,p,L,d,first,last,tables,rfl,_⟩:=h;rfl
 ·obtain⟨h,p,L,d,first,last,tables,rfl,hp,hh,wf,hL6,hd16,k⟩:=h
  have hl:=An
  have hp1:=hp.1
  have hp2:=hp.2.1
  obtain⟨tf,tt,tl,h1,h2,h3,h4⟩:=id hh
  refine⟨_,(Ad (Aj (i:=1) AO.nd rfl (Or.inl rfl) (Ar Al (pv 0) Af (fun _ _=>rfl)))
   (Ad (Aj (i:=2) AO.nd rfl (Or.inl rfl) ZQ)
   (Ad (Aj (i:=3) AO.nd rfl (Or.inl rfl) P0)
   (Ad (Aj (i:=4) AO.nd rfl (Or.inl rfl) (Fm (Aa (Bz (Aa (Bz Ab) (Aa (Ar Al (pv 0) Af (fun _ _=>rfl)) Ab))) Ab)))
   (Ad (Aj (i:=5) AO.nd rfl (Or.inl rfl) Af)
   (Ad (PQ PassesOwn.never (AJ SN (pv 5) (Ak Ai (by rfl) T.len PySem.boot_len (Aa (pv 4) Ab)) (A3 _))
   (Ad (Aj (i:=6) AO.nd rfl (Or.inl rfl) (Ar Al (Ar CF (pv 4) (pv 5) (fun _ _=>rfl)) Af (fun _ _=>rfl)))
   (Ad (Aj (i:=7) AO.nd rfl (Or.inl rfl) (Ar Al (Ar CF (pv 4) (pv 5) (fun _ _=>rfl)) Af (fun _ _=>rfl)))
   (Ad (Aj (i:=8) AO.nd rfl (Or.inl rfl) (Ah Cw (hr.mono (by decide)) rfl Cz BR.kp Cy .nil AD (Aa (pv 1) (Aa (pv 3) (Aa (pv 7) Ab)))))
   (Ad (Aj (i:=9) AO.nd rfl (Or.inl rfl) (Ah AV (hr.mono (by decide)) rfl AX AH.kp AW .nil AD (Aa (pv 8) Ab)))
   (Yp (Dt (AJ X0 (pv 9) SK (A3 _))
   (Ad (UK (ZK hr) (pv 2) (pv 6) (pv 7) rfl)
   (Ad (Aj (i:=3) AO.nd rfl (Or.inl rfl) (Ah Ew (hr.mono (by decide)) rfl Ey C0.kp Ex .nil AD (Aa (pv 1) (Aa (pv 3) (Aa (pv 8) (Aa (pv 9) Ab))))))
   (Ag (B7 PassesOwn.never rfl (AQ rfl T.range (Aa (Ar Al (pv 0) Af (fun _ _=>rfl)) Ab)) (Am (i:=10) AO.nd rfl (Or.inl rfl))
   (Ag (DB (J4 PySem.F.plainAttrs_list PySem.F.slot_list_append PySem.F.type_list_append B9 (pv 4) (Aa (Bz (Aa (Aq Dp (pv 6) (Bz (Aa (pv 10) Ab))) (Aa (Ah Eb (hr.mono (by decide)) rfl Ed C2.kp Ec .nil AD (Aa (pv 0) (Aa (pv 7) (Aa (pv 10) Ab)))) Ab))) Ab))))))))
   AY)
   (Ag (CM_ (i:=5) AO.nd rfl (Or.inl rfl) Af CN_))))))))
   (Ag (Ap (pv 2))))))))),?_⟩
  walk_at "rd"
  refine⟨_,h1,V.int p,rfl,fun dr hdr db hdb=>?_⟩
  refine⟨by omega,fun t0 ht0=>⟨_,(((Same.new hdr (o:=.dT [])).newT hdb (o:=.dK [])).newT ht0 (o:=.tup [])).seqT h1,V.ref tf,rfl,by omega,fun t1 ht1=>⟨by omega,fun pf hpf=>?_⟩⟩⟩
  have s0:=(((Same.new hdr (o:=.dT [])).newT hdb (o:=.dK [])).newT ht0 (o:=.tup [])).newT ht1 (o:=.tup [V.ref t0,V.ref tf])
  have sP:=s0.newT hpf (o:=.lst [V.ref t1])
  have hdbN:H db=none:=(Same.new hdr (o:=.dT [])).gone' hdb
  have hpfN:H pf=none:=s0.gone' hpf
  have u_dr:upd (upd (upd (upd (upd H dr (HO.dT [])) db (HO.dK [])) t0 (HO.tup [])) t1 (HO.tup [V.ref t0,V.ref tf])) pf (HO.lst [V.ref t1]) dr=some (.dT []):=Same.new hpf _ _ (Same.new ht1 _ _ (Same.new ht0 _ _ (Same.new hdb _ _ Ac)))
  have u_db:upd (upd (upd (upd (upd H dr (HO.dT [])) db (HO.dK [])) t0 (HO.tup [])) t1 (HO.tup [V.ref t0,V.ref tf])) pf (HO.lst [V.ref t1]) db=some (.dK []):=Same.new hpf _ _ (Same.new ht1 _ _ (Same.new ht0 _ _ Ac))
  have u_pf:upd (upd (upd (upd (upd H dr (HO.dT [])) db (HO.dK [])) t0 (HO.tup [])) t1 (HO.tup [V.ref t0,V.ref tf])) pf (HO.lst [V.ref t1]) pf=some (.lst [V.ref t1]):=Ac
  have u_t1:upd (upd (upd (upd (upd H dr (HO.dT [])) db (HO.dK [])) t0 (HO.tup [])) t1 (HO.tup [V.ref t0,V.ref tf])) pf (HO.lst [V.ref t1]) t1=some (.tup [V.ref t0,V.ref tf]):=Same.new hpf _ _ Ac
  have u_t0:upd (upd (upd (upd (upd H dr (HO.dT [])) db (HO.dK [])) t0 (HO.tup [])) t1 (HO.tup [V.ref t0,V.ref tf])) pf (HO.lst [V.ref t1]) t0=some (.tup []):=Same.new hpf _ _ (Same.new ht1 _ _ Ac)
  generalize upd (upd (upd (upd (upd H dr (HO.dT [])) db (HO.dK [])) t0 (HO.tup [])) t1 (HO.tup [V.ref t0,V.ref tf])) pf (HO.lst [V.ref t1])=H0 at sP u_dr u_db u_pf u_t1 u_t0 ⊢
  clear s0 hpf ht1 ht0 hdb
  obtain⟨R,hRd⟩:∃R:List Int->List Int,R=Mine.rowS p d tables first:=⟨_,rfl⟩
  have hR0:R []=first:=by rw[hRd];rfl
  have hRl:∀v,isW L v=true->(R v).length=d/\∀y∈R v,0<=y/\y<p:=fun v hv=>by rw[hRd];exact wf.row v
  have hRs:∀v x,R (v++[x])=Fi p d tables (R v) x:=fun v x=>by rw[hRd];unfold Mine.rowS;rw[List.foldl_append];rfl
  obtain⟨Pv,hPv⟩:∃Pv:Nat->St->Hp->Prop,∀m σ' H',Pv m σ' H'↔(∃(F ws:List (List Int)) (bs:List (Nat×List Int)) (n:Nat) (b:Addr) (kvs:List (List Key×V)) (xs:List V) (o6 o7 o8 o9 o10:Option V),m=1+d*L-n/\Same H H'/\H' dr=some (.dT kvs)/\RowD K H' kvs ws R/\BasD K H' b bs/\H b=none/\H' pf=some (.lst xs)/\Prs K H' xs F R/\BW p L d tables first F n ws/\Seen p d d ((F.take n).map R) bs/\bs.length=ws.length/\σ'=[some (.ref h),some (.int p),some (.ref dr),some (.ref b),some (.ref pf),some (.int n),o6,o7,o8,o9,o10]):=⟨_,fun _ _ _=>Iff.rfl⟩
  refine Yt Pv ⟨_,(hPv _ _ _).mpr ⟨[[]],[],[],0,db,[],[V.ref t1],none,none,none,none,none,rfl,sP,u_dr,⟨rfl,rfl,fun i r hi=>by simp at hi⟩,PutD.bas (PutD.nil u_db),hdbN,u_pf,⟨rfl,fun i v hi=>?_⟩,BW.start,⟨⟨by simp,by simp,.nil⟩,by simp,by simp,by simp⟩,rfl,rfl⟩⟩ ?_
  ·match i,hi with
   |0,hi=>
    cases hi
    exact⟨t1,t0,tf,rfl,SqT.of u_t1,u_t0,by rw[hR0];exact sP.seqT h2⟩
   |j+1,hi=>simp at hi
  intro m σ' H' h'
  obtain⟨F,ws,bs,n,b,kvs,xs,o6,o7,o8,o9,o10,rfl,s1,c1,c2,c3,c4,c5,c6,bw,sn,hbl,rfl⟩:=(hPv _ _ _).mp h'
  have hbd:bs.length<=d:=by
   have:=V4 d (bs.map (·.1)) sn.b.nodup fun x hx=>by
    obtain⟨y,hy,rfl⟩:=List.mem_map.mp hx
    exact sn.lt y hy
   rwa [List.length_map]at this
  have hFl:=bw.flen
  have hFd:F.length<=1+d*L:=by
   have:(ws.length:Int)*L<=d*L:=Int.mul_le_mul_of_nonneg_right (by omega) (by omega)
   have e:((d*L:Nat):Int)=(d:Int)*L:=by push_cast;rfl
   omega
  have hdL:d*L<=96:=by
   have:=Nat.mul_le_mul hd16 hL6
   omega
  have c6l:=c6.1
  walk_at "rd"
  refine⟨_,.inl (SqL.of c5),ite2 (fun hlt=>?_) (fun hge=>?_)⟩
  ·have hnF:n<F.length:=by omega
   have hfn:F[n]?=some F[n]:=by simp
   obtain⟨t,a,rr,e1,e2,e3,e4⟩:=c6.2 n _ hfn
   have hfv:=bw.valid _ (List.mem_of_getElem? hfn)
   generalize F[n]=f at hfn e3 e4 hfv
   have hrl:=hRl f hfv
   refine⟨Pv (1+d*L-(n+1)),fun σ2 H2 h2=>⟨_,by omega,h2⟩,?_⟩
   refine⟨_,SqL.of c5,V.ref t,Bc e1,t,rfl,_,e2,V.ref a,rfl,_,SqL.of c5,V.ref t,Bc e1,t,rfl,_,e2,V.ref rr,rfl,?_⟩
   have hdb:dr≠b:=c3.ne c1 (fun _ z=>by cases z) (fun _ _ z=>by cases z)
   have hpb:pf≠b:=c3.ne c5 (fun _ z=>by cases z) (fun _ _ z=>by cases z)
   have hdp:dr≠pf:=fun z=>by rw[z,c5]at c1;cases c1
   refine⟨p,b,rr,true,bs,R f,rfl,by omega,by omega,c3,e4,by omega,fun x hx=>by rw[hrl.1];exact⟨(sn.b.len x hx).1,(sn.b.len x hx).2.1⟩,fun q1 H3 hF3 hq1=>?_⟩
   have hiff:=sn.iff (by omega) (Nat.le_refl d) hrl.1
   have hll:=(D5 (R f) hrl.1 bs sn.b).1
   have hlin:=HW (p:=p) (by omega) (R f) bs
   have hown:=Qp (p:=p) (by omega) hrl.1 sn.b
   have hmore:=fun (inv:Int) (qq:Nat) (h1:qq<d) (h2:inv*(Az p bs (R f)).getD qq 0%p=1)=>sn.more (inv:=inv) hp1 (Nat.le_refl d) hrl.1 h1 h2
   have hsame:=sn.same hrl.1
   generalize Az p bs (R f)=left at hq1 hiff hll hlin hown hmore hsame
   have etk:F.take (n+1)=F.take n++[f]:=by rw[List.take_add_one,hfn];rfl
   obtain⟨Rr,hRr⟩:∃Rr:St->Hp->Prop,∀σ' H',Rr σ' H'↔(∃(F ws:List (List Int)) (bs:List (Nat×List Int)) (b:Addr) (kvs:List (List Key×V)) (xs:List V) (o6 o7 o8 o9 o10:Option V),Same H H'/\H' dr=some (.dT kvs)/\RowD K H' kvs ws R/\BasD K H' b bs/\H b=none/\H' pf=some (.lst xs)/\Prs K H' xs F R/\BW p L d tables first F (n+1) ws/\Seen p d d ((F.take (n+1)).map R) bs/\bs.length=ws.length/\σ'=[some (.ref h),some (.int p),some (.ref dr),some (.ref b),some (.ref pf),some (.int n),o6,o7,o8,o9,o10]):=⟨_,fun _ _=>Iff.rfl⟩
   have finR:∀σ2 H2,Rr σ2 H2->tAug 5 (tC (V.int 1)) (ipI fun i j=>i+j) {nx:=Pv (1+d*L-(n+1)),rt:=Q,bk:=tRet (tVar 2) {nx:=fun x H'=>Q V.non H',rt:=Q},ct:=Pv (1+d*L-(n+1))} σ2 H2:=fun σ2 H2 h2=>by
    obtain⟨F,ws,bs,b,kvs,xs,o6,o7,o8,o9,o10,g1,g2,g3,g4,g5,g6,g7,g8,g9,g10,rfl⟩:=(hRr _ _).mp h2
    walk_at "rd"
    exact (hPv _ _ _).mpr ⟨F,ws,bs,n+1,b,kvs,xs,_,_,_,_,_,rfl,g1,g2,g3,g4,g5,g6,g7,g8,g9,g10,rfl⟩
   refine⟨q1,left,rfl,hq1,by omega,fun qn H4 s4 hqn hq0=>⟨Rr,?_,finR⟩,fun H4 s4 hall=>⟨Rr,?_,finR⟩⟩
   ·have s14:Same H H4:=(hF3.same s1 c4).trans s4
    have d4:=s4 _ _ (hF3.1 dr _ hdb c1)
    have p4:=s4 _ _ (hF3.lst c5)
    have sk:∀t ys,SqT K H' t ys->SqT K H4 t ys:=fun t ys z=>s4.seqT (hF3.seqT z)
    have tk:∀t ys,H' t=some (.tup ys)->H4 t=some (.tup ys):=fun t ys z=>s4 _ _ (hF3.tup z)
    have hsp:¬ Span p d (ws.map R) fun j=>(R f).getD j 0:=fun z=>hq0 (hiff.mpr (by rw[hRd]at z ⊢;exact bw.same.mpr z) qn (by omega))
    have hfw:f∉ws:=fun z=>by have:=bw.lt hfn z;omega
    have hbw:=bw.add (Ln:=L) rfl hfn (by rw[<-hRd];exact hsp)
    have hkl:kvs.length=ws.length:=by have:=c2.2.1;rw[List.length_map,List.length_map]at this;exact this
    have hnone:valV kvs (wkey f)=none:=by
     have:=c2.1.some_iff f
     rw[decide_eq_false hfw]at this
     cases e:valV kvs (wkey f) with
     |none=>rfl
     |some v=>rw[e]at this;cases this
    walk_at "rd"
    refine⟨_,DPut.t d4 (by rw[UQ];exact tk _ _ e3) (by omega),?_⟩
    rw[ZL _ hnone]
    have s15:=s14.over hdr (o:=.dT (kvs++[(wkey f,V.ref rr)]))
    have d5:upd H4 dr (.dT (kvs++[(wkey f,V.ref rr)])) dr=some (.dT (kvs++[(wkey f,V.ref rr)])):=Ac
    have p5:upd H4 dr (.dT (kvs++[(wkey f,V.ref rr)])) pf=some (.lst xs):=by rw[Aw (Ne.symm hdp)];exact p4
    have sk5:∀t ys,SqT K H' t ys->SqT K (upd H4 dr (.dT (kvs++[(wkey f,V.ref rr)]))) t ys:=fun t ys z=>Nq d4 (sk t ys z)
    have tk5:∀t ys,H' t=some (.tup ys)->upd H4 dr (.dT (kvs++[(wkey f,V.ref rr)])) t=some (.tup ys):=fun t ys z=>by
     have:=tk t ys z
     rw[Aw (fun e=>by rw[e,d4]at this;cases this)];exact this
    have hB5:=(((c3.fz hF3).mono s4).offT d4 (kvs':=kvs++[(wkey f,V.ref rr)]))
    have hq5:SqT K (upd H4 dr (.dT (kvs++[(wkey f,V.ref rr)]))) q1 (left.map V.int):=Nq d4 (s4.seqT hq1)
    generalize upd H4 dr (.dT (kvs++[(wkey f,V.ref rr)]))=H5 at s15 d5 p5 sk5 tk5 hB5 hq5 ⊢
    have g:=getD_in (show 0<p by omega) hlin qn
    refine⟨p,b,q1,qn,bs,left,rfl,hp,hB5,hq5,by omega,by omega,by omega,g.2,by omega,fun x hx=>by rw[hll];exact⟨(sn.b.len x hx).1,(sn.b.len x hx).2.1⟩,sn.b.nodup,fun hm=>?_,fun b2 inv H7 hF7 i0 i1 hinv hB7 hb2=>?_⟩
    ·obtain⟨x,hx,e⟩:=List.mem_map.mp hm
     exact hq0 (by rw[<-e];exact hown x hx)
    have s17:=hF7.same s15 c4
    have d7:=hF7.1 dr _ hdb d5
    have p7:=hF7.lst p5
    have sk7:∀t ys,SqT K H' t ys->SqT K H7 t ys:=fun t ys z=>hF7.seqT (sk5 t ys z)
    have tk7:∀t ys,H' t=some (.tup ys)->H7 t=some (.tup ys):=fun t ys z=>hF7.tup (tk5 t ys z)
    have hb2N:H b2=none:=s15.gone' hb2
    have rd7:RowD K H7 (kvs++[(wkey f,V.ref rr)]) (ws++[f]) R:=⟨by unfold S9;rw[List.map_append,List.map_append,c2.1];rfl,by rw[List.map_append,List.map_append];exact A2.snoc (c2.2.mono2 sk7) (sk7 _ _ e4)⟩
    refine⟨_,s17.seqT h1,V.int L,rfl,(L:Int),rfl,by omega,by omega,?_⟩
    obtain⟨Pz,hPz⟩:∃Pz:Nat->St->Hp->Prop,∀i σ' H',Pz i σ' H'↔(∃(xs:List V) (o10:Option V),Same H H'/\H' dr=some (.dT (kvs++[(wkey f,V.ref rr)]))/\RowD K H' (kvs++[(wkey f,V.ref rr)]) (ws++[f]) R/\BasD K H' b2 (Tg p inv bs left qn)/\H' pf=some (.lst xs)/\Prs K H' xs (F++(List.range i).map fun (x:Nat)=>f++[(x:Int)]) R/\H' a=some (.tup (f.map V.int))/\SqT K H' rr ((R f).map V.int)/\σ'=[some (.ref h),some (.int p),some (.ref dr),some (.ref b2),some (.ref pf),some (.int n),some (.ref a),some (.ref rr),some (.ref q1),some (.int qn),o10]):=⟨_,fun _ _ _=>Iff.rfl⟩
    refine forR Pz ((hPz _ _ _).mpr ⟨xs,o10,s17,d7,rd7,hB7,p7,by simpa using c6.mono sk7 tk7,tk7 _ _ e3,sk7 _ _ e4,rfl⟩) (fun i σ2 H8 hi h8=>?_) (fun σ2 H8 h8=>?_)
    ·obtain⟨ys,o,k1,k2,k3,k4,k5,k6,k7,k8,rfl⟩:=(hPz _ _ _).mp h8
     rw[Int.zero_add]
     walk_at "rd"
     have hfs:=bw.short f (List.mem_of_getElem? hfn)
     refine⟨.inl ⟨rfl,_,SqL.of k5⟩,by omega,fun u1 hu1=>Dv.ofS (Same.new hu1 _ _ k7) Ac (by simp;omega) fun u2 H9 s9 hu2=>?_⟩
     have s89:=(Same.new hu1 (o:=.tup [V.int i])).trans s9
     have s19:=k1.trans s89
     refine⟨h,rr,p,L,i,d,first,last,R f,tables,rfl,hh.mono s19,wf,s89.seqT k8,hrl.1,hrl.2,by omega,by omega,fun u3 H10 s10 hu3=>⟨by omega,fun u4 hu4=>?_⟩⟩
     have s8a:=s89.trans s10
     have sN:=s8a.newT hu4 (o:=.tup [V.ref u2,V.ref u3])
     have hpz:=sN _ _ k5
     refine⟨ys,hpz,?_,(hPz _ _ _).mpr ⟨_,_,(k1.trans sN).over hpfN,?_,⟨k3.1,k3.2.mono2 fun t ys z=>Ay hpz (sN.seqT z)⟩,(k4.mono sN).offl hpz,Ac,?_,?_,Ay hpz (sN.seqT k8),rfl⟩⟩
     ·have:=k6.1
      rw[List.length_append,List.length_map,List.length_range]at this
      omega
     ·rw[Aw hdp];exact sN _ _ k2
     ·rw[List.range_succ,List.map_append,<-List.append_assoc]
      refine (k6.mono (fun t ys z=>Ay hpz (sN.seqT z)) fun t ys z=>?_).snoc (t:=u4) (a:=u2) (b:=u3) (v:=f++[(i:Int)]) (Ay hpz (SqT.of Ac)) ?_ ?_
      ·have:=sN _ _ z
       rw[Aw (fun e=>by rw[e,hpz]at this;cases this)];exact this
      ·have:upd H10 u4 (.tup [V.ref u2,V.ref u3]) u2=some (.tup ((f++[(i:Int)]).map V.int)):=by
        have:=Same.new hu4 (o:=.tup [V.ref u2,V.ref u3]) _ _ (s10 _ _ hu2)
        rw[List.map_append];exact this
       exact (Aw (fun e=>by have z:=this.symm.trans ((congrArg (upd H10 u4 (.tup [V.ref u2,V.ref u3])) e).trans hpz);cases z)).trans this
      ·rw[hRs]
       exact Ay hpz (SqT.of (Same.new hu4 (o:=.tup [V.ref u2,V.ref u3]) _ _ hu3))
     ·have:=sN _ _ k7
      rw[Aw (fun e=>by rw[e,hpz]at this;cases this)];exact this
    ·obtain⟨ys,o,k1,k2,k3,k4,k5,k6,k7,k8,rfl⟩:=(hPz _ _ _).mp h8
     rw[show ((L:Int)).toNat=L by omega]at k6
     refine (hRr _ _).mpr ⟨_,ws++[f],_,b2,_,ys,_,_,_,_,_,k1,k2,k3,k4,hb2N,k5,k6,hbw,?_,by rw[Tn,List.length_append,hbl];rfl,rfl⟩
     rw[List.take_append_of_le_length (by omega),etk,List.map_append]
     exact hmore inv qn (by omega) hinv
   ·walk_at "rd"
    have s14:Same H H4:=(hF3.same s1 c4).trans s4
    have d4:=s4 _ _ (hF3.1 dr _ hdb c1)
    have p4:=s4 _ _ (hF3.lst c5)
    have sk:∀t ys,SqT K H' t ys->SqT K H4 t ys:=fun t ys z=>s4.seqT (hF3.seqT z)
    have tk:∀t ys,H' t=some (.tup ys)->H4 t=some (.tup ys):=fun t ys z=>s4 _ _ (hF3.tup z)
    have hz0:∀i:Nat,i<d->left.getD i 0=0:=fun i hi=>hall i (by omega)
    have hbw:=bw.skip hfn (by
     have:=bw.same.mp (by rw[<-hRd];exact hiff.mp hz0)
     rwa [<-hRd]at this ⊢)
    refine (hRr _ _).mpr ⟨F,ws,bs,b,kvs,xs,_,_,_,_,_,s14,d4,⟨c2.1,c2.2.mono2 sk⟩,(c3.fz hF3).mono s4,c4,p4,c6.mono sk tk,hbw,?_,hbl,rfl⟩
    rw[etk,List.map_append]
    exact hsame hz0
  ·have hnF:n=F.length:=by have:=bw.nF;omega
   subst hnF
   walk_at "rd"
   exact k dr kvs F ws H' s1 c1 hdr (by rw[<-hRd];exact c2) bw (by omega)
def L3 (p L:Int)(d:Nat)(R:List Int->List Int)(ws:List (List Int))(f l:List Int):Prop:=l.length=ws.length/\(∀x∈l,0<=x/\x<p)/\(∀i:Nat,i<d->(R f).getD i 0%p=dotW l (colW (ws.map R) i)%p)/\∀(k:Nat) (v:List Int),ws[k]?=some v->l.getD k 0≠0->place L v<=place L f
theorem BW.indep {p L:Int}{d:Nat}{tables:List (List (List Int))}{first:List Int}{F ws:List (List Int)}{n:Nat}(hp:Pr p)(h:BW p L d tables first F n ws):Indep p d (ws.map (Mine.rowS p d tables first)):=by
 refine Indep.of hp.1 (fun a a0 a1=>DX_ hp.1 a0 (hp.gcd a0 a1)) _ _ rfl fun i hi=>?_
 rw[List.length_map]at hi
 have:=h.free i hi
 rw[<-List.map_take]
 have e:(ws.map (Mine.rowS p d tables first)).getD i []=Mine.rowS p d tables first (ws.getD i []):=by
  rw[List.getD_eq_getElem?_getD,List.getElem?_map,List.getD_eq_getElem?_getD,List.getElem?_eq_getElem hi];rfl
 rw[e]
 exact this
theorem DZ_ {p L:Int}{d:Nat}{tables:List (List (List Int))}{first last:List Int}{F ws:List (List Int)}(hp:Pr p)(wf:WfSum p L d first tables last)(h:BW p L d tables first F F.length ws){bs:List (Nat×List Int)}(S:Seen p (d+(ws.map (Mine.rowS p d tables first)).length) d (Bt (ws.map (Mine.rowS p d tables first))) bs){f:List Int}(hf:f∈F):
  Span p d (ws.map (Mine.rowS p d tables first)) (fun i=>(Mine.rowS p d tables first f).getD i 0)/\L3 p L d (Mine.rowS p d tables first) ws f (((Az p bs (Mine.rowS p d tables first f++List.replicate (ws.map (Mine.rowS p d tables first)).length 0)).drop d).map fun y => -y%p):=by
 have hp1:=hp.1
 obtain⟨j,hj,⟨cs,hc,he⟩,hpl⟩:=h.span f (by rw[List.take_length];exact hf)
 rw[List.length_map,List.length_take,Nat.min_eq_left hj]at hc
 have hsplit:ws.map (Mine.rowS p d tables first)=(ws.take j).map (Mine.rowS p d tables first)++(ws.drop j).map (Mine.rowS p d tables first):=by rw[<-List.map_append,List.take_append_drop]
 obtain⟨am,ham⟩:∃am:List Int,am=cs.map (· % p)++List.replicate (ws.length-j) 0:=⟨_,rfl⟩
 have hal:am.length=ws.length:=by rw[ham,List.length_append,List.length_map,List.length_replicate,hc];omega
 have hin:∀x∈am,0<=x/\x<p:=fun x hx=>by
  rw[ham]at hx
  rcases List.mem_append.mp hx with hx|hx
  ·obtain⟨y,_,rfl⟩:=List.mem_map.mp hx
   exact⟨Int.emod_nonneg _ (by omega),Int.emod_lt_of_pos _ (by omega)⟩
  ·rw[(List.mem_replicate.mp hx).2];omega
 have he2:∀i:Nat,i<d->(Mine.rowS p d tables first f).getD i 0%p=dotW am (colW (ws.map (Mine.rowS p d tables first)) i)%p:=fun i hi=>by
  rw[he i hi,ham,hsplit,Qr,M9 _ _ _ _ (by rw[EW,List.length_map,List.length_map,List.length_take];omega),Bb (List.replicate _ _),Ft,Int.add_zero]
  refine cg.dot ?_ (cg.refl p _)
  unfold cg
  rw[List.map_map]
  exact (List.map_congr_left fun y _=>by show y%p=(y%p)%p;rw[Int.emod_emod_of_dvd _ (Int.dvd_refl p)])
 have hlen:∀r∈ws.map (Mine.rowS p d tables first),r.length=d:=fun r hr=>by
  obtain⟨v,_,rfl⟩:=List.mem_map.mp hr
  exact (wf.row v).1
 refine⟨⟨am,by rw[List.length_map];exact hal,he2⟩,?_⟩
 rw[DW_ (show 0<p by omega) hlen (h.indep hp) S (wf.row f).1 (by rw[List.length_map];exact hal) hin he2]
 refine⟨hal,hin,he2,fun k v hk hne=>?_⟩
 by_cases hkj:k<j
 ·exact hpl v (List.mem_iff_getElem?.mpr ⟨k,by rw[List.getElem?_take,if_pos hkj];exact hk⟩)
 ·refine absurd ?_ hne
  rw[ham,List.getD_eq_getElem?_getD,List.getElem?_append_right (by rw[List.length_map];omega),List.getElem?_replicate]
  split<;>rfl
def AmD (H:Hp)(pm:Addr)(xs:List V)(am:List (List (List Int))):Prop:=xs.length=am.length/\∀(i:Nat) (a:List (List Int)),am[i]?=some a->∃c ys,c≠pm/\xs[i]?=some (.ref c)/\H c=some (.lst ys)/\ys.length=a.length/\∀(j:Nat) (l:List Int),a[j]?=some l->∃e,e≠pm/\ys[j]?=some (.ref e)/\H e=some (.lst (l.map V.int))
def AmF (p:Int)(L d:Nat)(R:List Int->List Int)(ws:List (List Int))(am:List (List (List Int))):Prop:=am.length=ws.length/\∀(i:Nat) (a:List (List Int)) (v:List Int),am[i]?=some a->ws[i]?=some v->a.length=L/\∀(x:Nat) (l:List Int),a[x]?=some l->L3 p L d R ws (v++[(x:Int)]) l
theorem AmD.mono {H H':Hp}{pm:Addr}{xs:List V}{am:List (List (List Int))}(h:AmD H pm xs am)(s:∀(a:Addr) ys,a≠pm->H a=some (.lst ys)->H' a=some (.lst ys)):AmD H' pm xs am:=⟨h.1,fun i a hi=>by
 obtain⟨c,ys,n1,e1,e2,e3,e4⟩:=h.2 i a hi
 refine⟨c,ys,n1,e1,s _ _ n1 e2,e3,fun j l hj=>?_⟩
 obtain⟨e,n2,f1,f2⟩:=e4 j l hj
 exact⟨e,n2,f1,s _ _ n2 f2⟩⟩
theorem AmD.snoc {H:Hp}{pm:Addr}{xs:List V}{am:List (List (List Int))}(h:AmD H pm xs am){c:Addr}{ys:List V}{a:List (List Int)}(n1:c≠pm)(e2:H c=some (.lst ys))(e3:ys.length=a.length)(e4:∀(j:Nat) (l:List Int),a[j]?=some l->∃e,e≠pm/\ys[j]?=some (.ref e)/\H e=some (.lst (l.map V.int))):AmD H pm (xs++[.ref c]) (am++[a]):=by
 refine⟨by rw[List.length_append,List.length_append,h.1];rfl,fun i r hi=>?_⟩
 by_cases hil:i<am.length
 ·rw[List.getElem?_append_left hil]at hi
  rw[List.getElem?_append_left (by rw[h.1];exact hil)]
  exact h.2 i r hi
 ·have:=(List.getElem?_eq_some_iff.mp hi).1
  rw[List.length_append,List.length_singleton]at this
  have ei:i=am.length:=by omega
  subst ei
  rw[List.getElem?_append_right (Nat.le_refl _),Nat.sub_self]at hi
  simp at hi
  subst hi
  exact⟨c,ys,n1,by rw[<-h.1];simp,e2,e3,e4⟩
def Tr (K:PySem.W.Frag):Sp:=fun vs H Q _=>∃(h:Addr) (p:Int) (L d:Nat) (first last:List Int) (tables:List (List (List Int))),vs=[.ref h]/\Pr p/\SumH K H h p L first tables last/\WfSum p L d first tables last/\L<=6/\d<=16/\∀q lw lm zs xs F ws am H',Same H H'->SqT K H' q [.ref lw,.ref lm]->H' lw=some (.lst zs)->Fn K H' zs ws->H' lm=some (.lst xs)->AmD H' lm xs am->AmF p L d (Mine.rowS p d tables first) ws am->BW p L d tables first F F.length ws->ws.length<=d->Q (.ref q) H'
theorem Qz {f:Addr}{fd:FuncData}(F:Fun K "sums_basis" "sums_basis" CN f fd)(T:Txt mg)
  (Z:Exs K mg C_AskError C_BadWord C_NoInverse)
  {Bh:Addr} {Ee:FuncData} (Ez:FnOk P w K mg base CX0 5 Bh Ee ["p","rows","some","size"] (DY_ K)) (Cb:Fun K "factors_of_each" "factors_of_each" Bd Bh Ee) (EA:Binds K Ee ["p","rows","some","size"] []) (EB:mg "factors_of_each"=some (.ref Bh))
  {BG:Addr} {Ca:FuncData} (Eb:FnOk P w K mg base CX0 3 BG Ca ["house","row","letter"] (IW K)) (C2:Fun K "stepped" "stepped" D3 BG Ca) (Ec:Binds K Ca ["house","row","letter"] []) (Ed:mg "stepped"=some (.ref BG))
  {Bl:Addr} {Cq:FuncData} (DR:FnOk P w K mg base CX0 4 Bl Cq ["house"] (Qx K)) (Ck:Fun K "basis_rows" "basis_rows" Cj Bl Cq) (DS:Binds K Cq ["house"] []) (DT:mg "basis_rows"=some (.ref Bl))
  : FnOk P w K mg base CX0 6 f fd ["house"] (Tr K):=by
 refine F.ok Dq (fun vs H Q E h=>?_) (fun cdv A outer s H vs Q E hr h=>?_)
 ·obtain⟨h,p,L,d,first,last,tables,rfl,_⟩:=h;rfl
 ·obtain⟨h,p,L,d,first,last,tables,rfl,hp,hh,wf,hL6,hd16,k⟩:=h
  have hl:=An
  have hp1:=hp.1
  obtain⟨tf,tt,tl,h1,h2,h3,h4⟩:=id hh
  refine⟨_,(Ad (Aj (i:=1) Dq.nd rfl (Or.inl rfl) (Ah DR (hr.mono (by decide)) rfl DT Ck.kp DS .nil AD (Aa (pv 0) Ab)))
   (Ad (Aj (i:=2) Dq.nd rfl (Or.inl rfl) (Ax (Me rfl) rfl T.list PyProof.Rows.boot_list (Aa (YZ (pv 1)) Ab)))
   (Ad (Aj (i:=3) Dq.nd rfl (Or.inl rfl) (Fm Ab))
   (Ad (B7 PassesOwn.never rfl (Lb (pv 2)) (Am (i:=4) Dq.nd rfl (Or.inr rfl))
   (Ad (UL (i:=5) Dq.nd rfl rfl rfl (Du rfl) (cp:=Je) ⟨⟨rfl,rfl⟩,⟨⟨rfl,rfl⟩,True.intro⟩⟩ (AQ rfl T.range (Aa (Ar Al (pv 0) Af (fun _ _=>rfl)) Ab)) (fun _ _ _ _=>(Am (i:=0) Lh rfl (Or.inl rfl))) (fun _ _ _ _=>CH) (fun _ _ _ _=>(Ah Eb (hr.mono (by decide)) rfl Ed C2.kp Ec .nil AD (Aa (pv 1) (Aa (pv 2) (Aa (pv 0) Ab))))))
   (Ag (DB (J4 PySem.F.plainAttrs_list PySem.F.slot_list_append PySem.F.type_list_append B9 (pv 3) (Aa (Ah Ez (hr.mono (by decide)) rfl EB Cb.kp EA .nil AD (Aa (Ar Al (pv 0) Af (fun _ _=>rfl)) (Aa (pv 2) (Aa (pv 5) (Aa (Ak Ai (by rfl) T.len PySem.boot_len (Aa (Ar Al (pv 0) Af (fun _ _=>rfl)) Ab)) Ab))))) Ab))))))
   (Ag (Ap (Bz (Aa (Ax (HK rfl) rfl T.list PyProof.Rows.boot_list (Aa (pv 1) Ab)) (Aa (pv 3) Ab))))))))),?_⟩
  walk_at "rd"
  refine⟨h,p,L,d,first,last,tables,rfl,hp,hh,wf,hL6,hd16,fun q kvs F ws H1 s1 hq hqN rd bw hwd=>?_⟩
  show (fun x H1=>_) (V.ref q) H1
  walk_at "rd"
  refine⟨kvs,.inl hq,fun v hv=>⟨q,Ac,kvs,.inl (Same.new hv _ _ hq),fun l hlN=>⟨by omega,fun pm hpm=>?_⟩⟩⟩
  obtain⟨R,hRd⟩:∃R:List Int->List Int,R=Mine.rowS p d tables first:=⟨_,rfl⟩
  rw[<-hRd]at rd
  have hRl:∀v,(R v).length=d/\∀y∈R v,0<=y/\y<p:=fun v=>by rw[hRd];exact wf.row v
  have hRs:∀v x,R (v++[x])=Fi p d tables (R v) x:=fun v x=>by rw[hRd];unfold Mine.rowS;rw[List.foldl_append];rfl
  have sV:=Same.new hv (o:=N6 v q)
  have s2:=(s1.trans sV).newT hlN (o:=.lst (kvs.map (·.2)))
  have s3:=s2.newT hpm (o:=.lst [])
  have s13:=(sV.newT hlN (o:=.lst (kvs.map (·.2)))).newT hpm (o:=.lst [])
  have hpmN:H pm=none:=s2.gone' hpm
  have u_l:upd (upd (upd H1 v (N6 v q)) l (.lst (kvs.map (·.2)))) pm (.lst []) l=some (.lst (kvs.map (·.2))):=Same.new hpm _ _ Ac
  have u_m:upd (upd (upd H1 v (N6 v q)) l (.lst (kvs.map (·.2)))) pm (.lst []) pm=some (.lst []):=Ac
  generalize upd (upd (upd H1 v (N6 v q)) l (.lst (kvs.map (·.2)))) pm (.lst [])=H3 at s3 s13 u_l u_m ⊢
  have hlm:l≠pm:=fun z=>by rw[z]at hlN hpm;rw[Ac]at hpm;cases hpm
  have hrl:(kvs.map (·.2)).length=ws.length:=by have:=rd.2.1;rw[List.length_map (f:=R)]at this;exact this
  obtain⟨Pv,hPv⟩:∃Pv:Nat->St->Hp->Prop,∀i σ' H',Pv i σ' H'↔(∃(xs:List V) (am:List (List (List Int))) (o4 o5:Option V),Same H H'/\H' q=some (.dT kvs)/\A2 K H' (kvs.map (·.2)) (ws.map R)/\H' l=some (.lst (kvs.map (·.2)))/\H' pm=some (.lst xs)/\AmD H' pm xs am/\am.length=i/\(∀(j:Nat) (a:List (List Int)) (v:List Int),am[j]?=some a->ws[j]?=some v->a.length=L/\∀(x:Nat) (g:List Int),a[x]?=some g->L3 p L d R ws (v++[(x:Int)]) g)/\σ'=[some (.ref h),some (.ref q),some (.ref l),some (.ref pm),o4,o5]):=⟨_,fun _ _ _=>Iff.rfl⟩
  refine⟨⟨_,SqL.of u_l⟩,?_⟩
  refine forL (xs:=kvs.map (·.2)) Pv ((hPv _ _ _).mpr ⟨[],[],none,none,s3,s13 _ _ hq,rd.2.mono2 fun t ys z=>s13.seqT z,u_l,u_m,⟨rfl,fun i a hi=>by simp at hi⟩,rfl,fun j a v hj=>by simp at hj,rfl⟩) (fun i σ' H' _ h'=>by obtain⟨_,_,_,_,_,_,_,z,_⟩:=(hPv _ _ _).mp h';exact SqL.of z) (fun i x σ' H' hx h'=>?_) (fun σ' H' h'=>?_)
  ·obtain⟨xs,am,o4,o5,g1,g2,g3,g4,g5,g6,g7,g8,rfl⟩:=(hPv _ _ _).mp h'
   have hiw:i<ws.length:=by rw[<-hrl];exact (List.getElem?_eq_some_iff.mp hx).1
   have hwi:ws[i]?=some ws[i]:=by simp
   obtain⟨tr,et,hrow⟩:=g3.2 i (R ws[i]) (by rw[List.getElem?_map,hwi];rfl)
   rw[hx]at et
   cases et
   generalize ws[i]=w0 at hwi hrow
   have hw0:w0∈ws:=List.mem_of_getElem? hwi
   walk_at "rd"
   refine⟨_,g1.seqT h1,V.int L,rfl,(L:Int),rfl,by omega,by omega,N5 (fun j ys σ2 H2=>Same H' H2/\A2 K H2 ys ((List.range j).map fun (x:Nat)=>R (w0++[(x:Int)]))/\∃o,σ2=[o,some (.ref h),some (.ref tr)]) ⟨Same.refl _,⟨rfl,fun i r hi=>by simp at hi⟩,none,rfl⟩ (by omega) (fun j ys σ2 H2 hj h2=>by have:=h2.2.1.1;rw[List.length_map,List.length_range]at this;omega) (fun j ys σ2 H2 hj h2=>?_) (fun ys σ2 H2 h2 D hD=>?_)⟩
   ·obtain⟨s2',hy,o,rfl⟩:=h2
    rw[Int.zero_add]
    walk_at "rd"
    refine⟨h,tr,p,L,j,d,first,last,R w0,tables,rfl,(hh.mono g1).mono s2',wf,s2'.seqT hrow,(hRl w0).1,(hRl w0).2,by omega,by omega,fun u H5 s5 hu=>⟨s2'.trans s5,?_,_,rfl⟩⟩
    rw[List.range_succ,List.map_append]
    refine A2.snoc (hy.mono2 fun t ys z=>s5.seqT z) ?_
    show SqT K H5 u ((R (w0++[(j:Int)])).map V.int)
    rw[hRs];exact SqT.of hu
   ·obtain⟨s2',hy,o,rfl⟩:=h2
    rw[show ((L:Int)).toNat=L by omega]at hy
    have sD:=s2'.newT hD (o:=.lst ys)
    have uD:upd H2 D (.lst ys) D=some (.lst ys):=Ac
    have hyD:=hy.mono2 fun t zs z=>(Same.new hD (o:=.lst ys)).seqT z
    generalize upd H2 D (.lst ys)=H4 at sD uD hyD ⊢
    have q4:=sD _ _ g5
    have s14:=g1.trans sD
    refine⟨.inl ⟨rfl,_,SqL.of q4⟩,_,s14.seqT h1,V.int p,rfl,_,s14.seqT h1,V.ref tf,rfl,tf,rfl,_,.inr (s14.seqT h2),?_⟩
    rw[List.length_map,wf.f.1]
    refine⟨p,false,l,D,d,kvs.map (·.2),ys,ws.map R,(List.range L).map fun (x:Nat)=>R (w0++[(x:Int)]),rfl,hp,SqL.of (sD _ _ g4),g3.mono2 fun t zs z=>sD.seqT z,fun r hr=>by obtain⟨v,_,rfl⟩:=List.mem_map.mp hr;exact (hRl v).1,SqL.of uD,hyD,fun r hr=>by obtain⟨v,_,rfl⟩:=List.mem_map.mp hr;exact (hRl _).1,by omega,by rw[List.length_map];omega,by rw[List.length_map,List.length_range];omega,fun c zs bs H5 s5 hcN hc sn tf'=>?_⟩
    have q5:=s5 _ _ q4
    have hcp:c≠pm:=fun z=>by rw[z,q4]at hcN;cases hcN
    have s05:=sD.trans s5
    have hgood:∀x:Nat,x<L->∃g,L3 p L d R ws (w0++[(x:Int)]) g/\∃e,e≠pm/\zs[x]?=some (.ref e)/\H5 e=some (.lst (g.map V.int)):=fun x hx'=>by
     have hf:w0++[(x:Int)]∈F:=bw.kids w0 hw0 x (by omega) (by omega)
     rw[hRd]at sn
     obtain⟨gs,gg⟩:=DZ_ hp wf bw sn hf
     rw[<-hRd]at gs gg
     rcases tf'.2 x (R (w0++[(x:Int)])) (by rw[List.getElem?_map,List.getElem?_range hx'];rfl) with ⟨_,e,e1,e2⟩|⟨z,_⟩
     ·refine⟨_,gg,e,fun z=>?_,e1,e2⟩
      rw[z,q5]at e2
      have e3:=HO.lst.inj (Option.some.inj e2)
      have hgl:=gg.1
      have hxl:xs.length=ws.length:=by rw[e3,List.length_map,hgl]
      have hal:=g6.1
      omega
     ·exact absurd gs z
    obtain⟨ga,hga⟩:∃ga:List (List Int),ga.length=L/\∀(x:Nat) (g:List Int),ga[x]?=some g->L3 p L d R ws (w0++[(x:Int)]) g/\∃e,e≠pm/\zs[x]?=some (.ref e)/\H5 e=some (.lst (g.map V.int)):=by
     have key:∀n:Nat,n<=L->∃ga:List (List Int),ga.length=n/\∀(x:Nat) (g:List Int),ga[x]?=some g->L3 p L d R ws (w0++[(x:Int)]) g/\∃e,e≠pm/\zs[x]?=some (.ref e)/\H5 e=some (.lst (g.map V.int)):=fun n=>by
      induction n with
      |zero=>exact fun _=>⟨[],rfl,fun x g hg=>by simp at hg⟩
      |succ n ih=>
       intro hn
       obtain⟨ga,e1,e2⟩:=ih (by omega)
       obtain⟨g,hg⟩:=hgood n (by omega)
       refine⟨ga++[g],by rw[List.length_append,e1];rfl,fun x g' hx'=>?_⟩
       by_cases hxn:x<n
       ·rw[List.getElem?_append_left (by omega)]at hx'
        exact e2 x g' hx'
       ·have:=(List.getElem?_eq_some_iff.mp hx').1
        rw[List.length_append,List.length_singleton]at this
        have ex:x=n:=by omega
        subst ex
        rw[List.getElem?_append_right (by omega),e1,Nat.sub_self]at hx'
        simp at hx'
        subst hx'
        exact hg
     exact key L (Nat.le_refl _)
    have zl:zs.length=ga.length:=by rw[tf'.1,List.length_map,List.length_range,hga.1]
    have hal:=g6.1
    refine⟨xs,q5,by omega,(hPv _ _ _).mpr ⟨_,am++[ga],_,_,(s14.trans s5).over hpmN,?_,(g3.mono2 fun t zs z=>s05.seqT z).mono2 fun t zs z=>Ay q5 z,?_,Ac,?_,by rw[List.length_append,g7];rfl,fun j a v hj hv'=>?_,rfl⟩⟩
    ·rw[Aw (fun z=>by have:=s05 _ _ g2;rw[z,q5]at this;cases this)];exact s05 _ _ g2
    ·rw[Aw hlm];exact s05 _ _ g4
    ·refine (g6.mono fun a ys ha z=>?_).snoc (c:=c) hcp ?_ zl fun j g hj=>?_
     ·rw[Aw ha];exact s05 _ _ z
     ·rw[Aw hcp];exact hc
     ·obtain⟨_,e,n2,e1,e2⟩:=hga.2 j g hj
      exact⟨e,n2,e1,by rw[Aw n2];exact e2⟩
    ·by_cases hji:j<am.length
     ·rw[List.getElem?_append_left hji]at hj
      exact g8 j a v hj hv'
     ·have:=(List.getElem?_eq_some_iff.mp hj).1
      rw[List.length_append,List.length_singleton]at this
      have ej:j=i:=by omega
      subst ej
      rw[List.getElem?_append_right (by omega),g7,Nat.sub_self]at hj
      simp at hj
      subst hj
      rw[hwi]at hv'
      cases hv'
      exact⟨hga.1,fun x g hg=>(hga.2 x g hg).1⟩
  ·obtain⟨xs,am,o4,o5,g1,g2,g3,g4,g5,g6,g7,g8,rfl⟩:=(hPv _ _ _).mp h'
   rw[hrl]at g7
   walk_at "rd"
   refine⟨kvs,.inl g2,fun lw rs hlw hrs hat=>⟨by omega,fun z hz=>?_⟩⟩
   have sZ:=(Same.new hlw (o:=.lst rs)).newT hz (o:=.tup [V.ref lw,V.ref pm])
   rw[hRd]at g8
   refine k z lw pm rs xs F ws am _ (g1.trans sZ) (SqT.of Ac) (Same.new hz _ _ Ac) ⟨?_,fun i v hi=>?_⟩ (sZ _ _ g5) (g6.mono fun a ys _ z=>sZ _ _ z) ⟨g7,g8⟩ bw hwd
   ·rw[hrs];rw[List.length_map]at hrl;exact hrl
   ·have hk:(kvs.map (·.1))[i]?=some (wkey v):=by rw[rd.1,List.getElem?_map,hi];rfl
    rw[List.getElem?_map]at hk
    cases e:kvs[i]? with
    |none=>rw[e]at hk;cases hk
    |some kv=>
     rw[e]at hk
     obtain⟨t,e1,e2⟩:=hat i kv.1 kv.2 e
     refine⟨t,e1,sZ _ _ ?_⟩
     rw[e2,show kv.1=wkey v from Option.some.inj hk,UQ]
def cell (ns:List Int)(k:Nat):Int:=ns.getD k 0
def Nr (K:PySem.W.Frag):Sp:=fun vs H Q _=>∃(a:Addr) (ns:List Int) (k:Nat),vs=[.ref a,.int k]/\SqL K H a (ns.map V.int)/\Q (.int (cell ns k)) H
theorem Ts {f:Addr}{fd:FuncData}(F:Fun K "_law_cell" "_law_cell" B1 f fd)(T:Txt mg)
  (Z:Exs K mg C_AskError C_BadWord C_NoInverse)
  : FnOk P w K mg base CX0 1 f fd ["script","k"] (Nr K):=by
 refine F.ok Td (fun vs H Q E h=>?_) (fun cdv A outer s H vs Q E hr h=>?_)
 ·obtain⟨a,ns,k,rfl,_⟩:=h;rfl
 ·obtain⟨a,ns,k,rfl,hs,q⟩:=h
  refine⟨_,(Ad (Dt (AJ SN (pv 1) (Ak Ai (by rfl) T.len PySem.boot_len (Aa (pv 0) Ab)) (A3 _))
   (Ag (Ap (Ar CF (pv 0) (pv 1) (fun _ _=>rfl))))
   AY)
   (Ag (Ap Af))),?_⟩
  walk_at "rd"
  refine⟨_,.inl hs,?_⟩
  rw[List.length_map]
  refine ite2 (fun hk=>?_) (fun hk=>?_)
  ·have hk':k<ns.length:=by simpa using hk
   refine⟨_,hs,V.int (cell ns k),?_,q⟩
   refine Bc ?_
   rw[List.getElem?_map]
   unfold cell
   rw[List.getD_eq_getElem?_getD]
   simp[hk']
  ·have hk':¬ k<ns.length:=by simpa using hk
   have:cell ns k=0:=by
    unfold cell
    rw[List.getD_eq_getElem?_getD,List.getElem?_eq_none (by omega)];rfl
   rw[<-this]
   exact q
def Nt:Sp:=fun vs H Q _=>∃n:Int,vs=[.int n]/\2<=n/\n<=1000/\∀b,(b=true↔GS n.toNat)->Q (.bl b) H
theorem Mi {f:Addr}{fd:FuncData}(F:Fun K "_law_is_prime" "_law_is_prime" BA f fd)(T:Txt mg)
  (Z:Exs K mg C_AskError C_BadWord C_NoInverse)
  : FnOk P w K mg base CX0 1 f fd ["number"] (Nt):=by
 refine F.ok Hw (fun vs H Q E h=>?_) (fun cdv A outer s H vs Q E hr h=>?_)
 ·obtain⟨n,rfl,_⟩:=h;rfl
 ·obtain⟨n,rfl,hn,hn1,k⟩:=h
  refine⟨_,(Ad (B7 PassesOwn.never rfl (XT rfl T.range (Aa Af (Aa (pv 0) Ab))) (Am (i:=1) Hw.nd rfl (Or.inl rfl))
   (Ad (Dt (AJ ZD (Aq Ds (pv 1) (pv 1)) (pv 0) (A3 _))
   (Ag (Ap EX))
   AY)
   (Ag (Dt (AJ UH (Aq Cg (pv 0) (pv 1)) Af (A3 _))
   (Ag (Ap EX))
   AY))))
   (Ag (Ap EX))),?_⟩
  walk_at "rd"
  refine⟨by omega,by omega,by omega,by omega,?_⟩
  refine forR (fun i σ2 H2=>H2=H/\(∀d,2<=d->d<2+i->n.toNat%d≠0)/\∃o,σ2=[some (.int n),o]) ⟨rfl,fun d h1 h2=>by omega,none,rfl⟩ (fun i σ2 H2 hi h2=>?_) (fun σ2 H2 h2=>?_)
  ·obtain⟨rfl,hall,o,rfl⟩:=h2
   walk_at "rd"
   refine⟨.inl ⟨by omega,by omega⟩,ite2 (fun hp=>k true ⟨fun _=>?_,fun _=>rfl⟩) (fun hp=>⟨by omega,ite2 (fun hm=>k false ⟨(fun z=>by cases z),fun z=>?_⟩) (fun hm=>⟨fun d h1 h2=>?_,_,rfl⟩)⟩)⟩
   ·refine GS.small (k:=2+i) (by omega) ?_ fun d h1 h2 _=>hall d h1 h2
    have hp':n<((2+i:Nat):Int)*((2+i:Nat):Int):=by push_cast;omega
    rw[<-Int.natCast_mul]at hp'
    omega
   ·refine absurd ?_ (z (2+i) (by omega) (by omega))
    have:(n.toNat:Int)%((2+i:Nat):Int)=0:=by rw[show (n.toNat:Int)=n from by omega];push_cast;exact hm
    omega
   ·by_cases hd:d<2+i
    ·exact hall d h1 hd
    ·have:d=2+i:=by omega
     subst this
     intro z
     have z2:(n.toNat:Int)%((2+i:Nat):Int)=0:=by omega
     rw[show (n.toNat:Int)=n from by omega]at z2
     push_cast at z2
     exact hm z2
  ·obtain⟨rfl,hall,o,rfl⟩:=h2
   walk_at "rd"
   exact k true ⟨fun _ d h1 h2=>hall d h1 (by omega),fun _=>rfl⟩
def QA:List Int:=[2,3,5,7,65537,998244353,2147483647,180143985094819841]
def Wi (K:PySem.W.Frag):Sp:=fun vs H Q _=>∃c:Int,vs=[.int c]/\∀p H',Same H H'->Pr p->Q (.int p) H'
theorem QB {f:Addr}{fd:FuncData}(F:Fun K "_law_prime" "_law_prime" CQ f fd)(T:Txt mg)
  (Z:Exs K mg C_AskError C_BadWord C_NoInverse)
  {BH:Addr} {Fj:FuncData} (FP:FnOk P w K mg base CX0 1 BH Fj ["number"] (Nt)) (C6:Fun K "_law_is_prime" "_law_is_prime" BA BH Fj) (FQ:Binds K Fj ["number"] []) (FT:mg "_law_is_prime"=some (.ref BH))
  : FnOk P w K mg base CX0 2 f fd ["cell"] (Wi K):=by
 refine F.ok Fs (fun vs H Q E h=>?_) (fun cdv A outer s H vs Q E hr h=>?_)
 ·obtain⟨c,rfl,_⟩:=h;rfl
 ·obtain⟨c,rfl,k⟩:=h
  have hl:=An
  refine⟨_,(Ad (Aj (i:=1) Fs.nd rfl (Or.inl rfl) (Fm (Aa Af (Aa Af (Aa Af (Aa Af (Aa Af (Aa Af (Aa Af (Aa Af Ab))))))))))
   (Ad (Dt (AJ SN (Aq Cg (pv 0) Af) Af (A3 _))
   (Ag (Ap (Ar CF (pv 1) (Aq Cg (Aq Lc (pv 0) Af) Af) (fun _ _=>rfl))))
   AY)
   (Ad (Aj (i:=2) Fs.nd rfl (Or.inl rfl) (Aq Cv Af (Aq Cg (Aq Lc (pv 0) Af) Af)))
   (Ad (PQ PassesOwn.never (EY (DL (Ah FP (hr.mono (by decide)) rfl FT C6.kp FQ .nil AD (Aa (pv 2) Ab))))
   (Ag (Aj (i:=2) Fs.nd rfl (Or.inl rfl) (Aq Cv (pv 2) Af))))
   (Ag (Ap (pv 2))))))),?_⟩
  walk_at "rd"
  refine⟨by omega,fun q hq=>⟨by decide,ite2 (fun _=>?_) (fun _=>⟨⟨by decide,by decide⟩,by decide,?_⟩)⟩⟩
  ·have e0:=Int.emod_nonneg (c / 4) (show (8:Int)≠0 by decide)
   have e1:=Int.emod_lt_of_pos (c / 4) (show (0:Int)<8 by decide)
   refine⟨⟨by decide,by decide⟩,by decide,_,SqL.of Ac,?_⟩
   generalize c / 4%8=j at e0 e1
   have hj:j.toNat<QA.length:=by show j.toNat<8;omega
   have hx:QA[j.toNat]?=some QA[j.toNat]:=by simp[hj]
   exact⟨_,(Gi e0 hx:atI (QA.map V.int) j=_),k _ _ (Same.new hq) (Cc_ _ (List.getElem_mem hj))⟩
  ·have e0:=Int.emod_nonneg (c / 4) (show (200:Int)≠0 by decide)
   have e1:=Int.emod_lt_of_pos (c / 4) (show (0:Int)<200 by decide)
   generalize c / 4%200=j at e0 e1
   have s0:=Same.new (o:=.lst [V.int 2,V.int 3,V.int 5,V.int 7,V.int 65537,V.int 998244353,V.int 2147483647,V.int 180143985094819841]) hq
   generalize upd H q (.lst [V.int 2,V.int 3,V.int 5,V.int 7,V.int 65537,V.int 998244353,V.int 2147483647,V.int 180143985094819841])=H0 at s0 ⊢
   have h211:GS 211:=Gz (n:=4) (by decide) (by decide +kernel) (by decide +kernel)
   obtain⟨Pv,hPv⟩:∃Pv:Nat->St->Hp->Prop,∀m σ2 H2,Pv m σ2 H2↔(H2=H0/\∃nb:Int,m=(211-nb).toNat/\2<=nb/\nb<=211/\σ2=[some (.int c),some (.ref q),some (.int nb)]):=⟨_,fun _ _ _=>Iff.rfl⟩
   refine Yt Pv ⟨_,(hPv _ _ _).mpr ⟨rfl,2+j,rfl,by omega,by omega,rfl⟩⟩ ?_
   intro m σ2 H2 hpv
   obtain⟨rfl,nb,rfl,n0,n1,rfl⟩:=(hPv _ _ _).mp hpv
   walk_at "rd"
   refine⟨nb,rfl,n0,by omega,fun b hb=>⟨b,rfl,?_⟩⟩
   cases b with
   |true=>
    rw[if_neg (by decide)]
    exact k nb _ s0 ⟨n0,by omega,hb.mp rfl⟩
   |false=>
    rw[if_pos (by decide)]
    have hne:nb≠211:=fun z=>by
     have:=hb.mpr (by rw[z];exact h211)
     cases this
    refine⟨fun σ' H'=>∃m',m'<(211-nb).toNat/\Pv m' σ' H',fun _ _ h=>h,_,?_,(hPv _ _ _).mpr ⟨rfl,nb+1,rfl,by omega,by omega,rfl⟩⟩
    omega
def ML:Sp:=fun vs H Q _=>∃n:Int,vs=[.int n]/\Q (.bl true) H
theorem QC {f:Addr}{fd:FuncData}(F:Fun K "_law_whole" "_law_whole" BP f fd)(T:Txt mg)
  (Z:Exs K mg C_AskError C_BadWord C_NoInverse)
  : FnOk P w K mg base CX0 1 f fd ["found"] (ML):=by
 refine F.ok Qi (fun vs H Q E h=>?_) (fun cdv A outer s H vs Q E hr h=>?_)
 ·obtain⟨n,rfl,_⟩:=h;rfl
 ·obtain⟨n,rfl,q⟩:=h
  refine⟨_,(Ag (Ap (AK_ (Ak BO rfl T.isinstance PyProof.Rows.boot_isinstance (Aa (pv 0) (Aa (GL (v:=.ty "int") rfl T.int PyProof.Rows.boot_int rfl) Ab))) (XS (CG_ (Ak BO rfl T.isinstance PyProof.Rows.boot_isinstance (Aa (pv 0) (Aa (GL (v:=.ty "bool") rfl T.bool PyProof.Rows.boot_bool rfl) Ab)))))))),?_⟩
  walk_at "rd"
  refine⟨_,_,.int _,J8,_,F6,?_⟩
  rw[if_pos rfl]
  refine⟨_,_,.int _,J8,_,S2,?_⟩
  exact q
def Sm (p:Int)(tables:List (List (List Int))):Prop:=∀tb∈tables,∀r∈tb,∀x∈r,0<=x/\x<p
def G4 (K:PySem.W.Frag):Sp:=fun vs H Q _=>∃(a:Addr) (ns:List Int) (k p:Int),vs=[.ref a,.int k,.int p]/\SqL K H a (ns.map V.int)/\0<=k/\k<=100000/\0<p/\∀x,0<=x->x<p->Q (.int x) H
theorem Oc {f:Addr}{fd:FuncData}(F:Fun K "_law_number" "_law_number" Br f fd)(T:Txt mg)
  (Z:Exs K mg C_AskError C_BadWord C_NoInverse)
  {AF:Addr} {AL:FuncData} (AZ:FnOk P w K mg base CX0 1 AF AL ["script","k"] (Nr K)) (AM:Fun K "_law_cell" "_law_cell" B1 AF AL) (A0:Binds K AL ["script","k"] []) (A1:mg "_law_cell"=some (.ref AF))
  : FnOk P w K mg base CX0 2 f fd ["script","k","p"] (G4 K):=by
 refine F.ok Jb (fun vs H Q E h=>?_) (fun cdv A outer s H vs Q E hr h=>?_)
 ·obtain⟨a,ns,k,p,rfl,_⟩:=h;rfl
 ·obtain⟨a,ns,k,p,rfl,hs,k0,k1,hp,q⟩:=h
  refine⟨_,(Ad (Dt (AJ SN (pv 1) (Ak Ai (by rfl) T.len PySem.boot_len (Aa (pv 0) Ab)) (A3 _))
   (Ag (Ap (Aq Cg (Ar CF (pv 0) (pv 1) (fun _ _=>rfl)) (pv 2))))
   AY)
   (Ad (Aj (i:=3) Jb.nd rfl (Or.inl rfl) (Ak (MO rfl) rfl T.max PyProof.Rows.boot_max (Aa Af (Aa (Ak Ai (by rfl) T.len PySem.boot_len (Aa (pv 0) Ab)) Ab))))
   (Ag (Ap (Aq Cg (Aq Cg (Aq Cv (Aq Cv (Aq Ds (Aq Cg (Ah AZ (hr.mono (by decide)) rfl A1 AM.kp A0 .nil AD (Aa (pv 0) (Aa (Aq Cg (pv 1) (pv 3)) Ab))) Af) Af) (Aq Ds (Aq Ds (pv 1) (pv 1)) Af)) (Aq Ds Af (pv 1))) Af) (pv 2)))))),?_⟩
  walk_at "rd"
  refine⟨_,.inl hs,?_⟩
  rw[List.length_map]
  refine ite2 (fun hk=>?_) (fun hk=>?_)
  ·have hk':k.toNat<ns.length:=by omega
   refine⟨_,hs,_,Gi k0 (v:=ns[k.toNat]) (by simp[hk']),?_⟩
   walk_at "rd"
   exact⟨hp,q _ (Int.emod_nonneg _ (by omega)) (Int.emod_lt_of_pos _ hp)⟩
  ·have hm:(0:Int)<if ((ns.map V.int).length:Int) > 1 then ((ns.map V.int).length:Int) else 1:=by split<;>omega
   have r0:=Int.emod_nonneg k (show (if ((ns.map V.int).length:Int) > 1 then ((ns.map V.int).length:Int) else 1)≠0 by omega)
   exact⟨_,.inl hs,hm,a,ns,(k%if ((ns.map V.int).length:Int) > 1 then ((ns.map V.int).length:Int) else 1).toNat,by rw[Int.toNat_of_nonneg r0],hs,_,rfl,by decide,.inr ⟨by decide,by decide⟩,.inl ⟨by omega,by omega⟩,.inr ⟨by decide,by decide⟩,.inl ⟨by decide,by decide⟩,by decide,hp,q _ (Int.emod_nonneg _ (by omega)) (Int.emod_lt_of_pos _ hp)⟩
def QD (K:PySem.W.Frag):Sp:=fun vs H Q _=>∃(a:Addr) (ns:List Int) (c p:Int) (n:Nat),vs=[.ref a,.int c,.int n,.int p]/\SqL K H a (ns.map V.int)/\0<=c/\c<=10000/\n<=16/\0<p/\∀(t:Addr) (row:List Int) (H':Hp),Same H H'->SqT K H' t (row.map V.int)->row.length=n->(∀x∈row,0<=x/\x<p)->Q (.ref t) H'
theorem U6 {f:Addr}{fd:FuncData}(F:Fun K "_law_row" "_law_row" DQ f fd)(T:Txt mg)
  (Z:Exs K mg C_AskError C_BadWord C_NoInverse)
  {AG:Addr} {AS:FuncData} (Bu:FnOk P w K mg base CX0 2 AG AS ["script","k","p"] (G4 K)) (A8:Fun K "_law_number" "_law_number" Br AG AS) (Bv:Binds K AS ["script","k","p"] []) (Bw:mg "_law_number"=some (.ref AG))
  : FnOk P w K mg base CX0 3 f fd ["script","at","many","p"] (QD K):=by
 refine F.ok UU (fun vs H Q E h=>?_) (fun cdv A outer s H vs Q E hr h=>?_)
 ·obtain⟨a,ns,c,p,n,rfl,_⟩:=h;rfl
 ·obtain⟨a,ns,c,p,n,rfl,hs,c0,c1,hn,hp,k⟩:=h
  have hl:=An
  refine⟨_,(Ag (Ap (Ax Av rfl T.tuple PyProof.Rows.boot_tuple (Aa (CG rfl (Du rfl) (cp:=LY) ⟨⟨rfl,rfl⟩,⟨⟨rfl,rfl⟩,⟨⟨rfl,rfl⟩,True.intro⟩⟩⟩ (AQ rfl T.range (Aa (pv 2) Ab)) (fun _ _ _ _=>(Am (i:=0) M8 rfl (Or.inl rfl))) (fun _ _ _ _=>CH) (fun _ _ _ _=>(Ah Bu (hr.mono (by decide)) rfl Bw A8.kp Bv .nil AD (Aa (pv 1) (Aa (Aq Cv (pv 3) (pv 0)) (Aa (pv 2) Ab)))))) Ab)))),?_⟩
  walk_at "rd"
  refine⟨by omega,by omega,?_⟩
  rw[Int.toNat_natCast]
  obtain⟨Pc,hPc⟩:∃Pc:Nat->List V->St->Hp->Prop,∀j ys σ4 H4,Pc j ys σ4 H4↔(H4=H/\∃(row:List Int) (o:Option V),ys=row.map V.int/\row.length=j/\(∀x∈row,0<=x/\x<p)/\σ4=[o,some (.ref a),some (.int p),some (.int c)]):=⟨_,fun _ _ _ _=>Iff.rfl⟩
  refine N5 Pc ((hPc _ _ _ _).mpr ⟨rfl,[],none,rfl,rfl,by simp,rfl⟩) (by omega) (fun j ys σ4 H4 _ h4=>?_) (fun j ys σ4 H4 hj h4=>?_) (fun ys σ4 H4 h4 D hD=>?_)
  ·obtain⟨_,row,o,rfl,hrl,_⟩:=(hPc _ _ _ _).mp h4
   rw[List.length_map];omega
  ·obtain⟨rfl,row,o,rfl,hrl,hrr,rfl⟩:=(hPc _ _ _ _).mp h4
   rw[Int.zero_add]
   walk_at "rd"
   refine⟨a,ns,c+j,p,rfl,hs,by omega,by omega,hp,fun x x0 x1=>(hPc _ _ _ _).mpr ⟨rfl,row++[x],_,by simp,by simp[hrl],fun z hz'=>?_,rfl⟩⟩
   rcases List.mem_append.mp hz' with h' | h'
   ·exact hrr z h'
   ·rw[List.mem_singleton.mp h'];exact⟨x0,x1⟩
  ·obtain⟨rfl,row,o,rfl,hrl,hrr,rfl⟩:=(hPc _ _ _ _).mp h4
   exact⟨D,rfl,_,.inl ⟨SqL.of Ac,fun t ht=>k t row _ ((Same.new hD).newT ht) (SqT.of Ac) hrl hrr⟩⟩
def Nu (K:PySem.W.Frag):Sp:=fun vs H Q _=>∃(a b:Addr) (xs:List Int),vs=[.ref a,.ref b]/\SqT K H a (xs.map V.int)/\SqT K H b (xs.map V.int)/\xs.length<=900/\Q (.bl true) H
theorem Od {f:Addr}{fd:FuncData}(F:Fun K "_law_row_is" "_law_row_is" Cn f fd)(T:Txt mg)
  (Z:Exs K mg C_AskError C_BadWord C_NoInverse)
  {AN:Addr} {A9:FuncData} (BV:FnOk P w K mg base CX0 1 AN A9 ["found"] (ML)) (Bm:Fun K "_law_whole" "_law_whole" BP AN A9) (BX:Binds K A9 ["found"] []) (BY:mg "_law_whole"=some (.ref AN))
  : FnOk P w K mg base CX0 2 f fd ["found","due"] (Nu K):=by
 refine F.ok Jc (fun vs H Q E h=>?_) (fun cdv A outer s H vs Q E hr h=>?_)
 ·obtain⟨a,b,xs,rfl,_⟩:=h;rfl
 ·obtain⟨a,b,xs,rfl,ha,hb,hz,k⟩:=h
  refine⟨_,(Ad (Dt (PW.pt (Jo (EY (DL (Ak BO rfl T.isinstance PyProof.Rows.boot_isinstance (Aa (pv 0) (Aa (GL (v:=.ty "tuple") rfl T.tuple PyProof.Rows.boot_tuple rfl) Ab))))) (HE (AJ N1 (Ak Ai (by rfl) T.len PySem.boot_len (Aa (pv 0) Ab)) (Ak Ai (by rfl) T.len PySem.boot_len (Aa (pv 1) Ab)) (A3 _)))))
   (Ag (Ap EX))
   AY)
   (Ad (B7 PassesOwn.never rfl (AQ rfl T.range (Aa (Ak Ai (by rfl) T.len PySem.boot_len (Aa (pv 1) Ab)) Ab)) (Am (i:=2) Jc.nd rfl (Or.inl rfl))
   (Ag (Dt (PW.pt (Jo (EY (DL (Ah BV (hr.mono (by decide)) rfl BY Bm.kp BX .nil AD (Aa (Ar Al (pv 0) (pv 2) (fun _ _=>rfl)) Ab)))) (HE (AJ N1 (Ar Al (pv 0) (pv 2) (fun _ _=>rfl)) (Ar Al (pv 1) (pv 2) (fun _ _=>rfl)) (A3 _)))))
   (Ag (Ap EX))
   AY)))
   (Ag (Ap EX)))),?_⟩
  walk_at "rd"
  refine⟨_,_,.tup ha,J8,_,F6,?_⟩
  rw[if_neg (by decide)]
  refine⟨_,.inr ha,_,.inr hb,?_⟩
  rw[if_neg (by simp)]
  refine⟨_,.inr hb,?_⟩
  rw[List.length_map]
  refine⟨by omega,by omega,?_⟩
  rw[Int.toNat_natCast]
  refine forR (fun i σ3 H3=>H3=H/\∃o2,σ3=[some (.ref a),some (.ref b),o2]) ⟨rfl,_,rfl⟩ (fun i σ3 H3 hi h3=>?_) (fun σ3 H3 h3=>?_)
  ·obtain⟨rfl,o2,rfl⟩:=h3
   rw[Int.zero_add]
   have hx:xs[(i:Int).toNat]?=some xs[i]:=by simp[hi]
   walk_at "rd"
   refine⟨_,ha,_,Gi (by omega) hx,xs[i],rfl,_,rfl,?_⟩
   rw[if_neg (by decide)]
   refine⟨_,ha,_,Gi (by omega) hx,_,hb,_,Gi (by omega) hx,rfl,?_⟩
   rw[if_neg (by simp)]
   exact⟨rfl,_,rfl⟩
  ·obtain⟨rfl,o2,rfl⟩:=h3
   walk_at "rd"
   exact k
def Nv (K:PySem.W.Frag):Sp:=fun vs H Q _=>∃(p:Int) (a b:Addr) (xs:List V) (rows:List (List Int)) (am:List Int) (n:Nat),vs=[.int p,.ref b,.ref a]/\0<p/\p<1000000000000000000/\SqT K H a xs/\A2 K H xs rows/\rows.length=n/\(∀r∈rows,r.length=n)/\SqT K H b (am.map V.int)/\am.length=n/\n<=16/\(∀x∈am,0<=x/\x<p)/\∀q H',Same H H'->SqT K H' q ((D0 p rows am n).map V.int)->Q (.ref q) H'
theorem Tt {f:Addr}{fd:FuncData}(F:Fun K "_law_step" "_law_step" CT f fd)(T:Txt mg)
  (Z:Exs K mg C_AskError C_BadWord C_NoInverse)
  : FnOk P w K mg base CX0 1 f fd ["p","row","table"] (Nv K):=by
 refine F.ok HN (fun vs H Q E h=>?_) (fun cdv A outer s H vs Q E hr h=>?_)
 ·obtain⟨p,a,b,xs,rows,am,n,rfl,_⟩:=h;rfl
 ·obtain⟨p,a,b,xs,rows,am,n,rfl,hp,hp18,ha,hrw,hrl,hrn,hb,hlen,hn,h64,k⟩:=h
  have hl:=An
  refine⟨_,(Ad (Aj (i:=3) HN.nd rfl (Or.inl rfl) (Fm Ab))
   (Ad (B7 PassesOwn.never rfl (AQ rfl T.range (Aa (Ak Ai (by rfl) T.len PySem.boot_len (Aa (pv 1) Ab)) Ab)) (Am (i:=4) HN.nd rfl (Or.inr rfl))
   (Ag (DB (J4 PySem.F.plainAttrs_list PySem.F.slot_list_append PySem.F.type_list_append B9 (pv 3) (Aa (Aq Cg (Ak (Qb rfl) rfl T.sum PyProof.Rows.boot_sum (Aa (CG rfl (Du rfl) (cp:=Kg) ⟨⟨rfl,rfl⟩,⟨⟨rfl,rfl⟩,⟨⟨rfl,rfl⟩,True.intro⟩⟩⟩ (AQ rfl T.range (Aa (Ak Ai (by rfl) T.len PySem.boot_len (Aa (pv 1) Ab)) Ab)) (fun _ _ _ _=>(Am (i:=0) Mh rfl (Or.inl rfl))) (fun _ _ _ _=>CH) (fun _ _ _ _=>(Aq Ds (Ar (Ep (K:=K) rfl) (pv 1) (pv 0) (fun _ _=>rfl)) (Ar (Ep (K:=K) rfl) (Ar (Ep (K:=K) rfl) (pv 3) (pv 0) (fun _ _=>rfl)) (pv 2) (fun _ _=>rfl))))) Ab)) (pv 0)) Ab)))))
   (Ag (Ap (Ax Av rfl T.tuple PyProof.Rows.boot_tuple (Aa (pv 3) Ab)))))),?_⟩
  walk_at "rd"
  refine⟨by omega,fun q hq=>⟨_,.inr ((Same.new hq).seqT hb),by rw[List.length_map];omega,by rw[List.length_map];omega,?_⟩⟩
  rw[Int.toNat_natCast,List.length_map,hlen]
  obtain⟨Pv,hPv⟩:∃Pv:Nat->St->Hp->Prop,∀c σ' H',Pv c σ' H'↔(Same H H'/\H' q=some (.lst ((D0 p rows am c).map V.int))/\∃o,σ'=[some (.int p),some (.ref b),some (.ref a),some (.ref q),o]):=⟨_,fun _ _ _=>Iff.rfl⟩
  refine forR Pv ((hPv _ _ _).mpr ⟨Same.new hq,Ac,none,rfl⟩) (fun c σ2 H2 hc h2=>?_) (fun σ2 H2 h2=>?_)
  ·obtain⟨s2,hq2,o,rfl⟩:=(hPv _ _ _).mp h2
   rw[Int.zero_add]
   walk_at "rd"
   refine⟨.inl ⟨rfl,_,SqL.of hq2⟩,_,.inr (s2.seqT hb),by rw[List.length_map];omega,by rw[List.length_map];omega,?_⟩
   rw[Int.toNat_natCast,List.length_map,hlen]
   obtain⟨Pc,hPc⟩:∃Pc:Nat->List V->St->Hp->Prop,∀j ys σ4 H4,Pc j ys σ4 H4↔(H4=H2/\ys=((List.range j).map fun k=>am.getD k 0*(rows.getD k []).getD c 0).map V.int/\∃o,σ4=[o,some (.ref b),some (.int c),some (.ref a)]):=⟨_,fun _ _ _ _=>Iff.rfl⟩
   refine N5 Pc ((hPc _ _ _ _).mpr ⟨rfl,rfl,none,rfl⟩) (by omega) (fun j ys σ4 H4 _ h4=>?_) (fun j ys σ4 H4 hj h4=>?_) (fun ys σ4 H4 h4 D hD=>?_)
   ·obtain⟨_,rfl,_⟩:=(hPc _ _ _ _).mp h4
    rw[List.length_map,List.length_map,List.length_range];exact Nat.le_refl _
   ·obtain⟨rfl,rfl,o',rfl⟩:=(hPc _ _ _ _).mp h4
    rw[Int.zero_add]
    have hja:j<am.length:=by omega
    have hjr:j<rows.length:=by omega
    obtain⟨t,e1,e2⟩:=hrw.2 j rows[j] (by simp[hjr])
    have hcl:c<(rows[j]).length:=by rw[hrn _ (List.getElem_mem hjr)];exact hc
    have er:rows.getD j []=rows[j]:=by rw[List.getD_eq_getElem?_getD,List.getElem?_eq_getElem hjr];rfl
    have ea:am.getD j 0=am[j]:=by rw[List.getD_eq_getElem?_getD,List.getElem?_eq_getElem hja];rfl
    have ec:(rows.getD j []).getD c 0=(rows[j])[c]:=by rw[er,List.getD_eq_getElem?_getD,List.getElem?_eq_getElem hcl];rfl
    have hx:=h64 _ (List.getElem_mem hja)
    walk_at "rd"
    refine⟨_,s2.seqT hb,_,Gi (by omega) (v:=am[j]) (by simp[hja]),_,s2.seqT ha,_,Bc e1,t,rfl,_,s2.seqT e2,_,Gi (by omega) (v:=(rows[j])[c]) (by simp[hcl]),?_⟩
    refine⟨_,rfl,_,rfl,.inl ⟨by omega,by omega⟩,(hPc _ _ _ _).mpr ⟨rfl,?_,_,rfl⟩⟩
    rw[List.range_succ,List.map_append,List.map_append,List.map_singleton,List.map_singleton,ea,ec]
   ·obtain⟨rfl,rfl,o',rfl⟩:=(hPc _ _ _ _).mp h4
    refine⟨D,rfl,_,SqL.of Ac,hp,_,(Same.new hD) _ _ hq2,by unfold D0;rw[List.length_map,List.length_map,List.length_range];omega,(hPv _ _ _).mpr ⟨(s2.newT hD).over hq,?_,_,rfl⟩⟩
    have:=DU_ am rows c (by omega)
    rw[hrl]at this
    rw[Ac,this]
    unfold D0
    rw[List.range_succ,List.map_append,List.map_append];rfl
  ·obtain⟨s2,hq2,o,rfl⟩:=(hPv _ _ _).mp h2
   walk_at "rd"
   exact⟨_,.inl ⟨SqL.of hq2,fun t ht=>k t _ (s2.newT ht) (SqT.of Ac)⟩⟩
def Pk (K:PySem.W.Frag):Sp:=fun vs H Q _=>∃(p:Int) (a b:Addr) (xs ys:List Int),vs=[.int p,.ref a,.ref b]/\0<p/\p<1000000000000000000/\SqT K H a (xs.map V.int)/\SqT K H b (ys.map V.int)/\xs.length=ys.length/\xs.length<=16/\(∀x∈xs,0<=x/\x<p)/\∀H',Same H H'->Q (.int (dotW xs ys%p)) H'
theorem QE {f:Addr}{fd:FuncData}(F:Fun K "_law_times" "_law_times" CU f fd)(T:Txt mg)
  (Z:Exs K mg C_AskError C_BadWord C_NoInverse)
  : FnOk P w K mg base CX0 1 f fd ["p","one","two"] (Pk K):=by
 refine F.ok Qj (fun vs H Q E h=>?_) (fun cdv A outer s H vs Q E hr h=>?_)
 ·obtain⟨p,a,b,xs,ys,rfl,_⟩:=h;rfl
 ·obtain⟨p,a,b,xs,ys,rfl,hp,hp18,ha,hb,hlen,hn,h64,k⟩:=h
  have hl:=An
  refine⟨_,(Ag (Ap (Aq Cg (Ak (Qb rfl) rfl T.sum PyProof.Rows.boot_sum (Aa (CG rfl (Du rfl) (cp:=Jg) ⟨⟨rfl,rfl⟩,⟨⟨rfl,rfl⟩,True.intro⟩⟩ (AQ rfl T.range (Aa (Ak Ai (by rfl) T.len PySem.boot_len (Aa (pv 1) Ab)) Ab)) (fun _ _ _ _=>(Am (i:=0) Lj rfl (Or.inl rfl))) (fun _ _ _ _=>CH) (fun _ _ _ _=>(Aq Ds (Ar (Ep (K:=K) rfl) (pv 1) (pv 0) (fun _ _=>rfl)) (Ar (Ep (K:=K) rfl) (pv 2) (pv 0) (fun _ _=>rfl))))) Ab)) (pv 0)))),?_⟩
  walk_at "rd"
  refine⟨_,.inr ha,by rw[List.length_map];omega,by rw[List.length_map];omega,?_⟩
  rw[Int.toNat_natCast,List.length_map]
  obtain⟨Pe,hPe⟩:∃Pe:Nat->List V->St->Hp->Prop,∀j zs σ4 H',Pe j zs σ4 H'↔(H'=H/\zs=((List.range j).map fun k=>xs.getD k 0*ys.getD k 0).map V.int/\∃o,σ4=[o,some (.ref a),some (.ref b)]):=⟨_,fun _ _ _ _=>Iff.rfl⟩
  refine N5 Pe ((hPe _ _ _ _).mpr ⟨rfl,rfl,none,rfl⟩) (by omega) (fun j zs σ4 H' _ h4=>?_) (fun j zs σ4 H' hj h4=>?_) (fun zs σ4 H' h4 D6 hD6=>?_)
  ·obtain⟨_,rfl,_⟩:=(hPe _ _ _ _).mp h4
   rw[List.length_map,List.length_map,List.length_range];exact Nat.le_refl _
  ·obtain⟨rfl,rfl,o',rfl⟩:=(hPe _ _ _ _).mp h4
   rw[Int.zero_add]
   have hj2:j<ys.length:=by omega
   have ex:xs.getD j 0=xs[j]:=by rw[List.getD_eq_getElem?_getD,List.getElem?_eq_getElem hj];rfl
   have ey:ys.getD j 0=ys[j]:=by rw[List.getD_eq_getElem?_getD,List.getElem?_eq_getElem hj2];rfl
   have hx:=h64 _ (List.getElem_mem hj)
   walk_at "rd"
   refine⟨_,ha,_,Gi (by omega) (v:=xs[j]) (by simp[hj]),_,hb,_,Gi (by omega) (v:=ys[j]) (by simp[hj2]),_,rfl,_,rfl,.inl ⟨by omega,by omega⟩,(hPe _ _ _ _).mpr ⟨rfl,?_,_,rfl⟩⟩
   rw[List.range_succ,List.map_append,List.map_append,List.map_singleton,List.map_singleton,ex,ey]
  ·obtain⟨rfl,rfl,o',rfl⟩:=(hPe _ _ _ _).mp h4
   have hsum:((List.range xs.length).map fun k=>xs.getD k 0*ys.getD k 0).sum=dotW xs ys:=by
    unfold dotW
    congr 1
    refine List.ext_getElem (by simp[hlen]) fun i h1 h2=>?_
    have hi:i<xs.length:=by simpa using h1
    have hi':i<ys.length:=by omega
    simp[List.getD_eq_getElem?_getD,hi,hi']
   refine⟨D6,rfl,_,SqL.of Ac,hp,?_⟩
   rw[hsum]
   exact k _ (Same.new hD6)
def Nw (K:PySem.W.Frag):Sp:=fun vs H Q _=>∃(h a:Addr) (p L:Int) (d:Nat) (first last ws:List Int) (tables:List (List (List Int))),vs=[.ref h,.ref a]/\SumH K H h p L first tables last/\WfSum p L d first tables last/\SqT K H a (ws.map V.int)/\isW L ws=true/\∀(t:Addr) (H':Hp),Same H H'->SqT K H' t ((rowS p d tables first ws).map V.int)->Q (.ref t) H'
theorem Oe {f:Addr}{fd:FuncData}(F:Fun K "_law_behind" "_law_behind" Co f fd)(T:Txt mg)
  (Z:Exs K mg C_AskError C_BadWord C_NoInverse)
  {BI:Addr} {C7:FuncData} (EC:FnOk P w K mg base CX0 1 BI C7 ["p","row","table"] (Nv K)) (C8:Fun K "_law_step" "_law_step" CT BI C7) (ED:Binds K C7 ["p","row","table"] []) (EE:mg "_law_step"=some (.ref BI))
  : FnOk P w K mg base CX0 2 f fd ["house","word"] (Nw K):=by
 refine F.ok EU (fun vs H Q E h=>?_) (fun cdv A outer s H vs Q E hr h=>?_)
 ·obtain⟨h,a,p,L,d,first,last,ws,tables,rfl,_⟩:=h;rfl
 ·obtain⟨h,a,p,L,d,first,last,ws,tables,rfl,hh,wf,hw,hv,k⟩:=h
  have h2:=wf.p2
  have h18:=wf.p18
  have hd:=wf.dl
  refine⟨_,(Ad (Aj (i:=2) EU.nd rfl (Or.inl rfl) (Ar Al (pv 0) Af (fun _ _=>rfl)))
   (Ad (B7 PassesOwn.never rfl (Hu (pv 1)) (Am (i:=3) EU.nd rfl (Or.inl rfl))
   (Ag (Aj (i:=2) EU.nd rfl (Or.inl rfl) (Ah EC (hr.mono (by decide)) rfl EE C8.kp ED .nil AD (Aa (Ar Al (pv 0) Af (fun _ _=>rfl)) (Aa (pv 2) (Aa (Ar Al (Ar Al (pv 0) Af (fun _ _=>rfl)) (pv 3) (fun _ _=>rfl)) Ab)))))))
   (Ag (Ap (pv 2))))),?_⟩
  obtain⟨tf,tt,tl,e1,e2,e3,e4⟩:=id hh
  walk_at "rd"
  refine⟨_,e1,_,rfl,⟨_,hw⟩,?_⟩
  obtain⟨Pv,hPv⟩:∃Pv:Nat->St->Hp->Prop,∀i σ' H',Pv i σ' H'↔(∃(t:Addr) (o:Option V),Same H H'/\SqT K H' t ((rowS p d tables first (ws.take i)).map V.int)/\σ'=[some (.ref h),some (.ref a),some (.ref t),o]):=⟨_,fun _ _ _=>Iff.rfl⟩
  refine forT (xs:=ws.map V.int) Pv ((hPv _ _ _).mpr ⟨tf,none,Same.refl _,e2,rfl⟩) (fun i σ' H' _ h'=>by obtain⟨_,_,s',_⟩:=(hPv _ _ _).mp h';exact s'.seqT hw) (fun i x σ' H' hx h'=>?_) (fun σ' H' h'=>?_)
  ·obtain⟨t,o,s2,ht,rfl⟩:=(hPv _ _ _).mp h'
   obtain⟨n,hn,rfl⟩:=GP hx
   have hnr:=AB.mp hv n (List.mem_of_getElem? hn)
   obtain⟨r1,r2⟩:=wf.row (ws.take i)
   obtain⟨t1,t2,t3⟩:=wf.table hnr.1 hnr.2
   obtain⟨zs,u,xs,z1,z2,z3,z4⟩:=(e4.mono s2).at t1
   rw[Int.toNat_of_nonneg hnr.1]at z2
   walk_at "rd"
   refine⟨_,s2.seqT e1,_,rfl,_,s2.seqT e1,_,rfl,?_⟩
   walk_at "rd"
   exact⟨_,z1,_,z2,p,u,t,xs,_,_,d,rfl,by omega,by omega,z3,z4,t2,t3,ht,r1,by omega,r2,fun q H3 s3 hq=>(hPv _ _ _).mpr ⟨q,_,s2.trans s3,by rw[To hn];exact hq,rfl⟩⟩
  ·obtain⟨t,o,s2,ht,rfl⟩:=(hPv _ _ _).mp h'
   rw[List.length_map,List.take_length]at ht
   walk_at "rd"
   exact k t _ s2 ht
def TabL (K:PySem.W.Frag)(H:Hp)(us:List Addr)(tables:List (List (List Int))):Prop:=us.length=tables.length/\∀(i:Nat) (u:Addr) (tb:List (List Int)),us[i]?=some u->tables[i]?=some tb->∃xs,SqT K H u xs/\A2 K H xs tb
theorem TabL.mono {K:PySem.W.Frag}{H H':Hp}{us:List Addr}{tables:List (List (List Int))}(h:TabL K H us tables)(s:∀t ys,SqT K H t ys->SqT K H' t ys):TabL K H' us tables:=by
 refine⟨h.1,fun i u tb h1 h2=>?_⟩
 obtain⟨xs,d,e⟩:=h.2 i u tb h1 h2
 refine⟨xs,s _ _ d,e.1,fun j r hj=>?_⟩
 obtain⟨t,a,b⟩:=e.2 j r hj
 exact⟨t,a,s _ _ b⟩
theorem TabL.snoc {K:PySem.W.Frag}{H:Hp}{us:List Addr}{tables:List (List (List Int))}{u:Addr}{xs:List V}{tb:List (List Int)}(h:TabL K H us tables)(h1:SqT K H u xs)(h2:A2 K H xs tb):TabL K H (us++[u]) (tables++[tb]):=by
 refine⟨by simp[h.1],fun i v tb' hi ht=>?_⟩
 by_cases hl:i<us.length
 ·rw[List.getElem?_append_left hl]at hi
  rw[List.getElem?_append_left (by rw[<-h.1];exact hl)]at ht
  exact h.2 i v tb' hi ht
 ·have:=(List.getElem?_eq_some_iff.mp hi).1
  rw[List.length_append,List.length_singleton]at this
  have e:i=us.length:=by omega
  subst e
  rw[List.getElem?_append_right (Nat.le_refl _),Nat.sub_self]at hi
  rw[h.1,List.getElem?_append_right (Nat.le_refl _),Nat.sub_self]at ht
  simp at hi ht
  subst hi ht
  exact⟨xs,h1,h2⟩
def Pl (K:PySem.W.Frag):Sp:=fun vs H Q _=>∃(a:Addr) (ns:List Int) (c p:Int) (L n:Nat),vs=[.ref a,.int c,.int p,.int L,.int n]/\SqL K H a (ns.map V.int)/\0<=c/\c<=100/\2<=p/\p<1000000000000000000/\1<=L/\L<=6/\n<=4/\∀(h:Addr) (first last:List Int) (tables:List (List (List Int))) (H':Hp),Same H H'->SumH K H' h p L first tables last->WfSum p L n first tables last->Sm p tables->Q (.ref h) H'
theorem QF {f:Addr}{fd:FuncData}(F:Fun K "_law_house" "_law_house" CS f fd)(T:Txt mg)
  (Z:Exs K mg C_AskError C_BadWord C_NoInverse)
  {Cc:Addr} {DG:FuncData} (DU:FnOk P w K mg base CX0 3 Cc DG ["script","at","many","p"] (QD K)) (CD:Fun K "_law_row" "_law_row" DQ Cc DG) (DV:Binds K DG ["script","at","many","p"] []) (DW:mg "_law_row"=some (.ref Cc))
  : FnOk P w K mg base CX0 4 f fd ["script","at","p","letters","many"] (Pl K):=by
 refine F.ok D4 (fun vs H Q E h=>?_) (fun cdv A outer s H vs Q E hr h=>?_)
 ·obtain⟨a,ns,c,p,L,n,rfl,_⟩:=h;rfl
 ·obtain⟨a,ns,c,p,L,n,rfl,hs,c0,c1,p2,p18,hL1,hL6,hn,k⟩:=h
  have hl:=An
  refine⟨_,(Ad (Aj (i:=5) D4.nd rfl (Or.inl rfl) (Fm Ab))
   (Ad (B7 PassesOwn.never rfl (AQ rfl T.range (Aa (pv 3) Ab)) (Am (i:=6) D4.nd rfl (Or.inl rfl))
   (Ad (Aj (i:=7) D4.nd rfl (Or.inr rfl) (Aq Cv (Aq Cv (pv 1) (Aq Ds Af (pv 4))) (Aq Ds (Aq Ds (pv 6) (pv 4)) (pv 4))))
   (Ag (DB (J4 PySem.F.plainAttrs_list PySem.F.slot_list_append PySem.F.type_list_append B9 (pv 5) (Aa (Ax Av rfl T.tuple PyProof.Rows.boot_tuple (Aa (CG rfl (Du rfl) (cp:=Jf) ⟨⟨rfl,rfl⟩,⟨⟨rfl,rfl⟩,⟨⟨rfl,rfl⟩,⟨⟨rfl,rfl⟩,True.intro⟩⟩⟩⟩ (AQ rfl T.range (Aa (pv 4) Ab)) (fun _ _ _ _=>(Am (i:=0) Li rfl (Or.inl rfl))) (fun _ _ _ _=>CH) (fun _ _ _ _=>(Ah DU (hr.mono (by decide)) rfl DW CD.kp DV .nil AD (Aa (pv 1) (Aa (Aq Cv (pv 4) (Aq Ds (pv 2) (pv 0))) (Aa (pv 2) (Aa (pv 3) Ab))))))) Ab)) Ab))))))
   (Ad (Aj (i:=8) D4.nd rfl (Or.inl rfl) (Ah DU (hr.mono (by decide)) rfl DW CD.kp DV .nil AD (Aa (pv 0) (Aa (pv 1) (Aa (pv 4) (Aa (pv 2) Ab))))))
   (Ag (Ap (Bz (Aa (pv 2) (Aa (pv 3) (Aa (pv 8) (Aa (Ax Av rfl T.tuple PyProof.Rows.boot_tuple (Aa (pv 5) Ab)) (Aa (Ah DU (hr.mono (by decide)) rfl DW CD.kp DV .nil AD (Aa (pv 0) (Aa (Aq Cv (pv 1) (pv 4)) (Aa (pv 4) (Aa (pv 2) Ab))))) Ab))))))))))),?_⟩
  walk_at "rd"
  refine⟨by omega,fun q hq=>⟨by omega,by omega,?_⟩⟩
  rw[Int.toNat_natCast]
  obtain⟨Pv,hPv⟩:∃Pv:Nat->St->Hp->Prop,∀i σ' H',Pv i σ' H'↔(∃(us:List Addr) (tables:List (List (List Int))) (o1 o2:Option V),Same H H'/\H' q=some (.lst (us.map V.ref))/\TabL K H' us tables/\tables.length=i/\(∀tb∈tables,(tb.length=n/\∀r∈tb,r.length=n)/\∀r∈tb,∀x∈r,0<=x/\x<p)/\σ'=[some (.ref a),some (.int c),some (.int p),some (.int L),some (.int n),some (.ref q),o1,o2,none]):=⟨_,fun _ _ _=>Iff.rfl⟩
  refine forR Pv ((hPv _ _ _).mpr ⟨[],[],none,none,Same.new hq,Ac,⟨rfl,fun i u tb h=>by simp at h⟩,rfl,by simp,rfl⟩) (fun i σ2 H2 hi h2=>?_) (fun σ2 H2 h2=>?_)
  ·obtain⟨us,tables,o1,o2,s2,hq2,hT,htl,htt,rfl⟩:=(hPv _ _ _).mp h2
   rw[Int.zero_add]
   walk_at "rd"
   have b1:0<=(i:Int)*(n:Int)/\(i:Int)*(n:Int)<=24:=by
    have h1:i*n<=6*4:=Nat.mul_le_mul (by omega) (by omega)
    have h2:(i:Int)*(n:Int)=((i*n:Nat):Int):=by rw[Int.natCast_mul]
    omega
   have b2:0<=(i:Int)*(n:Int)*(n:Int)/\(i:Int)*(n:Int)*(n:Int)<=96:=by
    have h1:i*n*n<=24*4:=Nat.mul_le_mul (Nat.mul_le_mul (show i<=6 by omega) (show n<=4 by omega)) (by omega)
    have h2:(i:Int)*(n:Int)*(n:Int)=((i*n*n:Nat):Int):=by rw[Int.natCast_mul,Int.natCast_mul]
    omega
   refine⟨.inl ⟨by decide,by decide⟩,.inr ⟨by omega,by omega⟩,.inr ⟨by omega,by omega⟩,.inl ⟨rfl,_,SqL.of hq2⟩,by omega,by omega,?_⟩
   have hbs:0<=c+2*(n:Int)+(i:Int)*(n:Int)*(n:Int)/\c+2*(n:Int)+(i:Int)*(n:Int)*(n:Int)<=300:=by omega
   generalize c+2*(n:Int)+(i:Int)*(n:Int)*(n:Int)=bs at hbs ⊢
   rw[Int.toNat_natCast]
   obtain⟨Pc,hPc⟩:∃Pc:Nat->List V->St->Hp->Prop,∀j ys σ4 H4,Pc j ys σ4 H4↔(Same H2 H4/\∃(rows:List (List Int)) (o:Option V),A2 K H4 ys rows/\rows.length=j/\(∀r∈rows,r.length=n/\∀x∈r,0<=x/\x<p)/\σ4=[o,some (.ref a),some (.int n),some (.int p),some (.int bs)]):=⟨_,fun _ _ _ _=>Iff.rfl⟩
   refine N5 Pc ((hPc _ _ _ _).mpr ⟨Same.refl _,[],none,A2.nil,rfl,by simp,rfl⟩) (by omega) (fun j ys σ4 H4 _ h4=>?_) (fun j ys σ4 H4 hj h4=>?_) (fun ys σ4 H4 h4 D hD=>?_)
   ·obtain⟨_,rows,o,hR,hrl,_⟩:=(hPc _ _ _ _).mp h4
    rw[hR.1];omega
   ·obtain⟨s4,rows,o,hR,hrl,hrn,rfl⟩:=(hPc _ _ _ _).mp h4
    rw[Int.zero_add]
    have b3:0<=(n:Int)*(j:Int)/\(n:Int)*(j:Int)<=16:=by
     have h1:n*j<=4*4:=Nat.mul_le_mul (by omega) (by omega)
     have h2:(n:Int)*(j:Int)=((n*j:Nat):Int):=by rw[Int.natCast_mul]
     omega
    walk_at "rd"
    refine⟨.inl ⟨by omega,by omega⟩,a,ns,bs+n*j,p,n,rfl,(s2.trans s4).seq hs,by omega,by omega,by omega,by omega,fun t row H5 s5 ht hrl' hrr=>(hPc _ _ _ _).mpr ⟨s4.trans s5,rows++[row],_,(hR.mono s5).snoc ht,by simp[hrl],fun r hr'=>?_,rfl⟩⟩
    rcases List.mem_append.mp hr' with h' | h'
    ·exact hrn r h'
    ·rw[List.mem_singleton.mp h'];exact⟨hrl',hrr⟩
   ·obtain⟨s4,rows,o,hR,hrl,hrn,rfl⟩:=(hPc _ _ _ _).mp h4
    refine⟨D,rfl,_,.inl ⟨SqL.of Ac,fun t ht=>?_⟩⟩
    have sDt:=(Same.new hD (o:=.lst ys)).newT ht (o:=.tup ys)
    have hq4:=(s4.trans sDt) _ _ hq2
    have hxl:=hT.1
    refine⟨_,hq4,by rw[List.length_map];omega,(hPv _ _ _).mpr ⟨us++[t],tables++[rows],_,_,((s2.trans s4).trans sDt).over hq,by rw[Ac];simp,?_,by simp[htl],fun tb htb=>?_,rfl⟩⟩
    ·exact ((hT.mono fun t' ys' e'=>(s4.trans sDt).seqT e').snoc (SqT.of Ac) (hR.mono sDt)).mono fun t' ys' e'=>Ay hq4 e'
    ·rcases List.mem_append.mp htb with h' | h'
     ·exact htt tb h'
     ·rw[List.mem_singleton.mp h'];exact⟨⟨hrl,fun r z=>(hrn r z).1⟩,fun r z=>(hrn r z).2⟩
  ·obtain⟨us,tables,o1,o2,s2,hq2,hT,htl,htt,rfl⟩:=(hPv _ _ _).mp h2
   walk_at "rd"
   refine⟨a,ns,c,p,n,rfl,s2.seq hs,c0,by omega,by omega,by omega,fun tf first H3 s3 htf hfl hfr=>⟨_,.inl ⟨SqL.of (s3 _ _ hq2),fun tt htt'=>?_⟩⟩⟩
   have stt:=Same.new htt' (o:=.tup (us.map V.ref))
   refine⟨a,ns,c+n,p,n,rfl,((s2.trans s3).trans stt).seq hs,by omega,by omega,by omega,by omega,fun tl last H4 s4 htl' hll hlr=>⟨by omega,fun hh hhh=>?_⟩⟩
   have sh:=Same.new hhh (o:=.tup [V.int p,V.int L,V.ref tf,V.ref tt,V.ref tl])
   have s24:=(s3.trans stt).trans s4
   refine k hh first last tables _ ((s2.trans s24).trans sh) ⟨tf,tt,tl,SqT.of Ac,((stt.trans s4).trans sh).seqT htf,sh.seqT htl',us,(s4.trans sh).seqT (SqT.of Ac),hT.1,?_⟩ ⟨p2,p18,by omega,⟨hfl,hfr⟩,⟨hll,hlr⟩,by omega,fun tb z=>(htt tb z).1⟩ (fun tb z=>(htt tb z).2)
   exact (hT.mono fun t' ys' e'=>(s24.trans sh).seqT e').2
theorem Nx {p:Int}{rows:List (List Int)}{am:List Int}{n i:Nat}(hi:i<n):(D0 p rows am n).getD i 0=dotW am (colW rows i)%p:=by
 unfold D0
 rw[List.getD_eq_getElem?_getD,List.getElem?_map,List.getElem?_range hi];rfl
theorem Y9 (p:Int)(rows:List (List Int))(am:List Int)(n:Nat):cg p (D0 p rows am n) ((List.range n).map fun c=>dotW am (colW rows c)):=by
 unfold D0
 exact cg.map fun c _=>Int.emod_emod_of_dvd _ (Int.dvd_refl p)
theorem Za {p:Int}{d:Nat}{r:List Int}(hl:r.length=d){f:Nat->Int}(h:∀i:Nat,i<d->r.getD i 0%p=f i%p):cg p r ((List.range d).map f):=by
 have e:r=(List.range d).map fun i=>r.getD i 0:=by
  refine List.ext_getElem? fun i=>?_
  by_cases hi:i<d
  ·rw[List.getElem?_map,List.getElem?_range hi,List.getElem?_eq_getElem (show i<r.length by omega)]
   show some _=some (r.getD i 0)
   rw[List.getD_eq_getElem?_getD,List.getElem?_eq_getElem (show i<r.length by omega)];rfl
  ·rw[List.getElem?_eq_none (by omega),List.getElem?_eq_none (by simp;omega)]
 rw[e]
 exact cg.map fun i hi=>h i (List.mem_range.mp hi)
theorem Ea_ {p:Int}{L d x:Nat}{tables:List (List (List Int))}{first last:List Int}{ws:List (List Int)}(wf:WfSum p L d first tables last){W:List (List Int)}{tv r:List Int}(hx:x<L)
  (hW:W.length=ws.length) (hg:∀(i:Nat) (g v:List Int),W[i]?=some g->ws[i]?=some v->L3 p L d (Mine.rowS p d tables first) ws (v++[(x:Int)]) g) (htl:tv.length=ws.length) (hr:r.length=d)
  (he:∀i:Nat,i<d->r.getD i 0%p=dotW tv (colW (ws.map (Mine.rowS p d tables first)) i)%p):
  ∀c:Nat,c<d->(Fi p d tables r x).getD c 0%p=dotW (D0 p W tv ws.length) (colW (ws.map (Mine.rowS p d tables first)) c)%p:=fun c hc=>by
 have p2:=wf.p2
 have hcl:(colW (ws.map (Mine.rowS p d tables first)) c).length=ws.length:=by rw[EW,List.length_map]
 have hWl:∀g∈W,g.length=ws.length:=fun g hg'=>by
  obtain⟨i,hi⟩:=List.mem_iff_getElem?.mp hg'
  have hil:i<ws.length:=by rw[<-hW];exact (List.getElem?_eq_some_iff.mp hi).1
  exact (hg i g ws[i] hi (by simp)).1
 have hT:(tables.getD ((x:Int)).toNat []).length=d/\∀q∈tables.getD ((x:Int)).toNat [],q.length=d:=by
  have hxt:x<tables.length:=by have:=wf.t;omega
  rw[show ((x:Int)).toNat=x by omega,List.getD_eq_getElem?_getD,List.getElem?_eq_getElem hxt]
  exact wf.tt _ (List.getElem_mem hxt)
 -- the right side
 rw[cg.dot (Y9 p W tv ws.length) (cg.refl p (colW (ws.map (Mine.rowS p d tables first)) c)),IS hcl W tv hWl (by rw[htl,hW])]
 have hR:cg p (W.map fun g=>dotW (colW (ws.map (Mine.rowS p d tables first)) c) g) (ws.map fun v=>(Mine.rowS p d tables first (v++[(x:Int)])).getD c 0):=by
  unfold cg
  rw[List.map_map,List.map_map]
  refine List.ext_getElem? fun i=>?_
  rw[List.getElem?_map,List.getElem?_map]
  by_cases hi:i<ws.length
  ·rw[List.getElem?_eq_getElem (show i<W.length by omega),List.getElem?_eq_getElem hi]
   have:=(hg i W[i] ws[i] (by simp) (by simp)).2.2.1 c hc
   rw[Bb]at this
   exact congrArg some this.symm
  ·rw[List.getElem?_eq_none (by omega),List.getElem?_eq_none (by omega)];rfl
 rw[cg.dot (cg.refl p tv) hR]
 -- the left side
 unfold Fi
 rw[Nx hc,Int.emod_emod_of_dvd _ (Int.dvd_refl p)]
 rw[cg.dot (Za hr he) (cg.refl p (colW (tables.getD ((x:Int)).toNat []) c)),IS (by rw[EW];exact hT.1) (ws.map (Mine.rowS p d tables first)) tv (fun q hq=>by obtain⟨v,_,rfl⟩:=List.mem_map.mp hq;exact (wf.row v).1) (by rw[List.length_map,htl]),List.map_map]
 refine cg.dot (cg.refl p tv) (cg.map fun v _=>?_)
 show dotW _ (Mine.rowS p d tables first v)%p=_
 rw[Bb]
 have e:Mine.rowS p d tables first (v++[(x:Int)])=Fi p d tables (Mine.rowS p d tables first v) x:=by unfold Mine.rowS;rw[List.foldl_append];rfl
 rw[e]
 unfold Fi
 rw[Nx hc,Int.emod_emod_of_dvd _ (Int.dvd_refl p)]
structure Hs where
 d:Nat
 f:List Int
 t:List (List (List Int))
 l:List Int
def Hs.R (h:Hs)(p:Int)(v:List Int):List Int:=Mine.rowS p h.d h.t h.f v
def Hs.W (h:Hs)(p:Int)(v:List Int):Int:=dotW h.l (h.R p v)%p
def Hs.ok (h:Hs)(p:Int)(L:Nat):Prop:=WfSum p L h.d h.f h.t h.l
def Hs.back (h:Hs):Hs:=⟨h.d,h.l,h.t.map (E7 h.d),h.f⟩
theorem Hs.ok.dim {h:Hs}{p:Int}{L:Nat}(k:h.ok p L){i:Nat}(hi:i<L):Dim h.d (h.t.getD i []):=by
 have hit:i<h.t.length:=by have:=k.t;omega
 rw[List.getD_eq_getElem?_getD,List.getElem?_eq_getElem hit]
 have:=k.tt _ (List.getElem_mem hit)
 exact⟨this.1,this.2⟩
theorem Hs.ok.back {h:Hs}{p:Int}{L:Nat}(k:h.ok p L):h.back.ok p L where
 p2:=k.p2
 p18:=k.p18
 dl:=k.dl
 f:=k.l
 l:=k.f
 t:=by show (((h.t.map (E7 h.d)).length:Nat):Int)=L;rw[List.length_map];exact k.t
 tt:=fun tb htb=>by
  obtain⟨a,ha,rfl⟩:=List.mem_map.mp htb
  have:=k.tt a ha
  have:=Y8 (d:=h.d) (tb:=a) ⟨this.1,this.2⟩
  exact⟨this.n,this.r⟩
theorem Hs.row_app (h:Hs)(p:Int)(a e:List Int):h.R p (a++e)=Mine.rowS p h.d h.t (h.R p a) e:=by
 unfold Hs.R Mine.rowS
 rw[List.foldl_append]
theorem Hs.split {h:Hs}{p:Int}{L:Nat}(k:h.ok p L){a e:List Int}(he:isW L e=true):h.W p (a++e)=dotW (h.back.R p e.reverse) (h.R p a)%p:=by
 unfold Hs.W
 rw[Hs.row_app,Bb]
 have c1:cg p (Mine.rowS p h.d h.t (h.R p a) e) (rowI h.d h.t (h.R p a) e):=U4 (fun i=>cgT.refl p _) e (cg.refl p _)
 have c2:cg p (h.back.R p e.reverse) (rowI h.d (h.t.map (E7 h.d)) h.l e.reverse):=U4 (fun i=>cgT.refl p _) e.reverse (cg.refl p _)
 rw[cg.dot c1 (cg.refl p h.l),cg.dot c2 (cg.refl p (h.R p a))]
 have hT:∀i:Nat,i<L->(h.t.map (E7 h.d)).getD i []=E7 h.d (h.t.getD i []):=fun i hi=>by
  have hit:i<h.t.length:=by have:=k.t;omega
  rw[List.getD_eq_getElem?_getD,List.getElem?_map,List.getElem?_eq_getElem hit,List.getD_eq_getElem?_getD,List.getElem?_eq_getElem hit];rfl
 have key:dotW (rowI h.d h.t (h.R p a) e) h.l=dotW (h.R p a) (rowI h.d (h.t.map (E7 h.d)) h.l e.reverse):=Wc (L:=L) hT (fun i hi=>k.dim hi) e (fun x hx=>AB.mp he x hx) (show (h.R p a).length=h.d from (k.row a).1) k.l.1
 rw[key,Bb]
theorem Hs.back_W {h:Hs}{p:Int}{L:Nat}(k:h.ok p L){v:List Int}(hv:isW L v=true):h.back.W p v.reverse=h.W p v:=by
 have:=Hs.split k (a:=[]) hv
 rw[List.nil_append]at this
 rw[this]
 show dotW h.f (h.back.R p v.reverse)%p=_
 rw[Bb];rfl
theorem QG {L:Int}{v:List Int}(h:isW L v=true):isW L v.reverse=true:=AB.mpr fun x hx=>AB.mp h x (List.mem_reverse.mp hx)
def onB (h:Hs)(p:Int)(L:Nat)(ws:List (List Int))(am:List (List (List Int))):Hs:=⟨ws.length,D1 ws.length 0,(List.range L).map fun x=>am.map fun a=>a.getD x [],ws.map (h.W p)⟩
structure OnB (h:Hs)(p:Int)(L:Nat)(F ws:List (List Int))(am:List (List (List Int))):Prop where
 ok:h.ok p L
 pr:Pr p
 bw:BW p L h.d h.t h.f F F.length ws
 am:AmF p L h.d (h.R p) ws am
 sz:ws.length<=h.d
section
variable {h:Hs} {p:Int} {L:Nat} {F ws:List (List Int)} {am:List (List (List Int))}
theorem OnB.tab (o:OnB h p L F ws am){x:Nat}(hx:x<L):((List.range L).map fun x=>am.map fun a=>a.getD x []).getD x []=am.map fun a=>a.getD x []:=by
 rw[List.getD_eq_getElem?_getD,List.getElem?_map,List.getElem?_range hx];rfl
theorem OnB.good (o:OnB h p L F ws am){x:Nat}(hx:x<L)(i:Nat)(g v:List Int)(hg:(am.map fun a=>a.getD x [])[i]?=some g)(hv:ws[i]?=some v):L3 p L h.d (h.R p) ws (v++[(x:Int)]) g:=by
 rw[List.getElem?_map]at hg
 cases ha:am[i]? with
 |none=>rw[ha]at hg;cases hg
 |some a=>
  rw[ha]at hg
  cases hg
  obtain⟨b1,b2⟩:=o.am.2 i a v ha hv
  refine b2 x _ ?_
  show a[x]?=some (a.getD x [])
  rw[List.getD_eq_getElem?_getD,List.getElem?_eq_getElem (show x<a.length by omega)];rfl
theorem OnB.okN (o:OnB h p L F ws am):(onB h p L ws am).ok p L where
 p2:=o.ok.p2
 p18:=o.ok.p18
 dl:=Nat.le_trans o.sz o.ok.dl
 f:=⟨by show (D1 ws.length 0).length=ws.length;unfold D1;simp,fun x hx=>by
  obtain⟨i,_,rfl⟩:=List.mem_map.mp hx
  have:=o.ok.p2
  split<;>omega⟩
 l:=⟨by show (ws.map (h.W p)).length=ws.length;rw[List.length_map],fun x hx=>by
  obtain⟨v,_,rfl⟩:=List.mem_map.mp hx
  have:=o.ok.p2
  exact⟨Int.emod_nonneg _ (by omega),Int.emod_lt_of_pos _ (by omega)⟩⟩
 t:=by show ((((List.range L).map fun x=>am.map fun a=>a.getD x []).length:Nat):Int)=L;simp
 tt:=fun tb htb=>by
  obtain⟨x,hx,rfl⟩:=List.mem_map.mp htb
  have hx:=List.mem_range.mp hx
  refine⟨by rw[List.length_map];exact o.am.1,fun r hr=>?_⟩
  obtain⟨i,hi⟩:=List.mem_iff_getElem?.mp hr
  have hil:i<ws.length:=by rw[<-o.am.1];have:=(List.getElem?_eq_some_iff.mp hi).1;rwa [List.length_map]at this
  exact (o.good hx i r ws[i] hi (by simp)).1
theorem Tu {n k:Nat}{cs:List Int}(h:cs.length=n):dotW (D1 n k) cs=cs.getD k 0:=by
 rw[Bb];exact Qq cs h
theorem OnB.rep (o:OnB h p L F ws am):∀(v:List Int),isW L v=true->∀c:Nat,c<h.d->(h.R p v).getD c 0%p=dotW ((onB h p L ws am).R p v) (colW (ws.map (h.R p)) c)%p:=by
 have key:∀(n:Nat) (v:List Int),v.length=n->isW L v=true->∀c:Nat,c<h.d->(h.R p v).getD c 0%p=dotW ((onB h p L ws am).R p v) (colW (ws.map (h.R p)) c)%p:=fun n=>by
  induction n with
  |zero=>
   intro v hv _ c hc
   have:v=[]:=List.length_eq_zero_iff.mp hv
   subst this
   show h.f.getD c 0%p=dotW (D1 ws.length 0) (colW (ws.map (h.R p)) c)%p
   rw[Tu (by rw[EW,List.length_map])]
   have hF0:0<F.length:=(List.getElem?_eq_some_iff.mp o.bw.f0).1
   by_cases hz:∀i:Nat,i<h.d->h.f.getD i 0%p=0
   ·have:=o.bw.nil0 hF0 hz
    rw[this,hz c hc];simp[colW]
   ·have:=o.bw.nil1 hF0 hz
    cases ws with
    |nil=>cases this
    |cons a t=>cases this;rfl
  |succ n ih=>
   intro v hv hw c hc
   obtain⟨u,x,rfl⟩:∃u x,v=u++[x]:=⟨v.dropLast,v.getLast (by intro e;subst e;simp at hv),(List.dropLast_concat_getLast _).symm⟩
   have hwu:isW L u=true:=AB.mpr fun y hy=>AB.mp hw y (List.mem_append_left _ hy)
   have hxb:=AB.mp hw x (by simp)
   obtain⟨x,rfl⟩:=Int.eq_ofNat_of_zero_le hxb.1
   have hx:x<L:=by omega
   have iu:=ih u (by simp at hv;omega) hwu
   have e1:h.R p (u++[(x:Int)])=Fi p h.d h.t (h.R p u) x:=by unfold Hs.R Mine.rowS;rw[List.foldl_append];rfl
   have e2:(onB h p L ws am).R p (u++[(x:Int)])=D0 p (am.map fun a=>a.getD x []) ((onB h p L ws am).R p u) ws.length:=by
    have:(onB h p L ws am).R p (u++[(x:Int)])=Fi p ws.length ((List.range L).map fun x=>am.map fun a=>a.getD x []) ((onB h p L ws am).R p u) x:=by unfold Hs.R Mine.rowS;rw[List.foldl_append];rfl
    rw[this]
    unfold Fi
    rw[show ((x:Int)).toNat=x by omega,o.tab hx]
   rw[e1,e2]
   exact Ea_ (x:=x) o.ok hx (by rw[List.length_map];exact o.am.1) (o.good hx) (o.okN.row u).1 (o.ok.row u).1 iu c hc
 exact fun v=>key v.length v rfl
theorem OnB.rowsL (o:OnB h p L F ws am):∀r∈ws.map (h.R p),r.length=h.d:=fun r hr=>by
 obtain⟨v,_,rfl⟩:=List.mem_map.mp hr
 exact (o.ok.row v).1
theorem OnB.worth (o:OnB h p L F ws am){v:List Int}(hv:isW L v=true):(onB h p L ws am).W p v=h.W p v:=by
 have hlen:((onB h p L ws am).R p v).length=ws.length:=(o.okN.row v).1
 have c1:=Za (o.ok.row v).1 (o.rep v hv)
 show dotW (ws.map (h.W p)) ((onB h p L ws am).R p v)%p=dotW h.l (h.R p v)%p
 rw[Bb h.l,cg.dot (show cg p (h.R p v) _ from c1) (cg.refl p h.l),IS o.ok.l.1 (ws.map (h.R p)) _ o.rowsL (by rw[List.length_map,hlen]),Bb,List.map_map]
 refine cg.dot (cg.refl p _) (cg.map fun u _=>?_)
 show h.W p u%p=dotW h.l (h.R p u)%p
 unfold Hs.W
 rw[Int.emod_emod_of_dvd _ (Int.dvd_refl p)]
theorem OnB.unit (o:OnB h p L F ws am){i:Nat}{v:List Int}(hv:ws[i]?=some v):(onB h p L ws am).R p v=D1 ws.length i:=by
 have hp2:=o.ok.p2
 have hil:i<ws.length:=(List.getElem?_eq_some_iff.mp hv).1
 have hvF:v∈F:=by have:=o.bw.kF v (List.mem_of_getElem? hv);rwa [List.take_length]at this
 have hu:=(o.bw.indep o.pr).uniq (cs:=(onB h p L ws am).R p v) (ds:=D1 ws.length i) (by rw[List.length_map];exact (o.okN.row v).1) (by rw[List.length_map];unfold D1;simp) fun c hc=>by
  have h1:=o.rep v (o.bw.valid v hvF) c hc
  rw[Tu (by rw[EW,List.length_map])]
  refine h1.symm.trans ?_
  have:(colW (ws.map (h.R p)) c).getD i 0=(h.R p v).getD c 0:=by
   unfold colW
   rw[List.map_map,List.getD_eq_getElem?_getD,List.getElem?_map,hv];rfl
  exact congrArg (· % p) this.symm
 unfold cg at hu
 have e1:((onB h p L ws am).R p v).map (· % p)=(onB h p L ws am).R p v:=by
  conv=>rhs;rw[<-List.map_id ((onB h p L ws am).R p v)]
  exact List.map_congr_left fun x hx=>Int.emod_eq_of_lt ((o.okN.row v).2 x hx).1 ((o.okN.row v).2 x hx).2
 have e2:(D1 ws.length i).map (· % p)=D1 ws.length i:=by
  unfold D1
  rw[List.map_map]
  refine List.map_congr_left fun j _=>?_
  show (if j=i then (1:Int) else 0)%p=_
  split
  ·exact Int.emod_eq_of_lt (by omega) (by omega)
  ·simp
 rw[e1,e2]at hu
 exact hu
end
theorem BW.uniq {p L:Int}{d:Nat}{tb:List (List (List Int))}{f0:List Int}{F G K J:List (List Int)}(hL:0<L)(a:BW p L d tb f0 F F.length K)(b:BW p L d tb f0 G G.length J):K=J:=by
 have fresh:∀{F G K J:List (List Int)},BW p L d tb f0 F F.length K->BW p L d tb f0 G G.length J->∀(i:Nat) (u:List Int),K[i]?=some u->K.take i=J.take i->(∀v,J[i]?=some v->place L u<place L v)->False:=fun {F G K J} a b i u hu ht hlt=>by
  have hil:=(List.getElem?_eq_some_iff.mp hu).1
  have huK:=List.mem_of_getElem? hu
  have huF:u∈F:=by have:=a.kF u huK;rwa [List.take_length]at this
  have huG:u∈G:=by
   rcases a.kPre u huK with h|h
   ·rw[h];exact List.mem_of_getElem? b.f0
   ·have hne:u ≠ []\/u=[]:=by by_cases e:u=[]<;>simp[e]
    rcases hne with hne|he
    ·have hx:=AB.mp (a.valid u huF) (u.getLast hne) (List.getLast_mem hne)
     have e:u=u.dropLast++[u.getLast hne]:=(List.dropLast_concat_getLast hne).symm
     have hd:u.dropLast∈K.take i:=by
      obtain⟨j,hj⟩:=List.mem_iff_getElem?.mp h
      have hjl:=(List.getElem?_eq_some_iff.mp hj).1
      have hW:isW L u.dropLast=true:=AB.mpr fun y hy=>AB.mp (a.valid u huF) y (List.dropLast_subset u hy)
      have hpl:place L u.dropLast<place L u:=by
       rw[show place L u=place L (u.dropLast++[u.getLast hne]) by rw[<-e],Gy]
       have h0:=YH hL hW
       have:place L u.dropLast*1<=place L u.dropLast*L:=Int.mul_le_mul_of_nonneg_left (by omega) h0
       omega
      have hji:j<i:=by
       refine Nat.lt_of_not_le fun hge=>?_
       rcases Nat.lt_or_eq_of_le hge with hlt' | heq
       ·have:=List.pairwise_iff_getElem.mp a.kSort i j hil hjl hlt'
        rw[(List.getElem?_eq_some_iff.mp hu).2,(List.getElem?_eq_some_iff.mp hj).2]at this
        omega
       ·subst heq
        have e2:u=u.dropLast:=Option.some.inj (hu.symm.trans hj)
        rw[<-e2]at hpl;omega
      refine List.mem_iff_getElem?.mpr ⟨j,?_⟩
      rw[List.getElem?_take,if_pos hji];exact hj
     rw[ht]at hd
     rw[e]
     exact b.kids _ (List.mem_of_mem_take hd) _ hx.1 hx.2
    ·rw[he];exact List.mem_of_getElem? b.f0
  obtain⟨j,hj,hs,hb⟩:=b.span u (by rwa [List.take_length])
  have hji:j<=i:=by
   refine Nat.le_of_not_lt fun hgt=>?_
   have hiJ:i<J.length:=by omega
   have hv:=hlt _ (List.getElem?_eq_getElem hiJ)
   have:=hb J[i] (List.mem_iff_getElem?.mpr ⟨i,by rw[List.getElem?_take,if_pos hgt];exact List.getElem?_eq_getElem hiJ⟩)
   omega
  refine a.free i hil ?_
  rw[ht,List.getD_eq_getElem?_getD,hu]
  have e:J.take i=J.take j++(J.take i).drop j:=by
   conv=>lhs;rw[<-List.take_append_drop j (J.take i)]
   rw[List.take_take,Nat.min_eq_left hji]
  rw[e,List.map_append]
  exact hs.app _
 have all:∀i:Nat,K.take i=J.take i:=fun i=>by
  induction i with
  |zero=>rfl
  |succ i ih=>
   rw[List.take_succ,List.take_succ,ih]
   congr 1
   cases hK:K[i]? with
   |none=>
    cases hJ:J[i]? with
    |none=>rfl
    |some v=>exact (fresh b a i v hJ ih.symm fun u hu=>by rw[hK]at hu;cases hu).elim
   |some u=>
    cases hJ:J[i]? with
    |none=>exact (fresh a b i u hK ih fun v hv=>by rw[hJ]at hv;cases hv).elim
    |some v=>
     have hu':=a.valid u (by have:=a.kF u (List.mem_of_getElem? hK);rwa [List.take_length]at this)
     have hv':=b.valid v (by have:=b.kF v (List.mem_of_getElem? hJ);rwa [List.take_length]at this)
     rcases Int.lt_trichotomy (place L u) (place L v) with h|h|h
     ·exact (fresh a b i u hK ih fun x hx=>by rw[hJ]at hx;cases hx;exact h).elim
     ·rw[Yz hL hu' hv' h]
     ·exact (fresh b a i v hJ ih.symm fun x hx=>by rw[hK]at hx;cases hx;exact h).elim
 have:=all (max K.length J.length)
 rwa [List.take_of_length_le (Nat.le_max_left ..),List.take_of_length_le (Nat.le_max_right ..)]at this
theorem Ey_ {p:Int}{a b:List Int}(h:cg p a b)(ha:∀x∈a,0<=x/\x<p)(hb:∀x∈b,0<=x/\x<p):a=b:=by
 have key:∀{a:List Int},(∀x∈a,0<=x/\x<p)->a.map (· % p)=a:=fun {a} ha=>by
  conv=>rhs;rw[<-List.map_id a]
  exact List.map_congr_left fun x hx=>Int.emod_eq_of_lt (ha x hx).1 (ha x hx).2
 unfold cg at h
 rwa [key ha,key hb]at h
theorem OnB.uniq {h:Hs}{p:Int}{L:Nat}{F G ws vs:List (List Int)}{am bm:List (List (List Int))}(hL:0<L)(a:OnB h p L F ws am)(b:OnB h p L G vs bm):ws=vs/\am=bm:=by
 have e:=BW.uniq (by omega) a.bw b.bw
 subst e
 refine⟨rfl,?_⟩
 refine List.ext_getElem? fun i=>?_
 by_cases hi:i<ws.length
 ·have h1:i<am.length:=by rw[a.am.1];exact hi
  have h2:i<bm.length:=by rw[b.am.1];exact hi
  rw[List.getElem?_eq_getElem h1,List.getElem?_eq_getElem h2]
  congr 1
  obtain⟨l1,g1⟩:=a.am.2 i _ _ (List.getElem?_eq_getElem h1) (List.getElem?_eq_getElem hi)
  obtain⟨l2,g2⟩:=b.am.2 i _ _ (List.getElem?_eq_getElem h2) (List.getElem?_eq_getElem hi)
  refine List.ext_getElem (by rw[l1,l2]) fun x hx1 hx2=>?_
  have q1:=g1 x _ (List.getElem?_eq_getElem hx1)
  have q2:=g2 x _ (List.getElem?_eq_getElem hx2)
  exact Ey_ ((a.bw.indep a.pr).uniq (by rw[List.length_map];exact q1.1) (by rw[List.length_map];exact q2.1) fun c hc=>(q1.2.2.1 c hc).symm.trans (q2.2.2.1 c hc)) q1.2.1 q2.2.1
 ·rw[List.getElem?_eq_none (by rw[a.am.1];omega),List.getElem?_eq_none (by rw[b.am.1];omega)]
theorem Zb {h:Hs}{p:Int}{L:Nat}(k:h.ok p L){ws es:List (List Int)}{e:List Int}(he:isW L e=true){cs:List Int}(hc:cs.length=ws.length):dotW cs (ws.map fun a=>h.W p (a++e))%p=dotW ((List.range h.d).map fun c=>dotW cs (colW (ws.map (h.R p)) c)) (h.back.R p e.reverse)%p:=by
 have key:dotW ((List.range h.d).map fun c=>dotW cs (colW (ws.map (h.R p)) c)) (h.back.R p e.reverse)=dotW cs ((ws.map (h.R p)).map fun r=>dotW (h.back.R p e.reverse) r):=IS (show (h.back.R p e.reverse).length=h.d from (k.back.row e.reverse).1) (ws.map (h.R p)) cs (fun r hr=>by
  obtain⟨v,_,rfl⟩:=List.mem_map.mp hr
  exact (k.row v).1) (by rw[List.length_map,hc])
 rw[key,List.map_map]
 refine cg.dot (cg.refl p _) (cg.map fun a _=>?_)
 rw[Hs.split k he]
 exact Int.emod_emod_of_dvd _ (Int.dvd_refl p)
theorem Ao_ {p:Int}{d:Nat}{f:Nat->Int}{v:List Int}(h:∀c:Nat,c<d->f c%p=0):dotW ((List.range d).map f) v%p=0:=by
 rw[Bb]
 refine Ag_ _ _ fun z hz=>?_
 obtain⟨c,hc,rfl⟩:=List.mem_map.mp hz
 exact h c (List.mem_range.mp hc)
theorem Hs.back_back {h:Hs}{p:Int}{L:Nat}(k:h.ok p L):h.back.back=h:=by
 have:(h.t.map (E7 h.d)).map (E7 h.d)=h.t:=by
  rw[List.map_map]
  conv=>rhs;rw[<-List.map_id h.t]
  refine List.map_congr_left fun a ha=>?_
  have:=k.tt a ha
  exact WU ⟨this.1,this.2⟩
 show (⟨h.d,h.f,(h.t.map (E7 h.d)).map (E7 h.d),h.l⟩:Hs)=h
 rw[this]
section
variable {h B:Hs} {p:Int} {L:Nat} {F1 F2 F3 ws1 ws2 ws3:List (List Int)} {am1 am2:List (List (List Int))}
theorem Qa {L:Int}{a b:List Int}(ha:isW L a=true)(hb:isW L b=true):isW L (a++b)=true:=AB.mpr fun x hx=>by
 rcases List.mem_append.mp hx with h|h
 ·exact AB.mp ha x h
 ·exact AB.mp hb x h
theorem OnB.wsW (o:OnB h p L F1 ws1 am1){v:List Int}(hv:v∈ws1):isW L v=true:=o.bw.valid v (by have:=o.bw.kF v hv;rwa [List.take_length]at this)
end
theorem byW {h:Hs}{p:Int}{L:Nat}{F1 ws1:List (List Int)}{am1:List (List (List Int))}(ok:h.ok p L)(o1:OnB h.back p L F1 ws1 am1){v:List Int}(hv:isW L v=true):(onB h.back p L ws1 am1).back.W p v=h.W p v:=by
 have h1:=Hs.back_W o1.okN (QG hv)
 rw[List.reverse_reverse]at h1
 rw[h1,o1.worth (QG hv),Hs.back_W ok hv]
theorem A2.off66 {K:PySem.W.Frag}{H:Hp}{q:Addr}{xs ys zs:List V}{rows:List (List Int)}(hq:H q=some (.lst zs))(h:A2 K H xs rows):A2 K (upd H q (.lst ys)) xs rows:=⟨h.1,fun i r hi=>by
 obtain⟨t,a,b⟩:=h.2 i r hi
 exact⟨t,a,Ay hq b⟩⟩
theorem HD.off66 {K:PySem.W.Frag}{H:Hp}{q:Addr}{zs ys xs:List V}{tabs:List (List (List Int))}(hq:H q=some (.lst xs))(h:HD K H zs tabs):HD K (upd H q (.lst ys)) zs tabs:=⟨h.1,fun i tb hi=>by
 obtain⟨u,us,a,b,c⟩:=h.2 i tb hi
 exact⟨u,us,a,Ay hq b,c.off66 hq⟩⟩
def Gj (K:PySem.W.Frag)(H:Hp)(h:Addr)(p:Int)(L:Nat)(hs:Hs):Prop:=SumH K H h p L hs.f hs.t hs.l
def Zc (K:PySem.W.Frag):Sp:=fun vs H Q _=>∃(h:Addr) (p:Int) (L:Nat) (hs:Hs),vs=[.ref h]/\Pr p/\Gj K H h p L hs/\hs.ok p L/\L<=6/\hs.d<=16/\∀q F ws am H',Same H H'->OnB hs p L F ws am->Gj K H' q p L (onB hs p L ws am)->Q (.ref q) H'
theorem U7 {f:Addr}{fd:FuncData}(F:Fun K "on_basis" "on_basis" DO f fd)(T:Txt mg)
  (Z:Exs K mg C_AskError C_BadWord C_NoInverse)
  {HZ:Addr} {Jz:FuncData} (Pf:FnOk P w K mg base CX0 1 HZ Jz ["size","place"] (U3 K)) (LZ:Fun K "unit" "unit" LS HZ Jz) (Pg:Binds K Jz ["size","place"] []) (Ph:mg "unit"=some (.ref HZ))
  {JA:Addr} {QH:FuncData} (U8:FnOk P w K mg base (CXe P w) 6 JA QH ["house","word"] (V9 K C_BadWord)) (Ny:Fun K "worth" "worth" Jv JA QH) (U9:Binds K QH ["house","word"] []) (Va:mg "worth"=some (.ref JA))
  {C9:Addr} {G8:FuncData} (Ir:FnOk P w K mg base CX0 6 C9 G8 ["house"] (Tr K)) (E9:Fun K "sums_basis" "sums_basis" CN C9 G8) (Iu:Binds K G8 ["house"] []) (Iv:mg "sums_basis"=some (.ref C9))
  : FnOk P w K mg base CX0 7 f fd ["house"] (Zc K):=by
 refine F.ok Es (fun vs H Q E h=>?_) (fun cdv A outer s H vs Q E hr h=>?_)
 ·obtain⟨h,p,L,hs,rfl,_⟩:=h;rfl
 ·obtain⟨h,p,L,hs,rfl,hp,hh,ok,hL6,hd16,k⟩:=h
  have hl:=An
  obtain⟨tf,tt,tl,h1,h2,h3,h4⟩:=id hh
  refine⟨_,(Ad (Aj (i:=1) Es.nd rfl (Or.inl rfl) (Ah Ir (hr.mono (by decide)) rfl Iv E9.kp Iu .nil AD (Aa (pv 0) Ab)))
   (Ad (Aj (i:=2) Es.nd rfl (Or.inl rfl) (Ak Ai (by rfl) T.len PySem.boot_len (Aa (Ar Al (pv 1) Af (fun _ _=>rfl)) Ab)))
   (Ad (Aj (i:=3) Es.nd rfl (Or.inl rfl) (Fm Ab))
   (Ad (B7 PassesOwn.never rfl (AQ rfl T.range (Aa (Ar Al (pv 0) Af (fun _ _=>rfl)) Ab)) (Am (i:=4) Es.nd rfl (Or.inr rfl))
   (Ag (DB (J4 PySem.F.plainAttrs_list PySem.F.slot_list_append PySem.F.type_list_append B9 (pv 3) (Aa (Ax Av rfl T.tuple PyProof.Rows.boot_tuple (Aa (CG rfl (Du rfl) (cp:=LW) ⟨⟨rfl,rfl⟩,True.intro⟩ (Lb (Ar Al (pv 1) Af (fun _ _=>rfl))) (fun _ _ _ _=>(Am (i:=0) M6 rfl (Or.inl rfl))) (fun _ _ _ _=>CH) (fun _ _ _ _=>(Ax (Kb (K:=K) rfl) rfl T.tuple PyProof.Rows.boot_tuple (Aa (Ar (ZZ (K:=K) rfl) (pv 0) (pv 1) (fun _ _=>rfl)) Ab)))) Ab)) Ab)))))
   (Ad (Aj (i:=5) Es.nd rfl (Or.inl rfl) (Ax Av rfl T.tuple PyProof.Rows.boot_tuple (Aa (CG rfl (Du rfl) (cp:=LX) ⟨⟨rfl,rfl⟩,True.intro⟩ (Lb (Ar Al (pv 1) Af (fun _ _=>rfl))) (fun _ _ _ _=>(Am (i:=0) M7 rfl (Or.inl rfl))) (fun _ _ _ _=>CH) (fun _ _ _ _=>(Ah U8 (hr.mono (by decide)) rfl Va Ny.kp U9 .nil (Yv (P:=P) (w:=w)) (Aa (pv 1) (Aa (pv 0) Ab))))) Ab)))
   (Ag (Ap (Bz (Aa (Ar Al (pv 0) Af (fun _ _=>rfl)) (Aa (Ar Al (pv 0) Af (fun _ _=>rfl)) (Aa (Ah Pf (hr.mono (by decide)) rfl Ph LZ.kp Pg .nil AD (Aa (pv 2) (Aa Af Ab))) (Aa (Ax Av rfl T.tuple PyProof.Rows.boot_tuple (Aa (pv 3) Ab)) (Aa (pv 5) Ab))))))))))))),?_⟩
  walk_at "rd"
  refine⟨h,p,L,hs.d,hs.f,hs.l,hs.t,rfl,hp,hh,ok,hL6,hd16,fun b lw lm zs xs F ws am H1 s1 hb hlw hW hlm hAD hAF bw hwd=>?_⟩
  have o1:OnB hs p L F ws am:=⟨ok,hp,bw,hAF,hwd⟩
  show (fun x H1=>_) (V.ref b) H1
  walk_at "rd"
  have hzl:zs.length=ws.length:=hW.1
  have hxl:xs.length=ws.length:=hAD.1.trans hAF.1
  refine⟨_,hb,_,rfl,lw,rfl,zs,.inl (SqL.of hlw),by omega,fun pt hpt=>?_⟩
  have sP:=Same.new hpt (o:=.lst [])
  have uP:upd H1 pt (.lst []) pt=some (.lst []):=Ac
  generalize upd H1 pt (.lst [])=H2 at sP uP ⊢
  have s2:=s1.trans sP
  refine⟨_,s2.seqT h1,_,rfl,(L:Int),rfl,by omega,by omega,?_⟩
  rw[show ((L:Int)).toNat=L by omega]
  obtain⟨Pv,hPv⟩:∃Pv:Nat->St->Hp->Prop,∀i σ' H',Pv i σ' H'↔(∃(ys:List V) (o4:Option V),Same H1 H'/\H' pt=some (.lst ys)/\HD K H' ys (((List.range L).map fun x=>am.map fun a=>a.getD x []).take i)/\σ'=[some (.ref h),some (.ref b),some (.int zs.length),some (.ref pt),o4,none]):=⟨_,fun _ _ _=>Iff.rfl⟩
  refine forR Pv ((hPv _ _ _).mpr ⟨[],none,sP,uP,HD.nil,rfl⟩) (fun i σ' H' hi h'=>?_) (fun σ' H' h'=>?_)
  ·obtain⟨ys,o4,g1,g2,g3,rfl⟩:=(hPv _ _ _).mp h'
   rw[Int.zero_add]
   walk_at "rd"
   refine⟨.inl ⟨rfl,_,SqL.of g2⟩,_,g1.seqT hb,_,rfl,lm,rfl,⟨_,SqL.of (g1 _ _ hlm)⟩,ZV (xs:=xs) (fun j us σ2 H3=>Same H' H3/\A2 K H3 us ((am.map fun a=>a.getD i []).take j)/\∃o,σ2=[o,some (.int i)]) ⟨Same.refl _,⟨rfl,fun i r hi=>by simp at hi⟩,none,rfl⟩ (by omega) (fun j us σ2 H3 hj h2=>⟨SqL.of (h2.1 _ _ (g1 _ _ hlm)),by rw[h2.2.1.1,List.length_take];omega⟩) (fun j x us σ2 H3 hx h2=>?_) (fun us σ2 H3 h2 D hD=>?_)⟩
   ·obtain⟨s3,hy,o,rfl⟩:=h2
    have hjx:=(List.getElem?_eq_some_iff.mp hx).1
    have hja:j<am.length:=by rw[<-hAD.1];exact hjx
    have hjw:j<ws.length:=by rw[<-hxl];exact hjx
    obtain⟨c,vs,_,e1,e2,e3,e4⟩:=hAD.2 j _ (List.getElem?_eq_getElem hja)
    obtain⟨b1,_⟩:=hAF.2 j _ _ (List.getElem?_eq_getElem hja) (List.getElem?_eq_getElem hjw)
    obtain⟨e,_,f1,f2⟩:=e4 i _ (List.getElem?_eq_getElem (show i<am[j].length by omega))
    rw[hx]at e1
    cases e1
    walk_at "rd"
    refine⟨vs,SqL.of (s3 _ _ (g1 _ _ e2)),.ref e,Bf_ (by omega) (by rw[show ((i:Int)).toNat=i by omega];exact f1),e,rfl,_,.inl ⟨SqL.of (s3 _ _ (g1 _ _ f2)),fun l hlN=>⟨s3.newT hlN,?_,_,rfl⟩⟩⟩
    rw[List.take_add_one,List.getElem?_map,List.getElem?_eq_getElem hja]
    refine A2.snoc (hy.mono (Same.new hlN)) ?_
    show SqT K _ l ((am[j].getD i []).map V.int)
    rw[show am[j].getD i []=am[j][i] by rw[List.getD_eq_getElem?_getD,List.getElem?_eq_getElem (show i<am[j].length by omega)];rfl]
    exact SqT.of Ac
   ·obtain⟨s3,hy,o,rfl⟩:=h2
    rw[hAD.1,<-List.length_map (f:=fun a=>a.getD i []),List.take_length]at hy
    refine⟨D,rfl,_,.inl ⟨SqL.of Ac,fun l hlN=>?_⟩⟩
    have sD:=(Same.new hD (o:=.lst us)).newT hlN (o:=.tup us)
    have sE:=s3.trans sD
    have ul:upd (upd H3 D (.lst us)) l (.tup us) l=some (.tup us):=Ac
    have hy5:=hy.mono sD
    generalize upd (upd H3 D (.lst us)) l (.tup us)=H5 at sD sE ul hy5 ⊢
    have q5:=sE _ _ g2
    have hyl:ys.length<=L:=by rw[g3.1,List.length_take,List.length_map,List.length_range];omega
    refine⟨ys,q5,by omega,(hPv _ _ _).mpr ⟨_,_,(g1.trans sE).over hpt,Ac,?_,rfl⟩⟩
    rw[List.take_add_one,List.getElem?_map,List.getElem?_range hi]
    exact HD.off66 q5 ((g3.mono sE).snoc (SqT.of ul) hy5)
  ·obtain⟨ys,o4,g1,g2,g3,rfl⟩:=(hPv _ _ _).mp h'
   walk_at "rd"
   refine⟨_,g1.seqT hb,_,rfl,lw,rfl,⟨_,SqL.of (g1 _ _ hlw)⟩,ZV (xs:=zs) (fun j us σ2 H3=>Same H' H3/\us=((ws.map (hs.W p)).take j).map V.int/\∃o,σ2=[o,some (.ref h)]) ⟨Same.refl _,rfl,none,rfl⟩ (by omega) (fun j us σ2 H3 hj h2=>⟨SqL.of (h2.1 _ _ (g1 _ _ hlw)),by rw[h2.2.1,List.length_map,List.length_take];omega⟩) (fun j x us σ2 H3 hx h2=>?_) (fun us σ2 H3 h2 D hD=>?_)⟩
   ·obtain⟨s3,rfl,o,rfl⟩:=h2
    have hjx:=(List.getElem?_eq_some_iff.mp hx).1
    have hjw:j<ws.length:=by omega
    obtain⟨t,e1,e2⟩:=hW.2 j _ (List.getElem?_eq_getElem hjw)
    rw[hx]at e1
    cases e1
    walk_at "rd"
    have hwd':isW L ws[j]=true:=o1.wsW (List.getElem_mem hjw)
    have s13:=g1.trans s3
    have hlen:ws[j].length<=ws.length:=bw.short _ (by have:=bw.kF _ (List.getElem_mem hjw);rwa [List.take_length]at this)
    refine⟨h,t,p,L,hs.d,hs.f,hs.l,ws[j],hs.t,rfl,(hh.mono (s1.trans s13)),ok,SqT.of (s13 _ _ e2),by omega,fun _ H4 s4=>⟨s3.trans s4,?_,_,rfl⟩,fun z=>by rw[hwd']at z;cases z⟩
    rw[List.take_add_one,List.getElem?_map,List.getElem?_eq_getElem hjw,List.map_append];rfl
   ·obtain⟨s3,rfl,o,rfl⟩:=h2
    rw[show (ws.map (hs.W p)).take zs.length=ws.map (hs.W p) by rw[hzl,<-List.length_map (f:=hs.W p),List.take_length]]
    refine⟨D,rfl,_,.inl ⟨SqL.of Ac,fun l hlN=>?_⟩⟩
    have sD:=(Same.new hD (o:=.lst ((ws.map (hs.W p)).map V.int))).newT hlN (o:=.tup ((ws.map (hs.W p)).map V.int))
    have sE:=s3.trans sD
    have ul:upd (upd H3 D (.lst ((ws.map (hs.W p)).map V.int))) l (.tup ((ws.map (hs.W p)).map V.int)) l=some (.tup ((ws.map (hs.W p)).map V.int)):=Ac
    generalize upd (upd H3 D (.lst ((ws.map (hs.W p)).map V.int))) l (.tup ((ws.map (hs.W p)).map V.int))=H5 at sD sE ul ⊢
    have s15:=s1.trans (g1.trans sE)
    refine⟨_,s15.seqT h1,_,rfl,_,s15.seqT h1,_,rfl,?_⟩
    rw[hzl]
    refine⟨ws.length,0,rfl,by omega,fun q0 H6 s6 hq0=>?_⟩
    have g2':=s6 _ _ (sE _ _ g2)
    refine⟨ys,.inl ⟨SqL.of g2',fun l1 hl1=>⟨by omega,fun pz hpz=>?_⟩⟩⟩
    have s7:=Same.new hl1 (o:=.tup ys)
    have u7:upd H6 l1 (.tup ys) l1=some (.tup ys):=Ac
    generalize upd H6 l1 (.tup ys)=H7 at s7 u7 hpz ⊢
    have s8:=Same.new hpz (o:=.tup [V.int p,V.int L,V.ref q0,V.ref l1,V.ref l])
    have u8:upd H7 pz (.tup [V.int p,V.int L,V.ref q0,V.ref l1,V.ref l]) pz=some (.tup [V.int p,V.int L,V.ref q0,V.ref l1,V.ref l]):=Ac
    generalize upd H7 pz (.tup [V.int p,V.int L,V.ref q0,V.ref l1,V.ref l])=H8 at s8 u8 ⊢
    have s78:=s7.trans s8
    have hT:((List.range L).map fun x=>am.map fun a=>a.getD x []).take L=(List.range L).map fun x=>am.map fun a=>a.getD x []:=List.take_of_length_le (by simp)
    rw[hT]at g3
    exact k pz F ws am H8 (s15.trans (s6.trans s78)) o1 ⟨q0,l1,l,SqT.of u8,s78.seqT hq0,SqT.of ((s6.trans s78) _ _ ul),(g3.mono (sE.trans (s6.trans s78))).tabs (SqT.of (s8 _ _ u7))⟩
theorem Gj.mono {K:PySem.W.Frag}{H H':Hp}{h:Addr}{p:Int}{L:Nat}{hs:Hs}(x:Gj K H h p L hs)(s:Same H H'):Gj K H' h p L hs:=SumH.mono x s
def Zd (K:PySem.W.Frag):Sp:=fun vs H Q _=>∃(h:Addr) (p:Int) (L:Nat) (hs:Hs),vs=[.ref h]/\Pr p/\Gj K H h p L hs/\hs.ok p L/\L<=6/\hs.d<=16/\∀q F ws am H',Same H H'->OnB hs.back p L F ws am->Gj K H' q p L (onB hs.back p L ws am).back->Q (.ref q) H'
theorem Tv {f:Addr}{fd:FuncData}(F:Fun K "by_worths" "by_worths" CO f fd)(T:Txt mg)
  (Z:Exs K mg C_AskError C_BadWord C_NoInverse)
  {DH:Addr} {Iw:FuncData} (G9:FnOk P w K mg base CX0 2 DH Iw ["house"] (Wg K)) (EF:Fun K "sums_back" "sums_back" DD DH Iw) (Ha:Binds K Iw ["house"] []) (Hb:mg "sums_back"=some (.ref DH))
  {Cd:Addr} {DI:FuncData} (Fy:FnOk P w K mg base CX0 7 Cd DI ["house"] (Zc K)) (DX:Fun K "on_basis" "on_basis" DO Cd DI) (Fz:Binds K DI ["house"] []) (FA:mg "on_basis"=some (.ref Cd))
  : FnOk P w K mg base CX0 8 f fd ["house"] (Zd K):=by
 refine F.ok Tc (fun vs H Q E h=>?_) (fun cdv A outer s H vs Q E hr h=>?_)
 ·obtain⟨h,p,L,hs,rfl,_⟩:=h;rfl
 ·obtain⟨h,p,L,hs,rfl,hp,hh,ok,hL6,hd16,k⟩:=h
  have hl:=An
  refine⟨_,(Ag (Ap (Ah G9 (hr.mono (by decide)) rfl Hb EF.kp Ha .nil AD (Aa (Ah Fy (hr.mono (by decide)) rfl FA DX.kp Fz .nil AD (Aa (Ah G9 (hr.mono (by decide)) rfl Hb EF.kp Ha .nil AD (Aa (pv 0) Ab)) Ab)) Ab)))),?_⟩
  walk_at "rd"
  refine⟨h,p,L,hs.d,hs.f,hs.l,hs.t,rfl,hh,ok,by omega,fun b H1 s1 hb=>?_⟩
  refine⟨b,p,L,hs.back,rfl,hp,hb,ok.back,hL6,hd16,fun q F ws am H2 s2 o hq=>?_⟩
  have h16:ws.length<=16:=Nat.le_trans o.sz hd16
  exact⟨q,p,L,ws.length,_,_,_,rfl,hq,o.okN,by omega,fun b2 H3 s3 hb2=>k b2 F ws am H3 (s1.trans (s2.trans s3)) o hb2⟩
def Pm (K:PySem.W.Frag):Sp:=fun vs H Q _=>∃(h:Addr) (p:Int) (L:Nat) (hs:Hs),vs=[.ref h]/\Pr p/\Gj K H h p L hs/\hs.ok p L/\L<=6/\hs.d<=16/\∀q F ws am F2 ws2 am2 H',Same H H'->OnB hs.back p L F ws am->OnB (onB hs.back p L ws am).back p L F2 ws2 am2->Gj K H' q p L (onB (onB hs.back p L ws am).back p L ws2 am2)->Q (.ref q) H'
theorem QI {f:Addr}{fd:FuncData}(F:Fun K "sums_least" "sums_least" CP f fd)(T:Txt mg)
  (Z:Exs K mg C_AskError C_BadWord C_NoInverse)
  {Cd:Addr} {DI:FuncData} (Fy:FnOk P w K mg base CX0 7 Cd DI ["house"] (Zc K)) (DX:Fun K "on_basis" "on_basis" DO Cd DI) (Fz:Binds K DI ["house"] []) (FA:mg "on_basis"=some (.ref Cd))
  {BJ:Addr} {Dc:FuncData} (EG:FnOk P w K mg base CX0 8 BJ Dc ["house"] (Zd K)) (Dd:Fun K "by_worths" "by_worths" CO BJ Dc) (EH:Binds K Dc ["house"] []) (EI:mg "by_worths"=some (.ref BJ))
  : FnOk P w K mg base CX0 9 f fd ["house"] (Pm K):=by
 refine F.ok Qh (fun vs H Q E h=>?_) (fun cdv A outer s H vs Q E hr h=>?_)
 ·obtain⟨h,p,L,hs,rfl,_⟩:=h;rfl
 ·obtain⟨h,p,L,hs,rfl,hp,hh,ok,hL6,hd16,k⟩:=h
  refine⟨_,(Ag (Ap (Ah Fy (hr.mono (by decide)) rfl FA DX.kp Fz .nil AD (Aa (Ah EG (hr.mono (by decide)) rfl EI Dd.kp EH .nil AD (Aa (pv 0) Ab)) Ab)))),?_⟩
  walk_at "rd"
  refine⟨h,p,L,hs,rfl,hp,hh,ok,hL6,hd16,fun q F ws am H1 s1 o hq=>?_⟩
  exact⟨q,p,L,_,rfl,hp,hq,o.okN.back,hL6,Nat.le_trans o.sz hd16,fun q2 F2 ws2 am2 H2 s2 o2 hq2=>k q2 F ws am F2 ws2 am2 H2 (s1.trans s2) o o2 hq2⟩
def Wj (K:PySem.W.Frag):Sp:=fun vs H Q _=>∃(h:Addr) (p:Int) (L:Nat) (hs:Hs),vs=[.ref h]/\Pr p/\Gj K H h p L hs/\hs.ok p L/\L<=6/\hs.d<=16/\∀q zs F ws am F2 ws2 H',Same H H'->H' q=some (.lst zs)->Fn K H' zs ws2->OnB hs.back p L F ws am->BW p L ws.length (onB hs.back p L ws am).back.t (onB hs.back p L ws am).back.f F2 F2.length ws2->ws2.length<=ws.length->Q (.ref q) H'
theorem Of {f:Addr}{fd:FuncData}(F:Fun K "sums_access" "sums_access" Cm f fd)(T:Txt mg)
  (Z:Exs K mg C_AskError C_BadWord C_NoInverse)
  {Bl:Addr} {Cq:FuncData} (DR:FnOk P w K mg base CX0 4 Bl Cq ["house"] (Qx K)) (Ck:Fun K "basis_rows" "basis_rows" Cj Bl Cq) (DS:Binds K Cq ["house"] []) (DT:mg "basis_rows"=some (.ref Bl))
  {BJ:Addr} {Dc:FuncData} (EG:FnOk P w K mg base CX0 8 BJ Dc ["house"] (Zd K)) (Dd:Fun K "by_worths" "by_worths" CO BJ Dc) (EH:Binds K Dc ["house"] []) (EI:mg "by_worths"=some (.ref BJ))
  : FnOk P w K mg base CX0 9 f fd ["house"] (Wj K):=by
 refine F.ok N7 (fun vs H Q E h=>?_) (fun cdv A outer s H vs Q E hr h=>?_)
 ·obtain⟨h,p,L,hs,rfl,_⟩:=h;rfl
 ·obtain⟨h,p,L,hs,rfl,hp,hh,ok,hL6,hd16,k⟩:=h
  have hl:=An
  refine⟨_,(Ag (Ap (Ax (HK rfl) rfl T.list PyProof.Rows.boot_list (Aa (Ah DR (hr.mono (by decide)) rfl DT Ck.kp DS .nil AD (Aa (Ah EG (hr.mono (by decide)) rfl EI Dd.kp EH .nil AD (Aa (pv 0) Ab)) Ab)) Ab)))),?_⟩
  walk_at "rd"
  refine⟨h,p,L,hs,rfl,hp,hh,ok,hL6,hd16,fun q F ws am H1 s1 o hq=>?_⟩
  refine⟨q,p,L,ws.length,_,_,_,rfl,hp,hq,o.okN.back,hL6,Nat.le_trans o.sz hd16,fun d kvs F2 ws2 H2 s2 hd _ rd bw hwd=>?_⟩
  refine⟨d,rfl,kvs,.inl hd,fun l rs hlN hrl hrs=>?_⟩
  have hw:=rd.1.words (K:=K) hrl hrs
  exact k l rs F ws am F2 ws2 _ ((s1.trans s2).newT hlN) Ac (hw.mono (TK.of (Same.new hlN))) o bw hwd
def AccR (hs:Hs)(p:Int)(L:Nat)(ws:List (List Int)):Prop:=∃F1 ws1 am1 F2,OnB hs.back p L F1 ws1 am1/\BW p L ws1.length (onB hs.back p L ws1 am1).back.t (onB hs.back p L ws1 am1).back.f F2 F2.length ws/\ws.length<=ws1.length
theorem AccR.uniq {hs:Hs}{p:Int}{L:Nat}{ws vs:List (List Int)}(hL:0<L)(a:AccR hs p L ws)(b:AccR hs p L vs):ws=vs:=by
 obtain⟨F1,ws1,am1,F2,o1,b1,_⟩:=a
 obtain⟨G1,vs1,bm1,G2,o2,b2,_⟩:=b
 obtain⟨rfl,rfl⟩:=OnB.uniq hL o1 o2
 exact BW.uniq (by omega) b1 b2
theorem BW.wsW {p L:Int}{d:Nat}{tb:List (List (List Int))}{f:List Int}{F ws:List (List Int)}(b:BW p L d tb f F F.length ws){v:List Int}(hv:v∈ws):isW L v=true:=b.valid v (by have:=b.kF v hv;rwa [List.take_length]at this)
theorem Cn_ {p:Int}{L:Nat}{a b:Hs}(R:List Int->List Int->Prop)(h0:R a.f b.f)(hs:∀(r r':List Int) (x:Nat),x<L->R r r'->R (Fi p a.d a.t r x) (Fi p b.d b.t r' x))(hl:∀r r',R r r'->dotW b.l r'%p=dotW a.l r%p){v:List Int}(hv:isW L v=true):b.W p v=a.W p v:=by
 have key:∀(v r r':List Int),isW L v=true->R r r'->R (Mine.rowS p a.d a.t r v) (Mine.rowS p b.d b.t r' v):=fun v=>by
  induction v with
  |nil=>intro r r' _ h;exact h
  |cons x v ih=>
   intro r r' hv h
   have hx:=AB.mp hv x (by simp)
   obtain⟨x,rfl⟩:=Int.eq_ofNat_of_zero_le hx.1
   exact ih _ _ (AB.mpr fun y hy=>AB.mp hv y (List.mem_cons_of_mem _ hy)) (hs r r' x (by omega) h)
 exact hl _ _ (key v _ _ hv h0)
def Dep (h:Hs)(p:Int)(cs:List Int)(ws:List (List Int)):Prop:=∀c:Nat,c<h.d->dotW cs (colW (ws.map (h.R p)) c)%p=0
theorem QJ {h:Hs}{p:Int}{K:List (List Int)}{v g:List Int}(hg:g.length=K.length):(∀c:Nat,c<h.d->(h.R p v).getD c 0%p=dotW g (colW (K.map (h.R p)) c)%p)↔Dep h p (g++[-1]) (K++[v]):=by
 have key:∀c:Nat,dotW (g++[-1]) (colW ((K++[v]).map (h.R p)) c)=dotW g (colW (K.map (h.R p)) c)-(h.R p v).getD c 0:=fun c=>by
  rw[List.map_append,Qr,show colW ([v].map (h.R p)) c=[(h.R p v).getD c 0] from rfl,GX _ _ (by rw[EW,List.length_map,hg])]
  omega
 constructor
 ·intro e c hc
  rw[key]
  exact Int.emod_eq_emod_iff_emod_sub_eq_zero.mp (e c hc).symm
 ·intro e c hc
  have:=e c hc
  rw[key]at this
  exact (Int.emod_eq_emod_iff_emod_sub_eq_zero.mpr this).symm
theorem Wk {h:Hs}{p:Int}{K:List (List Int)}{v:List Int}:Span p h.d (K.map (h.R p)) (fun i=>(h.R p v).getD i 0) ↔ ∃g:List Int,g.length=K.length/\Dep h p (g++[-1]) (K++[v]):=by
 constructor
 ·rintro⟨cs,a,b⟩
  rw[List.length_map]at a
  exact⟨cs,a,(QJ a).mp b⟩
 ·rintro⟨g,a,b⟩
  exact⟨g,by rw[List.length_map];exact a,(QJ a).mpr b⟩
def Ze (h h':Hs)(p:Int)(L:Nat):Prop:=∀(cs:List Int) (ws:List (List Int)),(∀v∈ws,isW L v=true)->cs.length=ws.length->(Dep h p cs ws↔Dep h' p cs ws)
theorem Ze.span {h h':Hs}{p:Int}{L:Nat}(e:Ze h h' p L){K:List (List Int)}{v:List Int}(hK:∀v∈K,isW L v=true)(hv:isW L v=true):Span p h.d (K.map (h.R p)) (fun i=>(h.R p v).getD i 0)↔Span p h'.d (K.map (h'.R p)) (fun i=>(h'.R p v).getD i 0):=by
 rw[Wk,Wk]
 refine exists_congr fun g=>and_congr_right fun hg=>e _ _ (fun u hu=>?_) (by simp[hg])
 rcases List.mem_append.mp hu with z|z
 ·exact hK u z
 ·rw[List.mem_singleton.mp z];exact hv
theorem BW.move {h h':Hs}{p:Int}{L:Nat}(e:Ze h h' p L){F K:List (List Int)}(b:BW p L h.d h.t h.f F F.length K):BW p L h'.d h'.t h'.f F F.length K:=by
 have hKv:∀v∈K,isW L v=true:=fun v hv=>b.wsW hv
 have hz:(∀i:Nat,i<h.d->h.f.getD i 0%p=0) ↔ ∀i:Nat,i<h'.d->h'.f.getD i 0%p=0:=by
  have:=e [1] [[]] (fun v hv=>by rw[List.mem_singleton.mp hv];rfl) rfl
  have k1:∀(h:Hs) (c:Nat),dotW [1] (colW ([[]].map (h.R p)) c)=h.f.getD c 0:=fun h c=>by
   show dotW [1] [h.f.getD c 0]=_
   rw[AE,BE];omega
  unfold Dep at this
  simp only[k1]at this
  exact this
 refine⟨b.nF,b.f0,b.valid,b.sorted,b.from_,b.kF,b.kSort,b.kids,b.kPre,b.fPre,fun i hi hs=>?_,fun f hf=>?_,b.flen,b.short,b.zero,fun hn hh=>b.nil0 hn (hz.mpr hh),fun hn hh=>b.nil1 hn fun z=>hh (hz.mp z)⟩
 ·refine b.free i hi ((e.span (fun v hv=>hKv v (List.mem_of_mem_take hv)) ?_).mpr hs)
  rw[List.getD_eq_getElem?_getD,List.getElem?_eq_getElem hi]
  exact hKv _ (List.getElem_mem hi)
 ·obtain⟨j,a1,a2,a3⟩:=b.span f hf
  exact⟨j,a1,(e.span (fun v hv=>hKv v (List.mem_of_mem_take hv)) (b.valid f (List.mem_of_mem_take hf))).mp a2,a3⟩
theorem OnB.move {h h':Hs}{p:Int}{L:Nat}(hL:0<L)(e:Ze h h' p L){F ws G vs:List (List Int)}{am bm:List (List (List Int))}(o:OnB h p L F ws am)(o':OnB h' p L G vs bm):ws=vs/\am=bm:=by
 have b:=o.bw.move e
 obtain rfl:ws=vs:=BW.uniq (by omega) b o'.bw
 have oN:OnB h' p L F ws am:=⟨o'.ok,o'.pr,b,⟨o.am.1,fun i a v ha hv=>?_⟩,o'.sz⟩
 ·exact OnB.uniq hL oN o'
 ·obtain⟨a1,a2⟩:=o.am.2 i a v ha hv
  refine⟨a1,fun x l hl=>?_⟩
  obtain⟨g1,g2,g3,g4⟩:=a2 x l hl
  have hx:x<L:=by have:=(List.getElem?_eq_some_iff.mp hl).1;omega
  refine⟨g1,g2,?_,g4⟩
  refine (QJ g1).mpr ((e _ _ (fun u hu=>?_) (by simp[g1])).mp ((QJ g1).mp g3))
  rcases List.mem_append.mp hu with z|z
  ·exact o.wsW z
  ·rw[List.mem_singleton.mp z]
   exact Qa (o.wsW (List.mem_of_getElem? hv)) (AB.mpr fun y hy=>by rw[List.mem_singleton.mp hy];omega)
theorem Zf {h B:Hs}{p:Int}{L:Nat}{F1 ws1:List (List Int)}{am1:List (List (List Int))}(o1:OnB h.back p L F1 ws1 am1)(hB:B=(onB h.back p L ws1 am1).back){ws:List (List Int)}{cs:List Int}(hc:cs.length=ws.length):Dep B p cs ws ↔ ∀e:List Int,isW L e=true->dotW cs (ws.map fun a=>B.W p (a++e))%p=0:=by
 have okB:B.ok p L:=by rw[hB];exact o1.okN.back
 constructor
 ·intro hd e he
  rw[Zb (es:=[]) okB he hc]
  exact Ao_ hd
 ·intro all i hi
  have hil:i<ws1.length:=by rw[hB]at hi;exact hi
  have hw1:=o1.wsW (List.getElem_mem hil)
  have h1:=all ws1[i].reverse (QG hw1)
  rw[Zb (es:=[]) okB (QG hw1) hc,List.reverse_reverse]at h1
  have e1:B.back.R p ws1[i]=D1 ws1.length i:=by
   rw[hB,Hs.back_back o1.okN]
   exact o1.unit (List.getElem?_eq_getElem hil)
  have hBd:B.d=ws1.length:=by rw[hB];rfl
  have e2:dotW ((List.range B.d).map fun c=>dotW cs (colW (ws.map (B.R p)) c)) (D1 ws1.length i)=_:=Qq _ (by rw[List.length_map,List.length_range,hBd])
  rw[e1,e2,List.getD_eq_getElem?_getD,List.getElem?_map,List.getElem?_range hi]at h1
  exact h1
theorem Ez_ {h h':Hs}{p:Int}{L:Nat}{F1 ws1 F1' ws1':List (List Int)}{am1 am1':List (List (List Int))}(ok:h.ok p L)(ok':h'.ok p L)(hW:∀v,isW L v=true->h'.W p v=h.W p v)(o1:OnB h.back p L F1 ws1 am1)(o1':OnB h'.back p L F1' ws1' am1'):Ze (onB h.back p L ws1 am1).back (onB h'.back p L ws1' am1').back p L:=fun cs ws hw hc=>by
 rw[Zf o1 rfl hc,Zf o1' rfl hc]
 refine forall_congr' fun e=>forall_congr' fun he=>?_
 have:(ws.map fun a=>(onB h.back p L ws1 am1).back.W p (a++e))=ws.map fun a=>(onB h'.back p L ws1' am1').back.W p (a++e):=List.map_congr_left fun a ha=>by
  have hv:=Qa (hw a ha) he
  rw[byW ok o1 hv,byW ok' o1' hv,hW _ hv]
 rw[this]
def DY (h:Hs)(p:Int)(L:Nat)(ws:List (List Int))(g:Hs):Prop:=∃F1 ws1 am1 F2 am2,OnB h.back p L F1 ws1 am1/\OnB (onB h.back p L ws1 am1).back p L F2 ws am2/\g=onB (onB h.back p L ws1 am1).back p L ws am2
theorem DY.uniq {h h':Hs}{p:Int}{L:Nat}(hL:0<L)(ok:h.ok p L)(ok':h'.ok p L)(hW:∀v,isW L v=true->h'.W p v=h.W p v){ws ws':List (List Int)}{g g':Hs}(a:DY h p L ws g)(b:DY h' p L ws' g'):ws=ws'/\g=g':=by
 obtain⟨F1,ws1,am1,F2,am2,o1,o2,rfl⟩:=a
 obtain⟨G1,vs1,bm1,G2,bm2,q1,q2,rfl⟩:=b
 obtain⟨rfl,rfl⟩:=OnB.move hL (Ez_ ok ok' hW o1 q1) o2 q2
 refine⟨rfl,?_⟩
 have:ws.map ((onB h.back p L ws1 am1).back.W p)=ws.map ((onB h'.back p L vs1 bm1).back.W p):=List.map_congr_left fun v hv=>by
  have hv:=o2.wsW hv
  rw[byW ok o1 hv,byW ok' q1 hv,hW _ hv]
 show (⟨_,_,_,ws.map ((onB h.back p L ws1 am1).back.W p)⟩:Hs)=⟨_,_,_,ws.map ((onB h'.back p L vs1 bm1).back.W p)⟩
 rw[this]
theorem DY.worth {h:Hs}{p:Int}{L:Nat}(ok:h.ok p L){ws:List (List Int)}{g:Hs}(a:DY h p L ws g){v:List Int}(hv:isW L v=true):g.W p v=h.W p v:=by
 obtain⟨F1,ws1,am1,F2,am2,o1,o2,rfl⟩:=a
 rw[o2.worth hv,byW ok o1 hv]
theorem DY.unit {h:Hs}{p:Int}{L:Nat}{ws:List (List Int)}{g:Hs}(a:DY h p L ws g){i:Nat}{v:List Int}(hv:ws[i]?=some v):g.R p v=D1 ws.length i:=by
 obtain⟨F1,ws1,am1,F2,am2,o1,o2,rfl⟩:=a
 exact o2.unit hv
theorem DY.okG {h:Hs}{p:Int}{L:Nat}{ws:List (List Int)}{g:Hs}(a:DY h p L ws g):g.ok p L:=by
 obtain⟨F1,ws1,am1,F2,am2,o1,o2,rfl⟩:=a
 exact o2.okN
theorem DY.sm {h:Hs}{p:Int}{L:Nat}{ws:List (List Int)}{g:Hs}(a:DY h p L ws g):∀tb∈g.t,∀r∈tb,∀x∈r,0<=x/\x<p:=by
 obtain⟨F1,ws1,am1,F2,am2,o1,o2,rfl⟩:=a
 intro tb htb r hr
 obtain⟨x,hx,rfl⟩:=List.mem_map.mp htb
 have hx:=List.mem_range.mp hx
 obtain⟨i,hi⟩:=List.mem_iff_getElem?.mp hr
 have hil:i<ws.length:=by rw[<-o2.am.1];have:=(List.getElem?_eq_some_iff.mp hi).1;rwa [List.length_map]at this
 exact (o2.good hx i r ws[i] hi (by simp)).2.1
theorem DY.sz {h:Hs}{p:Int}{L:Nat}{ws:List (List Int)}{g:Hs}(a:DY h p L ws g):g.d=ws.length/\ws.length<=h.d:=by
 obtain⟨F1,ws1,am1,F2,am2,o1,o2,rfl⟩:=a
 exact⟨rfl,Nat.le_trans o2.sz o1.sz⟩
theorem DY.acc {h:Hs}{p:Int}{L:Nat}{ws vs:List (List Int)}{g:Hs}(hL:0<L)(a:DY h p L ws g)(b:AccR h p L vs):vs=ws:=by
 obtain⟨F1,ws1,am1,F2,am2,o1,o2,rfl⟩:=a
 exact b.uniq hL ⟨F1,ws1,am1,F2,o1,o2.bw,o2.sz⟩
theorem Tw {r v:List Int}(hl:r.length=v.length):∀{j:Nat} (y:Int),j<r.length->dotW (r.set j y) v=dotW r v+(y-r.getD j 0)*v.getD j 0:=by
 induction r generalizing v with
 |nil=>intro j y hj;simp at hj
 |cons x r ih=>
  intro j y hj
  cases v with
  |nil=>simp at hl
  |cons u v=>
   cases j with
   |zero=>
    rw[List.set_cons_zero,AE,AE]
    show y*u+_=x*u+_+(y-x)*u
    rw[Int.sub_mul];omega
   |succ j=>
    rw[List.set_cons_succ,AE,AE,ih (by simpa using hl) y (by simpa using hj)]
    show _=_+(y-r.getD j 0)*v.getD j 0
    omega
theorem JC {r:List Int}{i j:Nat}(h:i≠j)(y:Int):(r.set i y).getD j 0=r.getD j 0:=by
 rw[List.getD_eq_getElem?_getD,List.getElem?_set_ne h,<-List.getD_eq_getElem?_getD]
theorem Nz {r:List Int}{i:Nat}(h:i<r.length)(y:Int):(r.set i y).getD i 0=y:=by
 rw[List.getD_eq_getElem?_getD,List.getElem?_set_self h];rfl
theorem Wl {r q:List Int}{i j:Nat}(hij:i≠j)(hl:r.length=q.length)(hi:i<r.length)(hj:j<r.length)(tm:Int):dotW (r.set j (r.getD j 0+tm*r.getD i 0)) (q.set i (q.getD i 0-tm*q.getD j 0))=dotW r q:=by
 rw[Tw (by simp[hl]) _ hj,Bb r,Tw hl.symm _ (by omega),JC hij,Bb q]
 have e1:(r.getD j 0+tm*r.getD i 0-r.getD j 0)*q.getD j 0=tm*r.getD i 0*q.getD j 0:=by congr 1;omega
 have e2:(q.getD i 0-tm*q.getD j 0-q.getD i 0)*r.getD i 0 = -(tm*r.getD i 0*q.getD j 0):=by
  rw[show q.getD i 0-tm*q.getD j 0-q.getD i 0 = -(tm*q.getD j 0) by omega,Int.neg_mul]
  congr 1
  rw[Int.mul_assoc,Int.mul_comm (q.getD j 0),Int.mul_assoc]
 rw[e1,e2];omega
def conR (p:Int)(i j:Nat)(tm:Int)(row:List Int):List Int:=row.set j ((row.getD j 0+tm*row.getD i 0)%p)
def Hc (p tm:Int)(row other:List Int)(n:Nat):List Int:=(List.range n).map fun c=>(row.getD c 0-tm*other.getD c 0)%p
def Mj (p:Int)(n i j:Nat)(tm:Int)(tb:List (List Int)):List (List Int):=(tb.map (conR p i j tm)).set i (Hc p tm ((tb.map (conR p i j tm)).getD i []) ((tb.map (conR p i j tm)).getD j []) n)
def Ap_ (p:Int)(i j:Nat)(tm:Int)(h:Hs):Hs:=⟨h.d,conR p i j tm h.f,h.t.map (Mj p h.d i j tm),conR p j i (-tm) h.l⟩
theorem cg.set {p:Int}{r s:List Int}(h:cg p r s)(j:Nat){y z:Int}(e:y%p=z%p):cg p (r.set j y) (s.set j z):=by
 unfold cg at h ⊢
 rw[List.map_set,List.map_set,h,e]
theorem Vb (p x:Int):x%p%p=x%p:=Int.emod_emod_of_dvd _ (Int.dvd_refl p)
theorem Zg (p:Int)(i j:Nat)(tm:Int)(row:List Int):cg p (conR p i j tm row) (row.set j (row.getD j 0+tm*row.getD i 0)):=cg.set (cg.refl p row) j (Vb p _)
theorem Co_ {p:Int}{i j:Nat}{tm:Int}{row:List Int}(c:Nat)(hj:j<row.length):(conR p i j tm row).getD c 0%p=(if c=j then row.getD j 0+tm*row.getD i 0 else row.getD c 0)%p:=by
 unfold conR
 by_cases h:c=j
 ·subst h
  rw[Nz hj,if_pos rfl,Vb]
 ·rw[JC (Ne.symm h),if_neg h]
theorem Gk {f:Nat->Int}{n c:Nat}(hc:c<n):((List.range n).map f).getD c 0=f c:=by
 rw[List.getD_eq_getElem?_getD,List.getElem?_map,List.getElem?_range hc];rfl
theorem Eb_ {p:Int}{n:Nat}{a b:List Int}(ha:a.length=n)(hb:b.length=n)(h:∀c:Nat,c<n->a.getD c 0%p=b.getD c 0%p):cg p a b:=by
 unfold cg
 refine List.ext_getElem (by simp[ha,hb]) fun c h1 h2=>?_
 rw[List.length_map]at h1 h2
 have:=h c (by omega)
 rw[List.getD_eq_getElem?_getD,List.getD_eq_getElem?_getD,List.getElem?_eq_getElem h1,List.getElem?_eq_getElem h2]at this
 rw[List.getElem_map,List.getElem_map];exact this
theorem Zh {α:Type}{f g:α->Int}(tm:Int):∀(r:List Int) (tb:List α),dotW r (tb.map fun a=>f a+tm*g a)=dotW r (tb.map f)+tm*dotW r (tb.map g)
 |[],tb=>by rw[BE,BE,BE];omega
 |x::r,[]=>by rw[List.map_nil,List.map_nil,List.map_nil,EV];omega
 |x::r,a::tb=>by
  rw[List.map_cons,List.map_cons,List.map_cons,AE,AE,AE,Zh tm r tb,Int.mul_add,Int.mul_add]
  rw[show x*(tm*g a)=tm*(x*g a) by rw[<-Int.mul_assoc,Int.mul_comm x tm,Int.mul_assoc]]
  omega
theorem Zi (U:List (List Int))(c i:Nat):(colW U c).getD i 0=(U.getD i []).getD c 0:=by
 unfold colW
 rw[List.getD_eq_getElem?_getD,List.getElem?_map,List.getD_eq_getElem?_getD (l:=U)]
 cases U[i]?<;>rfl
theorem WV {h:Hs}{p:Int}{L:Nat}(ok:h.ok p L){i j:Nat}(hij:i≠j)(hi:i<h.d)(hj:j<h.d)(tm:Int){v:List Int}(hv:isW L v=true):(Ap_ p i j tm h).W p v=h.W p v:=by
 refine Cn_ (L:=L) (fun r r'=>r.length=h.d/\cg p r' (r.set j (r.getD j 0+tm*r.getD i 0))) ⟨ok.f.1,Zg ..⟩ (fun r r' x hx hr=>?_) (fun r r' hr=>?_) hv
 ·obtain⟨hl,hc⟩:=hr
  have hit:x<h.t.length:=by have:=ok.t;omega
  have eT:(h.t.map (Mj p h.d i j tm)).getD x []=Mj p h.d i j tm (h.t.getD x []):=by
   rw[List.getD_eq_getElem?_getD,List.getElem?_map,List.getElem?_eq_getElem hit,List.getD_eq_getElem?_getD,List.getElem?_eq_getElem hit];rfl
  have hd:=ok.dim hx
  obtain⟨tb,eTb⟩:∃tb,h.t.getD x []=tb:=⟨_,rfl⟩
  rw[eTb]at eT hd
  have hsl:(Fi p h.d h.t r x).length=h.d:=by unfold Fi D0;simp
  refine⟨hsl,?_⟩
  have hUl:(colW (tb.map (conR p i j tm)) 0).length=h.d:=by rw[EW,List.length_map,hd.n]
  refine Eb_ (n:=h.d) (by unfold Fi D0;simp[Ap_]) (by rw[List.length_set];exact hsl) fun c hcd=>?_
  have e1:(Fi p (Ap_ p i j tm h).d (Ap_ p i j tm h).t r' x).getD c 0=dotW r' (colW (Mj p h.d i j tm tb) c)%p:=by
   show (D0 p ((h.t.map (Mj p h.d i j tm)).getD ((x:Int)).toNat []) r' h.d).getD c 0=_
   rw[show ((x:Int)).toNat=x by omega,eT]
   exact Gk hcd
  have e0:∀c:Nat,c<h.d->(Fi p h.d h.t r x).getD c 0=dotW r (colW (h.t.getD x []) c)%p:=fun c hc=>by
   show (D0 p (h.t.getD ((x:Int)).toNat []) r h.d).getD c 0=_
   rw[show ((x:Int)).toNat=x by omega]
   exact Gk hc
  have e2:colW (Mj p h.d i j tm tb) c=(colW (tb.map (conR p i j tm)) c).set i (((colW (tb.map (conR p i j tm)) c).getD i 0-tm*(colW (tb.map (conR p i j tm)) c).getD j 0)%p):=by
   rw[Zi,Zi]
   unfold Mj colW
   rw[List.map_set]
   congr 1
   exact Gk hcd
  have c2:cg p (colW (Mj p h.d i j tm tb) c) ((colW (tb.map (conR p i j tm)) c).set i ((colW (tb.map (conR p i j tm)) c).getD i 0-tm*(colW (tb.map (conR p i j tm)) c).getD j 0)):=by
   rw[e2];exact cg.set (cg.refl p _) i (Vb p _)
  have hql:(colW (tb.map (conR p i j tm)) c).length=h.d:=by rw[EW,List.length_map,hd.n]
  rw[e1,Vb,cg.dot hc c2,Wl hij (by rw[hl,hql]) (by omega) (by omega)]
  have c3:cg p (colW (tb.map (conR p i j tm)) c) (tb.map fun row=>if c=j then row.getD j 0+tm*row.getD i 0 else row.getD c 0):=by
   unfold colW
   rw[List.map_map]
   exact cg.map fun row hr=>Co_ c (by rw[hd.r row hr];exact hj)
  rw[cg.dot (cg.refl p r) c3]
  by_cases hcj:c=j
  ·subst hcj
   rw[Nz (by rw[hsl];exact hcd),e0 c hcd,e0 i hi,eTb]
   simp only[if_true]
   rw[Zh,Int.add_emod,Int.mul_emod]
   conv=>rhs;rw[Int.add_emod,Vb,Int.mul_emod,Vb]
   rfl
  ·rw[JC (Ne.symm hcj),e0 c hcd,Vb,eTb]
   simp only[if_neg hcj]
   rfl
 ·obtain⟨hl,hc⟩:=hr
  show dotW (conR p j i (-tm) h.l) r'%p=_
  rw[Bb,cg.dot hc (Zg ..),Bb h.l]
  have e:h.l.getD i 0 + -tm*h.l.getD j 0=h.l.getD i 0-tm*h.l.getD j 0:=by rw[Int.neg_mul];omega
  rw[e,Wl hij (by rw[hl,ok.l.1]) (by omega) (by omega)]
def Aq_ (tb:List (List Int))(bs:List Int):List (List Int):=tb.map (· ++ [0])++[bs]
def Zj (n:Nat)(tb:List (List Int))(bs:Nat->Int)(b:Int):List (List Int):=((List.range n).map fun k=>tb.getD k []++[bs k])++[List.replicate n 0++[b]]
theorem Ls {r:List Int}{x:Int}{c:Nat}(h:c<r.length):(r++[x]).getD c 0=r.getD c 0:=by
 rw[List.getD_eq_getElem?_getD,List.getElem?_append_left h,<-List.getD_eq_getElem?_getD]
theorem WW {r:List Int}{x:Int}{n:Nat}(h:r.length=n):(r++[x]).getD n 0=x:=by
 subst h
 rw[List.getD_eq_getElem?_getD,List.getElem?_append_right (Nat.le_refl _),Nat.sub_self];rfl
theorem Vc {h:Hs}{p:Int}{L:Nat}(ok:h.ok p L){t':List (List (List Int))}(ht:∀x:Nat,x<L->∃bs,t'.getD x []=Aq_ (h.t.getD x []) bs)(l0:Int){v:List Int}(hv:isW L v=true):(⟨h.d+1,h.f++[0],t',h.l++[l0]⟩:Hs).W p v=h.W p v:=by
 refine Cn_ (L:=L) (fun r r'=>r.length=h.d/\r'=r++[0]) ⟨ok.f.1,rfl⟩ (fun r r' x hx hr=>?_) (fun r r' hr=>?_) hv
 ·obtain⟨hl,rfl⟩:=hr
  obtain⟨bs,eb⟩:=ht x hx
  have hd:=ok.dim hx
  refine⟨by unfold Fi D0;simp,?_⟩
  show D0 p (t'.getD ((x:Int)).toNat []) (r++[0]) (h.d+1)=D0 p (h.t.getD ((x:Int)).toNat []) r h.d++[0]
  rw[show ((x:Int)).toNat=x by omega,eb]
  unfold D0
  rw[List.range_succ,List.map_append]
  have hdot:∀c:Nat,dotW (r++[0]) (colW (Aq_ (h.t.getD x []) bs) c)=dotW r ((h.t.getD x []).map fun w=>(w++[0]).getD c 0):=fun c=>by
   unfold Aq_ colW
   rw[List.map_append,List.map_map,List.map_singleton,GX _ _ (by rw[List.length_map,hd.n,hl])]
   rw[Int.zero_mul,Int.add_zero];rfl
  congr 1
  ·refine List.map_congr_left fun c hc=>?_
   rw[hdot]
   congr 2
   unfold colW
   exact List.map_congr_left fun w hw=>Ls (by rw[hd.r w hw];exact List.mem_range.mp hc)
  ·rw[List.map_singleton,hdot]
   have:((h.t.getD x []).map fun w=>(w++[0]).getD h.d 0)=List.replicate (h.t.getD x []).length 0:=by
    refine List.eq_replicate_iff.mpr ⟨by rw[List.length_map],fun z hz=>?_⟩
    obtain⟨w,hw,rfl⟩:=List.mem_map.mp hz
    exact WW (hd.r w hw)
   rw[this,Ft];simp
 ·obtain⟨hl,rfl⟩:=hr
  show dotW (h.l++[l0]) (r++[0])%p=_
  rw[GX _ _ (by rw[ok.l.1,hl]),Int.mul_zero,Int.add_zero]
theorem Vd {h:Hs}{p:Int}{L:Nat}(ok:h.ok p L){t':List (List (List Int))}(ht:∀x:Nat,x<L->∃bs b,t'.getD x []=Zj h.d (h.t.getD x []) bs b)(f0:Int){v:List Int}(hv:isW L v=true):(⟨h.d+1,h.f++[f0],t',h.l++[0]⟩:Hs).W p v=h.W p v:=by
 refine Cn_ (L:=L) (fun r r'=>r.length=h.d/\∃y,r'=r++[y]) ⟨ok.f.1,f0,rfl⟩ (fun r r' x hx hr=>?_) (fun r r' hr=>?_) hv
 ·obtain⟨hl,y,rfl⟩:=hr
  obtain⟨bs,b,eb⟩:=ht x hx
  have hd:=ok.dim hx
  refine⟨by unfold Fi D0;simp,dotW (r++[y]) (colW (Zj h.d (h.t.getD x []) bs b) h.d)%p,?_⟩
  show D0 p (t'.getD ((x:Int)).toNat []) (r++[y]) (h.d+1)=D0 p (h.t.getD ((x:Int)).toNat []) r h.d++[_]
  rw[show ((x:Int)).toNat=x by omega,eb]
  unfold D0
  rw[List.range_succ,List.map_append]
  congr 1
  refine List.map_congr_left fun c hc=>?_
  have hc:=List.mem_range.mp hc
  congr 1
  have e:colW (Zj h.d (h.t.getD x []) bs b) c=colW (h.t.getD x []) c++[0]:=by
   unfold Zj colW
   rw[List.map_append,List.map_map,List.map_singleton]
   congr 1
   ·refine List.ext_getElem (by rw[List.length_map,List.length_range,List.length_map,hd.n]) fun k h1 h2=>?_
    have hk:k<(h.t.getD x []).length:=by simpa using h2
    rw[List.getElem_map,List.getElem_range,List.getElem_map]
    show ((h.t.getD x []).getD k []++[bs k]).getD c 0=_
    have ek:(h.t.getD x []).getD k []=(h.t.getD x [])[k]:=by rw[List.getD_eq_getElem?_getD (l:=h.t.getD x []),List.getElem?_eq_getElem hk];rfl
    rw[ek]
    exact Ls (by rw[hd.r _ (List.getElem_mem hk)];exact hc)
   ·congr 1
    rw[Ls (by rw[List.length_replicate];exact hc),List.getD_eq_getElem?_getD,List.getElem?_replicate]
    split<;>rfl
  rw[e,GX _ _ (by rw[EW,hd.n,hl]),Int.mul_zero,Int.add_zero]
 ·obtain⟨hl,y,rfl⟩:=hr
  show dotW (h.l++[0]) (r++[y])%p=_
  rw[GX _ _ (by rw[ok.l.1,hl]),Int.zero_mul,Int.add_zero]
theorem Cp_ (xs:List V)(m:Nat):cutV xs (some (m:Int)) none=xs.drop m:=by
 unfold cutV
 rw[HT.sIx_nat,HT.sIx_none]
 by_cases h:m<=xs.length
 ·rw[Nat.min_eq_left h,List.take_of_length_le (by rw[List.length_drop];omega)]
 ·rw[Nat.min_eq_right (by omega),List.drop_of_length_le (by omega),List.drop_of_length_le (by omega)];simp
theorem Zk (xs:List V)(n:Nat):cutV xs none (some (n:Int))=xs.take n:=by
 unfold cutV
 rw[HT.sIx_nat,HT.sIx_none]
 by_cases h:n<=xs.length
 ·rw[Nat.min_eq_left h];simp
 ·rw[Nat.min_eq_right (by omega),List.take_of_length_le (show xs.length<=n by omega)];simp
def Wm (K:PySem.W.Frag):Sp:=fun vs H Q _=>∃(p tm:Int) (r:Addr) (i j n:Nat) (row:List Int),vs=[.int p,.ref r,.int i,.int j,.int tm]/\2<=p/\p<1000000000000000000 /\ -p<tm/\tm<p/\SqT K H r (row.map V.int)/\row.length=n/\n<=16/\(∀x∈row,0<=x/\x<p)/\i<n/\j<n/\∀(q:Addr) (row':List Int) (H':Hp),Same H H'->SqT K H' q (row'.map V.int)->row'.length=n->(∀x∈row',0<=x/\x<p)->row'=conR p i j tm row->Q (.ref q) H'
theorem Lu {f:Addr}{fd:FuncData}(F:Fun K "_law_column_on" "_law_column_on" Bn f fd)(T:Txt mg)
  (Z:Exs K mg C_AskError C_BadWord C_NoInverse)
  : FnOk P w K mg base CX0 1 f fd ["p","row","i","j","times"] (Wm K):=by
 refine F.ok GD (fun vs H Q E h=>?_) (fun cdv A outer s H vs Q E hr h=>?_)
 ·obtain⟨p,tm,r,i,j,n,row,rfl,_⟩:=h;rfl
 ·obtain⟨p,tm,r,i,j,n,row,rfl,p2,p18,tm0,tm1,hr,hn,hn16,hin,hi,hj,k⟩:=h
  have hl:=An
  refine⟨_,(Ad (Aj (i:=5) GD.nd rfl (Or.inl rfl) (Aq Cg (Aq Cv (Ar Al (pv 1) (pv 3) (fun _ _=>rfl)) (Aq Ds (pv 4) (Ar Al (pv 1) (pv 2) (fun _ _=>rfl)))) (pv 0)))
   (Ag (Ap (Aq Dp (Aq Dp (GN Jt (pv 1) Jp (Jq (pv 3))) (Bz (Aa (pv 5) Ab))) (GN Jt (pv 1) (Jq (Aq Cv (pv 3) Af)) Jp))))),?_⟩
  walk_at "rd"
  have hgj:row[j]?=some row[j]:=by simp
  have hgi:row[i]?=some row[i]:=by simp
  generalize row[j]=xj at hgj
  generalize row[i]=xi at hgi
  refine⟨_,hr,V.int xj,Bc (by rw[List.getElem?_map,hgj];rfl),_,hr,V.int xi,Bc (by rw[List.getElem?_map,hgi];rfl),xi,rfl,.inl ⟨by omega,by omega⟩,xj,rfl,by omega,_,hr,fun t1 H1 s1 ht1=>⟨by omega,fun t2 ht2=>?_⟩⟩
  have e1:cutV (row.map V.int) none (some (j:Int))=(row.take j).map V.int:=by
   rw[List.map_take]
   exact Zk (row.map V.int) j
  have e2:cutV (row.map V.int) (some ((j:Int)+1)) none=(row.drop (j+1)).map V.int:=by
   rw[List.map_drop];exact Cp_ (row.map V.int) (j+1)
  rw[e1]at ht1
  have m0:=Int.emod_nonneg (xj+tm*xi) (show p≠0 by omega)
  have m1:=Int.emod_lt_of_pos (xj+tm*xi) (show 0<p by omega)
  refine Dv.of ((Same.new ht2).seqT ht1) (SqT.of Ac) (by simp;omega) fun t3 H3 s3 ht3=>⟨_,((s1.newT ht2).trans s3).seqT hr,fun t4 H4 s4 ht4=>?_⟩
  rw[e2]at ht4
  refine Dv.of (s4.seqT ht3) ht4 (by simp;omega) fun t5 H5 s5 ht5=>k t5 (row.take j++[(xj+tm*xi)%p]++row.drop (j+1)) H5 ((((s1.newT ht2).trans s3).trans s4).trans s5) ?_ (by simp;omega) (fun x hx=>?_) ?_
  ·rw[List.map_append,List.map_append];exact ht5
  ·rcases List.mem_append.mp hx with hx|hx
   ·rcases List.mem_append.mp hx with hx|hx
    ·exact hin x (List.mem_of_mem_take hx)
    ·rw[List.mem_singleton.mp hx];exact⟨m0,m1⟩
   ·exact hin x (List.mem_of_mem_drop hx)
  ·unfold conR
   rw[List.set_eq_take_append_cons_drop,if_pos (show j<row.length by omega),List.getD_eq_getElem?_getD,hgj,List.getD_eq_getElem?_getD,hgi]
   simp
def Pn (K:PySem.W.Frag):Sp:=fun vs H Q _=>∃(p tm:Int) (r o:Addr) (n:Nat) (row other:List Int),vs=[.int p,.ref r,.int tm,.ref o]/\2<=p/\p<1000000000000000000 /\ -p<tm/\tm<p/\SqT K H r (row.map V.int)/\row.length=n/\SqT K H o (other.map V.int)/\other.length=n/\n<=16/\(∀x∈other,0<=x/\x<p)/\∀(q:Addr) (row':List Int) (H':Hp),Same H H'->SqT K H' q (row'.map V.int)->row'.length=n->(∀x∈row',0<=x/\x<p)->row'=Hc p tm row other n->Q (.ref q) H'
theorem Ml {f:Addr}{fd:FuncData}(F:Fun K "_law_row_less" "_law_row_less" BB f fd)(T:Txt mg)
  (Z:Exs K mg C_AskError C_BadWord C_NoInverse)
  : FnOk P w K mg base CX0 1 f fd ["p","row","times","other"] (Pn K):=by
 refine F.ok Mf (fun vs H Q E h=>?_) (fun cdv A outer s H vs Q E hr h=>?_)
 ·obtain⟨p,tm,r,o,n,row,other,rfl,_⟩:=h;rfl
 ·obtain⟨p,tm,r,o,n,row,other,rfl,p2,p18,tm0,tm1,hr,hn,ho,hno,hn16,hin,k⟩:=h
  have hl:=An
  refine⟨_,(Ag (Ap (Ax Av rfl T.tuple PyProof.Rows.boot_tuple (Aa (CG rfl (Du rfl) (cp:=GF) ⟨⟨rfl,rfl⟩,⟨⟨rfl,rfl⟩,⟨⟨rfl,rfl⟩,⟨⟨rfl,rfl⟩,True.intro⟩⟩⟩⟩ (AQ rfl T.range (Aa (Ak Ai (by rfl) T.len PySem.boot_len (Aa (pv 1) Ab)) Ab)) (fun _ _ _ _=>(Am (i:=0) Ja rfl (Or.inl rfl))) (fun _ _ _ _=>CH) (fun _ _ _ _=>(Aq Cg (Aq LO (Ar (Ep (K:=K) rfl) (pv 2) (pv 0) (fun _ _=>rfl)) (Aq Ds (pv 3) (Ar (Ep (K:=K) rfl) (pv 4) (pv 0) (fun _ _=>rfl)))) (pv 1)))) Ab)))),?_⟩
  walk_at "rd"
  refine⟨_,.inr hr,by rw[List.length_map];omega,by rw[List.length_map];omega,?_⟩
  rw[Int.toNat_natCast,List.length_map,hn]
  have hlr:∀j,(Hc p tm row other j).length=j:=fun j=>by unfold Hc;simp
  refine N5 (fun j ys σ2 H2=>H2=H/\ys=(Hc p tm row other j).map V.int/\∃u,σ2=[u,some (.int p),some (.ref r),some (.int tm),some (.ref o)]) ⟨rfl,rfl,none,rfl⟩ (by omega) (fun j ys σ2 H2 hj h2=>by obtain⟨_,rfl,_⟩:=h2;rw[List.length_map,hlr];omega) (fun j ys σ2 H2 hj h2=>?_) (fun ys σ2 H2 h2 D hD=>?_)
  ·obtain⟨rfl,rfl,u,rfl⟩:=h2
   rw[Int.zero_add]
   have hgj:row[j]?=some row[j]:=by simp
   have hoj:other[j]?=some other[j]:=by simp
   generalize row[j]=xj at hgj
   generalize other[j]=xo at hoj
   walk_at "rd"
   refine⟨_,hr,V.int xj,Bc (by rw[List.getElem?_map,hgj];rfl),_,ho,V.int xo,Bc (by rw[List.getElem?_map,hoj];rfl),xo,rfl,.inl ⟨by have:=hin xo (List.mem_of_getElem? hoj);omega,by omega⟩,xj,rfl,by omega,?_⟩
   have fin:(Hc p tm row other j).map V.int++[V.int ((xj-tm*xo)%p)]=(Hc p tm row other (j+1)).map V.int:=by
    unfold Hc
    rw[List.range_succ,List.map_append,List.map_append,List.map_singleton,List.map_singleton,List.getD_eq_getElem?_getD (l:=row),hgj,List.getD_eq_getElem?_getD (l:=other),hoj];rfl
   first
    | exact⟨rfl,fin,_,rfl⟩
    | exact⟨fin,_,rfl⟩
  ·obtain⟨rfl,rfl,u,rfl⟩:=h2
   exact⟨D,rfl,_,.inl ⟨SqL.of Ac,fun t ht=>k t (Hc p tm row other n) _ ((Same.new hD).newT ht) (SqT.of Ac) (hlr n) (fun x hx=>by
    obtain⟨c,_,rfl⟩:=List.mem_map.mp hx
    exact⟨Int.emod_nonneg _ (by omega),Int.emod_lt_of_pos _ (by omega)⟩) rfl⟩⟩
theorem Zl {n j:Nat}(h:j<n):ixN n (j:Int)=some j:=by
 rw[DB_ (by omega) (by omega)];simp
def Shp (p:Int)(n:Nat)(tb:List (List Int)):Prop:=tb.length=n/\∀r∈tb,r.length=n/\∀x∈r,0<=x/\x<p
def NA (K:PySem.W.Frag):Sp:=fun vs H Q _=>∃(h:Addr) (p tm:Int) (L n i j:Nat) (first last:List Int) (tables:List (List (List Int))),vs=[.ref h,.int i,.int j,.int tm]/\SumH K H h p L first tables last/\WfSum p L n first tables last/\Sm p tables /\ -p<tm/\tm<p/\L<=6/\n<=16/\i<n/\j<n/\∀(g:Addr) (first' last':List Int) (tables':List (List (List Int))) (H':Hp),Same H H'->SumH K H' g p L first' tables' last'->WfSum p L n first' tables' last'->Sm p tables'->(∀v,isW L v=true->(⟨n,first',tables',last'⟩:Hs).W p v=(⟨n,first,tables,last⟩:Hs).W p v)->Q (.ref g) H'
theorem Og {f:Addr}{fd:FuncData}(F:Fun K "_law_turned" "_law_turned" Cp f fd)(T:Txt mg)
  (Z:Exs K mg C_AskError C_BadWord C_NoInverse)
  {Bo:Addr} {EJ:FuncData} (CA:FnOk P w K mg base CX0 1 Bo EJ ["p","row","i","j","times"] (Wm K)) (Bp:Fun K "_law_column_on" "_law_column_on" Bn Bo EJ) (CB:Binds K EJ ["p","row","i","j","times"] []) (CC:mg "_law_column_on"=some (.ref Bo))
  {BK:Addr} {Fl:FuncData} (FU:FnOk P w K mg base CX0 1 BK Fl ["p","row","times","other"] (Pn K)) (De:Fun K "_law_row_less" "_law_row_less" BB BK Fl) (FV:Binds K Fl ["p","row","times","other"] []) (FW:mg "_law_row_less"=some (.ref BK))
  : FnOk P w K mg base CX0 2 f fd ["house","i","j","times"] (NA K):=by
 refine F.ok By (fun vs H Q E h=>?_) (fun cdv A outer s H vs Q E hr h=>?_)
 ·obtain⟨h,p,tm,L,n,i,j,first,last,tables,rfl,_⟩:=h;rfl
 ·obtain⟨h,p,tm,L,n,i,j,first,last,tables,rfl,hh,wf,sm,tm0,tm1,hL6,hn16,hi,hj,k⟩:=h
  have hl:=An
  have p2:=wf.p2
  have p18:=wf.p18
  obtain⟨tf,tt,tl,h1,h2,h3,us,h4,h5,h6⟩:=id hh
  refine⟨_,(Ad (Aj (i:=4) By.nd rfl (Or.inl rfl) (Ar Al (pv 0) Af (fun _ _=>rfl)))
   (Ad (Dt (AJ UH (pv 1) (pv 2) (A3 _))
   (Ag (Ap (pv 0)))
   AY)
   (Ad (Aj (i:=5) By.nd rfl (Or.inl rfl) (Fm Ab))
   (Ad (B7 PassesOwn.never rfl (Hu (Ar Al (pv 0) Af (fun _ _=>rfl))) (Am (i:=6) By.nd rfl (Or.inl rfl))
   (Ad (Aj (i:=7) By.nd rfl (Or.inl rfl) (Fm Ab))
   (Ad (B7 PassesOwn.never rfl (Hu (pv 6)) (Am (i:=8) By.nd rfl (Or.inl rfl))
   (Ag (DB (J4 PySem.F.plainAttrs_list PySem.F.slot_list_append PySem.F.type_list_append B9 (pv 7) (Aa (Ah CA (hr.mono (by decide)) rfl CC Bp.kp CB .nil AD (Aa (pv 4) (Aa (pv 8) (Aa (pv 1) (Aa (pv 2) (Aa (pv 3) Ab)))))) Ab)))))
   (Ad (CL_ (Ah FU (hr.mono (by decide)) rfl FW De.kp FV .nil AD (Aa (pv 4) (Aa (Ar CF (pv 7) (pv 1) (fun _ _=>rfl)) (Aa (pv 3) (Aa (Ar CF (pv 7) (pv 2) (fun _ _=>rfl)) Ab))))) (CK_ (pv 7) (pv 1) set_list))
   (Ag (DB (J4 PySem.F.plainAttrs_list PySem.F.slot_list_append PySem.F.type_list_append B9 (pv 5) (Aa (Ax Av rfl T.tuple PyProof.Rows.boot_tuple (Aa (pv 7) Ab)) Ab))))))))
   (Ad (Aj (i:=9) By.nd rfl (Or.inl rfl) (Ah CA (hr.mono (by decide)) rfl CC Bp.kp CB .nil AD (Aa (pv 4) (Aa (Ar Al (pv 0) Af (fun _ _=>rfl)) (Aa (pv 2) (Aa (pv 1) (Aa (Wt O2 (pv 3)) Ab)))))))
   (Ad (Aj (i:=10) By.nd rfl (Or.inl rfl) (Ah CA (hr.mono (by decide)) rfl CC Bp.kp CB .nil AD (Aa (pv 4) (Aa (Ar Al (pv 0) Af (fun _ _=>rfl)) (Aa (pv 1) (Aa (pv 2) (Aa (pv 3) Ab)))))))
   (Ag (Ap (Bz (Aa (pv 4) (Aa (Ar Al (pv 0) Af (fun _ _=>rfl)) (Aa (pv 10) (Aa (Ax Av rfl T.tuple PyProof.Rows.boot_tuple (Aa (pv 5) Ab)) (Aa (pv 9) Ab)))))))))))))),?_⟩
  walk_at "rd"
  refine⟨_,h1,V.int p,rfl,?_⟩
  refine ite2 (fun _=>k h first last tables H (Same.refl _) hh wf sm (fun v _=>rfl)) (fun hij=>⟨by omega,fun pt hpt=>?_⟩)
  have s0:=Same.new hpt (o:=.lst [])
  have u0:upd H pt (.lst []) pt=some (.lst []):=Ac
  generalize upd H pt (.lst [])=H0 at s0 u0 ⊢
  refine⟨_,s0.seqT h1,V.ref tt,rfl,tt,rfl,⟨_,s0.seqT h4⟩,?_⟩
  obtain⟨Pv,hPv⟩:∃Pv:Nat->St->Hp->Prop,∀m σ' H',Pv m σ' H'↔(∃(vs:List Addr) (done:List (List (List Int))) (o6 o7 o8:Option V),Same H H'/\H' pt=some (.lst (vs.map V.ref))/\TabL K H' vs done/\done.length=m/\(∀tb∈done,Shp p n tb)/\done=(tables.take m).map (Mj p n i j tm)/\σ'=[some (.ref h),some (.int i),some (.int j),some (.int tm),some (.int p),some (.ref pt),o6,o7,o8,none,none]):=⟨_,fun _ _ _=>Iff.rfl⟩
  refine forT (xs:=us.map V.ref) Pv ((hPv _ _ _).mpr ⟨[],[],none,none,none,s0,u0,⟨rfl,fun i u tb hi=>by simp at hi⟩,rfl,by simp,rfl,rfl⟩) (fun m σ' H' _ h'=>by obtain⟨_,_,_,_,_,s',_⟩:=(hPv _ _ _).mp h';exact s'.seqT h4) (fun m x σ' H' hx h'=>?_) (fun σ' H' h'=>?_)
  ·obtain⟨vs,done,o6,o7,o8,s1,c1,c2,c3,c4,c5,rfl⟩:=(hPv _ _ _).mp h'
   rw[List.getElem?_map]at hx
   cases hu:us[m]? with
   |none=>rw[hu]at hx;cases hx
   |some u=>
    rw[hu]at hx
    cases hx
    have hm:m<tables.length:=by rw[<-h5];exact (List.getElem?_eq_some_iff.mp hu).1
    have htm:tables[m]?=some tables[m]:=by simp
    obtain⟨xs,t1,t2⟩:=h6 m u _ hu htm
    have htt:=wf.tt _ (List.getElem_mem hm)
    have htr:=sm _ (List.getElem_mem hm)
    generalize tables[m]=tb at htm t2 htt htr
    walk_at "rd"
    refine⟨by omega,fun pr hpr=>?_⟩
    have sr:=Same.new hpr (o:=.lst [])
    have ur:upd H' pr (.lst []) pr=some (.lst []):=Ac
    have hprN:H pr=none:=s1.gone' hpr
    have hpp:pr≠pt:=fun z=>by rw[z,c1]at hpr;cases hpr
    generalize upd H' pr (.lst [])=H1 at sr ur ⊢
    have s11:=s1.trans sr
    refine⟨⟨_,s11.seqT t1⟩,?_⟩
    obtain⟨Pw,hPw⟩:∃Pw:Nat->St->Hp->Prop,∀r σ' H2,Pw r σ' H2↔(∃(ys:List V) (rows:List (List Int)) (o8:Option V),Same H H2/\H2 pt=some (.lst (vs.map V.ref))/\TabL K H2 vs done/\H2 pr=some (.lst ys)/\A2 K H2 ys rows/\rows.length=r/\(∀q∈rows,q.length=n/\∀x∈q,0<=x/\x<p)/\rows=(tb.take r).map (conR p i j tm)/\σ'=[some (.ref h),some (.int i),some (.int j),some (.int tm),some (.int p),some (.ref pt),some (.ref u),some (.ref pr),o8,none,none]):=⟨_,fun _ _ _=>Iff.rfl⟩
    refine forT (xs:=xs) Pw ((hPw _ _ _).mpr ⟨[],[],_,s11,sr _ _ c1,c2.mono fun t ys z=>sr.seqT z,ur,⟨rfl,fun i r hi=>by simp at hi⟩,rfl,by simp,rfl,rfl⟩) (fun r σ' H2 _ h2'=>by obtain⟨_,_,_,s',_⟩:=(hPw _ _ _).mp h2';exact s'.seqT t1) (fun r x σ' H2 hx h2'=>?_) (fun σ' H2 h2'=>?_)
    ·obtain⟨ys,rows,o,d1,d2,d3,d4,d5,d6,d7,d8,rfl⟩:=(hPw _ _ _).mp h2'
     have hr:r<tb.length:=by rw[<-t2.1];exact (List.getElem?_eq_some_iff.mp hx).1
     obtain⟨tr,e1,e2⟩:=t2.2 r tb[r] (by simp)
     rw[hx]at e1
     cases e1
     have hrl:=htt.2 _ (List.getElem_mem hr)
     have hrr:=htr _ (List.getElem_mem hr)
     have htk:tb.take (r+1)=tb.take r++[tb[r]]:=by rw[List.take_add_one,List.getElem?_eq_getElem hr];rfl
     generalize tb[r]=row at e2 hrl hrr htk
     walk_at "rd"
     refine⟨.inl ⟨rfl,_,SqL.of d4⟩,p,tm,tr,i,j,n,row,rfl,p2,p18,tm0,tm1,d1.seqT e2,hrl,hn16,hrr,hi,hj,fun q row' H3 s3 q1 q2 q3 q4=>?_⟩
     have p3:=s3 _ _ d4
     have hyl:=d5.1
     refine⟨ys,p3,by omega,(hPw _ _ _).mpr ⟨_,rows++[row'],_,(d1.trans s3).over hprN,?_,(d3.mono fun t ys z=>s3.seqT z).mono fun t ys z=>Ay p3 z,Ac,A2.snoc ((d5.mono2 fun t ys z=>s3.seqT z).mono2 fun t ys z=>Ay p3 z) (Ay p3 q1),by simp[d6],fun v hv=>?_,by rw[d8,q4,htk,List.map_append];rfl,rfl⟩⟩
     ·rw[Aw (Ne.symm hpp)];exact s3 _ _ d2
     ·rcases List.mem_append.mp hv with hv|hv
      ·exact d7 v hv
      ·rw[List.mem_singleton.mp hv];exact⟨q2,q3⟩
    ·obtain⟨ys,rows,o,d1,d2,d3,d4,d5,d6,d7,d8,rfl⟩:=(hPw _ _ _).mp h2'
     rw[t2.1,htt.1]at d6
     have hyl:=d5.1
     obtain⟨rwi,hwi⟩:∃r,rows[i]?=some r:=⟨rows[i],by simp⟩
     obtain⟨rwj,hwj⟩:∃r,rows[j]?=some r:=⟨rows[j],by simp⟩
     obtain⟨ti,e1,e2⟩:=d5.2 i rwi hwi
     obtain⟨tj,f1,f2⟩:=d5.2 j rwj hwj
     have hri:=d7 _ (List.mem_of_getElem? hwi)
     have hrj:=d7 _ (List.mem_of_getElem? hwj)
     walk_at "rd"
     refine⟨_,SqL.of d4,V.ref ti,Bc e1,_,SqL.of d4,V.ref tj,Bc f1,p,tm,ti,tj,n,rwi,rwj,rfl,p2,p18,tm0,tm1,e2,hri.1,f2,hrj.1,hn16,hrj.2,fun q row' H3 s3 q1 q2 q3 q4=>?_⟩
     have p3:=s3 _ _ d4
     refine⟨ys,p3,i,Zl (by omega),?_⟩
     have rowsN:A2 K (upd H3 pr (.lst (ys.set i (.ref q)))) (ys.set i (.ref q)) (rows.set i row'):=by
      refine⟨by rw[List.length_set,List.length_set,hyl],fun b r hb=>?_⟩
      rw[List.getElem?_set]at hb ⊢
      by_cases hbi:i=b
      ·subst hbi
       rw[if_pos rfl,if_pos (by omega)]at hb ⊢
       cases hb
       exact⟨q,rfl,Ay p3 q1⟩
      ·rw[if_neg hbi]at hb ⊢
       obtain⟨t,a1,a2⟩:=d5.2 b r hb
       exact⟨t,a1,Ay p3 (s3.seqT a2)⟩
     have sw:=(d1.trans s3).over hprN (o:=.lst (ys.set i (.ref q)))
     have w1:upd H3 pr (.lst (ys.set i (.ref q))) pt=some (.lst (vs.map V.ref)):=by rw[Aw (Ne.symm hpp)];exact s3 _ _ d2
     have w2:TabL K (upd H3 pr (.lst (ys.set i (.ref q)))) vs done:=(d3.mono fun t ys z=>s3.seqT z).mono fun t ys z=>Ay p3 z
     have w3:upd H3 pr (.lst (ys.set i (.ref q))) pr=some (.lst (ys.set i (.ref q))):=Ac
     generalize upd H3 pr (.lst (ys.set i (.ref q)))=H4 at rowsN sw w1 w2 w3 ⊢
     have hvl:=c2.1
     refine⟨.inl ⟨rfl,_,SqL.of w1⟩,_,.inl ⟨SqL.of w3,fun t ht=>?_⟩⟩
     have st:=Same.new ht (o:=.tup (ys.set i (.ref q)))
     refine⟨_,st _ _ w1,by rw[List.length_map];have:=h5;have:=wf.t;omega,(hPv _ _ _).mpr ⟨vs++[t],done++[rows.set i row'],_,_,_,(sw.trans st).over hpt,by rw[Ac];simp,?_,by simp[c3],fun v hv=>?_,?_,rfl⟩⟩
     ·exact TabL.snoc ((w2.mono fun t ys z=>st.seqT z).mono fun t ys z=>Ay (st _ _ w1) z) (Ay (st _ _ w1) (SqT.of Ac)) ((rowsN.mono2 fun t ys z=>st.seqT z).mono2 fun t ys z=>Ay (st _ _ w1) z)
     ·rcases List.mem_append.mp hv with hv|hv
      ·exact c4 v hv
      ·rw[List.mem_singleton.mp hv]
       refine⟨by rw[List.length_set,d6],fun r hr=>?_⟩
       rcases List.mem_or_eq_of_mem_set hr with hr|hr
       ·exact d7 r hr
       ·rw[hr];exact⟨q2,q3⟩
     ·rw[c5,List.take_add_one,htm,List.map_append]
      congr 1
      show [rows.set i row']=[Mj p n i j tm tb]
      congr 1
      rw[t2.1,List.take_length]at d8
      unfold Mj
      rw[<-d8,q4]
      congr 2
      ·rw[List.getD_eq_getElem?_getD,hwi];rfl
      ·rw[List.getD_eq_getElem?_getD,hwj];rfl
  ·obtain⟨vs,done,o6,o7,o8,s1,c1,c2,c3,c4,c5,rfl⟩:=(hPv _ _ _).mp h'
   rw[List.length_map,h5]at c3
   walk_at "rd"
   refine⟨_,s1.seqT h1,V.ref tl,rfl,p,-tm,tl,j,i,n,last,rfl,p2,p18,by omega,by omega,s1.seqT h3,wf.l.1,hn16,wf.l.2,hj,hi,fun ql last' H2 s2 q1 q2 q3 q4=>?_⟩
   have s12:=s1.trans s2
   refine⟨_,s12.seqT h1,V.ref tf,rfl,p,tm,tf,i,j,n,first,rfl,p2,p18,tm0,tm1,s12.seqT h2,wf.f.1,hn16,wf.f.2,hi,hj,fun qf first' H3 s3 g1 g2 g3 g4=>?_⟩
   have s13:=s12.trans s3
   have s23:=s2.trans s3
   refine⟨_,s13.seqT h1,V.int L,rfl,_,.inl ⟨SqL.of (s23 _ _ c1),fun t ht=>⟨by omega,fun z hz=>?_⟩⟩⟩
   have sZ:=(Same.new ht (o:=.tup (vs.map V.ref))).newT hz (o:=.tup [V.int p,V.int L,V.ref qf,V.ref t,V.ref ql])
   refine k z first' last' done _ (s13.trans sZ) ⟨qf,t,ql,SqT.of Ac,sZ.seqT g1,sZ.seqT (s3.seqT q1),vs,SqT.of (Same.new hz _ _ Ac),c2.1,fun b u tb hb hv=>?_⟩ ⟨p2,p18,hn16,⟨g2,g3⟩,⟨q2,q3⟩,by rw[c3];exact wf.t,fun tb htb=>⟨(c4 tb htb).1,fun r hr=>((c4 tb htb).2 r hr).1⟩⟩ (fun tb htb r hr=>((c4 tb htb).2 r hr).2) ?_
   ·obtain⟨xs,a1,a2⟩:=c2.2 b u tb hb hv
    exact⟨xs,sZ.seqT (s23.seqT a1),(a2.mono2 fun t ys z=>s23.seqT z).mono2 fun t ys z=>sZ.seqT z⟩
   ·have hne:i≠j:=fun e=>hij (by rw[e])
    intro v hv
    have:=WV (h:=⟨n,first,tables,last⟩) wf hne hi hj tm hv
    rw[<-this]
    have eD:done=tables.map (Mj p n i j tm):=by rw[c5,List.length_map,h5,List.take_length]
    rw[g4,q4,eD];rfl
def GrT (e:Prop)(n:Nat)(tb tb':List (List Int)):Prop:=(e/\∃bs,tb'=Aq_ tb bs)\/(¬ e/\∃bs b,tb'=Zj n tb bs b)
theorem Ec_:∀n:Nat,(List.replicate n [V.int 0]).flatten=(List.replicate n (0:Int)).map V.int
 |0=>rfl
 |n+1=>by rw[List.replicate_succ,List.flatten_cons,Ec_ n,List.replicate_succ];rfl
def Po (K:PySem.W.Frag):Sp:=fun vs H Q _=>∃(h a:Addr) (p:Int) (at_ L n:Nat) (ns first last:List Int) (tables:List (List (List Int))),vs=[.ref h,.ref a,.int at_]/\SqL K H a (ns.map V.int)/\SumH K H h p L first tables last/\WfSum p L n first tables last/\Sm p tables/\1<=L/\L<=6/\n<=4/\at_<=1000/\∀(g:Addr) (first' last':List Int) (tables':List (List (List Int))) (H':Hp),Same H H'->SumH K H' g p L first' tables' last'->WfSum p L (n+1) first' tables' last'->Sm p tables'->(∀v,isW L v=true->(⟨n+1,first',tables',last'⟩:Hs).W p v=(⟨n,first,tables,last⟩:Hs).W p v)->Q (.ref g) H'
theorem QK {f:Addr}{fd:FuncData}(F:Fun K "_law_grown" "_law_grown" CV f fd)(T:Txt mg)
  (Z:Exs K mg C_AskError C_BadWord C_NoInverse)
  {AF:Addr} {AL:FuncData} (AZ:FnOk P w K mg base CX0 1 AF AL ["script","k"] (Nr K)) (AM:Fun K "_law_cell" "_law_cell" B1 AF AL) (A0:Binds K AL ["script","k"] []) (A1:mg "_law_cell"=some (.ref AF))
  {AG:Addr} {AS:FuncData} (Bu:FnOk P w K mg base CX0 2 AG AS ["script","k","p"] (G4 K)) (A8:Fun K "_law_number" "_law_number" Br AG AS) (Bv:Binds K AS ["script","k","p"] []) (Bw:mg "_law_number"=some (.ref AG))
  {Cc:Addr} {DG:FuncData} (DU:FnOk P w K mg base CX0 3 Cc DG ["script","at","many","p"] (QD K)) (CD:Fun K "_law_row" "_law_row" DQ Cc DG) (DV:Binds K DG ["script","at","many","p"] []) (DW:mg "_law_row"=some (.ref Cc))
  : FnOk P w K mg base CX0 4 f fd ["house","script","at"] (Po K):=by
 refine F.ok Bk (fun vs H Q E h=>?_) (fun cdv A outer s H vs Q E hr h=>?_)
 ·obtain⟨h,a,p,at_,L,n,ns,first,last,tables,rfl,_⟩:=h;rfl
 ·obtain⟨h,a,p,at_,L,n,ns,first,last,tables,rfl,hs,hh,wf,sm,hL1,hL6,hn4,hat,k⟩:=h
  have hl:=An
  have p2:=wf.p2
  have p18:=wf.p18
  obtain⟨tf,tt,tl,h1,h2,h3,us,h4,h5,h6⟩:=id hh
  refine⟨_,(Ad (Aj (i:=3) Bk.nd rfl (Or.inl rfl) (Ar Al (pv 0) Af (fun _ _=>rfl)))
   (Ad (Aj (i:=4) Bk.nd rfl (Or.inl rfl) (Ak Ai (by rfl) T.len PySem.boot_len (Aa (Ar Al (pv 0) Af (fun _ _=>rfl)) Ab)))
   (Ad (Aj (i:=5) Bk.nd rfl (Or.inl rfl) (MN UH (Aq Cg (Ah AZ (hr.mono (by decide)) rfl A1 AM.kp A0 .nil AD (Aa (pv 1) (Aa (pv 2) Ab))) Af) Af (A3 _)))
   (Ad (Aj (i:=6) Bk.nd rfl (Or.inl rfl) (Fm Ab))
   (Ad (B7 PassesOwn.never rfl (AQ rfl T.range (Aa (Ar Al (pv 0) Af (fun _ _=>rfl)) Ab)) (Am (i:=7) Bk.nd rfl (Or.inr rfl))
   (Ad (Aj (i:=8) Bk.nd rfl (Or.inr rfl) (Ah DU (hr.mono (by decide)) rfl DW CD.kp DV .nil AD (Aa (pv 1) (Aa (Aq Cv (Aq Cv (pv 2) Af) (Aq Ds (pv 7) (Aq Cv (pv 4) Af))) (Aa (Aq Cv (pv 4) Af) (Aa (pv 3) Ab))))))
   (Yp (Dt (DL (pv 5))
   (Ag (Aj (i:=9) Bk.nd rfl (Or.inl rfl) (Aq AP_ (CG rfl (Du rfl) (cp:=Jh) True.intro (Hu (Ar Al (Ar Al (pv 0) Af (fun _ _=>rfl)) (pv 7) (fun _ _=>rfl))) (fun _ _ _ _=>(Am (i:=0) Lk rfl (Or.inl rfl))) (fun _ _ _ _=>CH) (fun _ _ _ _=>(Aq (MY (K:=K) rfl) (pv 0) (Bz (Aa Af Ab))))) (Fm (Aa (pv 8) Ab)))))
   (Ad (UL (i:=9) Bk.nd rfl rfl rfl (Du rfl) (cp:=Ji) ⟨⟨rfl,rfl⟩,⟨⟨rfl,rfl⟩,⟨⟨rfl,rfl⟩,True.intro⟩⟩⟩ (AQ rfl T.range (Aa (pv 4) Ab)) (fun _ _ _ _=>(Am (i:=0) Ll rfl (Or.inl rfl))) (fun _ _ _ _=>CH) (fun _ _ _ _=>(Aq (MY (K:=K) rfl) (Ar (Ep (K:=K) rfl) (Ar (Ep (K:=K) rfl) (Ar (Ep (K:=K) rfl) (pv 3) Af (fun _ _=>rfl)) (pv 1) (fun _ _=>rfl)) (pv 0) (fun _ _=>rfl)) (Bz (Aa (Ar (Ep (K:=K) rfl) (pv 2) (pv 0) (fun _ _=>rfl)) Ab)))))
   (Ag (DB (J4 PySem.F.plainAttrs_list PySem.F.slot_list_append PySem.F.type_list_append B9 (pv 9) (Aa (Aq Dp (Aq P8 (Bz (Aa Af Ab)) (pv 4)) (Bz (Aa (Ar Al (pv 8) (pv 4) (fun _ _=>rfl)) Ab))) Ab))))))
   (Ag (DB (J4 PySem.F.plainAttrs_list PySem.F.slot_list_append PySem.F.type_list_append B9 (pv 6) (Aa (Ax Av rfl T.tuple PyProof.Rows.boot_tuple (Aa (pv 9) Ab)) Ab)))))))
   (Ad (Aj (i:=10) Bk.nd rfl (Or.inl rfl) (Ah Bu (hr.mono (by decide)) rfl Bw A8.kp Bv .nil AD (Aa (pv 1) (Aa (Aq Cv (pv 2) Af) (Aa (pv 3) Ab)))))
   (Ad (Dt (DL (pv 5))
   (Ag (Ap (Bz (Aa (pv 3) (Aa (Ar Al (pv 0) Af (fun _ _=>rfl)) (Aa (Aq Dp (Ar Al (pv 0) Af (fun _ _=>rfl)) (Bz (Aa Af Ab))) (Aa (Ax Av rfl T.tuple PyProof.Rows.boot_tuple (Aa (pv 6) Ab)) (Aa (Aq Dp (Ar Al (pv 0) Af (fun _ _=>rfl)) (Bz (Aa (pv 10) Ab))) Ab))))))))
   AY)
   (Ag (Ap (Bz (Aa (pv 3) (Aa (Ar Al (pv 0) Af (fun _ _=>rfl)) (Aa (Aq Dp (Ar Al (pv 0) Af (fun _ _=>rfl)) (Bz (Aa (pv 10) Ab))) (Aa (Ax Av rfl T.tuple PyProof.Rows.boot_tuple (Aa (pv 6) Ab)) (Aa (Aq Dp (Ar Al (pv 0) Af (fun _ _=>rfl)) (Bz (Aa Af Ab))) Ab))))))))))))))),?_⟩
  walk_at "rd"
  refine⟨_,h1,V.int p,rfl,_,h1,V.ref tf,rfl,tf,rfl,_,.inr h2,a,ns,at_,rfl,hs,_,rfl,by decide,by omega,fun pt hpt=>?_⟩
  rw[List.length_map,wf.f.1]
  obtain⟨aw,haw⟩:∃b:Bool,b=decide (cell ns at_%2=0):=⟨_,rfl⟩
  have s0:=Same.new hpt (o:=.lst [])
  have u0:upd H pt (.lst []) pt=some (.lst []):=Ac
  generalize upd H pt (.lst [])=H0 at s0 u0 ⊢
  refine⟨_,s0.seqT h1,V.int L,rfl,(L:Int),rfl,by omega,by omega,?_⟩
  obtain⟨bv,hbv⟩:∃v:V,v=V.bl (decide (cell ns at_%2=0)):=⟨_,rfl⟩
  obtain⟨Pv,hPv⟩:∃Pv:Nat->St->Hp->Prop,∀m σ' H',Pv m σ' H'↔(∃(vs:List Addr) (done:List (List (List Int))) (o7 o8 o9:Option V),Same H H'/\H' pt=some (.lst (vs.map V.ref))/\TabL K H' vs done/\done.length=m/\(∀tb∈done,Shp p (n+1) tb)/\(∀k:Nat,k<m->GrT (cell ns at_%2=0) n (tables.getD k []) (done.getD k []))/\σ'=[some (.ref h),some (.ref a),some (.int at_),some (.int p),some (.int n),some (.bl (decide (cell ns at_%2=0))),some (.ref pt),o7,o8,o9,none]):=⟨_,fun _ _ _=>Iff.rfl⟩
  refine forR Pv ((hPv _ _ _).mpr ⟨[],[],none,none,none,s0,u0,⟨rfl,fun i u tb hi=>by simp at hi⟩,rfl,by simp,fun k hk=>by omega,rfl⟩) (fun m σ' H' hm h'=>?_) (fun σ' H' h'=>?_)
  ·obtain⟨vs,done,o7,o8,o9,s1,c1,c2,c3,c4,c5,rfl⟩:=(hPv _ _ _).mp h'
   have hm':m<tables.length:=by have:=wf.t;omega
   obtain⟨u,hu⟩:∃u,us[m]?=some u:=⟨us[m]'(by omega),by simp⟩
   obtain⟨tb,htb⟩:∃tb,tables[m]?=some tb:=⟨tables[m],by simp⟩
   obtain⟨xs,t1,t2⟩:=h6 m u tb hu htb
   have htt:=wf.tt _ (List.mem_of_getElem? htb)
   have htr:=sm _ (List.mem_of_getElem? htb)
   rw[Int.zero_add]
   walk_at "rd"
   have hm5:(m:Int)*((n:Int)+1)<=30:=by
    have:m*(n+1)<=6*5:=Nat.mul_le_mul (by omega) (by omega)
    have e:((m*(n+1):Nat):Int)=(m:Int)*((n:Int)+1):=by push_cast;rfl
    omega
   have hm0:0<=(m:Int)*((n:Int)+1):=Int.mul_nonneg (by omega) (by omega)
   refine⟨.inl ⟨by omega,by omega⟩,a,ns,_,p,n+1,by rw[show ((n+1:Nat):Int)=(n:Int)+1 by omega],s1.seq hs,by omega,by omega,by omega,by omega,fun bt beside H1 sb hb1 hb2 hb3=>?_⟩
   have s11:=s1.trans sb
   obtain⟨Rr,hRr⟩:∃Rr:St->Hp->Prop,∀σ' H',Rr σ' H'↔(∃(ptab:Addr) (ys:List V) (tb:List (List Int)) (o7 o8:Option V),Same H H'/\H' pt=some (.lst (vs.map V.ref))/\TabL K H' vs done/\H' ptab=some (.lst ys)/\A2 K H' ys tb/\Shp p (n+1) tb/\ptab≠pt/\GrT (cell ns at_%2=0) n (tables.getD m []) tb/\σ'=[some (.ref h),some (.ref a),some (.int at_),some (.int p),some (.int n),some (.bl (decide (cell ns at_%2=0))),some (.ref pt),o7,o8,some (.ref ptab),none]):=⟨_,fun _ _=>Iff.rfl⟩
   refine⟨Rr,?_,fun σ2 H2 h2'=>?_⟩
   ·walk_at "rd"
    have hTm:tables.getD m []=tb:=by rw[List.getD_eq_getElem?_getD,htb];rfl
    refine ite2 (fun hev=>?_) (fun hev=>?_)
    ·refine⟨_,s11.seqT h1,V.ref tt,rfl,tt,rfl,_,s11.seqT h4,V.ref u,Bc (by rw[List.getElem?_map,hu];rfl),u,rfl,⟨_,s11.seqT t1⟩,?_⟩
     refine Yo (xs:=xs) (fun j ys σ4 H4=>Same H1 H4/\A2 K H4 ys ((tb.take j).map (· ++ [0]))/\∃o,σ4=[o]) ⟨Same.refl _,⟨rfl,fun i r hi=>by simp at hi⟩,none,rfl⟩ (by rw[t2.1];omega) (fun j ys σ4 H4 hj h4'=>⟨h4'.1.seqT (s11.seqT t1),by have:=h4'.2.1.1;rw[List.length_map,List.length_take]at this;omega⟩) (fun j x ys σ4 H4 hx h4'=>?_) (fun ys σ4 H4 h4' D hD=>?_)
     ·obtain⟨s4,hy,o,rfl⟩:=h4'
      have hj:j<tb.length:=by rw[<-t2.1];exact (List.getElem?_eq_some_iff.mp hx).1
      have hgj:tb[j]?=some tb[j]:=by simp
      obtain⟨tr,e1,e2⟩:=t2.2 j _ hgj
      rw[hx]at e1
      cases e1
      have hrl:=htt.2 _ (List.mem_of_getElem? hgj)
      have etk:tb.take (j+1)=tb.take j++[tb[j]]:=by rw[List.take_add_one,hgj];rfl
      generalize tb[j]=row at e2 hrl etk
      walk_at "rd"
      refine⟨by omega,fun z hz=>Dv.of ((Same.new hz).seqT (s4.seqT (s11.seqT e2))) (SqT.of Ac) (by simp;omega) fun q H5 s5 hq=>⟨(s4.newT hz).trans s5,?_,_,rfl⟩⟩
      rw[etk,List.map_append]
      refine A2.snoc (hy.mono2 fun t ys z=>s5.seqT ((Same.new hz).seqT z)) ?_
      show SqT K H5 q ((row++[0]).map V.int)
      rw[List.map_append];exact hq
     ·obtain⟨s4,hy,o,rfl⟩:=h4'
      rw[t2.1,List.take_length]at hy
      have sD:=Same.new hD (o:=.lst ys)
      have hyl:=hy.1
      rw[List.length_map]at hyl
      refine⟨by omega,fun z hz=>⟨D,rfl,ys,Same.new hz _ _ Ac,_,Ac,by simp;omega,fun w hw=>?_⟩⟩
      have sW:=((sD.newT hz (o:=.lst [V.ref bt])).newT hw (o:=.lst (ys++[V.ref bt])))
      have s1w:=s11.trans (s4.trans sW)
      have sbw:=s4.trans sW
      refine (hRr _ _).mpr ⟨w,_,tb.map (· ++ [0])++[beside],_,_,s1w,sbw _ _ (sb _ _ c1),(c2.mono fun t ys z=>sb.seqT z).mono fun t ys z=>sbw.seqT z,Ac,A2.snoc (hy.mono2 fun t ys z=>sW.seqT z) (sbw.seqT hb1),⟨by simp[htt.1],fun r hr=>?_⟩,fun e=>?_,.inl ⟨hev,beside,by rw[hTm];rfl⟩,rfl⟩
      ·rcases List.mem_append.mp hr with hr|hr
       ·obtain⟨v,hv,rfl⟩:=List.mem_map.mp hr
        refine⟨by rw[List.length_append,htt.2 v hv];rfl,fun x hx=>?_⟩
        rcases List.mem_append.mp hx with hx|hx
        ·exact htr v hv x hx
        ·rw[List.mem_singleton.mp hx];omega
       ·rw[List.mem_singleton.mp hr];exact⟨hb2,hb3⟩
      ·have:=(s4.trans (sD.newT hz (o:=.lst [V.ref bt]))) _ _ (sb _ _ c1)
       rw[<-e,hw]at this;cases this
    ·refine⟨by omega,by omega,?_⟩
     rw[show ((n:Int)).toNat=n by omega]
     refine N5 (fun j ys σ4 H4=>Same H1 H4/\(∃rows:List (List Int),A2 K H4 ys rows/\rows.length=j/\(∀r∈rows,r.length=n+1/\∀x∈r,0<=x/\x<p)/\rows=(List.range j).map fun k=>tb.getD k []++[beside.getD k 0])/\∃o,σ4=[o,some (.int m),some (.ref bt),some (.ref h)]) ⟨Same.refl _,⟨[],⟨rfl,fun i r hi=>by simp at hi⟩,rfl,by simp,rfl⟩,none,rfl⟩ (by omega) (fun j ys σ4 H4 hj h4'=>by obtain⟨_,⟨rows,a1,a2,_⟩,_⟩:=h4';have:=a1.1;omega) (fun j ys σ4 H4 hj h4'=>?_) (fun ys σ4 H4 h4' D hD=>?_)
     ·obtain⟨s4,⟨rows,r1,r2,r3,r4⟩,o,rfl⟩:=h4'
      rw[Int.zero_add]
      obtain⟨row,hgj⟩:∃row,tb[j]?=some row:=⟨tb[j]'(by omega),by simp⟩
      obtain⟨tr,e1,e2⟩:=t2.2 j _ hgj
      have hrl:=htt.2 _ (List.mem_of_getElem? hgj)
      have hrr:=htr _ (List.mem_of_getElem? hgj)
      have hgD:tb.getD j []=row:=by rw[List.getD_eq_getElem?_getD,hgj];rfl
      obtain⟨bj,hbj⟩:∃b,beside[j]?=some b:=⟨beside[j]'(by omega),by simp⟩
      have hbr:=hb3 _ (List.mem_of_getElem? hbj)
      have s14:=s11.trans s4
      walk_at "rd"
      refine⟨_,s14.seqT h1,V.ref tt,rfl,tt,rfl,_,s14.seqT h4,V.ref u,Bc (by rw[List.getElem?_map,hu];rfl),u,rfl,_,s14.seqT t1,V.ref tr,Bc e1,_,s4.seqT hb1,V.int bj,Bc (by rw[List.getElem?_map,hbj];rfl),by omega,fun z hz=>Dv.of ((Same.new hz).seqT (s14.seqT e2)) (SqT.of Ac) (by simp;omega) fun q H5 s5 hq=>⟨(s4.newT hz).trans s5,⟨rows++[row++[bj]],A2.snoc (r1.mono2 fun t ys z=>s5.seqT ((Same.new hz).seqT z)) (by rw[List.map_append];exact hq),by simp[r2],fun r hr=>?_,by rw[r4,List.range_succ,List.map_append,List.map_singleton,hgD,List.getD_eq_getElem?_getD (l:=beside),hbj];rfl⟩,_,rfl⟩⟩
      rcases List.mem_append.mp hr with hr|hr
      ·exact r3 r hr
      ·rw[List.mem_singleton.mp hr]
       refine⟨by simp[hrl],fun x hx=>?_⟩
       rcases List.mem_append.mp hx with hx|hx
       ·exact hrr x hx
       ·rw[List.mem_singleton.mp hx];exact hbr
     ·obtain⟨s4,⟨rows,r1,r2,r3,r4⟩,o,rfl⟩:=h4'
      have sD:=Same.new hD (o:=.lst ys)
      have uD:upd H4 D (.lst ys) D=some (.lst ys):=Ac
      have rD:=r1.mono2 fun t ys z=>sD.seqT z
      have s4D:=s4.trans sD
      have hDp:D≠pt:=fun e=>by have:=s4 _ _ (sb _ _ c1);rw[<-e,hD]at this;cases this
      have hDN:H D=none:=(s11.trans s4).gone' hD
      generalize upd H4 D (.lst ys)=H5 at sD uD rD s4D ⊢
      obtain⟨bn,hbn⟩:∃b,beside[n]?=some b:=⟨beside[n]'(by omega),by simp⟩
      have hbr:=hb3 _ (List.mem_of_getElem? hbn)
      have hyl:=rD.1
      refine⟨.inl ⟨rfl,_,SqL.of uD⟩,by omega,fun z hz=>P7.of (SqT.of Ac) (by simp) (by omega) (by omega) (by simp;omega) fun q H6 s6 hq=>?_⟩
      have s56:=(Same.new hz (o:=.tup [V.int 0])).trans s6
      refine⟨_,(s4D.trans s56).seqT hb1,V.int bn,Bc (by rw[List.getElem?_map,hbn];rfl),by omega,fun w hw=>Dv.of ((Same.new hw).seqT hq) (SqT.of Ac) (by simp;omega) fun q2 H7 s7 hq2=>?_⟩
      have s57:=s56.trans ((Same.new hw (o:=.tup [V.int bn])).trans s7)
      have uD7:=s57 _ _ uD
      have s17:=s4D.trans s57
      have erep:(List.replicate ((n:Int)).toNat [V.int 0]).flatten=(List.replicate n (0:Int)).map V.int:=by
       rw[show ((n:Int)).toNat=n by omega];exact Ec_ n
      rw[erep]at hq2
      refine⟨D,rfl,ys,uD7,by omega,(hRr _ _).mpr ⟨D,_,rows++[List.replicate n 0++[bn]],_,_,(s11.trans s17).over hDN,?_,((c2.mono fun t ys z=>sb.seqT z).mono fun t ys z=>s17.seqT z).mono fun t ys z=>Ay uD7 z,Ac,A2.snoc ((rD.mono2 fun t ys z=>s57.seqT z).mono2 fun t ys z=>Ay uD7 z) (Ay uD7 (by rw[List.map_append];exact hq2)),⟨by simp[r2],fun r hr=>?_⟩,hDp,.inr ⟨hev,fun k=>beside.getD k 0,bn,by rw[hTm,r4];rfl⟩,rfl⟩⟩
      ·rw[Aw (Ne.symm hDp)];exact s17 _ _ (sb _ _ c1)
      ·rcases List.mem_append.mp hr with hr|hr
       ·exact r3 r hr
       ·rw[List.mem_singleton.mp hr]
        refine⟨by simp,fun x hx=>?_⟩
        rcases List.mem_append.mp hx with hx|hx
        ·rw[(List.mem_replicate.mp hx).2];omega
        ·rw[List.mem_singleton.mp hx];exact hbr
   ·obtain⟨ptab,ys,tb',o7,o8,d1,d2,d3,d4,d5,d6,d7,d8,rfl⟩:=(hRr _ _).mp h2'
    walk_at "rd"
    refine⟨.inl ⟨rfl,_,SqL.of d2⟩,_,.inl ⟨SqL.of d4,fun t ht=>?_⟩⟩
    have st:=Same.new ht (o:=.tup ys)
    have hvl:=c2.1
    refine⟨_,st _ _ d2,by rw[List.length_map];omega,(hPv _ _ _).mpr ⟨vs++[t],done++[tb'],_,_,_,(d1.trans st).over hpt,by rw[Ac];simp,?_,by simp[c3],fun v hv=>?_,fun k hk=>?_,rfl⟩⟩
    ·exact TabL.snoc ((d3.mono fun t ys z=>st.seqT z).mono fun t ys z=>Ay (st _ _ d2) z) (Ay (st _ _ d2) (SqT.of Ac)) ((d5.mono2 fun t ys z=>st.seqT z).mono2 fun t ys z=>Ay (st _ _ d2) z)
    ·rcases List.mem_append.mp hv with hv|hv
     ·exact c4 v hv
     ·rw[List.mem_singleton.mp hv];exact d6
    ·by_cases hkm:k=m
     ·subst hkm
      rw[List.getD_eq_getElem?_getD (l:=done++[tb']),List.getElem?_append_right (by omega),c3,Nat.sub_self]
      exact d8
     ·have:=c5 k (by omega)
      rw[List.getD_eq_getElem?_getD (l:=done++[tb']),List.getElem?_append_left (by omega),<-List.getD_eq_getElem?_getD]
      exact this
  ·obtain⟨vs,done,o7,o8,o9,s1,c1,c2,c3,c4,c5,rfl⟩:=(hPv _ _ _).mp h'
   walk_at "rd"
   rw[show ((L:Int)).toNat=L by omega]at c3 c5
   refine⟨a,ns,(at_:Int)+7,p,rfl,s1.seq hs,by omega,by omega,by omega,fun x x0 x1=>?_⟩
   have fin:∀(f0 l0:Int),0<=f0->f0<p->0<=l0->l0<p->(∀v,isW L v=true->(⟨n+1,first++[f0],done,last++[l0]⟩:Hs).W p v=(⟨n,first,tables,last⟩:Hs).W p v)->∃x_1,SqT K H' h x_1/\∃x_2,atI x_1 1=some x_2/\∃x_3,SqT K H' h x_3/\∃x_4,atI x_3 2=some x_4/\1<=sizeLine/\∀(p_1:Addr),H' p_1=none->Dv K x_4 (V.ref p_1) (upd H' p_1 (HO.tup [V.int f0])) fun x_5 H1=>∃x_6,(SqL K H1 pt x_6/\∀(l:Addr),H1 l=none->∃x_7,SqT K (upd H1 l (HO.tup x_6)) h x_7/\∃x_8,atI x_7 4=some x_8/\1<=sizeLine/\∀(p_2:Addr),upd H1 l (HO.tup x_6) p_2=none->Dv K x_8 (V.ref p_2) (upd (upd H1 l (HO.tup x_6)) p_2 (HO.tup [V.int l0])) fun x H1=>5<=sizeLine/\∀(p_3:Addr),H1 p_3=none->Q (V.ref p_3) (upd H1 p_3 (HO.tup [V.int p,x_2,x_5,V.ref l,x])))\/False:=fun f0 l0 f1 f2 l1 l2 hWW=>by
    have hfl:=wf.f.1
    have hll:=wf.l.1
    refine⟨_,s1.seqT h1,V.int L,rfl,_,s1.seqT h1,V.ref tf,rfl,by omega,fun z hz=>Dv.of ((Same.new hz).seqT (s1.seqT h2)) (SqT.of Ac) (by simp;omega) fun qf H2 s2 hqf=>?_⟩
    have s12:=s1.trans ((Same.new hz (o:=.tup [V.int f0])).trans s2)
    have s02:=(Same.new hz (o:=.tup [V.int f0])).trans s2
    refine⟨_,.inl ⟨SqL.of (s02 _ _ c1),fun t ht=>⟨_,(s12.newT ht).seqT h1,V.ref tl,rfl,by omega,fun z2 hz2=>Dv.of ((Same.new hz2).seqT ((s12.newT ht).seqT h3)) (SqT.of Ac) (by simp;omega) fun ql H3 s3 hql=>⟨by omega,fun g hg=>?_⟩⟩⟩⟩
    have s23:=((Same.new ht (o:=.tup (vs.map V.ref))).newT hz2 (o:=.tup [V.int l0])).trans s3
    have sg:=Same.new hg (o:=.tup [V.int p,V.int L,V.ref qf,V.ref t,V.ref ql])
    have s2g:=s23.trans sg
    have ht3:=sg _ _ (s3 _ _ (Same.new hz2 (o:=.tup [V.int l0]) _ _ (Ac (H:=H2) (a:=t) (o:=.tup (vs.map V.ref)))))
    refine k g (first++[f0]) (last++[l0]) done _ ((s12.trans s23).trans sg) ⟨qf,t,ql,SqT.of Ac,by rw[List.map_append];exact s2g.seqT hqf,by rw[List.map_append];exact sg.seqT hql,vs,SqT.of ht3,c2.1,fun b u tb hb hv=>?_⟩ ⟨p2,p18,by omega,⟨by rw[List.length_append,hfl];rfl,fun x hx=>?_⟩,⟨by rw[List.length_append,hll];rfl,fun x hx=>?_⟩,by rw[c3],fun tb htb=>⟨(c4 tb htb).1,fun r hr=>((c4 tb htb).2 r hr).1⟩⟩ (fun tb htb r hr=>((c4 tb htb).2 r hr).2) hWW
    ·obtain⟨xs,a1,a2⟩:=c2.2 b u tb hb hv
     exact⟨xs,s2g.seqT (s02.seqT a1),(a2.mono2 fun t ys z=>s02.seqT z).mono2 fun t ys z=>s2g.seqT z⟩
    ·rcases List.mem_append.mp hx with hx|hx
     ·exact wf.f.2 x hx
     ·rw[List.mem_singleton.mp hx];exact⟨f1,f2⟩
    ·rcases List.mem_append.mp hx with hx|hx
     ·exact wf.l.2 x hx
     ·rw[List.mem_singleton.mp hx];exact⟨l1,l2⟩
   refine ite2 (fun hev=>fin 0 x (by omega) (by omega) x0 x1 fun v hv=>?_) (fun hev=>fin x 0 x0 x1 (by omega) (by omega) fun v hv=>?_)
   ·refine Vc (h:=⟨n,first,tables,last⟩) wf (fun y hy=>?_) x hv
    rcases c5 y hy with ⟨_,z⟩|⟨z,_⟩
    ·exact z
    ·exact absurd hev z
   ·refine Vd (h:=⟨n,first,tables,last⟩) wf (fun y hy=>?_) x hv
    rcases c5 y hy with ⟨z,_⟩|⟨_,z⟩
    ·exact absurd z hev
    ·exact z
def L4 (K:PySem.W.Frag):Sp:=fun vs H Q _=>∃(h a:Addr) (p:Int) (at_ L n:Nat) (ns first last:List Int) (tables:List (List (List Int))),vs=[.ref h,.ref a,.int at_]/\SqL K H a (ns.map V.int)/\SumH K H h p L first tables last/\WfSum p L n first tables last/\Sm p tables/\1<=L/\L<=6/\n<=4/\at_<=1000/\∀(g:Addr) (first' last':List Int) (tables':List (List (List Int))) (H':Hp),Same H H'->SumH K H' g p L first' tables' last'->WfSum p L (n+1) first' tables' last'->Sm p tables'->(∀v,isW L v=true->(⟨n+1,first',tables',last'⟩:Hs).W p v=(⟨n,first,tables,last⟩:Hs).W p v)->Q (.ref g) H'
theorem NB {f:Addr}{fd:FuncData}(F:Fun K "_law_another" "_law_another" B2 f fd)(T:Txt mg)
  (Z:Exs K mg C_AskError C_BadWord C_NoInverse)
  {AF:Addr} {AL:FuncData} (AZ:FnOk P w K mg base CX0 1 AF AL ["script","k"] (Nr K)) (AM:Fun K "_law_cell" "_law_cell" B1 AF AL) (A0:Binds K AL ["script","k"] []) (A1:mg "_law_cell"=some (.ref AF))
  {AG:Addr} {AS:FuncData} (Bu:FnOk P w K mg base CX0 2 AG AS ["script","k","p"] (G4 K)) (A8:Fun K "_law_number" "_law_number" Br AG AS) (Bv:Binds K AS ["script","k","p"] []) (Bw:mg "_law_number"=some (.ref AG))
  {Df:Addr} {Hd:FuncData} (Iy:FnOk P w K mg base CX0 4 Df Hd ["house","script","at"] (Po K)) (Fb:Fun K "_law_grown" "_law_grown" CV Df Hd) (Iz:Binds K Hd ["house","script","at"] []) (IA:mg "_law_grown"=some (.ref Df))
  {Cr:Addr} {Gm:FuncData} (He:FnOk P w K mg base CX0 2 Cr Gm ["house","i","j","times"] (NA K)) (Ef:Fun K "_law_turned" "_law_turned" Cp Cr Gm) (Hf:Binds K Gm ["house","i","j","times"] []) (Hg:mg "_law_turned"=some (.ref Cr))
  : FnOk P w K mg base CX0 5 f fd ["house","script","at"] (L4 K):=by
 refine F.ok BC (fun vs H Q E h=>?_) (fun cdv A outer s H vs Q E hr h=>?_)
 ·obtain⟨h,a,p,at_,L,n,ns,first,last,tables,rfl,_⟩:=h;rfl
 ·obtain⟨h,a,p,at_,L,n,ns,first,last,tables,rfl,hs,hh,wf,sm,hL1,hL6,hn4,hat,k⟩:=h
  have hl:=An
  have p2:=wf.p2
  refine⟨_,(Ad (Aj (i:=0) BC.nd rfl (Or.inl rfl) (Ah Iy (hr.mono (by decide)) rfl IA Fb.kp Iz .nil AD (Aa (pv 0) (Aa (pv 1) (Aa (pv 2) Ab)))))
   (Ad (Aj (i:=3) BC.nd rfl (Or.inl rfl) (Ak Ai (by rfl) T.len PySem.boot_len (Aa (Ar Al (pv 0) Af (fun _ _=>rfl)) Ab)))
   (Ad (B7 PassesOwn.never rfl (AQ rfl T.range (Aa Af Ab)) (Am (i:=4) BC.nd rfl (Or.inl rfl))
   (Ad (Aj (i:=5) BC.nd rfl (Or.inl rfl) (Aq Lc (Ah AZ (hr.mono (by decide)) rfl A1 AM.kp A0 .nil AD (Aa (pv 1) (Aa (Aq Cv (pv 2) (pv 4)) Ab))) Af))
   (Ad (Aj (i:=6) BC.nd rfl (Or.inl rfl) (Ah Bu (hr.mono (by decide)) rfl Bw A8.kp Bv .nil AD (Aa (pv 1) (Aa (Aq Cv (Aq Cv (pv 2) (pv 4)) Af) (Aa (Ar Al (pv 0) Af (fun _ _=>rfl)) Ab)))))
   (Ag (Aj (i:=0) BC.nd rfl (Or.inl rfl) (Ah He (hr.mono (by decide)) rfl Hg Ef.kp Hf .nil AD (Aa (pv 0) (Aa (Aq Cg (pv 5) (pv 3)) (Aa (Aq Cg (Aq Lc (pv 5) Af) (pv 3)) (Aa (pv 6) Ab))))))))))
   (Ag (Ap (pv 0)))))),?_⟩
  walk_at "rd"
  refine⟨h,a,p,at_,L,n,ns,first,last,tables,rfl,hs,hh,wf,sm,hL1,hL6,hn4,hat,fun g f1 l1 t1 H1 s1 hg wg smg hWg=>?_⟩
  obtain⟨tf,tt,tl,q1,q2,q3,q4⟩:=id hg
  walk_at "rd"
  refine⟨_,q1,V.ref tf,rfl,tf,rfl,_,.inr q2,?_⟩
  rw[List.length_map,wg.f.1]
  obtain⟨Pv,hPv⟩:∃Pv:Nat->St->Hp->Prop,∀m σ' H',Pv m σ' H'↔(∃(g:Addr) (f1 l1:List Int) (t1:List (List (List Int))) (o4 o5 o6:Option V),Same H H'/\SumH K H' g p L f1 t1 l1/\WfSum p L (n+1) f1 t1 l1/\Sm p t1/\(∀v,isW L v=true->(⟨n+1,f1,t1,l1⟩:Hs).W p v=(⟨n,first,tables,last⟩:Hs).W p v)/\σ'=[some (.ref g),some (.ref a),some (.int at_),some (.int ((n+1:Nat):Int)),o4,o5,o6]):=⟨_,fun _ _ _=>Iff.rfl⟩
  refine⟨by decide,by decide,?_⟩
  refine forR Pv ((hPv _ _ _).mpr ⟨g,f1,l1,t1,none,none,none,s1,hg,wg,smg,hWg,rfl⟩) (fun m σ' H' hm h'=>?_) (fun σ' H' h'=>?_)
  ·obtain⟨g,f1,l1,t1,o4,o5,o6,c1,c2,c3,c4,c5,rfl⟩:=(hPv _ _ _).mp h'
   obtain⟨tf,tt,tl,q1,q2,q3,q4⟩:=id c2
   have hm3:m<3:=hm
   rw[Int.zero_add]
   walk_at "rd"
   refine⟨a,ns,at_+m,by rw[show ((at_+m:Nat):Int)=(at_:Int)+m by omega],c1.seq hs,_,rfl,⟨by decide,by decide⟩,_,q1,V.int p,rfl,a,ns,(at_:Int)+m+1,p,rfl,c1.seq hs,by omega,by omega,by omega,fun tm t0 t1'=>?_⟩
   generalize cell ns (at_+m) / 2=cc
   have a0:=Int.emod_nonneg cc (show ((n+1:Nat):Int)≠0 by omega)
   have a1:=Int.emod_lt_of_pos cc (show (0:Int)<((n+1:Nat):Int) by omega)
   have b0:=Int.emod_nonneg (cc / 5) (show ((n+1:Nat):Int)≠0 by omega)
   have b1:=Int.emod_lt_of_pos (cc / 5) (show (0:Int)<((n+1:Nat):Int) by omega)
   obtain⟨i,hi⟩:∃i:Nat,cc%((n+1:Nat):Int)=i:=⟨_,(Int.toNat_of_nonneg a0).symm⟩
   obtain⟨j,hj⟩:∃j:Nat,cc / 5%((n+1:Nat):Int)=j:=⟨_,(Int.toNat_of_nonneg b0).symm⟩
   rw[hi]at a1 ⊢
   rw[hj]at b1 ⊢
   refine⟨by omega,⟨by decide,by decide⟩,by omega,g,p,tm,L,n+1,i,j,f1,l1,t1,rfl,c2,c3,c4,by omega,by omega,hL6,by omega,by omega,by omega,fun g2 f2 l2 t2 H2 s2 d1 d2 d3 d4=>(hPv _ _ _).mpr ⟨g2,f2,l2,t2,_,_,_,c1.trans s2,d1,d2,d3,fun v hv=>(d4 v hv).trans (c5 v hv),rfl⟩⟩
  ·obtain⟨g,f1,l1,t1,o4,o5,o6,c1,c2,c3,c4,c5,rfl⟩:=(hPv _ _ _).mp h'
   walk_at "rd"
   exact k g f1 l1 t1 _ c1 c2 c3 c4 c5
def NC (K:PySem.W.Frag):Sp:=fun vs H Q _=>∃(a:Addr) (L:Int) (ws:List Int),vs=[.ref a,.int L]/\SqT K H a (ws.map V.int)/\isW L ws=true/\Q (.bl true) H
theorem ND {f:Addr}{fd:FuncData}(F:Fun K "_law_is_word" "_law_is_word" B3 f fd)(T:Txt mg)
  (Z:Exs K mg C_AskError C_BadWord C_NoInverse)
  {AN:Addr} {A9:FuncData} (BV:FnOk P w K mg base CX0 1 AN A9 ["found"] (ML)) (Bm:Fun K "_law_whole" "_law_whole" BP AN A9) (BX:Binds K A9 ["found"] []) (BY:mg "_law_whole"=some (.ref AN))
  : FnOk P w K mg base CX0 2 f fd ["found","letters"] (NC K):=by
 refine F.ok HR (fun vs H Q E h=>?_) (fun cdv A outer s H vs Q E hr h=>?_)
 ·obtain⟨a,L,ws,rfl,_⟩:=h;rfl
 ·obtain⟨a,L,ws,rfl,ha,hw,k⟩:=h
  have hl:=An
  refine⟨_,(Ad (Dt (EY (DL (Ak BO rfl T.isinstance PyProof.Rows.boot_isinstance (Aa (pv 0) (Aa (GL (v:=.ty "tuple") rfl T.tuple PyProof.Rows.boot_tuple rfl) Ab)))))
   (Ag (Ap EX))
   AY)
   (Ad (B7 PassesOwn.never rfl (Hu (pv 0)) (Am (i:=2) HR.nd rfl (Or.inl rfl))
   (Ag (Dt (PW.pt (Jo (EY (DL (Ah BV (hr.mono (by decide)) rfl BY Bm.kp BX .nil AD (Aa (pv 2) Ab)))) (Jo (AJ SN (pv 2) Af (A3 _)) (HE (AJ CR_ (pv 2) (pv 1) (A3 _))))))
   (Ag (Ap EX))
   AY)))
   (Ag (Ap EX)))),?_⟩
  walk_at "rd"
  refine⟨_,_,.tup ha,J8,_,F6,?_⟩
  rw[if_neg (by decide)]
  refine⟨⟨_,ha⟩,?_⟩
  obtain⟨Pv,hPv⟩:∃Pv:Nat->St->Hp->Prop,∀m σ' H',Pv m σ' H'↔(H'=H/\∃o,σ'=[some (.ref a),some (.int L),o]):=⟨_,fun _ _ _=>Iff.rfl⟩
  refine forT (xs:=ws.map V.int) Pv ((hPv _ _ _).mpr ⟨rfl,none,rfl⟩) (fun i σ' H' _ h'=>by obtain⟨rfl,_⟩:=(hPv _ _ _).mp h';exact ha) (fun i x σ' H' hx h'=>?_) (fun σ' H' h'=>?_)
  ·obtain⟨rfl,o,rfl⟩:=(hPv _ _ _).mp h'
   obtain⟨g,hg,rfl⟩:=GP hx
   have hb:=AB.mp hw g (List.mem_of_getElem? hg)
   walk_at "rd"
   refine⟨g,rfl,_,rfl,?_⟩
   rw[if_neg (by decide),if_neg (by omega),if_neg (by omega)]
   exact (hPv _ _ _).mpr ⟨rfl,_,rfl⟩
  ·obtain⟨rfl,o,rfl⟩:=(hPv _ _ _).mp h'
   walk_at "rd"
   exact k
def Pp (K:PySem.W.Frag):Sp:=fun vs H Q _=>∃(a b:Addr) (L:Int) (v w:List Int),vs=[.ref a,.ref b]/\0<L/\SqT K H a (v.map V.int)/\SqT K H b (w.map V.int)/\isW L v=true/\isW L w=true/\Q (.bl (decide (place L v<place L w))) H
theorem QL {f:Addr}{fd:FuncData}(F:Fun K "_law_ahead" "_law_ahead" CW f fd)(T:Txt mg)
  (Z:Exs K mg C_AskError C_BadWord C_NoInverse)
  : FnOk P w K mg base CX0 1 f fd ["one","two"] (Pp K):=by
 refine F.ok Qk (fun vs H Q E h=>?_) (fun cdv A outer s H vs Q E hr h=>?_)
 ·obtain⟨a,b,L,v,w,rfl,_⟩:=h;rfl
 ·obtain⟨a,b,L,v,w',rfl,hL,ha,hb,hv,hw,k⟩:=h
  have hl:=An
  have hiff:=YG hL hv hw
  refine⟨_,(Ag (Ap (El_ (MN SN (Ak Ai (by rfl) T.len PySem.boot_len (Aa (pv 0) Ab)) (Ak Ai (by rfl) T.len PySem.boot_len (Aa (pv 1) Ab)) (A3 _)) (XS (AK_ (MN UH (Ak Ai (by rfl) T.len PySem.boot_len (Aa (pv 0) Ab)) (Ak Ai (by rfl) T.len PySem.boot_len (Aa (pv 1) Ab)) (A3 _)) (XS (MN (Db_ (Room.units0 hr)) (pv 0) (pv 1) (A3 _)))))))),?_⟩
  walk_at "rd"
  refine⟨_,.inr ha,_,.inr hb,?_⟩
  rw[List.length_map,List.length_map]
  refine ite2 (fun g=>?_) (fun g=>⟨_,.inr ha,_,.inr hb,?_⟩)
  ·rw[decide_eq_true (hiff.mp (.inl g))]at k
   exact k
  ·rw[List.length_map,List.length_map]
   refine ite2 (fun g2=>⟨v,ha,w',hb,?_⟩) (fun g2=>?_)
   ·have:HT.lexLt v w'=decide (place L v<place L w'):=by
     rw[Bool.eq_iff_iff,decide_eq_true_eq,<-hiff]
     exact⟨fun z=>.inr ⟨g2,z⟩,fun z=>by rcases z with z|z;exact absurd z g;exact z.2⟩
    rw[this];exact k
   ·rw[decide_eq_false (fun z=>by rcases hiff.mpr z with z|z;exact g z;exact g2 z.1)]at k
    exact k
theorem Zm {K:PySem.W.Frag}{H:Hp}{xs ys:List V}{a b:List (List Int)}(h:A2 K H xs a)(g:A2 K H ys b):A2 K H (xs++ys) (a++b):=by
 refine⟨by rw[List.length_append,List.length_append,h.1,g.1],fun i v hi=>?_⟩
 by_cases hl:i<a.length
 ·rw[List.getElem?_append_left hl]at hi
  rw[List.getElem?_append_left (by rw[h.1];exact hl)]
  exact h.2 i v hi
 ·rw[List.getElem?_append_right (by omega)]at hi
  rw[List.getElem?_append_right (by rw[h.1];omega),h.1]
  exact g.2 _ v hi
theorem MM {K:PySem.W.Frag}{H:Hp}{n:Nat}{a b:Addr}{xs ys:List V}(ha:SqT K H a xs)(hb:SqT K H b ys)(hl:xs.length=ys.length)(h:∀(i:Nat) (x y:V),xs[i]?=some x->ys[i]?=some y->EqD K H n x y true):EqD K H (n+1) (.ref a) (.ref b) true:=by
 refine .inr ⟨a,b,_,_,rfl,rfl,.inr ⟨ha,hb⟩,fun _=>true,h,?_⟩
 rw[decide_eq_true hl]
 simp
theorem QM {K:PySem.W.Frag}{H:Hp}{n:Nat}(x:Int):EqD K H n (.int x) (.int x) true:=by
 have:true=eqV (.int x) (.int x):=by show true=(x==x);simp
 cases n with
 |zero=>exact⟨rfl,rfl,this⟩
 |succ n=>exact .inl ⟨rfl,rfl,this⟩
theorem Km {K:PySem.W.Frag}{H:Hp}{n:Nat}{a b:Addr}{xs:List Int}(ha:SqT K H a (xs.map V.int))(hb:SqT K H b (xs.map V.int)):EqD K H (n+1) (.ref a) (.ref b) true:=
 MM ha hb rfl fun i x y hx hy=>by
  obtain⟨g,_,rfl⟩:=GP hx
  rw[hx]at hy
  cases hy
  exact QM g
theorem Gj.eqD {K:PySem.W.Frag}{H:Hp}{a b:Addr}{p:Int}{L:Nat}{hs:Hs}(x:Gj K H a p L hs)(y:Gj K H b p L hs):EqD K H 8 (.ref a) (.ref b) true:=by
 obtain⟨tf,tt,tl,h1,h2,h3,us,h4,h5,h6⟩:=x
 obtain⟨tf',tt',tl',g1,g2,g3,us',g4,g5,g6⟩:=y
 refine MM h1 g1 rfl fun i x y hx hy=>?_
 match i,hx,hy with
 |0,hx,hy=>cases hx;cases hy;exact QM p
 |1,hx,hy=>cases hx;cases hy;exact QM (L:Int)
 |2,hx,hy=>cases hx;cases hy;exact Km h2 g2
 |3,hx,hy=>
  cases hx;cases hy
  refine MM h4 g4 (by rw[List.length_map,List.length_map,h5,g5]) fun j x y hx hy=>?_
  have hj:j<us.length:=by have:=(List.getElem?_eq_some_iff.mp hx).1;rwa [List.length_map]at this
  have ht:j<hs.t.length:=by omega
  have hj':j<us'.length:=by omega
  rw[List.getElem?_map,List.getElem?_eq_getElem hj]at hx
  rw[List.getElem?_map,List.getElem?_eq_getElem hj']at hy
  cases hx;cases hy
  obtain⟨xs,a1,a2⟩:=h6 j _ _ (List.getElem?_eq_getElem hj) (List.getElem?_eq_getElem ht)
  obtain⟨ys,b1,b2⟩:=g6 j _ _ (List.getElem?_eq_getElem hj') (List.getElem?_eq_getElem ht)
  refine MM a1 b1 (by rw[a2.1,b2.1]) fun k x y hx hy=>?_
  have hk:k<hs.t[j].length:=by rw[<-a2.1];exact (List.getElem?_eq_some_iff.mp hx).1
  obtain⟨t,e1,e2⟩:=a2.2 k _ (List.getElem?_eq_getElem hk)
  obtain⟨t',f1,f2⟩:=b2.2 k _ (List.getElem?_eq_getElem hk)
  rw[hx]at e1
  rw[hy]at f1
  cases e1;cases f1
  exact Km e2 f2
 |4,hx,hy=>cases hx;cases hy;exact Km h3 g3
 |j+5,hx,hy=>simp at hx
theorem Ar_ {n i:Nat}(hi:i<n):(List.replicate i (V.int 0)++[V.int 1])++List.replicate (n-i-1) (V.int 0)=(D1 n i).map V.int:=by
 unfold D1
 refine List.ext_getElem (by simp;omega) fun j h1 h2=>?_
 rw[List.getElem_map,List.getElem_map,List.getElem_range]
 rcases Nat.lt_trichotomy j i with h|h|h
 ·rw[List.getElem_append_left (by simp;omega),List.getElem_append_left (by simp;omega),List.getElem_replicate,if_neg (by omega)]
 ·subst h
  rw[List.getElem_append_left (by simp),List.getElem_append_right (by simp),if_pos rfl]
  simp
 ·rw[List.getElem_append_right (by simp;omega),List.getElem_replicate,if_neg (by omega)]
def Pq (K:PySem.W.Frag):Sp:=fun vs H Q _=>∃(n i:Nat),vs=[.int n,.int i]/\i<n/\n<=16/\∀q H',Same H H'->SqT K H' q ((D1 n i).map V.int)->Q (.ref q) H'
theorem Tx {f:Addr}{fd:FuncData}(F:Fun K "_law_unit" "_law_unit" DE f fd)(T:Txt mg)
  (Z:Exs K mg C_AskError C_BadWord C_NoInverse)
  : FnOk P w K mg base CX0 1 f fd ["many","place"] (Pq K):=by
 refine F.ok Te (fun vs H Q E h=>?_) (fun cdv A outer s H vs Q E hr h=>?_)
 ·obtain⟨n,i,rfl,_⟩:=h;rfl
 ·obtain⟨n,i,rfl,hi,hn16,k⟩:=h
  have hl:=An
  refine⟨_,(Ag (Ap (Aq Dp (Aq Dp (Aq P8 (Bz (Aa Af Ab)) (pv 1)) (Bz (Aa Af Ab))) (Aq P8 (Bz (Aa Af Ab)) (Aq LO (Aq LO (pv 0) (pv 1)) Af))))),?_⟩
  walk_at "rd"
  refine⟨by omega,fun p1 hp1=>P7.ofS Ac (by simp) (by omega) (by omega) (by simp;omega) fun x1 H1 t1 hx1=>?_⟩
  rw[List.flatten_replicate_singleton,show ((i:Int)).toNat=i by omega]at hx1
  refine⟨by omega,fun p2 hp2=>Dv.ofS (Same.new hp2 _ _ hx1) Ac (by simp;omega) fun x2 H2 t2 hx2=>?_⟩
  refine⟨by omega,fun p3 hp3=>P7.ofS Ac (by simp) (by omega) (by omega) (by simp;omega) fun y H3 t3 hy=>?_⟩
  rw[List.flatten_replicate_singleton,show ((n:Int)-i-1).toNat=n-i-1 by omega]at hy
  refine Dv.ofS ((Same.new hp3).trans t3 _ _ hx2) hy (by simp;omega) fun x3 H4 t4 hx3=>?_
  rw[Ar_ hi]at hx3
  have sA:=((Same.new hp1).trans t1).trans (((Same.new hp2).trans t2).trans (((Same.new hp3).trans t3).trans t4))
  exact k x3 H4 sA (SqT.of hx3)
theorem Ed_ (xs:List V):cutV xs none (some (-1))=xs.dropLast:=by
 cases h:xs with
 |nil=>rfl
 |cons x l=>
  rw[<-h]
  have hne:xs ≠ []:=by rw[h];simp
  obtain⟨ys,y,e⟩:∃ys y,xs=ys++[y]:=⟨_,_,(List.dropLast_concat_getLast hne).symm⟩
  rw[e,List.dropLast_concat]
  unfold cutV HT.sIx
  simp only[List.length_append,List.length_singleton,List.drop_zero,Nat.sub_zero]
  rw[if_pos (by omega),show ((-1:Int)+((ys.length+1:Nat):Int)).toNat=ys.length by omega]
  exact List.take_left' rfl
theorem BW.head {p L:Int}{d:Nat}{tb:List (List (List Int))}{f:List Int}{F ws:List (List Int)}(b:BW p L d tb f F F.length ws){v:List Int}(hv:ws[0]?=some v):v=[]:=by
 have hF0:0<F.length:=(List.getElem?_eq_some_iff.mp b.f0).1
 by_cases hz:∀i:Nat,i<d->f.getD i 0%p=0
 ·rw[b.nil0 hF0 hz]at hv;cases hv
 ·rw[b.nil1 hF0 hz]at hv;cases hv;rfl
def Pt (K:PySem.W.Frag):Sp:=fun vs H Q _=>∃(lw:Addr) (p:Int) (L d n:Nat) (first:List Int) (tables:List (List (List Int))) (F ws:List (List Int)) (zs:List V),vs=[.ref lw,.int L,.int n]/\1<=L/\n<=16/\H lw=some (.lst zs)/\Fn K H zs ws/\BW p L d tables first F F.length ws/\ws.length<=n/\∀H',Same H H'->Q (.bl true) H'
theorem Kn {f:Addr}{fd:FuncData}(F:Fun K "_law_words_good" "_law_words_good" Be f fd)(T:Txt mg)
  (Z:Exs K mg C_AskError C_BadWord C_NoInverse)
  {B5:Addr} {FX:FuncData} (Gn:FnOk P w K mg base CX0 2 B5 FX ["found","letters"] (NC K)) (Dy:Fun K "_law_is_word" "_law_is_word" B3 B5 FX) (Gp:Binds K FX ["found","letters"] []) (Gq:mg "_law_is_word"=some (.ref B5))
  {Dh:Addr} {Hh:FuncData} (IB:FnOk P w K mg base CX0 1 Dh Hh ["one","two"] (Pp K)) (Fc:Fun K "_law_ahead" "_law_ahead" CW Dh Hh) (IC:Binds K Hh ["one","two"] []) (ID:mg "_law_ahead"=some (.ref Dh))
  : FnOk P w K mg base CX0 3 f fd ["words","letters","most"] (Pt K):=by
 refine F.ok F9 (fun vs H Q E h=>?_) (fun cdv A outer s H vs Q E hr h=>?_)
 ·obtain⟨lw,p,L,d,n,first,tables,F,ws,zs,rfl,_⟩:=h;rfl
 ·obtain⟨lw,p,L,d,n,first,tables,F,ws,zs,rfl,hL1,hn16,hlw,hw,bw,hwd,k⟩:=h
  have hl:=An
  refine⟨_,(Ad (Dt (PW.pt (Jo (EY (DL (Ak BO rfl T.isinstance PyProof.Rows.boot_isinstance (Aa (pv 0) (Aa (GL (v:=.ty "list") rfl T.list PyProof.Rows.boot_list rfl) Ab))))) (HE (AJ ZD (Ak Ai (by rfl) T.len PySem.boot_len (Aa (pv 0) Ab)) (pv 2) (A3 _)))))
   (Ag (Ap EX))
   AY)
   (Ad (B7 PassesOwn.never rfl (AQ rfl T.range (Aa (Ak Ai (by rfl) T.len PySem.boot_len (Aa (pv 0) Ab)) Ab)) (Am (i:=3) F9.nd rfl (Or.inl rfl))
   (Ad (Dt (EY (DL (Ah Gn (hr.mono (by decide)) rfl Gq Dy.kp Gp .nil AD (Aa (Ar CF (pv 0) (pv 3) (fun _ _=>rfl)) (Aa (pv 1) Ab)))))
   (Ag (Ap EX))
   AY)
   (Ad (Dt (PW.pt (XR (AJ UH (pv 3) Af (A3 _)) (UG (AJ (S6 8 (hu9 hr)) (Ar CF (pv 0) (pv 3) (fun _ _=>rfl)) (Bz Ab) (A3 _)))))
   (Ag (Ap EX))
   AY)
   (Ad (Dt (PW.pt (XR (AJ ZD (pv 3) Af (A3 _)) (UG (EY (DL (Ah IB (hr.mono (by decide)) rfl ID Fc.kp IC .nil AD (Aa (Ar CF (pv 0) (Aq LO (pv 3) Af) (fun _ _=>rfl)) (Aa (Ar CF (pv 0) (pv 3) (fun _ _=>rfl)) Ab))))))))
   (Ag (Ap EX))
   AY)
   (Ag (Dt (PW.pt (XR (AJ ZD (pv 3) Af (A3 _)) (UG (AJ (YK (hu9 hr)) (GN Jt (Ar CF (pv 0) (pv 3) (fun _ _=>rfl)) Jp (Jq (Wt O2 Af))) (pv 0) rfl))))
   (Ag (Ap EX))
   AY))))))
   (Ag (Ap EX)))),?_⟩
  walk_at "rd"
  refine⟨_,_,.lst (SqL.of hlw),J8,_,F6,?_⟩
  rw[if_neg (by decide)]
  have hzl:=hw.1
  refine⟨_,.inl (SqL.of hlw),?_⟩
  rw[if_neg (by omega)]
  refine⟨_,.inl (SqL.of hlw),by omega,by omega,?_⟩
  rw[Int.toNat_natCast,hzl]
  obtain⟨Pv,hPv⟩:∃Pv:Nat->St->Hp->Prop,∀m σ' H',Pv m σ' H'↔(Same H H'/\∃o,σ'=[some (.ref lw),some (.int L),some (.int n),o]):=⟨_,fun _ _ _=>Iff.rfl⟩
  refine forR Pv ((hPv _ _ _).mpr ⟨Same.refl _,none,rfl⟩) (fun m σ' H' hm h'=>?_) (fun σ' H' h'=>?_)
  ·obtain⟨s1,o,rfl⟩:=(hPv _ _ _).mp h'
   rw[Int.zero_add]
   obtain⟨v,hv⟩:∃v,ws[m]?=some v:=⟨ws[m],by simp⟩
   obtain⟨t,e1,e2⟩:=hw.2 m v hv
   have hvm:=List.mem_of_getElem? hv
   have hvv:=bw.wsW hvm
   have hl1:=s1 _ _ hlw
   walk_at "rd"
   refine⟨_,SqL.of hl1,V.ref t,Bc e1,t,L,v,rfl,SqT.of (s1 _ _ e2),hvv,_,rfl,?_⟩
   rw[if_neg (by decide)]
   by_cases hm0:m=0
   ·subst hm0
    rw[if_pos (by rfl)]
    have hv0:=bw.head hv
    subst hv0
    refine⟨_,SqL.of hl1,V.ref t,Bc e1,by omega,fun pz hpz=>⟨t,rfl,true,Km (xs:=[]) (SqT.of (Same.new hpz _ _ (s1 _ _ e2))) (SqT.of Ac),?_⟩⟩
    rw[if_neg (by decide),if_neg (by simp),if_neg (by simp)]
    exact (hPv _ _ _).mpr ⟨s1.newT hpz,_,rfl⟩
   ·rw[if_neg (by omega)]
    have hmp:(0:Int)<m:=by omega
    rw[if_pos hmp]
    obtain⟨u,hu⟩:∃u,ws[m-1]?=some u:=⟨ws[m-1],by simp⟩
    obtain⟨t2,f1,f2⟩:=hw.2 (m-1) u hu
    have huv:=bw.wsW (List.mem_of_getElem? hu)
    have hlt:place L u<place L v:=by
     have h1:=List.getElem?_eq_some_iff.mp hu
     have h2:=List.getElem?_eq_some_iff.mp hv
     have:=List.pairwise_iff_getElem.mp bw.kSort (m-1) m h1.1 h2.1 (by omega)
     rwa [h1.2,h2.2]at this
    refine⟨_,SqL.of hl1,V.ref t2,by rw[show (m:Int)-1=((m-1:Nat):Int) by omega];exact Bc f1,_,SqL.of hl1,V.ref t,Bc e1,t2,t,L,u,v,rfl,by omega,SqT.of (s1 _ _ f2),SqT.of (s1 _ _ e2),huv,hvv,_,rfl,?_⟩
    rw[decide_eq_true hlt,if_neg (by decide),if_pos hmp]
    refine⟨_,SqL.of hl1,V.ref t,Bc e1,t,rfl,_,SqT.of (s1 _ _ e2),fun z H2 s2 hz=>⟨_,SqL.of (s2 _ _ hl1),v.dropLast,ws,hw.mono (TK.of (s1.trans s2)),?_,?_⟩⟩
    ·rw[Ed_,<-List.map_dropLast]at hz;exact hz
    ·have hdl:v.dropLast∈ws:=by
      rcases bw.kPre v hvm with z|z
      ·subst z
       rw[MT]at hlt
       have:=(EZ (L:=(L:Int)) (by omega) huv).1
       have:=DC (L:=(L:Int)) (by omega) u.length
       omega
      ·exact z
     rw[decide_eq_true hdl,if_neg (by decide)]
     exact (hPv _ _ _).mpr ⟨s1.trans s2,_,rfl⟩
  ·obtain⟨s1,o,rfl⟩:=(hPv _ _ _).mp h'
   walk_at "rd"
   exact k _ s1
def Pu (K:PySem.W.Frag):Sp:=fun vs H Q _=>∃(g:Addr) (p:Int) (L:Nat) (hs:Hs),vs=[.ref g,.int p,.int L,.int hs.d]/\Gj K H g p L hs/\hs.ok p L/\Sm p hs.t/\L<=6/\∀H',Same H H'->Q (.bl true) H'
theorem Ko {f:Addr}{fd:FuncData}(F:Fun K "_law_house_good" "_law_house_good" Bf f fd)(T:Txt mg)
  (Z:Exs K mg C_AskError C_BadWord C_NoInverse)
  {AN:Addr} {A9:FuncData} (BV:FnOk P w K mg base CX0 1 AN A9 ["found"] (ML)) (Bm:Fun K "_law_whole" "_law_whole" BP AN A9) (BX:Binds K A9 ["found"] []) (BY:mg "_law_whole"=some (.ref AN))
  {Cs:Addr} {Gr:FuncData} (Hi:FnOk P w K mg base CX0 2 Cs Gr ["found","due"] (Nu K)) (Eg:Fun K "_law_row_is" "_law_row_is" Cn Cs Gr) (Hj:Binds K Gr ["found","due"] []) (Hk:mg "_law_row_is"=some (.ref Cs))
  : FnOk P w K mg base CX0 3 f fd ["found","p","letters","many"] (Pu K):=by
 refine F.ok BQ (fun vs H Q E h=>?_) (fun cdv A outer s H vs Q E hr h=>?_)
 ·obtain⟨g,p,L,hs,rfl,_⟩:=h;rfl
 ·obtain⟨g,p,L,hs,rfl,hg,ok,sm,hL6,k⟩:=h
  have hl:=An
  obtain⟨tf,tt,tl,h1,h2,h3,us,h4,h5,h6⟩:=id hg
  refine⟨_,(Ad (Dt (PW.pt (Jo (EY (DL (Ak BO rfl T.isinstance PyProof.Rows.boot_isinstance (Aa (pv 0) (Aa (GL (v:=.ty "tuple") rfl T.tuple PyProof.Rows.boot_tuple rfl) Ab))))) (Jo (AJ N1 (Ak Ai (by rfl) T.len PySem.boot_len (Aa (pv 0) Ab)) Af (A3 _)) (HE (EY (DL (Ah Hi (hr.mono (by decide)) rfl Hk Eg.kp Hj .nil AD (Aa (GN Jt (pv 0) Jp (Jq Af)) (Aa (Bz (Aa (pv 1) (Aa (pv 2) Ab))) Ab)))))))))
   (Ag (Ap EX))
   AY)
   (Ad (Dt (PW.pt (Jo (EY (DL (Ak BO rfl T.isinstance PyProof.Rows.boot_isinstance (Aa (Ar Al (pv 0) Af (fun _ _=>rfl)) (Aa (GL (v:=.ty "tuple") rfl T.tuple PyProof.Rows.boot_tuple rfl) Ab))))) (HE (AJ N1 (Ak Ai (by rfl) T.len PySem.boot_len (Aa (Ar Al (pv 0) Af (fun _ _=>rfl)) Ab)) (pv 2) (A3 _)))))
   (Ag (Ap EX))
   AY)
   (Ad (Aj (i:=4) BQ.nd rfl (Or.inl rfl) (Fm (Aa (Ar Al (pv 0) Af (fun _ _=>rfl)) (Aa (Ar Al (pv 0) Af (fun _ _=>rfl)) Ab))))
   (Ad (B7 PassesOwn.never rfl (Hu (Ar Al (pv 0) Af (fun _ _=>rfl))) (Am (i:=5) BQ.nd rfl (Or.inl rfl))
   (Ad (Dt (PW.pt (Jo (EY (DL (Ak BO rfl T.isinstance PyProof.Rows.boot_isinstance (Aa (pv 5) (Aa (GL (v:=.ty "tuple") rfl T.tuple PyProof.Rows.boot_tuple rfl) Ab))))) (HE (AJ N1 (Ak Ai (by rfl) T.len PySem.boot_len (Aa (pv 5) Ab)) (pv 3) (A3 _)))))
   (Ag (Ap EX))
   AY)
   (Ag (DB (J4 PySem.F.plainAttrs_list PySem.F.slot_list_extend PySem.F.type_list_extend Ya (pv 4) (Aa (Ax SX rfl T.list PyProof.Rows.boot_list (Aa (pv 5) Ab)) Ab))))))
   (Ad (B7 PassesOwn.never rfl (Lb (pv 4)) (Am (i:=6) BQ.nd rfl (Or.inl rfl))
   (Ad (Dt (PW.pt (Jo (EY (DL (Ak BO rfl T.isinstance PyProof.Rows.boot_isinstance (Aa (pv 6) (Aa (GL (v:=.ty "tuple") rfl T.tuple PyProof.Rows.boot_tuple rfl) Ab))))) (HE (AJ N1 (Ak Ai (by rfl) T.len PySem.boot_len (Aa (pv 6) Ab)) (pv 3) (A3 _)))))
   (Ag (Ap EX))
   AY)
   (Ag (B7 PassesOwn.never rfl (Hu (pv 6)) (Am (i:=7) BQ.nd rfl (Or.inl rfl))
   (Ag (Dt (PW.pt (Jo (EY (DL (Ah BV (hr.mono (by decide)) rfl BY Bm.kp BX .nil AD (Aa (pv 7) Ab)))) (Jo (AJ SN (pv 7) Af (A3 _)) (HE (AJ CR_ (pv 7) (pv 1) (A3 _))))))
   (Ag (Ap EX))
   AY))))))
   (Ag (Ap EX))))))),?_⟩
  walk_at "rd"
  refine⟨_,_,.tup h1,J8,_,F6,?_⟩
  rw[if_neg (by decide)]
  refine⟨_,.inr h1,?_⟩
  rw[if_neg (by simp)]
  refine⟨_,h1,fun p1 H1 s1 hp1=>⟨by omega,fun p2 hp2=>?_⟩⟩
  have e:cutV [V.int p,V.int L,V.ref tf,V.ref tt,V.ref tl] none (some 2)=[p,(L:Int)].map V.int:=Zk _ 2
  rw[e]at hp1
  have s2:=s1.newT hp2 (o:=.tup [V.int p,V.int L])
  refine⟨p1,p2,[p,(L:Int)],rfl,(Same.new hp2).seqT hp1,SqT.of Ac,by simp,_,rfl,?_⟩
  generalize upd H1 p2 (.tup [V.int p,V.int L])=H2 at s2 ⊢
  rw[if_neg (by decide)]
  refine⟨_,s2.seqT h1,V.ref tt,rfl,_,_,.tup (s2.seqT h4),J8,_,F6,?_⟩
  rw[if_neg (by decide)]
  have htl:hs.t.length=L:=by have:=ok.t;omega
  refine⟨_,s2.seqT h1,V.ref tt,rfl,tt,rfl,_,.inr (s2.seqT h4),?_⟩
  rw[if_neg (by rw[List.length_map,h5,htl];simp)]
  refine⟨_,s2.seqT h1,V.ref tf,rfl,_,s2.seqT h1,V.ref tl,rfl,by omega,fun pl hpl=>?_⟩
  have sL:=Same.new hpl (o:=.lst [V.ref tf,V.ref tl])
  have uL:upd H2 pl (.lst [V.ref tf,V.ref tl]) pl=some (.lst [V.ref tf,V.ref tl]):=Ac
  generalize upd H2 pl (.lst [V.ref tf,V.ref tl])=H3 at sL uL ⊢
  have s3:=s2.trans sL
  have hplN:H pl=none:=s2.gone' hpl
  refine⟨_,s3.seqT h1,V.ref tt,rfl,tt,rfl,⟨_,s3.seqT h4⟩,?_⟩
  obtain⟨Pv,hPv⟩:∃Pv:Nat->St->Hp->Prop,∀i σ' H',Pv i σ' H'↔(∃(ys:List V) (rows:List (List Int)) (o5 o6 o7:Option V),Same H H'/\H' pl=some (.lst ys)/\A2 K H' ys rows/\rows.length=2+i*hs.d/\(∀r∈rows,r.length=hs.d/\∀x∈r,0<=x/\x<p)/\σ'=[some (.ref g),some (.int p),some (.int L),some (.int hs.d),some (.ref pl),o5,o6,o7]):=⟨_,fun _ _ _=>Iff.rfl⟩
  have hr0:A2 K H3 [V.ref tf,V.ref tl] [hs.f,hs.l]:=A2.snoc (xs:=[V.ref tf]) (A2.snoc (xs:=[]) A2.nil (s3.seqT h2)) (s3.seqT h3)
  refine forT (xs:=us.map V.ref) Pv ((hPv _ _ _).mpr ⟨_,_,none,none,none,s3,uL,hr0,by simp,fun r hr=>?_,rfl⟩) (fun i σ' H' _ h'=>by obtain⟨_,_,_,_,_,s',_⟩:=(hPv _ _ _).mp h';exact s'.seqT h4) (fun i x σ' H' hx h'=>?_) (fun σ' H' h'=>?_)
  ·rcases List.mem_cons.mp hr with rfl|hr
   ·exact ok.f
   ·rw[List.mem_singleton.mp hr];exact ok.l
  ·obtain⟨ys,rows,o5,o6,o7,c1,c2,c3,c4,c5,rfl⟩:=(hPv _ _ _).mp h'
   have hi:i<us.length:=by have:=(List.getElem?_eq_some_iff.mp hx).1;rwa [List.length_map]at this
   rw[List.getElem?_map,List.getElem?_eq_getElem hi]at hx
   cases hx
   obtain⟨tbl,htb⟩:∃tb,hs.t[i]?=some tb:=⟨hs.t[i]'(by omega),by simp⟩
   obtain⟨xs,a1,a2⟩:=h6 i _ tbl (List.getElem?_eq_getElem hi) htb
   have htt:=ok.tt _ (List.mem_of_getElem? htb)
   have hsm:=sm _ (List.mem_of_getElem? htb)
   generalize us[i]=u at a1
   walk_at "rd"
   refine⟨_,_,.tup (c1.seqT a1),J8,_,F6,?_⟩
   rw[if_neg (by decide)]
   refine⟨_,.inr (c1.seqT a1),?_⟩
   rw[a2.1,htt.1,if_neg (by simp)]
   refine⟨.inl ⟨rfl,_,SqL.of c2⟩,xs,.inr (c1.seqT a1),fun l hlN=>?_⟩
   have sl:=Same.new hlN (o:=.lst xs)
   have ul:upd H' l (.lst xs) l=some (.lst xs):=Ac
   generalize upd H' l (.lst xs)=H4 at sl ul ⊢
   have q5:=sl _ _ c2
   have hb:i*hs.d<=6*16:=Nat.mul_le_mul (by omega) ok.dl
   have hd16:=ok.dl
   have hy1:=c3.1
   have hx1:=a2.1
   refine⟨ys,q5,xs,ul,by omega,(hPv _ _ _).mpr ⟨_,rows++tbl,_,_,_,(c1.trans sl).over hplN,Ac,?_,by rw[List.length_append,c4,htt.1,Nat.succ_mul];omega,fun r hr=>?_,rfl⟩⟩
   ·exact A2.off66 q5 (Zm (c3.mono sl) (a2.mono (c1.trans sl)))
   ·rcases List.mem_append.mp hr with hr|hr
    ·exact c5 r hr
    ·exact⟨htt.2 r hr,hsm r hr⟩
  ·obtain⟨ys,rows,o5,o6,o7,c1,c2,c3,c4,c5,rfl⟩:=(hPv _ _ _).mp h'
   walk_at "rd"
   obtain⟨Pw,hPw⟩:∃Pw:Nat->St->Hp->Prop,∀i σ' H2,Pw i σ' H2↔(H2=H'/\∃o6 o7:Option V,σ'=[some (.ref g),some (.int p),some (.int L),some (.int hs.d),some (.ref pl),o5,o6,o7]):=⟨_,fun _ _ _=>Iff.rfl⟩
   refine⟨⟨_,SqL.of c2⟩,forL (xs:=ys) Pw ((hPw _ _ _).mpr ⟨rfl,_,_,rfl⟩) (fun j σ2 H2 _ h2'=>by obtain⟨rfl,_⟩:=(hPw _ _ _).mp h2';exact SqL.of c2) (fun j x σ2 H2 hx h2'=>?_) (fun σ2 H2 h2'=>?_)⟩
   ·obtain⟨rfl,o6,o7,rfl⟩:=(hPw _ _ _).mp h2'
    have hj:j<rows.length:=by rw[<-c3.1];exact (List.getElem?_eq_some_iff.mp hx).1
    obtain⟨t,e1,e2⟩:=c3.2 j _ (List.getElem?_eq_getElem hj)
    rw[hx]at e1
    cases e1
    obtain⟨q1,q2⟩:=c5 _ (List.getElem_mem hj)
    generalize rows[j]=row at e2 q1 q2
    walk_at "rd"
    refine⟨_,_,.tup e2,J8,_,F6,?_⟩
    rw[if_neg (by decide)]
    refine⟨_,.inr e2,?_⟩
    rw[List.length_map,q1,if_neg (by simp)]
    obtain⟨Px,hPx⟩:∃Px:Nat->St->Hp->Prop,∀i σ' H3,Px i σ' H3↔(H3=H2/\∃o7:Option V,σ'=[some (.ref g),some (.int p),some (.int L),some (.int hs.d),some (.ref pl),o5,some (.ref t),o7]):=⟨_,fun _ _ _=>Iff.rfl⟩
    refine⟨⟨_,e2⟩,forT (xs:=row.map V.int) Px ((hPx _ _ _).mpr ⟨rfl,_,rfl⟩) (fun i σ' H' _ h'=>by obtain⟨rfl,_⟩:=(hPx _ _ _).mp h';exact e2) (fun i x σ' H' hx h'=>?_) (fun σ' H' h'=>?_)⟩
    ·obtain⟨rfl,o,rfl⟩:=(hPx _ _ _).mp h'
     obtain⟨z,hz,rfl⟩:=GP hx
     have hb:=q2 z (List.mem_of_getElem? hz)
     walk_at "rd"
     refine⟨z,rfl,_,rfl,?_⟩
     rw[if_neg (by decide),if_neg (by omega),if_neg (by omega)]
     exact (hPx _ _ _).mpr ⟨rfl,_,rfl⟩
    ·obtain⟨rfl,o,rfl⟩:=(hPx _ _ _).mp h'
     exact (hPw _ _ _).mpr ⟨rfl,_,_,rfl⟩
   ·obtain⟨rfl,o6,o7,rfl⟩:=(hPw _ _ _).mp h2'
    walk_at "rd"
    exact k _ c1
def lvl (L:Nat):Nat->List (List Int)
 |0=>[[]]
 |n+1=>(lvl L n).flatMap fun v=>(List.range L).map fun x:Nat=>v++[(x:Int)]
def allW (L:Nat):Nat->List (List Int)
 |0=>[[]]
 |n+1=>allW L n++lvl L (n+1)
theorem Zn {L:Nat}:∀(n:Nat) {v:List Int},v∈lvl L n->isW L v=true
 |0,v,h=>by rw[List.mem_singleton.mp h];rfl
 |n+1,v,h=>by
  obtain⟨u,hu,h2⟩:=List.mem_flatMap.mp h
  obtain⟨x,hx,rfl⟩:=List.mem_map.mp h2
  exact Qa (Zn n hu) (AB.mpr fun y hy=>by rw[List.mem_singleton.mp hy];have:=List.mem_range.mp hx;omega)
theorem Wn {L:Nat}:∀(n:Nat) {v:List Int},v∈allW L n->isW L v=true
 |0,v,h=>by rw[List.mem_singleton.mp h];rfl
 |n+1,v,h=>by
  rcases List.mem_append.mp h with h|h
  ·exact Wn n h
  ·exact Zn (n+1) h
theorem Zo {L:Nat}:∀(n:Nat) {v:List Int},v∈lvl L n->v.length=n
 |0,v,h=>by rw[List.mem_singleton.mp h];rfl
 |n+1,v,h=>by
  obtain⟨u,hu,h2⟩:=List.mem_flatMap.mp h
  obtain⟨x,hx,rfl⟩:=List.mem_map.mp h2
  rw[List.length_append,Zo n hu];rfl
theorem FY {L m:Nat}:∀{n:Nat},m<=n->(allW L m).length<=(allW L n).length
 |0,h=>by
  have:m=0:=by omega
  subst this
  exact Nat.le_refl _
 |n+1,h=>by
  by_cases e:m=n+1
  ·subst e;exact Nat.le_refl _
  ·have:=FY (L:=L) (m:=m) (n:=n) (by omega)
   show _<=(allW L n++lvl L (n+1)).length
   rw[List.length_append];omega
theorem BA_ {L:Nat}:∀n:Nat,(lvl L n).length<=(allW L n).length
 |0=>Nat.le_refl _
 |n+1=>by show _<=(allW L n++lvl L (n+1)).length;rw[List.length_append];omega
theorem Ee_ {L n m:Nat}(hL1:1<=L)(hL6:L<=6)(h:n+L<=4\/n<=1)(hm:m<=2*n-1):(allW L m).length<=900:=by
 have hL:L=1\/L=2\/L=3\/L=4\/L=5\/L=6:=by omega
 by_cases hn:n<=1
 ·refine Nat.le_trans (FY (show m<=1 by omega)) ?_
  rcases hL with rfl|rfl|rfl|rfl|rfl|rfl<;>decide
 ·by_cases hn2:n=2
  ·refine Nat.le_trans (FY (show m<=3 by omega)) ?_
   have hL2:L=1\/L=2:=by omega
   rcases hL2 with rfl|rfl<;>decide
  ·refine Nat.le_trans (FY (show m<=5 by omega)) ?_
   have hL2:L=1:=by omega
   subst hL2
   decide
def WRs (K:PySem.W.Frag)(H:Hp)(zs:List V)(f:List Int->List Int)(ws:List (List Int)):Prop:=zs.length=ws.length/\∀(i:Nat) (v:List Int),ws[i]?=some v->∃t a b,zs[i]?=some (.ref t)/\SqT K H t [.ref a,.ref b]/\SqT K H a (v.map V.int)/\SqT K H b ((f v).map V.int)
section
variable {f:List Int->List Int}
theorem WRs.mono {H H':Hp}{zs:List V}{ws:List (List Int)}(h:WRs K H zs f ws)(s:Same H H'):WRs K H' zs f ws:=⟨h.1,fun i v hi=>by
 obtain⟨t,a,b,e1,e2,e3,e4⟩:=h.2 i v hi
 exact⟨t,a,b,e1,s.seqT e2,s.seqT e3,s.seqT e4⟩⟩
theorem WRs.off {H:Hp}{zs xs ys:List V}{q:Addr}{ws:List (List Int)}(hq:H q=some (.lst xs))(h:WRs K H zs f ws):WRs K (upd H q (.lst ys)) zs f ws:=⟨h.1,fun i v hi=>by
 obtain⟨t,a,b,e1,e2,e3,e4⟩:=h.2 i v hi
 exact⟨t,a,b,e1,Ay hq e2,Ay hq e3,Ay hq e4⟩⟩
theorem WRs.app {H:Hp}{zs ys:List V}{ws us:List (List Int)}(h:WRs K H zs f ws)(g:WRs K H ys f us):WRs K H (zs++ys) f (ws++us):=by
 refine⟨by rw[List.length_append,List.length_append,h.1,g.1],fun i v hi=>?_⟩
 by_cases hl:i<ws.length
 ·rw[List.getElem?_append_left hl]at hi
  rw[List.getElem?_append_left (by rw[h.1];exact hl)]
  exact h.2 i v hi
 ·rw[List.getElem?_append_right (by omega)]at hi
  rw[List.getElem?_append_right (by rw[h.1];omega),h.1]
  exact g.2 _ v hi
theorem WRs.one {H:Hp}{t a b:Addr}{v:List Int}(e2:SqT K H t [.ref a,.ref b])(e3:SqT K H a (v.map V.int))(e4:SqT K H b ((f v).map V.int)):WRs K H [.ref t] f [v]:=⟨rfl,fun i u hi=>by
 cases i with
 |zero=>cases hi;exact⟨t,a,b,rfl,e2,e3,e4⟩
 |succ i=>simp at hi⟩
end
def Wo (K:PySem.W.Frag):Sp:=fun vs H Q _=>∃(h:Addr) (p:Int) (L m:Nat) (hs:Hs),vs=[.ref h,.int m]/\Gj K H h p L hs/\hs.ok p L/\L<=6/\m<=16/\(allW L m).length<=900/\∀q zs H',Same H H'->H' q=some (.lst zs)->WRs K H' zs (hs.R p) (allW L m)->Q (.ref q) H'
theorem Ve {f:Addr}{fd:FuncData}(F:Fun K "_law_all" "_law_all" Et f fd)(T:Txt mg)
  (Z:Exs K mg C_AskError C_BadWord C_NoInverse)
  {BI:Addr} {C7:FuncData} (EC:FnOk P w K mg base CX0 1 BI C7 ["p","row","table"] (Nv K)) (C8:Fun K "_law_step" "_law_step" CT BI C7) (ED:Binds K C7 ["p","row","table"] []) (EE:mg "_law_step"=some (.ref BI))
  : FnOk P w K mg base CX0 2 f fd ["house","most"] (Wo K):=by
 refine F.ok B4 (fun vs H Q E h=>?_) (fun cdv A outer s H vs Q E hr h=>?_)
 ·obtain⟨h,p,L,m,hs,rfl,_⟩:=h;rfl
 ·obtain⟨h,p,L,m,hs,rfl,hh,ok,hL6,hm16,h900,k⟩:=h
  have hl:=An
  obtain⟨tf,tt,tl,h1,h2,h3,us,h4,h5,h6⟩:=id hh
  refine⟨_,(Ad (Aj (i:=2) B4.nd rfl (Or.inl rfl) (Fm (Aa (Bz (Aa (Bz Ab) (Aa (Ar Al (pv 0) Af (fun _ _=>rfl)) Ab))) Ab)))
   (Ad (Aj (i:=3) B4.nd rfl (Or.inl rfl) (pv 2))
   (Ad (B7 PassesOwn.never rfl (AQ rfl T.range (Aa (pv 1) Ab)) (Am (i:=4) B4.nd rfl (Or.inl rfl))
   (Ad (Aj (i:=5) B4.nd rfl (Or.inl rfl) (Fm Ab))
   (Ad (B7 PassesOwn.never rfl (Lb (pv 3)) (Am (i:=6) B4.nd rfl (Or.inl rfl))
   (Ag (B7 PassesOwn.never rfl (AQ rfl T.range (Aa (Ar Al (pv 0) Af (fun _ _=>rfl)) Ab)) (Am (i:=7) B4.nd rfl (Or.inl rfl))
   (Ad (Aj (i:=8) B4.nd rfl (Or.inl rfl) (Ah EC (hr.mono (by decide)) rfl EE C8.kp ED .nil AD (Aa (Ar Al (pv 0) Af (fun _ _=>rfl)) (Aa (Ar Al (pv 6) Af (fun _ _=>rfl)) (Aa (Ar Al (Ar Al (pv 0) Af (fun _ _=>rfl)) (pv 7) (fun _ _=>rfl)) Ab)))))
   (Ag (DB (J4 PySem.F.plainAttrs_list PySem.F.slot_list_append PySem.F.type_list_append B9 (pv 5) (Aa (Bz (Aa (Aq Dp (Ar Al (pv 6) Af (fun _ _=>rfl)) (Bz (Aa (pv 7) Ab))) (Aa (pv 8) Ab))) Ab))))))))
   (Ad (Aj (i:=2) B4.nd rfl (Or.inl rfl) (Aq AP_ (pv 2) (pv 5)))
   (Ag (Aj (i:=3) B4.nd rfl (Or.inl rfl) (pv 5)))))))
   (Ag (Ap (pv 2)))))),?_⟩
  walk_at "rd"
  refine⟨by omega,fun pe hpe=>?_⟩
  have sE:=Same.new hpe (o:=.tup [])
  have uE:upd H pe (.tup []) pe=some (.tup []):=Ac
  generalize upd H pe (.tup [])=H0 at sE uE ⊢
  refine⟨_,sE.seqT h1,V.ref tf,rfl,by omega,fun pp hpp=>?_⟩
  have sP:=Same.new hpp (o:=.tup [.ref pe,.ref tf])
  have uP:upd H0 pp (.tup [.ref pe,.ref tf]) pp=some (.tup [.ref pe,.ref tf]):=Ac
  generalize upd H0 pp (.tup [.ref pe,.ref tf])=H1 at sP uP ⊢
  refine⟨by omega,fun pt hpt=>⟨by omega,by omega,?_⟩⟩
  have sT:=Same.new hpt (o:=.lst [.ref pp])
  have uT:upd H1 pt (.lst [.ref pp]) pt=some (.lst [.ref pp]):=Ac
  generalize upd H1 pt (.lst [.ref pp])=H2 at sT uT ⊢
  rw[show ((m:Int)).toNat=m by omega]
  have s02:=sE.trans (sP.trans sT)
  have w0:WRs K H2 [.ref pp] (hs.R p) [[]]:=WRs.one (SqT.of (sT _ _ uP)) (SqT.of ((sP.trans sT) _ _ uE)) (s02.seqT h2)
  obtain⟨Pv,hPv⟩:∃Pv:Nat->St->Hp->Prop,∀i σ' H',Pv i σ' H'↔(∃(qt ql:Addr) (zs ys:List V) (o4 o5 o6 o7 o8:Option V),Same H H'/\H' qt=some (.lst zs)/\WRs K H' zs (hs.R p) (allW L i)/\H' ql=some (.lst ys)/\WRs K H' ys (hs.R p) (lvl L i)/\σ'=[some (.ref h),some (.int m),some (.ref qt),some (.ref ql),o4,o5,o6,o7,o8]):=⟨_,fun _ _ _=>Iff.rfl⟩
  refine forR Pv ((hPv _ _ _).mpr ⟨pt,pt,_,_,none,none,none,none,none,s02,uT,w0,uT,w0,rfl⟩) (fun i σ' H' hi h'=>?_) (fun σ' H' h'=>?_)
  ·obtain⟨qt,ql,zs,ys,o4,o5,o6,o7,o8,g1,g2,g3,g4,g5,rfl⟩:=(hPv _ _ _).mp h'
   have hlv:(lvl L i).length<=900:=Nat.le_trans (BA_ i) (Nat.le_trans (FY (by omega)) h900)
   have hlv1:(lvl L (i+1)).length<=900:=Nat.le_trans (BA_ (i+1)) (Nat.le_trans (FY (by omega)) h900)
   have hal1:(allW L (i+1)).length<=900:=Nat.le_trans (FY (by omega)) h900
   rw[Int.zero_add]
   walk_at "rd"
   refine⟨by omega,fun pn hpn=>?_⟩
   have sN:=Same.new hpn (o:=.lst [])
   have uN:upd H' pn (.lst []) pn=some (.lst []):=Ac
   generalize upd H' pn (.lst [])=H3 at sN uN ⊢
   obtain⟨kids,hkids⟩:∃kids:List Int->List (List Int),kids=fun v=>(List.range L).map fun x:Nat=>v++[(x:Int)]:=⟨_,rfl⟩
   have hlvk:lvl L (i+1)=(lvl L i).flatMap kids:=by rw[hkids];rfl
   have hkl:∀v,(kids v).length=L:=fun v=>by rw[hkids];simp
   have hfl:∀j,(((lvl L i).take j).flatMap kids).length=((lvl L i).take j).length*L:=fun j=>by
    rw[List.length_flatMap]
    generalize (lvl L i).take j=l
    induction l with
    |nil=>simp
    |cons a l ih=>rw[List.map_cons,List.sum_cons,ih,hkl,List.length_cons,Nat.succ_mul];omega
   obtain⟨Pw,hPw⟩:∃Pw:Nat->St->Hp->Prop,∀j σ' H2,Pw j σ' H2↔(∃(us:List V) (o6 o7 o8:Option V),Same H' H2/\H2 pn=some (.lst us)/\WRs K H2 us (hs.R p) (((lvl L i).take j).flatMap kids)/\σ'=[some (.ref h),some (.int m),some (.ref qt),some (.ref ql),some (.int i),some (.ref pn),o6,o7,o8]):=⟨_,fun _ _ _=>Iff.rfl⟩
   refine⟨⟨_,SqL.of (sN _ _ g4)⟩,forL (xs:=ys) Pw ((hPw _ _ _).mpr ⟨[],_,_,_,sN,uN,⟨rfl,fun i v hi=>by simp at hi⟩,rfl⟩) (fun j σ2 H2 _ h2'=>by obtain⟨_,_,_,_,z,_⟩:=(hPw _ _ _).mp h2';exact SqL.of (z _ _ g4)) (fun j x σ2 H4 hx h2'=>?_) (fun σ2 H4 h2'=>?_)⟩
   ·obtain⟨us',o6,o7,o8,c1,c2,c3,rfl⟩:=(hPw _ _ _).mp h2'
    have hjy:=(List.getElem?_eq_some_iff.mp hx).1
    have hjl:j<(lvl L i).length:=by rw[<-g5.1];exact hjy
    obtain⟨v,hv⟩:∃v,(lvl L i)[j]?=some v:=⟨(lvl L i)[j],by simp⟩
    obtain⟨t,ta,tb,e1,e2,e3,e4⟩:=g5.2 j v hv
    rw[hx]at e1
    cases e1
    have hvl:v.length=i:=Zo i (List.mem_of_getElem? hv)
    walk_at "rd"
    have s14:=g1.trans c1
    refine⟨_,s14.seqT h1,_,rfl,(L:Int),rfl,by omega,by omega,?_⟩
    rw[show ((L:Int)).toNat=L by omega]
    obtain⟨Px,hPx⟩:∃Px:Nat->St->Hp->Prop,∀x σ' H2,Px x σ' H2↔(∃(us:List V) (o7 o8:Option V),Same H' H2/\H2 pn=some (.lst us)/\WRs K H2 us (hs.R p) (((lvl L i).take j).flatMap kids++(List.range x).map fun y:Nat=>v++[(y:Int)])/\σ'=[some (.ref h),some (.int m),some (.ref qt),some (.ref ql),some (.int i),some (.ref pn),some (.ref t),o7,o8]):=⟨_,fun _ _ _=>Iff.rfl⟩
    refine forR Px ((hPx _ _ _).mpr ⟨us',_,_,c1,c2,by rw[List.range_zero,List.map_nil,List.append_nil];exact c3,rfl⟩) (fun x σ3 H5 hx' h3'=>?_) (fun σ3 H5 h3'=>?_)
    ·obtain⟨vs,o7,o8,d1,d2,d3,rfl⟩:=(hPx _ _ _).mp h3'
     rw[Int.zero_add]
     walk_at "rd"
     have s15:=g1.trans d1
     have htl:hs.t.length=L:=by have:=ok.t;omega
     obtain⟨tbl,htb⟩:∃tb,hs.t[x]?=some tb:=⟨hs.t[x]'(by omega),by simp⟩
     obtain⟨u,hu⟩:∃u,us[x]?=some u:=⟨us[x]'(by omega),by simp⟩
     obtain⟨xs,a1,a2⟩:=h6 x u tbl hu htb
     have htt:=ok.tt _ (List.mem_of_getElem? htb)
     have hrow:(hs.R p v).length=hs.d/\∀y∈hs.R p v,0<=y/\y<p:=ok.row v
     refine⟨_,s15.seqT h1,V.int p,rfl,_,d1.seqT e2,V.ref tb,rfl,_,s15.seqT h1,V.ref tt,rfl,tt,rfl,_,s15.seqT h4,V.ref u,Bc (by rw[List.getElem?_map,hu];rfl),p,u,tb,xs,tbl,hs.R p v,hs.d,rfl,by have:=ok.p2;omega,ok.p18,s15.seqT a1,a2.mono s15,htt.1,htt.2,d1.seqT e4,hrow.1,ok.dl,hrow.2,fun q H6 s6 hq=>?_⟩
     have hR:hs.R p (v++[(x:Int)])=D0 p tbl (hs.R p v) hs.d:=by
      rw[Hs.row_app]
      show D0 p (hs.t.getD ((x:Int)).toNat []) (hs.R p v) hs.d=_
      rw[show ((x:Int)).toNat=x by omega,List.getD_eq_getElem?_getD,htb];rfl
     rw[<-hR]at hq
     have d2':=s6 _ _ d2
     refine⟨.inl ⟨rfl,_,SqL.of d2'⟩,_,(d1.trans s6).seqT e2,V.ref ta,rfl,by omega,fun p1 hp1=>Dv.of ((Same.new hp1).seqT ((d1.trans s6).seqT e3)) (SqT.of Ac) (by rw[List.length_map,hvl];simp;omega) fun q2 H7 s7 hq2=>⟨by omega,fun p2 hp2=>?_⟩⟩
     have hq2':SqT K H7 q2 ((v++[(x:Int)]).map V.int):=by rw[List.map_append];exact hq2
     have s67:=(Same.new hp1 (o:=.tup [V.int x])).trans s7
     have sP2:=Same.new hp2 (o:=.tup [V.ref q2,V.ref q])
     have uP2:upd H7 p2 (.tup [V.ref q2,V.ref q]) p2=some (.tup [V.ref q2,V.ref q]):=Ac
     generalize upd H7 p2 (.tup [V.ref q2,V.ref q])=H8 at sP2 uP2 ⊢
     have d2'':=sP2 _ _ (s67 _ _ d2')
     have hb:vs.length<900:=by
      have h1:=d3.1
      rw[List.length_append,hfl,List.length_take,List.length_map,List.length_range,Nat.min_eq_left (by omega)]at h1
      have h2:=hfl (lvl L i).length
      rw[List.take_length,<-hlvk]at h2
      have h3:(j+1)*L<=(lvl L i).length*L:=Nat.mul_le_mul_right L (by omega)
      rw[Nat.succ_mul]at h3
      omega
     refine⟨vs,d2'',by omega,(hPx _ _ _).mpr ⟨_,_,_,(d1.trans (s6.trans (s67.trans sP2))).over hpn,Ac,?_,rfl⟩⟩
     rw[List.range_succ,List.map_append,<-List.append_assoc]
     exact WRs.app (WRs.off d2'' (d3.mono (s6.trans (s67.trans sP2)))) (WRs.one (Ay d2'' (SqT.of uP2)) (Ay d2'' (sP2.seqT hq2')) (Ay d2'' ((s67.trans sP2).seqT hq)))
    ·obtain⟨vs,o7,o8,d1,d2,d3,rfl⟩:=(hPx _ _ _).mp h3'
     refine (hPw _ _ _).mpr ⟨vs,_,_,_,d1,d2,?_,rfl⟩
     rw[List.take_add_one,hv,List.flatMap_append]
     have:kids v=(List.range L).map fun y:Nat=>v++[(y:Int)]:=by rw[hkids]
     rw[Option.toList_some,List.flatMap_singleton,this]
     exact d3
   ·obtain⟨us',o6,o7,o8,c1,c2,c3,rfl⟩:=(hPw _ _ _).mp h2'
    rw[g5.1,List.take_length,<-hlvk]at c3
    walk_at "rd"
    have hsz:(allW L i).length+(lvl L (i+1)).length<=900:=by
     have:(allW L (i+1)).length=(allW L i++lvl L (i+1)).length:=rfl
     rw[List.length_append]at this;omega
    have hz1:=g3.1
    have hz2:=c3.1
    exact⟨zs,c1 _ _ g2,us',c2,by omega,fun q hq=>(hPv _ _ _).mpr ⟨q,pn,_,_,_,_,_,_,_,(g1.trans c1).newT hq,Ac,WRs.app ((g3.mono c1).mono (Same.new hq)) (c3.mono (Same.new hq)),Same.new hq _ _ c2,c3.mono (Same.new hq),rfl⟩⟩
  ·obtain⟨qt,ql,zs,ys,o4,o5,o6,o7,o8,g1,g2,g3,g4,g5,rfl⟩:=(hPv _ _ _).mp h'
   walk_at "rd"
   exact k qt zs H' g1 g2 g3
def Tz (K:PySem.W.Frag):Sp:=fun vs H Q _=>∃(h g:Addr) (p:Int) (L:Nat) (x y:Hs),vs=[.ref h,.ref g]/\Gj K H h p L x/\x.ok p L/\Gj K H g p L y/\y.ok p L/\L<=6/\x.d<=5/\y.d<=5/\(allW L (x.d+y.d-1)).length<=900/\(∀v,isW L v=true->y.W p v=x.W p v)/\∀H',Same H H'->Q (.bl true) H'
theorem JD {f:Addr}{fd:FuncData}(F:Fun K "_law_same_worths" "_law_same_worths" A5 f fd)(T:Txt mg)
  (Z:Exs K mg C_AskError C_BadWord C_NoInverse)
  {Di:Addr} {Hl:FuncData} (Gb:FnOk P w K mg base CX0 1 Di Hl ["p","one","two"] (Pk K)) (DZ:Fun K "_law_times" "_law_times" CU Di Hl) (Gd:Binds K Hl ["p","one","two"] []) (Ge:mg "_law_times"=some (.ref Di))
  {EK:Addr} {JE:FuncData} (IX:FnOk P w K mg base CX0 2 EK JE ["house","most"] (Wo K)) (FC:Fun K "_law_all" "_law_all" Et EK JE) (IY:Binds K JE ["house","most"] []) (IZ:mg "_law_all"=some (.ref EK))
  : FnOk P w K mg base CX0 3 f fd ["one","two"] (Tz K):=by
 refine F.ok BD (fun vs H Q E h=>?_) (fun cdv A outer s H vs Q E hr h=>?_)
 ·obtain⟨h,g,p,L,x,y,rfl,_⟩:=h;rfl
 ·obtain⟨h,g,p,L,x,y,rfl,hh,okx,hg,oky,hL6,hx5,hy5,h900,hW,k⟩:=h
  have hl:=An
  obtain⟨tf,tt,tl,h1,h2,h3,h4⟩:=id hh
  obtain⟨tf',tt',tl',g1,g2,g3,g4⟩:=id hg
  refine⟨_,(Ad (Aj (i:=2) BD.nd rfl (Or.inl rfl) (Ak (MO rfl) rfl T.max PyProof.Rows.boot_max (Aa Af (Aa (Aq LO (Aq Cv (Ak Ai (by rfl) T.len PySem.boot_len (Aa (Ar Al (pv 0) Af (fun _ _=>rfl)) Ab)) (Ak Ai (by rfl) T.len PySem.boot_len (Aa (Ar Al (pv 1) Af (fun _ _=>rfl)) Ab))) Af) Ab))))
   (Ad (Aj (i:=3) BD.nd rfl (Or.inl rfl) (Ah IX (hr.mono (by decide)) rfl IZ FC.kp IY .nil AD (Aa (pv 0) (Aa (pv 2) Ab))))
   (Ad (Aj (i:=4) BD.nd rfl (Or.inl rfl) (Ah IX (hr.mono (by decide)) rfl IZ FC.kp IY .nil AD (Aa (pv 1) (Aa (pv 2) Ab))))
   (Ad (B7 PassesOwn.never rfl (AQ rfl T.range (Aa (Ak Ai (by rfl) T.len PySem.boot_len (Aa (pv 3) Ab)) Ab)) (Am (i:=5) BD.nd rfl (Or.inl rfl))
   (Ag (Dt (AJ N1 (Ah Gb (hr.mono (by decide)) rfl Ge DZ.kp Gd .nil AD (Aa (Ar Al (pv 0) Af (fun _ _=>rfl)) (Aa (Ar Al (Ar CF (pv 3) (pv 5) (fun _ _=>rfl)) Af (fun _ _=>rfl)) (Aa (Ar Al (pv 0) Af (fun _ _=>rfl)) Ab)))) (Ah Gb (hr.mono (by decide)) rfl Ge DZ.kp Gd .nil AD (Aa (Ar Al (pv 0) Af (fun _ _=>rfl)) (Aa (Ar Al (Ar CF (pv 4) (pv 5) (fun _ _=>rfl)) Af (fun _ _=>rfl)) (Aa (Ar Al (pv 1) Af (fun _ _=>rfl)) Ab)))) (A3 _))
   (Ag (Ap EX))
   AY)))
   (Ag (Ap EX)))))),?_⟩
  walk_at "rd"
  refine⟨_,h1,V.ref tf,rfl,tf,rfl,_,.inr h2,_,g1,V.ref tf',rfl,tf',rfl,_,.inr g2,?_⟩
  rw[List.length_map,List.length_map,okx.f.1,oky.f.1]
  have em:(if (x.d:Int)+y.d-1 > 0 then (x.d:Int)+y.d-1 else 0)=((x.d+y.d-1:Nat):Int):=by split<;>omega
  rw[em]
  refine⟨h,p,L,x.d+y.d-1,x,rfl,hh,okx,hL6,by omega,h900,fun q1 zs H1 s1 hq1 w1=>?_⟩
  refine⟨g,p,L,x.d+y.d-1,y,rfl,hg.mono s1,oky,hL6,by omega,h900,fun q2 ys H2 s2 hq2 w2=>?_⟩
  have hq1':=s2 _ _ hq1
  have w1':=w1.mono s2
  have s12:=s1.trans s2
  have hzl:=w1.1
  refine⟨q1,rfl,_,.inl (SqL.of hq1'),by omega,by omega,?_⟩
  rw[show ((zs.length:Int)).toNat=zs.length by omega]
  obtain⟨Pv,hPv⟩:∃Pv:Nat->St->Hp->Prop,∀i σ' H',Pv i σ' H'↔(Same H2 H'/\∃o,σ'=[some (.ref h),some (.ref g),some (.int ((x.d+y.d-1:Nat):Int)),some (.ref q1),some (.ref q2),o]):=⟨_,fun _ _ _=>Iff.rfl⟩
  refine forR Pv ((hPv _ _ _).mpr ⟨Same.refl _,none,rfl⟩) (fun i σ' H' hi h'=>?_) (fun σ' H' h'=>?_)
  ·obtain⟨c1,o,rfl⟩:=(hPv _ _ _).mp h'
   rw[Int.zero_add]
   obtain⟨v,hv⟩:∃v,(allW L (x.d+y.d-1))[i]?=some v:=⟨(allW L (x.d+y.d-1))[i]'(by omega),by simp⟩
   obtain⟨t,ta,tb,e1,e2,e3,e4⟩:=w1'.2 i v hv
   obtain⟨t',ta',tb',f1,f2,f3,f4⟩:=w2.2 i v hv
   have hvW:=Wn _ (List.mem_of_getElem? hv)
   walk_at "rd"
   have s2':=s12.trans c1
   have p2:=okx.p2
   have hrx:(x.R p v).length=x.d/\∀y∈x.R p v,0<=y/\y<p:=okx.row v
   have hry:(y.R p v).length=y.d/\∀z∈y.R p v,0<=z/\z<p:=oky.row v
   refine⟨_,s2'.seqT h1,V.int p,rfl,_,SqL.of (c1 _ _ hq1'),V.ref t,Bc e1,t,rfl,_,c1.seqT e2,V.ref tb,rfl,_,s2'.seqT h1,V.ref tl,rfl,p,tb,tl,x.R p v,x.l,rfl,by omega,okx.p18,c1.seqT e4,s2'.seqT h3,by rw[hrx.1,okx.l.1],by rw[hrx.1];exact okx.dl,hrx.2,fun H3 s3=>?_⟩
   have c3:=c1.trans s3
   have s3':=s12.trans c3
   refine⟨_,s3'.seqT h1,V.int p,rfl,_,SqL.of (c3 _ _ hq2),V.ref t',Bc f1,t',rfl,_,c3.seqT f2,V.ref tb',rfl,_,s3'.seqT g1,V.ref tl',rfl,p,tb',tl',y.R p v,y.l,rfl,by omega,oky.p18,c3.seqT f4,s3'.seqT g3,by rw[hry.1,oky.l.1],by rw[hry.1];exact oky.dl,hry.2,fun H4 s4=>?_⟩
   have e:dotW (x.R p v) x.l%p=dotW (y.R p v) y.l%p:=by
    rw[Bb,Bb (y.R p v)]
    exact (hW v hvW).symm
   show _/\_
   refine⟨rfl,?_⟩
   rw[e,if_neg (by simp)]
   exact (hPv _ _ _).mpr ⟨c3.trans s4,_,rfl⟩
  ·obtain⟨c1,o,rfl⟩:=(hPv _ _ _).mp h'
   walk_at "rd"
   exact k _ (s12.trans c1)
def As_ (K:PySem.W.Frag):Sp:=fun vs H Q _=>∃(a:Addr) (ns:List Int),vs=[.ref a]/\SqL K H a (ns.map V.int)/\ns.length<=63/\∀H',Q (.bl true) H'
theorem Ef_ {f:Addr}{fd:FuncData}(F:Fun K "law" "law" Ql f fd)(T:Txt mg)
  (Z:Exs K mg C_AskError C_BadWord C_NoInverse)
  {Ct:Addr} {Gs:FuncData} (Fu:FnOk P w K mg base CX0 9 Ct Gs ["house"] (Wj K)) (Dr:Fun K "sums_access" "sums_access" Cm Ct Gs) (Fv:Binds K Gs ["house"] []) (Fw:mg "sums_access"=some (.ref Ct))
  {Dj:Addr} {Hm:FuncData} (Fd:FnOk P w K mg base CX0 9 Dj Hm ["house"] (Pm K)) (Dk:Fun K "sums_least" "sums_least" CP Dj Hm) (Fe:Binds K Hm ["house"] []) (Ff:mg "sums_least"=some (.ref Dj))
  {AF:Addr} {AL:FuncData} (AZ:FnOk P w K mg base CX0 1 AF AL ["script","k"] (Nr K)) (AM:Fun K "_law_cell" "_law_cell" B1 AF AL) (A0:Binds K AL ["script","k"] []) (A1:mg "_law_cell"=some (.ref AF))
  {Dm:Addr} {Hn:FuncData} (IE:FnOk P w K mg base CX0 2 Dm Hn ["cell"] (Wi K)) (Fg:Fun K "_law_prime" "_law_prime" CQ Dm Hn) (IF:Binds K Hn ["cell"] []) (IG:mg "_law_prime"=some (.ref Dm))
  {Dn:Addr} {Ho:FuncData} (IH:FnOk P w K mg base CX0 4 Dn Ho ["script","at","p","letters","many"] (Pl K)) (Fh:Fun K "_law_house" "_law_house" CS Dn Ho) (II:Binds K Ho ["script","at","p","letters","many"] []) (IJ:mg "_law_house"=some (.ref Dn))
  {Cu:Addr} {Gu:FuncData} (Hq:FnOk P w K mg base CX0 2 Cu Gu ["house","word"] (Nw K)) (Eh:Fun K "_law_behind" "_law_behind" Co Cu Gu) (Hr:Binds K Gu ["house","word"] []) (Ht:mg "_law_behind"=some (.ref Cu))
  {B6:Addr} {FZ:FuncData} (Gv:FnOk P w K mg base CX0 5 B6 FZ ["house","script","at"] (L4 K)) (Dz:Fun K "_law_another" "_law_another" B2 B6 FZ) (Gw:Binds K FZ ["house","script","at"] []) (Gx:mg "_law_another"=some (.ref B6))
  {Bi:Addr} {Ei:FuncData} (EL:FnOk P w K mg base CX0 3 Bi Ei ["words","letters","most"] (Pt K)) (Ce:Fun K "_law_words_good" "_law_words_good" Be Bi Ei) (EM:Binds K Ei ["words","letters","most"] []) (EO:mg "_law_words_good"=some (.ref Bi))
  {Bj:Addr} {Ej:FuncData} (ER:FnOk P w K mg base CX0 3 Bj Ej ["found","p","letters","many"] (Pu K)) (Cf:Fun K "_law_house_good" "_law_house_good" Bf Bj Ej) (ES:Binds K Ej ["found","p","letters","many"] []) (ET:mg "_law_house_good"=some (.ref Bj))
  {Ba:Addr} {DJ:FuncData} (Ek:FnOk P w K mg base CX0 3 Ba DJ ["one","two"] (Tz K)) (BZ:Fun K "_law_same_worths" "_law_same_worths" A5 Ba DJ) (El:Binds K DJ ["one","two"] []) (Em:mg "_law_same_worths"=some (.ref Ba))
  {DK:Addr} {IK:FuncData} (JF:FnOk P w K mg base CX0 1 DK IK ["many","place"] (Pq K)) (F0:Fun K "_law_unit" "_law_unit" DE DK IK) (JG:Binds K IK ["many","place"] []) (JH:mg "_law_unit"=some (.ref DK))
  : FnOk P w K mg base CX0 10 f fd ["script"] (As_ K):=by
 refine F.ok Kc (fun vs H Q E h=>?_) (fun cdv A outer s H vs Q E hr h=>?_)
 ·obtain⟨a,ns,rfl,_⟩:=h;rfl
 ·obtain⟨a,ns,rfl,hs,hz,k⟩:=h
  have hl:=An
  refine⟨_,(Fq (Aj (i:=1) Kc.nd rfl (Or.inl rfl) (Ah IE (hr.mono (by decide)) rfl IG Fg.kp IF .nil AD (Aa (Ah AZ (hr.mono (by decide)) rfl A1 AM.kp A0 .nil AD (Aa (pv 0) (Aa Af Ab))) Ab)))
   (Fq (Aj (i:=2) Kc.nd rfl (Or.inl rfl) (Aq Cv (Aq Cv Af (Aq Cg (Ah AZ (hr.mono (by decide)) rfl A1 AM.kp A0 .nil AD (Aa (pv 0) (Aa Af Ab))) Af)) (Aq Ds (Aq Lc (Aq Cg (Aq Lc (Ah AZ (hr.mono (by decide)) rfl A1 AM.kp A0 .nil AD (Aa (pv 0) (Aa Af Ab))) Af) Af) Af) Af)))
   (Fq (Aj (i:=3) Kc.nd rfl (Or.inl rfl) (Aq Cg (Ah AZ (hr.mono (by decide)) rfl A1 AM.kp A0 .nil AD (Aa (pv 0) (Aa Af Ab))) (Ak (MO rfl) rfl T.max PyProof.Rows.boot_max (Aa Af (Aa (Aq LO Af (pv 2)) Ab)))))
   (Fq (Aj (i:=4) Kc.nd rfl (Or.inl rfl) (Ah IH (hr.mono (by decide)) rfl IJ Fh.kp II .nil AD (Aa (pv 0) (Aa Af (Aa (pv 1) (Aa (pv 2) (Aa (pv 3) Ab)))))))
   (Fq (Aj (i:=5) Kc.nd rfl (Or.inl rfl) (Ah Gv (hr.mono (by decide)) rfl Gx Dz.kp Gw .nil AD (Aa (pv 4) (Aa (pv 0) (Aa (Aq Cv (Aq Cv Af (Aq Ds Af (pv 3))) (Aq Ds (Aq Ds (pv 2) (pv 3)) (pv 3))) Ab)))))
   (Fq (Aj (i:=6) Kc.nd rfl (Or.inl rfl) (Ah Fd (hr.mono (by decide)) rfl Ff Dk.kp Fe .nil AD (Aa (pv 4) Ab)))
   (Fq (Aj (i:=7) Kc.nd rfl (Or.inl rfl) (Ah Fu (hr.mono (by decide)) rfl Fw Dr.kp Fv .nil AD (Aa (pv 4) Ab)))
   (Fq (Dt (PW.pt (Jo (EY (DL (Ah EL (hr.mono (by decide)) rfl EO Ce.kp EM .nil AD (Aa (pv 7) (Aa (pv 2) (Aa (pv 3) Ab)))))) (HE (EY (DL (Ah ER (hr.mono (by decide)) rfl ET Cf.kp ES .nil AD (Aa (pv 6) (Aa (pv 1) (Aa (pv 2) (Aa (Ak Ai (by rfl) T.len PySem.boot_len (Aa (pv 7) Ab)) Ab))))))))))
   (Ag (Ap EX))
   AY)
   (Fq (Dt (PW.pt (Jo (AJ (S6 8 (hu9 hr)) (Ah Fd (hr.mono (by decide)) rfl Ff Dk.kp Fe .nil AD (Aa (pv 5) Ab)) (pv 6) (A3 _)) (Jo (AJ (S6 8 (hu9 hr)) (Ah Fu (hr.mono (by decide)) rfl Fw Dr.kp Fv .nil AD (Aa (pv 5) Ab)) (pv 7) (A3 _)) (HE (AJ (S6 8 (hu9 hr)) (Ah Fd (hr.mono (by decide)) rfl Ff Dk.kp Fe .nil AD (Aa (pv 6) Ab)) (pv 6) (A3 _))))))
   (Ag (Ap EX))
   AY)
   (Ad (B7 PassesOwn.never rfl (AQ rfl T.range (Aa (Ak Ai (by rfl) T.len PySem.boot_len (Aa (pv 7) Ab)) Ab)) (Am (i:=8) Kc.nd rfl (Or.inl rfl))
   (Ag (Dt (AJ (S6 8 (hu9 hr)) (Ah Hq (hr.mono (by decide)) rfl Ht Eh.kp Hr .nil AD (Aa (pv 6) (Aa (Ar CF (pv 7) (pv 8) (fun _ _=>rfl)) Ab))) (Ah JF (hr.mono (by decide)) rfl JH F0.kp JG .nil AD (Aa (Ak Ai (by rfl) T.len PySem.boot_len (Aa (pv 7) Ab)) (Aa (pv 8) Ab))) (A3 _))
   (Ag (Ap EX))
   AY)))
   (Ag (Ap (Ah Ek (hr.mono (by decide)) rfl Em BZ.kp El .nil AD (Aa (pv 4) (Aa (pv 6) Ab))))))))))))))),?_⟩
  walk_at "rd"
  refine⟨a,ns,0,rfl,hs,_,rfl,fun p H1 s1 hp=>?_⟩
  have hp1:=hp.1
  have hp2:=hp.2.1
  refine Fp ?_
  walk_at "rd"
  refine⟨a,ns,1,rfl,s1.seq hs,_,rfl,by decide,a,ns,1,rfl,s1.seq hs,_,rfl,⟨by decide,by decide⟩,by decide,⟨by decide,by decide⟩,.inr ⟨by decide,by decide⟩,?_⟩
  obtain⟨L,hL,hL1,hL6⟩:∃L:Nat,1+cell ns 1%3+cell ns 1 / 3%4 / 3*3=(L:Int)/\1<=L/\L<=6:=⟨(1+cell ns 1%3+cell ns 1 / 3%4 / 3*3).toNat,by omega,by omega,by omega⟩
  rw[hL]
  refine Fp ?_
  walk_at "rd"
  obtain⟨M,hM,hM2,hM4,hML⟩:∃M:Int,(if 5-(L:Int) > 2 then 5-(L:Int) else 2)=M/\2<=M/\M<=4/\(M+L<=5\/M<=2):=⟨_,rfl,by split<;>omega,by split<;>omega,by split<;>omega⟩
  rw[hM]
  refine⟨a,ns,2,rfl,s1.seq hs,_,rfl,by omega,?_⟩
  obtain⟨n,hn,hn4,hnL⟩:∃n:Nat,cell ns 2%M=(n:Int)/\n<4/\(n+L<=4\/n<=1):=by
   have a0:=Int.emod_nonneg (cell ns 2) (show M≠0 by omega)
   have a1:=Int.emod_lt_of_pos (cell ns 2) (show 0<M by omega)
   exact⟨(cell ns 2%M).toNat,by omega,by omega,by omega⟩
  rw[hn]
  refine Fp ?_
  walk_at "rd"
  refine⟨a,ns,3,p,L,n,rfl,s1.seq hs,by omega,by omega,hp1,hp2,hL1,hL6,by omega,fun h0 f0 l0 t0 H2 s2 hh0 wf0 sm0=>?_⟩
  have s12:=s1.trans s2
  have hb1:L*n*n<=96:=Nat.mul_le_mul (Nat.mul_le_mul hL6 (show n<=4 by omega)) (show n<=4 by omega)
  refine Fp ?_
  walk_at "rd"
  refine⟨.inl ⟨by decide,by decide⟩,.inl ⟨by omega,by omega⟩,.inr ⟨by omega,by omega⟩,h0,a,p,3+2*n+L*n*n,L,n,ns,f0,l0,t0,by push_cast;rfl,s12.seq hs,hh0,wf0,sm0,hL1,hL6,by omega,by omega,fun g f1 l1 t1 H3 s3 hg wg _ hW2=>?_⟩
  obtain⟨one,hone⟩:∃x:Hs,x=⟨n,f0,t0,l0⟩:=⟨_,rfl⟩
  obtain⟨two,htwo⟩:∃x:Hs,x=⟨n+1,f1,t1,l1⟩:=⟨_,rfl⟩
  have ok1:one.ok p L:=by rw[hone];exact wf0
  have ok2:two.ok p L:=by rw[htwo];exact wg
  have hh1:Gj K H3 h0 p L one:=by rw[hone];exact SumH.mono hh0 s3
  have hg2:Gj K H3 g p L two:=by rw[htwo];exact hg
  have hd1:one.d=n:=by rw[hone]
  have hd2:two.d=n+1:=by rw[htwo]
  rw[<-hone,<-htwo]at hW2
  have s03:=s12.trans s3
  clear hh0 wf0 sm0 hg wg
  refine Fp ?_
  walk_at "rd"
  refine⟨h0,p,L,one,rfl,hp,hh1,ok1,hL6,by omega,fun m F ws1 am1 F2 ws am2 H4 s4 o1 o2 hm=>?_⟩
  have lr:DY one p L ws (onB (onB one.back p L ws1 am1).back p L ws am2):=⟨F,ws1,am1,F2,am2,o1,o2,rfl⟩
  obtain⟨G,hG⟩:∃G,G=onB (onB one.back p L ws1 am1).back p L ws am2:=⟨_,rfl⟩
  rw[<-hG]at lr hm
  obtain⟨hGd,hwn⟩:=lr.sz
  have okG:=lr.okG
  refine Fp ?_
  walk_at "rd"
  refine⟨h0,p,L,one,rfl,hp,hh1.mono s4,ok1,hL6,by omega,fun lw zs F' ws1' am1' F2' ws' H5 s5 hlw hW o1' b2 hw2=>?_⟩
  have ews:=lr.acc (by omega) ⟨F',ws1',am1',F2',o1',b2,hw2⟩
  rw[ews]at hW b2 hw2
  have hzl:=hW.1
  refine Fp ?_
  walk_at "rd"
  refine⟨lw,p,L,ws1'.length,n,_,_,F2',ws,zs,rfl,hL1,by omega,hlw,hW,b2,by omega,fun H6 s6=>⟨_,rfl,?_⟩⟩
  rw[if_neg (by decide)]
  have hm6:=hm.mono (s5.trans s6)
  refine⟨zs,.inl (SqL.of (s6 _ _ hlw)),m,p,L,G,by rw[hzl,hGd],hm6,okG,lr.sm,hL6,fun H7 s7=>⟨_,rfl,?_⟩⟩
  rw[if_neg (by decide)]
  have s57:=s6.trans s7
  have s37:=s4.trans (s5.trans s57)
  refine Fp ?_
  walk_at "rd"
  refine⟨g,p,L,two,rfl,hp,hg2.mono s37,ok2,hL6,by omega,fun m2 G1 vs1 bm1 G2 vs bm2 H8 s8 q1 q2 hm2=>?_⟩
  obtain⟨e1,e2⟩:=DY.uniq (by omega) ok1 ok2 hW2 lr ⟨G1,vs1,bm1,G2,bm2,q1,q2,rfl⟩
  rw[<-e2]at hm2
  have hm8:=hm6.mono (s7.trans s8)
  refine⟨m2,rfl,true,Gj.eqD hm2 hm8,?_⟩
  rw[if_neg (by decide)]
  refine⟨g,p,L,two,rfl,hp,hg2.mono (s37.trans s8),ok2,hL6,by omega,fun lw2 zs2 J1 us1 cm1 J2 us H9 s9 hlw2 hW9 r1 r2 hu2=>?_⟩
  have eus:us=vs:=DY.acc (by omega) (⟨G1,vs1,bm1,G2,bm2,q1,q2,rfl⟩:DY two p L vs _) ⟨J1,us1,cm1,J2,r1,r2,hu2⟩
  rw[eus,<-e1]at hW9
  have s59:=s57.trans (s8.trans s9)
  refine⟨lw2,rfl,_,Fn.eq hW9 (hW.mono (TK.of s59)) (SqL.of hlw2) (SqL.of (s59 _ _ hlw)) 6,?_⟩
  rw[if_neg (by simp)]
  refine⟨m,p,L,G,rfl,hp,hm8.mono s9,okG,hL6,by omega,fun m3 J1' us1' cm1' J2' us' cm2' H10 s10 r1' r2' hm3=>?_⟩
  obtain⟨_,e3⟩:=DY.uniq (by omega) ok1 okG (fun v hv=>lr.worth ok1 hv) lr ⟨J1',us1',cm1',J2',cm2',r1',r2',rfl⟩
  rw[<-e3]at hm3
  have hm10:=hm8.mono (s9.trans s10)
  refine⟨m3,rfl,true,Gj.eqD hm3 hm10,?_⟩
  rw[if_neg (by decide)]
  refine Fp ?_
  walk_at "rd"
  have s510:=s59.trans s10
  have hlw10:=s510 _ _ hlw
  have hW10:=hW.mono (TK.of s510)
  refine⟨zs,.inl (SqL.of hlw10),by omega,by omega,?_⟩
  rw[show ((zs.length:Int)).toNat=zs.length by omega]
  obtain⟨Pv,hPv⟩:∃Pv:Nat->St->Hp->Prop,∀m' σ' H',Pv m' σ' H'↔(Same H10 H'/\∃o,σ'=[some (.ref a),some (.int p),some (.int L),some (.int n),some (.ref h0),some (.ref g),some (.ref m),some (.ref lw),o]):=⟨_,fun _ _ _=>Iff.rfl⟩
  refine forR Pv ((hPv _ _ _).mpr ⟨Same.refl _,none,rfl⟩) (fun i σ' H' hi h'=>?_) (fun σ' H' h'=>?_)
  ·obtain⟨c1,o,rfl⟩:=(hPv _ _ _).mp h'
   rw[Int.zero_add]
   obtain⟨v,hv⟩:∃v,ws[i]?=some v:=⟨ws[i]'(by omega),by simp⟩
   obtain⟨t,f1,f2⟩:=hW10.2 i v hv
   have hvW:=b2.wsW (List.mem_of_getElem? hv)
   have hun:=lr.unit hv
   walk_at "rd"
   refine⟨_,SqL.of (c1 _ _ hlw10),V.ref t,Bc f1,m,t,p,L,G.d,G.f,G.l,v,G.t,rfl,hm10.mono c1,okG,SqT.of (c1 _ _ f2),hvW,fun tb H11 s11 htb=>?_⟩
   have htb':SqT K H11 tb ((D1 ws.length i).map V.int):=by rw[<-hun];exact htb
   refine⟨zs,.inl (SqL.of ((c1.trans s11) _ _ hlw10)),zs.length,i,rfl,hi,by omega,fun q H12 s12' hq=>?_⟩
   rw[hzl]at hq
   refine⟨tb,rfl,q,rfl,true,Km (s12'.seqT htb') hq,?_⟩
   rw[if_neg (by decide)]
   exact (hPv _ _ _).mpr ⟨c1.trans (s11.trans s12'),_,rfl⟩
  ·obtain⟨c1,o,rfl⟩:=(hPv _ _ _).mp h'
   walk_at "rd"
   exact⟨h0,m,p,L,one,G,rfl,hh1.mono ((s37.trans (s8.trans (s9.trans s10))).trans c1),ok1,hm10.mono c1,okG,hL6,by omega,by omega,Ee_ hL1 hL6 hnL (by omega),fun v hv=>lr.worth ok1 hv,fun H' _=>k H'⟩
end
theorem all_mk {l:PySem.W.OpenLaw}{w:World}{K:PySem.W.Frag}{h:Heap}{mg:Str->Option Value}{fa FL D7 Jx CY Au A6 BF A7 HZ Bh FO FN C1 BG C3 C4 JA C5 DH Bl C9 Cd BJ Ct Dj AF BH Dm AN AG Cc Cs Dn BI Di Cu Df Bo BK Cr B6 B5 Dh EK Bi Bj Ba DK Cq_:Addr}(X:K.In h)(G:h.Ns mainGlobals mg)(hfa:mg "law"=some (.ref fa))
  {C_AskError C_BadWord C_NoInverse:Addr}
  {WX WY:Option Addr} {WZ:Array (Option Value)} {W0 W2 W3 W4 Py W5:Value}
  {Zp Zq:Option Addr} {Zr:Array (Option Value)} {Zs Zt Zu Zv TB Zw:Value}
  {At_ Au_:Option Addr} {Av_:Array (Option Value)} {Aw_ Ax_ Ay_ Az_ Wq AA_:Value}
  {W6 W7:Option Addr} {W8:Array (Option Value)} {W9 Xa Xb Xc PD Xd:Value}
  {Lv Lw:Option Addr} {Lx:Array (Option Value)} {Lz LA LB LC GJ LD:Value}
  {Xe Xf:Option Addr} {Xg:Array (Option Value)} {Xh Xi Xj Xk PH Xl:Value}
  {TC TF:Option Addr} {TH:Array (Option Value)} {TJ TL TM TN L5 TQ:Value}
  {JI JJ:Option Addr} {JK:Array (Option Value)} {JL JN JO JQ F4 JR:Value}
  {Cr_ Cs_:Option Addr} {Ct_:Array (Option Value)} {Cu_ Cv_ Cw_ Cx_ Zx Cy_:Value}
  {Kp Kq:Option Addr} {Kr:Array (Option Value)} {Kt Ku Kv Kw Gf Kx:Value}
  {Xm Xn:Option Addr} {Xo:Array (Option Value)} {Xp Xq Xr Xs PJ Xt:Value}
  {Xu Xv:Option Addr} {Xw:Array (Option Value)} {Xx Xy Xz XA PL XB:Value}
  {QN QO:Option Addr} {QP:Array (Option Value)} {QQ QR QS QT Ky QU:Value}
  {XC XD:Option Addr} {XE:Array (Option Value)} {XF XG XH XI PM XJ:Value}
  {QV QW:Option Addr} {QX:Array (Option Value)} {QY QZ Q0 Q1 Kz Q2:Value}
  {Q3 Q4:Option Addr} {Q5:Array (Option Value)} {Q6 Q7 Q8 Q9 KA Ra:Value}
  {AB_ AC_:Option Addr} {AD_:Array (Option Value)} {AE_ AF_ AG_ AH_ Wr AI_:Value}
  {Rb Rc:Option Addr} {Rf:Array (Option Value)} {Rg Rh Ri Rj KC Rk:Value}
  {TR TU:Option Addr} {TV:Array (Option Value)} {TX TY TZ T1 L6 T2:Value}
  {Rl Rm:Option Addr} {Ro:Array (Option Value)} {Rp Rq Rt Ru KD Rv:Value}
  {Rw Rx:Option Addr} {Ry:Array (Option Value)} {Rz RA RC RD KG RE:Value}
  {Vf Vg:Option Addr} {Vh:Array (Option Value)} {Vi Vj Vk Vl NF Vm:Value}
  {T3 T4:Option Addr} {T5:Array (Option Value)} {T6 T7 T8 T9 L7 Ua:Value}
  {Oh Oi:Option Addr} {Oj:Array (Option Value)} {Ol Om Oo Oq Jj Ot:Value}
  {RF RG:Option Addr} {RH:Array (Option Value)} {RI RJ RK RL KH RM:Value}
  {Ub Uc:Option Addr} {Ud:Array (Option Value)} {Ue Ug Uh Ui L8 Uj:Value}
  {Mm Mn:Option Addr} {Mo:Array (Option Value)} {Mp Mq Mr Ms Hx Mt:Value}
  {RO RP:Option Addr} {RQ:Array (Option Value)} {RS RT RU RV KI RW:Value}
  {RX RY:Option Addr} {RZ:Array (Option Value)} {R0 R1 R3 R4 KJ R5:Value}
  {Ou Ov:Option Addr} {Ow:Array (Option Value)} {Ox Oy Oz OA Jk OB:Value}
  {Vn Vo:Option Addr} {Vp:Array (Option Value)} {Vq Vr Vs Vt NG Vu:Value}
  {OC OD:Option Addr} {OE:Array (Option Value)} {OF OG OH OI Jl OJ:Value}
  {R6 R7:Option Addr} {R8:Array (Option Value)} {R9 Sa Sb Sd KL Se:Value}
  {Uk Ul:Option Addr} {Um:Array (Option Value)} {Uo Uq Ur Us L9 Ut:Value}
  {Sf Sg:Option Addr} {Sh:Array (Option Value)} {Si Sj Sk Sl KN Sn:Value}
  {OK OL:Option Addr} {OM:Array (Option Value)} {ON OO OP OQ Jm OR:Value}
  {So Sq:Option Addr} {Sr:Array (Option Value)} {Ss Su Sv Sw KO Sx:Value}
  {LF LG:Option Addr} {LH:Array (Option Value)} {LI LJ LK LL GK LM:Value}
  {Mu Mv:Option Addr} {Mw:Array (Option Value)} {My Mz MA MB Hy MC:Value}
  {OS OT:Option Addr} {OU:Array (Option Value)} {OV OW OX OY Jn OZ:Value}
  {NH NJ:Option Addr} {NL:Array (Option Value)} {NM NN NO NQ IL NR:Value}
  {NS NT:Option Addr} {NU:Array (Option Value)} {NV NW NX NY IM NZ:Value}
  {Sy Sz:Option Addr} {SA:Array (Option Value)} {SD SE SF SH KQ SI:Value}
  {Vv Vw:Option Addr} {Vx:Array (Option Value)} {Vy Vz VA VB N0 VC:Value}
  {KR KS:Option Addr} {KU:Array (Option Value)} {KW KY KZ K0 Gg K1:Value}
  {K2 K3:Option Addr} {K4:Array (Option Value)} {K5 K6 K7 K8 Gh K9:Value}
  {JS JT:Option Addr} {JU:Array (Option Value)} {JV JW JX JY F5 JZ:Value}
  {Uu Uv:Option Addr} {Uw:Array (Option Value)} {Ux Uy Uz UA Ma UB:Value}
  {Eg_ BB_:Option Addr} {Eh_:Array (Option Value)} {Ei_ BC_ BD_ BE_ Zy BF_:Value}
  (a_inverse:PySem.W.nsIn K mainGlobals "inverse"=some (some (.ref FL)))
  (l_inverse:K.lookup FL=some ⟨W0,WX,.func (PySem.W.fnOf "inverse" "inverse" (As FE) (Ao FE) (Ae FE) .none W2 W3 W4 WY Py W5),WZ⟩)
  (c_inverse:PySem.W.codeIn K Py "inverse"=true)
  (k_inverse:PySem.W.keepIn K (.ref FL)=true)
  (a_scaled:PySem.W.nsIn K mainGlobals "scaled"=some (some (.ref D7)))
  (l_scaled:K.lookup D7=some ⟨Zs,Zp,.func (PySem.W.fnOf "scaled" "scaled" (As F7) (Ao F7) (Ae F7) .none Zt Zu Zv Zq TB Zw),Zr⟩)
  (c_scaled:PySem.W.codeIn K TB "scaled"=true)
  (k_scaled:PySem.W.keepIn K (.ref D7)=true)
  (a_added:PySem.W.nsIn K mainGlobals "added"=some (some (.ref Jx)))
  (l_added:K.lookup Jx=some ⟨Aw_,At_,.func (PySem.W.fnOf "added" "added" (As Ju) (Ao Ju) (Ae Ju) .none Ax_ Ay_ Az_ Au_ Wq AA_),Av_⟩)
  (c_added:PySem.W.codeIn K Wq "added"=true)
  (k_added:PySem.W.keepIn K (.ref Jx)=true)
  (a_product:PySem.W.nsIn K mainGlobals "product"=some (some (.ref CY)))
  (l_product:K.lookup CY=some ⟨W9,W6,.func (PySem.W.fnOf "product" "product" (As E2) (Ao E2) (Ae E2) .none Xa Xb Xc W7 PD Xd),W8⟩)
  (c_product:PySem.W.codeIn K PD "product"=true)
  (k_product:PySem.W.keepIn K (.ref CY)=true)
  (a_place_of_first:PySem.W.nsIn K mainGlobals "place_of_first"=some (some (.ref Au)))
  (l_place_of_first:K.lookup Au=some ⟨Lz,Lv,.func (PySem.W.fnOf "place_of_first" "place_of_first" (As AU) (Ao AU) (Ae AU) .none LA LB LC Lw GJ LD),Lx⟩)
  (c_place_of_first:PySem.W.codeIn K GJ "place_of_first"=true)
  (k_place_of_first:PySem.W.keepIn K (.ref Au)=true)
  (a_left_of:PySem.W.nsIn K mainGlobals "left_of"=some (some (.ref A6)))
  (l_left_of:K.lookup A6=some ⟨Xh,Xe,.func (PySem.W.fnOf "left_of" "left_of" (As Dx) (Ao Dx) (Ae Dx) .none Xi Xj Xk Xf PH Xl),Xg⟩)
  (c_left_of:PySem.W.codeIn K PH "left_of"=true)
  (k_left_of:PySem.W.keepIn K (.ref A6)=true)
  (a_with_base:PySem.W.nsIn K mainGlobals "with_base"=some (some (.ref BF)))
  (l_with_base:K.lookup BF=some ⟨TJ,TC,.func (PySem.W.fnOf "with_base" "with_base" (As CI) (Ao CI) (Ae CI) .none TL TM TN TF L5 TQ),TH⟩)
  (c_with_base:PySem.W.codeIn K L5 "with_base"=true)
  (k_with_base:PySem.W.keepIn K (.ref BF)=true)
  (a_chosen_and_bases:PySem.W.nsIn K mainGlobals "chosen_and_bases"=some (some (.ref A7)))
  (l_chosen_and_bases:K.lookup A7=some ⟨JL,JI,.func (PySem.W.fnOf "chosen_and_bases" "chosen_and_bases" (As A4) (Ao A4) (Ae A4) .none JN JO JQ JJ F4 JR),JK⟩)
  (c_chosen_and_bases:PySem.W.codeIn K F4 "chosen_and_bases"=true)
  (k_chosen_and_bases:PySem.W.keepIn K (.ref A7)=true)
  (a_unit:PySem.W.nsIn K mainGlobals "unit"=some (some (.ref HZ)))
  (l_unit:K.lookup HZ=some ⟨Cu_,Cr_,.func (PySem.W.fnOf "unit" "unit" (As LS) (Ao LS) (Ae LS) .none Cv_ Cw_ Cx_ Cs_ Zx Cy_),Ct_⟩)
  (c_unit:PySem.W.codeIn K Zx "unit"=true)
  (k_unit:PySem.W.keepIn K (.ref HZ)=true)
  (a_factors_of_each:PySem.W.nsIn K mainGlobals "factors_of_each"=some (some (.ref Bh)))
  (l_factors_of_each:K.lookup Bh=some ⟨Kt,Kp,.func (PySem.W.fnOf "factors_of_each" "factors_of_each" (As Bd) (Ao Bd) (Ae Bd) .none Ku Kv Kw Kq Gf Kx),Kr⟩)
  (c_factors_of_each:PySem.W.codeIn K Gf "factors_of_each"=true)
  (k_factors_of_each:PySem.W.keepIn K (.ref Bh)=true)
  (a_made_of:PySem.W.nsIn K mainGlobals "made_of"=some (some (.ref FO)))
  (l_made_of:K.lookup FO=some ⟨Xp,Xm,.func (PySem.W.fnOf "made_of" "made_of" (As FF) (Ao FF) (Ae FF) .none Xq Xr Xs Xn PJ Xt),Xo⟩)
  (c_made_of:PySem.W.codeIn K PJ "made_of"=true)
  (k_made_of:PySem.W.keepIn K (.ref FO)=true)
  (a_is_word:PySem.W.nsIn K mainGlobals "is_word"=some (some (.ref FN)))
  (l_is_word:K.lookup FN=some ⟨Xx,Xu,.func (PySem.W.fnOf "is_word" "is_word" (As FG) (Ao FG) (Ae FG) .none Xy Xz XA Xv PL XB),Xw⟩)
  (c_is_word:PySem.W.codeIn K PL "is_word"=true)
  (k_is_word:PySem.W.keepIn K (.ref FN)=true)
  (a_check_word:PySem.W.nsIn K mainGlobals "check_word"=some (some (.ref C1)))
  (l_check_word:K.lookup C1=some ⟨QQ,QN,.func (PySem.W.fnOf "check_word" "check_word" (As CJ) (Ao CJ) (Ae CJ) .none QR QS QT QO Ky QU),QP⟩)
  (c_check_word:PySem.W.codeIn K Ky "check_word"=true)
  (k_check_word:PySem.W.keepIn K (.ref C1)=true)
  (a_stepped:PySem.W.nsIn K mainGlobals "stepped"=some (some (.ref BG)))
  (l_stepped:K.lookup BG=some ⟨XF,XC,.func (PySem.W.fnOf "stepped" "stepped" (As D3) (Ao D3) (Ae D3) .none XG XH XI XD PM XJ),XE⟩)
  (c_stepped:PySem.W.codeIn K PM "stepped"=true)
  (k_stepped:PySem.W.keepIn K (.ref BG)=true)
  (a_rows_along:PySem.W.nsIn K mainGlobals "rows_along"=some (some (.ref C3)))
  (l_rows_along:K.lookup C3=some ⟨QY,QV,.func (PySem.W.fnOf "rows_along" "rows_along" (As CK) (Ao CK) (Ae CK) .none QZ Q0 Q1 QW Kz Q2),QX⟩)
  (c_rows_along:PySem.W.codeIn K Kz "rows_along"=true)
  (k_rows_along:PySem.W.keepIn K (.ref C3)=true)
  (a_row_behind:PySem.W.nsIn K mainGlobals "row_behind"=some (some (.ref C4)))
  (l_row_behind:K.lookup C4=some ⟨Q6,Q3,.func (PySem.W.fnOf "row_behind" "row_behind" (As CL) (Ao CL) (Ae CL) .none Q7 Q8 Q9 Q4 KA Ra),Q5⟩)
  (c_row_behind:PySem.W.codeIn K KA "row_behind"=true)
  (k_row_behind:PySem.W.keepIn K (.ref C4)=true)
  (a_worth:PySem.W.nsIn K mainGlobals "worth"=some (some (.ref JA)))
  (l_worth:K.lookup JA=some ⟨AE_,AB_,.func (PySem.W.fnOf "worth" "worth" (As Jv) (Ao Jv) (Ae Jv) .none AF_ AG_ AH_ AC_ Wr AI_),AD_⟩)
  (c_worth:PySem.W.codeIn K Wr "worth"=true)
  (k_worth:PySem.W.keepIn K (.ref JA)=true)
  (a_table_back:PySem.W.nsIn K mainGlobals "table_back"=some (some (.ref C5)))
  (l_table_back:K.lookup C5=some ⟨Rg,Rb,.func (PySem.W.fnOf "table_back" "table_back" (As CM) (Ao CM) (Ae CM) .none Rh Ri Rj Rc KC Rk),Rf⟩)
  (c_table_back:PySem.W.codeIn K KC "table_back"=true)
  (k_table_back:PySem.W.keepIn K (.ref C5)=true)
  (a_sums_back:PySem.W.nsIn K mainGlobals "sums_back"=some (some (.ref DH)))
  (l_sums_back:K.lookup DH=some ⟨TX,TR,.func (PySem.W.fnOf "sums_back" "sums_back" (As DD) (Ao DD) (Ae DD) .none TY TZ T1 TU L6 T2),TV⟩)
  (c_sums_back:PySem.W.codeIn K L6 "sums_back"=true)
  (k_sums_back:PySem.W.keepIn K (.ref DH)=true)
  (a_basis_rows:PySem.W.nsIn K mainGlobals "basis_rows"=some (some (.ref Bl)))
  (l_basis_rows:K.lookup Bl=some ⟨Rp,Rl,.func (PySem.W.fnOf "basis_rows" "basis_rows" (As Cj) (Ao Cj) (Ae Cj) .none Rq Rt Ru Rm KD Rv),Ro⟩)
  (c_basis_rows:PySem.W.codeIn K KD "basis_rows"=true)
  (k_basis_rows:PySem.W.keepIn K (.ref Bl)=true)
  (a_sums_basis:PySem.W.nsIn K mainGlobals "sums_basis"=some (some (.ref C9)))
  (l_sums_basis:K.lookup C9=some ⟨Rz,Rw,.func (PySem.W.fnOf "sums_basis" "sums_basis" (As CN) (Ao CN) (Ae CN) .none RA RC RD Rx KG RE),Ry⟩)
  (c_sums_basis:PySem.W.codeIn K KG "sums_basis"=true)
  (k_sums_basis:PySem.W.keepIn K (.ref C9)=true)
  (a_on_basis:PySem.W.nsIn K mainGlobals "on_basis"=some (some (.ref Cd)))
  (l_on_basis:K.lookup Cd=some ⟨Vi,Vf,.func (PySem.W.fnOf "on_basis" "on_basis" (As DO) (Ao DO) (Ae DO) .none Vj Vk Vl Vg NF Vm),Vh⟩)
  (c_on_basis:PySem.W.codeIn K NF "on_basis"=true)
  (k_on_basis:PySem.W.keepIn K (.ref Cd)=true)
  (a_by_worths:PySem.W.nsIn K mainGlobals "by_worths"=some (some (.ref BJ)))
  (l_by_worths:K.lookup BJ=some ⟨T6,T3,.func (PySem.W.fnOf "by_worths" "by_worths" (As CO) (Ao CO) (Ae CO) .none T7 T8 T9 T4 L7 Ua),T5⟩)
  (c_by_worths:PySem.W.codeIn K L7 "by_worths"=true)
  (k_by_worths:PySem.W.keepIn K (.ref BJ)=true)
  (a_sums_access:PySem.W.nsIn K mainGlobals "sums_access"=some (some (.ref Ct)))
  (l_sums_access:K.lookup Ct=some ⟨Ol,Oh,.func (PySem.W.fnOf "sums_access" "sums_access" (As Cm) (Ao Cm) (Ae Cm) .none Om Oo Oq Oi Jj Ot),Oj⟩)
  (c_sums_access:PySem.W.codeIn K Jj "sums_access"=true)
  (k_sums_access:PySem.W.keepIn K (.ref Ct)=true)
  (a_sums_least:PySem.W.nsIn K mainGlobals "sums_least"=some (some (.ref Dj)))
  (l_sums_least:K.lookup Dj=some ⟨RI,RF,.func (PySem.W.fnOf "sums_least" "sums_least" (As CP) (Ao CP) (Ae CP) .none RJ RK RL RG KH RM),RH⟩)
  (c_sums_least:PySem.W.codeIn K KH "sums_least"=true)
  (k_sums_least:PySem.W.keepIn K (.ref Dj)=true)
  (a__law_cell:PySem.W.nsIn K mainGlobals "_law_cell"=some (some (.ref AF)))
  (l__law_cell:K.lookup AF=some ⟨Ue,Ub,.func (PySem.W.fnOf "_law_cell" "_law_cell" (As B1) (Ao B1) (Ae B1) .none Ug Uh Ui Uc L8 Uj),Ud⟩)
  (c__law_cell:PySem.W.codeIn K L8 "_law_cell"=true)
  (k__law_cell:PySem.W.keepIn K (.ref AF)=true)
  (a__law_is_prime:PySem.W.nsIn K mainGlobals "_law_is_prime"=some (some (.ref BH)))
  (l__law_is_prime:K.lookup BH=some ⟨Mp,Mm,.func (PySem.W.fnOf "_law_is_prime" "_law_is_prime" (As BA) (Ao BA) (Ae BA) .none Mq Mr Ms Mn Hx Mt),Mo⟩)
  (c__law_is_prime:PySem.W.codeIn K Hx "_law_is_prime"=true)
  (k__law_is_prime:PySem.W.keepIn K (.ref BH)=true)
  (a__law_prime:PySem.W.nsIn K mainGlobals "_law_prime"=some (some (.ref Dm)))
  (l__law_prime:K.lookup Dm=some ⟨RS,RO,.func (PySem.W.fnOf "_law_prime" "_law_prime" (As CQ) (Ao CQ) (Ae CQ) .none RT RU RV RP KI RW),RQ⟩)
  (c__law_prime:PySem.W.codeIn K KI "_law_prime"=true)
  (k__law_prime:PySem.W.keepIn K (.ref Dm)=true)
  (a__law_whole:PySem.W.nsIn K mainGlobals "_law_whole"=some (some (.ref AN)))
  (l__law_whole:K.lookup AN=some ⟨R0,RX,.func (PySem.W.fnOf "_law_whole" "_law_whole" (As BP) (Ao BP) (Ae BP) .none R1 R3 R4 RY KJ R5),RZ⟩)
  (c__law_whole:PySem.W.codeIn K KJ "_law_whole"=true)
  (k__law_whole:PySem.W.keepIn K (.ref AN)=true)
  (a__law_number:PySem.W.nsIn K mainGlobals "_law_number"=some (some (.ref AG)))
  (l__law_number:K.lookup AG=some ⟨Ox,Ou,.func (PySem.W.fnOf "_law_number" "_law_number" (As Br) (Ao Br) (Ae Br) .none Oy Oz OA Ov Jk OB),Ow⟩)
  (c__law_number:PySem.W.codeIn K Jk "_law_number"=true)
  (k__law_number:PySem.W.keepIn K (.ref AG)=true)
  (a__law_row:PySem.W.nsIn K mainGlobals "_law_row"=some (some (.ref Cc)))
  (l__law_row:K.lookup Cc=some ⟨Vq,Vn,.func (PySem.W.fnOf "_law_row" "_law_row" (As DQ) (Ao DQ) (Ae DQ) .none Vr Vs Vt Vo NG Vu),Vp⟩)
  (c__law_row:PySem.W.codeIn K NG "_law_row"=true)
  (k__law_row:PySem.W.keepIn K (.ref Cc)=true)
  (a__law_row_is:PySem.W.nsIn K mainGlobals "_law_row_is"=some (some (.ref Cs)))
  (l__law_row_is:K.lookup Cs=some ⟨OF,OC,.func (PySem.W.fnOf "_law_row_is" "_law_row_is" (As Cn) (Ao Cn) (Ae Cn) .none OG OH OI OD Jl OJ),OE⟩)
  (c__law_row_is:PySem.W.codeIn K Jl "_law_row_is"=true)
  (k__law_row_is:PySem.W.keepIn K (.ref Cs)=true)
  (a__law_house:PySem.W.nsIn K mainGlobals "_law_house"=some (some (.ref Dn)))
  (l__law_house:K.lookup Dn=some ⟨R9,R6,.func (PySem.W.fnOf "_law_house" "_law_house" (As CS) (Ao CS) (Ae CS) .none Sa Sb Sd R7 KL Se),R8⟩)
  (c__law_house:PySem.W.codeIn K KL "_law_house"=true)
  (k__law_house:PySem.W.keepIn K (.ref Dn)=true)
  (a__law_step:PySem.W.nsIn K mainGlobals "_law_step"=some (some (.ref BI)))
  (l__law_step:K.lookup BI=some ⟨Uo,Uk,.func (PySem.W.fnOf "_law_step" "_law_step" (As CT) (Ao CT) (Ae CT) .none Uq Ur Us Ul L9 Ut),Um⟩)
  (c__law_step:PySem.W.codeIn K L9 "_law_step"=true)
  (k__law_step:PySem.W.keepIn K (.ref BI)=true)
  (a__law_times:PySem.W.nsIn K mainGlobals "_law_times"=some (some (.ref Di)))
  (l__law_times:K.lookup Di=some ⟨Si,Sf,.func (PySem.W.fnOf "_law_times" "_law_times" (As CU) (Ao CU) (Ae CU) .none Sj Sk Sl Sg KN Sn),Sh⟩)
  (c__law_times:PySem.W.codeIn K KN "_law_times"=true)
  (k__law_times:PySem.W.keepIn K (.ref Di)=true)
  (a__law_behind:PySem.W.nsIn K mainGlobals "_law_behind"=some (some (.ref Cu)))
  (l__law_behind:K.lookup Cu=some ⟨ON,OK,.func (PySem.W.fnOf "_law_behind" "_law_behind" (As Co) (Ao Co) (Ae Co) .none OO OP OQ OL Jm OR),OM⟩)
  (c__law_behind:PySem.W.codeIn K Jm "_law_behind"=true)
  (k__law_behind:PySem.W.keepIn K (.ref Cu)=true)
  (a__law_grown:PySem.W.nsIn K mainGlobals "_law_grown"=some (some (.ref Df)))
  (l__law_grown:K.lookup Df=some ⟨Ss,So,.func (PySem.W.fnOf "_law_grown" "_law_grown" (As CV) (Ao CV) (Ae CV) .none Su Sv Sw Sq KO Sx),Sr⟩)
  (c__law_grown:PySem.W.codeIn K KO "_law_grown"=true)
  (k__law_grown:PySem.W.keepIn K (.ref Df)=true)
  (a__law_column_on:PySem.W.nsIn K mainGlobals "_law_column_on"=some (some (.ref Bo)))
  (l__law_column_on:K.lookup Bo=some ⟨LI,LF,.func (PySem.W.fnOf "_law_column_on" "_law_column_on" (As Bn) (Ao Bn) (Ae Bn) .none LJ LK LL LG GK LM),LH⟩)
  (c__law_column_on:PySem.W.codeIn K GK "_law_column_on"=true)
  (k__law_column_on:PySem.W.keepIn K (.ref Bo)=true)
  (a__law_row_less:PySem.W.nsIn K mainGlobals "_law_row_less"=some (some (.ref BK)))
  (l__law_row_less:K.lookup BK=some ⟨My,Mu,.func (PySem.W.fnOf "_law_row_less" "_law_row_less" (As BB) (Ao BB) (Ae BB) .none Mz MA MB Mv Hy MC),Mw⟩)
  (c__law_row_less:PySem.W.codeIn K Hy "_law_row_less"=true)
  (k__law_row_less:PySem.W.keepIn K (.ref BK)=true)
  (a__law_turned:PySem.W.nsIn K mainGlobals "_law_turned"=some (some (.ref Cr)))
  (l__law_turned:K.lookup Cr=some ⟨OV,OS,.func (PySem.W.fnOf "_law_turned" "_law_turned" (As Cp) (Ao Cp) (Ae Cp) .none OW OX OY OT Jn OZ),OU⟩)
  (c__law_turned:PySem.W.codeIn K Jn "_law_turned"=true)
  (k__law_turned:PySem.W.keepIn K (.ref Cr)=true)
  (a__law_another:PySem.W.nsIn K mainGlobals "_law_another"=some (some (.ref B6)))
  (l__law_another:K.lookup B6=some ⟨NM,NH,.func (PySem.W.fnOf "_law_another" "_law_another" (As B2) (Ao B2) (Ae B2) .none NN NO NQ NJ IL NR),NL⟩)
  (c__law_another:PySem.W.codeIn K IL "_law_another"=true)
  (k__law_another:PySem.W.keepIn K (.ref B6)=true)
  (a__law_is_word:PySem.W.nsIn K mainGlobals "_law_is_word"=some (some (.ref B5)))
  (l__law_is_word:K.lookup B5=some ⟨NV,NS,.func (PySem.W.fnOf "_law_is_word" "_law_is_word" (As B3) (Ao B3) (Ae B3) .none NW NX NY NT IM NZ),NU⟩)
  (c__law_is_word:PySem.W.codeIn K IM "_law_is_word"=true)
  (k__law_is_word:PySem.W.keepIn K (.ref B5)=true)
  (a__law_ahead:PySem.W.nsIn K mainGlobals "_law_ahead"=some (some (.ref Dh)))
  (l__law_ahead:K.lookup Dh=some ⟨SD,Sy,.func (PySem.W.fnOf "_law_ahead" "_law_ahead" (As CW) (Ao CW) (Ae CW) .none SE SF SH Sz KQ SI),SA⟩)
  (c__law_ahead:PySem.W.codeIn K KQ "_law_ahead"=true)
  (k__law_ahead:PySem.W.keepIn K (.ref Dh)=true)
  (a__law_all:PySem.W.nsIn K mainGlobals "_law_all"=some (some (.ref EK)))
  (l__law_all:K.lookup EK=some ⟨Vy,Vv,.func (PySem.W.fnOf "_law_all" "_law_all" (As Et) (Ao Et) (Ae Et) .none Vz VA VB Vw N0 VC),Vx⟩)
  (c__law_all:PySem.W.codeIn K N0 "_law_all"=true)
  (k__law_all:PySem.W.keepIn K (.ref EK)=true)
  (a__law_words_good:PySem.W.nsIn K mainGlobals "_law_words_good"=some (some (.ref Bi)))
  (l__law_words_good:K.lookup Bi=some ⟨KW,KR,.func (PySem.W.fnOf "_law_words_good" "_law_words_good" (As Be) (Ao Be) (Ae Be) .none KY KZ K0 KS Gg K1),KU⟩)
  (c__law_words_good:PySem.W.codeIn K Gg "_law_words_good"=true)
  (k__law_words_good:PySem.W.keepIn K (.ref Bi)=true)
  (a__law_house_good:PySem.W.nsIn K mainGlobals "_law_house_good"=some (some (.ref Bj)))
  (l__law_house_good:K.lookup Bj=some ⟨K5,K2,.func (PySem.W.fnOf "_law_house_good" "_law_house_good" (As Bf) (Ao Bf) (Ae Bf) .none K6 K7 K8 K3 Gh K9),K4⟩)
  (c__law_house_good:PySem.W.codeIn K Gh "_law_house_good"=true)
  (k__law_house_good:PySem.W.keepIn K (.ref Bj)=true)
  (a__law_same_worths:PySem.W.nsIn K mainGlobals "_law_same_worths"=some (some (.ref Ba)))
  (l__law_same_worths:K.lookup Ba=some ⟨JV,JS,.func (PySem.W.fnOf "_law_same_worths" "_law_same_worths" (As A5) (Ao A5) (Ae A5) .none JW JX JY JT F5 JZ),JU⟩)
  (c__law_same_worths:PySem.W.codeIn K F5 "_law_same_worths"=true)
  (k__law_same_worths:PySem.W.keepIn K (.ref Ba)=true)
  (a__law_unit:PySem.W.nsIn K mainGlobals "_law_unit"=some (some (.ref DK)))
  (l__law_unit:K.lookup DK=some ⟨Ux,Uu,.func (PySem.W.fnOf "_law_unit" "_law_unit" (As DE) (Ao DE) (Ae DE) .none Uy Uz UA Uv Ma UB),Uw⟩)
  (c__law_unit:PySem.W.codeIn K Ma "_law_unit"=true)
  (k__law_unit:PySem.W.keepIn K (.ref DK)=true)
  (a_law:PySem.W.nsIn K mainGlobals "law"=some (some (.ref Cq_)))
  (l_law:K.lookup Cq_=some ⟨Ei_,Eg_,.func (PySem.W.fnOf "law" "law" (As Ql) (Ao Ql) (Ae Ql) .none BC_ BD_ BE_ BB_ Zy BF_),Eh_⟩)
  (c_law:PySem.W.codeIn K Zy "law"=true)
  (k_law:PySem.W.keepIn K (.ref Cq_)=true)
  (z_all:PySem.W.nsIn K mainGlobals "all"=some none)
  (z_bool:PySem.W.nsIn K mainGlobals "bool"=some none)
  (z_enumerate:PySem.W.nsIn K mainGlobals "enumerate"=some none)
  (z_int:PySem.W.nsIn K mainGlobals "int"=some none)
  (z_isinstance:PySem.W.nsIn K mainGlobals "isinstance"=some none)
  (z_len:PySem.W.nsIn K mainGlobals "len"=some none)
  (z_list:PySem.W.nsIn K mainGlobals "list"=some none)
  (z_max:PySem.W.nsIn K mainGlobals "max"=some none)
  (z_range:PySem.W.nsIn K mainGlobals "range"=some none)
  (z_sum:PySem.W.nsIn K mainGlobals "sum"=some none)
  (z_tuple:PySem.W.nsIn K mainGlobals "tuple"=some none)
  (z_zip:PySem.W.nsIn K mainGlobals "zip"=some none)
  (m_AskError:PySem.W.nsIn K mainGlobals "AskError"=some (some (.ref C_AskError)))
  (m_BadWord:PySem.W.nsIn K mainGlobals "BadWord"=some (some (.ref C_BadWord)))
  (m_NoInverse:PySem.W.nsIn K mainGlobals "NoInverse"=some (some (.ref C_NoInverse)))
  (x_BadWord:PySem.W.excIn K C_BadWord bmV "ValueError.__new__"=true)
  (ga_BadWord:PySem.W.findIn K (.ref C_BadWord) "__getattribute__"=some (some (.builtin "BaseException.__getattribute__")))
  (hk_BadWord:PySem.W.findIn K (.ref C_BadWord) "__getattr__"=some none)
  {cd_BadWord:ClassData}
  (cl_BadWord:PySem.W.clsIn K C_BadWord=some cd_BadWord)
  (ca_BadWord:PySem.W.findIn K (.ref C_BadWord) "__class__"=some (some (.builtin "object.__class__")))
  (mo_BadWord:PySem.W.mroIn K C_BadWord (.type "object")=some true)
  (mb_BadWord:PySem.W.mroIn K C_BadWord (.type "BaseException")=some true)
  (e_BadWord:PySem.W.exmOne K (.ref C_BadWord) (.ref C_AskError)=some true)
  (v_BadWord:PySem.W.kitOne K (.ref C_BadWord) (.type "ValueError")=some true)
  (ee_BadWord:PySem.W.exmOne K (.ref C_BadWord) (.ref C_BadWord)=some true)
  (k_BadWord_AskError:PySem.W.kitOne K (.ref C_BadWord) (.ref C_AskError)=some true)
  (k_BadWord_BadWord:PySem.W.kitOne K (.ref C_BadWord) (.ref C_BadWord)=some true)
  (k_BadWord_NoInverse:PySem.W.kitOne K (.ref C_BadWord) (.ref C_NoInverse)=some false)
  (x_NoInverse:PySem.W.excIn K C_NoInverse bmV "ValueError.__new__"=true)
  (ga_NoInverse:PySem.W.findIn K (.ref C_NoInverse) "__getattribute__"=some (some (.builtin "BaseException.__getattribute__")))
  (hk_NoInverse:PySem.W.findIn K (.ref C_NoInverse) "__getattr__"=some none)
  {cd_NoInverse:ClassData}
  (cl_NoInverse:PySem.W.clsIn K C_NoInverse=some cd_NoInverse)
  (ca_NoInverse:PySem.W.findIn K (.ref C_NoInverse) "__class__"=some (some (.builtin "object.__class__")))
  (mo_NoInverse:PySem.W.mroIn K C_NoInverse (.type "object")=some true)
  (mb_NoInverse:PySem.W.mroIn K C_NoInverse (.type "BaseException")=some true)
  (e_NoInverse:PySem.W.exmOne K (.ref C_NoInverse) (.ref C_AskError)=some true)
  (v_NoInverse:PySem.W.kitOne K (.ref C_NoInverse) (.type "ValueError")=some true)
  (ee_NoInverse:PySem.W.exmOne K (.ref C_NoInverse) (.ref C_NoInverse)=some true)
  (k_NoInverse_AskError:PySem.W.kitOne K (.ref C_NoInverse) (.ref C_AskError)=some true)
  (k_NoInverse_BadWord:PySem.W.kitOne K (.ref C_NoInverse) (.ref C_BadWord)=some false)
  (k_NoInverse_NoInverse:PySem.W.kitOne K (.ref C_NoInverse) (.ref C_NoInverse)=some true)
  (gs:PySem.W.specialIn K (.builtin "object.__class__") "__get__"=some (some (.builtin "getset_descriptor.__get__")))
  (tk:PySem.W.takesIn K (.builtin "object.__class__")=some true)
  : ∃fd:FuncData,(∀(s:Shared) (v:Value),BindsTo s fd ⟨[v],[]⟩ [("script",v)])/\∀base:Heap,K.In base->base.Ns mainGlobals mg->FnOk l.prog w K mg base CX0 10 fa fd ["script"] (As_ K):=by
 have e:=hfa.symm.trans (PySem.W.mg_of X G a_law)
 cases e
 have T:Txt mg:=⟨PySem.W.mg_none_of X G z_all,PySem.W.mg_none_of X G z_bool,PySem.W.mg_none_of X G z_enumerate,PySem.W.mg_none_of X G z_int,PySem.W.mg_none_of X G z_isinstance,PySem.W.mg_none_of X G z_len,PySem.W.mg_none_of X G z_list,PySem.W.mg_none_of X G z_max,PySem.W.mg_none_of X G z_range,PySem.W.mg_none_of X G z_sum,PySem.W.mg_none_of X G z_tuple,PySem.W.mg_none_of X G z_zip⟩
 have Z:Exs K mg C_AskError C_BadWord C_NoInverse:=⟨PySem.W.mg_of X G m_AskError,PySem.W.mg_of X G m_BadWord,PySem.W.mg_of X G m_NoInverse,x_BadWord,⟨ga_BadWord,hk_BadWord,by rw[cl_BadWord];rfl,ca_BadWord,gs,tk,mo_BadWord,mb_BadWord⟩,e_BadWord,v_BadWord,ee_BadWord,k_BadWord_AskError,k_BadWord_BadWord,k_BadWord_NoInverse,x_NoInverse,⟨ga_NoInverse,hk_NoInverse,by rw[cl_NoInverse];rfl,ca_NoInverse,gs,tk,mo_NoInverse,mb_NoInverse⟩,e_NoInverse,v_NoInverse,ee_NoInverse,k_NoInverse_AskError,k_NoInverse_BadWord,k_NoInverse_NoInverse⟩
 have HY:=AI (st:=FE) l_inverse c_inverse k_inverse
 have Nh:=HY.binds (ps:=["p","number"]) fun _ _ _ _ _ _ us hl=>(by obtain⟨y0,y1,rfl⟩:=len2 hl;rfl)
 have Ni:=PySem.W.mg_of X G a_inverse
 have Ga:=AI (st:=F7) l_scaled c_scaled k_scaled
 have IU:=Ga.binds (ps:=["p","factor","row"]) fun _ _ _ _ _ _ us hl=>(by obtain⟨y0,y1,y2,rfl⟩:=len3 hl;rfl)
 have IV:=PySem.W.mg_of X G a_scaled
 have Nf:=AI (st:=Ju) l_added c_added k_added
 have U1:=Nf.binds (ps:=["p","row","other"]) fun _ _ _ _ _ _ us hl=>(by obtain⟨y0,y1,y2,rfl⟩:=len3 hl;rfl)
 have U2:=PySem.W.mg_of X G a_added
 have E3:=AI (st:=E2) l_product c_product k_product
 have GH:=E3.binds (ps:=["p","row","other"]) fun _ _ _ _ _ _ us hl=>(by obtain⟨y0,y1,y2,rfl⟩:=len3 hl;rfl)
 have GI:=PySem.W.mg_of X G a_product
 have AH:=AI (st:=AU) l_place_of_first c_place_of_first k_place_of_first
 have AW:=AH.binds (ps:=["row"]) fun _ _ _ _ _ _ us hl=>(by obtain⟨y0,rfl⟩:=len1 hl;rfl)
 have AX:=PySem.W.mg_of X G a_place_of_first
 have BR:=AI (st:=Dx) l_left_of c_left_of k_left_of
 have Cy:=BR.binds (ps:=["p","bases","row"]) fun _ _ _ _ _ _ us hl=>(by obtain⟨y0,y1,y2,rfl⟩:=len3 hl;rfl)
 have Cz:=PySem.W.mg_of X G a_left_of
 have C0:=AI (st:=CI) l_with_base c_with_base k_with_base
 have Ex:=C0.binds (ps:=["p","bases","left","place"]) fun _ _ _ _ _ _ us hl=>(by obtain⟨y0,y1,y2,y3,rfl⟩:=len4 hl;rfl)
 have Ey:=PySem.W.mg_of X G a_with_base
 have BS:=AI (st:=A4) l_chosen_and_bases c_chosen_and_bases k_chosen_and_bases
 have D9:=BS.binds (ps:=["p","rows","size"]) fun _ _ _ _ _ _ us hl=>(by obtain⟨y0,y1,y2,rfl⟩:=len3 hl;rfl)
 have Ea:=PySem.W.mg_of X G a_chosen_and_bases
 have LZ:=AI (st:=LS) l_unit c_unit k_unit
 have Pg:=LZ.binds (ps:=["size","place"]) fun _ _ _ _ _ _ us hl=>(by obtain⟨y0,y1,rfl⟩:=len2 hl;rfl)
 have Ph:=PySem.W.mg_of X G a_unit
 have Cb:=AI (st:=Bd) l_factors_of_each c_factors_of_each k_factors_of_each
 have EA:=Cb.binds (ps:=["p","rows","some","size"]) fun _ _ _ _ _ _ us hl=>(by obtain⟨y0,y1,y2,y3,rfl⟩:=len4 hl;rfl)
 have EB:=PySem.W.mg_of X G a_factors_of_each
 have Ib:=AI (st:=FF) l_made_of c_made_of k_made_of
 have Nn:=Ib.binds (ps:=["p","rows","parts","size"]) fun _ _ _ _ _ _ us hl=>(by obtain⟨y0,y1,y2,y3,rfl⟩:=len4 hl;rfl)
 have Np:=PySem.W.mg_of X G a_made_of
 have Ia:=AI (st:=FG) l_is_word c_is_word k_is_word
 have Nk:=Ia.binds (ps:=["letters","word"]) fun _ _ _ _ _ _ us hl=>(by obtain⟨y0,y1,rfl⟩:=len2 hl;rfl)
 have Nl:=PySem.W.mg_of X G a_is_word
 have E4:=AI (st:=CJ) l_check_word c_check_word k_check_word
 have Ie:=E4.binds (ps:=["letters","word"]) fun _ _ _ _ _ _ us hl=>(by obtain⟨y0,y1,rfl⟩:=len2 hl;rfl)
 have Ig:=PySem.W.mg_of X G a_check_word
 have C2:=AI (st:=D3) l_stepped c_stepped k_stepped
 have Ec:=C2.binds (ps:=["house","row","letter"]) fun _ _ _ _ _ _ us hl=>(by obtain⟨y0,y1,y2,rfl⟩:=len3 hl;rfl)
 have Ed:=PySem.W.mg_of X G a_stepped
 have E5:=AI (st:=CK) l_rows_along c_rows_along k_rows_along
 have Ii:=E5.binds (ps:=["house","word"]) fun _ _ _ _ _ _ us hl=>(by obtain⟨y0,y1,rfl⟩:=len2 hl;rfl)
 have Ij:=PySem.W.mg_of X G a_rows_along
 have E6:=AI (st:=CL) l_row_behind c_row_behind k_row_behind
 have Il:=E6.binds (ps:=["house","word"]) fun _ _ _ _ _ _ us hl=>(by obtain⟨y0,y1,rfl⟩:=len2 hl;rfl)
 have Im:=PySem.W.mg_of X G a_row_behind
 have Ny:=AI (st:=Jv) l_worth c_worth k_worth
 have U9:=Ny.binds (ps:=["house","word"]) fun _ _ _ _ _ _ us hl=>(by obtain⟨y0,y1,rfl⟩:=len2 hl;rfl)
 have Va:=PySem.W.mg_of X G a_worth
 have E8:=AI (st:=CM) l_table_back c_table_back k_table_back
 have Ip:=E8.binds (ps:=["table"]) fun _ _ _ _ _ _ us hl=>(by obtain⟨y0,rfl⟩:=len1 hl;rfl)
 have Iq:=PySem.W.mg_of X G a_table_back
 have EF:=AI (st:=DD) l_sums_back c_sums_back k_sums_back
 have Ha:=EF.binds (ps:=["house"]) fun _ _ _ _ _ _ us hl=>(by obtain⟨y0,rfl⟩:=len1 hl;rfl)
 have Hb:=PySem.W.mg_of X G a_sums_back
 have Ck:=AI (st:=Cj) l_basis_rows c_basis_rows k_basis_rows
 have DS:=Ck.binds (ps:=["house"]) fun _ _ _ _ _ _ us hl=>(by obtain⟨y0,rfl⟩:=len1 hl;rfl)
 have DT:=PySem.W.mg_of X G a_basis_rows
 have E9:=AI (st:=CN) l_sums_basis c_sums_basis k_sums_basis
 have Iu:=E9.binds (ps:=["house"]) fun _ _ _ _ _ _ us hl=>(by obtain⟨y0,rfl⟩:=len1 hl;rfl)
 have Iv:=PySem.W.mg_of X G a_sums_basis
 have DX:=AI (st:=DO) l_on_basis c_on_basis k_on_basis
 have Fz:=DX.binds (ps:=["house"]) fun _ _ _ _ _ _ us hl=>(by obtain⟨y0,rfl⟩:=len1 hl;rfl)
 have FA:=PySem.W.mg_of X G a_on_basis
 have Dd:=AI (st:=CO) l_by_worths c_by_worths k_by_worths
 have EH:=Dd.binds (ps:=["house"]) fun _ _ _ _ _ _ us hl=>(by obtain⟨y0,rfl⟩:=len1 hl;rfl)
 have EI:=PySem.W.mg_of X G a_by_worths
 have Dr:=AI (st:=Cm) l_sums_access c_sums_access k_sums_access
 have Fv:=Dr.binds (ps:=["house"]) fun _ _ _ _ _ _ us hl=>(by obtain⟨y0,rfl⟩:=len1 hl;rfl)
 have Fw:=PySem.W.mg_of X G a_sums_access
 have Dk:=AI (st:=CP) l_sums_least c_sums_least k_sums_least
 have Fe:=Dk.binds (ps:=["house"]) fun _ _ _ _ _ _ us hl=>(by obtain⟨y0,rfl⟩:=len1 hl;rfl)
 have Ff:=PySem.W.mg_of X G a_sums_least
 have AM:=AI (st:=B1) l__law_cell c__law_cell k__law_cell
 have A0:=AM.binds (ps:=["script","k"]) fun _ _ _ _ _ _ us hl=>(by obtain⟨y0,y1,rfl⟩:=len2 hl;rfl)
 have A1:=PySem.W.mg_of X G a__law_cell
 have C6:=AI (st:=BA) l__law_is_prime c__law_is_prime k__law_is_prime
 have FQ:=C6.binds (ps:=["number"]) fun _ _ _ _ _ _ us hl=>(by obtain⟨y0,rfl⟩:=len1 hl;rfl)
 have FT:=PySem.W.mg_of X G a__law_is_prime
 have Fg:=AI (st:=CQ) l__law_prime c__law_prime k__law_prime
 have IF:=Fg.binds (ps:=["cell"]) fun _ _ _ _ _ _ us hl=>(by obtain⟨y0,rfl⟩:=len1 hl;rfl)
 have IG:=PySem.W.mg_of X G a__law_prime
 have Bm:=AI (st:=BP) l__law_whole c__law_whole k__law_whole
 have BX:=Bm.binds (ps:=["found"]) fun _ _ _ _ _ _ us hl=>(by obtain⟨y0,rfl⟩:=len1 hl;rfl)
 have BY:=PySem.W.mg_of X G a__law_whole
 have A8:=AI (st:=Br) l__law_number c__law_number k__law_number
 have Bv:=A8.binds (ps:=["script","k","p"]) fun _ _ _ _ _ _ us hl=>(by obtain⟨y0,y1,y2,rfl⟩:=len3 hl;rfl)
 have Bw:=PySem.W.mg_of X G a__law_number
 have CD:=AI (st:=DQ) l__law_row c__law_row k__law_row
 have DV:=CD.binds (ps:=["script","at","many","p"]) fun _ _ _ _ _ _ us hl=>(by obtain⟨y0,y1,y2,y3,rfl⟩:=len4 hl;rfl)
 have DW:=PySem.W.mg_of X G a__law_row
 have Eg:=AI (st:=Cn) l__law_row_is c__law_row_is k__law_row_is
 have Hj:=Eg.binds (ps:=["found","due"]) fun _ _ _ _ _ _ us hl=>(by obtain⟨y0,y1,rfl⟩:=len2 hl;rfl)
 have Hk:=PySem.W.mg_of X G a__law_row_is
 have Fh:=AI (st:=CS) l__law_house c__law_house k__law_house
 have II:=Fh.binds (ps:=["script","at","p","letters","many"]) fun _ _ _ _ _ _ us hl=>(by obtain⟨y0,y1,y2,y3,y4,rfl⟩:=len5 hl;rfl)
 have IJ:=PySem.W.mg_of X G a__law_house
 have C8:=AI (st:=CT) l__law_step c__law_step k__law_step
 have ED:=C8.binds (ps:=["p","row","table"]) fun _ _ _ _ _ _ us hl=>(by obtain⟨y0,y1,y2,rfl⟩:=len3 hl;rfl)
 have EE:=PySem.W.mg_of X G a__law_step
 have DZ:=AI (st:=CU) l__law_times c__law_times k__law_times
 have Gd:=DZ.binds (ps:=["p","one","two"]) fun _ _ _ _ _ _ us hl=>(by obtain⟨y0,y1,y2,rfl⟩:=len3 hl;rfl)
 have Ge:=PySem.W.mg_of X G a__law_times
 have Eh:=AI (st:=Co) l__law_behind c__law_behind k__law_behind
 have Hr:=Eh.binds (ps:=["house","word"]) fun _ _ _ _ _ _ us hl=>(by obtain⟨y0,y1,rfl⟩:=len2 hl;rfl)
 have Ht:=PySem.W.mg_of X G a__law_behind
 have Fb:=AI (st:=CV) l__law_grown c__law_grown k__law_grown
 have Iz:=Fb.binds (ps:=["house","script","at"]) fun _ _ _ _ _ _ us hl=>(by obtain⟨y0,y1,y2,rfl⟩:=len3 hl;rfl)
 have IA:=PySem.W.mg_of X G a__law_grown
 have Bp:=AI (st:=Bn) l__law_column_on c__law_column_on k__law_column_on
 have CB:=Bp.binds (ps:=["p","row","i","j","times"]) fun _ _ _ _ _ _ us hl=>(by obtain⟨y0,y1,y2,y3,y4,rfl⟩:=len5 hl;rfl)
 have CC:=PySem.W.mg_of X G a__law_column_on
 have De:=AI (st:=BB) l__law_row_less c__law_row_less k__law_row_less
 have FV:=De.binds (ps:=["p","row","times","other"]) fun _ _ _ _ _ _ us hl=>(by obtain⟨y0,y1,y2,y3,rfl⟩:=len4 hl;rfl)
 have FW:=PySem.W.mg_of X G a__law_row_less
 have Ef:=AI (st:=Cp) l__law_turned c__law_turned k__law_turned
 have Hf:=Ef.binds (ps:=["house","i","j","times"]) fun _ _ _ _ _ _ us hl=>(by obtain⟨y0,y1,y2,y3,rfl⟩:=len4 hl;rfl)
 have Hg:=PySem.W.mg_of X G a__law_turned
 have Dz:=AI (st:=B2) l__law_another c__law_another k__law_another
 have Gw:=Dz.binds (ps:=["house","script","at"]) fun _ _ _ _ _ _ us hl=>(by obtain⟨y0,y1,y2,rfl⟩:=len3 hl;rfl)
 have Gx:=PySem.W.mg_of X G a__law_another
 have Dy:=AI (st:=B3) l__law_is_word c__law_is_word k__law_is_word
 have Gp:=Dy.binds (ps:=["found","letters"]) fun _ _ _ _ _ _ us hl=>(by obtain⟨y0,y1,rfl⟩:=len2 hl;rfl)
 have Gq:=PySem.W.mg_of X G a__law_is_word
 have Fc:=AI (st:=CW) l__law_ahead c__law_ahead k__law_ahead
 have IC:=Fc.binds (ps:=["one","two"]) fun _ _ _ _ _ _ us hl=>(by obtain⟨y0,y1,rfl⟩:=len2 hl;rfl)
 have ID:=PySem.W.mg_of X G a__law_ahead
 have FC:=AI (st:=Et) l__law_all c__law_all k__law_all
 have IY:=FC.binds (ps:=["house","most"]) fun _ _ _ _ _ _ us hl=>(by obtain⟨y0,y1,rfl⟩:=len2 hl;rfl)
 have IZ:=PySem.W.mg_of X G a__law_all
 have Ce:=AI (st:=Be) l__law_words_good c__law_words_good k__law_words_good
 have EM:=Ce.binds (ps:=["words","letters","most"]) fun _ _ _ _ _ _ us hl=>(by obtain⟨y0,y1,y2,rfl⟩:=len3 hl;rfl)
 have EO:=PySem.W.mg_of X G a__law_words_good
 have Cf:=AI (st:=Bf) l__law_house_good c__law_house_good k__law_house_good
 have ES:=Cf.binds (ps:=["found","p","letters","many"]) fun _ _ _ _ _ _ us hl=>(by obtain⟨y0,y1,y2,y3,rfl⟩:=len4 hl;rfl)
 have ET:=PySem.W.mg_of X G a__law_house_good
 have BZ:=AI (st:=A5) l__law_same_worths c__law_same_worths k__law_same_worths
 have El:=BZ.binds (ps:=["one","two"]) fun _ _ _ _ _ _ us hl=>(by obtain⟨y0,y1,rfl⟩:=len2 hl;rfl)
 have Em:=PySem.W.mg_of X G a__law_same_worths
 have F0:=AI (st:=DE) l__law_unit c__law_unit k__law_unit
 have JG:=F0.binds (ps:=["many","place"]) fun _ _ _ _ _ _ us hl=>(by obtain⟨y0,y1,rfl⟩:=len2 hl;rfl)
 have JH:=PySem.W.mg_of X G a__law_unit
 have Ej_:=AI (st:=Ql) l_law c_law k_law
 have EB_:=Ej_.binds (ps:=["script"]) fun _ _ _ _ _ _ us hl=>(by obtain⟨y0,rfl⟩:=len1 hl;rfl)
 have EC_:=PySem.W.mg_of X G a_law
 refine⟨PySem.W.fnOf "law" "law" (As Ql) (Ao Ql) (Ae Ql) .none BC_ BD_ BE_ BB_ Zy BF_,fun s v=>.of_eq rfl,fun base _ _=>?_⟩
 have Ng:=WL (P:=l.prog) (w:=w) (base:=base) HY T Z
 have IT:=Y5 (P:=l.prog) (w:=w) (base:=base) Ga T Z
 have U0:=Aj_ (P:=l.prog) (w:=w) (base:=base) Nf T Z
 have GG:=WM (P:=l.prog) (w:=w) (base:=base) E3 T Z
 have AV:=Lo (P:=l.prog) (w:=w) (base:=base) AH T Z
 have Cw:=WO (P:=l.prog) (w:=w) (base:=base) BR T Z IT Ga IU IV U0 Nf U1 U2
 have Ew:=Tj (P:=l.prog) (w:=w) (base:=base) C0 T Z Ng HY Nh Ni IT Ga IU IV Cw BR Cy Cz
 have D8:=Jy (P:=l.prog) (w:=w) (base:=base) BS T Z AV AH AW AX Cw BR Cy Cz Ew C0 Ex Ey
 have Pf:=Cm_ (P:=l.prog) (w:=w) (base:=base) LZ T Z
 have Ez:=Kj (P:=l.prog) (w:=w) (base:=base) Cb T Z AV AH AW AX Cw BR Cy Cz D8 BS D9 Ea Pf LZ Pg Ph
 have Nm:=WN (P:=l.prog) (w:=w) (base:=base) Ib T Z GG E3 GH GI
 have Nj:=WR (P:=l.prog) (w:=w) (base:=base) Ia T Z
 have Ic:=Qt (P:=l.prog) (w:=w) (base:=base) E4 T Z Nj Ia Nk Nl
 have Eb:=WT (P:=l.prog) (w:=w) (base:=base) C2 T Z Nm Ib Nn Np
 have Ih:=Qu (P:=l.prog) (w:=w) (base:=base) E5 T Z Ic E4 Ie Ig Eb C2 Ec Ed
 have Ik:=Qv (P:=l.prog) (w:=w) (base:=base) E6 T Z Ih E5 Ii Ij
 have U8:=Al_ (P:=l.prog) (w:=w) (base:=base) Ny T Z GG E3 GH GI Ik E6 Il Im
 have Io:=Qw (P:=l.prog) (w:=w) (base:=base) E8 T Z
 have G9:=Tq (P:=l.prog) (w:=w) (base:=base) EF T Z Io E8 Ip Iq
 have DR:=Qy (P:=l.prog) (w:=w) (base:=base) Ck T Z AV AH AW AX Cw BR Cy Cz Ew C0 Ex Ey Eb C2 Ec Ed
 have Ir:=Qz (P:=l.prog) (w:=w) (base:=base) E9 T Z Ez Cb EA EB Eb C2 Ec Ed DR Ck DS DT
 have Fy:=U7 (P:=l.prog) (w:=w) (base:=base) DX T Z Pf LZ Pg Ph U8 Ny U9 Va Ir E9 Iu Iv
 have EG:=Tv (P:=l.prog) (w:=w) (base:=base) Dd T Z G9 EF Ha Hb Fy DX Fz FA
 have Fu:=Of (P:=l.prog) (w:=w) (base:=base) Dr T Z DR Ck DS DT EG Dd EH EI
 have Fd:=QI (P:=l.prog) (w:=w) (base:=base) Dk T Z Fy DX Fz FA EG Dd EH EI
 have AZ:=Ts (P:=l.prog) (w:=w) (base:=base) AM T Z
 have FP:=Mi (P:=l.prog) (w:=w) (base:=base) C6 T Z
 have IE:=QB (P:=l.prog) (w:=w) (base:=base) Fg T Z FP C6 FQ FT
 have BV:=QC (P:=l.prog) (w:=w) (base:=base) Bm T Z
 have Bu:=Oc (P:=l.prog) (w:=w) (base:=base) A8 T Z AZ AM A0 A1
 have DU:=U6 (P:=l.prog) (w:=w) (base:=base) CD T Z Bu A8 Bv Bw
 have Hi:=Od (P:=l.prog) (w:=w) (base:=base) Eg T Z BV Bm BX BY
 have IH:=QF (P:=l.prog) (w:=w) (base:=base) Fh T Z DU CD DV DW
 have EC:=Tt (P:=l.prog) (w:=w) (base:=base) C8 T Z
 have Gb:=QE (P:=l.prog) (w:=w) (base:=base) DZ T Z
 have Hq:=Oe (P:=l.prog) (w:=w) (base:=base) Eh T Z EC C8 ED EE
 have Iy:=QK (P:=l.prog) (w:=w) (base:=base) Fb T Z AZ AM A0 A1 Bu A8 Bv Bw DU CD DV DW
 have CA:=Lu (P:=l.prog) (w:=w) (base:=base) Bp T Z
 have FU:=Ml (P:=l.prog) (w:=w) (base:=base) De T Z
 have He:=Og (P:=l.prog) (w:=w) (base:=base) Ef T Z CA Bp CB CC FU De FV FW
 have Gv:=NB (P:=l.prog) (w:=w) (base:=base) Dz T Z AZ AM A0 A1 Bu A8 Bv Bw Iy Fb Iz IA He Ef Hf Hg
 have Gn:=ND (P:=l.prog) (w:=w) (base:=base) Dy T Z BV Bm BX BY
 have IB:=QL (P:=l.prog) (w:=w) (base:=base) Fc T Z
 have IX:=Ve (P:=l.prog) (w:=w) (base:=base) FC T Z EC C8 ED EE
 have EL:=Kn (P:=l.prog) (w:=w) (base:=base) Ce T Z Gn Dy Gp Gq IB Fc IC ID
 have ER:=Ko (P:=l.prog) (w:=w) (base:=base) Cf T Z BV Bm BX BY Hi Eg Hj Hk
 have Ek:=JD (P:=l.prog) (w:=w) (base:=base) BZ T Z Gb DZ Gd Ge IX FC IY IZ
 have JF:=Tx (P:=l.prog) (w:=w) (base:=base) F0 T Z
 have EA_:=Ef_ (P:=l.prog) (w:=w) (base:=base) Ej_ T Z Fu Dr Fv Fw Fd Dk Fe Ff AZ AM A0 A1 IE Fg IF IG IH Fh II IJ Hq Eh Hr Ht Gv Dz Gw Gx EL Ce EM EO ER Cf ES ET Ek BZ El Em JF F0 JG JH
 exact EA_
theorem walk {l:PySem.W.OpenLaw}{q:Program}{loose:List Str}{XP:(Str->Option Value)->Heap->Prop}{YP:World->Heap->Prop}{d:DefRec}{K:Params->PySem.W.Frag}(hn:l.most=some 63)(hdf:d.params.defaults=[])
  (hY:∀(w:World) (h:Heap),YP w h->(K w.params).In h)
  (F:∀(w:World) (mg:Str->Option Value) (fa:Addr) (h:Heap),(K w.params).In h->h.Ns mainGlobals mg->mg d.name=some (.ref fa) ->
   ∃fd:FuncData,(∀(s:Shared) (u:Value),BindsTo s fd ⟨[u],[]⟩ [("script",u)])/\∀base:Heap,(K w.params).In base->base.Ns mainGlobals mg->FnOk l.prog w (K w.params) mg base CX0 10 fa fd ["script"] (As_ (K w.params))):
  PySem.W.WalkO q loose XP YP l.row.toRowW d [] (fun f vs=>PySem.call f vs):=
 L2.walk_of (n:=63) (k:=10) (x := "script") (CX:=fun _=>CX0) (sp:=fun w=>As_ (K w.params)) hn (by decide) hdf ⟨rfl,by decide,by decide⟩ hY F (fun _ _ a ns hl _ hS=>⟨a,ns,rfl,hS,hl,fun _=>rfl⟩) fun _ _ _ _ _ z=>z
end Mine
structure PySem.W.Fast:Prop where (tw16005583742395708702 tw5226706891218957440 tw16205029761983375002 tw13521082347451428857 tw5560527734021139682 tw12074703634350872072 tw9967386758914056172 tw3017363994369294079 tw8149373014779891526 tw2559371457976328330 tw7214747073904787065 tw10644155007682876793 tw14747843108821607503 tw11478734691952894613 tw17336363887953300353 tw196032308621367745 tw2390804379737764824 tw13424610683183925503 tw14314846015496326055 tw14922166278041699890 tw2152980284366746941 tw14062646999222125462 tw5599805280465192006 tw4060677024136983072 tw14774691223205093586 tw10029676372224661237 tw17352375725674003216 tw10072637254462850200 tw15615153867083224951 tw11943823332697908067 tw16044431733564592969 tw14563018132685781763 tw574094978650833086 tw18331955460972010523 tw7209362771136441885 tw14458830899114001669 tw16050235428079998017 tw10103910992836204644 tw1015146465826323979 tw8955803251171899544 tw2178337028271678697 tw13030189057572658151 tw12946918125634149283 tw8103829356238477390 tw4528311600686129916 tw10923079992476001284 tw500446059431587204 tw13603220579397246332 tw17482975230795536677 tw7491185390639395662 tw5050875594535715208 tw4628802460933071822 tw4059451052073547251 tw4406749496245287900 tw1283053009185880040 tw12177381632358975012 tw353365667875266279 tw2441689312498948335 tw12218573543323321045 tw13305512433560122452 tw13832078199457151062 tw17502252700690954943 tw15572547599149290133 tw3598288005543816560 tw10979964427802652505 tw7088169941071622467 tw3084368018252243758 tw1834139388287213238 tw273333229357339185 tw12850577080254008953 tw9691325127893342832 tw11637958531532851103 tw5765500513520695160 tw13779768566984779175 tw4714912106542605449 tw845990464408945515 tw14217520723373083230 tw17491451699330024337 tw11742245913807355957 tw2861775463703612457 tw10779388631753842098 tw15699376355836805510 tw12098470146584743497 tw198427715495756164 tw2688671493008243621 tw3972899754188705828 tw9813031001133781547 tw2935785233031668929 tw9115384425950266855 tw4308492419161773900 tw10289282815549431601 tw10971382441603048488 tw12431134859736018780 tw705609825312785169 tw1538594423208131410 tw5378942275723315752 tw2483432806527036989 tw8352886281445713097 tw5341001405462297374 tw13910802330071929173 tw11825188816242401062 tw7500603766797851349 tw11774722182038175777 tw15624121178245700599 tw8716851820521111041 tw7410169981334505331 tw14440662439776823988 tw1856347256966970082 tw4474586711650998453 tw5691694126688280734 tw13371422791722316946 tw5256213930303157876 tw1945568376335386222 tw13718152486479739661 tw7748107886252911085 tw13530808813027831750 tw5468147856215332453 tw10845197344349250774 tw14706733890270174060 tw4162323747249039883 tw12769163942016788417 tw3262951722607216321 tw13828930146276263499 tw8193720846403132867 tw5927556868827705671 tw2915218452688739309 tw4519984940989053665 tw7345513574397698441 tw17830273084398146425 tw12951856190847870416 tw10676721309296673531 tw16268401129383246730 tw7835933763164347408 tw3815315462807744451 tw17652571448445473363 tw13580951283707199975 tw4813444133046101304 tw9324072797101502977 tw3208516710193801412 tw13964765836997814126 tw10604716802680296144 tw16193979407481784766 tw17405143712912367632 tw942178593203883230 tw16951958292024250330 tw12608059276818305308 tw14882613099270797049 tw2361006961418825224 tw14339689933593337898 tw7584095836760293816 tw9559865723906738450 tw728610700639367746 tw6154304512451827575 tw13533549928990781363 tw769292557436517895 tw13638191176331773700 tw10907057944692664541 tw17794327249865840394 tw10497170598620309072 tw11902545431421902736 tw16038593723777851113 tw5283277319259923014 tw13480548589127480718 tw9602589189317651135 tw5568034100536710292 tw62627774352356685 tw4835106953439385347 tw9697730393201675307 tw7304044056914785719 tw9619361322390082160 tw4222923777313406195 tw7093245379006716179 tw13229274850058721987 tw9218419224452066403 tw11130877617182852056 tw15036017905348315525 tw8784281298023970788 tw12977169398035971567 tw3384454036619245193 tw5320304709436935021 tw8616598748307078410 tw4160809108124956996 tw7359533881094529396 tw12583378896539977129 tw7055114360635453002 tw8644784106374716945 tw15274737760995208217 tw12463284400087484558 tw14740436261851812997 tw6020161651922431464 tw7823434949093540765 tw7616560366709345592 tw8408434465873884856 tw10676049881095539986 tw9118442940252403424 tw15466478784971636914 tw10976634119791791973 tw8816505326593592774 tw15926773582309338958 tw2194019356264891754 tw11374716096950431555 tw9268595683316909440 tw11516515525517661784 tw593846148371402306 tw4342152971417880922 tw7402269589946178336 tw4195824613394173370 tw1619325723894023946 tw9095143301190014593 tw3881935397062374416 tw2269847788352254193 tw2643213826934100262 tw1499616761212360832 tw4499990144304701808 tw3716496510662859600 tw14883341473091379396 tw442270289817400356 tw16453031712475494177 tw1625659589502311664 tw4176410009592813910 tw11124811558728836607 tw2739060482081387541 tw8926758053264248209 tw13434001911098969483 tw8463361380911613643 tw11660195564544261058 tw8111068816783710627 tw5325063106471248415 tw17937243898826865699 tw5555774960339198586 tw1629427125715205597 tw13233147196844525866 tw11702943654236633357 tw6380858661222333560 tw5315999706432573785 tw9514957115091299855 tw1955023371130231766 tw3244257738175634684 tw1313396910796294917 tw6688594637205637360 tw2840939709404426467 tw13160862087912128796 tw3279485184722819864 tw3956645415590833054 tw1544356614259877699 tw3765191508132683717 tw5719631987238985581 tw976232211142440030 tw9777894576460623559 tw12396971584680195641 tw50959141764508730 tw5790406064409373867 tw16874192419121116530 tw3920339866535848113 tw3612768798427132779 tw16943136388306344539 tw14551099562668360153 tw4452932435490136639 tw14004076222262451189 tw16222676941849923205 tw16068490961156684488 tw11876445623088932413 tw4660751721151846669 tw9133345387114291768 tw3782150710144001664 tw13680212347050018224 tw6028862195966149186 tw11330783139774532203 tw6293767316382142437 tw3505025782042821342 tw11587963163194344802 tw14263935433392771436 tw2936672514021911028 tw8435075544896254672 tw12096522635090563827 tw6900529582687973164 tw4227017362278647524 tw2452117576157600566 tw4393569990232662592 tw7380083714343686088 tw7580859392409244742 tw2214820735058083646 tw8129473522935436561 tw7473180719309180109 tw5895425684102702470 tw4509548246086089988 tw10606734266930272160 tw12585052863005906948 tw2434112460355971152 tw9882810456774697962 tw9408997264771334310 tw8877858301521336920 tw1397255316065128414 tw12214191563829322244 tw8598632134957499021 tw271486821179574150 tw9959102625727894492 tw16623367895886871314 tw6134423258104988784 tw9990086095021336220 tw901142789296385771 tw17634986854085076629 tw6021775534504811367 tw1647560414133126232 tw4564692269208872621 tw5362487600366498363 tw14366372032706025231 tw1717777107549420500 tw15728230418239071442 tw7193800312097723942 tw17580078054580695774 tw10387825648596375790 tw13023045322644896050 tw17876984747328182254 tw13843014443065841202 tw5637541958315076694 tw12886813126173504616 tw7770982285345689204 tw14250022918647420297 tw2591780259587211102 tw2701871288572223545 tw11776979046996771486 tw16616402513407032441 tw3223489270118881761 tw10989515657316168034 tw7435454341970494992 tw3289880634106055074 tw17319633774006363987 tw18004540663736472885 tw4597175065215182661 tw13316161083342726523 tw12247369958101582615 tw7230710253131442577 tw13952221663993052189 tw14789780842694588474 tw17600287216717209711 tw17503954791625185630 tw15474356378563421297 tw4386122340896280261 tw6288957787660700513 tw1860434985398104366 tw4576774437352222851 tw14658545061981252131 tw11082767840956310314 tw3807112714534055169 tw14811238053011223070 tw15902937175131860456 tw11910328228389876591 tw11114864638648268137 tw7794241401627490521 tw11726418348427796063 tw2829211398177498651 tw2197290906078377591 tw9311616279732039981 tw17164522555887324830 tw1340827213998208765 tw12632607531325248584 tw14793711896419974033 tw14164496430164176552 tw3710519984515255524 tw6496878884856416318 tw310769110387837302 tw6124134868489436439 tw9536132226904020735 tw5456091536479538399 tw3912216895099251465 tw6315107558611827953 tw10911689905160992569 tw12196399365223859417 tw16113264312276447620 tw4251173560076468228 tw5755652824120722501 tw5785222391658127680 tw18255823140619452565 tw18079580367539738258 tw4608421226614596241 tw10963568875887085991 tw11693792338771658522 tw17266198643842298474 tw389008049551649503 tw6758636166640857922 tw10717369468694774500 tw15572641757741574898 tw4022551630852936323 tw12720531525576275024 tw18432101241067612635 tw8029643090213573585:True)
open PySem PySem.W PyProof.Rows
set_option maxRecDepth 100000 in
set_option maxHeartbeats 0 in
theorem PySem.Challenge.cw_guessroom_k69_whole_least_holds : PySem.Challenge.rw_guessroom_k69_whole_least.Holds := by
  w_on; o_law; k_head; (case hw => w_witness2)
  k_fill
  refine Mine.walk (l := PySem.Challenge.rw_guessroom_k69_whole_least) rfl rfl (fun w h Y => PySem.W.kIn_of Y) ?F
  case F =>
    intro w mg fa h KX G hmg
    refine' Mine.all_mk KX G hmg ?a_inverse ?l_inverse ?c_inverse ?k_inverse ?a_scaled ?l_scaled ?c_scaled ?k_scaled ?a_added ?l_added ?c_added ?k_added ?a_product ?l_product ?c_product ?k_product ?a_place_of_first ?l_place_of_first ?c_place_of_first ?k_place_of_first ?a_left_of ?l_left_of ?c_left_of ?k_left_of ?a_with_base ?l_with_base ?c_with_base ?k_with_base ?a_chosen_and_bases ?l_chosen_and_bases ?c_chosen_and_bases ?k_chosen_and_bases ?a_unit ?l_unit ?c_unit ?k_unit ?a_factors_of_each ?l_factors_of_each ?c_factors_of_each ?k_factors_of_each ?a_made_of ?l_made_of ?c_made_of ?k_made_of ?a_is_word ?l_is_word ?c_is_word ?k_is_word ?a_check_word ?l_check_word ?c_check_word ?k_check_word ?a_stepped ?l_stepped ?c_stepped ?k_stepped ?a_rows_along ?l_rows_along ?c_rows_along ?k_rows_along ?a_row_behind ?l_row_behind ?c_row_behind ?k_row_behind ?a_worth ?l_worth ?c_worth ?k_worth ?a_table_back ?l_table_back ?c_table_back ?k_table_back ?a_sums_back ?l_sums_back ?c_sums_back ?k_sums_back ?a_basis_rows ?l_basis_rows ?c_basis_rows ?k_basis_rows ?a_sums_basis ?l_sums_basis ?c_sums_basis ?k_sums_basis ?a_on_basis ?l_on_basis ?c_on_basis ?k_on_basis ?a_by_worths ?l_by_worths ?c_by_worths ?k_by_worths ?a_sums_access ?l_sums_access ?c_sums_access ?k_sums_access ?a_sums_least ?l_sums_least ?c_sums_least ?k_sums_least ?a__law_cell ?l__law_cell ?c__law_cell ?k__law_cell ?a__law_is_prime ?l__law_is_prime ?c__law_is_prime ?k__law_is_prime ?a__law_prime ?l__law_prime ?c__law_prime ?k__law_prime ?a__law_whole ?l__law_whole ?c__law_whole ?k__law_whole ?a__law_number ?l__law_number ?c__law_number ?k__law_number ?a__law_row ?l__law_row ?c__law_row ?k__law_row ?a__law_row_is ?l__law_row_is ?c__law_row_is ?k__law_row_is ?a__law_house ?l__law_house ?c__law_house ?k__law_house ?a__law_step ?l__law_step ?c__law_step ?k__law_step ?a__law_times ?l__law_times ?c__law_times ?k__law_times ?a__law_behind ?l__law_behind ?c__law_behind ?k__law_behind ?a__law_grown ?l__law_grown ?c__law_grown ?k__law_grown ?a__law_column_on ?l__law_column_on ?c__law_column_on ?k__law_column_on ?a__law_row_less ?l__law_row_less ?c__law_row_less ?k__law_row_less ?a__law_turned ?l__law_turned ?c__law_turned ?k__law_turned ?a__law_another ?l__law_another ?c__law_another ?k__law_another ?a__law_is_word ?l__law_is_word ?c__law_is_word ?k__law_is_word ?a__law_ahead ?l__law_ahead ?c__law_ahead ?k__law_ahead ?a__law_all ?l__law_all ?c__law_all ?k__law_all ?a__law_words_good ?l__law_words_good ?c__law_words_good ?k__law_words_good ?a__law_house_good ?l__law_house_good ?c__law_house_good ?k__law_house_good ?a__law_same_worths ?l__law_same_worths ?c__law_same_worths ?k__law_same_worths ?a__law_unit ?l__law_unit ?c__law_unit ?k__law_unit ?a_law ?l_law ?c_law ?k_law ?z_all ?z_bool ?z_enumerate ?z_int ?z_isinstance ?z_len ?z_list ?z_max ?z_range ?z_sum ?z_tuple ?z_zip ?m_AskError ?m_BadWord ?m_NoInverse ?x_BadWord ?ga_BadWord ?hk_BadWord ?cl_BadWord ?ca_BadWord ?mo_BadWord ?mb_BadWord ?e_BadWord ?v_BadWord ?ee_BadWord ?k_BadWord_AskError ?k_BadWord_BadWord ?k_BadWord_NoInverse ?x_NoInverse ?ga_NoInverse ?hk_NoInverse ?cl_NoInverse ?ca_NoInverse ?mo_NoInverse ?mb_NoInverse ?e_NoInverse ?v_NoInverse ?ee_NoInverse ?k_NoInverse_AskError ?k_NoInverse_BadWord ?k_NoInverse_NoInverse ?gs ?tk
    (case a_inverse => k_is)
    (case l_inverse => k_is)
    (case c_inverse => k_is)
    (case k_inverse => k_is)
    (case a_scaled => k_is)
    (case l_scaled => k_is)
    (case c_scaled => k_is)
    (case k_scaled => k_is)
    (case a_added => k_is)
    (case l_added => k_is)
    (case c_added => k_is)
    (case k_added => k_is)
    (case a_product => k_is)
    (case l_product => k_is)
    (case c_product => k_is)
    (case k_product => k_is)
    (case a_place_of_first => k_is)
    (case l_place_of_first => k_is)
    (case c_place_of_first => k_is)
    (case k_place_of_first => k_is)
    (case a_left_of => k_is)
    (case l_left_of => k_is)
    (case c_left_of => k_is)
    (case k_left_of => k_is)
    (case a_with_base => k_is)
    (case l_with_base => k_is)
    (case c_with_base => k_is)
    (case k_with_base => k_is)
    (case a_chosen_and_bases => k_is)
    (case l_chosen_and_bases => k_is)
    (case c_chosen_and_bases => k_is)
    (case k_chosen_and_bases => k_is)
    (case a_unit => k_is)
    (case l_unit => k_is)
    (case c_unit => k_is)
    (case k_unit => k_is)
    (case a_factors_of_each => k_is)
    (case l_factors_of_each => k_is)
    (case c_factors_of_each => k_is)
    (case k_factors_of_each => k_is)
    (case a_made_of => k_is)
    (case l_made_of => k_is)
    (case c_made_of => k_is)
    (case k_made_of => k_is)
    (case a_is_word => k_is)
    (case l_is_word => k_is)
    (case c_is_word => k_is)
    (case k_is_word => k_is)
    (case a_check_word => k_is)
    (case l_check_word => k_is)
    (case c_check_word => k_is)
    (case k_check_word => k_is)
    (case a_stepped => k_is)
    (case l_stepped => k_is)
    (case c_stepped => k_is)
    (case k_stepped => k_is)
    (case a_rows_along => k_is)
    (case l_rows_along => k_is)
    (case c_rows_along => k_is)
    (case k_rows_along => k_is)
    (case a_row_behind => k_is)
    (case l_row_behind => k_is)
    (case c_row_behind => k_is)
    (case k_row_behind => k_is)
    (case a_worth => k_is)
    (case l_worth => k_is)
    (case c_worth => k_is)
    (case k_worth => k_is)
    (case a_table_back => k_is)
    (case l_table_back => k_is)
    (case c_table_back => k_is)
    (case k_table_back => k_is)
    (case a_sums_back => k_is)
    (case l_sums_back => k_is)
    (case c_sums_back => k_is)
    (case k_sums_back => k_is)
    (case a_basis_rows => k_is)
    (case l_basis_rows => k_is)
    (case c_basis_rows => k_is)
    (case k_basis_rows => k_is)
    (case a_sums_basis => k_is)
    (case l_sums_basis => k_is)
    (case c_sums_basis => k_is)
    (case k_sums_basis => k_is)
    (case a_on_basis => k_is)
    (case l_on_basis => k_is)
    (case c_on_basis => k_is)
    (case k_on_basis => k_is)
    (case a_by_worths => k_is)
    (case l_by_worths => k_is)
    (case c_by_worths => k_is)
    (case k_by_worths => k_is)
    (case a_sums_access => k_is)
    (case l_sums_access => k_is)
    (case c_sums_access => k_is)
    (case k_sums_access => k_is)
    (case a_sums_least => k_is)
    (case l_sums_least => k_is)
    (case c_sums_least => k_is)
    (case k_sums_least => k_is)
    (case a__law_cell => k_is)
    (case l__law_cell => k_is)
    (case c__law_cell => k_is)
    (case k__law_cell => k_is)
    (case a__law_is_prime => k_is)
    (case l__law_is_prime => k_is)
    (case c__law_is_prime => k_is)
    (case k__law_is_prime => k_is)
    (case a__law_prime => k_is)
    (case l__law_prime => k_is)
    (case c__law_prime => k_is)
    (case k__law_prime => k_is)
    (case a__law_whole => k_is)
    (case l__law_whole => k_is)
    (case c__law_whole => k_is)
    (case k__law_whole => k_is)
    (case a__law_number => k_is)
    (case l__law_number => k_is)
    (case c__law_number => k_is)
    (case k__law_number => k_is)
    (case a__law_row => k_is)
    (case l__law_row => k_is)
    (case c__law_row => k_is)
    (case k__law_row => k_is)
    (case a__law_row_is => k_is)
    (case l__law_row_is => k_is)
    (case c__law_row_is => k_is)
    (case k__law_row_is => k_is)
    (case a__law_house => k_is)
    (case l__law_house => k_is)
    (case c__law_house => k_is)
    (case k__law_house => k_is)
    (case a__law_step => k_is)
    (case l__law_step => k_is)
    (case c__law_step => k_is)
    (case k__law_step => k_is)
    (case a__law_times => k_is)
    (case l__law_times => k_is)
    (case c__law_times => k_is)
    (case k__law_times => k_is)
    (case a__law_behind => k_is)
    (case l__law_behind => k_is)
    (case c__law_behind => k_is)
    (case k__law_behind => k_is)
    (case a__law_grown => k_is)
    (case l__law_grown => k_is)
    (case c__law_grown => k_is)
    (case k__law_grown => k_is)
    (case a__law_column_on => k_is)
    (case l__law_column_on => k_is)
    (case c__law_column_on => k_is)
    (case k__law_column_on => k_is)
    (case a__law_row_less => k_is)
    (case l__law_row_less => k_is)
    (case c__law_row_less => k_is)
    (case k__law_row_less => k_is)
    (case a__law_turned => k_is)
    (case l__law_turned => k_is)
    (case c__law_turned => k_is)
    (case k__law_turned => k_is)
    (case a__law_another => k_is)
    (case l__law_another => k_is)
    (case c__law_another => k_is)
    (case k__law_another => k_is)
    (case a__law_is_word => k_is)
    (case l__law_is_word => k_is)
    (case c__law_is_word => k_is)
    (case k__law_is_word => k_is)
    (case a__law_ahead => k_is)
    (case l__law_ahead => k_is)
    (case c__law_ahead => k_is)
    (case k__law_ahead => k_is)
    (case a__law_all => k_is)
    (case l__law_all => k_is)
    (case c__law_all => k_is)
    (case k__law_all => k_is)
    (case a__law_words_good => k_is)
    (case l__law_words_good => k_is)
    (case c__law_words_good => k_is)
    (case k__law_words_good => k_is)
    (case a__law_house_good => k_is)
    (case l__law_house_good => k_is)
    (case c__law_house_good => k_is)
    (case k__law_house_good => k_is)
    (case a__law_same_worths => k_is)
    (case l__law_same_worths => k_is)
    (case c__law_same_worths => k_is)
    (case k__law_same_worths => k_is)
    (case a__law_unit => k_is)
    (case l__law_unit => k_is)
    (case c__law_unit => k_is)
    (case k__law_unit => k_is)
    (case a_law => k_is)
    (case l_law => k_is)
    (case c_law => k_is)
    (case k_law => k_is)
    (case z_all => k_is)
    (case z_bool => k_is)
    (case z_enumerate => k_is)
    (case z_int => k_is)
    (case z_isinstance => k_is)
    (case z_len => k_is)
    (case z_list => k_is)
    (case z_max => k_is)
    (case z_range => k_is)
    (case z_sum => k_is)
    (case z_tuple => k_is)
    (case z_zip => k_is)
    (case m_AskError => k_is)
    (case m_BadWord => k_is)
    (case m_NoInverse => k_is)
    (case x_BadWord => k_exc)
    (case ga_BadWord => k_is)
    (case hk_BadWord => k_is)
    (case cl_BadWord => k_is)
    (case ca_BadWord => k_is)
    (case mo_BadWord => k_is)
    (case mb_BadWord => k_is)
    (case e_BadWord => kts_exm)
    (case v_BadWord => kit_is)
    (case ee_BadWord => kts_exm)
    (case k_BadWord_AskError => kit_is)
    (case k_BadWord_BadWord => kit_is)
    (case k_BadWord_NoInverse => kit_is)
    (case x_NoInverse => k_exc)
    (case ga_NoInverse => k_is)
    (case hk_NoInverse => k_is)
    (case cl_NoInverse => k_is)
    (case ca_NoInverse => k_is)
    (case mo_NoInverse => k_is)
    (case mb_NoInverse => k_is)
    (case e_NoInverse => kts_exm)
    (case v_NoInverse => kit_is)
    (case ee_NoInverse => kts_exm)
    (case k_NoInverse_AskError => kit_is)
    (case k_NoInverse_BadWord => kit_is)
    (case k_NoInverse_NoInverse => kit_is)
    (case gs => k_is)
    (case tk => k_is)
