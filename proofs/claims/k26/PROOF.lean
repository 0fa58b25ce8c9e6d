import PyProof.Rows.All
import Wide.All
import OpenK.AllK
import Wide.FinOn
import Lean
import PyProof.EqAt
import PyProof.EqKinds
import PyProof.TupleCall
import KE.KRevIter
import PyProof.ListRange
import PyProof.TupleOfGen
import PyProof.Draws
import PyProof.EnumMake
import PyProof.EnumFor
import PyProof.NeKinds
import KE.KDictList
import PyProof.Rows.TupDisplay
import PyProof.ZipIter
import PyProof.Rows.ZipGen
import KE.KItemsList
import PyProof.Rows.SumAny
import PyProof.StrWalks
import PyProof.StrCalls
import PyProof.StrCalls3
import PyProof.StrLawsFirst
import PyProof.StrLawsIn
import PyProof.SliceStr2
import PyProof.StrBlockI
import PyProof.Rows.StrWeight2
import PyProof.ListNew
import PyProof.DictRoadsH
import PyProof.WalkInts
import PyProof.Rows.MinMaxN
import KE.KDictLaws
import PyProof.StrCalls2
import PyProof.StrLawsChain
import KE.KIntText
import KE.KxText
import KE.KMinKey
import KE.KPairComp
import PyProof.MaxThree
import PyProof.DictWalks
import OpenK.KCls
import PyProof.Rows.SortShellK
import KE.KSortTup
import KE.KLam
import KE.KNestM
import PySem.Challenge.RW_guessroom_k26_whole_suite_is_enough
set_option compiler.extract_closed false
local macro_rules | `(tactic| omega) => `(tactic| lia)
namespace Al
abbrev ja_:=@List.length_map
abbrev jb_:=@List.getElem?_eq_some_iff
abbrev jc_:=@PySem.wpAny_bind
abbrev jd_:=@List.mem_of_getElem?
abbrev je_:=@List.getElem?_map
abbrev jf_:=@List.getElem?_eq_getElem
abbrev jg_:=@Nat.le_refl
abbrev jh_:=@List.getD_eq_getElem?_getD
abbrev ji_:=@Int.toNat_natCast
abbrev jj_:=@List.getElem?_append_left
abbrev jk_:=@List.size_toArray
abbrev jl_:=@List.mem_cons_of_mem
abbrev jm_:=@PySem.Heap.get?_push_of_some
abbrev jn_:=@List.mem_cons_self
abbrev jo_:=@List.length_append
abbrev jp_:=@Option.some.inj
abbrev jq_:=@PySem.wpAny_pure
abbrev jr_:=@Bool.false_ne_true
abbrev js_:=@List.mem_singleton
abbrev jt_:=@PySem.Heap.lt_size
abbrev ju_:=@List.getElem?_append_right
abbrev jv_:=@List.mem_map
abbrev jw_:=@List.mem_append_right
abbrev jx_:=@Nat.lt_of_lt_of_le
abbrev jy_:=@PyProof.Rows.wpS_bind
abbrev jz_:=@List.mem_append
abbrev jA_:=@PyProof.Rows.boot_tuple
abbrev jB_:=@List.length_take
abbrev jC_:=@PySem.Heap.get?_push_size
abbrev jD_:=@PySem.F.plainAttrs_list
abbrev jE_:=@PySem.W.mg_of
abbrev jF_:=@PyProof.Rows.wpS_pure
abbrev jG_:=@congrArg
abbrev jH_:=@PySem.boot_len
abbrev jI_:=@PySem.PassesOwn.never
abbrev jJ_:=@List.mem_cons
abbrev jK_:=@List.mem_iff_getElem?
abbrev jL_:=@PySem.F.slot_list_append
abbrev jM_:=@PySem.F.type_list_append
abbrev jN_:=@Nat.ne_of_lt
abbrev jO_:=@List.take_of_length_le
abbrev jP_:=@List.mem_range
abbrev jQ_:=@Bool.false_eq_true
abbrev jR_:=@List.getElem?_eq_none
abbrev jS_:=@List.getElem_of_mem
abbrev jT_:=@List.map_append
abbrev jU_:=@List.take_length
abbrev jV_:=@List.take_add_one
abbrev jW_:=@List.length_cons
abbrev jX_:=@List.map_map
abbrev jY_:=@List.length_singleton
abbrev jZ_:=@Nat.zero_le
abbrev j0_:=@Int.emod_lt_of_pos
abbrev j1_:=@List.map_cons
abbrev j2_:=@List.getElem_mem
abbrev j3_:=@Array.length_toList
abbrev j4_:=@PySem.wpAny_loadPart'
abbrev j5_:=@PySem.Heap.get?_update_other
abbrev j6_:=@List.lookup_cons
abbrev j7_:=@Nat.lt_irrefl
abbrev j8_:=@Int.emod_nonneg
abbrev j9_:=@List.mem_append_left
abbrev qa_:=@Classical.byContradiction
abbrev qb_:=@Bool.and_eq_true
abbrev qc_:=@PySem.W.mg_none_of
abbrev qd_:=@decide_eq_false
abbrev qe_:=@PyProof.Rows.callWith_type1
abbrev qf_:=@PySem.mem_of_lookup
abbrev qg_:=@List.replicate_succ
abbrev qh_:=@decide_eq_true
abbrev qi_:=@List.append_assoc
abbrev qj_:=@List.append_nil
abbrev qk_:=@List.map_congr_left
abbrev ql_:=@Iff.rfl
abbrev qm_:=@Nat.le_trans
abbrev qn_:=@Nat.ne_of_gt
abbrev qo_:=@List.all_eq_true
abbrev qp_:=@PySem.W.kia_one
abbrev qq_:=@decide_eq_true_eq
abbrev qr_:=@PyProof.Rows.KeyOrd.kle_of_klt
abbrev qs_:=@List.length_replicate
abbrev qt_:=@Int.mul_le_mul_of_nonneg_right
abbrev qu_:=@PySem.wpAny_mono
abbrev qv_:=@Ne.symm
abbrev qw_:=@PySem.wpAny_callSpecial?_slot
abbrev qx_:=@Bool.eq_iff_iff
abbrev qy_:=@List.length_nil
abbrev qz_:=@PySem.wpAny_newObj_type
abbrev qA_:=@of_decide_eq_true
abbrev qB_:=@Array.getElem?_eq_getElem
abbrev qC_:=@Nat.sub_self
abbrev qD_:=@List.drop_eq_nil_of_le
abbrev qE_:=@PySem.wpAny_holding
abbrev qF_:=@List.nodup_cons
abbrev qG_:=@List.getElem?_range
abbrev qH_:=@List.idxOf_lt_length_of_mem
abbrev qI_:=@PyProof.Rows.wpS_forRange
abbrev qJ_:=@PyProof.Rows.KeyOrd.kle_refl
abbrev qK_:=@if_false
abbrev qL_:=@List.ext_getElem?
abbrev qM_:=@List.foldl_append
abbrev qN_:=@Option.toList_some
abbrev qO_:=@List.getElem?_set_self
abbrev qP_:=@List.length_pos_of_mem
abbrev qQ_:=@List.length_set
abbrev qR_:=@PySem.Heap.size_push
abbrev qS_:=@List.getElem?_zip_eq_some
abbrev qT_:=@Array.toList_append
abbrev qU_:=@PySem.Heap.get?_update_self
abbrev qV_:=@List.length_erase_of_mem
abbrev qW_:=@Nat.lt_or_ge
abbrev qX_:=@List.length_range
abbrev qY_:=@PySem.F.slot_dict_keyiterator_next
abbrev qZ_:=@List.getElem_idxOf
abbrev q0_:=@List.reverse_reverse
abbrev q1_:=@List.pairwise_append
abbrev q2_:=@List.mem_reverse
abbrev q3_:=@List.reverse_append
abbrev q4_:=@List.mem_map_of_mem
abbrev q5_:=@List.drop_eq_getElem_cons
abbrev q6_:=@List.foldl_cons
abbrev q7_:=@List.take_append_drop
abbrev q8_:=@List.pairwise_reverse
abbrev q9_:=@PySem.wpAny_field
abbrev xa_:=@List.length_drop
abbrev xb_:=@PySem.wpAny_call_entry
abbrev xc_:=@PySem.wpAny_typeNameOfWhole_keyiter
abbrev xd_:=@PyProof.Rows.KeyOrd.kle_trans
abbrev xe_:=@List.getElem?_set_ne
abbrev xf_:=@List.mem_erase_of_ne
abbrev xg_:=@List.mem_of_mem_take
abbrev xh_:=@PyProof.Rows.boot_isinstance
abbrev xi_:=@Nat.lt_succ_of_lt
abbrev xj_:=@Nat.not_lt_zero
abbrev xk_:=@Int.toNat_of_nonneg
abbrev xl_:=@PyProof.Rows.boot_list
abbrev xm_:=@PySem.F.slot_tuple_iterator_next
abbrev xn_:=@PySem.Calls.spliced_cons
abbrev xo_:=@PySem.wpAny_Call_Name_kw
abbrev xp_:=@Array.getElem?_toList
abbrev xq_:=@of_decide_eq_false
abbrev xr_:=@List.getElem?_eq_none_iff
abbrev xs_:=@PySem.F.plain_extend_loop
abbrev xt_:=@List.mem_of_find?_eq_some
abbrev xu_:=@List.pairwise_iff_getElem
abbrev xv_:=@PySem.wpAny_truthy_bool
abbrev xw_:=@PySem.wpAny_passesOwn
abbrev xx_:=@List.of_mem_zip
abbrev xy_:=@Option.isSome_iff_exists
abbrev xz_:=@List.getElem?_take_of_lt
abbrev xA_:=@PyProof.Rows.slot_tuple_getitem
abbrev xB_:=@List.flatten_cons
abbrev xC_:=@PySem.call_meets
abbrev xD_:=@PySem.wpAny_typeNameOf_keyiter
abbrev xE_:=@List.pairwise_map
abbrev xF_:=@Nat.le_of_succ_le
abbrev xG_:=@List.cons.injEq
abbrev xH_:=@List.idxOf_lt_length_iff
abbrev xI_:=@Nat.lt_trans
abbrev xJ_:=@Int.le_of_lt
abbrev xK_:=@if_true
abbrev xL_:=@PySem.wpAny_attempt
abbrev xM_:=@List.length_reverse
abbrev xN_:=@List.getElem_inj
abbrev xO_:=@PySem.W.cellsFrom_some
abbrev xP_:=@PySem.wpAny_pyIter_tuple
abbrev xQ_:=@List.find?_eq_none
abbrev xR_:=@List.map_nil
abbrev xS_:=@List.nil_append
abbrev xT_:=@List.find?_cons
abbrev xU_:=@List.range_succ
abbrev xV_:=@PySem.Calls.spliced_nil
abbrev xW_:=@PyProof.Rows.wpS_mono
abbrev xX_:=@Array.perm_iff_toList_perm
abbrev xY_:=@List.mem_iff_getElem
abbrev xZ_:=@Array.toList_reverse
abbrev x0_:=@List.mem_or_eq_of_mem_set
abbrev x1_:=@PySem.IsL.update
abbrev x2_:=@List.any_eq_true
abbrev x3_:=@PySem.Heap.SameBut.update
abbrev x4_:=@Nat.le_of_lt
abbrev x5_:=@PySem.F.args_tuple_add_2
abbrev x6_:=@PySem.wpAny_comprehension_free
abbrev x7_:=@List.getElem?_replicate
abbrev x8_:=@PySem.F.entry_tuple_add
abbrev x9_:=@Option.isSome_some
abbrev za_:=@PySem.tupleKind_room_in1
abbrev zb_:=@List.getElem?_cons_zero
abbrev zc_:=@PySem.Obj.data_mapFields
abbrev zd_:=@PyProof.Rows.KK_mirror_equal
abbrev ze_:=@List.set_cons_zero
abbrev zf_:=@List.map_replicate
abbrev zg_:=@PySem.F.slot_tuple_add
abbrev zh_:=@PySem.Calls.callWith_builtin
abbrev zi_:=@List.reverse_replicate
abbrev zj_:=@Option.some.injEq
abbrev zk_:=@Int.le_refl
abbrev zl_:=@List.nodup_append
abbrev zm_:=@PySem.wpAny_dictEntries
abbrev zn_:=@Int.mul_nonneg
abbrev zo_:=@PySem.wpAny_seqItems
abbrev zp_:=@PySem.F.slot_dict_get
abbrev zq_:=@PySem.wpAny_isOneOf_keyiter
abbrev zr_:=@Nat.zero_add
abbrev zs_:=@PyProof.Rows.boot_max
abbrev zt_:=@Nat.lt_succ_self
abbrev zu_:=@PySem.AutoSeq1.idx_int
abbrev zv_:=@PySem.F.slot_tuple_mul
abbrev zw_:=@List.cons_append
abbrev zx_:=@List.nodup_range
abbrev zy_:=@List.mem_flatMap
abbrev zz_:=@PySem.Calls.evalArgs_plain
abbrev zA_:=@PySem.F.args_list_append_2
abbrev zB_:=@List.any_cons
abbrev zC_:=@PyProof.Rows.wpS_modify
abbrev zD_:=@beq_eq_false_iff_ne
abbrev zE_:=@List.mem_filter
abbrev zF_:=@List.filterMap_cons
abbrev zG_:=@PySem.wpAny_execs_nil
abbrev zH_:=@PySem.F.slot_int_rmul
abbrev zI_:=@List.idxOf_cons
abbrev zJ_:=@PySem.F.slot_zip_next
abbrev zK_:=@PySem.wpAny_updateSeq
abbrev zL_:=@List.length_pos_iff
abbrev zM_:=@List.length_zip
abbrev zN_:=@List.find?_some
abbrev zO_:=@List.toList_toArray
abbrev zP_:=@List.zip_cons_cons
abbrev zQ_:=@List.map_inj_right
abbrev zR_:=@Int.zero_add
abbrev zS_:=@Bool.not_false
abbrev zT_:=@List.take_zero
abbrev zU_:=@PySem.W.kitx_list
abbrev zV_:=@PySem.list_append
abbrev zW_:=@beq_iff_eq
abbrev zX_:=@Array.toList_push
abbrev zY_:=@List.idxOf_append
abbrev zZ_:=@List.getElem_drop
abbrev z0_:=@Nat.le_succ
abbrev z1_:=@Int.add_mul
abbrev z2_:=@Bool.not_true
abbrev z3_:=@Nat.not_lt
abbrev α0:=List (List (List Int))
abbrev α1:=List (List Int)
abbrev α2:=List Int
abbrev α3:=PySem.W.Frag
abbrev α5:=Option PySem.Value
abbrev α6:=PySem.FuncData
abbrev α7:=List (PySem.Addr×PySem.Obj)
end Al
open Al
open PySem.W (nsIn keepIn codeIn fnOf kitOne)
set_option Elab.async false
set_option linter.all false
set_option maxRecDepth 100000
namespace L2
open PySem PySem.Spec PyProof.Rows
abbrev Key:=Sum Int Str
def Rs:Key->Value->Bool
 |.inl k,v=>Value.isInt k v
 |.inr x,v=>Value.isStrOf x v
def keyH (w:World):Key->Int
 |.inl k=>hashInt k
 |.inr x=>hashStr w x
theorem BM:∀{k:Key} {v:Value},Rs k v=true->(∃i t,k=Sum.inl i/\v=Value.int i t)\/(∃x t,k=Sum.inr x/\v=Value.str x t)
 |.inl i,v,h=>by
  obtain⟨t,e⟩:=Value.isInt_shape (k:=i) (v:=v) h
  exact .inl ⟨i,t,rfl,e⟩
 |.inr x,v,h=>by
  obtain⟨t,e⟩:=Value.isStrOf_shape (x:=x) (v:=v) h
  exact .inr ⟨x,t,rfl,e⟩
theorem VB (i:Int)(t:Tok):Rs (.inl i) (.int i t)=true:=by simp[Rs,Value.isInt]
theorem VC (x:Str)(t:Tok):Rs (.inr x) (.str x t)=true:=by simp[Rs,Value.isStrOf]
theorem By_ (a b:Int):decide ((Sum.inl a:Key)=Sum.inl b)=(a==b):=by
 by_cases e:a=b
 ·subst e;simp
 ·have h:¬ (Sum.inl a:Key)=Sum.inl b:=fun q=>e (Sum.inl.inj q)
  rw[qd_ h]
  exact (zD_.mpr e).symm
theorem Bz_ (a b:Str):decide ((Sum.inr a:Key)=Sum.inr b)=decide (a=b):=by
 by_cases e:a=b
 ·subst e;simp
 ·have h:¬ (Sum.inr a:Key)=Sum.inr b:=fun q=>e (Sum.inr.inj q)
  rw[qd_ h,qd_ e]
theorem BA_ (a:Int)(b:Str):decide ((Sum.inl a:Key)=Sum.inr b)=false:=qd_ (fun q=>nomatch q)
theorem BB_ (a:Str)(b:Int):decide ((Sum.inr a:Key)=Sum.inl b)=false:=qd_ (fun q=>nomatch q)
def BV (prog:Program)(w:World):PySem.KeyKind prog w Key where
 is:=Rs
 hash:=keyH w
 inj:=fun v a b ha hb=>by
  rcases BM ha with ⟨i,t,rfl,rfl⟩|⟨x,t,rfl,rfl⟩
  ·rcases BM hb with ⟨j,u,rfl,e⟩|⟨y,u,rfl,e⟩
   ·injection e with e1 _;rw[e1]
   ·exact nomatch e
  ·rcases BM hb with ⟨j,u,rfl,e⟩|⟨y,u,rfl,e⟩
   ·exact nomatch e
   ·injection e with e1 _;rw[e1]
 byValue:=fun k v h=>by
  rcases BM h with ⟨i,t,rfl,rfl⟩|⟨x,t,rfl,rfl⟩<;>rfl
 pyHash:=fun hv h=>by
  rcases BM hv with ⟨i,t,rfl,rfl⟩|⟨x,t,rfl,rfl⟩
  ·exact wpAny_pyHash_int h
  ·exact wpAny_pyHash_str h
 eqBool:=fun hu hv h=>by
  rcases BM hu with ⟨i,t,rfl,rfl⟩|⟨x,t,rfl,rfl⟩
  ·rcases BM hv with ⟨j,u,rfl,rfl⟩|⟨y,u,rfl,rfl⟩
   ·rw[By_]at h;exact wpAny_eqBool_int h
   ·rw[BA_]at h;exact SeqAt.EqAt.int_str i t y u _ _ _ _ h
  ·rcases BM hv with ⟨j,u,rfl,rfl⟩|⟨y,u,rfl,rfl⟩
   ·rw[BB_]at h;exact SeqAt.EqAt.str_int x t j u _ _ _ _ h
   ·rw[Bz_]at h;exact wpAny_eqBool_str h
 «strs» := fun k x t v h=>by
  rcases BM h with ⟨i,u,rfl,e⟩|⟨y,u,rfl,e⟩
  ·exact nomatch e
  ·injection e with e1 _
   subst e1
   cases v<;>rfl
theorem Rt (prog:Program)(w:World)(i:Int)(t:Tok):(BV prog w).is (.inl i) (.int i t)=true:=VB i t
theorem Ru (prog:Program)(w:World)(x:Str)(t:Tok):(BV prog w).is (.inr x) (.str x t)=true:=VC x t
inductive V where
 | non|bl (b:Bool)|int (i:Int)|str (x:Str)|byt (b:Array UInt8)|flt (b:UInt64)|ref (a:Addr)|ty (n:String)
 deriving DecidableEq
def RelV:V->Value->Prop
 |.non,u=>u=Value.none
 |.bl b,u=>u=Value.bool b
 |.int i,u=>∃t,u=Value.int i t
 |.str x,u=>∃t,u=Value.str x t
 |.byt b,u=>∃t,u=Value.bytes b t
 |.flt b,u=>∃t,u=Value.float b t
 |.ref a,u=>u=Value.ref a
 |.ty n,u=>u=Value.type n
abbrev Vals:List V->List Value->Prop:=Paired RelV
theorem Vals.length   (r:Vals xs us):xs.length=us.length:=Paired.length r
theorem Vals.get:∀{xs:List V} {us:List Value} {i:Nat} {x:V},Vals xs us->xs[i]?=some x->∃u,us[i]?=some u/\RelV x u
 |_,_,_,_,.nil,e=>by simp at e
 |_,_,0,_,.cons r _,e=>by simp at e;subst e;exact⟨_,rfl,r⟩
 |_,_,i+1,x,.cons _ t,e=>by
  obtain⟨u,h1,h2⟩:=Vals.get (i:=i) (x:=x) t (by simpa using e)
  exact⟨u,by simpa using h1,h2⟩
theorem Vals.set {x:V}{u:Value}(r:RelV x u):∀{xs:List V} {us:List Value} (i:Nat),Vals xs us->Vals (xs.set i x) (us.set i u)
 |_,_,_,.nil=>.nil
 |_,_,0,.cons _ t=>.cons r t
 |_,_,i+1,.cons q t=>.cons q (Vals.set r i t)
theorem Vals.append:∀{xs ys:List V} {us ws:List Value},Vals xs us->Vals ys ws->Vals (xs++ys) (us++ws)
 |_,_,_,_,.nil,s=>s
 |_,_,_,_,.cons r t,s=>.cons r (Vals.append t s)
theorem Vals.take:∀{xs:List V} {us:List Value} (n:Nat),Vals xs us->Vals (xs.take n) (us.take n)
 |_,_,0,_=>.nil
 |_,_,_+1,.nil=>.nil
 |_,_,n+1,.cons r t=>.cons r (Vals.take n t)
theorem Vals.drop:∀{xs:List V} {us:List Value} (n:Nat),Vals xs us->Vals (xs.drop n) (us.drop n)
 |_,_,0,r=>r
 |_,_,_+1,.nil=>.nil
 |_,_,n+1,.cons _ t=>Vals.drop n t
def RelO:Option V->α5->Prop
 |some v,some u=>RelV v u
 |none,none=>True
 |_,_=>False
def KV {κ:Type}:List (κ×V)->List (κ×Value)->Prop:=Paired fun (p:κ×V) (q:κ×Value)=>p.1=q.1/\RelV p.2 q.2
def kV:Key->V
 |.inl i=>.int i
 |.inr x=>.str x
inductive HO where
 | lst (xs:List V)
 | tup (xs:List V)
 | dK (kvs:List (Key×V))|dT (kvs:List (List Key×V))
 | set (S:Int->Bool) (n:Nat)
 | ins (C dx:Addr) (fs:List (Str×V))
 | own (x:Addr)
 | xd (fs:List (Str×V))
 | met (f x:Addr)
 | rng (lo hi:Int)
 | frz (o:Obj) (u:HO)
 | tbl (ps:Array Value)
 | ext (φ:Heap->Prop)
abbrev Hp:=Addr->Option HO
def upd (H:Hp)(a:Addr)(o:HO):Hp:=fun b=>if b=a then some o else H b
theorem Ab    : upd H a o a=some o:=by unfold upd;rw[if_pos rfl]
theorem Ai    (h:b≠a):upd H a o b=H b:=by unfold upd;rw[if_neg h]
theorem Dv_ {H:Hp}{a b:Addr}{o u:HO}(h:H a=some o)(h':H b=some u)(d:o≠u):a≠b:=by
 intro e;subst e;rw[h]at h';exact d (jp_ h')
theorem AA {H:Hp}{a b:Addr}{o:HO}(h:H a=some o)(h':H b=none):a≠b:=by
 intro e;subst e;rw[h]at h';cases h'
section
variable (P:Program) (w:World)
def B6 (H:Hp)(h:Heap)(a:Addr):HO->Prop
 |.lst xs=>xs.length<=sizeLine/\∃(its:List Value) (n:Nat),Vals xs its/\h.get? a=some {cls:=.type "list",data:=.seq its.toArray n}
 |.tup xs=>xs.length<=sizeLine/\∃its:List Value,Vals xs its/\IsTup h a its.toArray
 |.dK kvs=>kvs.length<=sizeLine/\(a==sysModules)=false/\∃vs,KV kvs vs/\h.DictOf (BV P w) a vs
 |.dT kvs=>kvs.length<=sizeLine/\(a==sysModules)=false/\∃xs:List (List Key×Addr×Value),
   Paired (fun (p:List Key×V) (q:List Key×Addr×Value)=>p.1=q.1/\H q.2.1=some (.tup (p.1.map kV))/\RelV p.2 q.2.2) kvs xs /\
   ∃o es ep,h.get? a=some o/\o.ExactDict/\o.data=.dict es ep/\es.toList=xs.map (entryOfKey (tupleKind (BV P w)))/\(xs.map (·.1)).Nodup
 |.set S n=>h.SetOf (intKind P w) a S n
 |.ins C dx fs=>H dx=some (.own a)/\fs.length<=1000/\dx≠a/\h.get? a=some (PySem.W.instObj C dx) /\
   ∃mA,h.Ns1 dx mA/\(∀f,RelO (fs.lookup f) (mA f))/\PySem.Within mA (fs.map (·.1))
 |.own _=>∃o,h.get? a=some o
 |.xd fs=>∃mA,h.Ns1 a mA/\∀f,RelO (fs.lookup f) (mA f)
 |.rng lo hi=>∃t u v,h.get? a=some {cls:=.type "range",data:=.fields #[.int lo t,.int hi u,.int 1 v]}
 |.frz o u=>h.get? a=some o/\B6 H h a u
 |.tbl ps=>h.get? a=some {cls:=.none,data:=.fields ps}
 |.met f x=>h.get? a=some (PySem.W.methodObj (.ref f) (.ref x))
 |.ext φ=>φ h/\(∃o,h.get? a=some o)/\∀h1 h2:Heap,φ h1->(∀o,h1.get? a=some o->h2.get? a=some o)->φ h2
def HOk (H:Hp)(h:Heap):Prop:=∀a o,H a=some o->B6 P w H h a o
end
section
variable {P:Program} {w:World} {H H':Hp} {h h':Heap} {a:Addr} {o:HO}
theorem B6.lt (x:B6 P w H h a o):a<h.objs.size:=by
 cases o with
 |lst xs=>obtain⟨_,_,_,_,e⟩:=x;exact jt_ e
 |tup xs=>obtain⟨_,_,_,p⟩:=x;exact p.lt
 |dK kvs=>obtain⟨_,_,_,_,o,_,_,e,_⟩:=x;exact jt_ e
 |dT kvs=>obtain⟨_,_,_,_,o,_,_,e,_⟩:=x;exact jt_ e
 |set S n=>obtain⟨o,_,_,_,e,_⟩:=x;exact jt_ e
 |ins C dx fs=>obtain⟨_,_,_,e,_⟩:=x;exact jt_ e
 |own y=>obtain⟨_,e⟩:=x;exact jt_ e
 |xd fs=>obtain⟨_,⟨_,_,_,e,_⟩,_⟩:=x;exact jt_ e
 |rng lo hi=>obtain⟨_,_,_,e⟩:=x;exact jt_ e
 |frz ob u=>obtain⟨e,_⟩:=x;exact jt_ e
 |tbl ps=>exact jt_ (show h.get? a=some _ from x)
 |met f y=>exact jt_ (show h.get? a=some _ from x)
 |ext φ=>obtain⟨_,⟨_,e⟩,_⟩:=x;exact jt_ e
theorem Paired.mapP {α β:Type}{F G:α->β->Prop}:∀{l₁:List α} {l₂:List β},Paired F l₁ l₂->(∀a b,F a b->G a b)->Paired G l₁ l₂
 |_,_,.nil,_=>.nil
 |_,_,.cons r t,f=>.cons (f _ _ r) (Paired.mapP t f)
theorem B6.stay (x:B6 P w H h a o)(k:∀b u,(b=a\/H b=some (.own a))->h.get? b=some u->h'.get? b=some u)
  (ho:∀b,H b=some (.own a)->H' b=some (.own a)) (ht:∀b xs,H b=some (.tup xs)->H' b=some (.tup xs)):B6 P w H' h' a o:=by
 induction o with
 |lst xs=>obtain⟨z,its,n,r,e⟩:=x;exact⟨z,its,n,r,k _ _ (.inl rfl) e⟩
 |tup xs=>obtain⟨z,its,r,ob,e,c⟩:=x;exact⟨z,its,r,ob,k _ _ (.inl rfl) e,c⟩
 |dK kvs=>obtain⟨z,y,vs,r,ob,es,ep,e,c⟩:=x;exact⟨z,y,vs,r,ob,es,ep,k _ _ (.inl rfl) e,c⟩
 |dT kvs=>
  obtain⟨z,y,xs,r,ob,es,ep,e,c⟩:=x
  exact⟨z,y,xs,Paired.mapP r fun p q z=>⟨z.1,ht _ _ z.2.1,z.2.2⟩,ob,es,ep,k _ _ (.inl rfl) e,c⟩
 |set S n=>obtain⟨ob,es,ep,t,e,c⟩:=x;exact⟨ob,es,ep,t,k _ _ (.inl rfl) e,c⟩
 |ins C dx fs=>
  obtain⟨d,z,ne,e,mA,⟨od,es,ep,e2,c⟩,r⟩:=x
  exact⟨ho _ d,z,ne,k _ _ (.inl rfl) e,mA,⟨od,es,ep,k _ _ (.inr d) e2,c⟩,r⟩
 |own y=>obtain⟨ob,e⟩:=x;exact⟨ob,k _ _ (.inl rfl) e⟩
 |xd fs=>obtain⟨mA,⟨od,es,ep,e,c⟩,r⟩:=x;exact⟨mA,⟨od,es,ep,k _ _ (.inl rfl) e,c⟩,r⟩
 |rng lo hi=>obtain⟨t,u,v,e⟩:=x;exact⟨t,u,v,k _ _ (.inl rfl) e⟩
 |frz ob u ih=>obtain⟨e,q⟩:=x;exact⟨k _ _ (.inl rfl) e,ih q⟩
 |tbl ps=>
  have e:h.get? a=some {cls:=.none,data:=.fields ps}:=x
  show h'.get? a=some {cls:=.none,data:=.fields ps}
  exact k a _ (.inl rfl) e
 |met f y=>
  have e:h.get? a=some (PySem.W.methodObj (.ref f) (.ref y)):=x
  show h'.get? a=some (PySem.W.methodObj (.ref f) (.ref y))
  exact k a _ (.inl rfl) e
 |ext φ=>obtain⟨p,⟨o,e⟩,st⟩:=x;exact⟨st _ _ p fun o q=>k _ _ (.inl rfl) q,⟨o,k _ _ (.inl rfl) e⟩,st⟩
theorem HOk.lt (x:HOk P w H h)(e:H a=some o):a<h.objs.size:=(x a o e).lt
theorem HOk.fresh (x:HOk P w H h)(e:h.objs.size<=a):H a=none:=by
 cases q:H a with
 |none=>rfl
 |some u=>exact absurd (jx_ (x.lt q) e) (j7_ _)
theorem HOk.kept (x:HOk P w H h)(k:∀b u,h.get? b=some u->h'.get? b=some u):HOk P w H h':=fun a o e=>
 (x a o e).stay (fun b u _ q=>k b u q) (fun _ q=>q) fun _ _ q=>q
theorem HOk.laid (x:HOk P w H h)(k:∀b u,h.get? b=some u->h'.get? b=some u)(hp:h.objs.size<=a)(new:B6 P w (upd H a o) h' a o):HOk P w (upd H a o) h':=fun b u e=>by
 have hn:=x.fresh hp
 by_cases hb:b=a
 ·subst hb;rw[Ab]at e;cases e;exact new
 ·rw[Ai hb]at e
  exact (x b u e).stay (fun c v _ q=>k c v q) (fun c q=>by rw[Ai (AA q hn)];exact q) fun c xs q=>by rw[Ai (AA q hn)];exact q
end
def Rd (H:Hp)(a:Addr)(u:HO):Prop:=H a=some u \/ ∃o,H a=some (.frz o u)
theorem Rd.ok       (r:Rd H a u)(x:HOk P w H h):B6 P w H h a u:=by
 rcases r with r|⟨o,r⟩
 ·exact x a u r
 ·obtain⟨_,q⟩:=x a _ r
  exact q
def Mut:Option HO->Prop
 |some (.lst _)=>True
 |some (.dK _)=>True
 |some (.dT _)=>True
 |some (.set _ _)=>True
 |some (.ins _ _ _)=>True
 |some (.ext _)=>True
 |_=>False
section
variable {P:Program} {w:World} {H:Hp} {h h':Heap} {x e:Addr} {o':HO}
theorem HOk.write (ok:HOk P w H h)(mu:Mut (H x))(he:e=x\/H e=some (.own x))(k:∀b u,b≠e->h.get? b=some u->h'.get? b=some u)(gF:∃u,h'.get? e=some u)
  (new:B6 P w (upd H x o') h' x o'):HOk P w (upd H x o') h':=fun b u q=>by
 have nown:∀c y,H c=some (.own y)->c≠x:=fun c y r z=>by subst z;rw[r]at mu;exact mu
 have ntup:∀c xs,H c=some (.tup xs)->c≠x:=fun c xs r z=>by subst z;rw[r]at mu;exact mu
 by_cases hb:b=x
 ·subst hb;rw[Ab]at q;cases q;exact new
 ·rw[Ai hb]at q
  by_cases gZ:b=e
  ·have q':H b=some (.own x):=by
    rcases he with z|z
    ·exact absurd (gZ.trans z) hb
    ·rw[gZ];exact z
   rw[q]at q';cases q'
   obtain⟨v,hv⟩:=gF
   exact⟨v,by rw[gZ];exact hv⟩
  ·refine (ok b u q).stay (fun c v hc r=>k c v ?_ r) (fun c r=>by rw[Ai (nown c b r)];exact r) fun c xs r=>by rw[Ai (ntup c xs r)];exact r
   rcases hc with rfl|hc
   ·exact gZ
   ·rintro rfl
    rcases he with z|z
    ·exact nown c b hc z
    ·rw[hc]at z;cases z;exact hb rfl
end
structure Un (fs ex:List Addr)(H H':Hp)(h h':Heap):Prop where
 keep:∀b o,h.get? b=some o->H b=none->b∉fs->b∉ex->h'.get? b=some o
 slot:∀b o,h.get? b=some o->H b=none->b∈fs->b∉ex->∃sl,h'.get? b=some {o with slots:=sl}
 free:∀b o,h.get? b=some o->H b=none->b∉ex->H' b=none
 there:∀b o,h.get? b=some o->b∉ex->∃o',h'.get? b=some o'
 tups:∀b xs,H b=some (.tup xs)->H' b=some (.tup xs)
 frzs:∀b o u,H b=some (.frz o u)->H' b=some (.frz o u)
 tbls:∀b ps,H b=some (.tbl ps)->∃more,H' b=some (.tbl (ps++more))
section
variable {fs fs' ex ex':List Addr} {H H1 H2:Hp} {h h1 h2 h':Heap} {a x e:Addr} {o:HO}
theorem Un.any (u:Un fs ex H H1 h h1)   (q:h.get? b=some ob)(n:H b=none)(hx:b∉ex):∃sl,h1.get? b=some {ob with slots:=sl}:=by
 by_cases hb:b∈fs
 ·exact u.slot b ob q n hb hx
 ·exact⟨ob.slots,u.keep b ob q n hb hx⟩
theorem Un.kept (k:∀b u,h.get? b=some u->h'.get? b=some u):Un fs ex H H h h' :=
 ⟨fun b ob q _ _ _=>k b ob q,fun b ob q _ _ _=>⟨ob.slots,k b ob q⟩,fun _ _ _ n _=>n,fun b ob q _=>⟨ob,k b ob q⟩,fun _ _ q=>q,fun _ _ _ q=>q,fun _ ps q=>⟨#[],by rw[q];simp⟩⟩
theorem Un.refl:Un fs ex H H h h:=Un.kept fun _ _ q=>q
theorem Un.laid (k:∀b u,h.get? b=some u->h'.get? b=some u)(hp:h.objs.size<=a)(hn:H a=none):Un fs ex H (upd H a o) h h' where
 keep:=fun b u q _ _ _=>k b u q
 slot:=fun b u q _ _ _=>⟨u.slots,k b u q⟩
 free:=fun b u q n _=>by rw[Ai (jN_ (jx_ (jt_ q) hp))];exact n
 there:=fun b u q _=>⟨u,k b u q⟩
 tups:=fun b xs q=>by rw[Ai (AA q hn)];exact q
 frzs:=fun b u xs q=>by rw[Ai (AA q hn)];exact q
 tbls:=fun b ps q=>⟨#[],by rw[Ai (AA q hn),q];simp⟩
theorem Un.write (mu:Mut (H x))(he:e=x\/H e=some (.own x))(k:∀b u,b≠e->h.get? b=some u->h'.get? b=some u)(gF:∃u,h'.get? e=some u):Un fs ex H (upd H x o) h h':=by
 have hx:∀b,H b=none->b≠x:=fun b n z=>by subst z;rw[n]at mu;exact mu
 have hb:∀b,H b=none->b≠e:=fun b n z=>by
  subst z
  rcases he with r|r
  ·exact hx b n r
  ·rw[n]at r;cases r
 have hm:∀b u,H b=some u->¬ Mut (some u)->b≠x:=fun b u q nm z=>by subst z;rw[q]at mu;exact nm mu
 refine⟨fun b u q n _ _=>k b u (hb b n) q,fun b u q n _ _=>⟨u.slots,k b u (hb b n) q⟩,fun b u q n _=>by rw[Ai (hx b n)];exact n,fun b u q _=>?_,
  fun b xs q=>by rw[Ai (hm b _ q fun z=>z)];exact q,fun b u xs q=>by rw[Ai (hm b _ q fun z=>z)];exact q,fun b ps q=>⟨#[],by rw[Ai (hm b _ q fun z=>z),q];simp⟩⟩
 by_cases gZ:b=e
 ·subst gZ;exact gF
 ·exact⟨u,k b u gZ q⟩
end
def trk (h:Heap)(H:Hp):List Addr:=(List.range h.objs.size).filter fun a=>(H a).isSome
def hidT (h:Heap)(H:Hp):Heap:=PySem.W.hideAll h (trk h H)
theorem VD (h:Heap)(H:Hp):(hidT h H).objs.size=h.objs.size:=PySem.W.hideAll_size _ _
theorem Kt     (e:h.get? b=some o)(n:H b=none):(hidT h H).get? b=some o:=
 PySem.W.hideAll_get _ e fun hm=>by
  have q:(H b).isSome=true:=(zE_.mp hm).2
  rw[n]at q;simp at q
theorem Ap_     (e:(hidT h H).get? b=some o):h.get? b=some o/\H b=none:=by
 have e':h.get? b=some o:=PySem.W.of_hideAll (trk h H) e
 refine⟨e',?_⟩
 cases q:H b with
 |none=>rfl
 |some x=>
  have hm:b∈trk h H:=zE_.mpr ⟨jP_.mpr (jt_ e'),by simp[q]⟩
  have z:(hidT h H).get? b=none:=PySem.W.hideAll_none (trk h H) hm
  rw[z]at e;cases e
def Aq_ (g h:Heap)(L:Addr):α7:=(List.range h.objs.size).filterMap fun a=>if a=L\/(g.get? a).isSome=true then none else (h.get? a).map fun o=>(a,o)
def rest (g h:Heap)(L d:Addr):α7:=(Aq_ g h L).filter fun p=>decide (p.1≠d)
end L2
namespace L2
open PySem PySem.Spec PyProof.Rows
structure Mod (K:α3)(mg:Str->α5)(base:Heap):Prop where
 kin:K.In base
 glob:base.Ns mainGlobals mg
 blt:∃mb,base.Ns builtinsNs mb/\∀x:Str,x ≠ "__name__" -> mb x=bootBuiltins x
 nolimit:base.NoLimit
structure Cx where
 prog:Program
 w:World
 K:α3
 mg:Str->α5
 base:Heap
 A:Around
 N:List Str
 s₀:Shared
 H₀:Hp
 env:Env
 outer:List Env
 stack:List Env
 ex:List Addr
 fn:Str->Bool
 calm:Bool
 pn:α7
 xe:Value->Shared->Prop
def frs (l:List Env):List Addr:=l.filterMap (·.frame)
abbrev Cx.fs (X:Cx):List Addr:=frs X.outer
def Vis (sc:Scope)(x:Str):Prop:=sc.names.lookup x=some .local\/sc.names.lookup x=some .cell\/sc.names.lookup x=some .free
def Loc (sc:Scope)(x:Str):Prop:=sc.names.lookup x=some .local\/sc.names.lookup x=some .cell
def Look (env:Env)(h:Heap)(m:Str->α5)(x:Str)(u:Value):Prop:=
 (env.kindOf x=some .local/\m x=some u)\/((env.kindOf x=some .cell\/env.kindOf x=some .free)/\∃c,env.cells.lookup x=some c/\h.IsCell c (some u))
structure Cx.Ok (X:Cx):Prop where
 mod:Mod X.K X.mg X.base
 kind:X.env.scope.kind=.function
 glob:X.env.globals=mainGlobals
 blt:X.env.builtins=builtinsNs
 above:X.s₀.heap.objs.size<=X.env.locals
 inj:∀x y c,X.env.cells.lookup x=some c->X.env.cells.lookup y=some c->x=y
 has:∀x,(X.env.kindOf x=some .cell\/X.env.kindOf x=some .free)->∃c,X.env.cells.lookup x=some c
 cab:∀x c,X.fn x=true->X.env.cells.lookup x=some c->X.s₀.heap.objs.size<=c
 hd:X.calm=true->X.A.handled=none
 frames:X.A.frames=some X.stack
 stk:X.stack=X.outer\/(X.stack=X.env::X.outer/\X.env.frame=some X.env.locals)
 exf:∀b∈X.ex,b≠X.env.locals/\∀x c,X.env.cells.lookup x=some c->c≠b
 bs:∀b o,X.base.get? b=some o->X.s₀.heap.get? b=some o/\X.H₀ b=none
 bsz:X.base.objs.size<=X.s₀.heap.objs.size
 noex:∀b o,X.base.get? b=some o->b∉X.ex
 exfs:∀b∈X.ex,b∉X.fs
 funs:X.s₀.heap.FunFrames X.base X.outer
 frf:∀b∈X.fs,X.H₀ b=none
structure Inv (X:Cx)(pins:α7)(σ:List (Option V))(H:Hp)(s:Shared):Prop where
 ok:X.Ok
 os:s.os=X.s₀.os
 bare:AllBare s.gens
 base:Un X.fs X.ex X.H₀ H X.s₀.heap s.heap
 loc:∃m,s.heap.Ns X.env.locals m/\∀(i:Nat) (x:Str) (v:V),X.N[i]?=some x->σ[i]?=some (some v)->Vis X.env.scope x->∃u,RelV v u/\Look X.env s.heap m x u
 cell:∀x c,X.env.cells.lookup x=some c->∃v,s.heap.IsCell c v
 free:H X.env.locals=none
 freeC:∀x c,X.env.cells.lookup x=some c->H c=none
 pin:∀p∈X.pn++pins,s.heap.get? p.1=some p.2/\H p.1=none/\p.1≠X.env.locals/\p.1∉X.fs/\∀v,p.2.data ≠ .cell v
 hok:HOk X.prog X.w H s.heap
 len:σ.length=X.N.length
section
variable {X:Cx} {pins:α7} {σ:List (Option V)} {H H':Hp} {s:Shared} {h':Heap}
theorem Cx.Ok.nofr (ok:X.Ok)   (e:X.base.get? b=some o):b∉X.fs:=fun hb=>by
 have:=(ok.funs.mem hb).1
 rw[e]at this;cases this
theorem Inv.bs (I:Inv X pins σ H s):∀b o,X.base.get? b=some o->s.heap.get? b=some o/\H b=none:=fun b o e=>
 ⟨I.base.keep b o (I.ok.bs b o e).1 (I.ok.bs b o e).2 (I.ok.nofr e) (I.ok.noex b o e),I.base.free b o (I.ok.bs b o e).1 (I.ok.bs b o e).2 (I.ok.noex b o e)⟩
theorem Inv.bk (I:Inv X pins σ H s):∀b o,X.base.get? b=some o->s.heap.get? b=some o:=fun b o e=>(I.bs b o e).1
theorem Inv.mod (I:Inv X pins σ H s):Mod X.K X.mg X.base:=I.ok.mod
theorem Inv.kIn (I:Inv X pins σ H s):X.K.In s.heap:=I.ok.mod.kin.keeps I.bk
theorem Inv.lt (I:Inv X pins σ H s):X.env.locals<s.heap.objs.size:=let ⟨_,hn,_⟩:=I.loc;hn.lt
theorem Inv.sz (I:Inv X pins σ H s):X.s₀.heap.objs.size<=s.heap.objs.size:=qm_ I.ok.above (x4_ I.lt)
theorem Inv.nofs (I:Inv X pins σ H s)  (h:s.heap.objs.size<=a):a∉X.fs:=fun hb=>by
 obtain⟨_,o,ho,_⟩:=I.ok.funs.mem hb
 exact absurd (jx_ (jt_ ho) (qm_ I.sz h)) (j7_ _)
theorem Inv.cne (I:Inv X pins σ H s):∀x c,X.env.cells.lookup x=some c->c≠X.env.locals:=fun x c e z=>by
 obtain⟨v,o,ho,hd⟩:=I.cell x c e
 obtain⟨m,⟨o',es,ep,fR,cz,_⟩,_⟩:=I.loc
 rw[z,fR]at ho;cases ho;rw[cz]at hd;cases hd
theorem Inv.funs (I:Inv X pins σ H s):s.heap.FunFrames X.base X.outer:=by
 have all:∀(l:List Env),(∀b∈frs l,b∈X.fs)->X.s₀.heap.FunFrames X.base l->s.heap.FunFrames X.base l:=by
  intro l
  induction l with
  |nil=>intro _ _;trivial
  |cons env r ih=>
   intro hs hl
   obtain⟨hk,⟨L,o,hf,hn,ho,hd⟩,hr⟩:=hl
   have hL:L∈X.fs:=hs L (by unfold frs;rw[zF_,hf];exact jn_)
   obtain⟨sl,e⟩:=I.base.slot L o ho (I.ok.frf L hL) hL fun z=>I.ok.exfs L z hL
   exact⟨hk,⟨L,_,hf,hn,e,hd⟩,ih (fun b hb=>hs b (by unfold frs;rw[zF_,hf];exact jl_ _ hb)) hr⟩
 exact all X.outer (fun _ hb=>hb) I.ok.funs
theorem Inv.stack (I:Inv X pins σ H s):s.heap.FunFrames X.base X.stack:=by
 rcases I.ok.stk with e|⟨e,hf⟩
 ·rw[e];exact I.funs
 ·rw[e]
  obtain⟨m,hn,_⟩:=I.loc
  refine .cons (by rw[I.ok.kind];decide) hf hn ?_ I.funs
  exact Heap.get?_none_of_le (qm_ I.ok.bsz I.ok.above)
theorem Inv.stkSub (I:Inv X pins σ H s):∀b∈frs X.stack,b∈X.env.locals::X.fs:=fun b hb=>by
 rcases I.ok.stk with e|⟨e,hf⟩
 ·rw[e]at hb;exact jl_ _ hb
 ·rw[e]at hb
  unfold frs at hb
  rw[zF_,hf]at hb
  exact hb
theorem Inv.stkFree (I:Inv X pins σ H s):∀b∈frs X.stack,H b=none:=fun b hb=>by
 rcases jJ_.mp (I.stkSub b hb) with e|hb
 ·rw[e];exact I.free
 ·obtain⟨_,o,ho,_⟩:=I.ok.funs.mem hb
  exact I.base.free b o ho (I.ok.frf b hb) fun z=>I.ok.exfs b z hb
theorem Inv.step {g':Array GenState}{t':Nat}{d':Drawn}{ch:List Addr}(I:Inv X pins σ H s)
  (fC:∀b∈ch,(b∈X.ex\/X.s₀.heap.objs.size<=b)/\b≠X.env.locals/\(∀x c,X.env.cells.lookup x=some c->c≠b)/\∀p∈X.pn++pins,p.1≠b)
  (keep:∀b o,b≠X.env.locals->b∉X.fs->b∉ch->s.heap.get? b=some o->H b=none->h'.get? b=some o)
  (slot:∀b o,b≠X.env.locals->b∈X.fs->b∉ch->s.heap.get? b=some o->H b=none->∃sl,h'.get? b=some {o with slots:=sl}) (free:∀b o,b∉ch->s.heap.get? b=some o->H b=none->H' b=none)
  (there:∀b o,b∉ch->s.heap.get? b=some o->∃o',h'.get? b=some o')
  (tups:∀b xs,H b=some (.tup xs)->H' b=some (.tup xs)) (frzs:∀b o u,H b=some (.frz o u)->H' b=some (.frz o u)) (tbls:∀b ps,H b=some (.tbl ps)->∃more,H' b=some (.tbl (ps++more)))
  (ns:∀m,s.heap.Ns X.env.locals m->h'.Ns X.env.locals m) (hok:HOk X.prog X.w H' h') (hg:AllBare g'):
  Inv X pins σ H' {s with heap:=h',gens:=g',drawn:=d',toks:=t' }:=by
 have neL:∀b o,X.s₀.heap.get? b=some o->b≠X.env.locals:=fun b o e=>jN_ (jx_ (jt_ e) I.ok.above)
 have kP:∀b o,X.s₀.heap.get? b=some o->b∉X.ex->b∉ch:=fun b o e hx hb=>by
  rcases (fC b hb).1 with z|z
  ·exact hx z
  ·exact absurd (jx_ (jt_ e) z) (j7_ _)
 have cellK:∀x c,X.env.cells.lookup x=some c->∀v,s.heap.IsCell c v->h'.IsCell c v:=fun x c e v ⟨o,ho,hd⟩=>by
  have ed:c∉ch:=fun z=>(fC c z).2.2.1 x c e rfl
  by_cases hc:c∈X.fs
  ·obtain⟨sl,q⟩:=slot c o (I.cne x c e) hc ed ho (I.freeC x c e)
   exact⟨_,q,hd⟩
  ·exact⟨o,keep c o (I.cne x c e) hc ed ho (I.freeC x c e),hd⟩
 refine⟨I.ok,I.os,hg,⟨fun b o e n hb hx=>?_,fun b o e n hb hx=>?_,fun b o e n hx=>?_,fun b o e hx=>?_,fun b xs e=>tups b xs (I.base.tups b xs e),fun b o xs e=>frzs b o xs (I.base.frzs b o xs e),fun b ps e=>?_⟩,?_,fun x c e=>?_,?_,fun x c e=>?_,fun p hp=>?_,hok,I.len⟩
 ·exact keep b o (neL b o e) hb (kP b o e hx) (I.base.keep b o e n hb hx) (I.base.free b o e n hx)
 ·obtain⟨sl,e1⟩:=I.base.slot b o e n hb hx
  obtain⟨lW,e2⟩:=slot b _ (neL b o e) hb (kP b o e hx) e1 (I.base.free b o e n hx)
  exact⟨lW,e2⟩
 ·obtain⟨o',e1⟩:=I.base.there b o e hx
  exact free b o' (kP b o e hx) e1 (I.base.free b o e n hx)
 ·obtain⟨o',e1⟩:=I.base.there b o e hx
  exact there b o' (kP b o e hx) e1
 ·obtain⟨m1,e1⟩:=I.base.tbls b ps e
  obtain⟨m2,e2⟩:=tbls b _ e1
  exact⟨m1++m2,by rw[e2,Array.append_assoc]⟩
 ·obtain⟨m,hn,hl⟩:=I.loc
  refine⟨m,ns m hn,fun i x v e1 e2 e3=>?_⟩
  obtain⟨u,r,l⟩:=hl i x v e1 e2 e3
  refine⟨u,r,?_⟩
  rcases l with l|⟨k,c,e,z⟩
  ·exact .inl l
  ·exact .inr ⟨k,c,e,cellK x c e _ z⟩
 ·obtain⟨v,z⟩:=I.cell x c e
  exact⟨v,cellK x c e v z⟩
 ·obtain⟨m,⟨o,_,_,ho,_⟩,_⟩:=I.loc
  exact free _ o (fun z=>(fC _ z).2.1 rfl) ho I.free
 ·obtain⟨v,o,ho,hd⟩:=I.cell x c e
  exact free c o (fun z=>(fC c z).2.2.1 x c e rfl) ho (I.freeC x c e)
 ·obtain⟨e,n,ne,nf,d⟩:=I.pin p hp
  have ed:p.1∉ch:=fun z=>(fC p.1 z).2.2.2 p hp rfl
  exact⟨keep p.1 p.2 ne nf ed e n,free p.1 p.2 ed e n,ne,nf,d⟩
theorem Inv.un  (I:Inv X pins σ H s)(u:Un X.fs [] H H' s.heap h')(hok:HOk X.prog X.w H' h'):Inv X pins σ H' {s with heap:=h',toks:=t' }:=by
 obtain⟨m,⟨o,es,ep,ho,r⟩,_⟩:=id I.loc
 obtain⟨sl,hL⟩:=u.any ho I.free (by simp)
 exact I.step (g':=s.gens) (d':=s.drawn) (ch:=[]) (fun _ z=>nomatch z) (fun b o _ hb _ e n=>u.keep b o e n hb (by simp)) (fun b o _ hb _ e n=>u.slot b o e n hb (by simp)) (fun b o _ e n=>u.free b o e n (by simp)) (fun b o _ e=>u.there b o e (by simp)) u.tups u.frzs u.tbls (fun m' hm=>by
  obtain⟨o',lX,lY,fR,r'⟩:=hm
  rw[ho]at fR;cases fR
  exact⟨_,lX,lY,hL,r'⟩) hok I.bare
theorem Inv.call     (I:Inv X pins σ H s)(u:Un (frs X.stack) ch H H' s.heap h')(hok:HOk X.prog X.w H' h')(hg:AllBare g')
  (fC:∀b∈ch,(b∈X.ex\/X.s₀.heap.objs.size<=b)/\b≠X.env.locals/\(∀x c,X.env.cells.lookup x=some c->c≠b)/\∀p∈X.pn++pins,p.1≠b):
  Inv X pins σ H' {s with heap:=h',gens:=g',drawn:=d',toks:=t' }:=by
 obtain⟨m,⟨o,es,ep,ho,r⟩,_⟩:=id I.loc
 obtain⟨sl,hL⟩:=u.any ho I.free fun z=>(fC _ z).2.1 rfl
 exact I.step (ch:=ch) fC (fun b o hL hb hc e n=>u.keep b o e n (fun z=>(jJ_.mp (I.stkSub b z)).elim hL hb) hc) (fun b o _ _ hc e n=>u.any e n hc) (fun b o hc e n=>u.free b o e n hc) (fun b o hc e=>u.there b o e hc) u.tups u.frzs u.tbls (fun m' hm=>by
  obtain⟨o',lX,lY,fR,r'⟩:=hm
  rw[ho]at fR;cases fR
  exact⟨_,lX,lY,hL,r'⟩) hok hg
theorem Inv.turned   (I:Inv X pins σ H s)(k:∀b o,b≠it->s.heap.get? b=some o->h'.get? b=some o)(hn:H it=none)(hL:it≠X.env.locals)
  (h1:it∈X.ex\/X.s₀.heap.objs.size<=it) (h2:∀x c,X.env.cells.lookup x=some c->c≠it) (h3:∀p∈X.pn++pins,p.1≠it):Inv X pins σ H {s with heap:=h',toks:=t' }:=by
 have nit:∀b u,H b=some u->b≠it:=fun b u e z=>by rw[z,hn]at e;cases e
 refine I.step (g':=s.gens) (d':=s.drawn) (ch:=[it]) (fun b hb=>?_) (fun b o _ _ hc e _=>k b o (fun z=>hc (by simp[z])) e) (fun b o _ _ hc e _=>⟨o.slots,k b o (fun z=>hc (by simp[z])) e⟩) (fun _ _ _ _ n=>n)
  (fun b o hc e=>⟨o,k b o (fun z=>hc (by simp[z])) e⟩) (fun _ _ e=>e) (fun _ _ _ e=>e) (fun b ps e=>⟨#[],by rw[e];simp⟩) (fun m hm=>?_) (fun b u e=>?_) I.bare
 ·have e:b=it:=by simpa using hb
  subst e
  exact⟨h1,hL,h2,h3⟩
 ·obtain⟨o,es,ep,ho,r⟩:=hm
  exact⟨o,es,ep,k _ o (qv_ hL) ho,r⟩
 ·refine (I.hok b u e).stay (fun c v hc q=>k c v ?_ q) (fun _ q=>q) fun _ _ q=>q
  rcases hc with z|z
  ·rw[z];exact nit b u e
  ·exact nit c _ z
theorem Inv.tok (I:Inv X pins σ H s)(t:Nat):Inv X pins σ H {s with toks:=t}:=I.un (h':=s.heap) (t':=t) Un.refl I.hok
theorem Inv.kept  (I:Inv X pins σ H s)(k:∀b u,s.heap.get? b=some u->h'.get? b=some u):Inv X pins σ H {s with heap:=h',toks:=t' }:=I.un (Un.kept k) (I.hok.kept k)
theorem Inv.laid    (I:Inv X pins σ H s)(k:∀b u,s.heap.get? b=some u->h'.get? b=some u)(hp:s.heap.objs.size<=a)(new:B6 X.prog X.w (upd H a o) h' a o):
  Inv X pins σ (upd H a o) {s with heap:=h',toks:=t' }:=I.un (Un.laid k hp (I.hok.fresh hp)) (I.hok.laid k hp new)
theorem Inv.write    (I:Inv X pins σ H s)(mu:Mut (H x))(he:e=x\/H e=some (.own x))(k:∀b u,b≠e->s.heap.get? b=some u->h'.get? b=some u)(gF:∃u,h'.get? e=some u)
  (new:B6 X.prog X.w (upd H x o) h' x o):Inv X pins σ (upd H x o) {s with heap:=h',toks:=t' }:=I.un (Un.write mu he k gF) (I.hok.write mu he k gF new)
theorem Inv.pins_of  (I:Inv X pins σ H s)(h:∀p∈aQ,s.heap.get? p.1=some p.2/\H p.1=none/\p.1≠X.env.locals/\p.1∉X.fs/\∀v,p.2.data ≠ .cell v):Inv X aQ σ H s:=
 ⟨I.ok,I.os,I.bare,I.base,I.loc,I.cell,I.free,I.freeC,fun p hp=>(jz_.mp hp).elim (fun z=>I.pin p (j9_ _ z)) (h p),I.hok,I.len⟩
theorem S8 {N:List Str}(hN:N.Nodup){i j:Nat}{x:Str}(a:N[i]?=some x)(b:N[j]?=some x):i=j:=by
 obtain⟨h1,e1⟩:=jb_.mp a
 obtain⟨h2,e2⟩:=jb_.mp b
 exact (xN_ hN).mp (e1.trans e2.symm)
theorem KM         (I:Inv X pins σ H s)(hN:X.N.Nodup)(hi:X.N[i]?=some x)(hx:Loc X.env.scope x)(r:RelV v u)
  (h:∀s',Inv X pins (σ.set i (some v)) H s'->(∃a,Heap.SameBut a s.heap s'.heap/\(a=X.env.locals\/X.env.cells.lookup x=some a))->Q () s') (hf:X.fn x=true\/X.env.scope.names.lookup x=some .local:=by first|exact .inl rfl|exact .inr rfl|assumption):wpAny M A (storeName X.env x u) Q E s:=by
 obtain⟨m,hn,hl⟩:=id I.loc
 have g8:(X.env.scope.kind == .class||(X.env.scope.kind == .module&&X.env.locals != X.env.globals))=false:=by rw[I.ok.kind];rfl
 have hiσ:i<σ.length:=by rw[I.len];exact (jb_.mp hi).1
 have cne:=I.cne
 have tracked:∀{a:Addr} {h':Heap},(∃o,s.heap.get? a=some o/\H a=none)->Heap.SameBut a s.heap h'->HOk X.prog X.w H h':=fun {a h'} ha hs b ob e=>by
  obtain⟨_,_,hfree⟩:=ha
  refine (I.hok b ob e).stay (fun c w' hc q=>(hs.2 c ?_).trans q) (fun _ q=>q) fun _ _ q=>q
  rintro rfl
  rcases hc with rfl|hc
  ·rw[hfree]at e;cases e
  ·rw[hfree]at hc;cases hc
 rcases hx with hk|hk
 ·refine wpAny_storeName_local hk hn (fun h' eK hs=>?_) g8
  obtain⟨oL,_,_,lZ,_⟩:=id hn
  refine h _ ⟨I.ok,I.os,I.bare,⟨fun b o e n hb hx=>?_,fun b o e n hb hx=>?_,I.base.free,fun b o e hx=>?_,I.base.tups,I.base.frzs,I.base.tbls⟩,⟨_,eK,fun j y v' e1 e2 e3=>?_⟩,fun y c e=>?_,I.free,I.freeC,fun p hp=>?_,tracked ⟨oL,lZ,I.free⟩ hs,by simpa using I.len⟩ ⟨_,hs,.inl rfl⟩
  ·exact (hs.2 b (jN_ (jx_ (jt_ e) I.ok.above))).trans (I.base.keep b o e n hb hx)
  ·obtain⟨sl,e1⟩:=I.base.slot b o e n hb hx
   exact⟨sl,(hs.2 b (jN_ (jx_ (jt_ e) I.ok.above))).trans e1⟩
  ·obtain⟨o',e1⟩:=I.base.there b o e hx
   exact⟨o',(hs.2 b (jN_ (jx_ (jt_ e) I.ok.above))).trans e1⟩
  ·by_cases hj:j=i
   ·subst hj
    rw[hi]at e1;cases e1
    rw[qO_ hiσ]at e2
    cases e2
    exact⟨u,r,.inl ⟨hk,by simp⟩⟩
   ·rw[xe_ (qv_ hj)]at e2
    obtain⟨u',r',q⟩:=hl j y v' e1 e2 e3
    refine⟨u',r',?_⟩
    rcases q with ⟨k,e⟩|⟨k,c,e,z⟩
    ·refine .inl ⟨k,?_⟩
     have:y≠x:=fun e=>hj (S8 hN e1 (e ▸ hi))
     simp[this,e]
    ·exact .inr ⟨k,c,e,z.sameBut hs (cne y c e)⟩
  ·obtain⟨w',z⟩:=I.cell y c e
   exact⟨w',z.sameBut hs (cne y c e)⟩
  ·obtain⟨e,n,ne,nf,d⟩:=I.pin p hp
   exact⟨(hs.2 p.1 ne).trans e,n,ne,nf,d⟩
 ·have l3:X.fn x=true:=by
   rcases hf with z|z
   ·exact z
   ·rw[z]at hk;cases hk
  obtain⟨c,hc⟩:=I.ok.has x (.inl hk)
  obtain⟨w',z⟩:=I.cell x c hc
  refine wpAny_storeName_cell I.ok.kind hk hc z (fun h' gG hs=>?_)
  obtain⟨oc,cS,hocd⟩:=id z
  refine h {s with heap:=h' } ⟨I.ok,I.os,I.bare,⟨fun b o e n hb hx=>?_,fun b o e n hb hx=>?_,I.base.free,fun b o e hx=>?_,I.base.tups,I.base.frzs,I.base.tbls⟩,⟨m,hn.sameBut hs (qv_ (cne x c hc)),fun j y v' e1 e2 e3=>?_⟩,fun y c' e=>?_,I.free,I.freeC,fun p hp=>?_,tracked ⟨oc,cS,I.freeC x c hc⟩ hs,by simpa using I.len⟩ ⟨c,hs,.inr hc⟩
  ·exact (hs.2 b (jN_ (jx_ (jt_ e) (I.ok.cab x c l3 hc)))).trans (I.base.keep b o e n hb hx)
  ·obtain⟨sl,e1⟩:=I.base.slot b o e n hb hx
   exact⟨sl,(hs.2 b (jN_ (jx_ (jt_ e) (I.ok.cab x c l3 hc)))).trans e1⟩
  ·obtain⟨o',e1⟩:=I.base.there b o e hx
   exact⟨o',(hs.2 b (jN_ (jx_ (jt_ e) (I.ok.cab x c l3 hc)))).trans e1⟩
  ·by_cases hj:j=i
   ·subst hj
    rw[hi]at e1;cases e1
    rw[qO_ hiσ]at e2
    cases e2
    exact⟨u,r,.inr ⟨.inl hk,c,hc,gG⟩⟩
   ·rw[xe_ (qv_ hj)]at e2
    obtain⟨u',r',q⟩:=hl j y v' e1 e2 e3
    refine⟨u',r',?_⟩
    rcases q with q|⟨k,c',e,z'⟩
    ·exact .inl q
    ·refine .inr ⟨k,c',e,z'.sameBut hs ?_⟩
     rintro rfl
     exact hj (S8 hN e1 (I.ok.inj _ _ _ e hc ▸ hi))
  ·by_cases hcc:c'=c
   ·subst hcc;exact⟨_,gG⟩
   ·obtain⟨w2,z2⟩:=I.cell y c' e
    exact⟨w2,z2.sameBut hs hcc⟩
  ·obtain⟨e,n,ne,nf,d⟩:=I.pin p hp
   refine⟨(hs.2 p.1 ?_).trans e,n,ne,nf,d⟩
   intro q
   rw[q,cS]at e
   have q':oc=p.2:=jp_ e
   exact d w' (by rw[<-q'];exact hocd)
theorem N2         (I:Inv X pins σ H s)(hN:X.N.Nodup)(hi:X.N[i]?=some x)(hx:Loc X.env.scope x)(r:RelV v u)
  (h:∀s',Inv X pins (σ.set i (some v)) H s'->Q () s') (hf:X.fn x=true\/X.env.scope.names.lookup x=some .local:=by first|exact .inl rfl|exact .inr rfl|assumption):wpAny M A (storeName X.env x u) Q E s:=
 KM I hN hi hx r (fun s' I' _=>h s' I') hf
theorem Inv.call'   (I:Inv X pins σ H s)(ho:s'.os=s.os)(u:Un (frs X.stack) ch H H' s.heap s'.heap)(hok:HOk X.prog X.w H' s'.heap)(hg:AllBare s'.gens)
  (fC:∀b∈ch,(b∈X.ex\/X.s₀.heap.objs.size<=b)/\b≠X.env.locals/\(∀x c,X.env.cells.lookup x=some c->c≠b)/\∀p∈X.pn++pins,p.1≠b):Inv X pins σ H' s':=by
 obtain⟨h',g',d',t',o'⟩:=s'
 have e:o'=s.os:=ho
 subst e
 exact I.call (g':=g') (t':=t') (d':=d') u hok hg fC
end
abbrev XK:=Value->Option Addr->Hp->Prop
abbrev St:=List (Option V)
abbrev VK:=V->Hp->Prop
abbrev TE:=St->Hp->VK->Prop
abbrev TT:=St->Hp->(Bool->Hp->Prop)->Prop
abbrev TA:=St->Hp->(List V->Hp->Prop)->Prop
structure Ends where
 nx:St->Hp->Prop
 rt:VK
 bk:St->Hp->Prop:=fun _ _=>False
 ct:St->Hp->Prop:=fun _ _=>False
abbrev TS:=Ends->St->Hp->Prop
def EP (X:Cx)(pins:α7)(σ:St)(Q:VK)(u:Value)(s':Shared):Prop:=∃v H',Inv X pins σ H' s'/\RelV v u/\Q v H'
def TP (X:Cx)(pins:α7)(σ:St)(Q:Bool->Hp->Prop)(b:Bool)(s':Shared):Prop:=∃H',Inv X pins σ H' s'/\Q b H'
def AP (X:Cx)(pins:α7)(σ:St)(Q:List V->Hp->Prop)(us:List Value)(s':Shared):Prop:=∃vs H',Inv X pins σ H' s'/\Vals vs us/\Q vs H'
def SP (X:Cx)(pins:α7)(D:Ends)(f:Flow)(s':Shared):Prop:=
 match f with
 |.next=>∃ae H',Inv X pins ae H' s'/\D.nx ae H'
 |.brk=>∃ae H',Inv X pins ae H' s'/\D.bk ae H'
 |.cont=>∃ae H',Inv X pins ae H' s'/\D.ct ae H'
 |.ret u=>∃v ae H',Inv X pins ae H' s'/\RelV v u/\D.rt v H'
def PE (X:Cx)(e:Expr)(t:TE):Prop:=
 ∀(pins:α7) (s:Shared) (σ:St) (H:Hp) (Q:VK),Inv X pins σ H s->t σ H Q->wpAny (model X.prog X.w) X.A (eval e X.env) (EP X pins σ Q) X.xe s
def PT (X:Cx)(e:Expr)(t:TT):Prop:=
 ∀(pins:α7) (s:Shared) (σ:St) (H:Hp) (Q:Bool->Hp->Prop),Inv X pins σ H s->t σ H Q->wpAny (model X.prog X.w) X.A (isTrue e X.env (eval e X.env)) (TP X pins σ Q) X.xe s
def PW (X:Cx)(e:Expr)(t:TT):Prop:=
 ∀(whole:Sem Value) (pins:α7) (s:Shared) (σ:St) (H:Hp) (Q:Bool->Hp->Prop),Inv X pins σ H s->t σ H Q->wpAny (model X.prog X.w) X.A (isTrue e X.env whole) (TP X pins σ Q) X.xe s
theorem PW.pt    (h:PW X e t):PT X e t:=h _
def PA (X:Cx)(es:List Expr)(t:TA):Prop:=
 ∀(pos:Pos) (pins:α7) (s:Shared) (σ:St) (H:Hp) (Q:List V->Hp->Prop),Inv X pins σ H s->t σ H Q->wpAny (model X.prog X.w) X.A (spliced (backTo pos (starEach es X.env))) (AP X pins σ Q) X.xe s
def PS (X:Cx)(st:Stmt)(t:TS):Prop:=
 ∀(pins:α7) (s:Shared) (σ:St) (H:Hp) (D:Ends),Inv X pins σ H s->t D σ H->wpAny (model X.prog X.w) X.A (exec st X.env) (SP X pins D) X.xe s
def PSs (X:Cx)(st:List Stmt)(t:TS):Prop:=
 ∀(pins:α7) (s:Shared) (σ:St) (H:Hp) (D:Ends),Inv X pins σ H s->t D σ H->wpAny (model X.prog X.w) X.A (execs st X.env) (SP X pins D) X.xe s
theorem thn        (h:wpAny M A t Q E s)(hQ:∀a s,Q a s->Q' a s):wpAny M A t Q' E s:=qu_ h hQ fun _ _ x=>x
end L2
namespace L2
open PySem PySem.Spec PyProof.Rows
section
variable {X:Cx}
def tVar (i:Nat):TE:=fun σ H Q=>∃v,σ[i]?=some (some v)/\Q v H
def tC (v:V):TE:=fun _ H Q=>Q v H
theorem BC_    (hN:X.N[i]?=some x)(hv:Vis X.env.scope x)(hd:(x==("__debug__" : Str))=false:=by decide)(bw:(x==("__classdict__" : Str))=false:=by decide):PE X (.Name x pos) (tVar i):=by
 intro pins s σ H Q I h
 obtain⟨v,e,h⟩:=h
 obtain⟨m,hn,hl⟩:=I.loc
 obtain⟨u,r,l⟩:=hl i x v hN e hv
 have fin:EP X pins σ Q u s:=⟨v,H,I,r,h⟩
 rcases l with ⟨hk,hm⟩|⟨hk,c,hc,dm⟩
 ·exact wpAny_Name (wpAny_loadName_local I.ok.kind hk hn hm fin) hd
 ·rcases hk with hk|hk
  ·exact wpAny_Name (wpAny_loadName_cell I.ok.kind hk hc dm fin) hd
  ·exact wpAny_Name (wpAny_loadName_free I.ok.kind hk hc dm fin bw) hd
theorem Ac {i j pos}:PE X (.Constant (.int i) j pos) (tC (.int i)):=fun _ _ _ H _ I h=>wpAny_Constant_int ⟨.int i,H,I.tok _,⟨_,rfl⟩,h⟩
theorem Rv {b j pos}:PE X (.Constant (.bool b) j pos) (tC (.bl b)):=fun _ _ _ H _ I h=>Constant_bool ⟨.bl b,H,I,rfl,h⟩
theorem VE {j pos}:PE X (.Constant .none j pos) (tC .non):=fun _ _ _ H _ I h=>Constant_none ⟨.non,H,I,rfl,h⟩
def Gl (X:Cx)(x:Str):Prop:=X.env.kindOf x=some .globalImplicit
theorem Ar_          (I:Inv X pins σ H s)(hg:Gl X x)(hm:X.mg x=some u)(h:Q u s)
  (hd:(x==("__debug__" : Str))=false:=by decide):wpAny (model X.prog X.w) X.A (eval (.Name x pos) X.env) Q E s:=
 Calls.Name_function_global I.ok.kind hg (Calls.loadGlobal_global (by rw[I.ok.glob];exact I.mod.glob.keeps I.bk) hm h) hd
theorem FS          (I:Inv X pins σ H s)(hg:Gl X x)(hm:X.mg x=none)(hv:bootBuiltins x=some u)(h:Q u s)
  (hn:x ≠ "__name__" := by decide) (hd:(x==("__debug__" : Str))=false:=by decide):wpAny (model X.prog X.w) X.A (eval (.Name x pos) X.env) Q E s:=by
 obtain⟨mb,h1,h2⟩:=I.mod.blt
 exact Calls.Name_function_global I.ok.kind hg (Calls.loadGlobal_builtin (by rw[I.ok.glob];exact I.mod.glob.keeps I.bk) hm (by rw[I.ok.blt];exact h1.keeps I.bk) ((h2 x hn).trans hv) h) hd
theorem N3     (hg:Gl X x)(hm:X.mg x=none)(hv:bootBuiltins x=some u)(r:RelV v u)(hn:x ≠ "__name__" := by decide)(hd:(x==("__debug__" : Str))=false:=by decide):PE X (.Name x pos) (tC v):=
 fun _ _ _ H _ I h=>FS I hg hm hv ⟨v,H,I,r,h⟩ hn hd
variable {a b:Expr} {ta tb:TE} {pos:Pos}
def PC (X:Cx)(op:CmpOp)(a b:Expr)(t:TE):Prop:=
 ∀(pins:α7) (s:Shared) (σ:St) (H:Hp) (Q:VK),Inv X pins σ H s->t σ H Q ->
  wpAny (model X.prog X.w) X.A (eval a X.env) (fun v s₁=>wpAny (model X.prog X.w) X.A (eval b X.env) (fun u aT=>wpAny (model X.prog X.w) X.A (compareOp op v u) (EP X pins σ Q) X.xe aT) X.xe s₁) X.xe s
theorem XM (b:Expr)  (h:op ≠ .In)(h2:op ≠ .NotIn):behindInMarks op b=false:=by
 have e1:(op==CmpOp.In)=false:=by cases op<;>first|rfl|exact absurd rfl h
 have e2:(op==CmpOp.NotIn)=false:=by cases op<;>first|rfl|exact absurd rfl h2
 cases b<;>simp[behindInMarks,e1,e2]
def tB (t:TE):TT:=fun σ H Q=>t σ H fun x H1=>∃c,x=.bl c/\Q c H1
theorem Zl   (h:PC X op a b t)(h1:behindInMarks op b=false:=by first|exact XM _ (by decide) (by decide)|rfl):PT X (.Compare a [op] [b] pos) (tB t):=by
 intro pins s σ H Q I hw
 refine wpAny_isTrue_Compare1 (thn (h pins s σ H _ I hw) fun v s1 h1=>thn h1 fun u s2 h2=>thn h2 fun c s3 ⟨x,H1,I1,r1,q1⟩=>?_) h1
 obtain⟨d,rfl,q⟩:=q1
 cases r1
 exact xv_ ⟨H1,I1,q⟩
theorem KN   (h:PE X e t)(he:∀whole,isTrue e X.env whole=(do let v <- whole;standAt e.pos;holding [v] (truthy v)):=by intro _;rfl):PT X e (tB t):=by
 intro pins s σ H Q I hw
 refine isTrue_plain (thn (h pins s σ H _ I hw) fun v s1 ⟨x,H1,I1,r1,q1⟩=>?_) (he _)
 obtain⟨d,rfl,q⟩:=q1
 cases r1
 exact xv_ ⟨H1,I1,q⟩
variable {tA kQ:TT} {rest:List Expr}
def tAnd (t u:TT):TT:=fun σ H Q=>t σ H fun c H1=>if c=true then u σ H1 Q else Q false H1
def tOr (t u:TT):TT:=fun σ H Q=>t σ H fun c H1=>if c=true then Q true H1 else u σ H1 Q
def tNot (t:TT):TT:=fun σ H Q=>t σ H fun c H1=>Q (!c) H1
theorem FT (ha:PT X a tA):PW X (.BoolOp .And [a] pos) tA:=by
 intro wh pins s σ H Q I h
 refine isTrue_and (thn (ha pins s σ H Q I h) fun c s1 e=>?_)
 cases c with
 |true=>exact isTrue_and_nil e
 |false=>exact e
theorem S9 (ha:PT X a tA):PW X (.BoolOp .Or [a] pos) tA:=by
 intro wh pins s σ H Q I h
 refine isTrue_or (thn (ha pins s σ H Q I h) fun c s1 e=>?_)
 cases c with
 |false=>exact isTrue_or_nil e
 |true=>exact e
theorem Jp (ha:PT X a tA)(hb:PW X (.BoolOp .And (b::rest) pos) kQ):PW X (.BoolOp .And (a::b::rest) pos) (tAnd tA kQ):=by
 intro wh pins s σ H Q I h
 refine isTrue_and (thn (ha pins s σ H _ I h) fun c s1 ⟨H1,I1,q1⟩=>?_)
 cases c with
 |true=>exact hb wh pins s1 σ H1 Q I1 q1
 |false=>exact⟨H1,I1,q1⟩
theorem Uh (ha:PT X a tA)(hb:PW X (.BoolOp .Or (b::rest) pos) kQ):PW X (.BoolOp .Or (a::b::rest) pos) (tOr tA kQ):=by
 intro wh pins s σ H Q I h
 refine isTrue_or (thn (ha pins s σ H _ I h) fun c s1 ⟨H1,I1,q1⟩=>?_)
 cases c with
 |true=>exact⟨H1,I1,q1⟩
 |false=>exact hb wh pins s1 σ H1 Q I1 q1
theorem Nt (ha:PT X a tA):PT X (.UnaryOp .Not a pos) (tNot tA):=by
 intro pins s σ H Q I h
 exact isTrue_not (ha pins s σ H (fun c H1=>Q (!c) H1) I h)
def BD_ (ta tb:TE):TE:=fun σ H Q=>ta σ H fun x H1=>∃c,x=.bl c/\if c=true then tb σ H1 Q else Q (.bl false) H1
theorem BE_ {op}  (h:PE X a t):PE X (.BoolOp op [a] pos) t:=fun pins s σ H Q I hw=>BoolOp_one (h pins s σ H Q I hw)
theorem BF_ (ha:PE X a ta)(hb:PE X (.BoolOp .And (b::rest) pos) tb):PE X (.BoolOp .And (a::b::rest) pos) (BD_ ta tb):=by
 intro pins s σ H Q I h
 refine BoolOp_and (thn (ha pins s σ H _ I h) fun v s1 ⟨x,H1,I1,r1,q1⟩=>?_)
 obtain⟨c,rfl,q1⟩:=q1
 cases r1
 refine xv_ ?_
 cases c with
 |true=>exact hb pins s1 σ H1 Q I1 q1
 |false=>exact⟨.bl false,H1,I1,rfl,q1⟩
end
end L2
namespace L2
open PySem PySem.Spec PyProof.Rows
def SqL (K:α3)(H:Hp)(a:Addr)(xs:List V):Prop:=
 Rd H a (.lst xs) \/
  ∃(o:Obj) (its:Array Value) (n:Nat),K.lookup a=some o/\o.cls=.type "list" /\ o.dict=none/\o.data=.seq its n/\its.size<=sizeLine/\Vals xs its.toList
def SqT (K:α3)(H:Hp)(a:Addr)(xs:List V):Prop:=
 Rd H a (.tup xs) \/
  ∃(o:Obj) (its:Array Value) (n:Nat),K.lookup a=some o/\o.cls=.type "tuple" /\ o.data=.seq its n/\its.size<=sizeLine/\Vals xs its.toList
def absV:Value->Option V
 |.none=>some .non
 |.bool b=>some (.bl b)
 |.int i _=>some (.int i)
 |.str x _=>some (.str x)
 |.bytes b _=>some (.byt b)
 |.float b _=>some (.flt b)
 |.ref a=>some (.ref a)
 |.type n=>some (.ty n)
 |_=>none
theorem RelV.abs   (r:RelV x u):absV u=some x:=by
 cases x with
 |non=>cases r;rfl
 |bl _=>cases r;rfl
 |int _=>obtain⟨t,rfl⟩:=r;rfl
 |str _=>obtain⟨t,rfl⟩:=r;rfl
 |byt _=>obtain⟨t,rfl⟩:=r;rfl
 |flt _=>obtain⟨t,rfl⟩:=r;rfl
 |ref _=>cases r;rfl
 |ty _=>cases r;rfl
theorem RelV.inj   (r:RelV x u)(q:RelV y u):x=y:=jp_ (r.abs.symm.trans q.abs)
theorem Vals.inj:∀{xs ys:List V} {us:List Value},Vals xs us->Vals ys us->xs=ys
 |_,_,_,.nil,.nil=>rfl
 |_,_,_,.cons r t,.cons r' t'=>by rw[r.inj r',Vals.inj t t']
section
variable {X:Cx} {pins:α7} {σ:St} {H:Hp} {s:Shared} {a:Addr} {xs ys:List V}
theorem SqL.of {K:α3}(h:H a=some (.lst xs)):SqL K H a xs:=.inl (.inl h)
theorem SqT.of {K:α3}(h:H a=some (.tup xs)):SqT K H a xs:=.inl (.inl h)
theorem Inv.list (I:Inv X pins σ H s)(h:SqL X.K H a xs):∃its:List Value,Vals xs its/\PlainL s.heap a its.toArray/\xs.length<=sizeLine:=by
 rcases h with h|⟨o,its,n,hk,hc,hd,hs,hz,r⟩
 ·obtain⟨z,its,n,r,e⟩:=h.ok I.hok
  exact⟨its,r,⟨_,n,e,rfl,rfl,rfl⟩,z⟩
 ·refine⟨its.toList,r,⟨o,n,I.kIn a o hk,hc,hd,by simpa using hs⟩,?_⟩
  have e:=r.length
  simp only[j3_]at e
  omega
theorem Inv.tuple (I:Inv X pins σ H s)(h:SqT X.K H a xs):∃its:List Value,Vals xs its/\IsTup s.heap a its.toArray/\xs.length<=sizeLine:=by
 rcases h with h|⟨o,its,n,hk,hc,hs,hz,r⟩
 ·obtain⟨z,its,r,p⟩:=h.ok I.hok
  exact⟨its,r,p,z⟩
 ·refine⟨its.toList,r,⟨o,I.kIn a o hk,hc,n,by simpa using hs⟩,?_⟩
  have e:=r.length
  simp only[j3_]at e
  omega
theorem Inv.list_inj (I:Inv X pins σ H s)(h:SqL X.K H a xs)(h':SqL X.K H a ys):xs=ys:=by
 obtain⟨its,r,⟨o,n,e,_,_,d⟩,_⟩:=I.list h
 obtain⟨its',r',⟨o',n',e',_,_,d'⟩,_⟩:=I.list h'
 rw[e]at e';cases e'
 rw[d]at d'
 injection d' with d1 _
 have:its=its':=by simpa using jG_ Array.toList d1
 subst this
 exact r.inj r'
theorem Inv.tuple_inj (I:Inv X pins σ H s)(h:SqT X.K H a xs)(h':SqT X.K H a ys):xs=ys:=by
 obtain⟨its,r,⟨o,e,_,n,d⟩,_⟩:=I.tuple h
 obtain⟨its',r',⟨o',e',_,n',d'⟩,_⟩:=I.tuple h'
 rw[e]at e';cases e'
 rw[d]at d'
 injection d' with d1 _
 have:its=its':=by simpa using jG_ Array.toList d1
 subst this
 exact r.inj r'
end
abbrev Cx.wish (X:Cx)(E:Value->Shared->Prop):Cx:={X with xe:=E}
abbrev Cx.nox (X:Cx):Cx:=X.wish fun _ _=>False
theorem Cx.Ok.wish {X:Cx}(ok:X.Ok)(E:Value->Shared->Prop):(X.wish E).Ok:=
 ⟨ok.mod,ok.kind,ok.glob,ok.blt,ok.above,ok.inj,ok.has,ok.cab,ok.hd,ok.frames,ok.stk,ok.exf,ok.bs,ok.bsz,ok.noex,ok.exfs,ok.funs,ok.frf⟩
theorem Cx.Ok.unwish {X:Cx}{E:Value->Shared->Prop}(ok:(X.wish E).Ok):X.Ok:=
 ⟨ok.mod,ok.kind,ok.glob,ok.blt,ok.above,ok.inj,ok.has,ok.cab,ok.hd,ok.frames,ok.stk,ok.exf,ok.bs,ok.bsz,ok.noex,ok.exfs,ok.funs,ok.frf⟩
section
variable {X:Cx} {pins:α7} {σ:St} {H:Hp} {s:Shared} {E:Value->Shared->Prop}
theorem Inv.wish (I:Inv X pins σ H s)(E:Value->Shared->Prop):Inv (X.wish E) pins σ H s:=⟨I.ok.wish E,I.os,I.bare,I.base,I.loc,I.cell,I.free,I.freeC,I.pin,I.hok,I.len⟩
theorem Inv.unwish (I:Inv (X.wish E) pins σ H s):Inv X pins σ H s:=⟨I.ok.unwish,I.os,I.bare,I.base,I.loc,I.cell,I.free,I.freeC,I.pin,I.hok,I.len⟩
theorem SP.unwish    (h:SP (X.wish E) pins D f s'):SP X pins D f s':=by
 cases f with
 |next=>obtain⟨ae,H',I,q⟩:=h;exact⟨ae,H',I.unwish,q⟩
 |brk=>obtain⟨ae,H',I,q⟩:=h;exact⟨ae,H',I.unwish,q⟩
 |cont=>obtain⟨ae,H',I,q⟩:=h;exact⟨ae,H',I.unwish,q⟩
 |ret u=>obtain⟨v,ae,H',I,r,q⟩:=h;exact⟨v,ae,H',I.unwish,r,q⟩
theorem PSs.nox {st:List Stmt}  (h:PSs X.nox st t):PSs X st t:=fun pins s σ H D I hw=>
 qu_ (h pins s σ H D (I.wish _) hw) (fun _ _ q=>q.unwish) fun _ _ z=>False.elim z
end
section
variable {X:Cx} {st:Stmt} {rest:List Stmt} {t u:TS} {e:Expr} {te:TE} {pos:Pos}
def BG_:TS:=fun D σ H=>D.nx σ H
def tSeq (t u:TS):TS:=fun D σ H=>t {D with nx:=u D} σ H
theorem AU:PSs X [] BG_:=fun _ _ σ H _ I h=>zG_ ⟨σ,H,I,h⟩
theorem Ad (h1:PS X st t)(h2:PSs X rest u):PSs X (st::rest) (tSeq t u):=by
 intro pins s σ H D I h
 refine wpAny_execs_cons (thn (h1 pins s σ H {D with nx:=u D} I h) fun f s1 q=>?_)
 cases f with
 |next=>
  obtain⟨ae,H',I',q⟩:=q
  exact h2 pins s1 ae H' D I' q
 |ret v=>exact q
 |brk=>exact q
 |cont=>exact q
theorem Ag (h1:PS X st t):PSs X [st] t:=by
 intro pins s σ H D I h
 refine wpAny_execs_cons (thn (h1 pins s σ H D I h) fun f s1 q=>?_)
 cases f with
 |next=>exact zG_ q
 |ret v=>exact q
 |brk=>exact q
 |cont=>exact q
theorem Inv.quiet     (I:Inv X pins σ H s):interactive X.env=false:=by simp[interactive,I.ok.kind]
def BH_ (te:TE):TS:=fun D σ H=>te σ H fun _ H1=>D.nx σ H1
theorem BN (he:PE X e te)(hs:swapsWith e none pos.line X.env=pure false:=by rfl):PS X (.Expr e pos) (BH_ te):=by
 intro pins s σ H D I h
 exact wpAny_Expr_any (thn (he pins s σ H _ I h) fun v s1 ⟨x,H1,I1,r1,q1⟩=>⟨σ,H1,I1,q1⟩) I.quiet hs
def tRet (te:TE):TS:=fun D σ H=>te σ H D.rt
theorem AO (he:PE X e te):PS X (.Return (some e) pos) (tRet te):=by
 intro pins s σ H D I h
 exact wpAny_Return_some (thn (he pins s σ H _ I h) fun v s1 ⟨x,H1,I1,r1,q1⟩=>⟨x,σ,H1,I1,r1,q1⟩)
def tIfS (c:TT)(t u:TS):TS:=fun D σ H=>c σ H fun b H1=>if b=true then t D σ H1 else u D σ H1
theorem Cq    (hc:PT X c tc)(ha:PSs X a t)(hb:PSs X b u):PS X (.If c a b pos) (tIfS tc t u):=by
 intro pins s σ H D I h
 refine wpAny_If (thn (hc pins s σ H _ I h) fun d s1 ⟨H1,I1,q1⟩=>?_)
 cases d with
 |true=>exact ha pins s1 σ H1 D I1 q1
 |false=>exact hb pins s1 σ H1 D I1 q1
def BI_:TS:=fun _ _ _=>False
theorem XN:PS X st BI_:=fun _ _ _ _ _ _ h=>h.elim
end
abbrev TG:=V->St->Hp->(St->Hp->Prop)->Prop
abbrev TGs:=List V->St->Hp->(St->Hp->Prop)->Prop
def PG (X:Cx)(target:Expr)(t:TG):Prop:=
 ∀(pins:α7) (s:Shared) (σ:St) (H:Hp) (v:V) (u:Value) (Q:St->Hp->Prop),Inv X pins σ H s->RelV v u->t v σ H Q ->
  wpAny (model X.prog X.w) X.A (assign target X.env u) (fun _ s'=>∃ae H',Inv X pins ae H' s'/\Q ae H') X.xe s
def PGs (X:Cx)(ts:List Expr)(t:TGs):Prop:=
 ∀(pins:α7) (s:Shared) (σ:St) (H:Hp) (vs:List V) (us:List Value) (Q:St->Hp->Prop),Inv X pins σ H s->Vals vs us->t vs σ H Q ->
  wpAny (model X.prog X.w) X.A (assignInOrder ((assignEach ts X.env).map (·.2)) us) (fun _ s'=>∃ae H',Inv X pins ae H' s'/\Q ae H') X.xe s
abbrev TSet:=V->V->V->Hp->(Hp->Prop)->Prop
def PSet (X:Cx)(t:TSet):Prop:=
 ∀(pins:α7) (s:Shared) (σ:St) (H:Hp) (o i v:V) (ov iv u:Value) (Q:Hp->Prop),Inv X pins σ H s->RelV o ov->RelV i iv->RelV v u->t o i v H Q ->
  wpAny (model X.prog X.w) X.A (setItem ov iv u) (fun _ s'=>∃H',Inv X pins σ H' s'/\Q H') X.xe s
abbrev TIp:=V->V->Hp->VK->Prop
def PIp (X:Cx)(op:Operator)(t:TIp):Prop:=
 ∀(pins:α7) (s:Shared) (σ:St) (H:Hp) (x y:V) (v u:Value) (Q:VK),Inv X pins σ H s->RelV x v->RelV y u->t x y H Q ->
  wpAny (model X.prog X.w) X.A (inplaceOp op v u) (EP X pins σ Q) X.xe s
section
variable {X:Cx} {pos:Pos}
def IB (i:Nat):TG:=fun v σ H Q=>Q (σ.set i (some v)) H
theorem At   (hN:X.N.Nodup)(hi:X.N[i]?=some x)(hx:Loc X.env.scope x)(hf:X.fn x=true\/X.env.scope.names.lookup x=some .local:=by first|exact .inl rfl|exact .inr rfl|assumption):PG X (.Name x pos) (IB i):=by
 intro pins s σ H v u Q I r h
 exact wpAny_assign_Name (N2 I hN hi hx r (fun s' I'=>⟨_,H,I',h⟩) hf)
def gNil:TGs:=fun vs σ H Q=>vs=[]/\Q σ H
def BJ_ (t:TG)(u:TGs):TGs:=fun vs σ H Q=>∃v r,vs=v::r/\t v σ H fun ae H'=>u r ae H' Q
theorem As_:PGs X [] gNil:=by
 intro pins s σ H vs us Q I r h
 obtain⟨e,h⟩:=h
 subst e
 cases r
 exact assignInOrder_nil ⟨σ,H,I,h⟩
theorem Ta     (h1:PG X e t)(h2:PGs X es u)
  (hs:(assignEach (e::es) X.env).map (·.2)=assign e X.env::(assignEach es X.env).map (·.2):=by rfl):PGs X (e::es) (BJ_ t u):=by
 intro pins s σ H vs us Q I r h
 obtain⟨v,vr,e1,h⟩:=h
 subst e1
 cases r with
 |cons r rr=>
  rw[hs]
  refine assignInOrder_cons (thn (h1 pins s σ H _ _ _ I r h) fun _ s1 ⟨gH,H1,I1,q1⟩=>?_)
  exact h2 pins s1 gH H1 _ _ Q I1 rr q1
def gTup (K:α3)(n:Nat)(t:TGs):TG:=fun v σ H Q=>∃a xs,v=.ref a/\SqT K H a xs/\xs.length=n/\t xs σ H Q
theorem BK_     (hc:X.calm=true)(h:PGs X es t)
  (hn:(assignEach es X.env).length=n:=by rfl) (cA:(assignEach es X.env).findIdx? (·.1)=none:=by rfl):PG X (.Tuple es k pos) (gTup X.K n t):=by
 intro pins s σ H v u Q I r hw
 obtain⟨a,xs,e1,hq,hl,hw⟩:=hw
 subst e1
 cases r
 obtain⟨its,rv,ht,hz⟩:=I.tuple hq
 refine assign_Tuple_tuple (I.ok.hd hc) ht (by simp[hn,<-hl,rv.length]) cA fun h' hx=>?_
 have I1:Inv X pins σ H {s with heap:=h' }:=I.kept (t':=s.toks) fun b o e=>hx b o (jN_ (jt_ e)) e
 exact h pins _ σ H xs _ Q I1 (by simpa using rv) hw
def gSub (to ti:TE)(t:TSet):TG:=fun v σ H Q=>to σ H fun o H1=>ti σ H1 fun i H2=>t o i v H2 fun H3=>Q σ H3
theorem PM    (ho:PE X o to)(hi:PE X i ti)(hs:PSet X t)
  (ha:∀v,assign (.Subscript o i pos) X.env v=(do
   let ov <- holding [v] (eval o X.env)
   let iv <- holding [v,ov] (eval i X.env)
   standAt pos
   holding [v,ov,iv] (setItem ov iv v)
   release [v,ov,iv] []):=by intro _;rfl):PG X (.Subscript o i pos) (gSub to ti t):=by
 intro pins s σ H v u Q I r h
 rw[ha]
 refine jc_ (qE_ (thn (ho pins s σ H _ I h) fun ov s1 ⟨x,H1,I1,r1,q1⟩=>?_))
 refine jc_ (qE_ (thn (hi pins s1 σ H1 _ I1 q1) fun iv s2 ⟨y,H2,I2,r2,q2⟩=>?_))
 refine jc_ (wpAny_standAt (jc_ (qE_ (thn (hs pins s2 σ H2 x y v ov iv u _ I2 r1 r2 r q2) fun _ s3 ⟨H3,I3,q3⟩=>?_))))
 exact wpAny_release ⟨σ,H3,I3,q3⟩
def tAsg (te:TE)(g:TG):TS:=fun D σ H=>te σ H fun x H1=>g x σ H1 D.nx
theorem PN    (he:PE X e te)(hg:PG X tg g)(hs:swapsWithSole [tg] e pos.line X.env=pure false:=by rfl)(hw:swappedStores [tg] e X.env=pure none:=by rfl)
  (h1:(assignEach [tg] X.env).map (·.2)=[assign tg X.env]:=by rfl):PS X (.Assign [tg] e pos) (tAsg te g):=by
 intro pins s σ H D I h
 refine wpAny_Assign_stores (thn (he pins s σ H _ I h) fun v s1 ⟨x,H1,I1,r1,q1⟩=>?_) hs hw
 rw[h1]
 exact thn (hg pins s1 σ H1 x v _ I1 r1 q1) fun _ s2 q=>q
theorem B7      (hN:X.N.Nodup)(hi:X.N[i]?=some x)(hx:Loc X.env.scope x)(he:PE X e te)(hs:swapsWith e (some (.Name x pos')) pos.line X.env=pure false:=by rfl)(hf:X.fn x=true\/X.env.scope.names.lookup x=some .local:=by first|exact .inl rfl|exact .inr rfl|assumption):
  PS X (.Assign [.Name x pos'] e pos) (tAsg te (IB i)):=by
 intro pins s σ H D I h
 refine wpAny_Assign_Name (thn (he pins s σ H _ I h) fun v s1 ⟨y,H1,I1,r1,q1⟩=>?_) hs
 exact N2 I1 hN hi hx r1 (fun s2 I2=>⟨_,H1,I2,q1⟩) hf
def tAug (i:Nat)(te:TE)(ti:TIp):TS:=fun D σ H=>∃x,σ[i]?=some (some x)/\te σ H fun y H1=>ti x y H1 fun z H2=>D.nx (σ.set i (some z)) H2
theorem VF        (hN:X.N.Nodup)(hi:X.N[i]?=some x)(hx:Loc X.env.scope x)(he:PE X e te)(ho:PIp X op ti)(hf:X.fn x=true\/X.env.scope.names.lookup x=some .local:=by first|exact .inl rfl|exact .inr rfl|assumption):
  PS X (.AugAssign (.Name x pos') op e pos) (tAug i te ti):=by
 intro pins s σ H D I h
 obtain⟨v,e1,h⟩:=h
 obtain⟨m,hn,hl⟩:=I.loc
 have jO:Vis X.env.scope x:=by rcases hx with k|k;exact .inl k;exact .inr (.inl k)
 obtain⟨u,r,l⟩:=hl i x v hi e1 jO
 refine wpAny_AugAssign_Name ?_
 have go:wpAny (model X.prog X.w) X.A (eval e X.env) (fun w aT=>wpAny (model X.prog X.w) X.A (inplaceOp op u w) (fun r aL=>wpAny (model X.prog X.w) X.A (storeName X.env x r) (fun _=>SP X pins D .next) X.xe aL) X.xe aT) X.xe s:=by
  refine thn (he pins s σ H _ I h) fun w s1 ⟨y,H1,I1,r1,q1⟩=>?_
  refine thn (ho pins s1 σ H1 v y u w _ I1 r r1 q1) fun z s2 ⟨zv,H2,I2,r2,q2⟩=>?_
  exact N2 I2 hN hi hx r2 (fun s3 I3=>⟨_,H2,I3,q2⟩) hf
 rcases l with ⟨hk,hm⟩|⟨hk,c,hc,dm⟩
 ·exact wpAny_loadName_local I.ok.kind hk hn hm go
 ·rcases hk with hk|hk
  ·exact wpAny_loadName_cell I.ok.kind hk hc dm go
  ·rcases hx with k|k
   ·have:X.env.scope.names.lookup x=some .free:=hk
    rw[k]at this;cases this
   ·have:X.env.scope.names.lookup x=some .free:=hk
    rw[k]at this;cases this
def ipI (f:Int->Int->Int):TIp:=fun x y H Q=>∃i j,x=.int i/\y=.int j/\Q (.int (f i j)) H
theorem Zm:PIp X .Add (ipI fun i j=>i+j):=by
 intro pins s σ H x y v u Q I r1 r2 h
 obtain⟨i,j,e1,e2,q⟩:=h
 subst e1;subst e2
 obtain⟨t,rfl⟩:=r1
 obtain⟨t',rfl⟩:=r2
 exact iadd_int ⟨.int _,H,I.tok _,⟨_,rfl⟩,q⟩
theorem BL_:PIp X .Sub (ipI fun i j=>i-j):=by
 intro pins s σ H x y v u Q I r1 r2 h
 obtain⟨i,j,e1,e2,q⟩:=h
 subst e1;subst e2
 obtain⟨t,rfl⟩:=r1
 obtain⟨t',rfl⟩:=r2
 exact isub_int ⟨.int _,H,I.tok _,⟨_,rfl⟩,q⟩
end
section
variable {X:Cx} {pos:Pos}
def Zn (c:TT)(tb:TS):TS:=fun D σ H=>∃W:Nat->St->Hp->Prop,(∃m,W m σ H)/\∀m σ H,W m σ H ->
 c σ H fun b H1=>if b=true then ∃N:St->Hp->Prop,(∀ae H',N ae H'->∃m',m'<m/\W m' ae H')/\tb {D with nx:=N,ct:=N,bk:=D.nx} σ H1 else D.nx σ H1
theorem GD     (hp:PassesOwn (model X.prog X.w) X.A X.env X.xe)(hc:PT X c tc)(hb:PSs X body tb):PS X (.While c body [] pos) (Zn tc tb):=by
 intro pins s σ H D I h
 obtain⟨W,⟨m0,w0⟩,turn⟩:=h
 refine wpAny_While (codeAny_whileLoop (fun n s'=>∃ae H',Inv X pins ae H' s'/\W n ae H') ?_ m0 ⟨σ,H,I,w0⟩)
 rintro n s1 ⟨gH,H1,I1,w1⟩
 refine xw_ hp (thn (hc pins s1 gH H1 _ I1 (turn n gH H1 w1)) fun b s2 ⟨H2,I2,q2⟩=>?_)
 cases b with
 |true=>
  obtain⟨N,hN,q2⟩:=q2
  rw[if_pos rfl]
  refine xw_ hp (thn (hb pins s2 gH H2 _ I2 q2) fun f s3 q3=>?_)
  cases f with
  |next=>
   obtain⟨av,H3,I3,n3⟩:=q3
   obtain⟨m',hm,w3⟩:=hN av H3 n3
   exact⟨m',hm,av,H3,I3,w3⟩
  |cont=>
   obtain⟨av,H3,I3,n3⟩:=q3
   obtain⟨m',hm,w3⟩:=hN av H3 n3
   exact⟨m',hm,av,H3,I3,w3⟩
  |brk=>exact q3
  |ret v=>exact q3
 |false=>
  rw[if_neg jr_]
  exact zG_ ⟨gH,H2,I2,q2⟩
end
structure It where
 go:Nat->Hp->Prop
 yld:Nat->Hp->V->Hp->Prop
 stop:Nat->Hp->Prop
def FpOk (X:Cx)(pins:α7)(H:Hp)(b:Addr):Prop:=
 H b=none/\b≠X.env.locals/\b∉X.fs/\(b∈X.ex\/X.s₀.heap.objs.size<=b)/\(∀x c,X.env.cells.lookup x=some c->c≠b)/\∀p∈X.pn++pins,p.1≠b
theorem Inv.fpOk       (I:Inv X pins σ H s)(hb:s.heap.objs.size<=b)(hn:H' b=none):FpOk X pins H' b:=by
 refine⟨hn,qn_ (jx_ I.lt hb),I.nofs hb,.inr (qm_ I.sz hb),fun x c e z=>?_,fun p hp z=>?_⟩
 ·obtain⟨v,q⟩:=I.cell x c e
  exact absurd (jx_ q.lt (by rw[z];exact hb)) (j7_ _)
 ·exact absurd (jx_ (jt_ (I.pin p hp).1) (by rw[z];exact hb)) (j7_ _)
structure Turn (P:Program)(w:World)(K:α3)(tg:Expr)(J:It)(fp:List Addr)(it:Addr)(tn:Nat->Heap->Prop):Prop where
 mem:it∈fp
 obj:∀i h,tn i h->∀b∈fp,∃o,h.get? b=some o/\∀v,o.data ≠ .cell v
 keep:∀i h h',tn i h->(∀b∈fp,∀o,h.get? b=some o->h'.get? b=some o)->tn i h'
 item:∀(X:Cx),X.prog=P->X.w=w->X.K=K->X.calm=true->∀(i:Nat) (pins:α7) (s:Shared) (σ:St) (H:Hp) (E:Value->Shared->Prop),Inv X pins σ H s->(∀b∈fp,FpOk X pins H b)->tn i s.heap->J.go i H ->
  wpAny (model P w) X.A (pyNext (.ref it)) (fun r s1=>∃u,r=some u /\
   wpAny (model P w) X.A (letOwnedTupleGo tg (.ref it) u) (fun _ s2=>∃x H',Inv X pins σ H' s2/\RelV x u/\J.yld i H x H'/\tn (i+1) s2.heap/\∀b∈fp,H' b=none) E s1) E s
 done:∀(X:Cx),X.prog=P->X.w=w->X.K=K->X.calm=true->∀(i:Nat) (pins:α7) (s:Shared) (σ:St) (H:Hp) (E:Value->Shared->Prop),Inv X pins σ H s->(∀b∈fp,FpOk X pins H b)->tn i s.heap->J.stop i H ->
  wpAny (model P w) X.A (pyNext (.ref it)) (fun r s1=>r=none/\Inv X pins σ H s1) E s
 self:∀(A:Around) (i:Nat) (s:Shared) (Q:Value->Shared->Prop) (E:Value->Shared->Prop),tn i s.heap->Q (.ref it) s->wpAny (model P w) A (pyIter (.ref it)) Q E s
abbrev TI:=St->Hp->(It->Hp->Prop)->Prop
def PIE (X:Cx)(pins:α7)(σ:St)(tg:Expr)(R:It->Hp->Prop)(jP:Value)(s2:Shared):Prop:=
 ∃(it:Addr) (fp:List Addr) (tn:Nat->Heap->Prop) (J:It) (H':Hp),jP=.ref it/\Inv X pins σ H' s2/\Turn X.prog X.w X.K tg J fp it tn/\tn 0 s2.heap/\(∀b∈fp,FpOk X pins H' b)/\R J H'
def PI (X:Cx)(tg iter:Expr)(wi:TI):Prop:=
 ∀(pins:α7) (s:Shared) (σ:St) (H:Hp) (R:It->Hp->Prop),Inv X pins σ H s->wi σ H R ->
  wpAny (model X.prog X.w) X.A (eval iter X.env) (fun v s1=>wpAny (model X.prog X.w) X.A (pyIter v) (PIE X pins σ tg R) X.xe s1) X.xe s
theorem At_            (ho:s.heap.get? it=some o)(hc:o.cls=.type n)(hd:o.data=.fields vs)
    (hn:["enumerate","zip","dict_itemiterator","dict_reverseitemiterator","odict_iterator","itertools.zip_longest","itertools.pairwise"].contains n=false) (hQ:Q () s):wpAny M A (letOwnedTupleGo tg (.ref it) u) Q E s:=by
  unfold letOwnedTupleGo
  cases tg<;>first
    | exact jq_ hQ
    | (cases u<;>first
        | exact jq_ hQ
        | (refine jc_ (wpAny_load ho ?_)
           rw[hc,hd]
           show wpAny M A (if (["enumerate","zip","dict_itemiterator","dict_reverseitemiterator","odict_iterator","itertools.zip_longest","itertools.pairwise"].contains n&&vs[0]? == some (rawInt _))=true then _ else _) Q E s
           rw[if_neg (by intro h;rw[hn,Bool.false_and]at h;cases h)]
           exact jq_ hQ))
def Itl (K:α3)(a:Addr):It:=
 ⟨fun i H=>∃xs x,SqL K H a xs/\xs[i]?=some x,fun i H x H'=>H'=H/\∀xs,SqL K H a xs->xs[i]?=some x,fun i H=>∃xs,SqL K H a xs/\xs.length<=i⟩
def Itt (K:α3)(a:Addr):It:=
 ⟨fun i H=>∃xs x,SqT K H a xs/\xs[i]?=some x,fun i H x H'=>H'=H/\∀xs,SqT K H a xs->xs[i]?=some x,fun i H=>∃xs,SqT K H a xs/\xs.length<=i⟩
def Itr (lo:Int)(n:Nat):It:=⟨fun i _=>i<n,fun i H x H'=>H'=H/\x=.int (lo+i),fun i _=>n<=i⟩
theorem PP {P:Program}{w:World}{K:α3}{tg:Expr}(a it:Addr):Turn P w K tg (Itl K a) [it] it (fun i h=>h.IsListIter it a i) where
 mem:=by simp
 obj:=fun i h st b hb=>by
  have e:b=it:=by simpa using hb
  subst e
  obtain⟨o,e,c,d⟩:=st
  exact⟨o,e,fun v z=>by rw[d]at z;cases z⟩
 keep:=fun i h h' st k=>st.at fun o e=>k it (by simp) o e
 item:=by
  intro X hP hw hK hc i pins s σ H E I hf st hg
  subst hP hw hK
  obtain⟨xs,x,hq,hx⟩:=hg
  obtain⟨its,rv,p,hz⟩:=I.list hq
  obtain⟨u,hu,ru⟩:=rv.get hx
  obtain⟨f0,f1,f2,f3,f4,f5⟩:=hf it (by simp)
  refine wpAny_pyNext_list_item st p.isList (x:=u) (by simpa using hu) fun h' ab sb=>?_
  have I1:Inv X pins σ H {s with heap:=h' }:=I.turned (t':=s.toks) (fun b o hb e=>(sb.2 b hb).trans e) f0 f1 f3 f4 f5
  obtain⟨o,e,c,d⟩:=id ab
  exact⟨u,rfl,At_ (s:={s with heap:=h' }) e c d (by decide) ⟨x,H,I1,ru,⟨rfl,fun ys hy=>by rw[I.list_inj hy hq];exact hx⟩,ab,fun b hb=>(hf b hb).1⟩⟩
 done:=by
  intro X hP hw hK hc i pins s σ H E I hf st hg
  subst hP hw hK
  obtain⟨xs,hq,hx⟩:=hg
  obtain⟨its,rv,p,hz⟩:=I.list hq
  obtain⟨f0,f1,f2,f3,f4,f5⟩:=hf it (by simp)
  have hl:=rv.length
  exact wpAny_pyNext_list_end (I.ok.hd hc) st p.isList (by simp;omega) fun h' eb=>⟨rfl,I.turned (t':=s.toks) (fun b o hb e=>eb b o hb e) f0 f1 f3 f4 f5⟩
 self:=fun _ _ _ _ _ st h=>wpAny_pyIter_listiter st h
theorem Nu {P:Program}{w:World}{K:α3}{tg:Expr}(a it:Addr):Turn P w K tg (Itt K a) [it] it (fun i h=>h.IsTupleIter it a i) where
 mem:=by simp
 obj:=fun i h st b hb=>by
  have e:b=it:=by simpa using hb
  subst e
  obtain⟨o,e,c,d⟩:=st
  exact⟨o,e,fun v z=>by rw[d]at z;cases z⟩
 keep:=fun i h h' st k=>st.at fun o e=>k it (by simp) o e
 item:=by
  intro X hP hw hK hc i pins s σ H E I hf st hg
  subst hP hw hK
  obtain⟨xs,x,hq,hx⟩:=hg
  obtain⟨its,rv,p,hz⟩:=I.tuple hq
  obtain⟨u,hu,ru⟩:=rv.get hx
  obtain⟨f0,f1,f2,f3,f4,f5⟩:=hf it (by simp)
  refine wpAny_pyNext_tuple_item st (show s.heap.IsTuple a its.toArray from p) (x:=u) (by simpa using hu) fun h' ab sb=>?_
  have I1:Inv X pins σ H {s with heap:=h' }:=I.turned (t':=s.toks) (fun b o hb e=>(sb.2 b hb).trans e) f0 f1 f3 f4 f5
  obtain⟨o,e,c,d⟩:=id ab
  exact⟨u,rfl,At_ (s:={s with heap:=h' }) e c d (by decide) ⟨x,H,I1,ru,⟨rfl,fun ys hy=>by rw[I.tuple_inj hy hq];exact hx⟩,ab,fun b hb=>(hf b hb).1⟩⟩
 done:=by
  intro X hP hw hK hc i pins s σ H E I hf st hg
  subst hP hw hK
  obtain⟨xs,hq,hx⟩:=hg
  obtain⟨its,rv,p,hz⟩:=I.tuple hq
  obtain⟨f0,f1,f2,f3,f4,f5⟩:=hf it (by simp)
  have hl:=rv.length
  exact wpAny_pyNext_tuple_end (I.ok.hd hc) st (show s.heap.IsTuple a its.toArray from p) (by simp;omega) fun h' eb=>⟨rfl,I.turned (t':=s.toks) (fun b o hb e=>eb b o hb e) f0 f1 f3 f4 f5⟩
 self:=fun _ _ _ _ _ st h=>wpAny_pyIter_tupleiter st h
theorem Ui {P:Program}{w:World}{K:α3}{tg:Expr}(it:Addr)(lo:Int)(n:Nat):Turn P w K tg (Itr lo n) [it] it (fun i h=>IsRangeIter h it (lo+(i:Nat)*1) ((n:Int)-(i:Nat)) 1) where
 mem:=by simp
 obj:=fun i h st b hb=>by
  have e:b=it:=by simpa using hb
  subst e
  exact⟨_,st,fun v z=>by
   have z':Data.fields _=Data.cell v:=z
   cases z'⟩
 keep:=fun i h h' st k=>k it (by simp) _ st
 item:=by
  intro X hP hw hK hc i pins s σ H E I hf st hg
  subst hP hw hK
  obtain⟨f0,f1,f2,f3,f4,f5⟩:=hf it (by simp)
  have W:=Walks.range (prog:=X.prog) (w:=X.w) (I.ok.hd hc) it lo 1 n
  refine W.item i s _ _ hg st fun v h' tk hv ab kk=>?_
  obtain⟨t,rfl⟩:=hv
  have I1:Inv X pins σ H {s with heap:=h',toks:=tk}:=I.turned (fun b o hb e=>kk b o (by simpa using hb) e) f0 f1 f3 f4 f5
  refine⟨_,rfl,At_ (s:={s with heap:=h',toks:=tk}) (n := "range_iterator") ab rfl rfl (by decide) ⟨.int (lo+i),H,I1,⟨t,?_⟩,⟨rfl,rfl⟩,ab,fun b hb=>(hf b hb).1⟩⟩
  rw[Int.mul_one]
 done:=by
  intro X hP hw hK hc i pins s σ H E I hf st hg
  subst hP hw hK
  obtain⟨f0,f1,f2,f3,f4,f5⟩:=hf it (by simp)
  exact wpAny_pyNext_range_end (I.ok.hd hc) st (by have:n<=i:=hg;omega) fun h' eb=>⟨rfl,I.turned (t':=s.toks) (fun b o hb e=>eb b o hb e) f0 f1 f3 f4 f5⟩
 self:=fun _ _ _ _ _ st h=>wpAny_pyIter_rangeiter st h
end L2
namespace L2
open PySem PySem.Spec PyProof.Rows
section
variable {X:Cx} {tg:Expr}
def BM_ (K:α3)(tl:TE):TI:=fun σ H R=>tl σ H fun x H1=>∃a,x=.ref a/\(∃xs,SqL K H1 a xs)/\R (Itl K a) H1
def iTup (K:α3)(tl:TE):TI:=fun σ H R=>tl σ H fun x H1=>∃a,x=.ref a/\(∃xs,SqT K H1 a xs)/\R (Itt K a) H1
theorem BW   (hl:PE X l tl):PI X tg l (BM_ X.K tl):=by
 intro pins s σ H R I h
 refine thn (hl pins s σ H _ I h) fun v s1 ⟨x,H1,I1,r1,q1⟩=>?_
 obtain⟨a,e,⟨xs,hq⟩,q⟩:=q1
 subst e
 cases r1
 obtain⟨its,rv,p,hz⟩:=I1.list hq
 refine wpAny_pyIter_list p.isList ?_
 refine⟨s1.heap.objs.size,[s1.heap.objs.size],_,_,H1,rfl,I1.kept (t':=s1.toks) fun b o e=>jm_ _ e,PP a _,⟨_,jC_ _ rfl,rfl,rfl⟩,fun b hb=>?_,q⟩
 have e:b=s1.heap.objs.size:=by simpa using hb
 subst e
 exact I1.fpOk (jg_ _) (I1.hok.fresh (jg_ _))
theorem FU   (hl:PE X l tl):PI X tg l (iTup X.K tl):=by
 intro pins s σ H R I h
 refine thn (hl pins s σ H _ I h) fun v s1 ⟨x,H1,I1,r1,q1⟩=>?_
 obtain⟨a,e,⟨xs,hq⟩,q⟩:=q1
 subst e
 cases r1
 obtain⟨its,rv,p,hz⟩:=I1.tuple hq
 refine xP_ (show s1.heap.IsTuple a its.toArray from p) ?_
 refine⟨s1.heap.objs.size,[s1.heap.objs.size],_,_,H1,rfl,I1.kept (t':=s1.toks) fun b o e=>jm_ _ e,Nu a _,⟨_,jC_ _ rfl,rfl,rfl⟩,fun b hb=>?_,q⟩
 have e:b=s1.heap.objs.size:=by simpa using hb
 subst e
 exact I1.fpOk (jg_ _) (I1.hok.fresh (jg_ _))
theorem Tb       {lo hi:Int}   (I:Inv X pins σ H s)(h1 : -(2 ^ 62)<=lo)(h2:lo<2 ^ 62)(h3 : -(2 ^ 62)<=hi)(h4:hi<2 ^ 62)
  (q:R (Itr lo (hi-lo).toNat) H):wpAny (model X.prog X.w) X.A (pyIter (.ref s.heap.objs.size)) (PIE X pins σ tg R) E {s with heap:=s.heap.push {cls:=.type "range",data:=.fields #[.int lo t,.int hi u,.int 1 v]},toks:=tk}:=by
 refine wpAny_pyIter_range (IsRange.new ..) (small_one h1 h2 h3 h4) ?_
 have I1:Inv X pins σ H {s with heap:=s.heap.push {cls:=.type "range",data:=.fields #[.int lo t,.int hi u,.int 1 v]},toks:=tk}:=I.kept fun b o e=>jm_ _ e
 refine⟨(s.heap.push {cls:=.type "range",data:=.fields #[.int lo t,.int hi u,.int 1 v]}).objs.size,[(s.heap.push {cls:=.type "range",data:=.fields #[.int lo t,.int hi u,.int 1 v]}).objs.size],_,_,H,rfl,
  I1.kept (t':=tk) fun b o e=>jm_ _ e,Ui _ lo (hi-lo).toNat,?_,fun b hb=>?_,q⟩
 ·have e1:lo+((0:Nat):Int)*1=lo:=by simp
  have e2:(((hi-lo).toNat:Nat):Int)-((0:Nat):Int)=Builtin.Range.rangeSize lo hi 1:=by rw[rangeSize_one];split<;>omega
  show IsRangeIter _ _ (lo+((0:Nat):Int)*1) ((((hi-lo).toNat:Nat):Int)-((0:Nat):Int)) 1
  rw[e1,e2]
  exact jC_ _ rfl
 ·have e:b=(s.heap.push {cls:=.type "range",data:=.fields #[.int lo t,.int hi u,.int 1 v]}).objs.size:=by simpa using hb
  subst e
  exact I1.fpOk (jg_ _) (I1.hok.fresh (jg_ _))
def BN_ (ta:TA):TI:=fun σ H R=>ta σ H fun vs H1=>∃j:Int,vs=[.int j] /\ -(2 ^ 62)<=j/\j<2 ^ 62/\R (Itr 0 j.toNat) H1
def BO_ (ta:TA):TI:=fun σ H R=>ta σ H fun vs H1=>∃i j:Int,vs=[.int i,.int j]/\(-(2 ^ 62)<=i/\i<2 ^ 62 /\ -(2 ^ 62)<=j/\j<2 ^ 62)/\R (Itr i (j-i).toNat) H1
theorem Bc    (hg:Gl X "range")(hm:X.mg "range"=none)(ha:PA X [a] ta)(hs:starEach [a] X.env=[(false,eval a X.env)]:=by rfl):PI X tg (.Call (.Name "range" p) [a] [] pos) (BN_ ta):=by
 intro pins s σ H R I h
 refine Call_ (FS I hg hm boot_range (qe_ (thn (ha pos pins s σ H _ I h) fun us s1 ⟨vs,H1,I1,r1,q1⟩=>?_) hs rfl))
 obtain⟨j,e,q1,q2,q⟩:=q1
 subst e
 cases r1 with
 |cons r rr=>
  cases rr
  obtain⟨t,rfl⟩:=r
  exact call_range_1 (Tb I1 (by omega) (by omega) q1 q2 (by simpa using q))
theorem VG    (hg:Gl X "range")(hm:X.mg "range"=none)(ha:PA X [a,b] ta)(hs:starEach [a,b] X.env=[(false,eval a X.env),(false,eval b X.env)]:=by rfl)(ee:starEach [b] X.env=[(false,eval b X.env)]:=by rfl):
  PI X tg (.Call (.Name "range" p) [a,b] [] pos) (BO_ ta):=by
 intro pins s σ H R I h
 refine Call_ (FS I hg hm boot_range (qe_ (thn (ha pos pins s σ H _ I h) fun us s1 ⟨vs,H1,I1,r1,q1⟩=>?_) (by rw[hs,ee]) (by rw[ee];rfl)))
 obtain⟨i,j,e,⟨q1,q2,q3,q4⟩,q⟩:=q1
 subst e
 cases r1 with
 |cons r rr=>
  cases rr with
  |cons r' rr=>
   cases rr
   obtain⟨t,rfl⟩:=r
   obtain⟨t',rfl⟩:=r'
   exact call_range_2 (Tb I1 q1 q2 q3 q4 q)
def tFor (wi:TI)(g:TG)(tb:TS):TS:=fun D σ H=>wi σ H fun J H1=>∃W:Nat->Nat->St->Hp->Prop,(∃m,W 0 m σ H1)/\∀i m σ H,W i m σ H ->
 (J.stop i H/\D.nx σ H)\/(J.go i H/\∃N:St->Hp->Prop,(∀ae H',N ae H'->∃m',m'<m/\W (i+1) m' ae H')/\∀x H',J.yld i H x H'->g x σ H' fun af H2=>tb {D with nx:=N,ct:=N,bk:=D.nx} af H2)
def Nv (fp:List Addr)(h:Heap):α7:=fp.filterMap fun b=>(h.get? b).map fun o=>(b,o)
theorem DS     (hb:b∈fp)(e:h.get? b=some o):(b,o)∈Nv fp h:=List.mem_filterMap.mpr ⟨b,hb,by rw[e];rfl⟩
theorem VH    (hp:p∈Nv fp h):p.1∈fp/\h.get? p.1=some p.2:=by
 obtain⟨b,hb,e⟩:=List.mem_filterMap.mp hp
 cases q:h.get? b with
 |none=>rw[q]at e;cases e
 |some o=>
  rw[q]at e
  have e':(b,o)=p:=jp_ e
  subst e'
  exact⟨hb,q⟩
theorem Inv.pinned      (I:Inv X pins σ H s)(hf:∀b∈fp,FpOk X pins H b)(ho:∀b∈fp,∃o,s.heap.get? b=some o/\∀v,o.data ≠ .cell v):Inv X (pins++Nv fp s.heap) σ H s:=
 I.pins_of fun p hp=>(jz_.mp hp).elim (fun z=>I.pin p (jw_ _ z)) fun z=>by
  obtain⟨hb,e⟩:=VH z
  obtain⟨f0,f1,f2,_⟩:=hf p.1 hb
  obtain⟨o,e',d⟩:=ho p.1 hb
  rw[e]at e';cases e'
  exact⟨e,f0,f1,f2,d⟩
theorem Inv.unpinned     (I:Inv X (pins++pl) σ H s):Inv X pins σ H s:=I.pins_of fun p hp=>I.pin p (jw_ _ (j9_ _ hp))
theorem Cb {iter:Expr}  {wi:TI}    (hp:PassesOwn (model X.prog X.w) X.A X.env X.xe)(hc:X.calm=true)(hi:PI X tg iter wi)(hg:PG X tg g)(hb:PSs X body tb)
  (hs:∀x,foldedSetIterable iter X.env x=pure x:=by intro _;rfl):PS X (.For tg iter body [] pos) (tFor wi g tb):=by
 intro pins s σ H D I h
 refine wpAny_For (thn (hi pins s σ H _ I h) fun v s1 h1=>thn h1 fun jP s2 h2=>?_) hs
 obtain⟨it,fp,tn,J,H2,e,I2,T,aJ,f2,W,⟨m0,w0⟩,turn⟩:=h2
 subst e
 -- what stays true of l4 iterator's objects through l4 loop
 have bV:∀{H':Hp},(∀b∈fp,H' b=none)->∀b∈fp,FpOk X pins H' b:=fun hn b hb=>⟨hn b hb,(f2 b hb).2⟩
 refine codeAny_forLoop_any (fun n s'=>∃i ae H',Inv X pins ae H' s'/\tn i s'.heap/\(∀b∈fp,H' b=none)/\W i n ae H') ?_ m0 ⟨0,σ,H2,I2,aJ,fun b hb=>(f2 b hb).1,w0⟩
 rintro n s3 ⟨i,av,H3,I3,cK,jg,w3⟩
 rcases turn i n av H3 w3 with ⟨stop,qn⟩|⟨go,N,hN,step⟩
 ·refine xw_ hp (thn (T.done X rfl rfl rfl hc i pins s3 av H3 X.xe I3 (bV jg) cK stop) fun r s4 ⟨hr,I4⟩=>?_)
  subst hr
  exact zG_ ⟨av,H3,I4,qn⟩
 ·refine xw_ hp (thn (T.item X rfl rfl rfl hc i pins s3 av H3 X.xe I3 (bV jg) cK go) fun r s4 ⟨u,hr,h4⟩=>?_)
  subst hr
  refine xw_ hp (thn h4 fun _ s5 ⟨x,H5,I5,r5,y5,aS,jQ⟩=>?_)
  have jR:=I5.pinned (bV jQ) (T.obj _ _ aS)
  refine xw_ hp (thn (hg _ s5 av H5 x u _ jR r5 (step x H5 y5)) fun _ s6 ⟨cB,H6,I6,q6⟩=>?_)
  refine xw_ hp (thn (hb _ s6 cB H6 _ I6 q6) fun f s7 q7=>?_)
  have again:∀{cn:St} {H7:Hp},Inv X (pins++Nv fp s5.heap) cn H7 s7->N cn H7->∃m,m<n/\∃i ae H',Inv X pins ae H' s7/\tn i s7.heap/\(∀b∈fp,H' b=none)/\W i m ae H':=fun {cn H7} I7 n7=>by
   obtain⟨m',hm,w7⟩:=hN cn H7 n7
   refine⟨m',hm,i+1,cn,H7,I7.unpinned,T.keep _ _ _ aS fun b hb o e=>(I7.pin (b,o) (jw_ _ (jw_ _ (DS hb e)))).1,fun b hb=>?_,w7⟩
   obtain⟨o,e,d⟩:=T.obj _ _ aS b hb
   exact (I7.pin (b,o) (jw_ _ (jw_ _ (DS hb e)))).2.1
  cases f with
  |next=>obtain⟨cn,H7,I7,n7⟩:=q7;exact again I7 n7
  |cont=>obtain⟨cn,H7,I7,n7⟩:=q7;exact again I7 n7
  |brk=>obtain⟨cn,H7,I7,q7⟩:=q7;exact⟨cn,H7,I7.unpinned,q7⟩
  |ret v=>obtain⟨x7,cn,H7,I7,r7,q7⟩:=q7;exact⟨x7,cn,H7,I7.unpinned,r7,q7⟩
end
theorem XO {K:α3}{a:Addr}{xs:List V}{g:TG}{tb:TS}{D:Ends}{σ:St}{H:Hp}(Pv:Nat->St->Hp->Prop)(h0:Pv 0 σ H)(hl:∀i σ H,i<=xs.length->Pv i σ H->SqL K H a xs)
  (hs:∀i x σ H,xs[i]?=some x->Pv i σ H->g x σ H fun af H2=>tb {D with nx:=Pv (i+1),ct:=Pv (i+1),bk:=D.nx} af H2) (hd:∀σ H,Pv xs.length σ H->D.nx σ H):
  ∃W:Nat->Nat->St->Hp->Prop,(∃m,W 0 m σ H)/\∀i m σ H,W i m σ H ->
   ((Itl K a).stop i H/\D.nx σ H)\/((Itl K a).go i H/\∃N:St->Hp->Prop,(∀ae H',N ae H'->∃m',m'<m/\W (i+1) m' ae H')/\∀x H',(Itl K a).yld i H x H'->g x σ H' fun af H2=>tb {D with nx:=N,ct:=N,bk:=D.nx} af H2):=by
 refine⟨fun i m σ H=>m=xs.length-i/\i<=xs.length/\Pv i σ H,⟨xs.length,by simp,jZ_ _,h0⟩,?_⟩
 rintro i m σ H ⟨rfl,hi,p⟩
 have q:=hl i σ H hi p
 by_cases ah:i<xs.length
 ·refine .inr ⟨⟨xs,xs[i],q,by simp[ah]⟩,Pv (i+1),fun ae H' p'=>⟨xs.length-(i+1),by omega,rfl,ah,p'⟩,fun x H' y=>?_⟩
  obtain⟨e,y⟩:=y
  subst e
  exact hs i x σ _ (y xs q) p
 ·have e:i=xs.length:=by omega
  subst e
  exact .inl ⟨⟨xs,q,jg_ _⟩,hd σ H p⟩
theorem Au_ {K:α3}{a:Addr}{xs:List V}{g:TG}{tb:TS}{D:Ends}{σ:St}{H:Hp}(Pv:Nat->St->Hp->Prop)(h0:Pv 0 σ H)(hl:∀i σ H,i<=xs.length->Pv i σ H->SqT K H a xs)
  (hs:∀i x σ H,xs[i]?=some x->Pv i σ H->g x σ H fun af H2=>tb {D with nx:=Pv (i+1),ct:=Pv (i+1),bk:=D.nx} af H2) (hd:∀σ H,Pv xs.length σ H->D.nx σ H):
  ∃W:Nat->Nat->St->Hp->Prop,(∃m,W 0 m σ H)/\∀i m σ H,W i m σ H ->
   ((Itt K a).stop i H/\D.nx σ H)\/((Itt K a).go i H/\∃N:St->Hp->Prop,(∀ae H',N ae H'->∃m',m'<m/\W (i+1) m' ae H')/\∀x H',(Itt K a).yld i H x H'->g x σ H' fun af H2=>tb {D with nx:=N,ct:=N,bk:=D.nx} af H2):=by
 refine⟨fun i m σ H=>m=xs.length-i/\i<=xs.length/\Pv i σ H,⟨xs.length,by simp,jZ_ _,h0⟩,?_⟩
 rintro i m σ H ⟨rfl,hi,p⟩
 have q:=hl i σ H hi p
 by_cases ah:i<xs.length
 ·refine .inr ⟨⟨xs,xs[i],q,by simp[ah]⟩,Pv (i+1),fun ae H' p'=>⟨xs.length-(i+1),by omega,rfl,ah,p'⟩,fun x H' y=>?_⟩
  obtain⟨e,y⟩:=y
  subst e
  exact hs i x σ _ (y xs q) p
 ·have e:i=xs.length:=by omega
  subst e
  exact .inl ⟨⟨xs,q,jg_ _⟩,hd σ H p⟩
theorem VI {lo:Int}{n:Nat}{g:TG}{tb:TS}{D:Ends}{σ:St}{H:Hp}(Pv:Nat->St->Hp->Prop)(h0:Pv 0 σ H)
  (hs:∀i σ H,i<n->Pv i σ H->g (.int (lo+i)) σ H fun af H2=>tb {D with nx:=Pv (i+1),ct:=Pv (i+1),bk:=D.nx} af H2) (hd:∀σ H,Pv n σ H->D.nx σ H):
  ∃W:Nat->Nat->St->Hp->Prop,(∃m,W 0 m σ H)/\∀i m σ H,W i m σ H ->
   ((Itr lo n).stop i H/\D.nx σ H)\/((Itr lo n).go i H/\∃N:St->Hp->Prop,(∀ae H',N ae H'->∃m',m'<m/\W (i+1) m' ae H')/\∀x H',(Itr lo n).yld i H x H'->g x σ H' fun af H2=>tb {D with nx:=N,ct:=N,bk:=D.nx} af H2):=by
 refine⟨fun i m σ H=>m=n-i/\i<=n/\Pv i σ H,⟨n,by simp,jZ_ _,h0⟩,?_⟩
 rintro i m σ H ⟨rfl,hi,p⟩
 by_cases ah:i<n
 ·refine .inr ⟨ah,Pv (i+1),fun ae H' p'=>⟨n-(i+1),by omega,rfl,ah,p'⟩,fun x H' y=>?_⟩
  obtain⟨e,y⟩:=y
  subst e y
  exact hs i σ _ ah p
 ·have e:i=n:=by omega
  subst e
  exact .inl ⟨jg_ _,hd σ H p⟩
end L2
namespace L2
open PySem PySem.Spec PyProof.Rows
abbrev R2:=V->V->Hp->VK->Prop
def OpR (X:Cx)(f:Value->Value->Sem Value)(r:R2):Prop:=
 ∀(pins:α7) (s:Shared) (σ:St) (H:Hp) (x y:V) (v u:Value) (Q:VK),Inv X pins σ H s->RelV x v->RelV y u->r x y H Q ->
  wpAny (model X.prog X.w) X.A (f v u) (EP X pins σ Q) X.xe s
def UnR (X:Cx)(f:Value->Sem Value)(r:V->Hp->VK->Prop):Prop:=
 ∀(pins:α7) (s:Shared) (σ:St) (H:Hp) (x:V) (v:Value) (Q:VK),Inv X pins σ H s->RelV x v->r x H Q ->
  wpAny (model X.prog X.w) X.A (f v) (EP X pins σ Q) X.xe s
def Dq (X:Cx)(f:Value)(r:List V->Hp->VK->Prop):Prop:=
 ∀(pins:α7) (s:Shared) (σ:St) (H:Hp) (xs:List V) (us:List Value) (Q:VK),Inv X pins σ H s->Vals xs us->r xs H Q ->
  wpAny (model X.prog X.w) X.A (call f us) (EP X pins σ Q) X.xe s
def tOp (r:R2)(ta tb:TE):TE:=fun σ H Q=>ta σ H fun x H1=>tb σ H1 fun y H2=>r x y H2 Q
def tUn (r:V->Hp->VK->Prop)(ta:TE):TE:=fun σ H Q=>ta σ H fun x H1=>r x H1 Q
def rI (C:Int->Int->Prop)(g:Int->Int->V):R2:=fun x y H Q=>∃i j,x=.int i/\y=.int j/\C i j/\Q (g i j) H
def rI0 (g:Int->Int->V):R2:=fun x y H Q=>∃i j,x=.int i/\y=.int j/\Q (g i j) H
def rU (g:Int->V):V->Hp->VK->Prop:=fun x H Q=>∃i,x=.int i/\Q (g i) H
section
variable {X:Cx} {a b c:Expr} {ta tb tc:TE} {pos:Pos}
theorem binT (ha:PE X a ta)(hb:PE X b tb){pins:α7}{s:Shared}{σ:St}{H:Hp}{R:V->V->Hp->Prop}(I:Inv X pins σ H s)
  (h:ta σ H fun x H1=>tb σ H1 fun y H2=>R x y H2) {Q:Value->Shared->Prop} {f:Value->Value->Sem Value}
  (hf:∀v u s2 x y H2,Inv X pins σ H2 s2->RelV x v->RelV y u->R x y H2->wpAny (model X.prog X.w) X.A (f v u) Q X.xe s2):
  wpAny (model X.prog X.w) X.A (eval a X.env) (fun v s₁=>wpAny (model X.prog X.w) X.A (eval b X.env) (fun u aT=>wpAny (model X.prog X.w) X.A (f v u) Q X.xe aT) X.xe s₁) X.xe s:=by
 refine thn (ha pins s σ H _ I h) fun v s1 ⟨x,H1,I1,r1,q1⟩=>?_
 refine thn (hb pins s1 σ H1 _ I1 q1) fun u s2 ⟨y,H2,I2,r2,q2⟩=>?_
 exact hf v u s2 x y H2 I2 r1 r2 q2
theorem An   (ho:OpR X (binaryOp op) r)(ha:PE X a ta)(hb:PE X b tb):PE X (.BinOp a op b pos) (tOp r ta tb):=by
 intro pins s σ H Q I h
 exact wpAny_BinOp (binT ha hb I h fun v u s2 x y H2 I2 rx ry q=>ho pins s2 σ H2 x y v u Q I2 rx ry q)
theorem BP_   (ho:UnR X (unaryOp op) r)(ha:PE X a ta):PE X (.UnaryOp op a pos) (tUn r ta):=by
 intro pins s σ H Q I h
 exact UnaryOp_ (thn (ha pins s σ H _ I h) fun v s1 ⟨x,H1,I1,r1,q1⟩=>ho pins s1 σ H1 x v Q I1 r1 q1)
theorem opI {f:Value->Value->Sem Value}{C:Int->Int->Prop}{g:Int->Int->Int}
  (rule:∀(i j:Int) (t u:Tok) (s:Shared) (Q:Value->Shared->Prop) (E:Value->Shared->Prop),C i j->Q (.int (g i j) s.toks) {s with toks:=s.toks+1}->wpAny (model X.prog X.w) X.A (f (.int i t) (.int j u)) Q E s):
  OpR X f (rI C fun i j=>.int (g i j)):=by
 intro pins s σ H x y v u Q I rx ry h
 obtain⟨i,j,rfl,rfl,hc,q⟩:=h
 obtain⟨t,rfl⟩:=rx
 obtain⟨t',rfl⟩:=ry
 exact rule i j t t' s _ _ hc ⟨.int (g i j),H,I.tok _,⟨_,rfl⟩,q⟩
theorem opI0 {f:Value->Value->Sem Value}{g:Int->Int->Int}
  (rule:∀(i j:Int) (t u:Tok) (s:Shared) (Q:Value->Shared->Prop) (E:Value->Shared->Prop),Q (.int (g i j) s.toks) {s with toks:=s.toks+1}->wpAny (model X.prog X.w) X.A (f (.int i t) (.int j u)) Q E s):
  OpR X f (rI0 fun i j=>.int (g i j)):=by
 intro pins s σ H x y v u Q I rx ry h
 obtain⟨i,j,rfl,rfl,q⟩:=h
 obtain⟨t,rfl⟩:=rx
 obtain⟨t',rfl⟩:=ry
 exact rule i j t t' s _ _ ⟨.int (g i j),H,I.tok _,⟨_,rfl⟩,q⟩
theorem opB0 {f:Value->Value->Sem Value}{g:Int->Int->Bool}
  (rule:∀(i j:Int) (t u:Tok) (s:Shared) (Q:Value->Shared->Prop) (E:Value->Shared->Prop),Q (.bool (g i j)) s->wpAny (model X.prog X.w) X.A (f (.int i t) (.int j u)) Q E s):
  OpR X f (rI0 fun i j=>.bl (g i j)):=by
 intro pins s σ H x y v u Q I rx ry h
 obtain⟨i,j,rfl,rfl,q⟩:=h
 obtain⟨t,rfl⟩:=rx
 obtain⟨t',rfl⟩:=ry
 exact rule i j t t' s _ _ ⟨.bl (g i j),H,I,rfl,q⟩
def CDiv (i j:Int):Prop:=0<j/\j<1073741824
def CMul (i j:Int):Prop:=(-(2 ^ 64)<i/\i<2 ^ 64)\/(-(2 ^ 64)<j/\j<2 ^ 64)
theorem CMul.ok  (h:CMul i j):IntMulOk i j:=by
 rcases h with ⟨h1,h2⟩|⟨h1,h2⟩
 ·exact .of_left (intBits_le_64 h1 h2)
 ·exact .of_right (intBits_le_64 h1 h2)
theorem Bh:OpR X (binaryOp .Add) (rI0 fun i j=>.int (i+j)):=opI0 fun _ _ _ _ _ _ _ q=>add_int q
theorem Ep:OpR X (binaryOp .Sub) (rI0 fun i j=>.int (i-j)):=opI0 fun _ _ _ _ _ _ _ q=>sub_int q
theorem HQ:OpR X (binaryOp .Mult) (rI CMul fun i j=>.int (i*j)):=opI fun _ _ _ _ _ _ _ hc q=>mul_int q hc.ok
theorem Cs:OpR X (binaryOp .FloorDiv) (rI CDiv fun i j=>.int (i / j)):=opI fun i j _ _ _ _ _ hc q=>by
 have h1:(0:Int)<j:=hc.1
 have h2:j<1073741824:=hc.2
 exact floordiv_int (by omega) (by rw[Int.fdiv_eq_ediv_of_nonneg i (by omega)];exact q) (.inl (PyProof.noPylong_small (by omega)))
theorem A1:OpR X (binaryOp .Mod) (rI (fun _ j=>0<j) fun i j=>.int (i%j)):=opI fun i j _ _ _ _ _ hc q=>by
 have h1:(0:Int)<j:=hc
 exact mod_int' (by omega) (by rw[Int.fmod_eq_emod_of_nonneg i (by omega)];exact q)
theorem unI {f:Value->Sem Value}{g:Int->Int}
  (rule:∀(i:Int) (t:Tok) (s:Shared) (Q:Value->Shared->Prop) (E:Value->Shared->Prop),Q (.int (g i) s.toks) {s with toks:=s.toks+1}->wpAny (model X.prog X.w) X.A (f (.int i t)) Q E s):
  UnR X f (rU fun i=>.int (g i)):=by
 intro pins s σ H x v Q I rx h
 obtain⟨i,rfl,q⟩:=h
 obtain⟨t,rfl⟩:=rx
 exact rule i t s _ _ ⟨.int (g i),H,I.tok _,⟨_,rfl⟩,q⟩
theorem Zo:UnR X (unaryOp .USub) (rU fun i=>.int (-i)):=unI fun _ _ _ _ _ q=>neg_int q
end
def scal:V->V->Bool
 |.non,.non=>true | .non,.int _=>true | .int _,.non=>true | .non,.bl _=>true | .bl _,.non=>true | .non,.str _=>true | .str _,.non=>true
 |.int _,.int _=>true | .bl _,.bl _=>true | .str _,.str _=>true | .byt _,.byt _=>true
 |.int _,.str _=>true | .str _,.int _=>true | .bl _,.str _=>true | .str _,.bl _=>true
 |_,_=>false
def rEq:R2:=fun x y H Q=>scal x y=true/\Q (.bl (decide (x=y))) H
def rNe:R2:=fun x y H Q=>scal x y=true/\Q (.bl (!decide (x=y))) H
theorem VJ  : decide (V.int i=V.int j)=(i==j):=by
 rw[qx_]
 simp
theorem Zp  : decide (V.bl i=V.bl j)=(i==j):=by
 rw[qx_]
 simp
theorem VL  : decide (V.str i=V.str j)=(i==j):=by
 rw[qx_]
 simp
theorem VM  : decide (V.byt i=V.byt j)=(i.toList==j.toList):=by
 rw[qx_]
 cases i
 cases j
 simp
section
variable {X:Cx} {a b c:Expr} {ta tb tc:TE} {pos:Pos}
theorem Br       (I:Inv X pins σ H s)(q:Q (.bl k) H)(e:k=k'):EP X pins σ Q (.bool k') s:=by
 subst e
 exact⟨.bl k,H,I,rfl,q⟩
theorem Dh:OpR X (compareOp .Eq) rEq:=by
 intro pins s σ H x y v u Q I rx ry h
 obtain⟨hs,q⟩:=h
 cases x with
 |non=>
  cases rx
  cases y with
  |non=>cases ry;exact PySem.EqNone.eq_none_none (Br I q (by simp))
  |bl j=>cases ry;exact PySem.EqNone.eq_none_bool (Br I q (by simp))
  |int j=>obtain⟨t',rfl⟩:=ry;exact PySem.EqNone.eq_none_int (Br I q (by simp))
  |str j=>obtain⟨t',rfl⟩:=ry;exact PySem.EqNone.eq_none_str (Br I q (by simp))
  |_=>exact absurd (show false=true from hs) jr_
 |bl i=>
  cases rx
  cases y with
  |non=>cases ry;exact PySem.EqNone.eq_bool_none (Br I q (by simp))
  |bl j=>cases ry;exact eq_bool (Br I q Zp)
  |str j=>obtain⟨t',rfl⟩:=ry;exact PySem.EqMixed.eq_bool_str (Br I q (by simp))
  |_=>exact absurd (show false=true from hs) jr_
 |int i=>
  obtain⟨t,rfl⟩:=rx
  cases y with
  |non=>cases ry;exact PySem.EqNone.eq_int_none (Br I q (by simp))
  |int j=>obtain⟨t',rfl⟩:=ry;exact eq_int (Br I q VJ)
  |str j=>obtain⟨t',rfl⟩:=ry;exact PySem.EqMixed.eq_int_str (Br I q (by simp))
  |_=>exact absurd (show false=true from hs) jr_
 |str i=>
  obtain⟨t,rfl⟩:=rx
  cases y with
  |non=>cases ry;exact PySem.EqNone.eq_str_none (Br I q (by simp))
  |bl j=>cases ry;exact PySem.EqMixed.eq_str_bool (Br I q (by simp))
  |int j=>obtain⟨t',rfl⟩:=ry;exact PySem.EqMixed.eq_str_int (Br I q (by simp))
  |str j=>obtain⟨t',rfl⟩:=ry;exact eq_str (Br I q VL)
  |_=>exact absurd (show false=true from hs) jr_
 |byt i=>
  obtain⟨t,rfl⟩:=rx
  cases y with
  |byt j=>obtain⟨t',rfl⟩:=ry;exact PySem.W.eq_bytes (Br I q VM)
  |_=>exact absurd (show false=true from hs) jr_
 |_=>cases y<;>exact absurd (show false=true from hs) jr_
theorem XQ:OpR X (compareOp .NotEq) rNe:=by
 intro pins s σ H x y v u Q I rx ry h
 obtain⟨hs,q⟩:=h
 cases x with
 |non=>
  cases rx
  cases y with
  |non=>cases ry;exact PySem.EqNone.ne_none_none (Br I q (by simp))
  |bl j=>cases ry;exact PySem.EqNone.ne_none_bool (Br I q (by simp))
  |int j=>obtain⟨t',rfl⟩:=ry;exact PySem.EqNone.ne_none_int (Br I q (by simp))
  |str j=>obtain⟨t',rfl⟩:=ry;exact PySem.EqNone.ne_none_str (Br I q (by simp))
  |_=>exact absurd (show false=true from hs) jr_
 |bl i=>
  cases rx
  cases y with
  |non=>cases ry;exact PySem.EqNone.ne_bool_none (Br I q (by simp))
  |bl j=>cases ry;exact ne_bool (Br I q (jG_ not Zp))
  |str j=>obtain⟨t',rfl⟩:=ry;exact PySem.EqMixed.ne_bool_str (Br I q (by simp))
  |_=>exact absurd (show false=true from hs) jr_
 |int i=>
  obtain⟨t,rfl⟩:=rx
  cases y with
  |non=>cases ry;exact PySem.EqNone.ne_int_none (Br I q (by simp))
  |int j=>obtain⟨t',rfl⟩:=ry;exact ne_int (Br I q (jG_ not VJ))
  |str j=>obtain⟨t',rfl⟩:=ry;exact PySem.EqMixed.ne_int_str (Br I q (by simp))
  |_=>exact absurd (show false=true from hs) jr_
 |str i=>
  obtain⟨t,rfl⟩:=rx
  cases y with
  |non=>cases ry;exact PySem.EqNone.ne_str_none (Br I q (by simp))
  |bl j=>cases ry;exact PySem.EqMixed.ne_str_bool (Br I q (by simp))
  |int j=>obtain⟨t',rfl⟩:=ry;exact PySem.EqMixed.ne_str_int (Br I q (by simp))
  |str j=>obtain⟨t',rfl⟩:=ry;exact ne_str (Br I q (jG_ not VL))
  |_=>exact absurd (show false=true from hs) jr_
 |byt i=>
  obtain⟨t,rfl⟩:=rx
  cases y with
  |byt j=>obtain⟨t',rfl⟩:=ry;exact PySem.W.ne_bytes (Br I q (jG_ not VM))
  |_=>exact absurd (show false=true from hs) jr_
 |_=>cases y<;>exact absurd (show false=true from hs) jr_
theorem KO:OpR X (compareOp .Lt) (rI0 fun i j=>.bl (decide (i<j))):=opB0 fun _ _ _ _ _ _ _ q=>lt_int q
theorem BQ_:OpR X (compareOp .LtE) (rI0 fun i j=>.bl (decide (i<=j))):=opB0 fun _ _ _ _ _ _ _ q=>le_int q
theorem Av_:OpR X (compareOp .Gt) (rI0 fun i j=>.bl (decide (j<i))):=opB0 fun _ _ _ _ _ _ _ q=>gt_int q
theorem Dw_:OpR X (compareOp .GtE) (rI0 fun i j=>.bl (decide (j<=i))):=opB0 fun _ _ _ _ _ _ _ q=>ge_int q
theorem BR_:OpR X (compareOp .Is) (fun x y H Q=>y=.non/\Q (.bl (decide (x=.non))) H):=by
 intro pins s σ H x y v u Q I rx ry h
 obtain⟨rfl,q⟩:=h
 cases ry
 refine is_none_gen (Br I q ?_)
 cases x<;>first
  | (cases rx;rfl)
  | (obtain⟨t,rfl⟩:=rx;rfl)
theorem AS (b:Expr)  (h:op ≠ .In:=by decide)(h2:op ≠ .NotIn:=by decide):behindInMarks op b=false:=by
 have e1:(op==CmpOp.In)=false:=by cases op<;>first|rfl|exact absurd rfl h
 have e2:(op==CmpOp.NotIn)=false:=by cases op<;>first|rfl|exact absurd rfl h2
 cases b<;>simp[behindInMarks,e1,e2]
theorem Rw   (ho:OpR X (compareOp op) r)(ha:PE X a ta)(hb:PE X b tb)(hm:behindInMarks op b=false):PE X (.Compare a [op] [b] pos) (tOp r ta tb):=by
 intro pins s σ H Q I h
 exact wpAny_Compare1 (binT ha hb I h fun v u s2 x y H2 I2 rx ry q=>ho pins s2 σ H2 x y v u Q I2 rx ry q) hm
def XR (t:TE):TT:=fun σ H Q=>t σ H fun x H'=>∃k,x=.bl k/\Q k H'
theorem Av   (ho:OpR X (compareOp op) r)(ha:PE X a ta)(hb:PE X b tb)(hm:behindInMarks op b=false):PT X (.Compare a [op] [b] pos) (XR (tOp r ta tb)):=by
 intro pins s σ H Q I h
 refine wpAny_isTrue_Compare1 (thn (ha pins s σ H _ I h) fun v s1 ⟨x,H1,I1,r1,q1⟩=>thn (hb pins s1 σ H1 _ I1 q1) fun u s2 ⟨y,H2,I2,r2,q2⟩ =>
  thn (ho pins s2 σ H2 x y v u _ I2 r1 r2 q2) fun c s3 ⟨z,H3,I3,r3,k,e,q3⟩=>?_) hm
 subst e
 cases r3
 exact xv_ ⟨H3,I3,q3⟩
def Zq (r r':R2)(ta tb tc:TE):TE:=fun σ H Q=>ta σ H fun x H1=>tb σ H1 fun y H2=>r x y H2 fun z H3=>∃k,z=.bl k /\
 (if k=true then tc σ H3 fun w' H4=>r' y w' H4 Q else Q (.bl false) H3)
theorem XS   (ho:OpR X (compareOp op) r)(fR:OpR X (compareOp op') r')(ha:PE X a ta)(hb:PE X b tb)(hc:PE X c tc)
  (hm:lastMarks [op,op'] [b,c]=false:=by with_unfolding_all rfl):PE X (.Compare a [op,op'] [b,c] pos) (Zq r r' ta tb tc):=by
 intro pins s σ H Q I h
 refine Compare_chain (thn (ha pins s σ H _ I h) fun v s1 ⟨x,H1,I1,r1,q1⟩=>chain_link (thn (hb pins s1 σ H1 _ I1 q1) fun u s2 ⟨y,H2,I2,r2,q2⟩ =>
  thn (ho pins s2 σ H2 x y v u _ I2 r1 r2 q2) fun d s3 ⟨z,H3,I3,r3,k,e,q3⟩=>?_)) hm
 subst e
 cases r3
 refine xv_ ?_
 cases k with
 |false=>exact ite_ff ⟨.bl false,H3,I3,rfl,q3⟩
 |true=>exact ite_tt (chain_last (thn (hc pins s3 σ H3 _ I3 q3) fun w' s4 ⟨z',H4,I4,r4,q4⟩=>fR pins s4 σ H4 y z' u w' Q I4 r2 r4 q4))
theorem PQ:(sizeLine:Nat)<2 ^ 63:=by rw[sizeLine_eq];decide
theorem vals1   (r:Vals [x] us):∃u,us=[u]/\RelV x u:=by
 cases r with
 |cons r1 r2=>cases r2;exact⟨_,rfl,r1⟩
theorem vals2   (r:Vals [x,y] us):∃u w',us=[u,w']/\RelV x u/\RelV y w':=by
 cases r with
 |cons r1 r2=>
  cases r2 with
  |cons r3 r4=>cases r4;exact⟨_,_,rfl,r1,r3⟩
theorem VN (hc:X.calm=true):Dq X (.builtin "max") (fun xs H Q=>∃i j,xs=[.int i,.int j]/\Q (.int (if j > i then j else i)) H):=by
 intro pins s σ H xs us Q I r h
 obtain⟨i,j,rfl,q⟩:=h
 obtain⟨u,w',rfl,⟨t,rfl⟩,⟨t',rfl⟩⟩:=vals2 r
 refine max_two_ints (I.ok.hd hc) fun h' tk k=>⟨_,H,I.kept k,?_,q⟩
 by_cases hj:j > i
 ·rw[if_pos hj,if_pos hj];exact⟨_,rfl⟩
 ·rw[if_neg hj,if_neg hj];exact⟨_,rfl⟩
theorem VO (hc:X.calm=true):Dq X (.builtin "min") (fun xs H Q=>∃i j,xs=[.int i,.int j]/\Q (.int (if j<i then j else i)) H):=by
 intro pins s σ H xs us Q I r h
 obtain⟨i,j,rfl,q⟩:=h
 obtain⟨u,w',rfl,⟨t,rfl⟩,⟨t',rfl⟩⟩:=vals2 r
 refine min_two_ints (I.ok.hd hc) fun h' tk k=>⟨_,H,I.kept k,?_,q⟩
 by_cases hj:j<i
 ·rw[if_pos hj,if_pos hj];exact⟨_,rfl⟩
 ·rw[if_neg hj,if_neg hj];exact⟨_,rfl⟩
end
end L2
namespace L2
open PySem PySem.Spec PyProof.Rows
structure ObjM (h:Heap)(x dx C:Addr)(mA:Str->α5):Prop where
 obj:h.get? x=some (PySem.W.instObj C dx)
 ns:h.Ns1 dx mA
 ne:dx≠x
theorem VP {h:Heap}{dx:Addr}{mA:Str->α5}(n:h.Ns1 dx mA):∃od,h.get? dx=some od/\∀name,PySem.W.lookIn name od=some (mA name):=by
 obtain⟨o,es,ep,ho,hd,hk,_,hm⟩:=n
 refine⟨o,ho,fun name=>?_⟩
 have e:=hm name
 unfold nsFind findBy at e
 rw[<-Array.find?_toList]at e
 unfold PySem.W.lookIn
 rw[hd]
 dsimp only
 split
 ·rename_i y q
  rw[q]at e
  exact jG_ some e
 ·rename_i q
  rw[q]at e
  have a:es.toList.any (·.refKey)=false:=by
   rw[List.any_eq_false]
   intro y hy
   obtain⟨z,t,a7⟩:=hk y (Array.mem_toList_iff.mp hy)
   simp[DictEntry.refKey,a7]
  have a':¬ es.toList.any (·.refKey)=true:=by rw[a];exact jr_
  rw[if_neg a']
  exact jG_ some e
theorem ObjM.look    (I:ObjM h x dx C mA):∃od,PySem.W.InstAt h x (PySem.W.instObj C dx) C (some od)/\∀name,PySem.W.lookIn name od=some (mA name):=
 let ⟨od,ho,hl⟩:=VP I.ns
 ⟨od,⟨I.obj,rfl,rfl,ho⟩,hl⟩
theorem RelO.some_of   (r:RelO (some v) o):∃u,o=some u/\RelV v u:=by
 cases o with
 |none=>exact (show False from r).elim
 |some u=>exact⟨u,rfl,r⟩
section
variable {P:Program} {w:World} {H H':Hp} {h h':Heap} {a C dx:Addr} {fs fs':List (Str×V)}
theorem Aw_ (hok:HOk P w H h)(e:H a=some (.ins C dx fs)):∃mA,ObjM h a dx C mA/\(∀f,RelO (fs.lookup f) (mA f))/\PySem.Within mA (fs.map (·.1))/\fs.length<=1000/\H dx=some (.own a):=by
 obtain⟨d,z,ne,ob,mA,n,r,q⟩:=(show B6 P w H h a (.ins C dx fs) from hok a _ e)
 exact⟨mA,⟨ob,n,ne⟩,r,q,z,d⟩
end
structure Cls (K:α3)(C:Addr):Prop where
 pg:PySem.W.plainGet K C Str.empty=true
 hd:PySem.W.hasDictIn K C=true
 po:PySem.W.plainOver K C=true
 sa:PySem.W.findIn K (.ref C) "__setattr__"=some (some (.builtin "object.__setattr__"))
theorem Cls.get {K:α3}  (c:Cls K C)(f:Str):PySem.W.plainGet K C f=true:=c.pg
section
variable {X:Cx} {pins:α7} {σ:St} {H:Hp} {s:Shared} {A:Around} {E:Value->Shared->Prop} {Q:Value->Shared->Prop} {c:Value} {b:Bool}
inductive TyOf (K:α3)(H:Hp):V->Value->Prop where
 | non:TyOf K H .non (.type "NoneType")
 | bl (x:Bool):TyOf K H (.bl x) (.type "bool")
 | int (i:Int):TyOf K H (.int i) (.type "int")
 | str (x:Str):TyOf K H (.str x) (.type "str")
 | flt (x:UInt64):TyOf K H (.flt x) (.type "float")
 | lst {a:Addr} {xs:List V} (e:H a=some (.lst xs)):TyOf K H (.ref a) (.type "list")
 | frz {a:Addr} {o:Obj} {xs:List V} (e:H a=some (.frz o (.lst xs))):TyOf K H (.ref a) (.type "list")
 | tup {a:Addr} {xs:List V} (e:H a=some (.tup xs)):TyOf K H (.ref a) (.type "tuple")
 | dK {a:Addr} {kvs:List (Key×V)} (e:H a=some (.dK kvs)):TyOf K H (.ref a) (.type "dict")
 | dT {a:Addr} {kvs:List (List Key×V)} (e:H a=some (.dT kvs)):TyOf K H (.ref a) (.type "dict")
 | ins {a C dx:Addr} {fs:List (Str×V)} (e:H a=some (.ins C dx fs)) (cl:Cls K C) (ha:PySem.W.findIn K (.ref C) "__class__"=some (some (.builtin "object.__class__")))
   (hn:PySem.W.specialIn K (.builtin "object.__class__") "__get__"=some (some (.builtin "getset_descriptor.__get__"))) (jS:PySem.W.takesIn K (.builtin "object.__class__")=some true)
   (hm:PySem.W.mroIn K C (.type "object")=some true):TyOf K H (.ref a) (.ref C)
theorem VQ   (I:Inv X pins σ H s)(rx:RelV x u)(ty:TyOf X.K H x t)(e:kitOne X.K t c=some b)(h:∀tk,Q (.bool b) {s with toks:=tk}):
  wpAny (model X.prog X.w) A (call (.builtin "isinstance") [u,c]) Q E s:=by
 cases ty with
 |non=>cases (show u=Value.none from rx);exact qp_ PySem.W.kitx_none I.kIn True.intro e (fun z=>nomatch z) h
 |bl y=>cases (show u=Value.bool y from rx);exact qp_ PySem.W.kitx_bool I.kIn True.intro e (fun z=>nomatch z) h
 |int i=>obtain⟨t,q⟩:=(show ∃t,u=Value.int i t from rx);cases q;exact qp_ PySem.W.kitx_int I.kIn True.intro e (fun z=>nomatch z) h
 |str y=>obtain⟨t,q⟩:=(show ∃t,u=Value.str y t from rx);cases q;exact qp_ PySem.W.kitx_str I.kIn True.intro e (fun z=>nomatch z) h
 |flt y=>obtain⟨t,q⟩:=(show ∃t,u=Value.float y t from rx);cases q;exact qp_ PySem.W.kitx_float I.kIn True.intro e (fun z=>nomatch z) h
 |@lst a xs ea=>
  cases (show u=Value.ref a from rx)
  obtain⟨_,_,n,_,h1⟩:=(show B6 X.prog X.w H s.heap a (.lst xs) from I.hok a _ ea)
  exact qp_ zU_ I.kIn ⟨_,h1,rfl⟩ e (fun z=>nomatch z) h
 |@frz a ob xs ea=>
  cases (show u=Value.ref a from rx)
  obtain⟨_,_,_,n,_,h1⟩:=(show B6 X.prog X.w H s.heap a (.frz ob (.lst xs)) from I.hok a _ ea)
  exact qp_ zU_ I.kIn ⟨_,h1,rfl⟩ e (fun z=>nomatch z) h
 |@tup a xs ea=>
  cases (show u=Value.ref a from rx)
  obtain⟨_,_,_,p⟩:=(show B6 X.prog X.w H s.heap a (.tup xs) from I.hok a _ ea)
  obtain⟨o,h1,h2,_⟩:=p
  exact qp_ PySem.W.kitx_tuple I.kIn ⟨o,h1,h2⟩ e (fun z=>nomatch z) h
 |@dK a kvs ea=>
  cases (show u=Value.ref a from rx)
  obtain⟨_,_,vs,_,p⟩:=(show B6 X.prog X.w H s.heap a (.dK kvs) from I.hok a _ ea)
  obtain⟨o,es,ep,h1,h2,_⟩:=p
  exact qp_ PySem.W.kitx_dict I.kIn ⟨o,h1,h2.1⟩ e (fun z=>nomatch z) h
 |@dT a kvs ea=>
  cases (show u=Value.ref a from rx)
  obtain⟨_,_,xs,_,o,es,ep,h1,h2,_⟩:=(show B6 X.prog X.w H s.heap a (.dT kvs) from I.hok a _ ea)
  exact qp_ PySem.W.kitx_dict I.kIn ⟨o,h1,h2.1⟩ e (fun z=>nomatch z) h
 |@ins a C dx fs ea cl ha hn jS hm=>
  cases (show u=Value.ref a from rx)
  obtain⟨mA,O,_⟩:=Aw_ I.hok ea
  obtain⟨od,J,_⟩:=O.look
  exact qp_ (PySem.W.kitx_own (cl.get _) cl.hd ha hn jS hm) I.kIn J e (fun z=>nomatch z) h
end
end L2
namespace L2
open PySem PySem.Spec PyProof.Rows
structure Room (k:Nat)(A:Around):Prop where
 hd:A.handled=none
 dp:A.depth+3*k+5<recursionLimit
 un:A.units+16*k+200<cLine
theorem Room.mono   (r:Room k A)(h:j<=k):Room j A:=⟨r.hd,by have:=r.dp;omega,by have:=r.un;omega⟩
theorem Room.deeper   (r:Room (k+1) A)(env:Env):Room k (A.deeper env):=
 ⟨r.hd,by have:=r.dp;show A.depth+1+3*k+5<_;omega,by have:=r.un;show A.units+3+16*k+200<_;omega⟩
theorem Room.in1   (r:Room (k+1) A):Room k A.in1:=
 ⟨r.hd,by have:=r.dp;show A.depth+3*k+5<_;omega,by have:=r.un;show A.units+1+16*k+200<_;omega⟩
theorem Room.depth   (r:Room k A):A.depth<recursionLimit:=by have:=r.dp;omega
theorem Room.units   (r:Room k A):A.units+64<cLine:=by have:=r.un;omega
def tNil:TA:=fun _ H Q=>Q [] H
def BS_ (ta:TE)(tr:TA):TA:=fun σ H Q=>ta σ H fun x H1=>tr σ H1 fun xs H2=>Q (x::xs) H2
section
variable {X:Cx} {e:Expr} {es:List Expr} {te:TE} {t:TA} {pos:Pos}
theorem Ae:PA X [] tNil:=fun _ _ _ _ H Q I h=>xV_ ⟨[],H,I,.nil,h⟩
theorem Aa (ha:PE X e te)(hr:PA X es t)(hs:starEach (e::es) X.env=(false,eval e X.env)::starEach es X.env:=by rfl):PA X (e::es) (BS_ te t):=by
 intro pos pins s σ H Q I h
 rw[hs]
 show wpAny _ _ (spliced ((false,eval e X.env)::backTo pos (starEach es X.env))) _ _ s
 refine xn_ (thn (ha pins s σ H _ I h) fun u s1 ⟨x,H1,I1,r1,q1⟩=>?_)
 exact thn (hr pos pins s1 σ H1 _ I1 q1) fun us s2 ⟨xs,H2,I2,r2,q2⟩=>⟨x::xs,H2,I2,.cons r1 r2,q2⟩
def tTup (t:TA):TE:=fun σ H Q=>t σ H fun xs H1=>xs.length<=sizeLine/\∀p,H1 p=none->Q (.ref p) (upd H1 p (.tup xs))
def tLst (t:TA):TE:=fun σ H Q=>t σ H fun xs H1=>xs.length<=sizeLine/\∀p,H1 p=none->Q (.ref p) (upd H1 p (.lst xs))
theorem C7 {x1}(h:PA X es t):PE X (.Tuple es x1 pos) (tTup t):=by
 intro pins s σ H Q I hq
 refine wpAny_Tuple_spliced (thn (h pos pins s σ H _ I hq) fun us s1 ⟨xs,H1,I1,r,z,q⟩=>⟨by rw[<-r.length];exact z,?_⟩)
 have hf:H1 s1.heap.objs.size=none:=I1.hok.fresh (jg_ _)
 refine⟨.ref s1.heap.objs.size,upd H1 s1.heap.objs.size (.tup xs),I1.laid (t':=s1.toks) (fun b u e=>jm_ _ e) (jg_ _) ?_,rfl,q _ hf⟩
 exact⟨z,us,r,⟨_,jC_ _ rfl,rfl,_,rfl⟩⟩
theorem Cn (h:PA X es t):PE X (.List es pos) (tLst t):=by
 intro pins s σ H Q I hq
 refine wpAny_List_spliced (thn (h pos pins s σ H _ I hq) fun us s1 ⟨xs,H1,I1,r,z,q⟩=>⟨by rw[<-r.length];exact z,?_⟩)
 have hf:H1 s1.heap.objs.size=none:=I1.hok.fresh (jg_ _)
 refine⟨.ref s1.heap.objs.size,upd H1 s1.heap.objs.size (.lst xs),I1.laid (t':=s1.toks) (fun b u e=>jm_ _ e) (jg_ _) ?_,rfl,q _ hf⟩
 exact⟨z,us,0,r,jC_ _ rfl⟩
end
abbrev Sp:=List V->Hp->VK->XK->Prop
abbrev CXT:=List Env->Hp->Shared->XK->Value->Shared->Prop
structure Env0 (P:Program)(w:World)(K:α3)(mg:Str->α5)(base:Heap)(A:Around)(outer:List Env)(s:Shared)(H:Hp):Prop where
 frames:A.frames=some outer
 mod:Mod K mg base
 bs:∀b o,base.get? b=some o->s.heap.get? b=some o/\H b=none
 bsz:base.objs.size<=s.heap.objs.size
 funs:s.heap.FunFrames base outer
 frf:∀b∈frs outer,H b=none
 hok:HOk P w H s.heap
 bare:AllBare s.gens
def CE (outer:List Env)(P:Program)(w:World)(H:Hp)(s:Shared)(Q:VK)(u:Value)(s':Shared):Prop:=
 ∃v H',s'.os=s.os/\AllBare s'.gens/\Un (frs outer) [] H H' s.heap s'.heap/\HOk P w H' s'.heap/\RelV v u/\Q v H'
def CR (CX:CXT)(outer:List Env)(P:Program)(w:World)(H:Hp)(s:Shared)(Q:VK)(E:XK)(r:Result)(s':Shared):Prop:=
 match r with
 |.ok (.ret u)=>CE outer P w H s Q u s'
 |.ok _=>False
 |.error e=>CX outer H s E e s'
structure FnOk (P:Program)(w:World)(K:α3)(mg:Str->α5)(base:Heap)(CX:CXT)(k:Nat)(f:Addr)(fd:α6)(ps:List Str)(sp:Sp):Prop where
 len:∀vs H Q E,sp vs H Q E->vs.length=ps.length
 run:∀(A:Around) (outer:List Env) (s:Shared) (H:Hp) (args:Args) (us:List Value) (vs:List V) (Q:VK) (E:XK),Room k A->Env0 P w K mg base A outer s H->BindsTo s fd args (ps.zip us)->Vals vs us->sp vs H Q E ->
  codeAny (model P w) A (.call (.ref f) args) (CR CX outer P w H s Q E) s
theorem Env0.in1   {K:α3}       (e:Env0 P w K mg base A outer s H):
  Env0 P w K mg base A.in1 outer s H:=⟨e.frames,e.mod,e.bs,e.bsz,e.funs,e.frf,e.hok,e.bare⟩
section
variable {X:Cx} {pins:α7} {σ:St} {H:Hp} {s s':Shared}
theorem Inv.env0 (I:Inv X pins σ H s):Env0 X.prog X.w X.K X.mg X.base X.A X.stack s H:=
 ⟨I.ok.frames,I.ok.mod,I.bs,qm_ I.ok.bsz I.sz,I.stack,I.stkFree,I.hok,I.bare⟩
theorem Inv.after   (I:Inv X pins σ H s)(h:CE X.stack X.prog X.w H s Q u s'):EP X pins σ Q u s':=by
 obtain⟨v,H',os,bare,un,hok,r,q⟩:=h
 obtain⟨hh,g,d,t,os'⟩:=s'
 obtain rfl:os'=s.os:=os
 exact⟨v,H',I.call (h':=hh) (g':=g) (d':=d) (t':=t) (ch:=[]) un hok bare (fun b z=>absurd z (by simp)),r,q⟩
end
def BT_ (sp:Sp)(fD:List V)(E:XK)(t:TA):TE:=fun σ H Q=>t σ H fun vs H1=>sp (vs++fD) H1 Q E
def Binds (K:α3)(fd:α6)(ps:List Str)(ds:List Value):Prop:=
 ∀(s:Shared) (us:List Value),K.In s.heap->(us++ds).length=ps.length->BindsTo s fd ⟨us,[]⟩ (ps.zip (us++ds))
theorem Binds.all {K:α3}   (h:∀us:List Value,us.length=ps.length->bindArgs fd ⟨us,[]⟩=pure (ps.zip us)):Binds K fd ps []:=fun s us _ hl=>by
 rw[qj_]at hl ⊢
 exact .of_eq (h us hl)
def VR (CX:CXT)(X:Cx)(E:XK):Prop:=∀(pins:α7) (σ:St) (H:Hp) (s:Shared) (e:Value) (s':Shared),Inv X pins σ H s->CX X.stack H s E e s'->X.xe e s'
section
variable {X:Cx} {CX:CXT} {k:Nat} {f C:Addr} {fd:α6} {ps:List Str} {sp:Sp} {fD:List V} {ds:List Value} {E:XK} {x m:Str} {p pos apos:Pos} {e o:Expr} {es:List Expr} {ta:TE} {t:TA}
theorem BU_        (F:FnOk X.prog X.w X.K X.mg X.base CX k f fd ps sp)(hr:Room k X.A)(hb:Binds X.K fd ps ds)(hd:Vals fD ds)(hx:VR CX X E)
  (I:Inv X pins σ H s) (r:Vals vs us) (h:sp (vs++fD) H Q E):wpAny (model X.prog X.w) X.A (call (.ref f) us) (EP X pins σ Q) X.xe s:=by
 have r2:Vals (vs++fD) (us++ds):=r.append hd
 have hl:(us++ds).length=ps.length:=by rw[<-r2.length];exact F.len _ _ _ _ h
 refine wpAny_call (codeAny_mono (F.run X.A X.stack s H ⟨us,[]⟩ (us++ds) (vs++fD) Q E hr I.env0 (hb s us I.kIn hl) r2 h) fun r s' hq=>?_)
 cases r with
 |error e=>exact hx pins σ H s e s' I hq
 |ok fl=>
  cases fl with
  |ret u=>exact I.after hq
  |next=>exact False.elim hq
  |brk=>exact False.elim hq
  |cont=>exact False.elim hq
theorem Al (F:FnOk X.prog X.w X.K X.mg X.base CX k f fd ps sp)(hr:Room k X.A)(hg:Gl X x)(hm:X.mg x=some (.ref f))(hk:keepIn X.K (.ref f)=true)(hb:Binds X.K fd ps ds)(hd:Vals fD ds)(hx:VR CX X E)
  (ha:PA X (e::es) t) (jT:(x==("__debug__" : Str))=false:=by decide) (he:starEach (e::es) X.env=(false,eval e X.env)::starEach es X.env:=by rfl) (gI:(backTo pos (starEach es X.env)).any (·.1)=false:=by rfl):
  PE X (.Call (.Name x p) (e::es) [] pos) (BT_ sp fD E t):=by
 intro pins s σ H Q I h
 refine xo_ (Ar_ I hg hm ?_ jT)
 refine PySem.W.callWith_K (h₀:=X.base) I.ok.mod.kin hk (thn (ha pos pins s σ H _ I h) fun us s1 ⟨vs,H1,I1,r,q⟩=>⟨I1.kIn,?_⟩) he gI
 exact BU_ F hr hb hd hx I1 r q
end
structure FnScope (N P:List Str)(sc:Scope):Prop where
 kind:sc.kind=.function
 co:sc.isCoroutine=false
 gen:sc.isGenerator=false
 nd:N.Nodup
 pre:N.take P.length=P
 par:∀x∈P,sc.names.lookup x=some .local\/sc.names.lookup x=some .cell
 nofree:∀y∈sc.names,y.2 ≠ .free
theorem PR {kindOf:Str->Option NameKind}{x:Str}:∀{binds:List (Str×Value)} {m:Str->α5},(∀v,(x,v)∉binds)->bindL kindOf binds m x=m x
 |[],_,_=>rfl
 | (n,v)::r,m,h=>by
  unfold bindL
  rw[PR fun w hw=>h w (jl_ _ hw)]
  split
  ·have:x≠n:=by rintro rfl;exact h v jn_
   simp[this]
  ·rfl
theorem PU {kindOf:Str->Option NameKind}{x:Str}:∀{binds:List (Str×Value)} {m:Str->α5},(∀v,(x,v)∉binds)->bindC kindOf binds m x=m x
 |[],_,_=>rfl
 | (n,v)::r,m,h=>by
  unfold bindC
  rw[PU fun w hw=>h w (jl_ _ hw)]
  split
  ·rfl
  ·have:x≠n:=by rintro rfl;exact h v jn_
   simp[this]
theorem PV {kindOf:Str->Option NameKind}{x:Str}{v:Value}:∀{P:List Str} {vs:List Value} {i:Nat} {m:Str->α5},P.Nodup->P[i]?=some x->vs[i]?=some v->kindOf x=some .local ->
  bindL kindOf (P.zip vs) m x=some v
 |[],_,_,_,_,h,_,_=>by simp at h
 |_::_,[],_,_,_,_,h,_=>by simp at h
 |p::P,w::vs,0,m,nd,h1,h2,hk=>by
  simp at h1 h2;subst h1;subst h2
  show bindL kindOf ((p,w)::P.zip vs) m p=_
  unfold bindL
  rw[PR fun v hv=>(qF_.mp nd).1 (xx_ hv).1,if_pos hk]
  simp
 |p::P,w::vs,i+1,m,nd,h1,h2,hk=>by
  show bindL kindOf ((p,w)::P.zip vs) m x=_
  unfold bindL
  exact PV (i:=i) (qF_.mp nd).2 (by simpa using h1) (by simpa using h2) hk
theorem PX {kindOf:Str->Option NameKind}{x:Str}{v:Value}:∀{P:List Str} {vs:List Value} {i:Nat} {m:Str->α5},P.Nodup->P[i]?=some x->vs[i]?=some v->kindOf x≠some .local ->
  bindC kindOf (P.zip vs) m x=some v
 |[],_,_,_,_,h,_,_=>by simp at h
 |_::_,[],_,_,_,_,h,_=>by simp at h
 |p::P,w::vs,0,m,nd,h1,h2,hk=>by
  simp at h1 h2;subst h1;subst h2
  show bindC kindOf ((p,w)::P.zip vs) m p=_
  unfold bindC
  rw[PU fun v hv=>(qF_.mp nd).1 (xx_ hv).1,if_neg hk]
  simp
 |p::P,w::vs,i+1,m,nd,h1,h2,hk=>by
  show bindC kindOf ((p,w)::P.zip vs) m x=_
  unfold bindC
  exact PX (i:=i) (qF_.mp nd).2 (by simpa using h1) (by simpa using h2) hk
def start (N:List Str)(vs:List V):St:=vs.map some++List.replicate (N.length-vs.length) none
def cxOf (CX:CXT)(P:Program)(w:World)(K:α3)(mg:Str->α5)(base:Heap)(N:List Str)(qual:Str)(scope:Scope)(f:Addr)(cd:Value)(A:Around)(outer:List Env)(s:Shared)(H:Hp)(E:XK):Cx where
 prog:=P
 w:=w
 K:=K
 mg:=mg
 base:=base
 A:=A.deeper (envOfC qual scope s.heap.objs.size f cd)
 N:=N
 s₀:=s
 H₀:=H
 env:=envOfC qual scope s.heap.objs.size f cd
 outer:=outer
 stack:=envOfC qual scope s.heap.objs.size f cd::outer
 ex:=[]
 calm:=true
 fn:=fun _=>true
 pn:=[]
 xe:=fun e s'=>wpAny (model P w) (A.deeper (envOfC qual scope s.heap.objs.size f cd)) (leaving (envOfC qual scope s.heap.objs.size f cd) e) (fun _ g9=>CX outer H s E e g9) (fun e' g9=>CX outer H s E e' g9) s'
theorem Tc {sc:Scope}{n:Nat}{x:Str}(h:sc.names.lookup x=some .cell):∃c,(cellsFrom n sc.names []).lookup x=some c:=by
 have q:=xO_ sc.names n [] (.inl h)
 exact xy_.mp q
theorem PY    {K:α3}
  (S:FnScope N ps scope) (hd:A.handled=none) (e0:Env0 P w K mg base A outer s H) (hl:vs.length=ps.length) (r:Vals vs us)
  (x:InCallC s s.heap.objs.size (bindL (envOfC qual scope s.heap.objs.size f cd).kindOf (ps.zip us) fun _=>none) (cellsFrom (s.heap.objs.size+1) scope.names []) (bindC (envOfC qual scope s.heap.objs.size f cd).kindOf (ps.zip us) fun _=>none) s1):
  Inv (cxOf CX P w K mg base N qual scope f cd A outer s H E) [] (start N vs) H s1:=by
 have gI:ps.length<=N.length:=by have:=jG_ List.length S.pre;rw[jB_]at this;omega
 obtain⟨h1,tk,rfl,hk⟩:=x.done
 have l5:∀b:Addr,b∉(cxOf CX P w K mg base N qual scope f cd A outer s H E).ex:=fun b z=>absurd (show b∈([]:List Addr) from z) (by simp)
 refine⟨⟨e0.mod,S.kind,rfl,rfl,jg_ _,fun y z c h1 h2=>?_,fun y hy=>?_,fun y c _ h=>?_,fun _=>hd,Around.frames_deeper e0.frames,.inr ⟨rfl,rfl⟩,fun b z=>absurd z (l5 b),e0.bs,e0.bsz,fun b _ _=>l5 b,fun b z=>absurd z (l5 b),e0.funs,e0.frf⟩,
  rfl,e0.bare,Un.kept hk,⟨_,x.toInCall.ns,fun i y v h1 h2 h3=>?_⟩,fun y c h=>⟨_,x.cell y c h⟩,e0.hok.fresh (jg_ _),fun y c h=>?_,fun p hp=>absurd (show p∈([]:α7) from hp) (by simp),e0.hok.kept hk,?_⟩
 ·exact name_of_addr x.apart (qf_ h1) (qf_ h2)
 ·have hy:scope.names.lookup y=some .cell\/scope.names.lookup y=some .free:=hy
  rcases hy with hy|hy
  ·exact Tc hy
  ·exact absurd rfl (S.nofree _ (qf_ hy))
 ·exact x4_ (x.above y c (qf_ h))
 ·have hi:i<vs.length:=by
   unfold start at h2
   by_cases hi:i<vs.length
   ·exact hi
   ·rw[ju_ (by simpa using hi)]at h2
    rw[x7_]at h2
    split at h2<;>cases h2
  have ha:vs[i]?=some v:=by
   unfold start at h2
   rw[jj_ (by simpa using hi),je_]at h2
   cases e:vs[i]? with
   |none=>rw[e]at h2;cases h2
   |some a=>rw[e]at h2;cases h2;rfl
  obtain⟨u,hu,rv⟩:=r.get ha
  have hp:ps[i]?=some y:=by
   rw[<-S.pre,xz_ (by omega)];exact h1
  have ndP:ps.Nodup:=by rw[<-S.pre];exact S.nd.sublist (List.take_sublist _ _)
  refine⟨u,rv,?_⟩
  rcases S.par y (jd_ hp) with k|k
  ·exact .inl ⟨k,PV ndP hp hu k⟩
  ·obtain⟨c,e⟩:=Tc (n:=s.heap.objs.size+1) k
   refine .inr ⟨.inl k,c,e,?_⟩
   have q:=x.cell y c e
   rw[PX ndP hp hu (by show scope.names.lookup y≠_;rw[k];decide)]at q
   exact q
 ·exact e0.hok.fresh (x4_ (x.above y c (qf_ h)))
 ·unfold start
  show _=N.length
  rw[jo_,ja_,qs_]
  omega
theorem BV_    {K:α3}         {dV kV doc pm aq ct oc:Value}
       (lk:K.lookup f=some ⟨oc,od,.func (fnOf name qual params body scope dV kV doc pm an aq ct),eL⟩) (bw:codeIn K aq qual=true) (S:FnScope N ps scope)
    (len:∀vs H Q E,sp vs H Q E->vs.length=ps.length)
    (cC:∀(A:Around) (outer:List Env) (s:Shared) (H:Hp) (vs:List V) (Q:VK) (E:XK),Room k (A.deeper (envOfC qual scope s.heap.objs.size f aq))->sp vs H Q E ->
      ∃t,PSs (cxOf CX P w K mg base N qual scope f aq A outer s H E) body t/\t {nx:=fun _ H'=>Q .non H',rt:=Q} (start N vs) H):
    FnOk P w K mg base CX (k+1) f (fnOf name qual params body scope dV kV doc pm an aq ct) ps sp:=by
  refine⟨len,fun A outer s H args us vs Q E hr e0 hb r dI=>?_⟩
  have hl:=len _ _ _ _ dI
  have KX:K.In s.heap:=e0.mod.kin.keeps fun b o e=>(e0.bs b o e).1
  have lim:s.heap.NoLimit:=e0.mod.nolimit.keeps fun b o e=>(e0.bs b o e).1
  have eM:∀y∈ps.zip us,scope.names.lookup y.1=some .local\/(scope.names.lookup y.1=some .cell/\((cellsFrom (s.heap.objs.size+1) scope.names []).lookup y.1).isSome=true):=fun ⟨n,v⟩ hy=>by
    rcases S.par n (xx_ hy).1 with q|q
    . exact .inl q
    . exact .inr ⟨q,xO_ _ _ _ (.inl q)⟩
  refine codeAny_call_function hr.depth (KX _ _ lk) rfl S.co S.gen rfl (PySem.W.codeRec_of KX bw) (hb _ _ _ _ ?_)
  refine wpAny_newFunctionEnv_cells S.kind eM fun env he s1 x=>?_
  subst he
  refine⟨lim.keeps x.toInCall.keep,codeAny_func ?_⟩
  obtain⟨t,ht,hq⟩:=cC A outer s H vs Q E (hr.deeper _) dI
  have I:Inv (cxOf CX P w K mg base N qual scope f aq A outer s H E) [] (start N vs) H s1:=PY S hr.hd e0 hl r x
  refine qu_ (ht [] s1 (start N vs) H _ I hq) (fun fl s' hs=>?_) fun e s' hs=>hs
  have fin:∀{ae:St} {H':Hp} {v:V} {u:Value},Inv (cxOf CX P w K mg base N qual scope f aq A outer s H E) [] ae H' s'->RelV v u->Q v H'->CE outer P w H s Q u s' :=
    fun {ae H' v u} J rv q=>⟨v,H',J.os,J.bare,J.base,J.hok,rv,q⟩
  cases fl with
  |ret u=>
    obtain⟨v,ae,H',J,rv,q⟩:=hs
    exact fin J rv q
  |next=>
    obtain⟨ae,H',J,q⟩:=hs
    exact fin (v:=V.non) (u:=Value.none) J rfl q
  |brk=>
    obtain⟨_,_,_,q⟩:=hs
    exact False.elim q
  |cont=>
    obtain⟨_,_,_,q⟩:=hs
    exact False.elim q
end L2
namespace L2
open PySem PySem.Spec PyProof.Rows
section
variable {X:Cx} {x:Str} {p pos:Pos} {e:Expr} {es:List Expr} {t:TA} {id T:String} {r:List V->Hp->VK->Prop}
def tCB (r:List V->Hp->VK->Prop)(t:TA):TE:=fun σ H Q=>t σ H fun vs H1=>r vs H1 Q
theorem As (hc:Dq X (.builtin id) r)(hg:Gl X x)(hm:X.mg x=none)(hv:bootBuiltins x=some (.builtin id))(ha:PA X (e::es) t)(hn:x ≠ "__name__" := by decide)(jT:(x==("__debug__" : Str))=false:=by decide)
  (he:starEach (e::es) X.env=(false,eval e X.env)::starEach es X.env:=by rfl) (gI:(backTo pos (starEach es X.env)).any (·.1)=false:=by rfl):PE X (.Call (.Name x p) (e::es) [] pos) (tCB r t):=by
 intro pins s σ H Q I h
 refine xo_ (FS I hg hm hv ?_ hn jT)
 exact PyProof.Rows.callWith_builtin1 (thn (ha pos pins s σ H _ I h) fun us s1 ⟨vs,H1,I1,r1,q1⟩=>hc pins s1 σ H1 vs us Q I1 r1 q1) he gI
theorem AM (hc:Dq X (.type T) r)(hg:Gl X x)(hm:X.mg x=none)(hv:bootBuiltins x=some (.type T))(ha:PA X (e::es) t)(hn:x ≠ "__name__" := by decide)(jT:(x==("__debug__" : Str))=false:=by decide)
  (he:starEach (e::es) X.env=(false,eval e X.env)::starEach es X.env:=by rfl) (gI:(backTo pos (starEach es X.env)).any (·.1)=false:=by rfl):PE X (.Call (.Name x p) (e::es) [] pos) (tCB r t):=by
 intro pins s σ H Q I h
 refine xo_ (FS I hg hm hv ?_ hn jT)
 exact qe_ (thn (ha pos pins s σ H _ I h) fun us s1 ⟨vs,H1,I1,r1,q1⟩=>hc pins s1 σ H1 vs us Q I1 r1 q1) he gI
end
end L2
namespace HT
open PySem PyProof.Rows
def lexLt:α2->α2->Bool
 |[],[]=>false
 |[],_::_=>true
 |_::_,[]=>false
 |x::xs,y::ys=>if x=y then lexLt xs ys else decide (x<y)
theorem lexLt_cons (x y:Int)(xs ys:α2):lexLt (x::xs) (y::ys)=if x=y then lexLt xs ys else decide (x<y):=rfl
theorem N4:lexLt [] []=false:=rfl
theorem MY (y:Int)(ys:α2):lexLt [] (y::ys)=true:=rfl
theorem MZ (x:Int)(xs:α2):lexLt (x::xs) []=false:=rfl
theorem XT (A:Around)(s:Shared)(a:Int)(t:Tok)(c:Int)(u:Tok):∃e,SeqAt.EqAt A s (.int a t) (.int c u) e/\(e=true↔a=c):=
 ⟨(a==c),SeqAt.EqAt.int_int a t c u,by simp⟩
theorem XU (A:Around)(s:Shared)(a:Int)(t:Tok)(c:Int)(u:Tok)(prog:Program)(w:World)(E:Value->Shared->Prop)(Q:Value->Shared->Prop)(h:Q (.bool (decide (a<c))) s):
  wpAny (model prog w) A (richCompare .Lt (.int a t) (.int c u)) Q E s:=
 (PyProof.Rows.lt_int h:wpAny (model prog w) A (compareOp .Lt (.int a t) (.int c u)) Q E s)
section
open PySem.SeqAt
open PySem.AutoSeq1 (wpAny_loadPart')
open PySem.MeetsSeq PySem.MeetsSeq2 PySem.MeetsSeq3
theorem N5 (l b:Addr)(items aE:Array Value)(n n2:Nat)(dd fE:Option Addr)(sl ef:Array (α5))(ns ms:α2)(hi:IntsAre items.toList ns)(hj:IntsAre aE.toList ms):
  Meets (Builtin.«tuple.__lt__» ⟨[.ref l,.ref b],[]⟩)
   (fun _ R s=>s.heap.get? l=some {cls:=.type "tuple",dict:=dd,data:=.seq items n,slots:=sl}/\s.heap.get? b=some {cls:=.type "tuple",dict:=fE,data:=.seq aE n2,slots:=ef} /\
    R (.ok (.ret (.bool (lexLt ns ms)))) s):=
 .of_wp fun prog w A R s h=>by
  obtain⟨hp,g,d,tk,os⟩:=s;obtain⟨hl,hb,h⟩:=h
  have f2:=AutoSeq1.sub_tuple_tuple
  have z1:items.size=ns.length:=by rw[<-hi.length];simp
  have z2:aE.size=ms.length:=by rw[<-hj.length];simp
  wp_walk using j4_ hl,j4_ hb,wpAny_forIn_list _ (fun rest b s'=>b.1=none/\s'=⟨hp,g,d,tk,os⟩/\∃(vs ws:List Value) (jh ji:α2),rest=vs.zip ws /\
   IntsAre vs jh/\IntsAre ws ji/\jh.length+aE.size=ji.length+items.size/\R (.ok (.ret (.bool (lexLt jh ji)))) ⟨hp,g,d,tk,os⟩) _
  case turn=>
   rintro⟨y,x⟩ rest b s' ⟨hU,rfl,vs,ws,jh,ji,hz,eg,bN,hlen,hR⟩
   cases eg with
   |nil=>rw[List.zip_nil_left]at hz;cases hz
   |cons a t hvi' =>
    cases bN with
    |nil=>rw[List.zip_nil_right]at hz;cases hz
    |cons c u hwi' =>
     rw[zP_]at hz
     injection hz with jU hrest
     injection jU with hy hx
     subst hy hx
     rw[lexLt_cons]at hR
     simp only[jW_]at hlen
     obtain⟨e,he,dJ⟩:=XT A.in1 ⟨hp,g,d,tk,os⟩ a t c u
     refine jc_ (he prog w _ _ ?_)
     cases e with
     |true=>
      rw[if_pos (dJ.mp rfl)]at hR
      wp_walk
      exact⟨rfl,rfl,_,_,_,_,hrest,hvi',hwi',by omega,hR⟩
     |false=>
      rw[if_neg (fun q=>absurd (dJ.mpr q) jr_)]at hR
      have hV:=XU A.in1 ⟨hp,g,d,tk,os⟩ a t c u prog w
      wp_walk using hV
      exact⟨_,rfl,by simpa using hR⟩
  case fin=>
   rintro⟨b1,b2⟩ s' ⟨hU,rfl,vs,ws,jh,ji,hz,eg,bN,hlen,hR⟩
   simp only at hU
   subst hU
   have hv:lexLt jh ji=decide (items.size<aE.size):=by
    cases eg with
    |nil=>
     cases bN with
     |nil=>
      simp only[qy_]at hlen
      rw[N4]
      exact (qd_ (by omega)).symm
     |cons c u hw=>
      simp only[qy_,jW_]at hlen
      rw[MY]
      exact (qh_ (by omega)).symm
    |cons a t hv=>
     cases bN with
     |nil=>
      simp only[qy_,jW_]at hlen
      rw[MZ]
      exact (qd_ (by omega)).symm
     |cons c u hw=>
      rw[zP_]at hz
      cases hz
   rw[hv]at hR
   wp_walk
   exact⟨_,rfl,by simpa [Builtin.Tuple.tupleCompareSizes] using hR⟩
  case h=>
   exact⟨rfl,rfl,items.toList,aE.toList,ns,ms,rfl,hi,hj,by omega,h⟩
end
section
variable {prog:Program} {w:World} {A:Around} {E:Value->Shared->Prop} {s:Shared}
theorem lt_tupInts     (hl:IsTup s.heap l items)(hb:IsTup s.heap b aE)(hi:IntsAre items.toList ns)(hj:IntsAre aE.toList ms)
  (hu:A.units<cLine) (h:Q (.bool (lexLt ns ms)) s):wpAny (model prog w) A (compareOp .Lt (.ref l) (.ref b)) Q E s:=by
 obtain⟨⟨cls,dd,data,sl⟩,ho,hc,n,hd⟩:=id hl
 obtain⟨⟨cls2,fE,data2,ef⟩,fF,bO,n2,hd2⟩:=id hb
 simp only at hc hd bO hd2
 subst hc hd bO hd2
 exact richCompare_meets_room (op:=.Lt) ⟨_,ho,rfl⟩ ⟨_,fF,rfl⟩ PySem.F.slot_tuple_lt PySem.F.entry_tuple_lt (PySem.F.args_tuple_lt_2 _ _) (N5 l b items aE n n2 dd fE sl ef ns ms hi hj)
  ⟨ho,fF,show Value.bool (lexLt ns ms)≠Value.notImplemented/\Q (.bool (lexLt ns ms)) s from ⟨(fun x=>nomatch x),h⟩⟩ hu
theorem cat_tup    (ht:IsTup s.heap t vs.toArray)(hb:IsTup s.heap b ws.toArray)(hv:vs ≠ [])
  (h1:ws=[]->Q (.ref t) s) (h2:ws ≠ []->Q (.ref s.heap.objs.size) {s with heap:=s.heap.push {cls:=.type "tuple",data:=.seq (vs++ws).toArray} })
  (hsz:vs.length+ws.length<=sizeLine):wpAny (model prog w) A (binaryOp .Add (.ref t) (.ref b)) Q E s:=by
 obtain⟨⟨cls,dd,data,sl⟩,ho,hc,n,hd⟩:=id ht
 obtain⟨⟨cls2,fE,data2,ef⟩,fF,bO,n2,hd2⟩:=id hb
 simp only at hc hd bO hd2
 subst hc hd bO hd2
 have e:vs.toArray++ws.toArray=(vs++ws).toArray:=by simp
 by_cases hw:ws=[]
 ·exact concat_meets ⟨_,ho,rfl⟩ ⟨_,fF,rfl⟩ noFill_tuple_add seq_tuple_add zg_ x8_ (x5_ _ _)
   (tuple_addW1 t b vs.toArray ws.toArray n n2 dd fE sl ef (by simpa using hv) (by simp[hw])) ⟨ho,fF,h1 hw⟩
 ·refine concat_meets ⟨_,ho,rfl⟩ ⟨_,fF,rfl⟩ noFill_tuple_add seq_tuple_add zg_ x8_ (x5_ _ _)
   (tuple_addW2 t b vs.toArray ws.toArray n n2 dd fE sl ef (by simpa using hv) (by simpa using hw) (by rw[jk_,jk_];exact hsz)) ⟨ho,fF,?_⟩
  rw[e]
  exact h2 hw
def sIx (n d:Nat):Option Int->Nat
 |none=>d
 |some v=>if v<0 then (v+(n:Int)).toNat else min v.toNat n
theorem sIx_none (n d:Nat):sIx n d none=d:=rfl
theorem sIx_nat (n d k:Nat):sIx n d (some (k:Int))=min k n:=by
 show (if (k:Int)<0 then ((k:Int)+(n:Int)).toNat else min (k:Int).toNat n)=min k n
 rw[if_neg (by omega),ji_]
theorem BW_ (n d:Nat)(hd:d<=n)(o:Option Int):sIx n d o<=n:=by
 cases o with
 |none=>exact hd
 |some v=>
  show (if v<0 then (v+(n:Int)).toNat else min v.toNat n)<=n
  by_cases hv:v<0
  ·rw[if_pos hv];omega
  ·rw[if_neg hv];exact Nat.min_le_right _ _
theorem VS (v:Int)(n d:Nat):(if v<0 then max (v+(n:Int)) 0 else min v (n:Int))=((sIx n d (some v):Nat):Int):=by
 show (if v<0 then max (v+(n:Int)) 0 else min v (n:Int))=(((if v<0 then (v+(n:Int)).toNat else min v.toNat n):Nat):Int)
 by_cases hv:v<0
 ·simp only[if_pos hv];omega
 ·simp only[if_neg hv];omega
theorem Uj (lo hi:Option Int)(n:Nat):Builtin.Slice.sliceAdjust lo hi 1 (n:Int)=(((sIx n 0 lo:Nat):Int),((sIx n n hi:Nat):Int)):=by
 have h1:¬ ((1:Int)<0):=by omega
 unfold Builtin.Slice.sliceAdjust
 simp only[h1,qK_]
 refine Prod.ext ?_ ?_
 ·cases lo with
  |none=>rfl
  |some v=>exact VS v n 0
 ·cases hi with
  |none=>rfl
  |some v=>exact VS v n n
theorem Uk (i j:Nat):Builtin.Slice.slicePlaces (i:Int) (j:Int) 1=j-i:=by
 unfold Builtin.Slice.slicePlaces
 have h1:(1:Int) > 0:=by omega
 simp only[h1,xK_,Int.ediv_one]
 split<;>omega
theorem Nw    (p:IsPart v o)(h:Q o s):wpAny (model prog w) A (Builtin.Slice.slicePartIndex v) Q E s:=by
 cases p with
 |none=>exact slicePart_none h
 |int i t=>exact slicePart_int h
theorem JH {sl:Addr}{vl vu:Value}{lo hi:Option Int}{n:Nat}{Q:Int×Int×Nat->Shared->Prop}(hs:s.heap.IsSliceOf sl vl vu .none)(pl:IsPart vl lo)(pu:IsPart vu hi)
  (h:Q (((sIx n 0 lo:Nat):Int),1,sIx n n hi-sIx n 0 lo) s):wpAny (model prog w) A (Builtin.Slice.sliceApplied (.ref sl) (pure (n:Int))) Q E s:=by
 obtain⟨os,cL,hcs,kR⟩:=id hs
 unfold Builtin.Slice.sliceApplied Builtin.Slice.sliceFields
 refine jc_ (jc_ (q9_ cL kR (x:=vl) rfl (jc_ (q9_ cL kR (x:=vu) rfl (jc_ (q9_ cL kR (x:=.none) rfl (jq_ ?_)))))))
 refine jc_ (slicePart_none ?_)
 show wpAny _ _ (if ((1:Int)==0)=true then _ else _) _ _ s
 rw[if_neg (by decide)]
 refine jc_ (Nw pl (jc_ (Nw pu (jc_ (jq_ ?_)))))
 show wpAny _ _ (match Builtin.Slice.sliceAdjust lo hi 1 (n:Int) with|(lo,hi)=>pure (lo,(1:Int),Builtin.Slice.slicePlaces lo hi 1)) _ _ s
 rw[Uj lo hi n]
 show wpAny _ _ (pure (((sIx n 0 lo:Nat):Int),(1:Int),Builtin.Slice.slicePlaces ((sIx n 0 lo:Nat):Int) ((sIx n n hi:Nat):Int) 1)) _ _ s
 rw[Uk]
 exact jq_ h
theorem XV (xs:Array Value)(i k:Nat):((List.range k).filterMap fun (m:Nat)=>xs[((i:Int)+(m:Int)*1).toNat]?).toArray=((xs.toList.drop i).take k).toArray:=by
 have e:(fun (m:Nat)=>xs[((i:Int)+(m:Int)*1).toNat]?)=fun m=>xs[i+m]?:=by
  funext m
  have:((i:Int)+(m:Int)*1).toNat=i+m:=by omega
  rw[this]
 rw[e]
 have:=pick_run xs i k
 rw[List.filterMap_map]at this
 have e2:((fun x=>xs[x]?) ∘ fun x=>i+x)=fun m=>xs[i+m]?:=rfl
 rw[e2]at this
 rw[this]
theorem getItem_tuple_cut {t sl:Addr}   {lo hi:Option Int}  (ht:IsTup s.heap t items)(hs:s.heap.IsSliceOf sl vl vu .none)(pl:IsPart vl lo)(pu:IsPart vu hi)
  (hw:¬ (sIx items.size 0 lo=0/\sIx items.size items.size hi=items.size))
  (h:Q (.ref s.heap.objs.size) {s with heap:=s.heap.push {cls:=.type "tuple",data:=.seq ((items.toList.drop (sIx items.size 0 lo)).take (sIx items.size items.size hi-sIx items.size 0 lo)).toArray} })
  (hsz:items.size<=sizeLine):wpAny (model prog w) A (getItem (.ref t) (.ref sl)) Q E s:=by
 have dn:sizeOk (.seq ((items.toList.drop (sIx items.size 0 lo)).take (sIx items.size items.size hi-sIx items.size 0 lo)).toArray):=by
  show ((items.toList.drop (sIx items.size 0 lo)).take (sIx items.size items.size hi-sIx items.size 0 lo)).toArray.size<=sizeLine
  rw[jk_,jB_,xa_,j3_]
  omega
 have hj:sIx items.size items.size hi<=items.size:=BW_ _ _ (jg_ _) hi
 obtain⟨os,cL,hcs,kR⟩:=id hs
 have hTs:s.TypeIs (.ref sl) "slice" := ⟨os,cL,hcs⟩
 unfold getItem
 try with_reducible refine qE_ ?_
 first|refine jc_ (jq_ ?_)|skip
 refine jc_ (wpAny_sequenceKey ht.typeIs (by decide) ?_)
 refine jc_ (qw_ (name:=Str.ofString "__getitem__") ht.typeIs xA_
  (xb_ xA_ ht.typeIs entry_tuple_getitem ?_ (args_tuple_getitem _ _)))
 show wpAny _ _ (Builtin.Tuple.tupleItemsOf (.ref t) >>= _) _ _ s
 refine jc_ (tupleItemsOf_ ht ?_)
 refine jc_ (wpAny_typeOf hTs ?_)
 rw[if_pos (by decide)]
 refine jc_ (JH hs pl pu ?_)
 have cM:¬ ((((sIx items.size 0 lo:Nat):Int)==0&&(1:Int)==1&&(sIx items.size items.size hi-sIx items.size 0 lo)==items.size)=true):=by
  intro q
  rw[qb_,qb_]at q
  have q1:((sIx items.size 0 lo:Nat):Int)=0:=eq_of_beq q.1.1
  have q2:sIx items.size items.size hi-sIx items.size 0 lo=items.size:=eq_of_beq q.2
  exact hw ⟨by omega,by omega⟩
 show wpAny _ _ (if (((sIx items.size 0 lo:Nat):Int)==0&&(1:Int)==1&&(sIx items.size items.size hi-sIx items.size 0 lo)==items.size)=true then _ else _) _ _ s
 rw[if_neg cM,XV]
 first
  | exact jc_ (m:=Builtin.Tuple.tupleExact _) (qz_ (jq_ ⟨_,rfl,jq_ h⟩) dn)
  | exact jc_ (m:=Builtin.Tuple.tupleExact _) (qz_ (jc_ (jq_ (jq_ ⟨_,rfl,jq_ h⟩))) dn)
  | exact jc_ (jc_ (m:=Builtin.Tuple.tupleExact _) (qz_ (jq_ (jq_ ⟨_,rfl,jq_ h⟩)) dn))
  | exact jc_ (jc_ (m:=Builtin.Tuple.tupleExact _) (qz_ (jq_ ⟨_,rfl,jq_ h⟩) dn))
end
end HT
namespace L2
open PySem PySem.Spec PyProof.Rows
abbrev TO:=St->Hp->(Option Int->Hp->Prop)->Prop
def PO (X:Cx)(e:Option Expr)(t:TO):Prop:=
 ∀(pins:α7) (s:Shared) (σ:St) (H:Hp) (Q:Option Int->Hp->Prop),Inv X pins σ H s->t σ H Q ->
  wpAny (model X.prog X.w) X.A (evalPart e X.env) (fun u s'=>∃o H',Inv X pins σ H' s'/\IsPart u o/\Q o H') X.xe s
def VT:TO:=fun _ H Q=>Q none H
def BX_ (t:TE):TO:=fun σ H Q=>t σ H fun x H1=>∃i,x=.int i/\Q (some i) H1
theorem intsAre_of  : ∀{us:List Value},Vals (ns.map V.int) us->IntsAre us ns:=by
 induction ns with
 |nil=>intro us r;rw[xR_]at r;cases r;exact .nil
 |cons n ns ih=>
  intro us r
  rw[j1_]at r
  cases r with
  |cons r1 r2=>
   obtain⟨t,e⟩:=r1
   subst e
   exact .cons n t (ih r2)
section
variable {X:Cx} {e:Expr} {te:TE} {lo hi:Option Expr} {tl th:TO} {pos p2:Pos}
theorem Rx:PO X none VT:=by
 intro pins s σ H Q I h
 rw[evalPart_none]
 exact jq_ ⟨none,H,I,.none,h⟩
theorem Ry (h:PE X e te):PO X (some e) (BX_ te):=by
 intro pins s σ H Q I hw
 rw[evalPart_some]
 refine thn (h pins s σ H _ I hw) fun u s1 ⟨x,H1,I1,r1,q1⟩=>?_
 obtain⟨i,rfl,q⟩:=q1
 obtain⟨t,rfl⟩:=r1
 exact⟨some i,H1,I1,.int i t,q⟩
def SlR (X:Cx)(r:V->Option Int->Option Int->Hp->VK->Prop):Prop:=
 ∀(pins:α7) (s:Shared) (σ:St) (H:Hp) (x:V) (v vl vu:Value) (lo hi:Option Int) (sl:Addr) (Q:VK),Inv X pins σ H s->RelV x v->s.heap.IsSliceOf sl vl vu .none->IsPart vl lo->IsPart vu hi->r x lo hi H Q ->
  ∃T id,typeLookup (.type T) "__getitem__"=pure (some (.builtin id))/\s.TypeIs v T/\wpAny (model X.prog X.w) X.A (getItem v (.ref sl)) (EP X pins σ Q) X.xe s
def tSl (r:V->Option Int->Option Int->Hp->VK->Prop)(te:TE)(tl th:TO):TE:=fun σ H Q=>te σ H fun x H1=>tl σ H1 fun l H2=>th σ H2 fun u H3=>r x l u H3 Q
theorem N6  (hr:SlR X r)(he:PE X e te)(hl:PO X lo tl)(hu:PO X hi th):PE X (.Subscript e (.Slice lo hi none p2) pos) (tSl r te tl th):=by
 intro pins s σ H Q I h
 refine Subscript_ (thn (he pins s σ H _ I h) fun v s1 ⟨x,H1,I1,r1,q1⟩=>?_)
 refine wpAny_Slice (thn (hl pins s1 σ H1 _ I1 q1) fun vl s2 ⟨l,H2,I2,pl,q2⟩=>thn (hu pins s2 σ H2 _ I2 q2) fun vu s3 ⟨u,H3,I3,pu,q3⟩=>?_)
 rw[evalPart_none]
 refine jq_ ?_
 have I4:Inv X pins σ H3 {s3 with heap:=s3.heap.push {cls:=.type "slice",data:=.fields #[vl,vu,.none]} }:=I3.kept (t':=s3.toks) fun b ob q=>jm_ _ q
 obtain⟨T,id,hT,ht,hg⟩:=hr pins {s3 with heap:=s3.heap.push {cls:=.type "slice",data:=.fields #[vl,vu,.none]} } σ H3 x v vl vu l u s3.heap.objs.size Q I4 r1 (Heap.IsSliceOf.new ..) pl pu q3
 show wpAny (model X.prog X.w) X.A (subscriptTail e (.Slice lo hi none p2) v (.ref s3.heap.objs.size)) (EP X pins σ Q) X.xe {s3 with heap:=s3.heap.push {cls:=.type "slice",data:=.fields #[vl,vu,.none]} }
 exact tail_any (ops:=[.ref s3.heap.objs.size,v]) ht hT hg (by with_unfolding_all rfl)
def cutV (xs:List V)(lo hi:Option Int):List V:=(xs.drop (HT.sIx xs.length 0 lo)).take (HT.sIx xs.length xs.length hi-HT.sIx xs.length 0 lo)
theorem KP (xs:List V)(lo hi:Option Int):(cutV xs lo hi).length<=xs.length:=by
 unfold cutV
 rw[jB_,xa_]
 omega
def rSlT (K:α3):V->Option Int->Option Int->Hp->VK->Prop:=fun x lo hi H Q=>∃a xs,x=.ref a/\SqT K H a xs /\
 ¬ (HT.sIx xs.length 0 lo=0/\HT.sIx xs.length xs.length hi=xs.length)/\∀p,H p=none->Q (.ref p) (upd H p (.tup (cutV xs lo hi)))
theorem BY_:SlR X (rSlT X.K):=by
 intro pins s σ H x v vl vu lo hi sl Q I rx hs pl pu h
 obtain⟨a,xs,rfl,hx,hw,q⟩:=h
 cases rx
 obtain⟨its,r,ht,hz⟩:=I.tuple hx
 have hlen:its.toArray.size=xs.length:=by rw[jk_];exact r.length.symm
 refine⟨"tuple",_,xA_.lookup,ht.typeIs,?_⟩
 refine HT.getItem_tuple_cut ht hs pl pu (by rw[hlen];exact hw) ?_ (by rw[hlen];exact hz)
 rw[hlen]
 refine⟨.ref s.heap.objs.size,_,I.laid (t':=s.toks) (o:=.tup (cutV xs lo hi)) (fun b ob q=>jm_ _ q) (jg_ _) ?_,rfl,q _ (I.hok.fresh (jg_ _))⟩
 exact⟨qm_ (KP xs lo hi) hz,_,(r.drop (HT.sIx xs.length 0 lo)).take (HT.sIx xs.length xs.length hi-HT.sIx xs.length 0 lo),IsTup.new _ _⟩
def Dx_ (K:α3):R2:=fun x y H Q=>∃a b xs ys,x=.ref a/\y=.ref b/\SqT K H a xs/\SqT K H b ys/\xs ≠ []/\xs.length+ys.length<=sizeLine /\
 (ys=[]->Q (.ref a) H)/\(ys ≠ []->∀p,H p=none->Q (.ref p) (upd H p (.tup (xs++ys))))
theorem Vals.nil_iff   (r:Vals xs us):us=[]↔xs=[]:=by
 cases r with
 |nil=>simp
 |cons _ _=>simp
theorem Ax_:OpR X (binaryOp .Add) (Dx_ X.K):=by
 intro pins s σ H x y v u Q I rx ry h
 obtain⟨a,b,xs,ys,rfl,rfl,ha,hb,hx,hz,q1,q2⟩:=h
 cases rx
 cases ry
 obtain⟨its,r1,p1,_⟩:=I.tuple ha
 obtain⟨aH,r2,p2,_⟩:=I.tuple hb
 refine HT.cat_tup p1 p2 (fun z=>hx (r1.nil_iff.mp z)) (fun z=>⟨.ref a,H,I,rfl,q1 (r2.nil_iff.mp z)⟩) (fun z=>?_) (by rw[<-r1.length,<-r2.length];exact hz)
 refine⟨.ref s.heap.objs.size,_,I.laid (t':=s.toks) (o:=.tup (xs++ys)) (fun b ob q=>jm_ _ q) (jg_ _) ?_,rfl,q2 (fun w=>z (r2.nil_iff.mpr w)) _ (I.hok.fresh (jg_ _))⟩
 exact⟨by rw[jo_];exact hz,_,r1.append r2,IsTup.new _ _⟩
end
end L2
namespace L2
open PySem PySem.Spec PyProof.Rows
def ixN (n:Nat)(i:Int):Option Nat:=if 0<=i then (if i<n then some i.toNat else none) else if -(n:Int)<=i then some (i+n).toNat else none
def atI {α:Type}(xs:List α)(i:Int):Option α:=(ixN xs.length i).bind fun j=>xs[j]?
theorem VU    (h:ixN n i=some j):seqIndex? i n=some j/\j<n /\ -(n:Int)<=i/\i<n:=by
 unfold ixN at h
 by_cases h0:0<=i
 ·rw[if_pos h0]at h
  by_cases h1:i<n
  ·rw[if_pos h1]at h
   have e:i.toNat=j:=jp_ h
   exact⟨by rw[seqIndex_of h0 h1,e],by omega,by omega,h1⟩
  ·rw[if_neg h1]at h;cases h
 ·rw[if_neg h0]at h
  by_cases h1 : -(n:Int)<=i
  ·rw[if_pos h1]at h
   have e:(i+n).toNat=j:=jp_ h
   exact⟨by rw[seqIndex_neg (by omega) h1,e],by omega,h1,by omega⟩
  ·rw[if_neg h1]at h;cases h
theorem VW     (h:atI xs i=some v):∃j,seqIndex? i xs.length=some j/\xs[j]?=some v/\j<xs.length /\ -(xs.length:Int)<=i/\i<xs.length:=by
 unfold atI at h
 cases e:ixN xs.length i with
 |none=>rw[e]at h;cases h
 |some j=>
  rw[e]at h
  obtain⟨h1,h2,h3,h4⟩:=VU e
  exact⟨j,h1,h,h2,h3,h4⟩
theorem FV {α:Type}{xs:List α}{j:Nat}{v:α}(h:xs[j]?=some v):atI xs (j:Int)=some v:=by
 have hj:j<xs.length:=(jb_.mp h).1
 have e:ixN xs.length (j:Int)=some j:=by
  unfold ixN
  rw[if_pos (by omega),if_pos (by omega)];simp
 unfold atI;rw[e];exact h
def VX (b:Expr):Prop:=∀o i,subscripted b false o i=operate [o,i] (getItem o i)
def IxR (X:Cx)(r:R2):Prop:=
 ∀(value slice:Expr) (pins:α7) (s:Shared) (σ:St) (H:Hp) (x y:V) (v u:Value) (Q:VK),Inv X pins σ H s->RelV x v->RelV y u->r x y H Q ->
  subscripted slice false v u=operate [v,u] (getItem v u)->wpAny (model X.prog X.w) X.A (subscriptTail value slice v u) (EP X pins σ Q) X.xe s
def MtR (X:Cx)(id:String)(r:V->List V->Hp->VK->Prop):Prop:=
 ∀(pins:α7) (s:Shared) (σ:St) (H:Hp) (x:V) (xs:List V) (v:Value) (us:List Value) (Q:VK),Inv X pins σ H s->RelV x v->Vals xs us->r x xs H Q ->
  wpAny (model X.prog X.w) X.A (call (.builtin id) (v::us)) (EP X pins σ Q) X.xe s
section
variable {X:Cx} {a b:Expr} {ta tb:TE} {pos:Pos}
theorem IxR.or  (h:IxR X r)(h':IxR X r'):IxR X (fun x y H Q=>r x y H Q\/r' x y H Q):=by
 intro value slice pins s σ H x y v u Q I rx ry q hs
 rcases q with q|q
 ·exact h value slice pins s σ H x y v u Q I rx ry q hs
 ·exact h' value slice pins s σ H x y v u Q I rx ry q hs
theorem BZ_  (hr:IxR X r)(ha:PE X a ta)(hb:PE X b tb)(hs:VX b):PE X (.Subscript a b pos) (tOp r ta tb):=by
 intro pins s σ H Q I h
 exact Subscript_ (binT ha hb I h fun v u s2 x y H2 I2 rx ry q=>hr a b pins s2 σ H2 x y v u Q I2 rx ry q (hs _ _))
def rIxL (K:α3):R2:=fun x y H Q=>∃p xs i v,x=.ref p/\y=.int i/\SqL K H p xs/\atI xs i=some v/\Q v H
def rIxT (K:α3):R2:=fun x y H Q=>∃p xs i v,x=.ref p/\y=.int i/\SqT K H p xs/\atI xs i=some v/\Q v H
theorem Bi:IxR X (rIxL X.K):=by
 intro value slice pins s σ H x y v u Q I rx ry h hs
 obtain⟨p,xs,i,z,rfl,rfl,hq,he,q⟩:=h
 cases rx
 obtain⟨t,rfl⟩:=ry
 obtain⟨its,r,pl,hz⟩:=I.list hq
 obtain⟨j,h1,h2,h3,h4,h5⟩:=VW he
 obtain⟨w,ew,dM⟩:=r.get h2
 have hl:=r.length
 have hn:=PQ
 have fin:EP X pins σ Q w s:=⟨z,H,I,dM,q⟩
 by_cases h0:0<=i
 ·have hj:i.toNat=j:=by
   rw[seqIndex_of h0 h5]at h1
   exact jp_ h1
  exact item_listR pl.isList h0 (by omega) (by rw[hj];simpa using ew) fin hs
 ·have hj:(i+(its.toArray.size:Int)).toNat=j:=by
   rw[seqIndex_neg (by omega) h4]at h1
   rw[jk_,<-hl]
   exact jp_ h1
  exact subscriptTail_builtinR (x:=w) pl.isList.typeIs slot_list_getitem.lookup
   (wpAny_getItem_list_neg (Q:=fun r s'=>r=w/\EP X pins σ Q r s') pl.isList (by omega) (by rw[jk_]<;>omega) (by omega) (by rw[hj];simpa using ew) ⟨rfl,fin⟩) hs
theorem Ao:IxR X (rIxT X.K):=by
 intro value slice pins s σ H x y v u Q I rx ry h hs
 obtain⟨p,xs,i,z,rfl,rfl,hq,he,q⟩:=h
 cases rx
 obtain⟨t,rfl⟩:=ry
 obtain⟨its,r,pl,hz⟩:=I.tuple hq
 obtain⟨j,h1,h2,h3,h4,h5⟩:=VW he
 obtain⟨w,ew,dM⟩:=r.get h2
 have hl:=r.length
 have hn:=PQ
 have fin:EP X pins σ Q w s:=⟨z,H,I,dM,q⟩
 exact subscriptTail_builtinR (x:=w) pl.typeIs slot_tuple_getitem.lookup
  (getItem_tuple (j:=j) (Q:=fun r s'=>r=w/\EP X pins σ Q r s') pl (by omega) (by omega) (by rw[jk_,<-hl];exact h1) (by simpa using ew) ⟨rfl,fin⟩) hs
theorem Ul (its:List Value)(n j:Nat)(u:Value):Obj.mapSeq (·.setIfInBounds j u) {cls:=.type "list",data:=.seq its.toArray n}={cls:=.type "list",data:=.seq (its.set j u).toArray n}:=by
 simp[Obj.mapSeq]
theorem Inv.lst {pins:α7}{σ:St}{H:Hp}{s:Shared}{p:Addr}{xs:List V}(I:Inv X pins σ H s)(h:H p=some (.lst xs)):
  ∃(its:List Value) (n:Nat),Vals xs its/\s.heap.get? p=some {cls:=.type "list",data:=.seq its.toArray n}/\xs.length<=sizeLine:=by
 obtain⟨z,its,n,r,e⟩:=I.hok p _ h
 exact⟨its,n,r,e,z⟩
theorem Inv.lstUpd {pins:α7}{σ:St}{H:Hp}{s:Shared}{p:Addr}{xs ys:List V}{its its':List Value}{n n':Nat}{f:Obj->Obj}(I:Inv X pins σ H s)(h:H p=some (.lst xs))
  (ho:s.heap.get? p=some {cls:=.type "list",data:=.seq its.toArray n}) (hf:f {cls:=.type "list",data:=.seq its.toArray n}={cls:=.type "list",data:=.seq its'.toArray n' }) (r:Vals ys its') (hz:ys.length<=sizeLine) (t:Nat):
  Inv X pins σ (upd H p (.lst ys)) {s with heap:=s.heap.update p f,toks:=t}:=by
 have e:(s.heap.update p f).get? p=some {cls:=.type "list",data:=.seq its'.toArray n' }:=by
  rw[qU_ f ho (by rw[hf]<;>rfl),hf]
 refine I.write (x:=p) (e:=p) (by rw[h];trivial) (.inl rfl) (fun b u hb q=>(j5_ _ _ (qv_ hb)).trans q) ⟨_,e⟩ ?_
 exact⟨hz,its',n',r,e⟩
def Ca_:V->V->V->Hp->(Hp->Prop)->Prop:=fun o i v H Q=>∃p xs k j,o=.ref p/\i=.int k/\H p=some (.lst xs)/\ixN xs.length k=some j/\Q (upd H p (.lst (xs.set j v)))
theorem set_list:PSet X Ca_:=by
 intro pins s σ H o i v ov iv u Q I ro ri rv h
 obtain⟨p,xs,k,j,rfl,rfl,hp,hj,q⟩:=h
 cases ro
 obtain⟨t,rfl⟩:=ri
 obtain⟨its,n,r,ho,hz⟩:=I.lst hp
 obtain⟨h1,h2,h3,h4⟩:=VU hj
 have hl:=r.length
 have hn:=PQ
 have I':Inv X pins σ (upd H p (.lst (xs.set j v))) {s with heap:=s.heap.update p (Obj.mapSeq (·.setIfInBounds j u))}:=
  I.lstUpd hp ho (Ul its n j u) (r.set rv j) (by rw[qQ_];exact hz) s.toks
 by_cases h0:0<=k
 ·have hk:k.toNat=j:=by
   rw[seqIndex_of h0 h4]at h1
   exact jp_ h1
  exact PySem.W.ki_setAt ho h0 (by omega) (by rw[jk_,<-hl];exact h4) (by rw[hk];exact⟨_,I',q⟩)
 ·have hk:(k+(its.toArray.size:Int)).toNat=j:=by
   rw[seqIndex_neg (by omega) h3]at h1
   rw[jk_,<-hl]
   exact jp_ h1
  exact PySem.W.ki_setBack ho (by omega) (by rw[jk_,<-hl];exact h3) (by omega) (by rw[hk];exact⟨_,I',q⟩)
theorem PZ (lo hi:Option Int)(n:Nat):(sliceBounds lo hi none n).1=((HT.sIx n 0 lo:Nat):Int)/\(sliceBounds lo hi none n).2.1=((HT.sIx n n hi:Nat):Int)/\(sliceBounds lo hi none n).2.2=1:=by
 refine⟨?_,?_,rfl⟩
 ·cases lo with
  |none=>simp[sliceBounds,HT.sIx]
  |some i=>
   simp only[sliceBounds,HT.sIx,Option.getD_none,show (1:Int) > 0 by decide,xK_]
   by_cases h:i<0
   ·simp only[h,xK_]<;>omega
   ·simp only[h,qK_]<;>omega
 ·cases hi with
  |none=>simp[sliceBounds,HT.sIx]
  |some i=>
   simp only[sliceBounds,HT.sIx,Option.getD_none,show (1:Int) > 0 by decide,xK_]
   by_cases h:i<0
   ·simp only[h,xK_]<;>omega
   ·simp only[h,qK_]<;>omega
theorem N7 (its:List Value)(lo hi:Option Int):slicePick its.toArray lo hi none=((its.drop (HT.sIx its.length 0 lo)).take (HT.sIx its.length its.length hi-HT.sIx its.length 0 lo)).toArray:=by
 obtain⟨h1,h2,h3⟩:=PZ lo hi its.toArray.size
 unfold slicePick
 rw[h1,h2,h3]
 simp only[sliceRange_one,pick_run,jk_]<;>rfl
def rSlL (K:α3):V->Option Int->Option Int->Hp->VK->Prop:=fun x lo hi H Q=>∃a xs,x=.ref a/\SqL K H a xs/\∀p,H p=none->Q (.ref p) (upd H p (.lst (cutV xs lo hi)))
theorem VY:SlR X (rSlL X.K):=by
 intro pins s σ H x v vl vu lo hi sl Q I rx hs pl pu h
 obtain⟨a,xs,rfl,hx,q⟩:=h
 cases rx
 obtain⟨its,r,ht,hz⟩:=I.list hx
 have hlen:=r.length
 refine⟨"list",_,slot_list_getitem.lookup,ht.isList.typeIs,?_⟩
 refine wpAny_getItem_list_slice ht.isList hs pl pu .none (by simp) ?_ (by rw[jk_]<;>omega)
 rw[N7,<-hlen]
 refine⟨.ref s.heap.objs.size,_,I.laid (t':=s.toks) (o:=.lst (cutV xs lo hi)) (fun b ob q=>jm_ _ q) (jg_ _) ?_,rfl,q _ (I.hok.fresh (jg_ _))⟩
 exact⟨qm_ (KP xs lo hi) hz,_,0,(r.drop (HT.sIx xs.length 0 lo)).take (HT.sIx xs.length xs.length hi-HT.sIx xs.length 0 lo),jC_ _ rfl⟩
def DK:V->Bool
 |.non=>true
 |.bl _=>true
 |.int _=>true
 |.str _=>true
 |_=>false
def eqV:V->V->Bool
 |.non,.non=>true
 |.bl a,.bl b=>a==b
 |.bl a,.int b=>(if a then 1 else 0)==b
 |.int a,.bl b=>a==(if b then 1 else 0)
 |.int a,.int b=>a==b
 |.str a,.str b=>a==b
 |_,_=>false
theorem VZ     (ry:RelV y u)(rx:RelV x v)(fy:DK y=true)(fx:DK x=true):SeqAt.EqAt A s u v (eqV y x):=by
 cases y with
 |non=>
  cases ry
  cases x with
  |non=>cases rx;exact SeqAt.EqAt.same _
  |bl b=>cases rx;exact SeqAt.EqAt.none_bool b
  |int b=>obtain⟨t,rfl⟩:=rx;exact SeqAt.EqAt.none_int b t
  |str b=>obtain⟨t,rfl⟩:=rx;exact SeqAt.EqAt.none_str b t
  |_=>exact absurd (show false=true from fx) jr_
 |bl a=>
  cases ry
  cases x with
  |non=>cases rx;exact SeqAt.EqAt.bool_none a
  |bl b=>cases rx;exact SeqAt.EqAt.bool_bool a b
  |int b=>obtain⟨t,rfl⟩:=rx;exact SeqAt.EqAt.bool_int a b t
  |str b=>obtain⟨t,rfl⟩:=rx;exact SeqAt.EqAt.bool_str a b t
  |_=>exact absurd (show false=true from fx) jr_
 |int a=>
  obtain⟨t',rfl⟩:=ry
  cases x with
  |non=>cases rx;exact SeqAt.EqAt.int_none a t'
  |bl b=>cases rx;exact SeqAt.EqAt.int_bool a t' b
  |int b=>obtain⟨t,rfl⟩:=rx;exact SeqAt.EqAt.int_int a t' b t
  |str b=>obtain⟨t,rfl⟩:=rx;exact SeqAt.EqAt.int_str a t' b t
  |_=>exact absurd (show false=true from fx) jr_
 |str a=>
  obtain⟨t',rfl⟩:=ry
  cases x with
  |non=>cases rx;exact SeqAt.EqAt.str_none a t'
  |bl b=>cases rx;exact SeqAt.EqAt.str_bool a t' b
  |int b=>obtain⟨t,rfl⟩:=rx;exact SeqAt.EqAt.str_int a t' b t
  |str b=>obtain⟨t,rfl⟩:=rx;exact SeqAt.EqAt.str_str a t' b t
  |_=>exact absurd (show false=true from fx) jr_
 |_=>exact absurd (show false=true from fy) jr_
def eqU (x:V)(u:Value):Bool:=match u with
 |.none=>eqV .non x
 |.bool b=>eqV (.bl b) x
 |.int i _=>eqV (.int i) x
 |.str z _=>eqV (.str z) x
 |_=>false
theorem Zr   (r:RelV y u)(f:DK y=true):eqU x u=eqV y x:=by
 cases y with
 |non=>cases r;rfl
 |bl b=>cases r;rfl
 |int i=>obtain⟨t,rfl⟩:=r;rfl
 |str z=>obtain⟨t,rfl⟩:=r;rfl
 |_=>exact absurd (show false=true from f) jr_
theorem N8 {x:V}:∀{xs:List V} {us:List Value},Vals xs us->xs.all DK=true->us.any (eqU x)=xs.any fun y=>eqV y x
 |_,_,.nil,_=>rfl
 |y::xs,u::us,.cons r t,f=>by
  rw[List.all_cons,qb_]at f
  rw[zB_,zB_,Zr r f.1,N8 t f.2]
theorem Ku {A:Around}{s:Shared}{x:V}{v:Value}(rx:RelV x v)(fx:DK x=true):∀{xs:List V} {us:List Value},Vals xs us->xs.all DK=true->∀u∈us,SeqAt.EqAt A s u v (eqU x u)
 |_,_,.nil,_=>fun u hu=>by cases hu
 |y::xs,u::us,.cons r t,f=>fun u' hu=>by
  rw[List.all_cons,qb_]at f
  rcases jJ_.mp hu with rfl|hu
  ·rw[Zr r f.1];exact VZ r rx f.1 fx
  ·exact Ku rx fx t f.2 u' hu
def inV (x:V)(xs:List V):Bool:=xs.any fun y=>eqV y x
def rIn (K:α3)(neg:Bool):R2:=fun x y H Q=>∃p xs,y=.ref p/\(SqL K H p xs\/SqT K H p xs)/\DK x=true/\xs.all DK=true/\Q (.bl (if neg then !inV x xs else inV x xs)) H
theorem Jq:OpR X (compareOp .NotIn) (rIn X.K true):=by
 intro pins s σ H x y v u Q I rx ry h
 obtain⟨p,xs,rfl,hq,fx,fs,q⟩:=h
 cases ry
 rcases hq with hq|hq
 ·obtain⟨its,r,pl,hz⟩:=I.list hq
  refine SeqAt.notIn_listAt (eqU x) pl.isList (fun w hw=>Ku rx fx r fs w (by simpa using hw)) ⟨.bl _,H,I,rfl,?_⟩
  rw[show its.toArray.any (eqU x)=its.any (eqU x) by simp,N8 r fs]
  exact q
 ·obtain⟨its,r,pl,hz⟩:=I.tuple hq
  refine SeqAt.notIn_tupleAt (eqU x) pl (fun w hw=>Ku rx fx r fs w (by simpa using hw)) ⟨.bl _,H,I,rfl,?_⟩
  rw[show its.toArray.any (eqU x)=its.any (eqU x) by simp,N8 r fs]
  exact q
theorem Ak:Dq X (.builtin "len") (fun xs H Q=>∃p ys,xs=[.ref p]/\(SqL X.K H p ys\/SqT X.K H p ys)/\Q (.int ys.length) H):=by
 intro pins s σ H xs us Q I r h
 obtain⟨p,ys,rfl,hq,q⟩:=h
 obtain⟨u,rfl,rx⟩:=vals1 r
 cases rx
 have hn:=PQ
 rcases hq with hq|hq
 ·obtain⟨its,r',pl,hz⟩:=I.list hq
  have hlen:=r'.length
  exact Calls.call_len_list pl.isList (by simp only[jk_]<;>omega) ⟨.int ys.length,H,I.tok _,⟨s.toks+1,by rw[jk_,hlen]⟩,q⟩
 ·obtain⟨its,r',pl,hz⟩:=I.tuple hq
  have hlen:=r'.length
  exact len_tuple pl (by simp only[jk_]<;>omega) ⟨.int ys.length,H,I.tok _,⟨s.toks+1,by rw[jk_,hlen]⟩,q⟩
theorem Dq.or   (h:Dq X f r)(h':Dq X f r'):Dq X f (fun xs H Q=>r xs H Q\/r' xs H Q):=by
 intro pins s σ H xs us Q I rs q
 rcases q with q|q
 ·exact h pins s σ H xs us Q I rs q
 ·exact h' pins s σ H xs us Q I rs q
theorem FW:Dq X (.type "list") (fun xs H Q=>∃p ys,xs=[.ref p]/\(SqL X.K H p ys\/SqT X.K H p ys)/\∀l,H l=none->Q (.ref l) (upd H l (.lst ys))):=by
 intro pins s σ H xs us Q I r h
 obtain⟨p,ys,rfl,hq,q⟩:=h
 obtain⟨u,rfl,rx⟩:=vals1 r
 cases rx
 have fin:∀(its:List Value),Vals ys its->ys.length<=sizeLine->∀(h':Heap) (c':Nat),(∀b o',s.heap.get? b=some o'->h'.get? b=some o') ->
   h'.get? s.heap.objs.size=some {cls:=.type "list",dict:=none,data:=.seq its.toArray c',slots := #[]}->EP X pins σ Q (.ref s.heap.objs.size) {s with heap:=h' }:=fun its r' hz h' c' kp e=>
  ⟨.ref s.heap.objs.size,_,I.laid (t':=s.toks) kp (jg_ _) (show B6 X.prog X.w _ h' _ (.lst ys) from ⟨hz,its,c',r',e⟩),rfl,q _ (I.hok.fresh (jg_ _))⟩
 rcases hq with hq|hq
 ·obtain⟨its,r',pl,hz⟩:=I.list hq
  have hlen:=r'.length
  obtain⟨o,ho,hc,n,hd⟩:=pl.isList
  exact call_list_seq p (.inl rfl) ho hc hd (fun h' c' kp e=>fin its r' hz h' c' kp e) (by simp only[jk_]<;>omega)
 ·obtain⟨its,r',pl,hz⟩:=I.tuple hq
  have hlen:=r'.length
  obtain⟨o,ho,hc,n,hd⟩:=pl
  exact call_list_seq p (.inr rfl) ho hc hd (fun h' c' kp e=>fin its r' hz h' c' kp e) (by simp only[jk_]<;>omega)
theorem N9:Dq X (.type "tuple") (fun xs H Q=>∃p ys,xs=[.ref p]/\((SqL X.K H p ys/\∀l,H l=none->Q (.ref l) (upd H l (.tup ys)))\/(SqT X.K H p ys/\Q (.ref p) H))):=by
 intro pins s σ H xs us Q I r h
 obtain⟨p,ys,rfl,h⟩:=h
 obtain⟨u,rfl,rx⟩:=vals1 r
 cases rx
 rcases h with ⟨hq,q⟩|⟨hq,q⟩
 ·obtain⟨its,r',pl,hz⟩:=I.list hq
  have hlen:=r'.length
  refine call_tuple_list pl.isList (fun h' kp=>?_) (by simp only[jk_]<;>omega)
  have I1:Inv X pins σ H {s with heap:=h' }:=I.kept (t':=s.toks) kp
  have I2:Inv X pins σ (upd H h'.objs.size (.tup ys)) {s with heap:=h'.push {cls:=.type "tuple",data:=.seq its.toArray} }:=
   I1.laid (t':=s.toks) (fun b o e=>jm_ _ e) (jg_ _) (show B6 X.prog X.w _ _ _ (.tup ys) from ⟨hz,its,r',IsTup.new _ _⟩)
  exact⟨.ref h'.objs.size,_,I2,rfl,q _ (I1.hok.fresh (jg_ _))⟩
 ·obtain⟨its,r',pl,hz⟩:=I.tuple hq
  exact call_tuple_same pl ⟨.ref p,H,I,rfl,q⟩
def tyV (K:α3)(T:String)(x:V)(H:Hp):Prop:=match x with
 |.str _=>T = "str"
 |.int _=>T = "int"
 |.ref p=>(T = "list" /\ ∃xs,SqL K H p xs)\/(T = "tuple" /\ ∃o,K.lookup p=some o/\o.cls=.type "tuple" /\ o.dict=none) \/
   (T = "dict" /\ ((∃kvs,H p=some (.dK kvs)) \/ ∃kvs,H p=some (.dT kvs)))\/(T = "set" /\ ∃S n,H p=some (.set S n))
 |_=>False
theorem Cb_        (I:Inv X pins σ H s)(r:RelV x v)(ty:tyV X.K T x H):
  s.TypeIs v T/\∀a,v=.ref a->∃ob,s.heap.get? a=some ob/\ob.dict=none:=by
 cases x with
 |str z=>
  obtain⟨t,rfl⟩:=r
  cases (show T = "str" from ty)
  exact⟨typeIs_str s z t,fun _ e=>nomatch e⟩
 |int i=>
  obtain⟨t,rfl⟩:=r
  cases (show T = "int" from ty)
  exact⟨typeIs_int s i t,fun _ e=>nomatch e⟩
 |ref p=>
  cases r
  rcases ty with ⟨rfl,xs,hq⟩|⟨rfl,o,hk,hc,hd⟩|⟨rfl,hk⟩|⟨rfl,S,n,hk⟩
  ·obtain⟨its,_,pl,_⟩:=I.list hq
   refine⟨pl.isList.typeIs,fun a e=>?_⟩
   cases e
   obtain⟨o,n,e,c,hd,_⟩:=pl
   exact⟨o,e,hd⟩
  ·refine⟨⟨o,I.kIn p o hk,hc⟩,fun a e=>?_⟩
   cases e
   exact⟨o,I.kIn _ o hk,hd⟩
  ·have z:∃o,s.heap.get? p=some o/\o.ExactDict:=by
    rcases hk with ⟨kvs,hk⟩|⟨kvs,hk⟩
    ·obtain⟨_,_,_,_,o,_,_,e,ex,_⟩:=I.hok p _ hk
     exact⟨o,e,ex⟩
    ·obtain⟨_,_,_,_,o,_,_,e,ex,_⟩:=I.hok p _ hk
     exact⟨o,e,ex⟩
   obtain⟨o,e,ex⟩:=z
   refine⟨⟨o,e,ex.1⟩,fun a e2=>?_⟩
   cases e2
   exact⟨o,e,ex.2.1⟩
  ·obtain⟨o,_,_,_,e,ex,_⟩:=I.hok p _ hk
   refine⟨⟨o,e,ex.1⟩,fun a e2=>?_⟩
   cases e2
   exact⟨o,e,ex.2.1⟩
 |_=>exact False.elim ty
def tBM (K:α3)(T:String)(r:V->List V->Hp->VK->Prop)(to:TE)(t:TA):TE:=fun σ H Q=>to σ H fun x H1=>tyV K T x H1/\t σ H1 fun xs H2=>r x xs H2 Q
variable {o e:Expr} {es:List Expr} {to:TE} {t:TA} {name:Str} {apos az:Pos} {T id:String} {r:V->List V->Hp->VK->Prop}
theorem Fd (pa:PlainAttrs T)(slot:Slot T name id)(l7:typeOf (.builtin id)=pure (.type "method_descriptor"))(hm:MtR X id r)(ho:PE X o to)(ha:PA X (e::es) t)
  (eN:attributeBase o name X.env (eval o X.env)=eval o X.env:=by rfl)
  (fS:((backTo az (starEach (e::es) X.env)).all (fun x => !x.1)&&(backToKw az (keywordEach [] X.env)).all (fun x=>x.1.isSome)
   && decide ((e::es).length+([]:List Keyword).length+(if ([]:List Keyword).isEmpty then 0 else 1)<30))=true:=by rfl)
  (eO:(apos.endLine==az.line)=true:=by rfl) (hs:starEach (e::es) X.env=(false,eval e X.env)::starEach es X.env:=by rfl) (cT:(backTo az (starEach es X.env)).any (·.1)=false:=by rfl):
  PE X (.Call (.Attribute o name apos) (e::es) [] az) (tBM X.K T r to t):=by
 intro pins s σ H Q I h
 refine wpAny_Call_method_late eN fS eO rfl (thn (ho pins s σ H _ I h) fun v s1 ⟨x,H1,I1,r1,ty,q1⟩=>?_)
 obtain⟨h1,h2⟩:=Cb_ I1 r1 ty
 refine⟨T,id,pa,slot,l7,h1,h2,?_⟩
 have hA:=ha az pins s1 σ H1 _ I1 q1
 rw[hs]at hA ⊢
 refine zh_ (by show (false||(backTo az (starEach es X.env)).any (·.1))=false;rw[cT]<;>rfl) (zz_ ?_)
 exact thn hA fun us s2 ⟨vs,H2,I2,r2,q2⟩=>hm pins s2 σ H2 x vs v us Q I2 r1 r2 q2
/- xs.append(e),list.index on a module's tuple .. are MtR facts of 06m -/
end
end L2
namespace L2
open PySem PySem.Spec PyProof.Rows
def MtM (X:Cx)(id:String)(r:V->List V->Hp->VK->Prop):Prop:=
 ∀(pins:α7) (s:Shared) (σ:St) (H:Hp) (x:V) (xs:List V) (v:Value) (us:List Value) (Q:VK),Inv X pins σ H s->RelV x v->Vals xs us->r x xs H Q ->
  wpAny (model X.prog X.w) X.A (call (.builtin id) (v::us)) (EP X pins σ Q) X.xe s
theorem Vals.one:∀{x:V} {us:List Value},Vals [x] us->∃u,us=[u]/\RelV x u
 |_,_,.cons r .nil=>⟨_,rfl,r⟩
theorem Vals.rep {xs:List V}{us:List Value}(h:Vals xs us):∀k:Nat,Vals (List.replicate k xs).flatten (List.replicate k us).flatten
 |0=>.nil
 |k+1=>by
  rw[qg_,qg_,xB_,xB_]
  exact Vals.append h (Vals.rep h k)
theorem foldl_rep (its:List Value):∀(k:Nat) (acc:List Value),
  List.foldl (fun x1 x2=>x1++x2) acc.toArray (List.replicate k its.toArray)=(acc++(List.replicate k its).flatten).toArray
 |0,acc=>by simp
 |k+1,acc=>by
  have e:acc.toArray++its.toArray=(acc++its).toArray:=by simp
  have e2:(acc++its)++(List.replicate k its).flatten=acc++(List.replicate (k+1) its).flatten:=by
   rw[qg_,xB_,qi_]
  rw[<-e2,<-foldl_rep its k (acc++its),<-e,qg_,q6_]
section
variable {X:Cx} {pins:α7} {σ:St} {H:Hp} {s:Shared} {l b:Addr} {xs ys zs:List V}
theorem Inv.lset {its its':List Value}{n:Nat}{f:Array Value->Array Value}{t':Nat}(I:Inv X pins σ H s)(hH:H l=some (.lst xs))
  (e:s.heap.get? l=some {cls:=.type "list",data:=.seq its.toArray n}) (hf:f its.toArray=its'.toArray) (hv:Vals ys its') (hz:ys.length<=sizeLine):
  Inv X pins σ (upd H l (.lst ys)) {s with heap:=s.heap.update l (Obj.mapSeq f),toks:=t' }:=by
 have q:=x1_ e f
 rw[hf]at q
 refine I.write (x:=l) (e:=l) (by rw[hH];exact trivial) (.inl rfl) (fun b' u hb hu=>(j5_ s.heap (Obj.mapSeq f) (qv_ hb)).trans hu) ⟨_,q⟩ ?_
 exact⟨hz,its',_,hv,q⟩
theorem Inv.lnew   (I:Inv X pins σ H s)(hv:Vals ys its)(hz:ys.length<=sizeLine):
  Inv X pins σ (upd H s.heap.objs.size (.lst ys)) {s with heap:=s.heap.push {cls:=.type "list",data:=.seq its.toArray},toks:=t' }:=
 I.laid (fun _ _ q=>jm_ _ q) (jg_ _) ⟨hz,its,0,hv,jC_ _ rfl⟩
theorem Inv.fresh (I:Inv X pins σ H s):H s.heap.objs.size=none:=I.hok.fresh (jg_ _)
theorem Inv.lstM (I:Inv X pins σ H s)(hH:H l=some (.lst xs)):xs.length<=sizeLine/\∃(its:List Value) (n:Nat),Vals xs its/\xs.length=its.length/\s.heap.get? l=some {cls:=.type "list",data:=.seq its.toArray n}:=by
 obtain⟨z,its,n,r,e⟩:=I.hok l _ hH
 exact⟨z,its,n,r,r.length,e⟩
theorem Td  (h:n<=sizeLine):Builtin.List.listTooLong n=false:=by
 unfold Builtin.List.listTooLong
 exact qd_ (by omega)
end
section
variable {X:Cx}
def V0:V->List V->Hp->VK->Prop:=fun x vs H Q=>∃l xs y,x=.ref l/\vs=[y]/\H l=some (.lst xs)/\xs.length<sizeLine/\Q .non (upd H l (.lst (xs++[y])))
theorem Bd:MtM X "list.append" V0:=by
 intro pins s σ H x vs v us Q I rx rv h
 obtain⟨l,xs,y,rfl,rfl,hH,hz,q⟩:=h
 cases rx
 obtain⟨u,rfl,ru⟩:=rv.one
 obtain⟨z,its,n,r,hl,e⟩:=I.lstM hH
 refine xC_ F.slot_list_append ⟨_,e,rfl⟩ F.entry_list_append (zA_ _ _) (zV_ l its.toArray n u (by rw[jk_];omega)) ⟨e,?_⟩
 refine⟨.non,_,I.lset (its':=its++[u]) hH e (by simp) (r.append (.cons ru .nil)) ?_,rfl,q⟩
 rw[jo_,jY_]
 omega
def V1:V->List V->Hp->VK->Prop:=fun x vs H Q=>∃l b xs zs,x=.ref l/\vs=[.ref b]/\H l=some (.lst xs)/\H b=some (.lst zs)/\xs.length+zs.length<=sizeLine/\Q .non (upd H l (.lst (xs++zs)))
theorem V2:MtM X "list.extend" V1:=by
 intro pins s σ H x vs v us Q I rx rv h
 obtain⟨l,b,xs,zs,rfl,rfl,hH,hB,hz,q⟩:=h
 cases rx
 obtain⟨u,rfl,ru⟩:=rv.one
 cases ru
 obtain⟨z,its,n,r,hl,e⟩:=I.lstM hH
 obtain⟨z2,aH,n2,r2,bX,e2⟩:=I.lstM hB
 have hsz:its.toArray.size+aH.toArray.size<=sizeLine:=by rw[jk_,jk_];omega
 have eQ:¬ (!its.toArray.isEmpty&&Builtin.List.listTooLong (its.toArray.size+aH.toArray.size))=true:=by
  rw[Td hsz,Bool.and_false]
  exact jr_
 refine xC_ F.slot_list_extend ⟨_,e,rfl⟩ F.entry_list_extend (F.args_list_extend_2 _ _)
  (AutoSeq1.list_extend_list_list_0 l its.toArray n b aH.toArray n2 eQ (by rw[jk_];omega) (by omega)) ⟨e,e2,?_⟩
 refine⟨.non,_,I.lset (its':=its++aH) hH e (by simp) (r.append r2) ?_,rfl,q⟩
 rw[jo_]
 omega
def rCat:R2:=fun x y H Q=>∃l b xs zs,x=.ref l/\y=.ref b/\H l=some (.lst xs)/\H b=some (.lst zs)/\xs.length+zs.length<=sizeLine/\∀p,H p=none->Q (.ref p) (upd H p (.lst (xs++zs)))
theorem Cc_:OpR X (binaryOp .Add) rCat:=by
 intro pins s σ H x y v u Q I rx ry h
 obtain⟨l,b,xs,zs,rfl,rfl,hH,hB,hz,q⟩:=h
 cases rx
 cases ry
 obtain⟨z,its,n,r,hl,e⟩:=I.lstM hH
 obtain⟨z2,aH,n2,r2,bX,e2⟩:=I.lstM hB
 refine PySem.P.add_list e e2 ?_ (by rw[jk_,jk_];omega)
 have ea:its.toArray++aH.toArray=(its++aH).toArray:=by simp
 rw[ea]
 exact⟨.ref _,_,I.lnew (t':=s.toks) (r.append r2) (by rw[jo_];omega),rfl,q _ I.fresh⟩
def rRep:R2:=fun x y H Q=>∃l k xs,x=.ref l/\y=.int k/\H l=some (.lst xs) /\ -(2 ^ 63)<=k/\k<2 ^ 63/\xs.length*k.toNat<=sizeLine /\
 ∀p,H p=none->Q (.ref p) (upd H p (.lst (List.replicate k.toNat xs).flatten))
theorem len_rep {α:Type}(xs:List α)(k:Nat):(List.replicate k xs).flatten.length=k*xs.length:=by
 induction k with
 |zero=>simp
 |succ k ih=>rw[qg_,xB_,jo_,ih,Nat.succ_mul,Nat.add_comm]
theorem V3:OpR X (binaryOp .Mult) rRep:=by
 intro pins s σ H x y v u Q I rx ry h
 obtain⟨l,k,xs,rfl,rfl,hH,h1,h2,hz,q⟩:=h
 cases rx
 obtain⟨t,rfl⟩:=ry
 obtain⟨z,its,n,r,hl,e⟩:=I.lstM hH
 have hlen:its.toArray.size*k.toNat<=sizeLine:=by rw[jk_,<-hl];exact hz
 have hcap:¬ its.toArray.size*k.toNat > (2 ^ 63-1) / 8:=by
  have:(sizeLine:Nat)<=(2 ^ 63-1) / 8:=by decide
  omega
 have hfit:¬ (!Builtin.List.listFitsIndex k)=true:=by
  rw[fitsIndex_both h1 h2]
  exact jr_
 have eQ:¬ Builtin.List.listTooLong (its.toArray.size*k.toNat)=true:=by
  rw[Td hlen]
  exact jr_
 have cD:List.foldl (fun x1 x2=>x1++x2) #[] (List.replicate (if its.toArray.isEmpty=true then 0 else k.toNat) its.toArray)=(List.replicate k.toNat its).flatten.toArray:=by
  have f0:∀m:Nat,List.foldl (fun x1 x2=>x1++x2) #[] (List.replicate m its.toArray)=(List.replicate m its).flatten.toArray:=fun m=>by
   have:=foldl_rep its m []
   rw[xS_]at this
   exact this
  rw[f0]
  cases its with
  |nil=>simp
  |cons a r'=>rw[if_neg (by simp)]
 refine wpAny_binaryOp_repeat_ref (T := "list") (U := "int") (by decide) ⟨_,e,rfl⟩ (fun s'=>typeIs_int s' k t) noFill_list_mul F.fills_int_mul zH_ repeat_list F.slot_int_index.lookup
  (xC_ zH_ (typeIs_int s k t) F.entry_int_rmul (F.args_int_rmul_2 _ _) (int___rmul___int_list k t l its.toArray n)
   ⟨e,rfl,⟨_,e,rfl⟩,xC_ F.slot_list_mul ⟨_,e,rfl⟩ F.entry_list_mul (F.args_list_mul_2 _ _) (AutoListH.list___mul___list_int_3 l its.toArray n k t hfit hcap eQ) ⟨e,?_⟩⟩)
 rw[cD]
 exact⟨.ref _,_,I.lnew (t':=s.toks) (r.rep k.toNat) (by rw[len_rep,Nat.mul_comm];exact hz),rfl,q _ I.fresh⟩
end
end L2
namespace Att
open PySem PySem.W PySem.Calls PyProof.Rows
theorem KQ   : ∀(ns:α2) (vs:List Value),WellAll P h vs (ns.map WData.int)->IntsAre vs ns:=by
 intro ns
 induction ns with
 |nil=>
  intro vs w
  rw[xR_]at w
  cases w
  exact .nil
 |cons n ns ih=>
  intro vs w
  rw[j1_]at w
  cases w with
  |cons a b=>
   cases a
   exact .cons _ _ (ih _ b)
theorem V4 {l:OpenLaw}{n:Nat}(hn:l.most=some n){P:Params}{h:Heap}{args:List WData}{vals:List Value}
  (fT:l.row.toRowW.claim.pre args=true) (cq:WellAll P h vals args):
  ∃a vs ns,vals=[Value.ref a]/\args=[WData.list (ns.map WData.int)]/\h.get? a=some {cls:=.type "list",data:=.seq vs.toArray}/\IntsAre vs ns/\ns.length<=n:=by
 have hsh:WShape.hasAll [] args [.list .int]=true:=(pre_splitW fT).1
 have hc:l.pre.holds [] {args:=args}=true:=(pre_splitW fT).2
 obtain⟨d,r,rfl,h1,h2⟩:=hasAllW_cons hsh
 obtain rfl:=hasAllW_nil h2
 obtain⟨xs,rfl,h3⟩:=hasW_list h1
 obtain⟨ns,rfl⟩:=items_int h3
 have hlen:ns.length<=n:=by
  unfold OpenLaw.pre at hc
  have h4:(WTm.not (.lt (.lit (.int (n:Int))) (.len (.arg 0)))).holds [] {args:=[.list (ns.map .int)]}=true:=by
   have h4:=(holds_andW hc).1
   rw[hn]at h4
   exact h4
  have h5:=condW_of h4 (w_not (w_lt w_lit (w_len_list (w_arg rfl))))
  rw[ja_]at h5
  refine Nat.le_of_not_lt fun q=>?_
  have q':(n:Int)<((ns.length:Nat):Int):=by omega
  first
   | (rw[qh_ q']at h5;exact absurd h5 (by decide))
   | (simp at h5;omega)
 cases cq with
 |cons w1 w2=>
  cases w2
  cases w1 with
  |list ho ar=>exact⟨_,_,ns,rfl,rfl,ho,KQ ns _ ar,hlen⟩
theorem V5 (l:OpenLaw)(args:List WData):l.row.toRowW.claim.post args (.bool true) args=true:=
 postW_of (r:=l.row.toRowW) (X:=(true==true))
  (show WShape.has [] (.bool true) .bool=true by first|rfl|decide|simp[WShape.has,WShape.arms,WShape.armsAll])
  (show (WTm.eq .res (.lit (.bool true))).value [] {args:=args,res:=some (.bool true),after:=args}=some (.bool (true==true)) from w_eq_bool (w_res rfl) w_lit) rfl
theorem attach_call {l:OpenLaw}{n:Nat}{q:Program}{loose:List Str}{XP:(Str->α5)->Heap->Prop}{YP:World->Heap->Prop}{d:DefRec}
  (hn:l.most=some n) (jV:d.params.defaults=[])
  (call:∀(w:World) (s₀ s₁:Shared) (mg mb:Str->α5) (fa:Addr) (o:Obj) (pm cd doc:Value) (a:Addr) (vs:List Value) (ns:α2),
   Ground q loose [] XP w s₀ mg mb s₁.heap->YP w s₁.heap ->
   s₁.heap.get? fa=some o->o.data=.func (docDef d.name d.params d.body d.scope pm cd doc)->s₁.heap.CodeRec cd d.name->mg d.name=some (.ref fa) ->
   s₁.heap.get? a=some {cls:=.type "list",data:=.seq vs.toArray}->IntsAre vs ns->ns.length<=n->s₁.gens = #[] ->
   codeAny (model l.prog w) callerA (.call (.ref fa) ⟨[.ref a],[]⟩) (fun r s'=>r=.ok (.ret (.bool true))/\OldK s₁.heap s'.heap/\s'.os=s₁.os/\AllBare s'.gens) s₁):
  WalkO q loose XP YP l.row.toRowW d [] (fun f vs=>PySem.call f vs):=by
 intro w s₀ s₁ mg mb G Y fa o pm cd doc dV kV ho hd bw hD hmg hg args vals as fT hlay hrd cq fG
 obtain rfl:dV=.none:=Dflts.none hD jV
 obtain rfl:kV=.none:=Dflts.noKw hD
 obtain⟨a,vs,ns,rfl,rfl,a8,hints,hlen⟩:=V4 hn fT cq
 refine enter_call (codeAny_mono (call w s₀ s₁ mg mb fa o pm cd doc a vs ns G Y ho (fd_plain hd) bw hmg a8 hints hlen hg) fun r s' hq=>?_)
 obtain⟨rfl,h2,h3,h4⟩:=hq
 exact⟨.inl ⟨.bool true,.bool true,[],rfl,fun _=>rfl,.bool true,V5 l _,fun _=>⟨List.Pairwise.nil,fun _ hm=>(nomatch hm)⟩⟩,h2,h3,h4⟩
end Att
namespace L2
open PySem PySem.Spec PyProof.Rows
theorem P0:∀{vs:List Value} {ns:α2},IntsAre vs ns->Vals (ns.map V.int) vs
 |_,_,.nil=>.nil
 |_,_,.cons n t h=>.cons ⟨t,rfl⟩ (P0 h)
def Ay (s:Stmt):Arguments:=match s with
 |.FunctionDef _ a _ _ _ _ _ _ _ _=>a
 |_=>{posonlyargs:=[],args:=[],vararg:=none,kwonlyargs:=[],kw_defaults:=[],kwarg:=none,defaults:=[]}
def Aw (s:Stmt):List Stmt:=match s with
 |.FunctionDef _ _ b _ _ _ _ _ _ _=>b
 |_=>[]
def Af (s:Stmt):Scope:=match s with
 |.FunctionDef _ _ _ _ _ _ sc _ _ _=>sc
 |_=>{kind:=.function,names:=[],isGenerator:=false,isCoroutine:=false}
abbrev CX0:CXT:=fun _ _ _ _ _ _=>False
abbrev E0:XK:=fun _ _ _=>False
theorem AZ  : VR CX0 X E0:=fun _ _ _ _ _ _ _ h=>h.elim
structure Fun (K:α3)(x qual:Str)(st:Stmt)(f:Addr)(fd:α6):Prop where
 ex:∃(oc:Value) (od:Option Addr) (kV doc pm:Value) (an:Option Addr) (aq ct:Value) (eL:Array (α5)),
  fd=fnOf x qual (Ay st) (Aw st) (Af st) .none kV doc pm an aq ct/\K.lookup f=some ⟨oc,od,.func fd,eL⟩/\codeIn K aq qual=true
 kp:keepIn K (.ref f)=true
section
variable {P:Program} {w:World} {K:α3} {mg:Str->α5} {base:Heap}
theorem Fun.ok  {st:Stmt}      (F:Fun K x qual st f fd)(S:FnScope N ps (Af st))(len:∀vs H Q E,sp vs H Q E->vs.length=ps.length)
  (cC:∀(aq:Value) (A:Around) (outer:List Env) (s:Shared) (H:Hp) (vs:List V) (Q:VK) (E:XK),Room k (A.deeper (envOfC qual (Af st) s.heap.objs.size f aq))->sp vs H Q E ->
   ∃t,PSs (cxOf CX0 P w K mg base N qual (Af st) f aq A outer s H E).nox (Aw st) t/\t {nx:=fun _ H'=>Q .non H',rt:=Q} (start N vs) H):FnOk P w K mg base CX0 (k+1) f fd ps sp:=by
 obtain⟨oc,od,kV,doc,pm,an,aq,ct,eL,rfl,lk,bw⟩:=F.ex
 refine BV_ lk bw S len fun A outer s H vs Q E hr dI=>?_
 obtain⟨t,h,q⟩:=cC aq A outer s H vs Q E hr dI
 exact⟨t,h.nox,q⟩
theorem Fun.binds  {st:Stmt}    (F:Fun K x qual st f fd)
  (h:∀(kV doc pm:Value) (an:Option Addr) (aq ct:Value) (us:List Value),us.length=ps.length->bindArgs (fnOf x qual (Ay st) (Aw st) (Af st) .none kV doc pm an aq ct) ⟨us,[]⟩=pure (ps.zip us)):Binds K fd ps []:=by
 obtain⟨oc,od,kV,doc,pm,an,aq,ct,eL,rfl,lk,bw⟩:=F.ex
 exact .all (h kV doc pm an aq ct)
theorem A3  {st:Stmt}     {kV doc pm aq ct:Value}(l:K.lookup f=some ⟨oc,od,.func (fnOf x qual (Ay st) (Aw st) (Af st) .none kV doc pm an aq ct),eL⟩)
  (c:codeIn K aq qual=true) (k:keepIn K (.ref f)=true):Fun K x qual st f (fnOf x qual (Ay st) (Aw st) (Af st) .none kV doc pm an aq ct):=⟨⟨oc,od,kV,doc,pm,an,aq,ct,eL,rfl,l,c⟩,k⟩
end
theorem P3   (hr:Room k A):A.units+1<cLine:=Nat.lt_of_le_of_lt (Nat.add_le_add_left (by decide:1<=64) _) hr.units
section
variable {X:Cx}
theorem pv (i:Nat)   (hN:X.N[i]?=some x:=by rfl)(hv:Vis X.env.scope x:=by first|exact Or.inl rfl|exact Or.inr (Or.inl rfl)|exact Or.inr (Or.inr rfl))(hd:(x==("__debug__" : Str))=false:=by decide)
  (bw:(x==("__classdict__" : Str))=false:=by decide):PE X (.Name x pos) (tVar i):=BC_ hN hv hd bw
end
theorem ite2 {c A B:Prop}[Decidable c](h1:c->A)(h2:¬ c->B):if c then A else B:=by
 by_cases h:c
 ·rw[if_pos h]
  exact h1 h
 ·rw[if_neg h]
  exact h2 h
def Same (H H':Hp):Prop:=∀b o,H b=some o->H' b=some o
theorem Same.refl (H:Hp):Same H H:=fun _ _ h=>h
theorem Same.trans {H H1 H2:Hp}(a:Same H H1)(b:Same H1 H2):Same H H2:=fun c o h=>b c o (a c o h)
theorem Same.free  (e:Same H H')  (h:H' l=Option.none):H l=Option.none:=by
 cases q:H l with
 |none=>rfl
 |some o=>
  rw[e l o q]at h
  cases h
theorem Same.seq {K:α3}    (e:Same H H')(h:SqL K H a xs):SqL K H' a xs:=by
 rcases h with (h|⟨o,h⟩)|h
 ·exact .inl (.inl (e _ _ h))
 ·exact .inl (.inr ⟨o,e _ _ h⟩)
 ·exact .inr h
end L2
set_option maxHeartbeats 4000000
namespace L2
open PySem PySem.Spec PyProof.Rows
section
variable {κ:Type} [DecidableEq κ]
def valV (kvs:List (κ×V))(k:κ):Option V:=(kvs.find? fun kv=>decide (kv.1=k)).map (·.2)
def putK (kvs:List (κ×V))(k:κ)(v:V):List (κ×V):=
 if (kvs.any fun kv=>decide (kv.1=k))=true then kvs.map (fun kv=>if kv.1=k then (kv.1,v) else kv) else kvs++[(k,v)]
theorem Kv {p:κ×V}{r:List (κ×V)}{k:κ}(e:p.1=k):valV (p::r) k=some p.2:=by simp[valV,xT_,e]
theorem Kw {p:κ×V}{r:List (κ×V)}{k:κ}(e:¬ p.1=k):valV (p::r) k=valV r k:=by simp[valV,xT_,e]
theorem Fe (k:κ):∀kvs:List (κ×V),(kvs.any fun kv=>decide (kv.1=k))=(valV kvs k).isSome
 |[]=>rfl
 |p::r=>by
  rw[zB_]
  by_cases e:p.1=k
  ·simp only[Kv e,qh_ e,Bool.true_or,x9_]
  ·rw[Kw e,qd_ e,Bool.false_or];exact Fe k r
theorem Ff (kvs:List (κ×V))(k:κ)(v:V):(putK kvs k v).length<=kvs.length+1:=by
 unfold putK
 split
 ·rw[ja_];omega
 ·rw[jo_,jW_,qy_];omega
theorem XW {kvs:List (κ×V)}{k:κ}(v:V)(h:valV kvs k=none):putK kvs k v=kvs++[(k,v)]:=by
 unfold putK
 rw[Fe,h]
 exact if_neg (by decide)
theorem RelO.isSome_eq   (r:RelO o u):o.isSome=u.isSome:=by
 cases o with
 |none=>cases u with
  |none=>rfl
  |some _=>exact (show False from r).elim
 |some _=>cases u with
  |none=>exact (show False from r).elim
  |some _=>rfl
theorem RelO.getD     (r:RelO o u)(rd:RelV d d'):RelV (o.getD d) (u.getD d'):=by
 cases o with
 |none=>cases u with
  |none=>exact rd
  |some _=>exact (show False from r).elim
 |some _=>cases u with
  |none=>exact (show False from r).elim
  |some _=>exact r
theorem KV.val   (r:KV kvs vs)(k:κ):RelO (valV kvs k) (valueAt vs k):=by
 unfold KV at r
 induction r with
 |nil=>exact True.intro
 |@cons p q ps qs h t ih=>
  obtain⟨h1,h2⟩:=h
  by_cases e:p.1=k
  ·have e':q.1=k:=h1.symm.trans e
   have b:valueAt (q::qs) k=some q.2:=by simp[valueAt,xT_,e']
   rw[Kv e,b];exact h2
  ·have e':¬ q.1=k:=fun z=>e (h1.trans z)
   have b:valueAt (q::qs) k=valueAt qs k:=by simp[valueAt,xT_,e']
   rw[Kw e,b];exact ih
theorem KV.any   (r:KV kvs vs)(k:κ):(kvs.any fun kv=>decide (kv.1=k))=vs.any fun kv=>decide (kv.1=k):=by
 unfold KV at r
 induction r with
 |nil=>rfl
 |cons h t ih=>rw[zB_,zB_,ih,h.1]
theorem KV.repl   (r:KV kvs vs)(k:κ)   (ry:RelV y u):
  KV (kvs.map fun kv=>if kv.1=k then (kv.1,y) else kv) (vs.map fun kv=>if kv.1=k then (kv.1,u) else kv):=by
 unfold KV at r ⊢
 induction r with
 |nil=>exact .nil
 |@cons p q ps qs h t ih=>
  rw[j1_,j1_]
  refine .cons ?_ ih
  obtain⟨h1,h2⟩:=h
  by_cases e:p.1=k
  ·rw[if_pos e,if_pos (h1.symm.trans e)];exact⟨h1,ry⟩
  ·rw[if_neg e,if_neg (fun z=>e (h1.trans z))];exact⟨h1,h2⟩
theorem KV.put   (r:KV kvs vs)(k:κ)   (ry:RelV y u):KV (putK kvs k y) (stored vs k u):=by
 unfold putK stored
 rw[r.any k]
 by_cases e:(vs.any fun kv=>decide (kv.1=k))=true
 ·rw[if_pos e,if_pos e];exact r.repl k ry
 ·rw[if_neg e,if_neg e];exact Paired.snoc r ⟨rfl,ry⟩
theorem KV.keys {kvs:List (κ×V)}{vs:List (κ×Value)}(r:KV kvs vs):kvs.map (·.1)=vs.map (·.1):=by
 unfold KV at r
 induction r with
 |nil=>rfl
 |cons h t ih=>rw[j1_,j1_,ih,h.1]
theorem KV.length {kvs:List (κ×V)}{vs:List (κ×Value)}(r:KV kvs vs):kvs.length=vs.length:=Paired.length r
end
theorem Rz     (r:RelV (kV k) u):(BV P w).is k u=true:=by
 cases k with
 |inl i=>obtain⟨t,e⟩:=(show ∃t,u=Value.int i t from r);subst e;exact Rt P w i t
 |inr x=>obtain⟨t,e⟩:=(show ∃t,u=Value.str x t from r);subst e;exact Ru P w x t
theorem P4 {P:Program}{w:World}:∀{ks:List Key} {us:List Value},Vals (ks.map kV) us->ItemsAre (BV P w) ks us
 |[],_,r=>by rw[xR_]at r;cases r;exact .nil
 |k::ks,_,r=>by
  rw[j1_]at r
  cases r with
  |cons h t=>exact .cons (Rz h) (P4 t)
abbrev KT (H:Hp):List (List Key×V)->List (List Key×Addr×Value)->Prop:=Paired fun p q=>p.1=q.1/\H q.2.1=some (.tup (p.1.map kV))/\RelV p.2 q.2.2
theorem KT.val    (r:KT H kvs xs)(k:List Key):RelO (valV kvs k) ((atKey xs k).map (·.2)):=by
 induction r with
 |nil=>exact True.intro
 |@cons p q ps qs h t ih=>
  obtain⟨h1,_,h2⟩:=h
  by_cases e:p.1=k
  ·have e':q.1=k:=h1.symm.trans e
   have b:atKey (q::qs) k=some q.2:=by simp[atKey,xT_,e']
   rw[Kv e,b];exact h2
  ·have e':¬ q.1=k:=fun z=>e (h1.trans z)
   have b:atKey (q::qs) k=atKey qs k:=by simp[atKey,xT_,e']
   rw[Kw e,b];exact ih
theorem KT.repl    (r:KT H kvs xs)(k:List Key)   (ry:RelV y u):
  KT H (kvs.map fun kv=>if kv.1=k then (kv.1,y) else kv) (xs.map (putAt k u)):=by
 induction r with
 |nil=>exact .nil
 |@cons p q ps qs h t ih=>
  rw[j1_,j1_]
  refine .cons ?_ ih
  obtain⟨h1,h2,h3⟩:=h
  unfold putAt
  by_cases e:p.1=k
  ·rw[if_pos e,if_pos (h1.symm.trans e)];exact⟨h1,h2,ry⟩
  ·rw[if_neg e,if_neg (fun z=>e (h1.trans z))];exact⟨h1,h2,h3⟩
theorem KT.put    (r:KT H kvs xs)(k:List Key)    (hb:H b=some (.tup (k.map kV)))(ry:RelV y u):
  KT H (putK kvs k y) (storedH xs k b u):=by
 have e:(kvs.any fun kv=>decide (kv.1=k))=(atKey xs k).isSome:=by
  rw[Fe,(r.val k).isSome_eq,Option.isSome_map]
 unfold putK storedH
 rw[e]
 by_cases q:(atKey xs k).isSome=true
 ·rw[if_pos q,if_pos q];exact r.repl k ry
 ·rw[if_neg q,if_neg q];exact Paired.snoc r ⟨rfl,hb,ry⟩
theorem KT.keeps    (r:KT H kvs xs)(ht:∀b ys,H b=some (.tup ys)->H' b=some (.tup ys)):KT H' kvs xs:=
 Paired.mapP r fun _ _ z=>⟨z.1,ht _ _ z.2.1,z.2.2⟩
section
variable {P:Program} {w:World} {H:Hp} {h:Heap} {a:Addr}
theorem Ay_  (ok:HOk P w H h)(e:Rd H a u):B6 P w H h a u:=e.ok ok
theorem RA  (ok:HOk P w H h)(e:Rd H a (.dK kvs)):kvs.length<=sizeLine/\(a==sysModules)=false/\∃vs,KV kvs vs/\h.DictOf (BV P w) a vs:=
 show B6 P w H h a (.dK kvs) from Ay_ ok e
theorem XX  (ok:HOk P w H h)(e:H a=some (.dK kvs)):kvs.length<=sizeLine/\(a==sysModules)=false/\∃vs,KV kvs vs/\h.DictOf (BV P w) a vs:=RA ok (.inl e)
theorem P5  (ok:HOk P w H h)(e:H a=some (.tup (ks.map kV))):(tupleKind (BV P w)).is h ks a:=by
 obtain⟨_,its,r,o,h1,h2,n,h3⟩:=(show B6 P w H h a (.tup (ks.map kV)) from ok a _ e)
 exact⟨o,its.toArray,n,h1,h2,h3,by simpa using P4 r⟩
theorem Um  (ok:HOk P w H h)(e:Rd H a (.dT kvs)):kvs.length<=sizeLine/\(a==sysModules)=false /\
  ∃xs,KT H kvs xs/\h.DictOfH (tupleKind (BV P w)) a xs:=by
 obtain⟨z,y,xs,r,o,es,ep,h1,h2,h3,h4,h5⟩:=(show B6 P w H h a (.dT kvs) from Ay_ ok e)
 refine⟨z,y,xs,r,o,es,ep,h1,h2,h3,h4,fun x hx=>?_,h5⟩
 have all:∀{l:List (List Key×V)} {m:List (List Key×Addr×Value)},KT H l m->∀x∈m,(tupleKind (BV P w)).is h x.1 x.2.1:=by
  intro l m q
  induction q with
  |nil=>intro x hx;exact nomatch hx
  |@cons p q ps qs hq t ih=>
   intro x hx
   rcases jJ_.mp hx with e|hx
   ·subst e
    exact P5 ok (by rw[<-hq.1];exact hq.2.1)
   ·exact ih x hx
 exact all r x hx
theorem Cd_  (ok:HOk P w H h)(e:H a=some (.dT kvs)):kvs.length<=sizeLine/\(a==sysModules)=false /\
  ∃xs,KT H kvs xs/\h.DictOfH (tupleKind (BV P w)) a xs:=Um ok (.inl e)
end
def DGet (H:Hp)(a:Addr)(y:V)(r:Option V):Prop:=
 (∃kvs k,Rd H a (.dK kvs)/\y=kV k/\r=valV kvs k) \/ ∃kvs k b,Rd H a (.dT kvs)/\y=.ref b/\H b=some (.tup (k.map kV))/\r=valV kvs k
def DPut (H:Hp)(a:Addr)(y v:V)(H':Hp):Prop:=
 (∃kvs k,H a=some (.dK kvs)/\y=kV k/\kvs.length<sizeLine/\H'=upd H a (.dK (putK kvs k v))) \/
 ∃kvs k b,H a=some (.dT kvs)/\y=.ref b/\H b=some (.tup (k.map kV))/\kvs.length<sizeLine/\H'=upd H a (.dT (putK kvs k v))
theorem DGet.k    {k:Key}(e:H a=some (.dK kvs)):DGet H a (kV k) (valV kvs k):=.inl ⟨kvs,k,.inl e,rfl,rfl⟩
theorem DGet.t    {k:List Key}(e:H a=some (.dT kvs))(eb:H b=some (.tup (k.map kV))):DGet H a (.ref b) (valV kvs k):=.inr ⟨kvs,k,b,.inl e,rfl,eb,rfl⟩
theorem DPut.k    {k:Key}  (e:H a=some (.dK kvs))(hl:kvs.length<sizeLine):DPut H a (kV k) v (upd H a (.dK (putK kvs k v))):=.inl ⟨kvs,k,e,rfl,hl,rfl⟩
theorem DPut.t    {k:List Key}  (e:H a=some (.dT kvs))(eb:H b=some (.tup (k.map kV)))(hl:kvs.length<sizeLine):
  DPut H a (.ref b) v (upd H a (.dT (putK kvs k v))):=.inr ⟨kvs,k,b,e,rfl,eb,hl,rfl⟩
section
variable {X:Cx} {pins:α7} {σ:St} {H:Hp} {s:Shared} {a:Addr} {y v:V} {u r:Value} {o:Option V} {A:Around} {E:Value->Shared->Prop}
theorem Inv.big (I:Inv X pins σ H s):sysModules<s.heap.objs.size:=by
 have h:mainGlobals<s.heap.objs.size:=(I.mod.glob.keeps I.bk).lt
 exact xI_ (by decide) h
theorem V6  (hu:A.units+1<cLine)(I:Inv X pins σ H s)(g:DGet H a y (some v))(ry:RelV y u)(h:∀w' s',Inv X pins σ H s'->RelV v w'->Q w' s'):
  wpAny (model X.prog X.w) A (getItem (.ref a) u) Q E s:=by
 rcases g with ⟨kvs,k,e,ey,l⟩|⟨kvs,k,b,e,ey,eb,l⟩
 ·subst ey
  obtain⟨z,hd,vs,rel,dd⟩:=RA I.hok e
  obtain⟨w',hw,dM⟩:=RelO.some_of (v:=v) (o:=valueAt vs k) (by rw[l];exact rel.val k)
  exact wpAny_getItem_of (Rz ry) dd.mapOf hw (h w' _ (I.tok _) dM)
 ·subst ey
  cases (show u=Value.ref b from ry)
  obtain⟨z,hd,xs,rel,dd⟩:=Um I.hok e
  obtain⟨w',hw,dM⟩:=RelO.some_of (v:=v) (o:=(atKey xs k).map (·.2)) (by rw[l];exact rel.val k)
  obtain⟨p,hp,aP⟩:=Option.map_eq_some_iff.mp hw
  refine wpAny_getItem_heap (za_ hu) (P5 I.hok eb) dd hp ?_
  rw[aP]
  exact h w' _ (I.tok _) dM
theorem Az_  (hu:A.units+1<cLine)(I:Inv X pins σ H s)(g:DGet H a y o)(ry:RelV y u)(h:∀s',Inv X pins σ H s'->Q (.bool (!o.isSome)) s'):
  wpAny (model X.prog X.w) A (compareOp .NotIn u (.ref a)) Q E s:=by
 rcases g with ⟨kvs,k,e,ey,l⟩|⟨kvs,k,b,e,ey,eb,l⟩
 ·subst ey
  obtain⟨z,hd,vs,rel,dd⟩:=RA I.hok e
  refine wpAny_notIn_of (Rz ry) hd dd.mapOf ?_
  rw[<-(rel.val k).isSome_eq,<-l]
  exact h _ (I.tok _)
 ·subst ey
  cases (show u=Value.ref b from ry)
  obtain⟨z,hd,xs,rel,dd⟩:=Um I.hok e
  refine wpAny_notIn_heap (za_ hu) (P5 I.hok eb) hd dd ?_
  have q:=(rel.val k).isSome_eq
  rw[Option.isSome_map]at q
  rw[<-q,<-l]
  exact h _ (I.tok _)
theorem Oa    (I:Inv X pins σ H s)(mu:Mut (H a))(hs:Heap.SameBut a s.heap h')(he:∃q,h'.get? a=some q)(new:B6 X.prog X.w (upd H a ob) h' a ob):
  Inv X pins σ (upd H a ob) {s with heap:=h',toks:=t' }:=
 I.write (x:=a) (e:=a) mu (.inl rfl) (fun b q hb z=>(hs.2 b hb).trans z) he new
theorem V7       (z:kvs.length<=sizeLine)(hd:(a==sysModules)=false)(rel:KV kvs vs)(dd:h'.DictOf (BV P w) a vs):
  B6 P w H' h' a (.dK kvs):=⟨z,hd,vs,rel,dd⟩
theorem V8   (hu:A.units+1<cLine)(I:Inv X pins σ H s)(g:DPut H a y v H')(ry:RelV y u)(rv:RelV v r)(h:∀s',Inv X pins σ H' s'->Q () s'):
  wpAny (model X.prog X.w) A (setItem (.ref a) u r) Q E s:=by
 rcases g with ⟨kvs,k,e,ey,l,eH⟩|⟨kvs,k,b,e,ey,eb,l,eH⟩
 ·subst ey eH
  obtain⟨z,hd,vs,rel,dd⟩:=XX I.hok e
  have hz:vs.length<=sizeLine:=by rw[<-rel.length];exact z
  have hl:(putK kvs k v).length<=sizeLine:=by have:=Ff kvs k v;omega
  refine wpAny_setItem_pairs (hsz:=hz) (Rz ry) dd fun h' fH hs=>h _ ?_
  have he:∃q,h'.get? a=some q:=let ⟨q,_,_,hq,_⟩:=fH;⟨q,hq⟩
  exact Oa I (by rw[e];exact True.intro) hs he (V7 hl hd (rel.put k rv) fH)
 ·subst ey eH
  cases (show u=Value.ref b from ry)
  obtain⟨z,hd,xs,rel,dd⟩:=Cd_ I.hok e
  have hz:xs.length<=sizeLine:=by rw[<-Paired.length rel];exact z
  have hl:(putK kvs k v).length<=sizeLine:=by have:=Ff kvs k v;omega
  refine wpAny_setItem_heap (hsz:=hz) (za_ hu) (P5 I.hok eb) dd fun h' fH hs=>h _ ?_
  obtain⟨q,es,ep,hq,h2,h3,h4,_,h5⟩:=fH
  refine Oa I (by rw[e];exact True.intro) hs ⟨q,hq⟩ ⟨hl,hd,_,(rel.put k eb rv).keeps fun c ys ec=>?_,q,es,ep,hq,h2,h3,h4,h5⟩
  rw[Ai (Dv_ ec e (fun z=>nomatch z))]
  exact ec
end
section
variable {X:Cx} {pins:α7} {σ:St} {H:Hp} {s:Shared} {a:Addr} {kvs:List (Key×V)} {k:Key} {u:Value} {A:Around} {E:Value->Shared->Prop}
theorem Dy_  (I:Inv X pins σ H s)(e:Rd H a (.dK kvs))(h:∀t s',Inv X pins σ H s'->Q (.int kvs.length t) s'):wpAny (model X.prog X.w) A (call (.builtin "len") [.ref a]) Q E s:=by
 obtain⟨z,hd,vs,rel,dd⟩:=RA I.hok e
 refine call_len_dict hd dd (by rw[<-rel.length];rw[sizeLine_eq]at z;omega) ?_
 rw[<-rel.length]
 exact h _ _ (I.tok _)
end
def NoSl (i:Expr):Prop:=∀ov iv,subscripted i false ov iv=operate [ov,iv] (getItem ov iv)
theorem AA_         {T id:String}
  (hl:typeLookup (.type T) "__getitem__"=pure (some (.builtin id))) (hs:NoSl slice)
  (h:wpAny (model prog w) A (eval value env) (fun o s₁=>wpAny (model prog w) A (eval slice env) (fun i aT=>aT.TypeIs o T/\wpAny (model prog w) A (getItem o i) Q E aT) E s₁) E s):
  wpAny (model prog w) A (eval (.Subscript value slice pos) env) Q E s:=by
 refine Subscript_ (qu_ h (fun o s₁ h₁=>qu_ h₁ (fun i aT aY=>?_) fun _ _ x=>x) fun _ _ x=>x)
 obtain⟨hT,aY⟩:=aY
 unfold subscriptTail
 refine jc_ ?_
 rw[getitemInPython_of_ne hT.not_modules]
 refine jc_ (wpAny_specialOf hT hl ?_)
 have fin:wpAny (model prog w) A (subscripted slice false o i) (fun r aL=>wpAny (model prog w) A (letTemporaryGo value o r >>= fun _=>pure r) Q E aL) E aT:=by
  rw[hs o i]
  exact wpAny_operating (qu_ aY (fun r aL bq=>jc_ (wpAny_letTemporaryGo (jq_ bq))) fun _ _ x=>x)
 first
  | exact jq_ (jc_ fin)
  | exact jc_ (jq_ (jc_ fin))
  | exact jc_ fin
theorem RC         (I:Inv X pins σ H s)(g:DGet H a y o):s.TypeIs (.ref a) "dict" := by
 rcases g with ⟨kvs,k,e,_,_⟩|⟨kvs,k,b,e,_,_,_⟩
 ·obtain⟨_,_,vs,_,dd⟩:=RA I.hok e
  exact dd.typeIs
 ·obtain⟨_,_,xs,_,dd⟩:=Um I.hok e
  exact dd.typeIs
def Ce_ (td ty:TE):TE:=fun σ H Q=>td σ H fun x H1=>ty σ H1 fun y H2=>∃a v,x=.ref a/\DGet H2 a y (some v)/\Q v H2
def V9 (ty td:TE):TE:=fun σ H Q=>ty σ H fun y H1=>td σ H1 fun x H2=>∃a o,x=.ref a/\DGet H2 a y o/\Q (.bl (!o.isSome)) H2
def Cf_ (td ty tv:TE):TS:=fun D σ H=>tv σ H fun v H1=>td σ H1 fun x H2=>ty σ H2 fun y H3=>∃a H4,x=.ref a/\DPut H3 a y v H4/\D.nx σ H4
section
variable {X:Cx} {o i e value:Expr} {pos pos' hX:Pos} {td ty tv:TE}
theorem Wa (hu:X.A.units+1<cLine)(ho:PE X o td)(hi:PE X i ty)(hs:NoSl i):PE X (.Subscript o i pos) (Ce_ td ty):=by
 intro pins s σ H Q I h
 refine AA_ PySem.F.slot_dict_getitem.lookup hs (thn (ho pins s σ H _ I h) fun u s1 ⟨x,H1,I1,rx,q1⟩=>thn (hi pins s1 σ H1 _ I1 q1) fun iv s2 ⟨y,H2,I2,ry,a,v,ex,g,q2⟩=>?_)
 subst ex
 obtain rfl:u=Value.ref a:=rx
 exact⟨RC I2 g,V6 hu I2 g ry fun w' s3 I3 dM=>⟨v,H2,I3,dM,q2⟩⟩
theorem P6 (hu:X.A.units+1<cLine)(hi:PE X i ty)(ho:PE X o td):PC X .NotIn i o (V9 ty td):=by
 intro pins s σ H Q I h
 refine thn (hi pins s σ H _ I h) fun iv s1 ⟨y,H1,I1,ry,q1⟩=>thn (ho pins s1 σ H1 _ I1 q1) fun u s2 ⟨x,H2,I2,rx,a,ov,ex,g,q2⟩=>?_
 subst ex
 obtain rfl:u=Value.ref a:=rx
 exact Az_ hu I2 g ry fun s3 I3=>⟨.bl (!ov.isSome),H2,I3,rfl,q2⟩
theorem RD (hu:X.A.units+1<cLine)(ho:PE X o td)(hi:PE X i ty)(hv:PE X value tv)(hs:swapsWith value (some (.Subscript o i pos')) pos.line X.env=pure false):
  PS X (.Assign [.Subscript o i pos'] value pos) (Cf_ td ty tv):=by
 intro pins s σ H D I h
 refine wpAny_Assign_Subscript (thn (hv pins s σ H _ I h) fun r s1 ⟨v,H1,I1,rv,q1⟩=>thn (ho pins s1 σ H1 _ I1 q1) fun u s2 ⟨x,H2,I2,rx,q2⟩=>thn (hi pins s2 σ H2 _ I2 q2) fun iv s3 ⟨y,H3,I3,ry,a,H4,ex,g,q3⟩=>?_) hs
 subst ex
 obtain rfl:u=Value.ref a:=rx
 exact V8 hu I3 g ry rv fun s4 I4=>⟨σ,H4,I4,q3⟩
end
theorem Te    (h:Heap)(hb:sysModules<h.objs.size):B6 P w H (h.push {cls:=.type "dict",data:=.dict #[]}) h.objs.size (.dK []):=
 ⟨jZ_ _,zD_.mpr (qv_ (jN_ hb)),[],.nil,Heap.DictOf.new h⟩
theorem XY    (h:Heap)(hb:sysModules<h.objs.size):B6 P w H (h.push {cls:=.type "dict",data:=.dict #[]}) h.objs.size (.dT []):=
 ⟨jZ_ _,zD_.mpr (qv_ (jN_ hb)),[],.nil,_,#[],0,jC_ _ rfl,⟨rfl,rfl,rfl⟩,rfl,rfl,List.nodup_nil⟩
def Wb:TE:=fun _ H Q=>∀p,H p=none->Q (.ref p) (upd H p (.dK []))
def Wc:TE:=fun _ H Q=>∀p,H p=none->Q (.ref p) (upd H p (.dT []))
section
variable {X:Cx} {pos:Pos}
theorem Tf:PE X (.Dict [] [] pos) Wb:=fun pins s σ H Q I h=>
 wpAny_Dict_empty ⟨.ref s.heap.objs.size,_,I.laid (a:=s.heap.objs.size) (o:=.dK []) (t':=s.toks) (fun _ _ q=>jm_ _ q) (jg_ _) (Te s.heap I.big),rfl,h _ (I.hok.fresh (jg_ _))⟩
theorem Tg:PE X (.Dict [] [] pos) Wc:=fun pins s σ H Q I h=>
 wpAny_Dict_empty ⟨.ref s.heap.objs.size,_,I.laid (a:=s.heap.objs.size) (o:=.dT []) (t':=s.toks) (fun _ _ q=>jm_ _ q) (jg_ _) (XY s.heap I.big),rfl,h _ (I.hok.fresh (jg_ _))⟩
end
def KR:List (TE×TE)->St->Hp->(List (V×V)->Hp->Prop)->Prop
 |[],_,H,Q=>Q [] H
 | (tk,tv)::r,σ,H,Q=>tk σ H fun x H1=>tv σ H1 fun y H2=>KR r σ H2 fun ps H3=>Q ((x,y)::ps) H3
abbrev VV:List (V×V)->List (Value×Value)->Prop:=Paired fun p q=>RelV p.1 q.1/\RelV p.2 q.2
def PPs (X:Cx)(pos:Pos)(keys:List (Option Expr))(values:List Expr)(aw:List (TE×TE)):Prop:=
 ∀(pins:α7) (s:Shared) (σ:St) (H:Hp) (Q:List (V×V)->Hp->Prop),Inv X pins σ H s->KR aw σ H Q ->
  wpAny (model X.prog X.w) X.A (evalPairs (pairTrees keys values X.env pos)) (fun vs s'=>∃ps H',Inv X pins σ H' s'/\VV ps vs/\Q ps H') X.xe s
theorem AB_   : PPs X pos [] [] []:=fun pins s σ H Q I h=>pairTrees_nil_walk ⟨[],H,I,.nil,h⟩
theorem XZ        (hk:PE X k tk)(hv:PE X v tv)(hr:PPs X pos ks vs aw):
  PPs X pos (some k::ks) (v::vs) ((tk,tv)::aw):=fun pins s σ H Q I h=>
 pairTrees_cons_walk (thn (hk pins s σ H _ I h) fun u s1 ⟨x,H1,I1,rx,q1⟩=>thn (hv pins s1 σ H1 _ I1 q1) fun w2 s2 ⟨y,H2,I2,ry,q2⟩ =>
  thn (hr pins s2 σ H2 _ I2 q2) fun ws s3 ⟨ps,H3,I3,rel,q3⟩=>⟨(x,y)::ps,H3,I3,.cons ⟨rx,ry⟩ rel,q3⟩)
def Jr (kvs more:List (Key×V)):List (Key×V):=more.foldl (fun acc kv=>putK acc kv.1 kv.2) kvs
theorem KV.merge:∀{more:List (Key×V)} {rs:List (Key×Value)} {kvs:List (Key×V)} {vs:List (Key×Value)},KV more rs->KV kvs vs->KV (Jr kvs more) (merged vs rs):=by
 intro more rs kvs vs r
 unfold KV at r
 induction r generalizing kvs vs with
 |nil=>intro q;exact q
 |@cons p q ps qs h t ih=>
  intro r0
  have e:KV (putK kvs p.1 p.2) (stored vs q.1 q.2):=by
   have:=r0.put p.1 h.2
   rw[<-h.1];exact this
  exact ih e
theorem HR:∀(more kvs:List (Key×V)),(Jr kvs more).length<=kvs.length+more.length
 |[],kvs=>by show kvs.length<=kvs.length+0;omega
 |p::r,kvs=>by
  have h1:=HR r (putK kvs p.1 p.2)
  have h2:=Ff kvs p.1 p.2
  show (Jr (putK kvs p.1 p.2) r).length<=_
  rw[jW_];omega
theorem Nx {P:Program}{w:World}:∀{kvs:List (Key×V)} {ws:List (Value×Value)},VV (kvs.map fun kv=>(kV kv.1,kv.2)) ws->∃rs,Carries (BV P w) ws rs/\KV kvs rs
 |[],_,r=>by rw[xR_]at r;cases r;exact⟨[],True.intro,.nil⟩
 |p::kvs,_,r=>by
  rw[j1_]at r
  cases r with
  |@cons a b as bs h t=>
   obtain⟨rs,c,q⟩:=Nx (P:=P) (w:=w) t
   obtain⟨b1,b2⟩:=b
   exact⟨(p.1,b2)::rs,⟨Rz h.1,rfl,c⟩,.cons ⟨rfl,h.2⟩ q⟩
def AC_ (aw:List (TE×TE)):TE:=fun σ H Q=>∀p,H p=none->KR aw σ (upd H p (.dK [])) fun ps H2=>H2 p=some (.dK [])/\∃kvs:List (Key×V),ps=kvs.map (fun kv=>(kV kv.1,kv.2))/\kvs.length<=15/\Q (.ref p) (upd H2 p (.dK (Jr [] kvs)))
theorem AD_      (h:PPs X pos keys values aw)(ar:keys.all (·.isSome)=true)(hl:keys.length=values.length)(h0:keys ≠ [])
  (h15:keys.length<=15):PE X (.Dict keys values pos) (AC_ aw):=by
 intro pins s σ H Q I q
 have hn:=I.hok.fresh (jg_ s.heap.objs.size)
 have I1:=I.laid (a:=s.heap.objs.size) (o:=.dK []) (h':=s.heap.push {cls:=.type "dict",data:=.dict #[]}) (t':=s.toks) (fun _ _ q=>jm_ _ q) (jg_ _) (Te s.heap I.big)
 refine wpAny_Dict_walk (knd:=BV X.prog X.w) ar hl h0 h15 (thn (h pins _ σ _ _ I1 (q _ hn)) fun ws s2 ⟨ps,H2,I2,rel,e,kvs,ep,lk,q2⟩=>?_)
 subst ep
 obtain⟨rs,c,rk⟩:=Nx (P:=X.prog) (w:=X.w) rel
 obtain⟨z,hd,vs0,r0,dd⟩:=XX I2.hok e
 cases r0
 refine⟨rs,c,dd,fun h' fH hs=>⟨.ref s.heap.objs.size,_,?_,rfl,q2⟩⟩
 have hz:(Jr [] kvs).length<=sizeLine:=by
  have h1:=HR kvs []
  rw[qy_]at h1
  rw[sizeLine_eq];omega
 have he:∃q,h'.get? s.heap.objs.size=some q:=let ⟨q,_,_,hq,_⟩:=fH;⟨q,hq⟩
 exact Oa I2 (by rw[e];exact True.intro) hs he (V7 hz hd (rk.merge .nil) fH)
structure M1 (X:Cx)(o:Expr)(m:Str)(apos:Pos)(e:Expr)(az:Pos):Prop where
 base:attributeBase o m X.env (eval o X.env)=eval o X.env
 few:((backTo az (starEach [e] X.env)).all (fun x => !x.1)&&(backToKw az (keywordEach [] X.env)).all (fun x=>x.1.isSome)
  && decide (([e]:List Expr).length+([]:List Keyword).length+(if ([]:List Keyword).isEmpty then 0 else 1)<30))=true
 line:(apos.endLine==az.line)=true
 trees:backTo az (starEach [e] X.env)=[(false,eval e X.env)]
structure M2 (X:Cx)(o:Expr)(m:Str)(apos:Pos)(e f:Expr)(az:Pos):Prop where
 base:attributeBase o m X.env (eval o X.env)=eval o X.env
 few:((backTo az (starEach [e,f] X.env)).all (fun x => !x.1)&&(backToKw az (keywordEach [] X.env)).all (fun x=>x.1.isSome)
  && decide (([e,f]:List Expr).length+([]:List Keyword).length+(if ([]:List Keyword).isEmpty then 0 else 1)<30))=true
 line:(apos.endLine==az.line)=true
 trees:backTo az (starEach [e,f] X.env)=[(false,eval e X.env),(false,eval f X.env)]
def IsD (H:Hp)(a:Addr):Prop:=(∃kvs,Rd H a (.dK kvs)) \/ ∃kvs,Rd H a (.dT kvs)
theorem Zs       (I:Inv X pins σ H s)(d:IsD H a):
  s.TypeIs (.ref a) "dict" /\ (∀b,Value.ref a=.ref b->∃ob,s.heap.get? b=some ob/\ob.dict=none)/\(a==sysModules)=false:=by
 rcases d with ⟨kvs,e⟩|⟨kvs,e⟩
 ·obtain⟨_,hd,vs,_,dd⟩:=RA I.hok e
  refine⟨dd.typeIs,fun b q=>?_,hd⟩
  cases q
  obtain⟨ob,_,_,h1,h2,_⟩:=dd
  exact⟨ob,h1,h2.2.1⟩
 ·obtain⟨_,hd,xs,_,dd⟩:=Um I.hok e
  refine⟨dd.typeIs,fun b q=>?_,hd⟩
  cases q
  obtain⟨ob,_,_,h1,h2,_⟩:=dd
  exact⟨ob,h1,h2.2.1⟩
section
variable {X:Cx} {pins:α7} {σ:St} {H:Hp} {s:Shared} {a:Addr} {y d:V} {u r:Value} {o:Option V} {A:Around} {E:Value->Shared->Prop}
theorem Cg_  (hu:A.units+1<cLine)(I:Inv X pins σ H s)(g:DGet H a y o)(ry:RelV y u)(h:∀w' s',Inv X pins σ H s'->RelV (o.getD .non) w'->Q w' s'):
  wpAny (model X.prog X.w) A (call (.builtin "dict.get") [.ref a,u]) Q E s:=by
 rcases g with ⟨kvs,k,e,ey,l⟩|⟨kvs,k,b,e,ey,eb,l⟩
 ·subst ey
  obtain⟨z,hd,vs,rel,dd⟩:=RA I.hok e
  refine call_meetsIn zp_ dd.typeIs PySem.F.entry_dict_get (PySem.F.args_dict_get_2 _ _) (meets_dict_get (BV X.prog X.w) a (Rz ry) hd) ⟨_,dd.mapOf,h _ _ (I.tok _) ?_⟩
  rw[l]
  exact (rel.val k).getD rfl
 ·subst ey
  cases (show u=Value.ref b from ry)
  obtain⟨z,hd,xs,rel,dd⟩:=Um I.hok e
  refine call_meetsIn zp_ dd.typeIs PySem.F.entry_dict_get (PySem.F.args_dict_get_2 _ _) (meetsH_dict_get (tupleKind (BV X.prog X.w)) a b hd) ⟨za_ hu,k,xs,P5 I.hok eb,dd,h _ _ (I.tok _) ?_⟩
  rw[l]
  exact (rel.val k).getD rfl
end
def We (td ty:TE):TE:=fun σ H Q=>td σ H fun x H1=>∃a,x=.ref a/\IsD H1 a/\ty σ H1 fun y H2=>∃o,DGet H2 a y o/\Q (o.getD .non) H2
section
variable {X:Cx} {o e f:Expr} {apos az:Pos} {td ty tx:TE}
theorem X0 (hu:X.A.units+1<cLine)(ho:PE X o td)(he:PE X e ty)(m:M1 X o "get" apos e az):PE X (.Call (.Attribute o "get" apos) [e] [] az) (We td ty):=by
 intro pins s σ H Q I h
 refine wpAny_Call_method m.base m.few m.line PySem.F.plainAttrs_dict zp_ PySem.F.type_dict_get (thn (ho pins s σ H _ I h) fun u s1 ⟨x,H1,I1,rx,a,ex,d,q1⟩=>?_)
 subst ex
 obtain rfl:u=Value.ref a:=rx
 obtain⟨t1,t2,_⟩:=Zs I1 d
 refine⟨t1,t2,?_⟩
 rw[m.trees]
 refine zh_ rfl (zz_ (xn_ (thn (he pins s1 σ H1 _ I1 q1) fun iv s2 ⟨y,H2,I2,ry,ov,g,q2⟩=>xV_ ?_)))
 exact Cg_ hu I2 g ry fun w' s3 I3 dM=>⟨_,H2,I3,dM,q2⟩
end
end L2
namespace L2
open PySem PySem.Spec PyProof.Rows
def clOf (env:Env):List (Str×NameKind)->List (Str×Addr)->List (Str×Addr)
 |[],acc=>acc
 | (n,k)::r,acc=>if (k == .free)=true then clOf env r ((n,(env.cells.lookup n).getD 0)::acc) else clOf env r acc
theorem IC   (h:∀p∈scope.names,p.2=.free->∃c,env.cells.lookup p.1=some c):closureFor scope env=pure (clOf env scope.names []):=by
 have go:∀(l:List (Str×NameKind)) (acc:List (Str×Addr)),(∀p∈l,p.2=.free->∃c,env.cells.lookup p.1=some c) ->
   (forIn l acc fun (x:Str×NameKind) (cs:List (Str×Addr))=>(if (x.2 == .free)=true then do let c <- cellOf env x.1;pure (ForInStep.yield ((x.1,c)::cs)) else pure (ForInStep.yield cs):Sem (ForInStep (List (Str×Addr)))))=(pure (clOf env l acc):Sem (List (Str×Addr))):=by
  intro l
  induction l with
  |nil=>intro acc _;rfl
  |cons p r ih=>
   intro acc hl
   obtain⟨n,k⟩:=p
   rw[List.forIn_cons]
   by_cases hk:(k == .free)=true
   ·obtain⟨c,hc⟩:=hl (n,k) jn_ (by simpa using hk)
    have e1:cellOf env n=pure c:=by unfold cellOf;rw[hc]
    have l8:=ih ((n,c)::acc) fun q hq=>hl q (jl_ _ hq)
    show ((if (k == .free)=true then do let c <- cellOf env n;pure (ForInStep.yield ((n,c)::acc)) else pure (ForInStep.yield acc):Sem _) >>= _)=_
    rw[if_pos hk,e1]
    show (forIn r ((n,c)::acc) _:Sem _)=_
    rw[clOf,if_pos hk,hc]
    exact l8
   ·have l8:=ih acc fun q hq=>hl q (jl_ _ hq)
    show ((if (k == .free)=true then do let c <- cellOf env n;pure (ForInStep.yield ((n,c)::acc)) else pure (ForInStep.yield acc):Sem _) >>= _)=_
    rw[if_neg hk]
    show (forIn r acc _:Sem _)=_
    rw[clOf,if_neg hk]
    exact l8
 have e:=go scope.names [] h
 unfold closureFor
 show (forIn scope.names [] _ >>= fun cs=>pure cs:Sem _)=_
 have e2:(forIn scope.names [] (fun (x:Str×NameKind) (r:List (Str×Addr))=>(match x with
   | (name,kind)=>if (kind == .free)=true then do let c <- cellOf env name;pure (ForInStep.yield ((name,c)::r)) else do pure PUnit.unit;pure (ForInStep.yield r):Sem (ForInStep (List (Str×Addr))))))=(pure (clOf env scope.names []):Sem (List (Str×Addr))):=e
 exact jG_ (fun z=>z >>= fun cs=>pure cs) e2
theorem Kx {env:Env}:∀(l:List (Str×NameKind)) (acc:List (Str×Addr)),(∀p∈l,p.2=.free->∃c,env.cells.lookup p.1=some c)->(∀q∈acc,env.cells.lookup q.1=some q.2)->∀q∈clOf env l acc,env.cells.lookup q.1=some q.2
 |[],_,_,ha,q,hq=>ha q hq
 | (n,k)::r,acc,hl,ha,q,hq=>by
  unfold clOf at hq
  by_cases hk:(k == .free)=true
  ·rw[if_pos hk]at hq
   obtain⟨c,hc⟩:=hl (n,k) jn_ (by simpa using hk)
   refine Kx r _ (fun p hp=>hl p (jl_ _ hp)) (fun p hp=>?_) q hq
   rcases jJ_.mp hp with rfl|hp
   ·show env.cells.lookup n=some ((env.cells.lookup n).getD 0)
    rw[hc];rfl
   ·exact ha p hp
  ·rw[if_neg hk]at hq
   exact Kx r _ (fun p hp=>hl p (jl_ _ hp)) ha q hq
theorem GE {env:Env}:∀(l:List (Str×NameKind)) (acc:List (Str×Addr)) (x:Str),((x,NameKind.free)∈l \/ ∃c,(x,c)∈acc)->∃c,(x,c)∈clOf env l acc
 |[],_,_,h=>by
  rcases h with h|h
  ·cases h
  ·exact h
 | (n,k)::r,acc,x,h=>by
  unfold clOf
  by_cases hk:(k == .free)=true
  ·rw[if_pos hk]
   refine GE r _ x ?_
   rcases h with h|⟨c,h⟩
   ·rcases jJ_.mp h with h|h
    ·cases h
     exact .inr ⟨_,jn_⟩
    ·exact .inl h
   ·exact .inr ⟨c,jl_ _ h⟩
  ·rw[if_neg hk]
   refine GE r _ x ?_
   rcases h with h|h
   ·rcases jJ_.mp h with h|h
    ·cases h
     exact absurd rfl hk
    ·exact .inl h
   ·exact .inr h
theorem BA {β:Type}:∀{l:List (Str×β)} {x:Str} {c:β},(x,c)∈l->∃c',l.lookup x=some c'
 |[],_,_,h=>by cases h
 | (n,d)::r,x,c,h=>by
  by_cases hx:(x==n)=true
  ·exact⟨d,by rw[j6_,hx]⟩
  ·rcases jJ_.mp h with h|h
   ·cases h;exact absurd (beq_self_eq_true _) hx
   ·obtain⟨c',e⟩:=BA h
    exact⟨c',by rw[j6_];simp only[Bool.not_eq_true]at hx;rw[hx];exact e⟩
def relF (env:Env):Str×NameKind->Str×NameKind:=fun (n,k)=>if (k==NameKind.free&&env.scope.kind == .function&&env.kindOf n==some .cell) then (n,NameKind.cell) else (n,k)
theorem Ky    (h:(k==NameKind.free&&env.scope.kind == .function&&env.kindOf n==some .cell)=true):relF env (n,k)=(n,.cell):=if_pos h
theorem Ob    (h:¬ (k==NameKind.free&&env.scope.kind == .function&&env.kindOf n==some .cell)=true):relF env (n,k)=(n,k):=if_neg h
theorem FX {env:Env}:∀{names:List (Str×NameKind)} {x:Str} {k:NameKind},(∀y∈names,y.2 ≠ .cell) ->
  (names.map (relF env)).lookup x=some k->(k=.cell\/k=.free)->(x,NameKind.free)∈names
 |[],_,_,_,h,_=>by simp at h
 | (n,k')::r,x,k,hc,h,hk=>by
  have ih := @FX env r x k (fun y hy=>hc y (jl_ _ hy))
  rw[j1_]at h
  by_cases hb:(k'==NameKind.free&&env.scope.kind == .function&&env.kindOf n==some .cell)=true
  ·rw[Ky hb,j6_]at h
   cases hx:x==n with
   |true=>
    have e:x=n:=by simpa using hx
    subst e
    have e2:k'=.free:=by
     simp only[qb_]at hb
     simpa using hb.1.1
    subst e2
    exact jn_
   |false=>
    rw[hx]at h
    exact jl_ _ (ih h hk)
  ·rw[Ob hb,j6_]at h
   cases hx:x==n with
   |true=>
    rw[hx]at h
    have e:x=n:=by simpa using hx
    subst e
    have e2:k'=k:=jp_ h
    subst e2
    rcases hk with rfl|rfl
    ·exact absurd rfl (hc _ jn_)
    ·exact jn_
   |false=>
    rw[hx]at h
    exact jl_ _ (ih h hk)
theorem FY {env:Env}:∀{names:List (Str×NameKind)} {x:Str},names.lookup x=some .free ->
  ∃k,(k=NameKind.cell\/k=NameKind.free)/\(names.map (relF env)).lookup x=some k
 |[],_,h=>by simp at h
 | (n,k')::r,x,h=>by
  have ih := @FY env r x
  rw[j6_]at h
  rw[j1_]
  cases hx:x==n with
  |true=>
   rw[hx]at h
   have e2:k'=.free:=jp_ h
   subst e2
   by_cases hb:((NameKind.free:NameKind)==NameKind.free&&env.scope.kind == .function&&env.kindOf n==some .cell)=true
   ·exact⟨.cell,.inl rfl,by rw[Ky hb,j6_,hx]⟩
   ·exact⟨.free,.inr rfl,by rw[Ob hb,j6_,hx]⟩
  |false=>
   rw[hx]at h
   obtain⟨k,hk,e⟩:=ih h
   refine⟨k,hk,?_⟩
   by_cases hb:(k'==NameKind.free&&env.scope.kind == .function&&env.kindOf n==some .cell)=true
   ·rw[Ky hb,j6_,hx];exact e
   ·rw[Ob hb,j6_,hx];exact e
end L2
namespace L2
open PySem PySem.Spec PyProof.Rows
section
variable {prog:Program} {w:World} {A:Around} {R:Result->Shared->Prop} {s:Shared}
theorem Js {elt target iter:Expr}      (I:Nat->Shared->Prop)
  (turn:∀n s,I n s->wpAny (model prog w) A (pyNext it) (fun r s₁=>match r with
   |none=>R (.ok .next) s₁
   |some v=>wpAny (model prog w) A (letOwnedTupleGo target it v) (fun _ s₁'=>wpAny (model prog w) A (assign target env v) (fun _ aT=>
     wpAny (model prog w) A (forIn ifs true fun c r=>if r=true then do let ok <- isTrue c env (eval c env);pure (ForInStep.yield ok) else pure (ForInStep.yield r)) (fun ok aL=>
      if ok=true then wpAny (model prog w) A (eval elt env) (fun x dN=>
       wpAny (model prog w) A (call (.builtin "list.append") [acc,x]) (fun _ s₅=>∃m,m<n/\I m s₅) (notedBy (model prog w) A env fun e s'=>R (.error e) s') dN) (notedBy (model prog w) A env fun e s'=>R (.error e) s') aL
      else ∃m,m<n/\I m aL) (notedBy (model prog w) A env fun e s'=>R (.error e) s') aT) (notedBy (model prog w) A env fun e s'=>R (.error e) s') s₁') (notedBy (model prog w) A env fun e s'=>R (.error e) s') s₁) (notedBy (model prog w) A env fun e s'=>R (.error e) s') s)
  (n:Nat) (h:I n s):
  codeAny (model prog w) A (.compLoop (.ListComp elt [⟨target,iter,ifs,0⟩] scope pos) 0 it acc env) R s:=by
 refine codeAny_loop rfl I (fun n s hI=>?_) n h
 show wpAny _ A ((compTurn (.ListComp elt [⟨target,iter,ifs,0⟩] scope pos) 0 it acc env).onRaise (fun x=>do noteFrame x env;theTreesLotGoes x)) _ _ s
 refine wpAny_noted ?_
 rw[compTurn_list]
 refine jc_ (wpAny_standAt (jc_ (qu_ (turn n s hI) (fun r s₁ h₁=>?_) fun _ _ h'=>h')))
 cases r with
 |none=>exact jq_ h₁
 |some v=>
  refine jc_ (qu_ h₁ (fun _ s₁' h₁'=>?_) fun _ _ h'=>h')
  refine jc_ (qu_ h₁' (fun _ aT aY=>jc_ (qu_ aY (fun ok aL bq=>?_) fun _ _ h'=>h')) fun _ _ h'=>h')
  cases ok with
  |false=>exact jq_ ⟨rfl,bq⟩
  |true=>
   exact jc_ (jc_ (qu_ bq (fun x dN h₄=>jc_ (qu_ h₄ (fun _ s₅ h₅=>jq_ (jq_ ⟨rfl,h₅⟩)) fun _ _ h'=>h')) fun _ _ h'=>h'))
end
abbrev Cx.blk (X:Cx)(N:List Str)(sc:Scope)(C:Addr)(s₀:Shared)(H₀:Hp)(ex:List Addr):Cx:=
 {X with N:=N,env:=compEnvC sc (clOf X.env sc.names []) C X.env,outer:=X.stack,s₀:=s₀,H₀:=H₀,ex:=ex,fn:=fun _=>false,pn:=[],xe:=fun _ _=>False}
structure BlkSc (X:Cx)(sc:Scope):Prop where
 kind:sc.kind=.function
 nocell:∀y∈sc.names,y.2 ≠ .cell
 loc:∀y∈sc.names,y.2=.local->sc.names.lookup y.1=some .local
 free:∀y∈sc.names,y.2=.free->X.env.kindOf y.1=some .cell\/X.env.kindOf y.1=some .free
abbrev Caps:=List (Str×Option Nat)
def Caps.names (c:Caps):List Str:=c.map (·.1)
def Caps.st (c:Caps)(σ:St):St:=c.map fun p=>p.2.bind fun j=>(σ[j]?).join
def D3 (N:List Str)(sc:Scope):Caps->Prop
 |[]=>True
 | (_,none)::r=>D3 N sc r
 | (x,some j)::r=>(N[j]?=some x/\sc.names.lookup x=some .free)/\D3 N sc r
theorem D3.get {N:List Str}{sc:Scope}:∀{c:Caps} {i:Nat} {x:Str} {j:Nat},D3 N sc c->c[i]?=some (x,some j)->N[j]?=some x/\sc.names.lookup x=some .free
 |[],_,_,_,_,h=>by simp at h
 | (y,none)::r,0,x,j,_,h=>by simp at h
 | (y,none)::r,i+1,x,j,ok,h=>D3.get (c:=r) (i:=i) ok (by simpa using h)
 | (y,some k)::r,0,x,j,ok,h=>by
  simp only[zb_,zj_,Prod.mk.injEq]at h
  obtain⟨rfl,rfl⟩:=h
  exact ok.1
 | (y,some k)::r,i+1,x,j,ok,h=>D3.get (c:=r) (i:=i) ok.2 (by simpa using h)
section
variable {X:Cx} {pins:α7} {σ:St} {H:Hp} {s:Shared} {sc:Scope} {fp:List Addr}
theorem KS (I:Inv X pins σ H s)(S:BlkSc X sc):∀p∈sc.names,p.2=.free->∃c,X.env.cells.lookup p.1=some c:=fun p hp e=>I.ok.has p.1 (S.free p hp e)
theorem C8 (I:Inv X pins σ H s)(S:BlkSc X sc)   (h:(clOf X.env sc.names []).lookup x=some c):X.env.cells.lookup x=some c:=
 Kx sc.names [] (KS I S) (fun q hq=>by cases hq) (x,c) (qf_ h)
theorem Ch_ {N:List Str}{C:Addr}(I:Inv X pins σ H s)(S:BlkSc X sc)(hC:s.heap.objs.size<=C)(hf:∀b∈fp,FpOk X pins H b)(ho:∀b∈fp,∃o,s.heap.get? b=some o):(X.blk N sc C s H fp).Ok where
 mod:=I.ok.mod
 kind:=S.kind
 glob:=I.ok.glob
 blt:=I.ok.blt
 above:=hC
 inj:=fun x y c h1 h2=>I.ok.inj x y c (C8 I S h1) (C8 I S h2)
 has:=fun x hx=>by
  have dO:(x,NameKind.free)∈sc.names:=by
   rcases hx with hx|hx
   ·exact FX (env:=X.env) S.nocell hx (.inl rfl)
   ·exact FX (env:=X.env) S.nocell hx (.inr rfl)
  obtain⟨c,hc⟩:=GE (env:=X.env) sc.names [] x (.inl dO)
  exact BA hc
 cab:=fun x c h=>absurd (show false=true from h) jr_
 hd:=I.ok.hd
 frames:=I.ok.frames
 stk:=.inl rfl
 exf:=fun b hb=>by
  obtain⟨o,ho⟩:=ho b hb
  refine⟨jN_ (jx_ (jt_ ho) hC),fun x c h=>(hf b hb).2.2.2.2.1 x c (C8 I S h)⟩
 bs:=I.bs
 bsz:=qm_ I.ok.bsz I.sz
 noex:=fun b o e hb=>by
  rcases (hf b hb).2.2.2.1 with z|z
  ·exact I.ok.noex b o e z
  ·exact absurd (jx_ (jt_ (I.ok.bs b o e).1) z) (j7_ _)
 exfs:=fun b hb z=>by
  rcases jJ_.mp (I.stkSub b z) with e|e
  ·exact (hf b hb).2.1 e
  ·exact (hf b hb).2.2.1 e
 funs:=I.stack
 frf:=I.stkFree
theorem Wg {c:Caps}{C:Addr}{s4:Shared}{m:Str->α5}(I:Inv X pins σ H s)(S:BlkSc X sc)(hc:D3 X.N sc c)(hC:s.heap.objs.size<=C)(hf:∀b∈fp,FpOk X pins H b)(ho:∀b∈fp,∃o,s.heap.get? b=some o)
  (cL:s4.os=s.os) (hb:s4.gens=s.gens) (hk:∀b o,s.heap.get? b=some o->s4.heap.get? b=some o) (hn:s4.heap.Ns C m):Inv (X.blk c.names sc C s H fp) [] (c.st σ) H s4 where
 ok:=Ch_ I S hC hf ho
 os:=cL
 bare:=by rw[hb];exact I.bare
 base:=Un.kept hk
 loc:=by
  refine⟨m,hn,fun i x v h1 h2 hv=>?_⟩
  have eT:(c.map (·.1))[i]?=some x:=h1
  have fI:(c.map fun p=>p.2.bind fun j=>(σ[j]?).join)[i]?=some (some v):=h2
  rw[je_]at eT fI
  cases e:c[i]? with
  |none=>rw[e]at eT;cases eT
  |some p=>
   obtain⟨y,oj⟩:=p
   rw[e]at eT fI
   have e1:y=x:=jp_ eT
   subst e1
   have e2:(oj.bind fun j=>(σ[j]?).join)=some v:=jp_ fI
   cases oj with
   |none=>cases e2
   |some j=>
    have e3:(σ[j]?).join=some v:=e2
    have e4:σ[j]?=some (some v):=by
     cases q:σ[j]? with
     |none=>rw[q]at e3;cases e3
     |some z=>rw[q]at e3;exact jG_ some e3
    obtain⟨k1,k2⟩:=D3.get hc e
    have k3:X.env.kindOf y=some .cell\/X.env.kindOf y=some .free:=S.free (y,.free) (qf_ k2) rfl
    have jO:Vis X.env.scope y:=by
     rcases k3 with k|k
     ·exact .inr (.inl k)
     ·exact .inr (.inr k)
    obtain⟨mX,hnX,hl⟩:=I.loc
    obtain⟨u,r,l⟩:=hl j y v k1 e4 jO
    refine⟨u,r,?_⟩
    rcases l with ⟨k,_⟩|⟨_,ca,l9,z⟩
    ·rcases k3 with k' | k'<;>(rw[k]at k';cases k')
    ·obtain⟨kd,jW,ek⟩:=FY (env:=X.env) k2
     have eU:(compEnvC sc (clOf X.env sc.names []) C X.env).kindOf y=some kd:=ek
     obtain⟨c',gG⟩:=GE (env:=X.env) sc.names [] y (.inl (qf_ k2))
     obtain⟨c2,bO⟩:=BA gG
     have e5:=C8 I S bO
     rw[l9]at e5
     have e6:ca=c2:=jp_ e5
     subst e6
     refine .inr ⟨?_,ca,bO,?_⟩
     ·rcases jW with rfl|rfl
      ·exact .inl eU
      ·exact .inr eU
     ·obtain⟨oc,cS,hd⟩:=z
      exact⟨oc,hk _ _ cS,hd⟩
 cell:=fun x ca h=>by
  obtain⟨v,oc,cS,hd⟩:=I.cell x ca (C8 I S h)
  exact⟨v,oc,hk _ _ cS,hd⟩
 free:=I.hok.fresh hC
 freeC:=fun x ca h=>I.freeC x ca (C8 I S h)
 pin:=fun p hp=>absurd (show p∈([]:α7) from hp) (by simp)
 hok:=I.hok.kept hk
 len:=by show (c.map _).length=(c.map _).length;rw[ja_,ja_]
theorem HOk.track       (x:HOk P w H h)(hn:H a=none)(new:B6 P w (upd H a o) h a o):HOk P w (upd H a o) h:=fun b u e=>by
 by_cases hb:b=a
 ·subst hb;rw[Ab]at e;cases e;exact new
 ·rw[Ai hb]at e
  exact (x b u e).stay (fun c v _ q=>q) (fun c q=>by rw[Ai (AA q hn)];exact q) fun c xs q=>by rw[Ai (AA q hn)];exact q
theorem Un.track {fs ex:List Addr}{H H':Hp}{h h':Heap}{a:Addr}{o:HO}(u:Un fs ex H H' h h')(ha:h.objs.size<=a)(hn:H' a=none):Un fs ex H (upd H' a o) h h' where
 keep:=u.keep
 slot:=u.slot
 free:=fun b ob q n hx=>by rw[Ai (jN_ (jx_ (jt_ q) ha))];exact u.free b ob q n hx
 there:=u.there
 tups:=fun b xs q=>by rw[Ai (AA (u.tups b xs q) hn)];exact u.tups b xs q
 frzs:=fun b ob xs q=>by rw[Ai (AA (u.frzs b ob xs q) hn)];exact u.frzs b ob xs q
 tbls:=fun b ps q=>by
  obtain⟨more,e⟩:=u.tbls b ps q
  exact⟨more,by rw[Ai (AA e hn)];exact e⟩
theorem AE_ {c:Caps}{C D:Addr}{s':Shared}{ae:St}{H':Hp}{o:HO}(I:Inv X pins σ H s)(J:Inv (X.blk c.names sc C s H fp) [] ae H' s')(hf:∀b∈fp,FpOk X pins H b)(hD:s.heap.objs.size<=D)(hn:H' D=none)
  (new:B6 X.prog X.w (upd H' D o) s'.heap D o):Inv X pins σ (upd H' D o) s':=by
 have u:Un (frs X.stack) fp H H' s.heap s'.heap:=J.base
 exact I.call' J.os (u.track hD hn) (J.hok.track hn new) J.bare fun b hb=>⟨(hf b hb).2.2.2.1,(hf b hb).2.1,(hf b hb).2.2.2.2.1,(hf b hb).2.2.2.2.2⟩
end
def PF (X:Cx)(ifs:List Expr)(t:TT):Prop:=
 ∀(pins:α7) (s:Shared) (σ:St) (H:Hp) (Q:Bool->Hp->Prop),Inv X pins σ H s->t σ H Q ->
  wpAny (model X.prog X.w) X.A (forIn ifs true fun c r=>if r=true then do let ok <- isTrue c X.env (eval c X.env);pure (ForInStep.yield ok) else pure (ForInStep.yield r)) (TP X pins σ Q) X.xe s
def Uo:TT:=fun _ H Q=>Q true H
theorem B8  : PF X [] Uo:=fun _ _ _ H _ I h=>wpAny_tests_nil ⟨H,I,h⟩
theorem Zt    (h:PT X c t):PF X [c] t:=fun pins s σ H Q I hw=>wpAny_tests_one (h pins s σ H Q I hw)
def X1 (wi:TI)(cp:Caps)(g:TG)(tc:TT)(te:TE):TE:=fun σ H Q=>wi σ H fun J H1=>∃W:Nat->Nat->List V->St->Hp->Prop,(∃m,W 0 m [] (cp.st σ) H1)/\∀i m ys ae H',W i m ys ae H' ->
 ys.length<sizeLine/\((J.stop i H'/\∀D,H' D=none->Q (.ref D) (upd H' D (.lst ys)))\/(J.go i H'/\∃N:List V->St->Hp->Prop,(∀zs af H2,N zs af H2->∃m',m'<m/\W (i+1) m' zs af H2)/\∀x H2,J.yld i H' x H2->g x ae H2 fun af H3=>tc af H3 fun b H4=>
  if b=true then te af H4 fun v H5=>N (ys++[v]) af H5 else N ys af H4))
section
variable {X:Cx} {tg iter elt:Expr} {ifs:List Expr} {sc:Scope} {pos:Pos} {wi:TI} {cp:Caps} {g:TG} {tc:TT} {te:TE}
theorem P7 (hc:X.calm=true)(S:BlkSc X sc)(fU:D3 X.N sc cp)
  (hg:∀C s₀ H₀ ex,PG (X.blk cp.names sc C s₀ H₀ ex) tg g) (hf:∀C s₀ H₀ ex,PF (X.blk cp.names sc C s₀ H₀ ex) ifs tc) (he:∀C s₀ H₀ ex,PE (X.blk cp.names sc C s₀ H₀ ex) elt te)
  {pins:α7} {σ:St} {H:Hp} {s:Shared} {J:It} {it:Addr} {fp:List Addr} {tn:Nat->Heap->Prop} {Q:VK} {RR:Value->Addr->Result->Shared->Prop} {E:Value->Shared->Prop}
  (I:Inv X pins σ H s) (T:Turn X.prog X.w X.K tg J fp it tn) (st:tn 0 s.heap) (dP:∀b∈fp,FpOk X pins H b)
  (hw:∃W:Nat->Nat->List V->St->Hp->Prop,(∃m,W 0 m [] (cp.st σ) H)/\∀i m ys ae H',W i m ys ae H' ->
   ys.length<sizeLine/\((J.stop i H'/\∀D,H' D=none->Q (.ref D) (upd H' D (.lst ys)))\/(J.go i H'/\∃N:List V->St->Hp->Prop,(∀zs af H2,N zs af H2->∃m',m'<m/\W (i+1) m' zs af H2)/\∀x H2,J.yld i H' x H2->g x ae H2 fun af H3=>tc af H3 fun b H4=>
    if b=true then te af H4 fun v H5=>N (ys++[v]) af H5 else N ys af H4)))
  (hR:∀D C s' H' (m:Str->α5),Inv X pins σ H' s'->Q (.ref D) H'->s'.heap.Ns C m->H' C=none->C≠X.env.locals->X.s₀.heap.objs.size<=C->(∀x c,X.env.cells.lookup x=some c->c≠C)->(∀p∈X.pn++pins,p.1≠C)->RR (.ref D) C (.ok .next) s'):
  wpAny (model X.prog X.w) X.A (newList []) (fun acc aL=>wpAny (model X.prog X.w) X.A (newFunctionEnv sc X.env.globals (clOf X.env sc.names []) [] X.env.qual none .none (some X.env)) (fun eV dN=>
   codeAny (model X.prog X.w) X.A (.compStart (.ListComp elt [⟨tg,iter,ifs,0⟩] sc pos) 0 (.ref it) acc {eV with scope:=relabel sc X.env}) (RR acc eV.locals) dN) E aL) E s:=by
 obtain⟨W,⟨m0,w0⟩,turn⟩:=hw
 refine qz_ (wpAny_newFunctionEnv S.nocell (by intro y hy;simp at hy) (fun h₁ bA bY=>?_) S.kind)
 dsimp only at bA bY ⊢
 generalize hZ:s.heap.push {cls:=.type "list",dict:=none,data:=.seq ([]:List Value).toArray}=H2 at bA bY ⊢
 have hC:H2.objs.size=s.heap.objs.size+1:=by rw[<-hZ,qR_]
 have gJ:s.heap.objs.size≠H2.objs.size:=by rw[hC];exact jN_ (zt_ _)
 have a9:s.heap.objs.size<=H2.objs.size:=by rw[hC];exact z0_ _
 have below:∀b,b<s.heap.objs.size->b≠H2.objs.size:=fun b hb=>by rw[hC];exact jN_ (xi_ hb)
 have old:∀b o,s.heap.get? b=some o->h₁.get? b=some o:=fun b o e=>bY.extBut b o (below b (jt_ e)) (jm_ _ (hZ ▸ jm_ _ e))
 have aF:h₁.get? s.heap.objs.size=some {cls:=.type "list",data:=.seq ([]:List Value).toArray 0}:=bY.extBut _ _ gJ (jm_ _ (hZ ▸ jC_ _ rfl))
 have bB:tn 0 h₁:=T.keep 0 _ _ st fun b _ o e=>old b o e
 have a8:∀b∈fp,∃o,s.heap.get? b=some o:=fun b hb=>let ⟨o,e,_⟩:=T.obj 0 _ st b hb;⟨o,e⟩
 have J0:Inv (X.blk cp.names sc H2.objs.size s H fp) [] (cp.st σ) H {s with heap:=h₁,toks:=s.toks+([]:List (Str×Value)).length}:=Wg I S fU a9 dP a8 rfl rfl old bA
 have md:∀b,s.heap.objs.size<=b->b∉frs X.stack:=fun b hb z=>by
  rcases jJ_.mp (I.stkSub b z) with e|e
  ·exact absurd (jx_ I.lt (by rw[<-e];exact hb)) (j7_ _)
  ·exact I.nofs hb e
 have cE:∀b,s.heap.objs.size<=b->∀x c,X.env.cells.lookup x=some c->c≠b:=fun b hb x c e z=>by
  obtain⟨v,q⟩:=I.cell x c e
  exact absurd (jx_ q.lt (by rw[z];exact hb)) (j7_ _)
 have jX:∀{aQ:α7} {H':Hp},(∀b∈fp,H' b=none)->(∀p∈aQ,p.1∉fp)->∀b∈fp,FpOk (X.blk cp.names sc H2.objs.size s H fp) aQ H' b:=fun {aQ H'} hn hp b hb=>by
  obtain⟨o,e⟩:=a8 b hb
  refine⟨hn b hb,below b (jt_ e),fun z=>?_,.inl hb,fun x c h=>(dP b hb).2.2.2.2.1 x c (C8 I S h),fun p jj z=>?_⟩
  ·rcases jJ_.mp (I.stkSub b z) with e|e
   ·exact (dP b hb).2.1 e
   ·exact (dP b hb).2.2.1 e
  ·have h8:p∈aQ:=by simpa using jj
   exact hp p h8 (by rw[z];exact hb)
 have loop:∀aL:Shared,aL={s with heap:=h₁,toks:=s.toks+([]:List (Str×Value)).length} ->
   codeAny (model X.prog X.w) X.A (.compLoop (.ListComp elt [⟨tg,iter,ifs,0⟩] sc pos) 0 (.ref it) (.ref s.heap.objs.size) (compEnvC sc (clOf X.env sc.names []) H2.objs.size X.env))
    (RR (.ref s.heap.objs.size) H2.objs.size) aL:=by
  rintro aL rfl
  refine Js (fun n s'=>∃i ae H' ys its k,Inv (X.blk cp.names sc H2.objs.size s H fp) [] ae H' s'/\tn i s'.heap/\(∀b∈fp,H' b=none)/\H' s.heap.objs.size=none /\
   s'.heap.get? s.heap.objs.size=some {cls:=.type "list",data:=.seq its.toArray k}/\Vals ys its/\W i n ys ae H') ?_ m0
   ⟨0,_,H,[],[],0,J0,bB,fun b hb=>(dP b hb).1,I.hok.fresh (jg_ _),aF,.nil,w0⟩
  rintro n s3 ⟨i,av,H3,ys,its,k,I3,cK,jg,mf,e3,rv,w3⟩
  obtain⟨hz,tr⟩:=turn i n ys av H3 w3
  have hlen:=rv.length
  -- l4 accumulator stands still while anything else runs
  have eX:∀p ∈ [(s.heap.objs.size,({cls:=.type "list",data:=.seq its.toArray k}:Obj))],p.1∉fp:=fun p hp z=>by
   have e:p=_:=js_.mp hp
   subst e
   obtain⟨o,e⟩:=a8 _ z
   exact absurd (jt_ e) (j7_ _)
  have jY:Inv (X.blk cp.names sc H2.objs.size s H fp) [(s.heap.objs.size,({cls:=.type "list",data:=.seq its.toArray k}:Obj))] av H3 s3:=I3.pins_of fun p hp=>by
   have e:p=_:=js_.mp hp
   subst e
   exact⟨e3,mf,gJ,md _ (jg_ _),fun v z=>by cases z⟩
  have bV:∀b∈fp,FpOk (X.blk cp.names sc H2.objs.size s H fp) [(s.heap.objs.size,({cls:=.type "list",data:=.seq its.toArray k}:Obj))] H3 b:=jX jg eX
  rcases tr with ⟨stop,qn⟩|⟨go,N,hN,step⟩
  ·refine thn (T.done (X.blk cp.names sc H2.objs.size s H fp) rfl rfl rfl hc i _ s3 av H3 _ jY bV cK stop) fun r s4 ⟨hr,I4⟩=>?_
   subst hr
   obtain⟨e4,n4,_⟩:=I4.pin (s.heap.objs.size,({cls:=.type "list",data:=.seq its.toArray k}:Obj)) (by simp)
   have new:B6 X.prog X.w (upd H3 s.heap.objs.size (.lst ys)) s4.heap s.heap.objs.size (.lst ys):=⟨x4_ hz,its,k,rv,e4⟩
   obtain⟨mC,mh,_⟩:=I4.loc
   have mj:Inv (X.blk cp.names sc H2.objs.size s H fp) [] av H3 s4:=I4.pins_of fun p hp=>by cases hp
   have I5:=AE_ I mj dP (jg_ _) n4 new
   refine hR _ _ s4 _ mC I5 (qn _ n4) mh ?_ (qn_ (jx_ I.lt a9)) (qm_ I.sz a9) (cE _ a9) fun p hp z=>?_
   ·rw[Ai (qv_ gJ)];exact I4.free
   ·exact absurd (jx_ (jt_ (I.pin p hp).1) (by rw[z];exact a9)) (j7_ _)
  ·refine thn (T.item (X.blk cp.names sc H2.objs.size s H fp) rfl rfl rfl hc i _ s3 av H3 _ jY bV cK go) fun r s4 ⟨u,hr,h4⟩=>?_
   subst hr
   refine thn h4 fun _ s5 ⟨x,H5,I5,r5,y5,aS,jQ⟩=>?_
   have jR:=I5.pinned (jX jQ eX) (T.obj _ _ aS)
   have fin:∀{cn:St} {H7:Hp} {s7:Shared},Inv (X.blk cp.names sc H2.objs.size s H fp) ([(s.heap.objs.size,({cls:=.type "list",data:=.seq its.toArray k}:Obj))]++Nv fp s5.heap) cn H7 s7 ->
     s7.heap.get? s.heap.objs.size=some {cls:=.type "list",data:=.seq its.toArray k}/\H7 s.heap.objs.size=none/\(∀b∈fp,H7 b=none)/\∀b∈fp,∀o,s5.heap.get? b=some o->s7.heap.get? b=some o:=fun {cn H7 s7} I7=>by
    obtain⟨e7,n7,_⟩:=I7.pin (s.heap.objs.size,({cls:=.type "list",data:=.seq its.toArray k}:Obj)) (by simp)
    refine⟨e7,n7,fun b hb=>?_,fun b hb o e=>?_⟩
    ·obtain⟨o,e,_⟩:=T.obj _ _ aS b hb
     exact (I7.pin (b,o) (jw_ _ (jw_ _ (DS hb e)))).2.1
    ·exact (I7.pin (b,o) (jw_ _ (jw_ _ (DS hb e)))).1
   refine qu_ (hg _ _ _ _ _ s5 av H5 x u _ jR r5 (step x H5 y5)) (fun _ s6 ⟨cB,H6,I6,q6⟩=>?_) fun _ _ z=>False.elim z
   refine qu_ (hf _ _ _ _ _ s6 cB H6 _ I6 q6) (fun ok s7 ⟨H7,I7,q7⟩=>?_) fun _ _ z=>False.elim z
   cases ok with
   |false=>
    rw[if_neg jr_]
    rw[if_neg jr_]at q7
    obtain⟨m',hm,w7⟩:=hN _ _ _ q7
    obtain⟨e7,n7,mn,k7⟩:=fin I7
    exact⟨m',hm,i+1,cB,H7,ys,its,k,I7.pins_of (fun p hp=>by cases hp),T.keep _ _ _ aS k7,mn,n7,e7,rv,w7⟩
   |true=>
    rw[if_pos rfl]
    rw[if_pos rfl]at q7
    refine qu_ (he _ _ _ _ _ s7 cB H7 _ I7 q7) (fun v s8 ⟨y,H8,I8,r8,q8⟩=>?_) fun _ _ z=>False.elim z
    obtain⟨m',hm,w8⟩:=hN _ _ _ q8
    obtain⟨e8,n8,mq,k8⟩:=fin I8
    refine xC_ F.slot_list_append ⟨_,e8,rfl⟩ F.entry_list_append (zA_ _ _) (zV_ s.heap.objs.size its.toArray k v (by rw[jk_];omega)) ⟨e8,?_⟩
    obtain⟨k',q⟩:∃k',(s8.heap.update s.heap.objs.size (Obj.mapSeq fun x=>x.push v)).get? s.heap.objs.size=some {cls:=.type "list",data:=.seq (its++[v]).toArray k' }:=⟨_,by
     have q:=x1_ e8 fun x=>x.push v
     have e:(its++[v]).toArray=its.toArray.push v:=by simp
     rw[e]
     exact q⟩
    have I8':Inv (X.blk cp.names sc H2.objs.size s H fp) [] cB H8 s8:=I8.pins_of fun p hp=>by cases hp
    have I9:Inv (X.blk cp.names sc H2.objs.size s H fp) [] cB H8 {s8 with heap:=s8.heap.update s.heap.objs.size (Obj.mapSeq fun x=>x.push v),toks:=s8.toks}:=
     I8'.turned (it:=s.heap.objs.size) (fun b o hb e=>(j5_ _ _ (qv_ hb)).trans e) n8 gJ (.inr (jg_ _)) (fun x c e=>cE _ (jg_ _) x c (C8 I S e)) (fun p hp=>by cases hp)
    refine⟨m',hm,i+1,cB,H8,ys++[y],its++[v],k',I9,T.keep (i+1) s5.heap _ aS (fun b hb o e=>?_),mq,n8,q,rv.append (.cons r8 .nil),w8⟩
    ·refine (j5_ _ _ ?_).trans (k8 b hb o e)
     intro z
     obtain⟨ob,eb⟩:=a8 b hb
     exact absurd (jt_ eb) (by rw[<-z];exact j7_ _)
 exact codeAny_compStart_list (loop _ rfl) (T.self _ 0 _ _ _ bB (loop _ rfl))
theorem BX (hc:X.calm=true)(S:BlkSc X sc)(fU:D3 X.N sc cp)(hi:PI X tg iter wi)
  (hg:∀C s₀ H₀ ex,PG (X.blk cp.names sc C s₀ H₀ ex) tg g) (hf:∀C s₀ H₀ ex,PF (X.blk cp.names sc C s₀ H₀ ex) ifs tc) (he:∀C s₀ H₀ ex,PE (X.blk cp.names sc C s₀ H₀ ex) elt te)
  (hs:∀x,foldedSetIterable iter X.env x=pure x:=by intro _;rfl):PE X (.ListComp elt [⟨tg,iter,ifs,0⟩] sc pos) (X1 wi cp g tc te):=by
 intro pins s σ H Q I h
 rw[eval_ListComp]
 refine x6_ (use:=none) rfl hs (IC (KS I S)) S.kind S.loc (thn (hi pins s σ H _ I h) fun xv s₁ h₁=>thn h₁ fun jP aT aY=>?_)
 obtain⟨it,fp,tn,J,H2,e,I2,T,aJ,f2,hw⟩:=aY
 subst e
 refine P7 (RR:=fun acc C=>compPost (model X.prog X.w) X.A X.xe none (EP X pins σ Q) acc C) hc S fU hg hf he I2 T aJ f2 hw ?_
 intro D C s' H' m I' q hn hC hL hz bh hp
 exact⟨m,hn,fun h' aX=>⟨.ref D,H',I'.turned (t':=s'.toks) (it:=C) (fun b o hb e=>aX.extBut b o hb e) hC hL (.inr hz) bh hp,rfl,q⟩⟩
theorem Hk    (hN:X.N.Nodup)(hi:X.N[i]?=some x)(hx:X.env.scope.names.lookup x=some .local)(hc:X.calm=true)(S:BlkSc X sc)(fU:D3 X.N sc cp)(hit:PI X tg iter wi)
  (hg:∀C s₀ H₀ ex,PG (X.blk cp.names sc C s₀ H₀ ex) tg g) (hf:∀C s₀ H₀ ex,PF (X.blk cp.names sc C s₀ H₀ ex) ifs tc) (he:∀C s₀ H₀ ex,PE (X.blk cp.names sc C s₀ H₀ ex) elt te)
  (mv:swapsWith (.ListComp elt [⟨tg,iter,ifs,0⟩] sc pos) (some (.Name x px)) ic.line X.env=pure true:=by rfl)
  (hs:∀x,foldedSetIterable iter X.env x=pure x:=by intro _;rfl):PS X (.Assign [.Name x px] (.ListComp elt [⟨tg,iter,ifs,0⟩] sc pos) ic) (tAsg (X1 wi cp g tc te) (IB i)):=by
 intro pins s σ H D I h
 rw[exec_Assign_Name_used _ _ _ _ mv]
 refine jc_ (wpAny_standAt (jc_ ?_))
 show wpAny _ X.A (do let _ <- comprehension (.ListComp elt [⟨tg,iter,ifs,0⟩] sc pos) sc X.env _ (newList []) false (eval iter X.env) (some (assign (.Name x px) X.env))) _ _ s
 refine jc_ (qu_ (x6_ (use:=some (assign (.Name x px) X.env)) (Q:=fun _ s'=>SP X pins D .next s') rfl hs (IC (KS I S)) S.kind S.loc
  (thn (hit pins s σ H _ I h) fun xv s₁ h₁=>thn h₁ fun jP aT aY=>?_)) (fun _ s' hq=>jq_ (jq_ hq)) fun _ _ e=>e)
 obtain⟨it,fp,tn,J,H2,e,I2,T,aJ,f2,hw⟩:=aY
 subst e
 refine P7 (RR:=fun acc C=>compPost (model X.prog X.w) X.A X.xe (some (assign (.Name x px) X.env)) (fun _ s'=>SP X pins D .next s') acc C) (Q:=fun v H1=>IB i v σ H1 D.nx) hc S fU hg hf he I2 T aJ f2 hw ?_
 intro Dl C s' H' m I' q hn hC hL hz bh hp
 show wpAny _ X.A (assign (.Name x px) X.env (.ref Dl)) _ _ _
 refine wpAny_assign_Name (KM I' hN hi (.inl hx) (v:=.ref Dl) rfl (fun g9 mw ⟨a,kU,ha⟩=>?_) (.inr hx))
 have ao:C≠a:=by
  rcases ha with rfl|ha
  ·exact hL
  ·exact fun z=>bh _ _ ha z.symm
 refine⟨m,hn.sameBut kU ao,fun h' aX=>⟨_,H',mw.turned (t':=g9.toks) (it:=C) (fun b o hb e=>aX.extBut b o hb e) hC hL (.inr hz) bh hp,q⟩⟩
end
theorem Wh {K:α3}{a:Addr}{xs:List V}{g:TG}{tc:TT}{te:TE}{Q:VK}{σ:St}{H:Hp}(Pv:Nat->List V->St->Hp->Prop)(h0:Pv 0 [] σ H)(hz:xs.length<sizeLine)
  (hl:∀i ys σ H,i<=xs.length->Pv i ys σ H->SqL K H a xs/\ys.length<=i)
  (hs:∀i x ys σ H,xs[i]?=some x->Pv i ys σ H->g x σ H fun af H2=>tc af H2 fun b H3=>if b=true then te af H3 fun v H4=>Pv (i+1) (ys++[v]) af H4 else Pv (i+1) ys af H3)
  (hd:∀ys σ H,Pv xs.length ys σ H->∀D,H D=none->Q (.ref D) (upd H D (.lst ys))):
  ∃W:Nat->Nat->List V->St->Hp->Prop,(∃m,W 0 m [] σ H)/\∀i m ys ae H',W i m ys ae H' ->
   ys.length<sizeLine/\(((Itl K a).stop i H'/\∀D,H' D=none->Q (.ref D) (upd H' D (.lst ys)))\/((Itl K a).go i H'/\∃N:List V->St->Hp->Prop,(∀zs af H2,N zs af H2->∃m',m'<m/\W (i+1) m' zs af H2)/\∀x H2,(Itl K a).yld i H' x H2->g x ae H2 fun af H3=>tc af H3 fun b H4=>
    if b=true then te af H4 fun v H5=>N (ys++[v]) af H5 else N ys af H4)):=by
 refine⟨fun i m ys σ H=>m=xs.length-i/\i<=xs.length/\Pv i ys σ H,⟨xs.length,by simp,jZ_ _,h0⟩,?_⟩
 rintro i m ys σ H ⟨rfl,hi,p⟩
 obtain⟨q,ly⟩:=hl i ys σ H hi p
 refine⟨by omega,?_⟩
 by_cases ah:i<xs.length
 ·refine .inr ⟨⟨xs,xs[i],q,by simp[ah]⟩,Pv (i+1),fun zs ae H' p'=>⟨xs.length-(i+1),by omega,rfl,ah,p'⟩,fun x H' y=>?_⟩
  obtain⟨e,y⟩:=y
  subst e
  exact hs i x ys σ _ (y xs q) p
 ·have e:i=xs.length:=by omega
  subst e
  exact .inl ⟨⟨xs,q,jg_ _⟩,hd ys σ H p⟩
theorem X2 {K:α3}{a:Addr}{xs:List V}{g:TG}{tc:TT}{te:TE}{Q:VK}{σ:St}{H:Hp}(Pv:Nat->List V->St->Hp->Prop)(h0:Pv 0 [] σ H)(hz:xs.length<sizeLine)
  (hl:∀i ys σ H,i<=xs.length->Pv i ys σ H->SqT K H a xs/\ys.length<=i)
  (hs:∀i x ys σ H,xs[i]?=some x->Pv i ys σ H->g x σ H fun af H2=>tc af H2 fun b H3=>if b=true then te af H3 fun v H4=>Pv (i+1) (ys++[v]) af H4 else Pv (i+1) ys af H3)
  (hd:∀ys σ H,Pv xs.length ys σ H->∀D,H D=none->Q (.ref D) (upd H D (.lst ys))):
  ∃W:Nat->Nat->List V->St->Hp->Prop,(∃m,W 0 m [] σ H)/\∀i m ys ae H',W i m ys ae H' ->
   ys.length<sizeLine/\(((Itt K a).stop i H'/\∀D,H' D=none->Q (.ref D) (upd H' D (.lst ys)))\/((Itt K a).go i H'/\∃N:List V->St->Hp->Prop,(∀zs af H2,N zs af H2->∃m',m'<m/\W (i+1) m' zs af H2)/\∀x H2,(Itt K a).yld i H' x H2->g x ae H2 fun af H3=>tc af H3 fun b H4=>
    if b=true then te af H4 fun v H5=>N (ys++[v]) af H5 else N ys af H4)):=by
 refine⟨fun i m ys σ H=>m=xs.length-i/\i<=xs.length/\Pv i ys σ H,⟨xs.length,by simp,jZ_ _,h0⟩,?_⟩
 rintro i m ys σ H ⟨rfl,hi,p⟩
 obtain⟨q,ly⟩:=hl i ys σ H hi p
 refine⟨by omega,?_⟩
 by_cases ah:i<xs.length
 ·refine .inr ⟨⟨xs,xs[i],q,by simp[ah]⟩,Pv (i+1),fun zs ae H' p'=>⟨xs.length-(i+1),by omega,rfl,ah,p'⟩,fun x H' y=>?_⟩
  obtain⟨e,y⟩:=y
  subst e
  exact hs i x ys σ _ (y xs q) p
 ·have e:i=xs.length:=by omega
  subst e
  exact .inl ⟨⟨xs,q,jg_ _⟩,hd ys σ H p⟩
theorem Up {lo:Int}{n:Nat}{g:TG}{tc:TT}{te:TE}{Q:VK}{σ:St}{H:Hp}(Pv:Nat->List V->St->Hp->Prop)(h0:Pv 0 [] σ H)(hz:n<sizeLine)
  (hl:∀i ys σ H,i<=n->Pv i ys σ H->ys.length<=i)
  (hs:∀i ys σ H,i<n->Pv i ys σ H->g (.int (lo+i)) σ H fun af H2=>tc af H2 fun b H3=>if b=true then te af H3 fun v H4=>Pv (i+1) (ys++[v]) af H4 else Pv (i+1) ys af H3)
  (hd:∀ys σ H,Pv n ys σ H->∀D,H D=none->Q (.ref D) (upd H D (.lst ys))):
  ∃W:Nat->Nat->List V->St->Hp->Prop,(∃m,W 0 m [] σ H)/\∀i m ys ae H',W i m ys ae H' ->
   ys.length<sizeLine/\(((Itr lo n).stop i H'/\∀D,H' D=none->Q (.ref D) (upd H' D (.lst ys)))\/((Itr lo n).go i H'/\∃N:List V->St->Hp->Prop,(∀zs af H2,N zs af H2->∃m',m'<m/\W (i+1) m' zs af H2)/\∀x H2,(Itr lo n).yld i H' x H2->g x ae H2 fun af H3=>tc af H3 fun b H4=>
    if b=true then te af H4 fun v H5=>N (ys++[v]) af H5 else N ys af H4)):=by
 refine⟨fun i m ys σ H=>m=n-i/\i<=n/\Pv i ys σ H,⟨n,by simp,jZ_ _,h0⟩,?_⟩
 rintro i m ys σ H ⟨rfl,hi,p⟩
 have ly:=hl i ys σ H hi p
 refine⟨by omega,?_⟩
 by_cases ah:i<n
 ·refine .inr ⟨ah,Pv (i+1),fun zs ae H' p'=>⟨n-(i+1),by omega,rfl,ah,p'⟩,fun x H' y=>?_⟩
  obtain⟨e,y⟩:=y
  subst e y
  exact hs i ys σ _ ah p
 ·have e:i=n:=by omega
  subst e
  exact .inl ⟨jg_ _,hd ys σ H p⟩
end L2
namespace L2
open PySem PySem.Spec PyProof.Rows
section
variable {X:Cx}
theorem Oc {bs:List Bool}{its:List Value}(r:Vals (bs.map V.bl) its){i:Nat}{v:Value}(h:its[i]?=some v):∃b,bs[i]?=some b/\v=.bool b:=by
 have hi:i<its.length:=(jb_.mp h).1
 have hl:=r.length
 rw[ja_]at hl
 obtain⟨u,hu,ru⟩:=r.get (i:=i) (x:=V.bl bs[i]) (by rw[je_];simp[show i<bs.length by omega])
 rw[h]at hu
 cases hu
 exact⟨bs[i],by simp[show i<bs.length by omega],ru⟩
theorem range_all {bs:List Bool}:(List.range bs.length).all (fun i=>bs.getD i false)=bs.all id:=by
 rw[qx_,qo_,qo_]
 constructor
 ·intro h x hx
  obtain⟨i,hi,e⟩:=jS_ hx
  have:=h i (jP_.mpr hi)
  rw[jh_]at this
  simp[hi]at this
  rw[e]at this
  exact this
 ·intro h i hi
  have hi:=jP_.mp hi
  rw[jh_]
  simp[hi]
  exact h _ (j2_ hi)
theorem RE {bs:List Bool}{its:List Value}{A:Around}{P:Program}{w:World}(r:Vals (bs.map V.bl) its):TruthOf P w A (fun i v=>its.toArray[i]?=some v) (fun i=>bs.getD i false):=by
 intro i v s Q E hv hq
 obtain⟨b,hb,e⟩:=Oc r (by simpa using hv)
 subst e
 refine xv_ ?_
 have e:bs.getD i false=b:=by rw[jh_,hb];rfl
 have fJ:Q (bs.getD i false) s:=hq
 rw[e]at fJ
 exact fJ
theorem X3 (hc:X.calm=true):Dq X (.builtin "all") (fun xs H Q=>∃(p:Addr) (bs:List Bool),xs=[.ref p]/\SqL X.K H p (bs.map V.bl)/\Q (.bl (bs.all id)) H):=by
 intro pins s σ H xs us Q I r h
 obtain⟨p,bs,rfl,hq,q⟩:=h
 obtain⟨u,rfl,ru⟩:=vals1 r
 cases ru
 obtain⟨its,rv,pl,hz⟩:=I.list hq
 have hlen:=rv.length
 rw[ja_]at hlen
 have hh:X.A.in1.handled=none:=I.ok.hd hc
 obtain⟨o,ho,_⟩:=id pl.isList
 have ao:p≠s.heap.objs.size:=jN_ (jt_ ho)
 refine call_all_walk (wpAny_pyIter_list pl.isList ?_)
 refine⟨s.heap.objs.size,_,_,its.toArray.size,_,_,fun i=>bs.getD i false,rfl,Walks.list hh _ p ao its.toArray,⟨⟨_,jC_ _ rfl,rfl,rfl⟩,pl.isList.at fun o e=>jm_ _ e⟩,RE rv,fun h' tk hk=>?_⟩
 refine⟨.bl (bs.all id),H,I.kept (t':=tk) fun b o e=>hk b o ?_ (jm_ _ e),?_,q⟩
 ·intro hb
  have e':b=s.heap.objs.size:=by simpa using hb
  exact absurd (jt_ e) (by rw[e'];exact j7_ _)
 ·rw[jk_,<-hlen,range_all];rfl
theorem Fg:Dq X (.builtin "isinstance") (fun xs H Q=>∃x c cv t b,xs=[x,c]/\TyOf X.K H x t/\(∀u,RelV c u->u=cv)/\kitOne X.K t cv=some b/\Q (.bl b) H):=by
 intro pins s σ H xs us Q I r h
 obtain⟨x,c,cv,t,b,rfl,ty,hc,hk,q⟩:=h
 obtain⟨u,w',rfl,rx,rc⟩:=vals2 r
 rw[hc _ rc]
 exact VQ I rx ty hk fun tk=>⟨.bl b,H,I.tok tk,rfl,q⟩
def EqD (K:α3)(H:Hp):Nat->V->V->Bool->Prop
 |0,x,y,b=>DK x=true/\DK y=true/\b=eqV x y
 |n+1,x,y,b=>(DK x=true/\DK y=true/\b=eqV x y) \/ ∃a c xs ys,x=.ref a/\y=.ref c/\((SqL K H a xs/\SqL K H c ys)\/(SqT K H a xs/\SqT K H c ys)) /\
   ∃e:Nat->Bool,(∀i x y,xs[i]?=some x->ys[i]?=some y->EqD K H n x y (e i))/\b=(decide (xs.length=ys.length)&&(List.range (min xs.length ys.length)).all e)
theorem in1_units (A:Around):A.in1.units=A.units+1:=rfl
theorem Th  (h:DK x=true):eqV x x=true:=by
 cases x<;>first|rfl|(simp[eqV];done)|exact absurd (show false=true from h) jr_
theorem EqD.self     (I:Inv X pins σ H s):∀(n:Nat) {x:V} {b:Bool},EqD X.K H n x x b->b=true:=by
 intro n
 induction n with
 |zero=>
  rintro x b ⟨fx,_,rfl⟩
  exact Th fx
 |succ n ih=>
  rintro x b (⟨fx,_,rfl⟩|⟨a,c,xs,ys,rfl,e2,hq,e,he,rfl⟩)
  ·exact Th fx
  ·cases e2
   have my:xs=ys:=by
    rcases hq with ⟨h1,h2⟩|⟨h1,h2⟩
    ·exact I.list_inj h1 h2
    ·exact I.tuple_inj h1 h2
   subst my
   simp only[decide_true,Bool.true_and,Nat.min_self,qo_,jP_]
   intro i hi
   exact ih (he i xs[i] xs[i] (by simp[hi]) (by simp[hi]))
theorem AF_   : ((List.range (min n m)).all e&&n==m)=(decide (n=m)&&(List.range (min n m)).all e):=by
 rw[Bool.and_comm]
 congr 1
theorem EqD.at     (I:Inv X pins σ H s):∀(n:Nat) (A:Around) {x y:V} {u v:Value} {b:Bool},A.units+n<cLine->RelV x u->RelV y v->EqD X.K H n x y b ->
  SeqAt.EqAt A s u v b/\∀a c,x=.ref a->y=.ref c->SeqAt.RcAt A s u v b:=by
 intro n
 induction n with
 |zero=>
  intro A x y u v b hu rx ry h
  obtain⟨fx,fy,rfl⟩:=h
  refine⟨VZ rx ry fx fy,?_⟩
  rintro a c rfl rfl
  exact absurd (show false=true from fx) jr_
 |succ n ih=>
  intro A x y u v b hu rx ry h
  have hself:=h
  rcases h with ⟨fx,fy,rfl⟩|⟨a,c,xs,ys,rfl,rfl,hq,e,he,rfl⟩
  ·refine⟨VZ rx ry fx fy,?_⟩
   rintro a c rfl rfl
   exact absurd (show false=true from fx) jr_
  ·cases rx
   cases ry
   have key:∀(its aH:List Value),Vals xs its->Vals ys aH->∀j (h1:j<its.toArray.size) (h2:j<aH.toArray.size),SeqAt.EqAt A.in1 s its.toArray[j] aH.toArray[j] (e j):=fun its aH r1 r2 j h1 h2=>by
    have l1:=r1.length
    have l2:=r2.length
    rw[jk_]at h1 h2
    obtain⟨u1,g1,q1⟩:=r1.get (i:=j) (x:=xs[j]'(by omega)) (by simp[show j<xs.length by omega])
    obtain⟨u2,g2,q2⟩:=r2.get (i:=j) (x:=ys[j]'(by omega)) (by simp[show j<ys.length by omega])
    have k1:its.toArray[j]'(by rw[jk_];exact h1)=u1:=by
     have:=(jb_.mp g1).2
     simpa using this
    have k2:aH.toArray[j]'(by rw[jk_];exact h2)=u2:=by
     have:=(jb_.mp g2).2
     simpa using this
    rw[k1,k2]
    exact (ih A.in1 (by rw[in1_units];omega) q1 q2 (he j _ _ (by simp[show j<xs.length by omega]) (by simp[show j<ys.length by omega]))).1
   have rc:SeqAt.RcAt A s (.ref a) (.ref c) (decide (xs.length=ys.length)&&(List.range (min xs.length ys.length)).all e):=by
    rcases hq with ⟨h1,h2⟩|⟨h1,h2⟩
    ·obtain⟨its,r1,p1,_⟩:=I.list h1
     obtain⟨aH,r2,p2,_⟩:=I.list h2
     have l1:=r1.length
     have l2:=r2.length
     by_cases hl:xs.length=ys.length
     ·have:=SeqAt.RcAt.lists (e:=e) p1.isList p2.isList (by rw[jk_,jk_];omega) (by omega) (key its aH r1 r2)
      rw[jk_,<-l1]at this
      rw[qh_ hl,Bool.true_and,<-hl,Nat.min_self]
      exact this
     ·rw[qd_ hl,Bool.false_and]
      exact SeqAt.RcAt.lists_lengths p1.isList p2.isList (by rw[jk_,jk_];simp;omega) (by omega)
    ·obtain⟨its,r1,p1,_⟩:=I.tuple h1
     obtain⟨aH,r2,p2,_⟩:=I.tuple h2
     have l1:=r1.length
     have l2:=r2.length
     have:=SeqAt.RcAt.tuples (e:=e) (show s.heap.IsTuple a its.toArray from p1) (show s.heap.IsTuple c aH.toArray from p2) (by omega) (key its aH r1 r2)
     rw[jk_,jk_,<-l1,<-l2,AF_]at this
     exact this
   refine⟨?_,fun a' c' _ _=>rc⟩
   by_cases hac:a=c
   ·subst hac
    rw[EqD.self I (n+1) hself]
    exact SeqAt.EqAt.same _
   ·exact SeqAt.EqAt.of_refs hac rc
theorem EqD.flat {K:α3}    (hq:(SqL K H a xs/\SqL K H c ys)\/(SqT K H a xs/\SqT K H c ys))(fx:∀x∈xs,DK x=true)(fy:∀y∈ys,DK y=true)(hi:∀x∈xs,∀y∈ys,eqV x y=decide (x=y))(n:Nat):
  EqD K H (n+1) (.ref a) (.ref c) (decide (xs=ys)):=by
 have base:∀m i x y,xs[i]?=some x->ys[i]?=some y->EqD K H m x y (decide (x=y)):=fun m i x y h1 h2=>by
  have m1:=jd_ h1
  have m2:=jd_ h2
  cases m with
  |zero=>exact⟨fx _ m1,fy _ m2,(hi _ m1 _ m2).symm⟩
  |succ m=>exact .inl ⟨fx _ m1,fy _ m2,(hi _ m1 _ m2).symm⟩
 refine .inr ⟨a,c,xs,ys,rfl,rfl,hq,fun i=>match xs[i]?,ys[i]? with|some x,some y=>decide (x=y)|_,_=>true,fun i x y h1 h2=>?_,?_⟩
 ·simp only[h1,h2]
  exact base n i x y h1 h2
 ·rw[qx_]
  simp only[qq_,qb_,qo_,jP_]
  constructor
  ·rintro rfl
   refine⟨rfl,fun i hi=>?_⟩
   have hi:i<xs.length:=by omega
   simp[hi]
  ·rintro⟨hl,h⟩
   refine qL_ fun i=>?_
   by_cases hi:i<xs.length
   ·have:=h i (by omega)
    simp[hi,show i<ys.length by omega]at this
    simp[hi,show i<ys.length by omega,this]
   ·rw[jR_ (by omega),jR_ (by omega)]
end
end L2
namespace L2
open PySem PySem.Spec PyProof.Rows
def Ci_ (outer:List (Str×NameKind))(sc:Scope):Bool:=
 sc.kind == .function&&sc.names.all (fun y=>y.2 != .cell&&(y.2 != .local||sc.names.lookup y.1==some .local)&&(y.2 != .free||outer.lookup y.1==some .cell||outer.lookup y.1==some .free))
theorem BY   (h:Ci_ X.env.scope.names sc=true):BlkSc X sc:=by
 unfold Ci_ at h
 rw[qb_,qo_]at h
 obtain⟨h1,h2⟩:=h
 refine⟨by simpa using h1,fun y hy z=>?_,fun y hy z=>?_,fun y hy z=>?_⟩
 ·have:=h2 y hy
  simp only[qb_]at this
  have:=this.1.1
  rw[z]at this
  exact absurd this (by decide)
 ·have:=h2 y hy
  simp only[qb_]at this
  have:=this.1.2
  rw[z]at this
  simpa using this
 ·have:=h2 y hy
  simp only[qb_]at this
  have:=this.2
  rw[z]at this
  have t:(X.env.scope.names.lookup y.1==some .cell||X.env.scope.names.lookup y.1==some .free)=true:=by simpa using this
  rw[Bool.or_eq_true]at t
  rcases t with t|t
  ·exact .inl (by show X.env.scope.names.lookup y.1=some .cell;simpa using t)
  ·exact .inr (by show X.env.scope.names.lookup y.1=some .free;simpa using t)
section
variable {t u:TS} {te ta tb tc':TE} {tt tu:TT} {A B:TA} {D:Ends} {σ:St} {H:Hp} {Q:VK} {R:Bool->Hp->Prop} {S:List V->Hp->Prop} {i:Nat} {v:V} {g:TG} {r r':R2} {K:α3} {wi:TI} {cp:Caps}
theorem Cj_:tSeq t u D σ H=t {D with nx:=u D} σ H:=rfl
theorem Zu:BG_ D σ H=D.nx σ H:=rfl
theorem Ck_:tAsg te g D σ H=te σ H fun x H1=>g x σ H1 D.nx:=rfl
theorem Wi  : IB i v σ H N=N (σ.set i (some v)) H:=rfl
theorem Cl_:tVar i σ H Q=∃v,σ[i]?=some (some v)/\Q v H:=rfl
theorem r_c:tC v σ H Q=Q v H:=rfl
theorem r_op:tOp r ta tb σ H Q=ta σ H fun x H1=>tb σ H1 fun y H2=>r x y H2 Q:=rfl
theorem r_un  : tUn f ta σ H Q=ta σ H fun x H1=>f x H1 Q:=rfl
theorem r_I    : rI C f x y H Q=∃i j,x=.int i/\y=.int j/\C i j/\Q (f i j) H:=rfl
theorem r_I0   : rI0 f x y H Q=∃i j,x=.int i/\y=.int j/\Q (f i j) H:=rfl
theorem r_U   : rU f x H Q=∃i,x=.int i/\Q (f i) H:=rfl
theorem Zv    : BT_ sp fD E A σ H Q=A σ H fun vs H1=>sp (vs++fD) H1 Q E:=rfl
theorem Zw:BS_ te A σ H S=te σ H fun x H1=>A σ H1 fun xs H2=>S (x::xs) H2:=rfl
theorem Cm_:tNil σ H S=S [] H:=rfl
theorem Cn_:tRet te D σ H=te σ H D.rt:=rfl
theorem Zx:BH_ te D σ H=te σ H fun _ H1=>D.nx σ H1:=rfl
theorem r_if:tIfS tt t u D σ H=tt σ H fun b H1=>if b=true then t D σ H1 else u D σ H1:=rfl
theorem r_B:tB te σ H R=te σ H fun x H1=>∃c,x=.bl c/\R c H1:=rfl
theorem Zy:XR te σ H R=te σ H fun x H1=>∃c,x=.bl c/\R c H1:=rfl
theorem Co_:tAnd tt tu σ H R=tt σ H fun c H1=>if c=true then tu σ H1 R else R false H1:=rfl
theorem r_or:tOr tt tu σ H R=tt σ H fun c H1=>if c=true then R true H1 else tu σ H1 R:=rfl
theorem Cp_:tNot tt σ H R=tt σ H fun c H1=>R (!c) H1:=rfl
theorem Zz:BD_ ta tb σ H Q=ta σ H fun x H1=>∃c,x=.bl c/\if c=true then tb σ H1 Q else Q (.bl false) H1:=rfl
theorem Wj:Zq r r' ta tb tc' σ H Q=ta σ H fun x H1=>tb σ H1 fun y H2=>r x y H2 fun z H3=>∃k,z=.bl k/\(if k=true then tc' σ H3 fun w' H4=>r' y w' H4 Q else Q (.bl false) H3):=rfl
theorem r_CB  : tCB f A σ H Q=A σ H fun vs H1=>f vs H1 Q:=rfl
theorem Cq_:tLst A σ H Q=A σ H fun xs H1=>xs.length<=sizeLine/\∀p,H1 p=none->Q (.ref p) (upd H1 p (.lst xs)):=rfl
theorem Cr_:tTup A σ H Q=A σ H fun xs H1=>xs.length<=sizeLine/\∀p,H1 p=none->Q (.ref p) (upd H1 p (.tup xs)):=rfl
theorem Cs_  : rIxL K x y H Q=∃p xs i v,x=.ref p/\y=.int i/\SqL K H p xs/\atI xs i=some v/\Q v H:=rfl
theorem Ct_  : rIxT K x y H Q=∃p xs i v,x=.ref p/\y=.int i/\SqT K H p xs/\atI xs i=some v/\Q v H:=rfl
theorem r_sl   : tSl f te tl th σ H Q=te σ H fun x H1=>tl σ H1 fun l H2=>th σ H2 fun u H3=>f x l u H3 Q:=rfl
theorem ZA  : BX_ te σ H U=te σ H fun x H1=>∃i,x=.int i/\U (some i) H1:=rfl
theorem Ti  : VT σ H U=U none H:=rfl
theorem Cu_  {lo hi:Option Int}:rSlL K x lo hi H Q=∃a xs,x=.ref a/\SqL K H a xs/\∀p,H p=none->Q (.ref p) (upd H p (.lst (cutV xs lo hi))):=rfl
theorem r_BM   : tBM K T f te A σ H Q=te σ H fun x H1=>tyV K T x H1/\A σ H1 fun xs H2=>f x xs H2 Q:=rfl
theorem Tj   : V0 x vs H Q=∃l xs y,x=.ref l/\vs=[y]/\H l=some (.lst xs)/\xs.length<sizeLine/\Q .non (upd H l (.lst (xs++[y]))):=rfl
theorem ZB    : gSub to ti ts v σ H N=to σ H fun o H1=>ti σ H1 fun i H2=>ts o i v H2 fun H3=>N σ H3:=rfl
theorem ZC   : Ca_ o k v H N=∃p xs m j,o=.ref p/\k=.int m/\H p=some (.lst xs)/\ixN xs.length m=some j/\N (upd H p (.lst (xs.set j v))):=rfl
theorem r_Eq  : rEq x y H Q=(scal x y=true/\Q (.bl (decide (x=y))) H):=rfl
theorem r_Ne  : rNe x y H Q=(scal x y=true/\Q (.bl (!decide (x=y))) H):=rfl
theorem Wk  : BM_ K te σ H Z=te σ H fun x H1=>∃a,x=.ref a/\(∃xs,SqL K H1 a xs)/\Z (Itl K a) H1:=rfl
theorem ZD  : iTup K te σ H Z=te σ H fun x H1=>∃a,x=.ref a/\(∃xs,SqT K H1 a xs)/\Z (Itt K a) H1:=rfl
theorem Wl  : BN_ A σ H Z=A σ H fun vs H1=>∃j:Int,vs=[.int j] /\ -(2 ^ 62)<=j/\j<2 ^ 62/\Z (Itr 0 j.toNat) H1:=rfl
theorem Cv_  : tAug i te ti D σ H=∃x,σ[i]?=some (some x)/\te σ H fun y H1=>ti x y H1 fun z H2=>D.nx (σ.set i (some z)) H2:=rfl
theorem r_ip   : ipI f x y H Q=∃i j,x=.int i/\y=.int j/\Q (.int (f i j)) H:=rfl
theorem ZE:Uo σ H R=R true H:=rfl
end
theorem Same.new    (h:H p=none):Same H (upd H p o):=fun b u e=>by rw[Ai (AA e h)];exact e
theorem Same.newT    (s:Same H H')(h:H' p=none):Same H (upd H' p o):=s.trans (Same.new h)
theorem Same.over    (s:Same H H')(h:H p=none):Same H (upd H' p o):=fun b u e=>by rw[Ai (AA e h)];exact s b u e
theorem A0    (h:upd H p o D=none):H D=none/\D≠p:=by
 by_cases e:D=p
 ·subst e;rw[Ab]at h;cases h
 ·rw[Ai e]at h;exact⟨h,e⟩
theorem Same.seqT {K:α3}    (e:Same H H')(h:SqT K H a xs):SqT K H' a xs:=by
 rcases h with (h|⟨o,h⟩)|h
 ·exact .inl (.inl (e _ _ h))
 ·exact .inl (.inr ⟨o,e _ _ h⟩)
 ·exact .inr h
theorem hu9   (hr:Room k A):A.units+8<cLine:=by have:=hr.units;omega
section
variable {K:α3} {wi:TI} {cp:Caps} {g:TG} {tc:TT} {te:TE} {σ:St} {H:Hp} {Q:VK}
theorem Cw_               : (cxOf CX P w K mg base N qual scope f cd A outer s H E).K=K:=rfl
def P8 (J:It)(cp:Caps)(g:TG)(tc:TT)(te:TE)(σ:St)(H1:Hp)(Q:VK):Prop:=∃W:Nat->Nat->List V->St->Hp->Prop,(∃m,W 0 m [] (cp.st σ) H1)/\∀i m ys ae H',W i m ys ae H' ->
 ys.length<sizeLine/\((J.stop i H'/\∀D,H' D=none->Q (.ref D) (upd H' D (.lst ys)))\/(J.go i H'/\∃N:List V->St->Hp->Prop,(∀zs af H2,N zs af H2->∃m',m'<m/\W (i+1) m' zs af H2)/\∀x H2,J.yld i H' x H2->g x ae H2 fun af H3=>tc af H3 fun b H4=>
  if b=true then te af H4 fun v H5=>N (ys++[v]) af H5 else N ys af H4))
theorem ZF:X1 wi cp g tc te σ H Q=wi σ H fun J H1=>P8 J cp g tc te σ H1 Q:=rfl
def ForW (J:It)(g:TG)(tb:TS)(D:Ends)(σ:St)(H1:Hp):Prop:=∃W:Nat->Nat->St->Hp->Prop,(∃m,W 0 m σ H1)/\∀i m σ H,W i m σ H ->
 (J.stop i H/\D.nx σ H)\/(J.go i H/\∃N:St->Hp->Prop,(∀ae H',N ae H'->∃m',m'<m/\W (i+1) m' ae H')/\∀x H',J.yld i H x H'->g x σ H' fun af H2=>tb {D with nx:=N,ct:=N,bk:=D.nx} af H2)
theorem Cx_   : tFor wi g tb D σ H=wi σ H fun J H1=>ForW J g tb D σ H1:=rfl
theorem forL        (Pv:Nat->St->Hp->Prop)(h0:Pv 0 σ H)(hl:∀i σ H,i<=xs.length->Pv i σ H->SqL K H a xs)
  (hs:∀i x σ H,xs[i]?=some x->Pv i σ H->g x σ H fun af H2=>tb {D with nx:=Pv (i+1),ct:=Pv (i+1),bk:=D.nx} af H2) (hd:∀σ H,Pv xs.length σ H->D.nx σ H):ForW (Itl K a) g tb D σ H:=XO Pv h0 hl hs hd
theorem forT        (Pv:Nat->St->Hp->Prop)(h0:Pv 0 σ H)(hl:∀i σ H,i<=xs.length->Pv i σ H->SqT K H a xs)
  (hs:∀i x σ H,xs[i]?=some x->Pv i σ H->g x σ H fun af H2=>tb {D with nx:=Pv (i+1),ct:=Pv (i+1),bk:=D.nx} af H2) (hd:∀σ H,Pv xs.length σ H->D.nx σ H):ForW (Itt K a) g tb D σ H:=Au_ Pv h0 hl hs hd
theorem forR {lo:Int}       (Pv:Nat->St->Hp->Prop)(h0:Pv 0 σ H)
  (hs:∀i σ H,i<n->Pv i σ H->g (.int (lo+i)) σ H fun af H2=>tb {D with nx:=Pv (i+1),ct:=Pv (i+1),bk:=D.nx} af H2) (hd:∀σ H,Pv n σ H->D.nx σ H):ForW (Itr lo n) g tb D σ H:=VI Pv h0 hs hd
theorem P9   (Pv:Nat->List V->St->Hp->Prop)(h0:Pv 0 [] (cp.st σ) H)(hz:xs.length<sizeLine)
  (hl:∀i ys σ H,i<=xs.length->Pv i ys σ H->SqL K H a xs/\ys.length<=i)
  (hs:∀i x ys σ H,xs[i]?=some x->Pv i ys σ H->g x σ H fun af H2=>tc af H2 fun b H3=>if b=true then te af H3 fun v H4=>Pv (i+1) (ys++[v]) af H4 else Pv (i+1) ys af H3)
  (hd:∀ys σ H,Pv xs.length ys σ H->∀D,H D=none->Q (.ref D) (upd H D (.lst ys))):P8 (Itl K a) cp g tc te σ H Q:=Wh Pv h0 hz hl hs hd
theorem X4   (Pv:Nat->List V->St->Hp->Prop)(h0:Pv 0 [] (cp.st σ) H)(hz:xs.length<sizeLine)
  (hl:∀i ys σ H,i<=xs.length->Pv i ys σ H->SqT K H a xs/\ys.length<=i)
  (hs:∀i x ys σ H,xs[i]?=some x->Pv i ys σ H->g x σ H fun af H2=>tc af H2 fun b H3=>if b=true then te af H3 fun v H4=>Pv (i+1) (ys++[v]) af H4 else Pv (i+1) ys af H3)
  (hd:∀ys σ H,Pv xs.length ys σ H->∀D,H D=none->Q (.ref D) (upd H D (.lst ys))):P8 (Itt K a) cp g tc te σ H Q:=X2 Pv h0 hz hl hs hd
theorem Qa {lo:Int}  (Pv:Nat->List V->St->Hp->Prop)(h0:Pv 0 [] (cp.st σ) H)(hz:n<sizeLine)
  (hl:∀i ys σ H,i<=n->Pv i ys σ H->ys.length<=i)
  (hs:∀i ys σ H,i<n->Pv i ys σ H->g (.int (lo+i)) σ H fun af H2=>tc af H2 fun b H3=>if b=true then te af H3 fun v H4=>Pv (i+1) (ys++[v]) af H4 else Pv (i+1) ys af H3)
  (hd:∀ys σ H,Pv n ys σ H->∀D,H D=none->Q (.ref D) (upd H D (.lst ys))):P8 (Itr lo n) cp g tc te σ H Q:=Up Pv h0 hz hl hs hd
theorem GF    (f:V->V)(e:cp.st σ=none::ae)(hl:SqT K H a xs)(hz:xs.length<sizeLine)(hs:∀x∈xs,∀R:VK,R (f x) H->te (some x::ae) H R)(hd:∀D,H D=none->Q (.ref D) (upd H D (.lst (xs.map f)))):
  P8 (Itt K a) cp (IB 0) Uo te σ H Q:=by
 refine X4 (xs:=xs) (fun i ys af H2=>H2=H/\ys=(xs.take i).map f/\∃o,af=o::ae) ⟨rfl,by simp,none,e⟩ hz (fun i ys af H2 hi h=>?_) (fun i x ys af H2 hx h=>?_) (fun ys af H2 h=>?_)
 ·obtain⟨rfl,rfl,_⟩:=h
  exact⟨hl,by rw[ja_,jB_];omega⟩
 ·obtain⟨rfl,rfl,o,rfl⟩:=h
  refine hs x (jd_ hx) _ ⟨rfl,?_,some x,rfl⟩
  rw[jV_,hx];simp
 ·obtain⟨rfl,rfl,_⟩:=h
  rw[jU_]
  exact hd
theorem Kz    (f:V->V)(e:cp.st σ=none::ae)(hl:SqL K H a xs)(hz:xs.length<sizeLine)(hs:∀x∈xs,∀R:VK,R (f x) H->te (some x::ae) H R)(hd:∀D,H D=none->Q (.ref D) (upd H D (.lst (xs.map f)))):
  P8 (Itl K a) cp (IB 0) Uo te σ H Q:=by
 refine P9 (xs:=xs) (fun i ys af H2=>H2=H/\ys=(xs.take i).map f/\∃o,af=o::ae) ⟨rfl,by simp,none,e⟩ hz (fun i ys af H2 hi h=>?_) (fun i x ys af H2 hx h=>?_) (fun ys af H2 h=>?_)
 ·obtain⟨rfl,rfl,_⟩:=h
  exact⟨hl,by rw[ja_,jB_];omega⟩
 ·obtain⟨rfl,rfl,o,rfl⟩:=h
  refine hs x (jd_ hx) _ ⟨rfl,?_,some x,rfl⟩
  rw[jV_,hx];simp
 ·obtain⟨rfl,rfl,_⟩:=h
  rw[jU_]
  exact hd
end
def tCut (t u:TS):TS:=fun D σ H=>∃R:St->Hp->Prop,t {D with nx:=R} σ H/\∀ae H',R ae H'->u D ae H'
theorem CQ  {st:Stmt}{rest:List Stmt}  (h1:PS X st t)(h2:PSs X rest u):PSs X (st::rest) (tCut t u):=by
 intro pins s σ H D I h
 obtain⟨R,ha,hb⟩:=h
 refine wpAny_execs_cons (thn (h1 pins s σ H {D with nx:=R} I ha) fun f s1 q=>?_)
 cases f with
 |next=>
  obtain⟨ae,H',I',q⟩:=q
  exact h2 pins s1 ae H' D I' (hb ae H' q)
 |ret v=>exact q
 |brk=>exact q
 |cont=>exact q
theorem AC:1000000<sizeLine:=by rw[sizeLine_eq];decide
theorem Er {ns:α2}{x:V}(h:x∈ns.map V.int):∃n,n∈ns/\x=.int n:=by
 obtain⟨n,hn,e⟩:=jv_.mp h
 exact⟨n,hn,e.symm⟩
theorem Di {ns:α2}{i:Nat}{x:V}(h:(ns.map V.int)[i]?=some x):∃n,ns[i]?=some n/\x=.int n:=by
 rw[je_]at h
 cases e:ns[i]? with
 |none=>rw[e]at h;cases h
 |some n=>rw[e]at h;exact⟨n,rfl,(jp_ h).symm⟩
def cutI (ns:α2)(lo hi:Option Int):α2:=(ns.drop (HT.sIx ns.length 0 lo)).take (HT.sIx ns.length ns.length hi-HT.sIx ns.length 0 lo)
theorem Tk (ns:α2)(lo hi:Option Int):cutV (ns.map V.int) lo hi=(cutI ns lo hi).map V.int:=by
 unfold cutV cutI
 rw[ja_,<-List.map_drop,<-List.map_take]
theorem Tl (ns:α2)(j:Nat)(x:Int):(ns.map V.int).set j (.int x)=(ns.set j x).map V.int:=by rw[List.map_set]
theorem Cy_ {n:Nat}{i:Int}(h0:0<=i)(h1:i<n):ixN n i=some i.toNat:=by
 unfold ixN;rw[if_pos h0,if_pos h1]
theorem D4     (h0:0<=i)(h:xs[i.toNat]?=some v):atI xs i=some v:=by
 have:=FV h
 rwa [show ((i.toNat:Nat):Int)=i by omega]at this
theorem Od {K:α3}  : kitOne K t t=some true:=by unfold kitOne;rw[if_pos (by simp)]
theorem Qb {K:α3}:kitOne K (.type "int") (.type "bool")=some false:=by
 first|rfl|decide +kernel|(unfold kitOne;kernel_rfl)
theorem Tm  : ∀u,RelV (V.ty n) u->u=.type n:=fun _ h=>h
end L2
namespace L2
open PySem PySem.W PySem.Spec PySem.Calls PyProof.Rows
section
variable {prog:Program} {w:World} {A:Around} {E:Value->Shared->Prop} {s:Shared} {K:Frag} {x D:Addr} {ox:Obj}
structure ExcCls (K:Frag)(D:Addr):Prop where
 ga:findIn K (.ref D) "__getattribute__"=some (some (.builtin "BaseException.__getattribute__"))
 hk:findIn K (.ref D) "__getattr__"=some none
 cl:(clsIn K D).isSome=true
 ca:findIn K (.ref D) "__class__"=some (some (.builtin "object.__class__"))
 gs:specialIn K (.builtin "object.__class__") "__get__"=some (some (.builtin "getset_descriptor.__get__"))
 tk:takesIn K (.builtin "object.__class__")=some true
 mo:mroIn K D (.type "object")=some true
 mb:mroIn K D (.type "BaseException")=some true
def ExcAt (x D:Addr)(h:Heap):Prop:=∃ox,h.get? x=some ox/\ox.cls=.ref D
theorem ExcAt.type   (I:ExcAt x D h):Looks M h (typeOf (.ref x)) (.ref D):=by
 obtain⟨ox,h1,h2⟩:=I
 exact h2 ▸ (Looks.ld h1).andThen .now
theorem X5   (X:K.In h)(C:ExcCls K D):Looks M h (Builtin.ObjectAttr.find (.ref x) (.ref D) "__class__") (.bind (.builtin "getset_descriptor.__get__") (.builtin "object.__class__")):=
 (looks_findIn X C.ca).andThen ((show Looks M h (Builtin.ObjectAttr.getOf (some (.builtin "object.__class__"))) _ from looks_specialIn X C.gs).andThen
  ((show Looks M h (Builtin.ObjectAttr.dataDescriptor? (some (.builtin "object.__class__")) (some (.builtin "getset_descriptor.__get__"))) (some (.builtin "getset_descriptor.__get__",.builtin "object.__class__")) from (looks_takesIn X C.tk).andThen .now).andThen (Looks.tag .now)))
open Builtin Builtin.ObjectAttr Builtin.Getset_descriptor in
theorem AG_ {R:Result->Shared->Prop}{tp:Value}(X:K.In s.heap)(I:ExcAt x D s.heap)(hm:mroIn K D (.type "object")=some true)
  (h:R (.ok (.ret (.ref D))) s):codeAny (model prog w) A (.call (.builtin "getset_descriptor.__get__") ⟨[.builtin "object.__class__",.ref x,tp],[]⟩) R s:=by
 obtain⟨hh,g,dr,t,os⟩:=s
 have L0:=I.type (M:=model prog w)
 have L1:=looks_mroIn (M:=model prog w) X hm
 refine codeAny_call_builtin KF.slot_gs.plain KF.entry_gs (KF.slot_gs.check _ _ _ _ _ _ _ _ KF.type_class (KF.args_gs _ _ _) ?_)
 unfold Builtin.«getset_descriptor.__get__» descrGet
 rw[dga_obj]
 refine jc_ (jq_ ?_)
 unfold descrGetter descrCheckInstance descrNameAndClass isInstance
 simp only[KF.owner_class]
 repeat lk
 refine⟨Code.quiet_builtin _ (by decide +kernel),codeAny_builtin KF.entry_class ?_⟩
 unfold Builtin.«object.__class__» shownTypeOf
 repeat lk
 exact h
theorem Wm    (X:K.In s.heap)(I:ExcAt x D s.heap)(C:ExcCls K D)(hq:Q () s):wpAny M A (checkBuiltinCall "BaseException.__getattribute__" ⟨[.ref x,nameV],[]⟩) Q E s:=by
 obtain⟨hh,g,d,t,os⟩:=s
 have hk:builtinKind "BaseException.__getattribute__"=some .slot:=by decide +kernel
 have hsplit:splitId "BaseException.__getattribute__"=some ("BaseException","__getattribute__"):=by decide +kernel
 have ha:=F.args_bexc_ga (.ref x) nameV
 have L0:=I.type (M:=M)
 have L1:=looks_mroIn (M:=M) X C.mb
 simp only[checkBuiltinCall,hk,hsplit]
 refine jc_ ?_
 unfold isInstance
 repeat (first|lk|wp_step)
 exact hq
theorem Wn   (X:K.In s.heap)(I:ExcAt x D s.heap)(C:ExcCls K D)(hq:Q (.done (.ret (.ref D))) s):wpAny (model prog w) A (Builtin.«object.__getattribute__» ⟨[.ref x,.str "__class__" tk],[]⟩) Q E s:=by
 obtain⟨hh,g,d,t,os⟩:=s
 have L0:=I.type (M:=model prog w)
 have L1:=X5 (M:=model prog w) (x:=x) X C
 unfold Builtin.«object.__getattribute__»
 refine jc_ (jq_ ?_)
 refine jc_ (jq_ ?_)
 refine jc_ (L0.at ?_)
 refine jc_ (L1.at ?_)
 show wpAny _ _ (Builtin.ObjectAttr.bindTo _ _ _ _) _ _ _
 unfold Builtin.ObjectAttr.bindTo
 dsimp only
 refine jc_ (qE_ (wpAny_call (AG_ (K:=K) (s:=⟨hh,g,d,t,os⟩) X I C.mo ?_)))
 exact jq_ hq
theorem Wo  (X:K.In s.heap)(I:ExcAt x D s.heap)(C:ExcCls K D)(h:Q (some (.ref D)) {s with toks:=s.toks+1}):wpAny (model prog w) A (getAttr? (.ref x) "__class__") Q E s:=by
 obtain⟨hh,g,d,t,os⟩:=s
 have L0:=I.type (M:=model prog w)
 have L1:=looks_findIn (M:=model prog w) X C.ga
 have L2:=looks_findIn (M:=model prog w) X C.hk
 unfold getAttr? getAttrBy? getAttrBy
 refine jc_ (wpAny_mkText (jc_ (xL_ (qE_ (jc_ (L0.at (jc_ (L1.at ?_))))))))
 show wpAny _ _ (getAttrByItsOwn _ _ _ _ _ _) _ _ _
 unfold getAttrByItsOwn hookBefore
 refine jc_ ?_
 rw[if_pos (by rfl)]
 refine L2.at (jc_ (xL_ (qE_ ?_)))
 unfold callGetattribute
 rw[if_neg (by decide)]
 unfold boundAndCalled
 have f3:=PySem.F.attr_ValueError.ga.bind (.ref x)
 refine jc_ (wpAny_of_eq f3 ?_)
 refine wpAny_call (codeAny_call_builtin PySem.F.attr_ValueError.ga.plain F.entry_bexc_ga (Wm (K:=K) (s:=⟨hh,g,d,t+1,os⟩) X I C (Wn (K:=K) (s:=⟨hh,g,d,t+1,os⟩) X I C ?_)))
 exact jq_ (jq_ h)
theorem X6 (C:ExcCls K D):KitX K (.ref x) (.ref D) (ExcAt x D) where
 ty:=fun _ _ _ I=>I.type
 it:=fun _ _ X _=>by
  obtain⟨cdD,ie⟩:=xy_.mp C.cl
  unfold clsIn at ie
  split at ie
  ·rename_i c' d' cd' lW ho
   intro A' Q' E' s' k q
   unfold isType loadHead
   exact jc_ (wpAny_loadPart (k _ _ (X _ _ ho)) (jq_ q))
  ·cases ie
 ne:=fun h tp dd its n sl X htp=>by
  obtain⟨cdD,ie⟩:=xy_.mp C.cl
  refine Bool.eq_false_iff.mpr fun q=>?_
  have e:D=tp:=Value.ref.inj (zW_.mp q)
  subst e
  unfold clsIn at ie
  split at ie
  ·rename_i c' d' cd' lW ho
   have z:=(X _ _ ho).symm.trans htp
   cases z
  ·cases ie
 ca:=fun X I k=>Wo X I C k
end
end L2
namespace L2
open PySem PySem.Spec PyProof.Rows
def excO (ea C:Addr):HO:=.ext (ExcAt ea C)
theorem Qc  : Dq X (.builtin "isinstance") (fun xs H Q=>∃ea C c cv b,xs=[.ref ea,c]/\H ea=some (excO ea C)/\ExcCls X.K C/\(∀u,RelV c u->u=cv)/\kitOne X.K (.ref C) cv=some b/\Q (.bl b) H):=by
 intro pins s σ H xs us Q I r h
 obtain⟨ea,C,c,cv,b,rfl,hea,hC,hc,hk,q⟩:=h
 obtain⟨u,w',rfl,rx,rc⟩:=vals2 r
 rw[hc _ rc]
 cases rx
 obtain⟨p,_,_⟩:=(show B6 X.prog X.w H s.heap ea (.ext (ExcAt ea C)) from I.hok ea _ hea)
 exact qp_ (X6 hC) I.kIn p hk (fun z=>nomatch z) fun tk=>⟨.bl b,H,I.tok tk,rfl,q⟩
end L2
namespace HT
open PySem PySem.Spec PyProof.Rows
open PySem.AutoSeq1 (wpAny_loadPart')
section
open PySem.SeqAt PySem.MeetsSeq PySem.MeetsSeq2 PySem.MeetsSeq3
theorem tuple_addW0 (l b:Addr)(items aE:Array Value)(n n2:Nat)(dd fE:Option Addr)(sl ef:Array (α5))(hc0:items.isEmpty=true):
  Meets (Builtin.«tuple.__add__» ⟨[.ref l,.ref b],[]⟩) (fun _ R s=>s.heap.get? l=some {cls:=.type "tuple",dict:=dd,data:=.seq items n,slots:=sl}/\s.heap.get? b=some {cls:=.type "tuple",dict:=fE,data:=.seq aE n2,slots:=ef}/\R (.ok (.ret (Value.ref b))) {s with heap:=s.heap,toks:=s.toks}):=
 .of_wp fun prog w A R s h=>by obtain⟨hp,g,d,tk,os⟩:=s;obtain⟨hl,hb,h⟩:=h;have f1:=zu_;have f2:=AutoSeq1.sub_tuple_tuple;have f3:=AutoSeq1.sub_list_list;have f4:=AutoSeq1.sub_tuple_list;have f5:=AutoSeq1.sub_list_tuple;wp_walk using j4_ hl,j4_ hb;exact⟨_,rfl,h⟩
theorem int_rmul_tup (a:Int)(t:Tok)(l:Addr)(items:Array Value)(n:Nat)(dd:Option Addr)(sl:Array (α5)):
  Meets (Builtin.«int.__rmul__» ⟨[.int a t,.ref l],[]⟩) (fun _ R s=>s.heap.get? l=some {cls:=.type "tuple",dict:=dd,data:=.seq items n,slots:=sl}/\R (.ok (.ret Value.notImplemented)) s):=
 .of_wp fun prog w A R s h=>by obtain⟨hp,g,d,tk,os⟩:=s;obtain⟨hl,h⟩:=h;wp_walk using j4_ hl;exact⟨_,rfl,h⟩
theorem noFill_tuple_mul:fillsNumberSlot (.type "tuple") "mul"=pure false:=by
 first|exact fillsNumberSlot_false (by decide +kernel)|(unfold fillsNumberSlot;kernel_rfl)|kernel_rfl
theorem repeat_tuple:seqRepeat? (.type "tuple")=pure (some (.builtin "tuple.__mul__")):=by
 unfold seqRepeat?
 rw[PySem.seqSlot_of (T := "tuple") (name := "__mul__") (id := "tuple.__mul__") zv_.lookup (by decide +kernel),PySem.seqSlot_of (T := "tuple") (name := "__rmul__") (id := "tuple.__rmul__") F.slot_tuple_rmul.lookup (by decide +kernel)]
 rfl
theorem tup_mul_one (l:Addr)(items:Array Value)(n:Nat)(dd:Option Addr)(sl:Array (α5))(u:Tok):
  Meets (Builtin.«tuple.__mul__» ⟨[.ref l,.int 1 u],[]⟩) (fun _ R s=>s.heap.get? l=some {cls:=.type "tuple",dict:=dd,data:=.seq items n,slots:=sl}/\R (.ok (.ret (Value.ref l))) s):=
 .of_wp fun prog w A R s h=>by
  obtain⟨hp,g,d,tk,os⟩:=s;obtain⟨hl,h⟩:=h
  have f1:=zu_
  unfold Builtin.«tuple.__mul__»
  wp_walk using j4_ hl
  exact⟨_,rfl,h⟩
theorem tup_mul_none (l:Addr)(items:Array Value)(n:Nat)(dd:Option Addr)(sl:Array (α5))(x:Int)(u:Tok)(h0:¬ items.isEmpty=true)(h1:x<=0)(h2 : -(2 ^ 63)<=x):
  Meets (Builtin.«tuple.__mul__» ⟨[.ref l,.int x u],[]⟩) (fun _ R s=>s.heap.get? l=some {cls:=.type "tuple",dict:=dd,data:=.seq items n,slots:=sl}/\R (.ok (.ret (Value.ref s.heap.objs.size))) {s with heap:=s.heap.push {cls:=.type "tuple",data:=.seq #[]} }):=
 .of_wp fun prog w A R s h=>by
  obtain⟨hp,g,d,tk,os⟩:=s;obtain⟨hl,h⟩:=h
  have f1:=zu_
  have c1:(decide (x < -(2 ^ 63:Int))||decide (x >= 2 ^ 63))=false:=by simp;omega
  have c2:(items.isEmpty||x==1)=false:=by simp at h0 ⊢;exact⟨h0,by omega⟩
  have c3:(decide (x<=0)||items.isEmpty)=true:=by simp[h1]
  unfold Builtin.«tuple.__mul__»
  wp_walk using j4_ hl
  rw[if_neg (by rw[c1];exact jr_)]
  wp_walk using j4_ hl
  rw[if_neg (by rw[c2];exact jr_)]
  rw[if_pos c3]
  wp_walk using j4_ hl
  exact⟨_,rfl,h⟩
theorem tup_mul_many (l:Addr)(items:Array Value)(n:Nat)(dd:Option Addr)(sl:Array (α5))(x:Int)(u:Tok)(h0:¬ items.isEmpty=true)(h1:1<x)(h2:x<2 ^ 63)(h3:items.size*x.toNat<=sizeLine):
  Meets (Builtin.«tuple.__mul__» ⟨[.ref l,.int x u],[]⟩) (fun _ R s=>s.heap.get? l=some {cls:=.type "tuple",dict:=dd,data:=.seq items n,slots:=sl}/\R (.ok (.ret (Value.ref s.heap.objs.size))) {s with heap:=s.heap.push {cls:=.type "tuple",data:=.seq ((List.replicate x.toNat items).foldl (· ++ ·) #[])} }):=
 .of_wp fun prog w A R s h=>by
  obtain⟨hp,g,d,tk,os⟩:=s;obtain⟨hl,h⟩:=h
  have f1:=zu_
  have hs:sizeLine=16777216:=sizeLine_eq
  have c1:(decide (x < -(2 ^ 63:Int))||decide (x >= 2 ^ 63))=false:=by simp;omega
  have c2:(items.isEmpty||x==1)=false:=by simp at h0 ⊢;exact⟨h0,by omega⟩
  have c3:(decide (x<=0)||items.isEmpty)=false:=by simp at h0 ⊢;exact⟨by omega,h0⟩
  obtain⟨k,rfl⟩:∃k:Nat,x=(k:Int):=⟨x.toNat,by omega⟩
  have c4:¬ ((items.size:Int)*(k:Int) > (2 ^ 63-1) / 8):=by
   rw[ji_]at h3
   have:((items.size*k:Nat):Int)=(items.size:Int)*(k:Int):=by push_cast;rfl
   omega
  have c5:Builtin.Tuple.tupleTooMany ((items.size:Int)*(k:Int))=false:=by
   unfold Builtin.Tuple.tupleTooMany
   rw[ji_]at h3
   have:((items.size*k:Nat):Int)=(items.size:Int)*(k:Int):=by push_cast;rfl
   simp
   omega
  unfold Builtin.«tuple.__mul__»
  wp_walk using j4_ hl
  rw[if_neg (by rw[c1];exact jr_)]
  wp_walk using j4_ hl
  rw[if_neg (by rw[c2];exact jr_)]
  rw[if_neg (by rw[c3];exact jr_),if_neg c4,if_neg (by rw[c5];exact jr_)]
  wp_walk using j4_ hl
  have hz:¬ (List.foldl (fun x1 x2=>x1++x2) #[] (List.replicate ((k:Int)).toNat items)).size > sizeLine:=by
   have:=L2.foldl_rep items.toList k []
   rw[xS_]at this
   have e:items.toList.toArray=items:=by simp
   rw[e]at this
   rw[ji_,this,jk_,L2.len_rep]
   rw[ji_]at h3
   rw[j3_,Nat.mul_comm]
   omega
  rw[if_neg hz]
  wp_walk using j4_ hl
  exact⟨_,rfl,h⟩
end
end HT
namespace L2
open PySem PySem.Spec PyProof.Rows
section
variable {X:Cx}
def Wp (K:α3):R2:=fun x y H Q=>∃l k xs,x=.ref l/\y=.int k/\SqT K H l xs/\xs ≠ [] /\ -(2 ^ 63)<=k/\k<2 ^ 63/\xs.length*k.toNat<=sizeLine /\
 (k=1->Q (.ref l) H)/\(k≠1->∀p,H p=none->Q (.ref p) (upd H p (.tup (List.replicate k.toNat xs).flatten)))
theorem Wq:OpR X (binaryOp .Mult) (Wp X.K):=by
 intro pins s σ H x y v u Q I rx ry h
 obtain⟨l,k,xs,rfl,rfl,hq,ao,h1,h2,hz,q1,q2⟩:=h
 cases rx
 obtain⟨t,rfl⟩:=ry
 obtain⟨its,r,p1,_⟩:=I.tuple hq
 have hlen:=r.length
 have eK:¬ its.toArray.isEmpty=true:=by
  intro z
  have:its=[]:=by simpa using z
  exact ao (r.nil_iff.mp this)
 obtain⟨⟨cls,dd,data,sl⟩,ho,hc,n,hd⟩:=id p1
 simp only at hc hd
 subst hc hd
 refine wpAny_binaryOp_repeat_ref (T := "tuple") (U := "int") (by decide) ⟨_,ho,rfl⟩ (fun s'=>typeIs_int s' k t) HT.noFill_tuple_mul F.fills_int_mul zH_ HT.repeat_tuple F.slot_int_index.lookup
  (xC_ zH_ (typeIs_int s k t) F.entry_int_rmul (F.args_int_rmul_2 _ _) (HT.int_rmul_tup k t l its.toArray n dd sl) ⟨ho,rfl,⟨_,ho,rfl⟩,?_⟩)
 by_cases k1:k=1
 ·subst k1
  exact xC_ zv_ ⟨_,ho,rfl⟩ F.entry_tuple_mul (F.args_tuple_mul_2 _ _) (HT.tup_mul_one l its.toArray n dd sl t) ⟨ho,⟨.ref l,H,I,rfl,q1 rfl⟩⟩
 ·have fin:∀(ys:List Value),Vals (List.replicate k.toNat xs).flatten ys->EP X pins σ Q (.ref s.heap.objs.size) {s with heap:=s.heap.push {cls:=.type "tuple",data:=.seq ys.toArray} }:=fun ys rv=>
   ⟨.ref s.heap.objs.size,_,I.laid (t':=s.toks) (o:=.tup (List.replicate k.toNat xs).flatten) (fun b ob q=>jm_ _ q) (jg_ _) ⟨by rw[len_rep,Nat.mul_comm];exact hz,_,rv,IsTup.new _ _⟩,rfl,q2 k1 _ (I.hok.fresh (jg_ _))⟩
  by_cases k0:k<=0
  ·refine xC_ zv_ ⟨_,ho,rfl⟩ F.entry_tuple_mul (F.args_tuple_mul_2 _ _) (HT.tup_mul_none l its.toArray n dd sl k t eK k0 h1) ⟨ho,?_⟩
   exact fin [] (by rw[show k.toNat=0 by omega];exact .nil)
  ·refine xC_ zv_ ⟨_,ho,rfl⟩ F.entry_tuple_mul (F.args_tuple_mul_2 _ _) (HT.tup_mul_many l its.toArray n dd sl k t eK (by omega) h2 (by rw[jk_,<-hlen];exact hz)) ⟨ho,?_⟩
   have e:=foldl_rep its k.toNat []
   rw[xS_]at e
   have e':List.foldl (fun x1 x2=>x1++x2) #[] (List.replicate k.toNat its.toArray)=(List.replicate k.toNat its).flatten.toArray:=e
   rw[e']
   exact fin _ (r.rep k.toNat)
def Hd (K:α3):R2:=fun x y H Q=>∃a b xs ys,x=.ref a/\y=.ref b/\SqT K H a xs/\SqT K H b ys/\xs.length+ys.length<=sizeLine /\
 (xs=[]->Q (.ref b) H)/\(xs ≠ []->ys=[]->Q (.ref a) H)/\(xs ≠ []->ys ≠ []->∀p,H p=none->Q (.ref p) (upd H p (.tup (xs++ys))))
theorem GG:OpR X (binaryOp .Add) (Hd X.K):=by
 intro pins s σ H x y v u Q I rx ry h
 obtain⟨a,b,xs,ys,rfl,rfl,ha,hb,hz,q0,q1,q2⟩:=h
 by_cases hx:xs=[]
 ·subst hx
  cases rx
  cases ry
  obtain⟨its,r1,p1,_⟩:=I.tuple ha
  obtain⟨aH,r2,p2,_⟩:=I.tuple hb
  have:its=[]:=r1.nil_iff.mpr rfl
  subst this
  obtain⟨⟨cls,dd,data,sl⟩,ho,hc,n,hd⟩:=id p1
  obtain⟨⟨cls2,fE,data2,ef⟩,fF,bO,n2,hd2⟩:=id p2
  simp only at hc hd bO hd2
  subst hc hd bO hd2
  exact concat_meets ⟨_,ho,rfl⟩ ⟨_,fF,rfl⟩ noFill_tuple_add seq_tuple_add zg_ x8_ (x5_ _ _)
   (HT.tuple_addW0 a b _ _ n n2 dd fE sl ef rfl) ⟨ho,fF,⟨.ref b,H,I,rfl,q0 rfl⟩⟩
 ·exact Ax_ pins s σ H _ _ v u Q I rx ry ⟨a,b,xs,ys,rfl,rfl,ha,hb,hx,hz,q1 hx,q2 hx⟩
end
theorem Ny      (Pv:Nat->St->Hp->Prop)(h0:∃m,Pv m σ H)
  (hs:∀m σ H,Pv m σ H->c σ H fun b H1=>if b=true then ∃N:St->Hp->Prop,(∀ae H',N ae H'->∃m',m'<m/\Pv m' ae H')/\tb {D with nx:=N,ct:=N,bk:=D.nx} σ H1 else D.nx σ H1):Zn c tb D σ H:=⟨Pv,h0,hs⟩
theorem Cz_ {K:α3}    {lo hi:Option Int}:rSlT K x lo hi H Q=∃a xs,x=.ref a/\SqT K H a xs /\
 ¬ (HT.sIx xs.length 0 lo=0/\HT.sIx xs.length xs.length hi=xs.length)/\∀p,H p=none->Q (.ref p) (upd H p (.tup (cutV xs lo hi))):=rfl
theorem KU {α:Type}(x:α)(k:Nat):(List.replicate k [x]).flatten=List.replicate k x:=by
 induction k with
 |zero=>rfl
 |succ k ih=>rw[qg_,xB_,ih,qg_];rfl
inductive TyW (K:α3)(H:Hp):V->Value->Prop where
 | non:TyW K H .non (.type "NoneType")
 | bl (x:Bool):TyW K H (.bl x) (.type "bool")
 | int (i:Int):TyW K H (.int i) (.type "int")
 | str (x:Str):TyW K H (.str x) (.type "str")
 | lst {a:Addr} {xs:List V} (e:SqL K H a xs):TyW K H (.ref a) (.type "list")
 | tup {a:Addr} {xs:List V} (e:SqT K H a xs):TyW K H (.ref a) (.type "tuple")
 | exc {a C:Addr} (e:H a=some (excO a C)) (c:ExcCls K C):TyW K H (.ref a) (.ref C)
theorem Es  : Dq X (.builtin "isinstance") (fun xs H Q=>∃x c cv t b,xs=[x,c]/\TyW X.K H x t/\(∀u,RelV c u->u=cv)/\kitOne X.K t cv=some b/\Q (.bl b) H):=by
 intro pins s σ H xs us Q I r h
 obtain⟨x,c,cv,t,b,rfl,ty,hc,hk,q⟩:=h
 cases ty with
 |non=>exact Fg pins s σ H _ us Q I r ⟨_,c,cv,_,b,rfl,.non,hc,hk,q⟩
 |bl y=>exact Fg pins s σ H _ us Q I r ⟨_,c,cv,_,b,rfl,.bl y,hc,hk,q⟩
 |int y=>exact Fg pins s σ H _ us Q I r ⟨_,c,cv,_,b,rfl,.int y,hc,hk,q⟩
 |str y=>exact Fg pins s σ H _ us Q I r ⟨_,c,cv,_,b,rfl,.str y,hc,hk,q⟩
 |exc e hC=>exact Qc pins s σ H _ us Q I r ⟨_,_,c,cv,b,rfl,e,hC,hc,hk,q⟩
 |@lst a xs e=>
  obtain⟨u,w',rfl,rx,rc⟩:=vals2 r
  rw[hc _ rc]
  cases rx
  obtain⟨its,_,pl,_⟩:=I.list e
  obtain⟨o,ho,bh,_⟩:=pl.isList
  exact qp_ zU_ I.kIn ⟨o,ho,bh⟩ hk (fun z=>nomatch z) fun tk=>⟨.bl b,H,I.tok tk,rfl,q⟩
 |@tup a xs e=>
  obtain⟨u,w',rfl,rx,rc⟩:=vals2 r
  rw[hc _ rc]
  cases rx
  obtain⟨its,_,⟨o,ho,bh,_⟩,_⟩:=I.tuple e
  exact qp_ PySem.W.kitx_tuple I.kIn ⟨o,ho,bh⟩ hk (fun z=>nomatch z) fun tk=>⟨.bl b,H,I.tok tk,rfl,q⟩
end L2
namespace GW
def FZ (L:Int):α2->α2
 |[]=>[0]
 |x::r=>if x=L-1 then 0::FZ L r else (x+1)::r
def F0 (L:Int)(w:α2):α2:=(FZ L w.reverse).reverse
def Be (L:Int):α2->Int
 |[]=>0
 |x::r=>Be L r*L+x+1
def place (L:Int)(w:α2):Int:=Be L w.reverse
def inW (L x:Int):Bool:=decide (0<=x)&&decide (x<L)
def isW (L:Int)(ws:α2):Bool:=ws.all (inW L)
theorem AH_  : inW L x=true↔0<=x/\x<L:=by simp[inW]
theorem AD   : isW L ws=true ↔ ∀x∈ws,0<=x/\x<L:=by simp[isW,AH_]
theorem Qd (L:Int)(m:Nat)(r:α2):FZ L (List.replicate m (L-1)++r)=List.replicate m 0++FZ L r:=by
 induction m with
 |zero=>rfl
 |succ m ih=>rw[qg_,zw_,FZ,if_pos rfl,ih,qg_,zw_]
theorem Wr (L:Int)(a:α2)(x:Int)(m:Nat)(h:x≠L-1):F0 L (a++[x]++List.replicate m (L-1))=a++[x+1]++List.replicate m 0:=by
 unfold F0
 rw[q3_,zi_,q3_,List.reverse_singleton,Qd]
 show (List.replicate m 0++FZ L (x::a.reverse)).reverse=_
 rw[FZ,if_neg h]
 simp
theorem Ws (L:Int)(m:Nat):F0 L (List.replicate m (L-1))=List.replicate (m+1) 0:=by
 unfold F0
 have:=Qd L m []
 rw[qj_]at this
 rw[zi_,this]
 show (List.replicate m (0:Int)++[0]).reverse=_
 rw[q3_,zi_]
 rfl
theorem RG (L:Int)(l:α2):Be L (FZ L l)=Be L l+1:=by
 induction l with
 |nil=>simp[FZ,Be]
 |cons x r ih=>
  rw[FZ]
  by_cases h:x=L-1
  ·rw[if_pos h,Be,ih,Be,h,z1_];omega
  ·rw[if_neg h,Be,Be];omega
theorem Uq (L:Int)(w:α2):place L (F0 L w)=place L w+1:=by
 unfold place F0
 rw[q0_,RG]
theorem RH  (hL:0<L)  (h:∀x∈l,0<=x/\x<L):∀x∈FZ L l,0<=x/\x<L:=by
 induction l with
 |nil=>intro x hx;simp[FZ]at hx;subst hx;exact⟨zk_ _,hL⟩
 |cons y r ih=>
  have hy:=h y jn_
  have hr:∀x∈r,0<=x/\x<L:=fun x hx=>h x (jl_ _ hx)
  intro x hx
  rw[FZ]at hx
  by_cases e:y=L-1
  ·rw[if_pos e]at hx
   rcases jJ_.mp hx with rfl|hx
   ·exact⟨zk_ _,hL⟩
   ·exact ih hr x hx
  ·rw[if_neg e]at hx
   rcases jJ_.mp hx with rfl|hx
   ·omega
   ·exact hr x hx
theorem RI  (hL:0<L)  (h:isW L w=true):isW L (F0 L w)=true:=by
 rw[AD]at h ⊢
 intro x hx
 unfold F0 at hx
 rw[q2_]at hx
 exact RH hL (fun y hy=>h y (q2_.mp hy)) x hx
theorem Qe (L:Int)(l:α2):l.length<=(FZ L l).length/\(FZ L l).length<=l.length+1:=by
 induction l with
 |nil=>simp[FZ]
 |cons x r ih=>
  rw[FZ]
  by_cases h:x=L-1
  ·rw[if_pos h];simp;omega
  ·rw[if_neg h];simp
theorem Qf (L:Int)(w:α2):w.length<=(F0 L w).length/\(F0 L w).length<=w.length+1:=by
 have:=Qe L w.reverse
 unfold F0
 rw[xM_]at this
 rw[xM_]
 exact this
def many (L:Int):Nat->Int
 |0=>0
 |k+1=>many L k*L+1
theorem Dr {L:Int}(hL:0<L):∀k,0<=many L k
 |0=>zk_ _
 |k+1=>by
  have:=zn_ (Dr hL k) (xJ_ hL)
  show 0<=many L k*L+1
  omega
theorem DR {L:Int}(hL:0<L):∀{l:α2},(∀x∈l,0<=x/\x<L)->many L l.length<=Be L l/\Be L l<many L (l.length+1)
 |[],_=>by simp[Be,many]
 |x::r,h=>by
  have hx:=h x jn_
  obtain⟨h1,h2⟩:=DR hL (l:=r) fun y hy=>h y (jl_ _ hy)
  show many L r.length*L+1<=Be L r*L+x+1/\Be L r*L+x+1<many L (r.length+1)*L+1
  have a1:=qt_ h1 (xJ_ hL)
  have a2:=qt_ (show Be L r+1<=many L (r.length+1) by omega) (xJ_ hL)
  rw[z1_]at a2
  omega
theorem Jt  (hL:0<L)  (h:isW L w=true):many L w.length<=place L w/\place L w<many L (w.length+1):=by
 have:=DR hL (l:=w.reverse) (fun x hx=>AD.mp h x (q2_.mp hx))
 rw[xM_]at this
 exact this
theorem Qg  (hL:0<L)  (h:j<=k):many L j<=many L k:=by
 induction h with
 |refl=>exact zk_ _
 |step _ ih=>
  rename_i m _
  refine Int.le_trans ih ?_
  show many L m<=many L m*L+1
  have:many L m*1<=many L m*L:=Int.mul_le_mul_of_nonneg_left (by omega) (Dr hL m)
  omega
theorem GH  (hL:0<L)  (h:isW L w=true)(k:Nat):w.length<=k↔place L w<many L (k+1):=by
 obtain⟨h1,h2⟩:=Jt hL h
 constructor
 ·intro hk
  exact Int.lt_of_lt_of_le h2 (Qg hL (by omega))
 ·intro hp
  refine Nat.le_of_not_lt fun hk=>?_
  have:=Qg hL (show k+1<=w.length from hk)
  omega
def nth (L:Int):Nat->α2
 |0=>[]
 |n+1=>F0 L (nth L n)
theorem ER {L:Int}(hL:0<L):∀n,isW L (nth L n)=true
 |0=>rfl
 |n+1=>RI hL (ER hL n)
theorem F1 (L:Int):∀n:Nat,place L (nth L n)=n
 |0=>rfl
 |n+1=>by show place L (F0 L (nth L n))=_;rw[Uq,F1 L n];push_cast;rfl
theorem Ur  (hL:0<L)(n:Nat):(nth L n).length<=n:=by
 induction n with
 |zero=>simp[nth]
 |succ n ih=>have:=(Qf L (nth L n)).2;show (F0 L (nth L n)).length<=n+1;omega
theorem ID (L:Int)(w:α2)(x:Int):place L (w++[x])=place L w*L+x+1:=by
 unfold place
 rw[q3_];rfl
theorem Tn {L:Int}{w:α2}{k:Nat}(hk:k<=w.length)(h:∀j,k<=j->j<w.length->w[j]?=some (L-1)):w=w.take k++List.replicate (w.length-k) (L-1):=by
 apply qL_
 intro j
 by_cases hj:j<k
 ·rw[jj_ (by rw[jB_];omega),xz_ hj]
 ·by_cases hl:j<w.length
  ·rw[h j (by omega) hl,ju_ (by rw[jB_];omega),x7_,if_pos (by rw[jB_];omega)]
  ·rw[jR_ (by omega),jR_ (by rw[jo_,jB_,qs_];omega)]
theorem Qh     (hk:k<w.length)(h:∀j,k+1<=j->j<w.length->w[j]?=some (L-1))(hx:w[k]?=some x)(ao:x≠L-1):
  F0 L w=w.take k++[x+1]++List.replicate (w.length-(k+1)) 0:=by
 have e:=Tn (show k+1<=w.length from hk) h
 have e2:w.take (k+1)=w.take k++[x]:=by rw[jV_,hx];rfl
 rw[e2]at e
 have:=Wr L (w.take k) x (w.length-(k+1)) ao
 rw[<-e]at this
 exact this
theorem RJ   (h:∀j,0<=j->j<w.length->w[j]?=some (L-1)):F0 L w=List.replicate (w.length+1) 0:=by
 have e:=Tn (jZ_ _) h
 simp at e
 have:=Ws L w.length
 rw[<-e]at this
 exact this
end GW
namespace L2
open PySem PySem.Spec PyProof.Rows
section
variable {te ta tb:TE} {A:TA} {D:Ends} {σ:St} {H:Hp} {Q:VK} {K:α3} {tbd ts:TS}
theorem To   : V1 x vs H Q=∃l b xs zs,x=.ref l/\vs=[.ref b]/\H l=some (.lst xs)/\H b=some (.lst zs)/\xs.length+zs.length<=sizeLine/\Q .non (upd H l (.lst (xs++zs))):=rfl
theorem CA_  : rCat x y H Q=∃l b xs zs,x=.ref l/\y=.ref b/\H l=some (.lst xs)/\H b=some (.lst zs)/\xs.length+zs.length<=sizeLine/\∀p,H p=none->Q (.ref p) (upd H p (.lst (xs++zs))):=rfl
theorem CB_  : rRep x y H Q=∃l k xs,x=.ref l/\y=.int k/\H l=some (.lst xs) /\ -(2 ^ 63)<=k/\k<2 ^ 63/\xs.length*k.toNat<=sizeLine/\∀p,H p=none->Q (.ref p) (upd H p (.lst (List.replicate k.toNat xs).flatten)):=rfl
end
end L2
namespace L2
open PySem PySem.Spec PyProof.Rows
theorem iteB {c A B:Prop}[Decidable c](hB:B)(h:c->B->A):if c then A else B:=by
 by_cases hc:c
 ·rw[if_pos hc];exact h hc hB
 ·rw[if_neg hc];exact hB
theorem AI_ (x y:Int):eqV (.int x) (.int y)=decide (V.int x=V.int y):=by
 by_cases h:x=y
 ·subst h;simp[eqV]
 ·rw[qd_ (fun z=>h (by injection z))];simp[eqV,h]
theorem EqD.ints {K:α3}{H:Hp}{a c:Addr}{xs ys:α2}(hq:(SqL K H a (xs.map V.int)/\SqL K H c (ys.map V.int))\/(SqT K H a (xs.map V.int)/\SqT K H c (ys.map V.int)))(n:Nat):EqD K H (n+1) (.ref a) (.ref c) (decide (xs=ys)):=by
 have:=EqD.flat hq (fun x hx=>by obtain⟨_,_,rfl⟩:=Er hx;rfl) (fun x hx=>by obtain⟨_,_,rfl⟩:=Er hx;rfl) (fun x hx y hy=>by obtain⟨_,_,rfl⟩:=Er hx;obtain⟨_,_,rfl⟩:=Er hy;exact AI_ _ _) n
 have e:decide (xs.map V.int=ys.map V.int)=decide (xs=ys):=by
  rw[qx_]
  simp only[qq_]
  constructor
  ·intro h
   exact (zQ_ (fun a b h=>by injection h)).mp h
  ·intro h;rw[h]
 rw[e]at this
 exact this
end L2
namespace L2
open PySem PySem.Spec PyProof.Rows
def iSeq (K:α3)(tl:TE):TI:=fun σ H R=>tl σ H fun x H1=>∃a,x=.ref a/\(((∃xs,SqL K H1 a xs)/\R (Itl K a) H1)\/((∃xs,SqT K H1 a xs)/\R (Itt K a) H1))
theorem ZH {K:α3}     : iSeq K te σ H Z=te σ H fun x H1=>∃a,x=.ref a/\(((∃xs,SqL K H1 a xs)/\Z (Itl K a) H1)\/((∃xs,SqT K H1 a xs)/\Z (Itt K a) H1)):=rfl
theorem ZI    (hl:PE X l tl):PI X tg l (iSeq X.K tl):=by
 intro pins s σ H R I h
 refine thn (hl pins s σ H _ I h) fun v s1 ⟨x,H1,I1,r1,q1⟩=>?_
 obtain⟨a,e,q⟩:=q1
 subst e
 cases r1
 rcases q with ⟨⟨xs,hq⟩,q⟩|⟨⟨xs,hq⟩,q⟩
 ·obtain⟨its,rv,p,hz⟩:=I1.list hq
  refine wpAny_pyIter_list p.isList ?_
  refine⟨s1.heap.objs.size,[s1.heap.objs.size],_,_,H1,rfl,I1.kept (t':=s1.toks) fun b o e=>jm_ _ e,PP a _,⟨_,jC_ _ rfl,rfl,rfl⟩,fun b hb=>?_,q⟩
  have e:b=s1.heap.objs.size:=by simpa using hb
  subst e
  exact I1.fpOk (jg_ _) (I1.hok.fresh (jg_ _))
 ·obtain⟨its,rv,p,hz⟩:=I1.tuple hq
  refine xP_ (show s1.heap.IsTuple a its.toArray from p) ?_
  refine⟨s1.heap.objs.size,[s1.heap.objs.size],_,_,H1,rfl,I1.kept (t':=s1.toks) fun b o e=>jm_ _ e,Nu a _,⟨_,jC_ _ rfl,rfl,rfl⟩,fun b hb=>?_,q⟩
  have e:b=s1.heap.objs.size:=by simpa using hb
  subst e
  exact I1.fpOk (jg_ _) (I1.hok.fresh (jg_ _))
end L2
namespace GW
theorem Qi  (hL:0<L)  (hx:isW L xs=true):0<=place L xs:=by
 have:=(Jt hL hx).1
 have:=Dr hL xs.length
 omega
theorem Wt  (hL:0<L):∀{xs ys:α2},isW L xs=true->isW L ys=true->place L xs=place L ys->xs=ys:=by
 have key:∀{l m:α2},(∀x∈l,0<=x/\x<L)->(∀x∈m,0<=x/\x<L)->Be L l=Be L m->l=m:=by
  intro l
  induction l with
  |nil=>
   intro m _ hm h
   cases m with
   |nil=>rfl
   |cons y s=>
    have hy:=hm y jn_
    have:=(DR hL (l:=s) fun z hz=>hm z (jl_ _ hz)).1
    have h0:=Dr hL s.length
    have hp:=zn_ (show 0<=Be L s by omega) (xJ_ hL)
    have h':(0:Int)=Be L s*L+y+1:=h
    omega
  |cons x r ih=>
   intro m hl hm h
   have hx:=hl x jn_
   cases m with
   |nil=>
    have:=(DR hL (l:=r) fun z hz=>hl z (jl_ _ hz)).1
    have h0:=Dr hL r.length
    have hp:=zn_ (show 0<=Be L r by omega) (xJ_ hL)
    have h':Be L r*L+x+1=(0:Int):=h
    omega
   |cons y s=>
    have hy:=hm y jn_
    have h':Be L r*L+x+1=Be L s*L+y+1:=h
    have e1:Be L r=Be L s:=by
     rcases Int.lt_trichotomy (Be L r) (Be L s) with ah|he|ah
     ·have:=qt_ (show Be L r+1<=Be L s by omega) (xJ_ hL)
      rw[z1_]at this;omega
     ·exact he
     ·have:=qt_ (show Be L s+1<=Be L r by omega) (xJ_ hL)
      rw[z1_]at this;omega
    rw[e1]at h'
    rw[ih (fun z hz=>hl z (jl_ _ hz)) (fun z hz=>hm z (jl_ _ hz)) e1,show x=y by omega]
 intro xs ys hx hy h
 have:=key (l:=xs.reverse) (m:=ys.reverse) (fun x h=>AD.mp hx x (q2_.mp h)) (fun x h=>AD.mp hy x (q2_.mp h)) h
 exact List.reverse_inj.mp this
end GW
namespace L2
open PySem PySem.Spec PyProof.Rows
theorem ZJ  {K:α3}{T id:String}        (hK:X.K=K)(pa:PlainAttrs T)(slot:Slot T name id)(l7:typeOf (.builtin id)=pure (.type "method_descriptor"))(hm:MtR X id r)(ho:PE X o to)(ha:PA X (e::es) t)
  (eN:attributeBase o name X.env (eval o X.env)=eval o X.env:=by rfl)
  (fS:((backTo az (starEach (e::es) X.env)).all (fun x => !x.1)&&(backToKw az (keywordEach [] X.env)).all (fun x=>x.1.isSome)
   && decide ((e::es).length+([]:List Keyword).length+(if ([]:List Keyword).isEmpty then 0 else 1)<30))=true:=by rfl)
  (eO:(apos.endLine==az.line)=true:=by rfl) (hs:starEach (e::es) X.env=(false,eval e X.env)::starEach es X.env:=by rfl) (cT:(backTo az (starEach es X.env)).any (·.1)=false:=by rfl):
  PE X (.Call (.Attribute o name apos) (e::es) [] az) (tBM K T r to t):=by
 subst hK
 exact Fd pa slot l7 hm ho ha eN fS eO hs cT
section
variable {X:Cx} {K:α3}
theorem Dj (h:X.K=K):IxR X (rIxT K):=by subst h;exact Ao
theorem Co (h:X.K=K):IxR X (rIxL K):=by subst h;exact Bi
theorem Oe (h:X.K=K):Dq X (.builtin "len") (fun xs H Q=>∃p ys,xs=[.ref p]/\(SqL K H p ys\/SqT K H p ys)/\Q (.int ys.length) H):=by subst h;exact Ak
theorem Of (h:X.K=K):Dq X (.type "list") (fun xs H Q=>∃p ys,xs=[.ref p]/\(SqL K H p ys\/SqT K H p ys)/\∀l,H l=none->Q (.ref l) (upd H l (.lst ys))):=by subst h;exact FW
end
end L2
namespace GW
def Cr (aa:α1)(r x:Int):Int:=(aa.getD r.toNat []).getD x.toNat 0
def AK (aa:α1)(ws:α2):Int:=ws.foldl (Cr aa) 0
def Nz (aa:α1)(ws:α2):α2:=(List.range (ws.length+1)).map fun j=>AK aa (ws.take j)
structure Wf (L:Int)(marks:α2)(aa:α1):Prop where
 l1:1<=L
 l6:L<=6
 n1:1<=marks.length
 n40:marks.length<=40
 len:aa.length=marks.length
 rows:∀row∈aa,(row.length:Int)=L/\∀x∈row,0<=x/\x<marks.length
 mks:∀m∈marks,0<=m/\m<=1000000000
theorem CG     (h1:aa[r.toNat]?=some row)(h2:row[x.toNat]?=some g):Cr aa r x=g:=by
 unfold Cr
 have e:aa.getD r.toNat []=row:=by rw[jh_,h1];rfl
 rw[e,jh_,h2];rfl
theorem Wf.row {L:Int}{marks:α2}{aa:α1}(wf:Wf L marks aa){r:Int}(h0:0<=r)(h1:r<marks.length):∃row,aa[r.toNat]?=some row/\row∈aa/\(row.length:Int)=L:=by
 have ah:r.toNat<aa.length:=by rw[wf.len];omega
 exact⟨aa[r.toNat],by simp[ah],j2_ ah,(wf.rows _ (j2_ ah)).1⟩
theorem Wf.step {L:Int}{marks:α2}{aa:α1}(wf:Wf L marks aa){r x:Int}(h0:0<=r)(h1:r<marks.length)(x0:0<=x)(x1:x<L):∃row g,aa[r.toNat]?=some row/\row[x.toNat]?=some g/\Cr aa r x=g/\0<=g/\g<marks.length:=by
 obtain⟨row,hr,hm,hl⟩:=wf.row h0 h1
 have ah:x.toNat<row.length:=by omega
 have hg:row[x.toNat]?=some row[x.toNat]:=by simp[ah]
 exact⟨row,row[x.toNat],hr,hg,CG hr hg,(wf.rows row hm).2 _ (j2_ ah)⟩
theorem CH (aa:α1)(ws:α2)(x:Int):AK aa (ws++[x])=Cr aa (AK aa ws) x:=by
 unfold AK
 rw[qM_];rfl
theorem GI {aa:α1}{ws:α2}{i:Nat}{x:Int}(h:ws[i]?=some x):AK aa (ws.take (i+1))=Cr aa (AK aa (ws.take i)) x:=by
 rw[jV_,h]
 exact CH _ _ _
theorem Wf.walk    (wf:Wf L marks aa)  (hw:isW L ws=true):∀i,0<=AK aa (ws.take i)/\AK aa (ws.take i)<marks.length:=by
 intro i
 induction i with
 |zero=>have:=wf.n1;simp[AK];omega
 |succ i ih=>
  cases e:ws[i]? with
  |none=>
   have hle:=xr_.mp e
   rw[jO_ (by omega)]
   rw[jO_ hle]at ih
   exact ih
  |some x=>
   rw[GI e]
   have hx:=AD.mp hw x (jd_ e)
   obtain⟨_,g,_,_,h,h0,h1⟩:=wf.step ih.1 ih.2 hx.1 hx.2
   rw[h];exact⟨h0,h1⟩
theorem Og (aa:α1)(ws:α2):(Nz aa ws).length=ws.length+1:=by simp[Nz]
theorem Us    (h:i<=ws.length):(Nz aa ws)[i]?=some (AK aa (ws.take i)):=by
 unfold Nz
 rw[je_,qG_ (by omega)];rfl
theorem RK (aa:α1)(ws:α2):(Nz aa ws)[ws.length]?=some (AK aa ws):=by
 rw[Us (jg_ _),jU_]
end GW
namespace L2
open PySem PySem.Spec PyProof.Rows GW
def Rows (K:α3)(H:Hp)(w:Addr)(aa:α1):Prop:=∃ts:List Addr,SqT K H w (ts.map V.ref)/\ts.length=aa.length/\∀(i:Nat) (t:Addr) (row:α2),ts[i]?=some t->aa[i]?=some row->SqT K H t (row.map V.int)
def BO (K:α3)(H:Hp)(h:Addr)(L:Int)(marks:α2)(aa:α1):Prop:=∃m w:Addr,SqT K H h [.int L,.ref m,.ref w]/\SqT K H m (marks.map V.int)/\Rows K H w aa
theorem Rows.mono {K:α3}    (h:Rows K H w aa)(e:Same H H'):Rows K H' w aa:=by
 obtain⟨ts,h1,h2,h3⟩:=h
 exact⟨ts,e.seqT h1,h2,fun i t r a b=>e.seqT (h3 i t r a b)⟩
theorem BO.mono {K:α3}      (x:BO K H h L marks aa)(e:Same H H'):BO K H' h L marks aa:=by
 obtain⟨m,w,h1,h2,h3⟩:=x
 exact⟨m,w,e.seqT h1,e.seqT h2,h3.mono e⟩
theorem Rows.at {K:α3}{H:Hp}{w:Addr}{aa:α1}(h:Rows K H w aa){i:Nat}{row:α2}(hr:aa[i]?=some row):∃xs t,SqT K H w xs/\atI xs (i:Int)=some (V.ref t)/\SqT K H t (row.map V.int):=by
 obtain⟨ts,h1,h2,h3⟩:=h
 have ah:i<ts.length:=by rw[h2];exact (jb_.mp hr).1
 have ht:ts[i]?=some ts[i]:=by simp[ah]
 exact⟨_,ts[i],h1,FV (by rw[je_,ht];rfl),h3 i _ _ ht hr⟩
theorem Rows.atZ {K:α3}    (h:Rows K H w aa)   (h0:0<=r)(hr:aa[r.toNat]?=some row):∃xs t,SqT K H w xs/\atI xs r=some (V.ref t)/\SqT K H t (row.map V.int):=by
 obtain⟨xs,t,a,b,c⟩:=h.at hr
 exact⟨xs,t,a,by rw[<-b];congr 1;omega,c⟩
theorem Wu    (h:xs[xs.length-1]?=some v):atI xs (-1)=some v:=by
 have ah:=(jb_.mp h).1
 unfold atI ixN
 rw[if_neg (by omega),if_pos (by omega)]
 show xs[(-1+(xs.length:Int)).toNat]?=some v
 rw[show (-1+(xs.length:Int)).toNat=xs.length-1 by omega]
 exact h
theorem Bs {ns:α2}{i:Int}{v:Int}(h0:0<=i)(h:ns[i.toNat]?=some v):atI (ns.map V.int) i=some (V.int v):=D4 h0 (by rw[je_,h];rfl)
theorem Oh {K:α3}    (hp:H p=some (.lst zs))(h:SqT K H t xs):SqT K (upd H p (.lst ys)) t xs:=by
 rcases h with (q|⟨o,q⟩)|q
 ·refine .inl (.inl ?_)
  rw[Ai (fun z=>by rw[z,hp]at q;cases q)];exact q
 ·refine .inl (.inr ⟨o,?_⟩)
  rw[Ai (fun z=>by rw[z,hp]at q;cases q)];exact q
 ·exact .inr q
def DL (K:α3)(H:Hp)(l:Addr)(ws:α1):Prop:=∃ts:List Addr,H l=some (.lst (ts.map V.ref))/\ts.length=ws.length/\∀(i:Nat) (t:Addr) (w:α2),ts[i]?=some t->ws[i]?=some w->SqT K H t (w.map V.int)
theorem DL.mono {K:α3}    (h:DL K H l ws)(e:Same H H'):DL K H' l ws:=by
 obtain⟨ts,h1,h2,h3⟩:=h
 exact⟨ts,e _ _ h1,h2,fun i t w a b=>e.seqT (h3 i t w a b)⟩
theorem DL.off {K:α3}     (h:DL K H l ws)(hp:H p=some (.lst zs))(ne:l≠p):DL K (upd H p (.lst ys)) l ws:=by
 obtain⟨ts,h1,h2,h3⟩:=h
 exact⟨ts,by rw[Ai ne];exact h1,h2,fun i t w a b=>Oh hp (h3 i t w a b)⟩
theorem DL.push {K:α3}     (h:DL K H l ws)(hw:SqT K H t (w.map V.int)):∃xs,H l=some (.lst xs)/\xs.length=ws.length/\DL K (upd H l (.lst (xs++[V.ref t]))) l (ws++[w]):=by
 obtain⟨ts,h1,h2,h3⟩:=h
 refine⟨ts.map V.ref,h1,by rw[ja_,h2],ts++[t],by rw[Ab,jT_];rfl,by simp[h2],fun i t' w' a b=>Oh h1 ?_⟩
 by_cases hi:i<ts.length
 ·rw[jj_ hi]at a
  rw[jj_ (by omega)]at b
  exact h3 i t' w' a b
 ·have ht:=(jb_.mp a).1
  rw[jo_,jY_]at ht
  have e:i=ts.length:=by omega
  subst e
  rw[ju_ (jg_ _),qC_]at a
  rw[ju_ (by omega),h2,qC_]at b
  simp at a b
  subst a b
  exact hw
theorem DL.nil {K:α3}   (h:H l=some (.lst [])):DL K H l []:=⟨[],h,rfl,fun i t w a _=>by simp at a⟩
theorem DL.rows {K:α3}    (h:DL K H l ws):∃xs,H l=some (.lst xs)/\∀t,H t=none->Rows K (upd H t (.tup xs)) t ws:=by
 obtain⟨ts,h1,h2,h3⟩:=h
 exact⟨_,h1,fun t ht=>⟨ts,SqT.of Ab,h2,fun i t' w a b=>(Same.new ht).seqT (h3 i t' w a b)⟩⟩
end L2
namespace PySem
open Sem (wp)
open AutoSeq1 (wpAny_loadPart')
section
variable {prog:Program} {w:World} {A:Around} {E:Value->Shared->Prop} {s:Shared}
theorem IE   {items}   (hit:s.heap.IsTupleIter it l i)
  (hl:s.heap.IsTuple l items) (hx:items[i]?=some x)
  (hQ:∀h',h'.IsTupleIter it l (i+1)->Heap.SameBut it s.heap h'->Q x {s with heap:=h' }):
  wpAny (model prog w) A (Builtin.SmallTypes.nextOf (.ref it)) Q E s:=by
 obtain⟨o,ho,hc,hd⟩:=id hit
 obtain⟨ol,jZ,_,nl,mz⟩:=hl
 unfold Builtin.SmallTypes.nextOf
 refine jc_ (qw_ (name:=Str.ofString "__next__") hit.typeIs xm_
  (xb_ xm_ hit.typeIs F.entry_tuple_iterator_next ?_ (F.args_tuple_iterator_next_1 _)))
 show wpAny _ _ (field (.ref it) 0 >>= _) _ _ s
 refine jc_ (q9_ ho hd (x:=.ref l) rfl ?_)
 show wpAny _ _ (if (Value.ref l==Value.none)=true then _ else _) _ _ s
 rw[if_neg (show ¬ ((Value.ref l==Value.none)=true) from jr_)]
 show wpAny _ _ (field (.ref it) 1 >>= _) _ _ s
 refine jc_ (q9_ ho hd (x:=.int i 0) rfl ?_)
 show wpAny _ _ (seqItems? (.ref l) >>= _) _ _ s
 refine jc_ (zo_ jZ mz ?_)
 simp only[ji_,hx]
 refine jc_ (wpAny_setField ho hd (by simp) (jq_ ⟨x,rfl,jq_ (hQ _ ?_ (x3_ ..))⟩))
 exact⟨_,qU_ _ ho (Obj.isFreed_of_fields (zc_ hd _)),(Obj.cls_mapFields ..).trans hc,by
  rw[zc_ hd];simp[rawInt]⟩
theorem JI   {items}  (hh:A.handled=none)
  (hit:s.heap.IsTupleIter it l i) (hl:s.heap.IsTuple l items) (hx:items[i]?=none)
  (hE:∀h' e,Heap.ExtBut it s.heap h'->(∃o,h'.get? e=some o/\o.cls=.type "StopIteration")->E (.ref e) {s with heap:=h' }):
  wpAny (model prog w) A (Builtin.SmallTypes.nextOf (.ref it)) Q E s:=by
 obtain⟨o,ho,hc,hd⟩:=id hit
 obtain⟨ol,jZ,_,nl,mz⟩:=hl
 unfold Builtin.SmallTypes.nextOf
 refine jc_ (qw_ (name:=Str.ofString "__next__") hit.typeIs xm_
  (xb_ xm_ hit.typeIs F.entry_tuple_iterator_next ?_ (F.args_tuple_iterator_next_1 _)))
 show wpAny _ _ (field (.ref it) 0 >>= _) _ _ s
 refine jc_ (q9_ ho hd (x:=.ref l) rfl ?_)
 show wpAny _ _ (if (Value.ref l==Value.none)=true then _ else _) _ _ s
 rw[if_neg (show ¬ ((Value.ref l==Value.none)=true) from jr_)]
 show wpAny _ _ (field (.ref it) 1 >>= _) _ _ s
 refine jc_ (q9_ ho hd (x:=.int i 0) rfl ?_)
 show wpAny _ _ (seqItems? (.ref l) >>= _) _ _ s
 refine jc_ (zo_ jZ mz ?_)
 simp only[ji_,hx]
 refine jc_ (wpAny_rule (jc_ (wpAny_setField ho hd (by simp) ?_)))
 show wpAny _ _ (newExc (.type "StopIteration") [] >>= _) _ _ _
 refine jc_ ?_
 simp only[newExc,newTuple]
 refine jc_ (qz_ ?_ (by size_fits))
 refine jc_ (m:=firstArgMember _ _) (wpAny_of_eq (a:=Value.none) (by first|rfl|(simp only[firstArgMember];rfl)) ?_)
 refine qz_ ?_ (by size_fits)
 simp only[raiseNew]
 refine jc_ (wpAny_handled ?_)
 first|rw[show A.in1.handled=none from hh]|rw[hh]
 refine jc_ (jq_ (wpAny_throw ?_))
 exact hE _ _ (((x3_ ..).extBut.push _).push _) ⟨_,jC_ _ rfl,rfl⟩
theorem Draws.tuple (hh:A.handled=none)(it l:Addr)(ao:l≠it)(items:Array Value):
  Draws prog w A it [it,l] items.size (fun i v=>items[i]?=some v) (fun i h=>h.IsTupleIter it l i/\h.IsTuple l items) where
 live:=fun _ _ st=>let ⟨o,ho,_⟩:=st.1;⟨o,ho⟩
 frame:=fun _ _ _ st hk=>⟨st.1.at fun o e=>hk it (by simp) o e,by
  obtain⟨o,ho,r⟩:=st.2
  exact⟨o,hk l (by simp) o ho,r⟩⟩
 item:=fun i s Q E hi st hQ=>by
  refine IE st.1 st.2 (x:=items[i]) (by simp[hi]) fun h' cF aX=>?_
  exact hQ _ h' s.toks (by simp[hi]) ⟨cF,st.2.extBut aX.extBut ao⟩ aX
 done:=fun s Q E st hE=>JI hh st.1 st.2 (by simp) hE
theorem GR (l:Addr)(items:Array Value)(n:Nat)(mB:Option Addr)(sl:Array (α5)):
  Meets (Builtin.«enumerate.__new__» ⟨[.type "enumerate",.ref l],[]⟩) (fun _ R s=>s.heap.get? l=some {cls:=.type "tuple",dict:=mB,data:=.seq items n,slots:=sl} /\
   R (.ok (.ret (.ref (s.heap.push {cls:=.type "tuple_iterator",data:=.fields #[.ref l,.int 0 0]}).objs.size)))
    {s with heap:=(s.heap.push {cls:=.type "tuple_iterator",data:=.fields #[.ref l,.int 0 0]}).push {cls:=.type "enumerate",data:=.fields #[.none,.bool false,.ref s.heap.objs.size,rawInt 0,.none,.none]} }):=
 .of_wp fun prog w A R s h=>by
  obtain⟨hp,g,d,tk,os⟩:=s;obtain⟨hl,h⟩:=h
  have cG:=sub_enumerate
  have hL:Heap.IsTuple (Shared.heap ⟨hp,g,d,tk,os⟩) l items:=⟨_,hl,rfl,n,rfl⟩
  wp_walk using j4_ hl
  refine wpAny_stack_any fun st=>jq_ ?_
  split
  ·rename_i c _ _ _ _ _
   cases (c==Value.type "enumerate")
   ·wp_walk using j4_ hl,xP_ hL
    exact⟨_,rfl,h⟩
   ·wp_walk using j4_ hl,xP_ hL
    exact⟨_,rfl,h⟩
  ·wp_walk using j4_ hl,xP_ hL
   exact⟨_,rfl,h⟩
theorem GS    (hL:s.heap.IsTuple l items)
  (h:∀h',IsEnum h' (s.heap.objs.size+1) s.heap.objs.size 0 .none->h'.IsTupleIter s.heap.objs.size l 0->h'.objs.size=s.heap.objs.size+2 ->
   (∀b o,s.heap.get? b=some o->h'.get? b=some o)->Q (.ref (s.heap.objs.size+1)) {s with heap:=h' }):
  wpAny (model prog w) A (call (.type "enumerate") [.ref l]) Q E s:=by
 obtain⟨⟨c,mB,dt,sl⟩,hl,hc,n,hd⟩:=hL
 replace hc:c=.type "tuple" := hc
 replace hd:dt=.seq items n:=hd
 subst hc hd
 refine callType_new F.called_enumerate (by decide) (F.typeCall_enumerate_1 _) (F.newCall_enumerate_1 _) (fun obj=>F.args_object_init_2 obj _) F.entry_enumerate_new
  (GR l items n mB sl) ⟨hl,?_⟩
 have hz:(s.heap.push {cls:=.type "tuple_iterator",data:=.fields #[.ref l,.int 0 0]}).objs.size=s.heap.objs.size+1:=qR_ ..
 show _/\_
 rw[hz]
 have he:IsEnum ((s.heap.push {cls:=.type "tuple_iterator",data:=.fields #[.ref l,.int 0 0]}).push
   {cls:=.type "enumerate",data:=.fields #[.none,.bool false,.ref s.heap.objs.size,rawInt 0,.none,.none]}) (s.heap.objs.size+1) s.heap.objs.size 0 .none:=by
  have:=jC_ (s.heap.push {cls:=.type "tuple_iterator",data:=.fields #[.ref l,.int 0 0]})
   (o:={cls:=.type "enumerate",data:=.fields #[.none,.bool false,.ref s.heap.objs.size,rawInt 0,.none,.none]}) rfl
  rw[hz]at this;exact this
 refine⟨⟨_,he,rfl⟩,h _ he ⟨_,jm_ _ (jC_ _ rfl),rfl,rfl⟩ (by rw[qR_,hz]) fun b o x=>jm_ _ (jm_ _ x)⟩
end
end PySem
namespace L2
open PySem PySem.Spec PyProof.Rows
section
variable {X:Cx} {pins:α7} {σ:St} {H:Hp} {s:Shared}
theorem Inv.un2   (I:Inv X pins σ H s)(k:∀b o,b≠e->b≠it->s.heap.get? b=some o->h'.get? b=some o)(f1:FpOk X pins H e)(f2:FpOk X pins H it):Un (frs X.stack) [e,it] H H s.heap h'/\HOk X.prog X.w H h':=by
 have ne:∀b u,H b=some u->b≠e/\b≠it:=fun b u q=>⟨(fun z=>by rw[z,f1.1]at q;cases q),(fun z=>by rw[z,f2.1]at q;cases q)⟩
 have ed:∀{b:Addr},b ∉ [e,it]->b≠e/\b≠it:=fun hb=>by simpa using hb
 refine⟨⟨fun b o q _ _ hb=>k b o (ed hb).1 (ed hb).2 q,fun b o q _ _ hb=>⟨o.slots,k b o (ed hb).1 (ed hb).2 q⟩,fun _ _ _ n _=>n,fun b o q hb=>⟨o,k b o (ed hb).1 (ed hb).2 q⟩,fun _ _ q=>q,fun _ _ _ q=>q,fun b ps q=>⟨#[],by rw[q];simp⟩⟩,fun b u q=>?_⟩
 refine (I.hok b u q).stay (fun c v hc qv=>?_) (fun _ q=>q) fun _ _ q=>q
 have ao:c≠e/\c≠it:=by
  rcases hc with rfl|hc
  ·exact ne _ _ q
  ·exact ne _ _ hc
 exact k c v ao.1 ao.2 qv
theorem FpOk.ch  (f:FpOk X pins H b):(b∈X.ex\/X.s₀.heap.objs.size<=b)/\b≠X.env.locals/\(∀x c,X.env.cells.lookup x=some c->c≠b)/\∀p∈X.pn++pins,p.1≠b:=⟨f.2.2.2.1,f.2.1,f.2.2.2.2.1,f.2.2.2.2.2⟩
end
def Itn (K:α3)(a:Addr)(xs:List V):It:=⟨fun i H=>i<xs.length/\SqT K H a xs,fun i H x H'=>∃t v,H t=none/\xs[i]?=some v/\x=.ref t/\H'=upd H t (.tup [.int i,v]),fun i H=>i=xs.length/\SqT K H a xs⟩
theorem Ut {P:Program}{w:World}{K:α3}{elts:List Expr}{x1}{hX:Pos}(a e it:Addr)(j0:e≠it)(j3:a≠it)(hae:a≠e)(xs:List V):Turn P w K (.Tuple elts x1 hX) (Itn K a xs) [e,it] e (fun i h=>∃old,IsEnum h e it (i:Nat) old/\h.IsTupleIter it a i) where
 mem:=by simp
 obj:=fun i h st b hb=>by
  obtain⟨old,h1,o,h2,c,d⟩:=st
  rcases jJ_.mp hb with rfl|hb
  ·exact⟨_,h1,fun v z=>by cases z⟩
  ·rw[js_.mp hb]
   exact⟨o,h2,fun v z=>by rw[d]at z;cases z⟩
 keep:=fun i h h' st k=>by
  obtain⟨old,h1,h2⟩:=st
  exact⟨old,k e (by simp) _ h1,h2.at fun o q=>k it (by simp) o q⟩
 item:=by
  intro X hP hw hK hc i pins s σ H E I hf st hg
  subst hP hw hK
  obtain⟨hi,hq⟩:=hg
  obtain⟨old,he,hit⟩:=st
  obtain⟨its,rv,p,hz⟩:=I.tuple hq
  have hl:=rv.length
  have pt:s.heap.IsTuple a its.toArray:=p
  have f1:=hf e (by simp)
  have f2:=hf it (by simp)
  have Dw:=Draws.tuple (prog:=X.prog) (w:=X.w) (A:=X.A.in1) (I.ok.hd hc) it a j3 its.toArray
  refine wpAny_pyNext_enum_itemD Dw he ⟨hit,pt⟩ (by simp;omega) j0 (by simp[j0,qv_ hae]) fun u h' tk hu gF ig hget hsz hk=>?_
  have hT:s.heap.objs.size≠e:=qn_ (jt_ he)
  refine⟨_,rfl,wpAny_letOwnedTupleGo_enum gF fun h2 mD ee=>?_⟩
  have eU:∀b o,b≠e->b≠it->s.heap.get? b=some o->h2.get? b=some o:=fun b o h1 h3 q=>(ee.2 b h1).trans (hk b o h1 h3 q)
  obtain⟨un,hok⟩:=I.un2 eU f1 f2
  have hn:H s.heap.objs.size=none:=I.hok.fresh (jg_ _)
  have hv:xs[i]?=some xs[i]:=by simp[hi]
  obtain⟨u',gK,ru⟩:=rv.get hv
  have eu:u'=u:=by
   have hu2:its[i]?=some u:=by simpa using hu
   rw[gK]at hu2
   exact jp_ hu2
  subst eu
  have hget2:h2.get? s.heap.objs.size=some {cls:=.type "tuple",data:=.seq #[.int i tk,u']}:=(ee.2 _ hT).trans hget
  have new:B6 X.prog X.w (upd H s.heap.objs.size (.tup [.int i,xs[i]])) h2 s.heap.objs.size (.tup [.int i,xs[i]]):=⟨by have:=AC;simp;omega,[.int i tk,u'],.cons ⟨tk,rfl⟩ (.cons ru .nil),_,hget2,rfl,_,rfl⟩
  refine⟨.ref s.heap.objs.size,upd H s.heap.objs.size (.tup [.int i,xs[i]]),I.call' (s':={s with heap:=h2,toks:=tk+1}) (ch:=[e,it]) rfl (un.track (jg_ _) hn) (hok.track hn new) I.bare (fun b hb=>?_),rfl,⟨_,_,hn,hv,rfl,rfl⟩,?_,fun b hb=>?_⟩
  ·exact (hf b hb).ch
  ·refine⟨u',by simpa using mD,?_⟩
   exact ig.1.at fun o q=>(ee.2 it (qv_ j0)).trans q
  ·have hU:=hf b hb
   have:∃o,s.heap.get? b=some o:=by
    rcases jJ_.mp hb with rfl|hb
    ·exact⟨_,he⟩
    ·rw[js_.mp hb]
     obtain⟨o,ho,_⟩:=hit
     exact⟨o,ho⟩
   obtain⟨o,ho⟩:=this
   rw[Ai (jN_ (jt_ ho))]
   exact hU.1
 done:=by
  intro X hP hw hK hc i pins s σ H E I hf st hg
  subst hP hw hK
  obtain⟨hi,hq⟩:=hg
  subst hi
  obtain⟨old,he,hit⟩:=st
  obtain⟨its,rv,p,hz⟩:=I.tuple hq
  have hl:=rv.length
  have pt:s.heap.IsTuple a its.toArray:=p
  have Dw:=Draws.tuple (prog:=X.prog) (w:=X.w) (A:=X.A.in1) (I.ok.hd hc) it a j3 its.toArray
  obtain⟨f0,f1,f2,f3,f4,f5⟩:=hf it (by simp)
  refine wpAny_pyNext_enum_endD Dw he ⟨by rw[jk_,<-hl];exact hit,pt⟩ fun h' eb=>⟨rfl,I.turned (t':=s.toks) (fun b o hb e=>eb b o hb e) f0 f1 f3 f4 f5⟩
 self:=fun A i s Q E st h=>by
  obtain⟨old,he,_⟩:=st
  exact wpAny_pyIter_enum he h
def ZK (K:α3)(tl:TE):TI:=fun σ H R=>tl σ H fun x H1=>∃a xs,x=.ref a/\SqT K H1 a xs/\R (Itn K a xs) H1
theorem Tp {K:α3}     : ZK K te σ H Z=te σ H fun x H1=>∃a xs,x=.ref a/\SqT K H1 a xs/\Z (Itn K a xs) H1:=rfl
theorem ZL {K:α3}       : gTup K n t v σ H N=∃a xs,v=.ref a/\SqT K H a xs/\xs.length=n/\t xs σ H N:=rfl
theorem Wv       : BJ_ t u vs σ H N=∃v r,vs=v::r/\t v σ H fun ae H'=>u r ae H' N:=rfl
theorem ZM     : gNil vs σ H N=(vs=[]/\N σ H):=rfl
theorem X7   {x1}     (hg:Gl X "enumerate")(hm:X.mg "enumerate"=none)(he:PE X e te)(hs:starEach [e] X.env=[(false,eval e X.env)]:=by rfl):PI X (.Tuple elts x1 hX) (.Call (.Name "enumerate" p) [e] [] pos) (ZK X.K te):=by
 intro pins s σ H R I h
 refine Call_ (FS I hg hm boot_enumerate (qe_ (thn (Aa he Ae hs pos pins s σ H (fun vs H1=>∃a xs,vs=[.ref a]/\SqT X.K H1 a xs/\R (Itn X.K a xs) H1) I ?_) fun us s1 ⟨vs,H1,I1,r1,q1⟩=>?_) hs rfl))
 ·show te σ H _
  have:(fun x H1=>∃a xs,x=V.ref a/\SqT X.K H1 a xs/\R (Itn X.K a xs) H1)=(fun x H1=>tNil σ H1 fun xs H2=>∃a ys,x::xs=[V.ref a]/\SqT X.K H2 a ys/\R (Itn X.K a ys) H2):=by
   funext x H1
   simp[tNil]
  rw[<-this]
  exact h
 ·obtain⟨a,xs,rfl,hq,q⟩:=q1
  cases r1 with
  |cons r rr=>
   cases rr
   cases r
   obtain⟨its,rv,p,hz⟩:=I1.tuple hq
   have pt:s1.heap.IsTuple a its.toArray:=p
   obtain⟨oa,hoa,_⟩:=id pt
   have ha:=jt_ hoa
   refine GS pt fun h' ez cF hsz hk=>?_
   refine wpAny_pyIter_enum (s:={s1 with heap:=h' }) ez ?_
   have I2:Inv X pins σ H1 {s1 with heap:=h' }:=I1.kept (t':=s1.toks) hk
   refine⟨s1.heap.objs.size+1,[s1.heap.objs.size+1,s1.heap.objs.size],_,_,H1,rfl,I2,Ut a (s1.heap.objs.size+1) s1.heap.objs.size (Nat.succ_ne_self _) (jN_ ha) (jN_ (xi_ ha)) xs,⟨_,ez,cF⟩,fun b hb=>?_,q⟩
   have hle:s1.heap.objs.size<=b:=by
    rcases jJ_.mp hb with rfl|hb
    ·omega
    ·rw[js_.mp hb];exact jg_ _
   exact I1.fpOk hle (I1.hok.fresh hle)
theorem forN {K:α3}        (Pv:Nat->St->Hp->Prop)(h0:Pv 0 σ H)(hl:∀i σ H,i<=xs.length->Pv i σ H->SqT K H a xs)
  (hs:∀i v σ H t,xs[i]?=some v->Pv i σ H->H t=none->g (.ref t) σ (upd H t (.tup [.int i,v])) fun af H2=>tb {D with nx:=Pv (i+1),ct:=Pv (i+1),bk:=D.nx} af H2) (hd:∀σ H,Pv xs.length σ H->D.nx σ H):ForW (Itn K a xs) g tb D σ H:=by
 refine⟨fun i m σ H=>m=xs.length-i/\i<=xs.length/\Pv i σ H,⟨xs.length,by simp,jZ_ _,h0⟩,?_⟩
 rintro i m σ H ⟨rfl,hi,p⟩
 by_cases ah:i<xs.length
 ·refine .inr ⟨⟨ah,hl i σ H hi p⟩,Pv (i+1),fun ae H' p'=>⟨xs.length-(i+1),by omega,rfl,ah,p'⟩,fun x H' y=>?_⟩
  obtain⟨t,v,hn,hv,rfl,rfl⟩:=y
  exact hs i v σ H t hv p hn
 ·have e:i=xs.length:=by omega
  subst e
  exact .inl ⟨⟨rfl,hl _ σ H hi p⟩,hd σ H p⟩
section
variable {td ty tv tx:TE} {D:Ends} {σ:St} {H:Hp} {Q:VK}
theorem ZN:Ce_ td ty σ H Q=td σ H fun x H1=>ty σ H1 fun y H2=>∃a v,x=.ref a/\DGet H2 a y (some v)/\Q v H2:=rfl
theorem Tq:V9 ty td σ H Q=ty σ H fun y H1=>td σ H1 fun x H2=>∃a o,x=.ref a/\DGet H2 a y o/\Q (.bl (!o.isSome)) H2:=rfl
theorem ZO:Cf_ td ty tv D σ H=tv σ H fun v H1=>td σ H1 fun x H2=>ty σ H2 fun y H3=>∃a H4,x=.ref a/\DPut H3 a y v H4/\D.nx σ H4:=rfl
theorem Ww:We td ty σ H Q=td σ H fun x H1=>∃a,x=.ref a/\IsD H1 a/\ty σ H1 fun y H2=>∃o,DGet H2 a y o/\Q (o.getD .non) H2:=rfl
theorem ZP  : AC_ aw σ H Q=∀p,H p=none->KR aw σ (upd H p (.dK [])) fun ps H2=>H2 p=some (.dK [])/\∃kvs:List (Key×V),ps=kvs.map (fun kv=>(kV kv.1,kv.2))/\kvs.length<=15/\Q (.ref p) (upd H2 p (.dK (Jr [] kvs))):=rfl
theorem Tr  : KR [] σ H R=R [] H:=rfl
theorem Ts   : KR ((td,tv)::r) σ H R=td σ H fun x H1=>tv σ H1 fun y H2=>KR r σ H2 fun ps H3=>R ((x,y)::ps) H3:=rfl
end
end L2
namespace GW
def Et (w:α2):List (Int×α2)->Nat->α2->List (Int×α2)
 |ents,_,[]=>ents
 |ents,x,g::r=>Et w (if g∈ents.map (·.1) then ents else ents++[(g,w++[(x:Int)])]) (x+1) r
def bfs (aa:α1):Nat->List (Int×α2)->Nat->List (Int×α2)
 |0,ents,_=>ents
 |f+1,ents,i=>match ents[i]? with
  |none=>ents
  |some e=>bfs aa f (Et e.2 ents 0 (aa.getD e.1.toNat [])) (i+1)
def Az (aa:α1):List (Int×α2):=bfs aa (aa.length+1) [(0,[])] 0
theorem Oi {aa:α1}{ents:List (Int×α2)}{i:Nat}(h:ents[i]?=none):∀f,bfs aa f ents i=ents
 |0=>rfl
 |f+1=>by rw[bfs,h]
theorem Oj  {ents:List (Int×α2)}   (h:ents[i]?=some e)(f:Nat):bfs aa (f+1) ents i=bfs aa f (Et e.2 ents 0 (aa.getD e.1.toNat [])) (i+1):=by rw[bfs,h]
theorem KW:∀(n:Nat) {l:α2},l.Nodup->(∀x∈l,0<=x/\x<(n:Int))->l.length<=n
 |0,l,_,h=>by
  cases l with
  |nil=>simp
  |cons x r=>have:=h x jn_;omega
 |n+1,l,hn,h=>by
  by_cases hm:(n:Int)∈l
  ·have e:=qV_ hm
   have:=KW n (l:=l.erase (n:Int)) (hn.erase _) (fun x hx=>by
    have h1:=(hn.mem_erase_iff).mp hx
    have h2:=h x h1.2
    have h3:=h1.1
    omega)
   omega
  ·have:=KW n hn (fun x hx=>by
    have h2:=h x hx
    have:x≠n:=fun z=>hm (z ▸ hx)
    omega)
   omega
structure Bfs (L:Int)(n:Nat)(aa:α1)(ents:List (Int×α2))(i:Nat)(top:Int):Prop where
 hd:ents[0]?=some (0,[])
 il:i<=ents.length
 sh:∀(j:Nat) (e:Int×α2),ents[j]?=some e->e.2.length<=j
 nod:(ents.map (·.1)).Nodup
 rng:∀e∈ents,0<=e.1/\e.1<(n:Int)
 wd:∀e∈ents,isW L e.2=true/\AK aa e.2=e.1
 inc:∀(j k:Nat) (a b:Int×α2),j<k->ents[j]?=some a->ents[k]?=some b->place L a.2<place L b.2
 bnd:∀e∈ents,place L e.2<top
 don:∀j,j<i->∀e,ents[j]?=some e->∀x:Int,0<=x->x<L->∃e'∈ents,e'.1=Cr aa e.1 x/\place L e'.2<=place L (e.2++[x])
theorem Bfs.len    {ents:List (Int×α2)}   (h:Bfs L n aa ents i top):ents.length<=n:=by
 have:=KW n h.nod (fun x hx=>by
  obtain⟨e,he,rfl⟩:=jv_.mp hx
  exact h.rng e he)
 simpa using this
theorem Bfs.start (L:Int)  (hn:1<=n)(aa:α1):Bfs L n aa [(0,[])] 0 1:=by
 refine⟨rfl,by simp,(fun j e he=>by cases j with|zero=>(simp at he;subst he;simp)|succ j=>simp at he),by simp,fun e he=>?_,fun e he=>?_,fun j k a b h h1 h2=>?_,fun e he=>?_,fun j hj=>absurd hj (xj_ _)⟩
 ·simp at he;subst he;simp;omega
 ·simp at he;subst he;exact⟨rfl,rfl⟩
 ·have:=(jb_.mp h2).1;simp at this;omega
 ·simp at he;subst he;simp[place,Be]
theorem Bfs.add  (hL:0<L)   {ents:List (Int×α2)}   (h:Bfs L n aa ents i top)   (hw:(r,w)∈ents)(hx:0<=x/\x<L)(ht:top<=place L w*L+x+1)
  (hg:g=Cr aa r x) (bJ:0<=g/\g<(n:Int)) (cM:g∉ents.map (·.1)):Bfs L n aa (ents++[(g,w++[x])]) i (place L w*L+x+2):=by
 obtain⟨v1,v2⟩:=h.wd _ hw
 have hp:=ID L w x
 have hlen:0<ents.length:=by have:=(jb_.mp h.hd).1;omega
 refine⟨?_,by have:=h.il;simp;omega,fun j e he=>?_,?_,fun e he=>?_,fun e he=>?_,fun j k a b gL h1 h2=>?_,fun e he=>?_,fun j hj e he y j4 ik=>?_⟩
 ·rw[jj_ hlen];exact h.hd
 ·have hj:=(jb_.mp he).1
  rw[jo_,jY_]at hj
  by_cases dQ:j<ents.length
  ·rw[jj_ dQ]at he
   exact h.sh j e he
  ·have e1:j=ents.length:=by omega
   subst e1
   rw[ju_ (jg_ _),qC_]at he
   simp at he
   subst he
   obtain⟨j',bK,ej⟩:=jS_ hw
   have:=h.sh j' (r,w) (by rw[jf_ bK,ej])
   have this':w.length<=j':=this
   show (w++[x]).length<=ents.length
   simp;omega
 ·rw[jT_,zl_]
  refine⟨h.nod,by simp,fun a ha b hb=>?_⟩
  simp at hb
  subst hb
  exact fun z=>cM (z ▸ ha)
 ·rcases jz_.mp he with he|he
  ·exact h.rng e he
  ·rw[js_.mp he];exact bJ
 ·rcases jz_.mp he with he|he
  ·exact h.wd e he
  ·rw[js_.mp he]
   refine⟨?_,?_⟩
   ·rw[AD]at v1 ⊢
    intro z hz
    rcases jz_.mp hz with hz|hz
    ·exact v1 z hz
    ·rw[js_.mp hz];exact hx
   ·show AK aa (w++[x])=g
    rw[CH]
    have v2':AK aa w=r:=v2
    rw[v2',hg]
 ·have hk:=(jb_.mp h2).1
  rw[jo_,jY_]at hk
  by_cases fV:k<ents.length
  ·rw[jj_ fV]at h2
   rw[jj_ (by omega)]at h1
   exact h.inc j k a b gL h1 h2
  ·have hke:k=ents.length:=by omega
   subst hke
   rw[jj_ (by omega)]at h1
   rw[ju_ (jg_ _),qC_]at h2
   simp at h2
   subst h2
   have:=h.bnd a (jd_ h1)
   show place L a.2<place L (w++[x])
   rw[hp];omega
 ·rcases jz_.mp he with he|he
  ·have:=h.bnd e he;omega
  ·rw[js_.mp he]
   show place L (w++[x])<_
   rw[hp];omega
 ·have dQ:j<ents.length\/j=ents.length:=by
   have:=(jb_.mp he).1
   rw[jo_,jY_]at this
   omega
  rcases dQ with dQ|dQ
  ·rw[jj_ dQ]at he
   obtain⟨e',m,q⟩:=h.don j hj e he y j4 ik
   exact⟨e',j9_ _ m,q⟩
  ·exact absurd dQ (by have:=h.il;omega)
theorem Bfs.up    {ents:List (Int×α2)}   (h:Bfs L n aa ents i top)(ht:top<=eY):Bfs L n aa ents i eY :=
 ⟨h.hd,h.il,h.sh,h.nod,h.rng,h.wd,h.inc,fun e he=>Int.lt_of_lt_of_le (h.bnd e he) ht,h.don⟩
def Seen (L:Int)(aa:α1)(ents:List (Int×α2))(r:Int)(w:α2)(x:Nat):Prop:=∀y:Int,0<=y->y<x->∃e'∈ents,e'.1=Cr aa r y/\place L e'.2<=place L (w++[y])
theorem Bfs.letter {L:Int}(hL:0<L){n:Nat}{aa:α1}{ents:List (Int×α2)}{i x:Nat}{w:α2}{r g:Int}(h:Bfs L n aa ents i (place L w*L+x+1))(hs:Seen L aa ents r w x)(hw:(r,w)∈ents)(hx:(x:Int)<L)
  (hg:g=Cr aa r x) (bJ:0<=g/\g<(n:Int)):Bfs L n aa (if g∈ents.map (·.1) then ents else ents++[(g,w++[(x:Int)])]) i (place L w*L+((x+1:Nat):Int)+1)/\Seen L aa (if g∈ents.map (·.1) then ents else ents++[(g,w++[(x:Int)])]) r w (x+1):=by
 by_cases hm:g∈ents.map (·.1)
 ·rw[if_pos hm]
  refine⟨h.up (by push_cast;omega),fun y j4 ik=>?_⟩
  by_cases jU:y<x
  ·exact hs y j4 jU
  ·have e:y=x:=by push_cast at ik;omega
   subst e
   obtain⟨e',ez,e1⟩:=jv_.mp hm
   refine⟨e',ez,by rw[<-hg];exact e1,?_⟩
   have:=h.bnd e' ez
   rw[ID];omega
 ·rw[if_neg hm]
  refine⟨(h.add hL hw ⟨by omega,hx⟩ (zk_ _) hg bJ hm).up (by push_cast;omega),fun y j4 ik=>?_⟩
  by_cases jU:y<x
  ·obtain⟨e',m,q⟩:=hs y j4 jU
   exact⟨e',j9_ _ m,q⟩
  ·have e:y=x:=by push_cast at ik;omega
   subst e
   exact⟨_,jw_ _ jn_,hg,zk_ _⟩
theorem Bfs.next {L:Int}(hL:0<L){n i m:Nat}{aa:α1}{ents:List (Int×α2)}{w:α2}{r:Int}(h:Bfs L n aa ents i (place L w*L+m+1))(hm:(m:Int)=L)(hs:Seen L aa ents r w m)(hw:ents[i]?=some (r,w)):
  Bfs L n aa ents (i+1) (place L w*L+L+1)/\∀e,ents[i+1]?=some e->place L w*L+L+1<=place L e.2*L+1:=by
 have hi:=(jb_.mp hw).1
 rw[hm]at h
 refine⟨⟨h.hd,hi,h.sh,h.nod,h.rng,h.wd,h.inc,h.bnd,fun j hj e he x h0 h1=>?_⟩,fun e he=>?_⟩
 ·by_cases j5:j<i
  ·exact h.don j j5 e he x h0 h1
  ·have e1:j=i:=by omega
   subst e1
   rw[hw]at he
   cases he
   exact hs x h0 (by omega)
 ·have:=h.inc i (i+1) _ _ (zt_ _) hw he
  have h2:=qt_ (show place L w+1<=place L e.2 from this) (xJ_ hL)
  rw[z1_]at h2
  omega
theorem IF (w:α2)(ents:List (Int×α2))(x:Nat):Et w ents x []=ents:=rfl
theorem Hl (w:α2)(ents:List (Int×α2))(x:Nat)(g:Int)(r:α2):Et w ents x (g::r)=Et w (if g∈ents.map (·.1) then ents else ents++[(g,w++[(x:Int)])]) (x+1) r:=rfl
theorem Hm {ents:List (Int×α2)}{g:Int}{v:α2}{i:Nat}{e:Int×α2}(h:ents[i]?=some e):(if g∈ents.map (·.1) then ents else ents++[(g,v)])[i]?=some e:=by
 split
 ·exact h
 ·rw[jj_ (jb_.mp h).1];exact h
end GW
namespace L2
open PySem PySem.Spec PyProof.Rows
def ups (n:Nat):α2:=(List.range n).map fun i:Nat=>(i:Int)
def Tt (te:TE):TE:=fun σ H Q=>te σ H fun x H1=>∃j:Int,x=.int j/\0<=j/\j<=100000/\∀p,H1 p=none->Q (.ref p) (upd H1 p (.lst ((ups j.toNat).map V.int)))
theorem Qj     : Tt te σ H Q=te σ H fun x H1=>∃j:Int,x=.int j/\0<=j/\j<=100000/\∀p,H1 p=none->Q (.ref p) (upd H1 p (.lst ((ups j.toNat).map V.int))):=rfl
theorem Wx   (h:ItemsOf (fun i v=>∃t,v=.int ((0:Int)+(i:Nat)*1) t) acc n):Vals ((ups n).map V.int) acc.toList:=by
 have hs:=h.1
 have key:∀(l:List Value) (k:Nat),(∀i v,l[i]?=some v->∃t,v=Value.int ((k+i:Nat):Int) t)->Vals (((List.range l.length).map fun i=>((k+i:Nat):Int)).map V.int) l:=by
  intro l
  induction l with
  |nil=>intro k _;exact .nil
  |cons u r ih=>
   intro k hk
   rw[jW_,List.range_succ_eq_map,j1_,j1_]
   refine .cons ?_ ?_
   ·obtain⟨t,e⟩:=hk 0 u (by simp)
    exact⟨t,by simpa using e⟩
   ·have:=ih (k+1) (fun i v hv=>by
     obtain⟨t,e⟩:=hk (i+1) v (by simpa using hv)
     exact⟨t,by rw[e];congr 1;push_cast;omega⟩)
    have e:((List.map Nat.succ (List.range r.length)).map fun i=>((k+i:Nat):Int))=((List.range r.length).map fun i=>((k+1+i:Nat):Int)):=by
     rw[jX_]
     apply qk_
     intro i _
     show ((k+(i+1):Nat):Int)=_
     congr 1;omega
    rw[e]
    exact this
 have:=key acc.toList 0 (fun i v hv=>by
  obtain⟨t,e⟩:=h.2 i v (by simpa using hv)
  exact⟨t,by rw[e];congr 1;push_cast;omega⟩)
 have hl:acc.toList.length=n:=by simpa using hs
 rw[hl]at this
 have e2:((List.range n).map fun i=>((0+i:Nat):Int))=ups n:=by
  unfold ups
  apply qk_
  intro i _
  congr 1;omega
 rw[e2]at this
 exact this
theorem Uu     (hc:X.calm=true)(hg:Gl X "list")(hm:X.mg "list"=none)(ip:Gl X "range")(fK:X.mg "range"=none)(he:PE X e te)
  (gM:starEach [.Call (.Name "range" p2) [e] [] cU] X.env=[(false,eval (.Call (.Name "range" p2) [e] [] cU) X.env)]:=by rfl) (hs:starEach [e] X.env=[(false,eval e X.env)]:=by rfl):
  PE X (.Call (.Name "list" p) [.Call (.Name "range" p2) [e] [] cU] [] pos) (Tt te):=by
 intro pins s σ H Q I h
 refine xo_ (FS I hg hm boot_list ?_)
 refine qe_ ?_ gM rfl
 rw[gM]
 refine xn_ ?_
 refine Call_ (FS I ip fK boot_range (qe_ (thn (Aa he Ae hs cU pins s σ H (fun vs H1=>∃j:Int,vs=[.int j]/\0<=j/\j<=100000/\∀p,H1 p=none->Q (.ref p) (upd H1 p (.lst ((ups j.toNat).map V.int)))) I ?_) fun us s1 ⟨vs,H1,I1,r1,q1⟩=>?_) hs rfl))
 ·show te σ H _
  have:(fun x H1=>∃j:Int,x=V.int j/\0<=j/\j<=100000/\∀p,H1 p=none->Q (.ref p) (upd H1 p (.lst ((ups j.toNat).map V.int))))=(fun x H1=>tNil σ H1 fun xs H2=>∃j:Int,x::xs=[V.int j]/\0<=j/\j<=100000/\∀p,H2 p=none->Q (.ref p) (upd H2 p (.lst ((ups j.toNat).map V.int)))):=by
   funext x H1
   simp[tNil]
  rw[<-this]
  exact h
 ·obtain⟨j,rfl,h0,h1,q⟩:=q1
  cases r1 with
  |cons r rr=>
   cases rr
   obtain⟨t,rfl⟩:=r
   refine call_range_1 ?_
   refine xV_ ?_
   refine call_list_range (n:=j.toNat) (I.ok.hd hc) (IsRange.new ..) (small_one (by omega) (by omega) (by omega) (by omega)) ?_ (by omega) fun h' tk cV c' hk hS aF=>?_
   ·rw[rangeSize_one];split<;>omega
   ·have kp:∀b o,s1.heap.get? b=some o->h'.get? b=some o:=fun b o e=>hk b o (jm_ _ e)
    have hz:(ups j.toNat).length=j.toNat:=by simp[ups]
    have hl:=AC
    refine⟨.ref _,_,I1.laid (t':=tk) kp (by rw[qR_];exact z0_ _) (show B6 X.prog X.w _ h' _ (.lst ((ups j.toNat).map V.int)) from ⟨by rw[ja_,hz];omega,cV.toList,c',Wx aF,by simpa using hS⟩),rfl,q _ (I1.hok.fresh (by rw[qR_];exact z0_ _))⟩
def Wy (tk tv:TE):TE:=AC_ [(tk,tv)]
theorem X8     (hk:PE X k tk)(hv:PE X v tv):PE X (.Dict [some k] [v] pos) (Wy tk tv):=AD_ (XZ hk hv AB_) rfl rfl (by intro z;cases z) (by show 1<=15;decide)
theorem Wz     : Wy tk tv σ H Q=∀p,H p=none->tk σ (upd H p (.dK [])) fun x H1=>tv σ H1 fun y H2=>H2 p=some (.dK [])/\∃kvs:List (Key×V),[(x,y)]=kvs.map (fun kv=>(kV kv.1,kv.2))/\kvs.length<=15/\Q (.ref p) (upd H2 p (.dK (Jr [] kvs))):=rfl
theorem AJ_ {X:Cx}{i:Nat}{x:Str}{k v:Expr}{tk tv:TE}{pos pos' dpos:Pos}(hN:X.N.Nodup)(hi:X.N[i]?=some x)(hx:Loc X.env.scope x)(hk:PE X k tk)(hv:PE X v tv)(hs:swapsWith (.Dict [some k] [v] dpos) (some (.Name x pos')) pos.line X.env=pure false)
  (hf:X.fn x=true\/X.env.scope.names.lookup x=some .local):PS X (.Assign [.Name x pos'] (.Dict [some k] [v] dpos) pos) (tAsg (Wy tk tv) (IB i)):=B7 hN hi hx (X8 hk hv) hs hf
end L2
namespace L2
theorem Tu (ys:α2)(m:Nat):cutV (ys.map V.int) none (some (m:Int))=(ys.take m).map V.int:=by
 rw[Tk]
 unfold cutI
 rw[HT.sIx_nat,HT.sIx_none,List.drop_zero,Nat.sub_zero]
 congr 1
 rw[List.take_eq_take_iff]
 omega
end L2
namespace L2
open PySem GW
def mkW (marks:α2)(r:Int):Int:=marks.getD r.toNat 0
theorem CC_   (h0:0<=r)(h1:r<marks.length):mkW marks r∈marks:=by
 have ah:r.toNat<marks.length:=by omega
 unfold mkW
 rw[jh_,jf_ ah]
 exact j2_ ah
theorem WA   (h0:0<=r)(h1:r<marks.length):atI (marks.map V.int) r=some (V.int (mkW marks r)):=by
 have ah:r.toNat<marks.length:=by omega
 refine Bs h0 ?_
 unfold mkW
 rw[jh_,jf_ ah];rfl
end L2
namespace GW
theorem Bfs.least {L:Int}{n:Nat}{aa:α1}{top:Int}{ents:List (Int×α2)}(h:Bfs L n aa ents ents.length top){ws:α2}(hv:isW L ws=true):∀i,i<=ws.length->∃w',(AK aa (ws.take i),w')∈ents/\place L w'<=place L (ws.take i)
 |0,_=>⟨[],by simpa [AK] using jd_ h.hd,by simp⟩
 |i+1,hi=>by
  obtain⟨w',m,hp⟩:=Bfs.least h hv i (by omega)
  have bN:ws[i]?=some ws[i]:=by simp
  have bC:=AD.mp hv ws[i] (j2_ _)
  obtain⟨j,hj,ej⟩:=jS_ m
  obtain⟨e',me,e1,e2⟩:=h.don j hj _ (by rw[jf_ hj,ej]) ws[i] bC.1 bC.2
  obtain⟨g,v⟩:=e'
  have e1:g=Cr aa (AK aa (ws.take i)) ws[i]:=e1
  have e2:place L v<=place L (w'++[ws[i]]):=e2
  have et:ws.take (i+1)=ws.take i++[ws[i]]:=by rw[jV_,bN];rfl
  have hL:0<=L:=by omega
  refine⟨v,?_,?_⟩
  ·rw[et,CH,<-e1];exact me
  ·rw[et]
   rw[ID]at e2 ⊢
   have:=qt_ hp hL
   omega
end GW
namespace L2
open PySem PySem.Spec PyProof.Rows
theorem Vals.ofIx:∀{xs:List V} {us:List Value},us.length=xs.length->(∀(i:Nat) (v:Value),us[i]?=some v->∃x,xs[i]?=some x/\RelV x v)->Vals xs us
 |[],[],_,_=>.nil
 |[],_::_,h,_=>by simp at h
 |_::_,[],h,_=>by simp at h
 |x::xs,u::us,h,k=>by
  refine .cons ?_ (Vals.ofIx (by simpa using h) fun i v hv=>?_)
  ·obtain⟨y,e,r⟩:=k 0 u rfl
   cases e
   exact r
  ·obtain⟨y,e,r⟩:=k (i+1) v (by simpa using hv)
   exact⟨y,by simpa using e,r⟩
theorem WB   (h:Rs k v=true):RelV (kV k) v:=by
 rcases BM h with ⟨i,t,rfl,e⟩|⟨x,t,rfl,e⟩
 ·exact⟨t,e⟩
 ·exact⟨t,e⟩
theorem M0  (hc:X.calm=true):Dq X (.type "list") (fun xs H Q=>∃p kvs,xs=[.ref p]/\H p=some (.dK kvs)/\∀l,H l=none->Q (.ref l) (upd H l (.lst (kvs.map fun kv=>kV kv.1)))):=by
 intro pins s σ H xs us Q I r h
 obtain⟨p,kvs,rfl,hp,q⟩:=h
 obtain⟨u,rfl,rx⟩:=vals1 r
 cases rx
 obtain⟨hz,hS,vs,rr,m⟩:=XX I.hok hp
 obtain⟨ep,j6⟩:=m.dictAt
 have hlen:=rr.length
 have kW:=rr.keys
 refine PySem.W.kdl_call (PySem.W.kdl_dict (knd:=BV X.prog X.w) (kvs:=vs) (ep:=ep) hS) (I.ok.hd hc) j6 (by omega) fun h' tk cV c' hk hD aF=>?_
 have hv:Vals (kvs.map fun kv=>kV kv.1) cV.toList:=by
  refine Vals.ofIx (by rw[ja_,hlen];simpa using aF.1) fun i v hv=>?_
  obtain⟨k,x,hx,bP⟩:=aF.2 i v (by simpa using hv)
  refine⟨kV k,?_,WB bP⟩
  have e1:(kvs.map (·.1))[i]?=some k:=by rw[kW,je_,hx];rfl
  rw[je_]at e1 ⊢
  cases hq:kvs[i]? with
  |none=>rw[hq]at e1;cases e1
  |some kv=>rw[hq]at e1;cases e1;rfl
 exact⟨.ref _,_,I.laid (t':=tk) hk (jg_ _) (show B6 X.prog X.w _ h' _ (.lst (kvs.map fun kv=>kV kv.1)) from ⟨by rw[ja_];exact hz,cV.toList,c',hv,by simpa using hD⟩),rfl,q _ (I.hok.fresh (jg_ _))⟩
end L2
namespace L2
theorem r_in {K:α3}     : rIn K neg x y H Q=∃p xs,y=.ref p/\(SqL K H p xs\/SqT K H p xs)/\DK x=true/\xs.all DK=true/\Q (.bl (if neg then !inV x xs else inV x xs)) H:=rfl
theorem KY (ns:α2):(ns.map V.int).all DK=true:=by
 rw[qo_]
 intro x hx
 obtain⟨n,_,rfl⟩:=jv_.mp hx
 rfl
theorem Tv (g:Int)(ns:α2):inV (.int g) (ns.map V.int)=decide (g∈ns):=by
 unfold inV
 rw[List.any_map,qx_,x2_,qq_]
 constructor
 ·rintro⟨n,hn,e⟩
  have e:decide (n=g)=true:=by simpa [eqV] using e
  rw[<-qA_ e];exact hn
 ·exact fun h=>⟨g,h,by simp[eqV]⟩
end L2
namespace L2
open PySem PySem.Spec PyProof.Rows
def rng (i j:Int):α2:=(List.range (j-i).toNat).map fun k:Nat=>i+(k:Int)
end L2
namespace GW
open L2
theorem KZ:∀{l m:α2},l.Nodup->(∀x∈l,x∈m)->m.length<=l.length->l.Perm m
 |[],m,_,_,h=>by
  have:m=[]:=List.eq_nil_of_length_eq_zero (by simpa using h)
  subst this;exact .refl _
 |x::l,m,hn,h,hl=>by
  have hx:=h x jn_
  have eK:=qF_.mp hn
  have p:=KZ (l:=l) (m:=m.erase x) eK.2 (fun y hy=>(xf_ (fun (z:y=x)=>eK.1 (z ▸ hy))).mpr (h y (jl_ _ hy))) (by rw[qV_ hx];simp at hl;omega)
  exact (p.cons x).trans (List.perm_cons_erase hx).symm
theorem WD (n:Nat):(ups n).Nodup:=by
 unfold ups
 exact List.Pairwise.map (R:=(· ≠ ·)) _ (fun a b cu z=>cu (by omega)) zx_
theorem WE   : x∈ups n↔0<=x/\x<(n:Int):=by
 unfold ups
 rw[jv_]
 constructor
 ·rintro⟨r,hr,rfl⟩
  have:=jP_.mp hr
  omega
 ·exact fun h=>⟨x.toNat,jP_.mpr (by omega),by omega⟩
theorem WF (n:Nat):(ups n).length=n:=by simp[ups]
def ES (n:Nat)(o:α2):Prop:=o.Perm (ups n)/\o[0]?=some 0
theorem ES.len   (h:ES n o):o.length=n:=by rw[h.1.length_eq,WF]
theorem ES.nod   (h:ES n o):o.Nodup:=(h.1.nodup_iff).mpr (WD n)
theorem ES.mem   (h:ES n o)  : x∈o↔0<=x/\x<(n:Int):=by rw[h.1.mem_iff,WE]
def ordW (o:α2)(r:Int):Int:=o.getD r.toNat 0
theorem AK_   (h0:0<=r)(h1:r<o.length):o[r.toNat]?=some (ordW o r):=by
 unfold ordW
 rw[jh_,jf_ (by omega)];rfl
theorem ES.at   (h:ES n o)  (h0:0<=r)(h1:r<(n:Int)):o[r.toNat]?=some (ordW o r)/\0<=ordW o r/\ordW o r<(n:Int):=by
 have:=AK_ (o:=o) h0 (by rw[h.len];exact h1)
 exact⟨this,h.mem.mp (jd_ this)⟩
theorem ES.inv   (h:ES n o)  (h0:0<=x)(h1:x<(n:Int)):∃r:Nat,r<n/\o[r]?=some x:=by
 obtain⟨r,hr,e⟩:=jS_ (h.mem.mpr ⟨h0,h1⟩)
 exact⟨r,by rw[<-h.len];exact hr,by rw[jf_ hr,e]⟩
def DP {α:Type}(o:α2)(f:Nat->α):Nat->List α->List α
 |0,d=>d
 |i+1,d=>(DP o f i d).set (ordW o i).toNat (f i)
theorem DT {α:Type}(o:α2)(f:Nat->α):∀(i:Nat) (d:List α),(DP o f i d).length=d.length
 |0,_=>rfl
 |i+1,d=>by rw[DP,qQ_,DT o f i d]
theorem ES.inj   (h:ES n o)  (hr:r<n)(hq:q<n)(e:ordW o r=ordW o q):r=q:=by
 have a:=(h.at (r:=(r:Int)) (by omega) (by omega)).1
 have b:=(h.at (r:=(q:Int)) (by omega) (by omega)).1
 rw[ji_]at a b
 have bx:r<o.length:=by rw[h.len];exact hr
 have fJ:q<o.length:=by rw[h.len];exact hq
 refine (xN_ (h₀:=bx) (h₁:=fJ) h.nod).mp ?_
 rw[jf_ bx]at a
 rw[jf_ fJ]at b
 rw[jp_ a,jp_ b,e]
theorem K0 {α:Type}{n:Nat}{o:α2}(h:ES n o)(f:Nat->α):∀(i:Nat) (d:List α),i<=n->d.length=n->∀r:Nat,r<i->(DP o f i d)[(ordW o r).toNat]?=some (f r)
 |0,_,_,_,r,hr=>absurd hr (xj_ _)
 |i+1,d,hi,hd,r,hr=>by
  have b:=(h.at (r:=(r:Int)) (by omega) (by omega)).2
  have c:=(h.at (r:=(i:Int)) (by omega) (by omega)).2
  rw[DP]
  by_cases e:r=i
  ·subst e
   rw[qO_ (by rw[DT,hd];omega)]
  ·have ne:ordW o i≠ordW o r:=fun z=>e (h.inj (by omega) (by omega) z.symm)
   rw[xe_ (by omega)]
   exact K0 h f i d (by omega) hd r (by omega)
def WG (n:Nat)(o marks:α2):α2:=DP o (fun r=>marks.getD r 0) n (List.replicate n 0)
def WH (n:Nat)(o:α2)(aa:α1):α1:=DP o (fun r=>(aa.getD r []).map (ordW o)) n (List.replicate n [])
end GW
namespace L2
open PySem PySem.Spec PyProof.Rows GW
theorem DL.set {K:α3}      (h:DL K H l ws)(hw:SqT K H t (w.map V.int)):∃xs,H l=some (.lst xs)/\xs.length=ws.length/\DL K (upd H l (.lst (xs.set j (V.ref t)))) l (ws.set j w):=by
 obtain⟨ts,h1,h2,h3⟩:=h
 refine⟨_,h1,by simpa using h2,ts.set j t,by rw[Ab,List.map_set],by simpa using h2,fun i t' w' a b=>?_⟩
 have key:∀{u:Addr} {v:α2},SqT K H u (v.map V.int)->SqT K (upd H l (.lst ((ts.map V.ref).set j (V.ref t)))) u (v.map V.int):=fun q=>Oh h1 q
 by_cases e:j=i
 ·subst e
  rw[qO_ (by have:=(jb_.mp a).1;simpa using this)]at a
  rw[qO_ (by have:=(jb_.mp b).1;simpa using this)]at b
  cases a;cases b
  exact key hw
 ·rw[xe_ e]at a b
  exact key (h3 i t' w' a b)
end L2
namespace L2
theorem Ol {α:Type}(x:α):∀n:Nat,(List.replicate n [x]).flatten=List.replicate n x
 |0=>rfl
 |n+1=>by rw[qg_,xB_,Ol x n,qg_];rfl
end L2
namespace L2
theorem Tw {n:Nat}{x:Int}(h0:0<=x)(h1:x<(n:Int)):ixN n x=some x.toNat:=by
 unfold ixN
 simp only[h0,h1,and_self,xK_]
end L2
namespace GW
theorem ET (n:Nat)(o marks:α2):(WG n o marks).length=n:=by unfold WG;rw[DT,qs_]
theorem Qk (n:Nat)(o:α2)(aa:α1):(WH n o aa).length=n:=by unfold WH;rw[DT,qs_]
theorem X9   (h:ES n o)(marks:α2)  (hr:r<n):(WG n o marks)[(ordW o r).toNat]?=some (marks.getD r 0):=K0 h _ n _ (jg_ _) (qs_) r hr
theorem Ya   (h:ES n o)(aa:α1)  (hr:r<n):(WH n o aa)[(ordW o r).toNat]?=some ((aa.getD r []).map (ordW o)):=K0 h _ n _ (jg_ _) (qs_) r hr
end GW
namespace GW
open L2
theorem ES.nat   (h:ES n o)  (hj:j<n):∃r:Nat,r<n/\ordW o r=(j:Int):=by
 obtain⟨r,hr,er⟩:=h.inv (x:=(j:Int)) (by omega) (by omega)
 have a:=(h.at (r:=(r:Int)) (by omega) (by omega)).1
 rw[ji_,er]at a
 exact⟨r,hr,(jp_ a).symm⟩
theorem Wf.getW    (wf:Wf L marks aa)  (hr:r<marks.length):aa[r]?=some (aa.getD r [])/\aa.getD r []∈aa:=by
 have ah:r<aa.length:=by rw[wf.len];exact hr
 have e:aa.getD r []=aa[r]:=by rw[jh_,jf_ ah];rfl
 rw[e]
 exact⟨jf_ ah,j2_ ah⟩
theorem Yb {L:Int}{marks:α2}{aa:α1}{o:α2}(wf:Wf L marks aa)(h:ES marks.length o){j:Nat}{row:α2}(hj:(WH marks.length o aa)[j]?=some row):∃r:Nat,r<marks.length/\ordW o r=(j:Int)/\row=(aa.getD r []).map (ordW o):=by
 have ah:=(jb_.mp hj).1
 rw[Qk]at ah
 obtain⟨r,hr,er⟩:=h.nat ah
 have:=Ya h aa hr
 rw[er,ji_,hj]at this
 exact⟨r,hr,er,jp_ this⟩
theorem AL_     (wf:Wf L marks aa)(h:ES marks.length o):Wf L (WG marks.length o marks) (WH marks.length o aa):=by
 refine⟨wf.l1,wf.l6,by rw[ET];exact wf.n1,by rw[ET];exact wf.n40,by rw[ET,Qk],fun row hrow=>?_,fun m hm=>?_⟩
 ·rw[ET]
  obtain⟨j,hj,e⟩:=jS_ hrow
  obtain⟨r,hr,_,rfl⟩:=Yb wf h (j:=j) (row:=row) (by rw[jf_ hj,e])
  have hw:=wf.rows _ (wf.getW hr).2
  refine⟨by rw[ja_];exact hw.1,fun x hx=>?_⟩
  obtain⟨g,hg,rfl⟩:=jv_.mp hx
  have:=hw.2 g hg
  exact (h.at this.1 this.2).2
 ·obtain⟨j,hj,e⟩:=jS_ hm
  have ah:=hj
  rw[ET]at ah
  obtain⟨r,hr,er⟩:=h.nat ah
  have:=X9 h marks hr
  rw[er,ji_,jf_ hj,e]at this
  have:m=marks.getD r 0:=jp_ this
  rw[this,jh_,jf_ hr]
  exact wf.mks _ (j2_ hr)
end GW
namespace PySem
open Sem (wp)
def Heap.DEnt (h:Heap)(d:Addr)(es:Array DictEntry)(ep:Nat):Prop:=∃o,h.get? d=some o/\o.ExactDict/\o.data=.dict es ep
section
variable {prog:Program} {w:World} {A:Around} {E:Value->Shared->Prop} {s:Shared} {d it:Addr} {es:Array DictEntry} {i ep:Nat}
theorem Heap.DEnt.typeIs (h:s.heap.DEnt d es ep):s.TypeIs (.ref d) "dict" := let ⟨o,ho,hc,_⟩:=h;⟨o,ho,hc.1⟩
theorem Heap.DEnt.at {h h':Heap}(x:h.DEnt d es ep)(e:∀o,h.get? d=some o->h'.get? d=some o):h'.DEnt d es ep:=let ⟨o,ho,r⟩:=x;⟨o,e _ ho,r⟩
theorem Heap.DEnt.lt_size {h:Heap}(x:h.DEnt d es ep):d<h.objs.size:=let ⟨_,ho,_⟩:=x;jt_ ho
theorem RL  (hd:(d==sysModules)=false)(hm:s.heap.DEnt d es ep)
  (hQ:Q (.ref s.heap.objs.size) {s with heap:=s.heap.push {cls:=.type "dict_keyiterator",data:=.fields #[.ref d,.int 0 0,.int es.size 0,.int ep 0]} }):wpAny (model prog w) A (pyIter (.ref d)) Q E s:=by
 have hT:=hm.typeIs
 obtain⟨o,ho,hc,fW⟩:=id hm
 refine wpAny_pyIter_slot hT F.slot_dict_iter (xb_ F.slot_dict_iter hT F.entry_dict_iter (?_:wpAny _ _ (Builtin.«dict.__iter__» _) _ _ s) (F.args_dict_iter_1 _))
 unfold Builtin.«dict.__iter__»;refine wpAny_bind ?_
 unfold Builtin.Dict.dictSlotNone;refine wpAny_bind (wpAny_notOrdered_dict hT ?_)
 show wpAny _ _ (pure (Value.ref d)) _ _ s;refine jq_ ?_
 show wpAny _ _ (Builtin.Dict.showsAll d >>= _) _ _ s;unfold Builtin.Dict.showsAll
 rw[if_neg (fun z=>by rw[hd]at z;cases z)]
 refine jc_ (jq_ (jc_ (zm_ ho fW (jc_ (wpAny_dictEpoch ho fW ?_)))))
 refine jc_ (qz_ (jq_ ⟨_,rfl,"dict_keyiterator",_,⟨_,jC_ _ rfl,rfl⟩,qY_.lookup,?_⟩));simpa [rawInt] using hQ
theorem JJ  (hit:s.heap.IsKeyIter it d i es.size ep)(hm:s.heap.DEnt d es ep)(ah:i<es.size)
  (hQ:∀h',h'.IsKeyIter it d (i+1) es.size ep->Heap.SameBut it s.heap h'->Q (some es[i].key) {s with heap:=h' }):wpAny (model prog w) A (pyNext (.ref it)) Q E s:=by
 obtain⟨o,ho,hc,hd⟩:=id hit
 obtain⟨od,j7,bw,j8⟩:=id hm
 have iq:Builtin.Dict_items.ownsTuple "dict_keyiterator"=false:=by decide
 unfold pyNext
 refine jc_ (xL_ (qw_ (name:=Str.ofString "__next__") hit.typeIs qY_ (xb_ qY_ hit.typeIs F.entry_dict_keyiterator_next ?_ (F.args_dict_keyiterator_next_1 _))))
 refine jc_ (jq_ (jc_ (jc_ ?_)))
 first|refine jc_ (xc_ hit.typeIs (jq_ (jc_ (wpAny_fieldsOf ho hd ?_))))|refine jc_ (xD_ hit.typeIs (jq_ (jc_ (wpAny_fieldsOf ho hd ?_))))
 simp only[iq,jQ_,qK_];show wpAny _ _ (if (Value.ref d==Value.none)=true then _ else _) _ _ s
 rw[if_neg (show ¬ ((Value.ref d==Value.none)=true) from fun z=>jr_ z)]
 refine jc_ (jq_ (jc_ (zm_ j7 j8 ?_)))
 rw[if_neg (by simp)];refine jc_ (jq_ (jc_ (wpAny_dictEpoch j7 j8 ?_)))
 rw[if_neg (by simp)];refine jq_ ?_
 simp only[show ¬ ((i:Int)<0) from by omega,qK_,ji_,qB_ ah];refine jc_ ?_
 first|refine jc_ (xc_ hit.typeIs (jq_ (jc_ (zq_ hit.typeIs ?_))))|refine jc_ (xD_ hit.typeIs (jq_ (jc_ (zq_ hit.typeIs ?_))))
 show wpAny _ _ (setField (.ref it) 1 (rawInt ((i:Int)+1)) >>= _) _ _ s;refine jc_ (wpAny_setField ho hd (by simp) ?_)
 have cF:(s.heap.update it (Obj.mapFields (·.setIfInBounds 1 (rawInt ((i:Int)+1))))).IsKeyIter it d (i+1) es.size ep:=⟨_,qU_ _ ho (Obj.isFreed_of_fields (zc_ hd _)),(Obj.cls_mapFields ..).trans hc,by rw[zc_ hd];simp[rawInt]⟩
 refine jc_ (qE_ (jc_ (zq_ (s:={s with heap:=s.heap.update it (Obj.mapFields (·.setIfInBounds 1 (rawInt ((i:Int)+1))))}) cF.typeIs ?_)))
 show wpAny _ _ (pure es[i].key) _ _ _;exact jq_ (jq_ ⟨_,rfl,jq_ (hQ _ cF (x3_ ..))⟩)
theorem K1  (hh:A.handled=none)(hit:s.heap.IsKeyIter it d i es.size ep)(hm:s.heap.DEnt d es ep)(aV:es.size<=i)
  (hQ:∀h',Heap.ExtBut it s.heap h'->Q none {s with heap:=h' }):wpAny (model prog w) A (pyNext (.ref it)) Q E s:=by
 obtain⟨o,ho,hc,hd⟩:=id hit
 obtain⟨od,j7,bw,j8⟩:=id hm
 have iq:Builtin.Dict_items.ownsTuple "dict_keyiterator"=false:=by decide
 unfold pyNext
 refine jc_ (xL_ (qw_ (name:=Str.ofString "__next__") hit.typeIs qY_ (xb_ qY_ hit.typeIs F.entry_dict_keyiterator_next ?_ (F.args_dict_keyiterator_next_1 _))))
 refine jc_ (jq_ (jc_ (jc_ ?_)))
 first|refine jc_ (xc_ hit.typeIs (jq_ (jc_ (wpAny_fieldsOf ho hd ?_))))|refine jc_ (xD_ hit.typeIs (jq_ (jc_ (wpAny_fieldsOf ho hd ?_))))
 simp only[iq,jQ_,qK_];show wpAny _ _ (if (Value.ref d==Value.none)=true then _ else _) _ _ s
 rw[if_neg (show ¬ ((Value.ref d==Value.none)=true) from fun z=>jr_ z)]
 refine jc_ (jq_ (jc_ (zm_ j7 j8 ?_)))
 rw[if_neg (by simp)];refine jc_ (jq_ (jc_ (wpAny_dictEpoch j7 j8 ?_)))
 rw[if_neg (by simp)];refine jq_ ?_
 simp only[show ¬ ((i:Int)<0) from by omega,qK_,ji_,Array.getElem?_eq_none aV];refine jc_ ?_
 first|refine jc_ (xc_ hit.typeIs (jq_ ?_))|refine jc_ (xD_ hit.typeIs (jq_ ?_))
 show wpAny _ _ (setField (.ref it) 0 .none >>= _) _ _ s;refine jc_ (wpAny_setField ho hd (by simp) ?_)
 show wpAny _ _ (newExc (.type "StopIteration") [] >>= _) _ _ _;refine jc_ ?_
 simp only[newExc,newTuple];refine jc_ (qz_ ?_ (by size_fits))
 refine jc_ (m:=firstArgMember _ _) (wpAny_of_eq (a:=Value.none) (by first|rfl|(simp only[firstArgMember];rfl)) (qz_ ?_ (by size_fits)))
 simp only[raiseNew];refine jc_ (wpAny_handled ?_)
 rw[show A.in1.handled=none from hh];refine jc_ (jq_ (wpAny_throw ?_))
 refine jc_ (wpAny_isInstance (T := "StopIteration") (b:=true) ⟨_,jC_ _ rfl,rfl⟩ isSubtype_stop (jq_ (hQ _ (((x3_ ..).extBut.push _).push _))))
theorem Walks.dent (hh:A.handled=none)(I:Addr)(ao:d≠I):Walks prog w A I [I,d] [I] es.size (fun i v=>∃e,es[i]?=some e/\v=e.key) (fun i h=>h.IsKeyIter I d i es.size ep/\h.DEnt d es ep) where
 sub:=fun b hb=>by simp at hb;simp[hb]
 frame:=fun _ _ _ st hk=>⟨st.1.at fun o e=>hk I (by simp) o e,st.2.at fun o e=>hk d (by simp) o e⟩
 item:=fun i s Q E hi st hQ=>by
  refine JJ st.1 st.2 hi fun h' cF aX=>?_
  exact hQ _ h' s.toks ⟨es[i],by simp[hi],rfl⟩ ⟨cF,st.2.at fun o e=>aX.extBut d o ao e⟩ fun b o hb e=>aX.extBut b o (fun z=>hb (by simp[z])) e
 done:=fun s Q E st hQ=>K1 hh st.1 st.2 (jg_ _) fun h' ez=>hQ h' s.toks fun b o hb e=>ez b o (fun z=>hb (by simp[z])) e
 self:=fun _ _ _ _ st hQ=>wpAny_pyIter_keyiter st.1 hQ
theorem Yc (lo:(d==sysModules)=false):PySem.W.KdlSrc prog w "dict" d d es.size (fun i v=>∃e,es[i]?=some e/\v=e.key) (fun h=>h.DEnt d es ep) where
 type:=fun _ hm=>hm.typeIs
 there:=fun _ hm=>⟨hm.lt_size,hm.lt_size⟩
 keep:=fun _ _ hm hk=>hm.at fun o e=>hk d (.inl rfl) o e
 notList:=by decide
 notTuple:=by decide
 hint:=fun _ _ _ _ hm hq=>PySem.W.kdl_hint_dict hm.typeIs hq
 iter:=fun _ _ hh hm=>⟨_,_,(fun _ _ hq=>RL lo hm hq),Walks.dent hh _ (jN_ hm.lt_size),⟨⟨_,jC_ _ rfl,rfl,rfl⟩,hm.at fun o e=>jm_ _ e⟩⟩
end
end PySem
namespace L2
open PySem PySem.Spec PyProof.Rows
theorem NA {α β:Type}{F:α->β->Prop}:∀{l:List α} {m:List β} {i:Nat} {a:α},Paired F l m->l[i]?=some a->∃b,m[i]?=some b/\F a b
 |_,_,_,_,.nil,e=>by simp at e
 |_,_,0,_,.cons r _,e=>by simp at e;subst e;exact⟨_,rfl,r⟩
 |_,_,i+1,a,.cons _ t,e=>by
  obtain⟨b,h1,h2⟩:=NA (i:=i) (a:=a) t (by simpa using e)
  exact⟨b,by simpa using h1,h2⟩
theorem AM_       (ok:HOk P w H h)(e:Rd H a (.dT kvs)):
  ∃o es ep,h.get? a=some o/\o.ExactDict/\o.data=.dict es ep/\es.size=kvs.length/\(a==sysModules)=false/\kvs.length<=sizeLine /\
   ∀(i:Nat) (k:List Key) (v:V),kvs[i]?=some (k,v)->∃b en,es[i]?=some en/\en.key=.ref b/\H b=some (.tup (k.map kV)):=by
 obtain⟨z,y,xs,r,o,es,ep,h1,h2,h3,h4,h5⟩:=(show B6 P w H h a (.dT kvs) from Ay_ ok e)
 have hl:=Paired.length r
 have hs:es.size=kvs.length:=by rw[<-j3_,h4,ja_,hl]
 refine⟨o,es,ep,h1,h2,h3,hs,y,z,fun i k v hk=>?_⟩
 obtain⟨q,hq,e1,e2,_⟩:=NA r hk
 refine⟨q.2.1,entryOfKey (tupleKind (BV P w)) q,?_,rfl,e2⟩
 rw[<-xp_,h4,je_,hq];rfl
theorem K2  (hc:X.calm=true):Dq X (.type "list") (fun xs H Q=>∃p kvs,xs=[.ref p]/\Rd H p (.dT kvs)/\∀l rs,H l=none->rs.length=kvs.length ->
  (∀(i:Nat) (k:List Key) (v:V),kvs[i]?=some (k,v)->∃b,rs[i]?=some (V.ref b)/\H b=some (.tup (k.map kV)))->Q (.ref l) (upd H l (.lst rs))):=by
 intro pins s σ H xs us Q I r h
 obtain⟨p,kvs,rfl,hp,q⟩:=h
 obtain⟨u,rfl,rx⟩:=vals1 r
 cases rx
 obtain⟨o,es,ep,g1,g2,g3,g4,g5,g6,g7⟩:=AM_ I.hok hp
 refine PySem.W.kdl_call (Yc (es:=es) (ep:=ep) g5) (I.ok.hd hc) ⟨o,g1,g2,g3⟩ (by omega) fun h' tk cV c' hk hD aF=>?_
 let f:DictEntry->V:=fun e=>match e.key with | .ref b=>V.ref b|_=>.non
 have j6:∀(i:Nat) (k:List Key) (v:V),kvs[i]?=some (k,v)->∃b,(es.toList.map f)[i]?=some (V.ref b)/\H b=some (.tup (k.map kV)):=fun i k v ir=>by
  obtain⟨b,en,e1,e2,e3⟩:=g7 i k v ir
  refine⟨b,?_,e3⟩
  rw[je_,xp_,e1]
  show some (f en)=_
  simp only[f,e2]
 have hlen:(es.toList.map f).length=kvs.length:=by rw[ja_,j3_,g4]
 have hv:Vals (es.toList.map f) cV.toList:=by
  refine Vals.ofIx (by rw[hlen,<-g4];simpa using aF.1) fun i v hv=>?_
  obtain⟨e,he,rfl⟩:=aF.2 i v (by simpa using hv)
  have hi:i<kvs.length:=by rw[<-g4];exact (Array.getElem?_eq_some_iff.mp he).1
  obtain⟨b,en,e1,e2,e3⟩:=g7 i kvs[i].1 kvs[i].2 (by simp[hi])
  rw[he]at e1
  cases e1
  refine⟨V.ref b,?_,by rw[e2];rfl⟩
  rw[je_,xp_,he]
  show some (f e)=_
  simp only[f,e2]
 exact⟨.ref _,_,I.laid (t':=tk) hk (jg_ _) (show B6 X.prog X.w _ h' _ (.lst (es.toList.map f)) from ⟨by rw[hlen];exact g6,cV.toList,c',hv,by simpa using hD⟩),rfl,q _ _ (I.hok.fresh (jg_ _)) hlen j6⟩
end L2
namespace GB
open GW
variable {α:Type} [DecidableEq α]
def Dz_ (step:α->Int->α)(a:α)(ws:α2):α:=ws.foldl step a
structure B (L:Int)(step:α->Int->α)(st:α)(ok:α->Prop)(ents:List (α×α2))(i:Nat)(top:Int):Prop where
 hd:ents[0]?=some (st,[])
 il:i<=ents.length
 sh:∀(j:Nat) (e:α×α2),ents[j]?=some e->e.2.length<=j
 nod:(ents.map (·.1)).Nodup
 rng:∀e∈ents,ok e.1
 wd:∀e∈ents,isW L e.2=true/\Dz_ step st e.2=e.1
 inc:∀(j k:Nat) (a b:α×α2),j<k->ents[j]?=some a->ents[k]?=some b->place L a.2<place L b.2
 bnd:∀e∈ents,place L e.2<top
 don:∀j,j<i->∀e,ents[j]?=some e->∀x:Int,0<=x->x<L->∃e'∈ents,e'.1=step e.1 x/\place L e'.2<=place L (e.2++[x])
variable {L:Int} {step:α->Int->α} {st:α} {ok:α->Prop} {ents:List (α×α2)} {i:Nat} {top:Int}
def C1 (aa:α1)(r:Int)(ws:α2):Int:=ws.foldl (Cr aa) r
theorem CI (aa:α1)(ws:α2):C1 aa 0 ws=AK aa ws:=rfl
theorem BZ (aa:α1)(r x:Int)(ws:α2):C1 aa r (x::ws)=C1 aa (Cr aa r x) ws:=rfl
theorem Uv (aa:α1)(r x:Int)(ws:α2):C1 aa r (ws++[x])=Cr aa (C1 aa r ws) x:=by
 unfold C1
 rw[qM_];rfl
theorem Uw {aa:α1}{ws:α2}{i:Nat}{x r:Int}(h:ws[i]?=some x):C1 aa r (ws.take (i+1))=Cr aa (C1 aa r (ws.take i)) x:=by
 rw[jV_,h]
 exact Uv _ _ _ _
theorem Tx {L:Int}{marks:α2}{aa:α1}(wf:Wf L marks aa):∀(ws:α2) {r:Int},isW L ws=true->0<=r->r<marks.length->0<=C1 aa r ws/\C1 aa r ws<marks.length
 |[],r,_,h0,h1=>⟨h0,h1⟩
 |x::ws,r,hv,h0,h1=>by
  have hx:=AD.mp hv x jn_
  obtain⟨_,g,_,_,h,g0,g1⟩:=wf.step h0 h1 hx.1 hx.2
  rw[BZ,h]
  exact Tx wf ws (AD.mpr fun y hy=>AD.mp hv y (jl_ _ hy)) g0 g1
end GB
namespace L2
open PySem PySem.Spec PyProof.Rows GW GB
def TK (H H':Hp):Prop:=∀b xs,H b=some (.tup xs)->H' b=some (.tup xs)
theorem TK.refl (H:Hp):TK H H:=fun _ _ h=>h
theorem TK.of  (s:Same H H'):TK H H':=fun b xs h=>s b _ h
theorem TK.trans  (a:TK H H')(b:TK H' fX):TK H fX:=fun c xs h=>b c xs (a c xs h)
theorem TK.new    (h:H p=none):TK H (upd H p o):=TK.of (Same.new h)
theorem TK.lst {H:Hp}{p:Addr}{o:HO}{xs:List V}(h:H p=some (.lst xs)):TK H (upd H p o):=fun b ys e=>by rw[Ai (fun z=>by rw[z,h]at e;cases e)];exact e
theorem AN_ {κ:Type}[DecidableEq κ]{kvs:List (κ×V)}{i:Nat}{k:κ}{v:V}(hn:(kvs.map (·.1)).Nodup)(h:kvs[i]?=some (k,v)):valV kvs k=some v:=by
 induction kvs generalizing i with
 |nil=>simp at h
 |cons p r ih=>
  rw[j1_,qF_]at hn
  cases i with
  |zero=>simp at h;subst h;exact Kv rfl
  |succ i=>
   have h':r[i]?=some (k,v):=by simpa using h
   rw[Kw (fun z=>hn.1 (jv_.mpr ⟨(k,v),jd_ h',z.symm⟩))]
   exact ih hn.2 h'
end L2
namespace L2
theorem WI    : Wb σ H Q=∀p,H p=none->Q (.ref p) (upd H p (.dK [])):=rfl
theorem WJ    : Wc σ H Q=∀p,H p=none->Q (.ref p) (upd H p (.dT [])):=rfl
end L2
namespace GB
open GW
theorem Om   : isW L (x::w)=true↔(0<=x/\x<L)/\isW L w=true:=by
 rw[AD,AD]
 simp
theorem On   (h:isW L w=true)(j:Nat):isW L (w.take j)=true:=AD.mpr fun x hx=>AD.mp h x (xg_ hx)
theorem C2   (h:isW L v=true)(g:isW L w=true):isW L (v++w)=true:=AD.mpr fun x hx=>(jz_.mp hx).elim (AD.mp h x) (AD.mp g x)
end GB
namespace L2
open GW
def WK (n:Nat)(num:Int):α2:=0::(List.range (n-1)).map fun j:Nat=>1+((j:Int)+num)%((n:Int)-1)
theorem WL  (hn:2<=n)(num:Int):ES n (WK n num):=by
 have rng:∀j:Nat,0<=((j:Int)+num)%((n:Int)-1)/\((j:Int)+num)%((n:Int)-1)<(n:Int)-1:=fun j=>⟨j8_ _ (by omega),j0_ _ (by omega)⟩
 refine⟨KZ ?_ (fun x hx=>?_) ?_,rfl⟩
 ·unfold WK
  rw[qF_]
  refine⟨fun h=>?_,?_⟩
  ·obtain⟨j,_,e⟩:=jv_.mp h
   have:=rng j
   omega
  ·refine xE_.mpr (List.Pairwise.imp_of_mem (fun {a b} ha hb cu z=>cu ?_) zx_)
   have ha:=jP_.mp ha
   have hb:=jP_.mp hb
   have z:((a:Int)+num)%((n:Int)-1)=((b:Int)+num)%((n:Int)-1):=by omega
   have key:∀{a b:Nat},b<=a->a<n-1->((a:Int)+num)%((n:Int)-1)=((b:Int)+num)%((n:Int)-1)->a=b:=fun {a b} h1 h2 z=>by
    have:=Int.emod_eq_emod_iff_emod_sub_eq_zero.mp z
    rw[show (a:Int)+num-((b:Int)+num)=(a:Int)-b by omega,Int.emod_eq_of_lt (by omega) (by omega)]at this
    omega
   rcases Nat.le_total b a with h|h
   ·exact key h ha z
   ·exact (key h hb z.symm).symm
 ·rw[WE]
  unfold WK at hx
  rcases jJ_.mp hx with rfl|hx
  ·omega
  ·obtain⟨j,_,rfl⟩:=jv_.mp hx
   have:=rng j
   omega
 ·unfold WK
  rw[WF];simp;omega
end L2
namespace L2
open PySem PySem.Spec PyProof.Rows GW
def LLs (H0 H:Hp)(xs:List V)(ws:α1):Prop:=∃ts:List Addr,xs=ts.map V.ref/\ts.length=ws.length/\ts.Nodup/\(∀(i:Nat) (t:Addr) (w:α2),ts[i]?=some t->ws[i]?=some w->H t=some (.lst (w.map V.int)))/\∀t∈ts,H0 t=none
theorem LLs.nil (H0 H:Hp):LLs H0 H [] []:=⟨[],rfl,rfl,List.nodup_nil,fun i t w h=>by simp at h,fun t h=>by simp at h⟩
theorem LLs.mono    (h:LLs H0 H xs ws)(s:Same H H'):LLs H0 H' xs ws:=by
 obtain⟨ts,a,b,c,d,e⟩:=h
 exact⟨ts,a,b,c,fun i t w h1 h2=>s _ _ (d i t w h1 h2),e⟩
theorem LLs.len    (h:LLs H0 H xs ws):xs.length=ws.length:=by
 obtain⟨ts,a,b,_⟩:=h
 rw[a,ja_,b]
theorem LLs.snoc      (h:LLs H0 H xs ws)(h0:H0 p=none)(hp:H p=none):LLs H0 (upd H p (.lst (w.map V.int))) (xs++[.ref p]) (ws++[w]):=by
 obtain⟨ts,a,b,c,d,e⟩:=h
 have hts:∀t∈ts,t≠p:=fun t ht z=>by
  obtain⟨i,hi,ei⟩:=jS_ ht
  have:=d i t ws[i] (by rw[jf_ hi,ei]) (by simp[show i<ws.length by omega])
  rw[z,hp]at this;cases this
 refine⟨ts++[p],by rw[a];simp,by simp[b],?_,fun i t v h1 h2=>?_,fun t ht=>?_⟩
 ·rw[zl_]
  refine⟨c,by simp,fun x hx y hy=>?_⟩
  simp at hy;subst hy;exact hts x hx
 ·by_cases hi:i<ts.length
  ·rw[jj_ hi]at h1
   rw[jj_ (by omega)]at h2
   rw[Ai (hts t (jd_ h1))]
   exact d i t v h1 h2
  ·have:=(jb_.mp h1).1
   rw[jo_,jY_]at this
   have ei:i=ts.length:=by omega
   subst ei
   rw[ju_ (jg_ _),qC_]at h1
   rw[b,ju_ (jg_ _),qC_]at h2
   simp at h1 h2
   subst h1 h2
   exact Ab
 ·rcases jz_.mp ht with ht|ht
  ·exact e t ht
  ·rw[js_.mp ht];exact h0
theorem LLs.at    (h:LLs H0 H xs ws)   (hw:ws[i]?=some w):∃t,xs[i]?=some (.ref t)/\H t=some (.lst (w.map V.int))/\H0 t=none/\∀j x,LLs H0 (upd H t (.lst ((w.set j x).map V.int))) xs (ws.set i (w.set j x)):=by
 obtain⟨ts,a,b,c,d,e⟩:=h
 have hi:i<ts.length:=by rw[b];exact (jb_.mp hw).1
 have ht:ts[i]?=some ts[i]:=by simp[hi]
 refine⟨ts[i],by rw[a,je_,ht];rfl,d i _ w ht hw,e _ (j2_ hi),fun j x=>⟨ts,a,by rw[qQ_];exact b,c,fun k t v h1 h2=>?_,e⟩⟩
 by_cases hk:k=i
 ·subst hk
  rw[ht]at h1;cases h1
  rw[qO_ (by omega)]at h2;cases h2
  exact Ab
 ·have ao:t≠ts[i]:=fun z=>hk (by
   have cw:=(jb_.mp h1).1
   refine (xN_ (h₀:=cw) (h₁:=hi) c).mp ?_
   rw[<-z]
   exact (jb_.mp h1).2)
  rw[xe_ (qv_ hk)]at h2
  rw[Ai ao]
  exact d k t v h1 h2
theorem Same.none  (s:Same H H')  (h:H' p=none):H p=none:=by
 cases e:H p with
 |none=>rfl
 |some u=>rw[s _ _ e]at h;cases h
theorem Yd {K:α3}         (hl:SqL K H a xs)(hlen:xs.length=ws.length)(e:cp.st σ=Option.none::ae)(hz:xs.length<sizeLine)
  (hs:∀(i:Nat) (x:V) (w:α2) H2,Same H H2->xs[i]?=some x->ws[i]?=some w->∀R:VK,(∀p H3,Same H2 H3->SqT K H3 p (w.map V.int)->R (.ref p) H3)->te (some x::ae) H2 R)
  (hd:∀H2 D ys,Same H H2->H2 D=Option.none->DL K (upd H2 D (.lst ys)) D ws->Q (.ref D) (upd H2 D (.lst ys))):P8 (Itl K a) cp (IB 0) Uo te σ H Q:=by
 refine P9 (xs:=xs) (fun i ys af H2=>Same H H2/\(∃ts:List Addr,ys=ts.map V.ref/\ts.length=i/\∀(j:Nat) (t:Addr) (w:α2),ts[j]?=some t->ws[j]?=some w->SqT K H2 t (w.map V.int))/\∃o,af=o::ae) ⟨Same.refl _,⟨[],rfl,rfl,fun j t w h=>by simp at h⟩,Option.none,e⟩ hz (fun i ys af H2 hi h=>?_) (fun i x ys af H2 hx h=>?_) (fun ys af H2 h=>?_)
 ·obtain⟨s,⟨ts,rfl,hm,_⟩,_⟩:=h
  exact⟨s.seq hl,by rw[ja_];omega⟩
 ·obtain⟨s,⟨ts,rfl,hm,ht⟩,o,rfl⟩:=h
  have hi:i<ws.length:=by rw[<-hlen];exact (jb_.mp hx).1
  refine hs i x ws[i] H2 s hx (by simp[hi]) _ fun p H3 s3 hp=>⟨s.trans s3,⟨ts++[p],by simp,by simp[hm],fun j t w h1 h2=>?_⟩,some x,rfl⟩
  by_cases hj:j<ts.length
  ·rw[jj_ hj]at h1
   exact s3.seqT (ht j t w h1 h2)
  ·have:=(jb_.mp h1).1
   rw[jo_,jY_]at this
   have ej:j=i:=by omega
   subst ej
   rw[<-hm,ju_ (jg_ _),qC_]at h1
   simp at h1
   subst h1
   rw[jf_ hi]at h2
   cases h2
   exact hp
 ·obtain⟨s,⟨ts,rfl,hm,ht⟩,_⟩:=h
  exact fun D hD=>hd H2 D _ s hD ⟨ts,Ab,by omega,fun j t w h1 h2=>(Same.new hD).seqT (ht j t w h1 h2)⟩
end L2
namespace GW
theorem Wf.setM    (wf:Wf L marks aa)(r:Nat)  (h:0<=m/\m<=1000000000):Wf L (marks.set r m) aa:=by
 refine⟨wf.l1,wf.l6,by rw[qQ_];exact wf.n1,by rw[qQ_];exact wf.n40,by rw[qQ_];exact wf.len,fun row hr=>?_,fun x hx=>?_⟩
 ·rw[qQ_];exact wf.rows row hr
 ·rcases x0_ hx with hx|rfl
  ·exact wf.mks x hx
  ·exact h
theorem Wf.setW {L:Int}{marks:α2}{aa:α1}(wf:Wf L marks aa){i:Nat}{row:α2}(hr:aa[i]?=some row)(j:Nat){g:Int}(h:0<=g/\g<marks.length):Wf L marks (aa.set i (row.set j g)):=by
 refine⟨wf.l1,wf.l6,wf.n1,wf.n40,by rw[qQ_];exact wf.len,fun x hx=>?_,wf.mks⟩
 rcases x0_ hx with hx|rfl
 ·exact wf.rows x hx
 ·have:=wf.rows row (jd_ hr)
  refine⟨by rw[qQ_];exact this.1,fun y hy=>?_⟩
  rcases x0_ hy with hy|rfl
  ·exact this.2 y hy
  ·exact h
end GW
namespace L2
open PySem GW
theorem LLs.off      (h:LLs H0 H xs ws)(hp:H0 p=some u):LLs H0 (upd H p o) xs ws:=by
 obtain⟨ts,a,b,c,d,e⟩:=h
 refine⟨ts,a,b,c,fun i t w h1 h2=>?_,e⟩
 rw[Ai (fun z=>by have:=e t (jd_ h1);rw[z,hp]at this;cases this)]
 exact d i t w h1 h2
end L2
namespace L2
open PySem PySem.Spec PyProof.Rows
theorem RM:∀(names:List (Str×NameKind)) (h:Heap) (acc:List (Str×Addr)) (x:Str) (c:Addr),(cellsFrom h.objs.size names acc).lookup x=some c->((pushCells h names).IsCell c none/\h.objs.size<=c)\/acc.lookup x=some c
 |[],_,_,_,_,e=>.inr e
 | (y,k)::r,h,acc,x,c,e=>by
  unfold cellsFrom at e
  unfold pushCells
  by_cases hk:(k == .cell)=true
  ·rw[if_pos hk]at e ⊢
   have e':(cellsFrom (h.push {cls:=.type "cell",data:=.cell none}).objs.size r ((y,h.objs.size)::acc)).lookup x=some c:=by rw[qR_];exact e
   rcases RM r _ _ x c e' with ⟨a,b⟩|q
   ·rw[qR_]at b
    exact .inl ⟨a,xF_ b⟩
   ·rw[j6_]at q
    cases hx:x==y with
    |true=>
     rw[hx]at q
     have:h.objs.size=c:=jp_ q
     subst this
     exact .inl ⟨⟨_,pushCells_keeps _ _ _ _ (jC_ _ rfl),rfl⟩,jg_ _⟩
    |false=>rw[hx]at q;exact .inr q
  ·rw[if_neg hk]at e ⊢
   exact RM r h acc x c e
theorem KA:∀(names:List (Str×NameKind)) (n:Nat) (acc:List (Str×Addr)) (x:Str) (c:Addr),(cellsFrom n names acc).lookup x=some c->n<=c\/acc.lookup x=some c
 |[],_,_,_,_,e=>.inr e
 | (y,k)::r,n,acc,x,c,e=>by
  unfold cellsFrom at e
  by_cases hk:(k == .cell)=true
  ·rw[if_pos hk]at e
   rcases KA r _ _ x c e with b|q
   ·exact .inl (xF_ b)
   ·rw[j6_]at q
    cases hx:x==y with
    |true=>rw[hx]at q;have:n=c:=jp_ q;exact .inl (Nat.le_of_eq this)
    |false=>rw[hx]at q;exact .inr q
  ·rw[if_neg hk]at e
   exact KA r n acc x c e
theorem WM:∀(names:List (Str×NameKind)) (n:Nat) (acc:List (Str×Addr)),(∀x y c,acc.lookup x=some c->acc.lookup y=some c->x=y)->(∀x c,acc.lookup x=some c->c<n)->∀x y c,(cellsFrom n names acc).lookup x=some c->(cellsFrom n names acc).lookup y=some c->x=y
 |[],_,_,hi,_,x,y,c,e1,e2=>hi x y c e1 e2
 | (z,k)::r,n,acc,hi,hb,x,y,c,e1,e2=>by
  unfold cellsFrom at e1 e2
  by_cases hk:(k == .cell)=true
  ·rw[if_pos hk]at e1 e2
   refine WM r (n+1) ((z,n)::acc) (fun x y c h1 h2=>?_) (fun x c h=>?_) x y c e1 e2
   ·rw[j6_]at h1 h2
    cases hx:x==z with
    |true=>
     cases hy:y==z with
     |true=>rw[zW_.mp hx,zW_.mp hy]
     |false=>
      rw[hx]at h1;rw[hy]at h2
      have e:n=c:=jp_ h1
      exact absurd (hb y c h2) (by rw[<-e];exact j7_ _)
    |false=>
     cases hy:y==z with
     |true=>
      rw[hx]at h1;rw[hy]at h2
      have e:n=c:=jp_ h2
      exact absurd (hb x c h1) (by rw[<-e];exact j7_ _)
     |false=>rw[hx]at h1;rw[hy]at h2;exact hi x y c h1 h2
   ·rw[j6_]at h
    cases hx:x==z with
    |true=>rw[hx]at h;have e:n=c:=jp_ h;rw[<-e];exact zt_ _
    |false=>rw[hx]at h;exact xi_ (hb x c h)
  ·rw[if_neg hk]at e1 e2
   exact WM r n acc hi hb x y c e1 e2
theorem RO:∀(names:List (Str×NameKind)) (n:Nat) (acc:List (Str×Addr)) (x:Str),(∀p∈names,p.1=x->p.2 ≠ .cell)->(cellsFrom n names acc).lookup x=acc.lookup x
 |[],_,_,_,_=>rfl
 | (y,k)::r,n,acc,x,h=>by
  unfold cellsFrom
  by_cases hk:(k == .cell)=true
  ·rw[if_pos hk,RO r _ _ x fun p hp=>h p (jl_ _ hp),j6_]
   cases hx:x==y with
   |true=>exact absurd (zW_.mp hk) (h (y,k) jn_ (zW_.mp hx).symm)
   |false=>rfl
  ·rw[if_neg hk]
   exact RO r n acc x fun p hp=>h p (jl_ _ hp)
theorem Ql      {globals:Addr}
  (hQ:Q {scope:=sc,locals:=s.heap.objs.size,globals,cells:=cellsFrom (s.heap.objs.size+1) sc.names cl,qual,func:=none,code:=outer.code,frame:=outer.frame,builtins:=outer.builtins} {s with heap:=pushCells (s.heap.push {cls:=.type "dict",data:=.dict #[]}) sc.names}):
  wpAny M A (newFunctionEnv sc globals cl [] qual none .none (some outer)) Q E s:=by
 simp only[newFunctionEnv,x9_,xK_]
 refine jc_ (wpAny_alloc (jc_ (wpAny_layCells _ (fun name kind cells=>by cases iu:kind==NameKind.cell<;>simp[iu]) _ _ _ _ ?_)))
 rw[show ({s with heap:=s.heap.push {cls:=.type "dict",data:=.dict #[]} }:Shared).heap.objs.size=s.heap.objs.size+1 from qR_ ..]
 refine jc_ ?_
 rw[List.forIn_nil]
 exact jq_ (jq_ hQ)
abbrev ownC (X:Cx)(sc:Scope)(C:Addr):List (Str×Addr):=cellsFrom (C+1) sc.names (clOf X.env sc.names [])
abbrev Cx.blkC (X:Cx)(N:List Str)(sc:Scope)(C:Addr)(s₀:Shared)(H₀:Hp)(ex:List Addr):Cx:=
 {X with N:=N,env:=compEnvC sc (ownC X sc C) C X.env,outer:=X.stack,s₀:=s₀,H₀:=H₀,ex:=ex,fn:=fun x=>sc.names.lookup x==some .cell,pn:=[],xe:=fun _ _=>False}
theorem K3 {env:Env}:∀(l:List (Str×NameKind)) (acc:List (Str×Addr)) (x:Str) (c:Addr),(x,c)∈clOf env l acc->(x,NameKind.free)∈l\/(x,c)∈acc
 |[],_,_,_,h=>.inr h
 | (n,k)::r,acc,x,c,h=>by
  unfold clOf at h
  by_cases hk:(k == .free)=true
  ·rw[if_pos hk]at h
   rcases K3 r _ x c h with q|q
   ·exact .inl (jl_ _ q)
   ·rcases jJ_.mp q with q|q
    ·cases q
     rw[zW_.mp hk]
     exact .inl jn_
    ·exact .inr q
  ·rw[if_neg hk]at h
   rcases K3 r _ x c h with q|q
   ·exact .inl (jl_ _ q)
   ·exact .inr q
structure BlkScC (X:Cx)(sc:Scope):Prop where
 kind:sc.kind=.function
 one:∀y∈sc.names,∀z∈sc.names,y.1=z.1->y.2=z.2
 loc:∀y∈sc.names,y.2=.local->sc.names.lookup y.1=some .local
 free:∀y∈sc.names,y.2=.free->X.env.kindOf y.1=some .cell\/X.env.kindOf y.1=some .free
section
variable {X:Cx} {pins:α7} {σ:St} {H:Hp} {s:Shared} {sc:Scope} {fp:List Addr}
theorem NB (I:Inv X pins σ H s)(S:BlkScC X sc):∀p∈sc.names,p.2=.free->∃c,X.env.cells.lookup p.1=some c:=fun p hp e=>I.ok.has p.1 (S.free p hp e)
theorem Fh (I:Inv X pins σ H s)(S:BlkScC X sc)   (h:(clOf X.env sc.names []).lookup x=some c):X.env.cells.lookup x=some c:=
 Kx sc.names [] (NB I S) (fun q hq=>by cases hq) (x,c) (qf_ h)
theorem IG  (I:Inv X pins σ H s)(S:BlkScC X sc)   (h:(ownC X sc C).lookup x=some c):C+1<=c\/X.env.cells.lookup x=some c:=by
 rcases KA _ _ _ _ _ h with q|q
 ·exact .inl q
 ·exact .inr (Fh I S q)
theorem Fi {env:Env}:∀{names:List (Str×NameKind)} {x:Str} {k:NameKind},(names.map (relF env)).lookup x=some k->(k=.cell\/k=.free)->(x,NameKind.free)∈names\/names.lookup x=some .cell
 |[],_,_,h,_=>by simp at h
 | (n,k')::r,x,k,h,hk=>by
  have ih := @Fi env r x k
  rw[j1_]at h
  rw[j6_]
  by_cases hb:(k'==NameKind.free&&env.scope.kind == .function&&env.kindOf n==some .cell)=true
  ·rw[Ky hb,j6_]at h
   cases hx:x==n with
   |true=>
    have e:x=n:=by simpa using hx
    subst e
    have e2:k'=.free:=by
     simp only[qb_]at hb
     simpa using hb.1.1
    subst e2
    exact .inl jn_
   |false=>
    rw[hx]at h
    rcases ih h hk with q|q
    ·exact .inl (jl_ _ q)
    ·exact .inr q
  ·rw[Ob hb,j6_]at h
   cases hx:x==n with
   |true=>
    rw[hx]at h
    have e:x=n:=by simpa using hx
    subst e
    have e2:k'=k:=jp_ h
    subst e2
    rcases hk with rfl|rfl
    ·exact .inr rfl
    ·exact .inl jn_
   |false=>
    rw[hx]at h
    rcases ih h hk with q|q
    ·exact .inl (jl_ _ q)
    ·exact .inr q
theorem AO_ {N:List Str}{C:Addr}(I:Inv X pins σ H s)(S:BlkScC X sc)(hC:s.heap.objs.size<=C)(hf:∀b∈fp,FpOk X pins H b)(ho:∀b∈fp,∃o,s.heap.get? b=some o):(X.blkC N sc C s H fp).Ok where
 mod:=I.ok.mod
 kind:=S.kind
 glob:=I.ok.glob
 blt:=I.ok.blt
 above:=hC
 inj:=fun x y c h1 h2=>by
  refine WM sc.names (C+1) (clOf X.env sc.names []) (fun x y c h1 h2=>I.ok.inj x y c (Fh I S h1) (Fh I S h2)) (fun x c h=>?_) x y c h1 h2
  obtain⟨v,q⟩:=I.cell x c (Fh I S h)
  exact xi_ (jx_ q.lt hC)
 has:=fun x hx=>by
  have dO:(x,NameKind.free)∈sc.names\/sc.names.lookup x=some .cell:=by
   rcases hx with hx|hx
   ·exact Fi (env:=X.env) hx (.inl rfl)
   ·exact Fi (env:=X.env) hx (.inr rfl)
  refine xy_.mp (xO_ sc.names (C+1) (clOf X.env sc.names []) ?_)
  rcases dO with q|q
  ·obtain⟨c,hc⟩:=GE (env:=X.env) sc.names [] x (.inl q)
   obtain⟨c',e⟩:=BA hc
   exact .inr (by rw[e];rfl)
  ·exact .inl q
 cab:=fun x c h e=>by
  have hx:sc.names.lookup x=some .cell:=by simpa using h
  rcases KA _ _ _ _ _ e with q|q
  ·exact qm_ hC (xF_ q)
  ·rcases K3 _ _ _ _ (qf_ q) with z|z
   ·have:=S.one _ (qf_ hx) _ z rfl
    cases this
   ·cases z
 hd:=I.ok.hd
 frames:=I.ok.frames
 stk:=.inl rfl
 exf:=fun b hb=>by
  obtain⟨o,ho⟩:=ho b hb
  refine⟨jN_ (jx_ (jt_ ho) hC),fun x c h=>?_⟩
  rcases IG I S h with q|q
  ·intro z;rw[z]at q;exact absurd (jx_ (jt_ ho) hC) (Nat.not_lt_of_le (xF_ q))
  ·exact (hf b hb).2.2.2.2.1 x c q
 bs:=I.bs
 bsz:=qm_ I.ok.bsz I.sz
 noex:=fun b o e hb=>by
  rcases (hf b hb).2.2.2.1 with z|z
  ·exact I.ok.noex b o e z
  ·exact absurd (jx_ (jt_ (I.ok.bs b o e).1) z) (j7_ _)
 exfs:=fun b hb z=>by
  rcases jJ_.mp (I.stkSub b z) with e|e
  ·exact (hf b hb).2.1 e
  ·exact (hf b hb).2.2.1 e
 funs:=I.stack
 frf:=I.stkFree
theorem Ux {c:Caps}{C:Addr}{s4:Shared}{m:Str->α5}(I:Inv X pins σ H s)(S:BlkScC X sc)(hc:D3 X.N sc c)(hC:s.heap.objs.size<=C)(hf:∀b∈fp,FpOk X pins H b)(ho:∀b∈fp,∃o,s.heap.get? b=some o)
  (cL:s4.os=s.os) (hb:s4.gens=s.gens) (hk:∀b o,s.heap.get? b=some o->s4.heap.get? b=some o) (hn:s4.heap.Ns C m)
  (bh:∀x c,(ownC X sc C).lookup x=some c->(s4.heap.IsCell c none/\C+1<=c)\/(clOf X.env sc.names []).lookup x=some c):Inv (X.blkC c.names sc C s H fp) [] (c.st σ) H s4 where
 ok:=AO_ I S hC hf ho
 os:=cL
 bare:=by rw[hb];exact I.bare
 base:=Un.kept hk
 loc:=by
  refine⟨m,hn,fun i x v h1 h2 hv=>?_⟩
  have eT:(c.map (·.1))[i]?=some x:=h1
  have fI:(c.map fun p=>p.2.bind fun j=>(σ[j]?).join)[i]?=some (some v):=h2
  rw[je_]at eT fI
  cases e:c[i]? with
  |none=>rw[e]at eT;cases eT
  |some p=>
   obtain⟨y,oj⟩:=p
   rw[e]at eT fI
   have e1:y=x:=jp_ eT
   subst e1
   have e2:(oj.bind fun j=>(σ[j]?).join)=some v:=jp_ fI
   cases oj with
   |none=>cases e2
   |some j=>
    have e3:(σ[j]?).join=some v:=e2
    have e4:σ[j]?=some (some v):=by
     cases q:σ[j]? with
     |none=>rw[q]at e3;cases e3
     |some z=>rw[q]at e3;exact jG_ some e3
    obtain⟨k1,k2⟩:=D3.get hc e
    have iw:=qf_ k2
    have k3:X.env.kindOf y=some .cell\/X.env.kindOf y=some .free:=S.free (y,.free) iw rfl
    have jO:Vis X.env.scope y:=by
     rcases k3 with k|k
     ·exact .inr (.inl k)
     ·exact .inr (.inr k)
    obtain⟨mX,hnX,hl⟩:=I.loc
    obtain⟨u,r,l⟩:=hl j y v k1 e4 jO
    refine⟨u,r,?_⟩
    rcases l with ⟨k,_⟩|⟨_,ca,l9,z⟩
    ·rcases k3 with k' | k'<;>(rw[k]at k';cases k')
    ·obtain⟨kd,jW,ek⟩:=FY (env:=X.env) k2
     have eU:(compEnvC sc (ownC X sc C) C X.env).kindOf y=some kd:=ek
     obtain⟨c',gG⟩:=GE (env:=X.env) sc.names [] y (.inl iw)
     obtain⟨c2,bO⟩:=BA gG
     have e5:=Fh I S bO
     rw[l9]at e5
     have e6:ca=c2:=jp_ e5
     subst e6
     have e7:(ownC X sc C).lookup y=some ca:=by
      rw[RO sc.names (C+1) _ y fun p hp ep z=>?_]
      ·exact bO
      ·have:=S.one p hp (y,.free) iw ep
       rw[z]at this;cases this
     refine .inr ⟨?_,ca,e7,?_⟩
     ·rcases jW with rfl|rfl
      ·exact .inl eU
      ·exact .inr eU
     ·obtain⟨oc,cS,hd⟩:=z
      exact⟨oc,hk _ _ cS,hd⟩
 cell:=fun x ca h=>by
  rcases bh x ca h with ⟨q,_⟩|q
  ·exact⟨_,q⟩
  ·obtain⟨v,oc,cS,hd⟩:=I.cell x ca (Fh I S q)
   exact⟨v,oc,hk _ _ cS,hd⟩
 free:=I.hok.fresh hC
 freeC:=fun x ca h=>by
  rcases bh x ca h with ⟨_,q⟩|q
  ·exact I.hok.fresh (qm_ hC (xF_ q))
  ·exact I.freeC x ca (Fh I S q)
 pin:=fun p hp=>absurd (show p∈([]:α7) from hp) (by simp)
 hok:=I.hok.kept hk
 len:=by show (c.map _).length=(c.map _).length;rw[ja_,ja_]
theorem Ye {c:Caps}{C D:Addr}{s':Shared}{ae:St}{H':Hp}{o:HO}(I:Inv X pins σ H s)(J:Inv (X.blkC c.names sc C s H fp) [] ae H' s')(hf:∀b∈fp,FpOk X pins H b)(hD:s.heap.objs.size<=D)(hn:H' D=none)
  (new:B6 X.prog X.w (upd H' D o) s'.heap D o):Inv X pins σ (upd H' D o) s':=by
 have u:Un (frs X.stack) fp H H' s.heap s'.heap:=J.base
 exact I.call' J.os (u.track hD hn) (J.hok.track hn new) J.bare fun b hb=>⟨(hf b hb).2.2.2.1,(hf b hb).2.1,(hf b hb).2.2.2.2.1,(hf b hb).2.2.2.2.2⟩
end
section
variable {X:Cx} {tg iter elt:Expr} {ifs:List Expr} {sc:Scope} {pos:Pos} {wi:TI} {cp:Caps} {g:TG} {tc:TT} {te:TE}
theorem Uy (hc:X.calm=true)(S:BlkScC X sc)(fU:D3 X.N sc cp)
  (hg:∀C s₀ H₀ ex,PG (X.blkC cp.names sc C s₀ H₀ ex) tg g) (hf:∀C s₀ H₀ ex,PF (X.blkC cp.names sc C s₀ H₀ ex) ifs tc) (he:∀C s₀ H₀ ex,PE (X.blkC cp.names sc C s₀ H₀ ex) elt te)
  {pins:α7} {σ:St} {H:Hp} {s:Shared} {J:It} {it:Addr} {fp:List Addr} {tn:Nat->Heap->Prop} {Q:VK} {RR:Value->Addr->Result->Shared->Prop} {E:Value->Shared->Prop}
  (I:Inv X pins σ H s) (T:Turn X.prog X.w X.K tg J fp it tn) (st:tn 0 s.heap) (dP:∀b∈fp,FpOk X pins H b)
  (hw:∃W:Nat->Nat->List V->St->Hp->Prop,(∃m,W 0 m [] (cp.st σ) H)/\∀i m ys ae H',W i m ys ae H' ->
   ys.length<sizeLine/\((J.stop i H'/\∀D,H' D=none->Q (.ref D) (upd H' D (.lst ys)))\/(J.go i H'/\∃N:List V->St->Hp->Prop,(∀zs af H2,N zs af H2->∃m',m'<m/\W (i+1) m' zs af H2)/\∀x H2,J.yld i H' x H2->g x ae H2 fun af H3=>tc af H3 fun b H4=>
    if b=true then te af H4 fun v H5=>N (ys++[v]) af H5 else N ys af H4)))
  (hR:∀D C s' H' (m:Str->α5),Inv X pins σ H' s'->Q (.ref D) H'->s'.heap.Ns C m->H' C=none->C≠X.env.locals->X.s₀.heap.objs.size<=C->(∀x c,X.env.cells.lookup x=some c->c≠C)->(∀p∈X.pn++pins,p.1≠C)->RR (.ref D) C (.ok .next) s'):
  wpAny (model X.prog X.w) X.A (newList []) (fun acc aL=>wpAny (model X.prog X.w) X.A (newFunctionEnv sc X.env.globals (clOf X.env sc.names []) [] X.env.qual none .none (some X.env)) (fun eV dN=>
   codeAny (model X.prog X.w) X.A (.compStart (.ListComp elt [⟨tg,iter,ifs,0⟩] sc pos) 0 (.ref it) acc {eV with scope:=relabel sc X.env}) (RR acc eV.locals) dN) E aL) E s:=by
 obtain⟨W,⟨m0,w0⟩,turn⟩:=hw
 refine qz_ (Ql ?_)
 dsimp only
 generalize hZ:s.heap.push {cls:=.type "list",dict:=none,data:=.seq ([]:List Value).toArray}=H2
 obtain⟨h₁,dq⟩:∃h₁,h₁=pushCells (H2.push {cls:=.type "dict",data:=.dict #[]}) sc.names:=⟨_,rfl⟩
 rw[<-dq]
 have hcells:∀x c,(ownC X sc H2.objs.size).lookup x=some c->(h₁.IsCell c none/\H2.objs.size+1<=c)\/(clOf X.env sc.names []).lookup x=some c:=fun x c e=>by
  have:=RM sc.names (H2.push {cls:=.type "dict",data:=.dict #[]}) (clOf X.env sc.names []) x c (by rw[qR_];exact e)
  rw[qR_]at this
  rw[dq];exact this
 have bA:h₁.Ns H2.objs.size (fun _=>none):=by rw[dq];exact (Heap.Ns.new H2 (.type "dict")).keeps (pushCells_keeps _ _)
 have keep₁:∀b o,H2.get? b=some o->h₁.get? b=some o:=fun b o e=>by rw[dq];exact pushCells_keeps _ _ b o (jm_ _ e)
 have hC:H2.objs.size=s.heap.objs.size+1:=by rw[<-hZ,qR_]
 have gJ:s.heap.objs.size≠H2.objs.size:=by rw[hC];exact jN_ (zt_ _)
 have a9:s.heap.objs.size<=H2.objs.size:=by rw[hC];exact z0_ _
 have below:∀b,b<s.heap.objs.size->b≠H2.objs.size:=fun b hb=>by rw[hC];exact jN_ (xi_ hb)
 have old:∀b o,s.heap.get? b=some o->h₁.get? b=some o:=fun b o e=>keep₁ b o (hZ ▸ jm_ _ e)
 have aF:h₁.get? s.heap.objs.size=some {cls:=.type "list",data:=.seq ([]:List Value).toArray 0}:=keep₁ _ _ (hZ ▸ jC_ _ rfl)
 have bB:tn 0 h₁:=T.keep 0 _ _ st fun b _ o e=>old b o e
 have a8:∀b∈fp,∃o,s.heap.get? b=some o:=fun b hb=>let ⟨o,e,_⟩:=T.obj 0 _ st b hb;⟨o,e⟩
 have J0:Inv (X.blkC cp.names sc H2.objs.size s H fp) [] (cp.st σ) H {s with heap:=h₁}:=Ux I S fU a9 dP a8 rfl rfl old bA hcells
 have md:∀b,s.heap.objs.size<=b->b∉frs X.stack:=fun b hb z=>by
  rcases jJ_.mp (I.stkSub b z) with e|e
  ·exact absurd (jx_ I.lt (by rw[<-e];exact hb)) (j7_ _)
  ·exact I.nofs hb e
 have cE:∀b,s.heap.objs.size<=b->∀x c,X.env.cells.lookup x=some c->c≠b:=fun b hb x c e z=>by
  obtain⟨v,q⟩:=I.cell x c e
  exact absurd (jx_ q.lt (by rw[z];exact hb)) (j7_ _)
 have jX:∀{aQ:α7} {H':Hp},(∀b∈fp,H' b=none)->(∀p∈aQ,p.1∉fp)->∀b∈fp,FpOk (X.blkC cp.names sc H2.objs.size s H fp) aQ H' b:=fun {aQ H'} hn hp b hb=>by
  obtain⟨o,e⟩:=a8 b hb
  refine⟨hn b hb,below b (jt_ e),fun z=>?_,.inl hb,fun x c h=>(by
   rcases IG I S h with q|q
   ·intro z;rw[z]at q;exact absurd (jt_ e) (Nat.not_lt_of_le (qm_ a9 (xF_ q)))
   ·exact (dP b hb).2.2.2.2.1 x c q),fun p jj z=>?_⟩
  ·rcases jJ_.mp (I.stkSub b z) with e|e
   ·exact (dP b hb).2.1 e
   ·exact (dP b hb).2.2.1 e
  ·have h8:p∈aQ:=by simpa using jj
   exact hp p h8 (by rw[z];exact hb)
 have loop:∀aL:Shared,aL={s with heap:=h₁} ->
   codeAny (model X.prog X.w) X.A (.compLoop (.ListComp elt [⟨tg,iter,ifs,0⟩] sc pos) 0 (.ref it) (.ref s.heap.objs.size) (compEnvC sc (ownC X sc H2.objs.size) H2.objs.size X.env))
    (RR (.ref s.heap.objs.size) H2.objs.size) aL:=by
  rintro aL rfl
  refine Js (fun n s'=>∃i ae H' ys its k,Inv (X.blkC cp.names sc H2.objs.size s H fp) [] ae H' s'/\tn i s'.heap/\(∀b∈fp,H' b=none)/\H' s.heap.objs.size=none /\
   s'.heap.get? s.heap.objs.size=some {cls:=.type "list",data:=.seq its.toArray k}/\Vals ys its/\W i n ys ae H') ?_ m0
   ⟨0,_,H,[],[],0,J0,bB,fun b hb=>(dP b hb).1,I.hok.fresh (jg_ _),aF,.nil,w0⟩
  rintro n s3 ⟨i,av,H3,ys,its,k,I3,cK,jg,mf,e3,rv,w3⟩
  obtain⟨hz,tr⟩:=turn i n ys av H3 w3
  have hlen:=rv.length
  -- l4 accumulator stands still while anything else runs
  have eX:∀p ∈ [(s.heap.objs.size,({cls:=.type "list",data:=.seq its.toArray k}:Obj))],p.1∉fp:=fun p hp z=>by
   have e:p=_:=js_.mp hp
   subst e
   obtain⟨o,e⟩:=a8 _ z
   exact absurd (jt_ e) (j7_ _)
  have jY:Inv (X.blkC cp.names sc H2.objs.size s H fp) [(s.heap.objs.size,({cls:=.type "list",data:=.seq its.toArray k}:Obj))] av H3 s3:=I3.pins_of fun p hp=>by
   have e:p=_:=js_.mp hp
   subst e
   exact⟨e3,mf,gJ,md _ (jg_ _),fun v z=>by cases z⟩
  have bV:∀b∈fp,FpOk (X.blkC cp.names sc H2.objs.size s H fp) [(s.heap.objs.size,({cls:=.type "list",data:=.seq its.toArray k}:Obj))] H3 b:=jX jg eX
  rcases tr with ⟨stop,qn⟩|⟨go,N,hN,step⟩
  ·refine thn (T.done (X.blkC cp.names sc H2.objs.size s H fp) rfl rfl rfl hc i _ s3 av H3 _ jY bV cK stop) fun r s4 ⟨hr,I4⟩=>?_
   subst hr
   obtain⟨e4,n4,_⟩:=I4.pin (s.heap.objs.size,({cls:=.type "list",data:=.seq its.toArray k}:Obj)) (by simp)
   have new:B6 X.prog X.w (upd H3 s.heap.objs.size (.lst ys)) s4.heap s.heap.objs.size (.lst ys):=⟨x4_ hz,its,k,rv,e4⟩
   obtain⟨mC,mh,_⟩:=I4.loc
   have mj:Inv (X.blkC cp.names sc H2.objs.size s H fp) [] av H3 s4:=I4.pins_of fun p hp=>by cases hp
   have I5:=Ye I mj dP (jg_ _) n4 new
   refine hR _ _ s4 _ mC I5 (qn _ n4) mh ?_ (qn_ (jx_ I.lt a9)) (qm_ I.sz a9) (cE _ a9) fun p hp z=>?_
   ·rw[Ai (qv_ gJ)];exact I4.free
   ·exact absurd (jx_ (jt_ (I.pin p hp).1) (by rw[z];exact a9)) (j7_ _)
  ·refine thn (T.item (X.blkC cp.names sc H2.objs.size s H fp) rfl rfl rfl hc i _ s3 av H3 _ jY bV cK go) fun r s4 ⟨u,hr,h4⟩=>?_
   subst hr
   refine thn h4 fun _ s5 ⟨x,H5,I5,r5,y5,aS,jQ⟩=>?_
   have jR:=I5.pinned (jX jQ eX) (T.obj _ _ aS)
   have fin:∀{cn:St} {H7:Hp} {s7:Shared},Inv (X.blkC cp.names sc H2.objs.size s H fp) ([(s.heap.objs.size,({cls:=.type "list",data:=.seq its.toArray k}:Obj))]++Nv fp s5.heap) cn H7 s7 ->
     s7.heap.get? s.heap.objs.size=some {cls:=.type "list",data:=.seq its.toArray k}/\H7 s.heap.objs.size=none/\(∀b∈fp,H7 b=none)/\∀b∈fp,∀o,s5.heap.get? b=some o->s7.heap.get? b=some o:=fun {cn H7 s7} I7=>by
    obtain⟨e7,n7,_⟩:=I7.pin (s.heap.objs.size,({cls:=.type "list",data:=.seq its.toArray k}:Obj)) (by simp)
    refine⟨e7,n7,fun b hb=>?_,fun b hb o e=>?_⟩
    ·obtain⟨o,e,_⟩:=T.obj _ _ aS b hb
     exact (I7.pin (b,o) (jw_ _ (jw_ _ (DS hb e)))).2.1
    ·exact (I7.pin (b,o) (jw_ _ (jw_ _ (DS hb e)))).1
   refine qu_ (hg _ _ _ _ _ s5 av H5 x u _ jR r5 (step x H5 y5)) (fun _ s6 ⟨cB,H6,I6,q6⟩=>?_) fun _ _ z=>False.elim z
   refine qu_ (hf _ _ _ _ _ s6 cB H6 _ I6 q6) (fun ok s7 ⟨H7,I7,q7⟩=>?_) fun _ _ z=>False.elim z
   cases ok with
   |false=>
    rw[if_neg jr_]
    rw[if_neg jr_]at q7
    obtain⟨m',hm,w7⟩:=hN _ _ _ q7
    obtain⟨e7,n7,mn,k7⟩:=fin I7
    exact⟨m',hm,i+1,cB,H7,ys,its,k,I7.pins_of (fun p hp=>by cases hp),T.keep _ _ _ aS k7,mn,n7,e7,rv,w7⟩
   |true=>
    rw[if_pos rfl]
    rw[if_pos rfl]at q7
    refine qu_ (he _ _ _ _ _ s7 cB H7 _ I7 q7) (fun v s8 ⟨y,H8,I8,r8,q8⟩=>?_) fun _ _ z=>False.elim z
    obtain⟨m',hm,w8⟩:=hN _ _ _ q8
    obtain⟨e8,n8,mq,k8⟩:=fin I8
    refine xC_ F.slot_list_append ⟨_,e8,rfl⟩ F.entry_list_append (zA_ _ _) (zV_ s.heap.objs.size its.toArray k v (by rw[jk_];omega)) ⟨e8,?_⟩
    obtain⟨k',q⟩:∃k',(s8.heap.update s.heap.objs.size (Obj.mapSeq fun x=>x.push v)).get? s.heap.objs.size=some {cls:=.type "list",data:=.seq (its++[v]).toArray k' }:=⟨_,by
     have q:=x1_ e8 fun x=>x.push v
     have e:(its++[v]).toArray=its.toArray.push v:=by simp
     rw[e]
     exact q⟩
    have I8':Inv (X.blkC cp.names sc H2.objs.size s H fp) [] cB H8 s8:=I8.pins_of fun p hp=>by cases hp
    have I9:Inv (X.blkC cp.names sc H2.objs.size s H fp) [] cB H8 {s8 with heap:=s8.heap.update s.heap.objs.size (Obj.mapSeq fun x=>x.push v),toks:=s8.toks}:=
     I8'.turned (it:=s.heap.objs.size) (fun b o hb e=>(j5_ _ _ (qv_ hb)).trans e) n8 gJ (.inr (jg_ _)) (fun x c e=>by
      rcases IG I S e with q|q
      ·intro z;rw[z]at q;exact absurd (qm_ q a9) (Nat.not_succ_le_self _)
      ·exact cE _ (jg_ _) x c q) (fun p hp=>by cases hp)
    refine⟨m',hm,i+1,cB,H8,ys++[y],its++[v],k',I9,T.keep (i+1) s5.heap _ aS (fun b hb o e=>?_),mq,n8,q,rv.append (.cons r8 .nil),w8⟩
    ·refine (j5_ _ _ ?_).trans (k8 b hb o e)
     intro z
     obtain⟨ob,eb⟩:=a8 b hb
     exact absurd (jt_ eb) (by rw[<-z];exact j7_ _)
 exact codeAny_compStart_list (loop _ rfl) (T.self _ 0 _ _ _ bB (loop _ rfl))
theorem Yf    (hN:X.N.Nodup)(hi:X.N[i]?=some x)(hx:X.env.scope.names.lookup x=some .local)(hc:X.calm=true)(S:BlkScC X sc)(fU:D3 X.N sc cp)(hit:PI X tg iter wi)
  (hg:∀C s₀ H₀ ex,PG (X.blkC cp.names sc C s₀ H₀ ex) tg g) (hf:∀C s₀ H₀ ex,PF (X.blkC cp.names sc C s₀ H₀ ex) ifs tc) (he:∀C s₀ H₀ ex,PE (X.blkC cp.names sc C s₀ H₀ ex) elt te)
  (mv:swapsWith (.ListComp elt [⟨tg,iter,ifs,0⟩] sc pos) (some (.Name x px)) ic.line X.env=pure true:=by rfl)
  (hs:∀x,foldedSetIterable iter X.env x=pure x:=by intro _;rfl):PS X (.Assign [.Name x px] (.ListComp elt [⟨tg,iter,ifs,0⟩] sc pos) ic) (tAsg (X1 wi cp g tc te) (IB i)):=by
 intro pins s σ H D I h
 rw[exec_Assign_Name_used _ _ _ _ mv]
 refine jc_ (wpAny_standAt (jc_ ?_))
 show wpAny _ X.A (do let _ <- comprehension (.ListComp elt [⟨tg,iter,ifs,0⟩] sc pos) sc X.env _ (newList []) false (eval iter X.env) (some (assign (.Name x px) X.env))) _ _ s
 refine jc_ (qu_ (x6_ (use:=some (assign (.Name x px) X.env)) (Q:=fun _ s'=>SP X pins D .next s') rfl hs (IC (NB I S)) S.kind S.loc
  (thn (hit pins s σ H _ I h) fun xv s₁ h₁=>thn h₁ fun jP aT aY=>?_)) (fun _ s' hq=>jq_ (jq_ hq)) fun _ _ e=>e)
 obtain⟨it,fp,tn,J,H2,e,I2,T,aJ,f2,hw⟩:=aY
 subst e
 refine Uy (RR:=fun acc C=>compPost (model X.prog X.w) X.A X.xe (some (assign (.Name x px) X.env)) (fun _ s'=>SP X pins D .next s') acc C) (Q:=fun v H1=>IB i v σ H1 D.nx) hc S fU hg hf he I2 T aJ f2 hw ?_
 intro Dl C s' H' m I' q hn hC hL hz bh hp
 show wpAny _ X.A (assign (.Name x px) X.env (.ref Dl)) _ _ _
 refine wpAny_assign_Name (KM I' hN hi (.inl hx) (v:=.ref Dl) rfl (fun g9 mw ⟨a,kU,ha⟩=>?_) (.inr hx))
 have ao:C≠a:=by
  rcases ha with rfl|ha
  ·exact hL
  ·exact fun z=>bh _ _ ha z.symm
 refine⟨m,hn.sameBut kU ao,fun h' aX=>⟨_,H',mw.turned (t':=g9.toks) (it:=C) (fun b o hb e=>aX.extBut b o hb e) hC hL (.inr hz) bh hp,q⟩⟩
end
def ZQ (outer:List (Str×NameKind))(sc:Scope):Bool:=
 sc.kind == .function&&sc.names.all (fun y=>(y.2 != .local||sc.names.lookup y.1==some .local)&&(y.2 != .free||outer.lookup y.1==some .cell||outer.lookup y.1==some .free)&&sc.names.all fun z=>y.1 != z.1||y.2==z.2)
theorem AP_   (h:ZQ X.env.scope.names sc=true):BlkScC X sc:=by
 unfold ZQ at h
 rw[qb_,qo_]at h
 obtain⟨h1,h2⟩:=h
 refine⟨by simpa using h1,fun y hy z hz e=>?_,fun y hy z=>?_,fun y hy z=>?_⟩
 ·have:=h2 y hy
  simp only[qb_,qo_]at this
  have:=this.2 z hz
  rw[e]at this
  simpa using this
 ·have:=h2 y hy
  simp only[qb_]at this
  have:=this.1.1
  rw[z]at this
  simpa using this
 ·have:=h2 y hy
  simp only[qb_]at this
  have:=this.1.2
  rw[z]at this
  have t:(X.env.scope.names.lookup y.1==some .cell||X.env.scope.names.lookup y.1==some .free)=true:=by simpa using this
  rw[Bool.or_eq_true]at t
  rcases t with t|t
  ·exact .inl (by show X.env.scope.names.lookup y.1=some .cell;simpa using t)
  ·exact .inr (by show X.env.scope.names.lookup y.1=some .free;simpa using t)
end L2
namespace L2
open PySem PySem.Spec PyProof.Rows GW
def AV (K:α3)(H:Hp)(xs:List V)(ws:α1):Prop:=xs.length=ws.length/\∀(i:Nat) (w:α2),ws[i]?=some w->∃t,xs[i]?=some (.ref t)/\H t=some (.tup (w.map V.int))
theorem AV.nil {K:α3}  : AV K H [] []:=⟨rfl,fun i w h=>by simp at h⟩
theorem AV.mono {K:α3}    (h:AV K H xs ws)(k:TK H H'):AV K H' xs ws:=by
 refine⟨h.1,fun i w hw=>?_⟩
 obtain⟨t,a,b⟩:=h.2 i w hw
 exact⟨t,a,k _ _ b⟩
theorem AV.snoc {K:α3}    (h:AV K H xs ws)   (ht:H t=some (.tup (w.map V.int))):AV K H (xs++[.ref t]) (ws++[w]):=by
 refine⟨by rw[jo_,jo_,h.1];rfl,fun i v hi=>?_⟩
 by_cases du:i<ws.length
 ·rw[jj_ du]at hi
  rw[jj_ (by rw[h.1];exact du)]
  exact h.2 i v hi
 ·have:=(jb_.mp hi).1
  rw[jo_,jY_]at this
  have ei:i=ws.length:=by omega
  subst ei
  rw[ju_ (jg_ _),qC_]at hi
  simp at hi
  subst hi
  refine⟨t,?_,ht⟩
  rw[ju_ (by rw[h.1];exact jg_ _),h.1,qC_];rfl
theorem AV.at {K:α3}{H:Hp}{xs:List V}{ws:α1}(h:AV K H xs ws){i:Nat}{x:V}(hx:xs[i]?=some x):∃t w,ws[i]?=some w/\x=.ref t/\H t=some (.tup (w.map V.int)):=by
 have hi:i<ws.length:=by rw[<-h.1];exact (jb_.mp hx).1
 obtain⟨t,a,b⟩:=h.2 i ws[i] (by simp[hi])
 rw[hx]at a
 exact⟨t,ws[i],by simp[hi],jp_ a,b⟩
theorem Hd.ofS {K:α3}     (ha:H a=some (.tup xs))(hb:H b=some (.tup ys))(hz:xs.length+ys.length<=sizeLine)(h:∀p H',Same H H'->H' p=some (.tup (xs++ys))->Q (.ref p) H'):Hd K (.ref a) (.ref b) H Q:=by
 refine⟨a,b,xs,ys,rfl,rfl,SqT.of ha,SqT.of hb,hz,fun e=>?_,fun _ e=>?_,fun _ _ p hp=>h p _ (Same.new hp) Ab⟩
 ·subst e;exact h b H (Same.refl _) (by simpa using hb)
 ·subst e;exact h a H (Same.refl _) (by simpa using ha)
end L2
namespace GW
def ins (s:α1)(w:α2):α1:=if w∈s then s else s++[w]
theorem AQ_ (s:α1)(w:α2):(ins s w).length<=s.length+1:=by
 unfold ins;split
 ·omega
 ·simp
theorem DU:∀(l s:α1),(l.foldl ins s).length<=s.length+l.length
 |[],s=>by simp
 |w::l,s=>by
  have h1:=DU l (ins s w)
  have h2:=AQ_ s w
  rw[q6_,jW_];omega
end GW
namespace L2
open PySem PySem.Spec PyProof.Rows GW
def wkey (w:α2):List Key:=w.map Sum.inl
theorem Oo (w:α2):(wkey w).map kV=w.map V.int:=by unfold wkey;rw[jX_];rfl
theorem HS  (h:wkey v=wkey w):v=w:=(zQ_ (fun x y z=>Sum.inl.inj z)).mp h
def GT (ws:α1)(kvs:List (List Key×V)):Prop:=kvs.map (·.1)=ws.map wkey
theorem GT.len   (h:GT ws kvs):kvs.length=ws.length:=by
 have:=jG_ List.length h
 simpa using this
theorem GT.some_iff   (h:GT ws kvs)(w:α2):(valV kvs (wkey w)).isSome=decide (w∈ws):=by
 rw[<-Fe,qx_,qq_,x2_]
 constructor
 ·rintro⟨kv,ir,e⟩
  have e:=qA_ e
  have:wkey w∈ws.map wkey:=by rw[<-h,<-e];exact jv_.mpr ⟨kv,ir,rfl⟩
  obtain⟨q,hq,e2⟩:=jv_.mp this
  exact HS e2 ▸ hq
 ·intro hw
  have:wkey w∈kvs.map (·.1):=by rw[h];exact jv_.mpr ⟨w,hw,rfl⟩
  obtain⟨kv,ir,e⟩:=jv_.mp this
  exact⟨kv,ir,qh_ e⟩
theorem GT.put   (h:GT ws kvs)(w:α2)(v:V):GT (ins ws w) (putK kvs (wkey w) v):=by
 have hs:=h.some_iff w
 unfold putK ins
 rw[Fe,hs]
 by_cases hw:w∈ws
 ·rw[if_pos hw,if_pos (show decide (w∈ws)=true from qh_ hw)]
  unfold GT
  rw[<-h,jX_]
  refine qk_ fun kv _=>?_
  show (if kv.1=wkey w then (kv.1,v) else kv).1=kv.1
  split<;>rfl
 ·rw[if_neg hw,if_neg (show ¬ decide (w∈ws)=true by simp[hw])]
  unfold GT
  rw[jT_,jT_,h];rfl
theorem GT.nil:GT [] []:=rfl
theorem GT.words {K:α3}     (h:GT ws kvs)(hl:rs.length=kvs.length)(hr:∀(i:Nat) (k:List Key) (v:V),kvs[i]?=some (k,v)->∃b,rs[i]?=some (V.ref b)/\H b=some (.tup (k.map kV))):AV K H rs ws:=by
 refine⟨by rw[hl,h.len],fun i w hw=>?_⟩
 have hi:i<kvs.length:=by rw[h.len];exact (jb_.mp hw).1
 have e:(kvs.map (·.1))[i]?=some (wkey w):=by rw[h,je_,hw];rfl
 rw[je_,jf_ hi]at e
 have e:kvs[i].1=wkey w:=jp_ e
 obtain⟨b,b1,b2⟩:=hr i kvs[i].1 kvs[i].2 (by simp[hi])
 exact⟨b,b1,by rw[b2,e,Oo]⟩
end L2
namespace PySem.W
open PySem PySem.Calls PyProof.Rows PyProof.V PySem.Spec
end PySem.W
namespace PySem.W
open PySem PySem.Calls PyProof.Rows PyProof.V PySem.Spec
end PySem.W
namespace L2
open PySem PySem.Spec PyProof.Rows
theorem Ty {P:Program}{w:World}{fs:List Addr}{H0:Hp}{h0 h':Heap}:∀(as:List (Addr×List V)),(as.map (·.1)).Nodup ->
  (∀p∈as,h0.objs.size<=p.1/\p.2.length<=sizeLine/\∃its:List Value,Vals p.2 its/\IsTup h' p.1 its.toArray)->∀H,Un fs [] H0 H h0 h'->HOk P w H h'->(∀p∈as,H p.1=none) ->
  ∃H2,Un fs [] H0 H2 h0 h'/\HOk P w H2 h'/\Same H H2/\(∀p∈as,H2 p.1=some (.tup p.2))/\∀b,b∉as.map (·.1)->H2 b=H b
 |[],_,_,H,u,k,_=>⟨H,u,k,Same.refl _,(fun p hp=>by simp at hp),fun b _=>rfl⟩
 |p::r,nd,hp,H,u,k,hn=>by
  rw[j1_,qF_]at nd
  obtain⟨h1,h2,its,h3,h4⟩:=hp p jn_
  have mE:=hn p jn_
  have k2:HOk P w (upd H p.1 (.tup p.2)) h':=k.track mE ⟨h2,its,h3,h4⟩
  obtain⟨H2,e1,e2,e3,e4,e5⟩:=Ty r nd.2 (fun q hq=>hp q (jl_ _ hq)) (upd H p.1 (.tup p.2)) (u.track h1 mE) k2 (fun q hq=>by
   have ao:q.1≠p.1:=fun z=>nd.1 (by rw[<-z];exact q4_ hq)
   rw[Ai ao]
   exact hn q (jl_ _ hq))
  refine⟨H2,e1,e2,(Same.new mE).trans e3,fun q hq=>?_,fun b hb=>?_⟩
  ·rcases jJ_.mp hq with rfl|hq
   ·exact e3 _ _ Ab
   ·exact e4 q hq
  ·rw[j1_,jJ_,not_or]at hb
   rw[e5 b hb.2,Ai hb.1]
theorem Vals.two'   (h1:RelV x u)(h2:RelV y v):Vals [x,y] [u,v]:=.cons h1 (.cons h2 .nil)
def DD (K:α3)(H:Hp)(xs:List V)(aw:List (α2×Int)):Prop:=xs.length=aw.length/\∀(i:Nat) (tr:α2×Int),aw[i]?=some tr->∃t wt,xs[i]?=some (.ref t)/\SqT K H t [.ref wt,.int tr.2]/\SqT K H wt (tr.1.map V.int)/\tr.1.length<=600
theorem DD.mono {K:α3}    (h:DD K H xs aw)(s:Same H H'):DD K H' xs aw:=by
 refine⟨h.1,fun i tr aR=>?_⟩
 obtain⟨t,wt,a,b,c,d⟩:=h.2 i tr aR
 exact⟨t,wt,a,s.seqT b,s.seqT c,d⟩
def ents (es:List (α2×Int)):List (List Key×V):=es.map fun e=>(wkey e.1,V.int e.2)
def WN:V->List V->Hp->VK->Prop:=fun x vs H Q=>∃l xs y j,x=.ref l/\vs=[y]/\H l=some (.lst xs)/\DK y=true/\xs.all DK=true/\j<1000000/\(∃z,xs[j]?=some z/\eqV z y=true)/\(∀m z,m<j->xs[m]?=some z->eqV z y=false)/\Q (.int (j:Nat)) H
theorem Tz     : WN x vs H Q=∃l xs y j,x=.ref l/\vs=[y]/\H l=some (.lst xs)/\DK y=true/\xs.all DK=true/\j<1000000/\(∃z,xs[j]?=some z/\eqV z y=true)/\(∀m z,m<j->xs[m]?=some z->eqV z y=false)/\Q (.int (j:Nat)) H:=rfl
theorem AR_   (r:RelV z u)(f:DK z=true):eqU x u=eqV z x:=by
 have:=N8 (x:=x) (xs:=[z]) (us:=[u]) (.cons r .nil) (by simp[f])
 simpa using this
theorem WO  : MtM X "list.index" WN:=by
 intro pins s σ H x vs v us Q I rx rv h
 obtain⟨l,xs,y,j,rfl,rfl,hH,fy,fs,hj,⟨z,mF,mG⟩,cM,q⟩:=h
 cases rx
 obtain⟨u,rfl,ry⟩:=vals1 rv
 obtain⟨zz,its,n,r,hl,e⟩:=I.lstM hH
 have get:∀(m:Nat) (hm:m<its.toArray.size) (w:V),xs[m]?=some w->DK w=true->eqU y its.toArray[m]=eqV w y:=fun m hm w hw fw=>by
  obtain⟨w',e1,e2⟩:=r.get hw
  have e3:its.toArray[m]=w':=by
   have:its[m]?=some its.toArray[m]:=by simp at hm;simp[hm]
   rw[e1]at this
   exact (jp_ this).symm
  rw[e3]
  exact AR_ e2 fw
 have fl:∀(m:Nat) (w:V),xs[m]?=some w->DK w=true:=fun m w hw=>qo_.mp fs w (jd_ hw)
 have gN:=(jb_.mp mF).1
 have j9:j<its.toArray.size:=by rw[jk_];omega
 refine xC_ F.slot_list_index ⟨_,e,rfl⟩ F.entry_list_index (F.args_list_index_2 _ _) (SeqAt.list_indexAt l its.toArray n none #[] u (eqU y) j j9 (by omega) ?_ fun m hm hmj=>?_) ⟨e,fun w hw=>Ku ry fy r fs w (by simpa using hw),?_⟩
 ·rw[get j j9 z mF (fl j z mF)];exact mG
 ·have ka:xs[m]?=some xs[m]:=by simp[show m<xs.length by omega]
  rw[get m hm _ ka (fl m _ ka)]
  exact cM m _ hmj ka
 ·exact⟨.int (j:Nat),H,I.tok _,⟨_,rfl⟩,q⟩
end L2
namespace L2
open PySem PySem.W PySem.Spec PySem.Calls PyProof.Rows
theorem Wp.ofS {K:α3}      (hq:H l=some (.tup xs))(ao:xs ≠ [])(h1 : -(2 ^ 63)<=k)(h2:k<2 ^ 63)(hz:xs.length*k.toNat<=sizeLine)(h:∀p H',Same H H'->H' p=some (.tup (List.replicate k.toNat xs).flatten)->Q (.ref p) H'):Wp K (.ref l) (.int k) H Q:=by
 refine⟨l,k,xs,rfl,rfl,SqT.of hq,ao,h1,h2,hz,fun e=>?_,fun _ p hp=>h p _ (Same.new hp) Ab⟩
 subst e
 exact h l H (Same.refl _) (by simpa using hq)
end L2
namespace PrimeO
def DA_ (p:Nat):Prop:=∀d,2<=d->d<p->p%d≠0
def Pr (p:Int):Prop:=2<=p/\p<1000000000000000000/\DA_ p.toNat
end PrimeO
namespace L2
open PySem PySem.Spec PyProof.Rows
theorem WP     : BO_ A σ H Z=A σ H fun vs H1=>∃i j:Int,vs=[.int i,.int j]/\(-(2 ^ 62)<=i/\i<2 ^ 62 /\ -(2 ^ 62)<=j/\j<2 ^ 62)/\Z (Itr i (j-i).toNat) H1:=rfl
end L2
namespace Nest
def sl (row:α2)(b i:Nat):α2:=(row.take i).drop b
def outF (p e:Int)(s:α2×Int)(x:Int):α2×Int:=if x=e then (s.1,s.2-1) else (if s.2=0 then s.1++[x] else s.1,if p<=x then s.2+1 else s.2)
def outS (p e:Int)(l:α2):α2×Int:=l.foldl (outF p e) ([],0)
def outW (p e:Int)(l:α2):α2:=(outS p e l).1
def wd (p e:Int)(row:α2)(i a:Nat):α2:=outW p e (sl row (a+1) i)
end Nest
namespace L2
open PySem PySem.Spec PyProof.Rows GW
theorem WQ  {K:α3}   (hK:X.K=K)(hl:PE X l tl):PI X tg l (iTup K tl):=by subst hK;exact FU hl
end L2
namespace L2
open PySem PySem.Spec PyProof.Rows
theorem WR  {K:α3}(h:X.K=K):OpR X (binaryOp .Add) (Hd K):=by subst h;exact GG
end L2
namespace L2
open PySem PySem.W PySem.Spec PySem.Calls PyProof.Rows
theorem Uz    [DecidableEq κ](knd:HeapKind prog w κ)  (hd:(d==sysModules)=false):
  MeetsIn prog w (Builtin.«dict.__len__» ⟨[.ref d],[]⟩) (fun _ R s=>∃xs,s.heap.DictOfH knd d xs/\R (.ok (.ret (.int (xs.length:Nat) s.toks))) {s with toks:=s.toks+1}):=
 .of_wp fun A R s ⟨xs,⟨o,es,ep,ho,_,fW,he,_⟩,h⟩=>by
  show wpAny _ _ (dictSize d >>= _) _ _ s
  unfold dictSize
  refine jc_ (jc_ (zm_ ho fW (jq_ ?_)))
  refine jc_ (wpAny_pendingCount_other hd (wpAny_ret_mkInt ?_))
  rw[Nat.add_zero,size_of_entries he]
  exact h
theorem CD_ {prog:Program}{w:World}{κ:Type}[DecidableEq κ]{knd:HeapKind prog w κ}{A:Around}{E:Value->Shared->Prop}{s:Shared}{d:Addr}{xs:List (κ×Addr×Value)}{Q:Value->Shared->Prop}(hd:(d==sysModules)=false)(hm:s.heap.DictOfH knd d xs)(hfit:(xs.length:Int)<2 ^ 63)
  (h:Q (.int xs.length (s.toks+1)) {s with toks:=s.toks+1+1}):wpAny (model prog w) A (call (.builtin "len") [.ref d]) Q E s:=by
 refine Calls.call_function_entry kind_len plain_len entry_len (args_len1 _) ?_
 unfold Builtin.«len»
 refine jc_ (m:=oneArg "len" _) (jq_ (jc_ (m:=callSpecial? (.ref d) (Str.ofString "__len__")) (qw_ (name:=Str.ofString "__len__") hm.typeIs F.slot_dict_len (call_meetsIn F.slot_dict_len hm.typeIs F.entry_dict_len (F.args_dict_len_1 _) (Uz knd hd) ⟨xs,hm,?_⟩))))
 show wpAny _ _ _ _ _ {s with toks:=s.toks+1}
 refine jc_ (qE_ (jq_ (jc_ (wpAny_letGo ?_))))
 show wpAny _ _ (if ((xs.length:Nat):Int)<0 then _ else _) _ _ _
 rw[if_neg (by omega)]
 show wpAny _ _ (if ((xs.length:Nat):Int) >= 2 ^ 63 then _ else _) _ _ _
 rw[if_neg (by omega)]
 exact jc_ (wpAny_mkInt (jq_ ⟨_,rfl,h⟩))
theorem M3  : Dq X (.builtin "len") (fun xs H Q=>∃p kvs,xs=[.ref p]/\H p=some (.dT kvs)/\Q (.int kvs.length) H):=by
 intro pins s σ H xs us Q I r h
 obtain⟨p,kvs,rfl,e,q⟩:=h
 obtain⟨u,rfl,rx⟩:=vals1 r
 cases rx
 obtain⟨z,hd,xs,rel,dd⟩:=Cd_ I.hok e
 have hn:=PQ
 have hlen:kvs.length=xs.length:=rel.length
 exact CD_ hd dd (by omega) ⟨.int kvs.length,H,I.tok _,⟨_,by rw[hlen]⟩,q⟩
def TB (K:α3)(H:Hp)(xs:List V)(ws:α1):Prop:=xs.length=ws.length/\∀(i:Nat) (w:α2),ws[i]?=some w->∃t,xs[i]?=some (.ref t)/\H t=some (.lst (w.map V.int))
theorem TB.at {K:α3}{H:Hp}{xs:List V}{ws:α1}(h:TB K H xs ws){i:Nat}{x:V}(hx:xs[i]?=some x):∃t w,ws[i]?=some w/\x=.ref t/\H t=some (.lst (w.map V.int)):=by
 have hi:i<ws.length:=by rw[<-h.1];exact (jb_.mp hx).1
 obtain⟨t,a,b⟩:=h.2 i ws[i] (by simp[hi])
 rw[hx]at a
 exact⟨t,ws[i],by simp[hi],jp_ a,b⟩
theorem TC:∀{ws:α1} {m:Nat} {w:α2},ws[m]?=some w->ws.idxOf w<=m
 |[],m,w,h=>by simp at h
 |v::ws,m,w,h=>by
  rw[zI_]
  cases m with
  |zero=>
   have:v=w:=by simpa using h
   simp[this]
  |succ m=>
   have:=TC (ws:=ws) (m:=m) (w:=w) (by simpa using h)
   cases e:(v==w) with
   |true=>exact jZ_ _
   |false=>exact Nat.succ_le_succ this
end L2
set_option maxHeartbeats 1000000
set_option maxHeartbeats 4000000
namespace L2
open PySem
abbrev K4 (h:Heap)(z TI TO T:Addr)(f:Bool):Prop:=
 h.get? z=some {cls:=.type "zip",dict:=none,data:=.fields #[rawInt T,.bool f,.bool false,.ref TI,.ref TO],slots := #[]}
section
variable {prog:Program} {w:World} {A:Around} {E:Value->Shared->Prop} {s:Shared}
theorem Yg    (ho:s.heap.get? a=some o)(h:Q (some o) s):wpAny (model prog w) A (loadIfAlive a) Q E s:=by
 have h':Q (s.heap.get? a) s:=by rw[ho];exact h
 exact fun _ _ _=>h'
theorem WT {z TI TO T:Addr}    (hz:K4 s.heap z TI TO T f)(hT:s.heap.get? T=some oT)(kX:T≠z)
  (hQ:∀h',K4 h' z TI TO T true->Heap.SameBut z s.heap h'->Q false {s with heap:=h' }):wpAny (model prog w) A (Builtin.SmallTypes.ownedTupleIsFree (.ref z)) Q E s:=by
 unfold Builtin.SmallTypes.ownedTupleIsFree
 refine jc_ (q9_ hz rfl (x:=rawInt T) rfl ?_)
 show wpAny _ _ (loadIfAlive ((T:Int).toNat) >>= _) _ _ _
 rw[ji_]
 refine jc_ (Yg hT ?_)
 simp only[Option.isNone_some,jQ_,qK_]
 refine jc_ (q9_ hz rfl (x:=.bool f) rfl ?_)
 cases f with
 |true=>
  rw[if_neg (show ¬ ((Value.bool true != Value.bool true)=true) from jr_)]
  exact jq_ (hQ _ hz (Heap.SameBut.refl _ _))
 |false=>
  rw[if_pos (show (Value.bool false != Value.bool true)=true from rfl)]
  exact jc_ (wpAny_setField_rec hz (by simp) fun bq he₃ bS=>jq_ (hQ bq he₃ bS))
theorem RP {z TI TO i1 i2 l1 l2 T:Addr}{f:Bool}{oT:Obj}{k1 k2:Nat}{xs ys:Array Value}{x y:Value}{Q:Value->Shared->Prop}(D:ZipApart z TI TO i1 i2 l1 l2)
  (hz:K4 s.heap z TI TO T f) (hT:s.heap.get? T=some oT) (kX:T≠z) (gO:IsPair s.heap TI (.ref i1) (.ref i2))
  (h1:s.heap.IsListIter i1 l1 k1) (h2:s.heap.IsListIter i2 l2 k2) (br:s.heap.IsList l1 xs) (bX:s.heap.IsList l2 ys) (hx:xs[k1]?=some x) (hy:ys[k2]?=some y)
  (hQ:∀h',K4 h' z TI TO T true->h'.IsListIter i1 l1 (k1+1)->h'.IsListIter i2 l2 (k2+1)->IsPair h' s.heap.objs.size x y->h'.objs.size=s.heap.objs.size+1 ->
   (∀c o,c≠z->c≠i1->c≠i2->s.heap.get? c=some o->h'.get? c=some o)->Q (.ref s.heap.objs.size) {s with heap:=h' }):
  wpAny (model prog w) A (Builtin.«zip.__next__» ⟨[.ref z],[]⟩) (fun fin s'=>∃v,fin=.done (.ret v)/\Q v s') E s:=by
 show wpAny _ _ (field (.ref z) 2 >>= _) _ _ _
 refine jc_ (q9_ hz rfl (x:=.bool false) rfl ?_)
 show wpAny _ _ (field (.ref z) 3 >>= _) _ _ _
 refine jc_ (q9_ hz rfl (x:=.ref TI) rfl ?_)
 refine jc_ (zo_ gO rfl ?_)
 show wpAny _ _ (Builtin.SmallTypes.ownedTupleIsFree (.ref z) >>= _) _ _ _
 refine jc_ (WT hz hT kX fun h₁ hz₁ aW=>?_)
 simp only[jQ_,qK_]
 rw[<-Array.forIn_toList]
 simp only[List.forIn_cons,List.forIn_nil]
 refine jc_ (jc_ (jc_ (qE_ ?_)))
 show wpAny _ _ (Builtin.SmallTypes.nextOf (.ref i1) >>= _) _ _ _
 refine jc_ (wpAny_nextOf_list_item (h1.extBut aW.extBut D.i1z) (br.extBut aW.extBut D.l1z) hx fun aY h1₂ bE=>jq_ (jq_ ?_))
 refine jc_ (jc_ (qE_ ?_))
 show wpAny _ _ (Builtin.SmallTypes.nextOf (.ref i2) >>= _) _ _ _
 refine jc_ (wpAny_nextOf_list_item ((h2.extBut aW.extBut D.i2z).extBut bE.extBut D.i12.symm) ((bX.extBut aW.extBut D.l2z).extBut bE.extBut D.l2i1) hy fun bq h2₃ bS=>jq_ (jq_ (jq_ ?_)))
 have hsz:bq.objs.size=s.heap.objs.size:=by rw[bS.1,bE.1,aW.1]
 have hz₃:K4 bq z TI TO T true:=bS.extBut _ _ D.i2z.symm (bE.extBut _ _ D.i1z.symm hz₁)
 have hk:∀c o,c≠z->c≠i1->c≠i2->s.heap.get? c=some o->bq.get? c=some o:=fun c o c1 c2 c3 e=>bS.extBut _ _ c3 (bE.extBut _ _ c2 (aW.extBut _ _ c1 e))
 have h1₃:bq.IsListIter i1 l1 (k1+1):=h1₂.extBut bS.extBut D.i12
 refine jc_ (wpAny_newTuple ?_ (hsz:=by show 2<=sizeLine;decide))
 refine jq_ ⟨_,rfl,?_⟩
 show Q (.ref bq.objs.size) _
 rw[hsz]
 refine hQ _ (jm_ _ hz₃) (h1₃.at fun o e=>jm_ _ e) (h2₃.at fun o e=>jm_ _ e) ?_ (by rw[qR_,hsz]) fun c o c1 c2 c3 e=>jm_ _ (hk c o c1 c2 c3 e)
 rw[<-hsz]
 exact jC_ _ rfl
theorem UA {z TI TO i1 i2 l1 l2 T:Addr}      (hh:A.handled=none)(D:ZipApart z TI TO i1 i2 l1 l2)
  (hz:K4 s.heap z TI TO T f) (hT:s.heap.get? T=some oT) (kX:T≠z) (gO:IsPair s.heap TI (.ref i1) (.ref i2))
  (h1:s.heap.IsListIter i1 l1 k1) (br:s.heap.IsList l1 xs) (hx:xs[k1]?=none)
  (hE:∀h' e,(∀c o,c≠z->c≠i1->c≠i2->s.heap.get? c=some o->h'.get? c=some o)->(∃o,h'.get? e=some o/\o.cls=.type "StopIteration")->E (.ref e) {s with heap:=h' }):
  wpAny (model prog w) A (Builtin.«zip.__next__» ⟨[.ref z],[]⟩) Q E s:=by
 show wpAny _ _ (field (.ref z) 2 >>= _) _ _ _
 refine jc_ (q9_ hz rfl (x:=.bool false) rfl ?_)
 show wpAny _ _ (field (.ref z) 3 >>= _) _ _ _
 refine jc_ (q9_ hz rfl (x:=.ref TI) rfl ?_)
 refine jc_ (zo_ gO rfl ?_)
 show wpAny _ _ (Builtin.SmallTypes.ownedTupleIsFree (.ref z) >>= _) _ _ _
 refine jc_ (WT hz hT kX fun h₁ hz₁ aW=>?_)
 simp only[jQ_,qK_]
 rw[<-Array.forIn_toList]
 simp only[List.forIn_cons,List.forIn_nil]
 refine jc_ (jc_ (jc_ (qE_ ?_)))
 show wpAny _ _ (Builtin.SmallTypes.nextOf (.ref i1) >>= _) _ _ _
 exact jc_ (wpAny_nextOf_list_end hh (h1.extBut aW.extBut D.i1z) (br.extBut aW.extBut D.l1z) hx fun aY e bE he=>hE aY e (fun c o c1 c2 _ x=>bE _ _ c2 (aW.extBut _ _ c1 x)) he)
def ZSt (h:Heap)(z TI TO i1 i2 l1 l2 S:Addr)(xs ys:Array Value)(i:Nat):Prop:=
 IsPair h TI (.ref i1) (.ref i2)/\h.IsListIter i1 l1 i/\h.IsListIter i2 l2 i/\h.IsList l1 xs/\h.IsList l2 ys /\
 ((IsZip h z TI TO .none/\∃a b,IsPair h TO a b) \/ ∃T f oT,K4 h z TI TO T f/\h.get? T=some oT/\T≠z/\T≠i1/\T≠i2/\T≠S)
structure ZFar (z TI TO i1 i2 l1 l2 S:Addr):Prop where
 z:z≠S
 TI:TI≠S
 TO:TO≠S
 i1:i1≠S
 i2:i2≠S
 l1:l1≠S
 l2:l2≠S
theorem ZSt.keep  {z TI TO i1 i2 l1 l2 S:Addr}   (F:ZFar z TI TO i1 i2 l1 l2 S)(x:ZSt h z TI TO i1 i2 l1 l2 S xs ys i)(hk:∀b o,b≠S->h.get? b=some o->h'.get? b=some o):ZSt h' z TI TO i1 i2 l1 l2 S xs ys i:=by
 obtain⟨a1,a2,a3,a4,a5,a6⟩:=x
 refine⟨hk _ _ F.TI a1,a2.at fun o e=>hk _ o F.i1 e,a3.at fun o e=>hk _ o F.i2 e,a4.at fun o e=>hk _ o F.l1 e,a5.at fun o e=>hk _ o F.l2 e,?_⟩
 rcases a6 with ⟨b1,u,v,b2⟩|⟨T,f,oT,b1,b2,b3,b4,b5,b6⟩
 ·exact .inl ⟨hk _ _ F.z b1,u,v,hk _ _ F.TO b2⟩
 ·exact .inr ⟨T,f,oT,hk _ _ F.z b1,hk _ _ b6 b2,b3,b4,b5,b6⟩
theorem AS_ {z TI TO i1 i2 l1 l2 S:Addr}     (D:ZipApart z TI TO i1 i2 l1 l2)(cA:ZSt s.heap z TI TO i1 i2 l1 l2 S xs ys i)(hS:S<s.heap.objs.size)
  (hx:xs[i]?=some x) (hy:ys[i]?=some y)
  (hQ:∀h',ZSt h' z TI TO i1 i2 l1 l2 S xs ys (i+1)->IsPair h' s.heap.objs.size x y->h'.objs.size=s.heap.objs.size+1 ->
   (∀c o,c≠z->c≠TO->c≠i1->c≠i2->s.heap.get? c=some o->h'.get? c=some o)->Q (some (.ref s.heap.objs.size)) {s with heap:=h' }):
  wpAny (model prog w) A (pyNext (.ref z)) Q E s:=by
 obtain⟨a1,a2,a3,a4,a5,a6⟩:=cA
 have kY:i1<s.heap.objs.size:=by obtain⟨_,e,_⟩:=id a2;exact jt_ e
 have kZ:i2<s.heap.objs.size:=by obtain⟨_,e,_⟩:=id a3;exact jt_ e
 rcases a6 with ⟨b1,u,v,b2⟩|⟨T,f,oT,b1,b2,b3,b4,b5,b6⟩
 ·have lz:=jt_ b1
  refine wpAny_pyNext_zip_item D b1 a1 b2 a2 a3 a4 a5 hx hy fun h' c1 c2 c3 c4 c5 c6 c7=>hQ h' ⟨?_,c3,c4,a4.at fun o e=>c7 _ o D.l1z D.l1TO D.l1i1 D.l1i2 e,a5.at fun o e=>c7 _ o D.l2z D.l2TO D.l2i1 D.l2i2 e,.inr ⟨_,false,_,c1,c5,qn_ lz,qn_ kY,qn_ kZ,qn_ hS⟩⟩ c5 c6 c7
  exact c7 _ _ D.TIz D.TITO D.TIi1 D.TIi2 a1
 ·have hT:s.TypeIs (.ref z) "zip" := ⟨_,b1,rfl⟩
  unfold pyNext
  refine jc_ (xL_ (qw_ (name:=Str.ofString "__next__") hT zJ_
   (xb_ zJ_ hT F.entry_zip_next
    (RP D b1 b2 b3 a1 a2 a3 a4 a5 hx hy fun h' c1 c3 c4 c5 c6 c7=>jq_ (hQ h' ⟨?_,c3,c4,a4.at fun o e=>c7 _ o D.l1z D.l1i1 D.l1i2 e,a5.at fun o e=>c7 _ o D.l2z D.l2i1 D.l2i2 e,.inr ⟨T,true,oT,c1,c7 _ _ b3 b4 b5 b2,b3,b4,b5,b6⟩⟩ c5 c6 fun c o d1 _ d3 d4 e=>c7 c o d1 d3 d4 e)) (F.args_zip_next_1 _))))
  exact c7 _ _ D.TIz D.TIi1 D.TIi2 a1
theorem AT_ {z TI TO i1 i2 l1 l2 S:Addr}    (hh:A.handled=none)(D:ZipApart z TI TO i1 i2 l1 l2)(cA:ZSt s.heap z TI TO i1 i2 l1 l2 S xs ys i)(hx:xs[i]?=none)
  (hQ:∀h',(∀c o,c≠z->c≠TO->c≠i1->c≠i2->s.heap.get? c=some o->h'.get? c=some o)->Q none {s with heap:=h' }):wpAny (model prog w) A (pyNext (.ref z)) Q E s:=by
 obtain⟨a1,a2,a3,a4,a5,a6⟩:=cA
 rcases a6 with ⟨b1,u,v,b2⟩|⟨T,f,oT,b1,b2,b3,b4,b5,b6⟩
 ·exact wpAny_pyNext_zip_end hh D b1 a1 b2 a2 a3 a4 a5 (.inl hx) hQ
 ·have hT:s.TypeIs (.ref z) "zip" := ⟨_,b1,rfl⟩
  unfold pyNext
  refine jc_ (xL_ (qw_ (name:=Str.ofString "__next__") hT zJ_
   (xb_ zJ_ hT F.entry_zip_next (UA (A:=A.in1) hh D b1 b2 b3 a1 a2 a4 hx fun h' e hk he=>?_) (F.args_zip_next_1 _))))
  obtain⟨o,ho,hc⟩:=he
  refine jc_ (wpAny_isInstance (T := "StopIteration") (b:=true) ⟨o,ho,hc⟩ isSubtype_stop ?_)
  exact jq_ (hQ _ fun c o c1 _ c3 c4 e=>hk c o c1 c3 c4 e)
end
structure ZG (xs ys:Array Value)(lo:Addr)(h:Heap)(as:List Addr):Prop where
 rise:as.Pairwise (· < ·)
 above:∀a∈as,lo<a
 pairs:∀(j:Nat) (a:Addr),as[j]?=some a->∃x y,xs[j]?=some x/\ys[j]?=some y/\IsPair h a x y
theorem ZG.low  {lo:Addr}   (g:ZG xs ys lo h as)  (ha:a∈as):a<h.objs.size:=by
 obtain⟨j,hj⟩:=jK_.mp ha
 obtain⟨_,_,_,_,e⟩:=g.pairs j a hj
 exact jt_ e
section
variable {prog:Program} {w:World} {A:Around} {s:Shared} {R:Result->Shared->Prop} {xs ys:Array Value} {z TI TO i1 i2 l1 l2 S:Addr}
def Yh (z TO i1 i2 S:Addr)(h h':Heap):Prop:=∀b o,b≠S->b≠z->b≠TO->b≠i1->b≠i2->h.get? b=some o->h'.get? b=some o
theorem AU_ (hh:A.handled=none)(D:ZipApart z TI TO i1 i2 l1 l2)(F:ZFar z TI TO i1 i2 l1 l2 S)(ah:z<S/\TO<S/\i1<S/\i2<S)(hn:xs.size<=sizeLine)(jk:xs.size=ys.size)(res:Value)
  (hR:∀h' tk acc c as,Yh z TO i1 i2 S h₁ h'->h'.get? S=some {cls:=.type "list",dict:=none,data:=.seq acc c,slots := #[]}->as.length=xs.size->ZG xs ys S h' as->acc.toList=as.map Value.ref->R (.ok (.ret res)) {s with heap:=h',toks:=tk}):
  ∀(k i:Nat) (h:Heap) (tk c:Nat) (acc:Array Value) (as:List Addr),xs.size-i=k->i<=xs.size->ZSt h z TI TO i1 i2 l1 l2 S xs ys i->Yh z TO i1 i2 S h₁ h ->
   h.get? S=some {cls:=.type "list",dict:=none,data:=.seq acc c,slots := #[]}->acc.toList=as.map Value.ref->as.length=i->ZG xs ys S h as ->
   codeAny (model prog w) A (.builtin "list.extend.loop" ⟨[.ref S,.ref z,res],[]⟩) R {s with heap:=h,toks:=tk}:=by
 obtain⟨g1,g2,g3,g4⟩:=ah
 intro k
 induction k with
 |zero=>
  intro i h tk c acc as hk hi cA eZ hS aF dv hG
  refine codeAny_builtin PySem.F.entry_extend_loop ?_
  rw[Around.under_plainId xs_ _]
  show wpAny _ A.in1 (pyNext (.ref z) >>= _) _ _ _
  refine jc_ (AT_ (s:={s with heap:=h,toks:=tk}) (A:=A.in1) hh D cA (Array.getElem?_eq_none (by omega)) fun h' he=>?_)
  refine jq_ (hR h' tk acc c as (fun b o b0 b1 b2 b3 b4 e=>he b o b1 b2 b3 b4 (eZ b o b0 b1 b2 b3 b4 e)) (he S _ F.z.symm F.TO.symm F.i1.symm F.i2.symm hS) (by omega) ⟨hG.rise,hG.above,fun j a hj=>?_⟩ aF)
  obtain⟨x,y,e1,e2,e3⟩:=hG.pairs j a hj
  have:=hG.above a (jd_ hj)
  exact⟨x,y,e1,e2,he a _ (qn_ (xI_ g1 this)) (qn_ (xI_ g2 this)) (qn_ (xI_ g3 this)) (qn_ (xI_ g4 this)) e3⟩
 |succ k ih=>
  intro i h tk c acc as hk hi cA eZ hS aF dv hG
  have ah:i<xs.size:=by omega
  have hx:xs[i]?=some xs[i]:=by simp[ah]
  have hy:ys[i]?=some (ys[i]'(by omega)):=by simp[show i<ys.size by omega]
  generalize xs[i]=x at hx
  generalize ys[i]'(by omega)=y at hy
  have hsz:acc.size=i:=by rw[<-j3_,aF,ja_,dv]
  have mH:S<h.objs.size:=jt_ hS
  refine codeAny_builtin PySem.F.entry_extend_loop ?_
  rw[Around.under_plainId xs_ _]
  show wpAny _ A.in1 (pyNext (.ref z) >>= _) _ _ _
  refine jc_ (AS_ (s:={s with heap:=h,toks:=tk}) (S:=S) D cA mH hx hy fun h' ig ht hz k6=>?_)
  dsimp only at ht hz k6 ⊢
  have jl:=k6 S _ F.z.symm F.TO.symm F.i1.symm F.i2.symm hS
  have up:∀b o,b≠S->h'.get? b=some o->(h'.update S (Obj.mapSeq (·.push (Value.ref h.objs.size)))).get? b=some o:=fun b o hb e=>(j5_ _ _ (qv_ hb)).trans e
  show wpAny _ A.in1 (updateSeq S (·.push (Value.ref h.objs.size)) >>= _) _ _ _
  refine jc_ ?_
  refine zK_ jl rfl (jq_ ⟨plainId_quiet xs_ _,ih (i+1) _ tk _ (acc.push (Value.ref h.objs.size)) (as++[h.objs.size]) (by omega) ah (ig.keep F up)
   (fun b o b0 b1 b2 b3 b4 e=>up b o b0 (k6 b o b1 b2 b3 b4 (eZ b o b0 b1 b2 b3 b4 e))) (qU_ _ jl rfl) (by rw[zX_,aF,jT_];rfl) (by rw[jo_,dv];rfl) ⟨?_,?_,?_⟩⟩) (by rw[hsz];omega) (by show (acc.push (Value.ref h.objs.size)).size<=sizeLine+1;rw[Array.size_push];omega)
  ·refine q1_.mpr ⟨hG.rise,List.pairwise_singleton _ _,fun a ha b hb=>?_⟩
   rw[js_.mp hb]
   exact hG.low ha
  ·intro a ha
   rcases jz_.mp ha with ha|ha
   ·exact hG.above a ha
   ·rw[js_.mp ha];exact mH
  ·intro j b hj
   rcases Nat.lt_trichotomy j as.length with h1|h1|h1
   ·rw[jj_ h1]at hj
    obtain⟨x',y',e1,e2,e3⟩:=hG.pairs j b hj
    have hb:=hG.above b (jd_ hj)
    exact⟨x',y',e1,e2,up b _ (qn_ hb) (k6 b _ (qn_ (xI_ g1 hb)) (qn_ (xI_ g2 hb)) (qn_ (xI_ g3 hb)) (qn_ (xI_ g4 hb)) e3)⟩
   ·subst h1
    have hb:h.objs.size=b:=by simpa using hj
    subst hb
    exact⟨x,y,by rw[dv];exact hx,by rw[dv];exact hy,up _ _ (qn_ mH) ht⟩
   ·have hnone:(as++[h.objs.size])[j]?=none:=jR_ (by rw[jo_,jY_];omega)
    rw[hnone]at hj;cases hj
end
theorem WU:typeLookup (.type "zip") "__len__"=pure none:=by rw[typeLookup_type,builtinLookup_eq_fast];kernel_rfl
theorem UB:typeLookup (.type "zip") "__length_hint__"=pure none:=by rw[typeLookup_type,builtinLookup_eq_fast];kernel_rfl
section
variable {prog:Program} {w:World} {A:Around} {s:Shared} {R:Result->Shared->Prop} {xs ys:Array Value} {z TI TO i1 i2 l1 l2 S:Addr}
theorem WV (hh:A.handled=none)(D:ZipApart z TI TO i1 i2 l1 l2)(F:ZFar z TI TO i1 i2 l1 l2 S)(ah:z<S/\TO<S/\i1<S/\i2<S)(hn:xs.size<=sizeLine)(jk:xs.size=ys.size)(res:Value)(c₀:Nat)
  (hz:IsZip s.heap z TI TO .none) (cA:ZSt s.heap z TI TO i1 i2 l1 l2 S xs ys 0) (hS:s.heap.get? S=some {cls:=.type "list",data:=.seq #[] c₀})
  (hR:∀h' tk acc c as,Yh z TO i1 i2 S s.heap h'->h'.get? S=some {cls:=.type "list",dict:=none,data:=.seq acc c,slots := #[]}->as.length=xs.size->ZG xs ys S h' as->acc.toList=as.map Value.ref->R (.ok (.ret res)) {s with heap:=h',toks:=tk}):
  wpAny (model prog w) A.in1 (Builtin.List.listExtendWith (.ref S) (.ref z) res)
   (fun fin s'=>match fin with | .done f=>R (.ok f) s' | .again c'=>c'.quiet=true/\codeAny (model prog w) A c' R s') (fun e s'=>R (.error e) s') s:=by
 have hT:s.TypeIs (.ref z) "zip" := ⟨_,hz,rfl⟩
 unfold Builtin.List.listExtendWith
 refine jc_ (wpAny_typeOf hT ?_)
 have h1:Builtin.List.listSameRef (.ref S) (.ref z)=false:=by simp[Builtin.List.listSameRef,F.z.symm]
 have h2:(Value.type "zip" == Value.type "list")=false:=by decide
 have h3:(Value.type "zip" == Value.type "tuple")=false:=by decide
 simp only[h1,h2,h3,Bool.or_false,jQ_,qK_]
 refine jc_ (wpAny_pyIter_zip hz ?_)
 refine jc_ (qE_ ?_)
 unfold Builtin.List.listLengthHint
 refine jc_ (wpAny_specialOf hT WU ?_)
 show wpAny _ A.in1 (specialOf (Value.ref z) (Str.ofString "__length_hint__") >>= _) _ _ _
 refine jc_ (wpAny_specialOf hT UB ?_)
 refine jq_ ?_
 show wpAny _ A.in1 (rule "list.extend.makes-room" >>= fun _=>Builtin.List.listTouch (.ref S) >>= fun _=>
  again (.builtin "list.extend.loop" ⟨[.ref S,.ref z,res],[]⟩)) _ _ _
 refine jc_ (wpAny_rule ?_)
 refine jc_ ?_
 show wpAny _ A.in1 (updateSeq S (·.push .none) >>= fun _=>updateSeq S (·.pop)) _ _ _
 refine jc_ (zK_ hS rfl ?_)
 have dy:=qU_ (Obj.mapSeq (·.push Value.none)) hS rfl
 refine zK_ (hz:=by seq_fits) dy rfl ?_
 have hS₃:=qU_ (Obj.mapSeq (·.pop)) dy rfl
 have jm:∀b o,b≠S->s.heap.get? b=some o->((s.heap.update S (Obj.mapSeq (·.push Value.none))).update S (Obj.mapSeq (·.pop))).get? b=some o:=
  fun b o hb e=>(j5_ _ _ (qv_ hb)).trans ((j5_ _ _ (qv_ hb)).trans e)
 exact jq_ ⟨plainId_quiet xs_ _,AU_ (s:=s) (h₁:=s.heap) hh D F ah hn jk res hR xs.size 0 _ s.toks _ #[] [] (Nat.sub_zero _) (jZ_ _) (cA.keep F jm) (fun b o b0 _ _ _ _ e=>jm b o b0 e) hS₃ rfl rfl
  ⟨List.Pairwise.nil,(fun _ ha=>nomatch ha),(fun j a hj=>by simp at hj)⟩⟩
theorem AV_ (hh:A.handled=none)(D:ZipApart z TI TO i1 i2 l1 l2)(F:ZFar z TI TO i1 i2 l1 l2 S)(ah:z<S/\TO<S/\i1<S/\i2<S)(hn:xs.size<=sizeLine)(jk:xs.size=ys.size)
  (hz:IsZip s.heap z TI TO .none) (cA:ZSt s.heap z TI TO i1 i2 l1 l2 S xs ys 0) (hS:s.heap.get? S=some {cls:=.type "list",data:=.seq #[]})
  (hR:∀h' tk acc c as,Yh z TO i1 i2 S s.heap h'->h'.get? S=some {cls:=.type "list",dict:=none,data:=.seq acc c,slots := #[]}->as.length=xs.size->ZG xs ys S h' as->acc.toList=as.map Value.ref->R (.ok (.ret .none)) {s with heap:=h',toks:=tk}):
  wpAny (model prog w) A.in1 (Builtin.«list.__init__» ⟨[.ref S,.ref z],[]⟩)
   (fun fin s'=>match fin with | .done f=>R (.ok f) s' | .again c'=>c'.quiet=true/\codeAny (model prog w) A c' R s') (fun e s'=>R (.error e) s') s:=by
 show wpAny _ A.in1 (do let old <- Builtin.List.listItems (.ref S);Builtin.List.listUpdate (.ref S) (fun _ => #[]);letGo old.toList.reverse;Builtin.List.listExtendWith (.ref S) (.ref z) .none) _ _ s
 refine jc_ ?_
 unfold Builtin.List.listItems
 refine jc_ (zo_ hS rfl (jq_ ?_))
 show wpAny _ A.in1 (updateSeq S (fun _ => #[]) >>= fun _=>letGo (#[]:Array Value).toList.reverse >>= fun _=>Builtin.List.listExtendWith (.ref S) (.ref z) .none) _ _ s
 refine jc_ (zK_ hS rfl ?_)
 have dy:=qU_ (Obj.mapSeq (fun _=>(#[]:Array Value))) hS rfl
 have jm:∀b o,b≠S->s.heap.get? b=some o->(s.heap.update S (Obj.mapSeq (fun _=>(#[]:Array Value)))).get? b=some o:=
  fun b o hb e=>(j5_ _ _ (qv_ hb)).trans e
 refine jc_ (wpAny_letGo ?_)
 exact WV (s:={s with heap:=s.heap.update S (Obj.mapSeq (fun _=>(#[]:Array Value)))}) hh D F ah hn jk .none _ (jm _ _ F.z hz) (cA.keep F jm) dy fun h' tk acc c as hk jl hl hG aF=>hR h' tk acc c as (fun b o b0 b1 b2 b3 b4 e=>hk b o b0 b1 b2 b3 b4 (jm b o b0 e)) jl hl hG aF
end
section
variable {prog:Program} {w:World} {A:Around} {E:Value->Shared->Prop} {s:Shared} {xs ys:Array Value} {z TI TO i1 i2 l1 l2:Addr}
theorem AW_  (hh:A.handled=none)(D:ZipApart z TI TO i1 i2 l1 l2)(hn:xs.size<=sizeLine)(jk:xs.size=ys.size)
  (hz:IsZip s.heap z TI TO .none) (gO:IsPair s.heap TI (.ref i1) (.ref i2))  (k9:IsPair s.heap TO a b) (h1:s.heap.IsListIter i1 l1 0) (h2:s.heap.IsListIter i2 l2 0) (br:s.heap.IsList l1 xs) (bX:s.heap.IsList l2 ys)
  (hQ:∀h' tk acc c as,(∀b o,b≠z->b≠TO->b≠i1->b≠i2->s.heap.get? b=some o->h'.get? b=some o)->h'.get? s.heap.objs.size=some {cls:=.type "list",dict:=none,data:=.seq acc c,slots := #[]}->as.length=xs.size->ZG xs ys s.heap.objs.size h' as->acc.toList=as.map Value.ref ->
   Q (.ref s.heap.objs.size) {s with heap:=h',toks:=tk}):
  wpAny (model prog w) A (call (.type "list") [.ref z]) Q E s:=by
 refine callType_codes (Q₁:=fun obj s₁=>obj=.ref s.heap.objs.size/\s₁={s with heap:=s.heap.push {cls:=.type "list",data:=.seq #[]} }) PySem.F.called_list (PySem.F.typeCall_list_1 _) PySem.F.entry_list_init
  (code_list_new _ ⟨rfl,rfl⟩) fun obj s₁ e₁=>?_
 obtain⟨rfl,rfl⟩:=e₁
 have hS:(s.heap.push {cls:=.type "list",data:=.seq #[]}).get? s.heap.objs.size=some {cls:=.type "list",data:=.seq #[]}:=jC_ _ rfl
 have lz:=jt_ hz
 have lTI:=jt_ gO
 have lTO:=jt_ k9
 have kY:i1<s.heap.objs.size:=by obtain⟨_,e,_⟩:=id h1;exact jt_ e
 have kZ:i2<s.heap.objs.size:=by obtain⟨_,e,_⟩:=id h2;exact jt_ e
 have ll1:l1<s.heap.objs.size:=by obtain⟨_,e,_⟩:=id br;exact jt_ e
 have ll2:l2<s.heap.objs.size:=by obtain⟨_,e,_⟩:=id bX;exact jt_ e
 have up:∀b o,s.heap.get? b=some o->(s.heap.push {cls:=.type "list",data:=.seq #[]}).get? b=some o:=fun b o e=>jm_ _ e
 have F:ZFar z TI TO i1 i2 l1 l2 s.heap.objs.size:=⟨jN_ lz,jN_ lTI,jN_ lTO,jN_ kY,jN_ kZ,jN_ ll1,jN_ ll2⟩
 refine⟨⟨_,hS,rfl⟩,PySem.F.args_list_init_2 _ _,AV_ (s:={s with heap:=s.heap.push {cls:=.type "list",data:=.seq #[]} }) (A:=A.in1) hh D F ⟨lz,lTO,kY,kZ⟩ hn jk (up _ _ hz) ⟨up _ _ gO,h1.at fun o e=>up _ o e,h2.at fun o e=>up _ o e,br.at fun o e=>up _ o e,bX.at fun o e=>up _ o e,.inl ⟨up _ _ hz,a,b,up _ _ k9⟩⟩ hS fun h' tk acc c as hk jl hl hG aF=>?_⟩
 exact⟨rfl,hQ h' tk acc c as (fun b o b1 b2 b3 b4 e=>hk b o (jN_ (jt_ e)) b1 b2 b3 b4 (up b o e)) jl hl hG aF⟩
end
end L2
namespace L2
open PySem PySem.W PySem.Spec PySem.Calls PyProof.Rows
def TD (K:α3)(ta:TA):TE:=fun σ H Q=>ta σ H fun vs H1=>∃a b xs ys,vs=[.ref a,.ref b]/\SqL K H1 a xs/\SqL K H1 b ys/\xs.length=ys.length/\∀l rs H',Same H1 H'->H' l=none->rs.length=xs.length ->
 (∀(i:Nat) (x y:V),xs[i]?=some x->ys[i]?=some y->∃t,rs[i]?=some (V.ref t)/\H' t=some (.tup [x,y]))->Q (.ref l) (upd H' l (.lst rs))
theorem Qm {K:α3}     : TD K ta σ H Q=ta σ H fun vs H1=>∃a b xs ys,vs=[.ref a,.ref b]/\SqL K H1 a xs/\SqL K H1 b ys/\xs.length=ys.length/\∀l rs H',Same H1 H'->H' l=none->rs.length=xs.length ->
 (∀(i:Nat) (x y:V),xs[i]?=some x->ys[i]?=some y->∃t,rs[i]?=some (V.ref t)/\H' t=some (.tup [x,y]))->Q (.ref l) (upd H' l (.lst rs)):=rfl
theorem UC     (hc:X.calm=true)(hg:Gl X "list")(hm:X.mg "list"=none)(ip:Gl X "zip")(fK:X.mg "zip"=none)(ha:PA X [e,f] ta)
  (gM:starEach [.Call (.Name "zip" p2) [e,f] [] cU] X.env=[(false,eval (.Call (.Name "zip" p2) [e,f] [] cU) X.env)]:=by rfl) (hs:starEach [e,f] X.env=[(false,eval e X.env),(false,eval f X.env)]:=by rfl) (ee:starEach [f] X.env=[(false,eval f X.env)]:=by rfl):
  PE X (.Call (.Name "list" p) [.Call (.Name "zip" p2) [e,f] [] cU] [] pos) (TD X.K ta):=by
 intro pins s σ H Q I h
 refine xo_ (FS I hg hm boot_list ?_)
 refine qe_ ?_ gM rfl
 rw[gM]
 refine xn_ ?_
 refine Call_ (FS I ip fK boot_zip (qe_ (thn (ha cU pins s σ H _ I h) fun us s1 ⟨vs,H1,I1,r1,q1⟩=>?_) (by rw[hs,ee]) (by rw[ee];rfl)))
 obtain⟨a,b,xs,ys,ev,hq,dR,hlen,q⟩:=q1
 subst ev
 cases r1 with
 |cons r rr=>cases rr with
  |cons r' rr=>
   cases rr
   cases r
   cases r'
   obtain⟨its,rv,pl,fY⟩:=I1.list hq
   obtain⟨aH,rv2,mI,_⟩:=I1.list dR
   have a1:a<s1.heap.objs.size:=by obtain⟨_,e,_⟩:=id pl.isList;exact jt_ e
   have a2:b<s1.heap.objs.size:=by obtain⟨_,e,_⟩:=id mI.isList;exact jt_ e
   have ln1:=rv.length
   have ln2:=rv2.length
   refine call_zip_2 pl.isList mI.isList fun h1 hz gO k9 hi1 jo hsz hk=>?_
   refine xV_ ?_
   refine AW_ (s:={s1 with heap:=h1}) (I1.ok.hd hc) (zipApart_new a1 a2) (by rw[jk_,<-ln1];exact fY) (by rw[jk_,jk_,<-ln1,<-ln2];exact hlen) hz gO k9 hi1 jo (pl.isList.at fun o e=>hk _ o e) (mI.isList.at fun o e=>hk _ o e) fun h' tk acc c as cw hS hl hG aF=>?_
   dsimp only at cw hS hG
   have hle:s1.heap.objs.size<=h1.objs.size:=by omega
   have mJ:∀b o,s1.heap.get? b=some o->h'.get? b=some o:=fun b o e=>by
    have:=jt_ e
    exact cw b o (jN_ (jx_ this (Nat.le_add_right _ 4))) (jN_ (jx_ this (Nat.le_add_right _ 3))) (jN_ this) (jN_ (jx_ this (Nat.le_add_right _ 1))) (hk b o e)
   rw[jk_]at hl
   have dv:as.length=xs.length:=by omega
   let cs:List (List V):=(xs.zip ys).map fun q=>[q.1,q.2]
   have bh:cs.length=xs.length:=by simp[cs,hlen]
   have hci:∀(i:Nat) (x y:V),xs[i]?=some x->ys[i]?=some y->cs[i]?=some [x,y]:=fun i x y h1 h2=>by
    simp only[cs]
    rw[je_,show (xs.zip ys)[i]?=some (x,y) from qS_.mpr ⟨h1,h2⟩];rfl
   have mK:(as.zip cs).map (·.1)=as:=by rw[List.map_fst_zip];rw[dv,bh];exact jg_ _
   have u0:Un X.fs [] H1 H1 s1.heap h':=Un.kept mJ
   have k0:HOk X.prog X.w H1 h':=I1.hok.kept mJ
   have aM:∀p∈as.zip cs,∃i:Nat,as[i]?=some p.1/\cs[i]?=some p.2:=fun p hp=>by
    obtain⟨i,hi⟩:=jK_.mp hp
    exact⟨i,qS_.mp hi⟩
   have cu:∀x∈as,s1.heap.objs.size<=x:=fun x hx=>by
    exact x4_ (Nat.lt_of_le_of_lt hle (hG.above x hx))
   obtain⟨H2,e1,e2,e3,e4,e5⟩:=Ty (as.zip cs) (by rw[mK];exact hG.rise.imp fun a=>jN_ a) (fun p hp=>by
    obtain⟨i,h1,h2⟩:=aM p hp
    have hi:i<xs.length:=by rw[<-dv];exact (jb_.mp h1).1
    have jo:i<ys.length:=by omega
    have kb:xs[i]?=some xs[i]:=by simp[hi]
    have hyi:ys[i]?=some ys[i]:=by simp[jo]
    rw[hci i _ _ kb hyi]at h2
    have fI:=jp_ h2
    obtain⟨u,hu,ru⟩:=rv.get kb
    obtain⟨v,hv,rvv⟩:=rv2.get hyi
    obtain⟨x',y',b1,b2,b3⟩:=hG.pairs i p.1 h1
    have eu:x'=u:=by
     rw[List.getElem?_toArray,hu]at b1;exact (jp_ b1).symm
    have ew:y'=v:=by
     rw[List.getElem?_toArray,hv]at b2;exact (jp_ b2).symm
    subst eu ew
    refine⟨cu _ (jd_ h1),by rw[<-fI];have:=AC;simp;omega,[x',y'],?_,⟨_,b3,rfl,0,rfl⟩⟩
    rw[<-fI]
    exact Vals.two' ru rvv) H1 u0 k0 (fun p hp=>by
    obtain⟨i,h1,h2⟩:=aM p hp
    exact I1.hok.fresh (cu _ (jd_ h1)))
   have hD:H2 h1.objs.size=none:=by
    rw[e5 _ (by rw[mK];exact fun z=>absurd (hG.above _ z) (j7_ _))]
    exact I1.hok.fresh hle
   have hv:Vals (as.map V.ref) acc.toList:=by
    rw[aF]
    clear hS hl hG aF dv mK aM e4 e5 cu
    induction as with
    |nil=>exact .nil
    |cons a r ih=>exact .cons rfl ih
   have new:B6 X.prog X.w (upd H2 h1.objs.size (.lst (as.map V.ref))) h' h1.objs.size (.lst (as.map V.ref)):=⟨by rw[ja_,dv];exact fY,acc.toList,c,hv,by simpa using hS⟩
   refine⟨.ref _,_,I1.un (t':=tk) (e1.track hle hD) (e2.track hD new),rfl,q _ _ H2 e3 hD (by rw[ja_,dv]) fun i x y hx hy=>?_⟩
   have hi:i<as.length:=by rw[dv];exact (jb_.mp hx).1
   have j3:as[i]?=some as[i]:=by simp[hi]
   refine⟨as[i],by rw[je_,j3];rfl,?_⟩
   exact e4 (as[i],[x,y]) (jK_.mpr ⟨i,qS_.mpr ⟨j3,hci i x y hx hy⟩⟩)
theorem Qn  (hc:X.calm=true):Dq X (.builtin "max") (fun xs H Q=>∃(p:Addr) (ns:α2) (m:Int),xs=[.ref p]/\SqL X.K H p (ns.map V.int)/\m∈ns/\(∀x∈ns,x<=m)/\Q (.int m) H):=by
 intro pins s σ H xs us Q I r h
 obtain⟨p,ns,m,rfl,hq,hm,hmax,q⟩:=h
 obtain⟨u,rfl,rx⟩:=vals1 r
 cases rx
 obtain⟨its,r',pl,_⟩:=I.list hq
 have hi:IntsAre its ns:=by simpa using intsAre_of r'
 obtain⟨zs,e⟩:=hi.allInts.items
 have fZ:ns=zs.toList.map (·.1):=by rw[<-hi.numsOf,<-nums_intItems,<-e]
 have ao:0<ns.length:=qP_ hm
 have hsz:0<zs.size:=by rw[fZ,ja_,j3_]at ao;exact ao
 have hl:=pl.isList
 rw[e]at hl
 refine max_intList (I.ok.hd hc) hl hsz fun v h' tk hv hk=>?_
 obtain⟨t,rfl⟩:=intItems_at hv
 obtain⟨h1,h2⟩:=argBest_gt (numAt zs) (zs.size-1)
 have g1:numAt zs (argBest (fun i j=>decide (numAt zs i > numAt zs j)) (zs.size-1))∈ns:=by
  rw[fZ,numAt_eq];exact getD_mem (by rw[ja_,j3_];omega)
 have g2:m<=numAt zs (argBest (fun i j=>decide (numAt zs i > numAt zs j)) (zs.size-1)):=by
  rw[fZ]at hm
  obtain⟨j,hj,rfl⟩:=mem_getD hm
  rw[ja_,j3_]at hj
  rw[<-numAt_eq];exact h2 j (by omega)
 have g3:=hmax _ g1
 have g4:numAt zs (argBest (fun i j=>decide (numAt zs i > numAt zs j)) (zs.size-1))=m:=by omega
 exact⟨.int m,H,I.kept hk,⟨t,by rw[g4]⟩,q⟩
theorem Qo  : Dq X (.builtin "len") (fun xs H Q=>(∃a kvs,xs=[V.ref a]/\H a=some (.dK kvs)/\Q (.int kvs.length) H) \/ ∃p kvs,xs=[.ref p]/\H p=some (.dT kvs)/\Q (.int kvs.length) H):=
 Dq.or (by
  intro pins s σ H xs us Q I r h
  obtain⟨a,kvs,rfl,ha,q⟩:=h
  obtain⟨u,rfl,ru⟩:=vals1 r
  cases ru
  exact Dy_ I (.inl ha) fun t s' I'=>⟨.int kvs.length,H,I',⟨t,rfl⟩,q⟩) M3
def rIxB (K:α3):R2:=fun x y H Q=>rIxL K x y H Q\/rIxT K x y H Q
theorem AX_  {K:α3}(h:X.K=K):IxR X (rIxB K):=IxR.or (Co h) (Dj h)
theorem CE_ {K:α3}    : rIxB K x y H Q=((∃p xs i v,x=.ref p/\y=.int i/\SqL K H p xs/\atI xs i=some v/\Q v H) \/ ∃p xs i v,x=.ref p/\y=.int i/\SqT K H p xs/\atI xs i=some v/\Q v H):=rfl
def ZR:TE:=fun σ H Q=>Wb σ H Q\/Wc σ H Q
theorem WW    : ZR σ H Q=((∀p,H p=none->Q (.ref p) (upd H p (.dK []))) \/ ∀p,H p=none->Q (.ref p) (upd H p (.dT []))):=rfl
theorem Yi   : PE X (.Dict [] [] pos) ZR:=fun pins s σ H Q I h=>h.elim (fun h=>Tf pins s σ H Q I h) (fun h=>Tg pins s σ H Q I h)
end L2
namespace L2
section
variable {α:Type} [DecidableEq α]
def ins1 (acc:List α)(x:α):List α:=if x∈acc then acc else acc++[x]
def Ct (acc row:List α):List α:=row.foldl ins1 acc
def AJ (row:List α):List α:=Ct [] row
theorem Op {acc:List α}{x y:α}:y∈ins1 acc x↔y∈acc\/y=x:=by
 unfold ins1
 split
 ·rename_i h
  constructor
  ·exact .inl
  ·rintro (h' | rfl)
   ·exact h'
   ·exact h
 ·simp
theorem K5:∀{row acc:List α} {y:α},y∈Ct acc row↔y∈acc\/y∈row
 |[],acc,y=>by simp[Ct]
 |x::row,acc,y=>by
  show y∈Ct (ins1 acc x) row↔_
  rw[K5,Op,jJ_,or_assoc]
theorem A4 {row:List α}{y:α}:y∈AJ row↔y∈row:=by
 unfold AJ
 rw[K5];simp
theorem UD {acc:List α}{x:α}(h:acc.Nodup):(ins1 acc x).Nodup:=by
 unfold ins1
 split
 ·exact h
 ·rename_i hx
  exact zl_.mpr ⟨h,by simp,fun a ha b hb z=>by simp at hb;subst z hb;exact hx ha⟩
theorem HV:∀{row acc:List α},acc.Nodup->(Ct acc row).Nodup
 |[],acc,h=>h
 |x::row,acc,h=>HV (row:=row) (UD h)
theorem BB (row:List α):(AJ row).Nodup:=HV List.nodup_nil
theorem RQ (row:List α)(x:α):AJ (row++[x])=ins1 (AJ row) x:=by
 unfold AJ Ct
 rw[qM_];rfl
theorem WX {l:List α}{x y:α}(hx:x∈l)(hy:y∈l)(h:l.idxOf x=l.idxOf y):x=y:=by
 have h1:=qH_ hx
 have h2:=qH_ hy
 have e1:l[l.idxOf x]=x:=qZ_ h1
 have e2:l[l.idxOf y]=y:=qZ_ h2
 rw[<-e1,<-e2]
 congr 1
def num (row:List α):α2:=row.map fun x=>((AJ row).idxOf x:Int)
theorem IH (row:List α):(num row).length=row.length:=by unfold num;rw[ja_]
theorem Fj {β:Type}[DecidableEq β](f:α->β):∀(row acc:List α),(∀x y,x∈acc\/x∈row->y∈acc\/y∈row->f x=f y->x=y)->Ct (acc.map f) (row.map f)=(Ct acc row).map f
 |[],acc,_=>rfl
 |x::row,acc,h=>by
  show Ct (ins1 (acc.map f) (f x)) (row.map f)=(Ct (ins1 acc x) row).map f
  have e:ins1 (acc.map f) (f x)=(ins1 acc x).map f:=by
   unfold ins1
   by_cases hx:x∈acc
   ·rw[if_pos hx,if_pos (q4_ hx)]
   ·rw[if_neg hx,if_neg,jT_];rfl
    intro z
    obtain⟨y,hy,e⟩:=jv_.mp z
    have:=h y x (.inl hy) (.inr (jn_ ..)) e
    subst this
    exact hx hy
  rw[e]
  refine Fj f row _ fun a b ha hb=>h a b ?_ ?_
  ·rcases ha with ha|ha
   ·rcases Op.mp ha with ha|rfl
    ·exact .inl ha
    ·exact .inr (jn_ ..)
   ·exact .inr (jl_ _ ha)
  ·rcases hb with hb|hb
   ·rcases Op.mp hb with hb|rfl
    ·exact .inl hb
    ·exact .inr (jn_ ..)
   ·exact .inr (jl_ _ hb)
def ncl (row:List α):Nat:=(AJ row).length
theorem II (row:List α):ncl (num row)=ncl row:=by
 unfold ncl num AJ
 have:=Fj (fun x=>((AJ row).idxOf x:Int)) row [] (fun x y hx hy e=>by
  simp at hx hy
  exact WX (A4.mpr hx) (A4.mpr hy) (by omega))
 unfold AJ at this
 simp only[xR_]at this
 rw[this,ja_]
theorem TF {row:List α}{i:Nat}{x:α}(h:row[i]?=some x):(num row)[i]?=some ((AJ row).idxOf x:Int):=by
 unfold num
 rw[je_,h];rfl
theorem RS {row:List α}{i j:Nat}{x y:α}(hx:row[i]?=some x)(hy:row[j]?=some y):(num row)[i]?=(num row)[j]? ↔ x=y:=by
 rw[TF hx,TF hy]
 constructor
 ·intro h
  have:=jp_ h
  exact WX (A4.mpr (jd_ hx)) (A4.mpr (jd_ hy)) (by omega)
 ·rintro rfl;rfl
theorem TH {row:List α}{n:Int}(h:n∈num row):0<=n/\n<ncl row:=by
 unfold num at h
 obtain⟨x,hx,rfl⟩:=jv_.mp h
 have:=qH_ (A4.mpr hx)
 exact⟨by omega,by unfold ncl;omega⟩
theorem Oq {row:List α}(h:row ≠ []):((ncl row:Int)-1)∈num row:=by
 have ao:AJ row ≠ []:=fun z=>by
  cases row with
  |nil=>exact h rfl
  |cons x row=>
   have:x∈AJ (x::row):=A4.mpr (jn_ ..)
   rw[z]at this;cases this
 have iy:0<(AJ row).length:=zL_.mpr ao
 have ah:(AJ row).length-1<(AJ row).length:=by omega
 refine jv_.mpr ⟨(AJ row)[(AJ row).length-1],A4.mp (j2_ ah),?_⟩
 have e:=(BB row).idxOf_getElem _ ah
 rw[e]
 unfold ncl
 omega
theorem AY_ {row:List α}(h:row ≠ []):1<=ncl row:=by
 have h1:=Oq h
 have:=TH h1
 omega
theorem NC (row:List α):ncl row<=row.length:=by
 unfold ncl
 have:∀(row acc:List α),(Ct acc row).length<=acc.length+row.length:=fun row=>by
  induction row with
  |nil=>intro acc;exact jg_ _
  |cons x row ih=>
   intro acc
   have:=ih (ins1 acc x)
   have h2:(ins1 acc x).length<=acc.length+1:=by unfold ins1;split<;>simp
   show (Ct (ins1 acc x) row).length<=_
   rw[jW_];omega
 have:=this row []
 simpa [AJ] using this
end
theorem TJ {α:Type}[DecidableEq α]:∀{l m:List α},l.Nodup->(∀x∈l,x∈m)->l.length<=m.length
 |[],m,_,_=>jZ_ _
 |x::l,m,hn,h=>by
  have hx:=h x (jn_ ..)
  have h1:=qF_.mp hn
  have:=TJ (m:=m.erase x) h1.2 fun y hy=>by
   have ao:y≠x:=fun z=>h1.1 (z ▸ hy)
   exact (xf_ ao).mpr (h y (jl_ _ hy))
  rw[qV_ hx]at this
  have hp:0<m.length:=qP_ hx
  rw[jW_];omega
theorem UE {α β:Type}[DecidableEq α][DecidableEq β](f:α->β){l:List α}{m:List β}(hl:l.Nodup)(hm:m.Nodup)(hs:∀y∈m,∃x∈l,f x=y)(hlen:l.length<=m.length){x y:α}(hx:x∈l)(hy:y∈l)(e:f x=f y):x=y:=by
 refine Decidable.byContradiction fun ao=>?_
 have cG:∀z∈m,z∈(l.erase y).map f:=fun z hz=>by
  obtain⟨u,hu,rfl⟩:=hs z hz
  by_cases huy:u=y
  ·subst huy
   exact jv_.mpr ⟨x,(xf_ ao).mpr hx,e⟩
  ·exact jv_.mpr ⟨u,(xf_ huy).mpr hu,rfl⟩
 have:=TJ hm cG
 rw[ja_,qV_ hy]at this
 have hp:0<l.length:=qP_ hy
 omega
theorem UF {α β:Type}[DecidableEq α][DecidableEq β]{row:List (α×β)}(h:ncl row<=ncl (row.map (·.1))){x y:α×β}(hx:x∈row)(hy:y∈row)(e:x.1=y.1):x.2=y.2:=by
 have h':(AJ row).length<=(AJ (row.map fun p:α×β=>p.1)).length:=h
 have:=UE (fun p:α×β=>p.1) (BB row) (BB (row.map fun p:α×β=>p.1)) (fun z hz=>by
  obtain⟨p,hp,rfl⟩:=jv_.mp (A4.mp hz)
  exact⟨p,A4.mpr hp,rfl⟩) h' (A4.mpr hx) (A4.mpr hy) e
 rw[this]
theorem AZ_ {α β:Type}[DecidableEq α][DecidableEq β]{row:List (α×β)}(h:∀x∈row,∀y∈row,x.1=y.1->x=y):ncl (row.map (·.1))=ncl row:=by
 unfold ncl AJ
 have:=Fj (fun p:α×β=>p.1) row [] (fun x y hx hy e=>by
  simp at hx hy
  exact h x hx y hy e)
 simp only[xR_]at this
 rw[this,ja_]
structure WC (L:Int)(n:Nat)(b:α2->Nat->Int)(words:α1)(c:α2):Prop where
 w0:words[0]?=some []
 ok:∀w∈words,∀x∈w,0<=x/\x<L
 tl:∀(k:Nat) (w:α2),words[k]?=some w->0<k->w.tail∈words.take k
 nd:words.Nodup
 len:c.length=n
 rng:∀v∈c,0<=v/\v<ncl c
 top:((ncl c:Int)-1)∈c
 iff:∀r s,r<n->s<n->(c[r]?=c[s]? ↔ ∀w∈words,b w r=b w s)
 le:words.length<=ncl c
def rowB (n:Nat)(b:α2->Nat->Int)(w:α2):α2:=(List.range n).map (b w)
theorem Ds     (hr:r<n):(rowB n b w)[r]?=some (b w r):=by
 unfold rowB
 rw[je_,qG_ hr];rfl
theorem WY {c m:α2}(h:c.length=m.length):(c.zip m).map (·.1)=c:=by
 rw[List.map_fst_zip (by omega)]
theorem ND {c m:α2}{r:Nat}{u v:Int}(hu:c[r]?=some u)(hv:m[r]?=some v):(c.zip m)[r]?=some (u,v):=by
 rw[qS_];exact⟨hu,hv⟩
section
variable {L:Int} {n:Nat} {b:α2->Nat->Int} {words:α1} {c:α2} {w:α2} {x:Int}
theorem WC.start (hn:1<=n):WC L n b [[]] (num (rowB n b [])):=by
 have ao:rowB n b [] ≠ []:=fun z=>by
  have:=jG_ List.length z
  unfold rowB at this
  simp at this;omega
 refine⟨rfl,(fun w hw x hx=>by simp at hw;subst hw;cases hx),fun k w hk h0=>?_,by simp,by rw[IH];unfold rowB;simp,fun v hv=>?_,?_,fun r s hr hs=>?_,?_⟩
 ·cases k with
  |zero=>omega
  |succ k=>simp at hk
 ·rw[II];exact TH hv
 ·rw[II];exact Oq ao
 ·rw[RS (Ds hr) (Ds hs)]
  simp
 ·rw[II]
  exact AY_ ao
theorem WC.at (h:WC L n b words c)  (hr:r<n):∃u,c[r]?=some u:=⟨c[r]'(by rw[h.len];exact hr),by simp[h.len,hr]⟩
theorem Fk:(rowB n b w).length=n:=by unfold rowB;simp
theorem WC.zlen (h:WC L n b words c):c.length=(rowB n b w).length:=by rw[h.len,Fk]
theorem WC.same (h:WC L n b words c)(hle:ncl (c.zip (rowB n b w))<=ncl c)  (hr:r<n)(hs:s<n)(e:c[r]?=c[s]?):b w r=b w s:=by
 obtain⟨u,hu⟩:=h.at hr
 obtain⟨v,hv⟩:=h.at hs
 have huv:u=v:=by rw[hu,hv]at e;exact jp_ e
 have h1:=jd_ (ND hu (Ds (b:=b) (w:=w) hr))
 have h2:=jd_ (ND hv (Ds (b:=b) (w:=w) hs))
 exact UF (by rw[WY (h.zlen)];exact hle) h1 h2 huv
theorem WZ {c m:α2}{p:Int×Int}(hp:p∈c.zip m):∃r:Nat,c[r]?=some p.1/\m[r]?=some p.2:=by
 obtain⟨r,hr⟩:=jK_.mp hp
 have:=qS_.mp (show (c.zip m)[r]?=some (p.1,p.2) from hr)
 exact⟨r,this.1,this.2⟩
theorem WC.told (h:WC L n b words c)(hs:∀r s,r<n->s<n->c[r]?=c[s]?->b w r=b w s):ncl (c.zip (rowB n b w))<=ncl c:=by
 have e:=AZ_ (row:=c.zip (rowB n b w)) fun p hp q hq e=>by
  obtain⟨r,p1,p2⟩:=WZ hp
  obtain⟨s,q1,q2⟩:=WZ hq
  have hr:r<n:=by rw[<-h.len];exact (jb_.mp p1).1
  have aX:s<n:=by rw[<-h.len];exact (jb_.mp q1).1
  have:=hs r s hr aX (by rw[p1,q1,e])
  rw[Ds hr]at p2
  rw[Ds aX]at q2
  have e2:p.2=q.2:=by rw[<-jp_ p2,<-jp_ q2,this]
  exact Prod.ext e e2
 rw[<-e,WY h.zlen]
 exact jg_ _
theorem WC.more (h:WC L n b words c)(hn:1<=n)(hw:w∈words)(hx:0<=x/\x<L)(jq:ncl c<ncl (c.zip (rowB n b (x::w)))):WC L n b (words++[x::w]) (num (c.zip (rowB n b (x::w)))):=by
 have cD:x::w∉words:=fun hm=>by
  have:=h.told (w:=x::w) fun r s hr hs e=>((h.iff r s hr hs).mp e) _ hm
  omega
 have fY:(c.zip (rowB n b (x::w))).length=n:=by rw[zM_,h.len,Fk];omega
 have ao:c.zip (rowB n b (x::w)) ≠ []:=fun z=>by rw[z]at fY;simp at fY;omega
 have iy:0<words.length:=by
  have:=(jb_.mp h.w0).1
  exact this
 refine⟨by rw[jj_ iy];exact h.w0,fun v hv y hy=>?_,fun k v hk h0=>?_,?_,by rw[IH,fY],fun v hv=>?_,?_,fun r s hr hs=>?_,?_⟩
 ·rcases jz_.mp hv with hv|hv
  ·exact h.ok v hv y hy
  ·rw[js_.mp hv]at hy
   rcases jJ_.mp hy with rfl|hy
   ·exact hx
   ·exact h.ok w hw y hy
 ·by_cases fV:k<words.length
  ·rw[jj_ fV]at hk
   rw[List.take_append_of_le_length (by omega)]
   exact h.tl k v hk h0
  ·have:=(jb_.mp hk).1
   rw[jo_,jY_]at this
   have e:k=words.length:=by omega
   subst e
   rw[ju_ (jg_ _),qC_]at hk
   simp at hk
   subst hk
   rw[List.take_left']
   ·exact hw
   ·rfl
 ·exact zl_.mpr ⟨h.nd,by simp,fun a ha y hy z=>by simp at hy;subst z hy;exact cD ha⟩
 ·rw[II];exact TH hv
 ·rw[II];exact Oq ao
 ·obtain⟨u,hu⟩:=h.at hr
  obtain⟨v,hv⟩:=h.at hs
  rw[RS (ND hu (Ds hr)) (ND hv (Ds hs))]
  constructor
  ·intro e y hy
   rcases jz_.mp hy with hy|hy
   ·exact ((h.iff r s hr hs).mp (by rw[hu,hv,(Prod.mk.inj e).1])) y hy
   ·rw[js_.mp hy];exact (Prod.mk.inj e).2
  ·intro e
   have e1:=(h.iff r s hr hs).mpr fun y hy=>e y (j9_ _ hy)
   rw[hu,hv]at e1
   have e2:=e (x::w) (jw_ _ (js_.mpr rfl))
   rw[jp_ e1,e2]
 ·rw[jo_,jY_,II]
  have:=h.le
  omega
def Told (n:Nat)(b:α2->Nat->Int)(c:α2)(w:α2):Prop:=∀r s,r<n->s<n->c[r]?=c[s]?->b w r=b w s
theorem WC.finer (h:WC L n b words c)(hz:c.length=n)  (ht:Told n b c u):Told n b (num (c.zip (rowB n b w))) u:=fun r s hr hs e=>by
 obtain⟨p,hp⟩:=h.at hr
 obtain⟨q,hq⟩:=h.at hs
 have:=(RS (ND hp (Ds (b:=b) (w:=w) hr)) (ND hq (Ds (b:=b) (w:=w) hs))).mp e
 exact ht r s hr hs (by rw[hp,hq,(Prod.mk.inj this).1])
theorem WC.mine (h:WC L n b words c)(hw:w∈words):Told n b c w:=fun r s hr hs e=>((h.iff r s hr hs).mp e) w hw
end
theorem W0 {α β:Type}[DecidableEq α][DecidableEq β](f:α->β):∀(l:List α) (x:α),(∀y∈l,f y=f x->y=x)->(l.map f).idxOf (f x)=l.idxOf x
 |[],x,_=>rfl
 |a::l,x,h=>by
  rw[j1_,zI_,zI_,W0 f l x fun y hy=>h y (jl_ _ hy)]
  by_cases e:a=x
  ·subst e;simp
  ·have:¬ f a=f x:=fun z=>e (h a (jn_ ..) z)
   rw[show (a==x)=false by simpa using e,show (f a==f x)=false by simpa using this]
theorem Ba_  [DecidableEq α][DecidableEq β](f:α->β)  (h:∀x∈row,∀y∈row,f x=f y->x=y):num (row.map f)=num row:=by
 have e:AJ (row.map f)=(AJ row).map f:=by
  unfold AJ
  have:=Fj f row [] (fun x y hx hy e=>h x (hx.resolve_left (by simp)) y (hy.resolve_left (by simp)) e)
  simpa using this
 unfold num
 rw[jX_,e]
 refine qk_ fun x hx=>?_
 show (((AJ row).map f).idxOf (f x):Int)=_
 rw[W0 f _ _ fun y hy e=>h y (A4.mp hy) x hx e]
theorem Yj {α:Type}[DecidableEq α]{l:List α}{x y:α}(hy:y∈l):(l++[x]).idxOf y=l.idxOf y:=by
 rw[zY_,if_pos hy]
theorem RT {α:Type}[DecidableEq α]{l:List α}{x:α}(hx:x∉l):(l++[x]).idxOf x=l.length:=by
 rw[zY_,if_neg hx];simp
abbrev StC:=α1×α2
def M4 (n:Nat)(b:α2->Nat->Int)(w:α2)(st:StC)(x:Nat):StC:=if ncl st.2<ncl (st.2.zip (rowB n b ((x:Int)::w))) then (st.1++[(x:Int)::w],num (st.2.zip (rowB n b ((x:Int)::w)))) else st
def HW (n:Nat)(b:α2->Nat->Int)(w:α2)(L:Nat)(st:StC):StC:=(List.range L).foldl (M4 n b w) st
def HX (n:Nat)(b:α2->Nat->Int)(L:Nat):Nat->Nat->StC->StC
 |0,_,st=>st
 |f+1,k,st=>if k<st.1.length then HX n b L f (k+1) (HW n b (st.1.getD k []) L st) else st
section
variable {n L:Nat} {b:α2->Nat->Int} {w:α2} {st:StC}
theorem K6  : HW n b w (i+1) st=M4 n b w (HW n b w i st) i:=by
 unfold HW
 rw[xU_,qM_];rfl
theorem NE  (h:st.1.length<=k):HX n b L f k st=st:=by
 cases f with
 |zero=>rfl
 |succ f=>unfold HX;rw[if_neg (by omega)]
theorem Qp   (h:st.1[k]?=some v):HX n b L (f+1) k st=HX n b L f (k+1) (HW n b v L st):=by
 have hk:=(jb_.mp h).1
 rw[HX,if_pos hk,jh_,h];rfl
structure WS (n L:Nat)(b:α2->Nat->Int)(k i:Nat)(st:StC):Prop where
 wc:WC L n b st.1 st.2
 told:∀(j:Nat) (v:α2),st.1[j]?=some v->∀x:Nat,x<L->(j<k\/(j=k/\x<i))->Told n b st.2 ((x:Int)::v)
theorem WS.start (hn:1<=n):WS n L b 0 0 ([[]],num (rowB n b [])):=⟨WC.start hn,fun j v hj x hx h=>by omega⟩
theorem WS.next  (h:WS n L b k L st):WS n L b (k+1) 0 st:=⟨h.wc,fun j v hj x hx hh=>h.told j v hj x hx (by omega)⟩
theorem WS.step  (hn:1<=n)(hw:st.1[k]?=some w)(hi:i<L)(h:WS n L b k i st):WS n L b k (i+1) (M4 n b w st i)/\(M4 n b w st i).1[k]?=some w:=by
 have hm:=jd_ hw
 unfold M4
 by_cases hc:ncl st.2<ncl (st.2.zip (rowB n b ((i:Int)::w)))
 ·rw[if_pos hc]
  have hW:=h.wc.more hn hm (show 0<=(i:Int)/\(i:Int)<L by omega) hc
  have hk:=(jb_.mp hw).1
  refine⟨⟨hW,fun j v hj x hx hh=>?_⟩,by rw[jj_ hk];exact hw⟩
  by_cases e:j=k/\x=i
  ·obtain⟨rfl,rfl⟩:=e
   rw[jj_ hk,hw]at hj
   cases hj
   exact hW.mine (jw_ _ (js_.mpr rfl))
  ·have dQ:j<st.1.length:=by omega
   rw[jj_ dQ]at hj
   exact h.wc.finer h.wc.len (h.told j v hj x hx (by omega))
 ·rw[if_neg hc]
  refine⟨⟨h.wc,fun j v hj x hx hh=>?_⟩,hw⟩
  by_cases e:j=k/\x=i
  ·obtain⟨rfl,rfl⟩:=e
   rw[hw]at hj
   cases hj
   exact fun r s hr hs er=>h.wc.same (by omega) hr hs er
  ·exact h.told j v hj x hx (by omega)
theorem WS.few  (h:WS n L b k i st):st.1.length<=n:=by
 have h1:=h.wc.le
 have h2:=NC st.2
 rw[h.wc.len]at h2
 omega
def wcOf (n L:Nat)(b:α2->Nat->Int):StC:=HX n b L 41 0 ([[]],num (rowB n b []))
structure Fin17 (n L:Nat)(b:α2->Nat->Int)(st:StC):Prop where
 wc:WC L n b st.1 st.2
 told:∀v∈st.1,∀x:Nat,x<L->Told n b st.2 ((x:Int)::v)
theorem WS.fin  (h:WS n L b k 0 st)(hk:st.1.length<=k):Fin17 n L b st:=⟨h.wc,fun v hv x hx=>by
 obtain⟨j,hj⟩:=jK_.mp hv
 have:=(jb_.mp hj).1
 exact h.told j v hj x hx (by omega)⟩
end
end L2
namespace L2
open PySem PySem.W PySem.Spec PySem.Calls PyProof.Rows
theorem W1              (I:Inv X pins σ H s)(e:H a=some (.dK kvs))(l:kvs.length<sizeLine)(ry:RelV (kV k) u)(rv:RelV v r)
  (h0:∀x,valV kvs k=some x->∀w' s',Inv X pins σ H s'->RelV x w'->Q w' s') (h1:valV kvs k=none->∀s',Inv X pins σ (upd H a (.dK (putK kvs k v))) s'->Q r s'):
  wpAny (model X.prog X.w) A (call (.builtin "dict.setdefault") [.ref a,u,r]) Q E s:=by
 obtain⟨z,hd,vs,rel,dd⟩:=XX I.hok e
 have hz:vs.length<=sizeLine:=by rw[<-rel.length];exact z
 refine call_meetsIn PySem.F.slot_dict_setdefault dd.typeIs PySem.F.entry_dict_setdefault (PySem.F.args_dict_setdefault_3 _ _ _) (kt_meets_setdefault (BV X.prog X.w) a (Rz ry) hd r) ⟨vs,dd,hz,fun x hx=>?_,fun hn h' fH hs=>?_⟩
 ·have rk:=rel.val k
  rw[hx]at rk
  cases q:valV kvs k with
  |none=>rw[q]at rk;exact (rk:False).elim
  |some y=>rw[q]at rk;exact h0 y q _ _ (I.tok _) rk
 ·have rk:=rel.val k
  rw[hn]at rk
  cases q:valV kvs k with
  |some y=>rw[q]at rk;exact (rk:False).elim
  |none=>
   refine h1 q _ ?_
   have hl:(putK kvs k v).length<=sizeLine:=by have:=Ff kvs k v;omega
   have he:∃q,h'.get? a=some q:=let ⟨q,_,_,hq,_⟩:=fH;⟨q,hq⟩
   exact Oa I (by rw[e];exact True.intro) hs he (V7 hl hd (rel.put k rv) fH)
def TL (td ty tx:TE):TE:=fun σ H Q=>td σ H fun x H1=>∃a,x=.ref a/\IsD H1 a/\ty σ H1 fun y H2=>tx σ H2 fun z H3=>∃n kvs,y=.int n/\H3 a=some (.dK kvs)/\kvs.length<sizeLine/\(∀v,valV kvs (Sum.inl n)=some v->Q v H3)/\(valV kvs (Sum.inl n)=none->Q z (upd H3 a (.dK (putK kvs (Sum.inl n) z))))
theorem Qq     : TL td ty tx σ H Q=td σ H fun x H1=>∃a,x=.ref a/\IsD H1 a/\ty σ H1 fun y H2=>tx σ H2 fun z H3=>∃n kvs,y=.int n/\H3 a=some (.dK kvs)/\kvs.length<sizeLine/\(∀v,valV kvs (Sum.inl n)=some v->Q v H3)/\(valV kvs (Sum.inl n)=none->Q z (upd H3 a (.dK (putK kvs (Sum.inl n) z)))):=rfl
theorem UG     (ho:PE X o td)(he:PE X e ty)(hf:PE X f tx)(m:M2 X o "setdefault" apos e f az):PE X (.Call (.Attribute o "setdefault" apos) [e,f] [] az) (TL td ty tx):=by
 intro pins s σ H Q I h
 refine wpAny_Call_method m.base m.few m.line PySem.F.plainAttrs_dict PySem.F.slot_dict_setdefault PySem.F.type_dict_setdefault (thn (ho pins s σ H _ I h) fun u s1 ⟨x,H1,I1,rx,a,ex,d,q1⟩=>?_)
 subst ex
 obtain rfl:u=Value.ref a:=rx
 obtain⟨t1,t2,_⟩:=Zs I1 d
 refine⟨t1,t2,?_⟩
 rw[m.trees]
 refine zh_ rfl (zz_ (xn_ (thn (he pins s1 σ H1 _ I1 q1) fun iv s2 ⟨y,H2,I2,ry,q2⟩ =>
  xn_ (thn (hf pins s2 σ H2 _ I2 q2) fun fv s3 ⟨z,H3,I3,rz,n,kvs,ey,ea,l,q3,q4⟩=>xV_ ?_))))
 subst ey
 exact W1 (k:=Sum.inl n) I3 ea l ry rz (fun v hv w' s4 I4 dM=>⟨v,H3,I4,dM,q3 v hv⟩) fun hn s4 I4=>⟨z,_,I4,rz,q4 hn⟩
end L2
namespace L2
open GW GB
theorem W2 {L:Int}(hL:0<L){n i:Nat}{aa:α1}{r:Int}{w:α2}:∀(rest:α2) (x:Nat) (ents:List (Int×α2)),((x+rest.length:Nat):Int)=L->(∀(k:Nat) (g:Int),rest[k]?=some g->g=Cr aa r ((x+k:Nat):Int)/\0<=g/\g<(n:Int))->Bfs L n aa ents i (place L w*L+x+1)->Seen L aa ents r w x->ents[i]?=some (r,w) ->
  Bfs L n aa (Et w ents x rest) i (place L w*L+L+1)/\Seen L aa (Et w ents x rest) r w L.toNat/\(Et w ents x rest)[i]?=some (r,w)
 |[],x,ents,hx,hg,bf,se,he=>by
  rw[IF]
  have e:(x:Int)=L:=by simpa using hx
  rw[e]at bf
  exact⟨bf,by rw[show L.toNat=x by omega];exact se,he⟩
 |g::rest,x,ents,hx,hg,bf,se,he=>by
  rw[Hl]
  obtain⟨g1,g2⟩:=hg 0 g rfl
  have bL:(x:Int)<L:=by rw[jW_]at hx;omega
  obtain⟨mL,se'⟩:=bf.letter hL se (jd_ he) bL g1 g2
  refine W2 hL rest (x+1) _ (by rw[<-hx,jW_];congr 1;omega) (fun k g' hk=>?_) mL se' (Hm he)
  have:=hg (k+1) g' (by simpa using hk)
  rwa [show x+(k+1)=x+1+k by omega]at this
theorem W3 {L:Int}{marks:α2}{aa:α1}(wf:Wf L marks aa):∀(f:Nat) (ents:List (Int×α2)) (i:Nat) (top:Int),Bfs L marks.length aa ents i top->(∀e,ents[i]?=some e->top<=place L e.2*L+1)->marks.length<i+f->∃eY,Bfs L marks.length aa (bfs aa f ents i) (bfs aa f ents i).length eY
 |0,ents,i,top,bf,ht,hf=>absurd bf.il (by have:=bf.len;omega)
 |f+1,ents,i,top,bf,ht,hf=>by
  have hL:0<L:=by have:=wf.l1;omega
  cases he:ents[i]? with
  |none=>
   rw[Oi he]
   have:i=ents.length:=by have:=bf.il;have:=xr_.mp he;omega
   exact⟨top,this ▸ bf⟩
  |some e=>
   obtain⟨r,w⟩:=e
   rw[Oj he]
   have hr:=bf.rng _ (jd_ he)
   obtain⟨row,h1,h2,h3⟩:=wf.row hr.1 hr.2
   have kc:aa.getD r.toNat []=row:=by rw[jh_,h1];rfl
   obtain⟨a,b,c⟩:=W2 (w:=w) (r:=r) hL row 0 ents (by simpa using h3) (fun k g hk=>⟨by rw[zr_];exact (CG h1 (by rw[ji_];exact hk)).symm,(wf.rows row h2).2 g (jd_ hk)⟩) (bf.up (by have h9:top<=place L w*L+1:=ht _ he;push_cast;omega)) (fun y h0 h1=>absurd h1 (by push_cast;omega)) he
   obtain⟨mL,dz⟩:=Bfs.next hL (m:=L.toNat) (by rw[show ((L.toNat:Nat):Int)=L by omega];exact a) (by omega) b c
   show ∃eY,Bfs L marks.length aa (bfs aa f (Et w ents 0 (aa.getD r.toNat [])) (i+1)) _ eY
   rw[kc]
   exact W3 wf f _ (i+1) _ mL dz (by omega)
theorem Bfs.mk    (wf:Wf L marks aa):∃top,Bfs L marks.length aa (Az aa) (Az aa).length top:=by
 unfold Az
 refine W3 wf _ _ 0 1 (Bfs.start L wf.n1 aa) (fun e he=>?_) (by rw[wf.len];omega)
 simp at he;subst he;simp[place,Be]
theorem Qr {n L:Nat}{b:α2->Nat->Int}{st:StC}{k:Nat}{w:α2}(hn:1<=n)(hw:st.1[k]?=some w)(h:WS n L b k 0 st):∀i,i<=L->WS n L b k i (HW n b w i st)/\(HW n b w i st).1[k]?=some w
 |0,_=>⟨h,hw⟩
 |i+1,hi=>by
  obtain⟨a,c⟩:=Qr hn hw h i (by omega)
  rw[K6]
  exact a.step hn c (by omega)
theorem NF {n L:Nat}{b:α2->Nat->Int}(hn:1<=n)(aN:n<=40):∀(f k:Nat) (st:StC),k+f=41->WS n L b k 0 st->Fin17 n L b (HX n b L f k st)
 |0,k,st,hk,h=>h.fin (by have:=h.few;omega)
 |f+1,k,st,hk,h=>by
  cases hw:st.1[k]? with
  |none=>
   have:=xr_.mp hw
   rw[NE this]
   exact h.fin this
  |some w=>
   rw[Qp hw]
   exact NF hn aN f (k+1) _ (by omega) (Qr hn hw h L (jg_ _)).1.next
theorem Fin17.mk'   (hn:1<=n)(aN:n<=40):Fin17 n L b (wcOf n L b):=NF hn aN 41 0 _ rfl (WS.start hn)
def bW (marks:α2)(aa:α1)(w:α2)(r:Nat):Int:=marks.getD (C1 aa (r:Int) w).toNat 0
theorem ZS   : rowB marks.length (bW marks aa) []=marks:=by
 refine qL_ fun i=>?_
 by_cases hi:i<marks.length
 ·rw[Ds hi]
  unfold bW
  show some (marks.getD ((i:Int)).toNat 0)=_
  rw[ji_,jh_,jf_ hi];rfl
 ·rw[jR_ (by rw[Fk];omega),jR_ (by omega)]
theorem RU   (w:α2)(x:Int)(r:Nat)(h:0<=Cr aa (r:Int) x):bW marks aa (x::w) r=bW marks aa w (Cr aa (r:Int) x).toNat:=by
 unfold bW
 rw[BZ,xk_ h]
def cf (c:α2)(r:Int):Int:=c.getD r.toNat 0
def hm (c R:α2)(r:Int):Int:=(((AJ (R.map (cf c))).idxOf (cf c r):Nat):Int)
def Cp (c acc:α2)(r:Int):α2:=if cf c r∈acc.map (cf c) then acc else acc++[r]
def FR (c R:α2):α2:=R.foldl (Cp c) []
theorem UH (c acc:α2)(r:Int):(Cp c acc r).map (cf c)=ins1 (acc.map (cf c)) (cf c r):=by
 unfold Cp ins1
 split
 ·rfl
 ·rw[jT_];rfl
theorem W4 (c:α2):∀(R acc:α2),(R.foldl (Cp c) acc).map (cf c)=Ct (acc.map (cf c)) (R.map (cf c))
 |[],acc=>rfl
 |r::R,acc=>by
  rw[q6_,W4 c R,UH];rfl
theorem K7 (c R:α2):(FR c R).map (cf c)=AJ (R.map (cf c)):=W4 c R []
theorem W5 {c R:α2}{i:Nat}{r:Int}(h:R[i]?=some r):FR c (R.take (i+1))=Cp c (FR c (R.take i)) r:=by
 unfold FR
 rw[jV_,h,qN_,qM_];rfl
theorem Bb_ (c R:α2)(r:Int):FR c (R++[r])=Cp c (FR c R) r:=by
 unfold FR
 rw[qM_];rfl
theorem W6 (c:α2):∀(R acc:α2) (r:Int),r∈R.foldl (Cp c) acc->r∈acc\/r∈R
 |[],acc,r,h=>.inl h
 |q::R,acc,r,h=>by
  rcases W6 c R _ r h with h|h
  ·unfold Cp at h
   split at h
   ·exact .inl h
   ·rcases jz_.mp h with h|h
    ·exact .inl h
    ·exact .inr (by rw[js_.mp h];exact jn_ ..)
  ·exact .inr (jl_ _ h)
theorem HY   (h:r∈FR c R):r∈R:=(W6 c R [] r h).resolve_left (by simp)
theorem TM (c R:α2):(FR c R).length<=R.length:=by
 have h:=jG_ List.length (K7 c R)
 have h2:=NC (R.map (cf c))
 unfold ncl at h2
 rw[ja_]at h h2
 omega
def mkR (marks:α2)(r:Int):Int:=marks.getD r.toNat 0
def hrow (c R:α2)(aa:α1)(r:Int):α2:=(aa.getD r.toNat []).map (hm c R)
theorem hm_F {c R:α2}{j:Nat}{r:Int}(h:(FR c R)[j]?=some r):hm c R r=j:=by
 have h1:(AJ (R.map (cf c)))[j]?=some (cf c r):=by rw[<-K7,je_,h];rfl
 unfold hm
 obtain⟨hj,e⟩:=jb_.mp h1
 rw[<-e,(BB _).idxOf_getElem _ hj]
theorem F_hm   (h:r∈R):∃(j:Nat) (q:Int),j<(FR c R).length/\hm c R r=j/\(FR c R)[j]?=some q/\cf c q=cf c r:=by
 have bz:cf c r∈AJ (R.map (cf c)):=A4.mpr (q4_ h)
 have hi:=qH_ bz
 have hl:(FR c R).length=(AJ (R.map (cf c))).length:=by rw[<-K7,ja_]
 refine⟨(AJ (R.map (cf c))).idxOf (cf c r),(FR c R)[(AJ (R.map (cf c))).idxOf (cf c r)]'(by omega),by omega,rfl,by simp[hl,hi],?_⟩
 have e:((FR c R).map (cf c))[(AJ (R.map (cf c))).idxOf (cf c r)]?=some (cf c r):=by rw[K7,jf_ hi,qZ_]
 rw[je_,jf_ (by omega)]at e
 exact jp_ e
theorem hm_congr   (h:cf c r=cf c s):hm c R r=hm c R s:=by unfold hm;rw[h]
theorem Qs {c:α2}(p:Int->Int):∀Q:α2,Q.reverse.Pairwise (fun a b=>p a<p b)->(FR c Q.reverse).Pairwise (fun a b=>p a<p b)/\∀r∈Q.reverse,∃f∈FR c Q.reverse,cf c f=cf c r/\p f<=p r
 |[],_=>⟨List.Pairwise.nil,fun r hr=>by simp at hr⟩
 |q::Q,h=>by
  rw[List.reverse_cons]at h ⊢
  obtain⟨h1,_,h3⟩:=q1_.mp h
  obtain⟨i1,i2⟩:=Qs p Q h1
  rw[Bb_]
  unfold Cp
  by_cases hc:cf c q∈(FR c Q.reverse).map (cf c)
  ·rw[if_pos hc]
   refine⟨i1,fun r hr=>?_⟩
   rcases jz_.mp hr with hr|hr
   ·exact i2 r hr
   ·rw[js_.mp hr]
    obtain⟨f,hf,e⟩:=jv_.mp hc
    exact⟨f,hf,e,xJ_ (h3 f (HY hf) q (js_.mpr rfl))⟩
  ·rw[if_neg hc]
   refine⟨q1_.mpr ⟨i1,List.pairwise_singleton _ _,fun a ha b hb=>?_⟩,fun r hr=>?_⟩
   ·exact h3 a (HY ha) b hb
   ·rcases jz_.mp hr with hr|hr
    ·obtain⟨f,hf,e⟩:=i2 r hr
     exact⟨f,j9_ _ hf,e⟩
    ·exact⟨r,jw_ _ hr,rfl,zk_ _⟩
theorem Yk  (p:Int->Int)(h:R.Pairwise (fun a b=>p a<p b)):(FR c R).Pairwise (fun a b=>p a<p b)/\∀r∈R,∃f∈FR c R,cf c f=cf c r/\p f<=p r:=by
 have:=Qs (c:=c) p R.reverse (by rw[q0_];exact h)
 rwa [q0_]at this
section
variable {L:Nat} {marks:α2} {aa:α1}
theorem Qt {c:α2}{n:Nat}(hc:c.length=n){r:Int}(h0:0<=r)(h1:r<(n:Int)):c[r.toNat]?=some (cf c r):=by
 unfold cf
 rw[jh_]
 simp[show r.toNat<c.length by omega]
theorem Wf.stp (wf:Wf L marks aa){r x:Int}(h0:0<=r)(h1:r<marks.length)(x0:0<=x)(x1:x<L):0<=Cr aa r x/\Cr aa r x<marks.length:=by
 obtain⟨_,g,_,_,e,a,b⟩:=wf.step h0 h1 x0 x1
 rw[e];exact⟨a,b⟩
theorem KB (wf:Wf L marks aa){st:StC}(fin:Fin17 marks.length L (bW marks aa) st){r s:Int}(r0:0<=r)(r1:r<marks.length)(s0:0<=s)(s1:s<marks.length)(e:cf st.2 r=cf st.2 s):
  mkR marks r=mkR marks s/\∀x:Nat,x<L->cf st.2 (Cr aa r x)=cf st.2 (Cr aa s x):=by
 have ec:st.2[r.toNat]?=st.2[s.toNat]?:=by rw[Qt fin.wc.len r0 r1,Qt fin.wc.len s0 s1,e]
 have hr:r.toNat<marks.length:=by omega
 have hs:s.toNat<marks.length:=by omega
 have all:=(fin.wc.iff _ _ hr hs).mp ec
 have eR:((r.toNat:Nat):Int)=r:=by omega
 have eS:((s.toNat:Nat):Int)=s:=by omega
 refine⟨?_,fun x hx=>?_⟩
 ·have:=all [] (jd_ fin.wc.w0)
  unfold bW at this
  rw[eR,eS]at this
  exact this
 ·obtain⟨a0,a1⟩:=Wf.stp wf r0 r1 (show (0:Int)<=x by omega) (by omega)
  obtain⟨b0,b1⟩:=Wf.stp wf s0 s1 (show (0:Int)<=x by omega) (by omega)
  have:=(fin.wc.iff (Cr aa r x).toNat (Cr aa s x).toNat (by omega) (by omega)).mpr fun w hw=>by
   have:=fin.told w hw x hx r.toNat s.toNat hr hs ec
   rw[RU _ _ _ (by rw[eR];exact a0),RU _ _ _ (by rw[eS];exact b0),eR,eS]at this
   exact this
  rw[Qt fin.wc.len a0 a1,Qt fin.wc.len b0 b1]at this
  exact jp_ this
theorem RV (wf:Wf L marks aa){st:StC}(fin:Fin17 marks.length L (bW marks aa) st):∀(w:α2) {r s:Int},isW L w=true->0<=r->r<marks.length->0<=s->s<marks.length->cf st.2 r=cf st.2 s->mkR marks (C1 aa r w)=mkR marks (C1 aa s w)
 |[],r,s,_,r0,r1,s0,s1,e=>(KB wf fin r0 r1 s0 s1 e).1
 |x::w,r,s,hw,r0,r1,s0,s1,e=>by
  obtain⟨hx,hw⟩:=Om.mp hw
  obtain⟨a0,a1⟩:=Wf.stp wf r0 r1 hx.1 hx.2
  obtain⟨b0,b1⟩:=Wf.stp wf s0 s1 hx.1 hx.2
  rw[BZ,BZ]
  refine RV wf fin w hw a0 a1 b0 b1 ?_
  have:=(KB wf fin r0 r1 s0 s1 e).2 x.toNat (by omega)
  rwa [show ((x.toNat:Nat):Int)=x by omega]at this
theorem NG (wf:Wf L marks aa){st:StC}(fin:Fin17 marks.length L (bW marks aa) st){r s:Int}(r0:0<=r)(r1:r<marks.length)(s0:0<=s)(s1:s<marks.length)(h:∀w,isW L w=true->mkR marks (C1 aa r w)=mkR marks (C1 aa s w)):cf st.2 r=cf st.2 s:=by
 have eR:((r.toNat:Nat):Int)=r:=by omega
 have eS:((s.toNat:Nat):Int)=s:=by omega
 have:=(fin.wc.iff r.toNat s.toNat (by omega) (by omega)).mpr fun w hw=>by
  have:=h w (AD.mpr (fin.wc.ok w hw))
  unfold bW
  rw[eR,eS]
  exact this
 rw[Qt fin.wc.len r0 r1,Qt fin.wc.len s0 s1]at this
 exact jp_ this
end
def cOf (L:Nat)(marks:α2)(aa:α1):α2:=(wcOf marks.length L (bW marks aa)).2
def rOf (aa:α1):α2:=(Az aa).map (·.1)
def sF (L:Nat)(marks:α2)(aa:α1):α2:=FR (cOf L marks aa) (rOf aa)
def sM (L:Nat)(marks:α2)(aa:α1):α2:=(sF L marks aa).map (mkR marks)
def sW (L:Nat)(marks:α2)(aa:α1):α1:=(sF L marks aa).map (hrow (cOf L marks aa) (rOf aa) aa)
def hO (L:Nat)(marks:α2)(aa:α1)(r:Int):Int:=hm (cOf L marks aa) (rOf aa) r
section
variable {L:Nat} {marks:α2} {aa:α1}
theorem finO (wf:Wf L marks aa):Fin17 marks.length L (bW marks aa) (wcOf marks.length L (bW marks aa)):=Fin17.mk' wf.n1 wf.n40
theorem EU (wf:Wf L marks aa)  (h:r∈rOf aa):0<=r/\r<marks.length:=by
 obtain⟨top,bf⟩:=Bfs.mk wf
 obtain⟨e,he,rfl⟩:=jv_.mp h
 exact bf.rng e he
theorem IJ (wf:Wf L marks aa){r x:Int}(h:r∈rOf aa)(x0:0<=x)(x1:x<L):Cr aa r x∈rOf aa:=by
 obtain⟨top,bf⟩:=Bfs.mk wf
 obtain⟨e,he,rfl⟩:=jv_.mp h
 obtain⟨j,hj⟩:=jK_.mp he
 obtain⟨e',h1,h2,_⟩:=bf.don j (jb_.mp hj).1 e hj x x0 x1
 rw[<-h2]
 exact q4_ h1
theorem W7 (wf:Wf L marks aa):(rOf aa)[0]?=some 0:=by
 obtain⟨top,bf⟩:=Bfs.mk wf
 unfold rOf
 rw[je_,bf.hd];rfl
theorem W8 (wf:Wf L marks aa):(rOf aa).length<=marks.length:=by
 obtain⟨top,bf⟩:=Bfs.mk wf
 unfold rOf
 rw[ja_];exact bf.len
theorem Os (wf:Wf L marks aa):∀(w:α2) {r:Int},r∈rOf aa->isW L w=true->C1 aa r w∈rOf aa
 |[],r,h,_=>h
 |x::w,r,h,hw=>by
  obtain⟨hx,hw⟩:=Om.mp hw
  rw[BZ]
  exact Os wf w (IJ wf h hx.1 hx.2) hw
theorem Ju (wf:Wf L marks aa){j:Nat}{r:Int}(h:(sF L marks aa)[j]?=some r):r∈rOf aa/\0<=r/\r<marks.length/\hO L marks aa r=j:=by
 have h1:=HY (jd_ h)
 have:=EU wf h1
 exact⟨h1,this.1,this.2,hm_F h⟩
theorem ZT (wf:Wf L marks aa):(sF L marks aa).length<=marks.length:=qm_ (TM _ _) (W8 wf)
theorem Bc_ (wf:Wf L marks aa)  (h:r∈rOf aa):∃(j:Nat) (q:Int),j<(sF L marks aa).length/\hO L marks aa r=j/\(sF L marks aa)[j]?=some q/\cf (cOf L marks aa) q=cf (cOf L marks aa) r:=F_hm h
theorem CF_ (wf:Wf L marks aa)  (h:r∈rOf aa):0<=hO L marks aa r/\hO L marks aa r<(sF L marks aa).length:=by
 obtain⟨j,q,h1,h2,_⟩:=Bc_ wf h
 omega
theorem K8 (wf:Wf L marks aa):(0:Int)∈rOf aa:=jd_ (W7 wf)
theorem W9 (wf:Wf L marks aa):(sF L marks aa)[0]?=some 0:=by
 have h:=W7 wf
 unfold sF
 cases hR:rOf aa with
 |nil=>rw[hR]at h;cases h
 |cons a R=>
  rw[hR]at h
  cases h
  unfold FR
  rw[q6_]
  have e:Cp (cOf L marks aa) [] 0=[0]:=by unfold Cp;simp
  rw[e]
  have:∀(R acc:α2),acc[0]?=some 0->(R.foldl (Cp (cOf L marks aa)) acc)[0]?=some 0:=fun R=>by
   induction R with
   |nil=>intro acc h;exact h
   |cons r R ih=>
    intro acc h
    refine ih _ ?_
    unfold Cp
    split
    ·exact h
    ·rw[jj_ (jb_.mp h).1];exact h
  exact this R [0] rfl
theorem RW (wf:Wf L marks aa):hO L marks aa 0=0:=by
 have:=(Ju wf (W9 wf)).2.2.2
 simpa using this
theorem DB_ {j:Nat}{r:Int}(h:(sF L marks aa)[j]?=some r):(sM L marks aa)[j]?=some (mkR marks r):=by
 unfold sM;rw[List.getElem?_map,h];rfl
theorem CG_ {j:Nat}{r:Int}(h:(sF L marks aa)[j]?=some r):(sW L marks aa)[j]?=some (hrow (cOf L marks aa) (rOf aa) aa r):=by
 unfold sW;rw[List.getElem?_map,h];rfl
theorem Jv:(sM L marks aa).length=(sF L marks aa).length:=by unfold sM;rw[ja_]
theorem ZU:(sW L marks aa).length=(sF L marks aa).length:=by unfold sW;rw[ja_]
theorem CH_    (h:ms[r.toNat]?=some m):mkR ms r=m:=by unfold mkR;rw[jh_,h];rfl
theorem ZV   (h:r.toNat<ms.length):ms[r.toNat]?=some (mkR ms r):=by unfold mkR;rw[jh_];simp[h]
theorem RX (wf:Wf L marks aa)  (h:r∈rOf aa):mkR (sM L marks aa) (hO L marks aa r)=mkR marks r:=by
 obtain⟨j,q,h1,h2,h3,h4⟩:=Bc_ wf h
 have hq:=Ju wf h3
 have hr:=EU wf h
 rw[h2]
 rw[CH_ (show (sM L marks aa)[((j:Nat):Int).toNat]?=some (mkR marks q) by rw[ji_];exact DB_ h3)]
 exact (KB wf (finO wf) hq.2.1 hq.2.2.1 hr.1 hr.2 h4).1
theorem CI_ (wf:Wf L marks aa)  (h:r∈rOf aa):(sW L marks aa)[(hO L marks aa r).toNat]?=some ((aa.getD r.toNat []).map (hO L marks aa)):=by
 obtain⟨j,q,h1,h2,h3,h4⟩:=Bc_ wf h
 have hq:=Ju wf h3
 have hr:=EU wf h
 rw[h2,ji_,CG_ h3]
 congr 1
 unfold hrow
 obtain⟨row,a1,a2,a3⟩:=wf.row hq.2.1 hq.2.2.1
 obtain⟨cW,b1,b2,b3⟩:=wf.row hr.1 hr.2
 have e1:aa.getD q.toNat []=row:=by rw[jh_,a1];rfl
 have e2:aa.getD r.toNat []=cW:=by rw[jh_,b1];rfl
 rw[e1,e2]
 refine qL_ fun x=>?_
 by_cases hx:x<L
 ·have f6:x<row.length:=by omega
  have hxr':x<cW.length:=by omega
  rw[je_,je_,jf_ f6,jf_ hxr']
  show some (hm _ _ row[x])=some (hm _ _ cW[x])
  have c1:Cr aa q (x:Nat)=row[x]:=CG a1 (by rw[ji_];simp[f6])
  have c2:Cr aa r (x:Nat)=cW[x]:=CG b1 (by rw[ji_];simp[hxr'])
  have:=(KB wf (finO wf) hq.2.1 hq.2.2.1 hr.1 hr.2 h4).2 x hx
  rw[c1,c2]at this
  exact jG_ some (hm_congr this)
 ·rw[jR_ (by rw[ja_];omega),jR_ (by rw[ja_];omega)]
theorem Bd_ (wf:Wf L marks aa){r x:Int}(h:r∈rOf aa)(x0:0<=x)(x1:x<L):Cr (sW L marks aa) (hO L marks aa r) x=hO L marks aa (Cr aa r x):=by
 have hr:=EU wf h
 obtain⟨row,b1,b2,b3⟩:=wf.row hr.1 hr.2
 have e2:aa.getD r.toNat []=row:=by rw[jh_,b1];rfl
 have h1:=CI_ wf h
 rw[e2]at h1
 have f6:x.toNat<row.length:=by omega
 rw[CG b1 (show row[x.toNat]?=some row[x.toNat] by simp[f6])]
 exact CG h1 (by rw[je_,jf_ f6];rfl)
theorem IK (wf:Wf L marks aa):∀(w:α2) {r:Int},r∈rOf aa->isW L w=true->C1 (sW L marks aa) (hO L marks aa r) w=hO L marks aa (C1 aa r w)
 |[],r,h,_=>rfl
 |x::w,r,h,hw=>by
  obtain⟨hx,hw⟩:=Om.mp hw
  rw[BZ,BZ,Bd_ wf h hx.1 hx.2]
  exact IK wf w (IJ wf h hx.1 hx.2) hw
theorem sWf (wf:Wf L marks aa):Wf L (sM L marks aa) (sW L marks aa):=by
 have hz:=W9 wf
 refine⟨wf.l1,wf.l6,?_,?_,by rw[Jv,ZU],fun row hrow'=>?_,fun m la=>?_⟩
 ·rw[Jv];have:=(jb_.mp hz).1;omega
 ·rw[Jv];have:=ZT wf;have:=wf.n40;omega
 ·obtain⟨j,hj⟩:=jK_.mp hrow'
  have dQ:=(jb_.mp hj).1
  rw[ZU]at dQ
  have hq:=Ju wf (show (sF L marks aa)[j]?=some (sF L marks aa)[j] by simp[dQ])
  rw[CG_ (show (sF L marks aa)[j]?=some (sF L marks aa)[j] by simp[dQ])]at hj
  have hj:=jp_ hj
  obtain⟨cW,b1,b2,b3⟩:=wf.row hq.2.1 hq.2.2.1
  have e2:aa.getD ((sF L marks aa)[j]).toNat []=cW:=by rw[jh_,b1];rfl
  unfold hrow at hj
  rw[e2]at hj
  subst hj
  refine⟨by rw[ja_];exact b3,fun x hx=>?_⟩
  obtain⟨g,hg,rfl⟩:=jv_.mp hx
  rw[Jv]
  refine CF_ wf ?_
  obtain⟨y,hy⟩:=jK_.mp hg
  have ke:=(jb_.mp hy).1
  have:=IJ wf hq.1 (x:=(y:Nat)) (by omega) (by omega)
  rwa [CG b1 (by rw[ji_];exact hy)]at this
 ·unfold sM at la
  obtain⟨r,hr,rfl⟩:=jv_.mp la
  have:=EU wf (HY hr)
  refine wf.mks _ (jd_ (ZV (ms:=marks) (r:=r) (by omega)))
structure Can (L:Nat)(marks:α2)(aa:α1):Prop where
 wf:Wf L marks aa
 lw:∃u:Nat->α2,(∀j,j<marks.length->isW L (u j)=true/\AK aa (u j)=(j:Int))/\(∀v,isW L v=true->∀j:Nat,AK aa v=(j:Int)->place L (u j)<=place L v)/\(∀j k,j<k->k<marks.length->place L (u j)<place L (u k))
 red:∀i j:Nat,i<marks.length->j<marks.length->(∀w,isW L w=true->mkR marks (C1 aa i w)=mkR marks (C1 aa j w))->i=j
def wi (aa:α1)(r:Int):α2:=(((Az aa).find? fun e=>decide (e.1=r)).map (·.2)).getD []
theorem Yl {L:Int}{n:Nat}{top:Int}(bf:Bfs L n aa (Az aa) (Az aa).length top){e:Int×α2}(he:e∈Az aa):wi aa e.1=e.2:=by
 unfold wi
 cases hq:(Az aa).find? (fun e'=>decide (e'.1=e.1)) with
 |none=>
  rw[xQ_]at hq
  have:=hq _ he
  simp at this
 |some e' =>
  have hk:=zN_ hq
  simp only[qq_]at hk
  obtain⟨i,hi,ei⟩:=jS_ (xt_ hq)
  obtain⟨j,hj,ej⟩:=jS_ he
  have ij:i=j:=(xN_ (h₀:=by simpa using hi) (h₁:=by simpa using hj) bf.nod).mp (by simp[ei,ej,hk])
  subst ij
  rw[<-ei,ej];rfl
theorem ZW {L:Int}{n:Nat}{top:Int}(bf:Bfs L n aa (Az aa) (Az aa).length top):(rOf aa).Pairwise (fun a b=>place L (wi aa a)<place L (wi aa b)):=by
 unfold rOf
 rw[xE_,xu_]
 intro i j hi hj aK
 rw[Yl bf (j2_ hi),Yl bf (j2_ hj)]
 exact bf.inc i j _ _ aK (by simp[hi]) (by simp[hj])
theorem CJ_ {α:Type}{R:α->α->Prop}{l:List α}(h:l.Pairwise R){i j:Nat}{a b:α}(aK:i<j)(ha:l[i]?=some a)(hb:l[j]?=some b):R a b:=by
 obtain⟨h1,rfl⟩:=jb_.mp ha
 obtain⟨h2,rfl⟩:=jb_.mp hb
 exact xu_.mp h i j h1 h2 aK
theorem CK_ (wf:Wf L marks aa)  (h:r∈rOf aa):isW L (wi aa r)=true/\AK aa (wi aa r)=r:=by
 obtain⟨top,bf⟩:=Bfs.mk wf
 obtain⟨e,he,rfl⟩:=jv_.mp h
 rw[Yl bf he]
 exact bf.wd e he
theorem Ot (wf:Wf L marks aa)  (hv:isW L v=true):AK aa v∈rOf aa/\place L (wi aa (AK aa v))<=place L v:=by
 obtain⟨top,bf⟩:=Bfs.mk wf
 obtain⟨w',h1,h2⟩:=bf.least hv v.length (jg_ _)
 rw[jU_]at h1 h2
 have:=Yl bf h1
 exact⟨jv_.mpr ⟨_,h1,rfl⟩,by rw[show wi aa (AK aa v)=w' from this];exact h2⟩
theorem sCan (wf:Wf L marks aa):Can L (sM L marks aa) (sW L marks aa):=by
 obtain⟨top,bf⟩:=Bfs.mk wf
 obtain⟨f1,f2⟩:=Yk (c:=cOf L marks aa) (fun r=>place L (wi aa r)) (ZW bf)
 have at':∀{j:Nat},j<(sF L marks aa).length->(sF L marks aa)[j]?=some ((sF L marks aa).getD j 0):=fun {j} hj=>by rw[jh_];simp[hj]
 refine⟨sWf wf,⟨fun j=>wi aa ((sF L marks aa).getD j 0),fun j hj=>?_,fun v hv j hj=>?_,fun j k gL hk=>?_⟩,fun i j hi hj ar=>?_⟩
 ·rw[Jv]at hj
  have hq:=Ju wf (at' hj)
  have:=CK_ wf hq.1
  refine⟨this.1,?_⟩
  have h2:=IK wf (wi aa ((sF L marks aa).getD j 0)) (K8 wf) this.1
  rw[RW wf,CI,CI,this.2,hq.2.2.2]at h2
  exact h2
 ·obtain⟨h1,h2⟩:=Ot wf hv
  have h3:=IK wf v (K8 wf) hv
  rw[RW wf,CI,CI,hj]at h3
  obtain⟨f,hf,hc,hp⟩:=f2 _ h1
  obtain⟨i,hi⟩:=jK_.mp hf
  have hi':=(Ju wf hi).2.2.2
  have e:hO L marks aa f=hO L marks aa (AK aa v):=hm_congr hc
  rw[hi',<-h3]at e
  have e':i=j:=by omega
  subst e'
  show place L (wi aa ((sF L marks aa).getD i 0))<=_
  rw[jh_,show (sF L marks aa)[i]?=some f from hi]
  exact Int.le_trans hp h2
 ·rw[Jv]at hk
  exact CJ_ f1 gL (at' (by omega)) (at' hk)
 ·rw[Jv]at hi hj
  have qi:=Ju wf (at' hi)
  have qj:=Ju wf (at' hj)
  have:=NG wf (finO wf) qi.2.1 qi.2.2.1 qj.2.1 qj.2.2.1 fun w hw=>by
   have:=ar w hw
   rw[<-qi.2.2.2,<-qj.2.2.2,IK wf w qi.1 hw,IK wf w qj.1 hw,RX wf (Os wf w qi.1 hw),RX wf (Os wf w qj.1 hw)]at this
   exact this
  have e:hO L marks aa ((sF L marks aa).getD i 0)=hO L marks aa ((sF L marks aa).getD j 0):=hm_congr this
  rw[qi.2.2.2,qj.2.2.2]at e
  omega
theorem CL_ (wf:Wf L marks aa)  (hv:isW L v=true):mkR (sM L marks aa) (AK (sW L marks aa) v)=mkR marks (AK aa v):=by
 have h:=IK wf v (K8 wf) hv
 rw[RW wf,CI,CI]at h
 rw[h,RX wf]
 have:=Os wf v (K8 wf) hv
 rwa [CI]at this
end
theorem Wf.walk' {L:Nat}{marks:α2}{aa:α1}(wf:Wf L marks aa){w:α2}(hw:isW L w=true):0<=AK aa w/\AK aa w<marks.length:=by
 have:=wf.walk hw w.length
 rwa [jU_]at this
section
variable {L:Nat} {m1 m2:α2} {w1 w2:α1}
theorem ZX:∀{l m:α2},l.Pairwise (· < ·)->m.Pairwise (· < ·)->(∀x,x∈l↔x∈m)->l=m
 |[],[],_,_,_=>rfl
 |[],y::m,_,_,h=>absurd ((h y).mpr (jn_ ..)) (by simp)
 |x::l,[],_,_,h=>absurd ((h x).mp (jn_ ..)) (by simp)
 |x::l,y::m,hl,hm,h=>by
  obtain⟨l1,l2⟩:=List.pairwise_cons.mp hl
  obtain⟨k1,k2⟩:=List.pairwise_cons.mp hm
  have my:x=y:=by
   have h1:=(h x).mp (jn_ ..)
   have h2:=(h y).mpr (jn_ ..)
   rcases jJ_.mp h1 with h1|h1
   ·exact h1
   ·rcases jJ_.mp h2 with h2|h2
    ·exact h2.symm
    ·have:=l1 y h2
     have:=k1 x h1
     omega
  subst my
  congr 1
  refine ZX l2 k2 fun z=>⟨fun hz=>?_,fun hz=>?_⟩
  ·rcases jJ_.mp ((h z).mp (jl_ _ hz)) with e|e
   ·have:=l1 z hz;omega
   ·exact e
  ·rcases jJ_.mp ((h z).mpr (jl_ _ hz)) with e|e
   ·have:=k1 z hz;omega
   ·exact e
theorem Can.order (c:Can L m1 w1):rOf w1=(List.range m1.length).map fun j:Nat=>(j:Int):=by
 obtain⟨u,p,q,s⟩:=c.lw
 obtain⟨top,bf⟩:=Bfs.mk c.wf
 have hL:(0:Int)<L:=by have:=c.wf.l1;omega
 have pl:∀r∈rOf w1,place L (wi w1 r)=place L (u r.toNat):=fun r hr=>by
  have bM:=EU c.wf hr
  obtain⟨a,b⟩:=CK_ c.wf hr
  have g1:=q _ a r.toNat (by omega)
  obtain⟨a',b'⟩:=p r.toNat (by omega)
  obtain⟨_,g2⟩:=Ot c.wf a'
  rw[b',xk_ bM.1]at g2
  omega
 refine ZX ?_ ?_ fun x=>⟨fun hx=>?_,fun hx=>?_⟩
 ·have h1:=ZW bf
  refine List.Pairwise.imp_of_mem (fun {a b} ha hb cu=>?_) h1
  have ra:=EU c.wf ha
  have rb:=EU c.wf hb
  rw[pl a ha,pl b hb]at cu
  refine Int.lt_of_not_ge fun aV=>?_
  rcases qW_ b.toNat a.toNat with ah|hge'
  ·have:=s b.toNat a.toNat ah (by omega)
   omega
  ·have:a.toNat=b.toNat:=by omega
   rw[this]at cu
   omega
 ·rw[xE_]
  exact List.Pairwise.imp (fun h=>by omega) List.pairwise_lt_range
 ·have:=EU c.wf hx
  exact jv_.mpr ⟨x.toNat,jP_.mpr (by omega),by omega⟩
 ·obtain⟨j,hj,rfl⟩:=jv_.mp hx
  obtain⟨a,b⟩:=p j (jP_.mp hj)
  have:=(Ot c.wf a).1
  rwa [b]at this
end
end L2
set_option maxHeartbeats 1000000
set_option maxHeartbeats 4000000
namespace L2
open PySem PySem.Spec PyProof.Rows
theorem AE  : Dq X (.type "tuple") (fun xs H Q=>∃p ys,xs=[.ref p]/\((SqL X.K H p ys/\∀l,H l=none->Q (.ref l) (upd H l (.tup ys)))\/False)):=fun pins s σ H xs us Q I r h=>by
 obtain⟨p,ys,e,h|h⟩:=h
 ·exact N9 pins s σ H xs us Q I r ⟨p,ys,e,.inl h⟩
 ·exact h.elim
theorem Fl  {K:α3}(h:X.K=K):Dq X (.type "tuple") (fun xs H Q=>∃p ys,xs=[.ref p]/\((SqL K H p ys/\∀l,H l=none->Q (.ref l) (upd H l (.tup ys)))\/False)):=by subst h;exact AE
theorem len1 {α:Type}{us:List α}(h:us.length=1):∃a,us=[a]:=by match us,h with|[a],_=>exact⟨a,rfl⟩
theorem len2 {α:Type}{us:List α}(h:us.length=2):∃a b,us=[a,b]:=by match us,h with|[a,b],_=>exact⟨a,b,rfl⟩
theorem len3 {α:Type}{us:List α}(h:us.length=3):∃a b c,us=[a,b,c]:=by match us,h with|[a,b,c],_=>exact⟨a,b,c,rfl⟩
def Xa (u:TS)(D:Ends):St->Hp->Prop:=u D
def CM_ (t u:TS):TS:=fun D σ H=>t {D with nx:=Xa u D} σ H
theorem ZY     : CM_ t u D σ H=t {D with nx:=Xa u D} σ H:=rfl
theorem Ym     (h:u D σ H):Xa u D σ H:=h
theorem Yn  {st:Stmt}{rest:List Stmt}  (h1:PS X st t)(h2:PSs X rest u):PSs X (st::rest) (CM_ t u):=Ad h1 h2
end L2
set_option maxHeartbeats 1000000
set_option maxHeartbeats 4000000
namespace L2
open PySem PySem.W PySem.Spec PySem.Calls PyProof.Rows
def vD:Option (Option V)->(V->Prop)->Prop
 |some (some v),q=>q v
 |_,_=>False
theorem Xb   : vD (some (some v)) q=q v:=rfl
theorem DC_   (h:vD o q):∃v,o=some (some v)/\q v:=by
 match o,h with
 |some (some v),h=>exact⟨v,rfl,h⟩
def UI (i:Nat):TE:=fun σ H Q=>vD σ[i]? fun v=>Q v H
theorem ZZ     : UI i σ H Q=vD σ[i]? fun v=>Q v H:=rfl
theorem pvD  (i:Nat)   (hN:X.N[i]?=some x:=by rfl)(hv:Vis X.env.scope x:=by first|exact Or.inl rfl|exact Or.inr (Or.inl rfl)|exact Or.inr (Or.inr rfl))(hd:(x==("__debug__" : Str))=false:=by decide)
  (bw:(x==("__classdict__" : Str))=false:=by decide):PE X (.Name x pos) (UI i):=fun pins s σ H Q I h=>pv i hN hv hd bw pins s σ H Q I (DC_ h)
def iD:V->V->(Int->Int->Prop)->Prop
 |.int i,.int j,q=>q i j
 |x,y,q=>∃i j,x=.int i/\y=.int j/\q i j
theorem Z0   : iD (.int i) (.int j) q=q i j:=rfl
theorem Be_   : iD x y q=∃i j,x=.int i/\y=.int j/\q i j:=by
 cases x<;>cases y<;>first|rfl|(simp[iD])
def rID (C:Int->Int->Prop)(g:Int->Int->V):R2:=fun x y H Q=>iD x y fun i j=>C i j/\Q (g i j) H
def rI0D (g:Int->Int->V):R2:=fun x y H Q=>iD x y fun i j=>Q (g i j) H
theorem r_ID      : rID C f x y H Q=iD x y fun i j=>C i j/\Q (f i j) H:=rfl
theorem CN_     : rI0D f x y H Q=iD x y fun i j=>Q (f i j) H:=rfl
theorem CO_   : rID C g=rI C g:=by
 funext x y H Q;exact Be_
theorem Bf_  : rI0D g=rI0 g:=by
 funext x y H Q;exact Be_
theorem opD     (h:OpR X f (rI C g)):OpR X f (rID C g):=by rw[CO_];exact h
theorem opD0    (h:OpR X f (rI0 g)):OpR X f (rI0D g):=by rw[Bf_];exact h
def bD:V->(Bool->Prop)->Prop
 |.bl c,q=>q c
 |x,q=>∃c,x=.bl c/\q c
theorem CP_   : bD (.bl c) q=q c:=rfl
theorem CQ_   : bD x q=∃c,x=.bl c/\q c:=by
 cases x<;>first|rfl|(simp[bD])
def tBD (t:TE):TT:=fun σ H Q=>t σ H fun x H1=>bD x fun c=>Q c H1
theorem r_BD     : tBD te σ H R=te σ H fun x H1=>bD x fun c=>R c H1:=rfl
theorem Z1  : tBD t=tB t:=by
 funext σ H Q
 show t σ H _=t σ H _
 congr 1
 funext x H1;exact CQ_
theorem Bg_  : tBD t=XR t:=Z1
theorem ptB    (h:PT X e (tB t)):PT X e (tBD t):=by rw[Z1];exact h
theorem ptT    (h:PT X e (XR t)):PT X e (tBD t):=by rw[Bg_];exact h
def eD:V->V->Prop->Prop
 |.int _,.int _,q=>q
 |.str _,.str _,q=>q
 |.non,.non,q=>q
 |.bl _,.bl _,q=>q
 |x,y,q=>scal x y=true/\q
theorem Z2   : eD (.int i) (.int j) q=q:=rfl
theorem Z3   : eD (.str i) (.str j) q=q:=rfl
theorem Z4  : eD .non .non q=q:=rfl
theorem CR_   : eD (.bl i) (.bl j) q=q:=rfl
theorem Bh_   : eD x y q=(scal x y=true/\q):=by
 cases x<;>cases y<;>first|rfl|(simp[eD,scal])
def rEqF:R2:=fun x y H Q=>eD x y (Q (.bl (decide (x=y))) H)
def rNeF:R2:=fun x y H Q=>eD x y (Q (.bl (!decide (x=y))) H)
theorem CS_    : rEqF x y H Q=eD x y (Q (.bl (decide (x=y))) H):=rfl
theorem CT_    : rNeF x y H Q=eD x y (Q (.bl (!decide (x=y))) H):=rfl
theorem Bi_:rEqF=rEq:=by funext x y H Q;exact Bh_
theorem Bj_:rNeF=rNe:=by funext x y H Q;exact Bh_
theorem opE   (h:OpR X f rEq):OpR X f rEqF:=by rw[Bi_];exact h
theorem opN   (h:OpR X f rNe):OpR X f rNeF:=by rw[Bj_];exact h
def aD:V->(Addr->Prop)->Prop
 |.ref a,q=>q a
 |x,q=>∃a,x=.ref a/\q a
theorem Z5   : aD (.ref a) q=q a:=rfl
theorem Yo   : aD x q=∃a,x=.ref a/\q a:=by
 cases x<;>first|rfl|(simp[aD])
def nD:V->(Int->Prop)->Prop
 |.int a,q=>q a
 |x,q=>∃a,x=.int a/\q a
theorem Z6   : nD (.int a) q=q a:=rfl
theorem Xc   : nD x q=∃a,x=.int a/\q a:=by
 cases x<;>first|rfl|(simp[nD])
def Bk_ (K:α3):R2:=fun x y H Q=>aD x fun p=>∃xs,nD y fun i=>SqT K H p xs/\∃v,atI xs i=some v/\Q v H
def Yp (K:α3):R2:=fun x y H Q=>aD x fun p=>∃xs,nD y fun i=>SqL K H p xs/\∃v,atI xs i=some v/\Q v H
theorem Z7 {K:α3}    : Bk_ K x y H Q=aD x fun p=>∃xs,nD y fun i=>SqT K H p xs/\∃v,atI xs i=some v/\Q v H:=rfl
theorem Z8 {K:α3}    : Yp K x y H Q=aD x fun p=>∃xs,nD y fun i=>SqL K H p xs/\∃v,atI xs i=some v/\Q v H:=rfl
theorem Yq {K:α3}:Bk_ K=rIxT K:=by
 funext x y H Q
 show aD x _=∃p xs i v,_
 rw[Yo]
 refine propext ⟨fun ⟨p,e,h⟩=>?_,fun ⟨p,xs,i,v,e1,e2,e3,e4,e5⟩=>⟨p,e1,?_⟩⟩
 ·obtain⟨xs,h⟩:=h
  rw[Xc]at h
  obtain⟨i,e2,e3,v,e4,e5⟩:=h
  exact⟨p,xs,i,v,e,e2,e3,e4,e5⟩
 ·refine⟨xs,?_⟩
  rw[Xc]
  exact⟨i,e2,e3,v,e4,e5⟩
theorem Yr {K:α3}:Yp K=rIxL K:=by
 funext x y H Q
 show aD x _=∃p xs i v,_
 rw[Yo]
 refine propext ⟨fun ⟨p,e,h⟩=>?_,fun ⟨p,xs,i,v,e1,e2,e3,e4,e5⟩=>⟨p,e1,?_⟩⟩
 ·obtain⟨xs,h⟩:=h
  rw[Xc]at h
  obtain⟨i,e2,e3,v,e4,e5⟩:=h
  exact⟨p,xs,i,v,e,e2,e3,e4,e5⟩
 ·refine⟨xs,?_⟩
  rw[Xc]
  exact⟨i,e2,e3,v,e4,e5⟩
theorem ixTD  {K:α3}(h:IxR X (rIxT K)):IxR X (Bk_ K):=by rw[Yq];exact h
theorem ixLD  {K:α3}(h:IxR X (rIxL K)):IxR X (Yp K):=by rw[Yr];exact h
def lD1:List V->(V->Prop)->Prop
 |[x],q=>q x
 |xs,q=>∃x,xs=[x]/\q x
theorem Xd   : lD1 [x] q=q x:=rfl
theorem CU_   : lD1 xs q=∃x,xs=[x]/\q x:=by
 match xs with
 |[]=>rfl
 |[x]=>simp[lD1]
 |x::y::r=>rfl
def Bl_ (K:α3):List V->Hp->VK->Prop:=fun xs H Q=>lD1 xs fun x=>aD x fun p=>∃ys,(SqL K H p ys\/SqT K H p ys)/\Q (.int ys.length) H
theorem Z9 {K:α3}    : Bl_ K xs H Q=lD1 xs fun x=>aD x fun p=>∃ys,(SqL K H p ys\/SqT K H p ys)/\Q (.int ys.length) H:=rfl
theorem lenD  {K:α3}  (h:Dq X f (fun xs H Q=>∃p ys,xs=[.ref p]/\(SqL K H p ys\/SqT K H p ys)/\Q (.int ys.length) H)):Dq X f (Bl_ K):=by
 have e:Bl_ K=fun xs H Q=>∃p ys,xs=[.ref p]/\(SqL K H p ys\/SqT K H p ys)/\Q (.int ys.length) H:=by
  funext xs H Q
  show lD1 xs _=_
  rw[CU_]
  refine propext ⟨fun ⟨x,e,h⟩=>?_,fun ⟨p,ys,e,h1,h2⟩=>⟨_,e,ys,h1,h2⟩⟩
  rw[Yo]at h
  obtain⟨p,rfl,ys,h1,h2⟩:=h
  exact⟨p,ys,e,h1,h2⟩
 rw[e];exact h
theorem Aj       (hN:X.N.Nodup)(he:PE X e te)(hi:X.N[i]?=some x:=by rfl)(hx:Loc X.env.scope x:=by exact Or.inl rfl)(hs:swapsWith e (some (.Name x pos')) pos.line X.env=pure false:=by rfl)(hf:X.fn x=true\/X.env.scope.names.lookup x=some .local:=by first|exact .inl rfl|exact .inr rfl|assumption):PS X (.Assign [.Name x pos'] e pos) (tAsg te (IB i)):=B7 hN hi hx he hs hf
theorem Ah      (hr:IxR X r)(ha:PE X a ta)(hb:PE X b tb)(hs:VX b:=by exact fun _ _=>rfl):PE X (.Subscript a b pos) (tOp r ta tb):=BZ_ hr ha hb hs
end L2
namespace PySem
open Sem (wp)
structure VKind (prog:Program)(w:World)(K:Type)[DecidableEq K] where
 is:Heap->K->Value->Prop
 hash:K->Int
 draws:K->Nat
 room:Around->Prop
 inj:∀{h:Heap} {a:Value} {x y:K},is h x a->is h y a->x=y
 keeps:∀{h h':Heap} {k:K} {a:Value} {d:Addr} {o:Obj} {es ep},is h k a->h.get? d=some o->o.data=.dict es ep->Heap.SameBut d h h'->is h' k a
 pyHash:∀{A:Around} {E:Value->Shared->Prop} {s:Shared} {k:K} {a:Addr} {Q:Int->Shared->Prop},room A->is s.heap k (.ref a)->Q (hash k) {s with toks:=s.toks+draws k}->wpAny (model prog w) A (PySem.pyHash (.ref a)) Q E s
 eqBool:∀{A:Around} {E:Value->Shared->Prop} {s:Shared} {x y:K} {u:Value} {b:Addr} {Q:Bool->Shared->Prop},room A->is s.heap x u->is s.heap y (.ref b)->Q (decide (x=y)) s->wpAny (model prog w) A (PySem.eqBool u (.ref b)) Q E s
 quiet:∀{A:Around} {E:Value->Shared->Prop} {s:Shared} {k:K} {a:Value} {Q:Bool->Shared->Prop},room A->is s.heap k a->Q true s->wpAny (model prog w) A (eqIsQuiet 8 a) Q E s
abbrev NI:=Int ⊕ α2
abbrev NK:=Option (List NI)
end PySem
namespace L2
open PySem PySem.W PySem.Spec PySem.Calls PyProof.Rows
def TSq (K:α3)(H H':Hp):Prop:=∀b ys,SqT K H b ys->SqT K H' b ys
theorem TSq.un {K:α3}    (h1:∀xs,H p≠some (.tup xs))(h2:∀ob xs,H p≠some (.frz ob (.tup xs))):TSq K H (upd H p o):=fun b ys e=>by
 rcases e with (e|⟨ob,e⟩)|e
 ·exact .inl (.inl (by rw[Ai (fun z=>by rw[z]at e;exact h1 _ e)];exact e))
 ·exact .inl (.inr ⟨ob,by rw[Ai (fun z=>by rw[z]at e;exact h2 _ _ e)];exact e⟩)
 ·exact .inr e
end L2
namespace S64
open PySem PyProof.Rows
def KE (κ:KeyKind)(x:Keyed):κ.α:=(κ.keyOf x.1).getD κ.dflt
theorem Ys     (h:xs[i]?=some x):KK κ xs i=KE κ x:=by unfold KK KE;rw[h]
structure SB (kd:SortKind)(a₀:Array Keyed)(st:SortSt):Prop where
 perm:(arrOf st).Perm a₀
 kind:kindOf st=kd
 failed:failedOf st=none
theorem SB.size   {st:SortSt}(h:SB kd a₀ st):(arrOf st).size=a₀.size:=h.perm.size_eq
theorem SB.setArr   {st:SortSt}(h:SB kd a₀ st)  (hp:xs.Perm (arrOf st)):SB kd a₀ (PyProof.Rows.setArr st xs):=⟨hp.trans h.perm,h.kind,h.failed⟩
theorem SB.mem   {st:SortSt}(h:SB kd a₀ st)  (hx:x∈(arrOf st).toList):x∈a₀.toList:=(xX_.mp h.perm).mem_iff.mp hx
theorem SB.get   {st:SortSt}(h:SB kd a₀ st)  (hi:i<a₀.size):∃x,(arrOf st)[i]?=some x/\x∈a₀.toList:=by
 have hi':i<(arrOf st).size:=by rw[h.size];exact hi
 exact⟨(arrOf st)[i],getElem?_pos _ i hi',h.mem (by simp)⟩
def LtOk (kd:SortKind)(κ:KeyKind)(a₀:Array Keyed)(prog:Program)(w:World)(A:Around)(E:Value->Shared->Prop)(s:Shared):Prop:=
 ∀(x y:Keyed) (st:SortSt) (Q:Option Bool->SortSt->Prop),x∈a₀.toList->y∈a₀.toList->kindOf st=kd->Q (some (κ.blt (KE κ x) (KE κ y))) st->wpS (model prog w) A E s (lt' x y) Q st
def SO (κ:KeyKind)(xs:Array Keyed)(lo hi:Nat):Prop:=∀i j,lo<=i->i<=j->j<hi->κ.kle (KK κ xs i) (KK κ xs j)
def NI (κ:KeyKind)(xs:Array Keyed)(lo hi:Nat):Prop:=∀i j,lo<=i->i<=j->j<hi->κ.kle (KK κ xs j) (KK κ xs i)
def Out (lo hi:Nat)(xs ys:Array Keyed):Prop:=∀i,i<lo\/hi<=i->ys[i]?=xs[i]?
theorem Out.refl (lo hi:Nat)(xs:Array Keyed):Out lo hi xs xs:=fun _ _=>rfl
theorem Out.trans {lo hi:Nat}  (h:Out lo hi xs ys)(g:Out lo hi ys zs):Out lo hi xs zs:=fun i hi=>(g i hi).trans (h i hi)
theorem NH  {lo hi i j:Nat}(hj:j<=xs.size)(h1:lo<=i)(h2:j<=hi):Out lo hi xs (mirror xs i j ((j-i) / 2)):=fun k hk=>by
 rw[getElem?_mirror_all hj,if_neg (by omega)]
theorem UJ  {lo hi src d:Nat}(hs:src<xs.size)(hd:d<=src)(h1:lo<=src-d)(h2:src<hi):Out lo hi xs (bubble xs src d):=fun k hk=>by
 rw[getElem?_bubble hs d hd,if_neg (by omega),if_neg (by omega)]
section
variable {prog:Program} {w:World} {A:Around} {E:Value->Shared->Prop} {s:Shared} {a₀:Array Keyed} {κ:KeyKind} {kd:SortKind}
theorem K9 {st:SortSt}   (hO:LtOk kd κ a₀ prog w A E s)(hB:SB kd a₀ st)(hi:i<a₀.size)(hj:j<a₀.size)(h:Q (some (κ.blt (KK κ (arrOf st) i) (KK κ (arrOf st) j))) st):wpS (model prog w) A E s (ltAt' i j) Q st:=by
 obtain⟨x,e1,hx⟩:=hB.get hi
 obtain⟨y,e2,hy⟩:=hB.get hj
 rw[Ys e1,Ys e2]at h
 rw[ltAt'_eq]
 refine jy_ (wpS_get ?_)
 show wpS _ _ _ _ (do let x <- elem' (arrOf st) i;let y <- elem' (arrOf st) j;lt' x y) Q st
 rw[elem'_eq,elem'_eq,e1,e2]
 exact jy_ (jF_ (jy_ (jF_ (hO x y st Q hx hy hB.kind h))))
def ascL (lo a ag:Nat):StateT SortSt Sem AscSt:=
 forIn [a:ag] ((none,a):AscSt) fun _ gP=>do
  let __x <- ltAt' (lo+gP.snd) (lo+gP.snd-1)
  match __x with
  |some aC=>if aC=true then pure (ForInStep.done (none,gP.snd)) else pure (ForInStep.yield (none,gP.snd+1))
  |_=>pure (ForInStep.done (some none,gP.snd))
theorem Aa_ {st:SortSt}{lo a ag:Nat}  (hO:LtOk kd κ a₀ prog w A E s)(hn:lo+ag<=a₀.size)(ha:1<=a)(han:a<=ag)(hB:SB kd a₀ st)(hs:SO κ (arrOf st) lo (lo+a))
  (h:∀n,a<=n->n<=ag->SO κ (arrOf st) lo (lo+n)->(n=ag\/κ.klt (KK κ (arrOf st) (lo+n)) (KK κ (arrOf st) (lo+n-1)))->Q (none,n) st):
  wpS (model prog w) A E s (ascL lo a ag) Q st:=by
 unfold ascL
 refine qI_ (I:=fun x c ab=>ab=st/\c=(none,x)/\SO κ (arrOf st) lo (lo+x)) ?step ?fin ⟨rfl,rfl,hs⟩
 case fin=>
  rintro c ab ⟨rfl,rfl,aX⟩
  rw[show max a ag=ag by omega]at aX ⊢
  exact h ag han (jg_ _) aX (.inl rfl)
 case step=>
  rintro x c ab mM hxn ⟨rfl,rfl,aX⟩
  dsimp only
  refine jy_ (K9 hO hB (by omega) (by omega) ?_)
  cases bj:κ.blt (KK κ (arrOf ab) (lo+x)) (KK κ (arrOf ab) (lo+x-1))
  case true=>
   simp only[xK_]
   exact jF_ (h x mM (by omega) aX (.inr bj))
  case false=>
   simp only[jQ_,qK_]
   refine jF_ ⟨rfl,rfl,fun i j hl aK hj=>?_⟩
   by_cases gN:j<lo+x
   ·exact aX i j hl aK gN
   ·have bK:j=lo+x:=by omega
    subst bK
    by_cases hi':i=lo+x
    ·subst hi';exact qJ_ _
    ·exact xd_ (aX i (lo+x-1) hl (by omega) (by omega)) bj
def RY (lo n ag:Nat):StateT SortSt Sem (Option Nat):=do
 reverseSlice' lo (lo+n)
 let gP <- ascL lo n ag
 match gP.fst with
 |some r=>pure r
 |none=>pure (some gP.snd)
theorem GJ {st:SortSt}   (h:Q () (setArr st (mirror (arrOf st) i j ((j-i) / 2)))):wpS (model prog w) A E s (reverseSlice' i j) Q st:=by
 rw[reverseSlice'_eq];exact zC_ h
theorem Bm_ {st:SortSt}{lo n ag:Nat}  (hO:LtOk kd κ a₀ prog w A E s)(hn:lo+ag<=a₀.size)(h1:1<=n)(eA:n<=ag)(hB:SB kd a₀ st)(hs:NI κ (arrOf st) lo (lo+n))
  (h:∀m ab,SB kd a₀ ab->pendingOf ab=pendingOf st->Out lo (lo+ag) (arrOf st) (arrOf ab)->1<=m->m<=ag->SO κ (arrOf ab) lo (lo+m)->Q (some m) ab):
  wpS (model prog w) A E s (RY lo n ag) Q st:=by
 unfold RY
 have hsz:lo+n<=(arrOf st).size:=by rw[hB.size];omega
 refine jy_ (GJ ?_)
 have dS:SB kd a₀ (setArr st (mirror (arrOf st) lo (lo+n) ((lo+n-lo) / 2))):=hB.setArr (mirror_perm _ _ _ _)
 refine jy_ (Aa_ hO hn h1 eA dS ?_ fun m gQ fK hsm _=>jF_ (h m _ dS rfl (NH hsz (jg_ _) (by omega)) (by omega) fK hsm))
 intro i j hl aK hj
 show κ.kle (KK κ (mirror (arrOf st) lo (lo+n) ((lo+n-lo) / 2)) i) (KK κ (mirror (arrOf st) lo (lo+n) ((lo+n-lo) / 2)) j)
 rw[KK_mirror hsz,KK_mirror hsz,if_pos (by omega),if_pos (by omega)]
 exact hs _ _ (by omega) (by omega) (by omega)
end
end S64
namespace S64
open PySem PyProof.Rows
def Dk:Bool->Keyed->Array Keyed->Nat->Nat->Nat->StateT SortSt Sem (Option Nat):=sortPriv% PySem.Builtin.gallop
def NJ (left:Bool)(key:Keyed)(arr:Array Keyed)(base i:Nat):StateT SortSt Sem (Option Bool):=do
 let x <- elem' arr (base+i)
 if left then lt' x key else return ( <- lt' key x).map (!·)
def Yt (left:Bool)(key:Keyed)(arr:Array Keyed)(base n lo hi:Nat):StateT SortSt Sem (Option Nat):=do
 let mut lo:=lo
 let mut hi:=hi
 for _ in [0:n] do
  if lo >= hi then break
  let m:=lo+(hi-lo) / 2
  let some more <- NJ left key arr base m|return none
  if more then lo:=m+1 else hi:=m
 return some hi
theorem UK (left:Bool)(key:Keyed)(arr:Array Keyed)(base n hint:Nat):Dk left key arr base n hint=(do
 let some right <- NJ left key arr base hint|return none
 if right then
  let mut lastofs:=0
  let mut ofs:=1
  for _ in [0:n] do
   if ofs >= n-hint then break
   let some more <- NJ left key arr base (hint+ofs)|return none
   if !more then break
   lastofs:=ofs
   ofs:=2*ofs+1
  Yt left key arr base n (hint+lastofs+1) (hint+min ofs (n-hint))
 else
  let mut lastofs:=0
  let mut ofs:=1
  for _ in [0:n] do
   if ofs >= hint+1 then break
   let some found <- NJ left key arr base (hint-ofs)|return none
   if found then break
   lastofs:=ofs
   ofs:=2*ofs+1
  Yt left key arr base n (hint+1-min ofs (hint+1)) (hint-lastofs)):=rfl
section
variable {prog:Program} {w:World} {A:Around} {E:Value->Shared->Prop} {s:Shared} {a₀:Array Keyed} {κ:KeyKind} {kd:SortKind}
def gB (κ:KeyKind)(left:Bool)(key:Keyed)(arr:Array Keyed)(base i:Nat):Bool:=if left then κ.blt (KK κ arr (base+i)) (KE κ key) else !κ.blt (KE κ key) (KK κ arr (base+i))
def InA (a₀ arr:Array Keyed)(base n:Nat):Prop:=∀i,i<n->∃x,arr[base+i]?=some x/\x∈a₀.toList
theorem HZ     {st:SortSt}  (hO:LtOk kd κ a₀ prog w A E s)(hk:kindOf st=kd)(a7:key∈a₀.toList)(hA:InA a₀ arr base n)(hi:i<n)(h:Q (some (gB κ left key arr base i)) st):
  wpS (model prog w) A E s (NJ left key arr base i) Q st:=by
 obtain⟨x,e,hx⟩:=hA i hi
 unfold NJ
 rw[elem'_eq,e]
 refine jy_ (jF_ ?_)
 unfold gB at h
 rw[Ys e]at h
 cases left with
 |true=>exact hO x key st Q hx a7 hk h
 |false=>
  refine jy_ (hO key x st _ a7 hx hk ?_)
  exact jF_ h
theorem Qu     {st:SortSt}  (hO:LtOk kd κ a₀ prog w A E s)(hk:kindOf st=kd)(a7:key∈a₀.toList)(hA:InA a₀ arr base n)(hh:hint<n)
  (dA:∀i j,i<=j->j<n->gB κ left key arr base j=true->gB κ left key arr base i=true)
  (h:∀k,k<=n->(∀i,i<k->gB κ left key arr base i=true)->(∀i,k<=i->i<n->gB κ left key arr base i=false)->Q (some k) st):
  wpS (model prog w) A E s (Dk left key arr base n hint) Q st:=by
 have e9:∀i j,i<=j->j<n->gB κ left key arr base i=false->gB κ left key arr base j=false:=fun i j aK hj hf=>by
  cases e:gB κ left key arr base j with
  |false=>rfl
  |true=>rw[dA i j aK hj e]at hf;cases hf
 have hlast:∀lo hi:Nat,lo<=hi->hi<=n->(∀i,i<lo->gB κ left key arr base i=true)->(∀i,hi<=i->i<n->gB κ left key arr base i=false)->wpS (model prog w) A E s (Yt left key arr base n lo hi) Q st:=by
  intro lo hi hlh hhn fG gR
  unfold Yt
  refine jy_ (xW_ (qI_ (I:=fun x c ab=>ab=st/\∃lo hi,c=(none,lo,hi)/\lo<=hi/\hi<=n/\hi-lo<=n-x/\(∀i,i<lo->gB κ left key arr base i=true)/\(∀i,hi<=i->i<n->gB κ left key arr base i=false))
   (Q:=fun c ab=>ab=st/\∃k,∃lo,c=(none,lo,k)/\k<=n/\(∀i,i<k->gB κ left key arr base i=true)/\(∀i,k<=i->i<n->gB κ left key arr base i=false)) ?step ?fin ⟨rfl,lo,hi,rfl,hlh,hhn,by omega,fG,gR⟩) ?post)
  case fin=>
   rintro c ab ⟨rfl,lo,hi,rfl,h1,h2,h3,h4,h5⟩
   have:lo=hi:=by omega
   subst this
   exact⟨rfl,lo,lo,rfl,h2,h4,h5⟩
  case post=>
   rintro c ab ⟨rfl,k,lo,rfl,h1,h2,h3⟩
   exact jF_ (h k h1 h2 h3)
  case step=>
   rintro x c ab _ hx ⟨rfl,lo,hi,rfl,h1,h2,h3,h4,h5⟩
   dsimp only
   by_cases aV:lo >= hi
   ·rw[if_pos aV]
    have:lo=hi:=by omega
    subst this
    exact jF_ ⟨rfl,lo,lo,rfl,h2,h4,h5⟩
   ·rw[if_neg aV]
    refine jy_ (HZ hO hk a7 hA (n:=n) (by omega) ?_)
    cases hg:gB κ left key arr base (lo+(hi-lo) / 2) with
    |true=>
     dsimp only
     rw[if_pos rfl]
     refine jF_ ⟨rfl,lo+(hi-lo) / 2+1,hi,rfl,by omega,h2,by omega,fun i hi'=>?_,h5⟩
     exact dA i (lo+(hi-lo) / 2) (by omega) (by omega) hg
    |false=>
     dsimp only
     rw[if_neg (by simp)]
     refine jF_ ⟨rfl,lo,lo+(hi-lo) / 2,rfl,by omega,by omega,by omega,h4,fun i hi' hn=>?_⟩
     exact e9 (lo+(hi-lo) / 2) i hi' hn hg
 rw[UK]
 refine jy_ (HZ hO hk a7 hA hh ?_)
 cases hg:gB κ left key arr base hint with
 |true=>
  dsimp only
  rw[if_pos rfl]
  refine jy_ (xW_ (qI_ (I:=fun x c ab=>ab=st/\∃last ofs,c=(none,last,ofs)/\last<ofs/\x<ofs/\hint+last<n/\gB κ left key arr base (hint+last)=true)
   (Q:=fun c ab=>ab=st/\∃last ofs,c=(none,last,ofs)/\last<ofs/\hint+last<n/\gB κ left key arr base (hint+last)=true/\(n-hint<=ofs\/hint+ofs<n/\gB κ left key arr base (hint+ofs)=false)) ?step ?fin ⟨rfl,0,1,rfl,by omega,by omega,by omega,hg⟩) ?post)
  case fin=>
   rintro c ab ⟨rfl,last,ofs,rfl,h1,h2,h3,h4⟩
   exact⟨rfl,last,ofs,rfl,h1,h3,h4,.inl (by omega)⟩
  case step=>
   rintro x c ab _ hx ⟨rfl,last,ofs,rfl,h1,h2,h3,h4⟩
   dsimp only
   by_cases aV:ofs >= n-hint
   ·rw[if_pos aV]
    exact jF_ ⟨rfl,last,ofs,rfl,h1,h3,h4,.inl aV⟩
   ·rw[if_neg aV]
    refine jy_ (HZ hO hk a7 hA (n:=n) (by omega) ?_)
    cases kf:gB κ left key arr base (hint+ofs) with
    |true=>
     dsimp only
     rw[if_neg (by simp)]
     exact jF_ ⟨rfl,ofs,2*ofs+1,rfl,by omega,by omega,by omega,kf⟩
    |false=>
     dsimp only
     rw[if_pos (by simp)]
     exact jF_ ⟨rfl,last,ofs,rfl,h1,h3,h4,.inr ⟨by omega,kf⟩⟩
  case post=>
   rintro c ab ⟨rfl,last,ofs,rfl,h1,h3,h4,h5⟩
   dsimp only
   refine hlast (hint+last+1) (hint+min ofs (n-hint)) (by omega) (by omega) (fun i hi=>dA i (hint+last) (by omega) h3 h4) (fun i hi hn=>?_)
   rcases h5 with h5|⟨h5,h6⟩
   ·omega
   ·exact e9 (hint+ofs) i (by omega) hn h6
 |false=>
  dsimp only
  rw[if_neg (by simp)]
  refine jy_ (xW_ (qI_ (I:=fun x c ab=>ab=st/\∃last ofs,c=(none,last,ofs)/\last<ofs/\x<ofs/\last<=hint/\gB κ left key arr base (hint-last)=false)
   (Q:=fun c ab=>ab=st/\∃last ofs,c=(none,last,ofs)/\last<ofs/\last<=hint/\gB κ left key arr base (hint-last)=false/\(hint+1<=ofs\/ofs<=hint/\gB κ left key arr base (hint-ofs)=true)) ?step ?fin ⟨rfl,0,1,rfl,by omega,by omega,by omega,hg⟩) ?post)
  case fin=>
   rintro c ab ⟨rfl,last,ofs,rfl,h1,h2,h3,h4⟩
   exact⟨rfl,last,ofs,rfl,h1,h3,h4,.inl (by omega)⟩
  case step=>
   rintro x c ab _ hx ⟨rfl,last,ofs,rfl,h1,h2,h3,h4⟩
   dsimp only
   by_cases aV:ofs >= hint+1
   ·rw[if_pos aV]
    exact jF_ ⟨rfl,last,ofs,rfl,h1,h3,h4,.inl aV⟩
   ·rw[if_neg aV]
    refine jy_ (HZ hO hk a7 hA (n:=n) (by omega) ?_)
    cases kf:gB κ left key arr base (hint-ofs) with
    |true=>
     dsimp only
     rw[if_pos rfl]
     exact jF_ ⟨rfl,last,ofs,rfl,h1,h3,h4,.inr ⟨by omega,kf⟩⟩
    |false=>
     dsimp only
     rw[if_neg (by simp)]
     exact jF_ ⟨rfl,ofs,2*ofs+1,rfl,by omega,by omega,by omega,kf⟩
  case post=>
   rintro c ab ⟨rfl,last,ofs,rfl,h1,h3,h4,h5⟩
   dsimp only
   refine hlast (hint+1-min ofs (hint+1)) (hint-last) (by omega) (by omega) (fun i hi=>?_) (fun i hi hn=>e9 (hint-last) i (by omega) hn h4)
   rcases h5 with h5|⟨h5,h6⟩
   ·omega
   ·exact dA i (hint-ofs) (by omega) (by omega) h6
end
end S64
namespace S64
open PySem PyProof.Rows
abbrev F2 (st:SortSt)(g:Nat):SortSt:=SortSt.mk' (kindOf st) (arrOf st) (pendingOf st) g (failedOf st)
def Ba:Nat->StateT SortSt Sem Unit:=sortPriv% PySem.Builtin.setMinGallop
theorem JK (g:Nat):Ba g=modify fun s=>F2 s g:=rfl
def KC:Array Keyed->Array Keyed->StateT SortSt Sem (Array Keyed):=sortPriv% PySem.Builtin.mergeLo
def Fm (a b out:Array Keyed)(ia ib:Nat):Array Keyed:=out++a.extract ia a.size++b.extract ib b.size
def La (a b out:Array Keyed)(ia ib:Nat):Array Keyed:=out++b.extract ib b.size++a.extract ia a.size
theorem RZ (a b:Array Keyed):KC a b=(do
 rule "list.sort.merge-lo"
 let mut out:Array Keyed := #[<-elem' b 0]
 let mut ia:=0
 let mut ib:=1
 if ib==b.size then return Fm a b out ia ib
 if ia+1==a.size then return La a b out ia ib
 let mut minGallop:=gallopOf ( <- get)
 for _ in [0:a.size+b.size] do
  let mut acount:=0
  let mut bcount:=0
  for _ in [0:a.size+b.size] do
   let some fb <- lt' ( <- elem' b ib) ( <- elem' a ia)|return Fm a b out ia ib
   if fb then
    out:=out.push ( <- elem' b ib);ib:=ib+1;bcount:=bcount+1;acount:=0
    if ib==b.size then return Fm a b out ia ib
    if bcount >= minGallop then break
   else
    out:=out.push ( <- elem' a ia);ia:=ia+1;acount:=acount+1;bcount:=0
    if ia+1==a.size then return La a b out ia ib
    if acount >= minGallop then break
  rule "list.sort.gallop"
  minGallop:=minGallop+1
  for _ in [0:a.size+b.size] do
   if minGallop > 1 then minGallop:=minGallop-1
   Ba minGallop
   let some k <- Dk false ( <- elem' b ib) a ia (a.size-ia) 0|return Fm a b out ia ib
   acount:=k
   if k > 0 then
    out:=out++a.extract ia (ia+k);ia:=ia+k
    if ia+1==a.size then return La a b out ia ib
    if ia==a.size then return Fm a b out ia ib
   out:=out.push ( <- elem' b ib);ib:=ib+1
   if ib==b.size then return Fm a b out ia ib
   let some k <- Dk true ( <- elem' a ia) b ib (b.size-ib) 0|return Fm a b out ia ib
   bcount:=k
   if k > 0 then
    out:=out++b.extract ib (ib+k);ib:=ib+k
    if ib==b.size then return Fm a b out ia ib
   out:=out.push ( <- elem' a ia);ia:=ia+1
   if ia+1==a.size then return La a b out ia ib
   if acount<7&&bcount<7 then break
  minGallop:=minGallop+1
  Ba minGallop
 unsupported "internal:list.sort.merge-bound"):=rfl
section
variable {α:Type} {R:α->α->Prop} {A B out:List α} {ia ib:Nat}
structure MI (R:α->α->Prop)(A B out:List α)(ia ib:Nat):Prop where
 ha:ia<=A.length
 hb:ib<=B.length
 pm:out.Perm (A.take ia++B.take ib)
 so:out.Pairwise R
 le:∀x∈out,∀y∈A.drop ia++B.drop ib,R x y
theorem MI.swap (h:MI R A B out ia ib):MI R B A out ib ia:=⟨h.hb,h.ha,h.pm.trans List.perm_append_comm,h.so,fun x hx y hy=>h.le x hx y (by rcases jz_.mp hy with z|z;exact jw_ _ z;exact j9_ _ z)⟩
theorem UL (A:List α)(i k:Nat):A.drop i=(A.drop i).take k++A.drop (i+k):=by
 rw[<-List.drop_drop,q7_]
theorem MI.ta (h:MI R A B out ia ib)(sA:A.Pairwise R)  (hk:ia+k<=A.length)(hx:∀x∈(A.drop ia).take k,∀y∈B.drop ib,R x y):MI R A B (out++(A.drop ia).take k) (ia+k) ib:=by
 have dI:=UL A ia k
 have mN:(A.drop ia).Pairwise R:=List.Pairwise.sublist (List.drop_sublist _ _) sA
 refine⟨hk,h.hb,?_,?_,fun x jr y hy=>?_⟩
 ·have e:A.take (ia+k)=A.take ia++(A.drop ia).take k:=List.take_add
  rw[e,qi_]
  refine (List.Perm.append_right _ h.pm).trans ?_
  rw[qi_]
  exact List.Perm.append_left _ List.perm_append_comm
 ·refine q1_.mpr ⟨h.so,List.Pairwise.sublist (List.take_sublist _ _) mN,fun x bF y ik=>h.le x bF y (j9_ _ (xg_ ik))⟩
 ·rcases jz_.mp jr with jr|jr
  ·refine h.le x jr y ?_
   rcases jz_.mp hy with hy|hy
   ·exact j9_ _ (by rw[dI];exact jw_ _ hy)
   ·exact jw_ _ hy
  ·rcases jz_.mp hy with hy|hy
   ·rw[dI]at mN
    exact (q1_.mp mN).2.2 x jr y hy
   ·exact hx x jr y hy
theorem MI.tb (h:MI R A B out ia ib)(sB:B.Pairwise R)  (hk:ib+k<=B.length)(hx:∀x∈(B.drop ib).take k,∀y∈A.drop ia,R x y):MI R A B (out++(B.drop ib).take k) ia (ib+k):=(h.swap.ta sB hk hx).swap
theorem MI.start (A B:List α):MI R A B [] 0 0:=⟨jZ_ _,jZ_ _,by simp,List.Pairwise.nil,fun x hx=>by cases hx⟩
def Mgd (R:α->α->Prop)(A B r:List α):Prop:=r.Perm (A++B)/\r.Pairwise R
theorem MI.done (h:MI R A B out ia ib)(sA:A.Pairwise R)(sB:B.Pairwise R)(he:A.length<=ia\/B.length<=ib):Mgd R A B (out++A.drop ia++B.drop ib):=by
 rcases he with he|he
 ·have:=(h.tb sB (k:=B.length-ib) (by have:=h.hb;omega) (fun x _ y hy=>by rw[qD_ he]at hy;cases hy))
  have e:(B.drop ib).take (B.length-ib)=B.drop ib:=jO_ (by rw[xa_];exact jg_ _)
  rw[e]at this
  rw[qD_ he,qj_]
  refine⟨?_,this.so⟩
  have p:=this.pm
  rw[jO_ he,jO_ (by have:=h.hb;omega)]at p
  exact p
 ·have:=(h.ta sA (k:=A.length-ia) (by have:=h.ha;omega) (fun x _ y hy=>by rw[qD_ he]at hy;cases hy))
  have e:(A.drop ia).take (A.length-ia)=A.drop ia:=jO_ (by rw[xa_];exact jg_ _)
  rw[e]at this
  rw[qD_ he,qj_]
  refine⟨?_,this.so⟩
  have p:=this.pm
  rw[jO_ he,jO_ (by have:=h.ha;omega)]at p
  exact p
theorem MI.last (h:MI R A B out ia ib)(sA:A.Pairwise R)(sB:B.Pairwise R)(hl:∀x∈B,∀y∈A.drop ia,R x y):Mgd R A B (out++B.drop ib++A.drop ia):=by
 have h1:=h.tb sB (k:=B.length-ib) (by have:=h.hb;omega) (fun x hx y hy=>hl x (List.mem_of_mem_drop (xg_ hx)) y hy)
 have e:(B.drop ib).take (B.length-ib)=B.drop ib:=jO_ (by rw[xa_];exact jg_ _)
 rw[e]at h1
 have h2:=h1.done sA sB (.inr (by have:=h.hb;omega))
 rw[qD_ (show B.length<=ib+(B.length-ib) by have:=h.hb;omega),qj_]at h2
 exact h2
end
end S64
namespace S64
open PySem PyProof.Rows
def LeK (κ:KeyKind)(x y:Keyed):Prop:=κ.kle (KE κ x) (KE κ y)
structure SG (st ab:SortSt):Prop where
 kd:kindOf ab=kindOf st
 arr:arrOf ab=arrOf st
 pe:pendingOf ab=pendingOf st
 fa:failedOf ab=failedOf st
theorem SG.refl (st:SortSt):SG st st:=⟨rfl,rfl,rfl,rfl⟩
theorem SG.set {st ab:SortSt}(h:SG st ab)(g:Nat):SG st (F2 ab g):=⟨h.kd,h.arr,h.pe,h.fa⟩
abbrev G5:=Option (Array Keyed)×Array Keyed×Nat×Nat×Nat
abbrev G6:=Option (Array Keyed)×Array Keyed×Nat×Nat×Nat×Nat
abbrev G7:=Option (Array Keyed)×Array Keyed×Nat×Nat×Nat×Nat×Nat
def PC (a b out:Array Keyed)(ia ib mg ac bc:Nat):StateT SortSt Sem (ForInStep G7):=do
 let y <- elem' a ia
 if (ia+1+1==a.size)=true then pure (.done (some (La a b (out.push y) (ia+1) ib),out.push y,ia+1,ib,mg,ac,bc))
 else if (decide (ac<7)&&decide (bc<7))=true then pure (.done (none,out.push y,ia+1,ib,mg,ac,bc)) else pure (.yield (none,out.push y,ia+1,ib,mg,ac,bc))
def PB (a b out:Array Keyed)(ia ib mg ac bc:Nat):StateT SortSt Sem (ForInStep G7):=do
 let y <- elem' b ib
 if (ib+1==b.size)=true then pure (.done (some (Fm a b (out.push y) ia (ib+1)),out.push y,ia,ib+1,mg,ac,bc))
 else do
  let z <- elem' a ia
  let x <- Dk true z b (ib+1) (b.size-(ib+1)) 0
  match x with
  |some k=>if k > 0 then (if (ib+1+k==b.size)=true then pure (.done (some (Fm a b (out.push y++b.extract (ib+1) (ib+1+k)) ia (ib+1+k)),out.push y++b.extract (ib+1) (ib+1+k),ia,ib+1+k,mg,ac,k)) else PC a b (out.push y++b.extract (ib+1) (ib+1+k)) ia (ib+1+k) mg ac k) else PC a b (out.push y) ia (ib+1) mg ac k
  |_=>pure (.done (some (Fm a b (out.push y) ia (ib+1)),out.push y,ia,ib+1,mg,ac,bc))
def PA (a b out:Array Keyed)(ia ib mg ac bc:Nat):StateT SortSt Sem (ForInStep G7):=do
 Ba mg
 let y <- elem' b ib
 let x <- Dk false y a ia (a.size-ia) 0
 match x with
 |some k=>if k > 0 then (if (ia+k+1==a.size)=true then pure (.done (some (La a b (out++a.extract ia (ia+k)) (ia+k) ib),out++a.extract ia (ia+k),ia+k,ib,mg,k,bc)) else if (ia+k==a.size)=true then pure (.done (some (Fm a b (out++a.extract ia (ia+k)) (ia+k) ib),out++a.extract ia (ia+k),ia+k,ib,mg,k,bc)) else PB a b (out++a.extract ia (ia+k)) (ia+k) ib mg k bc) else PB a b out ia ib mg k bc
 |_=>pure (.done (some (Fm a b out ia ib),out,ia,ib,mg,ac,bc))
def P1 (a b:Array Keyed)(mg:Nat)(c:G6):StateT SortSt Sem (ForInStep G6):=do
 let y <- elem' b c.2.2.2.1
 let z <- elem' a c.2.2.1
 let x <- lt' y z
 match x with
 |some fb=>
  if fb=true then
   elem' b c.2.2.2.1 >>= fun y=>
   if (c.2.2.2.1+1==b.size)=true then pure (.done (some (Fm a b (c.2.1.push y) c.2.2.1 (c.2.2.2.1+1)),c.2.1.push y,c.2.2.1,c.2.2.2.1+1,0,c.2.2.2.2.2+1))
   else if c.2.2.2.2.2+1 >= mg then pure (.done (none,c.2.1.push y,c.2.2.1,c.2.2.2.1+1,0,c.2.2.2.2.2+1)) else pure (.yield (none,c.2.1.push y,c.2.2.1,c.2.2.2.1+1,0,c.2.2.2.2.2+1))
  else
   elem' a c.2.2.1 >>= fun y=>
   if (c.2.2.1+1+1==a.size)=true then pure (.done (some (La a b (c.2.1.push y) (c.2.2.1+1) c.2.2.2.1),c.2.1.push y,c.2.2.1+1,c.2.2.2.1,c.2.2.2.2.1+1,0))
   else if c.2.2.2.2.1+1 >= mg then pure (.done (none,c.2.1.push y,c.2.2.1+1,c.2.2.2.1,c.2.2.2.2.1+1,0)) else pure (.yield (none,c.2.1.push y,c.2.2.1+1,c.2.2.2.1,c.2.2.2.2.1+1,0))
 |_=>pure (.done (some (Fm a b c.2.1 c.2.2.1 c.2.2.2.1),c.2.1,c.2.2.1,c.2.2.2.1,c.2.2.2.2.1,c.2.2.2.2.2))
def P2 (a b:Array Keyed)(c:G7):StateT SortSt Sem (ForInStep G7):=if c.2.2.2.2.1 > 1 then PA a b c.2.1 c.2.2.1 c.2.2.2.1 (c.2.2.2.2.1-1) c.2.2.2.2.2.1 c.2.2.2.2.2.2 else PA a b c.2.1 c.2.2.1 c.2.2.2.1 c.2.2.2.2.1 c.2.2.2.2.2.1 c.2.2.2.2.2.2
def PO (a b:Array Keyed)(c:G5):StateT SortSt Sem (ForInStep G5):=do
 let d <- forIn [0:a.size+b.size] ((none,c.2.1,c.2.2.1,c.2.2.2.1,0,0):G6) fun _ d=>P1 a b c.2.2.2.2 d
 match d.1 with
 |some r=>pure (.done (some r,d.2.1,d.2.2.1,d.2.2.2.1,c.2.2.2.2))
 |none=>do
  liftM (rule "list.sort.gallop")
  let e <- forIn [0:a.size+b.size] ((none,d.2.1,d.2.2.1,d.2.2.2.1,c.2.2.2.2+1,d.2.2.2.2.1,d.2.2.2.2.2):G7) fun _ e=>P2 a b e
  match e.1 with
  |some r=>pure (.done (some r,e.2.1,e.2.2.1,e.2.2.2.1,e.2.2.2.2.1))
  |none=>do
   Ba (e.2.2.2.2.1+1)
   pure (.yield (none,e.2.1,e.2.2.1,e.2.2.2.1,e.2.2.2.2.1+1))
theorem Qv (a b:Array Keyed):KC a b=(do
 liftM (rule "list.sort.merge-lo")
 let y <- elem' b 0
 if (1==b.size)=true then pure (Fm a b #[y] 0 1)
 else if (0+1==a.size)=true then pure (La a b #[y] 0 1)
 else do
  let g <- get
  let c <- forIn [0:a.size+b.size] ((none,#[y],0,1,gallopOf g):G5) fun _ c=>PO a b c
  match c.1 with
  |some r=>pure r
  |none=>unsupported "internal:list.sort.merge-bound"):=by
 rw[RZ]
 refine jG_ (bind _) (funext fun _=>jG_ (bind _) (funext fun y=>?_))
 refine jG_ (ite _ _) (jG_ (ite _ _) (jG_ (bind _) (funext fun g=>?_)))
 refine congr (jG_ bind (jG_ (forIn _ _) (funext fun _=>funext fun c=>?_))) (funext fun c=>?_)
 ·unfold PO
  dsimp only
  refine congr (jG_ bind (jG_ (forIn _ _) (funext fun _=>funext fun d=>?_))) (funext fun d=>?_)
  ·unfold P1
   rfl
  ·cases d.1 with
   |some r=>rfl
   |none=>
    dsimp only
    refine jG_ (bind _) (funext fun _=>congr (jG_ bind (jG_ (forIn _ _) (funext fun _=>funext fun e=>?_))) (funext fun e=>?_))
    ·unfold P2 PA PB PC
     rfl
    ·cases e.1 with
     |some r=>rfl
     |none=>rfl
 ·cases c.1 with
  |some r=>rfl
  |none=>rfl
end S64
namespace S64
open PySem PyProof.Rows
section
variable {prog:Program} {w:World} {A:Around} {E:Value->Shared->Prop} {s:Shared} {a₀:Array Keyed} {κ:KeyKind} {kd:SortKind}
theorem B0   {st:SortSt}  (hi:i<arr.size)(h:Q arr[i] st):wpS (model prog w) A E s (elem' arr i) Q st:=by
 rw[elem'_eq,getElem?_pos arr i hi]
 exact jF_ h
theorem IL  {st:SortSt}  (h:Q () st):wpS (model prog w) A E s (rule n:StateT SortSt Sem Unit) Q st:=wpS_lift (wpAny_rule ⟨rfl,h⟩)
theorem GK (a:Array Keyed)(i j:Nat):(a.extract i j).toList=(a.toList.drop i).take (j-i):=by simp[List.extract_eq_take_drop]
theorem Ou (a:Array Keyed)(i:Nat):(a.extract i a.size).toList=a.toList.drop i:=by
 rw[GK];exact jO_ (by simp)
theorem UM (a b out:Array Keyed)(ia ib:Nat):(Fm a b out ia ib).toList=out.toList++a.toList.drop ia++b.toList.drop ib:=by
 unfold Fm;rw[Array.toList_append,Array.toList_append,Ou,Ou]
theorem UN (a b out:Array Keyed)(ia ib:Nat):(La a b out ia ib).toList=out.toList++b.toList.drop ib++a.toList.drop ia:=by
 unfold La;rw[Array.toList_append,Array.toList_append,Ou,Ou]
theorem LeK.refl (x:Keyed):LeK κ x x:=qJ_ _
theorem LeK.trans  (h:LeK κ x y)(g:LeK κ y z):LeK κ x z:=xd_ h g
theorem Xe {a:Array Keyed}(sA:a.toList.Pairwise (LeK κ)){i j:Nat}(aK:i<=j)(hj:j<a.size):LeK κ a[i] a[j]:=by
 by_cases e:i=j
 ·subst e;exact LeK.refl _
 ·exact xu_.mp sA i j (by simpa using (by omega)) (by simpa using hj) (by omega)
theorem Eu {a:Array Keyed}{i:Nat}{y:Keyed}(h:y∈a.toList.drop i):∃j,∃hj:j<a.size,i<=j/\y=a[j]:=by
 obtain⟨k,hk,e⟩:=xY_.mp h
 rw[zZ_]at e
 rw[xa_]at hk
 exact⟨i+k,by simpa using (by simp at hk;omega),by omega,by rw[<-e];simp⟩
theorem UO {a:Array Keyed}{i k:Nat}{y:Keyed}(h:y∈(a.toList.drop i).take k):∃j,∃hj:i+j<a.size,j<k/\y=a[i+j]:=by
 obtain⟨j,hj,e⟩:=xY_.mp h
 rw[List.getElem_take,zZ_]at e
 rw[jB_,xa_]at hj
 exact⟨j,by simp at hj;omega,by omega,by rw[<-e];simp⟩
theorem KD {a:Array Keyed}(sA:a.toList.Pairwise (LeK κ)){i:Nat}(hi:i<a.size):∀y∈a.toList.drop i,LeK κ a[i] y:=fun y hy=>by
 obtain⟨j,hj,aK,rfl⟩:=Eu hy
 exact Xe sA aK hj
theorem Bn_ {a:Array Keyed}{i:Nat}(hi:i<a.size):(a.toList.drop i).take 1=[a[i]]:=by
 rw[q5_ (by simpa using hi)];simp
section
variable {a b out:Array Keyed} {ia ib:Nat}
theorem MI.pushA (h:MI (LeK κ) a.toList b.toList out.toList ia ib)(sA:a.toList.Pairwise (LeK κ))(hi:ia<a.size)(hx:∀y∈b.toList.drop ib,LeK κ a[ia] y):MI (LeK κ) a.toList b.toList (out.push a[ia]).toList (ia+1) ib:=by
 have:=h.ta sA (k:=1) (by simp;omega) (by rw[Bn_ hi];intro x dO y hy;rw[js_.mp dO];exact hx y hy)
 rw[Bn_ hi]at this
 rw[zX_];exact this
theorem MI.pushB (h:MI (LeK κ) a.toList b.toList out.toList ia ib)(sB:b.toList.Pairwise (LeK κ))(hi:ib<b.size)(hx:∀y∈a.toList.drop ia,LeK κ b[ib] y):MI (LeK κ) a.toList b.toList (out.push b[ib]).toList ia (ib+1):=(h.swap.pushA sB hi hx).swap
theorem MI.extA (h:MI (LeK κ) a.toList b.toList out.toList ia ib)(sA:a.toList.Pairwise (LeK κ))  (hk:ia+k<=a.size)(hx:∀j,j<k->∀(hj:ia+j<a.size),∀y∈b.toList.drop ib,LeK κ a[ia+j] y):MI (LeK κ) a.toList b.toList (out++a.extract ia (ia+k)).toList (ia+k) ib:=by
 have:=h.ta sA (k:=k) (by simpa using hk) (fun x dO y hy=>by
  obtain⟨j,hj,gL,rfl⟩:=UO dO
  exact hx j gL hj y hy)
 rw[qT_,GK,show ia+k-ia=k by omega];exact this
theorem MI.extB (h:MI (LeK κ) a.toList b.toList out.toList ia ib)(sB:b.toList.Pairwise (LeK κ))  (hk:ib+k<=b.size)(hx:∀j,j<k->∀(hj:ib+j<b.size),∀y∈a.toList.drop ia,LeK κ b[ib+j] y):MI (LeK κ) a.toList b.toList (out++b.extract ib (ib+k)).toList ia (ib+k):=(h.swap.extA sB hk hx).swap
end
theorem FO   (hi:i<xs.size):KK κ xs i=KE κ xs[i]:=Ys (getElem?_pos xs i hi)
theorem Ab_  (hA:∀x∈a.toList,x∈a₀.toList)  (h:i+n<=a.size):InA a₀ a i n:=fun j hj=>⟨a[i+j],getElem?_pos _ _ (by omega),hA _ (by simp)⟩
theorem Ov    {st:SortSt}  (hO:LtOk kd κ a₀ prog w A E s)(hk:kindOf st=kd)(a7:key∈a₀.toList)(hA:∀x∈a.toList,x∈a₀.toList)(sA:∀i j (hi:i<a.size) (hj:j<a.size),base<=i->i<=j->j<base+n->LeK κ a[i] a[j])(hn:base+n<=a.size)(hh:hint<n)
  (h:∀k,k<=n->(∀i (hi:base+i<a.size),i<k->LeK κ a[base+i] key)->(∀i (hi:base+i<a.size),k<=i->i<n->κ.klt (KE κ key) (KE κ a[base+i]))->Q (some k) st):
  wpS (model prog w) A E s (Dk false key a base n hint) Q st:=by
 refine Qu hO hk a7 (Ab_ hA hn) hh (fun i j aK hj hb=>?_) (fun k iz h1 h2=>h k iz (fun i hi iA=>?_) (fun i hi iA bC=>?_))
 ·simp only[gB,jQ_,qK_,FO (show base+i<a.size by omega),FO (show base+j<a.size by omega),Bool.not_eq_true']at hb ⊢
  exact xd_ (sA _ _ (by omega) (by omega) (by omega) (by omega) (by omega)) hb
 ·have:=h1 i iA
  simp only[gB,jQ_,qK_,FO hi,Bool.not_eq_true']at this
  exact this
 ·have:=h2 i iA bC
  simp only[gB,jQ_,qK_,FO hi,Bool.not_eq_false']at this
  exact this
theorem Ow    {st:SortSt}  (hO:LtOk kd κ a₀ prog w A E s)(hk:kindOf st=kd)(a7:key∈a₀.toList)(hA:∀x∈a.toList,x∈a₀.toList)(sA:∀i j (hi:i<a.size) (hj:j<a.size),base<=i->i<=j->j<base+n->LeK κ a[i] a[j])(hn:base+n<=a.size)(hh:hint<n)
  (h:∀k,k<=n->(∀i (hi:base+i<a.size),i<k->κ.klt (KE κ a[base+i]) (KE κ key))->(∀i (hi:base+i<a.size),k<=i->i<n->LeK κ key a[base+i])->Q (some k) st):
  wpS (model prog w) A E s (Dk true key a base n hint) Q st:=by
 refine Qu hO hk a7 (Ab_ hA hn) hh (fun i j aK hj hb=>?_) (fun k iz h1 h2=>h k iz (fun i hi iA=>?_) (fun i hi iA bC=>?_))
 ·simp only[gB,xK_,FO (show base+i<a.size by omega),FO (show base+j<a.size by omega)]at hb ⊢
  exact KeyOrd.klt_of_kle_of_klt (sA _ _ (by omega) (by omega) (by omega) (by omega) (by omega)) hb
 ·have:=h1 i iA
  simp only[gB,xK_,FO hi]at this
  exact this
 ·have:=h2 i iA bC
  simp only[gB,xK_,FO hi]at this
  exact this
theorem Ox {a:Array Keyed}(sA:a.toList.Pairwise (LeK κ))(base n:Nat):∀i j (hi:i<a.size) (hj:j<a.size),base<=i->i<=j->j<base+n->LeK κ a[i] a[j]:=fun _ _ _ hj _ aK _=>Xe sA aK hj
structure MP (a₀:Array Keyed)(κ:KeyKind)(a b:Array Keyed):Prop where
 hA:∀x∈a.toList,x∈a₀.toList
 hB:∀x∈b.toList,x∈a₀.toList
 sA:a.toList.Pairwise (LeK κ)
 sB:b.toList.Pairwise (LeK κ)
 ha:1<=a.size
 hb:1<=b.size
 hf:∀y∈a.toList,LeK κ b[0] y
 hl:∀x∈b.toList,LeK κ x a[a.size-1]
section
variable {a b:Array Keyed}
theorem MP.done (M:MP a₀ κ a b)   (h:MI (LeK κ) a.toList b.toList out.toList ia ib)(he:a.size<=ia\/b.size<=ib):Mgd (LeK κ) a.toList b.toList (Fm a b out ia ib).toList:=by
 rw[UM];exact h.done M.sA M.sB (by simpa using he)
theorem MP.last (M:MP a₀ κ a b)   (h:MI (LeK κ) a.toList b.toList out.toList ia ib)(he:ia+1=a.size):Mgd (LeK κ) a.toList b.toList (La a b out ia ib).toList:=by
 rw[UN]
 refine h.last M.sA M.sB (fun x hx y hy=>?_)
 obtain⟨j,hj,aK,rfl⟩:=Eu hy
 have e:j=a.size-1:=by omega
 subst e
 exact M.hl x hx
def MJ (κ:KeyKind)(a b:Array Keyed)(out:Array Keyed)(ia ib p:Nat):Prop:=MI (LeK κ) a.toList b.toList out.toList ia ib/\ia+1<a.size/\ib<b.size/\p<=ia+ib
theorem DD_ (hO:LtOk kd κ a₀ prog w A E s)(M:MP a₀ κ a b){st:SortSt}(hk:kindOf st=kd)   (h1:c.1=none)(hJ:MJ κ a b c.2.1 c.2.2.1 c.2.2.2.1 p)
  (h:∀d:G6,d.1=none->MJ κ a b d.2.1 d.2.2.1 d.2.2.2.1 (p+1)->Q (.yield d) st/\Q (.done d) st) (hd:∀(d:G6) x,d.1=some x->Mgd (LeK κ) a.toList b.toList x.toList->Q (.done d) st):
  wpS (model prog w) A E s (P1 a b mg c) Q st:=by
 obtain⟨c0,out,ia,ib,ac,bc⟩:=c
 obtain⟨hM,h2,h3,h4⟩:=hJ
 dsimp only at *
 unfold P1
 dsimp only
 refine jy_ (B0 h3 (jy_ (B0 (show ia<a.size by omega) (jy_ (hO _ _ _ _ (M.hB _ (by simp)) (M.hA _ (by simp)) hk ?_)))))
 cases e:κ.blt (KE κ b[ib]) (KE κ a[ia]) with
 |true=>
  dsimp only
  rw[if_pos rfl]
  have bt:=hM.pushB M.sB h3 (fun y hy=>LeK.trans (qr_ e) (KD M.sA (by omega) y hy))
  refine jy_ (B0 h3 ?_)
  by_cases hq:ib+1=b.size
  ·rw[if_pos (by simpa using hq)]
   exact jF_ (hd _ _ rfl (M.done bt (.inr (by omega))))
  ·rw[if_neg (by simpa using hq)]
   have hh:=h (none,out.push b[ib],ia,ib+1,0,bc+1) rfl (show MJ κ a b (out.push b[ib]) ia (ib+1) (p+1) from ⟨bt,h2,by omega,by omega⟩)
   split
   ·exact jF_ hh.2
   ·exact jF_ hh.1
 |false=>
  dsimp only
  rw[if_neg (by simp)]
  have bt:=hM.pushA M.sA (show ia<a.size by omega) (fun y hy=>LeK.trans e (KD M.sB h3 y hy))
  refine jy_ (B0 (show ia<a.size by omega) ?_)
  by_cases hq:ia+1+1=a.size
  ·rw[if_pos (by simpa using hq)]
   exact jF_ (hd _ _ rfl (M.last bt hq))
  ·rw[if_neg (by simpa using hq)]
   have hh:=h (none,out.push a[ia],ia+1,ib,ac+1,0) rfl (show MJ κ a b (out.push a[ia]) (ia+1) ib (p+1) from ⟨bt,by omega,h3,by omega⟩)
   split
   ·exact jF_ hh.2
   ·exact jF_ hh.1
theorem CV_ (M:MP a₀ κ a b){st:SortSt}   (hM:MI (LeK κ) a.toList b.toList out.toList ia ib)(h2:ia+1<a.size)(h3:ib<b.size)(h4:p<=ia+ib)(hle:∀y∈b.toList.drop ib,LeK κ a[ia] y)
  (h:∀d:G7,d.1=none->MJ κ a b d.2.1 d.2.2.1 d.2.2.2.1 p->Q (.yield d) st/\Q (.done d) st) (hd:∀(d:G7) x,d.1=some x->Mgd (LeK κ) a.toList b.toList x.toList->Q (.done d) st):
  wpS (model prog w) A E s (PC a b out ia ib mg ac bc) Q st:=by
 unfold PC
 refine jy_ (B0 (show ia<a.size by omega) ?_)
 have bt:=hM.pushA M.sA (show ia<a.size by omega) hle
 by_cases hq:ia+1+1=a.size
 ·rw[if_pos (by simpa using hq)]
  exact jF_ (hd _ _ rfl (M.last bt hq))
 ·rw[if_neg (by simpa using hq)]
  have hh:=h (none,out.push a[ia],ia+1,ib,mg,ac,bc) rfl (show MJ κ a b (out.push a[ia]) (ia+1) ib p from ⟨bt,by omega,h3,by omega⟩)
  split
  ·exact jF_ hh.2
  ·exact jF_ hh.1
theorem CW_ (hO:LtOk kd κ a₀ prog w A E s)(M:MP a₀ κ a b){st:SortSt}(hk:kindOf st=kd)   (hM:MI (LeK κ) a.toList b.toList out.toList ia ib)(h2:ia+1<a.size)(h3:ib<b.size)(h4:p<=ia+ib)(hle:∀y∈a.toList.drop ia,LeK κ b[ib] y)
  (h:∀d:G7,d.1=none->MJ κ a b d.2.1 d.2.2.1 d.2.2.2.1 p->Q (.yield d) st/\Q (.done d) st) (hd:∀(d:G7) x,d.1=some x->Mgd (LeK κ) a.toList b.toList x.toList->Q (.done d) st):
  wpS (model prog w) A E s (PB a b out ia ib mg ac bc) Q st:=by
 unfold PB
 refine jy_ (B0 h3 ?_)
 have bt:=hM.pushB M.sB h3 hle
 by_cases hq:ib+1=b.size
 ·rw[if_pos (by simpa using hq)]
  exact jF_ (hd _ _ rfl (M.done bt (.inr (by omega))))
 ·rw[if_neg (by simpa using hq)]
  refine jy_ (B0 (show ia<a.size by omega) (jy_ (Ow hO hk (M.hA _ (by simp)) M.hB (Ox M.sB _ _) (by omega) (by omega) (fun k iz g1 g2=>?_))))
  dsimp only
  have fe:∀y∈b.toList.drop (ib+1+k),LeK κ a[ia] y:=fun y hy=>by
   obtain⟨j,hj,aK,rfl⟩:=Eu hy
   have:=g2 (j-(ib+1)) (by omega) (by omega) (by omega)
   have e:ib+1+(j-(ib+1))=j:=by omega
   simp only[e]at this
   exact this
  by_cases cN:k > 0
  ·rw[if_pos cN]
   have dU:=bt.extB M.sB (k:=k) (by omega) (fun j hj bK y hy=>LeK.trans (qr_ (g1 j bK hj)) (KD M.sA (by omega) y hy))
   by_cases dR:ib+1+k=b.size
   ·rw[if_pos (by simpa using dR)]
    exact jF_ (hd _ _ rfl (M.done dU (.inr (by omega))))
   ·rw[if_neg (by simpa using dR)]
    exact CV_ M dU h2 (by omega) (by omega) fe h hd
  ·rw[if_neg cN]
   have e:k=0:=by omega
   subst e
   exact CV_ M bt h2 (by omega) (by omega) fe h hd
theorem SG.trans {st ab au:SortSt}(h:SG st ab)(g:SG ab au):SG st au:=⟨g.kd.trans h.kd,g.arr.trans h.arr,g.pe.trans h.pe,g.fa.trans h.fa⟩
theorem Oy  {st:SortSt}  (h:Q () (F2 st g)):wpS (model prog w) A E s (Ba g) Q st:=by
 rw[JK];exact zC_ h
theorem CX_ (hO:LtOk kd κ a₀ prog w A E s)(M:MP a₀ κ a b){st:SortSt}(hk:kindOf st=kd)   (hJ:MJ κ a b out ia ib p)
  (h:∀(d:G7) ab,SG st ab->d.1=none->MJ κ a b d.2.1 d.2.2.1 d.2.2.2.1 p->Q (.yield d) ab/\Q (.done d) ab) (hd:∀(d:G7) x ab,SG st ab->d.1=some x->Mgd (LeK κ) a.toList b.toList x.toList->Q (.done d) ab):
  wpS (model prog w) A E s (PA a b out ia ib mg ac bc) Q st:=by
 obtain⟨hM,h2,h3,h4⟩:=hJ
 unfold PA
 refine jy_ (Oy ?_)
 have hG:SG st (F2 st mg):=(SG.refl st).set mg
 refine jy_ (B0 h3 (jy_ (Ov hO (hG.kd.trans hk) (M.hB _ (by simp)) M.hA (Ox M.sA _ _) (by omega) (by omega) (fun k iz g1 g2=>?_))))
 dsimp only
 have hle:∀y∈a.toList.drop (ia+k),LeK κ b[ib] y:=fun y hy=>by
  obtain⟨j,hj,aK,rfl⟩:=Eu hy
  have:=g2 (j-ia) (by omega) (by omega) (by omega)
  have e:ia+(j-ia)=j:=by omega
  simp only[e]at this
  exact qr_ this
 by_cases cN:k > 0
 ·rw[if_pos cN]
  have dU:=hM.extA M.sA (k:=k) (by omega) (fun j hj bK y hy=>LeK.trans (g1 j bK hj) (KD M.sB h3 y hy))
  by_cases hq:ia+k+1=a.size
  ·rw[if_pos (by simpa using hq)]
   exact jF_ (hd _ _ _ hG rfl (M.last dU hq))
  ·rw[if_neg (by simpa using hq)]
   by_cases dR:ia+k=a.size
   ·rw[if_pos (by simpa using dR)]
    exact jF_ (hd _ _ _ hG rfl (M.done dU (.inl (by omega))))
   ·rw[if_neg (by simpa using dR)]
    exact CW_ hO M (hG.kd.trans hk) dU (by omega) h3 (by omega) hle (fun d=>h d _ hG) (fun d x=>hd d x _ hG)
 ·rw[if_neg cN]
  have e:k=0:=by omega
  subst e
  exact CW_ hO M (hG.kd.trans hk) hM h2 h3 h4 hle (fun d=>h d _ hG) (fun d x=>hd d x _ hG)
theorem DE_ (hO:LtOk kd κ a₀ prog w A E s)(M:MP a₀ κ a b){st:SortSt}(hk:kindOf st=kd)   (hJ:MJ κ a b c.2.1 c.2.2.1 c.2.2.2.1 p)
  (h:∀(d:G7) ab,SG st ab->d.1=none->MJ κ a b d.2.1 d.2.2.1 d.2.2.2.1 p->Q (.yield d) ab/\Q (.done d) ab) (hd:∀(d:G7) x ab,SG st ab->d.1=some x->Mgd (LeK κ) a.toList b.toList x.toList->Q (.done d) ab):
  wpS (model prog w) A E s (P2 a b c) Q st:=by
 unfold P2
 split
 ·exact CX_ hO M hk hJ h hd
 ·exact CX_ hO M hk hJ h hd
theorem DF_ (hO:LtOk kd κ a₀ prog w A E s)(M:MP a₀ κ a b){st:SortSt}(hk:kindOf st=kd)   (hJ:MJ κ a b c.2.1 c.2.2.1 c.2.2.2.1 p)
  (h:∀(d:G5) ab,SG st ab->d.1=none->MJ κ a b d.2.1 d.2.2.1 d.2.2.2.1 (p+1)->Q (.yield d) ab) (hd:∀(d:G5) x ab,SG st ab->d.1=some x->Mgd (LeK κ) a.toList b.toList x.toList->Q (.done d) ab):
  wpS (model prog w) A E s (PO a b c) Q st:=by
 have cu:1<=a.size+b.size:=by have:=M.ha;omega
 unfold PO
 refine jy_ (xW_ (qI_ (I:=fun x d ab=>ab=st/\d.1=none/\MJ κ a b d.2.1 d.2.2.1 d.2.2.2.1 (p+x))
   (Q:=fun d ab=>ab=st/\((d.1=none/\MJ κ a b d.2.1 d.2.2.1 d.2.2.2.1 (p+1)) \/ ∃x,d.1=some x/\Mgd (LeK κ) a.toList b.toList x.toList)) ?step ?fin ⟨rfl,rfl,hJ⟩) ?post)
 case step=>
  rintro x d ab _ hx ⟨rfl,h1,h2⟩
  refine DD_ hO M hk h1 h2 (fun d' g1 g2=>⟨⟨rfl,g1,g2⟩,rfl,.inl ⟨g1,g2.1,g2.2.1,g2.2.2.1,?_⟩⟩) (fun d' x g1 g2=>⟨rfl,.inr ⟨x,g1,g2⟩⟩)
  have:=g2.2.2.2;omega
 case fin=>
  rintro d ab ⟨rfl,h1,h2⟩
  refine⟨rfl,.inl ⟨h1,h2.1,h2.2.1,h2.2.2.1,?_⟩⟩
  have:=h2.2.2.2;omega
 case post=>
  rintro d ab ⟨rfl,hh⟩
  rcases hh with ⟨h1,h2⟩|⟨x,h1,h2⟩
  ·rw[h1]
   dsimp only
   refine jy_ (IL ?_)
   refine jy_ (xW_ (qI_ (I:=fun x d au=>SG ab au/\d.1=none/\MJ κ a b d.2.1 d.2.2.1 d.2.2.2.1 (p+1))
    (Q:=fun d au=>SG ab au/\((d.1=none/\MJ κ a b d.2.1 d.2.2.1 d.2.2.2.1 (p+1)) \/ ∃x,d.1=some x/\Mgd (LeK κ) a.toList b.toList x.toList)) ?step2 ?fin2 ⟨SG.refl _,rfl,h2⟩) ?post2)
   case step2=>
    rintro x e au _ hx ⟨g0,g1,g2⟩
    exact DE_ hO M (g0.kd.trans hk) g2 (fun d' cK k0 k1 k2=>⟨⟨g0.trans k0,k1,k2⟩,g0.trans k0,.inl ⟨k1,k2⟩⟩) (fun d' x cK k0 k1 k2=>⟨g0.trans k0,.inr ⟨x,k1,k2⟩⟩)
   case fin2=>
    rintro e au ⟨g0,g1,g2⟩
    exact⟨g0,.inl ⟨g1,g2⟩⟩
   case post2=>
    rintro e au ⟨g0,hh⟩
    rcases hh with ⟨g1,g2⟩|⟨x,g1,g2⟩
    ·rw[g1]
     dsimp only
     refine jy_ (Oy (jF_ ?_))
     exact h (none,e.2.1,e.2.2.1,e.2.2.2.1,e.2.2.2.2.1+1) _ (g0.set _) rfl g2
    ·rw[g1]
     dsimp only
     exact jF_ (hd _ x _ g0 rfl g2)
  ·rw[h1]
   dsimp only
   exact jF_ (hd _ x _ (SG.refl _) rfl h2)
theorem UP {st:SortSt}  (hO:LtOk kd κ a₀ prog w A E s)(M:MP a₀ κ a b)(hk:kindOf st=kd)
  (h:∀r ab,SG st ab->Mgd (LeK κ) a.toList b.toList r.toList->Q r ab):wpS (model prog w) A E s (KC a b) Q st:=by
 have ha:=M.ha
 have hb:=M.hb
 rw[Qv]
 refine jy_ (IL (jy_ (B0 hb ?_)))
 have hM:MI (LeK κ) a.toList b.toList (#[b[0]]:Array Keyed).toList 0 1:=MI.pushB (out := #[]) (MI.start _ _) M.sB hb (by simpa using M.hf)
 by_cases h1:1=b.size
 ·rw[if_pos (by simpa using h1)]
  exact jF_ (h _ _ (SG.refl _) (M.done hM (.inr (by omega))))
 ·rw[if_neg (by simpa using h1)]
  by_cases h2:0+1=a.size
  ·rw[if_pos (by simpa using h2)]
   exact jF_ (h _ _ (SG.refl _) (M.last hM h2))
  ·rw[if_neg (by simpa using h2)]
   refine jy_ (wpS_get ?_)
   refine jy_ (xW_ (qI_ (I:=fun x c ab=>SG st ab/\c.1=none/\MJ κ a b c.2.1 c.2.2.1 c.2.2.2.1 (1+x))
    (Q:=fun c ab=>SG st ab/\∃x,c.1=some x/\Mgd (LeK κ) a.toList b.toList x.toList) ?step ?fin ⟨SG.refl _,rfl,show MJ κ a b #[b[0]] 0 1 (1+0) from ⟨hM,by omega,by omega,by omega⟩⟩) ?post)
   case step=>
    rintro x c ab _ hx ⟨g0,g1,g2⟩
    exact DF_ hO M (g0.kd.trans hk) g2 (fun d aJ k0 k1 k2=>⟨g0.trans k0,k1,k2⟩) (fun d x aJ k0 k1 k2=>⟨g0.trans k0,x,k1,k2⟩)
   case fin=>
    rintro c ab ⟨g0,g1,g2⟩
    have:=g2.2.1;have:=g2.2.2.1;have:=g2.2.2.2
    omega
   case post=>
    rintro c ab ⟨g0,x,g1,g2⟩
    rw[g1]
    dsimp only
    exact jF_ (h x ab g0 g2)
end
end
end S64
namespace S64
open PySem PyProof.Rows
def KG:Array Keyed->Array Keyed->StateT SortSt Sem (Array Keyed):=sortPriv% PySem.Builtin.mergeHi
def doneH (a b out:Array Keyed)(na nb:Nat):Array Keyed:=a.extract 0 na++b.extract 0 nb++out.reverse
def firstB (a b out:Array Keyed)(na nb:Nat):Array Keyed:=b.extract 0 nb++a.extract 0 na++out.reverse
theorem R0 (a b:Array Keyed):KG a b=(do
 rule "list.sort.merge-hi"
 let mut na:=a.size-1
 let mut nb:=b.size
 let mut out:Array Keyed := #[<-elem' a na]
 if na==0 then return doneH a b out na nb
 if nb==1 then return firstB a b out na nb
 let mut minGallop:=gallopOf ( <- get)
 for _ in [0:a.size+b.size] do
  let mut acount:=0
  let mut bcount:=0
  for _ in [0:a.size+b.size] do
   let some ff <- lt' ( <- elem' b (nb-1)) ( <- elem' a (na-1))|return doneH a b out na nb
   if ff then
    na:=na-1;out:=out.push ( <- elem' a na);acount:=acount+1;bcount:=0
    if na==0 then return doneH a b out na nb
    if acount >= minGallop then break
   else
    nb:=nb-1;out:=out.push ( <- elem' b nb);bcount:=bcount+1;acount:=0
    if nb==1 then return firstB a b out na nb
    if bcount >= minGallop then break
  rule "list.sort.gallop"
  minGallop:=minGallop+1
  for _ in [0:a.size+b.size] do
   if minGallop > 1 then minGallop:=minGallop-1
   Ba minGallop
   let some at_ <- Dk false ( <- elem' b (nb-1)) a 0 na (na-1)|return doneH a b out na nb
   let k:=na-at_
   acount:=k
   if k > 0 then
    out:=out++(a.extract at_ na).reverse;na:=at_
    if na==0 then return doneH a b out na nb
   nb:=nb-1;out:=out.push ( <- elem' b nb)
   if nb==1 then return firstB a b out na nb
   let some at_ <- Dk true ( <- elem' a (na-1)) b 0 nb (nb-1)|return doneH a b out na nb
   let k:=nb-at_
   bcount:=k
   if k > 0 then
    out:=out++(b.extract at_ nb).reverse;nb:=at_
    if nb==1 then return firstB a b out na nb
    if nb==0 then return doneH a b out na nb
   na:=na-1;out:=out.push ( <- elem' a na)
   if na==0 then return doneH a b out na nb
   if acount<7&&bcount<7 then break
  minGallop:=minGallop+1
  Ba minGallop
 unsupported "internal:list.sort.merge-bound"):=rfl
abbrev H5:=Option (Array Keyed)×Nat×Nat×Array Keyed×Nat
abbrev H6:=Option (Array Keyed)×Nat×Nat×Array Keyed×Nat×Nat
abbrev H7:=Option (Array Keyed)×Nat×Nat×Array Keyed×Nat×Nat×Nat
def HC (a b out:Array Keyed)(na nb mg ac bc:Nat):StateT SortSt Sem (ForInStep H7):=do
 let y <- elem' a (na-1)
 if (na-1==0)=true then pure (.done (some (doneH a b (out.push y) (na-1) nb),na-1,nb,out.push y,mg,ac,bc))
 else if (decide (ac<7)&&decide (bc<7))=true then pure (.done (none,na-1,nb,out.push y,mg,ac,bc)) else pure (.yield (none,na-1,nb,out.push y,mg,ac,bc))
def HB (a b out:Array Keyed)(na nb mg ac bc:Nat):StateT SortSt Sem (ForInStep H7):=do
 let y <- elem' b (nb-1)
 if (nb-1==1)=true then pure (.done (some (firstB a b (out.push y) na (nb-1)),na,nb-1,out.push y,mg,ac,bc))
 else do
  let z <- elem' a (na-1)
  let x <- Dk true z b 0 (nb-1) (nb-1-1)
  match x with
  |some t=>if nb-1-t > 0 then (if (t==1)=true then pure (.done (some (firstB a b (out.push y++(b.extract t (nb-1)).reverse) na t),na,t,out.push y++(b.extract t (nb-1)).reverse,mg,ac,nb-1-t)) else if (t==0)=true then pure (.done (some (doneH a b (out.push y++(b.extract t (nb-1)).reverse) na t),na,t,out.push y++(b.extract t (nb-1)).reverse,mg,ac,nb-1-t)) else HC a b (out.push y++(b.extract t (nb-1)).reverse) na t mg ac (nb-1-t)) else HC a b (out.push y) na (nb-1) mg ac (nb-1-t)
  |_=>pure (.done (some (doneH a b (out.push y) na (nb-1)),na,nb-1,out.push y,mg,ac,bc))
def HA (a b out:Array Keyed)(na nb mg ac bc:Nat):StateT SortSt Sem (ForInStep H7):=do
 Ba mg
 let y <- elem' b (nb-1)
 let x <- Dk false y a 0 na (na-1)
 match x with
 |some t=>if na-t > 0 then (if (t==0)=true then pure (.done (some (doneH a b (out++(a.extract t na).reverse) t nb),t,nb,out++(a.extract t na).reverse,mg,na-t,bc)) else HB a b (out++(a.extract t na).reverse) t nb mg (na-t) bc) else HB a b out na nb mg (na-t) bc
 |_=>pure (.done (some (doneH a b out na nb),na,nb,out,mg,ac,bc))
def H1 (a b:Array Keyed)(mg:Nat)(c:H6):StateT SortSt Sem (ForInStep H6):=do
 let y <- elem' b (c.2.2.1-1)
 let z <- elem' a (c.2.1-1)
 let x <- lt' y z
 match x with
 |some ff=>
  if ff=true then
   elem' a (c.2.1-1) >>= fun y=>
   if (c.2.1-1==0)=true then pure (.done (some (doneH a b (c.2.2.2.1.push y) (c.2.1-1) c.2.2.1),c.2.1-1,c.2.2.1,c.2.2.2.1.push y,c.2.2.2.2.1+1,0))
   else if c.2.2.2.2.1+1 >= mg then pure (.done (none,c.2.1-1,c.2.2.1,c.2.2.2.1.push y,c.2.2.2.2.1+1,0)) else pure (.yield (none,c.2.1-1,c.2.2.1,c.2.2.2.1.push y,c.2.2.2.2.1+1,0))
  else
   elem' b (c.2.2.1-1) >>= fun y=>
   if (c.2.2.1-1==1)=true then pure (.done (some (firstB a b (c.2.2.2.1.push y) c.2.1 (c.2.2.1-1)),c.2.1,c.2.2.1-1,c.2.2.2.1.push y,0,c.2.2.2.2.2+1))
   else if c.2.2.2.2.2+1 >= mg then pure (.done (none,c.2.1,c.2.2.1-1,c.2.2.2.1.push y,0,c.2.2.2.2.2+1)) else pure (.yield (none,c.2.1,c.2.2.1-1,c.2.2.2.1.push y,0,c.2.2.2.2.2+1))
 |_=>pure (.done (some (doneH a b c.2.2.2.1 c.2.1 c.2.2.1),c.2.1,c.2.2.1,c.2.2.2.1,c.2.2.2.2.1,c.2.2.2.2.2))
def H2 (a b:Array Keyed)(c:H7):StateT SortSt Sem (ForInStep H7):=if c.2.2.2.2.1 > 1 then HA a b c.2.2.2.1 c.2.1 c.2.2.1 (c.2.2.2.2.1-1) c.2.2.2.2.2.1 c.2.2.2.2.2.2 else HA a b c.2.2.2.1 c.2.1 c.2.2.1 c.2.2.2.2.1 c.2.2.2.2.2.1 c.2.2.2.2.2.2
def HO (a b:Array Keyed)(c:H5):StateT SortSt Sem (ForInStep H5):=do
 let d <- forIn [0:a.size+b.size] ((none,c.2.1,c.2.2.1,c.2.2.2.1,0,0):H6) fun _ d=>H1 a b c.2.2.2.2 d
 match d.1 with
 |some r=>pure (.done (some r,d.2.1,d.2.2.1,d.2.2.2.1,c.2.2.2.2))
 |none=>do
  liftM (rule "list.sort.gallop")
  let e <- forIn [0:a.size+b.size] ((none,d.2.1,d.2.2.1,d.2.2.2.1,c.2.2.2.2+1,d.2.2.2.2.1,d.2.2.2.2.2):H7) fun _ e=>H2 a b e
  match e.1 with
  |some r=>pure (.done (some r,e.2.1,e.2.2.1,e.2.2.2.1,e.2.2.2.2.1))
  |none=>do
   Ba (e.2.2.2.2.1+1)
   pure (.yield (none,e.2.1,e.2.2.1,e.2.2.2.1,e.2.2.2.2.1+1))
theorem Qw (a b:Array Keyed):KG a b=(do
 liftM (rule "list.sort.merge-hi")
 let y <- elem' a (a.size-1)
 if (a.size-1==0)=true then pure (doneH a b #[y] (a.size-1) b.size)
 else if (b.size==1)=true then pure (firstB a b #[y] (a.size-1) b.size)
 else do
  let g <- get
  let c <- forIn [0:a.size+b.size] ((none,a.size-1,b.size,#[y],gallopOf g):H5) fun _ c=>HO a b c
  match c.1 with
  |some r=>pure r
  |none=>unsupported "internal:list.sort.merge-bound"):=by
 rw[R0]
 refine jG_ (bind _) (funext fun _=>jG_ (bind _) (funext fun y=>?_))
 refine jG_ (ite _ _) (jG_ (ite _ _) (jG_ (bind _) (funext fun g=>?_)))
 refine congr (jG_ bind (jG_ (forIn _ _) (funext fun _=>funext fun c=>?_))) (funext fun c=>?_)
 ·unfold HO
  dsimp only
  refine congr (jG_ bind (jG_ (forIn _ _) (funext fun _=>funext fun d=>?_))) (funext fun d=>?_)
  ·unfold H1
   rfl
  ·cases d.1 with
   |some r=>rfl
   |none=>
    dsimp only
    refine jG_ (bind _) (funext fun _=>congr (jG_ bind (jG_ (forIn _ _) (funext fun _=>funext fun e=>?_))) (funext fun e=>?_))
    ·unfold H2 HA HB HC
     rfl
    ·cases e.1 with
     |some r=>rfl
     |none=>rfl
 ·cases c.1 with
  |some r=>rfl
  |none=>rfl
section
variable {α:Type} {R:α->α->Prop} {A B:List α}
theorem Lb (A:List α)  (h:n<=A.length):A.reverse.drop (A.length-n)=(A.take n).reverse:=by
 rw[List.drop_reverse,show A.length-(A.length-n)=n by omega]
theorem Xf (A:List α)  (h:n<=A.length)(ht:t<=n):(A.reverse.drop (A.length-n)).take (n-t)=((A.take n).drop t).reverse:=by
 rw[Lb A h,List.take_reverse,jB_,show min n A.length-(n-t)=t by omega]
theorem Mgd.rev  (h:Mgd (fun x y=>R y x) B.reverse A.reverse r.reverse):Mgd R A B r:=by
 refine⟨?_,q8_.mp h.2⟩
 have:=h.1
 rw[<-q3_]at this
 exact ((List.reverse_perm r).symm.trans this).trans (List.reverse_perm _)
end
section
variable {prog:Program} {w:World} {A:Around} {E:Value->Shared->Prop} {s:Shared} {a₀:Array Keyed} {κ:KeyKind} {kd:SortKind} {a b out:Array Keyed} {na nb:Nat}
structure MH (κ:KeyKind)(a b out:Array Keyed)(na nb:Nat):Prop where
 ha:na<=a.size
 hb:nb<=b.size
 mi:MI (fun x y=>LeK κ y x) a.toList.reverse b.toList.reverse out.toList (a.toList.length-na) (b.toList.length-nb)
theorem MH.swap (h:MH κ a b out na nb):MH κ b a out nb na:=⟨h.hb,h.ha,h.mi.swap⟩
theorem Xg   (h:x∈(a.toList.take na).drop t):∃j,∃hj:j<a.size,t<=j/\j<na/\x=a[j]:=by
 obtain⟨k,hk,e⟩:=xY_.mp h
 rw[zZ_,List.getElem_take]at e
 rw[xa_,jB_]at hk
 exact⟨t+k,by simp at hk;omega,by omega,by omega,by rw[<-e];simp⟩
theorem TN  (h:x∈a.toList.take na):∃j,∃hj:j<a.size,j<na/\x=a[j]:=by
 obtain⟨j,hj,_,h2,e⟩:=Xg (t:=0) (by simpa using h)
 exact⟨j,hj,h2,e⟩
theorem MH.extA (h:MH κ a b out na nb)(sA:a.toList.Pairwise (LeK κ))  (ht:t<=na)(hx:∀j (hj:j<a.size),t<=j->j<na->∀y∈b.toList.take nb,LeK κ y a[j]):MH κ a b (out++(a.extract t na).reverse) t nb:=by
 have hna:=h.ha
 have hl:a.toList.length=a.size:=j3_
 have:=h.mi.ta (q8_.mpr sA) (k:=na-t) (by rw[xM_];omega) (by
  rw[Xf _ (by omega) ht,Lb _ (by have:=h.hb;simpa using this)]
  intro x dO y hy
  obtain⟨j,hj,h1,h2,rfl⟩:=Xg (q2_.mp dO)
  exact hx j hj h1 h2 y (q2_.mp hy))
 rw[Xf _ (by omega) ht,show a.toList.length-na+(na-t)=a.toList.length-t by omega]at this
 refine⟨by omega,h.hb,?_⟩
 rw[qT_,xZ_,GK,show (List.drop t a.toList).take (na-t)=(a.toList.take na).drop t by rw[List.drop_take]]
 exact this
theorem MH.extB (h:MH κ a b out na nb)(sB:b.toList.Pairwise (LeK κ))  (ht:t<=nb)(hx:∀j (hj:j<b.size),t<=j->j<nb->∀y∈a.toList.take na,LeK κ y b[j]):MH κ a b (out++(b.extract t nb).reverse) na t:=(h.swap.extA sB ht hx).swap
theorem MH.pushA (h:MH κ a b out na nb)(sA:a.toList.Pairwise (LeK κ))(h1:1<=na)(hi:na-1<a.size)(hx:∀y∈b.toList.take nb,LeK κ y a[na-1]):MH κ a b (out.push a[na-1]) (na-1) nb:=by
 have hna:=h.ha
 have:=h.extA sA (t:=na-1) (by omega) (fun j hj g1 g2 y hy=>by (have e:j=na-1:=by omega);subst e;exact hx y hy)
 have e:(a.extract (na-1) na).reverse = #[a[na-1]]:=by
  apply Array.ext'
  rw[xZ_,GK,show na-(na-1)=1 by omega,Bn_ hi];rfl
 rw[e]at this
 simpa using this
theorem MH.pushB (h:MH κ a b out na nb)(sB:b.toList.Pairwise (LeK κ))(h1:1<=nb)(hi:nb-1<b.size)(hx:∀y∈a.toList.take na,LeK κ y b[nb-1]):MH κ a b (out.push b[nb-1]) na (nb-1):=(h.swap.pushA sB h1 hi hx).swap
theorem CY_ (a:Array Keyed)(n:Nat):(a.extract 0 n).toList=a.toList.take n:=by rw[GK];simp
theorem MP.doneH (M:MP a₀ κ a b)(h:MH κ a b out na nb)(he:na=0\/nb=0):Mgd (LeK κ) a.toList b.toList (doneH a b out na nb).toList:=by
 apply Mgd.rev
 have hA:=h.ha
 have hB:=h.hb
 have:=h.mi.swap.done (q8_.mpr M.sB) (q8_.mpr M.sA) (by simp only[xM_];simp only[j3_];omega)
 rw[Lb _ (by simpa using hB),Lb _ (by simpa using hA)]at this
 have e:(S64.doneH a b out na nb).toList.reverse=out.toList++(b.toList.take nb).reverse++(a.toList.take na).reverse:=by
  unfold S64.doneH
  simp only[qT_,CY_,xZ_,q3_,q0_,qi_]
 rw[e];exact this
theorem MP.firstB (M:MP a₀ κ a b)(h:MH κ a b out na nb)(he:nb=1):Mgd (LeK κ) a.toList b.toList (firstB a b out na nb).toList:=by
 apply Mgd.rev
 have hA:=h.ha
 have hB:=h.hb
 have:=h.mi.swap.last (q8_.mpr M.sB) (q8_.mpr M.sA) (by
  rw[Lb _ (by simpa using hB)]
  intro x hx y hy
  obtain⟨j,hj,h2,rfl⟩:=TN (q2_.mp hy)
  have e:j=0:=by omega
  subst e
  exact M.hf x (q2_.mp hx))
 rw[Lb _ (by simpa using hA),Lb _ (by simpa using hB)]at this
 have e:(S64.firstB a b out na nb).toList.reverse=out.toList++(a.toList.take na).reverse++(b.toList.take nb).reverse:=by
  unfold S64.firstB
  simp only[qT_,CY_,xZ_,q3_,q0_,qi_]
 rw[e];exact this
theorem KH (sA:a.toList.Pairwise (LeK κ))(hi:na-1<a.size):∀y∈a.toList.take na,LeK κ y a[na-1]:=fun y hy=>by
 obtain⟨j,hj,h2,rfl⟩:=TN hy
 exact Xe sA (by omega) hi
def MHJ (κ:KeyKind)(a b out:Array Keyed)(na nb p:Nat):Prop:=MH κ a b out na nb/\1<=na/\2<=nb/\na+nb+p<=a.size+b.size
theorem DG_ (hO:LtOk kd κ a₀ prog w A E s)(M:MP a₀ κ a b){st:SortSt}(hk:kindOf st=kd)   (h1:c.1=none)(hJ:MHJ κ a b c.2.2.2.1 c.2.1 c.2.2.1 p)
  (h:∀d:H6,d.1=none->MHJ κ a b d.2.2.2.1 d.2.1 d.2.2.1 (p+1)->Q (.yield d) st/\Q (.done d) st) (hd:∀(d:H6) x,d.1=some x->Mgd (LeK κ) a.toList b.toList x.toList->Q (.done d) st):
  wpS (model prog w) A E s (H1 a b mg c) Q st:=by
 obtain⟨c0,na,nb,out,ac,bc⟩:=c
 obtain⟨hM,h2,h3,h4⟩:=hJ
 dsimp only at *
 have hA:=hM.ha
 have hB:=hM.hb
 unfold H1
 dsimp only
 refine jy_ (B0 (show nb-1<b.size by omega) (jy_ (B0 (show na-1<a.size by omega) (jy_ (hO _ _ _ _ (M.hB _ (by simp)) (M.hA _ (by simp)) hk ?_)))))
 cases e:κ.blt (KE κ b[nb-1]) (KE κ a[na-1]) with
 |true=>
  dsimp only
  rw[if_pos rfl]
  have bt:=hM.pushA M.sA h2 (by omega) (fun y hy=>LeK.trans (KH M.sB (by omega) y hy) (qr_ e))
  refine jy_ (B0 (show na-1<a.size by omega) ?_)
  by_cases hq:na-1=0
  ·rw[if_pos (by simpa using hq)]
   exact jF_ (hd _ _ rfl (M.doneH bt (.inl hq)))
  ·rw[if_neg (by simpa using hq)]
   have hh:=h (none,na-1,nb,out.push a[na-1],ac+1,0) rfl (show MHJ κ a b (out.push a[na-1]) (na-1) nb (p+1) from ⟨bt,by omega,h3,by omega⟩)
   split
   ·exact jF_ hh.2
   ·exact jF_ hh.1
 |false=>
  dsimp only
  rw[if_neg (by simp)]
  have bt:=hM.pushB M.sB (by omega) (by omega) (fun y hy=>LeK.trans (KH M.sA (by omega) y hy) e)
  refine jy_ (B0 (show nb-1<b.size by omega) ?_)
  by_cases hq:nb-1=1
  ·rw[if_pos (by simpa using hq)]
   exact jF_ (hd _ _ rfl (M.firstB bt hq))
  ·rw[if_neg (by simpa using hq)]
   have hh:=h (none,na,nb-1,out.push b[nb-1],0,bc+1) rfl (show MHJ κ a b (out.push b[nb-1]) na (nb-1) (p+1) from ⟨bt,h2,by omega,by omega⟩)
   split
   ·exact jF_ hh.2
   ·exact jF_ hh.1
theorem CZ_ (M:MP a₀ κ a b){st:SortSt}  (hM:MH κ a b out na nb)(h2:1<=na)(h3:2<=nb)(h4:na+nb+p<=a.size+b.size)(hi:na-1<a.size)(hle:∀y∈b.toList.take nb,LeK κ y a[na-1])
  (h:∀d:H7,d.1=none->MHJ κ a b d.2.2.2.1 d.2.1 d.2.2.1 p->Q (.yield d) st/\Q (.done d) st) (hd:∀(d:H7) x,d.1=some x->Mgd (LeK κ) a.toList b.toList x.toList->Q (.done d) st):
  wpS (model prog w) A E s (HC a b out na nb mg ac bc) Q st:=by
 unfold HC
 refine jy_ (B0 hi ?_)
 have bt:=hM.pushA M.sA h2 hi hle
 by_cases hq:na-1=0
 ·rw[if_pos (by simpa using hq)]
  exact jF_ (hd _ _ rfl (M.doneH bt (.inl hq)))
 ·rw[if_neg (by simpa using hq)]
  have hh:=h (none,na-1,nb,out.push a[na-1],mg,ac,bc) rfl (show MHJ κ a b (out.push a[na-1]) (na-1) nb p from ⟨bt,by omega,h3,by omega⟩)
  split
  ·exact jF_ hh.2
  ·exact jF_ hh.1
theorem Da_ (hO:LtOk kd κ a₀ prog w A E s)(M:MP a₀ κ a b){st:SortSt}(hk:kindOf st=kd)  (hM:MH κ a b out na nb)(h2:1<=na)(h3:2<=nb)(h4:na+nb+p<=a.size+b.size)(hi:nb-1<b.size)(hle:∀y∈a.toList.take na,LeK κ y b[nb-1])
  (h:∀d:H7,d.1=none->MHJ κ a b d.2.2.2.1 d.2.1 d.2.2.1 p->Q (.yield d) st/\Q (.done d) st) (hd:∀(d:H7) x,d.1=some x->Mgd (LeK κ) a.toList b.toList x.toList->Q (.done d) st):
  wpS (model prog w) A E s (HB a b out na nb mg ac bc) Q st:=by
 unfold HB
 have hA:=hM.ha
 have hB:=hM.hb
 refine jy_ (B0 hi ?_)
 have bt:=hM.pushB M.sB (by omega) hi hle
 by_cases hq:nb-1=1
 ·rw[if_pos (by simpa using hq)]
  exact jF_ (hd _ _ rfl (M.firstB bt hq))
 ·rw[if_neg (by simpa using hq)]
  refine jy_ (B0 (show na-1<a.size by omega) (jy_ (Ow hO hk (M.hA _ (by simp)) M.hB (Ox M.sB _ _) (by omega) (by omega) (fun t kg g1 g2=>?_))))
  dsimp only
  have fe:∀y∈b.toList.take t,LeK κ y a[na-1]:=fun y hy=>by
   obtain⟨j,hj,aK,rfl⟩:=TN hy
   have:=g1 j (by omega) aK
   simp only[zr_]at this
   exact qr_ this
  by_cases cN:nb-1-t > 0
  ·rw[if_pos cN]
   have dU:=bt.extB M.sB (t:=t) (by omega) (fun j hj mO mP y hy=>by
    have:=g2 j (by omega) mO mP
    simp only[zr_]at this
    exact LeK.trans (KH M.sA (by omega) y hy) this)
   by_cases dR:t=1
   ·rw[if_pos (by simpa using dR)]
    exact jF_ (hd _ _ rfl (M.firstB dU dR))
   ·rw[if_neg (by simpa using dR)]
    by_cases mQ:t=0
    ·rw[if_pos (by simpa using mQ)]
     exact jF_ (hd _ _ rfl (M.doneH dU (.inr mQ)))
    ·rw[if_neg (by simpa using mQ)]
     exact CZ_ M dU h2 (by omega) (by omega) (by omega) fe h hd
  ·rw[if_neg cN]
   have e:t=nb-1:=by omega
   subst e
   exact CZ_ M bt h2 (by omega) (by omega) (by omega) fe h hd
theorem Db_ (hO:LtOk kd κ a₀ prog w A E s)(M:MP a₀ κ a b){st:SortSt}(hk:kindOf st=kd)  (hJ:MHJ κ a b out na nb p)
  (h:∀(d:H7) ab,SG st ab->d.1=none->MHJ κ a b d.2.2.2.1 d.2.1 d.2.2.1 p->Q (.yield d) ab/\Q (.done d) ab) (hd:∀(d:H7) x ab,SG st ab->d.1=some x->Mgd (LeK κ) a.toList b.toList x.toList->Q (.done d) ab):
  wpS (model prog w) A E s (HA a b out na nb mg ac bc) Q st:=by
 obtain⟨hM,h2,h3,h4⟩:=hJ
 have hA:=hM.ha
 have hB:=hM.hb
 unfold HA
 refine jy_ (Oy ?_)
 have hG:SG st (F2 st mg):=(SG.refl st).set mg
 refine jy_ (B0 (show nb-1<b.size by omega) (jy_ (Ov hO (hG.kd.trans hk) (M.hB _ (by simp)) M.hA (Ox M.sA _ _) (by omega) (by omega) (fun t kg g1 g2=>?_))))
 dsimp only
 have hle:∀y∈a.toList.take t,LeK κ y b[nb-1]:=fun y hy=>by
  obtain⟨j,hj,aK,rfl⟩:=TN hy
  have:=g1 j (by omega) aK
  simp only[zr_]at this
  exact this
 by_cases cN:na-t > 0
 ·rw[if_pos cN]
  have dU:=hM.extA M.sA (t:=t) (by omega) (fun j hj mO mP y hy=>by
   have:=g2 j (by omega) mO mP
   simp only[zr_]at this
   exact LeK.trans (KH M.sB (by omega) y hy) (qr_ this))
  by_cases hq:t=0
  ·rw[if_pos (by simpa using hq)]
   exact jF_ (hd _ _ _ hG rfl (M.doneH dU (.inl hq)))
  ·rw[if_neg (by simpa using hq)]
   exact Da_ hO M (hG.kd.trans hk) dU (by omega) h3 (by omega) (by omega) hle (fun d=>h d _ hG) (fun d x=>hd d x _ hG)
 ·rw[if_neg cN]
  have e:t=na:=by omega
  subst e
  exact Da_ hO M (hG.kd.trans hk) hM h2 h3 h4 (by omega) hle (fun d=>h d _ hG) (fun d x=>hd d x _ hG)
theorem DH_ (hO:LtOk kd κ a₀ prog w A E s)(M:MP a₀ κ a b){st:SortSt}(hk:kindOf st=kd)   (hJ:MHJ κ a b c.2.2.2.1 c.2.1 c.2.2.1 p)
  (h:∀(d:H7) ab,SG st ab->d.1=none->MHJ κ a b d.2.2.2.1 d.2.1 d.2.2.1 p->Q (.yield d) ab/\Q (.done d) ab) (hd:∀(d:H7) x ab,SG st ab->d.1=some x->Mgd (LeK κ) a.toList b.toList x.toList->Q (.done d) ab):
  wpS (model prog w) A E s (H2 a b c) Q st:=by
 unfold H2
 split
 ·exact Db_ hO M hk hJ h hd
 ·exact Db_ hO M hk hJ h hd
theorem DI_ (hO:LtOk kd κ a₀ prog w A E s)(M:MP a₀ κ a b){st:SortSt}(hk:kindOf st=kd)   (hJ:MHJ κ a b c.2.2.2.1 c.2.1 c.2.2.1 p)
  (h:∀(d:H5) ab,SG st ab->d.1=none->MHJ κ a b d.2.2.2.1 d.2.1 d.2.2.1 (p+1)->Q (.yield d) ab) (hd:∀(d:H5) x ab,SG st ab->d.1=some x->Mgd (LeK κ) a.toList b.toList x.toList->Q (.done d) ab):
  wpS (model prog w) A E s (HO a b c) Q st:=by
 have cu:1<=a.size+b.size:=by have:=M.ha;omega
 unfold HO
 refine jy_ (xW_ (qI_ (I:=fun x d ab=>ab=st/\d.1=none/\MHJ κ a b d.2.2.2.1 d.2.1 d.2.2.1 (p+x))
   (Q:=fun d ab=>ab=st/\((d.1=none/\MHJ κ a b d.2.2.2.1 d.2.1 d.2.2.1 (p+1)) \/ ∃x,d.1=some x/\Mgd (LeK κ) a.toList b.toList x.toList)) ?step ?fin ⟨rfl,rfl,hJ⟩) ?post)
 case step=>
  rintro x d ab _ hx ⟨rfl,h1,h2⟩
  refine DG_ hO M hk h1 h2 (fun d' g1 g2=>⟨⟨rfl,g1,g2⟩,rfl,.inl ⟨g1,g2.1,g2.2.1,g2.2.2.1,?_⟩⟩) (fun d' x g1 g2=>⟨rfl,.inr ⟨x,g1,g2⟩⟩)
  have:=g2.2.2.2;omega
 case fin=>
  rintro d ab ⟨rfl,h1,h2⟩
  refine⟨rfl,.inl ⟨h1,h2.1,h2.2.1,h2.2.2.1,?_⟩⟩
  have:=h2.2.2.2;omega
 case post=>
  rintro d ab ⟨rfl,hh⟩
  rcases hh with ⟨h1,h2⟩|⟨x,h1,h2⟩
  ·rw[h1]
   dsimp only
   refine jy_ (IL ?_)
   refine jy_ (xW_ (qI_ (I:=fun x d au=>SG ab au/\d.1=none/\MHJ κ a b d.2.2.2.1 d.2.1 d.2.2.1 (p+1))
    (Q:=fun d au=>SG ab au/\((d.1=none/\MHJ κ a b d.2.2.2.1 d.2.1 d.2.2.1 (p+1)) \/ ∃x,d.1=some x/\Mgd (LeK κ) a.toList b.toList x.toList)) ?step2 ?fin2 ⟨SG.refl _,rfl,h2⟩) ?post2)
   case step2=>
    rintro x e au _ hx ⟨g0,g1,g2⟩
    exact DH_ hO M (g0.kd.trans hk) g2 (fun d' cK k0 k1 k2=>⟨⟨g0.trans k0,k1,k2⟩,g0.trans k0,.inl ⟨k1,k2⟩⟩) (fun d' x cK k0 k1 k2=>⟨g0.trans k0,.inr ⟨x,k1,k2⟩⟩)
   case fin2=>
    rintro e au ⟨g0,g1,g2⟩
    exact⟨g0,.inl ⟨g1,g2⟩⟩
   case post2=>
    rintro e au ⟨g0,hh⟩
    rcases hh with ⟨g1,g2⟩|⟨x,g1,g2⟩
    ·rw[g1]
     dsimp only
     refine jy_ (Oy (jF_ ?_))
     exact h (none,e.2.1,e.2.2.1,e.2.2.2.1,e.2.2.2.2.1+1) _ (g0.set _) rfl g2
    ·rw[g1]
     dsimp only
     exact jF_ (hd _ x _ g0 rfl g2)
  ·rw[h1]
   dsimp only
   exact jF_ (hd _ x _ (SG.refl _) rfl h2)
theorem UQ {st:SortSt}  (hO:LtOk kd κ a₀ prog w A E s)(M:MP a₀ κ a b)(hk:kindOf st=kd)
  (h:∀r ab,SG st ab->Mgd (LeK κ) a.toList b.toList r.toList->Q r ab):wpS (model prog w) A E s (KG a b) Q st:=by
 have ha:=M.ha
 have hb:=M.hb
 rw[Qw]
 refine jy_ (IL (jy_ (B0 (show a.size-1<a.size by omega) ?_)))
 have hM0:MH κ a b #[] a.size b.size:=⟨jg_ _,jg_ _,by simpa using MI.start _ _⟩
 have hM:MH κ a b #[a[a.size-1]] (a.size-1) b.size:=hM0.pushA M.sA ha (by omega) (fun y hy=>M.hl y (xg_ hy))
 by_cases h1:a.size-1=0
 ·rw[if_pos (by simpa using h1)]
  exact jF_ (h _ _ (SG.refl _) (M.doneH hM (.inl h1)))
 ·rw[if_neg (by simpa using h1)]
  by_cases h2:b.size=1
  ·rw[if_pos (by simpa using h2)]
   exact jF_ (h _ _ (SG.refl _) (M.firstB hM h2))
  ·rw[if_neg (by simpa using h2)]
   refine jy_ (wpS_get ?_)
   refine jy_ (xW_ (qI_ (I:=fun x c ab=>SG st ab/\c.1=none/\MHJ κ a b c.2.2.2.1 c.2.1 c.2.2.1 (1+x))
    (Q:=fun c ab=>SG st ab/\∃x,c.1=some x/\Mgd (LeK κ) a.toList b.toList x.toList) ?step ?fin ⟨SG.refl _,rfl,show MHJ κ a b #[a[a.size-1]] (a.size-1) b.size (1+0) from ⟨hM,by omega,by omega,by omega⟩⟩) ?post)
   case step=>
    rintro x c ab _ hx ⟨g0,g1,g2⟩
    exact DI_ hO M (g0.kd.trans hk) g2 (fun d aJ k0 k1 k2=>⟨g0.trans k0,k1,k2⟩) (fun d x aJ k0 k1 k2=>⟨g0.trans k0,x,k1,k2⟩)
   case fin=>
    rintro c ab ⟨g0,g1,g2⟩
    have:=g2.2.1;have:=g2.2.2.1;have:=g2.2.2.2
    omega
   case post=>
    rintro c ab ⟨g0,x,g1,g2⟩
    rw[g1]
    dsimp only
    exact jF_ (h x ab g0 g2)
end
end S64
namespace S64
open PySem PyProof.Rows
section
variable {prog:Program} {w:World} {A:Around} {E:Value->Shared->Prop} {s:Shared} {a₀:Array Keyed} {κ:KeyKind} {kd:SortKind}
structure SQ (kd:SortKind)(a₀:Array Keyed)(lo hi:Nat)(st ab:SortSt):Prop where
 b:SB kd a₀ ab
 pe:pendingOf ab=pendingOf st
 out:Out lo hi (arrOf st) (arrOf ab)
theorem SQ.refl {lo hi:Nat}{st:SortSt}(h:SB kd a₀ st):SQ kd a₀ lo hi st st:=⟨h,rfl,Out.refl _ _ _⟩
theorem SQ.trans {lo hi:Nat}{st ab au:SortSt}(h:SQ kd a₀ lo hi st ab)(g:SQ kd a₀ lo hi ab au):SQ kd a₀ lo hi st au:=⟨g.b,g.pe.trans h.pe,h.out.trans g.out⟩
theorem SQ.mir {lo hi i j:Nat}{st ab:SortSt}(h:SQ kd a₀ lo hi st ab)(hj:j<=a₀.size)(h1:lo<=i)(h2:j<=hi):SQ kd a₀ lo hi st (setArr ab (mirror (arrOf ab) i j ((j-i) / 2))):=
 ⟨h.b.setArr (mirror_perm _ _ _ _),h.pe,h.out.trans (NH (by rw[h.b.size];exact hj) h1 h2)⟩
theorem SQ.bub {lo hi k l:Nat}{st ab:SortSt}(h:SQ kd a₀ lo hi st ab)(hk:k<a₀.size)(h1:lo<=l)(hl:l<=k)(h2:k<hi):SQ kd a₀ lo hi st (setArr ab (bubble (arrOf ab) k (k-l))):=
 ⟨h.b.setArr (bubble_perm _ _ _),h.pe,h.out.trans (UJ (by rw[h.b.size];exact hk) (by omega) (by omega) h2)⟩
theorem TQ {st aZ:SortSt}{lo n ag:Nat}  (hO:LtOk kd κ a₀ prog w A E s)(hn:lo+ag<=a₀.size)(h1:1<=n)(eA:n<=ag)(hB:SQ kd a₀ lo (lo+ag) aZ st)(hs:NI κ (arrOf st) lo (lo+n))
  (h:∀m ab,SQ kd a₀ lo (lo+ag) aZ ab->1<=m->m<=ag->SO κ (arrOf ab) lo (lo+m)->Q (some m) ab):
  wpS (model prog w) A E s (RY lo n ag) Q st:=Bm_ hO hn h1 eA hB.b hs (fun m ab g1 g2 g3 g4 g5 g6=>h m ab (hB.trans ⟨g1,g2,g3⟩) g4 g5 g6)
def Yu (lo n ag:Nat):StateT SortSt Sem DescSt:=
 forIn [n:ag] ((none,n,0):DescSt) fun _ c=>do
  let x <- ltAt' (lo+c.2.1) (lo+c.2.1-1)
  match x with
  |some aC=>
   if aC=true then
    if c.2.2 > 0 then do
     reverseSlice' (lo+c.2.1-(c.2.2+1)) (lo+c.2.1)
     pure (.yield (none,c.2.1+1,0))
    else pure (.yield (none,c.2.1+1,0))
   else do
    let x <- ltAt' (lo+c.2.1-1) (lo+c.2.1)
    match x with
    |some cX=>if cX=true then pure (.done (none,c.2.1,c.2.2)) else pure (.yield (none,c.2.1+1,c.2.2+1))
    |_=>pure (.done (some none,c.2.1,c.2.2))
  |_=>pure (.done (some none,c.2.1,c.2.2))
def UR (lo n ag:Nat):StateT SortSt Sem (Option Nat):=do
 liftM (rule "list.sort.descending-run")
 let c <- Yu lo (n+1) ag
 match c.1 with
 |some r=>pure r
 |none=>
  if c.2.2 > 0 then do
   reverseSlice' (lo+c.2.1-(c.2.2+1)) (lo+c.2.1)
   RY lo c.2.1 ag
  else RY lo c.2.1 ag
theorem Oz (lo ag:Nat):countRun' lo ag=(do
  let c <- ascL lo 1 ag
  match c.1 with
  |some r=>pure r
  |none=>
   if (c.2==ag)=true then pure (some c.2)
   else if c.2 > 1 then do
    let x <- ltAt' lo (lo+c.2-1)
    match x with
    |some rose=>if rose=true then pure (some c.2) else do
      reverseSlice' lo (lo+c.2)
      UR lo c.2 ag
    |_=>pure none
   else UR lo c.2 ag):=by
 have tl:∀n,(do
   reverseSlice' lo (lo+n)
   let mut n:=n
   for _ in [n:ag] do
    let some aC <- ltAt' (lo+n) (lo+n-1)|return none
    if aC then break
    n:=n+1
   return some n:StateT SortSt Sem (Option Nat))=RY lo n ag:=fun n=>by
  unfold RY ascL
  refine jG_ (bind _) (funext fun _=>jG_ (bind _) (funext fun c=>?_))
  obtain⟨r,m⟩:=c
  cases r<;>rfl
 have pl:∀n,(do
   rule "list.sort.descending-run"
   let mut n:=n
   n:=n+1
   let mut neq:=0
   for _ in [n:ag] do
    let some aC <- ltAt' (lo+n) (lo+n-1)|return none
    if aC then
     if neq > 0 then reverseSlice' (lo+n-(neq+1)) (lo+n)
     neq:=0
    else
     let some cX <- ltAt' (lo+n-1) (lo+n)|return none
     if cX then break
     neq:=neq+1
    n:=n+1
   if neq > 0 then reverseSlice' (lo+n-(neq+1)) (lo+n)
   reverseSlice' lo (lo+n)
   for _ in [n:ag] do
    let some aC <- ltAt' (lo+n) (lo+n-1)|return none
    if aC then break
    n:=n+1
   return some n:StateT SortSt Sem (Option Nat))=UR lo n ag:=fun n=>by
  unfold UR Yu
  refine jG_ (bind _) (funext fun _=>jG_ (bind _) (funext fun c=>?_))
  obtain⟨r,m,q⟩:=c
  cases r with
  |some r=>rfl
  |none=>
   dsimp only
   by_cases hq:q > 0
   ·rw[if_pos hq,if_pos hq]
    exact jG_ (bind _) (funext fun _=>tl m)
   ·rw[if_neg hq,if_neg hq]
    exact tl m
 rw[countRun'_eq]
 unfold ascL
 refine jG_ (bind _) (funext fun c=>?_)
 obtain⟨r,n⟩:=c
 cases r with
 |some r=>rfl
 |none=>
  dsimp only
  refine jG_ (ite _ _) ?_
  by_cases hn:n > 1
  ·rw[if_pos hn,if_pos hn]
   refine jG_ (bind _) (funext fun x=>?_)
   cases x with
   |none=>rfl
   |some rose=>
    dsimp only
    refine jG_ (ite _ _) (jG_ (bind _) (funext fun _=>pl n))
  ·rw[if_neg hn,if_neg hn]
   exact pl n
theorem Bo_ {st aZ:SortSt}{lo n ag:Nat}  (hO:LtOk kd κ a₀ prog w A E s)(hn:lo+ag<=a₀.size)(h1:1<=n)(eA:n<=ag)(hB:SQ kd a₀ lo (lo+ag) aZ st)(hs:NI κ (arrOf st) lo (lo+n))
  (h:∀m neq ab,SQ kd a₀ lo (lo+ag) aZ ab->n<=m->m<=ag->NI κ (arrOf ab) lo (lo+m)->neq+1<=m->(∀i,lo+m-(neq+1)<=i->i<lo+m->KK κ (arrOf ab) i=KK κ (arrOf ab) (lo+m-1))->Q (none,m,neq) ab):
  wpS (model prog w) A E s (Yu lo n ag) Q st:=by
 unfold Yu
 refine qI_ (I:=fun x c ab=>∃neq,c=(none,x,neq)/\SQ kd a₀ lo (lo+ag) aZ ab/\NI κ (arrOf ab) lo (lo+x)/\neq+1<=x /\
   (∀i,lo+x-(neq+1)<=i->i<lo+x->KK κ (arrOf ab) i=KK κ (arrOf ab) (lo+x-1))) ?step ?fin ⟨0,rfl,hB,hs,by omega,fun i h1 h2=>by congr 1;omega⟩
 case fin=>
  rintro c ab ⟨neq,rfl,g1,g2,g3,g4⟩
  rw[show max n ag=ag by omega]at g2 g3 g4 ⊢
  exact h ag neq ab g1 eA (jg_ _) g2 g3 g4
 case step=>
  rintro x c ab mM hxn ⟨neq,rfl,hQ,hN,hq,he⟩
  dsimp only
  have hsz:lo+x<=(arrOf ab).size:=by rw[hQ.b.size];omega
  refine jy_ (K9 hO hQ.b (by omega) (by omega) ?_)
  cases bj:κ.blt (KK κ (arrOf ab) (lo+x)) (KK κ (arrOf ab) (lo+x-1))
  case true=>
   simp only[xK_]
   have grow:∀xs:Array Keyed,(∀k,KK κ xs k=KK κ (arrOf ab) k)->NI κ xs lo (lo+(x+1)):=by
    intro xs hk i j hl aK hj
    rw[hk,hk]
    rcases qW_ j (lo+x) with gN|gN
    ·exact hN i j hl aK gN
    ·obtain rfl:j=lo+x:=by omega
     rcases qW_ i (lo+x) with hi' | hi'
     ·exact xd_ (qr_ bj) (hN i (lo+x-1) hl (by omega) (by omega))
     ·obtain rfl:i=lo+x:=by omega
      exact qJ_ _
   by_cases fg:neq > 0
   ·rw[if_pos fg]
    exact jy_ (GJ (jF_ ⟨0,rfl,hQ.mir (by omega) (by omega) (by omega),grow _ (zd_ hsz he),by omega,fun i h1 h2=>by congr 1;omega⟩))
   ·rw[if_neg fg]
    exact jF_ ⟨0,rfl,hQ,grow _ (fun _=>rfl),by omega,fun i h1 h2=>by congr 1;omega⟩
  case false=>
   simp only[jQ_,qK_]
   refine jy_ (K9 hO hQ.b (by omega) (by omega) ?_)
   cases hlarger:κ.blt (KK κ (arrOf ab) (lo+x-1)) (KK κ (arrOf ab) (lo+x))
   case true=>
    simp only[xK_]
    exact jF_ (h x neq ab hQ mM (by omega) hN hq he)
   case false=>
    simp only[jQ_,qK_]
    have same:KK κ (arrOf ab) (lo+x)=KK κ (arrOf ab) (lo+x-1):=KeyOrd.kle_antisymm hlarger bj
    refine jF_ ⟨neq+1,rfl,hQ,fun i j hl aK hj=>?_,by omega,fun i h1 h2=>?_⟩
    ·rcases qW_ j (lo+x) with gN|gN
     ·exact hN i j hl aK gN
     ·obtain rfl:j=lo+x:=by omega
      rcases qW_ i (lo+x) with hi' | hi'
      ·rw[same];exact hN i (lo+x-1) hl (by omega) (by omega)
      ·obtain rfl:i=lo+x:=by omega
       exact qJ_ _
    ·rw[show lo+(x+1)-1=lo+x by omega]
     by_cases dW:i=lo+x
     ·rw[dW]
     ·rw[same];exact he i (by omega) (by omega)
theorem Xh {st aZ:SortSt}{lo n ag:Nat}  (hO:LtOk kd κ a₀ prog w A E s)(hn:lo+ag<=a₀.size)(eA:n+1<=ag)(hB:SQ kd a₀ lo (lo+ag) aZ st)(hs:NI κ (arrOf st) lo (lo+(n+1)))
  (h:∀m ab,SQ kd a₀ lo (lo+ag) aZ ab->1<=m->m<=ag->SO κ (arrOf ab) lo (lo+m)->Q (some m) ab):
  wpS (model prog w) A E s (UR lo n ag) Q st:=by
 unfold UR
 refine jy_ (IL (jy_ (Bo_ hO hn (by omega) eA hB hs fun m neq ab g1 g2 g3 g4 g5 g6=>?_)))
 dsimp only
 have hsz:lo+m<=(arrOf ab).size:=by rw[g1.b.size];omega
 by_cases fg:neq > 0
 ·rw[if_pos fg]
  refine jy_ (GJ (TQ hO hn (by omega) g3 (g1.mir (by omega) (by omega) (by omega)) ?_ h))
  intro i j hl aK hj
  show κ.kle (KK κ (mirror (arrOf ab) _ _ _) j) (KK κ (mirror (arrOf ab) _ _ _) i)
  rw[zd_ hsz g6,zd_ hsz g6]
  exact g4 i j hl aK hj
 ·rw[if_neg fg]
  exact TQ hO hn (by omega) g3 g1 g4 h
theorem R3 {st:SortSt}{lo ag:Nat}  (hO:LtOk kd κ a₀ prog w A E s)(hn:lo+ag<=a₀.size)(h1:1<=ag)(hB:SB kd a₀ st)
  (h:∀m ab,SQ kd a₀ lo (lo+ag) st ab->1<=m->m<=ag->SO κ (arrOf ab) lo (lo+m)->Q (some m) ab):
  wpS (model prog w) A E s (countRun' lo ag) Q st:=by
 have hQ:SQ kd a₀ lo (lo+ag) st st:=SQ.refl hB
 rw[Oz]
 refine jy_ (Aa_ hO hn (jg_ 1) h1 hB (fun i j hl aK hj=>by (obtain rfl:i=j:=by omega);exact qJ_ _) fun n bQ fh js hor=>?_)
 dsimp only
 by_cases eA:n=ag
 ·rw[if_pos (by simpa using eA)]
  exact jF_ (h n st hQ bQ fh js)
 ·rw[if_neg (by simpa using eA)]
  have ah:=hor.resolve_left eA
  by_cases jq:n > 1
  ·rw[if_pos jq]
   refine jy_ (K9 hO hB (by omega) (by omega) ?_)
   cases hrose:κ.blt (KK κ (arrOf st) lo) (KK κ (arrOf st) (lo+n-1))
   case true=>
    simp only[xK_]
    exact jF_ (h n st hQ bQ fh js)
   case false=>
    simp only[jQ_,qK_]
    have hsz:lo+n<=(arrOf st).size:=by rw[hB.size];omega
    have ar:∀k,lo<=k->k<lo+n->KK κ (arrOf st) k=KK κ (arrOf st) (lo+n-1):=fun k jt eU=>
     KeyOrd.kle_antisymm (js k (lo+n-1) jt (by omega) (by omega)) (xd_ hrose (js lo k (jg_ _) jt eU))
    refine jy_ (GJ (Xh hO hn (by omega) (hQ.mir (by omega) (jg_ _) (by omega)) ?_ h))
    intro i j hl aK hj
    show κ.kle (KK κ (mirror (arrOf st) _ _ _) j) (KK κ (mirror (arrOf st) _ _ _) i)
    rw[zd_ hsz ar,zd_ hsz ar]
    rcases qW_ j (lo+n) with hjn|hjn
    ·rw[ar i hl (by omega),ar j (by omega) hjn];exact qJ_ _
    ·obtain rfl:j=lo+n:=by omega
     rcases qW_ i (lo+n) with hi' | hi'
     ·rw[ar i hl hi'];exact qr_ ah
     ·obtain rfl:i=lo+n:=by omega
      exact qJ_ _
  ·rw[if_neg jq]
   obtain rfl:n=1:=by omega
   refine Xh hO hn (by omega) hQ ?_ h
   intro i j hl aK hj
   by_cases hi':i=j
   ·subst hi';exact qJ_ _
   ·obtain rfl:i=lo:=by omega
    obtain rfl:j=i+1:=by omega
    exact qr_ ah
theorem OA {st:SortSt}{lo n ok:Nat}  (hO:LtOk kd κ a₀ prog w A E s)(hn:lo+n<=a₀.size)(hok:ok<=n)(hB:SB kd a₀ st)(hs:SO κ (arrOf st) lo (lo+ok))
  (h:∀ab,SQ kd a₀ lo (lo+n) st ab->SO κ (arrOf ab) lo (lo+n)->Q true ab):wpS (model prog w) A E s (binarySort' lo n ok) Q st:=by
 rw[binarySort'_eq]
 refine jy_ (xW_ (qI_ (I:=fun k c ab=>c=(none,())/\SQ kd a₀ lo (lo+n) st ab/\SO κ (arrOf ab) lo (lo+min k n))
  (Q:=fun c ab=>c=(none,())/\SQ kd a₀ lo (lo+n) st ab/\SO κ (arrOf ab) lo (lo+n)) ?step ?fin ?init) ?post)
 case post=>
  rintro c ab ⟨rfl,dS,aX⟩
  exact jF_ (h ab dS aX)
 case init=>
  refine⟨rfl,SQ.refl hB,fun i j hl aK hj=>?_⟩
  by_cases h1:ok=0
  ·obtain rfl:i=j:=by omega
   exact qJ_ _
  ·exact hs i j hl aK (by omega)
 case fin=>
  rintro c ab ⟨hc,dS,aX⟩
  refine⟨hc,dS,?_⟩
  rwa [show min (max (max ok 1) n) n=n by omega]at aX
 case step=>
  rintro k c ab hak iz ⟨rfl,hQ,aX⟩
  rw[show min k n=k by omega]at aX
  have hk:lo+k<a₀.size:=by omega
  refine jy_ (xW_ (qI_ (I:=fun x c au=>au=ab/\∃l r,c=(none,l,r)/\l<=r/\r<=k/\r-l<=k-x /\
    (∀i,lo<=i->i<lo+l->κ.kle (KK κ (arrOf ab) i) (KK κ (arrOf ab) (lo+k)))/\(∀i,lo+r<=i->i<lo+k->κ.klt (KK κ (arrOf ab) (lo+k)) (KK κ (arrOf ab) i)))
   (Q:=fun c au=>au=ab/\∃l r,c=(none,l,r)/\l<=k /\
    (∀i,lo<=i->i<lo+l->κ.kle (KK κ (arrOf ab) i) (KK κ (arrOf ab) (lo+k)))/\(∀i,lo+l<=i->i<lo+k->κ.klt (KK κ (arrOf ab) (lo+k)) (KK κ (arrOf ab) i))) ?istep ?ifin ?iinit) ?ipost)
  case iinit=>exact⟨rfl,0,k,rfl,by omega,by omega,by omega,fun i h0 hi=>by omega,fun i h1 h2=>by omega⟩
  case ifin=>
   rintro c au ⟨rfl,l,r,rfl,hlr,mR,hm,fG,gR⟩
   obtain rfl:l=r:=by omega
   exact⟨rfl,l,l,rfl,mR,fG,gR⟩
  case istep=>
   rintro x c au _ hxk ⟨rfl,l,r,rfl,hlr,mR,hm,fG,gR⟩
   dsimp only
   by_cases aV:l >= r
   ·rw[if_pos aV]
    obtain rfl:l=r:=by omega
    exact jF_ ⟨rfl,l,l,rfl,mR,fG,gR⟩
   ·rw[if_neg aV]
    refine jy_ (K9 hO hQ.b hk (by omega) ?_)
    cases bj:κ.blt (KK κ (arrOf au) (lo+k)) (KK κ (arrOf au) (lo+(l+r) / 2))
    case true=>
     simp only[xK_]
     refine jF_ ⟨rfl,l,(l+r) / 2,rfl,by omega,by omega,by omega,fG,fun i h1 h2=>?_⟩
     exact KeyOrd.klt_of_klt_of_kle bj (aX _ _ (by omega) h1 h2)
    case false=>
     simp only[jQ_,qK_]
     refine jF_ ⟨rfl,(l+r) / 2+1,r,rfl,by omega,by omega,by omega,fun i h0 h1=>?_,gR⟩
     exact xd_ (aX i (lo+(l+r) / 2) h0 (by omega) (by omega)) bj
  case ipost=>
   rintro c au ⟨rfl,l,r,rfl,hlk,fG,gR⟩
   show wpS _ _ _ _ (do moveDown' (lo+k) (lo+l);pure (ForInStep.yield (none,()))) _ _
   rw[moveDown'_eq]
   refine jy_ (zC_ (jF_ ⟨rfl,hQ.bub hk (by omega) (by omega) (by omega),?_⟩))
   rw[show min (k+1) n=k+1 by omega]
   have kW:lo+k<(arrOf au).size:=by rw[hQ.b.size];exact hk
   intro i j hl aK hj
   show κ.kle (KK κ (bubble (arrOf au) (lo+k) (lo+k-(lo+l))) i) (KK κ (bubble (arrOf au) (lo+k) (lo+k-(lo+l))) j)
   rw[KK_bubble kW (by omega),KK_bubble kW (by omega),show lo+k-(lo+k-(lo+l))=lo+l by omega]
   repeat' split
   all_goals first
    | (exfalso;omega)
    | exact qJ_ _
    | exact fG _ (by omega) (by omega)
    | exact qr_ (gR _ (by omega) (by omega))
    | exact aX _ _ (by omega) (by omega) (by omega)
end
end S64
namespace S64
open PySem PyProof.Rows
def wr (a:Array Keyed)(base:Nat)(r:List Keyed)(n:Nat):Array Keyed:=(r.zipIdx n).foldl (fun a (p,j)=>a.setIfInBounds (base+j) p) a
theorem R4 (i:Nat):mergeAt' i=(do
 let s <- get
 let (some (sa,na,power),some (sb,nb,_)):=((pendingOf s)[i]?,(pendingOf s)[i+1]?)|unsupported "internal:list.sort.pending"
 set (setPending s (((pendingOf s).setIfInBounds i (sa,na+nb,power)).eraseIdxIfInBounds (i+1)))
 let some k <- Dk false ( <- elem' (arrOf s) sb) (arrOf s) sa na 0|return false
 if na-k==0 then return true
 let some m <- Dk true ( <- elem' (arrOf s) (sa+k+(na-k)-1)) (arrOf s) sb nb (nb-1)|return false
 if m==0 then return true
 let merged <- if na-k<=m then KC ((arrOf s).extract (sa+k) sb) ((arrOf s).extract sb (sb+m)) else KG ((arrOf s).extract (sa+k) sb) ((arrOf s).extract sb (sb+m))
 modify fun s=>setArr s (wr (arrOf s) (sa+k) merged.toList 0)
 return (failedOf ( <- get)).isNone):=rfl
theorem Xi {base:Nat}:∀(r:List Keyed) (n:Nat) (a:Array Keyed),base+n+r.length<=a.size->(wr a base r n).toList=a.toList.take (base+n)++r++a.toList.drop (base+n+r.length)
 |[],n,a,h=>by simp[wr]
 |x::r,n,a,h=>by
  have ih:=Xi (base:=base) r (n+1) (a.setIfInBounds (base+n) x) (by simp at h ⊢;omega)
  unfold wr at ih ⊢
  rw[List.zipIdx_cons,q6_]
  simp only at ih ⊢
  simp only[jW_]at h
  have hl:base+n<a.toList.length:=by simp;omega
  rw[ih,Array.toList_setIfInBounds,show base+(n+1)=base+n+1 by omega,List.take_set,List.drop_set_of_lt (by omega),List.take_succ_eq_append_getElem hl,List.set_append_right _ _ (by simp;omega)]
  simp only[jB_,j3_,jW_]
  rw[show base+n-min (base+n) a.size=0 by omega,ze_,show base+n+1+r.length=base+n+(r.length+1) by omega]
  simp
section
variable {prog:Program} {w:World} {A:Around} {E:Value->Shared->Prop} {s:Shared} {a₀:Array Keyed} {κ:KeyKind} {kd:SortKind}
def seg (a:Array Keyed)(lo hi:Nat):List Keyed:=(a.toList.take hi).drop lo
theorem R5  {lo hi:Nat}(h:hi<=a.size):(seg a lo hi).length=hi-lo:=by unfold seg;simp;omega
theorem OB  {lo hi i:Nat}(h:i<(seg a lo hi).length)(hi':lo+i<a.size):(seg a lo hi)[i]=a[lo+i]:=by simp[seg]
theorem NL  {lo hi:Nat}(h:hi<=a.size):SO κ a lo hi↔(seg a lo hi).Pairwise (LeK κ):=by
 rw[xu_]
 constructor
 ·intro g i j hi hj aK
  have hl:=R5 (lo:=lo) h
  have:=g (lo+i) (lo+j) (by omega) (by omega) (by omega)
  rw[FO (by omega),FO (by omega)]at this
  rw[OB hi (by omega),OB hj (by omega)]
  exact this
 ·intro g i j hl aK hj
  rcases qW_ i j with ah|aV
  ·have hlen:=R5 (lo:=lo) h
   have:=g (i-lo) (j-lo) (by omega) (by omega) (by omega)
   rw[OB (by omega) (by omega),OB (by omega) (by omega)]at this
   simp only[show lo+(i-lo)=i by omega,show lo+(j-lo)=j by omega]at this
   rw[FO (by omega),FO (by omega)]
   exact this
  ·obtain rfl:i=j:=by omega
   exact qJ_ _
theorem Hn  {lo hi:Nat}  (h:x∈seg a lo hi):∃j,∃hj:j<a.size,lo<=j/\j<hi/\x=a[j]:=Xg h
theorem IM (a:Array Keyed)  (h1:l<=m)(h2:m<=h):seg a l h=seg a l m++seg a m h:=by
 unfold seg
 have e:a.toList.take h=a.toList.take m++(a.toList.take h).drop m:=by
  have:=q7_ m (a.toList.take h)
  rw[List.take_take,show min m h=m by omega]at this
  exact this.symm
 rw[e]
 rcases Nat.le_total m a.toList.length with hm|hm
 ·rw[List.drop_append_of_le_length (by rw[jB_];omega)]
  congr 1
  rw[<-e]
 ·rw[show (a.toList.take h).drop m=[] from qD_ (by rw[jB_];omega)]
  simp only[qj_]
  rw[show List.drop m (a.toList.take m)=[] from qD_ (by rw[jB_];omega),qj_]
theorem R6  {lo hi i j:Nat}(h:SO κ a lo hi)(h1:lo<=i)(h2:i<=j)(h3:j<hi)(hi':i<a.size)(hj:j<a.size):LeK κ a[i] a[j]:=by
 have:=h i j h1 h2 h3
 rw[FO hi',FO hj]at this
 exact this
theorem KI  {lo hi:Nat}(e:∀i,lo<=i->i<hi->ys[i]?=xs[i]?)(h:SO κ xs lo hi):SO κ ys lo hi:=fun i j h1 h2 h3=>by
 rw[KK_congr (e i h1 (by omega)),KK_congr (e j (by omega) h3)];exact h i j h1 h2 h3
theorem Yv    (hle:l<=e)(he:e<=a.size)(hp:r.Perm (seg a l e)):
  (wr a l r 0).Perm a/\Out l e a (wr a l r 0)/\seg (wr a l r 0) l e=r:=by
 have hl:r.length=e-l:=by rw[hp.length_eq,R5 he]
 have hw:=Xi (base:=l) r 0 a (by omega)
 rw[Nat.add_zero,show l+r.length=e by omega]at hw
 have h0:a.toList=a.toList.take l++seg a l e++a.toList.drop e:=by
  have h1:=q7_ e a.toList
  have h2:=q7_ l (a.toList.take e)
  rw[List.take_take,show min l e=l by omega]at h2
  rw[show seg a l e=(a.toList.take e).drop l from rfl,h2,h1]
 have ah:(a.toList.take l).length=l:=by simp;omega
 refine⟨?_,fun i hi=>?_,?_⟩
 ·rw[xX_,hw]
  conv=>rhs;rw[h0]
  exact List.Perm.append_right _ (List.Perm.append_left _ hp)
 ·rw[<-xp_,<-xp_,hw]
  rcases hi with hi|hi
  ·rw[qi_,jj_ (by omega),xz_ hi]
  ·rw[ju_ (by rw[jo_];omega),jo_,ah,List.getElem?_drop]
   congr 1;omega
 ·unfold seg
  rw[hw,qi_,<-qi_,List.take_append_of_le_length (by rw[jo_];omega),jO_ (by rw[jo_];omega),List.drop_append_of_le_length (by omega),qD_ (by omega),xS_]
theorem F3 (a:Array Keyed)(i j:Nat):(a.extract i j).toList=seg a i j:=by rw[GK,seg,List.drop_take]
theorem Dc_ {st ab:SortSt}  (h:Q ⟨⟩ ab):wpS (model prog w) A E s (set ab:StateT SortSt Sem PUnit) Q st:=zC_ (f:=fun _=>ab) h
theorem US {st:SortSt}   (hO:LtOk kd κ a₀ prog w A E s)(hB:SB kd a₀ st)(e1:(pendingOf st)[i]?=some (sa,na,pw))(e2:(pendingOf st)[i+1]?=some (sb,nb,q))(kU:sb=sa+na)(hna:1<=na)(hnb:1<=nb)(hz:sb+nb<=a₀.size)
  (s1:SO κ (arrOf st) sa sb) (s2:SO κ (arrOf st) sb (sb+nb))
  (h:∀ab,SB kd a₀ ab->pendingOf ab=((pendingOf st).setIfInBounds i (sa,na+nb,pw)).eraseIdxIfInBounds (i+1)->Out sa (sb+nb) (arrOf st) (arrOf ab)->SO κ (arrOf ab) sa (sb+nb)->Q true ab):
  wpS (model prog w) A E s (mergeAt' i) Q st:=by
 have hsz:=hB.size
 rw[R4]
 refine jy_ (wpS_get ?_)
 rw[e1,e2]
 dsimp only
 refine jy_ (Dc_ ?_)
 have dS:SB kd a₀ (setPending st (((pendingOf st).setIfInBounds i (sa,na+nb,pw)).eraseIdxIfInBounds (i+1))):=⟨hB.perm,hB.kind,hB.failed⟩
 have aM:∀x∈(arrOf st).toList,x∈a₀.toList:=fun x hx=>hB.mem hx
 refine jy_ (B0 (show sb<(arrOf st).size by omega) (jy_ (Ov hO dS.kind (aM _ (by simp)) aM (fun i j hi hj g1 g2 g3=>R6 s1 g1 g2 (by omega) hi hj) (by omega) (by omega) (fun k iz g1 g2=>?_))))
 dsimp only
 by_cases cN:na-k=0
 ·rw[if_pos (by simpa using cN)]
  refine jF_ (h _ dS rfl (Out.refl _ _ _) ?_)
  intro i j hl aK hj
  show κ.kle (KK κ (arrOf st) i) (KK κ (arrOf st) j)
  rcases qW_ j sb with c|c
  ·exact s1 i j hl aK c
  ·rcases qW_ i sb with c2|c2
   ·have a1:=g1 (i-sa) (by omega) (by omega)
    simp only[show sa+(i-sa)=i by omega]at a1
    have a2:=s2 sb j (jg_ _) c hj
    rw[FO (show sb<(arrOf st).size by omega)]at a2
    rw[FO (show i<(arrOf st).size by omega)]
    exact xd_ a1 a2
   ·exact s2 i j c2 aK hj
 ·rw[if_neg (by simpa using cN)]
  have el:sa+k+(na-k)-1=sb-1:=by omega
  rw[el]
  refine jy_ (B0 (show sb-1<(arrOf st).size by omega) (jy_ (Ow hO dS.kind (aM _ (by simp)) aM (fun i j hi hj g1 g2 g3=>R6 s2 g1 g2 (by omega) hi hj) (by omega) (by omega) (fun m hmn g3 g4=>?_))))
  dsimp only
  by_cases bZ:m=0
  ·rw[if_pos (by simpa using bZ)]
   refine jF_ (h _ dS rfl (Out.refl _ _ _) ?_)
   intro i j hl aK hj
   show κ.kle (KK κ (arrOf st) i) (KK κ (arrOf st) j)
   rcases qW_ j sb with c|c
   ·exact s1 i j hl aK c
   ·rcases qW_ i sb with c2|c2
    ·have a1:=g4 (j-sb) (by omega) (by omega) (by omega)
     simp only[show sb+(j-sb)=j by omega]at a1
     have a2:=s1 i (sb-1) hl (by omega) (by omega)
     rw[FO (show sb-1<(arrOf st).size by omega)]at a2
     rw[FO (show j<(arrOf st).size by omega)]
     exact xd_ a2 a1
    ·exact s2 i j c2 aK hj
  ·rw[if_neg (by simpa using bZ)]
   have z1:((arrOf st).extract (sa+k) sb).size=sb-(sa+k):=by simp;omega
   have z2:((arrOf st).extract sb (sb+m)).size=m:=by simp;omega
   have hM:MP a₀ κ ((arrOf st).extract (sa+k) sb) ((arrOf st).extract sb (sb+m)):=by
    refine {hA:=fun x hx=>?_,hB:=fun x hx=>?_,sA:=?_,sB:=?_,ha:=by omega,hb:=by omega,hf:=fun y hy=>?_,hl:=fun x hx=>?_}
    ·rw[F3]at hx;obtain⟨j,hj,_,_,rfl⟩:=Hn hx;exact aM _ (by simp)
    ·rw[F3]at hx;obtain⟨j,hj,_,_,rfl⟩:=Hn hx;exact aM _ (by simp)
    ·rw[F3];exact (NL (by omega)).mp (fun i j c1 c2 c3=>s1 i j (by omega) c2 c3)
    ·rw[F3];exact (NL (by omega)).mp (fun i j c1 c2 c3=>s2 i j c1 c2 (by omega))
    ·rw[F3]at hy;obtain⟨j,hj,c1,c2,rfl⟩:=Hn hy
     have a1:=g2 (j-sa) (by omega) (by omega) (by omega)
     simp only[show sa+(j-sa)=j by omega]at a1
     simp only[Array.getElem_extract,Nat.add_zero]
     exact qr_ a1
    ·rw[F3]at hx;obtain⟨j,hj,c1,c2,rfl⟩:=Hn hx
     have a1:=g3 (j-sb) (by omega) (by omega)
     simp only[show sb+(j-sb)=j by omega]at a1
     simp only[Array.getElem_extract,z1,show sa+k+(sb-(sa+k)-1)=sb-1 by omega]
     exact qr_ a1
   have hend:∀(r:Array Keyed) (ab:SortSt),SG (setPending st (((pendingOf st).setIfInBounds i (sa,na+nb,pw)).eraseIdxIfInBounds (i+1))) ab->Mgd (LeK κ) ((arrOf st).extract (sa+k) sb).toList ((arrOf st).extract sb (sb+m)).toList r.toList ->
     wpS (model prog w) A E s (do
      modify fun s=>setArr s (wr (arrOf s) (sa+k) r.toList 0)
      return (failedOf ( <- get)).isNone:StateT SortSt Sem Bool) Q ab:=by
    intro r ab hG hR
    refine jy_ (zC_ (jy_ (wpS_get (jF_ ?_))))
    have ea:arrOf ab=arrOf st:=hG.arr
    have hf:failedOf (setArr ab (wr (arrOf ab) (sa+k) r.toList 0))=none:=hG.fa.trans hB.failed
    rw[hf]
    rw[F3,F3]at hR
    have hp:r.toList.Perm (seg (arrOf st) (sa+k) (sb+m)):=by rw[IM _ (show sa+k<=sb by omega) (show sb<=sb+m by omega)];exact hR.1
    obtain⟨w1,w2,w3⟩:=Yv (by omega) (by omega) hp
    have hsz2:(wr (arrOf st) (sa+k) r.toList 0).size=(arrOf st).size:=w1.size_eq
    have iB:arrOf (setArr ab (wr (arrOf ab) (sa+k) r.toList 0))=wr (arrOf st) (sa+k) r.toList 0:=by rw[<-ea]
    refine h _ ⟨?_,hG.kd.trans hB.kind,hf⟩ hG.pe ?_ ?_
    ·rw[iB];exact w1.trans hB.perm
    ·rw[iB];exact fun i hi=>w2 i (by omega)
    ·rw[iB,NL (by omega),IM _ (show sa<=sa+k by omega) (show sa+k<=sb+nb by omega),IM _ (show sa+k<=sb+m by omega) (show sb+m<=sb+nb by omega),w3]
     have f1:∀x∈seg (wr (arrOf st) (sa+k) r.toList 0) sa (sa+k),∃j,∃hj:j<(arrOf st).size,sa<=j/\j<sa+k/\x=(arrOf st)[j]:=fun x hx=>by
      obtain⟨j,hj,c1,c2,rfl⟩:=Hn hx
      refine⟨j,by omega,c1,c2,?_⟩
      have:=w2 j (by omega)
      rw[qB_ hj,qB_ (show j<(arrOf st).size by omega)]at this
      exact jp_ this
     have f3:∀x∈seg (wr (arrOf st) (sa+k) r.toList 0) (sb+m) (sb+nb),∃j,∃hj:j<(arrOf st).size,sb+m<=j/\j<sb+nb/\x=(arrOf st)[j]:=fun x hx=>by
      obtain⟨j,hj,c1,c2,rfl⟩:=Hn hx
      refine⟨j,by omega,c1,c2,?_⟩
      have:=w2 j (by omega)
      rw[qB_ hj,qB_ (show j<(arrOf st).size by omega)]at this
      exact jp_ this
     have f2:∀x∈r.toList,∃j,∃hj:j<(arrOf st).size,sa+k<=j/\j<sb+m/\x=(arrOf st)[j]:=fun x hx=>by
      obtain⟨j,hj,c1,c2,rfl⟩:=Hn (hp.mem_iff.mp hx)
      exact⟨j,hj,c1,c2,rfl⟩
     have low:∀j (hj:j<(arrOf st).size),sa<=j->j<sa+k->LeK κ (arrOf st)[j] ((arrOf st)[sb]'(by omega)):=fun j hj c1 c2=>by
      have a1:=g1 (j-sa) (by omega) (by omega)
      simp only[show sa+(j-sa)=j by omega]at a1
      exact a1
     have high:∀j (hj:j<(arrOf st).size),sb+m<=j->j<sb+nb->LeK κ ((arrOf st)[sb-1]'(by omega)) (arrOf st)[j]:=fun j hj c1 c2=>by
      have a1:=g4 (j-sb) (by omega) (by omega) (by omega)
      simp only[show sb+(j-sb)=j by omega]at a1
      exact a1
     refine q1_.mpr ⟨?_,q1_.mpr ⟨hR.2,?_,fun x hx y hy=>?_⟩,fun x hx y hy=>?_⟩
     ·exact (NL (by omega)).mp (KI (fun i c1 c2=>w2 i (by omega)) (fun i j c1 c2 c3=>s1 i j c1 c2 (by omega)))
     ·exact (NL (by omega)).mp (KI (fun i c1 c2=>w2 i (by omega)) (fun i j c1 c2 c3=>s2 i j (by omega) c2 (by omega)))
     ·obtain⟨j,hj,c1,c2,rfl⟩:=f2 x hx
      obtain⟨l,hl,d1,d2,rfl⟩:=f3 y hy
      rcases qW_ j sb with c|c
      ·exact LeK.trans (R6 s1 (by omega) (by omega) (by omega) hj (by omega)) (high l hl d1 d2)
      ·exact R6 s2 c (by omega) d2 hj hl
     ·obtain⟨j,hj,c1,c2,rfl⟩:=f1 x hx
      rcases jz_.mp hy with hy|hy
      ·obtain⟨l,hl,d1,d2,rfl⟩:=f2 y hy
       rcases qW_ l sb with c|c
       ·exact R6 s1 c1 (by omega) c hj hl
       ·exact LeK.trans (low j hj c1 c2) (R6 s2 (jg_ _) c (by omega) (by omega) hl)
      ·obtain⟨l,hl,d1,d2,rfl⟩:=f3 y hy
       exact LeK.trans (low j hj c1 c2) (R6 s2 (jg_ _) (by omega) d2 (by omega) hl)
   by_cases hc:na-k<=m
   ·rw[if_pos hc]
    exact jy_ (UP hO hM dS.kind hend)
   ·rw[if_neg hc]
    exact jy_ (UQ hO hM dS.kind hend)
end
end S64
namespace S64
open PySem PyProof.Rows
abbrev Rn:=Nat×Nat×Nat
def JP (lo n:Nat):StateT SortSt Sem (ForInStep (Option Unit×Nat)):=do
 modify fun s=>setPending s ((pendingOf s).push (lo,n,0))
 pure (.yield (none,lo+n))
def JM (pw:Nat):StateT SortSt Sem (ForInStep (Option Unit×Unit)):=do
 let g <- get
 match if (pendingOf g).size > 1 then (pendingOf g)[(pendingOf g).size-2]? else none with
 |some (_,_,older)=>if older<=pw then pure (.done (none,())) else do
   let b <- mergeAt' ((pendingOf g).size-2)
   if (!b)=true then pure (.done (some (),())) else pure (.yield (none,()))
 |_=>pure (.done (none,()))
def JB (size lo n:Nat):StateT SortSt Sem (ForInStep (Option Unit×Nat)):=do
 let g <- get
 match (pendingOf g).back? with
 |some (s1,n1,_)=>do
  let c <- forIn [0:size] ((none,()):Option Unit×Unit) fun _ _=>JM (power' size (2*s1+n1) (2*s1+n1+n1+n) size)
  match c.1 with
  |some r=>pure (.done (some r,lo))
  |none=>do
   modify fun s=>setPending s ((pendingOf s).modify ((pendingOf s).size-1) fun (st,len,_)=>(st,len,power' size (2*s1+n1) (2*s1+n1+n1+n) size))
   JP lo n
 |_=>JP lo n
def RN (size bG lo n:Nat):StateT SortSt Sem (ForInStep (Option Unit×Nat)):=
 if n<bG then (do
  liftM (rule "list.sort.binary-insertion")
  let b <- binarySort' lo (min (size-lo) bG) n
  if (!b)=true then pure (.done (some (),lo)) else JB size lo (min (size-lo) bG))
 else JB size lo n
def RB (size bG:Nat)(c:Option Unit×Nat):StateT SortSt Sem (ForInStep (Option Unit×Nat)):=
 if c.2 >= size then pure (.done (none,c.2)) else do
  let x <- countRun' c.2 (size-c.2)
  match x with
  |some n=>RN size bG c.2 n
  |_=>pure (.done (some (),c.2))
def FI (p:Array Rn):Nat:=if Option.any (fun x=>decide (x<p[p.size-2+1]?.elim 0 fun x=>x.snd.fst)) (if p.size-2 > 0 then Option.map (fun x=>x.snd.fst) p[p.size-2-1]? else none)=true then p.size-2-1 else p.size-2
def FB:StateT SortSt Sem (ForInStep (Option Unit×Unit)):=do
 let g <- get
 if (pendingOf g).size<=1 then pure (.done (none,()))
 else do
  let b <- mergeAt' (FI (pendingOf g))
  if (!b)=true then pure (.done (some (),())) else pure (.yield (none,()))
theorem OC:sortRuns'=(do
 let g <- get
 let c <- forIn [0:(arrOf g).size] ((none,0):Option Unit×Nat) fun _ c=>RB (arrOf g).size (minRun' (arrOf g).size (arrOf g).size 0) c
 match c.1 with
 |some r=>pure r
 |none=>do
  let c <- forIn [0:(arrOf g).size] ((none,()):Option Unit×Unit) fun _ _=>FB
  match c.1 with
  |some r=>pure r
  |none=>pure ()):=by
 rw[sortRuns'_eq]
 refine jG_ (bind _) (funext fun g=>?_)
 refine congr (jG_ bind (jG_ (forIn _ _) (funext fun _=>funext fun c=>?_))) (funext fun c=>?_)
 ·unfold RB
  refine jG_ (ite _ _) (jG_ (bind _) (funext fun x=>?_))
  cases x with
  |none=>rfl
  |some n=>
   dsimp only
   unfold RN
   by_cases hn:n<minRun' (arrOf g).size (arrOf g).size 0
   ·rw[if_pos hn,if_pos hn]
    refine jG_ (bind _) (funext fun _=>jG_ (bind _) (funext fun b=>jG_ (ite _ _) ?_))
    unfold JB
    refine jG_ (bind _) (funext fun g'=>?_)
    try dsimp only
    rcases (pendingOf g').back? with _|⟨s1,n1,q⟩
    ·rfl
    ·try dsimp only
     refine congr (jG_ bind (jG_ (forIn _ _) (funext fun _=>funext fun _=>?_))) (funext fun c=>?_)
     ·unfold JM
      refine jG_ (bind _) (funext fun g2=>?_)
      try dsimp only
      rcases (if (pendingOf g2).size > 1 then (pendingOf g2)[(pendingOf g2).size-2]? else none) with _|⟨a,b,c⟩
      ·rfl
      ·rfl
     ·obtain⟨r,u⟩:=c
      cases r<;>rfl
   ·rw[if_neg hn,if_neg hn]
    unfold JB
    refine jG_ (bind _) (funext fun g'=>?_)
    try dsimp only
    rcases (pendingOf g').back? with _|⟨s1,n1,q⟩
    ·rfl
    ·try dsimp only
     refine congr (jG_ bind (jG_ (forIn _ _) (funext fun _=>funext fun _=>?_))) (funext fun c=>?_)
     ·unfold JM
      refine jG_ (bind _) (funext fun g2=>?_)
      try dsimp only
      rcases (if (pendingOf g2).size > 1 then (pendingOf g2)[(pendingOf g2).size-2]? else none) with _|⟨a,b,c⟩
      ·rfl
      ·rfl
     ·obtain⟨r,u⟩:=c
      cases r<;>rfl
 ·obtain⟨r,lo⟩:=c
  cases r with
  |some r=>rfl
  |none=>
   dsimp only
   refine congr (jG_ bind (jG_ (forIn _ _) (funext fun _=>funext fun c=>?_))) (funext fun c=>?_)
   ·rfl
   ·obtain⟨r,u⟩:=c
    cases r<;>rfl
section
variable {prog:Program} {w:World} {A:Around} {E:Value->Shared->Prop} {s:Shared} {a₀:Array Keyed} {κ:KeyKind} {kd:SortKind}
def Ch (κ:KeyKind)(xs:Array Keyed):List Rn->Nat->Nat->Prop
 |[],a,b=>a=b
 |p::r,a,b=>p.1=a/\1<=p.2.1/\SO κ xs a (a+p.2.1)/\Ch κ xs r (a+p.2.1) b
theorem Ch.le {xs:Array Keyed}:∀{l:List Rn} {a b:Nat},Ch κ xs l a b->a+l.length<=b
 |[],a,b,h=>Nat.le_of_eq h
 |p::r,a,b,h=>by have:=Ch.le h.2.2.2;have:=h.2.1;simp only[jW_];omega
theorem Ch.append {xs:Array Keyed}:∀{l l':List Rn} {a b:Nat},Ch κ xs (l++l') a b ↔ ∃c,Ch κ xs l a c/\Ch κ xs l' c b
 |[],l',a,b=>⟨fun h=>⟨a,rfl,h⟩,fun ⟨c,e,h⟩=>by cases e;exact h⟩
 |p::r,l',a,b=>⟨fun ⟨h1,h2,h3,h4⟩=>by obtain⟨c,g1,g2⟩:=Ch.append.mp h4;exact⟨c,⟨h1,h2,h3,g1⟩,g2⟩,fun ⟨c,⟨h1,h2,h3,h4⟩,h5⟩=>⟨h1,h2,h3,Ch.append.mpr ⟨c,h4,h5⟩⟩⟩
theorem Ch.congr {xs ys:Array Keyed}:∀{l:List Rn} {a b:Nat},(∀i,a<=i->i<b->ys[i]?=xs[i]?)->Ch κ xs l a b->Ch κ ys l a b
 |[],a,b,_,h=>h
 |p::r,a,b,e,⟨h1,h2,h3,h4⟩=>⟨h1,h2,KI (fun i g1 g2=>e i g1 (by have:=h4.le;omega)) h3,h4.congr (fun i g1 g2=>e i (by omega) g2)⟩
theorem Ch.same {xs:Array Keyed}:∀{l l':List Rn} {a b:Nat},l.map (fun p=>(p.1,p.2.1))=l'.map (fun p=>(p.1,p.2.1))->Ch κ xs l a b->Ch κ xs l' a b
 |[],[],_,_,_,h=>h
 |[],_::_,_,_,e,_=>by cases e
 |_::_,[],_,_,e,_=>by cases e
 |p::r,p'::r',a,b,e,⟨h1,h2,h3,h4⟩=>by
  simp only[j1_,xG_,Prod.mk.injEq]at e
  obtain⟨⟨e1,e2⟩,e3⟩:=e
  refine⟨e1 ▸ h1,e2 ▸ h2,e2 ▸ h3,?_⟩
  rw[<-e2]
  exact h4.same e3
theorem Qx {st:SortSt}   (hO:LtOk kd κ a₀ prog w A E s)(hB:SB kd a₀ st)(hC:Ch κ (arrOf st) (pendingOf st).toList 0 m)(hm:m<=a₀.size)(hi:i+1<(pendingOf st).size)
  (h:∀ab,SB kd a₀ ab->Ch κ (arrOf ab) (pendingOf ab).toList 0 m->(pendingOf ab).size+1=(pendingOf st).size->Out 0 m (arrOf st) (arrOf ab)->Q true ab):
  wpS (model prog w) A E s (mergeAt' i) Q st:=by
 have hl:(pendingOf st).toList.length=(pendingOf st).size:=j3_
 have e0:(pendingOf st).toList=(pendingOf st).toList.take i++(pendingOf st)[i]::(pendingOf st)[i+1]::(pendingOf st).toList.drop (i+2):=by
  have h1:=(q7_ i (pendingOf st).toList).symm
  rw[q5_ (by omega),q5_ (by omega)]at h1
  exact h1
 obtain⟨l1,br⟩:∃l,l=(pendingOf st).toList.take i:=⟨_,rfl⟩
 obtain⟨l2,bX⟩:∃l,l=(pendingOf st).toList.drop (i+2):=⟨_,rfl⟩
 obtain⟨⟨sa,na,pw⟩,hx⟩:∃p,p=(pendingOf st)[i]:=⟨_,rfl⟩
 obtain⟨⟨sb,nb,q⟩,hy⟩:∃p,p=(pendingOf st)[i+1]:=⟨_,rfl⟩
 rw[<-br,<-bX,<-hx,<-hy]at e0
 have kh:l1.length=i:=by rw[br,jB_];omega
 rw[e0]at hC
 obtain⟨c,c1,c2,c3,c4,c5,c6,c7,c8⟩:=Ch.append.mp hC
 dsimp only at c2 c3 c4 c5 c6 c7 c8
 subst c2
 subst c5
 have hle:=c8.le
 have hle1:=c1.le
 refine US hO hB (by rw[hx];exact qB_ (by omega)) (by rw[hy];exact qB_ hi) rfl c3 c6 (by omega) c4 c7 (fun ab g1 g2 g3 g4=>?_)
 have e1:(pendingOf ab).toList=l1++(sa,na+nb,pw)::l2:=by
  rw[g2,Array.toList_eraseIdxIfInBounds,Array.toList_setIfInBounds,e0,List.set_append_right _ _ (by omega),kh,qC_,ze_,List.eraseIdx_append_of_length_le (by omega),kh,show i+1-i=1 by omega]
  rfl
 refine h ab g1 ?_ ?_ (fun i hi=>g3 i (by omega))
 ·rw[e1]
  refine Ch.append.mpr ⟨sa,c1.congr (fun i _ h2=>g3 i (by omega)),rfl,?_,?_,?_⟩
  ·show 1<=na+nb
   omega
  ·rw[show sa+(na+nb)=sa+na+nb by omega];exact g4
  ·show Ch κ (arrOf ab) l2 (sa+(na+nb)) m
   rw[show sa+(na+nb)=sa+na+nb by omega]
   exact c8.congr (fun i h1 _=>g3 i (by omega))
 ·have l1':(pendingOf ab).toList.length=(l1++(sa,na+nb,pw)::l2).length:=by rw[e1]
  have l2':(pendingOf st).toList.length=(l1++(sa,na,pw)::(sa+na,nb,q)::l2).length:=by rw[e0]
  simp only[jo_,jW_,j3_]at l1' l2'
  omega
theorem Dd_ {st:SortSt}{lo n:Nat}  (hB:SB kd a₀ st)(hC:Ch κ (arrOf st) (pendingOf st).toList 0 lo)(hn:1<=n)(hs:SO κ (arrOf st) lo (lo+n))
  (h:∀ab,SB kd a₀ ab->Ch κ (arrOf ab) (pendingOf ab).toList 0 (lo+n)->Q (.yield (none,lo+n)) ab):wpS (model prog w) A E s (JP lo n) Q st:=by
 unfold JP
 refine jy_ (zC_ (jF_ (h _ ⟨hB.perm,hB.kind,hB.failed⟩ ?_)))
 show Ch κ (arrOf st) ((pendingOf st).push (lo,n,0)).toList 0 (lo+n)
 rw[zX_]
 exact Ch.append.mpr ⟨lo,hC,rfl,hn,hs,rfl⟩
theorem De_ {st:SortSt}{lo n:Nat}  (hO:LtOk kd κ a₀ prog w A E s)(hB:SB kd a₀ st)(hC:Ch κ (arrOf st) (pendingOf st).toList 0 lo)(hn:1<=n)(hz:lo+n<=a₀.size)(hs:SO κ (arrOf st) lo (lo+n))
  (h:∀ab,SB kd a₀ ab->Ch κ (arrOf ab) (pendingOf ab).toList 0 (lo+n)->Q (.yield (none,lo+n)) ab):wpS (model prog w) A E s (JB a₀.size lo n) Q st:=by
 unfold JB
 refine jy_ (wpS_get ?_)
 rcases (pendingOf st).back? with _|⟨s1,n1,q⟩
 ·exact Dd_ hB hC hn hs h
 ·dsimp only
  generalize power' a₀.size (2*s1+n1) (2*s1+n1+n1+n) a₀.size=pw
  refine jy_ (xW_ (qI_ (I:=fun _ c ab=>c=(none,())/\SB kd a₀ ab/\Ch κ (arrOf ab) (pendingOf ab).toList 0 lo/\Out 0 lo (arrOf st) (arrOf ab))
   (Q:=fun c ab=>c=(none,())/\SB kd a₀ ab/\Ch κ (arrOf ab) (pendingOf ab).toList 0 lo/\Out 0 lo (arrOf st) (arrOf ab)) ?step (fun _ _ hh=>hh) ⟨rfl,hB,hC,Out.refl _ _ _⟩) ?post)
  case step=>
   rintro x c ab _ _ ⟨rfl,g1,g2,g3⟩
   unfold JM
   refine jy_ (wpS_get ?_)
   rcases hh:(if (pendingOf ab).size > 1 then (pendingOf ab)[(pendingOf ab).size-2]? else none) with _|⟨a,b,older⟩
   ·exact jF_ ⟨rfl,g1,g2,g3⟩
   ·dsimp only
    have jq:(pendingOf ab).size > 1:=by
     by_cases hq:(pendingOf ab).size > 1
     ·exact hq
     ·rw[if_neg hq]at hh;cases hh
    split
    ·exact jF_ ⟨rfl,g1,g2,g3⟩
    ·refine jy_ (Qx hO g1 g2 (by omega) (by omega) (fun aJ k1 k2 k3 k4=>?_))
     rw[if_neg (by simp)]
     exact jF_ ⟨rfl,k1,k2,g3.trans k4⟩
  case post=>
   rintro c ab ⟨rfl,g1,g2,g3⟩
   dsimp only
   refine jy_ (zC_ ?_)
   refine Dd_ ⟨g1.perm,g1.kind,g1.failed⟩ ?_ hn ?_ h
   ·refine Ch.same ?_ g2
    show _=((pendingOf ab).modify _ _).toList.map _
    rw[Array.toList_modify]
    apply qL_
    intro i
    rw[je_,je_,List.getElem?_modify]
    by_cases hi:(pendingOf ab).size-1=i
    ·simp only[if_pos hi];cases (pendingOf ab).toList[i]?<;>rfl
    ·simp only[if_neg hi];cases (pendingOf ab).toList[i]?<;>rfl
   ·exact KI (fun i h1 h2=>g3 i (by omega)) hs
theorem R7 {st:SortSt}  (hO:LtOk kd κ a₀ prog w A E s)(hB:SB kd a₀ st)(hp:pendingOf st = #[])
  (h:∀ab,SB kd a₀ ab->SO κ (arrOf ab) 0 a₀.size->Q () ab):wpS (model prog w) A E s sortRuns' Q st:=by
 rw[OC]
 refine jy_ (wpS_get ?_)
 rw[hB.size]
 generalize minRun' a₀.size a₀.size 0=mr
 refine jy_ (xW_ (qI_ (I:=fun x c ab=>SB kd a₀ ab/\∃lo,c=(none,lo)/\lo<=a₀.size/\(x<=lo\/a₀.size<=lo)/\Ch κ (arrOf ab) (pendingOf ab).toList 0 lo)
  (Q:=fun c ab=>SB kd a₀ ab/\c=(none,a₀.size)/\Ch κ (arrOf ab) (pendingOf ab).toList 0 a₀.size) ?step ?fin ⟨hB,0,rfl,by omega,by omega,by rw[hp];rfl⟩) ?post)
 case fin=>
  rintro c ab ⟨g1,lo,rfl,g2,g3,g4⟩
  obtain rfl:lo=a₀.size:=by omega
  exact⟨g1,rfl,g4⟩
 case step=>
  rintro x c ab _ hx ⟨g1,lo,rfl,g2,g3,g4⟩
  unfold RB
  dsimp only
  by_cases aV:lo >= a₀.size
  ·rw[if_pos aV]
   obtain rfl:lo=a₀.size:=by omega
   exact jF_ ⟨g1,rfl,g4⟩
  ·rw[if_neg aV]
   have aO:∀n,1<=n->lo+n<=a₀.size->∀aJ,SB kd a₀ aJ->Ch κ (arrOf aJ) (pendingOf aJ).toList 0 (lo+n)->SB kd a₀ aJ/\∃ki,((none,lo+n):Option Unit×Nat)=(none,ki)/\ki<=a₀.size/\(x+1<=ki\/a₀.size<=ki)/\Ch κ (arrOf aJ) (pendingOf aJ).toList 0 ki :=
    fun n h1 h2 aJ k1 k2=>⟨k1,lo+n,rfl,h2,by omega,k2⟩
   refine jy_ (R3 hO (by omega) (by omega) g1 (fun m aJ k1 k2 k3 k4=>?_))
   have k5:Ch κ (arrOf aJ) (pendingOf aJ).toList 0 lo:=by rw[k1.pe];exact g4.congr (fun i _ h2=>k1.out i (.inl h2))
   dsimp only
   unfold RN
   by_cases hm:m<mr
   ·rw[if_pos hm]
    refine jy_ (IL (jy_ (OA hO (by omega) (by omega) k1.b k4 (fun cK q1 q2=>?_))))
    rw[if_neg (by simp)]
    have q3:Ch κ (arrOf cK) (pendingOf cK).toList 0 lo:=by rw[q1.pe];exact k5.congr (fun i _ h2=>q1.out i (.inl h2))
    exact De_ hO q1.b q3 (by omega) (by omega) q2 (aO _ (by omega) (by omega))
   ·rw[if_neg hm]
    exact De_ hO k1.b k5 k2 (by omega) k4 (aO _ k2 (by omega))
 case post=>
  rintro c ab ⟨g1,rfl,g4⟩
  dsimp only
  have hle:=g4.le
  refine jy_ (xW_ (qI_ (I:=fun x c aJ=>c=(none,())/\SB kd a₀ aJ/\Ch κ (arrOf aJ) (pendingOf aJ).toList 0 a₀.size/\(pendingOf aJ).size+x<=a₀.size)
   (Q:=fun c aJ=>c=(none,())/\SB kd a₀ aJ/\Ch κ (arrOf aJ) (pendingOf aJ).toList 0 a₀.size/\(pendingOf aJ).size<=1) ?step2 ?fin2 ⟨rfl,g1,g4,by simpa using hle⟩) ?post2)
  case fin2=>
   rintro c aJ ⟨rfl,k1,k2,k3⟩
   exact⟨rfl,k1,k2,by omega⟩
  case step2=>
   rintro x c aJ _ hx ⟨rfl,k1,k2,k3⟩
   unfold FB
   refine jy_ (wpS_get ?_)
   by_cases h1:(pendingOf aJ).size<=1
   ·rw[if_pos h1]
    exact jF_ ⟨rfl,k1,k2,h1⟩
   ·rw[if_neg h1]
    have hFI:FI (pendingOf aJ)+1<(pendingOf aJ).size:=by
     unfold FI
     repeat' split
     all_goals omega
    refine jy_ (Qx hO k1 k2 (jg_ _) hFI (fun cK q1 q2 q3 q4=>?_))
    rw[if_neg (by simp)]
    exact jF_ ⟨rfl,q1,q2,by omega⟩
  case post2=>
   rintro c aJ ⟨rfl,k1,k2,k3⟩
   refine jF_ (h aJ k1 ?_)
   have hl:(pendingOf aJ).toList.length<=1:=by simpa using k3
   match aP:(pendingOf aJ).toList,hl with
   |[],_=>rw[aP]at k2;intro i j h1 h2 h3;rw[<-show 0=a₀.size from k2]at h3;omega
   |[p],_=>
    rw[aP]at k2
    obtain⟨c1,c2,c3,c4⟩:=k2
    have e:0+p.2.1=a₀.size:=c4
    rw[e]at c3
    exact c3
end
end S64
namespace HT
theorem lexLt_irr2:∀{xs:α2},HT.lexLt xs xs=false
 |[]=>rfl
 |x::xs=>by rw[HT.lexLt_cons,if_pos rfl];exact lexLt_irr2
theorem lexLt_trans:∀{xs ys zs:α2},lexLt xs ys=true->lexLt ys zs=true->lexLt xs zs=true
 |[],[],_,h,_=>by cases h
 |_::_,[],_,h,_=>by cases h
 |_,_::_,[],_,h=>by cases h
 |[],_::_,_::_,_,_=>rfl
 |x::xs,y::ys,z::zs,h,g=>by
  rw[lexLt_cons]at h g ⊢
  by_cases e1:x=y
  ·rw[if_pos e1]at h
   by_cases e2:y=z
   ·rw[if_pos e2]at g;rw[if_pos (e1.trans e2)];exact lexLt_trans h g
   ·rw[if_neg e2]at g;rw[if_neg (e1 ▸ e2),e1];exact g
  ·rw[if_neg e1]at h
   by_cases e2:y=z
   ·rw[if_neg (e2 ▸ e1),<-e2];exact h
   ·rw[if_neg e2]at g
    have:=qA_ h
    have:=qA_ g
    rw[if_neg (by omega)]
    exact qh_ (by omega)
theorem lexLt_total:∀{xs ys:α2},lexLt xs ys=false->lexLt ys xs=false->xs=ys
 |[],[],_,_=>rfl
 |[],_::_,h,_=>by cases h
 |_::_,[],_,h=>by cases h
 |x::xs,y::ys,h,g=>by
  rw[lexLt_cons]at h g
  by_cases e:x=y
  ·rw[if_pos e]at h;rw[if_pos e.symm]at g;rw[e,lexLt_total h g]
  ·rw[if_neg e]at h;rw[if_neg (qv_ e)]at g
   have:=xq_ h
   have:=xq_ g
   omega
end HT
namespace S64
open PySem PyProof.Rows L2
def pblt (x y:Int×α2):Bool:=if x.1=y.1 then HT.lexLt x.2 y.2 else decide (x.1<y.1)
theorem NM  (h:pblt a b=true)(g:pblt b c=true):pblt a c=true:=by
 unfold pblt at *
 by_cases e1:a.1=b.1
 ·rw[if_pos e1]at h
  by_cases e2:b.1=c.1
  ·rw[if_pos e2]at g;rw[if_pos (e1.trans e2)];exact HT.lexLt_trans h g
  ·rw[if_neg e2]at g;rw[if_neg (e1 ▸ e2),e1];exact g
 ·rw[if_neg e1]at h
  by_cases e2:b.1=c.1
  ·rw[if_neg (e2 ▸ e1),<-e2];exact h
  ·rw[if_neg e2]at g
   have:=qA_ h
   have:=qA_ g
   rw[if_neg (by omega)]
   exact qh_ (by omega)
theorem NN  (h:pblt a b=false)(g:pblt b a=false):a=b:=by
 unfold pblt at *
 by_cases e:a.1=b.1
 ·rw[if_pos e]at h;rw[if_pos e.symm]at g
  exact Prod.ext e (HT.lexLt_total h g)
 ·rw[if_neg e]at h;rw[if_neg (qv_ e)]at g
  have:=xq_ h
  have:=xq_ g
  omega
theorem Yw  (h:pblt a c=true):pblt a b=true\/pblt b c=true:=by
 cases e:pblt a b with
 |true=>exact .inl rfl
 |false=>
  cases e2:pblt b a with
  |true=>exact .inr (NM e2 h)
  |false=>have:=NN e e2;subst this;exact .inr h
def KeyV (K:α3)(H:Hp)(v:Value)(n:Int)(ns:α2):Prop:=∃t u,v=.ref t/\SqT K H t [.int n,.ref u]/\SqT K H u (ns.map V.int)
open Classical in
noncomputable def kS (K:α3)(H:Hp):PyProof.Rows.KeyKind where
 α:=Int×α2
 blt:=pblt
 irrefl:=fun a=>by unfold pblt;rw[if_pos rfl];exact HT.lexLt_irr2
 trans:=fun _ _ _=>NM
 negTrans:=fun _ _ _=>Yw
 total:=fun _ _=>NN
 keyOf:=fun v=>if h:∃p:Int×α2,KeyV K H v p.1 p.2 then some h.choose else none
 dflt:=(0,[])
section
variable {X:Cx} {pins:α7} {σ:L2.St} {H:Hp} {s:Shared}
theorem Lc:∀{ns ms:α2},ns.map V.int=ms.map V.int->ns=ms
 |[],[],_=>rfl
 |[],_::_,h=>by cases h
 |_::_,[],h=>by cases h
 |n::ns,m::ms,h=>by
  simp only[j1_,xG_,V.int.injEq]at h
  rw[h.1,Lc h.2]
theorem KeyV.inj (I:Inv X pins σ H s)    (h:KeyV X.K H v n ns)(g:KeyV X.K H v m ms):n=m/\ns=ms:=by
 obtain⟨t,u,rfl,h1,h2⟩:=h
 obtain⟨t',u',e,g1,g2⟩:=g
 cases e
 have e:=I.tuple_inj h1 g1
 simp only[xG_,V.int.injEq,V.ref.injEq,and_true]at e
 obtain⟨rfl,rfl⟩:=e
 exact⟨rfl,Lc (I.tuple_inj h2 g2)⟩
theorem Yx (I:Inv X pins σ H s)    (h:KeyV X.K H x.1 n ns):KE (kS X.K H) x=(n,ns):=by
 have hex:∃p:Int×α2,KeyV X.K H x.1 p.1 p.2:=⟨(n,ns),h⟩
 have e:(kS X.K H).keyOf x.1=some hex.choose:=dif_pos hex
 have e2:=KeyV.inj I hex.choose_spec h
 unfold KE
 rw[e]
 exact Prod.ext e2.1 e2.2
theorem Bp_ (I:Inv X pins σ H s)   (hu:A.units+6<cLine)    (hv:KeyV X.K H v n ns)(hw:KeyV X.K H u m ms)  (h:Q (pblt (n,ns) (m,ms)) s):
  wpAny (model X.prog X.w) A (keyLt' (tuples' true) v u) Q E s:=by
 obtain⟨a,ta,rfl,ha,hta⟩:=hv
 obtain⟨b,tb,rfl,hb,ju⟩:=hw
 obtain⟨its,r1,⟨o1,q1,c1,n1,d1⟩,_⟩:=I.tuple ha
 obtain⟨aH,r2,⟨o2,q2,c2,n2,d2⟩,_⟩:=I.tuple hb
 obtain⟨jts,k1,p1,_⟩:=I.tuple hta
 obtain⟨jts2,k2,p2,_⟩:=I.tuple ju
 have i1:IntsAre jts.toArray.toList ns:=intsAre_of k1
 have i2:IntsAre jts2.toArray.toList ms:=intsAre_of k2
 have eqT:=fun (bb:Bool) (he:EqD X.K H 2 (.ref ta) (.ref tb) bb)=>(EqD.at (x:=V.ref ta) (y:=V.ref tb) (u:=Value.ref ta) (v:=Value.ref tb) I 2 A (by omega) rfl rfl he).1
 have hed:=EqD.ints (K:=X.K) (H:=H) (a:=ta) (c:=tb) (xs:=ns) (ys:=ms) (.inr ⟨hta,ju⟩) 1
 cases r1 with
 |cons e1 r1'=>cases r1' with
  |cons e2 r1''=>cases r1'';cases r2 with
   |cons e3 r2'=>cases r2' with
    |cons e4 r2'' =>
     cases r2''
     obtain⟨t1,rfl⟩:=e1
     obtain⟨t2,rfl⟩:=e3
     cases e2
     cases e4
     refine PySem.W.kat_lt q1 d1 q2 d2 ?_
     simp only[zP_,List.zip_nil_right]
     refine PySem.W.kat_cons (wpAny_eqBool_int (PySem.W.kat_go (fun e=>?_) (fun e=>?_)))
     ·have lb:n=m:=by simpa using e
      refine PySem.W.kat_yes (PySem.W.kat_cons (eqT _ hed _ _ _ _ (PySem.W.kat_go (fun e'=>?_) (fun e'=>?_))))
      ·have fZ:ns=ms:=qA_ e'
       refine PySem.W.kat_yes (PySem.W.kat_nil ?_)
       have:pblt (n,ns) (m,ms)=decide (([Value.int n t1,Value.ref ta].toArray).size<([Value.int m t2,Value.ref tb].toArray).size):=by
        subst lb;subst fZ
        unfold pblt
        rw[if_pos rfl,HT.lexLt_irr2];rfl
       rw[<-this];exact h
      ·have fZ:ns≠ms:=xq_ e'
       refine PySem.W.kat_no (PySem.W.kat_one _ _ ?_)
       have:pblt (n,ns) (m,ms)=HT.lexLt ns ms:=by unfold pblt;rw[if_pos lb]
       rw[this]at h
       exact HT.lt_tupInts p1 p2 i1 i2 (by omega) h
     ·have lb:n≠m:=by simpa using e
      refine PySem.W.kat_no ?_
      show wpAny _ _ (oneLt' true _ _) _ _ _
      refine oneLt_int ?_
      have:pblt (n,ns) (m,ms)=decide (n<m):=by unfold pblt;rw[if_neg lb]
      rw[<-this];exact h
theorem ltOk (I:Inv X pins σ H s)   (hu:A.units+6<cLine)  (hk:∀x∈a₀.toList,∃n ns,KeyV X.K H x.1 n ns):LtOk (tuples' true) (kS X.K H) a₀ X.prog X.w A E s:=by
 intro x y st Q hx hy jW h
 obtain⟨n,ns,h1⟩:=hk x hx
 obtain⟨m,ms,h2⟩:=hk y hy
 rw[Yx I h1,Yx I h2]at h
 rw[lt'_eq]
 refine jy_ (wpS_get ?_)
 rw[jW]
 refine jy_ (wpS_lift (xL_ (Bp_ I hu h1 h2 ⟨rfl,?_⟩)))
 exact jF_ h
end
end S64
namespace S64
open PySem PyProof.Rows L2
theorem R8 {α β:Type}{f:α->β}:∀{k l:List β},k.Perm l->∀m:List α,k=m.map f->∃m':List α,m'.Perm m/\l=m'.map f:=by
 intro k l h
 induction h with
 |nil=>intro m e;cases m with
  |nil=>exact⟨[],.refl _,rfl⟩
  |cons=>cases e
 |cons x _ ih=>intro m e;cases m with
  |nil=>cases e
  |cons y m=>
   simp only[j1_,xG_]at e
   obtain⟨rfl,e⟩:=e
   obtain⟨m',p,rfl⟩:=ih m e
   exact⟨y::m',p.cons y,rfl⟩
 |swap x y l=>intro m e;cases m with
  |nil=>cases e
  |cons a m=>cases m with
   |nil=>cases e
   |cons b m=>
    simp only[j1_,xG_]at e
    obtain⟨rfl,rfl,rfl⟩:=e
    exact⟨b::a::m,.swap a b m,rfl⟩
 |trans _ _ ih1 ih2=>
  intro m e
  obtain⟨m1,p1,e1⟩:=ih1 m e
  obtain⟨m2,p2,e2⟩:=ih2 m1 e1
  exact⟨m2,p2.trans p1,e2⟩
abbrev Wd:=Addr×α2
def wv (ws:List Wd):List V:=ws.map fun w=>V.ref w.1
def wu (ws:List Wd):List Value:=ws.map fun w=>Value.ref w.1
theorem Xj:∀ws:List Wd,Vals (wv ws) (wu ws)
 |[]=>.nil
 |_::r=>.cons rfl (Xj r)
theorem Ia:∀{ts:List Addr} {us:List Value},Vals (ts.map V.ref) us->us=ts.map Value.ref
 |[],_,h=>by cases h;rfl
 |t::ts,_,h=>by
  cases h with
  |cons e r=>
   have e':_=Value.ref t:=e
   rw[Ia r,e'];rfl
def kw (w:Wd):Int×α2:=((w.2.length:Int),w.2)
def Srt (os:List Wd):Prop:=os.Pairwise fun p q=>pblt (kw q) (kw p)=false
def WsOk (K:α3)(H:Hp)(ws:List Wd):Prop:=∀w∈ws,SqT K H w.1 (w.2.map V.int)
def TsOk (K:α3)(H:Hp)(ts:List Addr)(ws:List Wd):Prop:=∀(j:Nat) t w,ts[j]?=some t->ws[j]?=some w->SqT K H t [.int w.2.length,.ref w.1]
section
variable {X:Cx} {pins:α7} {σ:L2.St} {H H0:Hp} {s:Shared} {A:Around} {E:Value->Shared->Prop} {ws:List Wd} {ts:List Addr} {a kT:Addr} {e1:Nat} {P:PySem.Fin->Shared->Prop} {f:Value}
def Turn (X:Cx)(pins:α7)(σ:L2.St)(A:Around)(f:Value)(ws:List Wd)(H0:Hp):Prop:=∀w∈ws,∀(H':Hp) (s':Shared),Inv X pins σ H' s'->Same H0 H' ->
 wpAny (model X.prog X.w) A (call f [.ref w.1]) (EP X pins σ (fun k fX=>∃t,k=.ref t/\Same H' fX/\SqT X.K fX t [.int w.2.length,.ref w.1])) (fun _ _=>False) s'
abbrev Emp (a:Addr)(e1:Nat):L2.HO:=.ext fun h=>h.get? a=some (seqObj "list" #[] e1)
def Yy (X:Cx)(pins:α7)(σ:L2.St)(H0:Hp)(a:Addr)(ws:List Wd)(P:PySem.Fin->Shared->Prop):Prop:=
 ∀s' H' os,Inv X pins σ H' s'->Same H0 H'->H' a=some (.lst (wv os))->os.Perm ws->Srt os->P (.done (.ret .none)) s'
theorem Df_ {st:SortSt}{os:List Wd}(I:Inv X pins σ H s)(ha:H a=some (Emp a e1))(hk:H kT=some (.lst (ts.map V.ref)))(jv:kT≠a)(h0:Same H0 H)(hn:H0 a=none)(jw:H0 kT=none)(hz:os.length<=sizeLine)
  (harr:(arrOf st).map (·.2)=(wu os).toArray) (hf:failedOf st=none) (hp:os.Perm ws) (hs:Srt os) (h:Yy X pins σ H0 a ws P):
  wpAny (model X.prog X.w) A (ksk_tail a false e1 (.ref kT) st) P E s:=by
 obtain⟨z,its,n,r,el,e⟩:=I.lstM hk
 have I1:Inv X pins σ (upd H kT (.lst [])) {s with heap:=s.heap.update kT (Obj.mapSeq fun _=>(#[]:Array Value)),toks:=s.toks}:=I.lset (its':=[]) (f:=fun _ => #[]) hk e rfl .nil (jZ_ _)
 have jx:upd H kT (.lst []) a=some (Emp a e1):=by rw[Ai (qv_ jv)];exact ha
 obtain⟨e2,_,_⟩:=I1.hok a _ jx
 unfold ksk_tail
 refine jc_ (listUpdate_at e rfl ?_ (by rw[jk_,<-el];exact z) (jZ_ _))
 refine jc_ (wpAny_letGo ?_)
 refine jc_ (seqEpoch_at e2 rfl ?_)
 simp only[jQ_,qK_]
 rw[harr]
 refine jc_ (listUpdate_at e2 rfl ?_ (jZ_ _) (by rw[jk_];simp only[wu,ja_];omega))
 rw[hf]
 simp only[bne_self_eq_false,jQ_,qK_]
 have q:=x1_ (f:=fun _=>(wu os).toArray) e2
 have I2:Inv X pins σ (upd (upd H kT (.lst [])) a (.lst (wv os))) {s with heap:=(s.heap.update kT (Obj.mapSeq fun _=>(#[]:Array Value))).update a (Obj.mapSeq fun _=>(wu os).toArray),toks:=s.toks}:=by
  refine I1.write (x:=a) (e:=a) (by rw[jx];exact trivial) (.inl rfl) (fun b' u hb hu=>(j5_ _ _ (qv_ hb)).trans hu) ⟨_,q⟩ ⟨by simp only[wv,ja_];exact hz,wu os,_,Xj os,q⟩
 exact jq_ (h _ _ os I2 ((h0.over jw).over hn) Ab hp hs)
theorem NO (hl:ts.length=ws.length):((ts.map Value.ref).toArray.zip (wu ws).toArray).toList=(ts.zip ws).map fun p=>(Value.ref p.1,Value.ref p.2.1):=by
 rw[ksk_zip,zO_]
 unfold wu
 rw[List.zip_map]
 rfl
theorem Xk (hl:ts.length=ws.length)(hT:TsOk X.K H ts ws)  (hp:p∈ts.zip ws):SqT X.K H p.1 [.int p.2.2.length,.ref p.2.1]:=by
 obtain⟨j,hj,e⟩:=xY_.mp hp
 rw[List.getElem_zip]at e
 rw[zM_]at hj
 subst e
 exact hT j _ _ (jf_ (by omega)) (jf_ (by omega))
theorem Xl (I:Inv X pins σ H s):∀(ts:List Addr) (ws:List Wd),ts.length=ws.length->(∀p∈ts.zip ws,SqT X.K H p.1 [.int p.2.2.length,.ref p.2.1])->∃fs:List Value,PySem.W.KatTups s.heap (ts.map Value.ref) fs/\fs.length=ts.length/\∀v∈fs,∃n t,v=.int n t
 |[],[],_,_=>⟨[],trivial,rfl,fun v hv=>by cases hv⟩
 |t::ts,w::ws,hl,h=>by
  obtain⟨fs,h1,h2,h3⟩:=Xl I ts ws (by simpa using hl) (fun p hp=>h p (jl_ _ hp))
  have h4:SqT X.K H t [.int w.2.length,.ref w.1]:=h (t,w) jn_
  obtain⟨its,r,⟨o,ho,hc,n,hd⟩,_⟩:=I.tuple h4
  cases r with
  |cons e1 r' =>
   obtain⟨tk,rfl⟩:=e1
   refine⟨.int w.2.length tk::fs,PySem.W.KatTups.cons ho hc hd rfl h1,by simp[h2],fun v hv=>?_⟩
   rcases jJ_.mp hv with rfl|hv
   ·exact⟨_,_,rfl⟩
   ·exact h3 v hv
theorem DJ_ (I:Inv X pins σ H s)(hu:A.units+6<cLine)(ha:H a=some (Emp a e1))(hk:H kT=some (.lst (ts.map V.ref)))(jv:kT≠a)(h0:Same H0 H)(hn:H0 a=none)(jw:H0 kT=none)(hz:ws.length<=sizeLine)
  (hl:ts.length=ws.length) (hW:WsOk X.K H ws) (hT:TsOk X.K H ts ws) (h:Yy X pins σ H0 a ws P):
  wpAny (model X.prog X.w) A (ksk_end a false (wu ws).toArray e1 (.ref kT) (ts.map Value.ref).toArray) P E s:=by
 have hsz:(wu ws).toArray.size=ws.length:=by simp[wu]
 have bP:=fun p hp=>Xk (X:=X) (H:=H) hl hT (p:=p) hp
 have fin:∀st:SortSt,(arrOf st).Perm ((ts.map Value.ref).toArray.zip (wu ws).toArray)->failedOf st=none->SO (kS X.K H) (arrOf st) 0 (arrOf st).size->wpAny (model X.prog X.w) A (ksk_tail a false e1 (.ref kT) st) P E s:=by
  intro st hp hf hs
  have jj:=(xX_.mp hp).symm
  rw[NO hl]at jj
  obtain⟨m',p1,e⟩:=R8 jj _ rfl
  have e2:(arrOf st).map (·.2)=(wu (m'.map (·.2))).toArray:=by
   apply Array.ext'
   rw[Array.toList_map,e,zO_]
   simp[wu]
  have pz:(m'.map (·.2)).Perm ws:=by
   have:=p1.map (·.2)
   rwa [List.map_snd_zip (by omega)]at this
  refine Df_ I ha hk jv h0 hn jw (by rw[pz.length_eq];exact hz) e2 hf pz ?_ h
  have ee:=(NL (jg_ _)).mp hs
  have e3:seg (arrOf st) 0 (arrOf st).size=(arrOf st).toList:=by unfold seg;rw[List.drop_zero];exact jO_ (by simp)
  rw[e3,e,xE_]at ee
  unfold Srt
  rw[xE_]
  refine ee.imp_of_mem (fun {x y} hx hy hle=>?_)
  have kx:KeyV X.K H (Value.ref x.1) x.2.2.length x.2.2:=⟨_,_,rfl,bP x (p1.mem_iff.mp hx),hW _ (xx_ (p1.mem_iff.mp hx)).2⟩
  have ky:KeyV X.K H (Value.ref y.1) y.2.2.length y.2.2:=⟨_,_,rfl,bP y (p1.mem_iff.mp hy),hW _ (xx_ (p1.mem_iff.mp hy)).2⟩
  unfold LeK at hle
  rw[Yx I (x:=(Value.ref x.1,Value.ref x.2.1)) kx,Yx I (x:=(Value.ref y.1,Value.ref y.2.1)) ky]at hle
  exact hle
 unfold ksk_end
 simp only[jQ_,qK_]
 by_cases h2:(wu ws).toArray.size<2
 ·rw[if_pos h2,if_pos h2]
  refine jc_ (jq_ ?_)
  rw[StateT.run_pure]
  refine jc_ (jq_ ?_)
  refine fin (SortSt.mk' general' ((ts.map Value.ref).toArray.zip (wu ws).toArray) #[] 7 none) (Array.Perm.refl _) rfl ?_
  intro i j g1 g2 g3
  have g4:j<((ts.map Value.ref).toArray.zip (wu ws).toArray).size:=g3
  rw[Array.size_zip,hsz]at g4
  have:i=j:=by omega
  subst this
  exact qJ_ _
 ·rw[if_neg h2,if_neg h2]
  obtain⟨fs,f1,f2,f3⟩:=Xl I ts ws hl bP
  refine jc_ (PySem.W.kat_kind (T:=.type "int") f1 (by omega) (fun v hv=>?_) (by decide) ?_)
  ·obtain⟨n,t,rfl⟩:=f3 v hv
   exact PySem.W.Looks.of_pure rfl
  ·have hz0:((ts.map Value.ref).toArray.zip (wu ws).toArray).size=ws.length:=by simp[wu,hl]
   refine jc_ (qu_ (R7 (κ:=kS X.K H) (kd:=tuples' true) (a₀:=(ts.map Value.ref).toArray.zip (wu ws).toArray) (st:=SortSt.mk' (tuples' true) ((ts.map Value.ref).toArray.zip (wu ws).toArray) #[] 7 none)
    (Q:=fun _ ab=>SB (tuples' true) ((ts.map Value.ref).toArray.zip (wu ws).toArray) ab/\SO (kS X.K H) (arrOf ab) 0 ((ts.map Value.ref).toArray.zip (wu ws).toArray).size)
    (ltOk I hu (fun x hx=>?_)) ⟨Array.Perm.refl _,rfl,rfl⟩ rfl fun ab a1 a2=>⟨a1,a2⟩) ?_ fun _ _ e=>e)
   ·rw[NO hl]at hx
    obtain⟨p,hp,rfl⟩:=jv_.mp hx
    exact⟨p.2.2.length,p.2.2,_,_,rfl,bP p hp,hW _ (xx_ hp).2⟩
   ·rintro⟨⟨⟩,ab⟩ s' ⟨rfl,hB,hS⟩
    exact fin ab hB.perm hB.failed (by rw[hB.size];exact hS)
theorem WsOk.same {K:α3}  (h:WsOk K H ws)(e:Same H H'):WsOk K H' ws:=fun w hw=>e.seqT (h w hw)
theorem Yz {K:α3}     (hp:H p=some (.lst zs))(h:SqT K H b xs):SqT K (upd H p o) b xs:=by
 have:TSq K H (upd H p o):=TSq.un (fun xs e=>by rw[hp]at e;cases e) (fun ob xs e=>by rw[hp]at e;cases e)
 exact this b xs h
theorem Dg_ (I:Inv X pins σ H s)(hu:A.units+6<cLine)(ha:H a=some (Emp a e1))(hk:H kT=some (.lst []))(jv:kT≠a)(h0:Same H0 H)(hn:H0 a=none)(jw:H0 kT=none)(hz:ws.length<sizeLine)
  (hW:WsOk X.K H0 ws) (hT:Turn X pins σ A f ws H0) (h:Yy X pins σ H0 a ws P):
  wpAny (model X.prog X.w) A (ksk_rest a f false (wu ws).toArray e1 (.ref kT)) P E s:=by
 unfold ksk_rest
 refine jc_ (wpAny_rule ?_)
 rw[List.forIn_toArray]
 refine jc_ (ksk_fold (fun i s'=>∃(H':Hp) (ts:List Addr),Inv X pins σ H' s'/\Same H0 H'/\H' a=some (Emp a e1)/\H' kT=some (.lst (ts.map V.ref))/\ts.length=i/\TsOk X.K H' ts ws) (wu ws) 0 s
  ⟨H,[],I,h0,ha,hk,rfl,fun j t w h1 _=>by simp at h1⟩ ?step ?done)
 case step=>
  rintro j x s' hx ⟨H',ts,I',g0,g1,g2,g3,g4⟩
  simp only[zr_]at g3 ⊢
  unfold wu at hx
  rw[je_]at hx
  obtain⟨w,hw,rfl⟩:∃w,ws[j]?=some w/\Value.ref w.1=x:=by
   cases e:ws[j]? with
   |none=>rw[e]at hx;cases hx
   |some w=>rw[e]at hx;cases hx;exact⟨w,rfl,rfl⟩
  have hj:j<ws.length:=(jb_.mp hw).1
  refine jc_ (xL_ (qu_ (hT w (jd_ hw) H' s' I' g0) (fun k s2 eU=>?_) fun _ _ z=>z.elim))
  obtain⟨v,H2,I2,rv,t,rfl,q1,q2⟩:=eU
  have rk:k=Value.ref t:=rv
  subst rk
  have fL:=q1 _ _ g2
  obtain⟨z,its,n,r,el,e⟩:=I2.lstM fL
  dsimp only
  have hi:=Ia r
  have iC:its.length=j:=by rw[hi,ja_];exact g3
  refine jc_ (listUpdate_at e rfl ?_ (by rw[jk_,iC];omega) (by rw[Array.size_push,jk_,iC];omega))
  refine jq_ ⟨rfl,upd H2 kT (.lst ((ts++[t]).map V.ref)),ts++[t],?_,?_,?_,Ab,by simp[g3],?_⟩
  ·have:=I2.lset (its':=its++[Value.ref t]) (ys:=(ts++[t]).map V.ref) (f:=fun a=>a.push (Value.ref t)) (t':=s2.toks) fL e (by simp) (by rw[jT_];exact r.append (.cons rfl .nil)) (by rw[ja_,jo_,g3];simp;omega)
   exact this
  ·exact (g0.trans q1).over jw
  ·rw[Ai (qv_ jv)];exact q1 _ _ g1
  ·intro i t' w' h1 h2
   refine Yz fL ?_
   by_cases hi:i<ts.length
   ·rw[jj_ hi]at h1
    exact q1.seqT (g4 i t' w' h1 h2)
   ·rw[ju_ (by omega)]at h1
    have:i-ts.length=0:=by
     by_cases hq:i-ts.length=0
     ·exact hq
     ·rw[jR_ (by simp;omega)]at h1;cases h1
    rw[this]at h1
    cases h1
    have:i=j:=by omega
    subst this
    rw[hw]at h2;cases h2
    exact q2
 case done=>
  rintro s' ⟨H',ts,I',g0,g1,g2,g3,g4⟩
  obtain⟨z,its,n,r,el,e⟩:=I'.lstM g2
  have hi:=Ia r
  subst hi
  refine jc_ (listItems_at e rfl ?_)
  exact DJ_ I' hu g1 g2 jv g0 hn jw (by omega) (by rw[g3];simp[wu]) (hW.same g0) g4 h
theorem Dh_ {n:Nat}(I:Inv X pins σ H s)(hu:A.units+6<cLine)(ha:H a=some (.lst (wv ws)))(h0:Same H0 H)(hn:H0 a=none)(hz:ws.length<sizeLine)(iE:∀b,s.heap.objs.size<=b->H0 b=none)
  (hW:WsOk X.K H0 ws) (hT:Turn X pins σ A f ws H0) (h:Yy X pins σ H0 a ws P):
  wpAny (model X.prog X.w) A (ksk_tree a f false) P E s:=by
 obtain⟨z,its,n,r,el,e⟩:=I.lstM ha
 have hi:its=wu ws:=by
  have:Vals ((ws.map (·.1)).map V.ref) its:=by rw[jX_];exact r
  rw[Ia this,jX_];rfl
 subst hi
 have q:=x1_ (f:=fun _=>(#[]:Array Value)) e
 obtain⟨e1,jy⟩:∃e1,(s.heap.update a (Obj.mapSeq fun _=>(#[]:Array Value))).get? a=some (seqObj "list" #[] e1):=⟨_,q⟩
 have I1:Inv X pins σ (upd H a (Emp a e1)) {s with heap:=s.heap.update a (Obj.mapSeq fun _=>(#[]:Array Value)),toks:=s.toks}:=by
  refine I.write (x:=a) (e:=a) (by rw[ha];exact trivial) (.inl rfl) (fun b' u hb hu=>(j5_ _ _ (qv_ hb)).trans hu) ⟨_,jy⟩ ⟨jy,⟨_,jy⟩,fun h1 h2 g1 g2=>g2 _ g1⟩
 unfold ksk_tree
 refine jc_ (listItems_at e rfl ?_)
 refine jc_ (listUpdate_at e rfl ?_ (by rw[jk_];simp only[wu,ja_];omega) (jZ_ _))
 refine jc_ (seqEpoch_at jy rfl ?_)
 refine jc_ (wpAny_newTuple ?_ (by rw[zO_];simp only[wu,ja_];omega))
 refine jc_ (wpAny_newList ?_ (jZ_ _))
 refine qE_ ?_
 have I2:=I1.kept (t':=s.toks) (h':=(s.heap.update a (Obj.mapSeq fun _=>(#[]:Array Value))).push {cls:=.type "tuple",data:=.seq (wu ws).toArray}) (fun _ _ q=>jm_ _ q)
 have I3:=I2.lnew (t':=s.toks) (its:=[]) (ys:=[]) .nil (jZ_ _)
 have hk:((s.heap.update a (Obj.mapSeq fun _=>(#[]:Array Value))).push {cls:=.type "tuple",data:=.seq (wu ws).toArray}).objs.size=s.heap.objs.size+1:=by rw[size_push',Heap.size_update]
 have ah:=jt_ e
 refine Dg_ I3 hu ?_ Ab ?_ ?_ hn ?_ hz hW hT h
 ·rw[Ai (by show a≠_;rw[hk];exact jN_ (xi_ ah))];exact Ab
 ·show _≠a
  rw[hk];exact qn_ (xi_ ah)
 ·refine (h0.over hn).over (iE _ ?_)
  show _<=_
  rw[hk];omega
 ·refine iE _ ?_
  show _<=_
  rw[hk];omega
def DK_ (X:Cx)(pins:α7)(σ:L2.St)(H:Hp)(ws:List Wd)(Q:Value->Shared->Prop):Prop:=
 ∀s' H' D os,Inv X pins σ H' s'->Same H H'->H D=none->H' D=some (.lst (wv os))->os.Perm ws->Srt os->Q (.ref D) s'
theorem YA   (I:Inv X pins σ H s)(hu:A.units+8<cLine)(hl:SqL X.K H l (wv ws))(hz:ws.length<sizeLine)(hW:WsOk X.K H ws)
  (hT:Turn X pins σ A.in1.in1 (.ref q) ws H) (h:DK_ X pins σ H ws Q):
  wpAny (model X.prog X.w) A (call (.builtin "sorted") [.ref l] [(Str.ofString "key",.ref q)]) Q E s:=by
 obtain⟨its,r,pl,_⟩:=I.list hl
 have hi:its=wu ws:=by
  have:Vals ((ws.map (·.1)).map V.ref) its:=by rw[jX_];exact r
  rw[Ia this,jX_];rfl
 subst hi
 have hlen:(wu ws).length=ws.length:=by simp[wu]
 refine call_function_entry_kw kind_sorted plain_sorted entry_sorted (ksk_s1 _ _) ?_
 unfold Builtin.«sorted»
 refine jc_ (m:=checkCount "sorted" 1 1 _) (jq_ ?_)
 refine jc_ (collect_list (vs:=wu ws) ?isl ?_ (by omega))
 case isl=>
  exact pl.isList
 refine jc_ (wpAny_newList ?_ (by omega))
 have hsz:((s.heap.push (seqObj "list" #[] 0)).update s.heap.objs.size (Obj.mapSeq (· ++ (wu ws).toArray))).objs.size=s.heap.objs.size+1:=by
  rw[Heap.size_update,size_push']
 have keep:∀b o,s.heap.get? b=some o->((s.heap.push (seqObj "list" #[] 0)).update s.heap.objs.size (Obj.mapSeq (· ++ (wu ws).toArray))).get? b=some o:=fun b o q=>by
  have ah:b<s.heap.objs.size:=jt_ q
  rw[Heap.get?_update_ne _ _ _ _ (jN_ ah),Heap.get?_push_ne _ _ _ (jN_ ah)]
  exact q
 have I1:=I.kept (t':=s.toks) keep
 have I2:=I1.lnew (t':=s.toks) (its:=wu ws) (ys:=wv ws) (Xj ws) (by simp only[wv,ja_];omega)
 have hD:H (s.heap.objs.size+1)=none:=I.hok.fresh (z0_ _)
 have lZ:(((s.heap.push (seqObj "list" #[] 0)).update s.heap.objs.size (Obj.mapSeq (· ++ (wu ws).toArray))).push (seqObj "list" (wu ws).toArray 0)).get? (s.heap.objs.size+1)=some (seqObj "list" (wu ws).toArray 0):=by
  rw[<-hsz];exact jC_ _ rfl
 show wpAny _ _ _ _ _ {s with heap:=((s.heap.push (seqObj "list" #[] 0)).update s.heap.objs.size (Obj.mapSeq (· ++ (wu ws).toArray))).push (seqObj "list" (wu ws).toArray 0)}
 have I3:Inv X pins σ (upd H (s.heap.objs.size+1) (.lst (wv ws))) {s with heap:=((s.heap.push (seqObj "list" #[] 0)).update s.heap.objs.size (Obj.mapSeq (· ++ (wu ws).toArray))).push (seqObj "list" (wu ws).toArray 0)}:=by
  have:=I2
  dsimp only at this
  rw[hsz]at this
  exact this
 rw[hsz]
 refine jc_ (qE_ (wpAny_call_entry_kw slot_list_sort ⟨_,lZ,rfl⟩ entry_list_sort ?body (ksk_l1 _ _)))
 case body=>
  have dz:=ksk_t1 q (s.heap.objs.size+1)
  show wpAny (model X.prog X.w) A.in1.in1 (Builtin.«list.sort» ⟨[.ref (s.heap.objs.size+1)],[(Str.ofString "key",.ref q)]⟩) _ _ _
  rw[dz]
  refine Dh_ (n:=0) (H0:=H) I3 (by rw[in1_units,in1_units];omega) Ab (Same.new hD) hD hz (fun b hb=>I.hok.fresh ?_) hW hT fun s' H' os I' g1 g2 g3 g4=>⟨_,rfl,?_⟩
  ·have hU:(((s.heap.push (seqObj "list" #[] 0)).update s.heap.objs.size (Obj.mapSeq (· ++ (wu ws).toArray))).push (seqObj "list" (wu ws).toArray 0)).objs.size<=b:=hb
   rw[size_push',hsz]at hU
   omega
  ·exact jq_ ⟨_,rfl,h s' H' _ os I' g1 hD g2 g3 g4⟩
end
end S64
namespace L2
open PySem PySem.Spec PyProof.Rows
theorem Di_   {K:α3}
               (S:FnScope N ps scope) (hr:Room (k+1) A) (e0:Env0 P w K mg base A outer s H)
    (ho:s.heap.get? f=some (PySem.W.kla_obj name qual params body scope [] pm c' fM)) (bw:s.heap.CodeRec (.ref c') qual) (hb:bindArgs (PySem.W.kla_fn name qual params body scope [] pm (.ref c') fM) args=pure (ps.zip us)) (r:Vals vs us) (hl:vs.length=ps.length)
    (ht:PE (cxOf CX0 P w K mg base N qual scope f (.ref c') A outer s H E).nox body t) (hq:t (start N vs) H Q):codeAny (model P w) A (.call (.ref f) args) (CR CX0 outer P w H s Q E) s:=by
  have lim:s.heap.NoLimit:=e0.mod.nolimit.keeps fun b o e=>(e0.bs b o e).1
  have eM:∀y∈ps.zip us,scope.names.lookup y.1=some .local\/(scope.names.lookup y.1=some .cell/\((cellsFrom (s.heap.objs.size+1) scope.names []).lookup y.1).isSome=true):=fun ⟨n,v⟩ hy=>by
    rcases S.par n (xx_ hy).1 with q|q
    . exact .inl q
    . exact .inr ⟨q,xO_ _ _ _ (.inl q)⟩
  refine PySem.W.kla_callFunE hr.depth ho rfl S.co S.gen rfl bw ?_
  rw[hb]
  refine jq_ ?_
  refine wpAny_newFunctionEnv_cells S.kind eM fun env he s1 x=>?_
  subst he
  refine⟨lim.keeps x.toInCall.keep,PySem.W.kla_codeExpr ?_⟩
  have I:Inv (cxOf CX0 P w K mg base N qual scope f (.ref c') A outer s H E) [] (start N vs) H s1:=PY S hr.hd e0 hl r x
  refine qu_ (ht [] s1 (start N vs) H _ (I.wish _) hq) (fun u s' hs=>?_) fun e s' hs=>hs.elim
  obtain⟨v,H',J,rv,q⟩:=hs
  have J':=J.unwish
  exact⟨v,H',J'.os,J'.bare,J'.base,J'.hok,rv,q⟩
def BmOk (mg:Str->α5)(base:Heap):Prop:=∃bm ob,mg "__builtins__"=some (.ref bm)/\bm≠builtinsNs/\base.get? bm=some ob/\ob.cls=.type "module" /\ ob.dict=some builtinsNs/\ob.data=.plain
end L2
namespace L2
open PySem PySem.Spec PyProof.Rows S64
abbrev lamA (ap:Pos):Arguments:={posonlyargs:=[],args:=[{arg := "word",annotation:=none,pos:=ap}],vararg:=none,kwonlyargs:=[],kw_defaults:=[],kwarg:=none,defaults:=[]}
abbrev lamB (p1 p2 p3 p4 p5:Pos):Expr:=.Tuple [.Call (.Name "len" p1) [.Name "word" p2] [] p3,.Name "word" p4] 0 p5
abbrev lamS:Scope:={kind:=.function,names:=[(Str.ofString "word",.local),(Str.ofString "len",.globalImplicit)],isGenerator:=false,isCoroutine:=false,more:=[]}
theorem YB:FnScope ["word"] ["word"] lamS:=⟨rfl,rfl,rfl,by decide,rfl,fun x hx=>.inl (by rw[js_.mp hx];rfl),fun y hy=>by
 rcases jJ_.mp hy with rfl|hy
 ·simp
 ·rw[js_.mp hy];simp⟩
end L2
namespace L2
open PySem PySem.Spec PyProof.Rows
theorem Xm   {K:α3}
  (KX:K.In s₁.heap) (fZ:s₁.heap.Ns mainGlobals mg) (hb:s₁.heap.Ns builtinsNs mb) (hbb:∀x:Str,x ≠ "__name__" -> mb x=bootBuiltins x) (hlim:s₁.heap.NoLimit) (hg:s₁.gens = #[]) (mS:BmOk mg s₁.heap)
  (hC:PySem.W.CodeHd s₁.heap c T) (hT:s₁.heap.get? T=some (PySem.W.tabObj #[])) (mT:K.lookup T=none)
  (ha:s₁.heap.get? a=some {cls:=.type "list",data:=.seq vs.toArray}) (hi:IntsAre vs ns) (hl:ns.length<=sizeLine) (hr:Room k callerA)
  (F:∀base:Heap,K.In base->base.Ns mainGlobals mg->PySem.W.CodeHd base c T->BmOk mg base->FnOk P w K mg base CX k fa fd [x] sp) (hbind:∀(s:Shared) (u:Value),BindsTo s fd ⟨[u],[]⟩ [(x,u)])
  (dI:∀H:Hp,H T=some (.tbl #[])->SqL K H a (ns.map V.int)->sp [.ref a] H (fun v _=>v=.bl true) fun _ _ _=>False)
  (mU:∀H e s',CX [] H s₁ (fun _ _ _=>False) e s'->False):
  codeAny (model P w) callerA (.call (.ref fa) ⟨[.ref a],[]⟩) (fun r s'=>r=.ok (.ret (.bool true))/\OldK s₁.heap s'.heap/\s'.os=s₁.os/\AllBare s'.gens) s₁:=by
 have rv:=P0 hi
 have lenV:=hi.length
 have hTa:T≠a:=fun z=>by subst z;rw[hT]at ha;cases ha
 have core:∀H:Hp,H T=some (.tbl #[])->SqL K H a (ns.map V.int)->HOk P w H s₁.heap->(∀b,H b≠none->b=T\/(b=a/\K.lookup a=none/\∃o xs,H a=some (.frz o (.lst xs)))) ->
   codeAny (model P w) callerA (.call (.ref fa) ⟨[.ref a],[]⟩) (fun r s'=>r=.ok (.ret (.bool true))/\OldK s₁.heap s'.heap/\s'.os=s₁.os/\AllBare s'.gens) s₁:=by
  intro H hHT hS hok hA
  have free:∀{b:Addr} {o:Obj},s₁.heap.get? b=some o->o.cls ≠ .none->o.data ≠ .seq vs.toArray 0->H b=none:=fun {b o} e h1 h2=>by
   cases q:H b with
   |none=>rfl
   |some u=>
    rcases hA b (by rw[q];simp) with rfl|⟨rfl,_⟩
    ·rw[hT]at e;cases e;exact absurd rfl h1
    ·rw[ha]at e;cases e;exact absurd rfl h2
  have lg:∀{b:Addr} {m:Str->α5},s₁.heap.Ns b m->(hidT s₁.heap H).Ns b m:=fun {b m} ⟨o,es,ep,e,d,r⟩=>⟨o,es,ep,Kt e (by
   cases q:H b with
   |none=>rfl
   |some u=>
    rcases hA b (by rw[q];simp) with rfl|⟨rfl,_⟩
    ·rw[hT]at e;cases e;cases d
    ·rw[ha]at e;cases e;cases d),d,r⟩
  have hKb:K.In (hidT s₁.heap H):=fun b o e=>Kt (KX b o e) (by
   cases q:H b with
   |none=>rfl
   |some u=>
    rcases hA b (by rw[q];simp) with rfl|⟨rfl,z,_⟩
    ·rw[mT]at e;cases e
    ·rw[z]at e;cases e)
  have hM:Mod K mg (hidT s₁.heap H):=⟨hKb,lg fZ,⟨mb,lg hb,hbb⟩,let ⟨mc,h1,h2⟩:=hlim;⟨mc,lg h1,h2⟩⟩
  have e0:Env0 P w K mg (hidT s₁.heap H) callerA [] s₁ H:=⟨rfl,hM,fun b o e=>Ap_ e,Nat.le_of_eq (VD _ _),trivial,fun b hb=>absurd (show b∈([]:List Addr) from hb) (by simp),hok,.of_eq hg⟩
  have hCb:PySem.W.CodeHd (hidT s₁.heap H) c T:=by
   obtain⟨o,ws,file,tf,flags,tg,inF,text,tt,e,hc,hd,r⟩:=id hC
   exact⟨o,ws,file,tf,flags,tg,inF,text,tt,Kt e (free e (by rw[hc];intro z;cases z) (by rw[hd];intro z;cases z)),hc,hd,r⟩
  have hbb2:BmOk mg (hidT s₁.heap H):=by
   obtain⟨bm,ob,b1,b2,b3,b4,b5,b6⟩:=mS
   exact⟨bm,ob,b1,b2,Kt b3 (free b3 (by rw[b4];intro z;cases z) (by rw[b6];intro z;cases z)),b4,b5,b6⟩
  refine codeAny_mono ((F _ hKb (lg fZ) hCb hbb2).run callerA [] s₁ H ⟨[.ref a],[]⟩ [.ref a] [.ref a] _ _ hr e0 (hbind s₁ (.ref a)) (.cons rfl .nil) (dI H hHT hS)) fun r s' h=>?_
  cases r with
  |error e=>exact (mU H e s' h).elim
  |ok fl=>
   cases fl with
   |next=>exact False.elim h
   |brk=>exact False.elim h
   |cont=>exact False.elim h
   |ret u=>
    obtain⟨v,H',os,bare,un,hok',r',q⟩:=h
    have q':v=.bl true:=q
    subst q'
    obtain rfl:u=Value.bool true:=r'
    have noB:∀b:Addr,b∉frs ([]:List Env):=fun b z=>absurd (show b∈([]:List Addr) from z) (by simp)
    have all:∀b o,s₁.heap.get? b=some o->asItWas s₁.heap s'.heap b o:=fun b o e=>by
     cases q:H b with
     |none=>exact .inl (un.keep b o e q (noB b) (by simp))
     |some u=>
      rcases hA b (by rw[q];simp) with rfl|⟨rfl,_,ob,xs,z⟩
      ·obtain⟨more,z2⟩:=un.tbls b _ hHT
       have e2:s'.heap.get? b=some {cls:=.none,data:=.fields (#[]++more)}:=hok' b _ z2
       rw[hT]at e;cases e
       obtain⟨o',ws,_,_,_,_,_,_,_,e3,hc,hd,h11,_⟩:=hC
       exact .inr (.inl ⟨⟨c,o',ws,e3,hc,hd,h11⟩,rfl,#[],more,rfl,e2⟩)
      ·have z2:=un.frzs b ob _ z
       obtain⟨e1,_⟩:=hok b _ z
       obtain⟨e2,_⟩:=hok' b _ z2
       rw[e]at e1;cases e1
       exact .inl e2
    refine⟨rfl,⟨all,fun b o e=>?_⟩,os,bare⟩
    exact un.there b o e (by simp)
 cases hk:K.lookup a with
 |some o=>
  have e:=KX a o hk
  rw[ha]at e
  cases e
  refine core (fun b=>if b=T then some (.tbl #[]) else none) (if_pos rfl) (.inr ⟨_,vs.toArray,_,hk,rfl,rfl,rfl,by rw[jk_,lenV];exact hl,by simpa using rv⟩) (fun b u z=>?_) (fun b z=>?_)
  ·by_cases hb:b=T
   ·have z':=(if_pos hb).symm.trans z
    cases z';subst hb;exact hT
   ·have z':=(if_neg hb).symm.trans z
    cases z'
  ·by_cases hb:b=T
   ·exact .inl hb
   ·exact absurd (if_neg hb) z
 |none=>
  refine core (fun b=>if b=T then some (.tbl #[]) else if b=a then some (.frz {cls:=.type "list",data:=.seq vs.toArray} (.lst (ns.map V.int))) else none) (if_pos rfl) (.inl (.inr ⟨{cls:=.type "list",data:=.seq vs.toArray},by show (if a=T then _ else _)=_;rw[if_neg (qv_ hTa),if_pos rfl]⟩)) (fun b u z=>?_) (fun b z=>?_)
  ·by_cases hb:b=T
   ·have z':=(if_pos hb).symm.trans z
    cases z';subst hb;exact hT
   ·have z1:=(if_neg hb).symm.trans z
    by_cases dX:b=a
    ·have z':=(if_pos dX).symm.trans z1
     cases z'
     subst dX
     exact⟨ha,by rw[ja_];exact hl,vs,_,rv,ha⟩
    ·have z':=(if_neg dX).symm.trans z1
     cases z'
  ·by_cases hb:b=T
   ·exact .inl hb
   ·by_cases dX:b=a
    ·exact .inr ⟨dX,hk,_,_,by show (if a=T then _ else _)=_;rw[if_neg (qv_ hTa),if_pos rfl]⟩
    ·exact absurd (by show (if b=T then _ else _)=_;rw[if_neg hb,if_neg dX]) z
theorem walk_ofT {l:PySem.W.OpenLaw}{n k:Nat}{q:Program}{loose:List Str}{XP:(Str->α5)->Heap->Prop}{YP:World->Heap->Prop}{d:DefRec}{K:Params->α3}{CX:World->CXT}{sp:World->Sp}{x xT:Str}
  (hn:l.most=some n) (fh:n<=sizeLine) (jV:d.params.defaults=[]) (hr:Room k callerA)
  (hY:∀(w:World) (h:Heap),YP w h->(K w.params).In h)
  (F:∀(w:World) (mg:Str->α5) (fa:Addr) (h:Heap),YP w h->(K w.params).In h->h.Ns mainGlobals mg->mg d.name=some (.ref fa) ->
   ∃(fd:α6) (c T:Addr),PySem.W.tabIn (K w.params) xT=some (c,T)/\(K w.params).lookup T=none/\PySem.W.CodeHd h c T/\h.get? T=some (PySem.W.tabObj #[])/\(∀(s:Shared) (u:Value),BindsTo s fd ⟨[u],[]⟩ [(x,u)]) /\
    ∀base:Heap,(K w.params).In base->base.Ns mainGlobals mg->PySem.W.CodeHd base c T->BmOk mg base->FnOk l.prog w (K w.params) mg base (CX w) k fa fd [x] (sp w))
  (dI:∀(w:World) (H:Hp) (a c T:Addr) (ns:α2),ns.length<=n->PySem.W.tabIn (K w.params) xT=some (c,T)->H T=some (.tbl #[])->SqL (K w.params) H a (ns.map V.int)->sp w [.ref a] H (fun v _=>v=.bl true) fun _ _ _=>False)
  (mU:∀(w:World) (H:Hp) (s:Shared) (e:Value) (s':Shared),CX w [] H s (fun _ _ _=>False) e s'->False):
  PySem.W.WalkO q loose XP YP l.row.toRowW d [] (fun f vs=>PySem.call f vs):=by
 refine Att.attach_call hn jV fun w s₀ s₁ mg mb fa o pm cd doc a vs ns G Y ho hd bw hmg a8 hints hlen hg=>?_
 have KX:=hY w _ Y
 obtain⟨fd,c,T,iC,mT,hC,hT,hb,hF⟩:=F w mg fa _ Y KX G.T.g hmg
 exact Xm KX G.T.g G.T.b G.T.builtins G.T.nolimit hg (let ⟨bm,ob,b1,b2,b3,b4,b5,b6⟩:=G.T.bmain;⟨bm,ob,b1,b2,b3,b4,b5,b6⟩) hC hT mT a8 hints (qm_ hlen fh) hr hF hb (fun H hO hS=>dI w H a c T ns hlen iC hO hS) fun H e s'=>mU w H s₁ e s'
def tabC (K:α3)(x:Str):Addr:=((PySem.W.tabIn K x).getD (0,0)).1
def tabP (K:α3)(x:Str):Addr:=((PySem.W.tabIn K x).getD (0,0)).2
theorem R9 {K:α3}   (h:PySem.W.tabIn K x=some (c,T)):tabC K x=c:=by unfold tabC;rw[h];rfl
theorem Xn {K:α3}   (h:PySem.W.tabIn K x=some (c,T)):tabP K x=T:=by unfold tabP;rw[h];rfl
theorem YC {K:α3}      {sl ef:Array (α5)}  (a:nsIn K mainGlobals x=some (some (.ref f)))(l:K.lookup f=some ⟨oc,od,.func fd,sl⟩)(hc:fd.code=.ref c)
  (lc:K.lookup c=some ⟨oc2,od2,.fields vs,ef⟩) (h:vs[11]?=some (.ref T)):PySem.W.tabIn K x=some (c,T):=by
 unfold PySem.W.tabIn
 rw[a]
 dsimp only
 rw[l]
 dsimp only
 rw[hc]
 dsimp only
 rw[lc]
 dsimp only
 rw[h]
structure FunL (K:α3)(mg:Str->α5)(base:Heap)(x qual:Str)(st:Stmt)(f:Addr)(fd:α6):Prop where
 ex:∃(oc:Value) (od:Option Addr) (kV doc pm:Value) (an:Option Addr) (ct:Value) (eL:Array (α5)),
  fd=fnOf x qual (Ay st) (Aw st) (Af st) .none kV doc pm an (.ref (tabC K x)) ct/\K.lookup f=some ⟨oc,od,.func fd,eL⟩/\codeIn K (.ref (tabC K x)) qual=true
 C:PySem.W.CodeHd base (tabC K x) (tabP K x)
 B:BmOk mg base
section
variable {P:Program} {w:World} {K:α3} {mg:Str->α5} {base:Heap}
theorem FunL.ok  {st:Stmt}      (F:FunL K mg base x qual st f fd)(S:FnScope N ps (Af st))(len:∀vs H Q E,sp vs H Q E->vs.length=ps.length)
  (cC:∀(aq:Value) (bw:aq=.ref (tabC K x)) (A:Around) (outer:List Env) (s:Shared) (H:Hp) (vs:List V) (Q:VK) (E:XK),Room k (A.deeper (envOfC qual (Af st) s.heap.objs.size f aq))->sp vs H Q E ->
   ∃t,PSs (cxOf CX0 P w K mg base N qual (Af st) f aq A outer s H E).nox (Aw st) t/\t {nx:=fun _ H'=>Q .non H',rt:=Q} (start N vs) H):FnOk P w K mg base CX0 (k+1) f fd ps sp:=by
 obtain⟨oc,od,kV,doc,pm,an,ct,eL,rfl,lk,bw⟩:=F.ex
 refine BV_ lk bw S len fun A outer s H vs Q E hr dI=>?_
 obtain⟨t,h,q⟩:=cC _ rfl A outer s H vs Q E hr dI
 exact⟨t,h.nox,q⟩
theorem Bq_  {st:Stmt}     {kV doc pm ct:Value}(ti:PySem.W.tabIn K x=some (c,T))(l:K.lookup f=some ⟨oc,od,.func (fnOf x qual (Ay st) (Aw st) (Af st) .none kV doc pm an (.ref c) ct),eL⟩)
  (hc:codeIn K (.ref c) qual=true) (C:PySem.W.CodeHd base c T) (B:BmOk mg base):FunL K mg base x qual st f (fnOf x qual (Ay st) (Aw st) (Af st) .none kV doc pm an (.ref c) ct):=
 ⟨⟨oc,od,kV,doc,pm,an,ct,eL,by rw[R9 ti],l,by rw[R9 ti];exact hc⟩,by rw[R9 ti,Xn ti];exact C,B⟩
end
end L2
namespace L2
open PySem PySem.Spec PyProof.Rows S64
def Dt (T:Addr)(H H':Hp):Prop:=∀b o,b≠T->H b=some o->H' b=some o
def LamT (T:Addr)(lp:Pos)(qual:Str)(H:Hp):Prop:=H T=some (.tbl #[]) \/ ∃(c':Addr) (oc:Obj) (vs:Array Value) (t:Tok),H T=some (.tbl #[rawInt lp.line,rawInt lp.col,.ref c'])/\H c'=some (.frz oc (.own 0))/\oc.data=.fields vs/\vs[1]?=some (.str (qual ++ "<lambda>") t)
theorem LamT.is     (h:LamT T lp qual H):∃ps,H T=some (.tbl ps):=by
 rcases h with h|⟨_,_,_,_,h,_⟩
 ·exact⟨_,h⟩
 ·exact⟨_,h⟩
theorem LamT.mono     (h:LamT T lp qual H)(s:Same H H'):LamT T lp qual H':=by
 rcases h with h|⟨c',oc,vs,t,h,h2,h3,h4⟩
 ·exact .inl (s _ _ h)
 ·exact .inr ⟨c',oc,vs,t,s _ _ h,s _ _ h2,h3,h4⟩
theorem Dt.of   (s:Same H H'):Dt T H H':=fun b o _ e=>s b o e
theorem Dt.trans   (s:Dt T H H')(s':Dt T H' fX):Dt T H fX:=fun b o hb e=>s' b o hb (s b o hb e)
theorem Dt.ne   (s:Dt T H H')   (e:H b=some o)(ho:∀ps,o ≠ .tbl ps)  (hT:H T=some (.tbl ps)):H' b=some o:=s b o (fun z=>by subst z;rw[hT]at e;cases e;exact ho _ rfl) e
theorem Dt.tsq {K:α3}   (s:Dt T H H')  (hT:H T=some (.tbl ps))   (h:SqT K H b ys):SqT K H' b ys:=by
 rcases h with h|h
 ·left
  rcases h with h|⟨o,h⟩
  ·exact .inl (s.ne h (fun _ z=>by cases z) hT)
  ·exact .inr ⟨o,s.ne h (fun _ z=>by cases z) hT⟩
 ·exact .inr h
theorem Dt.lsq {K:α3}   (s:Dt T H H')  (hT:H T=some (.tbl ps))   (h:SqL K H b ys):SqL K H' b ys:=by
 rcases h with h|h
 ·left
  rcases h with h|⟨o,h⟩
  ·exact .inl (s.ne h (fun _ z=>by cases z) hT)
  ·exact .inr ⟨o,s.ne h (fun _ z=>by cases z) hT⟩
 ·exact .inr h
theorem Dt.none   (s:Dt T H H')  (hT:H' T=some (.tbl ps))  (h:H' b=none):H b=none:=by
 cases q:H b with
 |none=>rfl
 |some o=>
  have:=s b o (fun z=>by subst z;rw[hT]at h;cases h) q
  rw[h]at this;cases this
section
variable {X:Cx} {pins:α7} {σ:St} {H:Hp} {s:Shared}
theorem Inv.tabK      (I:Inv X pins σ H s)(hP:H P=some (.tbl ps))(k:∀b o,b≠P->s.heap.get? b=some o->h'.get? b=some o)(e:h'.get? P=some (PySem.W.tabObj (ps++ps')))
  (hc:s.heap.objs.size<=c') (cS:h'.get? c'=some oc):Inv X pins σ (upd (upd H P (.tbl (ps++ps'))) c' (.frz oc (.own 0))) {s with heap:=h',toks:=t' }:=by
 have nP:∀b,H b=none->b≠P:=fun b n z=>by subst z;rw[hP]at n;cases n
 have kj:∀b u,H b=some u->(∀qs,u ≠ .tbl qs)->b≠P:=fun b u q hu z=>by subst z;rw[hP]at q;cases q;exact hu _ rfl
 have nC:∀b u,H b=some u->b≠c':=fun b u q z=>by subst z;rw[I.hok.fresh hc]at q;cases q
 have nC2:∀b o,s.heap.get? b=some o->b≠c':=fun b o q z=>by subst z;exact absurd (jt_ q) (z3_.mpr hc)
 refine I.un ⟨fun b o q n _ _=>k b o (nP b n) q,fun b o q n _ _=>⟨o.slots,k b o (nP b n) q⟩,fun b o q n _=>by rw[Ai (nC2 b o q),Ai (nP b n)];exact n,fun b o q _=>?_,fun b xs q=>?_,fun b o u q=>?_,fun b qs q=>?_⟩ (fun b u q=>?_)
 ·by_cases hb:b=P
  ·subst hb;exact⟨_,e⟩
  ·exact⟨o,k b o hb q⟩
 ·rw[Ai (nC b _ q),Ai (kj b _ q (fun _ z=>by cases z))];exact q
 ·rw[Ai (nC b _ q),Ai (kj b _ q (fun _ z=>by cases z))];exact q
 ·by_cases hb:b=P
  ·subst hb;rw[hP]at q;cases q;exact⟨ps',by rw[Ai (nC b _ hP)];exact Ab⟩
  ·rw[Ai (nC b _ q),Ai hb];exact⟨#[],by rw[q];simp⟩
 ·by_cases hbc:b=c'
  ·subst hbc;rw[Ab]at q;cases q;exact⟨cS,_,cS⟩
  rw[Ai hbc]at q
  by_cases hb:b=P
  ·subst hb;rw[Ab]at q;cases q;exact e
  ·rw[Ai hb]at q
   refine (I.hok b u q).stay (fun c v hc r=>k c v ?_ r) (fun c r=>by rw[Ai (nC c _ r),Ai (kj c _ r (fun _ z=>by cases z))];exact r) fun c xs r=>by rw[Ai (nC c _ r),Ai (kj c _ r (fun _ z=>by cases z))];exact r
   rcases hc with rfl|hc
   ·exact hb
   ·exact kj c _ hc (fun _ z=>by cases z)
theorem Xo          (I:Inv X pins σ H s)(dB:X.env.code=.ref c)(C:PySem.W.CodeHd X.base c P)(hL:LamT P pos X.env.qual H)
  (hb:BmOk X.mg X.base) (bh:closureFor scope X.env=pure []) (hdef:defaultsOf params X.env=([],[]))
  (h:∀(f c':Addr) (oc:Obj) (vs:Array Value) (t:Tok) (fM:Value) (H':Hp) (s':Shared),Inv X (pins++[(f,PySem.W.kla_obj "<lambda>" (X.env.qual ++ "<lambda>") params body scope [] ((X.mg "__name__").getD .none) c' fM)]) σ H' s'->Dt P H H'->H' P=some (.tbl #[rawInt pos.line,rawInt pos.col,.ref c'])->H' c'=some (.frz oc (.own 0))->oc.data=.fields vs->vs[1]?=some (.str (X.env.qual ++ "<lambda>") t)->Q (.ref f) s'):
  wpAny M A (eval (.Lambda params body scope pos) X.env) Q E s:=by
 obtain⟨ps,hP⟩:=hL.is
 obtain⟨bm,ob,b1,b2,b3,b4,b5,b6⟩:=hb
 have hg:s.heap.Ns mainGlobals X.mg:=I.mod.glob.keeps I.bk
 have eP:s.heap.get? P=some (PySem.W.tabObj ps):=I.hok P _ hP
 have nb:∀b o,X.base.get? b=some o->b≠P:=fun b o e z=>by subst z;have:=(I.bs b o e).2;rw[hP]at this;cases this
 have hgP:mainGlobals≠P:=by
  obtain⟨o,es,ep,e,_⟩:=I.mod.glob
  exact nb _ _ e
 have hbG:bm≠mainGlobals:=fun q=>by
  obtain⟨o,es,ep,e,hd,_⟩:=I.mod.glob
  rw[q,e]at b3;cases b3;rw[hd]at b6;cases b6
 refine PySem.W.kla_eval hdef ?_
 rcases hL with hL|⟨c',oc,vs,t,h1,h2,h3,h4⟩
 ·have:ps = #[]:=by rw[hL]at hP;cases hP;rfl
  subst this
  refine PySem.W.kla_makeFunction (mg:=X.mg) bh I.ok.glob hg dB (C.keeps I.bk) eP (by trivial) rfl hgP ⟨bm,ob,b1,b2,hbG,nb _ _ b3,I.bk _ _ b3,b4,b5,b6⟩ fun c' fM h' tk hx aV ah hrec ju=>?_
  obtain⟨c₂,oc,vs,t,e2,cS,hd,hv⟩:=hrec
  cases e2
  have I1:=I.tabK (t':=tk) (h':=h'.push (PySem.W.kla_obj "<lambda>" (X.env.qual ++ "<lambda>") params body scope [] ((X.mg "__name__").getD .none) c' fM)) hP (fun b o hb e=>jm_ _ (hx b o hb e)) (jm_ _ ju) aV (jm_ _ cS)
  have hsz:s.heap.objs.size<=h'.objs.size:=qm_ aV (x4_ ah)
  have hcP:P≠c':=fun z=>by subst z;exact absurd (jt_ eP) (z3_.mpr aV)
  refine h h'.objs.size c' oc vs t fM _ _ (I1.pins_of fun p hp=>?_) (fun b o hb e=>?_) ((Ai hcP).trans Ab) Ab hd hv
  ·rcases jz_.mp hp with hp|hp
   ·exact I1.pin p (jw_ _ hp)
   ·rw[js_.mp hp]
    refine⟨jC_ _ rfl,?_,fun z=>?_,I.nofs hsz,fun v z=>by cases z⟩
    ·rw[Ai (fun z=>absurd ah (by dsimp only at z;rw[z];exact j7_ _)),Ai (fun z=>by dsimp only at z;subst z;exact absurd (jt_ eP) (z3_.mpr hsz))]
     exact I.hok.fresh hsz
    ·dsimp only at z
     have:=I.lt
     rw[<-z]at this
     exact absurd this (z3_.mpr hsz)
  ·rw[Ai (fun z=>by subst z;rw[I.hok.fresh aV]at e;cases e),Ai hb];exact e
 ·have:ps = #[rawInt pos.line,rawInt pos.col,.ref c']:=by rw[h1]at hP;cases hP;rfl
  subst this
  refine PySem.W.kla_makeFunctionHit (mg:=X.mg) (cv:=.ref c') bh I.ok.glob hg dB (C.keeps I.bk) eP (by trivial) (by simp[codeAmong,rawInt]) ⟨bm,ob,b1,b2,hbG,nb _ _ b3,I.bk _ _ b3,b4,b5,b6⟩ fun fM h' tk hk hsz=>?_
  have I1:=I.kept (t':=tk) (h':=h'.push (PySem.W.kla_obj "<lambda>" (X.env.qual ++ "<lambda>") params body scope [] ((X.mg "__name__").getD .none) c' fM)) (fun b o e=>jm_ _ (hk b o e))
  refine h h'.objs.size c' oc vs t fM _ _ (I1.pins_of fun p hp=>?_) (fun b o hb e=>e) h1 h2 h3 h4
  rcases jz_.mp hp with hp|hp
  ·exact I1.pin p (jw_ _ hp)
  ·rw[js_.mp hp]
   refine⟨jC_ _ rfl,I.hok.fresh hsz,fun z=>?_,I.nofs hsz,fun v z=>by cases z⟩
   dsimp only at z
   have:=I.lt
   rw[<-z]at this
   exact absurd this (z3_.mpr hsz)
end
def TR (K:α3)(P:Addr)(lp:Pos)(qual:Str)(t:TA):TE:=fun σ H Q=>t σ H fun vs H1=>∃l ws,vs=[.ref l]/\SqL K H1 l (wv ws)/\WsOk K H1 ws/\ws.length<sizeLine/\LamT P lp qual H1 /\
 ∀H2 D os,Dt P H1 H2->LamT P lp qual H2->H1 D=none->H2 D=some (.lst (wv os))->os.Perm ws->Srt os->Q (.ref D) H2
theorem Qy {K:α3}        : TR K P lp qual t σ H Q=t σ H fun vs H1=>∃l ws,vs=[.ref l]/\SqL K H1 l (wv ws)/\WsOk K H1 ws/\ws.length<sizeLine/\LamT P lp qual H1 /\
 ∀H2 D os,Dt P H1 H2->LamT P lp qual H2->H1 D=none->H2 D=some (.lst (wv os))->os.Perm ws->Srt os->Q (.ref D) H2:=rfl
theorem UT        (hr:Room (k+3) X.A)(hg:Gl X "sorted")(hm:X.mg "sorted"=none)(f7:X.mg "len"=none)(dB:X.env.code=.ref c)(C:PySem.W.CodeHd X.base c P)(mS:BmOk X.mg X.base)
  (ha:PA X [e] ta) (hq:X.env.qual=qual:=by rfl)
  (he:backTo pos (starEach [e] X.env)=(false,eval e X.env)::backTo pos (starEach [] X.env):=by rfl) (gI:(backTo pos (starEach [e] X.env)).any (·.1)=false:=by rfl):
  PE X (.Call (.Name "sorted" p) [e] [⟨some "key",.Lambda (lamA ap) (lamB p1 p2 p3 p4 p5) lamS lp,kp⟩] pos) (TR X.K P lp qual ta):=by
 intro pins s σ H Q I h
 subst hq
 refine xo_ (FS I hg hm rfl ?_)
 refine callWith_kw ?_ he gI
 refine thn (ha pos pins s σ H _ I h) fun us s1 ⟨vs,H1,I1,r1,q1⟩=>?_
 obtain⟨l,ws,rfl,hl,hW,hz,hP,q⟩:=q1
 obtain⟨ps,hP1⟩:=hP.is
 obtain⟨u1,rfl,rx⟩:=vals1 r1
 cases rx
 refine kws_cons (Xo I1 dB C hP mS rfl rfl fun f c' oc vs t fM H2 s2 I2 lh hT2 bO hd hv=>kws_nil ?_)
 show wpAny (model X.prog X.w) X.A (call (.builtin "sorted") [.ref l] [(Str.ofString "key",.ref f)]) _ _ s2
 have nP:∀b ys,SqT X.K H1 b ys->SqT X.K H2 b ys:=fun b ys=>lh.tsq hP1
 have bX:SqL X.K H2 l (wv ws):=lh.lsq hP1 hl
 refine YA I2 (by have:=hr.un;omega) bX hz (fun w hw=>nP _ _ (hW w hw)) (fun w hw H' s' I' hS=>?_) (fun s' H' D os I' g1 g2 g3 g4 g5=>?_)
 ·have hf:=(I'.pin _ (jw_ _ (jw_ _ (jn_)))).1
  have gG:s'.heap.get? c'=some oc:=(I'.hok c' _ (hS _ _ bO)).1
  have kl:s'.heap.CodeRec (.ref c') (X.env.qual ++ "<lambda>"):=⟨c',oc,vs,t,rfl,gG,hd,hv⟩
  have mV:SqT X.K H' w.1 (w.2.map V.int):=hS.seqT (nP _ _ (hW w hw))
  refine wpAny_call (codeAny_mono (Di_ (k:=k) (N:=["word"]) (ps:=["word"]) (vs:=[.ref w.1]) (us:=[.ref w.1]) (E:=fun _ _ _=>False) (Q:=fun kv fX=>∃t,kv=.ref t/\Same H' fX/\SqT X.K fX t [.int w.2.length,.ref w.1]) YB hr.in1.in1 I'.env0.in1.in1 hf kl rfl (.cons rfl .nil) rfl
   (C7 (Aa (As Ak rfl f7 rfl (Aa (pv 0) Ae)) (Aa (pv 0) Ae))) ?_) fun r s2 hq=>?_)
  ·refine⟨.ref w.1,rfl,w.1,w.2.map V.int,rfl,.inr mV,.ref w.1,rfl,?_,fun p hp=>?_⟩
   ·show 2<=sizeLine
    decide
   ·rw[ja_]
    exact⟨p,rfl,Same.new hp,.inl (.inl Ab)⟩
  ·cases r with
   |error e=>exact hq.elim
   |ok fl=>
    cases fl with
    |ret u=>exact I'.after hq
    |next=>exact False.elim hq
    |brk=>exact False.elim hq
    |cont=>exact False.elim hq
 ·exact⟨.ref D,H',I'.unpinned,rfl,q H' D os (lh.trans (Dt.of g1)) (.inr ⟨c',oc,vs,t,g1 _ _ hT2,g1 _ _ bO,hd,hv⟩) (lh.none hT2 g2) g3 g4 g5⟩
end L2
namespace L2
open PySem PySem.Spec PyProof.Rows
def EqsD (K:α3)(H:Hp)(n:Nat)(xs:List V)(x:V)(e:Nat->Bool):Prop:=(∀(i:Nat) (v:V),xs[i]?=some v->∃a,v=.ref a/\EqD K H n v x (e i))/\∀(i j:Nat) (v:V),xs[i]?=some v->xs[j]?=some v->e i=e j
noncomputable def evG (xs:List V)(e:Nat->Bool)(y:Value):Bool := @decide (∃(i:Nat) (a:Addr),y=.ref a/\xs[i]?=some (.ref a)/\e i=true) (Classical.propDecidable _)
theorem Qz {K:α3}      (h:EqsD K H n xs x e)   (hx:xs[i]?=some (.ref a)):evG xs e (.ref a)=e i:=by
 rw[qx_]
 unfold evG
 rw[@decide_eq_true_iff _ (Classical.propDecidable _)]
 constructor
 ·rintro⟨j,b,hb,mW,km⟩
  cases hb
  rw[h.2 i j _ hx mW];exact km
 ·intro he
  exact⟨i,a,rfl,hx,he⟩
def rInG (K:α3)(n:Nat)(neg:Bool):R2:=fun x y H Q=>∃p t xs e,y=.ref p/\x=.ref t/\SqL K H p xs/\EqsD K H n xs x e/\Q (.bl (if neg then !((List.range xs.length).any e) else (List.range xs.length).any e)) H
theorem Dj_ {K:α3}      : rInG K n neg x y H Q=∃p t xs e,y=.ref p/\x=.ref t/\SqL K H p xs/\EqsD K H n xs x e/\Q (.bl (if neg then !((List.range xs.length).any e) else (List.range xs.length).any e)) H:=rfl
theorem YD          (hu:X.A.units+n+1<cLine)(I:Inv X pins σ H s)(hp:SqL X.K H p xs)(hE:EqsD X.K H n xs (.ref t) e):
  ∃(its:Array Value),s.heap.IsList p its/\(∀y,y∈its->SeqAt.EqAt X.A.in1 s y (.ref t) (evG xs e y))/\its.any (evG xs e)=(List.range xs.length).any e:=by
 obtain⟨its,r,pl,_⟩:=I.list hp
 have hl:=r.length
 refine⟨its.toArray,pl.isList,fun y hy=>?_,?_⟩
 ·have hy':y∈its:=by simpa using hy
  obtain⟨i,hi,ei⟩:=jS_ hy'
  have dW:i<xs.length:=by omega
  obtain⟨u,gK,ru⟩:=r.get (i:=i) (x:=xs[i]) (by simp[dW])
  rw[jf_ hi,ei]at gK
  cases gK
  obtain⟨a,e2,e3⟩:=hE.1 i xs[i] (by simp[dW])
  rw[e2]at ru e3
  cases ru
  rw[Qz hE (i:=i) (by rw[jf_ dW,e2])]
  exact (EqD.at (x:=V.ref a) (y:=V.ref t) I n X.A.in1 (by rw[in1_units];omega) rfl rfl e3).1
 ·rw[show its.toArray.any (evG xs e)=its.any (evG xs e) by simp,qx_,x2_,x2_]
  constructor
  ·rintro⟨y,hy,hey⟩
   obtain⟨j,b,_,mW,km⟩:=(@decide_eq_true_iff _ (Classical.propDecidable _)).mp hey
   exact⟨j,jP_.mpr (jb_.mp mW).1,km⟩
  ·rintro⟨i,hi,j0⟩
   have hi:=jP_.mp hi
   obtain⟨a,e2,e3⟩:=hE.1 i xs[i] (by simp[hi])
   have hx:xs[i]?=some (.ref a):=by rw[jf_ hi,e2]
   obtain⟨u,gK,ru⟩:=r.get hx
   cases ru
   exact⟨.ref a,jd_ gK,by rw[Qz hE hx];exact j0⟩
theorem hu45  (h:u+8<cLine):u+4+1<cLine:=by omega
theorem hu46  (h:u+8<cLine):u+4+2<cLine:=by omega
theorem Xp  (n:Nat)(hu:X.A.units+n+1<cLine):OpR X (compareOp .NotIn) (rInG X.K n true):=by
 intro pins s σ H x y v u Q I rx ry h
 obtain⟨p,t,xs,e,rfl,rfl,hp,hw,q⟩:=h
 cases ry
 cases rx
 obtain⟨its,h1,h2,h3⟩:=YD hu I hp hw
 refine SeqAt.notIn_listAt _ h1 h2 ⟨.bl _,H,I,rfl,?_⟩
 rw[h3]
 exact q
def Sa (K:α3)(n:Nat):V->List V->Hp->VK->Prop:=fun x vs H Q=>∃l xs t e m,x=.ref l/\vs=[.ref t]/\H l=some (.lst xs)/\EqsD K H n xs (.ref t) e/\m<xs.length/\e m=true/\(∀j,j<m->e j=false)/\xs.length<1000000/\Q (.int (m:Nat)) H
theorem TU {K:α3}      : Sa K n x vs H Q=∃l xs t e m,x=.ref l/\vs=[.ref t]/\H l=some (.lst xs)/\EqsD K H n xs (.ref t) e/\m<xs.length/\e m=true/\(∀j,j<m->e j=false)/\xs.length<1000000/\Q (.int (m:Nat)) H:=rfl
theorem Xq  (n:Nat)(hu:X.A.units+n+2<cLine):MtM X "list.index" (Sa X.K n):=by
 intro pins s σ H x vs v us Q I rx rv h
 obtain⟨l,xs,t,e,m,rfl,rfl,hH,hE,hm,hem,km,ah,q⟩:=h
 cases rx
 obtain⟨u,rfl,ry⟩:=vals1 rv
 cases ry
 obtain⟨zz,its,k,r,hl,eo⟩:=I.lstM hH
 have cO:xs.length=its.length:=r.length
 have get:∀(j:Nat) (hj:j<its.toArray.size),∃(a:Addr),its.toArray[j]=.ref a/\xs[j]?=some (.ref a)/\EqD X.K H n (.ref a) (.ref t) (e j):=fun j hj=>by
  have bK:j<xs.length:=by rw[jk_]at hj;omega
  obtain⟨a,e2,e3⟩:=hE.1 j xs[j] (by simp[bK])
  rw[e2]at e3
  have hx:xs[j]?=some (.ref a):=by rw[jf_ bK,e2]
  obtain⟨w',f1,f2⟩:=r.get hx
  have e4:its.toArray[j]=w':=by
   have:its[j]?=some its.toArray[j]:=by simp at hj;simp[hj]
   rw[f1]at this
   exact (jp_ this).symm
  cases f2
  exact⟨a,e4,hx,e3⟩
 have j9:m<its.toArray.size:=by rw[jk_];omega
 refine xC_ F.slot_list_index ⟨_,eo,rfl⟩ F.entry_list_index (F.args_list_index_2 _ _) (SeqAt.list_indexAt l its.toArray k none #[] (.ref t) (evG xs e) m j9 (by omega) ?_ fun j hj hjm=>?_) ⟨eo,fun y hy=>?_,?_⟩
 ·obtain⟨a,e1,e2,e3⟩:=get _ j9
  rw[e1,Qz hE e2];exact hem
 ·obtain⟨a,e1,e2,e3⟩:=get j hj
  rw[e1,Qz hE e2];exact km j hjm
 ·obtain⟨j,hj,ej⟩:=jS_ (show y∈its by simpa using hy)
  obtain⟨a,e1,e2,e3⟩:=get j (by rw[jk_];exact hj)
  have:y=.ref a:=by rw[<-ej,<-e1];simp
  rw[this,Qz hE e2]
  exact (EqD.at (x:=V.ref a) (y:=V.ref t) I n _ (by rw[in1_units];omega) rfl rfl e3).1
 ·exact⟨.int (m:Nat),H,I.tok _,⟨_,rfl⟩,q⟩
theorem UU  {K:α3}(h:X.K=K)(n:Nat)(hu:X.A.units+n+2<cLine):MtR X "list.index" (Sa K n):=by subst h;exact Xq n hu
end L2
namespace Mine
open PySem L2 GW GB
local macro_rules | `(tactic| walk_at "rd") => `(tactic| (try dsimp only[↓ZZ,Xb,↓r_ID,↓CN_,Z0,↓r_BD,CP_,↓CS_,↓CT_,Z2,Z3,Z4,CR_,↓Z7,↓Z8,Z5,Z6,↓Z9,Xd,↓Cj_,↓Zu,↓Ck_,↓Wi,↓Cl_,↓r_c,↓r_op,↓r_un,↓r_I,↓r_I0,↓r_U,↓Zv,↓Zw,↓Cm_,↓Cn_,↓Zx,↓r_if,↓r_B,↓Zy,↓Co_,↓r_or,↓Cp_,↓Zz,↓Wj,↓r_CB,↓Cq_,↓Cr_,↓Cs_,↓Ct_,↓r_sl,↓ZA,↓Ti,↓Cu_,↓Cz_,↓r_BM,↓Tj,↓ZB,↓ZC,↓r_Eq,↓r_Ne,↓Wk,↓ZD,↓Wl,↓Cv_,↓r_ip,↓ZE,↓ZF,↓Cx_,↓To,↓CA_,↓CB_,↓Tp,↓Wz,↓Qj,↓ZL,↓Wv,↓ZM,↓ZN,↓Tq,↓ZO,↓Ww,↓ZP,↓Tr,↓Ts,↓r_in,↓ZH,↓Qm,↓WW,CE_,↓Qq,Qy,Dj_,TU,↓ZY,↓WI,↓WJ,↓Tz,↓WP,Cw_,L2.start,j1_,xR_,jW_,qy_,zw_,xS_,List.replicate,zb_,List.getElem?_cons_succ,ze_,List.set_cons_succ,scal])<;>(try simp only[↓ZZ,Xb,↓r_ID,↓CN_,Z0,↓r_BD,CP_,↓CS_,↓CT_,Z2,Z3,Z4,CR_,↓Z7,↓Z8,Z5,Z6,↓Z9,Xd,Be_,CQ_,Bh_,Yo,Xc,↓Cj_,↓Zu,↓Ck_,↓Wi,↓Cl_,↓r_c,↓r_op,↓r_un,↓r_I,↓r_I0,↓r_U,↓Zv,↓Zw,↓Cm_,↓Cn_,↓Zx,↓r_if,↓r_B,↓Zy,↓Co_,↓r_or,↓Cp_,↓Zz,↓Wj,↓r_CB,↓Cq_,↓Cr_,↓Cs_,↓Ct_,↓r_sl,↓ZA,↓Ti,↓Cu_,↓Cz_,↓r_BM,↓Tj,↓ZB,↓ZC,↓r_Eq,↓r_Ne,↓Wk,↓ZD,↓Wl,↓Cv_,↓r_ip,↓ZE,↓ZF,↓Cx_,↓To,↓CA_,↓CB_,↓Tp,↓Wz,↓Qj,↓ZL,↓Wv,↓ZM,↓ZN,↓Tq,↓ZO,↓Ww,↓ZP,↓Tr,↓Ts,↓r_in,↓ZH,↓Qm,↓WW,CE_,↓Qq,Qy,Dj_,TU,↓ZY,↓WI,↓WJ,↓Tz,↓WP,Cw_,L2.start,j1_,xR_,jW_,qy_,zw_,xS_,qj_,List.replicate,zb_,List.getElem?_cons_succ,ze_,List.set_cons_succ,zj_,V.int.injEq,V.str.injEq,V.ref.injEq,V.bl.injEq,xG_,and_true,true_and,and_assoc,exists_and_left,exists_eq_left',exists_eq_left,exists_eq_right,exists_eq,xK_,qK_,jQ_,qq_,scal,Nat.reduceAdd,Nat.reduceSub,reduceCtorEq,z2_,zS_]))
local macro_rules | `(tactic| walk_at "sc") => `(tactic| exact⟨rfl,rfl,rfl,by decide +kernel,rfl,by decide +kernel,by decide +kernel⟩)
def top (i:Nat):Stmt:=PySem.Challenge.pw_guessroom_k26_whole_suite_is_enough.main.body.getD i (.Pass ⟨0,0,0,0⟩)
abbrev D5:Stmt:=top 4
theorem UV:FnScope ["letters","word"] ["letters","word"] (Af D5):=by walk_at "sc"
abbrev BC:Stmt:=top 5
theorem OD:FnScope ["letters","word"] ["letters","word"] (Af BC):=by walk_at "sc"
abbrev C3:Stmt:=top 6
theorem F4:FnScope ["letters","word","kept"] ["letters","word"] (Af C3):=by walk_at "sc"
abbrev Du:Stmt:=top 7
theorem Fn:FnScope ["letters","most","words","word"] ["letters","most"] (Af Du):=by walk_at "sc"
abbrev Ho:Stmt:=top 9
theorem KJ:FnScope ["house","word","ways","rooms","letter"] ["house","word"] (Af Ho):=by walk_at "sc"
abbrev BD:Stmt:=top 10
theorem M5:FnScope ["house","word"] ["house","word"] (Af BD):=by walk_at "sc"
abbrev BE:Stmt:=top 11
theorem M6:FnScope ["house","word"] ["house","word"] (Af BE):=by walk_at "sc"
abbrev C9:Stmt:=top 13
theorem Cu:FnScope ["house","words","rooms","walked","room","letter","goal"] ["house"] (Af C9):=by walk_at "sc"
abbrev D6:Stmt:=top 14
theorem NP:FnScope ["house","words"] ["house"] (Af D6):=by walk_at "sc"
abbrev DE:Stmt:=top 15
theorem UW:FnScope ["house"] ["house"] (Af DE):=by walk_at "sc"
abbrev Dv:Stmt:=top 17
theorem Hq:FnScope ["row","numbers","thing"] ["row"] (Af Dv):=by walk_at "sc"
abbrev AW:Stmt:=top 18
theorem AB:FnScope ["house","words","marks_behind","classes","walked","letter","marks","finer"] ["house"] (Af AW):=by walk_at "sc"
abbrev D7:Stmt:=top 19
theorem UX:FnScope ["house"] ["house"] (Af D7):=by walk_at "sc"
abbrev Cv:Stmt:=top 20
theorem OE:FnScope ["house"] ["house"] (Af Cv):=by walk_at "sc"
abbrev Hr:Stmt:=top 22
theorem Ib:FnScope ["house","classes","numbers","told","room"] ["house"] (Af Hr):=by walk_at "sc"
abbrev Hs:Stmt:=top 23
theorem Ic:FnScope ["house","home_of","marks","ways","room"] ["house"] (Af Hs):=by walk_at "sc"
abbrev Da:Stmt:=top 25
theorem Ht:FnScope ["words","once","word"] ["words"] (Af Da):=by walk_at "sc"
abbrev Cw:Stmt:=top 26
theorem Dn:FnScope ["base","more","ends","words","way","middle","first"] ["base","more","ends"] (Af Cw):=by walk_at "sc"
abbrev Hu:Stmt:=top 27
theorem OF:FnScope ["house","more","base","words"] ["house","more"] (Af Hu):=by walk_at "sc"
abbrev C4:Stmt:=top 28
theorem QA:FnScope ["house","words"] ["house","words"] (Af C4):=by walk_at "sc"
abbrev Bo:Stmt:=top 29
theorem D8:FnScope ["house","some","trial"] ["house","some"] (Af Bo):=by walk_at "sc"
abbrev Fo:Stmt:=top 30
theorem Xr:FnScope ["house","some"] ["house","some"] (Af Fo):=by walk_at "sc"
abbrev A2:Stmt:=top 32
theorem Ld:FnScope ["script","k"] ["script","k"] (Af A2):=by walk_at "sc"
abbrev Bf:Stmt:=top 33
theorem Fp:FnScope ["number","k","many","turn"] ["number","k","many"] (Af Bf):=by walk_at "sc"
abbrev Bt:Stmt:=top 34
theorem AY:FnScope ["number","rooms","way","top","marks","room","mark"] ["number","rooms"] (Af Bt):=by walk_at "sc"
abbrev BP:Stmt:=top 35
theorem AQ:FnScope ["script","letters","rooms","shape","ways","room","row","letter","k","goal"] ["script","letters","rooms"] (Af BP):=by walk_at "sc"
abbrev B9:Stmt:=top 36
theorem Bl:FnScope ["house","number","rooms","small","fold","ways","room","row","letter","goal","twins"] ["house","number","rooms"] (Af B9):=by walk_at "sc"
abbrev Bu:Stmt:=top 37
theorem A5:FnScope ["script","letters","rooms","marks","house","number"] ["script"] (Af Bu):=by walk_at "sc"
abbrev BQ:Stmt:=top 38
theorem F5:FnScope ["script","house","number"] ["script","house"] (Af BQ):=by walk_at "sc"
abbrev Bv:Stmt:=top 39
theorem By:FnScope ["house","row","at","here","goal"] ["house"] (Af Bv):=by walk_at "sc"
abbrev BR:Stmt:=top 40
theorem B1:FnScope ["house","number","marks","ways","room","letter","same"] ["house","number"] (Af BR):=by walk_at "sc"
abbrev Bj:Stmt:=top 41
theorem Bq:FnScope ["house","number","rooms","order","marks","ways","room"] ["house","number"] (Af Bj):=by walk_at "sc"
abbrev BS:Stmt:=top 42
theorem Bw:FnScope ["house","row","turn","keys","known","key"] ["house"] (Af BS):=by walk_at "sc"
abbrev C5:Stmt:=top 43
theorem Cy:FnScope ["house","row","order","first","room","number","ways"] ["house"] (Af C5):=by walk_at "sc"
abbrev Bx:Stmt:=top 44
theorem AR:FnScope ["house","script","many","base","number","way","most","rooms","marks","ways","rival"] ["house","script","many"] (Af Bx):=by walk_at "sc"
abbrev BT:Stmt:=top 45
theorem Cz:FnScope ["script","letters","word","number","k"] ["script","letters"] (Af BT):=by walk_at "sc"
abbrev BU:Stmt:=top 46
theorem F6:FnScope ["found","letters","letter"] ["found","letters"] (Af BU):=by walk_at "sc"
abbrev C6:Stmt:=top 47
theorem F7:FnScope ["house","room","word","letter"] ["house","room","word"] (Af C6):=by walk_at "sc"
abbrev OG:Stmt:=top 48
theorem EV:FnScope ["script","house","many","rival","some","trial","due","word","one","two","size"] ["script"] (Af OG):=by walk_at "sc"
abbrev Id:Pos:=⟨105,34,105,64⟩
def Le:Caps:=[("letter",none),("letters",some 0)]
theorem M7:(Caps.names Le).Nodup:=by decide +kernel
def Lf:Caps:=[("room",none),("words",some 1)]
theorem M8:(Caps.names Lf).Nodup:=by decide +kernel
def Jw:Caps:=[("thing",none),("numbers",some 1)]
theorem Lg:(Caps.names Jw).Nodup:=by decide +kernel
def DF:Caps:=[("goals",none),("marks_behind",some 2),("walked",some 4),("letter",some 5)]
theorem EW:(Caps.names DF).Nodup:=by decide +kernel
def QB:Caps:=[("goal",none),("home_of",some 1)]
theorem QC:(Caps.names QB).Nodup:=by decide +kernel
def He:Caps:=[("end",none),("first",some 6)]
theorem IN:(Caps.names He).Nodup:=by decide +kernel
def QD:Caps:=[("mark",none),("words",some 3)]
theorem QE:(Caps.names QD).Nodup:=by decide +kernel
def Ie:Caps:=[("word",none),("house",some 0)]
theorem JL:(Caps.names Ie).Nodup:=by decide +kernel
def Hf:Caps:=[("twin",none),("goal",some 9),("fold",some 4)]
theorem IO:(Caps.names Hf).Nodup:=by decide +kernel
def Hg:Caps:=[("room",none),("house",some 0)]
theorem IP:(Caps.names Hg).Nodup:=by decide +kernel
def Fx:Caps:=[("row",none)]
theorem Hv:(Caps.names Fx).Nodup:=by decide +kernel
def Fy:Caps:=[("goal",none),("marks",some 2),("letter",some 5),("ways",some 3),("room",some 4)]
theorem Hw:(Caps.names Fy).Nodup:=by decide +kernel
def Fz:Caps:=[("row",none)]
theorem Hx:(Caps.names Fz).Nodup:=by decide +kernel
def Ev:Caps:=[("room",none),("number",some 1),("rooms",some 2)]
theorem F8:(Caps.names Ev).Nodup:=by decide +kernel
def Ew:Caps:=[("goal",none),("order",some 3)]
theorem F9:(Caps.names Ew).Nodup:=by decide +kernel
def FA:Caps:=[("room",none),("row",some 1),("house",some 0)]
theorem Hy:(Caps.names FA).Nodup:=by decide +kernel
def FC:Caps:=[("goal",none),("row",some 1)]
theorem Hz:(Caps.names FC).Nodup:=by decide +kernel
def FD:Caps:=[("key",none),("known",some 4)]
theorem HD:(Caps.names FD).Nodup:=by decide +kernel
def Ig:Caps:=[("seen",none),("row",some 1)]
theorem JN:(Caps.names Ig).Nodup:=by decide +kernel
def Ih:Caps:=[("room",none),("row",some 1)]
theorem JO:(Caps.names Ih).Nodup:=by decide +kernel
def Ii:Caps:=[("room",none),("number",some 5),("row",some 1),("house",some 0)]
theorem JQ:(Caps.names Ii).Nodup:=by decide +kernel
def Ij:Caps:=[("goal",none),("number",some 1),("row",some 2)]
theorem JR:(Caps.names Ij).Nodup:=by decide +kernel
def Hh:Caps:=[("room",none),("house",some 0)]
theorem IQ:(Caps.names Hh).Nodup:=by decide +kernel
def EX:Caps:=[("room",none),("house",some 0),("number",some 4)]
theorem GU:(Caps.names EX).Nodup:=by decide +kernel
def EY:Caps:=[("room",none),("rooms",some 7),("number",some 4),("house",some 0)]
theorem GV:(Caps.names EY).Nodup:=by decide +kernel
def EZ:Caps:=[("k",none),("rooms",some 1),("number",some 2),("room",some 0)]
theorem GX:(Caps.names EZ).Nodup:=by decide +kernel
def E1:Caps:=[("row",none)]
theorem GY:(Caps.names E1).Nodup:=by decide +kernel
def FE:Caps:=[("cell",none),("letters",some 1)]
theorem HE:(Caps.names FE).Nodup:=by decide +kernel
structure Txt (mg:Str->α5):Prop where
 all:mg "all"=none
 bool:mg "bool"=none
 enumerate:mg "enumerate"=none
 int:mg "int"=none
 isinstance:mg "isinstance"=none
 len:mg "len"=none
 list:mg "list"=none
 max:mg "max"=none
 min:mg "min"=none
 range:mg "range"=none
 sorted:mg "sorted"=none
 tuple:mg "tuple"=none
 zip:mg "zip"=none
section
variable {P:Program} {w:World} {K:α3} {mg:Str->α5} {base:Heap}
def NQ (K:α3):Sp:=fun vs H Q _=>∃(L:Int) (a:Addr) (ws:α2),vs=[.int L,.ref a]/\SqT K H a (ws.map V.int)/\ws.length<=1000/\∀H',Same H H'->Q (.bl (isW L ws)) H'
theorem UY   (F:Fun K "is_word" "is_word" D5 f fd)(T:Txt mg)
  : FnOk P w K mg base CX0 1 f fd ["letters","word"] (NQ K):=by
 refine F.ok UV (fun vs H Q E h=>?_) (fun aq A outer s H vs Q E hr h=>?_)
 ·obtain⟨L,a,ws,rfl,_⟩:=h;rfl
 ·obtain⟨L,a,ws,rfl,hw,hz,k⟩:=h
  have hl:=AC
  refine⟨_,(Ag (AO (As (X3 rfl) rfl T.all PyProof.Rows.boot_all (Aa (BX rfl (BY rfl) (cp:=Le) ⟨⟨rfl,rfl⟩,True.intro⟩ (FU (pvD 1)) (fun _ _ _ _=>(At (i:=0) M7 rfl (Or.inl rfl))) (fun _ _ _ _=>B8) (fun _ _ _ _=>(XS BQ_ KO Ac (pvD 0) (pvD 1)))) Ae)))),?_⟩
  walk_at "rd"
  refine⟨⟨_,hw⟩,GF (ae:=[some (.int L)]) (fun x=>match x with | .int n=>.bl (inW L n)|_=>.non) rfl hw (by rw[ja_];omega) (fun x hx R hR=>?_) (fun D hD=>?_)⟩
  ·obtain⟨n,_,rfl⟩:=Er hx
   walk_at "rd"
   by_cases h0:0<=n
   ·simp only[h0,xK_]
    simpa [inW,h0] using hR
   ·simp only[h0,qK_]
    simpa [inW,h0] using hR
  ·refine⟨D,rfl,ws.map (inW L),.inl (.inl ?_),?_⟩
   ·rw[Ab,jX_,jX_];rfl
   ·have:=k _ (Same.new hD (o:=.lst ((ws.map V.int).map fun x=>match x with | .int n=>.bl (inW L n)|_=>.non)))
    simpa [isW,List.all_map] using this
def KL (K:α3):Sp:=fun vs H Q E=>∃(L:Int) (a:Addr) (ws:α2),vs=[.int L,.ref a]/\SqT K H a (ws.map V.int)/\ws.length<=1000/\(isW L ws=true->∀H',Same H H'->Q .non H')/\(isW L ws=false->False)
theorem OH   (F:Fun K "check_word" "check_word" BC f fd)(T:Txt mg)
   (Lh:FnOk P w K mg base CX0 1 E2 NR ["letters","word"] (NQ K)) (Ga:Fun K "is_word" "is_word" D5 E2 NR) (Li:Binds K NR ["letters","word"] []) (Lj:mg "is_word"=some (.ref E2))
  : FnOk P w K mg base CX0 2 f fd ["letters","word"] (KL K):=by
 refine F.ok OD (fun vs H Q E h=>?_) (fun aq A outer s H vs Q E hr h=>?_)
 ·obtain⟨L,a,ws,rfl,_⟩:=h;rfl
 ·obtain⟨L,a,ws,rfl,hw,hz,k,kE⟩:=h
  have hl:=AC
  refine⟨_,(Ag (Cq (Nt (ptB (KN (Al Lh (hr.mono (by decide)) rfl Lj Ga.kp Li .nil AZ (Aa (pvD 0) (Aa (pvD 1) Ae))))))
   (Ag XN)
   AU)),?_⟩
  walk_at "rd"
  refine⟨L,a,ws,rfl,hw,hz,fun H' s'=>?_⟩
  walk_at "rd"
  cases hv:isW L ws with
  |true=>
   simp only[z2_,jQ_,qK_]
   exact k hv H' s'
  |false=>
   simp only[zS_,xK_]
   exact (kE hv).elim
def TV (K:α3):Sp:=fun vs H Q E=>∃(L:Int) (a:Addr) (ws:α2),vs=[.int L,.ref a]/\SqT K H a (ws.map V.int)/\ws.length<=990/\(isW L ws=true->∀p H',Same H H'->H' p=some (.tup ((F0 L ws).map V.int))->Q (.ref p) H')/\(isW L ws=false->False)
theorem QF   (F:Fun K "next_word" "next_word" C3 f fd)(T:Txt mg)
   (BF:FnOk P w K mg base CX0 2 A6 BG ["letters","word"] (KL K)) (Bg:Fun K "check_word" "check_word" BC A6 BG) (BH:Binds K BG ["letters","word"] []) (BI:mg "check_word"=some (.ref A6))
  : FnOk P w K mg base CX0 3 f fd ["letters","word"] (TV K):=by
 refine F.ok F4 (fun vs H Q E h=>?_) (fun aq A outer s H vs Q E hr h=>?_)
 ·obtain⟨L,a,ws,rfl,_⟩:=h;rfl
 ·obtain⟨L,a,ws,rfl,hw,hz,k',kE⟩:=h
  have hl:=AC
  refine⟨_,(Ad (BN (Al BF (hr.mono (by decide)) rfl BI Bg.kp BH .nil AZ (Aa (pvD 0) (Aa (pvD 1) Ae))))
   (Ad (Aj (i:=2) F4.nd (As (lenD Ak) (by rfl) T.len jH_ (Aa (pvD 1) Ae)))
   (Ad (GD jI_ (PW.pt (Jp (ptT (Av (opD0 Av_) (pvD 2) Ac (AS _))) (FT (ptT (Av (opE Dh) (Ah (ixTD Ao) (pvD 1) (An (opD0 Ep) (pvD 2) Ac)) (An (opD0 Ep) (pvD 0) Ac) (AS _))))))
   (Ag (VF (i:=2) F4.nd rfl (Or.inl rfl) Ac BL_)))
   (Ad (Cq (ptT (Av (opE Dh) (pvD 2) Ac (AS _)))
   (Ag (AO (An Wq (C7 (Aa Ac Ae)) (An (opD0 Bh) (As (lenD Ak) (by rfl) T.len jH_ (Aa (pvD 1) Ae)) Ac))))
   AU)
   (Ag (AO (An GG (An GG (N6 BY_ (pvD 1) Rx (Ry (An (opD0 Ep) (pvD 2) Ac))) (C7 (Aa (An (opD0 Bh) (Ah (ixTD Ao) (pvD 1) (An (opD0 Ep) (pvD 2) Ac)) Ac) Ae))) (An Wq (C7 (Aa Ac Ae)) (An (opD0 Ep) (As (lenD Ak) (by rfl) T.len jH_ (Aa (pvD 1) Ae)) (pvD 2)))))))))),?_⟩
  walk_at "rd"
  refine⟨L,a,ws,rfl,hw,by omega,fun hv H1 s1=>?_,kE⟩
  have k:=k' hv
  walk_at "rd"
  have b7:=s1.seqT hw
  refine⟨_,.inr b7,?_⟩
  rw[ja_]
  obtain⟨Pv,ai⟩:∃Pv:Nat->St->Hp->Prop,∀m af H2,Pv m af H2↔(H2=H1/\∃kept:Nat,m=kept/\kept<=ws.length/\(∀j,kept<=j->j<ws.length->ws[j]?=some (L-1))/\af=[some (.int L),some (.ref a),some (.int kept)]):=⟨_,fun _ _ _=>ql_⟩
  refine Ny Pv ⟨ws.length,(ai _ _ _).mpr ⟨rfl,ws.length,rfl,jg_ _,fun j h1 h2=>absurd h2 (by omega),rfl⟩⟩ ?_
  intro m af H2 hp
  obtain⟨rfl,kept,em,hk,hj,rfl⟩:=(ai _ _ _).mp hp
  walk_at "rd"
  by_cases h0:0<kept
  ·have ah:kept-1<ws.length:=by omega
   have hx:ws[kept-1]?=some (ws[kept-1]'ah):=by simp[ah]
   have ax:atI (ws.map V.int) ((kept:Int)-1)=some (V.int (ws[kept-1]'ah)):=D4 (by omega) (by rw[je_,show ((kept:Int)-1).toNat=kept-1 by omega,hx];rfl)
   rw[if_pos (show (0:Int)<kept by omega)]
   refine⟨_,b7,_,ax,?_⟩
   walk_at "rd"
   refine ite2 (fun he=>?_) (fun ao=>?_)
   ·refine⟨fun ae H'=>H'=H2/\ae=[some (.int L),some (.ref a),some (.int ((kept:Int)-1))],fun ae H' h=>?_,rfl,rfl⟩
    obtain⟨rfl,rfl⟩:=h
    refine⟨kept-1,by omega,(ai _ _ _).mpr ⟨rfl,kept-1,rfl,by omega,fun j h1 h2=>?_,by rw[show ((kept-1:Nat):Int)=(kept:Int)-1 by omega]⟩⟩
    by_cases e:j=kept-1
    ·subst e;rw[hx,he]
    ·exact hj j (by omega) h2
   ·-- return word[:kept-1]+(word[kept-1]+1,)+(0,) * ..
    rw[if_neg (show ¬ (kept:Int)=0 by omega)]
    have hcut:¬ (HT.sIx (ws.map V.int).length 0 none=0/\HT.sIx (ws.map V.int).length (ws.map V.int).length (some ((kept:Int)-1))=(ws.map V.int).length):=by
     rintro⟨_,h2⟩
     rw[show (kept:Int)-1=((kept-1:Nat):Int) by omega,HT.sIx_nat,ja_]at h2
     omega
    have ecut:cutV (ws.map V.int) none (some ((kept:Int)-1))=(ws.take (kept-1)).map V.int:=by
     rw[Tk]
     unfold cutI
     rw[show (kept:Int)-1=((kept-1:Nat):Int) by omega,HT.sIx_nat,HT.sIx_none,List.drop_zero,Nat.sub_zero]
     congr 2
     omega
    refine⟨_,b7,hcut,fun p1 bo=>?_⟩
    rw[ecut]
    have t1:Same H2 (upd H2 p1 (.tup ((ws.take (kept-1)).map V.int))):=Same.new bo
    have q1:(upd H2 p1 (.tup ((ws.take (kept-1)).map V.int))) p1=some (.tup ((ws.take (kept-1)).map V.int)):=Ab
    generalize upd H2 p1 (.tup ((ws.take (kept-1)).map V.int))=H3 at t1 q1 ⊢
    refine⟨_,t1.seqT b7,_,ax,?_⟩
    walk_at "rd"
    refine⟨by omega,fun p2 aP=>?_⟩
    refine Hd.ofS ((Same.new aP) _ _ q1) Ab (by simp;omega) fun p3 H4 t4 q3=>?_
    walk_at "rd"
    have t5:Same H2 H4:=(t1.newT aP).trans t4
    refine⟨by omega,fun p4 dC=>?_⟩
    have q3':=(Same.new dC (o:=.tup [V.int 0])) _ _ q3
    have w4:=((t5.newT dC (o:=.tup [V.int 0])).seqT b7)
    have t6:=t5.newT dC (o:=.tup [V.int 0])
    have z4:(upd H4 p4 (.tup [V.int 0])) p4=some (.tup [V.int 0]):=Ab
    generalize upd H4 p4 (.tup [V.int 0])=H5 at q3' w4 t6 z4 ⊢
    refine⟨_,.inr w4,?_⟩
    refine Wp.ofS z4 (by simp) (by omega) (by rw[ja_];omega) (by simp;omega) fun p5 H6 t7 q5=>?_
    refine Hd.ofS (t7 _ _ q3') q5 (by simp[KU];omega) fun p6 H7 t8 q6=>?_
    refine k p6 H7 (s1.trans (t6.trans (t7.trans t8))) ?_
    have e:=Qh (L:=L) (w:=ws) (k:=kept-1) ah (fun j h1 h2=>hj j (by omega) h2) hx (by intro z;exact ao (by rw[z]))
    rw[e]
    rw[KU]at q6
    have en:(((ws.map V.int).length:Int)-(kept:Int)).toNat=ws.length-(kept-1+1):=by rw[ja_];omega
    rw[en]at q6
    simpa [jT_,zf_] using q6
  ·have h00:kept=0:=by omega
   subst h00
   rw[if_neg (by omega)]
   walk_at "rd"
   refine⟨by omega,fun p1 bo=>?_⟩
   refine⟨_,.inr ((Same.new bo).seqT b7),?_⟩
   refine Wp.ofS Ab (by simp) (by omega) (by rw[ja_];omega) (by simp;omega) fun p5 H6 t7 q5=>?_
   refine k p5 H6 (s1.trans ((Same.new bo).trans t7)) ?_
   rw[RJ (L:=L) (w:=ws) hj]
   rw[KU]at q5
   have en:(((ws.map V.int).length:Int)+1).toNat=ws.length+1:=by rw[ja_];omega
   rw[en]at q5
   simpa [zf_] using q5
def Ac_ (K:α3):Sp:=fun vs H Q _=>∃(L:Int) (m:Nat),vs=[.int L,.int m]/\1<=L/\L<=6/\m<=8/\many L (m+1)<=4000/\∀p xs H',Same H H'->H p=none->H' p=some (.lst xs)->AV K H' xs ((List.range (many L (m+1)).toNat).map (nth L))->Q (.ref p) H'
theorem Sb   (F:Fun K "words_to" "words_to" Du f fd)(T:Txt mg)
   (HF:FnOk P w K mg base CX0 3 Dx Jx ["letters","word"] (TV K)) (D9:Fun K "next_word" "next_word" C3 Dx Jx) (HG:Binds K Jx ["letters","word"] []) (HH:mg "next_word"=some (.ref Dx))
  : FnOk P w K mg base CX0 4 f fd ["letters","most"] (Ac_ K):=by
 refine F.ok Fn (fun vs H Q E h=>?_) (fun aq A outer s H vs Q E hr h=>?_)
 ·obtain⟨L,m,rfl,_⟩:=h;rfl
 ·obtain⟨L,m,rfl,b8,b9,hm,bT,k⟩:=h
  have hl:=AC
  refine⟨_,(Ad (Aj (i:=2) Fn.nd (Cn Ae))
   (Ad (Aj (i:=3) Fn.nd (C7 Ae))
   (Ad (GD jI_ (ptT (Av (opD0 BQ_) (As (lenD Ak) (by rfl) T.len jH_ (Aa (pvD 3) Ae)) (pvD 1) (AS _)))
   (Ad (BN (Fd jD_ jL_ jM_ Bd (pvD 2) (Aa (pvD 3) Ae)))
   (Ag (Aj (i:=3) Fn.nd (Al HF (hr.mono (by decide)) rfl HH D9.kp HG .nil AZ (Aa (pvD 0) (Aa (pvD 3) Ae)))))))
   (Ag (AO (pvD 2)))))),?_⟩
  walk_at "rd"
  refine⟨by omega,fun p hp=>⟨by omega,fun t ht=>?_⟩⟩
  have f9:p≠t:=fun z=>by rw[<-z,Ab]at ht;cases ht
  obtain⟨Pv,ai⟩:∃Pv:Nat->St->Hp->Prop,∀m' af H2,Pv m' af H2↔(∃(n:Nat) (t2:Addr) (xs:List V),m'=((many L (m+1)).toNat-n)/\n<=(many L (m+1)).toNat/\Same H H2/\H2 p=some (.lst xs)/\AV K H2 xs ((List.range n).map (nth L))/\H2 t2=some (.tup ((nth L n).map V.int))/\af=[some (.int L),some (.int m),some (.ref p),some (.ref t2)]):=⟨_,fun _ _ _=>ql_⟩
  refine Ny Pv ⟨_,(ai _ _ _).mpr ⟨0,t,[],rfl,jZ_ _,(Same.new hp).newT ht,by rw[Ai f9,Ab],AV.nil,Ab,rfl⟩⟩ ?_
  intro m' af H2 dD
  obtain⟨n,t2,xs,rfl,hn,s2,kn,hW,hT,rfl⟩:=(ai _ _ _).mp dD
  have hv:=ER (show 0<L by omega) n
  have dJ:=GH (show 0<L by omega) hv m
  rw[F1]at dJ
  have eA:=Dr (show 0<L by omega) (m+1)
  have bL:=hW.1
  rw[ja_,qX_]at bL
  walk_at "rd"
  refine⟨_,.inr (SqT.of hT),?_⟩
  rw[ja_]
  refine ite2 (fun hle=>?_) (fun jq=>?_)
  ·have iF:(nth L n).length<=m:=by omega
   have ah:=dJ.mp iF
   refine⟨fun ae H'=>∃t3 ko,ae=[some (.int L),some (.int m),some (.ref p),some (.ref t3)]/\Same H H'/\H' p=some (.lst ko)/\AV K H' ko ((List.range (n+1)).map (nth L))/\H' t3=some (.tup ((nth L (n+1)).map V.int)),fun ae H' h=>?_,?_⟩
   ·obtain⟨t3,ko,rfl,s3,dY,hW3,iG⟩:=h
    exact⟨_,by omega,(ai _ _ _).mpr ⟨n+1,t3,ko,rfl,by omega,s3,dY,hW3,iG,rfl⟩⟩
   ·have hlen:=Ur (show 0<L by omega) n
    have hT':=TK.lst kn (o:=.lst (xs++[V.ref t2])) _ _ hT
    refine⟨.inl ⟨rfl,_,SqL.of kn⟩,_,kn,by omega,L,t2,nth L n,rfl,SqT.of hT',by omega,fun _ t3 H3 s3 iG=>?_,fun hf=>by rw[hv]at hf;cases hf⟩
    refine⟨t3,xs++[V.ref t2],rfl,(s2.over hp).trans s3,s3 _ _ Ab,?_,iG⟩
    rw[xU_,jT_]
    exact ((hW.mono (TK.lst kn)).snoc hT').mono (TK.of s3)
  ·have aV:¬ (nth L n).length<=m:=by omega
   have hnl:¬ ((n:Int)<many L (m+1)):=fun z=>aV (dJ.mpr z)
   have e:n=(many L (m+1)).toNat:=by omega
   subst e
   walk_at "rd"
   exact k p xs H2 s2 hp kn hW
def TW (K:α3):Sp:=fun vs H Q E=>∃(h a:Addr) (L:Int) (marks:α2) (aa:α1) (ws:α2),vs=[.ref h,.ref a]/\BO K H h L marks aa/\Wf L marks aa/\SqT K H a (ws.map V.int)/\ws.length<=600/\(isW L ws=true->∀p H',Same H H'->H p=none->H' p=some (.lst ((Nz aa ws).map V.int))->Q (.ref p) H')/\(isW L ws=false->False)
theorem YE   (F:Fun K "trail" "trail" Ho f fd)(T:Txt mg)
   (BF:FnOk P w K mg base CX0 2 A6 BG ["letters","word"] (KL K)) (Bg:Fun K "check_word" "check_word" BC A6 BG) (BH:Binds K BG ["letters","word"] []) (BI:mg "check_word"=some (.ref A6))
  : FnOk P w K mg base CX0 3 f fd ["house","word"] (TW K):=by
 refine F.ok KJ (fun vs H Q E h=>?_) (fun aq A outer s H vs Q E hr h=>?_)
 ·obtain⟨h,a,L,marks,aa,ws,rfl,_⟩:=h;rfl
 ·obtain⟨h,a,L,marks,aa,ws,rfl,hh,wf,hw,hz,k,kE⟩:=h
  have hl:=AC
  refine⟨_,(Ad (BN (Al BF (hr.mono (by decide)) rfl BI Bg.kp BH .nil AZ (Aa (Ah (ixTD Ao) (pvD 0) Ac) (Aa (pvD 1) Ae))))
   (Ad (Aj (i:=2) KJ.nd (Ah (ixTD Ao) (pvD 0) Ac))
   (Ad (Aj (i:=3) KJ.nd (Cn (Aa Ac Ae)))
   (Ad (Cb jI_ rfl (FU (pvD 1)) (At (i:=4) KJ.nd rfl (Or.inl rfl))
   (Ag (BN (Fd jD_ jL_ jM_ Bd (pvD 3) (Aa (Ah (ixTD Ao) (Ah (ixTD Ao) (pvD 2) (Ah (ixLD Bi) (pvD 3) (BP_ Zo Ac))) (pvD 4)) Ae)))))
   (Ag (AO (pvD 3))))))),?_⟩
  walk_at "rd"
  obtain⟨m,wv,h1,h2,h3⟩:=hh
  refine⟨_,h1,_,rfl,L,a,ws,rfl,hw,by omega,fun hv H1 s1=>?_,kE⟩
  walk_at "rd"
  have b7:=s1.seqT hw
  have h3':=h3.mono s1
  refine⟨_,s1.seqT h1,_,rfl,by omega,fun p hp=>?_⟩
  have s2:=Same.new hp (o:=.lst [V.int 0])
  refine⟨⟨_,s2.seqT b7⟩,forT (xs:=ws.map V.int) (fun i af H2=>Same H1 H2/\H2 p=some (.lst (((List.range (i+1)).map fun j=>AK aa (ws.take j)).map V.int))/\∃o,af=[some (.ref h),some (.ref a),some (.ref wv),some (.ref p),o]) ⟨s2,by rw[Ab];simp[AK],none,rfl⟩ (fun i af H2 _ h=>h.1.seqT b7) (fun i x af H2 hx h=>?_) (fun af H2 h=>?_)⟩
  ·obtain⟨s3,dY,o,rfl⟩:=h
   obtain⟨n,hn,rfl⟩:=Di hx
   have hi:=(jb_.mp hn).1
   have hx:=AD.mp hv n (jd_ hn)
   have dE:=wf.walk hv i
   obtain⟨row,g,r1,r2,r3,r4,r5⟩:=wf.step dE.1 dE.2 hx.1 hx.2
   obtain⟨xs,t,q1,q2,q3⟩:=(h3'.mono s3).atZ dE.1 r1
   walk_at "rd"
   refine⟨.inl ⟨rfl,_,SqL.of dY⟩,_,SqL.of dY,_,Wu (v:=V.int (AK aa (ws.take i))) (by simp),?_⟩
   walk_at "rd"
   refine⟨_,q1,_,q2,?_⟩
   walk_at "rd"
   refine⟨_,q3,_,Bs hx.1 r2,_,dY,by simp;omega,s3.over hp,?_,_,rfl⟩
   rw[Ab,show List.range (i+1+1)=List.range (i+1)++[i+1] from xU_,jT_,jT_,<-r3,<-GI hn]
   rfl
  ·obtain⟨s3,dY,o,rfl⟩:=h
   walk_at "rd"
   rw[ja_]at dY
   exact k hv p H2 (s1.trans s3) (s1.free hp) dY
def Sc (K:α3):Sp:=fun vs H Q E=>∃(h a:Addr) (L:Int) (marks:α2) (aa:α1) (ws:α2),vs=[.ref h,.ref a]/\BO K H h L marks aa/\Wf L marks aa/\SqT K H a (ws.map V.int)/\ws.length<=600/\(isW L ws=true->∀H',Same H H'->Q (.int (AK aa ws)) H')/\(isW L ws=false->False)
theorem M9   (F:Fun K "room_behind" "room_behind" BD f fd)(T:Txt mg)
   (Sd:FnOk P w K mg base CX0 3 IR TX ["house","word"] (TW K)) (Lk:Fun K "trail" "trail" Ho IR TX) (Se:Binds K TX ["house","word"] []) (Sf:mg "trail"=some (.ref IR))
  : FnOk P w K mg base CX0 4 f fd ["house","word"] (Sc K):=by
 refine F.ok M5 (fun vs H Q E h=>?_) (fun aq A outer s H vs Q E hr h=>?_)
 ·obtain⟨h,a,L,marks,aa,ws,rfl,_⟩:=h;rfl
 ·obtain⟨h,a,L,marks,aa,ws,rfl,hh,wf,hw,hz,k,kE⟩:=h
  have hl:=AC
  refine⟨_,(Ag (AO (Ah (ixLD Bi) (Al Sd (hr.mono (by decide)) rfl Sf Lk.kp Se .nil AZ (Aa (pvD 0) (Aa (pvD 1) Ae))) (BP_ Zo Ac)))),?_⟩
  walk_at "rd"
  refine⟨h,a,L,marks,aa,ws,rfl,hh,wf,hw,hz,fun hv p H1 s1 _ hp=>?_,kE⟩
  walk_at "rd"
  refine⟨_,SqL.of hp,_,Wu (v:=V.int (AK aa ws)) ?_,k hv H1 s1⟩
  rw[je_,ja_,Og,show ws.length+1-1=ws.length by omega,RK];rfl
def IS (marks:α2)(r:Int):Int:=marks.getD r.toNat 0
theorem Ik   (h0:0<=r)(h1:r<marks.length):atI (marks.map V.int) r=some (V.int (IS marks r)):=by
 have ah:r.toNat<marks.length:=by omega
 refine Bs h0 ?_
 unfold IS
 rw[jh_]
 simp[ah]
def Sg (K:α3):Sp:=fun vs H Q E=>∃(h a:Addr) (L:Int) (marks:α2) (aa:α1) (ws:α2),vs=[.ref h,.ref a]/\BO K H h L marks aa/\Wf L marks aa/\SqT K H a (ws.map V.int)/\ws.length<=600/\(isW L ws=true->∀H',Same H H'->Q (.int (IS marks (AK aa ws))) H')/\(isW L ws=false->False)
theorem Na   (F:Fun K "mark_behind" "mark_behind" BE f fd)(T:Txt mg)
   (CJ:FnOk P w K mg base CX0 4 Bm CS ["house","word"] (Sc K)) (BJ:Fun K "room_behind" "room_behind" BD Bm CS) (CK:Binds K CS ["house","word"] []) (CL:mg "room_behind"=some (.ref Bm))
  : FnOk P w K mg base CX0 5 f fd ["house","word"] (Sg K):=by
 refine F.ok M6 (fun vs H Q E h=>?_) (fun aq A outer s H vs Q E hr h=>?_)
 ·obtain⟨h,a,L,marks,aa,ws,rfl,_⟩:=h;rfl
 ·obtain⟨h,a,L,marks,aa,ws,rfl,hh,wf,hw,hz,k,kE⟩:=h
  have hl:=AC
  refine⟨_,(Ag (AO (Ah (ixTD Ao) (Ah (ixTD Ao) (pvD 0) Ac) (Al CJ (hr.mono (by decide)) rfl CL BJ.kp CK .nil AZ (Aa (pvD 0) (Aa (pvD 1) Ae)))))),?_⟩
  walk_at "rd"
  have mY:=hh
  obtain⟨m,wv,h1,h2,h3⟩:=hh
  refine⟨_,h1,_,rfl,?_⟩
  walk_at "rd"
  refine⟨h,a,L,marks,aa,ws,rfl,mY,wf,hw,hz,fun hv H1 s1=>?_,kE⟩
  walk_at "rd"
  have dE:=wf.walk hv ws.length
  rw[jU_]at dE
  exact⟨_,s1.seqT h2,_,Ik dE.1 dE.2,k hv H1 s1⟩
def Gb (K:α3)(H:Hp)(d:Addr)(ents:List (Int×α2)):Prop:=∃kvs:List (Key×V),H d=some (.dK kvs)/\kvs.length=ents.length/\∀(i:Nat) (e:Int×α2),ents[i]?=some e->∃t,kvs[i]?=some (Sum.inl e.1,V.ref t)/\H t=some (.tup (e.2.map V.int))
theorem Dk_     (hp:H p=some (.dK kvs))(h:H t=some (.tup xs)):upd H p (.dK cY) t=some (.tup xs):=by
 rw[Ai (fun z=>by rw[z,hp]at h;cases h)];exact h
theorem Gb.mono {K:α3}   {ents:List (Int×α2)}(h:Gb K H d ents)(s:Same H H'):Gb K H' d ents:=by
 obtain⟨kvs,h1,h2,h3⟩:=h
 refine⟨kvs,s _ _ h1,h2,fun i e he=>?_⟩
 obtain⟨t,a,b⟩:=h3 i e he
 exact⟨t,a,s _ _ b⟩
theorem Gb.off {K:α3}   {ents:List (Int×α2)}  (h:Gb K H d ents)(hp:H p=some (.lst zs)):Gb K (upd H p (.lst ys)) d ents:=by
 obtain⟨kvs,h1,h2,h3⟩:=h
 refine⟨kvs,by rw[Ai (fun z=>by rw[z,hp]at h1;cases h1)];exact h1,h2,fun i e he=>?_⟩
 obtain⟨t,a,b⟩:=h3 i e he
 exact⟨t,a,TK.lst hp _ _ b⟩
theorem Gb.no {K:α3}   {ents:List (Int×α2)}(h:Gb K H d ents)  (hg:g∉ents.map (·.1)):DGet H d (.int g) none:=by
 obtain⟨kvs,h1,h2,h3⟩:=h
 have e:valV kvs (Sum.inl g:Key)=none:=by
  unfold valV
  rw[Option.map_eq_none_iff,xQ_]
  intro kv ir
  obtain⟨i,hi,e⟩:=jS_ ir
  obtain⟨t,a,_⟩:=h3 i ents[i] (by simp[show i<ents.length by omega])
  have e2:kvs[i]?=some kv:=by rw[jf_ hi,e]
  rw[e2]at a
  cases a
  simp only[qq_]
  intro z
  injection z with z
  exact hg (jv_.mpr ⟨ents[i],j2_ _,z⟩)
 have:=DGet.k (k:=(Sum.inl g:Key)) h1
 rw[e]at this
 exact this
theorem Gb.yes {K:α3}{H:Hp}{d:Addr}{ents:List (Int×α2)}(h:Gb K H d ents)(nod:(ents.map (·.1)).Nodup){g:Int}{w:α2}(hg:(g,w)∈ents):∃t,DGet H d (.int g) (some (.ref t))/\H t=some (.tup (w.map V.int)):=by
 obtain⟨kvs,h1,h2,h3⟩:=h
 obtain⟨i,hi,ei⟩:=jS_ hg
 have ei':ents[i]?=some (g,w):=by rw[jf_ hi,ei]
 obtain⟨t,a,b⟩:=h3 i _ ei'
 refine⟨t,?_,b⟩
 have hf:valV kvs (Sum.inl g:Key)=some (.ref t):=by
  unfold valV
  cases hq:kvs.find? (fun kv=>decide (kv.1=(Sum.inl g:Key))) with
  |none=>
   rw[xQ_]at hq
   have:=hq _ (jd_ a)
   simp at this
  |some kv=>
   have hk:=zN_ hq
   simp only[qq_]at hk
   obtain⟨j,hj,ej⟩:=jS_ (xt_ hq)
   have bK:j<ents.length:=by omega
   obtain⟨t',a',b'⟩:=h3 j ents[j] (by simp[bK])
   have e2:kvs[j]?=some kv:=by rw[jf_ hj,ej]
   rw[e2]at a'
   have a2:kv=(Sum.inl ents[j].1,V.ref t'):=jp_ a'
   rw[a2]at hk
   have cw:ents[j].1=g:=by injection hk
   have ij:i=j:=by
    refine (xN_ (h₀:=by simpa using hi) (h₁:=by simpa using bK) nod).mp ?_
    simp[ei,cw]
   subst ij
   rw[e2]at a
   have a3:kv=(Sum.inl g,V.ref t):=jp_ a
   rw[a3];rfl
 have:=DGet.k (k:=(Sum.inl g:Key)) h1
 rw[hf]at this
 exact this
theorem Gb.put {K:α3}{H:Hp}{d t:Addr}{ents:List (Int×α2)}{g:Int}{w:α2}(h:Gb K H d ents)(hg:g∉ents.map (·.1))(hz:ents.length<1000)(ht:H t=some (.tup (w.map V.int))):∃H',DPut H d (.int g) (.ref t) H'/\(∃kvs cY,H d=some (.dK kvs)/\H'=upd H d (.dK cY))/\Gb K H' d (ents++[(g,w)]):=by
 have cM:=h.no hg
 obtain⟨kvs,h1,h2,h3⟩:=h
 have hl:=AC
 have hv:valV kvs (Sum.inl g:Key)=none:=by
  rcases cM with ⟨cY,k,e,ey,er⟩|⟨cY,k,b,e,ey,_⟩
  ·have e1:cY=kvs:=by
    rcases e with e|⟨o,e⟩
    ·rw[h1]at e;cases e;rfl
    ·rw[h1]at e;cases e
   subst e1
   cases k with
   |inl m=>
    have:m=g:=by injection ey with ey;exact ey.symm
    subst this
    exact er.symm
   |inr m=>cases ey
  ·cases ey
 have hp:putK kvs (Sum.inl g:Key) (V.ref t)=kvs++[(Sum.inl g,V.ref t)]:=by
  unfold putK
  rw[Fe,hv]
  rfl
 refine⟨_,DPut.k (k:=(Sum.inl g:Key)) h1 (by omega),⟨kvs,_,h1,rfl⟩,kvs++[(Sum.inl g,V.ref t)],by rw[Ab,hp],by simp[h2],fun i e he=>?_⟩
 by_cases hi:i<ents.length
 ·rw[jj_ hi]at he
  obtain⟨t',a,b⟩:=h3 i e he
  exact⟨t',by rw[jj_ (by omega)];exact a,Dk_ h1 b⟩
 ·have ah:=(jb_.mp he).1
  rw[jo_,jY_]at ah
  have e1:i=ents.length:=by omega
  subst e1
  rw[ju_ (jg_ _),qC_]at he
  simp at he
  subst he
  exact⟨t,by rw[ju_ (by omega),h2,qC_];rfl,Dk_ h1 ht⟩
def IT (K:α3):Sp:=fun vs H Q _=>∃(h:Addr) (L:Int) (marks:α2) (aa:α1),vs=[.ref h]/\BO K H h L marks aa/\Wf L marks aa/\∀d top H',Same H H'->H d=none->Gb K H' d (Az aa)->Bfs L marks.length aa (Az aa) (Az aa).length top->Q (.ref d) H'
theorem Sh   (F:Fun K "words_in" "words_in" C9 f fd)(T:Txt mg)
  : FnOk P w K mg base CX0 1 f fd ["house"] (IT K):=by
 refine F.ok Cu (fun vs H Q E h=>?_) (fun aq A outer s H vs Q E hr h=>?_)
 ·obtain⟨h,L,marks,aa,rfl,_⟩:=h;rfl
 ·obtain⟨h,L,marks,aa,rfl,hh,wf,k⟩:=h
  have hl:=AC
  have b8:=wf.l1
  have bQ:=wf.n1
  have aN:=wf.n40
  refine⟨_,(@Ad _ _ _ _ _ (@AJ_ _ 1 _ _ _ _ _ _ _ _ Cu.nd rfl (Or.inl rfl) Ac (C7 Ae) rfl (Or.inl rfl))
   (Ad (Aj (i:=2) Cu.nd (Cn (Aa Ac Ae)))
   (Ad (Aj (i:=3) Cu.nd Ac)
   (Ad (GD jI_ (ptT (Av (opD0 KO) (pvD 3) (As (lenD Ak) (by rfl) T.len jH_ (Aa (pvD 2) Ae)) (AS _)))
   (Ad (Aj (i:=4) Cu.nd (Ah (ixLD Bi) (pvD 2) (pvD 3)))
   (Ad (Cb jI_ rfl (X7 rfl T.enumerate (Ah (ixTD Ao) (Ah (ixTD Ao) (pvD 0) Ac) (pvD 4))) (BK_ rfl (Ta (At (i:=5) Cu.nd rfl (Or.inl rfl)) (Ta (At (i:=6) Cu.nd rfl (Or.inl rfl)) As_)))
   (Ag (Cq (Zl (P6 (P3 hr) (pvD 6) (pvD 1)))
   (Ad (RD (P3 hr) (pvD 1) (pvD 6) (An GG (Wa (P3 hr) (pvD 1) (pvD 4) (fun _ _=>rfl)) (C7 (Aa (pvD 5) Ae))) rfl)
   (Ag (BN (Fd jD_ jL_ jM_ Bd (pvD 2) (Aa (pvD 6) Ae)))))
   AU)))
   (Ag (VF (i:=3) Cu.nd rfl (Or.inl rfl) Ac Zm)))))
   (Ag (AO (pvD 1))))))),?_⟩
  walk_at "rd"
  intro p hp
  refine⟨by omega,fun p1 bo=>⟨Same.new bo _ _ Ab,[(Sum.inl 0,V.ref p1)],rfl,by simp,by omega,fun p2 aP=>?_⟩⟩
  have gQ:Jr [] [((Sum.inl 0:Key),V.ref p1)]=[((Sum.inl 0:Key),V.ref p1)]:=rfl
  rw[gQ]at aP ⊢
  have hne1:p1≠p:=(A0 bo).2
  have hne2:p2≠p:=(A0 aP).2
  have s0:Same H (upd (upd (upd (upd H p (.dK [])) p1 (.tup [])) p (.dK [(Sum.inl 0,V.ref p1)])) p2 (.lst [V.int 0])):=(((Same.new hp).newT bo).over hp).newT aP
  have en0:Gb K (upd (upd (upd (upd H p (.dK [])) p1 (.tup [])) p (.dK [(Sum.inl 0,V.ref p1)])) p2 (.lst [V.int 0])) p [(0,[])]:=by
   refine⟨[(Sum.inl 0,V.ref p1)],Same.new aP _ _ Ab,rfl,fun i e he=>?_⟩
   cases i with
   |zero=>
    simp at he
    subst he
    refine⟨p1,rfl,?_⟩
    refine Same.new aP _ _ ?_
    rw[Ai hne1];exact Ab
   |succ i=>simp at he
  have cZ:upd (upd (upd (upd H p (.dK [])) p1 (.tup [])) p (.dK [(Sum.inl 0,V.ref p1)])) p2 (.lst [V.int 0]) p2=some (.lst ((([(0,[])]:List (Int×α2)).map (·.1)).map V.int)):=Ab
  have hp2n:H p2=none:=by
   have h1:=(A0 aP).1
   have h2:=(A0 h1).1
   exact (A0 h2).1
  generalize upd (upd (upd (upd H p (.dK [])) p1 (.tup [])) p (.dK [(Sum.inl 0,V.ref p1)])) p2 (.lst [V.int 0])=H0 at s0 en0 cZ ⊢
  clear bo aP gQ
  obtain⟨Pv,ai⟩:∃Pv:Nat->St->Hp->Prop,∀m af H2,Pv m af H2↔(∃(ents:List (Int×α2)) (i:Nat) (top:Int) (o4 o5 o6:Option V),m=marks.length+1-i/\Same H H2/\Gb K H2 p ents/\H2 p2=some (.lst ((ents.map (·.1)).map V.int))/\Bfs L marks.length aa ents i top/\(∀e,ents[i]?=some e->top<=place L e.2*L+1)/\bfs aa (marks.length+1-i) ents i=Az aa/\af=[some (.ref h),some (.ref p),some (.ref p2),some (.int i),o4,o5,o6]):=⟨_,fun _ _ _=>ql_⟩
  refine Ny Pv ⟨_,(ai _ _ _).mpr ⟨[(0,[])],0,1,none,none,none,rfl,s0,en0,cZ,Bfs.start L bQ aa,fun e he=>?_,by unfold Az;rw[wf.len];rfl,rfl⟩⟩ ?_
  ·simp at he;subst he;simp[place,Be]
  intro m af H2 dD
  obtain⟨ents,i,top,o4,o5,o6,rfl,s2,en2,dZ,bf,iH,cb,rfl⟩:=(ai _ _ _).mp dD
  have hbl:=bf.len
  walk_at "rd"
  refine⟨_,.inl (SqL.of dZ),?_⟩
  rw[ja_,ja_]
  refine ite2 (fun ah=>?_) (fun aV=>?_)
  ·have hi:i<ents.length:=by omega
   obtain⟨e,he⟩:∃e,ents[i]?=some e:=⟨ents[i],by simp[hi]⟩
   obtain⟨r,w⟩:=e
   have aM:=jd_ he
   have bx:=bf.rng _ aM
   have htop':top<=place L w*L+1:=iH _ he
   obtain⟨row,hrow,d0,cO⟩:=wf.row bx.1 bx.2
   have kc:aa.getD r.toNat []=row:=by rw[jh_,hrow];rfl
   obtain⟨mm,wv,q1,q2,q3⟩:=id hh
   obtain⟨xs,t,z1,z2,z3⟩:=q3.atZ bx.1 hrow
   refine⟨Pv (marks.length+1-(i+1)),fun ae H' h=>⟨_,by omega,h⟩,?_⟩
   refine⟨_,SqL.of dZ,_,Bs (v:=r) (by omega) (by rw[ji_,je_,he];rfl),?_⟩
   walk_at "rd"
   refine⟨_,s2.seqT q1,_,rfl,?_⟩
   walk_at "rd"
   refine⟨_,s2.seqT z1,_,z2,?_⟩
   walk_at "rd"
   refine⟨_,s2.seqT z3,?_⟩
   obtain⟨Pn,cx⟩:∃Pn:Nat->St->Hp->Prop,∀x av H3,Pn x av H3↔(∃(ak:List (Int×α2)) (o5 o6:Option V),Same H H3/\Gb K H3 p ak/\H3 p2=some (.lst ((ak.map (·.1)).map V.int))/\Bfs L marks.length aa ak i (place L w*L+(x:Int)+1)/\Seen L aa ak r w x/\ak[i]?=some (r,w)/\Et w ak x (row.drop x)=Et w ents 0 row/\av=[some (.ref h),some (.ref p),some (.ref p2),some (.int i),some (.int r),o5,o6]):=⟨_,fun _ _ _=>ql_⟩
   refine forN Pn ((cx _ _ _).mpr ⟨ents,o5,o6,s2,en2,dZ,bf.up (by push_cast;omega),(fun y h0 h1=>absurd h1 (by push_cast;omega)),he,rfl,rfl⟩) (fun x av H3 _ h3=>?_) (fun x v av H3 t' hx h3 dz=>?_) (fun av H3 h3=>?_)
   ·obtain⟨ak,_,_,s3,_⟩:=(cx _ _ _).mp h3
    exact s3.seqT z3
   ·obtain⟨ak,o5,o6,s3,mZ,cP,c9,gc,fN,cc,rfl⟩:=(cx _ _ _).mp h3
    obtain⟨g,hg,rfl⟩:=Di hx
    have bL:=(jb_.mp hg).1
    have iI:=(wf.rows row d0).2 g (jd_ hg)
    have m5:g=Cr aa r (x:Int):=(CG hrow (by rw[ji_];exact hg)).symm
    have dF:=jd_ fN
    have fi:row.drop x=g::row.drop (x+1):=by
     rw[q5_ bL]
     congr 1
     exact (jb_.mp hg).2
    obtain⟨d6,gd⟩:=c9.letter (by omega) gc dF (by omega) m5 iI
    have gf:=Hm (g:=g) (v:=w++[(x:Int)]) fN
    rw[fi,Hl]at cc
    have sT:=s3.newT dz (o:=.tup [V.int x,V.int g])
    have jz:=mZ.mono (Same.new dz (o:=.tup [V.int x,V.int g]))
    have m6:=Same.new dz (o:=.tup [V.int x,V.int g]) _ _ cP
    walk_at "rd"
    refine⟨_,SqT.of Ab,rfl,?_⟩
    walk_at "rd"
    generalize upd H3 t' (.tup [V.int x,V.int g])=HT' at sT jz m6 ⊢
    by_cases hm:g∈ak.map (·.1)
    ·rw[if_pos hm]at d6 gd gf cc
     obtain⟨e',ez,e1⟩:=jv_.mp hm
     obtain⟨g',w'⟩:=e'
     have e1:g'=g:=e1
     subst e1
     obtain⟨tt,dg,_⟩:=jz.yes c9.nod ez
     refine⟨_,dg,?_⟩
     rw[if_neg (by simp)]
     exact (cx _ _ _).mpr ⟨ak,_,_,sT,jz,m6,d6,gd,gf,cc,rfl⟩
    ·rw[if_neg hm]at d6 gd gf cc
     refine⟨_,jz.no hm,?_⟩
     rw[if_pos (by simp)]
     obtain⟨tw,dw,lj⟩:=jz.yes c9.nod dF
     refine⟨_,dw,by omega,fun q5 ll=>?_⟩
     have cq:w.length<=100:=by
      have h1:w.length<=i:=c9.sh i _ fN
      omega
     refine Hd.ofS (Same.new ll _ _ lj) Ab (by simp;omega) fun q6 H6 s6 hq6=>?_
     have sU:=(sT.newT ll).trans s6
     have enU:=(jz.mono (Same.new ll)).mono s6
     have hrU:=s6 _ _ (Same.new ll _ _ m6)
     have hq6':H6 q6=some (.tup ((w++[(x:Int)]).map V.int)):=by simpa using hq6
     obtain⟨H7,dp,⟨kvs,cY,hd,rfl⟩,enV⟩:=enU.put hm (by have:=c9.len;omega) hq6'
     walk_at "rd"
     refine⟨_,dp,?_⟩
     have m7:upd H6 p (.dK cY) p2=some (.lst ((ak.map (·.1)).map V.int)):=by rw[Ai hne2];exact hrU
     refine⟨.inl ⟨rfl,_,SqL.of m7⟩,_,m7,by have:=c9.len;simp;omega,(cx _ _ _).mpr ⟨ak++[(g,w++[(x:Int)])],_,_,(sU.over hp).over hp2n,enV.off m7,by rw[Ab];simp,d6,gd,gf,cc,rfl⟩⟩
   ·obtain⟨ak,o5,o6,s3,mZ,cP,c9,gc,fN,cc,rfl⟩:=(cx _ _ _).mp h3
    rw[ja_]at c9 gc cc
    rw[List.drop_length,IF]at cc
    walk_at "rd"
    obtain⟨d6,fj⟩:=c9.next (by omega) cO gc fN
    refine (ai _ _ _).mpr ⟨ak,i+1,_,_,_,_,rfl,s3,mZ,cP,d6,fj,?_,by push_cast;rfl⟩
    rw[show marks.length+1-i=(marks.length+1-(i+1))+1 by omega,Oj he]at cb
    rw[cc,<-kc]
    exact cb
  ·have hi:i=ents.length:=by have:=bf.il;omega
   subst hi
   rw[Oi (by simp)]at cb
   rw[<-cb]at k
   exact k p top H2 s2 hp en2 bf
def DL_ (H:Hp)(d:Addr)(ents:List (Int×α2))(n:Nat):Prop:=∃xs:List V,H d=some (.lst xs)/\xs.length=n/\∀r:Nat,r<n->(∃(w:α2) (t:Addr),((r:Int),w)∈ents/\xs[r]?=some (.ref t)/\H t=some (.tup (w.map V.int)))\/((r:Int)∉ents.map (·.1)/\xs[r]?=some .non)
def QG (K:α3):Sp:=fun vs H Q _=>∃(h:Addr) (L:Int) (marks:α2) (aa:α1),vs=[.ref h]/\BO K H h L marks aa/\Wf L marks aa/\∀d top H',Same H H'->H d=none->DL_ H' d (Az aa) marks.length->Bfs L marks.length aa (Az aa) (Az aa).length top->Q (.ref d) H'
theorem UZ   (F:Fun K "ways_in" "ways_in" D6 f fd)(T:Txt mg)
   (DV:FnOk P w K mg base CX0 1 CM Ea ["house"] (IT K)) (Db:Fun K "words_in" "words_in" C9 CM Ea) (DW:Binds K Ea ["house"] []) (DX:mg "words_in"=some (.ref CM))
  : FnOk P w K mg base CX0 2 f fd ["house"] (QG K):=by
 refine F.ok NP (fun vs H Q E h=>?_) (fun aq A outer s H vs Q E hr h=>?_)
 ·obtain⟨h,L,marks,aa,rfl,_⟩:=h;rfl
 ·obtain⟨h,L,marks,aa,rfl,hh,wf,k⟩:=h
  have hl:=AC
  have aN:=wf.n40
  refine⟨_,(Ad (B7 (i:=1) NP.nd rfl (Or.inr rfl) (Al DV (hr.mono (by decide)) rfl DX Db.kp DW .nil AZ (Aa (pvD 0) Ae)))
   (Ag (AO (BX rfl (BY rfl) (cp:=Lf) (te:=We (UI 1) (UI 0)) ⟨⟨rfl,rfl⟩,True.intro⟩ (Bc rfl T.range (Aa (As (lenD Ak) (by rfl) T.len jH_ (Aa (Ah (ixTD Ao) (pvD 0) Ac) Ae)) Ae)) (fun _ _ _ _=>(At (i:=0) M8 rfl (Or.inl rfl))) (fun _ _ _ _=>B8) (fun _ _ _ _=>(by exact (X0 (P3 hr) (pvD 1) (pvD 0) ⟨rfl,rfl,rfl,rfl⟩))))))),?_⟩
  walk_at "rd"
  refine⟨h,L,marks,aa,rfl,hh,wf,fun d top H1 s1 hd en bf=>?_⟩
  obtain⟨mm,wv,q1,q2,q3⟩:=hh.mono s1
  walk_at "rd"
  refine⟨_,q1,_,rfl,?_⟩
  walk_at "rd"
  refine⟨_,.inr q2,?_⟩
  rw[ja_]
  refine⟨by omega,by omega,?_⟩
  rw[ji_]
  obtain⟨Pc,cy⟩:∃Pc:Nat->List V->St->Hp->Prop,∀j ys bg H4,Pc j ys bg H4↔(H4=H1/\ys.length=j/\(∀r:Nat,r<j->(∃(w:α2) (t:Addr),((r:Int),w)∈Az aa/\ys[r]?=some (.ref t)/\H1 t=some (.tup (w.map V.int)))\/((r:Int)∉(Az aa).map (·.1)/\ys[r]?=some .non))/\∃o,bg=[o,some (.ref d)]):=⟨_,fun _ _ _ _=>ql_⟩
  refine Qa Pc ((cy _ _ _ _).mpr ⟨rfl,rfl,(fun r hr=>absurd hr (xj_ _)),none,rfl⟩) (by omega) (fun j ys bg H4 _ h4=>?_) (fun j ys bg H4 hj h4=>?_) (fun ys bg H4 h4 D hD=>?_)
  ·obtain⟨_,hlen,_⟩:=(cy _ _ _ _).mp h4
   omega
  ·obtain⟨rfl,hlen,ar,o,rfl⟩:=(cy _ _ _ _).mp h4
   obtain⟨kvs,jt,_⟩:=id en
   have ext:∀v:V,((∃(w:α2) (t:Addr),((j:Int),w)∈Az aa/\v=.ref t/\H4 t=some (.tup (w.map V.int)))\/((j:Int)∉(Az aa).map (·.1)/\v=.non))->∀o,Pc (j+1) (ys++[v]) [o,some (.ref d)] H4:=fun v hv o=>by
    refine (cy _ _ _ _).mpr ⟨rfl,by simp[hlen],fun r hr=>?_,o,rfl⟩
    by_cases kq:r<j
    ·rw[jj_ (by omega)]
     exact ar r kq
    ·have e:r=j:=by omega
     subst e
     rw[ju_ (by omega),hlen,qC_]
     rcases hv with ⟨w,t,a,b,c⟩|⟨a,b⟩
     ·exact .inl ⟨w,t,a,by rw[b];rfl,c⟩
     ·exact .inr ⟨a,by rw[b];rfl⟩
   walk_at "rd"
   refine⟨.inl ⟨kvs,.inl jt⟩,?_⟩
   have ej:(0:Int)+(j:Nat)=(j:Int):=by omega
   rw[ej]
   by_cases hm:(j:Int)∈(Az aa).map (·.1)
   ·obtain⟨e',ez,e1⟩:=jv_.mp hm
    obtain⟨g',w'⟩:=e'
    have e1:g'=(j:Int):=e1
    subst e1
    obtain⟨tt,dg,hw⟩:=en.yes bf.nod ez
    exact⟨_,dg,ext _ (.inl ⟨w',tt,ez,rfl,hw⟩) _⟩
   ·exact⟨_,en.no hm,ext _ (.inr ⟨hm,rfl⟩) _⟩
  ·obtain⟨rfl,hlen,ar,o,rfl⟩:=(cy _ _ _ _).mp h4
   refine k D top _ (s1.newT hD) (s1.free hD) ⟨ys,Ab,hlen,fun r hr=>?_⟩ bf
   rcases ar r hr with ⟨w,t,a,b,c⟩|h
   ·exact .inl ⟨w,t,a,b,Same.new hD _ _ c⟩
   ·exact .inr h
structure RF (L n:Nat)(aa:α1)(R:α2):Prop where
 hd:R[0]?=some 0
 nod:R.Nodup
 rng:∀r∈R,0<=r/\r<(n:Int)
 len:R.length<=n
 cls:∀r∈R,∀x:Nat,x<L->Cr aa r (x:Int)∈R
theorem RF.of {L n:Nat}{aa:α1}{top:Int}(bf:Bfs L n aa (Az aa) (Az aa).length top):RF L n aa ((Az aa).map (·.1)):=by
 refine⟨by rw[je_,bf.hd];rfl,bf.nod,fun r hr=>?_,by rw[ja_];exact bf.len,fun r hr x hx=>?_⟩
 ·obtain⟨e,he,rfl⟩:=jv_.mp hr
  exact bf.rng e he
 ·obtain⟨e,he,rfl⟩:=jv_.mp hr
  obtain⟨j,hj⟩:=jK_.mp he
  obtain⟨e',h1,h2,_⟩:=bf.don j (jb_.mp hj).1 e hj (x:Int) (by omega) (by omega)
  rw[<-h2]
  exact q4_ h1
def IU (K:α3):Sp:=fun vs H Q _=>∃(h:Addr) (L:Nat) (marks:α2) (aa:α1),vs=[.ref h]/\BO K H h L marks aa/\Wf L marks aa/\∀p H',Same H H'->H p=none->H' p=some (.lst (((Az aa).map (·.1)).map V.int))->RF L marks.length aa ((Az aa).map (·.1))->Q (.ref p) H'
theorem U0   (F:Fun K "reached" "reached" DE f fd)(T:Txt mg)
   (DV:FnOk P w K mg base CX0 1 CM Ea ["house"] (IT K)) (Db:Fun K "words_in" "words_in" C9 CM Ea) (DW:Binds K Ea ["house"] []) (DX:mg "words_in"=some (.ref CM))
  : FnOk P w K mg base CX0 2 f fd ["house"] (IU K):=by
 refine F.ok UW (fun vs H Q E h=>?_) (fun aq A outer s H vs Q E hr h=>?_)
 ·obtain⟨h,L,marks,aa,rfl,_⟩:=h;rfl
 ·obtain⟨h,L,marks,aa,rfl,hh,wf,k⟩:=h
  refine⟨_,(Ag (AO (AM (M0 rfl) rfl T.list xl_ (Aa (Al DV (hr.mono (by decide)) rfl DX Db.kp DW .nil AZ (Aa (pvD 0) Ae)) Ae)))),?_⟩
  walk_at "rd"
  refine⟨h,L,marks,aa,rfl,hh,wf,fun d top H1 s1 hd en bf=>?_⟩
  obtain⟨kvs,h1,h2,h3⟩:=en
  refine⟨d,rfl,kvs,h1,fun l hl=>k l _ (s1.newT hl) (s1.free hl) ?_ (RF.of bf)⟩
  rw[Ab]
  congr 2
  refine qL_ fun i=>?_
  rw[je_,je_,je_]
  cases he:(Az aa)[i]? with
  |none=>
   have:kvs[i]?=none:=by rw[xr_]at he ⊢;omega
   rw[this];rfl
  |some e=>
   obtain⟨t,a,_⟩:=h3 i e he
   rw[a];rfl
def numD {α κ:Type}[DecidableEq α](k:α->κ)(ks:List α):List (κ×V):=ks.map fun x=>(k x,V.int ((ks.idxOf x:Nat):Int))
theorem Fq {α κ:Type}[DecidableEq α]{k:α->κ}{ks:List α}:(numD k ks).length=ks.length:=by unfold numD;rw[ja_]
theorem E3 {α κ:Type}[DecidableEq α][DecidableEq κ]{k:α->κ}(hk:∀x y,k x=k y->x=y){ks:List α}(nd:ks.Nodup){x:α}(hx:x∈ks):valV (numD k ks) (k x)=some (V.int ((ks.idxOf x:Nat):Int)):=by
 have hi:=qH_ hx
 refine AN_ (i:=ks.idxOf x) ?_ ?_
 ·unfold numD
  rw[jX_]
  exact List.Pairwise.map _ (fun a b cu z=>cu (hk a b z)) nd
 ·unfold numD
  rw[je_,jf_ hi,qZ_];rfl
theorem Il {α κ:Type}[DecidableEq α][DecidableEq κ]{k:α->κ}(hk:∀x y,k x=k y->x=y){ks:List α}{x:α}(hx:x∉ks):valV (numD k ks) (k x)=none:=by
 have h1:=Fe (k x) (numD k ks)
 have h2:((numD k ks).any fun kv=>decide (kv.1=k x))=false:=by
  rw[List.any_eq_false]
  intro p hp
  unfold numD at hp
  obtain⟨y,hy,rfl⟩:=jv_.mp hp
  simp only[qq_]
  intro z
  exact hx (hk _ _ z ▸ hy)
 rw[h2]at h1
 cases q:valV (numD k ks) (k x) with
 |none=>rfl
 |some v=>rw[q]at h1;cases h1
theorem OI {α κ:Type}[DecidableEq α][DecidableEq κ]{k:α->κ}(hk:∀x y,k x=k y->x=y){ks:List α}{x:α}(hx:x∉ks):putK (numD k ks) (k x) (V.int ((ks.length:Nat):Int))=numD k (ks++[x]):=by
 rw[XW _ (Il hk hx)]
 unfold numD
 rw[jT_,List.map_singleton,RT hx]
 congr 1
 exact qk_ fun y hy=>by rw[Yj hy]
theorem Fr {α:Type}[DecidableEq α]{row:List α}{i:Nat}{x:α}(h:row[i]?=some x):AJ (row.take (i+1))=ins1 (AJ (row.take i)) x:=by
 rw[jV_,h];exact RQ _ _
theorem OJ  [DecidableEq α](row:List α)(i:Nat):(AJ (row.take i)).length<=row.length:=by
 have h1:=NC (row.take i)
 unfold ncl at h1
 rw[jB_]at h1
 omega
def Ad_ (K:α3):Sp:=fun vs H Q _=>∃(a:Addr),vs=[.ref a]/\((∃ns:α2,SqT K H a (ns.map V.int)/\ns.length<=100/\∀l H',Same H H'->H l=none->H' l=some (.lst ((num ns).map V.int))->Q (.ref l) H')\/(∃(xs:List V) (ws:α1),SqL K H a xs/\AV K H xs ws/\ws.length<=100/\∀l H',Same H H'->H l=none->H' l=some (.lst ((num ws).map V.int))->Q (.ref l) H'))
theorem Si   (F:Fun K "numbered" "numbered" Dv f fd)(T:Txt mg)
  : FnOk P w K mg base CX0 1 f fd ["row"] (Ad_ K):=by
 refine F.ok Hq (fun vs H Q E h=>?_) (fun aq A outer s H vs Q E hr h=>?_)
 ·obtain⟨a,rfl,_⟩:=h;rfl
 ·obtain⟨a,rfl,cu⟩:=h
  have hl:=AC
  refine⟨_,(Ad (B7 (i:=1) Hq.nd rfl (Or.inr rfl) Yi)
   (Ad (Cb jI_ rfl (ZI (pvD 0)) (At (i:=2) Hq.nd rfl (Or.inl rfl))
   (Ag (Cq (Zl (P6 (P3 hr) (pvD 2) (pvD 1)))
   (Ag (RD (P3 hr) (pvD 1) (pvD 2) (As Qo (by rfl) T.len jH_ (Aa (pvD 1) Ae)) rfl))
   AU)))
   (Ag (AO (BX rfl (BY rfl) (cp:=Jw) ⟨⟨rfl,rfl⟩,True.intro⟩ (ZI (pvD 0)) (fun _ _ _ _=>(At (i:=0) Lg rfl (Or.inl rfl))) (fun _ _ _ _=>B8) (fun _ _ _ _=>(Wa (P3 hr) (pvD 1) (pvD 0) (fun _ _=>rfl)))))))),?_⟩
  rcases cu with ⟨ns,ha,hz,k⟩|⟨xs,ws,ha,hW,hz,k⟩
  ·walk_at "rd"
   refine .inl fun d hd=>?_
   have sd:=Same.new hd (o:=.dK [])
   have bP:∀x y:Int,(Sum.inl x:Key)=Sum.inl y->x=y:=fun x y z=>Sum.inl.inj z
   obtain⟨Pv,ai⟩:∃Pv:Nat->St->Hp->Prop,∀i ae H',Pv i ae H'↔(∃o:Option V,Same H H'/\H' d=some (.dK (numD (fun x:Int=>(Sum.inl x:Key)) (AJ (ns.take i))))/\ae=[some (.ref a),some (.ref d),o]):=⟨_,fun _ _ _=>ql_⟩
   refine .inr ⟨⟨_,sd.seqT ha⟩,forT (xs:=ns.map V.int) Pv ((ai _ _ _).mpr ⟨none,sd,Ab,rfl⟩) (fun i ae H' _ h'=>by obtain⟨_,s',_⟩:=(ai _ _ _).mp h';exact s'.seqT ha) (fun i x ae H' hx h'=>?_) (fun ae H' h'=>?_)⟩
   ·obtain⟨o,s',cz,rfl⟩:=(ai _ _ _).mp h'
    obtain⟨n,hn,rfl⟩:=Di hx
    have jA:=OJ ns i
    have nd:=BB (ns.take i)
    have et:=Fr hn
    walk_at "rd"
    refine⟨_,DGet.k (k:=Sum.inl n) cz,?_⟩
    by_cases hm:n∈AJ (ns.take i)
    ·rw[E3 bP nd hm]
     simp only[x9_,z2_,jQ_,qK_]
     exact (ai _ _ _).mpr ⟨_,s',by rw[et,ins1,if_pos hm];exact cz,rfl⟩
    ·rw[Il bP hm]
     simp only[Option.isSome_none,zS_,xK_]
     have iJ:=OI (k:=fun x:Int=>(Sum.inl x:Key)) bP hm
     refine .inl ⟨_,cz,_,DPut.k (k:=Sum.inl n) cz (by rw[Fq];omega),(ai _ _ _).mpr ⟨_,s'.over hd,?_,rfl⟩⟩
     rw[Ab,et,ins1,if_neg hm,Fq]
     exact jG_ (fun z=>some (HO.dK z)) iJ
   ·obtain⟨o,s',cz,rfl⟩:=(ai _ _ _).mp h'
    rw[ja_,jU_]at cz
    walk_at "rd"
    obtain⟨f,hf⟩:∃f:V->V,∀n:Int,f (V.int n)=.int (((AJ ns).idxOf n:Nat):Int):=⟨fun x=>match x with | .int n=>.int (((AJ ns).idxOf n:Nat):Int)|_=>.non,fun _=>rfl⟩
    refine .inr ⟨⟨_,s'.seqT ha⟩,GF (ae:=[some (.ref d)]) f rfl (s'.seqT ha) (by rw[ja_];omega) (fun x hx R hR=>?_) (fun D hD=>?_)⟩
    ·obtain⟨n,hn,rfl⟩:=Er hx
     rw[hf]at hR
     have e:=E3 (k:=fun x:Int=>(Sum.inl x:Key)) bP (BB ns) (A4.mpr hn)
     have hg:=DGet.k (k:=Sum.inl n) cz
     rw[e]at hg
     walk_at "rd"
     exact⟨_,hg,hR⟩
    ·have em:(ns.map V.int).map f=(num ns).map V.int:=by
      unfold num
      rw[jX_,jX_]
      exact qk_ fun n _=>hf n
     exact k D _ (s'.newT hD) (s'.none hD) (by rw[Ab,em])
  ·walk_at "rd"
   refine .inr fun d hd=>?_
   have sd:=Same.new hd (o:=.dT [])
   obtain⟨Pv,ai⟩:∃Pv:Nat->St->Hp->Prop,∀i ae H',Pv i ae H'↔(∃o:Option V,Same H H'/\H' d=some (.dT (numD wkey (AJ (ws.take i))))/\ae=[some (.ref a),some (.ref d),o]):=⟨_,fun _ _ _=>ql_⟩
   refine .inl ⟨⟨_,sd.seq ha⟩,forL (xs:=xs) Pv ((ai _ _ _).mpr ⟨none,sd,Ab,rfl⟩) (fun i ae H' _ h'=>by obtain⟨_,s',_⟩:=(ai _ _ _).mp h';exact s'.seq ha) (fun i x ae H' hx h'=>?_) (fun ae H' h'=>?_)⟩
   ·obtain⟨o,s',cz,rfl⟩:=(ai _ _ _).mp h'
    obtain⟨t,v,eg,rfl,ht⟩:=hW.at hx
    have jA:=OJ ws i
    have nd:=BB (ws.take i)
    have et:=Fr eg
    have dz:H' t=some (.tup ((wkey v).map kV)):=by rw[Oo];exact s' _ _ ht
    walk_at "rd"
    refine⟨_,DGet.t cz dz,?_⟩
    by_cases hm:v∈AJ (ws.take i)
    ·rw[E3 (fun x y z=>HS z) nd hm]
     simp only[x9_,z2_,jQ_,qK_]
     exact (ai _ _ _).mpr ⟨_,s',by rw[et,ins1,if_pos hm];exact cz,rfl⟩
    ·rw[Il (fun x y z=>HS z) hm]
     simp only[Option.isSome_none,zS_,xK_]
     refine .inr ⟨_,cz,_,DPut.t (k:=wkey v) cz dz (by rw[Fq];omega),(ai _ _ _).mpr ⟨_,s'.over hd,?_,rfl⟩⟩
     rw[Ab,et,ins1,if_neg hm,Fq,OI (fun x y z=>HS z) hm]
   ·obtain⟨o,s',cz,rfl⟩:=(ai _ _ _).mp h'
    rw[hW.1,jU_]at cz
    walk_at "rd"
    refine .inl ⟨⟨_,s'.seq ha⟩,P9 (xs:=xs) (fun i zs af H2=>H2=H'/\zs=((num ws).take i).map V.int/\∃o,af=[o,some (.ref d)]) ⟨rfl,rfl,none,rfl⟩ (by rw[hW.1];omega) (fun i zs af H2 hi h2=>⟨by rw[h2.1];exact s'.seq ha,by rw[h2.2.1,ja_,jB_];omega⟩) (fun i x zs af H2 hx h2=>?_) (fun zs af H2 h2 D hD=>?_)⟩
    ·obtain⟨rfl,rfl,o2,rfl⟩:=h2
     obtain⟨t,v,eg,rfl,ht⟩:=hW.at hx
     have dz:H2 t=some (.tup ((wkey v).map kV)):=by rw[Oo];exact s' _ _ ht
     have e:=E3 (fun x y z=>HS z) (BB ws) (A4.mpr (jd_ eg))
     have hg:=DGet.t cz dz
     rw[e]at hg
     walk_at "rd"
     refine⟨_,hg,?_⟩
     first
      | (refine⟨rfl,?_,_,rfl⟩;rw[jV_,TF eg,jT_];rfl)
      | (refine⟨?_,_,rfl⟩;rw[jV_,TF eg,jT_];rfl)
    ·obtain⟨rfl,rfl,o2,rfl⟩:=h2
     rw[hW.1,jO_ (by rw[IH];exact jg_ _)]
     exact k D _ (s'.newT hD) (s'.none hD) Ab
def BehL (H:Hp)(mm pw pb:Addr)(marks:α2)(n:Nat)(b:α2->Nat->Int)(bs:List V)(words:α1):Prop:=bs.length=words.length/\∀(i:Nat) (w:α2),words[i]?=some w->∃t,bs[i]?=some (.ref t)/\((H t=some (.lst ((rowB n b w).map V.int))/\t≠pw/\t≠pb)\/(t=mm/\rowB n b w=marks))
theorem BehL.keep        (h:BehL H mm pw pb marks n b bs words)(s:∀t o,t≠pw->t≠pb->H t=some o->H' t=some o):BehL H' mm pw pb marks n b bs words:=⟨h.1,fun i w hi=>by
 obtain⟨t,e1,e2⟩:=h.2 i w hi
 exact⟨t,e1,e2.imp (fun e=>⟨s _ _ e.2.1 e.2.2 e.1,e.2⟩) id⟩⟩
theorem BehL.snoc {H:Hp}{mm pw pb:Addr}{marks:α2}{n:Nat}{b:α2->Nat->Int}{bs:List V}{words:α1}{t:Addr}{w:α2}(h:BehL H mm pw pb marks n b bs words)(ht:H t=some (.lst ((rowB n b w).map V.int)))(h1:t≠pw)(h2:t≠pb):BehL H mm pw pb marks n b (bs++[.ref t]) (words++[w]):=by
 refine⟨by simp[h.1],fun i r hi=>?_⟩
 by_cases hl:i<words.length
 ·rw[jj_ hl]at hi
  rw[jj_ (by rw[h.1];exact hl)]
  exact h.2 i r hi
 ·have:=(jb_.mp hi).1
  rw[jo_,jY_]at this
  have e:i=words.length:=by omega
  subst e
  rw[ju_ (jg_ _),qC_]at hi
  simp at hi
  subst hi
  exact⟨t,by rw[<-h.1];simp,.inl ⟨ht,h1,h2⟩⟩
theorem WC.short      (h:WC L n b words c):∀(k:Nat) (w:α2),words[k]?=some w->w.length<=k:=by
 intro k
 induction k using Nat.strongRecOn with
 |_ k ih=>
  intro w hw
  cases k with
  |zero=>
   rw[h.w0]at hw
   cases hw
   exact jZ_ _
  |succ k=>
   obtain⟨j,hj⟩:=jK_.mp (h.tl (k+1) w hw (Nat.succ_pos _))
   rw[List.getElem?_take]at hj
   split at hj
   ·rename_i ah
    have:=ih j ah _ hj
    rw[List.length_tail]at this
    omega
   ·cases hj
def zipW (c m:α2):α1:=(c.zip m).map fun p=>[p.1,p.2]
theorem YF (c m:α2):num (zipW c m)=num (c.zip m):=Ba_ _ fun p _ q _ e=>by
 have h1:=List.cons.inj e
 exact Prod.ext h1.1 (List.cons.inj h1.2).1
def Br_ (K:α3):Sp:=fun vs H Q _=>∃(h:Addr) (L:Nat) (marks:α2) (aa:α1),vs=[.ref h]/\BO K H h L marks aa/\Wf L marks aa/\∀t pw pc xs H',Same H H'->H' t=some (.tup [.ref pw,.ref pc])->H pw=none->H' pw=some (.lst xs)->AV K H' xs (wcOf marks.length L (bW marks aa)).1->H' pc=some (.lst ((wcOf marks.length L (bW marks aa)).2.map V.int))->Fin17 marks.length L (bW marks aa) (wcOf marks.length L (bW marks aa))->Q (.ref t) H'
theorem GZ   (F:Fun K "words_and_classes" "words_and_classes" AW f fd)(T:Txt mg)
   (GL:FnOk P w K mg base CX0 1 DY Ll ["row"] (Ad_ K)) (DZ:Fun K "numbered" "numbered" Dv DY Ll) (GM:Binds K Ll ["row"] []) (GN:mg "numbered"=some (.ref DY))
  : FnOk P w K mg base CX0 2 f fd ["house"] (Br_ K):=by
 refine F.ok AB (fun vs H Q E h=>?_) (fun aq A outer s H vs Q E hr h=>?_)
 ·obtain⟨h,L,marks,aa,rfl,_⟩:=h;rfl
 ·obtain⟨h,L,marks,aa,rfl,hh,wf,k⟩:=h
  have hl:=AC
  have b8:=wf.l1
  have b9:=wf.l6
  have bQ:=wf.n1
  have aN:=wf.n40
  refine⟨_,(Ad (Aj (i:=1) AB.nd (Cn (Aa (C7 Ae) Ae)))
   (Ad (B7 (i:=2) AB.nd rfl (Or.inr rfl) (Cn (Aa (Ah (ixTD Ao) (pvD 0) Ac) Ae)))
   (Ad (Aj (i:=3) AB.nd (Al GL (hr.mono (by decide)) rfl GN DZ.kp GM .nil AZ (Aa (Ah (ixTD Ao) (pvD 0) Ac) Ae)))
   (Ad (B7 (i:=4) AB.nd rfl (Or.inr rfl) Ac)
   (Ad (GD jI_ (ptT (Av (opD0 KO) (pvD 4) (As (lenD Ak) (by rfl) T.len jH_ (Aa (pvD 1) Ae)) (AS _)))
   (Ad (Cb jI_ rfl (Bc rfl T.range (Aa (Ah (ixTD Ao) (pvD 0) Ac) Ae)) (At (i:=5) AB.nd rfl (Or.inr rfl))
   (Ad (Hk (i:=6) AB.nd rfl rfl rfl (BY rfl) (cp:=DF) ⟨⟨rfl,rfl⟩,⟨⟨rfl,rfl⟩,⟨⟨rfl,rfl⟩,True.intro⟩⟩⟩ (FU (Ah (ixTD Ao) (pvD 0) Ac)) (fun _ _ _ _=>(At (i:=0) EW rfl (Or.inl rfl))) (fun _ _ _ _=>B8) (fun _ _ _ _=>(BZ_ (AX_ (K:=K) rfl) (Ah (ixLD (Co (K:=K) rfl)) (pvD 1) (pvD 2)) (Ah (ixTD (Dj (K:=K) rfl)) (pvD 0) (pvD 3)) (fun _ _=>rfl))))
   (Ad (Aj (i:=7) AB.nd (Al GL (hr.mono (by decide)) rfl GN DZ.kp GM .nil AZ (Aa (UC rfl rfl T.list rfl T.zip (Aa (pvD 3) (Aa (pvD 6) Ae))) Ae)))
   (Ag (Cq (ptT (Av (opD0 Av_) (As (Qn rfl) rfl T.max zs_ (Aa (pvD 7) Ae)) (As (Qn rfl) rfl T.max zs_ (Aa (pvD 3) Ae)) (AS _)))
   (Ad (BN (Fd jD_ jL_ jM_ Bd (pvD 1) (Aa (An GG (C7 (Aa (pvD 5) Ae)) (Ah (ixLD Bi) (pvD 1) (pvD 4))) Ae)))
   (Ad (BN (Fd jD_ jL_ jM_ Bd (pvD 2) (Aa (pvD 6) Ae)))
   (Ag (Aj (i:=3) AB.nd (pvD 7)))))
   AU)))))
   (Ag (VF (i:=4) AB.nd rfl (Or.inr rfl) Ac Zm))))
   (Ag (AO (C7 (Aa (pvD 1) (Aa (pvD 3) Ae)))))))))),?_⟩
  obtain⟨mm,wv,q1,q2,ts,q3,q4,q5⟩:=id hh
  walk_at "rd"
  refine⟨jZ_ _,fun t0 gg=>⟨by omega,fun pw aU=>?_⟩⟩
  have s1:=(Same.new gg (o:=.tup [])).newT aU (o:=.lst [V.ref t0])
  have hpwH:H pw=none:=(Same.new gg (o:=.tup [])).none aU
  have b7:upd (upd H t0 (.tup [])) pw (.lst [V.ref t0]) pw=some (.lst [V.ref t0]):=Ab
  have hW1:AV K (upd (upd H t0 (.tup [])) pw (.lst [V.ref t0])) [V.ref t0] [[]]:=⟨rfl,fun i w hi=>by
   match i,hi with
   |0,hi=>cases hi;exact⟨t0,rfl,Same.new aU _ _ Ab⟩⟩
  generalize upd (upd H t0 (.tup [])) pw (.lst [V.ref t0])=H1 at s1 b7 hW1 ⊢
  refine⟨_,s1.seqT q1,_,rfl,by omega,fun pb jB=>?_⟩
  have hpbH:H pb=none:=s1.none jB
  have hpbw:pb≠pw:=fun z=>by rw[z,b7]at jB;cases jB
  have s2:=s1.newT jB (o:=.lst [V.ref mm])
  have dX:upd H1 pb (.lst [V.ref mm]) pb=some (.lst [V.ref mm]):=Ab
  have da:=Same.new jB (o:=.lst [V.ref mm]) _ _ b7
  have iK:=hW1.mono (TK.new jB (o:=.lst [V.ref mm]))
  generalize upd H1 pb (.lst [V.ref mm])=H2 at s2 dX da iK ⊢
  refine⟨_,s2.seqT q1,_,rfl,mm,rfl,.inl ⟨marks,s2.seqT q2,by omega,fun pc H3 s3 gh hpc3=>?_⟩⟩
  have iL:=s2.trans s3
  obtain⟨Pv,ai⟩:∃Pv:Nat->St->Hp->Prop,∀m ae H',Pv m ae H'↔(∃(st:StC) (k:Nat) (xs bs:List V) (pc:Addr) (o5 o6 o7:Option V),m=41-k/\Same H H'/\H' pw=some (.lst xs)/\AV K H' xs st.1/\H' pb=some (.lst bs)/\BehL H' mm pw pb marks marks.length (bW marks aa) bs st.1/\H' pc=some (.lst (st.2.map V.int))/\pc≠pw/\pc≠pb/\WS marks.length L (bW marks aa) k 0 st/\HX marks.length (bW marks aa) L (41-k) k st=wcOf marks.length L (bW marks aa)/\ae=[some (.ref h),some (.ref pw),some (.ref pb),some (.ref pc),some (.int k),o5,o6,o7]):=⟨_,fun _ _ _=>ql_⟩
  have hpcw:pc≠pw:=fun z=>by rw[z,da]at gh;cases gh
  have hpcb:pc≠pb:=fun z=>by rw[z,dX]at gh;cases gh
  refine Ny Pv ⟨_,(ai _ _ _).mpr ⟨([[]],num (rowB marks.length (bW marks aa) [])),0,[V.ref t0],[V.ref mm],pc,none,none,none,rfl,iL,s3 _ _ da,iK.mono (TK.of s3),s3 _ _ dX,⟨rfl,fun i w hi=>?_⟩,by rw[ZS];exact hpc3,hpcw,hpcb,WS.start bQ,rfl,rfl⟩⟩ ?_
  ·match i,hi with
   |0,hi=>cases hi;exact⟨mm,rfl,.inr ⟨rfl,ZS⟩⟩
  intro m bg H4 h4
  obtain⟨st,k0,xs,bs,pc4,o5,o6,o7,rfl,s4,cg,fO,hb4,hB4,m8,hcw4,hcb4,m9,ho4,rfl⟩:=(ai _ _ _).mp h4
  have fS:=m9.few
  walk_at "rd"
  refine⟨_,.inl (SqL.of cg),?_⟩
  rw[fO.1]
  refine ite2 (fun ah=>?_) (fun aV=>?_)
  ·have hk:k0<st.1.length:=by omega
   obtain⟨w,dE⟩:∃w,st.1[k0]?=some w:=⟨st.1[k0],by simp[hk]⟩
   refine⟨Pv (41-(k0+1)),fun ae H' h=>⟨_,by omega,h⟩,?_⟩
   walk_at "rd"
   refine⟨_,s4.seqT q1,_,rfl,L,rfl,by omega,by omega,?_⟩
   rw[ji_]
   obtain⟨Pz,kr⟩:∃Pv:Nat->St->Hp->Prop,∀i ae H',Pv i ae H'↔(∃(ab:StC) (xs bs:List V) (pc:Addr) (o5 o6 o7:Option V),ab=HW marks.length (bW marks aa) w i st/\Same H H'/\H' pw=some (.lst xs)/\AV K H' xs ab.1/\H' pb=some (.lst bs)/\BehL H' mm pw pb marks marks.length (bW marks aa) bs ab.1/\H' pc=some (.lst (ab.2.map V.int))/\pc≠pw/\pc≠pb/\WS marks.length L (bW marks aa) k0 i ab/\ab.1[k0]?=some w/\ae=[some (.ref h),some (.ref pw),some (.ref pb),some (.ref pc),some (.int k0),o5,o6,o7]):=⟨_,fun _ _ _=>ql_⟩
   refine forR Pz ((kr _ _ _).mpr ⟨st,xs,bs,pc4,o5,o6,o7,rfl,s4,cg,fO,hb4,hB4,m8,hcw4,hcb4,m9,dE,rfl⟩) (fun i gi H5 hi h5=>?_) (fun gi H5 h5=>?_)
   ·obtain⟨aS,ku,kz,nc,p5,p6,p7,iM,s5,eB,jC,jD,jE,lq,iN,iO,eC,d7,rfl⟩:=(kr _ _ _).mp h5
    rw[zR_]
    have hfew5:=eC.few
    have hisw:=eC.wc.ok w (jd_ d7)
    obtain⟨tb,ju,htbv⟩:=jE.2 k0 w d7
    walk_at "rd"
    refine⟨_,s5.seqT q1,_,rfl,wv,rfl,⟨_,s5.seqT q3⟩,X4 (xs:=ts.map V.ref) (fun j zs ae H'=>H'=H5/\zs=((rowB marks.length (bW marks aa) ((i:Int)::w)).take j).map V.int/\∃o,ae=[o,some (.ref pb),some (.int k0),some (.int i)]) ⟨rfl,rfl,none,rfl⟩ (by rw[ja_,q4,wf.len];omega) (fun j zs ae H' hj h'=>⟨by rw[h'.1];exact s5.seqT q3,by rw[h'.2.1,ja_,jB_];omega⟩) (fun j x zs ae H' hx h'=>?_) (fun zs ae H' h' D hD=>?_)⟩
    ·obtain⟨rfl,rfl,o,rfl⟩:=h'
     rw[je_]at hx
     cases lr:ts[j]? with
     |none=>rw[lr]at hx;cases hx
     |some tj=>
      rw[lr]at hx
      cases hx
      have hj:j<marks.length:=by rw[<-wf.len,<-q4];exact (jb_.mp lr).1
      obtain⟨row,g,r1,r2,r3,r4,r5⟩:=wf.step (show (0:Int)<=(j:Nat) by omega) (by omega) (show (0:Int)<=(i:Nat) by omega) (by omega)
      rw[ji_]at r1 r2
      have hrow:=q5 j tj row lr r1
      have gj:(rowB marks.length (bW marks aa) w)[g.toNat]?=some (bW marks aa ((i:Int)::w) j):=by
       rw[Ds (by omega),RU w (i:Int) j (by rw[r3];exact r4),r3]
      have kq:(rowB marks.length (bW marks aa) ((i:Int)::w))[j]?=some (bW marks aa ((i:Int)::w) j):=Ds hj
      walk_at "rd"
      refine⟨_,SqL.of jD,_,FV ju,_,s5.seqT hrow,_,Bs (by omega) (by rw[ji_];exact r2),?_⟩
      have aO:((rowB marks.length (bW marks aa) ((i:Int)::w)).take j).map V.int++[V.int (bW marks aa ((i:Int)::w) j)]=((rowB marks.length (bW marks aa) ((i:Int)::w)).take (j+1)).map V.int:=by rw[jV_,kq,jT_];rfl
      rcases htbv with ⟨br,_,_⟩|⟨gk,gS⟩
      ·exact .inl ⟨tb,rfl,_,g,rfl,SqL.of br,_,Bs r4 gj,aO,_,rfl⟩
      ·exact .inr ⟨tb,rfl,_,g,rfl,by rw[gk];exact s5.seqT q2,_,Bs r4 (by have hv:=gj;rw[gS]at hv;exact hv),aO,_,rfl⟩
    ·obtain⟨rfl,rfl,o,rfl⟩:=h'
     rw[ja_,q4,wf.len,jO_ (by rw[Fk];exact jg_ _)]
     have ao:aS.2.zip (rowB marks.length (bW marks aa) ((i:Int)::w)) ≠ []:=fun z=>by
      have:=jG_ List.length z
      rw[zM_,eC.wc.len,Fk,Nat.min_self,qy_]at this
      omega
     have fY:(zipW aS.2 (rowB marks.length (bW marks aa) ((i:Int)::w))).length=marks.length:=by
      unfold zipW
      rw[ja_,zM_,eC.wc.len,Fk];omega
     refine⟨D,rfl,_,SqL.of (Same.new hD _ _ lq),_,SqL.of Ab,by rw[ja_,ja_,eC.wc.len,Fk],fun l rs H6 s6 ng cO nh=>⟨l,rfl,.inr ⟨rs,zipW aS.2 (rowB marks.length (bW marks aa) ((i:Int)::w)),SqL.of Ab,⟨?_,fun j v hj=>?_⟩,by omega,fun pf H7 s7 iP fk=>?_⟩⟩⟩
     ·rw[cO,fY,ja_,eC.wc.len]
     ·unfold zipW at hj
      rw[je_]at hj
      cases hq:(aS.2.zip (rowB marks.length (bW marks aa) ((i:Int)::w)))[j]? with
      |none=>rw[hq]at hj;cases hj
      |some p=>
       rw[hq]at hj
       cases hj
       obtain⟨u1,u2⟩:=qS_.mp (show (aS.2.zip (rowB marks.length (bW marks aa) ((i:Int)::w)))[j]?=some (p.1,p.2) from hq)
       obtain⟨t,t1,t2⟩:=nh j (V.int p.1) (V.int p.2) (by rw[je_,u1];rfl) (by rw[je_,u2];rfl)
       exact⟨t,t1,Same.new ng _ _ t2⟩
     have sD:Same H' (upd H' D (.lst ((rowB marks.length (bW marks aa) ((i:Int)::w)).map V.int))):=Same.new hD
     have lu:upd H' D (.lst ((rowB marks.length (bW marks aa) ((i:Int)::w)).map V.int)) D=some (.lst ((rowB marks.length (bW marks aa) ((i:Int)::w)).map V.int)):=Ab
     have s67:=(Same.new ng (o:=.lst rs)).trans s7
     have gT:=sD.trans (s6.trans s67)
     have lx:=(s6.trans s67) _ _ lu
     have lA:=gT _ _ eB
     have hb7:=gT _ _ jD
     have hc7:=gT _ _ lq
     have hDw:D≠pw:=fun z=>by rw[z,eB]at hD;cases hD
     have hDb:D≠pb:=fun z=>by rw[z,jD]at hD;cases hD
     have gm:H' pf=none:=sD.none (s6.none ((Same.new ng (o:=.lst rs)).none iP))
     have hpfw:pf≠pw:=fun z=>by rw[z,eB]at gm;cases gm
     have hpfb:pf≠pb:=fun z=>by rw[z,jD]at gm;cases gm
     have bU:=eC.step bQ d7 hi
     have dG:HW marks.length (bW marks aa) w (i+1) st=M4 marks.length (bW marks aa) w aS i:=by rw[K6,<-iM]
     rw[YF]at fk
     refine⟨pf,rfl,_,SqL.of fk,(ncl (aS.2.zip (rowB marks.length (bW marks aa) ((i:Int)::w))):Int)-1,Oq ao,(fun x hx=>by have:=TH hx;omega),_,SqL.of hc7,(ncl aS.2:Int)-1,eC.wc.top,(fun x hx=>by have:=eC.wc.rng x hx;omega),?_⟩
     refine ite2 (fun jq=>?_) (fun hle=>?_)
     ·have hgt':ncl aS.2<ncl (aS.2.zip (rowB marks.length (bW marks aa) ((i:Int)::w))):=by omega
      have ni:M4 marks.length (bW marks aa) w aS i=(aS.1++[(i:Int)::w],num (aS.2.zip (rowB marks.length (bW marks aa) ((i:Int)::w)))):=by unfold M4;rw[if_pos hgt']
      obtain⟨tw,htw1,htw2⟩:=jC.2 k0 w d7
      have hwlen:=WC.short eC.wc k0 w d7
      refine⟨.inl ⟨rfl,_,SqL.of lA⟩,by omega,fun p1 bo=>⟨_,SqL.of (Same.new bo _ _ lA),_,FV htw1,Hd.ofS Ab (Same.new bo _ _ (gT _ _ htw2)) (by simp;omega) fun q H8 s8 hq=>?_⟩⟩
      have kA:=(Same.new bo (o:=.tup [V.int i])).trans s8
      have hw8:=kA _ _ lA
      have hb8:=kA _ _ hb7
      have bL:=jC.1
      have hbl:=jE.1
      refine⟨_,hw8,by omega,?_⟩
      have nj:upd H8 pw (.lst (ku++[V.ref q])) pb=some (.lst kz):=by rw[Ai hpbw];exact hb8
      have nk:=gT.trans kA
      rw[ni]at bU dG
      refine⟨.inl ⟨rfl,_,SqL.of nj⟩,_,nj,by omega,(kr _ _ _).mpr ⟨_,ku++[V.ref q],kz++[V.ref D],pf,_,_,_,dG.symm,((s5.trans nk).over hpwH).over hpbH,by rw[Ai (qv_ hpbw),Ab],(((jC.mono (TK.of nk)).snoc (w:=(i:Int)::w) hq).mono (TK.lst hw8)).mono (TK.lst nj),Ab,?_,by rw[Ai hpfb,Ai hpfw];exact kA _ _ fk,hpfw,hpfb,bU.1,bU.2,rfl⟩⟩
      exact BehL.snoc (jE.keep (fun t o t1 t2 e=>by rw[Ai t2,Ai t1];exact nk _ _ e)) (by rw[Ai hDb,Ai hDw];exact kA _ _ lx) hDw hDb
     ·have iF:¬ ncl aS.2<ncl (aS.2.zip (rowB marks.length (bW marks aa) ((i:Int)::w))):=by omega
      have ni:M4 marks.length (bW marks aa) w aS i=aS:=by unfold M4;rw[if_neg iF]
      rw[ni]at bU dG
      exact (kr _ _ _).mpr ⟨aS,ku,kz,nc,_,_,_,dG.symm,s5.trans gT,lA,jC.mono (TK.of gT),hb7,jE.keep (fun t o _ _ e=>gT _ _ e),hc7,iN,iO,bU.1,bU.2,rfl⟩
   ·obtain⟨aS,ku,kz,nc,p5,p6,p7,iM,s5,eB,jC,jD,jE,lq,iN,iO,eC,d7,rfl⟩:=(kr _ _ _).mp h5
    walk_at "rd"
    have e41:41-k0=(41-(k0+1))+1:=by omega
    refine (ai _ _ _).mpr ⟨aS,k0+1,ku,kz,nc,_,_,_,rfl,s5,eB,jC,jD,jE,lq,iN,iO,eC.next,?_,rfl⟩
    rw[iM,<-ho4,e41,Qp dE]
  ·have e:st=wcOf marks.length L (bW marks aa):=by rw[<-ho4,NE (by omega)]
   have aO:=m9.fin (by omega)
   rw[e]at fO m8 aO
   exact⟨by omega,fun p hp=>k p pw pc4 xs _ (s4.newT hp) Ab hpwH (Same.new hp _ _ cg) (fO.mono (TK.new hp)) (Same.new hp _ _ m8) aO⟩
def Ae_ (K:α3):Sp:=fun vs H Q _=>∃(h:Addr) (L:Nat) (marks:α2) (aa:α1),vs=[.ref h]/\BO K H h L marks aa/\Wf L marks aa/\∀pw xs H',Same H H'->H pw=none->H' pw=some (.lst xs)->AV K H' xs (wcOf marks.length L (bW marks aa)).1->Fin17 marks.length L (bW marks aa) (wcOf marks.length L (bW marks aa))->Q (.ref pw) H'
theorem U1   (F:Fun K "tellers" "tellers" D7 f fd)(T:Txt mg)
   (A7:FnOk P w K mg base CX0 2 AN Bk ["house"] (Br_ K)) (AX:Fun K "words_and_classes" "words_and_classes" AW AN Bk) (A8:Binds K Bk ["house"] []) (A9:mg "words_and_classes"=some (.ref AN))
  : FnOk P w K mg base CX0 3 f fd ["house"] (Ae_ K):=by
 refine F.ok UX (fun vs H Q E h=>?_) (fun aq A outer s H vs Q E hr h=>?_)
 ·obtain⟨h,L,marks,aa,rfl,_⟩:=h;rfl
 ·obtain⟨h,L,marks,aa,rfl,hh,wf,k⟩:=h
  refine⟨_,(Ag (AO (Ah (ixTD Ao) (Al A7 (hr.mono (by decide)) rfl A9 AX.kp A8 .nil AZ (Aa (pvD 0) Ae)) Ac))),?_⟩
  walk_at "rd"
  exact⟨h,L,marks,aa,rfl,hh,wf,fun t pw pc xs H' s' ht hpwN aU hW kB aO=>⟨t,rfl,_,SqT.of ht,_,rfl,k pw xs H' s' hpwN aU hW aO⟩⟩
def Af_ (K:α3):Sp:=fun vs H Q _=>∃(h:Addr) (L:Nat) (marks:α2) (aa:α1),vs=[.ref h]/\BO K H h L marks aa/\Wf L marks aa/\∀pc H',Same H H'->H' pc=some (.lst ((wcOf marks.length L (bW marks aa)).2.map V.int))->Fin17 marks.length L (bW marks aa) (wcOf marks.length L (bW marks aa))->Q (.ref pc) H'
theorem OK   (F:Fun K "classes_of" "classes_of" Cv f fd)(T:Txt mg)
   (A7:FnOk P w K mg base CX0 2 AN Bk ["house"] (Br_ K)) (AX:Fun K "words_and_classes" "words_and_classes" AW AN Bk) (A8:Binds K Bk ["house"] []) (A9:mg "words_and_classes"=some (.ref AN))
  : FnOk P w K mg base CX0 3 f fd ["house"] (Af_ K):=by
 refine F.ok OE (fun vs H Q E h=>?_) (fun aq A outer s H vs Q E hr h=>?_)
 ·obtain⟨h,L,marks,aa,rfl,_⟩:=h;rfl
 ·obtain⟨h,L,marks,aa,rfl,hh,wf,k⟩:=h
  refine⟨_,(Ag (AO (Ah (ixTD Ao) (Al A7 (hr.mono (by decide)) rfl A9 AX.kp A8 .nil AZ (Aa (pvD 0) Ae)) Ac))),?_⟩
  walk_at "rd"
  exact⟨h,L,marks,aa,rfl,hh,wf,fun t pw pc xs H' s' ht hpwN aU hW kB aO=>⟨t,rfl,_,SqT.of ht,_,rfl,k pc H' s' kB aO⟩⟩
theorem Lm {α:Type}[DecidableEq α]:∀(row acc:List α),∃t,Ct acc row=acc++t
 |[],acc=>⟨[],by simp[Ct]⟩
 |x::row,acc=>by
  obtain⟨t,ht⟩:=Lm row (ins1 acc x)
  show ∃t,Ct (ins1 acc x) row=acc++t
  rw[ht]
  unfold ins1
  split
  ·exact⟨t,rfl⟩
  ·exact⟨x::t,by simp⟩
theorem U2  [DecidableEq α](a b:List α):∃t,AJ (a++b)=AJ a++t:=by
 unfold AJ Ct
 rw[qM_]
 exact Lm b _
theorem OL {α:Type}[DecidableEq α]{row:List α}{i:Nat}{x:α}(h:x∈AJ (row.take i)):(AJ row).idxOf x=(AJ (row.take i)).idxOf x:=by
 obtain⟨t,ht⟩:=U2 (row.take i) (row.drop i)
 rw[q7_]at ht
 rw[ht,zY_,if_pos h]
def FP (c R:α2)(n i:Nat):List V:=(List.range n).map fun r:Nat=>if (r:Int)∈R.take i then V.int (hm c R r) else V.non
theorem Im   : (FP c R n i).length=n:=by unfold FP;simp
theorem Xs {c R:α2}{n i:Nat}{r:Int}(hr:R[i]?=some r)(h0:0<=r)(h1:r<(n:Int)):(FP c R n i).set r.toNat (V.int (hm c R r))=FP c R n (i+1):=by
 have et:R.take (i+1)=R.take i++[r]:=by rw[jV_,hr];rfl
 refine qL_ fun j=>?_
 by_cases hj:j<n
 ·have e2:(FP c R n (i+1))[j]?=some (if (j:Int)∈R.take (i+1) then V.int (hm c R j) else V.non):=by
   unfold FP
   rw[je_,qG_ hj];rfl
  have e1:(FP c R n i)[j]?=some (if (j:Int)∈R.take i then V.int (hm c R j) else V.non):=by
   unfold FP
   rw[je_,qG_ hj];rfl
  rw[e2]
  by_cases e:r.toNat=j
  ·have kq:r=(j:Int):=by omega
   rw[<-e,qO_ (by rw[Im];omega),e,<-kq,if_pos (by rw[et];simp)]
  ·rw[xe_ e,e1]
   have ao:¬ (j:Int)=r:=fun z=>e (by omega)
   by_cases bz:(j:Int)∈R.take i
   ·rw[if_pos bz,if_pos (by rw[et];exact j9_ _ bz)]
   ·rw[if_neg bz,if_neg (by rw[et];intro z;rcases jz_.mp z with z|z;exact bz z;exact ao (js_.mp z))]
 ·rw[jR_ (by rw[qQ_,Im];omega),jR_ (by rw[Im];omega)]
def TY (K:α3):Sp:=fun vs H Q _=>∃(h:Addr) (L:Nat) (marks:α2) (aa:α1),vs=[.ref h]/\BO K H h L marks aa/\Wf L marks aa/\∀p H',Same H H'->H p=none->H' p=some (.lst (FP (wcOf marks.length L (bW marks aa)).2 ((Az aa).map (·.1)) marks.length ((Az aa).map (·.1)).length))->Fin17 marks.length L (bW marks aa) (wcOf marks.length L (bW marks aa))->RF L marks.length aa ((Az aa).map (·.1))->Q (.ref p) H'
theorem YG   (F:Fun K "homes" "homes" Hr f fd)(T:Txt mg)
   (E4:FnOk P w K mg base CX0 2 Do E5 ["house"] (IU K)) (DG:Fun K "reached" "reached" DE Do E5) (E6:Binds K E5 ["house"] []) (E7:mg "reached"=some (.ref Do))
   (Gc:FnOk P w K mg base CX0 3 Dc Io ["house"] (Af_ K)) (DH:Fun K "classes_of" "classes_of" Cv Dc Io) (Gd:Binds K Io ["house"] []) (Ge:mg "classes_of"=some (.ref Dc))
  : FnOk P w K mg base CX0 4 f fd ["house"] (TY K):=by
 refine F.ok Ib (fun vs H Q E h=>?_) (fun aq A outer s H vs Q E hr h=>?_)
 ·obtain⟨h,L,marks,aa,rfl,_⟩:=h;rfl
 ·obtain⟨h,L,marks,aa,rfl,hh,wf,k⟩:=h
  have hl:=AC
  have aN:=wf.n40
  obtain⟨mm,wv,q1,q2,q3⟩:=id hh
  refine⟨_,(Ad (Aj (i:=1) Ib.nd (Al Gc (hr.mono (by decide)) rfl Ge DH.kp Gd .nil AZ (Aa (pvD 0) Ae)))
   (Ad (Aj (i:=2) Ib.nd Tf)
   (Ad (Aj (i:=3) Ib.nd (An V3 (Cn (Aa VE Ae)) (As (lenD Ak) (by rfl) T.len jH_ (Aa (Ah (ixTD Ao) (pvD 0) Ac) Ae))))
   (Ad (Cb jI_ rfl (BW (Al E4 (hr.mono (by decide)) rfl E7 DG.kp E6 .nil AZ (Aa (pvD 0) Ae))) (At (i:=4) Ib.nd rfl (Or.inl rfl))
   (Ag (PN (UG (pvD 2) (Ah (ixLD Bi) (pvD 1) (pvD 4)) (As Qo (by rfl) T.len jH_ (Aa (pvD 2) Ae)) ⟨by rfl,by rfl,by rfl,by rfl⟩) (PM (pvD 3) (pvD 4) set_list))))
   (Ag (AO (pvD 3))))))),?_⟩
  walk_at "rd"
  refine⟨h,L,marks,aa,rfl,hh,wf,fun pc H1 s1 kB aO=>?_⟩
  intro pd jF
  have sd:=s1.newT jF (o:=.dK [])
  refine⟨by omega,fun p1 bo=>⟨_,(sd.newT bo).seqT q1,_,rfl,mm,rfl,_,.inr ((sd.newT bo).seqT q2),_,Ab,by omega,by rw[ja_];omega,by rw[ja_,jY_,ji_];omega,fun pt f9=>?_⟩⟩
  rw[ja_,ji_]
  have sT:=(sd.newT bo (o:=.lst [V.non])).newT f9 (o:=.lst (List.replicate marks.length [V.non]).flatten)
  have iQ:H pt=none:=(sd.newT bo (o:=.lst [V.non])).none f9
  have hpdN:H pd=none:=s1.none jF
  have iR:upd (upd (upd H1 pd (.dK [])) p1 (.lst [V.non])) pt (.lst (List.replicate marks.length [V.non]).flatten) pd=some (.dK []):=(Same.new f9) _ _ ((Same.new bo) _ _ Ab)
  have iS:upd (upd (upd H1 pd (.dK [])) p1 (.lst [V.non])) pt (.lst (List.replicate marks.length [V.non]).flatten) pt=some (.lst (List.replicate marks.length [V.non]).flatten):=Ab
  have iT:upd (upd (upd H1 pd (.dK [])) p1 (.lst [V.non])) pt (.lst (List.replicate marks.length [V.non]).flatten) pc=some (.lst ((wcOf marks.length L (bW marks aa)).2.map V.int)):=(Same.new f9) _ _ ((Same.new bo) _ _ ((Same.new jF) _ _ kB))
  generalize upd (upd (upd H1 pd (.dK [])) p1 (.lst [V.non])) pt (.lst (List.replicate marks.length [V.non]).flatten)=HT at sT iR iS iT ⊢
  clear sd bo f9 jF s1 kB
  refine⟨h,L,marks,aa,rfl,hh.mono sT,wf,fun pR H2 s2 cj iU rf=>⟨pR,rfl,⟨_,SqL.of iU⟩,?_⟩⟩
  generalize hR:(Az aa).map (·.1)=R at iU rf k
  generalize cA:wcOf marks.length L (bW marks aa)=st at iT aO k
  have s02:=sT.trans s2
  have gn:=s2 _ _ iR
  have iV:=s2 _ _ iS
  have fm:=s2 _ _ iT
  have nq:pd≠pt:=fun z=>by rw[z,iV]at gn;cases gn
  have hRt:pR≠pt:=fun z=>by rw[z,iS]at cj;cases cj
  have hRd:pR≠pd:=fun z=>by rw[z,iR]at cj;cases cj
  have bw:pc≠pd:=fun z=>by rw[z,gn]at fm;cases fm
  have hct:pc≠pt:=fun z=>by
   rw[z,iV]at fm
   have bh:=aO.wc.len
   have e:=jp_ fm
   injection e with e
   have bQ:=wf.n1
   have e0:=jG_ (fun l:List V=>l[0]?) e
   obtain⟨n,hn⟩:∃n,marks.length=n+1:=⟨marks.length-1,by omega⟩
   cases hc:st.2 with
   |nil=>rw[hc]at bh;simp at bh;omega
   |cons a r=>rw[hc,hn]at e0;simp[qg_]at e0
  have bP:∀x y:Int,(Sum.inl x:Key)=Sum.inl y->x=y:=fun x y z=>Sum.inl.inj z
  obtain⟨Pv,ai⟩:∃Pv:Nat->St->Hp->Prop,∀i ae H',Pv i ae H'↔(∃o:Option V,Same H H'/\H' pR=some (.lst (R.map V.int))/\H' pc=some (.lst (st.2.map V.int))/\H' pd=some (.dK (numD (fun x:Int=>(Sum.inl x:Key)) (AJ ((R.map (cf st.2)).take i))))/\H' pt=some (.lst (FP st.2 R marks.length i))/\ae=[some (.ref h),some (.ref pc),some (.ref pd),some (.ref pt),o]):=⟨_,fun _ _ _=>ql_⟩
  refine forL (xs:=R.map V.int) Pv ((ai _ _ _).mpr ⟨none,s02,iU,fm,gn,?_,rfl⟩) (fun i ae H' _ h'=>by obtain⟨_,_,h2,_⟩:=(ai _ _ _).mp h';exact SqL.of h2) (fun i x ae H' hx h'=>?_) (fun ae H' h'=>?_)
  ·rw[iV]
   congr 2
   unfold FP
   refine qL_ fun j=>?_
   by_cases hj:j<marks.length
   ·rw[je_,qG_ hj];simp[hj]
   ·rw[jR_ (by simp;omega),jR_ (by simp;omega)]
  ·obtain⟨o,s',df,gp,fo,fq,rfl⟩:=(ai _ _ _).mp h'
   obtain⟨r,hr,rfl⟩:=Di hx
   have d0:=jd_ hr
   have bM:=rf.rng r d0
   have kl:(R.map (cf st.2))[i]?=some (cf st.2 r):=by rw[je_,hr];rfl
   have bh:=aO.wc.len
   have jA:=OJ (R.map (cf st.2)) i
   rw[ja_]at jA
   have nr:=rf.len
   have nd:=BB ((R.map (cf st.2)).take i)
   have et:=Fr kl
   have hcat:(st.2)[r.toNat]?=some (cf st.2 r):=by unfold cf;rw[jh_];simp[show r.toNat<st.2.length by omega]
   walk_at "rd"
   have dW:ixN (FP st.2 R marks.length i).length r=some r.toNat:=by rw[Im];exact Cy_ bM.1 (by omega)
   have ft:=Xs (c:=st.2) (n:=marks.length) hr bM.1 bM.2
   refine⟨.inl ⟨_,.inl fo⟩,_,SqL.of gp,_,Bs bM.1 hcat,.inl ⟨_,fo,_,rfl,_,fo,by rw[Fq];omega,fun v hv=>?_,fun hn=>?_⟩⟩
   ·by_cases bz:cf st.2 r∈AJ ((R.map (cf st.2)).take i)
    ·have e:=E3 (k:=fun x:Int=>(Sum.inl x:Key)) bP nd bz
     have e2:=hv.symm.trans e
     cases e2
     have eh:hm st.2 R r=(((AJ ((R.map (cf st.2)).take i)).idxOf (cf st.2 r):Nat):Int):=by unfold hm;rw[OL bz]
     refine⟨_,fq,_,dW,(ai _ _ _).mpr ⟨_,s'.over iQ,by rw[Ai hRt];exact df,by rw[Ai hct];exact gp,by rw[Ai nq,et,ins1,if_pos bz];exact fo,by rw[Ab,<-ft,eh],rfl⟩⟩
    ·have e:=Il (k:=fun x:Int=>(Sum.inl x:Key)) bP bz
     have e2:=hv.symm.trans e
     cases e2
   ·have bz:cf st.2 r∉AJ ((R.map (cf st.2)).take i):=fun z=>by
     have e:=E3 (k:=fun x:Int=>(Sum.inl x:Key)) bP nd z
     have e2:=hn.symm.trans e
     cases e2
    have iJ:=OI (k:=fun x:Int=>(Sum.inl x:Key)) bP bz
    have eh:hm st.2 R r=((numD (fun x:Int=>(Sum.inl x:Key)) (AJ ((R.map (cf st.2)).take i))).length:Int):=by
     unfold hm
     rw[Fq,OL (i:=i+1) (by rw[et,ins1,if_neg bz];simp),et,ins1,if_neg bz,RT bz]
    have hpt2':upd H' pd (.dK (putK (numD (fun x:Int=>(Sum.inl x:Key)) (AJ ((R.map (cf st.2)).take i))) (Sum.inl (cf st.2 r)) (V.int ((numD (fun x:Int=>(Sum.inl x:Key)) (AJ ((R.map (cf st.2)).take i))).length:Int)))) pt=some (.lst (FP st.2 R marks.length i)):=by rw[Ai (qv_ nq)];exact fq
    refine⟨_,hpt2',_,dW,(ai _ _ _).mpr ⟨_,(s'.over hpdN).over iQ,by rw[Ai hRt,Ai hRd];exact df,by rw[Ai hct,Ai bw];exact gp,?_,by rw[Ab,<-ft,eh],rfl⟩⟩
    rw[Ai nq,Ab,et,ins1,if_neg bz,Fq]
    exact jG_ (fun z=>some (HO.dK z)) iJ
  ·obtain⟨o,s',df,gp,fo,fq,rfl⟩:=(ai _ _ _).mp h'
   rw[ja_]at fq
   walk_at "rd"
   exact k pt _ s' iQ fq aO rf
theorem Dl_    (h:R[i]?=some r):(hm c R r=((FR c (R.take i)).length:Int))↔cf c r∉(FR c (R.take i)).map (cf c):=by
 have kl:(R.map (cf c))[i]?=some (cf c r):=by rw[je_,h];rfl
 have hlen:(FR c (R.take i)).length=(AJ ((R.map (cf c)).take i)).length:=by
  have:=jG_ List.length (K7 c (R.take i))
  rw[ja_,List.map_take]at this
  exact this
 rw[K7,List.map_take,hlen]
 have et:=Fr kl
 unfold hm
 constructor
 ·intro e bz
  rw[OL bz]at e
  have:=qH_ bz
  omega
 ·intro bz
  rw[OL (i:=i+1) (by rw[et,ins1,if_neg bz];simp),et,ins1,if_neg bz,RT bz]
theorem TZ {c R:α2}{n:Nat}{r:Int}(hr:r∈R)(h0:0<=r)(h1:r<(n:Int)):(FP c R n R.length)[r.toNat]?=some (V.int (hm c R r)):=by
 unfold FP
 rw[je_,qG_ (by omega),jU_]
 have e:((r.toNat:Nat):Int)=r:=by omega
 show some (if ((r.toNat:Nat):Int)∈R then V.int (hm c R ((r.toNat:Nat):Int)) else V.non)=_
 rw[e,if_pos hr]
theorem AV.toRows {K:α3}{H:Hp}{w:Addr}{zs:List V}{ws:α1}(h:AV K H zs ws)(hw:SqT K H w zs):Rows K H w ws:=by
 refine⟨zs.map (fun v=>match v with | .ref t=>t|_=>0),?_,by rw[ja_];exact h.1,fun i t r hi hr=>?_⟩
 ·have e:(zs.map (fun v=>match v with | .ref t=>t|_=>0)).map V.ref=zs:=by
   rw[jX_]
   refine qL_ fun i=>?_
   rw[je_]
   by_cases hi:i<ws.length
   ·obtain⟨t,a,_⟩:=h.2 i ws[i] (by simp[hi])
    rw[a];rfl
   ·rw[jR_ (by rw[h.1];omega)];rfl
  rw[e];exact hw
 ·obtain⟨t',a,b⟩:=h.2 i r hr
  rw[je_,a]at hi
  cases hi
  exact SqT.of b
def T0 (K:α3):Sp:=fun vs H Q _=>∃(h:Addr) (L:Nat) (marks:α2) (aa:α1),vs=[.ref h]/\BO K H h L marks aa/\Wf L marks aa/\∀t H',Same H H'->BO K H' t L (sM L marks aa) (sW L marks aa)->Q (.ref t) H'
theorem YH   (F:Fun K "least" "least" Hs f fd)(T:Txt mg)
   (E4:FnOk P w K mg base CX0 2 Do E5 ["house"] (IU K)) (DG:Fun K "reached" "reached" DE Do E5) (E6:Binds K E5 ["house"] []) (E7:mg "reached"=some (.ref Do))
   (Sj:FnOk P w K mg base CX0 4 IV T1 ["house"] (TY K)) (Ln:Fun K "homes" "homes" Hr IV T1) (Sk:Binds K T1 ["house"] []) (Sl:mg "homes"=some (.ref IV))
  : FnOk P w K mg base CX0 5 f fd ["house"] (T0 K):=by
 refine F.ok Ic (fun vs H Q E h=>?_) (fun aq A outer s H vs Q E hr h=>?_)
 ·obtain⟨h,L,marks,aa,rfl,_⟩:=h;rfl
 ·obtain⟨h,L,marks,aa,rfl,hh,wf,k⟩:=h
  have hl:=AC
  have aN:=wf.n40
  have b9:=wf.l6
  obtain⟨mm,wv,q1,q2,q3⟩:=id hh
  refine⟨_,(Ad (B7 (i:=1) Ic.nd rfl (Or.inr rfl) (Al Sj (hr.mono (by decide)) rfl Sl Ln.kp Sk .nil AZ (Aa (pvD 0) Ae)))
   (Ad (Aj (i:=2) Ic.nd (Cn Ae))
   (Ad (Aj (i:=3) Ic.nd (Cn Ae))
   (Ad (Cb jI_ rfl (BW (Al E4 (hr.mono (by decide)) rfl E7 DG.kp E6 .nil AZ (Aa (pvD 0) Ae))) (At (i:=4) Ic.nd rfl (Or.inl rfl))
   (Ag (Cq (ptT (Av (opE Dh) (Ah (ixLD Bi) (pvD 1) (pvD 4)) (As (lenD Ak) (by rfl) T.len jH_ (Aa (pvD 2) Ae)) (AS _)))
   (Ad (BN (Fd jD_ jL_ jM_ Bd (pvD 2) (Aa (Ah (ixTD Ao) (Ah (ixTD Ao) (pvD 0) Ac) (pvD 4)) Ae)))
   (Ag (BN (Fd jD_ jL_ jM_ Bd (pvD 3) (Aa (AM AE rfl T.tuple jA_ (Aa (BX rfl (BY rfl) (cp:=QB) ⟨⟨rfl,rfl⟩,True.intro⟩ (FU (Ah (ixTD Ao) (Ah (ixTD Ao) (pvD 0) Ac) (pvD 4))) (fun _ _ _ _=>(At (i:=0) QC rfl (Or.inl rfl))) (fun _ _ _ _=>B8) (fun _ _ _ _=>(Ah (ixLD (Co (K:=K) rfl)) (pvD 1) (pvD 0)))) Ae)) Ae)))))
   AU)))
   (Ag (AO (C7 (Aa (Ah (ixTD Ao) (pvD 0) Ac) (Aa (AM AE rfl T.tuple jA_ (Aa (pvD 2) Ae)) (Aa (AM AE rfl T.tuple jA_ (Aa (pvD 3) Ae)) Ae)))))))))),?_⟩
  walk_at "rd"
  refine⟨h,L,marks,aa,rfl,hh,wf,fun ph H1 s1 hphN jG aO rf=>?_⟩
  generalize hR:(Az aa).map (·.1)=R at jG rf
  generalize cA:wcOf marks.length L (bW marks aa)=st at jG aO
  refine⟨jZ_ _,fun pm bu=>⟨jZ_ _,fun pv dD=>?_⟩⟩
  have hpmN:H pm=none:=s1.none bu
  have s2:=(s1.newT bu (o:=.lst [])).newT dD (o:=.lst [])
  have hpvN:H pv=none:=(s1.newT bu (o:=.lst [])).none dD
  have iW:upd (upd H1 pm (.lst [])) pv (.lst []) pm=some (.lst []):=(Same.new dD) _ _ Ab
  have iX:upd (upd H1 pm (.lst [])) pv (.lst []) pv=some (.lst []):=Ab
  have hph2:upd (upd H1 pm (.lst [])) pv (.lst []) ph=some (.lst (FP st.2 R marks.length R.length)):=(Same.new dD) _ _ ((Same.new bu) _ _ jG)
  have hphm:ph≠pm:=fun z=>by rw[z,bu]at jG;cases jG
  have lB:pm≠pv:=fun z=>by rw[<-z,Ab]at dD;cases dD
  have hphv:ph≠pv:=fun z=>by rw[<-z,(Same.new bu) _ _ jG]at dD;cases dD
  generalize upd (upd H1 pm (.lst [])) pv (.lst [])=H2 at s2 iW iX hph2 ⊢
  refine⟨h,L,marks,aa,rfl,hh.mono s2,wf,fun pR H3 s3 cj iU rf2=>?_⟩
  rw[hR]at iU
  have iL:=s2.trans s3
  have hRm:pR≠pm:=fun z=>by rw[z,iW]at cj;cases cj
  have hRv:pR≠pv:=fun z=>by rw[z,iX]at cj;cases cj
  have hpm3:=s3 _ _ iW
  have hpv3:=s3 _ _ iX
  have hph3:=s3 _ _ hph2
  refine⟨pR,rfl,⟨_,SqL.of iU⟩,?_⟩
  obtain⟨Pv,ai⟩:∃Pv:Nat->St->Hp->Prop,∀i ae H',Pv i ae H'↔(∃(zs:List V) (o:Option V),Same H H'/\H' pR=some (.lst (R.map V.int))/\H' ph=some (.lst (FP st.2 R marks.length R.length))/\H' pm=some (.lst (((FR st.2 (R.take i)).map (mkR marks)).map V.int))/\H' pv=some (.lst zs)/\AV K H' zs ((FR st.2 (R.take i)).map (hrow st.2 R aa))/\ae=[some (.ref h),some (.ref ph),some (.ref pm),some (.ref pv),o]):=⟨_,fun _ _ _=>ql_⟩
  refine forL (xs:=R.map V.int) Pv ((ai _ _ _).mpr ⟨[],none,iL,iU,hph3,hpm3,hpv3,AV.nil,rfl⟩) (fun i ae H' _ h'=>by obtain⟨_,_,_,h2,_⟩:=(ai _ _ _).mp h';exact SqL.of h2) (fun i x ae H' hx h'=>?_) (fun ae H' h'=>?_)
  ·obtain⟨zs,o,s',df,gq,cH,gr,jH,rfl⟩:=(ai _ _ _).mp h'
   obtain⟨r,hr,rfl⟩:=Di hx
   have d0:=jd_ hr
   have bM:=rf.rng r d0
   have jA:=TM st.2 (R.take i)
   have nr:=rf.len
   rw[jB_]at jA
   have j6:=TZ (c:=st.2) (n:=marks.length) d0 bM.1 bM.2
   have cD:=Dl_ (c:=st.2) hr
   have eFR:=W5 (c:=st.2) hr
   obtain⟨row,fu,hrow2,hrow3⟩:=wf.row bM.1 bM.2
   have bH:=wf.rows row hrow2
   have g8:∀g∈row,g∈R:=fun g hg=>by
    obtain⟨x,hx⟩:=jK_.mp hg
    have bL:=(jb_.mp hx).1
    have:=rf.cls r d0 x (by omega)
    rwa [CG fu (by rw[ji_];exact hx)]at this
   have gS:marks[r.toNat]?=some (mkR marks r):=by unfold mkR;rw[jh_];simp[show r.toNat<marks.length by omega]
   have nu:hrow st.2 R aa r=row.map (hm st.2 R):=by unfold hrow;rw[jh_,fu];rfl
   obtain⟨xs1,t1,z1,z2,z3⟩:=q3.atZ bM.1 fu
   walk_at "rd"
   refine⟨_,SqL.of gq,_,D4 bM.1 j6,_,.inl (SqL.of cH),?_⟩
   rw[ja_,ja_]
   refine⟨rfl,ite2 (fun he=>?_) (fun he=>?_)⟩
   ·have hnot:=cD.mp (V.int.inj he)
    have fz:FR st.2 (R.take (i+1))=FR st.2 (R.take i)++[r]:=by rw[eFR,Cp,if_neg hnot]
    refine⟨.inl ⟨rfl,_,SqL.of cH⟩,_,s'.seqT q1,_,rfl,mm,rfl,_,s'.seqT q2,_,Bs bM.1 gS,_,cH,by rw[ja_,ja_];omega,?_⟩
    have sM:=s'.over hpmN (o:=.lst (((FR st.2 (R.take i)).map (mkR marks)).map V.int++[V.int (mkR marks r)]))
    have iY:upd H' pm (.lst (((FR st.2 (R.take i)).map (mkR marks)).map V.int++[V.int (mkR marks r)])) pv=some (.lst zs):=by rw[Ai (qv_ lB)];exact gr
    have iZ:upd H' pm (.lst (((FR st.2 (R.take i)).map (mkR marks)).map V.int++[V.int (mkR marks r)])) ph=some (.lst (FP st.2 R marks.length R.length)):=by rw[Ai hphm];exact gq
    have hpRM:upd H' pm (.lst (((FR st.2 (R.take i)).map (mkR marks)).map V.int++[V.int (mkR marks r)])) pR=some (.lst (R.map V.int)):=by rw[Ai hRm];exact df
    have hpmM:upd H' pm (.lst (((FR st.2 (R.take i)).map (mkR marks)).map V.int++[V.int (mkR marks r)])) pm=some (.lst (((FR st.2 (R.take i)).map (mkR marks)).map V.int++[V.int (mkR marks r)])):=Ab
    have hZM:=jH.mono (TK.lst cH (o:=.lst (((FR st.2 (R.take i)).map (mkR marks)).map V.int++[V.int (mkR marks r)])))
    generalize upd H' pm (.lst (((FR st.2 (R.take i)).map (mkR marks)).map V.int++[V.int (mkR marks r)]))=HM at sM iY iZ hpRM hpmM hZM ⊢
    obtain⟨f,hf⟩:∃f:V->V,∀n:Int,f (V.int n)=.int (hm st.2 R n):=⟨fun x=>match x with | .int n=>.int (hm st.2 R n)|_=>.non,fun _=>rfl⟩
    refine⟨.inl ⟨rfl,_,SqL.of iY⟩,_,sM.seqT q1,_,rfl,wv,rfl,_,sM.seqT z1,_,z2,t1,rfl,⟨_,sM.seqT z3⟩,GF (ae:=[some (.ref ph)]) f rfl (sM.seqT z3) (by rw[ja_];omega) (fun x hx R' gU=>?_) (fun D hD=>?_)⟩
    ·obtain⟨g,hg,rfl⟩:=Er hx
     rw[hf]at gU
     have nv:=bH.2 g hg
     walk_at "rd"
     exact⟨_,SqL.of iZ,_,D4 nv.1 (TZ (g8 g hg) nv.1 nv.2),gU⟩
    ·have em:(row.map V.int).map f=(hrow st.2 R aa r).map V.int:=by
      rw[nu,jX_,jX_]
      exact qk_ fun n _=>hf n
     rw[em]
     refine⟨D,rfl,_,.inl ⟨SqL.of Ab,fun tl ny=>?_⟩⟩
     have sX:=(Same.new hD (o:=.lst ((hrow st.2 R aa r).map V.int))).newT ny (o:=.tup ((hrow st.2 R aa r).map V.int))
     have hpvX:=sX _ _ iY
     have fY:zs.length<=1000:=by rw[jH.1,ja_];omega
     refine⟨_,hpvX,by omega,(ai _ _ _).mpr ⟨zs++[V.ref tl],_,(sM.trans sX).over hpvN,by rw[Ai hRv];exact sX _ _ hpRM,by rw[Ai hphv];exact sX _ _ iZ,?_,Ab,?_,rfl⟩⟩
     ·rw[Ai lB,sX _ _ hpmM,fz,jT_,jT_];rfl
     ·rw[fz,jT_]
      exact ((hZM.mono (TK.of sX)).snoc (w:=hrow st.2 R aa r) Ab).mono (TK.lst hpvX)
   ·have bC:cf st.2 r∈(FR st.2 (R.take i)).map (cf st.2):=Decidable.byContradiction fun z=>he (by rw[cD.mpr z])
    have fz:FR st.2 (R.take (i+1))=FR st.2 (R.take i):=by rw[eFR,Cp,if_pos bC]
    exact (ai _ _ _).mpr ⟨zs,_,s',df,gq,by rw[fz];exact cH,gr,by rw[fz];exact jH,rfl⟩
  ·obtain⟨zs,o,s',df,gq,cH,gr,jH,rfl⟩:=(ai _ _ _).mp h'
   rw[ja_,jU_]at cH jH
   walk_at "rd"
   refine⟨_,s'.seqT q1,_,rfl,_,.inl ⟨SqL.of cH,fun tm gk=>⟨_,.inl ⟨SqL.of ((Same.new gk) _ _ gr),fun tw htw=>⟨by omega,fun t ht=>?_⟩⟩⟩⟩⟩
   have sE:=((Same.new gk (o:=.tup (((FR st.2 R).map (mkR marks)).map V.int))).newT htw (o:=.tup zs)).newT ht (o:=.tup [V.int L,V.ref tm,V.ref tw])
   subst hR cA
   exact k t _ (s'.trans sE) ⟨tm,tw,SqT.of Ab,SqT.of ((Same.new ht) _ _ ((Same.new htw) _ _ Ab)),AV.toRows (jH.mono (TK.of sE)) (SqT.of ((Same.new ht) _ _ Ab))⟩
abbrev LamH (K:α3)(H:Hp):Prop:=LamT (tabP K "in_order") Id (Str.ofString "in_order" ++ ".<locals>.") H
theorem Ip {K:α3}{H:Hp}:∀{us:α1} {xs:List V},AV K H xs us->∃os:List S64.Wd,xs=S64.wv os/\os.map (·.2)=us/\∀w∈os,H w.1=some (.tup (w.2.map V.int))
 |[],xs,h=>⟨[],List.length_eq_zero_iff.mp h.1,rfl,fun w hw=>by cases hw⟩
 |u::us,xs,h=>by
  obtain⟨t,h1,h2⟩:=h.2 0 u rfl
  match xs,h with
  |[],h=>exact absurd h.1 (by simp)
  |x::xs,h=>
   have e:x=V.ref t:=by simpa using h1
   obtain⟨os,e1,e2,e3⟩:=Ip (K:=K) (H:=H) (us:=us) (xs:=xs) ⟨by simpa using h.1,fun i w hw=>h.2 (i+1) w (by simpa using hw)⟩
   refine⟨(t,u)::os,by rw[e,e1];rfl,by simp[e2],fun w hw=>?_⟩
   rcases jJ_.mp hw with rfl|hw
   ·exact h2
   ·exact e3 w hw
def WsT (H:Hp)(os:List S64.Wd):Prop:=∀w∈os,H w.1=some (.tup (w.2.map V.int))
def Ag_ (K:α3):Sp:=fun vs H Q _=>∃(a:Addr) (xs:List V) (ws:α1),vs=[.ref a]/\SqL K H a xs/\AV K H xs ws/\ws.length<sizeLine/\LamH K H /\
 ∀D H' os,Dt (tabP K "in_order") H H'->LamH K H'->H D=none->H' D=some (.lst (S64.wv os))->WsT H' os->(os.map (·.2)).Perm (ws.foldl ins [])->S64.Srt os->Q (.ref D) H'
theorem Sm   (F:FunL K mg base "in_order" "in_order" Da f fd)(T:Txt mg)
  : FnOk P w K mg base CX0 4 f fd ["words"] (Ag_ K):=by
 refine F.ok Ht (fun vs H Q E h=>?_) (fun aq bw A outer s H vs Q E hr h=>?_)
 ·obtain⟨a,xs,ws,rfl,_⟩:=h;rfl
 ·obtain⟨a,xs,ws,rfl,hs,hW,hz,hT,k⟩:=h
  have hl:=AC
  refine⟨_,(Ad (B7 (i:=1) Ht.nd rfl (Or.inl rfl) Tg)
   (Ad (Cb jI_ rfl (BW (pvD 0)) (At (i:=2) Ht.nd rfl (Or.inl rfl))
   (Ag (RD (P3 hr) (pvD 1) (pvD 2) Rv rfl)))
   (Ag (AO (UT (k:=0) (c:=tabC K "in_order") (P:=tabP K "in_order") (lp:=Id) (qual:=Str.ofString "in_order" ++ ".<locals>.") hr rfl T.sorted T.len bw F.C F.B (Aa (AM (K2 rfl) rfl T.list xl_ (Aa (pvD 1) Ae)) Ae)))))),?_⟩
  walk_at "rd"
  intro p hp
  have sp:=Same.new (o:=.dT []) hp
  refine⟨⟨_,sp.seq hs⟩,?_⟩
  obtain⟨Py,kC⟩:∃Pv:Nat->St->Hp->Prop,∀j ae H',Pv j ae H'↔(∃(kvs:List (List Key×V)) (o':Option V),Same H H'/\H' p=some (.dT kvs)/\GT ((ws.take j).foldl ins []) kvs/\ae=[some (.ref a),some (.ref p),o']):=⟨_,fun _ _ _=>ql_⟩
  refine forL (xs:=xs) Py ((kC _ _ _).mpr ⟨[],_,sp,Ab,by rw[zT_];exact GT.nil,rfl⟩) (fun j ae H' _ h'=>by obtain⟨_,_,s',_⟩:=(kC _ _ _).mp h';exact s'.seq hs) (fun j y av H3 hy h3=>?_) (fun av H3 h3=>?_)
  ·obtain⟨kvs,o',s3,hd,hk,rfl⟩:=(kC _ _ _).mp h3
   obtain⟨u,v,eg,rfl,hu⟩:=hW.at hy
   have hj:j<ws.length:=(jb_.mp eg).1
   have hlen:kvs.length<sizeLine:=by
    have h1:=DU (ws.take j) []
    rw[hk.len]
    rw[jB_,qy_]at h1
    omega
   walk_at "rd"
   have fJ:H3 u=some (.tup ((wkey v).map kV)):=by rw[Oo];exact s3 _ _ hu
   refine⟨_,DPut.t (k:=wkey v) hd fJ (by omega),(kC _ _ _).mpr ⟨_,_,s3.over hp,Ab,?_,rfl⟩⟩
   rw[jV_,eg,qN_,qM_]
   exact hk.put _ _
  ·obtain⟨kvs,o',s3,hd,hk,rfl⟩:=(kC _ _ _).mp h3
   rw[hW.1,jU_]at hk
   walk_at "rd"
   refine⟨kvs,.inl hd,fun l rs kh cO nh=>?_⟩
   have hWr:AV K (upd H3 l (.lst rs)) rs (ws.foldl ins []):=(hk.words (K:=K) cO nh).mono (TK.new kh)
   obtain⟨nz,e1,e2,e3⟩:=Ip hWr
   have s4:Same H (upd H3 l (.lst rs)):=s3.newT kh
   have nA:=hT.mono s4
   have hlen:nz.length<sizeLine:=by
    have h1:=jG_ List.length e2
    have h2:=DU ws []
    rw[ja_]at h1
    rw[qy_]at h2
    omega
   have nB:SqL K (upd H3 l (.lst rs)) l (S64.wv nz):=by rw[<-e1];exact SqL.of Ab
   generalize upd H3 l (.lst rs)=H4 at hWr e3 s4 nA nB ⊢
   refine⟨nz,nB,fun w hw=>SqT.of (e3 w hw),hlen,nA,fun H5 D os s5 hL5 gV hD bR i3=>?_⟩
   refine k D H5 os (fun b o hb e=>s5 b o hb (s4 b o e)) hL5 (Same.none s4 gV) hD (fun w hw=>?_) ?_ i3
   ·have h1:=e3 w (bR.mem_iff.mp hw)
    obtain⟨_,hT5⟩:=nA.is
    exact s5.ne h1 (fun _ z=>by cases z) hT5
   ·have:=bR.map (·.2)
    rw[e2]at this
    exact this
def Dm_ (K:α3)(H:Hp)(e:Addr)(n:Nat)(E:Nat->α1):Prop:=∃es:List V,H e=some (.lst es)/\∀r,r<n->∃q ys,es[r]?=some (.ref q)/\H q=some (.lst ys)/\AV K H ys (E r)
def wayW (aa:α1)(r:Nat):α2:=(((Az aa).find? fun e=>e.1==(r:Int)).getD (0,[])).2
theorem Sn {aa:α1}(nod:((Az aa).map (·.1)).Nodup){r:Nat}{w:α2}(h:((r:Int),w)∈Az aa):wayW aa r=w:=by
 unfold wayW
 cases hf:(Az aa).find? fun e=>e.1==(r:Int) with
 |none=>exact absurd (xQ_.mp hf _ h) (by simp)
 |some e=>
  have h1:=zN_ hf
  have h2:=xt_ hf
  have e1:e.1=(r:Int):=by simpa using h1
  obtain⟨i,hi,ei⟩:=jS_ h2
  obtain⟨j,hj,ej⟩:=jS_ h
  have ij:i=j:=(xN_ (h₀:=by simpa using hi) (h₁:=by simpa using hj) nod).mp (by simp[ei,ej,e1])
  subst ij
  rw[ei]at ej
  rw[Option.getD_some,ej]
def oneW (aa:α1)(E:Nat->α1)(r:Nat)(m:α2):α1:=(E (AK aa (wayW aa r++m)).toNat).map ((wayW aa r++m) ++ ·)
def allW (aa:α1)(n:Nat)(ck:α1)(E:Nat->α1):α1:=(List.range n).flatMap fun r=>ck.flatMap (oneW aa E r)
abbrev Fs (L:Int)(m:Nat):α1:=(List.range (many L (m+2)).toNat).map (nth L)
theorem Iq {α β:Type}{f:α->List β}{c:Nat}:∀(l:List α),(∀x∈l,(f x).length<=c)->(l.flatMap f).length<=l.length*c
 |[],_=>by simp
 |x::l,h=>by
  have h1:=h x jn_
  have h2:=Iq l (fun y hy=>h y (jl_ _ hy))
  rw[List.flatMap_cons,jo_,jW_,Nat.succ_mul]
  omega
theorem U3 {K:α3}    (h:AV K H xs us)(g:AV K H ys vs):AV K H (xs++ys) (us++vs):=by
 refine⟨by rw[jo_,jo_,h.1,g.1],fun i w hw=>?_⟩
 by_cases hi:i<us.length
 ·rw[jj_ hi]at hw
  obtain⟨t,a,b⟩:=h.2 i w hw
  exact⟨t,by rw[jj_ (by rw[h.1];exact hi)];exact a,b⟩
 ·rw[ju_ (by omega)]at hw
  obtain⟨t,a,b⟩:=g.2 _ w hw
  exact⟨t,by rw[ju_ (by rw[h.1];omega),h.1];exact a,b⟩
def Xt (K:α3):Sp:=fun vs H Q _=>∃(h e:Addr) (L:Int) (m:Nat) (marks:α2) (aa:α1) (E:Nat->α1),vs=[.ref h,.int m,.ref e]/\BO K H h L marks aa/\Wf L marks aa/\m<=3/\many L (m+2)<=341/\Dm_ K H e marks.length E/\(∀r,r<marks.length->(E r).length<=40/\∀w∈E r,w.length<=40)/\(∀r:Nat,r<marks.length->(r:Int)∈(Az aa).map (·.1))/\LamH K H /\
 ∀D H' os,Dt (tabP K "in_order") H H'->LamH K H'->H D=none->H' D=some (.lst (S64.wv os))->WsT H' os->(os.map (·.2)).Perm ((allW aa marks.length (Fs L m) E).foldl ins [])->S64.Srt os->Q (.ref D) H'
theorem OM   (F:Fun K "words_with" "words_with" Cw f fd)(T:Txt mg)
   (IW:FnOk P w K mg base CX0 4 D0 Lo ["letters","most"] (Ac_ K)) (E8:Fun K "words_to" "words_to" Du D0 Lo) (IX:Binds K Lo ["letters","most"] []) (IY:mg "words_to"=some (.ref D0))
   (CJ:FnOk P w K mg base CX0 4 Bm CS ["house","word"] (Sc K)) (BJ:Fun K "room_behind" "room_behind" BD Bm CS) (CK:Binds K CS ["house","word"] []) (CL:mg "room_behind"=some (.ref Bm))
   (Lp:FnOk P w K mg base CX0 2 E9 NS ["house"] (QG K)) (Gf:Fun K "ways_in" "ways_in" D6 E9 NS) (Lq:Binds K NS ["house"] []) (Lr:mg "ways_in"=some (.ref E9))
   (IZ:FnOk P w K mg base CX0 4 D2 Ls ["words"] (Ag_ K)) (GO:Fun K "in_order" "in_order" Da D2 Ls) (I0:Binds K Ls ["words"] []) (Ja:mg "in_order"=some (.ref D2))
  : FnOk P w K mg base CX0 5 f fd ["base","more","ends"] (Xt K):=by
 refine F.ok Dn (fun vs H Q E h=>?_) (fun aq A outer s H vs Q E hr h=>?_)
 ·obtain⟨h,e,L,m,marks,aa,E,rfl,_⟩:=h;rfl
 ·obtain⟨h,e,L,m,marks,aa,E,rfl,hh,wf,hm,bT,hE,hEl,ar,hT,k⟩:=h
  have hl:=AC
  have b8:=wf.l1
  have b9:=wf.l6
  have aN:=wf.n40
  refine⟨_,(Ad (Aj (i:=3) Dn.nd (Cn Ae))
   (Ad (Cb jI_ rfl (BW (Al Lp (hr.mono (by decide)) rfl Lr Gf.kp Lq .nil AZ (Aa (pvD 0) Ae))) (At (i:=4) Dn.nd rfl (Or.inl rfl))
   (Ag (Cb jI_ rfl (BW (Al IW (hr.mono (by decide)) rfl IY E8.kp IX .nil AZ (Aa (Ah (ixTD Ao) (pvD 0) Ac) (Aa (An (opD0 Bh) (pvD 1) Ac) Ae)))) (At (i:=5) Dn.nd rfl (Or.inl rfl))
   (Ad (B7 (i:=6) Dn.nd rfl (Or.inr rfl) (An GG (pvD 4) (pvD 5)))
   (Ag (BN (Fd jD_ PySem.F.slot_list_extend PySem.F.type_list_extend V2 (pvD 3) (Aa (BX rfl (BY rfl) (cp:=He) ⟨⟨rfl,rfl⟩,True.intro⟩ (BW (Ah (ixLD Bi) (pvD 2) (Al CJ (hr.mono (by decide)) rfl CL BJ.kp CK .nil AZ (Aa (pvD 0) (Aa (pvD 6) Ae))))) (fun _ _ _ _=>(At (i:=0) IN rfl (Or.inl rfl))) (fun _ _ _ _=>B8) (fun _ _ _ _=>(An (WR (K:=K) rfl) (pvD 1) (pvD 0)))) Ae))))))))
   (Ag (AO (Al IZ (hr.mono (by decide)) rfl Ja GO.kp I0 .nil AZ (Aa (pvD 3) Ae)))))),?_⟩
  walk_at "rd"
  refine⟨by omega,fun p hp=>?_⟩
  have s0:=Same.new (o:=.lst []) hp
  refine⟨h,L,marks,aa,rfl,hh.mono s0,wf,fun d top H1 s1 hdn hWS bf=>?_⟩
  obtain⟨xs,hd,bL,hxs⟩:=hWS
  have s01:=s0.trans s1
  have bo:=s1 _ _ (Ab (H:=H) (a:=p) (o:=.lst []))
  have jF:d≠p:=(A0 hdn).2
  refine⟨d,rfl,⟨_,SqL.of hd⟩,?_⟩
  have hmL:(Fs L m).length<=341:=by
   rw[ja_,qX_];omega
  have hone:∀(r:Nat) (v:α2),r<marks.length->isW L (wayW aa r++v)=true->(oneW aa E r v).length<=40:=fun r v hr hv=>by
   have h1:=wf.walk hv (wayW aa r++v).length
   rw[jU_]at h1
   unfold oneW
   rw[ja_]
   exact (hEl _ (by omega)).1
  have hway:∀r,r<marks.length->∃t,xs[r]?=some (.ref t)/\H1 t=some (.tup ((wayW aa r).map V.int))/\isW L (wayW aa r)=true/\(wayW aa r).length<=40:=fun r hr=>by
   rcases hxs r hr with ⟨w,t,a,b,c⟩|⟨a,_⟩
   ·rw[Sn bf.nod a]
    obtain⟨j,hj⟩:=jK_.mp a
    have h1:=bf.sh j _ hj
    have h2:=(jb_.mp hj).1
    have h3:=bf.len
    exact⟨t,b,c,(bf.wd _ a).1,by dsimp only at h1;omega⟩
   ·exact absurd (ar r hr) a
  have lB:∀v∈Fs L m,isW L v=true:=fun v hv=>by
   obtain⟨k',_,rfl⟩:=jv_.mp hv
   exact ER (show 0<L by omega) k'
  have happ:∀r,r<marks.length->∀v,isW L v=true->isW L (wayW aa r++v)=true:=fun r hr v hv=>by
   obtain⟨_,_,_,kD,_⟩:=hway r hr
   rw[AD]at kD hv ⊢
   intro x hx
   rcases jz_.mp hx with hx|hx
   ·exact kD x hx
   ·exact hv x hx
  have hb1:∀r,r<marks.length->∀j,(((Fs L m).take j).flatMap (oneW aa E r)).length<=13640:=fun r hr j=>by
   have h1:=Iq (f:=oneW aa E r) (c:=40) ((Fs L m).take j) (fun v hv=>hone r v hr (happ r hr v (lB v (xg_ hv))))
   have h2:((Fs L m).take j).length<=341:=qm_ (by rw[jB_];omega) hmL
   omega
  have dX:∀i,i<=marks.length->((List.range i).flatMap fun r=>(Fs L m).flatMap (oneW aa E r)).length<=545600:=fun i hi=>by
   have h1:=Iq (f:=fun r=>(Fs L m).flatMap (oneW aa E r)) (c:=13640) (List.range i) (fun r hr=>by
    have:=hb1 r (by have:=jP_.mp hr;omega) (Fs L m).length
    rw[jU_]at this
    exact this)
   rw[qX_]at h1
   have h2:i*13640<=40*13640:=Nat.mul_le_mul_right _ (by omega)
   omega
  obtain⟨Pv,ai⟩:∃Pv:Nat->St->Hp->Prop,∀i ae H',Pv i ae H'↔(∃(ys:List V) (o4 o5 o6:Option V),Same H H'/\TK H1 H'/\H' d=some (.lst xs)/\H' p=some (.lst ys)/\AV K H' ys ((List.range i).flatMap fun r=>(Fs L m).flatMap (oneW aa E r))/\ae=[some (.ref h),some (.int m),some (.ref e),some (.ref p),o4,o5,o6]):=⟨_,fun _ _ _=>ql_⟩
  refine forL (xs:=xs) Pv ((ai _ _ _).mpr ⟨[],none,none,none,s01,TK.refl _,hd,bo,AV.nil,rfl⟩) (fun i ae H' _ h'=>by obtain⟨_,_,_,_,_,_,q,_⟩:=(ai _ _ _).mp h';exact SqL.of q) (fun i x af H2 hx h2=>?_) (fun af H2 h2=>?_)
  ·obtain⟨ys,o4,o5,o6,s2,nE,hd2,aP,iK,rfl⟩:=(ai _ _ _).mp h2
   have hi:i<marks.length:=by rw[<-bL];exact (jb_.mp hx).1
   obtain⟨t,fP,ht,kD,cq⟩:=hway i hi
   rw[hx]at fP
   cases fP
   walk_at "rd"
   obtain⟨mm,wv,q1,q2,q3⟩:=id hh
   refine⟨_,s2.seqT q1,_,rfl,L,m+1,by rw[Int.natCast_add];rfl,b8,b9,by omega,by show many L (m+2)<=4000;omega,fun pm zs H3 s3 hpmn bu hWm=>⟨pm,rfl,⟨_,SqL.of bu⟩,?_⟩⟩
   have hWm':AV K H3 zs (Fs L m):=hWm
   have hppm:pm≠p:=fun z=>by rw[z,aP]at hpmn;cases hpmn
   have hpH:H p=none:=hp
   obtain⟨Pw,bI⟩:∃Pv:Nat->St->Hp->Prop,∀j ae H',Pv j ae H'↔(∃(gu:List V) (o5 o6:Option V),Same H H'/\TK H3 H'/\H' d=some (.lst xs)/\H' pm=some (.lst zs)/\H' p=some (.lst gu)/\AV K H' gu (((List.range i).flatMap fun r=>(Fs L m).flatMap (oneW aa E r))++((Fs L m).take j).flatMap (oneW aa E i))/\ae=[some (.ref h),some (.int m),some (.ref e),some (.ref p),some (.ref t),o5,o6]):=⟨_,fun _ _ _=>ql_⟩
   refine forL (xs:=zs) Pw ((bI _ _ _).mpr ⟨ys,o5,o6,s2.trans s3,TK.refl _,s3 _ _ hd2,bu,s3 _ _ aP,by rw[zT_,List.flatMap_nil,qj_];exact iK.mono (TK.of s3),rfl⟩) (fun j ae H' _ h'=>by obtain⟨_,_,_,_,_,_,q,_⟩:=(bI _ _ _).mp h';exact SqL.of q) (fun j y bg H4 hy h4=>?_) (fun bg H4 h4=>?_)
   ·obtain⟨gu,o5,o6,s4,kF,nF,hpm4,dC,fO,rfl⟩:=(bI _ _ _).mp h4
    obtain⟨u,v,hvj,rfl,hu⟩:=hWm'.at hy
    have hvm:isW L v=true/\v.length<=4:=by
     obtain⟨k',cw,rfl⟩:=jv_.mp (jd_ hvj)
     have hv:=ER (show 0<L by omega) k'
     refine⟨hv,?_⟩
     have h1:=(GH (show 0<L by omega) hv (m+1)).mpr (by
      rw[F1]
      have:=jP_.mp cw
      show (k':Int)<many L (m+2)
      omega)
     omega
    have ht4:=kF _ _ (TK.of s3 _ _ (nE _ _ ht))
    have hu4:=kF _ _ hu
    walk_at "rd"
    refine Hd.ofS ht4 hu4 (by simp;omega) fun q H5 s5 hq=>?_
    have kG:isW L (wayW aa i++v)=true:=by
     rw[AD]at kD ⊢
     intro x hx
     rcases jz_.mp hx with hx|hx
     ·exact kD x hx
     ·exact AD.mp hvm.1 x hx
    have fJ:H5 q=some (.tup ((wayW aa i++v).map V.int)):=by rw[hq,jT_]
    walk_at "rd"
    have bR:=s5 _ _ dC
    refine⟨.inl ⟨rfl,_,SqL.of bR⟩,h,q,L,marks,aa,wayW aa i++v,rfl,hh.mono (s4.trans s5),wf,SqT.of fJ,by rw[jo_];omega,fun _ H6 s6=>?_,fun hf=>by rw[kG]at hf;cases hf⟩
    have eE:=wf.walk kG (wayW aa i++v).length
    rw[jU_]at eE
    obtain⟨es,jy,mD⟩:=id hE
    obtain⟨pe,ye,nG,hye,hWe⟩:=mD (AK aa (wayW aa i++v)).toNat (by omega)
    have hEr:=hEl (AK aa (wayW aa i++v)).toNat (by omega)
    have nH:=(s4.trans s5).trans s6
    have hye6:=nH _ _ hye
    have hWe6:=hWe.mono (TK.of nH)
    have ke:=hWe.1
    refine⟨es,_,rfl,SqL.of (nH _ _ jy),_,D4 (by omega) nG,pe,rfl,⟨_,SqL.of hye6⟩,?_⟩
    refine P9 (xs:=ye) (fun j' dh ae H'=>Same H6 H'/\AV K H' dh (((E (AK aa (wayW aa i++v)).toNat).take j').map ((wayW aa i++v) ++ ·))/\∃o,ae=[o,some (.ref q)]) ⟨Same.refl _,AV.nil,none,rfl⟩ (by omega) (fun j' dh ae H' bK h'=>⟨SqL.of (h'.1 _ _ hye6),by have:=h'.2.1.1;rw[ja_,jB_]at this;omega⟩) (fun j' x' dh ae H' dO h'=>?_) (fun dh ae H' h' D hD=>?_)
    ·obtain⟨s7,eF,o,rfl⟩:=h'
     obtain⟨u',v',kH,rfl,gK⟩:=hWe6.at dO
     have nI:=hEr.2 v' (jd_ kH)
     walk_at "rd"
     refine Hd.ofS (s7 _ _ (s6 _ _ fJ)) (s7 _ _ gK) (by simp;omega) fun q2 H8 s8 dR=>⟨s7.trans s8,?_,_,rfl⟩
     rw[jV_,kH,qN_,jT_]
     exact (eF.mono (TK.of s8)).snoc (by rw[dR];simp)
    ·obtain⟨s7,eF,o,_⟩:=h'
     rw[ke,jU_]at eF
     have nJ:upd H' D (.lst dh) p=some (.lst gu):=by
      have:=s7 _ _ (s6 _ _ bR)
      rw[Ai (AA this hD)];exact this
     have s7D:Same H6 (upd H' D (.lst dh)):=s7.newT hD
     have lx:upd H' D (.lst dh) D=some (.lst dh):=Ab
     have jI:AV K (upd H' D (.lst dh)) dh _:=eF.mono (TK.new hD)
     generalize upd H' D (.lst dh)=H9 at nJ s7D lx jI ⊢
     have kI:=(s5.trans s6).trans s7D
     have s49:=s4.trans kI
     have br:=fO.1
     have bX:=jI.1
     rw[jo_]at br
     rw[ja_]at bX
     have hb3:=hb1 i hi j
     have hb4:=dX i (by omega)
     have kT:TK H9 (upd H9 p (.lst (gu++dh))):=TK.lst nJ
     refine⟨D,rfl,gu,nJ,dh,lx,by omega,(bI _ _ _).mpr ⟨gu++dh,_,_,s49.over hpH,(kF.trans (TK.of kI)).trans kT,by rw[Ai jF];exact kI _ _ nF,by rw[Ai hppm];exact kI _ _ hpm4,Ab,?_,rfl⟩⟩
     rw[jV_,hvj,qN_,List.flatMap_append,<-qi_]
     refine U3 ((fO.mono (TK.of kI)).mono kT) ?_
     have e1:[v].flatMap (oneW aa E i)=(E (AK aa (wayW aa i++v)).toNat).map ((wayW aa i++v) ++ ·):=by simp[oneW]
     rw[e1]
     exact jI.mono kT
   ·obtain⟨gu,o5,o6,s4,kF,nF,hpm4,dC,fO,rfl⟩:=(bI _ _ _).mp h4
    refine (ai _ _ _).mpr ⟨gu,_,_,_,s4,(nE.trans (TK.of s3)).trans kF,nF,dC,?_,rfl⟩
    have:(Fs L m).take zs.length=Fs L m:=jO_ (by rw[hWm'.1];exact jg_ _)
    rw[this]at fO
    rw[xU_,List.flatMap_append]
    simpa using fO
  ·obtain⟨ys,o4,o5,o6,s2,nE,hd2,aP,iK,rfl⟩:=(ai _ _ _).mp h2
   rw[bL]at iK
   walk_at "rd"
   refine⟨p,ys,_,rfl,SqL.of aP,iK,?_,hT.mono s2,fun D H3 os s3 hL3 gV hD cL bu hs=>?_⟩
   ·have:=dX marks.length (jg_ _)
    omega
   ·exact k D H3 os (fun b o hb e=>s3 b o hb (s2 b o e)) hL3 (Same.none s2 gV) hD cL bu hs
theorem Ah_      (h:WC L n b words c):∀(k:Nat) (w:α2),words[k]?=some w->w.length<=k:=by
 intro k
 induction k using Nat.strongRecOn with
 |ind k ih=>
  intro w hw
  by_cases hk:k=0
  ·subst hk
   rw[h.w0]at hw
   cases hw
   simp
  ·have ht:=h.tl k w hw (by omega)
   obtain⟨j,hj⟩:=jK_.mp ht
   have gL:j<k:=by
    have:=(jb_.mp hj).1
    rw[jB_]at this
    omega
   rw[xz_ gL]at hj
   have:=ih j gL _ hj
   rw[List.length_tail]at this
   omega
def Ir (L:Nat)(marks:α2)(aa:α1)(m:Nat):α1:=allW (sW L marks aa) (sM L marks aa).length (Fs (L:Int) m) fun _=>(wcOf (sM L marks aa).length L (bW (sM L marks aa) (sW L marks aa))).1
def T2 (K:α3):Sp:=fun vs H Q _=>∃(h:Addr) (L m:Nat) (marks:α2) (aa:α1),vs=[.ref h,.int m]/\BO K H h L marks aa/\Wf L marks aa/\m<=3/\many L (m+2)<=341/\LamH K H /\
 ∀D H' os,Dt (tabP K "in_order") H H'->LamH K H'->H D=none->H' D=some (.lst (S64.wv os))->WsT H' os->(os.map (·.2)).Perm ((Ir L marks aa m).foldl ins [])->S64.Srt os->Q (.ref D) H'
theorem YI   (F:Fun K "suite" "suite" Hu f fd)(T:Txt mg)
   (Lu:FnOk P w K mg base CX0 3 Fa NT ["house"] (Ae_ K)) (Gg:Fun K "tellers" "tellers" D7 Fa NT) (Lv:Binds K NT ["house"] []) (Lw:mg "tellers"=some (.ref Fa))
   (So:FnOk P w K mg base CX0 5 Jb T3 ["house"] (T0 K)) (Lx:Fun K "least" "least" Hs Jb T3) (Sq:Binds K T3 ["house"] []) (Sr:mg "least"=some (.ref Jb))
   (Gh:FnOk P w K mg base CX0 5 Dd Iu ["base","more","ends"] (Xt K)) (DI:Fun K "words_with" "words_with" Cw Dd Iu) (Gi:Binds K Iu ["base","more","ends"] []) (Gj:mg "words_with"=some (.ref Dd))
  : FnOk P w K mg base CX0 6 f fd ["house","more"] (T2 K):=by
 refine F.ok OF (fun vs H Q E h=>?_) (fun aq A outer s H vs Q E hr h=>?_)
 ·obtain⟨h,L,m,marks,aa,rfl,_⟩:=h;rfl
 ·obtain⟨h,L,m,marks,aa,rfl,hh,wf,hm,bT,hT,k⟩:=h
  have hl:=AC
  refine⟨_,(Ad (Aj (i:=2) OF.nd (Al So (hr.mono (by decide)) rfl Sr Lx.kp Sq .nil AZ (Aa (pvD 0) Ae)))
   (Ad (B7 (i:=3) OF.nd rfl (Or.inr rfl) (Al Lu (hr.mono (by decide)) rfl Lw Gg.kp Lv .nil AZ (Aa (pvD 2) Ae)))
   (Ag (AO (Al Gh (hr.mono (by decide)) rfl Gj DI.kp Gi .nil AZ (Aa (pvD 2) (Aa (pvD 1) (Aa (BX rfl (BY rfl) (cp:=QD) ⟨⟨rfl,rfl⟩,True.intro⟩ (FU (Ah (ixTD Ao) (pvD 2) Ac)) (fun _ _ _ _=>(At (i:=0) QE rfl (Or.inl rfl))) (fun _ _ _ _=>B8) (fun _ _ _ _=>(pvD 1))) Ae)))))))),?_⟩
  walk_at "rd"
  have bp:=sWf wf
  have cQ:=sCan wf
  have js:=bp.n40
  refine⟨h,L,marks,aa,rfl,hh,wf,fun ps H3 s3 eG=>?_⟩
  unfold Ir at k
  generalize sM L marks aa=ms at bp cQ eG js k
  generalize sW L marks aa=vs at bp cQ eG k
  obtain⟨sm,sv,r1,r2,r3⟩:=id eG
  refine⟨ps,L,ms,vs,rfl,eG,bp,fun pe xs H7 s7 hpeN nG hW fin=>?_⟩
  have s37:=s3.trans s7
  generalize cA:wcOf ms.length L (bW ms vs)=st at hW fin k
  have kG:st.1.length<=40:=by
   have h1:=fin.wc.le
   have h2:=NC st.2
   rw[fin.wc.len]at h2
   omega
  have cq:=Ah_ fin.wc
  walk_at "rd"
  refine⟨_,s7.seqT r1,_,rfl,sm,rfl,⟨_,s7.seqT r2⟩,?_⟩
  refine X4 (xs:=ms.map V.int) (fun i ys ae H'=>H'=H7/\ys=List.replicate i (V.ref pe)/\∃o,ae=[o,some (.ref pe)]) ⟨rfl,rfl,none,rfl⟩ (by rw[ja_];omega) (fun i ys ae H' hi h'=>?_) (fun i x ys ae H' hx h'=>?_) (fun ys ae H' h' D hD=>?_)
  ·obtain⟨rfl,rfl,_⟩:=h'
   exact⟨s7.seqT r2,by rw[qs_];exact jg_ _⟩
  ·obtain⟨rfl,rfl,o,rfl⟩:=h'
   walk_at "rd"
   refine⟨?_,_,rfl⟩
   exact (List.replicate_succ' ..).symm
  ·obtain⟨rfl,rfl,o,rfl⟩:=h'
   rw[ja_]
   have sD:=s37.newT hD (o:=.lst (List.replicate ms.length (V.ref pe)))
   have gW:=Same.new hD (o:=.lst (List.replicate ms.length (V.ref pe)))
   have lu:upd H' D (.lst (List.replicate ms.length (V.ref pe))) D=some (.lst (List.replicate ms.length (V.ref pe))):=Ab
   generalize upd H' D (.lst (List.replicate ms.length (V.ref pe)))=H8 at sD gW lu ⊢
   refine⟨ps,D,L,m,ms,vs,fun _=>st.1,rfl,eG.mono (s7.trans gW),bp,hm,bT,⟨_,lu,fun r hr=>⟨pe,xs,by rw[x7_,if_pos hr],gW _ _ nG,hW.mono (TK.of gW)⟩⟩,fun r hr=>⟨kG,fun w hw=>?_⟩,fun r hr=>?_,hT.mono sD,fun D' H9 os sT hL9 gV hD' cL bu hs=>?_⟩
   ·obtain⟨j,hj⟩:=jK_.mp hw
    have h1:=cq j w hj
    have h2:j<st.1.length:=(jb_.mp hj).1
    omega
   ·have h1:=cQ.order
    unfold rOf at h1
    rw[h1]
    exact jv_.mpr ⟨r,jP_.mpr hr,rfl⟩
   ·exact k D' H9 os (fun b o hb e=>sT b o hb (sD b o e)) hL9 (Same.none sD gV) hD' cL bu hs
def cell (ns:α2)(k:Nat):Int:=ns.getD k 0
def Jc (K:α3):Sp:=fun vs H Q _=>∃(a:Addr) (ns:α2) (k:Nat),vs=[.ref a,.int k]/\SqL K H a (ns.map V.int)/\Q (.int (cell ns k)) H
theorem Ly   (F:Fun K "_law_cell_at" "_law_cell_at" A2 f fd)(T:Txt mg)
  : FnOk P w K mg base CX0 1 f fd ["script","k"] (Jc K):=by
 refine F.ok Ld (fun vs H Q E h=>?_) (fun aq A outer s H vs Q E hr h=>?_)
 ·obtain⟨a,ns,k,rfl,_⟩:=h;rfl
 ·obtain⟨a,ns,k,rfl,hs,q⟩:=h
  refine⟨_,(Ad (Cq (ptT (Av (opD0 KO) (pvD 1) (As (lenD Ak) (by rfl) T.len jH_ (Aa (pvD 0) Ae)) (AS _)))
   (Ag (AO (Ah (ixLD Bi) (pvD 0) (pvD 1))))
   AU)
   (Ag (AO Ac))),?_⟩
  walk_at "rd"
  refine⟨_,.inl hs,?_⟩
  rw[ja_]
  refine ite2 (fun hk=>?_) (fun hk=>?_)
  ·have cw:k<ns.length:=by simpa using hk
   refine⟨_,hs,V.int (cell ns k),?_,q⟩
   refine FV ?_
   rw[je_]
   unfold cell
   rw[jh_]
   simp[cw]
  ·have cw:¬ k<ns.length:=by simpa using hk
   have:cell ns k=0:=by
    unfold cell
    rw[jh_,jR_ (by omega)];rfl
   rw[<-this]
   exact q
def GP:Sp:=fun vs H Q _=>∃num k m:Int,vs=[.int num,.int k,.int m]/\0<=k/\k<=1000000/\0<m/\∀x,0<=x->x<m->Q (.int x) H
theorem ON   (F:Fun K "_law_mixed" "_law_mixed" Bf f fd)(T:Txt mg)
  : FnOk P w K mg base CX0 1 f fd ["number","k","many"] (GP):=by
 refine F.ok Fp (fun vs H Q E h=>?_) (fun aq A outer s H vs Q E hr h=>?_)
 ·obtain⟨num,k,m,rfl,_⟩:=h;rfl
 ·obtain⟨num,k,m,rfl,cN,jt,hm,q⟩:=h
  refine⟨_,(Ad (Aj (i:=3) Fp.nd (An (opD A1) (An (opD0 Bh) (An (opD0 Bh) (An (opD0 Bh) (An (opD A1) (pvD 0) Ac) (An (opD HQ) (An (opD HQ) Ac (pvD 1)) (pvD 1))) (An (opD HQ) Ac (pvD 1))) Ac) Ac))
   (Ad (Aj (i:=3) Fp.nd (An (opD A1) (An (opD HQ) (pvD 3) Ac) Ac))
   (Ag (AO (An (opD A1) (An (opD A1) (An (opD HQ) (pvD 3) (pvD 3)) Ac) (pvD 2)))))),?_⟩
  walk_at "rd"
  refine⟨by decide,.inl ⟨by decide,by decide⟩,.inr ⟨by omega,by omega⟩,.inl ⟨by decide,by decide⟩,by decide,.inr ⟨by decide,by decide⟩,by decide,?_⟩
  generalize (num%2147483647+69621*k*k+40692*k+1)%2147483647*48271=z
  have m0:=j8_ z (show (2147483647:Int)≠0 by decide)
  have m1:=j0_ z (show (0:Int)<2147483647 by decide)
  exact⟨.inl ⟨by omega,by omega⟩,by decide,hm,q _ (j8_ _ (by omega)) (j0_ _ hm)⟩
def NU (K:α3):Sp:=fun vs H Q _=>∃(num:Int) (n:Nat),vs=[.int num,.int n]/\1<=n/\n<=40/\∀(t:Addr) (marks:α2) (H':Hp),Same H H'->SqT K H' t (marks.map V.int)->marks.length=n->(∀m∈marks,0<=m/\m<=1000000000)->Q (.ref t) H'
theorem JS   (F:Fun K "_law_marks_by" "_law_marks_by" Bt f fd)(T:Txt mg)
   (AF:FnOk P w K mg base CX0 1 AL AT ["number","k","many"] (GP)) (Ax:Fun K "_law_mixed" "_law_mixed" Bf AL AT) (AG:Binds K AT ["number","k","many"] []) (AH:mg "_law_mixed"=some (.ref AL))
  : FnOk P w K mg base CX0 2 f fd ["number","rooms"] (NU K):=by
 refine F.ok AY (fun vs H Q E h=>?_) (fun aq A outer s H vs Q E hr h=>?_)
 ·obtain⟨num,n,rfl,_⟩:=h;rfl
 ·obtain⟨num,n,rfl,bQ,aN,k⟩:=h
  have hl:=AC
  refine⟨_,(Ad (Aj (i:=2) AY.nd (An (opD A1) (An (opD0 Bh) (pvD 0) Ac) Ac))
   (Ad (Aj (i:=3) AY.nd (An (opD A1) (An (opD Cs) (pvD 0) Ac) Ac))
   (Ad (Aj (i:=4) AY.nd (Cn Ae))
   (Ad (Cb jI_ rfl (Bc rfl T.range (Aa (pvD 1) Ae)) (At (i:=5) AY.nd rfl (Or.inl rfl))
   (Ad (Aj (i:=6) AY.nd (pvD 3))
   (CQ (Cq (PW.pt (Jp (ptT (Av (opE Dh) (An (opD A1) (pvD 2) Ac) Ac (AS _))) (FT (ptT (Av (opE Dh) (Al AF (hr.mono (by decide)) rfl AH Ax.kp AG .nil AZ (Aa (pvD 0) (Aa (pvD 5) (Aa Ac Ae)))) Ac (AS _))))))
   (Ag (Aj (i:=6) AY.nd (An (opD0 Ep) Ac (pvD 3))))
   AU)
   (CQ (Cq (ptT (Av (opE Dh) (pvD 2) Ac (AS _)))
   (Ag (Aj (i:=6) AY.nd (Al AF (hr.mono (by decide)) rfl AH Ax.kp AG .nil AZ (Aa (pvD 0) (Aa (pvD 5) (Aa Ac Ae))))))
   AU)
   (CQ (Cq (PW.pt (Uh (PW.pt (Jp (ptT (Av (opE Dh) (pvD 2) Ac (AS _))) (FT (ptT (Av (opE Dh) (pvD 5) (An (opD A1) (An (opD Cs) (pvD 0) Ac) (pvD 1)) (AS _)))))) (S9 (PW.pt (Jp (ptT (Av (opE Dh) (pvD 2) Ac (AS _))) (FT (ptT (Av (opE Dh) (pvD 5) (An (opD0 Ep) (pvD 1) Ac) (AS _)))))))))
   (Ag (Aj (i:=6) AY.nd (An (opD A1) (An (opD0 Bh) (pvD 3) Ac) Ac)))
   AU)
   (CQ (Cq (PW.pt (Uh (ptT (Av (opE Dh) (pvD 2) Ac (AS _))) (S9 (ptT (Av (opE Dh) (pvD 2) Ac (AS _))))))
   (Ag (Aj (i:=6) AY.nd (Al AF (hr.mono (by decide)) rfl AH Ax.kp AG .nil AZ (Aa (pvD 0) (Aa (pvD 5) (Aa Ac Ae))))))
   AU)
   (Ag (BN (Fd jD_ jL_ jM_ Bd (pvD 4) (Aa (pvD 6) Ae))))))))))
   (Ag (AO (AM AE rfl T.tuple jA_ (Aa (pvD 4) Ae)))))))),?_⟩
  walk_at "rd"
  refine⟨by decide,⟨by decide,by decide⟩,by decide,by omega,fun p hp=>⟨by omega,by omega,?_⟩⟩
  rw[ji_]
  have gg:=j8_ (num / 8) (show (1000000001:Int)≠0 by decide)
  have lC:=j0_ (num / 8) (show (0:Int)<1000000001 by decide)
  generalize (num+1)%8=way
  generalize num / 8%1000000001=top at gg lC ⊢
  obtain⟨Pv,ai⟩:∃Pv:Nat->St->Hp->Prop,∀i af H2,Pv i af H2↔(∃(marks:α2) (o1 o2:Option V),Same H H2/\H2 p=some (.lst (marks.map V.int))/\marks.length=i/\(∀m∈marks,0<=m/\m<=1000000000)/\af=[some (.int num),some (.int n),some (.int way),some (.int top),some (.ref p),o1,o2]):=⟨_,fun _ _ _=>ql_⟩
  refine forR Pv ((ai _ _ _).mpr ⟨[],none,none,Same.new hp,by rw[Ab];rfl,rfl,(fun m hm=>by cases hm),rfl⟩) (fun i af H2 hi h2=>?_) (fun af H2 h2=>?_)
  ·obtain⟨marks,o1,o2,s2,aP,hlen,bx,rfl⟩:=(ai _ _ _).mp h2
   generalize hroom:(0:Int)+(i:Nat)=room
   have aI:0<=room:=by omega
   have di:room<=40:=by omega
   obtain⟨R,hR⟩:∃R:St->Hp->Prop,∀av H3,R av H3↔(H3=H2/\∃mark:Int,0<=mark/\mark<=1000000000/\av=[some (.int num),some (.int n),some (.int way),some (.int top),some (.ref p),some (.int room),some (.int mark)]):=⟨_,fun _ _=>ql_⟩
   walk_at "rd"
   refine⟨R,?_,fun av H3 h3=>⟨R,?_,fun bg H4 h4=>⟨R,?_,fun gi H5 h5=>⟨R,?_,fun cB H6 h6=>?_⟩⟩⟩⟩
   ·walk_at "rd"
    refine⟨by decide,iteB ((hR _ _).mpr ⟨rfl,top,gg,by omega,rfl⟩) (fun _ hB=>⟨num,room,2,rfl,aI,by omega,by decide,fun x _ _=>?_⟩)⟩
    walk_at "rd"
    exact ite2 (fun _=>(hR _ _).mpr ⟨rfl,_,by omega,by omega,rfl⟩) (fun _=>hB)
   ·obtain⟨rfl,mark,bZ,gQ,rfl⟩:=(hR _ _).mp h3
    walk_at "rd"
    refine ite2 (fun _=>⟨num,room,1000000001,rfl,aI,by omega,by decide,fun x cm bF=>?_⟩) (fun _=>h3)
    walk_at "rd"
    exact (hR _ _).mpr ⟨rfl,x,cm,by omega,rfl⟩
   ·obtain⟨rfl,mark,bZ,gQ,rfl⟩:=(hR _ _).mp h4
    walk_at "rd"
    have hA:R [some (.int num),some (.int n),some (.int way),some (.int top),some (.ref p),some (.int room),some (.int ((top+1)%1000000001))] H4:=(hR _ _).mpr ⟨rfl,_,j8_ _ (by decide),by have:=j0_ (top+1) (show (0:Int)<1000000001 by decide);omega,rfl⟩
    have hE:if way=5 then (if room=(n:Int)-1 then (0:Int)<1000000001/\R [some (.int num),some (.int n),some (.int way),some (.int top),some (.ref p),some (.int room),some (.int ((top+1)%1000000001))] H4 else R [some (.int num),some (.int n),some (.int way),some (.int top),some (.ref p),some (.int room),some (.int mark)] H4) else R [some (.int num),some (.int n),some (.int way),some (.int top),some (.ref p),some (.int room),some (.int mark)] H4:=
     ite2 (fun _=>ite2 (fun _=>⟨by decide,hA⟩) (fun _=>h4)) (fun _=>h4)
    exact ite2 (fun _=>⟨⟨by decide,by decide⟩,by omega,ite2 (fun _=>⟨by decide,hA⟩) (fun _=>hE)⟩) (fun _=>hE)
   ·obtain⟨rfl,mark,bZ,gQ,rfl⟩:=(hR _ _).mp h5
    walk_at "rd"
    exact ite2 (fun _=>⟨num,room,3,rfl,aI,by omega,by decide,fun x cm bF=>(hR _ _).mpr ⟨rfl,x,cm,by omega,rfl⟩⟩) (fun _=>ite2 (fun _=>⟨num,room,3,rfl,aI,by omega,by decide,fun x cm bF=>(hR _ _).mpr ⟨rfl,x,cm,by omega,rfl⟩⟩) (fun _=>h5))
   ·obtain⟨rfl,mark,bZ,gQ,rfl⟩:=(hR _ _).mp h6
    walk_at "rd"
    refine⟨.inl ⟨rfl,_,SqL.of aP⟩,_,aP,by rw[ja_];omega,(ai _ _ _).mpr ⟨marks++[mark],_,_,s2.over hp,by rw[Ab];simp,by simp[hlen],fun m hm=>?_,rfl⟩⟩
    rcases jz_.mp hm with hm|hm
    ·exact bx m hm
    ·rw[js_.mp hm];exact⟨bZ,gQ⟩
  ·obtain⟨marks,o1,o2,s2,aP,hlen,bx,rfl⟩:=(ai _ _ _).mp h2
   walk_at "rd"
   refine⟨_,.inl ⟨SqL.of aP,fun t ht=>?_⟩⟩
   exact k t marks _ (s2.newT ht) (SqT.of Ab) hlen bx
def QH (K:α3):Sp:=fun vs H Q _=>∃(a:Addr) (ns:α2) (L:Int) (n:Nat),vs=[.ref a,.int L,.int n]/\SqL K H a (ns.map V.int)/\1<=L/\L<=6/\1<=n/\n<=40/\∀(t:Addr) (aa:α1) (H':Hp),Same H H'->Rows K H' t aa->aa.length=n->(∀row∈aa,(row.length:Int)=L/\∀x∈row,0<=x/\x<(n:Int))->Q (.ref t) H'
theorem Lz   (F:Fun K "_law_ways_by" "_law_ways_by" BP f fd)(T:Txt mg)
   (Ap:FnOk P w K mg base CX0 1 Au AI ["script","k"] (Jc K)) (Am:Fun K "_law_cell_at" "_law_cell_at" A2 Au AI) (Aq:Binds K AI ["script","k"] []) (Ar:mg "_law_cell_at"=some (.ref Au))
   (AF:FnOk P w K mg base CX0 1 AL AT ["number","k","many"] (GP)) (Ax:Fun K "_law_mixed" "_law_mixed" Bf AL AT) (AG:Binds K AT ["number","k","many"] []) (AH:mg "_law_mixed"=some (.ref AL))
  : FnOk P w K mg base CX0 2 f fd ["script","letters","rooms"] (QH K):=by
 refine F.ok AQ (fun vs H Q E h=>?_) (fun aq A outer s H vs Q E hr h=>?_)
 ·obtain⟨a,ns,L,n,rfl,_⟩:=h;rfl
 ·obtain⟨a,ns,L,n,rfl,hs,b8,b9,bQ,aN,k⟩:=h
  have hl:=AC
  refine⟨_,(Ad (Aj (i:=3) AQ.nd (Al Ap (hr.mono (by decide)) rfl Ar Am.kp Aq .nil AZ (Aa (pvD 0) (Aa Ac Ae))))
   (Ad (Aj (i:=4) AQ.nd (Cn Ae))
   (Ad (Cb jI_ rfl (Bc rfl T.range (Aa (pvD 2) Ae)) (At (i:=5) AQ.nd rfl (Or.inl rfl))
   (Ad (Aj (i:=6) AQ.nd (Cn Ae))
   (Ad (Cb jI_ rfl (Bc rfl T.range (Aa (pvD 1) Ae)) (At (i:=7) AQ.nd rfl (Or.inl rfl))
   (Ad (Aj (i:=8) AQ.nd (An (opD0 Bh) (An (opD0 Bh) Ac (An (opD HQ) (pvD 5) (pvD 1))) (pvD 7)))
   (Ad (Aj (i:=9) AQ.nd (Al AF (hr.mono (by decide)) rfl AH Ax.kp AG .nil AZ (Aa (pvD 3) (Aa (pvD 8) (Aa (pvD 2) Ae)))))
   (CQ (Cq (ptT (Av (opD0 KO) (pvD 8) (As (lenD Ak) (by rfl) T.len jH_ (Aa (pvD 0) Ae)) (AS _)))
   (Ag (Aj (i:=9) AQ.nd (An (opD A1) (Ah (ixLD Bi) (pvD 0) (pvD 8)) (pvD 2))))
   AU)
   (CQ (Cq (PW.pt (Jp (ptT (Av (opE Dh) (An (opD A1) (pvD 3) Ac) Ac (AS _))) (FT (ptT (Av (opE Dh) (pvD 7) (An (opD A1) (An (opD Cs) (pvD 3) Ac) (pvD 1)) (AS _))))))
   (Ag (Aj (i:=9) AQ.nd (An (opD A1) (An (opD0 Bh) (pvD 5) Ac) (pvD 2))))
   AU)
   (CQ (Cq (ptT (Av (opE Dh) (An (opD A1) (pvD 3) Ac) Ac (AS _)))
   (Ag (Aj (i:=9) AQ.nd (pvD 5)))
   AU)
   (CQ (Cq (PW.pt (Jp (ptT (Av (opE Dh) (An (opD A1) (pvD 3) Ac) Ac (AS _))) (FT (ptT (Av (opE Dh) (pvD 7) (An (opD A1) (An (opD Cs) (pvD 3) Ac) (pvD 1)) (AS _))))))
   (Ag (Aj (i:=9) AQ.nd (As (VO rfl) rfl T.min PyProof.Rows.boot_min (Aa (An (opD0 Bh) (pvD 5) Ac) (Aa (An (opD0 Ep) (pvD 2) Ac) Ae)))))
   AU)
   (Ag (BN (Fd jD_ jL_ jM_ Bd (pvD 6) (Aa (pvD 9) Ae)))))))))))
   (Ag (BN (Fd jD_ jL_ jM_ Bd (pvD 4) (Aa (AM AE rfl T.tuple jA_ (Aa (pvD 6) Ae)) Ae)))))))
   (Ag (AO (AM AE rfl T.tuple jA_ (Aa (pvD 4) Ae))))))),?_⟩
  walk_at "rd"
  refine⟨a,ns,3,rfl,hs,?_⟩
  walk_at "rd"
  generalize cell ns 3=shape
  refine⟨by omega,fun pw aU=>⟨by omega,by omega,?_⟩⟩
  rw[ji_]
  obtain⟨Pv,ai⟩:∃Pv:Nat->St->Hp->Prop,∀i af H2,Pv i af H2↔(∃(aa:α1) (o1 o2 o3 o4 o5:Option V),Same H H2/\DL K H2 pw aa/\aa.length=i/\(∀row∈aa,(row.length:Int)=L/\∀x∈row,0<=x/\x<(n:Int))/\af=[some (.ref a),some (.int L),some (.int n),some (.int shape),some (.ref pw),o1,o2,o3,o4,o5]):=⟨_,fun _ _ _=>ql_⟩
  refine forR Pv ((ai _ _ _).mpr ⟨[],none,none,none,none,none,Same.new aU,DL.nil Ab,rfl,(fun m hm=>by cases hm),rfl⟩) (fun i af H2 hi h2=>?_) (fun af H2 h2=>?_)
  ·obtain⟨aa,o1,o2,o3,o4,o5,s2,da,hlen,bx,rfl⟩:=(ai _ _ _).mp h2
   generalize hroom:(0:Int)+(i:Nat)=room
   have aI:0<=room:=by omega
   have di:room<n:=by omega
   walk_at "rd"
   refine⟨by omega,fun pr eI=>⟨by omega,by omega,?_⟩⟩
   have i4:H pr=none:=s2.free eI
   have sA:=s2.newT eI (o:=.lst [])
   have hwA:=da.mono (Same.new eI (o:=.lst []))
   have hrA:upd H2 pr (.lst []) pr=some (.lst (([]:α2).map V.int)):=Ab
   have ao:pw≠pr:=by
    obtain⟨ts,e,_⟩:=da
    exact AA e eI
   generalize upd H2 pr (.lst [])=HA at sA hwA hrA ⊢
   obtain⟨Pr,gv⟩:∃Pv:Nat->St->Hp->Prop,∀j av H3,Pv j av H3↔(∃(row:α2) (o3 o4 o5:Option V),Same H H3/\DL K H3 pw aa/\H3 pr=some (.lst (row.map V.int))/\row.length=j/\(∀x∈row,0<=x/\x<(n:Int))/\av=[some (.ref a),some (.int L),some (.int n),some (.int shape),some (.ref pw),some (.int room),some (.ref pr),o3,o4,o5]):=⟨_,fun _ _ _=>ql_⟩
   refine forR Pr ((gv _ _ _).mpr ⟨[],o3,o4,o5,sA,hwA,hrA,rfl,(fun m hm=>by cases hm),rfl⟩) (fun j av H3 hj h3=>?_) (fun av H3 h3=>?_)
   ·obtain⟨row,o3,o4,o5,s3,cI,cP,cO,bM,rfl⟩:=(gv _ _ _).mp h3
    generalize hlet:(0:Int)+(j:Nat)=letter
    walk_at "rd"
    have cN:0<=room*L:=zn_ aI (by omega)
    have jt:room*L<=40*6:=Int.mul_le_mul (by omega) (by omega) (by omega) (by omega)
    refine⟨.inl ⟨by omega,by omega⟩,?_⟩
    generalize mJ:6+room*L+letter=kk
    refine⟨shape,kk,n,rfl,by omega,by omega,by omega,fun g0 hg00 hg01=>?_⟩
    obtain⟨R,hR⟩:∃R:St->Hp->Prop,∀bg H4,R bg H4↔(H4=H3/\∃g:Int,0<=g/\g<(n:Int)/\bg=[some (.ref a),some (.int L),some (.int n),some (.int shape),some (.ref pw),some (.int room),some (.ref pr),some (.int letter),some (.int kk),some (.int g)]):=⟨_,fun _ _=>ql_⟩
    refine⟨R,?_,fun bg H4 h4=>⟨R,?_,fun gi H5 h5=>⟨R,?_,fun cB H6 h6=>⟨R,?_,fun cn H7 h7=>?_⟩⟩⟩⟩
    ·walk_at "rd"
     refine⟨_,.inl (s3.seq hs),?_⟩
     rw[ja_]
     refine ite2 (fun ah=>?_) (fun _=>(hR _ _).mpr ⟨rfl,g0,hg00,hg01,rfl⟩)
     have cw:kk.toNat<ns.length:=by omega
     refine⟨_,s3.seq hs,_,Bs (by omega) (v:=ns[kk.toNat]) (by simp[cw]),?_⟩
     walk_at "rd"
     exact⟨by omega,(hR _ _).mpr ⟨rfl,_,j8_ _ (by omega),j0_ _ (by omega),rfl⟩⟩
    ·obtain⟨rfl,g,lD,lE,rfl⟩:=(hR _ _).mp h4
     walk_at "rd"
     exact⟨by decide,ite2 (fun _=>⟨⟨by decide,by decide⟩,by omega,ite2 (fun _=>⟨by omega,(hR _ _).mpr ⟨rfl,_,j8_ _ (by omega),j0_ _ (by omega),rfl⟩⟩) (fun _=>h4)⟩) (fun _=>h4)⟩
    ·obtain⟨rfl,g,lD,lE,rfl⟩:=(hR _ _).mp h5
     walk_at "rd"
     exact⟨by decide,ite2 (fun _=>(hR _ _).mpr ⟨rfl,room,aI,di,rfl⟩) (fun _=>h5)⟩
    ·obtain⟨rfl,g,lD,lE,rfl⟩:=(hR _ _).mp h6
     walk_at "rd"
     exact⟨by decide,ite2 (fun _=>⟨⟨by decide,by decide⟩,by omega,ite2 (fun _=>(hR _ _).mpr ⟨rfl,_,by split<;>omega,by split<;>omega,rfl⟩) (fun _=>h6)⟩) (fun _=>h6)⟩
    ·obtain⟨rfl,g,lD,lE,rfl⟩:=(hR _ _).mp h7
     walk_at "rd"
     refine⟨.inl ⟨rfl,_,SqL.of cP⟩,_,cP,by rw[ja_];omega,(gv _ _ _).mpr ⟨row++[g],_,_,_,s3.over i4,cI.off cP ao,by rw[Ab];simp,by simp[cO],fun x hx=>?_,rfl⟩⟩
     rcases jz_.mp hx with hx|hx
     ·exact bM x hx
     ·rw[js_.mp hx];exact⟨lD,lE⟩
   ·obtain⟨row,o3,o4,o5,s3,cI,cP,cO,bM,rfl⟩:=(gv _ _ _).mp h3
    walk_at "rd"
    obtain⟨ts,e0,_⟩:=id cI
    refine⟨.inl ⟨rfl,_,SqL.of e0⟩,_,.inl ⟨SqL.of cP,fun t ht=>?_⟩⟩
    obtain⟨xs,e1,e2,cg⟩:=(cI.mono (Same.new ht (o:=.tup (row.map V.int)))).push (w:=row) (SqT.of Ab)
    refine⟨xs,e1,by omega,(ai _ _ _).mpr ⟨aa++[row],_,_,_,_,_,(s3.newT ht).over aU,cg,by simp[hlen],fun r hr=>?_,rfl⟩⟩
    rcases jz_.mp hr with hr|hr
    ·exact bx r hr
    ·rw[js_.mp hr];exact⟨by omega,bM⟩
  ·obtain⟨aa,o1,o2,o3,o4,o5,s2,da,hlen,bx,rfl⟩:=(ai _ _ _).mp h2
   walk_at "rd"
   obtain⟨xs,e1,bH⟩:=da.rows
   refine⟨_,.inl ⟨SqL.of e1,fun t ht=>?_⟩⟩
   exact k t aa _ (s2.newT ht) (bH t ht) hlen bx
def Bs_ (L:Int)(m1:α2)(w1:α1)(m2:α2)(w2:α1):Prop:=∀w,isW L w=true->mkR m1 (AK w1 w)=mkR m2 (AK w2 w)
def OO (K:α3):Sp:=fun vs H Q _=>∃(h:Addr) (L:Int) (marks:α2) (aa:α1) (num:Int) (n:Nat),vs=[.ref h,.int num,.int n]/\BO K H h L marks aa/\Wf L marks aa/\n<=40/\∀h' aj ay H',Same H H'->BO K H' h' L aj ay->Wf L aj ay->aj.length=max marks.length n->Q (.ref h') H'
theorem OP   (F:Fun K "_law_blown" "_law_blown" B9 f fd)(T:Txt mg)
   (AF:FnOk P w K mg base CX0 1 AL AT ["number","k","many"] (GP)) (Ax:Fun K "_law_mixed" "_law_mixed" Bf AL AT) (AG:Binds K AT ["number","k","many"] []) (AH:mg "_law_mixed"=some (.ref AL))
  : FnOk P w K mg base CX0 2 f fd ["house","number","rooms"] (OO K):=by
 refine F.ok Bl (fun vs H Q E h=>?_) (fun aq A outer s H vs Q E hr h=>?_)
 ·obtain⟨h,L,marks,aa,num,n,rfl,_⟩:=h;rfl
 ·obtain⟨h,L,marks,aa,num,n,rfl,hh,wf,aN,k⟩:=h
  have hl:=AC
  have b8:=wf.l1
  have b9:=wf.l6
  have gM:=wf.n1
  have hs40:=wf.n40
  refine⟨_,(Ad (Aj (i:=3) Bl.nd (As (lenD Ak) (by rfl) T.len jH_ (Aa (Ah (ixTD Ao) (pvD 0) Ac) Ae)))
   (Ad (B7 (i:=4) Bl.nd rfl (Or.inr rfl) (Uu rfl rfl T.list rfl T.range (pvD 3)))
   (Ad (GD jI_ (ptT (Av (opD0 KO) (As (lenD Ak) (by rfl) T.len jH_ (Aa (pvD 4) Ae)) (pvD 2) (AS _)))
   (Ag (BN (Fd jD_ jL_ jM_ Bd (pvD 4) (Aa (Al AF (hr.mono (by decide)) rfl AH Ax.kp AG .nil AZ (Aa (pvD 1) (Aa (As (lenD Ak) (by rfl) T.len jH_ (Aa (pvD 4) Ae)) (Aa (pvD 3) Ae)))) Ae)))))
   (Ad (Aj (i:=5) Bl.nd (Cn Ae))
   (Ad (Cb jI_ rfl (Bc rfl T.range (Aa (As (lenD Ak) (by rfl) T.len jH_ (Aa (pvD 4) Ae)) Ae)) (At (i:=6) Bl.nd rfl (Or.inl rfl))
   (Ad (Aj (i:=7) Bl.nd (Cn Ae))
   (Ad (Cb jI_ rfl (Bc rfl T.range (Aa (Ah (ixTD Ao) (pvD 0) Ac) Ae)) (At (i:=8) Bl.nd rfl (Or.inl rfl))
   (Ad (B7 (i:=9) Bl.nd rfl (Or.inr rfl) (Ah (ixTD Ao) (Ah (ixTD Ao) (Ah (ixTD Ao) (pvD 0) Ac) (Ah (ixLD Bi) (pvD 4) (pvD 6))) (pvD 8)))
   (Ad (Hk (i:=10) Bl.nd rfl rfl rfl (BY rfl) (cp:=Hf) ⟨⟨rfl,rfl⟩,⟨⟨rfl,rfl⟩,True.intro⟩⟩ (Bc rfl T.range (Aa (As (lenD Ak) (by rfl) T.len jH_ (Aa (pvD 4) Ae)) Ae)) (fun _ _ _ _=>(At (i:=0) IO rfl (Or.inl rfl))) (fun _ _ _ _=>(Zt (ptT (Av (opE Dh) (Ah (ixLD (Co (K:=K) rfl)) (pvD 2) (pvD 0)) (pvD 1) (AS _))))) (fun _ _ _ _=>(pvD 0)))
   (Ag (BN (Fd jD_ jL_ jM_ Bd (pvD 7) (Aa (Ah (ixLD Bi) (pvD 10) (Al AF (hr.mono (by decide)) rfl AH Ax.kp AG .nil AZ (Aa (An (opD0 Bh) (pvD 1) Ac) (Aa (An (opD0 Bh) (An (opD HQ) (pvD 6) (Ah (ixTD Ao) (pvD 0) Ac)) (pvD 8)) (Aa (As (lenD Ak) (by rfl) T.len jH_ (Aa (pvD 10) Ae)) Ae))))) Ae)))))))
   (Ag (BN (Fd jD_ jL_ jM_ Bd (pvD 5) (Aa (AM AE rfl T.tuple jA_ (Aa (pvD 7) Ae)) Ae)))))))
   (Ag (AO (C7 (Aa (Ah (ixTD Ao) (pvD 0) Ac) (Aa (AM AE rfl T.tuple jA_ (Aa (BX rfl (BY rfl) (cp:=Hg) ⟨⟨rfl,rfl⟩,True.intro⟩ (BW (pvD 4)) (fun _ _ _ _=>(At (i:=0) IP rfl (Or.inl rfl))) (fun _ _ _ _=>B8) (fun _ _ _ _=>(Ah (ixTD (Dj (K:=K) rfl)) (Ah (ixTD (Dj (K:=K) rfl)) (pvD 1) Ac) (pvD 0)))) Ae)) (Aa (AM AE rfl T.tuple jA_ (Aa (pvD 5) Ae)) Ae))))))))))),?_⟩
  walk_at "rd"
  obtain⟨tm,tw,q1,q2,q3⟩:=id hh
  refine⟨_,q1,_,rfl,?_⟩
  walk_at "rd"
  refine⟨_,.inr q2,?_⟩
  rw[ja_]
  refine⟨by omega,by omega,fun pf fk=>?_⟩
  rw[ji_]
  obtain⟨Pw,bI⟩:∃Pv:Nat->St->Hp->Prop,∀m af H2,Pv m af H2↔(∃fold:α2,m=41-fold.length/\Same H H2/\H2 pf=some (.lst (fold.map V.int))/\marks.length<=fold.length/\fold.length<=40/\fold.length<=max marks.length n/\(∀x∈fold,0<=x/\x<(marks.length:Int))/\(∀g:Nat,g<marks.length->fold[g]?=some (g:Int))/\af=[some (.ref h),some (.int num),some (.int n),some (.int marks.length),some (.ref pf),none,none,none,none,none,none]):=⟨_,fun _ _ _=>ql_⟩
  refine Ny Pw ⟨_,(bI _ _ _).mpr ⟨ups marks.length,rfl,Same.new fk,by rw[Ab],by simp[ups],by simp[ups];omega,by simp[ups];omega,fun x hx=>?_,fun g hg=>?_,rfl⟩⟩ ?_
  ·obtain⟨i,hi,rfl⟩:=jv_.mp hx
   have:=jP_.mp hi
   omega
  ·unfold ups
   rw[je_,qG_ hg];rfl
  intro m af H2 aU
  obtain⟨fold,rfl,s2,i5,jA,hf40,hfm,iE,hfg,rfl⟩:=(bI _ _ _).mp aU
  walk_at "rd"
  refine⟨_,.inl (SqL.of i5),?_⟩
  rw[ja_]
  refine ite2 (fun ah=>?_) (fun aV=>?_)
  ·refine⟨Pw (41-(fold.length+1)),fun ae H' h=>⟨_,by omega,h⟩,?_⟩
   refine⟨.inl ⟨rfl,_,SqL.of i5⟩,_,.inl (SqL.of i5),?_⟩
   rw[ja_]
   refine⟨num,_,marks.length,rfl,by omega,by omega,by omega,fun x cm bF=>?_⟩
   walk_at "rd"
   refine⟨_,i5,by rw[ja_];omega,(bI _ _ _).mpr ⟨fold++[x],by simp,s2.over fk,by rw[Ab];simp,by simp;omega,by simp;omega,by simp;omega,fun y hy=>?_,fun g hg=>?_,rfl⟩⟩
   ·rcases jz_.mp hy with hy|hy
    ·exact iE y hy
    ·rw[js_.mp hy];exact⟨cm,bF⟩
   ·rw[jj_ (by omega)];exact hfg g hg
  ·clear aU bI Pw
   refine⟨by omega,fun pw aU=>⟨_,.inl (SqL.of (Same.new aU _ _ i5)),?_⟩⟩
   rw[ja_]
   refine⟨by omega,by omega,?_⟩
   rw[ji_]
   have hpwn:H pw=none:=s2.free aU
   have hnefw:pf≠pw:=AA i5 aU
   have sB:=s2.newT aU (o:=.lst [])
   have hfB:=Same.new aU (o:=.lst []) _ _ i5
   have hwB:upd H2 pw (.lst []) pw=some (.lst []):=Ab
   generalize upd H2 pw (.lst [])=HB at sB hfB hwB ⊢
   obtain⟨Pv,ai⟩:∃Pv:Nat->St->Hp->Prop,∀i av H3,Pv i av H3↔(∃(ws:α1) (o6 o7 o8 o9 i6:Option V),Same H H3/\H3 pf=some (.lst (fold.map V.int))/\DL K H3 pw ws/\ws.length=i/\(∀row∈ws,(row.length:Int)=L/\∀x∈row,0<=x/\x<(fold.length:Int))/\av=[some (.ref h),some (.int num),some (.int n),some (.int marks.length),some (.ref pf),some (.ref pw),o6,o7,o8,o9,i6]):=⟨_,fun _ _ _=>ql_⟩
   refine forR Pv ((ai _ _ _).mpr ⟨[],none,none,none,none,none,sB,hfB,DL.nil hwB,rfl,(fun r hr=>by cases hr),rfl⟩) (fun i av H3 hi h3=>?_) (fun av H3 h3=>?_)
   ·obtain⟨ws,o6,o7,o8,o9,i6,s3,kJ,cI,cq,eE,rfl⟩:=(ai _ _ _).mp h3
    generalize hroom:(0:Int)+(i:Nat)=room
    have aI:0<=room:=by omega
    have di:room<fold.length:=by omega
    walk_at "rd"
    refine⟨by omega,fun pr eI=>⟨_,(s3.newT eI).seqT q1,_,rfl,?_⟩⟩
    walk_at "rd"
    refine⟨by omega,by omega,?_⟩
    have i4:H pr=none:=s3.free eI
    have cD:pw≠pr:=by
     obtain⟨ts,e,_⟩:=id cI
     exact AA e eI
    have hnef:pf≠pr:=AA kJ eI
    have sC:=s3.newT eI (o:=.lst [])
    have hfC:=Same.new eI (o:=.lst []) _ _ kJ
    have hwC:=cI.mono (Same.new eI (o:=.lst []))
    have hrC:upd H3 pr (.lst []) pr=some (.lst (([]:α2).map V.int)):=Ab
    generalize upd H3 pr (.lst [])=HC at sC hfC hwC hrC ⊢
    obtain⟨Pr,gv⟩:∃Pv:Nat->St->Hp->Prop,∀j bg H4,Pv j bg H4↔(∃(row:α2) (o8 o9 i6:Option V),Same H H4/\H4 pf=some (.lst (fold.map V.int))/\DL K H4 pw ws/\H4 pr=some (.lst (row.map V.int))/\row.length=j/\(∀x∈row,0<=x/\x<(fold.length:Int))/\bg=[some (.ref h),some (.int num),some (.int n),some (.int marks.length),some (.ref pf),some (.ref pw),some (.int room),some (.ref pr),o8,o9,i6]):=⟨_,fun _ _ _=>ql_⟩
    refine forR Pr ((gv _ _ _).mpr ⟨[],_,_,_,sC,hfC,hwC,hrC,rfl,(fun r hr=>by cases hr),rfl⟩) (fun j bg H4 hj h4=>?_) (fun bg H4 h4=>?_)
    ·obtain⟨row,o8,o9,i6,s4,cR,cg,kK,cO,bM,rfl⟩:=(gv _ _ _).mp h4
     generalize hlet:(0:Int)+(j:Nat)=letter
     obtain⟨fr,hfr1⟩:∃fr,fold[room.toNat]?=some fr:=⟨fold[room.toNat]'(by omega),by simp[show room.toNat<fold.length by omega]⟩
     have i7:=iE fr (jd_ hfr1)
     obtain⟨row0,g,r1,r2,r3,r4,r5⟩:=wf.step (x:=letter) i7.1 i7.2 (by omega) (by omega)
     obtain⟨xs,t,z1,z2,z3⟩:=q3.atZ i7.1 r1
     walk_at "rd"
     refine⟨_,s4.seqT q1,_,rfl,?_⟩
     walk_at "rd"
     refine⟨_,SqL.of cR,_,Bs aI hfr1,?_⟩
     walk_at "rd"
     refine⟨_,s4.seqT z1,_,z2,?_⟩
     walk_at "rd"
     refine⟨_,s4.seqT z3,_,Bs (by omega) r2,?_⟩
     walk_at "rd"
     refine⟨_,.inl (SqL.of cR),?_⟩
     rw[ja_]
     refine⟨by omega,by omega,?_⟩
     rw[ji_]
     obtain⟨Pc,cy⟩:∃Pc:Nat->List V->St->Hp->Prop,∀c ys gi H5,Pc c ys gi H5↔(H5=H4/\∃(aG:α2) (o:Option V),ys=aG.map V.int/\aG.length<=c/\(∀x∈aG,0<=x/\x<(fold.length:Int))/\(g.toNat<c->aG ≠ [])/\gi=[o,some (.int g),some (.ref pf)]):=⟨_,fun _ _ _ _=>ql_⟩
     refine Qa Pc ((cy _ _ _ _).mpr ⟨rfl,[],none,rfl,jg_ _,(fun x hx=>by cases hx),(fun z=>absurd z (xj_ _)),rfl⟩) (by omega) (fun c ys gi H5 _ h5=>?_) (fun c ys gi H5 hc h5=>?_) (fun ys gi H5 h5 D hD=>?_)
     ·obtain⟨_,aG,o,rfl,hlen,_⟩:=(cy _ _ _ _).mp h5
      rw[ja_];exact hlen
     ·obtain⟨rfl,aG,o,rfl,hlen,aR,kg,rfl⟩:=(cy _ _ _ _).mp h5
      obtain⟨fv,hfv⟩:∃fv,fold[c]?=some fv:=⟨fold[c]'hc,by simp[hc]⟩
      have ec:(0:Int)+(c:Nat)=(c:Int):=by omega
      rw[ec]
      walk_at "rd"
      refine⟨_,SqL.of cR,_,Bs (by omega) (by rw[ji_];exact hfv),?_⟩
      walk_at "rd"
      refine ite2 (fun he=>?_) (fun ao=>?_)
      ·refine (cy _ _ _ _).mpr ⟨rfl,aG++[(c:Int)],_,by simp,by simp;omega,fun x hx=>?_,(fun _ z=>by simp at z),rfl⟩
       rcases jz_.mp hx with hx|hx
       ·exact aR x hx
       ·rw[js_.mp hx];omega
      ·refine (cy _ _ _ _).mpr ⟨rfl,aG,_,rfl,by omega,aR,fun hlt'=>?_,rfl⟩
       by_cases hgc:g.toNat=c
       ·exfalso
        have:=hfg c (by omega)
        rw[hfv]at this
        have e2:=jp_ this
        apply ao
        omega
       ·exact kg (by omega)
     ·obtain⟨rfl,aG,o,rfl,hlen,aR,kg,rfl⟩:=(cy _ _ _ _).mp h5
      have ao:aG ≠ []:=kg (by omega)
      have iy:0<aG.length:=zL_.mpr ao
      have sD:=Same.new hD (o:=.lst (aG.map V.int))
      have hmul0:0<=room*L:=zn_ aI (by omega)
      have hmul1:room*L<=40*6:=Int.mul_le_mul (by omega) (by omega) (by omega) (by omega)
      refine⟨.inl ⟨rfl,_,SqL.of (sD _ _ kK)⟩,_,(s4.trans sD).seqT q1,_,rfl,L,rfl,.inl ⟨by omega,by omega⟩,D,rfl,_,.inl (SqL.of Ab),?_⟩
      rw[ja_]
      refine⟨_,_,_,rfl,by omega,by omega,by omega,fun x cm bF=>?_⟩
      have fP:x.toNat<aG.length:=by omega
      refine⟨D,rfl,_,x,rfl,SqL.of Ab,_,Bs cm (v:=aG[x.toNat]) (by simp[fP]),_,sD _ _ kK,by rw[ja_];omega,(gv _ _ _).mpr ⟨row++[aG[x.toNat]],_,_,_,(s4.trans sD).over i4,?_,(cg.mono sD).off (sD _ _ kK) cD,by rw[Ab];simp,by simp[cO],fun y hy=>?_,rfl⟩⟩
      ·rw[Ai hnef];exact sD _ _ cR
      ·rcases jz_.mp hy with hy|hy
       ·exact bM y hy
       ·rw[js_.mp hy];exact aR _ (j2_ fP)
    ·obtain⟨row,o8,o9,i6,s4,cR,cg,kK,cO,bM,rfl⟩:=(gv _ _ _).mp h4
     walk_at "rd"
     obtain⟨ts,e0,_⟩:=id cg
     refine⟨.inl ⟨rfl,_,SqL.of e0⟩,_,.inl ⟨SqL.of kK,fun t ht=>?_⟩⟩
     obtain⟨xs,e1,e2,eB⟩:=(cg.mono (Same.new ht (o:=.tup (row.map V.int)))).push (w:=row) (SqT.of Ab)
     refine⟨xs,e1,by omega,(ai _ _ _).mpr ⟨ws++[row],_,_,_,_,_,(s4.newT ht).over hpwn,?_,eB,by simp[cq],fun r hr=>?_,rfl⟩⟩
     ·rw[Ai hnefw];exact Same.new ht _ _ cR
     ·rcases jz_.mp hr with hr|hr
      ·exact eE r hr
      ·rw[js_.mp hr];exact⟨by omega,bM⟩
   ·obtain⟨ws,o6,o7,o8,o9,i6,s3,kJ,cI,cq,eE,rfl⟩:=(ai _ _ _).mp h3
    walk_at "rd"
    refine⟨_,s3.seqT q1,_,rfl,⟨_,SqL.of kJ⟩,Kz (ae:=[some (.ref h)]) (fun x=>match x with | .int n=>.int (mkW marks n)|_=>.non) rfl (SqL.of kJ) (by rw[ja_];omega) (fun x hx R hR=>?_) (fun Dm hDm=>?_)⟩
    ·obtain⟨y,hy,rfl⟩:=Er hx
     have bC:=iE y hy
     walk_at "rd"
     refine⟨_,s3.seqT q1,_,rfl,?_⟩
     walk_at "rd"
     exact⟨_,s3.seqT q2,_,WA bC.1 bC.2,hR⟩
    have em:(fold.map V.int).map (fun x=>match x with | .int n=>.int (mkW marks n)|_=>.non)=(fold.map (mkW marks)).map V.int:=by rw[jX_,jX_];rfl
    rw[em]
    refine⟨Dm,rfl,_,.inl ⟨SqL.of Ab,fun t1 lC=>?_⟩⟩
    obtain⟨xs,bF,bH⟩:=(cI.mono ((Same.new hDm (o:=.lst ((fold.map (mkW marks)).map V.int))).newT lC (o:=.tup ((fold.map (mkW marks)).map V.int)))).rows
    refine⟨xs,.inl ⟨SqL.of bF,fun t2 nK=>⟨by omega,fun h9 nL=>?_⟩⟩⟩
    refine k h9 (fold.map (mkW marks)) ws _ ((((s3.newT hDm).newT lC).newT nK).newT nL) ⟨t1,t2,SqT.of Ab,((Same.new nK).newT nL).seqT (SqT.of Ab),(bH t2 nK).mono (Same.new nL)⟩ ⟨b8,b9,by rw[ja_];omega,by rw[ja_];omega,by rw[ja_];omega,fun row hr=>by rw[ja_];exact eE row hr,fun m hm=>?_⟩ (by rw[ja_];omega)
    obtain⟨y,hy,rfl⟩:=jv_.mp hm
    have bC:=iE y hy
    exact wf.mks _ (CC_ bC.1 bC.2)
def NV (K:α3):Sp:=fun vs H Q _=>∃(a:Addr) (ns:α2),vs=[.ref a]/\SqL K H a (ns.map V.int)/\∀h L marks aa H',Same H H'->BO K H' h L marks aa->Wf L marks aa->marks.length<=15->Q (.ref h) H'
theorem JT   (F:Fun K "_law_house_by" "_law_house_by" Bu f fd)(T:Txt mg)
   (Ap:FnOk P w K mg base CX0 1 Au AI ["script","k"] (Jc K)) (Am:Fun K "_law_cell_at" "_law_cell_at" A2 Au AI) (Aq:Binds K AI ["script","k"] []) (Ar:mg "_law_cell_at"=some (.ref Au))
   (Eb:FnOk P w K mg base CX0 2 B2 FF ["number","rooms"] (NU K)) (CA:Fun K "_law_marks_by" "_law_marks_by" Bt B2 FF) (Ec:Binds K FF ["number","rooms"] []) (Ed:mg "_law_marks_by"=some (.ref B2))
   (Ey:FnOk P w K mg base CX0 2 Cd Gk ["script","letters","rooms"] (QH K)) (CT:Fun K "_law_ways_by" "_law_ways_by" BP Cd Gk) (Ez:Binds K Gk ["script","letters","rooms"] []) (EA:mg "_law_ways_by"=some (.ref Cd))
   (De:FnOk P w K mg base CX0 2 BK Dp ["house","number","rooms"] (OO K)) (Ca:Fun K "_law_blown" "_law_blown" B9 BK Dp) (Df:Binds K Dp ["house","number","rooms"] []) (Dg:mg "_law_blown"=some (.ref BK))
  : FnOk P w K mg base CX0 3 f fd ["script"] (NV K):=by
 refine F.ok A5 (fun vs H Q E h=>?_) (fun aq A outer s H vs Q E hr h=>?_)
 ·obtain⟨a,ns,rfl,_⟩:=h;rfl
 ·obtain⟨a,ns,rfl,hs,k⟩:=h
  have hl:=AC
  refine⟨_,(Ad (Aj (i:=1) A5.nd (An (opD0 Bh) Ac (An (opD A1) (An (opD0 Bh) (Al Ap (hr.mono (by decide)) rfl Ar Am.kp Aq .nil AZ (Aa (pvD 0) (Aa Ac Ae))) Ac) Ac)))
   (Ad (Aj (i:=2) A5.nd (An (opD0 Bh) Ac (An (opD A1) (An (opD0 Bh) (Al Ap (hr.mono (by decide)) rfl Ar Am.kp Aq .nil AZ (Aa (pvD 0) (Aa Ac Ae))) Ac) Ac)))
   (CQ (Cq (PW.pt (Jp (ptT (Av (opE Dh) (An (opD A1) (An (opD Cs) (Al Ap (hr.mono (by decide)) rfl Ar Am.kp Aq .nil AZ (Aa (pvD 0) (Aa Ac Ae))) Ac) Ac) Ac (AS _))) (FT (ptT (Av (opD0 KO) (pvD 1) Ac (AS _))))))
   (Ag (Aj (i:=2) A5.nd (An (opD0 Bh) Ac (An (opD A1) (An (opD Cs) (Al Ap (hr.mono (by decide)) rfl Ar Am.kp Aq .nil AZ (Aa (pvD 0) (Aa Ac Ae))) Ac) Ac))))
   AU)
   (Ad (Aj (i:=3) A5.nd (Al Eb (hr.mono (by decide)) rfl Ed CA.kp Ec .nil AZ (Aa (Al Ap (hr.mono (by decide)) rfl Ar Am.kp Aq .nil AZ (Aa (pvD 0) (Aa Ac Ae))) (Aa (pvD 2) Ae))))
   (Ad (Aj (i:=4) A5.nd (C7 (Aa (pvD 1) (Aa (pvD 3) (Aa (Al Ey (hr.mono (by decide)) rfl EA CT.kp Ez .nil AZ (Aa (pvD 0) (Aa (pvD 1) (Aa (pvD 2) Ae)))) Ae)))))
   (Ad (Aj (i:=5) A5.nd (Al Ap (hr.mono (by decide)) rfl Ar Am.kp Aq .nil AZ (Aa (pvD 0) (Aa Ac Ae))))
   (CQ (Cq (ptT (Av (opE Dh) (An (opD A1) (pvD 5) Ac) Ac (AS _)))
   (Ag (Aj (i:=4) A5.nd (Al De (hr.mono (by decide)) rfl Dg Ca.kp Df .nil AZ (Aa (pvD 4) (Aa (pvD 5) (Aa (An (opD0 Bh) (An (opD0 Bh) (pvD 2) Ac) (An (opD A1) (An (opD Cs) (pvD 5) Ac) Ac)) Ae))))))
   AU)
   (Ag (AO (pvD 4)))))))))),?_⟩
  walk_at "rd"
  refine⟨a,ns,0,rfl,hs,?_⟩
  walk_at "rd"
  refine⟨by decide,a,ns,1,rfl,hs,?_⟩
  walk_at "rd"
  have b8:1<=1+(cell ns 0+1)%6:=by omega
  have b9:1+(cell ns 0+1)%6<=6:=by omega
  generalize 1+(cell ns 0+1)%6=L at b8 b9 ⊢
  obtain⟨R,hR⟩:∃R:St->Hp->Prop,∀ae H',R ae H'↔(H'=H/\∃n:Nat,1<=n/\n<=12/\ae=[some (.ref a),some (.int L),some (.int n),none,none,none]):=⟨_,fun _ _=>ql_⟩
  refine⟨by decide,R,?_,?_⟩
  ·walk_at "rd"
   refine⟨a,ns,1,rfl,hs,?_⟩
   walk_at "rd"
   refine⟨⟨by decide,by decide⟩,by decide,?_⟩
   have hb:R [some (V.ref a),some (V.int L),some (V.int (1+(cell ns 1+3)%5)),none,none,none] H:=(hR _ _).mpr ⟨rfl,(1+(cell ns 1+3)%5).toNat,by omega,by omega,by rw[show (((1+(cell ns 1+3)%5).toNat:Nat):Int)=1+(cell ns 1+3)%5 by omega]⟩
   refine ite2 (fun _=>ite2 (fun _=>?_) (fun _=>hb)) (fun _=>hb)
   refine⟨a,ns,1,rfl,hs,_,rfl,⟨by decide,by decide⟩,by decide,(hR _ _).mpr ⟨rfl,(1+cell ns 1 / 80%12).toNat,by omega,by omega,?_⟩⟩
   rw[show (((1+cell ns 1 / 80%12).toNat:Nat):Int)=1+cell ns 1 / 80%12 by omega]
  ·intro ae H' h'
   obtain⟨rfl,n,bQ,hn12,rfl⟩:=(hR _ _).mp h'
   have aN:n<=40:=by omega
   walk_at "rd"
   refine⟨a,ns,2,rfl,hs,?_⟩
   walk_at "rd"
   refine⟨_,n,rfl,bQ,aN,fun tm marks H1 s1 gk f7 hmr=>?_⟩
   walk_at "rd"
   refine⟨a,ns,L,n,rfl,s1.seq hs,b8,b9,bQ,aN,fun tw aa H2 s2 bH cq eE=>?_⟩
   walk_at "rd"
   refine⟨by omega,fun h hh=>?_⟩
   have wf:Wf L marks aa:=⟨b8,b9,by omega,by omega,by omega,fun row hr=>by rw[f7];exact eE row hr,hmr⟩
   have eG:=(s1.trans s2).newT hh (o:=.tup [V.int L,V.ref tm,V.ref tw])
   have i8:BO K (upd H2 h (.tup [V.int L,V.ref tm,V.ref tw])) h L marks aa:=⟨tm,tw,SqT.of Ab,(s2.newT hh).seqT gk,bH.mono (Same.new hh)⟩
   generalize upd H2 h (.tup [V.int L,V.ref tm,V.ref tw])=H3 at eG i8 ⊢
   refine⟨a,ns,4,rfl,eG.seq hs,?_⟩
   walk_at "rd"
   obtain⟨R2,nM⟩:∃R:St->Hp->Prop,∀bg H4,R bg H4↔(∃(h:Addr) (marks:α2) (aa:α1) (o1 o2 o3:Option V),Same H' H4/\BO K H4 h L marks aa/\Wf L marks aa/\marks.length<=15/\bg=[some (.ref a),some (.int L),o1,o2,some (.ref h),o3]):=⟨_,fun _ _=>ql_⟩
   refine⟨R2,?_,?_⟩
   ·walk_at "rd"
    refine⟨by decide,ite2 (fun _=>⟨⟨by decide,by decide⟩,by decide,?_⟩) (fun _=>(nM _ _).mpr ⟨h,marks,aa,_,_,_,eG,i8,wf,by omega,rfl⟩)⟩
    have cm:=j8_ (cell ns 4 / 3) (show (3:Int)≠0 by decide)
    have bF:=j0_ (cell ns 4 / 3) (show (0:Int)<3 by decide)
    obtain⟨m,hm,hm40⟩:∃m:Nat,(n:Int)+1+cell ns 4 / 3%3=(m:Int)/\m<=15:=⟨((n:Int)+1+cell ns 4 / 3%3).toNat,by omega,by omega⟩
    rw[hm]
    refine⟨h,L,marks,aa,_,m,rfl,i8,wf,by omega,fun h' aj ay H4 s4 mY fQ hml'=>?_⟩
    exact (nM _ _).mpr ⟨h',aj,ay,_,_,_,eG.trans s4,mY,fQ,by rw[hml'];omega,rfl⟩
   ·intro bg H4 h4
    obtain⟨h,marks,aa,o1,o2,o3,s4,jJ,nN,i9,rfl⟩:=(nM _ _).mp h4
    walk_at "rd"
    exact k h L marks aa H4 s4 jJ nN i9
def LA (K:α3):Sp:=fun vs H Q _=>∃(h:Addr) (L:Int) (marks:α2) (aa:α1) (num:Int),vs=[.ref h,.int num]/\BO K H h L marks aa/\Wf L marks aa/\∀h' aj ay H',Same H H'->BO K H' h' L aj ay->Wf L aj ay->aj.length=marks.length->Q (.ref h') H'
theorem Jd   (F:Fun K "_law_turned_by" "_law_turned_by" Bj f fd)(T:Txt mg)
  : FnOk P w K mg base CX0 1 f fd ["house","number"] (LA K):=by
 refine F.ok Bq (fun vs H Q E h=>?_) (fun aq A outer s H vs Q E hr h=>?_)
 ·obtain⟨h,L,marks,aa,num,rfl,_⟩:=h;rfl
 ·obtain⟨h,L,marks,aa,num,rfl,hh,wf,k⟩:=h
  have hl:=AC
  have bQ:=wf.n1
  have aN:=wf.n40
  obtain⟨tm,tw,q1,q2,q3⟩:=id hh
  refine⟨_,(Ad (B7 (i:=2) Bq.nd rfl (Or.inr rfl) (As (lenD Ak) (by rfl) T.len jH_ (Aa (Ah (ixTD Ao) (pvD 0) Ac) Ae)))
   (Ad (Cq (ptT (Av (opE Dh) (pvD 2) Ac (AS _)))
   (Ag (AO (pvD 0)))
   AU)
   (CQ (B7 (i:=3) Bq.nd rfl (Or.inr rfl) (An Cc_ (Cn (Aa Ac Ae)) (BX rfl (BY rfl) (cp:=Ev) ⟨⟨rfl,rfl⟩,⟨⟨rfl,rfl⟩,True.intro⟩⟩ (Bc rfl T.range (Aa (An (opD0 Ep) (pvD 2) Ac) Ae)) (fun _ _ _ _=>(At (i:=0) F8 rfl (Or.inl rfl))) (fun _ _ _ _=>B8) (fun _ _ _ _=>(An (opD0 Bh) Ac (An (opD A1) (An (opD0 Bh) (pvD 0) (pvD 1)) (An (opD0 Ep) (pvD 2) Ac)))))))
   (Ad (Aj (i:=4) Bq.nd (An V3 (Cn (Aa Ac Ae)) (pvD 2)))
   (Ad (Aj (i:=5) Bq.nd (An V3 (Cn (Aa (C7 Ae) Ae)) (pvD 2)))
   (Ad (Cb jI_ rfl (Bc rfl T.range (Aa (pvD 2) Ae)) (At (i:=6) Bq.nd rfl (Or.inl rfl))
   (Ad (PN (Ah (ixTD Ao) (Ah (ixTD Ao) (pvD 0) Ac) (pvD 6)) (PM (pvD 4) (Ah (ixLD Bi) (pvD 3) (pvD 6)) set_list))
   (Ag (PN (AM AE rfl T.tuple jA_ (Aa (BX rfl (BY rfl) (cp:=Ew) ⟨⟨rfl,rfl⟩,True.intro⟩ (FU (Ah (ixTD Ao) (Ah (ixTD Ao) (pvD 0) Ac) (pvD 6))) (fun _ _ _ _=>(At (i:=0) F9 rfl (Or.inl rfl))) (fun _ _ _ _=>B8) (fun _ _ _ _=>(Ah (ixLD (Co (K:=K) rfl)) (pvD 1) (pvD 0)))) Ae)) (PM (pvD 5) (Ah (ixLD Bi) (pvD 3) (pvD 6)) set_list)))))
   (Ag (AO (C7 (Aa (Ah (ixTD Ao) (pvD 0) Ac) (Aa (AM AE rfl T.tuple jA_ (Aa (pvD 4) Ae)) (Aa (AM AE rfl T.tuple jA_ (Aa (pvD 5) Ae)) Ae)))))))))))),?_⟩
  walk_at "rd"
  refine⟨_,q1,_,rfl,?_⟩
  walk_at "rd"
  refine⟨_,.inr q2,?_⟩
  rw[ja_]
  refine ite2 (fun h1=>k h marks aa H (Same.refl _) hh wf rfl) (fun h1=>?_)
  have h2:2<=marks.length:=by omega
  have ho:=WL h2 num
  have jZ:=ho.len
  generalize hspin:WK marks.length num=o at ho jZ
  refine⟨fun ae H'=>Same H H'/\∃a,H' a=some (.lst (o.map V.int))/\ae=[some (.ref h),some (.int num),some (.int marks.length),some (.ref a),none,none,none],?_,fun gH H1 hR=>?_⟩
  ·walk_at "rd"
   refine⟨by omega,fun p hp=>⟨by omega,by omega,?_⟩⟩
   refine Qa (n:=((marks.length:Int)-1).toNat) (fun i ys af H2=>H2=upd H p (.lst [V.int 0])/\ys=((List.range i).map fun j:Nat=>1+((j:Int)+num)%((marks.length:Int)-1)).map V.int/\∃o,af=[o,some (.int num),some (.int marks.length)]) ⟨rfl,rfl,none,rfl⟩ (by omega) (fun i ys af H2 _ h=>by rw[h.2.1];simp) (fun i ys af H2 hi h=>?_) (fun ys af H2 h=>?_)
   ·obtain⟨rfl,rfl,o,rfl⟩:=h
    walk_at "rd"
    refine⟨by omega,?_⟩
    rw[xU_,show (0:Int)+(i:Nat)=(i:Int) by omega]
    simp
   ·obtain⟨rfl,rfl,o,rfl⟩:=h
    intro D hD
    have n1:p≠D:=fun z=>by rw[<-z,Ab]at hD;cases hD
    refine⟨D,rfl,_,by rw[Ai n1];exact Ab,_,Ab,by simp;omega,fun q hq=>⟨((Same.new hp).newT hD).newT hq,q,?_,rfl⟩⟩
    rw[Ab,<-hspin,show ((marks.length:Int)-1).toNat=marks.length-1 by omega]
    rfl
  obtain⟨s1,a,ha,rfl⟩:=hR
  have jx:SqL K H1 a (o.map V.int):=SqL.of ha
  walk_at "rd"
  rw[ji_]
  refine⟨by omega,fun p hp=>⟨_,Ab,by omega,by omega,by simp;omega,fun p1 bo=>⟨by omega,fun p2 aP=>⟨by omega,fun p3 dY=>⟨_,Ab,by omega,by omega,by simp;omega,fun p4 dC=>?_⟩⟩⟩⟩⟩
  rw[Ol]at aP dY dC ⊢
  rw[Ol]
  have sA:=(((((Same.new (o:=.lst [V.int 0]) hp).newT (o:=.lst (List.replicate marks.length (V.int 0))) bo).newT (o:=.tup []) aP).newT (o:=.lst [V.ref p2]) dY).newT (o:=.lst (List.replicate marks.length (V.ref p2))) dC)
  have n41:p4≠p1:=(A0 (A0 (A0 dC).1).1).2
  have bZ:upd (upd (upd (upd (upd H1 p (.lst [V.int 0])) p1 (.lst (List.replicate marks.length (V.int 0)))) p2 (.tup [])) p3 (.lst [V.ref p2])) p4 (.lst (List.replicate marks.length (V.ref p2))) p1=some (.lst ((List.replicate marks.length (0:Int)).map V.int)):=by
   rw[zf_]
   exact Same.new dC _ _ (Same.new dY _ _ (Same.new aP _ _ Ab))
  have gX:DL K (upd (upd (upd (upd (upd H1 p (.lst [V.int 0])) p1 (.lst (List.replicate marks.length (V.int 0)))) p2 (.tup [])) p3 (.lst [V.ref p2])) p4 (.lst (List.replicate marks.length (V.ref p2)))) p4 (List.replicate marks.length []):=by
   refine⟨List.replicate marks.length p2,by rw[Ab,zf_],by simp,fun i t w e1 e2=>?_⟩
   have e3:t=p2:=List.eq_of_mem_replicate (jd_ e1)
   have e4:w=[]:=List.eq_of_mem_replicate (jd_ e2)
   subst e3 e4
   exact SqT.of (Same.new dC _ _ (Same.new dY _ _ Ab))
  have hp1n:H1 p1=none:=(A0 bo).1
  have hp4n:H1 p4=none:=(A0 (A0 (A0 (A0 dC).1).1).1).1
  generalize upd (upd (upd (upd (upd H1 p (.lst [V.int 0])) p1 (.lst (List.replicate marks.length (V.int 0)))) p2 (.tup [])) p3 (.lst [V.ref p2])) p4 (.lst (List.replicate marks.length (V.ref p2)))=H2 at sA bZ gX ⊢
  refine⟨by omega,by omega,?_⟩
  obtain⟨Pn,cx⟩:∃Pn:Nat->St->Hp->Prop,∀i av H3,Pn i av H3↔(∃(o5:Option V),Same H1 H3/\H3 p1=some (.lst ((DP o (fun r=>marks.getD r 0) i (List.replicate marks.length 0)).map V.int))/\DL K H3 p4 (DP o (fun r=>(aa.getD r []).map (ordW o)) i (List.replicate marks.length []))/\av=[some (.ref h),some (.int num),some (.int marks.length),some (.ref a),some (.ref p1),some (.ref p4),o5]):=⟨_,fun _ _ _=>ql_⟩
  refine forR Pn ((cx _ _ _).mpr ⟨none,sA,bZ,gX,rfl⟩) (fun i av HT hi h3=>?_) (fun av H3 h3=>?_)
  ·obtain⟨o5,sT,hmT,mV,rfl⟩:=(cx _ _ _).mp h3
   have ei:(0:Int)+(i:Nat)=(i:Int):=by omega
   rw[ei]
   have hxa:=ho.at (r:=(i:Int)) (by omega) (by omega)
   rw[ji_]at hxa
   obtain⟨kb,cm,bF⟩:=hxa
   obtain⟨tm3,tw3,y1,y2,y3⟩:=hh.mono (s1.trans sT)
   have gS:marks[i]?=some (marks.getD i 0):=by rw[jh_,jf_ hi];rfl
   obtain⟨row,hrow,d0,cO⟩:=wf.row (r:=(i:Int)) (by omega) (by omega)
   rw[ji_]at hrow
   walk_at "rd"
   refine⟨_,y1,_,rfl,_,rfl,_,y2,_,FV (by rw[je_,gS];rfl),_,sT.seq jx,_,FV (by rw[je_,kb];rfl),?_⟩
   refine⟨_,_,rfl,hmT,(ordW o i).toNat,Tw cm (by rw[ja_,DT,qs_];exact bF),?_⟩
   have sU:Same H1 (upd HT p1 (.lst (((DP o (fun r=>marks.getD r 0) i (List.replicate marks.length 0)).map V.int).set (ordW o i).toNat (V.int (marks.getD i 0))))):=sT.over hp1n
   have hmU:upd HT p1 (.lst (((DP o (fun r=>marks.getD r 0) i (List.replicate marks.length 0)).map V.int).set (ordW o i).toNat (V.int (marks.getD i 0)))) p1=some (.lst ((DP o (fun r=>marks.getD r 0) (i+1) (List.replicate marks.length 0)).map V.int)):=by
    rw[Ab,DP,List.map_set]
   have hwU:=mV.off (ys:=((DP o (fun r=>marks.getD r 0) i (List.replicate marks.length 0)).map V.int).set (ordW o i).toNat (V.int (marks.getD i 0))) hmT n41
   generalize upd HT p1 (.lst (((DP o (fun r=>marks.getD r 0) i (List.replicate marks.length 0)).map V.int).set (ordW o i).toNat (V.int (marks.getD i 0))))=HU at sU hmU hwU ⊢
   obtain⟨tm4,tw4,z1,z2,z3⟩:=hh.mono (s1.trans sU)
   obtain⟨xs4,t4,c1,c2,c3⟩:=z3.at hrow
   refine⟨_,z1,_,rfl,_,rfl,_,c1,_,c2,_,rfl,⟨_,c3⟩,?_⟩
   obtain⟨f,hf⟩:∃f:V->V,∀g:Int,f (V.int g)=.int (ordW o g):=⟨fun v=>match v with | .int g=>.int (ordW o g)|_=>.non,fun _=>rfl⟩
   refine GF (xs:=row.map V.int) (ae:=[some (.ref a)]) f rfl c3 (by rw[ja_];have:=wf.l6;omega) (fun v hv R hR=>?_) (fun D hD=>?_)
   ·obtain⟨g,hg,rfl⟩:=jv_.mp hv
    rw[hf]at hR
    have ip:=(wf.rows row d0).2 g hg
    walk_at "rd"
    exact⟨_,sU.seq jx,_,Bs ip.1 (ho.at ip.1 ip.2).1,hR⟩
   ·have em:(row.map V.int).map f=(row.map (ordW o)).map V.int:=by
     rw[jX_,jX_]
     exact qk_ fun g _=>hf g
    rw[em]
    refine⟨D,rfl,_,.inl ⟨SqL.of Ab,fun l d8=>?_⟩⟩
    have sV:=(Same.new (o:=.lst ((row.map (ordW o)).map V.int)) hD).newT (o:=.tup ((row.map (ordW o)).map V.int)) d8
    obtain⟨xs8,e1,e2,ft⟩:=(hwU.mono sV).set (j:=(ordW o i).toNat) (w:=row.map (ordW o)) (SqT.of Ab)
    refine⟨_,(sU.trans sV).seq jx,_,FV (by rw[je_,kb];rfl),xs8,_,rfl,e1,(ordW o i).toNat,Tw cm (by rw[e2,DT,qs_];exact bF),(cx _ _ _).mpr ⟨_,(sU.trans sV).over hp4n,?_,?_,rfl⟩⟩
    ·rw[Ai n41.symm];exact sV _ _ hmU
    ·rw[DP,jh_,hrow];exact ft
  ·obtain⟨o5,s3,lF,cI,rfl⟩:=(cx _ _ _).mp h3
   walk_at "rd"
   obtain⟨tm3,tw3,y1,y2,y3⟩:=hh.mono (s1.trans s3)
   refine⟨_,y1,_,rfl,_,.inl ⟨SqL.of lF,fun l d8=>?_⟩⟩
   obtain⟨xs,bF,f6⟩:=(cI.mono (Same.new (o:=.tup ((WG marks.length o marks).map V.int)) d8)).rows
   refine⟨_,.inl ⟨SqL.of bF,fun l1 br=>⟨by omega,fun p5 bR=>?_⟩⟩⟩
   exact k p5 _ _ _ (((s1.trans s3).newT d8).newT br |>.newT bR) ⟨l,l1,SqT.of Ab,SqT.of (Same.new bR _ _ (Same.new br _ _ Ab)),(f6 l1 br).mono (Same.new bR)⟩ (AL_ wf ho) (ET _ _ _)
def Xu (K:α3):Sp:=fun vs H Q _=>∃(a h:Addr) (ns:α2) (L:Int) (marks:α2) (aa:α1),vs=[.ref a,.ref h]/\SqL K H a (ns.map V.int)/\BO K H h L marks aa/\Wf L marks aa/\∀(m:Nat) H',m<=3->many L (m+2)<=341->Same H H'->Q (.int m) H'
theorem LB   (F:Fun K "_law_more_by" "_law_more_by" BQ f fd)(T:Txt mg)
   (Ap:FnOk P w K mg base CX0 1 Au AI ["script","k"] (Jc K)) (Am:Fun K "_law_cell_at" "_law_cell_at" A2 Au AI) (Aq:Binds K AI ["script","k"] []) (Ar:mg "_law_cell_at"=some (.ref Au))
  : FnOk P w K mg base CX0 2 f fd ["script","house"] (Xu K):=by
 refine F.ok F5 (fun vs H Q E h=>?_) (fun aq A outer s H vs Q E hr h=>?_)
 ·obtain⟨a,h,ns,L,marks,aa,rfl,_⟩:=h;rfl
 ·obtain⟨a,h,ns,L,marks,aa,rfl,hs,hh,wf,k⟩:=h
  have hl:=AC
  refine⟨_,(Ad (Aj (i:=2) F5.nd (An (opD Cs) (Al Ap (hr.mono (by decide)) rfl Ar Am.kp Aq .nil AZ (Aa (pvD 0) (Aa Ac Ae))) Ac))
   (Ad (Cq (ptT (Av (opD0 Av_) (As (lenD Ak) (by rfl) T.len jH_ (Aa (Ah (ixTD Ao) (pvD 1) Ac) Ae)) Ac (AS _)))
   (Ag (AO (An (opD A1) (pvD 2) Ac)))
   AU)
   (Ad (Cq (PW.pt (Jp (ptT (Av (opD0 KO) (As (lenD Ak) (by rfl) T.len jH_ (Aa (Ah (ixTD Ao) (pvD 1) Ac) Ae)) Ac (AS _))) (FT (ptT (Av (opE Dh) (An (opD A1) (pvD 2) Ac) Ac (AS _))))))
   (Ag (AO (Ah (ixLD Bi) (Cn (Aa Ac (Aa Ac (Aa Ac (Aa Ac (Aa Ac (Aa Ac Ae))))))) (An (opD0 Ep) (Ah (ixTD Ao) (pvD 1) Ac) Ac))))
   AU)
   (Ad (Cq (ptT (Av (opE Dh) (An (opD A1) (pvD 2) Ac) Ac (AS _)))
   (Ag (AO (Ah (ixLD Bi) (Cn (Aa Ac (Aa Ac (Aa Ac (Aa Ac (Aa Ac (Aa Ac Ae))))))) (An (opD0 Ep) (Ah (ixTD Ao) (pvD 1) Ac) Ac))))
   AU)
   (Ag (AO (An (opD A1) (pvD 2) (Ah (ixLD Bi) (Cn (Aa Ac (Aa Ac (Aa Ac (Aa Ac (Aa Ac (Aa Ac Ae))))))) (An (opD0 Ep) (Ah (ixTD Ao) (pvD 1) Ac) Ac))))))))),?_⟩
  walk_at "rd"
  obtain⟨mm,wv,q1,q2,q3⟩:=id hh
  have b8:=wf.l1
  have b9:=wf.l6
  refine⟨a,ns,0,rfl,hs,_,rfl,⟨by decide,by decide⟩,_,q1,_,rfl,mm,rfl,_,.inr q2,?_⟩
  generalize cell ns 0 / 6=c
  rw[ja_]
  have hL:L=1\/L=2\/L=3\/L=4\/L=5\/L=6:=by omega
  have m0:many L (0+2)<=341:=by rcases hL with rfl|rfl|rfl|rfl|rfl|rfl<;>decide
  have m1:many L (1+2)<=341:=by rcases hL with rfl|rfl|rfl|rfl|rfl|rfl<;>decide
  have m2:many L (2+2)<=341:=by rcases hL with rfl|rfl|rfl|rfl|rfl|rfl<;>decide
  have m3:L<=4->many L (3+2)<=341:=fun h=>by
   rcases hL with rfl|rfl|rfl|rfl|rfl|rfl
   all_goals first|decide|omega
  -- each answer
  have nO:∀(c:Int) H',Same H H'->0<=c->c<=3->(c=3->L<=4)->Q (.int c) H':=fun c H' hS h0 h3 hc=>by
   obtain⟨m,rfl⟩:∃m:Nat,c=(m:Int):=⟨c.toNat,by omega⟩
   refine k m H' (by omega) ?_ hS
   rcases (show m=0\/m=1\/m=2\/m=3 by omega) with rfl|rfl|rfl|rfl
   ·exact m0
   ·exact m1
   ·exact m2
   ·exact m3 (hc rfl)
  refine ite2 (fun _=>⟨by decide,nO _ _ (Same.refl _) (by omega) (by omega) (by omega)⟩) (fun _=>?_)
  refine⟨_,q1,_,rfl,mm,rfl,_,.inr q2,?_⟩
  rw[ja_]
  refine ite2 (fun h3=>⟨by decide,ite2 (fun _=>⟨by decide,fun p hp=>?_⟩) (fun _=>⟨by decide,ite2 (fun _=>⟨by decide,fun p hp=>?_⟩) (fun _=>⟨by decide,fun p hp=>?_⟩)⟩)⟩) (fun h3=>⟨by decide,ite2 (fun _=>⟨by decide,fun p hp=>?_⟩) (fun _=>⟨by decide,fun p hp=>?_⟩)⟩)
  all_goals
   refine⟨_,(Same.new hp).seqT q1,_,rfl,L,rfl,_,SqL.of Ab,?_⟩
   clear hh wf q1 q2 q3 k m0 m1 m2 m3
   rcases hL with rfl|rfl|rfl|rfl|rfl|rfl
   all_goals first
    | exact⟨_,rfl,nO _ _ (Same.new hp) (by decide) (by decide) (by decide)⟩
    | exact⟨_,rfl,_,rfl,by decide,nO _ _ (Same.new hp) (by omega) (by omega) (by omega)⟩
def Ai_ (K:α3):Sp:=fun vs H Q _=>∃(a:Addr) (L:Int) (ws:α2),vs=[.ref a,.int L]/\SqT K H a (ws.map V.int)/\isW L ws=true/\Q (.bl true) H
theorem LC   (F:Fun K "_law_is_word" "_law_is_word" BU f fd)(T:Txt mg)
  : FnOk P w K mg base CX0 1 f fd ["found","letters"] (Ai_ K):=by
 refine F.ok F6 (fun vs H Q E h=>?_) (fun aq A outer s H vs Q E hr h=>?_)
 ·obtain⟨a,L,ws,rfl,_⟩:=h;rfl
 ·obtain⟨a,L,ws,rfl,ha,hv,k⟩:=h
  refine⟨_,(Ad (Cq (Nt (ptB (KN (As Es rfl T.isinstance xh_ (Aa (pvD 0) (Aa (N3 (v:=.ty "tuple") rfl T.tuple jA_ rfl) Ae))))))
   (Ag (AO Rv))
   AU)
   (Ad (Cb jI_ rfl (FU (pvD 0)) (At (i:=2) F6.nd rfl (Or.inl rfl))
   (Ag (Cq (PW.pt (Uh (Nt (ptB (KN (As Es rfl T.isinstance xh_ (Aa (pvD 2) (Aa (N3 (v:=.ty "int") rfl T.int PyProof.Rows.boot_int rfl) Ae)))))) (Uh (ptB (KN (As Es rfl T.isinstance xh_ (Aa (pvD 2) (Aa (N3 (v:=.ty "bool") rfl T.bool PyProof.Rows.boot_bool rfl) Ae))))) (Uh (ptT (Av (opD0 KO) (pvD 2) Ac (AS _))) (S9 (ptT (Av (opD0 Dw_) (pvD 2) (pvD 1) (AS _))))))))
   (Ag (AO Rv))
   AU)))
   (Ag (AO Rv)))),?_⟩
  walk_at "rd"
  refine⟨_,_,.tup ha,Tm,_,Od,?_⟩
  rw[if_neg (by decide)]
  refine⟨⟨_,ha⟩,forT (xs:=ws.map V.int) (fun i af H2=>H2=H/\∃o,af=[some (.ref a),some (.int L),o]) ⟨rfl,none,rfl⟩ (fun i af H2 _ h=>by rw[h.1];exact ha) (fun i x af H2 hx h=>?_) (fun af H2 h=>?_)⟩
  ·obtain⟨rfl,o,rfl⟩:=h
   obtain⟨n,hn,rfl⟩:=Di hx
   have bC:=AD.mp hv n (jd_ hn)
   walk_at "rd"
   refine⟨_,_,.int _,Tm,_,Od,?_⟩
   rw[if_neg (by decide)]
   refine⟨_,_,.int _,Tm,_,Qb,?_⟩
   rw[if_neg (by decide),if_neg (by omega),if_neg (by omega)]
   exact⟨_,rfl⟩
  ·obtain⟨rfl,o,rfl⟩:=h
   walk_at "rd"
   exact k
theorem Dt.tsq2 {K:α3}    (h:Dt T H H')(hT:H T=some (.tbl ps)):TSq K H H':=fun b ys q=>h.tsq hT q
theorem BO.monoQ {K:α3}      (x:BO K H h L marks aa)(e:TSq K H H'):BO K H' h L marks aa:=by
 obtain⟨m,w,h1,h2,ts,h3,h4,h5⟩:=x
 exact⟨m,w,e _ _ h1,e _ _ h2,ts,e _ _ h3,h4,fun i t r a b=>e _ _ (h5 i t r a b)⟩
theorem Xv:∀(l s:α1) (w:α2),w∈l.foldl ins s->w∈s\/w∈l
 |[],s,w,h=>.inl h
 |v::l,s,w,h=>by
  rw[q6_]at h
  rcases Xv l _ w h with h|h
  ·unfold ins at h
   split at h
   ·exact .inl h
   ·rcases jz_.mp h with h|h
    ·exact .inl h
    ·rw[js_.mp h];exact .inr jn_
  ·exact .inr (jl_ _ h)
theorem Xw {K:α3}  {os:List S64.Wd}(h:WsT H os):AV K H (S64.wv os) (os.map (·.2)):=by
 refine⟨by simp[S64.wv],fun i w hw=>?_⟩
 rw[je_]at hw
 cases e:os[i]? with
 |none=>rw[e]at hw;cases hw
 |some o=>
  rw[e]at hw;cases hw
  exact⟨o.1,by rw[S64.wv,je_,e];rfl,h o (jd_ e)⟩
theorem Xx:∀(l s:α1) (w:α2),(w∈s\/w∈l)->w∈l.foldl ins s
 |[],s,w,h=>h.resolve_right (by simp)
 |v::l,s,w,h=>by
  rw[q6_]
  refine Xx l _ w ?_
  unfold ins
  rcases h with h|h
  ·left
   split
   ·exact h
   ·exact j9_ _ h
  ·rcases jJ_.mp h with rfl|h
   ·left
    split
    ·rename_i hh;exact hh
    ·exact jw_ _ jn_
   ·exact .inr h
theorem LD {l:α1}{w:α2}:w∈l.foldl ins []↔w∈l:=⟨fun h=>(Xv l [] w h).resolve_left (by simp),fun h=>Xx l [] w (.inr h)⟩
theorem T4 {aa:α1}{n:Nat}{ck:α1}{E:Nat->α1}{w:α2}:w∈allW aa n ck E ↔ ∃r,r<n/\∃v∈ck,∃e∈E (AK aa (wayW aa r++v)).toNat,w=wayW aa r++v++e:=by
 unfold allW oneW
 constructor
 ·intro h
  obtain⟨r,hr,h⟩:=zy_.mp h
  obtain⟨v,hv,h⟩:=zy_.mp h
  obtain⟨e,he,rfl⟩:=jv_.mp h
  exact⟨r,jP_.mp hr,v,hv,e,he,rfl⟩
 ·rintro⟨r,hr,v,hv,e,he,rfl⟩
  exact zy_.mpr ⟨r,jP_.mpr hr,zy_.mpr ⟨v,hv,jv_.mpr ⟨e,he,rfl⟩⟩⟩
theorem T5   (hL:0<L)  : v∈Fs L m↔isW L v=true/\v.length<=m+1:=by
 constructor
 ·intro h
  obtain⟨k',cw,rfl⟩:=jv_.mp h
  have hv:=ER hL k'
  refine⟨hv,?_⟩
  have h1:=(GH hL hv (m+1)).mpr (by
   rw[F1]
   have:=jP_.mp cw
   show (k':Int)<many L (m+2)
   omega)
  omega
 ·rintro⟨hv,hl⟩
  have h1:=(GH hL hv (m+1)).mp (by omega)
  obtain⟨k',cw⟩:∃k':Nat,place L v=(k':Int):=⟨(place L v).toNat,by have:=Qi hL hv;omega⟩
  refine jv_.mpr ⟨k',jP_.mpr ?_,?_⟩
  ·have:(k':Int)<many L (m+2):=by rw[<-cw];exact h1
   omega
  ·exact Wt hL (ER hL k') hv (by rw[F1,cw])
theorem T6    (cQ:Can L ms vs)  (hr:r<ms.length):((r:Int),wayW vs r)∈Az vs/\isW L (wayW vs r)=true/\AK vs (wayW vs r)=(r:Int)/\(wayW vs r).length<=40:=by
 obtain⟨top,bf⟩:=Bfs.mk cQ.wf
 have hord:=cQ.order
 unfold rOf at hord
 have bC:((r:Int),wayW vs r)∈Az vs:=by
  have:(r:Int)∈(Az vs).map (·.1):=by rw[hord];exact jv_.mpr ⟨r,jP_.mpr hr,rfl⟩
  obtain⟨e,he,e1⟩:=jv_.mp this
  obtain⟨g,w⟩:=e
  have e1:g=(r:Int):=e1
  subst e1
  rw[Sn bf.nod he]
  exact he
 have lG:=bf.wd _ bC
 obtain⟨j,hj⟩:=jK_.mp bC
 have h1:=bf.sh j _ hj
 have h2:=(jb_.mp hj).1
 have h3:=bf.len
 have h4:=cQ.wf.n40
 exact⟨bC,lG.1,lG.2,by dsimp only at h1;omega⟩
theorem QI {α:Type}{p q:α->Bool}:∀{l:List α},(∀x∈l,p x=true->q x=true)->(∃x∈l,q x=true/\p x=false)->l.countP p<l.countP q
 |[],_,⟨x,hx,_⟩=>by cases hx
 |a::l,h,⟨x,hx,h1,h2⟩=>by
  have hm:l.countP p<=l.countP q:=List.countP_mono_left fun y hy=>h y (jl_ _ hy)
  rw[List.countP_cons,List.countP_cons]
  rcases jJ_.mp hx with rfl|hx
  ·rw[h1,h2];simp;omega
  ·have:=QI (l:=l) (fun y hy=>h y (jl_ _ hy)) ⟨x,hx,h1,h2⟩
   have ha:=h a jn_
   by_cases pa:p a=true
   ·rw[pa,ha pa];simp;omega
   ·have:p a=false:=by simpa using pa
    rw[this]
    have:0<=(if q a=true then 1 else 0):=jZ_ _
    simp only[jQ_,qK_];omega
theorem T7 {α:Type}[DecidableEq α]:∀{l m:List α},l.Nodup->(∀x∈l,x∈m)->l.length<=m.length
 |[],m,_,_=>jZ_ _
 |a::l,m,hn,hs=>by
  have eK:=qF_.mp hn
  have h1:=T7 (l:=l) (m:=m.erase a) eK.2 fun x hx=>by
   have:x≠a:=fun z=>eK.1 (z ▸ hx)
   exact (xf_ this).mpr (hs x (jl_ _ hx))
  have h2:=qV_ (hs a jn_)
  have h3:=qP_ (hs a jn_)
  rw[jW_];omega
theorem LE {f:Nat->Nat}{n:Nat}(h:∀i j,i<n->j<n->f i=f j->i=j):((List.range n).map f).Nodup:=by
 rw[List.nodup_iff_pairwise_ne,xE_]
 refine (List.nodup_iff_pairwise_ne.mp zx_).imp_of_mem fun {a b} ha hb cu z=>cu (h a b (jP_.mp ha) (jP_.mp hb) z)
theorem C2   (hu:isW L u=true)(hv:isW L v=true):isW L (u++v)=true:=by
 rw[AD]at hu hv ⊢
 intro x hx
 rcases jz_.mp hx with hx|hx
 ·exact hu x hx
 ·exact hv x hx
section
variable {L n m:Nat} {ms mr:α2} {vs wr:α1} {acc:Nat->α2} {E:Nat->α1}
structure Asked (L n m:Nat)(ms mr:α2)(vs wr:α1)(acc:Nat->α2)(E:Nat->α1):Prop where
 hn:n=ms.length
 w1:Wf L ms vs
 w2:Wf L mr wr
 sz:mr.length<=n+m
 acW:∀r,r<n->isW L (acc r)=true/\AK vs (acc r)=(r:Int)
 ac0:acc 0=[]
 eW:∀r,r<n->∀e∈E r,isW L e=true
 e0:∀r,r<n->[]∈E r
 sep:∀r s,r<n->s<n->r≠s->∃e,e∈E r/\e∈E s/\mkR ms (C1 vs r e)≠mkR ms (C1 vs s e)
 agr:∀r,r<n->∀v,isW L v=true->v.length<=m+1->∀e∈E (AK vs (acc r++v)).toNat,mkR ms (AK vs (acc r++v++e))=mkR mr (AK wr (acc r++v++e))
theorem QJ (aa:α1)(u v:α2):AK aa (u++v)=C1 aa (AK aa u) v:=by unfold C1 AK;rw[qM_]
theorem Asked.fwd (A:Asked L n m ms mr vs wr acc E)   (hr:r<n)(bx:r'<n)(hv:isW L v=true)(kH:isW L v'=true)(l:v.length<=m+1)(l':v'.length<=m+1)(e:AK wr (acc r++v)=AK wr (acc r'++v')):AK vs (acc r++v)=AK vs (acc r'++v'):=by
 refine qa_ fun ao=>?_
 have h1:=L2.Wf.walk' A.w1 (C2 (A.acW r hr).1 hv)
 have h2:=L2.Wf.walk' A.w1 (C2 (A.acW r' bx).1 kH)
 have hn:=A.hn
 obtain⟨x,ha,hb,hd⟩:=A.sep (AK vs (acc r++v)).toNat (AK vs (acc r'++v')).toNat (by omega) (by omega) (by omega)
 have g1:=A.agr r hr v hv l x ha
 have g2:=A.agr r' bx v' kH l' x hb
 rw[QJ vs,QJ wr]at g1 g2
 rw[xk_ h1.1,xk_ h2.1,g1,g2,e]at hd
 exact hd rfl
def FQ (L n:Nat)(wr:α1)(acc:Nat->α2)(k q:Nat):Prop:=∃r,r<n/\∃v,isW L v=true/\v.length<=k/\AK wr (acc r++v)=(q:Int)
theorem Je (A:Asked L n m ms mr vs wr acc E){k:Nat}(h:∀q,FQ L n wr acc (k+1) q->FQ L n wr acc k q):∀j q,FQ L n wr acc (k+j) q->FQ L n wr acc k q
 |0,q,g=>g
 |j+1,q,⟨r,hr,v,hv,hl,e⟩=>by
  by_cases ah:v.length<=k+j
  ·exact Je A h j q ⟨r,hr,v,hv,ah,e⟩
  ·have ao:v ≠ []:=fun z=>by subst z;simp at ah
   have ev:=(List.dropLast_concat_getLast ao).symm
   have hvv:=AD.mp hv
   have hd:isW L v.dropLast=true:=AD.mpr fun x hx=>hvv x (List.dropLast_subset _ hx)
   have hx:=hvv _ (List.getLast_mem ao)
   have w1:=L2.Wf.walk' A.w2 (C2 (A.acW r hr).1 hd)
   obtain⟨r2,dZ,v2,lH,bX,e2⟩:=Je A h j (AK wr (acc r++v.dropLast)).toNat ⟨r,hr,v.dropLast,hd,by rw[List.length_dropLast];omega,by omega⟩
   refine h q ⟨r2,dZ,v2++[v.getLast ao],C2 lH (AD.mpr fun x dO=>by rw[js_.mp dO];exact hx),by rw[jo_];simpa using bX,?_⟩
   rw[<-e]
   conv=>rhs;rw[ev]
   rw[<-qi_,<-qi_,CH,CH,e2,xk_ w1.1]
open Classical in
theorem QK (A:Asked L n m ms mr vs wr acc E):∀q,FQ L n wr acc (m+1) q->FQ L n wr acc m q:=by
 refine qa_ fun cM=>?_
 have up:∀k q,FQ L n wr acc k q->FQ L n wr acc (k+1) q:=fun k q ⟨r,hr,v,hv,hl,e⟩=>⟨r,hr,v,hv,by omega,e⟩
 have lt:∀k q,FQ L n wr acc k q->q<mr.length:=fun k q ⟨r,hr,v,hv,hl,e⟩=>by
  have:=L2.Wf.walk' A.w2 (C2 (A.acW r hr).1 hv)
  omega
 have grow:∀k,k<=m+1->n+k<=(List.range mr.length).countP (fun q=>decide (FQ L n wr acc k q)):=by
  intro k
  induction k with
  |zero=>
   intro _
   rw[List.countP_eq_length_filter]
   have:=T7 (l:=(List.range n).map fun r=>(AK wr (acc r)).toNat) (m:=(List.range mr.length).filter fun q=>decide (FQ L n wr acc 0 q)) (LE fun i j hi hj e=>?_) (fun x hx=>?_)
   ·rw[ja_,qX_]at this
    omega
   ·have wi:=L2.Wf.walk' A.w2 (A.acW i hi).1
    have wj:=L2.Wf.walk' A.w2 (A.acW j hj).1
    have:=A.fwd (v:=[]) (v':=[]) hi hj rfl rfl (by simp) (by simp) (by rw[qj_,qj_];omega)
    rw[qj_,qj_,(A.acW i hi).2,(A.acW j hj).2]at this
    omega
   ·obtain⟨r,hr,rfl⟩:=jv_.mp hx
    have hr:=jP_.mp hr
    have wi:=L2.Wf.walk' A.w2 (A.acW r hr).1
    refine zE_.mpr ⟨jP_.mpr (by omega),qh_ ⟨r,hr,[],rfl,jg_ _,by rw[qj_];omega⟩⟩
  |succ k ih=>
   intro hk
   have h1:=ih (by omega)
   have hex:∃q,FQ L n wr acc (k+1) q/\¬ FQ L n wr acc k q:=by
    refine qa_ fun hh=>cM ?_
    have st:∀q,FQ L n wr acc (k+1) q->FQ L n wr acc k q:=fun q g=>qa_ fun z=>hh ⟨q,g,z⟩
    intro q g
    have e:m+1=k+(m+1-k):=by omega
    rw[e]at g
    obtain⟨r,hr,v,hv,hl,e⟩:=Je A st _ q g
    exact⟨r,hr,v,hv,by omega,e⟩
   obtain⟨q,g1,g2⟩:=hex
   have h2:=QI (l:=List.range mr.length) (p:=fun q=>decide (FQ L n wr acc k q)) (q:=fun q=>decide (FQ L n wr acc (k+1) q)) (fun x _ hx=>qh_ (up k x (qA_ hx))) ⟨q,jP_.mpr (lt _ q g1),qh_ g1,qd_ g2⟩
   omega
 have h1:=grow (m+1) (jg_ _)
 have h2:=List.countP_le_length (l:=List.range mr.length) (p:=fun q=>decide (FQ L n wr acc (m+1) q))
 rw[qX_]at h2
 have:=A.sz
 omega
theorem Asked.all (A:Asked L n m ms mr vs wr acc E):∀w,isW L w=true->mkR ms (AK vs w)=mkR mr (AK wr w):=by
 have hn:=A.hn
 have n1:=A.w1.n1
 have key:∀w:α2,isW L w.reverse=true->∃r,r<n/\∃v,isW L v=true/\v.length<=m/\AK wr w.reverse=AK wr (acc r++v)/\AK vs w.reverse=AK vs (acc r++v):=by
  intro w
  induction w with
  |nil=>exact fun _=>⟨0,by omega,[],rfl,jZ_ _,by rw[A.ac0];rfl,by rw[A.ac0];rfl⟩
  |cons x w ih=>
   intro hw
   rw[List.reverse_cons]at hw ⊢
   have b7:isW L w.reverse=true:=AD.mpr fun y hy=>AD.mp hw y (j9_ _ hy)
   have hx:isW L [x]=true:=AD.mpr fun y hy=>AD.mp hw y (jw_ _ hy)
   obtain⟨r,hr,v,hv,hl,e1,e2⟩:=ih b7
   have nQ:=C2 hv hx
   have w1:=L2.Wf.walk' A.w2 (C2 (A.acW r hr).1 nQ)
   obtain⟨r2,dZ,v2,lH,bX,e3⟩:=QK A (AK wr (acc r++(v++[x]))).toNat ⟨r,hr,v++[x],nQ,by rw[jo_];simpa using hl,by omega⟩
   have e4:AK wr (acc r++(v++[x]))=AK wr (acc r2++v2):=by rw[e3];omega
   refine⟨r2,dZ,v2,lH,bX,?_,?_⟩
   ·rw[<-e4,CH,e1,<-qi_,CH]
   ·rw[<-A.fwd hr dZ nQ lH (by rw[jo_];simpa using hl) (by omega) e4,CH,e2,<-qi_,CH]
 intro w hw
 obtain⟨r,hr,v,hv,hl,e1,e2⟩:=key w.reverse (by rw[q0_];exact hw)
 rw[q0_]at e1 e2
 rw[e1,e2]
 have h1:=L2.Wf.walk' A.w1 (C2 (A.acW r hr).1 hv)
 have:=A.agr r hr v hv (by omega) [] (A.e0 _ (by omega))
 rw[qj_]at this
 exact this
end
theorem Xk {kvs:List (List Key×V)}{ws:α1}(h:GT (ws.foldl ins []) kvs){w:α2}:(valV kvs (wkey w)).isSome=decide (w∈ws):=by
 rw[h.some_iff w]
 exact decide_eq_decide.mpr LD
theorem Dn_    (cQ:Can L ms vs)  (hr:r<ms.length)(hs:s<ms.length)(ao:r≠s):∃e,(wcOf ms.length L (bW ms vs)).1.find? (fun v=>decide (bW ms vs v s≠bW ms vs v r))=some e/\isW L e=true/\bW ms vs e s≠bW ms vs e r/\e∈(wcOf ms.length L (bW ms vs)).1:=by
 have fin:=Fin17.mk' (b:=bW ms vs) (L:=L) cQ.wf.n1 cQ.wf.n40
 cases hf:(wcOf ms.length L (bW ms vs)).1.find? (fun v=>decide (bW ms vs v s≠bW ms vs v r)) with
 |some e=>
  have hm:=xt_ hf
  have hd:=zN_ hf
  exact⟨e,rfl,AD.mpr (fin.wc.ok e hm),qA_ hd,hm⟩
 |none=>
  refine absurd ?_ ao
  have ar:=xQ_.mp hf
  have hc:=(fin.wc.iff r s hr hs).mpr fun w hw=>by
   have:=ar w hw
   exact (qa_ fun z=>this (qh_ (qv_ z)))
  have bO:cf (wcOf ms.length L (bW ms vs)).2 r=cf (wcOf ms.length L (bW ms vs)).2 s:=by
   have e1:=Qt (c:=(wcOf ms.length L (bW ms vs)).2) fin.wc.len (r:=(r:Int)) (by omega) (by omega)
   have e2:=Qt (c:=(wcOf ms.length L (bW ms vs)).2) fin.wc.len (r:=(s:Int)) (by omega) (by omega)
   rw[ji_]at e1 e2
   rw[e1,e2]at hc
   exact jp_ hc
  exact cQ.red r s hr hs fun w hw=>RV cQ.wf fin w hw (by omega) (by omega) (by omega) (by omega) bO
theorem YJ     (hn:n<=40)(hm:ck.length<=341)(hE:∀r<n,∀v∈ck,(E (AK aa (wayW aa r++v)).toNat).length<=40):(allW aa n ck E).length<=545600:=by
 unfold allW
 have h1:=Iq (f:=fun r=>ck.flatMap (oneW aa E r)) (c:=13640) (List.range n) (fun r hr=>by
  have h2:=Iq (f:=oneW aa E r) (c:=40) ck (fun v hv=>by unfold oneW;rw[ja_];exact hE r (jP_.mp hr) v hv)
  omega)
 rw[qX_]at h1
 have h2:n*13640<=40*13640:=Nat.mul_le_mul_right _ (by omega)
 omega
theorem YK   (h:many L (m+2)<=341):(Fs L m).length<=341:=by
 rw[ja_,qX_];omega
theorem U4 {L:Nat}{marks:α2}{aa:α1}{m:Nat}(wf:Wf L marks aa)(h:many L (m+2)<=341):(Ir L marks aa m).length<=545600:=by
 have bp:=sWf wf
 have fin:=Fin17.mk' (b:=bW (sM L marks aa) (sW L marks aa)) (L:=L) bp.n1 bp.n40
 unfold Ir
 refine YJ bp.n40 (YK h) fun r hr v hv=>?_
 have h1:=fin.wc.le
 have h2:=NC (wcOf (sM L marks aa).length L (bW (sM L marks aa) (sW L marks aa))).2
 rw[fin.wc.len]at h2
 have:=bp.n40
 omega
def NW (K:α3):Sp:=fun vs H Q _=>∃(h:Addr) (L:Int) (marks:α2) (aa:α1),vs=[.ref h]/\BO K H h L marks aa/\Wf L marks aa/\∀p H',Same H H'->H p=none->H' p=some (.lst (((Az aa).map (·.1)).map V.int))->Q (.ref p) H'
theorem JU   (F:Fun K "_law_order_of" "_law_order_of" Bv f fd)(T:Txt mg)
  : FnOk P w K mg base CX0 1 f fd ["house"] (NW K):=by
 refine F.ok By (fun vs H Q E h=>?_) (fun aq A outer s H vs Q E hr h=>?_)
 ·obtain⟨h,L,marks,aa,rfl,_⟩:=h;rfl
 ·obtain⟨h,L,marks,aa,rfl,hh,wf,k⟩:=h
  have hl:=AC
  have b8:=wf.l1
  have bQ:=wf.n1
  have aN:=wf.n40
  refine⟨_,(Ad (Aj (i:=1) By.nd (Cn (Aa Ac Ae)))
   (Ad (Aj (i:=2) By.nd Ac)
   (Ad (GD jI_ (ptT (Av (opD0 KO) (pvD 2) (As (lenD Ak) (by rfl) T.len jH_ (Aa (pvD 1) Ae)) (AS _)))
   (Ad (Aj (i:=3) By.nd (Ah (ixTD Ao) (Ah (ixTD Ao) (pvD 0) Ac) (Ah (ixLD Bi) (pvD 1) (pvD 2))))
   (Ad (Cb jI_ rfl (FU (pvD 3)) (At (i:=4) By.nd rfl (Or.inl rfl))
   (Ag (Cq (ptT (Av Jq (pvD 4) (pvD 1) rfl))
   (Ag (BN (Fd jD_ jL_ jM_ Bd (pvD 1) (Aa (pvD 4) Ae))))
   AU)))
   (Ag (Aj (i:=2) By.nd (An (opD0 Bh) (pvD 2) Ac))))))
   (Ag (AO (pvD 1)))))),?_⟩
  walk_at "rd"
  refine⟨by omega,fun p2 aP=>?_⟩
  have s0:Same H (upd H p2 (.lst [V.int 0])):=Same.new aP
  have cZ:upd H p2 (.lst [V.int 0]) p2=some (.lst ((([(0,[])]:List (Int×α2)).map (·.1)).map V.int)):=Ab
  generalize upd H p2 (.lst [V.int 0])=H0 at s0 cZ ⊢
  obtain⟨Pv,ai⟩:∃Pv:Nat->St->Hp->Prop,∀m af H2,Pv m af H2↔(∃(ents:List (Int×α2)) (i:Nat) (top:Int) (o4 o5:Option V),m=marks.length+1-i/\Same H H2/\H2 p2=some (.lst ((ents.map (·.1)).map V.int))/\Bfs L marks.length aa ents i top/\(∀e,ents[i]?=some e->top<=place L e.2*L+1)/\bfs aa (marks.length+1-i) ents i=Az aa/\af=[some (.ref h),some (.ref p2),some (.int i),o4,o5]):=⟨_,fun _ _ _=>ql_⟩
  refine Ny Pv ⟨_,(ai _ _ _).mpr ⟨[(0,[])],0,1,none,none,rfl,s0,cZ,Bfs.start L bQ aa,fun e he=>?_,by unfold Az;rw[wf.len];rfl,rfl⟩⟩ ?_
  ·simp at he;subst he;simp[place,Be]
  intro m af H2 dD
  obtain⟨ents,i,top,o4,o5,rfl,s2,dZ,bf,iH,cb,rfl⟩:=(ai _ _ _).mp dD
  have hbl:=bf.len
  walk_at "rd"
  refine⟨_,.inl (SqL.of dZ),?_⟩
  rw[ja_,ja_]
  refine ite2 (fun ah=>?_) (fun aV=>?_)
  ·have hi:i<ents.length:=by omega
   obtain⟨e,he⟩:∃e,ents[i]?=some e:=⟨ents[i],by simp[hi]⟩
   obtain⟨r,w⟩:=e
   have aM:=jd_ he
   have bx:=bf.rng _ aM
   have htop':top<=place L w*L+1:=iH _ he
   obtain⟨row,hrow,d0,cO⟩:=wf.row bx.1 bx.2
   have kc:aa.getD r.toNat []=row:=by rw[jh_,hrow];rfl
   obtain⟨mm,wv,q1,q2,q3⟩:=id hh
   obtain⟨xs,t,z1,z2,z3⟩:=q3.atZ bx.1 hrow
   refine⟨Pv (marks.length+1-(i+1)),fun ae H' h=>⟨_,by omega,h⟩,?_⟩
   refine⟨_,s2.seqT q1,_,rfl,_,SqL.of dZ,_,Bs (v:=r) (by omega) (by rw[ji_,je_,he];rfl),_,rfl,_,_,rfl,s2.seqT z1,_,z2,_,rfl,⟨_,s2.seqT z3⟩,?_⟩
   obtain⟨Pn,cx⟩:∃Pn:Nat->St->Hp->Prop,∀x av H3,Pn x av H3↔(∃(ak:List (Int×α2)) (o5:Option V),Same H H3/\H3 p2=some (.lst ((ak.map (·.1)).map V.int))/\Bfs L marks.length aa ak i (place L w*L+(x:Int)+1)/\Seen L aa ak r w x/\ak[i]?=some (r,w)/\Et w ak x (row.drop x)=Et w ents 0 row/\av=[some (.ref h),some (.ref p2),some (.int i),some (.ref t),o5]):=⟨_,fun _ _ _=>ql_⟩
   refine forT (xs:=row.map V.int) Pn ((cx _ _ _).mpr ⟨ents,o5,s2,dZ,bf.up (by push_cast;omega),(fun y h0 h1=>absurd h1 (by push_cast;omega)),he,rfl,rfl⟩) (fun x av H3 _ h3=>?_) (fun x v av H3 hx h3=>?_) (fun av H3 h3=>?_)
   ·obtain⟨ak,_,s3,_⟩:=(cx _ _ _).mp h3
    exact s3.seqT z3
   ·obtain⟨ak,o5,s3,cP,c9,gc,fN,cc,rfl⟩:=(cx _ _ _).mp h3
    obtain⟨g,hg,rfl⟩:=Di hx
    have bL:=(jb_.mp hg).1
    have iI:=(wf.rows row d0).2 g (jd_ hg)
    have m5:g=Cr aa r (x:Int):=(CG hrow (by rw[ji_];exact hg)).symm
    have dF:=jd_ fN
    have fi:row.drop x=g::row.drop (x+1):=by
     rw[q5_ bL]
     congr 1
     exact (jb_.mp hg).2
    obtain⟨d6,gd⟩:=c9.letter (by omega) gc dF (by omega) m5 iI
    have gf:=Hm (g:=g) (v:=w++[(x:Int)]) fN
    rw[fi,Hl]at cc
    walk_at "rd"
    refine⟨_,.inl (SqL.of cP),rfl,KY _,?_⟩
    rw[Tv]
    by_cases hm:g∈ak.map (·.1)
    ·rw[if_pos hm]at d6 gd gf cc
     rw[qh_ hm,if_neg (by simp)]
     exact (cx _ _ _).mpr ⟨ak,_,s3,cP,d6,gd,gf,cc,rfl⟩
    ·rw[if_neg hm]at d6 gd gf cc
     rw[qd_ hm,if_pos (by simp)]
     refine⟨.inl ⟨rfl,_,SqL.of cP⟩,_,cP,by have:=c9.len;simp;omega,(cx _ _ _).mpr ⟨ak++[(g,w++[(x:Int)])],_,s3.over aP,by rw[Ab];simp,d6,gd,gf,cc,rfl⟩⟩
   ·obtain⟨ak,o5,s3,cP,c9,gc,fN,cc,rfl⟩:=(cx _ _ _).mp h3
    rw[ja_]at c9 gc cc
    rw[List.drop_length,IF]at cc
    walk_at "rd"
    obtain⟨d6,fj⟩:=c9.next (by omega) cO gc fN
    refine (ai _ _ _).mpr ⟨ak,i+1,_,_,_,rfl,s3,cP,d6,fj,?_,by push_cast;rfl⟩
    rw[show marks.length+1-i=(marks.length+1-(i+1))+1 by omega,Oj he]at cb
    rw[cc,<-kc]
    exact cb
  ·have hi:i=ents.length:=by have:=bf.il;omega
   subst hi
   rw[Oi (by simp)]at cb
   walk_at "rd"
   rw[<-cb]at k
   exact k p2 H2 s2 aP dZ
theorem Jy {α:Type}[DecidableEq α]{l k:List α}(h:l.Nodup)(hs:∀x∈l,x∈k):l.length<=k.length:=by
 induction l generalizing k with
 |nil=>simp
 |cons a l ih=>
  rw[qF_]at h
  have ha:=hs a jn_
  have h1:∀x∈l,x∈k.erase a:=fun x hx=>by
   refine (xf_ ?_).mpr (hs x (jl_ _ hx))
   intro z;subst z;exact h.1 hx
  have:=ih h.2 h1
  rw[qV_ ha]at this
  have hp:=qP_ ha
  rw[jW_];omega
section
variable {rs:α2} {E:Nat->Int->Int->Prop}
def Xy (rs:α2)(E:Nat->Int->Int->Prop)(k i:Nat):Prop:=∀a,rs[i]?=some a->∀j b,j<i->rs[j]?=some b->¬ E k b a
open Classical in
noncomputable def Gm (rs:α2)(E:Nat->Int->Int->Prop)(k:Nat):List Nat:=(List.range rs.length).filter fun i=>decide (Xy rs E k i)
open Classical in
theorem DJ {k i:Nat}:i∈Gm rs E k↔i<rs.length/\Xy rs E k i:=by
 unfold Gm
 rw[zE_,jP_,qq_]
theorem LF (k:Nat):(Gm rs E k).Nodup:=zx_.filter _
theorem T8 (rf:∀k a,E k a a)(sy:∀k a b,E k a b->E k b a)(tr:∀k a b c,E k a b->E k b c->E k a c)(k:Nat):∀(n i:Nat) (a:Int),i<=n->rs[i]?=some a->∃j b,rs[j]?=some b/\E k b a/\Xy rs E k j:=by
 intro n
 induction n with
 |zero=>
  intro i a hi ha
  have:i=0:=by omega
  subst this
  exact⟨0,a,ha,rf k a,fun a' _ j b hj=>absurd hj (xj_ _)⟩
 |succ n ih=>
  intro i a hi ha
  by_cases h:Xy rs E k i
  ·exact⟨i,a,ha,rf k a,h⟩
  ·unfold Xy at h
   simp only[Classical.not_forall]at h
   obtain⟨a',e',j,b,hj,hb,hE⟩:=h
   rw[ha]at e'
   cases e'
   have hE:E k b a:=Classical.not_not.mp hE
   obtain⟨j',b',h1,h2,h3⟩:=ih j b (by omega) hb
   exact⟨j',b',h1,tr k _ _ _ h2 hE,h3⟩
theorem Do_ (rf:∀k a,E k a a)(sy:∀k a b,E k a b->E k b a)(tr:∀k a b c,E k a b->E k b c->E k a c)(mo:∀k a b,E (k+1) a b->E k a b)   (ha:a∈rs)(hb:b∈rs)(h:E k a b)(hn:¬ E (k+1) a b):(Gm rs E k).length+1<=(Gm rs E (k+1)).length:=by
 have sub:∀i∈Gm rs E k,i∈Gm rs E (k+1):=fun i hi=>by
  obtain⟨h1,h2⟩:=DJ.mp hi
  exact DJ.mpr ⟨h1,fun a ha j b hj hb hE=>h2 a ha j b hj hb (mo k _ _ hE)⟩
 obtain⟨i,hi,hni⟩:∃i,i∈Gm rs E (k+1)/\i∉Gm rs E k:=by
  refine qa_ fun hc=>hn ?_
  have ar:∀i,i∈Gm rs E (k+1)->i∈Gm rs E k:=fun i hi=>qa_ fun z=>hc ⟨i,hi,z⟩
  obtain⟨ia,hia⟩:=jK_.mp ha
  obtain⟨ib,hib⟩:=jK_.mp hb
  obtain⟨j1,c1,p1,p2,p3⟩:=T8 (rs:=rs) rf sy tr (k+1) ia ia a (jg_ _) hia
  obtain⟨j2,c2,r1,r2,r3⟩:=T8 (rs:=rs) rf sy tr (k+1) ib ib b (jg_ _) hib
  have g1:=(DJ.mp (ar j1 (DJ.mpr ⟨(jb_.mp p1).1,p3⟩))).2
  have g2:=(DJ.mp (ar j2 (DJ.mpr ⟨(jb_.mp r1).1,r3⟩))).2
  have e12:E k c1 c2:=tr k _ _ _ (mo k _ _ p2) (tr k _ _ _ h (sy k _ _ (mo k _ _ r2)))
  have ej:j1=j2:=by
   refine qa_ fun ao=>?_
   rcases Nat.lt_or_gt_of_ne ao with ah|ah
   ·exact g2 c2 r1 j1 c1 ah p1 e12
   ·exact g1 c1 p1 j2 c2 ah r1 (sy k _ _ e12)
  subst ej
  rw[p1]at r1
  cases r1
  exact tr _ _ _ _ (sy _ _ _ p2) r2
 have:=Jy (l:=i::Gm rs E k) (k:=Gm rs E (k+1)) (by rw[qF_];exact⟨hni,LF k⟩) fun y hy=>by
  rcases jJ_.mp hy with rfl|hy
  ·exact hi
  ·exact sub y hy
 simpa using this
theorem Dp_ (rf:∀k a,E k a a)(sy:∀k a b,E k a b->E k b a)(tr:∀k a b c,E k a b->E k b c->E k a c)(mo:∀k a b,E (k+1) a b->E k a b)(st:∀k,(∀a∈rs,∀b∈rs,E k a b->E (k+1) a b)->∀a∈rs,∀b∈rs,E (k+1) a b->E (k+2) a b)(h0:0<rs.length)  (ha:a∈rs)(hb:b∈rs)(h:E rs.length a b)(j:Nat):E j a b:=by
 have key:∀k,(∃k',k'<k/\∀a∈rs,∀b∈rs,E k' a b->E (k'+1) a b)\/k+1<=(Gm rs E k).length:=by
  intro k
  induction k with
  |zero=>
   right
   have:0∈Gm rs E 0:=DJ.mpr ⟨h0,fun a _ j b hj=>absurd hj (xj_ _)⟩
   exact qP_ this
  |succ k ih=>
   rcases ih with ⟨k',h1,h2⟩|ih
   ·exact .inl ⟨k',by omega,h2⟩
   ·by_cases hs:∀a∈rs,∀b∈rs,E k a b->E (k+1) a b
    ·exact .inl ⟨k,by omega,hs⟩
    ·simp only[Classical.not_forall]at hs
     obtain⟨a,ha,b,hb,h1,h2⟩:=hs
     right
     have:=Do_ rf sy tr mo ha hb h1 h2
     omega
 have hle:(Gm rs E rs.length).length<=rs.length:=by
  have:=Jy (l:=Gm rs E rs.length) (k:=List.range rs.length) (LF _) fun i hi=>jP_.mpr (DJ.mp hi).1
  simpa using this
 rcases key rs.length with ⟨k',h1,h2⟩|h1
 ·have up:∀d,∀a∈rs,∀b∈rs,E (k'+d) a b->E (k'+d+1) a b:=by
   intro d
   induction d with
   |zero=>exact h2
   |succ d ih=>exact st _ ih
  have far:∀d,E (rs.length+d) a b:=by
   intro d
   induction d with
   |zero=>exact h
   |succ d ih=>
    have:=up (rs.length+d-k') a ha b hb (by rw[show k'+(rs.length+d-k')=rs.length+d by omega];exact ih)
    rw[show k'+(rs.length+d-k')+1=rs.length+(d+1) by omega]at this
    exact this
  have down:∀d i,E (i+d) a b->E i a b:=by
   intro d
   induction d with
   |zero=>exact fun i h=>h
   |succ d ih=>exact fun i h=>ih i (mo _ _ _ h)
  exact down rs.length j (by rw[Nat.add_comm];exact far j)
 ·omega
end
def Jf (L:Int)(marks:α2)(aa:α1)(k:Nat)(a b:Int):Prop:=∀v,isW L v=true->v.length<=k->mkW marks (C1 aa a v)=mkW marks (C1 aa b v)
theorem Jf.succ      : Jf L marks aa (k+1) a b↔Jf L marks aa k a b/\∀x:Int,0<=x->x<L->Jf L marks aa k (Cr aa a x) (Cr aa b x):=by
 constructor
 ·intro h
  refine⟨fun v hv hl=>h v hv (by omega),fun x x0 x1 v hv hl=>?_⟩
  have:=h (x::v) (AD.mpr fun y hy=>by
   rcases jJ_.mp hy with rfl|hy
   ·exact⟨x0,x1⟩
   ·exact AD.mp hv y hy) (by rw[jW_];omega)
  rw[BZ,BZ]at this
  exact this
 ·rintro⟨h1,h2⟩ v hv hl
  cases v with
  |nil=>exact h1 [] hv (by simp)
  |cons x v=>
   have hx:=AD.mp hv x jn_
   rw[BZ,BZ]
   exact h2 x hx.1 hx.2 v (AD.mpr fun y hy=>AD.mp hv y (jl_ _ hy)) (by rw[jW_]at hl;omega)
theorem Jf.all {L:Int}{marks:α2}{aa:α1}{rs:α2}(hz:0∈rs)(cl:∀r∈rs,∀x:Int,0<=x->x<L->Cr aa r x∈rs){a b:Int}(ha:a∈rs)(hb:b∈rs)(h:Jf L marks aa rs.length a b):∀v,isW L v=true->mkW marks (C1 aa a v)=mkW marks (C1 aa b v):=fun v hv=>
 Dp_ (rs:=rs) (E:=Jf L marks aa) (fun _ _ _ _ _=>rfl) (fun _ _ _ h v hv hl=>(h v hv hl).symm) (fun _ _ _ _ h g v hv hl=>(h v hv hl).trans (g v hv hl)) (fun _ _ _ h=>(Jf.succ.mp h).1) (fun k hs a ha b hb h=>by
  obtain⟨h1,h2⟩:=Jf.succ.mp h
  exact Jf.succ.mpr ⟨h,fun x x0 x1=>hs _ (cl a ha x x0 x1) _ (cl b hb x x0 x1) (h2 x x0 x1)⟩) (qP_ hz) ha hb h v.length v hv (jg_ _)
def ln41 (names:α2)(aa:α1)(r:Nat):α2:=names.getD r 0::(aa.getD r []).map fun a=>names.getD a.toNat 0
def Ex (L:Int)(marks:α2)(aa:α1)(k:Nat)(names:α2):Prop:=names.length=marks.length/\∀a b:Nat,a<marks.length->b<marks.length->(names.getD a 0=names.getD b 0↔Jf L marks aa k a b)
theorem Ex.more    (wf:Wf L marks aa)   (h:Ex L marks aa k names)(hl:dj.length=marks.length)(he:∀a b:Nat,a<marks.length->b<marks.length->(dj.getD a 0=dj.getD b 0↔ln41 names aa a=ln41 names aa b)):Ex L marks aa (k+1) dj:=by
 refine⟨hl,fun a b ha hb=>?_⟩
 rw[he a b ha hb,Jf.succ]
 obtain⟨ra,lI,ra2,ra3⟩:=wf.row (r:=(a:Int)) (by omega) (by omega)
 obtain⟨rb,lJ,rb2,rb3⟩:=wf.row (r:=(b:Int)) (by omega) (by omega)
 rw[ji_]at lI lJ
 have ga:aa.getD a []=ra:=by rw[jh_,lI];rfl
 have gb:aa.getD b []=rb:=by rw[jh_,lJ];rfl
 have st:∀(c:Nat) (rc:α2),aa[c]?=some rc->rc∈aa->∀x:Nat,(x:Int)<L->∃g:Nat,rc[x]?=some (g:Int)/\g<marks.length/\Cr aa c x=g:=fun c rc h1 h2 x hx=>by
  have h3:=wf.rows rc h2
  have bL:x<rc.length:=by omega
  have h4:=h3.2 rc[x] (j2_ _)
  refine⟨rc[x].toNat,by rw[jf_ bL];congr 1;omega,by omega,?_⟩
  rw[CG (row:=rc) (g:=rc[x]) (by rw[ji_];exact h1) (by rw[ji_];exact jf_ bL)]
  omega
 unfold ln41
 rw[ga,gb,xG_,h.2 a b ha hb]
 refine and_congr ql_ ?_
 constructor
 ·intro e x x0 x1
  obtain⟨xn,rfl⟩:∃xn:Nat,x=(xn:Int):=⟨x.toNat,by omega⟩
  obtain⟨g,g1,g2,g3⟩:=st a ra lI ra2 xn x1
  obtain⟨f,f1,f2,f3⟩:=st b rb lJ rb2 xn x1
  rw[g3,f3,<-h.2 g f g2 f2]
  have:=jG_ (fun l:α2=>l[xn]?) e
  simp only[je_,g1,f1,Option.map_some,ji_,zj_]at this
  exact this
 ·intro e
  refine qL_ fun xn=>?_
  by_cases hx:(xn:Int)<L
  ·obtain⟨g,g1,g2,g3⟩:=st a ra lI ra2 xn hx
   obtain⟨f,f1,f2,f3⟩:=st b rb lJ rb2 xn hx
   have e1:=e (xn:Int) (by omega) hx
   rw[g3,f3,<-h.2 g f g2 f2]at e1
   simp only[je_,g1,f1,Option.map_some,ji_,zj_]
   exact e1
  ·rw[jR_ (by rw[ja_];omega),jR_ (by rw[ja_];omega)]
theorem Ex.first    : Ex L marks aa 0 marks:=⟨rfl,fun a b ha hb=>by
 constructor
 ·intro e v hv hl
  have:v=[]:=List.length_eq_zero_iff.mp (by omega)
  subst this
  show marks.getD ((a:Int)).toNat 0=marks.getD ((b:Int)).toNat 0
  rw[ji_,ji_];exact e
 ·intro h
  have:=h [] (AD.mpr fun x hx=>(by cases hx)) (jZ_ _)
  have:marks.getD ((a:Int)).toNat 0=marks.getD ((b:Int)).toNat 0:=this
  rw[ji_,ji_]at this
  exact this⟩
def G0 (H:Hp)(xs:List V)(ks:α1):Prop:=xs.length=ks.length/\∀(i:Nat) (k:α2),ks[i]?=some k->∃(t l:Addr) (c:Int) (w:α2),xs[i]?=some (.ref t)/\k=c::w/\H t=some (.tup [.int c,.ref l])/\H l=some (.lst (w.map V.int))
theorem G0.nil  : G0 H [] []:=⟨rfl,fun i k h=>by simp at h⟩
theorem G0.mono    (h:G0 H xs ks)(s:Same H H'):G0 H' xs ks:=⟨h.1,fun i k hk=>let ⟨t,l,c,w,a,b,d,e⟩:=h.2 i k hk;⟨t,l,c,w,a,b,s _ _ d,s _ _ e⟩⟩
theorem G0.snoc {H:Hp}{xs:List V}{ks:α1}(h:G0 H xs ks){t l:Addr}{c:Int}{w:α2}(ht:H t=some (.tup [.int c,.ref l]))(hl:H l=some (.lst (w.map V.int))):G0 H (xs++[.ref t]) (ks++[c::w]):=by
 refine⟨by rw[jo_,jo_,h.1];rfl,fun i k hk=>?_⟩
 by_cases hi:i<ks.length
 ·rw[jj_ hi]at hk
  obtain⟨t',l',c',w',a,b,d,e⟩:=h.2 i k hk
  exact⟨t',l',c',w',by rw[jj_ (by rw[h.1];exact hi)];exact a,b,d,e⟩
 ·rw[ju_ (by omega)]at hk
  have h0:i-ks.length=0:=by
   have:=(jb_.mp hk).1
   simpa using this
  rw[h0]at hk
  have hk:c::w=k:=by simpa using hk
  subst hk
  exact⟨t,l,c,w,by rw[ju_ (by rw[h.1];omega),h.1,h0];rfl,rfl,ht,hl⟩
theorem G0.at {H:Hp}{xs:List V}{ks:α1}(h:G0 H xs ks){i:Nat}{x:V}(hx:xs[i]?=some x):∃(t l:Addr) (c:Int) (w:α2),ks[i]?=some (c::w)/\x=.ref t/\H t=some (.tup [.int c,.ref l])/\H l=some (.lst (w.map V.int)):=by
 have hi:i<ks.length:=by rw[<-h.1];exact (jb_.mp hx).1
 obtain⟨t,l,c,w,a,b,d,e⟩:=h.2 i ks[i] (by simp[hi])
 rw[hx]at a
 exact⟨t,l,c,w,by rw[<-b];simp[hi],jp_ a,d,e⟩
theorem eqP {K:α3}{H:Hp}{t l t' l':Addr}{c c':Int}{w w':α2}(ht:H t=some (.tup [.int c,.ref l]))(hl:H l=some (.lst (w.map V.int)))(dz:H t'=some (.tup [.int c',.ref l']))(d8:H l'=some (.lst (w'.map V.int))):
  EqD K H 4 (.ref t) (.ref t') (decide (c::w=c'::w')):=by
 refine .inr ⟨t,t',_,_,rfl,rfl,.inr ⟨SqT.of ht,SqT.of dz⟩,fun i=>if i=0 then decide (c=c') else decide (w=w'),fun i x y hx hy=>?_,?_⟩
 ·match i,hx,hy with
  |0,hx,hy=>
   cases hx;cases hy
   refine .inl ⟨rfl,rfl,?_⟩
   show decide (c=c')=(c==c')
   by_cases h:c=c'<;>simp[h]
  |1,hx,hy=>
   cases hx;cases hy
   have:=EqD.ints (K:=K) (xs:=w) (ys:=w') (.inl ⟨SqL.of hl,SqL.of d8⟩) 2
   exact this
  |i+2,hx,hy=>simp at hx
 ·rw[qx_,qq_]
  simp[xU_]
theorem G0.eqs {K:α3}{H:Hp}{xs:List V}{ks:α1}(h:G0 H xs ks){t l:Addr}{c:Int}{w:α2}(ht:H t=some (.tup [.int c,.ref l]))(hl:H l=some (.lst (w.map V.int))):EqsD K H 4 xs (.ref t) (fun i=>decide (ks[i]?=some (c::w))):=by
 refine⟨fun i v hv=>?_,fun i j v hi hj=>?_⟩
 ·obtain⟨t',l',c',w',a,rfl,d,e⟩:=h.at hv
  refine⟨t',rfl,?_⟩
  show EqD K H 4 (.ref t') (.ref t) (decide (ks[i]?=some (c::w)))
  rw[show (decide (ks[i]?=some (c::w)))=decide (c'::w'=c::w) by rw[a];simp]
  exact eqP d e ht hl
 ·obtain⟨t1,l1,c1,w1,a1,rfl,d1,e1⟩:=h.at hi
  obtain⟨t2,l2,c2,w2,a2,z,d2,e2⟩:=h.at hj
  cases z
  rw[d1]at d2
  cases d2
  rw[e1]at e2
  have:=jp_ e2
  injection this with this
  have:=(zQ_ (fun x y z=>V.int.inj z)).mp this
  show decide (ks[i]?=some (c::w))=decide (ks[j]?=some (c::w))
  rw[a1,a2,this]
theorem Bt_ {ks:α1}{k:α2}:((List.range ks.length).any fun i=>decide (ks[i]?=some k))=decide (k∈ks):=by
 rw[qx_,x2_,qq_]
 constructor
 ·rintro⟨i,_,h⟩
  exact jd_ (qA_ h)
 ·intro h
  obtain⟨i,hi⟩:=jK_.mp h
  exact⟨i,jP_.mpr (jb_.mp hi).1,qh_ hi⟩
def Dy (names:α2)(aa:α1):α1:=(List.range names.length).map (ln41 names aa)
def nx31 (names:α2)(aa:α1):α2:=(Dy names aa).map fun k=>((((Dy names aa).foldl ins []).idxOf k:Nat):Int)
theorem Ex.turn    (wf:Wf L marks aa)   (h:Ex L marks aa k names):Ex L marks aa (k+1) (nx31 names aa):=by
 have at_:∀a:Nat,a<marks.length->(Dy names aa)[a]?=some (ln41 names aa a):=fun a ha=>by
  unfold Dy
  rw[je_,qG_ (by rw[h.1];exact ha)];rfl
 have nat:∀a:Nat,a<marks.length->(nx31 names aa).getD a 0=((((Dy names aa).foldl ins []).idxOf (ln41 names aa a):Nat):Int):=fun a ha=>by
  unfold nx31
  rw[jh_,je_,at_ a ha];rfl
 refine Ex.more wf h (by unfold nx31 Dy;rw[ja_,ja_,qX_,h.1]) fun a b ha hb=>?_
 rw[nat a ha,nat b hb]
 constructor
 ·intro e
  have e:((Dy names aa).foldl ins []).idxOf (ln41 names aa a)=((Dy names aa).foldl ins []).idxOf (ln41 names aa b):=by omega
  have ma:=LD.mpr (jd_ (at_ a ha))
  have mb:=LD.mpr (jd_ (at_ b hb))
  have ga:=qZ_ (xH_.mpr ma)
  have gb:=qZ_ (xH_.mpr mb)
  rw[<-ga,<-gb]
  congr 1
 ·intro e;rw[e]
def Xz (K:α3):Sp:=fun vs H Q _=>∃(h:Addr) (L:Int) (marks:α2) (aa:α1),vs=[.ref h]/\BO K H h L marks aa/\Wf L marks aa/\∀(p:Addr) (names:α2) (H':Hp),Same H H'->H p=none->H' p=some (.lst (names.map V.int))->Ex L marks aa marks.length names->Q (.ref p) H'
theorem LG   (F:Fun K "_law_classes" "_law_classes" BS f fd)(T:Txt mg)
  : FnOk P w K mg base CX0 1 f fd ["house"] (Xz K):=by
 refine F.ok Bw (fun vs H Q E h=>?_) (fun aq A outer s H vs Q E hr h=>?_)
 ·obtain⟨h,L,marks,aa,rfl,_⟩:=h;rfl
 ·obtain⟨h,L,marks,aa,rfl,hh,wf,k⟩:=h
  have hl:=AC
  have aN:=wf.n40
  have bQ:=wf.n1
  have b8:=wf.l1
  have b9:=wf.l6
  refine⟨_,(Ad (B7 (i:=1) Bw.nd rfl (Or.inr rfl) (AM FW rfl T.list xl_ (Aa (Ah (ixTD Ao) (pvD 0) Ac) Ae)))
   (Ad (Cb jI_ rfl (Bc rfl T.range (Aa (As (lenD Ak) (by rfl) T.len jH_ (Aa (Ah (ixTD Ao) (pvD 0) Ac) Ae)) Ae)) (At (i:=2) Bw.nd rfl (Or.inl rfl))
   (Ad (Hk (i:=3) Bw.nd rfl rfl rfl (BY rfl) (cp:=FA) ⟨⟨rfl,rfl⟩,⟨⟨rfl,rfl⟩,True.intro⟩⟩ (Bc rfl T.range (Aa (As (lenD Ak) (by rfl) T.len jH_ (Aa (pvD 1) Ae)) Ae)) (fun _ _ _ _=>(At (i:=0) Hy rfl (Or.inl rfl))) (fun _ _ _ _=>B8) (fun _ _ _ _=>(C7 (Aa (Ah (ixLD (Co (K:=K) rfl)) (pvD 1) (pvD 0)) (Aa (BX rfl (BY rfl) (cp:=FC) ⟨⟨rfl,rfl⟩,True.intro⟩ (WQ (K:=K) rfl (Ah (ixTD (Dj (K:=K) rfl)) (Ah (ixTD (Dj (K:=K) rfl)) (pvD 2) Ac) (pvD 0))) (fun _ _ _ _=>(At (i:=0) Hz rfl (Or.inl rfl))) (fun _ _ _ _=>B8) (fun _ _ _ _=>(Ah (ixLD (Co (K:=K) rfl)) (pvD 1) (pvD 0)))) Ae)))))
   (Ad (B7 (i:=4) Bw.nd rfl (Or.inr rfl) (Cn Ae))
   (Ad (Cb jI_ rfl (BW (pvD 3)) (At (i:=5) Bw.nd rfl (Or.inl rfl))
   (Ag (Cq (ptT (Av (Xp 4 (hu45 (hu9 hr))) (pvD 5) (pvD 4) rfl))
   (Ag (BN (Fd jD_ jL_ jM_ Bd (pvD 4) (Aa (pvD 5) Ae))))
   AU)))
   (Ag (B7 (i:=1) Bw.nd rfl (Or.inr rfl) (BX rfl (BY rfl) (cp:=FD) ⟨⟨rfl,rfl⟩,True.intro⟩ (BW (pvD 3)) (fun _ _ _ _=>(At (i:=0) HD rfl (Or.inl rfl))) (fun _ _ _ _=>B8) (fun _ _ _ _=>(ZJ (K:=K) rfl jD_ PySem.F.slot_list_index PySem.F.type_list_index (UU (K:=K) rfl 4 (hu46 (hu9 hr))) (pvD 1) (Aa (pvD 0) Ae))))))))))
   (Ag (AO (pvD 1))))),?_⟩
  obtain⟨tm,tw,q1,q2,q3⟩:=id hh
  walk_at "rd"
  refine⟨_,q1,_,rfl,tm,rfl,_,.inr q2,fun pn lK=>?_⟩
  have s0:=Same.new lK (o:=.lst (marks.map V.int))
  refine⟨_,s0.seqT q1,_,rfl,tm,rfl,_,.inr (s0.seqT q2),?_⟩
  rw[ja_]
  refine⟨by omega,by omega,?_⟩
  rw[ji_]
  obtain⟨Pv,ai⟩:∃Pv:Nat->St->Hp->Prop,∀i ae H',Pv i ae H'↔(∃(names:α2) (pn:Addr) (o2 o3 o4 o5:Option V),Same H H'/\H pn=none/\H' pn=some (.lst (names.map V.int))/\Ex L marks aa i names/\ae=[some (.ref h),some (.ref pn),o2,o3,o4,o5]):=⟨_,fun _ _ _=>ql_⟩
  refine forR Pv ((ai _ _ _).mpr ⟨marks,pn,none,none,none,none,s0,lK,Ab,Ex.first,rfl⟩) (fun i af H2 hi h2=>?_) (fun af H2 h2=>?_)
  ·obtain⟨names,pn,o2,o3,o4,o5,s2,hnN,fh,nm,rfl⟩:=(ai _ _ _).mp h2
   have hnl:names.length=marks.length:=nm.1
   walk_at "rd"
   refine⟨_,.inl (SqL.of fh),?_⟩
   rw[ja_]
   refine⟨by omega,by omega,?_⟩
   rw[ji_]
   have hlk:(Dy names aa).length=names.length:=by unfold Dy;rw[ja_,qX_]
   have hlat:∀r,r<names.length->(Dy names aa)[r]?=some (ln41 names aa r):=fun r hr=>by unfold Dy;rw[je_,qG_ hr];rfl
   have d9:∀g:Int,0<=g->g<marks.length->(names.map V.int)[g.toNat]?=some (V.int (names.getD g.toNat 0)):=fun g g0 g1=>by rw[je_,jh_,jf_ (by omega)];rfl
   refine Qa (fun i' xs ae H'=>Same H2 H'/\G0 H' xs ((Dy names aa).take i')/\∃o,ae=[o,some (.ref pn),some (.ref h)]) ⟨Same.refl _,G0.nil,none,rfl⟩ (by omega) (fun i' xs ae H' hi' h'=>by rw[h'.2.1.1,jB_];omega) (fun i' xs ae H' hi' h'=>?_) (fun xs ae Hc h' pk nR=>?_)
   ·obtain⟨s3,fL,o,rfl⟩:=h'
    rw[zR_]
    obtain⟨row,w1,w2,w3⟩:=wf.row (r:=(i':Int)) (by omega) (by omega)
    rw[ji_]at w1
    obtain⟨gY,gw,g1,g2,g3⟩:=hh.mono (s2.trans s3)
    obtain⟨zs,t,z1,z2,z3⟩:=g3.at w1
    have hrow:=wf.rows row w2
    walk_at "rd"
    refine⟨_,SqL.of (s3 _ _ fh),_,D4 (by omega) (d9 _ (by omega) (by omega)),?_⟩
    refine⟨_,g1,_,rfl,gw,rfl,_,z1,_,z2,t,rfl,⟨_,z3⟩,?_⟩
    refine GF (ae:=[some (.ref pn)]) (fun x=>match x with | .int g=>.int (names.getD g.toNat 0)|_=>.non) rfl z3 (by rw[ja_];omega) (fun x hx R hR=>?_) (fun D hD=>?_)
    ·obtain⟨g,hg,rfl⟩:=jv_.mp hx
     have bJ:=hrow.2 g hg
     walk_at "rd"
     exact⟨_,SqL.of (s3 _ _ fh),_,D4 bJ.1 (d9 g bJ.1 bJ.2),hR⟩
    ·refine⟨by omega,fun p hp=>?_⟩
     rw[ji_]
     have sD:=(Same.new hD (o:=.lst ((row.map V.int).map fun x=>match x with | .int g=>.int (names.getD g.toNat 0)|_=>.non))).newT hp (o:=.tup [V.int (names.getD i' 0),V.ref D])
     have e1:=Same.new hp (o:=.tup [V.int (names.getD i' 0),V.ref D]) _ _ (Ab (H:=H') (a:=D) (o:=.lst ((row.map V.int).map fun x=>match x with | .int g=>.int (names.getD g.toNat 0)|_=>.non)))
     have e2:upd (upd H' D (.lst ((row.map V.int).map fun x=>match x with | .int g=>.int (names.getD g.toNat 0)|_=>.non))) p (.tup [V.int (names.getD i' 0),V.ref D]) p=some (.tup [V.int (names.getD i' 0),V.ref D]):=Ab
     generalize upd (upd H' D (.lst ((row.map V.int).map fun x=>match x with | .int g=>.int (names.getD g.toNat 0)|_=>.non))) p (.tup [V.int (names.getD i' 0),V.ref D])=H4 at sD e1 e2 ⊢
     refine⟨s3.trans sD,?_,_,rfl⟩
     rw[jV_,hlat i' hi',qN_]
     have e3:ln41 names aa i'=names.getD i' 0::row.map fun a=>names.getD a.toNat 0:=by
      unfold ln41
      rw[jh_ (l:=aa),w1];rfl
     rw[e3]
     refine (fL.mono sD).snoc e2 ?_
     rw[e1,jX_,jX_]
     rfl
   ·obtain⟨s3,fL,o,rfl⟩:=h'
    rw[<-hlk,jU_]at fL
    walk_at "rd"
    refine⟨by omega,fun p hp=>?_⟩
    have sK:=s3.newT nR (o:=.lst xs)
    have sp:=(Same.new nR (o:=.lst xs)).newT hp (o:=.lst [])
    have ja:pk≠p:=qv_ (A0 hp).2
    have lL:upd (upd Hc pk (.lst xs)) p (.lst []) pk=some (.lst xs):=by rw[Ai ja];exact Ab
    have ep:upd (upd Hc pk (.lst xs)) p (.lst []) p=some (.lst []):=Ab
    have hpN:H2 p=none:=(s3.newT nR (o:=.lst xs)).none hp
    have hk4:=fL.mono sp
    have s4:Same H2 (upd (upd Hc pk (.lst xs)) p (.lst [])):=s3.trans sp
    have jb:=sp
    generalize upd (upd Hc pk (.lst xs)) p (.lst [])=H4 at s4 lL ep hk4 jb ⊢
    have hpN2:H p=none:=s2.none hpN
    have bL:=hk4.1
    refine⟨⟨_,SqL.of lL⟩,?_⟩
    have jK:=(A0 hp).1
    obtain⟨Pw,bI⟩:∃Pv:Nat->St->Hp->Prop,∀j ae H',Pv j ae H'↔(∃(ys:List V) (o5:Option V),Dt p H4 H'/\H' p=some (.lst ys)/\G0 Hc ys (((Dy names aa).take j).foldl ins [])/\ae=[some (.ref h),some (.ref pn),some (.int (0+(i:Int))),some (.ref pk),some (.ref p),o5]):=⟨_,fun _ _ _=>ql_⟩
    refine forL (xs:=xs) Pw ((bI _ _ _).mpr ⟨[],_,fun _ _ _ e=>e,ep,G0.nil,rfl⟩) (fun j ae H' _ h'=>by obtain⟨_,_,s',_⟩:=(bI _ _ _).mp h';exact SqL.of (s' _ _ ja lL)) (fun j x ae H5 hx h'=>?_) (fun ae H5 h'=>?_)
    ·obtain⟨ys,o5,s5,bR,iu,rfl⟩:=(bI _ _ _).mp h'
     have sc:Same Hc H5:=fun b o e=>s5 b o (AA e jK) (jb _ _ e)
     have jL:=iu.mono sc
     obtain⟨t,l,c,w0,bP,rfl,ht,dH⟩:=fL.at hx
     have nS:H5 t=some (.tup [.int c,.ref l]):=s5 _ _ (AA ht jK) (jb _ _ ht)
     have nT:H5 l=some (.lst (w0.map V.int)):=s5 _ _ (AA dH jK) (jb _ _ dH)
     have ke:=jL.1
     have du:=DU ((Dy names aa).take j) []
     rw[jB_,qy_]at du
     walk_at "rd"
     refine⟨ys,SqL.of bR,_,jL.eqs nS nT,?_⟩
     rw[ke,Bt_]
     have kL:((Dy names aa).take (j+1)).foldl ins []=ins (((Dy names aa).take j).foldl ins []) (c::w0):=by rw[jV_,bP,qN_,qM_];rfl
     refine ite2 (fun hy=>?_) (fun hn=>?_)
     ·have hy:¬ (c::w0∈((Dy names aa).take j).foldl ins []):=by simpa using hy
      refine⟨.inl ⟨rfl,_,SqL.of bR⟩,ys,bR,by omega,(bI _ _ _).mpr ⟨_,_,fun b o hb e=>by rw[Ai hb];exact s5 b o hb e,Ab,?_,rfl⟩⟩
      rw[kL,show ins (((Dy names aa).take j).foldl ins []) (c::w0)=((Dy names aa).take j).foldl ins []++[c::w0] from if_neg hy]
      exact iu.snoc ht dH
     ·have hn:c::w0∈((Dy names aa).take j).foldl ins []:=by simpa using hn
      refine (bI _ _ _).mpr ⟨ys,_,s5,bR,?_,rfl⟩
      rw[kL,show ins (((Dy names aa).take j).foldl ins []) (c::w0)=((Dy names aa).take j).foldl ins [] from if_pos hn]
      exact iu
    ·obtain⟨ys,o5,s5,bR,iu,rfl⟩:=(bI _ _ _).mp h'
     have sc:Same Hc H5:=fun b o e=>s5 b o (AA e jK) (jb _ _ e)
     have jL:=iu.mono sc
     rw[bL,jU_]at jL
     have du:=DU (Dy names aa) []
     rw[qy_]at du
     have ke:=jL.1
     have epk5:=s5 _ _ ja lL
     walk_at "rd"
     refine⟨⟨_,SqL.of epk5⟩,?_⟩
     refine P9 (xs:=xs) (fun i' us ae H'=>H'=H5/\us=(((Dy names aa).take i').map fun k=>(((((Dy names aa).foldl ins []).idxOf k:Nat):Int))).map V.int/\∃o,ae=[o,some (.ref p)]) ⟨rfl,rfl,none,rfl⟩ (by omega) (fun i' us ae H' hi' h'=>by obtain⟨rfl,rfl,_⟩:=h';exact⟨SqL.of epk5,by rw[ja_,ja_,jB_];omega⟩) (fun i' x us ae H' hx h'=>?_) (fun us ae H' h' D hD=>?_)
     ·obtain⟨rfl,rfl,o,rfl⟩:=h'
      obtain⟨t,l,c,w0,bP,rfl,ht,dH⟩:=fL.at hx
      have nS:H' t=some (.tup [.int c,.ref l]):=s5 _ _ (AA ht jK) (jb _ _ ht)
      have nT:H' l=some (.lst (w0.map V.int)):=s5 _ _ (AA dH jK) (jb _ _ dH)
      have aM:=LD.mpr (jd_ bP)
      have gy:=xH_.mpr aM
      walk_at "rd"
      refine⟨.inl ⟨rfl,_,SqL.of bR⟩,ys,bR,_,jL.eqs nS nT,((Dy names aa).foldl ins []).idxOf (c::w0),by omega,?_,fun j hj=>?_,by omega,?_,_,rfl⟩
      ·exact qh_ (by rw[jf_ gy,qZ_])
      ·refine qd_ fun z=>?_
       have:=TC z
       omega
      ·rw[jV_,bP,qN_,jT_,jT_]
       rfl
     ·obtain⟨rfl,rfl,o,rfl⟩:=h'
      rw[bL,jU_]
      have sH:Same H H':=fun b o e=>s5 b o (AA e hpN2) (s4 _ _ (s2 _ _ e))
      exact (ai _ _ _).mpr ⟨nx31 names aa,D,_,_,_,_,sH.newT hD,sH.none hD,Ab,nm.turn wf,rfl⟩
  ·obtain⟨names,pn,o2,o3,o4,o5,s2,hnN,fh,nm,rfl⟩:=(ai _ _ _).mp h2
   walk_at "rd"
   exact k pn names _ s2 hnN fh nm
theorem XA {c c':α2}:∀(R acc:α2),(∀r s,(r∈acc\/r∈R)->(s∈acc\/s∈R)->(cf c r=cf c s↔cf c' r=cf c' s))->R.foldl (Cp c) acc=R.foldl (Cp c') acc
 |[],acc,_=>rfl
 |q::R,acc,h=>by
  have e:Cp c acc q=Cp c' acc q:=by
   unfold Cp
   have:cf c q∈acc.map (cf c)↔cf c' q∈acc.map (cf c'):=by
    rw[jv_,jv_]
    constructor
    ·rintro⟨a,ha,e⟩;exact⟨a,ha,(h a q (.inl ha) (.inr jn_)).mp e⟩
    ·rintro⟨a,ha,e⟩;exact⟨a,ha,(h a q (.inl ha) (.inr jn_)).mpr e⟩
   by_cases hq:cf c q∈acc.map (cf c)
   ·rw[if_pos hq,if_pos (this.mp hq)]
   ·rw[if_neg hq,if_neg (fun z=>hq (this.mpr z))]
  rw[q6_,q6_,e]
  have sub:∀r,r∈Cp c' acc q->r∈acc\/r∈q::R:=fun r hr=>by
   unfold Cp at hr
   split at hr
   ·exact .inl hr
   ·rcases jz_.mp hr with hr|hr
    ·exact .inl hr
    ·exact .inr (by rw[js_.mp hr];exact jn_)
  refine XA R _ fun r s hr hs=>h r s ?_ ?_
  ·rcases hr with hr|hr
   ·exact sub r hr
   ·exact .inr (jl_ _ hr)
  ·rcases hs with hs|hs
   ·exact sub s hs
   ·exact .inr (jl_ _ hs)
theorem Bu_  (h:∀r s,r∈R->s∈R->(cf c r=cf c s↔cf c' r=cf c' s)):FR c R=FR c' R/\∀r∈R,hm c R r=hm c' R r:=by
 have e:FR c R=FR c' R:=XA R [] fun r s hr hs=>h r s (hr.resolve_left (by simp)) (hs.resolve_left (by simp))
 refine⟨e,fun r hr=>?_⟩
 obtain⟨j,q,hj,e1,e2,e3⟩:=F_hm (c:=c) hr
 have hq:q∈R:=HY (jd_ e2)
 rw[e]at e2
 rw[e1,<-hm_F e2]
 exact L2.hm_congr ((h q r hq hr).mp e3)
theorem YL {L:Nat}{marks:α2}{aa:α1}(wf:Wf L marks aa){names:α2}(nm:Ex L marks aa marks.length names):∀r s,r∈rOf aa->s∈rOf aa->(cf names r=cf names s↔cf (cOf L marks aa) r=cf (cOf L marks aa) s):=by
 intro r s hr hs
 have r0:=EU wf hr
 have s0:=EU wf hs
 have h1:=nm.2 r.toNat s.toNat (by omega) (by omega)
 rw[show ((r.toNat:Nat):Int)=r by omega,show ((s.toNat:Nat):Int)=s by omega]at h1
 show names.getD r.toNat 0=names.getD s.toNat 0↔_
 rw[h1]
 constructor
 ·intro h
  refine NG wf (finO wf) r0.1 r0.2 s0.1 s0.2 fun w hw=>?_
  have hle:=W8 wf
  exact Jf.all (rs:=rOf aa) (K8 wf) (fun q hq x x0 x1=>IJ wf hq x0 x1) hr hs (fun v hv hl=>h v hv (by omega)) w hw
 ·intro h v hv _
  exact RV wf (finO wf) v hv r0.1 r0.2 s0.1 s0.2 h
theorem Bv_ {L:Nat}{marks:α2}{aa:α1}(wf:Wf L marks aa){names:α2}(nm:Ex L marks aa marks.length names):FR names (rOf aa)=sF L marks aa/\(sF L marks aa).map (hrow names (rOf aa) aa)=sW L marks aa:=by
 obtain⟨e1,e2⟩:=Bu_ (YL wf nm)
 refine⟨e1,?_⟩
 unfold sW
 refine qk_ fun r hr=>?_
 unfold hrow
 refine qk_ fun g hg=>e2 g ?_
 have bx:r∈rOf aa:=HY hr
 have r0:=EU wf bx
 obtain⟨row,w1,w2,w3⟩:=wf.row r0.1 r0.2
 rw[jh_,w1]at hg
 obtain⟨x,hx,rfl⟩:=jS_ (show g∈row from hg)
 have:=IJ wf bx (x:=(x:Int)) (by omega) (by omega)
 rw[CG w1 (g:=row[x]) (by rw[ji_];exact jf_ hx)]at this
 exact this
theorem QL:∀{ws:α2} {m:Nat} {w:Int},ws[m]?=some w->ws.idxOf w<=m
 |[],m,w,h=>by simp at h
 |v::ws,m,w,h=>by
  rw[zI_]
  cases m with
  |zero=>
   have:v=w:=by simpa using h
   simp[this]
  |succ m=>
   have:=QL (ws:=ws) (m:=m) (w:=w) (by simpa using h)
   cases e:(v==w) with
   |true=>exact jZ_ _
   |false=>exact Nat.succ_le_succ this
def T9 (K:α3):Sp:=fun vs H Q _=>∃(h:Addr) (L:Nat) (marks:α2) (aa:α1),vs=[.ref h]/\BO K H h L marks aa/\Wf L marks aa/\∀(p:Addr) (H':Hp),Same H H'->BO K H' p L (sM L marks aa) (sW L marks aa)->Q (.ref p) H'
theorem QM   (F:Fun K "_law_base" "_law_base" C5 f fd)(T:Txt mg)
   (Ee:FnOk P w K mg base CX0 1 B3 FG ["house"] (NW K)) (CB:Fun K "_law_order_of" "_law_order_of" Bv B3 FG) (Ef:Binds K FG ["house"] []) (Eg:mg "_law_order_of"=some (.ref B3))
   (EB:FnOk P w K mg base CX0 1 Ce Gn ["house"] (Xz K)) (CU:Fun K "_law_classes" "_law_classes" BS Ce Gn) (EC:Binds K Gn ["house"] []) (ED:mg "_law_classes"=some (.ref Ce))
  : FnOk P w K mg base CX0 2 f fd ["house"] (T9 K):=by
 refine F.ok Cy (fun vs H Q E h=>?_) (fun aq A outer s H vs Q E hr h=>?_)
 ·obtain⟨h,L,marks,aa,rfl,_⟩:=h;rfl
 ·obtain⟨h,L,marks,aa,rfl,hh,wf,k⟩:=h
  have hl:=AC
  have aN:=wf.n40
  have bQ:=wf.n1
  have b8:=wf.l1
  have b9:=wf.l6
  refine⟨_,(Ad (B7 (i:=1) Cy.nd rfl (Or.inr rfl) (Al EB (hr.mono (by decide)) rfl ED CU.kp EC .nil AZ (Aa (pvD 0) Ae)))
   (Ad (Aj (i:=2) Cy.nd (Al Ee (hr.mono (by decide)) rfl Eg CB.kp Ef .nil AZ (Aa (pvD 0) Ae)))
   (Ad (Aj (i:=3) Cy.nd (Cn Ae))
   (Ad (Cb jI_ rfl (BW (pvD 2)) (At (i:=4) Cy.nd rfl (Or.inl rfl))
   (Ag (Cq (ptT (Av Jq (Ah (ixLD Bi) (pvD 1) (pvD 4)) (BX rfl (BY rfl) (cp:=Ig) ⟨⟨rfl,rfl⟩,True.intro⟩ (BW (pvD 3)) (fun _ _ _ _=>(At (i:=0) JN rfl (Or.inl rfl))) (fun _ _ _ _=>B8) (fun _ _ _ _=>(Ah (ixLD (Co (K:=K) rfl)) (pvD 1) (pvD 0)))) rfl))
   (Ag (BN (Fd jD_ jL_ jM_ Bd (pvD 3) (Aa (pvD 4) Ae))))
   AU)))
   (Ad (B7 (i:=5) Cy.nd rfl (Or.inr rfl) (BX rfl (BY rfl) (cp:=Ih) ⟨⟨rfl,rfl⟩,True.intro⟩ (BW (pvD 3)) (fun _ _ _ _=>(At (i:=0) JO rfl (Or.inl rfl))) (fun _ _ _ _=>B8) (fun _ _ _ _=>(Ah (ixLD (Co (K:=K) rfl)) (pvD 1) (pvD 0)))))
   (Ad (Hk (i:=6) Cy.nd rfl rfl rfl (BY rfl) (cp:=Ii) ⟨⟨rfl,rfl⟩,⟨⟨rfl,rfl⟩,⟨⟨rfl,rfl⟩,True.intro⟩⟩⟩ (BW (pvD 3)) (fun _ _ _ _=>(At (i:=0) JQ rfl (Or.inl rfl))) (fun _ _ _ _=>B8) (fun _ _ _ _=>(AM (Fl (K:=K) rfl) rfl T.tuple jA_ (Aa (BX rfl (BY rfl) (cp:=Ij) ⟨⟨rfl,rfl⟩,⟨⟨rfl,rfl⟩,True.intro⟩⟩ (WQ (K:=K) rfl (Ah (ixTD (Dj (K:=K) rfl)) (Ah (ixTD (Dj (K:=K) rfl)) (pvD 3) Ac) (pvD 0))) (fun _ _ _ _=>(At (i:=0) JR rfl (Or.inl rfl))) (fun _ _ _ _=>B8) (fun _ _ _ _=>(ZJ (K:=K) rfl jD_ PySem.F.slot_list_index PySem.F.type_list_index WO (pvD 1) (Aa (Ah (ixLD (Co (K:=K) rfl)) (pvD 2) (pvD 0)) Ae)))) Ae))))
   (Ag (AO (C7 (Aa (Ah (ixTD Ao) (pvD 0) Ac) (Aa (AM AE rfl T.tuple jA_ (Aa (BX rfl (BY rfl) (cp:=Hh) ⟨⟨rfl,rfl⟩,True.intro⟩ (BW (pvD 3)) (fun _ _ _ _=>(At (i:=0) IQ rfl (Or.inl rfl))) (fun _ _ _ _=>B8) (fun _ _ _ _=>(Ah (ixTD (Dj (K:=K) rfl)) (Ah (ixTD (Dj (K:=K) rfl)) (pvD 1) Ac) (pvD 0)))) Ae)) (Aa (AM AE rfl T.tuple jA_ (Aa (pvD 6) Ae)) Ae)))))))))))),?_⟩
  walk_at "rd"
  refine⟨h,L,marks,aa,rfl,hh,wf,fun pn names H1 s1 hpnN lK nm=>?_⟩
  refine⟨h,L,marks,aa,rfl,hh.mono s1,wf,fun po H2 s2 hpoN lM=>?_⟩
  refine⟨by omega,fun pf fk=>?_⟩
  obtain⟨hF,hW⟩:=Bv_ wf nm
  have hR:((Az aa).map (·.1))=rOf aa:=rfl
  rw[hR]at lM
  have nr:=W8 wf
  have jM:=fun {r:Int} (h:r∈rOf aa)=>EU wf h
  have hRs:=fun {r x:Int} (h:r∈rOf aa) (x0:0<=x) (x1:x<L)=>IJ wf h x0 x1
  have hnl:names.length=marks.length:=nm.1
  have d9:∀g:Int,0<=g->g<marks.length->(names.map V.int)[g.toNat]?=some (V.int (cf names g)):=fun g g0 g1=>by unfold cf;rw[je_,jh_,jf_ (by omega)];rfl
  unfold sM at k
  rw[<-hW,<-hF]at k
  generalize rOf aa=R at lM nr jM hRs k
  have s12:=s1.trans s2
  have s3:=s12.newT fk (o:=.lst [])
  have iP:H pf=none:=s12.none fk
  have hpn2:=s2 _ _ lK
  have hpfo:pf≠po:=qv_ (AA lM fk)
  have jc:pf≠pn:=qv_ (AA hpn2 fk)
  have epf:upd H2 pf (.lst []) pf=some (.lst []):=Ab
  have nU:upd H2 pf (.lst []) po=some (.lst (R.map V.int)):=by rw[Ai (qv_ hpfo)];exact lM
  have nV:upd H2 pf (.lst []) pn=some (.lst (names.map V.int)):=by rw[Ai (qv_ jc)];exact hpn2
  generalize upd H2 pf (.lst [])=H3 at s3 epf nU nV ⊢
  refine⟨po,rfl,⟨_,SqL.of nU⟩,?_⟩
  have comp1:∀{H':Hp} {F:α2} {Q':VK} {cp:Caps} {σ:St},H' pn=some (.lst (names.map V.int))->H' pf=some (.lst (F.map V.int))->(∀r∈F,r∈R)->F.length<=40->cp.st σ=[none,some (.ref pn)]->(∀D,H' D=none->Q' (.ref D) (upd H' D (.lst ((F.map (cf names)).map V.int))))->P8 (Itl K pf) cp (IB 0) Uo (tOp (Yp K) (UI 1) (UI 0)) σ H' Q':=fun {H' F Q' cp σ} h1 h2 cG hlen e hd=>by
   refine Kz (ae:=[some (.ref pn)]) (fun x=>match x with | .int g=>.int (cf names g)|_=>.non) e (SqL.of h2) (by rw[ja_];omega) (fun x hx R' gU=>?_) (fun D hD=>?_)
   ·obtain⟨g,hg,rfl⟩:=jv_.mp hx
    have bJ:=jM (cG g hg)
    walk_at "rd"
    exact⟨_,SqL.of h1,_,D4 bJ.1 (d9 g bJ.1 bJ.2),gU⟩
   ·have:=hd D hD
    rw[jX_]at this ⊢
    exact this
  obtain⟨Pv,ai⟩:∃Pv:Nat->St->Hp->Prop,∀j ae H',Pv j ae H'↔(∃(o4:Option V),Dt pf H3 H'/\Same H H'/\H' pf=some (.lst ((FR names (R.take j)).map V.int))/\ae=[some (.ref h),some (.ref pn),some (.ref po),some (.ref pf),o4,none,none]):=⟨_,fun _ _ _=>ql_⟩
  refine forL (xs:=R.map V.int) Pv ((ai _ _ _).mpr ⟨none,fun _ _ _ e=>e,s3,epf,rfl⟩) (fun j ae H' _ h'=>by obtain⟨_,s',_⟩:=(ai _ _ _).mp h';exact SqL.of (s' _ _ (qv_ hpfo) nU)) (fun j x ae H' hx h'=>?_) (fun ae H' h'=>?_)
  ·obtain⟨o4,s4,lN,cR,rfl⟩:=(ai _ _ _).mp h'
   obtain⟨r,hV,rfl⟩:=Di hx
   have lO:=jd_ hV
   have cZ:=jM lO
   have nW:=TM names (R.take j)
   rw[jB_]at nW
   have fA:=s4 _ _ (qv_ jc) nV
   walk_at "rd"
   refine⟨_,SqL.of fA,_,D4 cZ.1 (d9 r cZ.1 cZ.2),⟨_,SqL.of cR⟩,?_⟩
   refine comp1 fA cR (fun q hq=>xg_ (HY hq)) (by omega) rfl fun D hD=>?_
   have sD:=Same.new hD (o:=.lst (((FR names (R.take j)).map (cf names)).map V.int))
   have eD:upd H' D (.lst (((FR names (R.take j)).map (cf names)).map V.int)) D=some (.lst (((FR names (R.take j)).map (cf names)).map V.int)):=Ab
   have lP:=sD _ _ cR
   generalize upd H' D (.lst (((FR names (R.take j)).map (cf names)).map V.int))=H5 at sD eD lP ⊢
   refine⟨D,rfl,_,.inl (SqL.of eD),rfl,KY _,?_⟩
   rw[Tv]
   have kL:=W5 (c:=names) hV
   refine ite2 (fun hy=>?_) (fun hn=>?_)
   ·have hy:¬ (cf names r∈(FR names (R.take j)).map (cf names)):=by simpa using hy
    refine⟨.inl ⟨rfl,_,SqL.of lP⟩,_,lP,by rw[ja_];omega,(ai _ _ _).mpr ⟨_,fun b o hb e=>by rw[Ai hb];exact sD _ _ (s4 b o hb e),(lN.trans sD).over iP,?_,rfl⟩⟩
    rw[Ab,kL,show Cp names (FR names (R.take j)) r=FR names (R.take j)++[r] from if_neg hy,jT_]
    rfl
   ·have hn:cf names r∈(FR names (R.take j)).map (cf names):=by simpa using hn
    refine (ai _ _ _).mpr ⟨_,fun b o hb e=>sD _ _ (s4 b o hb e),lN.trans sD,?_,rfl⟩
    rw[lP,kL,show Cp names (FR names (R.take j)) r=FR names (R.take j) from if_pos hn]
  ·obtain⟨o4,s4,lN,cR,rfl⟩:=(ai _ _ _).mp h'
   rw[ja_,jU_]at cR
   have fA:=s4 _ _ (qv_ jc) nV
   have nW:=TM names R
   walk_at "rd"
   refine⟨⟨_,SqL.of cR⟩,?_⟩
   refine comp1 fA cR (fun q hq=>HY hq) (by omega) rfl fun pm bu=>?_
   have cG:∀q∈FR names R,q∈R:=fun q hq=>HY hq
   have bh:∀g∈R,cf names g∈(FR names R).map (cf names)/\hm names R g=((((FR names R).map (cf names)).idxOf (cf names g):Nat):Int):=fun g hg=>by
    unfold hm
    rw[K7]
    exact⟨A4.mpr (q4_ hg),rfl⟩
   have lQ:=lN.newT bu (o:=.lst (((FR names R).map (cf names)).map V.int))
   have nX:=Same.new bu (o:=.lst (((FR names R).map (cf names)).map V.int))
   have jd:upd H' pm (.lst (((FR names R).map (cf names)).map V.int)) pm=some (.lst (((FR names R).map (cf names)).map V.int)):=Ab
   generalize upd H' pm (.lst (((FR names R).map (cf names)).map V.int))=H5 at lQ nX jd ⊢
   have lR:=nX _ _ cR
   have epn5:=nX _ _ fA
   generalize FR names R=F at cR lR nW cG bh k jd
   refine⟨⟨_,SqL.of lR⟩,?_⟩
   have hFz:F.length<sizeLine:=by omega
   refine P9 (xs:=F.map V.int) (fun i' zs ae H'=>Same H5 H'/\AV K H' zs ((F.take i').map (hrow names R aa))/\∃o,ae=[o,some (.ref pm),some (.ref pn),some (.ref h)]) ⟨Same.refl _,AV.nil,none,rfl⟩ (by rw[ja_];exact hFz) (fun i' zs ae H' hi' h'=>⟨SqL.of (h'.1 _ _ lR),by rw[h'.2.1.1,ja_,jB_];omega⟩) (fun i' x zs ae H6 hx h'=>?_) (fun zs ae H6 h' pw aU=>?_)
   ·obtain⟨s6,lS,o,rfl⟩:=h'
    obtain⟨r,hV,rfl⟩:=Di hx
    have lO:=cG r (jd_ hV)
    have cZ:=jM lO
    obtain⟨row,w1,w2,w3⟩:=wf.row cZ.1 cZ.2
    obtain⟨gY,gw,g1,g2,g3⟩:=hh.mono (lQ.trans s6)
    obtain⟨ys,t,z1,z2,z3⟩:=g3.atZ cZ.1 w1
    have hrw:=wf.rows row w2
    have hgR:∀g∈row,g∈R:=fun g hg=>by
     obtain⟨x,hx,rfl⟩:=jS_ hg
     have:=hRs lO (x:=(x:Int)) (by omega) (by omega)
     rw[CG w1 (g:=row[x]) (by rw[ji_];exact jf_ hx)]at this
     exact this
    walk_at "rd"
    refine⟨_,g1,_,rfl,gw,rfl,_,z1,_,z2,t,rfl,⟨_,z3⟩,?_⟩
    refine GF (ae:=[some (.ref pm),some (.ref pn)]) (fun x=>match x with | .int g=>.int (hm names R g)|_=>.non) rfl z3 (by rw[ja_];omega) (fun x hx R' gU=>?_) (fun D hD=>?_)
    ·obtain⟨g,hg,rfl⟩:=jv_.mp hx
     have bJ:=jM (hgR g hg)
     obtain⟨hc1,bO⟩:=bh g (hgR g hg)
     have gy:=xH_.mpr hc1
     rw[ja_]at gy
     walk_at "rd"
     refine⟨.inl ⟨rfl,_,SqL.of (s6 _ _ jd)⟩,_,SqL.of (s6 _ _ epn5),_,D4 bJ.1 (d9 g bJ.1 bJ.2),_,s6 _ _ jd,rfl,KY _,(F.map (cf names)).idxOf (cf names g),by omega,⟨V.int (cf names g),?_,by simp[eqV]⟩,fun m z hm hz=>?_,?_⟩
     ·rw[je_,jf_ (by rw[ja_];exact gy),qZ_];rfl
     ·obtain⟨y,hy,rfl⟩:=Di hz
      have ao:y≠cf names g:=fun z=>by
       have:=QL (by rw[hy,z])
       omega
      simp[eqV,ao]
     ·rw[<-bO];exact gU
    ·refine⟨D,rfl,_,.inl ⟨SqL.of Ab,fun l dH=>?_⟩⟩
     have sD:=(Same.new hD (o:=.lst ((row.map V.int).map fun x=>match x with | .int g=>.int (hm names R g)|_=>.non))).newT dH (o:=.tup ((row.map V.int).map fun x=>match x with | .int g=>.int (hm names R g)|_=>.non))
     refine⟨s6.trans sD,?_,_,rfl⟩
     rw[jV_,hV,qN_,jT_]
     refine (lS.mono (TK.of sD)).snoc ?_
     rw[Ab,jX_]
     unfold hrow
     rw[jh_,w1,Option.getD_some,jX_]
     rfl
   ·obtain⟨s6,lS,o,rfl⟩:=h'
    rw[ja_,jU_]at lS
    have s7:=s6.newT aU (o:=.lst zs)
    have jN:upd H6 pw (.lst zs) pw=some (.lst zs):=Ab
    have eF:AV K (upd H6 pw (.lst zs)) zs _:=lS.mono (TK.new aU)
    generalize upd H6 pw (.lst zs)=H7 at s7 jN eF ⊢
    have sH7:=lQ.trans s7
    obtain⟨gY,gw,g1,g2,g3⟩:=hh.mono sH7
    have hf7:=s7 _ _ lR
    refine⟨_,g1,_,rfl,⟨_,SqL.of hf7⟩,?_⟩
    refine Kz (ae:=[some (.ref h)]) (fun x=>match x with | .int g=>.int (mkR marks g)|_=>.non) rfl (SqL.of hf7) (by rw[ja_];exact hFz) (fun x hx R' gU=>?_) (fun D hD=>?_)
    ·obtain⟨g,hg,rfl⟩:=jv_.mp hx
     have bJ:=jM (cG g hg)
     walk_at "rd"
     refine⟨_,g1,_,rfl,gY,rfl,_,g2,_,D4 bJ.1 (v:=V.int (mkR marks g)) ?_,gU⟩
     rw[je_,ZV (by omega)];rfl
    ·have sD:=s7.newT hD (o:=.lst ((F.map V.int).map fun x=>match x with | .int g=>.int (mkR marks g)|_=>.non))
     have eD:upd H7 D (.lst ((F.map V.int).map fun x=>match x with | .int g=>.int (mkR marks g)|_=>.non)) D=some (.lst ((F.map (mkR marks)).map V.int)):=by rw[Ab,jX_,jX_];rfl
     have gW:=Same.new hD (o:=.lst ((F.map V.int).map fun x=>match x with | .int g=>.int (mkR marks g)|_=>.non))
     generalize upd H7 D (.lst ((F.map V.int).map fun x=>match x with | .int g=>.int (mkR marks g)|_=>.non))=H8 at sD eD gW ⊢
     refine⟨D,rfl,_,.inl ⟨SqL.of eD,fun l dH=>?_⟩⟩
     have sl:=Same.new dH (o:=.tup ((F.map (mkR marks)).map V.int))
     have el:upd H8 l (.tup ((F.map (mkR marks)).map V.int)) l=some (.tup ((F.map (mkR marks)).map V.int)):=Ab
     generalize upd H8 l (.tup ((F.map (mkR marks)).map V.int))=H9 at sl el ⊢
     have epw9:=sl _ _ (gW _ _ jN)
     refine⟨pw,rfl,_,.inl ⟨SqL.of epw9,fun l1 br=>⟨by omega,fun p hp=>?_⟩⟩⟩
     have hz9:=eF.mono (TK.of (gW.trans sl))
     have gz:=(Same.new br (o:=.tup zs)).newT hp (o:=.tup [V.int L,V.ref l,V.ref l1])
     have e1:=Same.new hp (o:=.tup [V.int L,V.ref l,V.ref l1]) _ _ (Ab (H:=H9) (a:=l1) (o:=.tup zs))
     have e2:upd (upd H9 l1 (.tup zs)) p (.tup [V.int L,V.ref l,V.ref l1]) p=some (.tup [V.int L,V.ref l,V.ref l1]):=Ab
     have fB:=hz9.mono (TK.of gz)
     generalize upd (upd H9 l1 (.tup zs)) p (.tup [V.int L,V.ref l,V.ref l1])=nY at gz e1 e2 fB ⊢
     refine k p nY (((lQ.trans sD).trans sl).trans gz) ⟨l,l1,SqT.of e2,SqT.of (gz _ _ el),?_⟩
     obtain⟨os,x1,x2,x3⟩:=Ip fB
     refine⟨os.map (·.1),?_,by rw[<-x2,ja_,ja_],fun i t row hi hrow=>?_⟩
     ·rw[jX_]
      rw[x1]at e1
      exact SqT.of e1
     ·rw[<-x2,je_]at hrow
      rw[je_]at hi
      cases ho:os[i]? with
      |none=>rw[ho]at hi;cases hi
      |some o=>
       rw[ho]at hi hrow
       cases hi;cases hrow
       exact SqT.of (x3 o (jd_ ho))
def NX (K:α3):Sp:=fun vs H Q _=>∃(h:Addr) (L:Int) (marks:α2) (aa:α1) (num:Int),vs=[.ref h,.int num]/\BO K H h L marks aa/\Wf L marks aa/\∀h' aj ay H',Same H H'->BO K H' h' L aj ay->Wf L aj ay->aj.length=marks.length->Q (.ref h') H'
theorem LH   (F:Fun K "_law_spoiled" "_law_spoiled" BR f fd)(T:Txt mg)
  : FnOk P w K mg base CX0 1 f fd ["house","number"] (NX K):=by
 refine F.ok B1 (fun vs H Q E h=>?_) (fun aq A outer s H vs Q E hr h=>?_)
 ·obtain⟨h,L,marks,aa,num,rfl,_⟩:=h;rfl
 ·obtain⟨h,L,marks,aa,num,rfl,hh,wf,k⟩:=h
  have hl:=AC
  have b8:=wf.l1
  have b9:=wf.l6
  have bQ:=wf.n1
  have aN:=wf.n40
  obtain⟨tm,tw,q1,q2,q3⟩:=id hh
  refine⟨_,(Ad (B7 (i:=2) B1.nd rfl (Or.inr rfl) (AM FW rfl T.list xl_ (Aa (Ah (ixTD Ao) (pvD 0) Ac) Ae)))
   (CQ (B7 (i:=3) B1.nd rfl (Or.inr rfl) (BX rfl (BY rfl) (cp:=Fx) True.intro (FU (Ah (ixTD Ao) (pvD 0) Ac)) (fun _ _ _ _=>(At (i:=0) Hv rfl (Or.inl rfl))) (fun _ _ _ _=>B8) (fun _ _ _ _=>(AM (Of (K:=K) rfl) rfl T.list xl_ (Aa (pvD 0) Ae)))))
   (Ad (B7 (i:=4) B1.nd rfl (Or.inr rfl) (An (opD A1) (An (opD Cs) (pvD 1) Ac) (As (lenD Ak) (by rfl) T.len jH_ (Aa (pvD 2) Ae))))
   (CQ (Cq (ptT (Av (opE Dh) (An (opD A1) (pvD 1) Ac) Ac (AS _)))
   (Ag (PN (An (opD A1) (An (opD0 Bh) (An (opD0 Bh) (Ah (ixLD Bi) (pvD 2) (pvD 4)) Ac) (An (opD A1) (An (opD Cs) (pvD 1) Ac) Ac)) Ac) (PM (pvD 2) (pvD 4) set_list)))
   AU)
   (CQ (Cq (ptT (Av (opE Dh) (An (opD A1) (pvD 1) Ac) Ac (AS _)))
   (Ad (B7 (i:=5) B1.nd rfl (Or.inr rfl) (An (opD A1) (An (opD Cs) (pvD 1) Ac) (Ah (ixTD Ao) (pvD 0) Ac)))
   (Ad (Hk (i:=6) B1.nd rfl rfl rfl (BY rfl) (cp:=Fy) ⟨⟨rfl,rfl⟩,⟨⟨rfl,rfl⟩,⟨⟨rfl,rfl⟩,⟨⟨rfl,rfl⟩,True.intro⟩⟩⟩⟩ (Bc rfl T.range (Aa (As (lenD Ak) (by rfl) T.len jH_ (Aa (pvD 2) Ae)) Ae)) (fun _ _ _ _=>(At (i:=0) Hw rfl (Or.inl rfl))) (fun _ _ _ _=>(Zt (ptT (Av (opE Dh) (Ah (ixLD (Co (K:=K) rfl)) (pvD 1) (pvD 0)) (Ah (ixLD (Co (K:=K) rfl)) (pvD 1) (Ah (ixLD (Co (K:=K) rfl)) (Ah (ixLD (Co (K:=K) rfl)) (pvD 3) (pvD 4)) (pvD 2))) (AS _))))) (fun _ _ _ _=>(pvD 0)))
   (Ag (PN (Ah (ixLD Bi) (pvD 6) (An (opD A1) (An (opD Cs) (pvD 1) Ac) (As (lenD Ak) (by rfl) T.len jH_ (Aa (pvD 6) Ae)))) (PM (Ah (ixLD Bi) (pvD 3) (pvD 4)) (pvD 5) set_list)))))
   AU)
   (Ag (AO (C7 (Aa (Ah (ixTD Ao) (pvD 0) Ac) (Aa (AM AE rfl T.tuple jA_ (Aa (pvD 2) Ae)) (Aa (AM AE rfl T.tuple jA_ (Aa (BX rfl (BY rfl) (cp:=Fz) True.intro (BW (pvD 3)) (fun _ _ _ _=>(At (i:=0) Hx rfl (Or.inl rfl))) (fun _ _ _ _=>B8) (fun _ _ _ _=>(AM (Fl (K:=K) rfl) rfl T.tuple jA_ (Aa (pvD 0) Ae)))) Ae)) Ae))))))))))),?_⟩
  walk_at "rd"
  refine⟨_,q1,_,rfl,?_⟩
  walk_at "rd"
  refine⟨_,.inr q2,fun pm bu=>?_⟩
  have sm:=Same.new (o:=.lst (marks.map V.int)) bu
  have bZ:upd H pm (.lst (marks.map V.int)) pm=some (.lst (marks.map V.int)):=Ab
  generalize upd H pm (.lst (marks.map V.int))=H0 at sm bZ ⊢
  obtain⟨R,hR⟩:∃R:St->Hp->Prop,∀ae H',R ae H'↔(∃(pw:Addr) (xs:List V) (aj:α2) (ay:α1) (room:Int) (o5 o6:Option V),Same H H'/\H0 pw=none/\H' pm=some (.lst (aj.map V.int))/\H' pw=some (.lst xs)/\LLs H0 H' xs ay/\pw≠pm/\0<=room/\room<marks.length/\aj.length=marks.length/\Wf L aj ay/\ae=[some (.ref h),some (.int num),some (.ref pm),some (.ref pw),some (.int room),o5,o6]):=⟨_,fun _ _=>ql_⟩
  obtain⟨R1,hR1⟩:∃R:St->Hp->Prop,∀ae H',R ae H'↔(∃(pw:Addr) (xs:List V),Same H0 H'/\H0 pw=none/\H' pw=some (.lst xs)/\LLs H0 H' xs aa/\ae=[some (.ref h),some (.int num),some (.ref pm),some (.ref pw),none,none,none]):=⟨_,fun _ _=>ql_⟩
  refine⟨R1,?_,fun gH H1 h1=>?_⟩
  ·obtain⟨gY,gw,y1,y2,y3⟩:=hh.mono sm
   obtain⟨ts,z1,z2,z3⟩:=id y3
   walk_at "rd"
   refine⟨_,y1,_,rfl,?_⟩
   walk_at "rd"
   refine⟨⟨_,z1⟩,?_⟩
   have hlen:=wf.len
   refine X4 (xs:=ts.map V.ref) (fun i ys af H2=>Same H0 H2/\LLs H0 H2 ys (aa.take i)/\∃o,af=[o]) ⟨Same.refl _,by rw[zT_];exact LLs.nil _ _,none,rfl⟩ (by rw[ja_];omega) (fun i ys af H2 _ h=>⟨h.1.seqT z1,by rw[h.2.1.len,jB_];omega⟩) (fun i x ys af H2 hx h=>?_) (fun ys af H2 h=>?_)
   ·obtain⟨s2,dk,o,rfl⟩:=h
    have hi:i<ts.length:=by have:=(jb_.mp hx).1;rwa [ja_]at this
    have iC:ts[i]?=some ts[i]:=by simp[hi]
    rw[je_,iC]at hx
    cases hx
    have bN:aa[i]?=some aa[i]:=by simp[show i<aa.length by omega]
    walk_at "rd"
    refine⟨_,.inr (s2.seqT (z3 i _ _ iC bN)),fun l d8=>⟨s2.newT d8,?_,_,rfl⟩⟩
    rw[jV_,bN]
    exact dk.snoc (Same.none s2 d8) d8
   ·obtain⟨s2,dk,o,rfl⟩:=h
    rw[ja_,z2,jU_]at dk
    intro D hD
    exact (hR1 _ _).mpr ⟨D,ys,s2.newT hD,Same.none s2 hD,Ab,dk.mono (Same.new hD),rfl⟩
  obtain⟨pw,xs,s1,cJ,aU,dk,rfl⟩:=(hR1 _ _).mp h1
  have je:pw≠pm:=fun z=>by rw[z,bZ]at cJ;cases cJ
  have hHpw:H pw=none:=Same.none sm cJ
  walk_at "rd"
  refine⟨(show CDiv num 3 from ⟨by omega,by omega⟩),_,.inl (SqL.of (s1 _ _ bZ)),?_⟩
  rw[ja_]
  refine⟨by omega,?_⟩
  have r0:=j8_ (num / 3) (show (marks.length:Int)≠0 by omega)
  have r1:=j0_ (num / 3) (show (0:Int)<marks.length by omega)
  generalize num / 3%(marks.length:Int)=room at r0 r1 ⊢
  refine⟨R,?_,fun af H2 h2=>?_⟩
  ·walk_at "rd"
   refine⟨by omega,ite2 (fun h3=>?_) (fun h3=>(hR _ _).mpr ⟨pw,xs,marks,aa,room,none,none,sm.trans s1,cJ,s1 _ _ bZ,aU,dk,je,r0,r1,rfl,wf,rfl⟩)⟩
   have hi:room.toNat<marks.length:=by omega
   have m0:=j8_ (marks[room.toNat]+1+num / 120%1000000000) (show (1000000001:Int)≠0 by omega)
   have m1:=j0_ (marks[room.toNat]+1+num / 120%1000000000) (show (0:Int)<1000000001 by omega)
   refine⟨_,SqL.of (s1 _ _ bZ),_,Bs r0 (show marks[room.toNat]?=some marks[room.toNat] by simp[hi]),_,rfl,(show CDiv num 120 from ⟨by omega,by omega⟩),by omega,by omega,_,s1 _ _ bZ,room.toNat,Tw r0 (by rw[ja_];exact r1),?_⟩
   generalize (marks[room.toNat]+1+num / 120%1000000000)%1000000001=mk at m0 m1 ⊢
   refine (hR _ _).mpr ⟨pw,xs,marks.set room.toNat mk,aa,room,none,none,(sm.trans s1).over bu,cJ,by rw[Ab,Tl],by rw[Ai je];exact aU,dk.off bZ,je,r0,r1,by rw[qQ_],wf.setM _ ⟨m0,by omega⟩,rfl⟩
  clear dk aU s1 h1
  obtain⟨pw,xs,aj,ay,room,o5,o6,s2,cJ,fK,da,dk,ao,r0,r1,f7,fQ,rfl⟩:=(hR _ _).mp h2
  refine⟨R,?_,fun av H3 h3=>?_⟩
  ·walk_at "rd"
   refine⟨by omega,ite2 (fun h3=>?_) (fun h3=>h2)⟩
   obtain⟨gY,gw,y1,y2,y3⟩:=hh.mono s2
   have l0:=j8_ (num / 120) (show L≠0 by omega)
   have l1:=j0_ (num / 120) (show (0:Int)<L by omega)
   refine⟨(show CDiv num 120 from ⟨by omega,by omega⟩),_,y1,_,rfl,_,rfl,by omega,_,.inl (SqL.of fK),by omega,by rw[ja_];omega,?_⟩
   generalize num / 120%L=letter at l0 l1 ⊢
   rw[ja_,ji_]
   have eK:=fQ.n40
   obtain⟨row,hrow,d0,cO⟩:=fQ.row r0 (by omega)
   obtain⟨t,fP,ht,gg,ft⟩:=dk.at hrow
   have ah:letter.toNat<row.length:=by omega
   have hg:row[letter.toNat]?=some row[letter.toNat]:=by simp[ah]
   have bJ:=(fQ.rows row d0).2 row[letter.toNat] (j2_ ah)
   generalize row[letter.toNat]=g0 at hg bJ
   refine Qa (fun i ys bg H4=>H4=H2/\(∃gs:α2,ys=gs.map V.int/\gs.length<=i/\(∀g∈gs,0<=g/\g<aj.length)/\(g0<i->gs ≠ []))/\∃o,bg=[o,some (.ref pm),some (.int letter),some (.ref pw),some (.int room)]) ⟨rfl,⟨[],rfl,by simp,by simp,fun h=>absurd h (by push_cast;omega)⟩,none,rfl⟩ (by omega) (fun i ys bg H4 _ h=>by obtain⟨_,⟨gs,rfl,h,_⟩,_⟩:=h;rw[ja_];exact h) (fun i ys bg H4 hi h=>?_) (fun ys bg H4 h=>?_)
   ·obtain⟨rfl,⟨gs,rfl,hgl,lT,nZ⟩,o,rfl⟩:=h
    have ei:(0:Int)+(i:Nat)=(i:Int):=by omega
    rw[ei]
    walk_at "rd"
    refine⟨_,SqL.of fK,_,WA (by omega) (by omega),_,SqL.of da,_,D4 r0 fP,?_⟩
    walk_at "rd"
    refine⟨_,SqL.of ht,_,Bs l0 hg,_,_,rfl,SqL.of fK,_,WA bJ.1 bJ.2,rfl,?_⟩
    by_cases he:mkW aj (i:Int)=mkW aj g0
    ·rw[if_pos (jG_ V.int he)]
     refine⟨⟨gs++[(i:Int)],by simp,by simp;omega,fun g hg=>?_,fun _=>by simp⟩,_,rfl⟩
     rcases jz_.mp hg with hg|hg
     ·exact lT g hg
     ·rw[js_.mp hg];omega
    ·rw[if_neg (fun z=>he (V.int.inj z))]
     refine⟨⟨gs,rfl,by omega,lT,fun h=>nZ ?_⟩,_,rfl⟩
     have:g0≠i:=fun z=>he (by rw[z])
     push_cast at h
     omega
   ·obtain⟨rfl,⟨gs,rfl,hgl,lT,nZ⟩,o,rfl⟩:=h
    intro D hD
    have hne':gs ≠ []:=nZ bJ.2
    have hgp:0<gs.length:=zL_.mpr hne'
    have sD:=Same.new (o:=.lst (gs.map V.int)) hD
    have i0:=j8_ (num / 720) (show (gs.length:Int)≠0 by omega)
    have i1:=j0_ (num / 720) (show (0:Int)<gs.length by omega)
    have dW:(num / 720%(gs.length:Int)).toNat<gs.length:=by omega
    refine⟨(show CDiv num 720 from ⟨by omega,by omega⟩),D,rfl,_,.inl (SqL.of Ab),by rw[ja_];omega,D,rfl,_,SqL.of Ab,V.int gs[(num / 720%(gs.length:Int)).toNat],by rw[ja_];exact Bs i0 (by simp[dW]),_,SqL.of (sD _ _ da),_,D4 r0 fP,t,rfl,_,sD _ _ ht,letter.toNat,Tw l0 (by rw[ja_];omega),?_⟩
    have hgx:=lT _ (j2_ dW)
    generalize gs[(num / 720%(gs.length:Int)).toNat]=gx at hgx ⊢
    have f9:pm≠t:=fun z=>by rw[<-z,bZ]at gg;cases gg
    have hwt:pw≠t:=fun z=>by
     rw[<-z,da]at ht
     have:=jG_ (fun o=>match o with|some (HO.lst l)=>l[room.toNat]? | _=>none) ht
     simp only[fP]at this
     rw[je_]at this
     cases e:row[room.toNat]? with
     |none=>rw[e]at this;cases this
     |some v=>rw[e]at this;cases this
    rw[Tl]
    have hLs:LLs H0 (upd (upd H4 D (.lst (gs.map V.int))) t (.lst ((row.set letter.toNat gx).map V.int))) xs (ay.set room.toNat (row.set letter.toNat gx)):=by
     obtain⟨t',a1,_,_,a4⟩:=(dk.mono sD).at hrow
     rw[fP]at a1
     cases a1
     exact a4 _ _
    exact (hR _ _).mpr ⟨pw,xs,aj,_,room,_,_,(s2.newT hD).over (Same.none sm gg),cJ,by rw[Ai f9];exact sD _ _ fK,by rw[Ai hwt];exact sD _ _ da,hLs,ao,r0,r1,f7,fQ.setW hrow _ hgx,rfl⟩
  obtain⟨pw,xs,aj,ay,room,o5,o6,s3,cJ,lF,cI,dk,ao,r0,r1,f7,fQ,rfl⟩:=(hR _ _).mp h3
  obtain⟨gY,gw,y1,y2,y3⟩:=hh.mono s3
  walk_at "rd"
  refine⟨_,y1,_,rfl,?_⟩
  walk_at "rd"
  refine⟨_,.inl ⟨SqL.of lF,fun l d8=>⟨⟨_,SqL.of (Same.new d8 _ _ cI)⟩,?_⟩⟩⟩
  have sl:=Same.new (o:=.tup (aj.map V.int)) d8
  have wl:=fQ.len
  have wn:=fQ.n40
  refine Yd (xs:=xs) (ws:=ay) (ae:=[]) (SqL.of (sl _ _ cI)) dk.len rfl (by rw[dk.len];omega) (fun i x w H4 s4 hx hw R hR=>?_) (fun H4 D ys s4 hD hT=>?_)
  ·obtain⟨t,a1,a2,_⟩:=dk.at hw
   rw[hx]at a1
   cases a1
   walk_at "rd"
   refine⟨_,.inl ⟨SqL.of (s4 _ _ (sl _ _ a2)),fun p hp=>hR p _ (Same.new hp) (SqT.of Ab)⟩⟩
  ·obtain⟨ko,bF,f6⟩:=hT.rows
   rw[Ab]at bF
   cases bF
   refine⟨D,rfl,_,.inl ⟨SqL.of Ab,fun l1 br=>⟨by omega,fun p5 bR=>?_⟩⟩⟩
   have sD:=Same.new (o:=.lst ys) hD
   refine k p5 aj ay _ (((((s3.trans sl).trans s4).newT hD).newT br).newT bR) ⟨l,l1,SqT.of Ab,?_,(f6 l1 br).mono (Same.new bR)⟩ fQ f7
   exact SqT.of (Same.new bR _ _ (Same.new br _ _ (sD _ _ (s4 _ _ Ab))))
def Ua (K:α3):Sp:=fun vs H Q _=>∃(h a:Addr) (L r:Int) (marks:α2) (aa:α1) (ws:α2),vs=[.ref h,.int r,.ref a]/\BO K H h L marks aa/\Wf L marks aa/\SqT K H a (ws.map V.int)/\isW L ws=true/\0<=r/\r<marks.length/\Q (.int (C1 aa r ws)) H
theorem QN   (F:Fun K "_law_walk" "_law_walk" C6 f fd)(T:Txt mg)
  : FnOk P w K mg base CX0 1 f fd ["house","room","word"] (Ua K):=by
 refine F.ok F7 (fun vs H Q E h=>?_) (fun aq A outer s H vs Q E hr h=>?_)
 ·obtain⟨h,a,L,r,marks,aa,ws,rfl,_⟩:=h;rfl
 ·obtain⟨h,a,L,r,marks,aa,ws,rfl,hh,wf,ha,hv,r0,r1,k⟩:=h
  refine⟨_,(Ad (Cb jI_ rfl (FU (pvD 2)) (At (i:=3) F7.nd rfl (Or.inl rfl))
   (Ag (Aj (i:=1) F7.nd (Ah (ixTD Ao) (Ah (ixTD Ao) (Ah (ixTD Ao) (pvD 0) Ac) (pvD 1)) (pvD 3)))))
   (Ag (AO (pvD 1)))),?_⟩
  walk_at "rd"
  refine⟨⟨_,ha⟩,forT (xs:=ws.map V.int) (fun i af H2=>H2=H/\∃o,af=[some (.ref h),some (.int (C1 aa r (ws.take i))),some (.ref a),o]) ⟨rfl,none,by simp[C1]⟩ (fun i af H2 _ h=>by rw[h.1];exact ha) (fun i x af H2 hx h=>?_) (fun af H2 h=>?_)⟩
  ·obtain⟨rfl,o,rfl⟩:=h
   obtain⟨n,hn,rfl⟩:=Di hx
   have bC:=AD.mp hv n (jd_ hn)
   have dE:=Tx wf (ws.take i) (On hv i) r0 r1
   obtain⟨row,g,r1,r2,r3,r4,r5⟩:=wf.step dE.1 dE.2 bC.1 bC.2
   obtain⟨m,wv,q1,q2,q3⟩:=id hh
   obtain⟨xs,t,z1,z2,z3⟩:=q3.atZ dE.1 r1
   walk_at "rd"
   refine⟨_,q1,_,rfl,?_⟩
   walk_at "rd"
   refine⟨_,z1,_,z2,?_⟩
   walk_at "rd"
   refine⟨_,z3,_,Bs bC.1 r2,?_⟩
   rw[Uw hn,r3]
   exact⟨rfl,_,rfl⟩
  ·obtain⟨rfl,o,rfl⟩:=h
   rw[ja_,jU_]
   walk_at "rd"
   exact k
def DD (K:α3)(H:Hp)(xs:List V)(aw:List (α2×Int)):Prop:=xs.length=aw.length/\∀(i:Nat) (tr:α2×Int),aw[i]?=some tr->∃t wt,xs[i]?=some (.ref t)/\SqT K H t [.ref wt,.int tr.2]/\SqT K H wt (tr.1.map V.int)/\tr.1.length<=600
theorem DD.mono {K:α3}    (h:DD K H xs aw)(s:Same H H'):DD K H' xs aw:=by
 refine⟨h.1,fun i tr aR=>?_⟩
 obtain⟨t,wt,a,b,c,d⟩:=h.2 i tr aR
 exact⟨t,wt,a,s.seqT b,s.seqT c,d⟩
theorem DD.nil {K:α3}  : DD K H [] []:=⟨rfl,fun i tr h=>by simp at h⟩
theorem DD.snoc {K:α3}{H:Hp}{xs:List V}{aw:List (α2×Int)}(h:DD K H xs aw){t wt:Addr}{w:α2}{m:Int}(h1:SqT K H t [.ref wt,.int m])(h2:SqT K H wt (w.map V.int))(h3:w.length<=600):DD K H (xs++[.ref t]) (aw++[(w,m)]):=by
 refine⟨by rw[jo_,jo_,h.1];rfl,fun i tr hi=>?_⟩
 by_cases du:i<aw.length
 ·rw[jj_ du]at hi
  rw[jj_ (by rw[h.1];exact du)]
  exact h.2 i tr hi
 ·have:=(jb_.mp hi).1
  rw[jo_,jY_]at this
  have ei:i=aw.length:=by omega
  subst ei
  rw[ju_ (jg_ _),qC_]at hi
  simp at hi
  subst hi
  refine⟨t,wt,?_,h1,h2,h3⟩
  rw[ju_ (by rw[h.1];exact jg_ _),h.1,qC_];rfl
def Wds (K:α3)(H:Hp)(xs:List V)(ws:α1):Prop:=xs.length=ws.length/\∀(i:Nat) (w:α2),ws[i]?=some w->∃t,xs[i]?=some (.ref t)/\SqT K H t (w.map V.int)
def Ft (marks:α2)(aa:α1)(w:α2):α2×Int:=(w,IS marks (AK aa w))
def Aj_ (K:α3):Sp:=fun vs H Q E=>∃(h a:Addr) (L:Int) (marks:α2) (aa:α1) (xs:List V) (ws:α1),vs=[.ref h,.ref a]/\BO K H h L marks aa/\Wf L marks aa/\SqL K H a xs/\Wds K H xs ws/\(∀w∈ws,w.length<=600)/\xs.length<sizeLine /\
 ((∀w∈ws,isW L w=true)->∀H2 D ys,Same H H2->H2 D=none->DD K H2 ys (ws.map (Ft marks aa))->Q (.ref D) (upd H2 D (.lst ys))) /\
 ((∃w∈ws,isW L w=false)->False)
theorem QO   (F:Fun K "trials_of" "trials_of" C4 f fd)(T:Txt mg)
   (CN:FnOk P w K mg base CX0 5 Bn CV ["house","word"] (Sg K)) (BL:Fun K "mark_behind" "mark_behind" BE Bn CV) (CO:Binds K CV ["house","word"] []) (CP:mg "mark_behind"=some (.ref Bn))
  : FnOk P w K mg base CX0 6 f fd ["house","words"] (Aj_ K):=by
 refine F.ok QA (fun vs H Q E h=>?_) (fun aq A outer s H vs Q E hr h=>?_)
 ·obtain⟨h,a,L,marks,aa,xs,ws,rfl,_⟩:=h;rfl
 ·obtain⟨h,a,L,marks,aa,xs,ws,rfl,hh,wf,ha,hw,cq,bL,k,kE⟩:=h
  have hl:=AC
  refine⟨_,(Ag (AO (BX rfl (BY rfl) (cp:=Ie) ⟨⟨rfl,rfl⟩,True.intro⟩ (BW (pvD 1)) (fun _ _ _ _=>(At (i:=0) JL rfl (Or.inl rfl))) (fun _ _ _ _=>B8) (fun _ _ _ _=>(C7 (Aa (pvD 0) (Aa (Al CN (hr.mono (by decide)) rfl CP BL.kp CO .nil AZ (Aa (pvD 1) (Aa (pvD 0) Ae))) Ae))))))),?_⟩
  walk_at "rd"
  refine⟨⟨_,ha⟩,?_⟩
  obtain⟨Pv,ai⟩:∃Pv:Nat->List V->St->Hp->Prop,∀i ys ae H',Pv i ys ae H'↔(Same H H'/\DD K H' ys ((ws.take i).map (Ft marks aa))/\(∀w∈ws.take i,isW L w=true)/\i<=ws.length/\∃o,ae=[o,some (.ref h)]):=⟨_,fun _ _ _ _=>ql_⟩
  refine P9 (xs:=xs) Pv ((ai _ _ _ _).mpr ⟨Same.refl _,by rw[zT_];exact DD.nil,by simp,jZ_ _,none,rfl⟩) (by omega) (fun i ys af H2 hi h2=>?_) (fun i x ys af H2 hx h2=>?_) (fun ys af H2 h2 D hD=>?_)
  ·obtain⟨s2,t2,_,du,_⟩:=(ai _ _ _ _).mp h2
   refine⟨s2.seq ha,?_⟩
   rw[t2.1,ja_,jB_]
   omega
  ·obtain⟨s2,t2,ar,du,o,rfl⟩:=(ai _ _ _ _).mp h2
   have hi:i<ws.length:=by rw[<-hw.1];exact (jb_.mp hx).1
   have bN:ws[i]?=some ws[i]:=by simp[hi]
   obtain⟨t,e1,e2⟩:=hw.2 i _ bN
   rw[hx]at e1
   cases e1
   have hsz:=cq _ (jd_ bN)
   have jS:ws.take (i+1)=ws.take i++[ws[i]]:=by rw[List.take_succ,bN];rfl
   walk_at "rd"
   refine⟨h,t,L,marks,aa,ws[i],rfl,hh.mono s2,wf,s2.seqT e2,hsz,fun hv H3 s3=>⟨by omega,fun p hp=>?_⟩,fun hv=>kE ⟨_,jd_ bN,hv⟩⟩
   have sp:=s3.newT (o:=.tup [V.ref t,V.int (IS marks (AK aa ws[i]))]) hp
   refine (ai _ _ _ _).mpr ⟨s2.trans sp,?_,fun w lj=>?_,hi,_,rfl⟩
   ·rw[jS,jT_]
    exact (t2.mono sp).snoc (SqT.of Ab) ((s2.trans sp).seqT e2) hsz
   ·rw[jS]at lj
    rcases jz_.mp lj with z|z
    ·exact ar w z
    ·rw[js_.mp z];exact hv
  ·obtain⟨s2,t2,ar,_,o,rfl⟩:=(ai _ _ _ _).mp h2
   rw[jO_ (by rw[hw.1];exact jg_ _)]at t2 ar
   exact k ar H2 D ys s2 hD t2
def Go (marks:α2)(aa:α1)(tr:α2×Int):Bool:=decide (IS marks (AK aa tr.1)≠tr.2)
def Bw_ (K:α3):Sp:=fun vs H Q E=>∃(h a:Addr) (L:Int) (marks:α2) (aa:α1) (xs:List V) (aw:List (α2×Int)),vs=[.ref h,.ref a]/\BO K H h L marks aa/\Wf L marks aa/\SqL K H a xs/\DD K H xs aw /\
 ((∀tr∈aw,isW L tr.1=true)->∀H',Same H H'->((∀tr∈aw,Go marks aa tr=false)->Q .non H')/\∀(i:Nat) (tr:α2×Int) (x:V),(∀j,j<i->∀tr',aw[j]?=some tr'->Go marks aa tr'=false)->aw[i]?=some tr->xs[i]?=some x->Go marks aa tr=true->Q x H') /\
 ((∃tr∈aw,isW L tr.1=false)->False)
theorem LI   (F:Fun K "first_failed" "first_failed" Bo f fd)(T:Txt mg)
   (BF:FnOk P w K mg base CX0 2 A6 BG ["letters","word"] (KL K)) (Bg:Fun K "check_word" "check_word" BC A6 BG) (BH:Binds K BG ["letters","word"] []) (BI:mg "check_word"=some (.ref A6))
   (CN:FnOk P w K mg base CX0 5 Bn CV ["house","word"] (Sg K)) (BL:Fun K "mark_behind" "mark_behind" BE Bn CV) (CO:Binds K CV ["house","word"] []) (CP:mg "mark_behind"=some (.ref Bn))
  : FnOk P w K mg base CX0 6 f fd ["house","some"] (Bw_ K):=by
 refine F.ok D8 (fun vs H Q E h=>?_) (fun aq A outer s H vs Q E hr h=>?_)
 ·obtain⟨h,a,L,marks,aa,xs,aw,rfl,_⟩:=h;rfl
 ·obtain⟨h,a,L,marks,aa,xs,aw,rfl,hh,wf,ha,ht,k,kE⟩:=h
  have hl:=AC
  refine⟨_,(Ad (Cb jI_ rfl (BW (pvD 1)) (At (i:=2) D8.nd rfl (Or.inl rfl))
   (Ag (BN (Al BF (hr.mono (by decide)) rfl BI Bg.kp BH .nil AZ (Aa (Ah (ixTD Ao) (pvD 0) Ac) (Aa (Ah (ixTD Ao) (pvD 2) Ac) Ae))))))
   (Ad (Cb jI_ rfl (BW (pvD 1)) (At (i:=2) D8.nd rfl (Or.inl rfl))
   (Ag (Cq (ptT (Av (opN XQ) (Al CN (hr.mono (by decide)) rfl CP BL.kp CO .nil AZ (Aa (pvD 0) (Aa (Ah (ixTD Ao) (pvD 2) Ac) Ae))) (Ah (ixTD Ao) (pvD 2) Ac) (AS _)))
   (Ag (AO (pvD 2)))
   AU)))
   (Ag (AO VE)))),?_⟩
  walk_at "rd"
  refine⟨⟨_,ha⟩,?_⟩
  obtain⟨Pv,ai⟩:∃Pv:Nat->St->Hp->Prop,∀i ae H',Pv i ae H'↔(Same H H'/\(∀j,j<i->∀tr,aw[j]?=some tr->isW L tr.1=true)/\∃o,ae=[some (.ref h),some (.ref a),o]):=⟨_,fun _ _ _=>ql_⟩
  refine forL (xs:=xs) Pv ((ai _ _ _).mpr ⟨Same.refl _,fun j hj=>absurd hj (xj_ _),none,rfl⟩) (fun i af H2 _ h2=>((ai _ _ _).mp h2).1.seq ha) (fun i x af H2 hx h2=>?_) (fun af H2 h2=>?_)
  ·obtain⟨s2,ar,o,rfl⟩:=(ai _ _ _).mp h2
   have hi:i<aw.length:=by rw[<-ht.1];exact (jb_.mp hx).1
   have aR:aw[i]?=some aw[i]:=by simp[hi]
   obtain⟨t,wt,e1,e2,e3,e4⟩:=ht.2 i _ aR
   rw[hx]at e1
   cases e1
   obtain⟨tm,tw,q1,q2,q3⟩:=hh.mono s2
   walk_at "rd"
   refine⟨_,q1,_,rfl,?_⟩
   walk_at "rd"
   refine⟨_,s2.seqT e2,_,rfl,?_⟩
   refine⟨L,wt,aw[i].1,rfl,s2.seqT e3,by omega,fun hv H3 s3=>?_,fun hv=>kE ⟨_,jd_ aR,hv⟩⟩
   refine (ai _ _ _).mpr ⟨s2.trans s3,fun j hj tr bK=>?_,_,rfl⟩
   by_cases j5:j<i
   ·exact ar j j5 tr bK
   ·have:j=i:=by omega
    subst this
    rw[aR]at bK
    cases bK
    exact hv
  ·obtain⟨s2,ar,o,rfl⟩:=(ai _ _ _).mp h2
   have hW:∀tr∈aw,isW L tr.1=true:=fun tr aR=>by
    obtain⟨j,hj,ej⟩:=jS_ aR
    exact ar j (by rw[ht.1];exact hj) tr (by rw[jf_ hj,ej])
   walk_at "rd"
   refine⟨⟨_,s2.seq ha⟩,?_⟩
   obtain⟨Pw,bI⟩:∃Pv:Nat->St->Hp->Prop,∀i ae H',Pv i ae H'↔(Same H H'/\(∀j,j<i->∀tr,aw[j]?=some tr->Go marks aa tr=false)/\∃o,ae=[some (.ref h),some (.ref a),o]):=⟨_,fun _ _ _=>ql_⟩
   refine forL (xs:=xs) Pw ((bI _ _ _).mpr ⟨s2,fun j hj=>absurd hj (xj_ _),_,rfl⟩) (fun i av H3 _ h3=>((bI _ _ _).mp h3).1.seq ha) (fun i x av H3 hx h3=>?_) (fun av H3 h3=>?_)
   ·obtain⟨s3,cM,o,rfl⟩:=(bI _ _ _).mp h3
    have hi:i<aw.length:=by rw[<-ht.1];exact (jb_.mp hx).1
    have aR:aw[i]?=some aw[i]:=by simp[hi]
    obtain⟨t,wt,e1,e2,e3,e4⟩:=ht.2 i _ aR
    rw[hx]at e1
    cases e1
    have hv:=hW _ (jd_ aR)
    walk_at "rd"
    refine⟨_,s3.seqT e2,_,rfl,?_⟩
    refine⟨h,wt,L,marks,aa,aw[i].1,rfl,hh.mono s3,wf,s3.seqT e3,e4,fun _ H4 s4=>?_,fun z=>by rw[hv]at z;cases z⟩
    have n0:=s3.trans s4
    walk_at "rd"
    refine⟨_,n0.seqT e2,_,rfl,rfl,?_⟩
    by_cases he:IS marks (AK aa aw[i].1)=aw[i].2
    ·rw[if_neg (by rw[qh_ (jG_ V.int he)];decide)]
     refine (bI _ _ _).mpr ⟨n0,fun j hj tr bK=>?_,_,rfl⟩
     by_cases j5:j<i
     ·exact cM j j5 tr bK
     ·have:j=i:=by omega
      subst this
      rw[aR]at bK
      cases bK
      exact qd_ (fun z=>z he)
    ·rw[if_pos (by rw[qd_ (fun z=>he (V.int.inj z))];decide)]
     exact (k hW H4 n0).2 i _ _ cM aR hx (qh_ he)
   ·obtain⟨s3,cM,o,rfl⟩:=(bI _ _ _).mp h3
    walk_at "rd"
    refine (k hW H3 s3).1 fun tr aR=>?_
    obtain⟨j,hj,ej⟩:=jS_ aR
    exact cM j (by rw[ht.1];exact hj) tr (by rw[jf_ hj,ej])
def QP (K:α3):Sp:=fun vs H Q E=>∃(h a:Addr) (L:Int) (marks:α2) (aa:α1) (xs:List V) (aw:List (α2×Int)),vs=[.ref h,.ref a]/\BO K H h L marks aa/\Wf L marks aa/\SqL K H a xs/\DD K H xs aw /\
 ((∀tr∈aw,isW L tr.1=true)->∀H',Same H H'->Q (.bl (aw.all fun tr => !Go marks aa tr)) H')/\((∃tr∈aw,isW L tr.1=false)->False)
theorem XB   (F:Fun K "passes" "passes" Fo f fd)(T:Txt mg)
   (Cf:FnOk P w K mg base CX0 6 Bb CC ["house","some"] (Bw_ K)) (Bp:Fun K "first_failed" "first_failed" Bo Bb CC) (Cg:Binds K CC ["house","some"] []) (Ci:mg "first_failed"=some (.ref Bb))
  : FnOk P w K mg base CX0 7 f fd ["house","some"] (QP K):=by
 refine F.ok Xr (fun vs H Q E h=>?_) (fun aq A outer s H vs Q E hr h=>?_)
 ·obtain⟨h,a,L,marks,aa,xs,aw,rfl,_⟩:=h;rfl
 ·obtain⟨h,a,L,marks,aa,xs,aw,rfl,hh,wf,ha,ht,k,kE⟩:=h
  refine⟨_,(Ag (AO (Rw BR_ (Al Cf (hr.mono (by decide)) rfl Ci Bp.kp Cg .nil AZ (Aa (pvD 0) (Aa (pvD 1) Ae))) VE (AS _)))),?_⟩
  walk_at "rd"
  refine⟨h,a,L,marks,aa,xs,aw,rfl,hh,wf,ha,ht,fun hW H' s=>⟨fun ar=>?_,fun i tr x cM aR hx hf=>?_⟩,kE⟩
  ·walk_at "rd"
   have:=k hW H' s
   rw[show (aw.all fun tr => !Go marks aa tr)=true from qo_.mpr fun tr aR=>by rw[ar tr aR];rfl]at this
   exact this
  ·obtain⟨t,wt,e1,_⟩:=ht.2 i tr aR
   rw[hx]at e1
   cases e1
   walk_at "rd"
   have:=k hW H' s
   rw[show (aw.all fun tr => !Go marks aa tr)=false from Bool.eq_false_iff.mpr fun z=>by
    have:=qo_.mp z tr (jd_ aR)
    rw[hf]at this
    cases this]at this
   exact this
theorem Ss {K:α3}     (e:SqT K H l zs)(h:AV K H zs ws):Rows K H l ws:=by
 obtain⟨os,x1,x2,x3⟩:=Ip h
 refine⟨os.map (·.1),?_,by rw[<-x2,ja_,ja_],fun i t row hi hrow=>?_⟩
 ·rw[jX_]
  rw[x1]at e
  exact e
 ·rw[<-x2,je_]at hrow
  rw[je_]at hi
  cases ho:os[i]? with
  |none=>rw[ho]at hi;cases hi
  |some o=>
   rw[ho]at hi hrow
   cases hi;cases hrow
   exact SqT.of (x3 o (jd_ ho))
def Ub (K:α3):Sp:=fun vs H Q _=>∃(h a:Addr) (L m:Nat) (ns:α2) (marks:α2) (aa:α1),vs=[.ref h,.ref a,.int m]/\BO K H h L marks aa/\Wf L marks aa/\marks.length<=15/\m<=3/\SqL K H a (ns.map V.int)/\∀(h':Addr) (mr:α2) (wr:α1) (H':Hp),Same H H'->BO K H' h' L mr wr->Wf L mr wr->mr.length<=(sM L marks aa).length+m->Q (.ref h') H'
theorem JV   (F:Fun K "_law_rival_by" "_law_rival_by" Bx f fd)(T:Txt mg)
   (Ap:FnOk P w K mg base CX0 1 Au AI ["script","k"] (Jc K)) (Am:Fun K "_law_cell_at" "_law_cell_at" A2 Au AI) (Aq:Binds K AI ["script","k"] []) (Ar:mg "_law_cell_at"=some (.ref Au))
   (AF:FnOk P w K mg base CX0 1 AL AT ["number","k","many"] (GP)) (Ax:Fun K "_law_mixed" "_law_mixed" Bf AL AT) (AG:Binds K AT ["number","k","many"] []) (AH:mg "_law_mixed"=some (.ref AL))
   (De:FnOk P w K mg base CX0 2 BK Dp ["house","number","rooms"] (OO K)) (Ca:Fun K "_law_blown" "_law_blown" B9 BK Dp) (Df:Binds K Dp ["house","number","rooms"] []) (Dg:mg "_law_blown"=some (.ref BK))
   (EE:FnOk P w K mg base CX0 1 Cj Gp ["house","number"] (NX K)) (CW:Fun K "_law_spoiled" "_law_spoiled" BR Cj Gp) (EF:Binds K Gp ["house","number"] []) (EG:mg "_law_spoiled"=some (.ref Cj))
   (DM:FnOk P w K mg base CX0 1 Bz Fb ["house","number"] (LA K)) (Cc:Fun K "_law_turned_by" "_law_turned_by" Bj Bz Fb) (DN:Binds K Fb ["house","number"] []) (DO:mg "_law_turned_by"=some (.ref Bz))
   (HI:FnOk P w K mg base CX0 2 Dz Jz ["house"] (T9 K)) (Eh:Fun K "_law_base" "_law_base" C5 Dz Jz) (HJ:Binds K Jz ["house"] []) (HK:mg "_law_base"=some (.ref Dz))
  : FnOk P w K mg base CX0 3 f fd ["house","script","many"] (Ub K):=by
 refine F.ok AR (fun vs H Q E h=>?_) (fun aq A outer s H vs Q E hr h=>?_)
 ·obtain⟨h,a,L,m,ns,marks,aa,rfl,_⟩:=h;rfl
 ·obtain⟨h,a,L,m,ns,marks,aa,rfl,hh,wf,h15,lF,hs,k⟩:=h
  have hl:=AC
  have b8:=wf.l1
  have b9:=wf.l6
  have bQ:=wf.n1
  have hsl:(sM L marks aa).length<=marks.length:=by
   rw[Jv]
   exact ZT wf
  have bp:=sWf wf
  have gM:=bp.n1
  refine⟨_,(Ad (Aj (i:=3) AR.nd (Al HI (hr.mono (by decide)) rfl HK Eh.kp HJ .nil AZ (Aa (pvD 0) Ae)))
   (Ad (B7 (i:=4) AR.nd rfl (Or.inr rfl) (Al Ap (hr.mono (by decide)) rfl Ar Am.kp Aq .nil AZ (Aa (pvD 1) (Aa Ac Ae))))
   (Ad (Aj (i:=5) AR.nd (Ah (ixLD Bi) (Cn (Aa Ac (Aa Ac (Aa Ac (Aa Ac (Aa Ac (Aa Ac Ae))))))) (An (opD A1) (pvD 4) Ac)))
   (Ad (B7 (i:=4) AR.nd rfl (Or.inr rfl) (An (opD Cs) (pvD 4) Ac))
   (Yn (Aj (i:=6) AR.nd (An (opD0 Bh) (As (lenD Ak) (by rfl) T.len jH_ (Aa (Ah (ixTD Ao) (pvD 3) Ac) Ae)) (pvD 2)))
   (Ad (Cq (ptT (Av (opE Dh) (pvD 5) Ac (AS _)))
   (Ad (B7 (i:=7) AR.nd rfl (Or.inr rfl) (An (opD0 Bh) Ac (An (opD A1) (pvD 4) (pvD 6))))
   (Ad (Hk (i:=8) AR.nd rfl rfl rfl (BY rfl) (cp:=EX) ⟨⟨rfl,rfl⟩,⟨⟨rfl,rfl⟩,True.intro⟩⟩ (Bc rfl T.range (Aa (pvD 7) Ae)) (fun _ _ _ _=>(At (i:=0) GU rfl (Or.inl rfl))) (fun _ _ _ _=>B8) (fun _ _ _ _=>(Ah (ixTD (Dj (K:=K) rfl)) (Ah (ixTD (Dj (K:=K) rfl)) (pvD 1) Ac) (Al AF (hr.mono (by decide)) rfl AH Ax.kp AG .nil AZ (Aa (pvD 2) (Aa (pvD 0) (Aa (As (lenD (Oe (K:=K) rfl)) (by rfl) T.len jH_ (Aa (Ah (ixTD (Dj (K:=K) rfl)) (pvD 1) Ac) Ae)) Ae)))))))
   (Ad (Yf (i:=9) AR.nd rfl rfl rfl (AP_ rfl) (cp:=EY) ⟨⟨rfl,rfl⟩,⟨⟨rfl,rfl⟩,⟨⟨rfl,rfl⟩,True.intro⟩⟩⟩ (Bc rfl T.range (Aa (pvD 7) Ae)) (fun _ _ _ _=>(At (i:=0) GV rfl (Or.inr rfl))) (fun _ _ _ _=>B8) (fun _ _ _ _=>(BX rfl (BY rfl) (cp:=EZ) ⟨⟨rfl,rfl⟩,⟨⟨rfl,rfl⟩,⟨⟨rfl,rfl⟩,True.intro⟩⟩⟩ (Bc rfl T.range (Aa (Ah (ixTD (Dj (K:=K) rfl)) (pvD 3) Ac) Ae)) (fun _ _ _ _=>(At (i:=0) GX rfl (Or.inl rfl))) (fun _ _ _ _=>B8) (fun _ _ _ _=>(Al AF (hr.mono (by decide)) rfl AH Ax.kp AG .nil AZ (Aa (An (opD0 Bh) (pvD 2) Ac) (Aa (An (opD0 Bh) (An (opD HQ) (pvD 3) Ac) (pvD 0)) (Aa (pvD 1) Ae))))))))
   (Ag (AO (C7 (Aa (Ah (ixTD Ao) (pvD 0) Ac) (Aa (AM AE rfl T.tuple jA_ (Aa (pvD 8) Ae)) (Aa (AM AE rfl T.tuple jA_ (Aa (BX rfl (BY rfl) (cp:=E1) True.intro (BW (pvD 9)) (fun _ _ _ _=>(At (i:=0) GY rfl (Or.inl rfl))) (fun _ _ _ _=>B8) (fun _ _ _ _=>(AM (Fl (K:=K) rfl) rfl T.tuple jA_ (Aa (pvD 0) Ae)))) Ae)) Ae)))))))))
   AU)
   (Ad (Aj (i:=10) AR.nd (Al DM (hr.mono (by decide)) rfl DO Cc.kp DN .nil AZ (Aa (Al De (hr.mono (by decide)) rfl Dg Ca.kp Df .nil AZ (Aa (pvD 3) (Aa (pvD 4) (Aa (An (opD0 Ep) (pvD 6) (An (opD A1) (pvD 4) (An (opD0 Bh) (pvD 2) Ac))) Ae)))) (Aa (An (opD A1) (pvD 4) Ac) Ae))))
   (CQ (Cq (ptT (Av (opN XQ) (pvD 5) Ac (AS _)))
   (Ag (Aj (i:=10) AR.nd (Al EE (hr.mono (by decide)) rfl EG CW.kp EF .nil AZ (Aa (pvD 10) (Aa (An (opD0 Bh) (An (opD HQ) (An (opD Cs) (pvD 4) Ac) Ac) (pvD 5)) Ae)))))
   AU)
   (Ag (AO (pvD 10))))))))))),?_⟩
  walk_at "rd"
  refine⟨h,L,marks,aa,rfl,hh,wf,fun hb H1 s1 n5=>?_⟩
  generalize sM L marks aa=ms at bp gM hsl n5 k
  generalize sW L marks aa=vs at bp n5
  refine⟨a,ns,5,rfl,s1.seq hs,?_⟩
  dsimp only
  generalize cell ns 5=num
  refine⟨by omega,fun p hp=>⟨num,rfl,by decide,?_⟩⟩
  have sp:=s1.newT hp (o:=.lst [V.int 0,V.int 1,V.int 2,V.int 3,V.int 2,V.int 2])
  have sp1:=Same.new hp (o:=.lst [V.int 0,V.int 1,V.int 2,V.int 3,V.int 2,V.int 2])
  have ep:upd H1 p (.lst [V.int 0,V.int 1,V.int 2,V.int 3,V.int 2,V.int 2]) p=some (.lst [V.int 0,V.int 1,V.int 2,V.int 3,V.int 2,V.int 2]):=Ab
  have jf:=n5.mono sp1
  have hh2:=hh.mono sp
  generalize upd H1 p (.lst [V.int 0,V.int 1,V.int 2,V.int 3,V.int 2,V.int 2])=H2 at sp sp1 ep jf hh2 ⊢
  obtain⟨wy,hwy⟩:∃wy:Int,atI [V.int 0,V.int 1,V.int 2,V.int 3,V.int 2,V.int 2] (num%6)=some (V.int wy):=by
   have h0:=j8_ num (show (6:Int)≠0 by decide)
   have h1:=j0_ num (show (0:Int)<6 by decide)
   rcases (show num%6=0\/num%6=1\/num%6=2\/num%6=3\/num%6=4\/num%6=5 by omega) with e|e|e|e|e|e<;>rw[e]<;>exact⟨_,rfl⟩
  obtain⟨tb,wb,b1,b2,b3⟩:=id jf
  refine⟨_,SqL.of ep,_,hwy,num,rfl,⟨by decide,by decide⟩,hb,rfl,_,b1,_,rfl,tb,rfl,_,.inr b2,?_⟩
  rw[ja_]
  refine Ym ?_
  walk_at "rd"
  refine ite2 (fun h3=>?_) (fun h3=>?_)
  ·have cZ:=j8_ (num / 6) (show ((ms.length:Int)+m)≠0 by omega)
   have hr1:=j0_ (num / 6) (show (0:Int)<(ms.length:Int)+m by omega)
   obtain⟨rn,hrn⟩:∃rn:Nat,1+num / 6%((ms.length:Int)+m)=(rn:Int):=⟨(1+num / 6%((ms.length:Int)+m)).toNat,by omega⟩
   rw[hrn]
   have hrn1:1<=rn:=by omega
   have hrnm:rn<=ms.length+m:=by omega
   obtain⟨tm,tw,q1,q2,q3⟩:=id hh2
   refine⟨by omega,by omega,by omega,?_⟩
   rw[ji_]
   obtain⟨Pc,cy⟩:∃Pc:Nat->List V->St->Hp->Prop,∀i ys ae H',Pc i ys ae H'↔(H'=H2/\(∃ks:α2,ys=ks.map V.int/\ks.length=i/\∀x∈ks,x∈marks)/\∃o,ae=[o,some (.ref h),some (.int (num / 6))]):=⟨_,fun _ _ _ _=>ql_⟩
   refine Qa Pc ((cy _ _ _ _).mpr ⟨rfl,⟨[],rfl,rfl,fun x hx=>by cases hx⟩,none,rfl⟩) (by omega) (fun i ys ae H' hi h'=>by obtain⟨_,⟨ks,rfl,e,_⟩,_⟩:=(cy _ _ _ _).mp h';rw[ja_,e];exact jg_ _) (fun i ys ae H' hi h'=>?_) (fun ys ae H' h' pm bu=>?_)
   ·obtain⟨rfl,⟨ks,rfl,fV,kM⟩,o,rfl⟩:=(cy _ _ _ _).mp h'
    walk_at "rd"
    refine⟨_,q1,_,rfl,_,q1,_,rfl,tm,rfl,_,.inr q2,?_⟩
    rw[ja_]
    refine⟨_,_,_,rfl,by omega,by omega,by omega,fun x cm bF=>?_⟩
    have bL:x.toNat<marks.length:=by omega
    refine⟨tm,rfl,_,x,rfl,q2,_,Bs cm (v:=marks[x.toNat]) (jf_ bL),(cy _ _ _ _).mpr ⟨rfl,⟨ks++[marks[x.toNat]],by simp,by simp[fV],fun y hy=>?_⟩,_,rfl⟩⟩
    rcases jz_.mp hy with hy|hy
    ·exact kM y hy
    ·rw[js_.mp hy];exact j2_ bL
   ·obtain⟨rfl,⟨mr,rfl,f7,la⟩,o,rfl⟩:=(cy _ _ _ _).mp h'
    have s3:=Same.new bu (o:=.lst (mr.map V.int))
    have jd:upd H' pm (.lst (mr.map V.int)) pm=some (.lst (mr.map V.int)):=Ab
    generalize upd H' pm (.lst (mr.map V.int))=H3 at s3 jd ⊢
    refine⟨by omega,by omega,?_⟩
    refine Qa (fun i ys ae H'=>Same H3 H'/\(∃ws:α1,TB K H' ys ws/\ws.length=i/\∀row∈ws,row.length=L/\∀x∈row,0<=x/\x<(rn:Int))/\∃o,ae=[o,some (.int rn),some (.int (num / 6)),some (.ref h)]) ⟨Same.refl _,⟨[],⟨rfl,fun i w h=>by simp at h⟩,rfl,fun x hx=>by cases hx⟩,none,rfl⟩ (by omega) (fun i ys ae H' hi h'=>by obtain⟨_,⟨ws,hw,e,_⟩,_⟩:=h';rw[hw.1,e];exact jg_ _) (fun i ys ae H4 hi h'=>?_) (fun ys ae H4 h' pw aU=>?_)
    ·obtain⟨s4,⟨ws,cg,cq,eE⟩,o,rfl⟩:=h'
     rw[zR_]
     walk_at "rd"
     refine⟨_,(s3.trans s4).seqT q1,_,rfl,_,rfl,by omega,by omega,?_⟩
     rw[ji_]
     obtain⟨Pd,kN⟩:∃Pc:Nat->List V->St->Hp->Prop,∀j zs ae H',Pc j zs ae H'↔(H'=H4/\(∃ks:α2,zs=ks.map V.int/\ks.length=j/\∀x∈ks,0<=x/\x<(rn:Int))/\∃o,ae=[o,some (.int rn),some (.int (num / 6)),some (.int i)]):=⟨_,fun _ _ _ _=>ql_⟩
     refine Qa Pd ((kN _ _ _ _).mpr ⟨rfl,⟨[],rfl,rfl,fun x hx=>by cases hx⟩,none,rfl⟩) (by omega) (fun j zs ae H' hj h'=>by obtain⟨_,⟨ks,rfl,e,_⟩,_⟩:=(kN _ _ _ _).mp h';rw[ja_,e];exact jg_ _) (fun j zs ae H' hj h'=>?_) (fun zs ae H' h' D hD=>?_)
     ·obtain⟨rfl,⟨ks,rfl,fV,kM⟩,o,rfl⟩:=(kN _ _ _ _).mp h'
      rw[zR_]
      walk_at "rd"
      refine⟨.inl ⟨by omega,by omega⟩,_,_,_,rfl,by omega,by omega,by omega,fun x cm bF=>(kN _ _ _ _).mpr ⟨rfl,⟨ks++[x],by simp,by simp[fV],fun y hy=>?_⟩,_,rfl⟩⟩
      rcases jz_.mp hy with hy|hy
      ·exact kM y hy
      ·rw[js_.mp hy];exact⟨cm,bF⟩
     ·obtain⟨rfl,⟨ks,rfl,fV,kM⟩,o,rfl⟩:=(kN _ _ _ _).mp h'
      refine⟨s4.newT hD,⟨ws++[ks],?_,by simp[cq],fun row hr=>?_⟩,_,rfl⟩
      ·have sD:=Same.new hD (o:=.lst (ks.map V.int))
       refine⟨by rw[jo_,jo_,cg.1];rfl,fun i2 w hw=>?_⟩
       by_cases jo:i2<ws.length
       ·rw[jj_ jo]at hw
        obtain⟨t,a1,a2⟩:=cg.2 i2 w hw
        exact⟨t,by rw[jj_ (by rw[cg.1];exact jo)];exact a1,sD _ _ a2⟩
       ·rw[ju_ (by omega)]at hw
        have h0:i2-ws.length=0:=by
         have:=(jb_.mp hw).1
         simpa using this
        rw[h0]at hw
        have hw:ks=w:=by simpa using hw
        subst hw
        exact⟨D,by rw[ju_ (by rw[cg.1];omega),cg.1,h0];rfl,Ab⟩
      ·rcases jz_.mp hr with hr|hr
       ·exact eE row hr
       ·rw[js_.mp hr];exact⟨fV,kM⟩
    ·obtain⟨s4,⟨ws,cg,cq,eE⟩,o,rfl⟩:=h'
     have s5:=s4.newT aU (o:=.lst ys)
     have jN:upd H4 pw (.lst ys) pw=some (.lst ys):=Ab
     have eB:TB K (upd H4 pw (.lst ys)) ys ws:=⟨cg.1,fun i w h=>let ⟨t,a1,a2⟩:=cg.2 i w h;⟨t,a1,Same.new aU _ _ a2⟩⟩
     generalize upd H4 pw (.lst ys)=H5 at s5 jN eB ⊢
     have s35:=s3.trans s5
     refine⟨_,s35.seqT q1,_,rfl,pm,rfl,_,.inl ⟨SqL.of (s5 _ _ jd),fun l dH=>⟨pw,rfl,⟨_,SqL.of (Same.new dH _ _ jN)⟩,?_⟩⟩⟩
     have s6:=s35.newT dH (o:=.tup (mr.map V.int))
     have n6:=Same.new dH (o:=.tup (mr.map V.int))
     have el:upd H5 l (.tup (mr.map V.int)) l=some (.tup (mr.map V.int)):=Ab
     generalize upd H5 l (.tup (mr.map V.int))=H6 at s6 n6 el ⊢
     refine P9 (xs:=ys) (fun i zs ae H'=>Same H6 H'/\AV K H' zs (ws.take i)/\∃o,ae=[o]) ⟨Same.refl _,AV.nil,none,rfl⟩ (by rw[eB.1];omega) (fun i zs ae H' hi h'=>⟨SqL.of (h'.1 _ _ (n6 _ _ jN)),by rw[h'.2.1.1,jB_];omega⟩) (fun i x zs ae H' hx h'=>?_) (fun zs ae H7 h' D hD=>?_)
     ·obtain⟨s7,eF,o,rfl⟩:=h'
      obtain⟨t,w0,bN,rfl,ht⟩:=eB.at hx
      walk_at "rd"
      refine⟨_,.inl ⟨SqL.of (s7 _ _ (n6 _ _ ht)),fun l2 bX=>⟨s7.newT bX,?_,_,rfl⟩⟩⟩
      rw[jV_,bN,qN_]
      exact (eF.mono (TK.new bX)).snoc Ab
     ·obtain⟨s7,eF,o,rfl⟩:=h'
      rw[eB.1,jU_]at eF
      have jI:AV K (upd H7 D (.lst zs)) zs ws:=eF.mono (TK.new hD)
      have s8:=(s6.trans s7).newT hD (o:=.lst zs)
      have eD:upd H7 D (.lst zs) D=some (.lst zs):=Ab
      have el8:=Same.new hD (o:=.lst zs) _ _ (s7 _ _ el)
      generalize upd H7 D (.lst zs)=H8 at jI s8 eD el8 ⊢
      refine⟨D,rfl,_,.inl ⟨SqL.of eD,fun l1 br=>⟨by omega,fun p hp=>?_⟩⟩⟩
      have gz:=(Same.new br (o:=.tup zs)).newT hp (o:=.tup [V.int L,V.ref l,V.ref l1])
      have e1:=Same.new hp (o:=.tup [V.int L,V.ref l,V.ref l1]) _ _ (Ab (H:=H8) (a:=l1) (o:=.tup zs))
      have e2:upd (upd H8 l1 (.tup zs)) p (.tup [V.int L,V.ref l,V.ref l1]) p=some (.tup [V.int L,V.ref l,V.ref l1]):=Ab
      have fB:=jI.mono (TK.of gz)
      generalize upd (upd H8 l1 (.tup zs)) p (.tup [V.int L,V.ref l,V.ref l1])=nY at gz e1 e2 fB ⊢
      refine k p mr ws nY (sp.trans (s8.trans gz)) ⟨l,l1,SqT.of e2,SqT.of (gz _ _ el8),Ss (SqT.of e1) fB⟩ ⟨b8,b9,by omega,by omega,by omega,fun row hr=>⟨by rw[(eE row hr).1],fun x hx=>by rw[f7];exact (eE row hr).2 x hx⟩,fun m hm=>wf.mks _ (la m hm)⟩ (by omega)
  ·have cZ:=j8_ (num / 6) (show ((m:Int)+1)≠0 by omega)
   have hr1:=j0_ (num / 6) (show (0:Int)<(m:Int)+1 by omega)
   obtain⟨nb,hnb⟩:∃nb:Nat,(ms.length:Int)+m-num / 6%((m:Int)+1)=(nb:Int):=⟨((ms.length:Int)+m-num / 6%((m:Int)+1)).toNat,by omega⟩
   rw[hnb]
   refine⟨by omega,hb,L,ms,vs,num / 6,nb,rfl,jf,bp,by omega,fun h4 m4 w4 H4 s4 jJ nN nB=>⟨by decide,?_⟩⟩
   refine⟨h4,L,m4,w4,_,rfl,jJ,nN,fun ho mo wo H5 s5 hho wfo fG=>?_⟩
   have s05:=(sp.trans s4).trans s5
   obtain⟨R,hR⟩:∃R:St->Hp->Prop,∀ae H',R ae H'↔(∃(hx:Addr) (mx:α2) (wx:α1),Same H H'/\BO K H' hx L mx wx/\Wf L mx wx/\mx.length<=ms.length+m/\ae=[some (V.ref h),some (V.ref a),some (V.int m),some (V.ref hb),some (V.int (num / 6)),some (V.int wy),some (V.int ((ms.length:Int)+m)),none,none,none,some (.ref hx)]):=⟨_,fun _ _=>ql_⟩
   refine⟨R,?_,fun ae H' h'=>?_⟩
   ·walk_at "rd"
    refine ite2 (fun _=>?_) (fun _=>(hR _ _).mpr ⟨ho,mo,wo,s05,hho,wfo,by omega,rfl⟩)
    refine⟨⟨by decide,by decide⟩,.inr ⟨by decide,by decide⟩,ho,L,mo,wo,_,rfl,hho,wfo,fun hx mx wx H6 s6 n9 oe hlx=>(hR _ _).mpr ⟨hx,mx,wx,s05.trans s6,n9,oe,by omega,rfl⟩⟩
   ·obtain⟨hx,mx,wx,s6,n9,oe,hlx,rfl⟩:=(hR _ _).mp h'
    walk_at "rd"
    exact k hx mx wx H' s6 n9 oe hlx
def QQ (K:α3):Sp:=fun vs H Q _=>∃(a:Addr) (L:Int) (ns:α2),vs=[.ref a,.int L]/\SqL K H a (ns.map V.int)/\ns.length<=63/\1<=L/\L<=6/\∀p ws H',Same H H'->isW L ws=true->ws.length<=400->SqL K H' p (ws.map V.int)->Q (.ref p) H'
theorem LJ   (F:Fun K "_law_word_by" "_law_word_by" BT f fd)(T:Txt mg)
   (Ap:FnOk P w K mg base CX0 1 Au AI ["script","k"] (Jc K)) (Am:Fun K "_law_cell_at" "_law_cell_at" A2 Au AI) (Aq:Binds K AI ["script","k"] []) (Ar:mg "_law_cell_at"=some (.ref Au))
   (AF:FnOk P w K mg base CX0 1 AL AT ["number","k","many"] (GP)) (Ax:Fun K "_law_mixed" "_law_mixed" Bf AL AT) (AG:Binds K AT ["number","k","many"] []) (AH:mg "_law_mixed"=some (.ref AL))
  : FnOk P w K mg base CX0 2 f fd ["script","letters"] (QQ K):=by
 refine F.ok Cz (fun vs H Q E h=>?_) (fun aq A outer s H vs Q E hr h=>?_)
 ·obtain⟨a,L,ns,rfl,_⟩:=h;rfl
 ·obtain⟨a,L,ns,rfl,hs,hz,hL,b9,k⟩:=h
  have hl:=AC
  refine⟨_,(Ad (Hk (i:=2) Cz.nd rfl rfl rfl (BY rfl) (cp:=FE) ⟨⟨rfl,rfl⟩,True.intro⟩ (BW (N6 VY (pvD 0) Rx (Ry Ac))) (fun _ _ _ _=>(At (i:=0) HE rfl (Or.inl rfl))) (fun _ _ _ _=>B8) (fun _ _ _ _=>(An (opD A1) (An (opD0 Bh) (pvD 0) (An (opD Cs) (pvD 0) Ac)) (pvD 1))))
   (Ad (Aj (i:=3) Cz.nd (Al Ap (hr.mono (by decide)) rfl Ar Am.kp Aq .nil AZ (Aa (pvD 0) (Aa Ac Ae))))
   (CQ (Cq (ptT (Av (opE Dh) (An (opD A1) (pvD 3) Ac) Ac (AS _)))
   (Ad (Aj (i:=2) Cz.nd (N6 VY (pvD 2) Rx (Ry (An (opD A1) (An (opD Cs) (pvD 3) Ac) Ac))))
   (Ag (Cb jI_ rfl (VG rfl T.range (Aa (As (lenD Ak) (by rfl) T.len jH_ (Aa (pvD 2) Ae)) (Aa (An (opD A1) (An (opD Cs) (pvD 3) Ac) Ac) Ae))) (At (i:=4) Cz.nd rfl (Or.inl rfl))
   (Ag (BN (Fd jD_ jL_ jM_ Bd (pvD 2) (Aa (Al AF (hr.mono (by decide)) rfl AH Ax.kp AG .nil AZ (Aa (Al Ap (hr.mono (by decide)) rfl Ar Am.kp Aq .nil AZ (Aa (pvD 0) (Aa (An (opD A1) (pvD 4) (As (VN rfl) rfl T.max zs_ (Aa Ac (Aa (As (lenD Ak) (by rfl) T.len jH_ (Aa (pvD 0) Ae)) Ae)))) Ae))) (Aa (pvD 4) (Aa (pvD 1) Ae)))) Ae)))))))
   AU)
   (Ag (AO (pvD 2)))))),?_⟩
  walk_at "rd"
  refine⟨_,hs,fun p hp=>?_⟩
  rw[show (400:Int)=((400:Nat):Int) from rfl,Tu]
  refine⟨⟨_,SqL.of Ab⟩,?_⟩
  obtain⟨f,hf⟩:∃f:V->V,∀n:Int,f (V.int n)=.int ((n+n / 41)%L):=⟨fun x=>match x with | .int n=>.int ((n+n / 41)%L)|_=>.non,fun _=>rfl⟩
  have hzt:(ns.take 400).length<=63:=by rw[jB_];omega
  refine Kz (xs:=(ns.take 400).map V.int) (ae:=[some (.int L)]) f rfl (SqL.of Ab) (by rw[ja_];omega) (fun x hx R hR=>?_) (fun D hD=>?_)
  ·obtain⟨n,hn,rfl⟩:=jv_.mp hx
   rw[hf]at hR
   walk_at "rd"
   refine⟨?_,?_⟩
   ·first|decide|omega|(unfold CDiv;decide)
   ·exact⟨by omega,hR⟩
  ·have em:((ns.take 400).map V.int).map f=((ns.take 400).map fun n=>(n+n / 41)%L).map V.int:=by
    rw[jX_,jX_]
    exact qk_ fun n _=>hf n
   rw[em]
   have b7:isW L ((ns.take 400).map fun n=>(n+n / 41)%L)=true:=AD.mpr fun z mG=>by
    obtain⟨n,hn,rfl⟩:=jv_.mp mG
    exact⟨j8_ _ (by omega),j0_ _ (by omega)⟩
   have da:((ns.take 400).map fun n=>(n+n / 41)%L).length<=63:=by rw[ja_];exact hzt
   have sD:=(Same.new hp (o:=.lst ((ns.take 400).map V.int))).newT hD (o:=.lst (((ns.take 400).map fun n=>(n+n / 41)%L).map V.int))
   have eD:upd (upd H p (.lst ((ns.take 400).map V.int))) D (.lst (((ns.take 400).map fun n=>(n+n / 41)%L).map V.int)) D=some (.lst (((ns.take 400).map fun n=>(n+n / 41)%L).map V.int)):=Ab
   generalize upd (upd H p (.lst ((ns.take 400).map V.int))) D (.lst (((ns.take 400).map fun n=>(n+n / 41)%L).map V.int))=H2 at sD eD ⊢
   generalize (ns.take 400).map (fun n=>(n+n / 41)%L)=ws at b7 da eD
   refine⟨a,ns,1,rfl,sD.seq hs,?_⟩
   dsimp only
   generalize cell ns 1=num
   obtain⟨R,hR⟩:∃R:St->Hp->Prop,∀ae H',R ae H'↔(∃(q:Addr) (us:α2) (o:Option V),Same H H'/\H' q=some (.lst (us.map V.int))/\isW L us=true/\us.length<=400/\ae=[some (.ref a),some (.int L),some (.ref q),some (.int num),o]):=⟨_,fun _ _=>ql_⟩
   refine⟨R,?_,fun ae H' h'=>?_⟩
   ·walk_at "rd"
    refine⟨by decide,ite2 (fun _=>?_) (fun _=>(hR _ _).mpr ⟨D,ws,none,sD,eD,b7,by omega,rfl⟩)⟩
    have h0:=j8_ (num / 4) (show (401:Int)≠0 by decide)
    have h1:=j0_ (num / 4) (show (0:Int)<401 by decide)
    obtain⟨c,hc⟩:∃c:Nat,num / 4%401=(c:Int):=⟨(num / 4%401).toNat,by omega⟩
    rw[hc]
    refine⟨⟨by decide,by decide⟩,by decide,_,SqL.of eD,fun p2 aP=>?_⟩
    rw[Tu]
    have s3:=sD.newT aP (o:=.lst ((ws.take c).map V.int))
    have hp2N:H p2=none:=sD.none aP
    have e3:upd H2 p2 (.lst ((ws.take c).map V.int)) p2=some (.lst ((ws.take c).map V.int)):=Ab
    generalize upd H2 p2 (.lst ((ws.take c).map V.int))=H3 at s3 e3 ⊢
    refine⟨_,.inl (SqL.of e3),?_⟩
    rw[ja_]
    have ny:(ws.take c).length<=c:=by rw[jB_];omega
    have cI:isW L (ws.take c)=true:=On b7 c
    generalize ws.take c=us at ny cI e3
    refine⟨⟨by decide,by decide⟩,by decide,by omega,by omega,by omega,by omega,?_⟩
    rw[show ((c:Int)-(us.length:Int)).toNat=c-us.length by omega]
    obtain⟨Pv,ai⟩:∃Pv:Nat->St->Hp->Prop,∀i ae H',Pv i ae H'↔(∃(vs:α2) (o:Option V),Same H H'/\H' p2=some (.lst (vs.map V.int))/\isW L vs=true/\vs.length=us.length+i/\ae=[some (.ref a),some (.int L),some (.ref p2),some (.int num),o]):=⟨_,fun _ _ _=>ql_⟩
    refine forR Pv ((ai _ _ _).mpr ⟨us,none,s3,e3,cI,rfl,rfl⟩) (fun i ae H' hi h'=>?_) (fun ae H' h'=>?_)
    ·obtain⟨vs,o,s4,e4,og,nI,rfl⟩:=(ai _ _ _).mp h'
     walk_at "rd"
     refine⟨.inl ⟨rfl,_,SqL.of e4⟩,_,.inl (s4.seq hs),?_⟩
     rw[ja_]
     have ka:(0:Int)<if (ns.length:Int) > 1 then (ns.length:Int) else 1:=by split<;>omega
     obtain⟨ix,dW⟩:∃ix:Nat,((us.length:Int)+i)%(if (ns.length:Int) > 1 then (ns.length:Int) else 1)=(ix:Int):=⟨_,(xk_ (j8_ _ (by omega))).symm⟩
     rw[dW]
     refine⟨ka,a,ns,ix,rfl,s4.seq hs,_,_,_,rfl,by omega,by omega,by omega,fun x cm bF=>?_⟩
     refine⟨_,e4,by rw[ja_];omega,(ai _ _ _).mpr ⟨vs++[x],_,s4.over hp2N,by rw[Ab];simp,?_,by rw[jo_,nI];simp;omega,rfl⟩⟩
     exact C2 og (AD.mpr fun y hy=>by rw[js_.mp hy];exact⟨cm,bF⟩)
    ·obtain⟨vs,o,s4,e4,og,nI,rfl⟩:=(ai _ _ _).mp h'
     exact (hR _ _).mpr ⟨p2,vs,o,s4,e4,og,by omega,rfl⟩
   ·obtain⟨q,us,o,s3,hq,hu,hul,rfl⟩:=(hR _ _).mp h'
    walk_at "rd"
    exact k q us H' s3 hu hul (SqL.of hq)
theorem YM {L:Nat}{marks mr:α2}{aa wr:α1}{m:Nat}(wf:Wf L marks aa)(eJ:Wf L mr wr)(hsz:mr.length<=(sM L marks aa).length+m){E:Nat->α1}
  (eW:∀r,r<(sM L marks aa).length->∀e∈E r,isW L e=true) (e0:∀r,r<(sM L marks aa).length->[]∈E r)
  (sep:∀r s,r<(sM L marks aa).length->s<(sM L marks aa).length->r≠s->∃e,e∈E r/\e∈E s/\bW (sM L marks aa) (sW L marks aa) e r≠bW (sM L marks aa) (sW L marks aa) e s)
  (agr:∀w∈allW (sW L marks aa) (sM L marks aa).length (Fs (L:Int) m) E,mkR marks (AK aa w)=mkR mr (AK wr w)):Bs_ L marks aa mr wr:=by
 have bp:=sWf wf
 have cQ:=sCan wf
 have hL:=wf.l1
 have A:Asked L (sM L marks aa).length m (sM L marks aa) mr (sW L marks aa) wr (wayW (sW L marks aa)) E:=by
  refine⟨rfl,bp,eJ,hsz,fun r hr=>⟨(T6 cQ hr).2.1,(T6 cQ hr).2.2.1⟩,?_,eW,e0,fun r s hr hs ao=>?_,fun r hr v hv hl e he=>?_⟩
  ·obtain⟨top,bf⟩:=Bfs.mk bp
   exact Sn bf.nod (r:=0) (jd_ bf.hd)
  ·obtain⟨e,h1,h2,h3⟩:=sep r s hr hs ao
   exact⟨e,h1,h2,h3⟩
  ·have hw:=T6 cQ hr
   have hww:=L2.Wf.walk' bp (C2 hw.2.1 hv)
   have gj:=C2 (C2 hw.2.1 hv) (eW _ (by omega) e he)
   rw[CL_ wf gj]
   exact agr _ (T4.mpr ⟨r,hr,v,(T5 (by omega)).mpr ⟨hv,hl⟩,e,he,rfl⟩)
 intro w hw
 rw[<-CL_ wf hw]
 exact A.all w hw
theorem QR {L:Nat}{marks mr:α2}{aa wr:α1}{m:Nat}(wf:Wf L marks aa)(eJ:Wf L mr wr)(hsz:mr.length<=(sM L marks aa).length+m)(agr:∀w∈Ir L marks aa m,mkR marks (AK aa w)=mkR mr (AK wr w)):Bs_ L marks aa mr wr:=by
 have bp:=sWf wf
 have fin:=Fin17.mk' (b:=bW (sM L marks aa) (sW L marks aa)) (L:=L) bp.n1 bp.n40
 refine YM wf eJ hsz (E:=fun _=>(wcOf (sM L marks aa).length L (bW (sM L marks aa) (sW L marks aa))).1) (fun r _ e he=>AD.mpr (fin.wc.ok e he)) (fun r _=>jd_ fin.wc.w0) (fun r s hr hs ao=>?_) agr
 obtain⟨e,_,_,h3,h4⟩:=Dn_ (sCan wf) hr hs ao
 exact⟨e,h4,h4,qv_ h3⟩
theorem LK {L:Nat}{marks:α2}{aa:α1}{m:Nat}(wf:Wf L marks aa){w:α2}(h:w∈Ir L marks aa m):isW L w=true/\w.length<=81+m:=by
 have bp:=sWf wf
 have fin:=Fin17.mk' (b:=bW (sM L marks aa) (sW L marks aa)) (L:=L) bp.n1 bp.n40
 have kG:(wcOf (sM L marks aa).length L (bW (sM L marks aa) (sW L marks aa))).1.length<=40:=by
  have h1:=fin.wc.le
  have h2:=NC (wcOf (sM L marks aa).length L (bW (sM L marks aa) (sW L marks aa))).2
  rw[fin.wc.len]at h2
  have:=bp.n40
  omega
 have cq:=Ah_ fin.wc
 unfold Ir at h
 rw[T4]at h
 obtain⟨r,hr,v,hv,e,he,rfl⟩:=h
 have hv:=(T5 (by have:=wf.l1;omega)).mp hv
 have hw:=T6 (sCan wf) hr
 obtain⟨j,hj⟩:=jK_.mp he
 have h1:=cq j e hj
 have h2:=(jb_.mp hj).1
 refine⟨C2 (C2 hw.2.1 hv.1) (AD.mpr (fin.wc.ok e he)),?_⟩
 rw[jo_,jo_]
 omega
def YN (K:α3):Sp:=fun vs H Q _=>∃(a:Addr) (ns:α2),vs=[.ref a]/\SqL K H a (ns.map V.int)/\ns.length<=63/\H (tabP K "in_order")=some (.tbl #[])/\∀H',Q (.bl true) H'
theorem Dq_   (F:Fun K "law" "law" OG f fd)(T:Txt mg)
   (Su:FnOk P w K mg base CX0 6 Jg Uc ["house","more"] (T2 K)) (LL:Fun K "suite" "suite" Hu Jg Uc) (Sv:Binds K Uc ["house","more"] []) (Sw:mg "suite"=some (.ref Jg))
   (HL:FnOk P w K mg base CX0 6 DA JA ["house","words"] (Aj_ K)) (Ei:Fun K "trials_of" "trials_of" C4 DA JA) (HN:Binds K JA ["house","words"] []) (HP:mg "trials_of"=some (.ref DA))
   (Cf:FnOk P w K mg base CX0 6 Bb CC ["house","some"] (Bw_ K)) (Bp:Fun K "first_failed" "first_failed" Bo Bb CC) (Cg:Binds K CC ["house","some"] []) (Ci:mg "first_failed"=some (.ref Bb))
   (OQ:FnOk P w K mg base CX0 7 GQ QS ["house","some"] (QP K)) (Iv:Fun K "passes" "passes" Fo GQ QS) (OR:Binds K QS ["house","some"] []) (OS:mg "passes"=some (.ref GQ))
   (Ej:FnOk P w K mg base CX0 3 B4 FH ["script"] (NV K)) (CD:Fun K "_law_house_by" "_law_house_by" Bu B4 FH) (Ek:Binds K FH ["script"] []) (El:mg "_law_house_by"=some (.ref B4))
   (EH:FnOk P w K mg base CX0 2 Ck Gq ["script","house"] (Xu K)) (CY:Fun K "_law_more_by" "_law_more_by" BQ Ck Gq) (EI:Binds K Gq ["script","house"] []) (EJ:mg "_law_more_by"=some (.ref Ck))
   (Em:FnOk P w K mg base CX0 3 B5 FJ ["house","script","many"] (Ub K)) (CF:Fun K "_law_rival_by" "_law_rival_by" Bx B5 FJ) (En:Binds K FJ ["house","script","many"] []) (Eo:mg "_law_rival_by"=some (.ref B5))
   (EK:FnOk P w K mg base CX0 2 Cl Gr ["script","letters"] (QQ K)) (CZ:Fun K "_law_word_by" "_law_word_by" BT Cl Gr) (EL:Binds K Gr ["script","letters"] []) (EM:mg "_law_word_by"=some (.ref Cl))
   (EN:FnOk P w K mg base CX0 1 Cm Gs ["found","letters"] (Ai_ K)) (C0:Fun K "_law_is_word" "_law_is_word" BU Cm Gs) (EO:Binds K Gs ["found","letters"] []) (EQ:mg "_law_is_word"=some (.ref Cm))
   (Fu:FnOk P w K mg base CX0 1 DB JC ["house","room","word"] (Ua K)) (DC:Fun K "_law_walk" "_law_walk" C6 DB JC) (Fv:Binds K JC ["house","room","word"] []) (Fw:mg "_law_walk"=some (.ref DB))
  : FnOk P w K mg base CX0 8 f fd ["script"] (YN K):=by
 refine F.ok EV (fun vs H Q E h=>?_) (fun aq A outer s H vs Q E hr h=>?_)
 ·obtain⟨a,ns,rfl,_⟩:=h;rfl
 ·obtain⟨a,ns,rfl,hs,hz,hT,k⟩:=h
  have hl:=AC
  refine⟨_,(Ad (Aj (i:=1) EV.nd (Al Ej (hr.mono (by decide)) rfl El CD.kp Ek .nil AZ (Aa (pvD 0) Ae)))
   (Ad (Aj (i:=2) EV.nd (Al EH (hr.mono (by decide)) rfl EJ CY.kp EI .nil AZ (Aa (pvD 0) (Aa (pvD 1) Ae))))
   (Ad (Aj (i:=3) EV.nd (Al Em (hr.mono (by decide)) rfl Eo CF.kp En .nil AZ (Aa (pvD 1) (Aa (pvD 0) (Aa (pvD 2) Ae)))))
   (Ad (Aj (i:=4) EV.nd (Al HL (hr.mono (by decide)) rfl HP Ei.kp HN .nil AZ (Aa (pvD 1) (Aa (Al Su (hr.mono (by decide)) rfl Sw LL.kp Sv .nil AZ (Aa (pvD 1) (Aa (pvD 2) Ae))) Ae))))
   (Ad (Cq (Nt (ptB (KN (Al OQ (hr.mono (by decide)) rfl OS Iv.kp OR .nil AZ (Aa (pvD 3) (Aa (pvD 4) Ae))))))
   (Ad (Aj (i:=5) EV.nd (Al Cf (hr.mono (by decide)) rfl Ci Bp.kp Cg .nil AZ (Aa (pvD 3) (Aa (pvD 4) Ae))))
   (Ad (Cq (PW.pt (Uh (Nt (ptB (KN (As Es rfl T.isinstance xh_ (Aa (pvD 5) (Aa (N3 (v:=.ty "tuple") rfl T.tuple jA_ rfl) Ae)))))) (S9 (Nt (ptB (KN (Al EN (hr.mono (by decide)) rfl EQ C0.kp EO .nil AZ (Aa (Ah (ixTD Ao) (pvD 5) Ac) (Aa (Ah (ixTD Ao) (pvD 1) Ac) Ae)))))))))
   (Ag (AO Rv))
   AU)
   (Ad (Aj (i:=6) EV.nd (Ah (ixTD Ao) (Ah (ixTD Ao) (pvD 1) Ac) (Al Fu (hr.mono (by decide)) rfl Fw DC.kp Fv .nil AZ (Aa (pvD 1) (Aa Ac (Aa (Ah (ixTD Ao) (pvD 5) Ac) Ae))))))
   (Ag (AO (BF_ (Rw (opE Dh) (Ah (ixTD Ao) (pvD 5) Ac) (pvD 6) (AS _)) (BE_ (Rw (opN XQ) (Ah (ixTD Ao) (Ah (ixTD Ao) (pvD 3) Ac) (Al Fu (hr.mono (by decide)) rfl Fw DC.kp Fv .nil AZ (Aa (pvD 3) (Aa Ac (Aa (Ah (ixTD Ao) (pvD 5) Ac) Ae))))) (pvD 6) (AS _)))))))))
   AU)
   (Ad (Aj (i:=7) EV.nd (Al EK (hr.mono (by decide)) rfl EM CZ.kp EL .nil AZ (Aa (pvD 0) (Aa (Ah (ixTD Ao) (pvD 1) Ac) Ae))))
   (Ad (Aj (i:=8) EV.nd Ac)
   (Ad (Aj (i:=9) EV.nd Ac)
   (Ad (Cb jI_ rfl (Bc rfl T.range (Aa (An (opD0 Bh) (As (lenD Ak) (by rfl) T.len jH_ (Aa (pvD 7) Ae)) Ac) Ae)) (At (i:=10) EV.nd rfl (Or.inl rfl))
   (Ad (Cq (ptT (Av (opN XQ) (Ah (ixTD Ao) (Ah (ixTD Ao) (pvD 1) Ac) (pvD 8)) (Ah (ixTD Ao) (Ah (ixTD Ao) (pvD 3) Ac) (pvD 9)) (AS _)))
   (Ag (AO Rv))
   AU)
   (Ag (Cq (ptT (Av (opD0 KO) (pvD 10) (As (lenD Ak) (by rfl) T.len jH_ (Aa (pvD 7) Ae)) (AS _)))
   (Ad (Aj (i:=8) EV.nd (Ah (ixTD Ao) (Ah (ixTD Ao) (Ah (ixTD Ao) (pvD 1) Ac) (pvD 8)) (Ah (ixLD Bi) (pvD 7) (pvD 10))))
   (Ag (Aj (i:=9) EV.nd (Ah (ixTD Ao) (Ah (ixTD Ao) (Ah (ixTD Ao) (pvD 3) Ac) (pvD 9)) (Ah (ixLD Bi) (pvD 7) (pvD 10))))))
   AU))))
   (Ag (AO Rv))))))))))),?_⟩
  walk_at "rd"
  refine⟨a,ns,rfl,hs,fun h L0 marks aa H1 s1 hh wf i9=>?_⟩
  obtain⟨L,rfl⟩:∃L:Nat,L0=(L:Int):=⟨L0.toNat,by have:=wf.l1;omega⟩
  refine⟨a,h,ns,L,marks,aa,rfl,s1.seq hs,hh,wf,fun m H2 hm bT s2=>?_⟩
  refine⟨h,a,L,m,ns,marks,aa,rfl,hh.mono s2,wf,i9,hm,(s1.trans s2).seq hs,fun hr mr wr H3 s3 nu eJ hsz=>?_⟩
  have iL:=(s1.trans s2).trans s3
  have iG:=iL _ _ hT
  have hh3:=(hh.mono s2).mono s3
  have eG:=iL.seq hs
  clear s1 s2 s3 hh iL
  refine⟨h,L,m,marks,aa,rfl,hh3,wf,hm,bT,.inl iG,fun D1 H4 os s4 hL4 hDn1 hD1 cL bu i3=>?_⟩
  have t4:TSq K H3 H4:=Dt.tsq2 (T:=tabP K "in_order") s4 iG
  have jJ:=BO.monoQ hh3 t4
  have hhr4:=BO.monoQ nu t4
  have hs4:SqL K H4 a (ns.map V.int):=Dt.lsq (T:=tabP K "in_order") s4 iG eG
  obtain⟨ws,oh⟩:∃ws,ws=os.map (·.2):=⟨_,rfl⟩
  have aM:∀w,w∈ws↔w∈Ir L marks aa m:=fun w=>by rw[oh,bu.mem_iff,LD]
  have lG:Wds K H4 (S64.wv os) ws:=by
   have:=Xw (K:=K) cL
   rw[<-oh]at this
   exact⟨this.1,fun i w hw=>let ⟨t,a1,a2⟩:=this.2 i w hw;⟨t,a1,SqT.of a2⟩⟩
  have hosl:os.length<=545600:=by
   have h1:=bu.length_eq
   have h2:=DU (Ir L marks aa m) []
   have h3:=U4 wf bT
   rw[ja_]at h1
   rw[qy_]at h2
   omega
  have hwW:∀w∈ws,isW L w=true:=fun w hw=>(LK wf ((aM w).mp hw)).1
  have hwL:∀w∈ws,w.length<=84:=fun w hw=>by have:=(LK wf ((aM w).mp hw)).2;omega
  clear bu i3 cL oh hDn1
  refine⟨h,D1,L,marks,aa,_,ws,rfl,jJ,wf,SqL.of hD1,lG,fun w hw=>by have:=hwL w hw;omega,by simp only[S64.wv,ja_];omega,fun _ H5 D ys s5 gV hTr=>?_,fun hf=>?_⟩
  ·have s6:=s5.newT gV (o:=.lst ys)
   have eD:upd H5 D (.lst ys) D=some (.lst ys):=Ab
   have gA:=hTr.mono (Same.new gV (o:=.lst ys))
   generalize upd H5 D (.lst ys)=H6 at s6 eD gA ⊢
   have hh6:=jJ.mono s6
   have gC:=hhr4.mono s6
   have hs6:=s6.seq hs4
   have htW:∀tr∈ws.map (Ft marks aa),isW L tr.1=true:=fun tr aR=>by
    obtain⟨w,hw,rfl⟩:=jv_.mp aR
    exact hwW w hw
   have htF:¬ ∃tr∈ws.map (Ft marks aa),isW L tr.1=false:=fun ⟨tr,aR,hf⟩=>by rw[htW tr aR]at hf;cases hf
   refine⟨hr,D,L,mr,wr,ys,_,rfl,gC,eJ,SqL.of eD,gA,fun _ H7 s7=>?_,fun hf=>absurd hf htF⟩
   refine⟨_,rfl,?_⟩
   refine ite2 (fun hc=>?_) (fun hc=>?_)
   ·have hc:¬ ∀tr∈ws.map (Ft marks aa),Go mr wr tr=false:=fun z=>by
     have:(ws.map (Ft marks aa)).all (fun tr => !Go mr wr tr)=true:=qo_.mpr fun tr aR=>by rw[z tr aR];rfl
     rw[this]at hc
     exact absurd hc (by decide)
    refine⟨hr,D,L,mr,wr,ys,_,rfl,gC.mono s7,eJ,SqL.of (s7 _ _ eD),gA.mono s7,fun _ H8 s8=>⟨fun z=>absurd z hc,fun i tr x cM aR hx hfail=>?_⟩,fun hf=>absurd hf htF⟩
    obtain⟨t,wt,a1,a2,a3,a4⟩:=gA.2 i tr aR
    rw[hx]at a1
    cases a1
    have gk:=jd_ aR
    have gX:=htW tr gk
    have lU:=s7.trans s8
    have kO:=lU.seqT a2
    have oi:=lU.seqT a3
    have gS:tr.2=IS marks (AK aa tr.1):=by
     obtain⟨w,hw,rfl⟩:=jv_.mp gk
     rfl
    have ao:IS mr (AK wr tr.1)≠tr.2:=qA_ hfail
    have lV:=hh6.mono lU
    have gD:=gC.mono lU
    obtain⟨tm,tw,q1,q2,q3⟩:=id lV
    obtain⟨rm,rw0,r1,r2,r3⟩:=id gD
    have hwk1:=L2.Wf.walk' wf gX
    have hwk2:=L2.Wf.walk' eJ gX
    have bQ:=wf.n1
    have fh:=eJ.n1
    refine⟨_,_,.tup kO,Tm,_,Od,?_⟩
    rw[if_neg (by decide)]
    refine⟨t,rfl,_,kO,_,rfl,h,rfl,_,q1,_,rfl,wt,L,tr.1,rfl,oi,gX,true,rfl,?_⟩
    rw[if_neg (by decide)]
    refine⟨h,rfl,_,q1,_,rfl,t,rfl,_,kO,_,rfl,h,wt,L,0,marks,aa,tr.1,rfl,lV,wf,oi,gX,by omega,by omega,?_⟩
    refine⟨tm,rfl,_,_,rfl,q2,_,Ik hwk1.1 hwk1.2,t,rfl,_,kO,_,rfl,rfl,?_⟩
    rw[if_pos (by rw[gS];rfl)]
    refine⟨hr,rfl,_,r1,_,rfl,t,rfl,_,kO,_,rfl,hr,wt,L,0,mr,wr,tr.1,rfl,gD,eJ,oi,gX,by omega,by omega,?_⟩
    refine⟨rm,rfl,_,_,rfl,r2,_,Ik hwk2.1 hwk2.2,rfl,?_⟩
    rw[CI,CI,show (!decide (V.int (IS mr (AK wr tr.1))=V.int (IS marks (AK aa tr.1))))=true by rw[<-gS];simp[ao]]
    exact k _
   ·have hc:(ws.map (Ft marks aa)).all (fun tr => !Go mr wr tr)=true:=by simpa using hc
    have dv:Bs_ L marks aa mr wr:=by
     refine QR wf eJ hsz fun w hw=>?_
     have:=qo_.mp hc (Ft marks aa w) (q4_ ((aM w).mpr hw))
     have hf:Go mr wr (Ft marks aa w)=false:=by simpa using this
     have:=xq_ hf
     exact (qa_ fun z=>this (fun e=>z e.symm))
    have hh7:=hh6.mono s7
    have hhr7:=gC.mono s7
    obtain⟨tm,tw,q1,q2,q3⟩:=id hh7
    have b8:=wf.l1
    have b9:=wf.l6
    refine⟨h,rfl,_,q1,_,rfl,a,L,ns,rfl,s7.seq hs6,hz,by omega,by omega,fun pw word H8 s8 gE hwl8 aU=>⟨pw,rfl,_,.inl aU,?_⟩⟩
    rw[ja_]
    refine⟨by omega,by omega,?_⟩
    rw[show ((word.length:Int)+1).toNat=word.length+1 by omega]
    have lV:=hh7.mono s8
    have gD:=hhr7.mono s8
    obtain⟨gY,gw,y1,y2,y3⟩:=id lV
    obtain⟨rm,rw0,r1,r2,r3⟩:=id gD
    obtain⟨Pv,ai⟩:∃Pv:Nat->St->Hp->Prop,∀i ae H',Pv i ae H'↔(H'=H8/\∃o,ae=[some (.ref a),some (.ref h),some (.int m),some (.ref hr),some (.ref D),none,none,some (.ref pw),some (.int (AK aa (word.take i))),some (.int (AK wr (word.take i))),o]):=⟨_,fun _ _ _=>ql_⟩
    refine forR Pv ((ai _ _ _).mpr ⟨rfl,none,rfl⟩) (fun i ae H' hi h'=>?_) (fun ae H' h'=>?_)
    ·obtain⟨rfl,o,rfl⟩:=(ai _ _ _).mp h'
     have w1:=wf.walk gE i
     have w2:=eJ.walk gE i
     have e:=dv (word.take i) (On gE i)
     rw[zR_]
     walk_at "rd"
     refine⟨_,y1,_,rfl,gY,rfl,_,y2,_,Ik w1.1 w1.2,_,r1,_,rfl,rm,rfl,_,r2,_,Ik w2.1 w2.2,rfl,?_⟩
     rw[if_neg (by rw[show IS marks (AK aa (word.take i))=IS mr (AK wr (word.take i)) from e];simp)]
     refine⟨_,.inl aU,?_⟩
     rw[ja_]
     refine ite2 (fun ah=>?_) (fun aV=>?_)
     ·have du:i<word.length:=by omega
      have bN:word[i]?=some word[i]:=jf_ du
      have hx:=AD.mp gE word[i] (j2_ du)
      obtain⟨row,g,c1,c2,c3,c4,c5⟩:=wf.step w1.1 w1.2 hx.1 hx.2
      obtain⟨zs,t,z1,z2,z3⟩:=y3.atZ w1.1 c1
      obtain⟨cW,g',d1,d2,d3,d4,d5⟩:=eJ.step w2.1 w2.2 hx.1 hx.2
      obtain⟨dh,t',x1,x2,x3⟩:=r3.atZ w2.1 d1
      refine⟨_,y1,_,rfl,gw,rfl,_,z1,_,z2,_,aU,_,D4 (by omega) (v:=V.int word[i]) (by rw[ji_,je_,bN];rfl),t,rfl,_,_,rfl,z3,_,Bs hx.1 c2,_,r1,_,rfl,rw0,rfl,_,x1,_,x2,_,aU,_,D4 (by omega) (v:=V.int word[i]) (by rw[ji_,je_,bN];rfl),t',rfl,_,_,rfl,x3,_,Bs hx.1 d2,(ai _ _ _).mpr ⟨rfl,some (.int i),?_⟩⟩
      rw[GI bN,GI bN,c3,d3]
     ·refine (ai _ _ _).mpr ⟨rfl,some (.int i),?_⟩
      rw[jO_ (show word.length<=i by omega),jO_ (show word.length<=i+1 by omega)]
    ·obtain⟨rfl,o,rfl⟩:=(ai _ _ _).mp h'
     walk_at "rd"
     exact k _
  ·obtain⟨w,hw,hf⟩:=hf
   rw[hwW w hw]at hf
   cases hf
end
theorem all_mk {l:PySem.W.OpenLaw}{w:World}{K:α3}{h:Heap}{mg:Str->α5}{fa E2 A6 Dx D0 IR Bm Bn CM E9 Do DY AN Fa Dc IV Jb D2 Dd Jg DA Bb GQ Au AL B2 Cd BK B4 Ck B3 Cj Bz Ce Dz B5 Cl Cm DB om:Addr}(X:K.In h)(G:h.Ns mainGlobals mg)(hfa:mg "law"=some (.ref fa))
  {U5 U6:Option Addr} {U7:Array (α5)} {U8 U9 Va Vb NY Vc:Value}
  {OT OU:Option Addr} {OV:Array (α5)} {OW OX OY OZ Iw O0:Value}
  {QT QU:Option Addr} {QV:Array (α5)} {QW QX QY QZ JD Q0:Value}
  {Sx Sy:Option Addr} {Sz:Array (α5)} {SA SC SD SE LM SF:Value}
  {YO YQ:Option Addr} {YR:Array (α5)} {YS YT YU YV Ud YW:Value}
  {Nb Nc:Option Addr} {Nd:Array (α5)} {Nf Ng Nh Ni Hi Nj:Value}
  {Nk Nl:Option Addr} {Nm:Array (α5)} {Nn No Np Nq Hj Nr:Value}
  {SH SI:Option Addr} {SJ:Array (α5)} {SK SL SM SN LN SR:Value}
  {Vd Ve:Option Addr} {Vf:Array (α5)} {Vg Vh Vi Vj NZ Vk:Value}
  {Vl Vm:Option Addr} {Vn:Array (α5)} {Vo Vp Vq Vr N0 Vs:Value}
  {SS ST:Option Addr} {SU:Array (α5)} {SV SW SX SY LO SZ:Value}
  {G1 G2:Option Addr} {G3:Array (α5)} {G4 G8 G9 Ha DQ Hb:Value}
  {Vt Vu:Option Addr} {Vv:Array (α5)} {Vw Vx Vy Vz N1 VA:Value}
  {O1 O2:Option Addr} {O3:Array (α5)} {O4 O5 O6 O7 Ix O8:Value}
  {YX YY:Option Addr} {YZ:Array (α5)} {Y0 Y1 Y2 Y3 Ue Y4:Value}
  {Y5 Y6:Option Addr} {Y7:Array (α5)} {Y8 Y9 Za Zb Uf Zc:Value}
  {S0 S1:Option Addr} {S2:Array (α5)} {S3 S4 S5 S6 S7:Value}
  {O9 Pa:Option Addr} {Pb:Array (α5)} {Pe Pf Pg Ph Iy Pi:Value}
  {Zd Ze:Option Addr} {Zf:Array (α5)} {Zg Zh Zi Zj Ug Zk:Value}
  {Q1 Q2:Option Addr} {Q3:Array (α5)} {Q4 Q5 Q6 Q7 JE Q8:Value}
  {LP LQ:Option Addr} {LR:Array (α5)} {LS LT LU LV Gu LW:Value}
  {XC XD:Option Addr} {XE:Array (α5)} {XF XG XH XI Q9 XJ:Value}
  {LX LY:Option Addr} {LZ:Array (α5)} {L3 L4 L5 L6 Gv L7:Value}
  {Pj Pk:Option Addr} {Pl:Array (α5)} {Pm Po Pp Pq Iz Ps:Value}
  {JW JX:Option Addr} {JY:Array (α5)} {JZ J1 J2 J3 FK J4:Value}
  {L8 L9:Option Addr} {Ma:Array (α5)} {Mb Mc Md Me Gw Mf:Value}
  {Pt Pu:Option Addr} {Px:Array (α5)} {PD PH PJ PK IA PL:Value}
  {J5 J6:Option Addr} {J7:Array (α5)} {J8 J9 Ka Kb FL Kc:Value}
  {Mg Mh:Option Addr} {Mi:Array (α5)} {Mj Mk Ml Mm Gx Mn:Value}
  {Kd Ke:Option Addr} {Kf:Array (α5)} {Kg Kh Ki Kj FM Kk:Value}
  {Mo Mp:Option Addr} {Mq:Array (α5)} {Mr Ms Mt Mu Gy Mv:Value}
  {Jh Ji:Option Addr} {Jj:Array (α5)} {Jk Jl Jm Jn Fc Jo:Value}
  {Mw Mx:Option Addr} {My:Array (α5)} {Mz MA MB MC Gz MD:Value}
  {Ra Rb:Option Addr} {Rc:Array (α5)} {Re Rf Rg Rh JF Ri:Value}
  {Kl Km:Option Addr} {Kn:Array (α5)} {Ko Kp Kq Kr FN Ks:Value}
  {ME MF:Option Addr} {MG:Array (α5)} {MK ML MM MN GA MO:Value}
  {MQ MR:Option Addr} {MS:Array (α5)} {MT MU MV MW GC MX:Value}
  {Rj Rk:Option Addr} {Rl:Array (α5)} {Rm Ro Rp Rq JG Rr:Value}
  {Dr_ Ak_:Option Addr} {Ds_:Array (α5)} {Dt_ Al_ Am_ An_ XL Ao_:Value}
  (a_jt:nsIn K mainGlobals "is_word"=some (some (.ref E2)))
  (l_jt:K.lookup E2=some ⟨U8,U5,.func (fnOf "is_word" "is_word" (Ay D5) (Aw D5) (Af D5) .none U9 Va Vb U6 NY Vc),U7⟩)
  (c_jt:codeIn K NY "is_word"=true)
  (k_jt:keepIn K (.ref E2)=true)
  (a_jh:nsIn K mainGlobals "check_word"=some (some (.ref A6)))
  (l_jh:K.lookup A6=some ⟨OW,OT,.func (fnOf "check_word" "check_word" (Ay BC) (Aw BC) (Af BC) .none OX OY OZ OU Iw O0),OV⟩)
  (c_jh:codeIn K Iw "check_word"=true)
  (k_jh:keepIn K (.ref A6)=true)
  (a_jm:nsIn K mainGlobals "next_word"=some (some (.ref Dx)))
  (l_jm:K.lookup Dx=some ⟨QW,QT,.func (fnOf "next_word" "next_word" (Ay C3) (Aw C3) (Af C3) .none QX QY QZ QU JD Q0),QV⟩)
  (c_jm:codeIn K JD "next_word"=true)
  (k_jm:keepIn K (.ref Dx)=true)
  (a_jq:nsIn K mainGlobals "words_to"=some (some (.ref D0)))
  (l_jq:K.lookup D0=some ⟨SA,Sx,.func (fnOf "words_to" "words_to" (Ay Du) (Aw Du) (Af Du) .none SC SD SE Sy LM SF),Sz⟩)
  (c_jq:codeIn K LM "words_to"=true)
  (k_jq:keepIn K (.ref D0)=true)
  (a_jy:nsIn K mainGlobals "trail"=some (some (.ref IR)))
  (l_jy:K.lookup IR=some ⟨YS,YO,.func (fnOf "trail" "trail" (Ay Ho) (Aw Ho) (Af Ho) .none YT YU YV YQ Ud YW),YR⟩)
  (c_jy:codeIn K Ud "trail"=true)
  (k_jy:keepIn K (.ref IR)=true)
  (a_jf:nsIn K mainGlobals "room_behind"=some (some (.ref Bm)))
  (l_jf:K.lookup Bm=some ⟨Nf,Nb,.func (fnOf "room_behind" "room_behind" (Ay BD) (Aw BD) (Af BD) .none Ng Nh Ni Nc Hi Nj),Nd⟩)
  (c_jf:codeIn K Hi "room_behind"=true)
  (k_jf:keepIn K (.ref Bm)=true)
  (a_jg:nsIn K mainGlobals "mark_behind"=some (some (.ref Bn)))
  (l_jg:K.lookup Bn=some ⟨Nn,Nk,.func (fnOf "mark_behind" "mark_behind" (Ay BE) (Aw BE) (Af BE) .none No Np Nq Nl Hj Nr),Nm⟩)
  (c_jg:codeIn K Hj "mark_behind"=true)
  (k_jg:keepIn K (.ref Bn)=true)
  (a_jr:nsIn K mainGlobals "words_in"=some (some (.ref CM)))
  (l_jr:K.lookup CM=some ⟨SK,SH,.func (fnOf "words_in" "words_in" (Ay C9) (Aw C9) (Af C9) .none SL SM SN SI LN SR),SJ⟩)
  (c_jr:codeIn K LN "words_in"=true)
  (k_jr:keepIn K (.ref CM)=true)
  (a_ju:nsIn K mainGlobals "ways_in"=some (some (.ref E9)))
  (l_ju:K.lookup E9=some ⟨Vg,Vd,.func (fnOf "ways_in" "ways_in" (Ay D6) (Aw D6) (Af D6) .none Vh Vi Vj Ve NZ Vk),Vf⟩)
  (c_ju:codeIn K NZ "ways_in"=true)
  (k_ju:keepIn K (.ref E9)=true)
  (a_jv:nsIn K mainGlobals "reached"=some (some (.ref Do)))
  (l_jv:K.lookup Do=some ⟨Vo,Vl,.func (fnOf "reached" "reached" (Ay DE) (Aw DE) (Af DE) .none Vp Vq Vr Vm N0 Vs),Vn⟩)
  (c_jv:codeIn K N0 "reached"=true)
  (k_jv:keepIn K (.ref Do)=true)
  (a_js:nsIn K mainGlobals "numbered"=some (some (.ref DY)))
  (l_js:K.lookup DY=some ⟨SV,SS,.func (fnOf "numbered" "numbered" (Ay Dv) (Aw Dv) (Af Dv) .none SW SX SY ST LO SZ),SU⟩)
  (c_js:codeIn K LO "numbered"=true)
  (k_js:keepIn K (.ref DY)=true)
  (a_j1:nsIn K mainGlobals "words_and_classes"=some (some (.ref AN)))
  (l_j1:K.lookup AN=some ⟨G4,G1,.func (fnOf "words_and_classes" "words_and_classes" (Ay AW) (Aw AW) (Af AW) .none G8 G9 Ha G2 DQ Hb),G3⟩)
  (c_j1:codeIn K DQ "words_and_classes"=true)
  (k_j1:keepIn K (.ref AN)=true)
  (a_jw:nsIn K mainGlobals "tellers"=some (some (.ref Fa)))
  (l_jw:K.lookup Fa=some ⟨Vw,Vt,.func (fnOf "tellers" "tellers" (Ay D7) (Aw D7) (Af D7) .none Vx Vy Vz Vu N1 VA),Vv⟩)
  (c_jw:codeIn K N1 "tellers"=true)
  (k_jw:keepIn K (.ref Fa)=true)
  (a_ji:nsIn K mainGlobals "classes_of"=some (some (.ref Dc)))
  (l_ji:K.lookup Dc=some ⟨O4,O1,.func (fnOf "classes_of" "classes_of" (Ay Cv) (Aw Cv) (Af Cv) .none O5 O6 O7 O2 Ix O8),O3⟩)
  (c_ji:codeIn K Ix "classes_of"=true)
  (k_ji:keepIn K (.ref Dc)=true)
  (a_jz:nsIn K mainGlobals "homes"=some (some (.ref IV)))
  (l_jz:K.lookup IV=some ⟨Y0,YX,.func (fnOf "homes" "homes" (Ay Hr) (Aw Hr) (Af Hr) .none Y1 Y2 Y3 YY Ue Y4),YZ⟩)
  (c_jz:codeIn K Ue "homes"=true)
  (k_jz:keepIn K (.ref IV)=true)
  (a_j10:nsIn K mainGlobals "least"=some (some (.ref Jb)))
  (l_j10:K.lookup Jb=some ⟨Y8,Y5,.func (fnOf "least" "least" (Ay Hs) (Aw Hs) (Af Hs) .none Y9 Za Zb Y6 Uf Zc),Y7⟩)
  (c_j10:codeIn K Uf "least"=true)
  (k_j10:keepIn K (.ref Jb)=true)
  (a_j0:nsIn K mainGlobals "in_order"=some (some (.ref D2)))
  {aA:Addr}
  (l_j0:K.lookup D2=some ⟨S3,S0,.func (fnOf "in_order" "in_order" (Ay Da) (Aw Da) (Af Da) .none S4 S5 S6 S1 (.ref aA) S7),S2⟩)
  {aB:Addr} {oC_in_order:Value} {dC_in_order:Option Addr} {sC_in_order:Array (α5)} {vC_in_order:Array Value} (lc_in_order:K.lookup aA=some ⟨oC_in_order,dC_in_order,.fields vC_in_order,sC_in_order⟩) (hx_in_order:vC_in_order[11]?=some (.ref aB)) (kt_in_order:K.lookup aB=none) (ch_in_order:PySem.W.codeHdIn K aA aB=true) (tb_in_order:h.get? aB=some (PySem.W.tabObj #[]))
  (c_j0:codeIn K (.ref aA) "in_order"=true)
  (k_j0:keepIn K (.ref D2)=true)
  (a_jj:nsIn K mainGlobals "words_with"=some (some (.ref Dd)))
  (l_jj:K.lookup Dd=some ⟨Pe,O9,.func (fnOf "words_with" "words_with" (Ay Cw) (Aw Cw) (Af Cw) .none Pf Pg Ph Pa Iy Pi),Pb⟩)
  (c_jj:codeIn K Iy "words_with"=true)
  (k_jj:keepIn K (.ref Dd)=true)
  (a_j11:nsIn K mainGlobals "suite"=some (some (.ref Jg)))
  (l_j11:K.lookup Jg=some ⟨Zg,Zd,.func (fnOf "suite" "suite" (Ay Hu) (Aw Hu) (Af Hu) .none Zh Zi Zj Ze Ug Zk),Zf⟩)
  (c_j11:codeIn K Ug "suite"=true)
  (k_j11:keepIn K (.ref Jg)=true)
  (a_jn:nsIn K mainGlobals "trials_of"=some (some (.ref DA)))
  (l_jn:K.lookup DA=some ⟨Q4,Q1,.func (fnOf "trials_of" "trials_of" (Ay C4) (Aw C4) (Af C4) .none Q5 Q6 Q7 Q2 JE Q8),Q3⟩)
  (c_jn:codeIn K JE "trials_of"=true)
  (k_jn:keepIn K (.ref DA)=true)
  (a_j7:nsIn K mainGlobals "first_failed"=some (some (.ref Bb)))
  (l_j7:K.lookup Bb=some ⟨LS,LP,.func (fnOf "first_failed" "first_failed" (Ay Bo) (Aw Bo) (Af Bo) .none LT LU LV LQ Gu LW),LR⟩)
  (c_j7:codeIn K Gu "first_failed"=true)
  (k_j7:keepIn K (.ref Bb)=true)
  (a_jx:nsIn K mainGlobals "passes"=some (some (.ref GQ)))
  (l_jx:K.lookup GQ=some ⟨XF,XC,.func (fnOf "passes" "passes" (Ay Fo) (Aw Fo) (Af Fo) .none XG XH XI XD Q9 XJ),XE⟩)
  (c_jx:codeIn K Q9 "passes"=true)
  (k_jx:keepIn K (.ref GQ)=true)
  (a_j8:nsIn K mainGlobals "_law_cell_at"=some (some (.ref Au)))
  (l_j8:K.lookup Au=some ⟨L3,LX,.func (fnOf "_law_cell_at" "_law_cell_at" (Ay A2) (Aw A2) (Af A2) .none L4 L5 L6 LY Gv L7),LZ⟩)
  (c_j8:codeIn K Gv "_law_cell_at"=true)
  (k_j8:keepIn K (.ref Au)=true)
  (a_jk:nsIn K mainGlobals "_law_mixed"=some (some (.ref AL)))
  (l_jk:K.lookup AL=some ⟨Pm,Pj,.func (fnOf "_law_mixed" "_law_mixed" (Ay Bf) (Aw Bf) (Af Bf) .none Po Pp Pq Pk Iz Ps),Pl⟩)
  (c_jk:codeIn K Iz "_law_mixed"=true)
  (k_jk:keepIn K (.ref AL)=true)
  (a_j3:nsIn K mainGlobals "_law_marks_by"=some (some (.ref B2)))
  (l_j3:K.lookup B2=some ⟨JZ,JW,.func (fnOf "_law_marks_by" "_law_marks_by" (Ay Bt) (Aw Bt) (Af Bt) .none J1 J2 J3 JX FK J4),JY⟩)
  (c_j3:codeIn K FK "_law_marks_by"=true)
  (k_j3:keepIn K (.ref B2)=true)
  (a_j9:nsIn K mainGlobals "_law_ways_by"=some (some (.ref Cd)))
  (l_j9:K.lookup Cd=some ⟨Mb,L8,.func (fnOf "_law_ways_by" "_law_ways_by" (Ay BP) (Aw BP) (Af BP) .none Mc Md Me L9 Gw Mf),Ma⟩)
  (c_j9:codeIn K Gw "_law_ways_by"=true)
  (k_j9:keepIn K (.ref Cd)=true)
  (a_jl:nsIn K mainGlobals "_law_blown"=some (some (.ref BK)))
  (l_jl:K.lookup BK=some ⟨PD,Pt,.func (fnOf "_law_blown" "_law_blown" (Ay B9) (Aw B9) (Af B9) .none PH PJ PK Pu IA PL),Px⟩)
  (c_jl:codeIn K IA "_law_blown"=true)
  (k_jl:keepIn K (.ref BK)=true)
  (a_j4:nsIn K mainGlobals "_law_house_by"=some (some (.ref B4)))
  (l_j4:K.lookup B4=some ⟨J8,J5,.func (fnOf "_law_house_by" "_law_house_by" (Ay Bu) (Aw Bu) (Af Bu) .none J9 Ka Kb J6 FL Kc),J7⟩)
  (c_j4:codeIn K FL "_law_house_by"=true)
  (k_j4:keepIn K (.ref B4)=true)
  (a_ja:nsIn K mainGlobals "_law_more_by"=some (some (.ref Ck)))
  (l_ja:K.lookup Ck=some ⟨Mj,Mg,.func (fnOf "_law_more_by" "_law_more_by" (Ay BQ) (Aw BQ) (Af BQ) .none Mk Ml Mm Mh Gx Mn),Mi⟩)
  (c_ja:codeIn K Gx "_law_more_by"=true)
  (k_ja:keepIn K (.ref Ck)=true)
  (a_j5:nsIn K mainGlobals "_law_order_of"=some (some (.ref B3)))
  (l_j5:K.lookup B3=some ⟨Kg,Kd,.func (fnOf "_law_order_of" "_law_order_of" (Ay Bv) (Aw Bv) (Af Bv) .none Kh Ki Kj Ke FM Kk),Kf⟩)
  (c_j5:codeIn K FM "_law_order_of"=true)
  (k_j5:keepIn K (.ref B3)=true)
  (a_jb:nsIn K mainGlobals "_law_spoiled"=some (some (.ref Cj)))
  (l_jb:K.lookup Cj=some ⟨Mr,Mo,.func (fnOf "_law_spoiled" "_law_spoiled" (Ay BR) (Aw BR) (Af BR) .none Ms Mt Mu Mp Gy Mv),Mq⟩)
  (c_jb:codeIn K Gy "_law_spoiled"=true)
  (k_jb:keepIn K (.ref Cj)=true)
  (a_j2:nsIn K mainGlobals "_law_turned_by"=some (some (.ref Bz)))
  (l_j2:K.lookup Bz=some ⟨Jk,Jh,.func (fnOf "_law_turned_by" "_law_turned_by" (Ay Bj) (Aw Bj) (Af Bj) .none Jl Jm Jn Ji Fc Jo),Jj⟩)
  (c_j2:codeIn K Fc "_law_turned_by"=true)
  (k_j2:keepIn K (.ref Bz)=true)
  (a_jc:nsIn K mainGlobals "_law_classes"=some (some (.ref Ce)))
  (l_jc:K.lookup Ce=some ⟨Mz,Mw,.func (fnOf "_law_classes" "_law_classes" (Ay BS) (Aw BS) (Af BS) .none MA MB MC Mx Gz MD),My⟩)
  (c_jc:codeIn K Gz "_law_classes"=true)
  (k_jc:keepIn K (.ref Ce)=true)
  (a_jo:nsIn K mainGlobals "_law_base"=some (some (.ref Dz)))
  (l_jo:K.lookup Dz=some ⟨Re,Ra,.func (fnOf "_law_base" "_law_base" (Ay C5) (Aw C5) (Af C5) .none Rf Rg Rh Rb JF Ri),Rc⟩)
  (c_jo:codeIn K JF "_law_base"=true)
  (k_jo:keepIn K (.ref Dz)=true)
  (a_j6:nsIn K mainGlobals "_law_rival_by"=some (some (.ref B5)))
  (l_j6:K.lookup B5=some ⟨Ko,Kl,.func (fnOf "_law_rival_by" "_law_rival_by" (Ay Bx) (Aw Bx) (Af Bx) .none Kp Kq Kr Km FN Ks),Kn⟩)
  (c_j6:codeIn K FN "_law_rival_by"=true)
  (k_j6:keepIn K (.ref B5)=true)
  (a_jd:nsIn K mainGlobals "_law_word_by"=some (some (.ref Cl)))
  (l_jd:K.lookup Cl=some ⟨MK,ME,.func (fnOf "_law_word_by" "_law_word_by" (Ay BT) (Aw BT) (Af BT) .none ML MM MN MF GA MO),MG⟩)
  (c_jd:codeIn K GA "_law_word_by"=true)
  (k_jd:keepIn K (.ref Cl)=true)
  (a_je:nsIn K mainGlobals "_law_is_word"=some (some (.ref Cm)))
  (l_je:K.lookup Cm=some ⟨MT,MQ,.func (fnOf "_law_is_word" "_law_is_word" (Ay BU) (Aw BU) (Af BU) .none MU MV MW MR GC MX),MS⟩)
  (c_je:codeIn K GC "_law_is_word"=true)
  (k_je:keepIn K (.ref Cm)=true)
  (a_jp:nsIn K mainGlobals "_law_walk"=some (some (.ref DB)))
  (l_jp:K.lookup DB=some ⟨Rm,Rj,.func (fnOf "_law_walk" "_law_walk" (Ay C6) (Aw C6) (Af C6) .none Ro Rp Rq Rk JG Rr),Rl⟩)
  (c_jp:codeIn K JG "_law_walk"=true)
  (k_jp:keepIn K (.ref DB)=true)
  (a_j12:nsIn K mainGlobals "law"=some (some (.ref om)))
  (l_j12:K.lookup om=some ⟨Dt_,Dr_,.func (fnOf "law" "law" (Ay OG) (Aw OG) (Af OG) .none Al_ Am_ An_ Ak_ XL Ao_),Ds_⟩)
  (c_j12:codeIn K XL "law"=true)
  (k_j12:keepIn K (.ref om)=true)
  (z_all:nsIn K mainGlobals "all"=some none)
  (z_bool:nsIn K mainGlobals "bool"=some none)
  (z_enumerate:nsIn K mainGlobals "enumerate"=some none)
  (z_int:nsIn K mainGlobals "int"=some none)
  (z_isinstance:nsIn K mainGlobals "isinstance"=some none)
  (z_len:nsIn K mainGlobals "len"=some none)
  (z_list:nsIn K mainGlobals "list"=some none)
  (z_max:nsIn K mainGlobals "max"=some none)
  (z_min:nsIn K mainGlobals "min"=some none)
  (z_range:nsIn K mainGlobals "range"=some none)
  (z_sorted:nsIn K mainGlobals "sorted"=some none)
  (z_tuple:nsIn K mainGlobals "tuple"=some none)
  (z_zip:nsIn K mainGlobals "zip"=some none)
  : ∃(fd:α6) (c T:Addr),PySem.W.tabIn K "in_order"=some (c,T)/\K.lookup T=none/\PySem.W.CodeHd h c T/\h.get? T=some (PySem.W.tabObj #[])/\(∀(s:Shared) (v:Value),BindsTo s fd ⟨[v],[]⟩ [("script",v)])/\∀base:Heap,K.In base->base.Ns mainGlobals mg->PySem.W.CodeHd base c T->BmOk mg base->FnOk l.prog w K mg base CX0 8 fa fd ["script"] (YN K):=by
 have e:=hfa.symm.trans (jE_ X G a_j12)
 cases e
 have T:Txt mg:=⟨qc_ X G z_all,qc_ X G z_bool,qc_ X G z_enumerate,qc_ X G z_int,qc_ X G z_isinstance,qc_ X G z_len,qc_ X G z_list,qc_ X G z_max,qc_ X G z_min,qc_ X G z_range,qc_ X G z_sorted,qc_ X G z_tuple,qc_ X G z_zip⟩
 have Ga:=A3 (st:=D5) l_jt c_jt k_jt
 have Li:=Ga.binds (ps:=["letters","word"]) fun _ _ _ _ _ _ us hl=>(by obtain⟨y0,y1,rfl⟩:=len2 hl;rfl)
 have Lj:=jE_ X G a_jt
 have Bg:=A3 (st:=BC) l_jh c_jh k_jh
 have BH:=Bg.binds (ps:=["letters","word"]) fun _ _ _ _ _ _ us hl=>(by obtain⟨y0,y1,rfl⟩:=len2 hl;rfl)
 have BI:=jE_ X G a_jh
 have D9:=A3 (st:=C3) l_jm c_jm k_jm
 have HG:=D9.binds (ps:=["letters","word"]) fun _ _ _ _ _ _ us hl=>(by obtain⟨y0,y1,rfl⟩:=len2 hl;rfl)
 have HH:=jE_ X G a_jm
 have E8:=A3 (st:=Du) l_jq c_jq k_jq
 have IX:=E8.binds (ps:=["letters","most"]) fun _ _ _ _ _ _ us hl=>(by obtain⟨y0,y1,rfl⟩:=len2 hl;rfl)
 have IY:=jE_ X G a_jq
 have Lk:=A3 (st:=Ho) l_jy c_jy k_jy
 have Se:=Lk.binds (ps:=["house","word"]) fun _ _ _ _ _ _ us hl=>(by obtain⟨y0,y1,rfl⟩:=len2 hl;rfl)
 have Sf:=jE_ X G a_jy
 have BJ:=A3 (st:=BD) l_jf c_jf k_jf
 have CK:=BJ.binds (ps:=["house","word"]) fun _ _ _ _ _ _ us hl=>(by obtain⟨y0,y1,rfl⟩:=len2 hl;rfl)
 have CL:=jE_ X G a_jf
 have BL:=A3 (st:=BE) l_jg c_jg k_jg
 have CO:=BL.binds (ps:=["house","word"]) fun _ _ _ _ _ _ us hl=>(by obtain⟨y0,y1,rfl⟩:=len2 hl;rfl)
 have CP:=jE_ X G a_jg
 have Db:=A3 (st:=C9) l_jr c_jr k_jr
 have DW:=Db.binds (ps:=["house"]) fun _ _ _ _ _ _ us hl=>(by obtain⟨y0,rfl⟩:=len1 hl;rfl)
 have DX:=jE_ X G a_jr
 have Gf:=A3 (st:=D6) l_ju c_ju k_ju
 have Lq:=Gf.binds (ps:=["house"]) fun _ _ _ _ _ _ us hl=>(by obtain⟨y0,rfl⟩:=len1 hl;rfl)
 have Lr:=jE_ X G a_ju
 have DG:=A3 (st:=DE) l_jv c_jv k_jv
 have E6:=DG.binds (ps:=["house"]) fun _ _ _ _ _ _ us hl=>(by obtain⟨y0,rfl⟩:=len1 hl;rfl)
 have E7:=jE_ X G a_jv
 have DZ:=A3 (st:=Dv) l_js c_js k_js
 have GM:=DZ.binds (ps:=["row"]) fun _ _ _ _ _ _ us hl=>(by obtain⟨y0,rfl⟩:=len1 hl;rfl)
 have GN:=jE_ X G a_js
 have AX:=A3 (st:=AW) l_j1 c_j1 k_j1
 have A8:=AX.binds (ps:=["house"]) fun _ _ _ _ _ _ us hl=>(by obtain⟨y0,rfl⟩:=len1 hl;rfl)
 have A9:=jE_ X G a_j1
 have Gg:=A3 (st:=D7) l_jw c_jw k_jw
 have Lv:=Gg.binds (ps:=["house"]) fun _ _ _ _ _ _ us hl=>(by obtain⟨y0,rfl⟩:=len1 hl;rfl)
 have Lw:=jE_ X G a_jw
 have DH:=A3 (st:=Cv) l_ji c_ji k_ji
 have Gd:=DH.binds (ps:=["house"]) fun _ _ _ _ _ _ us hl=>(by obtain⟨y0,rfl⟩:=len1 hl;rfl)
 have Ge:=jE_ X G a_ji
 have Ln:=A3 (st:=Hr) l_jz c_jz k_jz
 have Sk:=Ln.binds (ps:=["house"]) fun _ _ _ _ _ _ us hl=>(by obtain⟨y0,rfl⟩:=len1 hl;rfl)
 have Sl:=jE_ X G a_jz
 have Lx:=A3 (st:=Hs) l_j10 c_j10 k_j10
 have Sq:=Lx.binds (ps:=["house"]) fun _ _ _ _ _ _ us hl=>(by obtain⟨y0,rfl⟩:=len1 hl;rfl)
 have Sr:=jE_ X G a_j10
 have GO:=A3 (st:=Da) l_j0 c_j0 k_j0
 have I0:=GO.binds (ps:=["words"]) fun _ _ _ _ _ _ us hl=>(by obtain⟨y0,rfl⟩:=len1 hl;rfl)
 have Ja:=jE_ X G a_j0
 have DI:=A3 (st:=Cw) l_jj c_jj k_jj
 have Gi:=DI.binds (ps:=["base","more","ends"]) fun _ _ _ _ _ _ us hl=>(by obtain⟨y0,y1,y2,rfl⟩:=len3 hl;rfl)
 have Gj:=jE_ X G a_jj
 have LL:=A3 (st:=Hu) l_j11 c_j11 k_j11
 have Sv:=LL.binds (ps:=["house","more"]) fun _ _ _ _ _ _ us hl=>(by obtain⟨y0,y1,rfl⟩:=len2 hl;rfl)
 have Sw:=jE_ X G a_j11
 have Ei:=A3 (st:=C4) l_jn c_jn k_jn
 have HN:=Ei.binds (ps:=["house","words"]) fun _ _ _ _ _ _ us hl=>(by obtain⟨y0,y1,rfl⟩:=len2 hl;rfl)
 have HP:=jE_ X G a_jn
 have Bp:=A3 (st:=Bo) l_j7 c_j7 k_j7
 have Cg:=Bp.binds (ps:=["house","some"]) fun _ _ _ _ _ _ us hl=>(by obtain⟨y0,y1,rfl⟩:=len2 hl;rfl)
 have Ci:=jE_ X G a_j7
 have Iv:=A3 (st:=Fo) l_jx c_jx k_jx
 have OR:=Iv.binds (ps:=["house","some"]) fun _ _ _ _ _ _ us hl=>(by obtain⟨y0,y1,rfl⟩:=len2 hl;rfl)
 have OS:=jE_ X G a_jx
 have Am:=A3 (st:=A2) l_j8 c_j8 k_j8
 have Aq:=Am.binds (ps:=["script","k"]) fun _ _ _ _ _ _ us hl=>(by obtain⟨y0,y1,rfl⟩:=len2 hl;rfl)
 have Ar:=jE_ X G a_j8
 have Ax:=A3 (st:=Bf) l_jk c_jk k_jk
 have AG:=Ax.binds (ps:=["number","k","many"]) fun _ _ _ _ _ _ us hl=>(by obtain⟨y0,y1,y2,rfl⟩:=len3 hl;rfl)
 have AH:=jE_ X G a_jk
 have CA:=A3 (st:=Bt) l_j3 c_j3 k_j3
 have Ec:=CA.binds (ps:=["number","rooms"]) fun _ _ _ _ _ _ us hl=>(by obtain⟨y0,y1,rfl⟩:=len2 hl;rfl)
 have Ed:=jE_ X G a_j3
 have CT:=A3 (st:=BP) l_j9 c_j9 k_j9
 have Ez:=CT.binds (ps:=["script","letters","rooms"]) fun _ _ _ _ _ _ us hl=>(by obtain⟨y0,y1,y2,rfl⟩:=len3 hl;rfl)
 have EA:=jE_ X G a_j9
 have Ca:=A3 (st:=B9) l_jl c_jl k_jl
 have Df:=Ca.binds (ps:=["house","number","rooms"]) fun _ _ _ _ _ _ us hl=>(by obtain⟨y0,y1,y2,rfl⟩:=len3 hl;rfl)
 have Dg:=jE_ X G a_jl
 have CD:=A3 (st:=Bu) l_j4 c_j4 k_j4
 have Ek:=CD.binds (ps:=["script"]) fun _ _ _ _ _ _ us hl=>(by obtain⟨y0,rfl⟩:=len1 hl;rfl)
 have El:=jE_ X G a_j4
 have CY:=A3 (st:=BQ) l_ja c_ja k_ja
 have EI:=CY.binds (ps:=["script","house"]) fun _ _ _ _ _ _ us hl=>(by obtain⟨y0,y1,rfl⟩:=len2 hl;rfl)
 have EJ:=jE_ X G a_ja
 have CB:=A3 (st:=Bv) l_j5 c_j5 k_j5
 have Ef:=CB.binds (ps:=["house"]) fun _ _ _ _ _ _ us hl=>(by obtain⟨y0,rfl⟩:=len1 hl;rfl)
 have Eg:=jE_ X G a_j5
 have CW:=A3 (st:=BR) l_jb c_jb k_jb
 have EF:=CW.binds (ps:=["house","number"]) fun _ _ _ _ _ _ us hl=>(by obtain⟨y0,y1,rfl⟩:=len2 hl;rfl)
 have EG:=jE_ X G a_jb
 have Cc:=A3 (st:=Bj) l_j2 c_j2 k_j2
 have DN:=Cc.binds (ps:=["house","number"]) fun _ _ _ _ _ _ us hl=>(by obtain⟨y0,y1,rfl⟩:=len2 hl;rfl)
 have DO:=jE_ X G a_j2
 have CU:=A3 (st:=BS) l_jc c_jc k_jc
 have EC:=CU.binds (ps:=["house"]) fun _ _ _ _ _ _ us hl=>(by obtain⟨y0,rfl⟩:=len1 hl;rfl)
 have ED:=jE_ X G a_jc
 have Eh:=A3 (st:=C5) l_jo c_jo k_jo
 have HJ:=Eh.binds (ps:=["house"]) fun _ _ _ _ _ _ us hl=>(by obtain⟨y0,rfl⟩:=len1 hl;rfl)
 have HK:=jE_ X G a_jo
 have CF:=A3 (st:=Bx) l_j6 c_j6 k_j6
 have En:=CF.binds (ps:=["house","script","many"]) fun _ _ _ _ _ _ us hl=>(by obtain⟨y0,y1,y2,rfl⟩:=len3 hl;rfl)
 have Eo:=jE_ X G a_j6
 have CZ:=A3 (st:=BT) l_jd c_jd k_jd
 have EL:=CZ.binds (ps:=["script","letters"]) fun _ _ _ _ _ _ us hl=>(by obtain⟨y0,y1,rfl⟩:=len2 hl;rfl)
 have EM:=jE_ X G a_jd
 have C0:=A3 (st:=BU) l_je c_je k_je
 have EO:=C0.binds (ps:=["found","letters"]) fun _ _ _ _ _ _ us hl=>(by obtain⟨y0,y1,rfl⟩:=len2 hl;rfl)
 have EQ:=jE_ X G a_je
 have DC:=A3 (st:=C6) l_jp c_jp k_jp
 have Fv:=DC.binds (ps:=["house","room","word"]) fun _ _ _ _ _ _ us hl=>(by obtain⟨y0,y1,y2,rfl⟩:=len3 hl;rfl)
 have Fw:=jE_ X G a_jp
 have Du_:=A3 (st:=OG) l_j12 c_j12 k_j12
 have DN_:=Du_.binds (ps:=["script"]) fun _ _ _ _ _ _ us hl=>(by obtain⟨y0,rfl⟩:=len1 hl;rfl)
 have DO_:=jE_ X G a_j12
 have ti_in_order:=YC a_j0 l_j0 rfl lc_in_order hx_in_order
 refine⟨fnOf "law" "law" (Ay OG) (Aw OG) (Af OG) .none Al_ Am_ An_ Ak_ XL Ao_,aA,aB,ti_in_order,kt_in_order,PySem.W.codeHd_of_K X ch_in_order,tb_in_order,fun s v=>.of_eq rfl,fun base _ _ hC_ hB_=>?_⟩
 have FL_in_order:=Bq_ (st:=Da) ti_in_order l_j0 c_j0 hC_ hB_
 have Lh:=UY (P:=l.prog) (w:=w) (base:=base) Ga T
 have BF:=OH (P:=l.prog) (w:=w) (base:=base) Bg T Lh Ga Li Lj
 have HF:=QF (P:=l.prog) (w:=w) (base:=base) D9 T BF Bg BH BI
 have IW:=Sb (P:=l.prog) (w:=w) (base:=base) E8 T HF D9 HG HH
 have Sd:=YE (P:=l.prog) (w:=w) (base:=base) Lk T BF Bg BH BI
 have CJ:=M9 (P:=l.prog) (w:=w) (base:=base) BJ T Sd Lk Se Sf
 have CN:=Na (P:=l.prog) (w:=w) (base:=base) BL T CJ BJ CK CL
 have DV:=Sh (P:=l.prog) (w:=w) (base:=base) Db T
 have Lp:=UZ (P:=l.prog) (w:=w) (base:=base) Gf T DV Db DW DX
 have E4:=U0 (P:=l.prog) (w:=w) (base:=base) DG T DV Db DW DX
 have GL:=Si (P:=l.prog) (w:=w) (base:=base) DZ T
 have A7:=GZ (P:=l.prog) (w:=w) (base:=base) AX T GL DZ GM GN
 have Lu:=U1 (P:=l.prog) (w:=w) (base:=base) Gg T A7 AX A8 A9
 have Gc:=OK (P:=l.prog) (w:=w) (base:=base) DH T A7 AX A8 A9
 have Sj:=YG (P:=l.prog) (w:=w) (base:=base) Ln T E4 DG E6 E7 Gc DH Gd Ge
 have So:=YH (P:=l.prog) (w:=w) (base:=base) Lx T E4 DG E6 E7 Sj Ln Sk Sl
 have IZ:=Sm (P:=l.prog) (w:=w) (base:=base) FL_in_order T
 have Gh:=OM (P:=l.prog) (w:=w) (base:=base) DI T IW E8 IX IY CJ BJ CK CL Lp Gf Lq Lr IZ GO I0 Ja
 have Su:=YI (P:=l.prog) (w:=w) (base:=base) LL T Lu Gg Lv Lw So Lx Sq Sr Gh DI Gi Gj
 have HL:=QO (P:=l.prog) (w:=w) (base:=base) Ei T CN BL CO CP
 have Cf:=LI (P:=l.prog) (w:=w) (base:=base) Bp T BF Bg BH BI CN BL CO CP
 have OQ:=XB (P:=l.prog) (w:=w) (base:=base) Iv T Cf Bp Cg Ci
 have Ap:=Ly (P:=l.prog) (w:=w) (base:=base) Am T
 have AF:=ON (P:=l.prog) (w:=w) (base:=base) Ax T
 have Eb:=JS (P:=l.prog) (w:=w) (base:=base) CA T AF Ax AG AH
 have Ey:=Lz (P:=l.prog) (w:=w) (base:=base) CT T Ap Am Aq Ar AF Ax AG AH
 have De:=OP (P:=l.prog) (w:=w) (base:=base) Ca T AF Ax AG AH
 have Ej:=JT (P:=l.prog) (w:=w) (base:=base) CD T Ap Am Aq Ar Eb CA Ec Ed Ey CT Ez EA De Ca Df Dg
 have EH:=LB (P:=l.prog) (w:=w) (base:=base) CY T Ap Am Aq Ar
 have Ee:=JU (P:=l.prog) (w:=w) (base:=base) CB T
 have EE:=LH (P:=l.prog) (w:=w) (base:=base) CW T
 have DM:=Jd (P:=l.prog) (w:=w) (base:=base) Cc T
 have EB:=LG (P:=l.prog) (w:=w) (base:=base) CU T
 have HI:=QM (P:=l.prog) (w:=w) (base:=base) Eh T Ee CB Ef Eg EB CU EC ED
 have Em:=JV (P:=l.prog) (w:=w) (base:=base) CF T Ap Am Aq Ar AF Ax AG AH De Ca Df Dg EE CW EF EG DM Cc DN DO HI Eh HJ HK
 have EK:=LJ (P:=l.prog) (w:=w) (base:=base) CZ T Ap Am Aq Ar AF Ax AG AH
 have EN:=LC (P:=l.prog) (w:=w) (base:=base) C0 T
 have Fu:=QN (P:=l.prog) (w:=w) (base:=base) DC T
 have DM_:=Dq_ (P:=l.prog) (w:=w) (base:=base) Du_ T Su LL Sv Sw HL Ei HN HP Cf Bp Cg Ci OQ Iv OR OS Ej CD Ek El EH CY EI EJ Em CF En Eo EK CZ EL EM EN C0 EO EQ Fu DC Fv Fw
 exact DM_
theorem walk {l:PySem.W.OpenLaw}{q:Program}{loose:List Str}{XP:(Str->α5)->Heap->Prop}{YP:World->Heap->Prop}{d:DefRec}{K:Params->α3}(hn:l.most=some 63)(jV:d.params.defaults=[])
  (hY:∀(w:World) (h:Heap),YP w h->(K w.params).In h)
  (F:∀(w:World) (mg:Str->α5) (fa:Addr) (h:Heap),YP w h->(K w.params).In h->h.Ns mainGlobals mg->mg d.name=some (.ref fa) ->
   ∃(fd:α6) (c T:Addr),PySem.W.tabIn (K w.params) "in_order"=some (c,T)/\(K w.params).lookup T=none/\PySem.W.CodeHd h c T/\h.get? T=some (PySem.W.tabObj #[])/\(∀(s:Shared) (u:Value),BindsTo s fd ⟨[u],[]⟩ [("script",u)])/\∀base:Heap,(K w.params).In base->base.Ns mainGlobals mg->PySem.W.CodeHd base c T->BmOk mg base->FnOk l.prog w (K w.params) mg base CX0 8 fa fd ["script"] (YN (K w.params))):
  PySem.W.WalkO q loose XP YP l.row.toRowW d [] (fun f vs=>PySem.call f vs):=
 L2.walk_ofT (xT := "in_order") (n:=63) (k:=8) (x := "script") (CX:=fun _=>CX0) (sp:=fun w=>YN (K w.params)) hn (by decide) jV ⟨rfl,by decide,by decide⟩ hY F (fun _ _ a _ _ ns hl ti hT hS=>⟨a,ns,rfl,hS,hl,by rw[Xn ti];exact hT,fun _=>rfl⟩) fun _ _ _ _ _ z=>z
end Mine
namespace PySem.W.Fast
def tw1168207097202740887:=0
def tw11426973855070890:=0
def tw14069229642259002429:=0
def tw8436578573585178828:=0
def tw6540862290790224123:=0
def tw1015592720295171065:=0
def tw5891318340812766317:=0
def tw12824574804275016744:=0
def tw7477014227485504349:=0
def tw9067283794869308368:=0
def tw3578878474276328557:=0
def tw12614515129031266746:=0
def tw10959746323268394089:=0
def tw10124834900524680153:=0
def tw9702037571685592508:=0
def tw12204763733649763763:=0
def tw6704444020345177071:=0
def tw13190695626396293986:=0
def tw11264195979009730427:=0
def tw12854700717469294667:=0
def tw12801423110239279577:=0
def tw4715421533323361649:=0
def tw12379733982453654360:=0
def tw4994674936893510990:=0
def tw17749660012547932045:=0
def tw8674522646423043112:=0
def tw17537317462750558313:=0
def tw17771643046535975050:=0
def tw3648291412732395853:=0
def tw17730718355154162856:=0
def tw9819246097998603036:=0
def tw15531693547923662608:=0
def tw8193991909193887869:=0
def tw3011673457226669801:=0
def tw4302098417503549485:=0
def tw1473224217890457838:=0
def tw17353416661827564785:=0
def tw1911697678596392387:=0
def tw4194389693676340344:=0
def tw9006348312218702035:=0
def tw8742042597838508580:=0
def tw16731014860184006939:=0
def tw4591835320257754227:=0
def tw16206400818486176000:=0
def tw3846298706365768758:=0
def tw1326640919892985721:=0
def tw1504736125134831153:=0
def tw15493860964712117:=0
def tw14281740187890936777:=0
def tw14379973709936657008:=0
def tw525778022838200488:=0
def tw14100925110359632078:=0
def tw18052039859710489866:=0
def tw7508471390070340572:=0
def tw31688554777216310:=0
def tw1396882134858676217:=0
def tw3999943200245840480:=0
def tw7999841198880137769:=0
def tw374838667903550721:=0
def tw6385897632548267708:=0
def tw1317168750929428274:=0
def tw5765500513520695160:=0
def tw2612538649157149220:=0
def tw18250109731175502554:=0
def tw15692547724743792982:=0
def tw8875308011328142400:=0
def tw4712071758094211324:=0
def tw15064916416127559305:=0
def tw3859863393909151149:=0
def tw6387034555934993213:=0
def tw16015589984300780828:=0
def tw12114280012145844897:=0
def tw17619365271033303941:=0
def tw14504946492589266358:=0
def tw5049619023558928928:=0
def tw6770380916720388972:=0
def tw5753476615531387726:=0
def tw10939602641976681736:=0
def tw12359693779382341946:=0
def tw692652035560168694:=0
def tw15384250839470864292:=0
def tw15865927404563359500:=0
def tw545668673706287329:=0
def tw3620602986799142029:=0
def tw14979488201204494151:=0
def tw3488935753454095764:=0
def tw2128139384628885021:=0
def tw8978209109402716014:=0
def tw3713137332630085903:=0
def tw4655461841893210316:=0
def tw15976787155848120574:=0
def tw1061057661530739933:=0
def tw2129384711436690227:=0
def tw8724973297532187373:=0
def tw8231816169864646409:=0
def tw6704628376540455099:=0
def tw14973545234410472223:=0
def tw16423897886084093464:=0
def tw12770464919847122771:=0
def tw4535127936479655754:=0
def tw4931797847869168769:=0
def tw13125962465851253807:=0
def tw7959663159861285510:=0
def tw176623842952024231:=0
def tw12342448187026918592:=0
def tw4778568661345764029:=0
def tw9998196714576929241:=0
def tw6823664326640544264:=0
def tw13772838446007568860:=0
def tw6293809937290570279:=0
def tw4084887606973134792:=0
def tw12125911250438452318:=0
def tw3858371610479432973:=0
def tw10559440083678882281:=0
def tw15624235263621043400:=0
def tw4329038057113714166:=0
def tw11640761383556435008:=0
def tw4367520588498943526:=0
def tw9482052219495818441:=0
def tw8702313737434837495:=0
def tw3482583391478895781:=0
def tw16696222821287750698:=0
def tw17902373092398632164:=0
def tw16388961290502127930:=0
def tw17478772579242773200:=0
def tw7289655744837445114:=0
def tw10704194518957778109:=0
def tw8470865072930906553:=0
def tw8423246295016357243:=0
def tw12212242527010200410:=0
def tw10723011214317408466:=0
def tw627768558332201957:=0
def tw594727107656989254:=0
def tw13314574361189362807:=0
def tw4614911861630903477:=0
def tw84834959492670417:=0
def tw18144383698873479725:=0
def tw7373487689165210805:=0
def tw212238136680403208:=0
def tw2524483942528719707:=0
def tw8483462352238482579:=0
def tw2000914995876280118:=0
def tw7169941027457291567:=0
def tw5667455013286310182:=0
def tw12900014380523318600:=0
def tw16553912081527034539:=0
def tw6231838327722698062:=0
def tw11233720931854952952:=0
def tw17519729577865255537:=0
def tw266090082097434582:=0
def tw3867753021039762695:=0
def tw8372090012645530418:=0
def tw12768080522189426038:=0
def tw18116898958345845000:=0
def tw17237118716157340143:=0
def tw6849731423686353455:=0
def tw2315779433560787611:=0
def tw15614975162931623735:=0
def tw293890302456928026:=0
def tw6575067877341281369:=0
def tw12843704665808717030:=0
def tw4249334553977753136:=0
def tw11049313666172428150:=0
def tw3757503973824218677:=0
def tw14537342202587197061:=0
def tw12411056728983082204:=0
def tw1973637726838547411:=0
def tw4633892792375368152:=0
def tw2309492619381101570:=0
def tw8861825520866242401:=0
def tw6692101905086126730:=0
def tw16626433282907554119:=0
def tw11984801690474303445:=0
def tw11316908772866505851:=0
def tw11678921778189619493:=0
def tw5240027335179651198:=0
def tw16264072738048638927:=0
def tw10647638537426111201:=0
def tw11128932159046105824:=0
def tw9004118665739938066:=0
def tw8383087179651396934:=0
def tw14171112838147078800:=0
def tw10117009089288860651:=0
def tw15883177582160427434:=0
def tw8220455710134586624:=0
def tw4770377021457576834:=0
def tw13782053381059985606:=0
def tw15617549606057590356:=0
def tw17459886028940821116:=0
def tw12523953376024261079:=0
def tw1972054139187672019:=0
def tw1092414858020094521:=0
def tw14692318818344140669:=0
def tw6332050824138098298:=0
def tw15108168304057308949:=0
def tw6865475009898916635:=0
def tw14927719659323246162:=0
def tw10840824073231404094:=0
def tw16601972984946921531:=0
def tw17280319680072633107:=0
def tw194450990792779537:=0
def tw13427652507883193114:=0
def tw7644701966071924697:=0
def tw9624703355032871651:=0
def tw10946292342039051761:=0
def tw8563660452847682366:=0
def tw14804864823516511025:=0
def tw7100491700780763409:=0
def tw5670522495881477725:=0
def tw6582843927254868566:=0
def tw7603612870134238767:=0
def tw13758523514036821574:=0
def tw12707285892934621225:=0
def tw9056503969067851515:=0
def tw1158660104804294254:=0
def tw2236259865200458082:=0
def tw9857608895540143191:=0
def tw2804950010047374633:=0
def tw15138721280367780753:=0
def tw18406277236462948171:=0
def tw11443679604999703164:=0
def tw9483407393454269173:=0
def tw3027638077846041818:=0
def tw8965301360309746864:=0
def tw880212461211182308:=0
def tw17239324597562052578:=0
def tw8257110663591782491:=0
def tw610211828265426907:=0
def tw13341644377221745086:=0
def tw7826787199552019443:=0
def tw14744633537066387966:=0
def tw17124925522988711745:=0
def tw9103656506781764693:=0
def tw9505948922661110101:=0
def tw16311948425668595516:=0
def tw17616778183989558408:=0
def tw10233142356455856072:=0
def tw8240874708740030447:=0
def tw6804584283681384818:=0
def tw1136123027056454472:=0
def tw17724683692774674310:=0
def tw9135601291540319103:=0
def tw6966158559873415811:=0
def tw11262469815561905091:=0
def tw15381313178345329419:=0
def tw4962986290023823691:=0
def tw2949687213971418342:=0
def tw7227563553700600467:=0
def tw3614719533971180840:=0
def tw1906226578867620544:=0
def tw18327244680604283911:=0
def tw12451808419220343006:=0
def tw1596419480223075808:=0
def tw5218638650436388034:=0
def tw17816107046252373755:=0
def tw15407679746532061367:=0
def tw10926741795974616705:=0
def tw16802336966650799135:=0
def tw7648720487783787903:=0
def tw15770364711839747632:=0
def tw7652003796173034806:=0
def tw13443431623952989442:=0
def tw4161805610475261800:=0
def tw7107674987978303016:=0
def tw1793533298603327630:=0
def tw16631723206851549329:=0
def tw2315500475187094361:=0
def tw1507194120150823905:=0
def tw3498998282665254807:=0
def tw15430210385052580284:=0
def tw1041457463633714733:=0
def tw6705571392864606805:=0
def tw5867040829848808290:=0
def tw17851669860122384570:=0
def tw11239737830982030262:=0
def tw15178805451829062439:=0
def tw7187322415184661256:=0
def tw5120083351872390862:=0
def tw4624344696887585803:=0
def tw12161791514797373157:=0
def tw16728558284576464619:=0
def tw2138808391040488036:=0
def tw15358833944358504329:=0
def tw7349421759245296173:=0
def tw25240247752829737:=0
def tw586904661103229142:=0
def tw12385014739356784936:=0
def tw16086465498054992815:=0
def tw14215278910984414513:=0
def tw5925329291346511783:=0
def tw11362090654902633247:=0
def tw9845947760221504162:=0
def tw8881485832957032229:=0
def tw8333245448502366744:=0
def tw6402481328457861535:=0
def tw11915872420713985484:=0
def tw16676634227149185315:=0
def tw9305712928352206806:=0
def tw1962645697504090840:=0
def tw12889056033423229396:=0
def tw18165853709723420278:=0
def tw8313309351636793072:=0
end PySem.W.Fast
open PySem PySem.W PyProof.Rows
set_option maxRecDepth 100000 in
set_option maxHeartbeats 0 in
theorem PySem.Challenge.cw_guessroom_k26_whole_suite_is_enough_holds : PySem.Challenge.rw_guessroom_k26_whole_suite_is_enough.Holds := by
  w_on; o_law; k_head; (case hw => w_witness2)
  k_fill
  refine Mine.walk (l := PySem.Challenge.rw_guessroom_k26_whole_suite_is_enough) rfl rfl (fun w h Y => PySem.W.km_in_of Y) ?F
  case F =>
    intro w mg fa h Y KX G hmg
    refine' Mine.all_mk KX G hmg ?a_jt ?l_jt ?c_jt ?k_jt ?a_jh ?l_jh ?c_jh ?k_jh ?a_jm ?l_jm ?c_jm ?k_jm ?a_jq ?l_jq ?c_jq ?k_jq ?a_jy ?l_jy ?c_jy ?k_jy ?a_jf ?l_jf ?c_jf ?k_jf ?a_jg ?l_jg ?c_jg ?k_jg ?a_jr ?l_jr ?c_jr ?k_jr ?a_ju ?l_ju ?c_ju ?k_ju ?a_jv ?l_jv ?c_jv ?k_jv ?a_js ?l_js ?c_js ?k_js ?a_j1 ?l_j1 ?c_j1 ?k_j1 ?a_jw ?l_jw ?c_jw ?k_jw ?a_ji ?l_ji ?c_ji ?k_ji ?a_jz ?l_jz ?c_jz ?k_jz ?a_j10 ?l_j10 ?c_j10 ?k_j10 ?a_j0 ?l_j0 ?lc_in_order ?hx_in_order ?kt_in_order ?ch_in_order ?tb_in_order ?c_j0 ?k_j0 ?a_jj ?l_jj ?c_jj ?k_jj ?a_j11 ?l_j11 ?c_j11 ?k_j11 ?a_jn ?l_jn ?c_jn ?k_jn ?a_j7 ?l_j7 ?c_j7 ?k_j7 ?a_jx ?l_jx ?c_jx ?k_jx ?a_j8 ?l_j8 ?c_j8 ?k_j8 ?a_jk ?l_jk ?c_jk ?k_jk ?a_j3 ?l_j3 ?c_j3 ?k_j3 ?a_j9 ?l_j9 ?c_j9 ?k_j9 ?a_jl ?l_jl ?c_jl ?k_jl ?a_j4 ?l_j4 ?c_j4 ?k_j4 ?a_ja ?l_ja ?c_ja ?k_ja ?a_j5 ?l_j5 ?c_j5 ?k_j5 ?a_jb ?l_jb ?c_jb ?k_jb ?a_j2 ?l_j2 ?c_j2 ?k_j2 ?a_jc ?l_jc ?c_jc ?k_jc ?a_jo ?l_jo ?c_jo ?k_jo ?a_j6 ?l_j6 ?c_j6 ?k_j6 ?a_jd ?l_jd ?c_jd ?k_jd ?a_je ?l_je ?c_je ?k_je ?a_jp ?l_jp ?c_jp ?k_jp ?a_j12 ?l_j12 ?c_j12 ?k_j12 ?z_all ?z_bool ?z_enumerate ?z_int ?z_isinstance ?z_len ?z_list ?z_max ?z_min ?z_range ?z_sorted ?z_tuple ?z_zip
    (case a_jt|l_jt|c_jt|k_jt|a_jh|l_jh|c_jh|k_jh|a_jm|l_jm|c_jm|k_jm|a_jq|l_jq|c_jq|k_jq|a_jy|l_jy|c_jy|k_jy|a_jf|l_jf|c_jf|k_jf|a_jg|l_jg|c_jg|k_jg|a_jr|l_jr|c_jr|k_jr|a_ju|l_ju|c_ju|k_ju|a_jv|l_jv|c_jv|k_jv=>k_is)
    (case a_js|l_js|c_js|k_js|a_j1|l_j1|c_j1|k_j1|a_jw|l_jw|c_jw|k_jw|a_ji|l_ji|c_ji|k_ji|a_jz|l_jz|c_jz|k_jz|a_j10|l_j10|c_j10|k_j10|a_j0|l_j0|lc_in_order|c_j0|k_j0|a_jj|l_jj|c_jj|k_jj|a_j11|l_j11|c_j11|k_j11|a_jn|l_jn|c_jn=>k_is)
    (case k_jn|a_j7|l_j7|c_j7|k_j7|a_jx|l_jx|c_jx|k_jx|a_j8|l_j8|c_j8|k_j8|a_jk|l_jk|c_jk|k_jk|a_j3|l_j3|c_j3|k_j3|a_j9|l_j9|c_j9|k_j9|a_jl|l_jl|c_jl|k_jl|a_j4|l_j4|c_j4|k_j4|a_ja|l_ja|c_ja|k_ja|a_j5|l_j5|c_j5=>k_is)
    (case k_j5|a_jb|l_jb|c_jb|k_jb|a_j2|l_j2|c_j2|k_j2|a_jc|l_jc|c_jc|k_jc|a_jo|l_jo|c_jo|k_jo|a_j6|l_j6|c_j6|k_j6|a_jd|l_jd|c_jd|k_jd|a_je|l_je|c_je|k_je|a_jp|l_jp|c_jp|k_jp|a_j12|l_j12|c_j12|k_j12|z_all|z_bool|z_enumerate=>k_is)
    (case z_int|z_isinstance|z_len|z_list|z_max|z_min|z_range|z_sorted|z_tuple|z_zip=>k_is)
    (case hx_in_order => exact rfl)
    (case kt_in_order => first | k_is | kernel_rfl | exact rfl)
    (case ch_in_order => first | k_is | kernel_rfl)
    (case tb_in_order => exact PySem.W.km_tabs_of Y _ (.head _))
