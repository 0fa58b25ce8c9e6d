import PyProof.Rows.All
import Wide.All
import OpenK.AllK
import Wide.FinOn
import Lean
import PyProof.EqAt
import PyProof.EqKinds
import PyProof.TupleCall
import KE.KRevIter
import PyProof.ListRange
import PyProof.TupleOfGen
import PyProof.Draws
import PyProof.EnumMake
import PyProof.EnumFor
import PyProof.NeKinds
import KE.KDictList
import PyProof.Rows.TupDisplay
import PyProof.ZipIter
import PyProof.Rows.ZipGen
import KE.KItemsList
import PyProof.Rows.SumAny
import PyProof.StrWalks
import PyProof.StrCalls
import PyProof.StrCalls3
import PyProof.StrLawsFirst
import PyProof.StrLawsIn
import PyProof.SliceStr2
import PyProof.StrBlockI
import PyProof.Rows.StrWeight2
import PyProof.ListNew
import PyProof.DictRoadsH
import PyProof.WalkInts
import PyProof.Rows.MinMaxN
import KE.KDictLaws
import PyProof.StrCalls2
import PyProof.StrLawsChain
import KE.KIntText
import KE.KxText
import KE.KMinKey
import KE.KPairComp
import PyProof.MaxThree
import PyProof.DictWalks
import OpenK.KCls
import PyProof.Rows.SortShellK
import KE.KSortTup
import KE.KLam
import KE.KNestM
import PySem.Challenge.RW_guessroom_k31_suites_of_alike_houses
namespace Al
abbrev ja_:=@List.length_map
abbrev jb_:=@PySem.wpAny_bind
abbrev jc_:=@List.getElem?_eq_some_iff
abbrev jd_:=@List.getD_eq_getElem?_getD
abbrev je_:=@List.getElem?_map
abbrev jf_:=@PySem.Heap.get?_push_of_some
abbrev jg_:=@List.mem_of_getElem?
abbrev jh_:=@Int.toNat_natCast
abbrev ji_:=@List.getElem?_eq_getElem
abbrev jj_:=@List.size_toArray
abbrev jk_:=@List.getElem?_append_left
abbrev jl_:=@Nat.le_refl
abbrev jm_:=@PySem.wpAny_pure
abbrev jn_:=@PySem.Heap.lt_size
abbrev jo_:=@List.mem_cons_self
abbrev jp_:=@Bool.false_ne_true
abbrev jq_:=@List.length_append
abbrev jr_:=@List.mem_cons_of_mem
abbrev js_:=@Option.some.inj
abbrev jt_:=@List.getElem?_append_right
abbrev ju_:=@List.mem_singleton
abbrev jv_:=@List.mem_map
abbrev jw_:=@PyProof.Rows.wpS_bind
abbrev jx_:=@List.length_take
abbrev jy_:=@PySem.Heap.get?_push_size
abbrev jz_:=@PySem.F.plainAttrs_list
abbrev jA_:=@List.getElem?_eq_none
abbrev jB_:=@List.mem_append
abbrev jC_:=@List.mem_cons
abbrev jD_:=@List.mem_append_right
abbrev jE_:=@PyProof.Rows.wpS_pure
abbrev jF_:=@Nat.lt_of_lt_of_le
abbrev jG_:=@PySem.W.mg_of
abbrev jH_:=@PySem.F.slot_list_append
abbrev jI_:=@PySem.F.type_list_append
abbrev jJ_:=@congrArg
abbrev jK_:=@List.mem_iff_getElem?
abbrev jL_:=@PySem.boot_len
abbrev jM_:=@Nat.ne_of_lt
abbrev jN_:=@Bool.false_eq_true
abbrev jO_:=@PySem.PassesOwn.never
abbrev jP_:=@List.take_add_one
abbrev jQ_:=@List.map_map
abbrev jR_:=@List.map_append
abbrev jS_:=@PyProof.Rows.boot_tuple
abbrev jT_:=@List.length_cons
abbrev jU_:=@List.take_length
abbrev jV_:=@List.map_cons
abbrev jW_:=@List.mem_range
abbrev jX_:=@List.take_of_length_le
abbrev jY_:=@List.getElem_of_mem
abbrev jZ_:=@Array.length_toList
abbrev j0_:=@Nat.zero_le
abbrev j1_:=@PySem.wpAny_loadPart'
abbrev j2_:=@PySem.wpAny_callSpecial?_slot
abbrev j3_:=@List.length_singleton
abbrev j4_:=@List.getElem_mem
abbrev j5_:=@PySem.wpAny_field
abbrev j6_:=@Ne.symm
abbrev j7_:=@PyProof.Rows.callWith_type1
abbrev j8_:=@List.replicate_succ
abbrev j9_:=@PySem.Heap.get?_update_other
abbrev qa_:=@Nat.ne_of_gt
abbrev qb_:=@List.mem_append_left
abbrev qc_:=@List.ext_getElem?
abbrev qd_:=@List.map_congr_left
abbrev qe_:=@decide_eq_false
abbrev qf_:=@List.length_nil
abbrev qg_:=@PySem.wpAny_newObj_type
abbrev qh_:=@decide_eq_true_eq
abbrev qi_:=@PyProof.Rows.KeyOrd.kle_of_klt
abbrev qj_:=@decide_eq_true
abbrev qk_:=@Option.toList_some
abbrev ql_:=@List.length_replicate
abbrev qm_:=@Nat.lt_irrefl
abbrev qn_:=@Bool.eq_iff_iff
abbrev qo_:=@PySem.wpAny_call_entry
abbrev qp_:=@List.foldl_append
abbrev qq_:=@Array.getElem?_eq_getElem
abbrev qr_:=@List.drop_eq_nil_of_le
abbrev qs_:=@PySem.W.mg_none_of
abbrev qt_:=@PySem.Heap.get?_update_self
abbrev qu_:=@List.getElem?_range
abbrev qv_:=@List.idxOf_lt_length_of_mem
abbrev qw_:=@PyProof.Rows.wpS_forRange
abbrev qx_:=@PyProof.Rows.KeyOrd.kle_refl
abbrev qy_:=@Bool.and_eq_true
abbrev qz_:=@PySem.wpAny_seqItems
abbrev qA_:=@List.append_assoc
abbrev qB_:=@of_decide_eq_true
abbrev qC_:=@Iff.rfl
abbrev qD_:=@Int.emod_lt_of_pos
abbrev qE_:=@PySem.wpAny_mono
abbrev qF_:=@List.length_pos_of_mem
abbrev qG_:=@List.nodup_cons
abbrev qH_:=@PySem.Heap.size_push
abbrev qI_:=@List.getElem?_zip_eq_some
abbrev qJ_:=@Classical.byContradiction
abbrev qK_:=@PySem.mem_of_lookup
abbrev qL_:=@Array.toList_append
abbrev qM_:=@Nat.le_trans
abbrev qN_:=@Nat.lt_or_ge
abbrev qO_:=@List.length_range
abbrev qP_:=@if_false
abbrev qQ_:=@PySem.F.slot_dict_keyiterator_next
abbrev qR_:=@PySem.wpAny_holding
abbrev qS_:=@List.append_nil
abbrev qT_:=@List.foldl_cons
abbrev qU_:=@List.getElem_idxOf
abbrev qV_:=@List.pairwise_append
abbrev qW_:=@List.lookup_cons
abbrev qX_:=@PySem.F.slot_tuple_iterator_next
abbrev qY_:=@List.getElem?_set_self
abbrev qZ_:=@List.reverse_append
abbrev q0_:=@List.drop_eq_getElem_cons
abbrev q1_:=@Int.mul_le_mul_of_nonneg_right
abbrev q2_:=@Nat.sub_self
abbrev q3_:=@Int.emod_nonneg
abbrev q4_:=@List.take_append_drop
abbrev q5_:=@List.pairwise_reverse
abbrev q6_:=@List.length_erase_of_mem
abbrev q7_:=@PySem.wpAny_setField_rec
abbrev q8_:=@List.length_drop
abbrev q9_:=@PySem.wpAny_typeNameOfWhole_keyiter
abbrev xa_:=@PyProof.Rows.KeyOrd.kle_trans
abbrev xb_:=@List.mem_of_mem_take
abbrev xc_:=@List.find?_cons
abbrev xd_:=@PySem.Heap.SameBut.update
abbrev xe_:=@List.mem_map_of_mem
abbrev xf_:=@PyProof.Rows.boot_list
abbrev xg_:=@PySem.F.slot_tuple_iterator_next
abbrev xh_:=@List.all_eq_true
abbrev xi_:=@List.mem_reverse
abbrev xj_:=@Nat.le_add_right
abbrev xk_:=@PySem.wpAny_pyIter_tuple
abbrev xl_:=@PySem.Calls.spliced_cons
abbrev xm_:=@PySem.wpAny_Call_Name_kw
abbrev xn_:=@PySem.Obj.data_mapFields
abbrev xo_:=@Array.getElem?_toList
abbrev xp_:=@List.getElem?_eq_none_iff
abbrev xq_:=@PySem.F.plain_extend_loop
abbrev xr_:=@List.mem_of_find?_eq_some
abbrev xs_:=@List.pairwise_iff_getElem
abbrev xt_:=@List.getElem?_set_ne
abbrev xu_:=@List.reverse_reverse
abbrev xv_:=@List.mem_erase_of_ne
abbrev xw_:=@List.mem_filter
abbrev xx_:=@PySem.wpAny_truthy_bool
abbrev xy_:=@PySem.wpAny_passesOwn
abbrev xz_:=@List.of_mem_zip
abbrev xA_:=@List.getElem?_take_of_lt
abbrev xB_:=@PyProof.Rows.slot_tuple_getitem
abbrev xC_:=@List.flatten_cons
abbrev xD_:=@PySem.call_meets
abbrev xE_:=@Nat.not_lt_zero
abbrev xF_:=@PySem.wpAny_typeNameOf_keyiter
abbrev xG_:=@List.cons.injEq
abbrev xH_:=@List.idxOf_lt_length_iff
abbrev xI_:=@Nat.lt_trans
abbrev xJ_:=@List.length_reverse
abbrev xK_:=@PySem.wpAny_attempt
abbrev xL_:=@Int.toNat_of_nonneg
abbrev xM_:=@PySem.Calls.callWith_builtin
abbrev xN_:=@of_decide_eq_false
abbrev xO_:=@List.map_nil
abbrev xP_:=@List.nil_append
abbrev xQ_:=@PySem.F.slot_zip_next
abbrev xR_:=@List.range_succ
abbrev xS_:=@List.length_filter_le
abbrev xT_:=@PySem.Calls.spliced_nil
abbrev xU_:=@List.pairwise_map
abbrev xV_:=@PyProof.Rows.wpS_mono
abbrev xW_:=@PySem.F.excBase_ValueError
abbrev xX_:=@Array.perm_iff_toList_perm
abbrev xY_:=@if_true
abbrev xZ_:=@PySem.Calls.evalArgs_plain
abbrev x0_:=@List.mem_iff_getElem
abbrev x1_:=@Array.toList_reverse
abbrev x2_:=@PySem.wpAny_setField
abbrev x3_:=@List.getElem_inj
abbrev x4_:=@List.cons_append
abbrev x5_:=@List.any_eq_true
abbrev x6_:=@List.not_mem_nil
abbrev x7_:=@PySem.F.args_tuple_add_2
abbrev x8_:=@PySem.F.args_tuple_iterator_next_1
abbrev x9_:=@List.getElem?_replicate
abbrev za_:=@PySem.F.entry_tuple_add
abbrev zb_:=@PySem.tupleKind_room_in1
abbrev zc_:=@List.forIn_cons
abbrev zd_:=@List.getElem?_cons_zero
abbrev ze_:=@PySem.F.entry_tuple_iterator_next
abbrev zf_:=@List.find?_eq_none
abbrev zg_:=@List.pairwise_cons
abbrev zh_:=@PyProof.Rows.KK_mirror_equal
abbrev zi_:=@List.set_cons_zero
abbrev zj_:=@List.map_replicate
abbrev zk_:=@List.length_eq_zero_iff
abbrev zl_:=@List.length_filter_eq_length_iff
abbrev zm_:=@PySem.W.cellsFrom_some
abbrev zn_:=@PySem.F.slot_tuple_add
abbrev zo_:=@List.reverse_replicate
abbrev zp_:=@PySem.wpAny_nextOf_list_item
abbrev zq_:=@PySem.wpAny_pyIter_list
abbrev zr_:=@Option.some.injEq
abbrev zs_:=@Nat.lt_succ_of_lt
abbrev zt_:=@Int.le_refl
abbrev zu_:=@PySem.wpAny_dictEntries
abbrev zv_:=@Nat.le_of_lt
abbrev zw_:=@PySem.F.slot_dict_get
abbrev zx_:=@PySem.Obj.isFreed_of_fields
abbrev zy_:=@PySem.wpAny_isOneOf_keyiter
abbrev zz_:=@Nat.zero_add
abbrev zA_:=@PySem.IsL.update
abbrev zB_:=@PySem.AutoSeq1.idx_int
abbrev zC_:=@PySem.F.slot_tuple_mul
abbrev zD_:=@PySem.wpAny_updateSeq_pair
abbrev zE_:=@List.any_cons
abbrev zF_:=@PySem.wpAny_rule
abbrev zG_:=@PyProof.Rows.wpS_modify
abbrev zH_:=@beq_eq_false_iff_ne
abbrev zI_:=@List.filterMap_cons
abbrev zJ_:=@PySem.wpAny_execs_nil
abbrev zK_:=@PySem.F.slot_int_rmul
abbrev zL_:=@PySem.wpAny_letGo
abbrev zM_:=@List.idxOf_cons
abbrev zN_:=@PySem.F.slot_zip_next
abbrev zO_:=@PySem.wpAny_updateSeq
abbrev zP_:=@List.length_zip
abbrev zQ_:=@List.toList_toArray
abbrev zR_:=@List.mem_filterMap
abbrev zS_:=@List.zip_cons_cons
abbrev zT_:=@Option.isSome_some
abbrev zU_:=@Int.le_of_lt
abbrev zV_:=@List.map_inj_right
abbrev zW_:=@List.forIn_nil
abbrev zX_:=@Bool.not_false
abbrev zY_:=@Bool.not_eq_true'
abbrev zZ_:=@List.nodup_append
abbrev z0_:=@Array.toList_push
abbrev z1_:=@List.idxOf_append
abbrev z2_:=@List.getElem_drop
abbrev z3_:=@Bool.not_true
abbrev z4_:=@Nat.not_lt
abbrev α0:=List (List (List Int))
abbrev α1:=List (List Int)
abbrev α2:=List Int
abbrev α3:=PySem.W.Frag
abbrev α5:=Option PySem.Value
abbrev α6:=PySem.FuncData
abbrev α7:=List (PySem.Addr×PySem.Obj)
end Al
open Al
open PySem.W (nsIn keepIn codeIn fnOf kitOne)
set_option Elab.async false
set_option linter.all false
set_option maxRecDepth 100000
namespace L2
open PySem PySem.Spec PyProof.Rows
abbrev Key:=Sum Int Str
def Pu:Key->Value->Bool
 | .inl k,v=>Value.isInt k v
 | .inr x,v=>Value.isStrOf x v
def keyH (w:World):Key->Int
 | .inl k=>hashInt k
 | .inr x=>hashStr w x
theorem BE:∀ {k:Key} {v:Value},Pu k v=true->(∃ i t,k=Sum.inl i/\v=Value.int i t)\/(∃ x t,k=Sum.inr x/\v=Value.str x t)
 | .inl i,v,h=>by
  obtain⟨t,e⟩:=Value.isInt_shape (k:=i) (v:=v) h
  exact .inl ⟨i,t,rfl,e⟩
 | .inr x,v,h=>by
  obtain⟨t,e⟩:=Value.isStrOf_shape (x:=x) (v:=v) h
  exact .inr ⟨x,t,rfl,e⟩
theorem Tr (i:Int)(t:Tok):Pu (.inl i) (.int i t)=true:=by simp[Pu,Value.isInt]
theorem Ts (x:Str)(t:Tok):Pu (.inr x) (.str x t)=true:=by simp[Pu,Value.isStrOf]
theorem Zu (a b:Int):decide ((Sum.inl a:Key)=Sum.inl b)=(a == b):=by
 by_cases e:a=b
 ·subst e;simp
 ·have h:¬ (Sum.inl a:Key)=Sum.inl b:=fun q=>e (Sum.inl.inj q)
  rw[qe_ h]
  exact (zH_.mpr e).symm
theorem Zv (a b:Str):decide ((Sum.inr a:Key)=Sum.inr b)=decide (a=b):=by
 by_cases e:a=b
 ·subst e;simp
 ·have h:¬ (Sum.inr a:Key)=Sum.inr b:=fun q=>e (Sum.inr.inj q)
  rw[qe_ h,qe_ e]
theorem Zw (a:Int)(b:Str):decide ((Sum.inl a:Key)=Sum.inr b)=false:=qe_ (fun q=>nomatch q)
theorem Zx (a:Str)(b:Int):decide ((Sum.inr a:Key)=Sum.inl b)=false:=qe_ (fun q=>nomatch q)
def BN (prog:Program)(w:World):PySem.KeyKind prog w Key where
 is:=Pu
 hash:=keyH w
 inj:=fun v a b ha hb=>by
  rcases BE ha with ⟨i,t,rfl,rfl⟩ | ⟨x,t,rfl,rfl⟩
  ·rcases BE hb with ⟨j,u,rfl,e⟩ | ⟨y,u,rfl,e⟩
   ·injection e with e1 _;rw[e1]
   ·exact nomatch e
  ·rcases BE hb with ⟨j,u,rfl,e⟩ | ⟨y,u,rfl,e⟩
   ·exact nomatch e
   ·injection e with e1 _;rw[e1]
 byValue:=fun k v h=>by
  rcases BE h with ⟨i,t,rfl,rfl⟩ | ⟨x,t,rfl,rfl⟩<;>rfl
 pyHash:=fun hv h=>by
  rcases BE hv with ⟨i,t,rfl,rfl⟩ | ⟨x,t,rfl,rfl⟩
  ·exact wpAny_pyHash_int h
  ·exact wpAny_pyHash_str h
 eqBool:=fun hu hv h=>by
  rcases BE hu with ⟨i,t,rfl,rfl⟩ | ⟨x,t,rfl,rfl⟩
  ·rcases BE hv with ⟨j,u,rfl,rfl⟩ | ⟨y,u,rfl,rfl⟩
   ·rw[Zu] at h;exact wpAny_eqBool_int h
   ·rw[Zw] at h;exact SeqAt.EqAt.int_str i t y u _ _ _ _ h
  ·rcases BE hv with ⟨j,u,rfl,rfl⟩ | ⟨y,u,rfl,rfl⟩
   ·rw[Zx] at h;exact SeqAt.EqAt.str_int x t j u _ _ _ _ h
   ·rw[Zv] at h;exact wpAny_eqBool_str h
 «strs» := fun k x t v h=>by
  rcases BE h with ⟨i,u,rfl,e⟩ | ⟨y,u,rfl,e⟩
  ·exact nomatch e
  ·injection e with e1 _
   subst e1
   cases v<;>rfl
theorem Px (prog:Program)(w:World)(i:Int)(t:Tok):(BN prog w).is (.inl i) (.int i t)=true:=Tr i t
theorem PD (prog:Program)(w:World)(x:Str)(t:Tok):(BN prog w).is (.inr x) (.str x t)=true:=Ts x t
inductive V where
 | non | bl (b:Bool) | int (i:Int) | str (x:Str) | byt (b:Array UInt8) | flt (b:UInt64) | ref (a:Addr) | ty (n:String)
 deriving DecidableEq
def RelV:V->Value->Prop
 | .non,u=>u=Value.none
 | .bl b,u=>u=Value.bool b
 | .int i,u=>∃ t,u=Value.int i t
 | .str x,u=>∃ t,u=Value.str x t
 | .byt b,u=>∃ t,u=Value.bytes b t
 | .flt b,u=>∃ t,u=Value.float b t
 | .ref a,u=>u=Value.ref a
 | .ty n,u=>u=Value.type n
abbrev Vals:List V->List Value->Prop:=Paired RelV
theorem Vals.length {xs:List V}{us:List Value}(r:Vals xs us):xs.length=us.length:=Paired.length r
theorem Vals.get:∀ {xs:List V} {us:List Value} {i:Nat} {x:V},Vals xs us->xs[i]?=some x->∃ u,us[i]?=some u/\RelV x u
 | _,_,_,_,.nil,e=>by simp at e
 | _,_,0,_,.cons r _,e=>by simp at e;subst e;exact⟨_,rfl,r⟩
 | _,_,i+1,x,.cons _ t,e=>by
  obtain⟨u,h1,h2⟩:=Vals.get (i:=i) (x:=x) t (by simpa using e)
  exact⟨u,by simpa using h1,h2⟩
theorem Vals.set {x:V}{u:Value}(r:RelV x u):∀ {xs:List V} {us:List Value} (i:Nat),Vals xs us->Vals (xs.set i x) (us.set i u)
 | _,_,_,.nil=>.nil
 | _,_,0,.cons _ t=>.cons r t
 | _,_,i+1,.cons q t=>.cons q (Vals.set r i t)
theorem Vals.append:∀ {xs ys:List V} {us ws:List Value},Vals xs us->Vals ys ws->Vals (xs++ys) (us++ws)
 | _,_,_,_,.nil,s=>s
 | _,_,_,_,.cons r t,s=>.cons r (Vals.append t s)
theorem Vals.take:∀ {xs:List V} {us:List Value} (n:Nat),Vals xs us->Vals (xs.take n) (us.take n)
 | _,_,0,_=>.nil
 | _,_,_+1,.nil=>.nil
 | _,_,n+1,.cons r t=>.cons r (Vals.take n t)
theorem Vals.drop:∀ {xs:List V} {us:List Value} (n:Nat),Vals xs us->Vals (xs.drop n) (us.drop n)
 | _,_,0,r=>r
 | _,_,_+1,.nil=>.nil
 | _,_,n+1,.cons _ t=>Vals.drop n t
def RelO:Option V->α5->Prop
 | some v,some u=>RelV v u
 | none,none=>True
 | _,_=>False
def KV {κ:Type}:List (κ×V)->List (κ×Value)->Prop:=Paired fun (p:κ×V) (q:κ×Value)=>p.1=q.1/\RelV p.2 q.2
def kV:Key->V
 | .inl i=>.int i
 | .inr x=>.str x
inductive HO where
 | lst (xs:List V)
 | tup (xs:List V)
 | dK (kvs:List (Key×V)) | dT (kvs:List (List Key×V))
 | set (S:Int->Bool) (n:Nat)
 | ins (C dx:Addr) (fs:List (Str×V))
 | own (x:Addr)
 | xd (fs:List (Str×V))
 | met (f x:Addr)
 | rng (lo hi:Int)
 | frz (o:Obj) (u:HO)
 | tbl (ps:Array Value)
 | ext (φ:Heap->Prop)
abbrev Hp:=Addr->Option HO
def upd (H:Hp)(a:Addr)(o:HO):Hp:=fun b=>if b=a then some o else H b
theorem Ab {H:Hp}{a:Addr}{o:HO}:upd H a o a=some o:=by unfold upd;rw[if_pos rfl]
theorem Ah {H:Hp}{a b:Addr}{o:HO}(h:b≠a):upd H a o b=H b:=by unfold upd;rw[if_neg h]
theorem Zy {H:Hp}{a b:Addr}{o u:HO}(h:H a=some o)(h':H b=some u)(d:o≠u):a≠b:=by
 intro e;subst e;rw[h] at h';exact d (js_ h')
theorem Al {H:Hp}{a b:Addr}{o:HO}(h:H a=some o)(h':H b=none):a≠b:=by
 intro e;subst e;rw[h] at h';cases h'
section
variable (P:Program) (w:World)
def CF (H:Hp)(h:Heap)(a:Addr):HO->Prop
 | .lst xs=>xs.length<=sizeLine/\∃ (its:List Value) (n:Nat),Vals xs its/\h.get? a=some {cls:=.type "list",data:=.seq its.toArray n}
 | .tup xs=>xs.length<=sizeLine/\∃ its:List Value,Vals xs its/\IsTup h a its.toArray
 | .dK kvs=>kvs.length<=sizeLine/\(a == sysModules)=false/\∃ vs,KV kvs vs/\h.DictOf (BN P w) a vs
 | .dT kvs=>kvs.length<=sizeLine/\(a == sysModules)=false/\∃ xs:List (List Key×Addr×Value),
   Paired (fun (p:List Key×V) (q:List Key×Addr×Value)=>p.1=q.1/\H q.2.1=some (.tup (p.1.map kV))/\RelV p.2 q.2.2) kvs xs /\
   ∃ o es ep,h.get? a=some o/\o.ExactDict/\o.data=.dict es ep/\es.toList=xs.map (entryOfKey (tupleKind (BN P w)))/\(xs.map (·.1)).Nodup
 | .set S n=>h.SetOf (intKind P w) a S n
 | .ins C dx fs=>H dx=some (.own a)/\fs.length<=1000/\dx≠a/\h.get? a=some (PySem.W.instObj C dx) /\
   ∃ mA,h.Ns1 dx mA/\(∀ f,RelO (fs.lookup f) (mA f))/\PySem.Within mA (fs.map (·.1))
 | .own _=>∃ o,h.get? a=some o
 | .xd fs=>∃ mA,h.Ns1 a mA/\∀ f,RelO (fs.lookup f) (mA f)
 | .rng lo hi=>∃ t u v,h.get? a=some {cls:=.type "range",data:=.fields #[.int lo t,.int hi u,.int 1 v]}
 | .frz o u=>h.get? a=some o/\CF H h a u
 | .tbl ps=>h.get? a=some {cls:=.none,data:=.fields ps}
 | .met f x=>h.get? a=some (PySem.W.methodObj (.ref f) (.ref x))
 | .ext φ=>φ h/\(∃ o,h.get? a=some o)/\∀ h1 h2:Heap,φ h1->(∀ o,h1.get? a=some o->h2.get? a=some o)->φ h2
def HOk (H:Hp)(h:Heap):Prop:=∀ a o,H a=some o->CF P w H h a o
end
section
variable {P:Program} {w:World} {H H':Hp} {h h':Heap} {a:Addr} {o:HO}
theorem CF.lt (x:CF P w H h a o):a<h.objs.size:=by
 cases o with
 | lst xs=>obtain⟨_,_,_,_,e⟩:=x;exact jn_ e
 | tup xs=>obtain⟨_,_,_,p⟩:=x;exact p.lt
 | dK kvs=>obtain⟨_,_,_,_,o,_,_,e,_⟩:=x;exact jn_ e
 | dT kvs=>obtain⟨_,_,_,_,o,_,_,e,_⟩:=x;exact jn_ e
 | set S n=>obtain⟨o,_,_,_,e,_⟩:=x;exact jn_ e
 | ins C dx fs=>obtain⟨_,_,_,e,_⟩:=x;exact jn_ e
 | own y=>obtain⟨_,e⟩:=x;exact jn_ e
 | xd fs=>obtain⟨_,⟨_,_,_,e,_⟩,_⟩:=x;exact jn_ e
 | rng lo hi=>obtain⟨_,_,_,e⟩:=x;exact jn_ e
 | frz ob u=>obtain⟨e,_⟩:=x;exact jn_ e
 | tbl ps=>exact jn_ (show h.get? a=some _ from x)
 | met f y=>exact jn_ (show h.get? a=some _ from x)
 | ext φ=>obtain⟨_,⟨_,e⟩,_⟩:=x;exact jn_ e
theorem Paired.mapP {α β:Type}{F G:α->β->Prop}:∀ {l₁:List α} {l₂:List β},Paired F l₁ l₂->(∀ a b,F a b->G a b)->Paired G l₁ l₂
 | _,_,.nil,_=>.nil
 | _,_,.cons r t,f=>.cons (f _ _ r) (Paired.mapP t f)
theorem CF.stay (x:CF P w H h a o)(k:∀ b u,(b=a\/H b=some (.own a))->h.get? b=some u->h'.get? b=some u)
  (ho:∀ b,H b=some (.own a)->H' b=some (.own a)) (ht:∀ b xs,H b=some (.tup xs)->H' b=some (.tup xs)):CF P w H' h' a o:=by
 induction o with
 | lst xs=>obtain⟨z,its,n,r,e⟩:=x;exact⟨z,its,n,r,k _ _ (.inl rfl) e⟩
 | tup xs=>obtain⟨z,its,r,ob,e,c⟩:=x;exact⟨z,its,r,ob,k _ _ (.inl rfl) e,c⟩
 | dK kvs=>obtain⟨z,y,vs,r,ob,es,ep,e,c⟩:=x;exact⟨z,y,vs,r,ob,es,ep,k _ _ (.inl rfl) e,c⟩
 | dT kvs =>
  obtain⟨z,y,xs,r,ob,es,ep,e,c⟩:=x
  exact⟨z,y,xs,Paired.mapP r fun p q z=>⟨z.1,ht _ _ z.2.1,z.2.2⟩,ob,es,ep,k _ _ (.inl rfl) e,c⟩
 | set S n=>obtain⟨ob,es,ep,t,e,c⟩:=x;exact⟨ob,es,ep,t,k _ _ (.inl rfl) e,c⟩
 | ins C dx fs =>
  obtain⟨d,z,ne,e,mA,⟨od,es,ep,e2,c⟩,r⟩:=x
  exact⟨ho _ d,z,ne,k _ _ (.inl rfl) e,mA,⟨od,es,ep,k _ _ (.inr d) e2,c⟩,r⟩
 | own y=>obtain⟨ob,e⟩:=x;exact⟨ob,k _ _ (.inl rfl) e⟩
 | xd fs=>obtain⟨mA,⟨od,es,ep,e,c⟩,r⟩:=x;exact⟨mA,⟨od,es,ep,k _ _ (.inl rfl) e,c⟩,r⟩
 | rng lo hi=>obtain⟨t,u,v,e⟩:=x;exact⟨t,u,v,k _ _ (.inl rfl) e⟩
 | frz ob u ih=>obtain⟨e,q⟩:=x;exact⟨k _ _ (.inl rfl) e,ih q⟩
 | tbl ps =>
  have e:h.get? a=some {cls:=.none,data:=.fields ps}:=x
  show h'.get? a=some {cls:=.none,data:=.fields ps}
  exact k a _ (.inl rfl) e
 | met f y =>
  have e:h.get? a=some (PySem.W.methodObj (.ref f) (.ref y)):=x
  show h'.get? a=some (PySem.W.methodObj (.ref f) (.ref y))
  exact k a _ (.inl rfl) e
 | ext φ=>obtain⟨p,⟨o,e⟩,st⟩:=x;exact⟨st _ _ p fun o q=>k _ _ (.inl rfl) q,⟨o,k _ _ (.inl rfl) e⟩,st⟩
theorem HOk.lt (x:HOk P w H h)(e:H a=some o):a<h.objs.size:=(x a o e).lt
theorem HOk.fresh (x:HOk P w H h)(e:h.objs.size<=a):H a=none:=by
 cases q:H a with
 | none=>rfl
 | some u=>exact absurd (jF_ (x.lt q) e) (qm_ _)
theorem HOk.kept (x:HOk P w H h)(k:∀ b u,h.get? b=some u->h'.get? b=some u):HOk P w H h':=fun a o e =>
 (x a o e).stay (fun b u _ q=>k b u q) (fun _ q=>q) fun _ _ q=>q
theorem HOk.laid (x:HOk P w H h)(k:∀ b u,h.get? b=some u->h'.get? b=some u)(hp:h.objs.size<=a)(new:CF P w (upd H a o) h' a o):HOk P w (upd H a o) h':=fun b u e=>by
 have hn:=x.fresh hp
 by_cases hb:b=a
 ·subst hb;rw[Ab] at e;cases e;exact new
 ·rw[Ah hb] at e
  exact (x b u e).stay (fun c v _ q=>k c v q) (fun c q=>by rw[Ah (Al q hn)];exact q) fun c xs q=>by rw[Ah (Al q hn)];exact q
end
def Rd (H:Hp)(a:Addr)(u:HO):Prop:=H a=some u \/ ∃ o,H a=some (.frz o u)
theorem Rd.ok {P:Program}{w:World}{H:Hp}{h:Heap}{a:Addr}{u:HO}(r:Rd H a u)(x:HOk P w H h):CF P w H h a u:=by
 rcases r with r | ⟨o,r⟩
 ·exact x a u r
 ·obtain⟨_,q⟩:=x a _ r
  exact q
def Mut:Option HO->Prop
 | some (.lst _)=>True
 | some (.dK _)=>True
 | some (.dT _)=>True
 | some (.set _ _)=>True
 | some (.ins _ _ _)=>True
 | some (.ext _)=>True
 | _=>False
section
variable {P:Program} {w:World} {H:Hp} {h h':Heap} {x e:Addr} {o':HO}
theorem HOk.write (ok:HOk P w H h)(mu:Mut (H x))(he:e=x\/H e=some (.own x))(k:∀ b u,b≠e->h.get? b=some u->h'.get? b=some u)(heo:∃ u,h'.get? e=some u)
  (new:CF P w (upd H x o') h' x o'):HOk P w (upd H x o') h':=fun b u q=>by
 have nown:∀ c y,H c=some (.own y)->c≠x:=fun c y r z=>by subst z;rw[r] at mu;exact mu
 have ntup:∀ c xs,H c=some (.tup xs)->c≠x:=fun c xs r z=>by subst z;rw[r] at mu;exact mu
 by_cases hb:b=x
 ·subst hb;rw[Ab] at q;cases q;exact new
 ·rw[Ah hb] at q
  by_cases hbe:b=e
  ·have q':H b=some (.own x):=by
    rcases he with z | z
    ·exact absurd (hbe.trans z) hb
    ·rw[hbe];exact z
   rw[q] at q';cases q'
   obtain⟨v,hv⟩:=heo
   exact⟨v,by rw[hbe];exact hv⟩
  ·refine (ok b u q).stay (fun c v hc r=>k c v ?_ r) (fun c r=>by rw[Ah (nown c b r)];exact r) fun c xs r=>by rw[Ah (ntup c xs r)];exact r
   rcases hc with rfl | hc
   ·exact hbe
   ·rintro rfl
    rcases he with z | z
    ·exact nown c b hc z
    ·rw[hc] at z;cases z;exact hb rfl
end
structure Un (fs ex:List Addr)(H H':Hp)(h h':Heap):Prop where
 keep:∀ b o,h.get? b=some o->H b=none->b∉fs->b∉ex->h'.get? b=some o
 slot:∀ b o,h.get? b=some o->H b=none->b∈fs->b∉ex->∃ sl,h'.get? b=some {o with slots:=sl}
 free:∀ b o,h.get? b=some o->H b=none->b∉ex->H' b=none
 there:∀ b o,h.get? b=some o->b∉ex->∃ o',h'.get? b=some o'
 tups:∀ b xs,H b=some (.tup xs)->H' b=some (.tup xs)
 frzs:∀ b o u,H b=some (.frz o u)->H' b=some (.frz o u)
 tbls:∀ b ps,H b=some (.tbl ps)->∃ more,H' b=some (.tbl (ps++more))
section
variable {fs fs' ex ex':List Addr} {H H1 H2:Hp} {h h1 h2 h':Heap} {a x e:Addr} {o:HO}
theorem Un.any (u:Un fs ex H H1 h h1){b:Addr}{ob:Obj}(q:h.get? b=some ob)(n:H b=none)(hx:b∉ex):∃ sl,h1.get? b=some {ob with slots:=sl}:=by
 by_cases hb:b∈fs
 ·exact u.slot b ob q n hb hx
 ·exact⟨ob.slots,u.keep b ob q n hb hx⟩
theorem Un.kept (k:∀ b u,h.get? b=some u->h'.get? b=some u):Un fs ex H H h h' :=
 ⟨fun b ob q _ _ _=>k b ob q,fun b ob q _ _ _=>⟨ob.slots,k b ob q⟩,fun _ _ _ n _=>n,fun b ob q _=>⟨ob,k b ob q⟩,fun _ _ q=>q,fun _ _ _ q=>q,fun _ ps q=>⟨#[],by rw[q];simp⟩⟩
theorem Un.refl:Un fs ex H H h h:=Un.kept fun _ _ q=>q
theorem Un.laid (k:∀ b u,h.get? b=some u->h'.get? b=some u)(hp:h.objs.size<=a)(hn:H a=none):Un fs ex H (upd H a o) h h' where
 keep:=fun b u q _ _ _=>k b u q
 slot:=fun b u q _ _ _=>⟨u.slots,k b u q⟩
 free:=fun b u q n _=>by rw[Ah (jM_ (jF_ (jn_ q) hp))];exact n
 there:=fun b u q _=>⟨u,k b u q⟩
 tups:=fun b xs q=>by rw[Ah (Al q hn)];exact q
 frzs:=fun b u xs q=>by rw[Ah (Al q hn)];exact q
 tbls:=fun b ps q=>⟨#[],by rw[Ah (Al q hn),q];simp⟩
theorem Un.write (mu:Mut (H x))(he:e=x\/H e=some (.own x))(k:∀ b u,b≠e->h.get? b=some u->h'.get? b=some u)(heo:∃ u,h'.get? e=some u):Un fs ex H (upd H x o) h h':=by
 have hx:∀ b,H b=none->b≠x:=fun b n z=>by subst z;rw[n] at mu;exact mu
 have hb:∀ b,H b=none->b≠e:=fun b n z=>by
  subst z
  rcases he with r | r
  ·exact hx b n r
  ·rw[n] at r;cases r
 have hm:∀ b u,H b=some u->¬ Mut (some u)->b≠x:=fun b u q nm z=>by subst z;rw[q] at mu;exact nm mu
 refine⟨fun b u q n _ _=>k b u (hb b n) q,fun b u q n _ _=>⟨u.slots,k b u (hb b n) q⟩,fun b u q n _=>by rw[Ah (hx b n)];exact n,fun b u q _=>?_,
  fun b xs q=>by rw[Ah (hm b _ q fun z=>z)];exact q,fun b u xs q=>by rw[Ah (hm b _ q fun z=>z)];exact q,fun b ps q=>⟨#[],by rw[Ah (hm b _ q fun z=>z),q];simp⟩⟩
 by_cases hbe:b=e
 ·subst hbe;exact heo
 ·exact⟨u,k b u hbe q⟩
end
def trk (h:Heap)(H:Hp):List Addr:=(List.range h.objs.size).filter fun a=>(H a).isSome
def hidT (h:Heap)(H:Hp):Heap:=PySem.W.hideAll h (trk h H)
theorem Tt (h:Heap)(H:Hp):(hidT h H).objs.size=h.objs.size:=PySem.W.hideAll_size _ _
theorem JS {h:Heap}{H:Hp}{b:Addr}{o:Obj}(e:h.get? b=some o)(n:H b=none):(hidT h H).get? b=some o :=
 PySem.W.hideAll_get _ e fun hm=>by
  have q:(H b).isSome=true:=(xw_.mp hm).2
  rw[n] at q;simp at q
theorem Yi {h:Heap}{H:Hp}{b:Addr}{o:Obj}(e:(hidT h H).get? b=some o):h.get? b=some o/\H b=none:=by
 have e':h.get? b=some o:=PySem.W.of_hideAll (trk h H) e
 refine⟨e',?_⟩
 cases q:H b with
 | none=>rfl
 | some x =>
  have hm:b∈trk h H:=xw_.mpr ⟨jW_.mpr (jn_ e'),by simp[q]⟩
  have z:(hidT h H).get? b=none:=PySem.W.hideAll_none (trk h H) hm
  rw[z] at e;cases e
def Yj (g h:Heap)(L:Addr):α7:=(List.range h.objs.size).filterMap fun a=>if a=L\/(g.get? a).isSome=true then none else (h.get? a).map fun o=>(a,o)
def rest (g h:Heap)(L d:Addr):α7:=(Yj g h L).filter fun p=>decide (p.1≠d)
end L2
namespace L2
open PySem PySem.Spec PyProof.Rows
structure Mod (K:α3)(mg:Str->α5)(base:Heap):Prop where
 kin:K.In base
 glob:base.Ns mainGlobals mg
 blt:∃ mb,base.Ns builtinsNs mb/\∀ x:Str,x ≠ "__name__" -> mb x=bootBuiltins x
 nolimit:base.NoLimit
structure Cx where
 prog:Program
 w:World
 K:α3
 mg:Str->α5
 base:Heap
 A:Around
 N:List Str
 s₀:Shared
 H₀:Hp
 env:Env
 outer:List Env
 stack:List Env
 ex:List Addr
 fn:Str->Bool
 calm:Bool
 pn:α7
 xe:Value->Shared->Prop
def frs (l:List Env):List Addr:=l.filterMap (·.frame)
abbrev Cx.fs (X:Cx):List Addr:=frs X.outer
def Vis (sc:Scope)(x:Str):Prop:=sc.names.lookup x=some .local\/sc.names.lookup x=some .cell\/sc.names.lookup x=some .free
def Loc (sc:Scope)(x:Str):Prop:=sc.names.lookup x=some .local\/sc.names.lookup x=some .cell
def Look (env:Env)(h:Heap)(m:Str->α5)(x:Str)(u:Value):Prop :=
 (env.kindOf x=some .local/\m x=some u)\/((env.kindOf x=some .cell\/env.kindOf x=some .free)/\∃ c,env.cells.lookup x=some c/\h.IsCell c (some u))
structure Cx.Ok (X:Cx):Prop where
 mod:Mod X.K X.mg X.base
 kind:X.env.scope.kind=.function
 glob:X.env.globals=mainGlobals
 blt:X.env.builtins=builtinsNs
 above:X.s₀.heap.objs.size<=X.env.locals
 inj:∀ x y c,X.env.cells.lookup x=some c->X.env.cells.lookup y=some c->x=y
 has:∀ x,(X.env.kindOf x=some .cell\/X.env.kindOf x=some .free)->∃ c,X.env.cells.lookup x=some c
 cab:∀ x c,X.fn x=true->X.env.cells.lookup x=some c->X.s₀.heap.objs.size<=c
 hd:X.calm=true->X.A.handled=none
 frames:X.A.frames=some X.stack
 stk:X.stack=X.outer\/(X.stack=X.env::X.outer/\X.env.frame=some X.env.locals)
 exf:∀ b∈X.ex,b≠X.env.locals/\∀ x c,X.env.cells.lookup x=some c->c≠b
 bs:∀ b o,X.base.get? b=some o->X.s₀.heap.get? b=some o/\X.H₀ b=none
 bsz:X.base.objs.size<=X.s₀.heap.objs.size
 noex:∀ b o,X.base.get? b=some o->b∉X.ex
 exfs:∀ b∈X.ex,b∉X.fs
 funs:X.s₀.heap.FunFrames X.base X.outer
 frf:∀ b∈X.fs,X.H₀ b=none
structure Inv (X:Cx)(pins:α7)(σ:List (Option V))(H:Hp)(s:Shared):Prop where
 ok:X.Ok
 os:s.os=X.s₀.os
 bare:AllBare s.gens
 base:Un X.fs X.ex X.H₀ H X.s₀.heap s.heap
 loc:∃ m,s.heap.Ns X.env.locals m/\∀ (i:Nat) (x:Str) (v:V),X.N[i]?=some x->σ[i]?=some (some v)->Vis X.env.scope x->∃ u,RelV v u/\Look X.env s.heap m x u
 cell:∀ x c,X.env.cells.lookup x=some c->∃ v,s.heap.IsCell c v
 free:H X.env.locals=none
 freeC:∀ x c,X.env.cells.lookup x=some c->H c=none
 pin:∀ p∈X.pn++pins,s.heap.get? p.1=some p.2/\H p.1=none/\p.1≠X.env.locals/\p.1∉X.fs/\∀ v,p.2.data ≠ .cell v
 hok:HOk X.prog X.w H s.heap
 len:σ.length=X.N.length
section
variable {X:Cx} {pins:α7} {σ:List (Option V)} {H H':Hp} {s:Shared} {h':Heap}
theorem Cx.Ok.nofr (ok:X.Ok){b:Addr}{o:Obj}(e:X.base.get? b=some o):b∉X.fs:=fun hb=>by
 have:=(ok.funs.mem hb).1
 rw[e] at this;cases this
theorem Inv.bs (I:Inv X pins σ H s):∀ b o,X.base.get? b=some o->s.heap.get? b=some o/\H b=none:=fun b o e =>
 ⟨I.base.keep b o (I.ok.bs b o e).1 (I.ok.bs b o e).2 (I.ok.nofr e) (I.ok.noex b o e),I.base.free b o (I.ok.bs b o e).1 (I.ok.bs b o e).2 (I.ok.noex b o e)⟩
theorem Inv.bk (I:Inv X pins σ H s):∀ b o,X.base.get? b=some o->s.heap.get? b=some o:=fun b o e=>(I.bs b o e).1
theorem Inv.mod (I:Inv X pins σ H s):Mod X.K X.mg X.base:=I.ok.mod
theorem Inv.kIn (I:Inv X pins σ H s):X.K.In s.heap:=I.ok.mod.kin.keeps I.bk
theorem Inv.lt (I:Inv X pins σ H s):X.env.locals<s.heap.objs.size:=let ⟨_,hn,_⟩:=I.loc;hn.lt
theorem Inv.sz (I:Inv X pins σ H s):X.s₀.heap.objs.size<=s.heap.objs.size:=qM_ I.ok.above (zv_ I.lt)
theorem Inv.nofs (I:Inv X pins σ H s){a:Addr}(h:s.heap.objs.size<=a):a∉X.fs:=fun hb=>by
 obtain⟨_,o,ho,_⟩:=I.ok.funs.mem hb
 exact absurd (jF_ (jn_ ho) (qM_ I.sz h)) (qm_ _)
theorem Inv.cne (I:Inv X pins σ H s):∀ x c,X.env.cells.lookup x=some c->c≠X.env.locals:=fun x c e z=>by
 obtain⟨v,o,ho,hd⟩:=I.cell x c e
 obtain⟨m,⟨o',es,ep,ho',hd',_⟩,_⟩:=I.loc
 rw[z,ho'] at ho;cases ho;rw[hd'] at hd;cases hd
theorem Inv.funs (I:Inv X pins σ H s):s.heap.FunFrames X.base X.outer:=by
 have all:∀ (l:List Env),(∀ b∈frs l,b∈X.fs)->X.s₀.heap.FunFrames X.base l->s.heap.FunFrames X.base l:=by
  intro l
  induction l with
  | nil=>intro _ _;trivial
  | cons env r ih =>
   intro hs hl
   obtain⟨hk,⟨L,o,hf,hn,ho,hd⟩,hr⟩:=hl
   have hL:L∈X.fs:=hs L (by unfold frs;rw[zI_,hf];exact jo_)
   obtain⟨sl,e⟩:=I.base.slot L o ho (I.ok.frf L hL) hL fun z=>I.ok.exfs L z hL
   exact⟨hk,⟨L,_,hf,hn,e,hd⟩,ih (fun b hb=>hs b (by unfold frs;rw[zI_,hf];exact jr_ _ hb)) hr⟩
 exact all X.outer (fun _ hb=>hb) I.ok.funs
theorem Inv.stack (I:Inv X pins σ H s):s.heap.FunFrames X.base X.stack:=by
 rcases I.ok.stk with e | ⟨e,hf⟩
 ·rw[e];exact I.funs
 ·rw[e]
  obtain⟨m,hn,_⟩:=I.loc
  refine .cons (by rw[I.ok.kind];decide) hf hn ?_ I.funs
  exact Heap.get?_none_of_le (qM_ I.ok.bsz I.ok.above)
theorem Inv.stkSub (I:Inv X pins σ H s):∀ b∈frs X.stack,b∈X.env.locals::X.fs:=fun b hb=>by
 rcases I.ok.stk with e | ⟨e,hf⟩
 ·rw[e] at hb;exact jr_ _ hb
 ·rw[e] at hb
  unfold frs at hb
  rw[zI_,hf] at hb
  exact hb
theorem Inv.stkFree (I:Inv X pins σ H s):∀ b∈frs X.stack,H b=none:=fun b hb=>by
 rcases jC_.mp (I.stkSub b hb) with e | hb
 ·rw[e];exact I.free
 ·obtain⟨_,o,ho,_⟩:=I.ok.funs.mem hb
  exact I.base.free b o ho (I.ok.frf b hb) fun z=>I.ok.exfs b z hb
theorem Inv.step {g':Array GenState}{t':Nat}{d':Drawn}{ch:List Addr}(I:Inv X pins σ H s)
  (hch:∀ b∈ch,(b∈X.ex\/X.s₀.heap.objs.size<=b)/\b≠X.env.locals/\(∀ x c,X.env.cells.lookup x=some c->c≠b)/\∀ p∈X.pn++pins,p.1≠b)
  (keep:∀ b o,b≠X.env.locals->b∉X.fs->b∉ch->s.heap.get? b=some o->H b=none->h'.get? b=some o)
  (slot:∀ b o,b≠X.env.locals->b∈X.fs->b∉ch->s.heap.get? b=some o->H b=none->∃ sl,h'.get? b=some {o with slots:=sl}) (free:∀ b o,b∉ch->s.heap.get? b=some o->H b=none->H' b=none)
  (there:∀ b o,b∉ch->s.heap.get? b=some o->∃ o',h'.get? b=some o')
  (tups:∀ b xs,H b=some (.tup xs)->H' b=some (.tup xs)) (frzs:∀ b o u,H b=some (.frz o u)->H' b=some (.frz o u)) (tbls:∀ b ps,H b=some (.tbl ps)->∃ more,H' b=some (.tbl (ps++more)))
  (ns:∀ m,s.heap.Ns X.env.locals m->h'.Ns X.env.locals m) (hok:HOk X.prog X.w H' h') (hg:AllBare g') :
  Inv X pins σ H' {s with heap:=h',gens:=g',drawn:=d',toks:=t' }:=by
 have neL:∀ b o,X.s₀.heap.get? b=some o->b≠X.env.locals:=fun b o e=>jM_ (jF_ (jn_ e) I.ok.above)
 have neC:∀ b o,X.s₀.heap.get? b=some o->b∉X.ex->b∉ch:=fun b o e hx hb=>by
  rcases (hch b hb).1 with z | z
  ·exact hx z
  ·exact absurd (jF_ (jn_ e) z) (qm_ _)
 have cellK:∀ x c,X.env.cells.lookup x=some c->∀ v,s.heap.IsCell c v->h'.IsCell c v:=fun x c e v ⟨o,ho,hd⟩=>by
  have nch:c∉ch:=fun z=>(hch c z).2.2.1 x c e rfl
  by_cases hc:c∈X.fs
  ·obtain⟨sl,q⟩:=slot c o (I.cne x c e) hc nch ho (I.freeC x c e)
   exact⟨_,q,hd⟩
  ·exact⟨o,keep c o (I.cne x c e) hc nch ho (I.freeC x c e),hd⟩
 refine⟨I.ok,I.os,hg,⟨fun b o e n hb hx=>?_,fun b o e n hb hx=>?_,fun b o e n hx=>?_,fun b o e hx=>?_,fun b xs e=>tups b xs (I.base.tups b xs e),fun b o xs e=>frzs b o xs (I.base.frzs b o xs e),fun b ps e=>?_⟩,?_,fun x c e=>?_,?_,fun x c e=>?_,fun p hp=>?_,hok,I.len⟩
 ·exact keep b o (neL b o e) hb (neC b o e hx) (I.base.keep b o e n hb hx) (I.base.free b o e n hx)
 ·obtain⟨sl,e1⟩:=I.base.slot b o e n hb hx
  obtain⟨sl',e2⟩:=slot b _ (neL b o e) hb (neC b o e hx) e1 (I.base.free b o e n hx)
  exact⟨sl',e2⟩
 ·obtain⟨o',e1⟩:=I.base.there b o e hx
  exact free b o' (neC b o e hx) e1 (I.base.free b o e n hx)
 ·obtain⟨o',e1⟩:=I.base.there b o e hx
  exact there b o' (neC b o e hx) e1
 ·obtain⟨m1,e1⟩:=I.base.tbls b ps e
  obtain⟨m2,e2⟩:=tbls b _ e1
  exact⟨m1++m2,by rw[e2,Array.append_assoc]⟩
 ·obtain⟨m,hn,hl⟩:=I.loc
  refine⟨m,ns m hn,fun i x v e1 e2 e3=>?_⟩
  obtain⟨u,r,l⟩:=hl i x v e1 e2 e3
  refine⟨u,r,?_⟩
  rcases l with l | ⟨k,c,e,z⟩
  ·exact .inl l
  ·exact .inr ⟨k,c,e,cellK x c e _ z⟩
 ·obtain⟨v,z⟩:=I.cell x c e
  exact⟨v,cellK x c e v z⟩
 ·obtain⟨m,⟨o,_,_,ho,_⟩,_⟩:=I.loc
  exact free _ o (fun z=>(hch _ z).2.1 rfl) ho I.free
 ·obtain⟨v,o,ho,hd⟩:=I.cell x c e
  exact free c o (fun z=>(hch c z).2.2.1 x c e rfl) ho (I.freeC x c e)
 ·obtain⟨e,n,ne,nf,d⟩:=I.pin p hp
  have nch:p.1∉ch:=fun z=>(hch p.1 z).2.2.2 p hp rfl
  exact⟨keep p.1 p.2 ne nf nch e n,free p.1 p.2 nch e n,ne,nf,d⟩
theorem Inv.un {t':Nat}(I:Inv X pins σ H s)(u:Un X.fs [] H H' s.heap h')(hok:HOk X.prog X.w H' h'):Inv X pins σ H' {s with heap:=h',toks:=t' }:=by
 obtain⟨m,⟨o,es,ep,ho,r⟩,_⟩:=id I.loc
 obtain⟨sl,hL⟩:=u.any ho I.free (by simp)
 exact I.step (g':=s.gens) (d':=s.drawn) (ch:=[]) (fun _ z=>nomatch z) (fun b o _ hb _ e n=>u.keep b o e n hb (by simp)) (fun b o _ hb _ e n=>u.slot b o e n hb (by simp)) (fun b o _ e n=>u.free b o e n (by simp)) (fun b o _ e=>u.there b o e (by simp)) u.tups u.frzs u.tbls (fun m' hm=>by
  obtain⟨o',es',ep',ho',r'⟩:=hm
  rw[ho] at ho';cases ho'
  exact⟨_,es',ep',hL,r'⟩) hok I.bare
theorem Inv.call {g':Array GenState}{t':Nat}{d':Drawn}{ch:List Addr}(I:Inv X pins σ H s)(u:Un (frs X.stack) ch H H' s.heap h')(hok:HOk X.prog X.w H' h')(hg:AllBare g')
  (hch:∀ b∈ch,(b∈X.ex\/X.s₀.heap.objs.size<=b)/\b≠X.env.locals/\(∀ x c,X.env.cells.lookup x=some c->c≠b)/\∀ p∈X.pn++pins,p.1≠b) :
  Inv X pins σ H' {s with heap:=h',gens:=g',drawn:=d',toks:=t' }:=by
 obtain⟨m,⟨o,es,ep,ho,r⟩,_⟩:=id I.loc
 obtain⟨sl,hL⟩:=u.any ho I.free fun z=>(hch _ z).2.1 rfl
 exact I.step (ch:=ch) hch (fun b o hL hb hc e n=>u.keep b o e n (fun z=>(jC_.mp (I.stkSub b z)).elim hL hb) hc) (fun b o _ _ hc e n=>u.any e n hc) (fun b o hc e n=>u.free b o e n hc) (fun b o hc e=>u.there b o e hc) u.tups u.frzs u.tbls (fun m' hm=>by
  obtain⟨o',es',ep',ho',r'⟩:=hm
  rw[ho] at ho';cases ho'
  exact⟨_,es',ep',hL,r'⟩) hok hg
theorem Inv.turned {t':Nat}{it:Addr}(I:Inv X pins σ H s)(k:∀ b o,b≠it->s.heap.get? b=some o->h'.get? b=some o)(hn:H it=none)(hL:it≠X.env.locals)
  (h1:it∈X.ex\/X.s₀.heap.objs.size<=it) (h2:∀ x c,X.env.cells.lookup x=some c->c≠it) (h3:∀ p∈X.pn++pins,p.1≠it):Inv X pins σ H {s with heap:=h',toks:=t' }:=by
 have nit:∀ b u,H b=some u->b≠it:=fun b u e z=>by rw[z,hn] at e;cases e
 refine I.step (g':=s.gens) (d':=s.drawn) (ch:=[it]) (fun b hb=>?_) (fun b o _ _ hc e _=>k b o (fun z=>hc (by simp[z])) e) (fun b o _ _ hc e _=>⟨o.slots,k b o (fun z=>hc (by simp[z])) e⟩) (fun _ _ _ _ n=>n)
  (fun b o hc e=>⟨o,k b o (fun z=>hc (by simp[z])) e⟩) (fun _ _ e=>e) (fun _ _ _ e=>e) (fun b ps e=>⟨#[],by rw[e];simp⟩) (fun m hm=>?_) (fun b u e=>?_) I.bare
 ·have e:b=it:=by simpa using hb
  subst e
  exact⟨h1,hL,h2,h3⟩
 ·obtain⟨o,es,ep,ho,r⟩:=hm
  exact⟨o,es,ep,k _ o (j6_ hL) ho,r⟩
 ·refine (I.hok b u e).stay (fun c v hc q=>k c v ?_ q) (fun _ q=>q) fun _ _ q=>q
  rcases hc with z | z
  ·rw[z];exact nit b u e
  ·exact nit c _ z
theorem Inv.tok (I:Inv X pins σ H s)(t:Nat):Inv X pins σ H {s with toks:=t}:=I.un (h':=s.heap) (t':=t) Un.refl I.hok
theorem Inv.kept {t':Nat}(I:Inv X pins σ H s)(k:∀ b u,s.heap.get? b=some u->h'.get? b=some u):Inv X pins σ H {s with heap:=h',toks:=t' }:=I.un (Un.kept k) (I.hok.kept k)
theorem Inv.laid {a:Addr}{o:HO}{t':Nat}(I:Inv X pins σ H s)(k:∀ b u,s.heap.get? b=some u->h'.get? b=some u)(hp:s.heap.objs.size<=a)(new:CF X.prog X.w (upd H a o) h' a o) :
  Inv X pins σ (upd H a o) {s with heap:=h',toks:=t' }:=I.un (Un.laid k hp (I.hok.fresh hp)) (I.hok.laid k hp new)
theorem Inv.write {x e:Addr}{o:HO}{t':Nat}(I:Inv X pins σ H s)(mu:Mut (H x))(he:e=x\/H e=some (.own x))(k:∀ b u,b≠e->s.heap.get? b=some u->h'.get? b=some u)(heo:∃ u,h'.get? e=some u)
  (new:CF X.prog X.w (upd H x o) h' x o):Inv X pins σ (upd H x o) {s with heap:=h',toks:=t' }:=I.un (Un.write mu he k heo) (I.hok.write mu he k heo new)
theorem Inv.pins_of {pins':α7}(I:Inv X pins σ H s)(h:∀ p∈pins',s.heap.get? p.1=some p.2/\H p.1=none/\p.1≠X.env.locals/\p.1∉X.fs/\∀ v,p.2.data ≠ .cell v):Inv X pins' σ H s :=
 ⟨I.ok,I.os,I.bare,I.base,I.loc,I.cell,I.free,I.freeC,fun p hp=>(jB_.mp hp).elim (fun z=>I.pin p (qb_ _ z)) (h p),I.hok,I.len⟩
theorem Q8 {N:List Str}(hN:N.Nodup){i j:Nat}{x:Str}(a:N[i]?=some x)(b:N[j]?=some x):i=j:=by
 obtain⟨h1,e1⟩:=jc_.mp a
 obtain⟨h2,e2⟩:=jc_.mp b
 exact (x3_ hN).mp (e1.trans e2.symm)
theorem Od {M:Model}{A:Around}{E:Value->Shared->Prop}{i:Nat}{x:Str}{v:V}{u:Value}{Q:Unit->Shared->Prop}(I:Inv X pins σ H s)(hN:X.N.Nodup)(hi:X.N[i]?=some x)(hx:Loc X.env.scope x)(r:RelV v u)
  (h:∀ s',Inv X pins (σ.set i (some v)) H s'->(∃ a,Heap.SameBut a s.heap s'.heap/\(a=X.env.locals\/X.env.cells.lookup x=some a))->Q () s') (hf:X.fn x=true\/X.env.scope.names.lookup x=some .local:=by first | exact .inl rfl | exact .inr rfl | assumption):wpAny M A (storeName X.env x u) Q E s:=by
 obtain⟨m,hn,hl⟩:=id I.loc
 have hcls:(X.env.scope.kind == .class||(X.env.scope.kind == .module&&X.env.locals != X.env.globals))=false:=by rw[I.ok.kind];rfl
 have hiσ:i<σ.length:=by rw[I.len];exact (jc_.mp hi).1
 have cne:=I.cne
 have tracked:∀ {a:Addr} {h':Heap},(∃ o,s.heap.get? a=some o/\H a=none)->Heap.SameBut a s.heap h'->HOk X.prog X.w H h':=fun {a h'} ha hs b ob e=>by
  obtain⟨_,_,hfree⟩:=ha
  refine (I.hok b ob e).stay (fun c w' hc q=>(hs.2 c ?_).trans q) (fun _ q=>q) fun _ _ q=>q
  rintro rfl
  rcases hc with rfl | hc
  ·rw[hfree] at e;cases e
  ·rw[hfree] at hc;cases hc
 rcases hx with hk | hk
 ·refine wpAny_storeName_local hk hn (fun h' hn' hs=>?_) hcls
  obtain⟨oL,_,_,hoL,_⟩:=id hn
  refine h _ ⟨I.ok,I.os,I.bare,⟨fun b o e n hb hx=>?_,fun b o e n hb hx=>?_,I.base.free,fun b o e hx=>?_,I.base.tups,I.base.frzs,I.base.tbls⟩,⟨_,hn',fun j y v' e1 e2 e3=>?_⟩,fun y c e=>?_,I.free,I.freeC,fun p hp=>?_,tracked ⟨oL,hoL,I.free⟩ hs,by simpa using I.len⟩ ⟨_,hs,.inl rfl⟩
  ·exact (hs.2 b (jM_ (jF_ (jn_ e) I.ok.above))).trans (I.base.keep b o e n hb hx)
  ·obtain⟨sl,e1⟩:=I.base.slot b o e n hb hx
   exact⟨sl,(hs.2 b (jM_ (jF_ (jn_ e) I.ok.above))).trans e1⟩
  ·obtain⟨o',e1⟩:=I.base.there b o e hx
   exact⟨o',(hs.2 b (jM_ (jF_ (jn_ e) I.ok.above))).trans e1⟩
  ·by_cases hj:j=i
   ·subst hj
    rw[hi] at e1;cases e1
    rw[qY_ hiσ] at e2
    cases e2
    exact⟨u,r,.inl ⟨hk,by simp⟩⟩
   ·rw[xt_ (j6_ hj)] at e2
    obtain⟨u',r',q⟩:=hl j y v' e1 e2 e3
    refine⟨u',r',?_⟩
    rcases q with ⟨k,e⟩ | ⟨k,c,e,z⟩
    ·refine .inl ⟨k,?_⟩
     have:y≠x:=fun e=>hj (Q8 hN e1 (e ▸ hi))
     simp[this,e]
    ·exact .inr ⟨k,c,e,z.sameBut hs (cne y c e)⟩
  ·obtain⟨w',z⟩:=I.cell y c e
   exact⟨w',z.sameBut hs (cne y c e)⟩
  ·obtain⟨e,n,ne,nf,d⟩:=I.pin p hp
   exact⟨(hs.2 p.1 ne).trans e,n,ne,nf,d⟩
 ·have hfn:X.fn x=true:=by
   rcases hf with z | z
   ·exact z
   ·rw[z] at hk;cases hk
  obtain⟨c,hc⟩:=I.ok.has x (.inl hk)
  obtain⟨w',z⟩:=I.cell x c hc
  refine wpAny_storeName_cell I.ok.kind hk hc z (fun h' hc' hs=>?_)
  obtain⟨oc,hoc,hocd⟩:=id z
  refine h {s with heap:=h' } ⟨I.ok,I.os,I.bare,⟨fun b o e n hb hx=>?_,fun b o e n hb hx=>?_,I.base.free,fun b o e hx=>?_,I.base.tups,I.base.frzs,I.base.tbls⟩,⟨m,hn.sameBut hs (j6_ (cne x c hc)),fun j y v' e1 e2 e3=>?_⟩,fun y c' e=>?_,I.free,I.freeC,fun p hp=>?_,tracked ⟨oc,hoc,I.freeC x c hc⟩ hs,by simpa using I.len⟩ ⟨c,hs,.inr hc⟩
  ·exact (hs.2 b (jM_ (jF_ (jn_ e) (I.ok.cab x c hfn hc)))).trans (I.base.keep b o e n hb hx)
  ·obtain⟨sl,e1⟩:=I.base.slot b o e n hb hx
   exact⟨sl,(hs.2 b (jM_ (jF_ (jn_ e) (I.ok.cab x c hfn hc)))).trans e1⟩
  ·obtain⟨o',e1⟩:=I.base.there b o e hx
   exact⟨o',(hs.2 b (jM_ (jF_ (jn_ e) (I.ok.cab x c hfn hc)))).trans e1⟩
  ·by_cases hj:j=i
   ·subst hj
    rw[hi] at e1;cases e1
    rw[qY_ hiσ] at e2
    cases e2
    exact⟨u,r,.inr ⟨.inl hk,c,hc,hc'⟩⟩
   ·rw[xt_ (j6_ hj)] at e2
    obtain⟨u',r',q⟩:=hl j y v' e1 e2 e3
    refine⟨u',r',?_⟩
    rcases q with q | ⟨k,c',e,z'⟩
    ·exact .inl q
    ·refine .inr ⟨k,c',e,z'.sameBut hs ?_⟩
     rintro rfl
     exact hj (Q8 hN e1 (I.ok.inj _ _ _ e hc ▸ hi))
  ·by_cases hcc:c'=c
   ·subst hcc;exact⟨_,hc'⟩
   ·obtain⟨w2,z2⟩:=I.cell y c' e
    exact⟨w2,z2.sameBut hs hcc⟩
  ·obtain⟨e,n,ne,nf,d⟩:=I.pin p hp
   refine⟨(hs.2 p.1 ?_).trans e,n,ne,nf,d⟩
   intro q
   rw[q,hoc] at e
   have q':oc=p.2:=js_ e
   exact d w' (by rw[<- q'];exact hocd)
theorem Mw {M:Model}{A:Around}{E:Value->Shared->Prop}{i:Nat}{x:Str}{v:V}{u:Value}{Q:Unit->Shared->Prop}(I:Inv X pins σ H s)(hN:X.N.Nodup)(hi:X.N[i]?=some x)(hx:Loc X.env.scope x)(r:RelV v u)
  (h:∀ s',Inv X pins (σ.set i (some v)) H s'->Q () s') (hf:X.fn x=true\/X.env.scope.names.lookup x=some .local:=by first | exact .inl rfl | exact .inr rfl | assumption):wpAny M A (storeName X.env x u) Q E s :=
 Od I hN hi hx r (fun s' I' _=>h s' I') hf
theorem Inv.call' {s':Shared}{ch:List Addr}(I:Inv X pins σ H s)(ho:s'.os=s.os)(u:Un (frs X.stack) ch H H' s.heap s'.heap)(hok:HOk X.prog X.w H' s'.heap)(hg:AllBare s'.gens)
  (hch:∀ b∈ch,(b∈X.ex\/X.s₀.heap.objs.size<=b)/\b≠X.env.locals/\(∀ x c,X.env.cells.lookup x=some c->c≠b)/\∀ p∈X.pn++pins,p.1≠b):Inv X pins σ H' s':=by
 obtain⟨h',g',d',t',o'⟩:=s'
 have e:o'=s.os:=ho
 subst e
 exact I.call (g':=g') (t':=t') (d':=d') u hok hg hch
end
abbrev XK:=Value->Option Addr->Hp->Prop
abbrev St:=List (Option V)
abbrev VK:=V->Hp->Prop
abbrev TE:=St->Hp->VK->Prop
abbrev TT:=St->Hp->(Bool->Hp->Prop)->Prop
abbrev TA:=St->Hp->(List V->Hp->Prop)->Prop
structure Ends where
 nx:St->Hp->Prop
 rt:VK
 bk:St->Hp->Prop:=fun _ _=>False
 ct:St->Hp->Prop:=fun _ _=>False
abbrev TS:=Ends->St->Hp->Prop
def EP (X:Cx)(pins:α7)(σ:St)(Q:VK)(u:Value)(s':Shared):Prop:=∃ v H',Inv X pins σ H' s'/\RelV v u/\Q v H'
def TP (X:Cx)(pins:α7)(σ:St)(Q:Bool->Hp->Prop)(b:Bool)(s':Shared):Prop:=∃ H',Inv X pins σ H' s'/\Q b H'
def AP (X:Cx)(pins:α7)(σ:St)(Q:List V->Hp->Prop)(us:List Value)(s':Shared):Prop:=∃ vs H',Inv X pins σ H' s'/\Vals vs us/\Q vs H'
def SP (X:Cx)(pins:α7)(D:Ends)(f:Flow)(s':Shared):Prop :=
 match f with
 | .next=>∃ σ' H',Inv X pins σ' H' s'/\D.nx σ' H'
 | .brk=>∃ σ' H',Inv X pins σ' H' s'/\D.bk σ' H'
 | .cont=>∃ σ' H',Inv X pins σ' H' s'/\D.ct σ' H'
 | .ret u=>∃ v σ' H',Inv X pins σ' H' s'/\RelV v u/\D.rt v H'
def PE (X:Cx)(e:Expr)(t:TE):Prop :=
 ∀ (pins:α7) (s:Shared) (σ:St) (H:Hp) (Q:VK),Inv X pins σ H s->t σ H Q->wpAny (model X.prog X.w) X.A (eval e X.env) (EP X pins σ Q) X.xe s
def PT (X:Cx)(e:Expr)(t:TT):Prop :=
 ∀ (pins:α7) (s:Shared) (σ:St) (H:Hp) (Q:Bool->Hp->Prop),Inv X pins σ H s->t σ H Q->wpAny (model X.prog X.w) X.A (isTrue e X.env (eval e X.env)) (TP X pins σ Q) X.xe s
def PW (X:Cx)(e:Expr)(t:TT):Prop :=
 ∀ (whole:Sem Value) (pins:α7) (s:Shared) (σ:St) (H:Hp) (Q:Bool->Hp->Prop),Inv X pins σ H s->t σ H Q->wpAny (model X.prog X.w) X.A (isTrue e X.env whole) (TP X pins σ Q) X.xe s
theorem PW.pt {X:Cx}{e:Expr}{t:TT}(h:PW X e t):PT X e t:=h _
def PA (X:Cx)(es:List Expr)(t:TA):Prop :=
 ∀ (pos:Pos) (pins:α7) (s:Shared) (σ:St) (H:Hp) (Q:List V->Hp->Prop),Inv X pins σ H s->t σ H Q->wpAny (model X.prog X.w) X.A (spliced (backTo pos (starEach es X.env))) (AP X pins σ Q) X.xe s
def PS (X:Cx)(st:Stmt)(t:TS):Prop :=
 ∀ (pins:α7) (s:Shared) (σ:St) (H:Hp) (D:Ends),Inv X pins σ H s->t D σ H->wpAny (model X.prog X.w) X.A (exec st X.env) (SP X pins D) X.xe s
def PSs (X:Cx)(st:List Stmt)(t:TS):Prop :=
 ∀ (pins:α7) (s:Shared) (σ:St) (H:Hp) (D:Ends),Inv X pins σ H s->t D σ H->wpAny (model X.prog X.w) X.A (execs st X.env) (SP X pins D) X.xe s
theorem thn {α:Type}{t:Sem α}{Q Q':α->Shared->Prop}{M:Model}{A:Around}{E:Value->Shared->Prop}{s:Shared}(h:wpAny M A t Q E s)(hQ:∀ a s,Q a s->Q' a s):wpAny M A t Q' E s:=qE_ h hQ fun _ _ x=>x
end L2
namespace L2
open PySem PySem.Spec PyProof.Rows
section
variable {X:Cx}
def tVar (i:Nat):TE:=fun σ H Q=>∃ v,σ[i]?=some (some v)/\Q v H
def tC (v:V):TE:=fun _ H Q=>Q v H
theorem Zz {i:Nat}{x:Str}{pos:Pos}(hN:X.N[i]?=some x)(hv:Vis X.env.scope x)(hd:(x == ("__debug__" : Str))=false:=by decide)(hcd:(x == ("__classdict__" : Str))=false:=by decide):PE X (.Name x pos) (tVar i):=by
 intro pins s σ H Q I h
 obtain⟨v,e,h⟩:=h
 obtain⟨m,hn,hl⟩:=I.loc
 obtain⟨u,r,l⟩:=hl i x v hN e hv
 have fin:EP X pins σ Q u s:=⟨v,H,I,r,h⟩
 rcases l with ⟨hk,hm⟩ | ⟨hk,c,hc,hcell⟩
 ·exact wpAny_Name (wpAny_loadName_local I.ok.kind hk hn hm fin) hd
 ·rcases hk with hk | hk
  ·exact wpAny_Name (wpAny_loadName_cell I.ok.kind hk hc hcell fin) hd
  ·exact wpAny_Name (wpAny_loadName_free I.ok.kind hk hc hcell fin hcd) hd
theorem Ae {i j pos}:PE X (.Constant (.int i) j pos) (tC (.int i)):=fun _ _ _ H _ I h=>wpAny_Constant_int ⟨.int i,H,I.tok _,⟨_,rfl⟩,h⟩
theorem ZA {b j pos}:PE X (.Constant (.bool b) j pos) (tC (.bl b)):=fun _ _ _ H _ I h=>Constant_bool ⟨.bl b,H,I,rfl,h⟩
theorem ZB {j pos}:PE X (.Constant .none j pos) (tC .non):=fun _ _ _ H _ I h=>Constant_none ⟨.non,H,I,rfl,h⟩
theorem ZC {x j pos}:PE X (.Constant (.str x) j pos) (tC (.str x)):=fun _ _ _ H _ I h=>Calls.Constant_str ⟨.str x,H,I.tok _,⟨_,rfl⟩,h⟩
def Gl (X:Cx)(x:Str):Prop:=X.env.kindOf x=some .globalImplicit
theorem Tu {E:Value->Shared->Prop}{pins:α7}{s:Shared}{σ:St}{H:Hp}{x:Str}{u:Value}{pos:Pos}{Q:Value->Shared->Prop}(I:Inv X pins σ H s)(hg:Gl X x)(hm:X.mg x=some u)(h:Q u s)
  (hd:(x == ("__debug__" : Str))=false:=by decide):wpAny (model X.prog X.w) X.A (eval (.Name x pos) X.env) Q E s :=
 Calls.Name_function_global I.ok.kind hg (Calls.loadGlobal_global (by rw[I.ok.glob];exact I.mod.glob.keeps I.bk) hm h) hd
theorem GV {E:Value->Shared->Prop}{pins:α7}{s:Shared}{σ:St}{H:Hp}{x:Str}{u:Value}{pos:Pos}{Q:Value->Shared->Prop}(I:Inv X pins σ H s)(hg:Gl X x)(hm:X.mg x=none)(hv:bootBuiltins x=some u)(h:Q u s)
  (hn:x ≠ "__name__" := by decide) (hd:(x == ("__debug__" : Str))=false:=by decide):wpAny (model X.prog X.w) X.A (eval (.Name x pos) X.env) Q E s:=by
 obtain⟨mb,h1,h2⟩:=I.mod.blt
 exact Calls.Name_function_global I.ok.kind hg (Calls.loadGlobal_builtin (by rw[I.ok.glob];exact I.mod.glob.keeps I.bk) hm (by rw[I.ok.blt];exact h1.keeps I.bk) ((h2 x hn).trans hv) h) hd
variable {a b:Expr} {ta tb:TE} {pos:Pos}
def PC (X:Cx)(op:CmpOp)(a b:Expr)(t:TE):Prop :=
 ∀ (pins:α7) (s:Shared) (σ:St) (H:Hp) (Q:VK),Inv X pins σ H s->t σ H Q ->
  wpAny (model X.prog X.w) X.A (eval a X.env) (fun v s₁=>wpAny (model X.prog X.w) X.A (eval b X.env) (fun u s₂=>wpAny (model X.prog X.w) X.A (compareOp op v u) (EP X pins σ Q) X.xe s₂) X.xe s₁) X.xe s
theorem Vy (b:Expr){op:CmpOp}(h:op ≠ .In)(h2:op ≠ .NotIn):behindInMarks op b=false:=by
 have e1:(op == CmpOp.In)=false:=by cases op<;>first | rfl | exact absurd rfl h
 have e2:(op == CmpOp.NotIn)=false:=by cases op<;>first | rfl | exact absurd rfl h2
 cases b<;>simp[behindInMarks,e1,e2]
def tB (t:TE):TT:=fun σ H Q=>t σ H fun x H1=>∃ c,x=.bl c/\Q c H1
theorem W6 {op:CmpOp}{t:TE}(h:PC X op a b t)(h1:behindInMarks op b=false:=by first | exact Vy _ (by decide) (by decide) | rfl):PT X (.Compare a [op] [b] pos) (tB t):=by
 intro pins s σ H Q I hw
 refine wpAny_isTrue_Compare1 (thn (h pins s σ H _ I hw) fun v s1 h1=>thn h1 fun u s2 h2=>thn h2 fun c s3 ⟨x,H1,I1,r1,q1⟩=>?_) h1
 obtain⟨d,rfl,q⟩:=q1
 cases r1
 exact xx_ ⟨H1,I1,q⟩
theorem ZD {e:Expr}{t:TE}(h:PE X e t)(he:∀ whole,isTrue e X.env whole=(do let v <- whole;standAt e.pos;holding [v] (truthy v)):=by intro _;rfl):PT X e (tB t):=by
 intro pins s σ H Q I hw
 refine isTrue_plain (thn (h pins s σ H _ I hw) fun v s1 ⟨x,H1,I1,r1,q1⟩=>?_) (he _)
 obtain⟨d,rfl,q⟩:=q1
 cases r1
 exact xx_ ⟨H1,I1,q⟩
variable {tA tB':TT} {rest:List Expr}
def tAnd (t u:TT):TT:=fun σ H Q=>t σ H fun c H1=>if c=true then u σ H1 Q else Q false H1
def tOr (t u:TT):TT:=fun σ H Q=>t σ H fun c H1=>if c=true then Q true H1 else u σ H1 Q
def tNot (t:TT):TT:=fun σ H Q=>t σ H fun c H1=>Q (!c) H1
theorem FY (ha:PT X a tA):PW X (.BoolOp .And [a] pos) tA:=by
 intro wh pins s σ H Q I h
 refine isTrue_and (thn (ha pins s σ H Q I h) fun c s1 e=>?_)
 cases c with
 | true=>exact isTrue_and_nil e
 | false=>exact e
theorem Tv (ha:PT X a tA):PW X (.BoolOp .Or [a] pos) tA:=by
 intro wh pins s σ H Q I h
 refine isTrue_or (thn (ha pins s σ H Q I h) fun c s1 e=>?_)
 cases c with
 | false=>exact isTrue_or_nil e
 | true=>exact e
theorem IW (ha:PT X a tA)(hb:PW X (.BoolOp .And (b::rest) pos) tB'):PW X (.BoolOp .And (a::b::rest) pos) (tAnd tA tB'):=by
 intro wh pins s σ H Q I h
 refine isTrue_and (thn (ha pins s σ H _ I h) fun c s1 ⟨H1,I1,q1⟩=>?_)
 cases c with
 | true=>exact hb wh pins s1 σ H1 Q I1 q1
 | false=>exact⟨H1,I1,q1⟩
theorem Yk (ha:PT X a tA)(hb:PW X (.BoolOp .Or (b::rest) pos) tB'):PW X (.BoolOp .Or (a::b::rest) pos) (tOr tA tB'):=by
 intro wh pins s σ H Q I h
 refine isTrue_or (thn (ha pins s σ H _ I h) fun c s1 ⟨H1,I1,q1⟩=>?_)
 cases c with
 | true=>exact⟨H1,I1,q1⟩
 | false=>exact hb wh pins s1 σ H1 Q I1 q1
theorem ZE (ha:PT X a tA):PT X (.UnaryOp .Not a pos) (tNot tA):=by
 intro pins s σ H Q I h
 exact isTrue_not (ha pins s σ H (fun c H1=>Q (!c) H1) I h)
def ZF (ta tb:TE):TE:=fun σ H Q=>ta σ H fun x H1=>∃ c,x=.bl c/\if c=true then tb σ H1 Q else Q (.bl false) H1
theorem ZH {op}{t:TE}(h:PE X a t):PE X (.BoolOp op [a] pos) t:=fun pins s σ H Q I hw=>BoolOp_one (h pins s σ H Q I hw)
theorem ZI (ha:PE X a ta)(hb:PE X (.BoolOp .And (b::rest) pos) tb):PE X (.BoolOp .And (a::b::rest) pos) (ZF ta tb):=by
 intro pins s σ H Q I h
 refine BoolOp_and (thn (ha pins s σ H _ I h) fun v s1 ⟨x,H1,I1,r1,q1⟩=>?_)
 obtain⟨c,rfl,q1⟩:=q1
 cases r1
 refine xx_ ?_
 cases c with
 | true=>exact hb pins s1 σ H1 Q I1 q1
 | false=>exact⟨.bl false,H1,I1,rfl,q1⟩
end
end L2
namespace L2
open PySem PySem.Spec PyProof.Rows
def SqL (K:α3)(H:Hp)(a:Addr)(xs:List V):Prop :=
 Rd H a (.lst xs) \/
  ∃ (o:Obj) (its:Array Value) (n:Nat),K.lookup a=some o/\o.cls=.type "list" /\ o.dict=none/\o.data=.seq its n/\its.size<=sizeLine/\Vals xs its.toList
def SqT (K:α3)(H:Hp)(a:Addr)(xs:List V):Prop :=
 Rd H a (.tup xs) \/
  ∃ (o:Obj) (its:Array Value) (n:Nat),K.lookup a=some o/\o.cls=.type "tuple" /\ o.data=.seq its n/\its.size<=sizeLine/\Vals xs its.toList
def absV:Value->Option V
 | .none=>some .non
 | .bool b=>some (.bl b)
 | .int i _=>some (.int i)
 | .str x _=>some (.str x)
 | .bytes b _=>some (.byt b)
 | .float b _=>some (.flt b)
 | .ref a=>some (.ref a)
 | .type n=>some (.ty n)
 | _=>none
theorem RelV.abs {x:V}{u:Value}(r:RelV x u):absV u=some x:=by
 cases x with
 | non=>cases r;rfl
 | bl _=>cases r;rfl
 | int _=>obtain⟨t,rfl⟩:=r;rfl
 | str _=>obtain⟨t,rfl⟩:=r;rfl
 | byt _=>obtain⟨t,rfl⟩:=r;rfl
 | flt _=>obtain⟨t,rfl⟩:=r;rfl
 | ref _=>cases r;rfl
 | ty _=>cases r;rfl
theorem RelV.inj {x y:V}{u:Value}(r:RelV x u)(q:RelV y u):x=y:=js_ (r.abs.symm.trans q.abs)
theorem Vals.inj:∀ {xs ys:List V} {us:List Value},Vals xs us->Vals ys us->xs=ys
 | _,_,_,.nil,.nil=>rfl
 | _,_,_,.cons r t,.cons r' t'=>by rw[r.inj r',Vals.inj t t']
section
variable {X:Cx} {pins:α7} {σ:St} {H:Hp} {s:Shared} {a:Addr} {xs ys:List V}
theorem SqL.of {K:α3}(h:H a=some (.lst xs)):SqL K H a xs:=.inl (.inl h)
theorem SqT.of {K:α3}(h:H a=some (.tup xs)):SqT K H a xs:=.inl (.inl h)
theorem Inv.list (I:Inv X pins σ H s)(h:SqL X.K H a xs):∃ its:List Value,Vals xs its/\PlainL s.heap a its.toArray/\xs.length<=sizeLine:=by
 rcases h with h | ⟨o,its,n,hk,hc,hd,hs,hz,r⟩
 ·obtain⟨z,its,n,r,e⟩:=h.ok I.hok
  exact⟨its,r,⟨_,n,e,rfl,rfl,rfl⟩,z⟩
 ·refine⟨its.toList,r,⟨o,n,I.kIn a o hk,hc,hd,by simpa using hs⟩,?_⟩
  have e:=r.length
  simp only[jZ_] at e
  omega
theorem Inv.tuple (I:Inv X pins σ H s)(h:SqT X.K H a xs):∃ its:List Value,Vals xs its/\IsTup s.heap a its.toArray/\xs.length<=sizeLine:=by
 rcases h with h | ⟨o,its,n,hk,hc,hs,hz,r⟩
 ·obtain⟨z,its,r,p⟩:=h.ok I.hok
  exact⟨its,r,p,z⟩
 ·refine⟨its.toList,r,⟨o,I.kIn a o hk,hc,n,by simpa using hs⟩,?_⟩
  have e:=r.length
  simp only[jZ_] at e
  omega
theorem Inv.list_inj (I:Inv X pins σ H s)(h:SqL X.K H a xs)(h':SqL X.K H a ys):xs=ys:=by
 obtain⟨its,r,⟨o,n,e,_,_,d⟩,_⟩:=I.list h
 obtain⟨its',r',⟨o',n',e',_,_,d'⟩,_⟩:=I.list h'
 rw[e] at e';cases e'
 rw[d] at d'
 injection d' with d1 _
 have:its=its':=by simpa using jJ_ Array.toList d1
 subst this
 exact r.inj r'
theorem Inv.tuple_inj (I:Inv X pins σ H s)(h:SqT X.K H a xs)(h':SqT X.K H a ys):xs=ys:=by
 obtain⟨its,r,⟨o,e,_,n,d⟩,_⟩:=I.tuple h
 obtain⟨its',r',⟨o',e',_,n',d'⟩,_⟩:=I.tuple h'
 rw[e] at e';cases e'
 rw[d] at d'
 injection d' with d1 _
 have:its=its':=by simpa using jJ_ Array.toList d1
 subst this
 exact r.inj r'
end
abbrev Cx.wish (X:Cx)(E:Value->Shared->Prop):Cx:={X with xe:=E}
abbrev Cx.nox (X:Cx):Cx:=X.wish fun _ _=>False
theorem Cx.Ok.wish {X:Cx}(ok:X.Ok)(E:Value->Shared->Prop):(X.wish E).Ok :=
 ⟨ok.mod,ok.kind,ok.glob,ok.blt,ok.above,ok.inj,ok.has,ok.cab,ok.hd,ok.frames,ok.stk,ok.exf,ok.bs,ok.bsz,ok.noex,ok.exfs,ok.funs,ok.frf⟩
theorem Cx.Ok.unwish {X:Cx}{E:Value->Shared->Prop}(ok:(X.wish E).Ok):X.Ok :=
 ⟨ok.mod,ok.kind,ok.glob,ok.blt,ok.above,ok.inj,ok.has,ok.cab,ok.hd,ok.frames,ok.stk,ok.exf,ok.bs,ok.bsz,ok.noex,ok.exfs,ok.funs,ok.frf⟩
section
variable {X:Cx} {pins:α7} {σ:St} {H:Hp} {s:Shared} {E:Value->Shared->Prop}
theorem Inv.wish (I:Inv X pins σ H s)(E:Value->Shared->Prop):Inv (X.wish E) pins σ H s:=⟨I.ok.wish E,I.os,I.bare,I.base,I.loc,I.cell,I.free,I.freeC,I.pin,I.hok,I.len⟩
theorem Inv.unwish (I:Inv (X.wish E) pins σ H s):Inv X pins σ H s:=⟨I.ok.unwish,I.os,I.bare,I.base,I.loc,I.cell,I.free,I.freeC,I.pin,I.hok,I.len⟩
theorem SP.unwish {D:Ends}{f:Flow}{s':Shared}(h:SP (X.wish E) pins D f s'):SP X pins D f s':=by
 cases f with
 | next=>obtain⟨σ',H',I,q⟩:=h;exact⟨σ',H',I.unwish,q⟩
 | brk=>obtain⟨σ',H',I,q⟩:=h;exact⟨σ',H',I.unwish,q⟩
 | cont=>obtain⟨σ',H',I,q⟩:=h;exact⟨σ',H',I.unwish,q⟩
 | ret u=>obtain⟨v,σ',H',I,r,q⟩:=h;exact⟨v,σ',H',I.unwish,r,q⟩
theorem PSs.nox {st:List Stmt}{t:TS}(h:PSs X.nox st t):PSs X st t:=fun pins s σ H D I hw =>
 qE_ (h pins s σ H D (I.wish _) hw) (fun _ _ q=>q.unwish) fun _ _ z=>False.elim z
end
section
variable {X:Cx} {st:Stmt} {rest:List Stmt} {t u:TS} {e:Expr} {te:TE} {pos:Pos}
def ZJ:TS:=fun D σ H=>D.nx σ H
def tSeq (t u:TS):TS:=fun D σ H=>t {D with nx:=u D} σ H
theorem Be:PSs X [] ZJ:=fun _ _ σ H _ I h=>zJ_ ⟨σ,H,I,h⟩
theorem Ac (h1:PS X st t)(h2:PSs X rest u):PSs X (st::rest) (tSeq t u):=by
 intro pins s σ H D I h
 refine wpAny_execs_cons (thn (h1 pins s σ H {D with nx:=u D} I h) fun f s1 q=>?_)
 cases f with
 | next =>
  obtain⟨σ',H',I',q⟩:=q
  exact h2 pins s1 σ' H' D I' q
 | ret v=>exact q
 | brk=>exact q
 | cont=>exact q
theorem Ag (h1:PS X st t):PSs X [st] t:=by
 intro pins s σ H D I h
 refine wpAny_execs_cons (thn (h1 pins s σ H D I h) fun f s1 q=>?_)
 cases f with
 | next=>exact zJ_ q
 | ret v=>exact q
 | brk=>exact q
 | cont=>exact q
theorem Inv.quiet {pins:α7}{σ:St}{H:Hp}{s:Shared}(I:Inv X pins σ H s):interactive X.env=false:=by simp[interactive,I.ok.kind]
def ZK (te:TE):TS:=fun D σ H=>te σ H fun _ H1=>D.nx σ H1
theorem By (he:PE X e te)(hs:swapsWith e none pos.line X.env=pure false:=by rfl):PS X (.Expr e pos) (ZK te):=by
 intro pins s σ H D I h
 exact wpAny_Expr_any (thn (he pins s σ H _ I h) fun v s1 ⟨x,H1,I1,r1,q1⟩=>⟨σ,H1,I1,q1⟩) I.quiet hs
def tRet (te:TE):TS:=fun D σ H=>te σ H D.rt
theorem AY (he:PE X e te):PS X (.Return (some e) pos) (tRet te):=by
 intro pins s σ H D I h
 exact wpAny_Return_some (thn (he pins s σ H _ I h) fun v s1 ⟨x,H1,I1,r1,q1⟩=>⟨x,σ,H1,I1,r1,q1⟩)
def tIfS (c:TT)(t u:TS):TS:=fun D σ H=>c σ H fun b H1=>if b=true then t D σ H1 else u D σ H1
theorem DB {c:Expr}{a b:List Stmt}{tc:TT}(hc:PT X c tc)(ha:PSs X a t)(hb:PSs X b u):PS X (.If c a b pos) (tIfS tc t u):=by
 intro pins s σ H D I h
 refine wpAny_If (thn (hc pins s σ H _ I h) fun d s1 ⟨H1,I1,q1⟩=>?_)
 cases d with
 | true=>exact ha pins s1 σ H1 D I1 q1
 | false=>exact hb pins s1 σ H1 D I1 q1
end
abbrev TG:=V->St->Hp->(St->Hp->Prop)->Prop
abbrev TGs:=List V->St->Hp->(St->Hp->Prop)->Prop
def PG (X:Cx)(target:Expr)(t:TG):Prop :=
 ∀ (pins:α7) (s:Shared) (σ:St) (H:Hp) (v:V) (u:Value) (Q:St->Hp->Prop),Inv X pins σ H s->RelV v u->t v σ H Q ->
  wpAny (model X.prog X.w) X.A (assign target X.env u) (fun _ s'=>∃ σ' H',Inv X pins σ' H' s'/\Q σ' H') X.xe s
def PGs (X:Cx)(ts:List Expr)(t:TGs):Prop :=
 ∀ (pins:α7) (s:Shared) (σ:St) (H:Hp) (vs:List V) (us:List Value) (Q:St->Hp->Prop),Inv X pins σ H s->Vals vs us->t vs σ H Q ->
  wpAny (model X.prog X.w) X.A (assignInOrder ((assignEach ts X.env).map (·.2)) us) (fun _ s'=>∃ σ' H',Inv X pins σ' H' s'/\Q σ' H') X.xe s
abbrev TSet:=V->V->V->Hp->(Hp->Prop)->Prop
def PSet (X:Cx)(t:TSet):Prop :=
 ∀ (pins:α7) (s:Shared) (σ:St) (H:Hp) (o i v:V) (ov iv u:Value) (Q:Hp->Prop),Inv X pins σ H s->RelV o ov->RelV i iv->RelV v u->t o i v H Q ->
  wpAny (model X.prog X.w) X.A (setItem ov iv u) (fun _ s'=>∃ H',Inv X pins σ H' s'/\Q H') X.xe s
abbrev TIp:=V->V->Hp->VK->Prop
def PIp (X:Cx)(op:Operator)(t:TIp):Prop :=
 ∀ (pins:α7) (s:Shared) (σ:St) (H:Hp) (x y:V) (v u:Value) (Q:VK),Inv X pins σ H s->RelV x v->RelV y u->t x y H Q ->
  wpAny (model X.prog X.w) X.A (inplaceOp op v u) (EP X pins σ Q) X.xe s
section
variable {X:Cx} {pos:Pos}
def Ly (i:Nat):TG:=fun v σ H Q=>Q (σ.set i (some v)) H
theorem As {i:Nat}{x:Str}(hN:X.N.Nodup)(hi:X.N[i]?=some x)(hx:Loc X.env.scope x)(hf:X.fn x=true\/X.env.scope.names.lookup x=some .local:=by first | exact .inl rfl | exact .inr rfl | assumption):PG X (.Name x pos) (Ly i):=by
 intro pins s σ H v u Q I r h
 exact wpAny_assign_Name (Mw I hN hi hx r (fun s' I'=>⟨_,H,I',h⟩) hf)
def gNil:TGs:=fun vs σ H Q=>vs=[]/\Q σ H
def ZL (t:TG)(u:TGs):TGs:=fun vs σ H Q=>∃ v r,vs=v::r/\t v σ H fun σ' H'=>u r σ' H' Q
theorem Tw:PGs X [] gNil:=by
 intro pins s σ H vs us Q I r h
 obtain⟨e,h⟩:=h
 subst e
 cases r
 exact assignInOrder_nil ⟨σ,H,I,h⟩
theorem JT {e:Expr}{es:List Expr}{t:TG}{u:TGs}(h1:PG X e t)(h2:PGs X es u)
  (hs:(assignEach (e::es) X.env).map (·.2)=assign e X.env::(assignEach es X.env).map (·.2):=by rfl):PGs X (e::es) (ZL t u):=by
 intro pins s σ H vs us Q I r h
 obtain⟨v,vr,e1,h⟩:=h
 subst e1
 cases r with
 | cons r rr =>
  rw[hs]
  refine assignInOrder_cons (thn (h1 pins s σ H _ _ _ I r h) fun _ s1 ⟨σ1,H1,I1,q1⟩=>?_)
  exact h2 pins s1 σ1 H1 _ _ Q I1 rr q1
def gTup (K:α3)(n:Nat)(t:TGs):TG:=fun v σ H Q=>∃ a xs,v=.ref a/\SqT K H a xs/\xs.length=n/\t xs σ H Q
theorem W7 {es:List Expr}{k:Nat}{t:TGs}{n:Nat}(hc:X.calm=true)(h:PGs X es t)
  (hn:(assignEach es X.env).length=n:=by rfl) (hst:(assignEach es X.env).findIdx? (·.1)=none:=by rfl):PG X (.Tuple es k pos) (gTup X.K n t):=by
 intro pins s σ H v u Q I r hw
 obtain⟨a,xs,e1,hq,hl,hw⟩:=hw
 subst e1
 cases r
 obtain⟨its,rv,ht,hz⟩:=I.tuple hq
 refine assign_Tuple_tuple (I.ok.hd hc) ht (by simp[hn,<- hl,rv.length]) hst fun h' hx=>?_
 have I1:Inv X pins σ H {s with heap:=h' }:=I.kept (t':=s.toks) fun b o e=>hx b o (jM_ (jn_ e)) e
 exact h pins _ σ H xs _ Q I1 (by simpa using rv) hw
def gSub (to ti:TE)(t:TSet):TG:=fun v σ H Q=>to σ H fun o H1=>ti σ H1 fun i H2=>t o i v H2 fun H3=>Q σ H3
theorem Tx {o i:Expr}{to ti:TE}{t:TSet}(ho:PE X o to)(hi:PE X i ti)(hs:PSet X t)
  (ha:∀ v,assign (.Subscript o i pos) X.env v=(do
   let ov <- holding [v] (eval o X.env)
   let iv <- holding [v,ov] (eval i X.env)
   standAt pos
   holding [v,ov,iv] (setItem ov iv v)
   release [v,ov,iv] []):=by intro _;rfl):PG X (.Subscript o i pos) (gSub to ti t):=by
 intro pins s σ H v u Q I r h
 rw[ha]
 refine jb_ (qR_ (thn (ho pins s σ H _ I h) fun ov s1 ⟨x,H1,I1,r1,q1⟩=>?_))
 refine jb_ (qR_ (thn (hi pins s1 σ H1 _ I1 q1) fun iv s2 ⟨y,H2,I2,r2,q2⟩=>?_))
 refine jb_ (wpAny_standAt (jb_ (qR_ (thn (hs pins s2 σ H2 x y v ov iv u _ I2 r1 r2 r q2) fun _ s3 ⟨H3,I3,q3⟩=>?_))))
 exact wpAny_release ⟨σ,H3,I3,q3⟩
def tAsg (te:TE)(g:TG):TS:=fun D σ H=>te σ H fun x H1=>g x σ H1 D.nx
theorem Ty {tg e:Expr}{te:TE}{g:TG}(he:PE X e te)(hg:PG X tg g)(hs:swapsWithSole [tg] e pos.line X.env=pure false:=by rfl)(hw:swappedStores [tg] e X.env=pure none:=by rfl)
  (h1:(assignEach [tg] X.env).map (·.2)=[assign tg X.env]:=by rfl):PS X (.Assign [tg] e pos) (tAsg te g):=by
 intro pins s σ H D I h
 refine wpAny_Assign_stores (thn (he pins s σ H _ I h) fun v s1 ⟨x,H1,I1,r1,q1⟩=>?_) hs hw
 rw[h1]
 exact thn (hg pins s1 σ H1 x v _ I1 r1 q1) fun _ s2 q=>q
theorem CI {i:Nat}{x:Str}{e:Expr}{te:TE}{pos':Pos}(hN:X.N.Nodup)(hi:X.N[i]?=some x)(hx:Loc X.env.scope x)(he:PE X e te)(hs:swapsWith e (some (.Name x pos')) pos.line X.env=pure false:=by rfl)(hf:X.fn x=true\/X.env.scope.names.lookup x=some .local:=by first | exact .inl rfl | exact .inr rfl | assumption) :
  PS X (.Assign [.Name x pos'] e pos) (tAsg te (Ly i)):=by
 intro pins s σ H D I h
 refine wpAny_Assign_Name (thn (he pins s σ H _ I h) fun v s1 ⟨y,H1,I1,r1,q1⟩=>?_) hs
 exact Mw I1 hN hi hx r1 (fun s2 I2=>⟨_,H1,I2,q1⟩) hf
def tAug (i:Nat)(te:TE)(ti:TIp):TS:=fun D σ H=>∃ x,σ[i]?=some (some x)/\te σ H fun y H1=>ti x y H1 fun z H2=>D.nx (σ.set i (some z)) H2
theorem Tz {i:Nat}{x:Str}{e:Expr}{te:TE}{op:Operator}{ti:TIp}{pos':Pos}(hN:X.N.Nodup)(hi:X.N[i]?=some x)(hx:Loc X.env.scope x)(he:PE X e te)(ho:PIp X op ti)(hf:X.fn x=true\/X.env.scope.names.lookup x=some .local:=by first | exact .inl rfl | exact .inr rfl | assumption) :
  PS X (.AugAssign (.Name x pos') op e pos) (tAug i te ti):=by
 intro pins s σ H D I h
 obtain⟨v,e1,h⟩:=h
 obtain⟨m,hn,hl⟩:=I.loc
 have vis:Vis X.env.scope x:=by rcases hx with k | k;exact .inl k;exact .inr (.inl k)
 obtain⟨u,r,l⟩:=hl i x v hi e1 vis
 refine wpAny_AugAssign_Name ?_
 have go:wpAny (model X.prog X.w) X.A (eval e X.env) (fun w s₂=>wpAny (model X.prog X.w) X.A (inplaceOp op u w) (fun r s₃=>wpAny (model X.prog X.w) X.A (storeName X.env x r) (fun _=>SP X pins D .next) X.xe s₃) X.xe s₂) X.xe s:=by
  refine thn (he pins s σ H _ I h) fun w s1 ⟨y,H1,I1,r1,q1⟩=>?_
  refine thn (ho pins s1 σ H1 v y u w _ I1 r r1 q1) fun z s2 ⟨zv,H2,I2,r2,q2⟩=>?_
  exact Mw I2 hN hi hx r2 (fun s3 I3=>⟨_,H2,I3,q2⟩) hf
 rcases l with ⟨hk,hm⟩ | ⟨hk,c,hc,hcell⟩
 ·exact wpAny_loadName_local I.ok.kind hk hn hm go
 ·rcases hk with hk | hk
  ·exact wpAny_loadName_cell I.ok.kind hk hc hcell go
  ·rcases hx with k | k
   ·have:X.env.scope.names.lookup x=some .free:=hk
    rw[k] at this;cases this
   ·have:X.env.scope.names.lookup x=some .free:=hk
    rw[k] at this;cases this
def ipI (f:Int->Int->Int):TIp:=fun x y H Q=>∃ i j,x=.int i/\y=.int j/\Q (.int (f i j)) H
theorem W8:PIp X .Add (ipI fun i j=>i+j):=by
 intro pins s σ H x y v u Q I r1 r2 h
 obtain⟨i,j,e1,e2,q⟩:=h
 subst e1;subst e2
 obtain⟨t,rfl⟩:=r1
 obtain⟨t',rfl⟩:=r2
 exact iadd_int ⟨.int _,H,I.tok _,⟨_,rfl⟩,q⟩
theorem ZM:PIp X .Sub (ipI fun i j=>i-j):=by
 intro pins s σ H x y v u Q I r1 r2 h
 obtain⟨i,j,e1,e2,q⟩:=h
 subst e1;subst e2
 obtain⟨t,rfl⟩:=r1
 obtain⟨t',rfl⟩:=r2
 exact isub_int ⟨.int _,H,I.tok _,⟨_,rfl⟩,q⟩
end
section
variable {X:Cx} {pos:Pos}
def W9 (c:TT)(tb:TS):TS:=fun D σ H=>∃ W:Nat->St->Hp->Prop,(∃ m,W m σ H)/\∀ m σ H,W m σ H ->
 c σ H fun b H1=>if b=true then ∃ N:St->Hp->Prop,(∀ σ' H',N σ' H'->∃ m',m'<m/\W m' σ' H')/\tb {D with nx:=N,ct:=N,bk:=D.nx} σ H1 else D.nx σ H1
theorem Gx {c:Expr}{body:List Stmt}{tc:TT}{tb:TS}(hp:PassesOwn (model X.prog X.w) X.A X.env X.xe)(hc:PT X c tc)(hb:PSs X body tb):PS X (.While c body [] pos) (W9 tc tb):=by
 intro pins s σ H D I h
 obtain⟨W,⟨m0,w0⟩,turn⟩:=h
 refine wpAny_While (codeAny_whileLoop (fun n s'=>∃ σ' H',Inv X pins σ' H' s'/\W n σ' H') ?_ m0 ⟨σ,H,I,w0⟩)
 rintro n s1 ⟨σ1,H1,I1,w1⟩
 refine xy_ hp (thn (hc pins s1 σ1 H1 _ I1 (turn n σ1 H1 w1)) fun b s2 ⟨H2,I2,q2⟩=>?_)
 cases b with
 | true =>
  obtain⟨N,hN,q2⟩:=q2
  rw[if_pos rfl]
  refine xy_ hp (thn (hb pins s2 σ1 H2 _ I2 q2) fun f s3 q3=>?_)
  cases f with
  | next =>
   obtain⟨σ3,H3,I3,n3⟩:=q3
   obtain⟨m',hm,w3⟩:=hN σ3 H3 n3
   exact⟨m',hm,σ3,H3,I3,w3⟩
  | cont =>
   obtain⟨σ3,H3,I3,n3⟩:=q3
   obtain⟨m',hm,w3⟩:=hN σ3 H3 n3
   exact⟨m',hm,σ3,H3,I3,w3⟩
  | brk=>exact q3
  | ret v=>exact q3
 | false =>
  rw[if_neg jp_]
  exact zJ_ ⟨σ1,H2,I2,q2⟩
end
structure It where
 go:Nat->Hp->Prop
 yld:Nat->Hp->V->Hp->Prop
 stop:Nat->Hp->Prop
def FpOk (X:Cx)(pins:α7)(H:Hp)(b:Addr):Prop :=
 H b=none/\b≠X.env.locals/\b∉X.fs/\(b∈X.ex\/X.s₀.heap.objs.size<=b)/\(∀ x c,X.env.cells.lookup x=some c->c≠b)/\∀ p∈X.pn++pins,p.1≠b
theorem Inv.fpOk {X:Cx}{pins:α7}{σ:St}{H H':Hp}{s:Shared}{b:Addr}(I:Inv X pins σ H s)(hb:s.heap.objs.size<=b)(hn:H' b=none):FpOk X pins H' b:=by
 refine⟨hn,qa_ (jF_ I.lt hb),I.nofs hb,.inr (qM_ I.sz hb),fun x c e z=>?_,fun p hp z=>?_⟩
 ·obtain⟨v,q⟩:=I.cell x c e
  exact absurd (jF_ q.lt (by rw[z];exact hb)) (qm_ _)
 ·exact absurd (jF_ (jn_ (I.pin p hp).1) (by rw[z];exact hb)) (qm_ _)
structure Turn (P:Program)(w:World)(K:α3)(tg:Expr)(J:It)(fp:List Addr)(it:Addr)(tn:Nat->Heap->Prop):Prop where
 mem:it∈fp
 obj:∀ i h,tn i h->∀ b∈fp,∃ o,h.get? b=some o/\∀ v,o.data ≠ .cell v
 keep:∀ i h h',tn i h->(∀ b∈fp,∀ o,h.get? b=some o->h'.get? b=some o)->tn i h'
 item:∀ (X:Cx),X.prog=P->X.w=w->X.K=K->X.calm=true->∀ (i:Nat) (pins:α7) (s:Shared) (σ:St) (H:Hp) (E:Value->Shared->Prop),Inv X pins σ H s->(∀ b∈fp,FpOk X pins H b)->tn i s.heap->J.go i H ->
  wpAny (model P w) X.A (pyNext (.ref it)) (fun r s1=>∃ u,r=some u /\
   wpAny (model P w) X.A (letOwnedTupleGo tg (.ref it) u) (fun _ s2=>∃ x H',Inv X pins σ H' s2/\RelV x u/\J.yld i H x H'/\tn (i+1) s2.heap/\∀ b∈fp,H' b=none) E s1) E s
 done:∀ (X:Cx),X.prog=P->X.w=w->X.K=K->X.calm=true->∀ (i:Nat) (pins:α7) (s:Shared) (σ:St) (H:Hp) (E:Value->Shared->Prop),Inv X pins σ H s->(∀ b∈fp,FpOk X pins H b)->tn i s.heap->J.stop i H ->
  wpAny (model P w) X.A (pyNext (.ref it)) (fun r s1=>r=none/\Inv X pins σ H s1) E s
 self:∀ (A:Around) (i:Nat) (s:Shared) (Q:Value->Shared->Prop) (E:Value->Shared->Prop),tn i s.heap->Q (.ref it) s->wpAny (model P w) A (pyIter (.ref it)) Q E s
abbrev TI:=St->Hp->(It->Hp->Prop)->Prop
def PIE (X:Cx)(pins:α7)(σ:St)(tg:Expr)(R:It->Hp->Prop)(itv:Value)(s2:Shared):Prop :=
 ∃ (it:Addr) (fp:List Addr) (tn:Nat->Heap->Prop) (J:It) (H':Hp),itv=.ref it/\Inv X pins σ H' s2/\Turn X.prog X.w X.K tg J fp it tn/\tn 0 s2.heap/\(∀ b∈fp,FpOk X pins H' b)/\R J H'
def PI (X:Cx)(tg iter:Expr)(wi:TI):Prop :=
 ∀ (pins:α7) (s:Shared) (σ:St) (H:Hp) (R:It->Hp->Prop),Inv X pins σ H s->wi σ H R ->
  wpAny (model X.prog X.w) X.A (eval iter X.env) (fun v s1=>wpAny (model X.prog X.w) X.A (pyIter v) (PIE X pins σ tg R) X.xe s1) X.xe s
theorem Yl {M:Model}{A:Around}{E:Value->Shared->Prop}{s:Shared}{tg:Expr}{it:Addr}{u:Value}{o:Obj}{n:String}{vs:Array Value}{Q:Unit->Shared->Prop}(ho:s.heap.get? it=some o)(hc:o.cls=.type n)(hd:o.data=.fields vs)
    (hn:["enumerate", "zip", "dict_itemiterator", "dict_reverseitemiterator", "odict_iterator", "itertools.zip_longest", "itertools.pairwise"].contains n=false) (hQ:Q () s):wpAny M A (letOwnedTupleGo tg (.ref it) u) Q E s:=by
  unfold letOwnedTupleGo
  cases tg<;>first
    | exact jm_ hQ
    | (cases u<;>first
        | exact jm_ hQ
        | (refine jb_ (wpAny_load ho ?_)
           rw[hc,hd]
           show wpAny M A (if (["enumerate", "zip", "dict_itemiterator", "dict_reverseitemiterator", "odict_iterator", "itertools.zip_longest", "itertools.pairwise"].contains n&&vs[0]? == some (rawInt _))=true then _ else _) Q E s
           rw[if_neg (by intro h;rw[hn,Bool.false_and] at h;cases h)]
           exact jm_ hQ))
def Itl (K:α3)(a:Addr):It :=
 ⟨fun i H=>∃ xs x,SqL K H a xs/\xs[i]?=some x,fun i H x H'=>H'=H/\∀ xs,SqL K H a xs->xs[i]?=some x,fun i H=>∃ xs,SqL K H a xs/\xs.length<=i⟩
def Itt (K:α3)(a:Addr):It :=
 ⟨fun i H=>∃ xs x,SqT K H a xs/\xs[i]?=some x,fun i H x H'=>H'=H/\∀ xs,SqT K H a xs->xs[i]?=some x,fun i H=>∃ xs,SqT K H a xs/\xs.length<=i⟩
def Itr (lo:Int)(n:Nat):It:=⟨fun i _=>i<n,fun i H x H'=>H'=H/\x=.int (lo+i),fun i _=>n<=i⟩
theorem Oe {P:Program}{w:World}{K:α3}{tg:Expr}(a it:Addr):Turn P w K tg (Itl K a) [it] it (fun i h=>h.IsListIter it a i) where
 mem:=by simp
 obj:=fun i h st b hb=>by
  have e:b=it:=by simpa using hb
  subst e
  obtain⟨o,e,c,d⟩:=st
  exact⟨o,e,fun v z=>by rw[d] at z;cases z⟩
 keep:=fun i h h' st k=>st.at fun o e=>k it (by simp) o e
 item:=by
  intro X hP hw hK hc i pins s σ H E I hf st hg
  subst hP hw hK
  obtain⟨xs,x,hq,hx⟩:=hg
  obtain⟨its,rv,p,hz⟩:=I.list hq
  obtain⟨u,hu,ru⟩:=rv.get hx
  obtain⟨f0,f1,f2,f3,f4,f5⟩:=hf it (by simp)
  refine wpAny_pyNext_list_item st p.isList (x:=u) (by simpa using hu) fun h' st' sb=>?_
  have I1:Inv X pins σ H {s with heap:=h' }:=I.turned (t':=s.toks) (fun b o hb e=>(sb.2 b hb).trans e) f0 f1 f3 f4 f5
  obtain⟨o,e,c,d⟩:=id st'
  exact⟨u,rfl,Yl (s:={s with heap:=h' }) e c d (by decide) ⟨x,H,I1,ru,⟨rfl,fun ys hy=>by rw[I.list_inj hy hq];exact hx⟩,st',fun b hb=>(hf b hb).1⟩⟩
 done:=by
  intro X hP hw hK hc i pins s σ H E I hf st hg
  subst hP hw hK
  obtain⟨xs,hq,hx⟩:=hg
  obtain⟨its,rv,p,hz⟩:=I.list hq
  obtain⟨f0,f1,f2,f3,f4,f5⟩:=hf it (by simp)
  have hl:=rv.length
  exact wpAny_pyNext_list_end (I.ok.hd hc) st p.isList (by simp;omega) fun h' eb=>⟨rfl,I.turned (t':=s.toks) (fun b o hb e=>eb b o hb e) f0 f1 f3 f4 f5⟩
 self:=fun _ _ _ _ _ st h=>wpAny_pyIter_listiter st h
theorem L4 {P:Program}{w:World}{K:α3}{tg:Expr}(a it:Addr):Turn P w K tg (Itt K a) [it] it (fun i h=>h.IsTupleIter it a i) where
 mem:=by simp
 obj:=fun i h st b hb=>by
  have e:b=it:=by simpa using hb
  subst e
  obtain⟨o,e,c,d⟩:=st
  exact⟨o,e,fun v z=>by rw[d] at z;cases z⟩
 keep:=fun i h h' st k=>st.at fun o e=>k it (by simp) o e
 item:=by
  intro X hP hw hK hc i pins s σ H E I hf st hg
  subst hP hw hK
  obtain⟨xs,x,hq,hx⟩:=hg
  obtain⟨its,rv,p,hz⟩:=I.tuple hq
  obtain⟨u,hu,ru⟩:=rv.get hx
  obtain⟨f0,f1,f2,f3,f4,f5⟩:=hf it (by simp)
  refine wpAny_pyNext_tuple_item st (show s.heap.IsTuple a its.toArray from p) (x:=u) (by simpa using hu) fun h' st' sb=>?_
  have I1:Inv X pins σ H {s with heap:=h' }:=I.turned (t':=s.toks) (fun b o hb e=>(sb.2 b hb).trans e) f0 f1 f3 f4 f5
  obtain⟨o,e,c,d⟩:=id st'
  exact⟨u,rfl,Yl (s:={s with heap:=h' }) e c d (by decide) ⟨x,H,I1,ru,⟨rfl,fun ys hy=>by rw[I.tuple_inj hy hq];exact hx⟩,st',fun b hb=>(hf b hb).1⟩⟩
 done:=by
  intro X hP hw hK hc i pins s σ H E I hf st hg
  subst hP hw hK
  obtain⟨xs,hq,hx⟩:=hg
  obtain⟨its,rv,p,hz⟩:=I.tuple hq
  obtain⟨f0,f1,f2,f3,f4,f5⟩:=hf it (by simp)
  have hl:=rv.length
  exact wpAny_pyNext_tuple_end (I.ok.hd hc) st (show s.heap.IsTuple a its.toArray from p) (by simp;omega) fun h' eb=>⟨rfl,I.turned (t':=s.toks) (fun b o hb e=>eb b o hb e) f0 f1 f3 f4 f5⟩
 self:=fun _ _ _ _ _ st h=>wpAny_pyIter_tupleiter st h
theorem R3 {P:Program}{w:World}{K:α3}{tg:Expr}(it:Addr)(lo:Int)(n:Nat):Turn P w K tg (Itr lo n) [it] it (fun i h=>IsRangeIter h it (lo+(i:Nat)*1) ((n:Int)-(i:Nat)) 1) where
 mem:=by simp
 obj:=fun i h st b hb=>by
  have e:b=it:=by simpa using hb
  subst e
  exact⟨_,st,fun v z=>by
   have z':Data.fields _=Data.cell v:=z
   cases z'⟩
 keep:=fun i h h' st k=>k it (by simp) _ st
 item:=by
  intro X hP hw hK hc i pins s σ H E I hf st hg
  subst hP hw hK
  obtain⟨f0,f1,f2,f3,f4,f5⟩:=hf it (by simp)
  have W:=Walks.range (prog:=X.prog) (w:=X.w) (I.ok.hd hc) it lo 1 n
  refine W.item i s _ _ hg st fun v h' tk hv st' kk=>?_
  obtain⟨t,rfl⟩:=hv
  have I1:Inv X pins σ H {s with heap:=h',toks:=tk}:=I.turned (fun b o hb e=>kk b o (by simpa using hb) e) f0 f1 f3 f4 f5
  refine⟨_,rfl,Yl (s:={s with heap:=h',toks:=tk}) (n := "range_iterator") st' rfl rfl (by decide) ⟨.int (lo+i),H,I1,⟨t,?_⟩,⟨rfl,rfl⟩,st',fun b hb=>(hf b hb).1⟩⟩
  rw[Int.mul_one]
 done:=by
  intro X hP hw hK hc i pins s σ H E I hf st hg
  subst hP hw hK
  obtain⟨f0,f1,f2,f3,f4,f5⟩:=hf it (by simp)
  exact wpAny_pyNext_range_end (I.ok.hd hc) st (by have:n<=i:=hg;omega) fun h' eb=>⟨rfl,I.turned (t':=s.toks) (fun b o hb e=>eb b o hb e) f0 f1 f3 f4 f5⟩
 self:=fun _ _ _ _ _ st h=>wpAny_pyIter_rangeiter st h
end L2
namespace L2
open PySem PySem.Spec PyProof.Rows
section
variable {X:Cx} {tg:Expr}
def ZN (K:α3)(tl:TE):TI:=fun σ H R=>tl σ H fun x H1=>∃ a,x=.ref a/\(∃ xs,SqL K H1 a xs)/\R (Itl K a) H1
def iTup (K:α3)(tl:TE):TI:=fun σ H R=>tl σ H fun x H1=>∃ a,x=.ref a/\(∃ xs,SqT K H1 a xs)/\R (Itt K a) H1
theorem Cg {l:Expr}{tl:TE}(hl:PE X l tl):PI X tg l (ZN X.K tl):=by
 intro pins s σ H R I h
 refine thn (hl pins s σ H _ I h) fun v s1 ⟨x,H1,I1,r1,q1⟩=>?_
 obtain⟨a,e,⟨xs,hq⟩,q⟩:=q1
 subst e
 cases r1
 obtain⟨its,rv,p,hz⟩:=I1.list hq
 refine zq_ p.isList ?_
 refine⟨s1.heap.objs.size,[s1.heap.objs.size],_,_,H1,rfl,I1.kept (t':=s1.toks) fun b o e=>jf_ _ e,Oe a _,⟨_,jy_ _ rfl,rfl,rfl⟩,fun b hb=>?_,q⟩
 have e:b=s1.heap.objs.size:=by simpa using hb
 subst e
 exact I1.fpOk (jl_ _) (I1.hok.fresh (jl_ _))
theorem Hy {l:Expr}{tl:TE}(hl:PE X l tl):PI X tg l (iTup X.K tl):=by
 intro pins s σ H R I h
 refine thn (hl pins s σ H _ I h) fun v s1 ⟨x,H1,I1,r1,q1⟩=>?_
 obtain⟨a,e,⟨xs,hq⟩,q⟩:=q1
 subst e
 cases r1
 obtain⟨its,rv,p,hz⟩:=I1.tuple hq
 refine xk_ (show s1.heap.IsTuple a its.toArray from p) ?_
 refine⟨s1.heap.objs.size,[s1.heap.objs.size],_,_,H1,rfl,I1.kept (t':=s1.toks) fun b o e=>jf_ _ e,L4 a _,⟨_,jy_ _ rfl,rfl,rfl⟩,fun b hb=>?_,q⟩
 have e:b=s1.heap.objs.size:=by simpa using hb
 subst e
 exact I1.fpOk (jl_ _) (I1.hok.fresh (jl_ _))
theorem Vz {pins:α7}{σ:St}{H:Hp}{s:Shared}{R:It->Hp->Prop}{E:Value->Shared->Prop}{lo hi:Int}{t u v:Tok}{tk:Nat}(I:Inv X pins σ H s)(h1 : -(2 ^ 62)<=lo)(h2:lo<2 ^ 62)(h3 : -(2 ^ 62)<=hi)(h4:hi<2 ^ 62)
  (q:R (Itr lo (hi-lo).toNat) H):wpAny (model X.prog X.w) X.A (pyIter (.ref s.heap.objs.size)) (PIE X pins σ tg R) E {s with heap:=s.heap.push {cls:=.type "range",data:=.fields #[.int lo t,.int hi u,.int 1 v]},toks:=tk}:=by
 refine wpAny_pyIter_range (IsRange.new ..) (small_one h1 h2 h3 h4) ?_
 have I1:Inv X pins σ H {s with heap:=s.heap.push {cls:=.type "range",data:=.fields #[.int lo t,.int hi u,.int 1 v]},toks:=tk}:=I.kept fun b o e=>jf_ _ e
 refine⟨(s.heap.push {cls:=.type "range",data:=.fields #[.int lo t,.int hi u,.int 1 v]}).objs.size,[(s.heap.push {cls:=.type "range",data:=.fields #[.int lo t,.int hi u,.int 1 v]}).objs.size],_,_,H,rfl,
  I1.kept (t':=tk) fun b o e=>jf_ _ e,R3 _ lo (hi-lo).toNat,?_,fun b hb=>?_,q⟩
 ·have e1:lo+((0:Nat):Int)*1=lo:=by simp
  have e2:(((hi-lo).toNat:Nat):Int)-((0:Nat):Int)=Builtin.Range.rangeSize lo hi 1:=by rw[rangeSize_one];split<;>omega
  show IsRangeIter _ _ (lo+((0:Nat):Int)*1) ((((hi-lo).toNat:Nat):Int)-((0:Nat):Int)) 1
  rw[e1,e2]
  exact jy_ _ rfl
 ·have e:b=(s.heap.push {cls:=.type "range",data:=.fields #[.int lo t,.int hi u,.int 1 v]}).objs.size:=by simpa using hb
  subst e
  exact I1.fpOk (jl_ _) (I1.hok.fresh (jl_ _))
def ZO (ta:TA):TI:=fun σ H R=>ta σ H fun vs H1=>∃ j:Int,vs=[.int j] /\ -(2 ^ 62)<=j/\j<2 ^ 62/\R (Itr 0 j.toNat) H1
theorem BO {a:Expr}{ta:TA}{p pos:Pos}(hg:Gl X "range")(hm:X.mg "range" = none)(ha:PA X [a] ta)(hs:starEach [a] X.env=[(false,eval a X.env)]:=by rfl):PI X tg (.Call (.Name "range" p) [a] [] pos) (ZO ta):=by
 intro pins s σ H R I h
 refine Call_ (GV I hg hm boot_range (j7_ (thn (ha pos pins s σ H _ I h) fun us s1 ⟨vs,H1,I1,r1,q1⟩=>?_) hs rfl))
 obtain⟨j,e,q1,q2,q⟩:=q1
 subst e
 cases r1 with
 | cons r rr =>
  cases rr
  obtain⟨t,rfl⟩:=r
  exact call_range_1 (Vz I1 (by omega) (by omega) q1 q2 (by simpa using q))
def tFor (wi:TI)(g:TG)(tb:TS):TS:=fun D σ H=>wi σ H fun J H1=>∃ W:Nat->Nat->St->Hp->Prop,(∃ m,W 0 m σ H1)/\∀ i m σ H,W i m σ H ->
 (J.stop i H/\D.nx σ H)\/(J.go i H/\∃ N:St->Hp->Prop,(∀ σ' H',N σ' H'->∃ m',m'<m/\W (i+1) m' σ' H')/\∀ x H',J.yld i H x H'->g x σ H' fun σ2 H2=>tb {D with nx:=N,ct:=N,bk:=D.nx} σ2 H2)
def Of (fp:List Addr)(h:Heap):α7:=fp.filterMap fun b=>(h.get? b).map fun o=>(b,o)
theorem Gy {fp:List Addr}{h:Heap}{b:Addr}{o:Obj}(hb:b∈fp)(e:h.get? b=some o):(b,o)∈Of fp h:=zR_.mpr ⟨b,hb,by rw[e];rfl⟩
theorem TB {fp:List Addr}{h:Heap}{p:Addr×Obj}(hp:p∈Of fp h):p.1∈fp/\h.get? p.1=some p.2:=by
 obtain⟨b,hb,e⟩:=zR_.mp hp
 cases q:h.get? b with
 | none=>rw[q] at e;cases e
 | some o =>
  rw[q] at e
  have e':(b,o)=p:=js_ e
  subst e'
  exact⟨hb,q⟩
theorem Inv.pinned {pins:α7}{σ:St}{H:Hp}{s:Shared}{fp:List Addr}(I:Inv X pins σ H s)(hf:∀ b∈fp,FpOk X pins H b)(ho:∀ b∈fp,∃ o,s.heap.get? b=some o/\∀ v,o.data ≠ .cell v):Inv X (pins++Of fp s.heap) σ H s :=
 I.pins_of fun p hp=>(jB_.mp hp).elim (fun z=>I.pin p (jD_ _ z)) fun z=>by
  obtain⟨hb,e⟩:=TB z
  obtain⟨f0,f1,f2,_⟩:=hf p.1 hb
  obtain⟨o,e',d⟩:=ho p.1 hb
  rw[e] at e';cases e'
  exact⟨e,f0,f1,f2,d⟩
theorem Inv.unpinned {pins pl:α7}{σ:St}{H:Hp}{s:Shared}(I:Inv X (pins++pl) σ H s):Inv X pins σ H s:=I.pins_of fun p hp=>I.pin p (jD_ _ (qb_ _ hp))
theorem CJ {iter:Expr}{body:List Stmt}{wi:TI}{g:TG}{tb:TS}{pos:Pos}(hp:PassesOwn (model X.prog X.w) X.A X.env X.xe)(hc:X.calm=true)(hi:PI X tg iter wi)(hg:PG X tg g)(hb:PSs X body tb)
  (hs:∀ x,foldedSetIterable iter X.env x=pure x:=by intro _;rfl):PS X (.For tg iter body [] pos) (tFor wi g tb):=by
 intro pins s σ H D I h
 refine wpAny_For (thn (hi pins s σ H _ I h) fun v s1 h1=>thn h1 fun itv s2 h2=>?_) hs
 obtain⟨it,fp,tn,J,H2,e,I2,T,st2,f2,W,⟨m0,w0⟩,turn⟩:=h2
 subst e
 -- what stays true of the iterator's objects through the loop
 have stat:∀ {H':Hp},(∀ b∈fp,H' b=none)->∀ b∈fp,FpOk X pins H' b:=fun hn b hb=>⟨hn b hb,(f2 b hb).2⟩
 refine codeAny_forLoop_any (fun n s'=>∃ i σ' H',Inv X pins σ' H' s'/\tn i s'.heap/\(∀ b∈fp,H' b=none)/\W i n σ' H') ?_ m0 ⟨0,σ,H2,I2,st2,fun b hb=>(f2 b hb).1,w0⟩
 rintro n s3 ⟨i,σ3,H3,I3,st3,fr3,w3⟩
 rcases turn i n σ3 H3 w3 with ⟨stop,qn⟩ | ⟨go,N,hN,step⟩
 ·refine xy_ hp (thn (T.done X rfl rfl rfl hc i pins s3 σ3 H3 X.xe I3 (stat fr3) st3 stop) fun r s4 ⟨hr,I4⟩=>?_)
  subst hr
  exact zJ_ ⟨σ3,H3,I4,qn⟩
 ·refine xy_ hp (thn (T.item X rfl rfl rfl hc i pins s3 σ3 H3 X.xe I3 (stat fr3) st3 go) fun r s4 ⟨u,hr,h4⟩=>?_)
  subst hr
  refine xy_ hp (thn h4 fun _ s5 ⟨x,H5,I5,r5,y5,st5,fr5⟩=>?_)
  have I5':=I5.pinned (stat fr5) (T.obj _ _ st5)
  refine xy_ hp (thn (hg _ s5 σ3 H5 x u _ I5' r5 (step x H5 y5)) fun _ s6 ⟨σ6,H6,I6,q6⟩=>?_)
  refine xy_ hp (thn (hb _ s6 σ6 H6 _ I6 q6) fun f s7 q7=>?_)
  have again:∀ {σ7:St} {H7:Hp},Inv X (pins++Of fp s5.heap) σ7 H7 s7->N σ7 H7->∃ m,m<n/\∃ i σ' H',Inv X pins σ' H' s7/\tn i s7.heap/\(∀ b∈fp,H' b=none)/\W i m σ' H':=fun {σ7 H7} I7 n7=>by
   obtain⟨m',hm,w7⟩:=hN σ7 H7 n7
   refine⟨m',hm,i+1,σ7,H7,I7.unpinned,T.keep _ _ _ st5 fun b hb o e=>(I7.pin (b,o) (jD_ _ (jD_ _ (Gy hb e)))).1,fun b hb=>?_,w7⟩
   obtain⟨o,e,d⟩:=T.obj _ _ st5 b hb
   exact (I7.pin (b,o) (jD_ _ (jD_ _ (Gy hb e)))).2.1
  cases f with
  | next=>obtain⟨σ7,H7,I7,n7⟩:=q7;exact again I7 n7
  | cont=>obtain⟨σ7,H7,I7,n7⟩:=q7;exact again I7 n7
  | brk=>obtain⟨σ7,H7,I7,q7⟩:=q7;exact⟨σ7,H7,I7.unpinned,q7⟩
  | ret v=>obtain⟨x7,σ7,H7,I7,r7,q7⟩:=q7;exact⟨x7,σ7,H7,I7.unpinned,r7,q7⟩
end
theorem VA {K:α3}{a:Addr}{xs:List V}{g:TG}{tb:TS}{D:Ends}{σ:St}{H:Hp}(Pv:Nat->St->Hp->Prop)(h0:Pv 0 σ H)(hl:∀ i σ H,i<=xs.length->Pv i σ H->SqL K H a xs)
  (hs:∀ i x σ H,xs[i]?=some x->Pv i σ H->g x σ H fun σ2 H2=>tb {D with nx:=Pv (i+1),ct:=Pv (i+1),bk:=D.nx} σ2 H2) (hd:∀ σ H,Pv xs.length σ H->D.nx σ H) :
  ∃ W:Nat->Nat->St->Hp->Prop,(∃ m,W 0 m σ H)/\∀ i m σ H,W i m σ H ->
   ((Itl K a).stop i H/\D.nx σ H)\/((Itl K a).go i H/\∃ N:St->Hp->Prop,(∀ σ' H',N σ' H'->∃ m',m'<m/\W (i+1) m' σ' H')/\∀ x H',(Itl K a).yld i H x H'->g x σ H' fun σ2 H2=>tb {D with nx:=N,ct:=N,bk:=D.nx} σ2 H2):=by
 refine⟨fun i m σ H=>m=xs.length-i/\i<=xs.length/\Pv i σ H,⟨xs.length,by simp,j0_ _,h0⟩,?_⟩
 rintro i m σ H ⟨rfl,hi,p⟩
 have q:=hl i σ H hi p
 by_cases hlt:i<xs.length
 ·refine .inr ⟨⟨xs,xs[i],q,by simp[hlt]⟩,Pv (i+1),fun σ' H' p'=>⟨xs.length-(i+1),by omega,rfl,hlt,p'⟩,fun x H' y=>?_⟩
  obtain⟨e,y⟩:=y
  subst e
  exact hs i x σ _ (y xs q) p
 ·have e:i=xs.length:=by omega
  subst e
  exact .inl ⟨⟨xs,q,jl_ _⟩,hd σ H p⟩
theorem Ym {K:α3}{a:Addr}{xs:List V}{g:TG}{tb:TS}{D:Ends}{σ:St}{H:Hp}(Pv:Nat->St->Hp->Prop)(h0:Pv 0 σ H)(hl:∀ i σ H,i<=xs.length->Pv i σ H->SqT K H a xs)
  (hs:∀ i x σ H,xs[i]?=some x->Pv i σ H->g x σ H fun σ2 H2=>tb {D with nx:=Pv (i+1),ct:=Pv (i+1),bk:=D.nx} σ2 H2) (hd:∀ σ H,Pv xs.length σ H->D.nx σ H) :
  ∃ W:Nat->Nat->St->Hp->Prop,(∃ m,W 0 m σ H)/\∀ i m σ H,W i m σ H ->
   ((Itt K a).stop i H/\D.nx σ H)\/((Itt K a).go i H/\∃ N:St->Hp->Prop,(∀ σ' H',N σ' H'->∃ m',m'<m/\W (i+1) m' σ' H')/\∀ x H',(Itt K a).yld i H x H'->g x σ H' fun σ2 H2=>tb {D with nx:=N,ct:=N,bk:=D.nx} σ2 H2):=by
 refine⟨fun i m σ H=>m=xs.length-i/\i<=xs.length/\Pv i σ H,⟨xs.length,by simp,j0_ _,h0⟩,?_⟩
 rintro i m σ H ⟨rfl,hi,p⟩
 have q:=hl i σ H hi p
 by_cases hlt:i<xs.length
 ·refine .inr ⟨⟨xs,xs[i],q,by simp[hlt]⟩,Pv (i+1),fun σ' H' p'=>⟨xs.length-(i+1),by omega,rfl,hlt,p'⟩,fun x H' y=>?_⟩
  obtain⟨e,y⟩:=y
  subst e
  exact hs i x σ _ (y xs q) p
 ·have e:i=xs.length:=by omega
  subst e
  exact .inl ⟨⟨xs,q,jl_ _⟩,hd σ H p⟩
theorem TC {lo:Int}{n:Nat}{g:TG}{tb:TS}{D:Ends}{σ:St}{H:Hp}(Pv:Nat->St->Hp->Prop)(h0:Pv 0 σ H)
  (hs:∀ i σ H,i<n->Pv i σ H->g (.int (lo+i)) σ H fun σ2 H2=>tb {D with nx:=Pv (i+1),ct:=Pv (i+1),bk:=D.nx} σ2 H2) (hd:∀ σ H,Pv n σ H->D.nx σ H) :
  ∃ W:Nat->Nat->St->Hp->Prop,(∃ m,W 0 m σ H)/\∀ i m σ H,W i m σ H ->
   ((Itr lo n).stop i H/\D.nx σ H)\/((Itr lo n).go i H/\∃ N:St->Hp->Prop,(∀ σ' H',N σ' H'->∃ m',m'<m/\W (i+1) m' σ' H')/\∀ x H',(Itr lo n).yld i H x H'->g x σ H' fun σ2 H2=>tb {D with nx:=N,ct:=N,bk:=D.nx} σ2 H2):=by
 refine⟨fun i m σ H=>m=n-i/\i<=n/\Pv i σ H,⟨n,by simp,j0_ _,h0⟩,?_⟩
 rintro i m σ H ⟨rfl,hi,p⟩
 by_cases hlt:i<n
 ·refine .inr ⟨hlt,Pv (i+1),fun σ' H' p'=>⟨n-(i+1),by omega,rfl,hlt,p'⟩,fun x H' y=>?_⟩
  obtain⟨e,y⟩:=y
  subst e y
  exact hs i σ _ hlt p
 ·have e:i=n:=by omega
  subst e
  exact .inl ⟨jl_ _,hd σ H p⟩
end L2
namespace L2
open PySem PySem.Spec PyProof.Rows
abbrev R2:=V->V->Hp->VK->Prop
def OpR (X:Cx)(f:Value->Value->Sem Value)(r:R2):Prop :=
 ∀ (pins:α7) (s:Shared) (σ:St) (H:Hp) (x y:V) (v u:Value) (Q:VK),Inv X pins σ H s->RelV x v->RelV y u->r x y H Q ->
  wpAny (model X.prog X.w) X.A (f v u) (EP X pins σ Q) X.xe s
def UnR (X:Cx)(f:Value->Sem Value)(r:V->Hp->VK->Prop):Prop :=
 ∀ (pins:α7) (s:Shared) (σ:St) (H:Hp) (x:V) (v:Value) (Q:VK),Inv X pins σ H s->RelV x v->r x H Q ->
  wpAny (model X.prog X.w) X.A (f v) (EP X pins σ Q) X.xe s
def EF (X:Cx)(f:Value)(r:List V->Hp->VK->Prop):Prop :=
 ∀ (pins:α7) (s:Shared) (σ:St) (H:Hp) (xs:List V) (us:List Value) (Q:VK),Inv X pins σ H s->Vals xs us->r xs H Q ->
  wpAny (model X.prog X.w) X.A (call f us) (EP X pins σ Q) X.xe s
def tOp (r:R2)(ta tb:TE):TE:=fun σ H Q=>ta σ H fun x H1=>tb σ H1 fun y H2=>r x y H2 Q
def tUn (r:V->Hp->VK->Prop)(ta:TE):TE:=fun σ H Q=>ta σ H fun x H1=>r x H1 Q
def rI (C:Int->Int->Prop)(g:Int->Int->V):R2:=fun x y H Q=>∃ i j,x=.int i/\y=.int j/\C i j/\Q (g i j) H
def rI0 (g:Int->Int->V):R2:=fun x y H Q=>∃ i j,x=.int i/\y=.int j/\Q (g i j) H
def rU (g:Int->V):V->Hp->VK->Prop:=fun x H Q=>∃ i,x=.int i/\Q (g i) H
section
variable {X:Cx} {a b c:Expr} {ta tb tc:TE} {pos:Pos}
theorem binT (ha:PE X a ta)(hb:PE X b tb){pins:α7}{s:Shared}{σ:St}{H:Hp}{R:V->V->Hp->Prop}(I:Inv X pins σ H s)
  (h:ta σ H fun x H1=>tb σ H1 fun y H2=>R x y H2) {Q:Value->Shared->Prop} {f:Value->Value->Sem Value}
  (hf:∀ v u s2 x y H2,Inv X pins σ H2 s2->RelV x v->RelV y u->R x y H2->wpAny (model X.prog X.w) X.A (f v u) Q X.xe s2) :
  wpAny (model X.prog X.w) X.A (eval a X.env) (fun v s₁=>wpAny (model X.prog X.w) X.A (eval b X.env) (fun u s₂=>wpAny (model X.prog X.w) X.A (f v u) Q X.xe s₂) X.xe s₁) X.xe s:=by
 refine thn (ha pins s σ H _ I h) fun v s1 ⟨x,H1,I1,r1,q1⟩=>?_
 refine thn (hb pins s1 σ H1 _ I1 q1) fun u s2 ⟨y,H2,I2,r2,q2⟩=>?_
 exact hf v u s2 x y H2 I2 r1 r2 q2
theorem At {op:Operator}{r:R2}(ho:OpR X (binaryOp op) r)(ha:PE X a ta)(hb:PE X b tb):PE X (.BinOp a op b pos) (tOp r ta tb):=by
 intro pins s σ H Q I h
 exact wpAny_BinOp (binT ha hb I h fun v u s2 x y H2 I2 rx ry q=>ho pins s2 σ H2 x y v u Q I2 rx ry q)
theorem ZP {op:UnaryOp}{r:V->Hp->VK->Prop}(ho:UnR X (unaryOp op) r)(ha:PE X a ta):PE X (.UnaryOp op a pos) (tUn r ta):=by
 intro pins s σ H Q I h
 exact UnaryOp_ (thn (ha pins s σ H _ I h) fun v s1 ⟨x,H1,I1,r1,q1⟩=>ho pins s1 σ H1 x v Q I1 r1 q1)
theorem opI {f:Value->Value->Sem Value}{C:Int->Int->Prop}{g:Int->Int->Int}
  (rule:∀ (i j:Int) (t u:Tok) (s:Shared) (Q:Value->Shared->Prop) (E:Value->Shared->Prop),C i j->Q (.int (g i j) s.toks) {s with toks:=s.toks+1}->wpAny (model X.prog X.w) X.A (f (.int i t) (.int j u)) Q E s) :
  OpR X f (rI C fun i j=>.int (g i j)):=by
 intro pins s σ H x y v u Q I rx ry h
 obtain⟨i,j,rfl,rfl,hc,q⟩:=h
 obtain⟨t,rfl⟩:=rx
 obtain⟨t',rfl⟩:=ry
 exact rule i j t t' s _ _ hc ⟨.int (g i j),H,I.tok _,⟨_,rfl⟩,q⟩
theorem opI0 {f:Value->Value->Sem Value}{g:Int->Int->Int}
  (rule:∀ (i j:Int) (t u:Tok) (s:Shared) (Q:Value->Shared->Prop) (E:Value->Shared->Prop),Q (.int (g i j) s.toks) {s with toks:=s.toks+1}->wpAny (model X.prog X.w) X.A (f (.int i t) (.int j u)) Q E s) :
  OpR X f (rI0 fun i j=>.int (g i j)):=by
 intro pins s σ H x y v u Q I rx ry h
 obtain⟨i,j,rfl,rfl,q⟩:=h
 obtain⟨t,rfl⟩:=rx
 obtain⟨t',rfl⟩:=ry
 exact rule i j t t' s _ _ ⟨.int (g i j),H,I.tok _,⟨_,rfl⟩,q⟩
theorem opB0 {f:Value->Value->Sem Value}{g:Int->Int->Bool}
  (rule:∀ (i j:Int) (t u:Tok) (s:Shared) (Q:Value->Shared->Prop) (E:Value->Shared->Prop),Q (.bool (g i j)) s->wpAny (model X.prog X.w) X.A (f (.int i t) (.int j u)) Q E s) :
  OpR X f (rI0 fun i j=>.bl (g i j)):=by
 intro pins s σ H x y v u Q I rx ry h
 obtain⟨i,j,rfl,rfl,q⟩:=h
 obtain⟨t,rfl⟩:=rx
 obtain⟨t',rfl⟩:=ry
 exact rule i j t t' s _ _ ⟨.bl (g i j),H,I,rfl,q⟩
def CDiv (i j:Int):Prop:=0<j/\j<1073741824
def CMul (i j:Int):Prop:=(-(2 ^ 64)<i/\i<2 ^ 64)\/(-(2 ^ 64)<j/\j<2 ^ 64)
theorem CMul.ok {i j:Int}(h:CMul i j):IntMulOk i j:=by
 rcases h with ⟨h1,h2⟩ | ⟨h1,h2⟩
 ·exact .of_left (intBits_le_64 h1 h2)
 ·exact .of_right (intBits_le_64 h1 h2)
theorem Cd:OpR X (binaryOp .Add) (rI0 fun i j=>.int (i+j)):=opI0 fun _ _ _ _ _ _ _ q=>add_int q
theorem ET:OpR X (binaryOp .Sub) (rI0 fun i j=>.int (i-j)):=opI0 fun _ _ _ _ _ _ _ q=>sub_int q
theorem J7:OpR X (binaryOp .Mult) (rI CMul fun i j=>.int (i*j)):=opI fun _ _ _ _ _ _ _ hc q=>mul_int q hc.ok
theorem FZ:OpR X (binaryOp .FloorDiv) (rI CDiv fun i j=>.int (i / j)):=opI fun i j _ _ _ _ _ hc q=>by
 have h1:(0:Int)<j:=hc.1
 have h2:j<1073741824:=hc.2
 exact floordiv_int (by omega) (by rw[Int.fdiv_eq_ediv_of_nonneg i (by omega)];exact q) (.inl (PyProof.noPylong_small (by omega)))
theorem Bx:OpR X (binaryOp .Mod) (rI (fun _ j=>0<j) fun i j=>.int (i%j)):=opI fun i j _ _ _ _ _ hc q=>by
 have h1:(0:Int)<j:=hc
 exact mod_int' (by omega) (by rw[Int.fmod_eq_emod_of_nonneg i (by omega)];exact q)
theorem unI {f:Value->Sem Value}{g:Int->Int}
  (rule:∀ (i:Int) (t:Tok) (s:Shared) (Q:Value->Shared->Prop) (E:Value->Shared->Prop),Q (.int (g i) s.toks) {s with toks:=s.toks+1}->wpAny (model X.prog X.w) X.A (f (.int i t)) Q E s) :
  UnR X f (rU fun i=>.int (g i)):=by
 intro pins s σ H x v Q I rx h
 obtain⟨i,rfl,q⟩:=h
 obtain⟨t,rfl⟩:=rx
 exact rule i t s _ _ ⟨.int (g i),H,I.tok _,⟨_,rfl⟩,q⟩
theorem Xa:UnR X (unaryOp .USub) (rU fun i=>.int (-i)):=unI fun _ _ _ _ _ q=>neg_int q
end
def scal:V->V->Bool
 | .non,.non=>true | .non,.int _=>true | .int _,.non=>true | .non,.bl _=>true | .bl _,.non=>true | .non,.str _=>true | .str _,.non=>true
 | .int _,.int _=>true | .bl _,.bl _=>true | .str _,.str _=>true | .byt _,.byt _=>true
 | .int _,.str _=>true | .str _,.int _=>true | .bl _,.str _=>true | .str _,.bl _=>true
 | _,_=>false
def rEq:R2:=fun x y H Q=>scal x y=true/\Q (.bl (decide (x=y))) H
theorem Yn {i j:Int}:decide (V.int i=V.int j)=(i == j):=by
 rw[qn_]
 simp
theorem ZQ {i j:Bool}:decide (V.bl i=V.bl j)=(i == j):=by
 rw[qn_]
 simp
theorem Yo {i j:Str}:decide (V.str i=V.str j)=(i == j):=by
 rw[qn_]
 simp
theorem Yp {i j:Array UInt8}:decide (V.byt i=V.byt j)=(i.toList == j.toList):=by
 rw[qn_]
 cases i
 cases j
 simp
section
variable {X:Cx} {a b c:Expr} {ta tb tc:TE} {pos:Pos}
theorem D8 {pins:α7}{σ:St}{H:Hp}{s:Shared}{Q:VK}{k k':Bool}(I:Inv X pins σ H s)(q:Q (.bl k) H)(e:k=k'):EP X pins σ Q (.bool k') s:=by
 subst e
 exact⟨.bl k,H,I,rfl,q⟩
theorem DV:OpR X (compareOp .Eq) rEq:=by
 intro pins s σ H x y v u Q I rx ry h
 obtain⟨hs,q⟩:=h
 cases x with
 | non =>
  cases rx
  cases y with
  | non=>cases ry;exact PySem.EqNone.eq_none_none (D8 I q (by simp))
  | bl j=>cases ry;exact PySem.EqNone.eq_none_bool (D8 I q (by simp))
  | int j=>obtain⟨t',rfl⟩:=ry;exact PySem.EqNone.eq_none_int (D8 I q (by simp))
  | str j=>obtain⟨t',rfl⟩:=ry;exact PySem.EqNone.eq_none_str (D8 I q (by simp))
  | _=>exact absurd (show false=true from hs) jp_
 | bl i =>
  cases rx
  cases y with
  | non=>cases ry;exact PySem.EqNone.eq_bool_none (D8 I q (by simp))
  | bl j=>cases ry;exact eq_bool (D8 I q ZQ)
  | str j=>obtain⟨t',rfl⟩:=ry;exact PySem.EqMixed.eq_bool_str (D8 I q (by simp))
  | _=>exact absurd (show false=true from hs) jp_
 | int i =>
  obtain⟨t,rfl⟩:=rx
  cases y with
  | non=>cases ry;exact PySem.EqNone.eq_int_none (D8 I q (by simp))
  | int j=>obtain⟨t',rfl⟩:=ry;exact eq_int (D8 I q Yn)
  | str j=>obtain⟨t',rfl⟩:=ry;exact PySem.EqMixed.eq_int_str (D8 I q (by simp))
  | _=>exact absurd (show false=true from hs) jp_
 | str i =>
  obtain⟨t,rfl⟩:=rx
  cases y with
  | non=>cases ry;exact PySem.EqNone.eq_str_none (D8 I q (by simp))
  | bl j=>cases ry;exact PySem.EqMixed.eq_str_bool (D8 I q (by simp))
  | int j=>obtain⟨t',rfl⟩:=ry;exact PySem.EqMixed.eq_str_int (D8 I q (by simp))
  | str j=>obtain⟨t',rfl⟩:=ry;exact eq_str (D8 I q Yo)
  | _=>exact absurd (show false=true from hs) jp_
 | byt i =>
  obtain⟨t,rfl⟩:=rx
  cases y with
  | byt j=>obtain⟨t',rfl⟩:=ry;exact PySem.W.eq_bytes (D8 I q Yp)
  | _=>exact absurd (show false=true from hs) jp_
 | _=>cases y<;>exact absurd (show false=true from hs) jp_
theorem Lz:OpR X (compareOp .Lt) (rI0 fun i j=>.bl (decide (i<j))):=opB0 fun _ _ _ _ _ _ _ q=>lt_int q
theorem ZR:OpR X (compareOp .LtE) (rI0 fun i j=>.bl (decide (i<=j))):=opB0 fun _ _ _ _ _ _ _ q=>le_int q
theorem Yq:OpR X (compareOp .Gt) (rI0 fun i j=>.bl (decide (j<i))):=opB0 fun _ _ _ _ _ _ _ q=>gt_int q
theorem AW (b:Expr){op:CmpOp}(h:op ≠ .In:=by decide)(h2:op ≠ .NotIn:=by decide):behindInMarks op b=false:=by
 have e1:(op == CmpOp.In)=false:=by cases op<;>first | rfl | exact absurd rfl h
 have e2:(op == CmpOp.NotIn)=false:=by cases op<;>first | rfl | exact absurd rfl h2
 cases b<;>simp[behindInMarks,e1,e2]
theorem TD {op:CmpOp}{r:R2}(ho:OpR X (compareOp op) r)(ha:PE X a ta)(hb:PE X b tb)(hm:behindInMarks op b=false):PE X (.Compare a [op] [b] pos) (tOp r ta tb):=by
 intro pins s σ H Q I h
 exact wpAny_Compare1 (binT ha hb I h fun v u s2 x y H2 I2 rx ry q=>ho pins s2 σ H2 x y v u Q I2 rx ry q) hm
def VB (t:TE):TT:=fun σ H Q=>t σ H fun x H'=>∃ k,x=.bl k/\Q k H'
theorem AC {op:CmpOp}{r:R2}(ho:OpR X (compareOp op) r)(ha:PE X a ta)(hb:PE X b tb)(hm:behindInMarks op b=false):PT X (.Compare a [op] [b] pos) (VB (tOp r ta tb)):=by
 intro pins s σ H Q I h
 refine wpAny_isTrue_Compare1 (thn (ha pins s σ H _ I h) fun v s1 ⟨x,H1,I1,r1,q1⟩=>thn (hb pins s1 σ H1 _ I1 q1) fun u s2 ⟨y,H2,I2,r2,q2⟩ =>
  thn (ho pins s2 σ H2 x y v u _ I2 r1 r2 q2) fun c s3 ⟨z,H3,I3,r3,k,e,q3⟩=>?_) hm
 subst e
 cases r3
 exact xx_ ⟨H3,I3,q3⟩
def Xb (r r':R2)(ta tb tc:TE):TE:=fun σ H Q=>ta σ H fun x H1=>tb σ H1 fun y H2=>r x y H2 fun z H3=>∃ k,z=.bl k /\
 (if k=true then tc σ H3 fun w' H4=>r' y w' H4 Q else Q (.bl false) H3)
theorem VC {op op':CmpOp}{r r':R2}(ho:OpR X (compareOp op) r)(ho':OpR X (compareOp op') r')(ha:PE X a ta)(hb:PE X b tb)(hc:PE X c tc)
  (hm:lastMarks [op,op'] [b,c]=false:=by with_unfolding_all rfl):PE X (.Compare a [op,op'] [b,c] pos) (Xb r r' ta tb tc):=by
 intro pins s σ H Q I h
 refine Compare_chain (thn (ha pins s σ H _ I h) fun v s1 ⟨x,H1,I1,r1,q1⟩=>chain_link (thn (hb pins s1 σ H1 _ I1 q1) fun u s2 ⟨y,H2,I2,r2,q2⟩ =>
  thn (ho pins s2 σ H2 x y v u _ I2 r1 r2 q2) fun d s3 ⟨z,H3,I3,r3,k,e,q3⟩=>?_)) hm
 subst e
 cases r3
 refine xx_ ?_
 cases k with
 | false=>exact ite_ff ⟨.bl false,H3,I3,rfl,q3⟩
 | true=>exact ite_tt (chain_last (thn (hc pins s3 σ H3 _ I3 q3) fun w' s4 ⟨z',H4,I4,r4,q4⟩=>ho' pins s4 σ H4 y z' u w' Q I4 r2 r4 q4))
theorem Og:(sizeLine:Nat)<2 ^ 63:=by rw[sizeLine_eq];decide
theorem vals1 {x:V}{us:List Value}(r:Vals [x] us):∃ u,us=[u]/\RelV x u:=by
 cases r with
 | cons r1 r2=>cases r2;exact⟨_,rfl,r1⟩
theorem vals2 {x y:V}{us:List Value}(r:Vals [x,y] us):∃ u w',us=[u,w']/\RelV x u/\RelV y w':=by
 cases r with
 | cons r1 r2 =>
  cases r2 with
  | cons r3 r4=>cases r4;exact⟨_,_,rfl,r1,r3⟩
theorem TF (hc:X.calm=true):EF X (.builtin "min") (fun xs H Q=>∃ i j,xs=[.int i,.int j]/\Q (.int (if j<i then j else i)) H):=by
 intro pins s σ H xs us Q I r h
 obtain⟨i,j,rfl,q⟩:=h
 obtain⟨u,w',rfl,⟨t,rfl⟩,⟨t',rfl⟩⟩:=vals2 r
 refine min_two_ints (I.ok.hd hc) fun h' tk k=>⟨_,H,I.kept k,?_,q⟩
 by_cases hj:j<i
 ·rw[if_pos hj,if_pos hj];exact⟨_,rfl⟩
 ·rw[if_neg hj,if_neg hj];exact⟨_,rfl⟩
end
end L2
namespace L2
open PySem PySem.Spec PyProof.Rows
theorem RelO.some_of {v:V}{o:α5}(r:RelO (some v) o):∃ u,o=some u/\RelV v u:=by
 cases o with
 | none=>exact (show False from r).elim
 | some u=>exact⟨u,rfl,r⟩
structure Room (k:Nat)(A:Around):Prop where
 hd:A.handled=none
 dp:A.depth+3*k+5<recursionLimit
 un:A.units+16*k+200<cLine
theorem Room.mono {j k:Nat}{A:Around}(r:Room k A)(h:j<=k):Room j A:=⟨r.hd,by have:=r.dp;omega,by have:=r.un;omega⟩
theorem Room.deeper {k:Nat}{A:Around}(r:Room (k+1) A)(env:Env):Room k (A.deeper env) :=
 ⟨r.hd,by have:=r.dp;show A.depth+1+3*k+5<_;omega,by have:=r.un;show A.units+3+16*k+200<_;omega⟩
theorem Room.in1 {k:Nat}{A:Around}(r:Room (k+1) A):Room k A.in1 :=
 ⟨r.hd,by have:=r.dp;show A.depth+3*k+5<_;omega,by have:=r.un;show A.units+1+16*k+200<_;omega⟩
theorem Room.depth {k:Nat}{A:Around}(r:Room k A):A.depth<recursionLimit:=by have:=r.dp;omega
theorem Room.units {k:Nat}{A:Around}(r:Room k A):A.units+64<cLine:=by have:=r.un;omega
def tNil:TA:=fun _ H Q=>Q [] H
def ZS (ta:TE)(tr:TA):TA:=fun σ H Q=>ta σ H fun x H1=>tr σ H1 fun xs H2=>Q (x::xs) H2
section
variable {X:Cx} {e:Expr} {es:List Expr} {te:TE} {t:TA} {pos:Pos}
theorem Ad:PA X [] tNil:=fun _ _ _ _ H Q I h=>xT_ ⟨[],H,I,.nil,h⟩
theorem Aa (ha:PE X e te)(hr:PA X es t)(hs:starEach (e::es) X.env=(false,eval e X.env)::starEach es X.env:=by rfl):PA X (e::es) (ZS te t):=by
 intro pos pins s σ H Q I h
 rw[hs]
 show wpAny _ _ (spliced ((false,eval e X.env)::backTo pos (starEach es X.env))) _ _ s
 refine xl_ (thn (ha pins s σ H _ I h) fun u s1 ⟨x,H1,I1,r1,q1⟩=>?_)
 exact thn (hr pos pins s1 σ H1 _ I1 q1) fun us s2 ⟨xs,H2,I2,r2,q2⟩=>⟨x::xs,H2,I2,.cons r1 r2,q2⟩
def tTup (t:TA):TE:=fun σ H Q=>t σ H fun xs H1=>xs.length<=sizeLine/\∀ p,H1 p=none->Q (.ref p) (upd H1 p (.tup xs))
def tLst (t:TA):TE:=fun σ H Q=>t σ H fun xs H1=>xs.length<=sizeLine/\∀ p,H1 p=none->Q (.ref p) (upd H1 p (.lst xs))
theorem Do {x1}(h:PA X es t):PE X (.Tuple es x1 pos) (tTup t):=by
 intro pins s σ H Q I hq
 refine wpAny_Tuple_spliced (thn (h pos pins s σ H _ I hq) fun us s1 ⟨xs,H1,I1,r,z,q⟩=>⟨by rw[<- r.length];exact z,?_⟩)
 have hf:H1 s1.heap.objs.size=none:=I1.hok.fresh (jl_ _)
 refine⟨.ref s1.heap.objs.size,upd H1 s1.heap.objs.size (.tup xs),I1.laid (t':=s1.toks) (fun b u e=>jf_ _ e) (jl_ _) ?_,rfl,q _ hf⟩
 exact⟨z,us,r,⟨_,jy_ _ rfl,rfl,_,rfl⟩⟩
theorem Ce (h:PA X es t):PE X (.List es pos) (tLst t):=by
 intro pins s σ H Q I hq
 refine wpAny_List_spliced (thn (h pos pins s σ H _ I hq) fun us s1 ⟨xs,H1,I1,r,z,q⟩=>⟨by rw[<- r.length];exact z,?_⟩)
 have hf:H1 s1.heap.objs.size=none:=I1.hok.fresh (jl_ _)
 refine⟨.ref s1.heap.objs.size,upd H1 s1.heap.objs.size (.lst xs),I1.laid (t':=s1.toks) (fun b u e=>jf_ _ e) (jl_ _) ?_,rfl,q _ hf⟩
 exact⟨z,us,0,r,jy_ _ rfl⟩
end
abbrev Sp:=List V->Hp->VK->XK->Prop
abbrev CXT:=List Env->Hp->Shared->XK->Value->Shared->Prop
structure Env0 (P:Program)(w:World)(K:α3)(mg:Str->α5)(base:Heap)(A:Around)(outer:List Env)(s:Shared)(H:Hp):Prop where
 frames:A.frames=some outer
 mod:Mod K mg base
 bs:∀ b o,base.get? b=some o->s.heap.get? b=some o/\H b=none
 bsz:base.objs.size<=s.heap.objs.size
 funs:s.heap.FunFrames base outer
 frf:∀ b∈frs outer,H b=none
 hok:HOk P w H s.heap
 bare:AllBare s.gens
def CE (outer:List Env)(P:Program)(w:World)(H:Hp)(s:Shared)(Q:VK)(u:Value)(s':Shared):Prop :=
 ∃ v H',s'.os=s.os/\AllBare s'.gens/\Un (frs outer) [] H H' s.heap s'.heap/\HOk P w H' s'.heap/\RelV v u/\Q v H'
def CR (CX:CXT)(outer:List Env)(P:Program)(w:World)(H:Hp)(s:Shared)(Q:VK)(E:XK)(r:Result)(s':Shared):Prop :=
 match r with
 | .ok (.ret u)=>CE outer P w H s Q u s'
 | .ok _=>False
 | .error e=>CX outer H s E e s'
structure FnOk (P:Program)(w:World)(K:α3)(mg:Str->α5)(base:Heap)(CX:CXT)(k:Nat)(f:Addr)(fd:α6)(ps:List Str)(sp:Sp):Prop where
 len:∀ vs H Q E,sp vs H Q E->vs.length=ps.length
 run:∀ (A:Around) (outer:List Env) (s:Shared) (H:Hp) (args:Args) (us:List Value) (vs:List V) (Q:VK) (E:XK),Room k A->Env0 P w K mg base A outer s H->BindsTo s fd args (ps.zip us)->Vals vs us->sp vs H Q E ->
  codeAny (model P w) A (.call (.ref f) args) (CR CX outer P w H s Q E) s
theorem Env0.in1 {P:Program}{w:World}{K:α3}{mg:Str->α5}{base:Heap}{A:Around}{outer:List Env}{s:Shared}{H:Hp}(e:Env0 P w K mg base A outer s H) :
  Env0 P w K mg base A.in1 outer s H:=⟨e.frames,e.mod,e.bs,e.bsz,e.funs,e.frf,e.hok,e.bare⟩
section
variable {X:Cx} {pins:α7} {σ:St} {H:Hp} {s s':Shared}
theorem Inv.env0 (I:Inv X pins σ H s):Env0 X.prog X.w X.K X.mg X.base X.A X.stack s H :=
 ⟨I.ok.frames,I.ok.mod,I.bs,qM_ I.ok.bsz I.sz,I.stack,I.stkFree,I.hok,I.bare⟩
theorem Inv.after {Q:VK}{u:Value}(I:Inv X pins σ H s)(h:CE X.stack X.prog X.w H s Q u s'):EP X pins σ Q u s':=by
 obtain⟨v,H',os,bare,un,hok,r,q⟩:=h
 obtain⟨hh,g,d,t,os'⟩:=s'
 obtain rfl:os'=s.os:=os
 exact⟨v,H',I.call (h':=hh) (g':=g) (d':=d) (t':=t) (ch:=[]) un hok bare (fun b z=>absurd z (by simp)),r,q⟩
end
def ZT (sp:Sp)(dvs:List V)(E:XK)(t:TA):TE:=fun σ H Q=>t σ H fun vs H1=>sp (vs++dvs) H1 Q E
def Binds (K:α3)(fd:α6)(ps:List Str)(ds:List Value):Prop :=
 ∀ (s:Shared) (us:List Value),K.In s.heap->(us++ds).length=ps.length->BindsTo s fd ⟨us,[]⟩ (ps.zip (us++ds))
theorem Binds.all {K:α3}{fd:α6}{ps:List Str}(h:∀ us:List Value,us.length=ps.length->bindArgs fd ⟨us,[]⟩=pure (ps.zip us)):Binds K fd ps []:=fun s us _ hl=>by
 rw[qS_] at hl ⊢
 exact .of_eq (h us hl)
def Oh (CX:CXT)(X:Cx)(E:XK):Prop:=∀ (pins:α7) (σ:St) (H:Hp) (s:Shared) (e:Value) (s':Shared),Inv X pins σ H s->CX X.stack H s E e s'->X.xe e s'
section
variable {X:Cx} {CX:CXT} {k:Nat} {f C:Addr} {fd:α6} {ps:List Str} {sp:Sp} {dvs:List V} {ds:List Value} {E:XK} {x m:Str} {p pos apos:Pos} {e o:Expr} {es:List Expr} {ta:TE} {t:TA}
theorem ZU {pins:α7}{σ:St}{H:Hp}{s:Shared}{Q:VK}{us:List Value}{vs:List V}(F:FnOk X.prog X.w X.K X.mg X.base CX k f fd ps sp)(hr:Room k X.A)(hb:Binds X.K fd ps ds)(hd:Vals dvs ds)(hx:Oh CX X E)
  (I:Inv X pins σ H s) (r:Vals vs us) (h:sp (vs++dvs) H Q E):wpAny (model X.prog X.w) X.A (call (.ref f) us) (EP X pins σ Q) X.xe s:=by
 have r2:Vals (vs++dvs) (us++ds):=r.append hd
 have hl:(us++ds).length=ps.length:=by rw[<- r2.length];exact F.len _ _ _ _ h
 refine wpAny_call (codeAny_mono (F.run X.A X.stack s H ⟨us,[]⟩ (us++ds) (vs++dvs) Q E hr I.env0 (hb s us I.kIn hl) r2 h) fun r s' hq=>?_)
 cases r with
 | error e=>exact hx pins σ H s e s' I hq
 | ok fl =>
  cases fl with
  | ret u=>exact I.after hq
  | next=>exact False.elim hq
  | brk=>exact False.elim hq
  | cont=>exact False.elim hq
theorem Am (F:FnOk X.prog X.w X.K X.mg X.base CX k f fd ps sp)(hr:Room k X.A)(hg:Gl X x)(hm:X.mg x=some (.ref f))(hk:keepIn X.K (.ref f)=true)(hb:Binds X.K fd ps ds)(hd:Vals dvs ds)(hx:Oh CX X E)
  (ha:PA X (e::es) t) (hdb:(x == ("__debug__" : Str))=false:=by decide) (he:starEach (e::es) X.env=(false,eval e X.env)::starEach es X.env:=by rfl) (hpl:(backTo pos (starEach es X.env)).any (·.1)=false:=by rfl) :
  PE X (.Call (.Name x p) (e::es) [] pos) (ZT sp dvs E t):=by
 intro pins s σ H Q I h
 refine xm_ (Tu I hg hm ?_ hdb)
 refine PySem.W.callWith_K (h₀:=X.base) I.ok.mod.kin hk (thn (ha pos pins s σ H _ I h) fun us s1 ⟨vs,H1,I1,r,q⟩=>⟨I1.kIn,?_⟩) he hpl
 exact ZU F hr hb hd hx I1 r q
end
structure FnScope (N P:List Str)(sc:Scope):Prop where
 kind:sc.kind=.function
 co:sc.isCoroutine=false
 gen:sc.isGenerator=false
 nd:N.Nodup
 pre:N.take P.length=P
 par:∀ x∈P,sc.names.lookup x=some .local\/sc.names.lookup x=some .cell
 nofree:∀ y∈sc.names,y.2 ≠ .free
theorem Oi {kindOf:Str->Option NameKind}{x:Str}:∀ {binds:List (Str×Value)} {m:Str->α5},(∀ v,(x,v)∉binds)->bindL kindOf binds m x=m x
 | [],_,_=>rfl
 | (n,v)::r,m,h=>by
  unfold bindL
  rw[Oi fun w hw=>h w (jr_ _ hw)]
  split
  ·have:x≠n:=by rintro rfl;exact h v jo_
   simp[this]
  ·rfl
theorem Oj {kindOf:Str->Option NameKind}{x:Str}:∀ {binds:List (Str×Value)} {m:Str->α5},(∀ v,(x,v)∉binds)->bindC kindOf binds m x=m x
 | [],_,_=>rfl
 | (n,v)::r,m,h=>by
  unfold bindC
  rw[Oj fun w hw=>h w (jr_ _ hw)]
  split
  ·rfl
  ·have:x≠n:=by rintro rfl;exact h v jo_
   simp[this]
theorem Ol {kindOf:Str->Option NameKind}{x:Str}{v:Value}:∀ {P:List Str} {vs:List Value} {i:Nat} {m:Str->α5},P.Nodup->P[i]?=some x->vs[i]?=some v->kindOf x=some .local ->
  bindL kindOf (P.zip vs) m x=some v
 | [],_,_,_,_,h,_,_=>by simp at h
 | _::_,[],_,_,_,_,h,_=>by simp at h
 | p::P,w::vs,0,m,nd,h1,h2,hk=>by
  simp at h1 h2;subst h1;subst h2
  show bindL kindOf ((p,w)::P.zip vs) m p=_
  unfold bindL
  rw[Oi fun v hv=>(qG_.mp nd).1 (xz_ hv).1,if_pos hk]
  simp
 | p::P,w::vs,i+1,m,nd,h1,h2,hk=>by
  show bindL kindOf ((p,w)::P.zip vs) m x=_
  unfold bindL
  exact Ol (i:=i) (qG_.mp nd).2 (by simpa using h1) (by simpa using h2) hk
theorem Om {kindOf:Str->Option NameKind}{x:Str}{v:Value}:∀ {P:List Str} {vs:List Value} {i:Nat} {m:Str->α5},P.Nodup->P[i]?=some x->vs[i]?=some v->kindOf x≠some .local ->
  bindC kindOf (P.zip vs) m x=some v
 | [],_,_,_,_,h,_,_=>by simp at h
 | _::_,[],_,_,_,_,h,_=>by simp at h
 | p::P,w::vs,0,m,nd,h1,h2,hk=>by
  simp at h1 h2;subst h1;subst h2
  show bindC kindOf ((p,w)::P.zip vs) m p=_
  unfold bindC
  rw[Oj fun v hv=>(qG_.mp nd).1 (xz_ hv).1,if_neg hk]
  simp
 | p::P,w::vs,i+1,m,nd,h1,h2,hk=>by
  show bindC kindOf ((p,w)::P.zip vs) m x=_
  unfold bindC
  exact Om (i:=i) (qG_.mp nd).2 (by simpa using h1) (by simpa using h2) hk
def start (N:List Str)(vs:List V):St:=vs.map some++List.replicate (N.length-vs.length) none
def cxOf (CX:CXT)(P:Program)(w:World)(K:α3)(mg:Str->α5)(base:Heap)(N:List Str)(qual:Str)(scope:Scope)(f:Addr)(cd:Value)(A:Around)(outer:List Env)(s:Shared)(H:Hp)(E:XK):Cx where
 prog:=P
 w:=w
 K:=K
 mg:=mg
 base:=base
 A:=A.deeper (envOfC qual scope s.heap.objs.size f cd)
 N:=N
 s₀:=s
 H₀:=H
 env:=envOfC qual scope s.heap.objs.size f cd
 outer:=outer
 stack:=envOfC qual scope s.heap.objs.size f cd::outer
 ex:=[]
 calm:=true
 fn:=fun _=>true
 pn:=[]
 xe:=fun e s'=>wpAny (model P w) (A.deeper (envOfC qual scope s.heap.objs.size f cd)) (leaving (envOfC qual scope s.heap.objs.size f cd) e) (fun _ s''=>CX outer H s E e s'') (fun e' s''=>CX outer H s E e' s'') s'
theorem Q9 {sc:Scope}{n:Nat}{x:Str}(h:sc.names.lookup x=some .cell):∃ c,(cellsFrom n sc.names []).lookup x=some c:=by
 have q:=zm_ sc.names n [] (.inl h)
 exact Option.isSome_iff_exists.mp q
theorem On {CX:CXT}{P:Program}{w:World}{K:α3}{mg:Str->α5}{base:Heap}{N ps:List Str}{qual:Str}{scope:Scope}{f:Addr}{cd:Value}{A:Around}{outer:List Env}{s s1:Shared}{H:Hp}{E:XK}{us:List Value}{vs:List V}
  (S:FnScope N ps scope) (hd:A.handled=none) (e0:Env0 P w K mg base A outer s H) (hl:vs.length=ps.length) (r:Vals vs us)
  (x:InCallC s s.heap.objs.size (bindL (envOfC qual scope s.heap.objs.size f cd).kindOf (ps.zip us) fun _=>none) (cellsFrom (s.heap.objs.size+1) scope.names []) (bindC (envOfC qual scope s.heap.objs.size f cd).kindOf (ps.zip us) fun _=>none) s1) :
  Inv (cxOf CX P w K mg base N qual scope f cd A outer s H E) [] (start N vs) H s1:=by
 have hpl:ps.length<=N.length:=by have:=jJ_ List.length S.pre;rw[jx_] at this;omega
 obtain⟨h1,tk,rfl,hk⟩:=x.done
 have noA:∀ b:Addr,b∉(cxOf CX P w K mg base N qual scope f cd A outer s H E).ex:=fun b z=>absurd (show b∈([]:List Addr) from z) (by simp)
 refine⟨⟨e0.mod,S.kind,rfl,rfl,jl_ _,fun y z c h1 h2=>?_,fun y hy=>?_,fun y c _ h=>?_,fun _=>hd,Around.frames_deeper e0.frames,.inr ⟨rfl,rfl⟩,fun b z=>absurd z (noA b),e0.bs,e0.bsz,fun b _ _=>noA b,fun b z=>absurd z (noA b),e0.funs,e0.frf⟩,
  rfl,e0.bare,Un.kept hk,⟨_,x.toInCall.ns,fun i y v h1 h2 h3=>?_⟩,fun y c h=>⟨_,x.cell y c h⟩,e0.hok.fresh (jl_ _),fun y c h=>?_,fun p hp=>absurd (show p∈([]:α7) from hp) (by simp),e0.hok.kept hk,?_⟩
 ·exact name_of_addr x.apart (qK_ h1) (qK_ h2)
 ·have hy:scope.names.lookup y=some .cell\/scope.names.lookup y=some .free:=hy
  rcases hy with hy | hy
  ·exact Q9 hy
  ·exact absurd rfl (S.nofree _ (qK_ hy))
 ·exact zv_ (x.above y c (qK_ h))
 ·have hi:i<vs.length:=by
   unfold start at h2
   by_cases hi:i<vs.length
   ·exact hi
   ·rw[jt_ (by simpa using hi)] at h2
    rw[x9_] at h2
    split at h2<;>cases h2
  have ha:vs[i]?=some v:=by
   unfold start at h2
   rw[jk_ (by simpa using hi),je_] at h2
   cases e:vs[i]? with
   | none=>rw[e] at h2;cases h2
   | some a=>rw[e] at h2;cases h2;rfl
  obtain⟨u,hu,rv⟩:=r.get ha
  have hp:ps[i]?=some y:=by
   rw[<- S.pre,xA_ (by omega)];exact h1
  have ndP:ps.Nodup:=by rw[<- S.pre];exact S.nd.sublist (List.take_sublist _ _)
  refine⟨u,rv,?_⟩
  rcases S.par y (jg_ hp) with k | k
  ·exact .inl ⟨k,Ol ndP hp hu k⟩
  ·obtain⟨c,e⟩:=Q9 (n:=s.heap.objs.size+1) k
   refine .inr ⟨.inl k,c,e,?_⟩
   have q:=x.cell y c e
   rw[Om ndP hp hu (by show scope.names.lookup y≠_;rw[k];decide)] at q
   exact q
 ·exact e0.hok.fresh (zv_ (x.above y c (qK_ h)))
 ·unfold start
  show _=N.length
  rw[jq_,ja_,ql_]
  omega
theorem Yr {CX:CXT}{P:Program}{w:World}{K:α3}{mg:Str->α5}{base:Heap}{k:Nat}{f:Addr}{name qual:Str}{params:Arguments}{body:List Stmt}{scope:Scope}{dV kV doc pm cdv ct oc:Value}{an od:Option Addr}
  {osl:Array (α5)} {N ps:List Str} {sp:Sp} (lk:K.lookup f=some ⟨oc,od,.func (fnOf name qual params body scope dV kV doc pm an cdv ct),osl⟩) (hcd:codeIn K cdv qual=true) (S:FnScope N ps scope)
  (len:∀ vs H Q E,sp vs H Q E->vs.length=ps.length)
  (hbody:∀ (A:Around) (outer:List Env) (s:Shared) (H:Hp) (vs:List V) (Q:VK) (E:XK),Room k (A.deeper (envOfC qual scope s.heap.objs.size f cdv))->sp vs H Q E ->
   ∃ t,PSs (cxOf CX P w K mg base N qual scope f cdv A outer s H E) body t/\t {nx:=fun _ H'=>Q .non H',rt:=Q} (start N vs) H) :
  FnOk P w K mg base CX (k+1) f (fnOf name qual params body scope dV kV doc pm an cdv ct) ps sp:=by
 refine⟨len,fun A outer s H args us vs Q E hr e0 hb r hsp=>?_⟩
 have hl:=len _ _ _ _ hsp
 have KX:K.In s.heap:=e0.mod.kin.keeps fun b o e=>(e0.bs b o e).1
 have lim:s.heap.NoLimit:=e0.mod.nolimit.keeps fun b o e=>(e0.bs b o e).1
 have hkind:∀ y∈ps.zip us,scope.names.lookup y.1=some .local\/(scope.names.lookup y.1=some .cell/\((cellsFrom (s.heap.objs.size+1) scope.names []).lookup y.1).isSome=true):=fun ⟨n,v⟩ hy=>by
  rcases S.par n (xz_ hy).1 with q | q
  ·exact .inl q
  ·exact .inr ⟨q,zm_ _ _ _ (.inl q)⟩
 refine codeAny_call_function hr.depth (KX _ _ lk) rfl S.co S.gen rfl (PySem.W.codeRec_of KX hcd) (hb _ _ _ _ ?_)
 refine wpAny_newFunctionEnv_cells S.kind hkind fun env he s1 x=>?_
 subst he
 refine⟨lim.keeps x.toInCall.keep,codeAny_func ?_⟩
 obtain⟨t,ht,hq⟩:=hbody A outer s H vs Q E (hr.deeper _) hsp
 have I:Inv (cxOf CX P w K mg base N qual scope f cdv A outer s H E) [] (start N vs) H s1:=On S hr.hd e0 hl r x
 refine qE_ (ht [] s1 (start N vs) H _ I hq) (fun fl s' hs=>?_) fun e s' hs=>hs
 have fin:∀ {σ':St} {H':Hp} {v:V} {u:Value},Inv (cxOf CX P w K mg base N qual scope f cdv A outer s H E) [] σ' H' s'->RelV v u->Q v H'->CE outer P w H s Q u s' :=
  fun {σ' H' v u} J rv q=>⟨v,H',J.os,J.bare,J.base,J.hok,rv,q⟩
 cases fl with
 | ret u =>
  obtain⟨v,σ',H',J,rv,q⟩:=hs
  exact fin J rv q
 | next =>
  obtain⟨σ',H',J,q⟩:=hs
  exact fin (v:=V.non) (u:=Value.none) J rfl q
 | brk =>
  obtain⟨_,_,_,q⟩:=hs
  exact False.elim q
 | cont =>
  obtain⟨_,_,_,q⟩:=hs
  exact False.elim q
end L2
namespace L2
open PySem PySem.Spec PyProof.Rows
section
variable {X:Cx} {x:Str} {p pos:Pos} {e:Expr} {es:List Expr} {t:TA} {id T:String} {r:List V->Hp->VK->Prop}
def tCB (r:List V->Hp->VK->Prop)(t:TA):TE:=fun σ H Q=>t σ H fun vs H1=>r vs H1 Q
theorem Ax (hc:EF X (.builtin id) r)(hg:Gl X x)(hm:X.mg x=none)(hv:bootBuiltins x=some (.builtin id))(ha:PA X (e::es) t)(hn:x ≠ "__name__" := by decide)(hdb:(x == ("__debug__" : Str))=false:=by decide)
  (he:starEach (e::es) X.env=(false,eval e X.env)::starEach es X.env:=by rfl) (hpl:(backTo pos (starEach es X.env)).any (·.1)=false:=by rfl):PE X (.Call (.Name x p) (e::es) [] pos) (tCB r t):=by
 intro pins s σ H Q I h
 refine xm_ (GV I hg hm hv ?_ hn hdb)
 exact PyProof.Rows.callWith_builtin1 (thn (ha pos pins s σ H _ I h) fun us s1 ⟨vs,H1,I1,r1,q1⟩=>hc pins s1 σ H1 vs us Q I1 r1 q1) he hpl
theorem AX (hc:EF X (.type T) r)(hg:Gl X x)(hm:X.mg x=none)(hv:bootBuiltins x=some (.type T))(ha:PA X (e::es) t)(hn:x ≠ "__name__" := by decide)(hdb:(x == ("__debug__" : Str))=false:=by decide)
  (he:starEach (e::es) X.env=(false,eval e X.env)::starEach es X.env:=by rfl) (hpl:(backTo pos (starEach es X.env)).any (·.1)=false:=by rfl):PE X (.Call (.Name x p) (e::es) [] pos) (tCB r t):=by
 intro pins s σ H Q I h
 refine xm_ (GV I hg hm hv ?_ hn hdb)
 exact j7_ (thn (ha pos pins s σ H _ I h) fun us s1 ⟨vs,H1,I1,r1,q1⟩=>hc pins s1 σ H1 vs us Q I1 r1 q1) he hpl
end
end L2
namespace HT
open PySem PyProof.Rows
def lexLt:α2->α2->Bool
 | [],[]=>false
 | [],_::_=>true
 | _::_,[]=>false
 | x::xs,y::ys=>if x=y then lexLt xs ys else decide (x<y)
theorem lexLt_cons (x y:Int)(xs ys:α2):lexLt (x::xs) (y::ys)=if x=y then lexLt xs ys else decide (x<y):=rfl
theorem Mx:lexLt [] []=false:=rfl
theorem LA (y:Int)(ys:α2):lexLt [] (y::ys)=true:=rfl
theorem LB (x:Int)(xs:α2):lexLt (x::xs) []=false:=rfl
theorem VD (A:Around)(s:Shared)(a:Int)(t:Tok)(c:Int)(u:Tok):∃ e,SeqAt.EqAt A s (.int a t) (.int c u) e/\(e=true↔a=c) :=
 ⟨(a == c),SeqAt.EqAt.int_int a t c u,by simp⟩
theorem VE (A:Around)(s:Shared)(a:Int)(t:Tok)(c:Int)(u:Tok)(prog:Program)(w:World)(E:Value->Shared->Prop)(Q:Value->Shared->Prop)(h:Q (.bool (decide (a<c))) s) :
  wpAny (model prog w) A (richCompare .Lt (.int a t) (.int c u)) Q E s :=
 (PyProof.Rows.lt_int h:wpAny (model prog w) A (compareOp .Lt (.int a t) (.int c u)) Q E s)
section
open PySem.SeqAt
open PySem.AutoSeq1 (wpAny_loadPart')
open PySem.MeetsSeq PySem.MeetsSeq2 PySem.MeetsSeq3
theorem My (l b:Addr)(items items2:Array Value)(n n2:Nat)(dd dd2:Option Addr)(sl sl2:Array (α5))(ns ms:α2)(hi:IntsAre items.toList ns)(hj:IntsAre items2.toList ms) :
  Meets (Builtin.«tuple.__lt__» ⟨[.ref l,.ref b],[]⟩)
   (fun _ R s=>s.heap.get? l=some {cls:=.type "tuple",dict:=dd,data:=.seq items n,slots:=sl}/\s.heap.get? b=some {cls:=.type "tuple",dict:=dd2,data:=.seq items2 n2,slots:=sl2} /\
    R (.ok (.ret (.bool (lexLt ns ms)))) s) :=
 .of_wp fun prog w A R s h=>by
  obtain⟨hp,g,d,tk,os⟩:=s;obtain⟨hl,hb,h⟩:=h
  have f2:=AutoSeq1.sub_tuple_tuple
  have z1:items.size=ns.length:=by rw[<- hi.length];simp
  have z2:items2.size=ms.length:=by rw[<- hj.length];simp
  wp_walk using j1_ hl,j1_ hb,wpAny_forIn_list _ (fun rest b s'=>b.1=none/\s'=⟨hp,g,d,tk,os⟩/\∃ (vs ws:List Value) (ns' ms':α2),rest=vs.zip ws /\
   IntsAre vs ns'/\IntsAre ws ms'/\ns'.length+items2.size=ms'.length+items.size/\R (.ok (.ret (.bool (lexLt ns' ms')))) ⟨hp,g,d,tk,os⟩) _
  case turn =>
   rintro⟨y,x⟩ rest b s' ⟨hb',rfl,vs,ws,ns',ms',hz,hvi,hwi,hlen,hR⟩
   cases hvi with
   | nil=>rw[List.zip_nil_left] at hz;cases hz
   | cons a t hvi' =>
    cases hwi with
    | nil=>rw[List.zip_nil_right] at hz;cases hz
    | cons c u hwi' =>
     rw[zS_] at hz
     injection hz with hyx hrest
     injection hyx with hy hx
     subst hy hx
     rw[lexLt_cons] at hR
     simp only[jT_] at hlen
     obtain⟨e,he,hiff⟩:=VD A.in1 ⟨hp,g,d,tk,os⟩ a t c u
     refine jb_ (he prog w _ _ ?_)
     cases e with
     | true =>
      rw[if_pos (hiff.mp rfl)] at hR
      wp_walk
      exact⟨rfl,rfl,_,_,_,_,hrest,hvi',hwi',by omega,hR⟩
     | false =>
      rw[if_neg (fun q=>absurd (hiff.mpr q) jp_)] at hR
      have hri:=VE A.in1 ⟨hp,g,d,tk,os⟩ a t c u prog w
      wp_walk using hri
      exact⟨_,rfl,by simpa using hR⟩
  case fin =>
   rintro⟨b1,b2⟩ s' ⟨hb',rfl,vs,ws,ns',ms',hz,hvi,hwi,hlen,hR⟩
   simp only at hb'
   subst hb'
   have hv:lexLt ns' ms'=decide (items.size<items2.size):=by
    cases hvi with
    | nil =>
     cases hwi with
     | nil =>
      simp only[qf_] at hlen
      rw[Mx]
      exact (qe_ (by omega)).symm
     | cons c u hw =>
      simp only[qf_,jT_] at hlen
      rw[LA]
      exact (qj_ (by omega)).symm
    | cons a t hv =>
     cases hwi with
     | nil =>
      simp only[qf_,jT_] at hlen
      rw[LB]
      exact (qe_ (by omega)).symm
     | cons c u hw =>
      rw[zS_] at hz
      cases hz
   rw[hv] at hR
   wp_walk
   exact⟨_,rfl,by simpa [Builtin.Tuple.tupleCompareSizes] using hR⟩
  case h =>
   exact⟨rfl,rfl,items.toList,items2.toList,ns,ms,rfl,hi,hj,by omega,h⟩
end
section
variable {prog:Program} {w:World} {A:Around} {E:Value->Shared->Prop} {s:Shared}
theorem lt_tupInts {l b:Addr}{items items2:Array Value}{ns ms:α2}{Q:Value->Shared->Prop}(hl:IsTup s.heap l items)(hb:IsTup s.heap b items2)(hi:IntsAre items.toList ns)(hj:IntsAre items2.toList ms)
  (hu:A.units<cLine) (h:Q (.bool (lexLt ns ms)) s):wpAny (model prog w) A (compareOp .Lt (.ref l) (.ref b)) Q E s:=by
 obtain⟨⟨cls,dd,data,sl⟩,ho,hc,n,hd⟩:=id hl
 obtain⟨⟨cls2,dd2,data2,sl2⟩,ho2,hc2,n2,hd2⟩:=id hb
 simp only at hc hd hc2 hd2
 subst hc hd hc2 hd2
 exact richCompare_meets_room (op:=.Lt) ⟨_,ho,rfl⟩ ⟨_,ho2,rfl⟩ PySem.F.slot_tuple_lt PySem.F.entry_tuple_lt (PySem.F.args_tuple_lt_2 _ _) (My l b items items2 n n2 dd dd2 sl sl2 ns ms hi hj)
  ⟨ho,ho2,show Value.bool (lexLt ns ms)≠Value.notImplemented/\Q (.bool (lexLt ns ms)) s from ⟨(fun x=>nomatch x),h⟩⟩ hu
theorem cat_tup {t b:Addr}{vs ws:List Value}{Q:Value->Shared->Prop}(ht:IsTup s.heap t vs.toArray)(hb:IsTup s.heap b ws.toArray)(hv:vs ≠ [])
  (h1:ws=[]->Q (.ref t) s) (h2:ws ≠ []->Q (.ref s.heap.objs.size) {s with heap:=s.heap.push {cls:=.type "tuple",data:=.seq (vs++ws).toArray} })
  (hsz:vs.length+ws.length<=sizeLine):wpAny (model prog w) A (binaryOp .Add (.ref t) (.ref b)) Q E s:=by
 obtain⟨⟨cls,dd,data,sl⟩,ho,hc,n,hd⟩:=id ht
 obtain⟨⟨cls2,dd2,data2,sl2⟩,ho2,hc2,n2,hd2⟩:=id hb
 simp only at hc hd hc2 hd2
 subst hc hd hc2 hd2
 have e:vs.toArray++ws.toArray=(vs++ws).toArray:=by simp
 by_cases hw:ws=[]
 ·exact concat_meets ⟨_,ho,rfl⟩ ⟨_,ho2,rfl⟩ noFill_tuple_add seq_tuple_add zn_ za_ (x7_ _ _)
   (tuple_addW1 t b vs.toArray ws.toArray n n2 dd dd2 sl sl2 (by simpa using hv) (by simp[hw])) ⟨ho,ho2,h1 hw⟩
 ·refine concat_meets ⟨_,ho,rfl⟩ ⟨_,ho2,rfl⟩ noFill_tuple_add seq_tuple_add zn_ za_ (x7_ _ _)
   (tuple_addW2 t b vs.toArray ws.toArray n n2 dd dd2 sl sl2 (by simpa using hv) (by simpa using hw) (by rw[jj_,jj_];exact hsz)) ⟨ho,ho2,?_⟩
  rw[e]
  exact h2 hw
def sIx (n d:Nat):Option Int->Nat
 | none=>d
 | some v=>if v<0 then (v+(n:Int)).toNat else min v.toNat n
theorem sIx_none (n d:Nat):sIx n d none=d:=rfl
theorem sIx_nat (n d k:Nat):sIx n d (some (k:Int))=min k n:=by
 show (if (k:Int)<0 then ((k:Int)+(n:Int)).toNat else min (k:Int).toNat n)=min k n
 rw[if_neg (by omega),jh_]
theorem ZV (n d:Nat)(hd:d<=n)(o:Option Int):sIx n d o<=n:=by
 cases o with
 | none=>exact hd
 | some v =>
  show (if v<0 then (v+(n:Int)).toNat else min v.toNat n)<=n
  by_cases hv:v<0
  ·rw[if_pos hv];omega
  ·rw[if_neg hv];exact Nat.min_le_right _ _
theorem TH (v:Int)(n d:Nat):(if v<0 then max (v+(n:Int)) 0 else min v (n:Int))=((sIx n d (some v):Nat):Int):=by
 show (if v<0 then max (v+(n:Int)) 0 else min v (n:Int))=(((if v<0 then (v+(n:Int)).toNat else min v.toNat n):Nat):Int)
 by_cases hv:v<0
 ·simp only[if_pos hv];omega
 ·simp only[if_neg hv];omega
theorem R4 (lo hi:Option Int)(n:Nat):Builtin.Slice.sliceAdjust lo hi 1 (n:Int)=(((sIx n 0 lo:Nat):Int),((sIx n n hi:Nat):Int)):=by
 have h1:¬ ((1:Int)<0):=by omega
 unfold Builtin.Slice.sliceAdjust
 simp only[h1,qP_]
 refine Prod.ext ?_ ?_
 ·cases lo with
  | none=>rfl
  | some v=>exact TH v n 0
 ·cases hi with
  | none=>rfl
  | some v=>exact TH v n n
theorem R5 (i j:Nat):Builtin.Slice.slicePlaces (i:Int) (j:Int) 1=j-i:=by
 unfold Builtin.Slice.slicePlaces
 have h1:(1:Int) > 0:=by omega
 simp only[h1,xY_,Int.ediv_one]
 split<;>omega
theorem L5 {v:Value}{o:Option Int}{Q:Option Int->Shared->Prop}(p:IsPart v o)(h:Q o s):wpAny (model prog w) A (Builtin.Slice.slicePartIndex v) Q E s:=by
 cases p with
 | none=>exact slicePart_none h
 | int i t=>exact slicePart_int h
theorem Jg {sl:Addr}{vl vu:Value}{lo hi:Option Int}{n:Nat}{Q:Int×Int×Nat->Shared->Prop}(hs:s.heap.IsSliceOf sl vl vu .none)(pl:IsPart vl lo)(pu:IsPart vu hi)
  (h:Q (((sIx n 0 lo:Nat):Int),1,sIx n n hi-sIx n 0 lo) s):wpAny (model prog w) A (Builtin.Slice.sliceApplied (.ref sl) (pure (n:Int))) Q E s:=by
 obtain⟨os,hos,hcs,hds⟩:=id hs
 unfold Builtin.Slice.sliceApplied Builtin.Slice.sliceFields
 refine jb_ (jb_ (j5_ hos hds (x:=vl) rfl (jb_ (j5_ hos hds (x:=vu) rfl (jb_ (j5_ hos hds (x:=.none) rfl (jm_ ?_)))))))
 refine jb_ (slicePart_none ?_)
 show wpAny _ _ (if ((1:Int) == 0)=true then _ else _) _ _ s
 rw[if_neg (by decide)]
 refine jb_ (L5 pl (jb_ (L5 pu (jb_ (jm_ ?_)))))
 show wpAny _ _ (match Builtin.Slice.sliceAdjust lo hi 1 (n:Int) with | (lo,hi)=>pure (lo,(1:Int),Builtin.Slice.slicePlaces lo hi 1)) _ _ s
 rw[R4 lo hi n]
 show wpAny _ _ (pure (((sIx n 0 lo:Nat):Int),(1:Int),Builtin.Slice.slicePlaces ((sIx n 0 lo:Nat):Int) ((sIx n n hi:Nat):Int) 1)) _ _ s
 rw[R5]
 exact jm_ h
theorem VF (xs:Array Value)(i k:Nat):((List.range k).filterMap fun (m:Nat)=>xs[((i:Int)+(m:Int)*1).toNat]?).toArray=((xs.toList.drop i).take k).toArray:=by
 have e:(fun (m:Nat)=>xs[((i:Int)+(m:Int)*1).toNat]?)=fun m=>xs[i+m]?:=by
  funext m
  have:((i:Int)+(m:Int)*1).toNat=i+m:=by omega
  rw[this]
 rw[e]
 have:=pick_run xs i k
 rw[List.filterMap_map] at this
 have e2:((fun x=>xs[x]?) ∘ fun x=>i+x)=fun m=>xs[i+m]?:=rfl
 rw[e2] at this
 rw[this]
theorem getItem_tuple_cut {t sl:Addr}{items:Array Value}{vl vu:Value}{lo hi:Option Int}{Q:Value->Shared->Prop}(ht:IsTup s.heap t items)(hs:s.heap.IsSliceOf sl vl vu .none)(pl:IsPart vl lo)(pu:IsPart vu hi)
  (hw:¬ (sIx items.size 0 lo=0/\sIx items.size items.size hi=items.size))
  (h:Q (.ref s.heap.objs.size) {s with heap:=s.heap.push {cls:=.type "tuple",data:=.seq ((items.toList.drop (sIx items.size 0 lo)).take (sIx items.size items.size hi-sIx items.size 0 lo)).toArray} })
  (hsz:items.size<=sizeLine):wpAny (model prog w) A (getItem (.ref t) (.ref sl)) Q E s:=by
 have htake:sizeOk (.seq ((items.toList.drop (sIx items.size 0 lo)).take (sIx items.size items.size hi-sIx items.size 0 lo)).toArray):=by
  show ((items.toList.drop (sIx items.size 0 lo)).take (sIx items.size items.size hi-sIx items.size 0 lo)).toArray.size<=sizeLine
  rw[jj_,jx_,q8_,jZ_]
  omega
 have hj:sIx items.size items.size hi<=items.size:=ZV _ _ (jl_ _) hi
 obtain⟨os,hos,hcs,hds⟩:=id hs
 have hTs:s.TypeIs (.ref sl) "slice" := ⟨os,hos,hcs⟩
 unfold getItem
 try with_reducible refine qR_ ?_
 first | refine jb_ (jm_ ?_) | skip
 refine jb_ (wpAny_sequenceKey ht.typeIs (by decide) ?_)
 refine jb_ (j2_ (name:=Str.ofString "__getitem__") ht.typeIs xB_
  (qo_ xB_ ht.typeIs entry_tuple_getitem ?_ (args_tuple_getitem _ _)))
 show wpAny _ _ (Builtin.Tuple.tupleItemsOf (.ref t) >>= _) _ _ s
 refine jb_ (tupleItemsOf_ ht ?_)
 refine jb_ (wpAny_typeOf hTs ?_)
 rw[if_pos (by decide)]
 refine jb_ (Jg hs pl pu ?_)
 have hno:¬ ((((sIx items.size 0 lo:Nat):Int) == 0&&(1:Int) == 1&&(sIx items.size items.size hi-sIx items.size 0 lo) == items.size)=true):=by
  intro q
  rw[qy_,qy_] at q
  have q1:((sIx items.size 0 lo:Nat):Int)=0:=eq_of_beq q.1.1
  have q2:sIx items.size items.size hi-sIx items.size 0 lo=items.size:=eq_of_beq q.2
  exact hw ⟨by omega,by omega⟩
 show wpAny _ _ (if (((sIx items.size 0 lo:Nat):Int) == 0&&(1:Int) == 1&&(sIx items.size items.size hi-sIx items.size 0 lo) == items.size)=true then _ else _) _ _ s
 rw[if_neg hno,VF]
 first
  | exact jb_ (m:=Builtin.Tuple.tupleExact _) (qg_ (jm_ ⟨_,rfl,jm_ h⟩) htake)
  | exact jb_ (m:=Builtin.Tuple.tupleExact _) (qg_ (jb_ (jm_ (jm_ ⟨_,rfl,jm_ h⟩))) htake)
  | exact jb_ (jb_ (m:=Builtin.Tuple.tupleExact _) (qg_ (jm_ (jm_ ⟨_,rfl,jm_ h⟩)) htake))
  | exact jb_ (jb_ (m:=Builtin.Tuple.tupleExact _) (qg_ (jm_ ⟨_,rfl,jm_ h⟩) htake))
end
end HT
namespace L2
open PySem PySem.Spec PyProof.Rows
abbrev TO:=St->Hp->(Option Int->Hp->Prop)->Prop
def PO (X:Cx)(e:Option Expr)(t:TO):Prop :=
 ∀ (pins:α7) (s:Shared) (σ:St) (H:Hp) (Q:Option Int->Hp->Prop),Inv X pins σ H s->t σ H Q ->
  wpAny (model X.prog X.w) X.A (evalPart e X.env) (fun u s'=>∃ o H',Inv X pins σ H' s'/\IsPart u o/\Q o H') X.xe s
def TJ:TO:=fun _ H Q=>Q none H
def ZW (t:TE):TO:=fun σ H Q=>t σ H fun x H1=>∃ i,x=.int i/\Q (some i) H1
theorem intsAre_of {ns:α2}:∀ {us:List Value},Vals (ns.map V.int) us->IntsAre us ns:=by
 induction ns with
 | nil=>intro us r;rw[xO_] at r;cases r;exact .nil
 | cons n ns ih =>
  intro us r
  rw[jV_] at r
  cases r with
  | cons r1 r2 =>
   obtain⟨t,e⟩:=r1
   subst e
   exact .cons n t (ih r2)
section
variable {X:Cx} {e:Expr} {te:TE} {lo hi:Option Expr} {tl th:TO} {pos p2:Pos}
theorem Ys:PO X none TJ:=by
 intro pins s σ H Q I h
 rw[evalPart_none]
 exact jm_ ⟨none,H,I,.none,h⟩
theorem Yt (h:PE X e te):PO X (some e) (ZW te):=by
 intro pins s σ H Q I hw
 rw[evalPart_some]
 refine thn (h pins s σ H _ I hw) fun u s1 ⟨x,H1,I1,r1,q1⟩=>?_
 obtain⟨i,rfl,q⟩:=q1
 obtain⟨t,rfl⟩:=r1
 exact⟨some i,H1,I1,.int i t,q⟩
def SlR (X:Cx)(r:V->Option Int->Option Int->Hp->VK->Prop):Prop :=
 ∀ (pins:α7) (s:Shared) (σ:St) (H:Hp) (x:V) (v vl vu:Value) (lo hi:Option Int) (sl:Addr) (Q:VK),Inv X pins σ H s->RelV x v->s.heap.IsSliceOf sl vl vu .none->IsPart vl lo->IsPart vu hi->r x lo hi H Q ->
  ∃ T id,typeLookup (.type T) "__getitem__" = pure (some (.builtin id))/\s.TypeIs v T/\wpAny (model X.prog X.w) X.A (getItem v (.ref sl)) (EP X pins σ Q) X.xe s
def tSl (r:V->Option Int->Option Int->Hp->VK->Prop)(te:TE)(tl th:TO):TE:=fun σ H Q=>te σ H fun x H1=>tl σ H1 fun l H2=>th σ H2 fun u H3=>r x l u H3 Q
theorem VG {r:V->Option Int->Option Int->Hp->VK->Prop}(hr:SlR X r)(he:PE X e te)(hl:PO X lo tl)(hu:PO X hi th):PE X (.Subscript e (.Slice lo hi none p2) pos) (tSl r te tl th):=by
 intro pins s σ H Q I h
 refine Subscript_ (thn (he pins s σ H _ I h) fun v s1 ⟨x,H1,I1,r1,q1⟩=>?_)
 refine wpAny_Slice (thn (hl pins s1 σ H1 _ I1 q1) fun vl s2 ⟨l,H2,I2,pl,q2⟩=>thn (hu pins s2 σ H2 _ I2 q2) fun vu s3 ⟨u,H3,I3,pu,q3⟩=>?_)
 rw[evalPart_none]
 refine jm_ ?_
 have I4:Inv X pins σ H3 {s3 with heap:=s3.heap.push {cls:=.type "slice",data:=.fields #[vl,vu,.none]} }:=I3.kept (t':=s3.toks) fun b ob q=>jf_ _ q
 obtain⟨T,id,hT,ht,hg⟩:=hr pins {s3 with heap:=s3.heap.push {cls:=.type "slice",data:=.fields #[vl,vu,.none]} } σ H3 x v vl vu l u s3.heap.objs.size Q I4 r1 (Heap.IsSliceOf.new ..) pl pu q3
 show wpAny (model X.prog X.w) X.A (subscriptTail e (.Slice lo hi none p2) v (.ref s3.heap.objs.size)) (EP X pins σ Q) X.xe {s3 with heap:=s3.heap.push {cls:=.type "slice",data:=.fields #[vl,vu,.none]} }
 exact tail_any (ops:=[.ref s3.heap.objs.size,v]) ht hT hg (by with_unfolding_all rfl)
def cutV (xs:List V)(lo hi:Option Int):List V:=(xs.drop (HT.sIx xs.length 0 lo)).take (HT.sIx xs.length xs.length hi-HT.sIx xs.length 0 lo)
theorem PH (xs:List V)(lo hi:Option Int):(cutV xs lo hi).length<=xs.length:=by
 unfold cutV
 rw[jx_,q8_]
 omega
def rSlT (K:α3):V->Option Int->Option Int->Hp->VK->Prop:=fun x lo hi H Q=>∃ a xs,x=.ref a/\SqT K H a xs /\
 ¬ (HT.sIx xs.length 0 lo=0/\HT.sIx xs.length xs.length hi=xs.length)/\∀ p,H p=none->Q (.ref p) (upd H p (.tup (cutV xs lo hi)))
theorem ZX:SlR X (rSlT X.K):=by
 intro pins s σ H x v vl vu lo hi sl Q I rx hs pl pu h
 obtain⟨a,xs,rfl,hx,hw,q⟩:=h
 cases rx
 obtain⟨its,r,ht,hz⟩:=I.tuple hx
 have hlen:its.toArray.size=xs.length:=by rw[jj_];exact r.length.symm
 refine⟨"tuple",_,xB_.lookup,ht.typeIs,?_⟩
 refine HT.getItem_tuple_cut ht hs pl pu (by rw[hlen];exact hw) ?_ (by rw[hlen];exact hz)
 rw[hlen]
 refine⟨.ref s.heap.objs.size,_,I.laid (t':=s.toks) (o:=.tup (cutV xs lo hi)) (fun b ob q=>jf_ _ q) (jl_ _) ?_,rfl,q _ (I.hok.fresh (jl_ _))⟩
 exact⟨qM_ (PH xs lo hi) hz,_,(r.drop (HT.sIx xs.length 0 lo)).take (HT.sIx xs.length xs.length hi-HT.sIx xs.length 0 lo),IsTup.new _ _⟩
def Bk_ (K:α3):R2:=fun x y H Q=>∃ a b xs ys,x=.ref a/\y=.ref b/\SqT K H a xs/\SqT K H b ys/\xs ≠ []/\xs.length+ys.length<=sizeLine /\
 (ys=[]->Q (.ref a) H)/\(ys ≠ []->∀ p,H p=none->Q (.ref p) (upd H p (.tup (xs++ys))))
theorem Vals.nil_iff {xs:List V}{us:List Value}(r:Vals xs us):us=[]↔xs=[]:=by
 cases r with
 | nil=>simp
 | cons _ _=>simp
theorem Yu:OpR X (binaryOp .Add) (Bk_ X.K):=by
 intro pins s σ H x y v u Q I rx ry h
 obtain⟨a,b,xs,ys,rfl,rfl,ha,hb,hx,hz,q1,q2⟩:=h
 cases rx
 cases ry
 obtain⟨its,r1,p1,_⟩:=I.tuple ha
 obtain⟨its2,r2,p2,_⟩:=I.tuple hb
 refine HT.cat_tup p1 p2 (fun z=>hx (r1.nil_iff.mp z)) (fun z=>⟨.ref a,H,I,rfl,q1 (r2.nil_iff.mp z)⟩) (fun z=>?_) (by rw[<- r1.length,<- r2.length];exact hz)
 refine⟨.ref s.heap.objs.size,_,I.laid (t':=s.toks) (o:=.tup (xs++ys)) (fun b ob q=>jf_ _ q) (jl_ _) ?_,rfl,q2 (fun w=>z (r2.nil_iff.mpr w)) _ (I.hok.fresh (jl_ _))⟩
 exact⟨by rw[jq_];exact hz,_,r1.append r2,IsTup.new _ _⟩
end
end L2
namespace L2
open PySem PySem.Spec PyProof.Rows
def ixN (n:Nat)(i:Int):Option Nat:=if 0<=i then (if i<n then some i.toNat else none) else if -(n:Int)<=i then some (i+n).toNat else none
def atI {α:Type}(xs:List α)(i:Int):Option α:=(ixN xs.length i).bind fun j=>xs[j]?
theorem TL {n:Nat}{i:Int}{j:Nat}(h:ixN n i=some j):seqIndex? i n=some j/\j<n /\ -(n:Int)<=i/\i<n:=by
 unfold ixN at h
 by_cases h0:0<=i
 ·rw[if_pos h0] at h
  by_cases h1:i<n
  ·rw[if_pos h1] at h
   have e:i.toNat=j:=js_ h
   exact⟨by rw[seqIndex_of h0 h1,e],by omega,by omega,h1⟩
  ·rw[if_neg h1] at h;cases h
 ·rw[if_neg h0] at h
  by_cases h1 : -(n:Int)<=i
  ·rw[if_pos h1] at h
   have e:(i+n).toNat=j:=js_ h
   exact⟨by rw[seqIndex_neg (by omega) h1,e],by omega,h1,by omega⟩
  ·rw[if_neg h1] at h;cases h
theorem TM {α:Type}{xs:List α}{i:Int}{v:α}(h:atI xs i=some v):∃ j,seqIndex? i xs.length=some j/\xs[j]?=some v/\j<xs.length /\ -(xs.length:Int)<=i/\i<xs.length:=by
 unfold atI at h
 cases e:ixN xs.length i with
 | none=>rw[e] at h;cases h
 | some j =>
  rw[e] at h
  obtain⟨h1,h2,h3,h4⟩:=TL e
  exact⟨j,h1,h,h2,h3,h4⟩
theorem F0 {α:Type}{xs:List α}{j:Nat}{v:α}(h:xs[j]?=some v):atI xs (j:Int)=some v:=by
 have hj:j<xs.length:=(jc_.mp h).1
 have e:ixN xs.length (j:Int)=some j:=by
  unfold ixN
  rw[if_pos (by omega),if_pos (by omega)];simp
 unfold atI;rw[e];exact h
def TN (b:Expr):Prop:=∀ o i,subscripted b false o i=operate [o,i] (getItem o i)
def IxR (X:Cx)(r:R2):Prop :=
 ∀ (value slice:Expr) (pins:α7) (s:Shared) (σ:St) (H:Hp) (x y:V) (v u:Value) (Q:VK),Inv X pins σ H s->RelV x v->RelV y u->r x y H Q ->
  subscripted slice false v u=operate [v,u] (getItem v u)->wpAny (model X.prog X.w) X.A (subscriptTail value slice v u) (EP X pins σ Q) X.xe s
def MtR (X:Cx)(id:String)(r:V->List V->Hp->VK->Prop):Prop :=
 ∀ (pins:α7) (s:Shared) (σ:St) (H:Hp) (x:V) (xs:List V) (v:Value) (us:List Value) (Q:VK),Inv X pins σ H s->RelV x v->Vals xs us->r x xs H Q ->
  wpAny (model X.prog X.w) X.A (call (.builtin id) (v::us)) (EP X pins σ Q) X.xe s
section
variable {X:Cx} {a b:Expr} {ta tb:TE} {pos:Pos}
theorem IxR.or {r r':R2}(h:IxR X r)(h':IxR X r'):IxR X (fun x y H Q=>r x y H Q\/r' x y H Q):=by
 intro value slice pins s σ H x y v u Q I rx ry q hs
 rcases q with q | q
 ·exact h value slice pins s σ H x y v u Q I rx ry q hs
 ·exact h' value slice pins s σ H x y v u Q I rx ry q hs
theorem ZY {r:R2}(hr:IxR X r)(ha:PE X a ta)(hb:PE X b tb)(hs:TN b):PE X (.Subscript a b pos) (tOp r ta tb):=by
 intro pins s σ H Q I h
 exact Subscript_ (binT ha hb I h fun v u s2 x y H2 I2 rx ry q=>hr a b pins s2 σ H2 x y v u Q I2 rx ry q (hs _ _))
def rIxL (K:α3):R2:=fun x y H Q=>∃ p xs i v,x=.ref p/\y=.int i/\SqL K H p xs/\atI xs i=some v/\Q v H
def rIxT (K:α3):R2:=fun x y H Q=>∃ p xs i v,x=.ref p/\y=.int i/\SqT K H p xs/\atI xs i=some v/\Q v H
theorem Bz:IxR X (rIxL X.K):=by
 intro value slice pins s σ H x y v u Q I rx ry h hs
 obtain⟨p,xs,i,z,rfl,rfl,hq,he,q⟩:=h
 cases rx
 obtain⟨t,rfl⟩:=ry
 obtain⟨its,r,pl,hz⟩:=I.list hq
 obtain⟨j,h1,h2,h3,h4,h5⟩:=TM he
 obtain⟨w,ew,rw'⟩:=r.get h2
 have hl:=r.length
 have hn:=Og
 have fin:EP X pins σ Q w s:=⟨z,H,I,rw',q⟩
 by_cases h0:0<=i
 ·have hj:i.toNat=j:=by
   rw[seqIndex_of h0 h5] at h1
   exact js_ h1
  exact item_listR pl.isList h0 (by omega) (by rw[hj];simpa using ew) fin hs
 ·have hj:(i+(its.toArray.size:Int)).toNat=j:=by
   rw[seqIndex_neg (by omega) h4] at h1
   rw[jj_,<- hl]
   exact js_ h1
  exact subscriptTail_builtinR (x:=w) pl.isList.typeIs slot_list_getitem.lookup
   (wpAny_getItem_list_neg (Q:=fun r s'=>r=w/\EP X pins σ Q r s') pl.isList (by omega) (by rw[jj_]<;>omega) (by omega) (by rw[hj];simpa using ew) ⟨rfl,fin⟩) hs
theorem AG:IxR X (rIxT X.K):=by
 intro value slice pins s σ H x y v u Q I rx ry h hs
 obtain⟨p,xs,i,z,rfl,rfl,hq,he,q⟩:=h
 cases rx
 obtain⟨t,rfl⟩:=ry
 obtain⟨its,r,pl,hz⟩:=I.tuple hq
 obtain⟨j,h1,h2,h3,h4,h5⟩:=TM he
 obtain⟨w,ew,rw'⟩:=r.get h2
 have hl:=r.length
 have hn:=Og
 have fin:EP X pins σ Q w s:=⟨z,H,I,rw',q⟩
 exact subscriptTail_builtinR (x:=w) pl.typeIs slot_tuple_getitem.lookup
  (getItem_tuple (j:=j) (Q:=fun r s'=>r=w/\EP X pins σ Q r s') pl (by omega) (by omega) (by rw[jj_,<- hl];exact h1) (by simpa using ew) ⟨rfl,fin⟩) hs
theorem R6 (its:List Value)(n j:Nat)(u:Value):Obj.mapSeq (·.setIfInBounds j u) {cls:=.type "list",data:=.seq its.toArray n}={cls:=.type "list",data:=.seq (its.set j u).toArray n}:=by
 simp[Obj.mapSeq]
theorem Inv.lst {pins:α7}{σ:St}{H:Hp}{s:Shared}{p:Addr}{xs:List V}(I:Inv X pins σ H s)(h:H p=some (.lst xs)) :
  ∃ (its:List Value) (n:Nat),Vals xs its/\s.heap.get? p=some {cls:=.type "list",data:=.seq its.toArray n}/\xs.length<=sizeLine:=by
 obtain⟨z,its,n,r,e⟩:=I.hok p _ h
 exact⟨its,n,r,e,z⟩
theorem Inv.lstUpd {pins:α7}{σ:St}{H:Hp}{s:Shared}{p:Addr}{xs ys:List V}{its its':List Value}{n n':Nat}{f:Obj->Obj}(I:Inv X pins σ H s)(h:H p=some (.lst xs))
  (ho:s.heap.get? p=some {cls:=.type "list",data:=.seq its.toArray n}) (hf:f {cls:=.type "list",data:=.seq its.toArray n}={cls:=.type "list",data:=.seq its'.toArray n' }) (r:Vals ys its') (hz:ys.length<=sizeLine) (t:Nat) :
  Inv X pins σ (upd H p (.lst ys)) {s with heap:=s.heap.update p f,toks:=t}:=by
 have e:(s.heap.update p f).get? p=some {cls:=.type "list",data:=.seq its'.toArray n' }:=by
  rw[qt_ f ho (by rw[hf]<;>rfl),hf]
 refine I.write (x:=p) (e:=p) (by rw[h];trivial) (.inl rfl) (fun b u hb q=>(j9_ _ _ (j6_ hb)).trans q) ⟨_,e⟩ ?_
 exact⟨hz,its',n',r,e⟩
def ZZ:V->V->V->Hp->(Hp->Prop)->Prop:=fun o i v H Q=>∃ p xs k j,o=.ref p/\i=.int k/\H p=some (.lst xs)/\ixN xs.length k=some j/\Q (upd H p (.lst (xs.set j v)))
theorem set_list:PSet X ZZ:=by
 intro pins s σ H o i v ov iv u Q I ro ri rv h
 obtain⟨p,xs,k,j,rfl,rfl,hp,hj,q⟩:=h
 cases ro
 obtain⟨t,rfl⟩:=ri
 obtain⟨its,n,r,ho,hz⟩:=I.lst hp
 obtain⟨h1,h2,h3,h4⟩:=TL hj
 have hl:=r.length
 have hn:=Og
 have I':Inv X pins σ (upd H p (.lst (xs.set j v))) {s with heap:=s.heap.update p (Obj.mapSeq (·.setIfInBounds j u))} :=
  I.lstUpd hp ho (R6 its n j u) (r.set rv j) (by rw[List.length_set];exact hz) s.toks
 by_cases h0:0<=k
 ·have hk:k.toNat=j:=by
   rw[seqIndex_of h0 h4] at h1
   exact js_ h1
  exact PySem.W.ki_setAt ho h0 (by omega) (by rw[jj_,<- hl];exact h4) (by rw[hk];exact⟨_,I',q⟩)
 ·have hk:(k+(its.toArray.size:Int)).toNat=j:=by
   rw[seqIndex_neg (by omega) h3] at h1
   rw[jj_,<- hl]
   exact js_ h1
  exact PySem.W.ki_setBack ho (by omega) (by rw[jj_,<- hl];exact h3) (by omega) (by rw[hk];exact⟨_,I',q⟩)
def DK:V->Bool
 | .non=>true
 | .bl _=>true
 | .int _=>true
 | .str _=>true
 | _=>false
def eqV:V->V->Bool
 | .non,.non=>true
 | .bl a,.bl b=>a == b
 | .bl a,.int b=>(if a then 1 else 0) == b
 | .int a,.bl b=>a == (if b then 1 else 0)
 | .int a,.int b=>a == b
 | .str a,.str b=>a == b
 | _,_=>false
theorem TQ {A:Around}{s:Shared}{y x:V}{u v:Value}(ry:RelV y u)(rx:RelV x v)(fy:DK y=true)(fx:DK x=true):SeqAt.EqAt A s u v (eqV y x):=by
 cases y with
 | non =>
  cases ry
  cases x with
  | non=>cases rx;exact SeqAt.EqAt.same _
  | bl b=>cases rx;exact SeqAt.EqAt.none_bool b
  | int b=>obtain⟨t,rfl⟩:=rx;exact SeqAt.EqAt.none_int b t
  | str b=>obtain⟨t,rfl⟩:=rx;exact SeqAt.EqAt.none_str b t
  | _=>exact absurd (show false=true from fx) jp_
 | bl a =>
  cases ry
  cases x with
  | non=>cases rx;exact SeqAt.EqAt.bool_none a
  | bl b=>cases rx;exact SeqAt.EqAt.bool_bool a b
  | int b=>obtain⟨t,rfl⟩:=rx;exact SeqAt.EqAt.bool_int a b t
  | str b=>obtain⟨t,rfl⟩:=rx;exact SeqAt.EqAt.bool_str a b t
  | _=>exact absurd (show false=true from fx) jp_
 | int a =>
  obtain⟨t',rfl⟩:=ry
  cases x with
  | non=>cases rx;exact SeqAt.EqAt.int_none a t'
  | bl b=>cases rx;exact SeqAt.EqAt.int_bool a t' b
  | int b=>obtain⟨t,rfl⟩:=rx;exact SeqAt.EqAt.int_int a t' b t
  | str b=>obtain⟨t,rfl⟩:=rx;exact SeqAt.EqAt.int_str a t' b t
  | _=>exact absurd (show false=true from fx) jp_
 | str a =>
  obtain⟨t',rfl⟩:=ry
  cases x with
  | non=>cases rx;exact SeqAt.EqAt.str_none a t'
  | bl b=>cases rx;exact SeqAt.EqAt.str_bool a t' b
  | int b=>obtain⟨t,rfl⟩:=rx;exact SeqAt.EqAt.str_int a t' b t
  | str b=>obtain⟨t,rfl⟩:=rx;exact SeqAt.EqAt.str_str a t' b t
  | _=>exact absurd (show false=true from fx) jp_
 | _=>exact absurd (show false=true from fy) jp_
def eqU (x:V)(u:Value):Bool:=match u with
 | .none=>eqV .non x
 | .bool b=>eqV (.bl b) x
 | .int i _=>eqV (.int i) x
 | .str z _=>eqV (.str z) x
 | _=>false
theorem Xc {x y:V}{u:Value}(r:RelV y u)(f:DK y=true):eqU x u=eqV y x:=by
 cases y with
 | non=>cases r;rfl
 | bl b=>cases r;rfl
 | int i=>obtain⟨t,rfl⟩:=r;rfl
 | str z=>obtain⟨t,rfl⟩:=r;rfl
 | _=>exact absurd (show false=true from f) jp_
theorem Mz {x:V}:∀ {xs:List V} {us:List Value},Vals xs us->xs.all DK=true->us.any (eqU x)=xs.any fun y=>eqV y x
 | _,_,.nil,_=>rfl
 | y::xs,u::us,.cons r t,f=>by
  rw[List.all_cons,qy_] at f
  rw[zE_,zE_,Xc r f.1,Mz t f.2]
theorem JU {A:Around}{s:Shared}{x:V}{v:Value}(rx:RelV x v)(fx:DK x=true):∀ {xs:List V} {us:List Value},Vals xs us->xs.all DK=true->∀ u∈us,SeqAt.EqAt A s u v (eqU x u)
 | _,_,.nil,_=>fun u hu=>by cases hu
 | y::xs,u::us,.cons r t,f=>fun u' hu=>by
  rw[List.all_cons,qy_] at f
  rcases jC_.mp hu with rfl | hu
  ·rw[Xc r f.1];exact TQ r rx f.1 fx
  ·exact JU rx fx t f.2 u' hu
def inV (x:V)(xs:List V):Bool:=xs.any fun y=>eqV y x
def rIn (K:α3)(neg:Bool):R2:=fun x y H Q=>∃ p xs,y=.ref p/\(SqL K H p xs\/SqT K H p xs)/\DK x=true/\xs.all DK=true/\Q (.bl (if neg then !inV x xs else inV x xs)) H
theorem IX:OpR X (compareOp .NotIn) (rIn X.K true):=by
 intro pins s σ H x y v u Q I rx ry h
 obtain⟨p,xs,rfl,hq,fx,fs,q⟩:=h
 cases ry
 rcases hq with hq | hq
 ·obtain⟨its,r,pl,hz⟩:=I.list hq
  refine SeqAt.notIn_listAt (eqU x) pl.isList (fun w hw=>JU rx fx r fs w (by simpa using hw)) ⟨.bl _,H,I,rfl,?_⟩
  rw[show its.toArray.any (eqU x)=its.any (eqU x) by simp,Mz r fs]
  exact q
 ·obtain⟨its,r,pl,hz⟩:=I.tuple hq
  refine SeqAt.notIn_tupleAt (eqU x) pl (fun w hw=>JU rx fx r fs w (by simpa using hw)) ⟨.bl _,H,I,rfl,?_⟩
  rw[show its.toArray.any (eqU x)=its.any (eqU x) by simp,Mz r fs]
  exact q
theorem Ak:EF X (.builtin "len") (fun xs H Q=>∃ p ys,xs=[.ref p]/\(SqL X.K H p ys\/SqT X.K H p ys)/\Q (.int ys.length) H):=by
 intro pins s σ H xs us Q I r h
 obtain⟨p,ys,rfl,hq,q⟩:=h
 obtain⟨u,rfl,rx⟩:=vals1 r
 cases rx
 have hn:=Og
 rcases hq with hq | hq
 ·obtain⟨its,r',pl,hz⟩:=I.list hq
  have hlen:=r'.length
  exact Calls.call_len_list pl.isList (by simp only[jj_]<;>omega) ⟨.int ys.length,H,I.tok _,⟨s.toks+1,by rw[jj_,hlen]⟩,q⟩
 ·obtain⟨its,r',pl,hz⟩:=I.tuple hq
  have hlen:=r'.length
  exact len_tuple pl (by simp only[jj_]<;>omega) ⟨.int ys.length,H,I.tok _,⟨s.toks+1,by rw[jj_,hlen]⟩,q⟩
theorem EF.or {f:Value}{r r':List V->Hp->VK->Prop}(h:EF X f r)(h':EF X f r'):EF X f (fun xs H Q=>r xs H Q\/r' xs H Q):=by
 intro pins s σ H xs us Q I rs q
 rcases q with q | q
 ·exact h pins s σ H xs us Q I rs q
 ·exact h' pins s σ H xs us Q I rs q
theorem F1:EF X (.type "list") (fun xs H Q=>∃ p ys,xs=[.ref p]/\(SqL X.K H p ys\/SqT X.K H p ys)/\∀ l,H l=none->Q (.ref l) (upd H l (.lst ys))):=by
 intro pins s σ H xs us Q I r h
 obtain⟨p,ys,rfl,hq,q⟩:=h
 obtain⟨u,rfl,rx⟩:=vals1 r
 cases rx
 have fin:∀ (its:List Value),Vals ys its->ys.length<=sizeLine->∀ (h':Heap) (c':Nat),(∀ b o',s.heap.get? b=some o'->h'.get? b=some o') ->
   h'.get? s.heap.objs.size=some {cls:=.type "list",dict:=none,data:=.seq its.toArray c',slots := #[]}->EP X pins σ Q (.ref s.heap.objs.size) {s with heap:=h' }:=fun its r' hz h' c' kp e =>
  ⟨.ref s.heap.objs.size,_,I.laid (t':=s.toks) kp (jl_ _) (show CF X.prog X.w _ h' _ (.lst ys) from ⟨hz,its,c',r',e⟩),rfl,q _ (I.hok.fresh (jl_ _))⟩
 rcases hq with hq | hq
 ·obtain⟨its,r',pl,hz⟩:=I.list hq
  have hlen:=r'.length
  obtain⟨o,ho,hc,n,hd⟩:=pl.isList
  exact call_list_seq p (.inl rfl) ho hc hd (fun h' c' kp e=>fin its r' hz h' c' kp e) (by simp only[jj_]<;>omega)
 ·obtain⟨its,r',pl,hz⟩:=I.tuple hq
  have hlen:=r'.length
  obtain⟨o,ho,hc,n,hd⟩:=pl
  exact call_list_seq p (.inr rfl) ho hc hd (fun h' c' kp e=>fin its r' hz h' c' kp e) (by simp only[jj_]<;>omega)
theorem MA:EF X (.type "tuple") (fun xs H Q=>∃ p ys,xs=[.ref p]/\((SqL X.K H p ys/\∀ l,H l=none->Q (.ref l) (upd H l (.tup ys)))\/(SqT X.K H p ys/\Q (.ref p) H))):=by
 intro pins s σ H xs us Q I r h
 obtain⟨p,ys,rfl,h⟩:=h
 obtain⟨u,rfl,rx⟩:=vals1 r
 cases rx
 rcases h with ⟨hq,q⟩ | ⟨hq,q⟩
 ·obtain⟨its,r',pl,hz⟩:=I.list hq
  have hlen:=r'.length
  refine call_tuple_list pl.isList (fun h' kp=>?_) (by simp only[jj_]<;>omega)
  have I1:Inv X pins σ H {s with heap:=h' }:=I.kept (t':=s.toks) kp
  have I2:Inv X pins σ (upd H h'.objs.size (.tup ys)) {s with heap:=h'.push {cls:=.type "tuple",data:=.seq its.toArray} } :=
   I1.laid (t':=s.toks) (fun b o e=>jf_ _ e) (jl_ _) (show CF X.prog X.w _ _ _ (.tup ys) from ⟨hz,its,r',IsTup.new _ _⟩)
  exact⟨.ref h'.objs.size,_,I2,rfl,q _ (I1.hok.fresh (jl_ _))⟩
 ·obtain⟨its,r',pl,hz⟩:=I.tuple hq
  exact call_tuple_same pl ⟨.ref p,H,I,rfl,q⟩
def tyV (K:α3)(T:String)(x:V)(H:Hp):Prop:=match x with
 | .str _=>T = "str"
 | .int _=>T = "int"
 | .ref p=>(T = "list" /\ ∃ xs,SqL K H p xs)\/(T = "tuple" /\ ∃ o,K.lookup p=some o/\o.cls=.type "tuple" /\ o.dict=none) \/
   (T = "dict" /\ ((∃ kvs,H p=some (.dK kvs)) \/ ∃ kvs,H p=some (.dT kvs)))\/(T = "set" /\ ∃ S n,H p=some (.set S n))
 | _=>False
theorem Xd {pins:α7}{σ:St}{H:Hp}{s:Shared}{T:String}{x:V}{v:Value}(I:Inv X pins σ H s)(r:RelV x v)(ty:tyV X.K T x H) :
  s.TypeIs v T/\∀ a,v=.ref a->∃ ob,s.heap.get? a=some ob/\ob.dict=none:=by
 cases x with
 | str z =>
  obtain⟨t,rfl⟩:=r
  cases (show T = "str" from ty)
  exact⟨typeIs_str s z t,fun _ e=>nomatch e⟩
 | int i =>
  obtain⟨t,rfl⟩:=r
  cases (show T = "int" from ty)
  exact⟨typeIs_int s i t,fun _ e=>nomatch e⟩
 | ref p =>
  cases r
  rcases ty with ⟨rfl,xs,hq⟩ | ⟨rfl,o,hk,hc,hd⟩ | ⟨rfl,hk⟩ | ⟨rfl,S,n,hk⟩
  ·obtain⟨its,_,pl,_⟩:=I.list hq
   refine⟨pl.isList.typeIs,fun a e=>?_⟩
   cases e
   obtain⟨o,n,e,c,hd,_⟩:=pl
   exact⟨o,e,hd⟩
  ·refine⟨⟨o,I.kIn p o hk,hc⟩,fun a e=>?_⟩
   cases e
   exact⟨o,I.kIn _ o hk,hd⟩
  ·have z:∃ o,s.heap.get? p=some o/\o.ExactDict:=by
    rcases hk with ⟨kvs,hk⟩ | ⟨kvs,hk⟩
    ·obtain⟨_,_,_,_,o,_,_,e,ex,_⟩:=I.hok p _ hk
     exact⟨o,e,ex⟩
    ·obtain⟨_,_,_,_,o,_,_,e,ex,_⟩:=I.hok p _ hk
     exact⟨o,e,ex⟩
   obtain⟨o,e,ex⟩:=z
   refine⟨⟨o,e,ex.1⟩,fun a e2=>?_⟩
   cases e2
   exact⟨o,e,ex.2.1⟩
  ·obtain⟨o,_,_,_,e,ex,_⟩:=I.hok p _ hk
   refine⟨⟨o,e,ex.1⟩,fun a e2=>?_⟩
   cases e2
   exact⟨o,e,ex.2.1⟩
 | _=>exact False.elim ty
def tBM0 (K:α3)(T:String)(r:V->List V->Hp->VK->Prop)(to:TE):TE:=fun σ H Q=>to σ H fun x H1=>tyV K T x H1/\r x [] H1 Q
def tBM (K:α3)(T:String)(r:V->List V->Hp->VK->Prop)(to:TE)(t:TA):TE:=fun σ H Q=>to σ H fun x H1=>tyV K T x H1/\t σ H1 fun xs H2=>r x xs H2 Q
variable {o e:Expr} {es:List Expr} {to:TE} {t:TA} {name:Str} {apos cpos:Pos} {T id:String} {r:V->List V->Hp->VK->Prop}
theorem Xe (pa:PlainAttrs T)(slot:Slot T name id)(hty:typeOf (.builtin id)=pure (.type "method_descriptor"))(hm:MtR X id r)(ho:PE X o to)
  (hbase:attributeBase o name X.env (eval o X.env)=eval o X.env:=by rfl) (hline:(apos.endLine == cpos.line)=true:=by rfl):PE X (.Call (.Attribute o name apos) [] [] cpos) (tBM0 X.K T r to):=by
 intro pins s σ H Q I h
 refine wpAny_Call_method0_late hbase hline (thn (ho pins s σ H _ I h) fun v s1 ⟨x,H1,I1,r1,ty,q1⟩=>?_)
 obtain⟨h1,h2⟩:=Xd I1 r1 ty
 exact⟨T,id,pa,slot,hty,h1,h2,xM_ rfl (PySem.evalArgs_none (hm pins s1 σ H1 x [] v [] Q I1 r1 .nil q1))⟩
theorem E9 (pa:PlainAttrs T)(slot:Slot T name id)(hty:typeOf (.builtin id)=pure (.type "method_descriptor"))(hm:MtR X id r)(ho:PE X o to)(ha:PA X (e::es) t)
  (hbase:attributeBase o name X.env (eval o X.env)=eval o X.env:=by rfl)
  (hfew:((backTo cpos (starEach (e::es) X.env)).all (fun x => !x.1)&&(backToKw cpos (keywordEach [] X.env)).all (fun x=>x.1.isSome)
   && decide ((e::es).length+([]:List Keyword).length+(if ([]:List Keyword).isEmpty then 0 else 1)<30))=true:=by rfl)
  (hline:(apos.endLine == cpos.line)=true:=by rfl) (hs:starEach (e::es) X.env=(false,eval e X.env)::starEach es X.env:=by rfl) (hplain:(backTo cpos (starEach es X.env)).any (·.1)=false:=by rfl) :
  PE X (.Call (.Attribute o name apos) (e::es) [] cpos) (tBM X.K T r to t):=by
 intro pins s σ H Q I h
 refine wpAny_Call_method_late hbase hfew hline rfl (thn (ho pins s σ H _ I h) fun v s1 ⟨x,H1,I1,r1,ty,q1⟩=>?_)
 obtain⟨h1,h2⟩:=Xd I1 r1 ty
 refine⟨T,id,pa,slot,hty,h1,h2,?_⟩
 have hA:=ha cpos pins s1 σ H1 _ I1 q1
 rw[hs] at hA ⊢
 refine xM_ (by show (false||(backTo cpos (starEach es X.env)).any (·.1))=false;rw[hplain]<;>rfl) (xZ_ ?_)
 exact thn hA fun us s2 ⟨vs,H2,I2,r2,q2⟩=>hm pins s2 σ H2 x vs v us Q I2 r1 r2 q2
/- xs.append(e),list.index on a module's tuple .. are MtR facts of 06m -/
end
end L2
namespace L2
open PySem PySem.Spec PyProof.Rows
def MtM (X:Cx)(id:String)(r:V->List V->Hp->VK->Prop):Prop :=
 ∀ (pins:α7) (s:Shared) (σ:St) (H:Hp) (x:V) (xs:List V) (v:Value) (us:List Value) (Q:VK),Inv X pins σ H s->RelV x v->Vals xs us->r x xs H Q ->
  wpAny (model X.prog X.w) X.A (call (.builtin id) (v::us)) (EP X pins σ Q) X.xe s
theorem Vals.one:∀ {x:V} {us:List Value},Vals [x] us->∃ u,us=[u]/\RelV x u
 | _,_,.cons r .nil=>⟨_,rfl,r⟩
theorem Vals.zero:∀ {us:List Value},Vals [] us->us=[]
 | _,.nil=>rfl
theorem Vals.rep {xs:List V}{us:List Value}(h:Vals xs us):∀ k:Nat,Vals (List.replicate k xs).flatten (List.replicate k us).flatten
 | 0=>.nil
 | k+1=>by
  rw[j8_,j8_,xC_,xC_]
  exact Vals.append h (Vals.rep h k)
theorem foldl_rep (its:List Value):∀ (k:Nat) (acc:List Value),
  List.foldl (fun x1 x2=>x1++x2) acc.toArray (List.replicate k its.toArray)=(acc++(List.replicate k its).flatten).toArray
 | 0,acc=>by simp
 | k+1,acc=>by
  have e:acc.toArray++its.toArray=(acc++its).toArray:=by simp
  have e2:(acc++its)++(List.replicate k its).flatten=acc++(List.replicate (k+1) its).flatten:=by
   rw[j8_,xC_,qA_]
  rw[<- e2,<- foldl_rep its k (acc++its),<- e,j8_,qT_]
section
variable {X:Cx} {pins:α7} {σ:St} {H:Hp} {s:Shared} {l b:Addr} {xs ys zs:List V}
theorem Inv.lset {its its':List Value}{n:Nat}{f:Array Value->Array Value}{t':Nat}(I:Inv X pins σ H s)(hH:H l=some (.lst xs))
  (e:s.heap.get? l=some {cls:=.type "list",data:=.seq its.toArray n}) (hf:f its.toArray=its'.toArray) (hv:Vals ys its') (hz:ys.length<=sizeLine) :
  Inv X pins σ (upd H l (.lst ys)) {s with heap:=s.heap.update l (Obj.mapSeq f),toks:=t' }:=by
 have q:=zA_ e f
 rw[hf] at q
 refine I.write (x:=l) (e:=l) (by rw[hH];exact trivial) (.inl rfl) (fun b' u hb hu=>(j9_ s.heap (Obj.mapSeq f) (j6_ hb)).trans hu) ⟨_,q⟩ ?_
 exact⟨hz,its',_,hv,q⟩
theorem Inv.lnew {its:List Value}{t':Nat}(I:Inv X pins σ H s)(hv:Vals ys its)(hz:ys.length<=sizeLine) :
  Inv X pins σ (upd H s.heap.objs.size (.lst ys)) {s with heap:=s.heap.push {cls:=.type "list",data:=.seq its.toArray},toks:=t' } :=
 I.laid (fun _ _ q=>jf_ _ q) (jl_ _) ⟨hz,its,0,hv,jy_ _ rfl⟩
theorem Inv.fresh (I:Inv X pins σ H s):H s.heap.objs.size=none:=I.hok.fresh (jl_ _)
theorem Inv.lstM (I:Inv X pins σ H s)(hH:H l=some (.lst xs)):xs.length<=sizeLine/\∃ (its:List Value) (n:Nat),Vals xs its/\xs.length=its.length/\s.heap.get? l=some {cls:=.type "list",data:=.seq its.toArray n}:=by
 obtain⟨z,its,n,r,e⟩:=I.hok l _ hH
 exact⟨z,its,n,r,r.length,e⟩
theorem Ra {n:Nat}(h:n<=sizeLine):Builtin.List.listTooLong n=false:=by
 unfold Builtin.List.listTooLong
 exact qe_ (by omega)
end
section
variable {X:Cx}
def TR:V->List V->Hp->VK->Prop:=fun x vs H Q=>∃ l xs y,x=.ref l/\vs=[y]/\H l=some (.lst xs)/\xs.length<sizeLine/\Q .non (upd H l (.lst (xs ++ [y])))
theorem Bf:MtM X "list.append" TR:=by
 intro pins s σ H x vs v us Q I rx rv h
 obtain⟨l,xs,y,rfl,rfl,hH,hz,q⟩:=h
 cases rx
 obtain⟨u,rfl,ru⟩:=rv.one
 obtain⟨z,its,n,r,hl,e⟩:=I.lstM hH
 refine xD_ F.slot_list_append ⟨_,e,rfl⟩ F.entry_list_append (F.args_list_append_2 _ _) (PySem.list_append l its.toArray n u (by rw[jj_];omega)) ⟨e,?_⟩
 refine⟨.non,_,I.lset (its':=its ++ [u]) hH e (by simp) (r.append (.cons ru .nil)) ?_,rfl,q⟩
 rw[jq_,j3_]
 omega
def TU:V->List V->Hp->VK->Prop:=fun x vs H Q=>∃ l b xs zs,x=.ref l/\vs=[.ref b]/\H l=some (.lst xs)/\H b=some (.lst zs)/\xs.length+zs.length<=sizeLine/\Q .non (upd H l (.lst (xs++zs)))
theorem TV:MtM X "list.extend" TU:=by
 intro pins s σ H x vs v us Q I rx rv h
 obtain⟨l,b,xs,zs,rfl,rfl,hH,hB,hz,q⟩:=h
 cases rx
 obtain⟨u,rfl,ru⟩:=rv.one
 cases ru
 obtain⟨z,its,n,r,hl,e⟩:=I.lstM hH
 obtain⟨z2,its2,n2,r2,hl2,e2⟩:=I.lstM hB
 have hsz:its.toArray.size+its2.toArray.size<=sizeLine:=by rw[jj_,jj_];omega
 have hlong:¬ (!its.toArray.isEmpty&&Builtin.List.listTooLong (its.toArray.size+its2.toArray.size))=true:=by
  rw[Ra hsz,Bool.and_false]
  exact jp_
 refine xD_ F.slot_list_extend ⟨_,e,rfl⟩ F.entry_list_extend (F.args_list_extend_2 _ _)
  (AutoSeq1.list_extend_list_list_0 l its.toArray n b its2.toArray n2 hlong (by rw[jj_];omega) (by omega)) ⟨e,e2,?_⟩
 refine⟨.non,_,I.lset (its':=its++its2) hH e (by simp) (r.append r2) ?_,rfl,q⟩
 rw[jq_]
 omega
def Xf:V->List V->Hp->VK->Prop:=fun x vs H Q=>∃ l xs,x=.ref l/\vs=[]/\H l=some (.lst xs)/\Q .non (upd H l (.lst []))
theorem Rb:MtM X "list.clear" Xf:=by
 intro pins s σ H x vs v us Q I rx rv h
 obtain⟨l,xs,rfl,rfl,hH,q⟩:=h
 cases rx
 have hus:=rv.zero
 subst hus
 obtain⟨z,its,n,r,hl,e⟩:=I.lstM hH
 refine xD_ F.slot_list_clear ⟨_,e,rfl⟩ F.entry_list_clear (F.args_list_clear_1 _) (AutoSeq1.list_clear_list_0 l its.toArray n (by rw[jj_];omega)) ⟨e,?_⟩
 exact⟨.non,_,I.lset (its':=[]) (ys:=[]) hH e rfl .nil (j0_ _),rfl,q⟩
def rCat:R2:=fun x y H Q=>∃ l b xs zs,x=.ref l/\y=.ref b/\H l=some (.lst xs)/\H b=some (.lst zs)/\xs.length+zs.length<=sizeLine/\∀ p,H p=none->Q (.ref p) (upd H p (.lst (xs++zs)))
theorem Z0:OpR X (binaryOp .Add) rCat:=by
 intro pins s σ H x y v u Q I rx ry h
 obtain⟨l,b,xs,zs,rfl,rfl,hH,hB,hz,q⟩:=h
 cases rx
 cases ry
 obtain⟨z,its,n,r,hl,e⟩:=I.lstM hH
 obtain⟨z2,its2,n2,r2,hl2,e2⟩:=I.lstM hB
 refine PySem.P.add_list e e2 ?_ (by rw[jj_,jj_];omega)
 have ea:its.toArray++its2.toArray=(its++its2).toArray:=by simp
 rw[ea]
 exact⟨.ref _,_,I.lnew (t':=s.toks) (r.append r2) (by rw[jq_];omega),rfl,q _ I.fresh⟩
def rRep:R2:=fun x y H Q=>∃ l k xs,x=.ref l/\y=.int k/\H l=some (.lst xs) /\ -(2 ^ 63)<=k/\k<2 ^ 63/\xs.length*k.toNat<=sizeLine /\
 ∀ p,H p=none->Q (.ref p) (upd H p (.lst (List.replicate k.toNat xs).flatten))
theorem len_rep {α:Type}(xs:List α)(k:Nat):(List.replicate k xs).flatten.length=k*xs.length:=by
 induction k with
 | zero=>simp
 | succ k ih=>rw[j8_,xC_,jq_,ih,Nat.succ_mul,Nat.add_comm]
theorem TW:OpR X (binaryOp .Mult) rRep:=by
 intro pins s σ H x y v u Q I rx ry h
 obtain⟨l,k,xs,rfl,rfl,hH,h1,h2,hz,q⟩:=h
 cases rx
 obtain⟨t,rfl⟩:=ry
 obtain⟨z,its,n,r,hl,e⟩:=I.lstM hH
 have hlen:its.toArray.size*k.toNat<=sizeLine:=by rw[jj_,<- hl];exact hz
 have hcap:¬ its.toArray.size*k.toNat > (2 ^ 63-1) / 8:=by
  have:(sizeLine:Nat)<=(2 ^ 63-1) / 8:=by decide
  omega
 have hfit:¬ (!Builtin.List.listFitsIndex k)=true:=by
  rw[fitsIndex_both h1 h2]
  exact jp_
 have hlong:¬ Builtin.List.listTooLong (its.toArray.size*k.toNat)=true:=by
  rw[Ra hlen]
  exact jp_
 have hnew:List.foldl (fun x1 x2=>x1++x2) #[] (List.replicate (if its.toArray.isEmpty=true then 0 else k.toNat) its.toArray)=(List.replicate k.toNat its).flatten.toArray:=by
  have f0:∀ m:Nat,List.foldl (fun x1 x2=>x1++x2) #[] (List.replicate m its.toArray)=(List.replicate m its).flatten.toArray:=fun m=>by
   have:=foldl_rep its m []
   rw[xP_] at this
   exact this
  rw[f0]
  cases its with
  | nil=>simp
  | cons a r'=>rw[if_neg (by simp)]
 refine wpAny_binaryOp_repeat_ref (T := "list") (U := "int") (by decide) ⟨_,e,rfl⟩ (fun s'=>typeIs_int s' k t) noFill_list_mul F.fills_int_mul zK_ repeat_list F.slot_int_index.lookup
  (xD_ zK_ (typeIs_int s k t) F.entry_int_rmul (F.args_int_rmul_2 _ _) (int___rmul___int_list k t l its.toArray n)
   ⟨e,rfl,⟨_,e,rfl⟩,xD_ F.slot_list_mul ⟨_,e,rfl⟩ F.entry_list_mul (F.args_list_mul_2 _ _) (AutoListH.list___mul___list_int_3 l its.toArray n k t hfit hcap hlong) ⟨e,?_⟩⟩)
 rw[hnew]
 exact⟨.ref _,_,I.lnew (t':=s.toks) (r.rep k.toNat) (by rw[len_rep,Nat.mul_comm];exact hz),rfl,q _ I.fresh⟩
end
end L2
namespace Att
open PySem PySem.W PySem.Calls PyProof.Rows
theorem J8 {P:Params}{h:Heap}:∀ (ns:α2) (vs:List Value),WellAll P h vs (ns.map WData.int)->IntsAre vs ns:=by
 intro ns
 induction ns with
 | nil =>
  intro vs w
  rw[xO_] at w
  cases w
  exact .nil
 | cons n ns ih =>
  intro vs w
  rw[jV_] at w
  cases w with
  | cons a b =>
   cases a
   exact .cons _ _ (ih _ b)
theorem TX {l:OpenLaw}{n:Nat}(hn:l.most=some n){P:Params}{h:Heap}{args:List WData}{vals:List Value}
  (hpre:l.row.toRowW.claim.pre args=true) (hwl:WellAll P h vals args) :
  ∃ a vs ns,vals=[Value.ref a]/\args=[WData.list (ns.map WData.int)]/\h.get? a=some {cls:=.type "list",data:=.seq vs.toArray}/\IntsAre vs ns/\ns.length<=n:=by
 have hsh:WShape.hasAll [] args [.list .int]=true:=(pre_splitW hpre).1
 have hc:l.pre.holds [] {args:=args}=true:=(pre_splitW hpre).2
 obtain⟨d,r,rfl,h1,h2⟩:=hasAllW_cons hsh
 obtain rfl:=hasAllW_nil h2
 obtain⟨xs,rfl,h3⟩:=hasW_list h1
 obtain⟨ns,rfl⟩:=items_int h3
 have hlen:ns.length<=n:=by
  unfold OpenLaw.pre at hc
  have h4:(WTm.not (.lt (.lit (.int (n:Int))) (.len (.arg 0)))).holds [] {args:=[.list (ns.map .int)]}=true:=by
   have h4:=(holds_andW hc).1
   rw[hn] at h4
   exact h4
  have h5:=condW_of h4 (w_not (w_lt w_lit (w_len_list (w_arg rfl))))
  rw[ja_] at h5
  refine Nat.le_of_not_lt fun q=>?_
  have q':(n:Int)<((ns.length:Nat):Int):=by omega
  first
   | (rw[qj_ q'] at h5;exact absurd h5 (by decide))
   | (simp at h5;omega)
 cases hwl with
 | cons w1 w2 =>
  cases w2
  cases w1 with
  | list ho hall=>exact⟨_,_,ns,rfl,rfl,ho,J8 ns _ hall,hlen⟩
theorem TY (l:OpenLaw)(args:List WData):l.row.toRowW.claim.post args (.bool true) args=true :=
 postW_of (r:=l.row.toRowW) (X:=(true == true))
  (show WShape.has [] (.bool true) .bool=true by first | rfl | decide | simp[WShape.has,WShape.arms,WShape.armsAll])
  (show (WTm.eq .res (.lit (.bool true))).value [] {args:=args,res:=some (.bool true),after:=args}=some (.bool (true == true)) from w_eq_bool (w_res rfl) w_lit) rfl
theorem attach_call {l:OpenLaw}{n:Nat}{q:Program}{loose:List Str}{XP:(Str->α5)->Heap->Prop}{YP:World->Heap->Prop}{d:DefRec}
  (hn:l.most=some n) (hdf:d.params.defaults=[])
  (call:∀ (w:World) (s₀ s₁:Shared) (mg mb:Str->α5) (fa:Addr) (o:Obj) (pm cd doc:Value) (a:Addr) (vs:List Value) (ns:α2),
   Ground q loose [] XP w s₀ mg mb s₁.heap->YP w s₁.heap ->
   s₁.heap.get? fa=some o->o.data=.func (docDef d.name d.params d.body d.scope pm cd doc)->s₁.heap.CodeRec cd d.name->mg d.name=some (.ref fa) ->
   s₁.heap.get? a=some {cls:=.type "list",data:=.seq vs.toArray}->IntsAre vs ns->ns.length<=n->s₁.gens = #[] ->
   codeAny (model l.prog w) callerA (.call (.ref fa) ⟨[.ref a],[]⟩) (fun r s'=>r=.ok (.ret (.bool true))/\OldK s₁.heap s'.heap/\s'.os=s₁.os/\AllBare s'.gens) s₁) :
  WalkO q loose XP YP l.row.toRowW d [] (fun f vs=>PySem.call f vs):=by
 intro w s₀ s₁ mg mb G Y fa o pm cd doc dV kV ho hd hcd hD hmg hg args vals as hpre hlay hrd hwl hlo
 obtain rfl:dV=.none:=Dflts.none hD hdf
 obtain rfl:kV=.none:=Dflts.noKw hD
 obtain⟨a,vs,ns,rfl,rfl,hobj,hints,hlen⟩:=TX hn hpre hwl
 refine enter_call (codeAny_mono (call w s₀ s₁ mg mb fa o pm cd doc a vs ns G Y ho (fd_plain hd) hcd hmg hobj hints hlen hg) fun r s' hq=>?_)
 obtain⟨rfl,h2,h3,h4⟩:=hq
 exact⟨.inl ⟨.bool true,.bool true,[],rfl,fun _=>rfl,.bool true,TY l _,fun _=>⟨List.Pairwise.nil,fun _ hm=>(nomatch hm)⟩⟩,h2,h3,h4⟩
end Att
namespace L2
open PySem PySem.Spec PyProof.Rows
theorem Oo:∀ {vs:List Value} {ns:α2},IntsAre vs ns->Vals (ns.map V.int) vs
 | _,_,.nil=>.nil
 | _,_,.cons n t h=>.cons ⟨t,rfl⟩ (Oo h)
def AD (s:Stmt):Arguments:=match s with
 | .FunctionDef _ a _ _ _ _ _ _ _ _=>a
 | _=>{posonlyargs:=[],args:=[],vararg:=none,kwonlyargs:=[],kw_defaults:=[],kwarg:=none,defaults:=[]}
def Ay (s:Stmt):List Stmt:=match s with
 | .FunctionDef _ _ b _ _ _ _ _ _ _=>b
 | _=>[]
def Af (s:Stmt):Scope:=match s with
 | .FunctionDef _ _ _ _ _ _ sc _ _ _=>sc
 | _=>{kind:=.function,names:=[],isGenerator:=false,isCoroutine:=false}
abbrev CX0:CXT:=fun _ _ _ _ _ _=>False
abbrev E0:XK:=fun _ _ _=>False
theorem Bc {X:Cx}:Oh CX0 X E0:=fun _ _ _ _ _ _ _ h=>h.elim
structure Fun (K:α3)(x qual:Str)(st:Stmt)(f:Addr)(fd:α6):Prop where
 ex:∃ (oc:Value) (od:Option Addr) (kV doc pm:Value) (an:Option Addr) (cdv ct:Value) (osl:Array (α5)),
  fd=fnOf x qual (AD st) (Ay st) (Af st) .none kV doc pm an cdv ct/\K.lookup f=some ⟨oc,od,.func fd,osl⟩/\codeIn K cdv qual=true
 kp:keepIn K (.ref f)=true
section
variable {P:Program} {w:World} {K:α3} {mg:Str->α5} {base:Heap}
theorem Fun.ok {x qual:Str}{st:Stmt}{f:Addr}{fd:α6}{N ps:List Str}{k:Nat}{sp:Sp}(F:Fun K x qual st f fd)(S:FnScope N ps (Af st))(len:∀ vs H Q E,sp vs H Q E->vs.length=ps.length)
  (hbody:∀ (cdv:Value) (A:Around) (outer:List Env) (s:Shared) (H:Hp) (vs:List V) (Q:VK) (E:XK),Room k (A.deeper (envOfC qual (Af st) s.heap.objs.size f cdv))->sp vs H Q E ->
   ∃ t,PSs (cxOf CX0 P w K mg base N qual (Af st) f cdv A outer s H E).nox (Ay st) t/\t {nx:=fun _ H'=>Q .non H',rt:=Q} (start N vs) H):FnOk P w K mg base CX0 (k+1) f fd ps sp:=by
 obtain⟨oc,od,kV,doc,pm,an,cdv,ct,osl,rfl,lk,hcd⟩:=F.ex
 refine Yr lk hcd S len fun A outer s H vs Q E hr hsp=>?_
 obtain⟨t,h,q⟩:=hbody cdv A outer s H vs Q E hr hsp
 exact⟨t,h.nox,q⟩
theorem Fun.binds {x qual:Str}{st:Stmt}{f:Addr}{fd:α6}{ps:List Str}(F:Fun K x qual st f fd)
  (h:∀ (kV doc pm:Value) (an:Option Addr) (cdv ct:Value) (us:List Value),us.length=ps.length->bindArgs (fnOf x qual (AD st) (Ay st) (Af st) .none kV doc pm an cdv ct) ⟨us,[]⟩=pure (ps.zip us)):Binds K fd ps []:=by
 obtain⟨oc,od,kV,doc,pm,an,cdv,ct,osl,rfl,lk,hcd⟩:=F.ex
 exact .all (h kV doc pm an cdv ct)
theorem Bj {x qual:Str}{st:Stmt}{f:Addr}{oc:Value}{od an:Option Addr}{osl:Array (α5)}{kV doc pm cdv ct:Value}(l:K.lookup f=some ⟨oc,od,.func (fnOf x qual (AD st) (Ay st) (Af st) .none kV doc pm an cdv ct),osl⟩)
  (c:codeIn K cdv qual=true) (k:keepIn K (.ref f)=true):Fun K x qual st f (fnOf x qual (AD st) (Ay st) (Af st) .none kV doc pm an cdv ct):=⟨⟨oc,od,kV,doc,pm,an,cdv,ct,osl,rfl,l,c⟩,k⟩
end
theorem Op {A:Around}{k:Nat}(hr:Room k A):A.units+1<cLine:=Nat.lt_of_le_of_lt (Nat.add_le_add_left (by decide:1<=64) _) hr.units
section
variable {X:Cx}
theorem pv (i:Nat){x:Str}{pos:Pos}(hN:X.N[i]?=some x:=by rfl)(hv:Vis X.env.scope x:=by first | exact Or.inl rfl | exact Or.inr (Or.inl rfl) | exact Or.inr (Or.inr rfl))(hd:(x == ("__debug__" : Str))=false:=by decide)
  (hcd:(x == ("__classdict__" : Str))=false:=by decide):PE X (.Name x pos) (tVar i):=Zz hN hv hd hcd
end
theorem ite2 {c A B:Prop}[Decidable c](h1:c->A)(h2:¬ c->B):if c then A else B:=by
 by_cases h:c
 ·rw[if_pos h]
  exact h1 h
 ·rw[if_neg h]
  exact h2 h
def Same (H H':Hp):Prop:=∀ b o,H b=some o->H' b=some o
theorem Same.refl (H:Hp):Same H H:=fun _ _ h=>h
theorem Same.trans {H H1 H2:Hp}(a:Same H H1)(b:Same H1 H2):Same H H2:=fun c o h=>b c o (a c o h)
theorem Same.free {H H':Hp}(e:Same H H'){l:Addr}(h:H' l=Option.none):H l=Option.none:=by
 cases q:H l with
 | none=>rfl
 | some o =>
  rw[e l o q] at h
  cases h
theorem Same.seq {K:α3}{H H':Hp}{a:Addr}{xs:List V}(e:Same H H')(h:SqL K H a xs):SqL K H' a xs:=by
 rcases h with (h | ⟨o,h⟩) | h
 ·exact .inl (.inl (e _ _ h))
 ·exact .inl (.inr ⟨o,e _ _ h⟩)
 ·exact .inr h
end L2
set_option maxHeartbeats 4000000
namespace L2
open PySem PySem.Spec PyProof.Rows
section
variable {κ:Type} [DecidableEq κ]
def valV (kvs:List (κ×V))(k:κ):Option V:=(kvs.find? fun kv=>decide (kv.1=k)).map (·.2)
def putK (kvs:List (κ×V))(k:κ)(v:V):List (κ×V) :=
 if (kvs.any fun kv=>decide (kv.1=k))=true then kvs.map (fun kv=>if kv.1=k then (kv.1,v) else kv) else kvs ++ [(k,v)]
theorem JV {p:κ×V}{r:List (κ×V)}{k:κ}(e:p.1=k):valV (p::r) k=some p.2:=by simp[valV,xc_,e]
theorem JW {p:κ×V}{r:List (κ×V)}{k:κ}(e:¬ p.1=k):valV (p::r) k=valV r k:=by simp[valV,xc_,e]
theorem Fa (k:κ):∀ kvs:List (κ×V),(kvs.any fun kv=>decide (kv.1=k))=(valV kvs k).isSome
 | []=>rfl
 | p::r=>by
  rw[zE_]
  by_cases e:p.1=k
  ·simp only[JV e,qj_ e,Bool.true_or,zT_]
  ·rw[JW e,qe_ e,Bool.false_or];exact Fa k r
theorem Fb (kvs:List (κ×V))(k:κ)(v:V):(putK kvs k v).length<=kvs.length+1:=by
 unfold putK
 split
 ·rw[ja_];omega
 ·rw[jq_,jT_,qf_];omega
theorem VH {kvs:List (κ×V)}{k:κ}(v:V)(h:valV kvs k=none):putK kvs k v=kvs ++ [(k,v)]:=by
 unfold putK
 rw[Fa,h]
 exact if_neg (by decide)
theorem RelO.isSome_eq {o:Option V}{u:α5}(r:RelO o u):o.isSome=u.isSome:=by
 cases o with
 | none=>cases u with
  | none=>rfl
  | some _=>exact (show False from r).elim
 | some _=>cases u with
  | none=>exact (show False from r).elim
  | some _=>rfl
theorem RelO.getD {o:Option V}{u:α5}{d:V}{d':Value}(r:RelO o u)(rd:RelV d d'):RelV (o.getD d) (u.getD d'):=by
 cases o with
 | none=>cases u with
  | none=>exact rd
  | some _=>exact (show False from r).elim
 | some _=>cases u with
  | none=>exact (show False from r).elim
  | some _=>exact r
theorem KV.val {kvs:List (κ×V)}{vs:List (κ×Value)}(r:KV kvs vs)(k:κ):RelO (valV kvs k) (valueAt vs k):=by
 unfold KV at r
 induction r with
 | nil=>exact True.intro
 | @cons p q ps qs h t ih =>
  obtain⟨h1,h2⟩:=h
  by_cases e:p.1=k
  ·have e':q.1=k:=h1.symm.trans e
   have b:valueAt (q::qs) k=some q.2:=by simp[valueAt,xc_,e']
   rw[JV e,b];exact h2
  ·have e':¬ q.1=k:=fun z=>e (h1.trans z)
   have b:valueAt (q::qs) k=valueAt qs k:=by simp[valueAt,xc_,e']
   rw[JW e,b];exact ih
theorem KV.any {kvs:List (κ×V)}{vs:List (κ×Value)}(r:KV kvs vs)(k:κ):(kvs.any fun kv=>decide (kv.1=k))=vs.any fun kv=>decide (kv.1=k):=by
 unfold KV at r
 induction r with
 | nil=>rfl
 | cons h t ih=>rw[zE_,zE_,ih,h.1]
theorem KV.repl {kvs:List (κ×V)}{vs:List (κ×Value)}(r:KV kvs vs)(k:κ){y:V}{u:Value}(ry:RelV y u) :
  KV (kvs.map fun kv=>if kv.1=k then (kv.1,y) else kv) (vs.map fun kv=>if kv.1=k then (kv.1,u) else kv):=by
 unfold KV at r ⊢
 induction r with
 | nil=>exact .nil
 | @cons p q ps qs h t ih =>
  rw[jV_,jV_]
  refine .cons ?_ ih
  obtain⟨h1,h2⟩:=h
  by_cases e:p.1=k
  ·rw[if_pos e,if_pos (h1.symm.trans e)];exact⟨h1,ry⟩
  ·rw[if_neg e,if_neg (fun z=>e (h1.trans z))];exact⟨h1,h2⟩
theorem KV.put {kvs:List (κ×V)}{vs:List (κ×Value)}(r:KV kvs vs)(k:κ){y:V}{u:Value}(ry:RelV y u):KV (putK kvs k y) (stored vs k u):=by
 unfold putK stored
 rw[r.any k]
 by_cases e:(vs.any fun kv=>decide (kv.1=k))=true
 ·rw[if_pos e,if_pos e];exact r.repl k ry
 ·rw[if_neg e,if_neg e];exact Paired.snoc r ⟨rfl,ry⟩
theorem KV.keys {kvs:List (κ×V)}{vs:List (κ×Value)}(r:KV kvs vs):kvs.map (·.1)=vs.map (·.1):=by
 unfold KV at r
 induction r with
 | nil=>rfl
 | cons h t ih=>rw[jV_,jV_,ih,h.1]
theorem KV.length {kvs:List (κ×V)}{vs:List (κ×Value)}(r:KV kvs vs):kvs.length=vs.length:=Paired.length r
end
theorem PJ {P:Program}{w:World}{k:Key}{u:Value}(r:RelV (kV k) u):(BN P w).is k u=true:=by
 cases k with
 | inl i=>obtain⟨t,e⟩:=(show ∃ t,u=Value.int i t from r);subst e;exact Px P w i t
 | inr x=>obtain⟨t,e⟩:=(show ∃ t,u=Value.str x t from r);subst e;exact PD P w x t
theorem Oq {P:Program}{w:World}:∀ {ks:List Key} {us:List Value},Vals (ks.map kV) us->ItemsAre (BN P w) ks us
 | [],_,r=>by rw[xO_] at r;cases r;exact .nil
 | k::ks,_,r=>by
  rw[jV_] at r
  cases r with
  | cons h t=>exact .cons (PJ h) (Oq t)
abbrev KT (H:Hp):List (List Key×V)->List (List Key×Addr×Value)->Prop:=Paired fun p q=>p.1=q.1/\H q.2.1=some (.tup (p.1.map kV))/\RelV p.2 q.2.2
theorem KT.val {H:Hp}{kvs:List (List Key×V)}{xs:List (List Key×Addr×Value)}(r:KT H kvs xs)(k:List Key):RelO (valV kvs k) ((atKey xs k).map (·.2)):=by
 induction r with
 | nil=>exact True.intro
 | @cons p q ps qs h t ih =>
  obtain⟨h1,_,h2⟩:=h
  by_cases e:p.1=k
  ·have e':q.1=k:=h1.symm.trans e
   have b:atKey (q::qs) k=some q.2:=by simp[atKey,xc_,e']
   rw[JV e,b];exact h2
  ·have e':¬ q.1=k:=fun z=>e (h1.trans z)
   have b:atKey (q::qs) k=atKey qs k:=by simp[atKey,xc_,e']
   rw[JW e,b];exact ih
theorem KT.repl {H:Hp}{kvs:List (List Key×V)}{xs:List (List Key×Addr×Value)}(r:KT H kvs xs)(k:List Key){y:V}{u:Value}(ry:RelV y u) :
  KT H (kvs.map fun kv=>if kv.1=k then (kv.1,y) else kv) (xs.map (putAt k u)):=by
 induction r with
 | nil=>exact .nil
 | @cons p q ps qs h t ih =>
  rw[jV_,jV_]
  refine .cons ?_ ih
  obtain⟨h1,h2,h3⟩:=h
  unfold putAt
  by_cases e:p.1=k
  ·rw[if_pos e,if_pos (h1.symm.trans e)];exact⟨h1,h2,ry⟩
  ·rw[if_neg e,if_neg (fun z=>e (h1.trans z))];exact⟨h1,h2,h3⟩
theorem KT.put {H:Hp}{kvs:List (List Key×V)}{xs:List (List Key×Addr×Value)}(r:KT H kvs xs)(k:List Key){b:Addr}{y:V}{u:Value}(hb:H b=some (.tup (k.map kV)))(ry:RelV y u) :
  KT H (putK kvs k y) (storedH xs k b u):=by
 have e:(kvs.any fun kv=>decide (kv.1=k))=(atKey xs k).isSome:=by
  rw[Fa,(r.val k).isSome_eq,Option.isSome_map]
 unfold putK storedH
 rw[e]
 by_cases q:(atKey xs k).isSome=true
 ·rw[if_pos q,if_pos q];exact r.repl k ry
 ·rw[if_neg q,if_neg q];exact Paired.snoc r ⟨rfl,hb,ry⟩
theorem KT.keeps {H H':Hp}{kvs:List (List Key×V)}{xs:List (List Key×Addr×Value)}(r:KT H kvs xs)(ht:∀ b ys,H b=some (.tup ys)->H' b=some (.tup ys)):KT H' kvs xs :=
 Paired.mapP r fun _ _ z=>⟨z.1,ht _ _ z.2.1,z.2.2⟩
section
variable {P:Program} {w:World} {H:Hp} {h:Heap} {a:Addr}
theorem Yv {u:HO}(ok:HOk P w H h)(e:Rd H a u):CF P w H h a u:=e.ok ok
theorem PK {kvs:List (Key×V)}(ok:HOk P w H h)(e:Rd H a (.dK kvs)):kvs.length<=sizeLine/\(a == sysModules)=false/\∃ vs,KV kvs vs/\h.DictOf (BN P w) a vs :=
 show CF P w H h a (.dK kvs) from Yv ok e
theorem VI {kvs:List (Key×V)}(ok:HOk P w H h)(e:H a=some (.dK kvs)):kvs.length<=sizeLine/\(a == sysModules)=false/\∃ vs,KV kvs vs/\h.DictOf (BN P w) a vs:=PK ok (.inl e)
theorem Os {ks:List Key}(ok:HOk P w H h)(e:H a=some (.tup (ks.map kV))):(tupleKind (BN P w)).is h ks a:=by
 obtain⟨_,its,r,o,h1,h2,n,h3⟩:=(show CF P w H h a (.tup (ks.map kV)) from ok a _ e)
 exact⟨o,its.toArray,n,h1,h2,h3,by simpa using Oq r⟩
theorem R7 {kvs:List (List Key×V)}(ok:HOk P w H h)(e:Rd H a (.dT kvs)):kvs.length<=sizeLine/\(a == sysModules)=false /\
  ∃ xs,KT H kvs xs/\h.DictOfH (tupleKind (BN P w)) a xs:=by
 obtain⟨z,y,xs,r,o,es,ep,h1,h2,h3,h4,h5⟩:=(show CF P w H h a (.dT kvs) from Yv ok e)
 refine⟨z,y,xs,r,o,es,ep,h1,h2,h3,h4,fun x hx=>?_,h5⟩
 have all:∀ {l:List (List Key×V)} {m:List (List Key×Addr×Value)},KT H l m->∀ x∈m,(tupleKind (BN P w)).is h x.1 x.2.1:=by
  intro l m q
  induction q with
  | nil=>intro x hx;exact nomatch hx
  | @cons p q ps qs hq t ih =>
   intro x hx
   rcases jC_.mp hx with e | hx
   ·subst e
    exact Os ok (by rw[<- hq.1];exact hq.2.1)
   ·exact ih x hx
 exact all r x hx
theorem Z1 {kvs:List (List Key×V)}(ok:HOk P w H h)(e:H a=some (.dT kvs)):kvs.length<=sizeLine/\(a == sysModules)=false /\
  ∃ xs,KT H kvs xs/\h.DictOfH (tupleKind (BN P w)) a xs:=R7 ok (.inl e)
end
def DGet (H:Hp)(a:Addr)(y:V)(r:Option V):Prop :=
 (∃ kvs k,Rd H a (.dK kvs)/\y=kV k/\r=valV kvs k) \/ ∃ kvs k b,Rd H a (.dT kvs)/\y=.ref b/\H b=some (.tup (k.map kV))/\r=valV kvs k
def DPut (H:Hp)(a:Addr)(y v:V)(H':Hp):Prop :=
 (∃ kvs k,H a=some (.dK kvs)/\y=kV k/\kvs.length<sizeLine/\H'=upd H a (.dK (putK kvs k v))) \/
 ∃ kvs k b,H a=some (.dT kvs)/\y=.ref b/\H b=some (.tup (k.map kV))/\kvs.length<sizeLine/\H'=upd H a (.dT (putK kvs k v))
theorem DGet.k {H:Hp}{a:Addr}{kvs:List (Key×V)}{k:Key}(e:H a=some (.dK kvs)):DGet H a (kV k) (valV kvs k):=.inl ⟨kvs,k,.inl e,rfl,rfl⟩
theorem DGet.t {H:Hp}{a b:Addr}{kvs:List (List Key×V)}{k:List Key}(e:H a=some (.dT kvs))(eb:H b=some (.tup (k.map kV))):DGet H a (.ref b) (valV kvs k):=.inr ⟨kvs,k,b,.inl e,rfl,eb,rfl⟩
theorem DPut.k {H:Hp}{a:Addr}{kvs:List (Key×V)}{k:Key}{v:V}(e:H a=some (.dK kvs))(hl:kvs.length<sizeLine):DPut H a (kV k) v (upd H a (.dK (putK kvs k v))):=.inl ⟨kvs,k,e,rfl,hl,rfl⟩
theorem DPut.t {H:Hp}{a b:Addr}{kvs:List (List Key×V)}{k:List Key}{v:V}(e:H a=some (.dT kvs))(eb:H b=some (.tup (k.map kV)))(hl:kvs.length<sizeLine) :
  DPut H a (.ref b) v (upd H a (.dT (putK kvs k v))):=.inr ⟨kvs,k,b,e,rfl,eb,hl,rfl⟩
section
variable {X:Cx} {pins:α7} {σ:St} {H:Hp} {s:Shared} {a:Addr} {y v:V} {u r:Value} {o:Option V} {A:Around} {E:Value->Shared->Prop}
theorem Inv.big (I:Inv X pins σ H s):sysModules<s.heap.objs.size:=by
 have h:mainGlobals<s.heap.objs.size:=(I.mod.glob.keeps I.bk).lt
 exact xI_ (by decide) h
theorem TZ {Q:Value->Shared->Prop}(hu:A.units+1<cLine)(I:Inv X pins σ H s)(g:DGet H a y (some v))(ry:RelV y u)(h:∀ w' s',Inv X pins σ H s'->RelV v w'->Q w' s') :
  wpAny (model X.prog X.w) A (getItem (.ref a) u) Q E s:=by
 rcases g with ⟨kvs,k,e,ey,l⟩ | ⟨kvs,k,b,e,ey,eb,l⟩
 ·subst ey
  obtain⟨z,hd,vs,rel,dd⟩:=PK I.hok e
  obtain⟨w',hw,rw'⟩:=RelO.some_of (v:=v) (o:=valueAt vs k) (by rw[l];exact rel.val k)
  exact wpAny_getItem_of (PJ ry) dd.mapOf hw (h w' _ (I.tok _) rw')
 ·subst ey
  cases (show u=Value.ref b from ry)
  obtain⟨z,hd,xs,rel,dd⟩:=R7 I.hok e
  obtain⟨w',hw,rw'⟩:=RelO.some_of (v:=v) (o:=(atKey xs k).map (·.2)) (by rw[l];exact rel.val k)
  obtain⟨p,hp,hp2⟩:=Option.map_eq_some_iff.mp hw
  refine wpAny_getItem_heap (zb_ hu) (Os I.hok eb) dd hp ?_
  rw[hp2]
  exact h w' _ (I.tok _) rw'
theorem Yw {Q:Value->Shared->Prop}(hu:A.units+1<cLine)(I:Inv X pins σ H s)(g:DGet H a y o)(ry:RelV y u)(h:∀ s',Inv X pins σ H s'->Q (.bool (!o.isSome)) s') :
  wpAny (model X.prog X.w) A (compareOp .NotIn u (.ref a)) Q E s:=by
 rcases g with ⟨kvs,k,e,ey,l⟩ | ⟨kvs,k,b,e,ey,eb,l⟩
 ·subst ey
  obtain⟨z,hd,vs,rel,dd⟩:=PK I.hok e
  refine wpAny_notIn_of (PJ ry) hd dd.mapOf ?_
  rw[<- (rel.val k).isSome_eq,<- l]
  exact h _ (I.tok _)
 ·subst ey
  cases (show u=Value.ref b from ry)
  obtain⟨z,hd,xs,rel,dd⟩:=R7 I.hok e
  refine wpAny_notIn_heap (zb_ hu) (Os I.hok eb) hd dd ?_
  have q:=(rel.val k).isSome_eq
  rw[Option.isSome_map] at q
  rw[<- q,<- l]
  exact h _ (I.tok _)
theorem MB {h':Heap}{t':Nat}{ob:HO}(I:Inv X pins σ H s)(mu:Mut (H a))(hs:Heap.SameBut a s.heap h')(he:∃ q,h'.get? a=some q)(new:CF X.prog X.w (upd H a ob) h' a ob) :
  Inv X pins σ (upd H a ob) {s with heap:=h',toks:=t' } :=
 I.write (x:=a) (e:=a) mu (.inl rfl) (fun b q hb z=>(hs.2 b hb).trans z) he new
theorem T0 {P:Program}{w:World}{H':Hp}{h':Heap}{kvs:List (Key×V)}{vs:List (Key×Value)}(z:kvs.length<=sizeLine)(hd:(a == sysModules)=false)(rel:KV kvs vs)(dd:h'.DictOf (BN P w) a vs) :
  CF P w H' h' a (.dK kvs):=⟨z,hd,vs,rel,dd⟩
theorem T1 {H':Hp}{Q:Unit->Shared->Prop}(hu:A.units+1<cLine)(I:Inv X pins σ H s)(g:DPut H a y v H')(ry:RelV y u)(rv:RelV v r)(h:∀ s',Inv X pins σ H' s'->Q () s') :
  wpAny (model X.prog X.w) A (setItem (.ref a) u r) Q E s:=by
 rcases g with ⟨kvs,k,e,ey,l,eH⟩ | ⟨kvs,k,b,e,ey,eb,l,eH⟩
 ·subst ey eH
  obtain⟨z,hd,vs,rel,dd⟩:=VI I.hok e
  have hz:vs.length<=sizeLine:=by rw[<- rel.length];exact z
  have hl:(putK kvs k v).length<=sizeLine:=by have:=Fb kvs k v;omega
  refine wpAny_setItem_pairs (hsz:=hz) (PJ ry) dd fun h' dd' hs=>h _ ?_
  have he:∃ q,h'.get? a=some q:=let ⟨q,_,_,hq,_⟩:=dd';⟨q,hq⟩
  exact MB I (by rw[e];exact True.intro) hs he (T0 hl hd (rel.put k rv) dd')
 ·subst ey eH
  cases (show u=Value.ref b from ry)
  obtain⟨z,hd,xs,rel,dd⟩:=Z1 I.hok e
  have hz:xs.length<=sizeLine:=by rw[<- Paired.length rel];exact z
  have hl:(putK kvs k v).length<=sizeLine:=by have:=Fb kvs k v;omega
  refine wpAny_setItem_heap (hsz:=hz) (zb_ hu) (Os I.hok eb) dd fun h' dd' hs=>h _ ?_
  obtain⟨q,es,ep,hq,h2,h3,h4,_,h5⟩:=dd'
  refine MB I (by rw[e];exact True.intro) hs ⟨q,hq⟩ ⟨hl,hd,_,(rel.put k eb rv).keeps fun c ys ec=>?_,q,es,ep,hq,h2,h3,h4,h5⟩
  rw[Ah (Zy ec e (fun z=>nomatch z))]
  exact ec
end
section
variable {X:Cx} {pins:α7} {σ:St} {H:Hp} {s:Shared} {a:Addr} {kvs:List (Key×V)} {k:Key} {u:Value} {A:Around} {E:Value->Shared->Prop}
theorem Bl_ {Q:Value->Shared->Prop}(I:Inv X pins σ H s)(e:Rd H a (.dK kvs))(h:∀ t s',Inv X pins σ H s'->Q (.int kvs.length t) s'):wpAny (model X.prog X.w) A (call (.builtin "len") [.ref a]) Q E s:=by
 obtain⟨z,hd,vs,rel,dd⟩:=PK I.hok e
 refine call_len_dict hd dd (by rw[<- rel.length];rw[sizeLine_eq] at z;omega) ?_
 rw[<- rel.length]
 exact h _ _ (I.tok _)
end
def NoSl (i:Expr):Prop:=∀ ov iv,subscripted i false ov iv=operate [ov,iv] (getItem ov iv)
theorem Yx {prog:Program}{w:World}{A:Around}{E:Value->Shared->Prop}{s:Shared}{env:Env}{value slice:Expr}{pos:Pos}{T id:String}{Q:Value->Shared->Prop}
  (hl:typeLookup (.type T) "__getitem__" = pure (some (.builtin id))) (hs:NoSl slice)
  (h:wpAny (model prog w) A (eval value env) (fun o s₁=>wpAny (model prog w) A (eval slice env) (fun i s₂=>s₂.TypeIs o T/\wpAny (model prog w) A (getItem o i) Q E s₂) E s₁) E s) :
  wpAny (model prog w) A (eval (.Subscript value slice pos) env) Q E s:=by
 refine Subscript_ (qE_ h (fun o s₁ h₁=>qE_ h₁ (fun i s₂ h₂=>?_) fun _ _ x=>x) fun _ _ x=>x)
 obtain⟨hT,h₂⟩:=h₂
 unfold subscriptTail
 refine jb_ ?_
 rw[getitemInPython_of_ne hT.not_modules]
 refine jb_ (wpAny_specialOf hT hl ?_)
 have fin:wpAny (model prog w) A (subscripted slice false o i) (fun r s₃=>wpAny (model prog w) A (letTemporaryGo value o r >>= fun _=>pure r) Q E s₃) E s₂:=by
  rw[hs o i]
  exact wpAny_operating (qE_ h₂ (fun r s₃ h₃=>jb_ (wpAny_letTemporaryGo (jm_ h₃))) fun _ _ x=>x)
 first
  | exact jm_ (jb_ fin)
  | exact jb_ (jm_ (jb_ fin))
  | exact jb_ fin
theorem PL {X:Cx}{pins:α7}{σ:St}{H:Hp}{s:Shared}{a:Addr}{y:V}{o:Option V}(I:Inv X pins σ H s)(g:DGet H a y o):s.TypeIs (.ref a) "dict" := by
 rcases g with ⟨kvs,k,e,_,_⟩ | ⟨kvs,k,b,e,_,_,_⟩
 ·obtain⟨_,_,vs,_,dd⟩:=PK I.hok e
  exact dd.typeIs
 ·obtain⟨_,_,xs,_,dd⟩:=R7 I.hok e
  exact dd.typeIs
def Z2 (td ty:TE):TE:=fun σ H Q=>td σ H fun x H1=>ty σ H1 fun y H2=>∃ a v,x=.ref a/\DGet H2 a y (some v)/\Q v H2
def T2 (ty td:TE):TE:=fun σ H Q=>ty σ H fun y H1=>td σ H1 fun x H2=>∃ a o,x=.ref a/\DGet H2 a y o/\Q (.bl (!o.isSome)) H2
def Z3 (td ty tv:TE):TS:=fun D σ H=>tv σ H fun v H1=>td σ H1 fun x H2=>ty σ H2 fun y H3=>∃ a H4,x=.ref a/\DPut H3 a y v H4/\D.nx σ H4
section
variable {X:Cx} {o i e value:Expr} {pos pos' tpos:Pos} {td ty tv:TE}
theorem T3 (hu:X.A.units+1<cLine)(ho:PE X o td)(hi:PE X i ty)(hs:NoSl i):PE X (.Subscript o i pos) (Z2 td ty):=by
 intro pins s σ H Q I h
 refine Yx PySem.F.slot_dict_getitem.lookup hs (thn (ho pins s σ H _ I h) fun u s1 ⟨x,H1,I1,rx,q1⟩=>thn (hi pins s1 σ H1 _ I1 q1) fun iv s2 ⟨y,H2,I2,ry,a,v,ex,g,q2⟩=>?_)
 subst ex
 obtain rfl:u=Value.ref a:=rx
 exact⟨PL I2 g,TZ hu I2 g ry fun w' s3 I3 rw'=>⟨v,H2,I3,rw',q2⟩⟩
theorem Ot (hu:X.A.units+1<cLine)(hi:PE X i ty)(ho:PE X o td):PC X .NotIn i o (T2 ty td):=by
 intro pins s σ H Q I h
 refine thn (hi pins s σ H _ I h) fun iv s1 ⟨y,H1,I1,ry,q1⟩=>thn (ho pins s1 σ H1 _ I1 q1) fun u s2 ⟨x,H2,I2,rx,a,ov,ex,g,q2⟩=>?_
 subst ex
 obtain rfl:u=Value.ref a:=rx
 exact Yw hu I2 g ry fun s3 I3=>⟨.bl (!ov.isSome),H2,I3,rfl,q2⟩
theorem PM (hu:X.A.units+1<cLine)(ho:PE X o td)(hi:PE X i ty)(hv:PE X value tv)(hs:swapsWith value (some (.Subscript o i pos')) pos.line X.env=pure false) :
  PS X (.Assign [.Subscript o i pos'] value pos) (Z3 td ty tv):=by
 intro pins s σ H D I h
 refine wpAny_Assign_Subscript (thn (hv pins s σ H _ I h) fun r s1 ⟨v,H1,I1,rv,q1⟩=>thn (ho pins s1 σ H1 _ I1 q1) fun u s2 ⟨x,H2,I2,rx,q2⟩=>thn (hi pins s2 σ H2 _ I2 q2) fun iv s3 ⟨y,H3,I3,ry,a,H4,ex,g,q3⟩=>?_) hs
 subst ex
 obtain rfl:u=Value.ref a:=rx
 exact T1 hu I3 g ry rv fun s4 I4=>⟨σ,H4,I4,q3⟩
end
theorem Rc {P:Program}{w:World}{H:Hp}(h:Heap)(hb:sysModules<h.objs.size):CF P w H (h.push {cls:=.type "dict",data:=.dict #[]}) h.objs.size (.dK []) :=
 ⟨j0_ _,zH_.mpr (j6_ (jM_ hb)),[],.nil,Heap.DictOf.new h⟩
theorem VJ {P:Program}{w:World}{H:Hp}(h:Heap)(hb:sysModules<h.objs.size):CF P w H (h.push {cls:=.type "dict",data:=.dict #[]}) h.objs.size (.dT []) :=
 ⟨j0_ _,zH_.mpr (j6_ (jM_ hb)),[],.nil,_,#[],0,jy_ _ rfl,⟨rfl,rfl,rfl⟩,rfl,rfl,List.nodup_nil⟩
def T4:TE:=fun _ H Q=>∀ p,H p=none->Q (.ref p) (upd H p (.dK []))
def T5:TE:=fun _ H Q=>∀ p,H p=none->Q (.ref p) (upd H p (.dT []))
section
variable {X:Cx} {pos:Pos}
theorem Re:PE X (.Dict [] [] pos) T4:=fun pins s σ H Q I h =>
 wpAny_Dict_empty ⟨.ref s.heap.objs.size,_,I.laid (a:=s.heap.objs.size) (o:=.dK []) (t':=s.toks) (fun _ _ q=>jf_ _ q) (jl_ _) (Rc s.heap I.big),rfl,h _ (I.hok.fresh (jl_ _))⟩
theorem Rf:PE X (.Dict [] [] pos) T5:=fun pins s σ H Q I h =>
 wpAny_Dict_empty ⟨.ref s.heap.objs.size,_,I.laid (a:=s.heap.objs.size) (o:=.dT []) (t':=s.toks) (fun _ _ q=>jf_ _ q) (jl_ _) (VJ s.heap I.big),rfl,h _ (I.hok.fresh (jl_ _))⟩
end
def J9:List (TE×TE)->St->Hp->(List (V×V)->Hp->Prop)->Prop
 | [],_,H,Q=>Q [] H
 | (tk,tv)::r,σ,H,Q=>tk σ H fun x H1=>tv σ H1 fun y H2=>J9 r σ H2 fun ps H3=>Q ((x,y)::ps) H3
abbrev VV:List (V×V)->List (Value×Value)->Prop:=Paired fun p q=>RelV p.1 q.1/\RelV p.2 q.2
def PPs (X:Cx)(pos:Pos)(keys:List (Option Expr))(values:List Expr)(trs:List (TE×TE)):Prop :=
 ∀ (pins:α7) (s:Shared) (σ:St) (H:Hp) (Q:List (V×V)->Hp->Prop),Inv X pins σ H s->J9 trs σ H Q ->
  wpAny (model X.prog X.w) X.A (evalPairs (pairTrees keys values X.env pos)) (fun vs s'=>∃ ps H',Inv X pins σ H' s'/\VV ps vs/\Q ps H') X.xe s
theorem Yy {X:Cx}{pos:Pos}:PPs X pos [] [] []:=fun pins s σ H Q I h=>pairTrees_nil_walk ⟨[],H,I,.nil,h⟩
theorem VL {X:Cx}{pos:Pos}{k v:Expr}{ks:List (Option Expr)}{vs:List Expr}{tk tv:TE}{trs:List (TE×TE)}(hk:PE X k tk)(hv:PE X v tv)(hr:PPs X pos ks vs trs) :
  PPs X pos (some k::ks) (v::vs) ((tk,tv)::trs):=fun pins s σ H Q I h =>
 pairTrees_cons_walk (thn (hk pins s σ H _ I h) fun u s1 ⟨x,H1,I1,rx,q1⟩=>thn (hv pins s1 σ H1 _ I1 q1) fun w2 s2 ⟨y,H2,I2,ry,q2⟩ =>
  thn (hr pins s2 σ H2 _ I2 q2) fun ws s3 ⟨ps,H3,I3,rel,q3⟩=>⟨(x,y)::ps,H3,I3,.cons ⟨rx,ry⟩ rel,q3⟩)
def IY (kvs more:List (Key×V)):List (Key×V):=more.foldl (fun acc kv=>putK acc kv.1 kv.2) kvs
theorem KV.merge:∀ {more:List (Key×V)} {rs:List (Key×Value)} {kvs:List (Key×V)} {vs:List (Key×Value)},KV more rs->KV kvs vs->KV (IY kvs more) (merged vs rs):=by
 intro more rs kvs vs r
 unfold KV at r
 induction r generalizing kvs vs with
 | nil=>intro q;exact q
 | @cons p q ps qs h t ih =>
  intro r0
  have e:KV (putK kvs p.1 p.2) (stored vs q.1 q.2):=by
   have:=r0.put p.1 h.2
   rw[<- h.1];exact this
  exact ih e
theorem Hz:∀ (more kvs:List (Key×V)),(IY kvs more).length<=kvs.length+more.length
 | [],kvs=>by show kvs.length<=kvs.length+0;omega
 | p::r,kvs=>by
  have h1:=Hz r (putK kvs p.1 p.2)
  have h2:=Fb kvs p.1 p.2
  show (IY (putK kvs p.1 p.2) r).length<=_
  rw[jT_];omega
theorem L6 {P:Program}{w:World}:∀ {kvs:List (Key×V)} {ws:List (Value×Value)},VV (kvs.map fun kv=>(kV kv.1,kv.2)) ws->∃ rs,Carries (BN P w) ws rs/\KV kvs rs
 | [],_,r=>by rw[xO_] at r;cases r;exact⟨[],True.intro,.nil⟩
 | p::kvs,_,r=>by
  rw[jV_] at r
  cases r with
  | @cons a b as bs h t =>
   obtain⟨rs,c,q⟩:=L6 (P:=P) (w:=w) t
   obtain⟨b1,b2⟩:=b
   exact⟨(p.1,b2)::rs,⟨PJ h.1,rfl,c⟩,.cons ⟨rfl,h.2⟩ q⟩
def Yz (trs:List (TE×TE)):TE:=fun σ H Q=>∀ p,H p=none->J9 trs σ (upd H p (.dK [])) fun ps H2=>H2 p=some (.dK [])/\∃ kvs:List (Key×V),ps=kvs.map (fun kv=>(kV kv.1,kv.2))/\kvs.length<=15/\Q (.ref p) (upd H2 p (.dK (IY [] kvs)))
theorem YA {X:Cx}{pos:Pos}{keys:List (Option Expr)}{values:List Expr}{trs:List (TE×TE)}(h:PPs X pos keys values trs)(hall:keys.all (·.isSome)=true)(hl:keys.length=values.length)(h0:keys ≠ [])
  (h15:keys.length<=15):PE X (.Dict keys values pos) (Yz trs):=by
 intro pins s σ H Q I q
 have hn:=I.hok.fresh (jl_ s.heap.objs.size)
 have I1:=I.laid (a:=s.heap.objs.size) (o:=.dK []) (h':=s.heap.push {cls:=.type "dict",data:=.dict #[]}) (t':=s.toks) (fun _ _ q=>jf_ _ q) (jl_ _) (Rc s.heap I.big)
 refine wpAny_Dict_walk (knd:=BN X.prog X.w) hall hl h0 h15 (thn (h pins _ σ _ _ I1 (q _ hn)) fun ws s2 ⟨ps,H2,I2,rel,e,kvs,ep,lk,q2⟩=>?_)
 subst ep
 obtain⟨rs,c,rk⟩:=L6 (P:=X.prog) (w:=X.w) rel
 obtain⟨z,hd,vs0,r0,dd⟩:=VI I2.hok e
 cases r0
 refine⟨rs,c,dd,fun h' dd' hs=>⟨.ref s.heap.objs.size,_,?_,rfl,q2⟩⟩
 have hz:(IY [] kvs).length<=sizeLine:=by
  have h1:=Hz kvs []
  rw[qf_] at h1
  rw[sizeLine_eq];omega
 have he:∃ q,h'.get? s.heap.objs.size=some q:=let ⟨q,_,_,hq,_⟩:=dd';⟨q,hq⟩
 exact MB I2 (by rw[e];exact True.intro) hs he (T0 hz hd (rk.merge .nil) dd')
structure M1 (X:Cx)(o:Expr)(m:Str)(apos:Pos)(e:Expr)(cpos:Pos):Prop where
 base:attributeBase o m X.env (eval o X.env)=eval o X.env
 few:((backTo cpos (starEach [e] X.env)).all (fun x => !x.1)&&(backToKw cpos (keywordEach [] X.env)).all (fun x=>x.1.isSome)
  && decide (([e]:List Expr).length+([]:List Keyword).length+(if ([]:List Keyword).isEmpty then 0 else 1)<30))=true
 line:(apos.endLine == cpos.line)=true
 trees:backTo cpos (starEach [e] X.env)=[(false,eval e X.env)]
structure M2 (X:Cx)(o:Expr)(m:Str)(apos:Pos)(e f:Expr)(cpos:Pos):Prop where
 base:attributeBase o m X.env (eval o X.env)=eval o X.env
 few:((backTo cpos (starEach [e,f] X.env)).all (fun x => !x.1)&&(backToKw cpos (keywordEach [] X.env)).all (fun x=>x.1.isSome)
  && decide (([e,f]:List Expr).length+([]:List Keyword).length+(if ([]:List Keyword).isEmpty then 0 else 1)<30))=true
 line:(apos.endLine == cpos.line)=true
 trees:backTo cpos (starEach [e,f] X.env)=[(false,eval e X.env),(false,eval f X.env)]
def IsD (H:Hp)(a:Addr):Prop:=(∃ kvs,Rd H a (.dK kvs)) \/ ∃ kvs,Rd H a (.dT kvs)
theorem Xg {X:Cx}{pins:α7}{σ:St}{H:Hp}{s:Shared}{a:Addr}(I:Inv X pins σ H s)(d:IsD H a) :
  s.TypeIs (.ref a) "dict" /\ (∀ b,Value.ref a=.ref b->∃ ob,s.heap.get? b=some ob/\ob.dict=none)/\(a == sysModules)=false:=by
 rcases d with ⟨kvs,e⟩ | ⟨kvs,e⟩
 ·obtain⟨_,hd,vs,_,dd⟩:=PK I.hok e
  refine⟨dd.typeIs,fun b q=>?_,hd⟩
  cases q
  obtain⟨ob,_,_,h1,h2,_⟩:=dd
  exact⟨ob,h1,h2.2.1⟩
 ·obtain⟨_,hd,xs,_,dd⟩:=R7 I.hok e
  refine⟨dd.typeIs,fun b q=>?_,hd⟩
  cases q
  obtain⟨ob,_,_,h1,h2,_⟩:=dd
  exact⟨ob,h1,h2.2.1⟩
section
variable {X:Cx} {pins:α7} {σ:St} {H:Hp} {s:Shared} {a:Addr} {y d:V} {u r:Value} {o:Option V} {A:Around} {E:Value->Shared->Prop}
theorem Z4 {Q:Value->Shared->Prop}(hu:A.units+1<cLine)(I:Inv X pins σ H s)(g:DGet H a y o)(ry:RelV y u)(h:∀ w' s',Inv X pins σ H s'->RelV (o.getD .non) w'->Q w' s') :
  wpAny (model X.prog X.w) A (call (.builtin "dict.get") [.ref a,u]) Q E s:=by
 rcases g with ⟨kvs,k,e,ey,l⟩ | ⟨kvs,k,b,e,ey,eb,l⟩
 ·subst ey
  obtain⟨z,hd,vs,rel,dd⟩:=PK I.hok e
  refine call_meetsIn zw_ dd.typeIs PySem.F.entry_dict_get (PySem.F.args_dict_get_2 _ _) (meets_dict_get (BN X.prog X.w) a (PJ ry) hd) ⟨_,dd.mapOf,h _ _ (I.tok _) ?_⟩
  rw[l]
  exact (rel.val k).getD rfl
 ·subst ey
  cases (show u=Value.ref b from ry)
  obtain⟨z,hd,xs,rel,dd⟩:=R7 I.hok e
  refine call_meetsIn zw_ dd.typeIs PySem.F.entry_dict_get (PySem.F.args_dict_get_2 _ _) (meetsH_dict_get (tupleKind (BN X.prog X.w)) a b hd) ⟨zb_ hu,k,xs,Os I.hok eb,dd,h _ _ (I.tok _) ?_⟩
  rw[l]
  exact (rel.val k).getD rfl
end
def T6 (td ty:TE):TE:=fun σ H Q=>td σ H fun x H1=>∃ a,x=.ref a/\IsD H1 a/\ty σ H1 fun y H2=>∃ o,DGet H2 a y o/\Q (o.getD .non) H2
section
variable {X:Cx} {o e f:Expr} {apos cpos:Pos} {td ty tx:TE}
theorem VM (hu:X.A.units+1<cLine)(ho:PE X o td)(he:PE X e ty)(m:M1 X o "get" apos e cpos):PE X (.Call (.Attribute o "get" apos) [e] [] cpos) (T6 td ty):=by
 intro pins s σ H Q I h
 refine wpAny_Call_method m.base m.few m.line PySem.F.plainAttrs_dict zw_ PySem.F.type_dict_get (thn (ho pins s σ H _ I h) fun u s1 ⟨x,H1,I1,rx,a,ex,d,q1⟩=>?_)
 subst ex
 obtain rfl:u=Value.ref a:=rx
 obtain⟨t1,t2,_⟩:=Xg I1 d
 refine⟨t1,t2,?_⟩
 rw[m.trees]
 refine xM_ rfl (xZ_ (xl_ (thn (he pins s1 σ H1 _ I1 q1) fun iv s2 ⟨y,H2,I2,ry,ov,g,q2⟩=>xT_ ?_)))
 exact Z4 hu I2 g ry fun w' s3 I3 rw'=>⟨_,H2,I3,rw',q2⟩
end
end L2
namespace L2
open PySem PySem.Spec PyProof.Rows
def clOf (env:Env):List (Str×NameKind)->List (Str×Addr)->List (Str×Addr)
 | [],acc=>acc
 | (n,k)::r,acc=>if (k == .free)=true then clOf env r ((n,(env.cells.lookup n).getD 0)::acc) else clOf env r acc
theorem L7 {env:Env}{scope:Scope}(h:∀ p∈scope.names,p.2=.free->∃ c,env.cells.lookup p.1=some c):closureFor scope env=pure (clOf env scope.names []):=by
 have go:∀ (l:List (Str×NameKind)) (acc:List (Str×Addr)),(∀ p∈l,p.2=.free->∃ c,env.cells.lookup p.1=some c) ->
   (forIn l acc fun (x:Str×NameKind) (cs:List (Str×Addr))=>(if (x.2 == .free)=true then do let c <- cellOf env x.1;pure (ForInStep.yield ((x.1,c)::cs)) else pure (ForInStep.yield cs):Sem (ForInStep (List (Str×Addr)))))=(pure (clOf env l acc):Sem (List (Str×Addr))):=by
  intro l
  induction l with
  | nil=>intro acc _;rfl
  | cons p r ih =>
   intro acc hl
   obtain⟨n,k⟩:=p
   rw[zc_]
   by_cases hk:(k == .free)=true
   ·obtain⟨c,hc⟩:=hl (n,k) jo_ (by simpa using hk)
    have e1:cellOf env n=pure c:=by unfold cellOf;rw[hc]
    have ih':=ih ((n,c)::acc) fun q hq=>hl q (jr_ _ hq)
    show ((if (k == .free)=true then do let c <- cellOf env n;pure (ForInStep.yield ((n,c)::acc)) else pure (ForInStep.yield acc):Sem _) >>= _)=_
    rw[if_pos hk,e1]
    show (forIn r ((n,c)::acc) _:Sem _)=_
    rw[clOf,if_pos hk,hc]
    exact ih'
   ·have ih':=ih acc fun q hq=>hl q (jr_ _ hq)
    show ((if (k == .free)=true then do let c <- cellOf env n;pure (ForInStep.yield ((n,c)::acc)) else pure (ForInStep.yield acc):Sem _) >>= _)=_
    rw[if_neg hk]
    show (forIn r acc _:Sem _)=_
    rw[clOf,if_neg hk]
    exact ih'
 have e:=go scope.names [] h
 unfold closureFor
 show (forIn scope.names [] _ >>= fun cs=>pure cs:Sem _)=_
 have e2:(forIn scope.names [] (fun (x:Str×NameKind) (r:List (Str×Addr))=>(match x with
   | (name,kind)=>if (kind == .free)=true then do let c <- cellOf env name;pure (ForInStep.yield ((name,c)::r)) else do pure PUnit.unit;pure (ForInStep.yield r):Sem (ForInStep (List (Str×Addr))))))=(pure (clOf env scope.names []):Sem (List (Str×Addr))):=e
 exact jJ_ (fun z=>z >>= fun cs=>pure cs) e2
theorem MC {env:Env}:∀ (l:List (Str×NameKind)) (acc:List (Str×Addr)),(∀ p∈l,p.2=.free->∃ c,env.cells.lookup p.1=some c)->(∀ q∈acc,env.cells.lookup q.1=some q.2)->∀ q∈clOf env l acc,env.cells.lookup q.1=some q.2
 | [],_,_,ha,q,hq=>ha q hq
 | (n,k)::r,acc,hl,ha,q,hq=>by
  unfold clOf at hq
  by_cases hk:(k == .free)=true
  ·rw[if_pos hk] at hq
   obtain⟨c,hc⟩:=hl (n,k) jo_ (by simpa using hk)
   refine MC r _ (fun p hp=>hl p (jr_ _ hp)) (fun p hp=>?_) q hq
   rcases jC_.mp hp with rfl | hp
   ·show env.cells.lookup n=some ((env.cells.lookup n).getD 0)
    rw[hc];rfl
   ·exact ha p hp
  ·rw[if_neg hk] at hq
   exact MC r _ (fun p hp=>hl p (jr_ _ hp)) ha q hq
theorem JX {env:Env}:∀ (l:List (Str×NameKind)) (acc:List (Str×Addr)) (x:Str),((x,NameKind.free)∈l \/ ∃ c,(x,c)∈acc)->∃ c,(x,c)∈clOf env l acc
 | [],_,_,h=>by
  rcases h with h | h
  ·cases h
  ·exact h
 | (n,k)::r,acc,x,h=>by
  unfold clOf
  by_cases hk:(k == .free)=true
  ·rw[if_pos hk]
   refine JX r _ x ?_
   rcases h with h | ⟨c,h⟩
   ·rcases jC_.mp h with h | h
    ·cases h
     exact .inr ⟨_,jo_⟩
    ·exact .inl h
   ·exact .inr ⟨c,jr_ _ h⟩
  ·rw[if_neg hk]
   refine JX r _ x ?_
   rcases h with h | h
   ·rcases jC_.mp h with h | h
    ·cases h
     exact absurd rfl hk
    ·exact .inl h
   ·exact .inr h
theorem Dd {β:Type}:∀ {l:List (Str×β)} {x:Str} {c:β},(x,c)∈l->∃ c',l.lookup x=some c'
 | [],_,_,h=>by cases h
 | (n,d)::r,x,c,h=>by
  by_cases hx:(x == n)=true
  ·exact⟨d,by rw[qW_,hx]⟩
  ·rcases jC_.mp h with h | h
   ·cases h;exact absurd (beq_self_eq_true _) hx
   ·obtain⟨c',e⟩:=Dd h
    exact⟨c',by rw[qW_];simp only[Bool.not_eq_true] at hx;rw[hx];exact e⟩
def relF (env:Env):Str×NameKind->Str×NameKind:=fun (n,k)=>if (k == NameKind.free&&env.scope.kind == .function&&env.kindOf n == some .cell) then (n,NameKind.cell) else (n,k)
theorem MD {env:Env}{n:Str}{k:NameKind}(h:(k == NameKind.free&&env.scope.kind == .function&&env.kindOf n == some .cell)=true):relF env (n,k)=(n,.cell):=if_pos h
theorem PN {env:Env}{n:Str}{k:NameKind}(h:¬ (k == NameKind.free&&env.scope.kind == .function&&env.kindOf n == some .cell)=true):relF env (n,k)=(n,k):=if_neg h
theorem F2 {env:Env}:∀ {names:List (Str×NameKind)} {x:Str} {k:NameKind},(∀ y∈names,y.2 ≠ .cell) ->
  (names.map (relF env)).lookup x=some k->(k=.cell\/k=.free)->(x,NameKind.free)∈names
 | [],_,_,_,h,_=>by simp at h
 | (n,k')::r,x,k,hc,h,hk=>by
  have ih := @F2 env r x k (fun y hy=>hc y (jr_ _ hy))
  rw[jV_] at h
  by_cases hb:(k' == NameKind.free&&env.scope.kind == .function&&env.kindOf n == some .cell)=true
  ·rw[MD hb,qW_] at h
   cases hx:x == n with
   | true =>
    have e:x=n:=by simpa using hx
    subst e
    have e2:k'=.free:=by
     simp only[qy_] at hb
     simpa using hb.1.1
    subst e2
    exact jo_
   | false =>
    rw[hx] at h
    exact jr_ _ (ih h hk)
  ·rw[PN hb,qW_] at h
   cases hx:x == n with
   | true =>
    rw[hx] at h
    have e:x=n:=by simpa using hx
    subst e
    have e2:k'=k:=js_ h
    subst e2
    rcases hk with rfl | rfl
    ·exact absurd rfl (hc _ jo_)
    ·exact jo_
   | false =>
    rw[hx] at h
    exact jr_ _ (ih h hk)
theorem IZ {env:Env}:∀ {names:List (Str×NameKind)} {x:Str},names.lookup x=some .free ->
  ∃ k,(k=NameKind.cell\/k=NameKind.free)/\(names.map (relF env)).lookup x=some k
 | [],_,h=>by simp at h
 | (n,k')::r,x,h=>by
  have ih := @IZ env r x
  rw[qW_] at h
  rw[jV_]
  cases hx:x == n with
  | true =>
   rw[hx] at h
   have e2:k'=.free:=js_ h
   subst e2
   by_cases hb:((NameKind.free:NameKind) == NameKind.free&&env.scope.kind == .function&&env.kindOf n == some .cell)=true
   ·exact⟨.cell,.inl rfl,by rw[MD hb,qW_,hx]⟩
   ·exact⟨.free,.inr rfl,by rw[PN hb,qW_,hx]⟩
  | false =>
   rw[hx] at h
   obtain⟨k,hk,e⟩:=ih h
   refine⟨k,hk,?_⟩
   by_cases hb:(k' == NameKind.free&&env.scope.kind == .function&&env.kindOf n == some .cell)=true
   ·rw[MD hb,qW_,hx];exact e
   ·rw[PN hb,qW_,hx];exact e
end L2
namespace L2
open PySem PySem.Spec PyProof.Rows
section
variable {prog:Program} {w:World} {A:Around} {R:Result->Shared->Prop} {s:Shared}
theorem Ou {elt target iter:Expr}{ifs:List Expr}{scope:Scope}{pos:Pos}{it acc:Value}{env:Env}(I:Nat->Shared->Prop)
  (turn:∀ n s,I n s->wpAny (model prog w) A (pyNext it) (fun r s₁=>match r with
   | none=>R (.ok .next) s₁
   | some v=>wpAny (model prog w) A (letOwnedTupleGo target it v) (fun _ s₁'=>wpAny (model prog w) A (assign target env v) (fun _ s₂ =>
     wpAny (model prog w) A (forIn ifs true fun c r=>if r=true then do let ok <- isTrue c env (eval c env);pure (ForInStep.yield ok) else pure (ForInStep.yield r)) (fun ok s₃ =>
      if ok=true then wpAny (model prog w) A (eval elt env) (fun x s₄ =>
       wpAny (model prog w) A (call (.builtin "list.append") [acc,x]) (fun _ s₅=>∃ m,m<n/\I m s₅) (notedBy (model prog w) A env fun e s'=>R (.error e) s') s₄) (notedBy (model prog w) A env fun e s'=>R (.error e) s') s₃
      else ∃ m,m<n/\I m s₃) (notedBy (model prog w) A env fun e s'=>R (.error e) s') s₂) (notedBy (model prog w) A env fun e s'=>R (.error e) s') s₁') (notedBy (model prog w) A env fun e s'=>R (.error e) s') s₁) (notedBy (model prog w) A env fun e s'=>R (.error e) s') s)
  (n:Nat) (h:I n s) :
  codeAny (model prog w) A (.compLoop (.ListComp elt [⟨target,iter,ifs,0⟩] scope pos) 0 it acc env) R s:=by
 refine codeAny_loop rfl I (fun n s hI=>?_) n h
 show wpAny _ A ((compTurn (.ListComp elt [⟨target,iter,ifs,0⟩] scope pos) 0 it acc env).onRaise (fun x=>do noteFrame x env;theTreesLotGoes x)) _ _ s
 refine wpAny_noted ?_
 rw[compTurn_list]
 refine jb_ (wpAny_standAt (jb_ (qE_ (turn n s hI) (fun r s₁ h₁=>?_) fun _ _ h'=>h')))
 cases r with
 | none=>exact jm_ h₁
 | some v =>
  refine jb_ (qE_ h₁ (fun _ s₁' h₁'=>?_) fun _ _ h'=>h')
  refine jb_ (qE_ h₁' (fun _ s₂ h₂=>jb_ (qE_ h₂ (fun ok s₃ h₃=>?_) fun _ _ h'=>h')) fun _ _ h'=>h')
  cases ok with
  | false=>exact jm_ ⟨rfl,h₃⟩
  | true =>
   exact jb_ (jb_ (qE_ h₃ (fun x s₄ h₄=>jb_ (qE_ h₄ (fun _ s₅ h₅=>jm_ (jm_ ⟨rfl,h₅⟩)) fun _ _ h'=>h')) fun _ _ h'=>h'))
end
abbrev Cx.blk (X:Cx)(N:List Str)(sc:Scope)(C:Addr)(s₀:Shared)(H₀:Hp)(ex:List Addr):Cx :=
 {X with N:=N,env:=compEnvC sc (clOf X.env sc.names []) C X.env,outer:=X.stack,s₀:=s₀,H₀:=H₀,ex:=ex,fn:=fun _=>false,pn:=[],xe:=fun _ _=>False}
structure BlkSc (X:Cx)(sc:Scope):Prop where
 kind:sc.kind=.function
 nocell:∀ y∈sc.names,y.2 ≠ .cell
 loc:∀ y∈sc.names,y.2=.local->sc.names.lookup y.1=some .local
 free:∀ y∈sc.names,y.2=.free->X.env.kindOf y.1=some .cell\/X.env.kindOf y.1=some .free
abbrev Caps:=List (Str×Option Nat)
def Caps.names (c:Caps):List Str:=c.map (·.1)
def Caps.st (c:Caps)(σ:St):St:=c.map fun p=>p.2.bind fun j=>(σ[j]?).join
def F3 (N:List Str)(sc:Scope):Caps->Prop
 | []=>True
 | (_,none)::r=>F3 N sc r
 | (x,some j)::r=>(N[j]?=some x/\sc.names.lookup x=some .free)/\F3 N sc r
theorem F3.get {N:List Str}{sc:Scope}:∀ {c:Caps} {i:Nat} {x:Str} {j:Nat},F3 N sc c->c[i]?=some (x,some j)->N[j]?=some x/\sc.names.lookup x=some .free
 | [],_,_,_,_,h=>by simp at h
 | (y,none)::r,0,x,j,_,h=>by simp at h
 | (y,none)::r,i+1,x,j,ok,h=>F3.get (c:=r) (i:=i) ok (by simpa using h)
 | (y,some k)::r,0,x,j,ok,h=>by
  simp only[zd_,zr_,Prod.mk.injEq] at h
  obtain⟨rfl,rfl⟩:=h
  exact ok.1
 | (y,some k)::r,i+1,x,j,ok,h=>F3.get (c:=r) (i:=i) ok.2 (by simpa using h)
section
variable {X:Cx} {pins:α7} {σ:St} {H:Hp} {s:Shared} {sc:Scope} {fp:List Addr}
theorem Ka (I:Inv X pins σ H s)(S:BlkSc X sc):∀ p∈sc.names,p.2=.free->∃ c,X.env.cells.lookup p.1=some c:=fun p hp e=>I.ok.has p.1 (S.free p hp e)
theorem CV (I:Inv X pins σ H s)(S:BlkSc X sc){x:Str}{c:Addr}(h:(clOf X.env sc.names []).lookup x=some c):X.env.cells.lookup x=some c :=
 MC sc.names [] (Ka I S) (fun q hq=>by cases hq) (x,c) (qK_ h)
theorem Z5 {N:List Str}{C:Addr}(I:Inv X pins σ H s)(S:BlkSc X sc)(hC:s.heap.objs.size<=C)(hf:∀ b∈fp,FpOk X pins H b)(ho:∀ b∈fp,∃ o,s.heap.get? b=some o):(X.blk N sc C s H fp).Ok where
 mod:=I.ok.mod
 kind:=S.kind
 glob:=I.ok.glob
 blt:=I.ok.blt
 above:=hC
 inj:=fun x y c h1 h2=>I.ok.inj x y c (CV I S h1) (CV I S h2)
 has:=fun x hx=>by
  have hx':(x,NameKind.free)∈sc.names:=by
   rcases hx with hx | hx
   ·exact F2 (env:=X.env) S.nocell hx (.inl rfl)
   ·exact F2 (env:=X.env) S.nocell hx (.inr rfl)
  obtain⟨c,hc⟩:=JX (env:=X.env) sc.names [] x (.inl hx')
  exact Dd hc
 cab:=fun x c h=>absurd (show false=true from h) jp_
 hd:=I.ok.hd
 frames:=I.ok.frames
 stk:=.inl rfl
 exf:=fun b hb=>by
  obtain⟨o,ho⟩:=ho b hb
  refine⟨jM_ (jF_ (jn_ ho) hC),fun x c h=>(hf b hb).2.2.2.2.1 x c (CV I S h)⟩
 bs:=I.bs
 bsz:=qM_ I.ok.bsz I.sz
 noex:=fun b o e hb=>by
  rcases (hf b hb).2.2.2.1 with z | z
  ·exact I.ok.noex b o e z
  ·exact absurd (jF_ (jn_ (I.ok.bs b o e).1) z) (qm_ _)
 exfs:=fun b hb z=>by
  rcases jC_.mp (I.stkSub b z) with e | e
  ·exact (hf b hb).2.1 e
  ·exact (hf b hb).2.2.1 e
 funs:=I.stack
 frf:=I.stkFree
theorem T7 {c:Caps}{C:Addr}{s4:Shared}{m:Str->α5}(I:Inv X pins σ H s)(S:BlkSc X sc)(hc:F3 X.N sc c)(hC:s.heap.objs.size<=C)(hf:∀ b∈fp,FpOk X pins H b)(ho:∀ b∈fp,∃ o,s.heap.get? b=some o)
  (hos:s4.os=s.os) (hb:s4.gens=s.gens) (hk:∀ b o,s.heap.get? b=some o->s4.heap.get? b=some o) (hn:s4.heap.Ns C m):Inv (X.blk c.names sc C s H fp) [] (c.st σ) H s4 where
 ok:=Z5 I S hC hf ho
 os:=hos
 bare:=by rw[hb];exact I.bare
 base:=Un.kept hk
 loc:=by
  refine⟨m,hn,fun i x v h1 h2 hv=>?_⟩
  have h1':(c.map (·.1))[i]?=some x:=h1
  have h2':(c.map fun p=>p.2.bind fun j=>(σ[j]?).join)[i]?=some (some v):=h2
  rw[je_] at h1' h2'
  cases e:c[i]? with
  | none=>rw[e] at h1';cases h1'
  | some p =>
   obtain⟨y,oj⟩:=p
   rw[e] at h1' h2'
   have e1:y=x:=js_ h1'
   subst e1
   have e2:(oj.bind fun j=>(σ[j]?).join)=some v:=js_ h2'
   cases oj with
   | none=>cases e2
   | some j =>
    have e3:(σ[j]?).join=some v:=e2
    have e4:σ[j]?=some (some v):=by
     cases q:σ[j]? with
     | none=>rw[q] at e3;cases e3
     | some z=>rw[q] at e3;exact jJ_ some e3
    obtain⟨k1,k2⟩:=F3.get hc e
    have k3:X.env.kindOf y=some .cell\/X.env.kindOf y=some .free:=S.free (y,.free) (qK_ k2) rfl
    have vis:Vis X.env.scope y:=by
     rcases k3 with k | k
     ·exact .inr (.inl k)
     ·exact .inr (.inr k)
    obtain⟨mX,hnX,hl⟩:=I.loc
    obtain⟨u,r,l⟩:=hl j y v k1 e4 vis
    refine⟨u,r,?_⟩
    rcases l with ⟨k,_⟩ | ⟨_,ca,hca,z⟩
    ·rcases k3 with k' | k'<;>(rw[k] at k';cases k')
    ·obtain⟨kd,hkd,ek⟩:=IZ (env:=X.env) k2
     have hk2:(compEnvC sc (clOf X.env sc.names []) C X.env).kindOf y=some kd:=ek
     obtain⟨c',hc'⟩:=JX (env:=X.env) sc.names [] y (.inl (qK_ k2))
     obtain⟨c2,hc2⟩:=Dd hc'
     have e5:=CV I S hc2
     rw[hca] at e5
     have e6:ca=c2:=js_ e5
     subst e6
     refine .inr ⟨?_,ca,hc2,?_⟩
     ·rcases hkd with rfl | rfl
      ·exact .inl hk2
      ·exact .inr hk2
     ·obtain⟨oc,hoc,hd⟩:=z
      exact⟨oc,hk _ _ hoc,hd⟩
 cell:=fun x ca h=>by
  obtain⟨v,oc,hoc,hd⟩:=I.cell x ca (CV I S h)
  exact⟨v,oc,hk _ _ hoc,hd⟩
 free:=I.hok.fresh hC
 freeC:=fun x ca h=>I.freeC x ca (CV I S h)
 pin:=fun p hp=>absurd (show p∈([]:α7) from hp) (by simp)
 hok:=I.hok.kept hk
 len:=by show (c.map _).length=(c.map _).length;rw[ja_,ja_]
theorem HOk.track {P:Program}{w:World}{H:Hp}{h:Heap}{a:Addr}{o:HO}(x:HOk P w H h)(hn:H a=none)(new:CF P w (upd H a o) h a o):HOk P w (upd H a o) h:=fun b u e=>by
 by_cases hb:b=a
 ·subst hb;rw[Ab] at e;cases e;exact new
 ·rw[Ah hb] at e
  exact (x b u e).stay (fun c v _ q=>q) (fun c q=>by rw[Ah (Al q hn)];exact q) fun c xs q=>by rw[Ah (Al q hn)];exact q
theorem Un.track {fs ex:List Addr}{H H':Hp}{h h':Heap}{a:Addr}{o:HO}(u:Un fs ex H H' h h')(ha:h.objs.size<=a)(hn:H' a=none):Un fs ex H (upd H' a o) h h' where
 keep:=u.keep
 slot:=u.slot
 free:=fun b ob q n hx=>by rw[Ah (jM_ (jF_ (jn_ q) ha))];exact u.free b ob q n hx
 there:=u.there
 tups:=fun b xs q=>by rw[Ah (Al (u.tups b xs q) hn)];exact u.tups b xs q
 frzs:=fun b ob xs q=>by rw[Ah (Al (u.frzs b ob xs q) hn)];exact u.frzs b ob xs q
 tbls:=fun b ps q=>by
  obtain⟨more,e⟩:=u.tbls b ps q
  exact⟨more,by rw[Ah (Al e hn)];exact e⟩
theorem YB {c:Caps}{C D:Addr}{s':Shared}{σ':St}{H':Hp}{o:HO}(I:Inv X pins σ H s)(J:Inv (X.blk c.names sc C s H fp) [] σ' H' s')(hf:∀ b∈fp,FpOk X pins H b)(hD:s.heap.objs.size<=D)(hn:H' D=none)
  (new:CF X.prog X.w (upd H' D o) s'.heap D o):Inv X pins σ (upd H' D o) s':=by
 have u:Un (frs X.stack) fp H H' s.heap s'.heap:=J.base
 exact I.call' J.os (u.track hD hn) (J.hok.track hn new) J.bare fun b hb=>⟨(hf b hb).2.2.2.1,(hf b hb).2.1,(hf b hb).2.2.2.2.1,(hf b hb).2.2.2.2.2⟩
end
def PF (X:Cx)(ifs:List Expr)(t:TT):Prop :=
 ∀ (pins:α7) (s:Shared) (σ:St) (H:Hp) (Q:Bool->Hp->Prop),Inv X pins σ H s->t σ H Q ->
  wpAny (model X.prog X.w) X.A (forIn ifs true fun c r=>if r=true then do let ok <- isTrue c X.env (eval c X.env);pure (ForInStep.yield ok) else pure (ForInStep.yield r)) (TP X pins σ Q) X.xe s
def T8:TT:=fun _ H Q=>Q true H
theorem CG {X:Cx}:PF X [] T8:=fun _ _ _ H _ I h=>wpAny_tests_nil ⟨H,I,h⟩
theorem Xh {X:Cx}{c:Expr}{t:TT}(h:PT X c t):PF X [c] t:=fun pins s σ H Q I hw=>wpAny_tests_one (h pins s σ H Q I hw)
def YC (wi:TI)(cp:Caps)(g:TG)(tc:TT)(te:TE):TE:=fun σ H Q=>wi σ H fun J H1=>∃ W:Nat->Nat->List V->St->Hp->Prop,(∃ m,W 0 m [] (cp.st σ) H1)/\∀ i m ys σ' H',W i m ys σ' H' ->
 ys.length<sizeLine/\((J.stop i H'/\∀ D,H' D=none->Q (.ref D) (upd H' D (.lst ys)))\/(J.go i H'/\∃ N:List V->St->Hp->Prop,(∀ zs σ2 H2,N zs σ2 H2->∃ m',m'<m/\W (i+1) m' zs σ2 H2)/\∀ x H2,J.yld i H' x H2->g x σ' H2 fun σ2 H3=>tc σ2 H3 fun b H4 =>
  if b=true then te σ2 H4 fun v H5=>N (ys ++ [v]) σ2 H5 else N ys σ2 H4))
section
variable {X:Cx} {tg iter elt:Expr} {ifs:List Expr} {sc:Scope} {pos:Pos} {wi:TI} {cp:Caps} {g:TG} {tc:TT} {te:TE}
theorem Ov (hc:X.calm=true)(S:BlkSc X sc)(hcp:F3 X.N sc cp)
  (hg:∀ C s₀ H₀ ex,PG (X.blk cp.names sc C s₀ H₀ ex) tg g) (hf:∀ C s₀ H₀ ex,PF (X.blk cp.names sc C s₀ H₀ ex) ifs tc) (he:∀ C s₀ H₀ ex,PE (X.blk cp.names sc C s₀ H₀ ex) elt te)
  {pins:α7} {σ:St} {H:Hp} {s:Shared} {J:It} {it:Addr} {fp:List Addr} {tn:Nat->Heap->Prop} {Q:VK} {RR:Value->Addr->Result->Shared->Prop} {E:Value->Shared->Prop}
  (I:Inv X pins σ H s) (T:Turn X.prog X.w X.K tg J fp it tn) (st:tn 0 s.heap) (fpo:∀ b∈fp,FpOk X pins H b)
  (hw:∃ W:Nat->Nat->List V->St->Hp->Prop,(∃ m,W 0 m [] (cp.st σ) H)/\∀ i m ys σ' H',W i m ys σ' H' ->
   ys.length<sizeLine/\((J.stop i H'/\∀ D,H' D=none->Q (.ref D) (upd H' D (.lst ys)))\/(J.go i H'/\∃ N:List V->St->Hp->Prop,(∀ zs σ2 H2,N zs σ2 H2->∃ m',m'<m/\W (i+1) m' zs σ2 H2)/\∀ x H2,J.yld i H' x H2->g x σ' H2 fun σ2 H3=>tc σ2 H3 fun b H4 =>
    if b=true then te σ2 H4 fun v H5=>N (ys ++ [v]) σ2 H5 else N ys σ2 H4)))
  (hR:∀ D C s' H' (m:Str->α5),Inv X pins σ H' s'->Q (.ref D) H'->s'.heap.Ns C m->H' C=none->C≠X.env.locals->X.s₀.heap.objs.size<=C->(∀ x c,X.env.cells.lookup x=some c->c≠C)->(∀ p∈X.pn++pins,p.1≠C)->RR (.ref D) C (.ok .next) s') :
  wpAny (model X.prog X.w) X.A (newList []) (fun acc s₃=>wpAny (model X.prog X.w) X.A (newFunctionEnv sc X.env.globals (clOf X.env sc.names []) [] X.env.qual none .none (some X.env)) (fun cenv s₄ =>
   codeAny (model X.prog X.w) X.A (.compStart (.ListComp elt [⟨tg,iter,ifs,0⟩] sc pos) 0 (.ref it) acc {cenv with scope:=relabel sc X.env}) (RR acc cenv.locals) s₄) E s₃) E s:=by
 obtain⟨W,⟨m0,w0⟩,turn⟩:=hw
 refine qg_ (wpAny_newFunctionEnv S.nocell (by intro y hy;simp at hy) (fun h₁ hns₁ hsb₁=>?_) S.kind)
 dsimp only at hns₁ hsb₁ ⊢
 generalize hH2:s.heap.push {cls:=.type "list",dict:=none,data:=.seq ([]:List Value).toArray}=H2 at hns₁ hsb₁ ⊢
 have hC:H2.objs.size=s.heap.objs.size+1:=by rw[<- hH2,qH_]
 have hDC:s.heap.objs.size≠H2.objs.size:=by rw[hC];exact jM_ (Nat.lt_succ_self _)
 have hCle:s.heap.objs.size<=H2.objs.size:=by rw[hC];exact Nat.le_succ _
 have below:∀ b,b<s.heap.objs.size->b≠H2.objs.size:=fun b hb=>by rw[hC];exact jM_ (zs_ hb)
 have old:∀ b o,s.heap.get? b=some o->h₁.get? b=some o:=fun b o e=>hsb₁.extBut b o (below b (jn_ e)) (jf_ _ (hH2 ▸ jf_ _ e))
 have hacc:h₁.get? s.heap.objs.size=some {cls:=.type "list",data:=.seq ([]:List Value).toArray 0}:=hsb₁.extBut _ _ hDC (jf_ _ (hH2 ▸ jy_ _ rfl))
 have hst₁:tn 0 h₁:=T.keep 0 _ _ st fun b _ o e=>old b o e
 have hobj:∀ b∈fp,∃ o,s.heap.get? b=some o:=fun b hb=>let ⟨o,e,_⟩:=T.obj 0 _ st b hb;⟨o,e⟩
 have J0:Inv (X.blk cp.names sc H2.objs.size s H fp) [] (cp.st σ) H {s with heap:=h₁,toks:=s.toks+([]:List (Str×Value)).length}:=T7 I S hcp hCle fpo hobj rfl rfl old hns₁
 have nfs:∀ b,s.heap.objs.size<=b->b∉frs X.stack:=fun b hb z=>by
  rcases jC_.mp (I.stkSub b z) with e | e
  ·exact absurd (jF_ I.lt (by rw[<- e];exact hb)) (qm_ _)
  ·exact I.nofs hb e
 have ncell:∀ b,s.heap.objs.size<=b->∀ x c,X.env.cells.lookup x=some c->c≠b:=fun b hb x c e z=>by
  obtain⟨v,q⟩:=I.cell x c e
  exact absurd (jF_ q.lt (by rw[z];exact hb)) (qm_ _)
 have fpb:∀ {pins':α7} {H':Hp},(∀ b∈fp,H' b=none)->(∀ p∈pins',p.1∉fp)->∀ b∈fp,FpOk (X.blk cp.names sc H2.objs.size s H fp) pins' H' b:=fun {pins' H'} hn hp b hb=>by
  obtain⟨o,e⟩:=hobj b hb
  refine⟨hn b hb,below b (jn_ e),fun z=>?_,.inl hb,fun x c h=>(fpo b hb).2.2.2.2.1 x c (CV I S h),fun p hp' z=>?_⟩
  ·rcases jC_.mp (I.stkSub b z) with e | e
   ·exact (fpo b hb).2.1 e
   ·exact (fpo b hb).2.2.1 e
  ·have hp'':p∈pins':=by simpa using hp'
   exact hp p hp'' (by rw[z];exact hb)
 have loop:∀ s₃:Shared,s₃={s with heap:=h₁,toks:=s.toks+([]:List (Str×Value)).length} ->
   codeAny (model X.prog X.w) X.A (.compLoop (.ListComp elt [⟨tg,iter,ifs,0⟩] sc pos) 0 (.ref it) (.ref s.heap.objs.size) (compEnvC sc (clOf X.env sc.names []) H2.objs.size X.env))
    (RR (.ref s.heap.objs.size) H2.objs.size) s₃:=by
  rintro s₃ rfl
  refine Ou (fun n s'=>∃ i σ' H' ys its k,Inv (X.blk cp.names sc H2.objs.size s H fp) [] σ' H' s'/\tn i s'.heap/\(∀ b∈fp,H' b=none)/\H' s.heap.objs.size=none /\
   s'.heap.get? s.heap.objs.size=some {cls:=.type "list",data:=.seq its.toArray k}/\Vals ys its/\W i n ys σ' H') ?_ m0
   ⟨0,_,H,[],[],0,J0,hst₁,fun b hb=>(fpo b hb).1,I.hok.fresh (jl_ _),hacc,.nil,w0⟩
  rintro n s3 ⟨i,σ3,H3,ys,its,k,I3,st3,fr3,hD3,e3,rv,w3⟩
  obtain⟨hz,tr⟩:=turn i n ys σ3 H3 w3
  have hlen:=rv.length
  -- the accumulator stands still while anything else runs
  have dpin:∀ p ∈ [(s.heap.objs.size,({cls:=.type "list",data:=.seq its.toArray k}:Obj))],p.1∉fp:=fun p hp z=>by
   have e:p=_:=ju_.mp hp
   subst e
   obtain⟨o,e⟩:=hobj _ z
   exact absurd (jn_ e) (qm_ _)
  have I3':Inv (X.blk cp.names sc H2.objs.size s H fp) [(s.heap.objs.size,({cls:=.type "list",data:=.seq its.toArray k}:Obj))] σ3 H3 s3:=I3.pins_of fun p hp=>by
   have e:p=_:=ju_.mp hp
   subst e
   exact⟨e3,hD3,hDC,nfs _ (jl_ _),fun v z=>by cases z⟩
  have stat:∀ b∈fp,FpOk (X.blk cp.names sc H2.objs.size s H fp) [(s.heap.objs.size,({cls:=.type "list",data:=.seq its.toArray k}:Obj))] H3 b:=fpb fr3 dpin
  rcases tr with ⟨stop,qn⟩ | ⟨go,N,hN,step⟩
  ·refine thn (T.done (X.blk cp.names sc H2.objs.size s H fp) rfl rfl rfl hc i _ s3 σ3 H3 _ I3' stat st3 stop) fun r s4 ⟨hr,I4⟩=>?_
   subst hr
   obtain⟨e4,n4,_⟩:=I4.pin (s.heap.objs.size,({cls:=.type "list",data:=.seq its.toArray k}:Obj)) (by simp)
   have new:CF X.prog X.w (upd H3 s.heap.objs.size (.lst ys)) s4.heap s.heap.objs.size (.lst ys):=⟨zv_ hz,its,k,rv,e4⟩
   obtain⟨mC,hnC,_⟩:=I4.loc
   have I4':Inv (X.blk cp.names sc H2.objs.size s H fp) [] σ3 H3 s4:=I4.pins_of fun p hp=>by cases hp
   have I5:=YB I I4' fpo (jl_ _) n4 new
   refine hR _ _ s4 _ mC I5 (qn _ n4) hnC ?_ (qa_ (jF_ I.lt hCle)) (qM_ I.sz hCle) (ncell _ hCle) fun p hp z=>?_
   ·rw[Ah (j6_ hDC)];exact I4.free
   ·exact absurd (jF_ (jn_ (I.pin p hp).1) (by rw[z];exact hCle)) (qm_ _)
  ·refine thn (T.item (X.blk cp.names sc H2.objs.size s H fp) rfl rfl rfl hc i _ s3 σ3 H3 _ I3' stat st3 go) fun r s4 ⟨u,hr,h4⟩=>?_
   subst hr
   refine thn h4 fun _ s5 ⟨x,H5,I5,r5,y5,st5,fr5⟩=>?_
   have I5':=I5.pinned (fpb fr5 dpin) (T.obj _ _ st5)
   have fin:∀ {σ7:St} {H7:Hp} {s7:Shared},Inv (X.blk cp.names sc H2.objs.size s H fp) ([(s.heap.objs.size,({cls:=.type "list",data:=.seq its.toArray k}:Obj))]++Of fp s5.heap) σ7 H7 s7 ->
     s7.heap.get? s.heap.objs.size=some {cls:=.type "list",data:=.seq its.toArray k}/\H7 s.heap.objs.size=none/\(∀ b∈fp,H7 b=none)/\∀ b∈fp,∀ o,s5.heap.get? b=some o->s7.heap.get? b=some o:=fun {σ7 H7 s7} I7=>by
    obtain⟨e7,n7,_⟩:=I7.pin (s.heap.objs.size,({cls:=.type "list",data:=.seq its.toArray k}:Obj)) (by simp)
    refine⟨e7,n7,fun b hb=>?_,fun b hb o e=>?_⟩
    ·obtain⟨o,e,_⟩:=T.obj _ _ st5 b hb
     exact (I7.pin (b,o) (jD_ _ (jD_ _ (Gy hb e)))).2.1
    ·exact (I7.pin (b,o) (jD_ _ (jD_ _ (Gy hb e)))).1
   refine qE_ (hg _ _ _ _ _ s5 σ3 H5 x u _ I5' r5 (step x H5 y5)) (fun _ s6 ⟨σ6,H6,I6,q6⟩=>?_) fun _ _ z=>False.elim z
   refine qE_ (hf _ _ _ _ _ s6 σ6 H6 _ I6 q6) (fun ok s7 ⟨H7,I7,q7⟩=>?_) fun _ _ z=>False.elim z
   cases ok with
   | false =>
    rw[if_neg jp_]
    rw[if_neg jp_] at q7
    obtain⟨m',hm,w7⟩:=hN _ _ _ q7
    obtain⟨e7,n7,fr7,k7⟩:=fin I7
    exact⟨m',hm,i+1,σ6,H7,ys,its,k,I7.pins_of (fun p hp=>by cases hp),T.keep _ _ _ st5 k7,fr7,n7,e7,rv,w7⟩
   | true =>
    rw[if_pos rfl]
    rw[if_pos rfl] at q7
    refine qE_ (he _ _ _ _ _ s7 σ6 H7 _ I7 q7) (fun v s8 ⟨y,H8,I8,r8,q8⟩=>?_) fun _ _ z=>False.elim z
    obtain⟨m',hm,w8⟩:=hN _ _ _ q8
    obtain⟨e8,n8,fr8,k8⟩:=fin I8
    refine xD_ F.slot_list_append ⟨_,e8,rfl⟩ F.entry_list_append (F.args_list_append_2 _ _) (PySem.list_append s.heap.objs.size its.toArray k v (by rw[jj_];omega)) ⟨e8,?_⟩
    obtain⟨k',q⟩:∃ k',(s8.heap.update s.heap.objs.size (Obj.mapSeq fun x=>x.push v)).get? s.heap.objs.size=some {cls:=.type "list",data:=.seq (its ++ [v]).toArray k' }:=⟨_,by
     have q:=zA_ e8 fun x=>x.push v
     have e:(its ++ [v]).toArray=its.toArray.push v:=by simp
     rw[e]
     exact q⟩
    have I8':Inv (X.blk cp.names sc H2.objs.size s H fp) [] σ6 H8 s8:=I8.pins_of fun p hp=>by cases hp
    have I9:Inv (X.blk cp.names sc H2.objs.size s H fp) [] σ6 H8 {s8 with heap:=s8.heap.update s.heap.objs.size (Obj.mapSeq fun x=>x.push v),toks:=s8.toks} :=
     I8'.turned (it:=s.heap.objs.size) (fun b o hb e=>(j9_ _ _ (j6_ hb)).trans e) n8 hDC (.inr (jl_ _)) (fun x c e=>ncell _ (jl_ _) x c (CV I S e)) (fun p hp=>by cases hp)
    refine⟨m',hm,i+1,σ6,H8,ys ++ [y],its ++ [v],k',I9,T.keep (i+1) s5.heap _ st5 (fun b hb o e=>?_),fr8,n8,q,rv.append (.cons r8 .nil),w8⟩
    ·refine (j9_ _ _ ?_).trans (k8 b hb o e)
     intro z
     obtain⟨ob,eb⟩:=hobj b hb
     exact absurd (jn_ eb) (by rw[<- z];exact qm_ _)
 exact codeAny_compStart_list (loop _ rfl) (T.self _ 0 _ _ _ hst₁ (loop _ rfl))
theorem Ci (hc:X.calm=true)(S:BlkSc X sc)(hcp:F3 X.N sc cp)(hi:PI X tg iter wi)
  (hg:∀ C s₀ H₀ ex,PG (X.blk cp.names sc C s₀ H₀ ex) tg g) (hf:∀ C s₀ H₀ ex,PF (X.blk cp.names sc C s₀ H₀ ex) ifs tc) (he:∀ C s₀ H₀ ex,PE (X.blk cp.names sc C s₀ H₀ ex) elt te)
  (hs:∀ x,foldedSetIterable iter X.env x=pure x:=by intro _;rfl):PE X (.ListComp elt [⟨tg,iter,ifs,0⟩] sc pos) (YC wi cp g tc te):=by
 intro pins s σ H Q I h
 rw[eval_ListComp]
 refine wpAny_comprehension_free (use:=none) rfl hs (L7 (Ka I S)) S.kind S.loc (thn (hi pins s σ H _ I h) fun xv s₁ h₁=>thn h₁ fun itv s₂ h₂=>?_)
 obtain⟨it,fp,tn,J,H2,e,I2,T,st2,f2,hw⟩:=h₂
 subst e
 refine Ov (RR:=fun acc C=>compPost (model X.prog X.w) X.A X.xe none (EP X pins σ Q) acc C) hc S hcp hg hf he I2 T st2 f2 hw ?_
 intro D C s' H' m I' q hn hC hL hz hcl hp
 exact⟨m,hn,fun h' hs'=>⟨.ref D,H',I'.turned (t':=s'.toks) (it:=C) (fun b o hb e=>hs'.extBut b o hb e) hC hL (.inr hz) hcl hp,rfl,q⟩⟩
theorem Ii {i:Nat}{x:Str}{px spos:Pos}(hN:X.N.Nodup)(hi:X.N[i]?=some x)(hx:X.env.scope.names.lookup x=some .local)(hc:X.calm=true)(S:BlkSc X sc)(hcp:F3 X.N sc cp)(hit:PI X tg iter wi)
  (hg:∀ C s₀ H₀ ex,PG (X.blk cp.names sc C s₀ H₀ ex) tg g) (hf:∀ C s₀ H₀ ex,PF (X.blk cp.names sc C s₀ H₀ ex) ifs tc) (he:∀ C s₀ H₀ ex,PE (X.blk cp.names sc C s₀ H₀ ex) elt te)
  (hsw:swapsWith (.ListComp elt [⟨tg,iter,ifs,0⟩] sc pos) (some (.Name x px)) spos.line X.env=pure true:=by rfl)
  (hs:∀ x,foldedSetIterable iter X.env x=pure x:=by intro _;rfl):PS X (.Assign [.Name x px] (.ListComp elt [⟨tg,iter,ifs,0⟩] sc pos) spos) (tAsg (YC wi cp g tc te) (Ly i)):=by
 intro pins s σ H D I h
 rw[exec_Assign_Name_used _ _ _ _ hsw]
 refine jb_ (wpAny_standAt (jb_ ?_))
 show wpAny _ X.A (do let _ <- comprehension (.ListComp elt [⟨tg,iter,ifs,0⟩] sc pos) sc X.env _ (newList []) false (eval iter X.env) (some (assign (.Name x px) X.env))) _ _ s
 refine jb_ (qE_ (wpAny_comprehension_free (use:=some (assign (.Name x px) X.env)) (Q:=fun _ s'=>SP X pins D .next s') rfl hs (L7 (Ka I S)) S.kind S.loc
  (thn (hit pins s σ H _ I h) fun xv s₁ h₁=>thn h₁ fun itv s₂ h₂=>?_)) (fun _ s' hq=>jm_ (jm_ hq)) fun _ _ e=>e)
 obtain⟨it,fp,tn,J,H2,e,I2,T,st2,f2,hw⟩:=h₂
 subst e
 refine Ov (RR:=fun acc C=>compPost (model X.prog X.w) X.A X.xe (some (assign (.Name x px) X.env)) (fun _ s'=>SP X pins D .next s') acc C) (Q:=fun v H1=>Ly i v σ H1 D.nx) hc S hcp hg hf he I2 T st2 f2 hw ?_
 intro Dl C s' H' m I' q hn hC hL hz hcl hp
 show wpAny _ X.A (assign (.Name x px) X.env (.ref Dl)) _ _ _
 refine wpAny_assign_Name (Od I' hN hi (.inl hx) (v:=.ref Dl) rfl (fun s'' I'' ⟨a,hsb,ha⟩=>?_) (.inr hx))
 have hne:C≠a:=by
  rcases ha with rfl | ha
  ·exact hL
  ·exact fun z=>hcl _ _ ha z.symm
 refine⟨m,hn.sameBut hsb hne,fun h' hs'=>⟨_,H',I''.turned (t':=s''.toks) (it:=C) (fun b o hb e=>hs'.extBut b o hb e) hC hL (.inr hz) hcl hp,q⟩⟩
end
theorem T9 {K:α3}{a:Addr}{xs:List V}{g:TG}{tc:TT}{te:TE}{Q:VK}{σ:St}{H:Hp}(Pv:Nat->List V->St->Hp->Prop)(h0:Pv 0 [] σ H)(hz:xs.length<sizeLine)
  (hl:∀ i ys σ H,i<=xs.length->Pv i ys σ H->SqL K H a xs/\ys.length<=i)
  (hs:∀ i x ys σ H,xs[i]?=some x->Pv i ys σ H->g x σ H fun σ2 H2=>tc σ2 H2 fun b H3=>if b=true then te σ2 H3 fun v H4=>Pv (i+1) (ys ++ [v]) σ2 H4 else Pv (i+1) ys σ2 H3)
  (hd:∀ ys σ H,Pv xs.length ys σ H->∀ D,H D=none->Q (.ref D) (upd H D (.lst ys))) :
  ∃ W:Nat->Nat->List V->St->Hp->Prop,(∃ m,W 0 m [] σ H)/\∀ i m ys σ' H',W i m ys σ' H' ->
   ys.length<sizeLine/\(((Itl K a).stop i H'/\∀ D,H' D=none->Q (.ref D) (upd H' D (.lst ys)))\/((Itl K a).go i H'/\∃ N:List V->St->Hp->Prop,(∀ zs σ2 H2,N zs σ2 H2->∃ m',m'<m/\W (i+1) m' zs σ2 H2)/\∀ x H2,(Itl K a).yld i H' x H2->g x σ' H2 fun σ2 H3=>tc σ2 H3 fun b H4 =>
    if b=true then te σ2 H4 fun v H5=>N (ys ++ [v]) σ2 H5 else N ys σ2 H4)):=by
 refine⟨fun i m ys σ H=>m=xs.length-i/\i<=xs.length/\Pv i ys σ H,⟨xs.length,by simp,j0_ _,h0⟩,?_⟩
 rintro i m ys σ H ⟨rfl,hi,p⟩
 obtain⟨q,ly⟩:=hl i ys σ H hi p
 refine⟨by omega,?_⟩
 by_cases hlt:i<xs.length
 ·refine .inr ⟨⟨xs,xs[i],q,by simp[hlt]⟩,Pv (i+1),fun zs σ' H' p'=>⟨xs.length-(i+1),by omega,rfl,hlt,p'⟩,fun x H' y=>?_⟩
  obtain⟨e,y⟩:=y
  subst e
  exact hs i x ys σ _ (y xs q) p
 ·have e:i=xs.length:=by omega
  subst e
  exact .inl ⟨⟨xs,q,jl_ _⟩,hd ys σ H p⟩
theorem VN {K:α3}{a:Addr}{xs:List V}{g:TG}{tc:TT}{te:TE}{Q:VK}{σ:St}{H:Hp}(Pv:Nat->List V->St->Hp->Prop)(h0:Pv 0 [] σ H)(hz:xs.length<sizeLine)
  (hl:∀ i ys σ H,i<=xs.length->Pv i ys σ H->SqT K H a xs/\ys.length<=i)
  (hs:∀ i x ys σ H,xs[i]?=some x->Pv i ys σ H->g x σ H fun σ2 H2=>tc σ2 H2 fun b H3=>if b=true then te σ2 H3 fun v H4=>Pv (i+1) (ys ++ [v]) σ2 H4 else Pv (i+1) ys σ2 H3)
  (hd:∀ ys σ H,Pv xs.length ys σ H->∀ D,H D=none->Q (.ref D) (upd H D (.lst ys))) :
  ∃ W:Nat->Nat->List V->St->Hp->Prop,(∃ m,W 0 m [] σ H)/\∀ i m ys σ' H',W i m ys σ' H' ->
   ys.length<sizeLine/\(((Itt K a).stop i H'/\∀ D,H' D=none->Q (.ref D) (upd H' D (.lst ys)))\/((Itt K a).go i H'/\∃ N:List V->St->Hp->Prop,(∀ zs σ2 H2,N zs σ2 H2->∃ m',m'<m/\W (i+1) m' zs σ2 H2)/\∀ x H2,(Itt K a).yld i H' x H2->g x σ' H2 fun σ2 H3=>tc σ2 H3 fun b H4 =>
    if b=true then te σ2 H4 fun v H5=>N (ys ++ [v]) σ2 H5 else N ys σ2 H4)):=by
 refine⟨fun i m ys σ H=>m=xs.length-i/\i<=xs.length/\Pv i ys σ H,⟨xs.length,by simp,j0_ _,h0⟩,?_⟩
 rintro i m ys σ H ⟨rfl,hi,p⟩
 obtain⟨q,ly⟩:=hl i ys σ H hi p
 refine⟨by omega,?_⟩
 by_cases hlt:i<xs.length
 ·refine .inr ⟨⟨xs,xs[i],q,by simp[hlt]⟩,Pv (i+1),fun zs σ' H' p'=>⟨xs.length-(i+1),by omega,rfl,hlt,p'⟩,fun x H' y=>?_⟩
  obtain⟨e,y⟩:=y
  subst e
  exact hs i x ys σ _ (y xs q) p
 ·have e:i=xs.length:=by omega
  subst e
  exact .inl ⟨⟨xs,q,jl_ _⟩,hd ys σ H p⟩
theorem R8 {lo:Int}{n:Nat}{g:TG}{tc:TT}{te:TE}{Q:VK}{σ:St}{H:Hp}(Pv:Nat->List V->St->Hp->Prop)(h0:Pv 0 [] σ H)(hz:n<sizeLine)
  (hl:∀ i ys σ H,i<=n->Pv i ys σ H->ys.length<=i)
  (hs:∀ i ys σ H,i<n->Pv i ys σ H->g (.int (lo+i)) σ H fun σ2 H2=>tc σ2 H2 fun b H3=>if b=true then te σ2 H3 fun v H4=>Pv (i+1) (ys ++ [v]) σ2 H4 else Pv (i+1) ys σ2 H3)
  (hd:∀ ys σ H,Pv n ys σ H->∀ D,H D=none->Q (.ref D) (upd H D (.lst ys))) :
  ∃ W:Nat->Nat->List V->St->Hp->Prop,(∃ m,W 0 m [] σ H)/\∀ i m ys σ' H',W i m ys σ' H' ->
   ys.length<sizeLine/\(((Itr lo n).stop i H'/\∀ D,H' D=none->Q (.ref D) (upd H' D (.lst ys)))\/((Itr lo n).go i H'/\∃ N:List V->St->Hp->Prop,(∀ zs σ2 H2,N zs σ2 H2->∃ m',m'<m/\W (i+1) m' zs σ2 H2)/\∀ x H2,(Itr lo n).yld i H' x H2->g x σ' H2 fun σ2 H3=>tc σ2 H3 fun b H4 =>
    if b=true then te σ2 H4 fun v H5=>N (ys ++ [v]) σ2 H5 else N ys σ2 H4)):=by
 refine⟨fun i m ys σ H=>m=n-i/\i<=n/\Pv i ys σ H,⟨n,by simp,j0_ _,h0⟩,?_⟩
 rintro i m ys σ H ⟨rfl,hi,p⟩
 have ly:=hl i ys σ H hi p
 refine⟨by omega,?_⟩
 by_cases hlt:i<n
 ·refine .inr ⟨hlt,Pv (i+1),fun zs σ' H' p'=>⟨n-(i+1),by omega,rfl,hlt,p'⟩,fun x H' y=>?_⟩
  obtain⟨e,y⟩:=y
  subst e y
  exact hs i ys σ _ hlt p
 ·have e:i=n:=by omega
  subst e
  exact .inl ⟨jl_ _,hd ys σ H p⟩
end L2
namespace L2
open PySem PySem.Spec PyProof.Rows
section
variable {X:Cx}
theorem ME {bs:List Bool}{its:List Value}(r:Vals (bs.map V.bl) its){i:Nat}{v:Value}(h:its[i]?=some v):∃ b,bs[i]?=some b/\v=.bool b:=by
 have hi:i<its.length:=(jc_.mp h).1
 have hl:=r.length
 rw[ja_] at hl
 obtain⟨u,hu,ru⟩:=r.get (i:=i) (x:=V.bl bs[i]) (by rw[je_];simp[show i<bs.length by omega])
 rw[h] at hu
 cases hu
 exact⟨bs[i],by simp[show i<bs.length by omega],ru⟩
theorem range_all {bs:List Bool}:(List.range bs.length).all (fun i=>bs.getD i false)=bs.all id:=by
 rw[qn_,xh_,xh_]
 constructor
 ·intro h x hx
  obtain⟨i,hi,e⟩:=jY_ hx
  have:=h i (jW_.mpr hi)
  rw[jd_] at this
  simp[hi] at this
  rw[e] at this
  exact this
 ·intro h i hi
  have hi:=jW_.mp hi
  rw[jd_]
  simp[hi]
  exact h _ (j4_ hi)
theorem PP {bs:List Bool}{its:List Value}{A:Around}{P:Program}{w:World}(r:Vals (bs.map V.bl) its):TruthOf P w A (fun i v=>its.toArray[i]?=some v) (fun i=>bs.getD i false):=by
 intro i v s Q E hv hq
 obtain⟨b,hb,e⟩:=ME r (by simpa using hv)
 subst e
 refine xx_ ?_
 have e:bs.getD i false=b:=by rw[jd_,hb];rfl
 have hq':Q (bs.getD i false) s:=hq
 rw[e] at hq'
 exact hq'
theorem VO (hc:X.calm=true):EF X (.builtin "all") (fun xs H Q=>∃ (p:Addr) (bs:List Bool),xs=[.ref p]/\SqL X.K H p (bs.map V.bl)/\Q (.bl (bs.all id)) H):=by
 intro pins s σ H xs us Q I r h
 obtain⟨p,bs,rfl,hq,q⟩:=h
 obtain⟨u,rfl,ru⟩:=vals1 r
 cases ru
 obtain⟨its,rv,pl,hz⟩:=I.list hq
 have hlen:=rv.length
 rw[ja_] at hlen
 have hh:X.A.in1.handled=none:=I.ok.hd hc
 obtain⟨o,ho,_⟩:=id pl.isList
 have hne:p≠s.heap.objs.size:=jM_ (jn_ ho)
 refine call_all_walk (zq_ pl.isList ?_)
 refine⟨s.heap.objs.size,_,_,its.toArray.size,_,_,fun i=>bs.getD i false,rfl,Walks.list hh _ p hne its.toArray,⟨⟨_,jy_ _ rfl,rfl,rfl⟩,pl.isList.at fun o e=>jf_ _ e⟩,PP rv,fun h' tk hk=>?_⟩
 refine⟨.bl (bs.all id),H,I.kept (t':=tk) fun b o e=>hk b o ?_ (jf_ _ e),?_,q⟩
 ·intro hb
  have e':b=s.heap.objs.size:=by simpa using hb
  exact absurd (jn_ e) (by rw[e'];exact qm_ _)
 ·rw[jj_,<- hlen,range_all];rfl
def EqD (K:α3)(H:Hp):Nat->V->V->Bool->Prop
 | 0,x,y,b=>DK x=true/\DK y=true/\b=eqV x y
 | n+1,x,y,b=>(DK x=true/\DK y=true/\b=eqV x y) \/ ∃ a c xs ys,x=.ref a/\y=.ref c/\((SqL K H a xs/\SqL K H c ys)\/(SqT K H a xs/\SqT K H c ys)) /\
   ∃ e:Nat->Bool,(∀ i x y,xs[i]?=some x->ys[i]?=some y->EqD K H n x y (e i))/\b=(decide (xs.length=ys.length)&&(List.range (min xs.length ys.length)).all e)
theorem in1_units (A:Around):A.in1.units=A.units+1:=rfl
theorem Rg {x:V}(h:DK x=true):eqV x x=true:=by
 cases x<;>first | rfl | (simp[eqV];done) | exact absurd (show false=true from h) jp_
theorem EqD.self {pins:α7}{s:Shared}{σ:St}{H:Hp}(I:Inv X pins σ H s):∀ (n:Nat) {x:V} {b:Bool},EqD X.K H n x x b->b=true:=by
 intro n
 induction n with
 | zero =>
  rintro x b ⟨fx,_,rfl⟩
  exact Rg fx
 | succ n ih =>
  rintro x b (⟨fx,_,rfl⟩ | ⟨a,c,xs,ys,rfl,e2,hq,e,he,rfl⟩)
  ·exact Rg fx
  ·cases e2
   have exy:xs=ys:=by
    rcases hq with ⟨h1,h2⟩ | ⟨h1,h2⟩
    ·exact I.list_inj h1 h2
    ·exact I.tuple_inj h1 h2
   subst exy
   simp only[decide_true,Bool.true_and,Nat.min_self,xh_,jW_]
   intro i hi
   exact ih (he i xs[i] xs[i] (by simp[hi]) (by simp[hi]))
theorem Ua {n m:Nat}{e:Nat->Bool}:((List.range (min n m)).all e&&n == m)=(decide (n=m)&&(List.range (min n m)).all e):=by
 rw[Bool.and_comm]
 congr 1
theorem EqD.at {pins:α7}{s:Shared}{σ:St}{H:Hp}(I:Inv X pins σ H s):∀ (n:Nat) (A:Around) {x y:V} {u v:Value} {b:Bool},A.units+n<cLine->RelV x u->RelV y v->EqD X.K H n x y b ->
  SeqAt.EqAt A s u v b/\∀ a c,x=.ref a->y=.ref c->SeqAt.RcAt A s u v b:=by
 intro n
 induction n with
 | zero =>
  intro A x y u v b hu rx ry h
  obtain⟨fx,fy,rfl⟩:=h
  refine⟨TQ rx ry fx fy,?_⟩
  rintro a c rfl rfl
  exact absurd (show false=true from fx) jp_
 | succ n ih =>
  intro A x y u v b hu rx ry h
  have hself:=h
  rcases h with ⟨fx,fy,rfl⟩ | ⟨a,c,xs,ys,rfl,rfl,hq,e,he,rfl⟩
  ·refine⟨TQ rx ry fx fy,?_⟩
   rintro a c rfl rfl
   exact absurd (show false=true from fx) jp_
  ·cases rx
   cases ry
   have key:∀ (its its2:List Value),Vals xs its->Vals ys its2->∀ j (h1:j<its.toArray.size) (h2:j<its2.toArray.size),SeqAt.EqAt A.in1 s its.toArray[j] its2.toArray[j] (e j):=fun its its2 r1 r2 j h1 h2=>by
    have l1:=r1.length
    have l2:=r2.length
    rw[jj_] at h1 h2
    obtain⟨u1,g1,q1⟩:=r1.get (i:=j) (x:=xs[j]'(by omega)) (by simp[show j<xs.length by omega])
    obtain⟨u2,g2,q2⟩:=r2.get (i:=j) (x:=ys[j]'(by omega)) (by simp[show j<ys.length by omega])
    have k1:its.toArray[j]'(by rw[jj_];exact h1)=u1:=by
     have:=(jc_.mp g1).2
     simpa using this
    have k2:its2.toArray[j]'(by rw[jj_];exact h2)=u2:=by
     have:=(jc_.mp g2).2
     simpa using this
    rw[k1,k2]
    exact (ih A.in1 (by rw[in1_units];omega) q1 q2 (he j _ _ (by simp[show j<xs.length by omega]) (by simp[show j<ys.length by omega]))).1
   have rc:SeqAt.RcAt A s (.ref a) (.ref c) (decide (xs.length=ys.length)&&(List.range (min xs.length ys.length)).all e):=by
    rcases hq with ⟨h1,h2⟩ | ⟨h1,h2⟩
    ·obtain⟨its,r1,p1,_⟩:=I.list h1
     obtain⟨its2,r2,p2,_⟩:=I.list h2
     have l1:=r1.length
     have l2:=r2.length
     by_cases hl:xs.length=ys.length
     ·have:=SeqAt.RcAt.lists (e:=e) p1.isList p2.isList (by rw[jj_,jj_];omega) (by omega) (key its its2 r1 r2)
      rw[jj_,<- l1] at this
      rw[qj_ hl,Bool.true_and,<- hl,Nat.min_self]
      exact this
     ·rw[qe_ hl,Bool.false_and]
      exact SeqAt.RcAt.lists_lengths p1.isList p2.isList (by rw[jj_,jj_];simp;omega) (by omega)
    ·obtain⟨its,r1,p1,_⟩:=I.tuple h1
     obtain⟨its2,r2,p2,_⟩:=I.tuple h2
     have l1:=r1.length
     have l2:=r2.length
     have:=SeqAt.RcAt.tuples (e:=e) (show s.heap.IsTuple a its.toArray from p1) (show s.heap.IsTuple c its2.toArray from p2) (by omega) (key its its2 r1 r2)
     rw[jj_,jj_,<- l1,<- l2,Ua] at this
     exact this
   refine⟨?_,fun a' c' _ _=>rc⟩
   by_cases hac:a=c
   ·subst hac
    rw[EqD.self I (n+1) hself]
    exact SeqAt.EqAt.same _
   ·exact SeqAt.EqAt.of_refs hac rc
def rEqD (K:α3)(n:Nat):R2:=fun x y H Q=>∃ a c b,x=.ref a/\y=.ref c/\EqD K H n x y b/\Q (.bl b) H
theorem Xi (n:Nat)(hu:X.A.units+n<cLine):OpR X (compareOp .Eq) (rEqD X.K n):=by
 intro pins s σ H x y v u Q I rx ry h
 obtain⟨a,c,b,ex,ey,h,q⟩:=h
 exact (EqD.at I n X.A hu rx ry h).2 a c ex ey _ _ _ _ ⟨.bl b,H,I,rfl,q⟩
theorem EqD.flat {K:α3}{H:Hp}{a c:Addr}{xs ys:List V}(hq:(SqL K H a xs/\SqL K H c ys)\/(SqT K H a xs/\SqT K H c ys))(fx:∀ x∈xs,DK x=true)(fy:∀ y∈ys,DK y=true)(hi:∀ x∈xs,∀ y∈ys,eqV x y=decide (x=y))(n:Nat) :
  EqD K H (n+1) (.ref a) (.ref c) (decide (xs=ys)):=by
 have base:∀ m i x y,xs[i]?=some x->ys[i]?=some y->EqD K H m x y (decide (x=y)):=fun m i x y h1 h2=>by
  have m1:=jg_ h1
  have m2:=jg_ h2
  cases m with
  | zero=>exact⟨fx _ m1,fy _ m2,(hi _ m1 _ m2).symm⟩
  | succ m=>exact .inl ⟨fx _ m1,fy _ m2,(hi _ m1 _ m2).symm⟩
 refine .inr ⟨a,c,xs,ys,rfl,rfl,hq,fun i=>match xs[i]?,ys[i]? with | some x,some y=>decide (x=y) | _,_=>true,fun i x y h1 h2=>?_,?_⟩
 ·simp only[h1,h2]
  exact base n i x y h1 h2
 ·rw[qn_]
  simp only[qh_,qy_,xh_,jW_]
  constructor
  ·rintro rfl
   refine⟨rfl,fun i hi=>?_⟩
   have hi:i<xs.length:=by omega
   simp[hi]
  ·rintro⟨hl,h⟩
   refine qc_ fun i=>?_
   by_cases hi:i<xs.length
   ·have:=h i (by omega)
    simp[hi,show i<ys.length by omega] at this
    simp[hi,show i<ys.length by omega,this]
   ·rw[jA_ (by omega),jA_ (by omega)]
end
end L2
namespace L2
open PySem PySem.Spec PyProof.Rows
def Z6 (outer:List (Str×NameKind))(sc:Scope):Bool :=
 sc.kind == .function&&sc.names.all (fun y=>y.2 != .cell&&(y.2 != .local||sc.names.lookup y.1 == some .local)&&(y.2 != .free||outer.lookup y.1 == some .cell||outer.lookup y.1 == some .free))
theorem Cp {X:Cx}{sc:Scope}(h:Z6 X.env.scope.names sc=true):BlkSc X sc:=by
 unfold Z6 at h
 rw[qy_,xh_] at h
 obtain⟨h1,h2⟩:=h
 refine⟨by simpa using h1,fun y hy z=>?_,fun y hy z=>?_,fun y hy z=>?_⟩
 ·have:=h2 y hy
  simp only[qy_] at this
  have:=this.1.1
  rw[z] at this
  exact absurd this (by decide)
 ·have:=h2 y hy
  simp only[qy_] at this
  have:=this.1.2
  rw[z] at this
  simpa using this
 ·have:=h2 y hy
  simp only[qy_] at this
  have:=this.2
  rw[z] at this
  have t:(X.env.scope.names.lookup y.1 == some .cell||X.env.scope.names.lookup y.1 == some .free)=true:=by simpa using this
  rw[Bool.or_eq_true] at t
  rcases t with t | t
  ·exact .inl (by show X.env.scope.names.lookup y.1=some .cell;simpa using t)
  ·exact .inr (by show X.env.scope.names.lookup y.1=some .free;simpa using t)
section
variable {t u:TS} {te ta tb tc':TE} {tt tu:TT} {A B:TA} {D:Ends} {σ:St} {H:Hp} {Q:VK} {R:Bool->Hp->Prop} {S:List V->Hp->Prop} {i:Nat} {v:V} {g:TG} {r r':R2} {K:α3} {wi:TI} {cp:Caps}
theorem Z7:tSeq t u D σ H=t {D with nx:=u D} σ H:=rfl
theorem Xj:ZJ D σ H=D.nx σ H:=rfl
theorem Z8:tAsg te g D σ H=te σ H fun x H1=>g x σ H1 D.nx:=rfl
theorem Ub {N:St->Hp->Prop}:Ly i v σ H N=N (σ.set i (some v)) H:=rfl
theorem Z9:tVar i σ H Q=∃ v,σ[i]?=some (some v)/\Q v H:=rfl
theorem r_c:tC v σ H Q=Q v H:=rfl
theorem r_op:tOp r ta tb σ H Q=ta σ H fun x H1=>tb σ H1 fun y H2=>r x y H2 Q:=rfl
theorem r_un {f:V->Hp->VK->Prop}:tUn f ta σ H Q=ta σ H fun x H1=>f x H1 Q:=rfl
theorem r_I {C:Int->Int->Prop}{f:Int->Int->V}{x y:V}:rI C f x y H Q=∃ i j,x=.int i/\y=.int j/\C i j/\Q (f i j) H:=rfl
theorem r_I0 {f:Int->Int->V}{x y:V}:rI0 f x y H Q=∃ i j,x=.int i/\y=.int j/\Q (f i j) H:=rfl
theorem r_U {f:Int->V}{x:V}:rU f x H Q=∃ i,x=.int i/\Q (f i) H:=rfl
theorem Xk {sp:Sp}{dvs:List V}{E:XK}:ZT sp dvs E A σ H Q=A σ H fun vs H1=>sp (vs++dvs) H1 Q E:=rfl
theorem Xl:ZS te A σ H S=te σ H fun x H1=>A σ H1 fun xs H2=>S (x::xs) H2:=rfl
theorem Aa_:tNil σ H S=S [] H:=rfl
theorem Ab_:tRet te D σ H=te σ H D.rt:=rfl
theorem Xm:ZK te D σ H=te σ H fun _ H1=>D.nx σ H1:=rfl
theorem r_if:tIfS tt t u D σ H=tt σ H fun b H1=>if b=true then t D σ H1 else u D σ H1:=rfl
theorem r_B:tB te σ H R=te σ H fun x H1=>∃ c,x=.bl c/\R c H1:=rfl
theorem Xn:VB te σ H R=te σ H fun x H1=>∃ c,x=.bl c/\R c H1:=rfl
theorem Ac_:tAnd tt tu σ H R=tt σ H fun c H1=>if c=true then tu σ H1 R else R false H1:=rfl
theorem r_or:tOr tt tu σ H R=tt σ H fun c H1=>if c=true then R true H1 else tu σ H1 R:=rfl
theorem Ad_:tNot tt σ H R=tt σ H fun c H1=>R (!c) H1:=rfl
theorem Xo:ZF ta tb σ H Q=ta σ H fun x H1=>∃ c,x=.bl c/\if c=true then tb σ H1 Q else Q (.bl false) H1:=rfl
theorem Uc:Xb r r' ta tb tc' σ H Q=ta σ H fun x H1=>tb σ H1 fun y H2=>r x y H2 fun z H3=>∃ k,z=.bl k/\(if k=true then tc' σ H3 fun w' H4=>r' y w' H4 Q else Q (.bl false) H3):=rfl
theorem r_CB {f:List V->Hp->VK->Prop}:tCB f A σ H Q=A σ H fun vs H1=>f vs H1 Q:=rfl
theorem Ae_:tLst A σ H Q=A σ H fun xs H1=>xs.length<=sizeLine/\∀ p,H1 p=none->Q (.ref p) (upd H1 p (.lst xs)):=rfl
theorem Af_:tTup A σ H Q=A σ H fun xs H1=>xs.length<=sizeLine/\∀ p,H1 p=none->Q (.ref p) (upd H1 p (.tup xs)):=rfl
theorem Ag_ {x y:V}:rIxL K x y H Q=∃ p xs i v,x=.ref p/\y=.int i/\SqL K H p xs/\atI xs i=some v/\Q v H:=rfl
theorem Ah_ {x y:V}:rIxT K x y H Q=∃ p xs i v,x=.ref p/\y=.int i/\SqT K H p xs/\atI xs i=some v/\Q v H:=rfl
theorem r_sl {f:V->Option Int->Option Int->Hp->VK->Prop}{tl th:TO}:tSl f te tl th σ H Q=te σ H fun x H1=>tl σ H1 fun l H2=>th σ H2 fun u H3=>f x l u H3 Q:=rfl
theorem Xp {U:Option Int->Hp->Prop}:ZW te σ H U=te σ H fun x H1=>∃ i,x=.int i/\U (some i) H1:=rfl
theorem Rh {U:Option Int->Hp->Prop}:TJ σ H U=U none H:=rfl
theorem r_BM {T:String}{f:V->List V->Hp->VK->Prop}:tBM K T f te A σ H Q=te σ H fun x H1=>tyV K T x H1/\A σ H1 fun xs H2=>f x xs H2 Q:=rfl
theorem Ai_ {T:String}{f:V->List V->Hp->VK->Prop}:tBM0 K T f te σ H Q=te σ H fun x H1=>tyV K T x H1/\f x [] H1 Q:=rfl
theorem Ri {x:V}{vs:List V}:TR x vs H Q=∃ l xs y,x=.ref l/\vs=[y]/\H l=some (.lst xs)/\xs.length<sizeLine/\Q .non (upd H l (.lst (xs ++ [y]))):=rfl
theorem Xq {to ti:TE}{ts:TSet}{N:St->Hp->Prop}:gSub to ti ts v σ H N=to σ H fun o H1=>ti σ H1 fun i H2=>ts o i v H2 fun H3=>N σ H3:=rfl
theorem Xr {o k:V}{N:Hp->Prop}:ZZ o k v H N=∃ p xs m j,o=.ref p/\k=.int m/\H p=some (.lst xs)/\ixN xs.length m=some j/\N (upd H p (.lst (xs.set j v))):=rfl
theorem r_Eq {x y:V}:rEq x y H Q=(scal x y=true/\Q (.bl (decide (x=y))) H):=rfl
theorem Aj_ {n:Nat}{x y:V}:rEqD K n x y H Q=∃ a c b,x=.ref a/\y=.ref c/\EqD K H n x y b/\Q (.bl b) H:=rfl
theorem Ud {Z:It->Hp->Prop}:ZN K te σ H Z=te σ H fun x H1=>∃ a,x=.ref a/\(∃ xs,SqL K H1 a xs)/\Z (Itl K a) H1:=rfl
theorem Xs {Z:It->Hp->Prop}:iTup K te σ H Z=te σ H fun x H1=>∃ a,x=.ref a/\(∃ xs,SqT K H1 a xs)/\Z (Itt K a) H1:=rfl
theorem Ue {Z:It->Hp->Prop}:ZO A σ H Z=A σ H fun vs H1=>∃ j:Int,vs=[.int j] /\ -(2 ^ 62)<=j/\j<2 ^ 62/\Z (Itr 0 j.toNat) H1:=rfl
theorem Ak_ {ti:TIp}:tAug i te ti D σ H=∃ x,σ[i]?=some (some x)/\te σ H fun y H1=>ti x y H1 fun z H2=>D.nx (σ.set i (some z)) H2:=rfl
theorem r_ip {f:Int->Int->Int}{x y:V}:ipI f x y H Q=∃ i j,x=.int i/\y=.int j/\Q (.int (f i j)) H:=rfl
theorem Xt:T8 σ H R=R true H:=rfl
end
theorem Same.new {H:Hp}{p:Addr}{o:HO}(h:H p=none):Same H (upd H p o):=fun b u e=>by rw[Ah (Al e h)];exact e
theorem Same.newT {H H':Hp}{p:Addr}{o:HO}(s:Same H H')(h:H' p=none):Same H (upd H' p o):=s.trans (Same.new h)
theorem Same.over {H H':Hp}{p:Addr}{o:HO}(s:Same H H')(h:H p=none):Same H (upd H' p o):=fun b u e=>by rw[Ah (Al e h)];exact s b u e
theorem AM {H:Hp}{p D:Addr}{o:HO}(h:upd H p o D=none):H D=none/\D≠p:=by
 by_cases e:D=p
 ·subst e;rw[Ab] at h;cases h
 ·rw[Ah e] at h;exact⟨h,e⟩
theorem Same.seqT {K:α3}{H H':Hp}{a:Addr}{xs:List V}(e:Same H H')(h:SqT K H a xs):SqT K H' a xs:=by
 rcases h with (h | ⟨o,h⟩) | h
 ·exact .inl (.inl (e _ _ h))
 ·exact .inl (.inr ⟨o,e _ _ h⟩)
 ·exact .inr h
theorem hu9 {k:Nat}{A:Around}(hr:Room k A):A.units+8<cLine:=by have:=hr.units;omega
section
variable {K:α3} {wi:TI} {cp:Caps} {g:TG} {tc:TT} {te:TE} {σ:St} {H:Hp} {Q:VK}
theorem Al_ {CX:CXT}{P:Program}{w:World}{mg:Str->α5}{base:Heap}{N:List Str}{qual:Str}{scope:Scope}{f:Addr}{cd:Value}{A:Around}{outer:List Env}{s:Shared}{E:XK}:(cxOf CX P w K mg base N qual scope f cd A outer s H E).K=K:=rfl
def PQ (J:It)(cp:Caps)(g:TG)(tc:TT)(te:TE)(σ:St)(H1:Hp)(Q:VK):Prop:=∃ W:Nat->Nat->List V->St->Hp->Prop,(∃ m,W 0 m [] (cp.st σ) H1)/\∀ i m ys σ' H',W i m ys σ' H' ->
 ys.length<sizeLine/\((J.stop i H'/\∀ D,H' D=none->Q (.ref D) (upd H' D (.lst ys)))\/(J.go i H'/\∃ N:List V->St->Hp->Prop,(∀ zs σ2 H2,N zs σ2 H2->∃ m',m'<m/\W (i+1) m' zs σ2 H2)/\∀ x H2,J.yld i H' x H2->g x σ' H2 fun σ2 H3=>tc σ2 H3 fun b H4 =>
  if b=true then te σ2 H4 fun v H5=>N (ys ++ [v]) σ2 H5 else N ys σ2 H4))
theorem Xu:YC wi cp g tc te σ H Q=wi σ H fun J H1=>PQ J cp g tc te σ H1 Q:=rfl
def ForW (J:It)(g:TG)(tb:TS)(D:Ends)(σ:St)(H1:Hp):Prop:=∃ W:Nat->Nat->St->Hp->Prop,(∃ m,W 0 m σ H1)/\∀ i m σ H,W i m σ H ->
 (J.stop i H/\D.nx σ H)\/(J.go i H/\∃ N:St->Hp->Prop,(∀ σ' H',N σ' H'->∃ m',m'<m/\W (i+1) m' σ' H')/\∀ x H',J.yld i H x H'->g x σ H' fun σ2 H2=>tb {D with nx:=N,ct:=N,bk:=D.nx} σ2 H2)
theorem Am_ {tb:TS}{D:Ends}:tFor wi g tb D σ H=wi σ H fun J H1=>ForW J g tb D σ H1:=rfl
theorem forL {a:Addr}{xs:List V}{g:TG}{tb:TS}{D:Ends}{σ:St}{H:Hp}(Pv:Nat->St->Hp->Prop)(h0:Pv 0 σ H)(hl:∀ i σ H,i<=xs.length->Pv i σ H->SqL K H a xs)
  (hs:∀ i x σ H,xs[i]?=some x->Pv i σ H->g x σ H fun σ2 H2=>tb {D with nx:=Pv (i+1),ct:=Pv (i+1),bk:=D.nx} σ2 H2) (hd:∀ σ H,Pv xs.length σ H->D.nx σ H):ForW (Itl K a) g tb D σ H:=VA Pv h0 hl hs hd
theorem forT {a:Addr}{xs:List V}{g:TG}{tb:TS}{D:Ends}{σ:St}{H:Hp}(Pv:Nat->St->Hp->Prop)(h0:Pv 0 σ H)(hl:∀ i σ H,i<=xs.length->Pv i σ H->SqT K H a xs)
  (hs:∀ i x σ H,xs[i]?=some x->Pv i σ H->g x σ H fun σ2 H2=>tb {D with nx:=Pv (i+1),ct:=Pv (i+1),bk:=D.nx} σ2 H2) (hd:∀ σ H,Pv xs.length σ H->D.nx σ H):ForW (Itt K a) g tb D σ H:=Ym Pv h0 hl hs hd
theorem forR {lo:Int}{n:Nat}{g:TG}{tb:TS}{D:Ends}{σ:St}{H:Hp}(Pv:Nat->St->Hp->Prop)(h0:Pv 0 σ H)
  (hs:∀ i σ H,i<n->Pv i σ H->g (.int (lo+i)) σ H fun σ2 H2=>tb {D with nx:=Pv (i+1),ct:=Pv (i+1),bk:=D.nx} σ2 H2) (hd:∀ σ H,Pv n σ H->D.nx σ H):ForW (Itr lo n) g tb D σ H:=TC Pv h0 hs hd
theorem PR {a:Addr}{xs:List V}(Pv:Nat->List V->St->Hp->Prop)(h0:Pv 0 [] (cp.st σ) H)(hz:xs.length<sizeLine)
  (hl:∀ i ys σ H,i<=xs.length->Pv i ys σ H->SqL K H a xs/\ys.length<=i)
  (hs:∀ i x ys σ H,xs[i]?=some x->Pv i ys σ H->g x σ H fun σ2 H2=>tc σ2 H2 fun b H3=>if b=true then te σ2 H3 fun v H4=>Pv (i+1) (ys ++ [v]) σ2 H4 else Pv (i+1) ys σ2 H3)
  (hd:∀ ys σ H,Pv xs.length ys σ H->∀ D,H D=none->Q (.ref D) (upd H D (.lst ys))):PQ (Itl K a) cp g tc te σ H Q:=T9 Pv h0 hz hl hs hd
theorem YD {a:Addr}{xs:List V}(Pv:Nat->List V->St->Hp->Prop)(h0:Pv 0 [] (cp.st σ) H)(hz:xs.length<sizeLine)
  (hl:∀ i ys σ H,i<=xs.length->Pv i ys σ H->SqT K H a xs/\ys.length<=i)
  (hs:∀ i x ys σ H,xs[i]?=some x->Pv i ys σ H->g x σ H fun σ2 H2=>tc σ2 H2 fun b H3=>if b=true then te σ2 H3 fun v H4=>Pv (i+1) (ys ++ [v]) σ2 H4 else Pv (i+1) ys σ2 H3)
  (hd:∀ ys σ H,Pv xs.length ys σ H->∀ D,H D=none->Q (.ref D) (upd H D (.lst ys))):PQ (Itt K a) cp g tc te σ H Q:=VN Pv h0 hz hl hs hd
theorem Uf {lo:Int}{n:Nat}(Pv:Nat->List V->St->Hp->Prop)(h0:Pv 0 [] (cp.st σ) H)(hz:n<sizeLine)
  (hl:∀ i ys σ H,i<=n->Pv i ys σ H->ys.length<=i)
  (hs:∀ i ys σ H,i<n->Pv i ys σ H->g (.int (lo+i)) σ H fun σ2 H2=>tc σ2 H2 fun b H3=>if b=true then te σ2 H3 fun v H4=>Pv (i+1) (ys ++ [v]) σ2 H4 else Pv (i+1) ys σ2 H3)
  (hd:∀ ys σ H,Pv n ys σ H->∀ D,H D=none->Q (.ref D) (upd H D (.lst ys))):PQ (Itr lo n) cp g tc te σ H Q:=R8 Pv h0 hz hl hs hd
theorem Gz {a:Addr}{xs:List V}{σ':St}(f:V->V)(e:cp.st σ=none::σ')(hl:SqT K H a xs)(hz:xs.length<sizeLine)(hs:∀ x∈xs,∀ R:VK,R (f x) H->te (some x::σ') H R)(hd:∀ D,H D=none->Q (.ref D) (upd H D (.lst (xs.map f)))) :
  PQ (Itt K a) cp (Ly 0) T8 te σ H Q:=by
 refine YD (xs:=xs) (fun i ys σ2 H2=>H2=H/\ys=(xs.take i).map f/\∃ o,σ2=o::σ') ⟨rfl,by simp,none,e⟩ hz (fun i ys σ2 H2 hi h=>?_) (fun i x ys σ2 H2 hx h=>?_) (fun ys σ2 H2 h=>?_)
 ·obtain⟨rfl,rfl,_⟩:=h
  exact⟨hl,by rw[ja_,jx_];omega⟩
 ·obtain⟨rfl,rfl,o,rfl⟩:=h
  refine hs x (jg_ hx) _ ⟨rfl,?_,some x,rfl⟩
  rw[jP_,hx];simp
 ·obtain⟨rfl,rfl,_⟩:=h
  rw[jU_]
  exact hd
theorem HD {a:Addr}{xs:List V}{σ':St}(f:V->V)(e:cp.st σ=none::σ')(hl:SqL K H a xs)(hz:xs.length<sizeLine)(hs:∀ x∈xs,∀ R:VK,R (f x) H->te (some x::σ') H R)(hd:∀ D,H D=none->Q (.ref D) (upd H D (.lst (xs.map f)))) :
  PQ (Itl K a) cp (Ly 0) T8 te σ H Q:=by
 refine PR (xs:=xs) (fun i ys σ2 H2=>H2=H/\ys=(xs.take i).map f/\∃ o,σ2=o::σ') ⟨rfl,by simp,none,e⟩ hz (fun i ys σ2 H2 hi h=>?_) (fun i x ys σ2 H2 hx h=>?_) (fun ys σ2 H2 h=>?_)
 ·obtain⟨rfl,rfl,_⟩:=h
  exact⟨hl,by rw[ja_,jx_];omega⟩
 ·obtain⟨rfl,rfl,o,rfl⟩:=h
  refine hs x (jg_ hx) _ ⟨rfl,?_,some x,rfl⟩
  rw[jP_,hx];simp
 ·obtain⟨rfl,rfl,_⟩:=h
  rw[jU_]
  exact hd
end
def tCut (t u:TS):TS:=fun D σ H=>∃ R:St->Hp->Prop,t {D with nx:=R} σ H/\∀ σ' H',R σ' H'->u D σ' H'
theorem DL {X:Cx}{st:Stmt}{rest:List Stmt}{t u:TS}(h1:PS X st t)(h2:PSs X rest u):PSs X (st::rest) (tCut t u):=by
 intro pins s σ H D I h
 obtain⟨R,ha,hb⟩:=h
 refine wpAny_execs_cons (thn (h1 pins s σ H {D with nx:=R} I ha) fun f s1 q=>?_)
 cases f with
 | next =>
  obtain⟨σ',H',I',q⟩:=q
  exact h2 pins s1 σ' H' D I' (hb σ' H' q)
 | ret v=>exact q
 | brk=>exact q
 | cont=>exact q
theorem AB:1000000<sizeLine:=by rw[sizeLine_eq];decide
theorem Ez {ns:α2}{x:V}(h:x∈ns.map V.int):∃ n,n∈ns/\x=.int n:=by
 obtain⟨n,hn,e⟩:=jv_.mp h
 exact⟨n,hn,e.symm⟩
theorem DA {ns:α2}{i:Nat}{x:V}(h:(ns.map V.int)[i]?=some x):∃ n,ns[i]?=some n/\x=.int n:=by
 rw[je_] at h
 cases e:ns[i]? with
 | none=>rw[e] at h;cases h
 | some n=>rw[e] at h;exact⟨n,rfl,(js_ h).symm⟩
def cutI (ns:α2)(lo hi:Option Int):α2:=(ns.drop (HT.sIx ns.length 0 lo)).take (HT.sIx ns.length ns.length hi-HT.sIx ns.length 0 lo)
theorem VP (ns:α2)(lo hi:Option Int):cutV (ns.map V.int) lo hi=(cutI ns lo hi).map V.int:=by
 unfold cutV cutI
 rw[ja_,<- List.map_drop,<- List.map_take]
theorem An_ {n:Nat}{i:Int}(h0:0<=i)(h1:i<n):ixN n i=some i.toNat:=by
 unfold ixN;rw[if_pos h0,if_pos h1]
theorem D9 {α:Type}{xs:List α}{i:Int}{v:α}(h0:0<=i)(h:xs[i.toNat]?=some v):atI xs i=some v:=by
 have:=F0 h
 rwa [show ((i.toNat:Nat):Int)=i by omega] at this
end L2
namespace L2
open PySem PySem.W PySem.Spec PySem.Calls PyProof.Rows
section
variable {prog:Program} {w:World} {A:Around} {E:Value->Shared->Prop} {s:Shared} {K:Frag} {x D:Addr} {ox:Obj}
structure ExcCls (K:Frag)(D:Addr):Prop where
 ga:findIn K (.ref D) "__getattribute__" = some (some (.builtin "BaseException.__getattribute__"))
 hk:findIn K (.ref D) "__getattr__" = some none
 cl:(clsIn K D).isSome=true
 ca:findIn K (.ref D) "__class__" = some (some (.builtin "object.__class__"))
 gs:specialIn K (.builtin "object.__class__") "__get__" = some (some (.builtin "getset_descriptor.__get__"))
 tk:takesIn K (.builtin "object.__class__")=some true
 mo:mroIn K D (.type "object")=some true
 mb:mroIn K D (.type "BaseException")=some true
end
section
variable {P:Program} {w:World}
theorem CF.there {H:Hp}{h:Heap}{a:Addr}{o:HO}(x:CF P w H h a o):∃ ob,h.get? a=some ob:=by
 induction o with
 | lst xs=>obtain⟨_,_,_,_,e⟩:=x;exact⟨_,e⟩
 | tup xs=>obtain⟨_,_,_,ob,e,_⟩:=x;exact⟨_,e⟩
 | dK kvs=>obtain⟨_,_,_,_,o,_,_,e,_⟩:=x;exact⟨_,e⟩
 | dT kvs=>obtain⟨_,_,_,_,o,_,_,e,_⟩:=x;exact⟨_,e⟩
 | set S n=>obtain⟨o,_,_,_,e,_⟩:=x;exact⟨_,e⟩
 | ins C dx fs=>obtain⟨_,_,_,e,_⟩:=x;exact⟨_,e⟩
 | own y=>obtain⟨_,e⟩:=x;exact⟨_,e⟩
 | xd fs=>obtain⟨_,⟨_,_,_,e,_⟩,_⟩:=x;exact⟨_,e⟩
 | rng lo hi=>obtain⟨_,_,_,e⟩:=x;exact⟨_,e⟩
 | frz ob u ih=>obtain⟨e,_⟩:=x;exact⟨_,e⟩
 | tbl ps=>exact⟨_,(show h.get? a=some _ from x)⟩
 | met f y=>exact⟨_,(show h.get? a=some _ from x)⟩
 | ext φ=>obtain⟨_,⟨_,e⟩,_⟩:=x;exact⟨_,e⟩
structure Fly (P:Program)(w:World)(fs:List Addr)(H1 H':Hp)(h1 g B:Heap):Prop where
 un:Un fs [] H1 H' h1 g
 hok:HOk P w H' g
 cov:∀ b o,g.get? b=some o->(H' b≠none \/ ∃ o',h1.get? b=some o')->b∉fs->B.get? b=some o
theorem Fly.move {fs:List Addr}{H1 H':Hp}{h1 g B h2:Heap}(x:Fly P w fs H1 H' h1 g B)(frees:∀ b∈fs,H' b=none)(st:B.StaysIn h2)(up:∀ b∈fs,∀ o,g.get? b=some o->∃ sl,h2.get? b=some {o with slots:=sl}):Fly P w fs H1 H' h1 h2 B:=by
 have keep:∀ b o,g.get? b=some o->(H' b≠none \/ ∃ o',h1.get? b=some o')->b∉fs->h2.get? b=some o:=fun b o e h n=>st b o (x.cov b o e h n)
 have nfs:∀ b u,H' b=some u->b∉fs:=fun b u e z=>by rw[frees b z] at e;cases e
 refine⟨⟨fun b o e n hb hx=>?_,fun b o e n hb hx=>?_,fun b o e n hx=>x.un.free b o e n hx,fun b o e hx=>?_,x.un.tups,x.un.frzs,x.un.tbls⟩,fun b u e=>?_,fun b o e h n=>?_⟩
 ·exact keep b o (x.un.keep b o e n hb hx) (.inr ⟨o,e⟩) hb
 ·obtain⟨sl,e1⟩:=x.un.slot b o e n hb hx
  obtain⟨sl',e2⟩:=up b hb _ e1
  exact⟨sl',e2⟩
 ·obtain⟨o',e1⟩:=x.un.there b o e hx
  by_cases hb:b∈fs
  ·obtain⟨sl',e2⟩:=up b hb _ e1
   exact⟨_,e2⟩
  ·exact⟨o',keep b o' e1 (.inr ⟨o,e⟩) hb⟩
 ·refine (x.hok b u e).stay (fun c v hc q=>?_) (fun _ q=>q) fun _ _ q=>q
  rcases hc with rfl | hc
  ·exact keep c v q (.inl (by rw[e];simp)) (nfs c u e)
  ·exact keep c v q (.inl (by rw[hc];simp)) (nfs c _ hc)
 ·-- B has it still
  have ⟨o1,e1⟩:∃ o1,g.get? b=some o1:=by
   rcases h with h | ⟨o',h⟩
   ·cases q:H' b with
    | none=>exact absurd q h
    | some u=>exact (x.hok b u q).there
   ·exact x.un.there b o' h (by simp)
  have e2:=x.cov b o1 e1 h n
  have e3:=st b o1 e2
  rw[e] at e3
  cases e3
  exact e2
def CXe (P:Program)(w:World):CXT:=fun outer H s E e s'=>∃ (ea:Addr) (cls a0:Value) (H':Hp) (B:Heap),e=.ref ea/\s'.os=s.os/\AllBare s'.gens/\Fly P w (frs outer) H H' s.heap s'.heap B/\Heap.FlyingW B outer ea cls a0 s'.heap/\E cls none H'
theorem Ow {X:Cx}{pins:α7}{σ:St}{H1 H':Hp}{s1:Shared}{g B:Heap}(I:Inv X pins σ H1 s1)(x:Fly P w (frs X.stack) H1 H' s1.heap g B):∀ b∈frs X.stack,H' b=none:=fun b hb=>by
 obtain⟨_,o,ho,_⟩:=I.stack.mem hb
 exact x.un.free b o ho (I.stkFree b hb) (by simp)
theorem YE {K:α3}{mg:Str->α5}{base:Heap}{N:List Str}{qual:Str}{scope:Scope}{f:Addr}{cd:Value}{A:Around}{outer:List Env}{s:Shared}{H:Hp}{E E':XK}(hE:∀ c d H',E' c d H'->E c d H') :
  Oh (CXe P w) (cxOf (CXe P w) P w K mg base N qual scope f cd A outer s H E) E':=by
 intro pins σ H1 s1 e s' I hc
 obtain⟨ea,cls,a0,H',B,rfl,os,bare,fl,fw,q⟩:=hc
 have fr:(cxOf (CXe P w) P w K mg base N qual scope f cd A outer s H E).A.frames=some (envOfC qual scope s.heap.objs.size f cd::outer):=I.ok.frames
 refine wpAny_leaves_onW fr rfl fw fun h' fw' ups=>?_
 have fl2:=fl.move (Ow I fl) fw'.1 (fun b hb o e=>by
  obtain⟨_,o',ho',nf⟩:=fw.2.2.1.mem hb
  rw[e] at ho';cases ho'
  exact ups b o e nf)
 have I2:Inv (cxOf (CXe P w) P w K mg base N qual scope f cd A outer s H E) pins σ H' {s' with heap:=h' }:=I.call' (s':={s' with heap:=h' }) os fl2.un fl2.hok bare (fun b hb=>by cases hb)
 refine⟨ea,cls,a0,H',B,rfl,I2.os,I2.bare,⟨I2.base,I2.hok,fun b o e h n=>fl2.cov b o e ?_ (fun z=>?_)⟩,fw',hE _ _ _ q⟩
 ·rcases h with h | ⟨o',h⟩
  ·exact .inl h
  ·obtain⟨o2,e2⟩:=I.base.there b o' h (by show b∉([]:List Addr);simp)
   exact .inr ⟨o2,e2⟩
 ·rcases jC_.mp (I.stkSub b z) with e' | e'
  ·rcases h with h | ⟨o',h⟩
   ·exact h (by rw[e'];exact I2.free)
   ·have:=jn_ h
    rw[e'] at this
    exact absurd (jF_ this I.ok.above) (qm_ _)
  ·exact n e'
theorem Ao_ {K:α3}{mg:Str->α5}{base:Heap}{N:List Str}{qual:Str}{scope:Scope}{f:Addr}{cd:Value}{A:Around}{outer:List Env}{s:Shared}{H:Hp}{E:XK}
  {pins:α7} {σ:St} {H1:Hp} {s1:Shared} {h':Heap} {ea:Addr} {cls:Value} {vs:List Value}
  (I:Inv (cxOf (CXe P w) P w K mg base N qual scope f cd A outer s H E) pins σ H1 s1) (hx:Heap.MadeExcOf s1.heap h' ea cls vs) (q:E cls none H1) :
  (cxOf (CXe P w) P w K mg base N qual scope f cd A outer s H E).xe (.ref ea) {s1 with heap:=h' }:=by
 have fr:(cxOf (CXe P w) P w K mg base N qual scope f cd A outer s H E).A.frames=some (envOfC qual scope s.heap.objs.size f cd::outer):=I.ok.frames
 have hin:∀ env∈(envOfC qual scope s.heap.objs.size f cd::outer),∀ b,env.frame=some b->b∈frs (envOfC qual scope s.heap.objs.size f cd::outer):=fun env he b hb=>zR_.mpr ⟨env,he,hb⟩
 have stk:=I.stack
 have fl:Fly P w (frs (envOfC qual scope s.heap.objs.size f cd::outer)) H1 H1 s1.heap s1.heap (PySem.W.hideAll s1.heap (frs (envOfC qual scope s.heap.objs.size f cd::outer))):=⟨Un.refl,I.hok,fun b o e _ n=>PySem.W.hideAll_get _ e n⟩
 refine wpAny_leaves_madeW (base:=PySem.W.hideAll s1.heap (frs (envOfC qual scope s.heap.objs.size f cd::outer))) (h:=s1.heap) fr rfl (fun b o q=>PySem.W.of_hideAll _ q) ?_ hx fun h'' t fw' ht hnt ups=>?_
 ·exact PySem.W.funFrames_hide stk hin
 ·have fl2:=fl.move (Ow (X:=cxOf (CXe P w) P w K mg base N qual scope f cd A outer s H E) I fl) fw'.1 (fun b hb o e=>by
   obtain⟨_,o',ho',nf⟩:=stk.mem hb
   rw[e] at ho';cases ho'
   exact ups b o (hx.keeps b o e) nf)
  have I2:Inv (cxOf (CXe P w) P w K mg base N qual scope f cd A outer s H E) pins σ H1 {s1 with heap:=h'' }:=I.call' (s':={s1 with heap:=h'' }) rfl fl2.un fl2.hok I.bare (fun b hb=>by cases hb)
  refine⟨ea,cls,.ref t,H1,_,rfl,I2.os,I2.bare,⟨I2.base,I2.hok,fun b o e h n=>fl2.cov b o e ?_ (fun z=>?_)⟩,fw',q⟩
  ·rcases h with h | ⟨o',h⟩
   ·exact .inl h
   ·obtain⟨o2,e2⟩:=I.base.there b o' h (by show b∉([]:List Addr);simp)
    exact .inr ⟨o2,e2⟩
  ·rcases jC_.mp (I.stkSub b z) with e' | e'
   ·rcases h with h | ⟨o',h⟩
    ·exact h (by rw[e'];exact I2.free)
    ·have:=jn_ h
     rw[e'] at this
     exact absurd (jF_ this I.ok.above) (qm_ _)
   ·exact n e'
end
theorem YF {K:Frag}{h:Heap}{C:Addr}{bmB:List Value}{newId:String}(X:K.In h)(q:excIn K C bmB newId=true) :
  ∃ bm N nm q bs hdct sn sub ab col dd k0 k1 k2 k3 k5 mN,h.get? C=some (excClassObj nm q C N bs bm hdct sn sub ab col dd k0 k1 k2 k3 k5 newId)/\h.Ns N mN/\mN "__init__" = none/\OwnTail h bmB bm:=by
 unfold excIn at q
 split at q
 ·rename_i dd cd sl ho
  split at q
  ·rename_i C' bm k0 k1 k2 k3 n k5 hm hs
   simp only[qy_,beq_iff_eq,zY_] at q
   obtain⟨⟨⟨⟨⟨rfl,rfl⟩,hdel⟩,ht⟩,hok⟩,hni⟩:=q
   obtain⟨nm,bs,mro,ns,qn,hd,sn,sub,ab,col,del⟩:=cd
   dsimp only at hm hdel hok hni
   subst hm hdel
   have hsl:sl = #[k0,k1,k2,k3,some (.builtin n),k5]:=by
    obtain⟨l⟩:=sl
    simp only at hs
    rw[hs]
   subst hsl
   exact⟨bm,ns,nm,qn,bs,hd,sn,sub,ab,col,dd,k0,k1,k2,k3,k5,_,X _ _ ho,.of_isNs (isNs_of_in X hok),nsMap_none_of_in X hok hni,tail_of_in X ht⟩
  ·cases q
 ·cases q
def bmV:List Value:=[.type "ValueError",.type "Exception",.type "BaseException",.type "object"]
section
variable {P:Program} {w:World} {K:α3} {mg:Str->α5} {base:Heap} {N:List Str} {qual:Str} {scope:Scope} {f:Addr} {cd:Value} {A:Around} {outer:List Env} {s:Shared} {H:Hp} {E:XK}
def Xv (C:Addr)(E:XK)(ta:TA):TS:=fun _ σ H=>ta σ H fun vs H1=>vs.length<=sizeLine/\E (.ref C) none H1
theorem VQ {x:Str}{C:Addr}{newId:String}{np cpos pos:Pos}{e₀:Expr}{rest:List Expr}{ta:TA}(hm:mg x=some (.ref C))(hx:excIn K C bmV newId=true)(hg:Gl (cxOf (CXe P w) P w K mg base N qual scope f cd A outer s H E) x)
  (hn:newId = "ValueError.__new__") (ha:PA (cxOf (CXe P w) P w K mg base N qual scope f cd A outer s H E) (e₀::rest) ta)
  (he:starEach (e₀::rest) (cxOf (CXe P w) P w K mg base N qual scope f cd A outer s H E).env=(false,eval e₀ (cxOf (CXe P w) P w K mg base N qual scope f cd A outer s H E).env)::starEach rest (cxOf (CXe P w) P w K mg base N qual scope f cd A outer s H E).env:=by rfl)
  (hplain:(backTo cpos (starEach rest (cxOf (CXe P w) P w K mg base N qual scope f cd A outer s H E).env)).any (·.1)=false:=by rfl) (hd:(x == ("__debug__" : Str))=false:=by decide) :
  PS (cxOf (CXe P w) P w K mg base N qual scope f cd A outer s H E) (.Raise (some (.Call (.Name x np) (e₀::rest) [] cpos)) none pos) (Xv C E ta):=by
 intro pins s1 σ H1 D I h
 subst hn
 obtain⟨bm,Nc,nm,q,bs,hdct,sn,sub,ab,col,dd,k0,k1,k2,k3,k5,mN,hC,hN,hni,T⟩:=YF I.mod.kin hx
 refine wpAny_Raise_call_subU (C:=C) (nm:=nm) (q:=q) (N:=Nc) (bs:=bs) (bm:=bm) (hdct:=hdct) (sn:=sn) (sub:=sub) (ab:=ab) (col:=col) (dd:=dd) (k0:=k0) (k1:=k1) (k2:=k2) (k3:=k3) (k5:=k5)
  xW_ (bmB:=bmV) (by decide +kernel) xW_ (mN:=mN) (T.hasType xW_.hasBase) (I.ok.hd rfl) (by rw[he];show (false||(backTo cpos (starEach rest _)).any (·.1))=false;rw[hplain];rfl) hni (Tu I hg hm ⟨rfl,?_⟩ hd)
 have hA:=ha cpos pins s1 σ H1 _ I h
 rw[he] at hA ⊢
 refine xZ_ (thn hA fun us s2 ⟨vs,H2,I2,r2,hz,q2⟩=>⟨rfl,by rw[<- r2.length];exact hz,I2.bk _ _ hC,hN.keeps I2.bk,T.keeps I2.bk,fun h' e hm=>Ao_ I2 hm q2⟩)
end
end L2
namespace HT
open PySem PySem.Spec PyProof.Rows
open PySem.AutoSeq1 (wpAny_loadPart')
section
open PySem.SeqAt PySem.MeetsSeq PySem.MeetsSeq2 PySem.MeetsSeq3
theorem tuple_addW0 (l b:Addr)(items items2:Array Value)(n n2:Nat)(dd dd2:Option Addr)(sl sl2:Array (α5))(hc0:items.isEmpty=true) :
  Meets (Builtin.«tuple.__add__» ⟨[.ref l,.ref b],[]⟩) (fun _ R s=>s.heap.get? l=some {cls:=.type "tuple",dict:=dd,data:=.seq items n,slots:=sl}/\s.heap.get? b=some {cls:=.type "tuple",dict:=dd2,data:=.seq items2 n2,slots:=sl2}/\R (.ok (.ret (Value.ref b))) {s with heap:=s.heap,toks:=s.toks}) :=
 .of_wp fun prog w A R s h=>by obtain⟨hp,g,d,tk,os⟩:=s;obtain⟨hl,hb,h⟩:=h;have f1:=zB_;have f2:=AutoSeq1.sub_tuple_tuple;have f3:=AutoSeq1.sub_list_list;have f4:=AutoSeq1.sub_tuple_list;have f5:=AutoSeq1.sub_list_tuple;wp_walk using j1_ hl,j1_ hb;exact⟨_,rfl,h⟩
theorem int_rmul_tup (a:Int)(t:Tok)(l:Addr)(items:Array Value)(n:Nat)(dd:Option Addr)(sl:Array (α5)) :
  Meets (Builtin.«int.__rmul__» ⟨[.int a t,.ref l],[]⟩) (fun _ R s=>s.heap.get? l=some {cls:=.type "tuple",dict:=dd,data:=.seq items n,slots:=sl}/\R (.ok (.ret Value.notImplemented)) s) :=
 .of_wp fun prog w A R s h=>by obtain⟨hp,g,d,tk,os⟩:=s;obtain⟨hl,h⟩:=h;wp_walk using j1_ hl;exact⟨_,rfl,h⟩
theorem noFill_tuple_mul:fillsNumberSlot (.type "tuple") "mul" = pure false:=by
 first | exact fillsNumberSlot_false (by decide +kernel) | (unfold fillsNumberSlot;kernel_rfl) | kernel_rfl
theorem repeat_tuple:seqRepeat? (.type "tuple")=pure (some (.builtin "tuple.__mul__")):=by
 unfold seqRepeat?
 rw[PySem.seqSlot_of (T := "tuple") (name := "__mul__") (id := "tuple.__mul__") zC_.lookup (by decide +kernel),PySem.seqSlot_of (T := "tuple") (name := "__rmul__") (id := "tuple.__rmul__") F.slot_tuple_rmul.lookup (by decide +kernel)]
 rfl
theorem tup_mul_one (l:Addr)(items:Array Value)(n:Nat)(dd:Option Addr)(sl:Array (α5))(u:Tok) :
  Meets (Builtin.«tuple.__mul__» ⟨[.ref l,.int 1 u],[]⟩) (fun _ R s=>s.heap.get? l=some {cls:=.type "tuple",dict:=dd,data:=.seq items n,slots:=sl}/\R (.ok (.ret (Value.ref l))) s) :=
 .of_wp fun prog w A R s h=>by
  obtain⟨hp,g,d,tk,os⟩:=s;obtain⟨hl,h⟩:=h
  have f1:=zB_
  unfold Builtin.«tuple.__mul__»
  wp_walk using j1_ hl
  exact⟨_,rfl,h⟩
theorem tup_mul_none (l:Addr)(items:Array Value)(n:Nat)(dd:Option Addr)(sl:Array (α5))(x:Int)(u:Tok)(h0:¬ items.isEmpty=true)(h1:x<=0)(h2 : -(2 ^ 63)<=x) :
  Meets (Builtin.«tuple.__mul__» ⟨[.ref l,.int x u],[]⟩) (fun _ R s=>s.heap.get? l=some {cls:=.type "tuple",dict:=dd,data:=.seq items n,slots:=sl}/\R (.ok (.ret (Value.ref s.heap.objs.size))) {s with heap:=s.heap.push {cls:=.type "tuple",data:=.seq #[]} }) :=
 .of_wp fun prog w A R s h=>by
  obtain⟨hp,g,d,tk,os⟩:=s;obtain⟨hl,h⟩:=h
  have f1:=zB_
  have c1:(decide (x < -(2 ^ 63:Int))||decide (x >= 2 ^ 63))=false:=by simp;omega
  have c2:(items.isEmpty||x == 1)=false:=by simp at h0 ⊢;exact⟨h0,by omega⟩
  have c3:(decide (x<=0)||items.isEmpty)=true:=by simp[h1]
  unfold Builtin.«tuple.__mul__»
  wp_walk using j1_ hl
  rw[if_neg (by rw[c1];exact jp_)]
  wp_walk using j1_ hl
  rw[if_neg (by rw[c2];exact jp_)]
  rw[if_pos c3]
  wp_walk using j1_ hl
  exact⟨_,rfl,h⟩
theorem tup_mul_many (l:Addr)(items:Array Value)(n:Nat)(dd:Option Addr)(sl:Array (α5))(x:Int)(u:Tok)(h0:¬ items.isEmpty=true)(h1:1<x)(h2:x<2 ^ 63)(h3:items.size*x.toNat<=sizeLine) :
  Meets (Builtin.«tuple.__mul__» ⟨[.ref l,.int x u],[]⟩) (fun _ R s=>s.heap.get? l=some {cls:=.type "tuple",dict:=dd,data:=.seq items n,slots:=sl}/\R (.ok (.ret (Value.ref s.heap.objs.size))) {s with heap:=s.heap.push {cls:=.type "tuple",data:=.seq ((List.replicate x.toNat items).foldl (· ++ ·) #[])} }) :=
 .of_wp fun prog w A R s h=>by
  obtain⟨hp,g,d,tk,os⟩:=s;obtain⟨hl,h⟩:=h
  have f1:=zB_
  have hs:sizeLine=16777216:=sizeLine_eq
  have c1:(decide (x < -(2 ^ 63:Int))||decide (x >= 2 ^ 63))=false:=by simp;omega
  have c2:(items.isEmpty||x == 1)=false:=by simp at h0 ⊢;exact⟨h0,by omega⟩
  have c3:(decide (x<=0)||items.isEmpty)=false:=by simp at h0 ⊢;exact⟨by omega,h0⟩
  obtain⟨k,rfl⟩:∃ k:Nat,x=(k:Int):=⟨x.toNat,by omega⟩
  have c4:¬ ((items.size:Int)*(k:Int) > (2 ^ 63-1) / 8):=by
   rw[jh_] at h3
   have:((items.size*k:Nat):Int)=(items.size:Int)*(k:Int):=by push_cast;rfl
   omega
  have c5:Builtin.Tuple.tupleTooMany ((items.size:Int)*(k:Int))=false:=by
   unfold Builtin.Tuple.tupleTooMany
   rw[jh_] at h3
   have:((items.size*k:Nat):Int)=(items.size:Int)*(k:Int):=by push_cast;rfl
   simp
   omega
  unfold Builtin.«tuple.__mul__»
  wp_walk using j1_ hl
  rw[if_neg (by rw[c1];exact jp_)]
  wp_walk using j1_ hl
  rw[if_neg (by rw[c2];exact jp_)]
  rw[if_neg (by rw[c3];exact jp_),if_neg c4,if_neg (by rw[c5];exact jp_)]
  wp_walk using j1_ hl
  have hz:¬ (List.foldl (fun x1 x2=>x1++x2) #[] (List.replicate ((k:Int)).toNat items)).size > sizeLine:=by
   have:=L2.foldl_rep items.toList k []
   rw[xP_] at this
   have e:items.toList.toArray=items:=by simp
   rw[e] at this
   rw[jh_,this,jj_,L2.len_rep]
   rw[jh_] at h3
   rw[jZ_,Nat.mul_comm]
   omega
  rw[if_neg hz]
  wp_walk using j1_ hl
  exact⟨_,rfl,h⟩
end
end HT
namespace L2
open PySem PySem.Spec PyProof.Rows
section
variable {X:Cx}
def Ug (K:α3):R2:=fun x y H Q=>∃ l k xs,x=.ref l/\y=.int k/\SqT K H l xs/\xs ≠ [] /\ -(2 ^ 63)<=k/\k<2 ^ 63/\xs.length*k.toNat<=sizeLine /\
 (k=1->Q (.ref l) H)/\(k≠1->∀ p,H p=none->Q (.ref p) (upd H p (.tup (List.replicate k.toNat xs).flatten)))
theorem Uh:OpR X (binaryOp .Mult) (Ug X.K):=by
 intro pins s σ H x y v u Q I rx ry h
 obtain⟨l,k,xs,rfl,rfl,hq,hne,h1,h2,hz,q1,q2⟩:=h
 cases rx
 obtain⟨t,rfl⟩:=ry
 obtain⟨its,r,p1,_⟩:=I.tuple hq
 have hlen:=r.length
 have hn':¬ its.toArray.isEmpty=true:=by
  intro z
  have:its=[]:=by simpa using z
  exact hne (r.nil_iff.mp this)
 obtain⟨⟨cls,dd,data,sl⟩,ho,hc,n,hd⟩:=id p1
 simp only at hc hd
 subst hc hd
 refine wpAny_binaryOp_repeat_ref (T := "tuple") (U := "int") (by decide) ⟨_,ho,rfl⟩ (fun s'=>typeIs_int s' k t) HT.noFill_tuple_mul F.fills_int_mul zK_ HT.repeat_tuple F.slot_int_index.lookup
  (xD_ zK_ (typeIs_int s k t) F.entry_int_rmul (F.args_int_rmul_2 _ _) (HT.int_rmul_tup k t l its.toArray n dd sl) ⟨ho,rfl,⟨_,ho,rfl⟩,?_⟩)
 by_cases k1:k=1
 ·subst k1
  exact xD_ zC_ ⟨_,ho,rfl⟩ F.entry_tuple_mul (F.args_tuple_mul_2 _ _) (HT.tup_mul_one l its.toArray n dd sl t) ⟨ho,⟨.ref l,H,I,rfl,q1 rfl⟩⟩
 ·have fin:∀ (ys:List Value),Vals (List.replicate k.toNat xs).flatten ys->EP X pins σ Q (.ref s.heap.objs.size) {s with heap:=s.heap.push {cls:=.type "tuple",data:=.seq ys.toArray} }:=fun ys rv =>
   ⟨.ref s.heap.objs.size,_,I.laid (t':=s.toks) (o:=.tup (List.replicate k.toNat xs).flatten) (fun b ob q=>jf_ _ q) (jl_ _) ⟨by rw[len_rep,Nat.mul_comm];exact hz,_,rv,IsTup.new _ _⟩,rfl,q2 k1 _ (I.hok.fresh (jl_ _))⟩
  by_cases k0:k<=0
  ·refine xD_ zC_ ⟨_,ho,rfl⟩ F.entry_tuple_mul (F.args_tuple_mul_2 _ _) (HT.tup_mul_none l its.toArray n dd sl k t hn' k0 h1) ⟨ho,?_⟩
   exact fin [] (by rw[show k.toNat=0 by omega];exact .nil)
  ·refine xD_ zC_ ⟨_,ho,rfl⟩ F.entry_tuple_mul (F.args_tuple_mul_2 _ _) (HT.tup_mul_many l its.toArray n dd sl k t hn' (by omega) h2 (by rw[jj_,<- hlen];exact hz)) ⟨ho,?_⟩
   have e:=foldl_rep its k.toNat []
   rw[xP_] at e
   have e':List.foldl (fun x1 x2=>x1++x2) #[] (List.replicate k.toNat its.toArray)=(List.replicate k.toNat its).flatten.toArray:=e
   rw[e']
   exact fin _ (r.rep k.toNat)
def GX (K:α3):R2:=fun x y H Q=>∃ a b xs ys,x=.ref a/\y=.ref b/\SqT K H a xs/\SqT K H b ys/\xs.length+ys.length<=sizeLine /\
 (xs=[]->Q (.ref b) H)/\(xs ≠ []->ys=[]->Q (.ref a) H)/\(xs ≠ []->ys ≠ []->∀ p,H p=none->Q (.ref p) (upd H p (.tup (xs++ys))))
theorem GA:OpR X (binaryOp .Add) (GX X.K):=by
 intro pins s σ H x y v u Q I rx ry h
 obtain⟨a,b,xs,ys,rfl,rfl,ha,hb,hz,q0,q1,q2⟩:=h
 by_cases hx:xs=[]
 ·subst hx
  cases rx
  cases ry
  obtain⟨its,r1,p1,_⟩:=I.tuple ha
  obtain⟨its2,r2,p2,_⟩:=I.tuple hb
  have:its=[]:=r1.nil_iff.mpr rfl
  subst this
  obtain⟨⟨cls,dd,data,sl⟩,ho,hc,n,hd⟩:=id p1
  obtain⟨⟨cls2,dd2,data2,sl2⟩,ho2,hc2,n2,hd2⟩:=id p2
  simp only at hc hd hc2 hd2
  subst hc hd hc2 hd2
  exact concat_meets ⟨_,ho,rfl⟩ ⟨_,ho2,rfl⟩ noFill_tuple_add seq_tuple_add zn_ za_ (x7_ _ _)
   (HT.tuple_addW0 a b _ _ n n2 dd dd2 sl sl2 rfl) ⟨ho,ho2,⟨.ref b,H,I,rfl,q0 rfl⟩⟩
 ·exact Yu pins s σ H _ _ v u Q I rx ry ⟨a,b,xs,ys,rfl,rfl,ha,hb,hx,hz,q1 hx,q2 hx⟩
end
theorem L8 {c:TT}{tb:TS}{D:Ends}{σ:St}{H:Hp}(Pv:Nat->St->Hp->Prop)(h0:∃ m,Pv m σ H)
  (hs:∀ m σ H,Pv m σ H->c σ H fun b H1=>if b=true then ∃ N:St->Hp->Prop,(∀ σ' H',N σ' H'->∃ m',m'<m/\Pv m' σ' H')/\tb {D with nx:=N,ct:=N,bk:=D.nx} σ H1 else D.nx σ H1):W9 c tb D σ H:=⟨Pv,h0,hs⟩
theorem Ap_ {K:α3}{H:Hp}{Q:VK}{x:V}{lo hi:Option Int}:rSlT K x lo hi H Q=∃ a xs,x=.ref a/\SqT K H a xs /\
 ¬ (HT.sIx xs.length 0 lo=0/\HT.sIx xs.length xs.length hi=xs.length)/\∀ p,H p=none->Q (.ref p) (upd H p (.tup (cutV xs lo hi))):=rfl
theorem Kb {α:Type}(x:α)(k:Nat):(List.replicate k [x]).flatten=List.replicate k x:=by
 induction k with
 | zero=>rfl
 | succ k ih=>rw[j8_,xC_,ih,j8_];rfl
end L2
namespace GW
def F4 (L:Int):α2->α2
 | []=>[0]
 | x::r=>if x=L-1 then 0::F4 L r else (x+1)::r
def F5 (L:Int)(w:α2):α2:=(F4 L w.reverse).reverse
def De (L:Int):α2->Int
 | []=>0
 | x::r=>De L r*L+x+1
def place (L:Int)(w:α2):Int:=De L w.reverse
def inW (L x:Int):Bool:=decide (0<=x)&&decide (x<L)
def isW (L:Int)(ws:α2):Bool:=ws.all (inW L)
theorem YG {L x:Int}:inW L x=true↔0<=x/\x<L:=by simp[inW]
theorem AT {L:Int}{ws:α2}:isW L ws=true ↔ ∀ x∈ws,0<=x/\x<L:=by simp[isW,YG]
theorem Ox (L:Int)(m:Nat)(r:α2):F4 L (List.replicate m (L-1)++r)=List.replicate m 0++F4 L r:=by
 induction m with
 | zero=>rfl
 | succ m ih=>rw[j8_,x4_,F4,if_pos rfl,ih,j8_,x4_]
theorem Ui (L:Int)(a:α2)(x:Int)(m:Nat)(h:x≠L-1):F5 L (a ++ [x]++List.replicate m (L-1))=a ++ [x+1]++List.replicate m 0:=by
 unfold F5
 rw[qZ_,zo_,qZ_,List.reverse_singleton,Ox]
 show (List.replicate m 0++F4 L (x::a.reverse)).reverse=_
 rw[F4,if_neg h]
 simp
theorem Uj (L:Int)(m:Nat):F5 L (List.replicate m (L-1))=List.replicate (m+1) 0:=by
 unfold F5
 have:=Ox L m []
 rw[qS_] at this
 rw[zo_,this]
 show (List.replicate m (0:Int) ++ [0]).reverse=_
 rw[qZ_,zo_]
 rfl
theorem PU (L:Int)(l:α2):De L (F4 L l)=De L l+1:=by
 induction l with
 | nil=>simp[F4,De]
 | cons x r ih =>
  rw[F4]
  by_cases h:x=L-1
  ·rw[if_pos h,De,ih,De,h,Int.add_mul];omega
  ·rw[if_neg h,De,De];omega
theorem R9 (L:Int)(w:α2):place L (F5 L w)=place L w+1:=by
 unfold place F5
 rw[xu_,PU]
theorem PV {L:Int}(hL:0<L){l:α2}(h:∀ x∈l,0<=x/\x<L):∀ x∈F4 L l,0<=x/\x<L:=by
 induction l with
 | nil=>intro x hx;simp[F4] at hx;subst hx;exact⟨zt_ _,hL⟩
 | cons y r ih =>
  have hy:=h y jo_
  have hr:∀ x∈r,0<=x/\x<L:=fun x hx=>h x (jr_ _ hx)
  intro x hx
  rw[F4] at hx
  by_cases e:y=L-1
  ·rw[if_pos e] at hx
   rcases jC_.mp hx with rfl | hx
   ·exact⟨zt_ _,hL⟩
   ·exact ih hr x hx
  ·rw[if_neg e] at hx
   rcases jC_.mp hx with rfl | hx
   ·omega
   ·exact hr x hx
theorem PX {L:Int}(hL:0<L){w:α2}(h:isW L w=true):isW L (F5 L w)=true:=by
 rw[AT] at h ⊢
 intro x hx
 unfold F5 at hx
 rw[xi_] at hx
 exact PV hL (fun y hy=>h y (xi_.mp hy)) x hx
theorem Oy (L:Int)(l:α2):l.length<=(F4 L l).length/\(F4 L l).length<=l.length+1:=by
 induction l with
 | nil=>simp[F4]
 | cons x r ih =>
  rw[F4]
  by_cases h:x=L-1
  ·rw[if_pos h];simp;omega
  ·rw[if_neg h];simp
theorem Oz (L:Int)(w:α2):w.length<=(F5 L w).length/\(F5 L w).length<=w.length+1:=by
 have:=Oy L w.reverse
 unfold F5
 rw[xJ_] at this
 rw[xJ_]
 exact this
def many (L:Int):Nat->Int
 | 0=>0
 | k+1=>many L k*L+1
theorem G4 {L:Int}(hL:0<L):∀ k,0<=many L k
 | 0=>zt_ _
 | k+1=>by
  have:=Int.mul_nonneg (G4 hL k) (zU_ hL)
  show 0<=many L k*L+1
  omega
theorem HE {L:Int}(hL:0<L):∀ {l:α2},(∀ x∈l,0<=x/\x<L)->many L l.length<=De L l/\De L l<many L (l.length+1)
 | [],_=>by simp[De,many]
 | x::r,h=>by
  have hx:=h x jo_
  obtain⟨h1,h2⟩:=HE hL (l:=r) fun y hy=>h y (jr_ _ hy)
  show many L r.length*L+1<=De L r*L+x+1/\De L r*L+x+1<many L (r.length+1)*L+1
  have a1:=q1_ h1 (zU_ hL)
  have a2:=q1_ (show De L r+1<=many L (r.length+1) by omega) (zU_ hL)
  rw[Int.add_mul] at a2
  omega
theorem OA {L:Int}(hL:0<L){w:α2}(h:isW L w=true):many L w.length<=place L w/\place L w<many L (w.length+1):=by
 have:=HE hL (l:=w.reverse) (fun x hx=>AT.mp h x (xi_.mp hx))
 rw[xJ_] at this
 exact this
theorem OB {L:Int}(hL:0<L){j k:Nat}(h:j<=k):many L j<=many L k:=by
 induction h with
 | refl=>exact zt_ _
 | step _ ih =>
  rename_i m _
  refine Int.le_trans ih ?_
  show many L m<=many L m*L+1
  have:many L m*1<=many L m*L:=Int.mul_le_mul_of_nonneg_left (by omega) (G4 hL m)
  omega
theorem L9 {L:Int}(hL:0<L){w:α2}(h:isW L w=true)(k:Nat):w.length<=k↔place L w<many L (k+1):=by
 obtain⟨h1,h2⟩:=OA hL h
 constructor
 ·intro hk
  exact Int.lt_of_lt_of_le h2 (OB hL (by omega))
 ·intro hp
  refine Nat.le_of_not_lt fun hk=>?_
  have:=OB hL (show k+1<=w.length from hk)
  omega
def nth (L:Int):Nat->α2
 | 0=>[]
 | n+1=>F5 L (nth L n)
theorem HF {L:Int}(hL:0<L):∀ n,isW L (nth L n)=true
 | 0=>rfl
 | n+1=>PX hL (HF hL n)
theorem Kc (L:Int):∀ n:Nat,place L (nth L n)=n
 | 0=>rfl
 | n+1=>by show place L (F5 L (nth L n))=_;rw[R9,Kc L n];push_cast;rfl
theorem Sa {L:Int}(hL:0<L)(n:Nat):(nth L n).length<=n:=by
 induction n with
 | zero=>simp[nth]
 | succ n ih=>have:=(Oz L (nth L n)).2;show (F5 L (nth L n)).length<=n+1;omega
theorem Ij (L:Int)(w:α2)(x:Int):place L (w ++ [x])=place L w*L+x+1:=by
 unfold place
 rw[qZ_];rfl
theorem Rj {L:Int}{w:α2}{k:Nat}(hk:k<=w.length)(h:∀ j,k<=j->j<w.length->w[j]?=some (L-1)):w=w.take k++List.replicate (w.length-k) (L-1):=by
 apply qc_
 intro j
 by_cases hj:j<k
 ·rw[jk_ (by rw[jx_];omega),xA_ hj]
 ·by_cases hl:j<w.length
  ·rw[h j (by omega) hl,jt_ (by rw[jx_];omega),x9_,if_pos (by rw[jx_];omega)]
  ·rw[jA_ (by omega),jA_ (by rw[jq_,jx_,ql_];omega)]
theorem OC {L:Int}{w:α2}{k:Nat}{x:Int}(hk:k<w.length)(h:∀ j,k+1<=j->j<w.length->w[j]?=some (L-1))(hx:w[k]?=some x)(hne:x≠L-1) :
  F5 L w=w.take k ++ [x+1]++List.replicate (w.length-(k+1)) 0:=by
 have e:=Rj (show k+1<=w.length from hk) h
 have e2:w.take (k+1)=w.take k ++ [x]:=by rw[jP_,hx];rfl
 rw[e2] at e
 have:=Ui L (w.take k) x (w.length-(k+1)) hne
 rw[<- e] at this
 exact this
theorem PY {L:Int}{w:α2}(h:∀ j,0<=j->j<w.length->w[j]?=some (L-1)):F5 L w=List.replicate (w.length+1) 0:=by
 have e:=Rj (j0_ _) h
 simp at e
 have:=Uj L w.length
 rw[<- e] at this
 exact this
end GW
namespace L2
open PySem PySem.Spec PyProof.Rows
section
variable {P:Program} {w:World} {K:α3} {mg:Str->α5} {base:Heap}
theorem Fun.okE {x qual:Str}{st:Stmt}{f:Addr}{fd:α6}{N ps:List Str}{k:Nat}{sp:Sp}(F:Fun K x qual st f fd)(S:FnScope N ps (Af st))(len:∀ vs H Q E,sp vs H Q E->vs.length=ps.length)
  (hbody:∀ (cdv:Value) (A:Around) (outer:List Env) (s:Shared) (H:Hp) (vs:List V) (Q:VK) (E:XK),Room k (A.deeper (envOfC qual (Af st) s.heap.objs.size f cdv))->sp vs H Q E ->
   ∃ t,PSs (cxOf (CXe P w) P w K mg base N qual (Af st) f cdv A outer s H E) (Ay st) t/\t {nx:=fun _ H'=>Q .non H',rt:=Q} (start N vs) H):FnOk P w K mg base (CXe P w) (k+1) f fd ps sp:=by
 obtain⟨oc,od,kV,doc,pm,an,cdv,ct,osl,rfl,lk,hcd⟩:=F.ex
 exact Yr lk hcd S len fun A outer s H vs Q E hr hsp=>hbody cdv A outer s H vs Q E hr hsp
theorem Uk {X:Cx}:Oh (CXe P w) X E0:=fun _ _ _ _ _ _ _ h=>by
 obtain⟨_,_,_,_,_,_,_,_,_,_,q⟩:=h
 exact q.elim
end
section
variable {te ta tb:TE} {A:TA} {D:Ends} {σ:St} {H:Hp} {Q:VK} {K:α3} {tbd ts:TS}
theorem Rk {x:V}{vs:List V}:TU x vs H Q=∃ l b xs zs,x=.ref l/\vs=[.ref b]/\H l=some (.lst xs)/\H b=some (.lst zs)/\xs.length+zs.length<=sizeLine/\Q .non (upd H l (.lst (xs++zs))):=rfl
theorem Ul {x:V}{vs:List V}:Xf x vs H Q=∃ l xs,x=.ref l/\vs=[]/\H l=some (.lst xs)/\Q .non (upd H l (.lst [])):=rfl
theorem Aq_ {x y:V}:rCat x y H Q=∃ l b xs zs,x=.ref l/\y=.ref b/\H l=some (.lst xs)/\H b=some (.lst zs)/\xs.length+zs.length<=sizeLine/\∀ p,H p=none->Q (.ref p) (upd H p (.lst (xs++zs))):=rfl
theorem Ar_ {x y:V}:rRep x y H Q=∃ l k xs,x=.ref l/\y=.int k/\H l=some (.lst xs) /\ -(2 ^ 63)<=k/\k<2 ^ 63/\xs.length*k.toNat<=sizeLine/\∀ p,H p=none->Q (.ref p) (upd H p (.lst (List.replicate k.toNat xs).flatten)):=rfl
theorem Um {C:Addr}{E:XK}:Xv C E A D σ H=A σ H fun vs H1=>vs.length<=sizeLine/\E (.ref C) none H1:=rfl
end
end L2
namespace L2
open PySem PySem.Spec PyProof.Rows
theorem iteB {c A B:Prop}[Decidable c](hB:B)(h:c->B->A):if c then A else B:=by
 by_cases hc:c
 ·rw[if_pos hc];exact h hc hB
 ·rw[if_neg hc];exact hB
theorem YH (x y:Int):eqV (.int x) (.int y)=decide (V.int x=V.int y):=by
 by_cases h:x=y
 ·subst h;simp[eqV]
 ·rw[qe_ (fun z=>h (by injection z))];simp[eqV,h]
theorem EqD.ints {K:α3}{H:Hp}{a c:Addr}{xs ys:α2}(hq:(SqL K H a (xs.map V.int)/\SqL K H c (ys.map V.int))\/(SqT K H a (xs.map V.int)/\SqT K H c (ys.map V.int)))(n:Nat):EqD K H (n+1) (.ref a) (.ref c) (decide (xs=ys)):=by
 have:=EqD.flat hq (fun x hx=>by obtain⟨_,_,rfl⟩:=Ez hx;rfl) (fun x hx=>by obtain⟨_,_,rfl⟩:=Ez hx;rfl) (fun x hx y hy=>by obtain⟨_,_,rfl⟩:=Ez hx;obtain⟨_,_,rfl⟩:=Ez hy;exact YH _ _) n
 have e:decide (xs.map V.int=ys.map V.int)=decide (xs=ys):=by
  rw[qn_]
  simp only[qh_]
  constructor
  ·intro h
   exact (zV_ (fun a b h=>by injection h)).mp h
  ·intro h;rw[h]
 rw[e] at this
 exact this
end L2
namespace L2
open PySem PySem.Spec PyProof.Rows
def iSeq (K:α3)(tl:TE):TI:=fun σ H R=>tl σ H fun x H1=>∃ a,x=.ref a/\(((∃ xs,SqL K H1 a xs)/\R (Itl K a) H1)\/((∃ xs,SqT K H1 a xs)/\R (Itt K a) H1))
theorem Xw {K:α3}{te:TE}{σ:St}{H:Hp}{Z:It->Hp->Prop}:iSeq K te σ H Z=te σ H fun x H1=>∃ a,x=.ref a/\(((∃ xs,SqL K H1 a xs)/\Z (Itl K a) H1)\/((∃ xs,SqT K H1 a xs)/\Z (Itt K a) H1)):=rfl
theorem Xx {X:Cx}{tg l:Expr}{tl:TE}(hl:PE X l tl):PI X tg l (iSeq X.K tl):=by
 intro pins s σ H R I h
 refine thn (hl pins s σ H _ I h) fun v s1 ⟨x,H1,I1,r1,q1⟩=>?_
 obtain⟨a,e,q⟩:=q1
 subst e
 cases r1
 rcases q with ⟨⟨xs,hq⟩,q⟩ | ⟨⟨xs,hq⟩,q⟩
 ·obtain⟨its,rv,p,hz⟩:=I1.list hq
  refine zq_ p.isList ?_
  refine⟨s1.heap.objs.size,[s1.heap.objs.size],_,_,H1,rfl,I1.kept (t':=s1.toks) fun b o e=>jf_ _ e,Oe a _,⟨_,jy_ _ rfl,rfl,rfl⟩,fun b hb=>?_,q⟩
  have e:b=s1.heap.objs.size:=by simpa using hb
  subst e
  exact I1.fpOk (jl_ _) (I1.hok.fresh (jl_ _))
 ·obtain⟨its,rv,p,hz⟩:=I1.tuple hq
  refine xk_ (show s1.heap.IsTuple a its.toArray from p) ?_
  refine⟨s1.heap.objs.size,[s1.heap.objs.size],_,_,H1,rfl,I1.kept (t':=s1.toks) fun b o e=>jf_ _ e,L4 a _,⟨_,jy_ _ rfl,rfl,rfl⟩,fun b hb=>?_,q⟩
  have e:b=s1.heap.objs.size:=by simpa using hb
  subst e
  exact I1.fpOk (jl_ _) (I1.hok.fresh (jl_ _))
theorem Xy {X:Cx}{K:α3}{T id:String}{name:Str}{r:V->List V->Hp->VK->Prop}{o e:Expr}{es:List Expr}{to:TE}{t:TA}{apos cpos:Pos}(hK:X.K=K)(pa:PlainAttrs T)(slot:Slot T name id)(hty:typeOf (.builtin id)=pure (.type "method_descriptor"))(hm:MtR X id r)(ho:PE X o to)(ha:PA X (e::es) t)
  (hbase:attributeBase o name X.env (eval o X.env)=eval o X.env:=by rfl)
  (hfew:((backTo cpos (starEach (e::es) X.env)).all (fun x => !x.1)&&(backToKw cpos (keywordEach [] X.env)).all (fun x=>x.1.isSome)
   && decide ((e::es).length+([]:List Keyword).length+(if ([]:List Keyword).isEmpty then 0 else 1)<30))=true:=by rfl)
  (hline:(apos.endLine == cpos.line)=true:=by rfl) (hs:starEach (e::es) X.env=(false,eval e X.env)::starEach es X.env:=by rfl) (hplain:(backTo cpos (starEach es X.env)).any (·.1)=false:=by rfl) :
  PE X (.Call (.Attribute o name apos) (e::es) [] cpos) (tBM K T r to t):=by
 subst hK
 exact E9 pa slot hty hm ho ha hbase hfew hline hs hplain
section
variable {X:Cx} {K:α3}
theorem CO (h:X.K=K):IxR X (rIxT K):=by subst h;exact AG
theorem CN (h:X.K=K):IxR X (rIxL K):=by subst h;exact Bz
end
end L2
namespace GW
def Bm (ways:α1)(r x:Int):Int:=(ways.getD r.toNat []).getD x.toNat 0
def AL (ways:α1)(ws:α2):Int:=ws.foldl (Bm ways) 0
def Ma (ways:α1)(ws:α2):α2:=(List.range (ws.length+1)).map fun j=>AL ways (ws.take j)
structure Wf (L:Int)(marks:α2)(ways:α1):Prop where
 l1:1<=L
 l6:L<=6
 n1:1<=marks.length
 n40:marks.length<=40
 len:ways.length=marks.length
 rows:∀ row∈ways,(row.length:Int)=L/\∀ x∈row,0<=x/\x<marks.length
 mks:∀ m∈marks,0<=m/\m<=1000000000
theorem BM {ways:α1}{r x:Int}{row:α2}{g:Int}(h1:ways[r.toNat]?=some row)(h2:row[x.toNat]?=some g):Bm ways r x=g:=by
 unfold Bm
 have e:ways.getD r.toNat []=row:=by rw[jd_,h1];rfl
 rw[e,jd_,h2];rfl
theorem Wf.row {L:Int}{marks:α2}{ways:α1}(wf:Wf L marks ways){r:Int}(h0:0<=r)(h1:r<marks.length):∃ row,ways[r.toNat]?=some row/\row∈ways/\(row.length:Int)=L:=by
 have hlt:r.toNat<ways.length:=by rw[wf.len];omega
 exact⟨ways[r.toNat],by simp[hlt],j4_ hlt,(wf.rows _ (j4_ hlt)).1⟩
theorem Wf.step {L:Int}{marks:α2}{ways:α1}(wf:Wf L marks ways){r x:Int}(h0:0<=r)(h1:r<marks.length)(x0:0<=x)(x1:x<L):∃ row g,ways[r.toNat]?=some row/\row[x.toNat]?=some g/\Bm ways r x=g/\0<=g/\g<marks.length:=by
 obtain⟨row,hr,hm,hl⟩:=wf.row h0 h1
 have hlt:x.toNat<row.length:=by omega
 have hg:row[x.toNat]?=some row[x.toNat]:=by simp[hlt]
 exact⟨row,row[x.toNat],hr,hg,BM hr hg,(wf.rows row hm).2 _ (j4_ hlt)⟩
theorem EU (ways:α1)(ws:α2)(x:Int):AL ways (ws ++ [x])=Bm ways (AL ways ws) x:=by
 unfold AL
 rw[qp_];rfl
theorem Mb {ways:α1}{ws:α2}{i:Nat}{x:Int}(h:ws[i]?=some x):AL ways (ws.take (i+1))=Bm ways (AL ways (ws.take i)) x:=by
 rw[jP_,h]
 exact EU _ _ _
theorem Wf.walk {L:Int}{marks:α2}{ways:α1}(wf:Wf L marks ways){ws:α2}(hw:isW L ws=true):∀ i,0<=AL ways (ws.take i)/\AL ways (ws.take i)<marks.length:=by
 intro i
 induction i with
 | zero=>have:=wf.n1;simp[AL];omega
 | succ i ih =>
  cases e:ws[i]? with
  | none =>
   have hle:=xp_.mp e
   rw[jX_ (by omega)]
   rw[jX_ hle] at ih
   exact ih
  | some x =>
   rw[Mb e]
   have hx:=AT.mp hw x (jg_ e)
   obtain⟨_,g,_,_,h,h0,h1⟩:=wf.step ih.1 ih.2 hx.1 hx.2
   rw[h];exact⟨h0,h1⟩
theorem MF (ways:α1)(ws:α2):(Ma ways ws).length=ws.length+1:=by simp[Ma]
theorem Sb {ways:α1}{ws:α2}{i:Nat}(h:i<=ws.length):(Ma ways ws)[i]?=some (AL ways (ws.take i)):=by
 unfold Ma
 rw[je_,qu_ (by omega)];rfl
theorem PZ (ways:α1)(ws:α2):(Ma ways ws)[ws.length]?=some (AL ways ws):=by
 rw[Sb (jl_ _),jU_]
end GW
namespace L2
open PySem PySem.Spec PyProof.Rows GW
def Rows (K:α3)(H:Hp)(w:Addr)(ways:α1):Prop:=∃ ts:List Addr,SqT K H w (ts.map V.ref)/\ts.length=ways.length/\∀ (i:Nat) (t:Addr) (row:α2),ts[i]?=some t->ways[i]?=some row->SqT K H t (row.map V.int)
def BB (K:α3)(H:Hp)(h:Addr)(L:Int)(marks:α2)(ways:α1):Prop:=∃ m w:Addr,SqT K H h [.int L,.ref m,.ref w]/\SqT K H m (marks.map V.int)/\Rows K H w ways
theorem Rows.mono {K:α3}{H H':Hp}{w:Addr}{ways:α1}(h:Rows K H w ways)(e:Same H H'):Rows K H' w ways:=by
 obtain⟨ts,h1,h2,h3⟩:=h
 exact⟨ts,e.seqT h1,h2,fun i t r a b=>e.seqT (h3 i t r a b)⟩
theorem BB.mono {K:α3}{H H':Hp}{h:Addr}{L:Int}{marks:α2}{ways:α1}(x:BB K H h L marks ways)(e:Same H H'):BB K H' h L marks ways:=by
 obtain⟨m,w,h1,h2,h3⟩:=x
 exact⟨m,w,e.seqT h1,e.seqT h2,h3.mono e⟩
theorem Rows.at {K:α3}{H:Hp}{w:Addr}{ways:α1}(h:Rows K H w ways){i:Nat}{row:α2}(hr:ways[i]?=some row):∃ xs t,SqT K H w xs/\atI xs (i:Int)=some (V.ref t)/\SqT K H t (row.map V.int):=by
 obtain⟨ts,h1,h2,h3⟩:=h
 have hlt:i<ts.length:=by rw[h2];exact (jc_.mp hr).1
 have ht:ts[i]?=some ts[i]:=by simp[hlt]
 exact⟨_,ts[i],h1,F0 (by rw[je_,ht];rfl),h3 i _ _ ht hr⟩
theorem Rows.atZ {K:α3}{H:Hp}{w:Addr}{ways:α1}(h:Rows K H w ways){r:Int}{row:α2}(h0:0<=r)(hr:ways[r.toNat]?=some row):∃ xs t,SqT K H w xs/\atI xs r=some (V.ref t)/\SqT K H t (row.map V.int):=by
 obtain⟨xs,t,a,b,c⟩:=h.at hr
 exact⟨xs,t,a,by rw[<- b];congr 1;omega,c⟩
theorem Uo {α:Type}{xs:List α}{v:α}(h:xs[xs.length-1]?=some v):atI xs (-1)=some v:=by
 have hlt:=(jc_.mp h).1
 unfold atI ixN
 rw[if_neg (by omega),if_pos (by omega)]
 show xs[(-1+(xs.length:Int)).toNat]?=some v
 rw[show (-1+(xs.length:Int)).toNat=xs.length-1 by omega]
 exact h
theorem CH {ns:α2}{i:Int}{v:Int}(h0:0<=i)(h:ns[i.toNat]?=some v):atI (ns.map V.int) i=some (V.int v):=D9 h0 (by rw[je_,h];rfl)
theorem MG {K:α3}{H:Hp}{p t:Addr}{xs ys zs:List V}(hp:H p=some (.lst zs))(h:SqT K H t xs):SqT K (upd H p (.lst ys)) t xs:=by
 rcases h with (q | ⟨o,q⟩) | q
 ·refine .inl (.inl ?_)
  rw[Ah (fun z=>by rw[z,hp] at q;cases q)];exact q
 ·refine .inl (.inr ⟨o,?_⟩)
  rw[Ah (fun z=>by rw[z,hp] at q;cases q)];exact q
 ·exact .inr q
def DW (K:α3)(H:Hp)(l:Addr)(ws:α1):Prop:=∃ ts:List Addr,H l=some (.lst (ts.map V.ref))/\ts.length=ws.length/\∀ (i:Nat) (t:Addr) (w:α2),ts[i]?=some t->ws[i]?=some w->SqT K H t (w.map V.int)
theorem DW.mono {K:α3}{H H':Hp}{l:Addr}{ws:α1}(h:DW K H l ws)(e:Same H H'):DW K H' l ws:=by
 obtain⟨ts,h1,h2,h3⟩:=h
 exact⟨ts,e _ _ h1,h2,fun i t w a b=>e.seqT (h3 i t w a b)⟩
theorem DW.off {K:α3}{H:Hp}{l p:Addr}{ws:α1}{zs ys:List V}(h:DW K H l ws)(hp:H p=some (.lst zs))(ne:l≠p):DW K (upd H p (.lst ys)) l ws:=by
 obtain⟨ts,h1,h2,h3⟩:=h
 exact⟨ts,by rw[Ah ne];exact h1,h2,fun i t w a b=>MG hp (h3 i t w a b)⟩
theorem DW.push {K:α3}{H:Hp}{l t:Addr}{ws:α1}{w:α2}(h:DW K H l ws)(hw:SqT K H t (w.map V.int)):∃ xs,H l=some (.lst xs)/\xs.length=ws.length/\DW K (upd H l (.lst (xs ++ [V.ref t]))) l (ws ++ [w]):=by
 obtain⟨ts,h1,h2,h3⟩:=h
 refine⟨ts.map V.ref,h1,by rw[ja_,h2],ts ++ [t],by rw[Ab,jR_];rfl,by simp[h2],fun i t' w' a b=>MG h1 ?_⟩
 by_cases hi:i<ts.length
 ·rw[jk_ hi] at a
  rw[jk_ (by omega)] at b
  exact h3 i t' w' a b
 ·have ht:=(jc_.mp a).1
  rw[jq_,j3_] at ht
  have e:i=ts.length:=by omega
  subst e
  rw[jt_ (jl_ _),q2_] at a
  rw[jt_ (by omega),h2,q2_] at b
  simp at a b
  subst a b
  exact hw
theorem DW.nil {K:α3}{H:Hp}{l:Addr}(h:H l=some (.lst [])):DW K H l []:=⟨[],h,rfl,fun i t w a _=>by simp at a⟩
theorem DW.rows {K:α3}{H:Hp}{l:Addr}{ws:α1}(h:DW K H l ws):∃ xs,H l=some (.lst xs)/\∀ t,H t=none->Rows K (upd H t (.tup xs)) t ws:=by
 obtain⟨ts,h1,h2,h3⟩:=h
 exact⟨_,h1,fun t ht=>⟨ts,SqT.of Ab,h2,fun i t' w a b=>(Same.new ht).seqT (h3 i t' w a b)⟩⟩
end L2
namespace PySem
open Sem (wp)
open AutoSeq1 (wpAny_loadPart')
section
variable {prog:Program} {w:World} {A:Around} {E:Value->Shared->Prop} {s:Shared}
theorem Ik {it l:Addr}{i:Nat}{items}{x:Value}{Q:Value->Shared->Prop}(hit:s.heap.IsTupleIter it l i)
  (hl:s.heap.IsTuple l items) (hx:items[i]?=some x)
  (hQ:∀ h',h'.IsTupleIter it l (i+1)->Heap.SameBut it s.heap h'->Q x {s with heap:=h' }) :
  wpAny (model prog w) A (Builtin.SmallTypes.nextOf (.ref it)) Q E s:=by
 obtain⟨o,ho,hc,hd⟩:=id hit
 obtain⟨ol,hol,_,nl,hdl⟩:=hl
 unfold Builtin.SmallTypes.nextOf
 refine jb_ (j2_ (name:=Str.ofString "__next__") hit.typeIs xg_
  (qo_ xg_ hit.typeIs F.entry_tuple_iterator_next ?_ (F.args_tuple_iterator_next_1 _)))
 show wpAny _ _ (field (.ref it) 0 >>= _) _ _ s
 refine jb_ (j5_ ho hd (x:=.ref l) rfl ?_)
 show wpAny _ _ (if (Value.ref l == Value.none)=true then _ else _) _ _ s
 rw[if_neg (show ¬ ((Value.ref l == Value.none)=true) from jp_)]
 show wpAny _ _ (field (.ref it) 1 >>= _) _ _ s
 refine jb_ (j5_ ho hd (x:=.int i 0) rfl ?_)
 show wpAny _ _ (seqItems? (.ref l) >>= _) _ _ s
 refine jb_ (qz_ hol hdl ?_)
 simp only[jh_,hx]
 refine jb_ (x2_ ho hd (by simp) (jm_ ⟨x,rfl,jm_ (hQ _ ?_ (xd_ ..))⟩))
 exact⟨_,qt_ _ ho (zx_ (xn_ hd _)),(Obj.cls_mapFields ..).trans hc,by
  rw[xn_ hd];simp[rawInt]⟩
theorem Jh {it l:Addr}{i:Nat}{items}{Q:Value->Shared->Prop}(hh:A.handled=none)
  (hit:s.heap.IsTupleIter it l i) (hl:s.heap.IsTuple l items) (hx:items[i]?=none)
  (hE:∀ h' e,Heap.ExtBut it s.heap h'->(∃ o,h'.get? e=some o/\o.cls=.type "StopIteration")->E (.ref e) {s with heap:=h' }) :
  wpAny (model prog w) A (Builtin.SmallTypes.nextOf (.ref it)) Q E s:=by
 obtain⟨o,ho,hc,hd⟩:=id hit
 obtain⟨ol,hol,_,nl,hdl⟩:=hl
 unfold Builtin.SmallTypes.nextOf
 refine jb_ (j2_ (name:=Str.ofString "__next__") hit.typeIs xg_
  (qo_ xg_ hit.typeIs F.entry_tuple_iterator_next ?_ (F.args_tuple_iterator_next_1 _)))
 show wpAny _ _ (field (.ref it) 0 >>= _) _ _ s
 refine jb_ (j5_ ho hd (x:=.ref l) rfl ?_)
 show wpAny _ _ (if (Value.ref l == Value.none)=true then _ else _) _ _ s
 rw[if_neg (show ¬ ((Value.ref l == Value.none)=true) from jp_)]
 show wpAny _ _ (field (.ref it) 1 >>= _) _ _ s
 refine jb_ (j5_ ho hd (x:=.int i 0) rfl ?_)
 show wpAny _ _ (seqItems? (.ref l) >>= _) _ _ s
 refine jb_ (qz_ hol hdl ?_)
 simp only[jh_,hx]
 refine jb_ (zF_ (jb_ (x2_ ho hd (by simp) ?_)))
 show wpAny _ _ (newExc (.type "StopIteration") [] >>= _) _ _ _
 refine jb_ ?_
 simp only[newExc,newTuple]
 refine jb_ (qg_ ?_ (by size_fits))
 refine jb_ (m:=firstArgMember _ _) (wpAny_of_eq (a:=Value.none) (by first | rfl | (simp only[firstArgMember];rfl)) ?_)
 refine qg_ ?_ (by size_fits)
 simp only[raiseNew]
 refine jb_ (wpAny_handled ?_)
 first | rw[show A.in1.handled=none from hh] | rw[hh]
 refine jb_ (jm_ (wpAny_throw ?_))
 exact hE _ _ (((xd_ ..).extBut.push _).push _) ⟨_,jy_ _ rfl,rfl⟩
theorem Draws.tuple (hh:A.handled=none)(it l:Addr)(hne:l≠it)(items:Array Value) :
  Draws prog w A it [it,l] items.size (fun i v=>items[i]?=some v) (fun i h=>h.IsTupleIter it l i/\h.IsTuple l items) where
 live:=fun _ _ st=>let ⟨o,ho,_⟩:=st.1;⟨o,ho⟩
 frame:=fun _ _ _ st hk=>⟨st.1.at fun o e=>hk it (by simp) o e,by
  obtain⟨o,ho,r⟩:=st.2
  exact⟨o,hk l (by simp) o ho,r⟩⟩
 item:=fun i s Q E hi st hQ=>by
  refine Ik st.1 st.2 (x:=items[i]) (by simp[hi]) fun h' hit' hs'=>?_
  exact hQ _ h' s.toks (by simp[hi]) ⟨hit',st.2.extBut hs'.extBut hne⟩ hs'
 done:=fun s Q E st hE=>Jh hh st.1 st.2 (by simp) hE
theorem GI (l:Addr)(items:Array Value)(n:Nat)(dct:Option Addr)(sl:Array (α5)) :
  Meets (Builtin.«enumerate.__new__» ⟨[.type "enumerate",.ref l],[]⟩) (fun _ R s=>s.heap.get? l=some {cls:=.type "tuple",dict:=dct,data:=.seq items n,slots:=sl} /\
   R (.ok (.ret (.ref (s.heap.push {cls:=.type "tuple_iterator",data:=.fields #[.ref l,.int 0 0]}).objs.size)))
    {s with heap:=(s.heap.push {cls:=.type "tuple_iterator",data:=.fields #[.ref l,.int 0 0]}).push {cls:=.type "enumerate",data:=.fields #[.none,.bool false,.ref s.heap.objs.size,rawInt 0,.none,.none]} }) :=
 .of_wp fun prog w A R s h=>by
  obtain⟨hp,g,d,tk,os⟩:=s;obtain⟨hl,h⟩:=h
  have hsub:=sub_enumerate
  have hL:Heap.IsTuple (Shared.heap ⟨hp,g,d,tk,os⟩) l items:=⟨_,hl,rfl,n,rfl⟩
  wp_walk using j1_ hl
  refine wpAny_stack_any fun st=>jm_ ?_
  split
  ·rename_i c _ _ _ _ _
   cases (c == Value.type "enumerate")
   ·wp_walk using j1_ hl,xk_ hL
    exact⟨_,rfl,h⟩
   ·wp_walk using j1_ hl,xk_ hL
    exact⟨_,rfl,h⟩
  ·wp_walk using j1_ hl,xk_ hL
   exact⟨_,rfl,h⟩
theorem GJ {l:Addr}{items:Array Value}{Q:Value->Shared->Prop}(hL:s.heap.IsTuple l items)
  (h:∀ h',IsEnum h' (s.heap.objs.size+1) s.heap.objs.size 0 .none->h'.IsTupleIter s.heap.objs.size l 0->h'.objs.size=s.heap.objs.size+2 ->
   (∀ b o,s.heap.get? b=some o->h'.get? b=some o)->Q (.ref (s.heap.objs.size+1)) {s with heap:=h' }) :
  wpAny (model prog w) A (call (.type "enumerate") [.ref l]) Q E s:=by
 obtain⟨⟨c,dct,dt,sl⟩,hl,hc,n,hd⟩:=hL
 replace hc:c=.type "tuple" := hc
 replace hd:dt=.seq items n:=hd
 subst hc hd
 refine callType_new F.called_enumerate (by decide) (F.typeCall_enumerate_1 _) (F.newCall_enumerate_1 _) (fun obj=>F.args_object_init_2 obj _) F.entry_enumerate_new
  (GI l items n dct sl) ⟨hl,?_⟩
 have hz:(s.heap.push {cls:=.type "tuple_iterator",data:=.fields #[.ref l,.int 0 0]}).objs.size=s.heap.objs.size+1:=qH_ ..
 show _/\_
 rw[hz]
 have he:IsEnum ((s.heap.push {cls:=.type "tuple_iterator",data:=.fields #[.ref l,.int 0 0]}).push
   {cls:=.type "enumerate",data:=.fields #[.none,.bool false,.ref s.heap.objs.size,rawInt 0,.none,.none]}) (s.heap.objs.size+1) s.heap.objs.size 0 .none:=by
  have:=jy_ (s.heap.push {cls:=.type "tuple_iterator",data:=.fields #[.ref l,.int 0 0]})
   (o:={cls:=.type "enumerate",data:=.fields #[.none,.bool false,.ref s.heap.objs.size,rawInt 0,.none,.none]}) rfl
  rw[hz] at this;exact this
 refine⟨⟨_,he,rfl⟩,h _ he ⟨_,jf_ _ (jy_ _ rfl),rfl,rfl⟩ (by rw[qH_,hz]) fun b o x=>jf_ _ (jf_ _ x)⟩
end
end PySem
namespace L2
open PySem PySem.Spec PyProof.Rows
section
variable {X:Cx} {pins:α7} {σ:St} {H:Hp} {s:Shared}
theorem Inv.un2 {h':Heap}{e it:Addr}(I:Inv X pins σ H s)(k:∀ b o,b≠e->b≠it->s.heap.get? b=some o->h'.get? b=some o)(f1:FpOk X pins H e)(f2:FpOk X pins H it):Un (frs X.stack) [e,it] H H s.heap h'/\HOk X.prog X.w H h':=by
 have ne:∀ b u,H b=some u->b≠e/\b≠it:=fun b u q=>⟨(fun z=>by rw[z,f1.1] at q;cases q),(fun z=>by rw[z,f2.1] at q;cases q)⟩
 have nch:∀ {b:Addr},b ∉ [e,it]->b≠e/\b≠it:=fun hb=>by simpa using hb
 refine⟨⟨fun b o q _ _ hb=>k b o (nch hb).1 (nch hb).2 q,fun b o q _ _ hb=>⟨o.slots,k b o (nch hb).1 (nch hb).2 q⟩,fun _ _ _ n _=>n,fun b o q hb=>⟨o,k b o (nch hb).1 (nch hb).2 q⟩,fun _ _ q=>q,fun _ _ _ q=>q,fun b ps q=>⟨#[],by rw[q];simp⟩⟩,fun b u q=>?_⟩
 refine (I.hok b u q).stay (fun c v hc qv=>?_) (fun _ q=>q) fun _ _ q=>q
 have hne:c≠e/\c≠it:=by
  rcases hc with rfl | hc
  ·exact ne _ _ q
  ·exact ne _ _ hc
 exact k c v hne.1 hne.2 qv
theorem FpOk.ch {b:Addr}(f:FpOk X pins H b):(b∈X.ex\/X.s₀.heap.objs.size<=b)/\b≠X.env.locals/\(∀ x c,X.env.cells.lookup x=some c->c≠b)/\∀ p∈X.pn++pins,p.1≠b:=⟨f.2.2.2.1,f.2.1,f.2.2.2.2.1,f.2.2.2.2.2⟩
end
def Itn (K:α3)(a:Addr)(xs:List V):It:=⟨fun i H=>i<xs.length/\SqT K H a xs,fun i H x H'=>∃ t v,H t=none/\xs[i]?=some v/\x=.ref t/\H'=upd H t (.tup [.int i,v]),fun i H=>i=xs.length/\SqT K H a xs⟩
theorem Sc {P:Program}{w:World}{K:α3}{elts:List Expr}{x1}{tpos:Pos}(a e it:Addr)(hei:e≠it)(hai:a≠it)(hae:a≠e)(xs:List V):Turn P w K (.Tuple elts x1 tpos) (Itn K a xs) [e,it] e (fun i h=>∃ old,IsEnum h e it (i:Nat) old/\h.IsTupleIter it a i) where
 mem:=by simp
 obj:=fun i h st b hb=>by
  obtain⟨old,h1,o,h2,c,d⟩:=st
  rcases jC_.mp hb with rfl | hb
  ·exact⟨_,h1,fun v z=>by cases z⟩
  ·rw[ju_.mp hb]
   exact⟨o,h2,fun v z=>by rw[d] at z;cases z⟩
 keep:=fun i h h' st k=>by
  obtain⟨old,h1,h2⟩:=st
  exact⟨old,k e (by simp) _ h1,h2.at fun o q=>k it (by simp) o q⟩
 item:=by
  intro X hP hw hK hc i pins s σ H E I hf st hg
  subst hP hw hK
  obtain⟨hi,hq⟩:=hg
  obtain⟨old,he,hit⟩:=st
  obtain⟨its,rv,p,hz⟩:=I.tuple hq
  have hl:=rv.length
  have pt:s.heap.IsTuple a its.toArray:=p
  have f1:=hf e (by simp)
  have f2:=hf it (by simp)
  have Dw:=Draws.tuple (prog:=X.prog) (w:=X.w) (A:=X.A.in1) (I.ok.hd hc) it a hai its.toArray
  refine wpAny_pyNext_enum_itemD Dw he ⟨hit,pt⟩ (by simp;omega) hei (by simp[hei,j6_ hae]) fun u h' tk hu heo hst' hget hsz hk=>?_
  have hT:s.heap.objs.size≠e:=qa_ (jn_ he)
  refine⟨_,rfl,wpAny_letOwnedTupleGo_enum heo fun h2 he2 hs2=>?_⟩
  have hk2:∀ b o,b≠e->b≠it->s.heap.get? b=some o->h2.get? b=some o:=fun b o h1 h3 q=>(hs2.2 b h1).trans (hk b o h1 h3 q)
  obtain⟨un,hok⟩:=I.un2 hk2 f1 f2
  have hn:H s.heap.objs.size=none:=I.hok.fresh (jl_ _)
  have hv:xs[i]?=some xs[i]:=by simp[hi]
  obtain⟨u',hu',ru⟩:=rv.get hv
  have eu:u'=u:=by
   have hu2:its[i]?=some u:=by simpa using hu
   rw[hu'] at hu2
   exact js_ hu2
  subst eu
  have hget2:h2.get? s.heap.objs.size=some {cls:=.type "tuple",data:=.seq #[.int i tk,u']}:=(hs2.2 _ hT).trans hget
  have new:CF X.prog X.w (upd H s.heap.objs.size (.tup [.int i,xs[i]])) h2 s.heap.objs.size (.tup [.int i,xs[i]]):=⟨by have:=AB;simp;omega,[.int i tk,u'],.cons ⟨tk,rfl⟩ (.cons ru .nil),_,hget2,rfl,_,rfl⟩
  refine⟨.ref s.heap.objs.size,upd H s.heap.objs.size (.tup [.int i,xs[i]]),I.call' (s':={s with heap:=h2,toks:=tk+1}) (ch:=[e,it]) rfl (un.track (jl_ _) hn) (hok.track hn new) I.bare (fun b hb=>?_),rfl,⟨_,_,hn,hv,rfl,rfl⟩,?_,fun b hb=>?_⟩
  ·exact (hf b hb).ch
  ·refine⟨u',by simpa using he2,?_⟩
   exact hst'.1.at fun o q=>(hs2.2 it (j6_ hei)).trans q
  ·have hb':=hf b hb
   have:∃ o,s.heap.get? b=some o:=by
    rcases jC_.mp hb with rfl | hb
    ·exact⟨_,he⟩
    ·rw[ju_.mp hb]
     obtain⟨o,ho,_⟩:=hit
     exact⟨o,ho⟩
   obtain⟨o,ho⟩:=this
   rw[Ah (jM_ (jn_ ho))]
   exact hb'.1
 done:=by
  intro X hP hw hK hc i pins s σ H E I hf st hg
  subst hP hw hK
  obtain⟨hi,hq⟩:=hg
  subst hi
  obtain⟨old,he,hit⟩:=st
  obtain⟨its,rv,p,hz⟩:=I.tuple hq
  have hl:=rv.length
  have pt:s.heap.IsTuple a its.toArray:=p
  have Dw:=Draws.tuple (prog:=X.prog) (w:=X.w) (A:=X.A.in1) (I.ok.hd hc) it a hai its.toArray
  obtain⟨f0,f1,f2,f3,f4,f5⟩:=hf it (by simp)
  refine wpAny_pyNext_enum_endD Dw he ⟨by rw[jj_,<- hl];exact hit,pt⟩ fun h' eb=>⟨rfl,I.turned (t':=s.toks) (fun b o hb e=>eb b o hb e) f0 f1 f3 f4 f5⟩
 self:=fun A i s Q E st h=>by
  obtain⟨old,he,_⟩:=st
  exact wpAny_pyIter_enum he h
def Xz (K:α3)(tl:TE):TI:=fun σ H R=>tl σ H fun x H1=>∃ a xs,x=.ref a/\SqT K H1 a xs/\R (Itn K a xs) H1
theorem Rl {K:α3}{te:TE}{σ:St}{H:Hp}{Z:It->Hp->Prop}:Xz K te σ H Z=te σ H fun x H1=>∃ a xs,x=.ref a/\SqT K H1 a xs/\Z (Itn K a xs) H1:=rfl
theorem XA {K:α3}{n:Nat}{t:TGs}{v:V}{σ:St}{H:Hp}{N:St->Hp->Prop}:gTup K n t v σ H N=∃ a xs,v=.ref a/\SqT K H a xs/\xs.length=n/\t xs σ H N:=rfl
theorem Up {t:TG}{u:TGs}{vs:List V}{σ:St}{H:Hp}{N:St->Hp->Prop}:ZL t u vs σ H N=∃ v r,vs=v::r/\t v σ H fun σ' H'=>u r σ' H' N:=rfl
theorem XB {vs:List V}{σ:St}{H:Hp}{N:St->Hp->Prop}:gNil vs σ H N=(vs=[]/\N σ H):=rfl
theorem VR {X:Cx}{elts:List Expr}{x1}{tpos:Pos}{e:Expr}{te:TE}{p pos:Pos}(hg:Gl X "enumerate")(hm:X.mg "enumerate" = none)(he:PE X e te)(hs:starEach [e] X.env=[(false,eval e X.env)]:=by rfl):PI X (.Tuple elts x1 tpos) (.Call (.Name "enumerate" p) [e] [] pos) (Xz X.K te):=by
 intro pins s σ H R I h
 refine Call_ (GV I hg hm boot_enumerate (j7_ (thn (Aa he Ad hs pos pins s σ H (fun vs H1=>∃ a xs,vs=[.ref a]/\SqT X.K H1 a xs/\R (Itn X.K a xs) H1) I ?_) fun us s1 ⟨vs,H1,I1,r1,q1⟩=>?_) hs rfl))
 ·show te σ H _
  have:(fun x H1=>∃ a xs,x=V.ref a/\SqT X.K H1 a xs/\R (Itn X.K a xs) H1)=(fun x H1=>tNil σ H1 fun xs H2=>∃ a ys,x::xs=[V.ref a]/\SqT X.K H2 a ys/\R (Itn X.K a ys) H2):=by
   funext x H1
   simp[tNil]
  rw[<- this]
  exact h
 ·obtain⟨a,xs,rfl,hq,q⟩:=q1
  cases r1 with
  | cons r rr =>
   cases rr
   cases r
   obtain⟨its,rv,p,hz⟩:=I1.tuple hq
   have pt:s1.heap.IsTuple a its.toArray:=p
   obtain⟨oa,hoa,_⟩:=id pt
   have ha:=jn_ hoa
   refine GJ pt fun h' he' hit' hsz hk=>?_
   refine wpAny_pyIter_enum (s:={s1 with heap:=h' }) he' ?_
   have I2:Inv X pins σ H1 {s1 with heap:=h' }:=I1.kept (t':=s1.toks) hk
   refine⟨s1.heap.objs.size+1,[s1.heap.objs.size+1,s1.heap.objs.size],_,_,H1,rfl,I2,Sc a (s1.heap.objs.size+1) s1.heap.objs.size (Nat.succ_ne_self _) (jM_ ha) (jM_ (zs_ ha)) xs,⟨_,he',hit'⟩,fun b hb=>?_,q⟩
   have hle:s1.heap.objs.size<=b:=by
    rcases jC_.mp hb with rfl | hb
    ·omega
    ·rw[ju_.mp hb];exact jl_ _
   exact I1.fpOk hle (I1.hok.fresh hle)
theorem forN {K:α3}{a:Addr}{xs:List V}{g:TG}{tb:TS}{D:Ends}{σ:St}{H:Hp}(Pv:Nat->St->Hp->Prop)(h0:Pv 0 σ H)(hl:∀ i σ H,i<=xs.length->Pv i σ H->SqT K H a xs)
  (hs:∀ i v σ H t,xs[i]?=some v->Pv i σ H->H t=none->g (.ref t) σ (upd H t (.tup [.int i,v])) fun σ2 H2=>tb {D with nx:=Pv (i+1),ct:=Pv (i+1),bk:=D.nx} σ2 H2) (hd:∀ σ H,Pv xs.length σ H->D.nx σ H):ForW (Itn K a xs) g tb D σ H:=by
 refine⟨fun i m σ H=>m=xs.length-i/\i<=xs.length/\Pv i σ H,⟨xs.length,by simp,j0_ _,h0⟩,?_⟩
 rintro i m σ H ⟨rfl,hi,p⟩
 by_cases hlt:i<xs.length
 ·refine .inr ⟨⟨hlt,hl i σ H hi p⟩,Pv (i+1),fun σ' H' p'=>⟨xs.length-(i+1),by omega,rfl,hlt,p'⟩,fun x H' y=>?_⟩
  obtain⟨t,v,hn,hv,rfl,rfl⟩:=y
  exact hs i v σ H t hv p hn
 ·have e:i=xs.length:=by omega
  subst e
  exact .inl ⟨⟨rfl,hl _ σ H hi p⟩,hd σ H p⟩
section
variable {td ty tv tx:TE} {D:Ends} {σ:St} {H:Hp} {Q:VK}
theorem XC:Z2 td ty σ H Q=td σ H fun x H1=>ty σ H1 fun y H2=>∃ a v,x=.ref a/\DGet H2 a y (some v)/\Q v H2:=rfl
theorem Rm:T2 ty td σ H Q=ty σ H fun y H1=>td σ H1 fun x H2=>∃ a o,x=.ref a/\DGet H2 a y o/\Q (.bl (!o.isSome)) H2:=rfl
theorem XD:Z3 td ty tv D σ H=tv σ H fun v H1=>td σ H1 fun x H2=>ty σ H2 fun y H3=>∃ a H4,x=.ref a/\DPut H3 a y v H4/\D.nx σ H4:=rfl
theorem Uq:T6 td ty σ H Q=td σ H fun x H1=>∃ a,x=.ref a/\IsD H1 a/\ty σ H1 fun y H2=>∃ o,DGet H2 a y o/\Q (o.getD .non) H2:=rfl
theorem XE {trs:List (TE×TE)}:Yz trs σ H Q=∀ p,H p=none->J9 trs σ (upd H p (.dK [])) fun ps H2=>H2 p=some (.dK [])/\∃ kvs:List (Key×V),ps=kvs.map (fun kv=>(kV kv.1,kv.2))/\kvs.length<=15/\Q (.ref p) (upd H2 p (.dK (IY [] kvs))):=rfl
theorem Ro {R:List (V×V)->Hp->Prop}:J9 [] σ H R=R [] H:=rfl
theorem Rp {r:List (TE×TE)}{R:List (V×V)->Hp->Prop}:J9 ((td,tv)::r) σ H R=td σ H fun x H1=>tv σ H1 fun y H2=>J9 r σ H2 fun ps H3=>R ((x,y)::ps) H3:=rfl
end
end L2
namespace GW
def EA (w:α2):List (Int×α2)->Nat->α2->List (Int×α2)
 | ents,_,[]=>ents
 | ents,x,g::r=>EA w (if g∈ents.map (·.1) then ents else ents ++ [(g,w ++ [(x:Int)])]) (x+1) r
def bfs (ways:α1):Nat->List (Int×α2)->Nat->List (Int×α2)
 | 0,ents,_=>ents
 | f+1,ents,i=>match ents[i]? with
  | none=>ents
  | some e=>bfs ways f (EA e.2 ents 0 (ways.getD e.1.toNat [])) (i+1)
def Az (ways:α1):List (Int×α2):=bfs ways (ways.length+1) [(0,[])] 0
theorem MK {ways:α1}{ents:List (Int×α2)}{i:Nat}(h:ents[i]?=none):∀ f,bfs ways f ents i=ents
 | 0=>rfl
 | f+1=>by rw[bfs,h]
theorem ML {ways:α1}{ents:List (Int×α2)}{i:Nat}{e:Int×α2}(h:ents[i]?=some e)(f:Nat):bfs ways (f+1) ents i=bfs ways f (EA e.2 ents 0 (ways.getD e.1.toNat [])) (i+1):=by rw[bfs,h]
theorem Kd:∀ (n:Nat) {l:α2},l.Nodup->(∀ x∈l,0<=x/\x<(n:Int))->l.length<=n
 | 0,l,_,h=>by
  cases l with
  | nil=>simp
  | cons x r=>have:=h x jo_;omega
 | n+1,l,hn,h=>by
  by_cases hm:(n:Int)∈l
  ·have e:=q6_ hm
   have:=Kd n (l:=l.erase (n:Int)) (hn.erase _) (fun x hx=>by
    have h1:=(hn.mem_erase_iff).mp hx
    have h2:=h x h1.2
    have h3:=h1.1
    omega)
   omega
  ·have:=Kd n hn (fun x hx=>by
    have h2:=h x hx
    have:x≠n:=fun z=>hm (z ▸ hx)
    omega)
   omega
structure Bfs (L:Int)(n:Nat)(ways:α1)(ents:List (Int×α2))(i:Nat)(top:Int):Prop where
 hd:ents[0]?=some (0,[])
 il:i<=ents.length
 sh:∀ (j:Nat) (e:Int×α2),ents[j]?=some e->e.2.length<=j
 nod:(ents.map (·.1)).Nodup
 rng:∀ e∈ents,0<=e.1/\e.1<(n:Int)
 wd:∀ e∈ents,isW L e.2=true/\AL ways e.2=e.1
 inc:∀ (j k:Nat) (a b:Int×α2),j<k->ents[j]?=some a->ents[k]?=some b->place L a.2<place L b.2
 bnd:∀ e∈ents,place L e.2<top
 don:∀ j,j<i->∀ e,ents[j]?=some e->∀ x:Int,0<=x->x<L->∃ e'∈ents,e'.1=Bm ways e.1 x/\place L e'.2<=place L (e.2 ++ [x])
theorem Bfs.len {L:Int}{n:Nat}{ways:α1}{ents:List (Int×α2)}{i:Nat}{top:Int}(h:Bfs L n ways ents i top):ents.length<=n:=by
 have:=Kd n h.nod (fun x hx=>by
  obtain⟨e,he,rfl⟩:=jv_.mp hx
  exact h.rng e he)
 simpa using this
theorem Bfs.start (L:Int){n:Nat}(hn:1<=n)(ways:α1):Bfs L n ways [(0,[])] 0 1:=by
 refine⟨rfl,by simp,(fun j e he=>by cases j with | zero=>(simp at he;subst he;simp) | succ j=>simp at he),by simp,fun e he=>?_,fun e he=>?_,fun j k a b h h1 h2=>?_,fun e he=>?_,fun j hj=>absurd hj (xE_ _)⟩
 ·simp at he;subst he;simp;omega
 ·simp at he;subst he;exact⟨rfl,rfl⟩
 ·have:=(jc_.mp h2).1;simp at this;omega
 ·simp at he;subst he;simp[place,De]
theorem Bfs.add {L:Int}(hL:0<L){n:Nat}{ways:α1}{ents:List (Int×α2)}{i:Nat}{top:Int}(h:Bfs L n ways ents i top){w:α2}{r x g:Int}(hw:(r,w)∈ents)(hx:0<=x/\x<L)(ht:top<=place L w*L+x+1)
  (hg:g=Bm ways r x) (hgr:0<=g/\g<(n:Int)) (hno:g∉ents.map (·.1)):Bfs L n ways (ents ++ [(g,w ++ [x])]) i (place L w*L+x+2):=by
 obtain⟨v1,v2⟩:=h.wd _ hw
 have hp:=Ij L w x
 have hlen:0<ents.length:=by have:=(jc_.mp h.hd).1;omega
 refine⟨?_,by have:=h.il;simp;omega,fun j e he=>?_,?_,fun e he=>?_,fun e he=>?_,fun j k a b hjk h1 h2=>?_,fun e he=>?_,fun j hj e he y hy0 hy1=>?_⟩
 ·rw[jk_ hlen];exact h.hd
 ·have hj:=(jc_.mp he).1
  rw[jq_,j3_] at hj
  by_cases hjl:j<ents.length
  ·rw[jk_ hjl] at he
   exact h.sh j e he
  ·have e1:j=ents.length:=by omega
   subst e1
   rw[jt_ (jl_ _),q2_] at he
   simp at he
   subst he
   obtain⟨j',hj',ej⟩:=jY_ hw
   have:=h.sh j' (r,w) (by rw[ji_ hj',ej])
   have this':w.length<=j':=this
   show (w ++ [x]).length<=ents.length
   simp;omega
 ·rw[jR_,zZ_]
  refine⟨h.nod,by simp,fun a ha b hb=>?_⟩
  simp at hb
  subst hb
  exact fun z=>hno (z ▸ ha)
 ·rcases jB_.mp he with he | he
  ·exact h.rng e he
  ·rw[ju_.mp he];exact hgr
 ·rcases jB_.mp he with he | he
  ·exact h.wd e he
  ·rw[ju_.mp he]
   refine⟨?_,?_⟩
   ·rw[AT] at v1 ⊢
    intro z hz
    rcases jB_.mp hz with hz | hz
    ·exact v1 z hz
    ·rw[ju_.mp hz];exact hx
   ·show AL ways (w ++ [x])=g
    rw[EU]
    have v2':AL ways w=r:=v2
    rw[v2',hg]
 ·have hk:=(jc_.mp h2).1
  rw[jq_,j3_] at hk
  by_cases hkl:k<ents.length
  ·rw[jk_ hkl] at h2
   rw[jk_ (by omega)] at h1
   exact h.inc j k a b hjk h1 h2
  ·have hke:k=ents.length:=by omega
   subst hke
   rw[jk_ (by omega)] at h1
   rw[jt_ (jl_ _),q2_] at h2
   simp at h2
   subst h2
   have:=h.bnd a (jg_ h1)
   show place L a.2<place L (w ++ [x])
   rw[hp];omega
 ·rcases jB_.mp he with he | he
  ·have:=h.bnd e he;omega
  ·rw[ju_.mp he]
   show place L (w ++ [x])<_
   rw[hp];omega
 ·have hjl:j<ents.length\/j=ents.length:=by
   have:=(jc_.mp he).1
   rw[jq_,j3_] at this
   omega
  rcases hjl with hjl | hjl
  ·rw[jk_ hjl] at he
   obtain⟨e',m,q⟩:=h.don j hj e he y hy0 hy1
   exact⟨e',qb_ _ m,q⟩
  ·exact absurd hjl (by have:=h.il;omega)
theorem Bfs.up {L:Int}{n:Nat}{ways:α1}{ents:List (Int×α2)}{i:Nat}{top top':Int}(h:Bfs L n ways ents i top)(ht:top<=top'):Bfs L n ways ents i top' :=
 ⟨h.hd,h.il,h.sh,h.nod,h.rng,h.wd,h.inc,fun e he=>Int.lt_of_lt_of_le (h.bnd e he) ht,h.don⟩
def Seen (L:Int)(ways:α1)(ents:List (Int×α2))(r:Int)(w:α2)(x:Nat):Prop:=∀ y:Int,0<=y->y<x->∃ e'∈ents,e'.1=Bm ways r y/\place L e'.2<=place L (w ++ [y])
theorem Bfs.letter {L:Int}(hL:0<L){n:Nat}{ways:α1}{ents:List (Int×α2)}{i x:Nat}{w:α2}{r g:Int}(h:Bfs L n ways ents i (place L w*L+x+1))(hs:Seen L ways ents r w x)(hw:(r,w)∈ents)(hx:(x:Int)<L)
  (hg:g=Bm ways r x) (hgr:0<=g/\g<(n:Int)):Bfs L n ways (if g∈ents.map (·.1) then ents else ents ++ [(g,w ++ [(x:Int)])]) i (place L w*L+((x+1:Nat):Int)+1)/\Seen L ways (if g∈ents.map (·.1) then ents else ents ++ [(g,w ++ [(x:Int)])]) r w (x+1):=by
 by_cases hm:g∈ents.map (·.1)
 ·rw[if_pos hm]
  refine⟨h.up (by push_cast;omega),fun y hy0 hy1=>?_⟩
  by_cases hyx:y<x
  ·exact hs y hy0 hyx
  ·have e:y=x:=by push_cast at hy1;omega
   subst e
   obtain⟨e',he',e1⟩:=jv_.mp hm
   refine⟨e',he',by rw[<- hg];exact e1,?_⟩
   have:=h.bnd e' he'
   rw[Ij];omega
 ·rw[if_neg hm]
  refine⟨(h.add hL hw ⟨by omega,hx⟩ (zt_ _) hg hgr hm).up (by push_cast;omega),fun y hy0 hy1=>?_⟩
  by_cases hyx:y<x
  ·obtain⟨e',m,q⟩:=hs y hy0 hyx
   exact⟨e',qb_ _ m,q⟩
  ·have e:y=x:=by push_cast at hy1;omega
   subst e
   exact⟨_,jD_ _ jo_,hg,zt_ _⟩
theorem Bfs.next {L:Int}(hL:0<L){n i m:Nat}{ways:α1}{ents:List (Int×α2)}{w:α2}{r:Int}(h:Bfs L n ways ents i (place L w*L+m+1))(hm:(m:Int)=L)(hs:Seen L ways ents r w m)(hw:ents[i]?=some (r,w)) :
  Bfs L n ways ents (i+1) (place L w*L+L+1)/\∀ e,ents[i+1]?=some e->place L w*L+L+1<=place L e.2*L+1:=by
 have hi:=(jc_.mp hw).1
 rw[hm] at h
 refine⟨⟨h.hd,hi,h.sh,h.nod,h.rng,h.wd,h.inc,h.bnd,fun j hj e he x h0 h1=>?_⟩,fun e he=>?_⟩
 ·by_cases hji:j<i
  ·exact h.don j hji e he x h0 h1
  ·have e1:j=i:=by omega
   subst e1
   rw[hw] at he
   cases he
   exact hs x h0 (by omega)
 ·have:=h.inc i (i+1) _ _ (Nat.lt_succ_self _) hw he
  have h2:=q1_ (show place L w+1<=place L e.2 from this) (zU_ hL)
  rw[Int.add_mul] at h2
  omega
theorem Il (w:α2)(ents:List (Int×α2))(x:Nat):EA w ents x []=ents:=rfl
theorem G8 (w:α2)(ents:List (Int×α2))(x:Nat)(g:Int)(r:α2):EA w ents x (g::r)=EA w (if g∈ents.map (·.1) then ents else ents ++ [(g,w ++ [(x:Int)])]) (x+1) r:=rfl
theorem G9 {ents:List (Int×α2)}{g:Int}{v:α2}{i:Nat}{e:Int×α2}(h:ents[i]?=some e):(if g∈ents.map (·.1) then ents else ents ++ [(g,v)])[i]?=some e:=by
 split
 ·exact h
 ·rw[jk_ (jc_.mp h).1];exact h
end GW
namespace L2
open PySem PySem.Spec PyProof.Rows
def ups (n:Nat):α2:=(List.range n).map fun i:Nat=>(i:Int)
def Rq (te:TE):TE:=fun σ H Q=>te σ H fun x H1=>∃ j:Int,x=.int j/\0<=j/\j<=100000/\∀ p,H1 p=none->Q (.ref p) (upd H1 p (.lst ((ups j.toNat).map V.int)))
theorem OD {te:TE}{σ:St}{H:Hp}{Q:VK}:Rq te σ H Q=te σ H fun x H1=>∃ j:Int,x=.int j/\0<=j/\j<=100000/\∀ p,H1 p=none->Q (.ref p) (upd H1 p (.lst ((ups j.toNat).map V.int))):=rfl
theorem Ur {n:Nat}{acc:Array Value}(h:ItemsOf (fun i v=>∃ t,v=.int ((0:Int)+(i:Nat)*1) t) acc n):Vals ((ups n).map V.int) acc.toList:=by
 have hs:=h.1
 have key:∀ (l:List Value) (k:Nat),(∀ i v,l[i]?=some v->∃ t,v=Value.int ((k+i:Nat):Int) t)->Vals (((List.range l.length).map fun i=>((k+i:Nat):Int)).map V.int) l:=by
  intro l
  induction l with
  | nil=>intro k _;exact .nil
  | cons u r ih =>
   intro k hk
   rw[jT_,List.range_succ_eq_map,jV_,jV_]
   refine .cons ?_ ?_
   ·obtain⟨t,e⟩:=hk 0 u (by simp)
    exact⟨t,by simpa using e⟩
   ·have:=ih (k+1) (fun i v hv=>by
     obtain⟨t,e⟩:=hk (i+1) v (by simpa using hv)
     exact⟨t,by rw[e];congr 1;push_cast;omega⟩)
    have e:((List.map Nat.succ (List.range r.length)).map fun i=>((k+i:Nat):Int))=((List.range r.length).map fun i=>((k+1+i:Nat):Int)):=by
     rw[jQ_]
     apply qd_
     intro i _
     show ((k+(i+1):Nat):Int)=_
     congr 1;omega
    rw[e]
    exact this
 have:=key acc.toList 0 (fun i v hv=>by
  obtain⟨t,e⟩:=h.2 i v (by simpa using hv)
  exact⟨t,by rw[e];congr 1;push_cast;omega⟩)
 have hl:acc.toList.length=n:=by simpa using hs
 rw[hl] at this
 have e2:((List.range n).map fun i=>((0+i:Nat):Int))=ups n:=by
  unfold ups
  apply qd_
  intro i _
  congr 1;omega
 rw[e2] at this
 exact this
theorem Im {X:Cx}{e:Expr}{te:TE}{p p2 pos pos2:Pos}(hc:X.calm=true)(hg:Gl X "list")(hm:X.mg "list" = none)(hg2:Gl X "range")(hm2:X.mg "range" = none)(he:PE X e te)
  (hs1:starEach [.Call (.Name "range" p2) [e] [] pos2] X.env=[(false,eval (.Call (.Name "range" p2) [e] [] pos2) X.env)]:=by rfl) (hs:starEach [e] X.env=[(false,eval e X.env)]:=by rfl) :
  PE X (.Call (.Name "list" p) [.Call (.Name "range" p2) [e] [] pos2] [] pos) (Rq te):=by
 intro pins s σ H Q I h
 refine xm_ (GV I hg hm boot_list ?_)
 refine j7_ ?_ hs1 rfl
 rw[hs1]
 refine xl_ ?_
 refine Call_ (GV I hg2 hm2 boot_range (j7_ (thn (Aa he Ad hs pos2 pins s σ H (fun vs H1=>∃ j:Int,vs=[.int j]/\0<=j/\j<=100000/\∀ p,H1 p=none->Q (.ref p) (upd H1 p (.lst ((ups j.toNat).map V.int)))) I ?_) fun us s1 ⟨vs,H1,I1,r1,q1⟩=>?_) hs rfl))
 ·show te σ H _
  have:(fun x H1=>∃ j:Int,x=V.int j/\0<=j/\j<=100000/\∀ p,H1 p=none->Q (.ref p) (upd H1 p (.lst ((ups j.toNat).map V.int))))=(fun x H1=>tNil σ H1 fun xs H2=>∃ j:Int,x::xs=[V.int j]/\0<=j/\j<=100000/\∀ p,H2 p=none->Q (.ref p) (upd H2 p (.lst ((ups j.toNat).map V.int)))):=by
   funext x H1
   simp[tNil]
  rw[<- this]
  exact h
 ·obtain⟨j,rfl,h0,h1,q⟩:=q1
  cases r1 with
  | cons r rr =>
   cases rr
   obtain⟨t,rfl⟩:=r
   refine call_range_1 ?_
   refine xT_ ?_
   refine call_list_range (n:=j.toNat) (I.ok.hd hc) (IsRange.new ..) (small_one (by omega) (by omega) (by omega) (by omega)) ?_ (by omega) fun h' tk acc' c' hk hS hacc=>?_
   ·rw[rangeSize_one];split<;>omega
   ·have kp:∀ b o,s1.heap.get? b=some o->h'.get? b=some o:=fun b o e=>hk b o (jf_ _ e)
    have hz:(ups j.toNat).length=j.toNat:=by simp[ups]
    have hl:=AB
    refine⟨.ref _,_,I1.laid (t':=tk) kp (by rw[qH_];exact Nat.le_succ _) (show CF X.prog X.w _ h' _ (.lst ((ups j.toNat).map V.int)) from ⟨by rw[ja_,hz];omega,acc'.toList,c',Ur hacc,by simpa using hS⟩),rfl,q _ (I1.hok.fresh (by rw[qH_];exact Nat.le_succ _))⟩
def rNeD (K:α3)(n:Nat):R2:=fun x y H Q=>∃ a c b,x=.ref a/\y=.ref c/\EqD K H n x y b/\Q (.bl (!b)) H
theorem As_ {K:α3}{n:Nat}{x y:V}{H:Hp}{Q:VK}:rNeD K n x y H Q=∃ a c b,x=.ref a/\y=.ref c/\EqD K H n x y b/\Q (.bl (!b)) H:=rfl
theorem XF {X:Cx}(n:Nat)(hu:X.A.units+n<cLine):OpR X (compareOp .NotEq) (rNeD X.K n):=by
 intro pins s σ H x y v u Q I rx ry h
 obtain⟨a,c,b,rfl,rfl,h,q⟩:=h
 cases rx
 cases ry
 cases n with
 | zero=>exact absurd (show false=true from h.1) jp_
 | succ n =>
  rcases h with ⟨fx,_⟩ | ⟨a',c',xs,ys,e1,e2,hq,e,he,rfl⟩
  ·exact absurd (show false=true from fx) jp_
  ·cases e1
   cases e2
   have key:∀ (its its2:List Value),Vals xs its->Vals ys its2->∀ j (h1:j<its.toArray.size) (h2:j<its2.toArray.size),SeqAt.EqAt X.A.in1 s its.toArray[j] its2.toArray[j] (e j):=fun its its2 r1 r2 j h1 h2=>by
    have l1:=r1.length
    have l2:=r2.length
    rw[jj_] at h1 h2
    obtain⟨u1,g1,q1⟩:=r1.get (i:=j) (x:=xs[j]'(by omega)) (by simp[show j<xs.length by omega])
    obtain⟨u2,g2,q2⟩:=r2.get (i:=j) (x:=ys[j]'(by omega)) (by simp[show j<ys.length by omega])
    have k1:its.toArray[j]'(by rw[jj_];exact h1)=u1:=by
     have:=(jc_.mp g1).2
     simpa using this
    have k2:its2.toArray[j]'(by rw[jj_];exact h2)=u2:=by
     have:=(jc_.mp g2).2
     simpa using this
    rw[k1,k2]
    exact (EqD.at I n X.A.in1 (by rw[in1_units];omega) q1 q2 (he j _ _ (by simp[show j<xs.length by omega]) (by simp[show j<ys.length by omega]))).1
   have fin:EP X pins σ Q (.bool (!(decide (xs.length=ys.length)&&(List.range (min xs.length ys.length)).all e))) s:=⟨.bl _,H,I,rfl,q⟩
   rcases hq with ⟨h1,h2⟩ | ⟨h1,h2⟩
   ·obtain⟨its,r1,p1,_⟩:=I.list h1
    obtain⟨its2,r2,p2,_⟩:=I.list h2
    have l1:=r1.length
    have l2:=r2.length
    by_cases hl:xs.length=ys.length
    ·have:=SeqAt.RcNeAt.lists (e:=e) p1.isList p2.isList (by rw[jj_,jj_];omega) (by omega) (key its its2 r1 r2)
     rw[jj_,<- l1] at this
     rw[qj_ hl,Bool.true_and,<- hl,Nat.min_self] at fin
     exact this _ _ _ _ fin
    ·have:=SeqAt.RcNeAt.lists_lengths (A:=X.A) p1.isList p2.isList (by rw[jj_,jj_];simp;omega) (by omega)
     rw[qe_ hl,Bool.false_and] at fin
     exact this _ _ _ _ fin
   ·obtain⟨its,r1,p1,_⟩:=I.tuple h1
    obtain⟨its2,r2,p2,_⟩:=I.tuple h2
    have l1:=r1.length
    have l2:=r2.length
    have:=SeqAt.RcNeAt.tuples (e:=e) (show s.heap.IsTuple a its.toArray from p1) (show s.heap.IsTuple c its2.toArray from p2) (by omega) (key its its2 r1 r2)
    rw[jj_,jj_,<- l1,<- l2,Ua] at this
    exact this _ _ _ _ fin
def Us (tk tv:TE):TE:=Yz [(tk,tv)]
theorem VS {X:Cx}{pos:Pos}{k v:Expr}{tk tv:TE}(hk:PE X k tk)(hv:PE X v tv):PE X (.Dict [some k] [v] pos) (Us tk tv):=YA (VL hk hv Yy) rfl rfl (by intro z;cases z) (by show 1<=15;decide)
theorem Ut {tk tv:TE}{σ:St}{H:Hp}{Q:VK}:Us tk tv σ H Q=∀ p,H p=none->tk σ (upd H p (.dK [])) fun x H1=>tv σ H1 fun y H2=>H2 p=some (.dK [])/\∃ kvs:List (Key×V),[(x,y)]=kvs.map (fun kv=>(kV kv.1,kv.2))/\kvs.length<=15/\Q (.ref p) (upd H2 p (.dK (IY [] kvs))):=rfl
theorem YI {X:Cx}{i:Nat}{x:Str}{k v:Expr}{tk tv:TE}{pos pos' dpos:Pos}(hN:X.N.Nodup)(hi:X.N[i]?=some x)(hx:Loc X.env.scope x)(hk:PE X k tk)(hv:PE X v tv)(hs:swapsWith (.Dict [some k] [v] dpos) (some (.Name x pos')) pos.line X.env=pure false)
  (hf:X.fn x=true\/X.env.scope.names.lookup x=some .local):PS X (.Assign [.Name x pos'] (.Dict [some k] [v] dpos) pos) (tAsg (Us tk tv) (Ly i)):=CI hN hi hx (VS hk hv) hs hf
end L2
namespace L2
open PySem GW
def mkW (marks:α2)(r:Int):Int:=marks.getD r.toNat 0
theorem XG {marks:α2}{r:Int}(h0:0<=r)(h1:r<marks.length):mkW marks r∈marks:=by
 have hlt:r.toNat<marks.length:=by omega
 unfold mkW
 rw[jd_,ji_ hlt]
 exact j4_ hlt
theorem At_ {marks:α2}{r:Int}(h0:0<=r)(h1:r<marks.length):atI (marks.map V.int) r=some (V.int (mkW marks r)):=by
 have hlt:r.toNat<marks.length:=by omega
 refine CH h0 ?_
 unfold mkW
 rw[jd_,ji_ hlt];rfl
end L2
namespace GW
theorem Bfs.least {L:Int}{n:Nat}{ways:α1}{top:Int}{ents:List (Int×α2)}(h:Bfs L n ways ents ents.length top){ws:α2}(hv:isW L ws=true):∀ i,i<=ws.length->∃ w',(AL ways (ws.take i),w')∈ents/\place L w'<=place L (ws.take i)
 | 0,_=>⟨[],by simpa [AL] using jg_ h.hd,by simp⟩
 | i+1,hi=>by
  obtain⟨w',m,hp⟩:=Bfs.least h hv i (by omega)
  have hwi:ws[i]?=some ws[i]:=by simp
  have hin:=AT.mp hv ws[i] (j4_ _)
  obtain⟨j,hj,ej⟩:=jY_ m
  obtain⟨e',me,e1,e2⟩:=h.don j hj _ (by rw[ji_ hj,ej]) ws[i] hin.1 hin.2
  obtain⟨g,v⟩:=e'
  have e1:g=Bm ways (AL ways (ws.take i)) ws[i]:=e1
  have e2:place L v<=place L (w' ++ [ws[i]]):=e2
  have et:ws.take (i+1)=ws.take i ++ [ws[i]]:=by rw[jP_,hwi];rfl
  have hL:0<=L:=by omega
  refine⟨v,?_,?_⟩
  ·rw[et,EU,<- e1];exact me
  ·rw[et]
   rw[Ij] at e2 ⊢
   have:=q1_ hp hL
   omega
end GW
namespace L2
open PySem PySem.Spec PyProof.Rows
theorem Vals.ofIx:∀ {xs:List V} {us:List Value},us.length=xs.length->(∀ (i:Nat) (v:Value),us[i]?=some v->∃ x,xs[i]?=some x/\RelV x v)->Vals xs us
 | [],[],_,_=>.nil
 | [],_::_,h,_=>by simp at h
 | _::_,[],h,_=>by simp at h
 | x::xs,u::us,h,k=>by
  refine .cons ?_ (Vals.ofIx (by simpa using h) fun i v hv=>?_)
  ·obtain⟨y,e,r⟩:=k 0 u rfl
   cases e
   exact r
  ·obtain⟨y,e,r⟩:=k (i+1) v (by simpa using hv)
   exact⟨y,by simpa using e,r⟩
theorem Uu {k:Key}{v:Value}(h:Pu k v=true):RelV (kV k) v:=by
 rcases BE h with ⟨i,t,rfl,e⟩ | ⟨x,t,rfl,e⟩
 ·exact⟨t,e⟩
 ·exact⟨t,e⟩
theorem LC {X:Cx}(hc:X.calm=true):EF X (.type "list") (fun xs H Q=>∃ p kvs,xs=[.ref p]/\H p=some (.dK kvs)/\∀ l,H l=none->Q (.ref l) (upd H l (.lst (kvs.map fun kv=>kV kv.1)))):=by
 intro pins s σ H xs us Q I r h
 obtain⟨p,kvs,rfl,hp,q⟩:=h
 obtain⟨u,rfl,rx⟩:=vals1 r
 cases rx
 obtain⟨hz,hS,vs,rr,m⟩:=VI I.hok hp
 obtain⟨ep,hat⟩:=m.dictAt
 have hlen:=rr.length
 have hks:=rr.keys
 refine PySem.W.kdl_call (PySem.W.kdl_dict (knd:=BN X.prog X.w) (kvs:=vs) (ep:=ep) hS) (I.ok.hd hc) hat (by omega) fun h' tk acc' c' hk hD hacc=>?_
 have hv:Vals (kvs.map fun kv=>kV kv.1) acc'.toList:=by
  refine Vals.ofIx (by rw[ja_,hlen];simpa using hacc.1) fun i v hv=>?_
  obtain⟨k,x,hx,hki⟩:=hacc.2 i v (by simpa using hv)
  refine⟨kV k,?_,Uu hki⟩
  have e1:(kvs.map (·.1))[i]?=some k:=by rw[hks,je_,hx];rfl
  rw[je_] at e1 ⊢
  cases hq:kvs[i]? with
  | none=>rw[hq] at e1;cases e1
  | some kv=>rw[hq] at e1;cases e1;rfl
 exact⟨.ref _,_,I.laid (t':=tk) hk (jl_ _) (show CF X.prog X.w _ h' _ (.lst (kvs.map fun kv=>kV kv.1)) from ⟨by rw[ja_];exact hz,acc'.toList,c',hv,by simpa using hD⟩),rfl,q _ (I.hok.fresh (jl_ _))⟩
end L2
namespace L2
theorem r_in {K:α3}{neg:Bool}{x y:V}{H:Hp}{Q:VK}:rIn K neg x y H Q=∃ p xs,y=.ref p/\(SqL K H p xs\/SqT K H p xs)/\DK x=true/\xs.all DK=true/\Q (.bl (if neg then !inV x xs else inV x xs)) H:=rfl
theorem Ke (ns:α2):(ns.map V.int).all DK=true:=by
 rw[xh_]
 intro x hx
 obtain⟨n,_,rfl⟩:=jv_.mp hx
 rfl
theorem Rr (g:Int)(ns:α2):inV (.int g) (ns.map V.int)=decide (g∈ns):=by
 unfold inV
 rw[List.any_map,qn_,x5_,qh_]
 constructor
 ·rintro⟨n,hn,e⟩
  have e:decide (n=g)=true:=by simpa [eqV] using e
  rw[<- qB_ e];exact hn
 ·exact fun h=>⟨g,h,by simp[eqV]⟩
end L2
namespace L2
open PySem PySem.Spec PyProof.Rows
def rng (i j:Int):α2:=(List.range (j-i).toNat).map fun k:Nat=>i+(k:Int)
end L2
namespace GW
open L2
theorem Kf:∀ {l m:α2},l.Nodup->(∀ x∈l,x∈m)->m.length<=l.length->l.Perm m
 | [],m,_,_,h=>by
  have:m=[]:=List.eq_nil_of_length_eq_zero (by simpa using h)
  subst this;exact .refl _
 | x::l,m,hn,h,hl=>by
  have hx:=h x jo_
  have hn':=qG_.mp hn
  have p:=Kf (l:=l) (m:=m.erase x) hn'.2 (fun y hy=>(xv_ (fun (z:y=x)=>hn'.1 (z ▸ hy))).mpr (h y (jr_ _ hy))) (by rw[q6_ hx];simp at hl;omega)
  exact (p.cons x).trans (List.perm_cons_erase hx).symm
theorem Uv (n:Nat):(ups n).Nodup:=by
 unfold ups
 exact List.Pairwise.map (R:=(· ≠ ·)) _ (fun a b hab z=>hab (by omega)) List.nodup_range
theorem Uw {n:Nat}{x:Int}:x∈ups n↔0<=x/\x<(n:Int):=by
 unfold ups
 rw[jv_]
 constructor
 ·rintro⟨r,hr,rfl⟩
  have:=jW_.mp hr
  omega
 ·exact fun h=>⟨x.toNat,jW_.mpr (by omega),by omega⟩
theorem Ux (n:Nat):(ups n).length=n:=by simp[ups]
def Ey (n:Nat)(o:α2):Prop:=o.Perm (ups n)/\o[0]?=some 0
theorem Ey.len {n:Nat}{o:α2}(h:Ey n o):o.length=n:=by rw[h.1.length_eq,Ux]
theorem Ey.nod {n:Nat}{o:α2}(h:Ey n o):o.Nodup:=(h.1.nodup_iff).mpr (Uv n)
theorem Ey.mem {n:Nat}{o:α2}(h:Ey n o){x:Int}:x∈o↔0<=x/\x<(n:Int):=by rw[h.1.mem_iff,Uw]
def ordW (o:α2)(r:Int):Int:=o.getD r.toNat 0
theorem YJ {o:α2}{r:Int}(h0:0<=r)(h1:r<o.length):o[r.toNat]?=some (ordW o r):=by
 unfold ordW
 rw[jd_,ji_ (by omega)];rfl
theorem Ey.at {n:Nat}{o:α2}(h:Ey n o){r:Int}(h0:0<=r)(h1:r<(n:Int)):o[r.toNat]?=some (ordW o r)/\0<=ordW o r/\ordW o r<(n:Int):=by
 have:=YJ (o:=o) h0 (by rw[h.len];exact h1)
 exact⟨this,h.mem.mp (jg_ this)⟩
theorem Ey.inv {n:Nat}{o:α2}(h:Ey n o){x:Int}(h0:0<=x)(h1:x<(n:Int)):∃ r:Nat,r<n/\o[r]?=some x:=by
 obtain⟨r,hr,e⟩:=jY_ (h.mem.mpr ⟨h0,h1⟩)
 exact⟨r,by rw[<- h.len];exact hr,by rw[ji_ hr,e]⟩
def DS {α:Type}(o:α2)(f:Nat->α):Nat->List α->List α
 | 0,d=>d
 | i+1,d=>(DS o f i d).set (ordW o i).toNat (f i)
theorem DX {α:Type}(o:α2)(f:Nat->α):∀ (i:Nat) (d:List α),(DS o f i d).length=d.length
 | 0,_=>rfl
 | i+1,d=>by rw[DS,List.length_set,DX o f i d]
theorem Ey.inj {n:Nat}{o:α2}(h:Ey n o){r q:Nat}(hr:r<n)(hq:q<n)(e:ordW o r=ordW o q):r=q:=by
 have a:=(h.at (r:=(r:Int)) (by omega) (by omega)).1
 have b:=(h.at (r:=(q:Int)) (by omega) (by omega)).1
 rw[jh_] at a b
 have hr':r<o.length:=by rw[h.len];exact hr
 have hq':q<o.length:=by rw[h.len];exact hq
 refine (x3_ (h₀:=hr') (h₁:=hq') h.nod).mp ?_
 rw[ji_ hr'] at a
 rw[ji_ hq'] at b
 rw[js_ a,js_ b,e]
theorem Kg {α:Type}{n:Nat}{o:α2}(h:Ey n o)(f:Nat->α):∀ (i:Nat) (d:List α),i<=n->d.length=n->∀ r:Nat,r<i->(DS o f i d)[(ordW o r).toNat]?=some (f r)
 | 0,_,_,_,r,hr=>absurd hr (xE_ _)
 | i+1,d,hi,hd,r,hr=>by
  have b:=(h.at (r:=(r:Int)) (by omega) (by omega)).2
  have c:=(h.at (r:=(i:Int)) (by omega) (by omega)).2
  rw[DS]
  by_cases e:r=i
  ·subst e
   rw[qY_ (by rw[DX,hd];omega)]
  ·have ne:ordW o i≠ordW o r:=fun z=>e (h.inj (by omega) (by omega) z.symm)
   rw[xt_ (by omega)]
   exact Kg h f i d (by omega) hd r (by omega)
def P0 (n:Nat)(o marks:α2):α2:=DS o (fun r=>marks.getD r 0) n (List.replicate n 0)
def P3 (n:Nat)(o:α2)(ways:α1):α1:=DS o (fun r=>(ways.getD r []).map (ordW o)) n (List.replicate n [])
end GW
namespace L2
open PySem PySem.Spec PyProof.Rows GW
theorem DW.set {K:α3}{H:Hp}{l t:Addr}{ws:α1}{w:α2}{j:Nat}(h:DW K H l ws)(hw:SqT K H t (w.map V.int)):∃ xs,H l=some (.lst xs)/\xs.length=ws.length/\DW K (upd H l (.lst (xs.set j (V.ref t)))) l (ws.set j w):=by
 obtain⟨ts,h1,h2,h3⟩:=h
 refine⟨_,h1,by simpa using h2,ts.set j t,by rw[Ab,List.map_set],by simpa using h2,fun i t' w' a b=>?_⟩
 have key:∀ {u:Addr} {v:α2},SqT K H u (v.map V.int)->SqT K (upd H l (.lst ((ts.map V.ref).set j (V.ref t)))) u (v.map V.int):=fun q=>MG h1 q
 by_cases e:j=i
 ·subst e
  rw[qY_ (by have:=(jc_.mp a).1;simpa using this)] at a
  rw[qY_ (by have:=(jc_.mp b).1;simpa using this)] at b
  cases a;cases b
  exact key hw
 ·rw[xt_ e] at a b
  exact key (h3 i t' w' a b)
end L2
namespace L2
theorem MM {α:Type}(x:α):∀ n:Nat,(List.replicate n [x]).flatten=List.replicate n x
 | 0=>rfl
 | n+1=>by rw[j8_,xC_,MM x n,j8_];rfl
end L2
namespace L2
theorem XH {n:Nat}{x:Int}(h0:0<=x)(h1:x<(n:Int)):ixN n x=some x.toNat:=by
 unfold ixN
 simp only[h0,h1,and_self,xY_]
end L2
namespace GW
theorem EV (n:Nat)(o marks:α2):(P0 n o marks).length=n:=by unfold P0;rw[DX,ql_]
theorem OE (n:Nat)(o:α2)(ways:α1):(P3 n o ways).length=n:=by unfold P3;rw[DX,ql_]
theorem Rs {n:Nat}{o:α2}(h:Ey n o)(marks:α2){r:Nat}(hr:r<n):(P0 n o marks)[(ordW o r).toNat]?=some (marks.getD r 0):=Kg h _ n _ (jl_ _) (ql_) r hr
theorem Rt {n:Nat}{o:α2}(h:Ey n o)(ways:α1){r:Nat}(hr:r<n):(P3 n o ways)[(ordW o r).toNat]?=some ((ways.getD r []).map (ordW o)):=Kg h _ n _ (jl_ _) (ql_) r hr
end GW
namespace GW
open L2
theorem Ey.nat {n:Nat}{o:α2}(h:Ey n o){j:Nat}(hj:j<n):∃ r:Nat,r<n/\ordW o r=(j:Int):=by
 obtain⟨r,hr,er⟩:=h.inv (x:=(j:Int)) (by omega) (by omega)
 have a:=(h.at (r:=(r:Int)) (by omega) (by omega)).1
 rw[jh_,er] at a
 exact⟨r,hr,(js_ a).symm⟩
theorem Wf.getW {L:Int}{marks:α2}{ways:α1}(wf:Wf L marks ways){r:Nat}(hr:r<marks.length):ways[r]?=some (ways.getD r [])/\ways.getD r []∈ways:=by
 have hlt:r<ways.length:=by rw[wf.len];exact hr
 have e:ways.getD r []=ways[r]:=by rw[jd_,ji_ hlt];rfl
 rw[e]
 exact⟨ji_ hlt,j4_ hlt⟩
theorem VT {L:Int}{marks:α2}{ways:α1}{o:α2}(wf:Wf L marks ways)(h:Ey marks.length o){j:Nat}{row:α2}(hj:(P3 marks.length o ways)[j]?=some row):∃ r:Nat,r<marks.length/\ordW o r=(j:Int)/\row=(ways.getD r []).map (ordW o):=by
 have hlt:=(jc_.mp hj).1
 rw[OE] at hlt
 obtain⟨r,hr,er⟩:=h.nat hlt
 have:=Rt h ways hr
 rw[er,jh_,hj] at this
 exact⟨r,hr,er,js_ this⟩
theorem YK {L:Int}{marks:α2}{ways:α1}{o:α2}(wf:Wf L marks ways)(h:Ey marks.length o):Wf L (P0 marks.length o marks) (P3 marks.length o ways):=by
 refine⟨wf.l1,wf.l6,by rw[EV];exact wf.n1,by rw[EV];exact wf.n40,by rw[EV,OE],fun row hrow=>?_,fun m hm=>?_⟩
 ·rw[EV]
  obtain⟨j,hj,e⟩:=jY_ hrow
  obtain⟨r,hr,_,rfl⟩:=VT wf h (j:=j) (row:=row) (by rw[ji_ hj,e])
  have hw:=wf.rows _ (wf.getW hr).2
  refine⟨by rw[ja_];exact hw.1,fun x hx=>?_⟩
  obtain⟨g,hg,rfl⟩:=jv_.mp hx
  have:=hw.2 g hg
  exact (h.at this.1 this.2).2
 ·obtain⟨j,hj,e⟩:=jY_ hm
  have hlt:=hj
  rw[EV] at hlt
  obtain⟨r,hr,er⟩:=h.nat hlt
  have:=Rs h marks hr
  rw[er,jh_,ji_ hj,e] at this
  have:m=marks.getD r 0:=js_ this
  rw[this,jd_,ji_ hr]
  exact wf.mks _ (j4_ hr)
theorem Uy {L:Int}{marks:α2}{ways:α1}{o:α2}(wf:Wf L marks ways)(h:Ey marks.length o){r x:Int}(h0:0<=r)(h1:r<marks.length)(x0:0<=x)(x1:x<L):Bm (P3 marks.length o ways) (ordW o r) x=ordW o (Bm ways r x):=by
 obtain⟨row,g,r1,r2,r3,r4,r5⟩:=wf.step h0 h1 x0 x1
 have e:=Rt h ways (r:=r.toNat) (by omega)
 rw[show ((r.toNat:Nat):Int)=r by omega,jd_,r1] at e
 rw[r3]
 exact BM e (by rw[Option.getD_some,je_,r2];rfl)
end GW
namespace PySem
open Sem (wp)
def Heap.DEnt (h:Heap)(d:Addr)(es:Array DictEntry)(ep:Nat):Prop:=∃ o,h.get? d=some o/\o.ExactDict/\o.data=.dict es ep
section
variable {prog:Program} {w:World} {A:Around} {E:Value->Shared->Prop} {s:Shared} {d it:Addr} {es:Array DictEntry} {i ep:Nat}
theorem Heap.DEnt.typeIs (h:s.heap.DEnt d es ep):s.TypeIs (.ref d) "dict" := let ⟨o,ho,hc,_⟩:=h;⟨o,ho,hc.1⟩
theorem Heap.DEnt.at {h h':Heap}(x:h.DEnt d es ep)(e:∀ o,h.get? d=some o->h'.get? d=some o):h'.DEnt d es ep:=let ⟨o,ho,r⟩:=x;⟨o,e _ ho,r⟩
theorem Heap.DEnt.lt_size {h:Heap}(x:h.DEnt d es ep):d<h.objs.size:=let ⟨_,ho,_⟩:=x;jn_ ho
theorem P4 {Q:Value->Shared->Prop}(hd:(d == sysModules)=false)(hm:s.heap.DEnt d es ep)
  (hQ:Q (.ref s.heap.objs.size) {s with heap:=s.heap.push {cls:=.type "dict_keyiterator",data:=.fields #[.ref d,.int 0 0,.int es.size 0,.int ep 0]} }):wpAny (model prog w) A (pyIter (.ref d)) Q E s:=by
 have hT:=hm.typeIs
 obtain⟨o,ho,hc,hdat⟩:=id hm
 refine wpAny_pyIter_slot hT F.slot_dict_iter (qo_ F.slot_dict_iter hT F.entry_dict_iter (?_:wpAny _ _ (Builtin.«dict.__iter__» _) _ _ s) (F.args_dict_iter_1 _))
 unfold Builtin.«dict.__iter__»;refine wpAny_bind ?_
 unfold Builtin.Dict.dictSlotNone;refine wpAny_bind (wpAny_notOrdered_dict hT ?_)
 show wpAny _ _ (pure (Value.ref d)) _ _ s;refine jm_ ?_
 show wpAny _ _ (Builtin.Dict.showsAll d >>= _) _ _ s;unfold Builtin.Dict.showsAll
 rw[if_neg (fun z=>by rw[hd] at z;cases z)]
 refine jb_ (jm_ (jb_ (zu_ ho hdat (jb_ (wpAny_dictEpoch ho hdat ?_)))))
 refine jb_ (qg_ (jm_ ⟨_,rfl, "dict_keyiterator",_,⟨_,jy_ _ rfl,rfl⟩,qQ_.lookup,?_⟩));simpa [rawInt] using hQ
theorem Ji {Q:α5->Shared->Prop}(hit:s.heap.IsKeyIter it d i es.size ep)(hm:s.heap.DEnt d es ep)(hlt:i<es.size)
  (hQ:∀ h',h'.IsKeyIter it d (i+1) es.size ep->Heap.SameBut it s.heap h'->Q (some es[i].key) {s with heap:=h' }):wpAny (model prog w) A (pyNext (.ref it)) Q E s:=by
 obtain⟨o,ho,hc,hd⟩:=id hit
 obtain⟨od,hod,hcd,hdd⟩:=id hm
 have hown:Builtin.Dict_items.ownsTuple "dict_keyiterator" = false:=by decide
 unfold pyNext
 refine jb_ (xK_ (j2_ (name:=Str.ofString "__next__") hit.typeIs qQ_ (qo_ qQ_ hit.typeIs F.entry_dict_keyiterator_next ?_ (F.args_dict_keyiterator_next_1 _))))
 refine jb_ (jm_ (jb_ (jb_ ?_)))
 first | refine jb_ (q9_ hit.typeIs (jm_ (jb_ (wpAny_fieldsOf ho hd ?_)))) | refine jb_ (xF_ hit.typeIs (jm_ (jb_ (wpAny_fieldsOf ho hd ?_))))
 simp only[hown,jN_,qP_];show wpAny _ _ (if (Value.ref d == Value.none)=true then _ else _) _ _ s
 rw[if_neg (show ¬ ((Value.ref d == Value.none)=true) from fun z=>jp_ z)]
 refine jb_ (jm_ (jb_ (zu_ hod hdd ?_)))
 rw[if_neg (by simp)];refine jb_ (jm_ (jb_ (wpAny_dictEpoch hod hdd ?_)))
 rw[if_neg (by simp)];refine jm_ ?_
 simp only[show ¬ ((i:Int)<0) from by omega,qP_,jh_,qq_ hlt];refine jb_ ?_
 first | refine jb_ (q9_ hit.typeIs (jm_ (jb_ (zy_ hit.typeIs ?_)))) | refine jb_ (xF_ hit.typeIs (jm_ (jb_ (zy_ hit.typeIs ?_))))
 show wpAny _ _ (setField (.ref it) 1 (rawInt ((i:Int)+1)) >>= _) _ _ s;refine jb_ (x2_ ho hd (by simp) ?_)
 have hit':(s.heap.update it (Obj.mapFields (·.setIfInBounds 1 (rawInt ((i:Int)+1))))).IsKeyIter it d (i+1) es.size ep:=⟨_,qt_ _ ho (zx_ (xn_ hd _)),(Obj.cls_mapFields ..).trans hc,by rw[xn_ hd];simp[rawInt]⟩
 refine jb_ (qR_ (jb_ (zy_ (s:={s with heap:=s.heap.update it (Obj.mapFields (·.setIfInBounds 1 (rawInt ((i:Int)+1))))}) hit'.typeIs ?_)))
 show wpAny _ _ (pure es[i].key) _ _ _;exact jm_ (jm_ ⟨_,rfl,jm_ (hQ _ hit' (xd_ ..))⟩)
theorem Kh {Q:α5->Shared->Prop}(hh:A.handled=none)(hit:s.heap.IsKeyIter it d i es.size ep)(hm:s.heap.DEnt d es ep)(hge:es.size<=i)
  (hQ:∀ h',Heap.ExtBut it s.heap h'->Q none {s with heap:=h' }):wpAny (model prog w) A (pyNext (.ref it)) Q E s:=by
 obtain⟨o,ho,hc,hd⟩:=id hit
 obtain⟨od,hod,hcd,hdd⟩:=id hm
 have hown:Builtin.Dict_items.ownsTuple "dict_keyiterator" = false:=by decide
 unfold pyNext
 refine jb_ (xK_ (j2_ (name:=Str.ofString "__next__") hit.typeIs qQ_ (qo_ qQ_ hit.typeIs F.entry_dict_keyiterator_next ?_ (F.args_dict_keyiterator_next_1 _))))
 refine jb_ (jm_ (jb_ (jb_ ?_)))
 first | refine jb_ (q9_ hit.typeIs (jm_ (jb_ (wpAny_fieldsOf ho hd ?_)))) | refine jb_ (xF_ hit.typeIs (jm_ (jb_ (wpAny_fieldsOf ho hd ?_))))
 simp only[hown,jN_,qP_];show wpAny _ _ (if (Value.ref d == Value.none)=true then _ else _) _ _ s
 rw[if_neg (show ¬ ((Value.ref d == Value.none)=true) from fun z=>jp_ z)]
 refine jb_ (jm_ (jb_ (zu_ hod hdd ?_)))
 rw[if_neg (by simp)];refine jb_ (jm_ (jb_ (wpAny_dictEpoch hod hdd ?_)))
 rw[if_neg (by simp)];refine jm_ ?_
 simp only[show ¬ ((i:Int)<0) from by omega,qP_,jh_,Array.getElem?_eq_none hge];refine jb_ ?_
 first | refine jb_ (q9_ hit.typeIs (jm_ ?_)) | refine jb_ (xF_ hit.typeIs (jm_ ?_))
 show wpAny _ _ (setField (.ref it) 0 .none >>= _) _ _ s;refine jb_ (x2_ ho hd (by simp) ?_)
 show wpAny _ _ (newExc (.type "StopIteration") [] >>= _) _ _ _;refine jb_ ?_
 simp only[newExc,newTuple];refine jb_ (qg_ ?_ (by size_fits))
 refine jb_ (m:=firstArgMember _ _) (wpAny_of_eq (a:=Value.none) (by first | rfl | (simp only[firstArgMember];rfl)) (qg_ ?_ (by size_fits)))
 simp only[raiseNew];refine jb_ (wpAny_handled ?_)
 rw[show A.in1.handled=none from hh];refine jb_ (jm_ (wpAny_throw ?_))
 refine jb_ (wpAny_isInstance (T := "StopIteration") (b:=true) ⟨_,jy_ _ rfl,rfl⟩ isSubtype_stop (jm_ (hQ _ (((xd_ ..).extBut.push _).push _))))
theorem Walks.dent (hh:A.handled=none)(I:Addr)(hne:d≠I):Walks prog w A I [I,d] [I] es.size (fun i v=>∃ e,es[i]?=some e/\v=e.key) (fun i h=>h.IsKeyIter I d i es.size ep/\h.DEnt d es ep) where
 sub:=fun b hb=>by simp at hb;simp[hb]
 frame:=fun _ _ _ st hk=>⟨st.1.at fun o e=>hk I (by simp) o e,st.2.at fun o e=>hk d (by simp) o e⟩
 item:=fun i s Q E hi st hQ=>by
  refine Ji st.1 st.2 hi fun h' hit' hs'=>?_
  exact hQ _ h' s.toks ⟨es[i],by simp[hi],rfl⟩ ⟨hit',st.2.at fun o e=>hs'.extBut d o hne e⟩ fun b o hb e=>hs'.extBut b o (fun z=>hb (by simp[z])) e
 done:=fun s Q E st hQ=>Kh hh st.1 st.2 (jl_ _) fun h' he'=>hQ h' s.toks fun b o hb e=>he' b o (fun z=>hb (by simp[z])) e
 self:=fun _ _ _ _ st hQ=>wpAny_pyIter_keyiter st.1 hQ
theorem VU (lo:(d == sysModules)=false):PySem.W.KdlSrc prog w "dict" d d es.size (fun i v=>∃ e,es[i]?=some e/\v=e.key) (fun h=>h.DEnt d es ep) where
 type:=fun _ hm=>hm.typeIs
 there:=fun _ hm=>⟨hm.lt_size,hm.lt_size⟩
 keep:=fun _ _ hm hk=>hm.at fun o e=>hk d (.inl rfl) o e
 notList:=by decide
 notTuple:=by decide
 hint:=fun _ _ _ _ hm hq=>PySem.W.kdl_hint_dict hm.typeIs hq
 iter:=fun _ _ hh hm=>⟨_,_,(fun _ _ hq=>P4 lo hm hq),Walks.dent hh _ (jM_ hm.lt_size),⟨⟨_,jy_ _ rfl,rfl,rfl⟩,hm.at fun o e=>jf_ _ e⟩⟩
end
end PySem
namespace L2
open PySem PySem.Spec PyProof.Rows
theorem Mc {α β:Type}{F:α->β->Prop}:∀ {l:List α} {m:List β} {i:Nat} {a:α},Paired F l m->l[i]?=some a->∃ b,m[i]?=some b/\F a b
 | _,_,_,_,.nil,e=>by simp at e
 | _,_,0,_,.cons r _,e=>by simp at e;subst e;exact⟨_,rfl,r⟩
 | _,_,i+1,a,.cons _ t,e=>by
  obtain⟨b,h1,h2⟩:=Mc (i:=i) (a:=a) t (by simpa using e)
  exact⟨b,by simpa using h1,h2⟩
theorem YL {P:Program}{w:World}{H:Hp}{h:Heap}{a:Addr}{kvs:List (List Key×V)}(ok:HOk P w H h)(e:Rd H a (.dT kvs)) :
  ∃ o es ep,h.get? a=some o/\o.ExactDict/\o.data=.dict es ep/\es.size=kvs.length/\(a == sysModules)=false/\kvs.length<=sizeLine /\
   ∀ (i:Nat) (k:List Key) (v:V),kvs[i]?=some (k,v)->∃ b en,es[i]?=some en/\en.key=.ref b/\H b=some (.tup (k.map kV)):=by
 obtain⟨z,y,xs,r,o,es,ep,h1,h2,h3,h4,h5⟩:=(show CF P w H h a (.dT kvs) from Yv ok e)
 have hl:=Paired.length r
 have hs:es.size=kvs.length:=by rw[<- jZ_,h4,ja_,hl]
 refine⟨o,es,ep,h1,h2,h3,hs,y,z,fun i k v hk=>?_⟩
 obtain⟨q,hq,e1,e2,_⟩:=Mc r hk
 refine⟨q.2.1,entryOfKey (tupleKind (BN P w)) q,?_,rfl,e2⟩
 rw[<- xo_,h4,je_,hq];rfl
theorem Ki {X:Cx}(hc:X.calm=true):EF X (.type "list") (fun xs H Q=>∃ p kvs,xs=[.ref p]/\Rd H p (.dT kvs)/\∀ l rs,H l=none->rs.length=kvs.length ->
  (∀ (i:Nat) (k:List Key) (v:V),kvs[i]?=some (k,v)->∃ b,rs[i]?=some (V.ref b)/\H b=some (.tup (k.map kV)))->Q (.ref l) (upd H l (.lst rs))):=by
 intro pins s σ H xs us Q I r h
 obtain⟨p,kvs,rfl,hp,q⟩:=h
 obtain⟨u,rfl,rx⟩:=vals1 r
 cases rx
 obtain⟨o,es,ep,g1,g2,g3,g4,g5,g6,g7⟩:=YL I.hok hp
 refine PySem.W.kdl_call (VU (es:=es) (ep:=ep) g5) (I.ok.hd hc) ⟨o,g1,g2,g3⟩ (by omega) fun h' tk acc' c' hk hD hacc=>?_
 let f:DictEntry->V:=fun e=>match e.key with | .ref b=>V.ref b | _=>.non
 have hat:∀ (i:Nat) (k:List Key) (v:V),kvs[i]?=some (k,v)->∃ b,(es.toList.map f)[i]?=some (V.ref b)/\H b=some (.tup (k.map kV)):=fun i k v hkv=>by
  obtain⟨b,en,e1,e2,e3⟩:=g7 i k v hkv
  refine⟨b,?_,e3⟩
  rw[je_,xo_,e1]
  show some (f en)=_
  simp only[f,e2]
 have hlen:(es.toList.map f).length=kvs.length:=by rw[ja_,jZ_,g4]
 have hv:Vals (es.toList.map f) acc'.toList:=by
  refine Vals.ofIx (by rw[hlen,<- g4];simpa using hacc.1) fun i v hv=>?_
  obtain⟨e,he,rfl⟩:=hacc.2 i v (by simpa using hv)
  have hi:i<kvs.length:=by rw[<- g4];exact (Array.getElem?_eq_some_iff.mp he).1
  obtain⟨b,en,e1,e2,e3⟩:=g7 i kvs[i].1 kvs[i].2 (by simp[hi])
  rw[he] at e1
  cases e1
  refine⟨V.ref b,?_,by rw[e2];rfl⟩
  rw[je_,xo_,he]
  show some (f e)=_
  simp only[f,e2]
 exact⟨.ref _,_,I.laid (t':=tk) hk (jl_ _) (show CF X.prog X.w _ h' _ (.lst (es.toList.map f)) from ⟨by rw[hlen];exact g6,acc'.toList,c',hv,by simpa using hD⟩),rfl,q _ _ (I.hok.fresh (jl_ _)) hlen hat⟩
end L2
namespace GB
open GW
variable {α:Type} [DecidableEq α]
def Bm_ (step:α->Int->α)(a:α)(ws:α2):α:=ws.foldl step a
structure B (L:Int)(step:α->Int->α)(st:α)(ok:α->Prop)(ents:List (α×α2))(i:Nat)(top:Int):Prop where
 hd:ents[0]?=some (st,[])
 il:i<=ents.length
 sh:∀ (j:Nat) (e:α×α2),ents[j]?=some e->e.2.length<=j
 nod:(ents.map (·.1)).Nodup
 rng:∀ e∈ents,ok e.1
 wd:∀ e∈ents,isW L e.2=true/\Bm_ step st e.2=e.1
 inc:∀ (j k:Nat) (a b:α×α2),j<k->ents[j]?=some a->ents[k]?=some b->place L a.2<place L b.2
 bnd:∀ e∈ents,place L e.2<top
 don:∀ j,j<i->∀ e,ents[j]?=some e->∀ x:Int,0<=x->x<L->∃ e'∈ents,e'.1=step e.1 x/\place L e'.2<=place L (e.2 ++ [x])
variable {L:Int} {step:α->Int->α} {st:α} {ok:α->Prop} {ents:List (α×α2)} {i:Nat} {top:Int}
def B2 (ways:α1)(r:Int)(ws:α2):Int:=ws.foldl (Bm ways) r
theorem BP (ways:α1)(ws:α2):B2 ways 0 ws=AL ways ws:=rfl
theorem BQ (ways:α1)(r x:Int)(ws:α2):B2 ways r (x::ws)=B2 ways (Bm ways r x) ws:=rfl
theorem Sd (ways:α1)(r x:Int)(ws:α2):B2 ways r (ws ++ [x])=Bm ways (B2 ways r ws) x:=by
 unfold B2
 rw[qp_];rfl
theorem Se {ways:α1}{ws:α2}{i:Nat}{x r:Int}(h:ws[i]?=some x):B2 ways r (ws.take (i+1))=Bm ways (B2 ways r (ws.take i)) x:=by
 rw[jP_,h]
 exact Sd _ _ _ _
theorem MN {L:Int}{marks:α2}{ways:α1}(wf:Wf L marks ways):∀ (ws:α2) {r:Int},isW L ws=true->0<=r->r<marks.length->0<=B2 ways r ws/\B2 ways r ws<marks.length
 | [],r,_,h0,h1=>⟨h0,h1⟩
 | x::ws,r,hv,h0,h1=>by
  have hx:=AT.mp hv x jo_
  obtain⟨_,g,_,_,h,g0,g1⟩:=wf.step h0 h1 hx.1 hx.2
  rw[BQ,h]
  exact MN wf ws (AT.mpr fun y hy=>AT.mp hv y (jr_ _ hy)) g0 g1
end GB
namespace L2
open PySem PySem.Spec PyProof.Rows GW GB
def TK (H H':Hp):Prop:=∀ b xs,H b=some (.tup xs)->H' b=some (.tup xs)
theorem TK.refl (H:Hp):TK H H:=fun _ _ h=>h
theorem TK.of {H H':Hp}(s:Same H H'):TK H H':=fun b xs h=>s b _ h
theorem TK.trans {H H' H'':Hp}(a:TK H H')(b:TK H' H''):TK H H'':=fun c xs h=>b c xs (a c xs h)
theorem TK.new {H:Hp}{p:Addr}{o:HO}(h:H p=none):TK H (upd H p o):=TK.of (Same.new h)
theorem TK.lst {H:Hp}{p:Addr}{o:HO}{xs:List V}(h:H p=some (.lst xs)):TK H (upd H p o):=fun b ys e=>by rw[Ah (fun z=>by rw[z,h] at e;cases e)];exact e
theorem YM {κ:Type}[DecidableEq κ]{kvs:List (κ×V)}{i:Nat}{k:κ}{v:V}(hn:(kvs.map (·.1)).Nodup)(h:kvs[i]?=some (k,v)):valV kvs k=some v:=by
 induction kvs generalizing i with
 | nil=>simp at h
 | cons p r ih =>
  rw[jV_,qG_] at hn
  cases i with
  | zero=>simp at h;subst h;exact JV rfl
  | succ i =>
   have h':r[i]?=some (k,v):=by simpa using h
   rw[JW (fun z=>hn.1 (jv_.mpr ⟨(k,v),jg_ h',z.symm⟩))]
   exact ih hn.2 h'
end L2
namespace L2
theorem Uz {σ:St}{H:Hp}{Q:VK}:T4 σ H Q=∀ p,H p=none->Q (.ref p) (upd H p (.dK [])):=rfl
theorem UA {σ:St}{H:Hp}{Q:VK}:T5 σ H Q=∀ p,H p=none->Q (.ref p) (upd H p (.dT [])):=rfl
end L2
namespace GB
open GW
theorem MO {L x:Int}{w:α2}:isW L (x::w)=true↔(0<=x/\x<L)/\isW L w=true:=by
 rw[AT,AT]
 simp
theorem VW {L:Int}{w:α2}(h:isW L w=true)(j:Nat):isW L (w.take j)=true:=AT.mpr fun x hx=>AT.mp h x (xb_ hx)
theorem MQ {L:Int}{v w:α2}(h:isW L v=true)(g:isW L w=true):isW L (v++w)=true:=AT.mpr fun x hx=>(jB_.mp hx).elim (AT.mp h x) (AT.mp g x)
end GB
namespace L2
open GW
def Sf (n:Nat)(num:Int):α2:=0::(List.range (n-1)).map fun j:Nat=>1+((j:Int)+num)%((n:Int)-1)
theorem UB {n:Nat}(hn:2<=n)(num:Int):Ey n (Sf n num):=by
 have rng:∀ j:Nat,0<=((j:Int)+num)%((n:Int)-1)/\((j:Int)+num)%((n:Int)-1)<(n:Int)-1:=fun j=>⟨q3_ _ (by omega),qD_ _ (by omega)⟩
 refine⟨Kf ?_ (fun x hx=>?_) ?_,rfl⟩
 ·unfold Sf
  rw[qG_]
  refine⟨fun h=>?_,?_⟩
  ·obtain⟨j,_,e⟩:=jv_.mp h
   have:=rng j
   omega
  ·refine xU_.mpr (List.Pairwise.imp_of_mem (fun {a b} ha hb hab z=>hab ?_) List.nodup_range)
   have ha:=jW_.mp ha
   have hb:=jW_.mp hb
   have z:((a:Int)+num)%((n:Int)-1)=((b:Int)+num)%((n:Int)-1):=by omega
   have key:∀ {a b:Nat},b<=a->a<n-1->((a:Int)+num)%((n:Int)-1)=((b:Int)+num)%((n:Int)-1)->a=b:=fun {a b} h1 h2 z=>by
    have:=Int.emod_eq_emod_iff_emod_sub_eq_zero.mp z
    rw[show (a:Int)+num-((b:Int)+num)=(a:Int)-b by omega,Int.emod_eq_of_lt (by omega) (by omega)] at this
    omega
   rcases Nat.le_total b a with h | h
   ·exact key h ha z
   ·exact (key h hb z.symm).symm
 ·rw[Uw]
  unfold Sf at hx
  rcases jC_.mp hx with rfl | hx
  ·omega
  ·obtain⟨j,_,rfl⟩:=jv_.mp hx
   have:=rng j
   omega
 ·unfold Sf
  rw[Ux];simp;omega
end L2
namespace L2
open PySem PySem.Spec PyProof.Rows GW
theorem Same.none {H H':Hp}(s:Same H H'){p:Addr}(h:H' p=none):H p=none:=by
 cases e:H p with
 | none=>rfl
 | some u=>rw[s _ _ e] at h;cases h
def AE (K:α3)(H:Hp)(xs:List V)(ws:α1):Prop:=xs.length=ws.length/\∀ (i:Nat) (w:α2),ws[i]?=some w->∃ t,xs[i]?=some (.ref t)/\H t=some (.tup (w.map V.int))
theorem AE.nil {K:α3}{H:Hp}:AE K H [] []:=⟨rfl,fun i w h=>by simp at h⟩
theorem AE.mono {K:α3}{H H':Hp}{xs:List V}{ws:α1}(h:AE K H xs ws)(k:TK H H'):AE K H' xs ws:=by
 refine⟨h.1,fun i w hw=>?_⟩
 obtain⟨t,a,b⟩:=h.2 i w hw
 exact⟨t,a,k _ _ b⟩
theorem AE.snoc {K:α3}{H:Hp}{xs:List V}{ws:α1}(h:AE K H xs ws){t:Addr}{w:α2}(ht:H t=some (.tup (w.map V.int))):AE K H (xs ++ [.ref t]) (ws ++ [w]):=by
 refine⟨by rw[jq_,jq_,h.1];rfl,fun i v hi=>?_⟩
 by_cases hil:i<ws.length
 ·rw[jk_ hil] at hi
  rw[jk_ (by rw[h.1];exact hil)]
  exact h.2 i v hi
 ·have:=(jc_.mp hi).1
  rw[jq_,j3_] at this
  have ei:i=ws.length:=by omega
  subst ei
  rw[jt_ (jl_ _),q2_] at hi
  simp at hi
  subst hi
  refine⟨t,?_,ht⟩
  rw[jt_ (by rw[h.1];exact jl_ _),h.1,q2_];rfl
theorem AE.at {K:α3}{H:Hp}{xs:List V}{ws:α1}(h:AE K H xs ws){i:Nat}{x:V}(hx:xs[i]?=some x):∃ t w,ws[i]?=some w/\x=.ref t/\H t=some (.tup (w.map V.int)):=by
 have hi:i<ws.length:=by rw[<- h.1];exact (jc_.mp hx).1
 obtain⟨t,a,b⟩:=h.2 i ws[i] (by simp[hi])
 rw[hx] at a
 exact⟨t,ws[i],by simp[hi],js_ a,b⟩
theorem GX.ofS {K:α3}{H:Hp}{Q:VK}{a b:Addr}{xs ys:List V}(ha:H a=some (.tup xs))(hb:H b=some (.tup ys))(hz:xs.length+ys.length<=sizeLine)(h:∀ p H',Same H H'->H' p=some (.tup (xs++ys))->Q (.ref p) H'):GX K (.ref a) (.ref b) H Q:=by
 refine⟨a,b,xs,ys,rfl,rfl,SqT.of ha,SqT.of hb,hz,fun e=>?_,fun _ e=>?_,fun _ _ p hp=>h p _ (Same.new hp) Ab⟩
 ·subst e;exact h b H (Same.refl _) (by simpa using hb)
 ·subst e;exact h a H (Same.refl _) (by simpa using ha)
theorem Inv.unL {X:Cx}{pins:α7}{σ:St}{H:Hp}{s:Shared}{h':Heap}{fp:List Addr}(I:Inv X pins σ H s)(k:∀ b o,b∉fp->s.heap.get? b=some o->h'.get? b=some o)(f:∀ b∈fp,FpOk X pins H b):Un (frs X.stack) fp H H s.heap h'/\HOk X.prog X.w H h':=by
 have ne:∀ b u,H b=some u->b∉fp:=fun b u q hb=>by rw[(f b hb).1] at q;cases q
 refine⟨⟨fun b o q _ _ hb=>k b o hb q,fun b o q _ _ hb=>⟨o.slots,k b o hb q⟩,fun _ _ _ n _=>n,fun b o q hb=>⟨o,k b o hb q⟩,fun _ _ q=>q,fun _ _ _ q=>q,fun b ps q=>⟨#[],by rw[q];simp⟩⟩,fun b u q=>?_⟩
 refine (I.hok b u q).stay (fun c v hc qv=>?_) (fun _ q=>q) fun _ _ q=>q
 have hne:c∉fp:=by
  rcases hc with rfl | hc
  ·exact ne _ _ q
  ·exact ne _ _ hc
 exact k c v hne qv
end L2
namespace GW
def ins (s:α1)(w:α2):α1:=if w∈s then s else s ++ [w]
theorem YN (s:α1)(w:α2):(ins s w).length<=s.length+1:=by
 unfold ins;split
 ·omega
 ·simp
theorem EW:∀ (l s:α1),(l.foldl ins s).length<=s.length+l.length
 | [],s=>by simp
 | w::l,s=>by
  have h1:=EW l (ins s w)
  have h2:=YN s w
  rw[qT_,jT_];omega
end GW
namespace L2
open PySem PySem.Spec PyProof.Rows GW
def wkey (w:α2):List Key:=w.map Sum.inl
theorem MR (w:α2):(wkey w).map kV=w.map V.int:=by unfold wkey;rw[jQ_];rfl
theorem HG {v w:α2}(h:wkey v=wkey w):v=w:=(zV_ (fun x y z=>Sum.inl.inj z)).mp h
def GK (ws:α1)(kvs:List (List Key×V)):Prop:=kvs.map (·.1)=ws.map wkey
theorem GK.len {ws:α1}{kvs:List (List Key×V)}(h:GK ws kvs):kvs.length=ws.length:=by
 have:=jJ_ List.length h
 simpa using this
theorem GK.some_iff {ws:α1}{kvs:List (List Key×V)}(h:GK ws kvs)(w:α2):(valV kvs (wkey w)).isSome=decide (w∈ws):=by
 rw[<- Fa,qn_,qh_,x5_]
 constructor
 ·rintro⟨kv,hkv,e⟩
  have e:=qB_ e
  have:wkey w∈ws.map wkey:=by rw[<- h,<- e];exact jv_.mpr ⟨kv,hkv,rfl⟩
  obtain⟨q,hq,e2⟩:=jv_.mp this
  exact HG e2 ▸ hq
 ·intro hw
  have:wkey w∈kvs.map (·.1):=by rw[h];exact jv_.mpr ⟨w,hw,rfl⟩
  obtain⟨kv,hkv,e⟩:=jv_.mp this
  exact⟨kv,hkv,qj_ e⟩
theorem GK.put {ws:α1}{kvs:List (List Key×V)}(h:GK ws kvs)(w:α2)(v:V):GK (ins ws w) (putK kvs (wkey w) v):=by
 have hs:=h.some_iff w
 unfold putK ins
 rw[Fa,hs]
 by_cases hw:w∈ws
 ·rw[if_pos hw,if_pos (show decide (w∈ws)=true from qj_ hw)]
  unfold GK
  rw[<- h,jQ_]
  refine qd_ fun kv _=>?_
  show (if kv.1=wkey w then (kv.1,v) else kv).1=kv.1
  split<;>rfl
 ·rw[if_neg hw,if_neg (show ¬ decide (w∈ws)=true by simp[hw])]
  unfold GK
  rw[jR_,jR_,h];rfl
theorem GK.nil:GK [] []:=rfl
theorem GK.words {K:α3}{H:Hp}{ws:α1}{kvs:List (List Key×V)}{rs:List V}(h:GK ws kvs)(hl:rs.length=kvs.length)(hr:∀ (i:Nat) (k:List Key) (v:V),kvs[i]?=some (k,v)->∃ b,rs[i]?=some (V.ref b)/\H b=some (.tup (k.map kV))):AE K H rs ws:=by
 refine⟨by rw[hl,h.len],fun i w hw=>?_⟩
 have hi:i<kvs.length:=by rw[h.len];exact (jc_.mp hw).1
 have e:(kvs.map (·.1))[i]?=some (wkey w):=by rw[h,je_,hw];rfl
 rw[je_,ji_ hi] at e
 have e:kvs[i].1=wkey w:=js_ e
 obtain⟨b,b1,b2⟩:=hr i kvs[i].1 kvs[i].2 (by simp[hi])
 exact⟨b,b1,by rw[b2,e,MR]⟩
end L2
namespace PySem.W
open PySem PySem.Calls PyProof.Rows PyProof.V PySem.Spec
end PySem.W
namespace PySem.W
open PySem PySem.Calls PyProof.Rows PyProof.V PySem.Spec
end PySem.W
namespace L2
open PySem PySem.Spec PyProof.Rows
theorem Ru {P:Program}{w:World}{fs:List Addr}{H0:Hp}{h0 h':Heap}:∀ (as:List (Addr×List V)),(as.map (·.1)).Nodup ->
  (∀ p∈as,h0.objs.size<=p.1/\p.2.length<=sizeLine/\∃ its:List Value,Vals p.2 its/\IsTup h' p.1 its.toArray)->∀ H,Un fs [] H0 H h0 h'->HOk P w H h'->(∀ p∈as,H p.1=none) ->
  ∃ H2,Un fs [] H0 H2 h0 h'/\HOk P w H2 h'/\Same H H2/\(∀ p∈as,H2 p.1=some (.tup p.2))/\∀ b,b∉as.map (·.1)->H2 b=H b
 | [],_,_,H,u,k,_=>⟨H,u,k,Same.refl _,(fun p hp=>by simp at hp),fun b _=>rfl⟩
 | p::r,nd,hp,H,u,k,hn=>by
  rw[jV_,qG_] at nd
  obtain⟨h1,h2,its,h3,h4⟩:=hp p jo_
  have hnp:=hn p jo_
  have k2:HOk P w (upd H p.1 (.tup p.2)) h':=k.track hnp ⟨h2,its,h3,h4⟩
  obtain⟨H2,e1,e2,e3,e4,e5⟩:=Ru r nd.2 (fun q hq=>hp q (jr_ _ hq)) (upd H p.1 (.tup p.2)) (u.track h1 hnp) k2 (fun q hq=>by
   have hne:q.1≠p.1:=fun z=>nd.1 (by rw[<- z];exact xe_ hq)
   rw[Ah hne]
   exact hn q (jr_ _ hq))
  refine⟨H2,e1,e2,(Same.new hnp).trans e3,fun q hq=>?_,fun b hb=>?_⟩
  ·rcases jC_.mp hq with rfl | hq
   ·exact e3 _ _ Ab
   ·exact e4 q hq
  ·rw[jV_,jC_,not_or] at hb
   rw[e5 b hb.2,Ah hb.1]
theorem Vals.two' {x y:V}{u v:Value}(h1:RelV x u)(h2:RelV y v):Vals [x,y] [u,v]:=.cons h1 (.cons h2 .nil)
def ents (es:List (α2×Int)):List (List Key×V):=es.map fun e=>(wkey e.1,V.int e.2)
def UC:V->List V->Hp->VK->Prop:=fun x vs H Q=>∃ l xs y j,x=.ref l/\vs=[y]/\H l=some (.lst xs)/\DK y=true/\xs.all DK=true/\j<1000000/\(∃ z,xs[j]?=some z/\eqV z y=true)/\(∀ m z,m<j->xs[m]?=some z->eqV z y=false)/\Q (.int (j:Nat)) H
theorem Rv {x:V}{vs:List V}{H:Hp}{Q:VK}:UC x vs H Q=∃ l xs y j,x=.ref l/\vs=[y]/\H l=some (.lst xs)/\DK y=true/\xs.all DK=true/\j<1000000/\(∃ z,xs[j]?=some z/\eqV z y=true)/\(∀ m z,m<j->xs[m]?=some z->eqV z y=false)/\Q (.int (j:Nat)) H:=rfl
theorem YO {x z:V}{u:Value}(r:RelV z u)(f:DK z=true):eqU x u=eqV z x:=by
 have:=Mz (x:=x) (xs:=[z]) (us:=[u]) (.cons r .nil) (by simp[f])
 simpa using this
theorem UD {X:Cx}:MtM X "list.index" UC:=by
 intro pins s σ H x vs v us Q I rx rv h
 obtain⟨l,xs,y,j,rfl,rfl,hH,fy,fs,hj,⟨z,hz1,hz2⟩,hno,q⟩:=h
 cases rx
 obtain⟨u,rfl,ry⟩:=vals1 rv
 obtain⟨zz,its,n,r,hl,e⟩:=I.lstM hH
 have get:∀ (m:Nat) (hm:m<its.toArray.size) (w:V),xs[m]?=some w->DK w=true->eqU y its.toArray[m]=eqV w y:=fun m hm w hw fw=>by
  obtain⟨w',e1,e2⟩:=r.get hw
  have e3:its.toArray[m]=w':=by
   have:its[m]?=some its.toArray[m]:=by simp at hm;simp[hm]
   rw[e1] at this
   exact (js_ this).symm
  rw[e3]
  exact YO e2 fw
 have fl:∀ (m:Nat) (w:V),xs[m]?=some w->DK w=true:=fun m w hw=>xh_.mp fs w (jg_ hw)
 have hjx:=(jc_.mp hz1).1
 have hjs:j<its.toArray.size:=by rw[jj_];omega
 refine xD_ F.slot_list_index ⟨_,e,rfl⟩ F.entry_list_index (F.args_list_index_2 _ _) (SeqAt.list_indexAt l its.toArray n none #[] u (eqU y) j hjs (by omega) ?_ fun m hm hmj=>?_) ⟨e,fun w hw=>JU ry fy r fs w (by simpa using hw),?_⟩
 ·rw[get j hjs z hz1 (fl j z hz1)];exact hz2
 ·have hmx:xs[m]?=some xs[m]:=by simp[show m<xs.length by omega]
  rw[get m hm _ hmx (fl m _ hmx)]
  exact hno m _ hmj hmx
 ·exact⟨.int (j:Nat),H,I.tok _,⟨_,rfl⟩,q⟩
end L2
namespace L2
open PySem PySem.W PySem.Spec PySem.Calls PyProof.Rows
theorem Ug.ofS {K:α3}{H:Hp}{Q:VK}{l:Addr}{k:Int}{xs:List V}(hq:H l=some (.tup xs))(hne:xs ≠ [])(h1 : -(2 ^ 63)<=k)(h2:k<2 ^ 63)(hz:xs.length*k.toNat<=sizeLine)(h:∀ p H',Same H H'->H' p=some (.tup (List.replicate k.toNat xs).flatten)->Q (.ref p) H'):Ug K (.ref l) (.int k) H Q:=by
 refine⟨l,k,xs,rfl,rfl,SqT.of hq,hne,h1,h2,hz,fun e=>?_,fun _ p hp=>h p _ (Same.new hp) Ab⟩
 subst e
 exact h l H (Same.refl _) (by simpa using hq)
end L2
namespace PrimeO
def Bn_ (p:Nat):Prop:=∀ d,2<=d->d<p->p%d≠0
def Pr (p:Int):Prop:=2<=p/\p<1000000000000000000/\Bn_ p.toNat
end PrimeO
namespace PySem
open Sem (wp)
open PySem.F
section
variable {prog:Program} {w:World} {A:Around} {E:Value->Shared->Prop} {s:Shared}
theorem FU {it l:Addr}{i:Nat}{items}{x:Value}{Q:Value->Shared->Prop}(hit:s.heap.IsTupleIter it l i)
  (hl:s.heap.IsTuple l items) (hx:items[i]?=some x)
  (hQ:∀ h',h'.IsTupleIter it l (i+1)->Heap.SameBut it s.heap h'->Q x {s with heap:=h' }) :
  wpAny (model prog w) A (Builtin.SmallTypes.nextOf (.ref it)) Q E s:=by
 obtain⟨o,ho,hc,hd⟩:=id hit
 obtain⟨ol,hol,_,nl,hdl⟩:=hl
 unfold Builtin.SmallTypes.nextOf
 refine jb_ (j2_ (name:=Str.ofString "__next__") hit.typeIs qX_
  (qo_ qX_ hit.typeIs ze_ ?_ (x8_ _)))
 show wpAny _ _ (field (.ref it) 0 >>= _) _ _ s
 refine jb_ (j5_ ho hd (x:=.ref l) rfl ?_)
 show wpAny _ _ (if (Value.ref l == Value.none)=true then _ else _) _ _ s
 rw[if_neg (show ¬ ((Value.ref l == Value.none)=true) from jp_)]
 show wpAny _ _ (field (.ref it) 1 >>= _) _ _ s
 refine jb_ (j5_ ho hd (x:=.int i 0) rfl ?_)
 show wpAny _ _ (seqItems? (.ref l) >>= _) _ _ s
 refine jb_ (qz_ hol hdl ?_)
 simp only[jh_,hx]
 refine jb_ (x2_ ho hd (by simp) (jm_ ⟨x,rfl,jm_ (hQ _ ?_ (xd_ ..))⟩))
 exact⟨_,qt_ _ ho (zx_ (xn_ hd _)),(Obj.cls_mapFields ..).trans hc,by
  rw[xn_ hd];simp[rawInt]⟩
theorem F6 {it l:Addr}{i:Nat}{items}{Q:Value->Shared->Prop}(hh:A.handled=none)
  (hit:s.heap.IsTupleIter it l i) (hl:s.heap.IsTuple l items) (hx:items[i]?=none)
  (hE:∀ h' e,Heap.ExtBut it s.heap h'->(∃ o,h'.get? e=some o/\o.cls=.type "StopIteration")->E (.ref e) {s with heap:=h' }) :
  wpAny (model prog w) A (Builtin.SmallTypes.nextOf (.ref it)) Q E s:=by
 obtain⟨o,ho,hc,hd⟩:=id hit
 obtain⟨ol,hol,_,nl,hdl⟩:=hl
 unfold Builtin.SmallTypes.nextOf
 refine jb_ (j2_ (name:=Str.ofString "__next__") hit.typeIs qX_
  (qo_ qX_ hit.typeIs ze_ ?_ (x8_ _)))
 show wpAny _ _ (field (.ref it) 0 >>= _) _ _ s
 refine jb_ (j5_ ho hd (x:=.ref l) rfl ?_)
 show wpAny _ _ (if (Value.ref l == Value.none)=true then _ else _) _ _ s
 rw[if_neg (show ¬ ((Value.ref l == Value.none)=true) from jp_)]
 show wpAny _ _ (field (.ref it) 1 >>= _) _ _ s
 refine jb_ (j5_ ho hd (x:=.int i 0) rfl ?_)
 show wpAny _ _ (seqItems? (.ref l) >>= _) _ _ s
 refine jb_ (qz_ hol hdl ?_)
 simp only[jh_,hx]
 refine jb_ (zF_ (jb_ (x2_ ho hd (by simp) ?_)))
 show wpAny _ _ (newExc (.type "StopIteration") [] >>= _) _ _ _
 refine jb_ ?_
 simp only[newExc,newTuple]
 refine jb_ (qg_ ?_ (by size_fits))
 refine jb_ (m:=firstArgMember _ _) (wpAny_of_eq (a:=Value.none) (by first | rfl | (simp only[firstArgMember];rfl)) ?_)
 refine qg_ ?_ (by size_fits)
 simp only[raiseNew]
 refine jb_ (wpAny_handled ?_)
 first | rw[show A.in1.handled=none from hh] | rw[hh]
 refine jb_ (jm_ (wpAny_throw ?_))
 exact hE _ _ (((xd_ ..).extBut.push _).push _) ⟨_,jy_ _ rfl,rfl⟩
end
def Dp (t:Bool)(h:Heap)(l:Addr)(xs:Array Value):Prop:=match t with | false=>h.IsList l xs | true=>h.IsTuple l xs
def Cr (t:Bool)(h:Heap)(i l:Addr)(k:Nat):Prop:=match t with | false=>h.IsListIter i l k | true=>h.IsTupleIter i l k
theorem Dp.extBut {t:Bool}{h h':Heap}{a b items}(x:Dp t h a items)(hs:Heap.ExtBut b h h')(hab:a≠b):Dp t h' a items:=by
 cases t
 ·exact Heap.IsList.extBut x hs hab
 ·exact Heap.IsTuple.extBut x hs hab
theorem Dp.push {t:Bool}{h:Heap}{a items}(x:Dp t h a items)(o:Obj):Dp t (h.push o) a items:=by
 cases t
 ·exact Heap.IsList.push x o
 ·exact Heap.IsTuple.push x o
theorem Dp.lt {t:Bool}{h:Heap}{a items}(x:Dp t h a items):a<h.objs.size:=by
 cases t
 ·obtain⟨_,e,_⟩:=x;exact jn_ e
 ·obtain⟨_,e,_⟩:=x;exact jn_ e
theorem Cr.extBut {t:Bool}{h h':Heap}{a b l i}(x:Cr t h a l i)(hs:Heap.ExtBut b h h')(hab:a≠b):Cr t h' a l i:=by
 cases t
 ·exact Heap.IsListIter.extBut x hs hab
 ·exact Heap.IsTupleIter.extBut x hs hab
theorem Cr.at {t:Bool}{h h':Heap}{a l i}(x:Cr t h a l i)(e:∀ o,h.get? a=some o->h'.get? a=some o):Cr t h' a l i:=by
 cases t
 ·exact Heap.IsListIter.at x e
 ·exact Heap.IsTupleIter.at x e
theorem Cr.ob {t:Bool}{h:Heap}{a l i}(x:Cr t h a l i):∃ o,h.get? a=some o/\o.data=.fields #[.ref l,.int i 0]:=by
 cases t
 ·obtain⟨o,e,_,d⟩:=x;exact⟨o,e,d⟩
 ·obtain⟨o,e,_,d⟩:=x;exact⟨o,e,d⟩
theorem Cr.lt {t:Bool}{h:Heap}{a l i}(x:Cr t h a l i):a<h.objs.size:=by
 obtain⟨_,e,_⟩:=x.ob;exact jn_ e
section
variable {prog:Program} {w:World} {A:Around} {E:Value->Shared->Prop} {s:Shared}
theorem Cs {t:Bool}{it l:Addr}{i:Nat}{items}{x:Value}{Q:Value->Shared->Prop}(hit:Cr t s.heap it l i)(hl:Dp t s.heap l items)(hx:items[i]?=some x)
  (hQ:∀ h',Cr t h' it l (i+1)->Heap.SameBut it s.heap h'->Q x {s with heap:=h' }):wpAny (model prog w) A (Builtin.SmallTypes.nextOf (.ref it)) Q E s:=by
 cases t
 ·exact zp_ hit hl hx hQ
 ·exact FU hit hl hx hQ
theorem DT {t:Bool}{it l:Addr}{i:Nat}{items}{Q:Value->Shared->Prop}(hh:A.handled=none)(hit:Cr t s.heap it l i)(hl:Dp t s.heap l items)(hx:items[i]?=none)
  (hE:∀ h' e,Heap.ExtBut it s.heap h'->(∃ o,h'.get? e=some o/\o.cls=.type "StopIteration")->E (.ref e) {s with heap:=h' }):wpAny (model prog w) A (Builtin.SmallTypes.nextOf (.ref it)) Q E s:=by
 cases t
 ·exact wpAny_nextOf_list_end hh hit hl hx hE
 ·exact F6 hh hit hl hx hE
def UE (t:Bool):Value:=match t with | false=>.type "list_iterator" | true=>.type "tuple_iterator"
theorem Cr.mk {t:Bool}{h:Heap}{a l:Addr}(g:h.get? a=some {cls:=UE t,data:=.fields #[.ref l,.int 0 0]}):Cr t h a l 0:=by
 cases t
 ·exact⟨_,g,rfl,rfl⟩
 ·exact⟨_,g,rfl,rfl⟩
theorem FM {t:Bool}{l:Addr}{items}{Q:Value->Shared->Prop}(hl:Dp t s.heap l items)
  (hQ:Q (.ref s.heap.objs.size) {s with heap:=s.heap.push {cls:=UE t,data:=.fields #[.ref l,.int 0 0]} }):wpAny (model prog w) A (pyIter (.ref l)) Q E s:=by
 cases t
 ·exact zq_ hl hQ
 ·exact xk_ hl hQ
end
section
variable {prog:Program} {w:World} {A:Around} {E:Value->Shared->Prop} {s:Shared}
theorem LD {t1 t2:Bool}{z TI TO i1 i2 l1 l2:Addr}{k1 k2:Nat}{xs ys:Array Value}{x y a b:Value}{Q:Value->Shared->Prop}(D:ZipApart z TI TO i1 i2 l1 l2)
  (hz:IsZip s.heap z TI TO .none) (hTI:IsPair s.heap TI (.ref i1) (.ref i2)) (hTO:IsPair s.heap TO a b)
  (h1:Cr t1 s.heap i1 l1 k1) (h2:Cr t2 s.heap i2 l2 k2) (hl1:Dp t1 s.heap l1 xs) (hl2:Dp t2 s.heap l2 ys) (hx:xs[k1]?=some x) (hy:ys[k2]?=some y)
  (hQ:∀ h',IsZip h' z TI TO (rawInt s.heap.objs.size)->IsPair h' TO x y->Cr t1 h' i1 l1 (k1+1)->Cr t2 h' i2 l2 (k2+1)->IsPair h' s.heap.objs.size x y->h'.objs.size=s.heap.objs.size+1 ->
   (∀ c o,c≠z->c≠TO->c≠i1->c≠i2->s.heap.get? c=some o->h'.get? c=some o)->Q (.ref s.heap.objs.size) {s with heap:=h' }) :
  wpAny (model prog w) A (Builtin.«zip.__next__» ⟨[.ref z],[]⟩) (fun fin s'=>∃ v,fin=.done (.ret v)/\Q v s') E s:=by
 show wpAny _ _ (field (.ref z) 2 >>= _) _ _ _
 refine jb_ (j5_ hz rfl (x:=.bool false) rfl ?_)
 show wpAny _ _ (field (.ref z) 3 >>= _) _ _ _
 refine jb_ (j5_ hz rfl (x:=.ref TI) rfl ?_)
 refine jb_ (qz_ hTI rfl ?_)
 show wpAny _ _ (Builtin.SmallTypes.ownedTupleIsFree (.ref z) >>= _) _ _ _
 refine jb_ ?_
 unfold Builtin.SmallTypes.ownedTupleIsFree
 refine jb_ (j5_ hz rfl (x:=.none) rfl (jm_ ?_))
 simp only[xY_]
 refine jb_ (zF_ ?_)
 refine jb_ (j5_ hz rfl (x:=.ref TO) rfl ?_)
 refine jb_ (q7_ hz (by simp) fun h₁ hz₁ hs₁=>?_)
 replace hz₁:IsZip h₁ z TI TO .ellipsis:=hz₁
 refine jb_ ?_
 simp only[List.zipIdx_cons,List.zipIdx_nil,zc_,zW_]
 refine jb_ (jb_ (wpAny_onRaise ?_))
 show wpAny _ _ (Builtin.SmallTypes.nextOf (.ref i1) >>= _) _ _ _
 refine jb_ (Cs (h1.extBut hs₁.extBut D.i1z) (hl1.extBut hs₁.extBut D.l1z) hx fun h₂ h1₂ hs₂=>jm_ ?_)
 have hTO₂:IsPair h₂ TO a b:=hs₂.extBut _ _ D.TOi1 (hs₁.extBut _ _ D.TOz hTO)
 refine jb_ (qz_ hTO₂ rfl ?_)
 refine jb_ (zD_ hTO₂ fun h₃ hTO₃ hs₃=>?_)
 replace hTO₃:IsPair h₃ TO x b:=hTO₃
 refine jb_ (zL_ (jm_ ?_))
 refine jb_ (jb_ (wpAny_onRaise ?_))
 show wpAny _ _ (Builtin.SmallTypes.nextOf (.ref i2) >>= _) _ _ _
 refine jb_ (Cs (((h2.extBut hs₁.extBut D.i2z).extBut hs₂.extBut D.i12.symm).extBut hs₃.extBut D.TOi2.symm)
  (((hl2.extBut hs₁.extBut D.l2z).extBut hs₂.extBut D.l2i1).extBut hs₃.extBut D.l2TO) hy fun h₄ h2₄ hs₄=>jm_ ?_)
 have hTO₄:IsPair h₄ TO x b:=hs₄.extBut _ _ D.TOi2 hTO₃
 refine jb_ (qz_ hTO₄ rfl ?_)
 refine jb_ (zD_ hTO₄ fun h₅ hTO₅ hs₅=>?_)
 replace hTO₅:IsPair h₅ TO x y:=hTO₅
 refine jb_ (zL_ (jm_ (jm_ ?_)))
 refine jb_ (qz_ hTO₅ rfl ?_)
 refine jb_ (wpAny_newTuple ?_)
 have hsz:h₅.objs.size=s.heap.objs.size:=by rw[hs₅.1,hs₄.1,hs₃.1,hs₂.1,hs₁.1]
 have hz₅:IsZip h₅ z TI TO .ellipsis:=hs₅.extBut _ _ D.TOz.symm (hs₄.extBut _ _ D.i2z.symm (hs₃.extBut _ _ D.TOz.symm (hs₂.extBut _ _ D.i1z.symm hz₁)))
 have hk₅:∀ c o,c≠z->c≠TO->c≠i1->c≠i2->s.heap.get? c=some o->h₅.get? c=some o:=fun c o c1 c2 c3 c4 e =>
  hs₅.extBut _ _ c2 (hs₄.extBut _ _ c4 (hs₃.extBut _ _ c2 (hs₂.extBut _ _ c3 (hs₁.extBut _ _ c1 e))))
 have h1₅:Cr t1 h₅ i1 l1 (k1+1):=((h1₂.extBut hs₃.extBut D.TOi1.symm).extBut hs₄.extBut D.i12).extBut hs₅.extBut D.TOi1.symm
 have h2₅:Cr t2 h₅ i2 l2 (k2+1):=h2₄.extBut hs₅.extBut D.TOi2.symm
 have hzlt:z<h₅.objs.size:=jn_ hz₅
 have hTOlt:TO<h₅.objs.size:=jn_ hTO₅
 have hi1lt:i1<h₅.objs.size:=h1₅.lt
 have hi2lt:i2<h₅.objs.size:=h2₅.lt
 show wpAny _ _ (Builtin.SmallTypes.ownedTupleHandOut (.ref z) (.ref h₅.objs.size) >>= _) _ _ _
 refine jb_ ?_
 unfold Builtin.SmallTypes.ownedTupleHandOut
 have hz₆:IsZip (h₅.push {cls:=.type "tuple",data:=.seq #[x,y]}) z TI TO .ellipsis:=jf_ _ hz₅
 refine jb_ (q7_ hz₆ (by simp) fun h₇ hz₇ hs₇=>?_)
 replace hz₇:IsZip h₇ z TI TO (rawInt h₅.objs.size):=hz₇
 refine q7_ hz₇ (by simp) fun h₈ hz₈ hs₈=>?_
 replace hz₈:IsZip h₈ z TI TO (rawInt h₅.objs.size):=hz₈
 have up:∀ c o,c≠z->h₅.get? c=some o->h₈.get? c=some o:=fun c o c1 e=>hs₈.extBut _ _ c1 (hs₇.extBut _ _ c1 (jf_ _ e))
 have hT₈:IsPair h₈ h₅.objs.size x y:=hs₈.extBut _ _ (qa_ hzlt) (hs₇.extBut _ _ (qa_ hzlt) (jy_ _ rfl))
 have hz8:h₈.objs.size=h₅.objs.size+1:=by rw[hs₈.1,hs₇.1,qH_]
 rw[hsz] at hz₈ hT₈ hz8
 refine jm_ ⟨_,rfl,?_⟩
 show Q (.ref h₅.objs.size) _
 rw[hsz]
 exact hQ h₈ hz₈ (up _ _ D.TOz hTO₅) (h1₅.at fun o e=>up _ o D.i1z e) (h2₅.at fun o e=>up _ o D.i2z e) hT₈ hz8 fun c o c1 c2 c3 c4 e=>up c o c1 (hk₅ c o c1 c2 c3 c4 e)
theorem MS {t1 t2:Bool}{z TI TO i1 i2 l1 l2:Addr}{k1 k2:Nat}{xs ys:Array Value}{a b:Value}{Q:Fin->Shared->Prop}(hh:A.handled=none)(D:ZipApart z TI TO i1 i2 l1 l2)
  (hz:IsZip s.heap z TI TO .none) (hTI:IsPair s.heap TI (.ref i1) (.ref i2)) (hTO:IsPair s.heap TO a b)
  (h1:Cr t1 s.heap i1 l1 k1) (h2:Cr t2 s.heap i2 l2 k2) (hl1:Dp t1 s.heap l1 xs) (hl2:Dp t2 s.heap l2 ys) (hend:xs[k1]?=none\/ys[k2]?=none)
  (hE:∀ h' e,(∀ c o,c≠z->c≠TO->c≠i1->c≠i2->s.heap.get? c=some o->h'.get? c=some o)->(∃ o,h'.get? e=some o/\o.cls=.type "StopIteration")->E (.ref e) {s with heap:=h' }) :
  wpAny (model prog w) A (Builtin.«zip.__next__» ⟨[.ref z],[]⟩) Q E s:=by
 show wpAny _ _ (field (.ref z) 2 >>= _) _ _ _
 refine jb_ (j5_ hz rfl (x:=.bool false) rfl ?_)
 show wpAny _ _ (field (.ref z) 3 >>= _) _ _ _
 refine jb_ (j5_ hz rfl (x:=.ref TI) rfl ?_)
 refine jb_ (qz_ hTI rfl ?_)
 show wpAny _ _ (Builtin.SmallTypes.ownedTupleIsFree (.ref z) >>= _) _ _ _
 refine jb_ ?_
 unfold Builtin.SmallTypes.ownedTupleIsFree
 refine jb_ (j5_ hz rfl (x:=.none) rfl (jm_ ?_))
 simp only[xY_]
 refine jb_ (zF_ ?_)
 refine jb_ (j5_ hz rfl (x:=.ref TO) rfl ?_)
 refine jb_ (q7_ hz (by simp) fun h₁ hz₁ hs₁=>?_)
 replace hz₁:IsZip h₁ z TI TO .ellipsis:=hz₁
 refine jb_ ?_
 simp only[List.zipIdx_cons,List.zipIdx_nil,zc_,zW_]
 refine jb_ (jb_ (wpAny_onRaise ?_))
 show wpAny _ _ (Builtin.SmallTypes.nextOf (.ref i1) >>= _) _ _ _
 cases hx:xs[k1]? with
 | none =>
  refine jb_ (DT hh (h1.extBut hs₁.extBut D.i1z) (hl1.extBut hs₁.extBut D.l1z) hx fun h₂ e hs₂ he=>?_)
  obtain⟨oe,hoe,hce⟩:=he
  have hz₂:IsZip h₂ z TI TO .ellipsis:=hs₂ _ _ D.i1z.symm hz₁
  have hez:e≠z:=fun x=>by subst x;rw[hz₂] at hoe;cases hoe;simp at hce
  refine q7_ hz₂ (by simp) fun h₃ _ hs₃=>hE h₃ e (fun c o c1 _ c3 _ x=>hs₃.extBut _ _ c1 (hs₂ _ _ c3 (hs₁.extBut _ _ c1 x))) ⟨oe,hs₃.extBut _ _ hez hoe,hce⟩
 | some x =>
  have hy:ys[k2]?=none:=by rcases hend with h | h;rw[hx] at h;cases h;exact h
  refine jb_ (Cs (h1.extBut hs₁.extBut D.i1z) (hl1.extBut hs₁.extBut D.l1z) hx fun h₂ h1₂ hs₂=>jm_ ?_)
  have hTO₂:IsPair h₂ TO a b:=hs₂.extBut _ _ D.TOi1 (hs₁.extBut _ _ D.TOz hTO)
  refine jb_ (qz_ hTO₂ rfl ?_)
  refine jb_ (zD_ hTO₂ fun h₃ hTO₃ hs₃=>?_)
  refine jb_ (zL_ (jm_ ?_))
  refine jb_ (jb_ (wpAny_onRaise ?_))
  show wpAny _ _ (Builtin.SmallTypes.nextOf (.ref i2) >>= _) _ _ _
  refine jb_ (DT hh (((h2.extBut hs₁.extBut D.i2z).extBut hs₂.extBut D.i12.symm).extBut hs₃.extBut D.TOi2.symm)
   (((hl2.extBut hs₁.extBut D.l2z).extBut hs₂.extBut D.l2i1).extBut hs₃.extBut D.l2TO) hy fun h₄ e hs₄ he=>?_)
  obtain⟨oe,hoe,hce⟩:=he
  have hz₄:IsZip h₄ z TI TO .ellipsis:=hs₄ _ _ D.i2z.symm (hs₃.extBut _ _ D.TOz.symm (hs₂.extBut _ _ D.i1z.symm hz₁))
  have hez:e≠z:=fun x=>by subst x;rw[hz₄] at hoe;cases hoe;simp at hce
  refine q7_ hz₄ (by simp) fun h₅ _ hs₅=>hE h₅ e (fun c o c1 c2 c3 c4 x=>hs₅.extBut _ _ c1 (hs₄ _ _ c4 (hs₃.extBut _ _ c2 (hs₂.extBut _ _ c3 (hs₁.extBut _ _ c1 x))))) ⟨oe,hs₅.extBut _ _ hez hoe,hce⟩
theorem FV {t1 t2:Bool}{z TI TO i1 i2 l1 l2:Addr}{k1 k2:Nat}{xs ys:Array Value}{x y a b:Value}{Q:α5->Shared->Prop}(D:ZipApart z TI TO i1 i2 l1 l2)
  (hz:IsZip s.heap z TI TO .none) (hTI:IsPair s.heap TI (.ref i1) (.ref i2)) (hTO:IsPair s.heap TO a b)
  (h1:Cr t1 s.heap i1 l1 k1) (h2:Cr t2 s.heap i2 l2 k2) (hl1:Dp t1 s.heap l1 xs) (hl2:Dp t2 s.heap l2 ys) (hx:xs[k1]?=some x) (hy:ys[k2]?=some y)
  (hQ:∀ h',IsZip h' z TI TO (rawInt s.heap.objs.size)->IsPair h' TO x y->Cr t1 h' i1 l1 (k1+1)->Cr t2 h' i2 l2 (k2+1)->IsPair h' s.heap.objs.size x y->h'.objs.size=s.heap.objs.size+1 ->
   (∀ c o,c≠z->c≠TO->c≠i1->c≠i2->s.heap.get? c=some o->h'.get? c=some o)->Q (some (.ref s.heap.objs.size)) {s with heap:=h' }) :
  wpAny (model prog w) A (pyNext (.ref z)) Q E s:=by
 have hT:s.TypeIs (.ref z) "zip" := ⟨_,hz,rfl⟩
 unfold pyNext
 exact jb_ (xK_ (j2_ (name:=Str.ofString "__next__") hT xQ_
  (qo_ xQ_ hT PySem.F.entry_zip_next
   (LD D hz hTI hTO h1 h2 hl1 hl2 hx hy fun h' a1 a2 a3 a4 a5 a6 a7=>jm_ (hQ h' a1 a2 a3 a4 a5 a6 a7)) (PySem.F.args_zip_next_1 _))))
theorem F7 {t1 t2:Bool}{z TI TO i1 i2 l1 l2:Addr}{k1 k2:Nat}{xs ys:Array Value}{a b:Value}{Q:α5->Shared->Prop}(hh:A.handled=none)(D:ZipApart z TI TO i1 i2 l1 l2)
  (hz:IsZip s.heap z TI TO .none) (hTI:IsPair s.heap TI (.ref i1) (.ref i2)) (hTO:IsPair s.heap TO a b)
  (h1:Cr t1 s.heap i1 l1 k1) (h2:Cr t2 s.heap i2 l2 k2) (hl1:Dp t1 s.heap l1 xs) (hl2:Dp t2 s.heap l2 ys) (hend:xs[k1]?=none\/ys[k2]?=none)
  (hQ:∀ h',(∀ c o,c≠z->c≠TO->c≠i1->c≠i2->s.heap.get? c=some o->h'.get? c=some o)->Q none {s with heap:=h' }):wpAny (model prog w) A (pyNext (.ref z)) Q E s:=by
 have hT:s.TypeIs (.ref z) "zip" := ⟨_,hz,rfl⟩
 unfold pyNext
 refine jb_ (xK_ (j2_ (name:=Str.ofString "__next__") hT xQ_
  (qo_ xQ_ hT PySem.F.entry_zip_next (MS hh D hz hTI hTO h1 h2 hl1 hl2 hend fun h' e hk he=>?_) (PySem.F.args_zip_next_1 _))))
 obtain⟨o,ho,hc⟩:=he
 refine jb_ (wpAny_isInstance (T := "StopIteration") (b:=true) ⟨o,ho,hc⟩ isSubtype_stop ?_)
 exact jm_ (hQ _ hk)
end
abbrev VX (t1 t2:Bool)(h:Heap)(l1:Addr):Heap:=h.push {cls:=UE t1,data:=.fields #[.ref l1,.int 0 0]}
abbrev VY (t1 t2:Bool)(h:Heap)(l1 l2:Addr):Heap:=(VX t1 t2 h l1).push {cls:=UE t2,data:=.fields #[.ref l2,.int 0 0]}
abbrev VZ (t1 t2:Bool)(h:Heap)(l1 l2:Addr):Heap:=(VY t1 t2 h l1 l2).push {cls:=.type "tuple",data:=.seq #[.ref h.objs.size,.ref (VX t1 t2 h l1).objs.size]}
abbrev V0 (t1 t2:Bool)(h:Heap)(l1 l2:Addr):Heap:=(VZ t1 t2 h l1 l2).push {cls:=.type "tuple",data:=.seq #[.none,.none]}
abbrev P5 (t1 t2:Bool)(h:Heap)(l1 l2:Addr):Heap:=(V0 t1 t2 h l1 l2).push {cls:=.type "zip",data:=.fields #[.none,.bool false,.bool false,.ref (VY t1 t2 h l1 l2).objs.size,.ref (VZ t1 t2 h l1 l2).objs.size]}
theorem LE (t1 t2:Bool)(l1 l2:Addr)(xs ys:Array Value) :
  Meets (Builtin.«zip.__new__» ⟨[.type "zip",.ref l1,.ref l2],[]⟩) (fun _ R s=>Dp t1 s.heap l1 xs/\Dp t2 s.heap l2 ys /\
   R (.ok (.ret (.ref (V0 t1 t2 s.heap l1 l2).objs.size))) {s with heap:=P5 t1 t2 s.heap l1 l2}) :=
 .of_wp fun prog w A R s h=>by
  obtain⟨hp,g,d,tk,os⟩:=s;obtain⟨hl1,hl2,h⟩:=h
  have hsub:=sub_zip
  have hL1:Dp t1 (Shared.heap ⟨hp,g,d,tk,os⟩) l1 xs:=hl1
  have hL2:Dp t2 (Shared.heap ⟨hp.push {cls:=UE t1,data:=.fields #[.ref l1,.int 0 0]},g,d,tk,os⟩) l2 ys:=Dp.push hl2 _
  wp_walk using FM hL1,FM hL2
  exact⟨_,rfl,h⟩
section
variable {prog:Program} {w:World} {A:Around} {E:Value->Shared->Prop} {s:Shared}
theorem P6 {t1 t2:Bool}{l1 l2:Addr}{xs ys:Array Value}{Q:Value->Shared->Prop}(hl1:Dp t1 s.heap l1 xs)(hl2:Dp t2 s.heap l2 ys)
  (h:∀ h',IsZip h' (s.heap.objs.size+4) (s.heap.objs.size+2) (s.heap.objs.size+3) .none->IsPair h' (s.heap.objs.size+2) (.ref s.heap.objs.size) (.ref (s.heap.objs.size+1)) ->
   IsPair h' (s.heap.objs.size+3) .none .none->Cr t1 h' s.heap.objs.size l1 0->Cr t2 h' (s.heap.objs.size+1) l2 0->h'.objs.size=s.heap.objs.size+5 ->
   (∀ c o,s.heap.get? c=some o->h'.get? c=some o)->Q (.ref (s.heap.objs.size+4)) {s with heap:=h' }) :
  wpAny (model prog w) A (call (.type "zip") [.ref l1,.ref l2]) Q E s:=by
 refine callType_new PySem.F.called_zip (by decide) (PySem.F.typeCall_zip_2 _ _) (PySem.F.newCall_zip_2 _ _) (fun obj=>PySem.F.args_object_init_3 obj _ _) PySem.F.entry_zip_new
  (LE t1 t2 l1 l2 xs ys) ⟨hl1,hl2,?_⟩
 have z1:(VX t1 t2 s.heap l1).objs.size=s.heap.objs.size+1:=qH_ ..
 have z2:(VY t1 t2 s.heap l1 l2).objs.size=s.heap.objs.size+2:=by rw[qH_,z1]
 have z3:(VZ t1 t2 s.heap l1 l2).objs.size=s.heap.objs.size+3:=by rw[qH_,z2]
 have z4:(V0 t1 t2 s.heap l1 l2).objs.size=s.heap.objs.size+4:=by rw[qH_,z3]
 have z5:(P5 t1 t2 s.heap l1 l2).objs.size=s.heap.objs.size+5:=by rw[qH_,z4]
 have g5:(P5 t1 t2 s.heap l1 l2).get? (V0 t1 t2 s.heap l1 l2).objs.size=some _:=jy_ _ rfl
 have g4:(P5 t1 t2 s.heap l1 l2).get? (VZ t1 t2 s.heap l1 l2).objs.size=some _:=jf_ _ (jy_ _ rfl)
 have g3:(P5 t1 t2 s.heap l1 l2).get? (VY t1 t2 s.heap l1 l2).objs.size=some _:=jf_ _ (jf_ _ (jy_ _ rfl))
 have g2:(P5 t1 t2 s.heap l1 l2).get? (VX t1 t2 s.heap l1).objs.size=some _:=jf_ _ (jf_ _ (jf_ _ (jy_ _ rfl)))
 have g1:(P5 t1 t2 s.heap l1 l2).get? s.heap.objs.size=some _:=jf_ _ (jf_ _ (jf_ _ (jf_ _ (jy_ _ rfl))))
 show _/\_
 rw[z2,z3,z4] at g5
 rw[z1,z2] at g3
 rw[z3] at g4
 rw[z1] at g2
 rw[z4]
 exact⟨⟨_,g5,rfl⟩,h _ g5 g3 g4 (Cr.mk g1) (Cr.mk g2) z5 fun c o x =>
  jf_ _ (jf_ _ (jf_ _ (jf_ _ (jf_ _ x))))⟩
end
end PySem
namespace L2
open PySem PySem.Spec PyProof.Rows GW
def SqB (K:α3)(H:Hp)(t:Bool)(a:Addr)(xs:List V):Prop:=match t with | false=>SqL K H a xs | true=>SqT K H a xs
theorem Inv.seqB {X:Cx}{pins:α7}{σ:St}{H:Hp}{s:Shared}{t:Bool}{a:Addr}{xs:List V}(I:Inv X pins σ H s)(h:SqB X.K H t a xs):∃ its:List Value,Vals xs its/\Dp t s.heap a its.toArray:=by
 cases t
 ·obtain⟨its,r,p,_⟩:=I.list h
  exact⟨its,r,p.isList⟩
 ·obtain⟨its,r,p,_⟩:=I.tuple h
  exact⟨its,r,p⟩
def Itz2 (K:α3)(t1 t2:Bool)(a b:Addr)(xs ys:List V):It:=⟨fun i H=>i<xs.length/\i<ys.length/\SqB K H t1 a xs/\SqB K H t2 b ys,fun i H x H'=>∃ t u v,H t=none/\xs[i]?=some u/\ys[i]?=some v/\x=.ref t/\H'=upd H t (.tup [u,v]),fun i H=>(xs.length<=i\/ys.length<=i)/\SqB K H t1 a xs/\SqB K H t2 b ys⟩
theorem UF {P:Program}{w:World}{K:α3}{elts:List Expr}{x1}{tpos:Pos}{t1 t2:Bool}{a b z TI TO i1 i2:Addr}(D:ZipApart z TI TO i1 i2 a b)(xs ys:List V):Turn P w K (.Tuple elts x1 tpos) (Itz2 K t1 t2 a b xs ys) [z,TI,TO,i1,i2] z
  (fun i h=>IsZip h z TI TO .none/\IsPair h TI (.ref i1) (.ref i2)/\(∃ c d,IsPair h TO c d)/\Cr t1 h i1 a i/\Cr t2 h i2 b i) where
 mem:=by simp
 obj:=fun i h st c hc=>by
  obtain⟨h1,h2,⟨u,v,h3⟩,h4',h5'⟩:=st
  obtain⟨o4,h4,d4⟩:=h4'.ob
  obtain⟨o5,h5,d5⟩:=h5'.ob
  simp only[jC_,x6_,or_false] at hc
  rcases hc with rfl | rfl | rfl | rfl | rfl
  ·exact⟨_,h1,fun v z=>by cases z⟩
  ·exact⟨_,h2,fun v z=>by cases z⟩
  ·exact⟨_,h3,fun v z=>by cases z⟩
  ·exact⟨o4,h4,fun v z=>by rw[d4] at z;cases z⟩
  ·exact⟨o5,h5,fun v z=>by rw[d5] at z;cases z⟩
 keep:=fun i h h' st k=>by
  obtain⟨h1,h2,⟨u,v,h3⟩,h4,h5⟩:=st
  exact⟨k z (by simp) _ h1,k TI (by simp) _ h2,⟨u,v,k TO (by simp) _ h3⟩,h4.at fun o q=>k i1 (by simp) o q,h5.at fun o q=>k i2 (by simp) o q⟩
 item:=by
  intro X hP hw hK hc i pins s σ H E I hf st hg
  subst hP hw hK
  obtain⟨hi,hj,hq,hq2⟩:=hg
  obtain⟨hz,hTI,⟨c,d,hTO⟩,h1,h2⟩:=st
  obtain⟨its,rv,p⟩:=I.seqB hq
  obtain⟨its2,rv2,p2⟩:=I.seqB hq2
  obtain⟨u,hu,ru⟩:=rv.get (i:=i) (x:=xs[i]) (by simp[hi])
  obtain⟨v,hv,rv'⟩:=rv2.get (i:=i) (x:=ys[i]) (by simp[hj])
  refine FV D hz hTI hTO h1 h2 p p2 (x:=u) (y:=v) (by simpa using hu) (by simpa using hv) fun h' g1 g2 g3 g4 g5 gs gk=>?_
  have hTz:s.heap.objs.size≠z:=qa_ (jn_ hz)
  refine⟨_,rfl,wpAny_letOwnedTupleGo_zip g1 fun h2' e1 hs2=>?_⟩
  have hk2:∀ b o,b ∉ [z,TI,TO,i1,i2]->s.heap.get? b=some o->h2'.get? b=some o:=fun b o hb q=>by
   simp only[jC_,x6_,or_false,not_or] at hb
   exact (hs2.2 b hb.1).trans (gk b o hb.1 hb.2.2.1 hb.2.2.2.1 hb.2.2.2.2 q)
  obtain⟨un,hok⟩:=I.unL hk2 hf
  have hn:H s.heap.objs.size=none:=I.hok.fresh (jl_ _)
  have new:CF X.prog X.w (upd H s.heap.objs.size (.tup [xs[i],ys[i]])) h2' s.heap.objs.size (.tup [xs[i],ys[i]]):=⟨by have:=AB;simp;omega,[u,v],.cons ru (.cons rv' .nil),_,(hs2.2 _ hTz).trans g5,rfl,_,rfl⟩
  refine⟨.ref s.heap.objs.size,upd H s.heap.objs.size (.tup [xs[i],ys[i]]),I.call' (s':={s with heap:=h2' }) (ch:=[z,TI,TO,i1,i2]) rfl (un.track (jl_ _) hn) (hok.track hn new) I.bare (fun b hb=>?_),rfl,⟨_,_,_,hn,by simp[hi],by simp[hj],rfl,rfl⟩,?_,fun b hb=>?_⟩
  ·exact (hf b hb).ch
  ·refine⟨e1,(hs2.2 TI D.TIz).trans (gk TI _ D.TIz D.TITO D.TIi1 D.TIi2 hTI),⟨u,v,(hs2.2 TO D.TOz).trans g2⟩,g3.at fun o q=>(hs2.2 i1 D.i1z).trans q,g4.at fun o q=>(hs2.2 i2 D.i2z).trans q⟩
  ·have hb':=hf b hb
   have:∃ o,s.heap.get? b=some o:=by
    simp only[jC_,x6_,or_false] at hb
    rcases hb with rfl | rfl | rfl | rfl | rfl
    ·exact⟨_,hz⟩
    ·exact⟨_,hTI⟩
    ·exact⟨_,hTO⟩
    ·obtain⟨o,ho,_⟩:=h1.ob;exact⟨o,ho⟩
    ·obtain⟨o,ho,_⟩:=h2.ob;exact⟨o,ho⟩
   obtain⟨o,ho⟩:=this
   rw[Ah (jM_ (jn_ ho))]
   exact hb'.1
 done:=by
  intro X hP hw hK hc i pins s σ H E I hf st hg
  subst hP hw hK
  obtain⟨hi,hq,hq2⟩:=hg
  obtain⟨hz,hTI,⟨c,d,hTO⟩,h1,h2⟩:=st
  obtain⟨its,rv,p⟩:=I.seqB hq
  obtain⟨its2,rv2,p2⟩:=I.seqB hq2
  have l1:=rv.length
  have l2:=rv2.length
  refine F7 (I.ok.hd hc) D hz hTI hTO h1 h2 p p2 (by simp;omega) fun h' gk=>⟨rfl,?_⟩
  obtain⟨un,hok⟩:=I.unL (h':=h') (fun b o hb q=>by
   simp only[jC_,x6_,or_false,not_or] at hb
   exact gk b o hb.1 hb.2.2.1 hb.2.2.2.1 hb.2.2.2.2 q) hf
  exact I.call' (s':={s with heap:=h' }) (ch:=[z,TI,TO,i1,i2]) rfl un hok I.bare fun b hb=>(hf b hb).ch
 self:=fun A i s Q E st h=>wpAny_pyIter_zip st.1 h
def Au_ (K:α3)(ta:TA):TI:=fun σ H R=>ta σ H fun vs H1=>∃ a b xs ys t1 t2,vs=[.ref a,.ref b]/\SqB K H1 t1 a xs/\SqB K H1 t2 b ys/\R (Itz2 K t1 t2 a b xs ys) H1
theorem UG {K:α3}{ta:TA}{σ:St}{H:Hp}{Z:It->Hp->Prop}:Au_ K ta σ H Z=ta σ H fun vs H1=>∃ a b xs ys t1 t2,vs=[.ref a,.ref b]/\SqB K H1 t1 a xs/\SqB K H1 t2 b ys/\Z (Itz2 K t1 t2 a b xs ys) H1:=rfl
theorem YQ {X:Cx}{elts:List Expr}{x1}{tpos:Pos}{e f:Expr}{ta:TA}{p pos:Pos}(hg:Gl X "zip")(hm:X.mg "zip" = none)(ha:PA X [e,f] ta)(hs:starEach [e,f] X.env=[(false,eval e X.env),(false,eval f X.env)]:=by rfl)(hs2:starEach [f] X.env=[(false,eval f X.env)]:=by rfl):PI X (.Tuple elts x1 tpos) (.Call (.Name "zip" p) [e,f] [] pos) (Au_ X.K ta):=by
 intro pins s σ H R I h
 refine Call_ (GV I hg hm boot_zip (j7_ (thn (ha pos pins s σ H _ I h) fun us s1 ⟨vs,H1,I1,r1,q1⟩=>?_) (by rw[hs,hs2]) (by rw[hs2];rfl)))
 obtain⟨a,b,xs,ys,t1,t2,ev,hq,hq2,q⟩:=q1
 subst ev
 cases r1 with
 | cons r rr=>cases rr with
  | cons r' rr =>
   cases rr
   cases r
   cases r'
   obtain⟨its,rv,pl⟩:=I1.seqB hq
   obtain⟨its2,rv2,pl2⟩:=I1.seqB hq2
   refine P6 pl pl2 fun h' hz hTI hTO hi1 hi2 hsz hk=>?_
   refine wpAny_pyIter_zip (s:={s1 with heap:=h' }) hz ?_
   have I2:Inv X pins σ H1 {s1 with heap:=h' }:=I1.kept (t':=s1.toks) hk
   refine⟨_,_,_,_,H1,rfl,I2,UF (zipApart_new pl.lt pl2.lt) xs ys,⟨hz,hTI,⟨_,_,hTO⟩,hi1,hi2⟩,fun c hc=>?_,q⟩
   have hle:s1.heap.objs.size<=c:=by
    simp only[jC_,x6_,or_false] at hc
    rcases hc with rfl | rfl | rfl | rfl | rfl
    ·exact xj_ _ 4
    ·exact xj_ _ 2
    ·exact xj_ _ 3
    ·exact jl_ _
    ·exact xj_ _ 1
   exact I1.fpOk hle (I1.hok.fresh hle)
theorem Bo_ {K:α3}{t1 t2:Bool}{a b:Addr}{xs ys:List V}{g:TG}{tb:TS}{D:Ends}{σ:St}{H:Hp}(n:Nat)(hn1:n<=xs.length)(hn2:n<=ys.length)(hn3:xs.length=n\/ys.length=n)(Pv:Nat->St->Hp->Prop)(h0:Pv 0 σ H)(hl:∀ i σ H,i<=n->Pv i σ H->SqB K H t1 a xs/\SqB K H t2 b ys)
  (hs:∀ i u v σ H t,i<n->xs[i]?=some u->ys[i]?=some v->Pv i σ H->H t=none->g (.ref t) σ (upd H t (.tup [u,v])) fun σ2 H2=>tb {D with nx:=Pv (i+1),ct:=Pv (i+1),bk:=D.nx} σ2 H2) (hd:∀ σ H,Pv n σ H->D.nx σ H):ForW (Itz2 K t1 t2 a b xs ys) g tb D σ H:=by
 refine⟨fun i m σ H=>m+i=n/\Pv i σ H,⟨n,by omega,h0⟩,fun i m σ H ⟨hm,hp⟩=>?_⟩
 obtain⟨q1,q2⟩:=hl i σ H (by omega) hp
 by_cases hi:i<n
 ·refine .inr ⟨⟨by omega,by omega,q1,q2⟩,Pv (i+1),fun σ' H' h=>⟨m-1,by omega,by omega,h⟩,fun x H' hy=>?_⟩
  obtain⟨t,u,v,e1,e2,e3,rfl,rfl⟩:=hy
  exact hs i u v σ H t hi e2 e3 hp e1
 ·have e:i=n:=by omega
  subst e
  exact .inl ⟨⟨by omega,q1,q2⟩,hd σ H hp⟩
end L2
namespace Nest
def sl (row:α2)(b i:Nat):α2:=(row.take i).drop b
def outF (p e:Int)(s:α2×Int)(x:Int):α2×Int:=if x=e then (s.1,s.2-1) else (if s.2=0 then s.1 ++ [x] else s.1,if p<=x then s.2+1 else s.2)
def outS (p e:Int)(l:α2):α2×Int:=l.foldl (outF p e) ([],0)
def outW (p e:Int)(l:α2):α2:=(outS p e l).1
def wd (p e:Int)(row:α2)(i a:Nat):α2:=outW p e (sl row (a+1) i)
end Nest
namespace L2
open PySem PySem.Spec PyProof.Rows GW
theorem UH {X:Cx}{K:α3}{tg l:Expr}{tl:TE}(hK:X.K=K)(hl:PE X l tl):PI X tg l (iTup K tl):=by subst hK;exact Hy hl
end L2
namespace L2
open PySem PySem.Spec PyProof.Rows
theorem UI {X:Cx}{K:α3}(h:X.K=K):OpR X (binaryOp .Add) (GX K):=by subst h;exact GA
end L2
namespace L2
open PySem PySem.W PySem.Spec PySem.Calls PyProof.Rows
theorem Sg {prog:Program}{w:World}{κ:Type}[DecidableEq κ](knd:HeapKind prog w κ){d:Addr}(hd:(d == sysModules)=false) :
  MeetsIn prog w (Builtin.«dict.__len__» ⟨[.ref d],[]⟩) (fun _ R s=>∃ xs,s.heap.DictOfH knd d xs/\R (.ok (.ret (.int (xs.length:Nat) s.toks))) {s with toks:=s.toks+1}) :=
 .of_wp fun A R s ⟨xs,⟨o,es,ep,ho,_,hdat,he,_⟩,h⟩=>by
  show wpAny _ _ (dictSize d >>= _) _ _ s
  unfold dictSize
  refine jb_ (jb_ (zu_ ho hdat (jm_ ?_)))
  refine jb_ (wpAny_pendingCount_other hd (wpAny_ret_mkInt ?_))
  rw[Nat.add_zero,size_of_entries he]
  exact h
theorem Av_ {prog:Program}{w:World}{κ:Type}[DecidableEq κ]{knd:HeapKind prog w κ}{A:Around}{E:Value->Shared->Prop}{s:Shared}{d:Addr}{xs:List (κ×Addr×Value)}{Q:Value->Shared->Prop}(hd:(d == sysModules)=false)(hm:s.heap.DictOfH knd d xs)(hfit:(xs.length:Int)<2 ^ 63)
  (h:Q (.int xs.length (s.toks+1)) {s with toks:=s.toks+1+1}):wpAny (model prog w) A (call (.builtin "len") [.ref d]) Q E s:=by
 refine Calls.call_function_entry kind_len plain_len entry_len (args_len1 _) ?_
 unfold Builtin.«len»
 refine jb_ (m:=oneArg "len" _) (jm_ (jb_ (m:=callSpecial? (.ref d) (Str.ofString "__len__")) (j2_ (name:=Str.ofString "__len__") hm.typeIs F.slot_dict_len (call_meetsIn F.slot_dict_len hm.typeIs F.entry_dict_len (F.args_dict_len_1 _) (Sg knd hd) ⟨xs,hm,?_⟩))))
 show wpAny _ _ _ _ _ {s with toks:=s.toks+1}
 refine jb_ (qR_ (jm_ (jb_ (zL_ ?_))))
 show wpAny _ _ (if ((xs.length:Nat):Int)<0 then _ else _) _ _ _
 rw[if_neg (by omega)]
 show wpAny _ _ (if ((xs.length:Nat):Int) >= 2 ^ 63 then _ else _) _ _ _
 rw[if_neg (by omega)]
 exact jb_ (wpAny_mkInt (jm_ ⟨_,rfl,h⟩))
theorem LF {X:Cx}:EF X (.builtin "len") (fun xs H Q=>∃ p kvs,xs=[.ref p]/\H p=some (.dT kvs)/\Q (.int kvs.length) H):=by
 intro pins s σ H xs us Q I r h
 obtain⟨p,kvs,rfl,e,q⟩:=h
 obtain⟨u,rfl,rx⟩:=vals1 r
 cases rx
 obtain⟨z,hd,xs,rel,dd⟩:=Z1 I.hok e
 have hn:=Og
 have hlen:kvs.length=xs.length:=rel.length
 exact Av_ hd dd (by omega) ⟨.int kvs.length,H,I.tok _,⟨_,by rw[hlen]⟩,q⟩
theorem Rw:∀ {ws:α1} {m:Nat} {w:α2},ws[m]?=some w->ws.idxOf w<=m
 | [],m,w,h=>by simp at h
 | v::ws,m,w,h=>by
  rw[zM_]
  cases m with
  | zero =>
   have:v=w:=by simpa using h
   simp[this]
  | succ m =>
   have:=Rw (ws:=ws) (m:=m) (w:=w) (by simpa using h)
   cases e:(v == w) with
   | true=>exact j0_ _
   | false=>exact Nat.succ_le_succ this
end L2
set_option maxHeartbeats 1000000
set_option maxHeartbeats 4000000
namespace L2
open PySem
abbrev Kj (h:Heap)(z TI TO T:Addr)(f:Bool):Prop :=
 h.get? z=some {cls:=.type "zip",dict:=none,data:=.fields #[rawInt T,.bool f,.bool false,.ref TI,.ref TO],slots := #[]}
section
variable {prog:Program} {w:World} {A:Around} {E:Value->Shared->Prop} {s:Shared}
theorem V1 {a:Addr}{o:Obj}{Q:Option Obj->Shared->Prop}(ho:s.heap.get? a=some o)(h:Q (some o) s):wpAny (model prog w) A (loadIfAlive a) Q E s:=by
 have h':Q (s.heap.get? a) s:=by rw[ho];exact h
 exact fun _ _ _=>h'
theorem UJ {z TI TO T:Addr}{f:Bool}{oT:Obj}{Q:Bool->Shared->Prop}(hz:Kj s.heap z TI TO T f)(hT:s.heap.get? T=some oT)(hTz:T≠z)
  (hQ:∀ h',Kj h' z TI TO T true->Heap.SameBut z s.heap h'->Q false {s with heap:=h' }):wpAny (model prog w) A (Builtin.SmallTypes.ownedTupleIsFree (.ref z)) Q E s:=by
 unfold Builtin.SmallTypes.ownedTupleIsFree
 refine jb_ (j5_ hz rfl (x:=rawInt T) rfl ?_)
 show wpAny _ _ (loadIfAlive ((T:Int).toNat) >>= _) _ _ _
 rw[jh_]
 refine jb_ (V1 hT ?_)
 simp only[Option.isNone_some,jN_,qP_]
 refine jb_ (j5_ hz rfl (x:=.bool f) rfl ?_)
 cases f with
 | true =>
  rw[if_neg (show ¬ ((Value.bool true != Value.bool true)=true) from jp_)]
  exact jm_ (hQ _ hz (Heap.SameBut.refl _ _))
 | false =>
  rw[if_pos (show (Value.bool false != Value.bool true)=true from rfl)]
  exact jb_ (q7_ hz (by simp) fun h₃ he₃ hs₃=>jm_ (hQ h₃ he₃ hs₃))
theorem P7 {z TI TO i1 i2 l1 l2 T:Addr}{f:Bool}{oT:Obj}{k1 k2:Nat}{xs ys:Array Value}{x y:Value}{Q:Value->Shared->Prop}(D:ZipApart z TI TO i1 i2 l1 l2)
  (hz:Kj s.heap z TI TO T f) (hT:s.heap.get? T=some oT) (hTz:T≠z) (hTI:IsPair s.heap TI (.ref i1) (.ref i2))
  (h1:s.heap.IsListIter i1 l1 k1) (h2:s.heap.IsListIter i2 l2 k2) (hl1:s.heap.IsList l1 xs) (hl2:s.heap.IsList l2 ys) (hx:xs[k1]?=some x) (hy:ys[k2]?=some y)
  (hQ:∀ h',Kj h' z TI TO T true->h'.IsListIter i1 l1 (k1+1)->h'.IsListIter i2 l2 (k2+1)->IsPair h' s.heap.objs.size x y->h'.objs.size=s.heap.objs.size+1 ->
   (∀ c o,c≠z->c≠i1->c≠i2->s.heap.get? c=some o->h'.get? c=some o)->Q (.ref s.heap.objs.size) {s with heap:=h' }) :
  wpAny (model prog w) A (Builtin.«zip.__next__» ⟨[.ref z],[]⟩) (fun fin s'=>∃ v,fin=.done (.ret v)/\Q v s') E s:=by
 show wpAny _ _ (field (.ref z) 2 >>= _) _ _ _
 refine jb_ (j5_ hz rfl (x:=.bool false) rfl ?_)
 show wpAny _ _ (field (.ref z) 3 >>= _) _ _ _
 refine jb_ (j5_ hz rfl (x:=.ref TI) rfl ?_)
 refine jb_ (qz_ hTI rfl ?_)
 show wpAny _ _ (Builtin.SmallTypes.ownedTupleIsFree (.ref z) >>= _) _ _ _
 refine jb_ (UJ hz hT hTz fun h₁ hz₁ hs₁=>?_)
 simp only[jN_,qP_]
 rw[<- Array.forIn_toList]
 simp only[zc_,zW_]
 refine jb_ (jb_ (jb_ (qR_ ?_)))
 show wpAny _ _ (Builtin.SmallTypes.nextOf (.ref i1) >>= _) _ _ _
 refine jb_ (zp_ (h1.extBut hs₁.extBut D.i1z) (hl1.extBut hs₁.extBut D.l1z) hx fun h₂ h1₂ hs₂=>jm_ (jm_ ?_))
 refine jb_ (jb_ (qR_ ?_))
 show wpAny _ _ (Builtin.SmallTypes.nextOf (.ref i2) >>= _) _ _ _
 refine jb_ (zp_ ((h2.extBut hs₁.extBut D.i2z).extBut hs₂.extBut D.i12.symm) ((hl2.extBut hs₁.extBut D.l2z).extBut hs₂.extBut D.l2i1) hy fun h₃ h2₃ hs₃=>jm_ (jm_ (jm_ ?_)))
 have hsz:h₃.objs.size=s.heap.objs.size:=by rw[hs₃.1,hs₂.1,hs₁.1]
 have hz₃:Kj h₃ z TI TO T true:=hs₃.extBut _ _ D.i2z.symm (hs₂.extBut _ _ D.i1z.symm hz₁)
 have hk:∀ c o,c≠z->c≠i1->c≠i2->s.heap.get? c=some o->h₃.get? c=some o:=fun c o c1 c2 c3 e=>hs₃.extBut _ _ c3 (hs₂.extBut _ _ c2 (hs₁.extBut _ _ c1 e))
 have h1₃:h₃.IsListIter i1 l1 (k1+1):=h1₂.extBut hs₃.extBut D.i12
 refine jb_ (wpAny_newTuple ?_ (hsz:=by show 2<=sizeLine;decide))
 refine jm_ ⟨_,rfl,?_⟩
 show Q (.ref h₃.objs.size) _
 rw[hsz]
 refine hQ _ (jf_ _ hz₃) (h1₃.at fun o e=>jf_ _ e) (h2₃.at fun o e=>jf_ _ e) ?_ (by rw[qH_,hsz]) fun c o c1 c2 c3 e=>jf_ _ (hk c o c1 c2 c3 e)
 rw[<- hsz]
 exact jy_ _ rfl
theorem Sh {z TI TO i1 i2 l1 l2 T:Addr}{f:Bool}{oT:Obj}{k1:Nat}{xs:Array Value}{Q:Fin->Shared->Prop}(hh:A.handled=none)(D:ZipApart z TI TO i1 i2 l1 l2)
  (hz:Kj s.heap z TI TO T f) (hT:s.heap.get? T=some oT) (hTz:T≠z) (hTI:IsPair s.heap TI (.ref i1) (.ref i2))
  (h1:s.heap.IsListIter i1 l1 k1) (hl1:s.heap.IsList l1 xs) (hx:xs[k1]?=none)
  (hE:∀ h' e,(∀ c o,c≠z->c≠i1->c≠i2->s.heap.get? c=some o->h'.get? c=some o)->(∃ o,h'.get? e=some o/\o.cls=.type "StopIteration")->E (.ref e) {s with heap:=h' }) :
  wpAny (model prog w) A (Builtin.«zip.__next__» ⟨[.ref z],[]⟩) Q E s:=by
 show wpAny _ _ (field (.ref z) 2 >>= _) _ _ _
 refine jb_ (j5_ hz rfl (x:=.bool false) rfl ?_)
 show wpAny _ _ (field (.ref z) 3 >>= _) _ _ _
 refine jb_ (j5_ hz rfl (x:=.ref TI) rfl ?_)
 refine jb_ (qz_ hTI rfl ?_)
 show wpAny _ _ (Builtin.SmallTypes.ownedTupleIsFree (.ref z) >>= _) _ _ _
 refine jb_ (UJ hz hT hTz fun h₁ hz₁ hs₁=>?_)
 simp only[jN_,qP_]
 rw[<- Array.forIn_toList]
 simp only[zc_,zW_]
 refine jb_ (jb_ (jb_ (qR_ ?_)))
 show wpAny _ _ (Builtin.SmallTypes.nextOf (.ref i1) >>= _) _ _ _
 exact jb_ (wpAny_nextOf_list_end hh (h1.extBut hs₁.extBut D.i1z) (hl1.extBut hs₁.extBut D.l1z) hx fun h₂ e hs₂ he=>hE h₂ e (fun c o c1 c2 _ x=>hs₂ _ _ c2 (hs₁.extBut _ _ c1 x)) he)
def ZSt (h:Heap)(z TI TO i1 i2 l1 l2 S:Addr)(xs ys:Array Value)(i:Nat):Prop :=
 IsPair h TI (.ref i1) (.ref i2)/\h.IsListIter i1 l1 i/\h.IsListIter i2 l2 i/\h.IsList l1 xs/\h.IsList l2 ys /\
 ((IsZip h z TI TO .none/\∃ a b,IsPair h TO a b) \/ ∃ T f oT,Kj h z TI TO T f/\h.get? T=some oT/\T≠z/\T≠i1/\T≠i2/\T≠S)
structure ZFar (z TI TO i1 i2 l1 l2 S:Addr):Prop where
 z:z≠S
 TI:TI≠S
 TO:TO≠S
 i1:i1≠S
 i2:i2≠S
 l1:l1≠S
 l2:l2≠S
theorem ZSt.keep {h h':Heap}{z TI TO i1 i2 l1 l2 S:Addr}{xs ys:Array Value}{i:Nat}(F:ZFar z TI TO i1 i2 l1 l2 S)(x:ZSt h z TI TO i1 i2 l1 l2 S xs ys i)(hk:∀ b o,b≠S->h.get? b=some o->h'.get? b=some o):ZSt h' z TI TO i1 i2 l1 l2 S xs ys i:=by
 obtain⟨a1,a2,a3,a4,a5,a6⟩:=x
 refine⟨hk _ _ F.TI a1,a2.at fun o e=>hk _ o F.i1 e,a3.at fun o e=>hk _ o F.i2 e,a4.at fun o e=>hk _ o F.l1 e,a5.at fun o e=>hk _ o F.l2 e,?_⟩
 rcases a6 with ⟨b1,u,v,b2⟩ | ⟨T,f,oT,b1,b2,b3,b4,b5,b6⟩
 ·exact .inl ⟨hk _ _ F.z b1,u,v,hk _ _ F.TO b2⟩
 ·exact .inr ⟨T,f,oT,hk _ _ F.z b1,hk _ _ b6 b2,b3,b4,b5,b6⟩
theorem YR {z TI TO i1 i2 l1 l2 S:Addr}{i:Nat}{xs ys:Array Value}{x y:Value}{Q:α5->Shared->Prop}(D:ZipApart z TI TO i1 i2 l1 l2)(hst:ZSt s.heap z TI TO i1 i2 l1 l2 S xs ys i)(hS:S<s.heap.objs.size)
  (hx:xs[i]?=some x) (hy:ys[i]?=some y)
  (hQ:∀ h',ZSt h' z TI TO i1 i2 l1 l2 S xs ys (i+1)->IsPair h' s.heap.objs.size x y->h'.objs.size=s.heap.objs.size+1 ->
   (∀ c o,c≠z->c≠TO->c≠i1->c≠i2->s.heap.get? c=some o->h'.get? c=some o)->Q (some (.ref s.heap.objs.size)) {s with heap:=h' }) :
  wpAny (model prog w) A (pyNext (.ref z)) Q E s:=by
 obtain⟨a1,a2,a3,a4,a5,a6⟩:=hst
 have li1:i1<s.heap.objs.size:=by obtain⟨_,e,_⟩:=id a2;exact jn_ e
 have li2:i2<s.heap.objs.size:=by obtain⟨_,e,_⟩:=id a3;exact jn_ e
 rcases a6 with ⟨b1,u,v,b2⟩ | ⟨T,f,oT,b1,b2,b3,b4,b5,b6⟩
 ·have lz:=jn_ b1
  refine wpAny_pyNext_zip_item D b1 a1 b2 a2 a3 a4 a5 hx hy fun h' c1 c2 c3 c4 c5 c6 c7=>hQ h' ⟨?_,c3,c4,a4.at fun o e=>c7 _ o D.l1z D.l1TO D.l1i1 D.l1i2 e,a5.at fun o e=>c7 _ o D.l2z D.l2TO D.l2i1 D.l2i2 e,.inr ⟨_,false,_,c1,c5,qa_ lz,qa_ li1,qa_ li2,qa_ hS⟩⟩ c5 c6 c7
  exact c7 _ _ D.TIz D.TITO D.TIi1 D.TIi2 a1
 ·have hT:s.TypeIs (.ref z) "zip" := ⟨_,b1,rfl⟩
  unfold pyNext
  refine jb_ (xK_ (j2_ (name:=Str.ofString "__next__") hT zN_
   (qo_ zN_ hT F.entry_zip_next
    (P7 D b1 b2 b3 a1 a2 a3 a4 a5 hx hy fun h' c1 c3 c4 c5 c6 c7=>jm_ (hQ h' ⟨?_,c3,c4,a4.at fun o e=>c7 _ o D.l1z D.l1i1 D.l1i2 e,a5.at fun o e=>c7 _ o D.l2z D.l2i1 D.l2i2 e,.inr ⟨T,true,oT,c1,c7 _ _ b3 b4 b5 b2,b3,b4,b5,b6⟩⟩ c5 c6 fun c o d1 _ d3 d4 e=>c7 c o d1 d3 d4 e)) (F.args_zip_next_1 _))))
  exact c7 _ _ D.TIz D.TIi1 D.TIi2 a1
theorem YS {z TI TO i1 i2 l1 l2 S:Addr}{i:Nat}{xs ys:Array Value}{Q:α5->Shared->Prop}(hh:A.handled=none)(D:ZipApart z TI TO i1 i2 l1 l2)(hst:ZSt s.heap z TI TO i1 i2 l1 l2 S xs ys i)(hx:xs[i]?=none)
  (hQ:∀ h',(∀ c o,c≠z->c≠TO->c≠i1->c≠i2->s.heap.get? c=some o->h'.get? c=some o)->Q none {s with heap:=h' }):wpAny (model prog w) A (pyNext (.ref z)) Q E s:=by
 obtain⟨a1,a2,a3,a4,a5,a6⟩:=hst
 rcases a6 with ⟨b1,u,v,b2⟩ | ⟨T,f,oT,b1,b2,b3,b4,b5,b6⟩
 ·exact wpAny_pyNext_zip_end hh D b1 a1 b2 a2 a3 a4 a5 (.inl hx) hQ
 ·have hT:s.TypeIs (.ref z) "zip" := ⟨_,b1,rfl⟩
  unfold pyNext
  refine jb_ (xK_ (j2_ (name:=Str.ofString "__next__") hT zN_
   (qo_ zN_ hT F.entry_zip_next (Sh (A:=A.in1) hh D b1 b2 b3 a1 a2 a4 hx fun h' e hk he=>?_) (F.args_zip_next_1 _))))
  obtain⟨o,ho,hc⟩:=he
  refine jb_ (wpAny_isInstance (T := "StopIteration") (b:=true) ⟨o,ho,hc⟩ isSubtype_stop ?_)
  exact jm_ (hQ _ fun c o c1 _ c3 c4 e=>hk c o c1 c3 c4 e)
end
structure ZG (xs ys:Array Value)(lo:Addr)(h:Heap)(as:List Addr):Prop where
 rise:as.Pairwise (· < ·)
 above:∀ a∈as,lo<a
 pairs:∀ (j:Nat) (a:Addr),as[j]?=some a->∃ x y,xs[j]?=some x/\ys[j]?=some y/\IsPair h a x y
theorem ZG.low {xs ys:Array Value}{lo:Addr}{h:Heap}{as:List Addr}(g:ZG xs ys lo h as){a:Addr}(ha:a∈as):a<h.objs.size:=by
 obtain⟨j,hj⟩:=jK_.mp ha
 obtain⟨_,_,_,_,e⟩:=g.pairs j a hj
 exact jn_ e
section
variable {prog:Program} {w:World} {A:Around} {s:Shared} {R:Result->Shared->Prop} {xs ys:Array Value} {z TI TO i1 i2 l1 l2 S:Addr}
def V2 (z TO i1 i2 S:Addr)(h h':Heap):Prop:=∀ b o,b≠S->b≠z->b≠TO->b≠i1->b≠i2->h.get? b=some o->h'.get? b=some o
theorem YT (hh:A.handled=none)(D:ZipApart z TI TO i1 i2 l1 l2)(F:ZFar z TI TO i1 i2 l1 l2 S)(hlt:z<S/\TO<S/\i1<S/\i2<S)(hn:xs.size<=sizeLine)(hxy:xs.size=ys.size)(res:Value){h₁:Heap}
  (hR:∀ h' tk acc c as,V2 z TO i1 i2 S h₁ h'->h'.get? S=some {cls:=.type "list",dict:=none,data:=.seq acc c,slots := #[]}->as.length=xs.size->ZG xs ys S h' as->acc.toList=as.map Value.ref->R (.ok (.ret res)) {s with heap:=h',toks:=tk}) :
  ∀ (k i:Nat) (h:Heap) (tk c:Nat) (acc:Array Value) (as:List Addr),xs.size-i=k->i<=xs.size->ZSt h z TI TO i1 i2 l1 l2 S xs ys i->V2 z TO i1 i2 S h₁ h ->
   h.get? S=some {cls:=.type "list",dict:=none,data:=.seq acc c,slots := #[]}->acc.toList=as.map Value.ref->as.length=i->ZG xs ys S h as ->
   codeAny (model prog w) A (.builtin "list.extend.loop" ⟨[.ref S,.ref z,res],[]⟩) R {s with heap:=h,toks:=tk}:=by
 obtain⟨g1,g2,g3,g4⟩:=hlt
 intro k
 induction k with
 | zero =>
  intro i h tk c acc as hk hi hst hkeep hS hacc hal hG
  refine codeAny_builtin PySem.F.entry_extend_loop ?_
  rw[Around.under_plainId xq_ _]
  show wpAny _ A.in1 (pyNext (.ref z) >>= _) _ _ _
  refine jb_ (YS (s:={s with heap:=h,toks:=tk}) (A:=A.in1) hh D hst (Array.getElem?_eq_none (by omega)) fun h' he=>?_)
  refine jm_ (hR h' tk acc c as (fun b o b0 b1 b2 b3 b4 e=>he b o b1 b2 b3 b4 (hkeep b o b0 b1 b2 b3 b4 e)) (he S _ F.z.symm F.TO.symm F.i1.symm F.i2.symm hS) (by omega) ⟨hG.rise,hG.above,fun j a hj=>?_⟩ hacc)
  obtain⟨x,y,e1,e2,e3⟩:=hG.pairs j a hj
  have:=hG.above a (jg_ hj)
  exact⟨x,y,e1,e2,he a _ (qa_ (xI_ g1 this)) (qa_ (xI_ g2 this)) (qa_ (xI_ g3 this)) (qa_ (xI_ g4 this)) e3⟩
 | succ k ih =>
  intro i h tk c acc as hk hi hst hkeep hS hacc hal hG
  have hlt:i<xs.size:=by omega
  have hx:xs[i]?=some xs[i]:=by simp[hlt]
  have hy:ys[i]?=some (ys[i]'(by omega)):=by simp[show i<ys.size by omega]
  generalize xs[i]=x at hx
  generalize ys[i]'(by omega)=y at hy
  have hsz:acc.size=i:=by rw[<- jZ_,hacc,ja_,hal]
  have hSl:S<h.objs.size:=jn_ hS
  refine codeAny_builtin PySem.F.entry_extend_loop ?_
  rw[Around.under_plainId xq_ _]
  show wpAny _ A.in1 (pyNext (.ref z) >>= _) _ _ _
  refine jb_ (YR (s:={s with heap:=h,toks:=tk}) (S:=S) D hst hSl hx hy fun h' hst' ht hz hkp=>?_)
  dsimp only at ht hz hkp ⊢
  have hS':=hkp S _ F.z.symm F.TO.symm F.i1.symm F.i2.symm hS
  have up:∀ b o,b≠S->h'.get? b=some o->(h'.update S (Obj.mapSeq (·.push (Value.ref h.objs.size)))).get? b=some o:=fun b o hb e=>(j9_ _ _ (j6_ hb)).trans e
  show wpAny _ A.in1 (updateSeq S (·.push (Value.ref h.objs.size)) >>= _) _ _ _
  refine jb_ ?_
  refine zO_ hS' rfl (jm_ ⟨plainId_quiet xq_ _,ih (i+1) _ tk _ (acc.push (Value.ref h.objs.size)) (as ++ [h.objs.size]) (by omega) hlt (hst'.keep F up)
   (fun b o b0 b1 b2 b3 b4 e=>up b o b0 (hkp b o b1 b2 b3 b4 (hkeep b o b0 b1 b2 b3 b4 e))) (qt_ _ hS' rfl) (by rw[z0_,hacc,jR_];rfl) (by rw[jq_,hal];rfl) ⟨?_,?_,?_⟩⟩) (by rw[hsz];omega) (by show (acc.push (Value.ref h.objs.size)).size<=sizeLine+1;rw[Array.size_push];omega)
  ·refine qV_.mpr ⟨hG.rise,List.pairwise_singleton _ _,fun a ha b hb=>?_⟩
   rw[ju_.mp hb]
   exact hG.low ha
  ·intro a ha
   rcases jB_.mp ha with ha | ha
   ·exact hG.above a ha
   ·rw[ju_.mp ha];exact hSl
  ·intro j b hj
   rcases Nat.lt_trichotomy j as.length with h1 | h1 | h1
   ·rw[jk_ h1] at hj
    obtain⟨x',y',e1,e2,e3⟩:=hG.pairs j b hj
    have hb:=hG.above b (jg_ hj)
    exact⟨x',y',e1,e2,up b _ (qa_ hb) (hkp b _ (qa_ (xI_ g1 hb)) (qa_ (xI_ g2 hb)) (qa_ (xI_ g3 hb)) (qa_ (xI_ g4 hb)) e3)⟩
   ·subst h1
    have hb:h.objs.size=b:=by simpa using hj
    subst hb
    exact⟨x,y,by rw[hal];exact hx,by rw[hal];exact hy,up _ _ (qa_ hSl) ht⟩
   ·have hnone:(as ++ [h.objs.size])[j]?=none:=jA_ (by rw[jq_,j3_];omega)
    rw[hnone] at hj;cases hj
end
theorem UK:typeLookup (.type "zip") "__len__" = pure none:=by rw[typeLookup_type,builtinLookup_eq_fast];kernel_rfl
theorem Si:typeLookup (.type "zip") "__length_hint__" = pure none:=by rw[typeLookup_type,builtinLookup_eq_fast];kernel_rfl
section
variable {prog:Program} {w:World} {A:Around} {s:Shared} {R:Result->Shared->Prop} {xs ys:Array Value} {z TI TO i1 i2 l1 l2 S:Addr}
theorem UL (hh:A.handled=none)(D:ZipApart z TI TO i1 i2 l1 l2)(F:ZFar z TI TO i1 i2 l1 l2 S)(hlt:z<S/\TO<S/\i1<S/\i2<S)(hn:xs.size<=sizeLine)(hxy:xs.size=ys.size)(res:Value)(c₀:Nat)
  (hz:IsZip s.heap z TI TO .none) (hst:ZSt s.heap z TI TO i1 i2 l1 l2 S xs ys 0) (hS:s.heap.get? S=some {cls:=.type "list",data:=.seq #[] c₀})
  (hR:∀ h' tk acc c as,V2 z TO i1 i2 S s.heap h'->h'.get? S=some {cls:=.type "list",dict:=none,data:=.seq acc c,slots := #[]}->as.length=xs.size->ZG xs ys S h' as->acc.toList=as.map Value.ref->R (.ok (.ret res)) {s with heap:=h',toks:=tk}) :
  wpAny (model prog w) A.in1 (Builtin.List.listExtendWith (.ref S) (.ref z) res)
   (fun fin s'=>match fin with | .done f=>R (.ok f) s' | .again c'=>c'.quiet=true/\codeAny (model prog w) A c' R s') (fun e s'=>R (.error e) s') s:=by
 have hT:s.TypeIs (.ref z) "zip" := ⟨_,hz,rfl⟩
 unfold Builtin.List.listExtendWith
 refine jb_ (wpAny_typeOf hT ?_)
 have h1:Builtin.List.listSameRef (.ref S) (.ref z)=false:=by simp[Builtin.List.listSameRef,F.z.symm]
 have h2:(Value.type "zip" == Value.type "list")=false:=by decide
 have h3:(Value.type "zip" == Value.type "tuple")=false:=by decide
 simp only[h1,h2,h3,Bool.or_false,jN_,qP_]
 refine jb_ (wpAny_pyIter_zip hz ?_)
 refine jb_ (qR_ ?_)
 unfold Builtin.List.listLengthHint
 refine jb_ (wpAny_specialOf hT UK ?_)
 show wpAny _ A.in1 (specialOf (Value.ref z) (Str.ofString "__length_hint__") >>= _) _ _ _
 refine jb_ (wpAny_specialOf hT Si ?_)
 refine jm_ ?_
 show wpAny _ A.in1 (rule "list.extend.makes-room" >>= fun _=>Builtin.List.listTouch (.ref S) >>= fun _ =>
  again (.builtin "list.extend.loop" ⟨[.ref S,.ref z,res],[]⟩)) _ _ _
 refine jb_ (zF_ ?_)
 refine jb_ ?_
 show wpAny _ A.in1 (updateSeq S (·.push .none) >>= fun _=>updateSeq S (·.pop)) _ _ _
 refine jb_ (zO_ hS rfl ?_)
 have hS₂:=qt_ (Obj.mapSeq (·.push Value.none)) hS rfl
 refine zO_ (hz:=by seq_fits) hS₂ rfl ?_
 have hS₃:=qt_ (Obj.mapSeq (·.pop)) hS₂ rfl
 have oth:∀ b o,b≠S->s.heap.get? b=some o->((s.heap.update S (Obj.mapSeq (·.push Value.none))).update S (Obj.mapSeq (·.pop))).get? b=some o :=
  fun b o hb e=>(j9_ _ _ (j6_ hb)).trans ((j9_ _ _ (j6_ hb)).trans e)
 exact jm_ ⟨plainId_quiet xq_ _,YT (s:=s) (h₁:=s.heap) hh D F hlt hn hxy res hR xs.size 0 _ s.toks _ #[] [] (Nat.sub_zero _) (j0_ _) (hst.keep F oth) (fun b o b0 _ _ _ _ e=>oth b o b0 e) hS₃ rfl rfl
  ⟨List.Pairwise.nil,(fun _ ha=>nomatch ha),(fun j a hj=>by simp at hj)⟩⟩
theorem YU (hh:A.handled=none)(D:ZipApart z TI TO i1 i2 l1 l2)(F:ZFar z TI TO i1 i2 l1 l2 S)(hlt:z<S/\TO<S/\i1<S/\i2<S)(hn:xs.size<=sizeLine)(hxy:xs.size=ys.size)
  (hz:IsZip s.heap z TI TO .none) (hst:ZSt s.heap z TI TO i1 i2 l1 l2 S xs ys 0) (hS:s.heap.get? S=some {cls:=.type "list",data:=.seq #[]})
  (hR:∀ h' tk acc c as,V2 z TO i1 i2 S s.heap h'->h'.get? S=some {cls:=.type "list",dict:=none,data:=.seq acc c,slots := #[]}->as.length=xs.size->ZG xs ys S h' as->acc.toList=as.map Value.ref->R (.ok (.ret .none)) {s with heap:=h',toks:=tk}) :
  wpAny (model prog w) A.in1 (Builtin.«list.__init__» ⟨[.ref S,.ref z],[]⟩)
   (fun fin s'=>match fin with | .done f=>R (.ok f) s' | .again c'=>c'.quiet=true/\codeAny (model prog w) A c' R s') (fun e s'=>R (.error e) s') s:=by
 show wpAny _ A.in1 (do let old <- Builtin.List.listItems (.ref S);Builtin.List.listUpdate (.ref S) (fun _ => #[]);letGo old.toList.reverse;Builtin.List.listExtendWith (.ref S) (.ref z) .none) _ _ s
 refine jb_ ?_
 unfold Builtin.List.listItems
 refine jb_ (qz_ hS rfl (jm_ ?_))
 show wpAny _ A.in1 (updateSeq S (fun _ => #[]) >>= fun _=>letGo (#[]:Array Value).toList.reverse >>= fun _=>Builtin.List.listExtendWith (.ref S) (.ref z) .none) _ _ s
 refine jb_ (zO_ hS rfl ?_)
 have hS₂:=qt_ (Obj.mapSeq (fun _=>(#[]:Array Value))) hS rfl
 have oth:∀ b o,b≠S->s.heap.get? b=some o->(s.heap.update S (Obj.mapSeq (fun _=>(#[]:Array Value)))).get? b=some o :=
  fun b o hb e=>(j9_ _ _ (j6_ hb)).trans e
 refine jb_ (zL_ ?_)
 exact UL (s:={s with heap:=s.heap.update S (Obj.mapSeq (fun _=>(#[]:Array Value)))}) hh D F hlt hn hxy .none _ (oth _ _ F.z hz) (hst.keep F oth) hS₂ fun h' tk acc c as hk hS' hl hG hacc=>hR h' tk acc c as (fun b o b0 b1 b2 b3 b4 e=>hk b o b0 b1 b2 b3 b4 (oth b o b0 e)) hS' hl hG hacc
end
section
variable {prog:Program} {w:World} {A:Around} {E:Value->Shared->Prop} {s:Shared} {xs ys:Array Value} {z TI TO i1 i2 l1 l2:Addr}
theorem YV {Q:Value->Shared->Prop}(hh:A.handled=none)(D:ZipApart z TI TO i1 i2 l1 l2)(hn:xs.size<=sizeLine)(hxy:xs.size=ys.size)
  (hz:IsZip s.heap z TI TO .none) (hTI:IsPair s.heap TI (.ref i1) (.ref i2)) {a b:Value} (hTO:IsPair s.heap TO a b) (h1:s.heap.IsListIter i1 l1 0) (h2:s.heap.IsListIter i2 l2 0) (hl1:s.heap.IsList l1 xs) (hl2:s.heap.IsList l2 ys)
  (hQ:∀ h' tk acc c as,(∀ b o,b≠z->b≠TO->b≠i1->b≠i2->s.heap.get? b=some o->h'.get? b=some o)->h'.get? s.heap.objs.size=some {cls:=.type "list",dict:=none,data:=.seq acc c,slots := #[]}->as.length=xs.size->ZG xs ys s.heap.objs.size h' as->acc.toList=as.map Value.ref ->
   Q (.ref s.heap.objs.size) {s with heap:=h',toks:=tk}) :
  wpAny (model prog w) A (call (.type "list") [.ref z]) Q E s:=by
 refine callType_codes (Q₁:=fun obj s₁=>obj=.ref s.heap.objs.size/\s₁={s with heap:=s.heap.push {cls:=.type "list",data:=.seq #[]} }) PySem.F.called_list (PySem.F.typeCall_list_1 _) PySem.F.entry_list_init
  (code_list_new _ ⟨rfl,rfl⟩) fun obj s₁ e₁=>?_
 obtain⟨rfl,rfl⟩:=e₁
 have hS:(s.heap.push {cls:=.type "list",data:=.seq #[]}).get? s.heap.objs.size=some {cls:=.type "list",data:=.seq #[]}:=jy_ _ rfl
 have lz:=jn_ hz
 have lTI:=jn_ hTI
 have lTO:=jn_ hTO
 have li1:i1<s.heap.objs.size:=by obtain⟨_,e,_⟩:=id h1;exact jn_ e
 have li2:i2<s.heap.objs.size:=by obtain⟨_,e,_⟩:=id h2;exact jn_ e
 have ll1:l1<s.heap.objs.size:=by obtain⟨_,e,_⟩:=id hl1;exact jn_ e
 have ll2:l2<s.heap.objs.size:=by obtain⟨_,e,_⟩:=id hl2;exact jn_ e
 have up:∀ b o,s.heap.get? b=some o->(s.heap.push {cls:=.type "list",data:=.seq #[]}).get? b=some o:=fun b o e=>jf_ _ e
 have F:ZFar z TI TO i1 i2 l1 l2 s.heap.objs.size:=⟨jM_ lz,jM_ lTI,jM_ lTO,jM_ li1,jM_ li2,jM_ ll1,jM_ ll2⟩
 refine⟨⟨_,hS,rfl⟩,PySem.F.args_list_init_2 _ _,YU (s:={s with heap:=s.heap.push {cls:=.type "list",data:=.seq #[]} }) (A:=A.in1) hh D F ⟨lz,lTO,li1,li2⟩ hn hxy (up _ _ hz) ⟨up _ _ hTI,h1.at fun o e=>up _ o e,h2.at fun o e=>up _ o e,hl1.at fun o e=>up _ o e,hl2.at fun o e=>up _ o e,.inl ⟨up _ _ hz,a,b,up _ _ hTO⟩⟩ hS fun h' tk acc c as hk hS' hl hG hacc=>?_⟩
 exact⟨rfl,hQ h' tk acc c as (fun b o b1 b2 b3 b4 e=>hk b o (jM_ (jn_ e)) b1 b2 b3 b4 (up b o e)) hS' hl hG hacc⟩
end
end L2
namespace L2
open PySem PySem.W PySem.Spec PySem.Calls PyProof.Rows
def Rx (K:α3)(ta:TA):TE:=fun σ H Q=>ta σ H fun vs H1=>∃ a b xs ys,vs=[.ref a,.ref b]/\SqL K H1 a xs/\SqL K H1 b ys/\xs.length=ys.length/\∀ l rs H',Same H1 H'->H' l=none->rs.length=xs.length ->
 (∀ (i:Nat) (x y:V),xs[i]?=some x->ys[i]?=some y->∃ t,rs[i]?=some (V.ref t)/\H' t=some (.tup [x,y]))->Q (.ref l) (upd H' l (.lst rs))
theorem OF {K:α3}{ta:TA}{σ:St}{H:Hp}{Q:VK}:Rx K ta σ H Q=ta σ H fun vs H1=>∃ a b xs ys,vs=[.ref a,.ref b]/\SqL K H1 a xs/\SqL K H1 b ys/\xs.length=ys.length/\∀ l rs H',Same H1 H'->H' l=none->rs.length=xs.length ->
 (∀ (i:Nat) (x y:V),xs[i]?=some x->ys[i]?=some y->∃ t,rs[i]?=some (V.ref t)/\H' t=some (.tup [x,y]))->Q (.ref l) (upd H' l (.lst rs)):=rfl
theorem Sj {X:Cx}{e f:Expr}{ta:TA}{p p2 pos pos2:Pos}(hc:X.calm=true)(hg:Gl X "list")(hm:X.mg "list" = none)(hg2:Gl X "zip")(hm2:X.mg "zip" = none)(ha:PA X [e,f] ta)
  (hs1:starEach [.Call (.Name "zip" p2) [e,f] [] pos2] X.env=[(false,eval (.Call (.Name "zip" p2) [e,f] [] pos2) X.env)]:=by rfl) (hs:starEach [e,f] X.env=[(false,eval e X.env),(false,eval f X.env)]:=by rfl) (hs2:starEach [f] X.env=[(false,eval f X.env)]:=by rfl) :
  PE X (.Call (.Name "list" p) [.Call (.Name "zip" p2) [e,f] [] pos2] [] pos) (Rx X.K ta):=by
 intro pins s σ H Q I h
 refine xm_ (GV I hg hm boot_list ?_)
 refine j7_ ?_ hs1 rfl
 rw[hs1]
 refine xl_ ?_
 refine Call_ (GV I hg2 hm2 boot_zip (j7_ (thn (ha pos2 pins s σ H _ I h) fun us s1 ⟨vs,H1,I1,r1,q1⟩=>?_) (by rw[hs,hs2]) (by rw[hs2];rfl)))
 obtain⟨a,b,xs,ys,ev,hq,hq2,hlen,q⟩:=q1
 subst ev
 cases r1 with
 | cons r rr=>cases rr with
  | cons r' rr =>
   cases rr
   cases r
   cases r'
   obtain⟨its,rv,pl,hzl⟩:=I1.list hq
   obtain⟨its2,rv2,pl2,_⟩:=I1.list hq2
   have a1:a<s1.heap.objs.size:=by obtain⟨_,e,_⟩:=id pl.isList;exact jn_ e
   have a2:b<s1.heap.objs.size:=by obtain⟨_,e,_⟩:=id pl2.isList;exact jn_ e
   have ln1:=rv.length
   have ln2:=rv2.length
   refine call_zip_2 pl.isList pl2.isList fun h1 hz hTI hTO hi1 hi2 hsz hk=>?_
   refine xT_ ?_
   refine YV (s:={s1 with heap:=h1}) (I1.ok.hd hc) (zipApart_new a1 a2) (by rw[jj_,<- ln1];exact hzl) (by rw[jj_,jj_,<- ln1,<- ln2];exact hlen) hz hTI hTO hi1 hi2 (pl.isList.at fun o e=>hk _ o e) (pl2.isList.at fun o e=>hk _ o e) fun h' tk acc c as hk' hS hl hG hacc=>?_
   dsimp only at hk' hS hG
   have hle:s1.heap.objs.size<=h1.objs.size:=by omega
   have hkk:∀ b o,s1.heap.get? b=some o->h'.get? b=some o:=fun b o e=>by
    have:=jn_ e
    exact hk' b o (jM_ (jF_ this (xj_ _ 4))) (jM_ (jF_ this (xj_ _ 3))) (jM_ this) (jM_ (jF_ this (xj_ _ 1))) (hk b o e)
   rw[jj_] at hl
   have hal:as.length=xs.length:=by omega
   let cs:List (List V):=(xs.zip ys).map fun q=>[q.1,q.2]
   have hcl:cs.length=xs.length:=by simp[cs,hlen]
   have hci:∀ (i:Nat) (x y:V),xs[i]?=some x->ys[i]?=some y->cs[i]?=some [x,y]:=fun i x y h1 h2=>by
    simp only[cs]
    rw[je_,show (xs.zip ys)[i]?=some (x,y) from qI_.mpr ⟨h1,h2⟩];rfl
   have hzz:(as.zip cs).map (·.1)=as:=by rw[List.map_fst_zip];rw[hal,hcl];exact jl_ _
   have u0:Un X.fs [] H1 H1 s1.heap h':=Un.kept hkk
   have k0:HOk X.prog X.w H1 h':=I1.hok.kept hkk
   have hmem:∀ p∈as.zip cs,∃ i:Nat,as[i]?=some p.1/\cs[i]?=some p.2:=fun p hp=>by
    obtain⟨i,hi⟩:=jK_.mp hp
    exact⟨i,qI_.mp hi⟩
   have hab:∀ x∈as,s1.heap.objs.size<=x:=fun x hx=>by
    exact zv_ (Nat.lt_of_le_of_lt hle (hG.above x hx))
   obtain⟨H2,e1,e2,e3,e4,e5⟩:=Ru (as.zip cs) (by rw[hzz];exact hG.rise.imp fun a=>jM_ a) (fun p hp=>by
    obtain⟨i,h1,h2⟩:=hmem p hp
    have hi:i<xs.length:=by rw[<- hal];exact (jc_.mp h1).1
    have hi2:i<ys.length:=by omega
    have hxi:xs[i]?=some xs[i]:=by simp[hi]
    have hyi:ys[i]?=some ys[i]:=by simp[hi2]
    rw[hci i _ _ hxi hyi] at h2
    have h2':=js_ h2
    obtain⟨u,hu,ru⟩:=rv.get hxi
    obtain⟨v,hv,rvv⟩:=rv2.get hyi
    obtain⟨x',y',b1,b2,b3⟩:=hG.pairs i p.1 h1
    have eu:x'=u:=by
     rw[List.getElem?_toArray,hu] at b1;exact (js_ b1).symm
    have ew:y'=v:=by
     rw[List.getElem?_toArray,hv] at b2;exact (js_ b2).symm
    subst eu ew
    refine⟨hab _ (jg_ h1),by rw[<- h2'];have:=AB;simp;omega,[x',y'],?_,⟨_,b3,rfl,0,rfl⟩⟩
    rw[<- h2']
    exact Vals.two' ru rvv) H1 u0 k0 (fun p hp=>by
    obtain⟨i,h1,h2⟩:=hmem p hp
    exact I1.hok.fresh (hab _ (jg_ h1)))
   have hD:H2 h1.objs.size=none:=by
    rw[e5 _ (by rw[hzz];exact fun z=>absurd (hG.above _ z) (qm_ _))]
    exact I1.hok.fresh hle
   have hv:Vals (as.map V.ref) acc.toList:=by
    rw[hacc]
    clear hS hl hG hacc hal hzz hmem e4 e5 hab
    induction as with
    | nil=>exact .nil
    | cons a r ih=>exact .cons rfl ih
   have new:CF X.prog X.w (upd H2 h1.objs.size (.lst (as.map V.ref))) h' h1.objs.size (.lst (as.map V.ref)):=⟨by rw[ja_,hal];exact hzl,acc.toList,c,hv,by simpa using hS⟩
   refine⟨.ref _,_,I1.un (t':=tk) (e1.track hle hD) (e2.track hD new),rfl,q _ _ H2 e3 hD (by rw[ja_,hal]) fun i x y hx hy=>?_⟩
   have hi:i<as.length:=by rw[hal];exact (jc_.mp hx).1
   have hai:as[i]?=some as[i]:=by simp[hi]
   refine⟨as[i],by rw[je_,hai];rfl,?_⟩
   exact e4 (as[i],[x,y]) (jK_.mpr ⟨i,qI_.mpr ⟨hai,hci i x y hx hy⟩⟩)
theorem OG {X:Cx}(hc:X.calm=true):EF X (.builtin "max") (fun xs H Q=>∃ (p:Addr) (ns:α2) (m:Int),xs=[.ref p]/\SqL X.K H p (ns.map V.int)/\m∈ns/\(∀ x∈ns,x<=m)/\Q (.int m) H):=by
 intro pins s σ H xs us Q I r h
 obtain⟨p,ns,m,rfl,hq,hm,hmax,q⟩:=h
 obtain⟨u,rfl,rx⟩:=vals1 r
 cases rx
 obtain⟨its,r',pl,_⟩:=I.list hq
 have hi:IntsAre its ns:=by simpa using intsAre_of r'
 obtain⟨zs,e⟩:=hi.allInts.items
 have hns:ns=zs.toList.map (·.1):=by rw[<- hi.numsOf,<- nums_intItems,<- e]
 have hne:0<ns.length:=qF_ hm
 have hsz:0<zs.size:=by rw[hns,ja_,jZ_] at hne;exact hne
 have hl:=pl.isList
 rw[e] at hl
 refine max_intList (I.ok.hd hc) hl hsz fun v h' tk hv hk=>?_
 obtain⟨t,rfl⟩:=intItems_at hv
 obtain⟨h1,h2⟩:=argBest_gt (numAt zs) (zs.size-1)
 have g1:numAt zs (argBest (fun i j=>decide (numAt zs i > numAt zs j)) (zs.size-1))∈ns:=by
  rw[hns,numAt_eq];exact getD_mem (by rw[ja_,jZ_];omega)
 have g2:m<=numAt zs (argBest (fun i j=>decide (numAt zs i > numAt zs j)) (zs.size-1)):=by
  rw[hns] at hm
  obtain⟨j,hj,rfl⟩:=mem_getD hm
  rw[ja_,jZ_] at hj
  rw[<- numAt_eq];exact h2 j (by omega)
 have g3:=hmax _ g1
 have g4:numAt zs (argBest (fun i j=>decide (numAt zs i > numAt zs j)) (zs.size-1))=m:=by omega
 exact⟨.int m,H,I.kept hk,⟨t,by rw[g4]⟩,q⟩
theorem OH {X:Cx}:EF X (.builtin "len") (fun xs H Q=>(∃ a kvs,xs=[V.ref a]/\H a=some (.dK kvs)/\Q (.int kvs.length) H) \/ ∃ p kvs,xs=[.ref p]/\H p=some (.dT kvs)/\Q (.int kvs.length) H) :=
 EF.or (by
  intro pins s σ H xs us Q I r h
  obtain⟨a,kvs,rfl,ha,q⟩:=h
  obtain⟨u,rfl,ru⟩:=vals1 r
  cases ru
  exact Bl_ I (.inl ha) fun t s' I'=>⟨.int kvs.length,H,I',⟨t,rfl⟩,q⟩) LF
def rIxB (K:α3):R2:=fun x y H Q=>rIxL K x y H Q\/rIxT K x y H Q
theorem YW {X:Cx}{K:α3}(h:X.K=K):IxR X (rIxB K):=IxR.or (CN h) (CO h)
theorem Aw_ {K:α3}{x y:V}{H:Hp}{Q:VK}:rIxB K x y H Q=((∃ p xs i v,x=.ref p/\y=.int i/\SqL K H p xs/\atI xs i=some v/\Q v H) \/ ∃ p xs i v,x=.ref p/\y=.int i/\SqT K H p xs/\atI xs i=some v/\Q v H):=rfl
def XI:TE:=fun σ H Q=>T4 σ H Q\/T5 σ H Q
theorem UM {σ:St}{H:Hp}{Q:VK}:XI σ H Q=((∀ p,H p=none->Q (.ref p) (upd H p (.dK []))) \/ ∀ p,H p=none->Q (.ref p) (upd H p (.dT []))):=rfl
theorem V3 {X:Cx}{pos:Pos}:PE X (.Dict [] [] pos) XI:=fun pins s σ H Q I h=>h.elim (fun h=>Re pins s σ H Q I h) (fun h=>Rf pins s σ H Q I h)
end L2
namespace L2
section
variable {α:Type} [DecidableEq α]
def ins1 (acc:List α)(x:α):List α:=if x∈acc then acc else acc ++ [x]
def Ct (acc row:List α):List α:=row.foldl ins1 acc
def AA (row:List α):List α:=Ct [] row
theorem MT {acc:List α}{x y:α}:y∈ins1 acc x↔y∈acc\/y=x:=by
 unfold ins1
 split
 ·rename_i h
  constructor
  ·exact .inl
  ·rintro (h' | rfl)
   ·exact h'
   ·exact h
 ·simp
theorem Kk:∀ {row acc:List α} {y:α},y∈Ct acc row↔y∈acc\/y∈row
 | [],acc,y=>by simp[Ct]
 | x::row,acc,y=>by
  show y∈Ct (ins1 acc x) row↔_
  rw[Kk,MT,jC_,or_assoc]
theorem A2 {row:List α}{y:α}:y∈AA row↔y∈row:=by
 unfold AA
 rw[Kk];simp
theorem Sk {acc:List α}{x:α}(h:acc.Nodup):(ins1 acc x).Nodup:=by
 unfold ins1
 split
 ·exact h
 ·rename_i hx
  exact zZ_.mpr ⟨h,by simp,fun a ha b hb z=>by simp at hb;subst z hb;exact hx ha⟩
theorem HH:∀ {row acc:List α},acc.Nodup->(Ct acc row).Nodup
 | [],acc,h=>h
 | x::row,acc,h=>HH (row:=row) (Sk h)
theorem BC (row:List α):(AA row).Nodup:=HH List.nodup_nil
theorem P8 (row:List α)(x:α):AA (row ++ [x])=ins1 (AA row) x:=by
 unfold AA Ct
 rw[qp_];rfl
theorem UN {l:List α}{x y:α}(hx:x∈l)(hy:y∈l)(h:l.idxOf x=l.idxOf y):x=y:=by
 have h1:=qv_ hx
 have h2:=qv_ hy
 have e1:l[l.idxOf x]=x:=qU_ h1
 have e2:l[l.idxOf y]=y:=qU_ h2
 rw[<- e1,<- e2]
 congr 1
def num (row:List α):α2:=row.map fun x=>((AA row).idxOf x:Int)
theorem Io (row:List α):(num row).length=row.length:=by unfold num;rw[ja_]
theorem Fc {β:Type}[DecidableEq β](f:α->β):∀ (row acc:List α),(∀ x y,x∈acc\/x∈row->y∈acc\/y∈row->f x=f y->x=y)->Ct (acc.map f) (row.map f)=(Ct acc row).map f
 | [],acc,_=>rfl
 | x::row,acc,h=>by
  show Ct (ins1 (acc.map f) (f x)) (row.map f)=(Ct (ins1 acc x) row).map f
  have e:ins1 (acc.map f) (f x)=(ins1 acc x).map f:=by
   unfold ins1
   by_cases hx:x∈acc
   ·rw[if_pos hx,if_pos (xe_ hx)]
   ·rw[if_neg hx,if_neg,jR_];rfl
    intro z
    obtain⟨y,hy,e⟩:=jv_.mp z
    have:=h y x (.inl hy) (.inr (jo_ ..)) e
    subst this
    exact hx hy
  rw[e]
  refine Fc f row _ fun a b ha hb=>h a b ?_ ?_
  ·rcases ha with ha | ha
   ·rcases MT.mp ha with ha | rfl
    ·exact .inl ha
    ·exact .inr (jo_ ..)
   ·exact .inr (jr_ _ ha)
  ·rcases hb with hb | hb
   ·rcases MT.mp hb with hb | rfl
    ·exact .inl hb
    ·exact .inr (jo_ ..)
   ·exact .inr (jr_ _ hb)
def ncl (row:List α):Nat:=(AA row).length
theorem Ip (row:List α):ncl (num row)=ncl row:=by
 unfold ncl num AA
 have:=Fc (fun x=>((AA row).idxOf x:Int)) row [] (fun x y hx hy e=>by
  simp at hx hy
  exact UN (A2.mpr hx) (A2.mpr hy) (by omega))
 unfold AA at this
 simp only[xO_] at this
 rw[this,ja_]
theorem Ry {row:List α}{i:Nat}{x:α}(h:row[i]?=some x):(num row)[i]?=some ((AA row).idxOf x:Int):=by
 unfold num
 rw[je_,h];rfl
theorem P9 {row:List α}{i j:Nat}{x y:α}(hx:row[i]?=some x)(hy:row[j]?=some y):(num row)[i]?=(num row)[j]? ↔ x=y:=by
 rw[Ry hx,Ry hy]
 constructor
 ·intro h
  have:=js_ h
  exact UN (A2.mpr (jg_ hx)) (A2.mpr (jg_ hy)) (by omega)
 ·rintro rfl;rfl
theorem Rz {row:List α}{n:Int}(h:n∈num row):0<=n/\n<ncl row:=by
 unfold num at h
 obtain⟨x,hx,rfl⟩:=jv_.mp h
 have:=qv_ (A2.mpr hx)
 exact⟨by omega,by unfold ncl;omega⟩
theorem MU {row:List α}(h:row ≠ []):((ncl row:Int)-1)∈num row:=by
 have hne:AA row ≠ []:=fun z=>by
  cases row with
  | nil=>exact h rfl
  | cons x row =>
   have:x∈AA (x::row):=A2.mpr (jo_ ..)
   rw[z] at this;cases this
 have hpos:0<(AA row).length:=List.length_pos_iff.mpr hne
 have hlt:(AA row).length-1<(AA row).length:=by omega
 refine jv_.mpr ⟨(AA row)[(AA row).length-1],A2.mp (j4_ hlt),?_⟩
 have e:=(BC row).idxOf_getElem _ hlt
 rw[e]
 unfold ncl
 omega
theorem YX {row:List α}(h:row ≠ []):1<=ncl row:=by
 have h1:=MU h
 have:=Rz h1
 omega
theorem Md (row:List α):ncl row<=row.length:=by
 unfold ncl
 have:∀ (row acc:List α),(Ct acc row).length<=acc.length+row.length:=fun row=>by
  induction row with
  | nil=>intro acc;exact jl_ _
  | cons x row ih =>
   intro acc
   have:=ih (ins1 acc x)
   have h2:(ins1 acc x).length<=acc.length+1:=by unfold ins1;split<;>simp
   show (Ct (ins1 acc x) row).length<=_
   rw[jT_];omega
 have:=this row []
 simpa [AA] using this
end
theorem RA {α:Type}[DecidableEq α]:∀ {l m:List α},l.Nodup->(∀ x∈l,x∈m)->l.length<=m.length
 | [],m,_,_=>j0_ _
 | x::l,m,hn,h=>by
  have hx:=h x (jo_ ..)
  have h1:=qG_.mp hn
  have:=RA (m:=m.erase x) h1.2 fun y hy=>by
   have hne:y≠x:=fun z=>h1.1 (z ▸ hy)
   exact (xv_ hne).mpr (h y (jr_ _ hy))
  rw[q6_ hx] at this
  have hp:0<m.length:=qF_ hx
  rw[jT_];omega
theorem Sl {α β:Type}[DecidableEq α][DecidableEq β](f:α->β){l:List α}{m:List β}(hl:l.Nodup)(hm:m.Nodup)(hs:∀ y∈m,∃ x∈l,f x=y)(hlen:l.length<=m.length){x y:α}(hx:x∈l)(hy:y∈l)(e:f x=f y):x=y:=by
 refine Decidable.byContradiction fun hne=>?_
 have hsub:∀ z∈m,z∈(l.erase y).map f:=fun z hz=>by
  obtain⟨u,hu,rfl⟩:=hs z hz
  by_cases huy:u=y
  ·subst huy
   exact jv_.mpr ⟨x,(xv_ hne).mpr hx,e⟩
  ·exact jv_.mpr ⟨u,(xv_ huy).mpr hu,rfl⟩
 have:=RA hm hsub
 rw[ja_,q6_ hy] at this
 have hp:0<l.length:=qF_ hy
 omega
theorem Sm {α β:Type}[DecidableEq α][DecidableEq β]{row:List (α×β)}(h:ncl row<=ncl (row.map (·.1))){x y:α×β}(hx:x∈row)(hy:y∈row)(e:x.1=y.1):x.2=y.2:=by
 have h':(AA row).length<=(AA (row.map fun p:α×β=>p.1)).length:=h
 have:=Sl (fun p:α×β=>p.1) (BC row) (BC (row.map fun p:α×β=>p.1)) (fun z hz=>by
  obtain⟨p,hp,rfl⟩:=jv_.mp (A2.mp hz)
  exact⟨p,A2.mpr hp,rfl⟩) h' (A2.mpr hx) (A2.mpr hy) e
 rw[this]
theorem YY {α β:Type}[DecidableEq α][DecidableEq β]{row:List (α×β)}(h:∀ x∈row,∀ y∈row,x.1=y.1->x=y):ncl (row.map (·.1))=ncl row:=by
 unfold ncl AA
 have:=Fc (fun p:α×β=>p.1) row [] (fun x y hx hy e=>by
  simp at hx hy
  exact h x hx y hy e)
 simp only[xO_] at this
 rw[this,ja_]
structure WC (L:Int)(n:Nat)(b:α2->Nat->Int)(words:α1)(c:α2):Prop where
 w0:words[0]?=some []
 ok:∀ w∈words,∀ x∈w,0<=x/\x<L
 tl:∀ (k:Nat) (w:α2),words[k]?=some w->0<k->w.tail∈words.take k
 nd:words.Nodup
 len:c.length=n
 rng:∀ v∈c,0<=v/\v<ncl c
 top:((ncl c:Int)-1)∈c
 iff:∀ r s,r<n->s<n->(c[r]?=c[s]? ↔ ∀ w∈words,b w r=b w s)
 le:words.length<=ncl c
def rowB (n:Nat)(b:α2->Nat->Int)(w:α2):α2:=(List.range n).map (b w)
theorem Df {n:Nat}{b:α2->Nat->Int}{w:α2}{r:Nat}(hr:r<n):(rowB n b w)[r]?=some (b w r):=by
 unfold rowB
 rw[je_,qu_ hr];rfl
theorem UO {c m:α2}(h:c.length=m.length):(c.zip m).map (·.1)=c:=by
 rw[List.map_fst_zip (by omega)]
theorem Me {c m:α2}{r:Nat}{u v:Int}(hu:c[r]?=some u)(hv:m[r]?=some v):(c.zip m)[r]?=some (u,v):=by
 rw[qI_];exact⟨hu,hv⟩
section
variable {L:Int} {n:Nat} {b:α2->Nat->Int} {words:α1} {c:α2} {w:α2} {x:Int}
theorem WC.start (hn:1<=n):WC L n b [[]] (num (rowB n b [])):=by
 have hne:rowB n b [] ≠ []:=fun z=>by
  have:=jJ_ List.length z
  unfold rowB at this
  simp at this;omega
 refine⟨rfl,(fun w hw x hx=>by simp at hw;subst hw;cases hx),fun k w hk h0=>?_,by simp,by rw[Io];unfold rowB;simp,fun v hv=>?_,?_,fun r s hr hs=>?_,?_⟩
 ·cases k with
  | zero=>omega
  | succ k=>simp at hk
 ·rw[Ip];exact Rz hv
 ·rw[Ip];exact MU hne
 ·rw[P9 (Df hr) (Df hs)]
  simp
 ·rw[Ip]
  exact YX hne
theorem WC.at (h:WC L n b words c){r:Nat}(hr:r<n):∃ u,c[r]?=some u:=⟨c[r]'(by rw[h.len];exact hr),by simp[h.len,hr]⟩
theorem Fd:(rowB n b w).length=n:=by unfold rowB;simp
theorem WC.zlen (h:WC L n b words c):c.length=(rowB n b w).length:=by rw[h.len,Fd]
theorem WC.same (h:WC L n b words c)(hle:ncl (c.zip (rowB n b w))<=ncl c){r s:Nat}(hr:r<n)(hs:s<n)(e:c[r]?=c[s]?):b w r=b w s:=by
 obtain⟨u,hu⟩:=h.at hr
 obtain⟨v,hv⟩:=h.at hs
 have huv:u=v:=by rw[hu,hv] at e;exact js_ e
 have h1:=jg_ (Me hu (Df (b:=b) (w:=w) hr))
 have h2:=jg_ (Me hv (Df (b:=b) (w:=w) hs))
 exact Sm (by rw[UO (h.zlen)];exact hle) h1 h2 huv
theorem UP {c m:α2}{p:Int×Int}(hp:p∈c.zip m):∃ r:Nat,c[r]?=some p.1/\m[r]?=some p.2:=by
 obtain⟨r,hr⟩:=jK_.mp hp
 have:=qI_.mp (show (c.zip m)[r]?=some (p.1,p.2) from hr)
 exact⟨r,this.1,this.2⟩
theorem WC.told (h:WC L n b words c)(hs:∀ r s,r<n->s<n->c[r]?=c[s]?->b w r=b w s):ncl (c.zip (rowB n b w))<=ncl c:=by
 have e:=YY (row:=c.zip (rowB n b w)) fun p hp q hq e=>by
  obtain⟨r,p1,p2⟩:=UP hp
  obtain⟨s,q1,q2⟩:=UP hq
  have hr:r<n:=by rw[<- h.len];exact (jc_.mp p1).1
  have hs':s<n:=by rw[<- h.len];exact (jc_.mp q1).1
  have:=hs r s hr hs' (by rw[p1,q1,e])
  rw[Df hr] at p2
  rw[Df hs'] at q2
  have e2:p.2=q.2:=by rw[<- js_ p2,<- js_ q2,this]
  exact Prod.ext e e2
 rw[<- e,UO h.zlen]
 exact jl_ _
theorem WC.more (h:WC L n b words c)(hn:1<=n)(hw:w∈words)(hx:0<=x/\x<L)(hgt:ncl c<ncl (c.zip (rowB n b (x::w)))):WC L n b (words ++ [x::w]) (num (c.zip (rowB n b (x::w)))):=by
 have hnew:x::w∉words:=fun hm=>by
  have:=h.told (w:=x::w) fun r s hr hs e=>((h.iff r s hr hs).mp e) _ hm
  omega
 have hzl:(c.zip (rowB n b (x::w))).length=n:=by rw[zP_,h.len,Fd];omega
 have hne:c.zip (rowB n b (x::w)) ≠ []:=fun z=>by rw[z] at hzl;simp at hzl;omega
 have hpos:0<words.length:=by
  have:=(jc_.mp h.w0).1
  exact this
 refine⟨by rw[jk_ hpos];exact h.w0,fun v hv y hy=>?_,fun k v hk h0=>?_,?_,by rw[Io,hzl],fun v hv=>?_,?_,fun r s hr hs=>?_,?_⟩
 ·rcases jB_.mp hv with hv | hv
  ·exact h.ok v hv y hy
  ·rw[ju_.mp hv] at hy
   rcases jC_.mp hy with rfl | hy
   ·exact hx
   ·exact h.ok w hw y hy
 ·by_cases hkl:k<words.length
  ·rw[jk_ hkl] at hk
   rw[List.take_append_of_le_length (by omega)]
   exact h.tl k v hk h0
  ·have:=(jc_.mp hk).1
   rw[jq_,j3_] at this
   have e:k=words.length:=by omega
   subst e
   rw[jt_ (jl_ _),q2_] at hk
   simp at hk
   subst hk
   rw[List.take_left']
   ·exact hw
   ·rfl
 ·exact zZ_.mpr ⟨h.nd,by simp,fun a ha y hy z=>by simp at hy;subst z hy;exact hnew ha⟩
 ·rw[Ip];exact Rz hv
 ·rw[Ip];exact MU hne
 ·obtain⟨u,hu⟩:=h.at hr
  obtain⟨v,hv⟩:=h.at hs
  rw[P9 (Me hu (Df hr)) (Me hv (Df hs))]
  constructor
  ·intro e y hy
   rcases jB_.mp hy with hy | hy
   ·exact ((h.iff r s hr hs).mp (by rw[hu,hv,(Prod.mk.inj e).1])) y hy
   ·rw[ju_.mp hy];exact (Prod.mk.inj e).2
  ·intro e
   have e1:=(h.iff r s hr hs).mpr fun y hy=>e y (qb_ _ hy)
   rw[hu,hv] at e1
   have e2:=e (x::w) (jD_ _ (ju_.mpr rfl))
   rw[js_ e1,e2]
 ·rw[jq_,j3_,Ip]
  have:=h.le
  omega
def Told (n:Nat)(b:α2->Nat->Int)(c:α2)(w:α2):Prop:=∀ r s,r<n->s<n->c[r]?=c[s]?->b w r=b w s
theorem WC.finer (h:WC L n b words c)(hz:c.length=n){u:α2}(ht:Told n b c u):Told n b (num (c.zip (rowB n b w))) u:=fun r s hr hs e=>by
 obtain⟨p,hp⟩:=h.at hr
 obtain⟨q,hq⟩:=h.at hs
 have:=(P9 (Me hp (Df (b:=b) (w:=w) hr)) (Me hq (Df (b:=b) (w:=w) hs))).mp e
 exact ht r s hr hs (by rw[hp,hq,(Prod.mk.inj this).1])
theorem WC.mine (h:WC L n b words c)(hw:w∈words):Told n b c w:=fun r s hr hs e=>((h.iff r s hr hs).mp e) w hw
end
theorem UQ {α β:Type}[DecidableEq α][DecidableEq β](f:α->β):∀ (l:List α) (x:α),(∀ y∈l,f y=f x->y=x)->(l.map f).idxOf (f x)=l.idxOf x
 | [],x,_=>rfl
 | a::l,x,h=>by
  rw[jV_,zM_,zM_,UQ f l x fun y hy=>h y (jr_ _ hy)]
  by_cases e:a=x
  ·subst e;simp
  ·have:¬ f a=f x:=fun z=>e (h a (jo_ ..) z)
   rw[show (a == x)=false by simpa using e,show (f a == f x)=false by simpa using this]
theorem YZ {α β:Type}[DecidableEq α][DecidableEq β](f:α->β){row:List α}(h:∀ x∈row,∀ y∈row,f x=f y->x=y):num (row.map f)=num row:=by
 have e:AA (row.map f)=(AA row).map f:=by
  unfold AA
  have:=Fc f row [] (fun x y hx hy e=>h x (hx.resolve_left (by simp)) y (hy.resolve_left (by simp)) e)
  simpa using this
 unfold num
 rw[jQ_,e]
 refine qd_ fun x hx=>?_
 show (((AA row).map f).idxOf (f x):Int)=_
 rw[UQ f _ _ fun y hy e=>h y (A2.mp hy) x hx e]
theorem V4 {α:Type}[DecidableEq α]{l:List α}{x y:α}(hy:y∈l):(l ++ [x]).idxOf y=l.idxOf y:=by
 rw[z1_,if_pos hy]
theorem Qa {α:Type}[DecidableEq α]{l:List α}{x:α}(hx:x∉l):(l ++ [x]).idxOf x=l.length:=by
 rw[z1_,if_neg hx];simp
abbrev StC:=α1×α2
def LG (n:Nat)(b:α2->Nat->Int)(w:α2)(st:StC)(x:Nat):StC:=if ncl st.2<ncl (st.2.zip (rowB n b ((x:Int)::w))) then (st.1 ++ [(x:Int)::w],num (st.2.zip (rowB n b ((x:Int)::w)))) else st
def HI (n:Nat)(b:α2->Nat->Int)(w:α2)(L:Nat)(st:StC):StC:=(List.range L).foldl (LG n b w) st
def HJ (n:Nat)(b:α2->Nat->Int)(L:Nat):Nat->Nat->StC->StC
 | 0,_,st=>st
 | f+1,k,st=>if k<st.1.length then HJ n b L f (k+1) (HI n b (st.1.getD k []) L st) else st
section
variable {n L:Nat} {b:α2->Nat->Int} {w:α2} {st:StC}
theorem Kl {i:Nat}:HI n b w (i+1) st=LG n b w (HI n b w i st) i:=by
 unfold HI
 rw[xR_,qp_];rfl
theorem Mf {f k:Nat}(h:st.1.length<=k):HJ n b L f k st=st:=by
 cases f with
 | zero=>rfl
 | succ f=>unfold HJ;rw[if_neg (by omega)]
theorem OI {f k:Nat}{v:α2}(h:st.1[k]?=some v):HJ n b L (f+1) k st=HJ n b L f (k+1) (HI n b v L st):=by
 have hk:=(jc_.mp h).1
 rw[HJ,if_pos hk,jd_,h];rfl
structure WS (n L:Nat)(b:α2->Nat->Int)(k i:Nat)(st:StC):Prop where
 wc:WC L n b st.1 st.2
 told:∀ (j:Nat) (v:α2),st.1[j]?=some v->∀ x:Nat,x<L->(j<k\/(j=k/\x<i))->Told n b st.2 ((x:Int)::v)
theorem WS.start (hn:1<=n):WS n L b 0 0 ([[]],num (rowB n b [])):=⟨WC.start hn,fun j v hj x hx h=>by omega⟩
theorem WS.next {k:Nat}(h:WS n L b k L st):WS n L b (k+1) 0 st:=⟨h.wc,fun j v hj x hx hh=>h.told j v hj x hx (by omega)⟩
theorem WS.step {k i:Nat}(hn:1<=n)(hw:st.1[k]?=some w)(hi:i<L)(h:WS n L b k i st):WS n L b k (i+1) (LG n b w st i)/\(LG n b w st i).1[k]?=some w:=by
 have hm:=jg_ hw
 unfold LG
 by_cases hc:ncl st.2<ncl (st.2.zip (rowB n b ((i:Int)::w)))
 ·rw[if_pos hc]
  have hW:=h.wc.more hn hm (show 0<=(i:Int)/\(i:Int)<L by omega) hc
  have hk:=(jc_.mp hw).1
  refine⟨⟨hW,fun j v hj x hx hh=>?_⟩,by rw[jk_ hk];exact hw⟩
  by_cases e:j=k/\x=i
  ·obtain⟨rfl,rfl⟩:=e
   rw[jk_ hk,hw] at hj
   cases hj
   exact hW.mine (jD_ _ (ju_.mpr rfl))
  ·have hjl:j<st.1.length:=by omega
   rw[jk_ hjl] at hj
   exact h.wc.finer h.wc.len (h.told j v hj x hx (by omega))
 ·rw[if_neg hc]
  refine⟨⟨h.wc,fun j v hj x hx hh=>?_⟩,hw⟩
  by_cases e:j=k/\x=i
  ·obtain⟨rfl,rfl⟩:=e
   rw[hw] at hj
   cases hj
   exact fun r s hr hs er=>h.wc.same (by omega) hr hs er
  ·exact h.told j v hj x hx (by omega)
theorem WS.few {k i:Nat}(h:WS n L b k i st):st.1.length<=n:=by
 have h1:=h.wc.le
 have h2:=Md st.2
 rw[h.wc.len] at h2
 omega
def wcOf (n L:Nat)(b:α2->Nat->Int):StC:=HJ n b L 41 0 ([[]],num (rowB n b []))
structure Fin17 (n L:Nat)(b:α2->Nat->Int)(st:StC):Prop where
 wc:WC L n b st.1 st.2
 told:∀ v∈st.1,∀ x:Nat,x<L->Told n b st.2 ((x:Int)::v)
theorem WS.fin {k:Nat}(h:WS n L b k 0 st)(hk:st.1.length<=k):Fin17 n L b st:=⟨h.wc,fun v hv x hx=>by
 obtain⟨j,hj⟩:=jK_.mp hv
 have:=(jc_.mp hj).1
 exact h.told j v hj x hx (by omega)⟩
end
end L2
namespace L2
open PySem PySem.W PySem.Spec PySem.Calls PyProof.Rows
theorem UR {X:Cx}{pins:α7}{σ:St}{H:Hp}{s:Shared}{a:Addr}{kvs:List (Key×V)}{k:Key}{v:V}{u r:Value}{A:Around}{E:Value->Shared->Prop}{Q:Value->Shared->Prop}(I:Inv X pins σ H s)(e:H a=some (.dK kvs))(l:kvs.length<sizeLine)(ry:RelV (kV k) u)(rv:RelV v r)
  (h0:∀ x,valV kvs k=some x->∀ w' s',Inv X pins σ H s'->RelV x w'->Q w' s') (h1:valV kvs k=none->∀ s',Inv X pins σ (upd H a (.dK (putK kvs k v))) s'->Q r s') :
  wpAny (model X.prog X.w) A (call (.builtin "dict.setdefault") [.ref a,u,r]) Q E s:=by
 obtain⟨z,hd,vs,rel,dd⟩:=VI I.hok e
 have hz:vs.length<=sizeLine:=by rw[<- rel.length];exact z
 refine call_meetsIn PySem.F.slot_dict_setdefault dd.typeIs PySem.F.entry_dict_setdefault (PySem.F.args_dict_setdefault_3 _ _ _) (kt_meets_setdefault (BN X.prog X.w) a (PJ ry) hd r) ⟨vs,dd,hz,fun x hx=>?_,fun hn h' dd' hs=>?_⟩
 ·have rk:=rel.val k
  rw[hx] at rk
  cases q:valV kvs k with
  | none=>rw[q] at rk;exact (rk:False).elim
  | some y=>rw[q] at rk;exact h0 y q _ _ (I.tok _) rk
 ·have rk:=rel.val k
  rw[hn] at rk
  cases q:valV kvs k with
  | some y=>rw[q] at rk;exact (rk:False).elim
  | none =>
   refine h1 q _ ?_
   have hl:(putK kvs k v).length<=sizeLine:=by have:=Fb kvs k v;omega
   have he:∃ q,h'.get? a=some q:=let ⟨q,_,_,hq,_⟩:=dd';⟨q,hq⟩
   exact MB I (by rw[e];exact True.intro) hs he (T0 hl hd (rel.put k rv) dd')
def RC (td ty tx:TE):TE:=fun σ H Q=>td σ H fun x H1=>∃ a,x=.ref a/\IsD H1 a/\ty σ H1 fun y H2=>tx σ H2 fun z H3=>∃ n kvs,y=.int n/\H3 a=some (.dK kvs)/\kvs.length<sizeLine/\(∀ v,valV kvs (Sum.inl n)=some v->Q v H3)/\(valV kvs (Sum.inl n)=none->Q z (upd H3 a (.dK (putK kvs (Sum.inl n) z))))
theorem OJ {td ty tx:TE}{σ:St}{H:Hp}{Q:VK}:RC td ty tx σ H Q=td σ H fun x H1=>∃ a,x=.ref a/\IsD H1 a/\ty σ H1 fun y H2=>tx σ H2 fun z H3=>∃ n kvs,y=.int n/\H3 a=some (.dK kvs)/\kvs.length<sizeLine/\(∀ v,valV kvs (Sum.inl n)=some v->Q v H3)/\(valV kvs (Sum.inl n)=none->Q z (upd H3 a (.dK (putK kvs (Sum.inl n) z)))):=rfl
theorem Sn {X:Cx}{o e f:Expr}{apos cpos:Pos}{td ty tx:TE}(ho:PE X o td)(he:PE X e ty)(hf:PE X f tx)(m:M2 X o "setdefault" apos e f cpos):PE X (.Call (.Attribute o "setdefault" apos) [e,f] [] cpos) (RC td ty tx):=by
 intro pins s σ H Q I h
 refine wpAny_Call_method m.base m.few m.line PySem.F.plainAttrs_dict PySem.F.slot_dict_setdefault PySem.F.type_dict_setdefault (thn (ho pins s σ H _ I h) fun u s1 ⟨x,H1,I1,rx,a,ex,d,q1⟩=>?_)
 subst ex
 obtain rfl:u=Value.ref a:=rx
 obtain⟨t1,t2,_⟩:=Xg I1 d
 refine⟨t1,t2,?_⟩
 rw[m.trees]
 refine xM_ rfl (xZ_ (xl_ (thn (he pins s1 σ H1 _ I1 q1) fun iv s2 ⟨y,H2,I2,ry,q2⟩ =>
  xl_ (thn (hf pins s2 σ H2 _ I2 q2) fun fv s3 ⟨z,H3,I3,rz,n,kvs,ey,ea,l,q3,q4⟩=>xT_ ?_))))
 subst ey
 exact UR (k:=Sum.inl n) I3 ea l ry rz (fun v hv w' s4 I4 rw'=>⟨v,H3,I4,rw',q3 v hv⟩) fun hn s4 I4=>⟨z,_,I4,rz,q4 hn⟩
end L2
namespace L2
open GW GB
theorem US {L:Int}(hL:0<L){n i:Nat}{ways:α1}{r:Int}{w:α2}:∀ (rest:α2) (x:Nat) (ents:List (Int×α2)),((x+rest.length:Nat):Int)=L->(∀ (k:Nat) (g:Int),rest[k]?=some g->g=Bm ways r ((x+k:Nat):Int)/\0<=g/\g<(n:Int))->Bfs L n ways ents i (place L w*L+x+1)->Seen L ways ents r w x->ents[i]?=some (r,w) ->
  Bfs L n ways (EA w ents x rest) i (place L w*L+L+1)/\Seen L ways (EA w ents x rest) r w L.toNat/\(EA w ents x rest)[i]?=some (r,w)
 | [],x,ents,hx,hg,bf,se,he=>by
  rw[Il]
  have e:(x:Int)=L:=by simpa using hx
  rw[e] at bf
  exact⟨bf,by rw[show L.toNat=x by omega];exact se,he⟩
 | g::rest,x,ents,hx,hg,bf,se,he=>by
  rw[G8]
  obtain⟨g1,g2⟩:=hg 0 g rfl
  have hxl:(x:Int)<L:=by rw[jT_] at hx;omega
  obtain⟨bf',se'⟩:=bf.letter hL se (jg_ he) hxl g1 g2
  refine US hL rest (x+1) _ (by rw[<- hx,jT_];congr 1;omega) (fun k g' hk=>?_) bf' se' (G9 he)
  have:=hg (k+1) g' (by simpa using hk)
  rwa [show x+(k+1)=x+1+k by omega] at this
theorem UT {L:Int}{marks:α2}{ways:α1}(wf:Wf L marks ways):∀ (f:Nat) (ents:List (Int×α2)) (i:Nat) (top:Int),Bfs L marks.length ways ents i top->(∀ e,ents[i]?=some e->top<=place L e.2*L+1)->marks.length<i+f->∃ top',Bfs L marks.length ways (bfs ways f ents i) (bfs ways f ents i).length top'
 | 0,ents,i,top,bf,ht,hf=>absurd bf.il (by have:=bf.len;omega)
 | f+1,ents,i,top,bf,ht,hf=>by
  have hL:0<L:=by have:=wf.l1;omega
  cases he:ents[i]? with
  | none =>
   rw[MK he]
   have:i=ents.length:=by have:=bf.il;have:=xp_.mp he;omega
   exact⟨top,this ▸ bf⟩
  | some e =>
   obtain⟨r,w⟩:=e
   rw[ML he]
   have hr:=bf.rng _ (jg_ he)
   obtain⟨row,h1,h2,h3⟩:=wf.row hr.1 hr.2
   have hgd:ways.getD r.toNat []=row:=by rw[jd_,h1];rfl
   obtain⟨a,b,c⟩:=US (w:=w) (r:=r) hL row 0 ents (by simpa using h3) (fun k g hk=>⟨by rw[zz_];exact (BM h1 (by rw[jh_];exact hk)).symm,(wf.rows row h2).2 g (jg_ hk)⟩) (bf.up (by have h9:top<=place L w*L+1:=ht _ he;push_cast;omega)) (fun y h0 h1=>absurd h1 (by push_cast;omega)) he
   obtain⟨bf',ht'⟩:=Bfs.next hL (m:=L.toNat) (by rw[show ((L.toNat:Nat):Int)=L by omega];exact a) (by omega) b c
   show ∃ top',Bfs L marks.length ways (bfs ways f (EA w ents 0 (ways.getD r.toNat [])) (i+1)) _ top'
   rw[hgd]
   exact UT wf f _ (i+1) _ bf' ht' (by omega)
theorem Bfs.mk {L:Int}{marks:α2}{ways:α1}(wf:Wf L marks ways):∃ top,Bfs L marks.length ways (Az ways) (Az ways).length top:=by
 unfold Az
 refine UT wf _ _ 0 1 (Bfs.start L wf.n1 ways) (fun e he=>?_) (by rw[wf.len];omega)
 simp at he;subst he;simp[place,De]
theorem OK {n L:Nat}{b:α2->Nat->Int}{st:StC}{k:Nat}{w:α2}(hn:1<=n)(hw:st.1[k]?=some w)(h:WS n L b k 0 st):∀ i,i<=L->WS n L b k i (HI n b w i st)/\(HI n b w i st).1[k]?=some w
 | 0,_=>⟨h,hw⟩
 | i+1,hi=>by
  obtain⟨a,c⟩:=OK hn hw h i (by omega)
  rw[Kl]
  exact a.step hn c (by omega)
theorem Mg {n L:Nat}{b:α2->Nat->Int}(hn:1<=n)(hn40:n<=40):∀ (f k:Nat) (st:StC),k+f=41->WS n L b k 0 st->Fin17 n L b (HJ n b L f k st)
 | 0,k,st,hk,h=>h.fin (by have:=h.few;omega)
 | f+1,k,st,hk,h=>by
  cases hw:st.1[k]? with
  | none =>
   have:=xp_.mp hw
   rw[Mf this]
   exact h.fin this
  | some w =>
   rw[OI hw]
   exact Mg hn hn40 f (k+1) _ (by omega) (OK hn hw h L (jl_ _)).1.next
theorem Fin17.mk' {n L:Nat}{b:α2->Nat->Int}(hn:1<=n)(hn40:n<=40):Fin17 n L b (wcOf n L b):=Mg hn hn40 41 0 _ rfl (WS.start hn)
def bW (marks:α2)(ways:α1)(w:α2)(r:Nat):Int:=marks.getD (B2 ways (r:Int) w).toNat 0
theorem XJ {marks:α2}{ways:α1}:rowB marks.length (bW marks ways) []=marks:=by
 refine qc_ fun i=>?_
 by_cases hi:i<marks.length
 ·rw[Df hi]
  unfold bW
  show some (marks.getD ((i:Int)).toNat 0)=_
  rw[jh_,jd_,ji_ hi];rfl
 ·rw[jA_ (by rw[Fd];omega),jA_ (by omega)]
theorem Qb {marks:α2}{ways:α1}(w:α2)(x:Int)(r:Nat)(h:0<=Bm ways (r:Int) x):bW marks ways (x::w) r=bW marks ways w (Bm ways (r:Int) x).toNat:=by
 unfold bW
 rw[BQ,xL_ h]
def cf (c:α2)(r:Int):Int:=c.getD r.toNat 0
def hm (c R:α2)(r:Int):Int:=(((AA (R.map (cf c))).idxOf (cf c r):Nat):Int)
def Cq (c acc:α2)(r:Int):α2:=if cf c r∈acc.map (cf c) then acc else acc ++ [r]
def FR (c R:α2):α2:=R.foldl (Cq c) []
theorem So (c acc:α2)(r:Int):(Cq c acc r).map (cf c)=ins1 (acc.map (cf c)) (cf c r):=by
 unfold Cq ins1
 split
 ·rfl
 ·rw[jR_];rfl
theorem UU (c:α2):∀ (R acc:α2),(R.foldl (Cq c) acc).map (cf c)=Ct (acc.map (cf c)) (R.map (cf c))
 | [],acc=>rfl
 | r::R,acc=>by
  rw[qT_,UU c R,So];rfl
theorem Km (c R:α2):(FR c R).map (cf c)=AA (R.map (cf c)):=UU c R []
theorem UV {c R:α2}{i:Nat}{r:Int}(h:R[i]?=some r):FR c (R.take (i+1))=Cq c (FR c (R.take i)) r:=by
 unfold FR
 rw[jP_,h,qk_,qp_];rfl
theorem Y0 (c R:α2)(r:Int):FR c (R ++ [r])=Cq c (FR c R) r:=by
 unfold FR
 rw[qp_];rfl
theorem UW (c:α2):∀ (R acc:α2) (r:Int),r∈R.foldl (Cq c) acc->r∈acc\/r∈R
 | [],acc,r,h=>.inl h
 | q::R,acc,r,h=>by
  rcases UW c R _ r h with h | h
  ·unfold Cq at h
   split at h
   ·exact .inl h
   ·rcases jB_.mp h with h | h
    ·exact .inl h
    ·exact .inr (by rw[ju_.mp h];exact jo_ ..)
  ·exact .inr (jr_ _ h)
theorem HK {c R:α2}{r:Int}(h:r∈FR c R):r∈R:=(UW c R [] r h).resolve_left (by simp)
theorem RD (c R:α2):(FR c R).length<=R.length:=by
 have h:=jJ_ List.length (Km c R)
 have h2:=Md (R.map (cf c))
 unfold ncl at h2
 rw[ja_] at h h2
 omega
def mkR (marks:α2)(r:Int):Int:=marks.getD r.toNat 0
def hrow (c R:α2)(ways:α1)(r:Int):α2:=(ways.getD r.toNat []).map (hm c R)
theorem hm_F {c R:α2}{j:Nat}{r:Int}(h:(FR c R)[j]?=some r):hm c R r=j:=by
 have h1:(AA (R.map (cf c)))[j]?=some (cf c r):=by rw[<- Km,je_,h];rfl
 unfold hm
 obtain⟨hj,e⟩:=jc_.mp h1
 rw[<- e,(BC _).idxOf_getElem _ hj]
theorem F_hm {c R:α2}{r:Int}(h:r∈R):∃ (j:Nat) (q:Int),j<(FR c R).length/\hm c R r=j/\(FR c R)[j]?=some q/\cf c q=cf c r:=by
 have hm':cf c r∈AA (R.map (cf c)):=A2.mpr (xe_ h)
 have hi:=qv_ hm'
 have hl:(FR c R).length=(AA (R.map (cf c))).length:=by rw[<- Km,ja_]
 refine⟨(AA (R.map (cf c))).idxOf (cf c r),(FR c R)[(AA (R.map (cf c))).idxOf (cf c r)]'(by omega),by omega,rfl,by simp[hl,hi],?_⟩
 have e:((FR c R).map (cf c))[(AA (R.map (cf c))).idxOf (cf c r)]?=some (cf c r):=by rw[Km,ji_ hi,qU_]
 rw[je_,ji_ (by omega)] at e
 exact js_ e
theorem hm_congr {c R:α2}{r s:Int}(h:cf c r=cf c s):hm c R r=hm c R s:=by unfold hm;rw[h]
theorem OL {c:α2}(p:Int->Int):∀ Q:α2,Q.reverse.Pairwise (fun a b=>p a<p b)->(FR c Q.reverse).Pairwise (fun a b=>p a<p b)/\∀ r∈Q.reverse,∃ f∈FR c Q.reverse,cf c f=cf c r/\p f<=p r
 | [],_=>⟨List.Pairwise.nil,fun r hr=>by simp at hr⟩
 | q::Q,h=>by
  rw[List.reverse_cons] at h ⊢
  obtain⟨h1,_,h3⟩:=qV_.mp h
  obtain⟨i1,i2⟩:=OL p Q h1
  rw[Y0]
  unfold Cq
  by_cases hc:cf c q∈(FR c Q.reverse).map (cf c)
  ·rw[if_pos hc]
   refine⟨i1,fun r hr=>?_⟩
   rcases jB_.mp hr with hr | hr
   ·exact i2 r hr
   ·rw[ju_.mp hr]
    obtain⟨f,hf,e⟩:=jv_.mp hc
    exact⟨f,hf,e,zU_ (h3 f (HK hf) q (ju_.mpr rfl))⟩
  ·rw[if_neg hc]
   refine⟨qV_.mpr ⟨i1,List.pairwise_singleton _ _,fun a ha b hb=>?_⟩,fun r hr=>?_⟩
   ·exact h3 a (HK ha) b hb
   ·rcases jB_.mp hr with hr | hr
    ·obtain⟨f,hf,e⟩:=i2 r hr
     exact⟨f,qb_ _ hf,e⟩
    ·exact⟨r,jD_ _ hr,rfl,zt_ _⟩
theorem V5 {c R:α2}(p:Int->Int)(h:R.Pairwise (fun a b=>p a<p b)):(FR c R).Pairwise (fun a b=>p a<p b)/\∀ r∈R,∃ f∈FR c R,cf c f=cf c r/\p f<=p r:=by
 have:=OL (c:=c) p R.reverse (by rw[xu_];exact h)
 rwa [xu_] at this
section
variable {L:Nat} {marks:α2} {ways:α1}
theorem Sq {c:α2}{n:Nat}(hc:c.length=n){r:Int}(h0:0<=r)(h1:r<(n:Int)):c[r.toNat]?=some (cf c r):=by
 unfold cf
 rw[jd_]
 simp[show r.toNat<c.length by omega]
theorem Wf.stp (wf:Wf L marks ways){r x:Int}(h0:0<=r)(h1:r<marks.length)(x0:0<=x)(x1:x<L):0<=Bm ways r x/\Bm ways r x<marks.length:=by
 obtain⟨_,g,_,_,e,a,b⟩:=wf.step h0 h1 x0 x1
 rw[e];exact⟨a,b⟩
theorem JY (wf:Wf L marks ways){st:StC}(fin:Fin17 marks.length L (bW marks ways) st){r s:Int}(r0:0<=r)(r1:r<marks.length)(s0:0<=s)(s1:s<marks.length)(e:cf st.2 r=cf st.2 s) :
  mkR marks r=mkR marks s/\∀ x:Nat,x<L->cf st.2 (Bm ways r x)=cf st.2 (Bm ways s x):=by
 have ec:st.2[r.toNat]?=st.2[s.toNat]?:=by rw[Sq fin.wc.len r0 r1,Sq fin.wc.len s0 s1,e]
 have hr:r.toNat<marks.length:=by omega
 have hs:s.toNat<marks.length:=by omega
 have all:=(fin.wc.iff _ _ hr hs).mp ec
 have eR:((r.toNat:Nat):Int)=r:=by omega
 have eS:((s.toNat:Nat):Int)=s:=by omega
 refine⟨?_,fun x hx=>?_⟩
 ·have:=all [] (jg_ fin.wc.w0)
  unfold bW at this
  rw[eR,eS] at this
  exact this
 ·obtain⟨a0,a1⟩:=Wf.stp wf r0 r1 (show (0:Int)<=x by omega) (by omega)
  obtain⟨b0,b1⟩:=Wf.stp wf s0 s1 (show (0:Int)<=x by omega) (by omega)
  have:=(fin.wc.iff (Bm ways r x).toNat (Bm ways s x).toNat (by omega) (by omega)).mpr fun w hw=>by
   have:=fin.told w hw x hx r.toNat s.toNat hr hs ec
   rw[Qb _ _ _ (by rw[eR];exact a0),Qb _ _ _ (by rw[eS];exact b0),eR,eS] at this
   exact this
  rw[Sq fin.wc.len a0 a1,Sq fin.wc.len b0 b1] at this
  exact js_ this
theorem UX (wf:Wf L marks ways){st:StC}(fin:Fin17 marks.length L (bW marks ways) st):∀ (w:α2) {r s:Int},isW L w=true->0<=r->r<marks.length->0<=s->s<marks.length->cf st.2 r=cf st.2 s->mkR marks (B2 ways r w)=mkR marks (B2 ways s w)
 | [],r,s,_,r0,r1,s0,s1,e=>(JY wf fin r0 r1 s0 s1 e).1
 | x::w,r,s,hw,r0,r1,s0,s1,e=>by
  obtain⟨hx,hw⟩:=MO.mp hw
  obtain⟨a0,a1⟩:=Wf.stp wf r0 r1 hx.1 hx.2
  obtain⟨b0,b1⟩:=Wf.stp wf s0 s1 hx.1 hx.2
  rw[BQ,BQ]
  refine UX wf fin w hw a0 a1 b0 b1 ?_
  have:=(JY wf fin r0 r1 s0 s1 e).2 x.toNat (by omega)
  rwa [show ((x.toNat:Nat):Int)=x by omega] at this
theorem Mh (wf:Wf L marks ways){st:StC}(fin:Fin17 marks.length L (bW marks ways) st){r s:Int}(r0:0<=r)(r1:r<marks.length)(s0:0<=s)(s1:s<marks.length)(h:∀ w,isW L w=true->mkR marks (B2 ways r w)=mkR marks (B2 ways s w)):cf st.2 r=cf st.2 s:=by
 have eR:((r.toNat:Nat):Int)=r:=by omega
 have eS:((s.toNat:Nat):Int)=s:=by omega
 have:=(fin.wc.iff r.toNat s.toNat (by omega) (by omega)).mpr fun w hw=>by
  have:=h w (AT.mpr (fin.wc.ok w hw))
  unfold bW
  rw[eR,eS]
  exact this
 rw[Sq fin.wc.len r0 r1,Sq fin.wc.len s0 s1] at this
 exact js_ this
end
def cOf (L:Nat)(marks:α2)(ways:α1):α2:=(wcOf marks.length L (bW marks ways)).2
def rOf (ways:α1):α2:=(Az ways).map (·.1)
def sF (L:Nat)(marks:α2)(ways:α1):α2:=FR (cOf L marks ways) (rOf ways)
def sM (L:Nat)(marks:α2)(ways:α1):α2:=(sF L marks ways).map (mkR marks)
def sW (L:Nat)(marks:α2)(ways:α1):α1:=(sF L marks ways).map (hrow (cOf L marks ways) (rOf ways) ways)
def hO (L:Nat)(marks:α2)(ways:α1)(r:Int):Int:=hm (cOf L marks ways) (rOf ways) r
section
variable {L:Nat} {marks:α2} {ways:α1}
theorem finO (wf:Wf L marks ways):Fin17 marks.length L (bW marks ways) (wcOf marks.length L (bW marks ways)):=Fin17.mk' wf.n1 wf.n40
theorem EX (wf:Wf L marks ways){r:Int}(h:r∈rOf ways):0<=r/\r<marks.length:=by
 obtain⟨top,bf⟩:=Bfs.mk wf
 obtain⟨e,he,rfl⟩:=jv_.mp h
 exact bf.rng e he
theorem Iq (wf:Wf L marks ways){r x:Int}(h:r∈rOf ways)(x0:0<=x)(x1:x<L):Bm ways r x∈rOf ways:=by
 obtain⟨top,bf⟩:=Bfs.mk wf
 obtain⟨e,he,rfl⟩:=jv_.mp h
 obtain⟨j,hj⟩:=jK_.mp he
 obtain⟨e',h1,h2,_⟩:=bf.don j (jc_.mp hj).1 e hj x x0 x1
 rw[<- h2]
 exact xe_ h1
theorem UY (wf:Wf L marks ways):(rOf ways)[0]?=some 0:=by
 obtain⟨top,bf⟩:=Bfs.mk wf
 unfold rOf
 rw[je_,bf.hd];rfl
theorem UZ (wf:Wf L marks ways):(rOf ways).length<=marks.length:=by
 obtain⟨top,bf⟩:=Bfs.mk wf
 unfold rOf
 rw[ja_];exact bf.len
theorem MV (wf:Wf L marks ways):∀ (w:α2) {r:Int},r∈rOf ways->isW L w=true->B2 ways r w∈rOf ways
 | [],r,h,_=>h
 | x::w,r,h,hw=>by
  obtain⟨hx,hw⟩:=MO.mp hw
  rw[BQ]
  exact MV wf w (Iq wf h hx.1 hx.2) hw
theorem I0 (wf:Wf L marks ways){j:Nat}{r:Int}(h:(sF L marks ways)[j]?=some r):r∈rOf ways/\0<=r/\r<marks.length/\hO L marks ways r=j:=by
 have h1:=HK (jg_ h)
 have:=EX wf h1
 exact⟨h1,this.1,this.2,hm_F h⟩
theorem XL (wf:Wf L marks ways):(sF L marks ways).length<=marks.length:=qM_ (RD _ _) (UZ wf)
theorem Y1 (wf:Wf L marks ways){r:Int}(h:r∈rOf ways):∃ (j:Nat) (q:Int),j<(sF L marks ways).length/\hO L marks ways r=j/\(sF L marks ways)[j]?=some q/\cf (cOf L marks ways) q=cf (cOf L marks ways) r:=F_hm h
theorem Ax_ (wf:Wf L marks ways){r:Int}(h:r∈rOf ways):0<=hO L marks ways r/\hO L marks ways r<(sF L marks ways).length:=by
 obtain⟨j,q,h1,h2,_⟩:=Y1 wf h
 omega
theorem Kn (wf:Wf L marks ways):(0:Int)∈rOf ways:=jg_ (UY wf)
theorem U0 (wf:Wf L marks ways):(sF L marks ways)[0]?=some 0:=by
 have h:=UY wf
 unfold sF
 cases hR:rOf ways with
 | nil=>rw[hR] at h;cases h
 | cons a R =>
  rw[hR] at h
  cases h
  unfold FR
  rw[qT_]
  have e:Cq (cOf L marks ways) [] 0=[0]:=by unfold Cq;simp
  rw[e]
  have:∀ (R acc:α2),acc[0]?=some 0->(R.foldl (Cq (cOf L marks ways)) acc)[0]?=some 0:=fun R=>by
   induction R with
   | nil=>intro acc h;exact h
   | cons r R ih =>
    intro acc h
    refine ih _ ?_
    unfold Cq
    split
    ·exact h
    ·rw[jk_ (jc_.mp h).1];exact h
  exact this R [0] rfl
theorem Qc (wf:Wf L marks ways):hO L marks ways 0=0:=by
 have:=(I0 wf (U0 wf)).2.2.2
 simpa using this
theorem Bp_ {j:Nat}{r:Int}(h:(sF L marks ways)[j]?=some r):(sM L marks ways)[j]?=some (mkR marks r):=by
 unfold sM;rw[List.getElem?_map,h];rfl
theorem Ay_ {j:Nat}{r:Int}(h:(sF L marks ways)[j]?=some r):(sW L marks ways)[j]?=some (hrow (cOf L marks ways) (rOf ways) ways r):=by
 unfold sW;rw[List.getElem?_map,h];rfl
theorem Ja:(sM L marks ways).length=(sF L marks ways).length:=by unfold sM;rw[ja_]
theorem XM:(sW L marks ways).length=(sF L marks ways).length:=by unfold sW;rw[ja_]
theorem Az_ {ms:α2}{r:Int}{m:Int}(h:ms[r.toNat]?=some m):mkR ms r=m:=by unfold mkR;rw[jd_,h];rfl
theorem RE {ms:α2}{r:Int}(h:r.toNat<ms.length):ms[r.toNat]?=some (mkR ms r):=by unfold mkR;rw[jd_];simp[h]
theorem Qd (wf:Wf L marks ways){r:Int}(h:r∈rOf ways):mkR (sM L marks ways) (hO L marks ways r)=mkR marks r:=by
 obtain⟨j,q,h1,h2,h3,h4⟩:=Y1 wf h
 have hq:=I0 wf h3
 have hr:=EX wf h
 rw[h2]
 rw[Az_ (show (sM L marks ways)[((j:Nat):Int).toNat]?=some (mkR marks q) by rw[jh_];exact Bp_ h3)]
 exact (JY wf (finO wf) hq.2.1 hq.2.2.1 hr.1 hr.2 h4).1
theorem AA_ (wf:Wf L marks ways){r:Int}(h:r∈rOf ways):(sW L marks ways)[(hO L marks ways r).toNat]?=some ((ways.getD r.toNat []).map (hO L marks ways)):=by
 obtain⟨j,q,h1,h2,h3,h4⟩:=Y1 wf h
 have hq:=I0 wf h3
 have hr:=EX wf h
 rw[h2,jh_,Ay_ h3]
 congr 1
 unfold hrow
 obtain⟨row,a1,a2,a3⟩:=wf.row hq.2.1 hq.2.2.1
 obtain⟨row',b1,b2,b3⟩:=wf.row hr.1 hr.2
 have e1:ways.getD q.toNat []=row:=by rw[jd_,a1];rfl
 have e2:ways.getD r.toNat []=row':=by rw[jd_,b1];rfl
 rw[e1,e2]
 refine qc_ fun x=>?_
 by_cases hx:x<L
 ·have hxr:x<row.length:=by omega
  have hxr':x<row'.length:=by omega
  rw[je_,je_,ji_ hxr,ji_ hxr']
  show some (hm _ _ row[x])=some (hm _ _ row'[x])
  have c1:Bm ways q (x:Nat)=row[x]:=BM a1 (by rw[jh_];simp[hxr])
  have c2:Bm ways r (x:Nat)=row'[x]:=BM b1 (by rw[jh_];simp[hxr'])
  have:=(JY wf (finO wf) hq.2.1 hq.2.2.1 hr.1 hr.2 h4).2 x hx
  rw[c1,c2] at this
  exact jJ_ some (hm_congr this)
 ·rw[jA_ (by rw[ja_];omega),jA_ (by rw[ja_];omega)]
theorem Y2 (wf:Wf L marks ways){r x:Int}(h:r∈rOf ways)(x0:0<=x)(x1:x<L):Bm (sW L marks ways) (hO L marks ways r) x=hO L marks ways (Bm ways r x):=by
 have hr:=EX wf h
 obtain⟨row,b1,b2,b3⟩:=wf.row hr.1 hr.2
 have e2:ways.getD r.toNat []=row:=by rw[jd_,b1];rfl
 have h1:=AA_ wf h
 rw[e2] at h1
 have hxr:x.toNat<row.length:=by omega
 rw[BM b1 (show row[x.toNat]?=some row[x.toNat] by simp[hxr])]
 exact BM h1 (by rw[je_,ji_ hxr];rfl)
theorem Ir (wf:Wf L marks ways):∀ (w:α2) {r:Int},r∈rOf ways->isW L w=true->B2 (sW L marks ways) (hO L marks ways r) w=hO L marks ways (B2 ways r w)
 | [],r,h,_=>rfl
 | x::w,r,h,hw=>by
  obtain⟨hx,hw⟩:=MO.mp hw
  rw[BQ,BQ,Y2 wf h hx.1 hx.2]
  exact Ir wf w (Iq wf h hx.1 hx.2) hw
theorem sWf (wf:Wf L marks ways):Wf L (sM L marks ways) (sW L marks ways):=by
 have hz:=U0 wf
 refine⟨wf.l1,wf.l6,?_,?_,by rw[Ja,XM],fun row hrow'=>?_,fun m hmm=>?_⟩
 ·rw[Ja];have:=(jc_.mp hz).1;omega
 ·rw[Ja];have:=XL wf;have:=wf.n40;omega
 ·obtain⟨j,hj⟩:=jK_.mp hrow'
  have hjl:=(jc_.mp hj).1
  rw[XM] at hjl
  have hq:=I0 wf (show (sF L marks ways)[j]?=some (sF L marks ways)[j] by simp[hjl])
  rw[Ay_ (show (sF L marks ways)[j]?=some (sF L marks ways)[j] by simp[hjl])] at hj
  have hj:=js_ hj
  obtain⟨row',b1,b2,b3⟩:=wf.row hq.2.1 hq.2.2.1
  have e2:ways.getD ((sF L marks ways)[j]).toNat []=row':=by rw[jd_,b1];rfl
  unfold hrow at hj
  rw[e2] at hj
  subst hj
  refine⟨by rw[ja_];exact b3,fun x hx=>?_⟩
  obtain⟨g,hg,rfl⟩:=jv_.mp hx
  rw[Ja]
  refine Ax_ wf ?_
  obtain⟨y,hy⟩:=jK_.mp hg
  have hyl:=(jc_.mp hy).1
  have:=Iq wf hq.1 (x:=(y:Nat)) (by omega) (by omega)
  rwa [BM b1 (by rw[jh_];exact hy)] at this
 ·unfold sM at hmm
  obtain⟨r,hr,rfl⟩:=jv_.mp hmm
  have:=EX wf (HK hr)
  refine wf.mks _ (jg_ (RE (ms:=marks) (r:=r) (by omega)))
structure Can (L:Nat)(marks:α2)(ways:α1):Prop where
 wf:Wf L marks ways
 lw:∃ u:Nat->α2,(∀ j,j<marks.length->isW L (u j)=true/\AL ways (u j)=(j:Int))/\(∀ v,isW L v=true->∀ j:Nat,AL ways v=(j:Int)->place L (u j)<=place L v)/\(∀ j k,j<k->k<marks.length->place L (u j)<place L (u k))
 red:∀ i j:Nat,i<marks.length->j<marks.length->(∀ w,isW L w=true->mkR marks (B2 ways i w)=mkR marks (B2 ways j w))->i=j
def wi (ways:α1)(r:Int):α2:=(((Az ways).find? fun e=>decide (e.1=r)).map (·.2)).getD []
theorem V6 {L:Int}{n:Nat}{top:Int}(bf:Bfs L n ways (Az ways) (Az ways).length top){e:Int×α2}(he:e∈Az ways):wi ways e.1=e.2:=by
 unfold wi
 cases hq:(Az ways).find? (fun e'=>decide (e'.1=e.1)) with
 | none =>
  rw[zf_] at hq
  have:=hq _ he
  simp at this
 | some e' =>
  have hk:=List.find?_some hq
  simp only[qh_] at hk
  obtain⟨i,hi,ei⟩:=jY_ (xr_ hq)
  obtain⟨j,hj,ej⟩:=jY_ he
  have ij:i=j:=(x3_ (h₀:=by simpa using hi) (h₁:=by simpa using hj) bf.nod).mp (by simp[ei,ej,hk])
  subst ij
  rw[<- ei,ej];rfl
theorem XN {L:Int}{n:Nat}{top:Int}(bf:Bfs L n ways (Az ways) (Az ways).length top):(rOf ways).Pairwise (fun a b=>place L (wi ways a)<place L (wi ways b)):=by
 unfold rOf
 rw[xU_,xs_]
 intro i j hi hj hij
 rw[V6 bf (j4_ hi),V6 bf (j4_ hj)]
 exact bf.inc i j _ _ hij (by simp[hi]) (by simp[hj])
theorem AB_ {α:Type}{R:α->α->Prop}{l:List α}(h:l.Pairwise R){i j:Nat}{a b:α}(hij:i<j)(ha:l[i]?=some a)(hb:l[j]?=some b):R a b:=by
 obtain⟨h1,rfl⟩:=jc_.mp ha
 obtain⟨h2,rfl⟩:=jc_.mp hb
 exact xs_.mp h i j h1 h2 hij
theorem AC_ (wf:Wf L marks ways){r:Int}(h:r∈rOf ways):isW L (wi ways r)=true/\AL ways (wi ways r)=r:=by
 obtain⟨top,bf⟩:=Bfs.mk wf
 obtain⟨e,he,rfl⟩:=jv_.mp h
 rw[V6 bf he]
 exact bf.wd e he
theorem MW (wf:Wf L marks ways){v:α2}(hv:isW L v=true):AL ways v∈rOf ways/\place L (wi ways (AL ways v))<=place L v:=by
 obtain⟨top,bf⟩:=Bfs.mk wf
 obtain⟨w',h1,h2⟩:=bf.least hv v.length (jl_ _)
 rw[jU_] at h1 h2
 have:=V6 bf h1
 exact⟨jv_.mpr ⟨_,h1,rfl⟩,by rw[show wi ways (AL ways v)=w' from this];exact h2⟩
theorem sCan (wf:Wf L marks ways):Can L (sM L marks ways) (sW L marks ways):=by
 obtain⟨top,bf⟩:=Bfs.mk wf
 obtain⟨f1,f2⟩:=V5 (c:=cOf L marks ways) (fun r=>place L (wi ways r)) (XN bf)
 have at':∀ {j:Nat},j<(sF L marks ways).length->(sF L marks ways)[j]?=some ((sF L marks ways).getD j 0):=fun {j} hj=>by rw[jd_];simp[hj]
 refine⟨sWf wf,⟨fun j=>wi ways ((sF L marks ways).getD j 0),fun j hj=>?_,fun v hv j hj=>?_,fun j k hjk hk=>?_⟩,fun i j hi hj hall=>?_⟩
 ·rw[Ja] at hj
  have hq:=I0 wf (at' hj)
  have:=AC_ wf hq.1
  refine⟨this.1,?_⟩
  have h2:=Ir wf (wi ways ((sF L marks ways).getD j 0)) (Kn wf) this.1
  rw[Qc wf,BP,BP,this.2,hq.2.2.2] at h2
  exact h2
 ·obtain⟨h1,h2⟩:=MW wf hv
  have h3:=Ir wf v (Kn wf) hv
  rw[Qc wf,BP,BP,hj] at h3
  obtain⟨f,hf,hc,hp⟩:=f2 _ h1
  obtain⟨i,hi⟩:=jK_.mp hf
  have hi':=(I0 wf hi).2.2.2
  have e:hO L marks ways f=hO L marks ways (AL ways v):=hm_congr hc
  rw[hi',<- h3] at e
  have e':i=j:=by omega
  subst e'
  show place L (wi ways ((sF L marks ways).getD i 0))<=_
  rw[jd_,show (sF L marks ways)[i]?=some f from hi]
  exact Int.le_trans hp h2
 ·rw[Ja] at hk
  exact AB_ f1 hjk (at' (by omega)) (at' hk)
 ·rw[Ja] at hi hj
  have qi:=I0 wf (at' hi)
  have qj:=I0 wf (at' hj)
  have:=Mh wf (finO wf) qi.2.1 qi.2.2.1 qj.2.1 qj.2.2.1 fun w hw=>by
   have:=hall w hw
   rw[<- qi.2.2.2,<- qj.2.2.2,Ir wf w qi.1 hw,Ir wf w qj.1 hw,Qd wf (MV wf w qi.1 hw),Qd wf (MV wf w qj.1 hw)] at this
   exact this
  have e:hO L marks ways ((sF L marks ways).getD i 0)=hO L marks ways ((sF L marks ways).getD j 0):=hm_congr this
  rw[qi.2.2.2,qj.2.2.2] at e
  omega
theorem Y3 (wf:Wf L marks ways){v:α2}(hv:isW L v=true):mkR (sM L marks ways) (AL (sW L marks ways) v)=mkR marks (AL ways v):=by
 have h:=Ir wf v (Kn wf) hv
 rw[Qc wf,BP,BP] at h
 rw[h,Qd wf]
 have:=MV wf v (Kn wf) hv
 rwa [BP] at this
end
theorem OM (ways:α1)(r:Int)(u v:α2):B2 ways r (u++v)=B2 ways (B2 ways r u) v:=by unfold B2;rw[qp_]
theorem Wf.walk' {L:Nat}{marks:α2}{ways:α1}(wf:Wf L marks ways){w:α2}(hw:isW L w=true):0<=AL ways w/\AL ways w<marks.length:=by
 have:=wf.walk hw w.length
 rwa [jU_] at this
section
variable {L:Nat} {m1 m2:α2} {w1 w2:α1}
theorem Can.follow (c1:Can L m1 w1)(c2:Can L m2 w2)(h:∀ v,isW L v=true->mkR m1 (AL w1 v)=mkR m2 (AL w2 v)){a b:α2}(ha:isW L a=true)(hb:isW L b=true)(e:AL w1 a=AL w1 b):AL w2 a=AL w2 b:=by
 have a2:=Wf.walk' c2.wf ha
 have b2:=Wf.walk' c2.wf hb
 have:=c2.red (AL w2 a).toNat (AL w2 b).toNat (by omega) (by omega) fun w hw=>by
  rw[xL_ a2.1,xL_ b2.1]
  have h1:=h (a++w) (MQ ha hw)
  have h2:=h (b++w) (MQ hb hw)
  rw[<- BP,<- BP,OM,OM,BP,BP] at h1 h2
  rw[<- h1,<- h2,e]
 omega
theorem Can.up (c1:Can L m1 w1)(c2:Can L m2 w2)(h:∀ v,isW L v=true->mkR m1 (AL w1 v)=mkR m2 (AL w2 v)){u1 u2:Nat->α2}
  (p1:∀ j,j<m1.length->isW L (u1 j)=true/\AL w1 (u1 j)=(j:Int)) (q1:∀ v,isW L v=true->∀ j:Nat,AL w1 v=(j:Int)->place L (u1 j)<=place L v) (s1:∀ j k,j<k->k<m1.length->place L (u1 j)<place L (u1 k))
  (p2:∀ j,j<m2.length->isW L (u2 j)=true/\AL w2 (u2 j)=(j:Int)) (q2:∀ v,isW L v=true->∀ j:Nat,AL w2 v=(j:Int)->place L (u2 j)<=place L v) (s2:∀ j k,j<k->k<m2.length->place L (u2 j)<place L (u2 k)) :
  ∀ j,j<m1.length->∃ k:Nat,k<m2.length/\AL w2 (u1 j)=(k:Int)/\j<=k/\AL w1 (u2 k)=(j:Int)/\place L (u2 k)=place L (u1 j):=by
 have key:∀ j,j<m1.length->∃ k:Nat,k<m2.length/\AL w2 (u1 j)=(k:Int)/\AL w1 (u2 k)=(j:Int)/\place L (u2 k)=place L (u1 j):=fun j hj=>by
  obtain⟨a,b⟩:=p1 j hj
  have a2:=Wf.walk' c2.wf a
  refine⟨(AL w2 (u1 j)).toNat,by omega,by omega,?_⟩
  obtain⟨c,d⟩:=p2 (AL w2 (u1 j)).toNat (by omega)
  have e:AL w1 (u2 (AL w2 (u1 j)).toNat)=AL w1 (u1 j):=c2.follow c1 (fun v hv=>(h v hv).symm) c a (by rw[d];omega)
  rw[b] at e
  have g1:=q1 _ c j e
  have g2:=q2 (u1 j) a (AL w2 (u1 j)).toNat (by omega)
  exact⟨e,by omega⟩
 intro j
 induction j with
 | zero =>
  intro hj
  obtain⟨k,a,b,c,d⟩:=key 0 hj
  exact⟨k,a,b,j0_ _,c,d⟩
 | succ j ih =>
  intro hj
  obtain⟨k,a,b,c,d,e⟩:=ih (by omega)
  obtain⟨k',a',b',c',d'⟩:=key (j+1) hj
  have:=s1 j (j+1) (Nat.lt_succ_self _) hj
  refine⟨k',a',b',?_,c',d'⟩
  by_cases hk:k<k'
  ·omega
  ·exfalso
   rcases Nat.lt_or_eq_of_le (Nat.le_of_not_lt hk) with hlt | heq
   ·have:=s2 k' k hlt a
    omega
   ·subst heq;omega
theorem Can.eq (c1:Can L m1 w1)(c2:Can L m2 w2)(h:∀ v,isW L v=true->mkR m1 (AL w1 v)=mkR m2 (AL w2 v)):m1=m2/\w1=w2:=by
 obtain⟨u1,p1,q1,s1⟩:=c1.lw
 obtain⟨u2,p2,q2,s2⟩:=c2.lw
 have h':∀ v,isW L v=true->mkR m2 (AL w2 v)=mkR m1 (AL w1 v):=fun v hv=>(h v hv).symm
 have U:=c1.up c2 h p1 q1 s1 p2 q2 s2
 have D:=c2.up c1 h' p2 q2 s2 p1 q1 s1
 have n1:=c1.wf.n1
 have n2:=c2.wf.n1
 have hlen:m1.length=m2.length:=by
  obtain⟨k,a,_,b,_⟩:=U (m1.length-1) (by omega)
  obtain⟨k',a',_,b',_⟩:=D (m2.length-1) (by omega)
  omega
 have id:∀ j,j<m1.length->AL w2 (u1 j)=(j:Int):=fun j hj=>by
  obtain⟨k,a,b,c,d,_⟩:=U j hj
  obtain⟨k',a',b',c',_⟩:=D k a
  rw[d] at b'
  have:k=j:=by omega
  rw[b,this]
 have all:∀ a,isW L a=true->AL w1 a=AL w2 a:=fun a ha=>by
  have ha1:=Wf.walk' c1.wf ha
  obtain⟨c,d⟩:=p1 (AL w1 a).toNat (by omega)
  have:=c1.follow c2 h ha c (by rw[d];omega)
  rw[this,id _ (by omega)]
  omega
 constructor
 ·refine qc_ fun j=>?_
  by_cases hj:j<m1.length
  ·obtain⟨a,b⟩:=p1 j hj
   have:=h _ a
   rw[b,id j hj] at this
   have e1:=RE (ms:=m1) (r:=(j:Int)) (by omega)
   have e2:=RE (ms:=m2) (r:=(j:Int)) (by omega)
   rw[jh_] at e1 e2
   rw[e1,e2,this]
  ·rw[jA_ (by omega),jA_ (by omega)]
 ·refine qc_ fun j=>?_
  by_cases hj:j<m1.length
  ·obtain⟨a,b⟩:=p1 j hj
   obtain⟨r1,a1,a2,a3⟩:=c1.wf.row (r:=(j:Int)) (by omega) (by omega)
   obtain⟨r2,b1,b2,b3⟩:=c2.wf.row (r:=(j:Int)) (by omega) (by omega)
   have A1:=a1
   have B1:=b1
   rw[jh_] at a1 b1
   rw[a1,b1]
   congr 1
   refine qc_ fun x=>?_
   by_cases hx:x<L
   ·have hx1:x<r1.length:=by omega
    have hx2:x<r2.length:=by omega
    have e1:Bm w1 (j:Int) (x:Nat)=r1[x]:=BM A1 (by rw[jh_];simp[hx1])
    have e2:Bm w2 (j:Int) (x:Nat)=r2[x]:=BM B1 (by rw[jh_];simp[hx2])
    have:=all (u1 j ++ [(x:Int)]) (MQ a (AT.mpr fun y hy=>by rw[ju_.mp hy];omega))
    rw[EU,EU,b,id j hj,e1,e2] at this
    rw[ji_ hx1,ji_ hx2,this]
   ·rw[jA_ (by omega),jA_ (by omega)]
  ·rw[jA_ (by rw[c1.wf.len];omega),jA_ (by rw[c2.wf.len];omega)]
theorem XO:∀ {l m:α2},l.Pairwise (· < ·)->m.Pairwise (· < ·)->(∀ x,x∈l↔x∈m)->l=m
 | [],[],_,_,_=>rfl
 | [],y::m,_,_,h=>absurd ((h y).mpr (jo_ ..)) (by simp)
 | x::l,[],_,_,h=>absurd ((h x).mp (jo_ ..)) (by simp)
 | x::l,y::m,hl,hm,h=>by
  obtain⟨l1,l2⟩:=zg_.mp hl
  obtain⟨k1,k2⟩:=zg_.mp hm
  have exy:x=y:=by
   have h1:=(h x).mp (jo_ ..)
   have h2:=(h y).mpr (jo_ ..)
   rcases jC_.mp h1 with h1 | h1
   ·exact h1
   ·rcases jC_.mp h2 with h2 | h2
    ·exact h2.symm
    ·have:=l1 y h2
     have:=k1 x h1
     omega
  subst exy
  congr 1
  refine XO l2 k2 fun z=>⟨fun hz=>?_,fun hz=>?_⟩
  ·rcases jC_.mp ((h z).mp (jr_ _ hz)) with e | e
   ·have:=l1 z hz;omega
   ·exact e
  ·rcases jC_.mp ((h z).mpr (jr_ _ hz)) with e | e
   ·have:=k1 z hz;omega
   ·exact e
theorem Can.order (c:Can L m1 w1):rOf w1=(List.range m1.length).map fun j:Nat=>(j:Int):=by
 obtain⟨u,p,q,s⟩:=c.lw
 obtain⟨top,bf⟩:=Bfs.mk c.wf
 have hL:(0:Int)<L:=by have:=c.wf.l1;omega
 have pl:∀ r∈rOf w1,place L (wi w1 r)=place L (u r.toNat):=fun r hr=>by
  have hrr:=EX c.wf hr
  obtain⟨a,b⟩:=AC_ c.wf hr
  have g1:=q _ a r.toNat (by omega)
  obtain⟨a',b'⟩:=p r.toNat (by omega)
  obtain⟨_,g2⟩:=MW c.wf a'
  rw[b',xL_ hrr.1] at g2
  omega
 refine XO ?_ ?_ fun x=>⟨fun hx=>?_,fun hx=>?_⟩
 ·have h1:=XN bf
  refine List.Pairwise.imp_of_mem (fun {a b} ha hb hab=>?_) h1
  have ra:=EX c.wf ha
  have rb:=EX c.wf hb
  rw[pl a ha,pl b hb] at hab
  refine Int.lt_of_not_ge fun hge=>?_
  rcases qN_ b.toNat a.toNat with hlt | hge'
  ·have:=s b.toNat a.toNat hlt (by omega)
   omega
  ·have:a.toNat=b.toNat:=by omega
   rw[this] at hab
   omega
 ·rw[xU_]
  exact List.Pairwise.imp (fun h=>by omega) List.pairwise_lt_range
 ·have:=EX c.wf hx
  exact jv_.mpr ⟨x.toNat,jW_.mpr (by omega),by omega⟩
 ·obtain⟨j,hj,rfl⟩:=jv_.mp hx
  obtain⟨a,b⟩:=p j (jW_.mp hj)
  have:=(MW c.wf a).1
  rwa [b] at this
end
end L2
set_option maxHeartbeats 1000000
set_option maxHeartbeats 4000000
namespace L2
open PySem PySem.Spec PyProof.Rows
theorem AN {X:Cx}:EF X (.type "tuple") (fun xs H Q=>∃ p ys,xs=[.ref p]/\((SqL X.K H p ys/\∀ l,H l=none->Q (.ref l) (upd H l (.tup ys)))\/False)):=fun pins s σ H xs us Q I r h=>by
 obtain⟨p,ys,e,h | h⟩:=h
 ·exact MA pins s σ H xs us Q I r ⟨p,ys,e,.inl h⟩
 ·exact h.elim
theorem MX {X:Cx}{K:α3}(h:X.K=K):EF X (.type "tuple") (fun xs H Q=>∃ p ys,xs=[.ref p]/\((SqL K H p ys/\∀ l,H l=none->Q (.ref l) (upd H l (.tup ys)))\/False)):=by subst h;exact AN
theorem len1 {α:Type}{us:List α}(h:us.length=1):∃ a,us=[a]:=by match us,h with | [a],_=>exact⟨a,rfl⟩
theorem len2 {α:Type}{us:List α}(h:us.length=2):∃ a b,us=[a,b]:=by match us,h with | [a,b],_=>exact⟨a,b,rfl⟩
theorem len3 {α:Type}{us:List α}(h:us.length=3):∃ a b c,us=[a,b,c]:=by match us,h with | [a,b,c],_=>exact⟨a,b,c,rfl⟩
def U1 (u:TS)(D:Ends):St->Hp->Prop:=u D
def AD_ (t u:TS):TS:=fun D σ H=>t {D with nx:=U1 u D} σ H
theorem XQ {t u:TS}{D:Ends}{σ:St}{H:Hp}:AD_ t u D σ H=t {D with nx:=U1 u D} σ H:=rfl
theorem RG {u:TS}{D:Ends}{σ:St}{H:Hp}(h:u D σ H):U1 u D σ H:=h
theorem RH {X:Cx}{st:Stmt}{rest:List Stmt}{t u:TS}(h1:PS X st t)(h2:PSs X rest u):PSs X (st::rest) (AD_ t u):=Ac h1 h2
end L2
set_option maxHeartbeats 1000000
set_option maxHeartbeats 4000000
namespace L2
open PySem PySem.W PySem.Spec PySem.Calls PyProof.Rows
def vD:Option (Option V)->(V->Prop)->Prop
 | some (some v),q=>q v
 | _,_=>False
theorem U2 {v:V}{q:V->Prop}:vD (some (some v)) q=q v:=rfl
theorem Bq_ {o:Option (Option V)}{q:V->Prop}(h:vD o q):∃ v,o=some (some v)/\q v:=by
 match o,h with
 | some (some v),h=>exact⟨v,rfl,h⟩
def Sr (i:Nat):TE:=fun σ H Q=>vD σ[i]? fun v=>Q v H
theorem XR {i:Nat}{σ:St}{H:Hp}{Q:VK}:Sr i σ H Q=vD σ[i]? fun v=>Q v H:=rfl
theorem pvD {X:Cx}(i:Nat){x:Str}{pos:Pos}(hN:X.N[i]?=some x:=by rfl)(hv:Vis X.env.scope x:=by first | exact Or.inl rfl | exact Or.inr (Or.inl rfl) | exact Or.inr (Or.inr rfl))(hd:(x == ("__debug__" : Str))=false:=by decide)
  (hcd:(x == ("__classdict__" : Str))=false:=by decide):PE X (.Name x pos) (Sr i):=fun pins s σ H Q I h=>pv i hN hv hd hcd pins s σ H Q I (Bq_ h)
def iD:V->V->(Int->Int->Prop)->Prop
 | .int i,.int j,q=>q i j
 | x,y,q=>∃ i j,x=.int i/\y=.int j/\q i j
theorem XS {i j:Int}{q:Int->Int->Prop}:iD (.int i) (.int j) q=q i j:=rfl
theorem Y4 {x y:V}{q:Int->Int->Prop}:iD x y q=∃ i j,x=.int i/\y=.int j/\q i j:=by
 cases x<;>cases y<;>first | rfl | (simp[iD])
def rID (C:Int->Int->Prop)(g:Int->Int->V):R2:=fun x y H Q=>iD x y fun i j=>C i j/\Q (g i j) H
def rI0D (g:Int->Int->V):R2:=fun x y H Q=>iD x y fun i j=>Q (g i j) H
theorem r_ID {C:Int->Int->Prop}{f:Int->Int->V}{x y:V}{H:Hp}{Q:VK}:rID C f x y H Q=iD x y fun i j=>C i j/\Q (f i j) H:=rfl
theorem AE_ {f:Int->Int->V}{x y:V}{H:Hp}{Q:VK}:rI0D f x y H Q=iD x y fun i j=>Q (f i j) H:=rfl
theorem AF_ {C:Int->Int->Prop}{g:Int->Int->V}:rID C g=rI C g:=by
 funext x y H Q;exact Y4
theorem Y5 {g:Int->Int->V}:rI0D g=rI0 g:=by
 funext x y H Q;exact Y4
theorem opD {X:Cx}{f:Value->Value->Sem Value}{C:Int->Int->Prop}{g:Int->Int->V}(h:OpR X f (rI C g)):OpR X f (rID C g):=by rw[AF_];exact h
theorem opD0 {X:Cx}{f:Value->Value->Sem Value}{g:Int->Int->V}(h:OpR X f (rI0 g)):OpR X f (rI0D g):=by rw[Y5];exact h
def bD:V->(Bool->Prop)->Prop
 | .bl c,q=>q c
 | x,q=>∃ c,x=.bl c/\q c
theorem AG_ {c:Bool}{q:Bool->Prop}:bD (.bl c) q=q c:=rfl
theorem AH_ {x:V}{q:Bool->Prop}:bD x q=∃ c,x=.bl c/\q c:=by
 cases x<;>first | rfl | (simp[bD])
def tBD (t:TE):TT:=fun σ H Q=>t σ H fun x H1=>bD x fun c=>Q c H1
theorem r_BD {te:TE}{σ:St}{H:Hp}{R:Bool->Hp->Prop}:tBD te σ H R=te σ H fun x H1=>bD x fun c=>R c H1:=rfl
theorem XT {t:TE}:tBD t=tB t:=by
 funext σ H Q
 show t σ H _=t σ H _
 congr 1
 funext x H1;exact AH_
theorem Y6 {t:TE}:tBD t=VB t:=XT
theorem ptB {X:Cx}{e:Expr}{t:TE}(h:PT X e (tB t)):PT X e (tBD t):=by rw[XT];exact h
theorem ptT {X:Cx}{e:Expr}{t:TE}(h:PT X e (VB t)):PT X e (tBD t):=by rw[Y6];exact h
def eD:V->V->Prop->Prop
 | .int _,.int _,q=>q
 | .str _,.str _,q=>q
 | .non,.non,q=>q
 | .bl _,.bl _,q=>q
 | x,y,q=>scal x y=true/\q
theorem XU {i j:Int}{q:Prop}:eD (.int i) (.int j) q=q:=rfl
theorem XV {i j:Str}{q:Prop}:eD (.str i) (.str j) q=q:=rfl
theorem XW {q:Prop}:eD .non .non q=q:=rfl
theorem AI_ {i j:Bool}{q:Prop}:eD (.bl i) (.bl j) q=q:=rfl
theorem AJ_ {x y:V}{q:Prop}:eD x y q=(scal x y=true/\q):=by
 cases x<;>cases y<;>first | rfl | (simp[eD,scal])
def rEqF:R2:=fun x y H Q=>eD x y (Q (.bl (decide (x=y))) H)
theorem AK_ {x y:V}{H:Hp}{Q:VK}:rEqF x y H Q=eD x y (Q (.bl (decide (x=y))) H):=rfl
theorem Y7:rEqF=rEq:=by funext x y H Q;exact AJ_
theorem opE {X:Cx}{f:Value->Value->Sem Value}(h:OpR X f rEq):OpR X f rEqF:=by rw[Y7];exact h
def aD:V->(Addr->Prop)->Prop
 | .ref a,q=>q a
 | x,q=>∃ a,x=.ref a/\q a
theorem XX {a:Addr}{q:Addr->Prop}:aD (.ref a) q=q a:=rfl
theorem V7 {x:V}{q:Addr->Prop}:aD x q=∃ a,x=.ref a/\q a:=by
 cases x<;>first | rfl | (simp[aD])
def nD:V->(Int->Prop)->Prop
 | .int a,q=>q a
 | x,q=>∃ a,x=.int a/\q a
theorem XY {a:Int}{q:Int->Prop}:nD (.int a) q=q a:=rfl
theorem U3 {x:V}{q:Int->Prop}:nD x q=∃ a,x=.int a/\q a:=by
 cases x<;>first | rfl | (simp[nD])
def Y8 (K:α3):R2:=fun x y H Q=>aD x fun p=>∃ xs,nD y fun i=>SqT K H p xs/\∃ v,atI xs i=some v/\Q v H
def V8 (K:α3):R2:=fun x y H Q=>aD x fun p=>∃ xs,nD y fun i=>SqL K H p xs/\∃ v,atI xs i=some v/\Q v H
theorem XZ {K:α3}{x y:V}{H:Hp}{Q:VK}:Y8 K x y H Q=aD x fun p=>∃ xs,nD y fun i=>SqT K H p xs/\∃ v,atI xs i=some v/\Q v H:=rfl
theorem X0 {K:α3}{x y:V}{H:Hp}{Q:VK}:V8 K x y H Q=aD x fun p=>∃ xs,nD y fun i=>SqL K H p xs/\∃ v,atI xs i=some v/\Q v H:=rfl
theorem V9 {K:α3}:Y8 K=rIxT K:=by
 funext x y H Q
 show aD x _=∃ p xs i v,_
 rw[V7]
 refine propext ⟨fun ⟨p,e,h⟩=>?_,fun ⟨p,xs,i,v,e1,e2,e3,e4,e5⟩=>⟨p,e1,?_⟩⟩
 ·obtain⟨xs,h⟩:=h
  rw[U3] at h
  obtain⟨i,e2,e3,v,e4,e5⟩:=h
  exact⟨p,xs,i,v,e,e2,e3,e4,e5⟩
 ·refine⟨xs,?_⟩
  rw[U3]
  exact⟨i,e2,e3,v,e4,e5⟩
theorem Wa {K:α3}:V8 K=rIxL K:=by
 funext x y H Q
 show aD x _=∃ p xs i v,_
 rw[V7]
 refine propext ⟨fun ⟨p,e,h⟩=>?_,fun ⟨p,xs,i,v,e1,e2,e3,e4,e5⟩=>⟨p,e1,?_⟩⟩
 ·obtain⟨xs,h⟩:=h
  rw[U3] at h
  obtain⟨i,e2,e3,v,e4,e5⟩:=h
  exact⟨p,xs,i,v,e,e2,e3,e4,e5⟩
 ·refine⟨xs,?_⟩
  rw[U3]
  exact⟨i,e2,e3,v,e4,e5⟩
theorem ixTD {X:Cx}{K:α3}(h:IxR X (rIxT K)):IxR X (Y8 K):=by rw[V9];exact h
theorem ixLD {X:Cx}{K:α3}(h:IxR X (rIxL K)):IxR X (V8 K):=by rw[Wa];exact h
def lD1:List V->(V->Prop)->Prop
 | [x],q=>q x
 | xs,q=>∃ x,xs=[x]/\q x
theorem U4 {x:V}{q:V->Prop}:lD1 [x] q=q x:=rfl
theorem AL_ {xs:List V}{q:V->Prop}:lD1 xs q=∃ x,xs=[x]/\q x:=by
 match xs with
 | []=>rfl
 | [x]=>simp[lD1]
 | x::y::r=>rfl
def Y9 (K:α3):List V->Hp->VK->Prop:=fun xs H Q=>lD1 xs fun x=>aD x fun p=>∃ ys,(SqL K H p ys\/SqT K H p ys)/\Q (.int ys.length) H
theorem X1 {K:α3}{xs:List V}{H:Hp}{Q:VK}:Y9 K xs H Q=lD1 xs fun x=>aD x fun p=>∃ ys,(SqL K H p ys\/SqT K H p ys)/\Q (.int ys.length) H:=rfl
theorem lenD {X:Cx}{K:α3}{f:Value}(h:EF X f (fun xs H Q=>∃ p ys,xs=[.ref p]/\(SqL K H p ys\/SqT K H p ys)/\Q (.int ys.length) H)):EF X f (Y9 K):=by
 have e:Y9 K=fun xs H Q=>∃ p ys,xs=[.ref p]/\(SqL K H p ys\/SqT K H p ys)/\Q (.int ys.length) H:=by
  funext xs H Q
  show lD1 xs _=_
  rw[AL_]
  refine propext ⟨fun ⟨x,e,h⟩=>?_,fun ⟨p,ys,e,h1,h2⟩=>⟨_,e,ys,h1,h2⟩⟩
  rw[V7] at h
  obtain⟨p,rfl,ys,h1,h2⟩:=h
  exact⟨p,ys,e,h1,h2⟩
 rw[e];exact h
theorem Aj {X:Cx}{i:Nat}{x:Str}{e:Expr}{te:TE}{pos pos':Pos}(hN:X.N.Nodup)(he:PE X e te)(hi:X.N[i]?=some x:=by rfl)(hx:Loc X.env.scope x:=by exact Or.inl rfl)(hs:swapsWith e (some (.Name x pos')) pos.line X.env=pure false:=by rfl)(hf:X.fn x=true\/X.env.scope.names.lookup x=some .local:=by first | exact .inl rfl | exact .inr rfl | assumption):PS X (.Assign [.Name x pos'] e pos) (tAsg te (Ly i)):=CI hN hi hx he hs hf
theorem Ai {X:Cx}{r:R2}{a b:Expr}{ta tb:TE}{pos:Pos}(hr:IxR X r)(ha:PE X a ta)(hb:PE X b tb)(hs:TN b:=by exact fun _ _=>rfl):PE X (.Subscript a b pos) (tOp r ta tb):=ZY hr ha hb hs
end L2
namespace PySem
open Sem (wp)
structure VKind (prog:Program)(w:World)(K:Type)[DecidableEq K] where
 is:Heap->K->Value->Prop
 hash:K->Int
 draws:K->Nat
 room:Around->Prop
 inj:∀ {h:Heap} {a:Value} {x y:K},is h x a->is h y a->x=y
 keeps:∀ {h h':Heap} {k:K} {a:Value} {d:Addr} {o:Obj} {es ep},is h k a->h.get? d=some o->o.data=.dict es ep->Heap.SameBut d h h'->is h' k a
 pyHash:∀ {A:Around} {E:Value->Shared->Prop} {s:Shared} {k:K} {a:Addr} {Q:Int->Shared->Prop},room A->is s.heap k (.ref a)->Q (hash k) {s with toks:=s.toks+draws k}->wpAny (model prog w) A (PySem.pyHash (.ref a)) Q E s
 eqBool:∀ {A:Around} {E:Value->Shared->Prop} {s:Shared} {x y:K} {u:Value} {b:Addr} {Q:Bool->Shared->Prop},room A->is s.heap x u->is s.heap y (.ref b)->Q (decide (x=y)) s->wpAny (model prog w) A (PySem.eqBool u (.ref b)) Q E s
 quiet:∀ {A:Around} {E:Value->Shared->Prop} {s:Shared} {k:K} {a:Value} {Q:Bool->Shared->Prop},room A->is s.heap k a->Q true s->wpAny (model prog w) A (eqIsQuiet 8 a) Q E s
abbrev NI:=Int ⊕ α2
abbrev NK:=Option (List NI)
end PySem
namespace L2
open PySem PySem.W PySem.Spec PySem.Calls PyProof.Rows
def TSq (K:α3)(H H':Hp):Prop:=∀ b ys,SqT K H b ys->SqT K H' b ys
theorem TSq.un {K:α3}{H:Hp}{p:Addr}{o:HO}(h1:∀ xs,H p≠some (.tup xs))(h2:∀ ob xs,H p≠some (.frz ob (.tup xs))):TSq K H (upd H p o):=fun b ys e=>by
 rcases e with (e | ⟨ob,e⟩) | e
 ·exact .inl (.inl (by rw[Ah (fun z=>by rw[z] at e;exact h1 _ e)];exact e))
 ·exact .inl (.inr ⟨ob,by rw[Ah (fun z=>by rw[z] at e;exact h2 _ _ e)];exact e⟩)
 ·exact .inr e
end L2
namespace S64
open PySem PyProof.Rows
def KE (κ:KeyKind)(x:Keyed):κ.α:=(κ.keyOf x.1).getD κ.dflt
theorem Wb {κ:KeyKind}{xs:Array Keyed}{i:Nat}{x:Keyed}(h:xs[i]?=some x):KK κ xs i=KE κ x:=by unfold KK KE;rw[h]
structure SB (kd:SortKind)(a₀:Array Keyed)(st:SortSt):Prop where
 perm:(arrOf st).Perm a₀
 kind:kindOf st=kd
 failed:failedOf st=none
theorem SB.size {kd:SortKind}{a₀:Array Keyed}{st:SortSt}(h:SB kd a₀ st):(arrOf st).size=a₀.size:=h.perm.size_eq
theorem SB.setArr {kd:SortKind}{a₀:Array Keyed}{st:SortSt}(h:SB kd a₀ st){xs:Array Keyed}(hp:xs.Perm (arrOf st)):SB kd a₀ (PyProof.Rows.setArr st xs):=⟨hp.trans h.perm,h.kind,h.failed⟩
theorem SB.mem {kd:SortKind}{a₀:Array Keyed}{st:SortSt}(h:SB kd a₀ st){x:Keyed}(hx:x∈(arrOf st).toList):x∈a₀.toList:=(xX_.mp h.perm).mem_iff.mp hx
theorem SB.get {kd:SortKind}{a₀:Array Keyed}{st:SortSt}(h:SB kd a₀ st){i:Nat}(hi:i<a₀.size):∃ x,(arrOf st)[i]?=some x/\x∈a₀.toList:=by
 have hi':i<(arrOf st).size:=by rw[h.size];exact hi
 exact⟨(arrOf st)[i],getElem?_pos _ i hi',h.mem (by simp)⟩
def LtOk (kd:SortKind)(κ:KeyKind)(a₀:Array Keyed)(prog:Program)(w:World)(A:Around)(E:Value->Shared->Prop)(s:Shared):Prop :=
 ∀ (x y:Keyed) (st:SortSt) (Q:Option Bool->SortSt->Prop),x∈a₀.toList->y∈a₀.toList->kindOf st=kd->Q (some (κ.blt (KE κ x) (KE κ y))) st->wpS (model prog w) A E s (lt' x y) Q st
def SO (κ:KeyKind)(xs:Array Keyed)(lo hi:Nat):Prop:=∀ i j,lo<=i->i<=j->j<hi->κ.kle (KK κ xs i) (KK κ xs j)
def NI (κ:KeyKind)(xs:Array Keyed)(lo hi:Nat):Prop:=∀ i j,lo<=i->i<=j->j<hi->κ.kle (KK κ xs j) (KK κ xs i)
def Out (lo hi:Nat)(xs ys:Array Keyed):Prop:=∀ i,i<lo\/hi<=i->ys[i]?=xs[i]?
theorem Out.refl (lo hi:Nat)(xs:Array Keyed):Out lo hi xs xs:=fun _ _=>rfl
theorem Out.trans {lo hi:Nat}{xs ys zs:Array Keyed}(h:Out lo hi xs ys)(g:Out lo hi ys zs):Out lo hi xs zs:=fun i hi=>(g i hi).trans (h i hi)
theorem Mi {xs:Array Keyed}{lo hi i j:Nat}(hj:j<=xs.size)(h1:lo<=i)(h2:j<=hi):Out lo hi xs (mirror xs i j ((j-i) / 2)):=fun k hk=>by
 rw[getElem?_mirror_all hj,if_neg (by omega)]
theorem Ss {xs:Array Keyed}{lo hi src d:Nat}(hs:src<xs.size)(hd:d<=src)(h1:lo<=src-d)(h2:src<hi):Out lo hi xs (bubble xs src d):=fun k hk=>by
 rw[getElem?_bubble hs d hd,if_neg (by omega),if_neg (by omega)]
section
variable {prog:Program} {w:World} {A:Around} {E:Value->Shared->Prop} {s:Shared} {a₀:Array Keyed} {κ:KeyKind} {kd:SortKind}
theorem Ko {st:SortSt}{i j:Nat}{Q:Option Bool->SortSt->Prop}(hO:LtOk kd κ a₀ prog w A E s)(hB:SB kd a₀ st)(hi:i<a₀.size)(hj:j<a₀.size)(h:Q (some (κ.blt (KK κ (arrOf st) i) (KK κ (arrOf st) j))) st):wpS (model prog w) A E s (ltAt' i j) Q st:=by
 obtain⟨x,e1,hx⟩:=hB.get hi
 obtain⟨y,e2,hy⟩:=hB.get hj
 rw[Wb e1,Wb e2] at h
 rw[ltAt'_eq]
 refine jw_ (wpS_get ?_)
 show wpS _ _ _ _ (do let x <- elem' (arrOf st) i;let y <- elem' (arrOf st) j;lt' x y) Q st
 rw[elem'_eq,elem'_eq,e1,e2]
 exact jw_ (jE_ (jw_ (jE_ (hO x y st Q hx hy hB.kind h))))
def ascL (lo a nrem:Nat):StateT SortSt Sem AscSt :=
 forIn [a:nrem] ((none,a):AscSt) fun _ __s=>do
  let __x <- ltAt' (lo+__s.snd) (lo+__s.snd-1)
  match __x with
  | some smaller=>if smaller=true then pure (ForInStep.done (none,__s.snd)) else pure (ForInStep.yield (none,__s.snd+1))
  | _=>pure (ForInStep.done (some none,__s.snd))
theorem X2 {st:SortSt}{lo a nrem:Nat}{Q:AscSt->SortSt->Prop}(hO:LtOk kd κ a₀ prog w A E s)(hn:lo+nrem<=a₀.size)(ha:1<=a)(han:a<=nrem)(hB:SB kd a₀ st)(hs:SO κ (arrOf st) lo (lo+a))
  (h:∀ n,a<=n->n<=nrem->SO κ (arrOf st) lo (lo+n)->(n=nrem\/κ.klt (KK κ (arrOf st) (lo+n)) (KK κ (arrOf st) (lo+n-1)))->Q (none,n) st) :
  wpS (model prog w) A E s (ascL lo a nrem) Q st:=by
 unfold ascL
 refine qw_ (I:=fun x c st'=>st'=st/\c=(none,x)/\SO κ (arrOf st) lo (lo+x)) ?step ?fin ⟨rfl,rfl,hs⟩
 case fin =>
  rintro c st' ⟨rfl,rfl,hs'⟩
  rw[show max a nrem=nrem by omega] at hs' ⊢
  exact h nrem han (jl_ _) hs' (.inl rfl)
 case step =>
  rintro x c st' hax hxn ⟨rfl,rfl,hs'⟩
  dsimp only
  refine jw_ (Ko hO hB (by omega) (by omega) ?_)
  cases hless:κ.blt (KK κ (arrOf st') (lo+x)) (KK κ (arrOf st') (lo+x-1))
  case true =>
   simp only[xY_]
   exact jE_ (h x hax (by omega) hs' (.inr hless))
  case false =>
   simp only[jN_,qP_]
   refine jE_ ⟨rfl,rfl,fun i j hl hij hj=>?_⟩
   by_cases hjx:j<lo+x
   ·exact hs' i j hl hij hjx
   ·have hj':j=lo+x:=by omega
    subst hj'
    by_cases hi':i=lo+x
    ·subst hi';exact qx_ _
    ·exact xa_ (hs' i (lo+x-1) hl (by omega) (by omega)) hless
def Qe (lo n nrem:Nat):StateT SortSt Sem (Option Nat):=do
 reverseSlice' lo (lo+n)
 let __s <- ascL lo n nrem
 match __s.fst with
 | some r=>pure r
 | none=>pure (some __s.snd)
theorem GC {st:SortSt}{i j:Nat}{Q:Unit->SortSt->Prop}(h:Q () (setArr st (mirror (arrOf st) i j ((j-i) / 2)))):wpS (model prog w) A E s (reverseSlice' i j) Q st:=by
 rw[reverseSlice'_eq];exact zG_ h
theorem Za {st:SortSt}{lo n nrem:Nat}{Q:Option Nat->SortSt->Prop}(hO:LtOk kd κ a₀ prog w A E s)(hn:lo+nrem<=a₀.size)(h1:1<=n)(hnn:n<=nrem)(hB:SB kd a₀ st)(hs:NI κ (arrOf st) lo (lo+n))
  (h:∀ m st',SB kd a₀ st'->pendingOf st'=pendingOf st->Out lo (lo+nrem) (arrOf st) (arrOf st')->1<=m->m<=nrem->SO κ (arrOf st') lo (lo+m)->Q (some m) st') :
  wpS (model prog w) A E s (Qe lo n nrem) Q st:=by
 unfold Qe
 have hsz:lo+n<=(arrOf st).size:=by rw[hB.size];omega
 refine jw_ (GC ?_)
 have hB':SB kd a₀ (setArr st (mirror (arrOf st) lo (lo+n) ((lo+n-lo) / 2))):=hB.setArr (mirror_perm _ _ _ _)
 refine jw_ (X2 hO hn h1 hnn hB' ?_ fun m hm1 hm2 hsm _=>jE_ (h m _ hB' rfl (Mi hsz (jl_ _) (by omega)) (by omega) hm2 hsm))
 intro i j hl hij hj
 show κ.kle (KK κ (mirror (arrOf st) lo (lo+n) ((lo+n-lo) / 2)) i) (KK κ (mirror (arrOf st) lo (lo+n) ((lo+n-lo) / 2)) j)
 rw[KK_mirror hsz,KK_mirror hsz,if_pos (by omega),if_pos (by omega)]
 exact hs _ _ (by omega) (by omega) (by omega)
end
end S64
namespace S64
open PySem PyProof.Rows
def Dg:Bool->Keyed->Array Keyed->Nat->Nat->Nat->StateT SortSt Sem (Option Nat):=sortPriv% PySem.Builtin.gallop
def Mj (left:Bool)(key:Keyed)(arr:Array Keyed)(base i:Nat):StateT SortSt Sem (Option Bool):=do
 let x <- elem' arr (base+i)
 if left then lt' x key else return ( <- lt' key x).map (!·)
def Wc (left:Bool)(key:Keyed)(arr:Array Keyed)(base n lo hi:Nat):StateT SortSt Sem (Option Nat):=do
 let mut lo:=lo
 let mut hi:=hi
 for _ in [0:n] do
  if lo >= hi then break
  let m:=lo+(hi-lo) / 2
  let some more <- Mj left key arr base m | return none
  if more then lo:=m+1 else hi:=m
 return some hi
theorem Su (left:Bool)(key:Keyed)(arr:Array Keyed)(base n hint:Nat):Dg left key arr base n hint=(do
 let some right <- Mj left key arr base hint | return none
 if right then
  let mut lastofs:=0
  let mut ofs:=1
  for _ in [0:n] do
   if ofs >= n-hint then break
   let some more <- Mj left key arr base (hint+ofs) | return none
   if !more then break
   lastofs:=ofs
   ofs:=2*ofs+1
  Wc left key arr base n (hint+lastofs+1) (hint+min ofs (n-hint))
 else
  let mut lastofs:=0
  let mut ofs:=1
  for _ in [0:n] do
   if ofs >= hint+1 then break
   let some found <- Mj left key arr base (hint-ofs) | return none
   if found then break
   lastofs:=ofs
   ofs:=2*ofs+1
  Wc left key arr base n (hint+1-min ofs (hint+1)) (hint-lastofs)):=rfl
section
variable {prog:Program} {w:World} {A:Around} {E:Value->Shared->Prop} {s:Shared} {a₀:Array Keyed} {κ:KeyKind} {kd:SortKind}
def gB (κ:KeyKind)(left:Bool)(key:Keyed)(arr:Array Keyed)(base i:Nat):Bool:=if left then κ.blt (KK κ arr (base+i)) (KE κ key) else !κ.blt (KE κ key) (KK κ arr (base+i))
def InA (a₀ arr:Array Keyed)(base n:Nat):Prop:=∀ i,i<n->∃ x,arr[base+i]?=some x/\x∈a₀.toList
theorem HL {left:Bool}{key:Keyed}{arr:Array Keyed}{base n i:Nat}{st:SortSt}{Q:Option Bool->SortSt->Prop}(hO:LtOk kd κ a₀ prog w A E s)(hk:kindOf st=kd)(hkey:key∈a₀.toList)(hA:InA a₀ arr base n)(hi:i<n)(h:Q (some (gB κ left key arr base i)) st) :
  wpS (model prog w) A E s (Mj left key arr base i) Q st:=by
 obtain⟨x,e,hx⟩:=hA i hi
 unfold Mj
 rw[elem'_eq,e]
 refine jw_ (jE_ ?_)
 unfold gB at h
 rw[Wb e] at h
 cases left with
 | true=>exact hO x key st Q hx hkey hk h
 | false =>
  refine jw_ (hO key x st _ hkey hx hk ?_)
  exact jE_ h
theorem ON {left:Bool}{key:Keyed}{arr:Array Keyed}{base n hint:Nat}{st:SortSt}{Q:Option Nat->SortSt->Prop}(hO:LtOk kd κ a₀ prog w A E s)(hk:kindOf st=kd)(hkey:key∈a₀.toList)(hA:InA a₀ arr base n)(hh:hint<n)
  (hmono:∀ i j,i<=j->j<n->gB κ left key arr base j=true->gB κ left key arr base i=true)
  (h:∀ k,k<=n->(∀ i,i<k->gB κ left key arr base i=true)->(∀ i,k<=i->i<n->gB κ left key arr base i=false)->Q (some k) st) :
  wpS (model prog w) A E s (Dg left key arr base n hint) Q st:=by
 have hanti:∀ i j,i<=j->j<n->gB κ left key arr base i=false->gB κ left key arr base j=false:=fun i j hij hj hf=>by
  cases e:gB κ left key arr base j with
  | false=>rfl
  | true=>rw[hmono i j hij hj e] at hf;cases hf
 have hlast:∀ lo hi:Nat,lo<=hi->hi<=n->(∀ i,i<lo->gB κ left key arr base i=true)->(∀ i,hi<=i->i<n->gB κ left key arr base i=false)->wpS (model prog w) A E s (Wc left key arr base n lo hi) Q st:=by
  intro lo hi hlh hhn hlo hhi
  unfold Wc
  refine jw_ (xV_ (qw_ (I:=fun x c st'=>st'=st/\∃ lo hi,c=(none,lo,hi)/\lo<=hi/\hi<=n/\hi-lo<=n-x/\(∀ i,i<lo->gB κ left key arr base i=true)/\(∀ i,hi<=i->i<n->gB κ left key arr base i=false))
   (Q:=fun c st'=>st'=st/\∃ k,∃ lo,c=(none,lo,k)/\k<=n/\(∀ i,i<k->gB κ left key arr base i=true)/\(∀ i,k<=i->i<n->gB κ left key arr base i=false)) ?step ?fin ⟨rfl,lo,hi,rfl,hlh,hhn,by omega,hlo,hhi⟩) ?post)
  case fin =>
   rintro c st' ⟨rfl,lo,hi,rfl,h1,h2,h3,h4,h5⟩
   have:lo=hi:=by omega
   subst this
   exact⟨rfl,lo,lo,rfl,h2,h4,h5⟩
  case post =>
   rintro c st' ⟨rfl,k,lo,rfl,h1,h2,h3⟩
   exact jE_ (h k h1 h2 h3)
  case step =>
   rintro x c st' _ hx ⟨rfl,lo,hi,rfl,h1,h2,h3,h4,h5⟩
   dsimp only
   by_cases hge:lo >= hi
   ·rw[if_pos hge]
    have:lo=hi:=by omega
    subst this
    exact jE_ ⟨rfl,lo,lo,rfl,h2,h4,h5⟩
   ·rw[if_neg hge]
    refine jw_ (HL hO hk hkey hA (n:=n) (by omega) ?_)
    cases hg:gB κ left key arr base (lo+(hi-lo) / 2) with
    | true =>
     dsimp only
     rw[if_pos rfl]
     refine jE_ ⟨rfl,lo+(hi-lo) / 2+1,hi,rfl,by omega,h2,by omega,fun i hi'=>?_,h5⟩
     exact hmono i (lo+(hi-lo) / 2) (by omega) (by omega) hg
    | false =>
     dsimp only
     rw[if_neg (by simp)]
     refine jE_ ⟨rfl,lo,lo+(hi-lo) / 2,rfl,by omega,by omega,by omega,h4,fun i hi' hn=>?_⟩
     exact hanti (lo+(hi-lo) / 2) i hi' hn hg
 rw[Su]
 refine jw_ (HL hO hk hkey hA hh ?_)
 cases hg:gB κ left key arr base hint with
 | true =>
  dsimp only
  rw[if_pos rfl]
  refine jw_ (xV_ (qw_ (I:=fun x c st'=>st'=st/\∃ last ofs,c=(none,last,ofs)/\last<ofs/\x<ofs/\hint+last<n/\gB κ left key arr base (hint+last)=true)
   (Q:=fun c st'=>st'=st/\∃ last ofs,c=(none,last,ofs)/\last<ofs/\hint+last<n/\gB κ left key arr base (hint+last)=true/\(n-hint<=ofs\/hint+ofs<n/\gB κ left key arr base (hint+ofs)=false)) ?step ?fin ⟨rfl,0,1,rfl,by omega,by omega,by omega,hg⟩) ?post)
  case fin =>
   rintro c st' ⟨rfl,last,ofs,rfl,h1,h2,h3,h4⟩
   exact⟨rfl,last,ofs,rfl,h1,h3,h4,.inl (by omega)⟩
  case step =>
   rintro x c st' _ hx ⟨rfl,last,ofs,rfl,h1,h2,h3,h4⟩
   dsimp only
   by_cases hge:ofs >= n-hint
   ·rw[if_pos hge]
    exact jE_ ⟨rfl,last,ofs,rfl,h1,h3,h4,.inl hge⟩
   ·rw[if_neg hge]
    refine jw_ (HL hO hk hkey hA (n:=n) (by omega) ?_)
    cases hgo:gB κ left key arr base (hint+ofs) with
    | true =>
     dsimp only
     rw[if_neg (by simp)]
     exact jE_ ⟨rfl,ofs,2*ofs+1,rfl,by omega,by omega,by omega,hgo⟩
    | false =>
     dsimp only
     rw[if_pos (by simp)]
     exact jE_ ⟨rfl,last,ofs,rfl,h1,h3,h4,.inr ⟨by omega,hgo⟩⟩
  case post =>
   rintro c st' ⟨rfl,last,ofs,rfl,h1,h3,h4,h5⟩
   dsimp only
   refine hlast (hint+last+1) (hint+min ofs (n-hint)) (by omega) (by omega) (fun i hi=>hmono i (hint+last) (by omega) h3 h4) (fun i hi hn=>?_)
   rcases h5 with h5 | ⟨h5,h6⟩
   ·omega
   ·exact hanti (hint+ofs) i (by omega) hn h6
 | false =>
  dsimp only
  rw[if_neg (by simp)]
  refine jw_ (xV_ (qw_ (I:=fun x c st'=>st'=st/\∃ last ofs,c=(none,last,ofs)/\last<ofs/\x<ofs/\last<=hint/\gB κ left key arr base (hint-last)=false)
   (Q:=fun c st'=>st'=st/\∃ last ofs,c=(none,last,ofs)/\last<ofs/\last<=hint/\gB κ left key arr base (hint-last)=false/\(hint+1<=ofs\/ofs<=hint/\gB κ left key arr base (hint-ofs)=true)) ?step ?fin ⟨rfl,0,1,rfl,by omega,by omega,by omega,hg⟩) ?post)
  case fin =>
   rintro c st' ⟨rfl,last,ofs,rfl,h1,h2,h3,h4⟩
   exact⟨rfl,last,ofs,rfl,h1,h3,h4,.inl (by omega)⟩
  case step =>
   rintro x c st' _ hx ⟨rfl,last,ofs,rfl,h1,h2,h3,h4⟩
   dsimp only
   by_cases hge:ofs >= hint+1
   ·rw[if_pos hge]
    exact jE_ ⟨rfl,last,ofs,rfl,h1,h3,h4,.inl hge⟩
   ·rw[if_neg hge]
    refine jw_ (HL hO hk hkey hA (n:=n) (by omega) ?_)
    cases hgo:gB κ left key arr base (hint-ofs) with
    | true =>
     dsimp only
     rw[if_pos rfl]
     exact jE_ ⟨rfl,last,ofs,rfl,h1,h3,h4,.inr ⟨by omega,hgo⟩⟩
    | false =>
     dsimp only
     rw[if_neg (by simp)]
     exact jE_ ⟨rfl,ofs,2*ofs+1,rfl,by omega,by omega,by omega,hgo⟩
  case post =>
   rintro c st' ⟨rfl,last,ofs,rfl,h1,h3,h4,h5⟩
   dsimp only
   refine hlast (hint+1-min ofs (hint+1)) (hint-last) (by omega) (by omega) (fun i hi=>?_) (fun i hi hn=>hanti (hint-last) i (by omega) hn h4)
   rcases h5 with h5 | ⟨h5,h6⟩
   ·omega
   ·exact hmono i (hint-ofs) (by omega) (by omega) h6
end
end S64
namespace S64
open PySem PyProof.Rows
abbrev F8 (st:SortSt)(g:Nat):SortSt:=SortSt.mk' (kindOf st) (arrOf st) (pendingOf st) g (failedOf st)
def Bd:Nat->StateT SortSt Sem Unit:=sortPriv% PySem.Builtin.setMinGallop
theorem Jj (g:Nat):Bd g=modify fun s=>F8 s g:=rfl
def JZ:Array Keyed->Array Keyed->StateT SortSt Sem (Array Keyed):=sortPriv% PySem.Builtin.mergeLo
def Fe (a b out:Array Keyed)(ia ib:Nat):Array Keyed:=out++a.extract ia a.size++b.extract ib b.size
def Kp (a b out:Array Keyed)(ia ib:Nat):Array Keyed:=out++b.extract ib b.size++a.extract ia a.size
theorem Qf (a b:Array Keyed):JZ a b=(do
 rule "list.sort.merge-lo"
 let mut out:Array Keyed := #[<- elem' b 0]
 let mut ia:=0
 let mut ib:=1
 if ib == b.size then return Fe a b out ia ib
 if ia+1 == a.size then return Kp a b out ia ib
 let mut minGallop:=gallopOf ( <- get)
 for _ in [0:a.size+b.size] do
  let mut acount:=0
  let mut bcount:=0
  for _ in [0:a.size+b.size] do
   let some bWins <- lt' ( <- elem' b ib) ( <- elem' a ia) | return Fe a b out ia ib
   if bWins then
    out:=out.push ( <- elem' b ib);ib:=ib+1;bcount:=bcount+1;acount:=0
    if ib == b.size then return Fe a b out ia ib
    if bcount >= minGallop then break
   else
    out:=out.push ( <- elem' a ia);ia:=ia+1;acount:=acount+1;bcount:=0
    if ia+1 == a.size then return Kp a b out ia ib
    if acount >= minGallop then break
  rule "list.sort.gallop"
  minGallop:=minGallop+1
  for _ in [0:a.size+b.size] do
   if minGallop > 1 then minGallop:=minGallop-1
   Bd minGallop
   let some k <- Dg false ( <- elem' b ib) a ia (a.size-ia) 0 | return Fe a b out ia ib
   acount:=k
   if k > 0 then
    out:=out++a.extract ia (ia+k);ia:=ia+k
    if ia+1 == a.size then return Kp a b out ia ib
    if ia == a.size then return Fe a b out ia ib
   out:=out.push ( <- elem' b ib);ib:=ib+1
   if ib == b.size then return Fe a b out ia ib
   let some k <- Dg true ( <- elem' a ia) b ib (b.size-ib) 0 | return Fe a b out ia ib
   bcount:=k
   if k > 0 then
    out:=out++b.extract ib (ib+k);ib:=ib+k
    if ib == b.size then return Fe a b out ia ib
   out:=out.push ( <- elem' a ia);ia:=ia+1
   if ia+1 == a.size then return Kp a b out ia ib
   if acount<7&&bcount<7 then break
  minGallop:=minGallop+1
  Bd minGallop
 unsupported "internal:list.sort.merge-bound"):=rfl
section
variable {α:Type} {R:α->α->Prop} {A B out:List α} {ia ib:Nat}
structure MI (R:α->α->Prop)(A B out:List α)(ia ib:Nat):Prop where
 ha:ia<=A.length
 hb:ib<=B.length
 pm:out.Perm (A.take ia++B.take ib)
 so:out.Pairwise R
 le:∀ x∈out,∀ y∈A.drop ia++B.drop ib,R x y
theorem MI.swap (h:MI R A B out ia ib):MI R B A out ib ia:=⟨h.hb,h.ha,h.pm.trans List.perm_append_comm,h.so,fun x hx y hy=>h.le x hx y (by rcases jB_.mp hy with z | z;exact jD_ _ z;exact qb_ _ z)⟩
theorem Sv (A:List α)(i k:Nat):A.drop i=(A.drop i).take k++A.drop (i+k):=by
 rw[<- List.drop_drop,q4_]
theorem MI.ta (h:MI R A B out ia ib)(sA:A.Pairwise R){k:Nat}(hk:ia+k<=A.length)(hx:∀ x∈(A.drop ia).take k,∀ y∈B.drop ib,R x y):MI R A B (out++(A.drop ia).take k) (ia+k) ib:=by
 have hsp:=Sv A ia k
 have hpa:(A.drop ia).Pairwise R:=List.Pairwise.sublist (List.drop_sublist _ _) sA
 refine⟨hk,h.hb,?_,?_,fun x hxo y hy=>?_⟩
 ·have e:A.take (ia+k)=A.take ia++(A.drop ia).take k:=List.take_add
  rw[e,qA_]
  refine (List.Perm.append_right _ h.pm).trans ?_
  rw[qA_]
  exact List.Perm.append_left _ List.perm_append_comm
 ·refine qV_.mpr ⟨h.so,List.Pairwise.sublist (List.take_sublist _ _) hpa,fun x hx1 y hy1=>h.le x hx1 y (qb_ _ (xb_ hy1))⟩
 ·rcases jB_.mp hxo with hxo | hxo
  ·refine h.le x hxo y ?_
   rcases jB_.mp hy with hy | hy
   ·exact qb_ _ (by rw[hsp];exact jD_ _ hy)
   ·exact jD_ _ hy
  ·rcases jB_.mp hy with hy | hy
   ·rw[hsp] at hpa
    exact (qV_.mp hpa).2.2 x hxo y hy
   ·exact hx x hxo y hy
theorem MI.tb (h:MI R A B out ia ib)(sB:B.Pairwise R){k:Nat}(hk:ib+k<=B.length)(hx:∀ x∈(B.drop ib).take k,∀ y∈A.drop ia,R x y):MI R A B (out++(B.drop ib).take k) ia (ib+k):=(h.swap.ta sB hk hx).swap
theorem MI.start (A B:List α):MI R A B [] 0 0:=⟨j0_ _,j0_ _,by simp,List.Pairwise.nil,fun x hx=>by cases hx⟩
def Mgd (R:α->α->Prop)(A B r:List α):Prop:=r.Perm (A++B)/\r.Pairwise R
theorem MI.done (h:MI R A B out ia ib)(sA:A.Pairwise R)(sB:B.Pairwise R)(he:A.length<=ia\/B.length<=ib):Mgd R A B (out++A.drop ia++B.drop ib):=by
 rcases he with he | he
 ·have:=(h.tb sB (k:=B.length-ib) (by have:=h.hb;omega) (fun x _ y hy=>by rw[qr_ he] at hy;cases hy))
  have e:(B.drop ib).take (B.length-ib)=B.drop ib:=jX_ (by rw[q8_];exact jl_ _)
  rw[e] at this
  rw[qr_ he,qS_]
  refine⟨?_,this.so⟩
  have p:=this.pm
  rw[jX_ he,jX_ (by have:=h.hb;omega)] at p
  exact p
 ·have:=(h.ta sA (k:=A.length-ia) (by have:=h.ha;omega) (fun x _ y hy=>by rw[qr_ he] at hy;cases hy))
  have e:(A.drop ia).take (A.length-ia)=A.drop ia:=jX_ (by rw[q8_];exact jl_ _)
  rw[e] at this
  rw[qr_ he,qS_]
  refine⟨?_,this.so⟩
  have p:=this.pm
  rw[jX_ he,jX_ (by have:=h.ha;omega)] at p
  exact p
theorem MI.last (h:MI R A B out ia ib)(sA:A.Pairwise R)(sB:B.Pairwise R)(hl:∀ x∈B,∀ y∈A.drop ia,R x y):Mgd R A B (out++B.drop ib++A.drop ia):=by
 have h1:=h.tb sB (k:=B.length-ib) (by have:=h.hb;omega) (fun x hx y hy=>hl x (List.mem_of_mem_drop (xb_ hx)) y hy)
 have e:(B.drop ib).take (B.length-ib)=B.drop ib:=jX_ (by rw[q8_];exact jl_ _)
 rw[e] at h1
 have h2:=h1.done sA sB (.inr (by have:=h.hb;omega))
 rw[qr_ (show B.length<=ib+(B.length-ib) by have:=h.hb;omega),qS_] at h2
 exact h2
end
end S64
namespace S64
open PySem PyProof.Rows
def LeK (κ:KeyKind)(x y:Keyed):Prop:=κ.kle (KE κ x) (KE κ y)
structure SG (st st':SortSt):Prop where
 kd:kindOf st'=kindOf st
 arr:arrOf st'=arrOf st
 pe:pendingOf st'=pendingOf st
 fa:failedOf st'=failedOf st
theorem SG.refl (st:SortSt):SG st st:=⟨rfl,rfl,rfl,rfl⟩
theorem SG.set {st st':SortSt}(h:SG st st')(g:Nat):SG st (F8 st' g):=⟨h.kd,h.arr,h.pe,h.fa⟩
abbrev G5:=Option (Array Keyed)×Array Keyed×Nat×Nat×Nat
abbrev G6:=Option (Array Keyed)×Array Keyed×Nat×Nat×Nat×Nat
abbrev G7:=Option (Array Keyed)×Array Keyed×Nat×Nat×Nat×Nat×Nat
def PC (a b out:Array Keyed)(ia ib mg ac bc:Nat):StateT SortSt Sem (ForInStep G7):=do
 let y <- elem' a ia
 if (ia+1+1 == a.size)=true then pure (.done (some (Kp a b (out.push y) (ia+1) ib),out.push y,ia+1,ib,mg,ac,bc))
 else if (decide (ac<7)&&decide (bc<7))=true then pure (.done (none,out.push y,ia+1,ib,mg,ac,bc)) else pure (.yield (none,out.push y,ia+1,ib,mg,ac,bc))
def PB (a b out:Array Keyed)(ia ib mg ac bc:Nat):StateT SortSt Sem (ForInStep G7):=do
 let y <- elem' b ib
 if (ib+1 == b.size)=true then pure (.done (some (Fe a b (out.push y) ia (ib+1)),out.push y,ia,ib+1,mg,ac,bc))
 else do
  let z <- elem' a ia
  let x <- Dg true z b (ib+1) (b.size-(ib+1)) 0
  match x with
  | some k=>if k > 0 then (if (ib+1+k == b.size)=true then pure (.done (some (Fe a b (out.push y++b.extract (ib+1) (ib+1+k)) ia (ib+1+k)),out.push y++b.extract (ib+1) (ib+1+k),ia,ib+1+k,mg,ac,k)) else PC a b (out.push y++b.extract (ib+1) (ib+1+k)) ia (ib+1+k) mg ac k) else PC a b (out.push y) ia (ib+1) mg ac k
  | _=>pure (.done (some (Fe a b (out.push y) ia (ib+1)),out.push y,ia,ib+1,mg,ac,bc))
def PA (a b out:Array Keyed)(ia ib mg ac bc:Nat):StateT SortSt Sem (ForInStep G7):=do
 Bd mg
 let y <- elem' b ib
 let x <- Dg false y a ia (a.size-ia) 0
 match x with
 | some k=>if k > 0 then (if (ia+k+1 == a.size)=true then pure (.done (some (Kp a b (out++a.extract ia (ia+k)) (ia+k) ib),out++a.extract ia (ia+k),ia+k,ib,mg,k,bc)) else if (ia+k == a.size)=true then pure (.done (some (Fe a b (out++a.extract ia (ia+k)) (ia+k) ib),out++a.extract ia (ia+k),ia+k,ib,mg,k,bc)) else PB a b (out++a.extract ia (ia+k)) (ia+k) ib mg k bc) else PB a b out ia ib mg k bc
 | _=>pure (.done (some (Fe a b out ia ib),out,ia,ib,mg,ac,bc))
def P1 (a b:Array Keyed)(mg:Nat)(c:G6):StateT SortSt Sem (ForInStep G6):=do
 let y <- elem' b c.2.2.2.1
 let z <- elem' a c.2.2.1
 let x <- lt' y z
 match x with
 | some bWins =>
  if bWins=true then
   elem' b c.2.2.2.1 >>= fun y =>
   if (c.2.2.2.1+1 == b.size)=true then pure (.done (some (Fe a b (c.2.1.push y) c.2.2.1 (c.2.2.2.1+1)),c.2.1.push y,c.2.2.1,c.2.2.2.1+1,0,c.2.2.2.2.2+1))
   else if c.2.2.2.2.2+1 >= mg then pure (.done (none,c.2.1.push y,c.2.2.1,c.2.2.2.1+1,0,c.2.2.2.2.2+1)) else pure (.yield (none,c.2.1.push y,c.2.2.1,c.2.2.2.1+1,0,c.2.2.2.2.2+1))
  else
   elem' a c.2.2.1 >>= fun y =>
   if (c.2.2.1+1+1 == a.size)=true then pure (.done (some (Kp a b (c.2.1.push y) (c.2.2.1+1) c.2.2.2.1),c.2.1.push y,c.2.2.1+1,c.2.2.2.1,c.2.2.2.2.1+1,0))
   else if c.2.2.2.2.1+1 >= mg then pure (.done (none,c.2.1.push y,c.2.2.1+1,c.2.2.2.1,c.2.2.2.2.1+1,0)) else pure (.yield (none,c.2.1.push y,c.2.2.1+1,c.2.2.2.1,c.2.2.2.2.1+1,0))
 | _=>pure (.done (some (Fe a b c.2.1 c.2.2.1 c.2.2.2.1),c.2.1,c.2.2.1,c.2.2.2.1,c.2.2.2.2.1,c.2.2.2.2.2))
def P2 (a b:Array Keyed)(c:G7):StateT SortSt Sem (ForInStep G7):=if c.2.2.2.2.1 > 1 then PA a b c.2.1 c.2.2.1 c.2.2.2.1 (c.2.2.2.2.1-1) c.2.2.2.2.2.1 c.2.2.2.2.2.2 else PA a b c.2.1 c.2.2.1 c.2.2.2.1 c.2.2.2.2.1 c.2.2.2.2.2.1 c.2.2.2.2.2.2
def PO (a b:Array Keyed)(c:G5):StateT SortSt Sem (ForInStep G5):=do
 let d <- forIn [0:a.size+b.size] ((none,c.2.1,c.2.2.1,c.2.2.2.1,0,0):G6) fun _ d=>P1 a b c.2.2.2.2 d
 match d.1 with
 | some r=>pure (.done (some r,d.2.1,d.2.2.1,d.2.2.2.1,c.2.2.2.2))
 | none=>do
  liftM (rule "list.sort.gallop")
  let e <- forIn [0:a.size+b.size] ((none,d.2.1,d.2.2.1,d.2.2.2.1,c.2.2.2.2+1,d.2.2.2.2.1,d.2.2.2.2.2):G7) fun _ e=>P2 a b e
  match e.1 with
  | some r=>pure (.done (some r,e.2.1,e.2.2.1,e.2.2.2.1,e.2.2.2.2.1))
  | none=>do
   Bd (e.2.2.2.2.1+1)
   pure (.yield (none,e.2.1,e.2.2.1,e.2.2.2.1,e.2.2.2.2.1+1))
theorem OO (a b:Array Keyed):JZ a b=(do
 liftM (rule "list.sort.merge-lo")
 let y <- elem' b 0
 if (1 == b.size)=true then pure (Fe a b #[y] 0 1)
 else if (0+1 == a.size)=true then pure (Kp a b #[y] 0 1)
 else do
  let g <- get
  let c <- forIn [0:a.size+b.size] ((none,#[y],0,1,gallopOf g):G5) fun _ c=>PO a b c
  match c.1 with
  | some r=>pure r
  | none=>unsupported "internal:list.sort.merge-bound"):=by
 rw[Qf]
 refine jJ_ (bind _) (funext fun _=>jJ_ (bind _) (funext fun y=>?_))
 refine jJ_ (ite _ _) (jJ_ (ite _ _) (jJ_ (bind _) (funext fun g=>?_)))
 refine congr (jJ_ bind (jJ_ (forIn _ _) (funext fun _=>funext fun c=>?_))) (funext fun c=>?_)
 ·unfold PO
  dsimp only
  refine congr (jJ_ bind (jJ_ (forIn _ _) (funext fun _=>funext fun d=>?_))) (funext fun d=>?_)
  ·unfold P1
   rfl
  ·cases d.1 with
   | some r=>rfl
   | none =>
    dsimp only
    refine jJ_ (bind _) (funext fun _=>congr (jJ_ bind (jJ_ (forIn _ _) (funext fun _=>funext fun e=>?_))) (funext fun e=>?_))
    ·unfold P2 PA PB PC
     rfl
    ·cases e.1 with
     | some r=>rfl
     | none=>rfl
 ·cases c.1 with
  | some r=>rfl
  | none=>rfl
end S64
namespace S64
open PySem PyProof.Rows
section
variable {prog:Program} {w:World} {A:Around} {E:Value->Shared->Prop} {s:Shared} {a₀:Array Keyed} {κ:KeyKind} {kd:SortKind}
theorem BR {arr:Array Keyed}{i:Nat}{st:SortSt}{Q:Keyed->SortSt->Prop}(hi:i<arr.size)(h:Q arr[i] st):wpS (model prog w) A E s (elem' arr i) Q st:=by
 rw[elem'_eq,getElem?_pos arr i hi]
 exact jE_ h
theorem Is {n:String}{st:SortSt}{Q:Unit->SortSt->Prop}(h:Q () st):wpS (model prog w) A E s (rule n:StateT SortSt Sem Unit) Q st:=wpS_lift (zF_ ⟨rfl,h⟩)
theorem GD (a:Array Keyed)(i j:Nat):(a.extract i j).toList=(a.toList.drop i).take (j-i):=by simp[List.extract_eq_take_drop]
theorem MY (a:Array Keyed)(i:Nat):(a.extract i a.size).toList=a.toList.drop i:=by
 rw[GD];exact jX_ (by simp)
theorem Sw (a b out:Array Keyed)(ia ib:Nat):(Fe a b out ia ib).toList=out.toList++a.toList.drop ia++b.toList.drop ib:=by
 unfold Fe;rw[Array.toList_append,Array.toList_append,MY,MY]
theorem Sx (a b out:Array Keyed)(ia ib:Nat):(Kp a b out ia ib).toList=out.toList++b.toList.drop ib++a.toList.drop ia:=by
 unfold Kp;rw[Array.toList_append,Array.toList_append,MY,MY]
theorem LeK.refl (x:Keyed):LeK κ x x:=qx_ _
theorem LeK.trans {x y z:Keyed}(h:LeK κ x y)(g:LeK κ y z):LeK κ x z:=xa_ h g
theorem U5 {a:Array Keyed}(sA:a.toList.Pairwise (LeK κ)){i j:Nat}(hij:i<=j)(hj:j<a.size):LeK κ a[i] a[j]:=by
 by_cases e:i=j
 ·subst e;exact LeK.refl _
 ·exact xs_.mp sA i j (by simpa using (by omega)) (by simpa using hj) (by omega)
theorem EB {a:Array Keyed}{i:Nat}{y:Keyed}(h:y∈a.toList.drop i):∃ j,∃ hj:j<a.size,i<=j/\y=a[j]:=by
 obtain⟨k,hk,e⟩:=x0_.mp h
 rw[z2_] at e
 rw[q8_] at hk
 exact⟨i+k,by simpa using (by simp at hk;omega),by omega,by rw[<- e];simp⟩
theorem Sy {a:Array Keyed}{i k:Nat}{y:Keyed}(h:y∈(a.toList.drop i).take k):∃ j,∃ hj:i+j<a.size,j<k/\y=a[i+j]:=by
 obtain⟨j,hj,e⟩:=x0_.mp h
 rw[List.getElem_take,z2_] at e
 rw[jx_,q8_] at hj
 exact⟨j,by simp at hj;omega,by omega,by rw[<- e];simp⟩
theorem J1 {a:Array Keyed}(sA:a.toList.Pairwise (LeK κ)){i:Nat}(hi:i<a.size):∀ y∈a.toList.drop i,LeK κ a[i] y:=fun y hy=>by
 obtain⟨j,hj,hij,rfl⟩:=EB hy
 exact U5 sA hij hj
theorem Zb {a:Array Keyed}{i:Nat}(hi:i<a.size):(a.toList.drop i).take 1=[a[i]]:=by
 rw[q0_ (by simpa using hi)];simp
section
variable {a b out:Array Keyed} {ia ib:Nat}
theorem MI.pushA (h:MI (LeK κ) a.toList b.toList out.toList ia ib)(sA:a.toList.Pairwise (LeK κ))(hi:ia<a.size)(hx:∀ y∈b.toList.drop ib,LeK κ a[ia] y):MI (LeK κ) a.toList b.toList (out.push a[ia]).toList (ia+1) ib:=by
 have:=h.ta sA (k:=1) (by simp;omega) (by rw[Zb hi];intro x hx' y hy;rw[ju_.mp hx'];exact hx y hy)
 rw[Zb hi] at this
 rw[z0_];exact this
theorem MI.pushB (h:MI (LeK κ) a.toList b.toList out.toList ia ib)(sB:b.toList.Pairwise (LeK κ))(hi:ib<b.size)(hx:∀ y∈a.toList.drop ia,LeK κ b[ib] y):MI (LeK κ) a.toList b.toList (out.push b[ib]).toList ia (ib+1):=(h.swap.pushA sB hi hx).swap
theorem MI.extA (h:MI (LeK κ) a.toList b.toList out.toList ia ib)(sA:a.toList.Pairwise (LeK κ)){k:Nat}(hk:ia+k<=a.size)(hx:∀ j,j<k->∀ (hj:ia+j<a.size),∀ y∈b.toList.drop ib,LeK κ a[ia+j] y):MI (LeK κ) a.toList b.toList (out++a.extract ia (ia+k)).toList (ia+k) ib:=by
 have:=h.ta sA (k:=k) (by simpa using hk) (fun x hx' y hy=>by
  obtain⟨j,hj,hjk,rfl⟩:=Sy hx'
  exact hx j hjk hj y hy)
 rw[qL_,GD,show ia+k-ia=k by omega];exact this
theorem MI.extB (h:MI (LeK κ) a.toList b.toList out.toList ia ib)(sB:b.toList.Pairwise (LeK κ)){k:Nat}(hk:ib+k<=b.size)(hx:∀ j,j<k->∀ (hj:ib+j<b.size),∀ y∈a.toList.drop ia,LeK κ b[ib+j] y):MI (LeK κ) a.toList b.toList (out++b.extract ib (ib+k)).toList ia (ib+k):=(h.swap.extA sB hk hx).swap
end
theorem FW {xs:Array Keyed}{i:Nat}(hi:i<xs.size):KK κ xs i=KE κ xs[i]:=Wb (getElem?_pos xs i hi)
theorem X3 {a:Array Keyed}(hA:∀ x∈a.toList,x∈a₀.toList){i n:Nat}(h:i+n<=a.size):InA a₀ a i n:=fun j hj=>⟨a[i+j],getElem?_pos _ _ (by omega),hA _ (by simp)⟩
theorem MZ {key:Keyed}{a:Array Keyed}{base n hint:Nat}{st:SortSt}{Q:Option Nat->SortSt->Prop}(hO:LtOk kd κ a₀ prog w A E s)(hk:kindOf st=kd)(hkey:key∈a₀.toList)(hA:∀ x∈a.toList,x∈a₀.toList)(sA:∀ i j (hi:i<a.size) (hj:j<a.size),base<=i->i<=j->j<base+n->LeK κ a[i] a[j])(hn:base+n<=a.size)(hh:hint<n)
  (h:∀ k,k<=n->(∀ i (hi:base+i<a.size),i<k->LeK κ a[base+i] key)->(∀ i (hi:base+i<a.size),k<=i->i<n->κ.klt (KE κ key) (KE κ a[base+i]))->Q (some k) st) :
  wpS (model prog w) A E s (Dg false key a base n hint) Q st:=by
 refine ON hO hk hkey (X3 hA hn) hh (fun i j hij hj hb=>?_) (fun k hkn h1 h2=>h k hkn (fun i hi hik=>?_) (fun i hi hik hin=>?_))
 ·simp only[gB,jN_,qP_,FW (show base+i<a.size by omega),FW (show base+j<a.size by omega),zY_] at hb ⊢
  exact xa_ (sA _ _ (by omega) (by omega) (by omega) (by omega) (by omega)) hb
 ·have:=h1 i hik
  simp only[gB,jN_,qP_,FW hi,zY_] at this
  exact this
 ·have:=h2 i hik hin
  simp only[gB,jN_,qP_,FW hi,Bool.not_eq_false'] at this
  exact this
theorem M0 {key:Keyed}{a:Array Keyed}{base n hint:Nat}{st:SortSt}{Q:Option Nat->SortSt->Prop}(hO:LtOk kd κ a₀ prog w A E s)(hk:kindOf st=kd)(hkey:key∈a₀.toList)(hA:∀ x∈a.toList,x∈a₀.toList)(sA:∀ i j (hi:i<a.size) (hj:j<a.size),base<=i->i<=j->j<base+n->LeK κ a[i] a[j])(hn:base+n<=a.size)(hh:hint<n)
  (h:∀ k,k<=n->(∀ i (hi:base+i<a.size),i<k->κ.klt (KE κ a[base+i]) (KE κ key))->(∀ i (hi:base+i<a.size),k<=i->i<n->LeK κ key a[base+i])->Q (some k) st) :
  wpS (model prog w) A E s (Dg true key a base n hint) Q st:=by
 refine ON hO hk hkey (X3 hA hn) hh (fun i j hij hj hb=>?_) (fun k hkn h1 h2=>h k hkn (fun i hi hik=>?_) (fun i hi hik hin=>?_))
 ·simp only[gB,xY_,FW (show base+i<a.size by omega),FW (show base+j<a.size by omega)] at hb ⊢
  exact KeyOrd.klt_of_kle_of_klt (sA _ _ (by omega) (by omega) (by omega) (by omega) (by omega)) hb
 ·have:=h1 i hik
  simp only[gB,xY_,FW hi] at this
  exact this
 ·have:=h2 i hik hin
  simp only[gB,xY_,FW hi] at this
  exact this
theorem M3 {a:Array Keyed}(sA:a.toList.Pairwise (LeK κ))(base n:Nat):∀ i j (hi:i<a.size) (hj:j<a.size),base<=i->i<=j->j<base+n->LeK κ a[i] a[j]:=fun _ _ _ hj _ hij _=>U5 sA hij hj
structure MP (a₀:Array Keyed)(κ:KeyKind)(a b:Array Keyed):Prop where
 hA:∀ x∈a.toList,x∈a₀.toList
 hB:∀ x∈b.toList,x∈a₀.toList
 sA:a.toList.Pairwise (LeK κ)
 sB:b.toList.Pairwise (LeK κ)
 ha:1<=a.size
 hb:1<=b.size
 hf:∀ y∈a.toList,LeK κ b[0] y
 hl:∀ x∈b.toList,LeK κ x a[a.size-1]
section
variable {a b:Array Keyed}
theorem MP.done (M:MP a₀ κ a b){out:Array Keyed}{ia ib:Nat}(h:MI (LeK κ) a.toList b.toList out.toList ia ib)(he:a.size<=ia\/b.size<=ib):Mgd (LeK κ) a.toList b.toList (Fe a b out ia ib).toList:=by
 rw[Sw];exact h.done M.sA M.sB (by simpa using he)
theorem MP.last (M:MP a₀ κ a b){out:Array Keyed}{ia ib:Nat}(h:MI (LeK κ) a.toList b.toList out.toList ia ib)(he:ia+1=a.size):Mgd (LeK κ) a.toList b.toList (Kp a b out ia ib).toList:=by
 rw[Sx]
 refine h.last M.sA M.sB (fun x hx y hy=>?_)
 obtain⟨j,hj,hij,rfl⟩:=EB hy
 have e:j=a.size-1:=by omega
 subst e
 exact M.hl x hx
def MJ (κ:KeyKind)(a b:Array Keyed)(out:Array Keyed)(ia ib p:Nat):Prop:=MI (LeK κ) a.toList b.toList out.toList ia ib/\ia+1<a.size/\ib<b.size/\p<=ia+ib
theorem Br_ (hO:LtOk kd κ a₀ prog w A E s)(M:MP a₀ κ a b){st:SortSt}(hk:kindOf st=kd){mg p:Nat}{c:G6}(h1:c.1=none)(hJ:MJ κ a b c.2.1 c.2.2.1 c.2.2.2.1 p){Q:ForInStep G6->SortSt->Prop}
  (h:∀ d:G6,d.1=none->MJ κ a b d.2.1 d.2.2.1 d.2.2.2.1 (p+1)->Q (.yield d) st/\Q (.done d) st) (hd:∀ (d:G6) x,d.1=some x->Mgd (LeK κ) a.toList b.toList x.toList->Q (.done d) st) :
  wpS (model prog w) A E s (P1 a b mg c) Q st:=by
 obtain⟨c0,out,ia,ib,ac,bc⟩:=c
 obtain⟨hM,h2,h3,h4⟩:=hJ
 dsimp only at *
 unfold P1
 dsimp only
 refine jw_ (BR h3 (jw_ (BR (show ia<a.size by omega) (jw_ (hO _ _ _ _ (M.hB _ (by simp)) (M.hA _ (by simp)) hk ?_)))))
 cases e:κ.blt (KE κ b[ib]) (KE κ a[ia]) with
 | true =>
  dsimp only
  rw[if_pos rfl]
  have hM':=hM.pushB M.sB h3 (fun y hy=>LeK.trans (qi_ e) (J1 M.sA (by omega) y hy))
  refine jw_ (BR h3 ?_)
  by_cases hq:ib+1=b.size
  ·rw[if_pos (by simpa using hq)]
   exact jE_ (hd _ _ rfl (M.done hM' (.inr (by omega))))
  ·rw[if_neg (by simpa using hq)]
   have hh:=h (none,out.push b[ib],ia,ib+1,0,bc+1) rfl (show MJ κ a b (out.push b[ib]) ia (ib+1) (p+1) from ⟨hM',h2,by omega,by omega⟩)
   split
   ·exact jE_ hh.2
   ·exact jE_ hh.1
 | false =>
  dsimp only
  rw[if_neg (by simp)]
  have hM':=hM.pushA M.sA (show ia<a.size by omega) (fun y hy=>LeK.trans e (J1 M.sB h3 y hy))
  refine jw_ (BR (show ia<a.size by omega) ?_)
  by_cases hq:ia+1+1=a.size
  ·rw[if_pos (by simpa using hq)]
   exact jE_ (hd _ _ rfl (M.last hM' hq))
  ·rw[if_neg (by simpa using hq)]
   have hh:=h (none,out.push a[ia],ia+1,ib,ac+1,0) rfl (show MJ κ a b (out.push a[ia]) (ia+1) ib (p+1) from ⟨hM',by omega,h3,by omega⟩)
   split
   ·exact jE_ hh.2
   ·exact jE_ hh.1
theorem AM_ (M:MP a₀ κ a b){st:SortSt}{out:Array Keyed}{ia ib mg ac bc p:Nat}(hM:MI (LeK κ) a.toList b.toList out.toList ia ib)(h2:ia+1<a.size)(h3:ib<b.size)(h4:p<=ia+ib)(hle:∀ y∈b.toList.drop ib,LeK κ a[ia] y){Q:ForInStep G7->SortSt->Prop}
  (h:∀ d:G7,d.1=none->MJ κ a b d.2.1 d.2.2.1 d.2.2.2.1 p->Q (.yield d) st/\Q (.done d) st) (hd:∀ (d:G7) x,d.1=some x->Mgd (LeK κ) a.toList b.toList x.toList->Q (.done d) st) :
  wpS (model prog w) A E s (PC a b out ia ib mg ac bc) Q st:=by
 unfold PC
 refine jw_ (BR (show ia<a.size by omega) ?_)
 have hM':=hM.pushA M.sA (show ia<a.size by omega) hle
 by_cases hq:ia+1+1=a.size
 ·rw[if_pos (by simpa using hq)]
  exact jE_ (hd _ _ rfl (M.last hM' hq))
 ·rw[if_neg (by simpa using hq)]
  have hh:=h (none,out.push a[ia],ia+1,ib,mg,ac,bc) rfl (show MJ κ a b (out.push a[ia]) (ia+1) ib p from ⟨hM',by omega,h3,by omega⟩)
  split
  ·exact jE_ hh.2
  ·exact jE_ hh.1
theorem AN_ (hO:LtOk kd κ a₀ prog w A E s)(M:MP a₀ κ a b){st:SortSt}(hk:kindOf st=kd){out:Array Keyed}{ia ib mg ac bc p:Nat}(hM:MI (LeK κ) a.toList b.toList out.toList ia ib)(h2:ia+1<a.size)(h3:ib<b.size)(h4:p<=ia+ib)(hle:∀ y∈a.toList.drop ia,LeK κ b[ib] y){Q:ForInStep G7->SortSt->Prop}
  (h:∀ d:G7,d.1=none->MJ κ a b d.2.1 d.2.2.1 d.2.2.2.1 p->Q (.yield d) st/\Q (.done d) st) (hd:∀ (d:G7) x,d.1=some x->Mgd (LeK κ) a.toList b.toList x.toList->Q (.done d) st) :
  wpS (model prog w) A E s (PB a b out ia ib mg ac bc) Q st:=by
 unfold PB
 refine jw_ (BR h3 ?_)
 have hM':=hM.pushB M.sB h3 hle
 by_cases hq:ib+1=b.size
 ·rw[if_pos (by simpa using hq)]
  exact jE_ (hd _ _ rfl (M.done hM' (.inr (by omega))))
 ·rw[if_neg (by simpa using hq)]
  refine jw_ (BR (show ia<a.size by omega) (jw_ (M0 hO hk (M.hA _ (by simp)) M.hB (M3 M.sB _ _) (by omega) (by omega) (fun k hkn g1 g2=>?_))))
  dsimp only
  have hle2:∀ y∈b.toList.drop (ib+1+k),LeK κ a[ia] y:=fun y hy=>by
   obtain⟨j,hj,hij,rfl⟩:=EB hy
   have:=g2 (j-(ib+1)) (by omega) (by omega) (by omega)
   have e:ib+1+(j-(ib+1))=j:=by omega
   simp only[e] at this
   exact this
  by_cases hk0:k > 0
  ·rw[if_pos hk0]
   have hM2:=hM'.extB M.sB (k:=k) (by omega) (fun j hj hj' y hy=>LeK.trans (qi_ (g1 j hj' hj)) (J1 M.sA (by omega) y hy))
   by_cases hq2:ib+1+k=b.size
   ·rw[if_pos (by simpa using hq2)]
    exact jE_ (hd _ _ rfl (M.done hM2 (.inr (by omega))))
   ·rw[if_neg (by simpa using hq2)]
    exact AM_ M hM2 h2 (by omega) (by omega) hle2 h hd
  ·rw[if_neg hk0]
   have e:k=0:=by omega
   subst e
   exact AM_ M hM' h2 (by omega) (by omega) hle2 h hd
theorem SG.trans {st st' st'':SortSt}(h:SG st st')(g:SG st' st''):SG st st'':=⟨g.kd.trans h.kd,g.arr.trans h.arr,g.pe.trans h.pe,g.fa.trans h.fa⟩
theorem M4 {g:Nat}{st:SortSt}{Q:Unit->SortSt->Prop}(h:Q () (F8 st g)):wpS (model prog w) A E s (Bd g) Q st:=by
 rw[Jj];exact zG_ h
theorem AO_ (hO:LtOk kd κ a₀ prog w A E s)(M:MP a₀ κ a b){st:SortSt}(hk:kindOf st=kd){out:Array Keyed}{ia ib mg ac bc p:Nat}(hJ:MJ κ a b out ia ib p){Q:ForInStep G7->SortSt->Prop}
  (h:∀ (d:G7) st',SG st st'->d.1=none->MJ κ a b d.2.1 d.2.2.1 d.2.2.2.1 p->Q (.yield d) st'/\Q (.done d) st') (hd:∀ (d:G7) x st',SG st st'->d.1=some x->Mgd (LeK κ) a.toList b.toList x.toList->Q (.done d) st') :
  wpS (model prog w) A E s (PA a b out ia ib mg ac bc) Q st:=by
 obtain⟨hM,h2,h3,h4⟩:=hJ
 unfold PA
 refine jw_ (M4 ?_)
 have hG:SG st (F8 st mg):=(SG.refl st).set mg
 refine jw_ (BR h3 (jw_ (MZ hO (hG.kd.trans hk) (M.hB _ (by simp)) M.hA (M3 M.sA _ _) (by omega) (by omega) (fun k hkn g1 g2=>?_))))
 dsimp only
 have hle:∀ y∈a.toList.drop (ia+k),LeK κ b[ib] y:=fun y hy=>by
  obtain⟨j,hj,hij,rfl⟩:=EB hy
  have:=g2 (j-ia) (by omega) (by omega) (by omega)
  have e:ia+(j-ia)=j:=by omega
  simp only[e] at this
  exact qi_ this
 by_cases hk0:k > 0
 ·rw[if_pos hk0]
  have hM2:=hM.extA M.sA (k:=k) (by omega) (fun j hj hj' y hy=>LeK.trans (g1 j hj' hj) (J1 M.sB h3 y hy))
  by_cases hq:ia+k+1=a.size
  ·rw[if_pos (by simpa using hq)]
   exact jE_ (hd _ _ _ hG rfl (M.last hM2 hq))
  ·rw[if_neg (by simpa using hq)]
   by_cases hq2:ia+k=a.size
   ·rw[if_pos (by simpa using hq2)]
    exact jE_ (hd _ _ _ hG rfl (M.done hM2 (.inl (by omega))))
   ·rw[if_neg (by simpa using hq2)]
    exact AN_ hO M (hG.kd.trans hk) hM2 (by omega) h3 (by omega) hle (fun d=>h d _ hG) (fun d x=>hd d x _ hG)
 ·rw[if_neg hk0]
  have e:k=0:=by omega
  subst e
  exact AN_ hO M (hG.kd.trans hk) hM h2 h3 h4 hle (fun d=>h d _ hG) (fun d x=>hd d x _ hG)
theorem Bs_ (hO:LtOk kd κ a₀ prog w A E s)(M:MP a₀ κ a b){st:SortSt}(hk:kindOf st=kd){c:G7}{p:Nat}(hJ:MJ κ a b c.2.1 c.2.2.1 c.2.2.2.1 p){Q:ForInStep G7->SortSt->Prop}
  (h:∀ (d:G7) st',SG st st'->d.1=none->MJ κ a b d.2.1 d.2.2.1 d.2.2.2.1 p->Q (.yield d) st'/\Q (.done d) st') (hd:∀ (d:G7) x st',SG st st'->d.1=some x->Mgd (LeK κ) a.toList b.toList x.toList->Q (.done d) st') :
  wpS (model prog w) A E s (P2 a b c) Q st:=by
 unfold P2
 split
 ·exact AO_ hO M hk hJ h hd
 ·exact AO_ hO M hk hJ h hd
theorem Bt_ (hO:LtOk kd κ a₀ prog w A E s)(M:MP a₀ κ a b){st:SortSt}(hk:kindOf st=kd){c:G5}{p:Nat}(hJ:MJ κ a b c.2.1 c.2.2.1 c.2.2.2.1 p){Q:ForInStep G5->SortSt->Prop}
  (h:∀ (d:G5) st',SG st st'->d.1=none->MJ κ a b d.2.1 d.2.2.1 d.2.2.2.1 (p+1)->Q (.yield d) st') (hd:∀ (d:G5) x st',SG st st'->d.1=some x->Mgd (LeK κ) a.toList b.toList x.toList->Q (.done d) st') :
  wpS (model prog w) A E s (PO a b c) Q st:=by
 have hab:1<=a.size+b.size:=by have:=M.ha;omega
 unfold PO
 refine jw_ (xV_ (qw_ (I:=fun x d st'=>st'=st/\d.1=none/\MJ κ a b d.2.1 d.2.2.1 d.2.2.2.1 (p+x))
   (Q:=fun d st'=>st'=st/\((d.1=none/\MJ κ a b d.2.1 d.2.2.1 d.2.2.2.1 (p+1)) \/ ∃ x,d.1=some x/\Mgd (LeK κ) a.toList b.toList x.toList)) ?step ?fin ⟨rfl,rfl,hJ⟩) ?post)
 case step =>
  rintro x d st' _ hx ⟨rfl,h1,h2⟩
  refine Br_ hO M hk h1 h2 (fun d' g1 g2=>⟨⟨rfl,g1,g2⟩,rfl,.inl ⟨g1,g2.1,g2.2.1,g2.2.2.1,?_⟩⟩) (fun d' x g1 g2=>⟨rfl,.inr ⟨x,g1,g2⟩⟩)
  have:=g2.2.2.2;omega
 case fin =>
  rintro d st' ⟨rfl,h1,h2⟩
  refine⟨rfl,.inl ⟨h1,h2.1,h2.2.1,h2.2.2.1,?_⟩⟩
  have:=h2.2.2.2;omega
 case post =>
  rintro d st' ⟨rfl,hh⟩
  rcases hh with ⟨h1,h2⟩ | ⟨x,h1,h2⟩
  ·rw[h1]
   dsimp only
   refine jw_ (Is ?_)
   refine jw_ (xV_ (qw_ (I:=fun x d st''=>SG st' st''/\d.1=none/\MJ κ a b d.2.1 d.2.2.1 d.2.2.2.1 (p+1))
    (Q:=fun d st''=>SG st' st''/\((d.1=none/\MJ κ a b d.2.1 d.2.2.1 d.2.2.2.1 (p+1)) \/ ∃ x,d.1=some x/\Mgd (LeK κ) a.toList b.toList x.toList)) ?step2 ?fin2 ⟨SG.refl _,rfl,h2⟩) ?post2)
   case step2 =>
    rintro x e st'' _ hx ⟨g0,g1,g2⟩
    exact Bs_ hO M (g0.kd.trans hk) g2 (fun d' st3 k0 k1 k2=>⟨⟨g0.trans k0,k1,k2⟩,g0.trans k0,.inl ⟨k1,k2⟩⟩) (fun d' x st3 k0 k1 k2=>⟨g0.trans k0,.inr ⟨x,k1,k2⟩⟩)
   case fin2 =>
    rintro e st'' ⟨g0,g1,g2⟩
    exact⟨g0,.inl ⟨g1,g2⟩⟩
   case post2 =>
    rintro e st'' ⟨g0,hh⟩
    rcases hh with ⟨g1,g2⟩ | ⟨x,g1,g2⟩
    ·rw[g1]
     dsimp only
     refine jw_ (M4 (jE_ ?_))
     exact h (none,e.2.1,e.2.2.1,e.2.2.2.1,e.2.2.2.2.1+1) _ (g0.set _) rfl g2
    ·rw[g1]
     dsimp only
     exact jE_ (hd _ x _ g0 rfl g2)
  ·rw[h1]
   dsimp only
   exact jE_ (hd _ x _ (SG.refl _) rfl h2)
theorem Sz {st:SortSt}{Q:Array Keyed->SortSt->Prop}(hO:LtOk kd κ a₀ prog w A E s)(M:MP a₀ κ a b)(hk:kindOf st=kd)
  (h:∀ r st',SG st st'->Mgd (LeK κ) a.toList b.toList r.toList->Q r st'):wpS (model prog w) A E s (JZ a b) Q st:=by
 have ha:=M.ha
 have hb:=M.hb
 rw[OO]
 refine jw_ (Is (jw_ (BR hb ?_)))
 have hM:MI (LeK κ) a.toList b.toList (#[b[0]]:Array Keyed).toList 0 1:=MI.pushB (out := #[]) (MI.start _ _) M.sB hb (by simpa using M.hf)
 by_cases h1:1=b.size
 ·rw[if_pos (by simpa using h1)]
  exact jE_ (h _ _ (SG.refl _) (M.done hM (.inr (by omega))))
 ·rw[if_neg (by simpa using h1)]
  by_cases h2:0+1=a.size
  ·rw[if_pos (by simpa using h2)]
   exact jE_ (h _ _ (SG.refl _) (M.last hM h2))
  ·rw[if_neg (by simpa using h2)]
   refine jw_ (wpS_get ?_)
   refine jw_ (xV_ (qw_ (I:=fun x c st'=>SG st st'/\c.1=none/\MJ κ a b c.2.1 c.2.2.1 c.2.2.2.1 (1+x))
    (Q:=fun c st'=>SG st st'/\∃ x,c.1=some x/\Mgd (LeK κ) a.toList b.toList x.toList) ?step ?fin ⟨SG.refl _,rfl,show MJ κ a b #[b[0]] 0 1 (1+0) from ⟨hM,by omega,by omega,by omega⟩⟩) ?post)
   case step =>
    rintro x c st' _ hx ⟨g0,g1,g2⟩
    exact Bt_ hO M (g0.kd.trans hk) g2 (fun d st2 k0 k1 k2=>⟨g0.trans k0,k1,k2⟩) (fun d x st2 k0 k1 k2=>⟨g0.trans k0,x,k1,k2⟩)
   case fin =>
    rintro c st' ⟨g0,g1,g2⟩
    have:=g2.2.1;have:=g2.2.2.1;have:=g2.2.2.2
    omega
   case post =>
    rintro c st' ⟨g0,x,g1,g2⟩
    rw[g1]
    dsimp only
    exact jE_ (h x st' g0 g2)
end
end
end S64
namespace S64
open PySem PyProof.Rows
def J2:Array Keyed->Array Keyed->StateT SortSt Sem (Array Keyed):=sortPriv% PySem.Builtin.mergeHi
def doneH (a b out:Array Keyed)(na nb:Nat):Array Keyed:=a.extract 0 na++b.extract 0 nb++out.reverse
def firstB (a b out:Array Keyed)(na nb:Nat):Array Keyed:=b.extract 0 nb++a.extract 0 na++out.reverse
theorem Qg (a b:Array Keyed):J2 a b=(do
 rule "list.sort.merge-hi"
 let mut na:=a.size-1
 let mut nb:=b.size
 let mut out:Array Keyed := #[<- elem' a na]
 if na == 0 then return doneH a b out na nb
 if nb == 1 then return firstB a b out na nb
 let mut minGallop:=gallopOf ( <- get)
 for _ in [0:a.size+b.size] do
  let mut acount:=0
  let mut bcount:=0
  for _ in [0:a.size+b.size] do
   let some aWins <- lt' ( <- elem' b (nb-1)) ( <- elem' a (na-1)) | return doneH a b out na nb
   if aWins then
    na:=na-1;out:=out.push ( <- elem' a na);acount:=acount+1;bcount:=0
    if na == 0 then return doneH a b out na nb
    if acount >= minGallop then break
   else
    nb:=nb-1;out:=out.push ( <- elem' b nb);bcount:=bcount+1;acount:=0
    if nb == 1 then return firstB a b out na nb
    if bcount >= minGallop then break
  rule "list.sort.gallop"
  minGallop:=minGallop+1
  for _ in [0:a.size+b.size] do
   if minGallop > 1 then minGallop:=minGallop-1
   Bd minGallop
   let some at_ <- Dg false ( <- elem' b (nb-1)) a 0 na (na-1) | return doneH a b out na nb
   let k:=na-at_
   acount:=k
   if k > 0 then
    out:=out++(a.extract at_ na).reverse;na:=at_
    if na == 0 then return doneH a b out na nb
   nb:=nb-1;out:=out.push ( <- elem' b nb)
   if nb == 1 then return firstB a b out na nb
   let some at_ <- Dg true ( <- elem' a (na-1)) b 0 nb (nb-1) | return doneH a b out na nb
   let k:=nb-at_
   bcount:=k
   if k > 0 then
    out:=out++(b.extract at_ nb).reverse;nb:=at_
    if nb == 1 then return firstB a b out na nb
    if nb == 0 then return doneH a b out na nb
   na:=na-1;out:=out.push ( <- elem' a na)
   if na == 0 then return doneH a b out na nb
   if acount<7&&bcount<7 then break
  minGallop:=minGallop+1
  Bd minGallop
 unsupported "internal:list.sort.merge-bound"):=rfl
abbrev H5:=Option (Array Keyed)×Nat×Nat×Array Keyed×Nat
abbrev H6:=Option (Array Keyed)×Nat×Nat×Array Keyed×Nat×Nat
abbrev H7:=Option (Array Keyed)×Nat×Nat×Array Keyed×Nat×Nat×Nat
def HC (a b out:Array Keyed)(na nb mg ac bc:Nat):StateT SortSt Sem (ForInStep H7):=do
 let y <- elem' a (na-1)
 if (na-1 == 0)=true then pure (.done (some (doneH a b (out.push y) (na-1) nb),na-1,nb,out.push y,mg,ac,bc))
 else if (decide (ac<7)&&decide (bc<7))=true then pure (.done (none,na-1,nb,out.push y,mg,ac,bc)) else pure (.yield (none,na-1,nb,out.push y,mg,ac,bc))
def HB (a b out:Array Keyed)(na nb mg ac bc:Nat):StateT SortSt Sem (ForInStep H7):=do
 let y <- elem' b (nb-1)
 if (nb-1 == 1)=true then pure (.done (some (firstB a b (out.push y) na (nb-1)),na,nb-1,out.push y,mg,ac,bc))
 else do
  let z <- elem' a (na-1)
  let x <- Dg true z b 0 (nb-1) (nb-1-1)
  match x with
  | some t=>if nb-1-t > 0 then (if (t == 1)=true then pure (.done (some (firstB a b (out.push y++(b.extract t (nb-1)).reverse) na t),na,t,out.push y++(b.extract t (nb-1)).reverse,mg,ac,nb-1-t)) else if (t == 0)=true then pure (.done (some (doneH a b (out.push y++(b.extract t (nb-1)).reverse) na t),na,t,out.push y++(b.extract t (nb-1)).reverse,mg,ac,nb-1-t)) else HC a b (out.push y++(b.extract t (nb-1)).reverse) na t mg ac (nb-1-t)) else HC a b (out.push y) na (nb-1) mg ac (nb-1-t)
  | _=>pure (.done (some (doneH a b (out.push y) na (nb-1)),na,nb-1,out.push y,mg,ac,bc))
def HA (a b out:Array Keyed)(na nb mg ac bc:Nat):StateT SortSt Sem (ForInStep H7):=do
 Bd mg
 let y <- elem' b (nb-1)
 let x <- Dg false y a 0 na (na-1)
 match x with
 | some t=>if na-t > 0 then (if (t == 0)=true then pure (.done (some (doneH a b (out++(a.extract t na).reverse) t nb),t,nb,out++(a.extract t na).reverse,mg,na-t,bc)) else HB a b (out++(a.extract t na).reverse) t nb mg (na-t) bc) else HB a b out na nb mg (na-t) bc
 | _=>pure (.done (some (doneH a b out na nb),na,nb,out,mg,ac,bc))
def H1 (a b:Array Keyed)(mg:Nat)(c:H6):StateT SortSt Sem (ForInStep H6):=do
 let y <- elem' b (c.2.2.1-1)
 let z <- elem' a (c.2.1-1)
 let x <- lt' y z
 match x with
 | some aWins =>
  if aWins=true then
   elem' a (c.2.1-1) >>= fun y =>
   if (c.2.1-1 == 0)=true then pure (.done (some (doneH a b (c.2.2.2.1.push y) (c.2.1-1) c.2.2.1),c.2.1-1,c.2.2.1,c.2.2.2.1.push y,c.2.2.2.2.1+1,0))
   else if c.2.2.2.2.1+1 >= mg then pure (.done (none,c.2.1-1,c.2.2.1,c.2.2.2.1.push y,c.2.2.2.2.1+1,0)) else pure (.yield (none,c.2.1-1,c.2.2.1,c.2.2.2.1.push y,c.2.2.2.2.1+1,0))
  else
   elem' b (c.2.2.1-1) >>= fun y =>
   if (c.2.2.1-1 == 1)=true then pure (.done (some (firstB a b (c.2.2.2.1.push y) c.2.1 (c.2.2.1-1)),c.2.1,c.2.2.1-1,c.2.2.2.1.push y,0,c.2.2.2.2.2+1))
   else if c.2.2.2.2.2+1 >= mg then pure (.done (none,c.2.1,c.2.2.1-1,c.2.2.2.1.push y,0,c.2.2.2.2.2+1)) else pure (.yield (none,c.2.1,c.2.2.1-1,c.2.2.2.1.push y,0,c.2.2.2.2.2+1))
 | _=>pure (.done (some (doneH a b c.2.2.2.1 c.2.1 c.2.2.1),c.2.1,c.2.2.1,c.2.2.2.1,c.2.2.2.2.1,c.2.2.2.2.2))
def H2 (a b:Array Keyed)(c:H7):StateT SortSt Sem (ForInStep H7):=if c.2.2.2.2.1 > 1 then HA a b c.2.2.2.1 c.2.1 c.2.2.1 (c.2.2.2.2.1-1) c.2.2.2.2.2.1 c.2.2.2.2.2.2 else HA a b c.2.2.2.1 c.2.1 c.2.2.1 c.2.2.2.2.1 c.2.2.2.2.2.1 c.2.2.2.2.2.2
def HO (a b:Array Keyed)(c:H5):StateT SortSt Sem (ForInStep H5):=do
 let d <- forIn [0:a.size+b.size] ((none,c.2.1,c.2.2.1,c.2.2.2.1,0,0):H6) fun _ d=>H1 a b c.2.2.2.2 d
 match d.1 with
 | some r=>pure (.done (some r,d.2.1,d.2.2.1,d.2.2.2.1,c.2.2.2.2))
 | none=>do
  liftM (rule "list.sort.gallop")
  let e <- forIn [0:a.size+b.size] ((none,d.2.1,d.2.2.1,d.2.2.2.1,c.2.2.2.2+1,d.2.2.2.2.1,d.2.2.2.2.2):H7) fun _ e=>H2 a b e
  match e.1 with
  | some r=>pure (.done (some r,e.2.1,e.2.2.1,e.2.2.2.1,e.2.2.2.2.1))
  | none=>do
   Bd (e.2.2.2.2.1+1)
   pure (.yield (none,e.2.1,e.2.2.1,e.2.2.2.1,e.2.2.2.2.1+1))
theorem OP (a b:Array Keyed):J2 a b=(do
 liftM (rule "list.sort.merge-hi")
 let y <- elem' a (a.size-1)
 if (a.size-1 == 0)=true then pure (doneH a b #[y] (a.size-1) b.size)
 else if (b.size == 1)=true then pure (firstB a b #[y] (a.size-1) b.size)
 else do
  let g <- get
  let c <- forIn [0:a.size+b.size] ((none,a.size-1,b.size,#[y],gallopOf g):H5) fun _ c=>HO a b c
  match c.1 with
  | some r=>pure r
  | none=>unsupported "internal:list.sort.merge-bound"):=by
 rw[Qg]
 refine jJ_ (bind _) (funext fun _=>jJ_ (bind _) (funext fun y=>?_))
 refine jJ_ (ite _ _) (jJ_ (ite _ _) (jJ_ (bind _) (funext fun g=>?_)))
 refine congr (jJ_ bind (jJ_ (forIn _ _) (funext fun _=>funext fun c=>?_))) (funext fun c=>?_)
 ·unfold HO
  dsimp only
  refine congr (jJ_ bind (jJ_ (forIn _ _) (funext fun _=>funext fun d=>?_))) (funext fun d=>?_)
  ·unfold H1
   rfl
  ·cases d.1 with
   | some r=>rfl
   | none =>
    dsimp only
    refine jJ_ (bind _) (funext fun _=>congr (jJ_ bind (jJ_ (forIn _ _) (funext fun _=>funext fun e=>?_))) (funext fun e=>?_))
    ·unfold H2 HA HB HC
     rfl
    ·cases e.1 with
     | some r=>rfl
     | none=>rfl
 ·cases c.1 with
  | some r=>rfl
  | none=>rfl
section
variable {α:Type} {R:α->α->Prop} {A B:List α}
theorem Kq (A:List α){n:Nat}(h:n<=A.length):A.reverse.drop (A.length-n)=(A.take n).reverse:=by
 rw[List.drop_reverse,show A.length-(A.length-n)=n by omega]
theorem U6 (A:List α){n t:Nat}(h:n<=A.length)(ht:t<=n):(A.reverse.drop (A.length-n)).take (n-t)=((A.take n).drop t).reverse:=by
 rw[Kq A h,List.take_reverse,jx_,show min n A.length-(n-t)=t by omega]
theorem Mgd.rev {r:List α}(h:Mgd (fun x y=>R y x) B.reverse A.reverse r.reverse):Mgd R A B r:=by
 refine⟨?_,q5_.mp h.2⟩
 have:=h.1
 rw[<- qZ_] at this
 exact ((List.reverse_perm r).symm.trans this).trans (List.reverse_perm _)
end
section
variable {prog:Program} {w:World} {A:Around} {E:Value->Shared->Prop} {s:Shared} {a₀:Array Keyed} {κ:KeyKind} {kd:SortKind} {a b out:Array Keyed} {na nb:Nat}
structure MH (κ:KeyKind)(a b out:Array Keyed)(na nb:Nat):Prop where
 ha:na<=a.size
 hb:nb<=b.size
 mi:MI (fun x y=>LeK κ y x) a.toList.reverse b.toList.reverse out.toList (a.toList.length-na) (b.toList.length-nb)
theorem MH.swap (h:MH κ a b out na nb):MH κ b a out nb na:=⟨h.hb,h.ha,h.mi.swap⟩
theorem U7 {t:Nat}{x:Keyed}(h:x∈(a.toList.take na).drop t):∃ j,∃ hj:j<a.size,t<=j/\j<na/\x=a[j]:=by
 obtain⟨k,hk,e⟩:=x0_.mp h
 rw[z2_,List.getElem_take] at e
 rw[q8_,jx_] at hk
 exact⟨t+k,by simp at hk;omega,by omega,by omega,by rw[<- e];simp⟩
theorem RI {x:Keyed}(h:x∈a.toList.take na):∃ j,∃ hj:j<a.size,j<na/\x=a[j]:=by
 obtain⟨j,hj,_,h2,e⟩:=U7 (t:=0) (by simpa using h)
 exact⟨j,hj,h2,e⟩
theorem MH.extA (h:MH κ a b out na nb)(sA:a.toList.Pairwise (LeK κ)){t:Nat}(ht:t<=na)(hx:∀ j (hj:j<a.size),t<=j->j<na->∀ y∈b.toList.take nb,LeK κ y a[j]):MH κ a b (out++(a.extract t na).reverse) t nb:=by
 have hna:=h.ha
 have hl:a.toList.length=a.size:=jZ_
 have:=h.mi.ta (q5_.mpr sA) (k:=na-t) (by rw[xJ_];omega) (by
  rw[U6 _ (by omega) ht,Kq _ (by have:=h.hb;simpa using this)]
  intro x hx' y hy
  obtain⟨j,hj,h1,h2,rfl⟩:=U7 (xi_.mp hx')
  exact hx j hj h1 h2 y (xi_.mp hy))
 rw[U6 _ (by omega) ht,show a.toList.length-na+(na-t)=a.toList.length-t by omega] at this
 refine⟨by omega,h.hb,?_⟩
 rw[qL_,x1_,GD,show (List.drop t a.toList).take (na-t)=(a.toList.take na).drop t by rw[List.drop_take]]
 exact this
theorem MH.extB (h:MH κ a b out na nb)(sB:b.toList.Pairwise (LeK κ)){t:Nat}(ht:t<=nb)(hx:∀ j (hj:j<b.size),t<=j->j<nb->∀ y∈a.toList.take na,LeK κ y b[j]):MH κ a b (out++(b.extract t nb).reverse) na t:=(h.swap.extA sB ht hx).swap
theorem MH.pushA (h:MH κ a b out na nb)(sA:a.toList.Pairwise (LeK κ))(h1:1<=na)(hi:na-1<a.size)(hx:∀ y∈b.toList.take nb,LeK κ y a[na-1]):MH κ a b (out.push a[na-1]) (na-1) nb:=by
 have hna:=h.ha
 have:=h.extA sA (t:=na-1) (by omega) (fun j hj g1 g2 y hy=>by (have e:j=na-1:=by omega);subst e;exact hx y hy)
 have e:(a.extract (na-1) na).reverse = #[a[na-1]]:=by
  apply Array.ext'
  rw[x1_,GD,show na-(na-1)=1 by omega,Zb hi];rfl
 rw[e] at this
 simpa using this
theorem MH.pushB (h:MH κ a b out na nb)(sB:b.toList.Pairwise (LeK κ))(h1:1<=nb)(hi:nb-1<b.size)(hx:∀ y∈a.toList.take na,LeK κ y b[nb-1]):MH κ a b (out.push b[nb-1]) na (nb-1):=(h.swap.pushA sB h1 hi hx).swap
theorem AP_ (a:Array Keyed)(n:Nat):(a.extract 0 n).toList=a.toList.take n:=by rw[GD];simp
theorem MP.doneH (M:MP a₀ κ a b)(h:MH κ a b out na nb)(he:na=0\/nb=0):Mgd (LeK κ) a.toList b.toList (doneH a b out na nb).toList:=by
 apply Mgd.rev
 have hA:=h.ha
 have hB:=h.hb
 have:=h.mi.swap.done (q5_.mpr M.sB) (q5_.mpr M.sA) (by simp only[xJ_];simp only[jZ_];omega)
 rw[Kq _ (by simpa using hB),Kq _ (by simpa using hA)] at this
 have e:(S64.doneH a b out na nb).toList.reverse=out.toList++(b.toList.take nb).reverse++(a.toList.take na).reverse:=by
  unfold S64.doneH
  simp only[qL_,AP_,x1_,qZ_,xu_,qA_]
 rw[e];exact this
theorem MP.firstB (M:MP a₀ κ a b)(h:MH κ a b out na nb)(he:nb=1):Mgd (LeK κ) a.toList b.toList (firstB a b out na nb).toList:=by
 apply Mgd.rev
 have hA:=h.ha
 have hB:=h.hb
 have:=h.mi.swap.last (q5_.mpr M.sB) (q5_.mpr M.sA) (by
  rw[Kq _ (by simpa using hB)]
  intro x hx y hy
  obtain⟨j,hj,h2,rfl⟩:=RI (xi_.mp hy)
  have e:j=0:=by omega
  subst e
  exact M.hf x (xi_.mp hx))
 rw[Kq _ (by simpa using hA),Kq _ (by simpa using hB)] at this
 have e:(S64.firstB a b out na nb).toList.reverse=out.toList++(a.toList.take na).reverse++(b.toList.take nb).reverse:=by
  unfold S64.firstB
  simp only[qL_,AP_,x1_,qZ_,xu_,qA_]
 rw[e];exact this
theorem J3 (sA:a.toList.Pairwise (LeK κ))(hi:na-1<a.size):∀ y∈a.toList.take na,LeK κ y a[na-1]:=fun y hy=>by
 obtain⟨j,hj,h2,rfl⟩:=RI hy
 exact U5 sA (by omega) hi
def MHJ (κ:KeyKind)(a b out:Array Keyed)(na nb p:Nat):Prop:=MH κ a b out na nb/\1<=na/\2<=nb/\na+nb+p<=a.size+b.size
theorem Bu_ (hO:LtOk kd κ a₀ prog w A E s)(M:MP a₀ κ a b){st:SortSt}(hk:kindOf st=kd){mg p:Nat}{c:H6}(h1:c.1=none)(hJ:MHJ κ a b c.2.2.2.1 c.2.1 c.2.2.1 p){Q:ForInStep H6->SortSt->Prop}
  (h:∀ d:H6,d.1=none->MHJ κ a b d.2.2.2.1 d.2.1 d.2.2.1 (p+1)->Q (.yield d) st/\Q (.done d) st) (hd:∀ (d:H6) x,d.1=some x->Mgd (LeK κ) a.toList b.toList x.toList->Q (.done d) st) :
  wpS (model prog w) A E s (H1 a b mg c) Q st:=by
 obtain⟨c0,na,nb,out,ac,bc⟩:=c
 obtain⟨hM,h2,h3,h4⟩:=hJ
 dsimp only at *
 have hA:=hM.ha
 have hB:=hM.hb
 unfold H1
 dsimp only
 refine jw_ (BR (show nb-1<b.size by omega) (jw_ (BR (show na-1<a.size by omega) (jw_ (hO _ _ _ _ (M.hB _ (by simp)) (M.hA _ (by simp)) hk ?_)))))
 cases e:κ.blt (KE κ b[nb-1]) (KE κ a[na-1]) with
 | true =>
  dsimp only
  rw[if_pos rfl]
  have hM':=hM.pushA M.sA h2 (by omega) (fun y hy=>LeK.trans (J3 M.sB (by omega) y hy) (qi_ e))
  refine jw_ (BR (show na-1<a.size by omega) ?_)
  by_cases hq:na-1=0
  ·rw[if_pos (by simpa using hq)]
   exact jE_ (hd _ _ rfl (M.doneH hM' (.inl hq)))
  ·rw[if_neg (by simpa using hq)]
   have hh:=h (none,na-1,nb,out.push a[na-1],ac+1,0) rfl (show MHJ κ a b (out.push a[na-1]) (na-1) nb (p+1) from ⟨hM',by omega,h3,by omega⟩)
   split
   ·exact jE_ hh.2
   ·exact jE_ hh.1
 | false =>
  dsimp only
  rw[if_neg (by simp)]
  have hM':=hM.pushB M.sB (by omega) (by omega) (fun y hy=>LeK.trans (J3 M.sA (by omega) y hy) e)
  refine jw_ (BR (show nb-1<b.size by omega) ?_)
  by_cases hq:nb-1=1
  ·rw[if_pos (by simpa using hq)]
   exact jE_ (hd _ _ rfl (M.firstB hM' hq))
  ·rw[if_neg (by simpa using hq)]
   have hh:=h (none,na,nb-1,out.push b[nb-1],0,bc+1) rfl (show MHJ κ a b (out.push b[nb-1]) na (nb-1) (p+1) from ⟨hM',h2,by omega,by omega⟩)
   split
   ·exact jE_ hh.2
   ·exact jE_ hh.1
theorem AQ_ (M:MP a₀ κ a b){st:SortSt}{mg ac bc p:Nat}(hM:MH κ a b out na nb)(h2:1<=na)(h3:2<=nb)(h4:na+nb+p<=a.size+b.size)(hi:na-1<a.size)(hle:∀ y∈b.toList.take nb,LeK κ y a[na-1]){Q:ForInStep H7->SortSt->Prop}
  (h:∀ d:H7,d.1=none->MHJ κ a b d.2.2.2.1 d.2.1 d.2.2.1 p->Q (.yield d) st/\Q (.done d) st) (hd:∀ (d:H7) x,d.1=some x->Mgd (LeK κ) a.toList b.toList x.toList->Q (.done d) st) :
  wpS (model prog w) A E s (HC a b out na nb mg ac bc) Q st:=by
 unfold HC
 refine jw_ (BR hi ?_)
 have hM':=hM.pushA M.sA h2 hi hle
 by_cases hq:na-1=0
 ·rw[if_pos (by simpa using hq)]
  exact jE_ (hd _ _ rfl (M.doneH hM' (.inl hq)))
 ·rw[if_neg (by simpa using hq)]
  have hh:=h (none,na-1,nb,out.push a[na-1],mg,ac,bc) rfl (show MHJ κ a b (out.push a[na-1]) (na-1) nb p from ⟨hM',by omega,h3,by omega⟩)
  split
  ·exact jE_ hh.2
  ·exact jE_ hh.1
theorem AR_ (hO:LtOk kd κ a₀ prog w A E s)(M:MP a₀ κ a b){st:SortSt}(hk:kindOf st=kd){mg ac bc p:Nat}(hM:MH κ a b out na nb)(h2:1<=na)(h3:2<=nb)(h4:na+nb+p<=a.size+b.size)(hi:nb-1<b.size)(hle:∀ y∈a.toList.take na,LeK κ y b[nb-1]){Q:ForInStep H7->SortSt->Prop}
  (h:∀ d:H7,d.1=none->MHJ κ a b d.2.2.2.1 d.2.1 d.2.2.1 p->Q (.yield d) st/\Q (.done d) st) (hd:∀ (d:H7) x,d.1=some x->Mgd (LeK κ) a.toList b.toList x.toList->Q (.done d) st) :
  wpS (model prog w) A E s (HB a b out na nb mg ac bc) Q st:=by
 unfold HB
 have hA:=hM.ha
 have hB:=hM.hb
 refine jw_ (BR hi ?_)
 have hM':=hM.pushB M.sB (by omega) hi hle
 by_cases hq:nb-1=1
 ·rw[if_pos (by simpa using hq)]
  exact jE_ (hd _ _ rfl (M.firstB hM' hq))
 ·rw[if_neg (by simpa using hq)]
  refine jw_ (BR (show na-1<a.size by omega) (jw_ (M0 hO hk (M.hA _ (by simp)) M.hB (M3 M.sB _ _) (by omega) (by omega) (fun t htn g1 g2=>?_))))
  dsimp only
  have hle2:∀ y∈b.toList.take t,LeK κ y a[na-1]:=fun y hy=>by
   obtain⟨j,hj,hij,rfl⟩:=RI hy
   have:=g1 j (by omega) hij
   simp only[zz_] at this
   exact qi_ this
  by_cases hk0:nb-1-t > 0
  ·rw[if_pos hk0]
   have hM2:=hM'.extB M.sB (t:=t) (by omega) (fun j hj hj1 hj2 y hy=>by
    have:=g2 j (by omega) hj1 hj2
    simp only[zz_] at this
    exact LeK.trans (J3 M.sA (by omega) y hy) this)
   by_cases hq2:t=1
   ·rw[if_pos (by simpa using hq2)]
    exact jE_ (hd _ _ rfl (M.firstB hM2 hq2))
   ·rw[if_neg (by simpa using hq2)]
    by_cases hq3:t=0
    ·rw[if_pos (by simpa using hq3)]
     exact jE_ (hd _ _ rfl (M.doneH hM2 (.inr hq3)))
    ·rw[if_neg (by simpa using hq3)]
     exact AQ_ M hM2 h2 (by omega) (by omega) (by omega) hle2 h hd
  ·rw[if_neg hk0]
   have e:t=nb-1:=by omega
   subst e
   exact AQ_ M hM' h2 (by omega) (by omega) (by omega) hle2 h hd
theorem AS_ (hO:LtOk kd κ a₀ prog w A E s)(M:MP a₀ κ a b){st:SortSt}(hk:kindOf st=kd){mg ac bc p:Nat}(hJ:MHJ κ a b out na nb p){Q:ForInStep H7->SortSt->Prop}
  (h:∀ (d:H7) st',SG st st'->d.1=none->MHJ κ a b d.2.2.2.1 d.2.1 d.2.2.1 p->Q (.yield d) st'/\Q (.done d) st') (hd:∀ (d:H7) x st',SG st st'->d.1=some x->Mgd (LeK κ) a.toList b.toList x.toList->Q (.done d) st') :
  wpS (model prog w) A E s (HA a b out na nb mg ac bc) Q st:=by
 obtain⟨hM,h2,h3,h4⟩:=hJ
 have hA:=hM.ha
 have hB:=hM.hb
 unfold HA
 refine jw_ (M4 ?_)
 have hG:SG st (F8 st mg):=(SG.refl st).set mg
 refine jw_ (BR (show nb-1<b.size by omega) (jw_ (MZ hO (hG.kd.trans hk) (M.hB _ (by simp)) M.hA (M3 M.sA _ _) (by omega) (by omega) (fun t htn g1 g2=>?_))))
 dsimp only
 have hle:∀ y∈a.toList.take t,LeK κ y b[nb-1]:=fun y hy=>by
  obtain⟨j,hj,hij,rfl⟩:=RI hy
  have:=g1 j (by omega) hij
  simp only[zz_] at this
  exact this
 by_cases hk0:na-t > 0
 ·rw[if_pos hk0]
  have hM2:=hM.extA M.sA (t:=t) (by omega) (fun j hj hj1 hj2 y hy=>by
   have:=g2 j (by omega) hj1 hj2
   simp only[zz_] at this
   exact LeK.trans (J3 M.sB (by omega) y hy) (qi_ this))
  by_cases hq:t=0
  ·rw[if_pos (by simpa using hq)]
   exact jE_ (hd _ _ _ hG rfl (M.doneH hM2 (.inl hq)))
  ·rw[if_neg (by simpa using hq)]
   exact AR_ hO M (hG.kd.trans hk) hM2 (by omega) h3 (by omega) (by omega) hle (fun d=>h d _ hG) (fun d x=>hd d x _ hG)
 ·rw[if_neg hk0]
  have e:t=na:=by omega
  subst e
  exact AR_ hO M (hG.kd.trans hk) hM h2 h3 h4 (by omega) hle (fun d=>h d _ hG) (fun d x=>hd d x _ hG)
theorem Bv_ (hO:LtOk kd κ a₀ prog w A E s)(M:MP a₀ κ a b){st:SortSt}(hk:kindOf st=kd){c:H7}{p:Nat}(hJ:MHJ κ a b c.2.2.2.1 c.2.1 c.2.2.1 p){Q:ForInStep H7->SortSt->Prop}
  (h:∀ (d:H7) st',SG st st'->d.1=none->MHJ κ a b d.2.2.2.1 d.2.1 d.2.2.1 p->Q (.yield d) st'/\Q (.done d) st') (hd:∀ (d:H7) x st',SG st st'->d.1=some x->Mgd (LeK κ) a.toList b.toList x.toList->Q (.done d) st') :
  wpS (model prog w) A E s (H2 a b c) Q st:=by
 unfold H2
 split
 ·exact AS_ hO M hk hJ h hd
 ·exact AS_ hO M hk hJ h hd
theorem Bw_ (hO:LtOk kd κ a₀ prog w A E s)(M:MP a₀ κ a b){st:SortSt}(hk:kindOf st=kd){c:H5}{p:Nat}(hJ:MHJ κ a b c.2.2.2.1 c.2.1 c.2.2.1 p){Q:ForInStep H5->SortSt->Prop}
  (h:∀ (d:H5) st',SG st st'->d.1=none->MHJ κ a b d.2.2.2.1 d.2.1 d.2.2.1 (p+1)->Q (.yield d) st') (hd:∀ (d:H5) x st',SG st st'->d.1=some x->Mgd (LeK κ) a.toList b.toList x.toList->Q (.done d) st') :
  wpS (model prog w) A E s (HO a b c) Q st:=by
 have hab:1<=a.size+b.size:=by have:=M.ha;omega
 unfold HO
 refine jw_ (xV_ (qw_ (I:=fun x d st'=>st'=st/\d.1=none/\MHJ κ a b d.2.2.2.1 d.2.1 d.2.2.1 (p+x))
   (Q:=fun d st'=>st'=st/\((d.1=none/\MHJ κ a b d.2.2.2.1 d.2.1 d.2.2.1 (p+1)) \/ ∃ x,d.1=some x/\Mgd (LeK κ) a.toList b.toList x.toList)) ?step ?fin ⟨rfl,rfl,hJ⟩) ?post)
 case step =>
  rintro x d st' _ hx ⟨rfl,h1,h2⟩
  refine Bu_ hO M hk h1 h2 (fun d' g1 g2=>⟨⟨rfl,g1,g2⟩,rfl,.inl ⟨g1,g2.1,g2.2.1,g2.2.2.1,?_⟩⟩) (fun d' x g1 g2=>⟨rfl,.inr ⟨x,g1,g2⟩⟩)
  have:=g2.2.2.2;omega
 case fin =>
  rintro d st' ⟨rfl,h1,h2⟩
  refine⟨rfl,.inl ⟨h1,h2.1,h2.2.1,h2.2.2.1,?_⟩⟩
  have:=h2.2.2.2;omega
 case post =>
  rintro d st' ⟨rfl,hh⟩
  rcases hh with ⟨h1,h2⟩ | ⟨x,h1,h2⟩
  ·rw[h1]
   dsimp only
   refine jw_ (Is ?_)
   refine jw_ (xV_ (qw_ (I:=fun x d st''=>SG st' st''/\d.1=none/\MHJ κ a b d.2.2.2.1 d.2.1 d.2.2.1 (p+1))
    (Q:=fun d st''=>SG st' st''/\((d.1=none/\MHJ κ a b d.2.2.2.1 d.2.1 d.2.2.1 (p+1)) \/ ∃ x,d.1=some x/\Mgd (LeK κ) a.toList b.toList x.toList)) ?step2 ?fin2 ⟨SG.refl _,rfl,h2⟩) ?post2)
   case step2 =>
    rintro x e st'' _ hx ⟨g0,g1,g2⟩
    exact Bv_ hO M (g0.kd.trans hk) g2 (fun d' st3 k0 k1 k2=>⟨⟨g0.trans k0,k1,k2⟩,g0.trans k0,.inl ⟨k1,k2⟩⟩) (fun d' x st3 k0 k1 k2=>⟨g0.trans k0,.inr ⟨x,k1,k2⟩⟩)
   case fin2 =>
    rintro e st'' ⟨g0,g1,g2⟩
    exact⟨g0,.inl ⟨g1,g2⟩⟩
   case post2 =>
    rintro e st'' ⟨g0,hh⟩
    rcases hh with ⟨g1,g2⟩ | ⟨x,g1,g2⟩
    ·rw[g1]
     dsimp only
     refine jw_ (M4 (jE_ ?_))
     exact h (none,e.2.1,e.2.2.1,e.2.2.2.1,e.2.2.2.2.1+1) _ (g0.set _) rfl g2
    ·rw[g1]
     dsimp only
     exact jE_ (hd _ x _ g0 rfl g2)
  ·rw[h1]
   dsimp only
   exact jE_ (hd _ x _ (SG.refl _) rfl h2)
theorem SA {st:SortSt}{Q:Array Keyed->SortSt->Prop}(hO:LtOk kd κ a₀ prog w A E s)(M:MP a₀ κ a b)(hk:kindOf st=kd)
  (h:∀ r st',SG st st'->Mgd (LeK κ) a.toList b.toList r.toList->Q r st'):wpS (model prog w) A E s (J2 a b) Q st:=by
 have ha:=M.ha
 have hb:=M.hb
 rw[OP]
 refine jw_ (Is (jw_ (BR (show a.size-1<a.size by omega) ?_)))
 have hM0:MH κ a b #[] a.size b.size:=⟨jl_ _,jl_ _,by simpa using MI.start _ _⟩
 have hM:MH κ a b #[a[a.size-1]] (a.size-1) b.size:=hM0.pushA M.sA ha (by omega) (fun y hy=>M.hl y (xb_ hy))
 by_cases h1:a.size-1=0
 ·rw[if_pos (by simpa using h1)]
  exact jE_ (h _ _ (SG.refl _) (M.doneH hM (.inl h1)))
 ·rw[if_neg (by simpa using h1)]
  by_cases h2:b.size=1
  ·rw[if_pos (by simpa using h2)]
   exact jE_ (h _ _ (SG.refl _) (M.firstB hM h2))
  ·rw[if_neg (by simpa using h2)]
   refine jw_ (wpS_get ?_)
   refine jw_ (xV_ (qw_ (I:=fun x c st'=>SG st st'/\c.1=none/\MHJ κ a b c.2.2.2.1 c.2.1 c.2.2.1 (1+x))
    (Q:=fun c st'=>SG st st'/\∃ x,c.1=some x/\Mgd (LeK κ) a.toList b.toList x.toList) ?step ?fin ⟨SG.refl _,rfl,show MHJ κ a b #[a[a.size-1]] (a.size-1) b.size (1+0) from ⟨hM,by omega,by omega,by omega⟩⟩) ?post)
   case step =>
    rintro x c st' _ hx ⟨g0,g1,g2⟩
    exact Bw_ hO M (g0.kd.trans hk) g2 (fun d st2 k0 k1 k2=>⟨g0.trans k0,k1,k2⟩) (fun d x st2 k0 k1 k2=>⟨g0.trans k0,x,k1,k2⟩)
   case fin =>
    rintro c st' ⟨g0,g1,g2⟩
    have:=g2.2.1;have:=g2.2.2.1;have:=g2.2.2.2
    omega
   case post =>
    rintro c st' ⟨g0,x,g1,g2⟩
    rw[g1]
    dsimp only
    exact jE_ (h x st' g0 g2)
end
end S64
namespace S64
open PySem PyProof.Rows
section
variable {prog:Program} {w:World} {A:Around} {E:Value->Shared->Prop} {s:Shared} {a₀:Array Keyed} {κ:KeyKind} {kd:SortKind}
structure SQ (kd:SortKind)(a₀:Array Keyed)(lo hi:Nat)(st st':SortSt):Prop where
 b:SB kd a₀ st'
 pe:pendingOf st'=pendingOf st
 out:Out lo hi (arrOf st) (arrOf st')
theorem SQ.refl {lo hi:Nat}{st:SortSt}(h:SB kd a₀ st):SQ kd a₀ lo hi st st:=⟨h,rfl,Out.refl _ _ _⟩
theorem SQ.trans {lo hi:Nat}{st st' st'':SortSt}(h:SQ kd a₀ lo hi st st')(g:SQ kd a₀ lo hi st' st''):SQ kd a₀ lo hi st st'':=⟨g.b,g.pe.trans h.pe,h.out.trans g.out⟩
theorem SQ.mir {lo hi i j:Nat}{st st':SortSt}(h:SQ kd a₀ lo hi st st')(hj:j<=a₀.size)(h1:lo<=i)(h2:j<=hi):SQ kd a₀ lo hi st (setArr st' (mirror (arrOf st') i j ((j-i) / 2))) :=
 ⟨h.b.setArr (mirror_perm _ _ _ _),h.pe,h.out.trans (Mi (by rw[h.b.size];exact hj) h1 h2)⟩
theorem SQ.bub {lo hi k l:Nat}{st st':SortSt}(h:SQ kd a₀ lo hi st st')(hk:k<a₀.size)(h1:lo<=l)(hl:l<=k)(h2:k<hi):SQ kd a₀ lo hi st (setArr st' (bubble (arrOf st') k (k-l))) :=
 ⟨h.b.setArr (bubble_perm _ _ _),h.pe,h.out.trans (Ss (by rw[h.b.size];exact hk) (by omega) (by omega) h2)⟩
theorem RJ {st st₀:SortSt}{lo n nrem:Nat}{Q:Option Nat->SortSt->Prop}(hO:LtOk kd κ a₀ prog w A E s)(hn:lo+nrem<=a₀.size)(h1:1<=n)(hnn:n<=nrem)(hB:SQ kd a₀ lo (lo+nrem) st₀ st)(hs:NI κ (arrOf st) lo (lo+n))
  (h:∀ m st',SQ kd a₀ lo (lo+nrem) st₀ st'->1<=m->m<=nrem->SO κ (arrOf st') lo (lo+m)->Q (some m) st') :
  wpS (model prog w) A E s (Qe lo n nrem) Q st:=Za hO hn h1 hnn hB.b hs (fun m st' g1 g2 g3 g4 g5 g6=>h m st' (hB.trans ⟨g1,g2,g3⟩) g4 g5 g6)
def We (lo n nrem:Nat):StateT SortSt Sem DescSt :=
 forIn [n:nrem] ((none,n,0):DescSt) fun _ c=>do
  let x <- ltAt' (lo+c.2.1) (lo+c.2.1-1)
  match x with
  | some smaller =>
   if smaller=true then
    if c.2.2 > 0 then do
     reverseSlice' (lo+c.2.1-(c.2.2+1)) (lo+c.2.1)
     pure (.yield (none,c.2.1+1,0))
    else pure (.yield (none,c.2.1+1,0))
   else do
    let x <- ltAt' (lo+c.2.1-1) (lo+c.2.1)
    match x with
    | some larger=>if larger=true then pure (.done (none,c.2.1,c.2.2)) else pure (.yield (none,c.2.1+1,c.2.2+1))
    | _=>pure (.done (some none,c.2.1,c.2.2))
  | _=>pure (.done (some none,c.2.1,c.2.2))
def SC (lo n nrem:Nat):StateT SortSt Sem (Option Nat):=do
 liftM (rule "list.sort.descending-run")
 let c <- We lo (n+1) nrem
 match c.1 with
 | some r=>pure r
 | none =>
  if c.2.2 > 0 then do
   reverseSlice' (lo+c.2.1-(c.2.2+1)) (lo+c.2.1)
   Qe lo c.2.1 nrem
  else Qe lo c.2.1 nrem
theorem M5 (lo nrem:Nat):countRun' lo nrem=(do
  let c <- ascL lo 1 nrem
  match c.1 with
  | some r=>pure r
  | none =>
   if (c.2 == nrem)=true then pure (some c.2)
   else if c.2 > 1 then do
    let x <- ltAt' lo (lo+c.2-1)
    match x with
    | some rose=>if rose=true then pure (some c.2) else do
      reverseSlice' lo (lo+c.2)
      SC lo c.2 nrem
    | _=>pure none
   else SC lo c.2 nrem):=by
 have tl:∀ n,(do
   reverseSlice' lo (lo+n)
   let mut n:=n
   for _ in [n:nrem] do
    let some smaller <- ltAt' (lo+n) (lo+n-1) | return none
    if smaller then break
    n:=n+1
   return some n:StateT SortSt Sem (Option Nat))=Qe lo n nrem:=fun n=>by
  unfold Qe ascL
  refine jJ_ (bind _) (funext fun _=>jJ_ (bind _) (funext fun c=>?_))
  obtain⟨r,m⟩:=c
  cases r<;>rfl
 have pl:∀ n,(do
   rule "list.sort.descending-run"
   let mut n:=n
   n:=n+1
   let mut neq:=0
   for _ in [n:nrem] do
    let some smaller <- ltAt' (lo+n) (lo+n-1) | return none
    if smaller then
     if neq > 0 then reverseSlice' (lo+n-(neq+1)) (lo+n)
     neq:=0
    else
     let some larger <- ltAt' (lo+n-1) (lo+n) | return none
     if larger then break
     neq:=neq+1
    n:=n+1
   if neq > 0 then reverseSlice' (lo+n-(neq+1)) (lo+n)
   reverseSlice' lo (lo+n)
   for _ in [n:nrem] do
    let some smaller <- ltAt' (lo+n) (lo+n-1) | return none
    if smaller then break
    n:=n+1
   return some n:StateT SortSt Sem (Option Nat))=SC lo n nrem:=fun n=>by
  unfold SC We
  refine jJ_ (bind _) (funext fun _=>jJ_ (bind _) (funext fun c=>?_))
  obtain⟨r,m,q⟩:=c
  cases r with
  | some r=>rfl
  | none =>
   dsimp only
   by_cases hq:q > 0
   ·rw[if_pos hq,if_pos hq]
    exact jJ_ (bind _) (funext fun _=>tl m)
   ·rw[if_neg hq,if_neg hq]
    exact tl m
 rw[countRun'_eq]
 unfold ascL
 refine jJ_ (bind _) (funext fun c=>?_)
 obtain⟨r,n⟩:=c
 cases r with
 | some r=>rfl
 | none =>
  dsimp only
  refine jJ_ (ite _ _) ?_
  by_cases hn:n > 1
  ·rw[if_pos hn,if_pos hn]
   refine jJ_ (bind _) (funext fun x=>?_)
   cases x with
   | none=>rfl
   | some rose =>
    dsimp only
    refine jJ_ (ite _ _) (jJ_ (bind _) (funext fun _=>pl n))
  ·rw[if_neg hn,if_neg hn]
   exact pl n
theorem Zc {st st₀:SortSt}{lo n nrem:Nat}{Q:DescSt->SortSt->Prop}(hO:LtOk kd κ a₀ prog w A E s)(hn:lo+nrem<=a₀.size)(h1:1<=n)(hnn:n<=nrem)(hB:SQ kd a₀ lo (lo+nrem) st₀ st)(hs:NI κ (arrOf st) lo (lo+n))
  (h:∀ m neq st',SQ kd a₀ lo (lo+nrem) st₀ st'->n<=m->m<=nrem->NI κ (arrOf st') lo (lo+m)->neq+1<=m->(∀ i,lo+m-(neq+1)<=i->i<lo+m->KK κ (arrOf st') i=KK κ (arrOf st') (lo+m-1))->Q (none,m,neq) st') :
  wpS (model prog w) A E s (We lo n nrem) Q st:=by
 unfold We
 refine qw_ (I:=fun x c st'=>∃ neq,c=(none,x,neq)/\SQ kd a₀ lo (lo+nrem) st₀ st'/\NI κ (arrOf st') lo (lo+x)/\neq+1<=x /\
   (∀ i,lo+x-(neq+1)<=i->i<lo+x->KK κ (arrOf st') i=KK κ (arrOf st') (lo+x-1))) ?step ?fin ⟨0,rfl,hB,hs,by omega,fun i h1 h2=>by congr 1;omega⟩
 case fin =>
  rintro c st' ⟨neq,rfl,g1,g2,g3,g4⟩
  rw[show max n nrem=nrem by omega] at g2 g3 g4 ⊢
  exact h nrem neq st' g1 hnn (jl_ _) g2 g3 g4
 case step =>
  rintro x c st' hax hxn ⟨neq,rfl,hQ,hN,hq,he⟩
  dsimp only
  have hsz:lo+x<=(arrOf st').size:=by rw[hQ.b.size];omega
  refine jw_ (Ko hO hQ.b (by omega) (by omega) ?_)
  cases hless:κ.blt (KK κ (arrOf st') (lo+x)) (KK κ (arrOf st') (lo+x-1))
  case true =>
   simp only[xY_]
   have grow:∀ xs:Array Keyed,(∀ k,KK κ xs k=KK κ (arrOf st') k)->NI κ xs lo (lo+(x+1)):=by
    intro xs hk i j hl hij hj
    rw[hk,hk]
    rcases qN_ j (lo+x) with hjx | hjx
    ·exact hN i j hl hij hjx
    ·obtain rfl:j=lo+x:=by omega
     rcases qN_ i (lo+x) with hi' | hi'
     ·exact xa_ (qi_ hless) (hN i (lo+x-1) hl (by omega) (by omega))
     ·obtain rfl:i=lo+x:=by omega
      exact qx_ _
   by_cases hneq:neq > 0
   ·rw[if_pos hneq]
    exact jw_ (GC (jE_ ⟨0,rfl,hQ.mir (by omega) (by omega) (by omega),grow _ (zh_ hsz he),by omega,fun i h1 h2=>by congr 1;omega⟩))
   ·rw[if_neg hneq]
    exact jE_ ⟨0,rfl,hQ,grow _ (fun _=>rfl),by omega,fun i h1 h2=>by congr 1;omega⟩
  case false =>
   simp only[jN_,qP_]
   refine jw_ (Ko hO hQ.b (by omega) (by omega) ?_)
   cases hlarger:κ.blt (KK κ (arrOf st') (lo+x-1)) (KK κ (arrOf st') (lo+x))
   case true =>
    simp only[xY_]
    exact jE_ (h x neq st' hQ hax (by omega) hN hq he)
   case false =>
    simp only[jN_,qP_]
    have same:KK κ (arrOf st') (lo+x)=KK κ (arrOf st') (lo+x-1):=KeyOrd.kle_antisymm hlarger hless
    refine jE_ ⟨neq+1,rfl,hQ,fun i j hl hij hj=>?_,by omega,fun i h1 h2=>?_⟩
    ·rcases qN_ j (lo+x) with hjx | hjx
     ·exact hN i j hl hij hjx
     ·obtain rfl:j=lo+x:=by omega
      rcases qN_ i (lo+x) with hi' | hi'
      ·rw[same];exact hN i (lo+x-1) hl (by omega) (by omega)
      ·obtain rfl:i=lo+x:=by omega
       exact qx_ _
    ·rw[show lo+(x+1)-1=lo+x by omega]
     by_cases hix:i=lo+x
     ·rw[hix]
     ·rw[same];exact he i (by omega) (by omega)
theorem U8 {st st₀:SortSt}{lo n nrem:Nat}{Q:Option Nat->SortSt->Prop}(hO:LtOk kd κ a₀ prog w A E s)(hn:lo+nrem<=a₀.size)(hnn:n+1<=nrem)(hB:SQ kd a₀ lo (lo+nrem) st₀ st)(hs:NI κ (arrOf st) lo (lo+(n+1)))
  (h:∀ m st',SQ kd a₀ lo (lo+nrem) st₀ st'->1<=m->m<=nrem->SO κ (arrOf st') lo (lo+m)->Q (some m) st') :
  wpS (model prog w) A E s (SC lo n nrem) Q st:=by
 unfold SC
 refine jw_ (Is (jw_ (Zc hO hn (by omega) hnn hB hs fun m neq st' g1 g2 g3 g4 g5 g6=>?_)))
 dsimp only
 have hsz:lo+m<=(arrOf st').size:=by rw[g1.b.size];omega
 by_cases hneq:neq > 0
 ·rw[if_pos hneq]
  refine jw_ (GC (RJ hO hn (by omega) g3 (g1.mir (by omega) (by omega) (by omega)) ?_ h))
  intro i j hl hij hj
  show κ.kle (KK κ (mirror (arrOf st') _ _ _) j) (KK κ (mirror (arrOf st') _ _ _) i)
  rw[zh_ hsz g6,zh_ hsz g6]
  exact g4 i j hl hij hj
 ·rw[if_neg hneq]
  exact RJ hO hn (by omega) g3 g1 g4 h
theorem Qh {st:SortSt}{lo nrem:Nat}{Q:Option Nat->SortSt->Prop}(hO:LtOk kd κ a₀ prog w A E s)(hn:lo+nrem<=a₀.size)(h1:1<=nrem)(hB:SB kd a₀ st)
  (h:∀ m st',SQ kd a₀ lo (lo+nrem) st st'->1<=m->m<=nrem->SO κ (arrOf st') lo (lo+m)->Q (some m) st') :
  wpS (model prog w) A E s (countRun' lo nrem) Q st:=by
 have hQ:SQ kd a₀ lo (lo+nrem) st st:=SQ.refl hB
 rw[M5]
 refine jw_ (X2 hO hn (jl_ 1) h1 hB (fun i j hl hij hj=>by (obtain rfl:i=j:=by omega);exact qx_ _) fun n hn1 hn2 hsn hor=>?_)
 dsimp only
 by_cases hnn:n=nrem
 ·rw[if_pos (by simpa using hnn)]
  exact jE_ (h n st hQ hn1 hn2 hsn)
 ·rw[if_neg (by simpa using hnn)]
  have hlt:=hor.resolve_left hnn
  by_cases hgt:n > 1
  ·rw[if_pos hgt]
   refine jw_ (Ko hO hB (by omega) (by omega) ?_)
   cases hrose:κ.blt (KK κ (arrOf st) lo) (KK κ (arrOf st) (lo+n-1))
   case true =>
    simp only[xY_]
    exact jE_ (h n st hQ hn1 hn2 hsn)
   case false =>
    simp only[jN_,qP_]
    have hsz:lo+n<=(arrOf st).size:=by rw[hB.size];omega
    have hall:∀ k,lo<=k->k<lo+n->KK κ (arrOf st) k=KK κ (arrOf st) (lo+n-1):=fun k hk1 hk2 =>
     KeyOrd.kle_antisymm (hsn k (lo+n-1) hk1 (by omega) (by omega)) (xa_ hrose (hsn lo k (jl_ _) hk1 hk2))
    refine jw_ (GC (U8 hO hn (by omega) (hQ.mir (by omega) (jl_ _) (by omega)) ?_ h))
    intro i j hl hij hj
    show κ.kle (KK κ (mirror (arrOf st) _ _ _) j) (KK κ (mirror (arrOf st) _ _ _) i)
    rw[zh_ hsz hall,zh_ hsz hall]
    rcases qN_ j (lo+n) with hjn | hjn
    ·rw[hall i hl (by omega),hall j (by omega) hjn];exact qx_ _
    ·obtain rfl:j=lo+n:=by omega
     rcases qN_ i (lo+n) with hi' | hi'
     ·rw[hall i hl hi'];exact qi_ hlt
     ·obtain rfl:i=lo+n:=by omega
      exact qx_ _
  ·rw[if_neg hgt]
   obtain rfl:n=1:=by omega
   refine U8 hO hn (by omega) hQ ?_ h
   intro i j hl hij hj
   by_cases hi':i=j
   ·subst hi';exact qx_ _
   ·obtain rfl:i=lo:=by omega
    obtain rfl:j=i+1:=by omega
    exact qi_ hlt
theorem M6 {st:SortSt}{lo n ok:Nat}{Q:Bool->SortSt->Prop}(hO:LtOk kd κ a₀ prog w A E s)(hn:lo+n<=a₀.size)(hok:ok<=n)(hB:SB kd a₀ st)(hs:SO κ (arrOf st) lo (lo+ok))
  (h:∀ st',SQ kd a₀ lo (lo+n) st st'->SO κ (arrOf st') lo (lo+n)->Q true st'):wpS (model prog w) A E s (binarySort' lo n ok) Q st:=by
 rw[binarySort'_eq]
 refine jw_ (xV_ (qw_ (I:=fun k c st'=>c=(none,())/\SQ kd a₀ lo (lo+n) st st'/\SO κ (arrOf st') lo (lo+min k n))
  (Q:=fun c st'=>c=(none,())/\SQ kd a₀ lo (lo+n) st st'/\SO κ (arrOf st') lo (lo+n)) ?step ?fin ?init) ?post)
 case post =>
  rintro c st' ⟨rfl,hB',hs'⟩
  exact jE_ (h st' hB' hs')
 case init =>
  refine⟨rfl,SQ.refl hB,fun i j hl hij hj=>?_⟩
  by_cases h1:ok=0
  ·obtain rfl:i=j:=by omega
   exact qx_ _
  ·exact hs i j hl hij (by omega)
 case fin =>
  rintro c st' ⟨hc,hB',hs'⟩
  refine⟨hc,hB',?_⟩
  rwa [show min (max (max ok 1) n) n=n by omega] at hs'
 case step =>
  rintro k c st' hak hkn ⟨rfl,hQ,hs'⟩
  rw[show min k n=k by omega] at hs'
  have hk:lo+k<a₀.size:=by omega
  refine jw_ (xV_ (qw_ (I:=fun x c st''=>st''=st'/\∃ l r,c=(none,l,r)/\l<=r/\r<=k/\r-l<=k-x /\
    (∀ i,lo<=i->i<lo+l->κ.kle (KK κ (arrOf st') i) (KK κ (arrOf st') (lo+k)))/\(∀ i,lo+r<=i->i<lo+k->κ.klt (KK κ (arrOf st') (lo+k)) (KK κ (arrOf st') i)))
   (Q:=fun c st''=>st''=st'/\∃ l r,c=(none,l,r)/\l<=k /\
    (∀ i,lo<=i->i<lo+l->κ.kle (KK κ (arrOf st') i) (KK κ (arrOf st') (lo+k)))/\(∀ i,lo+l<=i->i<lo+k->κ.klt (KK κ (arrOf st') (lo+k)) (KK κ (arrOf st') i))) ?istep ?ifin ?iinit) ?ipost)
  case iinit=>exact⟨rfl,0,k,rfl,by omega,by omega,by omega,fun i h0 hi=>by omega,fun i h1 h2=>by omega⟩
  case ifin =>
   rintro c st'' ⟨rfl,l,r,rfl,hlr,hrk,hm,hlo,hhi⟩
   obtain rfl:l=r:=by omega
   exact⟨rfl,l,l,rfl,hrk,hlo,hhi⟩
  case istep =>
   rintro x c st'' _ hxk ⟨rfl,l,r,rfl,hlr,hrk,hm,hlo,hhi⟩
   dsimp only
   by_cases hge:l >= r
   ·rw[if_pos hge]
    obtain rfl:l=r:=by omega
    exact jE_ ⟨rfl,l,l,rfl,hrk,hlo,hhi⟩
   ·rw[if_neg hge]
    refine jw_ (Ko hO hQ.b hk (by omega) ?_)
    cases hless:κ.blt (KK κ (arrOf st'') (lo+k)) (KK κ (arrOf st'') (lo+(l+r) / 2))
    case true =>
     simp only[xY_]
     refine jE_ ⟨rfl,l,(l+r) / 2,rfl,by omega,by omega,by omega,hlo,fun i h1 h2=>?_⟩
     exact KeyOrd.klt_of_klt_of_kle hless (hs' _ _ (by omega) h1 h2)
    case false =>
     simp only[jN_,qP_]
     refine jE_ ⟨rfl,(l+r) / 2+1,r,rfl,by omega,by omega,by omega,fun i h0 h1=>?_,hhi⟩
     exact xa_ (hs' i (lo+(l+r) / 2) h0 (by omega) (by omega)) hless
  case ipost =>
   rintro c st'' ⟨rfl,l,r,rfl,hlk,hlo,hhi⟩
   show wpS _ _ _ _ (do moveDown' (lo+k) (lo+l);pure (ForInStep.yield (none,()))) _ _
   rw[moveDown'_eq]
   refine jw_ (zG_ (jE_ ⟨rfl,hQ.bub hk (by omega) (by omega) (by omega),?_⟩))
   rw[show min (k+1) n=k+1 by omega]
   have hks:lo+k<(arrOf st'').size:=by rw[hQ.b.size];exact hk
   intro i j hl hij hj
   show κ.kle (KK κ (bubble (arrOf st'') (lo+k) (lo+k-(lo+l))) i) (KK κ (bubble (arrOf st'') (lo+k) (lo+k-(lo+l))) j)
   rw[KK_bubble hks (by omega),KK_bubble hks (by omega),show lo+k-(lo+k-(lo+l))=lo+l by omega]
   repeat' split
   all_goals first
    | (exfalso;omega)
    | exact qx_ _
    | exact hlo _ (by omega) (by omega)
    | exact qi_ (hhi _ (by omega) (by omega))
    | exact hs' _ _ (by omega) (by omega) (by omega)
end
end S64
namespace S64
open PySem PyProof.Rows
def wr (a:Array Keyed)(base:Nat)(r:List Keyed)(n:Nat):Array Keyed:=(r.zipIdx n).foldl (fun a (p,j)=>a.setIfInBounds (base+j) p) a
theorem Qi (i:Nat):mergeAt' i=(do
 let s <- get
 let (some (sa,na,power),some (sb,nb,_)):=((pendingOf s)[i]?,(pendingOf s)[i+1]?) | unsupported "internal:list.sort.pending"
 set (setPending s (((pendingOf s).setIfInBounds i (sa,na+nb,power)).eraseIdxIfInBounds (i+1)))
 let some k <- Dg false ( <- elem' (arrOf s) sb) (arrOf s) sa na 0 | return false
 if na-k == 0 then return true
 let some m <- Dg true ( <- elem' (arrOf s) (sa+k+(na-k)-1)) (arrOf s) sb nb (nb-1) | return false
 if m == 0 then return true
 let merged <- if na-k<=m then JZ ((arrOf s).extract (sa+k) sb) ((arrOf s).extract sb (sb+m)) else J2 ((arrOf s).extract (sa+k) sb) ((arrOf s).extract sb (sb+m))
 modify fun s=>setArr s (wr (arrOf s) (sa+k) merged.toList 0)
 return (failedOf ( <- get)).isNone):=rfl
theorem U9 {base:Nat}:∀ (r:List Keyed) (n:Nat) (a:Array Keyed),base+n+r.length<=a.size->(wr a base r n).toList=a.toList.take (base+n)++r++a.toList.drop (base+n+r.length)
 | [],n,a,h=>by simp[wr]
 | x::r,n,a,h=>by
  have ih:=U9 (base:=base) r (n+1) (a.setIfInBounds (base+n) x) (by simp at h ⊢;omega)
  unfold wr at ih ⊢
  rw[List.zipIdx_cons,qT_]
  simp only at ih ⊢
  simp only[jT_] at h
  have hl:base+n<a.toList.length:=by simp;omega
  rw[ih,Array.toList_setIfInBounds,show base+(n+1)=base+n+1 by omega,List.take_set,List.drop_set_of_lt (by omega),List.take_succ_eq_append_getElem hl,List.set_append_right _ _ (by simp;omega)]
  simp only[jx_,jZ_,jT_]
  rw[show base+n-min (base+n) a.size=0 by omega,zi_,show base+n+1+r.length=base+n+(r.length+1) by omega]
  simp
section
variable {prog:Program} {w:World} {A:Around} {E:Value->Shared->Prop} {s:Shared} {a₀:Array Keyed} {κ:KeyKind} {kd:SortKind}
def seg (a:Array Keyed)(lo hi:Nat):List Keyed:=(a.toList.take hi).drop lo
theorem Qj {a:Array Keyed}{lo hi:Nat}(h:hi<=a.size):(seg a lo hi).length=hi-lo:=by unfold seg;simp;omega
theorem M7 {a:Array Keyed}{lo hi i:Nat}(h:i<(seg a lo hi).length)(hi':lo+i<a.size):(seg a lo hi)[i]=a[lo+i]:=by simp[seg]
theorem Mk {a:Array Keyed}{lo hi:Nat}(h:hi<=a.size):SO κ a lo hi↔(seg a lo hi).Pairwise (LeK κ):=by
 rw[xs_]
 constructor
 ·intro g i j hi hj hij
  have hl:=Qj (lo:=lo) h
  have:=g (lo+i) (lo+j) (by omega) (by omega) (by omega)
  rw[FW (by omega),FW (by omega)] at this
  rw[M7 hi (by omega),M7 hj (by omega)]
  exact this
 ·intro g i j hl hij hj
  rcases qN_ i j with hlt | hge
  ·have hlen:=Qj (lo:=lo) h
   have:=g (i-lo) (j-lo) (by omega) (by omega) (by omega)
   rw[M7 (by omega) (by omega),M7 (by omega) (by omega)] at this
   simp only[show lo+(i-lo)=i by omega,show lo+(j-lo)=j by omega] at this
   rw[FW (by omega),FW (by omega)]
   exact this
  ·obtain rfl:i=j:=by omega
   exact qx_ _
theorem Ha {a:Array Keyed}{lo hi:Nat}{x:Keyed}(h:x∈seg a lo hi):∃ j,∃ hj:j<a.size,lo<=j/\j<hi/\x=a[j]:=U7 h
theorem Iu (a:Array Keyed){l m h:Nat}(h1:l<=m)(h2:m<=h):seg a l h=seg a l m++seg a m h:=by
 unfold seg
 have e:a.toList.take h=a.toList.take m++(a.toList.take h).drop m:=by
  have:=q4_ m (a.toList.take h)
  rw[List.take_take,show min m h=m by omega] at this
  exact this.symm
 rw[e]
 rcases Nat.le_total m a.toList.length with hm | hm
 ·rw[List.drop_append_of_le_length (by rw[jx_];omega)]
  congr 1
  rw[<- e]
 ·rw[show (a.toList.take h).drop m=[] from qr_ (by rw[jx_];omega)]
  simp only[qS_]
  rw[show List.drop m (a.toList.take m)=[] from qr_ (by rw[jx_];omega),qS_]
theorem Qk {a:Array Keyed}{lo hi i j:Nat}(h:SO κ a lo hi)(h1:lo<=i)(h2:i<=j)(h3:j<hi)(hi':i<a.size)(hj:j<a.size):LeK κ a[i] a[j]:=by
 have:=h i j h1 h2 h3
 rw[FW hi',FW hj] at this
 exact this
theorem J4 {xs ys:Array Keyed}{lo hi:Nat}(e:∀ i,lo<=i->i<hi->ys[i]?=xs[i]?)(h:SO κ xs lo hi):SO κ ys lo hi:=fun i j h1 h2 h3=>by
 rw[KK_congr (e i h1 (by omega)),KK_congr (e j (by omega) h3)];exact h i j h1 h2 h3
theorem Wg {a:Array Keyed}{l e:Nat}{r:List Keyed}(hle:l<=e)(he:e<=a.size)(hp:r.Perm (seg a l e)) :
  (wr a l r 0).Perm a/\Out l e a (wr a l r 0)/\seg (wr a l r 0) l e=r:=by
 have hl:r.length=e-l:=by rw[hp.length_eq,Qj he]
 have hw:=U9 (base:=l) r 0 a (by omega)
 rw[Nat.add_zero,show l+r.length=e by omega] at hw
 have h0:a.toList=a.toList.take l++seg a l e++a.toList.drop e:=by
  have h1:=q4_ e a.toList
  have h2:=q4_ l (a.toList.take e)
  rw[List.take_take,show min l e=l by omega] at h2
  rw[show seg a l e=(a.toList.take e).drop l from rfl,h2,h1]
 have hlt:(a.toList.take l).length=l:=by simp;omega
 refine⟨?_,fun i hi=>?_,?_⟩
 ·rw[xX_,hw]
  conv=>rhs;rw[h0]
  exact List.Perm.append_right _ (List.Perm.append_left _ hp)
 ·rw[<- xo_,<- xo_,hw]
  rcases hi with hi | hi
  ·rw[qA_,jk_ (by omega),xA_ hi]
  ·rw[jt_ (by rw[jq_];omega),jq_,hlt,List.getElem?_drop]
   congr 1;omega
 ·unfold seg
  rw[hw,qA_,<- qA_,List.take_append_of_le_length (by rw[jq_];omega),jX_ (by rw[jq_];omega),List.drop_append_of_le_length (by omega),qr_ (by omega),xP_]
theorem F9 (a:Array Keyed)(i j:Nat):(a.extract i j).toList=seg a i j:=by rw[GD,seg,List.drop_take]
theorem AT_ {st st':SortSt}{Q:PUnit->SortSt->Prop}(h:Q ⟨⟩ st'):wpS (model prog w) A E s (set st':StateT SortSt Sem PUnit) Q st:=zG_ (f:=fun _=>st') h
theorem SD {st:SortSt}{i sa na pw sb nb q:Nat}{Q:Bool->SortSt->Prop}(hO:LtOk kd κ a₀ prog w A E s)(hB:SB kd a₀ st)(e1:(pendingOf st)[i]?=some (sa,na,pw))(e2:(pendingOf st)[i+1]?=some (sb,nb,q))(hsb:sb=sa+na)(hna:1<=na)(hnb:1<=nb)(hz:sb+nb<=a₀.size)
  (s1:SO κ (arrOf st) sa sb) (s2:SO κ (arrOf st) sb (sb+nb))
  (h:∀ st',SB kd a₀ st'->pendingOf st'=((pendingOf st).setIfInBounds i (sa,na+nb,pw)).eraseIdxIfInBounds (i+1)->Out sa (sb+nb) (arrOf st) (arrOf st')->SO κ (arrOf st') sa (sb+nb)->Q true st') :
  wpS (model prog w) A E s (mergeAt' i) Q st:=by
 have hsz:=hB.size
 rw[Qi]
 refine jw_ (wpS_get ?_)
 rw[e1,e2]
 dsimp only
 refine jw_ (AT_ ?_)
 have hB':SB kd a₀ (setPending st (((pendingOf st).setIfInBounds i (sa,na+nb,pw)).eraseIdxIfInBounds (i+1))):=⟨hB.perm,hB.kind,hB.failed⟩
 have hmem:∀ x∈(arrOf st).toList,x∈a₀.toList:=fun x hx=>hB.mem hx
 refine jw_ (BR (show sb<(arrOf st).size by omega) (jw_ (MZ hO hB'.kind (hmem _ (by simp)) hmem (fun i j hi hj g1 g2 g3=>Qk s1 g1 g2 (by omega) hi hj) (by omega) (by omega) (fun k hkn g1 g2=>?_))))
 dsimp only
 by_cases hk0:na-k=0
 ·rw[if_pos (by simpa using hk0)]
  refine jE_ (h _ hB' rfl (Out.refl _ _ _) ?_)
  intro i j hl hij hj
  show κ.kle (KK κ (arrOf st) i) (KK κ (arrOf st) j)
  rcases qN_ j sb with c | c
  ·exact s1 i j hl hij c
  ·rcases qN_ i sb with c2 | c2
   ·have a1:=g1 (i-sa) (by omega) (by omega)
    simp only[show sa+(i-sa)=i by omega] at a1
    have a2:=s2 sb j (jl_ _) c hj
    rw[FW (show sb<(arrOf st).size by omega)] at a2
    rw[FW (show i<(arrOf st).size by omega)]
    exact xa_ a1 a2
   ·exact s2 i j c2 hij hj
 ·rw[if_neg (by simpa using hk0)]
  have el:sa+k+(na-k)-1=sb-1:=by omega
  rw[el]
  refine jw_ (BR (show sb-1<(arrOf st).size by omega) (jw_ (M0 hO hB'.kind (hmem _ (by simp)) hmem (fun i j hi hj g1 g2 g3=>Qk s2 g1 g2 (by omega) hi hj) (by omega) (by omega) (fun m hmn g3 g4=>?_))))
  dsimp only
  by_cases hm0:m=0
  ·rw[if_pos (by simpa using hm0)]
   refine jE_ (h _ hB' rfl (Out.refl _ _ _) ?_)
   intro i j hl hij hj
   show κ.kle (KK κ (arrOf st) i) (KK κ (arrOf st) j)
   rcases qN_ j sb with c | c
   ·exact s1 i j hl hij c
   ·rcases qN_ i sb with c2 | c2
    ·have a1:=g4 (j-sb) (by omega) (by omega) (by omega)
     simp only[show sb+(j-sb)=j by omega] at a1
     have a2:=s1 i (sb-1) hl (by omega) (by omega)
     rw[FW (show sb-1<(arrOf st).size by omega)] at a2
     rw[FW (show j<(arrOf st).size by omega)]
     exact xa_ a2 a1
    ·exact s2 i j c2 hij hj
  ·rw[if_neg (by simpa using hm0)]
   have z1:((arrOf st).extract (sa+k) sb).size=sb-(sa+k):=by simp;omega
   have z2:((arrOf st).extract sb (sb+m)).size=m:=by simp;omega
   have hM:MP a₀ κ ((arrOf st).extract (sa+k) sb) ((arrOf st).extract sb (sb+m)):=by
    refine {hA:=fun x hx=>?_,hB:=fun x hx=>?_,sA:=?_,sB:=?_,ha:=by omega,hb:=by omega,hf:=fun y hy=>?_,hl:=fun x hx=>?_}
    ·rw[F9] at hx;obtain⟨j,hj,_,_,rfl⟩:=Ha hx;exact hmem _ (by simp)
    ·rw[F9] at hx;obtain⟨j,hj,_,_,rfl⟩:=Ha hx;exact hmem _ (by simp)
    ·rw[F9];exact (Mk (by omega)).mp (fun i j c1 c2 c3=>s1 i j (by omega) c2 c3)
    ·rw[F9];exact (Mk (by omega)).mp (fun i j c1 c2 c3=>s2 i j c1 c2 (by omega))
    ·rw[F9] at hy;obtain⟨j,hj,c1,c2,rfl⟩:=Ha hy
     have a1:=g2 (j-sa) (by omega) (by omega) (by omega)
     simp only[show sa+(j-sa)=j by omega] at a1
     simp only[Array.getElem_extract,Nat.add_zero]
     exact qi_ a1
    ·rw[F9] at hx;obtain⟨j,hj,c1,c2,rfl⟩:=Ha hx
     have a1:=g3 (j-sb) (by omega) (by omega)
     simp only[show sb+(j-sb)=j by omega] at a1
     simp only[Array.getElem_extract,z1,show sa+k+(sb-(sa+k)-1)=sb-1 by omega]
     exact qi_ a1
   have hend:∀ (r:Array Keyed) (st':SortSt),SG (setPending st (((pendingOf st).setIfInBounds i (sa,na+nb,pw)).eraseIdxIfInBounds (i+1))) st'->Mgd (LeK κ) ((arrOf st).extract (sa+k) sb).toList ((arrOf st).extract sb (sb+m)).toList r.toList ->
     wpS (model prog w) A E s (do
      modify fun s=>setArr s (wr (arrOf s) (sa+k) r.toList 0)
      return (failedOf ( <- get)).isNone:StateT SortSt Sem Bool) Q st':=by
    intro r st' hG hR
    refine jw_ (zG_ (jw_ (wpS_get (jE_ ?_))))
    have ea:arrOf st'=arrOf st:=hG.arr
    have hf:failedOf (setArr st' (wr (arrOf st') (sa+k) r.toList 0))=none:=hG.fa.trans hB.failed
    rw[hf]
    rw[F9,F9] at hR
    have hp:r.toList.Perm (seg (arrOf st) (sa+k) (sb+m)):=by rw[Iu _ (show sa+k<=sb by omega) (show sb<=sb+m by omega)];exact hR.1
    obtain⟨w1,w2,w3⟩:=Wg (by omega) (by omega) hp
    have hsz2:(wr (arrOf st) (sa+k) r.toList 0).size=(arrOf st).size:=w1.size_eq
    have earr:arrOf (setArr st' (wr (arrOf st') (sa+k) r.toList 0))=wr (arrOf st) (sa+k) r.toList 0:=by rw[<- ea]
    refine h _ ⟨?_,hG.kd.trans hB.kind,hf⟩ hG.pe ?_ ?_
    ·rw[earr];exact w1.trans hB.perm
    ·rw[earr];exact fun i hi=>w2 i (by omega)
    ·rw[earr,Mk (by omega),Iu _ (show sa<=sa+k by omega) (show sa+k<=sb+nb by omega),Iu _ (show sa+k<=sb+m by omega) (show sb+m<=sb+nb by omega),w3]
     have f1:∀ x∈seg (wr (arrOf st) (sa+k) r.toList 0) sa (sa+k),∃ j,∃ hj:j<(arrOf st).size,sa<=j/\j<sa+k/\x=(arrOf st)[j]:=fun x hx=>by
      obtain⟨j,hj,c1,c2,rfl⟩:=Ha hx
      refine⟨j,by omega,c1,c2,?_⟩
      have:=w2 j (by omega)
      rw[qq_ hj,qq_ (show j<(arrOf st).size by omega)] at this
      exact js_ this
     have f3:∀ x∈seg (wr (arrOf st) (sa+k) r.toList 0) (sb+m) (sb+nb),∃ j,∃ hj:j<(arrOf st).size,sb+m<=j/\j<sb+nb/\x=(arrOf st)[j]:=fun x hx=>by
      obtain⟨j,hj,c1,c2,rfl⟩:=Ha hx
      refine⟨j,by omega,c1,c2,?_⟩
      have:=w2 j (by omega)
      rw[qq_ hj,qq_ (show j<(arrOf st).size by omega)] at this
      exact js_ this
     have f2:∀ x∈r.toList,∃ j,∃ hj:j<(arrOf st).size,sa+k<=j/\j<sb+m/\x=(arrOf st)[j]:=fun x hx=>by
      obtain⟨j,hj,c1,c2,rfl⟩:=Ha (hp.mem_iff.mp hx)
      exact⟨j,hj,c1,c2,rfl⟩
     have low:∀ j (hj:j<(arrOf st).size),sa<=j->j<sa+k->LeK κ (arrOf st)[j] ((arrOf st)[sb]'(by omega)):=fun j hj c1 c2=>by
      have a1:=g1 (j-sa) (by omega) (by omega)
      simp only[show sa+(j-sa)=j by omega] at a1
      exact a1
     have high:∀ j (hj:j<(arrOf st).size),sb+m<=j->j<sb+nb->LeK κ ((arrOf st)[sb-1]'(by omega)) (arrOf st)[j]:=fun j hj c1 c2=>by
      have a1:=g4 (j-sb) (by omega) (by omega) (by omega)
      simp only[show sb+(j-sb)=j by omega] at a1
      exact a1
     refine qV_.mpr ⟨?_,qV_.mpr ⟨hR.2,?_,fun x hx y hy=>?_⟩,fun x hx y hy=>?_⟩
     ·exact (Mk (by omega)).mp (J4 (fun i c1 c2=>w2 i (by omega)) (fun i j c1 c2 c3=>s1 i j c1 c2 (by omega)))
     ·exact (Mk (by omega)).mp (J4 (fun i c1 c2=>w2 i (by omega)) (fun i j c1 c2 c3=>s2 i j (by omega) c2 (by omega)))
     ·obtain⟨j,hj,c1,c2,rfl⟩:=f2 x hx
      obtain⟨l,hl,d1,d2,rfl⟩:=f3 y hy
      rcases qN_ j sb with c | c
      ·exact LeK.trans (Qk s1 (by omega) (by omega) (by omega) hj (by omega)) (high l hl d1 d2)
      ·exact Qk s2 c (by omega) d2 hj hl
     ·obtain⟨j,hj,c1,c2,rfl⟩:=f1 x hx
      rcases jB_.mp hy with hy | hy
      ·obtain⟨l,hl,d1,d2,rfl⟩:=f2 y hy
       rcases qN_ l sb with c | c
       ·exact Qk s1 c1 (by omega) c hj hl
       ·exact LeK.trans (low j hj c1 c2) (Qk s2 (jl_ _) c (by omega) (by omega) hl)
      ·obtain⟨l,hl,d1,d2,rfl⟩:=f3 y hy
       exact LeK.trans (low j hj c1 c2) (Qk s2 (jl_ _) (by omega) d2 (by omega) hl)
   by_cases hc:na-k<=m
   ·rw[if_pos hc]
    exact jw_ (Sz hO hM hB'.kind hend)
   ·rw[if_neg hc]
    exact jw_ (SA hO hM hB'.kind hend)
end
end S64
namespace S64
open PySem PyProof.Rows
abbrev Rn:=Nat×Nat×Nat
def JP (lo n:Nat):StateT SortSt Sem (ForInStep (Option Unit×Nat)):=do
 modify fun s=>setPending s ((pendingOf s).push (lo,n,0))
 pure (.yield (none,lo+n))
def JM (pw:Nat):StateT SortSt Sem (ForInStep (Option Unit×Unit)):=do
 let g <- get
 match if (pendingOf g).size > 1 then (pendingOf g)[(pendingOf g).size-2]? else none with
 | some (_,_,older)=>if older<=pw then pure (.done (none,())) else do
   let b <- mergeAt' ((pendingOf g).size-2)
   if (!b)=true then pure (.done (some (),())) else pure (.yield (none,()))
 | _=>pure (.done (none,()))
def JB (size lo n:Nat):StateT SortSt Sem (ForInStep (Option Unit×Nat)):=do
 let g <- get
 match (pendingOf g).back? with
 | some (s1,n1,_)=>do
  let c <- forIn [0:size] ((none,()):Option Unit×Unit) fun _ _=>JM (power' size (2*s1+n1) (2*s1+n1+n1+n) size)
  match c.1 with
  | some r=>pure (.done (some r,lo))
  | none=>do
   modify fun s=>setPending s ((pendingOf s).modify ((pendingOf s).size-1) fun (st,len,_)=>(st,len,power' size (2*s1+n1) (2*s1+n1+n1+n) size))
   JP lo n
 | _=>JP lo n
def RN (size minrun lo n:Nat):StateT SortSt Sem (ForInStep (Option Unit×Nat)) :=
 if n<minrun then (do
  liftM (rule "list.sort.binary-insertion")
  let b <- binarySort' lo (min (size-lo) minrun) n
  if (!b)=true then pure (.done (some (),lo)) else JB size lo (min (size-lo) minrun))
 else JB size lo n
def RB (size minrun:Nat)(c:Option Unit×Nat):StateT SortSt Sem (ForInStep (Option Unit×Nat)) :=
 if c.2 >= size then pure (.done (none,c.2)) else do
  let x <- countRun' c.2 (size-c.2)
  match x with
  | some n=>RN size minrun c.2 n
  | _=>pure (.done (some (),c.2))
def FI (p:Array Rn):Nat:=if Option.any (fun x=>decide (x<p[p.size-2+1]?.elim 0 fun x=>x.snd.fst)) (if p.size-2 > 0 then Option.map (fun x=>x.snd.fst) p[p.size-2-1]? else none)=true then p.size-2-1 else p.size-2
def FB:StateT SortSt Sem (ForInStep (Option Unit×Unit)):=do
 let g <- get
 if (pendingOf g).size<=1 then pure (.done (none,()))
 else do
  let b <- mergeAt' (FI (pendingOf g))
  if (!b)=true then pure (.done (some (),())) else pure (.yield (none,()))
theorem M8:sortRuns'=(do
 let g <- get
 let c <- forIn [0:(arrOf g).size] ((none,0):Option Unit×Nat) fun _ c=>RB (arrOf g).size (minRun' (arrOf g).size (arrOf g).size 0) c
 match c.1 with
 | some r=>pure r
 | none=>do
  let c <- forIn [0:(arrOf g).size] ((none,()):Option Unit×Unit) fun _ _=>FB
  match c.1 with
  | some r=>pure r
  | none=>pure ()):=by
 rw[sortRuns'_eq]
 refine jJ_ (bind _) (funext fun g=>?_)
 refine congr (jJ_ bind (jJ_ (forIn _ _) (funext fun _=>funext fun c=>?_))) (funext fun c=>?_)
 ·unfold RB
  refine jJ_ (ite _ _) (jJ_ (bind _) (funext fun x=>?_))
  cases x with
  | none=>rfl
  | some n =>
   dsimp only
   unfold RN
   by_cases hn:n<minRun' (arrOf g).size (arrOf g).size 0
   ·rw[if_pos hn,if_pos hn]
    refine jJ_ (bind _) (funext fun _=>jJ_ (bind _) (funext fun b=>jJ_ (ite _ _) ?_))
    unfold JB
    refine jJ_ (bind _) (funext fun g'=>?_)
    try dsimp only
    rcases (pendingOf g').back? with _ | ⟨s1,n1,q⟩
    ·rfl
    ·try dsimp only
     refine congr (jJ_ bind (jJ_ (forIn _ _) (funext fun _=>funext fun _=>?_))) (funext fun c=>?_)
     ·unfold JM
      refine jJ_ (bind _) (funext fun g2=>?_)
      try dsimp only
      rcases (if (pendingOf g2).size > 1 then (pendingOf g2)[(pendingOf g2).size-2]? else none) with _ | ⟨a,b,c⟩
      ·rfl
      ·rfl
     ·obtain⟨r,u⟩:=c
      cases r<;>rfl
   ·rw[if_neg hn,if_neg hn]
    unfold JB
    refine jJ_ (bind _) (funext fun g'=>?_)
    try dsimp only
    rcases (pendingOf g').back? with _ | ⟨s1,n1,q⟩
    ·rfl
    ·try dsimp only
     refine congr (jJ_ bind (jJ_ (forIn _ _) (funext fun _=>funext fun _=>?_))) (funext fun c=>?_)
     ·unfold JM
      refine jJ_ (bind _) (funext fun g2=>?_)
      try dsimp only
      rcases (if (pendingOf g2).size > 1 then (pendingOf g2)[(pendingOf g2).size-2]? else none) with _ | ⟨a,b,c⟩
      ·rfl
      ·rfl
     ·obtain⟨r,u⟩:=c
      cases r<;>rfl
 ·obtain⟨r,lo⟩:=c
  cases r with
  | some r=>rfl
  | none =>
   dsimp only
   refine congr (jJ_ bind (jJ_ (forIn _ _) (funext fun _=>funext fun c=>?_))) (funext fun c=>?_)
   ·rfl
   ·obtain⟨r,u⟩:=c
    cases r<;>rfl
section
variable {prog:Program} {w:World} {A:Around} {E:Value->Shared->Prop} {s:Shared} {a₀:Array Keyed} {κ:KeyKind} {kd:SortKind}
def Ch (κ:KeyKind)(xs:Array Keyed):List Rn->Nat->Nat->Prop
 | [],a,b=>a=b
 | p::r,a,b=>p.1=a/\1<=p.2.1/\SO κ xs a (a+p.2.1)/\Ch κ xs r (a+p.2.1) b
theorem Ch.le {xs:Array Keyed}:∀ {l:List Rn} {a b:Nat},Ch κ xs l a b->a+l.length<=b
 | [],a,b,h=>Nat.le_of_eq h
 | p::r,a,b,h=>by have:=Ch.le h.2.2.2;have:=h.2.1;simp only[jT_];omega
theorem Ch.append {xs:Array Keyed}:∀ {l l':List Rn} {a b:Nat},Ch κ xs (l++l') a b ↔ ∃ c,Ch κ xs l a c/\Ch κ xs l' c b
 | [],l',a,b=>⟨fun h=>⟨a,rfl,h⟩,fun ⟨c,e,h⟩=>by cases e;exact h⟩
 | p::r,l',a,b=>⟨fun ⟨h1,h2,h3,h4⟩=>by obtain⟨c,g1,g2⟩:=Ch.append.mp h4;exact⟨c,⟨h1,h2,h3,g1⟩,g2⟩,fun ⟨c,⟨h1,h2,h3,h4⟩,h5⟩=>⟨h1,h2,h3,Ch.append.mpr ⟨c,h4,h5⟩⟩⟩
theorem Ch.congr {xs ys:Array Keyed}:∀ {l:List Rn} {a b:Nat},(∀ i,a<=i->i<b->ys[i]?=xs[i]?)->Ch κ xs l a b->Ch κ ys l a b
 | [],a,b,_,h=>h
 | p::r,a,b,e,⟨h1,h2,h3,h4⟩=>⟨h1,h2,J4 (fun i g1 g2=>e i g1 (by have:=h4.le;omega)) h3,h4.congr (fun i g1 g2=>e i (by omega) g2)⟩
theorem Ch.same {xs:Array Keyed}:∀ {l l':List Rn} {a b:Nat},l.map (fun p=>(p.1,p.2.1))=l'.map (fun p=>(p.1,p.2.1))->Ch κ xs l a b->Ch κ xs l' a b
 | [],[],_,_,_,h=>h
 | [],_::_,_,_,e,_=>by cases e
 | _::_,[],_,_,e,_=>by cases e
 | p::r,p'::r',a,b,e,⟨h1,h2,h3,h4⟩=>by
  simp only[jV_,xG_,Prod.mk.injEq] at e
  obtain⟨⟨e1,e2⟩,e3⟩:=e
  refine⟨e1 ▸ h1,e2 ▸ h2,e2 ▸ h3,?_⟩
  rw[<- e2]
  exact h4.same e3
theorem OQ {st:SortSt}{i m:Nat}{Q:Bool->SortSt->Prop}(hO:LtOk kd κ a₀ prog w A E s)(hB:SB kd a₀ st)(hC:Ch κ (arrOf st) (pendingOf st).toList 0 m)(hm:m<=a₀.size)(hi:i+1<(pendingOf st).size)
  (h:∀ st',SB kd a₀ st'->Ch κ (arrOf st') (pendingOf st').toList 0 m->(pendingOf st').size+1=(pendingOf st).size->Out 0 m (arrOf st) (arrOf st')->Q true st') :
  wpS (model prog w) A E s (mergeAt' i) Q st:=by
 have hl:(pendingOf st).toList.length=(pendingOf st).size:=jZ_
 have e0:(pendingOf st).toList=(pendingOf st).toList.take i++(pendingOf st)[i]::(pendingOf st)[i+1]::(pendingOf st).toList.drop (i+2):=by
  have h1:=(q4_ i (pendingOf st).toList).symm
  rw[q0_ (by omega),q0_ (by omega)] at h1
  exact h1
 obtain⟨l1,hl1⟩:∃ l,l=(pendingOf st).toList.take i:=⟨_,rfl⟩
 obtain⟨l2,hl2⟩:∃ l,l=(pendingOf st).toList.drop (i+2):=⟨_,rfl⟩
 obtain⟨⟨sa,na,pw⟩,hx⟩:∃ p,p=(pendingOf st)[i]:=⟨_,rfl⟩
 obtain⟨⟨sb,nb,q⟩,hy⟩:∃ p,p=(pendingOf st)[i+1]:=⟨_,rfl⟩
 rw[<- hl1,<- hl2,<- hx,<- hy] at e0
 have hln:l1.length=i:=by rw[hl1,jx_];omega
 rw[e0] at hC
 obtain⟨c,c1,c2,c3,c4,c5,c6,c7,c8⟩:=Ch.append.mp hC
 dsimp only at c2 c3 c4 c5 c6 c7 c8
 subst c2
 subst c5
 have hle:=c8.le
 have hle1:=c1.le
 refine SD hO hB (by rw[hx];exact qq_ (by omega)) (by rw[hy];exact qq_ hi) rfl c3 c6 (by omega) c4 c7 (fun st' g1 g2 g3 g4=>?_)
 have e1:(pendingOf st').toList=l1++(sa,na+nb,pw)::l2:=by
  rw[g2,Array.toList_eraseIdxIfInBounds,Array.toList_setIfInBounds,e0,List.set_append_right _ _ (by omega),hln,q2_,zi_,List.eraseIdx_append_of_length_le (by omega),hln,show i+1-i=1 by omega]
  rfl
 refine h st' g1 ?_ ?_ (fun i hi=>g3 i (by omega))
 ·rw[e1]
  refine Ch.append.mpr ⟨sa,c1.congr (fun i _ h2=>g3 i (by omega)),rfl,?_,?_,?_⟩
  ·show 1<=na+nb
   omega
  ·rw[show sa+(na+nb)=sa+na+nb by omega];exact g4
  ·show Ch κ (arrOf st') l2 (sa+(na+nb)) m
   rw[show sa+(na+nb)=sa+na+nb by omega]
   exact c8.congr (fun i h1 _=>g3 i (by omega))
 ·have l1':(pendingOf st').toList.length=(l1++(sa,na+nb,pw)::l2).length:=by rw[e1]
  have l2':(pendingOf st).toList.length=(l1++(sa,na,pw)::(sa+na,nb,q)::l2).length:=by rw[e0]
  simp only[jq_,jT_,jZ_] at l1' l2'
  omega
theorem AU_ {st:SortSt}{lo n:Nat}{Q:ForInStep (Option Unit×Nat)->SortSt->Prop}(hB:SB kd a₀ st)(hC:Ch κ (arrOf st) (pendingOf st).toList 0 lo)(hn:1<=n)(hs:SO κ (arrOf st) lo (lo+n))
  (h:∀ st',SB kd a₀ st'->Ch κ (arrOf st') (pendingOf st').toList 0 (lo+n)->Q (.yield (none,lo+n)) st'):wpS (model prog w) A E s (JP lo n) Q st:=by
 unfold JP
 refine jw_ (zG_ (jE_ (h _ ⟨hB.perm,hB.kind,hB.failed⟩ ?_)))
 show Ch κ (arrOf st) ((pendingOf st).push (lo,n,0)).toList 0 (lo+n)
 rw[z0_]
 exact Ch.append.mpr ⟨lo,hC,rfl,hn,hs,rfl⟩
theorem AV_ {st:SortSt}{lo n:Nat}{Q:ForInStep (Option Unit×Nat)->SortSt->Prop}(hO:LtOk kd κ a₀ prog w A E s)(hB:SB kd a₀ st)(hC:Ch κ (arrOf st) (pendingOf st).toList 0 lo)(hn:1<=n)(hz:lo+n<=a₀.size)(hs:SO κ (arrOf st) lo (lo+n))
  (h:∀ st',SB kd a₀ st'->Ch κ (arrOf st') (pendingOf st').toList 0 (lo+n)->Q (.yield (none,lo+n)) st'):wpS (model prog w) A E s (JB a₀.size lo n) Q st:=by
 unfold JB
 refine jw_ (wpS_get ?_)
 rcases (pendingOf st).back? with _ | ⟨s1,n1,q⟩
 ·exact AU_ hB hC hn hs h
 ·dsimp only
  generalize power' a₀.size (2*s1+n1) (2*s1+n1+n1+n) a₀.size=pw
  refine jw_ (xV_ (qw_ (I:=fun _ c st'=>c=(none,())/\SB kd a₀ st'/\Ch κ (arrOf st') (pendingOf st').toList 0 lo/\Out 0 lo (arrOf st) (arrOf st'))
   (Q:=fun c st'=>c=(none,())/\SB kd a₀ st'/\Ch κ (arrOf st') (pendingOf st').toList 0 lo/\Out 0 lo (arrOf st) (arrOf st')) ?step (fun _ _ hh=>hh) ⟨rfl,hB,hC,Out.refl _ _ _⟩) ?post)
  case step =>
   rintro x c st' _ _ ⟨rfl,g1,g2,g3⟩
   unfold JM
   refine jw_ (wpS_get ?_)
   rcases hh:(if (pendingOf st').size > 1 then (pendingOf st')[(pendingOf st').size-2]? else none) with _ | ⟨a,b,older⟩
   ·exact jE_ ⟨rfl,g1,g2,g3⟩
   ·dsimp only
    have hgt:(pendingOf st').size > 1:=by
     by_cases hq:(pendingOf st').size > 1
     ·exact hq
     ·rw[if_neg hq] at hh;cases hh
    split
    ·exact jE_ ⟨rfl,g1,g2,g3⟩
    ·refine jw_ (OQ hO g1 g2 (by omega) (by omega) (fun st2 k1 k2 k3 k4=>?_))
     rw[if_neg (by simp)]
     exact jE_ ⟨rfl,k1,k2,g3.trans k4⟩
  case post =>
   rintro c st' ⟨rfl,g1,g2,g3⟩
   dsimp only
   refine jw_ (zG_ ?_)
   refine AU_ ⟨g1.perm,g1.kind,g1.failed⟩ ?_ hn ?_ h
   ·refine Ch.same ?_ g2
    show _=((pendingOf st').modify _ _).toList.map _
    rw[Array.toList_modify]
    apply qc_
    intro i
    rw[je_,je_,List.getElem?_modify]
    by_cases hi:(pendingOf st').size-1=i
    ·simp only[if_pos hi];cases (pendingOf st').toList[i]?<;>rfl
    ·simp only[if_neg hi];cases (pendingOf st').toList[i]?<;>rfl
   ·exact J4 (fun i h1 h2=>g3 i (by omega)) hs
theorem Ql {st:SortSt}{Q:Unit->SortSt->Prop}(hO:LtOk kd κ a₀ prog w A E s)(hB:SB kd a₀ st)(hp:pendingOf st = #[])
  (h:∀ st',SB kd a₀ st'->SO κ (arrOf st') 0 a₀.size->Q () st'):wpS (model prog w) A E s sortRuns' Q st:=by
 rw[M8]
 refine jw_ (wpS_get ?_)
 rw[hB.size]
 generalize minRun' a₀.size a₀.size 0=mr
 refine jw_ (xV_ (qw_ (I:=fun x c st'=>SB kd a₀ st'/\∃ lo,c=(none,lo)/\lo<=a₀.size/\(x<=lo\/a₀.size<=lo)/\Ch κ (arrOf st') (pendingOf st').toList 0 lo)
  (Q:=fun c st'=>SB kd a₀ st'/\c=(none,a₀.size)/\Ch κ (arrOf st') (pendingOf st').toList 0 a₀.size) ?step ?fin ⟨hB,0,rfl,by omega,by omega,by rw[hp];rfl⟩) ?post)
 case fin =>
  rintro c st' ⟨g1,lo,rfl,g2,g3,g4⟩
  obtain rfl:lo=a₀.size:=by omega
  exact⟨g1,rfl,g4⟩
 case step =>
  rintro x c st' _ hx ⟨g1,lo,rfl,g2,g3,g4⟩
  unfold RB
  dsimp only
  by_cases hge:lo >= a₀.size
  ·rw[if_pos hge]
   obtain rfl:lo=a₀.size:=by omega
   exact jE_ ⟨g1,rfl,g4⟩
  ·rw[if_neg hge]
   have hfin:∀ n,1<=n->lo+n<=a₀.size->∀ st2,SB kd a₀ st2->Ch κ (arrOf st2) (pendingOf st2).toList 0 (lo+n)->SB kd a₀ st2/\∃ lo',((none,lo+n):Option Unit×Nat)=(none,lo')/\lo'<=a₀.size/\(x+1<=lo'\/a₀.size<=lo')/\Ch κ (arrOf st2) (pendingOf st2).toList 0 lo' :=
    fun n h1 h2 st2 k1 k2=>⟨k1,lo+n,rfl,h2,by omega,k2⟩
   refine jw_ (Qh hO (by omega) (by omega) g1 (fun m st2 k1 k2 k3 k4=>?_))
   have k5:Ch κ (arrOf st2) (pendingOf st2).toList 0 lo:=by rw[k1.pe];exact g4.congr (fun i _ h2=>k1.out i (.inl h2))
   dsimp only
   unfold RN
   by_cases hm:m<mr
   ·rw[if_pos hm]
    refine jw_ (Is (jw_ (M6 hO (by omega) (by omega) k1.b k4 (fun st3 q1 q2=>?_))))
    rw[if_neg (by simp)]
    have q3:Ch κ (arrOf st3) (pendingOf st3).toList 0 lo:=by rw[q1.pe];exact k5.congr (fun i _ h2=>q1.out i (.inl h2))
    exact AV_ hO q1.b q3 (by omega) (by omega) q2 (hfin _ (by omega) (by omega))
   ·rw[if_neg hm]
    exact AV_ hO k1.b k5 k2 (by omega) k4 (hfin _ k2 (by omega))
 case post =>
  rintro c st' ⟨g1,rfl,g4⟩
  dsimp only
  have hle:=g4.le
  refine jw_ (xV_ (qw_ (I:=fun x c st2=>c=(none,())/\SB kd a₀ st2/\Ch κ (arrOf st2) (pendingOf st2).toList 0 a₀.size/\(pendingOf st2).size+x<=a₀.size)
   (Q:=fun c st2=>c=(none,())/\SB kd a₀ st2/\Ch κ (arrOf st2) (pendingOf st2).toList 0 a₀.size/\(pendingOf st2).size<=1) ?step2 ?fin2 ⟨rfl,g1,g4,by simpa using hle⟩) ?post2)
  case fin2 =>
   rintro c st2 ⟨rfl,k1,k2,k3⟩
   exact⟨rfl,k1,k2,by omega⟩
  case step2 =>
   rintro x c st2 _ hx ⟨rfl,k1,k2,k3⟩
   unfold FB
   refine jw_ (wpS_get ?_)
   by_cases h1:(pendingOf st2).size<=1
   ·rw[if_pos h1]
    exact jE_ ⟨rfl,k1,k2,h1⟩
   ·rw[if_neg h1]
    have hFI:FI (pendingOf st2)+1<(pendingOf st2).size:=by
     unfold FI
     repeat' split
     all_goals omega
    refine jw_ (OQ hO k1 k2 (jl_ _) hFI (fun st3 q1 q2 q3 q4=>?_))
    rw[if_neg (by simp)]
    exact jE_ ⟨rfl,q1,q2,by omega⟩
  case post2 =>
   rintro c st2 ⟨rfl,k1,k2,k3⟩
   refine jE_ (h st2 k1 ?_)
   have hl:(pendingOf st2).toList.length<=1:=by simpa using k3
   match hp2:(pendingOf st2).toList,hl with
   | [],_=>rw[hp2] at k2;intro i j h1 h2 h3;rw[<- show 0=a₀.size from k2] at h3;omega
   | [p],_ =>
    rw[hp2] at k2
    obtain⟨c1,c2,c3,c4⟩:=k2
    have e:0+p.2.1=a₀.size:=c4
    rw[e] at c3
    exact c3
end
end S64
namespace HT
theorem lexLt_irr2:∀ {xs:α2},HT.lexLt xs xs=false
 | []=>rfl
 | x::xs=>by rw[HT.lexLt_cons,if_pos rfl];exact lexLt_irr2
theorem lexLt_trans:∀ {xs ys zs:α2},lexLt xs ys=true->lexLt ys zs=true->lexLt xs zs=true
 | [],[],_,h,_=>by cases h
 | _::_,[],_,h,_=>by cases h
 | _,_::_,[],_,h=>by cases h
 | [],_::_,_::_,_,_=>rfl
 | x::xs,y::ys,z::zs,h,g=>by
  rw[lexLt_cons] at h g ⊢
  by_cases e1:x=y
  ·rw[if_pos e1] at h
   by_cases e2:y=z
   ·rw[if_pos e2] at g;rw[if_pos (e1.trans e2)];exact lexLt_trans h g
   ·rw[if_neg e2] at g;rw[if_neg (e1 ▸ e2),e1];exact g
  ·rw[if_neg e1] at h
   by_cases e2:y=z
   ·rw[if_neg (e2 ▸ e1),<- e2];exact h
   ·rw[if_neg e2] at g
    have:=qB_ h
    have:=qB_ g
    rw[if_neg (by omega)]
    exact qj_ (by omega)
theorem lexLt_total:∀ {xs ys:α2},lexLt xs ys=false->lexLt ys xs=false->xs=ys
 | [],[],_,_=>rfl
 | [],_::_,h,_=>by cases h
 | _::_,[],_,h=>by cases h
 | x::xs,y::ys,h,g=>by
  rw[lexLt_cons] at h g
  by_cases e:x=y
  ·rw[if_pos e] at h;rw[if_pos e.symm] at g;rw[e,lexLt_total h g]
  ·rw[if_neg e] at h;rw[if_neg (j6_ e)] at g
   have:=xN_ h
   have:=xN_ g
   omega
end HT
namespace S64
open PySem PyProof.Rows L2
def pblt (x y:Int×α2):Bool:=if x.1=y.1 then HT.lexLt x.2 y.2 else decide (x.1<y.1)
theorem Ml {a b c:Int×α2}(h:pblt a b=true)(g:pblt b c=true):pblt a c=true:=by
 unfold pblt at *
 by_cases e1:a.1=b.1
 ·rw[if_pos e1] at h
  by_cases e2:b.1=c.1
  ·rw[if_pos e2] at g;rw[if_pos (e1.trans e2)];exact HT.lexLt_trans h g
  ·rw[if_neg e2] at g;rw[if_neg (e1 ▸ e2),e1];exact g
 ·rw[if_neg e1] at h
  by_cases e2:b.1=c.1
  ·rw[if_neg (e2 ▸ e1),<- e2];exact h
  ·rw[if_neg e2] at g
   have:=qB_ h
   have:=qB_ g
   rw[if_neg (by omega)]
   exact qj_ (by omega)
theorem pblt_total {a b:Int×α2}(h:pblt a b=false)(g:pblt b a=false):a=b:=by
 unfold pblt at *
 by_cases e:a.1=b.1
 ·rw[if_pos e] at h;rw[if_pos e.symm] at g
  exact Prod.ext e (HT.lexLt_total h g)
 ·rw[if_neg e] at h;rw[if_neg (j6_ e)] at g
  have:=xN_ h
  have:=xN_ g
  omega
theorem Wh {a b c:Int×α2}(h:pblt a c=true):pblt a b=true\/pblt b c=true:=by
 cases e:pblt a b with
 | true=>exact .inl rfl
 | false =>
  cases e2:pblt b a with
  | true=>exact .inr (Ml e2 h)
  | false=>have:=pblt_total e e2;subst this;exact .inr h
def KeyV (K:α3)(H:Hp)(v:Value)(n:Int)(ns:α2):Prop:=∃ t u,v=.ref t/\SqT K H t [.int n,.ref u]/\SqT K H u (ns.map V.int)
open Classical in
noncomputable def kS (K:α3)(H:Hp):PyProof.Rows.KeyKind where
 α:=Int×α2
 blt:=pblt
 irrefl:=fun a=>by unfold pblt;rw[if_pos rfl];exact HT.lexLt_irr2
 trans:=fun _ _ _=>Ml
 negTrans:=fun _ _ _=>Wh
 total:=fun _ _=>pblt_total
 keyOf:=fun v=>if h:∃ p:Int×α2,KeyV K H v p.1 p.2 then some h.choose else none
 dflt:=(0,[])
section
variable {X:Cx} {pins:α7} {σ:L2.St} {H:Hp} {s:Shared}
theorem Kr:∀ {ns ms:α2},ns.map V.int=ms.map V.int->ns=ms
 | [],[],_=>rfl
 | [],_::_,h=>by cases h
 | _::_,[],h=>by cases h
 | n::ns,m::ms,h=>by
  simp only[jV_,xG_,V.int.injEq] at h
  rw[h.1,Kr h.2]
theorem KeyV.inj (I:Inv X pins σ H s){v:Value}{n m:Int}{ns ms:α2}(h:KeyV X.K H v n ns)(g:KeyV X.K H v m ms):n=m/\ns=ms:=by
 obtain⟨t,u,rfl,h1,h2⟩:=h
 obtain⟨t',u',e,g1,g2⟩:=g
 cases e
 have e:=I.tuple_inj h1 g1
 simp only[xG_,V.int.injEq,V.ref.injEq,and_true] at e
 obtain⟨rfl,rfl⟩:=e
 exact⟨rfl,Kr (I.tuple_inj h2 g2)⟩
theorem Wi (I:Inv X pins σ H s){x:Keyed}{n:Int}{ns:α2}(h:KeyV X.K H x.1 n ns):KE (kS X.K H) x=(n,ns):=by
 have hex:∃ p:Int×α2,KeyV X.K H x.1 p.1 p.2:=⟨(n,ns),h⟩
 have e:(kS X.K H).keyOf x.1=some hex.choose:=dif_pos hex
 have e2:=KeyV.inj I hex.choose_spec h
 unfold KE
 rw[e]
 exact Prod.ext e2.1 e2.2
theorem Zd (I:Inv X pins σ H s){A:Around}{E:Value->Shared->Prop}(hu:A.units+6<cLine){v u:Value}{n m:Int}{ns ms:α2}(hv:KeyV X.K H v n ns)(hw:KeyV X.K H u m ms){Q:Bool->Shared->Prop}(h:Q (pblt (n,ns) (m,ms)) s) :
  wpAny (model X.prog X.w) A (keyLt' (tuples' true) v u) Q E s:=by
 obtain⟨a,ta,rfl,ha,hta⟩:=hv
 obtain⟨b,tb,rfl,hb,htb⟩:=hw
 obtain⟨its,r1,⟨o1,q1,c1,n1,d1⟩,_⟩:=I.tuple ha
 obtain⟨its2,r2,⟨o2,q2,c2,n2,d2⟩,_⟩:=I.tuple hb
 obtain⟨jts,k1,p1,_⟩:=I.tuple hta
 obtain⟨jts2,k2,p2,_⟩:=I.tuple htb
 have i1:IntsAre jts.toArray.toList ns:=intsAre_of k1
 have i2:IntsAre jts2.toArray.toList ms:=intsAre_of k2
 have eqT:=fun (bb:Bool) (he:EqD X.K H 2 (.ref ta) (.ref tb) bb)=>(EqD.at (x:=V.ref ta) (y:=V.ref tb) (u:=Value.ref ta) (v:=Value.ref tb) I 2 A (by omega) rfl rfl he).1
 have hed:=EqD.ints (K:=X.K) (H:=H) (a:=ta) (c:=tb) (xs:=ns) (ys:=ms) (.inr ⟨hta,htb⟩) 1
 cases r1 with
 | cons e1 r1'=>cases r1' with
  | cons e2 r1''=>cases r1'';cases r2 with
   | cons e3 r2'=>cases r2' with
    | cons e4 r2'' =>
     cases r2''
     obtain⟨t1,rfl⟩:=e1
     obtain⟨t2,rfl⟩:=e3
     cases e2
     cases e4
     refine PySem.W.kat_lt q1 d1 q2 d2 ?_
     simp only[zS_,List.zip_nil_right]
     refine PySem.W.kat_cons (wpAny_eqBool_int (PySem.W.kat_go (fun e=>?_) (fun e=>?_)))
     ·have hnm:n=m:=by simpa using e
      refine PySem.W.kat_yes (PySem.W.kat_cons (eqT _ hed _ _ _ _ (PySem.W.kat_go (fun e'=>?_) (fun e'=>?_))))
      ·have hns:ns=ms:=qB_ e'
       refine PySem.W.kat_yes (PySem.W.kat_nil ?_)
       have:pblt (n,ns) (m,ms)=decide (([Value.int n t1,Value.ref ta].toArray).size<([Value.int m t2,Value.ref tb].toArray).size):=by
        subst hnm;subst hns
        unfold pblt
        rw[if_pos rfl,HT.lexLt_irr2];rfl
       rw[<- this];exact h
      ·have hns:ns≠ms:=xN_ e'
       refine PySem.W.kat_no (PySem.W.kat_one _ _ ?_)
       have:pblt (n,ns) (m,ms)=HT.lexLt ns ms:=by unfold pblt;rw[if_pos hnm]
       rw[this] at h
       exact HT.lt_tupInts p1 p2 i1 i2 (by omega) h
     ·have hnm:n≠m:=by simpa using e
      refine PySem.W.kat_no ?_
      show wpAny _ _ (oneLt' true _ _) _ _ _
      refine oneLt_int ?_
      have:pblt (n,ns) (m,ms)=decide (n<m):=by unfold pblt;rw[if_neg hnm]
      rw[<- this];exact h
theorem ltOk (I:Inv X pins σ H s){A:Around}{E:Value->Shared->Prop}(hu:A.units+6<cLine){a₀:Array Keyed}(hk:∀ x∈a₀.toList,∃ n ns,KeyV X.K H x.1 n ns):LtOk (tuples' true) (kS X.K H) a₀ X.prog X.w A E s:=by
 intro x y st Q hx hy hkd h
 obtain⟨n,ns,h1⟩:=hk x hx
 obtain⟨m,ms,h2⟩:=hk y hy
 rw[Wi I h1,Wi I h2] at h
 rw[lt'_eq]
 refine jw_ (wpS_get ?_)
 rw[hkd]
 refine jw_ (wpS_lift (xK_ (Zd I hu h1 h2 ⟨rfl,?_⟩)))
 exact jE_ h
end
end S64
namespace S64
open PySem PyProof.Rows L2
theorem Qm {α β:Type}{f:α->β}:∀ {k l:List β},k.Perm l->∀ m:List α,k=m.map f->∃ m':List α,m'.Perm m/\l=m'.map f:=by
 intro k l h
 induction h with
 | nil=>intro m e;cases m with
  | nil=>exact⟨[],.refl _,rfl⟩
  | cons=>cases e
 | cons x _ ih=>intro m e;cases m with
  | nil=>cases e
  | cons y m =>
   simp only[jV_,xG_] at e
   obtain⟨rfl,e⟩:=e
   obtain⟨m',p,rfl⟩:=ih m e
   exact⟨y::m',p.cons y,rfl⟩
 | swap x y l=>intro m e;cases m with
  | nil=>cases e
  | cons a m=>cases m with
   | nil=>cases e
   | cons b m =>
    simp only[jV_,xG_] at e
    obtain⟨rfl,rfl,rfl⟩:=e
    exact⟨b::a::m,.swap a b m,rfl⟩
 | trans _ _ ih1 ih2 =>
  intro m e
  obtain⟨m1,p1,e1⟩:=ih1 m e
  obtain⟨m2,p2,e2⟩:=ih2 m1 e1
  exact⟨m2,p2.trans p1,e2⟩
abbrev Wd:=Addr×α2
def wv (ws:List Wd):List V:=ws.map fun w=>V.ref w.1
def wu (ws:List Wd):List Value:=ws.map fun w=>Value.ref w.1
theorem Va:∀ ws:List Wd,Vals (wv ws) (wu ws)
 | []=>.nil
 | _::r=>.cons rfl (Va r)
theorem HN:∀ {ts:List Addr} {us:List Value},Vals (ts.map V.ref) us->us=ts.map Value.ref
 | [],_,h=>by cases h;rfl
 | t::ts,_,h=>by
  cases h with
  | cons e r =>
   have e':_=Value.ref t:=e
   rw[HN r,e'];rfl
def kw (w:Wd):Int×α2:=((w.2.length:Int),w.2)
def Srt (os:List Wd):Prop:=os.Pairwise fun p q=>pblt (kw q) (kw p)=false
def WsOk (K:α3)(H:Hp)(ws:List Wd):Prop:=∀ w∈ws,SqT K H w.1 (w.2.map V.int)
def TsOk (K:α3)(H:Hp)(ts:List Addr)(ws:List Wd):Prop:=∀ (j:Nat) t w,ts[j]?=some t->ws[j]?=some w->SqT K H t [.int w.2.length,.ref w.1]
section
variable {X:Cx} {pins:α7} {σ:L2.St} {H H0:Hp} {s:Shared} {A:Around} {E:Value->Shared->Prop} {ws:List Wd} {ts:List Addr} {a kT:Addr} {e1:Nat} {P:PySem.Fin->Shared->Prop} {f:Value}
def Turn (X:Cx)(pins:α7)(σ:L2.St)(A:Around)(f:Value)(ws:List Wd)(H0:Hp):Prop:=∀ w∈ws,∀ (H':Hp) (s':Shared),Inv X pins σ H' s'->Same H0 H' ->
 wpAny (model X.prog X.w) A (call f [.ref w.1]) (EP X pins σ (fun k H''=>∃ t,k=.ref t/\Same H' H''/\SqT X.K H'' t [.int w.2.length,.ref w.1])) (fun _ _=>False) s'
abbrev Emp (a:Addr)(e1:Nat):L2.HO:=.ext fun h=>h.get? a=some (seqObj "list" #[] e1)
def Wj (X:Cx)(pins:α7)(σ:L2.St)(H0:Hp)(a:Addr)(ws:List Wd)(P:PySem.Fin->Shared->Prop):Prop :=
 ∀ s' H' os,Inv X pins σ H' s'->Same H0 H'->H' a=some (.lst (wv os))->os.Perm ws->Srt os->P (.done (.ret .none)) s'
theorem AW_ {st:SortSt}{os:List Wd}(I:Inv X pins σ H s)(ha:H a=some (Emp a e1))(hk:H kT=some (.lst (ts.map V.ref)))(hka:kT≠a)(h0:Same H0 H)(hn:H0 a=none)(hnk:H0 kT=none)(hz:os.length<=sizeLine)
  (harr:(arrOf st).map (·.2)=(wu os).toArray) (hf:failedOf st=none) (hp:os.Perm ws) (hs:Srt os) (h:Wj X pins σ H0 a ws P) :
  wpAny (model X.prog X.w) A (ksk_tail a false e1 (.ref kT) st) P E s:=by
 obtain⟨z,its,n,r,el,e⟩:=I.lstM hk
 have I1:Inv X pins σ (upd H kT (.lst [])) {s with heap:=s.heap.update kT (Obj.mapSeq fun _=>(#[]:Array Value)),toks:=s.toks}:=I.lset (its':=[]) (f:=fun _ => #[]) hk e rfl .nil (j0_ _)
 have ha1:upd H kT (.lst []) a=some (Emp a e1):=by rw[Ah (j6_ hka)];exact ha
 obtain⟨e2,_,_⟩:=I1.hok a _ ha1
 unfold ksk_tail
 refine jb_ (listUpdate_at e rfl ?_ (by rw[jj_,<- el];exact z) (j0_ _))
 refine jb_ (zL_ ?_)
 refine jb_ (seqEpoch_at e2 rfl ?_)
 simp only[jN_,qP_]
 rw[harr]
 refine jb_ (listUpdate_at e2 rfl ?_ (j0_ _) (by rw[jj_];simp only[wu,ja_];omega))
 rw[hf]
 simp only[bne_self_eq_false,jN_,qP_]
 have q:=zA_ (f:=fun _=>(wu os).toArray) e2
 have I2:Inv X pins σ (upd (upd H kT (.lst [])) a (.lst (wv os))) {s with heap:=(s.heap.update kT (Obj.mapSeq fun _=>(#[]:Array Value))).update a (Obj.mapSeq fun _=>(wu os).toArray),toks:=s.toks}:=by
  refine I1.write (x:=a) (e:=a) (by rw[ha1];exact trivial) (.inl rfl) (fun b' u hb hu=>(j9_ _ _ (j6_ hb)).trans hu) ⟨_,q⟩ ⟨by simp only[wv,ja_];exact hz,wu os,_,Va os,q⟩
 exact jm_ (h _ _ os I2 ((h0.over hnk).over hn) Ab hp hs)
theorem Mm (hl:ts.length=ws.length):((ts.map Value.ref).toArray.zip (wu ws).toArray).toList=(ts.zip ws).map fun p=>(Value.ref p.1,Value.ref p.2.1):=by
 rw[ksk_zip,zQ_]
 unfold wu
 rw[List.zip_map]
 rfl
theorem Vb (hl:ts.length=ws.length)(hT:TsOk X.K H ts ws){p:Addr×Wd}(hp:p∈ts.zip ws):SqT X.K H p.1 [.int p.2.2.length,.ref p.2.1]:=by
 obtain⟨j,hj,e⟩:=x0_.mp hp
 rw[List.getElem_zip] at e
 rw[zP_] at hj
 subst e
 exact hT j _ _ (ji_ (by omega)) (ji_ (by omega))
theorem Vc (I:Inv X pins σ H s):∀ (ts:List Addr) (ws:List Wd),ts.length=ws.length->(∀ p∈ts.zip ws,SqT X.K H p.1 [.int p.2.2.length,.ref p.2.1])->∃ fs:List Value,PySem.W.KatTups s.heap (ts.map Value.ref) fs/\fs.length=ts.length/\∀ v∈fs,∃ n t,v=.int n t
 | [],[],_,_=>⟨[],trivial,rfl,fun v hv=>by cases hv⟩
 | t::ts,w::ws,hl,h=>by
  obtain⟨fs,h1,h2,h3⟩:=Vc I ts ws (by simpa using hl) (fun p hp=>h p (jr_ _ hp))
  have h4:SqT X.K H t [.int w.2.length,.ref w.1]:=h (t,w) jo_
  obtain⟨its,r,⟨o,ho,hc,n,hd⟩,_⟩:=I.tuple h4
  cases r with
  | cons e1 r' =>
   obtain⟨tk,rfl⟩:=e1
   refine⟨.int w.2.length tk::fs,PySem.W.KatTups.cons ho hc hd rfl h1,by simp[h2],fun v hv=>?_⟩
   rcases jC_.mp hv with rfl | hv
   ·exact⟨_,_,rfl⟩
   ·exact h3 v hv
theorem Bx_ (I:Inv X pins σ H s)(hu:A.units+6<cLine)(ha:H a=some (Emp a e1))(hk:H kT=some (.lst (ts.map V.ref)))(hka:kT≠a)(h0:Same H0 H)(hn:H0 a=none)(hnk:H0 kT=none)(hz:ws.length<=sizeLine)
  (hl:ts.length=ws.length) (hW:WsOk X.K H ws) (hT:TsOk X.K H ts ws) (h:Wj X pins σ H0 a ws P) :
  wpAny (model X.prog X.w) A (ksk_end a false (wu ws).toArray e1 (.ref kT) (ts.map Value.ref).toArray) P E s:=by
 have hsz:(wu ws).toArray.size=ws.length:=by simp[wu]
 have hki:=fun p hp=>Vb (X:=X) (H:=H) hl hT (p:=p) hp
 have fin:∀ st:SortSt,(arrOf st).Perm ((ts.map Value.ref).toArray.zip (wu ws).toArray)->failedOf st=none->SO (kS X.K H) (arrOf st) 0 (arrOf st).size->wpAny (model X.prog X.w) A (ksk_tail a false e1 (.ref kT) st) P E s:=by
  intro st hp hf hs
  have hp':=(xX_.mp hp).symm
  rw[Mm hl] at hp'
  obtain⟨m',p1,e⟩:=Qm hp' _ rfl
  have e2:(arrOf st).map (·.2)=(wu (m'.map (·.2))).toArray:=by
   apply Array.ext'
   rw[Array.toList_map,e,zQ_]
   simp[wu]
  have pz:(m'.map (·.2)).Perm ws:=by
   have:=p1.map (·.2)
   rwa [List.map_snd_zip (by omega)] at this
  refine AW_ I ha hk hka h0 hn hnk (by rw[pz.length_eq];exact hz) e2 hf pz ?_ h
  have hs2:=(Mk (jl_ _)).mp hs
  have e3:seg (arrOf st) 0 (arrOf st).size=(arrOf st).toList:=by unfold seg;rw[List.drop_zero];exact jX_ (by simp)
  rw[e3,e,xU_] at hs2
  unfold Srt
  rw[xU_]
  refine hs2.imp_of_mem (fun {x y} hx hy hle=>?_)
  have kx:KeyV X.K H (Value.ref x.1) x.2.2.length x.2.2:=⟨_,_,rfl,hki x (p1.mem_iff.mp hx),hW _ (xz_ (p1.mem_iff.mp hx)).2⟩
  have ky:KeyV X.K H (Value.ref y.1) y.2.2.length y.2.2:=⟨_,_,rfl,hki y (p1.mem_iff.mp hy),hW _ (xz_ (p1.mem_iff.mp hy)).2⟩
  unfold LeK at hle
  rw[Wi I (x:=(Value.ref x.1,Value.ref x.2.1)) kx,Wi I (x:=(Value.ref y.1,Value.ref y.2.1)) ky] at hle
  exact hle
 unfold ksk_end
 simp only[jN_,qP_]
 by_cases h2:(wu ws).toArray.size<2
 ·rw[if_pos h2,if_pos h2]
  refine jb_ (jm_ ?_)
  rw[StateT.run_pure]
  refine jb_ (jm_ ?_)
  refine fin (SortSt.mk' general' ((ts.map Value.ref).toArray.zip (wu ws).toArray) #[] 7 none) (Array.Perm.refl _) rfl ?_
  intro i j g1 g2 g3
  have g4:j<((ts.map Value.ref).toArray.zip (wu ws).toArray).size:=g3
  rw[Array.size_zip,hsz] at g4
  have:i=j:=by omega
  subst this
  exact qx_ _
 ·rw[if_neg h2,if_neg h2]
  obtain⟨fs,f1,f2,f3⟩:=Vc I ts ws hl hki
  refine jb_ (PySem.W.kat_kind (T:=.type "int") f1 (by omega) (fun v hv=>?_) (by decide) ?_)
  ·obtain⟨n,t,rfl⟩:=f3 v hv
   exact PySem.W.Looks.of_pure rfl
  ·have hz0:((ts.map Value.ref).toArray.zip (wu ws).toArray).size=ws.length:=by simp[wu,hl]
   refine jb_ (qE_ (Ql (κ:=kS X.K H) (kd:=tuples' true) (a₀:=(ts.map Value.ref).toArray.zip (wu ws).toArray) (st:=SortSt.mk' (tuples' true) ((ts.map Value.ref).toArray.zip (wu ws).toArray) #[] 7 none)
    (Q:=fun _ st'=>SB (tuples' true) ((ts.map Value.ref).toArray.zip (wu ws).toArray) st'/\SO (kS X.K H) (arrOf st') 0 ((ts.map Value.ref).toArray.zip (wu ws).toArray).size)
    (ltOk I hu (fun x hx=>?_)) ⟨Array.Perm.refl _,rfl,rfl⟩ rfl fun st' a1 a2=>⟨a1,a2⟩) ?_ fun _ _ e=>e)
   ·rw[Mm hl] at hx
    obtain⟨p,hp,rfl⟩:=jv_.mp hx
    exact⟨p.2.2.length,p.2.2,_,_,rfl,hki p hp,hW _ (xz_ hp).2⟩
   ·rintro⟨⟨⟩,st'⟩ s' ⟨rfl,hB,hS⟩
    exact fin st' hB.perm hB.failed (by rw[hB.size];exact hS)
theorem WsOk.same {K:α3}{H H':Hp}(h:WsOk K H ws)(e:Same H H'):WsOk K H' ws:=fun w hw=>e.seqT (h w hw)
theorem Wk {K:α3}{H:Hp}{p b:Addr}{o:L2.HO}{zs xs:List V}(hp:H p=some (.lst zs))(h:SqT K H b xs):SqT K (upd H p o) b xs:=by
 have:TSq K H (upd H p o):=TSq.un (fun xs e=>by rw[hp] at e;cases e) (fun ob xs e=>by rw[hp] at e;cases e)
 exact this b xs h
theorem AX_ (I:Inv X pins σ H s)(hu:A.units+6<cLine)(ha:H a=some (Emp a e1))(hk:H kT=some (.lst []))(hka:kT≠a)(h0:Same H0 H)(hn:H0 a=none)(hnk:H0 kT=none)(hz:ws.length<sizeLine)
  (hW:WsOk X.K H0 ws) (hT:Turn X pins σ A f ws H0) (h:Wj X pins σ H0 a ws P) :
  wpAny (model X.prog X.w) A (ksk_rest a f false (wu ws).toArray e1 (.ref kT)) P E s:=by
 unfold ksk_rest
 refine jb_ (zF_ ?_)
 rw[List.forIn_toArray]
 refine jb_ (ksk_fold (fun i s'=>∃ (H':Hp) (ts:List Addr),Inv X pins σ H' s'/\Same H0 H'/\H' a=some (Emp a e1)/\H' kT=some (.lst (ts.map V.ref))/\ts.length=i/\TsOk X.K H' ts ws) (wu ws) 0 s
  ⟨H,[],I,h0,ha,hk,rfl,fun j t w h1 _=>by simp at h1⟩ ?step ?done)
 case step =>
  rintro j x s' hx ⟨H',ts,I',g0,g1,g2,g3,g4⟩
  simp only[zz_] at g3 ⊢
  unfold wu at hx
  rw[je_] at hx
  obtain⟨w,hw,rfl⟩:∃ w,ws[j]?=some w/\Value.ref w.1=x:=by
   cases e:ws[j]? with
   | none=>rw[e] at hx;cases hx
   | some w=>rw[e] at hx;cases hx;exact⟨w,rfl,rfl⟩
  have hj:j<ws.length:=(jc_.mp hw).1
  refine jb_ (xK_ (qE_ (hT w (jg_ hw) H' s' I' g0) (fun k s2 hk2=>?_) fun _ _ z=>z.elim))
  obtain⟨v,H2,I2,rv,t,rfl,q1,q2⟩:=hk2
  have rk:k=Value.ref t:=rv
  subst rk
  have hk3:=q1 _ _ g2
  obtain⟨z,its,n,r,el,e⟩:=I2.lstM hk3
  dsimp only
  have hi:=HN r
  have hti:its.length=j:=by rw[hi,ja_];exact g3
  refine jb_ (listUpdate_at e rfl ?_ (by rw[jj_,hti];omega) (by rw[Array.size_push,jj_,hti];omega))
  refine jm_ ⟨rfl,upd H2 kT (.lst ((ts ++ [t]).map V.ref)),ts ++ [t],?_,?_,?_,Ab,by simp[g3],?_⟩
  ·have:=I2.lset (its':=its ++ [Value.ref t]) (ys:=(ts ++ [t]).map V.ref) (f:=fun a=>a.push (Value.ref t)) (t':=s2.toks) hk3 e (by simp) (by rw[jR_];exact r.append (.cons rfl .nil)) (by rw[ja_,jq_,g3];simp;omega)
   exact this
  ·exact (g0.trans q1).over hnk
  ·rw[Ah (j6_ hka)];exact q1 _ _ g1
  ·intro i t' w' h1 h2
   refine Wk hk3 ?_
   by_cases hi:i<ts.length
   ·rw[jk_ hi] at h1
    exact q1.seqT (g4 i t' w' h1 h2)
   ·rw[jt_ (by omega)] at h1
    have:i-ts.length=0:=by
     by_cases hq:i-ts.length=0
     ·exact hq
     ·rw[jA_ (by simp;omega)] at h1;cases h1
    rw[this] at h1
    cases h1
    have:i=j:=by omega
    subst this
    rw[hw] at h2;cases h2
    exact q2
 case done =>
  rintro s' ⟨H',ts,I',g0,g1,g2,g3,g4⟩
  obtain⟨z,its,n,r,el,e⟩:=I'.lstM g2
  have hi:=HN r
  subst hi
  refine jb_ (listItems_at e rfl ?_)
  exact Bx_ I' hu g1 g2 hka g0 hn hnk (by omega) (by rw[g3];simp[wu]) (hW.same g0) g4 h
theorem AY_ {n:Nat}(I:Inv X pins σ H s)(hu:A.units+6<cLine)(ha:H a=some (.lst (wv ws)))(h0:Same H0 H)(hn:H0 a=none)(hz:ws.length<sizeLine)(hfr:∀ b,s.heap.objs.size<=b->H0 b=none)
  (hW:WsOk X.K H0 ws) (hT:Turn X pins σ A f ws H0) (h:Wj X pins σ H0 a ws P) :
  wpAny (model X.prog X.w) A (ksk_tree a f false) P E s:=by
 obtain⟨z,its,n,r,el,e⟩:=I.lstM ha
 have hi:its=wu ws:=by
  have:Vals ((ws.map (·.1)).map V.ref) its:=by rw[jQ_];exact r
  rw[HN this,jQ_];rfl
 subst hi
 have q:=zA_ (f:=fun _=>(#[]:Array Value)) e
 obtain⟨e1,he1⟩:∃ e1,(s.heap.update a (Obj.mapSeq fun _=>(#[]:Array Value))).get? a=some (seqObj "list" #[] e1):=⟨_,q⟩
 have I1:Inv X pins σ (upd H a (Emp a e1)) {s with heap:=s.heap.update a (Obj.mapSeq fun _=>(#[]:Array Value)),toks:=s.toks}:=by
  refine I.write (x:=a) (e:=a) (by rw[ha];exact trivial) (.inl rfl) (fun b' u hb hu=>(j9_ _ _ (j6_ hb)).trans hu) ⟨_,he1⟩ ⟨he1,⟨_,he1⟩,fun h1 h2 g1 g2=>g2 _ g1⟩
 unfold ksk_tree
 refine jb_ (listItems_at e rfl ?_)
 refine jb_ (listUpdate_at e rfl ?_ (by rw[jj_];simp only[wu,ja_];omega) (j0_ _))
 refine jb_ (seqEpoch_at he1 rfl ?_)
 refine jb_ (wpAny_newTuple ?_ (by rw[zQ_];simp only[wu,ja_];omega))
 refine jb_ (wpAny_newList ?_ (j0_ _))
 refine qR_ ?_
 have I2:=I1.kept (t':=s.toks) (h':=(s.heap.update a (Obj.mapSeq fun _=>(#[]:Array Value))).push {cls:=.type "tuple",data:=.seq (wu ws).toArray}) (fun _ _ q=>jf_ _ q)
 have I3:=I2.lnew (t':=s.toks) (its:=[]) (ys:=[]) .nil (j0_ _)
 have hk:((s.heap.update a (Obj.mapSeq fun _=>(#[]:Array Value))).push {cls:=.type "tuple",data:=.seq (wu ws).toArray}).objs.size=s.heap.objs.size+1:=by rw[size_push',Heap.size_update]
 have hlt:=jn_ e
 refine AX_ I3 hu ?_ Ab ?_ ?_ hn ?_ hz hW hT h
 ·rw[Ah (by show a≠_;rw[hk];exact jM_ (zs_ hlt))];exact Ab
 ·show _≠a
  rw[hk];exact qa_ (zs_ hlt)
 ·refine (h0.over hn).over (hfr _ ?_)
  show _<=_
  rw[hk];omega
 ·refine hfr _ ?_
  show _<=_
  rw[hk];omega
def By_ (X:Cx)(pins:α7)(σ:L2.St)(H:Hp)(ws:List Wd)(Q:Value->Shared->Prop):Prop :=
 ∀ s' H' D os,Inv X pins σ H' s'->Same H H'->H D=none->H' D=some (.lst (wv os))->os.Perm ws->Srt os->Q (.ref D) s'
theorem Wl {l q:Addr}{Q:Value->Shared->Prop}(I:Inv X pins σ H s)(hu:A.units+8<cLine)(hl:SqL X.K H l (wv ws))(hz:ws.length<sizeLine)(hW:WsOk X.K H ws)
  (hT:Turn X pins σ A.in1.in1 (.ref q) ws H) (h:By_ X pins σ H ws Q) :
  wpAny (model X.prog X.w) A (call (.builtin "sorted") [.ref l] [(Str.ofString "key",.ref q)]) Q E s:=by
 obtain⟨its,r,pl,_⟩:=I.list hl
 have hi:its=wu ws:=by
  have:Vals ((ws.map (·.1)).map V.ref) its:=by rw[jQ_];exact r
  rw[HN this,jQ_];rfl
 subst hi
 have hlen:(wu ws).length=ws.length:=by simp[wu]
 refine call_function_entry_kw kind_sorted plain_sorted entry_sorted (ksk_s1 _ _) ?_
 unfold Builtin.«sorted»
 refine jb_ (m:=checkCount "sorted" 1 1 _) (jm_ ?_)
 refine jb_ (collect_list (vs:=wu ws) ?isl ?_ (by omega))
 case isl =>
  exact pl.isList
 refine jb_ (wpAny_newList ?_ (by omega))
 have hsz:((s.heap.push (seqObj "list" #[] 0)).update s.heap.objs.size (Obj.mapSeq (· ++ (wu ws).toArray))).objs.size=s.heap.objs.size+1:=by
  rw[Heap.size_update,size_push']
 have keep:∀ b o,s.heap.get? b=some o->((s.heap.push (seqObj "list" #[] 0)).update s.heap.objs.size (Obj.mapSeq (· ++ (wu ws).toArray))).get? b=some o:=fun b o q=>by
  have hlt:b<s.heap.objs.size:=jn_ q
  rw[Heap.get?_update_ne _ _ _ _ (jM_ hlt),Heap.get?_push_ne _ _ _ (jM_ hlt)]
  exact q
 have I1:=I.kept (t':=s.toks) keep
 have I2:=I1.lnew (t':=s.toks) (its:=wu ws) (ys:=wv ws) (Va ws) (by simp only[wv,ja_];omega)
 have hD:H (s.heap.objs.size+1)=none:=I.hok.fresh (Nat.le_succ _)
 have hoL:(((s.heap.push (seqObj "list" #[] 0)).update s.heap.objs.size (Obj.mapSeq (· ++ (wu ws).toArray))).push (seqObj "list" (wu ws).toArray 0)).get? (s.heap.objs.size+1)=some (seqObj "list" (wu ws).toArray 0):=by
  rw[<- hsz];exact jy_ _ rfl
 show wpAny _ _ _ _ _ {s with heap:=((s.heap.push (seqObj "list" #[] 0)).update s.heap.objs.size (Obj.mapSeq (· ++ (wu ws).toArray))).push (seqObj "list" (wu ws).toArray 0)}
 have I3:Inv X pins σ (upd H (s.heap.objs.size+1) (.lst (wv ws))) {s with heap:=((s.heap.push (seqObj "list" #[] 0)).update s.heap.objs.size (Obj.mapSeq (· ++ (wu ws).toArray))).push (seqObj "list" (wu ws).toArray 0)}:=by
  have:=I2
  dsimp only at this
  rw[hsz] at this
  exact this
 rw[hsz]
 refine jb_ (qR_ (wpAny_call_entry_kw slot_list_sort ⟨_,hoL,rfl⟩ entry_list_sort ?body (ksk_l1 _ _)))
 case body =>
  have ht':=ksk_t1 q (s.heap.objs.size+1)
  show wpAny (model X.prog X.w) A.in1.in1 (Builtin.«list.sort» ⟨[.ref (s.heap.objs.size+1)],[(Str.ofString "key",.ref q)]⟩) _ _ _
  rw[ht']
  refine AY_ (n:=0) (H0:=H) I3 (by rw[in1_units,in1_units];omega) Ab (Same.new hD) hD hz (fun b hb=>I.hok.fresh ?_) hW hT fun s' H' os I' g1 g2 g3 g4=>⟨_,rfl,?_⟩
  ·have hb':(((s.heap.push (seqObj "list" #[] 0)).update s.heap.objs.size (Obj.mapSeq (· ++ (wu ws).toArray))).push (seqObj "list" (wu ws).toArray 0)).objs.size<=b:=hb
   rw[size_push',hsz] at hb'
   omega
  ·exact jm_ ⟨_,rfl,h s' H' _ os I' g1 hD g2 g3 g4⟩
end
end S64
namespace L2
open PySem PySem.Spec PyProof.Rows
theorem AZ_ {P:Program}{w:World}{K:α3}{mg:Str->α5}{base:Heap}{k:Nat}{f c':Addr}{name qual:Str}{params:Arguments}{body:Expr}{scope:Scope}{pm ctv:Value}
  {A:Around} {outer:List Env} {s:Shared} {H:Hp} {args:Args} {us:List Value} {vs:List V} {N ps:List Str} {Q:VK} {E:XK} {t:TE} (S:FnScope N ps scope) (hr:Room (k+1) A) (e0:Env0 P w K mg base A outer s H)
  (ho:s.heap.get? f=some (PySem.W.kla_obj name qual params body scope [] pm c' ctv)) (hcd:s.heap.CodeRec (.ref c') qual) (hb:bindArgs (PySem.W.kla_fn name qual params body scope [] pm (.ref c') ctv) args=pure (ps.zip us)) (r:Vals vs us) (hl:vs.length=ps.length)
  (ht:PE (cxOf CX0 P w K mg base N qual scope f (.ref c') A outer s H E).nox body t) (hq:t (start N vs) H Q):codeAny (model P w) A (.call (.ref f) args) (CR CX0 outer P w H s Q E) s:=by
 have lim:s.heap.NoLimit:=e0.mod.nolimit.keeps fun b o e=>(e0.bs b o e).1
 have hkind:∀ y∈ps.zip us,scope.names.lookup y.1=some .local\/(scope.names.lookup y.1=some .cell/\((cellsFrom (s.heap.objs.size+1) scope.names []).lookup y.1).isSome=true):=fun ⟨n,v⟩ hy=>by
  rcases S.par n (xz_ hy).1 with q | q
  ·exact .inl q
  ·exact .inr ⟨q,zm_ _ _ _ (.inl q)⟩
 refine PySem.W.kla_callFunE hr.depth ho rfl S.co S.gen rfl hcd ?_
 rw[hb]
 refine jm_ ?_
 refine wpAny_newFunctionEnv_cells S.kind hkind fun env he s1 x=>?_
 subst he
 refine⟨lim.keeps x.toInCall.keep,PySem.W.kla_codeExpr ?_⟩
 have I:Inv (cxOf CX0 P w K mg base N qual scope f (.ref c') A outer s H E) [] (start N vs) H s1:=On S hr.hd e0 hl r x
 refine qE_ (ht [] s1 (start N vs) H _ (I.wish _) hq) (fun u s' hs=>?_) fun e s' hs=>hs.elim
 obtain⟨v,H',J,rv,q⟩:=hs
 have J':=J.unwish
 exact⟨v,H',J'.os,J'.bare,J'.base,J'.hok,rv,q⟩
def BmOk (mg:Str->α5)(base:Heap):Prop:=∃ bm ob,mg "__builtins__" = some (.ref bm)/\bm≠builtinsNs/\base.get? bm=some ob/\ob.cls=.type "module" /\ ob.dict=some builtinsNs/\ob.data=.plain
end L2
namespace L2
open PySem PySem.Spec PyProof.Rows S64
abbrev lamA (ap:Pos):Arguments:={posonlyargs:=[],args:=[{arg := "word",annotation:=none,pos:=ap}],vararg:=none,kwonlyargs:=[],kw_defaults:=[],kwarg:=none,defaults:=[]}
abbrev lamB (p1 p2 p3 p4 p5:Pos):Expr:=.Tuple [.Call (.Name "len" p1) [.Name "word" p2] [] p3,.Name "word" p4] 0 p5
abbrev lamS:Scope:={kind:=.function,names:=[(Str.ofString "word",.local),(Str.ofString "len",.globalImplicit)],isGenerator:=false,isCoroutine:=false,more:=[]}
theorem Wm:FnScope ["word"] ["word"] lamS:=⟨rfl,rfl,rfl,by decide,rfl,fun x hx=>.inl (by rw[ju_.mp hx];rfl),fun y hy=>by
 rcases jC_.mp hy with rfl | hy
 ·simp
 ·rw[ju_.mp hy];simp⟩
end L2
namespace L2
open PySem PySem.Spec PyProof.Rows
theorem Vd {P:Program}{w:World}{K:α3}{mg mb:Str->α5}{CX:CXT}{k:Nat}{fa a c T:Addr}{fd:α6}{x:Str}{sp:Sp}{s₁:Shared}{vs:List Value}{ns:α2}
  (KX:K.In s₁.heap) (hns:s₁.heap.Ns mainGlobals mg) (hb:s₁.heap.Ns builtinsNs mb) (hbb:∀ x:Str,x ≠ "__name__" -> mb x=bootBuiltins x) (hlim:s₁.heap.NoLimit) (hg:s₁.gens = #[]) (hbm:BmOk mg s₁.heap)
  (hC:PySem.W.CodeHd s₁.heap c T) (hT:s₁.heap.get? T=some (PySem.W.tabObj #[])) (hKT:K.lookup T=none)
  (ha:s₁.heap.get? a=some {cls:=.type "list",data:=.seq vs.toArray}) (hi:IntsAre vs ns) (hl:ns.length<=sizeLine) (hr:Room k callerA)
  (F:∀ base:Heap,K.In base->base.Ns mainGlobals mg->PySem.W.CodeHd base c T->BmOk mg base->FnOk P w K mg base CX k fa fd [x] sp) (hbind:∀ (s:Shared) (u:Value),BindsTo s fd ⟨[u],[]⟩ [(x,u)])
  (hsp:∀ H:Hp,H T=some (.tbl #[])->SqL K H a (ns.map V.int)->sp [.ref a] H (fun v _=>v=.bl true) fun _ _ _=>False)
  (hCX:∀ H e s',CX [] H s₁ (fun _ _ _=>False) e s'->False) :
  codeAny (model P w) callerA (.call (.ref fa) ⟨[.ref a],[]⟩) (fun r s'=>r=.ok (.ret (.bool true))/\OldK s₁.heap s'.heap/\s'.os=s₁.os/\AllBare s'.gens) s₁:=by
 have rv:=Oo hi
 have lenV:=hi.length
 have hTa:T≠a:=fun z=>by subst z;rw[hT] at ha;cases ha
 have core:∀ H:Hp,H T=some (.tbl #[])->SqL K H a (ns.map V.int)->HOk P w H s₁.heap->(∀ b,H b≠none->b=T\/(b=a/\K.lookup a=none/\∃ o xs,H a=some (.frz o (.lst xs)))) ->
   codeAny (model P w) callerA (.call (.ref fa) ⟨[.ref a],[]⟩) (fun r s'=>r=.ok (.ret (.bool true))/\OldK s₁.heap s'.heap/\s'.os=s₁.os/\AllBare s'.gens) s₁:=by
  intro H hHT hS hok hA
  have free:∀ {b:Addr} {o:Obj},s₁.heap.get? b=some o->o.cls ≠ .none->o.data ≠ .seq vs.toArray 0->H b=none:=fun {b o} e h1 h2=>by
   cases q:H b with
   | none=>rfl
   | some u =>
    rcases hA b (by rw[q];simp) with rfl | ⟨rfl,_⟩
    ·rw[hT] at e;cases e;exact absurd rfl h1
    ·rw[ha] at e;cases e;exact absurd rfl h2
  have nsK:∀ {b:Addr} {m:Str->α5},s₁.heap.Ns b m->(hidT s₁.heap H).Ns b m:=fun {b m} ⟨o,es,ep,e,d,r⟩=>⟨o,es,ep,JS e (by
   cases q:H b with
   | none=>rfl
   | some u =>
    rcases hA b (by rw[q];simp) with rfl | ⟨rfl,_⟩
    ·rw[hT] at e;cases e;cases d
    ·rw[ha] at e;cases e;cases d),d,r⟩
  have hKb:K.In (hidT s₁.heap H):=fun b o e=>JS (KX b o e) (by
   cases q:H b with
   | none=>rfl
   | some u =>
    rcases hA b (by rw[q];simp) with rfl | ⟨rfl,z,_⟩
    ·rw[hKT] at e;cases e
    ·rw[z] at e;cases e)
  have hM:Mod K mg (hidT s₁.heap H):=⟨hKb,nsK hns,⟨mb,nsK hb,hbb⟩,let ⟨mc,h1,h2⟩:=hlim;⟨mc,nsK h1,h2⟩⟩
  have e0:Env0 P w K mg (hidT s₁.heap H) callerA [] s₁ H:=⟨rfl,hM,fun b o e=>Yi e,Nat.le_of_eq (Tt _ _),trivial,fun b hb=>absurd (show b∈([]:List Addr) from hb) (by simp),hok,.of_eq hg⟩
  have hCb:PySem.W.CodeHd (hidT s₁.heap H) c T:=by
   obtain⟨o,ws,file,tf,flags,tg,inF,text,tt,e,hc,hd,r⟩:=id hC
   exact⟨o,ws,file,tf,flags,tg,inF,text,tt,JS e (free e (by rw[hc];intro z;cases z) (by rw[hd];intro z;cases z)),hc,hd,r⟩
  have hbb2:BmOk mg (hidT s₁.heap H):=by
   obtain⟨bm,ob,b1,b2,b3,b4,b5,b6⟩:=hbm
   exact⟨bm,ob,b1,b2,JS b3 (free b3 (by rw[b4];intro z;cases z) (by rw[b6];intro z;cases z)),b4,b5,b6⟩
  refine codeAny_mono ((F _ hKb (nsK hns) hCb hbb2).run callerA [] s₁ H ⟨[.ref a],[]⟩ [.ref a] [.ref a] _ _ hr e0 (hbind s₁ (.ref a)) (.cons rfl .nil) (hsp H hHT hS)) fun r s' h=>?_
  cases r with
  | error e=>exact (hCX H e s' h).elim
  | ok fl =>
   cases fl with
   | next=>exact False.elim h
   | brk=>exact False.elim h
   | cont=>exact False.elim h
   | ret u =>
    obtain⟨v,H',os,bare,un,hok',r',q⟩:=h
    have q':v=.bl true:=q
    subst q'
    obtain rfl:u=Value.bool true:=r'
    have noB:∀ b:Addr,b∉frs ([]:List Env):=fun b z=>absurd (show b∈([]:List Addr) from z) (by simp)
    have all:∀ b o,s₁.heap.get? b=some o->asItWas s₁.heap s'.heap b o:=fun b o e=>by
     cases q:H b with
     | none=>exact .inl (un.keep b o e q (noB b) (by simp))
     | some u =>
      rcases hA b (by rw[q];simp) with rfl | ⟨rfl,_,ob,xs,z⟩
      ·obtain⟨more,z2⟩:=un.tbls b _ hHT
       have e2:s'.heap.get? b=some {cls:=.none,data:=.fields (#[]++more)}:=hok' b _ z2
       rw[hT] at e;cases e
       obtain⟨o',ws,_,_,_,_,_,_,_,e3,hc,hd,h11,_⟩:=hC
       exact .inr (.inl ⟨⟨c,o',ws,e3,hc,hd,h11⟩,rfl,#[],more,rfl,e2⟩)
      ·have z2:=un.frzs b ob _ z
       obtain⟨e1,_⟩:=hok b _ z
       obtain⟨e2,_⟩:=hok' b _ z2
       rw[e] at e1;cases e1
       exact .inl e2
    refine⟨rfl,⟨all,fun b o e=>?_⟩,os,bare⟩
    exact un.there b o e (by simp)
 cases hk:K.lookup a with
 | some o =>
  have e:=KX a o hk
  rw[ha] at e
  cases e
  refine core (fun b=>if b=T then some (.tbl #[]) else none) (if_pos rfl) (.inr ⟨_,vs.toArray,_,hk,rfl,rfl,rfl,by rw[jj_,lenV];exact hl,by simpa using rv⟩) (fun b u z=>?_) (fun b z=>?_)
  ·by_cases hb:b=T
   ·have z':=(if_pos hb).symm.trans z
    cases z';subst hb;exact hT
   ·have z':=(if_neg hb).symm.trans z
    cases z'
  ·by_cases hb:b=T
   ·exact .inl hb
   ·exact absurd (if_neg hb) z
 | none =>
  refine core (fun b=>if b=T then some (.tbl #[]) else if b=a then some (.frz {cls:=.type "list",data:=.seq vs.toArray} (.lst (ns.map V.int))) else none) (if_pos rfl) (.inl (.inr ⟨{cls:=.type "list",data:=.seq vs.toArray},by show (if a=T then _ else _)=_;rw[if_neg (j6_ hTa),if_pos rfl]⟩)) (fun b u z=>?_) (fun b z=>?_)
  ·by_cases hb:b=T
   ·have z':=(if_pos hb).symm.trans z
    cases z';subst hb;exact hT
   ·have z1:=(if_neg hb).symm.trans z
    by_cases hb2:b=a
    ·have z':=(if_pos hb2).symm.trans z1
     cases z'
     subst hb2
     exact⟨ha,by rw[ja_];exact hl,vs,_,rv,ha⟩
    ·have z':=(if_neg hb2).symm.trans z1
     cases z'
  ·by_cases hb:b=T
   ·exact .inl hb
   ·by_cases hb2:b=a
    ·exact .inr ⟨hb2,hk,_,_,by show (if a=T then _ else _)=_;rw[if_neg (j6_ hTa),if_pos rfl]⟩
    ·exact absurd (by show (if b=T then _ else _)=_;rw[if_neg hb,if_neg hb2]) z
theorem walk_ofT {l:PySem.W.OpenLaw}{n k:Nat}{q:Program}{loose:List Str}{XP:(Str->α5)->Heap->Prop}{YP:World->Heap->Prop}{d:DefRec}{K:Params->α3}{CX:World->CXT}{sp:World->Sp}{x xT:Str}
  (hn:l.most=some n) (hn2:n<=sizeLine) (hdf:d.params.defaults=[]) (hr:Room k callerA)
  (hY:∀ (w:World) (h:Heap),YP w h->(K w.params).In h)
  (F:∀ (w:World) (mg:Str->α5) (fa:Addr) (h:Heap),YP w h->(K w.params).In h->h.Ns mainGlobals mg->mg d.name=some (.ref fa) ->
   ∃ (fd:α6) (c T:Addr),PySem.W.tabIn (K w.params) xT=some (c,T)/\(K w.params).lookup T=none/\PySem.W.CodeHd h c T/\h.get? T=some (PySem.W.tabObj #[])/\(∀ (s:Shared) (u:Value),BindsTo s fd ⟨[u],[]⟩ [(x,u)]) /\
    ∀ base:Heap,(K w.params).In base->base.Ns mainGlobals mg->PySem.W.CodeHd base c T->BmOk mg base->FnOk l.prog w (K w.params) mg base (CX w) k fa fd [x] (sp w))
  (hsp:∀ (w:World) (H:Hp) (a c T:Addr) (ns:α2),ns.length<=n->PySem.W.tabIn (K w.params) xT=some (c,T)->H T=some (.tbl #[])->SqL (K w.params) H a (ns.map V.int)->sp w [.ref a] H (fun v _=>v=.bl true) fun _ _ _=>False)
  (hCX:∀ (w:World) (H:Hp) (s:Shared) (e:Value) (s':Shared),CX w [] H s (fun _ _ _=>False) e s'->False) :
  PySem.W.WalkO q loose XP YP l.row.toRowW d [] (fun f vs=>PySem.call f vs):=by
 refine Att.attach_call hn hdf fun w s₀ s₁ mg mb fa o pm cd doc a vs ns G Y ho hd hcd hmg hobj hints hlen hg=>?_
 have KX:=hY w _ Y
 obtain⟨fd,c,T,hti,hKT,hC,hT,hb,hF⟩:=F w mg fa _ Y KX G.T.g hmg
 exact Vd KX G.T.g G.T.b G.T.builtins G.T.nolimit hg (let ⟨bm,ob,b1,b2,b3,b4,b5,b6⟩:=G.T.bmain;⟨bm,ob,b1,b2,b3,b4,b5,b6⟩) hC hT hKT hobj hints (qM_ hlen hn2) hr hF hb (fun H hO hS=>hsp w H a c T ns hlen hti hO hS) fun H e s'=>hCX w H s₁ e s'
def tabC (K:α3)(x:Str):Addr:=((PySem.W.tabIn K x).getD (0,0)).1
def tabP (K:α3)(x:Str):Addr:=((PySem.W.tabIn K x).getD (0,0)).2
theorem Qn {K:α3}{x:Str}{c T:Addr}(h:PySem.W.tabIn K x=some (c,T)):tabC K x=c:=by unfold tabC;rw[h];rfl
theorem Ve {K:α3}{x:Str}{c T:Addr}(h:PySem.W.tabIn K x=some (c,T)):tabP K x=T:=by unfold tabP;rw[h];rfl
theorem Wn {K:α3}{x:Str}{f c T:Addr}{fd:α6}{oc oc2:Value}{od od2:Option Addr}{sl sl2:Array (α5)}{vs:Array Value}(a:nsIn K mainGlobals x=some (some (.ref f)))(l:K.lookup f=some ⟨oc,od,.func fd,sl⟩)(hc:fd.code=.ref c)
  (lc:K.lookup c=some ⟨oc2,od2,.fields vs,sl2⟩) (h:vs[11]?=some (.ref T)):PySem.W.tabIn K x=some (c,T):=by
 unfold PySem.W.tabIn
 rw[a]
 dsimp only
 rw[l]
 dsimp only
 rw[hc]
 dsimp only
 rw[lc]
 dsimp only
 rw[h]
structure FunL (K:α3)(mg:Str->α5)(base:Heap)(x qual:Str)(st:Stmt)(f:Addr)(fd:α6):Prop where
 ex:∃ (oc:Value) (od:Option Addr) (kV doc pm:Value) (an:Option Addr) (ct:Value) (osl:Array (α5)),
  fd=fnOf x qual (AD st) (Ay st) (Af st) .none kV doc pm an (.ref (tabC K x)) ct/\K.lookup f=some ⟨oc,od,.func fd,osl⟩/\codeIn K (.ref (tabC K x)) qual=true
 C:PySem.W.CodeHd base (tabC K x) (tabP K x)
 B:BmOk mg base
section
variable {P:Program} {w:World} {K:α3} {mg:Str->α5} {base:Heap}
theorem FunL.ok {x qual:Str}{st:Stmt}{f:Addr}{fd:α6}{N ps:List Str}{k:Nat}{sp:Sp}(F:FunL K mg base x qual st f fd)(S:FnScope N ps (Af st))(len:∀ vs H Q E,sp vs H Q E->vs.length=ps.length)
  (hbody:∀ (cdv:Value) (hcd:cdv=.ref (tabC K x)) (A:Around) (outer:List Env) (s:Shared) (H:Hp) (vs:List V) (Q:VK) (E:XK),Room k (A.deeper (envOfC qual (Af st) s.heap.objs.size f cdv))->sp vs H Q E ->
   ∃ t,PSs (cxOf CX0 P w K mg base N qual (Af st) f cdv A outer s H E).nox (Ay st) t/\t {nx:=fun _ H'=>Q .non H',rt:=Q} (start N vs) H):FnOk P w K mg base CX0 (k+1) f fd ps sp:=by
 obtain⟨oc,od,kV,doc,pm,an,ct,osl,rfl,lk,hcd⟩:=F.ex
 refine Yr lk hcd S len fun A outer s H vs Q E hr hsp=>?_
 obtain⟨t,h,q⟩:=hbody _ rfl A outer s H vs Q E hr hsp
 exact⟨t,h.nox,q⟩
theorem Ze {x qual:Str}{st:Stmt}{f c T:Addr}{oc:Value}{od an:Option Addr}{osl:Array (α5)}{kV doc pm ct:Value}(ti:PySem.W.tabIn K x=some (c,T))(l:K.lookup f=some ⟨oc,od,.func (fnOf x qual (AD st) (Ay st) (Af st) .none kV doc pm an (.ref c) ct),osl⟩)
  (hc:codeIn K (.ref c) qual=true) (C:PySem.W.CodeHd base c T) (B:BmOk mg base):FunL K mg base x qual st f (fnOf x qual (AD st) (Ay st) (Af st) .none kV doc pm an (.ref c) ct) :=
 ⟨⟨oc,od,kV,doc,pm,an,ct,osl,by rw[Qn ti],l,by rw[Qn ti];exact hc⟩,by rw[Qn ti,Ve ti];exact C,B⟩
end
end L2
namespace L2
open PySem PySem.Spec PyProof.Rows S64
def BT (T:Addr)(H H':Hp):Prop:=∀ b o,b≠T->H b=some o->H' b=some o
def LamT (T:Addr)(lp:Pos)(qual:Str)(H:Hp):Prop:=H T=some (.tbl #[]) \/ ∃ (c':Addr) (oc:Obj) (vs:Array Value) (t:Tok),H T=some (.tbl #[rawInt lp.line,rawInt lp.col,.ref c'])/\H c'=some (.frz oc (.own 0))/\oc.data=.fields vs/\vs[1]?=some (.str (qual ++ "<lambda>") t)
theorem LamT.is {T:Addr}{lp:Pos}{qual:Str}{H:Hp}(h:LamT T lp qual H):∃ ps,H T=some (.tbl ps):=by
 rcases h with h | ⟨_,_,_,_,h,_⟩
 ·exact⟨_,h⟩
 ·exact⟨_,h⟩
theorem LamT.mono {T:Addr}{lp:Pos}{qual:Str}{H H':Hp}(h:LamT T lp qual H)(s:Same H H'):LamT T lp qual H':=by
 rcases h with h | ⟨c',oc,vs,t,h,h2,h3,h4⟩
 ·exact .inl (s _ _ h)
 ·exact .inr ⟨c',oc,vs,t,s _ _ h,s _ _ h2,h3,h4⟩
theorem BT.of {T:Addr}{H H':Hp}(s:Same H H'):BT T H H':=fun b o _ e=>s b o e
theorem BT.trans {T:Addr}{H H' H'':Hp}(s:BT T H H')(s':BT T H' H''):BT T H H'':=fun b o hb e=>s' b o hb (s b o hb e)
theorem BT.ne {T:Addr}{H H':Hp}(s:BT T H H'){b:Addr}{o:HO}(e:H b=some o)(ho:∀ ps,o ≠ .tbl ps){ps:Array Value}(hT:H T=some (.tbl ps)):H' b=some o:=s b o (fun z=>by subst z;rw[hT] at e;cases e;exact ho _ rfl) e
theorem BT.tsq {K:α3}{T:Addr}{H H':Hp}(s:BT T H H'){ps:Array Value}(hT:H T=some (.tbl ps)){b:Addr}{ys:List V}(h:SqT K H b ys):SqT K H' b ys:=by
 rcases h with h | h
 ·left
  rcases h with h | ⟨o,h⟩
  ·exact .inl (s.ne h (fun _ z=>by cases z) hT)
  ·exact .inr ⟨o,s.ne h (fun _ z=>by cases z) hT⟩
 ·exact .inr h
theorem BT.lsq {K:α3}{T:Addr}{H H':Hp}(s:BT T H H'){ps:Array Value}(hT:H T=some (.tbl ps)){b:Addr}{ys:List V}(h:SqL K H b ys):SqL K H' b ys:=by
 rcases h with h | h
 ·left
  rcases h with h | ⟨o,h⟩
  ·exact .inl (s.ne h (fun _ z=>by cases z) hT)
  ·exact .inr ⟨o,s.ne h (fun _ z=>by cases z) hT⟩
 ·exact .inr h
theorem BT.none {T:Addr}{H H':Hp}(s:BT T H H'){ps:Array Value}(hT:H' T=some (.tbl ps)){b:Addr}(h:H' b=none):H b=none:=by
 cases q:H b with
 | none=>rfl
 | some o =>
  have:=s b o (fun z=>by subst z;rw[hT] at h;cases h) q
  rw[h] at this;cases this
section
variable {X:Cx} {pins:α7} {σ:St} {H:Hp} {s:Shared}
theorem Inv.tabK {P c':Addr}{oc:Obj}{ps ps':Array Value}{h':Heap}{t':Nat}(I:Inv X pins σ H s)(hP:H P=some (.tbl ps))(k:∀ b o,b≠P->s.heap.get? b=some o->h'.get? b=some o)(e:h'.get? P=some (PySem.W.tabObj (ps++ps')))
  (hc:s.heap.objs.size<=c') (hoc:h'.get? c'=some oc):Inv X pins σ (upd (upd H P (.tbl (ps++ps'))) c' (.frz oc (.own 0))) {s with heap:=h',toks:=t' }:=by
 have nP:∀ b,H b=none->b≠P:=fun b n z=>by subst z;rw[hP] at n;cases n
 have nP2:∀ b u,H b=some u->(∀ qs,u ≠ .tbl qs)->b≠P:=fun b u q hu z=>by subst z;rw[hP] at q;cases q;exact hu _ rfl
 have nC:∀ b u,H b=some u->b≠c':=fun b u q z=>by subst z;rw[I.hok.fresh hc] at q;cases q
 have nC2:∀ b o,s.heap.get? b=some o->b≠c':=fun b o q z=>by subst z;exact absurd (jn_ q) (z4_.mpr hc)
 refine I.un ⟨fun b o q n _ _=>k b o (nP b n) q,fun b o q n _ _=>⟨o.slots,k b o (nP b n) q⟩,fun b o q n _=>by rw[Ah (nC2 b o q),Ah (nP b n)];exact n,fun b o q _=>?_,fun b xs q=>?_,fun b o u q=>?_,fun b qs q=>?_⟩ (fun b u q=>?_)
 ·by_cases hb:b=P
  ·subst hb;exact⟨_,e⟩
  ·exact⟨o,k b o hb q⟩
 ·rw[Ah (nC b _ q),Ah (nP2 b _ q (fun _ z=>by cases z))];exact q
 ·rw[Ah (nC b _ q),Ah (nP2 b _ q (fun _ z=>by cases z))];exact q
 ·by_cases hb:b=P
  ·subst hb;rw[hP] at q;cases q;exact⟨ps',by rw[Ah (nC b _ hP)];exact Ab⟩
  ·rw[Ah (nC b _ q),Ah hb];exact⟨#[],by rw[q];simp⟩
 ·by_cases hbc:b=c'
  ·subst hbc;rw[Ab] at q;cases q;exact⟨hoc,_,hoc⟩
  rw[Ah hbc] at q
  by_cases hb:b=P
  ·subst hb;rw[Ab] at q;cases q;exact e
  ·rw[Ah hb] at q
   refine (I.hok b u q).stay (fun c v hc r=>k c v ?_ r) (fun c r=>by rw[Ah (nC c _ r),Ah (nP2 c _ r (fun _ z=>by cases z))];exact r) fun c xs r=>by rw[Ah (nC c _ r),Ah (nP2 c _ r (fun _ z=>by cases z))];exact r
   rcases hc with rfl | hc
   ·exact hb
   ·exact nP2 c _ hc (fun _ z=>by cases z)
theorem Vf {c P:Addr}{params:Arguments}{body:Expr}{scope:Scope}{pos:Pos}{A:Around}{M:Model}{E:Value->Shared->Prop}{Q:Value->Shared->Prop}(I:Inv X pins σ H s)(hcode:X.env.code=.ref c)(C:PySem.W.CodeHd X.base c P)(hL:LamT P pos X.env.qual H)
  (hb:BmOk X.mg X.base) (hcl:closureFor scope X.env=pure []) (hdef:defaultsOf params X.env=([],[]))
  (h:∀ (f c':Addr) (oc:Obj) (vs:Array Value) (t:Tok) (ctv:Value) (H':Hp) (s':Shared),Inv X (pins ++ [(f,PySem.W.kla_obj "<lambda>" (X.env.qual ++ "<lambda>") params body scope [] ((X.mg "__name__").getD .none) c' ctv)]) σ H' s'->BT P H H'->H' P=some (.tbl #[rawInt pos.line,rawInt pos.col,.ref c'])->H' c'=some (.frz oc (.own 0))->oc.data=.fields vs->vs[1]?=some (.str (X.env.qual ++ "<lambda>") t)->Q (.ref f) s') :
  wpAny M A (eval (.Lambda params body scope pos) X.env) Q E s:=by
 obtain⟨ps,hP⟩:=hL.is
 obtain⟨bm,ob,b1,b2,b3,b4,b5,b6⟩:=hb
 have hg:s.heap.Ns mainGlobals X.mg:=I.mod.glob.keeps I.bk
 have eP:s.heap.get? P=some (PySem.W.tabObj ps):=I.hok P _ hP
 have nb:∀ b o,X.base.get? b=some o->b≠P:=fun b o e z=>by subst z;have:=(I.bs b o e).2;rw[hP] at this;cases this
 have hgP:mainGlobals≠P:=by
  obtain⟨o,es,ep,e,_⟩:=I.mod.glob
  exact nb _ _ e
 have hbG:bm≠mainGlobals:=fun q=>by
  obtain⟨o,es,ep,e,hd,_⟩:=I.mod.glob
  rw[q,e] at b3;cases b3;rw[hd] at b6;cases b6
 refine PySem.W.kla_eval hdef ?_
 rcases hL with hL | ⟨c',oc,vs,t,h1,h2,h3,h4⟩
 ·have:ps = #[]:=by rw[hL] at hP;cases hP;rfl
  subst this
  refine PySem.W.kla_makeFunction (mg:=X.mg) hcl I.ok.glob hg hcode (C.keeps I.bk) eP (by trivial) rfl hgP ⟨bm,ob,b1,b2,hbG,nb _ _ b3,I.bk _ _ b3,b4,b5,b6⟩ fun c' ctv h' tk hx hge hlt hrec htb=>?_
  obtain⟨c₂,oc,vs,t,e2,hoc,hd,hv⟩:=hrec
  cases e2
  have I1:=I.tabK (t':=tk) (h':=h'.push (PySem.W.kla_obj "<lambda>" (X.env.qual ++ "<lambda>") params body scope [] ((X.mg "__name__").getD .none) c' ctv)) hP (fun b o hb e=>jf_ _ (hx b o hb e)) (jf_ _ htb) hge (jf_ _ hoc)
  have hsz:s.heap.objs.size<=h'.objs.size:=qM_ hge (zv_ hlt)
  have hcP:P≠c':=fun z=>by subst z;exact absurd (jn_ eP) (z4_.mpr hge)
  refine h h'.objs.size c' oc vs t ctv _ _ (I1.pins_of fun p hp=>?_) (fun b o hb e=>?_) ((Ah hcP).trans Ab) Ab hd hv
  ·rcases jB_.mp hp with hp | hp
   ·exact I1.pin p (jD_ _ hp)
   ·rw[ju_.mp hp]
    refine⟨jy_ _ rfl,?_,fun z=>?_,I.nofs hsz,fun v z=>by cases z⟩
    ·rw[Ah (fun z=>absurd hlt (by dsimp only at z;rw[z];exact qm_ _)),Ah (fun z=>by dsimp only at z;subst z;exact absurd (jn_ eP) (z4_.mpr hsz))]
     exact I.hok.fresh hsz
    ·dsimp only at z
     have:=I.lt
     rw[<- z] at this
     exact absurd this (z4_.mpr hsz)
  ·rw[Ah (fun z=>by subst z;rw[I.hok.fresh hge] at e;cases e),Ah hb];exact e
 ·have:ps = #[rawInt pos.line,rawInt pos.col,.ref c']:=by rw[h1] at hP;cases hP;rfl
  subst this
  refine PySem.W.kla_makeFunctionHit (mg:=X.mg) (cv:=.ref c') hcl I.ok.glob hg hcode (C.keeps I.bk) eP (by trivial) (by simp[codeAmong,rawInt]) ⟨bm,ob,b1,b2,hbG,nb _ _ b3,I.bk _ _ b3,b4,b5,b6⟩ fun ctv h' tk hk hsz=>?_
  have I1:=I.kept (t':=tk) (h':=h'.push (PySem.W.kla_obj "<lambda>" (X.env.qual ++ "<lambda>") params body scope [] ((X.mg "__name__").getD .none) c' ctv)) (fun b o e=>jf_ _ (hk b o e))
  refine h h'.objs.size c' oc vs t ctv _ _ (I1.pins_of fun p hp=>?_) (fun b o hb e=>e) h1 h2 h3 h4
  rcases jB_.mp hp with hp | hp
  ·exact I1.pin p (jD_ _ hp)
  ·rw[ju_.mp hp]
   refine⟨jy_ _ rfl,I.hok.fresh hsz,fun z=>?_,I.nofs hsz,fun v z=>by cases z⟩
   dsimp only at z
   have:=I.lt
   rw[<- z] at this
   exact absurd this (z4_.mpr hsz)
end
def RK (K:α3)(P:Addr)(lp:Pos)(qual:Str)(t:TA):TE:=fun σ H Q=>t σ H fun vs H1=>∃ l ws,vs=[.ref l]/\SqL K H1 l (wv ws)/\WsOk K H1 ws/\ws.length<sizeLine/\LamT P lp qual H1 /\
 ∀ H2 D os,BT P H1 H2->LamT P lp qual H2->H1 D=none->H2 D=some (.lst (wv os))->os.Perm ws->Srt os->Q (.ref D) H2
theorem OR {K:α3}{P:Addr}{lp:Pos}{qual:Str}{t:TA}{σ:St}{H:Hp}{Q:VK}:RK K P lp qual t σ H Q=t σ H fun vs H1=>∃ l ws,vs=[.ref l]/\SqL K H1 l (wv ws)/\WsOk K H1 ws/\ws.length<sizeLine/\LamT P lp qual H1 /\
 ∀ H2 D os,BT P H1 H2->LamT P lp qual H2->H1 D=none->H2 D=some (.lst (wv os))->os.Perm ws->Srt os->Q (.ref D) H2:=rfl
theorem SE {X:Cx}{e:Expr}{ta:TA}{c P:Addr}{k:Nat}{qual:Str}{p kp pos lp ap p1 p2 p3 p4 p5:Pos}(hr:Room (k+3) X.A)(hg:Gl X "sorted")(hm:X.mg "sorted" = none)(hml:X.mg "len" = none)(hcode:X.env.code=.ref c)(C:PySem.W.CodeHd X.base c P)(hbm:BmOk X.mg X.base)
  (ha:PA X [e] ta) (hq:X.env.qual=qual:=by rfl)
  (he:backTo pos (starEach [e] X.env)=(false,eval e X.env)::backTo pos (starEach [] X.env):=by rfl) (hpl:(backTo pos (starEach [e] X.env)).any (·.1)=false:=by rfl) :
  PE X (.Call (.Name "sorted" p) [e] [⟨some "key",.Lambda (lamA ap) (lamB p1 p2 p3 p4 p5) lamS lp,kp⟩] pos) (RK X.K P lp qual ta):=by
 intro pins s σ H Q I h
 subst hq
 refine xm_ (GV I hg hm rfl ?_)
 refine callWith_kw ?_ he hpl
 refine thn (ha pos pins s σ H _ I h) fun us s1 ⟨vs,H1,I1,r1,q1⟩=>?_
 obtain⟨l,ws,rfl,hl,hW,hz,hP,q⟩:=q1
 obtain⟨ps,hP1⟩:=hP.is
 obtain⟨u1,rfl,rx⟩:=vals1 r1
 cases rx
 refine kws_cons (Vf I1 hcode C hP hbm rfl rfl fun f c' oc vs t ctv H2 s2 I2 hS2 hT2 hc2 hd hv=>kws_nil ?_)
 show wpAny (model X.prog X.w) X.A (call (.builtin "sorted") [.ref l] [(Str.ofString "key",.ref f)]) _ _ s2
 have nP:∀ b ys,SqT X.K H1 b ys->SqT X.K H2 b ys:=fun b ys=>hS2.tsq hP1
 have hl2:SqL X.K H2 l (wv ws):=hS2.lsq hP1 hl
 refine Wl I2 (by have:=hr.un;omega) hl2 hz (fun w hw=>nP _ _ (hW w hw)) (fun w hw H' s' I' hS=>?_) (fun s' H' D os I' g1 g2 g3 g4 g5=>?_)
 ·have hf:=(I'.pin _ (jD_ _ (jD_ _ (jo_)))).1
  have hc':s'.heap.get? c'=some oc:=(I'.hok c' _ (hS _ _ hc2)).1
  have hcr:s'.heap.CodeRec (.ref c') (X.env.qual ++ "<lambda>"):=⟨c',oc,vs,t,rfl,hc',hd,hv⟩
  have hwT:SqT X.K H' w.1 (w.2.map V.int):=hS.seqT (nP _ _ (hW w hw))
  refine wpAny_call (codeAny_mono (AZ_ (k:=k) (N:=["word"]) (ps:=["word"]) (vs:=[.ref w.1]) (us:=[.ref w.1]) (E:=fun _ _ _=>False) (Q:=fun kv H''=>∃ t,kv=.ref t/\Same H' H''/\SqT X.K H'' t [.int w.2.length,.ref w.1]) Wm hr.in1.in1 I'.env0.in1.in1 hf hcr rfl (.cons rfl .nil) rfl
   (Do (Aa (Ax Ak rfl hml rfl (Aa (pv 0) Ad)) (Aa (pv 0) Ad))) ?_) fun r s2 hq=>?_)
  ·refine⟨.ref w.1,rfl,w.1,w.2.map V.int,rfl,.inr hwT,.ref w.1,rfl,?_,fun p hp=>?_⟩
   ·show 2<=sizeLine
    decide
   ·rw[ja_]
    exact⟨p,rfl,Same.new hp,.inl (.inl Ab)⟩
  ·cases r with
   | error e=>exact hq.elim
   | ok fl =>
    cases fl with
    | ret u=>exact I'.after hq
    | next=>exact False.elim hq
    | brk=>exact False.elim hq
    | cont=>exact False.elim hq
 ·exact⟨.ref D,H',I'.unpinned,rfl,q H' D os (hS2.trans (BT.of g1)) (.inr ⟨c',oc,vs,t,g1 _ _ hT2,g1 _ _ hc2,hd,hv⟩) (hS2.none hT2 g2) g3 g4 g5⟩
end L2
namespace L2
open PySem PySem.Spec PyProof.Rows
def EqsD (K:α3)(H:Hp)(n:Nat)(xs:List V)(x:V)(e:Nat->Bool):Prop:=(∀ (i:Nat) (v:V),xs[i]?=some v->∃ a,v=.ref a/\EqD K H n v x (e i))/\∀ (i j:Nat) (v:V),xs[i]?=some v->xs[j]?=some v->e i=e j
noncomputable def evG (xs:List V)(e:Nat->Bool)(y:Value):Bool := @decide (∃ (i:Nat) (a:Addr),y=.ref a/\xs[i]?=some (.ref a)/\e i=true) (Classical.propDecidable _)
theorem OS {K:α3}{H:Hp}{n:Nat}{xs:List V}{x:V}{e:Nat->Bool}(h:EqsD K H n xs x e){i:Nat}{a:Addr}(hx:xs[i]?=some (.ref a)):evG xs e (.ref a)=e i:=by
 rw[qn_]
 unfold evG
 rw[@decide_eq_true_iff _ (Classical.propDecidable _)]
 constructor
 ·rintro⟨j,b,hb,hxj,hej⟩
  cases hb
  rw[h.2 i j _ hx hxj];exact hej
 ·intro he
  exact⟨i,a,rfl,hx,he⟩
def rInG (K:α3)(n:Nat)(neg:Bool):R2:=fun x y H Q=>∃ p t xs e,y=.ref p/\x=.ref t/\SqL K H p xs/\EqsD K H n xs x e/\Q (.bl (if neg then !((List.range xs.length).any e) else (List.range xs.length).any e)) H
theorem Ba_ {K:α3}{n:Nat}{neg:Bool}{x y:V}{H:Hp}{Q:VK}:rInG K n neg x y H Q=∃ p t xs e,y=.ref p/\x=.ref t/\SqL K H p xs/\EqsD K H n xs x e/\Q (.bl (if neg then !((List.range xs.length).any e) else (List.range xs.length).any e)) H:=rfl
theorem Wo {X:Cx}{pins:α7}{σ:St}{H:Hp}{s:Shared}{p t:Addr}{xs:List V}{n:Nat}{e:Nat->Bool}(hu:X.A.units+n+1<cLine)(I:Inv X pins σ H s)(hp:SqL X.K H p xs)(hE:EqsD X.K H n xs (.ref t) e) :
  ∃ (its:Array Value),s.heap.IsList p its/\(∀ y,y∈its->SeqAt.EqAt X.A.in1 s y (.ref t) (evG xs e y))/\its.any (evG xs e)=(List.range xs.length).any e:=by
 obtain⟨its,r,pl,_⟩:=I.list hp
 have hl:=r.length
 refine⟨its.toArray,pl.isList,fun y hy=>?_,?_⟩
 ·have hy':y∈its:=by simpa using hy
  obtain⟨i,hi,ei⟩:=jY_ hy'
  have hix:i<xs.length:=by omega
  obtain⟨u,hu',ru⟩:=r.get (i:=i) (x:=xs[i]) (by simp[hix])
  rw[ji_ hi,ei] at hu'
  cases hu'
  obtain⟨a,e2,e3⟩:=hE.1 i xs[i] (by simp[hix])
  rw[e2] at ru e3
  cases ru
  rw[OS hE (i:=i) (by rw[ji_ hix,e2])]
  exact (EqD.at (x:=V.ref a) (y:=V.ref t) I n X.A.in1 (by rw[in1_units];omega) rfl rfl e3).1
 ·rw[show its.toArray.any (evG xs e)=its.any (evG xs e) by simp,qn_,x5_,x5_]
  constructor
  ·rintro⟨y,hy,hey⟩
   obtain⟨j,b,_,hxj,hej⟩:=(@decide_eq_true_iff _ (Classical.propDecidable _)).mp hey
   exact⟨j,jW_.mpr (jc_.mp hxj).1,hej⟩
  ·rintro⟨i,hi,hei⟩
   have hi:=jW_.mp hi
   obtain⟨a,e2,e3⟩:=hE.1 i xs[i] (by simp[hi])
   have hx:xs[i]?=some (.ref a):=by rw[ji_ hi,e2]
   obtain⟨u,hu',ru⟩:=r.get hx
   cases ru
   exact⟨.ref a,jg_ hu',by rw[OS hE hx];exact hei⟩
theorem hu45 {u:Nat}(h:u+8<cLine):u+4+1<cLine:=by omega
theorem hu46 {u:Nat}(h:u+8<cLine):u+4+2<cLine:=by omega
theorem Vg {X:Cx}(n:Nat)(hu:X.A.units+n+1<cLine):OpR X (compareOp .NotIn) (rInG X.K n true):=by
 intro pins s σ H x y v u Q I rx ry h
 obtain⟨p,t,xs,e,rfl,rfl,hp,hw,q⟩:=h
 cases ry
 cases rx
 obtain⟨its,h1,h2,h3⟩:=Wo hu I hp hw
 refine SeqAt.notIn_listAt _ h1 h2 ⟨.bl _,H,I,rfl,?_⟩
 rw[h3]
 exact q
def Qo (K:α3)(n:Nat):V->List V->Hp->VK->Prop:=fun x vs H Q=>∃ l xs t e m,x=.ref l/\vs=[.ref t]/\H l=some (.lst xs)/\EqsD K H n xs (.ref t) e/\m<xs.length/\e m=true/\(∀ j,j<m->e j=false)/\xs.length<1000000/\Q (.int (m:Nat)) H
theorem RL {K:α3}{n:Nat}{x:V}{vs:List V}{H:Hp}{Q:VK}:Qo K n x vs H Q=∃ l xs t e m,x=.ref l/\vs=[.ref t]/\H l=some (.lst xs)/\EqsD K H n xs (.ref t) e/\m<xs.length/\e m=true/\(∀ j,j<m->e j=false)/\xs.length<1000000/\Q (.int (m:Nat)) H:=rfl
theorem Vh {X:Cx}(n:Nat)(hu:X.A.units+n+2<cLine):MtM X "list.index" (Qo X.K n):=by
 intro pins s σ H x vs v us Q I rx rv h
 obtain⟨l,xs,t,e,m,rfl,rfl,hH,hE,hm,hem,hej,hlt,q⟩:=h
 cases rx
 obtain⟨u,rfl,ry⟩:=vals1 rv
 cases ry
 obtain⟨zz,its,k,r,hl,eo⟩:=I.lstM hH
 have hrl:xs.length=its.length:=r.length
 have get:∀ (j:Nat) (hj:j<its.toArray.size),∃ (a:Addr),its.toArray[j]=.ref a/\xs[j]?=some (.ref a)/\EqD X.K H n (.ref a) (.ref t) (e j):=fun j hj=>by
  have hj':j<xs.length:=by rw[jj_] at hj;omega
  obtain⟨a,e2,e3⟩:=hE.1 j xs[j] (by simp[hj'])
  rw[e2] at e3
  have hx:xs[j]?=some (.ref a):=by rw[ji_ hj',e2]
  obtain⟨w',f1,f2⟩:=r.get hx
  have e4:its.toArray[j]=w':=by
   have:its[j]?=some its.toArray[j]:=by simp at hj;simp[hj]
   rw[f1] at this
   exact (js_ this).symm
  cases f2
  exact⟨a,e4,hx,e3⟩
 have hjs:m<its.toArray.size:=by rw[jj_];omega
 refine xD_ F.slot_list_index ⟨_,eo,rfl⟩ F.entry_list_index (F.args_list_index_2 _ _) (SeqAt.list_indexAt l its.toArray k none #[] (.ref t) (evG xs e) m hjs (by omega) ?_ fun j hj hjm=>?_) ⟨eo,fun y hy=>?_,?_⟩
 ·obtain⟨a,e1,e2,e3⟩:=get _ hjs
  rw[e1,OS hE e2];exact hem
 ·obtain⟨a,e1,e2,e3⟩:=get j hj
  rw[e1,OS hE e2];exact hej j hjm
 ·obtain⟨j,hj,ej⟩:=jY_ (show y∈its by simpa using hy)
  obtain⟨a,e1,e2,e3⟩:=get j (by rw[jj_];exact hj)
  have:y=.ref a:=by rw[<- ej,<- e1];simp
  rw[this,OS hE e2]
  exact (EqD.at (x:=V.ref a) (y:=V.ref t) I n _ (by rw[in1_units];omega) rfl rfl e3).1
 ·exact⟨.int (m:Nat),H,I.tok _,⟨_,rfl⟩,q⟩
theorem SF {X:Cx}{K:α3}(h:X.K=K)(n:Nat)(hu:X.A.units+n+2<cLine):MtR X "list.index" (Qo K n):=by subst h;exact Vh n hu
end L2
namespace Mine
open PySem L2 GW GB
local macro_rules | `(tactic| walk_at "rd") => `(tactic| (try dsimp only[↓XR,U2,↓r_ID,↓AE_,XS,↓r_BD,AG_,↓AK_,XU,XV,XW,AI_,↓XZ,↓X0,XX,XY,↓X1,U4,↓Z7,↓Xj,↓Z8,↓Ub,↓Z9,↓r_c,↓r_op,↓r_un,↓r_I,↓r_I0,↓r_U,↓Xk,↓Xl,↓Aa_,↓Ab_,↓Xm,↓r_if,↓r_B,↓Xn,↓Ac_,↓r_or,↓Ad_,↓Xo,↓Uc,↓r_CB,↓Ae_,↓Af_,↓Ag_,↓Ah_,↓r_sl,↓Xp,↓Rh,↓Ap_,↓r_BM,↓Ai_,↓Ri,↓Xq,↓Xr,↓r_Eq,↓Aj_,↓Ud,↓Xs,↓Ue,↓Ak_,↓r_ip,↓Xt,↓Xu,↓Am_,↓Rk,↓Ul,↓Aq_,↓Ar_,↓Um,↓Rl,↓Ut,↓As_,↓OD,↓XA,↓Up,↓XB,↓XC,↓Rm,↓XD,↓Uq,↓XE,↓Ro,↓Rp,↓r_in,↓Xw,↓OF,↓UM,Aw_,↓OJ,OR,Ba_,RL,↓XQ,↓Uz,↓UA,↓Rv,↓UG,Al_,L2.start,jV_,xO_,jT_,qf_,x4_,xP_,List.replicate,zd_,List.getElem?_cons_succ,zi_,List.set_cons_succ,scal])<;>(try simp only[↓XR,U2,↓r_ID,↓AE_,XS,↓r_BD,AG_,↓AK_,XU,XV,XW,AI_,↓XZ,↓X0,XX,XY,↓X1,U4,Y4,AH_,AJ_,V7,U3,↓Z7,↓Xj,↓Z8,↓Ub,↓Z9,↓r_c,↓r_op,↓r_un,↓r_I,↓r_I0,↓r_U,↓Xk,↓Xl,↓Aa_,↓Ab_,↓Xm,↓r_if,↓r_B,↓Xn,↓Ac_,↓r_or,↓Ad_,↓Xo,↓Uc,↓r_CB,↓Ae_,↓Af_,↓Ag_,↓Ah_,↓r_sl,↓Xp,↓Rh,↓Ap_,↓r_BM,↓Ai_,↓Ri,↓Xq,↓Xr,↓r_Eq,↓Aj_,↓Ud,↓Xs,↓Ue,↓Ak_,↓r_ip,↓Xt,↓Xu,↓Am_,↓Rk,↓Ul,↓Aq_,↓Ar_,↓Um,↓Rl,↓Ut,↓As_,↓OD,↓XA,↓Up,↓XB,↓XC,↓Rm,↓XD,↓Uq,↓XE,↓Ro,↓Rp,↓r_in,↓Xw,↓OF,↓UM,Aw_,↓OJ,OR,Ba_,RL,↓XQ,↓Uz,↓UA,↓Rv,↓UG,Al_,L2.start,jV_,xO_,jT_,qf_,x4_,xP_,qS_,List.replicate,zd_,List.getElem?_cons_succ,zi_,List.set_cons_succ,zr_,V.int.injEq,V.str.injEq,V.ref.injEq,V.bl.injEq,xG_,and_true,true_and,and_assoc,exists_and_left,exists_eq_left',exists_eq_left,exists_eq_right,exists_eq,xY_,qP_,jN_,qh_,scal,Nat.reduceAdd,Nat.reduceSub,reduceCtorEq,z3_,zX_]))
local macro_rules | `(tactic| walk_at "sc") => `(tactic| exact⟨rfl,rfl,rfl,by decide +kernel,rfl,by decide +kernel,by decide +kernel⟩)
def top (i:Nat):Stmt:=PySem.Challenge.pw_guessroom_k31_suites_of_alike_houses.main.body.getD i (.Pass ⟨0,0,0,0⟩)
abbrev Ea:Stmt:=top 4
theorem SH:FnScope ["letters", "word"] ["letters", "word"] (Af Ea):=by walk_at "sc"
abbrev BU:Stmt:=top 5
theorem M9:FnScope ["letters", "word"] ["letters", "word"] (Af BU):=by walk_at "sc"
abbrev CP:Stmt:=top 6
theorem Ga:FnScope ["letters", "word", "kept"] ["letters", "word"] (Af CP):=by walk_at "sc"
abbrev Dq:Stmt:=top 7
theorem Ff:FnScope ["letters", "most", "words", "word"] ["letters", "most"] (Af Dq):=by walk_at "sc"
abbrev Hb:Stmt:=top 9
theorem J5:FnScope ["house", "word", "ways", "rooms", "letter"] ["house", "word"] (Af Hb):=by walk_at "sc"
abbrev B3:Stmt:=top 10
theorem LH:FnScope ["house", "word"] ["house", "word"] (Af B3):=by walk_at "sc"
abbrev CW:Stmt:=top 12
theorem Cu:FnScope ["house", "words", "rooms", "walked", "room", "letter", "goal"] ["house"] (Af CW):=by walk_at "sc"
abbrev Eb:Stmt:=top 13
theorem Mn:FnScope ["house", "words"] ["house"] (Af Eb):=by walk_at "sc"
abbrev DC:Stmt:=top 14
theorem SI:FnScope ["house"] ["house"] (Af DC):=by walk_at "sc"
abbrev Dr:Stmt:=top 16
theorem Hd:FnScope ["row", "numbers", "thing"] ["row"] (Af Dr):=by walk_at "sc"
abbrev AO:Stmt:=top 17
theorem Aw:FnScope ["house", "words", "marks_behind", "classes", "walked", "letter", "marks", "finer"] ["house"] (Af AO):=by walk_at "sc"
abbrev DD:Stmt:=top 18
theorem SJ:FnScope ["house"] ["house"] (Af DD):=by walk_at "sc"
abbrev Cv:Stmt:=top 19
theorem Na:FnScope ["house"] ["house"] (Af Cv):=by walk_at "sc"
abbrev He:Stmt:=top 21
theorem HP:FnScope ["house", "classes", "numbers", "told", "room"] ["house"] (Af He):=by walk_at "sc"
abbrev Gb:Stmt:=top 22
theorem HQ:FnScope ["house", "home_of", "marks", "ways", "room"] ["house"] (Af Gb):=by walk_at "sc"
abbrev CY:Stmt:=top 24
theorem Hf:FnScope ["words", "once", "word"] ["words"] (Af CY):=by walk_at "sc"
abbrev AH:Stmt:=top 25
theorem Bn:FnScope ["house", "word", "rooms", "letter"] ["house", "word"] (Af AH):=by walk_at "sc"
abbrev B4:Stmt:=top 26
theorem BF:FnScope ["words", "marks_behind", "room", "own", "left", "word", "marks", "still"] ["words", "marks_behind", "room"] (Af B4):=by walk_at "sc"
abbrev AI:Stmt:=top 27
theorem B5:FnScope ["house", "words", "marks_behind"] ["house"] (Af AI):=by walk_at "sc"
abbrev BV:Stmt:=top 28
theorem Dh:FnScope ["base", "more", "ends", "words", "way", "middle", "first"] ["base", "more", "ends"] (Af BV):=by walk_at "sc"
abbrev Hg:Stmt:=top 29
theorem Nb:FnScope ["house", "more", "base", "words"] ["house", "more"] (Af Hg):=by walk_at "sc"
abbrev Ks:Stmt:=top 30
theorem Vi:FnScope ["house", "more", "base"] ["house", "more"] (Af Ks):=by walk_at "sc"
abbrev AZ:Stmt:=top 32
theorem Kt:FnScope ["script", "k"] ["script", "k"] (Af AZ):=by walk_at "sc"
abbrev BD:Stmt:=top 33
theorem Fg:FnScope ["number", "k", "many", "turn"] ["number", "k", "many"] (Af BD):=by walk_at "sc"
abbrev Bq:Stmt:=top 34
theorem AS:FnScope ["number", "rooms", "way", "top", "marks", "room", "mark"] ["number", "rooms"] (Af Bq):=by walk_at "sc"
abbrev BG:Stmt:=top 35
theorem AF:FnScope ["script", "letters", "rooms", "shape", "ways", "room", "row", "letter", "k", "goal"] ["script", "letters", "rooms"] (Af BG):=by walk_at "sc"
abbrev BX:Stmt:=top 36
theorem Bo:FnScope ["house", "number", "rooms", "small", "fold", "ways", "room", "row", "letter", "goal", "twins"] ["house", "number", "rooms"] (Af BX):=by walk_at "sc"
abbrev Br:Stmt:=top 37
theorem A3:FnScope ["script", "letters", "rooms", "marks", "house", "number"] ["script"] (Af Br):=by walk_at "sc"
abbrev BH:Stmt:=top 38
theorem Gc:FnScope ["script", "house", "number"] ["script", "house"] (Af BH):=by walk_at "sc"
abbrev Bk:Stmt:=top 39
theorem Bp:FnScope ["house", "number", "rooms", "order", "marks", "ways", "room"] ["house", "number"] (Af Bk):=by walk_at "sc"
abbrev Bs:Stmt:=top 40
theorem BA:FnScope ["house", "row", "at", "here", "goal"] ["house"] (Af Bs):=by walk_at "sc"
abbrev BI:Stmt:=top 41
theorem Bt:FnScope ["house", "row", "turn", "keys", "known", "key"] ["house"] (Af BI):=by walk_at "sc"
abbrev CQ:Stmt:=top 42
theorem Cw:FnScope ["house", "row", "order", "first", "room", "number", "ways"] ["house"] (Af CQ):=by walk_at "sc"
abbrev Nd:Stmt:=top 43
theorem Jb:FnScope ["script", "house", "many", "number", "other", "one", "two", "kept"] ["script"] (Af Nd):=by walk_at "sc"
abbrev HR:Pos:=⟨103,34,103,64⟩
def Ku:Caps:=[("letter",none),("letters",some 0)]
theorem LI:(Caps.names Ku).Nodup:=by decide +kernel
def Kv:Caps:=[("room",none),("words",some 1)]
theorem LJ:(Caps.names Kv).Nodup:=by decide +kernel
def Jc:Caps:=[("thing",none),("numbers",some 1)]
theorem Kw:(Caps.names Jc).Nodup:=by decide +kernel
def DE:Caps:=[("goals",none),("marks_behind",some 2),("walked",some 4),("letter",some 5)]
theorem EY:(Caps.names DE).Nodup:=by decide +kernel
def OT:Caps:=[("goal",none),("home_of",some 1)]
theorem OU:(Caps.names OT).Nodup:=by decide +kernel
def CZ:Caps:=[("room",none),("letter",some 3),("house",some 0)]
theorem Ec:(Caps.names CZ).Nodup:=by decide +kernel
def C0:Caps:=[("room",none),("house",some 0)]
theorem Ed:(Caps.names C0).Nodup:=by decide +kernel
def Gd:Caps:=[("other",none),("marks",some 6),("room",some 2)]
theorem HS:(Caps.names Gd).Nodup:=by decide +kernel
def C1:Caps:=[("word",none),("house",some 0)]
theorem Ee:(Caps.names C1).Nodup:=by decide +kernel
def C2:Caps:=[("room",none),("words",some 1),("marks_behind",some 2)]
theorem Ef:(Caps.names C2).Nodup:=by decide +kernel
def GY:Caps:=[("end",none),("first",some 6)]
theorem Iv:(Caps.names GY).Nodup:=by decide +kernel
def OV:Caps:=[("mark",none),("words",some 3)]
theorem OW:(Caps.names OV).Nodup:=by decide +kernel
def GZ:Caps:=[("twin",none),("goal",some 9),("fold",some 4)]
theorem Iw:(Caps.names GZ).Nodup:=by decide +kernel
def G0:Caps:=[("room",none),("house",some 0)]
theorem Ix:(Caps.names G0).Nodup:=by decide +kernel
def EC:Caps:=[("room",none),("number",some 1),("rooms",some 2)]
theorem Ge:(Caps.names EC).Nodup:=by decide +kernel
def ED:Caps:=[("goal",none),("order",some 3)]
theorem Gf:(Caps.names ED).Nodup:=by decide +kernel
def FN:Caps:=[("room",none),("row",some 1),("house",some 0)]
theorem Hh:(Caps.names FN).Nodup:=by decide +kernel
def FO:Caps:=[("goal",none),("row",some 1)]
theorem Hi:(Caps.names FO).Nodup:=by decide +kernel
def FP:Caps:=[("key",none),("known",some 4)]
theorem Hj:(Caps.names FP).Nodup:=by decide +kernel
def HV:Caps:=[("seen",none),("row",some 1)]
theorem Jk:(Caps.names HV).Nodup:=by decide +kernel
def HW:Caps:=[("room",none),("row",some 1)]
theorem Jl:(Caps.names HW).Nodup:=by decide +kernel
def HX:Caps:=[("room",none),("number",some 5),("row",some 1),("house",some 0)]
theorem Jm:(Caps.names HX).Nodup:=by decide +kernel
def HY:Caps:=[("goal",none),("number",some 1),("row",some 2)]
theorem Jn:(Caps.names HY).Nodup:=by decide +kernel
def G1:Caps:=[("room",none),("house",some 0)]
theorem Iy:(Caps.names G1).Nodup:=by decide +kernel
structure Txt (mg:Str->α5):Prop where
 all:mg "all" = none
 enumerate:mg "enumerate" = none
 len:mg "len" = none
 list:mg "list" = none
 max:mg "max" = none
 min:mg "min" = none
 range:mg "range" = none
 sorted:mg "sorted" = none
 tuple:mg "tuple" = none
 zip:mg "zip" = none
structure Exs (K:α3)(mg:Str->α5)(C_j2 C_j0:Addr):Prop where
 m_j2:mg "AskError" = some (.ref C_j2)
 m_j0:mg "BadWord" = some (.ref C_j0)
 x_j0:PySem.W.excIn K C_j0 bmV "ValueError.__new__" = true
 c_j0:ExcCls K C_j0
 e_j0:PySem.W.exmOne K (.ref C_j0) (.ref C_j2)=some true
 v_j0:kitOne K (.ref C_j0) (.type "ValueError")=some true
 k_j0_j2:kitOne K (.ref C_j0) (.ref C_j2)=some true
 k_j0_j0:kitOne K (.ref C_j0) (.ref C_j0)=some true
section
variable {P:Program} {w:World} {K:α3} {mg:Str->α5} {base:Heap}
variable {C_j2 C_j0:Addr}
def Mo (K:α3):Sp:=fun vs H Q _=>∃ (L:Int) (a:Addr) (ws:α2),vs=[.int L,.ref a]/\SqT K H a (ws.map V.int)/\ws.length<=1000/\∀ H',Same H H'->Q (.bl (isW L ws)) H'
theorem SK {f:Addr}{fd:α6}(F:Fun K "is_word" "is_word" Ea f fd)(T:Txt mg)
  (Z:Exs K mg C_j2 C_j0)
  : FnOk P w K mg base CX0 1 f fd ["letters", "word"] (Mo K):=by
 refine F.ok SH (fun vs H Q E h=>?_) (fun cdv A outer s H vs Q E hr h=>?_)
 ·obtain⟨L,a,ws,rfl,_⟩:=h;rfl
 ·obtain⟨L,a,ws,rfl,hw,hz,k⟩:=h
  have hl:=AB
  refine⟨_,(Ag (AY (Ax (VO rfl) rfl T.all PyProof.Rows.boot_all (Aa (Ci rfl (Cp rfl) (cp:=Ku) ⟨⟨rfl,rfl⟩,True.intro⟩ (Hy (pvD 1)) (fun _ _ _ _=>(As (i:=0) LI rfl (Or.inl rfl))) (fun _ _ _ _=>CG) (fun _ _ _ _=>(VC ZR Lz Ae (pvD 0) (pvD 1)))) Ad)))),?_⟩
  walk_at "rd"
  refine⟨⟨_,hw⟩,Gz (σ':=[some (.int L)]) (fun x=>match x with | .int n=>.bl (inW L n) | _=>.non) rfl hw (by rw[ja_];omega) (fun x hx R hR=>?_) (fun D hD=>?_)⟩
  ·obtain⟨n,_,rfl⟩:=Ez hx
   walk_at "rd"
   by_cases h0:0<=n
   ·simp only[h0,xY_]
    simpa [inW,h0] using hR
   ·simp only[h0,qP_]
    simpa [inW,h0] using hR
  ·refine⟨D,rfl,ws.map (inW L),.inl (.inl ?_),?_⟩
   ·rw[Ab,jQ_,jQ_];rfl
   ·have:=k _ (Same.new hD (o:=.lst ((ws.map V.int).map fun x=>match x with | .int n=>.bl (inW L n) | _=>.non)))
    simpa [isW,List.all_map] using this
def Nf (K:α3)(BW:Addr):Sp:=fun vs H Q E=>∃ (L:Int) (a:Addr) (ws:α2),vs=[.int L,.ref a]/\SqT K H a (ws.map V.int)/\ws.length<=1000/\(isW L ws=true->∀ H',Same H H'->Q .non H')/\(isW L ws=false->∀ H',Same H H'->E (.ref BW) none H')
theorem Ng {f:Addr}{fd:α6}(F:Fun K "check_word" "check_word" BU f fd)(T:Txt mg)
  (Z:Exs K mg C_j2 C_j0)
  {Eg:Addr} {Iz:α6} (Kx:FnOk P w K mg base CX0 1 Eg Iz ["letters", "word"] (Mo K)) (Gg:Fun K "is_word" "is_word" Ea Eg Iz) (Ky:Binds K Iz ["letters", "word"] []) (Kz:mg "is_word" = some (.ref Eg))
  : FnOk P w K mg base (CXe P w) 2 f fd ["letters", "word"] (Nf K C_j0):=by
 refine F.okE M9 (fun vs H Q E h=>?_) (fun cdv A outer s H vs Q E hr h=>?_)
 ·obtain⟨L,a,ws,rfl,_⟩:=h;rfl
 ·obtain⟨L,a,ws,rfl,hw,hz,k,kE⟩:=h
  have hl:=AB
  refine⟨_,(Ag (DB (ZE (ptB (ZD (Am Kx (hr.mono (by decide)) rfl Kz Gg.kp Ky .nil Bc (Aa (pvD 0) (Aa (pvD 1) Ad))))))
   (Ag (VQ Z.m_j0 Z.x_j0 rfl rfl (Aa ZC Ad)))
   Be)),?_⟩
  walk_at "rd"
  refine⟨L,a,ws,rfl,hw,hz,fun H' s'=>?_⟩
  walk_at "rd"
  cases hv:isW L ws with
  | true =>
   simp only[z3_,jN_,qP_]
   exact k hv H' s'
  | false =>
   simp only[zX_,xY_]
   exact⟨by omega,kE hv H' s'⟩
def RM (K:α3)(BW:Addr):Sp:=fun vs H Q E=>∃ (L:Int) (a:Addr) (ws:α2),vs=[.int L,.ref a]/\SqT K H a (ws.map V.int)/\ws.length<=990/\(isW L ws=true->∀ p H',Same H H'->H' p=some (.tup ((F5 L ws).map V.int))->Q (.ref p) H')/\(isW L ws=false->∀ H',Same H H'->E (.ref BW) none H')
theorem OX {f:Addr}{fd:α6}(F:Fun K "next_word" "next_word" CP f fd)(T:Txt mg)
  (Z:Exs K mg C_j2 C_j0)
  {Bg:Addr} {B6:α6} (C3:FnOk P w K mg base (CXe P w) 2 Bg B6 ["letters", "word"] (Nf K C_j0)) (BY:Fun K "check_word" "check_word" BU Bg B6) (C4:Binds K B6 ["letters", "word"] []) (C5:mg "check_word" = some (.ref Bg))
  : FnOk P w K mg base (CXe P w) 3 f fd ["letters", "word"] (RM K C_j0):=by
 refine F.okE Ga (fun vs H Q E h=>?_) (fun cdv A outer s H vs Q E hr h=>?_)
 ·obtain⟨L,a,ws,rfl,_⟩:=h;rfl
 ·obtain⟨L,a,ws,rfl,hw,hz,k',kE⟩:=h
  have hl:=AB
  refine⟨_,(Ac (By (Am C3 (hr.mono (by decide)) rfl C5 BY.kp C4 .nil (YE fun _ _ _ h=>h) (Aa (pvD 0) (Aa (pvD 1) Ad))))
   (Ac (Aj (i:=2) Ga.nd (Ax (lenD Ak) (by rfl) T.len jL_ (Aa (pvD 1) Ad)))
   (Ac (Gx PassesOwn.leaving (PW.pt (IW (ptT (AC (opD0 Yq) (pvD 2) Ae (AW _))) (FY (ptT (AC (opE DV) (Ai (ixTD AG) (pvD 1) (At (opD0 ET) (pvD 2) Ae)) (At (opD0 ET) (pvD 0) Ae) (AW _))))))
   (Ag (Tz (i:=2) Ga.nd rfl (Or.inl rfl) Ae ZM)))
   (Ac (DB (ptT (AC (opE DV) (pvD 2) Ae (AW _)))
   (Ag (AY (At Uh (Do (Aa Ae Ad)) (At (opD0 Cd) (Ax (lenD Ak) (by rfl) T.len jL_ (Aa (pvD 1) Ad)) Ae))))
   Be)
   (Ag (AY (At GA (At GA (VG ZX (pvD 1) Ys (Yt (At (opD0 ET) (pvD 2) Ae))) (Do (Aa (At (opD0 Cd) (Ai (ixTD AG) (pvD 1) (At (opD0 ET) (pvD 2) Ae)) Ae) Ad))) (At Uh (Do (Aa Ae Ad)) (At (opD0 ET) (Ax (lenD Ak) (by rfl) T.len jL_ (Aa (pvD 1) Ad)) (pvD 2)))))))))),?_⟩
  walk_at "rd"
  refine⟨L,a,ws,rfl,hw,by omega,fun hv H1 s1=>?_,kE⟩
  have k:=k' hv
  walk_at "rd"
  have hw1:=s1.seqT hw
  refine⟨_,.inr hw1,?_⟩
  rw[ja_]
  obtain⟨Pv,hPv⟩:∃ Pv:Nat->St->Hp->Prop,∀ m σ2 H2,Pv m σ2 H2↔(H2=H1/\∃ kept:Nat,m=kept/\kept<=ws.length/\(∀ j,kept<=j->j<ws.length->ws[j]?=some (L-1))/\σ2=[some (.int L),some (.ref a),some (.int kept)]):=⟨_,fun _ _ _=>qC_⟩
  refine L8 Pv ⟨ws.length,(hPv _ _ _).mpr ⟨rfl,ws.length,rfl,jl_ _,fun j h1 h2=>absurd h2 (by omega),rfl⟩⟩ ?_
  intro m σ2 H2 hp
  obtain⟨rfl,kept,em,hk,hj,rfl⟩:=(hPv _ _ _).mp hp
  walk_at "rd"
  by_cases h0:0<kept
  ·have hlt:kept-1<ws.length:=by omega
   have hx:ws[kept-1]?=some (ws[kept-1]'hlt):=by simp[hlt]
   have ax:atI (ws.map V.int) ((kept:Int)-1)=some (V.int (ws[kept-1]'hlt)):=D9 (by omega) (by rw[je_,show ((kept:Int)-1).toNat=kept-1 by omega,hx];rfl)
   rw[if_pos (show (0:Int)<kept by omega)]
   refine⟨_,hw1,_,ax,?_⟩
   walk_at "rd"
   refine ite2 (fun he=>?_) (fun hne=>?_)
   ·refine⟨fun σ' H'=>H'=H2/\σ'=[some (.int L),some (.ref a),some (.int ((kept:Int)-1))],fun σ' H' h=>?_,rfl,rfl⟩
    obtain⟨rfl,rfl⟩:=h
    refine⟨kept-1,by omega,(hPv _ _ _).mpr ⟨rfl,kept-1,rfl,by omega,fun j h1 h2=>?_,by rw[show ((kept-1:Nat):Int)=(kept:Int)-1 by omega]⟩⟩
    by_cases e:j=kept-1
    ·subst e;rw[hx,he]
    ·exact hj j (by omega) h2
   ·-- return word[:kept-1]+(word[kept-1]+1,)+(0,) * ..
    rw[if_neg (show ¬ (kept:Int)=0 by omega)]
    have hcut:¬ (HT.sIx (ws.map V.int).length 0 none=0/\HT.sIx (ws.map V.int).length (ws.map V.int).length (some ((kept:Int)-1))=(ws.map V.int).length):=by
     rintro⟨_,h2⟩
     rw[show (kept:Int)-1=((kept-1:Nat):Int) by omega,HT.sIx_nat,ja_] at h2
     omega
    have ecut:cutV (ws.map V.int) none (some ((kept:Int)-1))=(ws.take (kept-1)).map V.int:=by
     rw[VP]
     unfold cutI
     rw[show (kept:Int)-1=((kept-1:Nat):Int) by omega,HT.sIx_nat,HT.sIx_none,List.drop_zero,Nat.sub_zero]
     congr 2
     omega
    refine⟨_,hw1,hcut,fun p1 hp1=>?_⟩
    rw[ecut]
    have t1:Same H2 (upd H2 p1 (.tup ((ws.take (kept-1)).map V.int))):=Same.new hp1
    have q1:(upd H2 p1 (.tup ((ws.take (kept-1)).map V.int))) p1=some (.tup ((ws.take (kept-1)).map V.int)):=Ab
    generalize upd H2 p1 (.tup ((ws.take (kept-1)).map V.int))=H3 at t1 q1 ⊢
    refine⟨_,t1.seqT hw1,_,ax,?_⟩
    walk_at "rd"
    refine⟨by omega,fun p2 hp2=>?_⟩
    refine GX.ofS ((Same.new hp2) _ _ q1) Ab (by simp;omega) fun p3 H4 t4 q3=>?_
    walk_at "rd"
    have t5:Same H2 H4:=(t1.newT hp2).trans t4
    refine⟨by omega,fun p4 hp4=>?_⟩
    have q3':=(Same.new hp4 (o:=.tup [V.int 0])) _ _ q3
    have w4:=((t5.newT hp4 (o:=.tup [V.int 0])).seqT hw1)
    have t6:=t5.newT hp4 (o:=.tup [V.int 0])
    have z4:(upd H4 p4 (.tup [V.int 0])) p4=some (.tup [V.int 0]):=Ab
    generalize upd H4 p4 (.tup [V.int 0])=H5 at q3' w4 t6 z4 ⊢
    refine⟨_,.inr w4,?_⟩
    refine Ug.ofS z4 (by simp) (by omega) (by rw[ja_];omega) (by simp;omega) fun p5 H6 t7 q5=>?_
    refine GX.ofS (t7 _ _ q3') q5 (by simp[Kb];omega) fun p6 H7 t8 q6=>?_
    refine k p6 H7 (s1.trans (t6.trans (t7.trans t8))) ?_
    have e:=OC (L:=L) (w:=ws) (k:=kept-1) hlt (fun j h1 h2=>hj j (by omega) h2) hx (by intro z;exact hne (by rw[z]))
    rw[e]
    rw[Kb] at q6
    have en:(((ws.map V.int).length:Int)-(kept:Int)).toNat=ws.length-(kept-1+1):=by rw[ja_];omega
    rw[en] at q6
    simpa [jR_,zj_] using q6
  ·have h00:kept=0:=by omega
   subst h00
   rw[if_neg (by omega)]
   walk_at "rd"
   refine⟨by omega,fun p1 hp1=>?_⟩
   refine⟨_,.inr ((Same.new hp1).seqT hw1),?_⟩
   refine Ug.ofS Ab (by simp) (by omega) (by rw[ja_];omega) (by simp;omega) fun p5 H6 t7 q5=>?_
   refine k p5 H6 (s1.trans ((Same.new hp1).trans t7)) ?_
   rw[PY (L:=L) (w:=ws) hj]
   rw[Kb] at q5
   have en:(((ws.map V.int).length:Int)+1).toNat=ws.length+1:=by rw[ja_];omega
   rw[en] at q5
   simpa [zj_] using q5
def X4 (K:α3):Sp:=fun vs H Q _=>∃ (L:Int) (m:Nat),vs=[.int L,.int m]/\1<=L/\L<=6/\m<=8/\many L (m+1)<=4000/\∀ p xs H',Same H H'->H p=none->H' p=some (.lst xs)->AE K H' xs ((List.range (many L (m+1)).toNat).map (nth L))->Q (.ref p) H'
theorem Qp {f:Addr}{fd:α6}(F:Fun K "words_to" "words_to" Dq f fd)(T:Txt mg)
  (Z:Exs K mg C_j2 C_j0)
  {CS:Addr} {Gh:α6} (Hk:FnOk P w K mg base (CXe P w) 3 CS Gh ["letters", "word"] (RM K C_j0)) (Eh:Fun K "next_word" "next_word" CP CS Gh) (Hl:Binds K Gh ["letters", "word"] []) (Hm:mg "next_word" = some (.ref CS))
  : FnOk P w K mg base CX0 4 f fd ["letters", "most"] (X4 K):=by
 refine F.ok Ff (fun vs H Q E h=>?_) (fun cdv A outer s H vs Q E hr h=>?_)
 ·obtain⟨L,m,rfl,_⟩:=h;rfl
 ·obtain⟨L,m,rfl,hL1,hL6,hm,hmany,k⟩:=h
  have hl:=AB
  refine⟨_,(Ac (Aj (i:=2) Ff.nd (Ce Ad))
   (Ac (Aj (i:=3) Ff.nd (Do Ad))
   (Ac (Gx jO_ (ptT (AC (opD0 ZR) (Ax (lenD Ak) (by rfl) T.len jL_ (Aa (pvD 3) Ad)) (pvD 1) (AW _)))
   (Ac (By (E9 jz_ jH_ jI_ Bf (pvD 2) (Aa (pvD 3) Ad)))
   (Ag (Aj (i:=3) Ff.nd (Am Hk (hr.mono (by decide)) rfl Hm Eh.kp Hl .nil (Uk (P:=P) (w:=w)) (Aa (pvD 0) (Aa (pvD 3) Ad)))))))
   (Ag (AY (pvD 2)))))),?_⟩
  walk_at "rd"
  refine⟨by omega,fun p hp=>⟨by omega,fun t ht=>?_⟩⟩
  have hpt:p≠t:=fun z=>by rw[<- z,Ab] at ht;cases ht
  obtain⟨Pv,hPv⟩:∃ Pv:Nat->St->Hp->Prop,∀ m' σ2 H2,Pv m' σ2 H2↔(∃ (n:Nat) (t2:Addr) (xs:List V),m'=((many L (m+1)).toNat-n)/\n<=(many L (m+1)).toNat/\Same H H2/\H2 p=some (.lst xs)/\AE K H2 xs ((List.range n).map (nth L))/\H2 t2=some (.tup ((nth L n).map V.int))/\σ2=[some (.int L),some (.int m),some (.ref p),some (.ref t2)]):=⟨_,fun _ _ _=>qC_⟩
  refine L8 Pv ⟨_,(hPv _ _ _).mpr ⟨0,t,[],rfl,j0_ _,(Same.new hp).newT ht,by rw[Ah hpt,Ab],AE.nil,Ab,rfl⟩⟩ ?_
  intro m' σ2 H2 hpv
  obtain⟨n,t2,xs,rfl,hn,s2,hpx,hW,hT,rfl⟩:=(hPv _ _ _).mp hpv
  have hv:=HF (show 0<L by omega) n
  have hiff:=L9 (show 0<L by omega) hv m
  rw[Kc] at hiff
  have hnn:=G4 (show 0<L by omega) (m+1)
  have hxl:=hW.1
  rw[ja_,qO_] at hxl
  walk_at "rd"
  refine⟨_,.inr (SqT.of hT),?_⟩
  rw[ja_]
  refine ite2 (fun hle=>?_) (fun hgt=>?_)
  ·have hle':(nth L n).length<=m:=by omega
   have hlt:=hiff.mp hle'
   refine⟨fun σ' H'=>∃ t3 xs',σ'=[some (.int L),some (.int m),some (.ref p),some (.ref t3)]/\Same H H'/\H' p=some (.lst xs')/\AE K H' xs' ((List.range (n+1)).map (nth L))/\H' t3=some (.tup ((nth L (n+1)).map V.int)),fun σ' H' h=>?_,?_⟩
   ·obtain⟨t3,xs',rfl,s3,hp3,hW3,hT3⟩:=h
    exact⟨_,by omega,(hPv _ _ _).mpr ⟨n+1,t3,xs',rfl,by omega,s3,hp3,hW3,hT3,rfl⟩⟩
   ·have hlen:=Sa (show 0<L by omega) n
    have hT':=TK.lst hpx (o:=.lst (xs ++ [V.ref t2])) _ _ hT
    refine⟨.inl ⟨rfl,_,SqL.of hpx⟩,_,hpx,by omega,L,t2,nth L n,rfl,SqT.of hT',by omega,fun _ t3 H3 s3 hT3=>?_,fun hf=>by rw[hv] at hf;cases hf⟩
    refine⟨t3,xs ++ [V.ref t2],rfl,(s2.over hp).trans s3,s3 _ _ Ab,?_,hT3⟩
    rw[xR_,jR_]
    exact ((hW.mono (TK.lst hpx)).snoc hT').mono (TK.of s3)
  ·have hge:¬ (nth L n).length<=m:=by omega
   have hnl:¬ ((n:Int)<many L (m+1)):=fun z=>hge (hiff.mpr z)
   have e:n=(many L (m+1)).toNat:=by omega
   subst e
   walk_at "rd"
   exact k p xs H2 s2 hp hpx hW
def RO (K:α3)(BW:Addr):Sp:=fun vs H Q E=>∃ (h a:Addr) (L:Int) (marks:α2) (ways:α1) (ws:α2),vs=[.ref h,.ref a]/\BB K H h L marks ways/\Wf L marks ways/\SqT K H a (ws.map V.int)/\ws.length<=600/\(isW L ws=true->∀ p H',Same H H'->H p=none->H' p=some (.lst ((Ma ways ws).map V.int))->Q (.ref p) H')/\(isW L ws=false->∀ H',Same H H'->E (.ref BW) none H')
theorem Wp {f:Addr}{fd:α6}(F:Fun K "trail" "trail" Hb f fd)(T:Txt mg)
  (Z:Exs K mg C_j2 C_j0)
  {Bg:Addr} {B6:α6} (C3:FnOk P w K mg base (CXe P w) 2 Bg B6 ["letters", "word"] (Nf K C_j0)) (BY:Fun K "check_word" "check_word" BU Bg B6) (C4:Binds K B6 ["letters", "word"] []) (C5:mg "check_word" = some (.ref Bg))
  : FnOk P w K mg base (CXe P w) 3 f fd ["house", "word"] (RO K C_j0):=by
 refine F.okE J5 (fun vs H Q E h=>?_) (fun cdv A outer s H vs Q E hr h=>?_)
 ·obtain⟨h,a,L,marks,ways,ws,rfl,_⟩:=h;rfl
 ·obtain⟨h,a,L,marks,ways,ws,rfl,hh,wf,hw,hz,k,kE⟩:=h
  have hl:=AB
  refine⟨_,(Ac (By (Am C3 (hr.mono (by decide)) rfl C5 BY.kp C4 .nil (YE fun _ _ _ h=>h) (Aa (Ai (ixTD AG) (pvD 0) Ae) (Aa (pvD 1) Ad))))
   (PSs.nox (Ac (Aj (i:=2) J5.nd (Ai (ixTD AG) (pvD 0) Ae))
   (Ac (Aj (i:=3) J5.nd (Ce (Aa Ae Ad)))
   (Ac (CJ jO_ rfl (Hy (pvD 1)) (As (i:=4) J5.nd rfl (Or.inl rfl))
   (Ag (By (E9 jz_ jH_ jI_ Bf (pvD 3) (Aa (Ai (ixTD AG) (Ai (ixTD AG) (pvD 2) (Ai (ixLD Bz) (pvD 3) (ZP Xa Ae))) (pvD 4)) Ad)))))
   (Ag (AY (pvD 3)))))))),?_⟩
  walk_at "rd"
  obtain⟨m,wv,h1,h2,h3⟩:=hh
  refine⟨_,h1,_,rfl,L,a,ws,rfl,hw,by omega,fun hv H1 s1=>?_,kE⟩
  walk_at "rd"
  have hw1:=s1.seqT hw
  have h3':=h3.mono s1
  refine⟨_,s1.seqT h1,_,rfl,by omega,fun p hp=>?_⟩
  have s2:=Same.new hp (o:=.lst [V.int 0])
  refine⟨⟨_,s2.seqT hw1⟩,forT (xs:=ws.map V.int) (fun i σ2 H2=>Same H1 H2/\H2 p=some (.lst (((List.range (i+1)).map fun j=>AL ways (ws.take j)).map V.int))/\∃ o,σ2=[some (.ref h),some (.ref a),some (.ref wv),some (.ref p),o]) ⟨s2,by rw[Ab];simp[AL],none,rfl⟩ (fun i σ2 H2 _ h=>h.1.seqT hw1) (fun i x σ2 H2 hx h=>?_) (fun σ2 H2 h=>?_)⟩
  ·obtain⟨s3,hp3,o,rfl⟩:=h
   obtain⟨n,hn,rfl⟩:=DA hx
   have hi:=(jc_.mp hn).1
   have hx:=AT.mp hv n (jg_ hn)
   have hwk:=wf.walk hv i
   obtain⟨row,g,r1,r2,r3,r4,r5⟩:=wf.step hwk.1 hwk.2 hx.1 hx.2
   obtain⟨xs,t,q1,q2,q3⟩:=(h3'.mono s3).atZ hwk.1 r1
   walk_at "rd"
   refine⟨.inl ⟨rfl,_,SqL.of hp3⟩,_,SqL.of hp3,_,Uo (v:=V.int (AL ways (ws.take i))) (by simp),?_⟩
   walk_at "rd"
   refine⟨_,q1,_,q2,?_⟩
   walk_at "rd"
   refine⟨_,q3,_,CH hx.1 r2,_,hp3,by simp;omega,s3.over hp,?_,_,rfl⟩
   rw[Ab,show List.range (i+1+1)=List.range (i+1) ++ [i+1] from xR_,jR_,jR_,<- r3,<- Mb hn]
   rfl
  ·obtain⟨s3,hp3,o,rfl⟩:=h
   walk_at "rd"
   rw[ja_] at hp3
   exact k hv p H2 (s1.trans s3) (s1.free hp) hp3
def Vj (K:α3)(BW:Addr):Sp:=fun vs H Q E=>∃ (h a:Addr) (L:Int) (marks:α2) (ways:α1) (ws:α2),vs=[.ref h,.ref a]/\BB K H h L marks ways/\Wf L marks ways/\SqT K H a (ws.map V.int)/\ws.length<=600/\(isW L ws=true->∀ H',Same H H'->Q (.int (AL ways ws)) H')/\(isW L ws=false->∀ H',Same H H'->E (.ref BW) none H')
theorem LK {f:Addr}{fd:α6}(F:Fun K "room_behind" "room_behind" B3 f fd)(T:Txt mg)
  (Z:Exs K mg C_j2 C_j0)
  {Hn:Addr} {Nh:α6} (Qq:FnOk P w K mg base (CXe P w) 3 Hn Nh ["house", "word"] (RO K C_j0)) (KA:Fun K "trail" "trail" Hb Hn Nh) (Qr:Binds K Nh ["house", "word"] []) (Qs:mg "trail" = some (.ref Hn))
  : FnOk P w K mg base (CXe P w) 4 f fd ["house", "word"] (Vj K C_j0):=by
 refine F.okE LH (fun vs H Q E h=>?_) (fun cdv A outer s H vs Q E hr h=>?_)
 ·obtain⟨h,a,L,marks,ways,ws,rfl,_⟩:=h;rfl
 ·obtain⟨h,a,L,marks,ways,ws,rfl,hh,wf,hw,hz,k,kE⟩:=h
  have hl:=AB
  refine⟨_,(Ag (AY (Ai (ixLD Bz) (Am Qq (hr.mono (by decide)) rfl Qs KA.kp Qr .nil (YE fun _ _ _ h=>h) (Aa (pvD 0) (Aa (pvD 1) Ad))) (ZP Xa Ae)))),?_⟩
  walk_at "rd"
  refine⟨h,a,L,marks,ways,ws,rfl,hh,wf,hw,hz,fun hv p H1 s1 _ hp=>?_,kE⟩
  walk_at "rd"
  refine⟨_,SqL.of hp,_,Uo (v:=V.int (AL ways ws)) ?_,k hv H1 s1⟩
  rw[je_,ja_,MF,show ws.length+1-1=ws.length by omega,PZ];rfl
def Gi (K:α3)(H:Hp)(d:Addr)(ents:List (Int×α2)):Prop:=∃ kvs:List (Key×V),H d=some (.dK kvs)/\kvs.length=ents.length/\∀ (i:Nat) (e:Int×α2),ents[i]?=some e->∃ t,kvs[i]?=some (Sum.inl e.1,V.ref t)/\H t=some (.tup (e.2.map V.int))
theorem Bb_ {H:Hp}{p t:Addr}{xs:List V}{kvs kvs':List (Key×V)}(hp:H p=some (.dK kvs))(h:H t=some (.tup xs)):upd H p (.dK kvs') t=some (.tup xs):=by
 rw[Ah (fun z=>by rw[z,hp] at h;cases h)];exact h
theorem Gi.mono {K:α3}{H H':Hp}{d:Addr}{ents:List (Int×α2)}(h:Gi K H d ents)(s:Same H H'):Gi K H' d ents:=by
 obtain⟨kvs,h1,h2,h3⟩:=h
 refine⟨kvs,s _ _ h1,h2,fun i e he=>?_⟩
 obtain⟨t,a,b⟩:=h3 i e he
 exact⟨t,a,s _ _ b⟩
theorem Gi.off {K:α3}{H:Hp}{d p:Addr}{ents:List (Int×α2)}{zs ys:List V}(h:Gi K H d ents)(hp:H p=some (.lst zs)):Gi K (upd H p (.lst ys)) d ents:=by
 obtain⟨kvs,h1,h2,h3⟩:=h
 refine⟨kvs,by rw[Ah (fun z=>by rw[z,hp] at h1;cases h1)];exact h1,h2,fun i e he=>?_⟩
 obtain⟨t,a,b⟩:=h3 i e he
 exact⟨t,a,TK.lst hp _ _ b⟩
theorem Gi.no {K:α3}{H:Hp}{d:Addr}{ents:List (Int×α2)}(h:Gi K H d ents){g:Int}(hg:g∉ents.map (·.1)):DGet H d (.int g) none:=by
 obtain⟨kvs,h1,h2,h3⟩:=h
 have e:valV kvs (Sum.inl g:Key)=none:=by
  unfold valV
  rw[Option.map_eq_none_iff,zf_]
  intro kv hkv
  obtain⟨i,hi,e⟩:=jY_ hkv
  obtain⟨t,a,_⟩:=h3 i ents[i] (by simp[show i<ents.length by omega])
  have e2:kvs[i]?=some kv:=by rw[ji_ hi,e]
  rw[e2] at a
  cases a
  simp only[qh_]
  intro z
  injection z with z
  exact hg (jv_.mpr ⟨ents[i],j4_ _,z⟩)
 have:=DGet.k (k:=(Sum.inl g:Key)) h1
 rw[e] at this
 exact this
theorem Gi.yes {K:α3}{H:Hp}{d:Addr}{ents:List (Int×α2)}(h:Gi K H d ents)(nod:(ents.map (·.1)).Nodup){g:Int}{w:α2}(hg:(g,w)∈ents):∃ t,DGet H d (.int g) (some (.ref t))/\H t=some (.tup (w.map V.int)):=by
 obtain⟨kvs,h1,h2,h3⟩:=h
 obtain⟨i,hi,ei⟩:=jY_ hg
 have ei':ents[i]?=some (g,w):=by rw[ji_ hi,ei]
 obtain⟨t,a,b⟩:=h3 i _ ei'
 refine⟨t,?_,b⟩
 have hf:valV kvs (Sum.inl g:Key)=some (.ref t):=by
  unfold valV
  cases hq:kvs.find? (fun kv=>decide (kv.1=(Sum.inl g:Key))) with
  | none =>
   rw[zf_] at hq
   have:=hq _ (jg_ a)
   simp at this
  | some kv =>
   have hk:=List.find?_some hq
   simp only[qh_] at hk
   obtain⟨j,hj,ej⟩:=jY_ (xr_ hq)
   have hj':j<ents.length:=by omega
   obtain⟨t',a',b'⟩:=h3 j ents[j] (by simp[hj'])
   have e2:kvs[j]?=some kv:=by rw[ji_ hj,ej]
   rw[e2] at a'
   have a2:kv=(Sum.inl ents[j].1,V.ref t'):=js_ a'
   rw[a2] at hk
   have hk':ents[j].1=g:=by injection hk
   have ij:i=j:=by
    refine (x3_ (h₀:=by simpa using hi) (h₁:=by simpa using hj') nod).mp ?_
    simp[ei,hk']
   subst ij
   rw[e2] at a
   have a3:kv=(Sum.inl g,V.ref t):=js_ a
   rw[a3];rfl
 have:=DGet.k (k:=(Sum.inl g:Key)) h1
 rw[hf] at this
 exact this
theorem Gi.put {K:α3}{H:Hp}{d t:Addr}{ents:List (Int×α2)}{g:Int}{w:α2}(h:Gi K H d ents)(hg:g∉ents.map (·.1))(hz:ents.length<1000)(ht:H t=some (.tup (w.map V.int))):∃ H',DPut H d (.int g) (.ref t) H'/\(∃ kvs kvs',H d=some (.dK kvs)/\H'=upd H d (.dK kvs'))/\Gi K H' d (ents ++ [(g,w)]):=by
 have hno:=h.no hg
 obtain⟨kvs,h1,h2,h3⟩:=h
 have hl:=AB
 have hv:valV kvs (Sum.inl g:Key)=none:=by
  rcases hno with ⟨kvs',k,e,ey,er⟩ | ⟨kvs',k,b,e,ey,_⟩
  ·have e1:kvs'=kvs:=by
    rcases e with e | ⟨o,e⟩
    ·rw[h1] at e;cases e;rfl
    ·rw[h1] at e;cases e
   subst e1
   cases k with
   | inl m =>
    have:m=g:=by injection ey with ey;exact ey.symm
    subst this
    exact er.symm
   | inr m=>cases ey
  ·cases ey
 have hp:putK kvs (Sum.inl g:Key) (V.ref t)=kvs ++ [(Sum.inl g,V.ref t)]:=by
  unfold putK
  rw[Fa,hv]
  rfl
 refine⟨_,DPut.k (k:=(Sum.inl g:Key)) h1 (by omega),⟨kvs,_,h1,rfl⟩,kvs ++ [(Sum.inl g,V.ref t)],by rw[Ab,hp],by simp[h2],fun i e he=>?_⟩
 by_cases hi:i<ents.length
 ·rw[jk_ hi] at he
  obtain⟨t',a,b⟩:=h3 i e he
  exact⟨t',by rw[jk_ (by omega)];exact a,Bb_ h1 b⟩
 ·have hlt:=(jc_.mp he).1
  rw[jq_,j3_] at hlt
  have e1:i=ents.length:=by omega
  subst e1
  rw[jt_ (jl_ _),q2_] at he
  simp at he
  subst he
  exact⟨t,by rw[jt_ (by omega),h2,q2_];rfl,Bb_ h1 ht⟩
def IA (K:α3):Sp:=fun vs H Q _=>∃ (h:Addr) (L:Int) (marks:α2) (ways:α1),vs=[.ref h]/\BB K H h L marks ways/\Wf L marks ways/\∀ d top H',Same H H'->H d=none->Gi K H' d (Az ways)->Bfs L marks.length ways (Az ways) (Az ways).length top->Q (.ref d) H'
theorem Qt {f:Addr}{fd:α6}(F:Fun K "words_in" "words_in" CW f fd)(T:Txt mg)
  (Z:Exs K mg C_j2 C_j0)
  : FnOk P w K mg base CX0 1 f fd ["house"] (IA K):=by
 refine F.ok Cu (fun vs H Q E h=>?_) (fun cdv A outer s H vs Q E hr h=>?_)
 ·obtain⟨h,L,marks,ways,rfl,_⟩:=h;rfl
 ·obtain⟨h,L,marks,ways,rfl,hh,wf,k⟩:=h
  have hl:=AB
  have hL1:=wf.l1
  have hn1:=wf.n1
  have hn40:=wf.n40
  refine⟨_,(@Ac _ _ _ _ _ (@YI _ 1 _ _ _ _ _ _ _ _ Cu.nd rfl (Or.inl rfl) Ae (Do Ad) rfl (Or.inl rfl))
   (Ac (Aj (i:=2) Cu.nd (Ce (Aa Ae Ad)))
   (Ac (Aj (i:=3) Cu.nd Ae)
   (Ac (Gx jO_ (ptT (AC (opD0 Lz) (pvD 3) (Ax (lenD Ak) (by rfl) T.len jL_ (Aa (pvD 2) Ad)) (AW _)))
   (Ac (Aj (i:=4) Cu.nd (Ai (ixLD Bz) (pvD 2) (pvD 3)))
   (Ac (CJ jO_ rfl (VR rfl T.enumerate (Ai (ixTD AG) (Ai (ixTD AG) (pvD 0) Ae) (pvD 4))) (W7 rfl (JT (As (i:=5) Cu.nd rfl (Or.inl rfl)) (JT (As (i:=6) Cu.nd rfl (Or.inl rfl)) Tw)))
   (Ag (DB (W6 (Ot (Op hr) (pvD 6) (pvD 1)))
   (Ac (PM (Op hr) (pvD 1) (pvD 6) (At GA (T3 (Op hr) (pvD 1) (pvD 4) (fun _ _=>rfl)) (Do (Aa (pvD 5) Ad))) rfl)
   (Ag (By (E9 jz_ jH_ jI_ Bf (pvD 2) (Aa (pvD 6) Ad)))))
   Be)))
   (Ag (Tz (i:=3) Cu.nd rfl (Or.inl rfl) Ae W8)))))
   (Ag (AY (pvD 1))))))),?_⟩
  walk_at "rd"
  intro p hp
  refine⟨by omega,fun p1 hp1=>⟨Same.new hp1 _ _ Ab,[(Sum.inl 0,V.ref p1)],rfl,by simp,by omega,fun p2 hp2=>?_⟩⟩
  have hm1:IY [] [((Sum.inl 0:Key),V.ref p1)]=[((Sum.inl 0:Key),V.ref p1)]:=rfl
  rw[hm1] at hp2 ⊢
  have hne1:p1≠p:=(AM hp1).2
  have hne2:p2≠p:=(AM hp2).2
  have s0:Same H (upd (upd (upd (upd H p (.dK [])) p1 (.tup [])) p (.dK [(Sum.inl 0,V.ref p1)])) p2 (.lst [V.int 0])):=(((Same.new hp).newT hp1).over hp).newT hp2
  have en0:Gi K (upd (upd (upd (upd H p (.dK [])) p1 (.tup [])) p (.dK [(Sum.inl 0,V.ref p1)])) p2 (.lst [V.int 0])) p [(0,[])]:=by
   refine⟨[(Sum.inl 0,V.ref p1)],Same.new hp2 _ _ Ab,rfl,fun i e he=>?_⟩
   cases i with
   | zero =>
    simp at he
    subst he
    refine⟨p1,rfl,?_⟩
    refine Same.new hp2 _ _ ?_
    rw[Ah hne1];exact Ab
   | succ i=>simp at he
  have hr0:upd (upd (upd (upd H p (.dK [])) p1 (.tup [])) p (.dK [(Sum.inl 0,V.ref p1)])) p2 (.lst [V.int 0]) p2=some (.lst ((([(0,[])]:List (Int×α2)).map (·.1)).map V.int)):=Ab
  have hp2n:H p2=none:=by
   have h1:=(AM hp2).1
   have h2:=(AM h1).1
   exact (AM h2).1
  generalize upd (upd (upd (upd H p (.dK [])) p1 (.tup [])) p (.dK [(Sum.inl 0,V.ref p1)])) p2 (.lst [V.int 0])=H0 at s0 en0 hr0 ⊢
  clear hp1 hp2 hm1
  obtain⟨Pv,hPv⟩:∃ Pv:Nat->St->Hp->Prop,∀ m σ2 H2,Pv m σ2 H2↔(∃ (ents:List (Int×α2)) (i:Nat) (top:Int) (o4 o5 o6:Option V),m=marks.length+1-i/\Same H H2/\Gi K H2 p ents/\H2 p2=some (.lst ((ents.map (·.1)).map V.int))/\Bfs L marks.length ways ents i top/\(∀ e,ents[i]?=some e->top<=place L e.2*L+1)/\bfs ways (marks.length+1-i) ents i=Az ways/\σ2=[some (.ref h),some (.ref p),some (.ref p2),some (.int i),o4,o5,o6]):=⟨_,fun _ _ _=>qC_⟩
  refine L8 Pv ⟨_,(hPv _ _ _).mpr ⟨[(0,[])],0,1,none,none,none,rfl,s0,en0,hr0,Bfs.start L hn1 ways,fun e he=>?_,by unfold Az;rw[wf.len];rfl,rfl⟩⟩ ?_
  ·simp at he;subst he;simp[place,De]
  intro m σ2 H2 hpv
  obtain⟨ents,i,top,o4,o5,o6,rfl,s2,en2,hr2,bf,htop,hbfs,rfl⟩:=(hPv _ _ _).mp hpv
  have hbl:=bf.len
  walk_at "rd"
  refine⟨_,.inl (SqL.of hr2),?_⟩
  rw[ja_,ja_]
  refine ite2 (fun hlt=>?_) (fun hge=>?_)
  ·have hi:i<ents.length:=by omega
   obtain⟨e,he⟩:∃ e,ents[i]?=some e:=⟨ents[i],by simp[hi]⟩
   obtain⟨r,w⟩:=e
   have hmem:=jg_ he
   have hr':=bf.rng _ hmem
   have htop':top<=place L w*L+1:=htop _ he
   obtain⟨row,hrow,hrm,hrl⟩:=wf.row hr'.1 hr'.2
   have hgd:ways.getD r.toNat []=row:=by rw[jd_,hrow];rfl
   obtain⟨mm,wv,q1,q2,q3⟩:=id hh
   obtain⟨xs,t,z1,z2,z3⟩:=q3.atZ hr'.1 hrow
   refine⟨Pv (marks.length+1-(i+1)),fun σ' H' h=>⟨_,by omega,h⟩,?_⟩
   refine⟨_,SqL.of hr2,_,CH (v:=r) (by omega) (by rw[jh_,je_,he];rfl),?_⟩
   walk_at "rd"
   refine⟨_,s2.seqT q1,_,rfl,?_⟩
   walk_at "rd"
   refine⟨_,s2.seqT z1,_,z2,?_⟩
   walk_at "rd"
   refine⟨_,s2.seqT z3,?_⟩
   obtain⟨Pn,hPn⟩:∃ Pn:Nat->St->Hp->Prop,∀ x σ3 H3,Pn x σ3 H3↔(∃ (ents':List (Int×α2)) (o5 o6:Option V),Same H H3/\Gi K H3 p ents'/\H3 p2=some (.lst ((ents'.map (·.1)).map V.int))/\Bfs L marks.length ways ents' i (place L w*L+(x:Int)+1)/\Seen L ways ents' r w x/\ents'[i]?=some (r,w)/\EA w ents' x (row.drop x)=EA w ents 0 row/\σ3=[some (.ref h),some (.ref p),some (.ref p2),some (.int i),some (.int r),o5,o6]):=⟨_,fun _ _ _=>qC_⟩
   refine forN Pn ((hPn _ _ _).mpr ⟨ents,o5,o6,s2,en2,hr2,bf.up (by push_cast;omega),(fun y h0 h1=>absurd h1 (by push_cast;omega)),he,rfl,rfl⟩) (fun x σ3 H3 _ h3=>?_) (fun x v σ3 H3 t' hx h3 ht'=>?_) (fun σ3 H3 h3=>?_)
   ·obtain⟨ents',_,_,s3,_⟩:=(hPn _ _ _).mp h3
    exact s3.seqT z3
   ·obtain⟨ents',o5,o6,s3,en3,hr3,bf3,se3,he3,had,rfl⟩:=(hPn _ _ _).mp h3
    obtain⟨g,hg,rfl⟩:=DA hx
    have hxl:=(jc_.mp hg).1
    have hgin:=(wf.rows row hrm).2 g (jg_ hg)
    have hgs:g=Bm ways r (x:Int):=(BM hrow (by rw[jh_];exact hg)).symm
    have hmem3:=jg_ he3
    have hdrop:row.drop x=g::row.drop (x+1):=by
     rw[q0_ hxl]
     congr 1
     exact (jc_.mp hg).2
    obtain⟨bf4,se4⟩:=bf3.letter (by omega) se3 hmem3 (by omega) hgs hgin
    have he4:=G9 (g:=g) (v:=w ++ [(x:Int)]) he3
    rw[hdrop,G8] at had
    have sT:=s3.newT ht' (o:=.tup [V.int x,V.int g])
    have enT:=en3.mono (Same.new ht' (o:=.tup [V.int x,V.int g]))
    have hrT:=Same.new ht' (o:=.tup [V.int x,V.int g]) _ _ hr3
    walk_at "rd"
    refine⟨_,SqT.of Ab,rfl,?_⟩
    walk_at "rd"
    generalize upd H3 t' (.tup [V.int x,V.int g])=HT' at sT enT hrT ⊢
    by_cases hm:g∈ents'.map (·.1)
    ·rw[if_pos hm] at bf4 se4 he4 had
     obtain⟨e',he',e1⟩:=jv_.mp hm
     obtain⟨g',w'⟩:=e'
     have e1:g'=g:=e1
     subst e1
     obtain⟨tt,dg,_⟩:=enT.yes bf3.nod he'
     refine⟨_,dg,?_⟩
     rw[if_neg (by simp)]
     exact (hPn _ _ _).mpr ⟨ents',_,_,sT,enT,hrT,bf4,se4,he4,had,rfl⟩
    ·rw[if_neg hm] at bf4 se4 he4 had
     refine⟨_,enT.no hm,?_⟩
     rw[if_pos (by simp)]
     obtain⟨tw,dw,hw'⟩:=enT.yes bf3.nod hmem3
     refine⟨_,dw,by omega,fun q5 hq5=>?_⟩
     have hwl:w.length<=100:=by
      have h1:w.length<=i:=bf3.sh i _ he3
      omega
     refine GX.ofS (Same.new hq5 _ _ hw') Ab (by simp;omega) fun q6 H6 s6 hq6=>?_
     have sU:=(sT.newT hq5).trans s6
     have enU:=(enT.mono (Same.new hq5)).mono s6
     have hrU:=s6 _ _ (Same.new hq5 _ _ hrT)
     have hq6':H6 q6=some (.tup ((w ++ [(x:Int)]).map V.int)):=by simpa using hq6
     obtain⟨H7,dp,⟨kvs,kvs',hd,rfl⟩,enV⟩:=enU.put hm (by have:=bf3.len;omega) hq6'
     walk_at "rd"
     refine⟨_,dp,?_⟩
     have hrV:upd H6 p (.dK kvs') p2=some (.lst ((ents'.map (·.1)).map V.int)):=by rw[Ah hne2];exact hrU
     refine⟨.inl ⟨rfl,_,SqL.of hrV⟩,_,hrV,by have:=bf3.len;simp;omega,(hPn _ _ _).mpr ⟨ents' ++ [(g,w ++ [(x:Int)])],_,_,(sU.over hp).over hp2n,enV.off hrV,by rw[Ab];simp,bf4,se4,he4,had,rfl⟩⟩
   ·obtain⟨ents',o5,o6,s3,en3,hr3,bf3,se3,he3,had,rfl⟩:=(hPn _ _ _).mp h3
    rw[ja_] at bf3 se3 had
    rw[List.drop_length,Il] at had
    walk_at "rd"
    obtain⟨bf4,htop4⟩:=bf3.next (by omega) hrl se3 he3
    refine (hPv _ _ _).mpr ⟨ents',i+1,_,_,_,_,rfl,s3,en3,hr3,bf4,htop4,?_,by push_cast;rfl⟩
    rw[show marks.length+1-i=(marks.length+1-(i+1))+1 by omega,ML he] at hbfs
    rw[had,<- hgd]
    exact hbfs
  ·have hi:i=ents.length:=by have:=bf.il;omega
   subst hi
   rw[MK (by simp)] at hbfs
   rw[<- hbfs] at k
   exact k p top H2 s2 hp en2 bf
def Bz_ (H:Hp)(d:Addr)(ents:List (Int×α2))(n:Nat):Prop:=∃ xs:List V,H d=some (.lst xs)/\xs.length=n/\∀ r:Nat,r<n->(∃ (w:α2) (t:Addr),((r:Int),w)∈ents/\xs[r]?=some (.ref t)/\H t=some (.tup (w.map V.int)))\/((r:Int)∉ents.map (·.1)/\xs[r]?=some .non)
def OY (K:α3):Sp:=fun vs H Q _=>∃ (h:Addr) (L:Int) (marks:α2) (ways:α1),vs=[.ref h]/\BB K H h L marks ways/\Wf L marks ways/\∀ d top H',Same H H'->H d=none->Bz_ H' d (Az ways) marks.length->Bfs L marks.length ways (Az ways) (Az ways).length top->Q (.ref d) H'
theorem SL {f:Addr}{fd:α6}(F:Fun K "ways_in" "ways_in" Eb f fd)(T:Txt mg)
  (Z:Exs K mg C_j2 C_j0)
  {BS:Addr} {CT:α6} (DY:FnOk P w K mg base CX0 1 BS CT ["house"] (IA K)) (C6:Fun K "words_in" "words_in" CW BS CT) (DZ:Binds K CT ["house"] []) (D0:mg "words_in" = some (.ref BS))
  : FnOk P w K mg base CX0 2 f fd ["house"] (OY K):=by
 refine F.ok Mn (fun vs H Q E h=>?_) (fun cdv A outer s H vs Q E hr h=>?_)
 ·obtain⟨h,L,marks,ways,rfl,_⟩:=h;rfl
 ·obtain⟨h,L,marks,ways,rfl,hh,wf,k⟩:=h
  have hl:=AB
  have hn40:=wf.n40
  refine⟨_,(Ac (CI (i:=1) Mn.nd rfl (Or.inr rfl) (Am DY (hr.mono (by decide)) rfl D0 C6.kp DZ .nil Bc (Aa (pvD 0) Ad)))
   (Ag (AY (Ci rfl (Cp rfl) (cp:=Kv) (te:=T6 (Sr 1) (Sr 0)) ⟨⟨rfl,rfl⟩,True.intro⟩ (BO rfl T.range (Aa (Ax (lenD Ak) (by rfl) T.len jL_ (Aa (Ai (ixTD AG) (pvD 0) Ae) Ad)) Ad)) (fun _ _ _ _=>(As (i:=0) LJ rfl (Or.inl rfl))) (fun _ _ _ _=>CG) (fun _ _ _ _=>(by exact (VM (Op hr) (pvD 1) (pvD 0) ⟨rfl,rfl,rfl,rfl⟩))))))),?_⟩
  walk_at "rd"
  refine⟨h,L,marks,ways,rfl,hh,wf,fun d top H1 s1 hd en bf=>?_⟩
  obtain⟨mm,wv,q1,q2,q3⟩:=hh.mono s1
  walk_at "rd"
  refine⟨_,q1,_,rfl,?_⟩
  walk_at "rd"
  refine⟨_,.inr q2,?_⟩
  rw[ja_]
  refine⟨by omega,by omega,?_⟩
  rw[jh_]
  obtain⟨Pc,hPc⟩:∃ Pc:Nat->List V->St->Hp->Prop,∀ j ys σ4 H4,Pc j ys σ4 H4↔(H4=H1/\ys.length=j/\(∀ r:Nat,r<j->(∃ (w:α2) (t:Addr),((r:Int),w)∈Az ways/\ys[r]?=some (.ref t)/\H1 t=some (.tup (w.map V.int)))\/((r:Int)∉(Az ways).map (·.1)/\ys[r]?=some .non))/\∃ o,σ4=[o,some (.ref d)]):=⟨_,fun _ _ _ _=>qC_⟩
  refine Uf Pc ((hPc _ _ _ _).mpr ⟨rfl,rfl,(fun r hr=>absurd hr (xE_ _)),none,rfl⟩) (by omega) (fun j ys σ4 H4 _ h4=>?_) (fun j ys σ4 H4 hj h4=>?_) (fun ys σ4 H4 h4 D hD=>?_)
  ·obtain⟨_,hlen,_⟩:=(hPc _ _ _ _).mp h4
   omega
  ·obtain⟨rfl,hlen,hall,o,rfl⟩:=(hPc _ _ _ _).mp h4
   obtain⟨kvs,hk1,_⟩:=id en
   have ext:∀ v:V,((∃ (w:α2) (t:Addr),((j:Int),w)∈Az ways/\v=.ref t/\H4 t=some (.tup (w.map V.int)))\/((j:Int)∉(Az ways).map (·.1)/\v=.non))->∀ o,Pc (j+1) (ys ++ [v]) [o,some (.ref d)] H4:=fun v hv o=>by
    refine (hPc _ _ _ _).mpr ⟨rfl,by simp[hlen],fun r hr=>?_,o,rfl⟩
    by_cases hrj:r<j
    ·rw[jk_ (by omega)]
     exact hall r hrj
    ·have e:r=j:=by omega
     subst e
     rw[jt_ (by omega),hlen,q2_]
     rcases hv with ⟨w,t,a,b,c⟩ | ⟨a,b⟩
     ·exact .inl ⟨w,t,a,by rw[b];rfl,c⟩
     ·exact .inr ⟨a,by rw[b];rfl⟩
   walk_at "rd"
   refine⟨.inl ⟨kvs,.inl hk1⟩,?_⟩
   have ej:(0:Int)+(j:Nat)=(j:Int):=by omega
   rw[ej]
   by_cases hm:(j:Int)∈(Az ways).map (·.1)
   ·obtain⟨e',he',e1⟩:=jv_.mp hm
    obtain⟨g',w'⟩:=e'
    have e1:g'=(j:Int):=e1
    subst e1
    obtain⟨tt,dg,hw⟩:=en.yes bf.nod he'
    exact⟨_,dg,ext _ (.inl ⟨w',tt,he',rfl,hw⟩) _⟩
   ·exact⟨_,en.no hm,ext _ (.inr ⟨hm,rfl⟩) _⟩
  ·obtain⟨rfl,hlen,hall,o,rfl⟩:=(hPc _ _ _ _).mp h4
   refine k D top _ (s1.newT hD) (s1.free hD) ⟨ys,Ab,hlen,fun r hr=>?_⟩ bf
   rcases hall r hr with ⟨w,t,a,b,c⟩ | h
   ·exact .inl ⟨w,t,a,b,Same.new hD _ _ c⟩
   ·exact .inr h
structure RF (L n:Nat)(ways:α1)(R:α2):Prop where
 hd:R[0]?=some 0
 nod:R.Nodup
 rng:∀ r∈R,0<=r/\r<(n:Int)
 len:R.length<=n
 cls:∀ r∈R,∀ x:Nat,x<L->Bm ways r (x:Int)∈R
theorem RF.of {L n:Nat}{ways:α1}{top:Int}(bf:Bfs L n ways (Az ways) (Az ways).length top):RF L n ways ((Az ways).map (·.1)):=by
 refine⟨by rw[je_,bf.hd];rfl,bf.nod,fun r hr=>?_,by rw[ja_];exact bf.len,fun r hr x hx=>?_⟩
 ·obtain⟨e,he,rfl⟩:=jv_.mp hr
  exact bf.rng e he
 ·obtain⟨e,he,rfl⟩:=jv_.mp hr
  obtain⟨j,hj⟩:=jK_.mp he
  obtain⟨e',h1,h2,_⟩:=bf.don j (jc_.mp hj).1 e hj (x:Int) (by omega) (by omega)
  rw[<- h2]
  exact xe_ h1
def IB (K:α3):Sp:=fun vs H Q _=>∃ (h:Addr) (L:Nat) (marks:α2) (ways:α1),vs=[.ref h]/\BB K H h L marks ways/\Wf L marks ways/\∀ p H',Same H H'->H p=none->H' p=some (.lst (((Az ways).map (·.1)).map V.int))->RF L marks.length ways ((Az ways).map (·.1))->Q (.ref p) H'
theorem SM {f:Addr}{fd:α6}(F:Fun K "reached" "reached" DC f fd)(T:Txt mg)
  (Z:Exs K mg C_j2 C_j0)
  {BS:Addr} {CT:α6} (DY:FnOk P w K mg base CX0 1 BS CT ["house"] (IA K)) (C6:Fun K "words_in" "words_in" CW BS CT) (DZ:Binds K CT ["house"] []) (D0:mg "words_in" = some (.ref BS))
  : FnOk P w K mg base CX0 2 f fd ["house"] (IB K):=by
 refine F.ok SI (fun vs H Q E h=>?_) (fun cdv A outer s H vs Q E hr h=>?_)
 ·obtain⟨h,L,marks,ways,rfl,_⟩:=h;rfl
 ·obtain⟨h,L,marks,ways,rfl,hh,wf,k⟩:=h
  refine⟨_,(Ag (AY (AX (LC rfl) rfl T.list xf_ (Aa (Am DY (hr.mono (by decide)) rfl D0 C6.kp DZ .nil Bc (Aa (pvD 0) Ad)) Ad)))),?_⟩
  walk_at "rd"
  refine⟨h,L,marks,ways,rfl,hh,wf,fun d top H1 s1 hd en bf=>?_⟩
  obtain⟨kvs,h1,h2,h3⟩:=en
  refine⟨d,rfl,kvs,h1,fun l hl=>k l _ (s1.newT hl) (s1.free hl) ?_ (RF.of bf)⟩
  rw[Ab]
  congr 2
  refine qc_ fun i=>?_
  rw[je_,je_,je_]
  cases he:(Az ways)[i]? with
  | none =>
   have:kvs[i]?=none:=by rw[xp_] at he ⊢;omega
   rw[this];rfl
  | some e =>
   obtain⟨t,a,_⟩:=h3 i e he
   rw[a];rfl
def numD {α κ:Type}[DecidableEq α](k:α->κ)(ks:List α):List (κ×V):=ks.map fun x=>(k x,V.int ((ks.idxOf x:Nat):Int))
theorem Fh {α κ:Type}[DecidableEq α]{k:α->κ}{ks:List α}:(numD k ks).length=ks.length:=by unfold numD;rw[ja_]
theorem EZ {α κ:Type}[DecidableEq α][DecidableEq κ]{k:α->κ}(hk:∀ x y,k x=k y->x=y){ks:List α}(nd:ks.Nodup){x:α}(hx:x∈ks):valV (numD k ks) (k x)=some (V.int ((ks.idxOf x:Nat):Int)):=by
 have hi:=qv_ hx
 refine YM (i:=ks.idxOf x) ?_ ?_
 ·unfold numD
  rw[jQ_]
  exact List.Pairwise.map _ (fun a b hab z=>hab (hk a b z)) nd
 ·unfold numD
  rw[je_,ji_ hi,qU_];rfl
theorem HZ {α κ:Type}[DecidableEq α][DecidableEq κ]{k:α->κ}(hk:∀ x y,k x=k y->x=y){ks:List α}{x:α}(hx:x∉ks):valV (numD k ks) (k x)=none:=by
 have h1:=Fa (k x) (numD k ks)
 have h2:((numD k ks).any fun kv=>decide (kv.1=k x))=false:=by
  rw[List.any_eq_false]
  intro p hp
  unfold numD at hp
  obtain⟨y,hy,rfl⟩:=jv_.mp hp
  simp only[qh_]
  intro z
  exact hx (hk _ _ z ▸ hy)
 rw[h2] at h1
 cases q:valV (numD k ks) (k x) with
 | none=>rfl
 | some v=>rw[q] at h1;cases h1
theorem Ni {α κ:Type}[DecidableEq α][DecidableEq κ]{k:α->κ}(hk:∀ x y,k x=k y->x=y){ks:List α}{x:α}(hx:x∉ks):putK (numD k ks) (k x) (V.int ((ks.length:Nat):Int))=numD k (ks ++ [x]):=by
 rw[VH _ (HZ hk hx)]
 unfold numD
 rw[jR_,List.map_singleton,Qa hx]
 congr 1
 exact qd_ fun y hy=>by rw[V4 hy]
theorem Fi {α:Type}[DecidableEq α]{row:List α}{i:Nat}{x:α}(h:row[i]?=some x):AA (row.take (i+1))=ins1 (AA (row.take i)) x:=by
 rw[jP_,h];exact P8 _ _
theorem Nj {α:Type}[DecidableEq α](row:List α)(i:Nat):(AA (row.take i)).length<=row.length:=by
 have h1:=Md (row.take i)
 unfold ncl at h1
 rw[jx_] at h1
 omega
def X5 (K:α3):Sp:=fun vs H Q _=>∃ (a:Addr),vs=[.ref a]/\((∃ ns:α2,SqT K H a (ns.map V.int)/\ns.length<=100/\∀ l H',Same H H'->H l=none->H' l=some (.lst ((num ns).map V.int))->Q (.ref l) H')\/(∃ (xs:List V) (ws:α1),SqL K H a xs/\AE K H xs ws/\ws.length<=100/\∀ l H',Same H H'->H l=none->H' l=some (.lst ((num ws).map V.int))->Q (.ref l) H'))
theorem Qu {f:Addr}{fd:α6}(F:Fun K "numbered" "numbered" Dr f fd)(T:Txt mg)
  (Z:Exs K mg C_j2 C_j0)
  : FnOk P w K mg base CX0 1 f fd ["row"] (X5 K):=by
 refine F.ok Hd (fun vs H Q E h=>?_) (fun cdv A outer s H vs Q E hr h=>?_)
 ·obtain⟨a,rfl,_⟩:=h;rfl
 ·obtain⟨a,rfl,hab⟩:=h
  have hl:=AB
  refine⟨_,(Ac (CI (i:=1) Hd.nd rfl (Or.inr rfl) V3)
   (Ac (CJ jO_ rfl (Xx (pvD 0)) (As (i:=2) Hd.nd rfl (Or.inl rfl))
   (Ag (DB (W6 (Ot (Op hr) (pvD 2) (pvD 1)))
   (Ag (PM (Op hr) (pvD 1) (pvD 2) (Ax OH (by rfl) T.len jL_ (Aa (pvD 1) Ad)) rfl))
   Be)))
   (Ag (AY (Ci rfl (Cp rfl) (cp:=Jc) ⟨⟨rfl,rfl⟩,True.intro⟩ (Xx (pvD 0)) (fun _ _ _ _=>(As (i:=0) Kw rfl (Or.inl rfl))) (fun _ _ _ _=>CG) (fun _ _ _ _=>(T3 (Op hr) (pvD 1) (pvD 0) (fun _ _=>rfl)))))))),?_⟩
  rcases hab with ⟨ns,ha,hz,k⟩ | ⟨xs,ws,ha,hW,hz,k⟩
  ·walk_at "rd"
   refine .inl fun d hd=>?_
   have sd:=Same.new hd (o:=.dK [])
   have hki:∀ x y:Int,(Sum.inl x:Key)=Sum.inl y->x=y:=fun x y z=>Sum.inl.inj z
   obtain⟨Pv,hPv⟩:∃ Pv:Nat->St->Hp->Prop,∀ i σ' H',Pv i σ' H'↔(∃ o:Option V,Same H H'/\H' d=some (.dK (numD (fun x:Int=>(Sum.inl x:Key)) (AA (ns.take i))))/\σ'=[some (.ref a),some (.ref d),o]):=⟨_,fun _ _ _=>qC_⟩
   refine .inr ⟨⟨_,sd.seqT ha⟩,forT (xs:=ns.map V.int) Pv ((hPv _ _ _).mpr ⟨none,sd,Ab,rfl⟩) (fun i σ' H' _ h'=>by obtain⟨_,s',_⟩:=(hPv _ _ _).mp h';exact s'.seqT ha) (fun i x σ' H' hx h'=>?_) (fun σ' H' h'=>?_)⟩
   ·obtain⟨o,s',hd',rfl⟩:=(hPv _ _ _).mp h'
    obtain⟨n,hn,rfl⟩:=DA hx
    have hfl:=Nj ns i
    have nd:=BC (ns.take i)
    have et:=Fi hn
    walk_at "rd"
    refine⟨_,DGet.k (k:=Sum.inl n) hd',?_⟩
    by_cases hm:n∈AA (ns.take i)
    ·rw[EZ hki nd hm]
     simp only[zT_,z3_,jN_,qP_]
     exact (hPv _ _ _).mpr ⟨_,s',by rw[et,ins1,if_pos hm];exact hd',rfl⟩
    ·rw[HZ hki hm]
     simp only[Option.isSome_none,zX_,xY_]
     have hput:=Ni (k:=fun x:Int=>(Sum.inl x:Key)) hki hm
     refine .inl ⟨_,hd',_,DPut.k (k:=Sum.inl n) hd' (by rw[Fh];omega),(hPv _ _ _).mpr ⟨_,s'.over hd,?_,rfl⟩⟩
     rw[Ab,et,ins1,if_neg hm,Fh]
     exact jJ_ (fun z=>some (HO.dK z)) hput
   ·obtain⟨o,s',hd',rfl⟩:=(hPv _ _ _).mp h'
    rw[ja_,jU_] at hd'
    walk_at "rd"
    obtain⟨f,hf⟩:∃ f:V->V,∀ n:Int,f (V.int n)=.int (((AA ns).idxOf n:Nat):Int):=⟨fun x=>match x with | .int n=>.int (((AA ns).idxOf n:Nat):Int) | _=>.non,fun _=>rfl⟩
    refine .inr ⟨⟨_,s'.seqT ha⟩,Gz (σ':=[some (.ref d)]) f rfl (s'.seqT ha) (by rw[ja_];omega) (fun x hx R hR=>?_) (fun D hD=>?_)⟩
    ·obtain⟨n,hn,rfl⟩:=Ez hx
     rw[hf] at hR
     have e:=EZ (k:=fun x:Int=>(Sum.inl x:Key)) hki (BC ns) (A2.mpr hn)
     have hg:=DGet.k (k:=Sum.inl n) hd'
     rw[e] at hg
     walk_at "rd"
     exact⟨_,hg,hR⟩
    ·have em:(ns.map V.int).map f=(num ns).map V.int:=by
      unfold num
      rw[jQ_,jQ_]
      exact qd_ fun n _=>hf n
     exact k D _ (s'.newT hD) (s'.none hD) (by rw[Ab,em])
  ·walk_at "rd"
   refine .inr fun d hd=>?_
   have sd:=Same.new hd (o:=.dT [])
   obtain⟨Pv,hPv⟩:∃ Pv:Nat->St->Hp->Prop,∀ i σ' H',Pv i σ' H'↔(∃ o:Option V,Same H H'/\H' d=some (.dT (numD wkey (AA (ws.take i))))/\σ'=[some (.ref a),some (.ref d),o]):=⟨_,fun _ _ _=>qC_⟩
   refine .inl ⟨⟨_,sd.seq ha⟩,forL (xs:=xs) Pv ((hPv _ _ _).mpr ⟨none,sd,Ab,rfl⟩) (fun i σ' H' _ h'=>by obtain⟨_,s',_⟩:=(hPv _ _ _).mp h';exact s'.seq ha) (fun i x σ' H' hx h'=>?_) (fun σ' H' h'=>?_)⟩
   ·obtain⟨o,s',hd',rfl⟩:=(hPv _ _ _).mp h'
    obtain⟨t,v,hvi,rfl,ht⟩:=hW.at hx
    have hfl:=Nj ws i
    have nd:=BC (ws.take i)
    have et:=Fi hvi
    have ht':H' t=some (.tup ((wkey v).map kV)):=by rw[MR];exact s' _ _ ht
    walk_at "rd"
    refine⟨_,DGet.t hd' ht',?_⟩
    by_cases hm:v∈AA (ws.take i)
    ·rw[EZ (fun x y z=>HG z) nd hm]
     simp only[zT_,z3_,jN_,qP_]
     exact (hPv _ _ _).mpr ⟨_,s',by rw[et,ins1,if_pos hm];exact hd',rfl⟩
    ·rw[HZ (fun x y z=>HG z) hm]
     simp only[Option.isSome_none,zX_,xY_]
     refine .inr ⟨_,hd',_,DPut.t (k:=wkey v) hd' ht' (by rw[Fh];omega),(hPv _ _ _).mpr ⟨_,s'.over hd,?_,rfl⟩⟩
     rw[Ab,et,ins1,if_neg hm,Fh,Ni (fun x y z=>HG z) hm]
   ·obtain⟨o,s',hd',rfl⟩:=(hPv _ _ _).mp h'
    rw[hW.1,jU_] at hd'
    walk_at "rd"
    refine .inl ⟨⟨_,s'.seq ha⟩,PR (xs:=xs) (fun i zs σ2 H2=>H2=H'/\zs=((num ws).take i).map V.int/\∃ o,σ2=[o,some (.ref d)]) ⟨rfl,rfl,none,rfl⟩ (by rw[hW.1];omega) (fun i zs σ2 H2 hi h2=>⟨by rw[h2.1];exact s'.seq ha,by rw[h2.2.1,ja_,jx_];omega⟩) (fun i x zs σ2 H2 hx h2=>?_) (fun zs σ2 H2 h2 D hD=>?_)⟩
    ·obtain⟨rfl,rfl,o2,rfl⟩:=h2
     obtain⟨t,v,hvi,rfl,ht⟩:=hW.at hx
     have ht':H2 t=some (.tup ((wkey v).map kV)):=by rw[MR];exact s' _ _ ht
     have e:=EZ (fun x y z=>HG z) (BC ws) (A2.mpr (jg_ hvi))
     have hg:=DGet.t hd' ht'
     rw[e] at hg
     walk_at "rd"
     refine⟨_,hg,?_⟩
     first
      | (refine⟨rfl,?_,_,rfl⟩;rw[jP_,Ry hvi,jR_];rfl)
      | (refine⟨?_,_,rfl⟩;rw[jP_,Ry hvi,jR_];rfl)
    ·obtain⟨rfl,rfl,o2,rfl⟩:=h2
     rw[hW.1,jX_ (by rw[Io];exact jl_ _)]
     exact k D _ (s'.newT hD) (s'.none hD) Ab
def BehL (H:Hp)(mm pw pb:Addr)(marks:α2)(n:Nat)(b:α2->Nat->Int)(bs:List V)(words:α1):Prop:=bs.length=words.length/\∀ (i:Nat) (w:α2),words[i]?=some w->∃ t,bs[i]?=some (.ref t)/\((H t=some (.lst ((rowB n b w).map V.int))/\t≠pw/\t≠pb)\/(t=mm/\rowB n b w=marks))
theorem BehL.keep {H H':Hp}{mm pw pb:Addr}{marks:α2}{n:Nat}{b:α2->Nat->Int}{bs:List V}{words:α1}(h:BehL H mm pw pb marks n b bs words)(s:∀ t o,t≠pw->t≠pb->H t=some o->H' t=some o):BehL H' mm pw pb marks n b bs words:=⟨h.1,fun i w hi=>by
 obtain⟨t,e1,e2⟩:=h.2 i w hi
 exact⟨t,e1,e2.imp (fun e=>⟨s _ _ e.2.1 e.2.2 e.1,e.2⟩) id⟩⟩
theorem BehL.snoc {H:Hp}{mm pw pb:Addr}{marks:α2}{n:Nat}{b:α2->Nat->Int}{bs:List V}{words:α1}{t:Addr}{w:α2}(h:BehL H mm pw pb marks n b bs words)(ht:H t=some (.lst ((rowB n b w).map V.int)))(h1:t≠pw)(h2:t≠pb):BehL H mm pw pb marks n b (bs ++ [.ref t]) (words ++ [w]):=by
 refine⟨by simp[h.1],fun i r hi=>?_⟩
 by_cases hl:i<words.length
 ·rw[jk_ hl] at hi
  rw[jk_ (by rw[h.1];exact hl)]
  exact h.2 i r hi
 ·have:=(jc_.mp hi).1
  rw[jq_,j3_] at this
  have e:i=words.length:=by omega
  subst e
  rw[jt_ (jl_ _),q2_] at hi
  simp at hi
  subst hi
  exact⟨t,by rw[<- h.1];simp,.inl ⟨ht,h1,h2⟩⟩
theorem WC.short {L:Int}{n:Nat}{b:α2->Nat->Int}{words:α1}{c:α2}(h:WC L n b words c):∀ (k:Nat) (w:α2),words[k]?=some w->w.length<=k:=by
 intro k
 induction k using Nat.strongRecOn with
 | _ k ih =>
  intro w hw
  cases k with
  | zero =>
   rw[h.w0] at hw
   cases hw
   exact j0_ _
  | succ k =>
   obtain⟨j,hj⟩:=jK_.mp (h.tl (k+1) w hw (Nat.succ_pos _))
   rw[List.getElem?_take] at hj
   split at hj
   ·rename_i hlt
    have:=ih j hlt _ hj
    rw[List.length_tail] at this
    omega
   ·cases hj
def zipW (c m:α2):α1:=(c.zip m).map fun p=>[p.1,p.2]
theorem Wq (c m:α2):num (zipW c m)=num (c.zip m):=YZ _ fun p _ q _ e=>by
 have h1:=List.cons.inj e
 exact Prod.ext h1.1 (List.cons.inj h1.2).1
def Zf (K:α3):Sp:=fun vs H Q _=>∃ (h:Addr) (L:Nat) (marks:α2) (ways:α1),vs=[.ref h]/\BB K H h L marks ways/\Wf L marks ways/\∀ t pw pc xs H',Same H H'->H' t=some (.tup [.ref pw,.ref pc])->H pw=none->H' pw=some (.lst xs)->AE K H' xs (wcOf marks.length L (bW marks ways)).1->H' pc=some (.lst ((wcOf marks.length L (bW marks ways)).2.map V.int))->Fin17 marks.length L (bW marks ways) (wcOf marks.length L (bW marks ways))->Q (.ref t) H'
theorem GL {f:Addr}{fd:α6}(F:Fun K "words_and_classes" "words_and_classes" AO f fd)(T:Txt mg)
  (Z:Exs K mg C_j2 C_j0)
  {Ds:Addr} {Ho:α6} (GE:FnOk P w K mg base CX0 1 Ds Ho ["row"] (X5 K)) (D7:Fun K "numbered" "numbered" Dr Ds Ho) (GF:Binds K Ho ["row"] []) (GG:mg "numbered" = some (.ref Ds))
  : FnOk P w K mg base CX0 2 f fd ["house"] (Zf K):=by
 refine F.ok Aw (fun vs H Q E h=>?_) (fun cdv A outer s H vs Q E hr h=>?_)
 ·obtain⟨h,L,marks,ways,rfl,_⟩:=h;rfl
 ·obtain⟨h,L,marks,ways,rfl,hh,wf,k⟩:=h
  have hl:=AB
  have hL1:=wf.l1
  have hL6:=wf.l6
  have hn1:=wf.n1
  have hn40:=wf.n40
  refine⟨_,(Ac (Aj (i:=1) Aw.nd (Ce (Aa (Do Ad) Ad)))
   (Ac (CI (i:=2) Aw.nd rfl (Or.inr rfl) (Ce (Aa (Ai (ixTD AG) (pvD 0) Ae) Ad)))
   (Ac (Aj (i:=3) Aw.nd (Am GE (hr.mono (by decide)) rfl GG D7.kp GF .nil Bc (Aa (Ai (ixTD AG) (pvD 0) Ae) Ad)))
   (Ac (CI (i:=4) Aw.nd rfl (Or.inr rfl) Ae)
   (Ac (Gx jO_ (ptT (AC (opD0 Lz) (pvD 4) (Ax (lenD Ak) (by rfl) T.len jL_ (Aa (pvD 1) Ad)) (AW _)))
   (Ac (CJ jO_ rfl (BO rfl T.range (Aa (Ai (ixTD AG) (pvD 0) Ae) Ad)) (As (i:=5) Aw.nd rfl (Or.inr rfl))
   (Ac (Ii (i:=6) Aw.nd rfl rfl rfl (Cp rfl) (cp:=DE) ⟨⟨rfl,rfl⟩,⟨⟨rfl,rfl⟩,⟨⟨rfl,rfl⟩,True.intro⟩⟩⟩ (Hy (Ai (ixTD AG) (pvD 0) Ae)) (fun _ _ _ _=>(As (i:=0) EY rfl (Or.inl rfl))) (fun _ _ _ _=>CG) (fun _ _ _ _=>(ZY (YW (K:=K) rfl) (Ai (ixLD (CN (K:=K) rfl)) (pvD 1) (pvD 2)) (Ai (ixTD (CO (K:=K) rfl)) (pvD 0) (pvD 3)) (fun _ _=>rfl))))
   (Ac (Aj (i:=7) Aw.nd (Am GE (hr.mono (by decide)) rfl GG D7.kp GF .nil Bc (Aa (Sj rfl rfl T.list rfl T.zip (Aa (pvD 3) (Aa (pvD 6) Ad))) Ad)))
   (Ag (DB (ptT (AC (opD0 Yq) (Ax (OG rfl) rfl T.max PyProof.Rows.boot_max (Aa (pvD 7) Ad)) (Ax (OG rfl) rfl T.max PyProof.Rows.boot_max (Aa (pvD 3) Ad)) (AW _)))
   (Ac (By (E9 jz_ jH_ jI_ Bf (pvD 1) (Aa (At GA (Do (Aa (pvD 5) Ad)) (Ai (ixLD Bz) (pvD 1) (pvD 4))) Ad)))
   (Ac (By (E9 jz_ jH_ jI_ Bf (pvD 2) (Aa (pvD 6) Ad)))
   (Ag (Aj (i:=3) Aw.nd (pvD 7)))))
   Be)))))
   (Ag (Tz (i:=4) Aw.nd rfl (Or.inr rfl) Ae W8))))
   (Ag (AY (Do (Aa (pvD 1) (Aa (pvD 3) Ad)))))))))),?_⟩
  obtain⟨mm,wv,q1,q2,ts,q3,q4,q5⟩:=id hh
  walk_at "rd"
  refine⟨j0_ _,fun t0 ht0=>⟨by omega,fun pw hpw=>?_⟩⟩
  have s1:=(Same.new ht0 (o:=.tup [])).newT hpw (o:=.lst [V.ref t0])
  have hpwH:H pw=none:=(Same.new ht0 (o:=.tup [])).none hpw
  have hw1:upd (upd H t0 (.tup [])) pw (.lst [V.ref t0]) pw=some (.lst [V.ref t0]):=Ab
  have hW1:AE K (upd (upd H t0 (.tup [])) pw (.lst [V.ref t0])) [V.ref t0] [[]]:=⟨rfl,fun i w hi=>by
   match i,hi with
   | 0,hi=>cases hi;exact⟨t0,rfl,Same.new hpw _ _ Ab⟩⟩
  generalize upd (upd H t0 (.tup [])) pw (.lst [V.ref t0])=H1 at s1 hw1 hW1 ⊢
  refine⟨_,s1.seqT q1,_,rfl,by omega,fun pb hpb=>?_⟩
  have hpbH:H pb=none:=s1.none hpb
  have hpbw:pb≠pw:=fun z=>by rw[z,hw1] at hpb;cases hpb
  have s2:=s1.newT hpb (o:=.lst [V.ref mm])
  have hb2:upd H1 pb (.lst [V.ref mm]) pb=some (.lst [V.ref mm]):=Ab
  have hw2:=Same.new hpb (o:=.lst [V.ref mm]) _ _ hw1
  have hW2:=hW1.mono (TK.new hpb (o:=.lst [V.ref mm]))
  generalize upd H1 pb (.lst [V.ref mm])=H2 at s2 hb2 hw2 hW2 ⊢
  refine⟨_,s2.seqT q1,_,rfl,mm,rfl,.inl ⟨marks,s2.seqT q2,by omega,fun pc H3 s3 hpcN hpc3=>?_⟩⟩
  have s03:=s2.trans s3
  obtain⟨Pv,hPv⟩:∃ Pv:Nat->St->Hp->Prop,∀ m σ' H',Pv m σ' H'↔(∃ (st:StC) (k:Nat) (xs bs:List V) (pc:Addr) (o5 o6 o7:Option V),m=41-k/\Same H H'/\H' pw=some (.lst xs)/\AE K H' xs st.1/\H' pb=some (.lst bs)/\BehL H' mm pw pb marks marks.length (bW marks ways) bs st.1/\H' pc=some (.lst (st.2.map V.int))/\pc≠pw/\pc≠pb/\WS marks.length L (bW marks ways) k 0 st/\HJ marks.length (bW marks ways) L (41-k) k st=wcOf marks.length L (bW marks ways)/\σ'=[some (.ref h),some (.ref pw),some (.ref pb),some (.ref pc),some (.int k),o5,o6,o7]):=⟨_,fun _ _ _=>qC_⟩
  have hpcw:pc≠pw:=fun z=>by rw[z,hw2] at hpcN;cases hpcN
  have hpcb:pc≠pb:=fun z=>by rw[z,hb2] at hpcN;cases hpcN
  refine L8 Pv ⟨_,(hPv _ _ _).mpr ⟨([[]],num (rowB marks.length (bW marks ways) [])),0,[V.ref t0],[V.ref mm],pc,none,none,none,rfl,s03,s3 _ _ hw2,hW2.mono (TK.of s3),s3 _ _ hb2,⟨rfl,fun i w hi=>?_⟩,by rw[XJ];exact hpc3,hpcw,hpcb,WS.start hn1,rfl,rfl⟩⟩ ?_
  ·match i,hi with
   | 0,hi=>cases hi;exact⟨mm,rfl,.inr ⟨rfl,XJ⟩⟩
  intro m σ4 H4 h4
  obtain⟨st,k0,xs,bs,pc4,o5,o6,o7,rfl,s4,hw4,hW4,hb4,hB4,hc4,hcw4,hcb4,ws4,ho4,rfl⟩:=(hPv _ _ _).mp h4
  have hfew:=ws4.few
  walk_at "rd"
  refine⟨_,.inl (SqL.of hw4),?_⟩
  rw[hW4.1]
  refine ite2 (fun hlt=>?_) (fun hge=>?_)
  ·have hk:k0<st.1.length:=by omega
   obtain⟨w,hwk⟩:∃ w,st.1[k0]?=some w:=⟨st.1[k0],by simp[hk]⟩
   refine⟨Pv (41-(k0+1)),fun σ' H' h=>⟨_,by omega,h⟩,?_⟩
   walk_at "rd"
   refine⟨_,s4.seqT q1,_,rfl,L,rfl,by omega,by omega,?_⟩
   rw[jh_]
   obtain⟨Pz,hPz⟩:∃ Pv:Nat->St->Hp->Prop,∀ i σ' H',Pv i σ' H'↔(∃ (st':StC) (xs bs:List V) (pc:Addr) (o5 o6 o7:Option V),st'=HI marks.length (bW marks ways) w i st/\Same H H'/\H' pw=some (.lst xs)/\AE K H' xs st'.1/\H' pb=some (.lst bs)/\BehL H' mm pw pb marks marks.length (bW marks ways) bs st'.1/\H' pc=some (.lst (st'.2.map V.int))/\pc≠pw/\pc≠pb/\WS marks.length L (bW marks ways) k0 i st'/\st'.1[k0]?=some w/\σ'=[some (.ref h),some (.ref pw),some (.ref pb),some (.ref pc),some (.int k0),o5,o6,o7]):=⟨_,fun _ _ _=>qC_⟩
   refine forR Pz ((hPz _ _ _).mpr ⟨st,xs,bs,pc4,o5,o6,o7,rfl,s4,hw4,hW4,hb4,hB4,hc4,hcw4,hcb4,ws4,hwk,rfl⟩) (fun i σ5 H5 hi h5=>?_) (fun σ5 H5 h5=>?_)
   ·obtain⟨st5,xs5,bs5,pc5,p5,p6,p7,hst5,s5,hw5,hW5,hb5,hB5,hc5,hcw5,hcb5,ws5,hwk5,rfl⟩:=(hPz _ _ _).mp h5
    rw[Int.zero_add]
    have hfew5:=ws5.few
    have hisw:=ws5.wc.ok w (jg_ hwk5)
    obtain⟨tb,htb,htbv⟩:=hB5.2 k0 w hwk5
    walk_at "rd"
    refine⟨_,s5.seqT q1,_,rfl,wv,rfl,⟨_,s5.seqT q3⟩,YD (xs:=ts.map V.ref) (fun j zs σ' H'=>H'=H5/\zs=((rowB marks.length (bW marks ways) ((i:Int)::w)).take j).map V.int/\∃ o,σ'=[o,some (.ref pb),some (.int k0),some (.int i)]) ⟨rfl,rfl,none,rfl⟩ (by rw[ja_,q4,wf.len];omega) (fun j zs σ' H' hj h'=>⟨by rw[h'.1];exact s5.seqT q3,by rw[h'.2.1,ja_,jx_];omega⟩) (fun j x zs σ' H' hx h'=>?_) (fun zs σ' H' h' D hD=>?_)⟩
    ·obtain⟨rfl,rfl,o,rfl⟩:=h'
     rw[je_] at hx
     cases htj:ts[j]? with
     | none=>rw[htj] at hx;cases hx
     | some tj =>
      rw[htj] at hx
      cases hx
      have hj:j<marks.length:=by rw[<- wf.len,<- q4];exact (jc_.mp htj).1
      obtain⟨row,g,r1,r2,r3,r4,r5⟩:=wf.step (show (0:Int)<=(j:Nat) by omega) (by omega) (show (0:Int)<=(i:Nat) by omega) (by omega)
      rw[jh_] at r1 r2
      have hrow:=q5 j tj row htj r1
      have hval:(rowB marks.length (bW marks ways) w)[g.toNat]?=some (bW marks ways ((i:Int)::w) j):=by
       rw[Df (by omega),Qb w (i:Int) j (by rw[r3];exact r4),r3]
      have hrj:(rowB marks.length (bW marks ways) ((i:Int)::w))[j]?=some (bW marks ways ((i:Int)::w) j):=Df hj
      walk_at "rd"
      refine⟨_,SqL.of hb5,_,F0 htb,_,s5.seqT hrow,_,CH (by omega) (by rw[jh_];exact r2),?_⟩
      have hfin:((rowB marks.length (bW marks ways) ((i:Int)::w)).take j).map V.int ++ [V.int (bW marks ways ((i:Int)::w) j)]=((rowB marks.length (bW marks ways) ((i:Int)::w)).take (j+1)).map V.int:=by rw[jP_,hrj,jR_];rfl
      rcases htbv with ⟨hl1,_,_⟩ | ⟨htm,hmk⟩
      ·exact .inl ⟨tb,rfl,_,g,rfl,SqL.of hl1,_,CH r4 hval,hfin,_,rfl⟩
      ·exact .inr ⟨tb,rfl,_,g,rfl,by rw[htm];exact s5.seqT q2,_,CH r4 (by have hv:=hval;rw[hmk] at hv;exact hv),hfin,_,rfl⟩
    ·obtain⟨rfl,rfl,o,rfl⟩:=h'
     rw[ja_,q4,wf.len,jX_ (by rw[Fd];exact jl_ _)]
     have hne:st5.2.zip (rowB marks.length (bW marks ways) ((i:Int)::w)) ≠ []:=fun z=>by
      have:=jJ_ List.length z
      rw[zP_,ws5.wc.len,Fd,Nat.min_self,qf_] at this
      omega
     have hzl:(zipW st5.2 (rowB marks.length (bW marks ways) ((i:Int)::w))).length=marks.length:=by
      unfold zipW
      rw[ja_,zP_,ws5.wc.len,Fd];omega
     refine⟨D,rfl,_,SqL.of (Same.new hD _ _ hc5),_,SqL.of Ab,by rw[ja_,ja_,ws5.wc.len,Fd],fun l rs H6 s6 hl6 hrl hrs=>⟨l,rfl,.inr ⟨rs,zipW st5.2 (rowB marks.length (bW marks ways) ((i:Int)::w)),SqL.of Ab,⟨?_,fun j v hj=>?_⟩,by omega,fun pf H7 s7 hpfN hpf=>?_⟩⟩⟩
     ·rw[hrl,hzl,ja_,ws5.wc.len]
     ·unfold zipW at hj
      rw[je_] at hj
      cases hq:(st5.2.zip (rowB marks.length (bW marks ways) ((i:Int)::w)))[j]? with
      | none=>rw[hq] at hj;cases hj
      | some p =>
       rw[hq] at hj
       cases hj
       obtain⟨u1,u2⟩:=qI_.mp (show (st5.2.zip (rowB marks.length (bW marks ways) ((i:Int)::w)))[j]?=some (p.1,p.2) from hq)
       obtain⟨t,t1,t2⟩:=hrs j (V.int p.1) (V.int p.2) (by rw[je_,u1];rfl) (by rw[je_,u2];rfl)
       exact⟨t,t1,Same.new hl6 _ _ t2⟩
     have sD:Same H' (upd H' D (.lst ((rowB marks.length (bW marks ways) ((i:Int)::w)).map V.int))):=Same.new hD
     have hDD:upd H' D (.lst ((rowB marks.length (bW marks ways) ((i:Int)::w)).map V.int)) D=some (.lst ((rowB marks.length (bW marks ways) ((i:Int)::w)).map V.int)):=Ab
     have s67:=(Same.new hl6 (o:=.lst rs)).trans s7
     have s57:=sD.trans (s6.trans s67)
     have hD7:=(s6.trans s67) _ _ hDD
     have hw7:=s57 _ _ hw5
     have hb7:=s57 _ _ hb5
     have hc7:=s57 _ _ hc5
     have hDw:D≠pw:=fun z=>by rw[z,hw5] at hD;cases hD
     have hDb:D≠pb:=fun z=>by rw[z,hb5] at hD;cases hD
     have hpfH:H' pf=none:=sD.none (s6.none ((Same.new hl6 (o:=.lst rs)).none hpfN))
     have hpfw:pf≠pw:=fun z=>by rw[z,hw5] at hpfH;cases hpfH
     have hpfb:pf≠pb:=fun z=>by rw[z,hb5] at hpfH;cases hpfH
     have hstep:=ws5.step hn1 hwk5 hi
     have hsucc:HI marks.length (bW marks ways) w (i+1) st=LG marks.length (bW marks ways) w st5 i:=by rw[Kl,<- hst5]
     rw[Wq] at hpf
     refine⟨pf,rfl,_,SqL.of hpf,(ncl (st5.2.zip (rowB marks.length (bW marks ways) ((i:Int)::w))):Int)-1,MU hne,(fun x hx=>by have:=Rz hx;omega),_,SqL.of hc7,(ncl st5.2:Int)-1,ws5.wc.top,(fun x hx=>by have:=ws5.wc.rng x hx;omega),?_⟩
     refine ite2 (fun hgt=>?_) (fun hle=>?_)
     ·have hgt':ncl st5.2<ncl (st5.2.zip (rowB marks.length (bW marks ways) ((i:Int)::w))):=by omega
      have est:LG marks.length (bW marks ways) w st5 i=(st5.1 ++ [(i:Int)::w],num (st5.2.zip (rowB marks.length (bW marks ways) ((i:Int)::w)))):=by unfold LG;rw[if_pos hgt']
      obtain⟨tw,htw1,htw2⟩:=hW5.2 k0 w hwk5
      have hwlen:=WC.short ws5.wc k0 w hwk5
      refine⟨.inl ⟨rfl,_,SqL.of hw7⟩,by omega,fun p1 hp1=>⟨_,SqL.of (Same.new hp1 _ _ hw7),_,F0 htw1,GX.ofS Ab (Same.new hp1 _ _ (s57 _ _ htw2)) (by simp;omega) fun q H8 s8 hq=>?_⟩⟩
      have s78:=(Same.new hp1 (o:=.tup [V.int i])).trans s8
      have hw8:=s78 _ _ hw7
      have hb8:=s78 _ _ hb7
      have hxl:=hW5.1
      have hbl:=hB5.1
      refine⟨_,hw8,by omega,?_⟩
      have hb9:upd H8 pw (.lst (xs5 ++ [V.ref q])) pb=some (.lst bs5):=by rw[Ah hpbw];exact hb8
      have s58:=s57.trans s78
      rw[est] at hstep hsucc
      refine⟨.inl ⟨rfl,_,SqL.of hb9⟩,_,hb9,by omega,(hPz _ _ _).mpr ⟨_,xs5 ++ [V.ref q],bs5 ++ [V.ref D],pf,_,_,_,hsucc.symm,((s5.trans s58).over hpwH).over hpbH,by rw[Ah (j6_ hpbw),Ab],(((hW5.mono (TK.of s58)).snoc (w:=(i:Int)::w) hq).mono (TK.lst hw8)).mono (TK.lst hb9),Ab,?_,by rw[Ah hpfb,Ah hpfw];exact s78 _ _ hpf,hpfw,hpfb,hstep.1,hstep.2,rfl⟩⟩
      exact BehL.snoc (hB5.keep (fun t o t1 t2 e=>by rw[Ah t2,Ah t1];exact s58 _ _ e)) (by rw[Ah hDb,Ah hDw];exact s78 _ _ hD7) hDw hDb
     ·have hle':¬ ncl st5.2<ncl (st5.2.zip (rowB marks.length (bW marks ways) ((i:Int)::w))):=by omega
      have est:LG marks.length (bW marks ways) w st5 i=st5:=by unfold LG;rw[if_neg hle']
      rw[est] at hstep hsucc
      exact (hPz _ _ _).mpr ⟨st5,xs5,bs5,pc5,_,_,_,hsucc.symm,s5.trans s57,hw7,hW5.mono (TK.of s57),hb7,hB5.keep (fun t o _ _ e=>s57 _ _ e),hc7,hcw5,hcb5,hstep.1,hstep.2,rfl⟩
   ·obtain⟨st5,xs5,bs5,pc5,p5,p6,p7,hst5,s5,hw5,hW5,hb5,hB5,hc5,hcw5,hcb5,ws5,hwk5,rfl⟩:=(hPz _ _ _).mp h5
    walk_at "rd"
    have e41:41-k0=(41-(k0+1))+1:=by omega
    refine (hPv _ _ _).mpr ⟨st5,k0+1,xs5,bs5,pc5,_,_,_,rfl,s5,hw5,hW5,hb5,hB5,hc5,hcw5,hcb5,ws5.next,?_,rfl⟩
    rw[hst5,<- ho4,e41,OI hwk]
  ·have e:st=wcOf marks.length L (bW marks ways):=by rw[<- ho4,Mf (by omega)]
   have hfin:=ws4.fin (by omega)
   rw[e] at hW4 hc4 hfin
   exact⟨by omega,fun p hp=>k p pw pc4 xs _ (s4.newT hp) Ab hpwH (Same.new hp _ _ hw4) (hW4.mono (TK.new hp)) (Same.new hp _ _ hc4) hfin⟩
def Vk (K:α3):Sp:=fun vs H Q _=>∃ (h:Addr) (L:Nat) (marks:α2) (ways:α1),vs=[.ref h]/\BB K H h L marks ways/\Wf L marks ways/\∀ pw xs H',Same H H'->H pw=none->H' pw=some (.lst xs)->AE K H' xs (wcOf marks.length L (bW marks ways)).1->Fin17 marks.length L (bW marks ways) (wcOf marks.length L (bW marks ways))->Q (.ref pw) H'
theorem SN {f:Addr}{fd:α6}(F:Fun K "tellers" "tellers" DD f fd)(T:Txt mg)
  (Z:Exs K mg C_j2 C_j0)
  {Au:Addr} {AU:α6} (A9:FnOk P w K mg base CX0 2 Au AU ["house"] (Zf K)) (AQ:Fun K "words_and_classes" "words_and_classes" AO Au AU) (Ba:Binds K AU ["house"] []) (Bb:mg "words_and_classes" = some (.ref Au))
  : FnOk P w K mg base CX0 3 f fd ["house"] (Vk K):=by
 refine F.ok SJ (fun vs H Q E h=>?_) (fun cdv A outer s H vs Q E hr h=>?_)
 ·obtain⟨h,L,marks,ways,rfl,_⟩:=h;rfl
 ·obtain⟨h,L,marks,ways,rfl,hh,wf,k⟩:=h
  refine⟨_,(Ag (AY (Ai (ixTD AG) (Am A9 (hr.mono (by decide)) rfl Bb AQ.kp Ba .nil Bc (Aa (pvD 0) Ad)) Ae))),?_⟩
  walk_at "rd"
  exact⟨h,L,marks,ways,rfl,hh,wf,fun t pw pc xs H' s' ht hpwN hpw hW hpc hfin=>⟨t,rfl,_,SqT.of ht,_,rfl,k pw xs H' s' hpwN hpw hW hfin⟩⟩
def X6 (K:α3):Sp:=fun vs H Q _=>∃ (h:Addr) (L:Nat) (marks:α2) (ways:α1),vs=[.ref h]/\BB K H h L marks ways/\Wf L marks ways/\∀ pc H',Same H H'->H' pc=some (.lst ((wcOf marks.length L (bW marks ways)).2.map V.int))->Fin17 marks.length L (bW marks ways) (wcOf marks.length L (bW marks ways))->Q (.ref pc) H'
theorem Nk {f:Addr}{fd:α6}(F:Fun K "classes_of" "classes_of" Cv f fd)(T:Txt mg)
  (Z:Exs K mg C_j2 C_j0)
  {Au:Addr} {AU:α6} (A9:FnOk P w K mg base CX0 2 Au AU ["house"] (Zf K)) (AQ:Fun K "words_and_classes" "words_and_classes" AO Au AU) (Ba:Binds K AU ["house"] []) (Bb:mg "words_and_classes" = some (.ref Au))
  : FnOk P w K mg base CX0 3 f fd ["house"] (X6 K):=by
 refine F.ok Na (fun vs H Q E h=>?_) (fun cdv A outer s H vs Q E hr h=>?_)
 ·obtain⟨h,L,marks,ways,rfl,_⟩:=h;rfl
 ·obtain⟨h,L,marks,ways,rfl,hh,wf,k⟩:=h
  refine⟨_,(Ag (AY (Ai (ixTD AG) (Am A9 (hr.mono (by decide)) rfl Bb AQ.kp Ba .nil Bc (Aa (pvD 0) Ad)) Ae))),?_⟩
  walk_at "rd"
  exact⟨h,L,marks,ways,rfl,hh,wf,fun t pw pc xs H' s' ht hpwN hpw hW hpc hfin=>⟨t,rfl,_,SqT.of ht,_,rfl,k pc H' s' hpc hfin⟩⟩
theorem KB {α:Type}[DecidableEq α]:∀ (row acc:List α),∃ t,Ct acc row=acc++t
 | [],acc=>⟨[],by simp[Ct]⟩
 | x::row,acc=>by
  obtain⟨t,ht⟩:=KB row (ins1 acc x)
  show ∃ t,Ct (ins1 acc x) row=acc++t
  rw[ht]
  unfold ins1
  split
  ·exact⟨t,rfl⟩
  ·exact⟨x::t,by simp⟩
theorem SR {α:Type}[DecidableEq α](a b:List α):∃ t,AA (a++b)=AA a++t:=by
 unfold AA Ct
 rw[qp_]
 exact KB b _
theorem Nl {α:Type}[DecidableEq α]{row:List α}{i:Nat}{x:α}(h:x∈AA (row.take i)):(AA row).idxOf x=(AA (row.take i)).idxOf x:=by
 obtain⟨t,ht⟩:=SR (row.take i) (row.drop i)
 rw[q4_] at ht
 rw[ht,z1_,if_pos h]
def FX (c R:α2)(n i:Nat):List V:=(List.range n).map fun r:Nat=>if (r:Int)∈R.take i then V.int (hm c R r) else V.non
theorem Ia {c R:α2}{n i:Nat}:(FX c R n i).length=n:=by unfold FX;simp
theorem Vl {c R:α2}{n i:Nat}{r:Int}(hr:R[i]?=some r)(h0:0<=r)(h1:r<(n:Int)):(FX c R n i).set r.toNat (V.int (hm c R r))=FX c R n (i+1):=by
 have et:R.take (i+1)=R.take i ++ [r]:=by rw[jP_,hr];rfl
 refine qc_ fun j=>?_
 by_cases hj:j<n
 ·have e2:(FX c R n (i+1))[j]?=some (if (j:Int)∈R.take (i+1) then V.int (hm c R j) else V.non):=by
   unfold FX
   rw[je_,qu_ hj];rfl
  have e1:(FX c R n i)[j]?=some (if (j:Int)∈R.take i then V.int (hm c R j) else V.non):=by
   unfold FX
   rw[je_,qu_ hj];rfl
  rw[e2]
  by_cases e:r.toNat=j
  ·have hrj:r=(j:Int):=by omega
   rw[<- e,qY_ (by rw[Ia];omega),e,<- hrj,if_pos (by rw[et];simp)]
  ·rw[xt_ e,e1]
   have hne:¬ (j:Int)=r:=fun z=>e (by omega)
   by_cases hm':(j:Int)∈R.take i
   ·rw[if_pos hm',if_pos (by rw[et];exact qb_ _ hm')]
   ·rw[if_neg hm',if_neg (by rw[et];intro z;rcases jB_.mp z with z | z;exact hm' z;exact hne (ju_.mp z))]
 ·rw[jA_ (by rw[List.length_set,Ia];omega),jA_ (by rw[Ia];omega)]
def RP (K:α3):Sp:=fun vs H Q _=>∃ (h:Addr) (L:Nat) (marks:α2) (ways:α1),vs=[.ref h]/\BB K H h L marks ways/\Wf L marks ways/\∀ p H',Same H H'->H p=none->H' p=some (.lst (FX (wcOf marks.length L (bW marks ways)).2 ((Az ways).map (·.1)) marks.length ((Az ways).map (·.1)).length))->Fin17 marks.length L (bW marks ways) (wcOf marks.length L (bW marks ways))->RF L marks.length ways ((Az ways).map (·.1))->Q (.ref p) H'
theorem Wr {f:Addr}{fd:α6}(F:Fun K "homes" "homes" He f fd)(T:Txt mg)
  (Z:Exs K mg C_j2 C_j0)
  {Cy:Addr} {Dt:α6} (E1:FnOk P w K mg base CX0 2 Cy Dt ["house"] (IB K)) (DF:Fun K "reached" "reached" DC Cy Dt) (E2:Binds K Dt ["house"] []) (E3:mg "reached" = some (.ref Cy))
  {Cz:Addr} {Fj:α6} (Gj:FnOk P w K mg base CX0 3 Cz Fj ["house"] (X6 K)) (DG:Fun K "classes_of" "classes_of" Cv Cz Fj) (Gk:Binds K Fj ["house"] []) (Gm:mg "classes_of" = some (.ref Cz))
  : FnOk P w K mg base CX0 4 f fd ["house"] (RP K):=by
 refine F.ok HP (fun vs H Q E h=>?_) (fun cdv A outer s H vs Q E hr h=>?_)
 ·obtain⟨h,L,marks,ways,rfl,_⟩:=h;rfl
 ·obtain⟨h,L,marks,ways,rfl,hh,wf,k⟩:=h
  have hl:=AB
  have hn40:=wf.n40
  obtain⟨mm,wv,q1,q2,q3⟩:=id hh
  refine⟨_,(Ac (Aj (i:=1) HP.nd (Am Gj (hr.mono (by decide)) rfl Gm DG.kp Gk .nil Bc (Aa (pvD 0) Ad)))
   (Ac (Aj (i:=2) HP.nd Re)
   (Ac (Aj (i:=3) HP.nd (At TW (Ce (Aa ZB Ad)) (Ax (lenD Ak) (by rfl) T.len jL_ (Aa (Ai (ixTD AG) (pvD 0) Ae) Ad))))
   (Ac (CJ jO_ rfl (Cg (Am E1 (hr.mono (by decide)) rfl E3 DF.kp E2 .nil Bc (Aa (pvD 0) Ad))) (As (i:=4) HP.nd rfl (Or.inl rfl))
   (Ag (Ty (Sn (pvD 2) (Ai (ixLD Bz) (pvD 1) (pvD 4)) (Ax OH (by rfl) T.len jL_ (Aa (pvD 2) Ad)) ⟨by rfl,by rfl,by rfl,by rfl⟩) (Tx (pvD 3) (pvD 4) set_list))))
   (Ag (AY (pvD 3))))))),?_⟩
  walk_at "rd"
  refine⟨h,L,marks,ways,rfl,hh,wf,fun pc H1 s1 hpc hfin=>?_⟩
  intro pd hpd
  have sd:=s1.newT hpd (o:=.dK [])
  refine⟨by omega,fun p1 hp1=>⟨_,(sd.newT hp1).seqT q1,_,rfl,mm,rfl,_,.inr ((sd.newT hp1).seqT q2),_,Ab,by omega,by rw[ja_];omega,by rw[ja_,j3_,jh_];omega,fun pt hpt=>?_⟩⟩
  rw[ja_,jh_]
  have sT:=(sd.newT hp1 (o:=.lst [V.non])).newT hpt (o:=.lst (List.replicate marks.length [V.non]).flatten)
  have hptN:H pt=none:=(sd.newT hp1 (o:=.lst [V.non])).none hpt
  have hpdN:H pd=none:=s1.none hpd
  have hpdT:upd (upd (upd H1 pd (.dK [])) p1 (.lst [V.non])) pt (.lst (List.replicate marks.length [V.non]).flatten) pd=some (.dK []):=(Same.new hpt) _ _ ((Same.new hp1) _ _ Ab)
  have hptT:upd (upd (upd H1 pd (.dK [])) p1 (.lst [V.non])) pt (.lst (List.replicate marks.length [V.non]).flatten) pt=some (.lst (List.replicate marks.length [V.non]).flatten):=Ab
  have hpcT:upd (upd (upd H1 pd (.dK [])) p1 (.lst [V.non])) pt (.lst (List.replicate marks.length [V.non]).flatten) pc=some (.lst ((wcOf marks.length L (bW marks ways)).2.map V.int)):=(Same.new hpt) _ _ ((Same.new hp1) _ _ ((Same.new hpd) _ _ hpc))
  generalize upd (upd (upd H1 pd (.dK [])) p1 (.lst [V.non])) pt (.lst (List.replicate marks.length [V.non]).flatten)=HT at sT hpdT hptT hpcT ⊢
  clear sd hp1 hpt hpd s1 hpc
  refine⟨h,L,marks,ways,rfl,hh.mono sT,wf,fun pR H2 s2 hpRN hpR rf=>⟨pR,rfl,⟨_,SqL.of hpR⟩,?_⟩⟩
  generalize hR:(Az ways).map (·.1)=R at hpR rf k
  generalize hst:wcOf marks.length L (bW marks ways)=st at hpcT hfin k
  have s02:=sT.trans s2
  have hpd2:=s2 _ _ hpdT
  have hpt2:=s2 _ _ hptT
  have hpc2:=s2 _ _ hpcT
  have hdt:pd≠pt:=fun z=>by rw[z,hpt2] at hpd2;cases hpd2
  have hRt:pR≠pt:=fun z=>by rw[z,hptT] at hpRN;cases hpRN
  have hRd:pR≠pd:=fun z=>by rw[z,hpdT] at hpRN;cases hpRN
  have hcd:pc≠pd:=fun z=>by rw[z,hpd2] at hpc2;cases hpc2
  have hct:pc≠pt:=fun z=>by
   rw[z,hpt2] at hpc2
   have hcl:=hfin.wc.len
   have e:=js_ hpc2
   injection e with e
   have hn1:=wf.n1
   have e0:=jJ_ (fun l:List V=>l[0]?) e
   obtain⟨n,hn⟩:∃ n,marks.length=n+1:=⟨marks.length-1,by omega⟩
   cases hc:st.2 with
   | nil=>rw[hc] at hcl;simp at hcl;omega
   | cons a r=>rw[hc,hn] at e0;simp[j8_] at e0
  have hki:∀ x y:Int,(Sum.inl x:Key)=Sum.inl y->x=y:=fun x y z=>Sum.inl.inj z
  obtain⟨Pv,hPv⟩:∃ Pv:Nat->St->Hp->Prop,∀ i σ' H',Pv i σ' H'↔(∃ o:Option V,Same H H'/\H' pR=some (.lst (R.map V.int))/\H' pc=some (.lst (st.2.map V.int))/\H' pd=some (.dK (numD (fun x:Int=>(Sum.inl x:Key)) (AA ((R.map (cf st.2)).take i))))/\H' pt=some (.lst (FX st.2 R marks.length i))/\σ'=[some (.ref h),some (.ref pc),some (.ref pd),some (.ref pt),o]):=⟨_,fun _ _ _=>qC_⟩
  refine forL (xs:=R.map V.int) Pv ((hPv _ _ _).mpr ⟨none,s02,hpR,hpc2,hpd2,?_,rfl⟩) (fun i σ' H' _ h'=>by obtain⟨_,_,h2,_⟩:=(hPv _ _ _).mp h';exact SqL.of h2) (fun i x σ' H' hx h'=>?_) (fun σ' H' h'=>?_)
  ·rw[hpt2]
   congr 2
   unfold FX
   refine qc_ fun j=>?_
   by_cases hj:j<marks.length
   ·rw[je_,qu_ hj];simp[hj]
   ·rw[jA_ (by simp;omega),jA_ (by simp;omega)]
  ·obtain⟨o,s',hpR',hpc',hpd',hpt',rfl⟩:=(hPv _ _ _).mp h'
   obtain⟨r,hr,rfl⟩:=DA hx
   have hrm:=jg_ hr
   have hrr:=rf.rng r hrm
   have hcr:(R.map (cf st.2))[i]?=some (cf st.2 r):=by rw[je_,hr];rfl
   have hcl:=hfin.wc.len
   have hfl:=Nj (R.map (cf st.2)) i
   rw[ja_] at hfl
   have hRl:=rf.len
   have nd:=BC ((R.map (cf st.2)).take i)
   have et:=Fi hcr
   have hcat:(st.2)[r.toNat]?=some (cf st.2 r):=by unfold cf;rw[jd_];simp[show r.toNat<st.2.length by omega]
   walk_at "rd"
   have hix:ixN (FX st.2 R marks.length i).length r=some r.toNat:=by rw[Ia];exact An_ hrr.1 (by omega)
   have hset:=Vl (c:=st.2) (n:=marks.length) hr hrr.1 hrr.2
   refine⟨.inl ⟨_,.inl hpd'⟩,_,SqL.of hpc',_,CH hrr.1 hcat,.inl ⟨_,hpd',_,rfl,_,hpd',by rw[Fh];omega,fun v hv=>?_,fun hn=>?_⟩⟩
   ·by_cases hm':cf st.2 r∈AA ((R.map (cf st.2)).take i)
    ·have e:=EZ (k:=fun x:Int=>(Sum.inl x:Key)) hki nd hm'
     have e2:=hv.symm.trans e
     cases e2
     have eh:hm st.2 R r=(((AA ((R.map (cf st.2)).take i)).idxOf (cf st.2 r):Nat):Int):=by unfold hm;rw[Nl hm']
     refine⟨_,hpt',_,hix,(hPv _ _ _).mpr ⟨_,s'.over hptN,by rw[Ah hRt];exact hpR',by rw[Ah hct];exact hpc',by rw[Ah hdt,et,ins1,if_pos hm'];exact hpd',by rw[Ab,<- hset,eh],rfl⟩⟩
    ·have e:=HZ (k:=fun x:Int=>(Sum.inl x:Key)) hki hm'
     have e2:=hv.symm.trans e
     cases e2
   ·have hm':cf st.2 r∉AA ((R.map (cf st.2)).take i):=fun z=>by
     have e:=EZ (k:=fun x:Int=>(Sum.inl x:Key)) hki nd z
     have e2:=hn.symm.trans e
     cases e2
    have hput:=Ni (k:=fun x:Int=>(Sum.inl x:Key)) hki hm'
    have eh:hm st.2 R r=((numD (fun x:Int=>(Sum.inl x:Key)) (AA ((R.map (cf st.2)).take i))).length:Int):=by
     unfold hm
     rw[Fh,Nl (i:=i+1) (by rw[et,ins1,if_neg hm'];simp),et,ins1,if_neg hm',Qa hm']
    have hpt2':upd H' pd (.dK (putK (numD (fun x:Int=>(Sum.inl x:Key)) (AA ((R.map (cf st.2)).take i))) (Sum.inl (cf st.2 r)) (V.int ((numD (fun x:Int=>(Sum.inl x:Key)) (AA ((R.map (cf st.2)).take i))).length:Int)))) pt=some (.lst (FX st.2 R marks.length i)):=by rw[Ah (j6_ hdt)];exact hpt'
    refine⟨_,hpt2',_,hix,(hPv _ _ _).mpr ⟨_,(s'.over hpdN).over hptN,by rw[Ah hRt,Ah hRd];exact hpR',by rw[Ah hct,Ah hcd];exact hpc',?_,by rw[Ab,<- hset,eh],rfl⟩⟩
    rw[Ah hdt,Ab,et,ins1,if_neg hm',Fh]
    exact jJ_ (fun z=>some (HO.dK z)) hput
  ·obtain⟨o,s',hpR',hpc',hpd',hpt',rfl⟩:=(hPv _ _ _).mp h'
   rw[ja_] at hpt'
   walk_at "rd"
   exact k pt _ s' hptN hpt' hfin rf
theorem Bc_ {c R:α2}{i:Nat}{r:Int}(h:R[i]?=some r):(hm c R r=((FR c (R.take i)).length:Int))↔cf c r∉(FR c (R.take i)).map (cf c):=by
 have hcr:(R.map (cf c))[i]?=some (cf c r):=by rw[je_,h];rfl
 have hlen:(FR c (R.take i)).length=(AA ((R.map (cf c)).take i)).length:=by
  have:=jJ_ List.length (Km c (R.take i))
  rw[ja_,List.map_take] at this
  exact this
 rw[Km,List.map_take,hlen]
 have et:=Fi hcr
 unfold hm
 constructor
 ·intro e hm'
  rw[Nl hm'] at e
  have:=qv_ hm'
  omega
 ·intro hm'
  rw[Nl (i:=i+1) (by rw[et,ins1,if_neg hm'];simp),et,ins1,if_neg hm',Qa hm']
theorem RQ {c R:α2}{n:Nat}{r:Int}(hr:r∈R)(h0:0<=r)(h1:r<(n:Int)):(FX c R n R.length)[r.toNat]?=some (V.int (hm c R r)):=by
 unfold FX
 rw[je_,qu_ (by omega),jU_]
 have e:((r.toNat:Nat):Int)=r:=by omega
 show some (if ((r.toNat:Nat):Int)∈R then V.int (hm c R ((r.toNat:Nat):Int)) else V.non)=_
 rw[e,if_pos hr]
theorem AE.toRows {K:α3}{H:Hp}{w:Addr}{zs:List V}{ws:α1}(h:AE K H zs ws)(hw:SqT K H w zs):Rows K H w ws:=by
 refine⟨zs.map (fun v=>match v with | .ref t=>t | _=>0),?_,by rw[ja_];exact h.1,fun i t r hi hr=>?_⟩
 ·have e:(zs.map (fun v=>match v with | .ref t=>t | _=>0)).map V.ref=zs:=by
   rw[jQ_]
   refine qc_ fun i=>?_
   rw[je_]
   by_cases hi:i<ws.length
   ·obtain⟨t,a,_⟩:=h.2 i ws[i] (by simp[hi])
    rw[a];rfl
   ·rw[jA_ (by rw[h.1];omega)];rfl
  rw[e];exact hw
 ·obtain⟨t',a,b⟩:=h.2 i r hr
  rw[je_,a] at hi
  cases hi
  exact SqT.of b
def Nm (K:α3):Sp:=fun vs H Q _=>∃ (h:Addr) (L:Nat) (marks:α2) (ways:α1),vs=[.ref h]/\BB K H h L marks ways/\Wf L marks ways/\∀ t H',Same H H'->BB K H' t L (sM L marks ways) (sW L marks ways)->Q (.ref t) H'
theorem Ws {f:Addr}{fd:α6}(F:Fun K "least" "least" Gb f fd)(T:Txt mg)
  (Z:Exs K mg C_j2 C_j0)
  {Cy:Addr} {Dt:α6} (E1:FnOk P w K mg base CX0 2 Cy Dt ["house"] (IB K)) (DF:Fun K "reached" "reached" DC Cy Dt) (E2:Binds K Dt ["house"] []) (E3:mg "reached" = some (.ref Cy))
  {Hq:Addr} {Nn:α6} (Qv:FnOk P w K mg base CX0 4 Hq Nn ["house"] (RP K)) (KC:Fun K "homes" "homes" He Hq Nn) (Qw:Binds K Nn ["house"] []) (Qx:mg "homes" = some (.ref Hq))
  : FnOk P w K mg base CX0 5 f fd ["house"] (Nm K):=by
 refine F.ok HQ (fun vs H Q E h=>?_) (fun cdv A outer s H vs Q E hr h=>?_)
 ·obtain⟨h,L,marks,ways,rfl,_⟩:=h;rfl
 ·obtain⟨h,L,marks,ways,rfl,hh,wf,k⟩:=h
  have hl:=AB
  have hn40:=wf.n40
  have hL6:=wf.l6
  obtain⟨mm,wv,q1,q2,q3⟩:=id hh
  refine⟨_,(Ac (CI (i:=1) HQ.nd rfl (Or.inr rfl) (Am Qv (hr.mono (by decide)) rfl Qx KC.kp Qw .nil Bc (Aa (pvD 0) Ad)))
   (Ac (Aj (i:=2) HQ.nd (Ce Ad))
   (Ac (Aj (i:=3) HQ.nd (Ce Ad))
   (Ac (CJ jO_ rfl (Cg (Am E1 (hr.mono (by decide)) rfl E3 DF.kp E2 .nil Bc (Aa (pvD 0) Ad))) (As (i:=4) HQ.nd rfl (Or.inl rfl))
   (Ag (DB (ptT (AC (opE DV) (Ai (ixLD Bz) (pvD 1) (pvD 4)) (Ax (lenD Ak) (by rfl) T.len jL_ (Aa (pvD 2) Ad)) (AW _)))
   (Ac (By (E9 jz_ jH_ jI_ Bf (pvD 2) (Aa (Ai (ixTD AG) (Ai (ixTD AG) (pvD 0) Ae) (pvD 4)) Ad)))
   (Ag (By (E9 jz_ jH_ jI_ Bf (pvD 3) (Aa (AX AN rfl T.tuple jS_ (Aa (Ci rfl (Cp rfl) (cp:=OT) ⟨⟨rfl,rfl⟩,True.intro⟩ (Hy (Ai (ixTD AG) (Ai (ixTD AG) (pvD 0) Ae) (pvD 4))) (fun _ _ _ _=>(As (i:=0) OU rfl (Or.inl rfl))) (fun _ _ _ _=>CG) (fun _ _ _ _=>(Ai (ixLD (CN (K:=K) rfl)) (pvD 1) (pvD 0)))) Ad)) Ad)))))
   Be)))
   (Ag (AY (Do (Aa (Ai (ixTD AG) (pvD 0) Ae) (Aa (AX AN rfl T.tuple jS_ (Aa (pvD 2) Ad)) (Aa (AX AN rfl T.tuple jS_ (Aa (pvD 3) Ad)) Ad)))))))))),?_⟩
  walk_at "rd"
  refine⟨h,L,marks,ways,rfl,hh,wf,fun ph H1 s1 hphN hph hfin rf=>?_⟩
  generalize hR:(Az ways).map (·.1)=R at hph rf
  generalize hst:wcOf marks.length L (bW marks ways)=st at hph hfin
  refine⟨j0_ _,fun pm hpm=>⟨j0_ _,fun pv hpv=>?_⟩⟩
  have hpmN:H pm=none:=s1.none hpm
  have s2:=(s1.newT hpm (o:=.lst [])).newT hpv (o:=.lst [])
  have hpvN:H pv=none:=(s1.newT hpm (o:=.lst [])).none hpv
  have hpm2:upd (upd H1 pm (.lst [])) pv (.lst []) pm=some (.lst []):=(Same.new hpv) _ _ Ab
  have hpv2:upd (upd H1 pm (.lst [])) pv (.lst []) pv=some (.lst []):=Ab
  have hph2:upd (upd H1 pm (.lst [])) pv (.lst []) ph=some (.lst (FX st.2 R marks.length R.length)):=(Same.new hpv) _ _ ((Same.new hpm) _ _ hph)
  have hphm:ph≠pm:=fun z=>by rw[z,hpm] at hph;cases hph
  have hmv:pm≠pv:=fun z=>by rw[<- z,Ab] at hpv;cases hpv
  have hphv:ph≠pv:=fun z=>by rw[<- z,(Same.new hpm) _ _ hph] at hpv;cases hpv
  generalize upd (upd H1 pm (.lst [])) pv (.lst [])=H2 at s2 hpm2 hpv2 hph2 ⊢
  refine⟨h,L,marks,ways,rfl,hh.mono s2,wf,fun pR H3 s3 hpRN hpR rf2=>?_⟩
  rw[hR] at hpR
  have s03:=s2.trans s3
  have hRm:pR≠pm:=fun z=>by rw[z,hpm2] at hpRN;cases hpRN
  have hRv:pR≠pv:=fun z=>by rw[z,hpv2] at hpRN;cases hpRN
  have hpm3:=s3 _ _ hpm2
  have hpv3:=s3 _ _ hpv2
  have hph3:=s3 _ _ hph2
  refine⟨pR,rfl,⟨_,SqL.of hpR⟩,?_⟩
  obtain⟨Pv,hPv⟩:∃ Pv:Nat->St->Hp->Prop,∀ i σ' H',Pv i σ' H'↔(∃ (zs:List V) (o:Option V),Same H H'/\H' pR=some (.lst (R.map V.int))/\H' ph=some (.lst (FX st.2 R marks.length R.length))/\H' pm=some (.lst (((FR st.2 (R.take i)).map (mkR marks)).map V.int))/\H' pv=some (.lst zs)/\AE K H' zs ((FR st.2 (R.take i)).map (hrow st.2 R ways))/\σ'=[some (.ref h),some (.ref ph),some (.ref pm),some (.ref pv),o]):=⟨_,fun _ _ _=>qC_⟩
  refine forL (xs:=R.map V.int) Pv ((hPv _ _ _).mpr ⟨[],none,s03,hpR,hph3,hpm3,hpv3,AE.nil,rfl⟩) (fun i σ' H' _ h'=>by obtain⟨_,_,_,h2,_⟩:=(hPv _ _ _).mp h';exact SqL.of h2) (fun i x σ' H' hx h'=>?_) (fun σ' H' h'=>?_)
  ·obtain⟨zs,o,s',hpR',hph',hpm',hpv',hZ',rfl⟩:=(hPv _ _ _).mp h'
   obtain⟨r,hr,rfl⟩:=DA hx
   have hrm:=jg_ hr
   have hrr:=rf.rng r hrm
   have hfl:=RD st.2 (R.take i)
   have hRl:=rf.len
   rw[jx_] at hfl
   have hat:=RQ (c:=st.2) (n:=marks.length) hrm hrr.1 hrr.2
   have hnew:=Bc_ (c:=st.2) hr
   have eFR:=UV (c:=st.2) hr
   obtain⟨row,hrow1,hrow2,hrow3⟩:=wf.row hrr.1 hrr.2
   have hrows:=wf.rows row hrow2
   have hcls:∀ g∈row,g∈R:=fun g hg=>by
    obtain⟨x,hx⟩:=jK_.mp hg
    have hxl:=(jc_.mp hx).1
    have:=rf.cls r hrm x (by omega)
    rwa [BM hrow1 (by rw[jh_];exact hx)] at this
   have hmk:marks[r.toNat]?=some (mkR marks r):=by unfold mkR;rw[jd_];simp[show r.toNat<marks.length by omega]
   have hhr:hrow st.2 R ways r=row.map (hm st.2 R):=by unfold hrow;rw[jd_,hrow1];rfl
   obtain⟨xs1,t1,z1,z2,z3⟩:=q3.atZ hrr.1 hrow1
   walk_at "rd"
   refine⟨_,SqL.of hph',_,D9 hrr.1 hat,_,.inl (SqL.of hpm'),?_⟩
   rw[ja_,ja_]
   refine⟨rfl,ite2 (fun he=>?_) (fun he=>?_)⟩
   ·have hnot:=hnew.mp (V.int.inj he)
    have eFR':FR st.2 (R.take (i+1))=FR st.2 (R.take i) ++ [r]:=by rw[eFR,Cq,if_neg hnot]
    refine⟨.inl ⟨rfl,_,SqL.of hpm'⟩,_,s'.seqT q1,_,rfl,mm,rfl,_,s'.seqT q2,_,CH hrr.1 hmk,_,hpm',by rw[ja_,ja_];omega,?_⟩
    have sM:=s'.over hpmN (o:=.lst (((FR st.2 (R.take i)).map (mkR marks)).map V.int ++ [V.int (mkR marks r)]))
    have hpvM:upd H' pm (.lst (((FR st.2 (R.take i)).map (mkR marks)).map V.int ++ [V.int (mkR marks r)])) pv=some (.lst zs):=by rw[Ah (j6_ hmv)];exact hpv'
    have hphM:upd H' pm (.lst (((FR st.2 (R.take i)).map (mkR marks)).map V.int ++ [V.int (mkR marks r)])) ph=some (.lst (FX st.2 R marks.length R.length)):=by rw[Ah hphm];exact hph'
    have hpRM:upd H' pm (.lst (((FR st.2 (R.take i)).map (mkR marks)).map V.int ++ [V.int (mkR marks r)])) pR=some (.lst (R.map V.int)):=by rw[Ah hRm];exact hpR'
    have hpmM:upd H' pm (.lst (((FR st.2 (R.take i)).map (mkR marks)).map V.int ++ [V.int (mkR marks r)])) pm=some (.lst (((FR st.2 (R.take i)).map (mkR marks)).map V.int ++ [V.int (mkR marks r)])):=Ab
    have hZM:=hZ'.mono (TK.lst hpm' (o:=.lst (((FR st.2 (R.take i)).map (mkR marks)).map V.int ++ [V.int (mkR marks r)])))
    generalize upd H' pm (.lst (((FR st.2 (R.take i)).map (mkR marks)).map V.int ++ [V.int (mkR marks r)]))=HM at sM hpvM hphM hpRM hpmM hZM ⊢
    obtain⟨f,hf⟩:∃ f:V->V,∀ n:Int,f (V.int n)=.int (hm st.2 R n):=⟨fun x=>match x with | .int n=>.int (hm st.2 R n) | _=>.non,fun _=>rfl⟩
    refine⟨.inl ⟨rfl,_,SqL.of hpvM⟩,_,sM.seqT q1,_,rfl,wv,rfl,_,sM.seqT z1,_,z2,t1,rfl,⟨_,sM.seqT z3⟩,Gz (σ':=[some (.ref ph)]) f rfl (sM.seqT z3) (by rw[ja_];omega) (fun x hx R' hR'=>?_) (fun D hD=>?_)⟩
    ·obtain⟨g,hg,rfl⟩:=Ez hx
     rw[hf] at hR'
     have hgb:=hrows.2 g hg
     walk_at "rd"
     exact⟨_,SqL.of hphM,_,D9 hgb.1 (RQ (hcls g hg) hgb.1 hgb.2),hR'⟩
    ·have em:(row.map V.int).map f=(hrow st.2 R ways r).map V.int:=by
      rw[hhr,jQ_,jQ_]
      exact qd_ fun n _=>hf n
     rw[em]
     refine⟨D,rfl,_,.inl ⟨SqL.of Ab,fun tl htl=>?_⟩⟩
     have sX:=(Same.new hD (o:=.lst ((hrow st.2 R ways r).map V.int))).newT htl (o:=.tup ((hrow st.2 R ways r).map V.int))
     have hpvX:=sX _ _ hpvM
     have hzl:zs.length<=1000:=by rw[hZ'.1,ja_];omega
     refine⟨_,hpvX,by omega,(hPv _ _ _).mpr ⟨zs ++ [V.ref tl],_,(sM.trans sX).over hpvN,by rw[Ah hRv];exact sX _ _ hpRM,by rw[Ah hphv];exact sX _ _ hphM,?_,Ab,?_,rfl⟩⟩
     ·rw[Ah hmv,sX _ _ hpmM,eFR',jR_,jR_];rfl
     ·rw[eFR',jR_]
      exact ((hZM.mono (TK.of sX)).snoc (w:=hrow st.2 R ways r) Ab).mono (TK.lst hpvX)
   ·have hin:cf st.2 r∈(FR st.2 (R.take i)).map (cf st.2):=Decidable.byContradiction fun z=>he (by rw[hnew.mpr z])
    have eFR':FR st.2 (R.take (i+1))=FR st.2 (R.take i):=by rw[eFR,Cq,if_pos hin]
    exact (hPv _ _ _).mpr ⟨zs,_,s',hpR',hph',by rw[eFR'];exact hpm',hpv',by rw[eFR'];exact hZ',rfl⟩
  ·obtain⟨zs,o,s',hpR',hph',hpm',hpv',hZ',rfl⟩:=(hPv _ _ _).mp h'
   rw[ja_,jU_] at hpm' hZ'
   walk_at "rd"
   refine⟨_,s'.seqT q1,_,rfl,_,.inl ⟨SqL.of hpm',fun tm htm=>⟨_,.inl ⟨SqL.of ((Same.new htm) _ _ hpv'),fun tw htw=>⟨by omega,fun t ht=>?_⟩⟩⟩⟩⟩
   have sE:=((Same.new htm (o:=.tup (((FR st.2 R).map (mkR marks)).map V.int))).newT htw (o:=.tup zs)).newT ht (o:=.tup [V.int L,V.ref tm,V.ref tw])
   subst hR hst
   exact k t _ (s'.trans sE) ⟨tm,tw,SqT.of Ab,SqT.of ((Same.new ht) _ _ ((Same.new htw) _ _ Ab)),AE.toRows (hZ'.mono (TK.of sE)) (SqT.of ((Same.new ht) _ _ Ab))⟩
abbrev LamH (K:α3)(H:Hp):Prop:=LamT (tabP K "in_order") HR (Str.ofString "in_order" ++ ".<locals>.") H
theorem KD {K:α3}{H:Hp}:∀ {us:α1} {xs:List V},AE K H xs us->∃ os:List S64.Wd,xs=S64.wv os/\os.map (·.2)=us/\∀ w∈os,H w.1=some (.tup (w.2.map V.int))
 | [],xs,h=>⟨[],zk_.mp h.1,rfl,fun w hw=>by cases hw⟩
 | u::us,xs,h=>by
  obtain⟨t,h1,h2⟩:=h.2 0 u rfl
  match xs,h with
  | [],h=>exact absurd h.1 (by simp)
  | x::xs,h =>
   have e:x=V.ref t:=by simpa using h1
   obtain⟨os,e1,e2,e3⟩:=KD (K:=K) (H:=H) (us:=us) (xs:=xs) ⟨by simpa using h.1,fun i w hw=>h.2 (i+1) w (by simpa using hw)⟩
   refine⟨(t,u)::os,by rw[e,e1];rfl,by simp[e2],fun w hw=>?_⟩
   rcases jC_.mp hw with rfl | hw
   ·exact h2
   ·exact e3 w hw
def WsT (H:Hp)(os:List S64.Wd):Prop:=∀ w∈os,H w.1=some (.tup (w.2.map V.int))
def X7 (K:α3):Sp:=fun vs H Q _=>∃ (a:Addr) (xs:List V) (ws:α1),vs=[.ref a]/\SqL K H a xs/\AE K H xs ws/\ws.length<sizeLine/\LamH K H /\
 ∀ D H' os,BT (tabP K "in_order") H H'->LamH K H'->H D=none->H' D=some (.lst (S64.wv os))->WsT H' os->(os.map (·.2)).Perm (ws.foldl ins [])->S64.Srt os->Q (.ref D) H'
theorem Qy {f:Addr}{fd:α6}(F:FunL K mg base "in_order" "in_order" CY f fd)(T:Txt mg)
  (Z:Exs K mg C_j2 C_j0)
  : FnOk P w K mg base CX0 4 f fd ["words"] (X7 K):=by
 refine F.ok Hf (fun vs H Q E h=>?_) (fun cdv hcd A outer s H vs Q E hr h=>?_)
 ·obtain⟨a,xs,ws,rfl,_⟩:=h;rfl
 ·obtain⟨a,xs,ws,rfl,hs,hW,hz,hT,k⟩:=h
  have hl:=AB
  refine⟨_,(Ac (CI (i:=1) Hf.nd rfl (Or.inl rfl) Rf)
   (Ac (CJ jO_ rfl (Cg (pvD 0)) (As (i:=2) Hf.nd rfl (Or.inl rfl))
   (Ag (PM (Op hr) (pvD 1) (pvD 2) ZA rfl)))
   (Ag (AY (SE (k:=0) (c:=tabC K "in_order") (P:=tabP K "in_order") (lp:=HR) (qual:=Str.ofString "in_order" ++ ".<locals>.") hr rfl T.sorted T.len hcd F.C F.B (Aa (AX (Ki rfl) rfl T.list xf_ (Aa (pvD 1) Ad)) Ad)))))),?_⟩
  walk_at "rd"
  intro p hp
  have sp:=Same.new (o:=.dT []) hp
  refine⟨⟨_,sp.seq hs⟩,?_⟩
  obtain⟨Py,hPy⟩:∃ Pv:Nat->St->Hp->Prop,∀ j σ' H',Pv j σ' H'↔(∃ (kvs:List (List Key×V)) (o':Option V),Same H H'/\H' p=some (.dT kvs)/\GK ((ws.take j).foldl ins []) kvs/\σ'=[some (.ref a),some (.ref p),o']):=⟨_,fun _ _ _=>qC_⟩
  refine forL (xs:=xs) Py ((hPy _ _ _).mpr ⟨[],_,sp,Ab,by rw[List.take_zero];exact GK.nil,rfl⟩) (fun j σ' H' _ h'=>by obtain⟨_,_,s',_⟩:=(hPy _ _ _).mp h';exact s'.seq hs) (fun j y σ3 H3 hy h3=>?_) (fun σ3 H3 h3=>?_)
  ·obtain⟨kvs,o',s3,hd,hk,rfl⟩:=(hPy _ _ _).mp h3
   obtain⟨u,v,hvi,rfl,hu⟩:=hW.at hy
   have hj:j<ws.length:=(jc_.mp hvi).1
   have hlen:kvs.length<sizeLine:=by
    have h1:=EW (ws.take j) []
    rw[hk.len]
    rw[jx_,qf_] at h1
    omega
   walk_at "rd"
   have hq':H3 u=some (.tup ((wkey v).map kV)):=by rw[MR];exact s3 _ _ hu
   refine⟨_,DPut.t (k:=wkey v) hd hq' (by omega),(hPy _ _ _).mpr ⟨_,_,s3.over hp,Ab,?_,rfl⟩⟩
   rw[jP_,hvi,qk_,qp_]
   exact hk.put _ _
  ·obtain⟨kvs,o',s3,hd,hk,rfl⟩:=(hPy _ _ _).mp h3
   rw[hW.1,jU_] at hk
   walk_at "rd"
   refine⟨kvs,.inl hd,fun l rs hln hrl hrs=>?_⟩
   have hWr:AE K (upd H3 l (.lst rs)) rs (ws.foldl ins []):=(hk.words (K:=K) hrl hrs).mono (TK.new hln)
   obtain⟨os0,e1,e2,e3⟩:=KD hWr
   have s4:Same H (upd H3 l (.lst rs)):=s3.newT hln
   have hT4:=hT.mono s4
   have hlen:os0.length<sizeLine:=by
    have h1:=jJ_ List.length e2
    have h2:=EW ws []
    rw[ja_] at h1
    rw[qf_] at h2
    omega
   have hl4:SqL K (upd H3 l (.lst rs)) l (S64.wv os0):=by rw[<- e1];exact SqL.of Ab
   generalize upd H3 l (.lst rs)=H4 at hWr e3 s4 hT4 hl4 ⊢
   refine⟨os0,hl4,fun w hw=>SqT.of (e3 w hw),hlen,hT4,fun H5 D os s5 hL5 hDn hD hp5 hsrt=>?_⟩
   refine k D H5 os (fun b o hb e=>s5 b o hb (s4 b o e)) hL5 (Same.none s4 hDn) hD (fun w hw=>?_) ?_ hsrt
   ·have h1:=e3 w (hp5.mem_iff.mp hw)
    obtain⟨_,hT5⟩:=hT4.is
    exact s5.ne h1 (fun _ z=>by cases z) hT5
   ·have:=hp5.map (·.2)
    rw[e2] at this
    exact this
def X8 (K:α3)(H:Hp)(e:Addr)(n:Nat)(E:Nat->α1):Prop:=∃ es:List V,H e=some (.lst es)/\∀ r,r<n->∃ q ys,es[r]?=some (.ref q)/\H q=some (.lst ys)/\AE K H ys (E r)
def wayW (ways:α1)(r:Nat):α2:=(((Az ways).find? fun e=>e.1 == (r:Int)).getD (0,[])).2
theorem Zg {ways:α1}(nod:((Az ways).map (·.1)).Nodup){r:Nat}{w:α2}(h:((r:Int),w)∈Az ways):wayW ways r=w:=by
 unfold wayW
 cases hf:(Az ways).find? fun e=>e.1 == (r:Int) with
 | none=>exact absurd (zf_.mp hf _ h) (by simp)
 | some e =>
  have h1:=List.find?_some hf
  have h2:=xr_ hf
  have e1:e.1=(r:Int):=by simpa using h1
  obtain⟨i,hi,ei⟩:=jY_ h2
  obtain⟨j,hj,ej⟩:=jY_ h
  have ij:i=j:=(x3_ (h₀:=by simpa using hi) (h₁:=by simpa using hj) nod).mp (by simp[ei,ej,e1])
  subst ij
  rw[ei] at ej
  rw[Option.getD_some,ej]
def oneW (ways:α1)(E:Nat->α1)(r:Nat)(m:α2):α1:=(E (AL ways (wayW ways r++m)).toNat).map ((wayW ways r++m) ++ ·)
def allW (ways:α1)(n:Nat)(mids:α1)(E:Nat->α1):α1:=(List.range n).flatMap fun r=>mids.flatMap (oneW ways E r)
abbrev Gn (L:Int)(m:Nat):α1:=(List.range (many L (m+2)).toNat).map (nth L)
theorem No {α β:Type}{f:α->List β}{c:Nat}:∀ (l:List α),(∀ x∈l,(f x).length<=c)->(l.flatMap f).length<=l.length*c
 | [],_=>by simp
 | x::l,h=>by
  have h1:=h x jo_
  have h2:=No l (fun y hy=>h y (jr_ _ hy))
  rw[List.flatMap_cons,jq_,jT_,Nat.succ_mul]
  omega
theorem SS {K:α3}{H:Hp}{xs ys:List V}{us vs:α1}(h:AE K H xs us)(g:AE K H ys vs):AE K H (xs++ys) (us++vs):=by
 refine⟨by rw[jq_,jq_,h.1,g.1],fun i w hw=>?_⟩
 by_cases hi:i<us.length
 ·rw[jk_ hi] at hw
  obtain⟨t,a,b⟩:=h.2 i w hw
  exact⟨t,by rw[jk_ (by rw[h.1];exact hi)];exact a,b⟩
 ·rw[jt_ (by omega)] at hw
  obtain⟨t,a,b⟩:=g.2 _ w hw
  exact⟨t,by rw[jt_ (by rw[h.1];omega),h.1];exact a,b⟩
def Qz (K:α3):Sp:=fun vs H Q _=>∃ (h e:Addr) (L:Int) (m:Nat) (marks:α2) (ways:α1) (E:Nat->α1),vs=[.ref h,.int m,.ref e]/\BB K H h L marks ways/\Wf L marks ways/\m<=3/\many L (m+2)<=341/\X8 K H e marks.length E/\(∀ r,r<marks.length->(E r).length<=40/\∀ w∈E r,w.length<=40)/\(∀ r:Nat,r<marks.length->(r:Int)∈(Az ways).map (·.1))/\LamH K H /\
 ∀ D H' os,BT (tabP K "in_order") H H'->LamH K H'->H D=none->H' D=some (.lst (S64.wv os))->WsT H' os->(os.map (·.2)).Perm ((allW ways marks.length (Gn L m) E).foldl ins [])->S64.Srt os->Q (.ref D) H'
theorem Np {f:Addr}{fd:α6}(F:Fun K "words_with" "words_with" BV f fd)(T:Txt mg)
  (Z:Exs K mg C_j2 C_j0)
  {Du:Addr} {Hr:α6} (IC:FnOk P w K mg base CX0 4 Du Hr ["letters", "most"] (X4 K)) (E4:Fun K "words_to" "words_to" Dq Du Hr) (ID:Binds K Hr ["letters", "most"] []) (IE:mg "words_to" = some (.ref Du))
  {B7:Addr} {EG:α6} (Fk:FnOk P w K mg base (CXe P w) 4 B7 EG ["house", "word"] (Vj K C_j0)) (Di:Fun K "room_behind" "room_behind" B3 B7 EG) (Fl:Binds K EG ["house", "word"] []) (Fm:mg "room_behind" = some (.ref B7))
  {Ei:Addr} {IF:α6} (KF:FnOk P w K mg base CX0 2 Ei IF ["house"] (OY K)) (Go:Fun K "ways_in" "ways_in" Eb Ei IF) (KG:Binds K IF ["house"] []) (KH:mg "ways_in" = some (.ref Ei))
  {Dv:Addr} {Hs:α6} (IG:FnOk P w K mg base CX0 4 Dv Hs ["words"] (X7 K)) (GH:Fun K "in_order" "in_order" CY Dv Hs) (IH:Binds K Hs ["words"] []) (II:mg "in_order" = some (.ref Dv))
  : FnOk P w K mg base CX0 5 f fd ["base", "more", "ends"] (Qz K):=by
 refine F.ok Dh (fun vs H Q E h=>?_) (fun cdv A outer s H vs Q E hr h=>?_)
 ·obtain⟨h,e,L,m,marks,ways,E,rfl,_⟩:=h;rfl
 ·obtain⟨h,e,L,m,marks,ways,E,rfl,hh,wf,hm,hmany,hE,hEl,hall,hT,k⟩:=h
  have hl:=AB
  have hL1:=wf.l1
  have hL6:=wf.l6
  have hn40:=wf.n40
  refine⟨_,(Ac (Aj (i:=3) Dh.nd (Ce Ad))
   (Ac (CJ jO_ rfl (Cg (Am KF (hr.mono (by decide)) rfl KH Go.kp KG .nil Bc (Aa (pvD 0) Ad))) (As (i:=4) Dh.nd rfl (Or.inl rfl))
   (Ag (CJ jO_ rfl (Cg (Am IC (hr.mono (by decide)) rfl IE E4.kp ID .nil Bc (Aa (Ai (ixTD AG) (pvD 0) Ae) (Aa (At (opD0 Cd) (pvD 1) Ae) Ad)))) (As (i:=5) Dh.nd rfl (Or.inl rfl))
   (Ac (CI (i:=6) Dh.nd rfl (Or.inr rfl) (At GA (pvD 4) (pvD 5)))
   (Ag (By (E9 jz_ PySem.F.slot_list_extend PySem.F.type_list_extend TV (pvD 3) (Aa (Ci rfl (Cp rfl) (cp:=GY) ⟨⟨rfl,rfl⟩,True.intro⟩ (Cg (Ai (ixLD Bz) (pvD 2) (Am Fk (hr.mono (by decide)) rfl Fm Di.kp Fl .nil (Uk (P:=P) (w:=w)) (Aa (pvD 0) (Aa (pvD 6) Ad))))) (fun _ _ _ _=>(As (i:=0) Iv rfl (Or.inl rfl))) (fun _ _ _ _=>CG) (fun _ _ _ _=>(At (UI (K:=K) rfl) (pvD 1) (pvD 0)))) Ad))))))))
   (Ag (AY (Am IG (hr.mono (by decide)) rfl II GH.kp IH .nil Bc (Aa (pvD 3) Ad)))))),?_⟩
  walk_at "rd"
  refine⟨by omega,fun p hp=>?_⟩
  have s0:=Same.new (o:=.lst []) hp
  refine⟨h,L,marks,ways,rfl,hh.mono s0,wf,fun d top H1 s1 hdn hWS bf=>?_⟩
  obtain⟨xs,hd,hxl,hxs⟩:=hWS
  have s01:=s0.trans s1
  have hp1:=s1 _ _ (Ab (H:=H) (a:=p) (o:=.lst []))
  have hpd:d≠p:=(AM hdn).2
  refine⟨d,rfl,⟨_,SqL.of hd⟩,?_⟩
  have hmL:(Gn L m).length<=341:=by
   rw[ja_,qO_];omega
  have hone:∀ (r:Nat) (v:α2),r<marks.length->isW L (wayW ways r++v)=true->(oneW ways E r v).length<=40:=fun r v hr hv=>by
   have h1:=wf.walk hv (wayW ways r++v).length
   rw[jU_] at h1
   unfold oneW
   rw[ja_]
   exact (hEl _ (by omega)).1
  have hway:∀ r,r<marks.length->∃ t,xs[r]?=some (.ref t)/\H1 t=some (.tup ((wayW ways r).map V.int))/\isW L (wayW ways r)=true/\(wayW ways r).length<=40:=fun r hr=>by
   rcases hxs r hr with ⟨w,t,a,b,c⟩ | ⟨a,_⟩
   ·rw[Zg bf.nod a]
    obtain⟨j,hj⟩:=jK_.mp a
    have h1:=bf.sh j _ hj
    have h2:=(jc_.mp hj).1
    have h3:=bf.len
    exact⟨t,b,c,(bf.wd _ a).1,by dsimp only at h1;omega⟩
   ·exact absurd (hall r hr) a
  have hmv:∀ v∈Gn L m,isW L v=true:=fun v hv=>by
   obtain⟨k',_,rfl⟩:=jv_.mp hv
   exact HF (show 0<L by omega) k'
  have happ:∀ r,r<marks.length->∀ v,isW L v=true->isW L (wayW ways r++v)=true:=fun r hr v hv=>by
   obtain⟨_,_,_,hwv,_⟩:=hway r hr
   rw[AT] at hwv hv ⊢
   intro x hx
   rcases jB_.mp hx with hx | hx
   ·exact hwv x hx
   ·exact hv x hx
  have hb1:∀ r,r<marks.length->∀ j,(((Gn L m).take j).flatMap (oneW ways E r)).length<=13640:=fun r hr j=>by
   have h1:=No (f:=oneW ways E r) (c:=40) ((Gn L m).take j) (fun v hv=>hone r v hr (happ r hr v (hmv v (xb_ hv))))
   have h2:((Gn L m).take j).length<=341:=qM_ (by rw[jx_];omega) hmL
   omega
  have hb2:∀ i,i<=marks.length->((List.range i).flatMap fun r=>(Gn L m).flatMap (oneW ways E r)).length<=545600:=fun i hi=>by
   have h1:=No (f:=fun r=>(Gn L m).flatMap (oneW ways E r)) (c:=13640) (List.range i) (fun r hr=>by
    have:=hb1 r (by have:=jW_.mp hr;omega) (Gn L m).length
    rw[jU_] at this
    exact this)
   rw[qO_] at h1
   have h2:i*13640<=40*13640:=Nat.mul_le_mul_right _ (by omega)
   omega
  obtain⟨Pv,hPv⟩:∃ Pv:Nat->St->Hp->Prop,∀ i σ' H',Pv i σ' H'↔(∃ (ys:List V) (o4 o5 o6:Option V),Same H H'/\TK H1 H'/\H' d=some (.lst xs)/\H' p=some (.lst ys)/\AE K H' ys ((List.range i).flatMap fun r=>(Gn L m).flatMap (oneW ways E r))/\σ'=[some (.ref h),some (.int m),some (.ref e),some (.ref p),o4,o5,o6]):=⟨_,fun _ _ _=>qC_⟩
  refine forL (xs:=xs) Pv ((hPv _ _ _).mpr ⟨[],none,none,none,s01,TK.refl _,hd,hp1,AE.nil,rfl⟩) (fun i σ' H' _ h'=>by obtain⟨_,_,_,_,_,_,q,_⟩:=(hPv _ _ _).mp h';exact SqL.of q) (fun i x σ2 H2 hx h2=>?_) (fun σ2 H2 h2=>?_)
  ·obtain⟨ys,o4,o5,o6,s2,tk2,hd2,hp2,hW2,rfl⟩:=(hPv _ _ _).mp h2
   have hi:i<marks.length:=by rw[<- hxl];exact (jc_.mp hx).1
   obtain⟨t,hxt,ht,hwv,hwl⟩:=hway i hi
   rw[hx] at hxt
   cases hxt
   walk_at "rd"
   obtain⟨mm,wv,q1,q2,q3⟩:=id hh
   refine⟨_,s2.seqT q1,_,rfl,L,m+1,by rw[Int.natCast_add];rfl,hL1,hL6,by omega,by show many L (m+2)<=4000;omega,fun pm zs H3 s3 hpmn hpm hWm=>⟨pm,rfl,⟨_,SqL.of hpm⟩,?_⟩⟩
   have hWm':AE K H3 zs (Gn L m):=hWm
   have hppm:pm≠p:=fun z=>by rw[z,hp2] at hpmn;cases hpmn
   have hpH:H p=none:=hp
   obtain⟨Pw,hPw⟩:∃ Pv:Nat->St->Hp->Prop,∀ j σ' H',Pv j σ' H'↔(∃ (ys':List V) (o5 o6:Option V),Same H H'/\TK H3 H'/\H' d=some (.lst xs)/\H' pm=some (.lst zs)/\H' p=some (.lst ys')/\AE K H' ys' (((List.range i).flatMap fun r=>(Gn L m).flatMap (oneW ways E r))++((Gn L m).take j).flatMap (oneW ways E i))/\σ'=[some (.ref h),some (.int m),some (.ref e),some (.ref p),some (.ref t),o5,o6]):=⟨_,fun _ _ _=>qC_⟩
   refine forL (xs:=zs) Pw ((hPw _ _ _).mpr ⟨ys,o5,o6,s2.trans s3,TK.refl _,s3 _ _ hd2,hpm,s3 _ _ hp2,by rw[List.take_zero,List.flatMap_nil,qS_];exact hW2.mono (TK.of s3),rfl⟩) (fun j σ' H' _ h'=>by obtain⟨_,_,_,_,_,_,q,_⟩:=(hPw _ _ _).mp h';exact SqL.of q) (fun j y σ4 H4 hy h4=>?_) (fun σ4 H4 h4=>?_)
   ·obtain⟨ys',o5,o6,s4,tk4,hd4,hpm4,hp4,hW4,rfl⟩:=(hPw _ _ _).mp h4
    obtain⟨u,v,hvj,rfl,hu⟩:=hWm'.at hy
    have hvm:isW L v=true/\v.length<=4:=by
     obtain⟨k',hk',rfl⟩:=jv_.mp (jg_ hvj)
     have hv:=HF (show 0<L by omega) k'
     refine⟨hv,?_⟩
     have h1:=(L9 (show 0<L by omega) hv (m+1)).mpr (by
      rw[Kc]
      have:=jW_.mp hk'
      show (k':Int)<many L (m+2)
      omega)
     omega
    have ht4:=tk4 _ _ (TK.of s3 _ _ (tk2 _ _ ht))
    have hu4:=tk4 _ _ hu
    walk_at "rd"
    refine GX.ofS ht4 hu4 (by simp;omega) fun q H5 s5 hq=>?_
    have hfw:isW L (wayW ways i++v)=true:=by
     rw[AT] at hwv ⊢
     intro x hx
     rcases jB_.mp hx with hx | hx
     ·exact hwv x hx
     ·exact AT.mp hvm.1 x hx
    have hq':H5 q=some (.tup ((wayW ways i++v).map V.int)):=by rw[hq,jR_]
    walk_at "rd"
    have hp5:=s5 _ _ hp4
    refine⟨.inl ⟨rfl,_,SqL.of hp5⟩,h,q,L,marks,ways,wayW ways i++v,rfl,hh.mono (s4.trans s5),wf,SqT.of hq',by rw[jq_];omega,fun _ H6 s6=>?_,fun hf=>by rw[hfw] at hf;cases hf⟩
    have hwr:=wf.walk hfw (wayW ways i++v).length
    rw[jU_] at hwr
    obtain⟨es,he1,he2⟩:=id hE
    obtain⟨pe,ye,hpe,hye,hWe⟩:=he2 (AL ways (wayW ways i++v)).toNat (by omega)
    have hEr:=hEl (AL ways (wayW ways i++v)).toNat (by omega)
    have s46:=(s4.trans s5).trans s6
    have hye6:=s46 _ _ hye
    have hWe6:=hWe.mono (TK.of s46)
    have hyl:=hWe.1
    refine⟨es,_,rfl,SqL.of (s46 _ _ he1),_,D9 (by omega) hpe,pe,rfl,⟨_,SqL.of hye6⟩,?_⟩
    refine PR (xs:=ye) (fun j' zs' σ' H'=>Same H6 H'/\AE K H' zs' (((E (AL ways (wayW ways i++v)).toNat).take j').map ((wayW ways i++v) ++ ·))/\∃ o,σ'=[o,some (.ref q)]) ⟨Same.refl _,AE.nil,none,rfl⟩ (by omega) (fun j' zs' σ' H' hj' h'=>⟨SqL.of (h'.1 _ _ hye6),by have:=h'.2.1.1;rw[ja_,jx_] at this;omega⟩) (fun j' x' zs' σ' H' hx' h'=>?_) (fun zs' σ' H' h' D hD=>?_)
    ·obtain⟨s7,hz7,o,rfl⟩:=h'
     obtain⟨u',v',hv',rfl,hu'⟩:=hWe6.at hx'
     have hvl:=hEr.2 v' (jg_ hv')
     walk_at "rd"
     refine GX.ofS (s7 _ _ (s6 _ _ hq')) (s7 _ _ hu') (by simp;omega) fun q2 H8 s8 hq2=>⟨s7.trans s8,?_,_,rfl⟩
     rw[jP_,hv',qk_,jR_]
     exact (hz7.mono (TK.of s8)).snoc (by rw[hq2];simp)
    ·obtain⟨s7,hz7,o,_⟩:=h'
     rw[hyl,jU_] at hz7
     have hp7:upd H' D (.lst zs') p=some (.lst ys'):=by
      have:=s7 _ _ (s6 _ _ hp5)
      rw[Ah (Al this hD)];exact this
     have s7D:Same H6 (upd H' D (.lst zs')):=s7.newT hD
     have hD7:upd H' D (.lst zs') D=some (.lst zs'):=Ab
     have hz8:AE K (upd H' D (.lst zs')) zs' _:=hz7.mono (TK.new hD)
     generalize upd H' D (.lst zs')=H9 at hp7 s7D hD7 hz8 ⊢
     have s59:=(s5.trans s6).trans s7D
     have s49:=s4.trans s59
     have hl1:=hW4.1
     have hl2:=hz8.1
     rw[jq_] at hl1
     rw[ja_] at hl2
     have hb3:=hb1 i hi j
     have hb4:=hb2 i (by omega)
     have kT:TK H9 (upd H9 p (.lst (ys'++zs'))):=TK.lst hp7
     refine⟨D,rfl,ys',hp7,zs',hD7,by omega,(hPw _ _ _).mpr ⟨ys'++zs',_,_,s49.over hpH,(tk4.trans (TK.of s59)).trans kT,by rw[Ah hpd];exact s59 _ _ hd4,by rw[Ah hppm];exact s59 _ _ hpm4,Ab,?_,rfl⟩⟩
     rw[jP_,hvj,qk_,List.flatMap_append,<- qA_]
     refine SS ((hW4.mono (TK.of s59)).mono kT) ?_
     have e1:[v].flatMap (oneW ways E i)=(E (AL ways (wayW ways i++v)).toNat).map ((wayW ways i++v) ++ ·):=by simp[oneW]
     rw[e1]
     exact hz8.mono kT
   ·obtain⟨ys',o5,o6,s4,tk4,hd4,hpm4,hp4,hW4,rfl⟩:=(hPw _ _ _).mp h4
    refine (hPv _ _ _).mpr ⟨ys',_,_,_,s4,(tk2.trans (TK.of s3)).trans tk4,hd4,hp4,?_,rfl⟩
    have:(Gn L m).take zs.length=Gn L m:=jX_ (by rw[hWm'.1];exact jl_ _)
    rw[this] at hW4
    rw[xR_,List.flatMap_append]
    simpa using hW4
  ·obtain⟨ys,o4,o5,o6,s2,tk2,hd2,hp2,hW2,rfl⟩:=(hPv _ _ _).mp h2
   rw[hxl] at hW2
   walk_at "rd"
   refine⟨p,ys,_,rfl,SqL.of hp2,hW2,?_,hT.mono s2,fun D H3 os s3 hL3 hDn hD hos hpm hs=>?_⟩
   ·have:=hb2 marks.length (jl_ _)
    omega
   ·exact k D H3 os (fun b o hb e=>s3 b o hb (s2 b o e)) hL3 (Same.none s2 hDn) hD hos hpm hs
theorem X9 {L:Int}{n:Nat}{b:α2->Nat->Int}{words:α1}{c:α2}(h:WC L n b words c):∀ (k:Nat) (w:α2),words[k]?=some w->w.length<=k:=by
 intro k
 induction k using Nat.strongRecOn with
 | ind k ih =>
  intro w hw
  by_cases hk:k=0
  ·subst hk
   rw[h.w0] at hw
   cases hw
   simp
  ·have ht:=h.tl k w hw (by omega)
   obtain⟨j,hj⟩:=jK_.mp ht
   have hjk:j<k:=by
    have:=(jc_.mp hj).1
    rw[jx_] at this
    omega
   rw[xA_ hjk] at hj
   have:=ih j hjk _ hj
   rw[List.length_tail] at this
   omega
def OZ (L:Nat)(marks:α2)(ways:α1)(m:Nat):α1:=allW (sW L marks ways) (sM L marks ways).length (Gn (L:Int) m) fun _=>(wcOf (sM L marks ways).length L (bW (sM L marks ways) (sW L marks ways))).1
def RS (K:α3):Sp:=fun vs H Q _=>∃ (h:Addr) (L m:Nat) (marks:α2) (ways:α1),vs=[.ref h,.int m]/\BB K H h L marks ways/\Wf L marks ways/\m<=3/\many L (m+2)<=341/\LamH K H /\
 ∀ D H' os,BT (tabP K "in_order") H H'->LamH K H'->H D=none->H' D=some (.lst (S64.wv os))->WsT H' os->(os.map (·.2)).Perm ((OZ L marks ways m).foldl ins [])->S64.Srt os->Q (.ref D) H'
theorem Wt {f:Addr}{fd:α6}(F:Fun K "suite" "suite" Hg f fd)(T:Txt mg)
  (Z:Exs K mg C_j2 C_j0)
  {CA:Addr} {Dx:α6} (E5:FnOk P w K mg base CX0 3 CA Dx ["house"] (Vk K)) (DH:Fun K "tellers" "tellers" DD CA Dx) (E6:Binds K Dx ["house"] []) (E7:mg "tellers" = some (.ref CA))
  {Ej:Addr} {Fn:α6} (IJ:FnOk P w K mg base CX0 5 Ej Fn ["house"] (Nm K)) (Gp:Fun K "least" "least" Gb Ej Fn) (IK:Binds K Fn ["house"] []) (IL:mg "least" = some (.ref Ej))
  {Bh:Addr} {B8:α6} (C7:FnOk P w K mg base CX0 5 Bh B8 ["base", "more", "ends"] (Qz K)) (BZ:Fun K "words_with" "words_with" BV Bh B8) (C8:Binds K B8 ["base", "more", "ends"] []) (C9:mg "words_with" = some (.ref Bh))
  : FnOk P w K mg base CX0 6 f fd ["house", "more"] (RS K):=by
 refine F.ok Nb (fun vs H Q E h=>?_) (fun cdv A outer s H vs Q E hr h=>?_)
 ·obtain⟨h,L,m,marks,ways,rfl,_⟩:=h;rfl
 ·obtain⟨h,L,m,marks,ways,rfl,hh,wf,hm,hmany,hT,k⟩:=h
  have hl:=AB
  refine⟨_,(Ac (Aj (i:=2) Nb.nd (Am IJ (hr.mono (by decide)) rfl IL Gp.kp IK .nil Bc (Aa (pvD 0) Ad)))
   (Ac (CI (i:=3) Nb.nd rfl (Or.inr rfl) (Am E5 (hr.mono (by decide)) rfl E7 DH.kp E6 .nil Bc (Aa (pvD 2) Ad)))
   (Ag (AY (Am C7 (hr.mono (by decide)) rfl C9 BZ.kp C8 .nil Bc (Aa (pvD 2) (Aa (pvD 1) (Aa (Ci rfl (Cp rfl) (cp:=OV) ⟨⟨rfl,rfl⟩,True.intro⟩ (Hy (Ai (ixTD AG) (pvD 2) Ae)) (fun _ _ _ _=>(As (i:=0) OW rfl (Or.inl rfl))) (fun _ _ _ _=>CG) (fun _ _ _ _=>(pvD 1))) Ad)))))))),?_⟩
  walk_at "rd"
  have wfs:=sWf wf
  have can:=sCan wf
  have hsn:=wfs.n40
  refine⟨h,L,marks,ways,rfl,hh,wf,fun ps H3 s3 hs3=>?_⟩
  unfold OZ at k
  generalize sM L marks ways=ms at wfs can hs3 hsn k
  generalize sW L marks ways=vs at wfs can hs3 k
  obtain⟨sm,sv,r1,r2,r3⟩:=id hs3
  refine⟨ps,L,ms,vs,rfl,hs3,wfs,fun pe xs H7 s7 hpeN hpe hW fin=>?_⟩
  have s37:=s3.trans s7
  generalize hst:wcOf ms.length L (bW ms vs)=st at hW fin k
  have hfw:st.1.length<=40:=by
   have h1:=fin.wc.le
   have h2:=Md st.2
   rw[fin.wc.len] at h2
   omega
  have hwl:=X9 fin.wc
  walk_at "rd"
  refine⟨_,s7.seqT r1,_,rfl,sm,rfl,⟨_,s7.seqT r2⟩,?_⟩
  refine YD (xs:=ms.map V.int) (fun i ys σ' H'=>H'=H7/\ys=List.replicate i (V.ref pe)/\∃ o,σ'=[o,some (.ref pe)]) ⟨rfl,rfl,none,rfl⟩ (by rw[ja_];omega) (fun i ys σ' H' hi h'=>?_) (fun i x ys σ' H' hx h'=>?_) (fun ys σ' H' h' D hD=>?_)
  ·obtain⟨rfl,rfl,_⟩:=h'
   exact⟨s7.seqT r2,by rw[ql_];exact jl_ _⟩
  ·obtain⟨rfl,rfl,o,rfl⟩:=h'
   walk_at "rd"
   refine⟨?_,_,rfl⟩
   exact (List.replicate_succ' ..).symm
  ·obtain⟨rfl,rfl,o,rfl⟩:=h'
   rw[ja_]
   have sD:=s37.newT hD (o:=.lst (List.replicate ms.length (V.ref pe)))
   have sD7:=Same.new hD (o:=.lst (List.replicate ms.length (V.ref pe)))
   have hDD:upd H' D (.lst (List.replicate ms.length (V.ref pe))) D=some (.lst (List.replicate ms.length (V.ref pe))):=Ab
   generalize upd H' D (.lst (List.replicate ms.length (V.ref pe)))=H8 at sD sD7 hDD ⊢
   refine⟨ps,D,L,m,ms,vs,fun _=>st.1,rfl,hs3.mono (s7.trans sD7),wfs,hm,hmany,⟨_,hDD,fun r hr=>⟨pe,xs,by rw[x9_,if_pos hr],sD7 _ _ hpe,hW.mono (TK.of sD7)⟩⟩,fun r hr=>⟨hfw,fun w hw=>?_⟩,fun r hr=>?_,hT.mono sD,fun D' H9 os sT hL9 hDn hD' hos hpm hs=>?_⟩
   ·obtain⟨j,hj⟩:=jK_.mp hw
    have h1:=hwl j w hj
    have h2:j<st.1.length:=(jc_.mp hj).1
    omega
   ·have h1:=can.order
    unfold rOf at h1
    rw[h1]
    exact jv_.mpr ⟨r,jW_.mpr hr,rfl⟩
   ·exact k D' H9 os (fun b o hb e=>sT b o hb (sD b o e)) hL9 (Same.none sD hDn) hD' hos hpm hs
def ownF (b:α2->Nat->Int)(r:Nat):α1->List Nat->α1
 | [],_=>[]
 | v::ws,left=>(if (left.filter fun o=>decide (b v o=b v r)).length<left.length then [v] else [])++ownF b r ws (left.filter fun o=>decide (b v o=b v r))
def Ib (b:α2->Nat->Int)(r n:Nat)(ws:α1):List Nat:=ws.foldl (fun left v=>left.filter fun o=>decide (b v o=b v r)) (List.range n)
def ownW (n:Nat)(b:α2->Nat->Int)(ws:α1)(r:Nat):α1:=[]::ownF b r ws (List.range n)
theorem Vm {b:α2->Nat->Int}{r:Nat}{v:α2}(left:List Nat):(left.filter fun o=>decide (b v o=b v r)).length<left.length ↔ ∃ o∈left,b v o≠b v r:=by
 constructor
 ·intro h
  refine qJ_ fun z=>?_
  have:=(zl_ (p:=fun o=>decide (b v o=b v r)) (l:=left)).mpr fun o ho=>qj_ (qJ_ fun y=>z ⟨o,ho,y⟩)
  omega
 ·rintro⟨o,ho,hne⟩
  refine Nat.lt_of_not_le fun h=>?_
  have:=zl_.mp (Nat.le_antisymm (xS_ _ _) h) o ho
  exact hne (qB_ this)
theorem RT {b:α2->Nat->Int}{r:Nat}{w:α2}:∀ (ws:α1) (left:List Nat),w∈ownF b r ws left ↔ ∃ o∈left,ws.find? (fun v=>decide (b v o≠b v r))=some w
 | [],left=>by simp[ownF]
 | v::ws,left=>by
  unfold ownF
  rw[jB_,RT ws]
  constructor
  ·rintro (h | ⟨o,ho,h⟩)
   ·split at h
    ·rename_i hlt
     obtain⟨o,ho,hne⟩:=(Vm left).mp hlt
     rw[ju_.mp h]
     exact⟨o,ho,by simp[xc_,hne]⟩
    ·cases h
   ·obtain⟨ho,he⟩:=xw_.mp ho
    have he:=qB_ he
    exact⟨o,ho,by rw[List.find?_cons_of_neg (by simp[he])];exact h⟩
  ·rintro⟨o,ho,h⟩
   by_cases hne:b v o=b v r
   ·rw[List.find?_cons_of_neg (by simp[hne])] at h
    exact .inr ⟨o,xw_.mpr ⟨ho,qj_ hne⟩,h⟩
   ·have h:v=w:=by simpa [xc_,hne] using h
    subst h
    left
    rw[if_pos ((Vm left).mpr ⟨o,ho,hne⟩)]
    exact jo_
theorem Nq {b:α2->Nat->Int}{r:Nat}:∀ (ws:α1) (left:List Nat),r∈left->(ownF b r ws left).length+1<=left.length
 | [],left,h=>by
  have:=qF_ h
  simp only[ownF,qf_];omega
 | v::ws,left,h=>by
  have h2:=Nq (b:=b) (r:=r) ws (left.filter fun o=>decide (b v o=b v r)) (xw_.mpr ⟨h,by simp⟩)
  unfold ownF
  rw[jq_]
  split
  ·simp only[j3_];omega
  ·rename_i hh
   have:=xS_ (fun o=>decide (b v o=b v r)) left
   simp only[qf_];omega
theorem Wu {b:α2->Nat->Int}{r:Nat}{w:α2}{ws:α1}{left:List Nat}(h:w∈ownF b r ws left):w∈ws:=by
 obtain⟨o,_,h⟩:=(RT ws left).mp h
 exact xr_ h
theorem O0 {b:α2->Nat->Int}{r:Nat}{v:α2}:∀ (ws:α1) (left:List Nat) (i:Nat),ws[i]?=some v->ownF b r (ws.take (i+1)) left=ownF b r (ws.take i) left++(if (((ws.take i).foldl (fun left v=>left.filter fun o=>decide (b v o=b v r)) left).filter fun o=>decide (b v o=b v r)).length<((ws.take i).foldl (fun left v=>left.filter fun o=>decide (b v o=b v r)) left).length then [v] else [])
 | [],left,i,h=>by simp at h
 | u::ws,left,0,h=>by
  have h:u=v:=by simpa using h
  subst h
  simp[ownF]
 | u::ws,left,i+1,h=>by
  rw[List.take_succ_cons,List.take_succ_cons,ownF,ownF,qT_,O0 ws _ i (by simpa using h),qA_]
theorem O1 {b:α2->Nat->Int}{r:Nat}:∀ (ws:α1) (left:List Nat) (o:Nat),o∈ws.foldl (fun left v=>left.filter fun o=>decide (b v o=b v r)) left->o∈left
 | [],left,o,h=>h
 | v::ws,left,o,h=>(xw_.mp (O1 ws _ o h)).1
theorem O2 {b:α2->Nat->Int}{r:Nat}:∀ (ws:α1) (left:List Nat),(ws.foldl (fun left v=>left.filter fun o=>decide (b v o=b v r)) left).length<=left.length
 | [],left=>jl_ _
 | v::ws,left=>qM_ (O2 ws _) (xS_ _ _)
theorem Wv {b:α2->Nat->Int}{r n:Nat}(ws:α1):∀ o∈Ib b r n ws,o<n:=fun o h=>jW_.mp (O1 ws _ o h)
theorem Vn {b:α2->Nat->Int}{r n:Nat}(ws:α1):(Ib b r n ws).length<=n:=by
 have:=O2 (b:=b) (r:=r) ws (List.range n)
 rw[qO_] at this
 exact this
def O3 (H:Hp)(n:Nat)(b:α2->Nat->Int)(ws:α1)(ys:List V):Prop:=ys.length=ws.length/\∀ (i:Nat) (v:α2),ws[i]?=some v->∃ q,ys[i]?=some (.ref q)/\H q=some (.lst ((rowB n b v).map V.int))
theorem O3.mono {H H':Hp}{n:Nat}{b:α2->Nat->Int}{ws:α1}{ys:List V}(h:O3 H n b ws ys)(s:Same H H'):O3 H' n b ws ys :=
 ⟨h.1,fun i v hv=>let ⟨q,a,c⟩:=h.2 i v hv;⟨q,a,s _ _ c⟩⟩
def Ya (K:α3):Sp:=fun vs H Q _=>∃ (h a:Addr) (L:Nat) (marks:α2) (ways:α1) (ws:α2),vs=[.ref h,.ref a]/\BB K H h L marks ways/\Wf L marks ways/\SqT K H a (ws.map V.int)/\isW L ws=true /\
 ∀ p H',Same H H'->H p=none->H' p=some (.lst ((rowB marks.length (bW marks ways) ws).map V.int))->Q (.ref p) H'
theorem Fo {f:Addr}{fd:α6}(F:Fun K "marks_from_each_room" "marks_from_each_room" AH f fd)(T:Txt mg)
  (Z:Exs K mg C_j2 C_j0)
  : FnOk P w K mg base CX0 1 f fd ["house", "word"] (Ya K):=by
 refine F.ok Bn (fun vs H Q E h=>?_) (fun cdv A outer s H vs Q E hr h=>?_)
 ·obtain⟨h,a,L,marks,ways,ws,rfl,_⟩:=h;rfl
 ·obtain⟨h,a,L,marks,ways,ws,rfl,hh,wf,ha,hv,k⟩:=h
  have hl:=AB
  have hn:=wf.n40
  obtain⟨m,wv,q1,q2,q3⟩:=id hh
  refine⟨_,(Ac (Aj (i:=2) Bn.nd (Im rfl rfl T.list rfl T.range (Ax (lenD Ak) (by rfl) T.len jL_ (Aa (Ai (ixTD AG) (pvD 0) Ae) Ad))))
   (Ac (CJ jO_ rfl (Hy (pvD 1)) (As (i:=3) Bn.nd rfl (Or.inr rfl))
   (Ag (Ii (i:=2) Bn.nd rfl rfl rfl (Cp rfl) (cp:=CZ) ⟨⟨rfl,rfl⟩,⟨⟨rfl,rfl⟩,True.intro⟩⟩ (Cg (pvD 2)) (fun _ _ _ _=>(As (i:=0) Ec rfl (Or.inl rfl))) (fun _ _ _ _=>CG) (fun _ _ _ _=>(Ai (ixTD (CO (K:=K) rfl)) (Ai (ixTD (CO (K:=K) rfl)) (Ai (ixTD (CO (K:=K) rfl)) (pvD 2) Ae) (pvD 0)) (pvD 1))))))
   (Ag (AY (Ci rfl (Cp rfl) (cp:=C0) ⟨⟨rfl,rfl⟩,True.intro⟩ (Cg (pvD 2)) (fun _ _ _ _=>(As (i:=0) Ed rfl (Or.inl rfl))) (fun _ _ _ _=>CG) (fun _ _ _ _=>(Ai (ixTD (CO (K:=K) rfl)) (Ai (ixTD (CO (K:=K) rfl)) (pvD 1) Ae) (pvD 0)))))))),?_⟩
  walk_at "rd"
  refine⟨_,q1,_,rfl,m,rfl,_,.inr q2,?_⟩
  rw[ja_]
  refine⟨by omega,by omega,fun p hp=>?_⟩
  rw[jh_]
  have s0:=Same.new hp (o:=.lst ((ups marks.length).map V.int))
  refine⟨⟨_,s0.seqT ha⟩,?_⟩
  have hroom:∀ (i r:Nat),r<marks.length->0<=B2 ways r (ws.take i)/\B2 ways r (ws.take i)<marks.length:=fun i r hr=>MN wf (ws.take i) (VW hv i) (by omega) (by omega)
  obtain⟨Pv,hPv⟩:∃ Pv:Nat->St->Hp->Prop,∀ i σ' H',Pv i σ' H'↔(∃ (q:Addr) (o:Option V),Same H H'/\H' q=some (.lst (((List.range marks.length).map fun r:Nat=>B2 ways r (ws.take i)).map V.int))/\σ'=[some (.ref h),some (.ref a),some (.ref q),o]):=⟨_,fun _ _ _=>qC_⟩
  refine forT (xs:=ws.map V.int) Pv ((hPv _ _ _).mpr ⟨p,none,s0,Ab,rfl⟩) (fun i σ' H' _ h'=>by obtain⟨_,_,s',_⟩:=(hPv _ _ _).mp h';exact s'.seqT ha) (fun i x σ' H' hx h'=>?_) (fun σ' H' h'=>?_)
  ·obtain⟨q,o,s1,hq,rfl⟩:=(hPv _ _ _).mp h'
   obtain⟨l,hli,rfl⟩:=DA hx
   have hin:=AT.mp hv l (jg_ hli)
   walk_at "rd"
   refine⟨⟨_,SqL.of hq⟩,?_⟩
   obtain⟨m',wv',g1,g2,g3⟩:=hh.mono s1
   refine HD (σ':=[some (.int l),some (.ref h)]) (fun x=>match x with | .int r=>.int (Bm ways r l) | _=>.non) rfl (SqL.of hq) (by simp;omega) (fun x hx R hR=>?_) (fun D hD=>?_)
   ·obtain⟨y,hy,rfl⟩:=jv_.mp hx
    obtain⟨r,hr,rfl⟩:=jv_.mp hy
    have hr:=jW_.mp hr
    have hw:=hroom i r hr
    generalize B2 ways r (ws.take i)=y at hw hR
    obtain⟨row,g,r1,r2,r3,r4,r5⟩:=wf.step hw.1 hw.2 hin.1 hin.2
    obtain⟨xs,t,z1,z2,z3⟩:=g3.atZ hw.1 r1
    walk_at "rd"
    refine⟨_,g1,_,rfl,wv',rfl,_,z1,_,z2,_,rfl,_,z3,_,CH hin.1 r2,?_⟩
    rw[<- r3]
    exact hR
   ·refine (hPv _ _ _).mpr ⟨D,_,s1.newT hD,?_,rfl⟩
    rw[Ab,jQ_,jQ_,jQ_]
    congr 2
    refine qd_ fun r hr=>?_
    show V.int (Bm ways (B2 ways r (ws.take i)) l)=V.int (B2 ways r (ws.take (i+1)))
    rw[Se hli]
  ·obtain⟨q,o,s1,hq,rfl⟩:=(hPv _ _ _).mp h'
   rw[ja_,jU_] at hq
   walk_at "rd"
   refine⟨⟨_,SqL.of hq⟩,?_⟩
   obtain⟨m',wv',g1,g2,g3⟩:=hh.mono s1
   refine HD (σ':=[some (.ref h)]) (fun x=>match x with | .int r=>.int (marks.getD r.toNat 0) | _=>.non) rfl (SqL.of hq) (by simp;omega) (fun x hx R hR=>?_) (fun D hD=>?_)
   ·obtain⟨y,hy,rfl⟩:=jv_.mp hx
    obtain⟨r,hr,rfl⟩:=jv_.mp hy
    have hr:=jW_.mp hr
    have hw:=MN wf ws hv (show (0:Int)<=r by omega) (by omega)
    generalize B2 ways r ws=y at hw hR
    walk_at "rd"
    refine⟨_,g1,_,rfl,m',rfl,_,g2,_,?_,hR⟩
    rw[D9 hw.1 (v:=V.int (marks.getD y.toNat 0)) (by rw[je_,jd_];simp[show y.toNat<marks.length by omega])]
   ·refine k D _ (s1.newT hD) (Same.none s1 hD) ?_
    rw[Ab,jQ_,jQ_]
    unfold rowB
    rw[jQ_]
    rfl
def Yb (K:α3):Sp:=fun vs H Q _=>∃ (a c:Addr) (n r:Nat) (b:α2->Nat->Int) (ws:α1) (xs ys:List V),vs=[.ref a,.ref c,.int r]/\SqL K H a xs/\AE K H xs ws/\SqL K H c ys/\O3 H n b ws ys/\1<=ws.length/\ws.length<=40/\n<=40/\r<n /\
 ∀ p zs H',Same H H'->H p=none->H' p=some (.lst zs)->AE K H' zs (ownW n b ws r)->Q (.ref p) H'
theorem LL {f:Addr}{fd:α6}(F:Fun K "own_tellers" "own_tellers" B4 f fd)(T:Txt mg)
  (Z:Exs K mg C_j2 C_j0)
  : FnOk P w K mg base CX0 1 f fd ["words", "marks_behind", "room"] (Yb K):=by
 refine F.ok BF (fun vs H Q E h=>?_) (fun cdv A outer s H vs Q E hr h=>?_)
 ·obtain⟨a,c,n,r,b,ws,xs,ys,rfl,_⟩:=h;rfl
 ·obtain⟨a,c,n,r,b,ws,xs,ys,rfl,ha,hW,hc,hM,hw1,hw40,hn,hr',k⟩:=h
  have hl:=AB
  refine⟨_,(Ac (Aj (i:=3) BF.nd (Ce (Aa (Do Ad) Ad)))
   (Ac (Aj (i:=4) BF.nd (Im rfl rfl T.list rfl T.range (Ax (lenD Ak) (by rfl) T.len jL_ (Aa (Ai (ixLD Bz) (pvD 1) Ae) Ad))))
   (Ac (CJ jO_ rfl (YQ rfl T.zip (Aa (pvD 0) (Aa (pvD 1) Ad))) (W7 rfl (JT (As (i:=5) BF.nd rfl (Or.inl rfl)) (JT (As (i:=6) BF.nd rfl (Or.inr rfl)) Tw)))
   (Ac (Ii (i:=7) BF.nd rfl rfl rfl (Cp rfl) (cp:=Gd) ⟨⟨rfl,rfl⟩,⟨⟨rfl,rfl⟩,True.intro⟩⟩ (Cg (pvD 4)) (fun _ _ _ _=>(As (i:=0) HS rfl (Or.inl rfl))) (fun _ _ _ _=>(Xh (ptT (AC (opE DV) (Ai (ixLD (CN (K:=K) rfl)) (pvD 1) (pvD 0)) (Ai (ixLD (CN (K:=K) rfl)) (pvD 1) (pvD 2)) (AW _))))) (fun _ _ _ _=>(pvD 0)))
   (DL (DB (ptT (AC (opD0 Lz) (Ax (lenD Ak) (by rfl) T.len jL_ (Aa (pvD 7) Ad)) (Ax (lenD Ak) (by rfl) T.len jL_ (Aa (pvD 4) Ad)) (AW _)))
   (Ag (By (E9 jz_ jH_ jI_ Bf (pvD 3) (Aa (pvD 5) Ad))))
   Be)
   (Ag (Aj (i:=4) BF.nd (pvD 7))))))
   (Ag (AY (pvD 3)))))),?_⟩
  walk_at "rd"
  refine⟨by omega,fun p hp=>⟨by omega,fun p1 hp1=>?_⟩⟩
  have s1:Same H (upd (upd H p (.tup [])) p1 (.lst [V.ref p])):=(Same.new hp).newT hp1
  have hp1N:H p1=none:=(Same.new hp).none hp1
  have hpp:p1≠p:=(AM hp1).2
  have e1:upd (upd H p (.tup [])) p1 (.lst [V.ref p]) p1=some (.lst [V.ref p]):=Ab
  have e0:upd (upd H p (.tup [])) p1 (.lst [V.ref p]) p=some (.tup []):=by rw[Ah (j6_ hpp)];exact Ab
  generalize upd (upd H p (.tup [])) p1 (.lst [V.ref p])=H1 at s1 e1 e0 ⊢
  obtain⟨v0,hv0⟩:∃ v,ws[0]?=some v:=⟨_,ji_ (by omega)⟩
  obtain⟨q0,hq0,hm0⟩:=hM.2 0 v0 hv0
  have hrl:∀ v,(rowB n b v).length=n:=fun v=>by unfold rowB;rw[ja_,qO_]
  refine⟨_,s1.seq hc,_,D9 (by decide) hq0,q0,rfl,_,.inl (SqL.of (s1 _ _ hm0)),?_⟩
  rw[ja_,hrl]
  refine⟨by omega,by omega,fun p2 hp2=>?_⟩
  rw[jh_]
  have hp2N:H p2=none:=s1.none hp2
  have hp12:p1≠p2:=Al e1 hp2
  have s2:=s1.newT hp2 (o:=.lst ((ups n).map V.int))
  have e12:upd H1 p2 (.lst ((ups n).map V.int)) p1=some (.lst [V.ref p]):=by rw[Ah hp12];exact e1
  have e02:upd H1 p2 (.lst ((ups n).map V.int)) p=some (.tup []):=by rw[Ah (Al e0 hp2)];exact e0
  have e22:upd H1 p2 (.lst ((ups n).map V.int)) p2=some (.lst ((ups n).map V.int)):=Ab
  generalize upd H1 p2 (.lst ((ups n).map V.int))=H2 at s2 e12 e02 e22 ⊢
  refine⟨xs,ys,false,s2.seq ha,false,s2.seq hc,?_⟩
  obtain⟨Pv,hPv⟩:∃ Pv:Nat->St->Hp->Prop,∀ i σ' H',Pv i σ' H'↔(∃ (zs:List V) (q:Addr) (o5 o6 o7:Option V),Same H H'/\H' p1=some (.lst zs)/\AE K H' zs ([]::ownF b r (ws.take i) (List.range n))/\H q=none/\q≠p1/\H' q=some (.lst (((Ib b r n (ws.take i)).map fun o:Nat=>(o:Int)).map V.int))/\σ'=[some (.ref a),some (.ref c),some (.int r),some (.ref p1),some (.ref q),o5,o6,o7]):=⟨_,fun _ _ _=>qC_⟩
  have hxl:=hW.1
  have hyl:=hM.1
  refine Bo_ ws.length (by omega) (by omega) (.inl (by omega)) Pv ((hPv _ _ _).mpr ⟨_,p2,none,none,none,s2,e12,AE.nil.snoc (w:=[]) e02,hp2N,j6_ hp12,e22,rfl⟩) (fun i σ' H' _ h'=>?_) (fun i u v σ' H' t hi hu hv h' ht=>?_) (fun σ' H' h'=>?_)
  ·obtain⟨_,_,_,_,_,s',_⟩:=(hPv _ _ _).mp h'
   exact⟨s'.seq ha,s'.seq hc⟩
  ·obtain⟨zs,q,o5,o6,o7,s',hz,hWz,hqN,hqp,hq,rfl⟩:=(hPv _ _ _).mp h'
   obtain⟨tw,w0,hwi,rfl,htw⟩:=hW.at hu
   obtain⟨qm,hqm,hmm⟩:=hM.2 i w0 hwi
   rw[hv] at hqm
   cases hqm
   have sT:=s'.newT ht (o:=.tup [V.ref tw,V.ref qm])
   have sT1:=Same.new ht (o:=.tup [V.ref tw,V.ref qm])
   have hT:upd H' t (.tup [V.ref tw,V.ref qm]) t=some (.tup [V.ref tw,V.ref qm]):=Ab
   generalize upd H' t (.tup [V.ref tw,V.ref qm])=H3 at sT sT1 hT ⊢
   have hz3:=sT1 _ _ hz
   have hq3:=sT1 _ _ hq
   have hWz3:=hWz.mono (TK.of sT1)
   have hmm3:=sT _ _ hmm
   walk_at "rd"
   refine⟨_,SqT.of hT,rfl,?_⟩
   walk_at "rd"
   refine⟨⟨_,SqL.of hq3⟩,?_⟩
   have hlt:=Wv (b:=b) (r:=r) (n:=n) (ws.take i)
   have htk:Ib b r n (ws.take (i+1))=(Ib b r n (ws.take i)).filter fun o=>decide (b w0 o=b w0 r):=by
    unfold Ib
    rw[jP_,hwi,qk_,qp_]
    rfl
   have hot:=O0 (b:=b) (r:=r) ws (List.range n) i hwi
   rw[show (ws.take i).foldl (fun left v=>left.filter fun o=>decide (b v o=b v r)) (List.range n)=Ib b r n (ws.take i) from rfl,<- htk] at hot
   have hll:=Vn (b:=b) (r:=r) (n:=n) (ws.take i)
   generalize Ib b r n (ws.take i)=left at hq3 hlt htk hot hll
   have hrow:∀ o:Nat,o<n->((rowB n b w0).map V.int)[o]?=some (V.int (b w0 o)):=fun o ho=>by rw[je_,Df ho];rfl
   refine PR (xs:=(left.map fun o:Nat=>(o:Int)).map V.int) (fun i' zs' σ2 H2'=>H2'=H3/\zs'=(((left.take i').filter fun o=>decide (b w0 o=b w0 r)).map fun o:Nat=>(o:Int)).map V.int/\∃ o,σ2=[o,some (.ref qm),some (.int r)]) ⟨rfl,rfl,none,rfl⟩ (by simp only[ja_];omega) (fun i' zs' σ2 H2' hi' h2=>?_) (fun i' x zs' σ2 H2' hx h2=>?_) (fun zs' σ2 H2' h2 D hD=>?_)
   ·obtain⟨rfl,rfl,_⟩:=h2
    refine⟨SqL.of hq3,?_⟩
    rw[ja_,ja_]
    exact qM_ (xS_ _ _) (by rw[jx_];omega)
   ·obtain⟨rfl,rfl,o,rfl⟩:=h2
    rw[je_,je_] at hx
    cases hli:left[i']? with
    | none=>rw[hli] at hx;cases hx
    | some o1 =>
     rw[hli] at hx
     cases hx
     have ho1:=hlt o1 (jg_ hli)
     walk_at "rd"
     refine⟨_,SqL.of hmm3,_,D9 (by omega) (by rw[jh_];exact hrow o1 ho1),_,SqL.of hmm3,_,D9 (by omega) (by rw[jh_];exact hrow r hr'),?_⟩
     refine⟨rfl,?_⟩
     rw[jP_,hli,qk_,List.filter_append]
     by_cases he:b w0 o1=b w0 r
     ·rw[if_pos (by rw[he]),List.filter_cons_of_pos (by simp[he])]
      exact⟨by simp,_,rfl⟩
     ·rw[if_neg (fun z=>he (V.int.inj z)),List.filter_cons_of_neg (by simp[he])]
      exact⟨by simp,_,rfl⟩
   ·obtain⟨rfl,rfl,o,rfl⟩:=h2
    rw[ja_,ja_,jU_,<- htk]
    have sD:=sT.newT hD (o:=.lst (((Ib b r n (ws.take (i+1))).map fun o:Nat=>(o:Int)).map V.int))
    have sD1:=Same.new hD (o:=.lst (((Ib b r n (ws.take (i+1))).map fun o:Nat=>(o:Int)).map V.int))
    have hDD:upd H2' D (.lst (((Ib b r n (ws.take (i+1))).map fun o:Nat=>(o:Int)).map V.int)) D=some (.lst (((Ib b r n (ws.take (i+1))).map fun o:Nat=>(o:Int)).map V.int)):=Ab
    have hDN:H D=none:=sT.none hD
    have hDp:D≠p1:=j6_ (Al hz3 hD)
    generalize upd H2' D (.lst (((Ib b r n (ws.take (i+1))).map fun o:Nat=>(o:Int)).map V.int))=H4 at sD sD1 hDD ⊢
    have hz4:=sD1 _ _ hz3
    have hq4:=sD1 _ _ hq3
    have hWz4:=hWz3.mono (TK.of sD1)
    have hzl:=hWz4.1
    have hol:=Nq (b:=b) (r:=r) (ws.take i) (List.range n) (jW_.mpr hr')
    rw[qO_] at hol
    rw[jT_] at hzl
    refine⟨fun σ' H'=>∃ zs',Same H H'/\H' p1=some (.lst zs')/\AE K H' zs' ([]::ownF b r (ws.take (i+1)) (List.range n))/\H' D=some (.lst (((Ib b r n (ws.take (i+1))).map fun o:Nat=>(o:Int)).map V.int))/\σ'=[some (.ref a),some (.ref c),some (.int r),some (.ref p1),some (.ref q),some (.ref tw),some (.ref qm),some (.ref D)],?_,fun σ' H' hR=>?_⟩
    ·walk_at "rd"
     refine⟨_,.inl (SqL.of hDD),_,.inl (SqL.of hq4),?_⟩
     rw[hot]
     simp only[ja_]
     refine ite2 (fun hlt2=>?_) (fun hge=>?_)
     ·rw[if_pos (by omega)]
      refine⟨.inl ⟨rfl,_,SqL.of hz4⟩,zs,hz4,by omega,sD.over hp1N,_,Ab,?_,?_⟩
      ·rw[<- x4_]
       exact (hWz4.mono (TK.lst hz4)).snoc (by rw[Ah (Zy hz4 (sD _ _ htw) (by intro z;cases z)).symm];exact sD _ _ htw)
      ·rw[Ah hDp];exact hDD
     ·rw[if_neg (by omega),qS_]
      exact⟨sD,zs,hz4,hWz4,hDD⟩
    ·obtain⟨zs',s5,hz5,hW5,hD5,rfl⟩:=hR
     walk_at "rd"
     exact (hPv _ _ _).mpr ⟨zs',D,_,_,_,s5,hz5,hW5,hDN,hDp,hD5,rfl⟩
  ·obtain⟨zs,q,o5,o6,o7,s',hz,hWz,hqN,hqp,hq,rfl⟩:=(hPv _ _ _).mp h'
   rw[jU_] at hWz
   walk_at "rd"
   exact k p1 zs _ s' hp1N hz hWz
def Yc (K:α3):Sp:=fun vs H Q _=>∃ (h:Addr) (L:Nat) (marks:α2) (ways:α1),vs=[.ref h]/\BB K H h L marks ways/\Wf L marks ways /\
 ∀ e H',Same H H'->H e=none->X8 K H' e marks.length (ownW marks.length (bW marks ways) (wcOf marks.length L (bW marks ways)).1)->Q (.ref e) H'
theorem Fp {f:Addr}{fd:α6}(F:Fun K "tellers_of_each_room" "tellers_of_each_room" AI f fd)(T:Txt mg)
  (Z:Exs K mg C_j2 C_j0)
  {CA:Addr} {Dx:α6} (E5:FnOk P w K mg base CX0 3 CA Dx ["house"] (Vk K)) (DH:Fun K "tellers" "tellers" DD CA Dx) (E6:Binds K Dx ["house"] []) (E7:mg "tellers" = some (.ref CA))
  {AJ:Addr} {B9:α6} (Cj:FnOk P w K mg base CX0 1 AJ B9 ["house", "word"] (Ya K)) (A7:Fun K "marks_from_each_room" "marks_from_each_room" AH AJ B9) (Ck:Binds K B9 ["house", "word"] []) (Cl:mg "marks_from_each_room" = some (.ref AJ))
  {Ca:Addr} {EH:α6} (Fq:FnOk P w K mg base CX0 1 Ca EH ["words", "marks_behind", "room"] (Yb K)) (Dj:Fun K "own_tellers" "own_tellers" B4 Ca EH) (Fr:Binds K EH ["words", "marks_behind", "room"] []) (Fs:mg "own_tellers" = some (.ref Ca))
  : FnOk P w K mg base CX0 4 f fd ["house"] (Yc K):=by
 refine F.ok B5 (fun vs H Q E h=>?_) (fun cdv A outer s H vs Q E hr h=>?_)
 ·obtain⟨h,L,marks,ways,rfl,_⟩:=h;rfl
 ·obtain⟨h,L,marks,ways,rfl,hh,wf,k⟩:=h
  have hl:=AB
  have hn:=wf.n40
  have hn1:=wf.n1
  refine⟨_,(Ac (CI (i:=1) B5.nd rfl (Or.inr rfl) (Am E5 (hr.mono (by decide)) rfl E7 DH.kp E6 .nil Bc (Aa (pvD 0) Ad)))
   (Ac (CI (i:=2) B5.nd rfl (Or.inr rfl) (Ci rfl (Cp rfl) (cp:=C1) ⟨⟨rfl,rfl⟩,True.intro⟩ (Cg (pvD 1)) (fun _ _ _ _=>(As (i:=0) Ee rfl (Or.inl rfl))) (fun _ _ _ _=>CG) (fun _ _ _ _=>(Am Cj (hr.mono (by decide)) rfl Cl A7.kp Ck .nil Bc (Aa (pvD 1) (Aa (pvD 0) Ad))))))
   (Ag (AY (Ci rfl (Cp rfl) (cp:=C2) ⟨⟨rfl,rfl⟩,⟨⟨rfl,rfl⟩,True.intro⟩⟩ (BO rfl T.range (Aa (Ax (lenD Ak) (by rfl) T.len jL_ (Aa (Ai (ixTD AG) (pvD 0) Ae) Ad)) Ad)) (fun _ _ _ _=>(As (i:=0) Ef rfl (Or.inl rfl))) (fun _ _ _ _=>CG) (fun _ _ _ _=>(Am Fq (hr.mono (by decide)) rfl Fs Dj.kp Fr .nil Bc (Aa (pvD 1) (Aa (pvD 2) (Aa (pvD 0) Ad)))))))))),?_⟩
  walk_at "rd"
  refine⟨h,L,marks,ways,rfl,hh,wf,fun pw xs H1 s1 hpwN hpw hW fin=>?_⟩
  generalize hst:wcOf marks.length L (bW marks ways)=st at hW fin k
  have hfw:st.1.length<=40:=by
   have h1:=fin.wc.le
   have h2:=Md st.2
   rw[fin.wc.len] at h2
   omega
  have hf1:1<=st.1.length:=by
   have:=(jc_.mp fin.wc.w0).1
   omega
  walk_at "rd"
  refine⟨⟨_,SqL.of hpw⟩,?_⟩
  have hxl:=hW.1
  refine PR (xs:=xs) (fun i ys σ' H'=>Same H1 H'/\O3 H' marks.length (bW marks ways) (st.1.take i) ys/\∃ o,σ'=[o,some (.ref h)]) ⟨Same.refl _,⟨rfl,fun i v hv=>by simp at hv⟩,none,rfl⟩ (by omega) (fun i ys σ' H' hi h'=>⟨SqL.of (h'.1 _ _ hpw),by rw[h'.2.1.1,jx_];omega⟩) (fun i x ys σ' H' hx h'=>?_) (fun ys σ' H' h' D hD=>?_)
  ·obtain⟨s2,hM,o,rfl⟩:=h'
   obtain⟨t,v,hvi,rfl,ht⟩:=hW.at hx
   walk_at "rd"
   refine⟨h,t,L,marks,ways,v,rfl,hh.mono (s1.trans s2),wf,SqT.of (s2 _ _ ht),AT.mpr (fin.wc.ok v (jg_ hvi)),fun p H3 s3 hpN hp=>⟨s2.trans s3,?_,_,rfl⟩⟩
   have hM3:=hM.mono s3
   have hyl:=hM.1
   rw[jP_,hvi,qk_]
   refine⟨by rw[jq_,jq_,hyl];rfl,fun j w hw=>?_⟩
   rw[jx_] at hyl
   have hiL:=(jc_.mp hvi).1
   by_cases hj:j<ys.length
   ·rw[jk_ (by rw[jx_];omega)] at hw
    obtain⟨q,a1,a2⟩:=hM3.2 j w hw
    exact⟨q,by rw[jk_ hj];exact a1,a2⟩
   ·rw[jt_ (by rw[jx_];omega)] at hw
    have:j-(st.1.take i).length=0:=by
     have:=(jc_.mp hw).1
     simpa using this
    rw[this] at hw
    have hw:v=w:=by simpa using hw
    subst hw
    rw[jx_] at this
    exact⟨p,by rw[jt_ (by omega),show j-ys.length=0 by omega];rfl,hp⟩
  ·obtain⟨s2,hM,o,rfl⟩:=h'
   rw[hxl,jU_] at hM
   have sD:=(s1.trans s2).newT hD (o:=.lst ys)
   have sD1:=s2.newT hD (o:=.lst ys)
   have hDD:upd H' D (.lst ys) D=some (.lst ys):=Ab
   have hM2:=hM.mono (Same.new hD (o:=.lst ys))
   generalize upd H' D (.lst ys)=H3 at sD sD1 hDD hM2 ⊢
   obtain⟨m,wv,q1,q2,q3⟩:=hh.mono sD
   walk_at "rd"
   refine⟨_,q1,_,rfl,m,rfl,_,.inr q2,?_⟩
   rw[ja_,jh_]
   refine⟨by omega,by omega,?_⟩
   have hpw3:=sD1 _ _ hpw
   have hW3:=hW.mono (TK.of sD1)
   refine Uf (fun i zs σ' H'=>Same H3 H'/\zs.length=i/\(∀ r,r<i->∃ q ys,zs[r]?=some (.ref q)/\H' q=some (.lst ys)/\AE K H' ys (ownW marks.length (bW marks ways) st.1 r))/\∃ o,σ'=[o,some (.ref pw),some (.ref D)]) ⟨Same.refl _,rfl,fun r hr=>absurd hr (xE_ _),none,rfl⟩ (by omega) (fun i zs σ' H' hi h'=>Nat.le_of_eq h'.2.1) (fun i zs σ' H' hi h'=>?_) (fun zs σ' H' h' D' hD'=>?_)
   ·obtain⟨s4,hzl,hz,o,rfl⟩:=h'
    walk_at "rd"
    refine⟨pw,D,marks.length,i,bW marks ways,st.1,xs,ys,by rw[Int.zero_add],SqL.of (s4 _ _ hpw3),hW3.mono (TK.of s4),SqL.of (s4 _ _ hDD),hM2.mono s4,hf1,hfw,hn,hi,fun p us H5 s5 hpN hp hWu=>⟨s4.trans s5,by rw[jq_,hzl];rfl,fun r hr=>?_,_,rfl⟩⟩
    by_cases hri:r<i
    ·obtain⟨q,ys',b1,b2,b3⟩:=hz r hri
     exact⟨q,by rw[jk_ (by omega)];exact b1,ys',s5 _ _ b2,b3.mono (TK.of s5)⟩
    ·obtain rfl:r=i:=by omega
     exact⟨p,by rw[jt_ (by omega),show r-zs.length=0 by omega];rfl,us,hp,hWu⟩
   ·obtain⟨s4,hzl,hz,o,rfl⟩:=h'
    refine k D' _ ((sD.trans s4).newT hD') ((sD.trans s4).none hD') ⟨zs,Ab,fun r hr=>?_⟩
    obtain⟨q,ys',b1,b2,b3⟩:=hz r hr
    exact⟨q,ys',b1,by rw[Ah (Al b2 hD')];exact b2,b3.mono (TK.new hD')⟩
def Vo (L:Nat)(marks:α2)(ways:α1)(m:Nat):α1:=allW (sW L marks ways) (sM L marks ways).length (Gn (L:Int) m) (ownW (sM L marks ways).length (bW (sM L marks ways) (sW L marks ways)) (wcOf (sM L marks ways).length L (bW (sM L marks ways) (sW L marks ways))).1)
def Vp (K:α3):Sp:=fun vs H Q _=>∃ (h:Addr) (L m:Nat) (marks:α2) (ways:α1),vs=[.ref h,.int m]/\BB K H h L marks ways/\Wf L marks ways/\m<=3/\many L (m+2)<=341/\LamH K H /\
 ∀ D H' os,BT (tabP K "in_order") H H'->LamH K H'->H D=none->H' D=some (.lst (S64.wv os))->WsT H' os->(os.map (·.2)).Perm ((Vo L marks ways m).foldl ins [])->S64.Srt os->Q (.ref D) H'
theorem Zh {f:Addr}{fd:α6}(F:Fun K "slim" "slim" Ks f fd)(T:Txt mg)
  (Z:Exs K mg C_j2 C_j0)
  {Ej:Addr} {Fn:α6} (IJ:FnOk P w K mg base CX0 5 Ej Fn ["house"] (Nm K)) (Gp:Fun K "least" "least" Gb Ej Fn) (IK:Binds K Fn ["house"] []) (IL:mg "least" = some (.ref Ej))
  {AK:Addr} {Cb:α6} (Cm:FnOk P w K mg base CX0 4 AK Cb ["house"] (Yc K)) (A8:Fun K "tellers_of_each_room" "tellers_of_each_room" AI AK Cb) (Cn:Binds K Cb ["house"] []) (Co:mg "tellers_of_each_room" = some (.ref AK))
  {Bh:Addr} {B8:α6} (C7:FnOk P w K mg base CX0 5 Bh B8 ["base", "more", "ends"] (Qz K)) (BZ:Fun K "words_with" "words_with" BV Bh B8) (C8:Binds K B8 ["base", "more", "ends"] []) (C9:mg "words_with" = some (.ref Bh))
  : FnOk P w K mg base CX0 6 f fd ["house", "more"] (Vp K):=by
 refine F.ok Vi (fun vs H Q E h=>?_) (fun cdv A outer s H vs Q E hr h=>?_)
 ·obtain⟨h,L,m,marks,ways,rfl,_⟩:=h;rfl
 ·obtain⟨h,L,m,marks,ways,rfl,hh,wf,hm,hmany,hT,k⟩:=h
  have hl:=AB
  refine⟨_,(Ac (Aj (i:=2) Vi.nd (Am IJ (hr.mono (by decide)) rfl IL Gp.kp IK .nil Bc (Aa (pvD 0) Ad)))
   (Ag (AY (Am C7 (hr.mono (by decide)) rfl C9 BZ.kp C8 .nil Bc (Aa (pvD 2) (Aa (pvD 1) (Aa (Am Cm (hr.mono (by decide)) rfl Co A8.kp Cn .nil Bc (Aa (pvD 2) Ad)) Ad))))))),?_⟩
  walk_at "rd"
  have wfs:=sWf wf
  have can:=sCan wf
  have hsn:=wfs.n40
  refine⟨h,L,marks,ways,rfl,hh,wf,fun ps H3 s3 hs3=>?_⟩
  unfold Vo at k
  generalize sM L marks ways=ms at wfs can hs3 hsn k
  generalize sW L marks ways=vs at wfs can hs3 k
  have fin:Fin17 ms.length L (bW ms vs) (wcOf ms.length L (bW ms vs)):=Fin17.mk' wfs.n1 hsn
  refine⟨ps,L,ms,vs,rfl,hs3,wfs,fun e H4 s4 heN hE=>?_⟩
  have s34:=s3.trans s4
  have hwl:=X9 fin.wc
  have hfw:(wcOf ms.length L (bW ms vs)).1.length<=40:=by
   have h1:=fin.wc.le
   have h2:=Md (wcOf ms.length L (bW ms vs)).2
   rw[fin.wc.len] at h2
   omega
  refine⟨ps,e,L,m,ms,vs,_,rfl,hs3.mono s4,wfs,hm,hmany,hE,fun r hr=>⟨?_,fun w hw=>?_⟩,fun r hr=>?_,hT.mono s34,fun D' H9 os sT hL9 hDn hD' hos hpm hs=>?_⟩
  ·have:=Nq (b:=bW ms vs) (r:=r) (wcOf ms.length L (bW ms vs)).1 (List.range ms.length) (jW_.mpr hr)
   rw[qO_] at this
   unfold ownW
   rw[jT_]
   omega
  ·unfold ownW at hw
   rcases jC_.mp hw with rfl | hw
   ·simp
   ·obtain⟨j,hj⟩:=jK_.mp (Wu hw)
    have h1:=hwl j w hj
    have h2:=(jc_.mp hj).1
    omega
  ·have h1:=can.order
   unfold rOf at h1
   rw[h1]
   exact jv_.mpr ⟨r,jW_.mpr hr,rfl⟩
  ·exact k D' H9 os (fun b o hb e=>sT b o hb (s34 b o e)) hL9 (Same.none s34 hDn) hD' hos hpm hs
def cell (ns:α2)(k:Nat):Int:=ns.getD k 0
def KI (K:α3):Sp:=fun vs H Q _=>∃ (a:Addr) (ns:α2) (k:Nat),vs=[.ref a,.int k]/\SqL K H a (ns.map V.int)/\Q (.int (cell ns k)) H
theorem KJ {f:Addr}{fd:α6}(F:Fun K "_law_cell_at" "_law_cell_at" AZ f fd)(T:Txt mg)
  (Z:Exs K mg C_j2 C_j0)
  : FnOk P w K mg base CX0 1 f fd ["script", "k"] (KI K):=by
 refine F.ok Kt (fun vs H Q E h=>?_) (fun cdv A outer s H vs Q E hr h=>?_)
 ·obtain⟨a,ns,k,rfl,_⟩:=h;rfl
 ·obtain⟨a,ns,k,rfl,hs,q⟩:=h
  refine⟨_,(Ac (DB (ptT (AC (opD0 Lz) (pvD 1) (Ax (lenD Ak) (by rfl) T.len jL_ (Aa (pvD 0) Ad)) (AW _)))
   (Ag (AY (Ai (ixLD Bz) (pvD 0) (pvD 1))))
   Be)
   (Ag (AY Ae))),?_⟩
  walk_at "rd"
  refine⟨_,.inl hs,?_⟩
  rw[ja_]
  refine ite2 (fun hk=>?_) (fun hk=>?_)
  ·have hk':k<ns.length:=by simpa using hk
   refine⟨_,hs,V.int (cell ns k),?_,q⟩
   refine F0 ?_
   rw[je_]
   unfold cell
   rw[jd_]
   simp[hk']
  ·have hk':¬ k<ns.length:=by simpa using hk
   have:cell ns k=0:=by
    unfold cell
    rw[jd_,jA_ (by omega)];rfl
   rw[<- this]
   exact q
def J6:Sp:=fun vs H Q _=>∃ num k m:Int,vs=[.int num,.int k,.int m]/\0<=k/\k<=1000000/\0<m/\∀ x,0<=x->x<m->Q (.int x) H
theorem Nr {f:Addr}{fd:α6}(F:Fun K "_law_mixed" "_law_mixed" BD f fd)(T:Txt mg)
  (Z:Exs K mg C_j2 C_j0)
  : FnOk P w K mg base CX0 1 f fd ["number", "k", "many"] (J6):=by
 refine F.ok Fg (fun vs H Q E h=>?_) (fun cdv A outer s H vs Q E hr h=>?_)
 ·obtain⟨num,k,m,rfl,_⟩:=h;rfl
 ·obtain⟨num,k,m,rfl,hk0,hk1,hm,q⟩:=h
  refine⟨_,(Ac (Aj (i:=3) Fg.nd (At (opD Bx) (At (opD0 Cd) (At (opD0 Cd) (At (opD0 Cd) (At (opD Bx) (pvD 0) Ae) (At (opD J7) (At (opD J7) Ae (pvD 1)) (pvD 1))) (At (opD J7) Ae (pvD 1))) Ae) Ae))
   (Ac (Aj (i:=3) Fg.nd (At (opD Bx) (At (opD J7) (pvD 3) Ae) Ae))
   (Ag (AY (At (opD Bx) (At (opD Bx) (At (opD J7) (pvD 3) (pvD 3)) Ae) (pvD 2)))))),?_⟩
  walk_at "rd"
  refine⟨by decide,.inl ⟨by decide,by decide⟩,.inr ⟨by omega,by omega⟩,.inl ⟨by decide,by decide⟩,by decide,.inr ⟨by decide,by decide⟩,by decide,?_⟩
  generalize (num%2147483647+69621*k*k+40692*k+1)%2147483647*48271=z
  have m0:=q3_ z (show (2147483647:Int)≠0 by decide)
  have m1:=qD_ z (show (0:Int)<2147483647 by decide)
  exact⟨.inl ⟨by omega,by omega⟩,by decide,hm,q _ (q3_ _ (by omega)) (qD_ _ hm)⟩
def Mp (K:α3):Sp:=fun vs H Q _=>∃ (num:Int) (n:Nat),vs=[.int num,.int n]/\1<=n/\n<=40/\∀ (t:Addr) (marks:α2) (H':Hp),Same H H'->SqT K H' t (marks.map V.int)->marks.length=n->(∀ m∈marks,0<=m/\m<=1000000000)->Q (.ref t) H'
theorem Jo {f:Addr}{fd:α6}(F:Fun K "_law_marks_by" "_law_marks_by" Bq f fd)(T:Txt mg)
  (Z:Exs K mg C_j2 C_j0)
  {AR:Addr} {A0:α6} (A4:FnOk P w K mg base CX0 1 AR A0 ["number", "k", "many"] (J6)) (AV:Fun K "_law_mixed" "_law_mixed" BD AR A0) (A5:Binds K A0 ["number", "k", "many"] []) (A6:mg "_law_mixed" = some (.ref AR))
  : FnOk P w K mg base CX0 2 f fd ["number", "rooms"] (Mp K):=by
 refine F.ok AS (fun vs H Q E h=>?_) (fun cdv A outer s H vs Q E hr h=>?_)
 ·obtain⟨num,n,rfl,_⟩:=h;rfl
 ·obtain⟨num,n,rfl,hn1,hn40,k⟩:=h
  have hl:=AB
  refine⟨_,(Ac (Aj (i:=2) AS.nd (At (opD Bx) (At (opD0 Cd) (pvD 0) Ae) Ae))
   (Ac (Aj (i:=3) AS.nd (At (opD Bx) (At (opD FZ) (pvD 0) Ae) Ae))
   (Ac (Aj (i:=4) AS.nd (Ce Ad))
   (Ac (CJ jO_ rfl (BO rfl T.range (Aa (pvD 1) Ad)) (As (i:=5) AS.nd rfl (Or.inl rfl))
   (Ac (Aj (i:=6) AS.nd (pvD 3))
   (DL (DB (PW.pt (IW (ptT (AC (opE DV) (At (opD Bx) (pvD 2) Ae) Ae (AW _))) (FY (ptT (AC (opE DV) (Am A4 (hr.mono (by decide)) rfl A6 AV.kp A5 .nil Bc (Aa (pvD 0) (Aa (pvD 5) (Aa Ae Ad)))) Ae (AW _))))))
   (Ag (Aj (i:=6) AS.nd (At (opD0 ET) Ae (pvD 3))))
   Be)
   (DL (DB (ptT (AC (opE DV) (pvD 2) Ae (AW _)))
   (Ag (Aj (i:=6) AS.nd (Am A4 (hr.mono (by decide)) rfl A6 AV.kp A5 .nil Bc (Aa (pvD 0) (Aa (pvD 5) (Aa Ae Ad))))))
   Be)
   (DL (DB (PW.pt (Yk (PW.pt (IW (ptT (AC (opE DV) (pvD 2) Ae (AW _))) (FY (ptT (AC (opE DV) (pvD 5) (At (opD Bx) (At (opD FZ) (pvD 0) Ae) (pvD 1)) (AW _)))))) (Tv (PW.pt (IW (ptT (AC (opE DV) (pvD 2) Ae (AW _))) (FY (ptT (AC (opE DV) (pvD 5) (At (opD0 ET) (pvD 1) Ae) (AW _)))))))))
   (Ag (Aj (i:=6) AS.nd (At (opD Bx) (At (opD0 Cd) (pvD 3) Ae) Ae)))
   Be)
   (DL (DB (PW.pt (Yk (ptT (AC (opE DV) (pvD 2) Ae (AW _))) (Tv (ptT (AC (opE DV) (pvD 2) Ae (AW _))))))
   (Ag (Aj (i:=6) AS.nd (Am A4 (hr.mono (by decide)) rfl A6 AV.kp A5 .nil Bc (Aa (pvD 0) (Aa (pvD 5) (Aa Ae Ad))))))
   Be)
   (Ag (By (E9 jz_ jH_ jI_ Bf (pvD 4) (Aa (pvD 6) Ad))))))))))
   (Ag (AY (AX AN rfl T.tuple jS_ (Aa (pvD 4) Ad)))))))),?_⟩
  walk_at "rd"
  refine⟨by decide,⟨by decide,by decide⟩,by decide,by omega,fun p hp=>⟨by omega,by omega,?_⟩⟩
  rw[jh_]
  have ht0:=q3_ (num / 8) (show (1000000001:Int)≠0 by decide)
  have ht1:=qD_ (num / 8) (show (0:Int)<1000000001 by decide)
  generalize (num+1)%8=way
  generalize num / 8%1000000001=top at ht0 ht1 ⊢
  obtain⟨Pv,hPv⟩:∃ Pv:Nat->St->Hp->Prop,∀ i σ2 H2,Pv i σ2 H2↔(∃ (marks:α2) (o1 o2:Option V),Same H H2/\H2 p=some (.lst (marks.map V.int))/\marks.length=i/\(∀ m∈marks,0<=m/\m<=1000000000)/\σ2=[some (.int num),some (.int n),some (.int way),some (.int top),some (.ref p),o1,o2]):=⟨_,fun _ _ _=>qC_⟩
  refine forR Pv ((hPv _ _ _).mpr ⟨[],none,none,Same.new hp,by rw[Ab];rfl,rfl,(fun m hm=>by cases hm),rfl⟩) (fun i σ2 H2 hi h2=>?_) (fun σ2 H2 h2=>?_)
  ·obtain⟨marks,o1,o2,s2,hp2,hlen,hr',rfl⟩:=(hPv _ _ _).mp h2
   generalize hroom:(0:Int)+(i:Nat)=room
   have hroom0:0<=room:=by omega
   have hroom1:room<=40:=by omega
   obtain⟨R,hR⟩:∃ R:St->Hp->Prop,∀ σ3 H3,R σ3 H3↔(H3=H2/\∃ mark:Int,0<=mark/\mark<=1000000000/\σ3=[some (.int num),some (.int n),some (.int way),some (.int top),some (.ref p),some (.int room),some (.int mark)]):=⟨_,fun _ _=>qC_⟩
   walk_at "rd"
   refine⟨R,?_,fun σ3 H3 h3=>⟨R,?_,fun σ4 H4 h4=>⟨R,?_,fun σ5 H5 h5=>⟨R,?_,fun σ6 H6 h6=>?_⟩⟩⟩⟩
   ·walk_at "rd"
    refine⟨by decide,iteB ((hR _ _).mpr ⟨rfl,top,ht0,by omega,rfl⟩) (fun _ hB=>⟨num,room,2,rfl,hroom0,by omega,by decide,fun x _ _=>?_⟩)⟩
    walk_at "rd"
    exact ite2 (fun _=>(hR _ _).mpr ⟨rfl,_,by omega,by omega,rfl⟩) (fun _=>hB)
   ·obtain⟨rfl,mark,hm0,hm1,rfl⟩:=(hR _ _).mp h3
    walk_at "rd"
    refine ite2 (fun _=>⟨num,room,1000000001,rfl,hroom0,by omega,by decide,fun x hx0 hx1=>?_⟩) (fun _=>h3)
    walk_at "rd"
    exact (hR _ _).mpr ⟨rfl,x,hx0,by omega,rfl⟩
   ·obtain⟨rfl,mark,hm0,hm1,rfl⟩:=(hR _ _).mp h4
    walk_at "rd"
    have hA:R [some (.int num),some (.int n),some (.int way),some (.int top),some (.ref p),some (.int room),some (.int ((top+1)%1000000001))] H4:=(hR _ _).mpr ⟨rfl,_,q3_ _ (by decide),by have:=qD_ (top+1) (show (0:Int)<1000000001 by decide);omega,rfl⟩
    have hE:if way=5 then (if room=(n:Int)-1 then (0:Int)<1000000001/\R [some (.int num),some (.int n),some (.int way),some (.int top),some (.ref p),some (.int room),some (.int ((top+1)%1000000001))] H4 else R [some (.int num),some (.int n),some (.int way),some (.int top),some (.ref p),some (.int room),some (.int mark)] H4) else R [some (.int num),some (.int n),some (.int way),some (.int top),some (.ref p),some (.int room),some (.int mark)] H4 :=
     ite2 (fun _=>ite2 (fun _=>⟨by decide,hA⟩) (fun _=>h4)) (fun _=>h4)
    exact ite2 (fun _=>⟨⟨by decide,by decide⟩,by omega,ite2 (fun _=>⟨by decide,hA⟩) (fun _=>hE)⟩) (fun _=>hE)
   ·obtain⟨rfl,mark,hm0,hm1,rfl⟩:=(hR _ _).mp h5
    walk_at "rd"
    exact ite2 (fun _=>⟨num,room,3,rfl,hroom0,by omega,by decide,fun x hx0 hx1=>(hR _ _).mpr ⟨rfl,x,hx0,by omega,rfl⟩⟩) (fun _=>ite2 (fun _=>⟨num,room,3,rfl,hroom0,by omega,by decide,fun x hx0 hx1=>(hR _ _).mpr ⟨rfl,x,hx0,by omega,rfl⟩⟩) (fun _=>h5))
   ·obtain⟨rfl,mark,hm0,hm1,rfl⟩:=(hR _ _).mp h6
    walk_at "rd"
    refine⟨.inl ⟨rfl,_,SqL.of hp2⟩,_,hp2,by rw[ja_];omega,(hPv _ _ _).mpr ⟨marks ++ [mark],_,_,s2.over hp,by rw[Ab];simp,by simp[hlen],fun m hm=>?_,rfl⟩⟩
    rcases jB_.mp hm with hm | hm
    ·exact hr' m hm
    ·rw[ju_.mp hm];exact⟨hm0,hm1⟩
  ·obtain⟨marks,o1,o2,s2,hp2,hlen,hr',rfl⟩:=(hPv _ _ _).mp h2
   walk_at "rd"
   refine⟨_,.inl ⟨SqL.of hp2,fun t ht=>?_⟩⟩
   exact k t marks _ (s2.newT ht) (SqT.of Ab) hlen hr'
def O4 (K:α3):Sp:=fun vs H Q _=>∃ (a:Addr) (ns:α2) (L:Int) (n:Nat),vs=[.ref a,.int L,.int n]/\SqL K H a (ns.map V.int)/\1<=L/\L<=6/\1<=n/\n<=40/\∀ (t:Addr) (ways:α1) (H':Hp),Same H H'->Rows K H' t ways->ways.length=n->(∀ row∈ways,(row.length:Int)=L/\∀ x∈row,0<=x/\x<(n:Int))->Q (.ref t) H'
theorem KL {f:Addr}{fd:α6}(F:Fun K "_law_ways_by" "_law_ways_by" BG f fd)(T:Txt mg)
  (Z:Exs K mg C_j2 C_j0)
  {An:Addr} {Av:α6} (Ap:FnOk P w K mg base CX0 1 An Av ["script", "k"] (KI K)) (Ao:Fun K "_law_cell_at" "_law_cell_at" AZ An Av) (Aq:Binds K Av ["script", "k"] []) (Ar:mg "_law_cell_at" = some (.ref An))
  {AR:Addr} {A0:α6} (A4:FnOk P w K mg base CX0 1 AR A0 ["number", "k", "many"] (J6)) (AV:Fun K "_law_mixed" "_law_mixed" BD AR A0) (A5:Binds K A0 ["number", "k", "many"] []) (A6:mg "_law_mixed" = some (.ref AR))
  : FnOk P w K mg base CX0 2 f fd ["script", "letters", "rooms"] (O4 K):=by
 refine F.ok AF (fun vs H Q E h=>?_) (fun cdv A outer s H vs Q E hr h=>?_)
 ·obtain⟨a,ns,L,n,rfl,_⟩:=h;rfl
 ·obtain⟨a,ns,L,n,rfl,hs,hL1,hL6,hn1,hn40,k⟩:=h
  have hl:=AB
  refine⟨_,(Ac (Aj (i:=3) AF.nd (Am Ap (hr.mono (by decide)) rfl Ar Ao.kp Aq .nil Bc (Aa (pvD 0) (Aa Ae Ad))))
   (Ac (Aj (i:=4) AF.nd (Ce Ad))
   (Ac (CJ jO_ rfl (BO rfl T.range (Aa (pvD 2) Ad)) (As (i:=5) AF.nd rfl (Or.inl rfl))
   (Ac (Aj (i:=6) AF.nd (Ce Ad))
   (Ac (CJ jO_ rfl (BO rfl T.range (Aa (pvD 1) Ad)) (As (i:=7) AF.nd rfl (Or.inl rfl))
   (Ac (Aj (i:=8) AF.nd (At (opD0 Cd) (At (opD0 Cd) Ae (At (opD J7) (pvD 5) (pvD 1))) (pvD 7)))
   (Ac (Aj (i:=9) AF.nd (Am A4 (hr.mono (by decide)) rfl A6 AV.kp A5 .nil Bc (Aa (pvD 3) (Aa (pvD 8) (Aa (pvD 2) Ad)))))
   (DL (DB (ptT (AC (opD0 Lz) (pvD 8) (Ax (lenD Ak) (by rfl) T.len jL_ (Aa (pvD 0) Ad)) (AW _)))
   (Ag (Aj (i:=9) AF.nd (At (opD Bx) (Ai (ixLD Bz) (pvD 0) (pvD 8)) (pvD 2))))
   Be)
   (DL (DB (PW.pt (IW (ptT (AC (opE DV) (At (opD Bx) (pvD 3) Ae) Ae (AW _))) (FY (ptT (AC (opE DV) (pvD 7) (At (opD Bx) (At (opD FZ) (pvD 3) Ae) (pvD 1)) (AW _))))))
   (Ag (Aj (i:=9) AF.nd (At (opD Bx) (At (opD0 Cd) (pvD 5) Ae) (pvD 2))))
   Be)
   (DL (DB (ptT (AC (opE DV) (At (opD Bx) (pvD 3) Ae) Ae (AW _)))
   (Ag (Aj (i:=9) AF.nd (pvD 5)))
   Be)
   (DL (DB (PW.pt (IW (ptT (AC (opE DV) (At (opD Bx) (pvD 3) Ae) Ae (AW _))) (FY (ptT (AC (opE DV) (pvD 7) (At (opD Bx) (At (opD FZ) (pvD 3) Ae) (pvD 1)) (AW _))))))
   (Ag (Aj (i:=9) AF.nd (Ax (TF rfl) rfl T.min PyProof.Rows.boot_min (Aa (At (opD0 Cd) (pvD 5) Ae) (Aa (At (opD0 ET) (pvD 2) Ae) Ad)))))
   Be)
   (Ag (By (E9 jz_ jH_ jI_ Bf (pvD 6) (Aa (pvD 9) Ad)))))))))))
   (Ag (By (E9 jz_ jH_ jI_ Bf (pvD 4) (Aa (AX AN rfl T.tuple jS_ (Aa (pvD 6) Ad)) Ad)))))))
   (Ag (AY (AX AN rfl T.tuple jS_ (Aa (pvD 4) Ad))))))),?_⟩
  walk_at "rd"
  refine⟨a,ns,3,rfl,hs,?_⟩
  walk_at "rd"
  generalize cell ns 3=shape
  refine⟨by omega,fun pw hpw=>⟨by omega,by omega,?_⟩⟩
  rw[jh_]
  obtain⟨Pv,hPv⟩:∃ Pv:Nat->St->Hp->Prop,∀ i σ2 H2,Pv i σ2 H2↔(∃ (ways:α1) (o1 o2 o3 o4 o5:Option V),Same H H2/\DW K H2 pw ways/\ways.length=i/\(∀ row∈ways,(row.length:Int)=L/\∀ x∈row,0<=x/\x<(n:Int))/\σ2=[some (.ref a),some (.int L),some (.int n),some (.int shape),some (.ref pw),o1,o2,o3,o4,o5]):=⟨_,fun _ _ _=>qC_⟩
  refine forR Pv ((hPv _ _ _).mpr ⟨[],none,none,none,none,none,Same.new hpw,DW.nil Ab,rfl,(fun m hm=>by cases hm),rfl⟩) (fun i σ2 H2 hi h2=>?_) (fun σ2 H2 h2=>?_)
  ·obtain⟨ways,o1,o2,o3,o4,o5,s2,hw2,hlen,hr',rfl⟩:=(hPv _ _ _).mp h2
   generalize hroom:(0:Int)+(i:Nat)=room
   have hroom0:0<=room:=by omega
   have hroom1:room<n:=by omega
   walk_at "rd"
   refine⟨by omega,fun pr hpr=>⟨by omega,by omega,?_⟩⟩
   have hprn:H pr=none:=s2.free hpr
   have sA:=s2.newT hpr (o:=.lst [])
   have hwA:=hw2.mono (Same.new hpr (o:=.lst []))
   have hrA:upd H2 pr (.lst []) pr=some (.lst (([]:α2).map V.int)):=Ab
   have hne:pw≠pr:=by
    obtain⟨ts,e,_⟩:=hw2
    exact Al e hpr
   generalize upd H2 pr (.lst [])=HA at sA hwA hrA ⊢
   obtain⟨Pr,hPr⟩:∃ Pv:Nat->St->Hp->Prop,∀ j σ3 H3,Pv j σ3 H3↔(∃ (row:α2) (o3 o4 o5:Option V),Same H H3/\DW K H3 pw ways/\H3 pr=some (.lst (row.map V.int))/\row.length=j/\(∀ x∈row,0<=x/\x<(n:Int))/\σ3=[some (.ref a),some (.int L),some (.int n),some (.int shape),some (.ref pw),some (.int room),some (.ref pr),o3,o4,o5]):=⟨_,fun _ _ _=>qC_⟩
   refine forR Pr ((hPr _ _ _).mpr ⟨[],o3,o4,o5,sA,hwA,hrA,rfl,(fun m hm=>by cases hm),rfl⟩) (fun j σ3 H3 hj h3=>?_) (fun σ3 H3 h3=>?_)
   ·obtain⟨row,o3,o4,o5,s3,hw3,hr3,hrl,hrr,rfl⟩:=(hPr _ _ _).mp h3
    generalize hlet:(0:Int)+(j:Nat)=letter
    walk_at "rd"
    have hk0:0<=room*L:=Int.mul_nonneg hroom0 (by omega)
    have hk1:room*L<=40*6:=Int.mul_le_mul (by omega) (by omega) (by omega) (by omega)
    refine⟨.inl ⟨by omega,by omega⟩,?_⟩
    generalize hkk:6+room*L+letter=kk
    refine⟨shape,kk,n,rfl,by omega,by omega,by omega,fun g0 hg00 hg01=>?_⟩
    obtain⟨R,hR⟩:∃ R:St->Hp->Prop,∀ σ4 H4,R σ4 H4↔(H4=H3/\∃ g:Int,0<=g/\g<(n:Int)/\σ4=[some (.ref a),some (.int L),some (.int n),some (.int shape),some (.ref pw),some (.int room),some (.ref pr),some (.int letter),some (.int kk),some (.int g)]):=⟨_,fun _ _=>qC_⟩
    refine⟨R,?_,fun σ4 H4 h4=>⟨R,?_,fun σ5 H5 h5=>⟨R,?_,fun σ6 H6 h6=>⟨R,?_,fun σ7 H7 h7=>?_⟩⟩⟩⟩
    ·walk_at "rd"
     refine⟨_,.inl (s3.seq hs),?_⟩
     rw[ja_]
     refine ite2 (fun hlt=>?_) (fun _=>(hR _ _).mpr ⟨rfl,g0,hg00,hg01,rfl⟩)
     have hk':kk.toNat<ns.length:=by omega
     refine⟨_,s3.seq hs,_,CH (by omega) (v:=ns[kk.toNat]) (by simp[hk']),?_⟩
     walk_at "rd"
     exact⟨by omega,(hR _ _).mpr ⟨rfl,_,q3_ _ (by omega),qD_ _ (by omega),rfl⟩⟩
    ·obtain⟨rfl,g,hg0,hg1,rfl⟩:=(hR _ _).mp h4
     walk_at "rd"
     exact⟨by decide,ite2 (fun _=>⟨⟨by decide,by decide⟩,by omega,ite2 (fun _=>⟨by omega,(hR _ _).mpr ⟨rfl,_,q3_ _ (by omega),qD_ _ (by omega),rfl⟩⟩) (fun _=>h4)⟩) (fun _=>h4)⟩
    ·obtain⟨rfl,g,hg0,hg1,rfl⟩:=(hR _ _).mp h5
     walk_at "rd"
     exact⟨by decide,ite2 (fun _=>(hR _ _).mpr ⟨rfl,room,hroom0,hroom1,rfl⟩) (fun _=>h5)⟩
    ·obtain⟨rfl,g,hg0,hg1,rfl⟩:=(hR _ _).mp h6
     walk_at "rd"
     exact⟨by decide,ite2 (fun _=>⟨⟨by decide,by decide⟩,by omega,ite2 (fun _=>(hR _ _).mpr ⟨rfl,_,by split<;>omega,by split<;>omega,rfl⟩) (fun _=>h6)⟩) (fun _=>h6)⟩
    ·obtain⟨rfl,g,hg0,hg1,rfl⟩:=(hR _ _).mp h7
     walk_at "rd"
     refine⟨.inl ⟨rfl,_,SqL.of hr3⟩,_,hr3,by rw[ja_];omega,(hPr _ _ _).mpr ⟨row ++ [g],_,_,_,s3.over hprn,hw3.off hr3 hne,by rw[Ab];simp,by simp[hrl],fun x hx=>?_,rfl⟩⟩
     rcases jB_.mp hx with hx | hx
     ·exact hrr x hx
     ·rw[ju_.mp hx];exact⟨hg0,hg1⟩
   ·obtain⟨row,o3,o4,o5,s3,hw3,hr3,hrl,hrr,rfl⟩:=(hPr _ _ _).mp h3
    walk_at "rd"
    obtain⟨ts,e0,_⟩:=id hw3
    refine⟨.inl ⟨rfl,_,SqL.of e0⟩,_,.inl ⟨SqL.of hr3,fun t ht=>?_⟩⟩
    obtain⟨xs,e1,e2,hw4⟩:=(hw3.mono (Same.new ht (o:=.tup (row.map V.int)))).push (w:=row) (SqT.of Ab)
    refine⟨xs,e1,by omega,(hPv _ _ _).mpr ⟨ways ++ [row],_,_,_,_,_,(s3.newT ht).over hpw,hw4,by simp[hlen],fun r hr=>?_,rfl⟩⟩
    rcases jB_.mp hr with hr | hr
    ·exact hr' r hr
    ·rw[ju_.mp hr];exact⟨by omega,hrr⟩
  ·obtain⟨ways,o1,o2,o3,o4,o5,s2,hw2,hlen,hr',rfl⟩:=(hPv _ _ _).mp h2
   walk_at "rd"
   obtain⟨xs,e1,hrows⟩:=hw2.rows
   refine⟨_,.inl ⟨SqL.of e1,fun t ht=>?_⟩⟩
   exact k t ways _ (s2.newT ht) (hrows t ht) hlen hr'
def EI (L:Int)(m1:α2)(w1:α1)(m2:α2)(w2:α1):Prop:=∀ w,isW L w=true->mkR m1 (AL w1 w)=mkR m2 (AL w2 w)
theorem EI.refl {L:Int}{m:α2}{w:α1}:EI L m w m w:=fun _ _=>rfl
theorem EI.symm {L:Int}{m1 m2:α2}{w1 w2:α1}(h:EI L m1 w1 m2 w2):EI L m2 w2 m1 w1:=fun w hw=>(h w hw).symm
theorem EI.trans {L:Int}{m1 m2 m3:α2}{w1 w2 w3:α1}(h:EI L m1 w1 m2 w2)(g:EI L m2 w2 m3 w3):EI L m1 w1 m3 w3:=fun w hw=>(h w hw).trans (g w hw)
theorem EI.of {L:Int}{m1 m2:α2}{w1 w2:α1}(wf:Wf L m1 w1)(φ:Int->Int)(h0:φ 0=0)(hm:∀ r:Int,0<=r->r<m1.length->mkR m1 r=mkR m2 (φ r))(hw:∀ r x:Int,0<=r->r<m1.length->0<=x->x<L->φ (Bm w1 r x)=Bm w2 (φ r) x):EI L m1 w1 m2 w2:=by
 have n1:=wf.n1
 have key:∀ (w:α2) (r:Int),isW L w=true->0<=r->r<m1.length->mkR m1 (B2 w1 r w)=mkR m2 (B2 w2 (φ r) w):=by
  intro w
  induction w with
  | nil=>exact fun r _ r0 r1=>hm r r0 r1
  | cons x w ih =>
   intro r hx r0 r1
   have hx0:=AT.mp hx x jo_
   obtain⟨_,g,_,_,e,g0,g1⟩:=wf.step r0 r1 hx0.1 hx0.2
   show mkR m1 (B2 w1 (Bm w1 r x) w)=mkR m2 (B2 w2 (Bm w2 (φ r) x) w)
   rw[<- hw r x r0 r1 hx0.1 hx0.2]
   exact ih _ (AT.mpr fun y hy=>AT.mp hx y (jr_ _ hy)) (by rw[e];exact g0) (by rw[e];exact g1)
 intro w hw'
 have:=key w 0 hw' (by omega) (by omega)
 rw[h0] at this
 exact this
theorem ST {L:Int}{marks:α2}{ways:α1}{o:α2}(wf:Wf L marks ways)(h:Ey marks.length o)(h0:ordW o 0=0):EI L (P0 marks.length o marks) (P3 marks.length o ways) marks ways:=by
 refine EI.symm (EI.of wf (ordW o) h0 (fun r r0 r1=>?_) (fun r x r0 r1 x0 x1=>(Uy wf h r0 r1 x0 x1).symm))
 obtain⟨rn,rfl⟩:∃ rn:Nat,r=(rn:Int):=⟨r.toNat,by omega⟩
 have:=Rs h marks (r:=rn) (by omega)
 unfold mkR
 rw[jd_ (l:=P0 marks.length o marks),this,jh_]
 rfl
def Nt (K:α3):Sp:=fun vs H Q _=>∃ (h:Addr) (L:Int) (marks:α2) (ways:α1) (num:Int) (n:Nat),vs=[.ref h,.int num,.int n]/\BB K H h L marks ways/\Wf L marks ways/\n<=40/\∀ h' marks' ways' H',Same H H'->BB K H' h' L marks' ways'->Wf L marks' ways'->marks'.length=max marks.length n->EI L marks' ways' marks ways->Q (.ref h') H'
theorem Nu {f:Addr}{fd:α6}(F:Fun K "_law_blown" "_law_blown" BX f fd)(T:Txt mg)
  (Z:Exs K mg C_j2 C_j0)
  {AR:Addr} {A0:α6} (A4:FnOk P w K mg base CX0 1 AR A0 ["number", "k", "many"] (J6)) (AV:Fun K "_law_mixed" "_law_mixed" BD AR A0) (A5:Binds K A0 ["number", "k", "many"] []) (A6:mg "_law_mixed" = some (.ref AR))
  : FnOk P w K mg base CX0 2 f fd ["house", "number", "rooms"] (Nt K):=by
 refine F.ok Bo (fun vs H Q E h=>?_) (fun cdv A outer s H vs Q E hr h=>?_)
 ·obtain⟨h,L,marks,ways,num,n,rfl,_⟩:=h;rfl
 ·obtain⟨h,L,marks,ways,num,n,rfl,hh,wf,hn40,k⟩:=h
  have hl:=AB
  have hL1:=wf.l1
  have hL6:=wf.l6
  have hs1:=wf.n1
  have hs40:=wf.n40
  refine⟨_,(Ac (Aj (i:=3) Bo.nd (Ax (lenD Ak) (by rfl) T.len jL_ (Aa (Ai (ixTD AG) (pvD 0) Ae) Ad)))
   (Ac (CI (i:=4) Bo.nd rfl (Or.inr rfl) (Im rfl rfl T.list rfl T.range (pvD 3)))
   (Ac (Gx jO_ (ptT (AC (opD0 Lz) (Ax (lenD Ak) (by rfl) T.len jL_ (Aa (pvD 4) Ad)) (pvD 2) (AW _)))
   (Ag (By (E9 jz_ jH_ jI_ Bf (pvD 4) (Aa (Am A4 (hr.mono (by decide)) rfl A6 AV.kp A5 .nil Bc (Aa (pvD 1) (Aa (Ax (lenD Ak) (by rfl) T.len jL_ (Aa (pvD 4) Ad)) (Aa (pvD 3) Ad)))) Ad)))))
   (Ac (Aj (i:=5) Bo.nd (Ce Ad))
   (Ac (CJ jO_ rfl (BO rfl T.range (Aa (Ax (lenD Ak) (by rfl) T.len jL_ (Aa (pvD 4) Ad)) Ad)) (As (i:=6) Bo.nd rfl (Or.inl rfl))
   (Ac (Aj (i:=7) Bo.nd (Ce Ad))
   (Ac (CJ jO_ rfl (BO rfl T.range (Aa (Ai (ixTD AG) (pvD 0) Ae) Ad)) (As (i:=8) Bo.nd rfl (Or.inl rfl))
   (Ac (CI (i:=9) Bo.nd rfl (Or.inr rfl) (Ai (ixTD AG) (Ai (ixTD AG) (Ai (ixTD AG) (pvD 0) Ae) (Ai (ixLD Bz) (pvD 4) (pvD 6))) (pvD 8)))
   (Ac (Ii (i:=10) Bo.nd rfl rfl rfl (Cp rfl) (cp:=GZ) ⟨⟨rfl,rfl⟩,⟨⟨rfl,rfl⟩,True.intro⟩⟩ (BO rfl T.range (Aa (Ax (lenD Ak) (by rfl) T.len jL_ (Aa (pvD 4) Ad)) Ad)) (fun _ _ _ _=>(As (i:=0) Iw rfl (Or.inl rfl))) (fun _ _ _ _=>(Xh (ptT (AC (opE DV) (Ai (ixLD (CN (K:=K) rfl)) (pvD 2) (pvD 0)) (pvD 1) (AW _))))) (fun _ _ _ _=>(pvD 0)))
   (Ag (By (E9 jz_ jH_ jI_ Bf (pvD 7) (Aa (Ai (ixLD Bz) (pvD 10) (Am A4 (hr.mono (by decide)) rfl A6 AV.kp A5 .nil Bc (Aa (At (opD0 Cd) (pvD 1) Ae) (Aa (At (opD0 Cd) (At (opD J7) (pvD 6) (Ai (ixTD AG) (pvD 0) Ae)) (pvD 8)) (Aa (Ax (lenD Ak) (by rfl) T.len jL_ (Aa (pvD 10) Ad)) Ad))))) Ad)))))))
   (Ag (By (E9 jz_ jH_ jI_ Bf (pvD 5) (Aa (AX AN rfl T.tuple jS_ (Aa (pvD 7) Ad)) Ad)))))))
   (Ag (AY (Do (Aa (Ai (ixTD AG) (pvD 0) Ae) (Aa (AX AN rfl T.tuple jS_ (Aa (Ci rfl (Cp rfl) (cp:=G0) ⟨⟨rfl,rfl⟩,True.intro⟩ (Cg (pvD 4)) (fun _ _ _ _=>(As (i:=0) Ix rfl (Or.inl rfl))) (fun _ _ _ _=>CG) (fun _ _ _ _=>(Ai (ixTD (CO (K:=K) rfl)) (Ai (ixTD (CO (K:=K) rfl)) (pvD 1) Ae) (pvD 0)))) Ad)) (Aa (AX AN rfl T.tuple jS_ (Aa (pvD 5) Ad)) Ad))))))))))),?_⟩
  walk_at "rd"
  obtain⟨tm,tw,q1,q2,q3⟩:=id hh
  refine⟨_,q1,_,rfl,?_⟩
  walk_at "rd"
  refine⟨_,.inr q2,?_⟩
  rw[ja_]
  refine⟨by omega,by omega,fun pf hpf=>?_⟩
  rw[jh_]
  obtain⟨Pw,hPw⟩:∃ Pv:Nat->St->Hp->Prop,∀ m σ2 H2,Pv m σ2 H2↔(∃ fold:α2,m=41-fold.length/\Same H H2/\H2 pf=some (.lst (fold.map V.int))/\marks.length<=fold.length/\fold.length<=40/\fold.length<=max marks.length n/\(∀ x∈fold,0<=x/\x<(marks.length:Int))/\(∀ g:Nat,g<marks.length->fold[g]?=some (g:Int))/\σ2=[some (.ref h),some (.int num),some (.int n),some (.int marks.length),some (.ref pf),none,none,none,none,none,none]):=⟨_,fun _ _ _=>qC_⟩
  refine L8 Pw ⟨_,(hPw _ _ _).mpr ⟨ups marks.length,rfl,Same.new hpf,by rw[Ab],by simp[ups],by simp[ups];omega,by simp[ups];omega,fun x hx=>?_,fun g hg=>?_,rfl⟩⟩ ?_
  ·obtain⟨i,hi,rfl⟩:=jv_.mp hx
   have:=jW_.mp hi
   omega
  ·unfold ups
   rw[je_,qu_ hg];rfl
  intro m σ2 H2 hpw
  obtain⟨fold,rfl,s2,hf2,hfl,hf40,hfm,hfr,hfg,rfl⟩:=(hPw _ _ _).mp hpw
  walk_at "rd"
  refine⟨_,.inl (SqL.of hf2),?_⟩
  rw[ja_]
  refine ite2 (fun hlt=>?_) (fun hge=>?_)
  ·refine⟨Pw (41-(fold.length+1)),fun σ' H' h=>⟨_,by omega,h⟩,?_⟩
   refine⟨.inl ⟨rfl,_,SqL.of hf2⟩,_,.inl (SqL.of hf2),?_⟩
   rw[ja_]
   refine⟨num,_,marks.length,rfl,by omega,by omega,by omega,fun x hx0 hx1=>?_⟩
   walk_at "rd"
   refine⟨_,hf2,by rw[ja_];omega,(hPw _ _ _).mpr ⟨fold ++ [x],by simp,s2.over hpf,by rw[Ab];simp,by simp;omega,by simp;omega,by simp;omega,fun y hy=>?_,fun g hg=>?_,rfl⟩⟩
   ·rcases jB_.mp hy with hy | hy
    ·exact hfr y hy
    ·rw[ju_.mp hy];exact⟨hx0,hx1⟩
   ·rw[jk_ (by omega)];exact hfg g hg
  ·clear hpw hPw Pw
   refine⟨by omega,fun pw hpw=>⟨_,.inl (SqL.of (Same.new hpw _ _ hf2)),?_⟩⟩
   rw[ja_]
   refine⟨by omega,by omega,?_⟩
   rw[jh_]
   have hpwn:H pw=none:=s2.free hpw
   have hnefw:pf≠pw:=Al hf2 hpw
   have sB:=s2.newT hpw (o:=.lst [])
   have hfB:=Same.new hpw (o:=.lst []) _ _ hf2
   have hwB:upd H2 pw (.lst []) pw=some (.lst []):=Ab
   generalize upd H2 pw (.lst [])=HB at sB hfB hwB ⊢
   obtain⟨Pv,hPv⟩:∃ Pv:Nat->St->Hp->Prop,∀ i σ3 H3,Pv i σ3 H3↔(∃ (ws:α1) (o6 o7 o8 o9 o10:Option V),Same H H3/\H3 pf=some (.lst (fold.map V.int))/\DW K H3 pw ws/\ws.length=i/\(∀ row∈ws,(row.length:Int)=L/\∀ x∈row,0<=x/\x<(fold.length:Int))/\(∀ (r:Nat) (row:α2),ws[r]?=some row->∀ (x:Nat) (t:Int),row[x]?=some t->fold.getD t.toNat 0=Bm ways (fold.getD r 0) x)/\σ3=[some (.ref h),some (.int num),some (.int n),some (.int marks.length),some (.ref pf),some (.ref pw),o6,o7,o8,o9,o10]):=⟨_,fun _ _ _=>qC_⟩
   refine forR Pv ((hPv _ _ _).mpr ⟨[],none,none,none,none,none,sB,hfB,DW.nil hwB,rfl,(fun r hr=>by cases hr),(fun r row hr=>by simp at hr),rfl⟩) (fun i σ3 H3 hi h3=>?_) (fun σ3 H3 h3=>?_)
   ·obtain⟨ws,o6,o7,o8,o9,o10,s3,hf3,hw3,hwl,hwr,hwd,rfl⟩:=(hPv _ _ _).mp h3
    generalize hroom:(0:Int)+(i:Nat)=room
    have hroom0:0<=room:=by omega
    have hroom1:room<fold.length:=by omega
    walk_at "rd"
    refine⟨by omega,fun pr hpr=>⟨_,(s3.newT hpr).seqT q1,_,rfl,?_⟩⟩
    walk_at "rd"
    refine⟨by omega,by omega,?_⟩
    have hprn:H pr=none:=s3.free hpr
    have hnew:pw≠pr:=by
     obtain⟨ts,e,_⟩:=id hw3
     exact Al e hpr
    have hnef:pf≠pr:=Al hf3 hpr
    have sC:=s3.newT hpr (o:=.lst [])
    have hfC:=Same.new hpr (o:=.lst []) _ _ hf3
    have hwC:=hw3.mono (Same.new hpr (o:=.lst []))
    have hrC:upd H3 pr (.lst []) pr=some (.lst (([]:α2).map V.int)):=Ab
    generalize upd H3 pr (.lst [])=HC at sC hfC hwC hrC ⊢
    obtain⟨Pr,hPr⟩:∃ Pv:Nat->St->Hp->Prop,∀ j σ4 H4,Pv j σ4 H4↔(∃ (row:α2) (o8 o9 o10:Option V),Same H H4/\H4 pf=some (.lst (fold.map V.int))/\DW K H4 pw ws/\H4 pr=some (.lst (row.map V.int))/\row.length=j/\(∀ x∈row,0<=x/\x<(fold.length:Int))/\(∀ (x:Nat) (t:Int),row[x]?=some t->fold.getD t.toNat 0=Bm ways (fold.getD i 0) x)/\σ4=[some (.ref h),some (.int num),some (.int n),some (.int marks.length),some (.ref pf),some (.ref pw),some (.int room),some (.ref pr),o8,o9,o10]):=⟨_,fun _ _ _=>qC_⟩
    refine forR Pr ((hPr _ _ _).mpr ⟨[],_,_,_,sC,hfC,hwC,hrC,rfl,(fun r hr=>by cases hr),(fun x t hx=>by simp at hx),rfl⟩) (fun j σ4 H4 hj h4=>?_) (fun σ4 H4 h4=>?_)
    ·obtain⟨row,o8,o9,o10,s4,hf4,hw4,hr4,hrl,hrr,hrd,rfl⟩:=(hPr _ _ _).mp h4
     generalize hlet:(0:Int)+(j:Nat)=letter
     obtain⟨fr,hfr1⟩:∃ fr,fold[room.toNat]?=some fr:=⟨fold[room.toNat]'(by omega),by simp[show room.toNat<fold.length by omega]⟩
     have hfr2:=hfr fr (jg_ hfr1)
     obtain⟨row0,g,r1,r2,r3,r4,r5⟩:=wf.step (x:=letter) hfr2.1 hfr2.2 (by omega) (by omega)
     obtain⟨xs,t,z1,z2,z3⟩:=q3.atZ hfr2.1 r1
     walk_at "rd"
     refine⟨_,s4.seqT q1,_,rfl,?_⟩
     walk_at "rd"
     refine⟨_,SqL.of hf4,_,CH hroom0 hfr1,?_⟩
     walk_at "rd"
     refine⟨_,s4.seqT z1,_,z2,?_⟩
     walk_at "rd"
     refine⟨_,s4.seqT z3,_,CH (by omega) r2,?_⟩
     walk_at "rd"
     refine⟨_,.inl (SqL.of hf4),?_⟩
     rw[ja_]
     refine⟨by omega,by omega,?_⟩
     rw[jh_]
     obtain⟨Pc,hPc⟩:∃ Pc:Nat->List V->St->Hp->Prop,∀ c ys σ5 H5,Pc c ys σ5 H5↔(H5=H4/\∃ (twins:α2) (o:Option V),ys=twins.map V.int/\twins.length<=c/\(∀ x∈twins,0<=x/\x<(fold.length:Int)/\fold.getD x.toNat 0=g)/\(g.toNat<c->twins ≠ [])/\σ5=[o,some (.int g),some (.ref pf)]):=⟨_,fun _ _ _ _=>qC_⟩
     refine Uf Pc ((hPc _ _ _ _).mpr ⟨rfl,[],none,rfl,jl_ _,(fun x hx=>by cases hx),(fun z=>absurd z (xE_ _)),rfl⟩) (by omega) (fun c ys σ5 H5 _ h5=>?_) (fun c ys σ5 H5 hc h5=>?_) (fun ys σ5 H5 h5 D hD=>?_)
     ·obtain⟨_,twins,o,rfl,hlen,_⟩:=(hPc _ _ _ _).mp h5
      rw[ja_];exact hlen
     ·obtain⟨rfl,twins,o,rfl,hlen,htr,htn,rfl⟩:=(hPc _ _ _ _).mp h5
      obtain⟨fv,hfv⟩:∃ fv,fold[c]?=some fv:=⟨fold[c]'hc,by simp[hc]⟩
      have ec:(0:Int)+(c:Nat)=(c:Int):=by omega
      rw[ec]
      walk_at "rd"
      refine⟨_,SqL.of hf4,_,CH (by omega) (by rw[jh_];exact hfv),?_⟩
      walk_at "rd"
      refine ite2 (fun he=>?_) (fun hne=>?_)
      ·refine (hPc _ _ _ _).mpr ⟨rfl,twins ++ [(c:Int)],_,by simp,by simp;omega,fun x hx=>?_,(fun _ z=>by simp at z),rfl⟩
       rcases jB_.mp hx with hx | hx
       ·exact htr x hx
       ·rw[ju_.mp hx]
        refine⟨by omega,by omega,?_⟩
        rw[jh_,jd_,hfv]
        exact he
      ·refine (hPc _ _ _ _).mpr ⟨rfl,twins,_,rfl,by omega,htr,fun hlt'=>?_,rfl⟩
       by_cases hgc:g.toNat=c
       ·exfalso
        have:=hfg c (by omega)
        rw[hfv] at this
        have e2:=js_ this
        apply hne
        omega
       ·exact htn (by omega)
     ·obtain⟨rfl,twins,o,rfl,hlen,htr,htn,rfl⟩:=(hPc _ _ _ _).mp h5
      have hne:twins ≠ []:=htn (by omega)
      have hpos:0<twins.length:=List.length_pos_iff.mpr hne
      have sD:=Same.new hD (o:=.lst (twins.map V.int))
      have hmul0:0<=room*L:=Int.mul_nonneg hroom0 (by omega)
      have hmul1:room*L<=40*6:=Int.mul_le_mul (by omega) (by omega) (by omega) (by omega)
      refine⟨.inl ⟨rfl,_,SqL.of (sD _ _ hr4)⟩,_,(s4.trans sD).seqT q1,_,rfl,L,rfl,.inl ⟨by omega,by omega⟩,D,rfl,_,.inl (SqL.of Ab),?_⟩
      rw[ja_]
      refine⟨_,_,_,rfl,by omega,by omega,by omega,fun x hx0 hx1=>?_⟩
      have hxt:x.toNat<twins.length:=by omega
      refine⟨D,rfl,_,x,rfl,SqL.of Ab,_,CH hx0 (v:=twins[x.toNat]) (by simp[hxt]),_,sD _ _ hr4,by rw[ja_];omega,(hPr _ _ _).mpr ⟨row ++ [twins[x.toNat]],_,_,_,(s4.trans sD).over hprn,?_,(hw4.mono sD).off (sD _ _ hr4) hnew,by rw[Ab];simp,by simp[hrl],fun y hy=>?_,fun y t hy=>?_,rfl⟩⟩
      ·rw[Ah hnef];exact sD _ _ hf4
      ·rcases jB_.mp hy with hy | hy
       ·exact hrr y hy
       ·rw[ju_.mp hy];exact⟨(htr _ (j4_ hxt)).1,(htr _ (j4_ hxt)).2.1⟩
      ·by_cases hyl:y<row.length
       ·rw[jk_ hyl] at hy
        exact hrd y t hy
       ·rw[jt_ (by omega)] at hy
        have h0:y-row.length=0:=by
         have:=(jc_.mp hy).1
         simpa using this
        rw[h0] at hy
        have hy:twins[x.toNat]=t:=by simpa using hy
        rw[<- hy,(htr _ (j4_ hxt)).2.2]
        have e5:fold.getD i 0=fr:=by
         rw[jd_,show i=room.toNat by omega,hfr1];rfl
        rw[e5,<- r3]
        congr 1
        omega
    ·obtain⟨row,o8,o9,o10,s4,hf4,hw4,hr4,hrl,hrr,hrd,rfl⟩:=(hPr _ _ _).mp h4
     walk_at "rd"
     obtain⟨ts,e0,_⟩:=id hw4
     refine⟨.inl ⟨rfl,_,SqL.of e0⟩,_,.inl ⟨SqL.of hr4,fun t ht=>?_⟩⟩
     obtain⟨xs,e1,e2,hw5⟩:=(hw4.mono (Same.new ht (o:=.tup (row.map V.int)))).push (w:=row) (SqT.of Ab)
     refine⟨xs,e1,by omega,(hPv _ _ _).mpr ⟨ws ++ [row],_,_,_,_,_,(s4.newT ht).over hpwn,?_,hw5,by simp[hwl],fun r hr=>?_,fun r rw0 hr=>?_,rfl⟩⟩
     ·rw[Ah hnefw];exact Same.new ht _ _ hf4
     ·rcases jB_.mp hr with hr | hr
      ·exact hwr r hr
      ·rw[ju_.mp hr];exact⟨by omega,hrr⟩
     ·by_cases hrl2:r<ws.length
      ·rw[jk_ hrl2] at hr
       exact hwd r rw0 hr
      ·rw[jt_ (by omega)] at hr
       have h0:r-ws.length=0:=by
        have:=(jc_.mp hr).1
        simpa using this
       rw[h0] at hr
       have hr:row=rw0:=by simpa using hr
       subst hr
       rw[show r=i by omega]
       exact hrd
   ·obtain⟨ws,o6,o7,o8,o9,o10,s3,hf3,hw3,hwl,hwr,hwd,rfl⟩:=(hPv _ _ _).mp h3
    walk_at "rd"
    refine⟨_,s3.seqT q1,_,rfl,⟨_,SqL.of hf3⟩,HD (σ':=[some (.ref h)]) (fun x=>match x with | .int n=>.int (mkW marks n) | _=>.non) rfl (SqL.of hf3) (by rw[ja_];omega) (fun x hx R hR=>?_) (fun Dm hDm=>?_)⟩
    ·obtain⟨y,hy,rfl⟩:=Ez hx
     have hin:=hfr y hy
     walk_at "rd"
     refine⟨_,s3.seqT q1,_,rfl,?_⟩
     walk_at "rd"
     exact⟨_,s3.seqT q2,_,At_ hin.1 hin.2,hR⟩
    have em:(fold.map V.int).map (fun x=>match x with | .int n=>.int (mkW marks n) | _=>.non)=(fold.map (mkW marks)).map V.int:=by rw[jQ_,jQ_];rfl
    rw[em]
    refine⟨Dm,rfl,_,.inl ⟨SqL.of Ab,fun t1 ht1=>?_⟩⟩
    obtain⟨xs,hx1,hrows⟩:=(hw3.mono ((Same.new hDm (o:=.lst ((fold.map (mkW marks)).map V.int))).newT ht1 (o:=.tup ((fold.map (mkW marks)).map V.int)))).rows
    refine⟨xs,.inl ⟨SqL.of hx1,fun t2 ht2=>⟨by omega,fun h9 hh9=>?_⟩⟩⟩
    refine k h9 (fold.map (mkW marks)) ws _ ((((s3.newT hDm).newT ht1).newT ht2).newT hh9) ⟨t1,t2,SqT.of Ab,((Same.new ht2).newT hh9).seqT (SqT.of Ab),(hrows t2 ht2).mono (Same.new hh9)⟩ ⟨hL1,hL6,by rw[ja_];omega,by rw[ja_];omega,by rw[ja_];omega,fun row hr=>by rw[ja_];exact hwr row hr,fun m hm=>?_⟩ (by rw[ja_];omega) ?_
    ·obtain⟨y,hy,rfl⟩:=jv_.mp hm
     have hin:=hfr y hy
     exact wf.mks _ (XG hin.1 hin.2)
    ·have wfB:Wf L (fold.map (mkW marks)) ws:=⟨hL1,hL6,by rw[ja_];omega,by rw[ja_];omega,by rw[ja_];omega,fun row hr=>by rw[ja_];exact hwr row hr,fun m hm=>by
      obtain⟨y,hy,rfl⟩:=jv_.mp hm
      have hin:=hfr y hy
      exact wf.mks _ (XG hin.1 hin.2)⟩
     refine EI.of wfB (fun r=>fold.getD r.toNat 0) ?_ (fun r r0 r1=>?_) (fun r x r0 r1 x0 x1=>?_)
     ·show fold.getD 0 0=0
      rw[jd_,hfg 0 (by omega)];rfl
     ·rw[ja_] at r1
      unfold mkR
      rw[jd_,je_,ji_ (by omega),jd_ (l:=fold),ji_ (by omega)]
      rfl
     ·obtain⟨row,g,a1,a2,a3,a4,a5⟩:=wfB.step r0 r1 x0 x1
      have:=hwd r.toNat row a1 x.toNat g a2
      rw[a3]
      show fold.getD g.toNat 0=Bm ways (fold.getD r.toNat 0) x
      rw[this,xL_ x0]
def Mq (K:α3):Sp:=fun vs H Q _=>∃ (a:Addr) (ns:α2),vs=[.ref a]/\SqL K H a (ns.map V.int)/\∀ h L marks ways H',Same H H'->BB K H' h L marks ways->Wf L marks ways->marks.length<=15->Q (.ref h) H'
theorem Jp {f:Addr}{fd:α6}(F:Fun K "_law_house_by" "_law_house_by" Br f fd)(T:Txt mg)
  (Z:Exs K mg C_j2 C_j0)
  {An:Addr} {Av:α6} (Ap:FnOk P w K mg base CX0 1 An Av ["script", "k"] (KI K)) (Ao:Fun K "_law_cell_at" "_law_cell_at" AZ An Av) (Aq:Binds K Av ["script", "k"] []) (Ar:mg "_law_cell_at" = some (.ref An))
  {Bu:Addr} {DM:α6} (Ek:FnOk P w K mg base CX0 2 Bu DM ["number", "rooms"] (Mp K)) (CB:Fun K "_law_marks_by" "_law_marks_by" Bq Bu DM) (El:Binds K DM ["number", "rooms"] []) (Em:mg "_law_marks_by" = some (.ref Bu))
  {BJ:Addr} {En:α6} (EJ:FnOk P w K mg base CX0 2 BJ En ["script", "letters", "rooms"] (O4 K)) (CK:Fun K "_law_ways_by" "_law_ways_by" BG BJ En) (EK:Binds K En ["script", "letters", "rooms"] []) (EL:mg "_law_ways_by" = some (.ref BJ))
  {Bi:Addr} {Cc:α6} (Da:FnOk P w K mg base CX0 2 Bi Cc ["house", "number", "rooms"] (Nt K)) (B0:Fun K "_law_blown" "_law_blown" BX Bi Cc) (Db:Binds K Cc ["house", "number", "rooms"] []) (Dc:mg "_law_blown" = some (.ref Bi))
  : FnOk P w K mg base CX0 3 f fd ["script"] (Mq K):=by
 refine F.ok A3 (fun vs H Q E h=>?_) (fun cdv A outer s H vs Q E hr h=>?_)
 ·obtain⟨a,ns,rfl,_⟩:=h;rfl
 ·obtain⟨a,ns,rfl,hs,k⟩:=h
  have hl:=AB
  refine⟨_,(Ac (Aj (i:=1) A3.nd (At (opD0 Cd) Ae (At (opD Bx) (At (opD0 Cd) (Am Ap (hr.mono (by decide)) rfl Ar Ao.kp Aq .nil Bc (Aa (pvD 0) (Aa Ae Ad))) Ae) Ae)))
   (Ac (Aj (i:=2) A3.nd (At (opD0 Cd) Ae (At (opD Bx) (At (opD0 Cd) (Am Ap (hr.mono (by decide)) rfl Ar Ao.kp Aq .nil Bc (Aa (pvD 0) (Aa Ae Ad))) Ae) Ae)))
   (DL (DB (PW.pt (IW (ptT (AC (opE DV) (At (opD Bx) (At (opD FZ) (Am Ap (hr.mono (by decide)) rfl Ar Ao.kp Aq .nil Bc (Aa (pvD 0) (Aa Ae Ad))) Ae) Ae) Ae (AW _))) (FY (ptT (AC (opD0 Lz) (pvD 1) Ae (AW _))))))
   (Ag (Aj (i:=2) A3.nd (At (opD0 Cd) Ae (At (opD Bx) (At (opD FZ) (Am Ap (hr.mono (by decide)) rfl Ar Ao.kp Aq .nil Bc (Aa (pvD 0) (Aa Ae Ad))) Ae) Ae))))
   Be)
   (Ac (Aj (i:=3) A3.nd (Am Ek (hr.mono (by decide)) rfl Em CB.kp El .nil Bc (Aa (Am Ap (hr.mono (by decide)) rfl Ar Ao.kp Aq .nil Bc (Aa (pvD 0) (Aa Ae Ad))) (Aa (pvD 2) Ad))))
   (Ac (Aj (i:=4) A3.nd (Do (Aa (pvD 1) (Aa (pvD 3) (Aa (Am EJ (hr.mono (by decide)) rfl EL CK.kp EK .nil Bc (Aa (pvD 0) (Aa (pvD 1) (Aa (pvD 2) Ad)))) Ad)))))
   (Ac (Aj (i:=5) A3.nd (Am Ap (hr.mono (by decide)) rfl Ar Ao.kp Aq .nil Bc (Aa (pvD 0) (Aa Ae Ad))))
   (DL (DB (ptT (AC (opE DV) (At (opD Bx) (pvD 5) Ae) Ae (AW _)))
   (Ag (Aj (i:=4) A3.nd (Am Da (hr.mono (by decide)) rfl Dc B0.kp Db .nil Bc (Aa (pvD 4) (Aa (pvD 5) (Aa (At (opD0 Cd) (At (opD0 Cd) (pvD 2) Ae) (At (opD Bx) (At (opD FZ) (pvD 5) Ae) Ae)) Ad))))))
   Be)
   (Ag (AY (pvD 4)))))))))),?_⟩
  walk_at "rd"
  refine⟨a,ns,0,rfl,hs,?_⟩
  walk_at "rd"
  refine⟨by decide,a,ns,1,rfl,hs,?_⟩
  walk_at "rd"
  have hL1:1<=1+(cell ns 0+1)%6:=by omega
  have hL6:1+(cell ns 0+1)%6<=6:=by omega
  generalize 1+(cell ns 0+1)%6=L at hL1 hL6 ⊢
  obtain⟨R,hR⟩:∃ R:St->Hp->Prop,∀ σ' H',R σ' H'↔(H'=H/\∃ n:Nat,1<=n/\n<=12/\σ'=[some (.ref a),some (.int L),some (.int n),none,none,none]):=⟨_,fun _ _=>qC_⟩
  refine⟨by decide,R,?_,?_⟩
  ·walk_at "rd"
   refine⟨a,ns,1,rfl,hs,?_⟩
   walk_at "rd"
   refine⟨⟨by decide,by decide⟩,by decide,?_⟩
   have hb:R [some (V.ref a),some (V.int L),some (V.int (1+(cell ns 1+3)%5)),none,none,none] H:=(hR _ _).mpr ⟨rfl,(1+(cell ns 1+3)%5).toNat,by omega,by omega,by rw[show (((1+(cell ns 1+3)%5).toNat:Nat):Int)=1+(cell ns 1+3)%5 by omega]⟩
   refine ite2 (fun _=>ite2 (fun _=>?_) (fun _=>hb)) (fun _=>hb)
   refine⟨a,ns,1,rfl,hs,_,rfl,⟨by decide,by decide⟩,by decide,(hR _ _).mpr ⟨rfl,(1+cell ns 1 / 80%12).toNat,by omega,by omega,?_⟩⟩
   rw[show (((1+cell ns 1 / 80%12).toNat:Nat):Int)=1+cell ns 1 / 80%12 by omega]
  ·intro σ' H' h'
   obtain⟨rfl,n,hn1,hn12,rfl⟩:=(hR _ _).mp h'
   have hn40:n<=40:=by omega
   walk_at "rd"
   refine⟨a,ns,2,rfl,hs,?_⟩
   walk_at "rd"
   refine⟨_,n,rfl,hn1,hn40,fun tm marks H1 s1 htm hml hmr=>?_⟩
   walk_at "rd"
   refine⟨a,ns,L,n,rfl,s1.seq hs,hL1,hL6,hn1,hn40,fun tw ways H2 s2 hrows hwl hwr=>?_⟩
   walk_at "rd"
   refine⟨by omega,fun h hh=>?_⟩
   have wf:Wf L marks ways:=⟨hL1,hL6,by omega,by omega,by omega,fun row hr=>by rw[hml];exact hwr row hr,hmr⟩
   have hs3:=(s1.trans s2).newT hh (o:=.tup [V.int L,V.ref tm,V.ref tw])
   have hs2h:BB K (upd H2 h (.tup [V.int L,V.ref tm,V.ref tw])) h L marks ways:=⟨tm,tw,SqT.of Ab,(s2.newT hh).seqT htm,hrows.mono (Same.new hh)⟩
   generalize upd H2 h (.tup [V.int L,V.ref tm,V.ref tw])=H3 at hs3 hs2h ⊢
   refine⟨a,ns,4,rfl,hs3.seq hs,?_⟩
   walk_at "rd"
   obtain⟨R2,hR2⟩:∃ R:St->Hp->Prop,∀ σ4 H4,R σ4 H4↔(∃ (h:Addr) (marks:α2) (ways:α1) (o1 o2 o3:Option V),Same H' H4/\BB K H4 h L marks ways/\Wf L marks ways/\marks.length<=15/\σ4=[some (.ref a),some (.int L),o1,o2,some (.ref h),o3]):=⟨_,fun _ _=>qC_⟩
   refine⟨R2,?_,?_⟩
   ·walk_at "rd"
    refine⟨by decide,ite2 (fun _=>⟨⟨by decide,by decide⟩,by decide,?_⟩) (fun _=>(hR2 _ _).mpr ⟨h,marks,ways,_,_,_,hs3,hs2h,wf,by omega,rfl⟩)⟩
    have hx0:=q3_ (cell ns 4 / 3) (show (3:Int)≠0 by decide)
    have hx1:=qD_ (cell ns 4 / 3) (show (0:Int)<3 by decide)
    obtain⟨m,hm,hm40⟩:∃ m:Nat,(n:Int)+1+cell ns 4 / 3%3=(m:Int)/\m<=15:=⟨((n:Int)+1+cell ns 4 / 3%3).toNat,by omega,by omega⟩
    rw[hm]
    refine⟨h,L,marks,ways,_,m,rfl,hs2h,wf,by omega,fun h' marks' ways' H4 s4 hh' wf' hml' _=>?_⟩
    exact (hR2 _ _).mpr ⟨h',marks',ways',_,_,_,hs3.trans s4,hh',wf',by rw[hml'];omega,rfl⟩
   ·intro σ4 H4 h4
    obtain⟨h,marks,ways,o1,o2,o3,s4,hh4,wf4,hm15,rfl⟩:=(hR2 _ _).mp h4
    walk_at "rd"
    exact k h L marks ways H4 s4 hh4 wf4 hm15
def KM (K:α3):Sp:=fun vs H Q _=>∃ (h:Addr) (L:Int) (marks:α2) (ways:α1) (num:Int),vs=[.ref h,.int num]/\BB K H h L marks ways/\Wf L marks ways/\∀ h' marks' ways' H',Same H H'->BB K H' h' L marks' ways'->Wf L marks' ways'->marks'.length=marks.length->EI L marks' ways' marks ways->Q (.ref h') H'
theorem IM {f:Addr}{fd:α6}(F:Fun K "_law_turned_by" "_law_turned_by" Bk f fd)(T:Txt mg)
  (Z:Exs K mg C_j2 C_j0)
  : FnOk P w K mg base CX0 1 f fd ["house", "number"] (KM K):=by
 refine F.ok Bp (fun vs H Q E h=>?_) (fun cdv A outer s H vs Q E hr h=>?_)
 ·obtain⟨h,L,marks,ways,num,rfl,_⟩:=h;rfl
 ·obtain⟨h,L,marks,ways,num,rfl,hh,wf,k⟩:=h
  have hl:=AB
  have hn1:=wf.n1
  have hn40:=wf.n40
  obtain⟨tm,tw,q1,q2,q3⟩:=id hh
  refine⟨_,(Ac (CI (i:=2) Bp.nd rfl (Or.inr rfl) (Ax (lenD Ak) (by rfl) T.len jL_ (Aa (Ai (ixTD AG) (pvD 0) Ae) Ad)))
   (Ac (DB (ptT (AC (opE DV) (pvD 2) Ae (AW _)))
   (Ag (AY (pvD 0)))
   Be)
   (DL (CI (i:=3) Bp.nd rfl (Or.inr rfl) (At Z0 (Ce (Aa Ae Ad)) (Ci rfl (Cp rfl) (cp:=EC) ⟨⟨rfl,rfl⟩,⟨⟨rfl,rfl⟩,True.intro⟩⟩ (BO rfl T.range (Aa (At (opD0 ET) (pvD 2) Ae) Ad)) (fun _ _ _ _=>(As (i:=0) Ge rfl (Or.inl rfl))) (fun _ _ _ _=>CG) (fun _ _ _ _=>(At (opD0 Cd) Ae (At (opD Bx) (At (opD0 Cd) (pvD 0) (pvD 1)) (At (opD0 ET) (pvD 2) Ae)))))))
   (Ac (Aj (i:=4) Bp.nd (At TW (Ce (Aa Ae Ad)) (pvD 2)))
   (Ac (Aj (i:=5) Bp.nd (At TW (Ce (Aa (Do Ad) Ad)) (pvD 2)))
   (Ac (CJ jO_ rfl (BO rfl T.range (Aa (pvD 2) Ad)) (As (i:=6) Bp.nd rfl (Or.inl rfl))
   (Ac (Ty (Ai (ixTD AG) (Ai (ixTD AG) (pvD 0) Ae) (pvD 6)) (Tx (pvD 4) (Ai (ixLD Bz) (pvD 3) (pvD 6)) set_list))
   (Ag (Ty (AX AN rfl T.tuple jS_ (Aa (Ci rfl (Cp rfl) (cp:=ED) ⟨⟨rfl,rfl⟩,True.intro⟩ (Hy (Ai (ixTD AG) (Ai (ixTD AG) (pvD 0) Ae) (pvD 6))) (fun _ _ _ _=>(As (i:=0) Gf rfl (Or.inl rfl))) (fun _ _ _ _=>CG) (fun _ _ _ _=>(Ai (ixLD (CN (K:=K) rfl)) (pvD 1) (pvD 0)))) Ad)) (Tx (pvD 5) (Ai (ixLD Bz) (pvD 3) (pvD 6)) set_list)))))
   (Ag (AY (Do (Aa (Ai (ixTD AG) (pvD 0) Ae) (Aa (AX AN rfl T.tuple jS_ (Aa (pvD 4) Ad)) (Aa (AX AN rfl T.tuple jS_ (Aa (pvD 5) Ad)) Ad)))))))))))),?_⟩
  walk_at "rd"
  refine⟨_,q1,_,rfl,?_⟩
  walk_at "rd"
  refine⟨_,.inr q2,?_⟩
  rw[ja_]
  refine ite2 (fun h1=>k h marks ways H (Same.refl _) hh wf rfl EI.refl) (fun h1=>?_)
  have h2:2<=marks.length:=by omega
  have ho:=UB h2 num
  have hol:=ho.len
  have ho0:ordW (Sf marks.length num) 0=0:=rfl
  generalize hspin:Sf marks.length num=o at ho hol ho0
  refine⟨fun σ' H'=>Same H H'/\∃ a,H' a=some (.lst (o.map V.int))/\σ'=[some (.ref h),some (.int num),some (.int marks.length),some (.ref a),none,none,none],?_,fun σ1 H1 hR=>?_⟩
  ·walk_at "rd"
   refine⟨by omega,fun p hp=>⟨by omega,by omega,?_⟩⟩
   refine Uf (n:=((marks.length:Int)-1).toNat) (fun i ys σ2 H2=>H2=upd H p (.lst [V.int 0])/\ys=((List.range i).map fun j:Nat=>1+((j:Int)+num)%((marks.length:Int)-1)).map V.int/\∃ o,σ2=[o,some (.int num),some (.int marks.length)]) ⟨rfl,rfl,none,rfl⟩ (by omega) (fun i ys σ2 H2 _ h=>by rw[h.2.1];simp) (fun i ys σ2 H2 hi h=>?_) (fun ys σ2 H2 h=>?_)
   ·obtain⟨rfl,rfl,o,rfl⟩:=h
    walk_at "rd"
    refine⟨by omega,?_⟩
    rw[xR_,show (0:Int)+(i:Nat)=(i:Int) by omega]
    simp
   ·obtain⟨rfl,rfl,o,rfl⟩:=h
    intro D hD
    have n1:p≠D:=fun z=>by rw[<- z,Ab] at hD;cases hD
    refine⟨D,rfl,_,by rw[Ah n1];exact Ab,_,Ab,by simp;omega,fun q hq=>⟨((Same.new hp).newT hD).newT hq,q,?_,rfl⟩⟩
    rw[Ab,<- hspin,show ((marks.length:Int)-1).toNat=marks.length-1 by omega]
    rfl
  obtain⟨s1,a,ha,rfl⟩:=hR
  have ha1:SqL K H1 a (o.map V.int):=SqL.of ha
  walk_at "rd"
  rw[jh_]
  refine⟨by omega,fun p hp=>⟨_,Ab,by omega,by omega,by simp;omega,fun p1 hp1=>⟨by omega,fun p2 hp2=>⟨by omega,fun p3 hp3=>⟨_,Ab,by omega,by omega,by simp;omega,fun p4 hp4=>?_⟩⟩⟩⟩⟩
  rw[MM] at hp2 hp3 hp4 ⊢
  rw[MM]
  have sA:=(((((Same.new (o:=.lst [V.int 0]) hp).newT (o:=.lst (List.replicate marks.length (V.int 0))) hp1).newT (o:=.tup []) hp2).newT (o:=.lst [V.ref p2]) hp3).newT (o:=.lst (List.replicate marks.length (V.ref p2))) hp4)
  have n41:p4≠p1:=(AM (AM (AM hp4).1).1).2
  have hm0:upd (upd (upd (upd (upd H1 p (.lst [V.int 0])) p1 (.lst (List.replicate marks.length (V.int 0)))) p2 (.tup [])) p3 (.lst [V.ref p2])) p4 (.lst (List.replicate marks.length (V.ref p2))) p1=some (.lst ((List.replicate marks.length (0:Int)).map V.int)):=by
   rw[zj_]
   exact Same.new hp4 _ _ (Same.new hp3 _ _ (Same.new hp2 _ _ Ab))
  have hw0:DW K (upd (upd (upd (upd (upd H1 p (.lst [V.int 0])) p1 (.lst (List.replicate marks.length (V.int 0)))) p2 (.tup [])) p3 (.lst [V.ref p2])) p4 (.lst (List.replicate marks.length (V.ref p2)))) p4 (List.replicate marks.length []):=by
   refine⟨List.replicate marks.length p2,by rw[Ab,zj_],by simp,fun i t w e1 e2=>?_⟩
   have e3:t=p2:=List.eq_of_mem_replicate (jg_ e1)
   have e4:w=[]:=List.eq_of_mem_replicate (jg_ e2)
   subst e3 e4
   exact SqT.of (Same.new hp4 _ _ (Same.new hp3 _ _ Ab))
  have hp1n:H1 p1=none:=(AM hp1).1
  have hp4n:H1 p4=none:=(AM (AM (AM (AM hp4).1).1).1).1
  generalize upd (upd (upd (upd (upd H1 p (.lst [V.int 0])) p1 (.lst (List.replicate marks.length (V.int 0)))) p2 (.tup [])) p3 (.lst [V.ref p2])) p4 (.lst (List.replicate marks.length (V.ref p2)))=H2 at sA hm0 hw0 ⊢
  refine⟨by omega,by omega,?_⟩
  obtain⟨Pn,hPn⟩:∃ Pn:Nat->St->Hp->Prop,∀ i σ3 H3,Pn i σ3 H3↔(∃ (o5:Option V),Same H1 H3/\H3 p1=some (.lst ((DS o (fun r=>marks.getD r 0) i (List.replicate marks.length 0)).map V.int))/\DW K H3 p4 (DS o (fun r=>(ways.getD r []).map (ordW o)) i (List.replicate marks.length []))/\σ3=[some (.ref h),some (.int num),some (.int marks.length),some (.ref a),some (.ref p1),some (.ref p4),o5]):=⟨_,fun _ _ _=>qC_⟩
  refine forR Pn ((hPn _ _ _).mpr ⟨none,sA,hm0,hw0,rfl⟩) (fun i σ3 HT hi h3=>?_) (fun σ3 H3 h3=>?_)
  ·obtain⟨o5,sT,hmT,hwT,rfl⟩:=(hPn _ _ _).mp h3
   have ei:(0:Int)+(i:Nat)=(i:Int):=by omega
   rw[ei]
   have hxa:=ho.at (r:=(i:Int)) (by omega) (by omega)
   rw[jh_] at hxa
   obtain⟨hxi,hx0,hx1⟩:=hxa
   obtain⟨tm3,tw3,y1,y2,y3⟩:=hh.mono (s1.trans sT)
   have hmk:marks[i]?=some (marks.getD i 0):=by rw[jd_,ji_ hi];rfl
   obtain⟨row,hrow,hrm,hrl⟩:=wf.row (r:=(i:Int)) (by omega) (by omega)
   rw[jh_] at hrow
   walk_at "rd"
   refine⟨_,y1,_,rfl,_,rfl,_,y2,_,F0 (by rw[je_,hmk];rfl),_,sT.seq ha1,_,F0 (by rw[je_,hxi];rfl),?_⟩
   refine⟨_,_,rfl,hmT,(ordW o i).toNat,XH hx0 (by rw[ja_,DX,ql_];exact hx1),?_⟩
   have sU:Same H1 (upd HT p1 (.lst (((DS o (fun r=>marks.getD r 0) i (List.replicate marks.length 0)).map V.int).set (ordW o i).toNat (V.int (marks.getD i 0))))):=sT.over hp1n
   have hmU:upd HT p1 (.lst (((DS o (fun r=>marks.getD r 0) i (List.replicate marks.length 0)).map V.int).set (ordW o i).toNat (V.int (marks.getD i 0)))) p1=some (.lst ((DS o (fun r=>marks.getD r 0) (i+1) (List.replicate marks.length 0)).map V.int)):=by
    rw[Ab,DS,List.map_set]
   have hwU:=hwT.off (ys:=((DS o (fun r=>marks.getD r 0) i (List.replicate marks.length 0)).map V.int).set (ordW o i).toNat (V.int (marks.getD i 0))) hmT n41
   generalize upd HT p1 (.lst (((DS o (fun r=>marks.getD r 0) i (List.replicate marks.length 0)).map V.int).set (ordW o i).toNat (V.int (marks.getD i 0))))=HU at sU hmU hwU ⊢
   obtain⟨tm4,tw4,z1,z2,z3⟩:=hh.mono (s1.trans sU)
   obtain⟨xs4,t4,c1,c2,c3⟩:=z3.at hrow
   refine⟨_,z1,_,rfl,_,rfl,_,c1,_,c2,_,rfl,⟨_,c3⟩,?_⟩
   obtain⟨f,hf⟩:∃ f:V->V,∀ g:Int,f (V.int g)=.int (ordW o g):=⟨fun v=>match v with | .int g=>.int (ordW o g) | _=>.non,fun _=>rfl⟩
   refine Gz (xs:=row.map V.int) (σ':=[some (.ref a)]) f rfl c3 (by rw[ja_];have:=wf.l6;omega) (fun v hv R hR=>?_) (fun D hD=>?_)
   ·obtain⟨g,hg,rfl⟩:=jv_.mp hv
    rw[hf] at hR
    have hg2:=(wf.rows row hrm).2 g hg
    walk_at "rd"
    exact⟨_,sU.seq ha1,_,CH hg2.1 (ho.at hg2.1 hg2.2).1,hR⟩
   ·have em:(row.map V.int).map f=(row.map (ordW o)).map V.int:=by
     rw[jQ_,jQ_]
     exact qd_ fun g _=>hf g
    rw[em]
    refine⟨D,rfl,_,.inl ⟨SqL.of Ab,fun l hl'=>?_⟩⟩
    have sV:=(Same.new (o:=.lst ((row.map (ordW o)).map V.int)) hD).newT (o:=.tup ((row.map (ordW o)).map V.int)) hl'
    obtain⟨xs8,e1,e2,hset⟩:=(hwU.mono sV).set (j:=(ordW o i).toNat) (w:=row.map (ordW o)) (SqT.of Ab)
    refine⟨_,(sU.trans sV).seq ha1,_,F0 (by rw[je_,hxi];rfl),xs8,_,rfl,e1,(ordW o i).toNat,XH hx0 (by rw[e2,DX,ql_];exact hx1),(hPn _ _ _).mpr ⟨_,(sU.trans sV).over hp4n,?_,?_,rfl⟩⟩
    ·rw[Ah n41.symm];exact sV _ _ hmU
    ·rw[DS,jd_,hrow];exact hset
  ·obtain⟨o5,s3,hm3,hw3,rfl⟩:=(hPn _ _ _).mp h3
   walk_at "rd"
   obtain⟨tm3,tw3,y1,y2,y3⟩:=hh.mono (s1.trans s3)
   refine⟨_,y1,_,rfl,_,.inl ⟨SqL.of hm3,fun l hl'=>?_⟩⟩
   obtain⟨xs,hx1,hxr⟩:=(hw3.mono (Same.new (o:=.tup ((P0 marks.length o marks).map V.int)) hl')).rows
   refine⟨_,.inl ⟨SqL.of hx1,fun l1 hl1=>⟨by omega,fun p5 hp5=>?_⟩⟩⟩
   exact k p5 _ _ _ (((s1.trans s3).newT hl').newT hl1 |>.newT hp5) ⟨l,l1,SqT.of Ab,SqT.of (Same.new hp5 _ _ (Same.new hl1 _ _ Ab)),(hxr l1 hl1).mono (Same.new hp5)⟩ (YK wf ho) (EV _ _ _) (ST wf ho ho0)
def Vq (K:α3):Sp:=fun vs H Q _=>∃ (a h:Addr) (ns:α2) (L:Int) (marks:α2) (ways:α1),vs=[.ref a,.ref h]/\SqL K H a (ns.map V.int)/\BB K H h L marks ways/\Wf L marks ways/\∀ (m:Nat) H',m<=3->many L (m+2)<=341->Same H H'->Q (.int m) H'
theorem KN {f:Addr}{fd:α6}(F:Fun K "_law_more_by" "_law_more_by" BH f fd)(T:Txt mg)
  (Z:Exs K mg C_j2 C_j0)
  {An:Addr} {Av:α6} (Ap:FnOk P w K mg base CX0 1 An Av ["script", "k"] (KI K)) (Ao:Fun K "_law_cell_at" "_law_cell_at" AZ An Av) (Aq:Binds K Av ["script", "k"] []) (Ar:mg "_law_cell_at" = some (.ref An))
  : FnOk P w K mg base CX0 2 f fd ["script", "house"] (Vq K):=by
 refine F.ok Gc (fun vs H Q E h=>?_) (fun cdv A outer s H vs Q E hr h=>?_)
 ·obtain⟨a,h,ns,L,marks,ways,rfl,_⟩:=h;rfl
 ·obtain⟨a,h,ns,L,marks,ways,rfl,hs,hh,wf,k⟩:=h
  have hl:=AB
  refine⟨_,(Ac (Aj (i:=2) Gc.nd (At (opD FZ) (Am Ap (hr.mono (by decide)) rfl Ar Ao.kp Aq .nil Bc (Aa (pvD 0) (Aa Ae Ad))) Ae))
   (Ac (DB (ptT (AC (opD0 Yq) (Ax (lenD Ak) (by rfl) T.len jL_ (Aa (Ai (ixTD AG) (pvD 1) Ae) Ad)) Ae (AW _)))
   (Ag (AY (At (opD Bx) (pvD 2) Ae)))
   Be)
   (Ac (DB (PW.pt (IW (ptT (AC (opD0 Lz) (Ax (lenD Ak) (by rfl) T.len jL_ (Aa (Ai (ixTD AG) (pvD 1) Ae) Ad)) Ae (AW _))) (FY (ptT (AC (opE DV) (At (opD Bx) (pvD 2) Ae) Ae (AW _))))))
   (Ag (AY (Ai (ixLD Bz) (Ce (Aa Ae (Aa Ae (Aa Ae (Aa Ae (Aa Ae (Aa Ae Ad))))))) (At (opD0 ET) (Ai (ixTD AG) (pvD 1) Ae) Ae))))
   Be)
   (Ac (DB (ptT (AC (opE DV) (At (opD Bx) (pvD 2) Ae) Ae (AW _)))
   (Ag (AY (Ai (ixLD Bz) (Ce (Aa Ae (Aa Ae (Aa Ae (Aa Ae (Aa Ae (Aa Ae Ad))))))) (At (opD0 ET) (Ai (ixTD AG) (pvD 1) Ae) Ae))))
   Be)
   (Ag (AY (At (opD Bx) (pvD 2) (Ai (ixLD Bz) (Ce (Aa Ae (Aa Ae (Aa Ae (Aa Ae (Aa Ae (Aa Ae Ad))))))) (At (opD0 ET) (Ai (ixTD AG) (pvD 1) Ae) Ae))))))))),?_⟩
  walk_at "rd"
  obtain⟨mm,wv,q1,q2,q3⟩:=id hh
  have hL1:=wf.l1
  have hL6:=wf.l6
  refine⟨a,ns,0,rfl,hs,_,rfl,⟨by decide,by decide⟩,_,q1,_,rfl,mm,rfl,_,.inr q2,?_⟩
  generalize cell ns 0 / 6=c
  rw[ja_]
  have hL:L=1\/L=2\/L=3\/L=4\/L=5\/L=6:=by omega
  have m0:many L (0+2)<=341:=by rcases hL with rfl | rfl | rfl | rfl | rfl | rfl<;>decide
  have m1:many L (1+2)<=341:=by rcases hL with rfl | rfl | rfl | rfl | rfl | rfl<;>decide
  have m2:many L (2+2)<=341:=by rcases hL with rfl | rfl | rfl | rfl | rfl | rfl<;>decide
  have m3:L<=4->many L (3+2)<=341:=fun h=>by
   rcases hL with rfl | rfl | rfl | rfl | rfl | rfl
   all_goals first | decide | omega
  -- each answer
  have ans:∀ (c:Int) H',Same H H'->0<=c->c<=3->(c=3->L<=4)->Q (.int c) H':=fun c H' hS h0 h3 hc=>by
   obtain⟨m,rfl⟩:∃ m:Nat,c=(m:Int):=⟨c.toNat,by omega⟩
   refine k m H' (by omega) ?_ hS
   rcases (show m=0\/m=1\/m=2\/m=3 by omega) with rfl | rfl | rfl | rfl
   ·exact m0
   ·exact m1
   ·exact m2
   ·exact m3 (hc rfl)
  refine ite2 (fun _=>⟨by decide,ans _ _ (Same.refl _) (by omega) (by omega) (by omega)⟩) (fun _=>?_)
  refine⟨_,q1,_,rfl,mm,rfl,_,.inr q2,?_⟩
  rw[ja_]
  refine ite2 (fun h3=>⟨by decide,ite2 (fun _=>⟨by decide,fun p hp=>?_⟩) (fun _=>⟨by decide,ite2 (fun _=>⟨by decide,fun p hp=>?_⟩) (fun _=>⟨by decide,fun p hp=>?_⟩)⟩)⟩) (fun h3=>⟨by decide,ite2 (fun _=>⟨by decide,fun p hp=>?_⟩) (fun _=>⟨by decide,fun p hp=>?_⟩)⟩)
  all_goals
   refine⟨_,(Same.new hp).seqT q1,_,rfl,L,rfl,_,SqL.of Ab,?_⟩
   clear hh wf q1 q2 q3 k m0 m1 m2 m3
   rcases hL with rfl | rfl | rfl | rfl | rfl | rfl
   all_goals first
    | exact⟨_,rfl,ans _ _ (Same.new hp) (by decide) (by decide) (by decide)⟩
    | exact⟨_,rfl,_,rfl,by decide,ans _ _ (Same.new hp) (by omega) (by omega) (by omega)⟩
theorem BT.tsq2 {K:α3}{T:Addr}{H H':Hp}{ps:Array Value}(h:BT T H H')(hT:H T=some (.tbl ps)):TSq K H H':=fun b ys q=>h.tsq hT q
theorem BB.monoQ {K:α3}{H H':Hp}{h:Addr}{L:Int}{marks:α2}{ways:α1}(x:BB K H h L marks ways)(e:TSq K H H'):BB K H' h L marks ways:=by
 obtain⟨m,w,h1,h2,ts,h3,h4,h5⟩:=x
 exact⟨m,w,e _ _ h1,e _ _ h2,ts,e _ _ h3,h4,fun i t r a b=>e _ _ (h5 i t r a b)⟩
theorem Vr:∀ (l s:α1) (w:α2),w∈l.foldl ins s->w∈s\/w∈l
 | [],s,w,h=>.inl h
 | v::l,s,w,h=>by
  rw[qT_] at h
  rcases Vr l _ w h with h | h
  ·unfold ins at h
   split at h
   ·exact .inl h
   ·rcases jB_.mp h with h | h
    ·exact .inl h
    ·rw[ju_.mp h];exact .inr jo_
  ·exact .inr (jr_ _ h)
theorem DI {K:α3}{H:Hp}{os:List S64.Wd}(h:WsT H os):AE K H (S64.wv os) (os.map (·.2)):=by
 refine⟨by simp[S64.wv],fun i w hw=>?_⟩
 rw[je_] at hw
 cases e:os[i]? with
 | none=>rw[e] at hw;cases hw
 | some o =>
  rw[e] at hw;cases hw
  exact⟨o.1,by rw[S64.wv,je_,e];rfl,h o (jg_ e)⟩
theorem Vs:∀ (l s:α1) (w:α2),(w∈s\/w∈l)->w∈l.foldl ins s
 | [],s,w,h=>h.resolve_right (by simp)
 | v::l,s,w,h=>by
  rw[qT_]
  refine Vs l _ w ?_
  unfold ins
  rcases h with h | h
  ·left
   split
   ·exact h
   ·exact qb_ _ h
  ·rcases jC_.mp h with rfl | h
   ·left
    split
    ·rename_i hh;exact hh
    ·exact jD_ _ jo_
   ·exact .inr h
theorem Nv {l:α1}{w:α2}:w∈l.foldl ins []↔w∈l:=⟨fun h=>(Vr l [] w h).resolve_left (by simp),fun h=>Vs l [] w (.inr h)⟩
theorem MQ {L:Int}{u v:α2}(hu:isW L u=true)(hv:isW L v=true):isW L (u++v)=true:=by
 rw[AT] at hu hv ⊢
 intro x hx
 rcases jB_.mp hx with hx | hx
 ·exact hu x hx
 ·exact hv x hx
theorem Vb {kvs:List (List Key×V)}{ws:α1}(h:GK (ws.foldl ins []) kvs){w:α2}:(valV kvs (wkey w)).isSome=decide (w∈ws):=by
 rw[h.some_iff w]
 exact decide_eq_decide.mpr Nv
def Mr (K:α3):Sp:=fun vs H Q _=>∃ (h:Addr) (L:Int) (marks:α2) (ways:α1),vs=[.ref h]/\BB K H h L marks ways/\Wf L marks ways/\∀ p H',Same H H'->H p=none->H' p=some (.lst (((Az ways).map (·.1)).map V.int))->Q (.ref p) H'
theorem Jq {f:Addr}{fd:α6}(F:Fun K "_law_order_of" "_law_order_of" Bs f fd)(T:Txt mg)
  (Z:Exs K mg C_j2 C_j0)
  : FnOk P w K mg base CX0 1 f fd ["house"] (Mr K):=by
 refine F.ok BA (fun vs H Q E h=>?_) (fun cdv A outer s H vs Q E hr h=>?_)
 ·obtain⟨h,L,marks,ways,rfl,_⟩:=h;rfl
 ·obtain⟨h,L,marks,ways,rfl,hh,wf,k⟩:=h
  have hl:=AB
  have hL1:=wf.l1
  have hn1:=wf.n1
  have hn40:=wf.n40
  refine⟨_,(Ac (Aj (i:=1) BA.nd (Ce (Aa Ae Ad)))
   (Ac (Aj (i:=2) BA.nd Ae)
   (Ac (Gx jO_ (ptT (AC (opD0 Lz) (pvD 2) (Ax (lenD Ak) (by rfl) T.len jL_ (Aa (pvD 1) Ad)) (AW _)))
   (Ac (Aj (i:=3) BA.nd (Ai (ixTD AG) (Ai (ixTD AG) (pvD 0) Ae) (Ai (ixLD Bz) (pvD 1) (pvD 2))))
   (Ac (CJ jO_ rfl (Hy (pvD 3)) (As (i:=4) BA.nd rfl (Or.inl rfl))
   (Ag (DB (ptT (AC IX (pvD 4) (pvD 1) rfl))
   (Ag (By (E9 jz_ jH_ jI_ Bf (pvD 1) (Aa (pvD 4) Ad))))
   Be)))
   (Ag (Aj (i:=2) BA.nd (At (opD0 Cd) (pvD 2) Ae))))))
   (Ag (AY (pvD 1)))))),?_⟩
  walk_at "rd"
  refine⟨by omega,fun p2 hp2=>?_⟩
  have s0:Same H (upd H p2 (.lst [V.int 0])):=Same.new hp2
  have hr0:upd H p2 (.lst [V.int 0]) p2=some (.lst ((([(0,[])]:List (Int×α2)).map (·.1)).map V.int)):=Ab
  generalize upd H p2 (.lst [V.int 0])=H0 at s0 hr0 ⊢
  obtain⟨Pv,hPv⟩:∃ Pv:Nat->St->Hp->Prop,∀ m σ2 H2,Pv m σ2 H2↔(∃ (ents:List (Int×α2)) (i:Nat) (top:Int) (o4 o5:Option V),m=marks.length+1-i/\Same H H2/\H2 p2=some (.lst ((ents.map (·.1)).map V.int))/\Bfs L marks.length ways ents i top/\(∀ e,ents[i]?=some e->top<=place L e.2*L+1)/\bfs ways (marks.length+1-i) ents i=Az ways/\σ2=[some (.ref h),some (.ref p2),some (.int i),o4,o5]):=⟨_,fun _ _ _=>qC_⟩
  refine L8 Pv ⟨_,(hPv _ _ _).mpr ⟨[(0,[])],0,1,none,none,rfl,s0,hr0,Bfs.start L hn1 ways,fun e he=>?_,by unfold Az;rw[wf.len];rfl,rfl⟩⟩ ?_
  ·simp at he;subst he;simp[place,De]
  intro m σ2 H2 hpv
  obtain⟨ents,i,top,o4,o5,rfl,s2,hr2,bf,htop,hbfs,rfl⟩:=(hPv _ _ _).mp hpv
  have hbl:=bf.len
  walk_at "rd"
  refine⟨_,.inl (SqL.of hr2),?_⟩
  rw[ja_,ja_]
  refine ite2 (fun hlt=>?_) (fun hge=>?_)
  ·have hi:i<ents.length:=by omega
   obtain⟨e,he⟩:∃ e,ents[i]?=some e:=⟨ents[i],by simp[hi]⟩
   obtain⟨r,w⟩:=e
   have hmem:=jg_ he
   have hr':=bf.rng _ hmem
   have htop':top<=place L w*L+1:=htop _ he
   obtain⟨row,hrow,hrm,hrl⟩:=wf.row hr'.1 hr'.2
   have hgd:ways.getD r.toNat []=row:=by rw[jd_,hrow];rfl
   obtain⟨mm,wv,q1,q2,q3⟩:=id hh
   obtain⟨xs,t,z1,z2,z3⟩:=q3.atZ hr'.1 hrow
   refine⟨Pv (marks.length+1-(i+1)),fun σ' H' h=>⟨_,by omega,h⟩,?_⟩
   refine⟨_,s2.seqT q1,_,rfl,_,SqL.of hr2,_,CH (v:=r) (by omega) (by rw[jh_,je_,he];rfl),_,rfl,_,_,rfl,s2.seqT z1,_,z2,_,rfl,⟨_,s2.seqT z3⟩,?_⟩
   obtain⟨Pn,hPn⟩:∃ Pn:Nat->St->Hp->Prop,∀ x σ3 H3,Pn x σ3 H3↔(∃ (ents':List (Int×α2)) (o5:Option V),Same H H3/\H3 p2=some (.lst ((ents'.map (·.1)).map V.int))/\Bfs L marks.length ways ents' i (place L w*L+(x:Int)+1)/\Seen L ways ents' r w x/\ents'[i]?=some (r,w)/\EA w ents' x (row.drop x)=EA w ents 0 row/\σ3=[some (.ref h),some (.ref p2),some (.int i),some (.ref t),o5]):=⟨_,fun _ _ _=>qC_⟩
   refine forT (xs:=row.map V.int) Pn ((hPn _ _ _).mpr ⟨ents,o5,s2,hr2,bf.up (by push_cast;omega),(fun y h0 h1=>absurd h1 (by push_cast;omega)),he,rfl,rfl⟩) (fun x σ3 H3 _ h3=>?_) (fun x v σ3 H3 hx h3=>?_) (fun σ3 H3 h3=>?_)
   ·obtain⟨ents',_,s3,_⟩:=(hPn _ _ _).mp h3
    exact s3.seqT z3
   ·obtain⟨ents',o5,s3,hr3,bf3,se3,he3,had,rfl⟩:=(hPn _ _ _).mp h3
    obtain⟨g,hg,rfl⟩:=DA hx
    have hxl:=(jc_.mp hg).1
    have hgin:=(wf.rows row hrm).2 g (jg_ hg)
    have hgs:g=Bm ways r (x:Int):=(BM hrow (by rw[jh_];exact hg)).symm
    have hmem3:=jg_ he3
    have hdrop:row.drop x=g::row.drop (x+1):=by
     rw[q0_ hxl]
     congr 1
     exact (jc_.mp hg).2
    obtain⟨bf4,se4⟩:=bf3.letter (by omega) se3 hmem3 (by omega) hgs hgin
    have he4:=G9 (g:=g) (v:=w ++ [(x:Int)]) he3
    rw[hdrop,G8] at had
    walk_at "rd"
    refine⟨_,.inl (SqL.of hr3),rfl,Ke _,?_⟩
    rw[Rr]
    by_cases hm:g∈ents'.map (·.1)
    ·rw[if_pos hm] at bf4 se4 he4 had
     rw[qj_ hm,if_neg (by simp)]
     exact (hPn _ _ _).mpr ⟨ents',_,s3,hr3,bf4,se4,he4,had,rfl⟩
    ·rw[if_neg hm] at bf4 se4 he4 had
     rw[qe_ hm,if_pos (by simp)]
     refine⟨.inl ⟨rfl,_,SqL.of hr3⟩,_,hr3,by have:=bf3.len;simp;omega,(hPn _ _ _).mpr ⟨ents' ++ [(g,w ++ [(x:Int)])],_,s3.over hp2,by rw[Ab];simp,bf4,se4,he4,had,rfl⟩⟩
   ·obtain⟨ents',o5,s3,hr3,bf3,se3,he3,had,rfl⟩:=(hPn _ _ _).mp h3
    rw[ja_] at bf3 se3 had
    rw[List.drop_length,Il] at had
    walk_at "rd"
    obtain⟨bf4,htop4⟩:=bf3.next (by omega) hrl se3 he3
    refine (hPv _ _ _).mpr ⟨ents',i+1,_,_,_,rfl,s3,hr3,bf4,htop4,?_,by push_cast;rfl⟩
    rw[show marks.length+1-i=(marks.length+1-(i+1))+1 by omega,ML he] at hbfs
    rw[had,<- hgd]
    exact hbfs
  ·have hi:i=ents.length:=by have:=bf.il;omega
   subst hi
   rw[MK (by simp)] at hbfs
   walk_at "rd"
   rw[<- hbfs] at k
   exact k p2 H2 s2 hp2 hr2
theorem Jd {α:Type}[DecidableEq α]{l k:List α}(h:l.Nodup)(hs:∀ x∈l,x∈k):l.length<=k.length:=by
 induction l generalizing k with
 | nil=>simp
 | cons a l ih =>
  rw[qG_] at h
  have ha:=hs a jo_
  have h1:∀ x∈l,x∈k.erase a:=fun x hx=>by
   refine (xv_ ?_).mpr (hs x (jr_ _ hx))
   intro z;subst z;exact h.1 hx
  have:=ih h.2 h1
  rw[q6_ ha] at this
  have hp:=qF_ ha
  rw[jT_];omega
section
variable {rs:α2} {E:Nat->Int->Int->Prop}
def Vt (rs:α2)(E:Nat->Int->Int->Prop)(k i:Nat):Prop:=∀ a,rs[i]?=some a->∀ j b,j<i->rs[j]?=some b->¬ E k b a
open Classical in
noncomputable def Gq (rs:α2)(E:Nat->Int->Int->Prop)(k:Nat):List Nat:=(List.range rs.length).filter fun i=>decide (Vt rs E k i)
open Classical in
theorem DJ {k i:Nat}:i∈Gq rs E k↔i<rs.length/\Vt rs E k i:=by
 unfold Gq
 rw[xw_,jW_,qh_]
theorem KO (k:Nat):(Gq rs E k).Nodup:=List.nodup_range.filter _
theorem RU (rf:∀ k a,E k a a)(sy:∀ k a b,E k a b->E k b a)(tr:∀ k a b c,E k a b->E k b c->E k a c)(k:Nat):∀ (n i:Nat) (a:Int),i<=n->rs[i]?=some a->∃ j b,rs[j]?=some b/\E k b a/\Vt rs E k j:=by
 intro n
 induction n with
 | zero =>
  intro i a hi ha
  have:i=0:=by omega
  subst this
  exact⟨0,a,ha,rf k a,fun a' _ j b hj=>absurd hj (xE_ _)⟩
 | succ n ih =>
  intro i a hi ha
  by_cases h:Vt rs E k i
  ·exact⟨i,a,ha,rf k a,h⟩
  ·unfold Vt at h
   simp only[Classical.not_forall] at h
   obtain⟨a',e',j,b,hj,hb,hE⟩:=h
   rw[ha] at e'
   cases e'
   have hE:E k b a:=Classical.not_not.mp hE
   obtain⟨j',b',h1,h2,h3⟩:=ih j b (by omega) hb
   exact⟨j',b',h1,tr k _ _ _ h2 hE,h3⟩
theorem Bd_ (rf:∀ k a,E k a a)(sy:∀ k a b,E k a b->E k b a)(tr:∀ k a b c,E k a b->E k b c->E k a c)(mo:∀ k a b,E (k+1) a b->E k a b){k:Nat}{a b:Int}(ha:a∈rs)(hb:b∈rs)(h:E k a b)(hn:¬ E (k+1) a b):(Gq rs E k).length+1<=(Gq rs E (k+1)).length:=by
 have sub:∀ i∈Gq rs E k,i∈Gq rs E (k+1):=fun i hi=>by
  obtain⟨h1,h2⟩:=DJ.mp hi
  exact DJ.mpr ⟨h1,fun a ha j b hj hb hE=>h2 a ha j b hj hb (mo k _ _ hE)⟩
 obtain⟨i,hi,hni⟩:∃ i,i∈Gq rs E (k+1)/\i∉Gq rs E k:=by
  refine qJ_ fun hc=>hn ?_
  have hall:∀ i,i∈Gq rs E (k+1)->i∈Gq rs E k:=fun i hi=>qJ_ fun z=>hc ⟨i,hi,z⟩
  obtain⟨ia,hia⟩:=jK_.mp ha
  obtain⟨ib,hib⟩:=jK_.mp hb
  obtain⟨j1,c1,p1,p2,p3⟩:=RU (rs:=rs) rf sy tr (k+1) ia ia a (jl_ _) hia
  obtain⟨j2,c2,r1,r2,r3⟩:=RU (rs:=rs) rf sy tr (k+1) ib ib b (jl_ _) hib
  have g1:=(DJ.mp (hall j1 (DJ.mpr ⟨(jc_.mp p1).1,p3⟩))).2
  have g2:=(DJ.mp (hall j2 (DJ.mpr ⟨(jc_.mp r1).1,r3⟩))).2
  have e12:E k c1 c2:=tr k _ _ _ (mo k _ _ p2) (tr k _ _ _ h (sy k _ _ (mo k _ _ r2)))
  have ej:j1=j2:=by
   refine qJ_ fun hne=>?_
   rcases Nat.lt_or_gt_of_ne hne with hlt | hlt
   ·exact g2 c2 r1 j1 c1 hlt p1 e12
   ·exact g1 c1 p1 j2 c2 hlt r1 (sy k _ _ e12)
  subst ej
  rw[p1] at r1
  cases r1
  exact tr _ _ _ _ (sy _ _ _ p2) r2
 have:=Jd (l:=i::Gq rs E k) (k:=Gq rs E (k+1)) (by rw[qG_];exact⟨hni,KO k⟩) fun y hy=>by
  rcases jC_.mp hy with rfl | hy
  ·exact hi
  ·exact sub y hy
 simpa using this
theorem Be_ (rf:∀ k a,E k a a)(sy:∀ k a b,E k a b->E k b a)(tr:∀ k a b c,E k a b->E k b c->E k a c)(mo:∀ k a b,E (k+1) a b->E k a b)(st:∀ k,(∀ a∈rs,∀ b∈rs,E k a b->E (k+1) a b)->∀ a∈rs,∀ b∈rs,E (k+1) a b->E (k+2) a b)(h0:0<rs.length){a b:Int}(ha:a∈rs)(hb:b∈rs)(h:E rs.length a b)(j:Nat):E j a b:=by
 have key:∀ k,(∃ k',k'<k/\∀ a∈rs,∀ b∈rs,E k' a b->E (k'+1) a b)\/k+1<=(Gq rs E k).length:=by
  intro k
  induction k with
  | zero =>
   right
   have:0∈Gq rs E 0:=DJ.mpr ⟨h0,fun a _ j b hj=>absurd hj (xE_ _)⟩
   exact qF_ this
  | succ k ih =>
   rcases ih with ⟨k',h1,h2⟩ | ih
   ·exact .inl ⟨k',by omega,h2⟩
   ·by_cases hs:∀ a∈rs,∀ b∈rs,E k a b->E (k+1) a b
    ·exact .inl ⟨k,by omega,hs⟩
    ·simp only[Classical.not_forall] at hs
     obtain⟨a,ha,b,hb,h1,h2⟩:=hs
     right
     have:=Bd_ rf sy tr mo ha hb h1 h2
     omega
 have hle:(Gq rs E rs.length).length<=rs.length:=by
  have:=Jd (l:=Gq rs E rs.length) (k:=List.range rs.length) (KO _) fun i hi=>jW_.mpr (DJ.mp hi).1
  simpa using this
 rcases key rs.length with ⟨k',h1,h2⟩ | h1
 ·have up:∀ d,∀ a∈rs,∀ b∈rs,E (k'+d) a b->E (k'+d+1) a b:=by
   intro d
   induction d with
   | zero=>exact h2
   | succ d ih=>exact st _ ih
  have far:∀ d,E (rs.length+d) a b:=by
   intro d
   induction d with
   | zero=>exact h
   | succ d ih =>
    have:=up (rs.length+d-k') a ha b hb (by rw[show k'+(rs.length+d-k')=rs.length+d by omega];exact ih)
    rw[show k'+(rs.length+d-k')+1=rs.length+(d+1) by omega] at this
    exact this
  have down:∀ d i,E (i+d) a b->E i a b:=by
   intro d
   induction d with
   | zero=>exact fun i h=>h
   | succ d ih=>exact fun i h=>ih i (mo _ _ _ h)
  exact down rs.length j (by rw[Nat.add_comm];exact far j)
 ·omega
end
def IN (L:Int)(marks:α2)(ways:α1)(k:Nat)(a b:Int):Prop:=∀ v,isW L v=true->v.length<=k->mkW marks (B2 ways a v)=mkW marks (B2 ways b v)
theorem IN.succ {L:Int}{marks:α2}{ways:α1}{k:Nat}{a b:Int}:IN L marks ways (k+1) a b↔IN L marks ways k a b/\∀ x:Int,0<=x->x<L->IN L marks ways k (Bm ways a x) (Bm ways b x):=by
 constructor
 ·intro h
  refine⟨fun v hv hl=>h v hv (by omega),fun x x0 x1 v hv hl=>?_⟩
  have:=h (x::v) (AT.mpr fun y hy=>by
   rcases jC_.mp hy with rfl | hy
   ·exact⟨x0,x1⟩
   ·exact AT.mp hv y hy) (by rw[jT_];omega)
  rw[BQ,BQ] at this
  exact this
 ·rintro⟨h1,h2⟩ v hv hl
  cases v with
  | nil=>exact h1 [] hv (by simp)
  | cons x v =>
   have hx:=AT.mp hv x jo_
   rw[BQ,BQ]
   exact h2 x hx.1 hx.2 v (AT.mpr fun y hy=>AT.mp hv y (jr_ _ hy)) (by rw[jT_] at hl;omega)
theorem IN.all {L:Int}{marks:α2}{ways:α1}{rs:α2}(hz:0∈rs)(cl:∀ r∈rs,∀ x:Int,0<=x->x<L->Bm ways r x∈rs){a b:Int}(ha:a∈rs)(hb:b∈rs)(h:IN L marks ways rs.length a b):∀ v,isW L v=true->mkW marks (B2 ways a v)=mkW marks (B2 ways b v):=fun v hv =>
 Be_ (rs:=rs) (E:=IN L marks ways) (fun _ _ _ _ _=>rfl) (fun _ _ _ h v hv hl=>(h v hv hl).symm) (fun _ _ _ _ h g v hv hl=>(h v hv hl).trans (g v hv hl)) (fun _ _ _ h=>(IN.succ.mp h).1) (fun k hs a ha b hb h=>by
  obtain⟨h1,h2⟩:=IN.succ.mp h
  exact IN.succ.mpr ⟨h,fun x x0 x1=>hs _ (cl a ha x x0 x1) _ (cl b hb x x0 x1) (h2 x x0 x1)⟩) (qF_ hz) ha hb h v.length v hv (jl_ _)
def ln41 (names:α2)(ways:α1)(r:Nat):α2:=names.getD r 0::(ways.getD r []).map fun a=>names.getD a.toNat 0
def EE (L:Int)(marks:α2)(ways:α1)(k:Nat)(names:α2):Prop:=names.length=marks.length/\∀ a b:Nat,a<marks.length->b<marks.length->(names.getD a 0=names.getD b 0↔IN L marks ways k a b)
theorem EE.more {L:Int}{marks:α2}{ways:α1}(wf:Wf L marks ways){k:Nat}{names names':α2}(h:EE L marks ways k names)(hl:names'.length=marks.length)(he:∀ a b:Nat,a<marks.length->b<marks.length->(names'.getD a 0=names'.getD b 0↔ln41 names ways a=ln41 names ways b)):EE L marks ways (k+1) names':=by
 refine⟨hl,fun a b ha hb=>?_⟩
 rw[he a b ha hb,IN.succ]
 obtain⟨ra,ra1,ra2,ra3⟩:=wf.row (r:=(a:Int)) (by omega) (by omega)
 obtain⟨rb,rb1,rb2,rb3⟩:=wf.row (r:=(b:Int)) (by omega) (by omega)
 rw[jh_] at ra1 rb1
 have ga:ways.getD a []=ra:=by rw[jd_,ra1];rfl
 have gb:ways.getD b []=rb:=by rw[jd_,rb1];rfl
 have st:∀ (c:Nat) (rc:α2),ways[c]?=some rc->rc∈ways->∀ x:Nat,(x:Int)<L->∃ g:Nat,rc[x]?=some (g:Int)/\g<marks.length/\Bm ways c x=g:=fun c rc h1 h2 x hx=>by
  have h3:=wf.rows rc h2
  have hxl:x<rc.length:=by omega
  have h4:=h3.2 rc[x] (j4_ _)
  refine⟨rc[x].toNat,by rw[ji_ hxl];congr 1;omega,by omega,?_⟩
  rw[BM (row:=rc) (g:=rc[x]) (by rw[jh_];exact h1) (by rw[jh_];exact ji_ hxl)]
  omega
 unfold ln41
 rw[ga,gb,xG_,h.2 a b ha hb]
 refine and_congr qC_ ?_
 constructor
 ·intro e x x0 x1
  obtain⟨xn,rfl⟩:∃ xn:Nat,x=(xn:Int):=⟨x.toNat,by omega⟩
  obtain⟨g,g1,g2,g3⟩:=st a ra ra1 ra2 xn x1
  obtain⟨f,f1,f2,f3⟩:=st b rb rb1 rb2 xn x1
  rw[g3,f3,<- h.2 g f g2 f2]
  have:=jJ_ (fun l:α2=>l[xn]?) e
  simp only[je_,g1,f1,Option.map_some,jh_,zr_] at this
  exact this
 ·intro e
  refine qc_ fun xn=>?_
  by_cases hx:(xn:Int)<L
  ·obtain⟨g,g1,g2,g3⟩:=st a ra ra1 ra2 xn hx
   obtain⟨f,f1,f2,f3⟩:=st b rb rb1 rb2 xn hx
   have e1:=e (xn:Int) (by omega) hx
   rw[g3,f3,<- h.2 g f g2 f2] at e1
   simp only[je_,g1,f1,Option.map_some,jh_,zr_]
   exact e1
  ·rw[jA_ (by rw[ja_];omega),jA_ (by rw[ja_];omega)]
theorem EE.first {L:Int}{marks:α2}{ways:α1}:EE L marks ways 0 marks:=⟨rfl,fun a b ha hb=>by
 constructor
 ·intro e v hv hl
  have:v=[]:=zk_.mp (by omega)
  subst this
  show marks.getD ((a:Int)).toNat 0=marks.getD ((b:Int)).toNat 0
  rw[jh_,jh_];exact e
 ·intro h
  have:=h [] (AT.mpr fun x hx=>(by cases hx)) (j0_ _)
  have:marks.getD ((a:Int)).toNat 0=marks.getD ((b:Int)).toNat 0:=this
  rw[jh_,jh_] at this
  exact this⟩
def GM (H:Hp)(xs:List V)(ks:α1):Prop:=xs.length=ks.length/\∀ (i:Nat) (k:α2),ks[i]?=some k->∃ (t l:Addr) (c:Int) (w:α2),xs[i]?=some (.ref t)/\k=c::w/\H t=some (.tup [.int c,.ref l])/\H l=some (.lst (w.map V.int))
theorem GM.nil {H:Hp}:GM H [] []:=⟨rfl,fun i k h=>by simp at h⟩
theorem GM.mono {H H':Hp}{xs:List V}{ks:α1}(h:GM H xs ks)(s:Same H H'):GM H' xs ks:=⟨h.1,fun i k hk=>let ⟨t,l,c,w,a,b,d,e⟩:=h.2 i k hk;⟨t,l,c,w,a,b,s _ _ d,s _ _ e⟩⟩
theorem GM.snoc {H:Hp}{xs:List V}{ks:α1}(h:GM H xs ks){t l:Addr}{c:Int}{w:α2}(ht:H t=some (.tup [.int c,.ref l]))(hl:H l=some (.lst (w.map V.int))):GM H (xs ++ [.ref t]) (ks ++ [c::w]):=by
 refine⟨by rw[jq_,jq_,h.1];rfl,fun i k hk=>?_⟩
 by_cases hi:i<ks.length
 ·rw[jk_ hi] at hk
  obtain⟨t',l',c',w',a,b,d,e⟩:=h.2 i k hk
  exact⟨t',l',c',w',by rw[jk_ (by rw[h.1];exact hi)];exact a,b,d,e⟩
 ·rw[jt_ (by omega)] at hk
  have h0:i-ks.length=0:=by
   have:=(jc_.mp hk).1
   simpa using this
  rw[h0] at hk
  have hk:c::w=k:=by simpa using hk
  subst hk
  exact⟨t,l,c,w,by rw[jt_ (by rw[h.1];omega),h.1,h0];rfl,rfl,ht,hl⟩
theorem GM.at {H:Hp}{xs:List V}{ks:α1}(h:GM H xs ks){i:Nat}{x:V}(hx:xs[i]?=some x):∃ (t l:Addr) (c:Int) (w:α2),ks[i]?=some (c::w)/\x=.ref t/\H t=some (.tup [.int c,.ref l])/\H l=some (.lst (w.map V.int)):=by
 have hi:i<ks.length:=by rw[<- h.1];exact (jc_.mp hx).1
 obtain⟨t,l,c,w,a,b,d,e⟩:=h.2 i ks[i] (by simp[hi])
 rw[hx] at a
 exact⟨t,l,c,w,by rw[<- b];simp[hi],js_ a,d,e⟩
theorem eqP {K:α3}{H:Hp}{t l t' l':Addr}{c c':Int}{w w':α2}(ht:H t=some (.tup [.int c,.ref l]))(hl:H l=some (.lst (w.map V.int)))(ht':H t'=some (.tup [.int c',.ref l']))(hl':H l'=some (.lst (w'.map V.int))) :
  EqD K H 4 (.ref t) (.ref t') (decide (c::w=c'::w')):=by
 refine .inr ⟨t,t',_,_,rfl,rfl,.inr ⟨SqT.of ht,SqT.of ht'⟩,fun i=>if i=0 then decide (c=c') else decide (w=w'),fun i x y hx hy=>?_,?_⟩
 ·match i,hx,hy with
  | 0,hx,hy =>
   cases hx;cases hy
   refine .inl ⟨rfl,rfl,?_⟩
   show decide (c=c')=(c == c')
   by_cases h:c=c'<;>simp[h]
  | 1,hx,hy =>
   cases hx;cases hy
   have:=EqD.ints (K:=K) (xs:=w) (ys:=w') (.inl ⟨SqL.of hl,SqL.of hl'⟩) 2
   exact this
  | i+2,hx,hy=>simp at hx
 ·rw[qn_,qh_]
  simp[xR_]
theorem GM.eqs {K:α3}{H:Hp}{xs:List V}{ks:α1}(h:GM H xs ks){t l:Addr}{c:Int}{w:α2}(ht:H t=some (.tup [.int c,.ref l]))(hl:H l=some (.lst (w.map V.int))):EqsD K H 4 xs (.ref t) (fun i=>decide (ks[i]?=some (c::w))):=by
 refine⟨fun i v hv=>?_,fun i j v hi hj=>?_⟩
 ·obtain⟨t',l',c',w',a,rfl,d,e⟩:=h.at hv
  refine⟨t',rfl,?_⟩
  show EqD K H 4 (.ref t') (.ref t) (decide (ks[i]?=some (c::w)))
  rw[show (decide (ks[i]?=some (c::w)))=decide (c'::w'=c::w) by rw[a];simp]
  exact eqP d e ht hl
 ·obtain⟨t1,l1,c1,w1,a1,rfl,d1,e1⟩:=h.at hi
  obtain⟨t2,l2,c2,w2,a2,z,d2,e2⟩:=h.at hj
  cases z
  rw[d1] at d2
  cases d2
  rw[e1] at e2
  have:=js_ e2
  injection this with this
  have:=(zV_ (fun x y z=>V.int.inj z)).mp this
  show decide (ks[i]?=some (c::w))=decide (ks[j]?=some (c::w))
  rw[a1,a2,this]
theorem Zi {ks:α1}{k:α2}:((List.range ks.length).any fun i=>decide (ks[i]?=some k))=decide (k∈ks):=by
 rw[qn_,x5_,qh_]
 constructor
 ·rintro⟨i,_,h⟩
  exact jg_ (qB_ h)
 ·intro h
  obtain⟨i,hi⟩:=jK_.mp h
  exact⟨i,jW_.mpr (jc_.mp hi).1,qj_ hi⟩
def Dy (names:α2)(ways:α1):α1:=(List.range names.length).map (ln41 names ways)
def nx31 (names:α2)(ways:α1):α2:=(Dy names ways).map fun k=>((((Dy names ways).foldl ins []).idxOf k:Nat):Int)
theorem EE.turn {L:Int}{marks:α2}{ways:α1}(wf:Wf L marks ways){k:Nat}{names:α2}(h:EE L marks ways k names):EE L marks ways (k+1) (nx31 names ways):=by
 have at_:∀ a:Nat,a<marks.length->(Dy names ways)[a]?=some (ln41 names ways a):=fun a ha=>by
  unfold Dy
  rw[je_,qu_ (by rw[h.1];exact ha)];rfl
 have nat:∀ a:Nat,a<marks.length->(nx31 names ways).getD a 0=((((Dy names ways).foldl ins []).idxOf (ln41 names ways a):Nat):Int):=fun a ha=>by
  unfold nx31
  rw[jd_,je_,at_ a ha];rfl
 refine EE.more wf h (by unfold nx31 Dy;rw[ja_,ja_,qO_,h.1]) fun a b ha hb=>?_
 rw[nat a ha,nat b hb]
 constructor
 ·intro e
  have e:((Dy names ways).foldl ins []).idxOf (ln41 names ways a)=((Dy names ways).foldl ins []).idxOf (ln41 names ways b):=by omega
  have ma:=Nv.mpr (jg_ (at_ a ha))
  have mb:=Nv.mpr (jg_ (at_ b hb))
  have ga:=qU_ (xH_.mpr ma)
  have gb:=qU_ (xH_.mpr mb)
  rw[<- ga,<- gb]
  congr 1
 ·intro e;rw[e]
def Vu (K:α3):Sp:=fun vs H Q _=>∃ (h:Addr) (L:Int) (marks:α2) (ways:α1),vs=[.ref h]/\BB K H h L marks ways/\Wf L marks ways/\∀ (p:Addr) (names:α2) (H':Hp),Same H H'->H p=none->H' p=some (.lst (names.map V.int))->EE L marks ways marks.length names->Q (.ref p) H'
theorem KP {f:Addr}{fd:α6}(F:Fun K "_law_classes" "_law_classes" BI f fd)(T:Txt mg)
  (Z:Exs K mg C_j2 C_j0)
  : FnOk P w K mg base CX0 1 f fd ["house"] (Vu K):=by
 refine F.ok Bt (fun vs H Q E h=>?_) (fun cdv A outer s H vs Q E hr h=>?_)
 ·obtain⟨h,L,marks,ways,rfl,_⟩:=h;rfl
 ·obtain⟨h,L,marks,ways,rfl,hh,wf,k⟩:=h
  have hl:=AB
  have hn40:=wf.n40
  have hn1:=wf.n1
  have hL1:=wf.l1
  have hL6:=wf.l6
  refine⟨_,(Ac (CI (i:=1) Bt.nd rfl (Or.inr rfl) (AX F1 rfl T.list xf_ (Aa (Ai (ixTD AG) (pvD 0) Ae) Ad)))
   (Ac (CJ jO_ rfl (BO rfl T.range (Aa (Ax (lenD Ak) (by rfl) T.len jL_ (Aa (Ai (ixTD AG) (pvD 0) Ae) Ad)) Ad)) (As (i:=2) Bt.nd rfl (Or.inl rfl))
   (Ac (Ii (i:=3) Bt.nd rfl rfl rfl (Cp rfl) (cp:=FN) ⟨⟨rfl,rfl⟩,⟨⟨rfl,rfl⟩,True.intro⟩⟩ (BO rfl T.range (Aa (Ax (lenD Ak) (by rfl) T.len jL_ (Aa (pvD 1) Ad)) Ad)) (fun _ _ _ _=>(As (i:=0) Hh rfl (Or.inl rfl))) (fun _ _ _ _=>CG) (fun _ _ _ _=>(Do (Aa (Ai (ixLD (CN (K:=K) rfl)) (pvD 1) (pvD 0)) (Aa (Ci rfl (Cp rfl) (cp:=FO) ⟨⟨rfl,rfl⟩,True.intro⟩ (UH (K:=K) rfl (Ai (ixTD (CO (K:=K) rfl)) (Ai (ixTD (CO (K:=K) rfl)) (pvD 2) Ae) (pvD 0))) (fun _ _ _ _=>(As (i:=0) Hi rfl (Or.inl rfl))) (fun _ _ _ _=>CG) (fun _ _ _ _=>(Ai (ixLD (CN (K:=K) rfl)) (pvD 1) (pvD 0)))) Ad)))))
   (Ac (CI (i:=4) Bt.nd rfl (Or.inr rfl) (Ce Ad))
   (Ac (CJ jO_ rfl (Cg (pvD 3)) (As (i:=5) Bt.nd rfl (Or.inl rfl))
   (Ag (DB (ptT (AC (Vg 4 (hu45 (hu9 hr))) (pvD 5) (pvD 4) rfl))
   (Ag (By (E9 jz_ jH_ jI_ Bf (pvD 4) (Aa (pvD 5) Ad))))
   Be)))
   (Ag (CI (i:=1) Bt.nd rfl (Or.inr rfl) (Ci rfl (Cp rfl) (cp:=FP) ⟨⟨rfl,rfl⟩,True.intro⟩ (Cg (pvD 3)) (fun _ _ _ _=>(As (i:=0) Hj rfl (Or.inl rfl))) (fun _ _ _ _=>CG) (fun _ _ _ _=>(Xy (K:=K) rfl jz_ PySem.F.slot_list_index PySem.F.type_list_index (SF (K:=K) rfl 4 (hu46 (hu9 hr))) (pvD 1) (Aa (pvD 0) Ad))))))))))
   (Ag (AY (pvD 1))))),?_⟩
  obtain⟨tm,tw,q1,q2,q3⟩:=id hh
  walk_at "rd"
  refine⟨_,q1,_,rfl,tm,rfl,_,.inr q2,fun pn hpn=>?_⟩
  have s0:=Same.new hpn (o:=.lst (marks.map V.int))
  refine⟨_,s0.seqT q1,_,rfl,tm,rfl,_,.inr (s0.seqT q2),?_⟩
  rw[ja_]
  refine⟨by omega,by omega,?_⟩
  rw[jh_]
  obtain⟨Pv,hPv⟩:∃ Pv:Nat->St->Hp->Prop,∀ i σ' H',Pv i σ' H'↔(∃ (names:α2) (pn:Addr) (o2 o3 o4 o5:Option V),Same H H'/\H pn=none/\H' pn=some (.lst (names.map V.int))/\EE L marks ways i names/\σ'=[some (.ref h),some (.ref pn),o2,o3,o4,o5]):=⟨_,fun _ _ _=>qC_⟩
  refine forR Pv ((hPv _ _ _).mpr ⟨marks,pn,none,none,none,none,s0,hpn,Ab,EE.first,rfl⟩) (fun i σ2 H2 hi h2=>?_) (fun σ2 H2 h2=>?_)
  ·obtain⟨names,pn,o2,o3,o4,o5,s2,hnN,hn2,nm,rfl⟩:=(hPv _ _ _).mp h2
   have hnl:names.length=marks.length:=nm.1
   walk_at "rd"
   refine⟨_,.inl (SqL.of hn2),?_⟩
   rw[ja_]
   refine⟨by omega,by omega,?_⟩
   rw[jh_]
   have hlk:(Dy names ways).length=names.length:=by unfold Dy;rw[ja_,qO_]
   have hlat:∀ r,r<names.length->(Dy names ways)[r]?=some (ln41 names ways r):=fun r hr=>by unfold Dy;rw[je_,qu_ hr];rfl
   have hnat:∀ g:Int,0<=g->g<marks.length->(names.map V.int)[g.toNat]?=some (V.int (names.getD g.toNat 0)):=fun g g0 g1=>by rw[je_,jd_,ji_ (by omega)];rfl
   refine Uf (fun i' xs σ' H'=>Same H2 H'/\GM H' xs ((Dy names ways).take i')/\∃ o,σ'=[o,some (.ref pn),some (.ref h)]) ⟨Same.refl _,GM.nil,none,rfl⟩ (by omega) (fun i' xs σ' H' hi' h'=>by rw[h'.2.1.1,jx_];omega) (fun i' xs σ' H' hi' h'=>?_) (fun xs σ' Hc h' pk hpk=>?_)
   ·obtain⟨s3,hk3,o,rfl⟩:=h'
    rw[Int.zero_add]
    obtain⟨row,w1,w2,w3⟩:=wf.row (r:=(i':Int)) (by omega) (by omega)
    rw[jh_] at w1
    obtain⟨tm',tw',g1,g2,g3⟩:=hh.mono (s2.trans s3)
    obtain⟨zs,t,z1,z2,z3⟩:=g3.at w1
    have hrow:=wf.rows row w2
    walk_at "rd"
    refine⟨_,SqL.of (s3 _ _ hn2),_,D9 (by omega) (hnat _ (by omega) (by omega)),?_⟩
    refine⟨_,g1,_,rfl,tw',rfl,_,z1,_,z2,t,rfl,⟨_,z3⟩,?_⟩
    refine Gz (σ':=[some (.ref pn)]) (fun x=>match x with | .int g=>.int (names.getD g.toNat 0) | _=>.non) rfl z3 (by rw[ja_];omega) (fun x hx R hR=>?_) (fun D hD=>?_)
    ·obtain⟨g,hg,rfl⟩:=jv_.mp hx
     have hgr:=hrow.2 g hg
     walk_at "rd"
     exact⟨_,SqL.of (s3 _ _ hn2),_,D9 hgr.1 (hnat g hgr.1 hgr.2),hR⟩
    ·refine⟨by omega,fun p hp=>?_⟩
     rw[jh_]
     have sD:=(Same.new hD (o:=.lst ((row.map V.int).map fun x=>match x with | .int g=>.int (names.getD g.toNat 0) | _=>.non))).newT hp (o:=.tup [V.int (names.getD i' 0),V.ref D])
     have e1:=Same.new hp (o:=.tup [V.int (names.getD i' 0),V.ref D]) _ _ (Ab (H:=H') (a:=D) (o:=.lst ((row.map V.int).map fun x=>match x with | .int g=>.int (names.getD g.toNat 0) | _=>.non)))
     have e2:upd (upd H' D (.lst ((row.map V.int).map fun x=>match x with | .int g=>.int (names.getD g.toNat 0) | _=>.non))) p (.tup [V.int (names.getD i' 0),V.ref D]) p=some (.tup [V.int (names.getD i' 0),V.ref D]):=Ab
     generalize upd (upd H' D (.lst ((row.map V.int).map fun x=>match x with | .int g=>.int (names.getD g.toNat 0) | _=>.non))) p (.tup [V.int (names.getD i' 0),V.ref D])=H4 at sD e1 e2 ⊢
     refine⟨s3.trans sD,?_,_,rfl⟩
     rw[jP_,hlat i' hi',qk_]
     have e3:ln41 names ways i'=names.getD i' 0::row.map fun a=>names.getD a.toNat 0:=by
      unfold ln41
      rw[jd_ (l:=ways),w1];rfl
     rw[e3]
     refine (hk3.mono sD).snoc e2 ?_
     rw[e1,jQ_,jQ_]
     rfl
   ·obtain⟨s3,hk3,o,rfl⟩:=h'
    rw[<- hlk,jU_] at hk3
    walk_at "rd"
    refine⟨by omega,fun p hp=>?_⟩
    have sK:=s3.newT hpk (o:=.lst xs)
    have sp:=(Same.new hpk (o:=.lst xs)).newT hp (o:=.lst [])
    have hpkp:pk≠p:=j6_ (AM hp).2
    have epk:upd (upd Hc pk (.lst xs)) p (.lst []) pk=some (.lst xs):=by rw[Ah hpkp];exact Ab
    have ep:upd (upd Hc pk (.lst xs)) p (.lst []) p=some (.lst []):=Ab
    have hpN:H2 p=none:=(s3.newT hpk (o:=.lst xs)).none hp
    have hk4:=hk3.mono sp
    have s4:Same H2 (upd (upd Hc pk (.lst xs)) p (.lst [])):=s3.trans sp
    have sp':=sp
    generalize upd (upd Hc pk (.lst xs)) p (.lst [])=H4 at s4 epk ep hk4 sp' ⊢
    have hpN2:H p=none:=s2.none hpN
    have hxl:=hk4.1
    refine⟨⟨_,SqL.of epk⟩,?_⟩
    have hn0:=(AM hp).1
    obtain⟨Pw,hPw⟩:∃ Pv:Nat->St->Hp->Prop,∀ j σ' H',Pv j σ' H'↔(∃ (ys:List V) (o5:Option V),BT p H4 H'/\H' p=some (.lst ys)/\GM Hc ys (((Dy names ways).take j).foldl ins [])/\σ'=[some (.ref h),some (.ref pn),some (.int (0+(i:Int))),some (.ref pk),some (.ref p),o5]):=⟨_,fun _ _ _=>qC_⟩
    refine forL (xs:=xs) Pw ((hPw _ _ _).mpr ⟨[],_,fun _ _ _ e=>e,ep,GM.nil,rfl⟩) (fun j σ' H' _ h'=>by obtain⟨_,_,s',_⟩:=(hPw _ _ _).mp h';exact SqL.of (s' _ _ hpkp epk)) (fun j x σ' H5 hx h'=>?_) (fun σ' H5 h'=>?_)
    ·obtain⟨ys,o5,s5,hp5,hkc,rfl⟩:=(hPw _ _ _).mp h'
     have sc:Same Hc H5:=fun b o e=>s5 b o (Al e hn0) (sp' _ _ e)
     have hk5:=hkc.mono sc
     obtain⟨t,l,c,w0,hki,rfl,ht,hl0⟩:=hk3.at hx
     have ht5:H5 t=some (.tup [.int c,.ref l]):=s5 _ _ (Al ht hn0) (sp' _ _ ht)
     have hl5:H5 l=some (.lst (w0.map V.int)):=s5 _ _ (Al hl0 hn0) (sp' _ _ hl0)
     have hyl:=hk5.1
     have hil:=EW ((Dy names ways).take j) []
     rw[jx_,qf_] at hil
     walk_at "rd"
     refine⟨ys,SqL.of hp5,_,hk5.eqs ht5 hl5,?_⟩
     rw[hyl,Zi]
     have hnx:((Dy names ways).take (j+1)).foldl ins []=ins (((Dy names ways).take j).foldl ins []) (c::w0):=by rw[jP_,hki,qk_,qp_];rfl
     refine ite2 (fun hy=>?_) (fun hn=>?_)
     ·have hy:¬ (c::w0∈((Dy names ways).take j).foldl ins []):=by simpa using hy
      refine⟨.inl ⟨rfl,_,SqL.of hp5⟩,ys,hp5,by omega,(hPw _ _ _).mpr ⟨_,_,fun b o hb e=>by rw[Ah hb];exact s5 b o hb e,Ab,?_,rfl⟩⟩
      rw[hnx,show ins (((Dy names ways).take j).foldl ins []) (c::w0)=((Dy names ways).take j).foldl ins [] ++ [c::w0] from if_neg hy]
      exact hkc.snoc ht hl0
     ·have hn:c::w0∈((Dy names ways).take j).foldl ins []:=by simpa using hn
      refine (hPw _ _ _).mpr ⟨ys,_,s5,hp5,?_,rfl⟩
      rw[hnx,show ins (((Dy names ways).take j).foldl ins []) (c::w0)=((Dy names ways).take j).foldl ins [] from if_pos hn]
      exact hkc
    ·obtain⟨ys,o5,s5,hp5,hkc,rfl⟩:=(hPw _ _ _).mp h'
     have sc:Same Hc H5:=fun b o e=>s5 b o (Al e hn0) (sp' _ _ e)
     have hk5:=hkc.mono sc
     rw[hxl,jU_] at hk5
     have hil:=EW (Dy names ways) []
     rw[qf_] at hil
     have hyl:=hk5.1
     have epk5:=s5 _ _ hpkp epk
     walk_at "rd"
     refine⟨⟨_,SqL.of epk5⟩,?_⟩
     refine PR (xs:=xs) (fun i' us σ' H'=>H'=H5/\us=(((Dy names ways).take i').map fun k=>(((((Dy names ways).foldl ins []).idxOf k:Nat):Int))).map V.int/\∃ o,σ'=[o,some (.ref p)]) ⟨rfl,rfl,none,rfl⟩ (by omega) (fun i' us σ' H' hi' h'=>by obtain⟨rfl,rfl,_⟩:=h';exact⟨SqL.of epk5,by rw[ja_,ja_,jx_];omega⟩) (fun i' x us σ' H' hx h'=>?_) (fun us σ' H' h' D hD=>?_)
     ·obtain⟨rfl,rfl,o,rfl⟩:=h'
      obtain⟨t,l,c,w0,hki,rfl,ht,hl0⟩:=hk3.at hx
      have ht5:H' t=some (.tup [.int c,.ref l]):=s5 _ _ (Al ht hn0) (sp' _ _ ht)
      have hl5:H' l=some (.lst (w0.map V.int)):=s5 _ _ (Al hl0 hn0) (sp' _ _ hl0)
      have hmem:=Nv.mpr (jg_ hki)
      have hidx:=xH_.mpr hmem
      walk_at "rd"
      refine⟨.inl ⟨rfl,_,SqL.of hp5⟩,ys,hp5,_,hk5.eqs ht5 hl5,((Dy names ways).foldl ins []).idxOf (c::w0),by omega,?_,fun j hj=>?_,by omega,?_,_,rfl⟩
      ·exact qj_ (by rw[ji_ hidx,qU_])
      ·refine qe_ fun z=>?_
       have:=Rw z
       omega
      ·rw[jP_,hki,qk_,jR_,jR_]
       rfl
     ·obtain⟨rfl,rfl,o,rfl⟩:=h'
      rw[hxl,jU_]
      have sH:Same H H':=fun b o e=>s5 b o (Al e hpN2) (s4 _ _ (s2 _ _ e))
      exact (hPv _ _ _).mpr ⟨nx31 names ways,D,_,_,_,_,sH.newT hD,sH.none hD,Ab,nm.turn wf,rfl⟩
  ·obtain⟨names,pn,o2,o3,o4,o5,s2,hnN,hn2,nm,rfl⟩:=(hPv _ _ _).mp h2
   walk_at "rd"
   exact k pn names _ s2 hnN hn2 nm
theorem Vv {c c':α2}:∀ (R acc:α2),(∀ r s,(r∈acc\/r∈R)->(s∈acc\/s∈R)->(cf c r=cf c s↔cf c' r=cf c' s))->R.foldl (Cq c) acc=R.foldl (Cq c') acc
 | [],acc,_=>rfl
 | q::R,acc,h=>by
  have e:Cq c acc q=Cq c' acc q:=by
   unfold Cq
   have:cf c q∈acc.map (cf c)↔cf c' q∈acc.map (cf c'):=by
    rw[jv_,jv_]
    constructor
    ·rintro⟨a,ha,e⟩;exact⟨a,ha,(h a q (.inl ha) (.inr jo_)).mp e⟩
    ·rintro⟨a,ha,e⟩;exact⟨a,ha,(h a q (.inl ha) (.inr jo_)).mpr e⟩
   by_cases hq:cf c q∈acc.map (cf c)
   ·rw[if_pos hq,if_pos (this.mp hq)]
   ·rw[if_neg hq,if_neg (fun z=>hq (this.mpr z))]
  rw[qT_,qT_,e]
  have sub:∀ r,r∈Cq c' acc q->r∈acc\/r∈q::R:=fun r hr=>by
   unfold Cq at hr
   split at hr
   ·exact .inl hr
   ·rcases jB_.mp hr with hr | hr
    ·exact .inl hr
    ·exact .inr (by rw[ju_.mp hr];exact jo_)
  refine Vv R _ fun r s hr hs=>h r s ?_ ?_
  ·rcases hr with hr | hr
   ·exact sub r hr
   ·exact .inr (jr_ _ hr)
  ·rcases hs with hs | hs
   ·exact sub s hs
   ·exact .inr (jr_ _ hs)
theorem Zj {c c' R:α2}(h:∀ r s,r∈R->s∈R->(cf c r=cf c s↔cf c' r=cf c' s)):FR c R=FR c' R/\∀ r∈R,hm c R r=hm c' R r:=by
 have e:FR c R=FR c' R:=Vv R [] fun r s hr hs=>h r s (hr.resolve_left (by simp)) (hs.resolve_left (by simp))
 refine⟨e,fun r hr=>?_⟩
 obtain⟨j,q,hj,e1,e2,e3⟩:=F_hm (c:=c) hr
 have hq:q∈R:=HK (jg_ e2)
 rw[e] at e2
 rw[e1,<- hm_F e2]
 exact L2.hm_congr ((h q r hq hr).mp e3)
theorem Ww {L:Nat}{marks:α2}{ways:α1}(wf:Wf L marks ways){names:α2}(nm:EE L marks ways marks.length names):∀ r s,r∈rOf ways->s∈rOf ways->(cf names r=cf names s↔cf (cOf L marks ways) r=cf (cOf L marks ways) s):=by
 intro r s hr hs
 have r0:=EX wf hr
 have s0:=EX wf hs
 have h1:=nm.2 r.toNat s.toNat (by omega) (by omega)
 rw[show ((r.toNat:Nat):Int)=r by omega,show ((s.toNat:Nat):Int)=s by omega] at h1
 show names.getD r.toNat 0=names.getD s.toNat 0↔_
 rw[h1]
 constructor
 ·intro h
  refine Mh wf (finO wf) r0.1 r0.2 s0.1 s0.2 fun w hw=>?_
  have hle:=UZ wf
  exact IN.all (rs:=rOf ways) (Kn wf) (fun q hq x x0 x1=>Iq wf hq x0 x1) hr hs (fun v hv hl=>h v hv (by omega)) w hw
 ·intro h v hv _
  exact UX wf (finO wf) v hv r0.1 r0.2 s0.1 s0.2 h
theorem Zk {L:Nat}{marks:α2}{ways:α1}(wf:Wf L marks ways){names:α2}(nm:EE L marks ways marks.length names):FR names (rOf ways)=sF L marks ways/\(sF L marks ways).map (hrow names (rOf ways) ways)=sW L marks ways:=by
 obtain⟨e1,e2⟩:=Zj (Ww wf nm)
 refine⟨e1,?_⟩
 unfold sW
 refine qd_ fun r hr=>?_
 unfold hrow
 refine qd_ fun g hg=>e2 g ?_
 have hr':r∈rOf ways:=HK hr
 have r0:=EX wf hr'
 obtain⟨row,w1,w2,w3⟩:=wf.row r0.1 r0.2
 rw[jd_,w1] at hg
 obtain⟨x,hx,rfl⟩:=jY_ (show g∈row from hg)
 have:=Iq wf hr' (x:=(x:Int)) (by omega) (by omega)
 rw[BM w1 (g:=row[x]) (by rw[jh_];exact ji_ hx)] at this
 exact this
theorem O5:∀ {ws:α2} {m:Nat} {w:Int},ws[m]?=some w->ws.idxOf w<=m
 | [],m,w,h=>by simp at h
 | v::ws,m,w,h=>by
  rw[zM_]
  cases m with
  | zero =>
   have:v=w:=by simpa using h
   simp[this]
  | succ m =>
   have:=O5 (ws:=ws) (m:=m) (w:=w) (by simpa using h)
   cases e:(v == w) with
   | true=>exact j0_ _
   | false=>exact Nat.succ_le_succ this
def RV (K:α3):Sp:=fun vs H Q _=>∃ (h:Addr) (L:Nat) (marks:α2) (ways:α1),vs=[.ref h]/\BB K H h L marks ways/\Wf L marks ways/\∀ (p:Addr) (H':Hp),Same H H'->BB K H' p L (sM L marks ways) (sW L marks ways)->Q (.ref p) H'
theorem O6 {f:Addr}{fd:α6}(F:Fun K "_law_base" "_law_base" CQ f fd)(T:Txt mg)
  (Z:Exs K mg C_j2 C_j0)
  {Bv:Addr} {DN:α6} (Eo:FnOk P w K mg base CX0 1 Bv DN ["house"] (Mr K)) (CC:Fun K "_law_order_of" "_law_order_of" Bs Bv DN) (Ep:Binds K DN ["house"] []) (Er:mg "_law_order_of" = some (.ref Bv))
  {BK:Addr} {Es:α6} (EM:FnOk P w K mg base CX0 1 BK Es ["house"] (Vu K)) (CL:Fun K "_law_classes" "_law_classes" BI BK Es) (EN:Binds K Es ["house"] []) (EO:mg "_law_classes" = some (.ref BK))
  : FnOk P w K mg base CX0 2 f fd ["house"] (RV K):=by
 refine F.ok Cw (fun vs H Q E h=>?_) (fun cdv A outer s H vs Q E hr h=>?_)
 ·obtain⟨h,L,marks,ways,rfl,_⟩:=h;rfl
 ·obtain⟨h,L,marks,ways,rfl,hh,wf,k⟩:=h
  have hl:=AB
  have hn40:=wf.n40
  have hn1:=wf.n1
  have hL1:=wf.l1
  have hL6:=wf.l6
  refine⟨_,(Ac (CI (i:=1) Cw.nd rfl (Or.inr rfl) (Am EM (hr.mono (by decide)) rfl EO CL.kp EN .nil Bc (Aa (pvD 0) Ad)))
   (Ac (Aj (i:=2) Cw.nd (Am Eo (hr.mono (by decide)) rfl Er CC.kp Ep .nil Bc (Aa (pvD 0) Ad)))
   (Ac (Aj (i:=3) Cw.nd (Ce Ad))
   (Ac (CJ jO_ rfl (Cg (pvD 2)) (As (i:=4) Cw.nd rfl (Or.inl rfl))
   (Ag (DB (ptT (AC IX (Ai (ixLD Bz) (pvD 1) (pvD 4)) (Ci rfl (Cp rfl) (cp:=HV) ⟨⟨rfl,rfl⟩,True.intro⟩ (Cg (pvD 3)) (fun _ _ _ _=>(As (i:=0) Jk rfl (Or.inl rfl))) (fun _ _ _ _=>CG) (fun _ _ _ _=>(Ai (ixLD (CN (K:=K) rfl)) (pvD 1) (pvD 0)))) rfl))
   (Ag (By (E9 jz_ jH_ jI_ Bf (pvD 3) (Aa (pvD 4) Ad))))
   Be)))
   (Ac (CI (i:=5) Cw.nd rfl (Or.inr rfl) (Ci rfl (Cp rfl) (cp:=HW) ⟨⟨rfl,rfl⟩,True.intro⟩ (Cg (pvD 3)) (fun _ _ _ _=>(As (i:=0) Jl rfl (Or.inl rfl))) (fun _ _ _ _=>CG) (fun _ _ _ _=>(Ai (ixLD (CN (K:=K) rfl)) (pvD 1) (pvD 0)))))
   (Ac (Ii (i:=6) Cw.nd rfl rfl rfl (Cp rfl) (cp:=HX) ⟨⟨rfl,rfl⟩,⟨⟨rfl,rfl⟩,⟨⟨rfl,rfl⟩,True.intro⟩⟩⟩ (Cg (pvD 3)) (fun _ _ _ _=>(As (i:=0) Jm rfl (Or.inl rfl))) (fun _ _ _ _=>CG) (fun _ _ _ _=>(AX (MX (K:=K) rfl) rfl T.tuple jS_ (Aa (Ci rfl (Cp rfl) (cp:=HY) ⟨⟨rfl,rfl⟩,⟨⟨rfl,rfl⟩,True.intro⟩⟩ (UH (K:=K) rfl (Ai (ixTD (CO (K:=K) rfl)) (Ai (ixTD (CO (K:=K) rfl)) (pvD 3) Ae) (pvD 0))) (fun _ _ _ _=>(As (i:=0) Jn rfl (Or.inl rfl))) (fun _ _ _ _=>CG) (fun _ _ _ _=>(Xy (K:=K) rfl jz_ PySem.F.slot_list_index PySem.F.type_list_index UD (pvD 1) (Aa (Ai (ixLD (CN (K:=K) rfl)) (pvD 2) (pvD 0)) Ad)))) Ad))))
   (Ag (AY (Do (Aa (Ai (ixTD AG) (pvD 0) Ae) (Aa (AX AN rfl T.tuple jS_ (Aa (Ci rfl (Cp rfl) (cp:=G1) ⟨⟨rfl,rfl⟩,True.intro⟩ (Cg (pvD 3)) (fun _ _ _ _=>(As (i:=0) Iy rfl (Or.inl rfl))) (fun _ _ _ _=>CG) (fun _ _ _ _=>(Ai (ixTD (CO (K:=K) rfl)) (Ai (ixTD (CO (K:=K) rfl)) (pvD 1) Ae) (pvD 0)))) Ad)) (Aa (AX AN rfl T.tuple jS_ (Aa (pvD 6) Ad)) Ad)))))))))))),?_⟩
  walk_at "rd"
  refine⟨h,L,marks,ways,rfl,hh,wf,fun pn names H1 s1 hpnN hpn nm=>?_⟩
  refine⟨h,L,marks,ways,rfl,hh.mono s1,wf,fun po H2 s2 hpoN hpo=>?_⟩
  refine⟨by omega,fun pf hpf=>?_⟩
  obtain⟨hF,hW⟩:=Zk wf nm
  have hR:((Az ways).map (·.1))=rOf ways:=rfl
  rw[hR] at hpo
  have hRl:=UZ wf
  have hRr:=fun {r:Int} (h:r∈rOf ways)=>EX wf h
  have hRs:=fun {r x:Int} (h:r∈rOf ways) (x0:0<=x) (x1:x<L)=>Iq wf h x0 x1
  have hnl:names.length=marks.length:=nm.1
  have hnat:∀ g:Int,0<=g->g<marks.length->(names.map V.int)[g.toNat]?=some (V.int (cf names g)):=fun g g0 g1=>by unfold cf;rw[je_,jd_,ji_ (by omega)];rfl
  unfold sM at k
  rw[<- hW,<- hF] at k
  generalize rOf ways=R at hpo hRl hRr hRs k
  have s12:=s1.trans s2
  have s3:=s12.newT hpf (o:=.lst [])
  have hpfN:H pf=none:=s12.none hpf
  have hpn2:=s2 _ _ hpn
  have hpfo:pf≠po:=j6_ (Al hpo hpf)
  have hpfn:pf≠pn:=j6_ (Al hpn2 hpf)
  have epf:upd H2 pf (.lst []) pf=some (.lst []):=Ab
  have epo:upd H2 pf (.lst []) po=some (.lst (R.map V.int)):=by rw[Ah (j6_ hpfo)];exact hpo
  have epn:upd H2 pf (.lst []) pn=some (.lst (names.map V.int)):=by rw[Ah (j6_ hpfn)];exact hpn2
  generalize upd H2 pf (.lst [])=H3 at s3 epf epo epn ⊢
  refine⟨po,rfl,⟨_,SqL.of epo⟩,?_⟩
  have comp1:∀ {H':Hp} {F:α2} {Q':VK} {cp:Caps} {σ:St},H' pn=some (.lst (names.map V.int))->H' pf=some (.lst (F.map V.int))->(∀ r∈F,r∈R)->F.length<=40->cp.st σ=[none,some (.ref pn)]->(∀ D,H' D=none->Q' (.ref D) (upd H' D (.lst ((F.map (cf names)).map V.int))))->PQ (Itl K pf) cp (Ly 0) T8 (tOp (V8 K) (Sr 1) (Sr 0)) σ H' Q':=fun {H' F Q' cp σ} h1 h2 hsub hlen e hd=>by
   refine HD (σ':=[some (.ref pn)]) (fun x=>match x with | .int g=>.int (cf names g) | _=>.non) e (SqL.of h2) (by rw[ja_];omega) (fun x hx R' hR'=>?_) (fun D hD=>?_)
   ·obtain⟨g,hg,rfl⟩:=jv_.mp hx
    have hgr:=hRr (hsub g hg)
    walk_at "rd"
    exact⟨_,SqL.of h1,_,D9 hgr.1 (hnat g hgr.1 hgr.2),hR'⟩
   ·have:=hd D hD
    rw[jQ_] at this ⊢
    exact this
  obtain⟨Pv,hPv⟩:∃ Pv:Nat->St->Hp->Prop,∀ j σ' H',Pv j σ' H'↔(∃ (o4:Option V),BT pf H3 H'/\Same H H'/\H' pf=some (.lst ((FR names (R.take j)).map V.int))/\σ'=[some (.ref h),some (.ref pn),some (.ref po),some (.ref pf),o4,none,none]):=⟨_,fun _ _ _=>qC_⟩
  refine forL (xs:=R.map V.int) Pv ((hPv _ _ _).mpr ⟨none,fun _ _ _ e=>e,s3,epf,rfl⟩) (fun j σ' H' _ h'=>by obtain⟨_,s',_⟩:=(hPv _ _ _).mp h';exact SqL.of (s' _ _ (j6_ hpfo) epo)) (fun j x σ' H' hx h'=>?_) (fun σ' H' h'=>?_)
  ·obtain⟨o4,s4,sH4,hf4,rfl⟩:=(hPv _ _ _).mp h'
   obtain⟨r,hri,rfl⟩:=DA hx
   have hrR:=jg_ hri
   have hr0:=hRr hrR
   have hFl:=RD names (R.take j)
   rw[jx_] at hFl
   have epn4:=s4 _ _ (j6_ hpfn) epn
   walk_at "rd"
   refine⟨_,SqL.of epn4,_,D9 hr0.1 (hnat r hr0.1 hr0.2),⟨_,SqL.of hf4⟩,?_⟩
   refine comp1 epn4 hf4 (fun q hq=>xb_ (HK hq)) (by omega) rfl fun D hD=>?_
   have sD:=Same.new hD (o:=.lst (((FR names (R.take j)).map (cf names)).map V.int))
   have eD:upd H' D (.lst (((FR names (R.take j)).map (cf names)).map V.int)) D=some (.lst (((FR names (R.take j)).map (cf names)).map V.int)):=Ab
   have hfD:=sD _ _ hf4
   generalize upd H' D (.lst (((FR names (R.take j)).map (cf names)).map V.int))=H5 at sD eD hfD ⊢
   refine⟨D,rfl,_,.inl (SqL.of eD),rfl,Ke _,?_⟩
   rw[Rr]
   have hnx:=UV (c:=names) hri
   refine ite2 (fun hy=>?_) (fun hn=>?_)
   ·have hy:¬ (cf names r∈(FR names (R.take j)).map (cf names)):=by simpa using hy
    refine⟨.inl ⟨rfl,_,SqL.of hfD⟩,_,hfD,by rw[ja_];omega,(hPv _ _ _).mpr ⟨_,fun b o hb e=>by rw[Ah hb];exact sD _ _ (s4 b o hb e),(sH4.trans sD).over hpfN,?_,rfl⟩⟩
    rw[Ab,hnx,show Cq names (FR names (R.take j)) r=FR names (R.take j) ++ [r] from if_neg hy,jR_]
    rfl
   ·have hn:cf names r∈(FR names (R.take j)).map (cf names):=by simpa using hn
    refine (hPv _ _ _).mpr ⟨_,fun b o hb e=>sD _ _ (s4 b o hb e),sH4.trans sD,?_,rfl⟩
    rw[hfD,hnx,show Cq names (FR names (R.take j)) r=FR names (R.take j) from if_pos hn]
  ·obtain⟨o4,s4,sH4,hf4,rfl⟩:=(hPv _ _ _).mp h'
   rw[ja_,jU_] at hf4
   have epn4:=s4 _ _ (j6_ hpfn) epn
   have hFl:=RD names R
   walk_at "rd"
   refine⟨⟨_,SqL.of hf4⟩,?_⟩
   refine comp1 epn4 hf4 (fun q hq=>HK hq) (by omega) rfl fun pm hpm=>?_
   have hsub:∀ q∈FR names R,q∈R:=fun q hq=>HK hq
   have hcl:∀ g∈R,cf names g∈(FR names R).map (cf names)/\hm names R g=((((FR names R).map (cf names)).idxOf (cf names g):Nat):Int):=fun g hg=>by
    unfold hm
    rw[Km]
    exact⟨A2.mpr (xe_ hg),rfl⟩
   have sM1:=sH4.newT hpm (o:=.lst (((FR names R).map (cf names)).map V.int))
   have sM2:=Same.new hpm (o:=.lst (((FR names R).map (cf names)).map V.int))
   have epm:upd H' pm (.lst (((FR names R).map (cf names)).map V.int)) pm=some (.lst (((FR names R).map (cf names)).map V.int)):=Ab
   generalize upd H' pm (.lst (((FR names R).map (cf names)).map V.int))=H5 at sM1 sM2 epm ⊢
   have hf5:=sM2 _ _ hf4
   have epn5:=sM2 _ _ epn4
   generalize FR names R=F at hf4 hf5 hFl hsub hcl k epm
   refine⟨⟨_,SqL.of hf5⟩,?_⟩
   have hFz:F.length<sizeLine:=by omega
   refine PR (xs:=F.map V.int) (fun i' zs σ' H'=>Same H5 H'/\AE K H' zs ((F.take i').map (hrow names R ways))/\∃ o,σ'=[o,some (.ref pm),some (.ref pn),some (.ref h)]) ⟨Same.refl _,AE.nil,none,rfl⟩ (by rw[ja_];exact hFz) (fun i' zs σ' H' hi' h'=>⟨SqL.of (h'.1 _ _ hf5),by rw[h'.2.1.1,ja_,jx_];omega⟩) (fun i' x zs σ' H6 hx h'=>?_) (fun zs σ' H6 h' pw hpw=>?_)
   ·obtain⟨s6,hz6,o,rfl⟩:=h'
    obtain⟨r,hri,rfl⟩:=DA hx
    have hrR:=hsub r (jg_ hri)
    have hr0:=hRr hrR
    obtain⟨row,w1,w2,w3⟩:=wf.row hr0.1 hr0.2
    obtain⟨tm',tw',g1,g2,g3⟩:=hh.mono (sM1.trans s6)
    obtain⟨ys,t,z1,z2,z3⟩:=g3.atZ hr0.1 w1
    have hrw:=wf.rows row w2
    have hgR:∀ g∈row,g∈R:=fun g hg=>by
     obtain⟨x,hx,rfl⟩:=jY_ hg
     have:=hRs hrR (x:=(x:Int)) (by omega) (by omega)
     rw[BM w1 (g:=row[x]) (by rw[jh_];exact ji_ hx)] at this
     exact this
    walk_at "rd"
    refine⟨_,g1,_,rfl,tw',rfl,_,z1,_,z2,t,rfl,⟨_,z3⟩,?_⟩
    refine Gz (σ':=[some (.ref pm),some (.ref pn)]) (fun x=>match x with | .int g=>.int (hm names R g) | _=>.non) rfl z3 (by rw[ja_];omega) (fun x hx R' hR'=>?_) (fun D hD=>?_)
    ·obtain⟨g,hg,rfl⟩:=jv_.mp hx
     have hgr:=hRr (hgR g hg)
     obtain⟨hc1,hc2⟩:=hcl g (hgR g hg)
     have hidx:=xH_.mpr hc1
     rw[ja_] at hidx
     walk_at "rd"
     refine⟨.inl ⟨rfl,_,SqL.of (s6 _ _ epm)⟩,_,SqL.of (s6 _ _ epn5),_,D9 hgr.1 (hnat g hgr.1 hgr.2),_,s6 _ _ epm,rfl,Ke _,(F.map (cf names)).idxOf (cf names g),by omega,⟨V.int (cf names g),?_,by simp[eqV]⟩,fun m z hm hz=>?_,?_⟩
     ·rw[je_,ji_ (by rw[ja_];exact hidx),qU_];rfl
     ·obtain⟨y,hy,rfl⟩:=DA hz
      have hne:y≠cf names g:=fun z=>by
       have:=O5 (by rw[hy,z])
       omega
      simp[eqV,hne]
     ·rw[<- hc2];exact hR'
    ·refine⟨D,rfl,_,.inl ⟨SqL.of Ab,fun l hl0=>?_⟩⟩
     have sD:=(Same.new hD (o:=.lst ((row.map V.int).map fun x=>match x with | .int g=>.int (hm names R g) | _=>.non))).newT hl0 (o:=.tup ((row.map V.int).map fun x=>match x with | .int g=>.int (hm names R g) | _=>.non))
     refine⟨s6.trans sD,?_,_,rfl⟩
     rw[jP_,hri,qk_,jR_]
     refine (hz6.mono (TK.of sD)).snoc ?_
     rw[Ab,jQ_]
     unfold hrow
     rw[jd_,w1,Option.getD_some,jQ_]
     rfl
   ·obtain⟨s6,hz6,o,rfl⟩:=h'
    rw[ja_,jU_] at hz6
    have s7:=s6.newT hpw (o:=.lst zs)
    have epw:upd H6 pw (.lst zs) pw=some (.lst zs):=Ab
    have hz7:AE K (upd H6 pw (.lst zs)) zs _:=hz6.mono (TK.new hpw)
    generalize upd H6 pw (.lst zs)=H7 at s7 epw hz7 ⊢
    have sH7:=sM1.trans s7
    obtain⟨tm',tw',g1,g2,g3⟩:=hh.mono sH7
    have hf7:=s7 _ _ hf5
    refine⟨_,g1,_,rfl,⟨_,SqL.of hf7⟩,?_⟩
    refine HD (σ':=[some (.ref h)]) (fun x=>match x with | .int g=>.int (mkR marks g) | _=>.non) rfl (SqL.of hf7) (by rw[ja_];exact hFz) (fun x hx R' hR'=>?_) (fun D hD=>?_)
    ·obtain⟨g,hg,rfl⟩:=jv_.mp hx
     have hgr:=hRr (hsub g hg)
     walk_at "rd"
     refine⟨_,g1,_,rfl,tm',rfl,_,g2,_,D9 hgr.1 (v:=V.int (mkR marks g)) ?_,hR'⟩
     rw[je_,RE (by omega)];rfl
    ·have sD:=s7.newT hD (o:=.lst ((F.map V.int).map fun x=>match x with | .int g=>.int (mkR marks g) | _=>.non))
     have eD:upd H7 D (.lst ((F.map V.int).map fun x=>match x with | .int g=>.int (mkR marks g) | _=>.non)) D=some (.lst ((F.map (mkR marks)).map V.int)):=by rw[Ab,jQ_,jQ_];rfl
     have sD7:=Same.new hD (o:=.lst ((F.map V.int).map fun x=>match x with | .int g=>.int (mkR marks g) | _=>.non))
     generalize upd H7 D (.lst ((F.map V.int).map fun x=>match x with | .int g=>.int (mkR marks g) | _=>.non))=H8 at sD eD sD7 ⊢
     refine⟨D,rfl,_,.inl ⟨SqL.of eD,fun l hl0=>?_⟩⟩
     have sl:=Same.new hl0 (o:=.tup ((F.map (mkR marks)).map V.int))
     have el:upd H8 l (.tup ((F.map (mkR marks)).map V.int)) l=some (.tup ((F.map (mkR marks)).map V.int)):=Ab
     generalize upd H8 l (.tup ((F.map (mkR marks)).map V.int))=H9 at sl el ⊢
     have epw9:=sl _ _ (sD7 _ _ epw)
     refine⟨pw,rfl,_,.inl ⟨SqL.of epw9,fun l1 hl1=>⟨by omega,fun p hp=>?_⟩⟩⟩
     have hz9:=hz7.mono (TK.of (sD7.trans sl))
     have s10:=(Same.new hl1 (o:=.tup zs)).newT hp (o:=.tup [V.int L,V.ref l,V.ref l1])
     have e1:=Same.new hp (o:=.tup [V.int L,V.ref l,V.ref l1]) _ _ (Ab (H:=H9) (a:=l1) (o:=.tup zs))
     have e2:upd (upd H9 l1 (.tup zs)) p (.tup [V.int L,V.ref l,V.ref l1]) p=some (.tup [V.int L,V.ref l,V.ref l1]):=Ab
     have hz10:=hz9.mono (TK.of s10)
     generalize upd (upd H9 l1 (.tup zs)) p (.tup [V.int L,V.ref l,V.ref l1])=H10 at s10 e1 e2 hz10 ⊢
     refine k p H10 (((sM1.trans sD).trans sl).trans s10) ⟨l,l1,SqT.of e2,SqT.of (s10 _ _ el),?_⟩
     obtain⟨os,x1,x2,x3⟩:=KD hz10
     refine⟨os.map (·.1),?_,by rw[<- x2,ja_,ja_],fun i t row hi hrow=>?_⟩
     ·rw[jQ_]
      rw[x1] at e1
      exact SqT.of e1
     ·rw[<- x2,je_] at hrow
      rw[je_] at hi
      cases ho:os[i]? with
      | none=>rw[ho] at hi;cases hi
      | some o =>
       rw[ho] at hi hrow
       cases hi;cases hrow
       exact SqT.of (x3 o (jg_ ho))
theorem O7:∀ {os os2:List S64.Wd},S64.Srt os->S64.Srt os2->(os.map (·.2)).Perm (os2.map (·.2))->os.map (·.2)=os2.map (·.2)
 | [],os2,_,_,h=>by
  have:=h.length_eq
  rw[ja_,ja_] at this
  rw[zk_.mp (show os2.length=0 by simpa using this.symm)]
 | a::os,[],_,_,h=>by simp at h
 | a::os,b::os2,h1,h2,h=>by
  have c1:=zg_.mp h1
  have c2:=zg_.mp h2
  have e:a.2=b.2:=by
   refine qJ_ fun hne=>?_
   have ha:a.2∈(b::os2).map (·.2):=h.mem_iff.mp (by simp)
   have hb:b.2∈(a::os).map (·.2):=h.mem_iff.mpr (by simp)
   rw[jV_,jC_] at ha hb
   obtain⟨x,hx,ex⟩:=jv_.mp (ha.resolve_left hne)
   obtain⟨y,hy,ey⟩:=jv_.mp (hb.resolve_left (j6_ hne))
   have g1:=c2.1 x hx
   have g2:=c1.1 y hy
   have kx:S64.kw x=S64.kw a:=by unfold S64.kw;rw[ex]
   have ky:S64.kw y=S64.kw b:=by unfold S64.kw;rw[ey]
   rw[kx] at g1
   rw[ky] at g2
   have e3:=S64.pblt_total g1 g2
   exact hne (jJ_ (fun p:Int×α2=>p.2) e3)
  have hp:(os.map (·.2)).Perm (os2.map (·.2)):=by
   rw[jV_,jV_,e] at h
   exact List.Perm.cons_inv h
  rw[jV_,jV_,e,O7 c1.2 c2.2 hp]
theorem QA {L:Nat}{m1 m2:α2}{w1 w2:α1}(f1:Wf L m1 w1)(f2:Wf L m2 w2)(h:EI L m1 w1 m2 w2):sM L m1 w1=sM L m2 w2/\sW L m1 w1=sW L m2 w2 :=
 Can.eq (sCan f1) (sCan f2) fun v hv=>by rw[Y3 f1 hv,Y3 f2 hv];exact h v hv
theorem SU {L:Nat}{m1:α2}{w1:α1}(f1:Wf L m1 w1):EI L (sM L m1 w1) (sW L m1 w1) m1 w1:=fun v hv=>Y3 f1 hv
theorem eqWs {K:α3}{H:Hp}{a b:Addr}{xs ys:List V}{ws:α1}(ha:SqL K H a xs)(hb:SqL K H b ys)(hx:AE K H xs ws)(hy:AE K H ys ws):EqD K H 8 (.ref a) (.ref b) true:=by
 refine .inr ⟨a,b,xs,ys,rfl,rfl,.inl ⟨ha,hb⟩,fun _=>true,fun i x y h1 h2=>?_,?_⟩
 ·obtain⟨t,u,hu,rfl,ht⟩:=hx.at h1
  obtain⟨t2,u2,hu2,rfl,ht2⟩:=hy.at h2
  rw[hu] at hu2
  cases hu2
  have:=EqD.ints (K:=K) (xs:=u) (ys:=u) (.inr ⟨SqT.of ht,SqT.of ht2⟩) 6
  simpa using this
 ·rw[qj_ (by rw[hx.1,hy.1])]
  simp
theorem WsT.monoT {T:Addr}{H H':Hp}{os:List S64.Wd}{ps:Array Value}(h:WsT H os)(s:BT T H H')(hT:H T=some (.tbl ps)):WsT H' os:=fun w hw=>s.ne (h w hw) (fun _ z=>by cases z) hT
theorem Ft {H:Hp}{D b:Addr}{xs:List V}{o u:HO}(hD:H D=some (.lst xs))(hb:H b=some o)(ho:∀ ys,o ≠ .lst ys):upd H D u b=some o:=by
 rw[Ah (fun z=>by rw[z,hD] at hb;cases hb;exact ho _ rfl)];exact hb
theorem RW {T D:Addr}{lp:Pos}{qual:Str}{H:Hp}{xs ys:List V}(h:LamT T lp qual H)(hD:H D=some (.lst xs)):LamT T lp qual (upd H D (.lst ys)):=by
 rcases h with g | ⟨c',oc,vs,t,g1,g2,g3,g4⟩
 ·exact .inl (Ft hD g (fun _ z=>by cases z))
 ·exact .inr ⟨c',oc,vs,t,Ft hD g1 (fun _ z=>by cases z),Ft hD g2 (fun _ z=>by cases z),g3,g4⟩
theorem RX {K:α3}{D:Addr}{H:Hp}{xs ys:List V}(hD:H D=some (.lst xs)):TSq K H (upd H D (.lst ys)):=fun b zs q=>by
 rcases q with (q | ⟨o,q⟩) | q
 ·exact .inl (.inl (Ft hD q (fun _ z=>by cases z)))
 ·exact .inl (.inr ⟨o,Ft hD q (fun _ z=>by cases z)⟩)
 ·exact .inr q
def Wx (K:α3):Sp:=fun vs H Q _=>∃ (a:Addr) (ns:α2),vs=[.ref a]/\SqL K H a (ns.map V.int)/\ns.length<=63/\H (tabP K "in_order")=some (.tbl #[])/\∀ H',Q (.bl true) H'
theorem Bf_ {f:Addr}{fd:α6}(F:Fun K "law" "law" Nd f fd)(T:Txt mg)
  (Z:Exs K mg C_j2 C_j0)
  {Ht:Addr} {Nw:α6} (KQ:FnOk P w K mg base CX0 6 Ht Nw ["house", "more"] (RS K)) (Hu:Fun K "suite" "suite" Hg Ht Nw) (KR:Binds K Nw ["house", "more"] []) (KS:mg "suite" = some (.ref Ht))
  {KU:Addr} {QB:α6} (O8:FnOk P w K mg base CX0 6 KU QB ["house", "more"] (Vp K)) (KW:Fun K "slim" "slim" Ks KU QB) (O9:Binds K QB ["house", "more"] []) (Pa:mg "slim" = some (.ref KU))
  {An:Addr} {Av:α6} (Ap:FnOk P w K mg base CX0 1 An Av ["script", "k"] (KI K)) (Ao:Fun K "_law_cell_at" "_law_cell_at" AZ An Av) (Aq:Binds K Av ["script", "k"] []) (Ar:mg "_law_cell_at" = some (.ref An))
  {Bi:Addr} {Cc:α6} (Da:FnOk P w K mg base CX0 2 Bi Cc ["house", "number", "rooms"] (Nt K)) (B0:Fun K "_law_blown" "_law_blown" BX Bi Cc) (Db:Binds K Cc ["house", "number", "rooms"] []) (Dc:mg "_law_blown" = some (.ref Bi))
  {Bw:Addr} {DO:α6} (Et:FnOk P w K mg base CX0 3 Bw DO ["script"] (Mq K)) (CD:Fun K "_law_house_by" "_law_house_by" Br Bw DO) (Eu:Binds K DO ["script"] []) (Ev:mg "_law_house_by" = some (.ref Bw))
  {BL:Addr} {Ew:α6} (EQ:FnOk P w K mg base CX0 2 BL Ew ["script", "house"] (Vq K)) (CM:Fun K "_law_more_by" "_law_more_by" BH BL Ew) (ER:Binds K Ew ["script", "house"] []) (ES:mg "_law_more_by" = some (.ref BL))
  {Bl:Addr} {Dz:α6} (DP:FnOk P w K mg base CX0 1 Bl Dz ["house", "number"] (KM K)) (Cf:Fun K "_law_turned_by" "_law_turned_by" Bk Bl Dz) (DQ:Binds K Dz ["house", "number"] []) (DR:mg "_law_turned_by" = some (.ref Bl))
  {CU:Addr} {Gr:α6} (Hv:FnOk P w K mg base CX0 2 CU Gr ["house"] (RV K)) (Ex:Fun K "_law_base" "_law_base" CQ CU Gr) (Hw:Binds K Gr ["house"] []) (Hx:mg "_law_base" = some (.ref CU))
  : FnOk P w K mg base CX0 7 f fd ["script"] (Wx K):=by
 refine F.ok Jb (fun vs H Q E h=>?_) (fun cdv A outer s H vs Q E hr h=>?_)
 ·obtain⟨a,ns,rfl,_⟩:=h;rfl
 ·obtain⟨a,ns,rfl,hs,hz,hT,k⟩:=h
  have hl:=AB
  refine⟨_,(Ac (Aj (i:=1) Jb.nd (Am Et (hr.mono (by decide)) rfl Ev CD.kp Eu .nil Bc (Aa (pvD 0) Ad)))
   (Ac (Aj (i:=2) Jb.nd (Am EQ (hr.mono (by decide)) rfl ES CM.kp ER .nil Bc (Aa (pvD 0) (Aa (pvD 1) Ad))))
   (Ac (Aj (i:=3) Jb.nd (Am Ap (hr.mono (by decide)) rfl Ar Ao.kp Aq .nil Bc (Aa (pvD 0) (Aa Ae Ad))))
   (Ac (Aj (i:=4) Jb.nd (Am DP (hr.mono (by decide)) rfl DR Cf.kp DQ .nil Bc (Aa (Am Da (hr.mono (by decide)) rfl Dc B0.kp Db .nil Bc (Aa (Am Hv (hr.mono (by decide)) rfl Hx Ex.kp Hw .nil Bc (Aa (pvD 1) Ad)) (Aa (pvD 3) (Aa (At (opD0 Cd) (Ax (lenD Ak) (by rfl) T.len jL_ (Aa (Ai (ixTD AG) (pvD 1) Ae) Ad)) (At (opD Bx) (pvD 3) Ae)) Ad)))) (Aa (At (opD Bx) (pvD 3) Ae) Ad))))
   (RH (Aj (i:=5) Jb.nd (Am KQ (hr.mono (by decide)) rfl KS Hu.kp KR .nil Bc (Aa (pvD 1) (Aa (pvD 2) Ad))))
   (RH (Aj (i:=6) Jb.nd (Am O8 (hr.mono (by decide)) rfl Pa KW.kp O9 .nil Bc (Aa (pvD 1) (Aa (pvD 2) Ad))))
   (Ac (DB (PW.pt (Yk (ptT (AC (XF 8 (hu9 hr)) (Am KQ (hr.mono (by decide)) rfl KS Hu.kp KR .nil Bc (Aa (pvD 4) (Aa (pvD 2) Ad))) (pvD 5) (AW _))) (Tv (ptT (AC (XF 8 (hu9 hr)) (Am O8 (hr.mono (by decide)) rfl Pa KW.kp O9 .nil Bc (Aa (pvD 4) (Aa (pvD 2) Ad))) (pvD 6) (AW _))))))
   (Ag (AY ZA))
   Be)
   (Ac (Aj (i:=7) Jb.nd (Ce (Aa (AX F1 rfl T.list xf_ (Aa (pvD 5) Ad)) (Aa (AX F1 rfl T.list xf_ (Aa (pvD 6) Ad)) Ad))))
   (Ac (By (Xe jz_ PySem.F.slot_list_clear PySem.F.type_list_clear Rb (pvD 5)))
   (Ac (By (Xe jz_ PySem.F.slot_list_clear PySem.F.type_list_clear Rb (pvD 6)))
   (Ag (AY (ZI (TD (Xi 8 (hu9 hr)) (Am KQ (hr.mono (by decide)) rfl KS Hu.kp KR .nil Bc (Aa (pvD 1) (Aa (pvD 2) Ad))) (Ai (ixLD Bz) (pvD 7) Ae) (AW _)) (ZH (TD (Xi 8 (hu9 hr)) (Am O8 (hr.mono (by decide)) rfl Pa KW.kp O9 .nil Bc (Aa (pvD 1) (Aa (pvD 2) Ad))) (Ai (ixLD Bz) (pvD 7) Ae) (AW _)))))))))))))))),?_⟩
  walk_at "rd"
  refine⟨a,ns,rfl,hs,fun h L0 marks ways H1 s1 hh wf hm15=>?_⟩
  obtain⟨L,rfl⟩:∃ L:Nat,L0=(L:Int):=⟨L0.toNat,by have:=wf.l1;omega⟩
  obtain⟨mm,wv,q1,q2,q3⟩:=id hh
  refine⟨a,h,ns,L,marks,ways,rfl,s1.seq hs,hh,wf,fun m H2 hm hmany s2=>?_⟩
  refine⟨a,ns,5,rfl,(s1.trans s2).seq hs,?_⟩
  have hT2:=(s1.trans s2) _ _ hT
  dsimp only
  have h15:sM L marks ways=sM L marks ways:=rfl
  have wfs:=sWf wf
  have hsl:(sM L marks ways).length<=marks.length:=by
   rw[Ja]
   exact XL wf
  refine⟨h,L,marks,ways,rfl,hh.mono s2,wf,fun hb H3 s3 hhb=>?_⟩
  generalize cell ns 5=num
  have hm0:=q3_ num (show (4:Int)≠0 by decide)
  have hm4:=qD_ num (show (0:Int)<4 by decide)
  refine⟨h,rfl,_,(s2.trans s3).seqT q1,_,rfl,mm,rfl,_,.inr ((s2.trans s3).seqT q2),num,rfl,by decide,?_⟩
  rw[ja_]
  obtain⟨nb,hnb,hnb18⟩:∃ nb:Nat,(marks.length:Int)+num%4=(nb:Int)/\nb<=18:=⟨((marks.length:Int)+num%4).toNat,by omega,by omega⟩
  rw[hnb]
  refine⟨hb,L,_,_,num,nb,rfl,hhb,wfs,by omega,fun h4 m4 w4 H4 s4 hh4 wf4 _ al4=>?_⟩
  refine⟨num,rfl,by decide,h4,L,m4,w4,num%40,rfl,hh4,wf4,fun ho mo wo H5 s5 hho wfo _ al5=>?_⟩
  have hal:EI L mo wo marks ways:=(al5.trans al4).trans (SU wf)
  obtain⟨eM,eW⟩:=QA wfo wf hal
  have eS:OZ L mo wo m=OZ L marks ways m:=by unfold OZ;rw[eM,eW]
  have eT:Vo L mo wo m=Vo L marks ways m:=by unfold Vo;rw[eM,eW]
  have s25:=(s3.trans s4).trans s5
  have hT5:=s25 _ _ hT2
  have hh5:=(hh.mono s2).mono s25
  clear al4 al5 hal eM eW s3 s4 s5 hhb hh4 wf4 h15 wfs hsl hnb hnb18
  refine⟨h,L,m,marks,ways,rfl,hh5,wf,hm,hmany,.inl hT5,fun D1 H6 os1 s6 hL6 hDn1 hD1 hos1 hpm1 hsrt1=>?_⟩
  have hh6:=BB.monoQ hh5 (BT.tsq2 (T:=tabP K "in_order") s6 hT5)
  have hho6:=BB.monoQ hho (BT.tsq2 (T:=tabP K "in_order") s6 hT5)
  obtain⟨ps6,hT6⟩:=hL6.is
  refine RG ?_
  walk_at "rd"
  refine⟨h,L,m,marks,ways,rfl,hh6,wf,hm,hmany,hL6,fun D2 H7 os2 s7 hL7 hDn2 hD2 hos2 hpm2 hsrt2=>?_⟩
  have hh7:=BB.monoQ hh6 (BT.tsq2 (T:=tabP K "in_order") s7 hT6)
  have hho7:=BB.monoQ hho6 (BT.tsq2 (T:=tabP K "in_order") s7 hT6)
  obtain⟨ps7,hT7⟩:=hL7.is
  have hD17:H7 D1=some (.lst (S64.wv os1)):=BT.ne (T:=tabP K "in_order") s7 hD1 (fun _ z=>by cases z) hT6
  have hos17:WsT H7 os1:=WsT.monoT (T:=tabP K "in_order") hos1 s7 hT6
  refine RG ?_
  walk_at "rd"
  refine⟨ho,L,m,mo,wo,rfl,hho7,wfo,hm,hmany,hL7,fun D3 H8 os3 s8 hL8 hDn3 hD3 hos3 hpm3 hsrt3=>?_⟩
  have n8:∀ {b:Addr} {o:HO},H7 b=some o->(∀ ps,o ≠ .tbl ps)->H8 b=some o:=fun e ho=>BT.ne (T:=tabP K "in_order") s8 e ho hT7
  have hh8:=BB.monoQ hh7 (BT.tsq2 (T:=tabP K "in_order") s8 hT7)
  have hho8:=BB.monoQ hho7 (BT.tsq2 (T:=tabP K "in_order") s8 hT7)
  obtain⟨ps8,hT8⟩:=hL8.is
  have hD18:=n8 hD17 (fun _ z=>by cases z)
  have hD28:=n8 hD2 (fun _ z=>by cases z)
  have hos18:WsT H8 os1:=WsT.monoT (T:=tabP K "in_order") hos17 s8 hT7
  have hos28:WsT H8 os2:=WsT.monoT (T:=tabP K "in_order") hos2 s8 hT7
  rw[eS] at hpm3
  have e31:=O7 hsrt3 hsrt1 (hpm3.trans hpm1.symm)
  have hW3:=DI (K:=K) hos3
  rw[e31] at hW3
  refine⟨D3,rfl,true,eqWs (SqL.of hD3) (SqL.of hD18) hW3 (DI hos18),?_⟩
  rw[if_neg (by decide)]
  refine⟨ho,L,m,mo,wo,rfl,hho8,wfo,hm,hmany,hL8,fun D4 H9 os4 s9 hL9 hDn4 hD4 hos4 hpm4 hsrt4=>?_⟩
  have n9:∀ {b:Addr} {o:HO},H8 b=some o->(∀ ps,o ≠ .tbl ps)->H9 b=some o:=fun e ho=>BT.ne (T:=tabP K "in_order") s9 e ho hT8
  have hh9:=BB.monoQ hh8 (BT.tsq2 (T:=tabP K "in_order") s9 hT8)
  have hD19:=n9 hD18 (fun _ z=>by cases z)
  have hD29:=n9 hD28 (fun _ z=>by cases z)
  have hos19:WsT H9 os1:=WsT.monoT (T:=tabP K "in_order") hos18 s9 hT8
  have hos29:WsT H9 os2:=WsT.monoT (T:=tabP K "in_order") hos28 s9 hT8
  rw[eT] at hpm4
  have e42:=O7 hsrt4 hsrt2 (hpm4.trans hpm2.symm)
  have hW4:=DI (K:=K) hos4
  rw[e42] at hW4
  have hD12:D1≠D2:=fun z=>by rw[<- z,hD1] at hDn2;cases hDn2
  refine⟨D4,rfl,true,eqWs (SqL.of hD4) (SqL.of hD29) hW4 (DI hos29),?_⟩
  rw[if_neg (by decide)]
  clear n8 n9 hh8 hho8 hh7 hho7 hh6 hho6 hW3 hW4
  refine⟨_,.inl (SqL.of hD19),fun l hl0=>?_⟩
  have sl:=Same.new hl0 (o:=.lst (S64.wv os1))
  have el:upd H9 l (.lst (S64.wv os1)) l=some (.lst (S64.wv os1)):=Ab
  have hh10:=hh9.mono sl
  have hL10:=LamT.mono hL9 sl
  have hD110:=sl _ _ hD19
  have hD210:=sl _ _ hD29
  have nl1:l≠D1:=j6_ (Al hD19 hl0)
  have nl2:l≠D2:=j6_ (Al hD29 hl0)
  have ho110:WsT (upd H9 l (.lst (S64.wv os1))) os1:=fun w hw=>sl _ _ (hos19 w hw)
  have ho210:WsT (upd H9 l (.lst (S64.wv os1))) os2:=fun w hw=>sl _ _ (hos29 w hw)
  generalize upd H9 l (.lst (S64.wv os1))=H10 at sl el hh10 hL10 hD110 hD210 ho110 ho210 ⊢
  refine⟨_,.inl (SqL.of hD210),fun l1 hl1=>⟨by omega,fun p hp=>?_⟩⟩
  have s11:=(Same.new hl1 (o:=.lst (S64.wv os2))).newT hp (o:=.lst [V.ref l,V.ref l1])
  have el1:=Same.new hp (o:=.lst [V.ref l,V.ref l1]) _ _ (Ab (H:=H10) (a:=l1) (o:=.lst (S64.wv os2)))
  have ep:upd (upd H10 l1 (.lst (S64.wv os2))) p (.lst [V.ref l,V.ref l1]) p=some (.lst [V.ref l,V.ref l1]):=Ab
  have hh11:=hh10.mono s11
  have hL11:=LamT.mono hL10 s11
  have hD111:=s11 _ _ hD110
  have hD211:=s11 _ _ hD210
  have el11:=s11 _ _ el
  have nl11:l1≠D1:=j6_ (Al hD110 hl1)
  have nl12:l1≠D2:=j6_ (Al hD210 hl1)
  have np1:p≠D1:=j6_ (Al (Same.new hl1 _ _ hD110) hp)
  have np2:p≠D2:=j6_ (Al (Same.new hl1 _ _ hD210) hp)
  have ho111:WsT (upd (upd H10 l1 (.lst (S64.wv os2))) p (.lst [V.ref l,V.ref l1])) os1:=fun w hw=>s11 _ _ (ho110 w hw)
  have ho211:WsT (upd (upd H10 l1 (.lst (S64.wv os2))) p (.lst [V.ref l,V.ref l1])) os2:=fun w hw=>s11 _ _ (ho210 w hw)
  generalize upd (upd H10 l1 (.lst (S64.wv os2))) p (.lst [V.ref l,V.ref l1])=H11 at s11 el1 ep hh11 hL11 hD111 hD211 el11 ho111 ho211 ⊢
  refine⟨.inl ⟨rfl,_,SqL.of hD111⟩,_,hD111,.inl ⟨rfl,_,SqL.of (by rw[Ah (j6_ hD12)];exact hD211)⟩,_,by rw[Ah (j6_ hD12)];exact hD211,?_⟩
  have hD212:upd H11 D1 (.lst []) D2=some (.lst (S64.wv os2)):=by rw[Ah (j6_ hD12)];exact hD211
  have hL12:LamH K (upd (upd H11 D1 (.lst [])) D2 (.lst [])):=RW (RW hL11 hD111) hD212
  have hh12:=BB.monoQ (BB.monoQ hh11 (RX (ys:=[]) hD111)) (RX (ys:=[]) hD212)
  have el12:upd (upd H11 D1 (.lst [])) D2 (.lst []) l=some (.lst (S64.wv os1)):=by rw[Ah nl2,Ah nl1];exact el11
  have el112:upd (upd H11 D1 (.lst [])) D2 (.lst []) l1=some (.lst (S64.wv os2)):=by rw[Ah nl12,Ah nl11];exact el1
  have ep12:upd (upd H11 D1 (.lst [])) D2 (.lst []) p=some (.lst [V.ref l,V.ref l1]):=by rw[Ah np2,Ah np1];exact ep
  have ho112:WsT (upd (upd H11 D1 (.lst [])) D2 (.lst [])) os1:=fun w hw=>Ft hD212 (Ft hD111 (ho111 w hw) (fun _ z=>by cases z)) (fun _ z=>by cases z)
  have ho212:WsT (upd (upd H11 D1 (.lst [])) D2 (.lst [])) os2:=fun w hw=>Ft hD212 (Ft hD111 (ho211 w hw) (fun _ z=>by cases z)) (fun _ z=>by cases z)
  generalize upd (upd H11 D1 (.lst [])) D2 (.lst [])=H12 at hL12 hh12 el12 el112 ep12 ho112 ho212 ⊢
  obtain⟨ps12,hT12⟩:=hL12.is
  refine⟨h,L,m,marks,ways,rfl,hh12,wf,hm,hmany,hL12,fun D5 H13 os5 s13 hL13 hDn5 hD5 hos5 hpm5 hsrt5=>?_⟩
  have n13:∀ {b:Addr} {o:HO},H12 b=some o->(∀ ps,o ≠ .tbl ps)->H13 b=some o:=fun e ho=>BT.ne (T:=tabP K "in_order") s13 e ho hT12
  have hh13:=BB.monoQ hh12 (BT.tsq2 (T:=tabP K "in_order") s13 hT12)
  obtain⟨ps13,hT13⟩:=hL13.is
  have el13:=n13 el12 (fun _ z=>by cases z)
  have el113:=n13 el112 (fun _ z=>by cases z)
  have ep13:=n13 ep12 (fun _ z=>by cases z)
  have ho113:WsT H13 os1:=WsT.monoT (T:=tabP K "in_order") ho112 s13 hT12
  have ho213:WsT H13 os2:=WsT.monoT (T:=tabP K "in_order") ho212 s13 hT12
  have e51:=O7 hsrt5 hsrt1 (hpm5.trans hpm1.symm)
  have hW5:=DI (K:=K) hos5
  rw[e51] at hW5
  refine⟨_,SqL.of ep13,_,rfl,?_⟩
  refine⟨D5,rfl,l,rfl,true,eqWs (SqL.of hD5) (SqL.of el13) hW5 (DI ho113),?_⟩
  rw[if_pos rfl]
  refine⟨h,L,m,marks,ways,rfl,hh13,wf,hm,hmany,hL13,fun D6 H14 os6 s14 hL14 hDn6 hD6 hos6 hpm6 hsrt6=>?_⟩
  have n14:∀ {b:Addr} {o:HO},H13 b=some o->(∀ ps,o ≠ .tbl ps)->H14 b=some o:=fun e ho=>BT.ne (T:=tabP K "in_order") s14 e ho hT13
  have el114:=n14 el113 (fun _ z=>by cases z)
  have ep14:=n14 ep13 (fun _ z=>by cases z)
  have ho214:WsT H14 os2:=WsT.monoT (T:=tabP K "in_order") ho213 s14 hT13
  have e62:=O7 hsrt6 hsrt2 (hpm6.trans hpm2.symm)
  have hW6:=DI (K:=K) hos6
  rw[e62] at hW6
  exact⟨_,SqL.of ep14,_,rfl,D6,rfl,l1,rfl,true,eqWs (SqL.of hD6) (SqL.of el114) hW6 (DI ho214),k _⟩
end
theorem all_mk {l:PySem.W.OpenLaw}{w:World}{K:α3}{h:Heap}{mg:Str->α5}{fa Eg Bg CS Du Hn B7 BS Ei Cy Ds Au CA Cz Hq Ej Dv AJ Ca AK Bh Ht KU An AR Bu BJ Bi Bw BL Bl Bv BK CU Zl:Addr}(X:K.In h)(G:h.Ns mainGlobals mg)(hfa:mg "law" = some (.ref fa))
  {C_j2 C_j0:Addr}
  {SV SW:Option Addr} {SX:Array (α5)} {SY SZ S0 S1 Ms S2:Value}
  {Nx Ny:Option Addr} {Nz:Array (α5)} {NA NB NC ND Ic NE:Value}
  {Pb Pd:Option Addr} {Pe:Array (α5)} {Pf Pg Ph Pi Je Pj:Value}
  {QC QD:Option Addr} {QE:Array (α5)} {QF QG QH QI KY QJ:Value}
  {Wy Wz:Option Addr} {WA:Array (α5)} {WB WD WE WF RY WG:Value}
  {LM LN:Option Addr} {LO:Array (α5)} {LP LQ LR LS G2 LT:Value}
  {QK QL:Option Addr} {QM:Array (α5)} {QN QO QP QQ KZ QR:Value}
  {S3 S4:Option Addr} {S5:Array (α5)} {S6 S7 S8 S9 Mt Ta:Value}
  {Tb Tc:Option Addr} {Td:Array (α5)} {Te Tf Tg Th Mu Ti:Value}
  {QS QT:Option Addr} {QU:Array (α5)} {QV QW QX QY K0 QZ:Value}
  {GN GO:Option Addr} {GP:Array (α5)} {GQ GR GS GT DU GU:Value}
  {Tj Tk:Option Addr} {Tl:Array (α5)} {Tm Tn To Tp Mv Tq:Value}
  {NF NG:Option Addr} {NH:Array (α5)} {NJ NL NM NN Id NO:Value}
  {WH WI:Option Addr} {WJ:Array (α5)} {WK WL WM WN RZ WO:Value}
  {WP WQ:Option Addr} {WR:Array (α5)} {WT WU WV WW R0 WX:Value}
  {Q0 Q1:Option Addr} {Q2:Array (α5)} {Q3 Q4 Q5 Q6 Q7:Value}
  {Fu Fv:Option Addr} {Fw:Array (α5)} {Fx Fy Fz FA Dk FC:Value}
  {LU LV:Option Addr} {LW:Array (α5)} {LX LY LZ L1 G3 L3:Value}
  {FD FE:Option Addr} {FF:Array (α5)} {FG FH FJ FK Dn FL:Value}
  {NP NQ:Option Addr} {NR:Array (α5)} {NS NT NU NV Ie NW:Value}
  {WY WZ:Option Addr} {W0:Array (α5)} {W1 W2 W3 W4 R1 W5:Value}
  {Zm Zn:Option Addr} {Zo:Array (α5)} {Zp Zq Zr Zs Vw Zt:Value}
  {K1 K2:Option Addr} {K3:Array (α5)} {K4 K5 K6 K7 Gs K8:Value}
  {NX NY:Option Addr} {NZ:Array (α5)} {N0 N1 N2 N3 Ig N4:Value}
  {Jr Js:Option Addr} {Jt:Array (α5)} {Ju Jv Jw Jx FQ Jy:Value}
  {K9 La:Option Addr} {Lb:Array (α5)} {Lc Ld Le Lf Gu Lg:Value}
  {N5 N6:Option Addr} {N7:Array (α5)} {N8 N9 Oa Ob Ih Oc:Value}
  {Jz JA:Option Addr} {JC:Array (α5)} {JD JE JF JG FS JH:Value}
  {Lh Li:Option Addr} {Lj:Array (α5)} {Lk Ll Lm Ln Gv Lo:Value}
  {IO IP:Option Addr} {IQ:Array (α5)} {IR IS IT IU E8 IV:Value}
  {JI JJ:Option Addr} {JK:Array (α5)} {JL JN JO JQ FT JR:Value}
  {Lp Lq:Option Addr} {Lr:Array (α5)} {Ls Lu Lv Lw Gw Lx:Value}
  {Pk Pl:Option Addr} {Pm:Array (α5)} {Po Pp Pq Ps Jf Pt:Value}
  {Bg_ Yd:Option Addr} {Bh_:Array (α5)} {Bi_ Ye Yf Yg Vx Yh:Value}
  (a_jq:nsIn K mainGlobals "is_word" = some (some (.ref Eg)))
  (l_jq:K.lookup Eg=some ⟨SY,SV,.func (fnOf "is_word" "is_word" (AD Ea) (Ay Ea) (Af Ea) .none SZ S0 S1 SW Ms S2),SX⟩)
  (c_jq:codeIn K Ms "is_word" = true)
  (k_jq:keepIn K (.ref Eg)=true)
  (a_jg:nsIn K mainGlobals "check_word" = some (some (.ref Bg)))
  (l_jg:K.lookup Bg=some ⟨NA,Nx,.func (fnOf "check_word" "check_word" (AD BU) (Ay BU) (Af BU) .none NB NC ND Ny Ic NE),Nz⟩)
  (c_jg:codeIn K Ic "check_word" = true)
  (k_jg:keepIn K (.ref Bg)=true)
  (a_jl:nsIn K mainGlobals "next_word" = some (some (.ref CS)))
  (l_jl:K.lookup CS=some ⟨Pf,Pb,.func (fnOf "next_word" "next_word" (AD CP) (Ay CP) (Af CP) .none Pg Ph Pi Pd Je Pj),Pe⟩)
  (c_jl:codeIn K Je "next_word" = true)
  (k_jl:keepIn K (.ref CS)=true)
  (a_jn:nsIn K mainGlobals "words_to" = some (some (.ref Du)))
  (l_jn:K.lookup Du=some ⟨QF,QC,.func (fnOf "words_to" "words_to" (AD Dq) (Ay Dq) (Af Dq) .none QG QH QI QD KY QJ),QE⟩)
  (c_jn:codeIn K KY "words_to" = true)
  (k_jn:keepIn K (.ref Du)=true)
  (a_ju:nsIn K mainGlobals "trail" = some (some (.ref Hn)))
  (l_ju:K.lookup Hn=some ⟨WB,Wy,.func (fnOf "trail" "trail" (AD Hb) (Ay Hb) (Af Hb) .none WD WE WF Wz RY WG),WA⟩)
  (c_ju:codeIn K RY "trail" = true)
  (k_ju:keepIn K (.ref Hn)=true)
  (a_je:nsIn K mainGlobals "room_behind" = some (some (.ref B7)))
  (l_je:K.lookup B7=some ⟨LP,LM,.func (fnOf "room_behind" "room_behind" (AD B3) (Ay B3) (Af B3) .none LQ LR LS LN G2 LT),LO⟩)
  (c_je:codeIn K G2 "room_behind" = true)
  (k_je:keepIn K (.ref B7)=true)
  (a_jo:nsIn K mainGlobals "words_in" = some (some (.ref BS)))
  (l_jo:K.lookup BS=some ⟨QN,QK,.func (fnOf "words_in" "words_in" (AD CW) (Ay CW) (Af CW) .none QO QP QQ QL KZ QR),QM⟩)
  (c_jo:codeIn K KZ "words_in" = true)
  (k_jo:keepIn K (.ref BS)=true)
  (a_jr:nsIn K mainGlobals "ways_in" = some (some (.ref Ei)))
  (l_jr:K.lookup Ei=some ⟨S6,S3,.func (fnOf "ways_in" "ways_in" (AD Eb) (Ay Eb) (Af Eb) .none S7 S8 S9 S4 Mt Ta),S5⟩)
  (c_jr:codeIn K Mt "ways_in" = true)
  (k_jr:keepIn K (.ref Ei)=true)
  (a_js:nsIn K mainGlobals "reached" = some (some (.ref Cy)))
  (l_js:K.lookup Cy=some ⟨Te,Tb,.func (fnOf "reached" "reached" (AD DC) (Ay DC) (Af DC) .none Tf Tg Th Tc Mu Ti),Td⟩)
  (c_js:codeIn K Mu "reached" = true)
  (k_js:keepIn K (.ref Cy)=true)
  (a_jp:nsIn K mainGlobals "numbered" = some (some (.ref Ds)))
  (l_jp:K.lookup Ds=some ⟨QV,QS,.func (fnOf "numbered" "numbered" (AD Dr) (Ay Dr) (Af Dr) .none QW QX QY QT K0 QZ),QU⟩)
  (c_jp:codeIn K K0 "numbered" = true)
  (k_jp:keepIn K (.ref Ds)=true)
  (a_j5:nsIn K mainGlobals "words_and_classes" = some (some (.ref Au)))
  (l_j5:K.lookup Au=some ⟨GQ,GN,.func (fnOf "words_and_classes" "words_and_classes" (AD AO) (Ay AO) (Af AO) .none GR GS GT GO DU GU),GP⟩)
  (c_j5:codeIn K DU "words_and_classes" = true)
  (k_j5:keepIn K (.ref Au)=true)
  (a_jt:nsIn K mainGlobals "tellers" = some (some (.ref CA)))
  (l_jt:K.lookup CA=some ⟨Tm,Tj,.func (fnOf "tellers" "tellers" (AD DD) (Ay DD) (Af DD) .none Tn To Tp Tk Mv Tq),Tl⟩)
  (c_jt:codeIn K Mv "tellers" = true)
  (k_jt:keepIn K (.ref CA)=true)
  (a_jh:nsIn K mainGlobals "classes_of" = some (some (.ref Cz)))
  (l_jh:K.lookup Cz=some ⟨NJ,NF,.func (fnOf "classes_of" "classes_of" (AD Cv) (Ay Cv) (Af Cv) .none NL NM NN NG Id NO),NH⟩)
  (c_jh:codeIn K Id "classes_of" = true)
  (k_jh:keepIn K (.ref Cz)=true)
  (a_jv:nsIn K mainGlobals "homes" = some (some (.ref Hq)))
  (l_jv:K.lookup Hq=some ⟨WK,WH,.func (fnOf "homes" "homes" (AD He) (Ay He) (Af He) .none WL WM WN WI RZ WO),WJ⟩)
  (c_jv:codeIn K RZ "homes" = true)
  (k_jv:keepIn K (.ref Hq)=true)
  (a_jw:nsIn K mainGlobals "least" = some (some (.ref Ej)))
  (l_jw:K.lookup Ej=some ⟨WT,WP,.func (fnOf "least" "least" (AD Gb) (Ay Gb) (Af Gb) .none WU WV WW WQ R0 WX),WR⟩)
  (c_jw:codeIn K R0 "least" = true)
  (k_jw:keepIn K (.ref Ej)=true)
  (a_j1:nsIn K mainGlobals "in_order" = some (some (.ref Dv)))
  {cA_in_order:Addr}
  (l_j1:K.lookup Dv=some ⟨Q3,Q0,.func (fnOf "in_order" "in_order" (AD CY) (Ay CY) (Af CY) .none Q4 Q5 Q6 Q1 (.ref cA_in_order) Q7),Q2⟩)
  {PA_in_order:Addr} {oC_in_order:Value} {dC_in_order:Option Addr} {sC_in_order:Array (α5)} {vC_in_order:Array Value} (lc_in_order:K.lookup cA_in_order=some ⟨oC_in_order,dC_in_order,.fields vC_in_order,sC_in_order⟩) (hx_in_order:vC_in_order[11]?=some (.ref PA_in_order)) (kt_in_order:K.lookup PA_in_order=none) (ch_in_order:PySem.W.codeHdIn K cA_in_order PA_in_order=true) (tb_in_order:h.get? PA_in_order=some (PySem.W.tabObj #[]))
  (c_j1:codeIn K (.ref cA_in_order) "in_order" = true)
  (k_j1:keepIn K (.ref Dv)=true)
  (a_j3:nsIn K mainGlobals "marks_from_each_room" = some (some (.ref AJ)))
  (l_j3:K.lookup AJ=some ⟨Fx,Fu,.func (fnOf "marks_from_each_room" "marks_from_each_room" (AD AH) (Ay AH) (Af AH) .none Fy Fz FA Fv Dk FC),Fw⟩)
  (c_j3:codeIn K Dk "marks_from_each_room" = true)
  (k_j3:keepIn K (.ref AJ)=true)
  (a_jf:nsIn K mainGlobals "own_tellers" = some (some (.ref Ca)))
  (l_jf:K.lookup Ca=some ⟨LX,LU,.func (fnOf "own_tellers" "own_tellers" (AD B4) (Ay B4) (Af B4) .none LY LZ L1 LV G3 L3),LW⟩)
  (c_jf:codeIn K G3 "own_tellers" = true)
  (k_jf:keepIn K (.ref Ca)=true)
  (a_j4:nsIn K mainGlobals "tellers_of_each_room" = some (some (.ref AK)))
  (l_j4:K.lookup AK=some ⟨FG,FD,.func (fnOf "tellers_of_each_room" "tellers_of_each_room" (AD AI) (Ay AI) (Af AI) .none FH FJ FK FE Dn FL),FF⟩)
  (c_j4:codeIn K Dn "tellers_of_each_room" = true)
  (k_j4:keepIn K (.ref AK)=true)
  (a_ji:nsIn K mainGlobals "words_with" = some (some (.ref Bh)))
  (l_ji:K.lookup Bh=some ⟨NS,NP,.func (fnOf "words_with" "words_with" (AD BV) (Ay BV) (Af BV) .none NT NU NV NQ Ie NW),NR⟩)
  (c_ji:codeIn K Ie "words_with" = true)
  (k_ji:keepIn K (.ref Bh)=true)
  (a_jx:nsIn K mainGlobals "suite" = some (some (.ref Ht)))
  (l_jx:K.lookup Ht=some ⟨W1,WY,.func (fnOf "suite" "suite" (AD Hg) (Ay Hg) (Af Hg) .none W2 W3 W4 WZ R1 W5),W0⟩)
  (c_jx:codeIn K R1 "suite" = true)
  (k_jx:keepIn K (.ref Ht)=true)
  (a_jy:nsIn K mainGlobals "slim" = some (some (.ref KU)))
  (l_jy:K.lookup KU=some ⟨Zp,Zm,.func (fnOf "slim" "slim" (AD Ks) (Ay Ks) (Af Ks) .none Zq Zr Zs Zn Vw Zt),Zo⟩)
  (c_jy:codeIn K Vw "slim" = true)
  (k_jy:keepIn K (.ref KU)=true)
  (a_ja:nsIn K mainGlobals "_law_cell_at" = some (some (.ref An)))
  (l_ja:K.lookup An=some ⟨K4,K1,.func (fnOf "_law_cell_at" "_law_cell_at" (AD AZ) (Ay AZ) (Af AZ) .none K5 K6 K7 K2 Gs K8),K3⟩)
  (c_ja:codeIn K Gs "_law_cell_at" = true)
  (k_ja:keepIn K (.ref An)=true)
  (a_jj:nsIn K mainGlobals "_law_mixed" = some (some (.ref AR)))
  (l_jj:K.lookup AR=some ⟨N0,NX,.func (fnOf "_law_mixed" "_law_mixed" (AD BD) (Ay BD) (Af BD) .none N1 N2 N3 NY Ig N4),NZ⟩)
  (c_jj:codeIn K Ig "_law_mixed" = true)
  (k_jj:keepIn K (.ref AR)=true)
  (a_j7:nsIn K mainGlobals "_law_marks_by" = some (some (.ref Bu)))
  (l_j7:K.lookup Bu=some ⟨Ju,Jr,.func (fnOf "_law_marks_by" "_law_marks_by" (AD Bq) (Ay Bq) (Af Bq) .none Jv Jw Jx Js FQ Jy),Jt⟩)
  (c_j7:codeIn K FQ "_law_marks_by" = true)
  (k_j7:keepIn K (.ref Bu)=true)
  (a_jb:nsIn K mainGlobals "_law_ways_by" = some (some (.ref BJ)))
  (l_jb:K.lookup BJ=some ⟨Lc,K9,.func (fnOf "_law_ways_by" "_law_ways_by" (AD BG) (Ay BG) (Af BG) .none Ld Le Lf La Gu Lg),Lb⟩)
  (c_jb:codeIn K Gu "_law_ways_by" = true)
  (k_jb:keepIn K (.ref BJ)=true)
  (a_jk:nsIn K mainGlobals "_law_blown" = some (some (.ref Bi)))
  (l_jk:K.lookup Bi=some ⟨N8,N5,.func (fnOf "_law_blown" "_law_blown" (AD BX) (Ay BX) (Af BX) .none N9 Oa Ob N6 Ih Oc),N7⟩)
  (c_jk:codeIn K Ih "_law_blown" = true)
  (k_jk:keepIn K (.ref Bi)=true)
  (a_j8:nsIn K mainGlobals "_law_house_by" = some (some (.ref Bw)))
  (l_j8:K.lookup Bw=some ⟨JD,Jz,.func (fnOf "_law_house_by" "_law_house_by" (AD Br) (Ay Br) (Af Br) .none JE JF JG JA FS JH),JC⟩)
  (c_j8:codeIn K FS "_law_house_by" = true)
  (k_j8:keepIn K (.ref Bw)=true)
  (a_jc:nsIn K mainGlobals "_law_more_by" = some (some (.ref BL)))
  (l_jc:K.lookup BL=some ⟨Lk,Lh,.func (fnOf "_law_more_by" "_law_more_by" (AD BH) (Ay BH) (Af BH) .none Ll Lm Ln Li Gv Lo),Lj⟩)
  (c_jc:codeIn K Gv "_law_more_by" = true)
  (k_jc:keepIn K (.ref BL)=true)
  (a_j6:nsIn K mainGlobals "_law_turned_by" = some (some (.ref Bl)))
  (l_j6:K.lookup Bl=some ⟨IR,IO,.func (fnOf "_law_turned_by" "_law_turned_by" (AD Bk) (Ay Bk) (Af Bk) .none IS IT IU IP E8 IV),IQ⟩)
  (c_j6:codeIn K E8 "_law_turned_by" = true)
  (k_j6:keepIn K (.ref Bl)=true)
  (a_j9:nsIn K mainGlobals "_law_order_of" = some (some (.ref Bv)))
  (l_j9:K.lookup Bv=some ⟨JL,JI,.func (fnOf "_law_order_of" "_law_order_of" (AD Bs) (Ay Bs) (Af Bs) .none JN JO JQ JJ FT JR),JK⟩)
  (c_j9:codeIn K FT "_law_order_of" = true)
  (k_j9:keepIn K (.ref Bv)=true)
  (a_jd:nsIn K mainGlobals "_law_classes" = some (some (.ref BK)))
  (l_jd:K.lookup BK=some ⟨Ls,Lp,.func (fnOf "_law_classes" "_law_classes" (AD BI) (Ay BI) (Af BI) .none Lu Lv Lw Lq Gw Lx),Lr⟩)
  (c_jd:codeIn K Gw "_law_classes" = true)
  (k_jd:keepIn K (.ref BK)=true)
  (a_jm:nsIn K mainGlobals "_law_base" = some (some (.ref CU)))
  (l_jm:K.lookup CU=some ⟨Po,Pk,.func (fnOf "_law_base" "_law_base" (AD CQ) (Ay CQ) (Af CQ) .none Pp Pq Ps Pl Jf Pt),Pm⟩)
  (c_jm:codeIn K Jf "_law_base" = true)
  (k_jm:keepIn K (.ref CU)=true)
  (a_jz:nsIn K mainGlobals "law" = some (some (.ref Zl)))
  (l_jz:K.lookup Zl=some ⟨Bi_,Bg_,.func (fnOf "law" "law" (AD Nd) (Ay Nd) (Af Nd) .none Ye Yf Yg Yd Vx Yh),Bh_⟩)
  (c_jz:codeIn K Vx "law" = true)
  (k_jz:keepIn K (.ref Zl)=true)
  (z_all:nsIn K mainGlobals "all" = some none)
  (z_enumerate:nsIn K mainGlobals "enumerate" = some none)
  (z_len:nsIn K mainGlobals "len" = some none)
  (z_list:nsIn K mainGlobals "list" = some none)
  (z_max:nsIn K mainGlobals "max" = some none)
  (z_min:nsIn K mainGlobals "min" = some none)
  (z_range:nsIn K mainGlobals "range" = some none)
  (z_sorted:nsIn K mainGlobals "sorted" = some none)
  (z_tuple:nsIn K mainGlobals "tuple" = some none)
  (z_zip:nsIn K mainGlobals "zip" = some none)
  (m_j2:nsIn K mainGlobals "AskError" = some (some (.ref C_j2)))
  (m_j0:nsIn K mainGlobals "BadWord" = some (some (.ref C_j0)))
  (x_j0:PySem.W.excIn K C_j0 bmV "ValueError.__new__" = true)
  (ga_j0:PySem.W.findIn K (.ref C_j0) "__getattribute__" = some (some (.builtin "BaseException.__getattribute__")))
  (hk_j0:PySem.W.findIn K (.ref C_j0) "__getattr__" = some none)
  {cd_j0:ClassData}
  (cl_j0:PySem.W.clsIn K C_j0=some cd_j0)
  (ca_j0:PySem.W.findIn K (.ref C_j0) "__class__" = some (some (.builtin "object.__class__")))
  (mo_j0:PySem.W.mroIn K C_j0 (.type "object")=some true)
  (mb_j0:PySem.W.mroIn K C_j0 (.type "BaseException")=some true)
  (e_j0:PySem.W.exmOne K (.ref C_j0) (.ref C_j2)=some true)
  (v_j0:kitOne K (.ref C_j0) (.type "ValueError")=some true)
  (k_j0_j2:kitOne K (.ref C_j0) (.ref C_j2)=some true)
  (k_j0_j0:kitOne K (.ref C_j0) (.ref C_j0)=some true)
  (gs:PySem.W.specialIn K (.builtin "object.__class__") "__get__" = some (some (.builtin "getset_descriptor.__get__")))
  (tk:PySem.W.takesIn K (.builtin "object.__class__")=some true)
  : ∃ (fd:α6) (c T:Addr),PySem.W.tabIn K "in_order" = some (c,T)/\K.lookup T=none/\PySem.W.CodeHd h c T/\h.get? T=some (PySem.W.tabObj #[])/\(∀ (s:Shared) (v:Value),BindsTo s fd ⟨[v],[]⟩ [("script",v)])/\∀ base:Heap,K.In base->base.Ns mainGlobals mg->PySem.W.CodeHd base c T->BmOk mg base->FnOk l.prog w K mg base CX0 7 fa fd ["script"] (Wx K):=by
 have e:=hfa.symm.trans (jG_ X G a_jz)
 cases e
 have T:Txt mg:=⟨qs_ X G z_all,qs_ X G z_enumerate,qs_ X G z_len,qs_ X G z_list,qs_ X G z_max,qs_ X G z_min,qs_ X G z_range,qs_ X G z_sorted,qs_ X G z_tuple,qs_ X G z_zip⟩
 have Z:Exs K mg C_j2 C_j0:=⟨jG_ X G m_j2,jG_ X G m_j0,x_j0,⟨ga_j0,hk_j0,by rw[cl_j0];rfl,ca_j0,gs,tk,mo_j0,mb_j0⟩,e_j0,v_j0,k_j0_j2,k_j0_j0⟩
 have Gg:=Bj (st:=Ea) l_jq c_jq k_jq
 have Ky:=Gg.binds (ps:=["letters", "word"]) fun _ _ _ _ _ _ us hl=>(by obtain⟨y0,y1,rfl⟩:=len2 hl;rfl)
 have Kz:=jG_ X G a_jq
 have BY:=Bj (st:=BU) l_jg c_jg k_jg
 have C4:=BY.binds (ps:=["letters", "word"]) fun _ _ _ _ _ _ us hl=>(by obtain⟨y0,y1,rfl⟩:=len2 hl;rfl)
 have C5:=jG_ X G a_jg
 have Eh:=Bj (st:=CP) l_jl c_jl k_jl
 have Hl:=Eh.binds (ps:=["letters", "word"]) fun _ _ _ _ _ _ us hl=>(by obtain⟨y0,y1,rfl⟩:=len2 hl;rfl)
 have Hm:=jG_ X G a_jl
 have E4:=Bj (st:=Dq) l_jn c_jn k_jn
 have ID:=E4.binds (ps:=["letters", "most"]) fun _ _ _ _ _ _ us hl=>(by obtain⟨y0,y1,rfl⟩:=len2 hl;rfl)
 have IE:=jG_ X G a_jn
 have KA:=Bj (st:=Hb) l_ju c_ju k_ju
 have Qr:=KA.binds (ps:=["house", "word"]) fun _ _ _ _ _ _ us hl=>(by obtain⟨y0,y1,rfl⟩:=len2 hl;rfl)
 have Qs:=jG_ X G a_ju
 have Di:=Bj (st:=B3) l_je c_je k_je
 have Fl:=Di.binds (ps:=["house", "word"]) fun _ _ _ _ _ _ us hl=>(by obtain⟨y0,y1,rfl⟩:=len2 hl;rfl)
 have Fm:=jG_ X G a_je
 have C6:=Bj (st:=CW) l_jo c_jo k_jo
 have DZ:=C6.binds (ps:=["house"]) fun _ _ _ _ _ _ us hl=>(by obtain⟨y0,rfl⟩:=len1 hl;rfl)
 have D0:=jG_ X G a_jo
 have Go:=Bj (st:=Eb) l_jr c_jr k_jr
 have KG:=Go.binds (ps:=["house"]) fun _ _ _ _ _ _ us hl=>(by obtain⟨y0,rfl⟩:=len1 hl;rfl)
 have KH:=jG_ X G a_jr
 have DF:=Bj (st:=DC) l_js c_js k_js
 have E2:=DF.binds (ps:=["house"]) fun _ _ _ _ _ _ us hl=>(by obtain⟨y0,rfl⟩:=len1 hl;rfl)
 have E3:=jG_ X G a_js
 have D7:=Bj (st:=Dr) l_jp c_jp k_jp
 have GF:=D7.binds (ps:=["row"]) fun _ _ _ _ _ _ us hl=>(by obtain⟨y0,rfl⟩:=len1 hl;rfl)
 have GG:=jG_ X G a_jp
 have AQ:=Bj (st:=AO) l_j5 c_j5 k_j5
 have Ba:=AQ.binds (ps:=["house"]) fun _ _ _ _ _ _ us hl=>(by obtain⟨y0,rfl⟩:=len1 hl;rfl)
 have Bb:=jG_ X G a_j5
 have DH:=Bj (st:=DD) l_jt c_jt k_jt
 have E6:=DH.binds (ps:=["house"]) fun _ _ _ _ _ _ us hl=>(by obtain⟨y0,rfl⟩:=len1 hl;rfl)
 have E7:=jG_ X G a_jt
 have DG:=Bj (st:=Cv) l_jh c_jh k_jh
 have Gk:=DG.binds (ps:=["house"]) fun _ _ _ _ _ _ us hl=>(by obtain⟨y0,rfl⟩:=len1 hl;rfl)
 have Gm:=jG_ X G a_jh
 have KC:=Bj (st:=He) l_jv c_jv k_jv
 have Qw:=KC.binds (ps:=["house"]) fun _ _ _ _ _ _ us hl=>(by obtain⟨y0,rfl⟩:=len1 hl;rfl)
 have Qx:=jG_ X G a_jv
 have Gp:=Bj (st:=Gb) l_jw c_jw k_jw
 have IK:=Gp.binds (ps:=["house"]) fun _ _ _ _ _ _ us hl=>(by obtain⟨y0,rfl⟩:=len1 hl;rfl)
 have IL:=jG_ X G a_jw
 have GH:=Bj (st:=CY) l_j1 c_j1 k_j1
 have IH:=GH.binds (ps:=["words"]) fun _ _ _ _ _ _ us hl=>(by obtain⟨y0,rfl⟩:=len1 hl;rfl)
 have II:=jG_ X G a_j1
 have A7:=Bj (st:=AH) l_j3 c_j3 k_j3
 have Ck:=A7.binds (ps:=["house", "word"]) fun _ _ _ _ _ _ us hl=>(by obtain⟨y0,y1,rfl⟩:=len2 hl;rfl)
 have Cl:=jG_ X G a_j3
 have Dj:=Bj (st:=B4) l_jf c_jf k_jf
 have Fr:=Dj.binds (ps:=["words", "marks_behind", "room"]) fun _ _ _ _ _ _ us hl=>(by obtain⟨y0,y1,y2,rfl⟩:=len3 hl;rfl)
 have Fs:=jG_ X G a_jf
 have A8:=Bj (st:=AI) l_j4 c_j4 k_j4
 have Cn:=A8.binds (ps:=["house"]) fun _ _ _ _ _ _ us hl=>(by obtain⟨y0,rfl⟩:=len1 hl;rfl)
 have Co:=jG_ X G a_j4
 have BZ:=Bj (st:=BV) l_ji c_ji k_ji
 have C8:=BZ.binds (ps:=["base", "more", "ends"]) fun _ _ _ _ _ _ us hl=>(by obtain⟨y0,y1,y2,rfl⟩:=len3 hl;rfl)
 have C9:=jG_ X G a_ji
 have Hu:=Bj (st:=Hg) l_jx c_jx k_jx
 have KR:=Hu.binds (ps:=["house", "more"]) fun _ _ _ _ _ _ us hl=>(by obtain⟨y0,y1,rfl⟩:=len2 hl;rfl)
 have KS:=jG_ X G a_jx
 have KW:=Bj (st:=Ks) l_jy c_jy k_jy
 have O9:=KW.binds (ps:=["house", "more"]) fun _ _ _ _ _ _ us hl=>(by obtain⟨y0,y1,rfl⟩:=len2 hl;rfl)
 have Pa:=jG_ X G a_jy
 have Ao:=Bj (st:=AZ) l_ja c_ja k_ja
 have Aq:=Ao.binds (ps:=["script", "k"]) fun _ _ _ _ _ _ us hl=>(by obtain⟨y0,y1,rfl⟩:=len2 hl;rfl)
 have Ar:=jG_ X G a_ja
 have AV:=Bj (st:=BD) l_jj c_jj k_jj
 have A5:=AV.binds (ps:=["number", "k", "many"]) fun _ _ _ _ _ _ us hl=>(by obtain⟨y0,y1,y2,rfl⟩:=len3 hl;rfl)
 have A6:=jG_ X G a_jj
 have CB:=Bj (st:=Bq) l_j7 c_j7 k_j7
 have El:=CB.binds (ps:=["number", "rooms"]) fun _ _ _ _ _ _ us hl=>(by obtain⟨y0,y1,rfl⟩:=len2 hl;rfl)
 have Em:=jG_ X G a_j7
 have CK:=Bj (st:=BG) l_jb c_jb k_jb
 have EK:=CK.binds (ps:=["script", "letters", "rooms"]) fun _ _ _ _ _ _ us hl=>(by obtain⟨y0,y1,y2,rfl⟩:=len3 hl;rfl)
 have EL:=jG_ X G a_jb
 have B0:=Bj (st:=BX) l_jk c_jk k_jk
 have Db:=B0.binds (ps:=["house", "number", "rooms"]) fun _ _ _ _ _ _ us hl=>(by obtain⟨y0,y1,y2,rfl⟩:=len3 hl;rfl)
 have Dc:=jG_ X G a_jk
 have CD:=Bj (st:=Br) l_j8 c_j8 k_j8
 have Eu:=CD.binds (ps:=["script"]) fun _ _ _ _ _ _ us hl=>(by obtain⟨y0,rfl⟩:=len1 hl;rfl)
 have Ev:=jG_ X G a_j8
 have CM:=Bj (st:=BH) l_jc c_jc k_jc
 have ER:=CM.binds (ps:=["script", "house"]) fun _ _ _ _ _ _ us hl=>(by obtain⟨y0,y1,rfl⟩:=len2 hl;rfl)
 have ES:=jG_ X G a_jc
 have Cf:=Bj (st:=Bk) l_j6 c_j6 k_j6
 have DQ:=Cf.binds (ps:=["house", "number"]) fun _ _ _ _ _ _ us hl=>(by obtain⟨y0,y1,rfl⟩:=len2 hl;rfl)
 have DR:=jG_ X G a_j6
 have CC:=Bj (st:=Bs) l_j9 c_j9 k_j9
 have Ep:=CC.binds (ps:=["house"]) fun _ _ _ _ _ _ us hl=>(by obtain⟨y0,rfl⟩:=len1 hl;rfl)
 have Er:=jG_ X G a_j9
 have CL:=Bj (st:=BI) l_jd c_jd k_jd
 have EN:=CL.binds (ps:=["house"]) fun _ _ _ _ _ _ us hl=>(by obtain⟨y0,rfl⟩:=len1 hl;rfl)
 have EO:=jG_ X G a_jd
 have Ex:=Bj (st:=CQ) l_jm c_jm k_jm
 have Hw:=Ex.binds (ps:=["house"]) fun _ _ _ _ _ _ us hl=>(by obtain⟨y0,rfl⟩:=len1 hl;rfl)
 have Hx:=jG_ X G a_jm
 have Bj_:=Bj (st:=Nd) l_jz c_jz k_jz
 have BB_:=Bj_.binds (ps:=["script"]) fun _ _ _ _ _ _ us hl=>(by obtain⟨y0,rfl⟩:=len1 hl;rfl)
 have BC_:=jG_ X G a_jz
 have ti_in_order:=Wn a_j1 l_j1 rfl lc_in_order hx_in_order
 refine⟨fnOf "law" "law" (AD Nd) (Ay Nd) (Af Nd) .none Ye Yf Yg Yd Vx Yh,cA_in_order,PA_in_order,ti_in_order,kt_in_order,PySem.W.codeHd_of_K X ch_in_order,tb_in_order,fun s v=>.of_eq rfl,fun base _ _ hC_ hB_=>?_⟩
 have FL_in_order:=Ze (st:=CY) ti_in_order l_j1 c_j1 hC_ hB_
 have Kx:=SK (P:=l.prog) (w:=w) (base:=base) Gg T Z
 have C3:=Ng (P:=l.prog) (w:=w) (base:=base) BY T Z Kx Gg Ky Kz
 have Hk:=OX (P:=l.prog) (w:=w) (base:=base) Eh T Z C3 BY C4 C5
 have IC:=Qp (P:=l.prog) (w:=w) (base:=base) E4 T Z Hk Eh Hl Hm
 have Qq:=Wp (P:=l.prog) (w:=w) (base:=base) KA T Z C3 BY C4 C5
 have Fk:=LK (P:=l.prog) (w:=w) (base:=base) Di T Z Qq KA Qr Qs
 have DY:=Qt (P:=l.prog) (w:=w) (base:=base) C6 T Z
 have KF:=SL (P:=l.prog) (w:=w) (base:=base) Go T Z DY C6 DZ D0
 have E1:=SM (P:=l.prog) (w:=w) (base:=base) DF T Z DY C6 DZ D0
 have GE:=Qu (P:=l.prog) (w:=w) (base:=base) D7 T Z
 have A9:=GL (P:=l.prog) (w:=w) (base:=base) AQ T Z GE D7 GF GG
 have E5:=SN (P:=l.prog) (w:=w) (base:=base) DH T Z A9 AQ Ba Bb
 have Gj:=Nk (P:=l.prog) (w:=w) (base:=base) DG T Z A9 AQ Ba Bb
 have Qv:=Wr (P:=l.prog) (w:=w) (base:=base) KC T Z E1 DF E2 E3 Gj DG Gk Gm
 have IJ:=Ws (P:=l.prog) (w:=w) (base:=base) Gp T Z E1 DF E2 E3 Qv KC Qw Qx
 have IG:=Qy (P:=l.prog) (w:=w) (base:=base) FL_in_order T Z
 have Cj:=Fo (P:=l.prog) (w:=w) (base:=base) A7 T Z
 have Fq:=LL (P:=l.prog) (w:=w) (base:=base) Dj T Z
 have Cm:=Fp (P:=l.prog) (w:=w) (base:=base) A8 T Z E5 DH E6 E7 Cj A7 Ck Cl Fq Dj Fr Fs
 have C7:=Np (P:=l.prog) (w:=w) (base:=base) BZ T Z IC E4 ID IE Fk Di Fl Fm KF Go KG KH IG GH IH II
 have KQ:=Wt (P:=l.prog) (w:=w) (base:=base) Hu T Z E5 DH E6 E7 IJ Gp IK IL C7 BZ C8 C9
 have O8:=Zh (P:=l.prog) (w:=w) (base:=base) KW T Z IJ Gp IK IL Cm A8 Cn Co C7 BZ C8 C9
 have Ap:=KJ (P:=l.prog) (w:=w) (base:=base) Ao T Z
 have A4:=Nr (P:=l.prog) (w:=w) (base:=base) AV T Z
 have Ek:=Jo (P:=l.prog) (w:=w) (base:=base) CB T Z A4 AV A5 A6
 have EJ:=KL (P:=l.prog) (w:=w) (base:=base) CK T Z Ap Ao Aq Ar A4 AV A5 A6
 have Da:=Nu (P:=l.prog) (w:=w) (base:=base) B0 T Z A4 AV A5 A6
 have Et:=Jp (P:=l.prog) (w:=w) (base:=base) CD T Z Ap Ao Aq Ar Ek CB El Em EJ CK EK EL Da B0 Db Dc
 have EQ:=KN (P:=l.prog) (w:=w) (base:=base) CM T Z Ap Ao Aq Ar
 have DP:=IM (P:=l.prog) (w:=w) (base:=base) Cf T Z
 have Eo:=Jq (P:=l.prog) (w:=w) (base:=base) CC T Z
 have EM:=KP (P:=l.prog) (w:=w) (base:=base) CL T Z
 have Hv:=O6 (P:=l.prog) (w:=w) (base:=base) Ex T Z Eo CC Ep Er EM CL EN EO
 have BA_:=Bf_ (P:=l.prog) (w:=w) (base:=base) Bj_ T Z KQ Hu KR KS O8 KW O9 Pa Ap Ao Aq Ar Da B0 Db Dc Et CD Eu Ev EQ CM ER ES DP Cf DQ DR Hv Ex Hw Hx
 exact BA_
theorem walk {l:PySem.W.OpenLaw}{q:Program}{loose:List Str}{XP:(Str->α5)->Heap->Prop}{YP:World->Heap->Prop}{d:DefRec}{K:Params->α3}(hn:l.most=some 63)(hdf:d.params.defaults=[])
  (hY:∀ (w:World) (h:Heap),YP w h->(K w.params).In h)
  (F:∀ (w:World) (mg:Str->α5) (fa:Addr) (h:Heap),YP w h->(K w.params).In h->h.Ns mainGlobals mg->mg d.name=some (.ref fa) ->
   ∃ (fd:α6) (c T:Addr),PySem.W.tabIn (K w.params) "in_order" = some (c,T)/\(K w.params).lookup T=none/\PySem.W.CodeHd h c T/\h.get? T=some (PySem.W.tabObj #[])/\(∀ (s:Shared) (u:Value),BindsTo s fd ⟨[u],[]⟩ [("script",u)])/\∀ base:Heap,(K w.params).In base->base.Ns mainGlobals mg->PySem.W.CodeHd base c T->BmOk mg base->FnOk l.prog w (K w.params) mg base CX0 7 fa fd ["script"] (Wx (K w.params))) :
  PySem.W.WalkO q loose XP YP l.row.toRowW d [] (fun f vs=>PySem.call f vs) :=
 L2.walk_ofT (xT := "in_order") (n:=63) (k:=7) (x := "script") (CX:=fun _=>CX0) (sp:=fun w=>Wx (K w.params)) hn (by decide) hdf ⟨rfl,by decide,by decide⟩ hY F (fun _ _ a _ _ ns hl ti hT hS=>⟨a,ns,rfl,hS,hl,by rw[Ve ti];exact hT,fun _=>rfl⟩) fun _ _ _ _ _ z=>z
end Mine
namespace PySem.W.Fast
def tw11832692254154111246:=0
def tw10821363123368268495:=0
def tw4798976121724101535:=0
def tw11104998353435763448:=0
def tw4563339626060843036:=0
def tw3732563751665674501:=0
def tw5296801301025921447:=0
def tw7847222306075743674:=0
def tw7100658434748697807:=0
def tw17788370418555073567:=0
def tw9989414921894379563:=0
def tw13206863417039008419:=0
def tw12391450466062237484:=0
def tw7288611055373499754:=0
def tw6449448800123813132:=0
def tw3246333473324301098:=0
def tw17446843607617937942:=0
def tw1583034569135012133:=0
def tw5689306355497287518:=0
def tw12622957350519106003:=0
def tw1914621672365190028:=0
def tw5456580297797053064:=0
def tw11775777458134966823:=0
def tw7891515103409409876:=0
def tw5617390564746047969:=0
def tw1408323564524320098:=0
def tw18115065919213235250:=0
def tw5342714057141280260:=0
def tw8204707668227123693:=0
def tw4510193514032641534:=0
def tw2201821829850830017:=0
def tw17037081587173489914:=0
def tw18252601302117847638:=0
def tw17904330753434432430:=0
def tw9992359017244831208:=0
def tw7356458063084427775:=0
def tw5605405070676905751:=0
def tw17721738055299945720:=0
def tw17237348967831453178:=0
def tw4128000784316799090:=0
def tw13301507057499491787:=0
def tw1029132357126844484:=0
def tw12475167167289227471:=0
def tw15737625670294905941:=0
def tw14189728426581879579:=0
def tw4090918463006964012:=0
def tw14932338595091957581:=0
def tw13033844635473145862:=0
def tw14070146058095949399:=0
def tw14507620200407609259:=0
def tw2685655378340897822:=0
def tw5765500513520695160:=0
def tw5016378426853366904:=0
def tw6014374161693756796:=0
def tw5024711166381222203:=0
def tw16232140858900301979:=0
def tw9562522042039132708:=0
def tw8434803375406020874:=0
def tw10546081431619631917:=0
def tw16975328013271211632:=0
def tw10882700518159973524:=0
def tw4004533246785487029:=0
def tw4546032979698114744:=0
def tw12842110647628775192:=0
def tw13081769487688081467:=0
def tw13138196488987336002:=0
def tw1285069500090179780:=0
def tw6293302015434110491:=0
def tw10176056883133678503:=0
def tw12032051968256843185:=0
def tw17724782125724539085:=0
def tw8250557214527945866:=0
def tw391532070144100190:=0
def tw1827588372902307328:=0
def tw16090308889716182270:=0
def tw13172563078955304271:=0
def tw6709830897382492345:=0
def tw5684458865933885102:=0
def tw7469241960564370067:=0
def tw13263787381395235187:=0
def tw7557036374403057589:=0
def tw12205859331904833229:=0
def tw1238003549924876632:=0
def tw11655924913292020183:=0
def tw15209624096292684634:=0
def tw1405284136005767306:=0
def tw10199122400428570515:=0
def tw9806343954227815473:=0
def tw7091054228319052769:=0
def tw6086107081096983771:=0
def tw10637274653122017874:=0
def tw49190613553367471:=0
def tw9502688363500378898:=0
def tw13086684046967507217:=0
def tw3515462283989778904:=0
def tw10378982452588732610:=0
def tw17579424208105944011:=0
def tw7587451987259038208:=0
def tw4058424811758213135:=0
def tw14539336101829931284:=0
def tw7205096319301824817:=0
def tw15205976004085362299:=0
def tw2413119953839904388:=0
def tw14814283767192550644:=0
def tw4137272031084368820:=0
def tw16854164019349561056:=0
def tw18035894149777018114:=0
def tw7145855903002537772:=0
def tw8387607196355965041:=0
def tw16235879213812971337:=0
def tw11901179232485330419:=0
def tw4500289393267729469:=0
def tw2535355053174500232:=0
def tw15849354203332795379:=0
def tw2075302273211584196:=0
def tw8241858430624928969:=0
def tw8323385065228339370:=0
def tw8069406519943420126:=0
def tw11440097250451306685:=0
def tw4266153617585599427:=0
def tw17667634828017874820:=0
def tw9230371317026493392:=0
def tw12412077680420482966:=0
def tw8197889445114381271:=0
def tw2301190943268689403:=0
def tw17681863695966956301:=0
def tw3492577594167921058:=0
def tw220787806901908941:=0
def tw15390442272681499545:=0
def tw224774509725534626:=0
def tw2053999623992789199:=0
def tw1320592077490963327:=0
def tw14133866844556117879:=0
def tw1067976611221226800:=0
def tw17714152714542777707:=0
def tw7162354008647552428:=0
def tw15348266042966329925:=0
def tw3200620783629483227:=0
def tw18275041044624335787:=0
def tw14883195108322940958:=0
def tw3323826863576767881:=0
def tw9248223760867284645:=0
def tw18058617145633854557:=0
def tw2386392534315921873:=0
def tw1231417903922880189:=0
def tw4743321214786230952:=0
def tw7580550652841753378:=0
def tw1267476111038647861:=0
def tw6893287493401228647:=0
def tw18288782731693907306:=0
def tw4154384586908580560:=0
def tw3612173271133033967:=0
def tw8062525368992630919:=0
def tw11027239867494763899:=0
def tw2053247773578327576:=0
def tw1330436214605464127:=0
def tw12812461941804390928:=0
def tw10383057550281374832:=0
def tw12392498952153422890:=0
def tw1859122405879781866:=0
def tw15537580770478148709:=0
def tw10946114531431725531:=0
def tw18429703321745676121:=0
def tw10526573395998910953:=0
def tw17758092008388318372:=0
def tw9374045387528294288:=0
def tw9818019643935207443:=0
def tw10787987271398979551:=0
def tw14335206763852234396:=0
def tw1384447172664178076:=0
def tw7320932625040772014:=0
def tw13884309035022640069:=0
def tw13152058856523118232:=0
def tw15962466511861619531:=0
def tw1003337400522012553:=0
def tw4626010204895253396:=0
def tw9716692856132466738:=0
def tw5101760826422321936:=0
def tw1070879810678767842:=0
def tw9163071071056071792:=0
def tw4027326689636840490:=0
def tw3278896000243113326:=0
def tw1468080555307932961:=0
def tw8088689576617067978:=0
def tw10963414818554328719:=0
def tw13854059521538942136:=0
def tw2059515449429569642:=0
def tw1412169285492045055:=0
def tw7916252074189747987:=0
def tw6249223142605342013:=0
def tw663800670114808115:=0
def tw12023727229230027944:=0
def tw7467376362521027652:=0
def tw16339233294079478903:=0
def tw2923505958170954345:=0
def tw9154204308347042645:=0
def tw8640009436760513757:=0
def tw8301748863928493246:=0
def tw18281258357997291137:=0
def tw4437783237061379389:=0
def tw2991874682033397940:=0
def tw11514448134391656890:=0
def tw14037910079086051140:=0
def tw12543309728256910409:=0
def tw14623854416837853139:=0
def tw8142513053439687081:=0
def tw2625400884186919945:=0
def tw5737099373127285615:=0
def tw10455383402842212616:=0
def tw10778850561601526002:=0
def tw4358010894990919658:=0
def tw9809904979820276516:=0
def tw9960638166137617882:=0
def tw16351463720670339112:=0
def tw11419103261449135595:=0
def tw2904333656817442393:=0
def tw17397022494609316394:=0
def tw839319538470612292:=0
def tw8186335844075045133:=0
def tw1078660111618840470:=0
def tw12654093304036623067:=0
def tw2356874596819183215:=0
def tw8640194535109036754:=0
def tw6404076325729982356:=0
def tw14326556182381030109:=0
def tw4336172405787851249:=0
def tw15011963886543244933:=0
def tw16473805653702822513:=0
def tw7380025447580219402:=0
def tw7919865998326334713:=0
def tw2456931989391182850:=0
def tw14318340230286611334:=0
def tw6478325091490996369:=0
def tw5393895104465554464:=0
def tw13526381921689135068:=0
def tw4696697406275404870:=0
def tw377951539962033081:=0
def tw9846895502927554200:=0
def tw14126231819050898953:=0
def tw187196294916052227:=0
def tw357370340648048031:=0
def tw9836023133625188030:=0
def tw14522728109204262102:=0
def tw4564682744704092297:=0
def tw2880720465334400707:=0
def tw16164274623415663771:=0
def tw12788840379954032967:=0
def tw5003461418564399370:=0
def tw12965750274187386377:=0
def tw4175507186768012199:=0
def tw15126925175622087940:=0
def tw1124633790785559721:=0
def tw1566948358615637187:=0
def tw18433145330214242546:=0
def tw16977497085676113867:=0
def tw15494322995955292158:=0
def tw12510296700537208327:=0
def tw15361893948792081316:=0
def tw13768850580428316977:=0
def tw10339449569047773854:=0
def tw12136498077568664553:=0
def tw6833988065259158815:=0
def tw15578478652244210810:=0
def tw12975633531107517012:=0
def tw2237474467922972970:=0
def tw9175585741961944071:=0
def tw14134222453980147675:=0
def tw7946336919977949010:=0
def tw6755744619627980565:=0
end PySem.W.Fast
open PySem PySem.W PyProof.Rows
set_option maxRecDepth 100000 in
set_option maxHeartbeats 0 in
theorem PySem.Challenge.cw_guessroom_k31_suites_of_alike_houses_holds : PySem.Challenge.rw_guessroom_k31_suites_of_alike_houses.Holds := by
  w_on; o_law; k_head; (case hw => w_witness2)
  k_fill
  refine Mine.walk (l := PySem.Challenge.rw_guessroom_k31_suites_of_alike_houses) rfl rfl (fun w h Y => PySem.W.km_in_of Y) ?F
  case F =>
    intro w mg fa h Y KX G hmg
    refine' Mine.all_mk KX G hmg ?a_jq ?l_jq ?c_jq ?k_jq ?a_jg ?l_jg ?c_jg ?k_jg ?a_jl ?l_jl ?c_jl ?k_jl ?a_jn ?l_jn ?c_jn ?k_jn ?a_ju ?l_ju ?c_ju ?k_ju ?a_je ?l_je ?c_je ?k_je ?a_jo ?l_jo ?c_jo ?k_jo ?a_jr ?l_jr ?c_jr ?k_jr ?a_js ?l_js ?c_js ?k_js ?a_jp ?l_jp ?c_jp ?k_jp ?a_j5 ?l_j5 ?c_j5 ?k_j5 ?a_jt ?l_jt ?c_jt ?k_jt ?a_jh ?l_jh ?c_jh ?k_jh ?a_jv ?l_jv ?c_jv ?k_jv ?a_jw ?l_jw ?c_jw ?k_jw ?a_j1 ?l_j1 ?lc_in_order ?hx_in_order ?kt_in_order ?ch_in_order ?tb_in_order ?c_j1 ?k_j1 ?a_j3 ?l_j3 ?c_j3 ?k_j3 ?a_jf ?l_jf ?c_jf ?k_jf ?a_j4 ?l_j4 ?c_j4 ?k_j4 ?a_ji ?l_ji ?c_ji ?k_ji ?a_jx ?l_jx ?c_jx ?k_jx ?a_jy ?l_jy ?c_jy ?k_jy ?a_ja ?l_ja ?c_ja ?k_ja ?a_jj ?l_jj ?c_jj ?k_jj ?a_j7 ?l_j7 ?c_j7 ?k_j7 ?a_jb ?l_jb ?c_jb ?k_jb ?a_jk ?l_jk ?c_jk ?k_jk ?a_j8 ?l_j8 ?c_j8 ?k_j8 ?a_jc ?l_jc ?c_jc ?k_jc ?a_j6 ?l_j6 ?c_j6 ?k_j6 ?a_j9 ?l_j9 ?c_j9 ?k_j9 ?a_jd ?l_jd ?c_jd ?k_jd ?a_jm ?l_jm ?c_jm ?k_jm ?a_jz ?l_jz ?c_jz ?k_jz ?z_all ?z_enumerate ?z_len ?z_list ?z_max ?z_min ?z_range ?z_sorted ?z_tuple ?z_zip ?m_j2 ?m_j0 ?x_j0 ?ga_j0 ?hk_j0 ?cl_j0 ?ca_j0 ?mo_j0 ?mb_j0 ?e_j0 ?v_j0 ?k_j0_j2 ?k_j0_j0 ?gs ?tk
    (case a_jq|l_jq|c_jq|k_jq|a_jg|l_jg|c_jg|k_jg|a_jl|l_jl|c_jl|k_jl|a_jn|l_jn|c_jn|k_jn|a_ju|l_ju|c_ju|k_ju|a_je|l_je|c_je|k_je|a_jo|l_jo|c_jo|k_jo|a_jr|l_jr|c_jr|k_jr|a_js|l_js|c_js|k_js|a_jp|l_jp|c_jp|k_jp=>k_is)
    (case a_j5|l_j5|c_j5|k_j5|a_jt|l_jt|c_jt|k_jt|a_jh|l_jh|c_jh|k_jh|a_jv|l_jv|c_jv|k_jv|a_jw|l_jw|c_jw|k_jw|a_j1|l_j1|lc_in_order|c_j1|k_j1|a_j3|l_j3|c_j3|k_j3|a_jf|l_jf|c_jf|k_jf|a_j4|l_j4|c_j4|k_j4|a_ji|l_ji|c_ji=>k_is)
    (case k_ji|a_jx|l_jx|c_jx|k_jx|a_jy|l_jy|c_jy|k_jy|a_ja|l_ja|c_ja|k_ja|a_jj|l_jj|c_jj|k_jj|a_j7|l_j7|c_j7|k_j7|a_jb|l_jb|c_jb|k_jb|a_jk|l_jk|c_jk|k_jk|a_j8|l_j8|c_j8|k_j8|a_jc|l_jc|c_jc|k_jc|a_j6|l_j6|c_j6=>k_is)
    (case k_j6|a_j9|l_j9|c_j9|k_j9|a_jd|l_jd|c_jd|k_jd|a_jm|l_jm|c_jm|k_jm|a_jz|l_jz|c_jz|k_jz|z_all|z_enumerate|z_len|z_list|z_max|z_min|z_range|z_sorted|z_tuple|z_zip|m_j2|m_j0=>k_is)
    (case x_j0=>k_exc)
    (case ga_j0|hk_j0|cl_j0|ca_j0|mo_j0|mb_j0=>k_is)
    (case e_j0=>kts_exm)
    (case v_j0|k_j0_j2|k_j0_j0=>kit_is)
    (case gs|tk=>k_is)
    (case hx_in_order => exact rfl)
    (case kt_in_order => first | k_is | kernel_rfl | exact rfl)
    (case ch_in_order => first | k_is | kernel_rfl)
    (case tb_in_order => exact PySem.W.km_tabs_of Y _ (.head _))
