import PyProof.Rows.All
import Wide.All
import OpenK.AllK
import Wide.FinOn
import Lean
import PyProof.EqAt
import PyProof.EqKinds
import PyProof.TupleCall
import PySem.Challenge.RW_powerrests_k80_stays_again_shared
set_option Elab.async false
set_option linter.all false
set_option maxRecDepth 100000
local macro_rules | `(tactic| lia) => `(tactic| first | with_reducible assumption | (refine Int.le_trans ?_ (by with_reducible assumption); decide +kernel) | (refine Int.lt_of_lt_of_le ?_ (by with_reducible assumption); decide +kernel) | (refine Int.le_trans (by with_reducible assumption) ?_; decide +kernel) | (refine Int.lt_of_le_of_lt (by with_reducible assumption) ?_; decide +kernel) | (refine Int.lt_trans (by with_reducible assumption) ?_; decide +kernel) | exact Int.le_of_lt (by with_reducible assumption) | (refine Int.lt_trans ?_ (by with_reducible assumption); decide +kernel) | (refine Int.lt_of_lt_of_le ?_ (Int.le_of_lt (by with_reducible assumption)); decide +kernel) | (refine Nat.le_trans (by with_reducible assumption) ?_; decide +kernel) | (refine Nat.lt_of_le_of_lt (by with_reducible assumption) ?_; decide +kernel) | (refine Nat.lt_of_lt_of_le ?_ (by with_reducible assumption); decide +kernel) | exact Nat.le_trans (Nat.le_add_left _ _) (by with_reducible assumption) | exact Nat.le_trans (Nat.le_add_right _ _) (by with_reducible assumption) | exact Nat.succ_le_of_lt (by with_reducible assumption) | exact Nat.le_of_lt_succ (by with_reducible assumption) | exact Nat.le_of_succ_le (by with_reducible assumption) | exact Nat.lt_of_succ_lt_succ (by with_reducible assumption) | exact Nat.le_of_lt (by with_reducible assumption) | exact Nat.le_of_eq (by with_reducible assumption) | (refine Int.le_trans ?_ (Int.add_le_add_right (by with_reducible assumption) _); decide +kernel) | (refine Int.lt_of_lt_of_le ?_ (Int.add_le_add_right (by with_reducible assumption) _); decide +kernel) | (refine Int.le_trans (Int.add_le_add_right (by with_reducible assumption) _) ?_; decide +kernel) | (refine Int.lt_of_le_of_lt (Int.add_le_add_right (by with_reducible assumption) _) ?_; decide +kernel) | (refine Int.le_trans ?_ (Int.add_le_add_left (by with_reducible assumption) _); decide +kernel) | (refine Int.lt_of_lt_of_le ?_ (Int.add_le_add_left (by with_reducible assumption) _); decide +kernel) | (refine Nat.le_trans (Nat.add_le_add_right (by with_reducible assumption) _) ?_; decide +kernel) | (refine Nat.lt_of_le_of_lt (Nat.add_le_add_right (by with_reducible assumption) _) ?_; decide +kernel) | (refine Nat.le_trans (Nat.le_of_eq (by with_reducible assumption)) (Nat.le_trans (by with_reducible assumption) ?_); decide +kernel) | exact Nat.lt_of_lt_of_eq (by with_reducible assumption) (by with_reducible assumption) | exact Nat.lt_of_lt_of_eq (by with_reducible assumption) (Eq.symm (by with_reducible assumption)) | exact Nat.lt_of_lt_of_le (by with_reducible assumption) (by with_reducible assumption) | exact Nat.le_trans (Nat.le_of_eq (Eq.symm (by with_reducible assumption))) (by with_reducible assumption) | exact Nat.le_trans (Nat.le_of_eq (by with_reducible assumption)) (by with_reducible assumption) | exact Nat.add_comm _ _ | exact Int.natCast_add _ _ | omega)
local macro_rules | `(⋯) => `(by lia)
open PySem PySem.Spec PyProof.Rows
def afB:=@wpAny_bind
def afC:=@if_neg
def afD:=@if_pos
def afE:=@Nat.le_refl
def afF:=@wpAny_pure
def afG:=@List.length_map
def afH:=@Heap.lt_size
def afI:=@decide_eq_true
def afJ:=@decide_eq_false
def afK:=@Nat.le_trans
def afL:=@Heap.get?_push_of_some
def afM:=@Bool.and_eq_true
def afN:=@List.size_toArray
def afO:=@List.getD_eq_getElem?_getD
def afP:=@List.mem_cons
def afQ:=@List.getElem?_eq_getElem
def afR:=@List.all_eq_true
def afS:=@of_decide_eq_true
def afT:=@Bool.false_ne_true
def afU:=@List.mem_range
def afV:=@wpAny_mono
def afW:=@sizeLine_eq
def afX:=@List.length_cons
def afY:=@Nat.zero_le
def afZ:=@List.length_append
def af0:=@Nat.lt_of_lt_of_le
def af1:=@List.getElem?_map
def af2:=@List.mem_singleton
def af3:=@Heap.get?_push_size
def af4:=@Nat.ne_of_lt
def af5:=@List.mem_cons_of_mem
def af6:=@List.mem_cons_self
def af7:=@List.mem_append_right
def af8:=@List.map_cons
def af9:=@List.map_append
def af_:=@Ne.symm
def aga:=@Int.emod_lt_of_pos
def agb:=@Int.emod_nonneg
def agc:=@List.append_nil
def agd:=@List.mem_map
def age:=@Nat.zero_add
def agf:=@List.getElem?_eq_some_iff
def agg:=@List.not_mem_nil
def agh:=@or_false
def agi:=@wpAny_field
def agj:=@List.length_range
def agk:=@PassesOwn.never
def agl:=@Nat.lt_irrefl
def agm:=@PySem.W.kia_one
def agn:=@List.mem_append
def ago:=@Int.toNat_natCast
def agp:=@List.contains_iff_mem
def agq:=@Option.some.inj
def agr:=@wpAny_newObj_type
def ags:=@wpAny_standAt
def agt:=@List.map_nil
def agu:=@not_mem_of_deeper
def agv:=@dictText_mem_le
def agw:=@PyData.depthAll_keys_le
def agx:=@PyData.depthAll_vals_le
def agy:=@call_repr_slot
def agz:=@Int.le_refl
def agA:=@List.mem_append_left
def agB:=@wpAny_holding
def agC:=@beq_iff_eq
def agD:=@List.mem_of_getElem?
def agE:=@List.replicate_succ
def agF:=@call_meets
def agG:=@PyData.shownKv_eq
def agH:=@Int.pow_succ
def agI:=@wpAny_of_eq
def agJ:=@List.drop_eq_getElem_cons
def agK:=@List.getElem?_range
def agL:=@List.getElem?_eq_none
def agM:=@List.take_length
def agN:=@List.map_map
def agO:=@Bool.eq_iff_iff
def agP:=@wpAny_Call_Name_kw
def agQ:=@wpAny_call_entry
def agR:=@Heap.get?_update_other
def agS:=@typeIs_int
def agT:=@Obj.data_mapFields
def agU:=@decide_eq_true_eq
def agV:=@beq_eq_false_iff_ne
def agW:=@PyProof.Rows.callWith_type1
def agX:=@List.length_replicate
def agY:=@List.any_cons
def agZ:=@List.nil_append
def ag0:=@Clear.nil
def ag1:=@List.getElem_mem
def ag2:=@wpAny_setField
def ag3:=@Bool.or_eq_true
def ag4:=@List.map_congr_left
def ag5:=@wpAny_loadPart_at
def ag6:=@wpAny_truthy_bool
def ag7:=@IsTup.new
def ag8:=@wpAny_passesOwn
def ag9:=@Heap.get?_update_self
def ag_:=@List.all_cons
def aha:=@List.flatten_cons
def ahb:=@Heap.size_push
def ahc:=@List.drop_length
def ahd:=@Option.map_eq_some_iff
def ahe:=@Nat.not_lt_zero
def ahf:=@PySem.W.Looks.here
def ahg:=@Int.zero_add
def ahh:=@Int.add_zero
def ahi:=@PassesOwn.leaving
def ahj:=@wpAny_rule
def ahk:=@wpAny_call
def ahl:=@codeAny_mono
def ahm:=@List.length_take
def ahn:=@PySem.F.entry_tuple_add
def aho:=@PySem.F.args_tuple_add_2
def ahp:=@wpAny_callSpecial?_slot
def ahq:=@PyProof.Rows.slot_tuple_getitem
def ahr:=@List.append_assoc
def ahs:=@Nat.lt_of_le_of_lt
def aht:=@PyData.shownKv_key_le
def ahu:=@PyData.shownKv_val_le
def ahv:=@ReprEntriesK.of_two
def ahw:=@Int.lt_or_le
def ahx:=@Nat.sub_zero
def ahy:=@List.take_of_length_le
def ahz:=@Nat.le_succ
def ahA:=@Heap.SameBut.update
def ahB:=@List.find?_cons
def ahC:=@List.range_succ
def ahD:=@Nat.le_of_lt
def ahE:=@wpAny_execs_nil
def ahF:=@Nat.ne_of_gt
def ahG:=@Bool.false_and
def ahH:=@Int.mul_one
def ahI:=@List.nodup_cons
def ahJ:=@Option.isSome_iff_exists
def ahK:=@PySem.mem_of_lookup
def ahL:=@eq_of_beq
def ahM:=@Int.natAbs_natCast
def ahN:=@Int.mul_comm
def ahO:=@Int.mul_pos
def ahP:=@List.drop_zero
def ahQ:=@Nat.sub_self
def ahR:=@List.getElem_range
def ahS:=@Obj.isFreed_of_fields
def ahT:=@F.slot_tuple_mul
def ahU:=@typeLookup_type
def ahV:=@builtinLookup_eq_fast
def ahW:=@isSubtype_type
def ahX:=@wpAny_attempt
def ahY:=@Array.getElem?_eq_some_iff
def ahZ:=@Int.emod_eq_of_lt
def ah0:=@List.filter_append
def ah2:=@List.map_id
def ah3:=@PySem.F.plainAttrs_list
def ah4:=@Bool.true_and
def ah5:=@List.mem_filter
def ah6:=@List.mem_filterMap
def ah7:=@List.getElem?_set_self
def ah8:=@Array.length_toList
def ah9:=@IsRange.new
def ah_:=@noFill_tuple_add
def aia:=@seq_tuple_add
def aib:=@PySem.F.slot_tuple_add
def aic:=@Subscript_
def aid:=@F.slot_int_rmul
def aie:=@F.slot_int_repr
def aif:=@Nat.not_lt
def aih:=@ReadAtMost.cons
def aii:=@F.slot_list_repr
def aij:=@F.slot_dict_repr
def aik:=@call_dict_reprK
def ail:=@Int.natAbs_mul
def aim:=@Int.mul_fdiv_cancel
def ain:=@F.slot_tuple_iterator_next
def aio:=@Nat.lt_succ_of_lt
def aip:=@wpAny_ite_false
def aiq:=@wpAny_specialOf
def air:=@List.reverse_cons
def ais:=@List.drop_eq_nil_of_le
def ait:=@List.length_reverse
def aiu:=@Int.mul_emod
def aiv:=@Int.pow_zero
def aiw:=@bne_iff_ne
def aix:=@List.filter_cons_of_pos
def aiy:=@List.filter_cons_of_neg
def aiz:=@List.take_zero
def aiA:=@List.getElem?_cons_succ
def aiB:=@Int.not_lt
def aiC:=@List.all_map
def aiD:=@Int.ne_of_lt
def aiE:=@List.filterMap_cons
def aiF:=@List.getElem?_set_ne
def aiG:=@wpAny_assign_Name
def aiH:=@assignInOrder_cons
def aiI:=@wpAny_bindName
def aiJ:=@wpAny_pyIter_range
def aiK:=@PyProof.noPylong_small
def aiL:=@Array.mem_toList_iff
def aiM:=@PySem.W.kitx_list
def aiN:=@PySem.W.kitx_dict
def aiO:=@PySem.W.callWith_K
def aiP:=@List.of_mem_zip
def aiQ:=@List.length_drop
def aiR:=@slot_list_getitem
def aiS:=@listText_mem_le
def aiT:=@tupleText_mem_le
def aiU:=@Nat.min_le_left
def aiV:=@Int.eq_ofNat_of_zero_le
def aiW:=@Int.mul_ediv_cancel
def aiX:=@Int.mul_nonneg
def aiY:=@Nat.mul_div_cancel
def aiZ:=@Obj.cls_mapFields
def ai0:=@wpAny_pyIter_enum
def ai1:=@F.args_object_init_2
def ai2:=@AutoSeq1.idx_int
def ai3:=@AutoSeq1.sub_tuple_tuple
def ai4:=@F.entry_tuple_mul
def ai5:=@F.args_tuple_mul_2
def ai6:=@of_decide_eq_false
def ai7:=@Bool.and_false
def ai8:=@List.ext_getElem?
def ai9:=@List.length_pos_iff
def ai_:=@wpAny_loadPart
def aja:=@PySem.W.looks_clsIn
def ajb:=@wpAny_isSubtype_exc
def ajc:=@List.contains_cons
def ajd:=@Int.mul_le_mul
def aje:=@List.length_filter_le
def ajf:=@Nat.add_sub_cancel
def ajg:=@List.any_eq_true
def ajh:=@PySem.F.slot_list_append
def aji:=@PySem.F.type_list_append
def ajj:=@Classical.choose_spec
def ajk:=@Calls.Name_function_global
def ajl:=@Int.fdiv_eq_ediv_of_nonneg
def ajm:=@List.getElem?_append_right
def ajn:=@List.getElem?_append_left
def ajo:=@wpAny_getItem_list_slice
def ajp:=@wpAny_binaryOp_repeat_ref
def ajq:=@wpAny_comprehension_free
def ajr:=@F.entry_tuple_iterator_next
def ajs:=@F.args_tuple_iterator_next_1
def ajt:=@PySem.F.attrBase_ValueError
def aju:=@Array.all_eq_true_iff_forall_mem
abbrev ajv:=Value->Shared->Prop
abbrev ajw:=Unit->Shared->Prop
abbrev ajx:=List (Addr×Obj)
abbrev ajy:=Str->Option Value
abbrev ajz:=List PyData
abbrev ajA:=W.Frag
abbrev ajB:=Array (Option Value)
abbrev ajC:=List Value
abbrev ajD:=List Str
abbrev ajE:=List Expr
abbrev ajF:=Option Addr
abbrev ajG:=List Addr
abbrev ajH:=List Int
namespace L2
abbrev Key:=Sum Int Str
def qG:Key->Value->Bool
 | .inl k,v=>Value.isInt k v
 | .inr x,v=>Value.isStrOf x v
def aej (w:World):Key->Int
 | .inl k=>hashInt k
 | .inr x=>hashStr w x
theorem mL:∀{k:Key}{v:Value},qG k v=true->(∃i t,k=Sum.inl i/\v=Value.int i t)\/(∃x t,k=Sum.inr x/\v=Value.str x t)
 | .inl i,v,h=>by
  obtain ⟨t,e⟩:=Value.isInt_shape (k:=i) (v:=v) h
  exact .inl ⟨i,t,rfl,e⟩
 | .inr x,v,h=>by
  obtain ⟨t,e⟩:=Value.isStrOf_shape (x:=x) (v:=v) h
  exact .inr ⟨x,t,rfl,e⟩
theorem X4 (i:Int)(t:Tok):qG (.inl i) (.int i t)=true:=by simp[qG,Value.isInt]
theorem X3 (x:Str)(t:Tok):qG (.inr x) (.str x t)=true:=by simp[qG,Value.isStrOf]
theorem acH (a b:Int):decide ((Sum.inl a:Key)=Sum.inl b)=(a == b):=by
 by_cases e:a=b
 ·subst e;simp
 ·have h:¬(Sum.inl a:Key)=Sum.inl b:=fun q=>e (Sum.inl.inj q)
  rw[afJ h]
  exact (agV.mpr e).symm
theorem acE (a b:Str):decide ((Sum.inr a:Key)=Sum.inr b)=decide (a=b):=by
 by_cases e:a=b
 ·subst e;simp
 ·have h:¬(Sum.inr a:Key)=Sum.inr b:=fun q=>e (Sum.inr.inj q)
  rw[afJ h,afJ e]
theorem acG (a:Int)(b:Str):decide ((Sum.inl a:Key)=Sum.inr b)=false:=afJ (fun q=>nomatch q)
theorem acF (a:Str)(b:Int):decide ((Sum.inr a:Key)=Sum.inl b)=false:=afJ (fun q=>nomatch q)
def iy (prog:Program)(w:World):PySem.KeyKind prog w Key where
 is:=qG
 hash:=aej w
 inj:=fun v a b ha hb=>by
  rcases mL ha with ⟨i,t,rfl,rfl⟩|⟨x,t,rfl,rfl⟩
  ·rcases mL hb with ⟨j,u,rfl,e⟩|⟨y,u,rfl,e⟩
   ·injection e with ai _;rw[ai]
   ·exact nomatch e
  ·rcases mL hb with ⟨j,u,rfl,e⟩|⟨y,u,rfl,e⟩
   ·exact nomatch e
   ·injection e with ai _;rw[ai]
 byValue:=fun k v h=>by
  rcases mL h with ⟨i,t,rfl,rfl⟩|⟨x,t,rfl,rfl⟩<;>rfl
 pyHash:=fun hv h=>by
  rcases mL hv with ⟨i,t,rfl,rfl⟩|⟨x,t,rfl,rfl⟩
  ·exact wpAny_pyHash_int h
  ·exact wpAny_pyHash_str h
 eqBool:=fun hu hv h=>by
  rcases mL hu with ⟨i,t,rfl,rfl⟩|⟨x,t,rfl,rfl⟩
  ·rcases mL hv with ⟨j,u,rfl,rfl⟩|⟨y,u,rfl,rfl⟩
   ·rw[acH]at h;exact wpAny_eqBool_int h
   ·rw[acG]at h;exact SeqAt.EqAt.int_str i t y u _ _ _ _ h
  ·rcases mL hv with ⟨j,u,rfl,rfl⟩|⟨y,u,rfl,rfl⟩
   ·rw[acF]at h;exact SeqAt.EqAt.str_int x t j u _ _ _ _ h
   ·rw[acE]at h;exact wpAny_eqBool_str h
 «strs»:=fun k x t v h=>by
  rcases mL h with ⟨i,u,rfl,e⟩|⟨y,u,rfl,e⟩
  ·exact nomatch e
  ·injection e with ai _
   subst ai
   cases v<;>rfl
theorem W9 (prog:Program)(w:World)(i:Int)(t:Tok):(iy prog w).is (.inl i) (.int i t)=true:=X4 i t
theorem W8 (prog:Program)(w:World)(x:Str)(t:Tok):(iy prog w).is (.inr x) (.str x t)=true:=X3 x t
end L2
namespace L2
inductive V where
 | bz|aG (b:Bool)|int (i:Int)|str (x:Str)|kZ (b:Array UInt8)|pO (b:UInt64)|ref (a:Addr)|ty (n:String)
 deriving DecidableEq
variable {H:ah}{a:Addr}{o:dT}
def RelV:V->Value->Prop
 | .bz,u=>u=Value.none
 | .aG b,u=>u=Value.bool b
 | .int i,u=>∃t,u=Value.int i t
 | .str x,u=>∃t,u=Value.str x t
 | .kZ b,u=>∃t,u=Value.bytes b t
 | .pO b,u=>∃t,u=Value.float b t
 | .ref a,u=>u=Value.ref a
 | .ty n,u=>u=Value.type n
abbrev Vals:List V->List Value->Prop:=Paired RelV
theorem Vals.length {xs:List V}{us:ajC}(r:Vals xs us):xs.length=us.length:=Paired.length r
theorem Vals.get:∀{xs:List V}{us:ajC}{i:Nat}{x:V},Vals xs us->xs[i]?=some x->∃u,us[i]?=some u/\RelV x u
 | _,_,_,_,.nil,e=>by simp at e
 | _,_,0,_,.cons r _,e=>by simp at e;subst e;exact ⟨_,rfl,r⟩
 | _,_,i+1,x,.cons _ t,e=>by
  obtain ⟨u,h1,h2⟩:=Vals.get (i:=i) (x:=x) t (by simpa using e)
  exact ⟨u,by simpa using h1,h2⟩
theorem Vals.set {x:V}{u:Value}(r:RelV x u):∀{xs:List V}{us:ajC}(i:Nat),Vals xs us->Vals (xs.set i x) (us.set i u)
 | _,_,_,.nil=>.nil
 | _,_,0,.cons _ t=>.cons r t
 | _,_,i+1,.cons q t=>.cons q (Vals.set r i t)
theorem Vals.append:∀{xs ys:List V}{us ws:ajC},Vals xs us->Vals ys ws->Vals (xs++ys) (us++ws)
 | _,_,_,_,.nil,s=>s
 | _,_,_,_,.cons r t,s=>.cons r (Vals.append t s)
theorem Vals.take:∀{xs:List V}{us:ajC}(n:Nat),Vals xs us->Vals (xs.take n) (us.take n)
 | _,_,0,_=>.nil
 | _,_,_+1,.nil=>.nil
 | _,_,n+1,.cons r t=>.cons r (Vals.take n t)
theorem Vals.drop:∀{xs:List V}{us:ajC}(n:Nat),Vals xs us->Vals (xs.drop n) (us.drop n)
 | _,_,0,r=>r
 | _,_,_+1,.nil=>.nil
 | _,_,n+1,.cons _ t=>Vals.drop n t
def gS:Option V->Option Value->Prop
 | some v,some u=>RelV v u
 | none,none=>True
 | _,_=>False
def e5 {fe:Type}:List (fe×V)->List (fe×Value)->Prop:=Paired fun (p:fe×V) (q:fe×Value)=>p.1=q.1/\RelV p.2 q.2
def cQ:Key->V
 | .inl i=>.int i
 | .inr x=>.str x
inductive dT where
 | lst (xs:List V)
 | tup (xs:List V)
 | cE (kvs:List (Key×V))|fK (kvs:List (List Key×V))
 | set (S:Int->Bool) (n:Nat)
 | ins (C aD:Addr) (aR:List (Str×V))
 | own (x:Addr)
 | wJ (aR:List (Str×V))
 | met (f x:Addr)
 | mE (lo hi:Int)
 | iT (o:Obj) (u:dT)
 | oU (av:Array Value)
 | ext (qM:Heap->Prop)
abbrev ah:=Addr->Option dT
def upd (H:ah)(a:Addr)(o:dT):ah:=fun b=>if b=a then some o else H b
theorem bo :upd H a o a=some o:=by unfold upd;rw[afD rfl]
theorem br {b:Addr}(h:b≠a):upd H a o b=H b:=by unfold upd;rw[afC h]
theorem Zp {u:dT}:upd (upd H a o) a u=upd H a u:=by
 funext b;unfold upd;split<;>rfl
theorem adH {b:Addr}{u:dT}(h:H a=some o)(h':H b=some u)(d:o≠u):a≠b:=by
 intro e;subst e;rw[h]at h';exact d (agq h')
theorem eN {b:Addr}(h:H a=some o)(h':H b=none):a≠b:=by
 intro e;subst e;rw[h]at h';cases h'
section
variable (P:Program)(w:World)
def c_ (H:ah)(h:Heap)(a:Addr):dT->Prop
 | .lst xs=>xs.length<=sizeLine/\∃(its:ajC) (n:Nat),Vals xs its/\h.get? a=some {cls:=.type "list",data:=.seq its.toArray n}
 | .tup xs=>xs.length<=sizeLine/\∃its:List Value,Vals xs its/\IsTup h a its.toArray
 | .cE kvs=>kvs.length<=sizeLine/\(a == sysModules)=false/\∃aa,e5 kvs aa/\h.DictOf (iy P w) a aa
 | .fK kvs => kvs.length <= sizeLine /\ (a == sysModules) = false /\ ∃ xs : List (List Key × Addr × Value),
   Paired (fun (p:List Key×V) (q:List Key×Addr×Value)=>p.1=q.1/\H q.2.1=some (.tup (p.1.map cQ))/\RelV p.2 q.2.2) kvs xs/\
   ∃o aA cV,h.get? a=some o/\o.ExactDict/\o.data=.dict aA cV/\aA.toList=xs.map (entryOfKey (tupleKind (iy P w)))/\(xs.map (·.1)).Nodup
 | .set S n=>h.SetOf (intKind P w) a S n
 | .ins C aD aR => H aD = some (.own a) /\ aR.length <= 1000 /\ aD ≠ a /\ h.get? a = some (PySem.W.instObj C aD) /\
   ∃dc,h.Ns1 aD dc/\(∀f,gS (aR.lookup f) (dc f))/\PySem.Within dc (aR.map (·.1))
 | .own _=>∃o,h.get? a=some o
 | .wJ aR=>∃dc,h.Ns1 a dc/\∀f,gS (aR.lookup f) (dc f)
 | .mE lo hi=>∃t u v,h.get? a=some {cls:=.type "range",data:=.fields #[.int lo t,.int hi u,.int 1 v]}
 | .iT o u=>h.get? a=some o/\c_ H h a u
 | .oU av=>h.get? a=some {cls:=.none,data:=.fields av}
 | .met f x=>h.get? a=some (PySem.W.methodObj (.ref f) (.ref x))
 | .ext qM=>qM h/\(∃o,h.get? a=some o)/\∀h1 h2:Heap,qM h1->(∀o,h1.get? a=some o->h2.get? a=some o)->qM h2
def ep (H:ah)(h:Heap):Prop:=∀a o,H a=some o->c_ P w H h a o
end
section
variable {P:Program}{w:World}{H J:ah}{h h':Heap}{a:Addr}{o:dT}
theorem c_.lt (x:c_ P w H h a o):a<h.objs.size:=by
 cases o with
 | lst xs=>obtain ⟨_,_,_,_,e⟩:=x;exact afH e
 | tup xs=>obtain ⟨_,_,_,p⟩:=x;exact p.lt
 | cE kvs=>obtain ⟨_,_,_,_,o,_,_,e,_⟩:=x;exact afH e
 | fK kvs=>obtain ⟨_,_,_,_,o,_,_,e,_⟩:=x;exact afH e
 | set S n=>obtain ⟨o,_,_,_,e,_⟩:=x;exact afH e
 | ins C aD aR=>obtain ⟨_,_,_,e,_⟩:=x;exact afH e
 | own y=>obtain ⟨_,e⟩:=x;exact afH e
 | wJ aR=>obtain ⟨_,⟨_,_,_,e,_⟩,_⟩:=x;exact afH e
 | mE lo hi=>obtain ⟨_,_,_,e⟩:=x;exact afH e
 | iT b2 u=>obtain ⟨e,_⟩:=x;exact afH e
 | oU av=>exact afH (show h.get? a=some _ from x)
 | met f y=>exact afH (show h.get? a=some _ from x)
 | ext qM=>obtain ⟨_,⟨_,e⟩,_⟩:=x;exact afH e
theorem Paired.zV {α β:Type}{F G:α->β->Prop}:∀{GZ:List α}{G0:List β},Paired F GZ G0->(∀a b,F a b->G a b)->Paired G GZ G0
 | _,_,.nil,_=>.nil
 | _,_,.cons r t,f=>.cons (f _ _ r) (Paired.zV t f)
theorem c_.f_ (x:c_ P w H h a o)(k:∀b u,(b=a\/H b=some (.own a))->h.get? b=some u->h'.get? b=some u)
  (ho:∀b,H b=some (.own a)->J b=some (.own a))(aH:∀b xs,H b=some (.tup xs)->J b=some (.tup xs)):c_ P w J h' a o:=by
 induction o with
 | lst xs=>obtain ⟨z,its,n,r,e⟩:=x;exact ⟨z,its,n,r,k _ _ (.inl rfl) e⟩
 | tup xs=>obtain ⟨z,its,r,b2,e,c⟩:=x;exact ⟨z,its,r,b2,k _ _ (.inl rfl) e,c⟩
 | cE kvs=>obtain ⟨z,y,aa,r,b2,aA,cV,e,c⟩:=x;exact ⟨z,y,aa,r,b2,aA,cV,k _ _ (.inl rfl) e,c⟩
 | fK kvs=>
  obtain ⟨z,y,xs,r,b2,aA,cV,e,c⟩:=x
  exact ⟨z,y,xs,Paired.zV r fun p q z=>⟨z.1,aH _ _ z.2.1,z.2.2⟩,b2,aA,cV,k _ _ (.inl rfl) e,c⟩
 | set S n=>obtain ⟨b2,aA,cV,t,e,c⟩:=x;exact ⟨b2,aA,cV,t,k _ _ (.inl rfl) e,c⟩
 | ins C aD aR=>
  obtain ⟨d,z,ne,e,dc,⟨od,aA,cV,az,c⟩,r⟩:=x
  exact ⟨ho _ d,z,ne,k _ _ (.inl rfl) e,dc,⟨od,aA,cV,k _ _ (.inr d) az,c⟩,r⟩
 | own y=>obtain ⟨b2,e⟩:=x;exact ⟨b2,k _ _ (.inl rfl) e⟩
 | wJ aR=>obtain ⟨dc,⟨od,aA,cV,e,c⟩,r⟩:=x;exact ⟨dc,⟨od,aA,cV,k _ _ (.inl rfl) e,c⟩,r⟩
 | mE lo hi=>obtain ⟨t,u,v,e⟩:=x;exact ⟨t,u,v,k _ _ (.inl rfl) e⟩
 | iT b2 u bl=>obtain ⟨e,q⟩:=x;exact ⟨k _ _ (.inl rfl) e,bl q⟩
 | oU av=>
  have e:h.get? a=some {cls:=.none,data:=.fields av}:=x
  show h'.get? a=some {cls:=.none,data:=.fields av}
  exact k a _ (.inl rfl) e
 | met f y=>
  have e:h.get? a=some (PySem.W.methodObj (.ref f) (.ref y)):=x
  show h'.get? a=some (PySem.W.methodObj (.ref f) (.ref y))
  exact k a _ (.inl rfl) e
 | ext qM=>obtain ⟨p,⟨o,e⟩,st⟩:=x;exact ⟨st _ _ p fun o q=>k _ _ (.inl rfl) q,⟨o,k _ _ (.inl rfl) e⟩,st⟩
theorem ep.lt (x:ep P w H h)(e:H a=some o):a<h.objs.size:=(x a o e).lt
theorem ep.fresh (x:ep P w H h)(e:h.objs.size<=a):H a=none:=by
 cases q:H a with
 | none=>rfl
 | some u=>exact absurd (af0 (x.lt q) e) (agl _)
theorem ep.kept (x:ep P w H h)(k:∀b u,h.get? b=some u->h'.get? b=some u):ep P w H h':=fun a o e=>
 (x a o e).f_ (fun b u _ q=>k b u q) (fun _ q=>q) fun _ _ q=>q
theorem ep.laid (x:ep P w H h)(k:∀b u,h.get? b=some u->h'.get? b=some u)(hp:h.objs.size<=a)(new:c_ P w (upd H a o) h' a o):ep P w (upd H a o) h':=fun b u e=>by
 have hn:=x.fresh hp
 by_cases hb:b=a
 ·subst hb;rw[bo]at e;cases e;exact new
 ·rw[br hb]at e
  exact (x b u e).f_ (fun c v _ q=>k c v q) (fun c q=>by rw[br (eN q hn)];exact q) fun c xs q=>by rw[br (eN q hn)];exact q
end
def gR (H:ah)(a:Addr)(u:dT):Prop:=H a=some u\/∃o,H a=some (.iT o u)
theorem gR.ok {P:Program}{w:World}{H:ah}{h:Heap}{a:Addr}{u:dT}(r:gR H a u)(x:ep P w H h):c_ P w H h a u:=by
 rcases r with r|⟨o,r⟩
 ·exact x a u r
 ·obtain ⟨_,q⟩:=x a _ r
  exact q
def sr:Option dT->Prop
 | some (.lst _)=>True
 | some (.cE _)=>True
 | some (.fK _)=>True
 | some (.set _ _)=>True
 | some (.ins _ _ _)=>True
 | some (.ext _)=>True
 | _=>False
section
variable {P:Program}{w:World}{H:ah}{h h':Heap}{x e:Addr}{dR:dT}
theorem ep.write (ok:ep P w H h)(iq:sr (H x))(he:e=x\/H e=some (.own x))(k:∀b u,b≠e->h.get? b=some u->h'.get? b=some u)(rf:∃u,h'.get? e=some u)
  (new:c_ P w (upd H x dR) h' x dR):ep P w (upd H x dR) h':=fun b u q=>by
 have G7:∀c y,H c=some (.own y)->c≠x:=fun c y r z=>by subst z;rw[r]at iq;exact iq
 have Te:∀c xs,H c=some (.tup xs)->c≠x:=fun c xs r z=>by subst z;rw[r]at iq;exact iq
 by_cases hb:b=x
 ·subst hb;rw[bo]at q;cases q;exact new
 ·rw[br hb]at q
  by_cases pS:b=e
  ·have bD:H b=some (.own x):=by
    rcases he with z|z
    ·exact absurd (pS.trans z) hb
    ·rw[pS];exact z
   rw[q]at bD;cases bD
   obtain ⟨v,hv⟩:=rf
   exact ⟨v,by rw[pS];exact hv⟩
  ·refine (ok b u q).f_ (fun c v hc r=>k c v ?_ r) (fun c r=>by rw[br (G7 c b r)];exact r) fun c xs r=>by rw[br (Te c xs r)];exact r
   rcases hc with rfl|hc
   ·exact pS
   ·rintro rfl
    rcases he with z|z
    ·exact G7 c b hc z
    ·rw[hc]at z;cases z;exact hb rfl
end
structure e8 (aR ex:ajG)(H J:ah)(h h':Heap):Prop where
 keep:∀b o,h.get? b=some o->H b=none->b∉aR->b∉ex->h'.get? b=some o
 slot:∀b o,h.get? b=some o->H b=none->b∈aR->b∉ex->∃bR,h'.get? b=some {o with slots:=bR}
 free:∀b o,h.get? b=some o->H b=none->b∉ex->J b=none
 there:∀b o,h.get? b=some o->b∉ex->∃dR,h'.get? b=some dR
 jE:∀b xs,H b=some (.tup xs)->J b=some (.tup xs)
 iU:∀b o u,H b=some (.iT o u)->J b=some (.iT o u)
 jD:∀b av,H b=some (.oU av)->∃more,J b=some (.oU (av++more))
section
variable {aR QM ex aeJ:ajG}{H H1 ag:ah}{h h1 h2 h':Heap}{a x e:Addr}{o:dT}
theorem e8.any (u:e8 aR ex H H1 h h1){b:Addr}{b2:Obj}(q:h.get? b=some b2)(n:H b=none)(hx:b∉ex):∃bR,h1.get? b=some {b2 with slots:=bR}:=by
 by_cases hb:b∈aR
 ·exact u.slot b b2 q n hb hx
 ·exact ⟨b2.slots,u.keep b b2 q n hb hx⟩
theorem e8.kept (k:∀b u,h.get? b=some u->h'.get? b=some u):e8 aR ex H H h h':=
 ⟨fun b b2 q _ _ _=>k b b2 q,fun b b2 q _ _ _=>⟨b2.slots,k b b2 q⟩,fun _ _ _ n _=>n,fun b b2 q _=>⟨b2,k b b2 q⟩,fun _ _ q=>q,fun _ _ _ q=>q,fun _ av q=>⟨#[],by rw[q];simp⟩⟩
theorem e8.refl:e8 aR ex H H h h:=e8.kept fun _ _ q=>q
theorem e8.laid (k:∀b u,h.get? b=some u->h'.get? b=some u)(hp:h.objs.size<=a)(hn:H a=none):e8 aR ex H (upd H a o) h h' where
 keep:=fun b u q _ _ _=>k b u q
 slot:=fun b u q _ _ _=>⟨u.slots,k b u q⟩
 free:=fun b u q n _=>by rw[br (af4 (af0 (afH q) hp))];exact n
 there:=fun b u q _=>⟨u,k b u q⟩
 jE:=fun b xs q=>by rw[br (eN q hn)];exact q
 iU:=fun b u xs q=>by rw[br (eN q hn)];exact q
 jD:=fun b av q=>⟨#[],by rw[br (eN q hn),q];simp⟩
theorem e8.write (iq:sr (H x))(he:e=x\/H e=some (.own x))(k:∀b u,b≠e->h.get? b=some u->h'.get? b=some u)(rf:∃u,h'.get? e=some u):e8 aR ex H (upd H x o) h h':=by
 have hx:∀b,H b=none->b≠x:=fun b n z=>by subst z;rw[n]at iq;exact iq
 have hb:∀b,H b=none->b≠e:=fun b n z=>by
  subst z
  rcases he with r|r
  ·exact hx b n r
  ·rw[n]at r;cases r
 have hm:∀b u,H b=some u->¬sr (some u)->b≠x:=fun b u q nm z=>by subst z;rw[q]at iq;exact nm iq
 refine ⟨fun b u q n _ _=>k b u (hb b n) q,fun b u q n _ _=>⟨u.slots,k b u (hb b n) q⟩,fun b u q n _=>by rw[br (hx b n)];exact n,fun b u q _=>?_,
  fun b xs q=>by rw[br (hm b _ q fun z=>z)];exact q,fun b u xs q=>by rw[br (hm b _ q fun z=>z)];exact q,fun b av q=>⟨#[],by rw[br (hm b _ q fun z=>z),q];simp⟩⟩
 by_cases pS:b=e
 ·subst pS;exact rf
 ·exact ⟨u,k b u pS q⟩
end
variable {h:Heap}{H:ah}{b L:Addr}{o:Obj}
def wF (h:Heap)(H:ah):List Addr:=(List.range h.objs.size).filter fun a=>(H a).isSome
def n7 (h:Heap)(H:ah):Heap:=PySem.W.hideAll h (wF h H)
theorem X6 (h:Heap)(H:ah):(n7 h H).objs.size=h.objs.size:=PySem.W.hideAll_size _ _
theorem Za (e:h.get? b=some o)(n:H b=none):(n7 h H).get? b=some o:=
 PySem.W.hideAll_get _ e fun hm=>by
  have q:(H b).isSome=true:=(ah5.mp hm).2
  rw[n]at q;simp at q
theorem aag (e:(n7 h H).get? b=some o):h.get? b=some o/\H b=none:=by
 have aU:h.get? b=some o:=PySem.W.of_hideAll (wF h H) e
 refine ⟨aU,?_⟩
 cases q:H b with
 | none=>rfl
 | some x=>
  have hm:b∈wF h H:=ah5.mpr ⟨afU.mpr (afH aU),by simp[q]⟩
  have z:(n7 h H).get? b=none:=PySem.W.hideAll_none (wF h H) hm
  rw[z]at e;cases e
def nX (g h:Heap)(L:Addr):List (Addr×Obj):=(List.range h.objs.size).filterMap fun a=>if a=L\/(g.get? a).isSome=true then none else (h.get? a).map fun o=>(a,o)
theorem W_ {g:Heap}{a:Addr}(h1:a≠L)(h2:g.get? a=none)(aQ:h.get? a=some o):(a,o)∈nX g h L:=
 ah6.mpr ⟨a,afU.mpr (afH aQ),by simp[h1,h2,aQ]⟩
theorem WK {g:Heap}{p:Addr×Obj}(hp:p∈nX g h L):p.1≠L/\g.get? p.1=none/\h.get? p.1=some p.2:=by
 obtain ⟨b,_,e⟩:=ah6.mp hp
 split at e
 ·cases e
 ·rename_i hn
  cases q:h.get? b with
  | none=>rw[q]at e;simp at e
  | some u=>
   rw[q]at e
   simp only[Option.map_some,Option.some.injEq]at e
   subst e
   refine ⟨fun z=>hn (.inl z),?_,q⟩
   show g.get? b=none
   cases r:g.get? b with
   | none=>rfl
   | some v=>exact (hn (.inr (by simp[r]))).elim
def rest (g h:Heap)(L d:Addr):List (Addr×Obj):=(nX g h L).filter fun p=>decide (p.1≠d)
theorem JI {g:Heap}:News g L h (nX g h L):=fun p hp=>let ⟨a,b,c⟩:=WK hp;⟨c,a,b⟩
structure Mod (K:ajA)(mg:ajy)(base:Heap):Prop where
 tu:K.In base
 glob:base.Ns mainGlobals mg
 blt:∃lh,base.Ns builtinsNs lh/\∀x:Str,x≠"__name__"->lh x=bootBuiltins x
 nolimit:base.NoLimit
 nodigits:base.NoDigits
structure aO where
 prog:Program
 w:World
 K:PySem.W.Frag
 mg:Str->Option Value
 base:Heap
 A:Around
 N:List Str
 bf:Shared
 bA:ah
 env:Env
 outer:List Env
 stack:List Env
 ex:List Addr
 fn:Str->Bool
 calm:Bool
 de:List (Addr×Obj)
 ct:Value->Shared->Prop
def eJ (l:List Env):List Addr:=l.filterMap (·.frame)
abbrev aO.aR (X:aO):List Addr:=eJ X.outer
def m7 (sc:Scope)(x:Str):Prop:=sc.names.lookup x=some .local\/sc.names.lookup x=some .cell\/sc.names.lookup x=some .free
def Loc (sc:Scope)(x:Str):Prop:=sc.names.lookup x=some .local\/sc.names.lookup x=some .cell
def aep (env:Env)(h:Heap)(m:ajy)(x:Str)(u:Value):Prop:=
 (env.kindOf x=some .local/\m x=some u)\/((env.kindOf x=some .cell\/env.kindOf x=some .free)/\∃c,env.cells.lookup x=some c/\h.IsCell c (some u))
structure aO.Ok (X:aO):Prop where
 mod:Mod X.K X.mg X.base
 kind:X.env.scope.kind=.function
 glob:X.env.globals=mainGlobals
 blt:X.env.builtins=builtinsNs
 above:X.bf.heap.objs.size<=X.env.locals
 inj:∀x y c,X.env.cells.lookup x=some c->X.env.cells.lookup y=some c->x=y
 has:∀x,(X.env.kindOf x=some .cell\/X.env.kindOf x=some .free)->∃c,X.env.cells.lookup x=some c
 lL:∀x c,X.fn x=true->X.env.cells.lookup x=some c->X.bf.heap.objs.size<=c
 hd:X.calm=true->X.A.handled=none
 frames:X.A.frames=some X.stack
 nG:X.stack=X.outer\/(X.stack=X.env::X.outer/\X.env.frame=some X.env.locals)
 pL:∀b∈X.ex,b≠X.env.locals/\∀x c,X.env.cells.lookup x=some c->c≠b
 bs:∀b o,X.base.get? b=some o->X.bf.heap.get? b=some o/\X.bA b=none
 ij:X.base.objs.size<=X.bf.heap.objs.size
 lX:∀b o,X.base.get? b=some o->b∉X.ex
 lQ:∀b∈X.ex,b∉X.aR
 hT:X.bf.heap.FunFrames X.base X.outer
 k_:∀b∈X.aR,X.bA b=none
structure Inv (X:aO)(pins:ajx)(σ:List (Option V))(H:ah)(s:Shared):Prop where
 ok:X.Ok
 os:s.os=X.bf.os
 bare:AllBare s.gens
 base:e8 X.aR X.ex X.bA H X.bf.heap s.heap
 loc:∃m,s.heap.Ns X.env.locals m/\∀(i:Nat)(x:Str)(v:V),X.N[i]?=some x->σ[i]?=some (some v)->m7 X.env.scope x->∃u,RelV v u/\aep X.env s.heap m x u
 cell:∀x c,X.env.cells.lookup x=some c->∃v,s.heap.IsCell c v
 free:H X.env.locals=none
 g6:∀x c,X.env.cells.lookup x=some c->H c=none
 pin:∀p∈X.de++pins,s.heap.get? p.1=some p.2/\H p.1=none/\p.1≠X.env.locals/\p.1∉X.aR/\∀v,p.2.data≠.cell v
 aX:ep X.prog X.w H s.heap
 len:σ.length=X.N.length
section
variable {X:aO}{pins:ajx}{σ:List (Option V)}{H J:ah}{s:Shared}{h':Heap}
variable {g':Array GenState}{t' i:Nat}{d':Drawn}{ch:ajG}{x:Str}{M:Model}{A:Around}{E:ajv}{v:V}{u:Value}{Q:ajw}
theorem aO.Ok.Ta (ok:X.Ok){b:Addr}{o:Obj}(e:X.base.get? b=some o):b∉X.aR:=fun hb=>by
 have:=(ok.hT.mem hb).1
 rw[e]at this;cases this
theorem Inv.bs (I:Inv X pins σ H s):∀b o,X.base.get? b=some o->s.heap.get? b=some o/\H b=none:=fun b o e=>
 ⟨I.base.keep b o (I.ok.bs b o e).1 (I.ok.bs b o e).2 (I.ok.Ta e) (I.ok.lX b o e),I.base.free b o (I.ok.bs b o e).1 (I.ok.bs b o e).2 (I.ok.lX b o e)⟩
theorem Inv.d8 (I:Inv X pins σ H s):∀b o,X.base.get? b=some o->s.heap.get? b=some o:=fun b o e=>(I.bs b o e).1
theorem Inv.mod (I:Inv X pins σ H s):Mod X.K X.mg X.base:=I.ok.mod
theorem Inv.en (I:Inv X pins σ H s):X.K.In s.heap:=I.ok.mod.tu.keeps I.d8
theorem Inv.lt (I:Inv X pins σ H s):X.env.locals<s.heap.objs.size:=let ⟨_,hn,_⟩:=I.loc;hn.lt
theorem Inv.e1 (I:Inv X pins σ H s):X.bf.heap.objs.size<=s.heap.objs.size:=afK I.ok.above (ahD I.lt)
theorem Inv.Tc (I:Inv X pins σ H s){a:Addr}(h:s.heap.objs.size<=a):a∉X.aR:=fun hb=>by
 obtain ⟨_,o,ho,_⟩:=I.ok.hT.mem hb
 exact absurd (af0 (afH ho) (afK I.e1 h)) (agl _)
theorem Inv.lM (I:Inv X pins σ H s):∀x c,X.env.cells.lookup x=some c->c≠X.env.locals:=fun x c e z=>by
 obtain ⟨v,o,ho,hd⟩:=I.cell x c e
 obtain ⟨m,⟨dR,aA,cV,ho',oC,_⟩,_⟩:=I.loc
 rw[z,ho']at ho;cases ho;rw[oC]at hd;cases hd
theorem Inv.hT (I:Inv X pins σ H s):s.heap.FunFrames X.base X.outer:=by
 have all:∀(l:List Env),(∀b∈eJ l,b∈X.aR)->X.bf.heap.FunFrames X.base l->s.heap.FunFrames X.base l:=by
  intro l
  induction l with
  | nil=>intro _ _;trivial
  | cons env r bl=>
   intro hs hl
   obtain ⟨hk,⟨L,o,hf,hn,ho,hd⟩,hr⟩:=hl
   have eZ:L∈X.aR:=hs L (by unfold eJ;rw[aiE,hf];exact af6)
   obtain ⟨bR,e⟩:=I.base.slot L o ho (I.ok.k_ L eZ) eZ fun z=>I.ok.lQ L z eZ
   exact ⟨hk,⟨L,_,hf,hn,e,hd⟩,bl (fun b hb=>hs b (by unfold eJ;rw[aiE,hf];exact af5 _ hb)) hr⟩
 exact all X.outer (fun _ hb=>hb) I.ok.hT
theorem Inv.stack (I:Inv X pins σ H s):s.heap.FunFrames X.base X.stack:=by
 rcases I.ok.nG with e|⟨e,hf⟩
 ·rw[e];exact I.hT
 ·rw[e]
  obtain ⟨m,hn,_⟩:=I.loc
  refine .cons (by rw[I.ok.kind];decide) hf hn ?_ I.hT
  exact Heap.get?_none_of_le (afK I.ok.ij I.ok.above)
theorem Inv.wA (I:Inv X pins σ H s):∀b∈eJ X.stack,b∈X.env.locals::X.aR:=fun b hb=>by
 rcases I.ok.nG with e|⟨e,hf⟩
 ·rw[e]at hb;exact af5 _ hb
 ·rw[e]at hb
  unfold eJ at hb
  rw[aiE,hf]at hb
  exact hb
theorem Inv.t2 (I:Inv X pins σ H s):∀b∈eJ X.stack,H b=none:=fun b hb=>by
 rcases afP.mp (I.wA b hb) with e|hb
 ·rw[e];exact I.free
 ·obtain ⟨_,o,ho,_⟩:=I.ok.hT.mem hb
  exact I.base.free b o ho (I.ok.k_ b hb) fun z=>I.ok.lQ b z hb
theorem Inv.step (I:Inv X pins σ H s)
  (mu:∀b∈ch,(b∈X.ex\/X.bf.heap.objs.size<=b)/\b≠X.env.locals/\(∀x c,X.env.cells.lookup x=some c->c≠b)/\∀p∈X.de++pins,p.1≠b)
  (keep:∀b o,b≠X.env.locals->b∉X.aR->b∉ch->s.heap.get? b=some o->H b=none->h'.get? b=some o)
  (slot:∀b o,b≠X.env.locals->b∈X.aR->b∉ch->s.heap.get? b=some o->H b=none->∃bR,h'.get? b=some {o with slots:=bR})(free:∀b o,b∉ch->s.heap.get? b=some o->H b=none->J b=none)
  (there:∀b o,b∉ch->s.heap.get? b=some o->∃dR,h'.get? b=some dR)
  (jE:∀b xs,H b=some (.tup xs)->J b=some (.tup xs))(iU:∀b o u,H b=some (.iT o u)->J b=some (.iT o u))(jD:∀b av,H b=some (.oU av)->∃more,J b=some (.oU (av++more)))
  (ns:∀m,s.heap.Ns X.env.locals m->h'.Ns X.env.locals m)(aX:ep X.prog X.w J h')(hg:AllBare g') :
  Inv X pins σ J {s with heap:=h',gens:=g',drawn:=d',toks:=t'}:=by
 have G3:∀b o,X.bf.heap.get? b=some o->b≠X.env.locals:=fun b o e=>af4 (af0 (afH e) I.ok.above)
 have hH:∀b o,X.bf.heap.get? b=some o->b∉X.ex->b∉ch:=fun b o e hx hb=>by
  rcases (mu b hb).1 with z|z
  ·exact hx z
  ·exact absurd (af0 (afH e) z) (agl _)
 have cellK:∀x c,X.env.cells.lookup x=some c->∀v,s.heap.IsCell c v->h'.IsCell c v:=fun x c e v ⟨o,ho,hd⟩=>by
  have tB:c∉ch:=fun z=>(mu c z).2.2.1 x c e rfl
  by_cases hc:c∈X.aR
  ·obtain ⟨bR,q⟩:=slot c o (I.lM x c e) hc tB ho (I.g6 x c e)
   exact ⟨_,q,hd⟩
  ·exact ⟨o,keep c o (I.lM x c e) hc tB ho (I.g6 x c e),hd⟩
 refine ⟨I.ok,I.os,hg,⟨fun b o e n hb hx=>?_,fun b o e n hb hx=>?_,fun b o e n hx=>?_,fun b o e hx=>?_,fun b xs e=>jE b xs (I.base.jE b xs e),fun b o xs e=>iU b o xs (I.base.iU b o xs e),fun b av e=>?_⟩,?_,fun x c e=>?_,?_,fun x c e=>?_,fun p hp=>?_,aX,I.len⟩
 ·exact keep b o (G3 b o e) hb (hH b o e hx) (I.base.keep b o e n hb hx) (I.base.free b o e n hx)
 ·obtain ⟨bR,ai⟩:=I.base.slot b o e n hb hx
  obtain ⟨wz,az⟩:=slot b _ (G3 b o e) hb (hH b o e hx) ai (I.base.free b o e n hx)
  exact ⟨wz,az⟩
 ·obtain ⟨dR,ai⟩:=I.base.there b o e hx
  exact free b dR (hH b o e hx) ai (I.base.free b o e n hx)
 ·obtain ⟨dR,ai⟩:=I.base.there b o e hx
  exact there b dR (hH b o e hx) ai
 ·obtain ⟨p1,ai⟩:=I.base.jD b av e
  obtain ⟨kj,az⟩:=jD b _ ai
  exact ⟨p1++kj,by rw[az,Array.append_assoc]⟩
 ·obtain ⟨m,hn,hl⟩:=I.loc
  refine ⟨m,ns m hn,fun i x v ai az cD=>?_⟩
  obtain ⟨u,r,l⟩:=hl i x v ai az cD
  refine ⟨u,r,?_⟩
  rcases l with l|⟨k,c,e,z⟩
  ·exact .inl l
  ·exact .inr ⟨k,c,e,cellK x c e _ z⟩
 ·obtain ⟨v,z⟩:=I.cell x c e
  exact ⟨v,cellK x c e v z⟩
 ·obtain ⟨m,⟨o,_,_,ho,_⟩,_⟩:=I.loc
  exact free _ o (fun z=>(mu _ z).2.1 rfl) ho I.free
 ·obtain ⟨v,o,ho,hd⟩:=I.cell x c e
  exact free c o (fun z=>(mu c z).2.2.1 x c e rfl) ho (I.g6 x c e)
 ·obtain ⟨e,n,ne,jy,d⟩:=I.pin p hp
  have tB:p.1∉ch:=fun z=>(mu p.1 z).2.2.2 p hp rfl
  exact ⟨keep p.1 p.2 ne jy tB e n,free p.1 p.2 tB e n,ne,jy,d⟩
theorem Inv.un (I:Inv X pins σ H s)(u:e8 X.aR [] H J s.heap h')(aX:ep X.prog X.w J h'):Inv X pins σ J {s with heap:=h',toks:=t'}:=by
 obtain ⟨m,⟨o,aA,cV,ho,r⟩,_⟩:=id I.loc
 obtain ⟨bR,eZ⟩:=u.any ho I.free (by simp)
 exact I.step (g':=s.gens) (d':=s.drawn) (ch:=[]) (fun _ z=>nomatch z) (fun b o _ hb _ e n=>u.keep b o e n hb (by simp)) (fun b o _ hb _ e n=>u.slot b o e n hb (by simp)) (fun b o _ e n=>u.free b o e n (by simp)) (fun b o _ e=>u.there b o e (by simp)) u.jE u.iU u.jD (fun cW hm=>by
  obtain ⟨dR,yP,yO,ho',bJ⟩:=hm
  rw[ho]at ho';cases ho'
  exact ⟨_,yP,yO,eZ,bJ⟩) aX I.bare
theorem Inv.call (I:Inv X pins σ H s)(u:e8 (eJ X.stack) ch H J s.heap h')(aX:ep X.prog X.w J h')(hg:AllBare g')
  (mu:∀b∈ch,(b∈X.ex\/X.bf.heap.objs.size<=b)/\b≠X.env.locals/\(∀x c,X.env.cells.lookup x=some c->c≠b)/\∀p∈X.de++pins,p.1≠b) :
  Inv X pins σ J {s with heap:=h',gens:=g',drawn:=d',toks:=t'}:=by
 obtain ⟨m,⟨o,aA,cV,ho,r⟩,_⟩:=id I.loc
 obtain ⟨bR,eZ⟩:=u.any ho I.free fun z=>(mu _ z).2.1 rfl
 exact I.step (ch:=ch) mu (fun b o eZ hb hc e n=>u.keep b o e n (fun z=>(afP.mp (I.wA b z)).elim eZ hb) hc) (fun b o _ _ hc e n=>u.any e n hc) (fun b o hc e n=>u.free b o e n hc) (fun b o hc e=>u.there b o e hc) u.jE u.iU u.jD (fun cW hm=>by
  obtain ⟨dR,yP,yO,ho',bJ⟩:=hm
  rw[ho]at ho';cases ho'
  exact ⟨_,yP,yO,eZ,bJ⟩) aX hg
theorem Inv.turned {it:Addr}(I:Inv X pins σ H s)(k:∀b o,b≠it->s.heap.get? b=some o->h'.get? b=some o)(hn:H it=none)(eZ:it≠X.env.locals)
  (h1:it∈X.ex\/X.bf.heap.objs.size<=it)(h2:∀x c,X.env.cells.lookup x=some c->c≠it)(aQ:∀p∈X.de++pins,p.1≠it):Inv X pins σ H {s with heap:=h',toks:=t'}:=by
 have G5:∀b u,H b=some u->b≠it:=fun b u e z=>by rw[z,hn]at e;cases e
 refine I.step (g':=s.gens) (d':=s.drawn) (ch:=[it]) (fun b hb=>?_) (fun b o _ _ hc e _=>k b o (fun z=>hc (by simp[z])) e) (fun b o _ _ hc e _=>⟨o.slots,k b o (fun z=>hc (by simp[z])) e⟩) (fun _ _ _ _ n=>n)
  (fun b o hc e=>⟨o,k b o (fun z=>hc (by simp[z])) e⟩) (fun _ _ e=>e) (fun _ _ _ e=>e) (fun b av e=>⟨#[],by rw[e];simp⟩) (fun m hm=>?_) (fun b u e=>?_) I.bare
 ·have e:b=it:=by simpa using hb
  subst e
  exact ⟨h1,eZ,h2,aQ⟩
 ·obtain ⟨o,aA,cV,ho,r⟩:=hm
  exact ⟨o,aA,cV,k _ o (af_ eZ) ho,r⟩
 ·refine (I.aX b u e).f_ (fun c v hc q=>k c v ?_ q) (fun _ q=>q) fun _ _ q=>q
  rcases hc with z|z
  ·rw[z];exact G5 b u e
  ·exact G5 c _ z
theorem Inv.tok (I:Inv X pins σ H s)(t:Nat):Inv X pins σ H {s with toks:=t}:=I.un (h':=s.heap) (t':=t) e8.refl I.aX
theorem Inv.kept {t':Nat}(I:Inv X pins σ H s)(k:∀b u,s.heap.get? b=some u->h'.get? b=some u):Inv X pins σ H {s with heap:=h',toks:=t'}:=I.un (e8.kept k) (I.aX.kept k)
theorem Inv.laid {a:Addr}{o:dT}{t':Nat}(I:Inv X pins σ H s)(k:∀b u,s.heap.get? b=some u->h'.get? b=some u)(hp:s.heap.objs.size<=a)(new:c_ X.prog X.w (upd H a o) h' a o) :
  Inv X pins σ (upd H a o) {s with heap:=h',toks:=t'}:=I.un (e8.laid k hp (I.aX.fresh hp)) (I.aX.laid k hp new)
theorem Inv.write {x e:Addr}{o:dT}{t':Nat}(I:Inv X pins σ H s)(iq:sr (H x))(he:e=x\/H e=some (.own x))(k:∀b u,b≠e->s.heap.get? b=some u->h'.get? b=some u)(rf:∃u,h'.get? e=some u)
  (new:c_ X.prog X.w (upd H x o) h' x o):Inv X pins σ (upd H x o) {s with heap:=h',toks:=t'}:=I.un (e8.write iq he k rf) (I.aX.write iq he k rf new)
theorem Inv.Hh {Hg:ajx}(I:Inv X pins σ H s)(h:∀p∈Hg,s.heap.get? p.1=some p.2/\H p.1=none/\p.1≠X.env.locals/\p.1∉X.aR/\∀v,p.2.data≠.cell v):Inv X Hg σ H s:=
 ⟨I.ok,I.os,I.bare,I.base,I.loc,I.cell,I.free,I.g6,fun p hp=>(agn.mp hp).elim (fun z=>I.pin p (agA _ z)) (h p),I.aX,I.len⟩
theorem CI {N:ajD}(hN:N.Nodup){j:Nat}(a:N[i]?=some x)(b:N[j]?=some x):i=j:=by
 obtain ⟨h1,ai⟩:=agf.mp a
 obtain ⟨h2,az⟩:=agf.mp b
 exact (List.getElem_inj hN).mp (ai.trans az.symm)
theorem Cu (I:Inv X pins σ H s)(hN:X.N.Nodup)(hi:X.N[i]?=some x)(hx:Loc X.env.scope x)(r:RelV v u)
  (h:∀ar,Inv X pins (σ.set i (some v)) H ar->(∃a,Heap.SameBut a s.heap ar.heap/\(a=X.env.locals\/X.env.cells.lookup x=some a))->Q () ar)(hf:X.fn x=true\/X.env.scope.names.lookup x=some .local:=by first|exact .inl rfl|exact .inr rfl|assumption):wpAny M A (storeName X.env x u) Q E s:=by
 obtain ⟨m,hn,hl⟩:=id I.loc
 have Rd:(X.env.scope.kind == .class || (X.env.scope.kind == .module&&X.env.locals != X.env.globals))=false:=by rw[I.ok.kind];rfl
 have vT:i<σ.length:=by rw[I.len];exact (agf.mp hi).1
 have lM:=I.lM
 have tracked:∀{a:Addr}{h':Heap},(∃o,s.heap.get? a=some o/\H a=none)->Heap.SameBut a s.heap h'->ep X.prog X.w H h':=fun {a h'} ha hs b b2 e=>by
  obtain ⟨_,_,Gu⟩:=ha
  refine (I.aX b b2 e).f_ (fun c dn hc q=>(hs.2 c ?_).trans q) (fun _ q=>q) fun _ _ q=>q
  rintro rfl
  rcases hc with rfl|hc
  ·rw[Gu]at e;cases e
  ·rw[Gu]at hc;cases hc
 rcases hx with hk|hk
 ·refine wpAny_storeName_local hk hn (fun h' ta hs=>?_) Rd
  obtain ⟨z_,_,_,rh,_⟩:=id hn
  refine h _ ⟨I.ok,I.os,I.bare,⟨fun b o e n hb hx=>?_,fun b o e n hb hx=>?_,I.base.free,fun b o e hx=>?_,I.base.jE,I.base.iU,I.base.jD⟩,⟨_,ta,fun j y jF ai az cD=>?_⟩,fun y c e=>?_,I.free,I.g6,fun p hp=>?_,tracked ⟨z_,rh,I.free⟩ hs,by simpa using I.len⟩ ⟨_,hs,.inl rfl⟩
  ·exact (hs.2 b (af4 (af0 (afH e) I.ok.above))).trans (I.base.keep b o e n hb hx)
  ·obtain ⟨bR,ai⟩:=I.base.slot b o e n hb hx
   exact ⟨bR,(hs.2 b (af4 (af0 (afH e) I.ok.above))).trans ai⟩
  ·obtain ⟨dR,ai⟩:=I.base.there b o e hx
   exact ⟨dR,(hs.2 b (af4 (af0 (afH e) I.ok.above))).trans ai⟩
  ·by_cases hj:j=i
   ·subst hj
    rw[hi]at ai;cases ai
    rw[ah7 vT]at az
    cases az
    exact ⟨u,r,.inl ⟨hk,by simp⟩⟩
   ·rw[aiF (af_ hj)]at az
    obtain ⟨gI,bJ,q⟩:=hl j y jF ai az cD
    refine ⟨gI,bJ,?_⟩
    rcases q with ⟨k,e⟩|⟨k,c,e,z⟩
    ·refine .inl ⟨k,?_⟩
     have:y≠x:=fun e=>hj (CI hN ai (e▸hi))
     simp[this,e]
    ·exact .inr ⟨k,c,e,z.sameBut hs (lM y c e)⟩
  ·obtain ⟨dn,z⟩:=I.cell y c e
   exact ⟨dn,z.sameBut hs (lM y c e)⟩
  ·obtain ⟨e,n,ne,jy,d⟩:=I.pin p hp
   exact ⟨(hs.2 p.1 ne).trans e,n,ne,jy,d⟩
 ·have zp:X.fn x=true:=by
   rcases hf with z|z
   ·exact z
   ·rw[z]at hk;cases hk
  obtain ⟨c,hc⟩:=I.ok.has x (.inl hk)
  obtain ⟨dn,z⟩:=I.cell x c hc
  refine wpAny_storeName_cell I.ok.kind hk hc z (fun h' hG hs=>?_)
  obtain ⟨e_,GA,RE⟩:=id z
  refine h {s with heap:=h'} ⟨I.ok,I.os,I.bare,⟨fun b o e n hb hx=>?_,fun b o e n hb hx=>?_,I.base.free,fun b o e hx=>?_,I.base.jE,I.base.iU,I.base.jD⟩,⟨m,hn.sameBut hs (af_ (lM x c hc)),fun j y jF ai az cD=>?_⟩,fun y bG e=>?_,I.free,I.g6,fun p hp=>?_,tracked ⟨e_,GA,I.g6 x c hc⟩ hs,by simpa using I.len⟩ ⟨c,hs,.inr hc⟩
  ·exact (hs.2 b (af4 (af0 (afH e) (I.ok.lL x c zp hc)))).trans (I.base.keep b o e n hb hx)
  ·obtain ⟨bR,ai⟩:=I.base.slot b o e n hb hx
   exact ⟨bR,(hs.2 b (af4 (af0 (afH e) (I.ok.lL x c zp hc)))).trans ai⟩
  ·obtain ⟨dR,ai⟩:=I.base.there b o e hx
   exact ⟨dR,(hs.2 b (af4 (af0 (afH e) (I.ok.lL x c zp hc)))).trans ai⟩
  ·by_cases hj:j=i
   ·subst hj
    rw[hi]at ai;cases ai
    rw[ah7 vT]at az
    cases az
    exact ⟨u,r,.inr ⟨.inl hk,c,hc,hG⟩⟩
   ·rw[aiF (af_ hj)]at az
    obtain ⟨gI,bJ,q⟩:=hl j y jF ai az cD
    refine ⟨gI,bJ,?_⟩
    rcases q with q|⟨k,bG,e,dO⟩
    ·exact .inl q
    ·refine .inr ⟨k,bG,e,dO.sameBut hs ?_⟩
     rintro rfl
     exact hj (CI hN ai (I.ok.inj _ _ _ e hc▸hi))
  ·by_cases Gr:bG=c
   ·subst Gr;exact ⟨_,hG⟩
   ·obtain ⟨jI,z2⟩:=I.cell y bG e
    exact ⟨jI,z2.sameBut hs Gr⟩
  ·obtain ⟨e,n,ne,jy,d⟩:=I.pin p hp
   refine ⟨(hs.2 p.1 ?_).trans e,n,ne,jy,d⟩
   intro q
   rw[q,GA]at e
   have bD:e_=p.2:=agq e
   exact d dn (by rw[<-bD];exact RE)
theorem ql (I:Inv X pins σ H s)(hN:X.N.Nodup)(hi:X.N[i]?=some x)(hx:Loc X.env.scope x)(r:RelV v u)
  (h:∀ar,Inv X pins (σ.set i (some v)) H ar->Q () ar)(hf:X.fn x=true\/X.env.scope.names.lookup x=some .local:=by first|exact .inl rfl|exact .inr rfl|assumption):wpAny M A (storeName X.env x u) Q E s:=
 Cu I hN hi hx r (fun ar ia _=>h ar ia) hf
theorem Inv.yu {ar:Shared}(I:Inv X pins σ H s)(ho:ar.os=s.os)(u:e8 (eJ X.stack) ch H J s.heap ar.heap)(aX:ep X.prog X.w J ar.heap)(hg:AllBare ar.gens)
  (mu:∀b∈ch,(b∈X.ex\/X.bf.heap.objs.size<=b)/\b≠X.env.locals/\(∀x c,X.env.cells.lookup x=some c->c≠b)/\∀p∈X.de++pins,p.1≠b):Inv X pins σ J ar:=by
 obtain ⟨h',g',d',t',dR⟩:=ar
 have e:dR=s.os:=ho
 subst e
 exact I.call (g':=g') (t':=t') (d':=d') u aX hg mu
end
abbrev fg:=Value->Option Addr->ah->Prop
abbrev St:=List (Option V)
abbrev bW:=V->ah->Prop
abbrev TE:=St->ah->bW->Prop
abbrev TT:=St->ah->(Bool->ah->Prop)->Prop
abbrev cP:=St->ah->(List V->ah->Prop)->Prop
structure Ends where
 nx:St->ah->Prop
 eT:bW
 d8:St->ah->Prop:=fun _ _=>False
 cq:St->ah->Prop:=fun _ _=>False
abbrev cT:=Ends->St->ah->Prop
def gh (X:aO)(pins:ajx)(σ:St)(Q:bW)(u:Value)(ar:Shared):Prop:=∃v J,Inv X pins σ J ar/\RelV v u/\Q v J
def yd (X:aO)(pins:ajx)(σ:St)(Q:Bool->ah->Prop)(b:Bool)(ar:Shared):Prop:=∃J,Inv X pins σ J ar/\Q b J
def MS (X:aO)(pins:ajx)(σ:St)(Q:List V->ah->Prop)(us:ajC)(ar:Shared):Prop:=∃aa J,Inv X pins σ J ar/\Vals aa us/\Q aa J
def ji (X:aO)(pins:ajx)(D:Ends)(f:Flow)(ar:Shared):Prop:=
 match f with
 | .next=>∃aE J,Inv X pins aE J ar/\D.nx aE J
 | .brk=>∃aE J,Inv X pins aE J ar/\D.d8 aE J
 | .cont=>∃aE J,Inv X pins aE J ar/\D.cq aE J
 | .ret u=>∃v aE J,Inv X pins aE J ar/\RelV v u/\D.eT v J
def bN (X:aO)(e:Expr)(t:TE):Prop:=
 ∀(pins:ajx)(s:Shared)(σ:St)(H:ah)(Q:bW),Inv X pins σ H s->t σ H Q->wpAny (model X.prog X.w) X.A (eval e X.env) (gh X pins σ Q) X.ct s
def jg (X:aO)(e:Expr)(t:TT):Prop:=
 ∀(pins:ajx)(s:Shared)(σ:St)(H:ah)(Q:Bool->ah->Prop),Inv X pins σ H s->t σ H Q->wpAny (model X.prog X.w) X.A (isTrue e X.env (eval e X.env)) (yd X pins σ Q) X.ct s
def mj (X:aO)(e:Expr)(t:TT):Prop:=
 ∀(whole:Sem Value)(pins:ajx)(s:Shared)(σ:St)(H:ah)(Q:Bool->ah->Prop),Inv X pins σ H s->t σ H Q->wpAny (model X.prog X.w) X.A (isTrue e X.env whole) (yd X pins σ Q) X.ct s
theorem mj.pt {X:aO}{e:Expr}{t:TT}(h:mj X e t):jg X e t:=h _
def hB (X:aO)(aA:ajE)(t:cP):Prop:=
 ∀(pos:Pos)(pins:ajx)(s:Shared)(σ:St)(H:ah)(Q:List V->ah->Prop),Inv X pins σ H s->t σ H Q->wpAny (model X.prog X.w) X.A (spliced (backTo pos (starEach aA X.env))) (MS X pins σ Q) X.ct s
def hC (X:aO)(st:Stmt)(t:cT):Prop:=
 ∀(pins:ajx)(s:Shared)(σ:St)(H:ah)(D:Ends),Inv X pins σ H s->t D σ H->wpAny (model X.prog X.w) X.A (exec st X.env) (ji X pins D) X.ct s
def iM (X:aO)(st:List Stmt)(t:cT):Prop:=
 ∀(pins:ajx)(s:Shared)(σ:St)(H:ah)(D:Ends),Inv X pins σ H s->t D σ H->wpAny (model X.prog X.w) X.A (execs st X.env) (ji X pins D) X.ct s
theorem bk {α:Type}{t:Sem α}{Q og:α->Shared->Prop}{M:Model}{A:Around}{E:ajv}{s:Shared}(h:wpAny M A t Q E s)(hF:∀a s,Q a s->og a s):wpAny M A t og E s:=afV h hF fun _ _ x=>x
section
variable {X:aO}
variable {x:Str}{pos:Pos}{E Q:ajv}{pins:ajx}{s:Shared}{σ:St}{H:ah}{u:Value}{v:V}
def u3 (i:Nat):TE:=fun σ H Q=>∃v,σ[i]?=some (some v)/\Q v H
def gv (v:V):TE:=fun _ H Q=>Q v H
theorem K_ {i:Nat}(hN:X.N[i]?=some x)(hv:m7 X.env.scope x)(hd:(x == ("__debug__":Str))=false:=by decide)(hcd:(x == ("__classdict__":Str))=false:=by decide):bN X (.Name x pos) (u3 i):=by
 intro pins s σ H Q I h
 obtain ⟨v,e,h⟩:=h
 obtain ⟨m,hn,hl⟩:=I.loc
 obtain ⟨u,r,l⟩:=hl i x v hN e hv
 have fin:gh X pins σ Q u s:=⟨v,H,I,r,h⟩
 rcases l with ⟨hk,hm⟩|⟨hk,c,hc,vP⟩
 ·exact wpAny_Name (wpAny_loadName_local I.ok.kind hk hn hm fin) hd
 ·rcases hk with hk|hk
  ·exact wpAny_Name (wpAny_loadName_cell I.ok.kind hk hc vP fin) hd
  ·exact wpAny_Name (wpAny_loadName_free I.ok.kind hk hc vP fin hcd) hd
theorem aco {i j pos}:bN X (.Constant (.int i) j pos) (gv (.int i)):=fun _ _ _ H _ I h=>wpAny_Constant_int ⟨.int i,H,I.tok _,⟨_,rfl⟩,h⟩
theorem adC {b j pos}:bN X (.Constant (.bool b) j pos) (gv (.aG b)):=fun _ _ _ H _ I h=>Constant_bool ⟨.aG b,H,I,rfl,h⟩
theorem acm {j pos}:bN X (.Constant .none j pos) (gv .bz):=fun _ _ _ H _ I h=>Constant_none ⟨.bz,H,I,rfl,h⟩
theorem aci {x j pos}:bN X (.Constant (.str x) j pos) (gv (.str x)):=fun _ _ _ H _ I h=>Calls.Constant_str ⟨.str x,H,I.tok _,⟨_,rfl⟩,h⟩
def eF (X:aO)(x:Str):Prop:=X.env.kindOf x=some .globalImplicit
theorem uD (I:Inv X pins σ H s)(hg:eF X x)(hm:X.mg x=some u)(h:Q u s)
  (hd:(x == ("__debug__":Str))=false:=by decide):wpAny (model X.prog X.w) X.A (eval (.Name x pos) X.env) Q E s:=
 ajk I.ok.kind hg (Calls.loadGlobal_global (by rw[I.ok.glob];exact I.mod.glob.keeps I.d8) hm h) hd
theorem mS (I:Inv X pins σ H s)(hg:eF X x)(hm:X.mg x=none)(hv:bootBuiltins x=some u)(h:Q u s)
  (hn:x≠"__name__":=by decide)(hd:(x == ("__debug__":Str))=false:=by decide):wpAny (model X.prog X.w) X.A (eval (.Name x pos) X.env) Q E s:=by
 obtain ⟨lh,h1,h2⟩:=I.mod.blt
 exact ajk I.ok.kind hg (Calls.loadGlobal_builtin (by rw[I.ok.glob];exact I.mod.glob.keeps I.d8) hm (by rw[I.ok.blt];exact h1.keeps I.d8) ((h2 x hn).trans hv) h) hd
theorem Z6 (hg:eF X x)(hm:X.mg x=some u)(r:RelV v u)(hd:(x == ("__debug__":Str))=false:=by decide):bN X (.Name x pos) (gv v):=
 fun _ _ _ H _ I h=>uD I hg hm ⟨v,H,I,r,h⟩ hd
theorem aab (hg:eF X x)(hm:X.mg x=none)(hv:bootBuiltins x=some u)(r:RelV v u)(hn:x≠"__name__":=by decide)(hd:(x == ("__debug__":Str))=false:=by decide):bN X (.Name x pos) (gv v):=
 fun _ _ _ H _ I h=>mS I hg hm hv ⟨v,H,I,r,h⟩ hn hd
variable {a b:Expr}{aC aY:TE}{pos:Pos}
def B2 (t:TE):TT:=fun σ H Q=>t σ H fun x H1=>∃c,x=.aG c/\Q c H1
theorem abZ {e:Expr}{t:TE}(h:bN X e t)(he:∀whole,isTrue e X.env whole=(do let v <-whole;standAt e.pos;holding [v] (truthy v)):=by intro _;rfl):jg X e (B2 t):=by
 intro pins s σ H Q I hw
 refine isTrue_plain (bk (h pins s σ H _ I hw) fun v s1 ⟨x,H1,aF,au,aL⟩=>?_) (he _)
 obtain ⟨d,rfl,q⟩:=aL
 cases au
 exact ag6 ⟨H1,aF,q⟩
variable {fA nH:TT}{rest:ajE}
def Ef (t u:TT):TT:=fun σ H Q=>t σ H fun c H1=>if c=true then u σ H1 Q else Q false H1
def B4 (t u:TT):TT:=fun σ H Q=>t σ H fun c H1=>if c=true then Q true H1 else u σ H1 Q
def Eb (t:TT):TT:=fun σ H Q=>t σ H fun c H1=>Q (!c) H1
theorem ZS (ha:jg X a fA):mj X (.BoolOp .And [a] pos) fA:=by
 intro uc pins s σ H Q I h
 refine isTrue_and (bk (ha pins s σ H Q I h) fun c s1 e=>?_)
 cases c with
 | true=>exact isTrue_and_nil e
 | false=>exact e
theorem abX (ha:jg X a fA):mj X (.BoolOp .Or [a] pos) fA:=by
 intro uc pins s σ H Q I h
 refine isTrue_or (bk (ha pins s σ H Q I h) fun c s1 e=>?_)
 cases c with
 | false=>exact isTrue_or_nil e
 | true=>exact e
theorem abY (ha:jg X a fA)(hb:mj X (.BoolOp .And (b::rest) pos) nH):mj X (.BoolOp .And (a::b::rest) pos) (Ef fA nH):=by
 intro uc pins s σ H Q I h
 refine isTrue_and (bk (ha pins s σ H _ I h) fun c s1 hz=>?_)
 obtain ⟨H1,aF,aL⟩:=hz
 cases c with
 | true=>exact hb uc pins s1 σ H1 Q aF aL
 | false=>exact ⟨H1,aF,aL⟩
theorem adu (ha:jg X a fA)(hb:mj X (.BoolOp .Or (b::rest) pos) nH):mj X (.BoolOp .Or (a::b::rest) pos) (B4 fA nH):=by
 intro uc pins s σ H Q I h
 refine isTrue_or (bk (ha pins s σ H _ I h) fun c s1 hz=>?_)
 obtain ⟨H1,aF,aL⟩:=hz
 cases c with
 | true=>exact ⟨H1,aF,aL⟩
 | false=>exact hb uc pins s1 σ H1 Q aF aL
theorem ab0 (ha:jg X a fA):jg X (.UnaryOp .Not a pos) (Eb fA):=by
 intro pins s σ H Q I h
 exact isTrue_not (ha pins s σ H (fun c H1=>Q (!c) H1) I h)
def DQ (aC aY:TE):TE:=fun σ H Q=>aC σ H fun x H1=>∃c,x=.aG c/\if c=true then aY σ H1 Q else Q (.aG false) H1
def Ea (aC aY:TE):TE:=fun σ H Q=>aC σ H fun x H1=>∃c,x=.aG c/\if c=true then Q (.aG true) H1 else aY σ H1 Q
def LV (aC:TE):TE:=fun σ H Q=>aC σ H fun x H1=>∃c,x=.aG c/\Q (.aG (!c)) H1
theorem acj {op}{t:TE}(h:bN X a t):bN X (.BoolOp op [a] pos) t:=fun pins s σ H Q I hw=>BoolOp_one (h pins s σ H Q I hw)
theorem acr (ha:bN X a aC)(hb:bN X (.BoolOp .And (b::rest) pos) aY):bN X (.BoolOp .And (a::b::rest) pos) (DQ aC aY):=by
 intro pins s σ H Q I h
 refine BoolOp_and (bk (ha pins s σ H _ I h) fun v s1 hz=>?_)
 obtain ⟨x,H1,aF,au,aL⟩:=hz
 obtain ⟨c,rfl,aL⟩:=aL
 cases au
 refine ag6 ?_
 cases c with
 | true=>exact hb pins s1 σ H1 Q aF aL
 | false=>exact ⟨.aG false,H1,aF,rfl,aL⟩
theorem ady (ha:bN X a aC)(hb:bN X (.BoolOp .Or (b::rest) pos) aY):bN X (.BoolOp .Or (a::b::rest) pos) (Ea aC aY):=by
 intro pins s σ H Q I h
 refine BoolOp_or (bk (ha pins s σ H _ I h) fun v s1 hz=>?_)
 obtain ⟨x,H1,aF,au,aL⟩:=hz
 obtain ⟨c,rfl,aL⟩:=aL
 cases au
 refine ag6 ?_
 cases c with
 | false=>exact hb pins s1 σ H1 Q aF aL
 | true=>exact ⟨.aG true,H1,aF,rfl,aL⟩
theorem ack (ha:bN X a aC):bN X (.UnaryOp .Not a pos) (LV aC):=by
 intro pins s σ H Q I h
 refine UnaryOp_ (bk (ha pins s σ H _ I h) fun v s1 hz=>?_)
 obtain ⟨x,H1,aF,au,aL⟩:=hz
 obtain ⟨c,rfl,aL⟩:=aL
 cases au
 exact not_of (ag6 ⟨.aG (!c),H1,aF,rfl,aL⟩)
def B3 (t:TT)(aC aY:TE):TE:=fun σ H Q=>t σ H fun c H1=>if c=true then aC σ H1 Q else aY σ H1 Q
theorem YV {c:Expr}(hc:jg X c fA)(ha:bN X a aC)(hb:bN X b aY):bN X (.IfExp c a b pos) (B3 fA aC aY):=by
 intro pins s σ H Q I h
 refine wpAny_IfExp (bk (hc pins s σ H _ I h) fun d s1 hz=>?_)
 obtain ⟨H1,aF,aL⟩:=hz
 cases d with
 | true=>exact ha pins s1 σ H1 Q aF aL
 | false=>exact hb pins s1 σ H1 Q aF aL
end
def bP (K:ajA)(H:ah)(a:Addr)(xs:List V):Prop:=
 gR H a (.lst xs)\/
  ∃(o:Obj) (its:Array Value) (n:Nat),K.lookup a=some o/\o.cls=.type "list"/\o.dict=none/\o.data=.seq its n/\its.size<=sizeLine/\Vals xs its.toList
def bp (K:ajA)(H:ah)(a:Addr)(xs:List V):Prop:=
 gR H a (.tup xs)\/
  ∃(o:Obj) (its:Array Value) (n:Nat),K.lookup a=some o/\o.cls=.type "tuple"/\o.data=.seq its n/\its.size<=sizeLine/\Vals xs its.toList
def aeo:Value->Option V
 | .none=>some .bz
 | .bool b=>some (.aG b)
 | .int i _=>some (.int i)
 | .str x _=>some (.str x)
 | .bytes b _=>some (.kZ b)
 | .float b _=>some (.pO b)
 | .ref a=>some (.ref a)
 | .type n=>some (.ty n)
 | _=>none
theorem RelV.abs {x:V}{u:Value}(r:RelV x u):aeo u=some x:=by
 cases x with
 | bz=>cases r;rfl
 | aG _=>cases r;rfl
 | int _=>obtain ⟨t,rfl⟩:=r;rfl
 | str _=>obtain ⟨t,rfl⟩:=r;rfl
 | kZ _=>obtain ⟨t,rfl⟩:=r;rfl
 | pO _=>obtain ⟨t,rfl⟩:=r;rfl
 | ref _=>cases r;rfl
 | ty _=>cases r;rfl
theorem RelV.inj {x y:V}{u:Value}(r:RelV x u)(q:RelV y u):x=y:=agq (r.abs.symm.trans q.abs)
theorem Vals.inj:∀{xs ys:List V}{us:ajC},Vals xs us->Vals ys us->xs=ys
 | _,_,_,.nil,.nil=>rfl
 | _,_,_,.cons r t,.cons bJ t'=>by rw[r.inj bJ,Vals.inj t t']
section
variable {X:aO}{pins:ajx}{σ:St}{H:ah}{s:Shared}{a:Addr}{xs ys:List V}
theorem bP.of {K:ajA}(h:H a=some (.lst xs)):bP K H a xs:=.inl (.inl h)
theorem bp.of {K:ajA}(h:H a=some (.tup xs)):bp K H a xs:=.inl (.inl h)
theorem Inv.list (I:Inv X pins σ H s)(h:bP X.K H a xs):∃its:List Value,Vals xs its/\PlainL s.heap a its.toArray/\xs.length<=sizeLine:=by
 rcases h with h|⟨o,its,n,hk,hc,hd,hs,aZ,r⟩
 ·obtain ⟨z,its,n,r,e⟩:=h.ok I.aX
  exact ⟨its,r,⟨_,n,e,rfl,rfl,rfl⟩,z⟩
 ·refine ⟨its.toList,r,⟨o,n,I.en a o hk,hc,hd,by simpa using hs⟩,?_⟩
  have e:=r.length
  simp only[ah8]at e
  lia
theorem Inv.tuple (I:Inv X pins σ H s)(h:bp X.K H a xs):∃its:List Value,Vals xs its/\IsTup s.heap a its.toArray/\xs.length<=sizeLine:=by
 rcases h with h|⟨o,its,n,hk,hc,hs,aZ,r⟩
 ·obtain ⟨z,its,r,p⟩:=h.ok I.aX
  exact ⟨its,r,p,z⟩
 ·refine ⟨its.toList,r,⟨o,I.en a o hk,hc,n,by simpa using hs⟩,?_⟩
  have e:=r.length
  simp only[ah8]at e
  lia
theorem Inv.GU (I:Inv X pins σ H s)(h:bP X.K H a xs)(h':bP X.K H a ys):xs=ys:=by
 obtain ⟨its,r,⟨o,n,e,_,_,d⟩,_⟩:=I.list h
 obtain ⟨its',bJ,⟨dR,ao,aU,_,_,d'⟩,_⟩:=I.list h'
 rw[e]at aU;cases aU
 rw[d]at d'
 injection d' with eH _
 have:its=its':=by simpa using congrArg Array.toList eH
 subst this
 exact r.inj bJ
theorem Inv.B9 (I:Inv X pins σ H s)(h:bp X.K H a xs)(h':bp X.K H a ys):xs=ys:=by
 obtain ⟨its,r,⟨o,e,_,n,d⟩,_⟩:=I.tuple h
 obtain ⟨its',bJ,⟨dR,aU,_,ao,d'⟩,_⟩:=I.tuple h'
 rw[e]at aU;cases aU
 rw[d]at d'
 injection d' with eH _
 have:its=its':=by simpa using congrArg Array.toList eH
 subst this
 exact r.inj bJ
end
abbrev aO.mK (X:aO)(E:ajv):aO:={X with ct:=E}
abbrev aO.p2 (X:aO):aO:=X.mK fun _ _=>False
theorem aO.Ok.mK {X:aO}(ok:X.Ok)(E:ajv):(X.mK E).Ok:=
 ⟨ok.mod,ok.kind,ok.glob,ok.blt,ok.above,ok.inj,ok.has,ok.lL,ok.hd,ok.frames,ok.nG,ok.pL,ok.bs,ok.ij,ok.lX,ok.lQ,ok.hT,ok.k_⟩
theorem aO.Ok.oW {X:aO}{E:ajv}(ok:(X.mK E).Ok):X.Ok:=
 ⟨ok.mod,ok.kind,ok.glob,ok.blt,ok.above,ok.inj,ok.has,ok.lL,ok.hd,ok.frames,ok.nG,ok.pL,ok.bs,ok.ij,ok.lX,ok.lQ,ok.hT,ok.k_⟩
section
variable {X:aO}{pins:ajx}{σ:St}{H:ah}{s:Shared}{E:ajv}
theorem Inv.mK (I:Inv X pins σ H s)(E:ajv):Inv (X.mK E) pins σ H s:=⟨I.ok.mK E,I.os,I.bare,I.base,I.loc,I.cell,I.free,I.g6,I.pin,I.aX,I.len⟩
theorem Inv.oW (I:Inv (X.mK E) pins σ H s):Inv X pins σ H s:=⟨I.ok.oW,I.os,I.bare,I.base,I.loc,I.cell,I.free,I.g6,I.pin,I.aX,I.len⟩
theorem ji.oW {D:Ends}{f:Flow}{ar:Shared}(h:ji (X.mK E) pins D f ar):ji X pins D f ar:=by
 cases f with
 | next=>obtain ⟨aE,J,I,q⟩:=h;exact ⟨aE,J,I.oW,q⟩
 | brk=>obtain ⟨aE,J,I,q⟩:=h;exact ⟨aE,J,I.oW,q⟩
 | cont=>obtain ⟨aE,J,I,q⟩:=h;exact ⟨aE,J,I.oW,q⟩
 | ret u=>obtain ⟨v,aE,J,I,r,q⟩:=h;exact ⟨v,aE,J,I.oW,r,q⟩
theorem iM.p2 {st:List Stmt}{t:cT}(h:iM X.p2 st t):iM X st t:=fun pins s σ H D I hw=>
 afV (h pins s σ H D (I.mK _) hw) (fun _ _ q=>q.oW) fun _ _ z=>False.elim z
end
section
variable {X:aO}{st:Stmt}{rest:List Stmt}{t u:cT}{e:Expr}{a8:TE}{pos:Pos}
def DO:cT:=fun D σ H=>D.nx σ H
def D9 (t u:cT):cT:=fun D σ H=>t {D with nx:=u D} σ H
theorem ZV:iM X [] DO:=fun _ _ σ H _ I h=>ahE ⟨σ,H,I,h⟩
theorem YN (h1:hC X st t)(h2:iM X rest u):iM X (st::rest) (D9 t u):=by
 intro pins s σ H D I h
 refine wpAny_execs_cons (bk (h1 pins s σ H {D with nx:=u D} I h) fun f s1 q=>?_)
 cases f with
 | next=>
  obtain ⟨aE,J,ia,q⟩:=q
  exact h2 pins s1 aE J D ia q
 | ret v=>exact q
 | brk=>exact q
 | cont=>exact q
theorem ZU (h1:hC X st t):iM X [st] t:=by
 intro pins s σ H D I h
 refine wpAny_execs_cons (bk (h1 pins s σ H D I h) fun f s1 q=>?_)
 cases f with
 | next=>exact ahE q
 | ret v=>exact q
 | brk=>exact q
 | cont=>exact q
theorem Inv.quiet {pins:ajx}{σ:St}{H:ah}{s:Shared}(I:Inv X pins σ H s):interactive X.env=false:=by simp[interactive,I.ok.kind]
def LW (a8:TE):cT:=fun D σ H=>a8 σ H fun _ H1=>D.nx σ H1
theorem ZW (he:bN X e a8)(hs:swapsWith e none pos.line X.env=pure false:=by rfl):hC X (.Expr e pos) (LW a8):=by
 intro pins s σ H D I h
 exact wpAny_Expr_any (bk (he pins s σ H _ I h) fun v s1 ⟨x,H1,aF,au,aL⟩=>⟨σ,H1,aF,aL⟩) I.quiet hs
def D_ (a8:TE):cT:=fun D σ H=>a8 σ H D.eT
theorem ab2 (he:bN X e a8):hC X (.Return (some e) pos) (D_ a8):=by
 intro pins s σ H D I h
 exact wpAny_Return_some (bk (he pins s σ H _ I h) fun v s1 ⟨x,H1,aF,au,aL⟩=>⟨x,σ,H1,aF,au,aL⟩)
def Ec (c:TT)(t u:cT):cT:=fun D σ H=>c σ H fun b H1=>if b=true then t D σ H1 else u D σ H1
theorem adv {c:Expr}{a b:List Stmt}{fB:TT}(hc:jg X c fB)(ha:iM X a t)(hb:iM X b u):hC X (.If c a b pos) (Ec fB t u):=by
 intro pins s σ H D I h
 refine wpAny_If (bk (hc pins s σ H _ I h) fun d s1 hz=>?_)
 obtain ⟨H1,aF,aL⟩:=hz
 cases d with
 | true=>exact ha pins s1 σ H1 D aF aL
 | false=>exact hb pins s1 σ H1 D aF aL
def Dr:cT:=fun _ _ _=>False
theorem YP:hC X st Dr:=fun _ _ _ _ _ _ h=>h.elim
end
abbrev dX:=V->St->ah->(St->ah->Prop)->Prop
abbrev jk:=List V->St->ah->(St->ah->Prop)->Prop
def jf (X:aO)(target:Expr)(t:dX):Prop:=
 ∀(pins:ajx)(s:Shared)(σ:St)(H:ah)(v:V)(u:Value)(Q:St->ah->Prop),Inv X pins σ H s->RelV v u->t v σ H Q->
  wpAny (model X.prog X.w) X.A (assign target X.env u) (fun _ ar=>∃aE J,Inv X pins aE J ar/\Q aE J) X.ct s
def su (X:aO)(ts:ajE)(t:jk):Prop:=
 ∀(pins:ajx)(s:Shared)(σ:St)(H:ah)(aa:List V)(us:ajC)(Q:St->ah->Prop),Inv X pins σ H s->Vals aa us->t aa σ H Q->
  wpAny (model X.prog X.w) X.A (assignInOrder ((assignEach ts X.env).map (·.2)) us) (fun _ ar=>∃aE J,Inv X pins aE J ar/\Q aE J) X.ct s
abbrev xR:=V->V->V->ah->(ah->Prop)->Prop
def Et (X:aO)(t:xR):Prop:=
 ∀(pins:ajx)(s:Shared)(σ:St)(H:ah)(o i v:V)(gE g8 u:Value)(Q:ah->Prop),Inv X pins σ H s->RelV o gE->RelV i g8->RelV v u->t o i v H Q->
  wpAny (model X.prog X.w) X.A (setItem gE g8 u) (fun _ ar=>∃J,Inv X pins σ J ar/\Q J) X.ct s
abbrev sD:=V->V->ah->bW->Prop
def pv (X:aO)(op:Operator)(t:sD):Prop:=
 ∀(pins:ajx)(s:Shared)(σ:St)(H:ah)(x y:V)(v u:Value)(Q:bW),Inv X pins σ H s->RelV x v->RelV y u->t x y H Q->
  wpAny (model X.prog X.w) X.A (inplaceOp op v u) (gh X pins σ Q) X.ct s
section
variable {X:aO}{pos:Pos}
variable {i:Nat}{x:Str}{e:Expr}{aA:ajE}{a8:TE}{pos':Pos}
def kL (i:Nat):dX:=fun v σ H Q=>Q (σ.set i (some v)) H
theorem Z4 (hN:X.N.Nodup)(hi:X.N[i]?=some x)(hx:Loc X.env.scope x)(hf:X.fn x=true\/X.env.scope.names.lookup x=some .local:=by first|exact .inl rfl|exact .inr rfl|assumption):jf X (.Name x pos) (kL i):=by
 intro pins s σ H v u Q I r h
 exact aiG (ql I hN hi hx r (fun ar ia=>⟨_,H,ia,h⟩) hf)
def xQ:jk:=fun aa σ H Q=>aa=[]/\Q σ H
def uX (t:dX)(u:jk):jk:=fun aa σ H Q=>∃v r,aa=v::r/\t v σ H fun aE J=>u r aE J Q
theorem Z3:su X [] xQ:=by
 intro pins s σ H aa us Q I r h
 obtain ⟨e,h⟩:=h
 subst e
 cases r
 exact assignInOrder_nil ⟨σ,H,I,h⟩
theorem YT {t:dX}{u:jk}(h1:jf X e t)(h2:su X aA u)
  (hs:(assignEach (e::aA) X.env).map (·.2)=assign e X.env::(assignEach aA X.env).map (·.2):=by rfl):su X (e::aA) (uX t u):=by
 intro pins s σ H aa us Q I r h
 obtain ⟨v,rK,ai,h⟩:=h
 subst ai
 cases r with
 | cons r gF=>
  rw[hs]
  refine aiH (bk (h1 pins s σ H _ _ _ I r h) fun _ s1 hz=>?_)
  obtain ⟨qL,H1,aF,aL⟩:=hz
  exact h2 pins s1 qL H1 _ _ Q aF gF aL
def u5 (K:ajA)(n:Nat)(t:jk):dX:=fun v σ H Q=>∃a xs,v=.ref a/\bp K H a xs/\xs.length=n/\t xs σ H Q
theorem K9 {k:Nat}{t:jk}{n:Nat}(hc:X.calm=true)(h:su X aA t)
  (hn:(assignEach aA X.env).length=n:=by rfl)(hst:(assignEach aA X.env).findIdx? (·.1)=none:=by rfl):jf X (.Tuple aA k pos) (u5 X.K n t):=by
 intro pins s σ H v u Q I r hw
 obtain ⟨a,xs,ai,aM,hl,hw⟩:=hw
 subst ai
 cases r
 obtain ⟨its,bg,aH,aZ⟩:=I.tuple aM
 refine assign_Tuple_tuple (I.ok.hd hc) aH (by simp[hn,<-hl,bg.length]) hst fun h' hx=>?_
 have aF:Inv X pins σ H {s with heap:=h'}:=I.kept (t':=s.toks) fun b o e=>hx b o (af4 (afH e)) e
 exact h pins _ σ H xs _ Q aF (by simpa using bg) hw
def MG (to i6:TE)(t:xR):dX:=fun v σ H Q=>to σ H fun o H1=>i6 σ H1 fun i ag=>t o i v ag fun b3=>Q σ b3
theorem ace {o i:Expr}{to i6:TE}{t:xR}(ho:bN X o to)(hi:bN X i i6)(hs:Et X t)
  (ha:∀v,assign (.Subscript o i pos) X.env v=(do
   let gE <-holding [v] (eval o X.env)
   let g8 <-holding [v,gE] (eval i X.env)
   standAt pos
   holding [v,gE,g8] (setItem gE g8 v)
   release [v,gE,g8] []):=by intro _;rfl):jf X (.Subscript o i pos) (MG to i6 t):=by
 intro pins s σ H v u Q I r h
 rw[ha]
 refine afB (agB (bk (ho pins s σ H _ I h) fun gE s1 hz=>?_))
 obtain ⟨x,H1,aF,au,aL⟩:=hz
 refine afB (agB (bk (hi pins s1 σ H1 _ aF aL) fun g8 s2 hz=>?_))
 obtain ⟨y,ag,a3,bt,bU⟩:=hz
 refine afB (ags (afB (agB (bk (hs pins s2 σ ag x y v gE g8 u _ a3 au bt r bU) fun _ s3 hz=>?_))))
 obtain ⟨b3,dD,df⟩:=hz
 exact wpAny_release ⟨σ,b3,dD,df⟩
def mW (a8:TE)(g:dX):cT:=fun D σ H=>a8 σ H fun x H1=>g x σ H1 D.nx
theorem ab7 {bx:Expr}{g:dX}(he:bN X e a8)(hg:jf X bx g)(hs:swapsWithSole [bx] e pos.line X.env=pure false:=by rfl)(hw:swappedStores [bx] e X.env=pure none:=by rfl)
  (h1:(assignEach [bx] X.env).map (·.2)=[assign bx X.env]:=by rfl):hC X (.Assign [bx] e pos) (mW a8 g):=by
 intro pins s σ H D I h
 refine wpAny_Assign_stores (bk (he pins s σ H _ I h) fun v s1 ⟨x,H1,aF,au,aL⟩=>?_) hs hw
 rw[h1]
 exact bk (hg pins s1 σ H1 x v _ aF au aL) fun _ s2 q=>q
theorem ab1 (hN:X.N.Nodup)(hi:X.N[i]?=some x)(hx:Loc X.env.scope x)(he:bN X e a8)(hs:swapsWith e (some (.Name x pos')) pos.line X.env=pure false:=by rfl)(hf:X.fn x=true\/X.env.scope.names.lookup x=some .local:=by first|exact .inl rfl|exact .inr rfl|assumption) :
  hC X (.Assign [.Name x pos'] e pos) (mW a8 (kL i)):=by
 intro pins s σ H D I h
 refine wpAny_Assign_Name (bk (he pins s σ H _ I h) fun v s1 ⟨y,H1,aF,au,aL⟩=>?_) hs
 exact ql aF hN hi hx au (fun s2 a3=>⟨_,H1,a3,aL⟩) hf
def Mu (i j:Nat)(aC:cP):cT:=fun D σ H=>aC σ H fun aa H1=>∃v w,aa=[v,w]/\D.nx ((σ.set i (some v)).set j (some w)) H1
theorem ab3 {j:Nat}{y:Str}{a b:Expr}{aC:cP}{p8 py pt:Pos}{kt k2 p7}(hc:X.calm=true)(hN:X.N.Nodup)(hi:X.N[i]?=some x)(hj:X.N[j]?=some y)(hij:i≠j)
  (hx:X.env.scope.names.lookup x=some .local)(hy:X.env.scope.names.lookup y=some .local)(ha:hB X [a,b] aC)
  (hw:swappedStores [.Tuple [.Name x p8,.Name y py] kt pt] (.Tuple [a,b] k2 p7) X.env=pure (some [x,y]))
  (hs:swapsWithSole [.Tuple [.Name x p8,.Name y py] kt pt] (.Tuple [a,b] k2 p7) pos.line X.env=pure false:=by rfl) :
  hC X (.Assign [.Tuple [.Name x p8,.Name y py] kt pt] (.Tuple [a,b] k2 p7) pos) (Mu i j aC):=by
 intro pins s σ H D I h
 rw[exec_Assign_arm]
 refine afB (ags ?_)
 rw[hs]
 refine afB (afF ?_)
 rw[afC (by decide)]
 refine afB (Tuple_ (bk (ha _ pins s σ H _ I h) fun us s1 hz=>?_))
 obtain ⟨aa,H1,aF,au,aL⟩:=hz
 obtain ⟨v,w,ai,aL⟩:=aL
 subst ai
 obtain ⟨gJ,eM,rfl,bg,hW⟩:∃gJ eM,us=[gJ,eM]/\RelV v gJ/\RelV w eM:=by
  cases au with
  | cons p q =>
   cases q with
   | cons dy bD=>
    cases bD
    exact ⟨_,_,rfl,p,dy⟩
 refine agr ?_ (by show 2<=sizeLine;decide)
 have a3:Inv X pins σ H1 {s1 with heap:=s1.heap.push {cls:=.type "tuple",data:=.seq [gJ,eM].toArray}}:=aF.kept (t':=s1.toks) fun b o e=>afL _ e
 rw[hw]
 refine afB (afF ?_)
 show wpAny (model X.prog X.w) X.A (do rule "assign.swapped-stores";let items <-unpackItems (.ref s1.heap.objs.size) 2 none;assignInOrder [fun v=>bindName X.env y v,fun v=>bindName X.env x v] items.reverse;pure Flow.next) _ _ _
 refine afB (ahj (afB (unpackItems_tuple (items:=#[gJ,eM]) (I.ok.hd hc) (ag7 s1.heap _) fun h' tf=>?_)))
 have dD:=a3.kept (h':=h') (t':=s1.toks) fun b o e=>tf b o (af4 (afH e)) e
 show wpAny _ _ (assignInOrder [fun v=>bindName X.env y v,fun v=>bindName X.env x v] [eM,gJ] >>= fun _=>pure Flow.next) _ _ _
 refine afB (aiH (aiI (ql dD hN hj (.inl hy) hW (fun s2 iL=>?_) (.inr hy))))
 refine aiH (aiI (ql iL hN hi (.inl hx) bg (fun s3 fH=>assignInOrder_nil (afF ?_)) (.inr hx)))
 rw[List.set_comm _ _ (af_ hij)]at fH
 exact ⟨_,H1,fH,aL⟩
def xJ (i:Nat)(a8:TE)(i6:sD):cT:=fun D σ H=>∃x,σ[i]?=some (some x)/\a8 σ H fun y H1=>i6 x y H1 fun z ag=>D.nx (σ.set i (some z)) ag
theorem ab6 {op:Operator}{i6:sD}(hN:X.N.Nodup)(hi:X.N[i]?=some x)(hx:Loc X.env.scope x)(he:bN X e a8)(ho:pv X op i6)(hf:X.fn x=true\/X.env.scope.names.lookup x=some .local:=by first|exact .inl rfl|exact .inr rfl|assumption) :
  hC X (.AugAssign (.Name x pos') op e pos) (xJ i a8 i6):=by
 intro pins s σ H D I h
 obtain ⟨v,ai,h⟩:=h
 obtain ⟨m,hn,hl⟩:=I.loc
 have Wt:m7 X.env.scope x:=by rcases hx with k|k;exact .inl k;exact .inr (.inl k)
 obtain ⟨u,r,l⟩:=hl i x v hi ai Wt
 refine wpAny_AugAssign_Name ?_
 have go:wpAny (model X.prog X.w) X.A (eval e X.env) (fun w hZ=>wpAny (model X.prog X.w) X.A (inplaceOp op u w) (fun r fQ=>wpAny (model X.prog X.w) X.A (storeName X.env x r) (fun _=>ji X pins D .next) X.ct fQ) X.ct hZ) X.ct s:=by
  refine bk (he pins s σ H _ I h) fun w s1 hz=>?_
  obtain ⟨y,H1,aF,au,aL⟩:=hz
  refine bk (ho pins s1 σ H1 v y u w _ aF r au aL) fun z s2 hz=>?_
  obtain ⟨afy,ag,a3,bt,bU⟩:=hz
  exact ql a3 hN hi hx bt (fun s3 dD=>⟨_,ag,dD,bU⟩) hf
 rcases l with ⟨hk,hm⟩|⟨hk,c,hc,vP⟩
 ·exact wpAny_loadName_local I.ok.kind hk hn hm go
 ·rcases hk with hk|hk
  ·exact wpAny_loadName_cell I.ok.kind hk hc vP go
  ·rcases hx with k|k
   ·have:X.env.scope.names.lookup x=some .free:=hk
    rw[k]at this;cases this
   ·have:X.env.scope.names.lookup x=some .free:=hk
    rw[k]at this;cases this
def zH (f:Int->Int->Int):sD:=fun x y H Q=>∃i j,x=.int i/\y=.int j/\Q (.int (f i j)) H
theorem uP:pv X .Add (zH fun i j=>i+j):=by
 intro pins s σ H x y v u Q I au bt h
 obtain ⟨i,j,ai,az,q⟩:=h
 subst ai;subst az
 obtain ⟨t,rfl⟩:=au
 obtain ⟨t',rfl⟩:=bt
 exact iadd_int ⟨.int _,H,I.tok _,⟨_,rfl⟩,q⟩
theorem Lp:pv X .Sub (zH fun i j=>i-j):=by
 intro pins s σ H x y v u Q I au bt h
 obtain ⟨i,j,ai,az,q⟩:=h
 subst ai;subst az
 obtain ⟨t,rfl⟩:=au
 obtain ⟨t',rfl⟩:=bt
 exact isub_int ⟨.int _,H,I.tok _,⟨_,rfl⟩,q⟩
def xl (c:TT)(aY:cT):cT:=fun D σ H=>∃W:Nat->St->ah->Prop,(∃m,W m σ H)/\∀m σ H,W m σ H->
 c σ H fun b H1=>if b=true then ∃N:St->ah->Prop,(∀aE J,N aE J->∃cW,cW<m/\W cW aE J)/\aY {D with nx:=N,cq:=N,d8:=D.nx} σ H1 else D.nx σ H1
theorem YO {c:Expr}{body:List Stmt}{fB:TT}{aY:cT}(hp:PassesOwn (model X.prog X.w) X.A X.env X.ct)(hc:jg X c fB)(hb:iM X body aY):hC X (.While c body [] pos) (xl fB aY):=by
 intro pins s σ H D I h
 obtain ⟨W,⟨m0,h5⟩,turn⟩:=h
 refine wpAny_While (codeAny_whileLoop (fun n ar=>∃aE J,Inv X pins aE J ar/\W n aE J) ?_ m0 ⟨σ,H,I,h5⟩)
 rintro n s1 ⟨qL,H1,aF,jH⟩
 refine ag8 hp (bk (hc pins s1 qL H1 _ aF (turn n qL H1 jH)) fun b s2 hz=>?_)
 obtain ⟨ag,a3,bU⟩:=hz
 cases b with
 | true =>
  obtain ⟨N,hN,bU⟩:=bU
  rw[afD rfl]
  refine ag8 hp (bk (hb pins s2 qL ag _ a3 bU) fun f s3 df=>?_)
  cases f with
  | next=>
   obtain ⟨jV,b3,dD,cc⟩:=df
   obtain ⟨cW,hm,w3⟩:=hN jV b3 cc
   exact ⟨cW,hm,jV,b3,dD,w3⟩
  | cont=>
   obtain ⟨jV,b3,dD,cc⟩:=df
   obtain ⟨cW,hm,w3⟩:=hN jV b3 cc
   exact ⟨cW,hm,jV,b3,dD,w3⟩
  | brk=>exact df
  | ret v=>exact df
 | false=>
  rw[afC afT]
  exact ahE ⟨qL,ag,a3,bU⟩
end
structure gZ where
 go:Nat->ah->Prop
 kB:Nat->ah->V->ah->Prop
 stop:Nat->ah->Prop
variable {s:Shared}{bx:Expr}{P:Program}{w:World}{K:ajA}
def kP (X:aO)(pins:ajx)(H:ah)(b:Addr):Prop:=
 H b=none/\b≠X.env.locals/\b∉X.aR/\(b∈X.ex\/X.bf.heap.objs.size<=b)/\(∀x c,X.env.cells.lookup x=some c->c≠b)/\∀p∈X.de++pins,p.1≠b
theorem Inv.k9 {X:aO}{pins:ajx}{σ:St}{H J:ah}{b:Addr}(I:Inv X pins σ H s)(hb:s.heap.objs.size<=b)(hn:J b=none):kP X pins J b:=by
 refine ⟨hn,ahF (af0 I.lt hb),I.Tc hb,.inr (afK I.e1 hb),fun x c e z=>?_,fun p hp z=>?_⟩
 ·obtain ⟨v,q⟩:=I.cell x c e
  exact absurd (af0 q.lt (by rw[z];exact hb)) (agl _)
 ·exact absurd (af0 (afH (I.pin p hp).1) (by rw[z];exact hb)) (agl _)
structure Turn (P:Program)(w:World)(K:ajA)(bx:Expr)(bV:gZ)(fp:ajG)(it:Addr)(e2:Nat->Heap->Prop):Prop where
 mem:it∈fp
 obj:∀i h,e2 i h->∀b∈fp,∃o,h.get? b=some o/\∀v,o.data≠.cell v
 keep:∀i h h',e2 i h->(∀b∈fp,∀o,h.get? b=some o->h'.get? b=some o)->e2 i h'
 item:∀(X:aO),X.prog=P->X.w=w->X.K=K->X.calm=true->∀(i:Nat)(pins:ajx)(s:Shared)(σ:St)(H:ah)(E:ajv),Inv X pins σ H s->(∀b∈fp,kP X pins H b)->e2 i s.heap->bV.go i H->
  wpAny (model P w) X.A (pyNext (.ref it)) (fun r s1=>∃u,r=some u/\
   wpAny (model P w) X.A (letOwnedTupleGo bx (.ref it) u) (fun _ s2=>∃x J,Inv X pins σ J s2/\RelV x u/\bV.kB i H x J/\e2 (i+1) s2.heap/\∀b∈fp,J b=none) E s1) E s
 done:∀(X:aO),X.prog=P->X.w=w->X.K=K->X.calm=true->∀(i:Nat)(pins:ajx)(s:Shared)(σ:St)(H:ah)(E:ajv),Inv X pins σ H s->(∀b∈fp,kP X pins H b)->e2 i s.heap->bV.stop i H->
  wpAny (model P w) X.A (pyNext (.ref it)) (fun r s1=>r=none/\Inv X pins σ H s1) E s
 self:∀(A:Around)(i:Nat)(s:Shared)(Q:ajv)(E:ajv),e2 i s.heap->Q (.ref it) s->wpAny (model P w) A (pyIter (.ref it)) Q E s
abbrev TI:=St->ah->(gZ->ah->Prop)->Prop
def vi (X:aO)(pins:ajx)(σ:St)(bx:Expr)(R:gZ->ah->Prop)(tn:Value)(s2:Shared):Prop:=
 ∃(it:Addr) (fp:ajG) (e2:Nat->Heap->Prop) (bV:gZ) (J:ah),tn=.ref it/\Inv X pins σ J s2/\Turn X.prog X.w X.K bx bV fp it e2/\e2 0 s2.heap/\(∀b∈fp,kP X pins J b)/\R bV J
def hR (X:aO)(bx iter:Expr)(cZ:TI):Prop:=
 ∀(pins:ajx)(s:Shared)(σ:St)(H:ah)(R:gZ->ah->Prop),Inv X pins σ H s->cZ σ H R->
  wpAny (model X.prog X.w) X.A (eval iter X.env) (fun v s1=>wpAny (model X.prog X.w) X.A (pyIter v) (vi X pins σ bx R) X.ct s1) X.ct s
theorem uW {M:Model}{A:Around}{E:ajv}{it:Addr}{u:Value}{o:Obj}{n:String}{aa:Array Value}{Q:ajw}(ho:s.heap.get? it=some o)(hc:o.cls=.type n)(hd:o.data=.fields aa)
    (hn:["enumerate","zip","dict_itemiterator","dict_reverseitemiterator","odict_iterator","itertools.zip_longest","itertools.pairwise"].contains n=false)(hF:Q () s):wpAny M A (letOwnedTupleGo bx (.ref it) u) Q E s:=by
  unfold letOwnedTupleGo
  cases bx<;>first
    | exact afF hF
    | (cases u<;>first
        | exact afF hF
        | (refine afB (wpAny_load ho ?_)
           rw[hc,hd]
           show wpAny M A (if (["enumerate","zip","dict_itemiterator","dict_reverseitemiterator","odict_iterator","itertools.zip_longest","itertools.pairwise"].contains n&&aa[0]? == some (rawInt _))=true then _ else _) Q E s
           rw[afC (by intro h;rw[hn,ahG]at h;cases h)]
           exact afF hF))
def x7 (K:ajA)(a:Addr):gZ:=
 ⟨fun i H=>∃xs x,bP K H a xs/\xs[i]?=some x,fun i H x J=>J=H/\∀xs,bP K H a xs->xs[i]?=some x,fun i H=>∃xs,bP K H a xs/\xs.length<=i⟩
def oc (K:ajA)(a:Addr):gZ:=
 ⟨fun i H=>∃xs x,bp K H a xs/\xs[i]?=some x,fun i H x J=>J=H/\∀xs,bp K H a xs->xs[i]?=some x,fun i H=>∃xs,bp K H a xs/\xs.length<=i⟩
def lD (lo:Int)(n:Nat):gZ:=⟨fun i _=>i<n,fun i H x J=>J=H/\x=.int (lo+i),fun i _=>n<=i⟩
theorem XC (a it:Addr):Turn P w K bx (x7 K a) [it] it (fun i h=>h.IsListIter it a i) where
 mem:=by simp
 obj:=fun i h st b hb=>by
  have e:b=it:=by simpa using hb
  subst e
  obtain ⟨o,e,c,d⟩:=st
  exact ⟨o,e,fun v z=>by rw[d]at z;cases z⟩
 keep:=fun i h h' st k=>st.at fun o e=>k it (by simp) o e
 item:=by
  intro X et hw bL hc i pins s σ H E I hf st hg
  subst et hw bL
  obtain ⟨xs,x,aM,hx⟩:=hg
  obtain ⟨its,bg,p,aZ⟩:=I.list aM
  obtain ⟨u,hu,fz⟩:=bg.get hx
  obtain ⟨f0,f1,f2,d3,f4,eB⟩:=hf it (by simp)
  refine wpAny_pyNext_list_item st p.isList (x:=u) (by simpa using hu) fun h' i5 i3=>?_
  have aF:Inv X pins σ H {s with heap:=h'}:=I.turned (t':=s.toks) (fun b o hb e=>(i3.2 b hb).trans e) f0 f1 d3 f4 eB
  obtain ⟨o,e,c,d⟩:=id i5
  exact ⟨u,rfl,uW (s:={s with heap:=h'}) e c d (by decide) ⟨x,H,aF,fz,⟨rfl,fun ys hy=>by rw[I.GU hy aM];exact hx⟩,i5,fun b hb=>(hf b hb).1⟩⟩
 done:=by
  intro X et hw bL hc i pins s σ H E I hf st hg
  subst et hw bL
  obtain ⟨xs,aM,hx⟩:=hg
  obtain ⟨its,bg,p,aZ⟩:=I.list aM
  obtain ⟨f0,f1,f2,d3,f4,eB⟩:=hf it (by simp)
  have hl:=bg.length
  exact wpAny_pyNext_list_end (I.ok.hd hc) st p.isList (by simp;lia) fun h' f5=>⟨rfl,I.turned (t':=s.toks) (fun b o hb e=>f5 b o hb e) f0 f1 d3 f4 eB⟩
 self:=fun _ _ _ _ _ st h=>wpAny_pyIter_listiter st h
theorem II (a it:Addr):Turn P w K bx (oc K a) [it] it (fun i h=>h.IsTupleIter it a i) where
 mem:=by simp
 obj:=fun i h st b hb=>by
  have e:b=it:=by simpa using hb
  subst e
  obtain ⟨o,e,c,d⟩:=st
  exact ⟨o,e,fun v z=>by rw[d]at z;cases z⟩
 keep:=fun i h h' st k=>st.at fun o e=>k it (by simp) o e
 item:=by
  intro X et hw bL hc i pins s σ H E I hf st hg
  subst et hw bL
  obtain ⟨xs,x,aM,hx⟩:=hg
  obtain ⟨its,bg,p,aZ⟩:=I.tuple aM
  obtain ⟨u,hu,fz⟩:=bg.get hx
  obtain ⟨f0,f1,f2,d3,f4,eB⟩:=hf it (by simp)
  refine wpAny_pyNext_tuple_item st (show s.heap.IsTuple a its.toArray from p) (x:=u) (by simpa using hu) fun h' i5 i3=>?_
  have aF:Inv X pins σ H {s with heap:=h'}:=I.turned (t':=s.toks) (fun b o hb e=>(i3.2 b hb).trans e) f0 f1 d3 f4 eB
  obtain ⟨o,e,c,d⟩:=id i5
  exact ⟨u,rfl,uW (s:={s with heap:=h'}) e c d (by decide) ⟨x,H,aF,fz,⟨rfl,fun ys hy=>by rw[I.B9 hy aM];exact hx⟩,i5,fun b hb=>(hf b hb).1⟩⟩
 done:=by
  intro X et hw bL hc i pins s σ H E I hf st hg
  subst et hw bL
  obtain ⟨xs,aM,hx⟩:=hg
  obtain ⟨its,bg,p,aZ⟩:=I.tuple aM
  obtain ⟨f0,f1,f2,d3,f4,eB⟩:=hf it (by simp)
  have hl:=bg.length
  exact wpAny_pyNext_tuple_end (I.ok.hd hc) st (show s.heap.IsTuple a its.toArray from p) (by simp;lia) fun h' f5=>⟨rfl,I.turned (t':=s.toks) (fun b o hb e=>f5 b o hb e) f0 f1 d3 f4 eB⟩
 self:=fun _ _ _ _ _ st h=>wpAny_pyIter_tupleiter st h
theorem IJ (it:Addr)(lo:Int)(n:Nat):Turn P w K bx (lD lo n) [it] it (fun i h=>IsRangeIter h it (lo+(i:Nat)*1) ((n:Int)-(i:Nat)) 1) where
 mem:=by simp
 obj:=fun i h st b hb=>by
  have e:b=it:=by simpa using hb
  subst e
  exact ⟨_,st,fun v z=>by
   have dO:Data.fields _=Data.cell v:=z
   cases dO⟩
 keep:=fun i h h' st k=>k it (by simp) _ st
 item:=by
  intro X et hw bL hc i pins s σ H E I hf st hg
  subst et hw bL
  obtain ⟨f0,f1,f2,d3,f4,eB⟩:=hf it (by simp)
  have W:=Walks.range (prog:=X.prog) (w:=X.w) (I.ok.hd hc) it lo 1 n
  refine W.item i s _ _ hg st fun v h' tk hv i5 kk=>?_
  obtain ⟨t,rfl⟩:=hv
  have aF:Inv X pins σ H {s with heap:=h',toks:=tk}:=I.turned (fun b o hb e=>kk b o (by simpa using hb) e) f0 f1 d3 f4 eB
  refine ⟨_,rfl,uW (s:={s with heap:=h',toks:=tk}) (n:="range_iterator") i5 rfl rfl (by decide) ⟨.int (lo+i),H,aF,⟨t,?_⟩,⟨rfl,rfl⟩,i5,fun b hb=>(hf b hb).1⟩⟩
  rw[ahH]
 done:=by
  intro X et hw bL hc i pins s σ H E I hf st hg
  subst et hw bL
  obtain ⟨f0,f1,f2,d3,f4,eB⟩:=hf it (by simp)
  exact wpAny_pyNext_range_end (I.ok.hd hc) st (by have:n<=i:=hg;lia) fun h' f5=>⟨rfl,I.turned (t':=s.toks) (fun b o hb e=>f5 b o hb e) f0 f1 d3 f4 eB⟩
 self:=fun _ _ _ _ _ st h=>wpAny_pyIter_rangeiter st h
section
variable {X:aO}{bx:Expr}
variable {pins:ajx}{σ:St}{H:ah}{s:Shared}{aC:cP}{pos:Pos}{fp:ajG}{h:Heap}
def ME (K:ajA)(eo:TE):TI:=fun σ H R=>eo σ H fun x H1=>∃a,x=.ref a/\(∃xs,bp K H1 a xs)/\R (oc K a) H1
theorem aca {l:Expr}{eo:TE}(hl:bN X l eo):hR X bx l (ME X.K eo):=by
 intro pins s σ H R I h
 refine bk (hl pins s σ H _ I h) fun v s1 hz=>?_
 obtain ⟨x,H1,aF,au,aL⟩:=hz
 obtain ⟨a,e,⟨xs,aM⟩,q⟩:=aL
 subst e
 cases au
 obtain ⟨its,bg,p,aZ⟩:=aF.tuple aM
 refine wpAny_pyIter_tuple (show s1.heap.IsTuple a its.toArray from p) ?_
 refine ⟨s1.heap.objs.size,[s1.heap.objs.size],_,_,H1,rfl,aF.kept (t':=s1.toks) fun b o e=>afL _ e,II a _,⟨_,af3 _ rfl,rfl,rfl⟩,fun b hb=>?_,q⟩
 have e:b=s1.heap.objs.size:=by simpa using hb
 subst e
 exact aF.k9 (afE _) (aF.aX.fresh (afE _))
theorem CF {R:gZ->ah->Prop}{E:ajv}{lo hi:Int}{t u v:Tok}{tk:Nat}(I:Inv X pins σ H s)(h1:-(2^62)<=lo)(h2:lo<2^62)(aQ:-(2^62)<=hi)(bS:hi<2^62)
  (q:R (lD lo (hi-lo).toNat) H):wpAny (model X.prog X.w) X.A (pyIter (.ref s.heap.objs.size)) (vi X pins σ bx R) E {s with heap:=s.heap.push {cls:=.type "range",data:=.fields #[.int lo t,.int hi u,.int 1 v]},toks:=tk}:=by
 refine aiJ (ah9 ..) (small_one h1 h2 aQ bS) ?_
 have aF:Inv X pins σ H {s with heap:=s.heap.push {cls:=.type "range",data:=.fields #[.int lo t,.int hi u,.int 1 v]},toks:=tk}:=I.kept fun b o e=>afL _ e
 refine ⟨(s.heap.push {cls:=.type "range",data:=.fields #[.int lo t,.int hi u,.int 1 v]}).objs.size,[(s.heap.push {cls:=.type "range",data:=.fields #[.int lo t,.int hi u,.int 1 v]}).objs.size],_,_,H,rfl,
  aF.kept (t':=tk) fun b o e=>afL _ e,IJ _ lo (hi-lo).toNat,?_,fun b hb=>?_,q⟩
 ·have ai:lo+((0:Nat):Int)*1=lo:=by simp
  have az:(((hi-lo).toNat:Nat):Int)-((0:Nat):Int)=Builtin.Range.rangeSize lo hi 1:=by rw[rangeSize_one];split<;>lia
  show IsRangeIter _ _ (lo+((0:Nat):Int)*1) ((((hi-lo).toNat:Nat):Int)-((0:Nat):Int)) 1
  rw[ai,az]
  exact af3 _ rfl
 ·have e:b=(s.heap.push {cls:=.type "range",data:=.fields #[.int lo t,.int hi u,.int 1 v]}).objs.size:=by simpa using hb
  subst e
  exact aF.k9 (afE _) (aF.aX.fresh (afE _))
def DX (aC:cP):TI:=fun σ H R=>aC σ H fun aa H1=>∃j:Int,aa=[.int j]/\-(2^62)<=j/\j<2^62/\R (lD 0 j.toNat) H1
def DW (aC:cP):TI:=fun σ H R=>aC σ H fun aa H1=>∃i j:Int,aa=[.int i,.int j]/\(-(2^62)<=i/\i<2^62/\-(2^62)<=j/\j<2^62)/\R (lD i (j-i).toNat) H1
theorem XT {a:Expr}{p:Pos}(hg:eF X "range")(hm:X.mg "range"=none)(ha:hB X [a] aC)(hs:starEach [a] X.env=[(false,eval a X.env)]:=by rfl):hR X bx (.Call (.Name "range" p) [a] [] pos) (DX aC):=by
 intro pins s σ H R I h
 refine Call_ (mS I hg hm boot_range (agW (bk (ha pos pins s σ H _ I h) fun us s1 ⟨aa,H1,aF,au,aL⟩=>?_) hs rfl))
 obtain ⟨j,e,aL,bU,q⟩:=aL
 subst e
 cases au with
 | cons r gF=>
  cases gF
  obtain ⟨t,rfl⟩:=r
  exact call_range_1 (CF aF ⋯ ⋯ aL bU (by simpa using q))
theorem XS {a b:Expr}{p:Pos}(hg:eF X "range")(hm:X.mg "range"=none)(ha:hB X [a,b] aC)(hs:starEach [a,b] X.env=[(false,eval a X.env),(false,eval b X.env)]:=by rfl)(hs2:starEach [b] X.env=[(false,eval b X.env)]:=by rfl) :
  hR X bx (.Call (.Name "range" p) [a,b] [] pos) (DW aC):=by
 intro pins s σ H R I h
 refine Call_ (mS I hg hm boot_range (agW (bk (ha pos pins s σ H _ I h) fun us s1 ⟨aa,H1,aF,au,aL⟩=>?_) (by rw[hs,hs2]) (by rw[hs2];rfl)))
 obtain ⟨i,j,e,⟨aL,bU,df,jz⟩,q⟩:=aL
 subst e
 cases au with
 | cons r gF =>
  cases gF with
  | cons bJ gF=>
   cases gF
   obtain ⟨t,rfl⟩:=r
   obtain ⟨t',rfl⟩:=bJ
   exact call_range_2 (CF aF aL bU df jz q)
def Ed (cZ:TI)(g:dX)(aY:cT):cT:=fun D σ H=>cZ σ H fun bV H1=>∃W:Nat->Nat->St->ah->Prop,(∃m,W 0 m σ H1)/\∀i m σ H,W i m σ H->
 (bV.stop i H/\D.nx σ H)\/(bV.go i H/\∃N:St->ah->Prop,(∀aE J,N aE J->∃cW,cW<m/\W (i+1) cW aE J)/\∀x J,bV.kB i H x J->g x σ J fun bZ ag=>aY {D with nx:=N,cq:=N,d8:=D.nx} bZ ag)
def o8 (fp:ajG)(h:Heap):List (Addr×Obj):=fp.filterMap fun b=>(h.get? b).map fun o=>(b,o)
theorem oZ {b:Addr}{o:Obj}(hb:b∈fp)(e:h.get? b=some o):(b,o)∈o8 fp h:=ah6.mpr ⟨b,hb,by rw[e];rfl⟩
theorem XZ {p:Addr×Obj}(hp:p∈o8 fp h):p.1∈fp/\h.get? p.1=some p.2:=by
 obtain ⟨b,hb,e⟩:=ah6.mp hp
 cases q:h.get? b with
 | none=>rw[q]at e;cases e
 | some o=>
  rw[q]at e
  have aU:(b,o)=p:=agq e
  subst aU
  exact ⟨hb,q⟩
theorem Inv.pinned (I:Inv X pins σ H s)(hf:∀b∈fp,kP X pins H b)(ho:∀b∈fp,∃o,s.heap.get? b=some o/\∀v,o.data≠.cell v):Inv X (pins++o8 fp s.heap) σ H s:=
 I.Hh fun p hp=>(agn.mp hp).elim (fun z=>I.pin p (af7 _ z)) fun z=>by
  obtain ⟨hb,e⟩:=XZ z
  obtain ⟨f0,f1,f2,_⟩:=hf p.1 hb
  obtain ⟨o,aU,d⟩:=ho p.1 hb
  rw[e]at aU;cases aU
  exact ⟨e,f0,f1,f2,d⟩
theorem Inv.rI {bX:ajx}(I:Inv X (pins++bX) σ H s):Inv X pins σ H s:=I.Hh fun p hp=>I.pin p (af7 _ (agA _ hp))
theorem ab4 {iter:Expr}{body:List Stmt}{cZ:TI}{g:dX}{aY:cT}(hp:PassesOwn (model X.prog X.w) X.A X.env X.ct)(hc:X.calm=true)(hi:hR X bx iter cZ)(hg:jf X bx g)(hb:iM X body aY)
  (hs:∀x,foldedSetIterable iter X.env x=pure x:=by intro _;rfl):hC X (.For bx iter body [] pos) (Ed cZ g aY):=by
 intro pins s σ H D I h
 refine wpAny_For (bk (hi pins s σ H _ I h) fun v s1 h1=>bk h1 fun tn s2 h2=>?_) hs
 obtain ⟨it,fp,e2,bV,ag,e,a3,T,hJ,f2,W,⟨m0,h5⟩,turn⟩:=h2
 subst e
 have l2:∀{J:ah},(∀b∈fp,J b=none)->∀b∈fp,kP X pins J b:=fun hn b hb=>⟨hn b hb,(f2 b hb).2⟩
 refine codeAny_forLoop_any (fun n ar=>∃i aE J,Inv X pins aE J ar/\e2 i ar.heap/\(∀b∈fp,J b=none)/\W i n aE J) ?_ m0 ⟨0,σ,ag,a3,hJ,fun b hb=>(f2 b hb).1,h5⟩
 rintro n s3 ⟨i,jV,b3,dD,Ih,F8,w3⟩
 rcases turn i n jV b3 w3 with ⟨stop,UM⟩|⟨go,N,hN,step⟩
 ·refine ag8 hp (bk (T.done X rfl rfl rfl hc i pins s3 jV b3 X.ct dD (l2 F8) Ih stop) fun r s4 hz=>?_)
  obtain ⟨hr,iL⟩:=hz
  subst hr
  exact ahE ⟨jV,b3,iL,UM⟩
 ·refine ag8 hp (bk (T.item X rfl rfl rfl hc i pins s3 jV b3 X.ct dD (l2 F8) Ih go) fun r s4 hz=>?_)
  obtain ⟨u,hr,bS⟩:=hz
  subst hr
  refine ag8 hp (bk bS fun _ s5 hz=>?_)
  obtain ⟨x,cy,fH,tO,y5,BZ,QI⟩:=hz
  have M4:=fH.pinned (l2 QI) (T.obj _ _ BZ)
  refine ag8 hp (bk (hg _ s5 jV cy x u _ M4 tO (step x cy y5)) fun _ jC hz=>?_)
  obtain ⟨MR,hQ,sm,Ag⟩:=hz
  refine ag8 hp (bk (hb _ jC MR hQ _ sm Ag) fun f gs jA=>?_)
  have again:∀{d6:St}{ek:ah},Inv X (pins++o8 fp s5.heap) d6 ek gs->N d6 ek->∃m,m<n/\∃i aE J,Inv X pins aE J gs/\e2 i gs.heap/\(∀b∈fp,J b=none)/\W i m aE J:=fun {d6 ek} e4 km=>by
   obtain ⟨cW,hm,qi⟩:=hN d6 ek km
   refine ⟨cW,hm,i+1,d6,ek,e4.rI,T.keep _ _ _ BZ fun b hb o e=>(e4.pin (b,o) (af7 _ (af7 _ (oZ hb e)))).1,fun b hb=>?_,qi⟩
   obtain ⟨o,e,d⟩:=T.obj _ _ BZ b hb
   exact (e4.pin (b,o) (af7 _ (af7 _ (oZ hb e)))).2.1
  cases f with
  | next=>obtain ⟨d6,ek,e4,km⟩:=jA;exact again e4 km
  | cont=>obtain ⟨d6,ek,e4,km⟩:=jA;exact again e4 km
  | brk=>obtain ⟨d6,ek,e4,jA⟩:=jA;exact ⟨d6,ek,e4.rI,jA⟩
  | ret v=>obtain ⟨WB,d6,ek,e4,UU,jA⟩:=jA;exact ⟨WB,d6,ek,e4.rI,UU,jA⟩
end
variable {g:dX}{aY:cT}{D:Ends}{σ:St}{H:ah}
theorem aav {K:ajA}{a:Addr}{xs:List V}(Pv:Nat->St->ah->Prop)(h0:Pv 0 σ H)(hl:∀i σ H,i<=xs.length->Pv i σ H->bp K H a xs)
  (hs:∀i x σ H,xs[i]?=some x->Pv i σ H->g x σ H fun bZ ag=>aY {D with nx:=Pv (i+1),cq:=Pv (i+1),d8:=D.nx} bZ ag)(hd:∀σ H,Pv xs.length σ H->D.nx σ H) :
  ∃W:Nat->Nat->St->ah->Prop,(∃m,W 0 m σ H)/\∀i m σ H,W i m σ H->
   ((oc K a).stop i H/\D.nx σ H)\/((oc K a).go i H/\∃N:St->ah->Prop,(∀aE J,N aE J->∃cW,cW<m/\W (i+1) cW aE J)/\∀x J,(oc K a).kB i H x J->g x σ J fun bZ ag=>aY {D with nx:=N,cq:=N,d8:=D.nx} bZ ag):=by
 refine ⟨fun i m σ H=>m=xs.length-i/\i<=xs.length/\Pv i σ H,⟨xs.length,by simp,afY _,h0⟩,?_⟩
 rintro i m σ H ⟨rfl,hi,p⟩
 have q:=hl i σ H hi p
 by_cases dj:i<xs.length
 ·refine .inr ⟨⟨xs,xs[i],q,by simp[dj]⟩,Pv (i+1),fun aE J dy=>⟨xs.length-(i+1),by lia,rfl,dj,dy⟩,fun x J y=>?_⟩
  obtain ⟨e,y⟩:=y
  subst e
  exact hs i x σ _ (y xs q) p
 ·have e:i=xs.length:=by lia
  subst e
  exact .inl ⟨⟨xs,q,afE _⟩,hd σ H p⟩
theorem wO {lo:Int}{n:Nat}(Pv:Nat->St->ah->Prop)(h0:Pv 0 σ H)
  (hs:∀i σ H,i<n->Pv i σ H->g (.int (lo+i)) σ H fun bZ ag=>aY {D with nx:=Pv (i+1),cq:=Pv (i+1),d8:=D.nx} bZ ag)(hd:∀σ H,Pv n σ H->D.nx σ H) :
  ∃W:Nat->Nat->St->ah->Prop,(∃m,W 0 m σ H)/\∀i m σ H,W i m σ H->
   ((lD lo n).stop i H/\D.nx σ H)\/((lD lo n).go i H/\∃N:St->ah->Prop,(∀aE J,N aE J->∃cW,cW<m/\W (i+1) cW aE J)/\∀x J,(lD lo n).kB i H x J->g x σ J fun bZ ag=>aY {D with nx:=N,cq:=N,d8:=D.nx} bZ ag):=by
 refine ⟨fun i m σ H=>m=n-i/\i<=n/\Pv i σ H,⟨n,by simp,afY _,h0⟩,?_⟩
 rintro i m σ H ⟨rfl,hi,p⟩
 by_cases dj:i<n
 ·refine .inr ⟨dj,Pv (i+1),fun aE J dy=>⟨n-(i+1),by lia,rfl,dj,dy⟩,fun x J y=>?_⟩
  obtain ⟨e,y⟩:=y
  subst e y
  exact hs i σ _ dj p
 ·have e:i=n:=by lia
  subst e
  exact .inl ⟨afE _,hd σ H p⟩
theorem rP {c:TT}(Pv:St->ah->Prop)(u_:St->ah->Nat)(h0:Pv σ H)
  (hs:∀σ H,Pv σ H->c σ H fun b H1=>if b=true then aY {D with nx:=fun aE J=>Pv aE J/\u_ aE J<u_ σ H,cq:=fun aE J=>Pv aE J/\u_ aE J<u_ σ H,d8:=D.nx} σ H1 else D.nx σ H1)
  (mono:∀σ H Q og,(∀b H1,Q b H1->og b H1)->c σ H Q->c σ H og):xl c aY D σ H:=by
 refine ⟨fun m σ H=>m=u_ σ H/\Pv σ H,⟨_,rfl,h0⟩,?_⟩
 rintro m σ H ⟨rfl,p⟩
 refine mono σ H _ _ (fun b H1 q=>?_) (hs σ H p)
 cases b with
 | true=>exact ⟨_,fun aE J ⟨dy,l⟩=>⟨_,l,rfl,dy⟩,q⟩
 | false=>exact q
abbrev dV:=V->V->ah->bW->Prop
def dh (X:aO)(f:Value->Value->Sem Value)(r:dV):Prop:=
 ∀(pins:ajx)(s:Shared)(σ:St)(H:ah)(x y:V)(v u:Value)(Q:bW),Inv X pins σ H s->RelV x v->RelV y u->r x y H Q->
  wpAny (model X.prog X.w) X.A (f v u) (gh X pins σ Q) X.ct s
def vm (X:aO)(f:Value->Sem Value)(r:V->ah->bW->Prop):Prop:=
 ∀(pins:ajx)(s:Shared)(σ:St)(H:ah)(x:V)(v:Value)(Q:bW),Inv X pins σ H s->RelV x v->r x H Q->
  wpAny (model X.prog X.w) X.A (f v) (gh X pins σ Q) X.ct s
def fE (X:aO)(f:Value)(r:List V->ah->bW->Prop):Prop:=
 ∀(pins:ajx)(s:Shared)(σ:St)(H:ah)(xs:List V)(us:ajC)(Q:bW),Inv X pins σ H s->Vals xs us->r xs H Q->
  wpAny (model X.prog X.w) X.A (call f us) (gh X pins σ Q) X.ct s
def nJ (r:dV)(aC aY:TE):TE:=fun σ H Q=>aC σ H fun x H1=>aY σ H1 fun y ag=>r x y ag Q
def wC (r:V->ah->bW->Prop)(aC:TE):TE:=fun σ H Q=>aC σ H fun x H1=>r x H1 Q
def iu (C:Int->Int->Prop)(g:Int->Int->V):dV:=fun x y H Q=>∃i j,x=.int i/\y=.int j/\C i j/\Q (g i j) H
def iv (g:Int->Int->V):dV:=fun x y H Q=>∃i j,x=.int i/\y=.int j/\Q (g i j) H
def wd (g:Int->V):V->ah->bW->Prop:=fun x H Q=>∃i,x=.int i/\Q (g i) H
section
variable {X:aO}{a b c:Expr}{aC aY fB:TE}{pos:Pos}
variable {f:Value->Value->Sem Value}{g:Int->Int->Int}
theorem Es (ha:bN X a aC)(hb:bN X b aY){pins:ajx}{s:Shared}{σ:St}{H:ah}{R:V->V->ah->Prop}(I:Inv X pins σ H s)
  (h:aC σ H fun x H1=>aY σ H1 fun y ag=>R x y ag){Q:ajv}
  (hf:∀v u s2 x y ag,Inv X pins σ ag s2->RelV x v->RelV y u->R x y ag->wpAny (model X.prog X.w) X.A (f v u) Q X.ct s2) :
  wpAny (model X.prog X.w) X.A (eval a X.env) (fun v cz=>wpAny (model X.prog X.w) X.A (eval b X.env) (fun u hZ=>wpAny (model X.prog X.w) X.A (f v u) Q X.ct hZ) X.ct cz) X.ct s:=by
 refine bk (ha pins s σ H _ I h) fun v s1 hz=>?_
 obtain ⟨x,H1,aF,au,aL⟩:=hz
 refine bk (hb pins s1 σ H1 _ aF aL) fun u s2 hz=>?_
 obtain ⟨y,ag,a3,bt,bU⟩:=hz
 exact hf v u s2 x y ag a3 au bt bU
theorem adz {op:Operator}{r:dV}(ho:dh X (binaryOp op) r)(ha:bN X a aC)(hb:bN X b aY):bN X (.BinOp a op b pos) (nJ r aC aY):=by
 intro pins s σ H Q I h
 exact wpAny_BinOp (Es ha hb I h fun v u s2 x y ag a3 aB aJ q=>ho pins s2 σ ag x y v u Q a3 aB aJ q)
theorem adx {op:UnaryOp}{r:V->ah->bW->Prop}(ho:vm X (unaryOp op) r)(ha:bN X a aC):bN X (.UnaryOp op a pos) (wC r aC):=by
 intro pins s σ H Q I h
 exact UnaryOp_ (bk (ha pins s σ H _ I h) fun v s1 ⟨x,H1,aF,au,aL⟩=>ho pins s1 σ H1 x v Q aF au aL)
theorem oI {C:Int->Int->Prop}
  (rule:∀(i j:Int)(t u:Tok)(s:Shared)(Q:ajv)(E:ajv),C i j->Q (.int (g i j) s.toks) {s with toks:=s.toks+1}->wpAny (model X.prog X.w) X.A (f (.int i t) (.int j u)) Q E s) :
  dh X f (iu C fun i j=>.int (g i j)):=by
 intro pins s σ H x y v u Q I aB aJ h
 obtain ⟨i,j,rfl,rfl,hc,q⟩:=h
 obtain ⟨t,rfl⟩:=aB
 obtain ⟨t',rfl⟩:=aJ
 exact rule i j t t' s _ _ hc ⟨.int (g i j),H,I.tok _,⟨_,rfl⟩,q⟩
theorem MB 
  (rule:∀(i j:Int)(t u:Tok)(s:Shared)(Q:ajv)(E:ajv),Q (.int (g i j) s.toks) {s with toks:=s.toks+1}->wpAny (model X.prog X.w) X.A (f (.int i t) (.int j u)) Q E s) :
  dh X f (iv fun i j=>.int (g i j)):=by
 intro pins s σ H x y v u Q I aB aJ h
 obtain ⟨i,j,rfl,rfl,q⟩:=h
 obtain ⟨t,rfl⟩:=aB
 obtain ⟨t',rfl⟩:=aJ
 exact rule i j t t' s _ _ ⟨.int (g i j),H,I.tok _,⟨_,rfl⟩,q⟩
theorem xN {g:Int->Int->Bool}
  (rule:∀(i j:Int)(t u:Tok)(s:Shared)(Q:ajv)(E:ajv),Q (.bool (g i j)) s->wpAny (model X.prog X.w) X.A (f (.int i t) (.int j u)) Q E s) :
  dh X f (iv fun i j=>.aG (g i j)):=by
 intro pins s σ H x y v u Q I aB aJ h
 obtain ⟨i,j,rfl,rfl,q⟩:=h
 obtain ⟨t,rfl⟩:=aB
 obtain ⟨t',rfl⟩:=aJ
 exact rule i j t t' s _ _ ⟨.aG (g i j),H,I,rfl,q⟩
def Ex (i j:Int):Prop:=0<j/\j<1073741824
def aes (i j:Int):Prop:=0<=j/\j<=1000000/\i.natAbs<2^64
def pl (i j:Int):Prop:=(-(2^64)<i/\i<2^64)\/(-(2^64)<j/\j<2^64)
theorem pl.ok {i j:Int}(h:pl i j):IntMulOk i j:=by
 rcases h with ⟨h1,h2⟩|⟨h1,h2⟩
 ·exact .of_left (intBits_le_64 h1 h2)
 ·exact .of_right (intBits_le_64 h1 h2)
theorem hM:dh X (binaryOp .Add) (iv fun i j=>.int (i+j)):=MB fun _ _ _ _ _ _ _ q=>add_int q
theorem fc:dh X (binaryOp .Sub) (iv fun i j=>.int (i-j)):=MB fun _ _ _ _ _ _ _ q=>sub_int q
theorem kJ:dh X (binaryOp .Mult) (iu pl fun i j=>.int (i*j)):=oI fun _ _ _ _ _ _ _ hc q=>mul_int q hc.ok
theorem uC:dh X (binaryOp .FloorDiv) (iu Ex fun i j=>.int (i/j)):=oI fun i j _ _ _ _ _ hc q=>by
 have h1:(0:Int)<j:=hc.1
 have h2:j<1073741824:=hc.2
 exact floordiv_int ⋯ (by rw[ajl i ⋯];exact q) (.inl (aiK ⋯))
theorem fD:dh X (binaryOp .Mod) (iu (fun _ j=>0<j) fun i j=>.int (i%j)):=oI fun i j _ _ _ _ _ hc q=>by
 have h1:(0:Int)<j:=hc
 exact mod_int' ⋯ (by rw[Int.fmod_eq_emod_of_nonneg i ⋯];exact q)
theorem DB:dh X (binaryOp .Pow) (iu aes fun i j=>.int (i^j.toNat)):=oI fun _ _ _ _ _ _ _ hc q=>pow_int_small hc.1 hc.2.1 hc.2.2 q
theorem Y9:dh X (inplaceOp .FloorDiv) (iu Ex fun i j=>.int (i/j)):=oI fun i j _ _ _ _ _ hc q=>by
 have h1:(0:Int)<j:=hc.1
 have h2:j<1073741824:=hc.2
 exact ifloordiv_int ⋯ (by rw[ajl i ⋯];exact q) (.inl (aiK ⋯))
theorem Wr {f:Value->Sem Value}{g:Int->Int}
  (rule:∀(i:Int)(t:Tok)(s:Shared)(Q:ajv)(E:ajv),Q (.int (g i) s.toks) {s with toks:=s.toks+1}->wpAny (model X.prog X.w) X.A (f (.int i t)) Q E s) :
  vm X f (wd fun i=>.int (g i)):=by
 intro pins s σ H x v Q I aB h
 obtain ⟨i,rfl,q⟩:=h
 obtain ⟨t,rfl⟩:=aB
 exact rule i t s _ _ ⟨.int (g i),H,I.tok _,⟨_,rfl⟩,q⟩
theorem kG:vm X (unaryOp .USub) (wd fun i=>.int (-i)):=Wr fun _ _ _ _ _ q=>neg_int q
end
def Eg:V->V->Bool
 | .bz,.bz=>true|.bz,.int _=>true|.int _,.bz=>true|.bz,.aG _=>true|.aG _,.bz=>true|.bz,.str _=>true|.str _,.bz=>true
 | .int _,.int _=>true|.aG _,.aG _=>true|.str _,.str _=>true|.kZ _,.kZ _=>true
 | .int _,.str _=>true|.str _,.int _=>true|.aG _,.str _=>true|.str _,.aG _=>true
 | _,_=>false
def Ak:dV:=fun x y H Q=>Eg x y=true/\Q (.aG (decide (x=y))) H
def Am:dV:=fun x y H Q=>Eg x y=true/\Q (.aG (!decide (x=y))) H
theorem KG {i j:Int}:decide (V.int i=V.int j)=(i == j):=by
 rw[agO]
 simp
theorem LC {i j:Bool}:decide (V.aG i=V.aG j)=(i == j):=by
 rw[agO]
 simp
theorem KD {i j:Str}:decide (V.str i=V.str j)=(i == j):=by
 rw[agO]
 simp
theorem KH {i j:Array UInt8}:decide (V.kZ i=V.kZ j)=(i.toList == j.toList):=by
 rw[agO]
 cases i
 cases j
 simp
section
variable {X:aO}{a b c:Expr}{aC aY fB:TE}{pos:Pos}
variable {op:CmpOp}{r:dV}{us:ajC}
theorem eO {pins:ajx}{σ:St}{H:ah}{s:Shared}{Q:bW}{k cO:Bool}(I:Inv X pins σ H s)(q:Q (.aG k) H)(e:k=cO):gh X pins σ Q (.bool cO) s:=by
 subst e
 exact ⟨.aG k,H,I,rfl,q⟩
theorem n1:dh X (compareOp .Eq) Ak:=by
 intro pins s σ H x y v u Q I aB aJ h
 obtain ⟨hs,q⟩:=h
 cases x with
 | bz=>
  cases aB
  cases y with
  | bz=>cases aJ;exact PySem.EqNone.eq_none_none (eO I q (by simp))
  | aG j=>cases aJ;exact PySem.EqNone.eq_none_bool (eO I q (by simp))
  | int j=>obtain ⟨t',rfl⟩:=aJ;exact PySem.EqNone.eq_none_int (eO I q (by simp))
  | str j=>obtain ⟨t',rfl⟩:=aJ;exact PySem.EqNone.eq_none_str (eO I q (by simp))
  | _=>exact absurd (show false=true from hs) afT
 | aG i=>
  cases aB
  cases y with
  | bz=>cases aJ;exact PySem.EqNone.eq_bool_none (eO I q (by simp))
  | aG j=>cases aJ;exact eq_bool (eO I q LC)
  | str j=>obtain ⟨t',rfl⟩:=aJ;exact PySem.EqMixed.eq_bool_str (eO I q (by simp))
  | _=>exact absurd (show false=true from hs) afT
 | int i=>
  obtain ⟨t,rfl⟩:=aB
  cases y with
  | bz=>cases aJ;exact PySem.EqNone.eq_int_none (eO I q (by simp))
  | int j=>obtain ⟨t',rfl⟩:=aJ;exact eq_int (eO I q KG)
  | str j=>obtain ⟨t',rfl⟩:=aJ;exact PySem.EqMixed.eq_int_str (eO I q (by simp))
  | _=>exact absurd (show false=true from hs) afT
 | str i=>
  obtain ⟨t,rfl⟩:=aB
  cases y with
  | bz=>cases aJ;exact PySem.EqNone.eq_str_none (eO I q (by simp))
  | aG j=>cases aJ;exact PySem.EqMixed.eq_str_bool (eO I q (by simp))
  | int j=>obtain ⟨t',rfl⟩:=aJ;exact PySem.EqMixed.eq_str_int (eO I q (by simp))
  | str j=>obtain ⟨t',rfl⟩:=aJ;exact eq_str (eO I q KD)
  | _=>exact absurd (show false=true from hs) afT
 | kZ i=>
  obtain ⟨t,rfl⟩:=aB
  cases y with
  | kZ j=>obtain ⟨t',rfl⟩:=aJ;exact PySem.W.eq_bytes (eO I q KH)
  | _=>exact absurd (show false=true from hs) afT
 | _=>cases y<;>exact absurd (show false=true from hs) afT
theorem Mc:dh X (compareOp .NotEq) Am:=by
 intro pins s σ H x y v u Q I aB aJ h
 obtain ⟨hs,q⟩:=h
 cases x with
 | bz=>
  cases aB
  cases y with
  | bz=>cases aJ;exact PySem.EqNone.ne_none_none (eO I q (by simp))
  | aG j=>cases aJ;exact PySem.EqNone.ne_none_bool (eO I q (by simp))
  | int j=>obtain ⟨t',rfl⟩:=aJ;exact PySem.EqNone.ne_none_int (eO I q (by simp))
  | str j=>obtain ⟨t',rfl⟩:=aJ;exact PySem.EqNone.ne_none_str (eO I q (by simp))
  | _=>exact absurd (show false=true from hs) afT
 | aG i=>
  cases aB
  cases y with
  | bz=>cases aJ;exact PySem.EqNone.ne_bool_none (eO I q (by simp))
  | aG j=>cases aJ;exact ne_bool (eO I q (congrArg not LC))
  | str j=>obtain ⟨t',rfl⟩:=aJ;exact PySem.EqMixed.ne_bool_str (eO I q (by simp))
  | _=>exact absurd (show false=true from hs) afT
 | int i=>
  obtain ⟨t,rfl⟩:=aB
  cases y with
  | bz=>cases aJ;exact PySem.EqNone.ne_int_none (eO I q (by simp))
  | int j=>obtain ⟨t',rfl⟩:=aJ;exact ne_int (eO I q (congrArg not KG))
  | str j=>obtain ⟨t',rfl⟩:=aJ;exact PySem.EqMixed.ne_int_str (eO I q (by simp))
  | _=>exact absurd (show false=true from hs) afT
 | str i=>
  obtain ⟨t,rfl⟩:=aB
  cases y with
  | bz=>cases aJ;exact PySem.EqNone.ne_str_none (eO I q (by simp))
  | aG j=>cases aJ;exact PySem.EqMixed.ne_str_bool (eO I q (by simp))
  | int j=>obtain ⟨t',rfl⟩:=aJ;exact PySem.EqMixed.ne_str_int (eO I q (by simp))
  | str j=>obtain ⟨t',rfl⟩:=aJ;exact ne_str (eO I q (congrArg not KD))
  | _=>exact absurd (show false=true from hs) afT
 | kZ i=>
  obtain ⟨t,rfl⟩:=aB
  cases y with
  | kZ j=>obtain ⟨t',rfl⟩:=aJ;exact PySem.W.ne_bytes (eO I q (congrArg not KH))
  | _=>exact absurd (show false=true from hs) afT
 | _=>cases y<;>exact absurd (show false=true from hs) afT
theorem l9:dh X (compareOp .Lt) (iv fun i j=>.aG (decide (i<j))):=xN fun _ _ _ _ _ _ _ q=>lt_int q
theorem qF:dh X (compareOp .LtE) (iv fun i j=>.aG (decide (i<=j))):=xN fun _ _ _ _ _ _ _ q=>le_int q
theorem pb:dh X (compareOp .Gt) (iv fun i j=>.aG (decide (j<i))):=xN fun _ _ _ _ _ _ _ q=>gt_int q
theorem DU:dh X (compareOp .GtE) (iv fun i j=>.aG (decide (j<=i))):=xN fun _ _ _ _ _ _ _ q=>ge_int q
theorem b6 (b:Expr)(h:op≠.In:=by decide)(h2:op≠.NotIn:=by decide):behindInMarks op b=false:=by
 have ai:(op == CmpOp.In)=false:=by cases op<;>first|rfl|exact absurd rfl h
 have az:(op == CmpOp.NotIn)=false:=by cases op<;>first|rfl|exact absurd rfl h2
 cases b<;>simp[behindInMarks,ai,az]
theorem Z_ (ho:dh X (compareOp op) r)(ha:bN X a aC)(hb:bN X b aY)(hm:behindInMarks op b=false):bN X (.Compare a [op] [b] pos) (nJ r aC aY):=by
 intro pins s σ H Q I h
 exact wpAny_Compare1 (Es ha hb I h fun v u s2 x y ag a3 aB aJ q=>ho pins s2 σ ag x y v u Q a3 aB aJ q) hm
def DM (t:TE):TT:=fun σ H Q=>t σ H fun x J=>∃k,x=.aG k/\Q k J
theorem ZT (ho:dh X (compareOp op) r)(ha:bN X a aC)(hb:bN X b aY)(hm:behindInMarks op b=false):jg X (.Compare a [op] [b] pos) (DM (nJ r aC aY)):=by
 intro pins s σ H Q I h
 refine wpAny_isTrue_Compare1 (bk (ha pins s σ H _ I h) fun v s1 ⟨x,H1,aF,au,aL⟩=>bk (hb pins s1 σ H1 _ aF aL) fun u s2 ⟨y,ag,a3,bt,bU⟩=>
  bk (ho pins s2 σ ag x y v u _ a3 au bt bU) fun c s3 ⟨z,b3,dD,fP,k,e,df⟩=>?_) hm
 subst e
 cases fP
 exact ag6 ⟨b3,dD,df⟩
def Dt (r bJ:dV)(aC aY fB:TE):TE:=fun σ H Q=>aC σ H fun x H1=>aY σ H1 fun y ag=>r x y ag fun z b3=>∃k,z=.aG k/\
 (if k=true then fB σ b3 fun dn bK=>bJ y dn bK Q else Q (.aG false) b3)
theorem YX {p4:CmpOp}{bJ:dV}(ho:dh X (compareOp op) r)(ho':dh X (compareOp p4) bJ)(ha:bN X a aC)(hb:bN X b aY)(hc:bN X c fB)
  (hm:lastMarks [op,p4] [b,c]=false:=by with_unfolding_all rfl):bN X (.Compare a [op,p4] [b,c] pos) (Dt r bJ aC aY fB):=by
 intro pins s σ H Q I h
 refine Compare_chain (bk (ha pins s σ H _ I h) fun v s1 ⟨x,H1,aF,au,aL⟩=>chain_link (bk (hb pins s1 σ H1 _ aF aL) fun u s2 ⟨y,ag,a3,bt,bU⟩=>
  bk (ho pins s2 σ ag x y v u _ a3 au bt bU) fun d s3 ⟨z,b3,dD,fP,k,e,df⟩=>?_)) hm
 subst e
 cases fP
 refine ag6 ?_
 cases k with
 | false=>exact ite_ff ⟨.aG false,b3,dD,rfl,df⟩
 | true=>exact ite_tt (chain_last (bk (hc pins s3 σ b3 _ dD df) fun dn s4 ⟨dO,bK,iL,tN,jz⟩=>ho' pins s4 σ bK y dO u dn Q iL bt tN jz))
theorem uN:(sizeLine:Nat)<2^63:=by rw[afW];decide
theorem Xm:dh X (binaryOp .Add) (fun x y H Q=>∃i j,x=.str i/\y=.str j/\i.length+j.length<=sizeLine/\Q (.str (i++j)) H):=by
 intro pins s σ H x y v u Q I aB aJ h
 obtain ⟨i,j,rfl,rfl,aZ,q⟩:=h
 obtain ⟨t,rfl⟩:=aB
 obtain ⟨t',rfl⟩:=aJ
 exact add_str (fun t' tk=>⟨.str (i++j),H,I.tok _,⟨_,rfl⟩,q⟩) aZ
theorem iB {x:V}(r:Vals [x] us):∃u,us=[u]/\RelV x u:=by
 cases r with
 | cons au bt=>cases bt;exact ⟨_,rfl,au⟩
theorem uS {x y:V}(r:Vals [x,y] us):∃u dn,us=[u,dn]/\RelV x u/\RelV y dn:=by
 cases r with
 | cons au bt=>
  cases bt with
  | cons fP tN=>cases tN;exact ⟨_,_,rfl,au,fP⟩
theorem CP:fE X (.builtin "abs") (fun xs H Q=>∃i,xs=[.int i]/\Q (.int (if i<0 then -i else i)) H):=by
 intro pins s σ H xs us Q I r h
 obtain ⟨i,rfl,q⟩:=h
 obtain ⟨u,rfl,t,rfl⟩:=iB r
 exact call_abs_int fun u tk=>⟨.int (if i<0 then -i else i),H,I.tok _,⟨_,rfl⟩,q⟩
theorem Yk (hc:X.calm=true):fE X (.builtin "min") (fun xs H Q=>∃i j,xs=[.int i,.int j]/\Q (.int (if j<i then j else i)) H):=by
 intro pins s σ H xs us Q I r h
 obtain ⟨i,j,rfl,q⟩:=h
 obtain ⟨u,dn,rfl,⟨t,rfl⟩,⟨t',rfl⟩⟩:=uS r
 refine min_two_ints (I.ok.hd hc) fun h' tk k=>⟨_,H,I.kept k,?_,q⟩
 by_cases hj:j<i
 ·rw[afD hj,afD hj];exact ⟨_,rfl⟩
 ·rw[afC hj,afC hj];exact ⟨_,rfl⟩
theorem Ym:fE X (.type "int") (fun xs H Q=>(∃i,xs=[.int i]/\Q (.int i) H)\/∃k,xs=[.aG k]/\Q (.int (if k then 1 else 0)) H):=by
 intro pins s σ H xs us Q I r h
 rcases h with ⟨i,rfl,q⟩|⟨k,rfl,q⟩
 ·obtain ⟨u,rfl,t,rfl⟩:=iB r
  exact call_int_int ⟨.int i,H,I,⟨_,rfl⟩,q⟩
 ·obtain ⟨u,rfl,au⟩:=iB r
  cases au
  exact call_int_bool ⟨.int (if k then 1 else 0),H,I.tok _,⟨_,rfl⟩,q⟩
end
structure x_ (h:Heap)(x aD C:Addr)(dc:ajy):Prop where
 obj:h.get? x=some (PySem.W.instObj C aD)
 ns:h.Ns1 aD dc
 ne:aD≠x
variable {h:Heap}{aD:Addr}{dc:ajy}{v:V}{o:Option Value}
theorem I_ (n:h.Ns1 aD dc):∃od,h.get? aD=some od/\∀name,PySem.W.lookIn name od=some (dc name):=by
 obtain ⟨o,aA,cV,ho,hd,hk,_,hm⟩:=n
 refine ⟨o,ho,fun name=>?_⟩
 have e:=hm name
 unfold nsFind findBy at e
 rw[<-Array.find?_toList]at e
 unfold PySem.W.lookIn
 rw[hd]
 dsimp only
 split
 ·rename_i y q
  rw[q]at e
  exact congrArg some e
 ·rename_i q
  rw[q]at e
  have a:aA.toList.any (·.refKey)=false:=by
   rw[List.any_eq_false]
   intro y hy
   obtain ⟨z,t,Rr⟩:=hk y (aiL.mp hy)
   simp[DictEntry.refKey,Rr]
  have pD:¬aA.toList.any (·.refKey)=true:=by rw[a];exact afT
  rw[afC pD]
  exact congrArg some e
theorem x_.look {x C:Addr}(I:x_ h x aD C dc):∃od,PySem.W.InstAt h x (PySem.W.instObj C aD) C (some od)/\∀name,PySem.W.lookIn name od=some (dc name):=
 let ⟨od,ho,hl⟩:=I_ I.ns
 ⟨od,⟨I.obj,rfl,rfl,ho⟩,hl⟩
def gY (f:Str)(v:V):List (Str×V)->List (Str×V)
 | []=>[(f,v)]
 | (g,x)::r=>if g=f then (g,v)::r else (g,x)::gY f v r
theorem Ci (f g:Str)(v:V):∀aR:List (Str×V),(gY f v aR).lookup g=if g=f then some v else aR.lookup g
 | [] => by
  show List.lookup g [(f,v)]=_
  by_cases h:g=f
  ·have hb:(g == f)=true:=agC.mpr h
   simp only[List.lookup,hb,afD h]
  ·have hb:(g == f)=false:=agV.mpr h
   simp only[List.lookup,hb,afC h]
 | (k, x) :: r => by
  have bl:=Ci f g v r
  rw[show gY f v ((k,x)::r)=(if k=f then (k,v)::r else (k,x)::gY f v r) from rfl]
  by_cases hk:k=f
  ·rw[afD hk]
   by_cases h:g=k
   ·have hb:(g == k)=true:=agC.mpr h
    simp only[List.lookup,hb,afD (h.trans hk)]
   ·have hb:(g == k)=false:=agV.mpr h
    simp only[List.lookup,hb,afC (fun e:g=f=>h (e.trans hk.symm))]
  ·rw[afC hk]
   by_cases h:g=k
   ·have hb:(g == k)=true:=agC.mpr h
    simp only[List.lookup,hb,afC (fun e:g=f=>hk (h.symm.trans e))]
   ·have hb:(g == k)=false:=agV.mpr h
    simp only[List.lookup,hb]
    exact bl
theorem Cw (f:Str)(v:V):∀aR:List (Str×V),f∈(gY f v aR).map (·.1)/\∀g,g∈aR.map (·.1)->g∈(gY f v aR).map (·.1)
 | []=>⟨by simp[gY],fun g h=>by simp at h⟩
 | (k, x) :: r => by
  obtain ⟨tl,dP⟩:=Cw f v r
  rw[show gY f v ((k,x)::r)=(if k=f then (k,v)::r else (k,x)::gY f v r) from rfl]
  by_cases hk:k=f
  ·rw[afD hk]
   subst hk
   exact ⟨by simp,fun g h=>by simpa using h⟩
  ·rw[afC hk]
   refine ⟨?_,fun g h=>?_⟩
   ·rw[af8]
    exact af5 _ tl
   ·rw[af8]at h ⊢
    rcases afP.mp h with e|e
    ·exact afP.mpr (.inl e)
    ·exact af5 _ (dP g e)
theorem IE (f:Str)(v:V):∀aR:List (Str×V),(gY f v aR).length<=aR.length+1
 | []=>by simp[gY]
 | (k,x)::r=>by
  have bl:=IE f v r
  rw[show gY f v ((k,x)::r)=(if k=f then (k,v)::r else (k,x)::gY f v r) from rfl]
  by_cases hk:k=f
  ·rw[afD hk,afX,afX];lia
  ·rw[afC hk,afX,afX];lia
theorem gS.some_of (r:gS (some v) o):∃u,o=some u/\RelV v u:=by
 cases o with
 | none=>exact (show False from r).elim
 | some u=>exact ⟨u,rfl,r⟩
theorem gS.none_of (r:gS none o):o=none:=by
 cases o with
 | none=>rfl
 | some u=>exact (show False from r).elim
theorem X8 {u:Value}(r:RelV v u):PySem.W.handedIn u=true:=by
 cases v with
 | bz=>cases (show u=Value.none from r);rfl
 | aG b=>cases (show u=Value.bool b from r);rfl
 | int i=>obtain ⟨t,e⟩:=(show ∃t,u=Value.int i t from r);cases e;rfl
 | str x=>obtain ⟨t,e⟩:=(show ∃t,u=Value.str x t from r);cases e;rfl
 | kZ b=>obtain ⟨t,e⟩:=(show ∃t,u=Value.bytes b t from r);cases e;rfl
 | pO b=>obtain ⟨t,e⟩:=(show ∃t,u=Value.float b t from r);cases e;rfl
 | ref a=>cases (show u=Value.ref a from r);rfl
 | ty n=>cases (show u=Value.type n from r);rfl
section
variable {P:Program}{w:World}{H J:ah}{h h':Heap}{a C aD:Addr}{aR QM:List (Str×V)}
theorem aar (aX:ep P w H h)(e:H a=some (.ins C aD aR)):∃dc,x_ h a aD C dc/\(∀f,gS (aR.lookup f) (dc f))/\PySem.Within dc (aR.map (·.1))/\aR.length<=1000/\H aD=some (.own a):=by
 obtain ⟨d,z,ne,b2,dc,n,r,q⟩:=(show c_ P w H h a (.ins C aD aR) from aX a _ e)
 exact ⟨dc,⟨b2,n,ne⟩,r,q,z,d⟩
end
structure x1 (K:ajA)(C:Addr):Prop where
 Tv:PySem.W.plainGet K C Str.empty=true
 hd:PySem.W.hasDictIn K C=true
 po:PySem.W.plainOver K C=true
 hX:PySem.W.findIn K (.ref C) "__setattr__"=some (some (.builtin "object.__setattr__"))
theorem x1.get {K:ajA}{C:Addr}(c:x1 K C)(f:Str):PySem.W.plainGet K C f=true:=c.Tv
section
variable {X:aO}{pins:ajx}{σ:St}{H:ah}{s:Shared}{a C aD:Addr}{aR:List (Str×V)}{f:Str}{v:V}{A:Around}{E:ajv}
theorem aaH {prog:Program}{w:World}{env:Env}{e:Expr}{f:Str}{pos:Pos}{s:Shared}{Q:ajv}(hb:attributeBase e f env (eval e env)=eval e env)
  (h:wpAny (model prog w) A (eval e env) (fun o cz=>wpAny (model prog w) A (getAttr o f true) Q E cz) E s):wpAny (model prog w) A (eval (.Attribute e f pos) env) Q E s:=
 Attribute_any_ h (by rw[arm_eval_Attribute,hb])
end
section
variable {X:aO}{pins:ajx}{σ:St}{H:ah}{s:Shared}{A:Around}{E:ajv}{Q:ajv}{c:Value}{b:Bool}
inductive kW (K:ajA)(H:ah):V->Value->Prop where
 | bz:kW K H .bz (.type "NoneType")
 | aG (x:Bool):kW K H (.aG x) (.type "bool")
 | int (i:Int):kW K H (.int i) (.type "int")
 | str (x:Str):kW K H (.str x) (.type "str")
 | pO (x:UInt64):kW K H (.pO x) (.type "float")
 | lst {a:Addr} {xs:List V} (e:H a=some (.lst xs)):kW K H (.ref a) (.type "list")
 | iT {a:Addr} {o:Obj} {xs:List V} (e:H a=some (.iT o (.lst xs))):kW K H (.ref a) (.type "list")
 | tup {a:Addr} {xs:List V} (e:H a=some (.tup xs)):kW K H (.ref a) (.type "tuple")
 | cE {a:Addr} {kvs:List (Key×V)} (e:H a=some (.cE kvs)):kW K H (.ref a) (.type "dict")
 | fK {a:Addr} {kvs:List (List Key×V)} (e:H a=some (.fK kvs)):kW K H (.ref a) (.type "dict")
 | ins {a C aD : Addr} {aR : List (Str × V)} (e : H a = some (.ins C aD aR)) (cl : x1 K C) (ha : PySem.W.findIn K (.ref C) "__class__" = some (some (.builtin "object.__class__")))
   (hn:PySem.W.specialIn K (.builtin "object.__class__") "__get__"=some (some (.builtin "getset_descriptor.__get__"))) (GJ:PySem.W.takesIn K (.builtin "object.__class__")=some true)
   (hm:PySem.W.mroIn K C (.type "object")=some true):kW K H (.ref a) (.ref C)
theorem uk {x:V}{u t:Value}(I:Inv X pins σ H s)(aB:RelV x u)(ty:kW X.K H x t)(e:PySem.W.kitOne X.K t c=some b)(h:∀tk,Q (.bool b) {s with toks:=tk}) :
  wpAny (model X.prog X.w) A (call (.builtin "isinstance") [u,c]) Q E s:=by
 cases ty with
 | bz=>cases (show u=Value.none from aB);exact agm PySem.W.kitx_none I.en True.intro e (fun z=>nomatch z) h
 | aG y=>cases (show u=Value.bool y from aB);exact agm PySem.W.kitx_bool I.en True.intro e (fun z=>nomatch z) h
 | int i=>obtain ⟨t,q⟩:=(show ∃t,u=Value.int i t from aB);cases q;exact agm PySem.W.kitx_int I.en True.intro e (fun z=>nomatch z) h
 | str y=>obtain ⟨t,q⟩:=(show ∃t,u=Value.str y t from aB);cases q;exact agm PySem.W.kitx_str I.en True.intro e (fun z=>nomatch z) h
 | pO y=>obtain ⟨t,q⟩:=(show ∃t,u=Value.float y t from aB);cases q;exact agm PySem.W.kitx_float I.en True.intro e (fun z=>nomatch z) h
 | @lst a xs aq=>
  cases (show u=Value.ref a from aB)
  obtain ⟨_,_,n,_,h1⟩:=(show c_ X.prog X.w H s.heap a (.lst xs) from I.aX a _ aq)
  exact agm aiM I.en ⟨_,h1,rfl⟩ e (fun z=>nomatch z) h
 | @iT a b2 xs aq=>
  cases (show u=Value.ref a from aB)
  obtain ⟨_,_,_,n,_,h1⟩:=(show c_ X.prog X.w H s.heap a (.iT b2 (.lst xs)) from I.aX a _ aq)
  exact agm aiM I.en ⟨_,h1,rfl⟩ e (fun z=>nomatch z) h
 | @tup a xs aq=>
  cases (show u=Value.ref a from aB)
  obtain ⟨_,_,_,p⟩:=(show c_ X.prog X.w H s.heap a (.tup xs) from I.aX a _ aq)
  obtain ⟨o,h1,h2,_⟩:=p
  exact agm PySem.W.kitx_tuple I.en ⟨o,h1,h2⟩ e (fun z=>nomatch z) h
 | @cE a kvs aq=>
  cases (show u=Value.ref a from aB)
  obtain ⟨_,_,aa,_,p⟩:=(show c_ X.prog X.w H s.heap a (.cE kvs) from I.aX a _ aq)
  obtain ⟨o,aA,cV,h1,h2,_⟩:=p
  exact agm aiN I.en ⟨o,h1,h2.1⟩ e (fun z=>nomatch z) h
 | @fK a kvs aq=>
  cases (show u=Value.ref a from aB)
  obtain ⟨_,_,xs,_,o,aA,cV,h1,h2,_⟩:=(show c_ X.prog X.w H s.heap a (.fK kvs) from I.aX a _ aq)
  exact agm aiN I.en ⟨o,h1,h2.1⟩ e (fun z=>nomatch z) h
 | @ins a C aD aR aq cl ha hn GJ hm=>
  cases (show u=Value.ref a from aB)
  obtain ⟨dc,O,_⟩:=aar I.aX aq
  obtain ⟨od,bV,_⟩:=O.look
  exact agm (PySem.W.kitx_own (cl.get _) cl.hd ha hn GJ hm) I.en bV e (fun z=>nomatch z) h
end
structure dI (k:Nat)(A:Around):Prop where
 hd:A.handled=none
 eI:A.depth+3*k+5<recursionLimit
 un:A.units+16*k+200<cLine
 ka:A.guards=some []
variable {A:Around}{C:Addr}{us:ajC}{kw:List (Str×Value)}
theorem dI.mono {j k:Nat}(r:dI k A)(h:j<=k):dI j A:=⟨r.hd,by have:=r.eI;lia,by have:=r.un;lia,r.ka⟩
theorem dI.deeper {k:Nat}{A:Around}(r:dI (k+1) A)(env:Env):dI k (A.deeper env):=
 ⟨r.hd,by have:=r.eI;show A.depth+1+3*k+5<_;lia,by have:=r.un;show A.units+3+16*k+200<_;lia,r.ka⟩
theorem Xq :(A.under (.builtin "type.__call__" ⟨.ref C::us,kw⟩)).depth=A.depth+1:=by
 first|rfl|simp[Around.under,Code.weight,Code.isCreation,Code.isGuard,Code.isCaller,Code.frames,Code.isFrame,guardIds]
theorem Xp :(A.under (.builtin "type.__call__" ⟨.ref C::us,kw⟩)).units=A.units+1:=by
 first|rfl|simp[Around.under,Code.cUnits,Code.frames,Code.isFrame]
theorem dI.make {k:Nat}(r:dI (k+1) A)(C:Addr)(us:ajC)(kw:List (Str×Value)):dI k (A.under (.builtin "type.__call__" ⟨.ref C::us,kw⟩)):=
 ⟨r.hd,by have:=r.eI;rw[Xq];lia,by have:=r.un;rw[Xp];lia,by have:=r.ka;first|exact this|(simpa [Around.under,Code.isGuard,guardIds] using this)⟩
theorem dI.depth {k:Nat}{A:Around}(r:dI k A):A.depth<recursionLimit:=by have:=r.eI;lia
theorem dI.units {k:Nat}{A:Around}(r:dI k A):A.units+64<cLine:=by have:=r.un;lia
def se:cP:=fun _ H Q=>Q [] H
def r_ (aC:TE)(kx:cP):cP:=fun σ H Q=>aC σ H fun x H1=>kx σ H1 fun xs ag=>Q (x::xs) ag
section
variable {X:aO}{e:Expr}{aA:ajE}{a8:TE}{t:cP}{pos:Pos}
theorem acw:hB X [] se:=fun _ _ _ _ H Q I h=>Calls.spliced_nil ⟨[],H,I,.nil,h⟩
theorem aad (ha:bN X e a8)(hr:hB X aA t)(hs:starEach (e::aA) X.env=(false,eval e X.env)::starEach aA X.env:=by rfl):hB X (e::aA) (r_ a8 t):=by
 intro pos pins s σ H Q I h
 rw[hs]
 show wpAny _ _ (spliced ((false,eval e X.env)::backTo pos (starEach aA X.env))) _ _ s
 refine Calls.spliced_cons (bk (ha pins s σ H _ I h) fun u s1 hz=>?_)
 obtain ⟨x,H1,aF,au,aL⟩:=hz
 exact bk (hr pos pins s1 σ H1 _ aF aL) fun us s2 ⟨xs,ag,a3,bt,bU⟩=>⟨x::xs,ag,a3,.cons au bt,bU⟩
def D8 (t:cP):TE:=fun σ H Q=>t σ H fun xs H1=>xs.length<=sizeLine/\∀p,H1 p=none->Q (.ref p) (upd H1 p (.tup xs))
def u4 (t:cP):TE:=fun σ H Q=>t σ H fun xs H1=>xs.length<=sizeLine/\∀p,H1 p=none->Q (.ref p) (upd H1 p (.lst xs))
theorem ach {fC}(h:hB X aA t):bN X (.Tuple aA fC pos) (D8 t):=by
 intro pins s σ H Q I aM
 refine wpAny_Tuple_spliced (bk (h pos pins s σ H _ I aM) fun us s1 ⟨xs,H1,aF,r,z,q⟩=>⟨by rw[<-r.length];exact z,?_⟩)
 have hf:H1 s1.heap.objs.size=none:=aF.aX.fresh (afE _)
 refine ⟨.ref s1.heap.objs.size,upd H1 s1.heap.objs.size (.tup xs),aF.laid (t':=s1.toks) (fun b u e=>afL _ e) (afE _) ?_,rfl,q _ hf⟩
 exact ⟨z,us,r,⟨_,af3 _ rfl,rfl,_,rfl⟩⟩
theorem acn (h:hB X aA t):bN X (.List aA pos) (u4 t):=by
 intro pins s σ H Q I aM
 refine wpAny_List_spliced (bk (h pos pins s σ H _ I aM) fun us s1 ⟨xs,H1,aF,r,z,q⟩=>⟨by rw[<-r.length];exact z,?_⟩)
 have hf:H1 s1.heap.objs.size=none:=aF.aX.fresh (afE _)
 refine ⟨.ref s1.heap.objs.size,upd H1 s1.heap.objs.size (.lst xs),aF.laid (t':=s1.toks) (fun b u e=>afL _ e) (afE _) ?_,rfl,q _ hf⟩
 exact ⟨z,us,0,r,af3 _ rfl⟩
end
abbrev b_:=List V->ah->bW->fg->Prop
abbrev md:=List Env->ah->Shared->fg->Value->Shared->Prop
structure pq (P:Program)(w:World)(K:ajA)(mg:ajy)(base:Heap)(A:Around)(outer:List Env)(s:Shared)(H:ah):Prop where
 frames:A.frames=some outer
 mod:Mod K mg base
 bs:∀b o,base.get? b=some o->s.heap.get? b=some o/\H b=none
 ij:base.objs.size<=s.heap.objs.size
 hT:s.heap.FunFrames base outer
 k_:∀b∈eJ outer,H b=none
 aX:ep P w H s.heap
 bare:AllBare s.gens
def xY (outer:List Env)(P:Program)(w:World)(H:ah)(s:Shared)(Q:bW)(u:Value)(ar:Shared):Prop:=
 ∃v J,ar.os=s.os/\AllBare ar.gens/\e8 (eJ outer) [] H J s.heap ar.heap/\ep P w J ar.heap/\RelV v u/\Q v J
def MU (e3:md)(outer:List Env)(P:Program)(w:World)(H:ah)(s:Shared)(Q:bW)(E:fg)(r:Result)(ar:Shared):Prop:=
 match r with
 | .ok (.ret u)=>xY outer P w H s Q u ar
 | .ok _=>False
 | .error e=>e3 outer H s E e ar
structure hA (P:Program)(w:World)(K:ajA)(mg:ajy)(base:Heap)(e3:md)(k:Nat)(f:Addr)(fd:FuncData)(av:ajD)(sp:b_):Prop where
 len:∀aa H Q E,sp aa H Q E->aa.length=av.length
 run:∀(A:Around)(outer:List Env)(s:Shared)(H:ah)(args:Args)(us:ajC)(aa:List V)(Q:bW)(E:fg),dI k A->pq P w K mg base A outer s H->BindsTo s fd args (av.zip us)->Vals aa us->sp aa H Q E->
  codeAny (model P w) A (.call (.ref f) args) (MU e3 outer P w H s Q E) s
theorem pq.make {P:Program}{w:World}{K:ajA}{mg:ajy}{base:Heap}{A:Around}{outer:List Env}{s:Shared}{H:ah}(e:pq P w K mg base A outer s H)(C:Addr)(us:ajC)(kw:List (Str×Value)) :
  pq P w K mg base (A.under (.builtin "type.__call__" ⟨.ref C::us,kw⟩)) outer s H:=⟨by first|exact e.frames|(simpa [Around.under,Code.envs,Code.isFrame,pushEnvs] using e.frames),e.mod,e.bs,e.ij,e.hT,e.k_,e.aX,e.bare⟩
section
variable {X:aO}{pins:ajx}{σ:St}{H:ah}{s ar:Shared}
theorem Inv.yN (I:Inv X pins σ H s):pq X.prog X.w X.K X.mg X.base X.A X.stack s H:=
 ⟨I.ok.frames,I.ok.mod,I.bs,afK I.ok.ij I.e1,I.stack,I.t2,I.aX,I.bare⟩
theorem Inv.after {Q:bW}{u:Value}(I:Inv X pins σ H s)(h:xY X.stack X.prog X.w H s Q u ar):gh X pins σ Q u ar:=by
 obtain ⟨v,J,os,bare,un,aX,r,q⟩:=h
 obtain ⟨dZ,g,d,t,Tu⟩:=ar
 obtain rfl:Tu=s.os:=os
 exact ⟨v,J,I.call (h':=dZ) (g':=g) (d':=d) (t':=t) (ch:=[]) un aX bare (fun b z=>absurd z (by simp)),r,q⟩
end
def xw (sp:b_)(oy:List V)(E:fg)(t:cP):TE:=fun σ H Q=>t σ H fun aa H1=>sp (aa++oy) H1 Q E
def Binds (K:ajA)(fd:FuncData)(av:ajD)(ds:ajC):Prop:=
 ∀(s:Shared)(us:ajC),K.In s.heap->(us++ds).length=av.length->BindsTo s fd ⟨us,[]⟩ (av.zip (us++ds))
theorem Binds.all {K:ajA}{fd:FuncData}{av:ajD}(h:∀us:List Value,us.length=av.length->bindArgs fd ⟨us,[]⟩=pure (av.zip us)):Binds K fd av []:=fun s us _ hl=>by
 rw[agc]at hl ⊢
 exact .of_eq (h us hl)
def DJ (e3:md)(X:aO)(E:fg):Prop:=∀(pins:ajx)(σ:St)(H:ah)(s:Shared)(e:Value)(ar:Shared),Inv X pins σ H s->e3 X.stack H s E e ar->X.ct e ar
section
variable {X:aO}{e3:md}{k:Nat}{f C:Addr}{fd:FuncData}{av:ajD}{sp:b_}{oy:List V}{ds:ajC}{E:fg}{x m:Str}{p pos apos:Pos}{e o:Expr}{aA:ajE}{aC:TE}{t:cP}
theorem abP {pins:ajx}{σ:St}{H:ah}{s:Shared}{Q:bW}{us:ajC}{aa:List V}(F:hA X.prog X.w X.K X.mg X.base e3 k f fd av sp)(hr:dI k X.A)(hb:Binds X.K fd av ds)(hd:Vals oy ds)(hx:DJ e3 X E)
  (I:Inv X pins σ H s)(r:Vals aa us)(h:sp (aa++oy) H Q E):wpAny (model X.prog X.w) X.A (call (.ref f) us) (gh X pins σ Q) X.ct s:=by
 have bt:Vals (aa++oy) (us++ds):=r.append hd
 have hl:(us++ds).length=av.length:=by rw[<-bt.length];exact F.len _ _ _ _ h
 refine ahk (ahl (F.run X.A X.stack s H ⟨us,[]⟩ (us++ds) (aa++oy) Q E hr I.yN (hb s us I.en hl) bt h) fun r ar aM=>?_)
 cases r with
 | error e=>exact hx pins σ H s e ar I aM
 | ok dE=>
  cases dE with
  | ret u=>exact I.after aM
  | next=>exact False.elim aM
  | brk=>exact False.elim aM
  | cont=>exact False.elim aM
theorem aaa (F:hA X.prog X.w X.K X.mg X.base e3 k f fd av sp)(hr:dI k X.A)(hg:eF X x)(hm:X.mg x=some (.ref f))(hk:PySem.W.keepIn X.K (.ref f)=true)(hb:Binds X.K fd av ds)(hd:Vals oy ds)(hx:DJ e3 X E)
  (ha:hB X (e::aA) t)(hdb:(x == ("__debug__":Str))=false:=by decide)(he:starEach (e::aA) X.env=(false,eval e X.env)::starEach aA X.env:=by rfl)(hpl:(backTo pos (starEach aA X.env)).any (·.1)=false:=by rfl) :
  bN X (.Call (.Name x p) (e::aA) [] pos) (xw sp oy E t):=by
 intro pins s σ H Q I h
 refine agP (uD I hg hm ?_ hdb)
 refine aiO (h₀:=X.base) I.ok.mod.tu hk (bk (ha pos pins s σ H _ I h) fun us s1 ⟨aa,H1,aF,r,q⟩=>⟨aF.en,?_⟩) he hpl
 exact abP F hr hb hd hx aF r q
end
structure b0 (N P:ajD)(sc:Scope):Prop where
 kind:sc.kind=.function
 co:sc.isCoroutine=false
 gen:sc.isGenerator=false
 aT:N.Nodup
 pre:N.take P.length=P
 par:∀x∈P,sc.names.lookup x=some .local\/sc.names.lookup x=some .cell
 Tb:∀y∈sc.names,y.2≠.free
variable {e3:md}{P:Program}{w:World}{K:ajA}{mg:ajy}{base:Heap}{qual:Str}{scope:Scope}{f:Addr}
theorem Jj {kindOf:Str->Option NameKind}{x:Str}:∀{binds:List (Str×Value)}{m:ajy},(∀v,(x,v)∉binds)->bindL kindOf binds m x=m x
 | [],_,_=>rfl
 | (n, v) :: r, m, h => by
  unfold bindL
  rw[Jj fun w hw=>h w (af5 _ hw)]
  split
  ·have:x≠n:=by rintro rfl;exact h v af6
   simp[this]
  ·rfl
theorem Jl {kindOf:Str->Option NameKind}{x:Str}:∀{binds:List (Str×Value)}{m:ajy},(∀v,(x,v)∉binds)->bindC kindOf binds m x=m x
 | [],_,_=>rfl
 | (n, v) :: r, m, h => by
  unfold bindC
  rw[Jl fun w hw=>h w (af5 _ hw)]
  split
  ·rfl
  ·have:x≠n:=by rintro rfl;exact h v af6
   simp[this]
theorem Jk {kindOf:Str->Option NameKind}{x:Str}{v:Value}:∀{P:ajD}{aa:ajC}{i:Nat}{m:ajy},P.Nodup->P[i]?=some x->aa[i]?=some v->kindOf x=some .local->
  bindL kindOf (P.zip aa) m x=some v
 | [],_,_,_,_,h,_,_=>by simp at h
 | _::_,[],_,_,_,_,h,_=>by simp at h
 | p::P,w::aa,0,m,aT,h1,h2,hk=>by
  simp at h1 h2;subst h1;subst h2
  show bindL kindOf ((p,w)::P.zip aa) m p=_
  unfold bindL
  rw[Jj fun v hv=>(ahI.mp aT).1 (aiP hv).1,afD hk]
  simp
 | p::P,w::aa,i+1,m,aT,h1,h2,hk=>by
  show bindL kindOf ((p,w)::P.zip aa) m x=_
  unfold bindL
  exact Jk (i:=i) (ahI.mp aT).2 (by simpa using h1) (by simpa using h2) hk
theorem Jm {kindOf:Str->Option NameKind}{x:Str}{v:Value}:∀{P:ajD}{aa:ajC}{i:Nat}{m:ajy},P.Nodup->P[i]?=some x->aa[i]?=some v->kindOf x≠some .local->
  bindC kindOf (P.zip aa) m x=some v
 | [],_,_,_,_,h,_,_=>by simp at h
 | _::_,[],_,_,_,_,h,_=>by simp at h
 | p::P,w::aa,0,m,aT,h1,h2,hk=>by
  simp at h1 h2;subst h1;subst h2
  show bindC kindOf ((p,w)::P.zip aa) m p=_
  unfold bindC
  rw[Jl fun v hv=>(ahI.mp aT).1 (aiP hv).1,afC hk]
  simp
 | p::P,w::aa,i+1,m,aT,h1,h2,hk=>by
  show bindC kindOf ((p,w)::P.zip aa) m x=_
  unfold bindC
  exact Jm (i:=i) (ahI.mp aT).2 (by simpa using h1) (by simpa using h2) hk
def start (N:ajD)(aa:List V):St:=aa.map some++List.replicate (N.length-aa.length) none
def jc (e3:md)(P:Program)(w:World)(K:ajA)(mg:ajy)(base:Heap)(N:ajD)(qual:Str)(scope:Scope)(f:Addr)(cd:Value)(A:Around)(outer:List Env)(s:Shared)(H:ah)(E:fg):aO where
 prog:=P
 w:=w
 K:=K
 mg:=mg
 base:=base
 A:=A.deeper (envOfC qual scope s.heap.objs.size f cd)
 N:=N
 bf:=s
 bA:=H
 env:=envOfC qual scope s.heap.objs.size f cd
 outer:=outer
 stack:=envOfC qual scope s.heap.objs.size f cd::outer
 ex:=[]
 calm:=true
 fn:=fun _=>true
 de:=[]
 ct:=fun e ar=>wpAny (model P w) (A.deeper (envOfC qual scope s.heap.objs.size f cd)) (leaving (envOfC qual scope s.heap.objs.size f cd) e) (fun _ Aw=>e3 outer H s E e Aw) (fun aU Aw=>e3 outer H s E aU Aw) ar
theorem JU {sc:Scope}{n:Nat}{x:Str}(h:sc.names.lookup x=some .cell):∃c,(cellsFrom n sc.names []).lookup x=some c:=by
 have q:=PySem.W.cellsFrom_some sc.names n [] (.inl h)
 exact ahJ.mp q
theorem X5 {N av:ajD}{cd:Value}{A:Around}{outer:List Env}{s s1:Shared}{H:ah}{E:fg}{us:ajC}{aa:List V}
  (S:b0 N av scope)(hd:A.handled=none)(ed:pq P w K mg base A outer s H)(hl:aa.length=av.length)(r:Vals aa us)
  (x:InCallC s s.heap.objs.size (bindL (envOfC qual scope s.heap.objs.size f cd).kindOf (av.zip us) fun _=>none) (cellsFrom (s.heap.objs.size+1) scope.names []) (bindC (envOfC qual scope s.heap.objs.size f cd).kindOf (av.zip us) fun _=>none) s1) :
  Inv (jc e3 P w K mg base N qual scope f cd A outer s H E) [] (start N aa) H s1:=by
 have hpl:av.length<=N.length:=by have:=congrArg List.length S.pre;rw[ahm]at this;lia
 obtain ⟨h1,tk,rfl,hk⟩:=x.done
 have tF:∀b:Addr,b∉(jc e3 P w K mg base N qual scope f cd A outer s H E).ex:=fun b z=>absurd (show b∈([]:ajG) from z) (by simp)
 refine ⟨⟨ed.mod,S.kind,rfl,rfl,afE _,fun y z c h1 h2=>?_,fun y hy=>?_,fun y c _ h=>?_,fun _=>hd,Around.frames_deeper ed.frames,.inr ⟨rfl,rfl⟩,fun b z=>absurd z (tF b),ed.bs,ed.ij,fun b _ _=>tF b,fun b z=>absurd z (tF b),ed.hT,ed.k_⟩,
  rfl,ed.bare,e8.kept hk,⟨_,x.toInCall.ns,fun i y v h1 h2 aQ=>?_⟩,fun y c h=>⟨_,x.cell y c h⟩,ed.aX.fresh (afE _),fun y c h=>?_,fun p hp=>absurd (show p∈([]:ajx) from hp) (by simp),ed.aX.kept hk,?_⟩
 ·exact name_of_addr x.apart (ahK h1) (ahK h2)
 ·have hy:scope.names.lookup y=some .cell\/scope.names.lookup y=some .free:=hy
  rcases hy with hy|hy
  ·exact JU hy
  ·exact absurd rfl (S.Tb _ (ahK hy))
 ·exact ahD (x.above y c (ahK h))
 ·have hi:i<aa.length:=by
   unfold start at h2
   by_cases hi:i<aa.length
   ·exact hi
   ·rw[ajm (by simpa using hi)]at h2
    rw[List.getElem?_replicate]at h2
    split at h2<;>cases h2
  have ha:aa[i]?=some v:=by
   unfold start at h2
   rw[ajn (by simpa using hi),af1]at h2
   cases e:aa[i]? with
   | none=>rw[e]at h2;cases h2
   | some a=>rw[e]at h2;cases h2;rfl
  obtain ⟨u,hu,bg⟩:=r.get ha
  have hp:av[i]?=some y:=by
   rw[<-S.pre,List.getElem?_take_of_lt ⋯];exact h1
  have G1:av.Nodup:=by rw[<-S.pre];exact S.aT.sublist (List.take_sublist _ _)
  refine ⟨u,bg,?_⟩
  rcases S.par y (agD hp) with k|k
  ·exact .inl ⟨k,Jk G1 hp hu k⟩
  ·obtain ⟨c,e⟩:=JU (n:=s.heap.objs.size+1) k
   refine .inr ⟨.inl k,c,e,?_⟩
   have q:=x.cell y c e
   rw[Jm G1 hp hu (by show scope.names.lookup y≠_;rw[k];decide)]at q
   exact q
 ·exact ed.aX.fresh (ahD (x.above y c (ahK h)))
 ·unfold start
  show _=N.length
  rw[afZ,afG,agX]
  lia
theorem Mi {k:Nat}{name:Str}{params:Arguments}{body:List Stmt}{vx cQ doc pm a6 cq e_:Value}{an od:ajF}
  {g9:ajB}{N av:ajD}{sp:b_}(lk:K.lookup f=some ⟨e_,od,.func (PySem.W.fnOf name qual params body scope vx cQ doc pm an a6 cq),g9⟩)(hcd:PySem.W.codeIn K a6 qual=true)(S:b0 N av scope)
  (len:∀aa H Q E,sp aa H Q E->aa.length=av.length)
  (kf:∀(A:Around)(outer:List Env)(s:Shared)(H:ah)(aa:List V)(Q:bW)(E:fg),dI k (A.deeper (envOfC qual scope s.heap.objs.size f a6))->sp aa H Q E->
   ∃t,iM (jc e3 P w K mg base N qual scope f a6 A outer s H E) body t/\t {nx:=fun _ J=>Q .bz J,eT:=Q} (start N aa) H) :
  hA P w K mg base e3 (k+1) f (PySem.W.fnOf name qual params body scope vx cQ doc pm an a6 cq) av sp:=by
 refine ⟨len,fun A outer s H args us aa Q E hr ed hb r oD=>?_⟩
 have hl:=len _ _ _ _ oD
 have KX:K.In s.heap:=ed.mod.tu.keeps fun b o e=>(ed.bs b o e).1
 have lim:s.heap.NoLimit:=ed.mod.nolimit.keeps fun b o e=>(ed.bs b o e).1
 have Rt:∀y∈av.zip us,scope.names.lookup y.1=some .local\/(scope.names.lookup y.1=some .cell/\((cellsFrom (s.heap.objs.size+1) scope.names []).lookup y.1).isSome=true):=fun ⟨n,v⟩ hy=>by
  rcases S.par n (aiP hy).1 with q|q
  ·exact .inl q
  ·exact .inr ⟨q,PySem.W.cellsFrom_some _ _ _ (.inl q)⟩
 refine codeAny_call_function hr.depth (KX _ _ lk) rfl S.co S.gen rfl (PySem.W.codeRec_of KX hcd) (hb _ _ _ _ ?_)
 refine wpAny_newFunctionEnv_cells S.kind Rt fun env he s1 x=>?_
 subst he
 refine ⟨lim.keeps x.toInCall.keep,codeAny_func ?_⟩
 obtain ⟨t,aH,aM⟩:=kf A outer s H aa Q E (hr.deeper _) oD
 have I:Inv (jc e3 P w K mg base N qual scope f a6 A outer s H E) [] (start N aa) H s1:=X5 S hr.hd ed hl r x
 refine afV (aH [] s1 (start N aa) H _ I aM) (fun dE ar hs=>?_) fun e ar hs=>hs
 have fin:∀{aE:St}{J:ah}{v:V}{u:Value},Inv (jc e3 P w K mg base N qual scope f a6 A outer s H E) [] aE J ar->RelV v u->Q v J->xY outer P w H s Q u ar:=
  fun {aE J v u} bV bg q=>⟨v,J,bV.os,bV.bare,bV.base,bV.aX,bg,q⟩
 cases dE with
 | ret u=>
  obtain ⟨v,aE,J,bV,bg,q⟩:=hs
  exact fin bV bg q
 | next=>
  obtain ⟨aE,J,bV,q⟩:=hs
  exact fin (v:=V.bz) (u:=Value.none) bV rfl q
 | brk=>
  obtain ⟨_,_,_,q⟩:=hs
  exact False.elim q
 | cont=>
  obtain ⟨_,_,_,q⟩:=hs
  exact False.elim q
end L2
namespace L2
section
variable {X:aO}{x:Str}{p pos:Pos}{e:Expr}{aA:ajE}{t:cP}{id T:String}{r:List V->ah->bW->Prop}
def nI (r:List V->ah->bW->Prop)(t:cP):TE:=fun σ H Q=>t σ H fun aa H1=>r aa H1 Q
theorem YY (hc:fE X (.builtin id) r)(hg:eF X x)(hm:X.mg x=none)(hv:bootBuiltins x=some (.builtin id))(ha:hB X (e::aA) t)(hn:x≠"__name__":=by decide)(hdb:(x == ("__debug__":Str))=false:=by decide)
  (he:starEach (e::aA) X.env=(false,eval e X.env)::starEach aA X.env:=by rfl)(hpl:(backTo pos (starEach aA X.env)).any (·.1)=false:=by rfl):bN X (.Call (.Name x p) (e::aA) [] pos) (nI r t):=by
 intro pins s σ H Q I h
 refine agP (mS I hg hm hv ?_ hn hdb)
 exact PyProof.Rows.callWith_builtin1 (bk (ha pos pins s σ H _ I h) fun us s1 ⟨aa,H1,aF,au,aL⟩=>hc pins s1 σ H1 aa us Q aF au aL) he hpl
theorem XU (hc:fE X (.type T) r)(hg:eF X x)(hm:X.mg x=none)(hv:bootBuiltins x=some (.type T))(ha:hB X (e::aA) t)(hn:x≠"__name__":=by decide)(hdb:(x == ("__debug__":Str))=false:=by decide)
  (he:starEach (e::aA) X.env=(false,eval e X.env)::starEach aA X.env:=by rfl)(hpl:(backTo pos (starEach aA X.env)).any (·.1)=false:=by rfl):bN X (.Call (.Name x p) (e::aA) [] pos) (nI r t):=by
 intro pins s σ H Q I h
 refine agP (mS I hg hm hv ?_ hn hdb)
 exact agW (bk (ha pos pins s σ H _ I h) fun us s1 ⟨aa,H1,aF,au,aL⟩=>hc pins s1 σ H1 aa us Q aF au aL) he hpl
end
end L2
namespace c5
open PySem PyProof.Rows
section
variable {prog:Program}{w:World}{A:Around}{E:ajv}{s:Shared}
variable {Q:ajv}{bR:Addr}
theorem N4 {t b:Addr}{aa ws:ajC}(aH:IsTup s.heap t aa.toArray)(hb:IsTup s.heap b ws.toArray)(hv:aa≠[])
  (h1:ws=[]->Q (.ref t) s)(h2:ws≠[]->Q (.ref s.heap.objs.size) {s with heap:=s.heap.push {cls:=.type "tuple",data:=.seq (aa++ws).toArray}})
  (hsz:aa.length+ws.length<=sizeLine):wpAny (model prog w) A (binaryOp .Add (.ref t) (.ref b)) Q E s:=by
 obtain ⟨⟨cls,dd,data,bR⟩,ho,hc,n,hd⟩:=id aH
 obtain ⟨⟨Fj,ov,data2,oP⟩,js,gD,a_,hd2⟩:=id hb
 simp only at hc hd gD hd2
 subst hc hd gD hd2
 have e:aa.toArray++ws.toArray=(aa++ws).toArray:=by simp
 by_cases hw:ws=[]
 ·exact concat_meets ⟨_,ho,rfl⟩ ⟨_,js,rfl⟩ ah_ aia aib ahn (aho _ _)
   (tuple_addW1 t b aa.toArray ws.toArray n a_ dd ov bR oP (by simpa using hv) (by simp[hw])) ⟨ho,js,h1 hw⟩
 ·refine concat_meets ⟨_,ho,rfl⟩ ⟨_,js,rfl⟩ ah_ aia aib ahn (aho _ _)
   (tuple_addW2 t b aa.toArray ws.toArray n a_ dd ov bR oP (by simpa using hv) (by simpa using hw) (by rw[afN,afN];exact hsz)) ⟨ho,js,?_⟩
  rw[e]
  exact h2 hw
def cg (n d:Nat):Option Int->Nat
 | none=>d
 | some v=>if v<0 then (v+(n:Int)).toNat else min v.toNat n
theorem wj (n d:Nat):cg n d none=d:=rfl
theorem wi (n d k:Nat):cg n d (some (k:Int))=min k n:=by
 show (if (k:Int)<0 then ((k:Int)+(n:Int)).toNat else min (k:Int).toNat n)=min k n
 rw[afC ⋯,ago]
theorem abO (n d:Nat)(hd:d<=n)(o:Option Int):cg n d o<=n:=by
 cases o with
 | none=>exact hd
 | some v=>
  show (if v<0 then (v+(n:Int)).toNat else min v.toNat n)<=n
  by_cases hv:v<0
  ·rw[afD hv];lia
  ·rw[afC hv];exact Nat.min_le_right _ _
theorem KJ (v:Int)(n d:Nat):(if v<0 then max (v+(n:Int)) 0 else min v (n:Int))=((cg n d (some v):Nat):Int):=by
 show (if v<0 then max (v+(n:Int)) 0 else min v (n:Int))=(((if v<0 then (v+(n:Int)).toNat else min v.toNat n):Nat):Int)
 by_cases hv:v<0
 ·simp only[afD hv];lia
 ·simp only[afC hv];lia
theorem Xw (lo hi:Option Int)(n:Nat):Builtin.Slice.sliceAdjust lo hi 1 (n:Int)=(((cg n 0 lo:Nat):Int),((cg n n hi:Nat):Int)):=by
 have h1:¬((1:Int)<0):=by lia
 unfold Builtin.Slice.sliceAdjust
 simp only[h1,if_false]
 refine Prod.ext ?_ ?_
 ·cases lo with
  | none=>rfl
  | some v=>exact KJ v n 0
 ·cases hi with
  | none=>rfl
  | some v=>exact KJ v n n
theorem Xl (i j:Nat):Builtin.Slice.slicePlaces (i:Int) (j:Int) 1=j-i:=by
 unfold Builtin.Slice.slicePlaces
 have h1:(1:Int)>0:=by lia
 simp only[h1,if_true,Int.ediv_one]
 split<;>lia
theorem IM {v:Value}{o:Option Int}{Q:Option Int->Shared->Prop}(p:IsPart v o)(h:Q o s):wpAny (model prog w) A (Builtin.Slice.slicePartIndex v) Q E s:=by
 cases p with
 | none=>exact slicePart_none h
 | int i t=>exact slicePart_int h
theorem Iz {fT fU:Value}{lo hi:Option Int}{n:Nat}{Q:Int×Int×Nat->Shared->Prop}(hs:s.heap.IsSliceOf bR fT fU .none)(bX:IsPart fT lo)(pu:IsPart fU hi)
  (h:Q (((cg n 0 lo:Nat):Int),1,cg n n hi-cg n 0 lo) s):wpAny (model prog w) A (Builtin.Slice.sliceApplied (.ref bR) (pure (n:Int))) Q E s:=by
 obtain ⟨os,lS,vQ,s8⟩:=id hs
 unfold Builtin.Slice.sliceApplied Builtin.Slice.sliceFields
 refine afB (afB (agi lS s8 (x:=fT) rfl (afB (agi lS s8 (x:=fU) rfl (afB (agi lS s8 (x:=.none) rfl (afF ?_)))))))
 refine afB (slicePart_none ?_)
 show wpAny _ _ (if ((1:Int) == 0)=true then _ else _) _ _ s
 rw[afC (by decide)]
 refine afB (IM bX (afB (IM pu (afB (afF ?_)))))
 show wpAny _ _ (match Builtin.Slice.sliceAdjust lo hi 1 (n:Int) with|(lo,hi)=>pure (lo,(1:Int),Builtin.Slice.slicePlaces lo hi 1)) _ _ s
 rw[Xw lo hi n]
 show wpAny _ _ (pure (((cg n 0 lo:Nat):Int),(1:Int),Builtin.Slice.slicePlaces ((cg n 0 lo:Nat):Int) ((cg n n hi:Nat):Int) 1)) _ _ s
 rw[Xl]
 exact afF h
theorem YS (xs:Array Value)(i k:Nat):((List.range k).filterMap fun (m:Nat)=>xs[((i:Int)+(m:Int)*1).toNat]?).toArray=((xs.toList.drop i).take k).toArray:=by
 have e:(fun (m:Nat)=>xs[((i:Int)+(m:Int)*1).toNat]?)=fun m=>xs[i+m]?:=by
  funext m
  have:((i:Int)+(m:Int)*1).toNat=i+m:=by lia
  rw[this]
 rw[e]
 have:=pick_run xs i k
 rw[List.filterMap_map]at this
 have az:((fun x=>xs[x]?)∘fun x=>i+x)=fun m=>xs[i+m]?:=rfl
 rw[az]at this
 rw[this]
theorem QS {t:Addr}{items:Array Value}{fT fU:Value}{lo hi:Option Int}(aH:IsTup s.heap t items)(hs:s.heap.IsSliceOf bR fT fU .none)(bX:IsPart fT lo)(pu:IsPart fU hi)
  (hw:¬(cg items.size 0 lo=0/\cg items.size items.size hi=items.size))
  (h:Q (.ref s.heap.objs.size) {s with heap:=s.heap.push {cls:=.type "tuple",data:=.seq ((items.toList.drop (cg items.size 0 lo)).take (cg items.size items.size hi-cg items.size 0 lo)).toArray}})
  (hsz:items.size<=sizeLine):wpAny (model prog w) A (getItem (.ref t) (.ref bR)) Q E s:=by
 have vX:sizeOk (.seq ((items.toList.drop (cg items.size 0 lo)).take (cg items.size items.size hi-cg items.size 0 lo)).toArray):=by
  show ((items.toList.drop (cg items.size 0 lo)).take (cg items.size items.size hi-cg items.size 0 lo)).toArray.size<=sizeLine
  rw[afN,ahm,aiQ,ah8]
  lia
 have hj:cg items.size items.size hi<=items.size:=abO _ _ (afE _) hi
 obtain ⟨os,lS,vQ,s8⟩:=id hs
 have ze:s.TypeIs (.ref bR) "slice":=⟨os,lS,vQ⟩
 unfold getItem
 try with_reducible refine agB ?_
 first|refine afB (afF ?_)|skip
 refine afB (wpAny_sequenceKey aH.typeIs (by decide) ?_)
 refine afB (ahp (name:=Str.ofString "__getitem__") aH.typeIs ahq
  (agQ ahq aH.typeIs entry_tuple_getitem ?_ (args_tuple_getitem _ _)))
 show wpAny _ _ (Builtin.Tuple.tupleItemsOf (.ref t) >>= _) _ _ s
 refine afB (tupleItemsOf_ aH ?_)
 refine afB (wpAny_typeOf ze ?_)
 rw[afD (by decide)]
 refine afB (Iz hs bX pu ?_)
 have kg:¬((((cg items.size 0 lo:Nat):Int) == 0&&(1:Int) == 1&&(cg items.size items.size hi-cg items.size 0 lo) == items.size)=true):=by
  intro q
  rw[afM,afM]at q
  have aL:((cg items.size 0 lo:Nat):Int)=0:=ahL q.1.1
  have bU:cg items.size items.size hi-cg items.size 0 lo=items.size:=ahL q.2
  exact hw ⟨by lia,by lia⟩
 show wpAny _ _ (if (((cg items.size 0 lo:Nat):Int) == 0&&(1:Int) == 1&&(cg items.size items.size hi-cg items.size 0 lo) == items.size)=true then _ else _) _ _ s
 rw[afC kg,YS]
 first
  |exact afB (m:=Builtin.Tuple.tupleExact _) (agr (afF ⟨_,rfl,afF h⟩) vX)
  |exact afB (m:=Builtin.Tuple.tupleExact _) (agr (afB (afF (afF ⟨_,rfl,afF h⟩))) vX)
  |exact afB (afB (m:=Builtin.Tuple.tupleExact _) (agr (afF (afF ⟨_,rfl,afF h⟩)) vX))
  |exact afB (afB (m:=Builtin.Tuple.tupleExact _) (agr (afF ⟨_,rfl,afF h⟩) vX))
end
end c5
namespace L2
abbrev kS:=St->ah->(Option Int->ah->Prop)->Prop
def qS (X:aO)(e:Option Expr)(t:kS):Prop:=
 ∀(pins:ajx)(s:Shared)(σ:St)(H:ah)(Q:Option Int->ah->Prop),Inv X pins σ H s->t σ H Q->
  wpAny (model X.prog X.w) X.A (evalPart e X.env) (fun u ar=>∃o J,Inv X pins σ J ar/\IsPart u o/\Q o J) X.ct s
def C1:kS:=fun _ H Q=>Q none H
def xv (t:TE):kS:=fun σ H Q=>t σ H fun x H1=>∃i,x=.int i/\Q (some i) H1
theorem Xr {ns:ajH}:∀{us:ajC},Vals (ns.map V.int) us->IntsAre us ns:=by
 induction ns with
 | nil=>intro us r;rw[agt]at r;cases r;exact .nil
 | cons n ns bl =>
  intro us r
  rw[af8]at r
  cases r with
  | cons au bt=>
   obtain ⟨t,e⟩:=au
   subst e
   exact .cons n t (bl bt)
section
variable {X:aO}{e:Expr}{a8:TE}{lo hi:Option Expr}{eo mG:kS}{pos b8:Pos}
theorem Z1:qS X none C1:=by
 intro pins s σ H Q I h
 rw[evalPart_none]
 exact afF ⟨none,H,I,.none,h⟩
theorem Z0 (h:bN X e a8):qS X (some e) (xv a8):=by
 intro pins s σ H Q I hw
 rw[evalPart_some]
 refine bk (h pins s σ H _ I hw) fun u s1 hz=>?_
 obtain ⟨x,H1,aF,au,aL⟩:=hz
 obtain ⟨i,rfl,q⟩:=aL
 obtain ⟨t,rfl⟩:=au
 exact ⟨some i,H1,aF,.int i t,q⟩
def pA (X:aO)(r:V->Option Int->Option Int->ah->bW->Prop):Prop:=
 ∀(pins:ajx)(s:Shared)(σ:St)(H:ah)(x:V)(v fT fU:Value)(lo hi:Option Int)(bR:Addr)(Q:bW),Inv X pins σ H s->RelV x v->s.heap.IsSliceOf bR fT fU .none->IsPart fT lo->IsPart fU hi->r x lo hi H Q->
  ∃T id,typeLookup (.type T) "__getitem__"=pure (some (.builtin id))/\s.TypeIs v T/\wpAny (model X.prog X.w) X.A (getItem v (.ref bR)) (gh X pins σ Q) X.ct s
def B5 (r:V->Option Int->Option Int->ah->bW->Prop)(a8:TE)(eo mG:kS):TE:=fun σ H Q=>a8 σ H fun x H1=>eo σ H1 fun l ag=>mG σ ag fun u b3=>r x l u b3 Q
theorem YU {r:V->Option Int->Option Int->ah->bW->Prop}(hr:pA X r)(he:bN X e a8)(hl:qS X lo eo)(hu:qS X hi mG):bN X (.Subscript e (.Slice lo hi none b8) pos) (B5 r a8 eo mG):=by
 intro pins s σ H Q I h
 refine aic (bk (he pins s σ H _ I h) fun v s1 hz=>?_)
 obtain ⟨x,H1,aF,au,aL⟩:=hz
 refine wpAny_Slice (bk (hl pins s1 σ H1 _ aF aL) fun fT s2 ⟨l,ag,a3,bX,bU⟩=>bk (hu pins s2 σ ag _ a3 bU) fun fU s3 hz=>?_)
 obtain ⟨u,b3,dD,pu,df⟩:=hz
 rw[evalPart_none]
 refine afF ?_
 have iL:Inv X pins σ b3 {s3 with heap:=s3.heap.push {cls:=.type "slice",data:=.fields #[fT,fU,.none]}}:=dD.kept (t':=s3.toks) fun b b2 q=>afL _ q
 obtain ⟨T,id,cG,aH,hg⟩:=hr pins {s3 with heap:=s3.heap.push {cls:=.type "slice",data:=.fields #[fT,fU,.none]}} σ b3 x v fT fU l u s3.heap.objs.size Q iL au (Heap.IsSliceOf.new ..) bX pu df
 show wpAny (model X.prog X.w) X.A (subscriptTail e (.Slice lo hi none b8) v (.ref s3.heap.objs.size)) (gh X pins σ Q) X.ct {s3 with heap:=s3.heap.push {cls:=.type "slice",data:=.fields #[fT,fU,.none]}}
 exact tail_any (ops:=[.ref s3.heap.objs.size,v]) aH cG hg (by with_unfolding_all rfl)
def gO (xs:List V)(lo hi:Option Int):List V:=(xs.drop (c5.cg xs.length 0 lo)).take (c5.cg xs.length xs.length hi-c5.cg xs.length 0 lo)
theorem IH (xs:List V)(lo hi:Option Int):(gO xs lo hi).length<=xs.length:=by
 unfold gO
 rw[ahm,aiQ]
 lia
def aea (K:ajA):V->Option Int->Option Int->ah->bW->Prop:=fun x lo hi H Q=>∃a xs,x=.ref a/\bp K H a xs/\
 ¬(c5.cg xs.length 0 lo=0/\c5.cg xs.length xs.length hi=xs.length)/\∀p,H p=none->Q (.ref p) (upd H p (.tup (gO xs lo hi)))
theorem abL:pA X (aea X.K):=by
 intro pins s σ H x v fT fU lo hi bR Q I aB hs bX pu h
 obtain ⟨a,xs,rfl,hx,hw,q⟩:=h
 cases aB
 obtain ⟨its,r,aH,aZ⟩:=I.tuple hx
 have hlen:its.toArray.size=xs.length:=by rw[afN];exact r.length.symm
 refine ⟨"tuple",_,ahq.lookup,aH.typeIs,?_⟩
 refine c5.QS aH hs bX pu (by rw[hlen];exact hw) ?_ (by rw[hlen];exact aZ)
 rw[hlen]
 refine ⟨.ref s.heap.objs.size,_,I.laid (t':=s.toks) (o:=.tup (gO xs lo hi)) (fun b b2 q=>afL _ q) (afE _) ?_,rfl,q _ (I.aX.fresh (afE _))⟩
 exact ⟨afK (IH xs lo hi) aZ,_,(r.drop (c5.cg xs.length 0 lo)).take (c5.cg xs.length xs.length hi-c5.cg xs.length 0 lo),ag7 _ _⟩
def adt (K:ajA):dV:=fun x y H Q=>∃a b xs ys,x=.ref a/\y=.ref b/\bp K H a xs/\bp K H b ys/\xs≠[]/\xs.length+ys.length<=sizeLine/\
 (ys=[]->Q (.ref a) H)/\(ys≠[]->∀p,H p=none->Q (.ref p) (upd H p (.tup (xs++ys))))
theorem Vals.oF {xs:List V}{us:ajC}(r:Vals xs us):us=[] ↔ xs=[]:=by
 cases r with
 | nil=>simp
 | cons _ _=>simp
theorem aae:dh X (binaryOp .Add) (adt X.K):=by
 intro pins s σ H x y v u Q I aB aJ h
 obtain ⟨a,b,xs,ys,rfl,rfl,ha,hb,hx,aZ,aL,bU⟩:=h
 cases aB
 cases aJ
 obtain ⟨its,au,dG,_⟩:=I.tuple ha
 obtain ⟨ip,bt,b8,_⟩:=I.tuple hb
 refine c5.N4 dG b8 (fun z=>hx (au.oF.mp z)) (fun z=>⟨.ref a,H,I,rfl,aL (bt.oF.mp z)⟩) (fun z=>?_) (by rw[<-au.length,<-bt.length];exact aZ)
 refine ⟨.ref s.heap.objs.size,_,I.laid (t':=s.toks) (o:=.tup (xs++ys)) (fun b b2 q=>afL _ q) (afE _) ?_,rfl,bU (fun w=>z (bt.oF.mpr w)) _ (I.aX.fresh (afE _))⟩
 exact ⟨by rw[afZ];exact aZ,_,au.append bt,ag7 _ _⟩
end
end L2
namespace L2
variable {i:Int}{j:Nat}{α:Type}{xs:List α}{v:α}
def ki (n:Nat)(i:Int):Option Nat:=if 0<=i then (if i<n then some i.toNat else none) else if -(n:Int)<=i then some (i+n).toNat else none
def ez {α:Type}(xs:List α)(i:Int):Option α:=(ki xs.length i).bind fun j=>xs[j]?
theorem Kp {n:Nat}(h:ki n i=some j):seqIndex? i n=some j/\j<n/\-(n:Int)<=i/\i<n:=by
 unfold ki at h
 by_cases h0:0<=i
 ·rw[afD h0]at h
  by_cases h1:i<n
  ·rw[afD h1]at h
   have e:i.toNat=j:=agq h
   exact ⟨by rw[seqIndex_of h0 h1,e],by lia,by lia,h1⟩
  ·rw[afC h1]at h;cases h
 ·rw[afC h0]at h
  by_cases h1:-(n:Int)<=i
  ·rw[afD h1]at h
   have e:(i+n).toNat=j:=agq h
   exact ⟨by rw[seqIndex_neg ⋯ h1,e],by lia,h1,by lia⟩
  ·rw[afC h1]at h;cases h
theorem Dj (h:ez xs i=some v):∃j,seqIndex? i xs.length=some j/\xs[j]?=some v/\j<xs.length/\-(xs.length:Int)<=i/\i<xs.length:=by
 unfold ez at h
 cases e:ki xs.length i with
 | none=>rw[e]at h;cases h
 | some j=>
  rw[e]at h
  obtain ⟨h1,h2,aQ,bS⟩:=Kp e
  exact ⟨j,h1,h,h2,aQ,bS⟩
theorem mQ (h:xs[j]?=some v):ez xs (j:Int)=some v:=by
 have hj:j<xs.length:=(agf.mp h).1
 have e:ki xs.length (j:Int)=some j:=by
  unfold ki
  rw[afD ⋯,afD ⋯];simp
 unfold ez;rw[e];exact h
theorem Zn (xs:List α)(v:α):ez (xs++[v]) (-1)=some v:=by
 have hl:(xs++[v]).length=xs.length+1:=by simp
 have e:ki (xs++[v]).length (-1)=some xs.length:=by
  unfold ki
  rw[hl,afC (by decide),afD ⋯]
  congr 1
  lia
 unfold ez
 rw[e]
 show (xs++[v])[xs.length]?=some v
 simp
def KO (b:Expr):Prop:=∀o i,subscripted b false o i=operate [o,i] (getItem o i)
def lE (X:aO)(r:dV):Prop:=
 ∀(value slice:Expr)(pins:ajx)(s:Shared)(σ:St)(H:ah)(x y:V)(v u:Value)(Q:bW),Inv X pins σ H s->RelV x v->RelV y u->r x y H Q->
  subscripted slice false v u=operate [v,u] (getItem v u)->wpAny (model X.prog X.w) X.A (subscriptTail value slice v u) (gh X pins σ Q) X.ct s
def qQ (X:aO)(id:String)(r:V->List V->ah->bW->Prop):Prop:=
 ∀(pins:ajx)(s:Shared)(σ:St)(H:ah)(x:V)(xs:List V)(v:Value)(us:ajC)(Q:bW),Inv X pins σ H s->RelV x v->Vals xs us->r x xs H Q->
  wpAny (model X.prog X.w) X.A (call (.builtin id) (v::us)) (gh X pins σ Q) X.ct s
section
variable {X:aO}{a b:Expr}{aC aY:TE}{pos:Pos}
variable {pins:ajx}{σ:St}{H:ah}{s:Shared}{p:Addr}{xs:List V}{x:V}
theorem lE.or {r bJ:dV}(h:lE X r)(h':lE X bJ):lE X (fun x y H Q=>r x y H Q\/bJ x y H Q):=by
 intro value slice pins s σ H x y v u Q I aB aJ q hs
 rcases q with q|q
 ·exact h value slice pins s σ H x y v u Q I aB aJ q hs
 ·exact h' value slice pins s σ H x y v u Q I aB aJ q hs
theorem adA {r:dV}(hr:lE X r)(ha:bN X a aC)(hb:bN X b aY)(hs:KO b):bN X (.Subscript a b pos) (nJ r aC aY):=by
 intro pins s σ H Q I h
 exact aic (Es ha hb I h fun v u s2 x y ag a3 aB aJ q=>hr a b pins s2 σ ag x y v u Q a3 aB aJ q (hs _ _))
def Mz (K:ajA):dV:=fun x y H Q=>∃p xs i v,x=.ref p/\y=.int i/\bP K H p xs/\ez xs i=some v/\Q v H
def Mw (K:ajA):dV:=fun x y H Q=>∃p xs i v,x=.ref p/\y=.int i/\bp K H p xs/\ez xs i=some v/\Q v H
def Mx:dV:=fun x y H Q=>∃z i c,x=.str z/\y=.int i/\z.length<=sizeLine/\ez z.cps.toList i=some c/\Q (.str ⟨#[c]⟩) H
theorem rm:lE X (Mz X.K):=by
 intro value slice pins s σ H x y v u Q I aB aJ h hs
 obtain ⟨p,xs,i,z,rfl,rfl,aM,he,q⟩:=h
 cases aB
 obtain ⟨t,rfl⟩:=aJ
 obtain ⟨its,r,bX,aZ⟩:=I.list aM
 obtain ⟨j,h1,h2,aQ,bS,c1⟩:=Dj he
 obtain ⟨w,q8,hW⟩:=r.get h2
 have hl:=r.length
 have hn:=uN
 have fin:gh X pins σ Q w s:=⟨z,H,I,hW,q⟩
 by_cases h0:0<=i
 ·have hj:i.toNat=j:=by
   rw[seqIndex_of h0 c1]at h1
   exact agq h1
  exact item_listR bX.isList h0 ⋯ (by rw[hj];simpa using q8) fin hs
 ·have hj:(i+(its.toArray.size:Int)).toNat=j:=by
   rw[seqIndex_neg ⋯ bS]at h1
   rw[afN,<-hl]
   exact agq h1
  exact subscriptTail_builtinR (x:=w) bX.isList.typeIs aiR.lookup
   (wpAny_getItem_list_neg (Q:=fun r ar=>r=w/\gh X pins σ Q r ar) bX.isList ⋯ (by rw[afN]<;>lia) ⋯ (by rw[hj];simpa using q8) ⟨rfl,fin⟩) hs
theorem fv:lE X (Mw X.K):=by
 intro value slice pins s σ H x y v u Q I aB aJ h hs
 obtain ⟨p,xs,i,z,rfl,rfl,aM,he,q⟩:=h
 cases aB
 obtain ⟨t,rfl⟩:=aJ
 obtain ⟨its,r,bX,aZ⟩:=I.tuple aM
 obtain ⟨j,h1,h2,aQ,bS,c1⟩:=Dj he
 obtain ⟨w,q8,hW⟩:=r.get h2
 have hl:=r.length
 have hn:=uN
 have fin:gh X pins σ Q w s:=⟨z,H,I,hW,q⟩
 exact subscriptTail_builtinR (x:=w) bX.typeIs slot_tuple_getitem.lookup
  (getItem_tuple (j:=j) (Q:=fun r ar=>r=w/\gh X pins σ Q r ar) bX ⋯ ⋯ (by rw[afN,<-hl];exact h1) (by simpa using q8) ⟨rfl,fin⟩) hs
theorem acI:lE X Mx:=by
 intro value slice pins s σ H x y v u Q I aB aJ h hs
 obtain ⟨z,i,c,rfl,rfl,aZ,he,q⟩:=h
 obtain ⟨t,rfl⟩:=aB
 obtain ⟨t',rfl⟩:=aJ
 obtain ⟨j,h1,h2,aQ,bS,c1⟩:=Dj he
 have hl:z.cps.toList.length=z.length:=by simp[Str.length]
 rw[hl]at h1 bS c1
 have hn:=uN
 exact tail_any (typeIs_str s z t) slot_str_getitem.lookup (getItem_str (c:=c) (by
  have ai:decide (i < -(2^63:Int))=false:=afJ ⋯
  have az:decide (i>=2^63)=false:=afJ ⋯
  rw[ai,az,Bool.or_false]) (by rw[h1];simpa using h2) ⟨.str ⟨#[c]⟩,H,I.tok _,⟨_,rfl⟩,q⟩) hs
def Al (K:ajA):dV:=fun x y H Q=>Mz K x y H Q\/Mw K x y H Q\/Mx x y H Q
theorem acJ:lE X (Al X.K):=rm.or (fv.or acI)
theorem Xo (its:ajC)(n j:Nat)(u:Value):Obj.mapSeq (·.setIfInBounds j u) {cls:=.type "list",data:=.seq its.toArray n}={cls:=.type "list",data:=.seq (its.set j u).toArray n}:=by
 simp[Obj.mapSeq]
theorem Inv.lst (I:Inv X pins σ H s)(h:H p=some (.lst xs)) :
  ∃(its:ajC) (n:Nat),Vals xs its/\s.heap.get? p=some {cls:=.type "list",data:=.seq its.toArray n}/\xs.length<=sizeLine:=by
 obtain ⟨z,its,n,r,e⟩:=I.aX p _ h
 exact ⟨its,n,r,e,z⟩
theorem Inv.SP {ys:List V}{its its':ajC}{n ao:Nat}{f:Obj->Obj}(I:Inv X pins σ H s)(h:H p=some (.lst xs))
  (ho:s.heap.get? p=some {cls:=.type "list",data:=.seq its.toArray n})(hf:f {cls:=.type "list",data:=.seq its.toArray n}={cls:=.type "list",data:=.seq its'.toArray ao})(r:Vals ys its')(aZ:ys.length<=sizeLine)(t:Nat) :
  Inv X pins σ (upd H p (.lst ys)) {s with heap:=s.heap.update p f,toks:=t}:=by
 have e:(s.heap.update p f).get? p=some {cls:=.type "list",data:=.seq its'.toArray ao}:=by
  rw[ag9 f ho (by rw[hf]<;>rfl),hf]
 refine I.write (x:=p) (e:=p) (by rw[h];trivial) (.inl rfl) (fun b u hb q=>(agR _ _ (af_ hb)).trans q) ⟨_,e⟩ ?_
 exact ⟨aZ,its',ao,r,e⟩
def ads:V->V->V->ah->(ah->Prop)->Prop:=fun o i v H Q=>∃p xs k j,o=.ref p/\i=.int k/\H p=some (.lst xs)/\ki xs.length k=some j/\Q (upd H p (.lst (xs.set j v)))
theorem YI:Et X ads:=by
 intro pins s σ H o i v gE g8 u Q I Au U0 bg h
 obtain ⟨p,xs,k,j,rfl,rfl,hp,hj,q⟩:=h
 cases Au
 obtain ⟨t,rfl⟩:=U0
 obtain ⟨its,n,r,ho,aZ⟩:=I.lst hp
 obtain ⟨h1,h2,aQ,bS⟩:=Kp hj
 have hl:=r.length
 have hn:=uN
 have ia:Inv X pins σ (upd H p (.lst (xs.set j v))) {s with heap:=s.heap.update p (Obj.mapSeq (·.setIfInBounds j u))}:=
  I.SP hp ho (Xo its n j u) (r.set bg j) (by rw[List.length_set];exact aZ) s.toks
 by_cases h0:0<=k
 ·have hk:k.toNat=j:=by
   rw[seqIndex_of h0 bS]at h1
   exact agq h1
  exact PySem.W.ki_setAt ho h0 ⋯ (by rw[afN,<-hl];exact bS) (by rw[hk];exact ⟨_,ia,q⟩)
 ·have hk:(k+(its.toArray.size:Int)).toNat=j:=by
   rw[seqIndex_neg ⋯ aQ]at h1
   rw[afN,<-hl]
   exact agq h1
  exact PySem.W.ki_setBack ho ⋯ (by rw[afN,<-hl];exact aQ) ⋯ (by rw[hk];exact ⟨_,ia,q⟩)
theorem WV (lo hi:Option Int)(n:Nat):(sliceBounds lo hi none n).1=((c5.cg n 0 lo:Nat):Int)/\(sliceBounds lo hi none n).2.1=((c5.cg n n hi:Nat):Int)/\(sliceBounds lo hi none n).2.2=1:=by
 refine ⟨?_,?_,rfl⟩
 ·cases lo with
  | none=>simp[sliceBounds,c5.cg]
  | some i=>
   simp only[sliceBounds,c5.cg,Option.getD_none,show (1:Int)>0 by decide,if_true]
   by_cases h:i<0
   ·simp only[h,if_true]<;>lia
   ·simp only[h,if_false]<;>lia
 ·cases hi with
  | none=>simp[sliceBounds,c5.cg]
  | some i=>
   simp only[sliceBounds,c5.cg,Option.getD_none,show (1:Int)>0 by decide,if_true]
   by_cases h:i<0
   ·simp only[h,if_true]<;>lia
   ·simp only[h,if_false]<;>lia
theorem WQ (its:ajC)(lo hi:Option Int):slicePick its.toArray lo hi none=((its.drop (c5.cg its.length 0 lo)).take (c5.cg its.length its.length hi-c5.cg its.length 0 lo)).toArray:=by
 obtain ⟨h1,h2,aQ⟩:=WV lo hi its.toArray.size
 unfold slicePick
 rw[h1,h2,aQ]
 simp only[sliceRange_one,pick_run,afN]<;>rfl
def El (K:ajA):V->Option Int->Option Int->ah->bW->Prop:=fun x lo hi H Q=>∃a xs,x=.ref a/\bP K H a xs/\∀p,H p=none->Q (.ref p) (upd H p (.lst (gO xs lo hi)))
theorem C3:pA X (El X.K):=by
 intro pins s σ H x v fT fU lo hi bR Q I aB hs bX pu h
 obtain ⟨a,xs,rfl,hx,q⟩:=h
 cases aB
 obtain ⟨its,r,aH,aZ⟩:=I.list hx
 have hlen:=r.length
 refine ⟨"list",_,aiR.lookup,aH.isList.typeIs,?_⟩
 refine ajo aH.isList hs bX pu .none (by simp) ?_ (by rw[afN]<;>lia)
 rw[WQ,<-hlen]
 refine ⟨.ref s.heap.objs.size,_,I.laid (t':=s.toks) (o:=.lst (gO xs lo hi)) (fun b b2 q=>afL _ q) (afE _) ?_,rfl,q _ (I.aX.fresh (afE _))⟩
 exact ⟨afK (IH xs lo hi) aZ,_,0,(r.drop (c5.cg xs.length 0 lo)).take (c5.cg xs.length xs.length hi-c5.cg xs.length 0 lo),af3 _ rfl⟩
def mV:V->Bool
 | .bz=>true
 | .aG _=>true
 | .int _=>true
 | .str _=>true
 | _=>false
def mq:V->V->Bool
 | .bz,.bz=>true
 | .aG a,.aG b=>a == b
 | .aG a,.int b=>(if a then 1 else 0) == b
 | .int a,.aG b=>a == (if b then 1 else 0)
 | .int a,.int b=>a == b
 | .str a,.str b=>a == b
 | _,_=>false
theorem acT {A:Around}{y:V}{u v:Value}(aJ:RelV y u)(aB:RelV x v)(QN:mV y=true)(j_:mV x=true):SeqAt.EqAt A s u v (mq y x):=by
 cases y with
 | bz=>
  cases aJ
  cases x with
  | bz=>cases aB;exact SeqAt.EqAt.same _
  | aG b=>cases aB;exact SeqAt.EqAt.none_bool b
  | int b=>obtain ⟨t,rfl⟩:=aB;exact SeqAt.EqAt.none_int b t
  | str b=>obtain ⟨t,rfl⟩:=aB;exact SeqAt.EqAt.none_str b t
  | _=>exact absurd (show false=true from j_) afT
 | aG a=>
  cases aJ
  cases x with
  | bz=>cases aB;exact SeqAt.EqAt.bool_none a
  | aG b=>cases aB;exact SeqAt.EqAt.bool_bool a b
  | int b=>obtain ⟨t,rfl⟩:=aB;exact SeqAt.EqAt.bool_int a b t
  | str b=>obtain ⟨t,rfl⟩:=aB;exact SeqAt.EqAt.bool_str a b t
  | _=>exact absurd (show false=true from j_) afT
 | int a=>
  obtain ⟨t',rfl⟩:=aJ
  cases x with
  | bz=>cases aB;exact SeqAt.EqAt.int_none a t'
  | aG b=>cases aB;exact SeqAt.EqAt.int_bool a t' b
  | int b=>obtain ⟨t,rfl⟩:=aB;exact SeqAt.EqAt.int_int a t' b t
  | str b=>obtain ⟨t,rfl⟩:=aB;exact SeqAt.EqAt.int_str a t' b t
  | _=>exact absurd (show false=true from j_) afT
 | str a=>
  obtain ⟨t',rfl⟩:=aJ
  cases x with
  | bz=>cases aB;exact SeqAt.EqAt.str_none a t'
  | aG b=>cases aB;exact SeqAt.EqAt.str_bool a t' b
  | int b=>obtain ⟨t,rfl⟩:=aB;exact SeqAt.EqAt.str_int a t' b t
  | str b=>obtain ⟨t,rfl⟩:=aB;exact SeqAt.EqAt.str_str a t' b t
  | _=>exact absurd (show false=true from j_) afT
 | _=>exact absurd (show false=true from QN) afT
def iS (x:V)(u:Value):Bool:=match u with
 | .none=>mq .bz x
 | .bool b=>mq (.aG b) x
 | .int i _=>mq (.int i) x
 | .str z _=>mq (.str z) x
 | _=>false
theorem Lx {y:V}{u:Value}(r:RelV y u)(f:mV y=true):iS x u=mq y x:=by
 cases y with
 | bz=>cases r;rfl
 | aG b=>cases r;rfl
 | int i=>obtain ⟨t,rfl⟩:=r;rfl
 | str z=>obtain ⟨t,rfl⟩:=r;rfl
 | _=>exact absurd (show false=true from f) afT
theorem uF {x:V}:∀{xs:List V}{us:ajC},Vals xs us->xs.all mV=true->us.any (iS x)=xs.any fun y=>mq y x
 | _,_,.nil,_=>rfl
 | y::xs,u::us,.cons r t,f=>by
  rw[ag_,afM]at f
  rw[agY,agY,Lx r f.1,uF t f.2]
theorem uu {A:Around}{s:Shared}{x:V}{v:Value}(aB:RelV x v)(j_:mV x=true):∀{xs:List V}{us:ajC},Vals xs us->xs.all mV=true->∀u∈us,SeqAt.EqAt A s u v (iS x u)
 | _,_,.nil,_=>fun u hu=>by cases hu
 | y::xs,u::us,.cons r t,f=>fun gI hu=>by
  rw[ag_,afM]at f
  rcases afP.mp hu with rfl|hu
  ·rw[Lx r f.1];exact acT r aB f.1 j_
  ·exact uu aB j_ t f.2 gI hu
def rk (x:V)(xs:List V):Bool:=xs.any fun y=>mq y x
def rz (K:ajA)(neg:Bool):dV:=fun x y H Q=>∃p xs,y=.ref p/\(bP K H p xs\/bp K H p xs)/\mV x=true/\xs.all mV=true/\Q (.aG (if neg then !rk x xs else rk x xs)) H
theorem XY:dh X (compareOp .In) (rz X.K false):=by
 intro pins s σ H x y v u Q I aB aJ h
 obtain ⟨p,xs,rfl,aM,j_,aR,q⟩:=h
 cases aJ
 rcases aM with aM|aM
 ·obtain ⟨its,r,bX,aZ⟩:=I.list aM
  refine SeqAt.in_listAt (iS x) bX.isList (fun w hw=>uu aB j_ r aR w (by simpa using hw)) ⟨.aG _,H,I,rfl,?_⟩
  rw[show its.toArray.any (iS x)=its.any (iS x) by simp,uF r aR]
  exact q
 ·obtain ⟨its,r,bX,aZ⟩:=I.tuple aM
  refine SeqAt.in_tupleAt (iS x) bX (fun w hw=>uu aB j_ r aR w (by simpa using hw)) ⟨.aG _,H,I,rfl,?_⟩
  rw[show its.toArray.any (iS x)=its.any (iS x) by simp,uF r aR]
  exact q
theorem WW:dh X (compareOp .NotIn) (rz X.K true):=by
 intro pins s σ H x y v u Q I aB aJ h
 obtain ⟨p,xs,rfl,aM,j_,aR,q⟩:=h
 cases aJ
 rcases aM with aM|aM
 ·obtain ⟨its,r,bX,aZ⟩:=I.list aM
  refine SeqAt.notIn_listAt (iS x) bX.isList (fun w hw=>uu aB j_ r aR w (by simpa using hw)) ⟨.aG _,H,I,rfl,?_⟩
  rw[show its.toArray.any (iS x)=its.any (iS x) by simp,uF r aR]
  exact q
 ·obtain ⟨its,r,bX,aZ⟩:=I.tuple aM
  refine SeqAt.notIn_tupleAt (iS x) bX (fun w hw=>uu aB j_ r aR w (by simpa using hw)) ⟨.aG _,H,I,rfl,?_⟩
  rw[show its.toArray.any (iS x)=its.any (iS x) by simp,uF r aR]
  exact q
theorem l4:fE X (.builtin "len") (fun xs H Q=>∃p ys,xs=[.ref p]/\(bP X.K H p ys\/bp X.K H p ys)/\Q (.int ys.length) H):=by
 intro pins s σ H xs us Q I r h
 obtain ⟨p,ys,rfl,aM,q⟩:=h
 obtain ⟨u,rfl,aB⟩:=iB r
 cases aB
 have hn:=uN
 rcases aM with aM|aM
 ·obtain ⟨its,bJ,bX,aZ⟩:=I.list aM
  have hlen:=bJ.length
  exact Calls.call_len_list bX.isList (by simp only[afN]<;>lia) ⟨.int ys.length,H,I.tok _,⟨s.toks+1,by rw[afN,hlen]⟩,q⟩
 ·obtain ⟨its,bJ,bX,aZ⟩:=I.tuple aM
  have hlen:=bJ.length
  exact len_tuple bX (by simp only[afN]<;>lia) ⟨.int ys.length,H,I.tok _,⟨s.toks+1,by rw[afN,hlen]⟩,q⟩
theorem W6:fE X (.type "list") (fun xs H Q=>∃p ys,xs=[.ref p]/\(bP X.K H p ys\/bp X.K H p ys)/\∀l,H l=none->Q (.ref l) (upd H l (.lst ys))):=by
 intro pins s σ H xs us Q I r h
 obtain ⟨p,ys,rfl,aM,q⟩:=h
 obtain ⟨u,rfl,aB⟩:=iB r
 cases aB
 have fin:∀(its:ajC),Vals ys its->ys.length<=sizeLine->∀(h':Heap)(bG:Nat),(∀b dR,s.heap.get? b=some dR->h'.get? b=some dR)->
   h'.get? s.heap.objs.size=some {cls:=.type "list",dict:=none,data:=.seq its.toArray bG,slots:=#[]}->gh X pins σ Q (.ref s.heap.objs.size) {s with heap:=h'}:=fun its bJ aZ h' bG cR e=>
  ⟨.ref s.heap.objs.size,_,I.laid (t':=s.toks) cR (afE _) (show c_ X.prog X.w _ h' _ (.lst ys) from ⟨aZ,its,bG,bJ,e⟩),rfl,q _ (I.aX.fresh (afE _))⟩
 rcases aM with aM|aM
 ·obtain ⟨its,bJ,bX,aZ⟩:=I.list aM
  have hlen:=bJ.length
  obtain ⟨o,ho,hc,n,hd⟩:=bX.isList
  exact call_list_seq p (.inl rfl) ho hc hd (fun h' bG cR e=>fin its bJ aZ h' bG cR e) (by simp only[afN]<;>lia)
 ·obtain ⟨its,bJ,bX,aZ⟩:=I.tuple aM
  have hlen:=bJ.length
  obtain ⟨o,ho,hc,n,hd⟩:=bX
  exact call_list_seq p (.inr rfl) ho hc hd (fun h' bG cR e=>fin its bJ aZ h' bG cR e) (by simp only[afN]<;>lia)
theorem nL:fE X (.type "tuple") (fun xs H Q=>∃p ys,xs=[.ref p]/\((bP X.K H p ys/\∀l,H l=none->Q (.ref l) (upd H l (.tup ys)))\/(bp X.K H p ys/\Q (.ref p) H))):=by
 intro pins s σ H xs us Q I r h
 obtain ⟨p,ys,rfl,h⟩:=h
 obtain ⟨u,rfl,aB⟩:=iB r
 cases aB
 rcases h with ⟨aM,q⟩|⟨aM,q⟩
 ·obtain ⟨its,bJ,bX,aZ⟩:=I.list aM
  have hlen:=bJ.length
  refine call_tuple_list bX.isList (fun h' cR=>?_) (by simp only[afN]<;>lia)
  have aF:Inv X pins σ H {s with heap:=h'}:=I.kept (t':=s.toks) cR
  have a3:Inv X pins σ (upd H h'.objs.size (.tup ys)) {s with heap:=h'.push {cls:=.type "tuple",data:=.seq its.toArray}}:=
   aF.laid (t':=s.toks) (fun b o e=>afL _ e) (afE _) (show c_ X.prog X.w _ _ _ (.tup ys) from ⟨aZ,its,bJ,ag7 _ _⟩)
  exact ⟨.ref h'.objs.size,_,a3,rfl,q _ (aF.aX.fresh (afE _))⟩
 ·obtain ⟨its,bJ,bX,aZ⟩:=I.tuple aM
  exact call_tuple_same bX ⟨.ref p,H,I,rfl,q⟩
def Ca (K:ajA)(T:String)(x:V)(H:ah):Prop:=match x with
 | .str _=>T="str"
 | .int _=>T="int"
 | .ref p => (T = "list" /\ ∃ xs, bP K H p xs) \/ (T = "tuple" /\ ∃ o, K.lookup p = some o /\ o.cls = .type "tuple" /\ o.dict = none) \/
   (T="dict"/\((∃kvs,H p=some (.cE kvs))\/∃kvs,H p=some (.fK kvs)))\/(T="set"/\∃S n,H p=some (.set S n))
 | _=>False
theorem KU {T:String}{v:Value}(I:Inv X pins σ H s)(r:RelV x v)(ty:Ca X.K T x H) :
  s.TypeIs v T/\∀a,v=.ref a->∃b2,s.heap.get? a=some b2/\b2.dict=none:=by
 cases x with
 | str z=>
  obtain ⟨t,rfl⟩:=r
  cases (show T="str" from ty)
  exact ⟨typeIs_str s z t,fun _ e=>nomatch e⟩
 | int i=>
  obtain ⟨t,rfl⟩:=r
  cases (show T="int" from ty)
  exact ⟨agS s i t,fun _ e=>nomatch e⟩
 | ref p =>
  cases r
  rcases ty with ⟨rfl,xs,aM⟩|⟨rfl,o,hk,hc,hd⟩|⟨rfl,hk⟩|⟨rfl,S,n,hk⟩
  ·obtain ⟨its,_,bX,_⟩:=I.list aM
   refine ⟨bX.isList.typeIs,fun a e=>?_⟩
   cases e
   obtain ⟨o,n,e,c,hd,_⟩:=bX
   exact ⟨o,e,hd⟩
  ·refine ⟨⟨o,I.en p o hk,hc⟩,fun a e=>?_⟩
   cases e
   exact ⟨o,I.en _ o hk,hd⟩
  ·have z:∃o,s.heap.get? p=some o/\o.ExactDict:=by
    rcases hk with ⟨kvs,hk⟩|⟨kvs,hk⟩
    ·obtain ⟨_,_,_,_,o,_,_,e,ex,_⟩:=I.aX p _ hk
     exact ⟨o,e,ex⟩
    ·obtain ⟨_,_,_,_,o,_,_,e,ex,_⟩:=I.aX p _ hk
     exact ⟨o,e,ex⟩
   obtain ⟨o,e,ex⟩:=z
   refine ⟨⟨o,e,ex.1⟩,fun a az=>?_⟩
   cases az
   exact ⟨o,e,ex.2.1⟩
  ·obtain ⟨o,_,_,_,e,ex,_⟩:=I.aX p _ hk
   refine ⟨⟨o,e,ex.1⟩,fun a az=>?_⟩
   cases az
   exact ⟨o,e,ex.2.1⟩
 | _=>exact False.elim ty
def Ee (K:ajA)(T:String)(r:V->List V->ah->bW->Prop)(to:TE):TE:=fun σ H Q=>to σ H fun x H1=>Ca K T x H1/\r x [] H1 Q
def wB (K:ajA)(T:String)(r:V->List V->ah->bW->Prop)(to:TE)(t:cP):TE:=fun σ H Q=>to σ H fun x H1=>Ca K T x H1/\t σ H1 fun xs ag=>r x xs ag Q
variable {o e:Expr}{aA:ajE}{to:TE}{t:cP}{name:Str}{apos eG:Pos}{T id:String}{r:V->List V->ah->bW->Prop}
theorem acq (pa:PlainAttrs T)(slot:Slot T name id)(hty:typeOf (.builtin id)=pure (.type "method_descriptor"))(hm:qQ X id r)(ho:bN X o to)
  (hbase:attributeBase o name X.env (eval o X.env)=eval o X.env:=by rfl)(hline:(apos.endLine == eG.line)=true:=by rfl):bN X (.Call (.Attribute o name apos) [] [] eG) (Ee X.K T r to):=by
 intro pins s σ H Q I h
 refine wpAny_Call_method0_late hbase hline (bk (ho pins s σ H _ I h) fun v s1 hz=>?_)
 obtain ⟨x,H1,aF,au,ty,aL⟩:=hz
 obtain ⟨h1,h2⟩:=KU aF au ty
 exact ⟨T,id,pa,slot,hty,h1,h2,Calls.callWith_builtin rfl (PySem.evalArgs_none (hm pins s1 σ H1 x [] v [] Q aF au .nil aL))⟩
theorem Mb (pa:PlainAttrs T)(slot:Slot T name id)(hty:typeOf (.builtin id)=pure (.type "method_descriptor"))(hm:qQ X id r)(ho:bN X o to)(ha:hB X (e::aA) t)
  (hbase:attributeBase o name X.env (eval o X.env)=eval o X.env:=by rfl)
  (hfew:((backTo eG (starEach (e::aA) X.env)).all (fun x=>!x.1)&&(backToKw eG (keywordEach [] X.env)).all (fun x=>x.1.isSome)
   && decide ((e::aA).length+([]:List Keyword).length+(if ([]:List Keyword).isEmpty then 0 else 1)<30))=true:=by rfl)
  (hline:(apos.endLine == eG.line)=true:=by rfl)(hs:starEach (e::aA) X.env=(false,eval e X.env)::starEach aA X.env:=by rfl)(hplain:(backTo eG (starEach aA X.env)).any (·.1)=false:=by rfl) :
  bN X (.Call (.Attribute o name apos) (e::aA) [] eG) (wB X.K T r to t):=by
 intro pins s σ H Q I h
 refine wpAny_Call_method_late hbase hfew hline rfl (bk (ho pins s σ H _ I h) fun v s1 hz=>?_)
 obtain ⟨x,H1,aF,au,ty,aL⟩:=hz
 obtain ⟨h1,h2⟩:=KU aF au ty
 refine ⟨T,id,pa,slot,hty,h1,h2,?_⟩
 have gC:=ha eG pins s1 σ H1 _ aF aL
 rw[hs]at gC ⊢
 refine Calls.callWith_builtin (by show (false || (backTo eG (starEach aA X.env)).any (·.1))=false;rw[hplain]<;>rfl) (Calls.evalArgs_plain ?_)
 exact bk gC fun us s2 ⟨aa,ag,a3,bt,bU⟩=>hm pins s2 σ ag x aa v us Q a3 au bt bU
end
end L2
namespace L2
def x9 (X:aO)(id:String)(r:V->List V->ah->bW->Prop):Prop:=
 ∀(pins:ajx)(s:Shared)(σ:St)(H:ah)(x:V)(xs:List V)(v:Value)(us:ajC)(Q:bW),Inv X pins σ H s->RelV x v->Vals xs us->r x xs H Q->
  wpAny (model X.prog X.w) X.A (call (.builtin id) (v::us)) (gh X pins σ Q) X.ct s
theorem Vals.one:∀{x:V}{us:ajC},Vals [x] us->∃u,us=[u]/\RelV x u
 | _,_,.cons r .nil=>⟨_,rfl,r⟩
theorem Vals.zero:∀{us:ajC},Vals [] us->us=[]
 | _,.nil=>rfl
theorem Vals.rep {xs:List V}{us:ajC}(h:Vals xs us):∀k:Nat,Vals (List.replicate k xs).flatten (List.replicate k us).flatten
 | 0=>.nil
 | k+1=>by
  rw[agE,agE,aha,aha]
  exact Vals.append h (Vals.rep h k)
theorem Cy (its:ajC):∀(k:Nat)(acc:ajC),
  List.foldl (fun fC kA=>fC++kA) acc.toArray (List.replicate k its.toArray)=(acc++(List.replicate k its).flatten).toArray
 | 0,acc=>by simp
 | k+1, acc => by
  have e:acc.toArray++its.toArray=(acc++its).toArray:=by simp
  have az:(acc++its)++(List.replicate k its).flatten=acc++(List.replicate (k+1) its).flatten:=by
   rw[agE,aha,ahr]
  rw[<-az,<-Cy its k (acc++its),<-e,agE,List.foldl_cons]
section
variable {X:aO}{pins:ajx}{σ:St}{H:ah}{s:Shared}{l b:Addr}{xs ys zs:List V}
variable {its:ajC}{n t':Nat}
theorem Inv.GY {its':ajC}{f:Array Value->Array Value}(I:Inv X pins σ H s)(iV:H l=some (.lst xs))
  (e:s.heap.get? l=some {cls:=.type "list",data:=.seq its.toArray n})(hf:f its.toArray=its'.toArray)(hv:Vals ys its')(aZ:ys.length<=sizeLine) :
  Inv X pins σ (upd H l (.lst ys)) {s with heap:=s.heap.update l (Obj.mapSeq f),toks:=t'}:=by
 have q:=PySem.IsL.update e f
 rw[hf]at q
 refine I.write (x:=l) (e:=l) (by rw[iV];exact trivial) (.inl rfl) (fun kX u hb hu=>(agR s.heap (Obj.mapSeq f) (af_ hb)).trans hu) ⟨_,q⟩ ?_
 exact ⟨aZ,its',_,hv,q⟩
theorem Inv.GW (I:Inv X pins σ H s)(hv:Vals ys its)(aZ:ys.length<=sizeLine) :
  Inv X pins σ (upd H s.heap.objs.size (.lst ys)) {s with heap:=s.heap.push {cls:=.type "list",data:=.seq its.toArray},toks:=t'}:=
 I.laid (fun _ _ q=>afL _ q) (afE _) ⟨aZ,its,0,hv,af3 _ rfl⟩
theorem Inv.fresh (I:Inv X pins σ H s):H s.heap.objs.size=none:=I.aX.fresh (afE _)
theorem Inv.v_ (I:Inv X pins σ H s)(iV:H l=some (.lst xs)):xs.length<=sizeLine/\∃(its:ajC) (n:Nat),Vals xs its/\xs.length=its.length/\s.heap.get? l=some {cls:=.type "list",data:=.seq its.toArray n}:=by
 obtain ⟨z,its,n,r,e⟩:=I.aX l _ iV
 exact ⟨z,its,n,r,r.length,e⟩
theorem Y1 (h:n<=sizeLine):Builtin.List.listTooLong n=false:=by
 unfold Builtin.List.listTooLong
 exact afJ ⋯
end
section
variable {X:aO}
def ZK:V->List V->ah->bW->Prop:=fun x aa H Q=>∃l xs y,x=.ref l/\aa=[y]/\H l=some (.lst xs)/\xs.length<sizeLine/\Q .bz (upd H l (.lst (xs++[y])))
theorem uj:x9 X "list.append" ZK:=by
 intro pins s σ H x aa v us Q I aB bg h
 obtain ⟨l,xs,y,rfl,rfl,iV,aZ,q⟩:=h
 cases aB
 obtain ⟨u,rfl,fz⟩:=bg.one
 obtain ⟨z,its,n,r,hl,e⟩:=I.v_ iV
 refine agF F.slot_list_append ⟨_,e,rfl⟩ F.entry_list_append (F.args_list_append_2 _ _) (PySem.list_append l its.toArray n u (by rw[afN];lia)) ⟨e,?_⟩
 refine ⟨.bz,_,I.GY (its':=its++[u]) iV e (by simp) (r.append (.cons fz .nil)) ?_,rfl,q⟩
 rw[afZ,List.length_singleton]
 lia
def abV:V->List V->ah->bW->Prop:=fun x aa H Q=>∃l xs,x=.ref l/\aa=[]/\H l=some (.lst xs)/\Q .bz (upd H l (.lst []))
theorem Y2:x9 X "list.clear" abV:=by
 intro pins s σ H x aa v us Q I aB bg h
 obtain ⟨l,xs,rfl,rfl,iV,q⟩:=h
 cases aB
 have RN:=bg.zero
 subst RN
 obtain ⟨z,its,n,r,hl,e⟩:=I.v_ iV
 refine agF F.slot_list_clear ⟨_,e,rfl⟩ F.entry_list_clear (F.args_list_clear_1 _) (AutoSeq1.list_clear_list_0 l its.toArray n (by rw[afN];lia)) ⟨e,?_⟩
 exact ⟨.bz,_,I.GY (its':=[]) (ys:=[]) iV e rfl .nil (afY _),rfl,q⟩
def Em:dV:=fun x y H Q=>∃l k xs,x=.ref l/\y=.int k/\H l=some (.lst xs)/\-(2^63)<=k/\k<2^63/\xs.length*k.toNat<=sizeLine/\
 ∀p,H p=none->Q (.ref p) (upd H p (.lst (List.replicate k.toNat xs).flatten))
theorem Dd {α:Type}(xs:List α)(k:Nat):(List.replicate k xs).flatten.length=k*xs.length:=by
 induction k with
 | zero=>simp
 | succ k bl=>rw[agE,aha,afZ,bl,Nat.succ_mul,Nat.add_comm]
theorem Lc:dh X (binaryOp .Mult) Em:=by
 intro pins s σ H x y v u Q I aB aJ h
 obtain ⟨l,k,xs,rfl,rfl,iV,h1,h2,aZ,q⟩:=h
 cases aB
 obtain ⟨t,rfl⟩:=aJ
 obtain ⟨z,its,n,r,hl,e⟩:=I.v_ iV
 have hlen:its.toArray.size*k.toNat<=sizeLine:=by rw[afN,<-hl];exact aZ
 have Rc:¬its.toArray.size*k.toNat>(2^63-1)/8:=by
  have:(sizeLine:Nat)<=(2^63-1)/8:=by decide
  lia
 have Rj:¬(!Builtin.List.listFitsIndex k)=true:=by
  rw[fitsIndex_both h1 h2]
  exact afT
 have Rw:¬Builtin.List.listTooLong (its.toArray.size*k.toNat)=true:=by
  rw[Y1 hlen]
  exact afT
 have RC:List.foldl (fun fC kA=>fC++kA) #[] (List.replicate (if its.toArray.isEmpty=true then 0 else k.toNat) its.toArray)=(List.replicate k.toNat its).flatten.toArray:=by
  have f0:∀m:Nat,List.foldl (fun fC kA=>fC++kA) #[] (List.replicate m its.toArray)=(List.replicate m its).flatten.toArray:=fun m=>by
   have:=Cy its m []
   rw[agZ]at this
   exact this
  rw[f0]
  cases its with
  | nil=>simp
  | cons a bJ=>rw[afC (by simp)]
 refine ajp (T:="list") (U:="int") (by decide) ⟨_,e,rfl⟩ (fun ar=>agS ar k t) noFill_list_mul F.fills_int_mul aid repeat_list F.slot_int_index.lookup
  (agF aid (agS s k t) F.entry_int_rmul (F.args_int_rmul_2 _ _) (int___rmul___int_list k t l its.toArray n)
   ⟨e,rfl,⟨_,e,rfl⟩,agF F.slot_list_mul ⟨_,e,rfl⟩ F.entry_list_mul (F.args_list_mul_2 _ _) (AutoListH.list___mul___list_int_3 l its.toArray n k t Rj Rc Rw) ⟨e,?_⟩⟩)
 rw[RC]
 exact ⟨.ref _,_,I.GW (t':=s.toks) (r.rep k.toNat) (by rw[Dd,Nat.mul_comm];exact aZ),rfl,q _ I.fresh⟩
end
end L2
namespace Ez
open PySem PySem.W PySem.Calls PyProof.Rows
variable {P:Params}{h:Heap}{l:OpenLaw}{n:Nat}
theorem WJ :∀(ns:ajH)(aa:ajC),WellAll P h aa (ns.map WData.int)->IntsAre aa ns:=by
 intro ns
 induction ns with
 | nil=>
  intro aa w
  rw[agt]at w
  cases w
  exact .nil
 | cons n ns bl =>
  intro aa w
  rw[af8]at w
  cases w with
  | cons a b=>
   cases a
   exact .cons _ _ (bl _ b)
theorem XI (hn:l.most=some n){args:List WData}{vals:ajC}
  (vW:l.row.toRowW.claim.pre args=true)(rj:WellAll P h vals args) :
  ∃a aa ns,vals=[Value.ref a]/\args=[WData.list (ns.map WData.int)]/\h.get? a=some {cls:=.type "list",data:=.seq aa.toArray}/\IntsAre aa ns/\ns.length<=n:=by
 have fh:WShape.hasAll [] args [.list .int]=true:=(pre_splitW vW).1
 have hc:l.pre.holds [] {args:=args}=true:=(pre_splitW vW).2
 obtain ⟨d,r,rfl,h1,h2⟩:=hasAllW_cons fh
 obtain rfl:=hasAllW_nil h2
 obtain ⟨xs,rfl,aQ⟩:=hasW_list h1
 obtain ⟨ns,rfl⟩:=items_int aQ
 have hlen:ns.length<=n:=by
  unfold OpenLaw.pre at hc
  have bS:(WTm.not (.lt (.lit (.int (n:Int))) (.len (.arg 0)))).holds [] {args:=[.list (ns.map .int)]}=true:=by
   have bS:=(holds_andW hc).1
   rw[hn]at bS
   exact bS
  have c1:=condW_of bS (w_not (w_lt w_lit (w_len_list (w_arg rfl))))
  rw[afG]at c1
  refine Nat.le_of_not_lt fun q=>?_
  have bD:(n:Int)<((ns.length:Nat):Int):=by lia
  first
   | (rw[afI bD]at c1;exact absurd c1 (by decide))
   | (simp at c1;lia)
 cases rj with
 | cons jH jI=>
  cases jI
  cases jH with
  | list ho kc=>exact ⟨_,_,ns,rfl,rfl,ho,WJ ns _ kc,hlen⟩
theorem XP (l:OpenLaw)(args:List WData):l.row.toRowW.claim.post args (.bool true) args=true:=
 postW_of (r:=l.row.toRowW) (X:=(true == true))
  (show WShape.has [] (.bool true) .bool=true by first|rfl|decide|simp[WShape.has,WShape.arms,WShape.armsAll])
  (show (WTm.eq .res (.lit (.bool true))).value [] {args:=args,res:=some (.bool true),after:=args}=some (.bool (true == true)) from w_eq_bool (w_res rfl) w_lit) rfl
theorem Nr {q:Program}{loose:ajD}{qW:(Str->Option Value)->Heap->Prop}{oo:World->Heap->Prop}{d:DefRec}
  (hn:l.most=some n)(s7:d.params.defaults=[])
  (call:∀(w:World)(bf cz:Shared)(mg lh:ajy)(fa:Addr)(o:Obj)(pm cd doc:Value)(a:Addr)(aa:ajC)(ns:ajH),
   Ground q loose [] qW w bf mg lh cz.heap->oo w cz.heap->
   cz.heap.get? fa=some o->o.data=.func (docDef d.name d.params d.body d.scope pm cd doc)->cz.heap.CodeRec cd d.name->mg d.name=some (.ref fa)->
   cz.heap.get? a=some {cls:=.type "list",data:=.seq aa.toArray}->IntsAre aa ns->ns.length<=n->cz.gens=#[]->
   codeAny (model l.prog w) callerA (.call (.ref fa) ⟨[.ref a],[]⟩) (fun r ar=>r=.ok (.ret (.bool true))/\OldK cz.heap ar.heap/\ar.os=cz.os/\AllBare ar.gens) cz) :
  WalkO q loose qW oo l.row.toRowW d [] (fun f aa=>PySem.call f aa):=by
 intro w bf cz mg lh G Y fa o pm cd doc vx cQ ho hd hcd bq hmg hg args vals as vW aeS aeV rj aeU
 obtain rfl:vx=.none:=Dflts.none bq s7
 obtain rfl:cQ=.none:=Dflts.noKw bq
 obtain ⟨a,aa,ns,rfl,rfl,zx,hints,hlen⟩:=XI hn vW rj
 refine enter_call (ahl (call w bf cz mg lh fa o pm cd doc a aa ns G Y ho (fd_plain hd) hcd hmg zx hints hlen hg) fun r ar aM=>?_)
 obtain ⟨rfl,h2,aQ,bS⟩:=aM
 exact ⟨.inl ⟨.bool true,.bool true,[],rfl,fun _=>rfl,.bool true,XP l _,fun _=>⟨List.Pairwise.nil,fun _ hm=>(nomatch hm)⟩⟩,h2,aQ,bS⟩
section
variable {prog:Program}{w:World}{A:Around}{E:ajv}{s:Shared}{K:Frag}
def afz (h:Heap)(L d:Addr):List (Addr×Obj):=(List.range h.objs.size).filterMap fun a=>if a=L\/a=d then none else (h.get? a).map fun o=>(a,o)
end
end Ez
namespace L2
theorem Cs:∀{aa:ajC}{ns:ajH},IntsAre aa ns->Vals (ns.map V.int) aa
 | _,_,.nil=>.nil
 | _,_,.cons n t h=>.cons ⟨t,rfl⟩ (Cs h)
def Eu (H:ah):Prop:=∀b,H b=none\/∃o xs,H b=some (.iT o (.lst xs))
theorem Y5 {P:Program}{w:World}{K:ajA}{mg lh:ajy}{e3:md}{k:Nat}{fa a:Addr}{fd:FuncData}{x:Str}{sp:b_}{cz:Shared}{aa:ajC}{ns:ajH}
  (KX:K.In cz.heap)(tb:cz.heap.Ns mainGlobals mg)(hb:cz.heap.Ns builtinsNs lh)(Q9:∀x:Str,x≠"__name__"->lh x=bootBuiltins x)(Rv:cz.heap.NoLimit)(Rg:cz.heap.NoDigits)(hg:cz.gens=#[])
  (ha:cz.heap.get? a=some {cls:=.type "list",data:=.seq aa.toArray})(hi:IntsAre aa ns)(hl:ns.length<=sizeLine)(hr:dI k callerA)
  (F:∀base:Heap,K.In base->base.Ns mainGlobals mg->hA P w K mg base e3 k fa fd [x] sp)(Q_:∀(s:Shared)(u:Value),BindsTo s fd ⟨[u],[]⟩ [(x,u)])
  (oD:∀H:ah,Eu H->bP K H a (ns.map V.int)->sp [.ref a] H (fun v _=>v=.aG true) fun _ _ _=>False)
  (zb:∀H e ar,e3 [] H cz (fun _ _ _=>False) e ar->False) :
  codeAny (model P w) callerA (.call (.ref fa) ⟨[.ref a],[]⟩) (fun r ar=>r=.ok (.ret (.bool true))/\OldK cz.heap ar.heap/\ar.os=cz.os/\AllBare ar.gens) cz:=by
 have bg:=Cs hi
 have SK:=hi.length
 have core : ∀ H : ah, Eu H -> bP K H a (ns.map V.int) -> ep P w H cz.heap -> (∀ b, H b ≠ none -> b = a) -> (H a ≠ none -> K.lookup a = none) ->
   codeAny (model P w) callerA (.call (.ref fa) ⟨[.ref a],[]⟩) (fun r ar=>r=.ok (.ret (.bool true))/\OldK cz.heap ar.heap/\ar.os=cz.os/\AllBare ar.gens) cz:=by
  intro H vN fL aX gC bL
  have E0:∀{b:Addr}{o:Obj},cz.heap.get? b=some o->H b=none->(n7 cz.heap H).get? b=some o:=fun e n=>Za e n
  have tF:∀{b:Addr}{o:Obj}{aA:Array DictEntry}{cV:Nat},cz.heap.get? b=some o->o.data=.dict aA cV->H b=none:=fun {b o aA cV} e d=>by
   cases q:H b with
   | none=>rfl
   | some u=>
    have aU:b=a:=gC b (by rw[q];simp)
    subst aU
    rw[ha]at e;cases e
    have d':Data.seq aa.toArray _=Data.dict aA cV:=d
    cases d'
  have tH:∀{b:Addr}{m:ajy},cz.heap.Ns b m->(n7 cz.heap H).Ns b m:=fun {b m} ⟨o,aA,cV,e,d,r⟩=>⟨o,aA,cV,E0 e (tF e d),d,r⟩
  have Gg:K.In (n7 cz.heap H):=fun b o e=>E0 (KX b o e) (by
   cases q:H b with
   | none=>rfl
   | some u=>
    have aU:b=a:=gC b (by rw[q];simp)
    subst aU
    rw[bL (by rw[q];simp)]at e;cases e)
  have Q1:Mod K mg (n7 cz.heap H):=⟨Gg,tH tb,⟨lh,tH hb,Q9⟩,let ⟨zW,h1,h2⟩:=Rv;⟨zW,tH h1,h2⟩,let ⟨zW,h1,h2⟩:=Rg;⟨zW,tH h1,h2⟩⟩
  have ed:pq P w K mg (n7 cz.heap H) callerA [] cz H:=⟨rfl,Q1,fun b o e=>aag e,Nat.le_of_eq (X6 _ _),trivial,fun b hb=>absurd (show b∈([]:ajG) from hb) (by simp),aX,.of_eq hg⟩
  refine ahl ((F _ Gg (tH tb)).run callerA [] cz H ⟨[.ref a],[]⟩ [.ref a] [.ref a] _ _ hr ed (Q_ cz (.ref a)) (.cons rfl .nil) (oD H vN fL)) fun r ar h=>?_
  cases r with
  | error e=>exact (zb H e ar h).elim
  | ok dE =>
   cases dE with
   | next=>exact False.elim h
   | brk=>exact False.elim h
   | cont=>exact False.elim h
   | ret u =>
    obtain ⟨v,J,os,bare,un,RF,bJ,q⟩:=h
    have bD:v=.aG true:=q
    subst bD
    obtain rfl:u=Value.bool true:=bJ
    refine ⟨rfl,OldK.of_keep fun b o e=>?_,os,bare⟩
    cases q:H b with
    | none=>exact un.keep b o e q (by intro z;exact absurd (show b∈([]:ajG) from z) (by simp)) (by simp)
    | some u =>
     rcases vN b with z|⟨b2,xs,z⟩
     ·rw[q]at z;cases z
     ·have z2:=un.iU b b2 _ z
      obtain ⟨ai,_⟩:=aX b _ z
      obtain ⟨az,_⟩:=RF b _ z2
      rw[e]at ai;cases ai
      exact az
 cases hk:K.lookup a with
 | some o=>
  have e:=KX a o hk
  rw[ha]at e
  cases e
  refine core (fun _=>none) (fun _=>.inl rfl) (.inr ⟨_,aa.toArray,_,hk,rfl,rfl,rfl,by rw[afN,SK];exact hl,by simpa using bg⟩) (fun b u z=>by have dO:(none:Option dT)=some u:=z;cases dO) (fun b z=>absurd rfl z) fun z=>absurd rfl z
 | none =>
  refine core (fun b=>if b=a then some (.iT {cls:=.type "list",data:=.seq aa.toArray} (.lst (ns.map V.int))) else none) (fun b=>?_) (.inl (.inr ⟨{cls:=.type "list",data:=.seq aa.toArray},afD rfl⟩)) (fun b u z=>?_) (fun b z=>?_) fun _=>hk
  ·by_cases hb:b=a
   ·exact .inr ⟨_,_,afD hb⟩
   ·exact .inl (afC hb)
  ·by_cases hb:b=a
   ·have dO:=(afD hb).symm.trans z
    cases dO
    subst hb
    exact ⟨ha,by rw[afG];exact hl,aa,_,bg,ha⟩
   ·have dO:=(afC hb).symm.trans z
    cases dO
  ·by_cases hb:b=a
   ·exact hb
   ·exact absurd (afC hb) z
end L2
namespace L2
theorem Wy {l:PySem.W.OpenLaw}{n k:Nat}{q:Program}{loose:ajD}{qW:(Str->Option Value)->Heap->Prop}{oo:World->Heap->Prop}{d:DefRec}{K:Params->PySem.W.Frag}{e3:World->md}{sp:World->b_}{x:Str}
  (hn:l.most=some n)(RB:n<=sizeLine)(s7:d.params.defaults=[])(hr:dI k callerA)
  (zf:∀(w:World)(h:Heap),oo w h->(K w.params).In h)
  (F:∀(w:World)(mg:ajy)(fa:Addr)(h:Heap),(K w.params).In h->h.Ns mainGlobals mg->mg d.name=some (.ref fa)->
   ∃fd:FuncData,(∀(s:Shared)(u:Value),BindsTo s fd ⟨[u],[]⟩ [(x,u)])/\
    ∀base:Heap,(K w.params).In base->base.Ns mainGlobals mg->hA l.prog w (K w.params) mg base (e3 w) k fa fd [x] (sp w))
  (oD:∀(w:World)(H:ah)(a:Addr)(ns:ajH),ns.length<=n->Eu H->bP (K w.params) H a (ns.map V.int)->sp w [.ref a] H (fun v _=>v=.aG true) fun _ _ _=>False)
  (zb:∀(w:World)(H:ah)(s:Shared)(e:Value)(ar:Shared),e3 w [] H s (fun _ _ _=>False) e ar->False) :
  PySem.W.WalkO q loose qW oo l.row.toRowW d [] (fun f aa=>PySem.call f aa):=by
 refine Ez.Nr hn s7 fun w bf cz mg lh fa o pm cd doc a aa ns G Y ho hd hcd hmg zx hints hlen hg=>?_
 have KX:=zf w _ Y
 obtain ⟨fd,hb,sW⟩:=F w mg fa _ KX G.T.g hmg
 exact Y5 KX G.T.g G.T.b G.T.builtins G.T.nolimit G.T.nodigits hg zx hints (afK hlen RB) hr sW hb (fun H vN fL=>oD w H a ns hlen vN fL) fun H e ar=>zb w H cz e ar
def i_ (s:Stmt)(j:Nat):Stmt:=match s with
 | .ClassDef _ _ _ body _ _ _ _ _ _ _=>body.getD j (.Pass ⟨0,0,0,0⟩)
 | _=>.Pass ⟨0,0,0,0⟩
def iz (s:Stmt):Arguments:=match s with
 | .FunctionDef _ a _ _ _ _ _ _ _ _=>a
 | _=>{posonlyargs:=[],args:=[],vararg:=none,kwonlyargs:=[],kw_defaults:=[],kwarg:=none,defaults:=[]}
def gc (s:Stmt):List Stmt:=match s with
 | .FunctionDef _ _ b _ _ _ _ _ _ _=>b
 | _=>[]
def bu (s:Stmt):Scope:=match s with
 | .FunctionDef _ _ _ _ _ _ sc _ _ _=>sc
 | _=>{kind:=.function,names:=[],isGenerator:=false,isCoroutine:=false}
abbrev hz:md:=fun _ _ _ _ _ _=>False
abbrev fV:fg:=fun _ _ _=>False
theorem adD {X:aO}:DJ hz X fV:=fun _ _ _ _ _ _ _ h=>h.elim
structure me (K:ajA)(x qual:Str)(st:Stmt)(f:Addr)(fd:FuncData):Prop where
 ex:∃(e_:Value) (od:ajF) (cQ doc pm:Value) (an:ajF) (a6 cq:Value) (g9:ajB),
  fd=PySem.W.fnOf x qual (iz st) (gc st) (bu st) .none cQ doc pm an a6 cq/\K.lookup f=some ⟨e_,od,.func fd,g9⟩/\PySem.W.codeIn K a6 qual=true
 cR:PySem.W.keepIn K (.ref f)=true
section
variable {P:Program}{w:World}{K:ajA}{mg:ajy}{base:Heap}
variable {qual:Str}{st:Stmt}{f:Addr}{fd:FuncData}{av:ajD}
theorem me.ok {x:Str}{N:ajD}{k:Nat}{sp:b_}(F:me K x qual st f fd)(S:b0 N av (bu st))(len:∀aa H Q E,sp aa H Q E->aa.length=av.length)
  (kf:∀(a6:Value)(A:Around)(outer:List Env)(s:Shared)(H:ah)(aa:List V)(Q:bW)(E:fg),dI k (A.deeper (envOfC qual (bu st) s.heap.objs.size f a6))->sp aa H Q E->
   ∃t,iM (jc hz P w K mg base N qual (bu st) f a6 A outer s H E).p2 (gc st) t/\t {nx:=fun _ J=>Q .bz J,eT:=Q} (start N aa) H):hA P w K mg base hz (k+1) f fd av sp:=by
 obtain ⟨e_,od,cQ,doc,pm,an,a6,cq,g9,rfl,lk,hcd⟩:=F.ex
 refine Mi lk hcd S len fun A outer s H aa Q E hr oD=>?_
 obtain ⟨t,h,q⟩:=kf a6 A outer s H aa Q E hr oD
 exact ⟨t,h.p2,q⟩
theorem me.binds {x:Str}(F:me K x qual st f fd)
  (h:∀(cQ doc pm:Value)(an:ajF)(a6 cq:Value)(us:ajC),us.length=av.length->bindArgs (PySem.W.fnOf x qual (iz st) (gc st) (bu st) .none cQ doc pm an a6 cq) ⟨us,[]⟩=pure (av.zip us)):Binds K fd av []:=by
 obtain ⟨e_,od,cQ,doc,pm,an,a6,cq,g9,rfl,lk,hcd⟩:=F.ex
 exact .all (h cQ doc pm an a6 cq)
theorem r7 {x:Str}{e_:Value}{od an:ajF}{g9:ajB}{cQ doc pm a6 cq:Value}(l:K.lookup f=some ⟨e_,od,.func (PySem.W.fnOf x qual (iz st) (gc st) (bu st) .none cQ doc pm an a6 cq),g9⟩)
  (c:PySem.W.codeIn K a6 qual=true)(k:PySem.W.keepIn K (.ref f)=true):me K x qual st f (PySem.W.fnOf x qual (iz st) (gc st) (bu st) .none cQ doc pm an a6 cq):=⟨⟨e_,od,cQ,doc,pm,an,a6,cq,g9,rfl,l,c⟩,k⟩
end
theorem l_ {A:Around}{k:Nat}(hr:dI k A):A.units+1<cLine:=ahs (Nat.add_le_add_left (by decide:1<=64) _) hr.units
theorem XG {n:Nat}(h:n<=1000):n<sizeLine:=ahs h (by decide)
section
variable {X:aO}
theorem TA (i:Nat){x:Str}{pos:Pos}(hN:X.N[i]?=some x:=by rfl)(hv:m7 X.env.scope x:=by first|exact Or.inl rfl|exact Or.inr (Or.inl rfl)|exact Or.inr (Or.inr rfl))(hd:(x == ("__debug__":Str))=false:=by decide)
  (hcd:(x == ("__classdict__":Str))=false:=by decide):bN X (.Name x pos) (u3 i):=K_ hN hv hd hcd
end
theorem kN {A B:Prop}(h:B):if false=true then A else B:=by
 rw[afC afT]
 exact h
theorem n6 {A B:Prop}(h:A):if true=true then A else B:=by
 rw[afD rfl]
 exact h
theorem fG {c A B:Prop}[Decidable c](h1:c->A)(h2:¬c->B):if c then A else B:=by
 by_cases h:c
 ·rw[afD h]
  exact h1 h
 ·rw[afC h]
  exact h2 h
def bb (H J:ah):Prop:=∀b o,H b=some o->J b=some o
theorem bb.refl (H:ah):bb H H:=fun _ _ h=>h
theorem bb.trans {H H1 ag:ah}(a:bb H H1)(b:bb H1 ag):bb H ag:=fun c o h=>b c o (a c o h)
theorem bb.seq {K:ajA}{H J:ah}{a:Addr}{xs:List V}(e:bb H J)(h:bP K H a xs):bP K J a xs:=by
 rcases h with (h|⟨o,h⟩)|h
 ·exact .inl (.inl (e _ _ h))
 ·exact .inl (.inr ⟨o,e _ _ h⟩)
 ·exact .inr h
def aer (a:Addr)(b c:Bool)(h:Heap):Prop:=(a == sysModules)=false/\∃o aA cV,h.get? a=some o/\o.ExactDict/\o.data=.dict aA cV/\Vals [.aG b] (aA.toList.map (·.key))/\Vals [.aG c] (aA.toList.map (·.val))
def ob (a:Addr)(b c:Bool):dT:=.ext (aer a b c)
mutual
inductive aS (K:ajA)(H:ah):V->PyData->Prop
 | bz:aS K H .bz .none
 | aG (b:Bool):aS K H (.aG b) (.bool b)
 | int (i:Int):aS K H (.int i) (.int i)
 | str (x:Str):aS K H (.str x) (.str x)
 | lst {a:Addr} {xs:List V} {ds:ajz}:bP K H a xs->bE K H xs ds->aS K H (.ref a) (.list ds)
 | tup {a:Addr} {xs:List V} {ds:ajz}:bp K H a xs->bE K H xs ds->aS K H (.ref a) (.tuple ds)
 | e9 {a:Addr} {kvs:List (Key×V)} {bT:List (PyData×PyData)}:H a=some (.cE kvs)->bE K H (kvs.map fun p=>cQ p.1) (bT.map (·.1))->bE K H (kvs.map (·.2)) (bT.map (·.2))->aS K H (.ref a) (.dict bT)
 | fs {a:Addr} {b c:Bool} {bT:List (PyData×PyData)}:H a=some (ob a b c)->bE K H [.aG b] (bT.map (·.1))->bE K H [.aG c] (bT.map (·.2))->aS K H (.ref a) (.dict bT)
inductive bE (K:ajA)(H:ah):List V->List PyData->Prop
 | nil:bE K H [] []
 | cons {x:V} {xs:List V} {d:PyData} {ds:ajz}:aS K H x d->bE K H xs ds->bE K H (x::xs) (d::ds)
end
section
variable {K:ajA}{H J:ah}
theorem bb.hh {a:Addr}{xs:List V}(e:bb H J)(h:bp K H a xs):bp K J a xs:=by
 rcases h with (h|⟨o,h⟩)|h
 ·exact .inl (.inl (e _ _ h))
 ·exact .inl (.inr ⟨o,e _ _ h⟩)
 ·exact .inr h
theorem bY {p:Addr}(h:H p=none)(o:dT):bb H (upd H p o):=fun b u q=>by rw[br (eN q h)];exact q
mutual
theorem aS.mono (e:bb H J):∀{v:V}{d:PyData},aS K H v d->aS K J v d
 | _,_,.bz=>.bz
 | _,_,.aG b=>.aG b
 | _,_,.int i=>.int i
 | _,_,.str x=>.str x
 | _,_,.lst h t=>.lst (e.seq h) (bE.mono e t)
 | _,_,.tup h t=>.tup (e.hh h) (bE.mono e t)
 | _,_,.e9 h k t=>.e9 (e _ _ h) (bE.mono e k) (bE.mono e t)
 | _,_,.fs h k t=>.fs (e _ _ h) (bE.mono e k) (bE.mono e t)
theorem bE.mono (e:bb H J):∀{aa:List V}{ds:ajz},bE K H aa ds->bE K J aa ds
 | _,_,.nil=>.nil
 | _,_,.cons h t=>.cons (aS.mono e h) (bE.mono e t)
end
theorem bE.length:∀{aa:List V}{ds:ajz},bE K H aa ds->aa.length=ds.length
 | _,_,.nil=>rfl
 | _,_,.cons _ t=>by rw[afX,afX,bE.length t]
theorem bE.get:∀{aa:List V}{ds:ajz}{i:Nat}{d:PyData},bE K H aa ds->ds[i]?=some d->∃v,aa[i]?=some v/\aS K H v d
 | _,_,i,_,.nil,h=>by simp at h
 | _,_,0,_,.cons h _,e=>by cases e;exact ⟨_,rfl,h⟩
 | _,_,i+1,_,.cons _ t,e=>by
  obtain ⟨v,q,r⟩:=bE.get t (i:=i) e
  exact ⟨v,q,r⟩
theorem bE.append:∀{aa ws:List V}{ds aA:ajz},bE K H aa ds->bE K H ws aA->bE K H (aa++ws) (ds++aA)
 | _,_,_,_,.nil,t=>t
 | _,_,_,_,.cons h t,u=>.cons h (bE.append t u)
theorem bE.take:∀{aa:List V}{ds:ajz}(n:Nat),bE K H aa ds->bE K H (aa.take n) (ds.take n)
 | _,_,0,_=>.nil
 | _,_,_+1,.nil=>.nil
 | _,_,n+1,.cons h t=>.cons h (bE.take n t)
end
theorem uf {P:Program}{w:World}:∀{kvs:List (Key×V)}{aa:List (Key×Value)}{aA:List DictEntry},e5 kvs aa->Pairs (iy P w) aA aa->Vals (kvs.map fun p=>cQ p.1) (aA.map (·.key))/\Vals (kvs.map (·.2)) (aA.map (·.val))
 | _,_,_,.nil,.nil=>⟨.nil,.nil⟩
 | _, _, _, .cons (a := p) (b := q) h t, .cons (e := e) hk hv av => by
  obtain ⟨a,b⟩:=uf t av
  refine ⟨.cons ?_ a,.cons ?_ b⟩
  ·have f6:qG q.1 e.key=true:=hk
   show RelV (cQ p.1) e.key
   rw[h.1]
   rcases mL f6 with ⟨i,t,ai,az⟩|⟨x,t,ai,az⟩
   ·rw[ai,az];exact ⟨t,rfl⟩
   ·rw[ai,az];exact ⟨t,rfl⟩
  ·show RelV p.2 e.val
   rw[hv];exact h.2
section
variable {X:aO}{pins:ajx}{σ:St}{H:ah}{s:Shared}
mutual
theorem Inv.reads (I:Inv X pins σ H s):∀{v:V}{d:PyData}{u:Value},aS X.K H v d->RelV v u->∃as,Reads s.heap u d as
 | _,_,_,.bz,r=>by cases r;exact ⟨_,.none⟩
 | _,_,_,.aG b,r=>by cases r;exact ⟨_,.bool b⟩
 | _,_,_,.int i,r=>by obtain ⟨t,rfl⟩:=r;exact ⟨_,.int i t⟩
 | _,_,_,.str x,r=>by obtain ⟨t,rfl⟩:=r;exact ⟨_,.str x t⟩
 | _,_,_,.lst h t,r=>by
  cases r
  obtain ⟨its,bg,⟨o,n,e,c,_,d⟩,_⟩:=I.list h
  obtain ⟨as,q⟩:=Inv.readsAll I t bg
  exact ⟨_,.list e c d q⟩
 | _,_,_,.tup h t,r=>by
  cases r
  obtain ⟨its,bg,⟨o,e,c,n,d⟩,_⟩:=I.tuple h
  obtain ⟨as,q⟩:=Inv.readsAll I t bg
  exact ⟨_,.tuple e c d q⟩
 | _,_,_,.e9 (a:=a) (kvs:=kvs) h k t,r=>by
  cases r
  obtain ⟨_,_,aa,dk,o,aA,cV,e,x,da,_,av,_⟩:=(show c_ X.prog X.w H s.heap a (.cE kvs) from I.aX a _ h)
  obtain ⟨fy,bg⟩:=uf dk av
  obtain ⟨as,q⟩:=Inv.readsAll I k fy
  obtain ⟨bs,bD⟩:=Inv.readsAll I t bg
  exact ⟨_,.dict e x.1 da q bD⟩
 | _,_,_,.fs (a:=a) (b:=b) (c:=c) h k t,r=>by
  cases r
  obtain ⟨⟨_,o,aA,cV,e,x,da,fy,bg⟩,_⟩:=(show c_ X.prog X.w H s.heap a (ob a b c) from I.aX a _ h)
  obtain ⟨as,q⟩:=Inv.readsAll I k fy
  obtain ⟨bs,bD⟩:=Inv.readsAll I t bg
  exact ⟨_,.dict e x.1 da q bD⟩
theorem Inv.readsAll (I:Inv X pins σ H s):∀{aa:List V}{ds:ajz}{us:ajC},bE X.K H aa ds->Vals aa us->∃as,ReadsAll s.heap us ds as
 | _,_,_,.nil,r=>by cases r;exact ⟨_,.nil⟩
 | _, _, _, .cons h t, r => by
  cases r with
  | cons au bt=>
   obtain ⟨a1,aL⟩:=Inv.reads I h au
   obtain ⟨a2,bU⟩:=Inv.readsAll I t bt
   exact ⟨_,.cons aL bU⟩
end
end
section
variable {X:aO}
theorem Inv.nodigits {pins:ajx}{σ:St}{H:ah}{s:Shared}(I:Inv X pins σ H s):s.heap.NoDigits:=I.ok.mod.nodigits.keeps I.d8
end
mutual
def d7:PyData->Prop
 | .none=>True
 | .bool _=>True
 | .str _=>True
 | .int i=>i.natAbs<2^14000
 | .list xs=>hP xs
 | .tuple xs=>hP xs
 | .dict kvs=>ie kvs
def hP:List PyData->Prop
 | []=>True
 | x::xs=>d7 x/\hP xs
def ie:List (PyData×PyData)->Prop
 | []=>True
 | (k,v)::r=>d7 k/\d7 v/\ie r
end
theorem ie.split:∀{kvs:List (PyData×PyData)},ie kvs->hP (kvs.map (·.1))/\hP (kvs.map (·.2))
 | [],_=>⟨by simp only[agt,hP],by simp only[agt,hP]⟩
 | (k,v)::r,h=>by
  have h':d7 k/\d7 v/\ie r:=by simpa only[ie] using h
  obtain ⟨a,b⟩:=ie.split h'.2.2
  exact ⟨by simp only[af8,hP];exact ⟨h'.1,a⟩,by simp only[af8,hP];exact ⟨h'.2.1,b⟩⟩
theorem DF {i:Int}(h:i.natAbs<2^14000):i.natAbs<10^4300:=af0 h (by decide +kernel)
section
variable {prog:Program}{w:World}{A:Around}{E:ajv}{s:Shared}{h₀:Heap}
theorem Cg {a:Int}{t:Tok}{Q:ajv}(hn:s.heap.NoDigits)(dj:a.natAbs<10^4300)(h1:Q (.str (toString a) s.toks) {s with toks:=s.toks+1}) :
  wpAny (model prog w) A (call (.builtin "int.__repr__") [.int a t]) Q E s:=by
 refine agQ aie (agS s a t) F.entry_int_repr ?_ (F.args_int_repr_1 _)
 unfold Builtin.«int.__repr__»
 show wpAny _ _ (do let r <-Builtin.overDigitLimit? a;_) _ _ s
 refine afB (overDigitLimit_any hn (fun _=>?_) (fun Rm=>absurd dj (aif.mpr Rm)))
 exact afB (wpAny_mkStr (afF ⟨_,rfl,h1⟩) (int_text_fits10 dj))
theorem XJ {a:Int}(t:Tok)(hn:h₀.NoDigits)(dj:a.natAbs<10^4300)(d:Nat):ReprK prog w [] h₀ d (.int a t) (toString a):=fun base hb A g E s Q hg lb hu s_ hF=>by
 have ta:base<=sizeLine:=by lia
 rw[pyReprUnder_leaf (v:=.int a t) ta (fun _ e=>nomatch e)]
 unfold pyRepr
 exact afB (wpAny_pyReprObj_slot ⋯ (agS s a t) aie.toG (Cg (hn.keeps s_) dj ⟨_,_,rfl,afF (hF s.heap _ fun _ _ e=>e)⟩))
end
section
variable {X:aO}{pins:ajx}{σ:St}{H:ah}{s:Shared}
mutual
theorem Inv.UZ (I:Inv X pins σ H s):∀{v:V}{d:PyData}{u:Value},aS X.K H v d->RelV v u->d7 d->d.shown.length<=sizeLine->∃bs,ReadAtMost s.heap d.depth bs/\ReprK X.prog X.w bs s.heap d.depth u d.shown
 | _,_,_,.bz,r,_,_=>by cases r;exact ⟨[],(fun _ h=>nomatch h),by simp only[PyData.shown];exact .of_is ReprIs.none _ _ _⟩
 | _,_,_,.aG b,r,_,_=>by cases r;exact ⟨[],(fun _ h=>nomatch h),by simp only[PyData.shown];exact .of_is (ReprIs.bool b) _ _ _⟩
 | _,_,_,.int i,r,hs,_=>by obtain ⟨t,rfl⟩:=r;exact ⟨[],(fun _ h=>nomatch h),by simp only[PyData.shown];exact XJ t I.nodigits (DF (by simpa only[d7] using hs)) _⟩
 | _,_,_,.str x,r,_,aZ=>by obtain ⟨t,rfl⟩:=r;exact ⟨[],(fun _ h=>nomatch h),by simp only[PyData.shown];exact .of_is (ReprIs.str x t (by simpa only[PyData.shown] using aZ)) _ _ _⟩
 | _, _, _, .lst (a := a) (xs := xs) (ds := ds) h t, r, hs, aZ => by
  cases r
  have d4:(listText (PyData.shownAll ds)).length<=sizeLine:=by simpa only[PyData.shown] using aZ
  obtain ⟨its,bg,⟨o,n,e,c,_,d⟩,_⟩:=I.list h
  obtain ⟨as,q⟩:=I.readsAll t bg
  obtain ⟨bs,hb,hk⟩:=Inv.g_ I t bg (by simpa only[d7] using hs) (fun t aH=>afK (aiS aH) d4)
  have r:Reads s.heap (.ref a) (.list ds) _:=.list e c d q
  have f7:a∉bs:=agu r (by simp only[PyData.depth];lia) hb
  refine ⟨a::bs,aih r (by simp only[PyData.depth];lia) hb,?_⟩
  simp only[PyData.depth,PyData.shown]
  cases its with
  | nil=>
   cases q
   simp only[PyData.shownAll,listText_nil]
   exact ReprK.listEmpty e c d
  | cons x l=>exact ReprK.list e c d f7 (by simpa using hk.length_eq) (fun i y e=>hk.item i y (by simpa using e))
 | _,_,_,.tup (a:=a) (ds:=ds) h t,r,hs,aZ=>by
  cases r
  have d4:(tupleText (PyData.shownAll ds)).length<=sizeLine:=by simpa only[PyData.shown] using aZ
  obtain ⟨its,bg,⟨o,e,c,n,d⟩,_⟩:=I.tuple h
  obtain ⟨as,q⟩:=I.readsAll t bg
  obtain ⟨bs,hb,hk⟩:=Inv.g_ I t bg (by simpa only[d7] using hs) (fun t aH=>afK (aiT aH) d4)
  have r:Reads s.heap (.ref a) (.tuple ds) _:=.tuple e c d q
  have f7:a∉bs:=agu r (by simp only[PyData.depth];lia) hb
  refine ⟨a::bs,aih r (by simp only[PyData.depth];lia) hb,?_⟩
  simp only[PyData.depth,PyData.shown]
  exact ReprK.tuple e c d f7 hk
 | _,_,_,.e9 (a:=a) (kvs:=kvs) (bT:=bT) h k t,r,hs,aZ=>by
  cases r
  have d4:(dictText (PyData.shownKv bT)).length<=sizeLine:=by simpa only[PyData.shown] using aZ
  obtain ⟨lU,hs2⟩:=ie.split (by simpa only[d7] using hs)
  obtain ⟨_,lV,aa,dk,o,aA,cV,e,x,da,_,av,_⟩:=(show c_ X.prog X.w H s.heap a (.cE kvs) from I.aX a _ h)
  obtain ⟨fy,bg⟩:=uf dk av
  obtain ⟨as,q⟩:=I.readsAll k fy
  obtain ⟨bs,bD⟩:=I.readsAll t bg
  obtain ⟨cU,kd,k1⟩:=Inv.g_ I k fy lU (fun t aH=>let ⟨p,hp,hl⟩:=aht bT t aH;afK hl (afK (agv hp) d4))
  obtain ⟨c6,ke,k2⟩:=Inv.g_ I t bg hs2 (fun t aH=>let ⟨p,hp,hl⟩:=ahu bT t aH;afK hl (afK (agv hp) d4))
  have r:Reads s.heap (.ref a) (.dict bT) _:=.dict e x.1 da q bD
  have hb:ReadAtMost s.heap (PyData.depthKv bT) (cU++c6):=(kd.mono (agw bT)).append (ke.mono (agx bT))
  have f7:a∉cU++c6:=agu r (by simp only[PyData.depth];lia) hb
  refine ⟨a::(cU++c6),aih r (by simp only[PyData.depth];lia) hb,?_⟩
  simp only[PyData.depth,PyData.shown,agG]
  exact ReprK.dict e x.1 da lV f7 (ahv aA.toList _ _ (k1.more_le (fun b hb=>agA _ hb) (agw bT)) (k2.more_le (fun b hb=>af7 _ hb) (agx bT)))
 | _,_,_,.fs (a:=a) (b:=b) (c:=c) (bT:=bT) h k t,r,hs,aZ=>by
  cases r
  have d4:(dictText (PyData.shownKv bT)).length<=sizeLine:=by simpa only[PyData.shown] using aZ
  obtain ⟨lU,hs2⟩:=ie.split (by simpa only[d7] using hs)
  obtain ⟨⟨lV,o,aA,cV,e,x,da,fy,bg⟩,_⟩:=(show c_ X.prog X.w H s.heap a (ob a b c) from I.aX a _ h)
  obtain ⟨as,q⟩:=I.readsAll k fy
  obtain ⟨bs,bD⟩:=I.readsAll t bg
  obtain ⟨cU,kd,k1⟩:=Inv.g_ I k fy lU (fun t aH=>let ⟨p,hp,hl⟩:=aht bT t aH;afK hl (afK (agv hp) d4))
  obtain ⟨c6,ke,k2⟩:=Inv.g_ I t bg hs2 (fun t aH=>let ⟨p,hp,hl⟩:=ahu bT t aH;afK hl (afK (agv hp) d4))
  have r:Reads s.heap (.ref a) (.dict bT) _:=.dict e x.1 da q bD
  have hb:ReadAtMost s.heap (PyData.depthKv bT) (cU++c6):=(kd.mono (agw bT)).append (ke.mono (agx bT))
  have f7:a∉cU++c6:=agu r (by simp only[PyData.depth];lia) hb
  refine ⟨a::(cU++c6),aih r (by simp only[PyData.depth];lia) hb,?_⟩
  simp only[PyData.depth,PyData.shown,agG]
  exact ReprK.dict e x.1 da lV f7 (ahv aA.toList _ _ (k1.more_le (fun b hb=>agA _ hb) (agw bT)) (k2.more_le (fun b hb=>af7 _ hb) (agx bT)))
theorem Inv.g_ (I:Inv X pins σ H s):∀{aa:List V}{ds:ajz}{us:ajC},bE X.K H aa ds->Vals aa us->hP ds->(∀t∈PyData.shownAll ds,t.length<=sizeLine)->
  ∃bs,ReadAtMost s.heap (PyData.depthAll ds) bs/\ReprAllK X.prog X.w bs s.heap (PyData.depthAll ds) us (PyData.shownAll ds)
 | _,_,_,.nil,r,_,_=>by cases r;exact ⟨[],(fun _ h=>nomatch h),by simp only[PyData.shownAll];exact .nil⟩
 | _, _, _, .cons (d := d) (ds := ds) h t, r, hs, aZ => by
  cases r with
  | cons au bt =>
   have lT:d7 d/\hP ds:=by simpa only[hP] using hs
   obtain ⟨cU,kd,k1⟩:=Inv.UZ I h au lT.1 (aZ _ (by simp only[PyData.shownAll];exact af6 ..))
   obtain ⟨c6,ke,k2⟩:=Inv.g_ I t bt lT.2 (fun t aH=>aZ t (by simp only[PyData.shownAll];exact af5 _ aH))
   refine ⟨cU++c6,?_,?_⟩
   ·intro b hm
    simp only[PyData.depthAll]
    rcases agn.mp hm with hm|hm
    ·obtain ⟨d',yk,bJ,oC⟩:=kd b hm
     exact ⟨d',yk,bJ,afK oC (Nat.le_max_left _ _)⟩
    ·obtain ⟨d',yk,bJ,oC⟩:=ke b hm
     exact ⟨d',yk,bJ,afK oC (Nat.le_max_right _ _)⟩
   ·simp only[PyData.depthAll,PyData.shownAll]
    exact .cons ((k1.more fun b hb=>agA _ hb).level_le (Nat.le_max_left _ _)) (k2.more_le (fun b hb=>af7 _ hb) (Nat.le_max_right _ _))
end
end
section
variable {X:aO}
structure oh (d:PyData):Prop where
 bj:d7 d
 eI:d.depth<=60
 e1:d.shown.length<=sizeLine
variable {k:Nat}
theorem Yj (hr:dI k X.A):fE X (.builtin "repr") (fun xs H Q=>∃x d k,xs=[x]/\aS X.K H x d/\oh d/\k=d.shown/\Q (.str k) H):=by
 intro pins s σ H xs us Q I r h
 obtain ⟨x,d,k,rfl,hd,S,rfl,q⟩:=h
 obtain ⟨u,rfl,aB⟩:=iB r
 have hu:=hr.units
 have zv:=I.nodigits
 have fin:∀h' t tk,(∀b o,s.heap.get? b=some o->h'.get? b=some o)->gh X pins σ Q (.str d.shown t) {s with heap:=h',toks:=tk}:=fun h' t tk hk=>⟨.str d.shown,H,I.kept hk,⟨t,rfl⟩,q⟩
 cases hd with
 | bz=>cases aB;exact PySem.P.repr_of_none (fin s.heap _ _ fun _ _ e=>e)
 | aG b=>cases aB;exact PySem.P.repr_of_bool (fin s.heap _ _ fun _ _ e=>e)
 | int i=>
  obtain ⟨t,rfl⟩:=aB
  exact agy ⋯ (agS s i t) aie.toG (Cg zv (DF (by simpa only[d7] using S.bj)) ⟨_,_,rfl,fin s.heap _ _ fun _ _ e=>e⟩)
 | str y=>obtain ⟨t,rfl⟩:=aB;exact PySem.P.repr_of_str (fin s.heap _ _ fun _ _ e=>e) S.e1
 | lst h t =>
  rename_i a xs ds
  cases aB
  have d4:(listText (PyData.shownAll ds)).length<=sizeLine:=by simpa only[PyData.shown] using S.e1
  obtain ⟨its,bg,⟨o,n,e,c,_,dd⟩,_⟩:=I.list h
  obtain ⟨as,i2⟩:=I.readsAll t bg
  obtain ⟨bs,hb,hk⟩:=I.g_ t bg (by simpa only[d7] using S.bj) (fun t aH=>afK (aiS aH) d4)
  have f7:a∉bs:=agu (.list e c dd i2) (by simp only[PyData.depth];lia) hb
  have iW:=S.eI
  simp only[PyData.depth]at iW
  simp only[PyData.shown]at fin
  cases its with
  | nil=>
   cases i2
   simp only[PyData.shownAll,listText_nil]at fin
   exact agy ⋯ ⟨o,e,c⟩ aii.toG (call_list_repr_empty ⟨o,e,c⟩ e dd ⟨_,_,rfl,fin s.heap _ _ fun _ _ e=>e⟩)
  | cons y l=>
   exact agy ⋯ ⟨o,e,c⟩ aii.toG (call_list_reprK e c dd f7 (by simpa using hk.length_eq) (fun i y e=>hk.item i y (by simpa using e)) hr.ka (fun b _=>ag0 b) (by show X.A.units+1+_<cLine;lia) (fun _ _ e=>e) (fun h' u tk f6=>⟨_,_,rfl,fin h' u tk f6⟩) d4)
 | tup h t=>
  rename_i a xs ds
  cases aB
  have d4:(tupleText (PyData.shownAll ds)).length<=sizeLine:=by simpa only[PyData.shown] using S.e1
  obtain ⟨its,bg,⟨o,e,c,n,dd⟩,_⟩:=I.tuple h
  obtain ⟨as,i2⟩:=I.readsAll t bg
  obtain ⟨bs,hb,hk⟩:=I.g_ t bg (by simpa only[d7] using S.bj) (fun t aH=>afK (aiT aH) d4)
  have f7:a∉bs:=agu (.tuple e c dd i2) (by simp only[PyData.depth];lia) hb
  have iW:=S.eI
  simp only[PyData.depth]at iW
  simp only[PyData.shown]at fin
  exact agy ⋯ ⟨o,e,c⟩ F.slot_tuple_repr (call_tuple_reprK e c dd f7 hk hr.ka (fun b _=>ag0 b) (by show X.A.units+1+_<cLine;lia) (fun _ _ e=>e) (fun h' u tk f6=>⟨_,_,rfl,fin h' u tk f6⟩) d4)
 | e9 h kk t=>
  rename_i a kvs bT
  cases aB
  have d4:(dictText (PyData.shownKv bT)).length<=sizeLine:=by simpa only[PyData.shown] using S.e1
  obtain ⟨lU,hs2⟩:=ie.split (by simpa only[d7] using S.bj)
  obtain ⟨_,lV,aa,dk,o,aA,cV,e,x,da,_,av,_⟩:=(show c_ X.prog X.w H s.heap a (.cE kvs) from I.aX a _ h)
  obtain ⟨fy,bg⟩:=uf dk av
  obtain ⟨as,aL⟩:=I.readsAll kk fy
  obtain ⟨bs,bU⟩:=I.readsAll t bg
  obtain ⟨cU,kd,k1⟩:=I.g_ kk fy lU (fun t aH=>let ⟨p,hp,hl⟩:=aht bT t aH;afK hl (afK (agv hp) d4))
  obtain ⟨c6,ke,k2⟩:=I.g_ t bg hs2 (fun t aH=>let ⟨p,hp,hl⟩:=ahu bT t aH;afK hl (afK (agv hp) d4))
  have r:Reads s.heap (.ref a) (.dict bT) _:=.dict e x.1 da aL bU
  have hb:ReadAtMost s.heap (PyData.depthKv bT) (cU++c6):=(kd.mono (agw bT)).append (ke.mono (agx bT))
  have f7:a∉cU++c6:=agu r (by simp only[PyData.depth];lia) hb
  have iW:=S.eI
  simp only[PyData.depth]at iW
  simp only[PyData.shown,agG]at fin
  exact agy ⋯ ⟨o,e,x.1⟩ aij (aik e x.1 da lV f7 (ahv aA.toList _ _ (k1.more_le (fun b hb=>agA _ hb) (agw bT)) (k2.more_le (fun b hb=>af7 _ hb) (agx bT))) hr.ka (fun b _=>ag0 b) (by show X.A.units+1+_<cLine;lia) (fun _ _ e=>e) (fun h' u tk f6=>⟨_,_,rfl,fin h' u tk f6⟩) (by rw[<-agG];exact d4))
 | fs h kk t=>
  rename_i a b c bT
  cases aB
  have d4:(dictText (PyData.shownKv bT)).length<=sizeLine:=by simpa only[PyData.shown] using S.e1
  obtain ⟨lU,hs2⟩:=ie.split (by simpa only[d7] using S.bj)
  obtain ⟨⟨lV,o,aA,cV,e,x,da,fy,bg⟩,_⟩:=(show c_ X.prog X.w H s.heap a (ob a b c) from I.aX a _ h)
  obtain ⟨as,aL⟩:=I.readsAll kk fy
  obtain ⟨bs,bU⟩:=I.readsAll t bg
  obtain ⟨cU,kd,k1⟩:=I.g_ kk fy lU (fun t aH=>let ⟨p,hp,hl⟩:=aht bT t aH;afK hl (afK (agv hp) d4))
  obtain ⟨c6,ke,k2⟩:=I.g_ t bg hs2 (fun t aH=>let ⟨p,hp,hl⟩:=ahu bT t aH;afK hl (afK (agv hp) d4))
  have r:Reads s.heap (.ref a) (.dict bT) _:=.dict e x.1 da aL bU
  have hb:ReadAtMost s.heap (PyData.depthKv bT) (cU++c6):=(kd.mono (agw bT)).append (ke.mono (agx bT))
  have f7:a∉cU++c6:=agu r (by simp only[PyData.depth];lia) hb
  have iW:=S.eI
  simp only[PyData.depth]at iW
  simp only[PyData.shown,agG]at fin
  exact agy ⋯ ⟨o,e,x.1⟩ aij (aik e x.1 da lV f7 (ahv aA.toList _ _ (k1.more_le (fun b hb=>agA _ hb) (agw bT)) (k2.more_le (fun b hb=>af7 _ hb) (agx bT))) hr.ka (fun b _=>ag0 b) (by show X.A.units+1+_<cLine;lia) (fun _ _ e=>e) (fun h' u tk f6=>⟨_,_,rfl,fin h' u tk f6⟩) (by rw[<-agG];exact d4))
theorem Le (hr:dI k X.A):dh X (compareOp .Eq) (fun x y H Q=>∃d e,aS X.K H x d/\aS X.K H y e/\d.canLay0=true/\e.canLay0=true/\d.depth<=60/\Q (.aG (PyData.eqv d e)) H):=by
 intro pins s σ H x y v u Q I aB aJ h
 obtain ⟨d,e,hd,he,cd,ce,eI,q⟩:=h
 obtain ⟨as,au⟩:=I.reads hd aB
 obtain ⟨bs,bt⟩:=I.reads he aJ
 have hu:=hr.units
 refine PySem.SeqAt.compareEq_reads au bt cd ce ?_ ⟨.aG (PyData.eqv d e),H,I,rfl,q⟩
 have:=aiU d.depth e.depth
 lia
theorem Ld (hr:dI k X.A):dh X (compareOp .NotEq) (fun x y H Q=>∃d e,aS X.K H x d/\aS X.K H y e/\d.canLay0=true/\e.canLay0=true/\d.depth<=60/\Q (.aG (!PyData.eqv d e)) H):=by
 intro pins s σ H x y v u Q I aB aJ h
 obtain ⟨d,e,hd,he,cd,ce,eI,q⟩:=h
 obtain ⟨as,au⟩:=I.reads hd aB
 obtain ⟨bs,bt⟩:=I.reads he aJ
 have hu:=hr.units
 refine PySem.SeqAt.compareNe_reads au bt cd ce ?_ ⟨.aG (!PyData.eqv d e),H,I,rfl,q⟩
 have:=aiU d.depth e.depth
 lia
def adX (i j:Int):Prop:=j≠0/\j.natAbs.log2<9000
theorem JF:dh X (binaryOp .FloorDiv) (iu adX fun i j=>.int (i.fdiv j)):=oI fun i j _ _ _ _ _ hc q=>
 floordiv_int hc.1 q (.inl (PyProof.noPylong_of_log2 hc.2))
def sb (i j:Int):Prop:=Builtin.Int.intBits i<=2^20/\Builtin.Int.intBits j<=2^20
theorem l7:dh X (binaryOp .Mult) (iu sb fun i j=>.int (i*j)):=oI fun _ _ _ _ _ _ _ hc q=>mul_int q (IntMulOk.of_bits hc.1 hc.2)
end
def Src (K:ajA)(mg:ajy)(y x:Str)(st:Stmt):Prop:=∃f fd,me K x x st f fd/\mg y=some (.ref f)
structure Def (P:Program)(w:World)(K:ajA)(mg:ajy)(base:Heap)(x:Str)(av:ajD)(n:Nat)(sp:b_):Prop where
 ex:∃f fd,hA P w K mg base hz n f fd av sp/\PySem.W.keepIn K (.ref f)=true/\mg x=some (.ref f)/\Binds K fd av []/\∃e_ od g9,K.lookup f=some ⟨e_,od,.func fd,g9⟩
section
variable {P:Program}{w:World}{K:ajA}{mg:ajy}{base:Heap}
variable {st:Stmt}{av:ajD}{n:Nat}{sp:b_}
theorem Def.mk' {y x:Str}{N:ajD}(T:Src K mg y x st)(S:b0 N av (bu st))(len:∀aa H Q E,sp aa H Q E->aa.length=av.length)
  (hb:∀(cQ doc pm:Value)(an:ajF)(a6 cq:Value)(us:ajC),us.length=av.length->bindArgs (PySem.W.fnOf x x (iz st) (gc st) (bu st) .none cQ doc pm an a6 cq) ⟨us,[]⟩=pure (av.zip us))
  (kf:∀(f:Addr)(a6:Value)(A:Around)(outer:List Env)(s:Shared)(H:ah)(aa:List V)(Q:bW)(E:fg),dI n (A.deeper (envOfC x (bu st) s.heap.objs.size f a6))->sp aa H Q E->
   ∃t,iM (jc hz P w K mg base N x (bu st) f a6 A outer s H E).p2 (gc st) t/\t {nx:=fun _ J=>Q .bz J,eT:=Q} (start N aa) H):Def P w K mg base y av (n+1) sp:=by
 obtain ⟨f,fd,F,m⟩:=T
 exact ⟨f,fd,F.ok S len fun a6 A outer s H aa Q E hr h=>kf f a6 A outer s H aa Q E hr h,F.cR,m,F.binds hb,by
  obtain ⟨e_,od,cQ,doc,pm,an,a6,cq,g9,rfl,lk,hcd⟩:=F.ex
  exact ⟨_,_,_,lk⟩⟩
theorem Def.fn {x:Str}{f:Addr}{fd:FuncData}(D:Def P w K mg base x av n sp)(F:me K x x st f fd)(m:mg x=some (.ref f)):hA P w K mg base hz n f fd av sp:=by
 obtain ⟨f2,aeK,G,k,kj,b,e_,od,g9,lk⟩:=D.ex
 rw[m]at kj
 cases kj
 obtain ⟨ae1,ae2,cQ,doc,pm,an,a6,cq,ae3,rfl,GV,hcd⟩:=F.ex
 rw[lk]at GV
 cases GV
 exact G
end
section
variable {X:aO}{x:Str}{av:ajD}{n k:Nat}{sp:b_}{p pos:Pos}{e:Expr}{aA:ajE}{t:cP}
theorem adB (D:Def X.prog X.w X.K X.mg X.base x av n sp)(hr:dI k X.A)(ha:hB X (e::aA) t)(hk:n<=k:=by decide)(hg:eF X x:=by rfl)(hdb:(x == ("__debug__":Str))=false:=by decide)
  (he:starEach (e::aA) X.env=(false,eval e X.env)::starEach aA X.env:=by rfl)(hpl:(backTo pos (starEach aA X.env)).any (·.1)=false:=by rfl) :
  bN X (.Call (.Name x p) (e::aA) [] pos) (xw sp [] fV t):=by
 intro pins s σ H Q I h
 obtain ⟨f,fd,F,cR,m,b,_⟩:=D.ex
 exact aaa F (hr.mono hk) hg m cR b .nil adD ha hdb he hpl pins s σ H Q I h
end
inductive kV (K:ajA)(H:ah):V->String->Prop where
 | bz:kV K H .bz "NoneType"
 | aG (x:Bool):kV K H (.aG x) "bool"
 | int (i:Int):kV K H (.int i) "int"
 | str (x:Str):kV K H (.str x) "str"
 | lst {a:Addr} {xs:List V} (e:bP K H a xs):kV K H (.ref a) "list"
 | tup {a:Addr} {xs:List V} (e:bp K H a xs):kV K H (.ref a) "tuple"
 | cE {a:Addr} {kvs:List (Key×V)} (e:H a=some (.cE kvs)):kV K H (.ref a) "dict"
 | db {a:Addr} {b c:Bool} (e:H a=some (ob a b c)):kV K H (.ref a) "dict"
section
variable {X:aO}
theorem uA:fE X (.builtin "isinstance") (fun xs H Q=>∃x t c b,xs=[x,.ty c]/\kV X.K H x t/\PySem.W.kitOne X.K (.type t) (.type c)=some b/\Q (.aG b) H):=by
 intro pins s σ H xs us Q I r h
 obtain ⟨x,t,c,b,rfl,aH,hk,q⟩:=h
 obtain ⟨u,dn,rfl,aB,aJ⟩:=uS r
 cases aJ
 have fin:∀tk,gh X pins σ Q (.bool b) {s with toks:=tk}:=fun tk=>⟨.aG b,H,I.tok tk,rfl,q⟩
 cases aH with
 | bz=>exact uk I aB .bz hk fin
 | aG y=>exact uk I aB (.aG y) hk fin
 | int i=>exact uk I aB (.int i) hk fin
 | str y=>exact uk I aB (.str y) hk fin
 | cE e=>exact uk I aB (.cE e) hk fin
 | lst e=>
  cases aB
  obtain ⟨its,bg,⟨o,n,ai,dJ,_,_⟩,_⟩:=I.list e
  exact agm aiM I.en ⟨o,ai,dJ⟩ hk (fun z=>nomatch z) fin
 | tup e=>
  cases aB
  obtain ⟨its,bg,⟨o,ai,dJ,_⟩,_⟩:=I.tuple e
  exact agm PySem.W.kitx_tuple I.en ⟨o,ai,dJ⟩ hk (fun z=>nomatch z) fin
 | db e=>
  rename_i a b c
  cases aB
  obtain ⟨⟨_,o,aA,cV,ai,fC,_⟩,_⟩:=(show c_ X.prog X.w H s.heap a (ob a b c) from I.aX a _ e)
  exact agm aiN I.en ⟨o,ai,fC.1⟩ hk (fun z=>nomatch z) fin
end
variable {x y:Int}{m:Nat}
theorem gd:bootBuiltins "len"=some (.builtin "len"):=by decide +kernel
theorem DH:bootBuiltins "abs"=some (.builtin "abs"):=by decide +kernel
theorem acY:bootBuiltins "min"=some (.builtin "min"):=by decide +kernel
theorem rZ:bootBuiltins "repr"=some (.builtin "repr"):=by decide +kernel
theorem nM:bootBuiltins "isinstance"=some (.builtin "isinstance"):=by decide +kernel
theorem JX:bootBuiltins "range"=some (.type "range"):=by decide +kernel
theorem LH:bootBuiltins "int"=some (.type "int"):=by decide +kernel
theorem aaC:bootBuiltins "bool"=some (.type "bool"):=by decide +kernel
theorem lp:bootBuiltins "tuple"=some (.type "tuple"):=by decide +kernel
theorem Di:bootBuiltins "list"=some (.type "list"):=by decide +kernel
theorem MC:([]:List V).length<=sizeLine:=by show 0<=sizeLine;decide
theorem my {a:V}:[a].length<=sizeLine:=by show 1<=sizeLine;decide
theorem jx {a b:V}:[a,b].length<=sizeLine:=by show 2<=sizeLine;decide
theorem Zd (hx:0<=x)(hy:0<=y):Int.gcd y (x%y)=Int.gcd x y:=by
 obtain ⟨m,rfl⟩:=aiV hx
 obtain ⟨n,rfl⟩:=aiV hy
 rw[<-Int.natCast_emod]
 show Nat.gcd n (m%n)=Nat.gcd m n
 rw[Nat.gcd_comm m n,Nat.gcd_rec n m,Nat.gcd_comm]
abbrev cb (m:Nat)(x:Int):Prop:=x.natAbs<2^m
theorem cb.bits (h:cb m x):Builtin.Int.intBits x<=m:=by
 unfold Builtin.Int.intBits
 split
 ·exact afY _
 ·rename_i hx
  have tf:x.natAbs≠0:=by intro z;apply hx;simp;lia
  exact (Nat.log2_lt tf).mpr h
theorem cb.mono {n:Nat}(h:cb m x)(hm:m<=n):cb n x:=af0 h (Nat.pow_le_pow_right (by decide) hm)
theorem cb.log2 {m:Nat}{x:Int}(h:cb m x)(hm:0<m):x.natAbs.log2<m:=by
 by_cases hx:x.natAbs=0
 ·rw[hx];simpa using hm
 ·exact (Nat.log2_lt hx).mpr h
theorem cb.mul {n:Nat}(h:cb m x)(k:cb n y):cb (m+n) (x*y):=by
 show (x*y).natAbs<2^(m+n)
 rw[ail,Nat.pow_add]
 exact Nat.mul_lt_mul'' h k
theorem cb.add (h:cb m x)(k:cb m y):cb (m+1) (x+y):=by
 show (x+y).natAbs<2^(m+1)
 have h:x.natAbs<2^m:=h
 have k:y.natAbs<2^m:=k
 rw[Nat.pow_succ];lia
theorem cb.sub (h:cb m x)(k:cb m y):cb (m+1) (x-y):=by
 show (x-y).natAbs<2^(m+1)
 have h:x.natAbs<2^m:=h
 have k:y.natAbs<2^m:=k
 rw[Nat.pow_succ];lia
theorem cb.k6 {n:Nat}(h:cb m x)(k:cb n y)(hm:m<=2^20:=by decide)(hn:n<=2^20:=by decide):sb x y:=⟨afK h.bits hm,afK k.bits hn⟩
theorem cb.of_lt (b:Int)(h0:-b<x)(h1:x<b)(hb:b<=2^m):cb m x:=by
 show x.natAbs<2^m
 have:((x.natAbs:Nat):Int)<((2^m:Nat):Int):=by push_cast;lia
 exact Int.ofNat_lt.mp this
def bj (q:Rat):PyData:=.tuple [.int q.num,.int (q.den:Int)]
structure bH (m:Nat)(q:Rat):Prop where
 n:cb m q.num
 d:cb m (q.den:Int)
theorem bH.mono {m n:Nat}{q:Rat}(h:bH m q)(hm:m<=n):bH n q:=⟨h.n.mono hm,h.d.mono hm⟩
theorem den_pos (q:Rat):(0:Int)<(q.den:Int):=Int.ofNat_lt.mpr q.den_pos
theorem qs (q:Rat):Rat.divInt q.num q.den=q:=Rat.num_divInt_den q
theorem Li {a b:Int}(hb:b≠0)(g:Int)(hg:g=if b<0 then -(Int.gcd a b:Int) else (Int.gcd a b:Int)) :
  a.fdiv g=(Rat.divInt a b).num/\b.fdiv g=((Rat.divInt a b).den:Int)/\g≠0:=by
 have Gv:(0:Int)<(Int.gcd a b:Int):=by
  have:0<Int.gcd a b:=Int.gcd_pos_of_ne_zero_right a hb
  exact Int.ofNat_lt.mpr this
 have Rk:(Int.gcd a b:Int)∣a:=Int.gcd_dvd_left ..
 have Rl:(Int.gcd a b:Int)∣b:=Int.gcd_dvd_right ..
 obtain ⟨x,hx⟩:=Rk
 obtain ⟨y,hy⟩:=Rl
 have Gw:(b.gcd a:Int)=(Int.gcd a b:Int):=by rw[Int.gcd_comm]
 have Gx:b.gcd a=Int.gcd a b:=Int.gcd_comm ..
 generalize sX:(Int.gcd a b:Int)=G at *
 rw[Rat.num_divInt,Rat.den_divInt,afC hb]
 by_cases zw:b<0
 ·rw[afD zw]at hg
  subst hg
  refine ⟨?_,?_,by lia⟩
  ·rw[Int.sign_eq_neg_one_of_neg zw,Gw]
   have ai:a=(-x)*(-G):=by rw[hx];grind
   have az:-1*a=(-x)*G:=by rw[hx];grind
   rw[az,aiW _ ⋯]
   conv=>lhs;rw[ai]
   exact aim _ ⋯
  ·have ai:b=(-y)*(-G):=by rw[hy];grind
   have RS:y<0:=by
    rcases ahw y 0 with h|h
    ·exact h
    ·have:=aiX (Int.le_of_lt Gv) h;lia
   conv=>lhs;rw[ai]
   rw[aim _ ⋯,Gx]
   have cD:b.natAbs=y.natAbs*Int.gcd a b:=by
    rw[<-ahM (Int.gcd a b),sX,<-ail,ahN,<-hy]
   have mw:0<Int.gcd a b:=by lia
   rw[cD,aiY _ mw]
   lia
 ·rw[afC zw]at hg
  subst hg
  have Rb:0<b:=by lia
  refine ⟨?_,?_,by lia⟩
  ·rw[Int.sign_eq_one_of_pos Rb,Gw,Int.one_mul]
   have ai:a=x*g:=by rw[hx];grind
   conv=>lhs;rw[ai]
   conv=>rhs;rw[ai]
   rw[aim _ ⋯,aiW _ ⋯]
  ·have ai:b=y*g:=by rw[hy];grind
   have RS:0<y:=by
    rcases ahw 0 y with h|h
    ·exact h
    ·have:=aiX (Int.le_of_lt Gv) (show 0<=-y by lia)
     have e:g * -y=-(g*y):=by grind
     lia
   conv=>lhs;rw[ai]
   rw[aim _ ⋯,Gx]
   have cD:b.natAbs=y.natAbs*Int.gcd a b:=by
    rw[<-ahM (Int.gcd a b),sX,<-ail,ahN,<-hy]
   have mw:0<Int.gcd a b:=by lia
   rw[cD,aiY _ mw]
   lia
theorem bH.divInt {m:Nat}{a b:Int}(ha:cb m a)(hb:cb m b)(h0:b≠0):bH m (Rat.divInt a b):=by
 constructor
 ·show (Rat.divInt a b).num.natAbs<2^m
  rw[Rat.num_divInt]
  refine ahs (Int.natAbs_ediv_le_natAbs _ _) ?_
  rw[ail]
  have:b.sign.natAbs=1:=Int.natAbs_sign_of_ne_zero h0
  rw[this,Nat.one_mul]
  exact ha
 ·show ((Rat.divInt a b).den:Int).natAbs<2^m
  rw[ahM,Rat.den_divInt,afC h0]
  exact ahs (Nat.div_le_self _ _) hb
theorem LJ (q r:Rat):q+r=Rat.divInt (q.num*r.den+r.num*q.den) (q.den*r.den):=by
 have aM:=den_pos q
 have hr:=den_pos r
 conv=>lhs;rw[<-qs q,<-qs r]
 exact Rat.divInt_add_divInt _ _ ⋯ ⋯
theorem abF (q r:Rat):q-r=Rat.divInt (q.num*r.den-r.num*q.den) (q.den*r.den):=by
 have aM:=den_pos q
 have hr:=den_pos r
 conv=>lhs;rw[<-qs q,<-qs r]
 exact Rat.divInt_sub_divInt _ _ ⋯ ⋯
theorem Lf (q r:Rat):q*r=Rat.divInt (q.num*r.num) (q.den*r.den):=by
 conv=>lhs;rw[<-qs q,<-qs r]
 exact Rat.divInt_mul_divInt _ _
theorem bH.add {m n:Nat}{q r:Rat}(h:bH m q)(k:bH n r):bH (m+n+1) (q+r):=by
 rw[LJ]
 have aM:=den_pos q
 have hr:=den_pos r
 have aQ:=ahO aM hr
 exact bH.divInt ((h.n.mul k.d).add ((k.n.mul h.d).mono ⋯)) ((h.d.mul k.d).mono ⋯) ⋯
theorem bH.mul {m n:Nat}{q r:Rat}(h:bH m q)(k:bH n r):bH (m+n) (q*r):=by
 rw[Lf]
 have aM:=den_pos q
 have hr:=den_pos r
 have aQ:=ahO aM hr
 exact bH.divInt (h.n.mul k.n) (h.d.mul k.d) ⋯
section
variable {K:ajA}{H J:ah}{v:V}{q:Rat}
theorem aS.oN (h:aS K H v (bj q)):∃a,v=.ref a/\bp K H a [.int q.num,.int (q.den:Int)]:=by
 cases h with
 | tup hs t =>
  cases t with
  | cons h1 t1 =>
   cases t1 with
   | cons h2 cj=>
    cases cj
    cases h1
    cases h2
    exact ⟨_,rfl,hs⟩
theorem aS.HJ {a:Addr}(h:bp K H a [.int q.num,.int (q.den:Int)]):aS K H (.ref a) (bj q):=.tup h (.cons (.int _) (.cons (.int _) .nil))
theorem aS.oO {p:Addr}{a b:Int}(e:H p=some (.tup [.int a,.int b]))(h1:a=q.num)(h2:b=(q.den:Int)):aS K H (.ref p) (bj q):=by
 subst h1 h2
 exact aS.HJ (bp.of e)
end
variable {α:Type}{xs:List α}
theorem nf {x:α}:ez (x::xs) 0=some x:=mQ (j:=0) rfl
theorem j3 {x y:α}:ez (x::y::xs) 1=some y:=mQ (j:=1) rfl
def lA (H J:ah):Prop:=∀b xs,gR H b (.tup xs)->gR J b (.tup xs)
mutual
def ef:PyData->Bool
 | .list _=>false
 | .dict _=>false
 | .tuple xs=>fF xs
 | .none=>true
 | .bool _=>true
 | .int _=>true
 | .str _=>true
def fF:List PyData->Bool
 | []=>true
 | x::xs=>ef x&&fF xs
end
section
variable {K:ajA}{H J:ah}
mutual
theorem aS.keep (e:lA H J):∀{v:V}{d:PyData},aS K H v d->ef d=true->aS K J v d
 | _,_,.bz,_=>.bz
 | _,_,.aG b,_=>.aG b
 | _,_,.int i,_=>.int i
 | _,_,.str x,_=>.str x
 | _,_,.lst h t,z=>by exact absurd z (by simp[ef])
 | _,_,.e9 h k t,z=>by exact absurd z (by simp[ef])
 | _,_,.fs h k t,z=>by exact absurd z (by simp[ef])
 | _,_,.tup (ds:=ds) h t,z=>by
  have dO:fF ds=true:=by simpa [ef] using z
  refine .tup ?_ (bE.keep e t dO)
  rcases h with h|h
  ·exact .inl (e _ _ h)
  ·exact .inr h
theorem bE.keep (e:lA H J):∀{aa:List V}{ds:ajz},bE K H aa ds->fF ds=true->bE K J aa ds
 | _,_,.nil,_=>.nil
 | _,_,.cons (d:=d) (ds:=ds) h t,z=>by
  have dO:(ef d&&fF ds)=true:=by simpa only[fF] using z
  obtain ⟨z1,z2⟩:=Bool.and_eq_true_iff.mp dO
  exact .cons (aS.keep e h z1) (bE.keep e t z2)
end
theorem aS.zQ {v:V}{q:Rat}(h:aS K H v (bj q))(e:lA H J):aS K J v (bj q):=h.keep e (by simp[bj,ef,fF])
def kU (H:ah)(t:V)(n:Nat):Prop:=∃(a c:Addr) (cells:ajH) (at' left:Int),t=.ref a/\H a=some (.lst [.ref c,.int at',.int left])/\H c=some (.lst (cells.map V.int))/\0<=at'/\at'<=(n:Int)/\cells.length<=63
def LG (H:ah)(t:V)(c:Addr):Prop:=∃a r,t=.ref a/\H a=some (.lst (.ref c::r))
structure SB (t:V)(H J:ah):Prop where
 old:∀b o,H b=some o->V.ref b≠t->J b=some o
 cell:∀c,LG H t c->LG J t c
instance {t:V} {H J:ah}:CoeFun (SB t H J) (fun _=>∀b o,H b=some o->V.ref b≠t->J b=some o):=⟨SB.old⟩
theorem kU.same {t:V}{H J:ah}{n:Nat}(T:kU H t n)(e:bb H J):kU J t n:=by
 obtain ⟨a,c,cells,at',left,rfl,h1,h2,aQ⟩:=T
 exact ⟨a,c,cells,at',left,rfl,e _ _ h1,e _ _ h2,aQ⟩
end
theorem Md (x:Int){m:Int}(h0:0<m)(h1:m<2^64):-(2^64)<x%m/\x%m<2^64:=by
 have a:=agb x (show m≠0 by lia)
 have b:=aga x h0
 lia
theorem aaz (ns:ajH)(h:ns.length<=63):gO (ns.map V.int) none (some 63)=ns.map V.int:=by
 unfold gO
 have e:c5.cg (ns.map V.int).length (ns.map V.int).length (some 63)=ns.length:=by
  rw[afG]
  have:=c5.wi ns.length ns.length 63
  have az:((63:Nat):Int)=63:=rfl
  rw[az]at this
  rw[this];lia
 rw[e,c5.wj,ahP,ahx]
 exact ahy (by rw[afG];exact afE _)
theorem small {n:Nat}(h:n<=1000):n<=sizeLine:=ahD (XG h)
theorem xh {α:Type}{P:α->Prop}{xs:List α}{r:Int}(h0:0<=r)(h1:r<(xs.length:Int))(et:∀x∈xs,P x):∃v,ez xs r=some v/\P v:=by
 obtain ⟨k,rfl⟩:∃k:Nat,r=(k:Int):=⟨r.toNat,by lia⟩
 have hr:k<xs.length:=by lia
 exact ⟨xs[k],mQ (afQ hr),et _ (ag1 hr)⟩
theorem adw (x:Int){m:Int}(h0:0<m)(h1:m<2^64):(x%m).natAbs<2^64:=by
 have a:=Md x h0 h1
 lia
end L2
namespace L2
open PySem
theorem wN {H:ah}{D:Addr}{xs:List V}{o:dT}(h:H D=some (.lst xs)):lA H (upd H D o):=fun b ys q=>by
 rcases q with q|⟨u,q⟩
 ·refine .inl ?_
  rw[br (by intro z;subst z;rw[h]at q;cases q)];exact q
 ·refine .inr ⟨u,?_⟩
  rw[br (by intro z;subst z;rw[h]at q;cases q)];exact q
theorem Dp:∀rs:List Rat,fF (rs.map bj)=true
 | []=>by simp[fF]
 | r::rs=>by simp[fF,ef,bj,Dp rs]
theorem bE.zR {K:ajA}{H J:ah}{ws:List V}{rs:List Rat}(h:bE K H ws (rs.map bj))(e:lA H J):bE K J ws (rs.map bj):=h.keep e (Dp rs)
end L2
namespace L2
structure bI (X:aO)(e:Expr)(t:TE):Prop where
 o:bN X e t
structure jZ (X:aO)(e:Expr)(t:TT):Prop where
 o:jg X e t
structure gQ (X:aO)(e:Expr)(t:TT):Prop where
 o:mj X e t
structure gP (X:aO)(aA:ajE)(t:cP):Prop where
 o:hB X aA t
structure gy (X:aO)(s:Stmt)(t:cT):Prop where
 o:hC X s t
structure ic (X:aO)(s:List Stmt)(t:cT):Prop where
 o:iM X s t
structure lH (X:aO)(e:Expr)(t:dX):Prop where
 o:jf X e t
structure sy (X:aO)(aA:ajE)(t:jk):Prop where
 o:su X aA t
structure jh (X:aO)(bx it:Expr)(t:TI):Prop where
 o:hR X bx it t
structure sz (X:aO)(e:Option Expr)(t:kS):Prop where
 o:qS X e t
variable {X:aO}{i k n:Nat}{x name:Str}{pos pos' p apos eG:Pos}{v:V}{u:Value}{e a b c o bx:Expr}{t:cP}{fA nH fB:TT}{rest aA:ajE}{aC aY a8 to:TE}{st:Stmt}{g:dX}{op:Operator}{body:List Stmt}{r:V->List V->ah->bW->Prop}{av:ajD}{sp:b_}{id T:String}{d:PyData}
theorem gQ.pt {X:aO}{e:Expr}{t:TT}(h:gQ X e t):jZ X e t:=⟨mj.pt h.o⟩
theorem w9 (hN:X.N[i]?=some x)(hv:m7 X.env.scope x)(hd:(x == ("__debug__":Str))=false:=by decide)(hcd:(x == ("__classdict__":Str))=false:=by decide):bI X (.Name x pos) (u3 i):=⟨K_ (hN:=hN) (hv:=hv) (hd:=hd) (hcd:=hcd)⟩
theorem ay {i j pos}:bI X (.Constant (.int i) j pos) (gv (.int i)):=⟨aco⟩
theorem lx {b j pos}:bI X (.Constant (.bool b) j pos) (gv (.aG b)):=⟨adC⟩
theorem Kh {j pos}:bI X (.Constant .none j pos) (gv .bz):=⟨acm⟩
theorem b5 {x j pos}:bI X (.Constant (.str x) j pos) (gv (.str x)):=⟨aci⟩
theorem jN (hg:eF X x)(hm:X.mg x=some u)(r:RelV v u)(hd:(x == ("__debug__":Str))=false:=by decide):bI X (.Name x pos) (gv v):=⟨Z6 (hg:=hg) (hm:=hm) (r:=r) (hd:=hd)⟩
theorem rS (hg:eF X x)(hm:X.mg x=none)(hv:bootBuiltins x=some u)(r:RelV v u)(hn:x≠"__name__":=by decide)(hd:(x == ("__debug__":Str))=false:=by decide):bI X (.Name x pos) (gv v):=⟨aab (hg:=hg) (hm:=hm) (hv:=hv) (r:=r) (hn:=hn) (hd:=hd)⟩
theorem kE {t:TE}(h:bI X e t)(he:∀whole,isTrue e X.env whole=(do let v <-whole;standAt e.pos;holding [v] (truthy v)):=by intro _;rfl):jZ X e (B2 t):=⟨abZ (h:=h.o) (he:=he)⟩
theorem wR (ha:jZ X a fA):gQ X (.BoolOp .And [a] pos) fA:=⟨ZS (ha:=ha.o)⟩
theorem o5 (ha:jZ X a fA):gQ X (.BoolOp .Or [a] pos) fA:=⟨abX (ha:=ha.o)⟩
theorem w6 (ha:jZ X a fA)(hb:gQ X (.BoolOp .And (b::rest) pos) nH):gQ X (.BoolOp .And (a::b::rest) pos) (Ef fA nH):=⟨abY (ha:=ha.o) (hb:=hb.o)⟩
theorem nZ (ha:jZ X a fA)(hb:gQ X (.BoolOp .Or (b::rest) pos) nH):gQ X (.BoolOp .Or (a::b::rest) pos) (B4 fA nH):=⟨adu (ha:=ha.o) (hb:=hb.o)⟩
theorem qt (ha:jZ X a fA):jZ X (.UnaryOp .Not a pos) (Eb fA):=⟨ab0 (ha:=ha.o)⟩
theorem nU {op}{t:TE}(h:bI X a t):bI X (.BoolOp op [a] pos) t:=⟨acj (h:=h.o)⟩
theorem nV (ha:bI X a aC)(hb:bI X (.BoolOp .And (b::rest) pos) aY):bI X (.BoolOp .And (a::b::rest) pos) (DQ aC aY):=⟨acr (ha:=ha.o) (hb:=hb.o)⟩
theorem abW (ha:bI X a aC)(hb:bI X (.BoolOp .Or (b::rest) pos) aY):bI X (.BoolOp .Or (a::b::rest) pos) (Ea aC aY):=⟨ady (ha:=ha.o) (hb:=hb.o)⟩
theorem ZN (ha:bI X a aC):bI X (.UnaryOp .Not a pos) (LV aC):=⟨ack (ha:=ha.o)⟩
theorem rN (hc:jZ X c fA)(ha:bI X a aC)(hb:bI X b aY):bI X (.IfExp c a b pos) (B3 fA aC aY):=⟨YV (hc:=hc.o) (ha:=ha.o) (hb:=hb.o)⟩
theorem c3 :ic X [] DO:=⟨ZV⟩
theorem aV {t:cT}{rest:List Stmt}{u:cT}(h1:gy X st t)(h2:ic X rest u):ic X (st::rest) (D9 t u):=⟨YN (h1:=h1.o) (h2:=h2.o)⟩
theorem aW {t:cT}(h1:gy X st t):ic X [st] t:=⟨ZU (h1:=h1.o)⟩
theorem wU (he:bI X e a8)(hs:swapsWith e none pos.line X.env=pure false:=by rfl):gy X (.Expr e pos) (LW a8):=⟨ZW (he:=he.o) (hs:=hs)⟩
theorem bB (he:bI X e a8):gy X (.Return (some e) pos) (D_ a8):=⟨ab2 (he:=he.o)⟩
theorem c4 {t:cT}{u:cT}{a b:List Stmt}(hc:jZ X c fB)(ha:ic X a t)(hb:ic X b u):gy X (.If c a b pos) (Ec fB t u):=⟨adv (hc:=hc.o) (ha:=ha.o) (hb:=hb.o)⟩
theorem I4 :gy X st Dr:=⟨YP⟩
theorem dq (hN:X.N.Nodup)(hi:X.N[i]?=some x)(hx:Loc X.env.scope x)(hf:X.fn x=true\/X.env.scope.names.lookup x=some .local:=by first|exact .inl rfl|exact .inr rfl|assumption):lH X (.Name x pos) (kL i):=⟨Z4 (hN:=hN) (hi:=hi) (hx:=hx) (hf:=hf)⟩
theorem nS :sy X [] xQ:=⟨Z3⟩
theorem gL {t:dX}{u:jk}(h1:lH X e t)(h2:sy X aA u)(hs:(assignEach (e::aA) X.env).map (·.2)=assign e X.env::(assignEach aA X.env).map (·.2):=by rfl):sy X (e::aA) (uX t u):=⟨YT (h1:=h1.o) (h2:=h2.o) (hs:=hs)⟩
theorem C8 {t:jk}(hc:X.calm=true)(h:sy X aA t)(hn:(assignEach aA X.env).length=n:=by rfl)(hst:(assignEach aA X.env).findIdx? (·.1)=none:=by rfl):lH X (.Tuple aA k pos) (u5 X.K n t):=⟨K9 (hc:=hc) (h:=h.o) (hn:=hn) (hst:=hst)⟩
theorem ZM {i:Expr}{i6:TE}{t:xR}(ho:bI X o to)(hi:bI X i i6)(hs:Et X t)(ha:∀v,assign (.Subscript o i pos) X.env v=(do
   let gE <-holding [v] (eval o X.env)
   let g8 <-holding [v,gE] (eval i X.env)
   standAt pos
   holding [v,gE,g8] (setItem gE g8 v)
   release [v,gE,g8] []):=by intro _;rfl):lH X (.Subscript o i pos) (MG to i6 t):=⟨ace (ho:=ho.o) (hi:=hi.o) (hs:=hs) (ha:=ha)⟩
theorem rV (he:bI X e a8)(hg:lH X bx g)(hs:swapsWithSole [bx] e pos.line X.env=pure false:=by rfl)(hw:swappedStores [bx] e X.env=pure none:=by rfl)(h1:(assignEach [bx] X.env).map (·.2)=[assign bx X.env]:=by rfl):gy X (.Assign [bx] e pos) (mW a8 g):=⟨ab7 (he:=he.o) (hg:=hg.o) (hs:=hs) (hw:=hw) (h1:=h1)⟩
theorem ck (hN:X.N.Nodup)(hi:X.N[i]?=some x)(hx:Loc X.env.scope x)(he:bI X e a8)(hs:swapsWith e (some (.Name x pos')) pos.line X.env=pure false:=by rfl)(hf:X.fn x=true\/X.env.scope.names.lookup x=some .local:=by first|exact .inl rfl|exact .inr rfl|assumption):gy X (.Assign [.Name x pos'] e pos) (mW a8 (kL i)):=⟨ab1 (hN:=hN) (hi:=hi) (hx:=hx) (he:=he.o) (hs:=hs) (hf:=hf)⟩
theorem Kf {j:Nat}{y:Str}{aC:cP}{p8 py pt:Pos}{kt k2 p7}(hc:X.calm=true)(hN:X.N.Nodup)(hi:X.N[i]?=some x)(hj:X.N[j]?=some y)(hij:i≠j)(hx:X.env.scope.names.lookup x=some .local)(hy:X.env.scope.names.lookup y=some .local)(ha:gP X [a,b] aC)(hw:swappedStores [.Tuple [.Name x p8,.Name y py] kt pt] (.Tuple [a,b] k2 p7) X.env=pure (some [x,y]))(hs:swapsWithSole [.Tuple [.Name x p8,.Name y py] kt pt] (.Tuple [a,b] k2 p7) pos.line X.env=pure false:=by rfl):gy X (.Assign [.Tuple [.Name x p8,.Name y py] kt pt] (.Tuple [a,b] k2 p7) pos) (Mu i j aC):=⟨ab3 (hc:=hc) (hN:=hN) (hi:=hi) (hj:=hj) (hij:=hij) (hx:=hx) (hy:=hy) (ha:=ha.o) (hw:=hw) (hs:=hs)⟩
theorem l6 {i6:sD}(hN:X.N.Nodup)(hi:X.N[i]?=some x)(hx:Loc X.env.scope x)(he:bI X e a8)(ho:pv X op i6)(hf:X.fn x=true\/X.env.scope.names.lookup x=some .local:=by first|exact .inl rfl|exact .inr rfl|assumption):gy X (.AugAssign (.Name x pos') op e pos) (xJ i a8 i6):=⟨ab6 (hN:=hN) (hi:=hi) (hx:=hx) (he:=he.o) (ho:=ho) (hf:=hf)⟩
theorem nO {aY:cT}(hp:PassesOwn (model X.prog X.w) X.A X.env X.ct)(hc:jZ X c fB)(hb:ic X body aY):gy X (.While c body [] pos) (xl fB aY):=⟨YO (hp:=hp) (hc:=hc.o) (hb:=hb.o)⟩
theorem w7 {l:Expr}{eo:TE}(hl:bI X l eo):jh X bx l (ME X.K eo):=⟨aca (hl:=hl.o)⟩
theorem nN {aC:cP}(hg:eF X "range")(hm:X.mg "range"=none)(ha:gP X [a] aC)(hs:starEach [a] X.env=[(false,eval a X.env)]:=by rfl):jh X bx (.Call (.Name "range" p) [a] [] pos) (DX aC):=⟨XT (hg:=hg) (hm:=hm) (ha:=ha.o) (hs:=hs)⟩
theorem Cm {aC:cP}(hg:eF X "range")(hm:X.mg "range"=none)(ha:gP X [a,b] aC)(hs:starEach [a,b] X.env=[(false,eval a X.env),(false,eval b X.env)]:=by rfl)(hs2:starEach [b] X.env=[(false,eval b X.env)]:=by rfl):jh X bx (.Call (.Name "range" p) [a,b] [] pos) (DW aC):=⟨XS (hg:=hg) (hm:=hm) (ha:=ha.o) (hs:=hs) (hs2:=hs2)⟩
theorem i8 {iter:Expr}{cZ:TI}{aY:cT}(hp:PassesOwn (model X.prog X.w) X.A X.env X.ct)(hc:X.calm=true)(hi:jh X bx iter cZ)(hg:lH X bx g)(hb:ic X body aY)(hs:∀x,foldedSetIterable iter X.env x=pure x:=by intro _;rfl):gy X (.For bx iter body [] pos) (Ed cZ g aY):=⟨ab4 (hp:=hp) (hc:=hc) (hi:=hi.o) (hg:=hg.o) (hb:=hb.o) (hs:=hs)⟩
theorem a0 {r:dV}(ho:dh X (binaryOp op) r)(ha:bI X a aC)(hb:bI X b aY):bI X (.BinOp a op b pos) (nJ r aC aY):=⟨adz (ho:=ho) (ha:=ha.o) (hb:=hb.o)⟩
theorem kI {op:UnaryOp}{r:V->ah->bW->Prop}(ho:vm X (unaryOp op) r)(ha:bI X a aC):bI X (.UnaryOp op a pos) (wC r aC):=⟨adx (ho:=ho) (ha:=ha.o)⟩
theorem l5 {op:CmpOp}{r:dV}(ho:dh X (compareOp op) r)(ha:bI X a aC)(hb:bI X b aY)(hm:behindInMarks op b=false):bI X (.Compare a [op] [b] pos) (nJ r aC aY):=⟨Z_ (ho:=ho) (ha:=ha.o) (hb:=hb.o) (hm:=hm)⟩
theorem cn {op:CmpOp}{r:dV}(ho:dh X (compareOp op) r)(ha:bI X a aC)(hb:bI X b aY)(hm:behindInMarks op b=false):jZ X (.Compare a [op] [b] pos) (DM (nJ r aC aY)):=⟨ZT (ho:=ho) (ha:=ha.o) (hb:=hb.o) (hm:=hm)⟩
theorem XO {fB:TE}{op p4:CmpOp}{r bJ:dV}(ho:dh X (compareOp op) r)(ho':dh X (compareOp p4) bJ)(ha:bI X a aC)(hb:bI X b aY)(hc:bI X c fB)(hm:lastMarks [op,p4] [b,c]=false:=by with_unfolding_all rfl):bI X (.Compare a [op,p4] [b,c] pos) (Dt r bJ aC aY fB):=⟨YX (ho:=ho) (ho':=ho') (ha:=ha.o) (hb:=hb.o) (hc:=hc.o) (hm:=hm)⟩
theorem aj :gP X [] se:=⟨acw⟩
theorem ae (ha:bI X e a8)(hr:gP X aA t)(hs:starEach (e::aA) X.env=(false,eval e X.env)::starEach aA X.env:=by rfl):gP X (e::aA) (r_ a8 t):=⟨aad (ha:=ha.o) (hr:=hr.o) (hs:=hs)⟩
theorem cN {fC}(h:gP X aA t):bI X (.Tuple aA fC pos) (D8 t):=⟨ach (h:=h.o)⟩
theorem jQ (h:gP X aA t):bI X (.List aA pos) (u4 t):=⟨acn (h:=h.o)⟩
theorem a5 (D:Def X.prog X.w X.K X.mg X.base x av n sp)(hr:dI k X.A)(ha:gP X (e::aA) t)(hk:n<=k:=by decide)(hg:eF X x:=by rfl)(hdb:(x == ("__debug__":Str))=false:=by decide)(he:starEach (e::aA) X.env=(false,eval e X.env)::starEach aA X.env:=by rfl)(hpl:(backTo pos (starEach aA X.env)).any (·.1)=false:=by rfl):bI X (.Call (.Name x p) (e::aA) [] pos) (xw sp [] fV t):=⟨adB (D:=D) (hr:=hr) (ha:=ha.o) (hk:=hk) (hg:=hg) (hdb:=hdb) (he:=he) (hpl:=hpl)⟩
theorem dp {r:List V->ah->bW->Prop}(hc:fE X (.builtin id) r)(hg:eF X x)(hm:X.mg x=none)(hv:bootBuiltins x=some (.builtin id))(ha:gP X (e::aA) t)(hn:x≠"__name__":=by decide)(hdb:(x == ("__debug__":Str))=false:=by decide)(he:starEach (e::aA) X.env=(false,eval e X.env)::starEach aA X.env:=by rfl)(hpl:(backTo pos (starEach aA X.env)).any (·.1)=false:=by rfl):bI X (.Call (.Name x p) (e::aA) [] pos) (nI r t):=⟨YY (hc:=hc) (hg:=hg) (hm:=hm) (hv:=hv) (ha:=ha.o) (hn:=hn) (hdb:=hdb) (he:=he) (hpl:=hpl)⟩
theorem kC {r:List V->ah->bW->Prop}(hc:fE X (.type T) r)(hg:eF X x)(hm:X.mg x=none)(hv:bootBuiltins x=some (.type T))(ha:gP X (e::aA) t)(hn:x≠"__name__":=by decide)(hdb:(x == ("__debug__":Str))=false:=by decide)(he:starEach (e::aA) X.env=(false,eval e X.env)::starEach aA X.env:=by rfl)(hpl:(backTo pos (starEach aA X.env)).any (·.1)=false:=by rfl):bI X (.Call (.Name x p) (e::aA) [] pos) (nI r t):=⟨XU (hc:=hc) (hg:=hg) (hm:=hm) (hv:=hv) (ha:=ha.o) (hn:=hn) (hdb:=hdb) (he:=he) (hpl:=hpl)⟩
theorem ur :sz X none C1:=⟨Z1⟩
theorem qm (h:bI X e a8):sz X (some e) (xv a8):=⟨Z0 (h:=h.o)⟩
theorem ui {lo:Option Expr}{eo:kS}{hi:Option Expr}{mG:kS}{b8:Pos}{r:V->Option Int->Option Int->ah->bW->Prop}(hr:pA X r)(he:bI X e a8)(hl:sz X lo eo)(hu:sz X hi mG):bI X (.Subscript e (.Slice lo hi none b8) pos) (B5 r a8 eo mG):=⟨YU (hr:=hr) (he:=he.o) (hl:=hl.o) (hu:=hu.o)⟩
theorem dx {r:dV}(hr:lE X r)(ha:bI X a aC)(hb:bI X b aY)(hs:KO b):bI X (.Subscript a b pos) (nJ r aC aY):=⟨adA (hr:=hr) (ha:=ha.o) (hb:=hb.o) (hs:=hs)⟩
theorem ZQ (pa:PlainAttrs T)(slot:Slot T name id)(hty:typeOf (.builtin id)=pure (.type "method_descriptor"))(hm:qQ X id r)(ho:bI X o to)(hbase:attributeBase o name X.env (eval o X.env)=eval o X.env:=by rfl)(hline:(apos.endLine == eG.line)=true:=by rfl):bI X (.Call (.Attribute o name apos) [] [] eG) (Ee X.K T r to):=⟨acq (pa:=pa) (slot:=slot) (hty:=hty) (hm:=hm) (ho:=ho.o) (hbase:=hbase) (hline:=hline)⟩
theorem Dz (pa:PlainAttrs T)(slot:Slot T name id)(hty:typeOf (.builtin id)=pure (.type "method_descriptor"))(hm:qQ X id r)(ho:bI X o to)(ha:gP X (e::aA) t)(hbase:attributeBase o name X.env (eval o X.env)=eval o X.env:=by rfl)(hfew:((backTo eG (starEach (e::aA) X.env)).all (fun x=>!x.1)&&(backToKw eG (keywordEach [] X.env)).all (fun x=>x.1.isSome)
   && decide ((e::aA).length+([]:List Keyword).length+(if ([]:List Keyword).isEmpty then 0 else 1)<30))=true:=by rfl)(hline:(apos.endLine == eG.line)=true:=by rfl)(hs:starEach (e::aA) X.env=(false,eval e X.env)::starEach aA X.env:=by rfl)(hplain:(backTo eG (starEach aA X.env)).any (·.1)=false:=by rfl):bI X (.Call (.Attribute o name apos) (e::aA) [] eG) (wB X.K T r to t):=⟨Mb (pa:=pa) (slot:=slot) (hty:=hty) (hm:=hm) (ho:=ho.o) (ha:=ha.o) (hbase:=hbase) (hfew:=hfew) (hline:=hline) (hs:=hs) (hplain:=hplain)⟩
theorem af (i:Nat)(hN:X.N[i]?=some x:=by rfl)(hv:m7 X.env.scope x:=by first|exact Or.inl rfl|exact Or.inr (Or.inl rfl)|exact Or.inr (Or.inr rfl))(hd:(x == ("__debug__":Str))=false:=by decide)(hcd:(x == ("__classdict__":Str))=false:=by decide):bI X (.Name x pos) (u3 i):=⟨TA (i:=i) (hN:=hN) (hv:=hv) (hd:=hd) (hcd:=hcd)⟩
theorem Def.c8 {P:Program}{w:World}{K:ajA}{mg:ajy}{base:Heap}{y:Str}{N:ajD}(T:Src K mg y x st)(S:b0 N av (bu st))(len:∀aa H Q E,sp aa H Q E->aa.length=av.length)
  (hb:∀(cQ doc pm:Value)(an:ajF)(a6 cq:Value)(us:ajC),us.length=av.length->bindArgs (PySem.W.fnOf x x (iz st) (gc st) (bu st) .none cQ doc pm an a6 cq) ⟨us,[]⟩=pure (av.zip us))
  (kf:∀(f:Addr)(a6:Value)(A:Around)(outer:List Env)(s:Shared)(H:ah)(aa:List V)(Q:bW)(E:fg),dI n (A.deeper (envOfC x (bu st) s.heap.objs.size f a6))->sp aa H Q E->
   ∃t,ic (jc hz P w K mg base N x (bu st) f a6 A outer s H E).p2 (gc st) t/\t {nx:=fun _ J=>Q .bz J,eT:=Q} (start N aa) H):Def P w K mg base y av (n+1) sp:=
 Def.mk' T S len hb fun f a6 A outer s H aa Q E hr h=>let ⟨t,q,r⟩:=kf f a6 A outer s H aa Q E hr h;⟨t,q.o,r⟩
structure b4 (n v:Nat)(d:PyData):Prop where
 bj:d7 d
 eI:d.depth<=n
 e1:d.shown.length<=v
theorem b4.tU {v:Nat}(h:b4 n v d)(hn:n<=60:=by decide)(hv:v<=16777216:=by decide):oh d:=⟨h.bj,afK h.eI hn,afK h.e1 (by rw[afW];exact hv)⟩
theorem b4.mono {v m w:Nat}(h:b4 n v d)(hn:n<=m)(hv:v<=w):b4 m w d:=⟨h.bj,afK h.eI hn,afK h.e1 hv⟩
theorem b4.oE {i:Int}{m:Nat}(h:cb m i)(h0:0<m)(hm:m<=14000):b4 0 (m+1) (.int i):=by
 have hl:i.natAbs.log2<m:=h.log2 h0
 refine ⟨by simp only[d7];exact h.mono hm,by simp only[PyData.depth];exact afE _,?_⟩
 simp only[PyData.shown]
 have e:=int_text_length_le (k:=m) h0 hl
 rw[PySem.ofString_length]
 lia
theorem b4.bool (b:Bool):b4 0 2000 (.bool b):=by
 refine ⟨by simp only[d7],by simp only[PyData.depth];exact afE _,?_⟩
 simp only[PyData.shown]
 cases b<;>decide
theorem Du {n v:Nat}:∀{ds:ajz},(∀d∈ds,b4 n v d)->hP ds/\PyData.depthAll ds<=n/\piled (PyData.shownAll ds)<=ds.length*(v+2)
 | [],_=>⟨by simp only[hP],by simp only[PyData.depthAll];lia,by simp[PyData.shownAll,piled]⟩
 | d::ds,h=>by
  obtain ⟨h1,aQ,bS⟩:=Du (ds:=ds) fun x hx=>h x (af5 _ hx)
  have hd:=h d (af6 ..)
  refine ⟨by simp only[hP];exact ⟨hd.bj,h1⟩,by simp only[PyData.depthAll];have:=hd.eI;lia,?_⟩
  have e:piled (PyData.shownAll (d::ds))=d.shown.length+2+piled (PyData.shownAll ds):=by simp[PyData.shownAll,piled]
  have:=hd.e1
  rw[e,afX,Nat.succ_mul]
  lia
theorem WU (ts:ajD):(tupleText ts).length<=piled ts+4:=by
 unfold tupleText
 have ai:("(":Str).length=1:=by decide
 have az:∀b:Bool,((if b=true then ",)" else ")":String):Str).length<=2:=fun b=>by cases b<;>decide
 have cD:=az (ts.length == 1)
 have gA:(Str.join ", " ts).length<=piled ts+1:=by
  cases ts with
  | nil=>decide
  | cons x r=>have:=join_length_add (x::r) (by simp);lia
 rw[Str.length_append,Str.length_append]
 lia
theorem b4.tup {v:Nat}{ds:ajz}(h:∀d∈ds,b4 n v d):b4 (n+1) (ds.length*(v+2)+4) (.tuple ds):=by
 obtain ⟨h1,aQ,bS⟩:=Du h
 refine ⟨by simp only[d7];exact h1,by simp only[PyData.depth];lia,?_⟩
 simp only[PyData.shown]
 exact afK (WU _) ⋯
theorem b4.pair {v:Nat}{a b:PyData}(h1:b4 n v a)(h2:b4 n v b):b4 (n+1) (2*(v+2)+4) (.tuple [a,b]):=b4.tup (ds:=[a,b]) fun d hd=>by
 simp only[afP,agg,agh]at hd
 rcases hd with rfl|rfl
 ·exact h1
 ·exact h2
end L2
namespace L2
theorem b4.lst {n v:Nat}{ds:ajz}(h:∀d∈ds,b4 n v d):b4 (n+1) (ds.length*(v+2)+4) (.list ds):=by
 obtain ⟨h1,aQ,bS⟩:=Du h
 refine ⟨by simp only[d7];exact h1,by simp only[PyData.depth];lia,?_⟩
 simp only[PyData.shown]
 have e:=listText_len_le (PyData.shownAll ds)
 have az:∀ts:List Str,piled ts=(ts.map (·.length)).sum+2*ts.length:=by
  intro ts
  induction ts with
  | nil=>rfl
  | cons x r bl=>
   have:piled (x::r)=x.length+2+piled r:=by simp[piled]
   rw[this,bl,af8,List.sum_cons,afX];lia
 rw[az]at bS
 lia
theorem b4.str {x:Str}{v:Nat}(h:(PyData.str x).shown.length<=v):b4 0 v (.str x):=⟨by simp only[d7],by simp only[PyData.depth];exact afE _,h⟩
abbrev aO.comp (X:aO)(N:ajD)(scope:Scope)(cl:List (Str×Addr))(C:Addr)(bf:Shared)(bA:ah)(ex:ajG)(E:ajv):aO:=
 {X with N:=N,bf:=bf,bA:=bA,env:=compEnvC scope cl C X.env,outer:=X.stack,ex:=ex,fn:=fun _=>false,de:=[],ct:=E}
def sC (cells:List (Str×Addr)):List (Str×Addr)->Prop
 | []=>True
 | p::r=>cells.lookup p.1=some p.2/\sC cells r
def jd (X:aO)(scope:Scope):List Str->List (Option Nat)->Prop
 | [],[]=>True
 | _::N,none::is=>jd X scope N is
 | x::N,some i::is=>(X.N[i]?=some x/\X.env.scope.names.lookup x=some .cell/\(relabel scope X.env).names.lookup x=some .cell)/\jd X scope N is
 | _,_=>False
structure oa (X:aO)(N:ajD)(is:List (Option Nat))(scope:Scope)(cl:List (Str×Addr)):Prop where
 kind:scope.kind=.function
 Fi:closureFor scope X.env=pure cl
 cell:∀y∈scope.names,y.2≠.cell
 names:∀y∈scope.names,y.2=.local->scope.names.lookup y.1=some .local
 sub:sC X.env.cells cl
 has:((relabel scope X.env).names.all fun y=>if y.2 == .cell || y.2 == .free then (cl.lookup y.1).isSome else true)=true
 vv:jd X scope N is
theorem sC.look {cells:List (Str×Addr)}:∀{cl:List (Str×Addr)}{x:Str}{c:Addr},sC cells cl->cl.lookup x=some c->cells.lookup x=some c
 | [],_,_,_,h=>by simp at h
 | p :: r, x, c, h, e => by
  obtain ⟨h1,h2⟩:=h
  rw[List.lookup_cons]at e
  cases hx:x == p.1 with
  | true=>
   rw[hx]at e
   have ex:x=p.1:=ahL hx
   cases e
   rw[ex];exact h1
  | false=>
   rw[hx]at e
   exact sC.look h2 e
theorem ug {α:Type}:∀{l:List (Str×α)}{x:Str}{k:α},l.lookup x=some k->(x,k)∈l
 | [],_,_,h=>by simp at h
 | p :: r, x, k, e => by
  rw[List.lookup_cons]at e
  cases hx:x == p.1 with
  | true=>
   rw[hx]at e
   have ex:x=p.1:=ahL hx
   cases e
   rw[ex];exact af6 ..
  | false=>
   rw[hx]at e
   exact af5 _ (ug e)
def iP (is:List (Option Nat))(σ:St):St:=is.map fun o=>match o with
 | none=>none
 | some i=>match σ[i]? with
  | some v=>v
  | none=>none
theorem jd.len {X:aO}{scope:Scope}:∀{N:ajD}{is:List (Option Nat)},jd X scope N is->N.length=is.length
 | [],[],_=>rfl
 | _::N,none::is,h=>by have h':jd X scope N is:=h;simp[jd.len h']
 | _::N,some i::is,h=>by have h':=h.2;simp[jd.len h']
 | [],_::_,h=>h.elim
 | _::_,[],h=>h.elim
theorem jd.get {X:aO}{scope:Scope}{σ:St}:∀{N:ajD}{is:List (Option Nat)}{j:Nat}{x:Str}{v:V},jd X scope N is->N[j]?=some x->(iP is σ)[j]?=some (some v)->
  ∃i:Nat,X.N[i]?=some x/\σ[i]?=some (some v)/\X.env.scope.names.lookup x=some .cell/\(relabel scope X.env).names.lookup x=some .cell
 | [],[],_,_,_,_,e,_=>by simp at e
 | [],_::_,_,_,_,h,_,_=>h.elim
 | _::_,[],_,_,_,h,_,_=>h.elim
 | y::N,none::is,0,x,v,h,e,q=>by
  have bD:some (none:Option V)=some (some v):=q
  cases bD
 | y::N,none::is,j+1,x,v,h,e,q=>jd.get (N:=N) (is:=is) (j:=j) h e q
 | y::N,some i::is,0,x,v,h,e,q=>by
  cases e
  obtain ⟨⟨h1,h2,aQ⟩,_⟩:=h
  refine ⟨i,h1,?_,h2,aQ⟩
  have bD:some (match σ[i]? with|some v=>v|none=>none)=some (some v):=q
  cases hs:σ[i]? with
  | none=>rw[hs]at bD;cases bD
  | some w=>rw[hs]at bD;injection bD with TB;exact congrArg some TB
 | y::N,some i::is,j+1,x,v,h,e,q=>jd.get (N:=N) (is:=is) (j:=j) h.2 e q
def mi (X:aO)(ifs:ajE)(t:TT):Prop:=
 ∀(pins:ajx)(s:Shared)(σ:St)(H:ah)(Q:Bool->ah->Prop),Inv X pins σ H s->t σ H Q->
  wpAny (model X.prog X.w) X.A (forIn ifs true fun c r=>if r=true then do let ok <-isTrue c X.env (eval c X.env);pure (ForInStep.yield ok) else pure (ForInStep.yield r)) (yd X pins σ Q) X.ct s
def D7:TT:=fun _ H Q=>Q true H
theorem acg {X:aO}:mi X [] D7:=fun pins s σ H Q I h=>wpAny_tests_nil ⟨H,I,h⟩
theorem acf {X:aO}{c:Expr}{t:TT}(hc:jg X c t):mi X [c] t:=fun pins s σ H Q I h=>wpAny_tests_one (hc pins s σ H Q I h)
def D5 (bV:gZ)(g:dX)(tt:TT)(a8:TE)(D:Addr)(va:St)(bC:ah)(Q:bW):Prop:=
 ∃W:Nat->Nat->St->ah->Prop,(∃m,W 0 m va bC)/\∀i m aE J,W i m aE J->
  (bV.stop i J/\(∃ys,J D=some (.lst ys))/\Q (.ref D) J)\/(bV.go i J/\∃N:St->ah->Prop,(∀bZ ag,N bZ ag->∃cW,cW<m/\W (i+1) cW bZ ag)/\
   ∀x ag,bV.kB i J x ag->g x aE ag fun bZ b3=>tt bZ b3 fun b bK=>if b=true then a8 bZ bK fun y cy=>∃xs,cy D=some (.lst xs)/\xs.length<sizeLine/\N bZ (upd cy D (.lst (xs++[y]))) else N bZ bK)
def qB (cZ:TI)(g:dX)(tt:TT)(a8:TE)(is:List (Option Nat)):TE:=fun σ H Q=>cZ σ H fun bV H1=>∀D,H1 D=none->D5 bV g tt a8 D (iP is σ) (upd H1 D (.lst [])) Q
theorem WD {prog:Program}{w:World}{A:Around}{R:Result->Shared->Prop}{s:Shared}{elt target iter:Expr}{ifs:ajE}{scope:Scope}{pos:Pos}{it acc:Value}{env:Env}(I:Nat->Shared->Prop)
  (turn:∀n s,I n s->wpAny (model prog w) A (pyNext it) (fun r cz=>match r with
   | none=>R (.ok .next) cz
   | some v => wpAny (model prog w) A (letOwnedTupleGo target it v) (fun _ oR => wpAny (model prog w) A (assign target env v) (fun _ hZ =>
     wpAny (model prog w) A (forIn ifs true fun c r=>if r=true then do let ok <-isTrue c env (eval c env);pure (ForInStep.yield ok) else pure (ForInStep.yield r)) (fun ok fQ=>
      if ok=true then wpAny (model prog w) A (eval elt env) (fun x oS=>
       wpAny (model prog w) A (call (.builtin "list.append") [acc,x]) (fun _ oT=>∃m,m<n/\I m oT) (notedBy (model prog w) A env fun e ar=>R (.error e) ar) oS) (notedBy (model prog w) A env fun e ar=>R (.error e) ar) fQ
      else ∃m,m<n/\I m fQ) (notedBy (model prog w) A env fun e ar=>R (.error e) ar) hZ) (notedBy (model prog w) A env fun e ar=>R (.error e) ar) oR) (notedBy (model prog w) A env fun e ar=>R (.error e) ar) cz) (notedBy (model prog w) A env fun e ar=>R (.error e) ar) s)
  (n:Nat)(h:I n s) :
  codeAny (model prog w) A (.compLoop (.ListComp elt [⟨target,iter,ifs,0⟩] scope pos) 0 it acc env) R s:=by
 refine codeAny_loop rfl I (fun n s kb=>?_) n h
 show wpAny _ A ((compTurn (.ListComp elt [⟨target,iter,ifs,0⟩] scope pos) 0 it acc env).onRaise (fun x=>do noteFrame x env;theTreesLotGoes x)) _ _ s
 refine wpAny_noted ?_
 rw[compTurn_list]
 refine afB (ags (afB (afV (turn n s kb) (fun r cz gT=>?_) fun _ _ h'=>h')))
 cases r with
 | none=>exact afF gT
 | some v =>
  refine afB (afV gT (fun _ oR th=>?_) fun _ _ h'=>h')
  refine afB (afV th (fun _ hZ nv=>afB (afV nv (fun ok fQ mx=>?_) fun _ _ h'=>h')) fun _ _ h'=>h')
  cases ok with
  | false=>exact afF ⟨rfl,mx⟩
  | true=>
   exact afB (afB (afV mx (fun x oS ti=>afB (afV ti (fun _ oT tj=>afF (afF ⟨rfl,tj⟩)) fun _ _ h'=>h')) fun _ _ h'=>h'))
section
variable {X:aO}
variable {iter:Expr}{ifs:ajE}{scope:Scope}{pos:Pos}{cl:List (Str×Addr)}{N:ajD}{is:List (Option Nat)}{cZ:TI}{g:dX}{tt:TT}{a8:TE}
theorem JS {pins:ajx}{s:Shared}{σ:St}{H:ah}{Q:bW}{use:Option (Value->Sem Unit)}{Qr:ajv}{pos':Pos}{elt bx:Expr}(hc:X.calm=true)(k:oa X N is scope cl)(hi:hR X bx iter cZ)
  (hg:∀C bf bA ex E,jf (X.comp N scope cl C bf bA ex E) bx g)(hf:∀C bf bA ex E,mi (X.comp N scope cl C bf bA ex E) ifs tt)(he:∀C bf bA ex E,bN (X.comp N scope cl C bf bA ex E) elt a8)
  (hs:∀x,foldedSetIterable iter X.env x=pure x)(I:Inv X pins σ H s)(h:qB cZ g tt a8 is σ H Q)
  (zo:∀(D C:Addr)(bK:ah)(s5:Shared)(m:ajy),s5.heap.Ns C m->kP X pins bK C->(∀h',Heap.SameBut C s5.heap h'->Inv X pins σ bK {s5 with heap:=h'})->Q (.ref D) bK->compPost (model X.prog X.w) X.A X.ct use Qr (.ref D) C (.ok .next) s5) :
  wpAny (model X.prog X.w) X.A (comprehension (.ListComp elt [⟨bx,iter,ifs,0⟩] scope pos) scope X.env pos' (newList []) false (eval iter X.env) use) Qr X.ct s:=by
 refine ajq (use:=use) rfl hs k.Fi k.kind k.names (bk (hi pins s σ H _ I h) fun Iy s1 h1=>bk h1 fun tn s2 h2=>?_)
 obtain ⟨it,fp,e2,bV,ag,e,a3,T,hJ,f2,h2⟩:=h2
 subst e
 refine agr (wpAny_newFunctionEnv k.cell (by intro y hy;simp at hy) (fun gT pW nu=>?_) k.kind)
 dsimp only at pW nu ⊢
 generalize pR:s2.heap.push {cls:=.type "list",dict:=none,data:=.seq ([]:ajC).toArray}=cm at pW nu ⊢
 have ee:cm.objs.size=s2.heap.objs.size+1:=by rw[<-pR,ahb]
 have sV:s2.heap.objs.size≠cm.objs.size:=by rw[ee];exact af4 (Nat.lt_succ_self _)
 have nq:s2.heap.objs.size<=cm.objs.size:=by rw[ee];exact ahz _
 have hH:∀b,b<s2.heap.objs.size->b≠cm.objs.size:=fun b hb=>af4 (af0 hb nq)
 have old:∀b o,s2.heap.get? b=some o->gT.get? b=some o:=fun b o e=>nu.extBut b o (hH b (afH e)) (afL _ (pR▸afL _ e))
 have zg:gT.get? s2.heap.objs.size=some {cls:=.type "list",dict:=none,data:=.seq ([]:ajC).toArray}:=nu.extBut _ _ sV (afL _ (pR▸af3 _ rfl))
 have ft:ag s2.heap.objs.size=none:=a3.aX.fresh (afE _)
 have yS:ag cm.objs.size=none:=a3.aX.fresh nq
 obtain ⟨W,⟨m0,h5⟩,turn⟩:=h2 _ ft
 have yw:∀x c,cl.lookup x=some c->c<s2.heap.objs.size:=fun x c e=>by
  obtain ⟨v,q⟩:=a3.cell x c (k.sub.look e)
  exact q.lt
 have pP:∀b∈fp,b<s2.heap.objs.size:=fun b hb=>by
  obtain ⟨o,q,_⟩:=T.obj 0 _ hJ b hb
  exact afH q
 have s6:∀x,((relabel scope X.env).names.lookup x=some .cell\/(relabel scope X.env).names.lookup x=some .free)->∃c,cl.lookup x=some c:=fun x hx=>by
  have all:=afR.mp k.has
  rcases hx with hx|hx
  ·have q:=all _ (ug hx)
   simpa [ahJ] using q
  ·have q:=all _ (ug hx)
   simpa [ahJ] using q
 generalize dN:(notedBy (model X.prog X.w) X.A (compEnvC scope cl cm.objs.size X.env) fun e ar=>compPost (model X.prog X.w) X.A X.ct use Qr (.ref s2.heap.objs.size) cm.objs.size (.error e) ar)=ej
 have hU:(X.comp N scope cl cm.objs.size s2 ag fp ej).Ok:={
  mod:=a3.ok.mod
  kind:=k.kind
  glob:=a3.ok.glob
  blt:=a3.ok.blt
  above:=nq
  inj:=fun x y c ai az=>a3.ok.inj x y c (k.sub.look ai) (k.sub.look az)
  has:=fun x hx=>s6 x hx
  lL:=fun x c z=>by cases z
  hd:=a3.ok.hd
  frames:=a3.ok.frames
  nG:=.inl rfl
  pL:=fun b hb=>⟨hH b (pP b hb),fun x c e=>(f2 b hb).2.2.2.2.1 x c (k.sub.look e)⟩
  bs:=a3.bs
  ij:=afK a3.ok.ij a3.e1
  lX:=fun b o e hb=>by
   rcases (f2 b hb).2.2.2.1 with z|z
   ·exact a3.ok.lX b o e z
   ·exact absurd (af0 (afH e) a3.ok.ij) (aif.mpr z)
  lQ:=fun b hb z=>by
   rcases afP.mp (a3.wA b z) with q|q
   ·exact (f2 b hb).2.1 q
   ·exact (f2 b hb).2.2.1 q
  hT:=a3.stack
  k_:=a3.t2}
 have dD:Inv (X.comp N scope cl cm.objs.size s2 ag fp ej) [] (iP is σ) (upd ag s2.heap.objs.size (.lst [])) {s2 with heap:=gT,toks:=s2.toks+([]:List (Str×Value)).length}:={
  ok:=hU
  os:=rfl
  bare:=a3.bare
  base:=e8.laid old (afE _) ft
  loc:=by
   refine ⟨_,pW,fun j x v ai az cD=>?_⟩
   obtain ⟨i,aL,bU,df,jz⟩:=jd.get k.vv ai az
   obtain ⟨m,hn,hl⟩:=a3.loc
   obtain ⟨u,r,l⟩:=hl i x v aL bU (.inr (.inl df))
   refine ⟨u,r,.inr ⟨.inl jz,?_⟩⟩
   obtain ⟨c,lb⟩:=s6 x (.inl jz)
   refine ⟨c,lb,?_⟩
   rcases l with ⟨z,_⟩|⟨_,bG,aU,o,ho,hd⟩
   ·have dO:X.env.scope.names.lookup x=some .local:=z
    rw[df]at dO;cases dO
   ·have:=k.sub.look lb
    rw[aU]at this;cases this
    exact ⟨o,old _ _ ho,hd⟩
  cell:=fun x c e=>by
   obtain ⟨v,o,ho,hd⟩:=a3.cell x c (k.sub.look e)
   exact ⟨v,o,old _ _ ho,hd⟩
  free:=by
   show upd ag s2.heap.objs.size (.lst []) cm.objs.size=none
   rw[br (af_ sV)];exact yS
  g6:=fun x c e=>by
   rw[br (af4 (yw x c e))]
   exact a3.g6 x c (k.sub.look e)
  pin:=fun p hp=>by simp at hp
  aX:=a3.aX.laid old (afE _) ⟨afY _,[],_,.nil,zg⟩
  len:=by
   show (iP is σ).length=N.length
   rw[k.vv.len];simp[iP]}
 have l2:∀{J:ah},(∀b∈fp,J b=none)->∀b∈fp,kP (X.comp N scope cl cm.objs.size s2 ag fp ej) [] J b:=fun hn b hb=>
  ⟨hn b hb,hH b (pP b hb),hU.lQ b hb,.inl hb,fun x c e=>(f2 b hb).2.2.2.2.1 x c (k.sub.look e),fun p hp=>by simp at hp⟩
 have loop:∀fQ:Shared,fQ={s2 with heap:=gT,toks:=s2.toks+([]:List (Str×Value)).length}->
   codeAny (model X.prog X.w) X.A (.compLoop (.ListComp elt [⟨bx,iter,ifs,0⟩] scope pos) 0 (.ref it) (.ref s2.heap.objs.size) (compEnvC scope cl cm.objs.size X.env))
    (compPost (model X.prog X.w) X.A X.ct use Qr (.ref s2.heap.objs.size) cm.objs.size) fQ:=by
  rintro fQ rfl
  refine WD (fun n ar=>∃i aE J,Inv (X.comp N scope cl cm.objs.size s2 ag fp ej) [] aE J ar/\e2 i ar.heap/\(∀b∈fp,J b=none)/\W i n aE J) ?_ m0
   ⟨0,_,_,dD,T.keep _ _ _ hJ fun b hb o e=>old b o e,fun b hb=>by rw[br (af4 (pP b hb))];exact (f2 b hb).1,h5⟩
  rintro n s4 ⟨i,h_,bK,iL,tZ,sR,w4⟩
  rw[dN]
  rcases turn i n h_ bK w4 with ⟨stop,⟨ys,bq⟩,q⟩|⟨go,qR,hN,step⟩
  ·refine bk (T.done (X.comp N scope cl cm.objs.size s2 ag fp ej) rfl rfl rfl hc i [] s4 h_ bK ej iL (l2 sR) tZ stop) fun r s5 hz=>?_
   obtain ⟨hr,fH⟩:=hz
   subst hr
   obtain ⟨m,hn,_⟩:=fH.loc
   refine zo s2.heap.objs.size cm.objs.size bK s5 m hn (a3.k9 nq fH.free) (fun h' nt=>?_) q
   have B:=fH.base
   have f_:∀b o,b≠cm.objs.size->s5.heap.get? b=some o->h'.get? b=some o:=fun b o hb e=>nt.extBut b o hb e
   have u:e8 (eJ X.stack) fp ag bK s2.heap h':={
    keep:=fun b o e ax a_ cc=>f_ b o (hH b (afH e)) (B.keep b o e ax a_ cc)
    slot:=fun b o e ax a_ cc=>by
     obtain ⟨bR,z⟩:=B.slot b o e ax a_ cc
     exact ⟨bR,f_ b _ (hH b (afH e)) z⟩
    free:=fun b o e ax a_=>B.free b o e ax a_
    there:=fun b o e ax=>by
     obtain ⟨dR,z⟩:=B.there b o e ax
     exact ⟨dR,f_ b _ (hH b (afH e)) z⟩
    jE:=B.jE
    iU:=B.iU
    jD:=B.jD}
   have aX:ep X.prog X.w bK h':=fun b o e=>by
    have tA:∀c v,bK c=some v->c≠cm.objs.size:=fun c v z y=>by
     have:=fH.free
     rw[y]at z
     have z2:bK cm.objs.size=none:=this
     rw[z2]at z;cases z
    refine (fH.aX b o e).f_ (fun c v hG z=>f_ c v ?_ z) (fun _ z=>z) fun _ _ z=>z
    rcases hG with z|z
    ·rw[z];exact tA b o e
    ·exact tA c _ z
   have lS:s5.os=s2.os:=fH.os
   have zh:=fH.bare
   obtain ⟨dZ,sS,ni,qg,Ac⟩:=s5
   obtain rfl:Ac=s2.os:=lS
   have z:=a3.call (h':=h') (g':=sS) (d':=ni) (t':=qg) (ch:=fp) u aX zh fun b hb=>⟨(f2 b hb).2.2.2.1,(f2 b hb).2.1,(f2 b hb).2.2.2.2.1,(f2 b hb).2.2.2.2.2⟩
   exact z
  ·refine bk (T.item (X.comp N scope cl cm.objs.size s2 ag fp ej) rfl rfl rfl hc i [] s4 h_ bK ej iL (l2 sR) tZ go) fun r s5 hz=>?_
   obtain ⟨u,hr,c1⟩:=hz
   subst hr
   refine bk c1 fun _ jC hz=>?_
   obtain ⟨x,hQ,sm,Aj,Cf,qe,y0⟩:=hz
   have x5:=sm.pinned (l2 y0) (T.obj _ _ qe)
   have again:∀{d6:St}{ek:ah}{gs:Shared},Inv (X.comp N scope cl cm.objs.size s2 ag fp ej) ([]++o8 fp jC.heap) d6 ek gs->qR d6 ek->∃m,m<n/\∃i aE J,Inv (X.comp N scope cl cm.objs.size s2 ag fp ej) [] aE J gs/\e2 i gs.heap/\(∀b∈fp,J b=none)/\W i m aE J:=fun {d6 ek gs} e4 km=>by
    obtain ⟨cW,hm,qi⟩:=hN d6 ek km
    refine ⟨cW,hm,i+1,d6,ek,e4.rI,T.keep _ _ _ qe fun b hb o e=>(e4.pin (b,o) (af7 _ (af7 _ (oZ hb e)))).1,fun b hb=>?_,qi⟩
    obtain ⟨o,e,d⟩:=T.obj _ _ qe b hb
    exact (e4.pin (b,o) (af7 _ (af7 _ (oZ hb e)))).2.1
   refine bk (hg cm.objs.size s2 ag fp ej _ jC h_ hQ x u _ x5 Aj (step x hQ Cf)) fun _ gs hz=>?_
   obtain ⟨d6,ek,e4,jA⟩:=hz
   refine bk (hf cm.objs.size s2 ag fp ej _ gs d6 ek _ e4 jA) fun b Ay hz=>?_
   obtain ⟨mf,so,hI⟩:=hz
   cases b with
   | false=>exact again so hI
   | true=>
    refine bk (he cm.objs.size s2 ag fp ej _ Ay d6 mf _ so hI) fun y Hu hz=>?_
    obtain ⟨v,MY,M5,UX,xs,QX,hsz,Ah⟩:=hz
    refine bk (uj _ Hu d6 MY (.ref s2.heap.objs.size) [v] (.ref s2.heap.objs.size) [y] (fun _ x2=>qR d6 x2) M5 rfl (.cons UX .nil) ⟨_,xs,v,rfl,rfl,QX,hsz,Ah⟩) fun _ Ht hz=>?_
    obtain ⟨_,x2,x4,_,Af⟩:=hz
    exact again x4 Af
 exact codeAny_compStart_list (loop _ rfl) (T.self _ 0 _ _ _ (T.keep _ _ _ hJ fun b hb o e=>old b o e) (loop _ rfl))
theorem Z9 {elt bx:Expr}(hc:X.calm=true)(k:oa X N is scope cl)(hi:hR X bx iter cZ)
  (hg:∀C bf bA ex E,jf (X.comp N scope cl C bf bA ex E) bx g)(hf:∀C bf bA ex E,mi (X.comp N scope cl C bf bA ex E) ifs tt)(he:∀C bf bA ex E,bN (X.comp N scope cl C bf bA ex E) elt a8)
  (hs:∀x,foldedSetIterable iter X.env x=pure x:=by intro _;rfl):bN X (.ListComp elt [⟨bx,iter,ifs,0⟩] scope pos) (qB cZ g tt a8 is):=by
 intro pins s σ H Q I h
 rw[eval_ListComp]
 exact JS (use:=none) hc k hi hg hf he hs I h fun D C bK s5 m hn _ kb q=>⟨m,hn,fun h' nt=>⟨.ref D,bK,kb h' nt,rfl,q⟩⟩
theorem ZY {i:Nat}{x:Str}{hV l1:Pos}{elt bx:Expr}(hN:X.N.Nodup)(pU:X.N[i]?=some x)(hx:X.env.scope.names.lookup x=some .local)(hc:X.calm=true)(k:oa X N is scope cl)(hi:hR X bx iter cZ)
  (hg:∀C bf bA ex E,jf (X.comp N scope cl C bf bA ex E) bx g)(hf:∀C bf bA ex E,mi (X.comp N scope cl C bf bA ex E) ifs tt)(he:∀C bf bA ex E,bN (X.comp N scope cl C bf bA ex E) elt a8)
  (fu:swapsWith (.ListComp elt [⟨bx,iter,ifs,0⟩] scope pos) (some (.Name x hV)) l1.line X.env=pure true)
  (hs:∀x,foldedSetIterable iter X.env x=pure x:=by intro _;rfl):hC X (.Assign [.Name x hV] (.ListComp elt [⟨bx,iter,ifs,0⟩] scope pos) l1) (mW (qB cZ g tt a8 is) (kL i)):=by
 intro pins s σ H D I h
 rw[exec_Assign_Name_used _ _ _ _ fu]
 refine afB (ags (afB ?_))
 show wpAny _ X.A (do let _ <-comprehension (.ListComp elt [⟨bx,iter,ifs,0⟩] scope pos) scope X.env _ (newList []) false (eval iter X.env) (some (assign (.Name x hV) X.env))) _ _ s
 refine afB (afV (JS (use:=some (assign (.Name x hV) X.env)) (Qr:=fun _ ar=>ji X pins D .next ar) hc k hi hg hf he hs I h fun A C bK s5 m hn sW kb q=>?_) (fun _ ar aM=>afF (afF aM)) fun _ _ e=>e)
 have fH:Inv X pins σ bK s5:=kb s5.heap (Heap.SameBut.refl _ _)
 obtain ⟨f0,f1,f2,d3,f4,eB⟩:=sW
 show wpAny _ X.A (assign (.Name x hV) X.env (.ref A)) _ _ _
 refine aiG (Cu fH hN pU (.inl hx) (v:=.ref A) rfl (fun ar ia nt=>?_) (.inr hx))
 obtain ⟨a,i3,ha⟩:=nt
 have zc:C≠a:=by
  rcases ha with z|z
  ·rw[z];exact f1
  ·exact fun q=>f4 x a z q.symm
 refine ⟨m,hn.sameBut i3 zc,fun h' lT=>⟨_,bK,?_,q⟩⟩
 exact ia.turned (t':=ar.toks) (fun b o hb e=>lT.extBut b o hb e) f0 f1 d3 f4 eB
end
structure qT (X:aO)(aA:ajE)(t:TT):Prop where
 o:mi X aA t
variable {X:aO}{ifs:ajE}{scope:Scope}{pos:Pos}{cl:List (Str×Addr)}{N:ajD}{is:List (Option Nat)}{cZ:TI}{g:dX}{tt:TT}{a8:TE}{D:Addr}{σ:St}{H:ah}{Q:bW}
theorem mP :qT X [] D7:=⟨acg⟩
theorem w8 {c:Expr}{t:TT}(hc:jZ X c t):qT X [c] t:=⟨acf hc.o⟩
theorem o2 {elt iter bx:Expr}(hc:X.calm=true)(k:oa X N is scope cl)(hi:jh X bx iter cZ)
  (hg:∀C bf bA ex E,lH (X.comp N scope cl C bf bA ex E) bx g)(hf:∀C bf bA ex E,qT (X.comp N scope cl C bf bA ex E) ifs tt)(he:∀C bf bA ex E,bI (X.comp N scope cl C bf bA ex E) elt a8)
  (hs:∀x,foldedSetIterable iter X.env x=pure x:=by intro _;rfl):bI X (.ListComp elt [⟨bx,iter,ifs,0⟩] scope pos) (qB cZ g tt a8 is):=
 ⟨Z9 hc k hi.o (fun C bf bA ex E=>(hg C bf bA ex E).o) (fun C bf bA ex E=>(hf C bf bA ex E).o) (fun C bf bA ex E=>(he C bf bA ex E).o) hs⟩
theorem wW {i:Nat}{x:Str}{hV l1:Pos}{elt iter bx:Expr}(hN:X.N.Nodup)(pU:X.N[i]?=some x)(hx:X.env.scope.names.lookup x=some .local)(hc:X.calm=true)(k:oa X N is scope cl)(hi:jh X bx iter cZ)
  (hg:∀C bf bA ex E,lH (X.comp N scope cl C bf bA ex E) bx g)(hf:∀C bf bA ex E,qT (X.comp N scope cl C bf bA ex E) ifs tt)(he:∀C bf bA ex E,bI (X.comp N scope cl C bf bA ex E) elt a8)
  (fu:swapsWith (.ListComp elt [⟨bx,iter,ifs,0⟩] scope pos) (some (.Name x hV)) l1.line X.env=pure true:=by rfl)
  (hs:∀x,foldedSetIterable iter X.env x=pure x:=by intro _;rfl):gy X (.Assign [.Name x hV] (.ListComp elt [⟨bx,iter,ifs,0⟩] scope pos) l1) (mW (qB cZ g tt a8 is) (kL i)):=
 ⟨ZY hN pU hx hc k hi.o (fun C bf bA ex E=>(hg C bf bA ex E).o) (fun C bf bA ex E=>(hf C bf bA ex E).o) (fun C bf bA ex E=>(he C bf bA ex E).o) fu hs⟩
theorem IT {lo:Int}{n:Nat}(Pv:Nat->St->ah->Prop)(h0:Pv 0 σ H)
  (hs:∀i σ H,i<n->Pv i σ H->g (.int (lo+i)) σ H fun bZ b3=>tt bZ b3 fun b bK=>if b=true then a8 bZ bK fun y cy=>∃xs,cy D=some (.lst xs)/\xs.length<sizeLine/\Pv (i+1) bZ (upd cy D (.lst (xs++[y]))) else Pv (i+1) bZ bK)
  (hd:∀σ H,Pv n σ H->(∃ys,H D=some (.lst ys))/\Q (.ref D) H):D5 (lD lo n) g tt a8 D σ H Q:=by
 refine ⟨fun i m σ H=>m=n-i/\i<=n/\Pv i σ H,⟨n,by simp,afY _,h0⟩,?_⟩
 rintro i m σ H ⟨rfl,hi,p⟩
 by_cases dj:i<n
 ·refine .inr ⟨dj,Pv (i+1),fun aE J dy=>⟨n-(i+1),by lia,rfl,dj,dy⟩,fun x J y=>?_⟩
  obtain ⟨e,y⟩:=y
  subst e y
  exact hs i σ _ dj p
 ·have e:i=n:=by lia
  subst e
  exact .inl ⟨afE _,hd σ H p⟩
theorem CM {K:ajA}{a:Addr}{xs:List V}(Pv:Nat->St->ah->Prop)(h0:Pv 0 σ H)(hl:∀i σ H,i<=xs.length->Pv i σ H->bp K H a xs)
  (hs:∀i x σ H,xs[i]?=some x->Pv i σ H->g x σ H fun bZ b3=>tt bZ b3 fun b bK=>if b=true then a8 bZ bK fun y cy=>∃xs,cy D=some (.lst xs)/\xs.length<sizeLine/\Pv (i+1) bZ (upd cy D (.lst (xs++[y]))) else Pv (i+1) bZ bK)
  (hd:∀σ H,Pv xs.length σ H->(∃ys,H D=some (.lst ys))/\Q (.ref D) H):D5 (oc K a) g tt a8 D σ H Q:=by
 refine ⟨fun i m σ H=>m=xs.length-i/\i<=xs.length/\Pv i σ H,⟨xs.length,by simp,afY _,h0⟩,?_⟩
 rintro i m σ H ⟨rfl,hi,p⟩
 have q:=hl i σ H hi p
 by_cases dj:i<xs.length
 ·refine .inr ⟨⟨xs,xs[i],q,by simp[dj]⟩,Pv (i+1),fun aE J dy=>⟨xs.length-(i+1),by lia,rfl,dj,dy⟩,fun x J y=>?_⟩
  obtain ⟨e,y⟩:=y
  subst e
  exact hs i x σ _ (y xs q) p
 ·have e:i=xs.length:=by lia
  subst e
  exact .inl ⟨⟨xs,q,afE _⟩,hd σ H p⟩
section
variable {X:aO}
theorem Lq:pv X .Mult (iu sb fun i j=>.int (i*j)):=oI fun _ _ _ _ _ _ _ hc q=>imul_int q (IntMulOk.of_bits hc.1 hc.2)
theorem aap:pv X .FloorDiv (iu Ex fun i j=>.int (i/j)):=Y9
end
end L2
namespace L2
open PySem
structure ya (p:Int):Prop where
 two:2<=p
 no:∀d:Int,2<=d->d*d<=p->p%d≠0
theorem qk {α:Type}{av:List α}{i:Nat}{p:α}(h:av[i]?=some p):av.take (i+1)=av.take i++[p]:=by
 rw[List.take_add_one,h];rfl
theorem cb.pow {m:Nat}{x:Int}(h:cb m x):∀k:Nat,cb (m*k+1) (x^k)
 | 0=>by show (x^0).natAbs<2^(m*0+1);simp
 | k+1=>by
  have a:=(cb.pow h k).mul h
  rw[<-agH]at a
  exact a.mono (by rw[Nat.mul_succ];lia)
theorem JQ (x:Rat)(k:Nat):((x^k).den:Int)=(x.den:Int)^k:=by rw[Rat.den_pow];push_cast;rfl
theorem b4.HG {m:Nat}{x:Rat}(h:bH m x)(h0:0<m)(hm:m<=14000):b4 1 (2*(m+3)+4) (L2.bj x):=by
 refine b4.tup (n:=0) (v:=m+1) (ds:=[.int x.num,.int (x.den:Int)]) ?_
 intro d hd
 simp only[afP,agg,agh]at hd
 rcases hd with rfl|rfl
 ·exact .oE h.n h0 hm
 ·exact .oE h.d h0 hm
end L2
namespace L2
def ch:Nat->Nat->Nat
 | _,0=>1
 | 0,_+1=>0
 | n+1,k+1=>ch n k+ch n (k+1)
theorem l8 (n:Nat):ch n 0=1:=by cases n<;>rfl
theorem qz:∀(n k:Nat),n<k->ch n k=0
 | 0,k+1,_=>rfl
 | n+1,k+1,h=>by
  show ch n k+ch n (k+1)=0
  rw[qz n k ⋯,qz n (k+1) ⋯]
theorem xf:∀n:Nat,ch n n=1
 | 0=>rfl
 | n+1=>by
  show ch n n+ch n (n+1)=1
  rw[xf n,qz n (n+1) ⋯]
theorem uE:∀(n k:Nat),ch n (k+1)*(k+1)+ch n k*k=ch n k*n
 | 0,0=>rfl
 | 0,k+1=>by show 0*(k+2)+0*(k+1)=0*0;lia
 | n+1,0=>by
  have h:ch n 1*1+ch n 0*0=ch n 0*n:=uE n 0
  rw[l8]at h
  show (ch n 0+ch n 1)*1+ch (n+1) 0*0=ch (n+1) 0*(n+1)
  rw[l8,l8]
  lia
 | n+1,k+1=>by
  have h1:=uE n k
  have h2:=uE n (k+1)
  show (ch n (k+1)+ch n (k+2))*(k+2)+(ch n k+ch n (k+1))*(k+1)=(ch n k+ch n (k+1))*(n+1)
  generalize ch n k=a at *
  generalize ch n (k+1)=b at *
  generalize ch n (k+2)=c at *
  grind
theorem DG:∀(n k:Nat),k<=n->ch n k=ch n (n-k)
 | 0,0,_=>rfl
 | n+1,0,_=>by rw[l8,ahx,xf]
 | n+1, k+1, h => by
  have ai:n+1-(k+1)=n-k:=by lia
  rw[ai]
  by_cases hk:k=n
  ·subst hk
   rw[ahQ,l8,xf]
  ·obtain ⟨m,hm⟩:∃m,n-k=m+1:=⟨n-k-1,by lia⟩
   rw[hm]
   show ch n k+ch n (k+1)=ch n m+ch n (m+1)
   rw[DG n k ⋯,DG n (k+1) ⋯,hm]
   have:n-(k+1)=m:=by lia
   rw[this];lia
theorem D3:∀(n k:Nat),ch n k<=2^n
 | n,0=>by rw[l8];exact Nat.one_le_two_pow
 | 0,k+1=>afY _
 | n+1,k+1=>by
  have a:=D3 n k
  have b:=D3 n (k+1)
  show ch n k+ch n (k+1)<=2^(n+1)
  rw[Nat.pow_succ];lia
theorem aaA {n t:Nat}(h:t<n):((ch n t:Nat):Int)*((n:Int)-t)/((t:Int)+1)=((ch n (t+1):Nat):Int):=by
 have e:=uE n t
 have aU:((ch n t:Nat):Int)*((n:Int)-t)=((ch n (t+1):Nat):Int)*((t:Int)+1):=by
  have:=congrArg (Nat.cast (R:=Int)) e
  push_cast at this
  grind
 rw[aU,aiW _ ⋯]
theorem J2:∀{xs:List V}{us:ajC},xs.length=us.length->(∀(j:Nat) x u,xs[j]?=some x->us[j]?=some u->RelV x u)->Vals xs us
 | [],[],_,_=>.nil
 | x::xs,u::us,h,f=>.cons (f 0 x u rfl rfl) (J2 (by simpa using h) fun j wG gI ai az=>f (j+1) wG gI ai az)
 | [],_::_,h,_=>by simp at h
 | _::_,[],h,_=>by simp at h
def pf (a:Int)(n:Nat):List Int:=(List.range n).map fun i:Nat=>a+(i:Int)
section
variable {X:aO}
theorem WT (hc:X.calm=true):fE X (.type "list") (fun xs H Q=>∃r a b,xs=[.ref r]/\H r=some (.mE a b)/\-(2^62)<=a/\a<2^62/\-(2^62)<=b/\b<2^62/\(b-a).toNat<=10000/\∀l,H l=none->Q (.ref l) (upd H l (.lst ((pf a (b-a).toNat).map V.int)))):=by
 intro pins s σ H xs us Q I r h
 obtain ⟨Aq,a,b,rfl,hr,h1,h2,aQ,bS,c1,q⟩:=h
 obtain ⟨u,rfl,aB⟩:=iB r
 cases aB
 obtain ⟨t,t',t4,e⟩:=(show ∃t u v,s.heap.get? Aq=some {cls:=.type "range",data:=.fields #[.int a t,.int b u,.int 1 v]} from I.aX Aq _ hr)
 refine call_list_range (n:=(b-a).toNat) (I.ok.hd hc) e (small_one h1 h2 aQ bS) (by rw[rangeSize_one];split<;>lia) ⋯ fun h' tk eb bG cR pJ it=>?_
 have hv:Vals ((pf a (b-a).toNat).map V.int) eb.toList:=by
  refine J2 ?_ fun j x u ai az=>?_
  ·rw[afG,pf,afG,agj,ah8,it.1]
  ·obtain ⟨t,rfl⟩:=it.2 j u (by simpa using az)
   rw[af1,pf,af1]at ai
   cases hj:(List.range (b-a).toNat)[j]? with
   | none=>rw[hj]at ai;cases ai
   | some w =>
    rw[hj]at ai
    have hw:w=j:=by
     have:=agf.mp hj
     obtain ⟨eL,gp⟩:=this
     rw[ahR]at gp
     exact gp.symm
    cases ai
    subst hw
    exact ⟨t,by rw[ahH]⟩
 refine ⟨.ref s.heap.objs.size,_,I.laid (h':=h') (t':=tk) cR (afE _) (show c_ X.prog X.w _ h' _ (.lst _) from ⟨?_,eb.toList,bG,hv,by simpa using pJ⟩),rfl,q _ (I.aX.fresh (afE _))⟩
 rw[afG,pf,afG,agj,afW];lia
end
end L2
namespace L2
open PySem
def j7 (n k:Int):Int:=if 0<=k then ((ch n.toNat k.toNat:Nat):Int) else 0
theorem Lz {K:ajA}{H:ah}:∀ns:List Int,bE K H (ns.map V.int) (ns.map PyData.int)
 | []=>.nil
 | n::r=>.cons (.int n) (Lz r)
theorem D4 (n k:Nat)(h:n<=60):cb 61 ((ch n k:Nat):Int):=by
 show (((ch n k:Nat):Int)).natAbs<2^61
 rw[ahM]
 have a:=D3 n k
 have b:2^n<=2^60:=Nat.pow_le_pow_right (by decide) h
 have c:(2:Nat)^60<2^61:=by decide
 lia
end L2
namespace L2
variable {X:aO}{K:ajA}{aA:ajE}
theorem rQ (bL:X.K=K){pos:Pos}{k:Nat}{t:jk}{n:Nat}(hc:X.calm=true)(h:sy X aA t)(hn:(assignEach aA X.env).length=n:=by rfl)(hst:(assignEach aA X.env).findIdx? (·.1)=none:=by rfl):lH X (.Tuple aA k pos) (u5 K n t):=by
 subst bL
 exact ⟨K9 (hc:=hc) (h:=h.o) (hn:=hn) (hst:=hst)⟩
theorem ZP {T:String}{name:Str}{id:String}(bL:X.K=K){r:V->List V->ah->bW->Prop}{o:Expr}{to:TE}{e:Expr}{t:cP}{eG:Pos}{apos:Pos}(pa:PlainAttrs T)(slot:Slot T name id)(hty:typeOf (.builtin id)=pure (.type "method_descriptor"))(hm:qQ X id r)(ho:bI X o to)(ha:gP X (e::aA) t)(hbase:attributeBase o name X.env (eval o X.env)=eval o X.env:=by rfl)(hfew:((backTo eG (starEach (e::aA) X.env)).all (fun x=>!x.1)&&(backToKw eG (keywordEach [] X.env)).all (fun x=>x.1.isSome)&&decide ((e::aA).length+([]:List Keyword).length+(if ([]:List Keyword).isEmpty then 0 else 1)<30))=true:=by rfl)(hline:(apos.endLine == eG.line)=true:=by rfl)(hs:starEach (e::aA) X.env=(false,eval e X.env)::starEach aA X.env:=by rfl)(hplain:(backTo eG (starEach aA X.env)).any (·.1)=false:=by rfl):bI X (.Call (.Attribute o name apos) (e::aA) [] eG) (wB K T r to t):=by
 subst bL
 exact ⟨Mb (pa:=pa) (slot:=slot) (hty:=hty) (hm:=hm) (ho:=ho.o) (ha:=ha.o) (hbase:=hbase) (hfew:=hfew) (hline:=hline) (hs:=hs) (hplain:=hplain)⟩
end L2
namespace L2
open PySem
variable {K:ajA}{v:V}{ns:ajH}
theorem J6:∀ns:List Int,fF (ns.map PyData.int)=true
 | []=>by simp[fF]
 | n::r=>by simp[fF,ef,J6 r]
theorem aS.SH {H J:ah}(h:aS K H v (.tuple (ns.map PyData.int)))(e:lA H J):aS K J v (.tuple (ns.map PyData.int)):=h.keep e (by simp only[ef];exact J6 ns)
theorem CJ {K:ajA}{H:ah}:∀{aa:List V}{ns:ajH},bE K H aa (ns.map PyData.int)->aa=ns.map V.int
 | [],[],_=>rfl
 | v::aa,[],h=>by cases h
 | [],n::ns,h=>by cases h
 | v::aa,n::ns,h=>by
  cases h with
  | cons h1 t=>cases h1;rw[af8,CJ t]
theorem aS.ints {H:ah}(h:aS K H v (.tuple (ns.map PyData.int))):∃a,v=.ref a/\bp K H a (ns.map V.int):=by
 cases h with
 | tup hs t=>rw[CJ t]at hs;exact ⟨_,rfl,hs⟩
end L2
namespace L2
section
variable {prog:Program}{w:World}{A:Around}{E:ajv}{s:Shared}
variable {i:Nat}{its:Array Value}{Q:ajv}
theorem Xn {it t:Addr}{x:Value}(hit:s.heap.IsTupleIter it t i)(aH:s.heap.IsTuple t its)(hx:its[i]?=some x)
  (hF:∀h',h'.IsTupleIter it t (i+1)->Heap.SameBut it s.heap h'->Q x {s with heap:=h'}):wpAny (model prog w) A (Builtin.SmallTypes.nextOf (.ref it)) Q E s:=by
 obtain ⟨o,ho,hc,hd⟩:=id hit;obtain ⟨ol,zy,_,nl,zm⟩:=aH
 unfold Builtin.SmallTypes.nextOf
 refine afB (ahp (name:=Str.ofString "__next__") hit.typeIs ain (agQ ain hit.typeIs ajr ?_ (ajs _)))
 show wpAny _ _ (field (.ref it) 0 >>= _) _ _ s;refine afB (agi ho hd (x:=.ref t) rfl ?_)
 show wpAny _ _ (if (Value.ref t == Value.none)=true then _ else _) _ _ s;rw[afC (show ¬((Value.ref t == Value.none)=true) from afT)]
 show wpAny _ _ (field (.ref it) 1 >>= _) _ _ s;refine afB (agi ho hd (x:=.int i 0) rfl ?_)
 show wpAny _ _ (seqItems? (.ref t) >>= _) _ _ s;refine afB (wpAny_seqItems zy zm ?_)
 simp only[ago,hx]
 refine afB (ag2 ho hd (by simp) (afF ⟨x,rfl,afF (hF _ ⟨_,ag9 _ ho (ahS (agT hd _)),(aiZ ..).trans hc,by rw[agT hd];simp[rawInt]⟩ (ahA ..))⟩))
theorem WL {it t:Addr}(dZ:A.handled=none)(hit:s.heap.IsTupleIter it t i)(aH:s.heap.IsTuple t its)(hx:its[i]?=none)
  (dN:∀h' e,Heap.ExtBut it s.heap h'->(∃o,h'.get? e=some o/\o.cls=.type "StopIteration")->E (.ref e) {s with heap:=h'}):wpAny (model prog w) A (Builtin.SmallTypes.nextOf (.ref it)) Q E s:=by
 obtain ⟨o,ho,hc,hd⟩:=id hit;obtain ⟨ol,zy,_,nl,zm⟩:=aH
 unfold Builtin.SmallTypes.nextOf
 refine afB (ahp (name:=Str.ofString "__next__") hit.typeIs ain (agQ ain hit.typeIs ajr ?_ (ajs _)))
 show wpAny _ _ (field (.ref it) 0 >>= _) _ _ s;refine afB (agi ho hd (x:=.ref t) rfl ?_)
 show wpAny _ _ (if (Value.ref t == Value.none)=true then _ else _) _ _ s;rw[afC (show ¬((Value.ref t == Value.none)=true) from afT)]
 show wpAny _ _ (field (.ref it) 1 >>= _) _ _ s;refine afB (agi ho hd (x:=.int i 0) rfl ?_)
 show wpAny _ _ (seqItems? (.ref t) >>= _) _ _ s;refine afB (wpAny_seqItems zy zm ?_)
 simp only[ago,hx]
 refine afB (ahj (afB (ag2 ho hd (by simp) ?_)));show wpAny _ _ (newExc (.type "StopIteration") [] >>= _) _ _ _
 refine afB ?_;simp only[newExc,newTuple]
 refine afB (agr ?_ (by size_fits));refine afB (m:=firstArgMember _ _) (agI (a:=Value.none) (by first|rfl|(simp only[firstArgMember];rfl)) ?_)
 refine agr ?_ (by size_fits);simp only[raiseNew]
 refine afB (wpAny_handled ?_);first|rw[show A.in1.handled=none from dZ]|rw[dZ]
 refine afB (afF (wpAny_throw ?_));exact dN _ _ (((ahA ..).extBut.push _).push _) ⟨_,af3 _ rfl,rfl⟩
end
variable {prog:Program}{w:World}{A:Around}{b:Bool}{i:Nat}
theorem Yc (dZ:A.handled=none)(it t:Addr)(c7:t≠it)(its:Array Value):Draws prog w A it [it,t] its.size (fun i v=>its[i]?=some v) (fun i h=>h.IsTupleIter it t i/\h.IsTuple t its) where
 live:=fun _ _ st=>let ⟨o,ho,_⟩:=st.1;⟨o,ho⟩
 frame:=fun _ _ _ ⟨oQ,hJ⟩ hk=>⟨oQ.at fun o e=>hk it (by simp) o e,let ⟨o,e,r⟩:=hJ;⟨o,hk t (by simp) o e,r⟩⟩
 item:=fun i s Q E hi st hF=>Xn st.1 st.2 (x:=its[i]) (by simp[hi]) fun h' Ro lT=>hF _ h' s.toks (by simp[hi]) ⟨Ro,let ⟨o,e,r⟩:=st.2;⟨o,lT.extBut _ _ c7 e,r⟩⟩ lT
 done:=fun s Q E st dN=>WL dZ st.1 st.2 (by simp) dN
def ig (b:Bool)(K:ajA)(H:ah)(a:Addr)(xs:List V):Prop:=match b with
 | false=>bP K H a xs
 | true=>bp K H a xs
def m2 (b:Bool)(h:Heap)(it a:Addr)(i:Nat):Prop:=match b with
 | false=>h.IsListIter it a i
 | true=>h.IsTupleIter it a i
def Ey (b:Bool)(h:Heap)(a:Addr)(its:Array Value):Prop:=match b with
 | false=>h.IsList a its
 | true=>h.IsTuple a its
theorem KC (b:Bool)(dZ:A.handled=none)(it t:Addr)(c7:t≠it)(its:Array Value):Draws prog w A it [it,t] its.size (fun i v=>its[i]?=some v) (fun i h=>m2 b h it t i/\Ey b h t its):=by
 cases b
 ·exact Draws.list dZ it t c7 its
 ·exact Yc dZ it t c7 its
theorem m2.obj {h:Heap}{it a:Addr}(x:m2 b h it a i):∃o,h.get? it=some o/\∀v,o.data≠.cell v:=by
 cases b
 ·obtain ⟨o,e,c,d⟩:=x
  exact ⟨o,e,fun v z=>by rw[d]at z;cases z⟩
 ·obtain ⟨o,e,c,d⟩:=x
  exact ⟨o,e,fun v z=>by rw[d]at z;cases z⟩
theorem m2.at {h h':Heap}{it a:Addr}(x:m2 b h it a i)(k:∀o,h.get? it=some o->h'.get? it=some o):m2 b h' it a i:=by
 cases b
 ·obtain ⟨o,e,r⟩:=x;exact ⟨o,k o e,r⟩
 ·obtain ⟨o,e,r⟩:=x;exact ⟨o,k o e,r⟩
section
variable {X:aO}{pins:ajx}{σ:St}{H:ah}{s:Shared}
variable {b:Bool}{a it:Addr}{xs:List V}{E:ajv}{yb:Nat->Array Value->Prop}{sA:Nat->Heap->Prop}{EK:Nat->Addr->Heap->Prop}
theorem Inv.HE (I:Inv X pins σ H s)(h:ig b X.K H a xs):∃its,Vals xs its/\Ey b s.heap a its.toArray:=by
 cases b
 ·obtain ⟨its,r,p,_⟩:=I.list h
  exact ⟨its,r,p.isList⟩
 ·obtain ⟨its,r,p,_⟩:=I.tuple h
  exact ⟨its,r,p⟩
theorem Inv.Vz (I:Inv X pins σ H s){ys:List V}(h:ig b X.K H a xs)(h':ig b X.K H a ys):xs=ys:=by
 cases b
 ·exact I.GU h h'
 ·exact I.B9 h h'
theorem XW (I:Inv X pins σ H s){fp fq wr:ajG}{n i:Nat}(W:WalksT X.prog X.w X.A it fq wr n yb sA EK)(qj:∀c∈wr,c∈fp)
  (live:∀c∈fp,∃o,s.heap.get? c=some o)(hi:i<n)(st:sA i s.heap)(oz:∀b∈fp,kP X pins H b)(x y:V)(hv:∀vals,yb i vals->∃rJ t_,vals=#[rJ,t_]/\RelV x rJ/\RelV y t_){elts:ajE}{kk:Nat}{pos:Pos} :
  wpAny (model X.prog X.w) X.A (pyNext (.ref it)) (fun r s1=>∃u,r=some u/\wpAny (model X.prog X.w) X.A (letOwnedTupleGo (.Tuple elts kk pos) (.ref it) u) (fun _ s2=>∃T,u=.ref T/\H T=none/\Inv X pins σ (upd H T (.tup [x,y])) s2/\sA (i+1) s2.heap/\∀b∈fp,upd H T (.tup [x,y]) b=none) E s1) E s:=by
 refine W.item i s _ E hi st fun T vals h' tk Q3 cG Q6 Gi hk=>⟨_,rfl,?_⟩
 refine W.go elts kk pos i T _ _ E Gi fun y9 Q5 f6=>?_
 obtain ⟨rJ,t_,rfl,aB,aJ⟩:=hv vals Q3
 have rb:H T=none:=I.aX.fresh cG
 have kept:∀c o,c∉wr->s.heap.get? c=some o->y9.get? c=some o:=fun c o hn e=>f6 c o hn (hk c o hn e)
 have neT:∀c o,s.heap.get? c=some o->c≠T:=fun c o e q=>by subst q;exact absurd (afH e) (aif.mpr cG)
 have tG:∀c o,H c=some o->c∉wr:=fun c o e hm=>by
  have:=(oz c (qj c hm)).1
  rw[this]at e;cases e
 have Wj:∃o,y9.get? T=some o/\o.cls=.type "tuple"/\∃n,o.data=.seq #[rJ,t_] n:=by
  obtain ⟨o,ho,hG,n,hd⟩:=Q6
  exact ⟨o,f6 _ _ (W.apart i T _ Gi) ho,hG,n,hd⟩
 have a3:Inv X pins σ (upd H T (.tup [x,y])) {s with heap:=y9,gens:=s.gens,drawn:=s.drawn,toks:=tk}:=by
  refine I.step (ch:=wr) (fun c hm=>?_) (fun c o _ _ hn e _=>kept c o hn e) (fun c o _ _ hn e _=>⟨o.slots,kept c o hn e⟩) (fun c o hn e n=>?_) (fun c o hn e=>⟨o,kept c o hn e⟩) (fun c zs e=>?_) (fun c o u e=>?_) (fun c av e=>⟨#[],?_⟩) (fun m hm=>?_) ?_ I.bare
  ·obtain ⟨f0,f1,f2,d3,f4,eB⟩:=oz c (qj c hm)
   exact ⟨d3,f1,f4,eB⟩
  ·rw[br (neT c o e)];exact n
  ·rw[br (eN e rb)];exact e
  ·rw[br (eN e rb)];exact e
  ·rw[br (eN e rb)];simpa using e
  ·obtain ⟨o,aA,cV,ho,r⟩:=hm
   exact ⟨o,aA,cV,kept _ o (fun hm=>(oz _ (qj _ hm)).2.1 rfl) ho,r⟩
  ·intro c o e
   by_cases Gq:c=T
   ·subst Gq
    rw[bo]at e
    cases e
    obtain ⟨o,ho,hG,n,hd⟩:=Wj
    exact ⟨by show 2<=sizeLine;decide,[rJ,t_],.cons aB (.cons aJ .nil),o,ho,hG,n,hd⟩
   ·rw[br Gq]at e
    refine (I.aX c o e).f_ (fun bG v hG q=>kept bG v ?_ q) (fun d q=>?_) fun d u q=>?_
    ·rcases hG with bD|bD
     ·rw[bD];exact tG c o e
     ·exact tG bG _ bD
    ·rw[br (eN q rb)];exact q
    ·rw[br (eN q rb)];exact q
 refine ⟨T,rfl,rb,a3,Q5,fun c hm=>?_⟩
 obtain ⟨o,e⟩:=live c hm
 rw[br (neT c o e)]
 exact (oz c hm).1
theorem XX (I:Inv X pins σ H s){fp fq wr:ajG}{n:Nat}(W:WalksT X.prog X.w X.A it fq wr n yb sA EK)(qj:∀c∈wr,c∈fp)
  (st:sA n s.heap)(oz:∀b∈fp,kP X pins H b):wpAny (model X.prog X.w) X.A (pyNext (.ref it)) (fun r s1=>r=none/\Inv X pins σ H s1) E s:=by
 refine W.done s _ E st fun h' tk hk=>⟨rfl,?_⟩
 have tG:∀c o,H c=some o->c∉wr:=fun c o e hm=>by
  have:=(oz c (qj c hm)).1
  rw[this]at e;cases e
 refine I.step (g':=s.gens) (d':=s.drawn) (ch:=wr) (fun c hm=>?_) (fun c o _ _ hn e _=>hk c o hn e) (fun c o _ _ hn e _=>⟨o.slots,hk c o hn e⟩) (fun c o hn e n=>n) (fun c o hn e=>⟨o,hk c o hn e⟩) (fun c zs e=>e) (fun c o u e=>e) (fun c av e=>⟨#[],by simpa using e⟩) (fun m hm=>?_) ?_ I.bare
 ·obtain ⟨f0,f1,f2,d3,f4,eB⟩:=oz c (qj c hm)
  exact ⟨d3,f1,f4,eB⟩
 ·obtain ⟨o,aA,cV,ho,r⟩:=hm
  exact ⟨o,aA,cV,hk _ o (fun hm=>(oz _ (qj _ hm)).2.1 rfl) ho,r⟩
 ·intro c o e
  refine (I.aX c o e).f_ (fun bG v hG q=>hk bG v ?_ q) (fun d q=>q) fun d u q=>q
  rcases hG with bD|bD
  ·rw[bD];exact tG c o e
  ·exact tG bG _ bD
end
def m3 (b:Bool)(K:ajA)(a:Addr):gZ:=
  ⟨fun i H=>∃xs x,ig b K H a xs/\xs[i]?=some x,
   fun i H v J=>∃T x,v=.ref T/\H T=none/\J=upd H T (.tup [.int (i:Int),x])/\∀xs,ig b K H a xs->xs[i]?=some x,
   fun i H=>∃xs,ig b K H a xs/\i=xs.length⟩
theorem IX {P:Program}{w:World}{K:ajA}{elts:ajE}{kk:Nat}{pos:Pos}{b:Bool}{e it a:Addr}(vR:e≠it)(Gs:e≠a)(Gm:a≠it) :
  Turn P w K (.Tuple elts kk pos) (m3 b K a) [e,it] e (fun i h=>(∃old,IsEnum h e it i old)/\m2 b h it a i) where
 mem:=af6 ..
 obj:=by
  rintro i h ⟨⟨old,h1⟩,h2⟩ c hc
  simp only[afP,agg,agh]at hc
  rcases hc with rfl|rfl
  ·exact ⟨_,h1,fun v z=>by cases z⟩
  ·exact h2.obj
 keep:=by
  rintro i h h' ⟨⟨old,h1⟩,h2⟩ hk
  exact ⟨⟨old,hk _ (by simp) _ h1⟩,h2.at fun o z=>hk _ (by simp) o z⟩
 item:=by
  intro X et hw bL hc i pins s σ H E I fp e2 go
  subst et hw bL
  obtain ⟨xs,x,hX,ex⟩:=go
  obtain ⟨us,fz,pu⟩:=I.HE hX
  obtain ⟨⟨old,h1⟩,h2⟩:=e2
  have dZ:=I.ok.hd hc
  have D:=KC (prog:=X.prog) (w:=X.w) (A:=X.A.in1) b (show X.A.in1.handled=none from dZ) it a Gm us.toArray
  have W:=WalksT.enumerateD (A:=X.A) D e vR (by simp[vR,Gs]) (by simp)
  obtain ⟨rJ,ai,aB⟩:=fz.get ex
  have hi:i<us.toArray.size:=by
   have eL:=(agf.mp ai).1
   simpa using eL
  have key:=XW (E:=E) (fp:=[e,it]) I W (fun c hc=>by simpa using hc) (fun c hc=>by
    simp only[afP,agg,agh]at hc
    rcases hc with rfl|rfl
    ·exact ⟨_,h1⟩
    ·obtain ⟨o,z,_⟩:=h2.obj;exact ⟨o,z⟩) hi ⟨⟨old,h1⟩,h2,pu⟩ fp (.int (i:Int)) x (fun vals hp=>by
    obtain ⟨t,u,q,rfl⟩:=hp
    refine ⟨_,_,rfl,⟨t,rfl⟩,?_⟩
    have:us[i]?=some u:=by simpa using q
    rw[ai]at this;cases this;exact aB) (elts:=elts) (kk:=kk) (pos:=pos)
  refine bk key fun r s1 ⟨u,hr,h⟩=>⟨u,hr,bk h fun _ s2 hz=>?_⟩
  obtain ⟨T,hu,cG,a3,st,fr⟩:=hz
  subst hu
  exact ⟨.ref T,_,a3,rfl,⟨T,x,rfl,cG,rfl,fun ys hy=>by rw[I.Vz hy hX];exact ex⟩,⟨st.1,st.2.1⟩,fr⟩
 done:=by
  intro X et hw bL hc i pins s σ H E I fp e2 stop
  subst et hw bL
  obtain ⟨xs,hX,hi⟩:=stop
  obtain ⟨us,fz,pu⟩:=I.HE hX
  have dZ:=I.ok.hd hc
  have D:=KC (prog:=X.prog) (w:=X.w) (A:=X.A.in1) b (show X.A.in1.handled=none from dZ) it a Gm us.toArray
  have W:=WalksT.enumerateD (A:=X.A) D e vR (by simp[vR,Gs]) (by simp)
  have ai:=fz.length
  have hn:i=us.toArray.size:=by simp only[afN];lia
  subst hn
  exact XX (E:=E) (fp:=[e,it]) I W (fun c hc=>by simpa using hc) ⟨e2.1,e2.2,pu⟩ fp
 self:=fun A i s Q E e2 h=>let ⟨old,z⟩:=e2.1;ai0 z h
theorem WM (l:Addr)(items:Array Value) :
  Meets (Builtin.«enumerate.__new__» ⟨[.type "enumerate",.ref l],[]⟩) (fun _ R s=>s.heap.IsTuple l items/\
   R (.ok (.ret (.ref (s.heap.push {cls:=.type "tuple_iterator",data:=.fields #[.ref l,.int 0 0]}).objs.size)))
    {s with heap:=(s.heap.push {cls:=.type "tuple_iterator",data:=.fields #[.ref l,.int 0 0]}).push {cls:=.type "enumerate",data:=.fields #[.none,.bool false,.ref s.heap.objs.size,rawInt 0,.none,.none]}}):=
 .of_wp fun prog w A R s h=>by
  obtain ⟨hp,g,d,tk,os⟩:=s;obtain ⟨sY,h⟩:=h;have RJ:=sub_enumerate
  have eZ:Heap.IsTuple (Shared.heap ⟨hp,g,d,tk,os⟩) l items:=sY
  obtain ⟨o,hl,lb,n,Rh⟩:=sY
  wp_walk using wpAny_loadPart' hl
  refine wpAny_stack_any fun st=>afF ?_
  split
  ·rename_i c _ _ _ _ _
   cases (c == Value.type "enumerate")<;>(wp_walk using wpAny_loadPart' hl,wpAny_pyIter_tuple eZ;exact ⟨_,rfl,h⟩)
  ·wp_walk using wpAny_loadPart' hl,wpAny_pyIter_tuple eZ
   exact ⟨_,rfl,h⟩
theorem WN (l:Addr)(items:Array Value) :
  Meets (Builtin.«enumerate.__new__» ⟨[.type "enumerate",.ref l],[]⟩) (fun _ R s=>s.heap.IsList l items/\
   R (.ok (.ret (.ref (s.heap.push {cls:=.type "list_iterator",data:=.fields #[.ref l,.int 0 0]}).objs.size)))
    {s with heap:=(s.heap.push {cls:=.type "list_iterator",data:=.fields #[.ref l,.int 0 0]}).push {cls:=.type "enumerate",data:=.fields #[.none,.bool false,.ref s.heap.objs.size,rawInt 0,.none,.none]}}):=
 .of_wp fun prog w A R s h=>by
  obtain ⟨hp,g,d,tk,os⟩:=s;obtain ⟨sY,h⟩:=h;have RJ:=sub_enumerate
  have eZ:Heap.IsList (Shared.heap ⟨hp,g,d,tk,os⟩) l items:=sY
  obtain ⟨o,hl,lb,n,Rh⟩:=sY
  wp_walk using wpAny_loadPart' hl
  refine wpAny_stack_any fun st=>afF ?_
  split
  ·rename_i c _ _ _ _ _
   cases (c == Value.type "enumerate")<;>(wp_walk using wpAny_loadPart' hl,wpAny_pyIter_list eZ;exact ⟨_,rfl,h⟩)
  ·wp_walk using wpAny_loadPart' hl,wpAny_pyIter_list eZ
   exact ⟨_,rfl,h⟩
section
variable {prog:Program}{w:World}{A:Around}{E:ajv}{s:Shared}
variable {l:Addr}{items:Array Value}{Q:ajv}
theorem IB (hl:s.heap.IsTuple l items)
  (h:∀h',IsEnum h' (s.heap.objs.size+1) s.heap.objs.size 0 .none->h'.IsTupleIter s.heap.objs.size l 0->h'.objs.size=s.heap.objs.size+2->(∀b o,s.heap.get? b=some o->h'.get? b=some o)->Q (.ref (s.heap.objs.size+1)) {s with heap:=h'}) :
  wpAny (model prog w) A (call (.type "enumerate") [.ref l]) Q E s:=by
 refine callType_new F.called_enumerate (by decide) (F.typeCall_enumerate_1 _) (F.newCall_enumerate_1 _) (fun obj=>ai1 obj _) F.entry_enumerate_new (WM l items) ⟨hl,?_⟩
 have aZ:(s.heap.push {cls:=.type "tuple_iterator",data:=.fields #[.ref l,.int 0 0]}).objs.size=s.heap.objs.size+1:=ahb ..
 show _/\_;rw[aZ]
 have he:IsEnum ((s.heap.push {cls:=.type "tuple_iterator",data:=.fields #[.ref l,.int 0 0]}).push {cls:=.type "enumerate",data:=.fields #[.none,.bool false,.ref s.heap.objs.size,rawInt 0,.none,.none]}) (s.heap.objs.size+1) s.heap.objs.size 0 .none:=by
  have:=af3 (s.heap.push {cls:=.type "tuple_iterator",data:=.fields #[.ref l,.int 0 0]}) (o:={cls:=.type "enumerate",data:=.fields #[.none,.bool false,.ref s.heap.objs.size,rawInt 0,.none,.none]}) rfl
  rw[aZ]at this;exact this
 refine ⟨⟨_,he,rfl⟩,h _ he ⟨_,afL _ (af3 _ rfl),rfl,rfl⟩ (by rw[ahb,aZ]) fun b o x=>afL _ (afL _ x)⟩
theorem IC (hl:s.heap.IsList l items)
  (h:∀h',IsEnum h' (s.heap.objs.size+1) s.heap.objs.size 0 .none->h'.IsListIter s.heap.objs.size l 0->h'.objs.size=s.heap.objs.size+2->(∀b o,s.heap.get? b=some o->h'.get? b=some o)->Q (.ref (s.heap.objs.size+1)) {s with heap:=h'}) :
  wpAny (model prog w) A (call (.type "enumerate") [.ref l]) Q E s:=by
 refine callType_new F.called_enumerate (by decide) (F.typeCall_enumerate_1 _) (F.newCall_enumerate_1 _) (fun obj=>ai1 obj _) F.entry_enumerate_new (WN l items) ⟨hl,?_⟩
 have aZ:(s.heap.push {cls:=.type "list_iterator",data:=.fields #[.ref l,.int 0 0]}).objs.size=s.heap.objs.size+1:=ahb ..
 show _/\_;rw[aZ]
 have he:IsEnum ((s.heap.push {cls:=.type "list_iterator",data:=.fields #[.ref l,.int 0 0]}).push {cls:=.type "enumerate",data:=.fields #[.none,.bool false,.ref s.heap.objs.size,rawInt 0,.none,.none]}) (s.heap.objs.size+1) s.heap.objs.size 0 .none:=by
  have:=af3 (s.heap.push {cls:=.type "list_iterator",data:=.fields #[.ref l,.int 0 0]}) (o:={cls:=.type "enumerate",data:=.fields #[.none,.bool false,.ref s.heap.objs.size,rawInt 0,.none,.none]}) rfl
  rw[aZ]at this;exact this
 refine ⟨⟨_,he,rfl⟩,h _ he ⟨_,afL _ (af3 _ rfl),rfl,rfl⟩ (by rw[ahb,aZ]) fun b o x=>afL _ (afL _ x)⟩
end
theorem ID:bootBuiltins "enumerate"=some (.type "enumerate"):=by decide +kernel
def Mh (b:Bool)(K:ajA)(aC:cP):TI:=fun σ H R=>aC σ H fun aa H1=>∃a xs,aa=[.ref a]/\ig b K H1 a xs/\R (m3 b K a) H1
section
variable {X:aO}
theorem Z2 (b:Bool){elts:ajE}{kk:Nat}{oV:Pos}{ai:Expr}{aC:cP}{p pos:Pos}(hg:eF X "enumerate")(hm:X.mg "enumerate"=none)(ha:hB X [ai] aC)(he:starEach [ai] X.env=(false,eval ai X.env)::starEach [] X.env:=by rfl)(hpl:(backTo pos (starEach [] X.env)).any (·.1)=false:=by rfl) :
  hR X (.Tuple elts kk oV) (.Call (.Name "enumerate" p) [ai] [] pos) (Mh b X.K aC):=by
 intro pins s σ H R I h
 refine agP (mS I hg hm ID ?_ (by decide) (by decide))
 refine agW (bk (ha pos pins s σ H _ I h) fun us s1 ⟨aa,H1,aF,au,aL⟩=>?_) he hpl
 obtain ⟨a,xs,rfl,hX,q⟩:=aL
 obtain ⟨u,rfl,fz⟩:=iB au
 cases fz
 have fin:∀h',IsEnum h' (s1.heap.objs.size+1) s1.heap.objs.size 0 .none->m2 b h' s1.heap.objs.size a 0->(∀c o,s1.heap.get? c=some o->h'.get? c=some o)->a<s1.heap.objs.size->
   wpAny (model X.prog X.w) X.A (pyIter (.ref (s1.heap.objs.size+1))) (vi X pins σ (.Tuple elts kk oV) R) X.ct {s1 with heap:=h'}:=by
  intro h' jr iX hk tw
  refine ai0 jr ?_
  refine ⟨_,[s1.heap.objs.size+1,s1.heap.objs.size],_,m3 b X.K a,H1,rfl,aF.kept hk,IX (Nat.succ_ne_self _) (ahF (aio tw)) (af4 tw),⟨⟨_,jr⟩,iX⟩,fun c hc=>?_,q⟩
  have hle:s1.heap.objs.size<=c:=by
   simp only[afP,agg,agh]at hc
   rcases hc with rfl|rfl
   ·exact ahz _
   ·exact afE _
  exact aF.k9 hle (aF.aX.fresh hle)
 cases b
 ·obtain ⟨its,bg,p,_⟩:=aF.list hX
  obtain ⟨o,n,e,_⟩:=id p
  exact IC p.isList fun h' jr iX _ hk=>fin h' jr iX hk (afH e)
 ·obtain ⟨its,bg,p,_⟩:=aF.tuple hX
  obtain ⟨o,e,_⟩:=id p
  exact IB (show s1.heap.IsTuple a its.toArray from p) fun h' jr iX _ hk=>fin h' jr iX hk (afH e)
end
variable {K:ajA}{σ:St}{H:ah}
theorem YL (b:Bool){X:aO}{elts:ajE}{kk:Nat}{oV:Pos}{ai:Expr}{aC:cP}{p pos:Pos}(hg:eF X "enumerate")(hm:X.mg "enumerate"=none)(ha:gP X [ai] aC)(he:starEach [ai] X.env=(false,eval ai X.env)::starEach [] X.env:=by rfl)(hpl:(backTo pos (starEach [] X.env)).any (·.1)=false:=by rfl) :
  jh X (.Tuple elts kk oV) (.Call (.Name "enumerate" p) [ai] [] pos) (Mh b X.K aC):=⟨Z2 b hg hm ha.o he hpl⟩
theorem g2 {i j:Nat}{T:Addr}{x y:V}{Q:St->ah->Prop}(h:Q ((σ.set i (some x)).set j (some y)) (upd H T (.tup [x,y]))):u5 K 2 (uX (kL i) (uX (kL j) xQ)) (.ref T) σ (upd H T (.tup [x,y])) Q:=
 ⟨T,[x,y],rfl,bp.of bo,rfl,x,[y],rfl,y,[],rfl,rfl,h⟩
theorem Ze {b:Bool}{a:Addr}{xs:List V}{g:dX}{aY:cT}{D:Ends}(Pv:Nat->St->ah->Prop)(h0:Pv 0 σ H)(hl:∀i σ H,i<=xs.length->Pv i σ H->ig b K H a xs)
  (hs:∀i x T σ H,xs[i]?=some x->H T=none->Pv i σ H->g (.ref T) σ (upd H T (.tup [.int (i:Int),x])) fun bZ ag=>aY {D with nx:=Pv (i+1),cq:=Pv (i+1),d8:=D.nx} bZ ag)(hd:∀σ H,Pv xs.length σ H->D.nx σ H) :
  ∃W:Nat->Nat->St->ah->Prop,(∃m,W 0 m σ H)/\∀i m σ H,W i m σ H->
   ((m3 b K a).stop i H/\D.nx σ H)\/((m3 b K a).go i H/\∃N:St->ah->Prop,(∀aE J,N aE J->∃cW,cW<m/\W (i+1) cW aE J)/\∀x J,(m3 b K a).kB i H x J->g x σ J fun bZ ag=>aY {D with nx:=N,cq:=N,d8:=D.nx} bZ ag):=by
 refine ⟨fun i m σ H=>m=xs.length-i/\i<=xs.length/\Pv i σ H,⟨xs.length,by simp,afY _,h0⟩,?_⟩
 rintro i m σ H ⟨rfl,hi,p⟩
 have aL:=hl i σ H hi p
 by_cases dj:i<xs.length
 ·refine .inr ⟨⟨xs,xs[i],aL,by simp[dj]⟩,Pv (i+1),fun aE J dy=>⟨xs.length-(i+1),by lia,rfl,dj,dy⟩,fun v J y=>?_⟩
  obtain ⟨T,x,rfl,cG,rfl,y1⟩:=y
  exact hs i x T σ _ (y1 xs aL) cG p
 ·have e:i=xs.length:=by lia
  subst e
  exact .inl ⟨⟨xs,aL,rfl⟩,hd σ H p⟩
end L2
namespace c5
section
variable {prog:Program}{w:World}{A:Around}{E:ajv}{s:Shared}
theorem QT {t bR:Addr}{items:Array Value}{fT fU:Value}{lo hi:Option Int}{Q:ajv}(aH:IsTup s.heap t items)(hs:s.heap.IsSliceOf bR fT fU .none)(bX:IsPart fT lo)(pu:IsPart fU hi)
  (hw:cg items.size 0 lo=0/\cg items.size items.size hi=items.size)(h:Q (.ref t) s):wpAny (model prog w) A (getItem (.ref t) (.ref bR)) Q E s:=by
 obtain ⟨os,lS,vQ,s8⟩:=id hs
 have ze:s.TypeIs (.ref bR) "slice":=⟨os,lS,vQ⟩
 unfold getItem;try with_reducible refine agB ?_
 first|refine afB (afF ?_)|skip
 refine afB (wpAny_sequenceKey aH.typeIs (by decide) ?_);refine afB (ahp (name:=Str.ofString "__getitem__") aH.typeIs ahq (agQ ahq aH.typeIs entry_tuple_getitem ?_ (args_tuple_getitem _ _)))
 show wpAny _ _ (Builtin.Tuple.tupleItemsOf (.ref t) >>= _) _ _ s;refine afB (tupleItemsOf_ aH ?_)
 refine afB (wpAny_typeOf ze ?_);rw[afD (by decide)]
 refine afB (Iz hs bX pu ?_)
 have RT:(((cg items.size 0 lo:Nat):Int) == 0&&(1:Int) == 1&&(cg items.size items.size hi-cg items.size 0 lo) == items.size)=true:=by rw[hw.1,hw.2];simp
 show wpAny _ _ (if (((cg items.size 0 lo:Nat):Int) == 0&&(1:Int) == 1&&(cg items.size items.size hi-cg items.size 0 lo) == items.size)=true then _ else _) _ _ s
 rw[afD RT]
 unfold Builtin.Tuple.tupleIsExact
 refine afB (afB (wpAny_typeOf aH.typeIs (afF ?_)))
 rw[afD (by decide)]
 refine afB (ahj ?_)
 exact afF ⟨_,rfl,afF h⟩
theorem S_:fillsNumberSlot (.type "tuple") "mul"=pure false:=PySem.fillsNumberSlot_seq (id:="tuple.__mul__") (r:=some (.builtin "tuple.__rmul__")) ahT.lookup (by decide +kernel) F.slot_tuple_rmul.lookup (by decide +kernel)
theorem UY:seqRepeat? (.type "tuple")=pure (some (.builtin "tuple.__mul__")):=by
 unfold seqRepeat?;rw[PySem.seqSlot_of (T:="tuple") (name:="__mul__") (id:="tuple.__mul__") ahT.lookup (by decide +kernel),PySem.seqSlot_of (T:="tuple") (name:="__rmul__") (id:="tuple.__rmul__") F.slot_tuple_rmul.lookup (by decide +kernel)];rfl
theorem RY (a:Int)(t:Tok)(l:Addr)(items:Array Value)(n:Nat)(dd:ajF)(bR:ajB) :
  Meets (Builtin.«int.__rmul__» ⟨[.int a t,.ref l],[]⟩) (fun _ R s=>s.heap.get? l=some {cls:=.type "tuple",dict:=dd,data:=.seq items n,slots:=bR}/\R (.ok (.ret Value.notImplemented)) s):=
 .of_wp fun prog w A R s h=>by obtain ⟨hp,g,d,tk,os⟩:=s;obtain ⟨hl,h⟩:=h;wp_walk;exact ⟨_,rfl,h⟩
theorem Wl (l:Addr)(items:Array Value)(n:Nat)(dd:ajF)(bR:ajB)(k:Int)(u:Tok)(h1:(decide (k < -(2^63)) || decide (k>=2^63))=false)(hk:(items.isEmpty || k == 1)=true) :
  Meets (Builtin.«tuple.__mul__» ⟨[.ref l,.int k u],[]⟩) (fun _ R s=>s.heap.get? l=some {cls:=.type "tuple",dict:=dd,data:=.seq items n,slots:=bR}/\R (.ok (.ret (.ref l))) s):=
 .of_wp fun prog w A R s h=>by obtain ⟨hp,g,d,tk,os⟩:=s;obtain ⟨hl,h⟩:=h;have f1:=ai2;have f2:=ai3;wp_walk using wpAny_loadPart' hl;refine aip (afJ (by rw[h1];exact afT)) ?_;wp_walk using wpAny_loadPart' hl;exact ⟨_,rfl,h⟩
theorem Wk (l:Addr)(items:Array Value)(n:Nat)(dd:ajF)(bR:ajB)(k:Int)(u:Tok)(h1:(decide (k < -(2^63)) || decide (k>=2^63))=false)(hk:(items.isEmpty || k == 1)=false)(s_:(decide (k<=0) || items.isEmpty)=true) :
  Meets (Builtin.«tuple.__mul__» ⟨[.ref l,.int k u],[]⟩) (fun _ R s=>s.heap.get? l=some {cls:=.type "tuple",dict:=dd,data:=.seq items n,slots:=bR}/\R (.ok (.ret (.ref s.heap.objs.size))) {s with heap:=s.heap.push {cls:=.type "tuple",data:=.seq #[]}}):=
 .of_wp fun prog w A R s h=>by obtain ⟨hp,g,d,tk,os⟩:=s;obtain ⟨hl,h⟩:=h;have f1:=ai2;have f2:=ai3;wp_walk using wpAny_loadPart' hl;refine aip (afJ (by rw[h1];exact afT)) ?_;wp_walk using wpAny_loadPart' hl;exact ⟨_,rfl,h⟩
theorem Wm (l:Addr)(items:Array Value)(n:Nat)(dd:ajF)(bR:ajB)(k:Int)(u:Tok)(h1:(decide (k < -(2^63)) || decide (k>=2^63))=false)(hk:(items.isEmpty || k == 1)=false)(s_:(decide (k<=0) || items.isEmpty)=false)(Rq:¬((items.size:Int)*k>(2^63-1)/8))(Gy:Builtin.Tuple.tupleTooMany ((items.size:Int)*k)=false)
  (aZ:(List.foldl (fun fC kA=>fC++kA) #[] (List.replicate k.toNat items)).size<=sizeLine) :
  Meets (Builtin.«tuple.__mul__» ⟨[.ref l,.int k u],[]⟩) (fun _ R s=>s.heap.get? l=some {cls:=.type "tuple",dict:=dd,data:=.seq items n,slots:=bR}/\R (.ok (.ret (.ref s.heap.objs.size))) {s with heap:=s.heap.push {cls:=.type "tuple",data:=.seq (List.foldl (fun fC kA=>fC++kA) #[] (List.replicate k.toNat items))}}):=
 .of_wp fun prog w A R s h=>by obtain ⟨hp,g,d,tk,os⟩:=s;obtain ⟨hl,h⟩:=h;have f1:=ai2;have f2:=ai3;wp_walk using wpAny_loadPart' hl;refine aip (afJ (by rw[h1];exact afT)) ?_;wp_walk using wpAny_loadPart' hl;refine aip (afJ Rq) ?_;wp_walk using wpAny_loadPart' hl;exact ⟨_,rfl,h⟩
end
end c5
namespace L2
section
variable {X:aO}
variable {st:Stmt}{t:cT}{e:Expr}
def xM (K:ajA):V->Option Int->Option Int->ah->bW->Prop:=fun x lo hi H Q=>∃a xs,x=.ref a/\bp K H a xs/\∀p J,bb H J->bp K J p (gO xs lo hi)->Q (.ref p) J
theorem Xu {xs:List V}{lo hi:Option Int}(h:c5.cg xs.length 0 lo=0/\c5.cg xs.length xs.length hi=xs.length):gO xs lo hi=xs:=by
 unfold gO;rw[h.1,h.2];simp
theorem zev:pA X (xM X.K):=by
 intro pins s σ H x v fT fU lo hi bR Q I aB hs bX pu h
 obtain ⟨a,xs,rfl,hx,q⟩:=h
 by_cases hw:c5.cg xs.length 0 lo=0/\c5.cg xs.length xs.length hi=xs.length
 ·cases aB
  obtain ⟨its,r,aH,aZ⟩:=I.tuple hx
  have hlen:its.toArray.size=xs.length:=by rw[afN];exact r.length.symm
  refine ⟨"tuple",_,ahq.lookup,aH.typeIs,?_⟩
  refine c5.QT aH hs bX pu (by rw[hlen];exact hw) ?_
  exact ⟨.ref a,H,I,rfl,q a H (bb.refl _) (by rw[Xu hw];exact hx)⟩
 ·exact abL pins s σ H _ v fT fU lo hi bR Q I aB hs bX pu ⟨a,xs,rfl,hx,hw,fun p hp=>q p _ (bY hp _) (bp.of bo)⟩
def uT (K:ajA):dV:=fun x y H Q=>∃a b xs ys,x=.ref a/\y=.ref b/\bp K H a xs/\bp K H b ys/\xs.length+ys.length<=sizeLine/\∀p J,bb H J->bp K J p (xs++ys)->Q (.ref p) J
theorem Km:dh X (binaryOp .Add) (uT X.K):=by
 intro pins s σ H x y v u Q I aB aJ h
 obtain ⟨a,b,xs,ys,rfl,rfl,ha,hb,aZ,q⟩:=h
 by_cases hx:xs=[]
 ·cases aB
  cases aJ
  obtain ⟨its,au,dG,_⟩:=I.tuple ha
  obtain ⟨ip,bt,b8,_⟩:=I.tuple hb
  obtain ⟨⟨cls,dd,data,bR⟩,ho,hc,n,hd⟩:=id dG
  obtain ⟨⟨Fj,ov,data2,oP⟩,js,gD,a_,hd2⟩:=id b8
  simp only at hc hd gD hd2
  subst hc hd gD hd2
  have ed:its.toArray.isEmpty=true:=by rw[au.oF.mpr hx];rfl
  exact concat_meets ⟨_,ho,rfl⟩ ⟨_,js,rfl⟩ ah_ aia aib ahn (aho _ _) (tuple_addW0 a b its.toArray ip.toArray n a_ dd ov bR oP ed) ⟨ho,js,⟨.ref b,H,I,rfl,q b H (bb.refl _) (by rw[hx,agZ];exact hb)⟩⟩
 ·exact aae pins s σ H _ _ v u Q I aB aJ ⟨a,b,xs,ys,rfl,rfl,ha,hb,hx,aZ,fun e=>q a H (bb.refl _) (by rw[e,agc];exact ha),fun _ p hp=>q p _ (bY hp _) (bp.of bo)⟩
def DS (K:ajA):dV:=fun x y H Q=>∃a k xs,x=.ref a/\y=.int k/\bp K H a xs/\-(2^62)<=k/\k<2^62/\xs.length*k.toNat<=100000/\∀p J,bb H J->bp K J p (List.replicate k.toNat xs).flatten->Q (.ref p) J
theorem Kl:dh X (binaryOp .Mult) (DS X.K):=by
 intro pins s σ H x y v u Q I aB aJ h
 obtain ⟨a,k,xs,rfl,rfl,ha,k1,k2,aZ,q⟩:=h
 cases aB
 obtain ⟨t,rfl⟩:=aJ
 obtain ⟨its,au,dG,_⟩:=I.tuple ha
 obtain ⟨⟨cls,dd,data,bR⟩,ho,hc,n,hd⟩:=id dG
 simp only at hc hd
 subst hc hd
 have hl:=au.length
 have cU:(decide (k < -(2^63)) || decide (k>=2^63))=false:=by
  rw[Bool.or_eq_false_iff];exact ⟨afJ ⋯,afJ ⋯⟩
 refine ajp (T:="tuple") (U:="int") (by decide) ⟨_,ho,rfl⟩ (fun ar=>agS ar k t) c5.S_ F.fills_int_mul aid c5.UY F.slot_int_index.lookup
  (agF aid (agS s k t) F.entry_int_rmul (F.args_int_rmul_2 _ _) (c5.RY k t a its.toArray n dd bR) ⟨ho,rfl,⟨_,ho,rfl⟩,?_⟩)
 by_cases dJ:(its.toArray.isEmpty || k == 1)=true
 ·refine agF ahT ⟨_,ho,rfl⟩ ai4 (ai5 _ _) (c5.Wl a its.toArray n dd bR k t cU dJ) ⟨ho,?_⟩
  refine ⟨.ref a,H,I,rfl,q a H (bb.refl _) ?_⟩
  rw[ag3]at dJ
  rcases dJ with c|c
  ·have e:its=[]:=by simpa using c
   have ex:xs=[]:=au.oF.mp e
   rw[ex]at ha ⊢
   have:(List.replicate k.toNat ([]:List V)).flatten=[]:=by simp
   rw[this];exact ha
  ·have e:k=1:=by simpa using c
   rw[e];simpa using ha
 ·have vt:(its.toArray.isEmpty || k == 1)=false:=by simpa using dJ
  by_cases cB:(decide (k<=0) || its.toArray.isEmpty)=true
  ·refine agF ahT ⟨_,ho,rfl⟩ ai4 (ai5 _ _) (c5.Wk a its.toArray n dd bR k t cU vt cB) ⟨ho,?_⟩
   have s_:k<=0:=by
    rw[ag3]at cB
    rcases cB with c|c
    ·exact afS c
    ·rw[c]at vt;simp at vt
   have e:(List.replicate k.toNat xs).flatten=[]:=by rw[show k.toNat=0 by lia];rfl
   rw[e]at q
   exact ⟨.ref s.heap.objs.size,_,I.laid (t':=s.toks) (o:=.tup []) (fun b b2 q=>afL _ q) (afE _) ⟨afY _,[],.nil,ag7 _ _⟩,rfl,q _ _ (bY (I.aX.fresh (afE _)) _) (bp.of bo)⟩
  ·have yo:(decide (k<=0) || its.toArray.isEmpty)=false:=by simpa using cB
   have s_:0<k:=by
    rw[Bool.or_eq_false_iff]at yo
    have:=ai6 yo.1;lia
   have q7:(its.toArray.size:Int)*k=((xs.length*k.toNat:Nat):Int):=by rw[afN,<-hl];push_cast;rw[show ((k.toNat:Nat):Int)=k by lia]
   have F7:List.foldl (fun fC kA=>fC++kA) #[] (List.replicate k.toNat its.toArray)=(List.replicate k.toNat its).flatten.toArray:=by
    have:=Cy its k.toNat []
    rw[agZ]at this
    exact this
   have dE:(List.replicate k.toNat its).flatten.length<=sizeLine:=by rw[Dd,<-hl,afW,Nat.mul_comm];lia
   refine agF ahT ⟨_,ho,rfl⟩ ai4 (ai5 _ _) (c5.Wm a its.toArray n dd bR k t cU vt yo (by rw[q7];lia) (by rw[q7];unfold Builtin.Tuple.tupleTooMany;rw[afW];exact afJ ⋯) (by rw[F7,afN];exact dE)) ⟨ho,?_⟩
   rw[F7]
   exact ⟨.ref s.heap.objs.size,_,I.laid (t':=s.toks) (o:=.tup (List.replicate k.toNat xs).flatten) (fun b b2 q=>afL _ q) (afE _) ⟨by rw[Dd,Nat.mul_comm,afW];lia,_,au.rep k.toNat,ag7 _ _⟩,rfl,q _ _ (bY (I.aX.fresh (afE _)) _) (bp.of bo)⟩
def LY (t:cT):cT:=fun D σ H=>∃N:St->ah->Prop,t {D with nx:=N} σ H/\∀aE J,N aE J->D.nx aE J
theorem ab5 (h:hC X st t):hC X st (LY t):=by
 intro pins s σ H D I ⟨N,aH,hN⟩
 refine bk (h pins s σ H _ I aH) fun f ar q=>?_
 cases f with
 | next=>obtain ⟨aE,J,ia,n⟩:=q;exact ⟨aE,J,ia,hN _ _ n⟩
 | brk=>exact q
 | cont=>exact q
 | ret u=>exact q
def LZ (t:TE):TE:=fun σ H Q=>∃N:bW,t σ H N/\∀v J,N v J->Q v J
theorem acp {t:TE}(h:bN X e t):bN X e (LZ t):=by
 intro pins s σ H Q I ⟨N,aH,hN⟩
 exact bk (h pins s σ H _ I aH) fun u ar ⟨v,J,ia,r,n⟩=>⟨v,J,ia,r,hN _ _ n⟩
theorem C7 (h:gy X st t):gy X st (LY t):=⟨ab5 h.o⟩
theorem ZO {t:TE}(h:bI X e t):bI X e (LZ t):=⟨acp h.o⟩
end
end L2
namespace L2
def qN (K:ajA)(mg:ajy)(x:Str)(ns:ajH):Prop:=∃a,mg x=some (.ref a)/\∀H,bp K H a (ns.map V.int)
theorem qN.mk {K:ajA}{mg:ajy}{x:Str}{ns:ajH}{a:Addr}{d:ajF}{bR:ajB}{its:Array Value}{n:Nat}(m:mg x=some (.ref a))(l:K.lookup a=some ⟨.type "tuple",d,.seq its n,bR⟩)(aZ:its.size<=sizeLine)(r:Vals (ns.map V.int) its.toList):qN K mg x ns:=
 ⟨a,m,fun _=>.inr ⟨_,its,n,l,rfl,rfl,aZ,r⟩⟩
section
variable {K:ajA}{H J:ah}
variable {b:Bool}{a:Addr}{xs:List V}
theorem ig.same (h:ig b K H a xs)(e:bb H J):ig b K J a xs:=by
 cases b
 ·exact e.seq h
 ·exact e.hh h
theorem ig.or (h:ig b K H a xs):bP K H a xs\/bp K H a xs:=by
 cases b
 ·exact .inl h
 ·exact .inr h
theorem bE.at:∀{aa:List V}{ds:ajz}{i:Nat}{v:V},bE K H aa ds->aa[i]?=some v->∃d,ds[i]?=some d/\aS K H v d
 | _,_,i,_,.nil,h=>by simp at h
 | _,_,0,_,.cons h _,e=>by cases e;exact ⟨_,rfl,h⟩
 | _,_,i+1,_,.cons _ t,e=>by
  obtain ⟨d,q,r⟩:=bE.at t (i:=i) e
  exact ⟨d,q,r⟩
theorem bE.share {aa:List V}{rs:List Rat}{i:Nat}{v:V}(h:bE K H aa (rs.map bj))(e:aa[i]?=some v):i<rs.length/\aS K H v (bj (rs.getD i 0)):=by
 obtain ⟨d,q,r⟩:=h.at e
 rw[af1]at q
 cases hi:rs[i]? with
 | none=>rw[hi]at q;cases q
 | some x=>
  rw[hi]at q
  cases q
  have:=(agf.mp hi).1
  rw[afO,hi]
  exact ⟨this,r⟩
theorem aS.HI {p:Addr}{c:Int}(e:H p=some (.tup [.int c,.int 1])):aS K H (.ref p) (bj (c:Rat)):=aS.oO e (by simp) (by simp)
theorem aS.con {c d:Int}{q:Rat}(h:∀H,bp K H a ([c,d].map V.int))(h1:c=q.num)(h2:d=(q.den:Int))(H:ah):aS K H (.ref a) (bj q):=by
 subst h1 h2
 exact aS.HJ (h H)
theorem bE.rep {v:V}{d:PyData}(h:aS K H v d):∀n:Nat,bE K H (List.replicate n v) (List.replicate n d)
 | 0=>.nil
 | n+1=>.cons h (bE.rep h n)
end
theorem bH.int {m:Nat}{c:Int}(h:cb m c)(hm:0<m):bH m (c:Rat):=⟨by simpa using h,by
 show (((c:Rat).den:Nat):Int).natAbs<2^m
 simp
 lia⟩
theorem bH.zero:bH 1 (0:Rat):=⟨by decide,by decide⟩
def gN (n:Nat)(rs:List Rat):Nat->Rat
 | 0=>0
 | k+1=>gN n rs k+(((ch n k:Nat):Int):Rat)*rs.getD k 0
def qC (rs:List Rat):Rat:=gN (rs.length+1) rs rs.length*Rat.divInt (-1) ((rs.length:Int)+1)
theorem Eh {α:Type}(x:α):∀k:Nat,(List.replicate k [x]).flatten=List.replicate k x
 | 0=>rfl
 | k+1=>by rw[agE,aha,Eh x k];rfl
theorem LD (xs:List V)(k:Nat):gO xs none (some (k:Int))=xs.take k:=by
 unfold gO
 rw[c5.wi,c5.wj,ahP,ahx,<-List.take_take]
 simp
theorem Dc {α β:Type}(f:α->β)(x:α)(k:Nat):(List.replicate k x).map f=List.replicate k (f x):=by simp
def nh (x:Rat):Bool:=Nat.blt x.num.natAbs (2^1000)&&Nat.blt x.den (2^1000)
theorem DI {x:Rat}(h:nh x=true):bH 1000 x:=by
 unfold nh at h
 rw[afM]at h
 have h1:x.num.natAbs<2^1000:=by have:=h.1;rw[Nat.blt_eq]at this;exact this
 have h2:x.den<2^1000:=by have:=h.2;rw[Nat.blt_eq]at this;exact this
 exact ⟨h1,by show ((x.den:Nat):Int).natAbs<_;rw[ahM];exact h2⟩
def ly (n:Nat):List Rat->Nat->Nat->Rat->Bool×Rat
 | [],_,_,acc=>(nh acc,acc)
 | r::rs,k,c,acc=>let q:=ly n rs (k+1) (c*(n-k)/(k+1)) (acc+((c:Int):Rat)*r);(nh acc&&q.1,q.2)
def lz:Nat->Bool×List Rat
 | 0=>(true,[1])
 | k+1=>let p:=lz k;let q:=ly (p.2.length+1) p.2 0 1 0;let x:=q.2*Rat.divInt (-1) ((p.2.length:Int)+1);(p.1&&q.1&&nh x,p.2++[x])
def c9:Nat->List Rat
 | 0=>[1]
 | k+1=>c9 k++[qC (c9 k)]
theorem nQ:∀k,(c9 k).length=k+1
 | 0=>rfl
 | k+1=>by show (c9 k++[_]).length=_;rw[afZ,nQ k];rfl
theorem aaB {n k:Nat}:ch n k*(n-k)/(k+1)=ch n (k+1):=by
 by_cases h:k<n
 ·have e:=uE n k
  have:ch n k*(n-k)=ch n (k+1)*(k+1):=by
   rw[Nat.mul_sub];lia
  rw[this,aiY _ ⋯]
 ·rw[show n-k=0 by lia,Nat.mul_zero,Nat.zero_div,qz n (k+1) ⋯]
theorem JD (n:Nat)(rs:List Rat):∀(m k:Nat),k+m=rs.length->(ly n (rs.drop k) k (ch n k) (gN n rs k)).2=gN n rs rs.length/\
  ((ly n (rs.drop k) k (ch n k) (gN n rs k)).1=true->∀j,k<=j->j<=rs.length->bH 1000 (gN n rs j))
 | 0,k,h=>by
  have hk:k=rs.length:=by lia
  subst hk
  rw[ahc]
  refine ⟨rfl,fun hb j h1 h2=>?_⟩
  have:j=rs.length:=by lia
  subst this
  exact DI hb
 | m+1, k, h => by
  have hk:k<rs.length:=by lia
  obtain ⟨tl,dP⟩:=JD n rs m (k+1) ⋯
  have e:rs.drop k=rs[k]::rs.drop (k+1):=agJ hk
  have g:rs.getD k 0=rs[k]:=by rw[afO,afQ hk];rfl
  rw[e]
  have step:ly n (rs[k]::rs.drop (k+1)) k (ch n k) (gN n rs k)=(nh (gN n rs k)&&(ly n (rs.drop (k+1)) (k+1) (ch n (k+1)) (gN n rs (k+1))).1,(ly n (rs.drop (k+1)) (k+1) (ch n (k+1)) (gN n rs (k+1))).2):=by
   show (_,_)=_
   rw[aaB]
   have:gN n rs (k+1)=gN n rs k+(((ch n k:Nat):Int):Rat)*rs[k]:=by rw[<-g];rfl
   rw[this]
  rw[step]
  refine ⟨tl,fun hb j h1 h2=>?_⟩
  have rd:(nh (gN n rs k)&&(ly n (rs.drop (k+1)) (k+1) (ch n (k+1)) (gN n rs (k+1))).1)=true:=hb
  rw[afM]at rd
  by_cases hj:j=k
  ·subst hj;exact DI rd.1
  ·exact dP rd.2 j ⋯ h2
theorem I6 (n:Nat)(rs:List Rat):(ly n rs 0 1 0).2=gN n rs rs.length/\((ly n rs 0 1 0).1=true->∀j,j<=rs.length->bH 1000 (gN n rs j)):=by
 have:=JD n rs rs.length 0 ⋯
 rw[ahP,l8]at this
 exact ⟨this.1,fun h j hj=>this.2 h j (afY _) hj⟩
theorem rU:∀k,(lz k).2=c9 k/\((lz k).1=true->(∀r∈c9 k,bH 1000 r)/\∀i,i<k->∀j,j<=(c9 i).length->bH 1000 (gN ((c9 i).length+1) (c9 i) j))
 | 0 => ⟨rfl, fun _ => ⟨fun r hr => by
   have:r=1:=by simpa [c9] using hr
   subst this;exact ⟨by decide,by decide⟩,fun i hi=>by lia⟩⟩
 | k+1 => by
  obtain ⟨tl,dP⟩:=rU k
  have e:lz (k+1)=((lz k).1&&(ly ((c9 k).length+1) (c9 k) 0 1 0).1&&nh (qC (c9 k)),c9 k++[qC (c9 k)]):=by
   show (_,_)=_
   rw[tl,(I6 _ _).1]
   rfl
  rw[e]
  refine ⟨rfl,fun hb=>?_⟩
  have rd:((lz k).1&&(ly ((c9 k).length+1) (c9 k) 0 1 0).1&&nh (qC (c9 k)))=true:=hb
  rw[afM,afM]at rd
  obtain ⟨⟨cU,c6⟩,vp⟩:=rd
  obtain ⟨R1,tp⟩:=dP cU
  refine ⟨fun r hr=>?_,fun i hi j hj=>?_⟩
  ·rcases agn.mp hr with h|h
   ·exact R1 r h
   ·rw[af2.mp h];exact DI vp
  ·by_cases h:i=k
   ·subst h;exact (I6 _ _).2 c6 j hj
   ·exact tp i ⋯ j hj
def aeb (rs:List Rat):Bool:=(List.range 19).all fun j=>decide (rs.getD (2*j+3) 1=0)
set_option maxRecDepth 1000000 in
theorem ZH:((lz 40).1&&aeb (lz 40).2)=true:=by decide +kernel
def u9 (lo c:Int)(n:Nat):gZ:=⟨fun i _=>i<n,fun i H x J=>J=H/\x=.int (lo+i*c),fun i _=>n<=i⟩
theorem W7 {P:Program}{w:World}{K:ajA}{bx:Expr}(it:Addr)(lo c:Int)(n:Nat):Turn P w K bx (u9 lo c n) [it] it (fun i h=>IsRangeIter h it (lo+(i:Nat)*c) ((n:Int)-(i:Nat)) c) where
 mem:=by simp
 obj:=fun i h st b hb=>by
  have e:b=it:=by simpa using hb
  subst e;exact ⟨_,st,fun v z=>by have dO:Data.fields _=Data.cell v:=z;cases dO⟩
 keep:=fun i h h' st k=>k it (by simp) _ st
 item:=by
  intro X et hw bL hc i pins s σ H E I hf st hg
  subst et hw bL
  obtain ⟨f0,f1,f2,d3,f4,eB⟩:=hf it (by simp)
  have W:=Walks.range (prog:=X.prog) (w:=X.w) (I.ok.hd hc) it lo c n
  refine W.item i s _ _ hg st fun v h' tk hv i5 kk=>?_
  obtain ⟨t,rfl⟩:=hv
  have aF:Inv X pins σ H {s with heap:=h',toks:=tk}:=I.turned (fun b o hb e=>kk b o (by simpa using hb) e) f0 f1 d3 f4 eB
  exact ⟨_,rfl,uW (s:={s with heap:=h',toks:=tk}) (n:="range_iterator") i5 rfl rfl (by decide) ⟨.int (lo+i*c),H,aF,⟨t,rfl⟩,⟨rfl,rfl⟩,i5,fun b hb=>(hf b hb).1⟩⟩
 done:=by
  intro X et hw bL hc i pins s σ H E I hf st hg
  subst et hw bL
  obtain ⟨f0,f1,f2,d3,f4,eB⟩:=hf it (by simp)
  exact wpAny_pyNext_range_end (I.ok.hd hc) st (by have:n<=i:=hg;lia) fun h' f5=>⟨rfl,I.turned (t':=s.toks) (fun b o hb e=>f5 b o hb e) f0 f1 d3 f4 eB⟩
 self:=fun _ _ _ _ _ st h=>wpAny_pyIter_rangeiter st h
theorem Jv {i j c:Int}(hc:c≠0)(h1:-1000000<=i)(h2:i<=1000000)(aQ:-1000000<=j)(bS:j<=1000000):0<=Builtin.Range.rangeSize i j c/\Builtin.Range.rangeSize i j c<=2000001:=by
 unfold Builtin.Range.rangeSize
 have key:∀d e:Int,0<e->0<=d->d<=2000000->0<=d/e/\d/e<=2000000:=fun d e he h0 h1=>⟨Int.ediv_nonneg h0 ⋯,Int.le_trans (Int.ediv_le_self _ h0) h1⟩
 split
 ·split
  ·have:=key (j-i-1) c ⋯ ⋯ ⋯;lia
  ·lia
 ·split
  ·have:=key (i-j-1) (-c) ⋯ ⋯ ⋯;lia
  ·lia
theorem abH {i j c:Int}(hc:c≠0)(dJ:-1000<=c)(cB:c<=1000)(h1:-1000000<=i)(h2:i<=1000000)(aQ:-1000000<=j)(bS:j<=1000000):Builtin.Range.small i j c=true:=by
 have:=Jv hc h1 h2 aQ bS
 unfold Builtin.Range.small
 simp only[Builtin.Range.rangeFitsLong,afM,ag3,agU,agC]
 generalize Builtin.Range.rangeSize i j c=n at this
 refine ⟨⟨⟨⟨⟨by lia,by lia⟩,by lia,by lia⟩,by lia,by lia⟩,by lia,by lia⟩,.inr ?_⟩
 split
 ·rw[afM];exact ⟨afI ⋯,afI ⋯⟩
 ·rw[afM];exact ⟨afI ⋯,afI ⋯⟩
def Mg (aC:cP):TI:=fun σ H R=>aC σ H fun aa H1=>∃i j c:Int,aa=[.int i,.int j,.int c]/\c≠0/\(-1000<=c/\c<=1000)/\(-1000000<=i/\i<=1000000/\-1000000<=j/\j<=1000000)/\R (u9 i c (Builtin.Range.rangeSize i j c).toNat) H1
section
variable {X:aO}{bx:Expr}
theorem XR {a b d:Expr}{aC:cP}{p pos:Pos}(hg:eF X "range")(hm:X.mg "range"=none)(ha:hB X [a,b,d] aC)(hs:starEach [a,b,d] X.env=(false,eval a X.env)::starEach [b,d] X.env:=by rfl)(hpl:(backTo pos (starEach [b,d] X.env)).any (·.1)=false:=by rfl) :
  hR X bx (.Call (.Name "range" p) [a,b,d] [] pos) (Mg aC):=by
 intro pins s σ H R I h
 refine agP (mS I hg hm JX ?_ (by decide) (by decide))
 refine agW (bk (ha pos pins s σ H _ I h) fun us s1 ⟨aa,H1,aF,au,aL⟩=>?_) hs hpl
 obtain ⟨i,j,c,rfl,hc,⟨dJ,cB⟩,⟨aL,bU,df,jz⟩,q⟩:=aL
 cases au with
 | cons r gF =>
  cases gF with
  | cons bJ gF =>
   cases gF with
   | cons UR gF =>
    cases gF
    obtain ⟨t,rfl⟩:=r
    obtain ⟨t',rfl⟩:=bJ
    obtain ⟨t4,rfl⟩:=UR
    refine call_range_3 hc ?_ (.inl (aiK ⋯))
    refine aiJ (ah9 ..) (abH hc dJ cB aL bU df jz) ?_
    have a3:Inv X pins σ H1 {s1 with heap:=s1.heap.push {cls:=.type "range",data:=.fields #[.int i t,.int j t',.int c t4]},toks:=s1.toks}:=aF.kept fun b o e=>afL _ e
    refine ⟨(s1.heap.push {cls:=.type "range",data:=.fields #[.int i t,.int j t',.int c t4]}).objs.size,[(s1.heap.push {cls:=.type "range",data:=.fields #[.int i t,.int j t',.int c t4]}).objs.size],_,_,H1,rfl,a3.kept (t':=s1.toks) fun b o e=>afL _ e,W7 _ i c (Builtin.Range.rangeSize i j c).toNat,?_,fun b hb=>?_,q⟩
    ·have ai:i+((0:Nat):Int)*c=i:=by simp
     have az:(((Builtin.Range.rangeSize i j c).toNat:Nat):Int)-((0:Nat):Int)=Builtin.Range.rangeSize i j c:=by have:=Jv hc aL bU df jz;lia
     show IsRangeIter _ _ (i+((0:Nat):Int)*c) ((((Builtin.Range.rangeSize i j c).toNat:Nat):Int)-((0:Nat):Int)) c
     rw[ai,az]
     exact af3 _ rfl
    ·have e:b=(s1.heap.push {cls:=.type "range",data:=.fields #[.int i t,.int j t',.int c t4]}).objs.size:=by simpa using hb
     subst e
     exact a3.k9 (afE _) (a3.aX.fresh (afE _))
theorem Xk {a b d:Expr}{aC:cP}{p pos:Pos}(hg:eF X "range")(hm:X.mg "range"=none)(ha:gP X [a,b,d] aC)(hs:starEach [a,b,d] X.env=(false,eval a X.env)::starEach [b,d] X.env:=by rfl)(hpl:(backTo pos (starEach [b,d] X.env)).any (·.1)=false:=by rfl) :
  jh X bx (.Call (.Name "range" p) [a,b,d] [] pos) (Mg aC):=⟨XR hg hm ha.o hs hpl⟩
end
variable {rs:List Rat}
theorem Xs {lo c:Int}{n:Nat}{g:dX}{aY:cT}{D:Ends}{σ:St}{H:ah}(Pv:Nat->St->ah->Prop)(h0:Pv 0 σ H)
  (hs:∀i σ H,i<n->Pv i σ H->g (.int (lo+i*c)) σ H fun bZ ag=>aY {D with nx:=Pv (i+1),cq:=Pv (i+1),d8:=D.nx} bZ ag)(hd:∀σ H,Pv n σ H->D.nx σ H) :
  ∃W:Nat->Nat->St->ah->Prop,(∃m,W 0 m σ H)/\∀i m σ H,W i m σ H->
   ((u9 lo c n).stop i H/\D.nx σ H)\/((u9 lo c n).go i H/\∃N:St->ah->Prop,(∀aE J,N aE J->∃cW,cW<m/\W (i+1) cW aE J)/\∀x J,(u9 lo c n).kB i H x J->g x σ J fun bZ ag=>aY {D with nx:=N,cq:=N,d8:=D.nx} bZ ag):=by
 refine ⟨fun i m σ H=>m=n-i/\i<=n/\Pv i σ H,⟨n,by simp,afY _,h0⟩,?_⟩
 rintro i m σ H ⟨rfl,hi,p⟩
 by_cases dj:i<n
 ·refine .inr ⟨dj,Pv (i+1),fun aE J dy=>⟨n-(i+1),by lia,rfl,dj,dy⟩,fun x J y=>?_⟩
  obtain ⟨rfl,rfl⟩:=y
  exact hs i σ _ dj p
 ·have e:i=n:=by lia
  subst e
  exact .inl ⟨afE _,hd σ H p⟩
theorem uq:∀{k m j:Nat},k<=m->j<=k->(c9 m).getD j 0=(c9 k).getD j 0
 | k,0,j,h,hj=>by rw[show k=0 by lia]
 | k, m+1, j, h, hj => by
  by_cases e:k=m+1
  ·rw[e]
  ·rw[<-uq (k:=k) (m:=m) ⋯ hj]
   show (c9 m++[_]).getD j 0=_
   rw[afO,afO,ajn (by rw[nQ];lia)]
theorem Jw:(lz 40).1=true:=by have:=ZH;rw[afM]at this;exact this.1
theorem Zc {j:Nat}(h:j<rs.length):rs.getD j 0∈rs:=by
 rw[afO,afQ h];exact ag1 _
theorem Y3 {r:Rat}(h:r∈rs):∃j,j<rs.length/\rs.getD j 0=r:=by
 obtain ⟨j,hj,e⟩:=List.mem_iff_getElem.mp h
 exact ⟨j,hj,by rw[afO,afQ hj];exact e⟩
theorem xx {k:Nat}(h:k<=40):∀r∈c9 k,bH 1000 r:=fun r hr=>by
 obtain ⟨j,hj,e⟩:=Y3 hr
 rw[nQ]at hj
 rw[<-uq h ⋯]at e
 rw[<-e]
 exact ((rU 40).2 Jw).1 _ (Zc (by rw[nQ];lia))
theorem adl {i:Nat}(h:i<40):∀j,j<=(c9 i).length->bH 1000 (gN ((c9 i).length+1) (c9 i) j):=((rU 40).2 Jw).2 i h
section
variable {fe:Type}[DecidableEq fe]
variable {p:fe×V}{r kvs:List (fe×V)}{k:fe}{aa:List (fe×Value)}{y:V}{u:Value}
def iE (kvs:List (fe×V))(k:fe):Option V:=(kvs.find? fun dk=>decide (dk.1=k)).map (·.2)
def ht (kvs:List (fe×V))(k:fe)(v:V):List (fe×V):=
 if (kvs.any fun dk=>decide (dk.1=k))=true then kvs.map (fun dk=>if dk.1=k then (dk.1,v) else dk) else kvs++[(k,v)]
theorem Cz (e:p.1=k):iE (p::r) k=some p.2:=by simp[iE,ahB,e]
theorem CA (e:¬p.1=k):iE (p::r) k=iE r k:=by simp[iE,ahB,e]
theorem Jr (k:fe):∀kvs:List (fe×V),(kvs.any fun dk=>decide (dk.1=k))=(iE kvs k).isSome
 | []=>rfl
 | p::r=>by
  rw[agY]
  by_cases e:p.1=k
  ·simp only[Cz e,afI e,Bool.true_or,Option.isSome_some]
  ·rw[CA e,afJ e,Bool.false_or];exact Jr k r
theorem Cj (kvs:List (fe×V))(k:fe)(v:V):(ht kvs k v).length<=kvs.length+1:=by
 unfold ht
 split
 ·rw[afG];lia
 ·rw[afZ,afX,List.length_nil];lia
theorem gS.RZ {o:Option V}{u:Option Value}(r:gS o u):o.isSome=u.isSome:=by
 cases o with
 | none=>cases u with
  | none=>rfl
  | some _=>exact (show False from r).elim
 | some _=>cases u with
  | none=>exact (show False from r).elim
  | some _=>rfl
theorem e5.val (r:e5 kvs aa)(k:fe):gS (iE kvs k) (valueAt aa k):=by
 unfold e5 at r
 induction r with
 | nil=>exact True.intro
 | @cons p q av dg h t bl =>
  obtain ⟨h1,h2⟩:=h
  by_cases e:p.1=k
  ·have aU:q.1=k:=h1.symm.trans e
   have b:valueAt (q::dg) k=some q.2:=by simp[valueAt,ahB,aU]
   rw[Cz e,b];exact h2
  ·have aU:¬q.1=k:=fun z=>e (h1.trans z)
   have b:valueAt (q::dg) k=valueAt dg k:=by simp[valueAt,ahB,aU]
   rw[CA e,b];exact bl
theorem e5.any {kvs:List (fe×V)}{aa:List (fe×Value)}(r:e5 kvs aa)(k:fe):(kvs.any fun dk=>decide (dk.1=k))=aa.any fun dk=>decide (dk.1=k):=by
 unfold e5 at r
 induction r with
 | nil=>rfl
 | cons h t bl=>rw[agY,agY,bl,h.1]
theorem e5.As (r:e5 kvs aa)(k:fe)(aJ:RelV y u) :
  e5 (kvs.map fun dk=>if dk.1=k then (dk.1,y) else dk) (aa.map fun dk=>if dk.1=k then (dk.1,u) else dk):=by
 unfold e5 at r ⊢
 induction r with
 | nil=>exact .nil
 | @cons p q av dg h t bl=>
  rw[af8,af8]
  refine .cons ?_ bl
  obtain ⟨h1,h2⟩:=h
  by_cases e:p.1=k
  ·rw[afD e,afD (h1.symm.trans e)];exact ⟨h1,aJ⟩
  ·rw[afC e,afC (fun z=>e (h1.trans z))];exact ⟨h1,h2⟩
theorem e5.put (r:e5 kvs aa)(k:fe)(aJ:RelV y u):e5 (ht kvs k y) (stored aa k u):=by
 unfold ht stored
 rw[r.any k]
 by_cases e:(aa.any fun dk=>decide (dk.1=k))=true
 ·rw[afD e,afD e];exact r.As k aJ
 ·rw[afC e,afC e];exact Paired.snoc r ⟨rfl,aJ⟩
theorem e5.length {kvs:List (fe×V)}{aa:List (fe×Value)}(r:e5 kvs aa):kvs.length=aa.length:=Paired.length r
end
variable {u:Value}{H:ah}{kvs:List (List Key×V)}{xs:List (List Key×Addr×Value)}{y:V}
theorem xC {P:Program}{w:World}{k:Key}(r:RelV (cQ k) u):(iy P w).is k u=true:=by
 cases k with
 | inl i=>obtain ⟨t,e⟩:=(show ∃t,u=Value.int i t from r);subst e;exact W9 P w i t
 | inr x=>obtain ⟨t,e⟩:=(show ∃t,u=Value.str x t from r);subst e;exact W8 P w x t
theorem Ja {P:Program}{w:World}:∀{fw:List Key}{us:ajC},Vals (fw.map cQ) us->ItemsAre (iy P w) fw us
 | [],_,r=>by rw[agt]at r;cases r;exact .nil
 | k::fw,_,r=>by
  rw[af8]at r
  cases r with
  | cons h t=>exact .cons (xC h) (Ja t)
abbrev KT (H:ah):List (List Key×V)->List (List Key×Addr×Value)->Prop:=Paired fun p q=>p.1=q.1/\H q.2.1=some (.tup (p.1.map cQ))/\RelV p.2 q.2.2
theorem KT.val (r:KT H kvs xs)(k:List Key):gS (iE kvs k) ((atKey xs k).map (·.2)):=by
 induction r with
 | nil=>exact True.intro
 | @cons p q av dg h t bl =>
  obtain ⟨h1,_,h2⟩:=h
  by_cases e:p.1=k
  ·have aU:q.1=k:=h1.symm.trans e
   have b:atKey (q::dg) k=some q.2:=by simp[atKey,ahB,aU]
   rw[Cz e,b];exact h2
  ·have aU:¬q.1=k:=fun z=>e (h1.trans z)
   have b:atKey (q::dg) k=atKey dg k:=by simp[atKey,ahB,aU]
   rw[CA e,b];exact bl
theorem KT.As (r:KT H kvs xs)(k:List Key)(aJ:RelV y u) :
  KT H (kvs.map fun dk=>if dk.1=k then (dk.1,y) else dk) (xs.map (putAt k u)):=by
 induction r with
 | nil=>exact .nil
 | @cons p q av dg h t bl=>
  rw[af8,af8]
  refine .cons ?_ bl
  obtain ⟨h1,h2,aQ⟩:=h
  unfold putAt
  by_cases e:p.1=k
  ·rw[afD e,afD (h1.symm.trans e)];exact ⟨h1,h2,aJ⟩
  ·rw[afC e,afC (fun z=>e (h1.trans z))];exact ⟨h1,h2,aQ⟩
theorem KT.put (r:KT H kvs xs)(k:List Key){b:Addr}(hb:H b=some (.tup (k.map cQ)))(aJ:RelV y u) :
  KT H (ht kvs k y) (storedH xs k b u):=by
 have e:(kvs.any fun dk=>decide (dk.1=k))=(atKey xs k).isSome:=by
  rw[Jr,(r.val k).RZ,Option.isSome_map]
 unfold ht storedH
 rw[e]
 by_cases q:(atKey xs k).isSome=true
 ·rw[afD q,afD q];exact r.As k aJ
 ·rw[afC q,afC q];exact Paired.snoc r ⟨rfl,hb,aJ⟩
theorem KT.keeps {J:ah}(r:KT H kvs xs)(aH:∀b ys,H b=some (.tup ys)->J b=some (.tup ys)):KT J kvs xs:=
 Paired.zV r fun _ _ z=>⟨z.1,aH _ _ z.2.1,z.2.2⟩
section
variable {P:Program}{w:World}{H:ah}{h:Heap}{a:Addr}
variable {kvs:List (List Key×V)}
theorem L6 {u:dT}(ok:ep P w H h)(e:gR H a u):c_ P w H h a u:=e.ok ok
theorem D2 {kvs:List (Key×V)}(ok:ep P w H h)(e:gR H a (.cE kvs)):kvs.length<=sizeLine/\(a == sysModules)=false/\∃aa,e5 kvs aa/\h.DictOf (iy P w) a aa:=
 show c_ P w H h a (.cE kvs) from L6 ok e
theorem Mr {kvs:List (Key×V)}(ok:ep P w H h)(e:H a=some (.cE kvs)):kvs.length<=sizeLine/\(a == sysModules)=false/\∃aa,e5 kvs aa/\h.DictOf (iy P w) a aa:=D2 ok (.inl e)
theorem DD {fw:List Key}(ok:ep P w H h)(e:H a=some (.tup (fw.map cQ))):(tupleKind (iy P w)).is h fw a:=by
 obtain ⟨_,its,r,o,h1,h2,n,aQ⟩:=(show c_ P w H h a (.tup (fw.map cQ)) from ok a _ e)
 exact ⟨o,its.toArray,n,h1,h2,aQ,by simpa using Ja r⟩
theorem D1 (ok:ep P w H h)(e:gR H a (.fK kvs)):kvs.length<=sizeLine/\(a == sysModules)=false/\
  ∃xs,KT H kvs xs/\h.DictOfH (tupleKind (iy P w)) a xs:=by
 obtain ⟨z,y,xs,r,o,aA,cV,h1,h2,aQ,bS,c1⟩:=(show c_ P w H h a (.fK kvs) from L6 ok e)
 refine ⟨z,y,xs,r,o,aA,cV,h1,h2,aQ,bS,fun x hx=>?_,c1⟩
 have all:∀{l:List (List Key×V)}{m:List (List Key×Addr×Value)},KT H l m->∀x∈m,(tupleKind (iy P w)).is h x.1 x.2.1:=by
  intro l m q
  induction q with
  | nil=>intro x hx;exact nomatch hx
  | @cons p q av dg aM t bl =>
   intro x hx
   rcases afP.mp hx with e|hx
   ·subst e
    exact DD ok (by rw[<-aM.1];exact aM.2.1)
   ·exact bl x hx
 exact all r x hx
theorem adS (ok:ep P w H h)(e:H a=some (.fK kvs)):kvs.length<=sizeLine/\(a == sysModules)=false/\
  ∃xs,KT H kvs xs/\h.DictOfH (tupleKind (iy P w)) a xs:=D1 ok (.inl e)
end
def pn (H:ah)(a:Addr)(y:V)(r:Option V):Prop:=
 (∃kvs k,gR H a (.cE kvs)/\y=cQ k/\r=iE kvs k)\/∃kvs k b,gR H a (.fK kvs)/\y=.ref b/\H b=some (.tup (k.map cQ))/\r=iE kvs k
def qO (H:ah)(a:Addr)(y v:V)(J:ah):Prop:=
 (∃kvs k,H a=some (.cE kvs)/\y=cQ k/\kvs.length<sizeLine/\J=upd H a (.cE (ht kvs k v)))\/
 ∃kvs k b,H a=some (.fK kvs)/\y=.ref b/\H b=some (.tup (k.map cQ))/\kvs.length<sizeLine/\J=upd H a (.fK (ht kvs k v))
theorem pn.k {H:ah}{a:Addr}{kvs:List (Key×V)}{k:Key}(e:H a=some (.cE kvs)):pn H a (cQ k) (iE kvs k):=.inl ⟨kvs,k,.inl e,rfl,rfl⟩
theorem qO.k {H:ah}{a:Addr}{kvs:List (Key×V)}{k:Key}{v:V}(e:H a=some (.cE kvs))(hl:kvs.length<sizeLine):qO H a (cQ k) v (upd H a (.cE (ht kvs k v))):=.inl ⟨kvs,k,e,rfl,hl,rfl⟩
section
variable {X:aO}{pins:ajx}{σ:St}{H:ah}{s:Shared}{a:Addr}{y v:V}{u r:Value}{o:Option V}{A:Around}{E:ajv}
variable {h':Heap}{J:ah}
theorem Inv.big (I:Inv X pins σ H s):sysModules<s.heap.objs.size:=by
 have h:mainGlobals<s.heap.objs.size:=(I.mod.glob.keeps I.d8).lt
 exact Nat.lt_trans (by decide) h
theorem Ye {Q:ajv}(hu:A.units+1<cLine)(I:Inv X pins σ H s)(g:pn H a y (some v))(aJ:RelV y u)(h:∀dn ar,Inv X pins σ H ar->RelV v dn->Q dn ar) :
  wpAny (model X.prog X.w) A (getItem (.ref a) u) Q E s:=by
 rcases g with ⟨kvs,k,e,mr,l⟩|⟨kvs,k,b,e,mr,f5,l⟩
 ·subst mr
  obtain ⟨z,hd,aa,rel,dd⟩:=D2 I.aX e
  obtain ⟨dn,hw,hW⟩:=gS.some_of (v:=v) (o:=valueAt aa k) (by rw[l];exact rel.val k)
  exact wpAny_getItem_of (xC aJ) dd.mapOf hw (h dn _ (I.tok _) hW)
 ·subst mr
  cases (show u=Value.ref b from aJ)
  obtain ⟨z,hd,xs,rel,dd⟩:=D1 I.aX e
  obtain ⟨dn,hw,hW⟩:=gS.some_of (v:=v) (o:=(atKey xs k).map (·.2)) (by rw[l];exact rel.val k)
  obtain ⟨p,hp,eK⟩:=ahd.mp hw
  refine wpAny_getItem_heap (tupleKind_room_in1 hu) (DD I.aX f5) dd hp ?_
  rw[eK]
  exact h dn _ (I.tok _) hW
theorem Dh {t':Nat}{b2:dT}(I:Inv X pins σ H s)(iq:sr (H a))(hs:Heap.SameBut a s.heap h')(he:∃q,h'.get? a=some q)(new:c_ X.prog X.w (upd H a b2) h' a b2) :
  Inv X pins σ (upd H a b2) {s with heap:=h',toks:=t'}:=
 I.write (x:=a) (e:=a) iq (.inl rfl) (fun b q hb z=>(hs.2 b hb).trans z) he new
theorem LB {P:Program}{w:World}{kvs:List (Key×V)}{aa:List (Key×Value)}(z:kvs.length<=sizeLine)(hd:(a == sysModules)=false)(rel:e5 kvs aa)(dd:h'.DictOf (iy P w) a aa) :
  c_ P w J h' a (.cE kvs):=⟨z,hd,aa,rel,dd⟩
theorem Yd {Q:ajw}(hu:A.units+1<cLine)(I:Inv X pins σ H s)(g:qO H a y v J)(aJ:RelV y u)(bg:RelV v r)(h:∀ar,Inv X pins σ J ar->Q () ar) :
  wpAny (model X.prog X.w) A (setItem (.ref a) u r) Q E s:=by
 rcases g with ⟨kvs,k,e,mr,l,sN⟩|⟨kvs,k,b,e,mr,f5,l,sN⟩
 ·subst mr sN
  obtain ⟨z,hd,aa,rel,dd⟩:=Mr I.aX e
  have aZ:aa.length<=sizeLine:=by rw[<-rel.length];exact z
  have hl:(ht kvs k v).length<=sizeLine:=by have:=Cj kvs k v;lia
  refine wpAny_setItem_pairs (hsz:=aZ) (xC aJ) dd fun h' pH hs=>h _ ?_
  have he:∃q,h'.get? a=some q:=let ⟨q,_,_,aM,_⟩:=pH;⟨q,aM⟩
  exact Dh I (by rw[e];exact True.intro) hs he (LB hl hd (rel.put k bg) pH)
 ·subst mr sN
  cases (show u=Value.ref b from aJ)
  obtain ⟨z,hd,xs,rel,dd⟩:=adS I.aX e
  have aZ:xs.length<=sizeLine:=by rw[<-Paired.length rel];exact z
  have hl:(ht kvs k v).length<=sizeLine:=by have:=Cj kvs k v;lia
  refine wpAny_setItem_heap (hsz:=aZ) (tupleKind_room_in1 hu) (DD I.aX f5) dd fun h' pH hs=>h _ ?_
  obtain ⟨q,aA,cV,aM,h2,aQ,bS,_,c1⟩:=pH
  refine Dh I (by rw[e];exact True.intro) hs ⟨q,aM⟩ ⟨hl,hd,_,(rel.put k f5 bg).keeps fun c ys lN=>?_,q,aA,cV,aM,h2,aQ,bS,c1⟩
  rw[br (adH lN e (fun z=>nomatch z))]
  exact lN
end
def Ew (i:Expr):Prop:=∀gE g8,subscripted i false gE g8=operate [gE,g8] (getItem gE g8)
theorem Zz {prog:Program}{w:World}{A:Around}{E:ajv}{s:Shared}{env:Env}{value slice:Expr}{pos:Pos}{T id:String}{Q:ajv}
  (hl:typeLookup (.type T) "__getitem__"=pure (some (.builtin id)))(hs:Ew slice)
  (h:wpAny (model prog w) A (eval value env) (fun o cz=>wpAny (model prog w) A (eval slice env) (fun i hZ=>hZ.TypeIs o T/\wpAny (model prog w) A (getItem o i) Q E hZ) E cz) E s) :
  wpAny (model prog w) A (eval (.Subscript value slice pos) env) Q E s:=by
 refine aic (afV h (fun o cz gT=>afV gT (fun i hZ nv=>?_) fun _ _ x=>x) fun _ _ x=>x)
 obtain ⟨cG,nv⟩:=nv
 unfold subscriptTail
 refine afB ?_
 rw[getitemInPython_of_ne cG.not_modules]
 refine afB (aiq cG hl ?_)
 have fin:wpAny (model prog w) A (subscripted slice false o i) (fun r fQ=>wpAny (model prog w) A (letTemporaryGo value o r >>= fun _=>pure r) Q E fQ) E hZ:=by
  rw[hs o i]
  exact wpAny_operating (afV nv (fun r fQ mx=>afB (wpAny_letTemporaryGo (afF mx))) fun _ _ x=>x)
 first
  |exact afF (afB fin)
  |exact afB (afF (afB fin))
  |exact afB fin
theorem Xa {X:aO}{pins:ajx}{σ:St}{H:ah}{s:Shared}{a:Addr}{y:V}{o:Option V}(I:Inv X pins σ H s)(g:pn H a y o):s.TypeIs (.ref a) "dict":=by
 rcases g with ⟨kvs,k,e,_,_⟩|⟨kvs,k,b,e,_,_,_⟩
 ·obtain ⟨_,_,aa,_,dd⟩:=D2 I.aX e
  exact dd.typeIs
 ·obtain ⟨_,_,xs,_,dd⟩:=D1 I.aX e
  exact dd.typeIs
def LX (kv ty:TE):TE:=fun σ H Q=>kv σ H fun x H1=>ty σ H1 fun y ag=>∃a v,x=.ref a/\pn ag a y (some v)/\Q v ag
def L5 (kv ty gV:TE):cT:=fun D σ H=>gV σ H fun v H1=>kv σ H1 fun x ag=>ty σ ag fun y b3=>∃a bK,x=.ref a/\qO b3 a y v bK/\D.nx σ bK
section
variable {X:aO}{o i e value:Expr}{pos pos' oV:Pos}{kv ty gV:TE}
theorem Z8 (hu:X.A.units+1<cLine)(ho:bN X o kv)(hi:bN X i ty)(hs:Ew i):bN X (.Subscript o i pos) (LX kv ty):=by
 intro pins s σ H Q I h
 refine Zz PySem.F.slot_dict_getitem.lookup hs (bk (ho pins s σ H _ I h) fun u s1 ⟨x,H1,aF,aB,aL⟩=>bk (hi pins s1 σ H1 _ aF aL) fun g8 s2 hz=>?_)
 obtain ⟨y,ag,a3,aJ,a,v,ex,g,bU⟩:=hz
 subst ex
 obtain rfl:u=Value.ref a:=aB
 exact ⟨Xa a3 g,Ye hu a3 g aJ fun dn s3 dD hW=>⟨v,ag,dD,hW,bU⟩⟩
theorem ZX (hu:X.A.units+1<cLine)(ho:bN X o kv)(hi:bN X i ty)(hv:bN X value gV)(hs:swapsWith value (some (.Subscript o i pos')) pos.line X.env=pure false) :
  hC X (.Assign [.Subscript o i pos'] value pos) (L5 kv ty gV):=by
 intro pins s σ H D I h
 refine wpAny_Assign_Subscript (bk (hv pins s σ H _ I h) fun r s1 ⟨v,H1,aF,bg,aL⟩=>bk (ho pins s1 σ H1 _ aF aL) fun u s2 ⟨x,ag,a3,aB,bU⟩=>bk (hi pins s2 σ ag _ a3 bU) fun g8 s3 ⟨y,b3,dD,aJ,a,bK,ex,g,df⟩=>?_) hs
 subst ex
 obtain rfl:u=Value.ref a:=aB
 exact Yd hu dD g aJ bg fun s4 iL=>⟨σ,bK,iL,df⟩
end
theorem JP {P:Program}{w:World}{H:ah}(h:Heap)(hb:sysModules<h.objs.size):c_ P w H (h.push {cls:=.type "dict",data:=.dict #[]}) h.objs.size (.cE []):=
 ⟨afY _,agV.mpr (af_ (af4 hb)),[],.nil,Heap.DictOf.new h⟩
def Ds:TE:=fun _ H Q=>∀p,H p=none->Q (.ref p) (upd H p (.cE []))
section
variable {X:aO}{pos:Pos}
theorem YW:bN X (.Dict [] [] pos) Ds:=fun pins s σ H Q I h=>
 wpAny_Dict_empty ⟨.ref s.heap.objs.size,_,I.laid (a:=s.heap.objs.size) (o:=.cE []) (t':=s.toks) (fun _ _ q=>afL _ q) (afE _) (JP s.heap I.big),rfl,h _ (I.aX.fresh (afE _))⟩
end
variable {X:aO}{pos:Pos}{ky:List (TE×TE)}
def Dq:List (TE×TE)->St->ah->(List (V×V)->ah->Prop)->Prop
 | [],_,H,Q=>Q [] H
 | (tk,gV)::r,σ,H,Q=>tk σ H fun x H1=>gV σ H1 fun y ag=>Dq r σ ag fun av b3=>Q ((x,y)::av) b3
abbrev EM:List (V×V)->List (Value×Value)->Prop:=Paired fun p q=>RelV p.1 q.1/\RelV p.2 q.2
def oe (X:aO)(pos:Pos)(keys:List (Option Expr))(values:ajE)(ky:List (TE×TE)):Prop:=
 ∀(pins:ajx)(s:Shared)(σ:St)(H:ah)(Q:List (V×V)->ah->Prop),Inv X pins σ H s->Dq ky σ H Q->
  wpAny (model X.prog X.w) X.A (evalPairs (pairTrees keys values X.env pos)) (fun aa ar=>∃av J,Inv X pins σ J ar/\EM av aa/\Q av J) X.ct s
theorem ZZ :oe X pos [] [] []:=fun pins s σ H Q I h=>pairTrees_nil_walk ⟨[],H,I,.nil,h⟩
theorem YR {k v:Expr}{fw:List (Option Expr)}{aa:ajE}{tk gV:TE}(hk:bN X k tk)(hv:bN X v gV)(hr:oe X pos fw aa ky) :
  oe X pos (some k::fw) (v::aa) ((tk,gV)::ky):=fun pins s σ H Q I h=>
 pairTrees_cons_walk (bk (hk pins s σ H _ I h) fun u s1 ⟨x,H1,aF,aB,aL⟩=>bk (hv pins s1 σ H1 _ aF aL) fun jI s2 ⟨y,ag,a3,aJ,bU⟩=>
  bk (hr pins s2 σ ag _ a3 bU) fun ws s3 ⟨av,b3,dD,rel,df⟩=>⟨(x,y)::av,b3,dD,.cons ⟨aB,aJ⟩ rel,df⟩)
def uM (kvs more:List (Key×V)):List (Key×V):=more.foldl (fun acc dk=>ht acc dk.1 dk.2) kvs
theorem e5.merge:∀{more:List (Key×V)}{rs:List (Key×Value)}{kvs:List (Key×V)}{aa:List (Key×Value)},e5 more rs->e5 kvs aa->e5 (uM kvs more) (merged aa rs):=by
 intro more rs kvs aa r
 unfold e5 at r
 induction r generalizing kvs aa with
 | nil=>intro q;exact q
 | @cons p q av dg h t bl =>
  intro gq
  have e:e5 (ht kvs p.1 p.2) (stored aa q.1 q.2):=by
   have:=gq.put p.1 h.2
   rw[<-h.1];exact this
  exact bl e
theorem IA:∀(more kvs:List (Key×V)),(uM kvs more).length<=kvs.length+more.length
 | [],kvs=>by show kvs.length<=kvs.length+0;lia
 | p::r,kvs=>by
  have h1:=IA r (ht kvs p.1 p.2)
  have h2:=Cj kvs p.1 p.2
  show (uM (ht kvs p.1 p.2) r).length<=_
  rw[afX];lia
theorem IU {P:Program}{w:World}:∀{kvs:List (Key×V)}{ws:List (Value×Value)},EM (kvs.map fun dk=>(cQ dk.1,dk.2)) ws->∃rs,Carries (iy P w) ws rs/\e5 kvs rs
 | [],_,r=>by rw[agt]at r;cases r;exact ⟨[],True.intro,.nil⟩
 | p :: kvs, _, r => by
  rw[af8]at r
  cases r with
  | @cons a b as bs h t=>
   obtain ⟨rs,c,q⟩:=IU (P:=P) (w:=w) t
   obtain ⟨cU,c6⟩:=b
   exact ⟨(p.1,c6)::rs,⟨xC h.1,rfl,c⟩,.cons ⟨rfl,h.2⟩ q⟩
def DP (ky:List (TE×TE)):TE:=fun σ H Q=>∀p,H p=none->Dq ky σ (upd H p (.cE [])) fun av ag=>ag p=some (.cE [])/\∃kvs:List (Key×V),av=kvs.map (fun dk=>(cQ dk.1,dk.2))/\kvs.length<=15/\Q (.ref p) (upd ag p (.cE (uM [] kvs)))
theorem Z7 {keys:List (Option Expr)}{values:ajE}(h:oe X pos keys values ky)(kc:keys.all (·.isSome)=true)(hl:keys.length=values.length)(h0:keys≠[])
  (y_:keys.length<=15):bN X (.Dict keys values pos) (DP ky):=by
 intro pins s σ H Q I q
 have hn:=I.aX.fresh (afE s.heap.objs.size)
 have aF:=I.laid (a:=s.heap.objs.size) (o:=.cE []) (h':=s.heap.push {cls:=.type "dict",data:=.dict #[]}) (t':=s.toks) (fun _ _ q=>afL _ q) (afE _) (JP s.heap I.big)
 refine wpAny_Dict_walk (knd:=iy X.prog X.w) kc hl h0 y_ (bk (h pins _ σ _ _ aF (q _ hn)) fun ws s2 hz=>?_)
 obtain ⟨av,ag,a3,rel,e,kvs,cV,lk,bU⟩:=hz
 subst cV
 obtain ⟨rs,c,fy⟩:=IU (P:=X.prog) (w:=X.w) rel
 obtain ⟨z,hd,afu,gq,dd⟩:=Mr a3.aX e
 cases gq
 refine ⟨rs,c,dd,fun h' pH hs=>⟨.ref s.heap.objs.size,_,?_,rfl,bU⟩⟩
 have aZ:(uM [] kvs).length<=sizeLine:=by
  have h1:=IA kvs []
  rw[List.length_nil]at h1
  rw[afW];lia
 have he:∃q,h'.get? s.heap.objs.size=some q:=let ⟨q,_,_,aM,_⟩:=pH;⟨q,aM⟩
 exact Dh a3 (by rw[e];exact True.intro) hs he (LB aZ hd (fy.merge .nil) pH)
section
variable {X:aO}
variable {pos:Pos}{ky:List (TE×TE)}{bx:Expr}{aC:cP}
theorem Jz :oe X pos [] [] []:=ZZ
theorem uh {k v:Expr}{fw:List (Option Expr)}{aa:ajE}{tk gV:TE}(hk:bI X k tk)(hv:bI X v gV)(hr:oe X pos fw aa ky):oe X pos (some k::fw) (v::aa) ((tk,gV)::ky):=YR hk.o hv.o hr
theorem JB {keys:List (Option Expr)}{values:ajE}(h:oe X pos keys values ky)(kc:keys.all (·.isSome)=true:=by rfl)(hl:keys.length=values.length:=by rfl)(h0:keys≠[]:=by simp)(y_:keys.length<=15:=by decide):bI X (.Dict keys values pos) (DP ky):=
 ⟨Z7 h kc hl h0 y_⟩
theorem XB {P:Program}{w:World}{K:ajA}(it:Addr)(lo:Int):Turn P w K bx (lD lo 0) [it] it (fun i h=>IsLongIter h it (lo+(i:Nat)*1) ((0:Nat)-(i:Nat)) 1) where
 mem:=by simp
 obj:=fun i h st b hb=>by
  have e:b=it:=by simpa using hb
  subst e;exact ⟨_,st,fun v z=>by have dO:Data.fields _=Data.cell v:=z;cases dO⟩
 keep:=fun i h h' st k=>k it (by simp) _ st
 item:=by
  intro X et hw bL hc i pins s σ H E I hf st hg
  exact absurd hg (ahe _)
 done:=by
  intro X et hw bL hc i pins s σ H E I hf st hg
  subst et hw bL
  obtain ⟨f0,f1,f2,d3,f4,eB⟩:=hf it (by simp)
  exact wpAny_pyNext_long_end (I.ok.hd hc) st ⋯ fun h' f5=>⟨rfl,I.turned (t':=s.toks) (fun b o hb e=>f5 b o hb e) f0 f1 d3 f4 eB⟩
 self:=fun _ _ _ _ _ st h=>wpAny_pyIter_longiter st h
def Mf (aC:cP):TI:=fun σ H R=>aC σ H fun aa H1=>∃i j:Int,aa=[.int i,.int j]/\(-(2^60)<=i/\i<2^60/\j<2^60)/\R (lD i (j-i).toNat) H1
theorem XQ {a b:Expr}{p:Pos}(hg:eF X "range")(hm:X.mg "range"=none)(ha:hB X [a,b] aC)(hs:starEach [a,b] X.env=[(false,eval a X.env),(false,eval b X.env)]:=by rfl)(hs2:starEach [b] X.env=[(false,eval b X.env)]:=by rfl) :
  hR X bx (.Call (.Name "range" p) [a,b] [] pos) (Mf aC):=by
 intro pins s σ H R I h
 refine Call_ (mS I hg hm boot_range (agW (bk (ha pos pins s σ H _ I h) fun us s1 ⟨aa,H1,aF,au,aL⟩=>?_) (by rw[hs,hs2]) (by rw[hs2];rfl)))
 obtain ⟨i,j,e,⟨aL,bU,df⟩,q⟩:=aL
 subst e
 cases au with
 | cons r gF =>
  cases gF with
  | cons bJ gF =>
   cases gF
   obtain ⟨t,rfl⟩:=r
   obtain ⟨t',rfl⟩:=bJ
   by_cases hj:-(2^62)<=j
   ·exact call_range_2 (CF aF ⋯ ⋯ hj ⋯ q)
   ·refine call_range_2 ?_
    have hsz:Builtin.Range.rangeSize i j 1=0:=by rw[rangeSize_one];split<;>lia
    have ed:(j-i).toNat=0:=by lia
    rw[ed]at q
    by_cases GG:Builtin.Range.small i j 1=true
    ·refine aiJ (ah9 ..) GG ?_
     have a3:Inv X pins σ H1 {s1 with heap:=s1.heap.push {cls:=.type "range",data:=.fields #[.int i t,.int j t',.int 1 s1.toks]},toks:=s1.toks+1}:=aF.kept fun b o e=>afL _ e
     refine ⟨_,[_],_,_,H1,rfl,a3.kept (t':=s1.toks+1) fun b o e=>afL _ e,IJ _ i 0,?_,fun b hb=>?_,q⟩
     ·show IsRangeIter _ _ (i+((0:Nat):Int)*1) (((0:Nat):Int)-((0:Nat):Int)) 1
      have ai:i+((0:Nat):Int)*1=i:=by simp
      have az:((0:Nat):Int)-((0:Nat):Int)=Builtin.Range.rangeSize i j 1:=by rw[hsz];rfl
      rw[ai,az]
      exact af3 _ rfl
     ·have e:=af2.mp hb
      subst e
      exact a3.k9 (afE _) (a3.aX.fresh (afE _))
    ·refine wpAny_pyIter_longrange (ah9 ..) (by simpa using GG) ?_
     have a3:Inv X pins σ H1 {s1 with heap:=s1.heap.push {cls:=.type "range",data:=.fields #[.int i t,.int j t',.int 1 s1.toks]},toks:=s1.toks+1}:=aF.kept fun b o e=>afL _ e
     refine ⟨_,[_],_,_,H1,rfl,a3.kept (t':=s1.toks+1) fun b o e=>afL _ e,XB _ i,?_,fun b hb=>?_,q⟩
     ·show IsLongIter _ _ (i+((0:Nat):Int)*1) (((0:Nat):Int)-((0:Nat):Int)) 1
      have ai:i+((0:Nat):Int)*1=i:=by simp
      have az:((0:Nat):Int)-((0:Nat):Int)=Builtin.Range.rangeSize i j 1:=by rw[hsz];rfl
      rw[ai,az]
      exact af3 _ rfl
     ·have e:=af2.mp hb
      subst e
      exact a3.k9 (afE _) (a3.aX.fresh (afE _))
theorem Xj {a b:Expr}{p:Pos}(hg:eF X "range")(hm:X.mg "range"=none)(ha:gP X [a,b] aC)(hs:starEach [a,b] X.env=[(false,eval a X.env),(false,eval b X.env)]:=by rfl)(hs2:starEach [b] X.env=[(false,eval b X.env)]:=by rfl) :
  jh X bx (.Call (.Name "range" p) [a,b] [] pos) (Mf aC):=⟨XQ hg hm ha.o hs hs2⟩
end
open Classical in
noncomputable def kO (z:Int):Bool:=decide (ya z)
theorem Jb {z:Int}(h:ya z):kO z=true:=by unfold kO;simp[h]
theorem Co {z:Int}(h:¬ya z):kO z=false:=by unfold kO;simp[h]
end L2
namespace L2
def mR:PyData->String
 | .none=>"NoneType"
 | .bool _=>"bool"
 | .int _=>"int"
 | .str _=>"str"
 | .list _=>"list"
 | .tuple _=>"tuple"
 | .dict _=>"dict"
theorem aS.ty {K:ajA}{H:ah}{v:V}{d:PyData}(h:aS K H v d):kV K H v (mR d):=by
 cases h with
 | bz=>exact .bz
 | aG b=>exact .aG b
 | int i=>exact .int i
 | str x=>exact .str x
 | lst h _=>exact .lst h
 | tup h _=>exact .tup h
 | e9 h _ _=>exact .cE h
 | fs h _ _=>exact .db h
def uO:PyData->Bool
 | .bool _=>true
 | .int _=>true
 | _=>false
def xc:PyData->Bool
 | .bool _=>true
 | _=>false
def qx:PyData->Bool
 | .tuple _=>true
 | _=>false
def o_:PyData->Bool
 | .list _=>true
 | _=>false
def el:PyData->Bool
 | .int _=>true
 | _=>false
section
variable {K:ajA}
theorem aal (d:PyData):PySem.W.kitOne K (.type (mR d)) (.type "int")=some (uO d):=by cases d<;>rfl
theorem Y6 (d:PyData):PySem.W.kitOne K (.type (mR d)) (.type "bool")=some (xc d):=by cases d<;>rfl
theorem aaj (d:PyData):PySem.W.kitOne K (.type (mR d)) (.type "tuple")=some (qx d):=by cases d<;>rfl
theorem aak (d:PyData):PySem.W.kitOne K (.type (mR d)) (.type "list")=some (o_ d):=by cases d<;>rfl
end
theorem acM (d:PyData):el d=(uO d&&!xc d):=by cases d<;>rfl
theorem aS.whole {K:ajA}{H:ah}{v:V}{d:PyData}(h:aS K H v d):(∃z,d=.int z/\v=.int z)\/el d=false:=by
 cases h with
 | int i=>exact .inl ⟨i,rfl,rfl⟩
 | bz=>exact .inr rfl
 | aG b=>exact .inr rfl
 | str x=>exact .inr rfl
 | lst h _=>exact .inr rfl
 | tup h _=>exact .inr rfl
 | e9 h _ _=>exact .inr rfl
 | fs h _ _=>exact .inr rfl
noncomputable def rx:PyData->Bool
 | .int z=>kO z
 | _=>false
theorem ab9 {d:PyData}(h:el d=false):rx d=false:=by cases d<;>first|rfl|cases h
noncomputable def fb:Nat->List Int
 | 0=>[]
 | i+1=>fb i++if kO (2+(i:Int)) then [2+(i:Int)] else []
theorem xa:∀i,(fb i).length<=i
 | 0=>afE _
 | i+1=>by
  have:=xa i
  show (fb i++_).length<=i+1
  rw[afZ]
  split<;>simp<;>lia
theorem w_:∀{i:Nat}{z:Int},z∈fb i->2<=z/\z<2+(i:Int)
 | 0,z,h=>by simp[fb]at h
 | i+1, z, h => by
  rcases agn.mp (show z∈fb i++_ from h) with h|h
  ·have:=w_ h;lia
  ·split at h
   ·have:=af2.mp h;lia
   ·simp at h
end L2
namespace L2
theorem Vals.rev {xs:List V}{us:ajC}(h:Vals xs us):Vals xs.reverse us.reverse:=by
 induction h with
 | nil=>exact .nil
 | cons h t bl=>rw[air,air];exact bl.append (.cons h .nil)
end L2
namespace L2
variable {D:Int}
def HG:PyData->Bool
 | .tuple [.int a,.int b]=>decide (1<=b)&&decide (Int.gcd a b=1)
 | _=>false
theorem aS.fS {K:ajA}{H:ah}{v:V}{ds:ajz}(h:aS K H v (.tuple ds)):∃a xs,v=.ref a/\bp K H a xs/\bE K H xs ds:=by
 cases h with
 | tup hs t=>exact ⟨_,_,rfl,hs,t⟩
theorem Y7 {d:PyData}(h:qx d=true):∃ds,d=.tuple ds:=by cases d<;>first|exact ⟨_,rfl⟩|cases h
theorem Zi (xs:List V)(k:Nat):gO xs (some (k:Int)) none=xs.drop k:=by
 unfold gO
 rw[c5.wi,c5.wj]
 by_cases h:k<=xs.length
 ·rw[Nat.min_eq_left h,ahy (by simp)]
 ·rw[Nat.min_eq_right ⋯,ais (afE _),ais ⋯];simp
theorem K1 (x y:Rat):PyData.eqv (bj x) (bj y)=decide (x=y):=by
 have key:PyData.eqv (bj x) (bj y)=(decide (x.num=y.num)&&decide ((x.den:Int)=(y.den:Int))):=by
  unfold bj
  simp[PyData.eqv,PyData.eqvAll]
  rfl
 rw[key]
 by_cases h:x=y
 ·subst h;simp
 ·rw[afJ h]
  by_cases h1:x.num=y.num
  ·have h2:¬(x.den:Int)=(y.den:Int):=fun e=>h (by
    refine Rat.ext h1 ?_
    exact Int.ofNat_inj.mp e)
   rw[afJ h2,ai7]
  ·rw[afJ h1,ahG]
def bX (rs:List Rat):PyData:=.tuple (rs.map bj)
theorem xg {α:Type}{xs:List α}{v:α}(h:xs[xs.length-1]?=some v):ez xs (-1)=some v:=by
 have hl:=(agf.mp h).1
 unfold ez ki
 rw[afC (by decide),afD ⋯]
 have e:(-1+(xs.length:Int)).toNat=xs.length-1:=by lia
 rw[e]
 exact h
def DC (rs:List Rat):Bool:=decide (rs=[]) || !decide (rs.getD (rs.length-1) 0=0)
theorem bE.set {K:ajA}{H:ah}:∀{aa:List V}{ds:ajz}(i:Nat){v:V}{d:PyData},bE K H aa ds->aS K H v d->bE K H (aa.set i v) (ds.set i d)
 | _,_,_,_,_,.nil,_=>.nil
 | _,_,0,_,_,.cons _ t,h=>.cons h t
 | _,_,i+1,_,_,.cons h t,k=>.cons h (bE.set i t k)
def es (D:Int)(m:Nat)(q:Rat):Prop:=∃t:Int,q=Rat.divInt t D/\cb m t
theorem es.mono {D:Int}{m n:Nat}{q:Rat}(h:es D m q)(hm:m<=n):es D n q:=by
 obtain ⟨t,e,b⟩:=h
 exact ⟨t,e,b.mono hm⟩
theorem WI (h0:D≠0)(s t:Int):Rat.divInt s D+Rat.divInt t D=Rat.divInt (s+t) D:=by
 rw[Rat.divInt_add_divInt _ _ h0 h0,<-Int.add_mul,Rat.divInt_mul_right h0]
theorem es.add {D:Int}{m:Nat}{q r:Rat}(h0:D≠0)(h:es D m q)(k:es D m r):es D (m+1) (q+r):=by
 obtain ⟨s,rfl,bs⟩:=h
 obtain ⟨t,rfl,j5⟩:=k
 exact ⟨s+t,WI h0 s t,bs.add j5⟩
theorem es.zero :es D 0 0:=⟨0,by simp,by decide⟩
theorem es.bs {m n:Nat}{q:Rat}(h0:D≠0)(h:es D m q)(bq:cb n D)(hm:m<=n):bH n q:=by
 obtain ⟨t,rfl,j5⟩:=h
 exact bH.divInt (j5.mono hm) bq h0
theorem rO {rs:List Rat}{i:Nat}(h:i<rs.length):rs.getD i 0∈rs:=by
 rw[afO,afQ h]
 exact ag1 _
def jt (x:Rat):List Rat->Rat
 | []=>0
 | a::r=>jt x r*x+a
theorem Ls {m n:Nat}{x:Rat}(hx:bH n x):∀{rs:List Rat},(∀r∈rs,bH m r)->bH (rs.length*(m+n+1)+1) (jt x rs)
 | [],_=>bH.zero.mono ⋯
 | a::r,h=>by
  have:=((Ls hx (rs:=r) fun r hr=>h r (af5 _ hr)).mul hx).add (h a (af6 ..))
  refine this.mono ?_
  simp[Nat.add_mul];lia
end L2
namespace L2
theorem c_.there {P:Program}{w:World}{H:ah}{h:Heap}{a:Addr}{o:dT}(x:c_ P w H h a o):∃u,h.get? a=some u:=by
 cases o with
 | lst xs=>obtain ⟨_,_,_,_,e⟩:=x;exact ⟨_,e⟩
 | tup xs=>obtain ⟨_,_,_,_,e,_⟩:=x;exact ⟨_,e⟩
 | cE kvs=>obtain ⟨_,_,_,_,o,_,_,e,_⟩:=x;exact ⟨_,e⟩
 | fK kvs=>obtain ⟨_,_,_,_,o,_,_,e,_⟩:=x;exact ⟨_,e⟩
 | set S n=>obtain ⟨o,_,_,_,e,_⟩:=x;exact ⟨_,e⟩
 | ins C aD aR=>obtain ⟨_,_,_,e,_⟩:=x;exact ⟨_,e⟩
 | own y=>obtain ⟨_,e⟩:=x;exact ⟨_,e⟩
 | wJ aR=>obtain ⟨_,⟨_,_,_,e,_⟩,_⟩:=x;exact ⟨_,e⟩
 | mE lo hi=>obtain ⟨_,_,_,e⟩:=x;exact ⟨_,e⟩
 | iT b2 u=>obtain ⟨e,_⟩:=x;exact ⟨_,e⟩
 | oU av=>exact ⟨_,(show h.get? a=some _ from x)⟩
 | met f y=>exact ⟨_,(show h.get? a=some _ from x)⟩
 | ext qM=>obtain ⟨_,⟨_,e⟩,_⟩:=x;exact ⟨_,e⟩
section
variable {X:aO}{pins:ajx}{σ:St}{H:ah}{s:Shared}
variable {m:ajy}
def mA:Heap:={}
theorem IQ (b:Addr):mA.get? b=none:=by
 show (match (#[]:Array Obj)[b]? with|some ⟨_,_,.freed,_⟩=>none|x=>x)=none
 simp
theorem Inv.F9 (I:Inv X pins σ H s)(hn:s.heap.Ns X.env.locals m):Fr mA X.env.locals s.heap m:=
 ⟨hn,fun b o e=>absurd ((IQ b).symm.trans e) (by simp),afY _⟩
theorem Ko {h:Heap}{L a:Addr}{o:Obj}(h1:a≠L)(aQ:h.get? a=some o):(a,o)∈nX mA h L:=W_ h1 (IQ a) aQ
theorem Inv.newList {h':Heap}{tk:Nat}{D:Addr}{xs:List V}{its:ajC}{c:Nat}(I:Inv X pins σ H s)(hn:s.heap.Ns X.env.locals m)(F:Fr mA X.env.locals h' m)
  (N:News mA X.env.locals h' ((D,PySem.W.listOf its.toArray c)::nX mA s.heap X.env.locals))(dj:∀q∈nX mA s.heap X.env.locals,q.1<D)(aZ:xs.length<=sizeLine)(r:Vals xs its) :
  H D=none/\Inv X pins σ (upd H D (.lst xs)) {s with heap:=h',toks:=tk}:=by
 have bq:=N _ (af6 ..)
 have MW:D≠X.env.locals:=bq.2.1
 have cR:∀b o,b≠X.env.locals->s.heap.get? b=some o->h'.get? b=some o:=fun b o hb e=>(N _ (af5 _ (Ko hb e))).1
 have G2:∀b o,s.heap.get? b=some o->b≠D:=fun b o e z=>by
  subst z
  exact absurd (dj _ (Ko MW e)) (agl _)
 have at_:∀b u,H b=some u->∃o,s.heap.get? b=some o:=fun b u e=>by
  by_cases hb:b=X.env.locals
  ·subst hb;rw[I.free]at e;cases e
  ·have:=(I.aX b u e)
   exact c_.there this
 have ft:H D=none:=by
  cases e:H D with
  | none=>rfl
  | some u=>
   obtain ⟨o,q⟩:=at_ D u e
   exact absurd rfl (G2 D o q)
 refine ⟨ft,?_⟩
 have up:∀b u,H b=some u->upd H D (.lst xs) b=some u:=fun b u e=>by rw[br (eN e ft)];exact e
 refine I.step (ch:=[]) (g':=s.gens) (t':=tk) (d':=s.drawn) (fun b hb=>by cases hb) (fun b o h1 _ _ e _=>cR b o h1 e) (fun b o h1 _ _ e _=>⟨o.slots,cR b o h1 e⟩) (fun b o _ e h0=>?_) (fun b o _ e=>?_)
  (fun b xs e=>up b _ e) (fun b o u e=>up b _ e) (fun b av e=>⟨#[],by rw[up b _ e,Array.append_empty]⟩) (fun cW Rx=>?_) (fun b u e=>?_) I.bare
 ·rw[br (G2 b o e)];exact h0
 ·by_cases hb:b=X.env.locals
  ·subst hb
   obtain ⟨o,aA,cV,aU,_⟩:=F.ns
   exact ⟨o,aU⟩
  ·exact ⟨o,cR b o hb e⟩
 ·rw[Rx.eq_nsMap,<-hn.eq_nsMap];exact F.ns
 ·by_cases hb:b=D
  ·subst hb
   rw[bo]at e;cases e
   exact ⟨aZ,its,c,r,bq.1⟩
  ·rw[br hb]at e
   refine (I.aX b u e).f_ (fun kX v hc q=>cR kX v (fun z=>?_) q) (fun kX q=>up kX _ q) fun kX ys q=>up kX _ q
   subst z
   have fr:=I.free
   rcases hc with hc|hc
   ·rw[hc,e]at fr;cases fr
   ·rw[fr]at hc;cases hc
end
end L2
namespace PySem.F
theorem I7:Manifest.owners.lookup (String.ofList ['d','e','s','r','e','v','e','r'].reverse)=some Manifest.sig_reversed:=by kernel_rfl
theorem tV:Slot "reversed" "__next__" "reversed.__next__":=
 .of (owner:="reversed") (n:="__next__") (by rw[ahU,ahV];kernel_rfl) (by decide +kernel) (by decide +kernel) (by decide +kernel)
  (by first|exact .inl (by decide +kernel)|exact .inr (by decide +kernel)) (by rw[ahW];kernel_rfl)
theorem FH:entryFor table "reversed.__next__"=some Builtin.«reversed.__next__»:=entryFor_of_tree (by kernel_rfl)
theorem EU (a:Value):argsOk "reversed.__next__" ⟨[a],[]⟩:=by
 unfold argsOk;rw[signature?_of (id:="reversed.__next__") (n:=['_','_','t','x','e','n','_','_']) (o:=['d','e','s','r','e','v','e','r']) (by kernel_rfl) I7];kernel_rfl
theorem HK:Slot "reversed" "__iter__" "reversed.__iter__":=
 .of (owner:="reversed") (n:="__iter__") (by rw[ahU,ahV];kernel_rfl) (by decide +kernel) (by decide +kernel) (by decide +kernel)
  (by first|exact .inl (by decide +kernel)|exact .inr (by decide +kernel)) (by rw[ahW];kernel_rfl)
theorem Nm (a:Value):argsOk "reversed.__iter__" ⟨[a],[]⟩:=by
 unfold argsOk;rw[signature?_of (id:="reversed.__iter__") (n:=['_','_','r','e','t','i','_','_']) (o:=['d','e','s','r','e','v','e','r']) (by kernel_rfl) I7];kernel_rfl
theorem Po:entryFor table "reversed.__iter__"=some Builtin.«dict_keyiterator.__iter__»:=
 entryFor_alias (id':="dict_keyiterator.__iter__") (by kernel_rfl) (by first|rfl|decide +kernel|(unfold String.splitOn;simp +decide [String.splitOnAux])) (by decide +kernel) (by kernel_rfl)
theorem WO:Slot "reversed" "__init__" "object.__init__":=
 .of (owner:="object") (n:="__init__") (by rw[ahU,ahV];kernel_rfl) (by decide +kernel) (by decide +kernel) (by decide +kernel)
  (by first|exact .inl (by decide +kernel)|exact .inr (by decide +kernel)) (by rw[ahW];kernel_rfl)
theorem N3:TypeCalled "reversed" "reversed.__new__" "object.__init__":=
 ⟨by decide +kernel,by decide +kernel,⟨_,_,mro_reversed⟩,made_reversed,by decide +kernel,by rw[ahW];kernel_rfl,WO⟩
theorem Wo:typeLookup (.type "tuple") "__reversed__"=pure none:=by rw[ahU,ahV];kernel_rfl
theorem Wn:isSubtype (.type "tuple") (.type "dict")=pure false:=by rw[ahW];kernel_rfl
end PySem.F
namespace L2
section
variable {prog:Program}{w:World}{A:Around}{E:ajv}{s:Shared}
variable {i:Int}{t:Addr}{items:Array Value}{Q:Option Value->Shared->Prop}
def xo (t:Addr)(i:Int):Obj:={cls:=.type "reversed",data:=.fields #[.ref t,rawInt i]}
def lC (h:Heap)(a t:Addr)(i:Int):Prop:=∃o,h.get? a=some o/\o.cls=.type "reversed"/\o.data=.fields #[.ref t,rawInt i]
theorem lC.typeIs {a l:Addr}(x:lC s.heap a l i):s.TypeIs (.ref a) "reversed":=let ⟨o,ho,hc,_⟩:=x;⟨o,ho,hc⟩
theorem lC.at {h h':Heap}{a l:Addr}(x:lC h a l i)(e:∀o,h.get? a=some o->h'.get? a=some o):lC h' a l i:=let ⟨o,ho,r⟩:=x;⟨o,e _ ho,r⟩
theorem X0 (t:Addr)(items:Array Value):Meets (Builtin.«reversed.__new__» ⟨[.type "reversed",.ref t],[]⟩) (fun _ R s=>IsTup s.heap t items/\¬((items.size:Int)>=2^63)/\R (.ok (.ret (.ref s.heap.objs.size))) {s with heap:=s.heap.push (xo t ((items.size:Int)-1)),toks:=s.toks+1+1}):=
 .of_wp fun prog w A R s h=>by
  obtain ⟨aH,hf,h⟩:=h
  unfold Builtin.«reversed.__new__»
  refine afB (agI (newClass_reversed _) ?_)
  try dsimp only
  refine afB (agI (a:=()) (by first|rfl|kernel_rfl) ?_)
  refine afB (agI (a:=()) (by first|rfl|kernel_rfl) ?_)
  try dsimp only
  refine afB (aiq aH.typeIs F.Wo ?_)
  try dsimp only
  refine afB ?_
  show wpAny _ _ (isInstance (.ref t) (.type "dict") >>= _) _ _ _
  refine afB (wpAny_isInstance aH.typeIs F.Wn ?_)
  show wpAny _ _ (specialOf (.ref t) "__getitem__" >>= _) _ _ _
  refine afB (aiq aH.typeIs F.slot_tuple_getitem.lookup ?_)
  refine agI (a:=true) (by first|rfl|kernel_rfl) ?_
  show wpAny _ _ (call (.builtin "len") [.ref t] >>= _) _ _ _
  refine afB (len_tuple aH ⋯ ?_)
  refine afB (m:=asInt? _) (agI (a:=some (items.size:Int)) rfl ?_)
  show wpAny _ _ (newObj (.type "reversed") (.fields #[.ref t,rawInt ((items.size:Int)-1)]) >>= _) _ _ _
  exact afB (agr (afF ⟨_,rfl,h⟩))
theorem Zk {Q:ajv}(aH:IsTup s.heap t items)(hf:¬((items.size:Int)>=2^63))
  (h:Q (.ref s.heap.objs.size) {s with heap:=s.heap.push (xo t ((items.size:Int)-1)),toks:=s.toks+1+1}):wpAny (model prog w) A (call (.type "reversed") [.ref t]) Q E s:=
 callType_new F.N3 (by decide) (F.typeCall_reversed_1 _) (F.newCall_reversed_1 _) (fun obj=>ai1 obj _) F.entry_reversed_new (X0 t items) ⟨aH,hf,⟨_,af3 _ rfl,rfl⟩,h⟩
theorem WS {it:Addr}{i:Nat}{x:Value}(hit:lC s.heap it t (i:Int))(aH:IsTup s.heap t items)(hx:items[i]?=some x)(hi:i<2^62)
  (hF:∀h',lC h' it t ((i:Int)-1)->Heap.SameBut it s.heap h'->Q (some x) {s with heap:=h',toks:=s.toks+1}):wpAny (model prog w) A (pyNext (.ref it)) Q E s:=by
 obtain ⟨o,ho,hc,hd⟩:=id hit
 have hsz:i<items.size:=by
  rcases Nat.lt_or_ge i items.size with h|h
  ·exact h
  ·rw[Array.getElem?_eq_none h]at hx;cases hx
 unfold pyNext
 refine afB (ahX (ahp (name:=Str.ofString "__next__") hit.typeIs F.tV
  (agQ F.tV hit.typeIs F.FH ?_ (F.EU _))))
 unfold Builtin.«reversed.__next__»
 refine afB (agI (a:=(Value.ref it,[])) rfl ?_)
 try dsimp only
 refine afB (agi ho hd (x:=.ref t) rfl ?_)
 refine afB (agi ho hd (x:=rawInt (i:Int)) rfl ?_)
 show wpAny _ _ (if (i:Int)<0 then _ else _) _ _ s
 rw[afC ⋯]
 show wpAny _ _ (specialOf (.ref t) "__getitem__" >>= _) _ _ _
 refine afB (aiq aH.typeIs F.slot_tuple_getitem.lookup ?_)
 show wpAny _ _ (mkInt (i:Int) >>= _) _ _ _
 refine afB (wpAny_mkInt ?_)
 refine afB (ahX (PyProof.Rows.getItem_tuple (s:={s with toks:=s.toks+1}) aH ⋯ ⋯ (j:=i) (by unfold seqIndex?;dsimp only;rw[afC (show ¬(i:Int)<0 by lia)];simp[hsz]) hx ?_))
 try dsimp only
 refine afB (agi (s:={s with toks:=s.toks+1}) ho hd (x:=rawInt (i:Int)) rfl ?_)
 refine afB (ag2 (s:={s with toks:=s.toks+1}) ho hd (by simp) ?_)
 first
 |refine afF ⟨x,rfl,afF (hF _ ?_ (ahA ..))⟩
 |refine afB (afF (afF ⟨x,rfl,afF (hF _ ?_ (ahA ..))⟩))
 exact ⟨_,ag9 _ ho (ahS (agT hd _)),(aiZ ..).trans hc,by
  rw[agT hd];simp⟩
theorem WX {it:Addr}(dZ:A.handled=none)(hit:lC s.heap it t (-1))
  (hF:∀h',Heap.ExtBut it s.heap h'->Q none {s with heap:=h'}):wpAny (model prog w) A (pyNext (.ref it)) Q E s:=by
 obtain ⟨o,ho,hc,hd⟩:=id hit
 unfold pyNext
 refine afB (ahX (ahp (name:=Str.ofString "__next__") hit.typeIs F.tV
  (agQ F.tV hit.typeIs F.FH ?_ (F.EU _))))
 unfold Builtin.«reversed.__next__»
 refine afB (agI (a:=(Value.ref it,[])) rfl ?_)
 try dsimp only
 refine afB (agi ho hd (x:=.ref t) rfl ?_)
 refine afB (agi ho hd (x:=rawInt (-1)) rfl ?_)
 show wpAny _ _ (if (-1:Int)<0 then _ else _) _ _ s
 rw[afD (by decide)]
 refine afB (ahj ?_)
 refine afB ?_
 show wpAny _ _ (setField (.ref it) 1 (rawInt (-1)) >>= _) _ _ _
 refine afB (ag2 ho hd (by simp) ?_)
 have RD:=ag9 (Obj.mapFields fun x=>x.setIfInBounds 1 (rawInt (-1))) ho (ahS (agT hd _))
 have zk:=agT hd fun x=>x.setIfInBounds 1 (rawInt (-1))
 refine ag2 (s:={s with heap:=s.heap.update it (Obj.mapFields fun x=>x.setIfInBounds 1 (rawInt (-1)))}) RD zk (by simp) ?_
 refine afB ?_
 show wpAny _ _ (newExc (.type "StopIteration") [] >>= _) _ _ _
 refine afB ?_
 simp only[newExc,newTuple]
 refine afB (agr ?_ (by size_fits))
 refine afB (m:=firstArgMember _ _) (agI (a:=Value.none) (by first|rfl|(simp only[firstArgMember];rfl)) ?_)
 refine agr ?_ (by size_fits)
 simp only[raiseNew]
 refine afB (wpAny_handled ?_)
 first|rw[show A.in1.handled=none from dZ]|rw[dZ]
 refine afB (afF (wpAny_throw ?_))
 refine afB (wpAny_isInstance (T:="StopIteration") (b:=true) ⟨_,af3 _ rfl,rfl⟩ isSubtype_stop ?_)
 exact afF (hF _ ((((ahA ..).trans (ahA ..)).extBut.push _).push _))
theorem JL {it:Addr}{Q:ajv}(hit:lC s.heap it t i)(h:Q (.ref it) s):wpAny (model prog w) A (pyIter (.ref it)) Q E s:=by
 refine wpAny_pyIter_slot hit.typeIs F.HK (agQ F.HK hit.typeIs F.Po ?_ (F.Nm _))
 show wpAny _ _ (ret (.ref it)) _ _ s
 exact afF ⟨_,rfl,"reversed",_,hit.typeIs,F.tV.lookup,h⟩
end
def u7 (K:ajA)(a:Addr)(n:Nat):gZ:=
 ⟨fun i H=>∃xs x,bp K H a xs/\xs.length=n/\i<n/\xs[n-1-i]?=some x,fun i H x J=>J=H/\∀xs,bp K H a xs->xs[n-1-i]?=some x,fun i H=>(∃xs,bp K H a xs/\xs.length=n)/\i=n⟩
theorem Ys {P:Program}{w:World}{K:ajA}{bx:Expr}(a it:Addr)(n:Nat)(hn:n<2^62):Turn P w K bx (u7 K a n) [it] it (fun i h=>lC h it a ((n:Int)-1-(i:Int))) where
 mem:=by simp
 obj:=fun i h st b hb=>by
  have e:b=it:=by simpa using hb
  subst e
  obtain ⟨o,e,c,d⟩:=st
  exact ⟨o,e,fun v z=>by rw[d]at z;cases z⟩
 keep:=fun i h h' st k=>st.at fun o e=>k it (by simp) o e
 item:=by
  intro X et hw bL hc i pins s σ H E I hf st hg
  subst et hw bL
  obtain ⟨xs,x,aM,hl,hi,hx⟩:=hg
  obtain ⟨its,bg,p,aZ⟩:=I.tuple aM
  obtain ⟨u,hu,fz⟩:=bg.get hx
  obtain ⟨f0,f1,f2,d3,f4,eB⟩:=hf it (by simp)
  have e:(n:Int)-1-(i:Int)=((n-1-i:Nat):Int):=by lia
  rw[e]at st
  refine WS st p (x:=u) (by simpa using hu) ⋯ fun h' i5 i3=>?_
  have az:((n-1-i:Nat):Int)-1=(n:Int)-1-((i+1:Nat):Int):=by lia
  rw[az]at i5
  have aF:Inv X pins σ H {s with heap:=h',toks:=s.toks+1}:=I.turned (t':=s.toks+1) (fun b o hb e=>(i3.2 b hb).trans e) f0 f1 d3 f4 eB
  obtain ⟨o,e,c,d⟩:=id i5
  exact ⟨u,rfl,uW (s:={s with heap:=h',toks:=s.toks+1}) e c d (by decide) ⟨x,H,aF,fz,⟨rfl,fun ys hy=>by rw[I.B9 hy aM];exact hx⟩,i5,fun b hb=>(hf b hb).1⟩⟩
 done:=by
  intro X et hw bL hc i pins s σ H E I hf st hg
  subst et hw bL
  obtain ⟨⟨xs,aM,hl⟩,rfl⟩:=hg
  obtain ⟨f0,f1,f2,d3,f4,eB⟩:=hf it (by simp)
  have e:(i:Int)-1-(i:Int)=-1:=by lia
  rw[e]at st
  exact WX (I.ok.hd hc) st fun h' f5=>⟨rfl,I.turned (t':=s.toks) (fun b o hb e=>f5 b o hb e) f0 f1 d3 f4 eB⟩
 self:=fun _ _ _ _ _ st h=>JL st h
theorem Xe:bootBuiltins "reversed"=some (.type "reversed"):=by decide +kernel
def MF (K:ajA)(aC:cP):TI:=fun σ H R=>aC σ H fun aa H1=>∃a xs,aa=[.ref a]/\bp K H1 a xs/\R (u7 K a xs.length) H1
section
variable {X:aO}
theorem acb {bx:Expr}{ai:Expr}{aC:cP}{p pos:Pos}(hg:eF X "reversed")(hm:X.mg "reversed"=none)(ha:hB X [ai] aC)(he:starEach [ai] X.env=(false,eval ai X.env)::starEach [] X.env:=by rfl)(hpl:(backTo pos (starEach [] X.env)).any (·.1)=false:=by rfl) :
  hR X bx (.Call (.Name "reversed" p) [ai] [] pos) (MF X.K aC):=by
 intro pins s σ H R I h
 refine agP (mS I hg hm Xe ?_ (by decide) (by decide))
 refine agW (bk (ha pos pins s σ H _ I h) fun us s1 ⟨aa,H1,aF,au,aL⟩=>?_) he hpl
 obtain ⟨a,xs,rfl,hX,q⟩:=aL
 obtain ⟨u,rfl,fz⟩:=iB au
 cases fz
 obtain ⟨its,bg,p,aZ⟩:=aF.tuple hX
 have hl:=bg.length
 have hs:sizeLine=16777216:=afW
 refine Zk p (by simp only[afN];lia) ?_
 have hit:lC (s1.heap.push (xo a ((its.toArray.size:Int)-1))) s1.heap.objs.size a ((xs.length:Int)-1-((0:Nat):Int)):=by
  refine ⟨_,af3 _ rfl,rfl,?_⟩
  rw[afN,<-hl]
  show Data.fields #[.ref a,rawInt ((xs.length:Int)-1)]=_
  rw[show (xs.length:Int)-1-((0:Nat):Int)=(xs.length:Int)-1 by lia]
 refine JL (s:={s1 with heap:=s1.heap.push (xo a ((its.toArray.size:Int)-1)),toks:=s1.toks+1+1}) hit ?_
 refine ⟨s1.heap.objs.size,[s1.heap.objs.size],_,_,H1,rfl,aF.kept (t':=s1.toks+1+1) fun b o e=>afL _ e,Ys a _ xs.length ⋯,hit,fun b hb=>?_,q⟩
 have e:b=s1.heap.objs.size:=by simpa using hb
 subst e
 exact aF.k9 (afE _) (aF.aX.fresh (afE _))
end
theorem Kg {X:aO}{bx:Expr}{ai:Expr}{aC:cP}{p pos:Pos}(hg:eF X "reversed")(hm:X.mg "reversed"=none)(ha:gP X [ai] aC)(he:starEach [ai] X.env=(false,eval ai X.env)::starEach [] X.env:=by rfl)(hpl:(backTo pos (starEach [] X.env)).any (·.1)=false:=by rfl) :
  jh X bx (.Call (.Name "reversed" p) [ai] [] pos) (MF X.K aC):=⟨acb hg hm ha.o he hpl⟩
theorem Ku {K:ajA}{a:Addr}{xs:List V}{g:dX}{aY:cT}{D:Ends}{σ:St}{H:ah}(Pv:Nat->St->ah->Prop)(h0:Pv 0 σ H)(hl:∀i σ H,i<=xs.length->Pv i σ H->bp K H a xs)
  (hs:∀i x σ H,i<xs.length->xs[xs.length-1-i]?=some x->Pv i σ H->g x σ H fun bZ ag=>aY {D with nx:=Pv (i+1),cq:=Pv (i+1),d8:=D.nx} bZ ag)(hd:∀σ H,Pv xs.length σ H->D.nx σ H) :
  ∃W:Nat->Nat->St->ah->Prop,(∃m,W 0 m σ H)/\∀i m σ H,W i m σ H->
   ((u7 K a xs.length).stop i H/\D.nx σ H)\/((u7 K a xs.length).go i H/\∃N:St->ah->Prop,(∀aE J,N aE J->∃cW,cW<m/\W (i+1) cW aE J)/\∀x J,(u7 K a xs.length).kB i H x J->g x σ J fun bZ ag=>aY {D with nx:=N,cq:=N,d8:=D.nx} bZ ag):=by
 refine ⟨fun i m σ H=>m=xs.length-i/\i<=xs.length/\Pv i σ H,⟨xs.length,by simp,afY _,h0⟩,?_⟩
 rintro i m σ H ⟨rfl,hi,p⟩
 have aM:=hl i σ H hi p
 by_cases dj:i<xs.length
 ·have hx:xs[xs.length-1-i]?=some (xs[xs.length-1-i]'⋯):=afQ ⋯
  refine .inr ⟨⟨xs,_,aM,rfl,dj,hx⟩,Pv (i+1),fun aE J dy=>⟨xs.length-(i+1),by lia,rfl,dj,dy⟩,fun v J y=>?_⟩
  obtain ⟨rfl,y1⟩:=y
  exact hs i v σ _ dj (y1 xs aM) p
 ·have e:i=xs.length:=by lia
  subst e
  exact .inl ⟨⟨⟨xs,aM,rfl⟩,rfl⟩,hd σ H p⟩
end L2
namespace L2
variable {l rs:List Rat}{n i m:Nat}{f:Nat->Rat}
def jU (rs:List Rat):List Rat:=(rs.reverse.dropWhile (fun q=>decide (q=0))).reverse
theorem Yt:jU []=[]:=rfl
theorem XD (l:List Rat):jU (l++[0])=jU l:=by
 unfold jU
 rw[List.reverse_append]
 show (List.dropWhile _ (0::l.reverse)).reverse=_
 rw[List.dropWhile_cons,afD (by decide)]
theorem J5 {x:Rat}(h:x≠0):jU (l++[x])=l++[x]:=by
 unfold jU
 rw[List.reverse_append]
 show (List.dropWhile _ (x::l.reverse)).reverse=_
 rw[List.dropWhile_cons,afC (by simpa using h)]
 simp
theorem wL {k:Nat}(h:k<rs.length):rs.take (k+1)=rs.take k++[rs.getD k 0]:=by
 rw[List.take_succ_eq_append_getElem h,afO,afQ h];rfl
def tab (n:Nat)(f:Nat->Rat):List Rat:=(List.range n).map f
theorem qp (n:Nat)(f:Nat->Rat):(tab n f).length=n:=by simp[tab]
theorem Zy (h:i<n):(tab n f).getD i 0=f i:=by
 rw[afO,tab,af1,agK h];rfl
theorem Ct {g:Nat->Rat}(h:∀i,i<n->f i=g i):tab n f=tab n g:=by
 unfold tab
 refine ag4 fun i hi=>h i (afU.mp hi)
theorem abE (rs:List Rat):tab rs.length (fun i=>rs.getD i 0)=rs:=by
 refine ai8 fun i=>?_
 by_cases h:i<rs.length
 ·rw[tab,af1,agK h,afQ h,Option.map_some,afO,afQ h];rfl
 ·rw[agL (by rw[qp];lia),agL ⋯]
theorem Zw {v:Rat}:(tab n f).set i v=tab n (fun k=>if k=i then v else f k):=by
 refine ai8 fun k=>?_
 rw[List.getElem?_set]
 by_cases hk:k<n
 ·rw[qp]
  by_cases e:i=k
  ·subst e
   rw[afD rfl,afD hk]
   rw[tab,af1,agK hk]
   simp
  ·rw[afC e,tab,tab,af1,af1,agK hk]
   simp[af_ e]
 ·by_cases e:i=k
  ·subst e
   rw[afD rfl,qp,afC hk,agL (by rw[qp];lia)]
  ·rw[afC e,agL (by rw[qp];lia),agL (by rw[qp];lia)]
theorem Zx {r:Rat}(h:r∈tab n f):∃i,i<n/\r=f i:=by
 obtain ⟨i,hi,rfl⟩:=agd.mp h
 exact ⟨i,afU.mp hi,rfl⟩
theorem mO (h:rs.length<=i):rs.getD i 0=0:=by
 rw[afO,agL h];rfl
theorem aaD (h:∀r∈rs,bH m r)(h0:0<m)(i:Nat):bH m (rs.getD i 0):=by
 by_cases hi:i<rs.length
 ·exact h _ (rO hi)
 ·rw[mO ⋯];exact bH.zero.mono h0
def er (f:Nat->Rat):Nat->Rat
 | 0=>0
 | n+1=>er f n+f n
theorem rM {f g:Nat->Rat}:∀{n:Nat},(∀i,i<n->f i=g i)->er f n=er g n
 | 0,_=>rfl
 | n+1,h=>by show er f n+f n=er g n+g n;rw[rM fun i hi=>h i ⋯,h n ⋯]
theorem IZ {f:Nat->Rat}:∀{n:Nat},(∀i,i<n->f i=0)->er f n=0
 | 0,_=>rfl
 | n+1,h=>by show er f n+f n=0;rw[IZ fun i hi=>h i ⋯,h n ⋯];grind
theorem Ck (f:Nat->Rat)(n:Nat):∀m,er f (n+m)=er f n+er (fun i=>f (n+i)) m
 | 0=>by show er f n=er f n+0;grind
 | m+1=>by
  show er f (n+m)+f (n+m)=er f n+(er (fun i=>f (n+i)) m+f (n+m))
  rw[Ck f n m];grind
theorem IK (f:Nat->Rat)(n:Nat):er f (n+1)=f 0+er (fun i=>f (i+1)) n:=by
 have:=Ck f 1 n
 rw[Nat.add_comm 1 n]at this
 rw[this]
 have e:er f 1=f 0:=by show 0+f 0=f 0;grind
 rw[e]
 congr 1
 exact rM fun i _=>by rw[Nat.add_comm]
def zG (f:Nat->Rat)(c:Rat)(ys:List Rat)(k:Nat):Nat->Nat->Rat
 | 0=>f
 | j+1=>fun t=>if t=k+j then zG f c ys k j t+c*ys.getD j 0 else zG f c ys k j t
def out (xs ys:List Rat):Nat->Nat->Rat
 | 0=>fun _=>0
 | k+1=>zG (out xs ys k) (xs.getD k 0) ys k ys.length
def uZ:List Rat->List Rat->List Rat
 | [],b=>b
 | x::a,[]=>x::a
 | x::a,z::b=>(x+z)::uZ a b
theorem Jp:∀(a b:List Rat)(i:Nat),(uZ a b).getD i 0=a.getD i 0+b.getD i 0
 | [],b,i=>by show b.getD i 0=([]:List Rat).getD i 0+b.getD i 0;rw[mO (rs:=[]) (afY _)];grind
 | x::a,[],i=>by show (x::a).getD i 0=(x::a).getD i 0+([]:List Rat).getD i 0;rw[mO (rs:=[]) (afY _)];grind
 | x::a,z::b,0=>rfl
 | x::a,z::b,i+1=>by simpa [uZ] using Jp a b i
def kj (x p:Rat):List Rat->List Rat
 | []=>[p]
 | a::l=>(p+a*x)::kj x a l
theorem Lg (x:Rat):∀(l:List Rat)(p:Rat)(t:Nat),(kj x p l).getD t 0=(if t=0 then p else l.getD (t-1) 0)+l.getD t 0*x
 | [],p,0=>by show p=p+([]:List Rat).getD 0 0*x;rw[mO (rs:=[]) (afY _)];grind
 | [],p,t+1=>by
  rw[afC ⋯,mO (rs:=[]) (afY _),mO (rs:=kj x p []) (show 1<=t+1 by lia),mO (rs:=[]) (afY _)];grind
 | a::l,p,0=>rfl
 | a::l,p,t+1=>by
  show (kj x a l).getD t 0=(if t+1=0 then p else (a::l).getD t 0)+l.getD t 0*x
  rw[Lg x l a t]
  cases t with
  | zero=>rfl
  | succ t=>rfl
theorem uz {D:Int}(h:∀r∈l,es D m r)(i:Nat):es D m (l.getD i 0):=by
 by_cases hi:i<l.length
 ·exact h _ (rO hi)
 ·rw[mO ⋯];exact es.zero.mono (afY _)
def jb (x o:Rat):List Rat->Nat->Rat
 | []=>fun _=>0
 | a::r=>fun t=>jb x o r t*x+(if t=0 then a else jb x o r (t-1)*o)
theorem Xi (h:DC l=true):jU l=l:=by
 by_cases e:l=[]
 ·rw[e];rfl
 ·unfold DC at h
  rw[afJ e]at h
  have hp:0<l.length:=ai9.mpr e
  have z0:¬l.getD (l.length-1) 0=0:=fun z=>by rw[afI z]at h;cases h
  have sp:l=l.take (l.length-1)++[l.getD (l.length-1) 0]:=by
   rw[<-wL ⋯,show l.length-1+1=l.length by lia,agM]
  rw[sp]at z0 ⊢
  conv=>lhs;rw[J5 (by rw[<-sp]at z0;exact z0)]
theorem C4 (x o:Rat):∀(rs:List Rat)(i:Nat),rs.length<=i->jb x o rs i=0
 | [],i,_=>rfl
 | a::r,i,h=>by
  have h':r.length+1<=i:=h
  show jb x o r i*x+(if i=0 then a else jb x o r (i-1)*o)=0
  rw[afC ⋯,C4 x o r i ⋯,C4 x o r (i-1) ⋯];grind
section
variable {D u d:Int}{m n:Nat}{q:Rat}
theorem es.S0 (NJ:cb n u)(h:es D m q):es (D*d) (m+n) (q*Rat.divInt u d):=by
 obtain ⟨t,rfl,b⟩:=h
 exact ⟨t*u,Rat.divInt_mul_divInt _ _,b.mul NJ⟩
end
def ih (e:Addr)(c:Value)(aD:ajF)(dE:Value)(T:Addr)(h:Heap):Prop:=
 ∃c2 aa kn ts,h.get? e=some c2/\c2.cls=c/\c2.dict=aD/\c2.data=.fields aa/\aa[1]?=some (.ref T)/\T≠e/\h.get? T=some kn/\kn.data=.fields ts/\ts[3]?=some dE/\aa[2]?=some .none
def lF (fr no:ajG)(h h':Heap):Prop:=
 ∀b o,h.get? b=some o->b∉no->(b∉fr->h'.get? b=some o)/\∃bR,h'.get? b=some {o with slots:=bR}
theorem aay (f:Array Value->Array Value)(o:Obj):(Obj.mapFields f o).dict=o.dict:=by
 obtain ⟨_,_,dd,_⟩:=o
 cases dd<;>rfl
section
variable {M:Model}{A:Around}{E:ajv}{s:Shared}
variable {base:Heap}{env:Env}{outer:List Env}{e:Addr}{b2:Obj}{aa:Array Value}{Q:ajw}{c:Value}{aD:ajF}
theorem Ly {L:Addr}{pT:Value}{nx:Bool}
  (fr:A.frames=some (env::outer))(dE:s.heap.FunFrames base (env::outer))(lO:env.frame=some L)(he:s.heap.get? e=some b2)(da:b2.data=.fields aa)(e1:1<aa.size)(gD:aa[2]?=some .none)
  (k:∀h' T,s.heap.objs.size<=T->lF (eJ (env::outer)) [e] s.heap h'->ih e b2.cls b2.dict (rawInt L) T h'->Q () {s with heap:=h'}) :
  wpAny M A (do let a <-frameOf env;let bX <-entryPlaceOf L nx;let b <-EntryCells.newEntry pT a .none (rawInt L) .none bX;setField (.ref e) 1 b) Q E s:=by
 have Pn:e∉(env::outer).filterMap (·.frame):=fun z=>by
  obtain ⟨_,o,ho,jy⟩:=dE.mem z
  rw[he]at ho;injection ho with ho;subst ho;exact jy aa da
 refine afB (wpAny_frameOf_fun fr dE lO fun g1 l0=>?_)
 refine afB (wpAny_entryPlaceOf fun bX GN=>?_)
 unfold EntryCells.newEntry newFields
 refine afB (agr ?_ (GN.sizeOk5 _ _ _ _ _))
 have ai:g1.get? e=some b2:=(l0.2.1 e Pn).trans he
 generalize cG:({cls:=.type "traceback",dict:=none,data:=.fields ([pT,.ref L,.none,rawInt L,.none]++(if bX.isEmpty then List.replicate 6 Value.none else bX)).toArray}:Obj)=kn
 have az:(g1.push kn).get? e=some b2:=afL kn ai
 have ne:g1.objs.size≠e:=ahF (afH ai)
 have ec:=agT da (·.setIfInBounds 1 (Value.ref g1.objs.size))
 have cD:=ag9 (Obj.mapFields (·.setIfInBounds 1 (Value.ref g1.objs.size))) az (ahS ec)
 have R0:kn.isFreed=false:=by subst cG;rfl
 have t3:((g1.push kn).update e (Obj.mapFields (·.setIfInBounds 1 (Value.ref g1.objs.size)))).get? g1.objs.size=some kn:=
  (agR (g1.push kn) (Obj.mapFields (·.setIfInBounds 1 (Value.ref g1.objs.size))) (af_ ne)).trans (af3 g1 R0)
 have fresh:s.heap.objs.size<=g1.objs.size:=Nat.le_of_eq l0.1.symm
 refine ag2 az da e1 (k _ g1.objs.size fresh (fun b o q n=>?_) ?_)
 ·have nb:e≠b:=fun z=>n (by rw[z];exact af2.mpr rfl)
  refine ⟨fun f=>?_,?_⟩
  ·rw[agR _ _ nb]
   exact afL _ ((l0.2.1 b f).trans q)
  ·obtain ⟨bR,z⟩:=l0.2.2 b o q
   exact ⟨bR,by rw[agR _ _ nb];exact afL _ z⟩
 ·refine ⟨_,_,kn,_,cD,aiZ _ _,?_,ec,by simp[e1],ne,t3,by rw[<-cG],?_,by simp[gD]⟩
  ·exact aay _ _
  ·first|(simp;done)|(rcases GN with rfl|⟨_,_,_,_,_,_,_,rfl⟩<;>simp)
theorem JH {L:Addr}
  (fr:A.frames=some (env::outer))(dE:s.heap.FunFrames base (env::outer))(lO:env.frame=some L)(he:s.heap.get? e=some b2)(da:b2.data=.fields aa)(h1:aa[1]?=some .none)(gD:aa[2]?=some .none)
  (k:∀h' T,s.heap.objs.size<=T->lF (eJ (env::outer)) [e] s.heap h'->ih e b2.cls b2.dict (rawInt L) T h'->Q () {s with heap:=h'}):wpAny M A (noteFrame (.ref e) env) Q E s:=by
 unfold noteFrame
 simp only[lO]
 refine afB (agi he da h1 ?_)
 rw[afC (by decide)]
 exact Ly fr dE lO he da (ahY.mp h1).1 gD k
theorem Kn {L T:Addr}
  (fr:A.frames=some (env::outer))(dE:s.heap.FunFrames base (env::outer))(lO:env.frame=some L)(u:ih e c aD .none T s.heap)
  (k:∀h' gz,s.heap.objs.size<=gz->lF (eJ (env::outer)) [e,T] s.heap h'->ih e c aD (rawInt L) gz h'->Q () {s with heap:=h'}):wpAny M A (noteFrame (.ref e) env) Q E s:=by
 obtain ⟨c2,aa,kn,ts,he,rfl,rfl,da,h1,ne,ra,fK,aQ,gD⟩:=u
 unfold noteFrame
 simp only[lO]
 refine afB (agi he da h1 ?_)
 rw[afD (show (Value.ref T != Value.none)=true from by simp)]
 refine afB (agi ra fK aQ ?_)
 rw[afC (show ¬((Value.none == rawInt L)=true) from by simp[rawInt])]
 refine afB (ag2 ra fK (ahY.mp aQ).1 ?_)
 have Ad:∀b,b≠T->(s.heap.update T (Obj.mapFields (·.setIfInBounds 3 Value.none))).get? b=s.heap.get? b:=fun b hb=>agR _ _ (af_ hb)
 have Td:∀b o,s.heap.get? b=some o->(∀aa,o.data≠.fields aa)->b≠T:=fun b o hb jy q=>by
  rw[q,ra]at hb;injection hb with hb;subst hb;exact jy ts fK
 refine Ly fr (dE.of_keeps fun b o hb jy=>⟨o,(Ad b (Td b o hb jy)).trans hb,rfl⟩) lO ((Ad e (af_ ne)).trans he) da (ahY.mp h1).1 gD fun h' gz f x gI=>k h' gz ?_ (fun b o q n=>?_) gI
 ·rw[Heap.size_after_update]at f;exact f
 ·have ax:b≠e:=fun z=>n (by rw[z];exact af6 ..)
  have a_:b≠T:=fun z=>n (by rw[z];exact af5 _ (af2.mpr rfl))
  exact x b o ((Ad b a_).trans q) fun z=>ax (af2.mp z)
theorem wM {T:Addr}{dE:Value}(u:ih e c aD dE T s.heap)
  (k:∀h',lF [] [T] s.heap h'->ih e c aD .none T h'->Q () {s with heap:=h'}):wpAny M A (setFlight (.ref e) none) Q E s:=by
 obtain ⟨c2,aa,kn,ts,he,dJ,cB,da,h1,ne,ra,fK,aQ,gD⟩:=u
 have z3:3<ts.size:=(ahY.mp aQ).1
 unfold setFlight
 refine afB (agi he da h1 ?_)
 rw[afD (show (Value.ref T != Value.none)=true from by simp)]
 refine ag2 ra fK z3 (k _ (fun b o q n=>?_) ?_)
 ·have nb:T≠b:=fun z=>n (by rw[z];exact af2.mpr rfl)
  have bD:=(agR s.heap (Obj.mapFields (·.setIfInBounds 3 ((none:ajF).elim Value.none fun f=>rawInt f))) nb).trans q
  exact ⟨fun _=>bD,o.slots,bD⟩
 ·exact ⟨c2,aa,_,_,(agR _ _ ne).trans he,dJ,cB,da,h1,ne,ag9 _ ra (ahS (agT fK _)),agT fK _,by simp[z3],gD⟩
theorem X2 {L:Addr}
  (fr:A.frames=some (env::outer))(dE:s.heap.FunFrames base (env::outer))(lO:env.frame=some L)(he:s.heap.get? e=some b2)(da:b2.data=.fields aa)(h1:aa[1]?=some .none)(gD:aa[2]?=some .none)
  (k:∀h' T,s.heap.objs.size<=T->lF (eJ (env::outer)) [e] s.heap h'->ih e b2.cls b2.dict .none T h'->Q () {s with heap:=h'}):wpAny M A (leaving env (.ref e)) Q E s:=by
 unfold leaving
 refine afB (JH fr dE lO he da h1 gD fun h1 T f x u=>?_)
 refine wM (s:={s with heap:=h1}) u fun h2 y eM=>k h2 T f (fun b o q n=>?_) eM
 obtain ⟨a1,bR,a2⟩:=x b o q n
 have nB:b∉[T]:=fun z=>by rw[af2.mp z]at q;exact absurd (af0 (afH q) f) (agl _)
 exact ⟨fun g=>(y b o (a1 g) nB).1 (by simp),bR,(y b _ a2 nB).1 (by simp)⟩
theorem Y4 {L T:Addr}
  (fr:A.frames=some (env::outer))(dE:s.heap.FunFrames base (env::outer))(lO:env.frame=some L)(u:ih e c aD .none T s.heap)
  (k:∀h' gz,s.heap.objs.size<=gz->lF (eJ (env::outer)) [e,T] s.heap h'->ih e c aD .none gz h'->Q () {s with heap:=h'}):wpAny M A (leaving env (.ref e)) Q E s:=by
 unfold leaving
 refine afB (Kn fr dE lO u fun h1 gz f x u=>?_)
 refine wM (s:={s with heap:=h1}) u fun h2 y eM=>k h2 gz f (fun b o q n=>?_) eM
 obtain ⟨a1,bR,a2⟩:=x b o q n
 have nB:b∉[gz]:=fun z=>by rw[af2.mp z]at q;exact absurd (af0 (afH q) f) (agl _)
 exact ⟨fun g=>(y b o (a1 g) nB).1 (by simp),bR,(y b _ a2 nB).1 (by simp)⟩
end
end L2
namespace L2
open PySem PySem.Spec PyProof.Rows PySem.W Builtin Builtin.ObjectAttr
section
variable {prog:Program}{w:World}{A:Around}{E:ajv}{s:Shared}{K:Frag}{x C:Addr}{ox:Obj}{od:Option Obj}{name:Str}{expr:Bool}{Q:ajv}
theorem J1 {fill:Bool}{tk:Tok}(X:K.In s.heap)(I:InstAt s.heap x ox C od)(g1:findIn K (.ref C) "__getattribute__"=some (some (.builtin "BaseException.__getattribute__")))(g2:findIn K (.ref C) "__getattr__"=some none)
  (g3:mroIn K C (.type "BaseException")=some true)
  (k:wpAny (model prog w) A.in1 (Builtin.«object.__getattribute__» ⟨[.ref x,.str name tk],[]⟩) (fun fin ar=>match fin with|.done (.ret v)=>wpAny (model prog w) A (handedOut v) Q E ar|_=>False) (fun _ _=>False) s) :
  wpAny (model prog w) A (getAttrBy (.ref x) (.str name tk) fill expr) Q E s:=by
 obtain ⟨dZ,g,d,t,os⟩:=s
 have jw:=I.type (M:=model prog w)
 have eL:=looks_findIn (M:=model prog w) X g1
 have gp:=looks_findIn (M:=model prog w) X g2
 have sub:Looks (model prog w) dZ (isInstance (.ref x) (.type "BaseException")) true:=jw.andThen (looks_mroIn X g3)
 have NB:=ajt.ga.bind (.ref x)
 unfold getAttrBy
 refine agB (afB (jw.at (afB (eL.at ?_))))
 show wpAny _ _ (getAttrByItsOwn _ _ _ _ _ _) _ _ _
 unfold getAttrByItsOwn
 refine afB (show wpAny _ _ (hookBefore (.ref C)) _ _ _ from gp.at ?_)
 refine afB (ahX (agB ?_))
 have q4:callGetattribute (.ref x) (.str name tk) (.builtin "BaseException.__getattribute__") expr=boundAndCalled (.builtin "BaseException.__getattribute__") (.ref x) (.str name tk):=by
  unfold callGetattribute
  cases expr<;>rfl
 rw[q4]
 unfold boundAndCalled
 rw[NB]
 refine afB (afF (ahk ?_))
 refine codeAny_call_builtin ajt.ga.plain PySem.F.entry_bexc_ga (@check_slot (model prog w) _ _ _ "BaseException.__getattribute__" "BaseException" "__getattribute__" (.ref x) [.str name tk] [] _ (by decide +kernel) (by decide +kernel) sub (PySem.F.args_bexc_ga (.ref x) (.str name tk)) ?_)
 refine afV k (fun fin ar z=>?_) fun _ _ z=>z.elim
 rcases fin with (v|_|_|_)|_<;>first|exact z|exact z.elim
theorem Xg {v:Value}(X:K.In s.heap)(I:InstAt s.heap x ox C od)(g1:findIn K (.ref C) "__getattribute__"=some (some (.builtin "BaseException.__getattribute__")))(g2:findIn K (.ref C) "__getattr__"=some none)
  (g3:mroIn K C (.type "BaseException")=some true)(hf:findObj K C od name=some (.value v))(hv:handedIn v=true)(k:Q v {s with toks:=s.toks+1}):wpAny (model prog w) A (getAttr (.ref x) name expr) Q E s:=by
 unfold getAttr
 refine afB (wpAny_mkText (J1 (s:={s with toks:=s.toks+1}) X I g1 g2 g3 ?_))
 obtain ⟨aeP,g,d,t,os⟩:=s
 have jw:=I.type (M:=model prog w)
 have eL:=looks_find (M:=model prog w) X I hf
 show wpAny _ _ (slotArgs "__getattribute__" 1 _ >>= _) _ _ _
 refine afB (afF (afB (afF (afB (jw.at (afB (eL.at ?_)))))))
 refine afF ?_
 show wpAny _ _ (handedOut v) _ _ _
 rw[handedOut_of hv]
 exact afF k
theorem Xh {Q:Option Value->Shared->Prop}(X:K.In s.heap)(I:InstAt s.heap x ox C od)(g1:findIn K (.ref C) "__getattribute__"=some (some (.builtin "BaseException.__getattribute__")))(g2:findIn K (.ref C) "__getattr__"=some none)
  (g3:mroIn K C (.type "BaseException")=some true)(oA:mroIn K C (.type "object")=some true)(hf:findObj K C od "__class__"=some (.bind (.builtin "getset_descriptor.__get__") (.builtin "object.__class__")))
  (k:Q (some (.ref C)) {s with toks:=s.toks+1}):wpAny (model prog w) A (getAttr? (.ref x) "__class__") Q E s:=by
 obtain ⟨dZ,g,d,t,os⟩:=s
 unfold getAttr? getAttrBy?
 refine afB (wpAny_mkText (afB (ahX (J1 (s:=⟨dZ,g,d,t+1,os⟩) X I g1 g2 g3 ?_))))
 have jw:=I.type (M:=model prog w)
 have eL:=looks_find (M:=model prog w) X I hf
 show wpAny _ _ (slotArgs "__getattribute__" 1 _ >>= _) _ _ _
 refine afB (afF (afB (afF (afB (jw.at (afB (eL.at ?_)))))))
 show wpAny _ _ (bindTo _ _ _ _) _ _ _
 unfold bindTo
 dsimp only
 refine afB (agB (ahk (class_get (s:=⟨dZ,g,d,t+1,os⟩) (ox:=ox) (od:=od) X I oA ?_)))
 refine afF ?_
 show wpAny _ _ (handedOut (.ref C)) _ _ _
 exact handed_on rfl (afF k)
theorem JK {dd:Obj}(hd:hasDictIn K C=true)(g1:findIn K (.ref C) "__getattribute__"=some (some (.builtin "BaseException.__getattribute__")))(g2:findIn K (.ref C) "__getattr__"=some none)
  (g3:mroIn K C (.type "BaseException")=some true)(oA:mroIn K C (.type "object")=some true)(ha:findIn K (.ref C) "__class__"=some (some (.builtin "object.__class__")))
  (hn:specialIn K (.builtin "object.__class__") "__get__"=some (some (.builtin "getset_descriptor.__get__")))(aH:takesIn K (.builtin "object.__class__")=some true) :
  KitX K (.ref x) (.ref C) (fun h=>InstAt h x ox C (some dd)) where
 ty:=fun _ _ _ I=>I.type
 it:=fun _ _ X _=>by
  obtain ⟨cd,hc,_⟩:=any_some hd
  unfold clsIn at hc
  split at hc
  ·rename_i _ _ _ _ ho
   intro aet og ej ar k q
   unfold isType loadHead
   exact afB (ai_ (k _ _ (X _ _ ho)) (afF q))
  ·cases hc
 ne:=fun h dm eH its n bR X RK=>by
  obtain ⟨cd,hc,_⟩:=any_some hd
  refine Bool.eq_false_iff.mpr fun q=>?_
  have e:C=dm:=Value.ref.inj (agC.mp q)
  subst e
  unfold clsIn at hc
  split at hc
  ·rename_i _ _ _ _ ho
   have z:=(X _ _ ho).symm.trans RK
   cases z
  ·cases hc
 ca:=fun X I k=>Xh X I g1 g2 g3 oA (findObj_data (by obtain ⟨cd,hc,_⟩:=any_some hd;rw[hc];rfl) ha hn aH) k
end
end L2
namespace L2
open PySem PySem.Spec PyProof.Rows Builtin Builtin.ObjectAttr
variable {P:Program}{w:World}{H:ah}{h:Heap}{fresh:Bool}{C:Addr}{aD:ajF}{aR:List (Str×V)}{K:ajA}
def di (fresh:Bool)(aq C:Addr)(aD:ajF):dT:=.ext fun h=>∃c2 aa,h.get? aq=some c2/\c2.cls=.ref C/\c2.dict=aD/\c2.data=.fields aa/\(1<aa.size/\aa[2]?=some .none)/\(fresh=true->aa[1]?=some .none/\aa[2]?=some .none/\4<aa.size)
def ff (aD:Addr)(aR:List (Str×V)):dT:=.ext fun h=>∃dc,h.Ns1 aD dc/\(∀f,gS (aR.lookup f) (dc f))/\PySem.Within dc (aR.map (·.1))/\aR.length<=100
theorem DK {aq:Addr}{c2:Obj}{aa:Array Value}(e:h.get? aq=some c2)(h1:c2.cls=.ref C)(h2:c2.dict=aD)(aQ:c2.data=.fields aa)(bS:1<aa.size/\aa[2]?=some .none)
  (c1:fresh=true->aa[1]?=some .none/\aa[2]?=some .none/\4<aa.size):c_ P w H h aq (di fresh aq C aD):=
 ⟨⟨c2,aa,e,h1,h2,aQ,bS,c1⟩,⟨c2,e⟩,fun _ _ ⟨o,u,q,r⟩ k=>⟨o,u,k o q,r⟩⟩
theorem nY {aq:Addr}(x:c_ P w H h aq (di fresh aq C aD)):∃c2 aa,h.get? aq=some c2/\c2.cls=.ref C/\c2.dict=aD/\c2.data=.fields aa/\(1<aa.size/\aa[2]?=some .none)/\(fresh=true->aa[1]?=some .none/\aa[2]?=some .none/\4<aa.size):=x.1
theorem DL {aD:Addr}{dc:ajy}(n:h.Ns1 aD dc)(r:∀f,gS (aR.lookup f) (dc f))(cZ:PySem.Within dc (aR.map (·.1)))(l:aR.length<=100):c_ P w H h aD (ff aD aR):=
 ⟨⟨dc,n,r,cZ,l⟩,let ⟨o,_,_,e,_⟩:=n;⟨o,e⟩,fun _ _ ⟨m,n,r⟩ k=>⟨m,n.at k,r⟩⟩
theorem uG {aD:Addr}(x:c_ P w H h aD (ff aD aR)):∃dc,h.Ns1 aD dc/\(∀f,gS (aR.lookup f) (dc f))/\PySem.Within dc (aR.map (·.1))/\aR.length<=100:=x.1
abbrev gb:List Value:=[.type "ValueError",.type "Exception",.type "BaseException",.type "object"]
structure gk (K:ajA)(C B:Addr):Prop where
 cd:∃cd,PySem.W.clsIn K C=some cd/\cd.hasDict=true/\cd.mro=.ref C::.ref B::gb
 hX:PySem.W.findIn K (.ref C) "__setattr__"=some (some (.builtin "object.__setattr__"))
 ga:PySem.W.findIn K (.ref C) "__getattribute__"=some (some (.builtin "BaseException.__getattribute__"))
 sT:PySem.W.findIn K (.ref C) "__getattr__"=some none
 ca:PySem.W.findIn K (.ref C) "__class__"=some (some (.builtin "object.__class__"))
 q4:PySem.W.specialIn K (.builtin "object.__class__") "__get__"=some (some (.builtin "getset_descriptor.__get__"))
 cq:PySem.W.takesIn K (.builtin "object.__class__")=some true
theorem gk.mro {B:Addr}(c:gk K C B)(v:Value):PySem.W.mroIn K C v=some ((Value.ref C::Value.ref B::gb).contains v):=by
 obtain ⟨cd,h1,h2,aQ⟩:=c.cd
 unfold PySem.W.mroIn
 rw[h1,Option.bind_some,aQ]
 rfl
theorem gk.base {B:Addr}(c:gk K C B):PySem.W.mroIn K C (.type "BaseException")=some true:=(c.mro _).trans (by simp[gb])
theorem gk.obj {B:Addr}(c:gk K C B):PySem.W.mroIn K C (.type "object")=some true:=(c.mro _).trans (by simp[gb])
theorem gk.hd {B:Addr}(c:gk K C B):PySem.W.hasDictIn K C=true:=by
 obtain ⟨cd,h1,h2,aQ⟩:=c.cd
 unfold PySem.W.hasDictIn
 rw[h1]
 exact h2
theorem YK (self:Value)(C B:Addr):refuseLoop self "__setattr__" (.ref C::.ref B::gb)=pure ():=by
 rw[refuseLoop_ref,refuseLoop_ref]
 kernel_rfl
section
variable {prog:Program}{w:World}{A:Around}{E:ajv}{s:Shared}{K:ajA}{x C B:Addr}{ox:Obj}{od:Option Obj}{name:Str}{v:Value}{Q:ajw}
theorem IV (X:K.In s.heap)(I:PySem.W.InstAt s.heap x ox C od)(c:gk K C B)(aH:PySem.W.findIn K (.ref C) name=some none)
  (k:wpAny (model prog w) A.in1 (storeInOwnDict (.ref x) (.ref C) (.str name s.toks) name v false) (fun fin ar=>match fin with|.done (.ret _)=>Q () ar|_=>False) (fun _ _=>False) {s with toks:=s.toks+1}) :
  wpAny (model prog w) A (setAttr (.ref x) name v) Q E s:=by
 have dU:=PySem.F.store_object
 obtain ⟨cd,hc,_,hm⟩:=c.cd
 have sub:PySem.W.Looks (model prog w) s.heap (isInstance (.ref x) (.type "object")) true:=I.type.andThen (PySem.W.looks_mroIn X c.obj)
 have lm:PySem.W.Looks (model prog w) s.heap (mroOf (.ref C)) (.ref C::.ref B::gb):=hm▸(aja X hc).andThen .now
 have SI:PySem.W.Looks (model prog w) s.heap (storeTaker? none) none:=.now
 refine PySem.W.set_plain X I c.hX ?_
 refine codeAny_call_builtin dU.slot.plain dU.entry (@PySem.W.check_slot (model prog w) _ _ {s with toks:=s.toks+1} "object.__setattr__" "object" "__setattr__" (.ref x) [.str name s.toks,v] [] _ dU.kind dU.split sub (dU.args (.ref x) (.str name s.toks) v) ?_)
 rw[PySem.W.osa_eq,refuse_eq]
 refine afB (afB (ahf (s:={s with toks:=s.toks+1}) I.type (afB (ahf (s:={s with toks:=s.toks+1}) lm ?_))))
 rw[YK]
 refine afF (afB (ahf (s:={s with toks:=s.toks+1}) I.type (afB (ahf (s:={s with toks:=s.toks+1}) (PySem.W.looks_findIn X aH) (afB (ahf (s:={s with toks:=s.toks+1}) SI ?_))))))
 refine afV k (fun fin ar z=>?_) fun _ _ z=>z.elim
 rcases fin with (_|_|_|_)|_<;>first|exact z|exact z.elim
end
section
variable {X:aO}{pins:ajx}{σ:St}{H:ah}{s:Shared}{a C B:Addr}{aR:List (Str×V)}{f:Str}{v:V}{A:Around}{E:ajv}{fr:Bool}
variable {h:Heap}{c2:Obj}{aa:Array Value}{d:Addr}{y:V}{u:Value}{Q:ajv}{b:Bool}
theorem acN (e:h.get? a=some c2)(h1:c2.cls=.ref C)(h2:c2.dict=none)(aQ:c2.data=.fields aa):PySem.W.InstAt h a c2 C none:=⟨e,h1,by unfold PySem.W.notCls;rw[aQ],by rw[h2];exact True.intro⟩
theorem xq {o:Obj}(e:h.get? a=some c2)(h1:c2.cls=.ref C)(h2:c2.dict=some d)(aQ:c2.data=.fields aa)(bS:h.get? d=some o):PySem.W.InstAt h a c2 C (some o):=⟨e,h1,by unfold PySem.W.notCls;rw[aQ],by rw[h2];exact bS⟩
theorem Xf {Q:ajw}(I:Inv X pins σ H s)(e:H a=some (di fr a C none))(c:gk X.K C B)(n:PySem.W.findIn X.K (.ref C) f=some none)(aJ:RelV y u)
  (k:∀ar d,H d=none->Inv X pins σ (upd (upd H d (ff d [(f,y)])) a (di fr a C (some d))) ar->Q () ar):wpAny (model X.prog X.w) A (setAttr (.ref a) f u) Q E s:=by
 obtain ⟨c2,aa,g,ai,az,cD,gA,hS⟩:=nY (I.aX a _ e)
 refine IV I.en (acN g ai az cD) c n ?_
 obtain ⟨cd,hc,dZ,hm⟩:=c.cd
 obtain ⟨e_,Ab,Aa,g9⟩:=c2
 cases ai;cases az;cases cD
 unfold storeInOwnDict
 refine afB (afF (afB ?_))
 show wpAny _ _ (instanceDict a true) _ _ _
 unfold instanceDict
 refine afB (ai_ g (afB (ahf (s:={s with toks:=s.toks+1}) (aja I.en hc) ?_)))
 rw[dZ]
 show wpAny _ _ (do let d <-alloc {cls:=.type "dict",data:=.dict #[]};update a fun o=>{o with dict:=some d};pure (some d)) _ _ _
 refine afB (wpAny_alloc ?_)
 have aT:s.heap.objs.size≠a:=fun z=>absurd (afH g) (by rw[z];exact agl _)
 have g1:=afL PySem.W.emptyDict g
 have dG:(s.heap.push PySem.W.emptyDict).get? s.heap.objs.size=some PySem.W.emptyDict:=af3 s.heap rfl
 refine afB (wpAny_update g1 (afF ?_))
 have jH:(s.heap.push PySem.W.emptyDict).Ns s.heap.objs.size (fun _=>none):=⟨PySem.W.emptyDict,#[],_,dG,rfl,(fun e he=>absurd he (by simp)),fun _=>rfl⟩
 have aF:=I.laid (a:=s.heap.objs.size) (o:=ff s.heap.objs.size []) (h':=s.heap.push PySem.W.emptyDict) (t':=s.toks+1) (fun b u q=>afL _ q) (afE _) (DL (Heap.Ns1.of_empty jH) (fun _=>True.intro) (fun y hy=>absurd rfl hy) (by simp))
 have g2:=ag9 (fun o:Obj=>{o with dict:=some s.heap.objs.size}) g1 rfl
 have a3:=aF.write (x:=a) (e:=a) (o:=di fr a C (some s.heap.objs.size)) (t':=s.toks+1) (h':=(s.heap.push PySem.W.emptyDict).update a fun o:Obj=>{o with dict:=some s.heap.objs.size}) (by rw[br (af_ aT),e];exact True.intro) (.inl rfl) (fun b u hb q=>(agR _ _ (af_ hb)).trans q) ⟨_,g2⟩ (DK g2 rfl rfl rfl gA hS)
 have bq:upd (upd H s.heap.objs.size (ff s.heap.objs.size [])) a (di fr a C (some s.heap.objs.size)) s.heap.objs.size=some (ff s.heap.objs.size []):=by rw[br aT,bo]
 obtain ⟨dc,a_,bt,fj,_⟩:=uG (a3.aX _ _ bq)
 show wpAny _ _ (storeInDict s.heap.objs.size (.str f s.toks) f u) _ _ _
 unfold storeInDict
 refine afB (afF (afB ?_))
 refine wpAny_nsSet1 (s:={s with heap:=(s.heap.push PySem.W.emptyDict).update a fun o:Obj=>{o with dict:=some s.heap.objs.size},toks:=s.toks+1}) a_ fun h' cc i3=>?_
 obtain ⟨Th,Pr,Pp,tc,zl,zj⟩:=cc.count (PySem.Within.cons f u fj)
 refine afB (wpAny_lookBehind tc (by rw[zl];exact pastItsLine_dict (afK zj (by rw[afW];show 1<=_;lia))) ?_)
 refine afF (k _ _ (I.aX.fresh (afE _)) ?_)
 have dD:=a3.write (x:=s.heap.objs.size) (e:=s.heap.objs.size) (o:=ff s.heap.objs.size [(f,y)]) (t':=s.toks+2) (h':=h') (by rw[bq];exact True.intro) (.inl rfl) (fun b u hb q=>(i3.2 b hb).trans q) ⟨_,tc⟩ (DL cc (fun g=>?_) (fun g hg=>?_) (by simp))
 ·have sN:upd (upd (upd H s.heap.objs.size (ff s.heap.objs.size [])) a (di fr a C (some s.heap.objs.size))) s.heap.objs.size (ff s.heap.objs.size [(f,y)])=upd (upd H s.heap.objs.size (ff s.heap.objs.size [(f,y)])) a (di fr a C (some s.heap.objs.size)):=by
   funext b
   unfold upd
   by_cases h1:b=s.heap.objs.size
   ·rw[afD h1,afC (fun z=>aT (h1.symm.trans z)),afD h1]
   ·rw[afC h1]
    by_cases h2:b=a
    ·rw[afD h2,afD h2]
    ·rw[afC h2,afC h2,afC h1,afC h1]
  rw[<-sN]
  exact dD
 ·show gS (List.lookup g [(f,y)]) (if g=f then some u else dc g)
  have jw:List.lookup g [(f,y)]=if g=f then some y else List.lookup g []:=Ci f g y []
  rw[jw]
  by_cases q:g=f
  ·rw[afD q,afD q];exact aJ
  ·rw[afC q,afC q];exact bt g
 ·by_cases q:g=f
  ·rw[q];simp
  ·exfalso
   have gq:=gS.none_of (bt g)
   rw[afC q,gq]at hg
   exact hg rfl
theorem Xx {Q:ajw}(I:Inv X pins σ H s)(e:H a=some (di fr a C (some d)))(eA:H d=some (ff d aR))(hl:aR.length<100)(c:gk X.K C B)(n:PySem.W.findIn X.K (.ref C) f=some none)(aJ:RelV y u)
  (k:∀ar,Inv X pins σ (upd H d (ff d (gY f y aR))) ar->Q () ar):wpAny (model X.prog X.w) A (setAttr (.ref a) f u) Q E s:=by
 obtain ⟨c2,aa,g,ai,az,cD,gA,hS⟩:=nY (I.aX a _ e)
 obtain ⟨dc,a_,bt,fj,gp⟩:=uG (I.aX d _ eA)
 obtain ⟨fN,FJ,FI,g2,Fz,_⟩:=id a_
 refine IV I.en (xq g ai az cD g2) c n ?_
 obtain ⟨cd,hc,dZ,hm⟩:=c.cd
 obtain ⟨e_,Ab,Aa,g9⟩:=c2
 cases ai;cases az;cases cD
 unfold storeInOwnDict
 refine afB (afF (afB ?_))
 show wpAny _ _ (instanceDict a true) _ _ _
 unfold instanceDict
 refine afB (ai_ g (afB (ahf (s:={s with toks:=s.toks+1}) (aja I.en hc) ?_)))
 rw[dZ]
 refine afF (a:=some d) ?_
 show wpAny _ _ (storeInDict d (.str f s.toks) f u) _ _ _
 unfold storeInDict
 refine afB (afF (afB ?_))
 refine wpAny_nsSet1 (s:={s with toks:=s.toks+1}) a_ fun h' cc i3=>?_
 obtain ⟨Th,Pr,Pp,tc,zl,zj⟩:=cc.count (PySem.Within.cons f u fj)
 refine afB (wpAny_lookBehind tc (by rw[zl];exact pastItsLine_dict (afK zj (by rw[afX,afG,afW];lia))) ?_)
 refine afF (k _ (I.write (x:=d) (e:=d) (o:=ff d (gY f y aR)) (t':=s.toks+2) (h':=h') (by rw[eA];exact True.intro) (.inl rfl) (fun b u hb q=>(i3.2 b hb).trans q) ⟨_,tc⟩ (DL cc (fun g=>?_) (fun g hg=>?_) (by have:=IE f y aR;lia))))
 ·show gS (List.lookup g (gY f y aR)) (if g=f then some u else dc g)
  rw[Ci]
  by_cases q:g=f
  ·rw[afD q,afD q];exact aJ
  ·rw[afC q,afC q];exact bt g
 ·by_cases q:g=f
  ·rw[q];exact (Cw f y aR).1
  ·refine (Cw f y aR).2 g (fj g fun z=>hg ?_)
   show (if g=f then some u else dc g)=none
   rw[afC q];exact z
theorem Yq (I:Inv X pins σ H s)(e:H a=some (di fr a C (some d)))(eA:H d=some (ff d aR))(c:gk X.K C B)(n:PySem.W.findIn X.K (.ref C) f=some none)(l:aR.lookup f=some v)
  (k:∀u ar,Inv X pins σ H ar->RelV v u->Q u ar):wpAny (model X.prog X.w) A (getAttr (.ref a) f b) Q E s:=by
 obtain ⟨c2,aa,g,ai,az,cD,gA,hS⟩:=nY (I.aX a _ e)
 obtain ⟨dc,a_,bt,fj,gp⟩:=uG (I.aX d _ eA)
 obtain ⟨od,g2,lk⟩:=I_ a_
 obtain ⟨u,hu,fz⟩:=gS.some_of (v:=v) (o:=dc f) (by rw[<-l];exact bt f)
 refine Xg I.en (xq g ai az cD g2) c.ga c.sT c.base (PySem.W.findObj_own c.hd n rfl (by rw[lk,hu])) (X8 fz) (k u _ (I.tok _) fz)
theorem J0 {cl:Value}(I:Inv X pins σ H s)(e:H a=some (di fr a C (some d)))(eA:H d=some (ff d aR))(c:gk X.K C B)(kk:PySem.W.kitOne X.K (.ref C) cl=some b)
  (k:∀tk,Q (.bool b) {s with toks:=tk}):wpAny (model X.prog X.w) A (call (.builtin "isinstance") [.ref a,cl]) Q E s:=by
 obtain ⟨c2,aa,g,ai,az,cD,gA,hS⟩:=nY (I.aX a _ e)
 obtain ⟨dc,a_,bt,fj,gp⟩:=uG (I.aX d _ eA)
 obtain ⟨fN,FJ,FI,g2,Fz,_⟩:=id a_
 exact agm (JK c.hd c.ga c.sT c.base c.obj c.ca c.q4 c.cq) I.en (xq g ai az cD g2) kk (fun z=>nomatch z) k
theorem Yp {dm:Addr}{cs:ajC}(I:Inv X pins σ H s)(e:H a=some (di fr a C (some d)))(eA:H d=some (ff d aR))(c:gk X.K C B)(aH:IsTup s.heap dm cs.toArray)(kk:PySem.W.kitAny X.K (.ref C) cs=some b)
  (k:∀tk,Q (.bool b) {s with toks:=tk}):wpAny (model X.prog X.w) A (call (.builtin "isinstance") [.ref a,.ref dm]) Q E s:=by
 obtain ⟨c2,aa,g,ai,az,cD,gA,hS⟩:=nY (I.aX a _ e)
 obtain ⟨dc,a_,bt,fj,gp⟩:=uG (I.aX d _ eA)
 obtain ⟨fN,FJ,FI,g2,Fz,_⟩:=id a_
 obtain ⟨⟨e_,Ab,Aa,g9⟩,h1,h2,m,aQ⟩:=aH
 cases h2;cases aQ
 exact PySem.W.kia_tup (JK c.hd c.ga c.sT c.base c.obj c.ca c.q4 c.cq) I.en (xq g ai az cD g2) h1 kk (fun z=>nomatch z) k
end
end L2
namespace L2
section
variable {prog:Program}{w:World}{A:Around}{E:ajv}{h:Heap}{g:Array GenState}{d:Drawn}{t:Nat}{os:OsState}{K:ajA}
variable {nm q:Str}{C N:Addr}{bs bm:ajC}{hdct:Bool}{sn:ajD}{sub:ajC}{ab:Bool}{col:Option Bool}{dd:ajF}{k0 k1 k2 k3 k5:Option Value}
theorem Yg {rest:ajC}{dK:Addr}{Q:ajv}(X:K.In h)(lk:K.lookup C=some (excClassObj nm q C N bs bm hdct sn sub ab col dd k0 k1 k2 k3 k5 "ValueError.__new__"))(eo:PySem.W.tailIn K gb bm=true)
  (hi:PySem.W.findIn K (.ref C) "__init__"=some (some (.ref dK)))(hf:PySem.W.isFn K (.ref dK)=true)(len:rest.length<=sizeLine)
  (k:wpAny (model prog w) (A.under (.builtin "type.__call__" ⟨.ref C::rest,[]⟩)) (call (.ref dK) (.ref (h.objs.size+1)::rest)) (fun r ar=>r=.none/\Q (.ref (h.objs.size+1)) ar) E
   ⟨(h.push {cls:=.type "tuple",data:=.seq rest.toArray}).push {cls:=.ref C,data:=.fields #[.ref h.objs.size,.none,.none,.none,.bool false,.none]},g,d,t,os⟩) :
  wpAny (model prog w) A (call (.ref C) rest) Q E ⟨h,g,d,t,os⟩:=by
 have F:=PySem.F.excBase_ValueError
 have lR:=X _ _ lk
 have T:OwnTail h gb bm:=PySem.W.tail_of_in X eo
 have f1:=tc_lookup
 have f2:=tc_bind (.ref C)
 have gv:(⟨h,g,d,t,os⟩:Shared).TypeIs (.ref C) "type":=⟨_,lR,rfl⟩
 refine ahk (codeAny_of_tree ?_)
 show wpAny _ _ (callAny (.ref C) _) _ _ _
 repeat (any_goals (first|with_reducible refine ag5 lR ?_|assumption|wp_step))
 refine ⟨rfl,codeAny_call_builtin_at (Code.quiet_builtin _ (by decide +kernel)) entry_typeCall (wpAny_check_type_call_sub lR ?_)⟩
 repeat (first|with_reducible refine wpAny_madeBy_exc lR ?_|with_reducible refine ag5 lR ?_|wp_step)
 refine codeAny_call_builtin_code (Code.quiet_builtin _ F.quiet) (wpAny_check_new_subT F T lR (codeAny_exc_new_subT F T lR ?_ len))
 show wpAny _ _ _ _ _ (⟨(h.push {cls:=.type "tuple",data:=.seq rest.toArray}).push {cls:=.ref C,data:=.fields #[.ref h.objs.size,.none,.none,.none,.bool false,.none]},g,d,t,os⟩:Shared)
 generalize dZ:(h.push {cls:=.type "tuple",data:=.seq rest.toArray}).push {cls:=.ref C,data:=.fields #[.ref h.objs.size,.none,.none,.none,.bool false,.none]}=h2 at k ⊢
 have fw:∀b o,h.get? b=some o->h2.get? b=some o:=fun b o e=>by rw[<-dZ];exact afL _ (afL _ e)
 have QP:=fw _ _ lR
 have EO:K.In h2:=X.keeps fw
 have ge:h2.get? (h.objs.size+1)=some {cls:=.ref C,data:=.fields #[.ref h.objs.size,.none,.none,.none,.bool false,.none]}:=by rw[<-dZ];heap_get
 have NO:(Value.ref C::bm).contains (.ref C)=true:=by simp
 unfold isInstance
 repeat (first|with_reducible refine ag5 ge ?_|wp_step)
 show wpAny _ _ (isSubtype (.ref C) (.ref C)) _ _ _
 refine ajb QP ?_
 rw[NO]
 repeat (first|with_reducible refine ag5 ge ?_|wp_step)
 show wpAny _ _ (typeLookup (.ref C) _) _ _ _
 refine (PySem.W.looks_findIn EO hi).at ?_
 refine agB (afB ((PySem.W.bind_fn EO _ (agC.mp hf)).at ?_))
 refine afB (afV k (fun r ar z=>?_) fun _ _ z=>z)
 obtain ⟨rfl,z⟩:=z
 wp_walk
 exact z
end
section
variable {M:Model}{A:Around}{E:ajv}{env:Env}{K:ajA}
variable {nm q:Str}{C N:Addr}{bs bm:ajC}{hdct:Bool}{sn:ajD}{sub:ajC}{ab:Bool}{col:Option Bool}{dd:ajF}{k0 k1 k2 k3 k5:Option Value}{newId:String}
theorem ZI {s:Shared}{x:Sem Value}{Q:Flow->Shared->Prop}(hb:bm.contains (.type "BaseException")=true)(dZ:A.handled=none)
  (k:wpAny M A x (fun v s1=>∃e aD aa bR,v=.ref e/\s1.heap.get? C=some (excClassObj nm q C N bs bm hdct sn sub ab col dd k0 k1 k2 k3 k5 newId)/\
   s1.heap.get? e=some ⟨.ref C,aD,.fields aa,bR⟩/\aa[1]?=some .none/\E (.ref e) s1) E s):wpAny M A (raiseStmt env (some x) none) Q E s:=by
 have yp:(Value.ref C::bm).contains (.type "BaseException")=true:=by rw[ajc,hb,Bool.or_true]
 unfold raiseStmt
 refine afB (afV k (fun v s1 z=>?_) fun _ _ z=>z)
 obtain ⟨e,aD,aa,bR,rfl,lR,ge,h1,z⟩:=z
 obtain ⟨hp,g,d,tk,os⟩:=s1
 repeat (first|with_reducible refine ag5 ge ?_|with_reducible refine ag5 lR ?_|(with_reducible refine ajb lR ?_;rw[yp])|with_reducible refine agi ge rfl h1 ?_|wp_step)
 exact wpAny_raiseNew_none dZ z
end
def m1 (P:Program)(w:World):md:=fun outer H s E e ar=>∃(aq C aD T:Addr) (J:ah),e=.ref aq/\ar.os=s.os/\AllBare ar.gens/\e8 (eJ outer) [] H J s.heap ar.heap/\ep P w J ar.heap/\
 s.heap.objs.size<=aq/\s.heap.objs.size<=T/\J aq=some (di false aq C (some aD))/\J T=none/\ih aq (.ref C) (some aD) .none T ar.heap/\E (.ref C) (some aq) J
theorem KS {P:Program}{w:World}{H:ah}{h:Heap}{aq C T:Addr}{aD:ajF}{dE:Value}(u:ih aq (.ref C) aD dE T h):c_ P w H h aq (di false aq C aD):=by
 obtain ⟨c2,aa,kn,ts,he,dJ,cB,da,h1,_,_,_,_,za⟩:=u
 exact DK he dJ cB da ⟨(ahY.mp h1).1,za⟩ fun z=>by cases z
abbrev fZ:=St->fg
def uY (X:aO)(bF:fZ):Prop:=∀(pins:ajx)(σ:St)(H:ah)(s:Shared)(e:Value)(ar:Shared),Inv X pins σ H s->m1 X.prog X.w X.stack H s (bF σ) e ar->X.ct e ar
def uQ (X:aO)(bF:fZ):Prop:=∀(pins:ajx)(σ:St)(H H1:ah)(s s1:Shared)(aq C aD:Addr),Inv X pins σ H s->s.heap.objs.size<=aq->Inv X pins σ H1 s1->H1 aq=some (di true aq C (some aD))->
 bF σ (.ref C) (some aq) (upd H1 aq (di false aq C (some aD)))->X.ct (.ref aq) s1
theorem CB {H:ah}{a:Addr}{o:dT}(h:H a=some o):upd H a o=H:=by
 funext b
 unfold upd
 by_cases e:b=a
 ·rw[afD e,e,h]
 ·rw[afC e]
section
variable {P:Program}{w:World}{K:ajA}{mg:ajy}{base:Heap}{N:ajD}{qual:Str}{scope:Scope}{f:Addr}{cd:Value}{A:Around}{outer:List Env}{s:Shared}{H:ah}{E:fg}
variable {pins:ajx}{σ:St}
theorem Inv.old {X:aO}{H:ah}{s:Shared}(I:Inv X pins σ H s){b:Addr}(h:s.heap.objs.size<=b):X.bf.heap.objs.size<=b:=afK I.e1 h
theorem Lk {H1:ah}{s1:Shared}{h':Heap}{no:ajG}{aq C aD T:Addr}(I:Inv (jc (m1 P w) P w K mg base N qual scope f cd A outer s H E) pins σ H1 s1)
  (x:lF (eJ (envOfC qual scope s.heap.objs.size f cd::outer)) no s1.heap h')(kg:∀b∈no,s.heap.objs.size<=b/\(b=aq\/H1 b=none))(u:ih aq (.ref C) (some aD) .none T h')(h1:s.heap.objs.size<=aq)(cG:s1.heap.objs.size<=T)
  (e:∃b,H1 aq=some (di b aq C (some aD)))(k:E (.ref C) (some aq) (upd H1 aq (di false aq C (some aD)))):m1 P w outer H s E (.ref aq) {s1 with heap:=h'}:=by
 obtain ⟨F4,e⟩:=e
 have SJ:∀b o,s.heap.get? b=some o->b≠s.heap.objs.size:=fun b o q z=>by rw[z]at q;exact absurd (afH q) (agl _)
 have zZ:∀b o,s.heap.get? b=some o->b∉no:=fun b o q z=>absurd (af0 (afH q) (kg b z).1) (agl _)
 have S3:∀b o,s.heap.get? b=some o->b≠aq:=fun b o q z=>by rw[z]at q;exact absurd (af0 (afH q) h1) (agl _)
 have B:e8 (eJ outer) [] H H1 s.heap s1.heap:=I.base
 have T0:H1 T=none:=I.aX.fresh cG
 have nB:T≠aq:=fun z=>by rw[z,e]at T0;cases T0
 have sub:∀b o,s.heap.get? b=some o->b∉eJ outer->b∉eJ (envOfC qual scope s.heap.objs.size f cd::outer):=fun b o q n z=>by
  have dO:b∈s.heap.objs.size::eJ outer:=z
  rcases afP.mp dO with r|r
  ·exact SJ b o q r
  ·exact n r
 refine ⟨aq,C,aD,T,upd H1 aq (di false aq C (some aD)),rfl,I.os,I.bare,⟨fun b o q n hb hx=>?_,fun b o q n hb hx=>?_,fun b o q n hx=>?_,fun b o q hx=>?_,fun b xs q=>?_,fun b o xs q=>?_,fun b av q=>?_⟩,?_,h1,afK (I.old (afE _)) cG,bo,by rw[br nB];exact T0,u,k⟩
 ·exact (x b o (B.keep b o q n hb hx) (zZ b o q)).1 (sub b o q hb)
 ·obtain ⟨bR,aL⟩:=B.slot b o q n hb hx
  obtain ⟨wz,bU⟩:=(x b _ aL (zZ b o q)).2
  exact ⟨wz,bU⟩
 ·rw[br (S3 b o q)];exact B.free b o q n hx
 ·obtain ⟨dR,aL⟩:=B.there b o q hx
  obtain ⟨wz,bU⟩:=(x b _ aL (zZ b o q)).2
  exact ⟨_,bU⟩
 ·have aL:=B.jE b xs q
  rw[br (fun z=>by rw[z,e]at aL;cases aL)];exact aL
 ·have aL:=B.iU b o xs q
  rw[br (fun z=>by rw[z,e]at aL;cases aL)];exact aL
 ·obtain ⟨m,aL⟩:=B.jD b av q
  exact ⟨m,by rw[br (fun z=>by rw[z,e]at aL;cases aL)];exact aL⟩
 ·refine fun b o q=>?_
  by_cases z:b=aq
  ·subst z
   rw[bo]at q;cases q
   exact KS u
  ·rw[br z]at q
   have tE:∀c v,H1 c=some v->c∉eJ (envOfC qual scope s.heap.objs.size f cd::outer):=fun c v q m=>by
    have:=I.t2 c m
    rw[q]at this;cases this
   have nn:∀c v,H1 c=some v->c≠aq->c∉no:=fun c v q n m=>by
    rcases (kg c m).2 with r|r
    ·exact n r
    ·rw[r]at q;cases q
   refine (I.aX b o q).f_ (fun c v hc r=>?_) (fun c r=>?_) fun c xs r=>?_
   ·rcases hc with rfl|hc
    ·exact (x c v r (nn c o q z)).1 (tE c o q)
    ·exact (x c v r (nn c _ hc fun y=>by rw[y,e]at hc;cases hc)).1 (tE c _ hc)
   ·rw[br (fun y=>by rw[y,e]at r;cases r)];exact r
   ·rw[br (fun y=>by rw[y,e]at r;cases r)];exact r
theorem jK:uQ (jc (m1 P w) P w K mg base N qual scope f cd A outer s H E) (fun _=>E):=fun pins σ bC H1 s0 s1 aq C aD lB hs aF e k=>by
 obtain ⟨c2,aa,g,ai,az,cD,gA,hS⟩:=nY (aF.aX aq _ e)
 refine X2 (base:=base) aF.ok.frames aF.stack rfl g cD (hS rfl).1 gA.2 fun h' T cG x u=>?_
 rw[ai,az]at u
 have ls:s.heap.objs.size<=aq:=lB.old hs
 exact Lk aF x (fun b z=>by rw[af2.mp z];exact ⟨ls,.inl rfl⟩) u ls cG ⟨true,e⟩ k
theorem mN:uY (jc (m1 P w) P w K mg base N qual scope f cd A outer s H E) (fun _=>E):=fun pins σ bC s0 e s1 lB hx=>by
 obtain ⟨aq,C,aD,T,H1,rfl,bM,fN,un,ok,eL,gp,t1,cj,u,k⟩:=hx
 have aF:Inv (jc (m1 P w) P w K mg base N qual scope f cd A outer s H E) pins σ H1 s1:=lB.yu bM un ok fN (fun b z=>absurd z (by simp))
 refine Y4 (base:=base) aF.ok.frames aF.stack rfl u fun h' gz cG x gI=>?_
 have ls:s.heap.objs.size<=aq:=lB.old eL
 refine Lk aF x (fun b z=>?_) gI ls cG ⟨false,t1⟩ (by rw[CB t1];exact k)
 rcases afP.mp z with rfl|z
 ·exact ⟨ls,.inl rfl⟩
 ·rw[af2.mp z]
  exact ⟨lB.old gp,.inr cj⟩
end
structure eY (P:Program)(w:World)(K:ajA)(mg:ajy)(base:Heap)(x:Str)(av:ajD)(n:Nat)(sp:b_):Prop where
 ex:∃f fd,hA P w K mg base (m1 P w) n f fd av sp/\PySem.W.keepIn K (.ref f)=true/\mg x=some (.ref f)/\Binds K fd av []/\∃e_ od g9,K.lookup f=some ⟨e_,od,.func fd,g9⟩
theorem eY.c8 {P:Program}{w:World}{K:ajA}{mg:ajy}{base:Heap}{y x:Str}{st:Stmt}{N av:ajD}{n:Nat}{sp:b_}(T:Src K mg y x st)(S:b0 N av (bu st))(len:∀aa H Q E,sp aa H Q E->aa.length=av.length)
  (hb:∀(cQ doc pm:Value)(an:ajF)(a6 cq:Value)(us:ajC),us.length=av.length->bindArgs (PySem.W.fnOf x x (iz st) (gc st) (bu st) .none cQ doc pm an a6 cq) ⟨us,[]⟩=pure (av.zip us))
  (kf:∀(f:Addr)(a6:Value)(A:Around)(outer:List Env)(s:Shared)(H:ah)(aa:List V)(Q:bW)(E:fg),dI n (A.deeper (envOfC x (bu st) s.heap.objs.size f a6))->sp aa H Q E->
   ∃t,ic (jc (m1 P w) P w K mg base N x (bu st) f a6 A outer s H E) (gc st) t/\t {nx:=fun _ J=>Q .bz J,eT:=Q} (start N aa) H):eY P w K mg base y av (n+1) sp:=by
 obtain ⟨f,fd,F,m⟩:=T
 have B:=F.binds hb
 have cR:=F.cR
 obtain ⟨e_,od,cQ,doc,pm,an,a6,cq,g9,rfl,lk,hcd⟩:=F.ex
 exact ⟨f,_,Mi lk hcd S len fun A outer s H aa Q E hr h=>let ⟨t,q,r⟩:=kf f a6 A outer s H aa Q E hr h;⟨t,q.o,r⟩,cR,m,B,_,_,_,lk⟩
def KW (sp:b_)(bF:fZ)(t:cP):TE:=fun σ H Q=>t σ H fun aa H1=>sp aa H1 Q (bF σ)
theorem lq {X:aO}{x:Str}{av:ajD}{n k:Nat}{sp:b_}{bF:fZ}{p pos:Pos}{e:Expr}{aA:ajE}{t:cP}(D:eY X.prog X.w X.K X.mg X.base x av n sp)(hr:dI k X.A)(hp:uY X bF)(ha:gP X (e::aA) t)
  (hk:n<=k:=by decide)(hg:eF X x:=by rfl)(hdb:(x == ("__debug__":Str))=false:=by decide)(he:starEach (e::aA) X.env=(false,eval e X.env)::starEach aA X.env:=by rfl)(hpl:(backTo pos (starEach aA X.env)).any (·.1)=false:=by rfl) :
  bI X (.Call (.Name x p) (e::aA) [] pos) (KW sp bF t):=⟨by
 intro pins s σ H Q I h
 obtain ⟨f,fd,F,cR,m,B,_⟩:=D.ex
 refine agP (uD I hg m ?_ hdb)
 refine aiO (h₀:=X.base) I.ok.mod.tu cR (bk (ha.o pos pins s σ H _ I h) fun us s1 ⟨aa,H1,aF,r,q⟩=>⟨aF.en,?_⟩) he hpl
 have hl:(us++[]).length=av.length:=by rw[agc,<-r.length];exact F.len _ _ _ _ q
 have j5:=B s1 us aF.en hl
 rw[agc]at j5
 refine ahk (ahl (F.run X.A X.stack s1 H1 ⟨us,[]⟩ us aa Q (bF σ) (hr.mono hk) aF.yN j5 r q) fun r ar aM=>?_)
 cases r with
 | error e=>exact hp pins σ H1 s1 e ar aF aM
 | ok dE=>
  cases dE with
  | ret u=>exact aF.after aM
  | next=>exact False.elim aM
  | brk=>exact False.elim aM
  | cont=>exact False.elim aM⟩
def adj (K:ajA)(aC:TE)(f:Str):TE:=fun σ H Q=>aC σ H fun x H1=>∃a C B d aR fr v,x=.ref a/\H1 a=some (di fr a C (some d))/\H1 d=some (ff d aR)/\gk K C B/\PySem.W.findIn K (.ref C) f=some none/\aR.lookup f=some v/\Q v H1
def adk (K:ajA)(aC gV:TE)(f:Str):cT:=fun D σ H=>gV σ H fun y H1=>aC σ H1 fun x ag=>∃a C B fr,x=.ref a/\gk K C B/\PySem.W.findIn K (.ref C) f=some none/\
  ((ag a=some (di fr a C none)/\∀d,ag d=none->D.nx σ (upd (upd ag d (ff d [(f,y)])) a (di fr a C (some d))))\/
   ∃d aR,ag a=some (di fr a C (some d))/\ag d=some (ff d aR)/\aR.length<100/\D.nx σ (upd ag d (ff d (gY f y aR))))
section
variable {X:aO}{o e value:Expr}{f:Str}{pos pos':Pos}{aC gV:TE}
variable {K:ajA}
theorem rR (bL:X.K=K)(he:bI X e aC)(hb:attributeBase e f X.env (eval e X.env)=eval e X.env):bI X (.Attribute e f pos) (adj K aC f):=by
 subst bL
 exact ⟨by
  intro pins s σ H Q I h
  refine aaH hb (bk (he.o pins s σ H _ I h) fun u s1 hz=>?_)
  obtain ⟨x,H1,aF,aB,a,C,B,d,aR,fr,v,ex,aq,eA,c,n,l,q⟩:=hz
  subst ex
  obtain rfl:u=Value.ref a:=aB
  exact Yq aF aq eA c n l fun gI s2 a3 fz=>⟨v,H1,a3,fz,q⟩⟩
theorem Jy (bL:X.K=K)(ha:bI X o aC)(hv:bI X value gV)(hs:swapsWith value (some (.Attribute o f pos')) pos.line X.env=pure false):gy X (.Assign [.Attribute o f pos'] value pos) (adk K aC gV f):=by
 subst bL
 exact ⟨by
  intro pins s σ H D I h
  refine plainObj_wpAny_Assign_Attribute (bk (hv.o pins s σ H _ I h) fun u s1 ⟨y,H1,aF,aJ,q⟩=>bk (ha.o pins s1 σ H1 _ aF q) fun gE s2 ⟨x,ag,a3,aB,a,C,B,fr,ex,c,n,bU⟩=>?_) hs
  subst ex
  obtain rfl:gE=Value.ref a:=aB
  rcases bU with ⟨aq,df⟩|⟨d,aR,aq,eA,hl,df⟩
  ·exact Xf a3 aq c n aJ fun s3 d hd dD=>⟨σ,_,dD,df d hd⟩
  ·exact Xx a3 aq eA hl c n aJ fun s3 dD=>⟨σ,_,dD,df⟩⟩
theorem LM:∀{cs:ajG}{us:ajC},Vals (cs.map V.ref) us->us=cs.map Value.ref
 | [],_,.nil=>rfl
 | c::cs,_,.cons r t=>by rw[LM t,show _=Value.ref c from r];rfl
theorem CO (bL:X.K=K):fE X (.builtin "isinstance") (fun xs H Q=>∃a C B d aR fr,H a=some (di fr a C (some d))/\H d=some (ff d aR)/\gk K C B/\
    ((∃D b,xs=[.ref a,.ref D]/\PySem.W.kitOne K (.ref C) (.ref D)=some b/\Q (.aG b) H)\/(∃T b,xs=[.ref a,.ty T]/\PySem.W.kitOne K (.ref C) (.type T)=some b/\Q (.aG b) H)\/
     ∃(dm:Addr) (cs:ajG) (b:Bool),xs=[.ref a,.ref dm]/\H dm=some (.tup (cs.map V.ref))/\PySem.W.kitAny K (.ref C) (cs.map Value.ref)=some b/\Q (.aG b) H)):=by
  subst bL
  intro pins s σ H xs us Q I r h
  obtain ⟨a,C,B,d,aR,fr,aq,eA,c,h⟩:=h
  rcases h with ⟨D,b,rfl,kk,q⟩|⟨T,b,rfl,kk,q⟩|⟨dm,cs,b,rfl,k8,kk,q⟩
  · obtain ⟨u,dn,rfl,aB,aJ⟩:=uS r
    cases aB;cases aJ
    exact J0 I aq eA c kk fun tk=>⟨.aG b,H,I.tok tk,rfl,q⟩
  · obtain ⟨u,dn,rfl,aB,aJ⟩:=uS r
    cases aB;cases aJ
    exact J0 I aq eA c kk fun tk=>⟨.aG b,H,I.tok tk,rfl,q⟩
  · obtain ⟨u,dn,rfl,aB,aJ⟩:=uS r
    cases aB;cases aJ
    obtain ⟨_,its,bg,it⟩:=(show c_ X.prog X.w H s.heap dm (.tup (cs.map V.ref)) from I.aX dm _ k8)
    rw[LM bg]at it
    exact Yp I aq eA c it kk fun tk=>⟨.aG b,H,I.tok tk,rfl,q⟩
end
structure ye (K:ajA)(mg:ajy)(x qual:Str)(st:Stmt)(C B dK:Addr)(fd:FuncData):Prop where
 mg:mg x=some (.ref C)
 cls:∃nm q N bs hdct sn sub ab col dd k0 k1 k2 k3 k5,K.lookup C=some (excClassObj nm q C N bs (.ref B::gb) hdct sn sub ab col dd k0 k1 k2 k3 k5 "ValueError.__new__")
 eo:PySem.W.tailIn K gb (.ref B::gb)=true
 RX:PySem.W.findIn K (.ref C) "__init__"=some (some (.ref dK))
 fn:PySem.W.isFn K (.ref dK)=true
 cR:PySem.W.keepIn K (.ref C)=true
 f:me K "__init__" qual st dK fd
 gK:gk K C B
def ad9 (C:Addr)(sp:b_)(t:cP):TE:=fun σ H Q=>t σ H fun aa H1=>aa.length<=100/\∀aq,H1 aq=none->sp (.ref aq::aa) (upd H1 aq (di true aq C none)) (fun v ag=>v=.bz/\Q (.ref aq) ag) fV
section
variable {X:aO}{x qual:Str}{st:Stmt}{C B dK:Addr}{fd:FuncData}{av:ajD}{k:Nat}{sp:b_}{e:Expr}{aA:ajE}{t:cP}{p pos:Pos}
theorem aei {pins:ajx}{σ:St}{H:ah}{s:Shared}{Q:bW}{us:ajC}{aa:List V}{E:ajv}(S:ye X.K X.mg x qual st C B dK fd)(F:hA X.prog X.w X.K X.mg X.base hz k dK fd av sp)(hr:dI (k+1) X.A)(hb:Binds X.K fd av [])
  (I:Inv X pins σ H s)(r:Vals aa us)(hl:aa.length<=100)(h:∀aq,H aq=none->sp (.ref aq::aa) (upd H aq (di true aq C none)) (fun v ag=>v=.bz/\Q (.ref aq) ag) fV) :
  wpAny (model X.prog X.w) X.A (call (.ref C) us) (fun u ar=>∃aq J,s.heap.objs.size<=aq/\u=.ref aq/\Inv X pins σ J ar/\Q (.ref aq) J) E s:=by
 obtain ⟨nm,q,N,bs,hdct,sn,sub,ab,col,dd,k0,k1,k2,k3,k5,lk⟩:=S.cls
 have len:us.length<=sizeLine:=by rw[<-r.length,afW];lia
 obtain ⟨hp,g,d,tk,os⟩:=s
 refine Yg I.en lk S.eo S.RX S.fn len ?_
 have z1:Heap.get? (hp.push {cls:=.type "tuple",data:=.seq us.toArray}) hp.objs.size=some {cls:=.type "tuple",data:=.seq us.toArray}:=af3 hp rfl
 have aF:=I.kept (h':=hp.push {cls:=.type "tuple",data:=.seq us.toArray}) (t':=tk) (fun b u q=>afL _ q)
 have ge:Heap.get? ((hp.push {cls:=.type "tuple",data:=.seq us.toArray}).push {cls:=.ref C,data:=.fields #[.ref hp.objs.size,.none,.none,.none,.bool false,.none]}) (hp.objs.size+1)=some {cls:=.ref C,data:=.fields #[.ref hp.objs.size,.none,.none,.none,.bool false,.none]}:=by heap_get
 have a3:=aF.laid (a:=hp.objs.size+1) (o:=di true (hp.objs.size+1) C none) (h':=(hp.push {cls:=.type "tuple",data:=.seq us.toArray}).push {cls:=.ref C,data:=.fields #[.ref hp.objs.size,.none,.none,.none,.bool false,.none]}) (t':=tk) (fun b u q=>afL _ q) (Nat.le_of_eq (ahb _ _)) (DK ge rfl rfl rfl ⟨by show 1<6;decide,rfl⟩ (fun _=>⟨rfl,rfl,by show 4<6;decide⟩))
 have aM:=h (hp.objs.size+1) (I.aX.fresh (ahz _))
 have bt:Vals (V.ref (hp.objs.size+1)::aa) (Value.ref (hp.objs.size+1)::us):=.cons rfl r
 have zq:(Value.ref (hp.objs.size+1)::us++[]).length=av.length:=by
  have z:=bt.length
  rw[F.len _ _ _ _ aM]at z
  rw[agc];exact z.symm
 have j5:=hb _ (Value.ref (hp.objs.size+1)::us) a3.en zq
 rw[agc]at j5
 refine ahk (ahl (F.run _ X.stack _ _ ⟨Value.ref (hp.objs.size+1)::us,[]⟩ (Value.ref (hp.objs.size+1)::us) _ _ fV (hr.make C us []) (a3.yN.make C us []) j5 bt aM) fun r ar iY=>?_)
 cases r with
 | error e=>exact False.elim iY
 | ok dE =>
  cases dE with
  | ret u=>
   obtain ⟨v,J,dD,bg,ev,df⟩:=a3.after iY
   subst ev
   exact ⟨bg,hp.objs.size+1,J,ahz _,rfl,dD,df⟩
  | next=>exact False.elim iY
  | brk=>exact False.elim iY
  | cont=>exact False.elim iY
def K3 (C:Addr)(sp:b_)(bF:fZ)(t:cP):cT:=fun _ σ H=>ad9 C sp t σ H fun v ag=>∃aq aD,v=.ref aq/\ag aq=some (di true aq C (some aD))/\bF σ (.ref C) (some aq) (upd ag aq (di false aq C (some aD)))
theorem jL {bF:fZ}{np eG:Pos}(S:ye X.K X.mg x qual st C B dK fd)(F:hA X.prog X.w X.K X.mg X.base hz k dK fd av sp)(hr:dI (k+1) X.A)(hb:Binds X.K fd av [])(hx:uQ X bF)(ha:gP X (e::aA) t)
  (hg:eF X x:=by rfl)(hdb:(x == ("__debug__":Str))=false:=by decide)(he:starEach (e::aA) X.env=(false,eval e X.env)::starEach aA X.env:=by rfl)(hpl:(backTo eG (starEach aA X.env)).any (·.1)=false:=by rfl) :
  gy X (.Raise (some (.Call (.Name x np) (e::aA) [] eG)) none pos) (K3 C sp bF t):=⟨by
 intro pins s σ H D I h
 obtain ⟨nm,q,N,bs,hdct,sn,sub,ab,col,dd,k0,k1,k2,k3,k5,lk⟩:=S.cls
 rw[arm_exec_Raise]
 refine afB (ags (ZI (C:=C) (nm:=nm) (q:=q) (N:=N) (bs:=bs) (bm:=.ref B::gb) (hdct:=hdct) (sn:=sn) (sub:=sub) (ab:=ab) (col:=col) (dd:=dd) (k0:=k0) (k1:=k1) (k2:=k2) (k3:=k3) (k5:=k5) (newId:="ValueError.__new__") (by simp[gb]) hr.hd ?_))
 refine afB (agP (uD I hg S.mg ?_ hdb))
 refine aiO (h₀:=X.base) I.ok.mod.tu S.cR (bk (ha.o eG pins s σ H _ I h) fun us s1 ⟨aa,H1,aF,r,hl,aL⟩=>⟨aF.en,?_⟩) he hpl
 refine bk (aei (E:=X.ct) (Q:=fun v ag=>∃aq aD,v=.ref aq/\ag aq=some (di true aq C (some aD))/\bF σ (.ref C) (some aq) (upd ag aq (di false aq C (some aD)))) S F hr hb aF r hl aL) fun u s2 z=>?_
 obtain ⟨aq,ag,eL,rfl,a3,iR,aD,ev,az,aI⟩:=z
 cases ev
 refine afB (ags (afF ?_))
 obtain ⟨c2,aft,g,ai,cD,gA,hS,yJ⟩:=nY (a3.aX aq _ az)
 obtain ⟨e_,Ab,Aa,g9⟩:=c2
 cases ai;cases cD;cases gA
 exact ⟨aq,_,_,_,rfl,a3.en _ _ lk,g,(yJ rfl).1,hx pins σ H1 ag s1 s2 aq C aD aF eL a3 az aI⟩⟩
end
section
variable {M:Model}{A:Around}{E:ajv}{K:ajA}
variable {nm q:Str}{D N:Addr}{bs bm:ajC}{hdct:Bool}{sn:ajD}{sub:ajC}{ab:Bool}{col:Option Bool}{dd:ajF}{k0 k1 k2 k3 k5:Option Value}{newId:String}
theorem aaO {s:Shared}{e C:Addr}{c2:Obj}{Q:Bool->Shared->Prop}(X:K.In s.heap)(lk:K.lookup D=some (excClassObj nm q D N bs bm hdct sn sub ab col dd k0 k1 k2 k3 k5 newId))(hb:bm.contains (.type "BaseException")=true)
  (he:s.heap.get? e=some c2)(hc:c2.cls=.ref C)(hm:PySem.W.mroIn K C (.ref D)=some true)(k:Q true s):wpAny M A (excMatches (.ref e) (.ref D)) Q E s:=by
 have Gb:=X _ _ lk
 have yp:(Value.ref D::bm).contains (.type "BaseException")=true:=by rw[ajc,hb,Bool.or_true]
 have ae0:=tc_notTuple
 have lm:=PySem.W.looks_mroIn (M:=M) X hm
 obtain ⟨hp,g,d,tk,os⟩:=s
 unfold excMatches
 repeat (first|(with_reducible refine ag5 he ?_;rw[hc])|with_reducible refine ag5 Gb ?_|(with_reducible refine ajb Gb ?_;rw[yp])|(with_reducible refine lm.at ?_)|wp_step)
 exact k
end
section
variable {X:aO}{pins:ajx}{σ:St}{H:ah}{s:Shared}
theorem Inv.unbind {M:Model}{A:Around}{E:ajv}{i:Nat}{x:Str}{Q:ajw}{v:V}(I:Inv X pins σ H s)(hN:X.N.Nodup)(hi:X.N[i]?=some x)(hk:X.env.kindOf x=some .local)(hv:σ[i]?=some (some v))
  (k:∀ar,Inv X pins (σ.set i none) H ar->Q () ar):wpAny M A (unbindName X.env x) Q E s:=by
 obtain ⟨m,hn,hl⟩:=id I.loc
 have vT:i<σ.length:=by rw[I.len];exact (agf.mp hi).1
 obtain ⟨u,fz,lk⟩:=hl i x v hi hv (.inl hk)
 have iq:m x=some u:=by
  rcases lk with ⟨_,z⟩|⟨z,_⟩
  ·exact z
  ·rcases z with z|z<;>(rw[hk]at z;cases z)
 refine wpAny_unbindName_local hk hn iq (by rw[I.ok.kind];rfl) fun h' gI ta hs=>?_
 obtain ⟨z_,_,_,rh,_⟩:=id hn
 have lM:=I.lM
 refine k _ ⟨I.ok,I.os,I.bare,⟨fun b o e n hb hx=>?_,fun b o e n hb hx=>?_,I.base.free,fun b o e hx=>?_,I.base.jE,I.base.iU,I.base.jD⟩,⟨_,ta,fun j y jF ai az cD=>?_⟩,fun y c e=>?_,I.free,I.g6,fun p hp=>?_,fun b b2 e=>?_,by simpa using I.len⟩
 ·exact (hs.2 b (af4 (af0 (afH e) I.ok.above))).trans (I.base.keep b o e n hb hx)
 ·obtain ⟨bR,ai⟩:=I.base.slot b o e n hb hx
  exact ⟨bR,(hs.2 b (af4 (af0 (afH e) I.ok.above))).trans ai⟩
 ·obtain ⟨dR,ai⟩:=I.base.there b o e hx
  exact ⟨dR,(hs.2 b (af4 (af0 (afH e) I.ok.above))).trans ai⟩
 ·by_cases hj:j=i
  ·subst hj
   rw[ah7 vT]at az
   cases az
  ·rw[aiF (af_ hj)]at az
   obtain ⟨dn,bJ,z⟩:=hl j y jF ai az cD
   refine ⟨dn,bJ,?_⟩
   rcases z with ⟨cO,e⟩|⟨cO,c,e,z⟩
   ·refine .inl ⟨cO,?_⟩
    have:y≠x:=fun e=>hj (CI hN ai (e▸hi))
    show (if y=x then gI else m y)=some dn
    rw[afC this];exact e
   ·exact .inr ⟨cO,c,e,z.sameBut hs (lM y c e)⟩
 ·obtain ⟨dn,z⟩:=I.cell y c e
  exact ⟨dn,z.sameBut hs (lM y c e)⟩
 ·obtain ⟨e,n,ne,jy,d⟩:=I.pin p hp
  exact ⟨(hs.2 p.1 ne).trans e,n,ne,jy,d⟩
 ·refine (I.aX b b2 e).f_ (fun c dn hc z=>(hs.2 c ?_).trans z) (fun _ z=>z) fun _ _ z=>z
  rintro rfl
  rcases hc with z|hc
  ·have:=I.free;rw[z,e]at this;cases this
  ·have:=I.free;rw[hc]at this;cases this
abbrev aO.gG (X:aO)(aq:Addr):aO:={X with A:=X.A.mark (some (.ref aq)),calm:=false,ct:=fun _ _=>False}
theorem aO.Ok.gG (ok:X.Ok)(aq:Addr):(X.gG aq).Ok:=⟨ok.mod,ok.kind,ok.glob,ok.blt,ok.above,ok.inj,ok.has,ok.lL,(fun z=>by cases z),ok.frames,ok.nG,ok.pL,ok.bs,ok.ij,ok.lX,ok.lQ,ok.hT,ok.k_⟩
theorem Inv.gG (I:Inv X pins σ H s)(aq:Addr):Inv (X.gG aq) pins σ H s:=⟨I.ok.gG aq,I.os,I.bare,I.base,I.loc,I.cell,I.free,I.g6,I.pin,I.aX,I.len⟩
theorem Inv.Ws {aq:Addr}(ok:X.Ok)(I:Inv (X.gG aq) pins σ H s):Inv X pins σ H s:=⟨ok,I.os,I.bare,I.base,I.loc,I.cell,I.free,I.g6,I.pin,I.aX,I.len⟩
end
def Mq (K:ajA)(D:Addr)(i:Nat)(ts:cT)(W:Ends):fZ:=fun aE c h6 J=>∃C aq,c=.ref C/\h6=some aq/\PySem.W.mroIn K C (.ref D)=some true/\
 ts {nx:=fun bZ ag=>W.nx (bZ.set i none) ag,eT:=W.eT,d8:=fun _ _=>False,cq:=fun _ _=>False} (aE.set i (some (.ref aq))) J
abbrev aO.h3 (X:aO)(F:ajv)(de:ajx):aO:={X with ct:=F,de:=de}
section
variable {X:aO}{pins:ajx}{σ:St}{H:ah}{s:Shared}{F:ajv}
variable {de:ajx}
theorem aO.Ok.h3 {de:ajx}(ok:X.Ok):(X.h3 F de).Ok:=⟨ok.mod,ok.kind,ok.glob,ok.blt,ok.above,ok.inj,ok.has,ok.lL,ok.hd,ok.frames,ok.nG,ok.pL,ok.bs,ok.ij,ok.lX,ok.lQ,ok.hT,ok.k_⟩
theorem Inv.h3 (I:Inv X pins σ H s):Inv (X.h3 F (X.de++pins)) [] σ H s:=⟨I.ok.h3,I.os,I.bare,I.base,I.loc,I.cell,I.free,I.g6,fun p hp=>I.pin p (by rw[agc]at hp;exact hp),I.aX,I.len⟩
theorem Inv.t9 (ok:X.Ok)(I:Inv (X.h3 F (X.de++pins)) de σ H s):Inv X pins σ H s:=⟨ok,I.os,I.bare,I.base,I.loc,I.cell,I.free,I.g6,fun p hp=>I.pin p (agA _ hp),I.aX,I.len⟩
theorem Inv.vJ {b:Addr}{ar:Shared}(I:Inv X de σ H ar)(h:ar.heap.objs.size<=b):(b∈X.ex\/X.bf.heap.objs.size<=b)/\b≠X.env.locals/\(∀x c,X.env.cells.lookup x=some c->c≠b)/\∀p∈X.de++de,p.1≠b:=
 ⟨.inr (I.old h),fun z=>absurd (af0 I.lt h) (by rw[z];exact agl _),fun x c e z=>by
  obtain ⟨v,o,ho,_⟩:=I.cell x c e
  rw[z]at ho;exact absurd (af0 (afH ho) h) (agl _),fun p hp z=>by
  have:=(I.pin p hp).1
  rw[z]at this;exact absurd (af0 (afH this) h) (agl _)⟩
theorem I9 {H1:ah}{s1:Shared}{h2:Heap}{no:ajG}{aq C aD T:Addr}{dE:Value}{b:Bool}(I:Inv X de σ H1 s1)(x:lF (eJ X.stack) no s1.heap h2)
  (kg:∀b∈no,(b=aq\/H1 b=none)/\(b∈X.ex\/X.bf.heap.objs.size<=b)/\b≠X.env.locals/\(∀x c,X.env.cells.lookup x=some c->c≠b)/\∀p∈X.de++de,p.1≠b)
  (u:ih aq (.ref C) (some aD) dE T h2)(e:H1 aq=some (di b aq C (some aD))):Inv X de σ (upd H1 aq (di false aq C (some aD))) {s1 with heap:=h2}:=by
 have ne:∀c v,H1 c=some v->(∀kX,v≠di kX aq C (some aD))->c≠aq:=fun c v q n z=>by rw[z,e]at q;cases q;exact n b rfl
 refine I.yu (ch:=no) rfl ⟨fun c o q n hb hx=>(x c o q hx).1 hb,fun c o q n hb hx=>(x c o q hx).2,fun c o q n hx=>?_,fun c o q hx=>let ⟨_,z⟩:=(x c o q hx).2;⟨_,z⟩,fun c xs q=>?_,fun c o xs q=>?_,fun c av q=>⟨#[],?_⟩⟩ (fun c o q=>?_) I.bare fun c hc=>(kg c hc).2
 ·rw[br (fun z=>by rw[z,e]at n;cases n)];exact n
 ·rw[br (ne c _ q fun _ z=>by cases z)];exact q
 ·rw[br (ne c _ q fun _ z=>by cases z)];exact q
 ·rw[br (ne c _ q fun _ z=>by cases z),q];simp
 ·by_cases z:c=aq
  ·subst z
   rw[bo]at q;cases q
   exact KS u
  ·rw[br z]at q
   have tE:∀c v,H1 c=some v->c∉eJ X.stack:=fun c v q m=>by
    have:=I.t2 c m
    rw[q]at this;cases this
   have nn:∀c v,H1 c=some v->c≠aq->c∉no:=fun c v q n m=>by
    rcases (kg c m).1 with r|r
    ·exact n r
    ·rw[r]at q;cases q
   refine (I.aX c o q).f_ (fun bG v hc r=>?_) (fun bG r=>?_) fun bG xs r=>?_
   ·rcases hc with rfl|hc
    ·exact (x bG v r (nn bG o q z)).1 (tE bG o q)
    ·exact (x bG v r (nn bG _ hc (ne bG _ hc fun _ z=>by cases z))).1 (tE bG _ hc)
   ·rw[br (ne bG _ r fun _ z=>by cases z)];exact r
   ·rw[br (ne bG _ r fun _ z=>by cases z)];exact r
end
section
variable {X:aO}{nm q:Str}{D N:Addr}{bs bm:ajC}{hdct:Bool}{sn:ajD}{sub:ajC}{ab:Bool}{col:Option Bool}{dd:ajF}{k0 k1 k2 k3 k5:Option Value}{newId:String}
variable {pF:Stmt}{gG body:List Stmt}{ts:cT}{i:Nat}{pos:Pos}{aY:fZ->cT}
theorem Zj {pins:ajx}{σ:St}{H:ah}{s:Shared}{x n:Str}{np mw:Pos}{rest:List ExceptHandler}{W:Ends}{aq C aD T:Addr}
  (hN:X.N.Nodup)(hi:X.N[i]?=some n)(hk:X.env.kindOf n=some .local)(hg:eF X x)(hm:X.mg x=some (.ref D))(lk:X.K.lookup D=some (excClassObj nm q D N bs bm hdct sn sub ab col dd k0 k1 k2 k3 k5 newId))(hb:bm.contains (.type "BaseException")=true)
  (hs:ic (X.gG aq) (pF::gG) ts)(I:Inv X pins σ H s)(e:H aq=some (di false aq C (some aD)))(cG:(T∈X.ex\/X.bf.heap.objs.size<=T)/\T≠X.env.locals/\(∀x c,X.env.cells.lookup x=some c->c≠T)/\∀p∈X.de++pins,p.1≠T)
  (T0:H T=none)(u:ih aq (.ref C) (some aD) .none T s.heap)(zX:PySem.W.mroIn X.K C (.ref D)=some true)
  (h:ts {nx:=fun bZ ag=>W.nx (bZ.set i none) ag,eT:=W.eT,d8:=fun _ _=>False,cq:=fun _ _=>False} (σ.set i (some (.ref aq))) H)(hdb:(x == ("__debug__":Str))=false) :
  wpAny (model X.prog X.w) X.A (handleBy (.ref aq) X.env (.ExceptHandler (some (.Name x np)) (some n) (pF::gG) mw::rest)) (ji X pins W) X.ct s:=by
 obtain ⟨c2,aa,g,ai,az,cD,gA,hS⟩:=nY (I.aX aq _ e)
 refine wpAny_handleBy_cons (codeAny_handlers_test (uD (I.gG aq) hg hm (aaO I.en lk hb g ai zX (codeAny_handlers_suite_as ?_)) hdb)) (by intro z;cases z)
 refine wM u fun h2 y eM=>?_
 have ue:lF (eJ X.stack) [T] s.heap h2:=fun b o bD z=>⟨fun _=>(y b o bD z).1 (by simp),(y b o bD z).2⟩
 have a3:=I9 I ue (fun b z=>by rw[af2.mp z];exact ⟨.inr T0,cG⟩) eM e
 rw[CB e]at a3
 refine ql a3 hN hi (.inl hk) (show RelV (.ref aq) (.ref aq) from rfl) (fun s3 dD=>?_) (.inr hk)
 refine afV (hs.o pins s3 _ H _ (dD.gG aq) h) (fun f s4 z=>?_) fun _ _ z=>z.elim
 have fin:∀{aE:St}{J:ah},Inv (X.gG aq) pins aE J s4->(∀s5,Inv X pins (aE.set i none) J s5->ji X pins W f s5)->
   wpAny (model X.prog X.w) X.A (do bindName X.env n .none;unbindBehindTheSuite X.env n mw) (fun _ s5=>ji X pins W f s5) X.ct s4:=fun {aE J} bV k=>by
  have EI:=Inv.Ws I.ok bV
  have RV:i<aE.length:=by rw[EI.len];exact (agf.mp hi).1
  refine afB (aiI (ql EI hN hi (.inl hk) (show RelV .bz .none from rfl) (fun s5 sq=>?_) (.inr hk)))
  unfold unbindBehindTheSuite
  refine wpAny_onRaise (sq.unbind hN hi hk (v:=.bz) (ah7 RV) fun jC EJ=>?_)
  rw[List.set_set]at EJ
  exact k jC EJ
 cases f with
 | next=>
  obtain ⟨aE,J,bV,z⟩:=z
  exact fin bV fun s5 sq=>⟨_,J,sq,z⟩
 | ret v=>
  obtain ⟨jF,aE,J,bV,bg,z⟩:=z
  exact fin bV fun s5 sq=>⟨jF,_,J,sq,bg,z⟩
 | brk=>
  obtain ⟨_,_,_,z⟩:=z
  exact z.elim
 | cont=>
  obtain ⟨_,_,_,z⟩:=z
  exact z.elim
theorem adg {h0:ExceptHandler}{bF:Ends->fZ}(st:X.stack=X.env::X.outer/\X.env.frame=some X.env.locals)
  (hb:∀F de bF,uY (X.h3 F de) bF->uQ (X.h3 F de) bF->ic (X.h3 F de) body (aY bF))
  (hc:∀(pins:ajx)(σ:St)(H:ah)(s:Shared)(W:Ends)(aq C aD T:Addr),Inv X pins σ H s->H aq=some (di false aq C (some aD))->H T=none->
   ((T∈X.ex\/X.bf.heap.objs.size<=T)/\T≠X.env.locals/\(∀x c,X.env.cells.lookup x=some c->c≠T)/\∀p∈X.de++pins,p.1≠T)->ih aq (.ref C) (some aD) .none T s.heap->bF W σ (.ref C) (some aq) H->
   wpAny (model X.prog X.w) X.A (handleBy (.ref aq) X.env [h0]) (ji X pins W) X.ct s):gy X (.Try body [h0] [] [] pos) (fun W σ H=>aY (bF W) W σ H):=⟨by
 intro pins s σ H W I h
 obtain ⟨oQ,hJ⟩:=st
 refine wpAny_Try_except ?_
 let F:Value->Shared->Prop:=fun e s1=>wpAny (model X.prog X.w) X.A (noteFrame e X.env) (fun _ s2=>wpAny (model X.prog X.w) X.A (setFlight e none) (fun _ s3=>wpAny (model X.prog X.w) X.A (handleBy e X.env [h0]) (ji X pins W) X.ct s3) X.ct s2) X.ct s1
 have land:∀{de:ajx}{aE:St}{H1:ah}{s1:Shared}{h':Heap}{no:ajG}{aq C aD T:Addr}{b:Bool},Inv (X.h3 F (X.de++pins)) de aE H1 s1->lF (eJ X.stack) no s1.heap h'->
   (∀b∈no,(b=aq\/H1 b=none)/\(b∈X.ex\/X.bf.heap.objs.size<=b)/\b≠X.env.locals/\(∀x c,X.env.cells.lookup x=some c->c≠b)/\∀p∈(X.de++pins)++de,p.1≠b)->s1.heap.objs.size<=T->
   ih aq (.ref C) (some aD) (rawInt X.env.locals) T h'->H1 aq=some (di b aq C (some aD))->bF W aE (.ref C) (some aq) (upd H1 aq (di false aq C (some aD)))->
   wpAny (model X.prog X.w) X.A (setFlight (.ref aq) none) (fun _ s3=>wpAny (model X.prog X.w) X.A (handleBy (.ref aq) X.env [h0]) (ji X pins W) X.ct s3) X.ct {s1 with heap:=h'}:=by
  intro de aE H1 s1 h' no aq C aD T b aF x kg cG u e aI
  refine wM (s:={s1 with heap:=h'}) u fun h2 y eM=>?_
  have pN:=aF.vJ cG
  have T0:H1 T=none:=aF.aX.fresh cG
  have nB:T≠aq:=fun z=>by rw[z,e]at T0;cases T0
  have kA:lF (eJ X.stack) (T::no) s1.heap h2:=fun c o bD n=>by
   obtain ⟨a1,bR,a2⟩:=x c o bD fun z=>n (af5 _ z)
   have a_:c∉[T]:=fun z=>n (by rw[af2.mp z];exact af6 ..)
   exact ⟨fun m=>(y c o (a1 m) a_).1 (by simp),bR,(y c _ a2 a_).1 (by simp)⟩
  have a3:=I9 aF kA (fun c hc=>by
   rcases afP.mp hc with rfl|hc
   ·exact ⟨.inr T0,pN⟩
   ·exact kg c hc) eM e
  exact hc pins aE _ _ W aq C aD T (Inv.t9 I.ok a3) bo (by rw[br nB];exact T0) ⟨pN.1,pN.2.1,pN.2.2.1,fun p hp=>pN.2.2.2 p (agA _ hp)⟩ eM aI
 have hp:uY (X.h3 F (X.de++pins)) (bF W):=fun de aE bC s0 e s1 lB hx=>by
  obtain ⟨aq,C,aD,T,H1,rfl,bM,fN,un,ok,eL,gp,t1,cj,u,k⟩:=hx
  have aF:Inv (X.h3 F (X.de++pins)) de aE H1 s1:=lB.yu bM un ok fN (fun b z=>absurd z (by simp))
  have fr:X.A.frames=some (X.env::X.outer):=by rw[<-oQ];exact aF.ok.frames
  have dE:s1.heap.FunFrames X.base (X.env::X.outer):=by rw[<-oQ];exact aF.stack
  refine Kn fr dE hJ u fun h' gz cG x gI=>?_
  rw[<-oQ]at x
  have f1:=lB.vJ eL
  have f2:=lB.vJ gp
  refine land aF x (fun b z=>?_) cG gI t1 (by rw[CB t1];exact k)
  rcases afP.mp z with rfl|z
  ·exact ⟨.inl rfl,f1⟩
  ·rw[af2.mp z];exact ⟨.inr cj,f2⟩
 have hr:uQ (X.h3 F (X.de++pins)) (bF W):=fun de aE bC H1 s0 s1 aq C aD lB hs aF e k=>by
  have fr:X.A.frames=some (X.env::X.outer):=by rw[<-oQ];exact aF.ok.frames
  have dE:s1.heap.FunFrames X.base (X.env::X.outer):=by rw[<-oQ];exact aF.stack
  obtain ⟨c2,aa,g,ai,az,cD,gA,hS⟩:=nY (aF.aX aq _ e)
  refine JH fr dE hJ g cD (hS rfl).1 gA.2 fun h' gz cG x gI=>?_
  rw[<-oQ]at x
  rw[ai,az]at gI
  have f1:=lB.vJ hs
  exact land aF x (fun b z=>by rw[af2.mp z];exact ⟨.inl rfl,f1⟩) cG gI e k
 refine afV ((hb F _ _ hp hr).o [] s σ H W I.h3 h) (fun f s4 z=>?_) fun _ _ z=>z
 cases f with
 | next=>
  obtain ⟨aE,J,bV,z⟩:=z
  exact ahE ⟨aE,J,Inv.t9 I.ok bV,z⟩
 | ret v=>
  obtain ⟨jF,aE,J,bV,bg,z⟩:=z
  exact ⟨jF,aE,J,Inv.t9 I.ok bV,bg,z⟩
 | brk=>
  obtain ⟨aE,J,bV,z⟩:=z
  exact ⟨aE,J,Inv.t9 I.ok bV,z⟩
 | cont=>
  obtain ⟨aE,J,bV,z⟩:=z
  exact ⟨aE,J,Inv.t9 I.ok bV,z⟩⟩
structure Ik (K:ajA)(D:Addr)(i:Nat)(aY:fZ->cT)(ts:cT)(W:Ends)(σ:St)(H:ah):Prop where
 o:aY (Mq K D i ts W) W σ H
theorem ZL {x n:Str}{np mw:Pos}(st:X.stack=X.env::X.outer/\X.env.frame=some X.env.locals)(hN:X.N.Nodup)(hi:X.N[i]?=some n)(hk:X.env.kindOf n=some .local)
  (hg:eF X x)(hm:X.mg x=some (.ref D))(lk:X.K.lookup D=some (excClassObj nm q D N bs bm hdct sn sub ab col dd k0 k1 k2 k3 k5 newId))(Ra:bm.contains (.type "BaseException")=true)
  (hb:∀F de bF,uY (X.h3 F de) bF->uQ (X.h3 F de) bF->ic (X.h3 F de) body (aY bF))(hs:∀aq,ic (X.gG aq) (pF::gG) ts)(hdb:(x == ("__debug__":Str))=false:=by decide) :
  gy X (.Try body [.ExceptHandler (some (.Name x np)) (some n) (pF::gG) mw] [] [] pos) (Ik X.K D i aY ts):=
 have z:=adg (h0:=.ExceptHandler (some (.Name x np)) (some n) (pF::gG) mw) (pos:=pos) (bF:=Mq X.K D i ts) st hb fun pins σ H s W aq C aD T I e T0 cG u k=>by
  obtain ⟨kQ,iR,dJ,cB,zX,h⟩:=k
  cases dJ;cases cB
  exact Zj hN hi hk hg hm lk Ra (hs aq) I e cG T0 u zX h hdb
 ⟨fun pins s σ H W I h=>z.o pins s σ H W I h.o⟩
end
abbrev cx (K:ajA)(x:Str)(C:Addr):Prop:=PySem.W.nsIn K mainGlobals x=some (some (.ref C))
theorem cx.inj {K:ajA}{x:Str}{C D:Addr}(h:cx K x C)(k:cx K x D):C=D:=by
 have z:=h.symm.trans k
 injection z with z;injection z with z;injection z
def xj (K:ajA)(x:Str)(aR:List (Str×V))(H:ah)(E:fg):Prop:=∀C aq aD J,cx K x C->H aq=none->H aD=none->bb H J->J aq=some (di false aq C (some aD))->J aD=some (ff aD aR)->E (.ref C) (some aq) J
theorem bb.none {A B:ah}{b:Addr}(s:bb A B)(h:B b=none):A b=none:=by
 cases e:A b with
 | none=>rfl
 | some o=>rw[s b o e]at h;cases h
def sf (K:ajA)(f g:Str):b_:=fun aa H Q _=>∃aq C B v u,aa=[.ref aq,v,u]/\H aq=some (di true aq C none)/\gk K C B/\PySem.W.findIn K (.ref C) f=some none/\PySem.W.findIn K (.ref C) g=some none/\
 ∀d,H d=none->Q .bz (upd (upd (upd H d (ff d [(f,v)])) aq (di true aq C (some d))) d (ff d (gY g u [(f,v)])))
structure lK (K:ajA)(mg:ajy)(x qual:Str)(st:Stmt)(aR:ajD)(C B dK:Addr)(fd:FuncData):Prop where
 s:ye K mg x qual st C B dK fd
 ns:cx K x C
 nb:cx K "PowerError" B
 free:∀f∈aR,PySem.W.findIn K (.ref C) f=some none
theorem CU {K:ajA}{C B:Addr}{nm q:Str}{N:Addr}{bs:ajC}{sn:ajD}{sub:ajC}{ab:Bool}{col:Option Bool}{dd:ajF}{k0 k1 k2 k3 k5:Option Value}
  (l:K.lookup C=some (excClassObj nm q C N bs (.ref B::gb) true sn sub ab col dd k0 k1 k2 k3 k5 "ValueError.__new__"))
  (hX:PySem.W.findIn K (.ref C) "__setattr__"=some (some (.builtin "object.__setattr__")))(ga:PySem.W.findIn K (.ref C) "__getattribute__"=some (some (.builtin "BaseException.__getattribute__")))
  (sT:PySem.W.findIn K (.ref C) "__getattr__"=some none)(ca:PySem.W.findIn K (.ref C) "__class__"=some (some (.builtin "object.__class__")))
  (q4:PySem.W.specialIn K (.builtin "object.__class__") "__get__"=some (some (.builtin "getset_descriptor.__get__")))(cq:PySem.W.takesIn K (.builtin "object.__class__")=some true):gk K C B:=
 ⟨⟨_,by unfold PySem.W.clsIn;rw[l],rfl,rfl⟩,hX,ga,sT,ca,q4,cq⟩
section
variable {K:ajA}{mg:ajy}{x qual f g:Str}{st:Stmt}{C B dK:Addr}{fd:FuncData}{H:ah}{E:fg}{u v:V}{aR:ajD}
theorem XK (S:lK K mg x qual st aR C B dK fd)(hf:f∈aR)(hg:g∈aR)(k:xj K x (gY g u [(f,v)]) H E):[v,u].length<=100/\∀aq,H aq=none->sf K f g (.ref aq::[v,u]) (upd H aq (di true aq C none))
  (fun w ag=>w=.bz/\∃iR aD,V.ref aq=.ref iR/\ag iR=some (di true iR C (some aD))/\E (.ref C) (some iR) (upd ag iR (di false iR C (some aD)))) fV:=by
 refine ⟨by show 2<=100;decide,fun aq h0=>⟨aq,C,B,v,u,rfl,bo,S.s.gK,S.free f hf,S.free g hg,fun d hd=>?_⟩⟩
 have aT:d≠aq:=fun z=>by rw[z,bo]at hd;cases hd
 have pT:H d=none:=by rw[br aT]at hd;exact hd
 refine ⟨rfl,aq,d,rfl,by rw[br (af_ aT),bo],?_⟩
 refine k C aq d _ S.ns h0 pT (fun b o q=>?_) bo (by rw[br aT,bo])
 have ax:b≠aq:=eN q h0
 have a_:b≠d:=eN q pT
 rw[br ax,br a_,br ax,br a_,br ax];exact q
end
variable {mg:ajy}{qual:Str}{st:Stmt}{dK:Addr}{fd:FuncData}{aR:ajD}
theorem Eo {P:Program}{w:World}{K:ajA}{base:Heap}{f g:Str}{dG b8 fO tJ rv Hc Hd He:Pos}(F:me K "__init__" qual st dK fd)
  (S:b0 ["self",f,g] ["self",f,g] (bu st))(hb:gc st=[.Assign [.Attribute (.Name "self" dG) f b8] (.Name f fO) tJ,.Assign [.Attribute (.Name "self" rv) g Hc] (.Name g Hd) He])
  (v0:m7 (bu st) "self")(v1:m7 (bu st) f)(v2:m7 (bu st) g)(eH:(f == ("__debug__":Str))=false)(dw:(f == ("__classdict__":Str))=false)(ec:(g == ("__debug__":Str))=false)(fJ:(g == ("__classdict__":Str))=false)
  (s1:∀env,swapsWith (.Name f fO) (some (.Attribute (.Name "self" dG) f b8)) tJ.line env=pure false)(s2:∀env,swapsWith (.Name g Hd) (some (.Attribute (.Name "self" rv) g Hc)) He.line env=pure false) :
  hA P w K mg base hz 1 dK fd ["self",f,g] (sf K f g):=by
 refine F.ok S (fun aa H Q E h=>?_) fun a6 A outer s H aa Q E hr h=>?_
 ·obtain ⟨aq,C,B,v,u,rfl,_⟩:=h
  rfl
 obtain ⟨aq,C,B,v,u,rfl,h1,h2,aQ,bS,k⟩:=h
 rw[hb]
 refine ⟨_,(aV (Jy (K:=K) rfl (w9 (i:=0) rfl v0 (by decide) (by decide)) (w9 (i:=1) rfl v1 eH dw) (s1 _)) (aW (Jy (K:=K) rfl (w9 (i:=0) rfl v0 (by decide) (by decide)) (w9 (i:=2) rfl v2 ec fJ) (s2 _)))).o,?_⟩
 refine ⟨v,rfl,.ref aq,rfl,aq,C,B,true,rfl,h2,aQ,.inl ⟨h1,fun d hd=>?_⟩⟩
 have aT:d≠aq:=fun z=>by rw[z,h1]at hd;cases hd
 exact ⟨u,rfl,.ref aq,rfl,aq,C,B,true,rfl,h2,bS,.inr ⟨d,[(f,v)],bo,by rw[br aT,bo],by show 1<100;decide,k d hd⟩⟩
theorem D6 {K:ajA}{x:Str}{C B kQ D:Addr}(S:lK K mg x qual st aR C B dK fd)(ee:cx K x kQ)(bq:cx K "PowerError" D):PySem.W.mroIn K kQ (.ref D)=some true:=by
 have ai:=cx.inj ee S.ns
 have az:=cx.inj bq S.nb
 subst ai az
 rw[S.s.gK.mro]
 simp
theorem Ce {K:ajA}{x:Str}{C B kQ:Addr}(S:lK K mg x qual st aR C B dK fd)(ee:cx K x kQ):gk K kQ B:=by
 have ai:=cx.inj ee S.ns
 subst ai
 exact S.s.gK
theorem r9 {K:ajA}{x f:Str}{C B kQ:Addr}(S:lK K mg x qual st aR C B dK fd)(ee:cx K x kQ)(hf:f∈aR):PySem.W.findIn K (.ref kQ) f=some none:=by
 have ai:=cx.inj ee S.ns
 subst ai
 exact S.free f hf
theorem abS {K:ajA}{D:Addr}{i:Nat}{aY:fZ->cT}{ts:cT}{W:Ends}{σ:St}{H:ah}(EF:fZ)(key:∀aE c h6 J,EF aE c h6 J->∃C aq,c=.ref C/\h6=some aq/\PySem.W.mroIn K C (.ref D)=some true/\
  ts {nx:=fun bZ ag=>W.nx (bZ.set i none) ag,eT:=W.eT,d8:=fun _ _=>False,cq:=fun _ _=>False} (aE.set i (some (.ref aq))) J)
  (k:∀bF:fZ,(∀aE c h6 J,EF aE c h6 J->bF aE c h6 J)->aY bF W σ H):Ik K D i aY ts W σ H:=⟨k _ key⟩
def sl (K:ajA)(x:Str)(aR:List (Str×V))(H:ah):fg:=fun c h6 J=>∃C aq aD,c=.ref C/\h6=some aq/\cx K x C/\bb H J/\J aq=some (di false aq C (some aD))/\J aD=some (ff aD aR)
theorem sl.raises {K:ajA}{x:Str}{aR:List (Str×V)}{H H1:ah}{E:fg}(h:∀c h6 J,sl K x aR H c h6 J->E c h6 J)(s:bb H H1):xj K x aR H1 E:=fun C aq aD J ee _ _ ar ai az=>h _ _ _ ⟨C,aq,aD,rfl,rfl,ee,s.trans ar,ai,az⟩
theorem aem (z:Int):Rat.divInt z 1=(z:Rat):=by
 rw[Rat.divInt_eq_div];show (z:Rat)/1=z;grind
section
variable {X:aO}
variable {a8:TE}{ts:kS}
def DN (K:ajA)(a8:TE)(ts:kS):TE:=fun σ H Q=>a8 σ H fun x H1=>ts σ H1 fun o ag=>o=some (-1)/\∃a xs,x=.ref a/\bP K ag a xs/\∀p,ag p=none->Q (.ref p) (upd ag p (.lst xs.reverse))
theorem Z5 {e st:Expr}{fO pos:Pos}(he:bN X e a8)(hs:qS X (some st) ts):bN X (.Subscript e (.Slice none none (some st) fO) pos) (DN X.K a8 ts):=by
 intro pins s σ H Q I h
 refine aic (bk (he pins s σ H _ I h) fun v s1 hz=>?_)
 obtain ⟨x,H1,aF,au,aL⟩:=hz
 refine wpAny_Slice ?_
 rw[evalPart_none]
 refine afF (afF (bk (hs pins s1 σ H1 _ aF aL) fun aa s2 hz=>?_))
 obtain ⟨o,ag,a3,av,bU⟩:=hz
 obtain ⟨rfl,a,xs,rfl,hx,q⟩:=bU
 cases au
 have dD:Inv X pins σ ag {s2 with heap:=s2.heap.push {cls:=.type "slice",data:=.fields #[.none,.none,aa]}}:=a3.kept (t':=s2.toks) fun b b2 q=>afL _ q
 obtain ⟨its,r,aH,aZ⟩:=dD.list hx
 have hlen:its.toArray.size=xs.length:=by rw[afN];exact r.length.symm
 refine tail_any (ops:=[.ref a,.ref s2.heap.objs.size]) aH.isList.typeIs aiR.lookup ?_ (by with_unfolding_all rfl)
 refine ajo aH.isList (Heap.IsSliceOf.new ..) .none .none av (by decide) ?_ (by rw[hlen];exact aZ)
 rw[PySem.W.krv_pick]
 refine ⟨.ref _,_,dD.laid (t':=s2.toks) (o:=.lst xs.reverse) (fun b b2 q=>afL _ q) (afE _) ?_,rfl,q _ (dD.aX.fresh (afE _))⟩
 exact ⟨by rw[ait];exact aZ,_,0,r.rev,af3 _ rfl⟩
theorem JA {K:ajA}(bL:X.K=K){e st:Expr}{fO pos:Pos}(he:bI X e a8)(hs:sz X (some st) ts):bI X (.Subscript e (.Slice none none (some st) fO) pos) (DN K a8 ts):=bL▸⟨Z5 he.o hs.o⟩
end
theorem rp (x y p:Int):(x%p*y)%p=(x*y)%p:=by rw[aiu,Int.emod_emod,<-aiu]
theorem rq (x y p:Int):(x*(y%p))%p=(x*y)%p:=by rw[aiu,Int.emod_emod,<-aiu]
theorem pm (x p:Int):∀k:Nat,(x%p)^k%p=x^k%p
 | 0=>by rw[aiv,aiv]
 | k+1=>by rw[agH,agH,rq,ahN,<-rq,pm x p k,rq,ahN]
theorem abG (x:Int)(k:Nat):(x*x)^k=x^(2*k):=by
 rw[Nat.two_mul,Int.pow_add,<-Int.mul_pow]
theorem ZR (r q p:Int)(l:Nat):(if l%2=1 then r*q%p else r)*(q*q%p)^(l/2)%p=r*q^l%p:=by
 rw[<-rq,pm,abG,rq]
 split
 ·rename_i h
  rw[rp,Int.mul_assoc,ahN q,<-agH]
  congr 3;lia
 ·rename_i h
  congr 3;lia
def mD:List Int:=[2,3,5,7,11,13,17,19,23,29,31,37,41,43,47,53,59,61,67,71,73,79,83,89,97,101,103,107,109,113,127,131,137,139,149,151,157,163,167,173,179,181,191,193,197,199]
theorem uL:∀p∈mD,2<=p/\p<=199:=by decide +kernel
theorem adM:(mD.all fun p=>(List.range p.toNat).all fun a=>a == 0 || a^(p.toNat-2)%p.toNat*a%p.toNat == 1)=true:=by decide +kernel
theorem acQ {p a:Int}(hp:p∈mD)(ha:a%p≠0):a^(p-2).toNat%p*a%p=1:=by
 obtain ⟨dG,b8⟩:=uL p hp
 have h0:=agb a (show p≠0 by lia)
 have h1:=aga a (show 0<p by lia)
 have f:=afR.mp (afR.mp adM p hp) (a%p).toNat (afU.mpr ⋯)
 rw[ag3]at f
 rcases f with f|f
 ·have:=agC.mp f;lia
 ·have f:=agC.mp f
  rw[rp,<-agH,<-pm,agH,<-rp]
  obtain ⟨r,hr⟩:∃r:Nat,a%p=(r:Int):=⟨(a%p).toNat,by lia⟩
  obtain ⟨q,aM⟩:∃q:Nat,p=(q:Int):=⟨p.toNat,by lia⟩
  rw[hr,aM]at f ⊢
  have e:((q:Int)-2).toNat=q-2:=by lia
  rw[e]
  have q9:r^(q-2)%q*r%q=1:=f
  have:=congrArg (Nat.cast:Nat->Int) q9
  rw[rp]
  simpa using this
section
variable {X:aO}{o i value:Expr}{pos pos':Pos}{kv ty gV:TE}
theorem qn (hu:X.A.units+1<cLine)(ho:bI X o kv)(hi:bI X i ty)(hs:Ew i):bI X (.Subscript o i pos) (LX kv ty):=⟨Z8 hu ho.o hi.o hs⟩
theorem wV (hu:X.A.units+1<cLine)(ho:bI X o kv)(hi:bI X i ty)(hv:bI X value gV)(hs:swapsWith value (some (.Subscript o i pos')) pos.line X.env=pure false):gy X (.Assign [.Subscript o i pos'] value pos) (L5 kv ty gV):=⟨ZX hu ho.o hi.o hv.o hs⟩
end
abbrev gB (c:Addr)(a l t:Int):List (Key×V):=[(.inr "cells",.ref c),(.inr "at",.int a),(.inr "left",.int l),(.inr "turn",.int t)]
section
variable {c:Addr}{a l t:Int}{v:V}
theorem Zg:iE (gB c a l t) (.inr "cells")=some (.ref c):=rfl
theorem adN:iE (gB c a l t) (.inr "at")=some (.int a):=rfl
theorem Dg:iE (gB c a l t) (.inr "left")=some (.int l):=rfl
theorem Kv:iE (gB c a l t) (.inr "turn")=some (.int t):=rfl
theorem adL (z:Int):ht (gB c a l t) (.inr "at") (.int z)=gB c z l t:=rfl
theorem Kt (z:Int):ht (gB c a l t) (.inr "left") (.int z)=gB c a z t:=rfl
theorem aau (z:Int):ht (gB c a l t) (.inr "turn") (.int z)=gB c a l z:=rfl
end
variable {H:ah}{a:Addr}{kvs:List (Key×V)}{v:V}
theorem qy {x:Str}(h:H a=some (.cE kvs))(e:iE kvs (.inr x)=some v):pn H a (.str x) (some v):=by
 have:=pn.k (k:=Sum.inr x) h
 rwa [e]at this
theorem xr {GR:List (Key×V)}{x:Str}(h:H a=some (.cE kvs))(hl:kvs.length<sizeLine)(e:ht kvs (.inr x) v=GR):qO H a (.str x) v (upd H a (.cE GR)):=by
 have:=qO.k (k:=Sum.inr x) (v:=v) h hl
 rwa [e]at this
def eE (H:ah)(t:V)(n:Nat):Prop:=∃(a c:Addr) (cells:ajH) (at' left turn:Int),t=.ref a/\H a=some (.cE (gB c at' left turn))/\H c=some (.lst (cells.map V.int))/\0<=at'/\at'<=(n:Int)/\0<=turn/\turn<=(n:Int)/\cells.length<=63
def D0 (H:ah)(t:V)(c:Addr):Prop:=∃a r,t=.ref a/\H a=some (.cE ((.inr "cells",.ref c)::r))
structure dU (t:V)(H J:ah):Prop where
 old:∀b o,H b=some o->V.ref b≠t->J b=some o
 cell:∀c,D0 H t c->D0 J t c
instance {t:V} {H J:ah}:CoeFun (dU t H J) (fun _=>∀b o,H b=some o->V.ref b≠t->J b=some o):=⟨dU.old⟩
section
variable {t:V}{H J H1 ag:ah}{n m:Nat}
variable {cy:ah}{ax:Nat}{D:Addr}{o:dT}
theorem dU.refl (t:V)(H:ah):dU t H H:=⟨fun _ _ h _=>h,fun _ h=>h⟩
theorem dU.trans (a:dU t H H1)(b:dU t H1 ag):dU t H ag:=⟨fun c o h n=>b.old c o (a.old c o h n) n,fun c h=>b.cell c (a.cell c h)⟩
theorem bb.VA (e:bb H J):dU t H J:=⟨fun b o h _=>e b o h,fun c ⟨a,r,h1,h2⟩=>⟨a,r,h1,e _ _ h2⟩⟩
theorem dU.keep (e:dU t H J)(T:eE H t n):lA H J:=fun b xs h=>by
 obtain ⟨a,c,cells,at',left,turn,rfl,h1,_⟩:=T
 rcases h with h|⟨o,h⟩
 ·exact .inl (e.old b _ h fun z=>by cases z;rw[h]at h1;cases h1)
 ·exact .inr ⟨o,e.old b _ h fun z=>by cases z;rw[h]at h1;cases h1⟩
theorem eE.same (T:eE H t n)(e:bb H J):eE J t n:=by
 obtain ⟨a,c,cells,at',left,turn,rfl,h1,h2,aQ⟩:=T
 exact ⟨a,c,cells,at',left,turn,rfl,e _ _ h1,e _ _ h2,aQ⟩
theorem eE.ne (T:eE H t n){l:Addr}(hl:H l=none):V.ref l≠t:=by
 obtain ⟨a,c,cells,at',left,turn,rfl,h1,_⟩:=T
 intro z;cases z;rw[hl]at h1;cases h1
theorem eE.N7 (T:eE H t n):∃c,D0 H t c/\∀D,H D=none->c≠D:=by
 obtain ⟨a,c,cells,at',left,turn,rfl,h1,h2,_⟩:=T
 exact ⟨c,⟨a,_,rfl,h1⟩,fun D bq z=>by subst z;rw[h2]at bq;cases bq⟩
theorem eE.Cb (om:eE H1 t ax)(S:dU t H1 cy)(yc:eE cy t n)(bq:H1 D=none):eE (upd cy D o) t n:=by
 obtain ⟨dJ,hc,c7⟩:=om.N7
 have aH:=om.ne bq
 obtain ⟨pD,bJ,aU,dO⟩:=S.cell dJ hc
 obtain ⟨a,c,cells,at',left,turn,rfl,h1,h2,aQ⟩:=yc
 cases aU
 rw[h1]at dO
 cases dO
 refine ⟨pD,dJ,cells,at',left,turn,rfl,?_,?_,aQ⟩
 ·rw[br (fun z=>aH (by rw[z]))];exact h1
 ·rw[br (c7 D bq)];exact h2
theorem dU.Cb (S:dU t H1 cy)(om:eE H1 t ax)(bq:H1 D=none):dU t H1 (upd cy D o):=by
 have aH:=om.ne bq
 refine ⟨fun b u h n=>?_,fun c h=>?_⟩
 ·rw[br (eN h bq)];exact S.old b u h n
 ·obtain ⟨a,r,e,z⟩:=S.cell c h
  subst e
  exact ⟨a,r,rfl,by rw[br (fun z=>aH (by rw[z]))];exact z⟩
end
variable {z:Nat}{n:Int}
theorem qo:∀ns:List Int,PyData.canLayAll0 (ns.map PyData.int)=true
 | []=>rfl
 | x::ns=>by
  rw[af8]
  show (PyData.canLay0 (.int x)&&PyData.canLayAll0 (ns.map PyData.int))=true
  rw[qo ns];rfl
theorem uy:∀ns:List Int,PyData.depthAll (ns.map PyData.int)=0
 | []=>by simp[PyData.depthAll]
 | x::ns=>by
  rw[af8]
  show max (PyData.depth (.int x)) (PyData.depthAll (ns.map PyData.int))=0
  rw[uy ns];simp[PyData.depth]
theorem rY {K:ajA}{H:ah}:∀ns:List Int,bE K H (ns.map V.int) (ns.map PyData.int)
 | []=>.nil
 | x::ns=>.cons (.int x) (rY ns)
def pd (f:Nat->Int):Nat->Int
 | 0=>0
 | n+1=>pd f n+f n
theorem X_ {p a:Int}(hp:p∈mD)(ha:a%p≠0)(n k:Nat):a^(n+(p.toNat-1)*k)%p=a^n%p:=by
 obtain ⟨dG,b8⟩:=uL p hp
 have f1:a^(p.toNat-1)%p=1:=by
  have:=acQ hp ha
  rw[rp,<-agH]at this
  rw[show p.toNat-1=(p-2).toNat+1 by lia];exact this
 have f2:(a^(p.toNat-1))^k%p=1:=by
  rw[<-pm,f1,Int.one_pow]
  exact ahZ (by decide) ⋯
 rw[Int.pow_add,Int.pow_mul,<-rq,f2,ahH]
def tM (z:Nat):Bool:=(List.range 15).all fun k=>k<2 || z<k*k || z%k != 0
def wc:Nat->List Int
 | 0=>[]
 | i+1=>wc i++if tM (2+i) then [2+(i:Int)] else []
theorem ab8 {b:Int}(aZ:z<200)(h:b*b<=(z:Int))(h2:2<=b)(hn:(z:Int)%b=0):tM z=false:=by
 have aex:b<15:=by
  rcases ahw b 15 with q|q
  ·exact q
  ·have:=ajd q q ⋯ ⋯
   lia
 obtain ⟨k,rfl⟩:=aiV (show 0<=b by lia)
 refine Bool.eq_false_iff.mpr fun e=>?_
 have:=afR.mp e k (afU.mpr ⋯)
 simp only[ag3,agU,aiw]at this
 have az:((k*k:Nat):Int)=(k:Int)*k:=by push_cast;rfl
 rcases this with (h|h)|h
 ·lia
 ·lia
 ·lia
def pj (n p a:Int)(j:Nat):Int:=(j:Int)^(n-1).toNat%p*((j:Int)*a/p)
def mY (n p a:Int):Int:=pd (pj n p a) p.toNat%p
theorem Y8 (h2:2<=z)(h:z<200):kO (z:Int)=tM z:=by
 cases e:tM z with
 | true=>
  refine Jb ⟨by lia,fun k k1 k2=>?_⟩
  intro aZ
  have:=ab8 (z:=z) h k2 k1 aZ
  rw[this]at e;cases e
 | false =>
  refine Co fun p=>?_
  unfold tM at e
  have:¬∀k∈List.range 15,(decide (k<2) || decide (z<k*k) || z%k != 0)=true:=fun q=>by
   rw[afR.mpr q]at e;cases e
  apply this
  intro k hk
  simp only[ag3,agU,aiw]
  by_cases h1:k<2
  ·exact .inl (.inl h1)
  by_cases aQ:z<k*k
  ·exact .inl (.inr aQ)
  refine .inr fun e=>?_
  have az:((k*k:Nat):Int)=(k:Int)*k:=by push_cast;rfl
  exact p.no k ⋯ ⋯ ⋯
theorem Ki:∀i,i<=198->fb i=wc i
 | 0,_=>rfl
 | i+1,h=>by
  show fb i++_=wc i++_
  rw[Ki i ⋯]
  have:=Y8 (z:=2+i) ⋯ ⋯
  rw[show ((2+i:Nat):Int)=2+(i:Int) by lia]at this
  rw[this]
noncomputable def p6 (n:Int)(i:Nat):List Int:=(fb i).filter fun p=>decide (n%(p-1)=0)
noncomputable def dH (n:Int):List Int:=if n=1 then [2] else if n%2=1 then [] else p6 n n.toNat
theorem YZ (n:Int)(i:Nat):p6 n (i+1)=p6 n i++if n%(2+(i:Int)-1)=0/\kO (2+(i:Int))=true then [2+(i:Int)] else []:=by
 unfold p6
 show List.filter _ (fb i++_)=_
 rw[ah0]
 congr 1
 by_cases h:kO (2+(i:Int))=true
 ·rw[afD h]
  by_cases h2:n%(2+(i:Int)-1)=0
  ·rw[afD ⟨h2,h⟩,aix (by rw[h2];rfl)];rfl
  ·rw[afC fun z=>h2 z.1,aiy (by simpa using h2)];rfl
 ·rw[afC h,afC fun z=>h z.2];rfl
theorem C_ {p:Int}(h:p∈dH n):2<=p/\p<=2\/2<=p/\p<2+(n.toNat:Int):=by
 unfold dH at h
 split at h
 ·simp at h;lia
 split at h
 ·simp at h
 ·have:=w_ (ah5.mp h).1;exact .inr this
theorem aac (n:Int)(h:n<=1000):(dH n).length<=1001:=by
 unfold dH
 split
 ·decide
 split
 ·decide
 ·have h1:(p6 n n.toNat).length<=(fb n.toNat).length:=aje _ _
  have:=xa n.toNat
  lia
theorem acu (h:n<=1000):b4 1 (1001*15+4) (.tuple ((dH n).map PyData.int)):=by
 have:=b4.tup (n:=0) (v:=13) (ds:=(dH n).map PyData.int) (fun d hd=>by
  obtain ⟨z,aZ,rfl⟩:=agd.mp hd
  have:=C_ aZ
  exact (b4.oE (m:=12) (cb.of_lt 4000 ⋯ ⋯ (by decide)) (by decide) (by decide)))
 refine this.mono (by decide) ?_
 rw[afG]
 have:=aac n h
 lia
def gf (x:Rat):List Int->Rat
 | []=>x
 | p::av=>gf (x+Rat.divInt 1 p) av
theorem IP:∀(av:ajH)(x:Rat)(p:Int),gf x (av++[p])=gf x av+Rat.divInt 1 p
 | [],x,p=>rfl
 | q::av,x,p=>IP av _ p
theorem JE {m:Nat}:∀(av:ajH){x:Rat},bH m x->(∀p∈av,2<=p/\p<1024)->∀i,bH (m+11*i) (gf x (av.take i))
 | av,x,hx,hp,0=>by rw[aiz];exact hx
 | [],x,hx,hp,i+1=>by rw[List.take_nil];exact hx.mono ⋯
 | p::av,x,hx,hp,i+1=>by
  rw[List.take_succ_cons]
  have h:=hp p af6
  have b:bH 10 (Rat.divInt 1 p):=bH.divInt (by decide) (cb.of_lt 1024 ⋯ ⋯ (by decide)) ⋯
  have:=JE (m:=m+10+1) av (hx.add b) (fun q aM=>hp q (af5 _ aM)) i
  exact this.mono ⋯
def tK (n:Nat):List Int:=if n=1 then [2] else if n%2=1 then [] else (wc n).filter fun p=>decide ((n:Int)%(p-1)=0)
theorem DA {n:Nat}(h:n<=198):dH (n:Int)=tK n:=by
 unfold dH tK p6
 rw[show ((n:Int)).toNat=n by lia,Ki n h]
 by_cases h1:n=1
 ·rw[afD ⋯,afD h1]
 rw[afC ⋯,afC h1]
 by_cases h2:n%2=1
 ·rw[afD ⋯,afD h2]
 ·rw[afC ⋯,afC h2]
set_option maxRecDepth 1000000 in
theorem Xz:((List.range 41).all fun n=>decide ((gf ((lz 40).2.getD n 0) (tK n)).den=1))=true:=by decide +kernel
theorem Xy {n:Nat}(h:n<=40):(gf ((c9 n).getD n 0) (dH (n:Int))).den=1:=by
 have:=afR.mp Xz n (afU.mpr ⋯)
 have:=afS this
 rw[(rU 40).1,uq h (afE _),<-DA ⋯]at this
 exact this
theorem acX:bootBuiltins "sum"=some (.builtin "sum"):=by decide +kernel
section
variable {X:aO}
theorem IW:∀{ns:ajH}{its:ajC},Vals (ns.map V.int) its->IntsAre its ns
 | [],its,h=>by cases h;exact .nil
 | n :: ns, its, h => by
  cases h with
  | cons h1 h2=>
   obtain ⟨t,rfl⟩:=h1
   exact .cons _ t (IW h2)
end
def tx:List Rat->List Rat
 | []=>[]
 | a::r=>kj 1 a (tx r)
theorem xb:∀(rs:List Rat)(t:Nat),(tx rs).getD t 0=jb 1 1 rs t
 | [],t=>mO (afY _)
 | a::r,t=>by
  show (kj 1 a (tx r)).getD t 0=jb 1 1 r t*1+(if t=0 then a else jb 1 1 r (t-1)*1)
  rw[Lg,xb r,xb r]
  split<;>grind
theorem ab_ (n:Nat):∀r∈List.replicate n (0:Rat)++[1],es 1 1 r:=fun r hr=>by
 rcases agn.mp hr with h|h
 ·rw[(List.mem_replicate.mp h).2];exact ⟨0,by simp,by decide⟩
 ·rw[af2.mp h];exact ⟨1,by decide,by decide⟩
theorem Jt (f g:Nat->Rat):∀n,er (fun i=>f i+g i) n=er f n+er g n
 | 0=>by show (0:Rat)=0+0;grind
 | n+1=>by
  show er (fun i=>f i+g i) n+(f n+g n)=er f n+f n+(er g n+g n)
  rw[Jt f g n];grind
theorem ZG (rs:List Rat):∀t,jb 1 1 rs t=er (fun j=>(((ch j t:Nat):Int):Rat)*rs.getD j 0) rs.length:=by
 induction rs with
 | nil=>intro t;rfl
 | cons a r bl =>
  intro t
  show jb 1 1 r t*1+(if t=0 then a else jb 1 1 r (t-1)*1)=er _ (r.length+1)
  rw[IK,bl t]
  cases t with
  | zero =>
   rw[afD rfl,l8]
   have e:er (fun i=>(((ch (i+1) 0:Nat):Int):Rat)*(a::r).getD (i+1) 0) r.length=er (fun j=>(((ch j 0:Nat):Int):Rat)*r.getD j 0) r.length:=rM fun i _=>by
    rw[l8,l8];rfl
   rw[e]
   show _=((1:Int):Rat)*a+_
   grind
  | succ t =>
   rw[afC ⋯,ajf,bl t]
   have e:er (fun i=>(((ch (i+1) (t+1):Nat):Int):Rat)*(a::r).getD (i+1) 0) r.length=er (fun j=>(((ch j t:Nat):Int):Rat)*r.getD j 0+(((ch j (t+1):Nat):Int):Rat)*r.getD j 0) r.length:=rM fun i _=>by
    have:ch (i+1) (t+1)=ch i t+ch i (t+1):=rfl
    rw[this]
    show _*r.getD i 0=_
    push_cast;grind
   rw[e,Jt,qz 0 (t+1) ⋯]
   show _=((0:Int):Rat)*a+_
   grind
def above (G:List Rat)(k i:Nat):Rat:=er (fun j=>(((ch (k+1+j) k:Nat):Int):Rat)*G.getD (k+1+j) 0) i
theorem I2 (G:List Rat){k:Nat}(h:k<G.length):jb 1 1 G k=G.getD k 0+above G k (G.length-1-k):=by
 rw[ZG]
 have e:G.length=k+(1+(G.length-1-k)):=by lia
 conv=>lhs;rw[e]
 rw[Ck,IZ fun i hi=>by rw[qz i k hi];show ((0:Int):Rat)*_=0;grind]
 rw[show 1+(G.length-1-k)=(G.length-1-k)+1 by lia,IK]
 unfold above
 show 0+((((ch k k:Nat):Int):Rat)*G.getD (k+0) 0+_)=_
 rw[xf]
 have az:er (fun i=>(((ch (k+(i+1)) k:Nat):Int):Rat)*G.getD (k+(i+1)) 0) (G.length-1-k)=er (fun j=>(((ch (k+1+j) k:Nat):Int):Rat)*G.getD (k+1+j) 0) (G.length-1-k):=rM fun i _=>by
  rw[show k+(i+1)=k+1+i by lia]
 rw[az]
 show 0+(((1:Int):Rat)*G.getD k 0+_)=_
 grind
theorem w5 {E:Int}{c:Nat}{G:List Rat}(h0:E≠0)(h:∀r∈G,es E c r){k:Nat}:∀i,k+1+i<=60->es E (61+c+i) (above G k i)
 | 0,_=>es.zero.mono ⋯
 | i+1,hi=>by
  have a:=w5 h0 h (k:=k) i ⋯
  show es E (61+c+(i+1)) (above G k i+(((ch (k+1+i) k:Nat):Int):Rat)*G.getD (k+1+i) 0)
  refine es.add h0 a ?_
  have m:=(uz h (k+1+i)).S0 (u:=((ch (k+1+i) k:Nat):Int)) (d:=1) (D4 _ _ ⋯)
  rw[ahH,aem]at m
  rw[Rat.mul_comm]
  exact m.mono (show c+61<=61+c+i by lia)
def Wi:List (Int×Int):=[(1,1),(-1,2),(0,1),(1,4),(0,1),(-1,2),(0,1),(17,8),(0,1),(-31,2),(0,1),(691,4),(0,1),(-5461,2),(0,1),(929569,16),(0,1),(-3202291,2),(0,1),(221930581,4),(0,1)]
def Er:Nat->List Nat
 | 0=>[1]
 | n+1=>List.zipWith (·+·) (0::Er n) (Er n++[0])
def eU (n:Nat):List Rat:=List.zipWith (fun (b:Nat) (e:Int×Int)=>((b:Int):Rat)*Rat.divInt e.1 e.2) (Er n) (Wi.take (n+1)).reverse
def wy (t:Nat):Rat:=if t%2=0 then 1 else -1
def Iq (n:Nat):Bool:=
 decide (uZ (tx (eU n)) (eU n)=List.replicate n 0++[2])&&decide ((eU n).length=n+1)&&decide ((eU n).getD n 0=1)
 && (eU n).all (fun x=>decide ((2097152:Int)%(x.den:Int)=0)&&Nat.blt (x.num*(2097152/(x.den:Int))).natAbs (2^90))
 && decide (n=0\/(List.range n).map (fun k=>((((k+1:Nat)):Int):Rat)*(eU n).getD (k+1) 0)=(eU (n-1)).map fun x=>((n:Int):Rat)*x)
 && decide ((jt (Rat.divInt 1 2) (eU n)*((((2^n:Nat)):Int):Rat)).den=1)
 && (List.range (n+1)).all (fun t=>decide ((tx (eU n)).getD t 0*wy t=wy n*(eU n).getD t 0))
set_option maxRecDepth 1000000 in
theorem aaP:((List.range 21).all Iq)=true:=by decide +kernel
theorem KV {n:Nat}(h:n<=20):(∀t,jb 1 1 (eU n) t+(eU n).getD t 0=(List.replicate n (0:Rat)++[2]).getD t 0)/\(eU n).length=n+1/\(eU n).getD n 0=1/\(∀r∈eU n,es 2097152 90 r)
  /\(n=0\/(List.range n).map (fun k=>((((k+1:Nat)):Int):Rat)*(eU n).getD (k+1) 0)=(eU (n-1)).map fun x=>((n:Int):Rat)*x)
  /\(jt (Rat.divInt 1 2) (eU n)*((((2^n:Nat)):Int):Rat)).den=1/\∀t,jb 1 1 (eU n) t*wy t=wy n*(eU n).getD t 0:=by
 have c:=afR.mp aaP n (afU.mpr ⋯)
 unfold Iq at c
 simp only[afM,agU]at c
 obtain ⟨⟨⟨⟨⟨⟨dJ,cB⟩,j6⟩,sJ⟩,NL⟩,NM⟩,NN⟩:=c
 refine ⟨fun t=>?_,cB,j6,fun r hr=>?_,NL,NM,fun t=>?_⟩
 ·rw[<-xb,<-Jp,dJ]
 ·have b:=afR.mp sJ r hr
  rw[afM]at b
  have cU:=afS b.1
  have c6:=Nat.blt_eq.mp b.2
  refine ⟨r.num*(2097152/(r.den:Int)),?_,c6⟩
  have hd:(r.den:Int)≠0:=by have:=den_pos r;lia
  have e:(2097152:Int)=(r.den:Int)*(2097152/(r.den:Int)):=by
   have:=Int.mul_ediv_add_emod 2097152 (r.den:Int)
   lia
  have aM:(2097152:Int)/(r.den:Int)≠0:=fun z=>by rw[z,Int.mul_zero]at e;exact absurd e (by decide)
  generalize (2097152:Int)/(r.den:Int)=g at e aM
  rw[e,Rat.divInt_mul_right aM,qs]
 ·by_cases aH:t<n+1
  ·have b:=afR.mp NN t (afU.mpr aH)
   have b:=afS b
   rw[xb]at b
   exact b
  ·rw[mO ⋯,C4 1 1 _ _ ⋯];grind
def MH (p r:Nat):Bool:=(List.range p).any fun a=>decide (2<=a)&&(a^r%p != 1)
theorem aaw:(mD.all fun p=>(List.range (p.toNat-1)).all fun r=>r == 0 || MH p.toNat r)=true:=by decide +kernel
theorem Zh {p n:Int}(hp:p∈mD)(hn:0<=n)(h:n%(p-1)≠0):∃a:Int,2<=a/\a<p/\a^n.toNat%p≠1:=by
 obtain ⟨dG,b8⟩:=uL p hp
 have ri:0<p-1:=by lia
 have gq:=agb n (show p-1≠0 by lia)
 have au:=aga n ri
 have c:=afR.mp (afR.mp aaw p hp) (n%(p-1)).toNat (afU.mpr ⋯)
 rw[ag3]at c
 rcases c with c|c
 ·have:=agC.mp c;lia
 ·unfold MH at c
  obtain ⟨a,ha,hb⟩:=ajg.mp c
  have ha:=afU.mp ha
  rw[afM]at hb
  have a2:2<=a:=afS hb.1
  have m9:a^(n%(p-1)).toNat%p.toNat≠1:=by simpa using hb.2
  refine ⟨(a:Int),by lia,by lia,fun z=>m9 ?_⟩
  have hm:((a:Nat):Int)%p≠0:=by rw[ahZ ⋯ ⋯];lia
  have e:=X_ hp hm (n%(p-1)).toNat (n/(p-1)).toNat
  have eA:(n%(p-1)).toNat+(p.toNat-1)*(n/(p-1)).toNat=n.toNat:=by
   have lj:0<=n/(p-1):=Int.ediv_nonneg hn ⋯
   have d:=Int.mul_ediv_add_emod n (p-1)
   have ai:(((n%(p-1)).toNat+(p.toNat-1)*(n/(p-1)).toNat:Nat):Int)=n:=by
    push_cast
    rw[show ((p.toNat-1:Nat):Int)=p-1 by lia,show (((n/(p-1)).toNat:Nat):Int)=n/(p-1) by lia,show (((n%(p-1)).toNat:Nat):Int)=n%(p-1) by lia]
    lia
   lia
  rw[eA,z]at e
  have az:((a^(n%(p-1)).toNat%p.toNat:Nat):Int)=1:=by
   push_cast
   rw[show ((p.toNat:Nat):Int)=p by lia]
   exact e.symm
  lia
def ro (n p r z:Int):Option Str:=
 if z<2\/p-1<z then some "shape" else
 if z^n.toNat%p=1 then some "way" else
 if ((z^n.toNat%p-1)*r-z^(n-1).toNat%p*mY n p z)%p=0 then none else some "rest"
def v9 (n p r:Int):PyData->Option Str
 | .int z=>ro n p r z
 | _=>some "shape"
theorem acD {n p r:Int}{d:PyData}(h:el d=false):v9 n p r d=some "shape":=by cases d<;>first|rfl|cases h
theorem uw {x p:Int}(hp:1<p)(h0:0<=x)(h1:x<p):((x-1)%p=0) ↔ x=1:=by
 constructor
 ·intro h
  rcases ahw x 1 with g|g
  ·have:x=0:=by lia
   subst this
   have e:(0-1:Int)%p=p-1:=by
    have ai:(0-1+p)%p=0-1+p:=ahZ ⋯ ⋯
    have az:(0-1+p)%p=(0-1)%p:=Int.add_emod_right _ _
    lia
   lia
  ·rw[ahZ ⋯ ⋯]at h;lia
 ·intro h;subst h;exact Int.zero_emod p
theorem YJ (x r y p:Int):((x%p*r)%p=y%p) ↔ (x*r-y)%p=0:=by
 rw[rp]
 exact (Int.emod_eq_emod_iff_emod_sub_eq_zero)
def aen (n p a:Nat):Nat:=(List.range p).foldl (fun s j=>s+j^(n-1)%p*(j*a/p)) 0
def sh (n p:Nat):Nat:=((List.range p).find? fun a=>decide (2<=a)&&(a^n%p != 1)).getD 2
def QK (n p:Nat):Nat:=sh n p^(n-1)%p*(aen n p (sh n p)%p)%p*(((sh n p^n%p)+p-1)%p)^(p-2)%p
def jB (n:Nat):Rat:=(lz 40).2.getD n 0
def UN (n:Nat):Rat:=Rat.divInt (jB n).num ((jB n).den*(n:Int))
def QJ (n:Nat)(u w:Int)(p:Nat):Bool:=n%(p-1) == 0 || (decide (2<=sh n p)&&decide (sh n p<p)&&(sh n p^n%p != 1)&&decide (((QK n p:Int)*w-u)%(p:Int)=0)&&decide (w%(p:Int)≠0))
def F9 (k:Nat):Bool:=let q:=UN (2*k+2);(mD.drop 2).all fun p=>QJ (2*k+2) q.num q.den p.toNat
def Px (n p a:Int):Int:=(a^n.toNat%p-1)%p
def pN (n p a:Int):Int:=a^(n-1).toNat%p*mY n p a%p
def FZ (n p a:Int):Int:=pN n p a*(Px n p a^(p-2).toNat%p)%p
theorem Dx {n:Nat}(h:n<=40):jB n=(c9 n).getD n 0:=by
 unfold jB
 rw[(rU 40).1,uq h (afE _)]
section
variable {X:aO}
theorem Yi (hc:X.calm=true){K:ajA}(bL:X.K=K):fE X (.builtin "sum") (fun xs H Q=>∃(a:Addr) (ns:ajH),xs=[.ref a]/\bp K H a (ns.map V.int)/\Q (.int ns.sum) H):=by
 subst bL
 intro pins s σ H xs us Q I r h
 obtain ⟨a,ns,rfl,hx,q⟩:=h
 obtain ⟨u,rfl,au⟩:=iB r
 cases au
 obtain ⟨its,gF,aH,aZ⟩:=I.tuple hx
 have hi:=IW gF
 obtain ⟨ys,e⟩:=hi.allInts.items
 have q7:ys.toList.map (·.1)=ns:=by rw[<-nums_intItems,<-e];exact hi.numsOf
 refine PySem.W.ktm_sumG (I.ok.hd hc) (e▸aH) fun h' tk t' k=>⟨.int ns.sum,H,I.kept k,?_,q⟩
 rw[preSum_eq,ahy (by simp),q7]
 exact ⟨_,rfl⟩
theorem YE {K:ajA}(bL:X.K=K):pA X (xM K):=bL▸zev
end
variable {row:ajH}{k m n:Nat}{K:ajA}{H:ah}{ws:List V}
def ei (row:ajH):Nat->Int
 | 0=>0
 | k+1=>ei row k+row.getD (row.length-1-k) 0
def h8 (row:ajH):List Int:=(List.range (row.length+1)).map (ei row)
theorem CR (row:ajH):(h8 row).length=row.length+1:=by unfold h8;rw[afG,agj]
theorem I3 (row:ajH):∀k,k<=row.length->(row.drop (row.length-k)).sum=ei row k
 | 0,_=>by rw[ahx,ahc];rfl
 | k+1,h=>by
  have hk:row.length-(k+1)<row.length:=by lia
  rw[agJ hk,List.sum_cons,show row.length-(k+1)+1=row.length-k by lia,I3 row k ⋯]
  show _=ei row k+row.getD (row.length-1-k) 0
  rw[show row.length-1-k=row.length-(k+1) by lia,afO,afQ hk]
  show _=ei row k+row[row.length-(k+1)]
  lia
theorem w0 (h:k<row.length):row.getD k 0∈row:=by
 rw[afO,afQ h];exact ag1 _
theorem Kd {row:ajH}{B:Nat}(h:∀x∈row,x.natAbs<=B):∀k,k<=row.length->(ei row k).natAbs<=k*B
 | 0,_=>by show (0:Int).natAbs<=_;simp
 | k+1,hk=>by
  have h1:=Kd h k ⋯
  have h2:=h _ (w0 (row:=row) (k:=row.length-1-k) ⋯)
  show (ei row k+row.getD (row.length-1-k) 0).natAbs<=_
  have:=Int.natAbs_add_le (ei row k) (row.getD (row.length-1-k) 0)
  rw[Nat.succ_mul];lia
theorem KL (h:∀x∈row,cb m x)(hl:row.length<=63):∀x∈h8 row,cb (m+6) x:=by
 intro x hx
 obtain ⟨k,hk,rfl⟩:=agd.mp hx
 have f6:k<=row.length:=by have:=afU.mp hk;lia
 have:=Kd (B:=2^m-1) (fun x hx=>by have:x.natAbs<2^m:=h x hx;lia) k f6
 show (ei row k).natAbs<2^(m+6)
 have e:2^(m+6)=2^m*64:=by rw[Nat.pow_add]
 have p:0<2^m:=Nat.pow_pos (by decide)
 have:k*(2^m-1)<=63*(2^m-1):=Nat.mul_le_mul_right _ ⋯
 lia
theorem xd {ns:ajH}(h:∀x∈ns,cb m x)(h0:0<m)(hm:m<=14000):b4 1 (ns.length*(m+3)+4) (.tuple (ns.map PyData.int)):=by
 have:=b4.tup (n:=0) (v:=m+1) (ds:=ns.map PyData.int) (fun d hd=>by
  obtain ⟨z,aZ,rfl⟩:=agd.mp hd
  exact b4.oE (h z aZ) h0 hm)
 rw[afG]at this
 exact this
theorem JY (row:ajH):(h8 row).map V.int=(List.range (row.length+1)).map fun k=>V.int (ei row k):=by
 unfold h8;rw[agN];rfl
theorem JO (h:k<row.length):(row.map V.int)[k]?=some (V.int (row.getD k 0)):=by
 rw[af1,afO,afQ h];rfl
def cu:Nat->List Int
 | 0=>[1]
 | n+1=>h8 (cu n)
theorem jM:∀n,(cu n).length=n+1
 | 0=>rfl
 | n+1=>by show (h8 (cu n)).length=_;rw[CR,jM n]
theorem CZ:∀n,n<=62->∀x∈cu n,cb (1+6*n) x
 | 0,_=>by decide
 | n+1,h=>KL (CZ n ⋯) (by rw[jM];lia)
def tS (a:Int):List Int->List Int
 | []=>[a]
 | x::xs=>a::tS (a+x) xs
theorem K2 (row:ajH):∀(d k:Nat),k+d=row.length->tS (ei row k) (row.reverse.drop k)=((List.range (row.length+1)).drop k).map (ei row)
 | 0,k,h=>by
  have ai:row.reverse.drop k=[]:=ais (by rw[ait];lia)
  have hk:k<(List.range (row.length+1)).length:=by rw[agj];lia
  rw[ai,agJ hk,ais (by rw[agj];lia),ahR];rfl
 | d+1, k, h => by
  have hk:k<row.reverse.length:=by rw[ait];lia
  have Gy:k<(List.range (row.length+1)).length:=by rw[agj];lia
  rw[agJ hk,agJ Gy,ahR]
  have e:row.reverse[k]=row.getD (row.length-1-k) 0:=by
   rw[List.getElem_reverse,afO,afQ ⋯];rfl
  rw[e]
  show ei row k::tS (ei row (k+1)) (row.reverse.drop (k+1))=_
  rw[K2 row d (k+1) ⋯];rfl
def u2:Nat->List Int
 | 0=>[1]
 | n+1=>tS 0 (u2 n).reverse
theorem C0:∀n,u2 n=cu n
 | 0=>rfl
 | n+1=>by
  show tS 0 (u2 n).reverse=h8 (cu n)
  rw[C0 n]
  exact K2 (cu n) (cu n).length 0 ⋯
def fR (n:Nat):Int:=(cu n).getD n 0
def hq (k:Nat):List PyData:=(List.range (k+1)).map fun m=>.tuple ((cu m).map PyData.int)
theorem CX (k:Nat):(hq k).length=k+1:=by unfold hq;rw[afG,agj]
theorem Yw (k:Nat):hq (k+1)=hq k++[.tuple ((cu (k+1)).map PyData.int)]:=by unfold hq;rw[ahC (n:=k+1),af9];rfl
theorem J8 (h:m<=k):(hq k)[m]?=some (.tuple ((cu m).map PyData.int)):=by
 unfold hq;rw[af1,agK ⋯];rfl
theorem uo:∀{ds:ajz},(∀d∈ds,ef d=true)->fF ds=true
 | [],_=>by simp[fF]
 | d::ds,h=>by
  simp only[fF,afM]
  exact ⟨h d af6,uo fun x hx=>h x (af5 _ hx)⟩
theorem LN (k:Nat):fF (hq k)=true:=uo fun d hd=>by
 obtain ⟨m,_,rfl⟩:=agd.mp hd
 simp only[ef]
 exact uo fun d hd=>by
  obtain ⟨z,_,rfl⟩:=agd.mp hd
  simp only[ef]
theorem adi (h:bE K H ws (hq k))(hm:m<=k):∃a,ez ws (m:Int)=some (.ref a)/\bp K H a ((cu m).map V.int):=by
 obtain ⟨v,hv,b1⟩:=h.get (J8 hm)
 obtain ⟨a,rfl,aC⟩:=b1.ints
 exact ⟨a,mQ hv,aC⟩
theorem Zu (h:bE K H ws (hq k)):∃a,ez ws (-1)=some (.ref a)/\bp K H a ((cu k).map V.int):=by
 obtain ⟨v,hv,b1⟩:=h.get (J8 (afE k))
 obtain ⟨a,rfl,aC⟩:=b1.ints
 have wl:=h.length
 rw[CX]at wl
 exact ⟨a,xg (by rw[wl];exact hv),aC⟩
theorem Yy (n:Nat):ez ((cu n).map V.int) (-1)=some (.int (fR n)):=xg (by rw[afG,jM,ajf];exact JO (by rw[jM];lia))
theorem Dm (h:n<=62):cb 373 (fR n):=(CZ n h _ (w0 (by rw[jM];lia))).mono ⋯
def u0 (z:Int):Int:=if z<0 then -z else z
def t7 (n:Nat):Int:=(u2 n).getD n 0
theorem Dn (n:Nat):t7 n=fR n:=by unfold t7 fR;rw[C0]
def sd (n:Nat):Rat:=Rat.divInt (2^(n+1)*(2^(n+1)-1)) ((n:Int)+1)*jB (n+1)
def LR (n:Nat):Bool:=decide ((sd n).den=1)&&decide (u0 (sd n).num=t7 n)
def LQ (n:Nat):Bool:=decide (Rat.divInt ((if n%4=0 then -1 else 1)*(n:Int)*t7 (n-1)) (2^n*(2^n-1))=jB n)
def u1 (n:Nat):Rat:=jt (Rat.divInt 1 2) (eU n)*(((2^n:Nat):Int):Rat)
def LP (n:Nat):Bool:=decide ((u1 n).den=1)&&decide (u0 (u1 n).num=t7 n)
set_option maxRecDepth 1000000 in
theorem J7:((List.range 20).all fun k=>LR (2*k+1)&&LQ (2*k+2))=true:=by decide +kernel
set_option maxRecDepth 1000000 in
theorem Yu:((List.range 11).all fun k=>LP (2*k))=true:=by decide +kernel
theorem ad8 (h:k<20):(sd (2*k+1)).den=1/\u0 (sd (2*k+1)).num=fR (2*k+1):=by
 have c:=afR.mp J7 k (afU.mpr h)
 unfold LR at c
 simp only[afM,agU]at c
 exact ⟨c.1.1,by rw[c.1.2,Dn]⟩
theorem ad7 (h:k<20):Rat.divInt ((if (2*k+2)%4=0 then -1 else 1)*((2*k+2:Nat):Int)*fR (2*k+1)) (2^(2*k+2)*(2^(2*k+2)-1))=jB (2*k+2):=by
 have c:=afR.mp J7 k (afU.mpr h)
 unfold LQ at c
 simp only[afM,agU]at c
 rw[<-c.2,<-Dn];rfl
theorem ad6 (h:k<=10):(u1 (2*k)).den=1/\u0 (u1 (2*k)).num=fR (2*k):=by
 have c:=afR.mp Yu k (afU.mpr ⋯)
 unfold LP at c
 simp only[afM,agU]at c
 exact ⟨c.1,by rw[c.2,Dn]⟩
theorem Zs (n:Nat):((2:Rat)^n).den=1:=by
 have:=JQ 2 n
 rw[show ((2:Rat).den:Int)=1 from rfl,Int.one_pow]at this
 lia
theorem Zr (n:Nat):((2:Rat)^n).num=2^n:=by rw[Rat.num_pow];rfl
theorem Dl (h:n<=40):cb 41 (2^n:Int):=by
 show ((2:Int)^n).natAbs<2^41
 rw[Int.natAbs_pow]
 exact Nat.pow_lt_pow_right (by decide) ⋯
theorem J4 (h:n<=40):cb 83 (2^n*(2^n-1):Int):=by
 have b:=Dl h
 exact (b.mul (cb.sub b ((show cb 1 (1:Int) by decide).mono (by decide)))).mono (by decide)
theorem Zq (n:Nat):(1:Int)<=2^n:=by have:=Int.pow_pos (n:=2) (m:=n) (by decide);lia
section
variable {X:aO}
theorem W5:fE X (.type "range") (fun xs H Q=>∃b,xs=[.int b]/\∀r,H r=none->Q (.ref r) (upd H r (.mE 0 b))):=by
 intro pins s σ H xs us Q I r h
 obtain ⟨b,rfl,q⟩:=h
 obtain ⟨u,rfl,⟨t,rfl⟩⟩:=iB r
 refine call_range_1 ?_
 exact ⟨.ref s.heap.objs.size,_,I.laid (fun b o e=>afL _ e) (afE _) (show c_ X.prog X.w _ _ _ (.mE 0 b) from ⟨_,_,_,af3 _ rfl⟩),rfl,q _ (I.aX.fresh (afE _))⟩
end
theorem LI:bootBuiltins "all"=some (.builtin "all"):=by decide +kernel
section
variable {X:aO}
theorem Jq:∀{bs:List Bool}{its:ajC},Vals (bs.map V.aG) its->its=bs.map Value.bool
 | [],its,h=>by cases h;rfl
 | b :: bs, its, h => by
  cases h with
  | cons h1 h2=>
   cases h1
   rw[Jq h2];rfl
theorem ac1 (bs:List Bool):((List.range bs.length).all fun i=>bs.getD i true)=bs.all id:=by
 rw[agO,afR,afR]
 refine ⟨fun h b hb=>?_,fun h i hi=>?_⟩
 ·obtain ⟨i,hi,e⟩:=List.getElem_of_mem hb
  have:=h i (afU.mpr hi)
  rw[afO,afQ hi,e]at this
  exact this
 ·have iX:=afU.mp hi
  show bs.getD i true=true
  rw[afO,afQ iX]
  exact h _ (ag1 iX)
theorem JV (hc:X.calm=true){K:ajA}(bL:X.K=K):fE X (.builtin "all") (fun xs H Q=>∃(a:Addr) (bs:List Bool),xs=[.ref a]/\bP K H a (bs.map V.aG)/\Q (.aG (bs.all id)) H):=by
 subst bL
 intro pins s σ H xs us Q I r h
 obtain ⟨a,bs,rfl,hx,q⟩:=h
 obtain ⟨u,rfl,au⟩:=iB r
 cases au
 obtain ⟨its,gF,aH,aZ⟩:=I.list hx
 have sO:=Jq gF
 subst sO
 have hl:=aH.isList
 have dj:a<s.heap.objs.size:=by obtain ⟨_,e,_⟩:=hl;exact afH e
 refine call_all_walk (wpAny_pyIter_list hl ?_)
 refine ⟨s.heap.objs.size,[s.heap.objs.size,a],[s.heap.objs.size],(bs.map Value.bool).toArray.size,_,_,fun i=>bs.getD i true,rfl,Walks.list (A:=X.A.in1) (I.ok.hd hc) _ a (af4 dj) _,⟨⟨_,af3 _ rfl,rfl,rfl⟩,hl.push _⟩,fun i v ar og ej et hF=>?_,fun h' tk hk=>?_⟩
 ·have e:(bs.map Value.bool)[i]?=some v:=by simpa using et
  rw[af1]at e
  obtain ⟨b,hb,rfl⟩:=ahd.mp e
  have Q4:og b ar:=by
   have:=hF
   dsimp only at this
   rw[afO,hb]at this
   exact this
  exact ag6 Q4
 ·rw[afN,afG,ac1]
  refine ⟨.aG (bs.all id),H,I.kept fun b o e=>hk b o (fun hm=>?_) (afL _ e),rfl,q⟩
  have:=af2.mp hm
  subst this
  exact agl _ (afH e)
end
def BR (rs:List Rat):Nat->List Rat
 | 0=>[]
 | i+1=>uZ (BR rs i) ((eU i).map (·*(rs.getD i 0*Rat.divInt 1 2)))
section
variable {x y:Rat}(ik:bH 5 x)(NK:bH 5 y)
include ik NK
end
variable {K:ajA}{d:PyData}{H A:ah}{ns:ajH}{cM:List (List Int)}{D:Addr}{o:dT}
theorem Yl {X:aO}(bL:X.K=K):fE X (.builtin "isinstance") (fun xs H Q=>∃x t c b,xs=[x,.ty c]/\kV K H x t/\PySem.W.kitOne K (.type t) (.type c)=some b/\Q (.aG b) H):=bL▸uA
def hO:PyData->Bool
 | .tuple ds=>ds.all el
 | _=>false
theorem aaJ (h:qx d=false):hO d=false:=by cases d<;>first|rfl|cases h
theorem Kr (h:el d=true):∃z,d=.int z:=by cases d<;>first|exact ⟨_,rfl⟩|cases h
theorem Jn:∀{ds:ajz},ds.all el=true->∃ns:List Int,ds=ns.map PyData.int
 | [],_=>⟨[],rfl⟩
 | d::ds,h=>by
  rw[ag_,afM]at h
  obtain ⟨z,rfl⟩:=Kr h.1
  obtain ⟨ns,rfl⟩:=Jn h.2
  exact ⟨z::ns,rfl⟩
theorem Yo (h:hO d=true):∃ns:List Int,d=.tuple (ns.map PyData.int):=by
 cases d with
 | tuple ds=>obtain ⟨ns,rfl⟩:=Jn (show ds.all el=true from h);exact ⟨ns,rfl⟩
 | _=>cases h
def d5 (ns:ajH):PyData:=.tuple (ns.map PyData.int)
theorem w2:∀ms ns:List Int,PyData.eqvAll (ms.map PyData.int) (ns.map PyData.int)=decide (ms=ns)
 | [],[]=>rfl
 | [],n::ns=>by simp[PyData.eqvAll]
 | m::ms,[]=>by simp[PyData.eqvAll]
 | m :: ms, n :: ns => by
  rw[af8,af8]
  show (PyData.eqv (.int m) (.int n)&&PyData.eqvAll (ms.map PyData.int) (ns.map PyData.int))=_
  rw[w2 ms ns]
  by_cases h1:m=n
  ·subst h1
   by_cases h2:ms=ns
   ·subst h2;simp[PyData.eqv]
   ·rw[afJ h2,ai7,afJ fun z=>h2 (List.cons.inj z).2]
  ·rw[afJ fun z=>h1 (List.cons.inj z).1]
   simp[PyData.eqv,h1]
theorem acS (ms ns:ajH):PyData.eqv (d5 ms) (d5 ns)=decide (ms=ns):=by
 show PyData.eqv (.tuple _) (.tuple _)=_
 simp only[PyData.eqv]
 exact w2 ms ns
theorem Ll (ns:ajH):(d5 ns).canLay0=true:=by unfold d5;simp only[PyData.canLay0];exact qo ns
theorem acV (ns:ajH):(d5 ns).depth<=1:=by unfold d5;simp only[PyData.depth];rw[uy];exact afE _
def rH (cM:List (List Int)):PyData:=.tuple (cM.map d5)
def pe (d:PyData):Bool:=match d with
 | .tuple ds=>decide (1<=(ds.length:Int))&&decide ((ds.length:Int)<=41)&&ds.all hO
 | _=>false
theorem Jo:∀{ds:ajz},ds.all hO=true->∃cM:List (List Int),ds=cM.map d5
 | [],_=>⟨[],rfl⟩
 | d::ds,h=>by
  rw[ag_,afM]at h
  obtain ⟨ns,rfl⟩:=Yo h.1
  obtain ⟨cM,rfl⟩:=Jo h.2
  exact ⟨ns::cM,rfl⟩
def mX:List (List Int)->Nat->Option Nat
 | [],_=>none
 | r::rs,m=>if r=cu m then mX rs (m+1) else some m
theorem Jd:∀(rs:List (List Int))(m:Nat),(∀j r,rs[j]?=some r->r=cu (m+j))->mX rs m=none
 | [],_,_=>rfl
 | r::rs,m,h=>by
  unfold mX
  rw[afD (show r=cu m from h 0 r rfl)]
  exact Jd rs (m+1) fun j r hj=>by rw[show m+1+j=m+(j+1) by lia];exact h (j+1) r hj
theorem Kw:∀(rs:List (List Int))(m k:Nat)(r:ajH),rs[k]?=some r->r≠cu (m+k)->(∀j q,j<k->rs[j]?=some q->q=cu (m+j))->mX rs m=some (m+k)
 | [],_,_,_,h,_,_=>by simp at h
 | q::rs,m,0,r,h,hr,_=>by
  cases h
  unfold mX
  rw[afC (show ¬q=cu m from hr)];rfl
 | q::rs,m,k+1,r,h,hr,hj=>by
  unfold mX
  rw[afD (show q=cu m from hj 0 q ⋯ rfl)]
  have:=Kw rs (m+1) k r h (by rw[show m+1+k=m+(k+1) by lia];exact hr) fun j bD aeQ e=>by rw[show m+1+j=m+(j+1) by lia];exact hj (j+1) bD ⋯ e
  rw[this];congr 1;lia
def qI (cM:List (List Int)):Option (Str×Int):=match mX cM 0 with
 | none=>none
 | some m=>some ("row",(m:Int))
theorem LO (ns:ajH):ef (d5 ns)=true:=by
 unfold d5
 simp only[ef]
 exact uo fun d hd=>by
  obtain ⟨z,_,rfl⟩:=agd.mp hd
  simp only[ef]
theorem aS.rw {v:V}(h:aS K H v (d5 ns)):∃a,v=.ref a/\bp K H a (ns.map V.int):=aS.ints h
theorem aS.G_ {a:Addr}(h:bp K H a (ns.map V.int)):aS K H (.ref a) (d5 ns):=.tup h (rY ns)
theorem Ju (h:pe d=true):∃cM:List (List Int),d=rH cM/\1<=cM.length/\cM.length<=41:=by
 cases d with
 | tuple ds=>
  have h':(decide (1<=(ds.length:Int))&&decide ((ds.length:Int)<=41)&&ds.all hO)=true:=h
  rw[afM,afM]at h'
  obtain ⟨cM,rfl⟩:=Jo h'.2
  have h1:=afS h'.1.1
  have h2:=afS h'.1.2
  rw[afG]at h1 h2
  exact ⟨cM,rfl,by lia,by lia⟩
 | _=>cases h
def n3 (d:PyData):Option (Str×Int):=if pe d=true then (match d with|.tuple ds=>qI (ds.map fun e=>match e with|.tuple zs=>zs.map (fun z=>match z with|.int i=>i|_=>0)|_=>[])|_=>none) else some ("shape",0)
theorem CV (h:pe d=false):n3 d=some (("shape":Str),(0:Int)):=by unfold n3;rw[h];rfl
theorem aaG (ns:ajH):((ns.map PyData.int).map fun z=>match z with|.int i=>i|_=>0)=ns:=by
 rw[agN]
 exact (ag4 fun _ _=>rfl).trans (ah2 ns)
theorem IY (h:pe (rH cM)=true):n3 (rH cM)=qI cM:=by
 unfold n3
 rw[afD h]
 show qI ((cM.map d5).map _)=_
 congr 1
 rw[agN]
 refine (ag4 fun ns _=>?_).trans (ah2 cM)
 exact aaG ns
theorem aaI (ns:ajH):hO (d5 ns)=true:=by
 show (ns.map PyData.int).all el=true
 rw[afR]
 intro d hd
 obtain ⟨z,_,rfl⟩:=agd.mp hd
 rfl
theorem YF (cM:List (List Int)):pe (rH cM)=(decide (1<=(cM.length:Int))&&decide ((cM.length:Int)<=41)):=by
 show (decide (1<=((cM.map d5).length:Int))&&decide (((cM.map d5).length:Int)<=41)&&(cM.map d5).all hO)=_
 have:(cM.map d5).all hO=true:=by
  rw[afR]
  intro d hd
  obtain ⟨ns,_,rfl⟩:=agd.mp hd
  exact aaI ns
 rw[this,afG,Bool.and_true]
def xI (cM:List (List Int)):Option (Str×Int):=if 1<=cM.length/\cM.length<=41 then qI cM else some ("shape",0)
theorem Yv (cM:List (List Int)):n3 (rH cM)=xI cM:=by
 have e:=YF cM
 unfold xI
 by_cases c:1<=cM.length/\cM.length<=41
 ·rw[afD c]
  refine IY ?_
  rw[e,afI (show 1<=(cM.length:Int) by lia),afI (show (cM.length:Int)<=41 by lia)];rfl
 ·rw[afC c]
  refine CV ?_
  rw[e,Bool.and_eq_false_iff]
  by_cases dJ:1<=cM.length
  ·right;exact afJ ⋯
  ·left;exact afJ ⋯
theorem XF {i:Nat}(hi:i<=cM.length)(h:∀j q,j<i->cM[j]?=some q->q=cu j):(cM.map d5).take i=(List.range i).map fun j=>d5 (cu j):=by
 refine ai8 fun j=>?_
 rw[List.getElem?_take]
 by_cases hj:j<i
 ·rw[afD hj,af1,af1,agK hj]
  have e:cM[j]?=some (cM[j]'⋯):=afQ _
  rw[e]
  have:=h j _ hj e
  show some (d5 _)=some (d5 _)
  rw[this]
 ·rw[afC hj,agL (by rw[afG,agj];lia)]
theorem abD {w:Str}{k:Int}(h:xI cM=some (w,k)):(w="shape"\/w="row")/\0<=k/\k<=(cM.length:Int):=by
 have F4:∀(rs:List (List Int))(m j:Nat),mX rs m=some j->m<=j/\j<=m+rs.length:=fun rs=>by
  induction rs with
  | nil=>intro m j h;cases h
  | cons r rs bl =>
   intro m j h
   unfold mX at h
   by_cases c:r=cu m
   ·rw[afD c]at h
    have:=bl _ _ h
    rw[afX];lia
   ·rw[afC c]at h
    cases h
    rw[afX];lia
 unfold xI at h
 by_cases c:1<=cM.length/\cM.length<=41
 ·rw[afD c]at h
  unfold qI at h
  cases e:mX cM 0 with
  | none=>rw[e]at h;cases h
  | some m=>
   rw[e]at h
   cases h
   have:=F4 _ _ _ e
   exact ⟨.inr rfl,by lia,by lia⟩
 ·rw[afC c]at h
  cases h
  exact ⟨.inl rfl,by decide,by lia⟩
def bQ (D:Addr)(A:ah):ah:=fun b=>if b=D then none else A b
theorem fk {b:Addr}(h:b≠D):bQ D A b=A b:=by unfold bQ;rw[afC h]
theorem jO :bQ D A D=none:=by unfold bQ;rw[afD rfl]
theorem hL {b:Addr}(h:bQ D A b=some o):b≠D/\A b=some o:=by
 by_cases e:b=D
 ·subst e;rw[jO]at h;cases h
 ·rw[fk e]at h;exact ⟨e,h⟩
theorem jP (h:A D=none):bQ D A=A:=by
 funext b
 by_cases e:b=D
 ·subst e;rw[jO,h]
 ·exact fk e
theorem lu :bQ D (upd A D o)=bQ D A:=by
 funext b
 by_cases e:b=D
 ·subst e;rw[jO,jO]
 ·rw[fk e,fk e,br e]
theorem IS {p:Addr}(h:p≠D):bQ D (upd A p o)=upd (bQ D A) p o:=by
 funext b
 by_cases e:b=D
 ·subst e;rw[jO,br (af_ h),jO]
 ·rw[fk e]
  by_cases az:b=p
  ·subst az;rw[bo,bo]
  ·rw[br az,br az,fk e]
theorem wY :bb (bQ D A) A:=fun b o h=>(hL h).2
theorem bb.bQ {D:Addr}{A B:ah}(s:bb A B):bb (bQ D A) (bQ D B):=fun b o h=>by
 obtain ⟨e,h⟩:=hL h
 rw[fk e];exact s b o h
open Classical in
noncomputable def cC (S:Addr->Prop)(A:ah):ah:=fun b=>if S b then none else A b
section
variable {S cv:Addr->Prop}{A B:ah}{b D:Addr}{o:dT}
theorem eD (h:¬S b):cC S A b=A b:=by unfold cC;rw[afC h]
theorem kF (h:S b):cC S A b=none:=by unfold cC;rw[afD h]
theorem i7 (h:cC S A b=some o):¬S b/\A b=some o:=by
 by_cases e:S b
 ·rw[kF e]at h;cases h
 ·rw[eD e]at h;exact ⟨e,h⟩
theorem IG (h:¬S D):cC S (upd A D o)=upd (cC S A) D o:=by
 funext b
 by_cases e:S b
 ·rw[kF e,br (show b≠D from fun z=>h (by rw[<-z];exact e)),kF e]
 ·rw[eD e]
  by_cases az:b=D
  ·subst az;rw[bo,bo]
  ·rw[br az,br az,eD e]
theorem rX:cC S (cC cv A)=cC (fun b=>S b\/cv b) A:=by
 funext b
 by_cases e:S b
 ·rw[kF e,kF (Or.inl e)]
 ·by_cases aU:cv b
  ·rw[eD e,kF aU,kF (Or.inr aU)]
  ·rw[eD e,eD aU,eD (fun z=>z.elim e aU)]
theorem X7:cC S (cC S A)=cC S A:=by
 rw[rX];congr 1;funext b;exact propext ⟨fun z=>z.elim id id,.inl⟩
theorem wZ:cC (fun b=>b=D) A=bQ D A:=by
 funext b
 by_cases e:b=D
 ·rw[kF (S:=fun b=>b=D) e,e,jO]
 ·rw[eD (S:=fun b=>b=D) e,fk e]
theorem JN:cC S (bQ D A)=bQ D (cC S A):=by
 rw[<-wZ,rX,<-wZ,rX];congr 1;funext b;exact propext ⟨fun z=>z.symm,fun z=>z.symm⟩
theorem nP:bb (cC S A) A:=fun b o h=>(i7 h).2
theorem bb.cC (s:bb A B):bb (cC S A) (cC S B):=fun b o h=>by
 obtain ⟨e,h⟩:=i7 h
 rw[eD e];exact s b o h
theorem Zb (h:∀b,S b->cv b):bb (cC cv A) (cC S A):=fun b o e=>by
 obtain ⟨n,e⟩:=i7 e
 rw[eD (fun z=>n (h b z))];exact e
theorem Cx (h:∀b,S b->A b=none):cC S A=A:=by
 funext b
 by_cases e:S b
 ·rw[kF e,h b e]
 ·rw[eD e]
end
structure cw (K:ajA) where
 val:V
 ok:ah->Nat->Prop
 aI:ah->ah->Prop
 st:ah->ah->Prop
 fi:∀{A B},st A B->aI A B
 cK:∀H,aI H H
 gH:∀{A B C},aI A B->aI B C->aI A C
 refl:∀H,st H H
 trans:∀{A B C},st A B->st B C->st A C
 same:∀{H J},bb H J->st H J
 eC:∀{H J n},ok H n->bb H J->ok J n
 newD:∀{H n D cy o hQ},ok H n->H D=none->aI H cy->cy D=some o->aI cy hQ->hQ D=some o
 oX:∀{H n D cy}(o:dT),ok H n->H D=none->st H cy->st H (upd cy D o)
 oY:∀{H n D cy m}(o:dT),ok H n->H D=none->st H cy->ok cy m->ok (upd cy D o) m
 cR:∀{H J n},ok H n->aI H J->lA H J
 mv:∀{H n S A B},ok H n->(∀b,S b->H b=none)->aI H A->aI A B->aI (cC S A) (cC S B)
 mm:∀{A B n b},ok A n->st A B->B b=none->A b=none
 tk:Nat
 nK:tk=1->∀{H n},ok H n->kU H val n
 p_:tk=1->∀{H J n ao},ok H n->SB val H J->kU J val ao->st H J/\ok J ao
 mI:tk=2->∀{H n},ok H n->eE H val n
 oK:tk=2->∀{H J n ao},ok H n->dU val H J->eE J val ao->st H J/\ok J ao
theorem cw.vS {K:ajA}(M:cw K){H:ah}{n:Nat}{D:Addr}{A B:ah}(o:M.ok H n)(h:H D=none)(k:M.aI H A)(cO:M.aI A B):M.aI (bQ D A) (bQ D B):=by
 have z:=M.mv (S:=fun b=>b=D) o (fun b e=>e▸h) k cO
 rw[wZ,wZ]at z;exact z
structure MX (K:ajA)(x:Str)(ns:ajD):Prop where
 c:∀C,cx K x C->(∃B,gk K C B)/\∀f∈ns,PySem.W.findIn K (.ref C) f=some none
def wa:List Str->List V->List (Str×V)
 | [f],[v]=>[(f,v)]
 | [f,g],[v,u]=>gY g u [(f,v)]
 | _,_=>[]
inductive Tk where
 | int|bool|tuple|list|dict|str
def Tk.nm:Tk->String
 | .int=>"int" | .bool=>"bool" | .tuple=>"tuple" | .list=>"list" | .dict=>"dict" | .str=>"str"
inductive a4 where
 | d (x:PyData)
 | t (k:Nat)
 | ty (c:Tk)
 | o (ds:ajz)
 | x (c:Str) (ns:ajD) (ds:ajz)
abbrev bc:=List (Option a4)
def lk:bc->Nat->Option a4
 | [],_=>none
 | a::_,0=>a
 | _::l,i+1=>lk l i
def zs:bc->Nat->a4->bc
 | [],_,_=>[]
 | _::l,0,w=>some w::l
 | a::l,i+1,w=>a::zs l i w
abbrev b7:=a4->Nat->Prop
abbrev cp:=bc->Nat->b7->Prop
abbrev dM:=bc->Nat->(Bool->Nat->Prop)->Prop
abbrev eP:=bc->Nat->(List a4->Nat->Prop)->Prop
abbrev d2:=PyData->bc->Nat->(bc->Nat->Prop)->Prop
abbrev pC:=List PyData->bc->Nat->(bc->Nat->Prop)->Prop
abbrev g4:=bc->Nat->(List PyData->Nat->Prop)->Prop
abbrev sF:=bc->Nat->(Option Int->Nat->Prop)->Prop
section
variable {K:ajA}(M:cw K)
mutual
inductive a7 (H:ah):V->PyData->Prop
 | bz:a7 H .bz .none
 | aG (b:Bool):a7 H (.aG b) (.bool b)
 | int (i:Int):a7 H (.int i) (.int i)
 | str (x:Str):a7 H (.str x) (.str x)
 | lst {a:Addr} {xs:List V} {ds:ajz}:(∀J,M.aI H J->J a=some (.lst xs))->aP H xs ds->a7 H (.ref a) (.list ds)
 | tup {a:Addr} {xs:List V} {ds:ajz}:(∀J,M.aI H J->bp K J a xs)->aP H xs ds->a7 H (.ref a) (.tuple ds)
 | e9 {a:Addr} {kvs:List (Key×V)} {bT:List (PyData×PyData)}:(∀J,M.aI H J->J a=some (.cE kvs))->aP H (kvs.map fun p=>cQ p.1) (bT.map (·.1))->aP H (kvs.map (·.2)) (bT.map (·.2))->a7 H (.ref a) (.dict bT)
 | fs {a:Addr} {b c:Bool} {bT:List (PyData×PyData)}:(∀J,M.aI H J->J a=some (ob a b c))->aP H [.aG b] (bT.map (·.1))->aP H [.aG c] (bT.map (·.2))->a7 H (.ref a) (.dict bT)
inductive aP (H:ah):List V->List PyData->Prop
 | nil:aP H [] []
 | cons {x:V} {xs:List V} {d:PyData} {ds:ajz}:a7 H x d->aP H xs ds->aP H (x::xs) (d::ds)
end
def cS (H:ah)(v:V):a4->Prop
 | .d x=>a7 M H v x
 | .t k=>v=M.val/\M.tk=k
 | .ty c=>v=.ty c.nm
 | .o _=>False
 | .x c ns ds=>∃C aq aD aa,v=.ref aq/\cx K c C/\MX K c ns/\(∀J,M.aI H J->J aq=some (di false aq C (some aD))/\J aD=some (ff aD (wa ns aa)))/\aP M H aa ds
def px (H:ah)(o:Option V):Option a4->Prop
 | none=>True
 | some w=>∃v,o=some v/\cS M H v w
inductive cI (H:ah):St->bc->Prop
 | nil:cI H [] []
 | cons {o:Option V} {w:Option a4} {σ:St} {δ:bc}:px M H o w->cI H σ δ->cI H (o::σ) (w::δ)
inductive fX (H:ah):List V->List a4->Prop
 | nil:fX H [] []
 | cons {v:V} {w:a4} {aa:List V} {ws:List a4}:cS M H v w->fX H aa ws->fX H (v::aa) (w::ws)
def ib (H:ah)(aK:b7)(Q:bW):Prop:=∀v J w ao,M.st H J->M.ok J ao->cS M J v w->aK w ao->Q v J
def m5 (H:ah)(jl:Str->List Str->List PyData->Nat->Prop)(E:fg):Prop:=∀x ns aa ds J ao,M.st H J->M.ok J ao->aP M J aa ds->jl x ns ds ao->xj K x (wa ns aa) J E
end
section
variable {K:ajA}{M:cw K}{H J H1:ah}{n:Nat}
mutual
theorem a7.b1:∀{v:V}{d:PyData},a7 M H v d->aS K H v d
 | _,_,.bz=>.bz
 | _,_,.aG b=>.aG b
 | _,_,.int i=>.int i
 | _,_,.str x=>.str x
 | _,_,.lst h t=>.lst (bP.of (h _ (M.cK _))) (aP.b1 t)
 | _,_,.tup h t=>.tup (h _ (M.cK _)) (aP.b1 t)
 | _,_,.e9 h k t=>.e9 (h _ (M.cK _)) (aP.b1 k) (aP.b1 t)
 | _,_,.fs h k t=>.fs (h _ (M.cK _)) (aP.b1 k) (aP.b1 t)
theorem aP.b1:∀{aa:List V}{ds:ajz},aP M H aa ds->bE K H aa ds
 | _,_,.nil=>.nil
 | _,_,.cons h t=>.cons (a7.b1 h) (aP.b1 t)
end
mutual
theorem a7.aI (e:M.st H J):∀{v:V}{d:PyData},a7 M H v d->a7 M J v d
 | _,_,.bz=>.bz
 | _,_,.aG b=>.aG b
 | _,_,.int i=>.int i
 | _,_,.str x=>.str x
 | _,_,.lst h t=>.lst (fun _ aU=>h _ (M.gH (M.fi e) aU)) (aP.aI e t)
 | _,_,.tup h t=>.tup (fun _ aU=>h _ (M.gH (M.fi e) aU)) (aP.aI e t)
 | _,_,.e9 h k t=>.e9 (fun _ aU=>h _ (M.gH (M.fi e) aU)) (aP.aI e k) (aP.aI e t)
 | _,_,.fs h k t=>.fs (fun _ aU=>h _ (M.gH (M.fi e) aU)) (aP.aI e k) (aP.aI e t)
theorem aP.aI (e:M.st H J):∀{aa:List V}{ds:ajz},aP M H aa ds->aP M J aa ds
 | _,_,.nil=>.nil
 | _,_,.cons h t=>.cons (a7.aI e h) (aP.aI e t)
end
mutual
theorem a7.kw (e:M.aI H J):∀{v:V}{d:PyData},a7 M H v d->a7 M J v d
 | _,_,.bz=>.bz
 | _,_,.aG b=>.aG b
 | _,_,.int i=>.int i
 | _,_,.str x=>.str x
 | _,_,.lst h t=>.lst (fun _ aU=>h _ (M.gH e aU)) (aP.kw e t)
 | _,_,.tup h t=>.tup (fun _ aU=>h _ (M.gH e aU)) (aP.kw e t)
 | _,_,.e9 h k t=>.e9 (fun _ aU=>h _ (M.gH e aU)) (aP.kw e k) (aP.kw e t)
 | _,_,.fs h k t=>.fs (fun _ aU=>h _ (M.gH e aU)) (aP.kw e k) (aP.kw e t)
theorem aP.kw (e:M.aI H J):∀{aa:List V}{ds:ajz},aP M H aa ds->aP M J aa ds
 | _,_,.nil=>.nil
 | _,_,.cons h t=>.cons (a7.kw e h) (aP.kw e t)
end
theorem bp.tv {a:Addr}{xs:List V}(ok:M.ok H n)(h:bp K H a xs)(e:M.aI H J):bp K J a xs:=h.imp (fun z=>M.cR ok e _ _ z) id
mutual
theorem aS.da (ok:M.ok H n):∀{v:V}{d:PyData},aS K H v d->ef d=true->a7 M H v d
 | _,_,.bz,_=>.bz
 | _,_,.aG b,_=>.aG b
 | _,_,.int i,_=>.int i
 | _,_,.str x,_=>.str x
 | _,_,.lst h t,z=>by exact absurd z (by simp[ef])
 | _,_,.e9 h k t,z=>by exact absurd z (by simp[ef])
 | _,_,.fs h k t,z=>by exact absurd z (by simp[ef])
 | _,_,.tup (ds:=ds) h t,z=>by
  have dO:fF ds=true:=by simpa [ef] using z
  exact .tup (fun _ e=>h.tv ok e) (bE.da ok t dO)
theorem bE.da (ok:M.ok H n):∀{aa:List V}{ds:ajz},bE K H aa ds->fF ds=true->aP M H aa ds
 | _,_,.nil,_=>.nil
 | _,_,.cons (d:=d) (ds:=ds) h t,z=>by
  have dO:(ef d&&fF ds)=true:=by simpa only[fF] using z
  obtain ⟨z1,z2⟩:=Bool.and_eq_true_iff.mp dO
  exact .cons (aS.da ok h z1) (bE.da ok t z2)
end
variable {p:Addr}{aa:List V}{ds:ajz}
theorem aP.length {aa:List V}{ds:ajz}(h:aP M H aa ds):aa.length=ds.length:=h.b1.length
theorem aP.get:∀{aa:List V}{ds:ajz}{i:Nat}{d:PyData},aP M H aa ds->ds[i]?=some d->∃v,aa[i]?=some v/\a7 M H v d
 | _,_,i,_,.nil,h=>by simp at h
 | _,_,0,_,.cons h _,e=>by cases e;exact ⟨_,rfl,h⟩
 | _,_,i+1,_,.cons _ t,e=>by
  obtain ⟨v,q,r⟩:=aP.get t (i:=i) e
  exact ⟨v,q,r⟩
theorem aP.append:∀{aa ws:List V}{ds aA:ajz},aP M H aa ds->aP M H ws aA->aP M H (aa++ws) (ds++aA)
 | _,_,_,_,.nil,t=>t
 | _,_,_,_,.cons h t,u=>.cons h (aP.append t u)
theorem aP.take:∀{aa:List V}{ds:ajz}(n:Nat),aP M H aa ds->aP M H (aa.take n) (ds.take n)
 | _,_,0,_=>.nil
 | _,_,_+1,.nil=>.nil
 | _,_,n+1,.cons h t=>.cons h (aP.take n t)
theorem aP.drop:∀{aa:List V}{ds:ajz}(n:Nat),aP M H aa ds->aP M H (aa.drop n) (ds.drop n)
 | _,_,0,t=>t
 | _,_,_+1,.nil=>.nil
 | _,_,n+1,.cons _ t=>aP.drop n t
theorem aP.reverse:∀{aa:List V}{ds:ajz},aP M H aa ds->aP M H aa.reverse ds.reverse
 | _,_,.nil=>.nil
 | _,_,.cons h t=>by rw[air,air];exact (aP.reverse t).append (.cons h .nil)
theorem aP.rep {aa:List V}{ds:ajz}(h:aP M H aa ds):∀k:Nat,aP M H (List.replicate k aa).flatten (List.replicate k ds).flatten
 | 0=>.nil
 | k+1=>by rw[agE,agE,aha,aha];exact h.append (aP.rep h k)
theorem a7.tD (ok:M.ok H n)(hp:H p=none)(t:aP M H aa ds):a7 M (upd H p (.tup aa)) (.ref p) (.tuple ds):=
 .tup (fun _ e=>bp.of (M.newD ok hp (M.fi (M.same (bY hp _))) bo e)) (t.aI (M.same (bY hp _)))
theorem a7.tC (ok:M.ok H n)(hp:H p=none)(t:aP M H aa ds):a7 M (upd H p (.lst aa)) (.ref p) (.list ds):=
 .lst (fun _ e=>M.newD ok hp (M.fi (M.same (bY hp _))) bo e) (t.aI (M.same (bY hp _)))
theorem cS.kw {v:V}{w:a4}(h:cS M H v w)(e:M.aI H J):cS M J v w:=by
 cases w with
 | d x=>exact a7.kw e h
 | t k=>exact h
 | ty c=>exact h
 | o ds=>exact h
 | x c ns ds=>
  obtain ⟨C,aq,aD,aa,rfl,hc,hk,hx,hd⟩:=h
  exact ⟨C,aq,aD,aa,rfl,hc,hk,fun ag az=>hx ag (M.gH e az),hd.kw e⟩
theorem cS.aI {v:V}{w:a4}(h:cS M H v w)(e:M.st H J):cS M J v w:=h.kw (M.fi e)
theorem cI.kw {σ:St}{δ:bc}(h:cI M H σ δ)(e:M.aI H J):cI M J σ δ:=by
 induction h with
 | nil=>exact .nil
 | @cons o w σ δ h _ bl=>
  refine .cons ?_ bl
  cases w with
  | none=>trivial
  | some w=>obtain ⟨v,ai,r⟩:=h;exact ⟨v,ai,r.kw e⟩
theorem cI.aI {σ:St}{δ:bc}(h:cI M H σ δ)(e:M.st H J):cI M J σ δ:=by
 induction h with
 | nil=>exact .nil
 | @cons o w σ δ h _ bl=>
  refine .cons ?_ bl
  cases w with
  | none=>trivial
  | some w=>obtain ⟨v,ai,r⟩:=h;exact ⟨v,ai,r.aI e⟩
theorem cI.get {σ:St}{δ:bc}(h:cI M H σ δ):∀{i:Nat}{w:a4},lk δ i=some w->∃v,σ[i]?=some (some v)/\cS M H v w:=by
 induction h with
 | nil=>intro i w e;cases e
 | @cons o h5 σ δ h t bl =>
  intro i w e
  cases i with
  | zero=>
   have aU:h5=some w:=e
   subst aU
   obtain ⟨v,ai,r⟩:=h
   exact ⟨v,by rw[ai];rfl,r⟩
  | succ i=>
   obtain ⟨v,ai,r⟩:=bl (i:=i) e
   exact ⟨v,by simpa using ai,r⟩
theorem cI.set {σ:St}{δ:bc}(h:cI M H σ δ){v:V}{w:a4}(r:cS M H v w):∀i:Nat,cI M H (σ.set i (some v)) (zs δ i w):=by
 induction h with
 | nil=>intro i;exact .nil
 | @cons o h5 σ δ h t bl=>
  intro i
  cases i with
  | zero=>exact .cons ⟨v,rfl,r⟩ t
  | succ i=>exact .cons h (bl i)
theorem ib.aI {aK:b7}{Q:bW}(h:ib M H aK Q)(e:M.st H J):ib M J aK Q:=fun v ag w ao k o r q=>h v ag w ao (M.trans e k) o r q
theorem m5.aI {jl:Str->List Str->List PyData->Nat->Prop}{E:fg}(h:m5 M H jl E)(e:M.st H J):m5 M J jl E:=fun x ns aa ds ag ao k o r q=>h x ns aa ds ag ao (M.trans e k) o r q
end
section
variable {K:ajA}
variable {D:Addr}{t:V}
theorem Yx {A B:ah}{n m:Nat}(T:kU (bQ D A) t n)(s:SB t A B)(gz:kU B t m):SB t (bQ D A) (bQ D B)/\kU (bQ D B) t m/\V.ref D≠t:=by
 obtain ⟨a,c,cells,at',left,rfl,h1,h2,aQ⟩:=T
 obtain ⟨na,ha⟩:=hL h1
 obtain ⟨mz,hc⟩:=hL h2
 have hv:V.ref D≠V.ref a:=fun z=>by cases z;exact na rfl
 obtain ⟨oq,gq,ed,lj⟩:=s.cell c ⟨a,_,rfl,ha⟩
 cases ed
 refine ⟨⟨fun b o h nb=>?_,fun bG h=>?_⟩,?_,hv⟩
 ·obtain ⟨zY,h⟩:=hL h
  rw[fk zY];exact s.old b o h nb
 ·obtain ⟨a1,au,ai,aL⟩:=h
  cases ai
  obtain ⟨_,aL⟩:=hL aL
  obtain ⟨a2,bt,az,bU⟩:=s.cell bG ⟨a,au,rfl,aL⟩
  cases az
  exact ⟨a,bt,rfl,by rw[fk na];exact bU⟩
 ·obtain ⟨m9,j6,pG,pE,p0,cD,aL,bU,df⟩:=gz
  cases cD
  rw[lj]at aL
  cases aL
  exact ⟨a,c,pG,pE,p0,rfl,by rw[fk na];exact lj,by rw[fk mz];exact bU,df⟩
theorem Zf {A B:ah}{n m:Nat}(T:eE (bQ D A) t n)(s:dU t A B)(gz:eE B t m):dU t (bQ D A) (bQ D B)/\eE (bQ D B) t m/\V.ref D≠t:=by
 obtain ⟨a,c,cells,at',left,turn,rfl,h1,h2,aQ⟩:=T
 obtain ⟨na,ha⟩:=hL h1
 obtain ⟨mz,hc⟩:=hL h2
 have hv:V.ref D≠V.ref a:=fun z=>by cases z;exact na rfl
 obtain ⟨oq,gq,ed,lj⟩:=s.cell c ⟨a,_,rfl,ha⟩
 cases ed
 refine ⟨⟨fun b o h nb=>?_,fun bG h=>?_⟩,?_,hv⟩
 ·obtain ⟨zY,h⟩:=hL h
  rw[fk zY];exact s.old b o h nb
 ·obtain ⟨a1,au,ai,aL⟩:=h
  cases ai
  obtain ⟨_,aL⟩:=hL aL
  obtain ⟨a2,bt,az,bU⟩:=s.cell bG ⟨a,au,rfl,aL⟩
  cases az
  exact ⟨a,bt,rfl,by rw[fk na];exact bU⟩
 ·obtain ⟨m9,j6,pG,pE,p0,B_,cD,aL,bU,df⟩:=gz
  cases cD
  rw[lj]at aL
  cases aL
  exact ⟨a,c,pG,pE,p0,B_,rfl,by rw[fk na];exact lj,by rw[fk mz];exact bU,df⟩
def cw.own (M:cw K)(D:Addr):cw K where
 val:=M.val
 ok A n:=M.ok (bQ D A) n/\∃xs,A D=some (.lst xs)
 aI A B:=M.aI (bQ D A) (bQ D B)
 st A B:=M.st (bQ D A) (bQ D B)/\∀o,A D=some o->B D=some o
 fi h:=M.fi h.1
 cK _:=M.cK _
 gH a b:=M.gH a b
 refl _:=⟨M.refl _,fun _ h=>h⟩
 trans a b:=⟨M.trans a.1 b.1,fun o h=>b.2 o (a.2 o h)⟩
 same s:=⟨M.same s.bQ,fun o h=>s _ _ h⟩
 eC:=fun ⟨o,xs,h⟩ s=>⟨M.eC o s.bQ,xs,s _ _ h⟩
 newD:=fun {H n E cy o hQ} ⟨ok,xs,h⟩ dN k1 e k2=>by
  have c7:E≠D:=fun z=>by rw[z]at dN;rw[dN]at h;cases h
  have:=M.newD ok (by rw[fk c7];exact dN) k1 (by rw[fk c7];exact e) k2
  exact (hL this).2
 oX:=fun {H n E cy} o ⟨ok,xs,h⟩ dN k1=>by
  have c7:E≠D:=fun z=>by rw[z]at dN;rw[dN]at h;cases h
  refine ⟨?_,fun u hu=>by rw[br (af_ c7)];exact k1.2 u hu⟩
  rw[IS c7]
  exact M.oX o ok (by rw[fk c7];exact dN) k1.1
 oY:=fun {H n E cy m} o ⟨ok,xs,h⟩ dN k1 ⟨p3,ys,c1⟩=>by
  have c7:E≠D:=fun z=>by rw[z]at dN;rw[dN]at h;cases h
  refine ⟨?_,ys,by rw[br (af_ c7)];exact c1⟩
  rw[IS c7]
  exact M.oY o ok (by rw[fk c7];exact dN) k1.1 p3
 cR:=fun {H J n} ⟨ok,xs,h⟩ k b ys r=>by
  have c7:b≠D:=fun z=>by
   subst z
   rcases r with r|⟨o,r⟩<;>rw[h]at r<;>cases r
  have:=M.cR ok k b ys (r.imp (fun z=>by rw[fk c7];exact z) (fun ⟨o,z⟩=>⟨o,by rw[fk c7];exact z⟩))
  exact this.imp (fun z=>(hL z).2) (fun ⟨o,z⟩=>⟨o,(hL z).2⟩)
 mv:=fun {H n S A B} ⟨ok,xs,h⟩ dN k1 k2=>by
  have zM:=M.mv (S:=S) ok (fun b e=>by
   by_cases z:b=D
   ·rw[z,jO]
   ·rw[fk z];exact dN b e) k1 k2
  show M.aI (bQ D (cC S A)) (bQ D (cC S B))
  rw[<-JN,<-JN];exact zM
 mm:=fun {A B n b} ⟨ok,xs,h⟩ k e=>by
  by_cases z:b=D
  ·subst z
   rw[k.2 _ h]at e;cases e
  ·have:=M.mm ok k.1 (b:=b) (by rw[fk z];exact e)
   rw[fk z]at this;exact this
 tk:=M.tk
 nK:=fun h {H n} ⟨ok,_⟩=>(M.nK h ok).same wY
 p_:=fun h {H J n ao} ⟨ok,xs,hx⟩ s t'=>by
  obtain ⟨hs,aH,hv⟩:=Yx (M.nK h ok) s t'
  obtain ⟨a,b⟩:=M.p_ h ok hs aH
  exact ⟨⟨a,fun o ho=>s.old _ _ ho hv⟩,b,xs,s.old _ _ hx hv⟩
 mI:=fun h {H n} ⟨ok,_⟩=>(M.mI h ok).same wY
 oK:=fun h {H J n ao} ⟨ok,xs,hx⟩ s t'=>by
  obtain ⟨hs,aH,hv⟩:=Zf (M.mI h ok) s t'
  obtain ⟨a,b⟩:=M.oK h ok hs aH
  exact ⟨⟨a,fun o ho=>s.old _ _ ho hv⟩,b,xs,s.old _ _ hx hv⟩
variable {M:cw K}{H1:ah}{D:Addr}
mutual
theorem a7.own (bq:H1 D=none)(o:dT):∀{v:V}{d:PyData},a7 M H1 v d->a7 (M.own D) (upd H1 D o) v d
 | _,_,.bz=>.bz
 | _,_,.aG b=>.aG b
 | _,_,.int i=>.int i
 | _,_,.str x=>.str x
 | _,_,.lst h t=>.lst (fun J e=>(hL (h (bQ D J) (by have aU:M.aI (bQ D (upd H1 D o)) (bQ D J):=e;rw[lu,jP bq]at aU;exact aU))).2) (aP.own bq o t)
 | _,_,.tup h t=>.tup (fun J e=>(wY (D:=D)).hh (h (bQ D J) (by have aU:M.aI (bQ D (upd H1 D o)) (bQ D J):=e;rw[lu,jP bq]at aU;exact aU))) (aP.own bq o t)
 | _,_,.e9 h k t=>.e9 (fun J e=>(hL (h (bQ D J) (by have aU:M.aI (bQ D (upd H1 D o)) (bQ D J):=e;rw[lu,jP bq]at aU;exact aU))).2) (aP.own bq o k) (aP.own bq o t)
 | _,_,.fs h k t=>.fs (fun J e=>(hL (h (bQ D J) (by have aU:M.aI (bQ D (upd H1 D o)) (bQ D J):=e;rw[lu,jP bq]at aU;exact aU))).2) (aP.own bq o k) (aP.own bq o t)
theorem aP.own (bq:H1 D=none)(o:dT):∀{aa:List V}{ds:ajz},aP M H1 aa ds->aP (M.own D) (upd H1 D o) aa ds
 | _,_,.nil=>.nil
 | _,_,.cons h t=>.cons (a7.own bq o h) (aP.own bq o t)
end
mutual
theorem a7.bare {n:Nat}{H:ah}(ok:M.ok H1 n)(bq:H1 D=none)(k:M.aI H1 (bQ D H)):∀{v:V}{d:PyData},a7 (M.own D) H v d->a7 M (bQ D H) v d
 | _,_,.bz=>.bz
 | _,_,.aG b=>.aG b
 | _,_,.int i=>.int i
 | _,_,.str x=>.str x
 | _,_,.lst h t=>.lst (fun J e=>h J (by have z:=M.vS ok bq k e;rw[jP jO]at z;exact z)) (aP.bare ok bq k t)
 | _,_,.tup h t=>.tup (fun J e=>h J (by have z:=M.vS ok bq k e;rw[jP jO]at z;exact z)) (aP.bare ok bq k t)
 | _,_,.e9 h cO t=>.e9 (fun J e=>h J (by have z:=M.vS ok bq k e;rw[jP jO]at z;exact z)) (aP.bare ok bq k cO) (aP.bare ok bq k t)
 | _,_,.fs h cO t=>.fs (fun J e=>h J (by have z:=M.vS ok bq k e;rw[jP jO]at z;exact z)) (aP.bare ok bq k cO) (aP.bare ok bq k t)
theorem aP.bare {n:Nat}{H:ah}(ok:M.ok H1 n)(bq:H1 D=none)(k:M.aI H1 (bQ D H)):∀{aa:List V}{ds:ajz},aP (M.own D) H aa ds->aP M (bQ D H) aa ds
 | _,_,.nil=>.nil
 | _,_,.cons h t=>.cons (a7.bare ok bq k h) (aP.bare ok bq k t)
end
theorem J3 {A:ah}{o:dT}(h:A D=some o):upd (bQ D A) D o=A:=by
 funext b
 by_cases e:b=D
 ·subst e;rw[bo,h]
 ·rw[br e,fk e]
theorem cS.own (bq:H1 D=none)(o:dT){v:V}{w:a4}(h:cS M H1 v w):cS (M.own D) (upd H1 D o) v w:=by
 cases w with
 | d x=>exact a7.own bq o h
 | t k=>exact h
 | ty c=>exact h
 | o ds=>exact h
 | x c ns ds=>
  obtain ⟨C,aq,aD,aa,rfl,hc,hk,hx,hd⟩:=h
  refine ⟨C,aq,aD,aa,rfl,hc,hk,fun ag az=>?_,aP.own bq o hd⟩
  have aU:M.aI (bQ D (upd H1 D o)) (bQ D ag):=az
  rw[lu,jP bq]at aU
  exact ⟨(hL (hx _ aU).1).2,(hL (hx _ aU).2).2⟩
theorem cI.own (bq:H1 D=none)(o:dT){σ:St}{δ:bc}(h:cI M H1 σ δ):cI (M.own D) (upd H1 D o) σ δ:=by
 induction h with
 | nil=>exact .nil
 | @cons a w σ δ h _ bl=>
  refine .cons ?_ bl
  cases w with
  | none=>trivial
  | some w=>obtain ⟨v,ai,r⟩:=h;exact ⟨v,ai,r.own bq o⟩
end
section
variable {X:aO}{K:ajA}
variable {k:Nat}{eo:TE}
def DT:dV:=fun x y H Q=>∃l b xs zs,x=.ref l/\y=.ref b/\gR H l (.lst xs)/\gR H b (.lst zs)/\xs.length+zs.length<=sizeLine/\∀p,H p=none->Q (.ref p) (upd H p (.lst (xs++zs)))
theorem aaf:dh X (binaryOp .Add) DT:=by
 intro pins s σ H x y v u Q I aB aJ h
 obtain ⟨l,b,xs,zs,rfl,rfl,iV,QW,aZ,q⟩:=h
 cases aB
 cases aJ
 obtain ⟨z,its,n,r,e⟩:=iV.ok I.aX
 obtain ⟨z2,ip,a_,bt,az⟩:=QW.ok I.aX
 have hl:=r.length
 have zq:=bt.length
 refine PySem.P.add_list e az ?_ (by rw[afN,afN];lia)
 have aq:its.toArray++ip.toArray=(its++ip).toArray:=by simp
 rw[aq]
 exact ⟨.ref _,_,I.GW (t':=s.toks) (r.append bt) (by rw[afZ];lia),rfl,q _ I.fresh⟩
def Ke:dV:=fun x y H Q=>∃i j,x=.str i/\y=.str j/\i.length+j.length<=sizeLine/\Q (.str (i++j)) H
abbrev gr (r bJ:dV):dV:=fun x y H Q=>r x y H Q\/bJ x y H Q
theorem gM (bL:X.K=K):dh X (binaryOp .Add) (gr (iv fun i j=>V.int (i+j)) (gr (uT K) (gr DT Ke))):=by
 subst bL
 intro pins s σ H x y v u Q I aB aJ h
 rcases h with h|h|h|h
 ·exact hM pins s σ H x y v u Q I aB aJ h
 ·exact Km pins s σ H x y v u Q I aB aJ h
 ·exact aaf pins s σ H x y v u Q I aB aJ h
 ·exact Xm pins s σ H x y v u Q I aB aJ h
theorem nW (bL:X.K=K):dh X (binaryOp .Mult) (gr (iu pl fun i j=>V.int (i*j)) (gr (iu sb fun i j=>V.int (i*j)) (gr (DS K) Em))):=by
 subst bL
 intro pins s σ H x y v u Q I aB aJ h
 rcases h with h|h|h|h
 ·exact kJ pins s σ H x y v u Q I aB aJ h
 ·exact l7 pins s σ H x y v u Q I aB aJ h
 ·exact Kl pins s σ H x y v u Q I aB aJ h
 ·exact Lc pins s σ H x y v u Q I aB aJ h
def r4 (K:ajA)(c:Bool):dV:=fun x y H Q=>∃a b xs ys,x=.ref a/\y=.ref b/\((bP K H a xs/\bP K H b ys/\xs.length≠ys.length)\/(bp K H a xs/\bp K H b ys/\ys=[]))/\((xs.length=ys.length/\Q (.aG (!c)) H)\/(xs.length≠ys.length/\Q (.aG c) H))
theorem acz (hr:dI k X.A):dh X (compareOp .Eq) (r4 X.K false):=by
 intro pins s σ H x y v u Q I aB aJ h
 obtain ⟨a,b,xs,ys,rfl,rfl,h,q⟩:=h
 cases aB;cases aJ
 have hu:=hr.units
 rcases h with ⟨h1,h2,hl⟩|⟨h1,h2,rfl⟩
 ·obtain ⟨its,bg,p,_⟩:=I.list h1
  obtain ⟨ip,qa,b8,_⟩:=I.list h2
  have bU:=(q.resolve_left fun z=>hl z.1).2
  refine PySem.SeqAt.eq_list_lengthsAt p.isList b8.isList ?_ ⋯ ⟨.aG false,H,I,rfl,bU⟩
  rw[afN,afN,<-bg.length,<-qa.length,aiw];exact hl
 ·obtain ⟨its,bg,p,_⟩:=I.tuple h1
  obtain ⟨ip,qa,b8,_⟩:=I.tuple h2
  cases qa
  refine PySem.SeqAt.eq_tupleAt (e:=fun _=>true) (show s.heap.IsTuple a its.toArray from p) (show s.heap.IsTuple b (#[]:Array Value) from b8) ⋯ (fun j h1 h2=>absurd h2 (ahe _)) ⟨.aG (its.toArray.size == 0),H,I,?_,?_⟩
  ·show RelV _ (Value.bool ((List.range (min its.toArray.size 0)).all _&&its.toArray.size == 0))
   rw[Nat.min_zero];rfl
  ·rw[afN,<-bg.length]
   rcases q with ⟨e,q⟩|⟨e,q⟩
   ·rw[e];exact q
   ·have:(xs.length == 0)=false:=agV.mpr e
    rw[this];exact q
theorem acx (hr:dI k X.A):dh X (compareOp .NotEq) (r4 X.K true):=by
 intro pins s σ H x y v u Q I aB aJ h
 obtain ⟨a,b,xs,ys,rfl,rfl,h,q⟩:=h
 cases aB;cases aJ
 have hu:=hr.units
 rcases h with ⟨h1,h2,hl⟩|⟨h1,h2,rfl⟩
 ·obtain ⟨its,bg,p,_⟩:=I.list h1
  obtain ⟨ip,qa,b8,_⟩:=I.list h2
  have bU:=(q.resolve_left fun z=>hl z.1).2
  refine PySem.SeqAt.RcNeAt.lists_lengths p.isList b8.isList ?_ ⋯ _ _ _ _ ⟨.aG true,H,I,rfl,bU⟩
  rw[afN,afN,<-bg.length,<-qa.length,aiw];exact hl
 ·obtain ⟨its,bg,p,_⟩:=I.tuple h1
  obtain ⟨ip,qa,b8,_⟩:=I.tuple h2
  cases qa
  refine PySem.SeqAt.RcNeAt.tuples (e:=fun _=>true) (show s.heap.IsTuple a its.toArray from p) (show s.heap.IsTuple b (#[]:Array Value) from b8) ⋯ (fun j h1 h2=>absurd h2 (ahe _)) _ _ _ _ ⟨.aG (!(its.toArray.size == 0)),H,I,?_,?_⟩
  ·show RelV _ (Value.bool (!((List.range (min its.toArray.size 0)).all _&&its.toArray.size == 0)))
   rw[Nat.min_zero];rfl
  ·rw[afN,<-bg.length]
   rcases q with ⟨e,q⟩|⟨e,q⟩
   ·rw[e];exact q
   ·have:(xs.length == 0)=false:=agV.mpr e
    rw[this];exact q
theorem eW (bL:X.K=K)(hr:dI k X.A):dh X (compareOp .Eq) (gr Ak (gr (fun x y H Q=>∃d e,aS K H x d/\aS K H y e/\d.canLay0=true/\e.canLay0=true/\d.depth<=60/\Q (V.aG (d.eqv e)) H) (r4 K false))):=by
 subst bL
 intro pins s σ H x y v u Q I aB aJ h
 rcases h with h|h|h
 ·exact n1 pins s σ H x y v u Q I aB aJ h
 ·exact Le hr pins s σ H x y v u Q I aB aJ h
 ·exact acz hr pins s σ H x y v u Q I aB aJ h
theorem o9 (bL:X.K=K)(hr:dI k X.A):dh X (compareOp .NotEq) (gr Am (gr (fun x y H Q=>∃d e,aS K H x d/\aS K H y e/\d.canLay0=true/\e.canLay0=true/\d.depth<=60/\Q (V.aG (!d.eqv e)) H) (r4 K true))):=by
 subst bL
 intro pins s σ H x y v u Q I aB aJ h
 rcases h with h|h|h
 ·exact Mc pins s σ H x y v u Q I aB aJ h
 ·exact Ld hr pins s σ H x y v u Q I aB aJ h
 ·exact acx hr pins s σ H x y v u Q I aB aJ h
theorem iA (bL:X.K=K):lE X (Al K):=by subst bL;exact acJ
theorem K0 (bL:X.K=K):pA X (fun x lo hi H Q=>xM K x lo hi H Q\/El K x lo hi H Q):=by
 subst bL
 intro pins s σ H x v fT fU lo hi bR Q I aB hs bX pu h
 rcases h with h|h
 ·exact zev pins s σ H x v fT fU lo hi bR Q I aB hs bX pu h
 ·exact C3 pins s σ H x v fT fU lo hi bR Q I aB hs bX pu h
def L8 (K:ajA):List V->ah->bW->Prop:=fun xs H Q=>∃p ys,xs=[.ref p]/\(bP K H p ys\/bp K H p ys)/\Q (.int ys.length) H
theorem kD (bL:X.K=K):fE X (.builtin "len") (L8 K):=by subst bL;exact l4
def L7 (K:ajA):List V->ah->bW->Prop:=fun xs H Q=>∃p ys,xs=[.ref p]/\((bP K H p ys/\∀l,H l=none->Q (.ref l) (upd H l (.tup ys)))\/bp K H p ys/\Q (.ref p) H)
theorem Yh (bL:X.K=K):fE X (.type "tuple") (L7 K):=by subst bL;exact nL
def K7 (K:ajA):List V->ah->bW->Prop:=fun xs H Q=>∃x d k,xs=[x]/\aS K H x d/\oh d/\k=d.shown/\Q (.str k) H
theorem Cr (bL:X.K=K)(hr:dI k X.A):fE X (.builtin "repr") (K7 K):=by subst bL;exact Yj hr
def L_ (K:ajA):List V->ah->bW->Prop:=fun xs H Q=>∃x t c b,xs=[x,.ty c]/\kV K H x t/\PySem.W.kitOne K (.type t) (.type c)=some b/\Q (.aG b) H
theorem Jh (bL:X.K=K):fE X (.builtin "isinstance") (L_ K):=by subst bL;exact uA
def Ep (K:ajA)(eo:TE):TI:=fun σ H R=>eo σ H fun x H1=>∃a,x=.ref a/\(((∃xs,bP K H1 a xs)/\R (x7 K a) H1)\/((∃xs,bp K H1 a xs)/\R (oc K a) H1))
theorem acd (bL:X.K=K){bx l:Expr}(hl:bN X l eo):hR X bx l (Ep K eo):=by
 subst bL
 intro pins s σ H R I h
 refine bk (hl pins s σ H _ I h) fun v s1 hz=>?_
 obtain ⟨x,H1,aF,au,aL⟩:=hz
 obtain ⟨a,e,⟨⟨xs,aM⟩,q⟩|⟨⟨xs,aM⟩,q⟩⟩:=aL
 ·subst e
  cases au
  obtain ⟨its,bg,p,aZ⟩:=aF.list aM
  refine wpAny_pyIter_list p.isList ?_
  refine ⟨s1.heap.objs.size,[s1.heap.objs.size],_,_,H1,rfl,aF.kept (t':=s1.toks) fun b o e=>afL _ e,XC a _,⟨_,af3 _ rfl,rfl,rfl⟩,fun b hb=>?_,q⟩
  have e:b=s1.heap.objs.size:=by simpa using hb
  subst e
  exact aF.k9 (afE _) (aF.aX.fresh (afE _))
 ·subst e
  cases au
  obtain ⟨its,bg,p,aZ⟩:=aF.tuple aM
  refine wpAny_pyIter_tuple (show s1.heap.IsTuple a its.toArray from p) ?_
  refine ⟨s1.heap.objs.size,[s1.heap.objs.size],_,_,H1,rfl,aF.kept (t':=s1.toks) fun b o e=>afL _ e,II a _,⟨_,af3 _ rfl,rfl,rfl⟩,fun b hb=>?_,q⟩
  have e:b=s1.heap.objs.size:=by simpa using hb
  subst e
  exact aF.k9 (afE _) (aF.aX.fresh (afE _))
theorem uB (bL:X.K=K){bx l:Expr}(hl:bI X l eo):jh X bx l (Ep K eo):=⟨acd bL hl.o⟩
def Lr (K:ajA)(aC:cP):TI:=fun σ H R=>aC σ H fun aa H1=>∃b a xs,aa=[.ref a]/\ig b K H1 a xs/\R (m3 b K a) H1
theorem Cv (bL:X.K=K){elts:ajE}{kk:Nat}{oV:Pos}{ai:Expr}{aC:cP}{p pos:Pos}(hg:eF X "enumerate")(hm:X.mg "enumerate"=none)(ha:gP X [ai] aC)(he:starEach [ai] X.env=(false,eval ai X.env)::starEach [] X.env:=by rfl)(hpl:(backTo pos (starEach [] X.env)).any (·.1)=false:=by rfl) :
  jh X (.Tuple elts kk oV) (.Call (.Name "enumerate" p) [ai] [] pos) (Lr K aC):=by
 subst bL
 refine ⟨?_⟩
 intro pins s σ H R I h
 refine agP (mS I hg hm ID ?_ (by decide) (by decide))
 refine agW (bk (ha.o pos pins s σ H _ I h) fun us s1 ⟨aa,H1,aF,au,aL⟩=>?_) he hpl
 obtain ⟨b,a,xs,rfl,hX,q⟩:=aL
 obtain ⟨u,rfl,fz⟩:=iB au
 cases fz
 have fin:∀h',IsEnum h' (s1.heap.objs.size+1) s1.heap.objs.size 0 .none->m2 b h' s1.heap.objs.size a 0->(∀c o,s1.heap.get? c=some o->h'.get? c=some o)->a<s1.heap.objs.size->
   wpAny (model X.prog X.w) X.A (pyIter (.ref (s1.heap.objs.size+1))) (vi X pins σ (.Tuple elts kk oV) R) X.ct {s1 with heap:=h'}:=by
  intro h' jr iX hk tw
  refine ai0 jr ?_
  refine ⟨_,[s1.heap.objs.size+1,s1.heap.objs.size],_,m3 b X.K a,H1,rfl,aF.kept hk,IX (Nat.succ_ne_self _) (ahF (aio tw)) (af4 tw),⟨⟨_,jr⟩,iX⟩,fun c hc=>?_,q⟩
  have hle:s1.heap.objs.size<=c:=by
   simp only[afP,agg,agh]at hc
   rcases hc with rfl|rfl
   ·exact ahz _
   ·exact afE _
  exact aF.k9 hle (aF.aX.fresh hle)
 cases b
 ·obtain ⟨its,bg,p,_⟩:=aF.list hX
  obtain ⟨o,n,e,_⟩:=id p
  exact IC p.isList fun h' jr iX _ hk=>fin h' jr iX hk (afH e)
 ·obtain ⟨its,bg,p,_⟩:=aF.tuple hX
  obtain ⟨o,e,_⟩:=id p
  exact IB (show s1.heap.IsTuple a its.toArray from p) fun h' jr iX _ hk=>fin h' jr iX hk (afH e)
end
structure a9 (K:ajA)(a8:TE)(eR:cp):Prop where
 o:∀(M:cw K){σ:St}{δ:bc}{H:ah}{n:Nat}{Q:bW}{aK:b7},M.ok H n->cI M H σ δ->eR δ n aK->ib M H aK Q->a8 σ H Q
structure oi (K:ajA)(a8:TE)(eR:cp):Prop where
 o:∀(M:cw K){σ:St}{δ:bc}{H:ah}{n:Nat}{Q:bW}{aK:b7},M.ok H n->cI M H σ δ->eR δ n aK->(∀D H1 aa ds ax,M.st H H1->M.ok H1 ax->H1 D=none->aP M H1 aa ds->aK (.d (.list ds)) ax->Q (.ref D) (upd H1 D (.lst aa)))->a8 σ H Q
variable {K:ajA}{M:cw K}{H1 J:ah}{d:PyData}{n:Nat}
theorem oi.e {a8:TE}{eR:cp}(h:oi K a8 eR):a9 K a8 eR:=⟨fun M {σ δ H n Q aK} ok re hs k=>h.o M ok re hs fun D H1 aa ds ax st o bq d q=>k _ _ _ ax (M.trans st (M.same (bY bq _))) (M.eC o (bY bq _)) (show cS M _ _ (.d (.list ds)) from a7.tC o bq d) q⟩
structure cL (K:ajA)(a8:TT)(eR:dM):Prop where
 o:∀(M:cw K){σ:St}{δ:bc}{H:ah}{n:Nat}{Q:Bool->ah->Prop}{aK:Bool->Nat->Prop},M.ok H n->cI M H σ δ->eR δ n aK->(∀b J ao,M.st H J->M.ok J ao->aK b ao->Q b J)->a8 σ H Q
structure e7 (K:ajA)(k:Nat)(a8:cP)(eR:eP):Prop where
 o:∀(M:cw K){σ:St}{δ:bc}{H:ah}{n:Nat}{Q:List V->ah->Prop}{aK:List a4->Nat->Prop},M.ok H n->cI M H σ δ->eR δ n aK->(∀aa J ws ao,M.st H J->M.ok J ao->fX M J aa ws->ws.length=k->aK ws ao->Q aa J)->a8 σ H Q
structure pB (K:ajA)(g:dX)(d1:d2):Prop where
 o:∀(M:cw K){σ:St}{δ:bc}{H:ah}{n:Nat}{v:V}{d:PyData}{Q:St->ah->Prop}{aK:bc->Nat->Prop},M.ok H n->cI M H σ δ->a7 M H v d->d1 d δ n aK->(∀aE J bw ao,M.st H J->M.ok J ao->cI M J aE bw->aK bw ao->Q aE J)->g v σ H Q
def yf {K:ajA}(M:cw K)(H1 J:ah)(x:V)(fW:ah)(d:PyData):Prop:=
 (fW=J/\a7 M H1 x d)\/∃T aa aA,x=.ref T/\J T=none/\fW=upd J T (.tup aa)/\d=.tuple aA/\aP M H1 aa aA
def mh {K:ajA}(M:cw K)(H1:ah)(bV:gZ)(ds:ajz):Prop:=
 ∀J,M.aI H1 J->(∀i d,ds[i]?=some d->bV.go i J/\∀x fW,bV.kB i J x fW->yf M H1 J x fW d)/\bV.stop ds.length J
theorem yf.get {fW:ah}{x:V}(y:yf M H1 J x fW d)(k:M.aI H1 J)(o:M.ok J n):M.st J fW/\bb J fW/\a7 M fW x d:=by
 rcases y with ⟨rfl,h⟩|⟨T,aa,aA,rfl,cG,rfl,rfl,h⟩
 ·exact ⟨M.refl _,bb.refl _,h.kw k⟩
 ·exact ⟨M.same (bY cG _),bY cG _,.tD o cG (h.kw k)⟩
theorem mh.ownAt {D:Addr}{bV:gZ}{ds:ajz}(h:mh M H1 bV ds)(bq:H1 D=none){u:dT}(cO:M.st (bQ D (upd H1 D u)) (bQ D J))(o:(M.own D).ok J n) :
  (∀i d,ds[i]?=some d->bV.go i J/\∀x fW,bV.kB i J x fW->(M.own D).st J fW/\bb J fW/\a7 (M.own D) fW x d)/\bV.stop ds.length J:=by
 have k0:=cO
 rw[lu,jP bq]at cO
 have k2:=M.trans cO (M.same wY)
 obtain ⟨g,s⟩:=h J (M.fi k2)
 have kw:(M.own D).aI (upd H1 D u) J:=M.fi k0
 refine ⟨fun i d e=>?_,s⟩
 obtain ⟨g1,g2⟩:=g i d e
 refine ⟨g1,fun x fW y=>?_⟩
 rcases g2 x fW y with ⟨rfl,h⟩|⟨T,aa,aA,rfl,cG,rfl,rfl,h⟩
 ·exact ⟨(M.own D).refl _,bb.refl _,(h.own bq u).kw kw⟩
 ·exact ⟨(M.own D).same (bY cG _),bY cG _,.tD o cG ((h.own bq u).kw kw)⟩
structure lJ (K:ajA)(cZ:TI)(Yz:g4):Prop where
 o:∀(M:cw K){σ:St}{δ:bc}{H:ah}{n:Nat}{R:gZ->ah->Prop}{gR:List PyData->Nat->Prop},M.ok H n->cI M H σ δ->Yz δ n gR->(∀bV J ds ao,M.st H J->M.ok J ao->mh M J bV ds->gR ds ao->R bV J)->cZ σ H R
structure vk (K:ajA)(a8:kS)(eR:sF):Prop where
 o:∀(M:cw K){σ:St}{δ:bc}{H:ah}{n:Nat}{Q:Option Int->ah->Prop}{aK:Option Int->Nat->Prop},M.ok H n->cI M H σ δ->eR δ n aK->(∀b J ao,M.st H J->M.ok J ao->aK b ao->Q b J)->a8 σ H Q
def hD (K:ajA)(r:dV)(f:a4->a4->Nat->b7->Prop):Prop:=∀(M:cw K){H:ah}{n:Nat}{x y:V}{w z:a4}{Q:bW}{aK:b7},M.ok H n->cS M H x w->cS M H y z->f w z n aK->ib M H aK Q->r x y H Q
def pw (K:ajA)(r:List V->ah->bW->Prop)(f:List a4->Nat->b7->Prop):Prop:=∀(M:cw K){H:ah}{n:Nat}{xs:List V}{ws:List a4}{Q:bW}{aK:b7},M.ok H n->fX M H xs ws->f ws n aK->ib M H aK Q->r xs H Q
theorem a7.rw {H:ah}{v:V}(h:a7 M H v d):cS M H v (.d d):=h
section
variable {K:ajA}
variable {aC aY:TE}{a b:cp}{m:Nat}{t:cP}{z:dv}
def Wu:Option a4->(a4->Prop)->Prop
 | some w,Q=>Q w
 | none,_=>False
def rK:bc->Nat->(a4->Prop)->Prop
 | [],_,_=>False
 | o::_,0,Q=>Wu o Q
 | _::l,i+1,Q=>rK l i Q
theorem xu:∀{δ:bc}{i:Nat}{Q:a4->Prop},rK δ i Q->∃w,lk δ i=some w/\Q w
 | some w::_,0,Q,h=>⟨w,rfl,h⟩
 | none::_,0,_,h=>h.elim
 | _::l,i+1,Q,h=>xu (δ:=l) (i:=i) h
 | [],_,_,h=>h.elim
def adY (i:Nat):cp:=fun δ n Q=>rK δ i fun w=>Q w n
def fo:Bool->Prop->Prop->Prop
 | true,p,_=>p
 | false,_,q=>q
def qA (d:PyData):cp:=fun _ n Q=>Q (.d d) n
def W3 (c:Tk):cp:=fun _ n Q=>Q (.ty c) n
theorem aw {i:Nat}:a9 K (u3 i) (adY i):=⟨fun M {σ δ H n Q aK} ok re h k=>by
 obtain ⟨w,e,h⟩:=xu h
 obtain ⟨v,ai,r⟩:=re.get e
 exact ⟨v,ai,k v H w n (M.refl _) ok r h⟩⟩
theorem xK {v:V}{d:PyData}(hv:∀(M:cw K) H,a7 M H v d):a9 K (gv v) (qA d):=⟨fun M {σ δ H n Q aK} ok re h k=>k v H _ n (M.refl _) ok (show cS M H v (.d d) from hv M H) h⟩
theorem ba {i:Int}:a9 K (gv (.int i)) (qA (.int i)):=xK fun _ _=>.int i
theorem n0 {i:Bool}:a9 K (gv (.aG i)) (qA (.bool i)):=xK fun _ _=>.aG i
theorem dB {i:Str}:a9 K (gv (.str i)) (qA (.str i)):=xK fun _ _=>.str i
theorem abJ:a9 K (gv .bz) (qA .none):=xK fun _ _=>.bz
theorem L0 (c:Tk):a9 K (gv (.ty c.nm)) (W3 c):=⟨fun M {σ δ H n Q aK} ok re h k=>k _ H _ n (M.refl _) ok (show cS M H _ (.ty c) from rfl) h⟩
def WZ (f:a4->a4->Nat->b7->Prop)(a b:cp):cp:=fun δ n Q=>a δ n fun x ax=>b δ ax fun y a_=>f x y a_ Q
theorem bh {r:dV}{f:a4->a4->Nat->b7->Prop}(hr:hD K r f)(ha:a9 K aC a)(hb:a9 K aY b):a9 K (nJ r aC aY) (WZ f a b):=⟨fun M {σ δ H n Q aK} ok re h k=>by
 refine ha.o M ok re h fun x H1 w ax k1 bM au h1=>?_
 refine hb.o M bM (re.aI k1) h1 fun y ag z a_ k2 fN bt h2=>?_
 exact hr M fN (au.aI k2) bt h2 (k.aI (M.trans k1 k2))⟩
def W4 (f:Int->PyData)(a:cp):cp:=fun δ n Q=>a δ n fun x ax=>match x with|.d (.int i)=>Q (.d (f i)) ax|_=>False
theorem Dw (ha:a9 K aC a):a9 K (wC (wd fun i=>.int (-i)) aC) (W4 (fun i=>.int (-i)) a):=⟨fun M {σ δ H n Q aK} ok re h k=>by
 refine ha.o M ok re h fun x H1 w ax k1 bM au h1=>?_
 match w,au,h1 with
 | .d (.int i),au,h1=>cases au;exact ⟨i,rfl,k _ H1 _ ax k1 bM (a7.rw (.int _)) h1⟩⟩
def Jf (a:cp):dM:=fun δ n Q=>a δ n fun x ax=>match x with|.d (.bool b)=>Q b ax|_=>False
theorem dC (ha:a9 K aC a):cL K (DM aC) (Jf a):=⟨fun M {σ δ H n Q aK} ok re h k=>by
 refine ha.o M ok re h fun x H1 w ax k1 bM au h1=>?_
 match w,au,h1 with
 | .d (.bool b),au,h1=>cases au;exact ⟨b,rfl,k b H1 ax k1 bM h1⟩⟩
theorem qE (ha:a9 K aC a):cL K (B2 aC) (Jf a):=dC ha
def ade (a b:cp):cp:=fun δ n Q=>a δ n fun x ax=>match x with|.d (.bool c)=>fo c (b δ ax Q) (Q (.d (.bool false)) ax)|_=>False
theorem qr (ha:a9 K aC a)(hb:a9 K aY b):a9 K (DQ aC aY) (ade a b):=⟨fun M {σ δ H n Q aK} ok re h k=>by
 refine ha.o M ok re h fun x H1 w ax k1 bM au h1=>?_
 match w,au,h1 with
 | .d (.bool c),au,h1=>
  cases au
  refine ⟨c,rfl,?_⟩
  cases c with
  | true=>exact hb.o M bM (re.aI k1) h1 (k.aI k1)
  | false=>exact k _ H1 _ ax k1 bM (a7.rw (.aG _)) h1⟩
def ad0 (a b:cp):cp:=fun δ n Q=>a δ n fun x ax=>match x with|.d (.bool c)=>fo c (Q (.d (.bool true)) ax) (b δ ax Q)|_=>False
theorem abI (ha:a9 K aC a)(hb:a9 K aY b):a9 K (Ea aC aY) (ad0 a b):=⟨fun M {σ δ H n Q aK} ok re h k=>by
 refine ha.o M ok re h fun x H1 w ax k1 bM au h1=>?_
 match w,au,h1 with
 | .d (.bool c),au,h1=>
  cases au
  refine ⟨c,rfl,?_⟩
  cases c with
  | false=>exact hb.o M bM (re.aI k1) h1 (k.aI k1)
  | true=>exact k _ H1 _ ax k1 bM (a7.rw (.aG _)) h1⟩
def ad5 (a b:dM):dM:=fun δ n Q=>a δ n fun c ax=>fo c (b δ ax Q) (Q false ax)
def W0 (a b:dM):dM:=fun δ n Q=>a δ n fun c ax=>fo c (Q true ax) (b δ ax Q)
def ad1 (a:dM):dM:=fun δ n Q=>a δ n fun c ax=>Q (!c) ax
theorem abK {aC aY:TT}{a b:dM}(ha:cL K aC a)(hb:cL K aY b):cL K (Ef aC aY) (ad5 a b):=⟨fun M {σ δ H n Q aK} ok re h k=>by
 refine ha.o M ok re h fun c H1 ax k1 bM h1=>?_
 cases c with
 | true=>exact hb.o M bM (re.aI k1) h1 fun b ag a_ k2 fN h2=>k b ag a_ (M.trans k1 k2) fN h2
 | false=>exact k _ H1 ax k1 bM h1⟩
theorem qD {aC aY:TT}{a b:dM}(ha:cL K aC a)(hb:cL K aY b):cL K (B4 aC aY) (W0 a b):=⟨fun M {σ δ H n Q aK} ok re h k=>by
 refine ha.o M ok re h fun c H1 ax k1 bM h1=>?_
 cases c with
 | false=>exact hb.o M bM (re.aI k1) h1 fun b ag a_ k2 fN h2=>k b ag a_ (M.trans k1 k2) fN h2
 | true=>exact k _ H1 ax k1 bM h1⟩
theorem r2 {aC:TT}{a:dM}(ha:cL K aC a):cL K (Eb aC) (ad1 a):=⟨fun M {σ δ H n Q aK} ok re h k=>
 ha.o M ok re h fun c H1 ax k1 bM h1=>k _ H1 ax k1 bM h1⟩
def WY (t:dM)(a b:cp):cp:=fun δ n Q=>t δ n fun c ax=>fo c (a δ ax Q) (b δ ax Q)
theorem L3 {tt:TT}{t:dM}(aH:cL K tt t)(ha:a9 K aC a)(hb:a9 K aY b):a9 K (B3 tt aC aY) (WY t a b):=⟨fun M {σ δ H n Q aK} ok re h k=>by
 refine aH.o M ok re h fun c H1 ax k1 bM h1=>?_
 cases c with
 | true=>exact ha.o M bM (re.aI k1) h1 (k.aI k1)
 | false=>exact hb.o M bM (re.aI k1) h1 (k.aI k1)⟩
def aaM (f q9:a4->a4->Nat->b7->Prop)(a b c:cp):cp:=fun δ n Q=>a δ n fun x ax=>b δ ax fun y a_=>f x y a_ fun z cc=>match z with
 | .d (.bool k)=>fo k (c δ cc fun w cX=>q9 y w cX Q) (Q (.d (.bool false)) cc)
 | _=>False
theorem YD {r bJ:dV}{f q9:a4->a4->Nat->b7->Prop}{fB:TE}{c:cp}(hr:hD K r f)(zz:hD K bJ q9)(ha:a9 K aC a)(hb:a9 K aY b)(hc:a9 K fB c):a9 K (Dt r bJ aC aY fB) (aaM f q9 a b c):=⟨fun M {σ δ H n Q aK} ok re h k=>by
 refine ha.o M ok re h fun x H1 w ax k1 bM au h1=>?_
 refine hb.o M bM (re.aI k1) h1 fun y ag z a_ k2 fN bt h2=>?_
 refine hr M fN (au.aI k2) bt h2 fun q b3 w3 cc k3 mB fP aQ=>?_
 match w3,fP,aQ with
 | .d (.bool bG), fP, aQ =>
  cases fP
  refine ⟨bG,rfl,?_⟩
  have rn:=M.trans k1 (M.trans k2 k3)
  cases bG with
  | true=>
   refine hc.o M mB (re.aI rn) aQ fun w4 bK z4 cX iZ mC tN bS=>?_
   exact zz M mC (bt.aI (M.trans k3 iZ)) tN bS (k.aI (M.trans rn iZ))
  | false=>exact k _ b3 _ cc rn mB (a7.rw (.aG _)) aQ⟩
def ad2:eP:=fun _ n Q=>Q [] n
def ada (a:cp)(r:eP):eP:=fun δ n Q=>a δ n fun x ax=>r δ ax fun xs a_=>Q (x::xs) a_
theorem aN:e7 K 0 se ad2:=⟨fun M {σ δ H n Q aK} ok re h k=>k [] H [] n (M.refl _) ok .nil rfl h⟩
theorem ak {kx:cP}{r:eP}(ha:a9 K aC a)(hr:e7 K m kx r):e7 K (m+1) (r_ aC kx) (ada a r):=⟨fun M {σ δ H n Q aK} ok re h k=>by
 refine ha.o M ok re h fun x H1 w ax k1 bM au h1=>?_
 refine hr.o M bM (re.aI k1) h1 fun xs ag ws a_ k2 fN bt hl h2=>?_
 exact k _ ag _ a_ (M.trans k1 k2) fN (.cons (au.aI k2) bt) (by rw[afX,hl]) h2⟩
def qX:List a4->Option (List PyData)
 | []=>some []
 | .d x::r=>match qX r with|some l=>some (x::l)|none=>none
 | _::_=>none
theorem fX.iQ {M:cw K}{H:ah}:∀{aa:List V}{ws:List a4}{ds:ajz},fX M H aa ws->qX ws=some ds->aP M H aa ds
 | _,_,_,.nil,e=>by cases e;exact .nil
 | _,.d x::ws,ds,.cons h t,e=>by
  unfold qX at e
  cases ai:qX ws with
  | none=>rw[ai]at e;cases e
  | some l=>rw[ai]at e;cases e;exact .cons h (fX.iQ t ai)
 | _,.t _::ws,ds,.cons h t,e=>by cases e
 | _,.ty _::ws,ds,.cons h t,e=>by cases e
 | _,.o _::ws,ds,.cons h t,e=>by cases e
 | _,.x _ _ _::ws,ds,.cons h t,e=>by cases e
def sG:List a4->(List PyData->Prop)->Prop
 | [],k=>k []
 | .d x::r,k=>sG r fun l=>k (x::l)
 | _::_,_=>False
theorem xH:∀{ws:List a4}{k:List PyData->Prop},sG ws k->∃ds,qX ws=some ds/\k ds
 | [],k,h=>⟨[],rfl,h⟩
 | .d x::r,k,h=>by
  obtain ⟨ds,e,q⟩:=xH (ws:=r) h
  exact ⟨x::ds,by unfold qX;rw[e],q⟩
 | .t _::_,_,h=>h.elim
 | .ty _::_,_,h=>h.elim
 | .o _::_,_,h=>h.elim
 | .x _ _ _::_,_,h=>h.elim
def adZ (a:eP):cp:=fun δ n Q=>a δ n fun ws ax=>sG ws fun ds=>Q (.d (.tuple ds)) ax
def Mt (a:eP):cp:=fun δ n Q=>a δ n fun ws ax=>sG ws fun ds=>Q (.d (.list ds)) ax
theorem fX.length {M:cw K}{H:ah}{aa:List V}{ws:List a4}(h:fX M H aa ws):aa.length=ws.length:=by
 induction h with
 | nil=>rfl
 | cons _ _ bl=>rw[afX,afX,bl]
theorem IL {k:Nat}(h:k<=1000):k<=sizeLine:=small h
theorem d_ {a:eP}(ha:e7 K m t a)(hm:m<=1000:=by decide):a9 K (D8 t) (adZ a):=⟨fun M {σ δ H n Q aK} ok re h k=>by
 refine ha.o M ok re h fun aa H1 ws ax k1 bM au hl h1=>?_
 refine ⟨by rw[au.length,hl];exact IL hm,fun p hp=>?_⟩
 obtain ⟨ds,e,h1⟩:=xH h1
 exact k _ _ _ ax (M.trans k1 (M.same (bY hp _))) (M.eC bM (bY hp _)) (a7.rw (.tD bM hp (au.iQ e))) h1⟩
theorem abM {a:eP}(ha:e7 K m t a)(hm:m<=1000:=by decide):oi K (u4 t) (Mt a):=⟨fun M {σ δ H n Q aK} ok re h k=>by
 refine ha.o M ok re h fun aa H1 ws ax k1 bM au hl h1=>?_
 refine ⟨by rw[au.length,hl];exact IL hm,fun p hp=>?_⟩
 obtain ⟨ds,e,h1⟩:=xH h1
 exact k p H1 aa ds ax k1 bM hp (au.iQ e) h1⟩
theorem o7 {a:eP}(ha:e7 K m t a)(hm:m<=1000:=by decide):a9 K (u4 t) (Mt a):=(abM ha hm).e
abbrev dv:=List a4->Nat->b7->Prop
def iF (K:ajA)(z:dv):b_:=fun aa H Q _=>∃(M:cw K) (ws:List a4) (n:Nat) (aK:b7),M.ok H n/\fX M H aa ws/\z ws n aK/\ib M H aK Q
def adb (z:dv)(a:eP):cp:=fun δ n Q=>a δ n fun ws ax=>z ws ax Q
def c0 (K:ajA)(sp:b_)(z:dv):Prop:=∀aa H Q,iF K z aa H Q fV->sp aa H Q fV
theorem c0.refl :c0 K (iF K z) z:=fun _ _ _ h=>h
theorem cA {sp:b_}{a:eP}(hc:c0 K sp z)(ha:e7 K m t a):a9 K (xw sp [] fV t) (adb z a):=⟨fun M {σ δ H n Q aK} ok re h k=>by
 refine ha.o M ok re h fun aa H1 ws ax k1 bM au hl h1=>?_
 rw[agc]
 exact hc aa H1 _ ⟨M,ws,ax,aK,bM,au,h1,k.aI k1⟩⟩
def CS (f:List a4->Nat->b7->Prop)(a:eP):cp:=fun δ n Q=>a δ n fun ws ax=>f ws ax Q
theorem gX {r:List V->ah->bW->Prop}{f:List a4->Nat->b7->Prop}{a:eP}(hr:pw K r f)(ha:e7 K m t a):a9 K (nI r t) (CS f a):=⟨fun M {σ δ H n Q aK} ok re h k=>by
 refine ha.o M ok re h fun aa H1 ws ax k1 bM au hl h1=>?_
 exact hr M bM au h1 (k.aI k1)⟩
def Zo:sF:=fun _ n Q=>Q none n
def ac8 (a:cp):sF:=fun δ n Q=>a δ n fun x ax=>match x with|.d (.int i)=>Q (some i) ax|_=>False
theorem I1:vk K C1 Zo:=⟨fun M {σ δ H n Q aK} ok re h k=>k none H n (M.refl _) ok h⟩
theorem Kb (ha:a9 K aC a):vk K (xv aC) (ac8 a):=⟨fun M {σ δ H n Q aK} ok re h k=>by
 refine ha.o M ok re h fun x H1 w ax k1 bM au h1=>?_
 match w,au,h1 with
 | .d (.int i),au,h1=>cases au;exact ⟨i,rfl,k _ H1 ax k1 bM h1⟩⟩
def qK {α:Type}(xs:List α)(lo hi:Option Int):List α:=(xs.drop (c5.cg xs.length 0 lo)).take (c5.cg xs.length xs.length hi-c5.cg xs.length 0 lo)
theorem aP.cut {M:cw K}{H:ah}{aa:List V}{ds:ajz}(h:aP M H aa ds)(lo hi:Option Int):aP M H (gO aa lo hi) (qK ds lo hi):=by
 unfold gO qK
 rw[h.length]
 exact (h.drop _).take _
def MJ (x:a4)(l u:Option Int)(cc:Nat)(Q:b7):Prop:=(∃ds,x=.d (.tuple ds)/\Q (.d (.tuple (qK ds l u))) cc)\/(∃ds,x=.d (.list ds)/\Q (.d (.list (qK ds l u))) cc)
structure F2 (x:a4)(l u:Option Int)(cc:Nat)(Q:b7):Prop where
 o:MJ x l u cc Q
def W2 (a:cp)(lo hi:sF):cp:=fun δ n Q=>a δ n fun x ax=>lo δ ax fun l a_=>hi δ a_ fun u cc=>F2 x l u cc Q
theorem L1 {eo mG:kS}{lo hi:sF}(ha:a9 K aC a)(hl:vk K eo lo)(dZ:vk K mG hi):a9 K (B5 (fun x lo hi H Q=>xM K x lo hi H Q\/El K x lo hi H Q) aC eo mG) (W2 a lo hi):=⟨fun M {σ δ H n Q aK} ok re h k=>by
 refine ha.o M ok re h fun x H1 w ax k1 bM au h1=>?_
 refine hl.o M bM (re.aI k1) h1 fun l ag a_ k2 fN h2=>?_
 refine dZ.o M fN (re.aI (M.trans k1 k2)) h2 fun u b3 cc k3 mB aQ=>?_
 have fP:=au.aI (M.trans k2 k3)
 have rn:=M.trans k1 (M.trans k2 k3)
 replace aQ:=aQ.o;unfold MJ at aQ
 rcases aQ with ⟨ds,rfl,aQ⟩|⟨ds,rfl,aQ⟩
 ·cases fP with
  | @tup a xs _ hs hd=>
   refine .inl ⟨a,xs,rfl,hs _ (M.cK _),fun p bK s4 gu=>?_⟩
   have mC:=M.eC mB s4
   exact k _ bK _ cc (M.trans rn (M.same s4)) mC (a7.rw (.tup (fun _ e=>gu.tv mC e) ((hd.aI (M.same s4)).cut l u))) aQ
 ·cases fP with
  | @lst a xs _ hs hd=>
   refine .inr ⟨a,xs,rfl,bP.of (hs _ (M.cK _)),fun p hp=>?_⟩
   exact k _ _ _ cc (M.trans rn (M.same (bY hp _))) (M.eC mB (bY hp _)) (a7.rw (.tC mB hp (hd.cut l u))) aQ⟩
def Lu (x:a4)(ax:Nat)(Q:b7):Prop:=(∃ds,x=.d (.list ds)/\Q (.d (.list ds.reverse)) ax)
structure F1 (x:a4)(ax:Nat)(Q:b7):Prop where
 o:Lu x ax Q
def ac7 (a:cp):cp:=fun δ n Q=>a δ n fun x ax=>F1 x ax Q
theorem Ka (ha:a9 K aC a):a9 K (DN K aC (xv (wC (wd fun i=>.int (-i)) (gv (.int 1))))) (ac7 a):=⟨fun M {σ δ H n Q aK} ok re h k=>by
 refine ha.o M ok re h fun x H1 w ax k1 bM au h1=>?_
 replace h1:=h1.o;unfold Lu at h1
 obtain ⟨ds,rfl,aQ⟩:=h1
 have fP:=au
 cases fP with
 | @lst a xs _ hs hd=>
  refine ⟨1,rfl,-1,rfl,rfl,a,xs,rfl,bP.of (hs _ (M.cK _)),fun p hp=>?_⟩
  exact k _ _ _ ax (M.trans k1 (M.same (bY hp _))) (M.eC bM (bY hp _)) (a7.rw (.tC bM hp hd.reverse)) aQ⟩
end
section
variable {K:ajA}
section
variable {M:cw K}{H:ah}{aa:List V}{jH jI w3:a4}
theorem fX.inv1 (r:fX M H aa [jH]):∃v,aa=[v]/\cS M H v jH:=by
 cases r with
 | cons a t=>cases t;exact ⟨_,rfl,a⟩
theorem fX.inv2 (r:fX M H aa [jH,jI]):∃v v2,aa=[v,v2]/\cS M H v jH/\cS M H v2 jI:=by
 cases r with
 | cons a t=>obtain ⟨v,rfl,b⟩:=t.inv1;exact ⟨_,_,rfl,a,b⟩
theorem fX.vY (r:fX M H aa [jH,jI,w3]):∃v v2 gW,aa=[v,v2,gW]/\cS M H v jH/\cS M H v2 jI/\cS M H gW w3:=by
 cases r with
 | cons a t=>obtain ⟨v,v2,rfl,b,c⟩:=t.inv2;exact ⟨_,_,_,rfl,a,b,c⟩
end
variable {M:cw K}{H:ah}{x v:V}{i:Int}{ds:ajz}{n:Nat}{aK:b7}{Q:bW}{d a:PyData}{vK:Int->Int->V}{g:Int->Int->PyData}
theorem cS.int_inv (r:cS M H x (.d (.int i))):x=.int i:=by
 have bJ:a7 M H x (.int i):=r
 cases bJ;rfl
theorem cS.E4 {i:Bool}(r:cS M H x (.d (.bool i))):x=.aG i:=by
 have bJ:a7 M H x (.bool i):=r
 cases bJ;rfl
theorem cS.str_inv {i:Str}(r:cS M H x (.d (.str i))):x=.str i:=by
 have bJ:a7 M H x (.str i):=r
 cases bJ;rfl
theorem cS.fS (r:cS M H x (.d (.tuple ds))):∃a xs,x=.ref a/\(∀J,M.aI H J->bp K J a xs)/\aP M H xs ds:=by
 have bJ:a7 M H x (.tuple ds):=r
 cases bJ with
 | tup h t=>exact ⟨_,_,rfl,h,t⟩
theorem cS.lst_inv (r:cS M H x (.d (.list ds))):∃a xs,x=.ref a/\(∀J,M.aI H J->J a=some (.lst xs))/\aP M H xs ds:=by
 have bJ:a7 M H x (.list ds):=r
 cases bJ with
 | lst h t=>exact ⟨_,_,rfl,h,t⟩
theorem ib.now (k:ib M H aK Q)(ok:M.ok H n)(h:a7 M H v d)(q:aK (.d d) n):Q v H:=k v H _ n (M.refl _) ok h.rw q
theorem ib.kr {J:ah}(k:ib M H aK Q)(ok:M.ok H n)(s:bb H J)(h:a7 M J v d)(q:aK (.d d) n):Q v J:=k v J _ n (M.same s) (M.eC ok s) h.rw q
def MO (g:Int->Int->PyData):a4->a4->Nat->b7->Prop:=fun w z n Q=>(∃i j,w=.d (.int i)/\z=.d (.int j)/\Q (.d (g i j)) n)
structure pM (g:Int->Int->PyData)(w:a4)(z:a4)(n:Nat)(Q:b7):Prop where
 o:MO g w z n Q
theorem tr (hg:∀(M:cw K) H i j,a7 M H (vK i j) (g i j)):hD K (iv vK) (pM g):=fun M {H n x y w z Q aK} ok aB aJ h k=>by
 replace h:=h.o;unfold MO at h
 obtain ⟨i,j,rfl,rfl,h⟩:=h
 rw[aB.int_inv,aJ.int_inv];exact ⟨i,j,rfl,rfl,k.now ok (hg M H i j) h⟩
abbrev MI:=pM fun i j=>.int (i-j)
theorem ja:hD K (iv fun i j=>.int (i-j)) MI:=tr fun _ _ _ _=>.int _
abbrev FX:=pM fun i j=>.bool (decide (i<j))
theorem qJ:hD K (iv fun i j=>.aG (decide (i<j))) FX:=tr fun _ _ _ _=>.aG _
abbrev FW:=pM fun i j=>.bool (decide (i<=j))
theorem En:hD K (iv fun i j=>.aG (decide (i<=j))) FW:=tr fun _ _ _ _=>.aG _
abbrev FQ:=pM fun i j=>.bool (decide (j<i))
theorem xP:hD K (iv fun i j=>.aG (decide (j<i))) FQ:=tr fun _ _ _ _=>.aG _
abbrev FP:=pM fun i j=>.bool (decide (j<=i))
theorem MD:hD K (iv fun i j=>.aG (decide (j<=i))) FP:=tr fun _ _ _ _=>.aG _
def MP (C:Int->Int->Prop)(g:Int->Int->PyData):a4->a4->Nat->b7->Prop:=fun w z n Q=>(∃i j,w=.d (.int i)/\z=.d (.int j)/\C i j/\Q (.d (g i j)) n)
structure yQ (C:Int->Int->Prop)(g:Int->Int->PyData)(w:a4)(z:a4)(n:Nat)(Q:b7):Prop where
 o:MP C g w z n Q
theorem Se {C:Int->Int->Prop}(hg:∀(M:cw K) H i j,a7 M H (vK i j) (g i j)):hD K (iu C vK) (yQ C g):=fun M {H n x y w z Q aK} ok aB aJ h k=>by
 replace h:=h.o;unfold MP at h
 obtain ⟨i,j,rfl,rfl,h⟩:=h
 rw[aB.int_inv,aJ.int_inv];exact ⟨i,j,rfl,rfl,h.1,k.now ok (hg M H i j) h.2⟩
abbrev ML:=yQ (fun _ j=>0<j) fun i j=>.int (i%j)
theorem mU:hD K (iu (fun _ j=>0<j) fun i j=>.int (i%j)) ML:=Se fun _ _ _ _=>.int _
def Mp:a4->a4->Nat->b7->Prop:=fun w z n Q=>(∃i j,w=.d (.int i)/\z=.d (.int j)/\Q (.d (.int (i+j))) n)\/(∃a b,w=.d (.tuple a)/\z=.d (.tuple b)/\a.length+b.length<=1000000/\Q (.d (.tuple (a++b))) n)\/(∃a b,w=.d (.list a)/\z=.d (.list b)/\a.length+b.length<=1000000/\Q (.d (.list (a++b))) n)\/(∃a b,w=.d (.str a)/\z=.d (.str b)/\a.length+b.length<=1000000/\Q (.d (.str (a++b))) n)
structure vH (w:a4)(z:a4)(n:Nat)(Q:b7):Prop where
 o:Mp w z n Q
theorem uU {k:Nat}(h:k<=1000000):k<=sizeLine:=by rw[afW];lia
theorem jS:hD K (gr (iv fun i j=>V.int (i+j)) (gr (uT K) (gr DT Ke))) vH:=fun M {H n x y w z Q aK} ok aB aJ h k=>by
 replace h:=h.o;unfold Mp at h
 rcases h with ⟨i,j,rfl,rfl,h⟩|⟨a,b,rfl,rfl,h⟩|⟨a,b,rfl,rfl,h⟩|⟨a,b,rfl,rfl,h⟩
 ·rw[aB.int_inv,aJ.int_inv];exact .inl ⟨i,j,rfl,rfl,k.now ok (.int _) h⟩
 ·obtain ⟨p,xs,rfl,hx,aD⟩:=aB.fS
  obtain ⟨q,ys,rfl,hy,gn⟩:=aJ.fS
  refine .inr (.inl ⟨p,q,xs,ys,rfl,rfl,hx _ (M.cK _),hy _ (M.cK _),by rw[aD.length,gn.length];exact uU h.1,fun dy J s t=>?_⟩)
  exact k.kr ok s (.tup (fun _ e=>t.tv (M.eC ok s) e) ((aD.append gn).aI (M.same s))) h.2
 ·obtain ⟨p,xs,rfl,hx,aD⟩:=aB.lst_inv
  obtain ⟨q,ys,rfl,hy,gn⟩:=aJ.lst_inv
  refine .inr (.inr (.inl ⟨p,q,xs,ys,rfl,rfl,.inl (hx _ (M.cK _)),.inl (hy _ (M.cK _)),by rw[aD.length,gn.length];exact uU h.1,fun dy hp=>?_⟩))
  exact k.kr ok (bY hp _) (.tC ok hp (aD.append gn)) h.2
 ·rw[aB.str_inv,aJ.str_inv]
  exact .inr (.inr (.inr ⟨a,b,rfl,rfl,uU h.1,k.now ok (.str _) h.2⟩))
def Mk:a4->a4->Nat->b7->Prop:=fun w z n Q=>(∃i j,w=.d (.int i)/\z=.d (.int j)/\((pl i j\/sb i j)/\Q (.d (.int (i*j))) n))\/(∃a j,w=.d (.tuple a)/\z=.d (.int j)/\(-(2^62)<=j/\j<2^62/\a.length*j.toNat<=100000)/\Q (.d (.tuple (List.replicate j.toNat a).flatten)) n)\/(∃a j,w=.d (.list a)/\z=.d (.int j)/\(-(2^62)<=j/\j<2^62/\a.length*j.toNat<=100000)/\Q (.d (.list (List.replicate j.toNat a).flatten)) n)
structure FY (w:a4)(z:a4)(n:Nat)(Q:b7):Prop where
 o:Mk w z n Q
theorem n2:hD K (gr (iu pl fun i j=>V.int (i*j)) (gr (iu sb fun i j=>V.int (i*j)) (gr (DS K) Em))) FY:=fun M {H n x y w z Q aK} ok aB aJ h k=>by
 replace h:=h.o;unfold Mk at h
 rcases h with ⟨i,j,rfl,rfl,h⟩|⟨a,j,rfl,rfl,h⟩|⟨a,j,rfl,rfl,h⟩
 ·rw[aB.int_inv,aJ.int_inv]
  rcases h.1 with c|c
  ·exact .inl ⟨i,j,rfl,rfl,c,k.now ok (.int _) h.2⟩
  ·exact .inr (.inl ⟨i,j,rfl,rfl,c,k.now ok (.int _) h.2⟩)
 ·obtain ⟨p,xs,rfl,hx,aD⟩:=aB.fS
  rw[aJ.int_inv]
  refine .inr (.inr (.inl ⟨p,j,xs,rfl,rfl,hx _ (M.cK _),h.1.1,h.1.2.1,by rw[aD.length];exact h.1.2.2,fun dy J s t=>?_⟩))
  exact k.kr ok s (.tup (fun _ e=>t.tv (M.eC ok s) e) ((aD.rep _).aI (M.same s))) h.2
 ·obtain ⟨p,xs,rfl,hx,aD⟩:=aB.lst_inv
  rw[aJ.int_inv]
  refine .inr (.inr (.inr ⟨p,j,xs,rfl,rfl,hx _ (M.cK _),by have:=h.1.1;lia,by have:=h.1.2.1;lia,by rw[aD.length];exact uU (afK h.1.2.2 (by decide)),fun dy hp=>?_⟩))
  exact k.kr ok (bY hp _) (.tC ok hp (aD.rep _)) h.2
def tR:PyData->PyData->Bool
 | .none,.none=>true|.none,.int _=>true|.int _,.none=>true|.none,.bool _=>true|.bool _,.none=>true|.none,.str _=>true|.str _,.none=>true
 | .int _,.int _=>true|.bool _,.bool _=>true|.str _,.str _=>true
 | .int _,.str _=>true|.str _,.int _=>true|.bool _,.str _=>true|.str _,.bool _=>true
 | _,_=>false
def pK:PyData->PyData->Bool
 | .none,.none=>true
 | .int i,.int j=>decide (i=j)
 | .bool i,.bool j=>decide (i=j)
 | .str i,.str j=>decide (i=j)
 | _,_=>false
theorem L4 {y:V}{b:PyData}(hx:a7 M H x a)(hy:a7 M H y b)(h:tR a b=true):Eg x y=true/\decide (x=y)=pK a b:=by
 cases hx<;>cases hy<;>first
  | (cases h;done)
  |exact ⟨rfl,by simp[pK]⟩
def je (a b:PyData):Prop:=a.canLay0=true/\b.canLay0=true/\a.depth<=60
def xO:PyData->PyData->Option Bool
 | .list a,.list b=>if a.length=b.length then none else some false
 | .tuple a,.tuple []=>some (decide (a.length=0))
 | _,_=>none
def MN:a4->a4->Nat->b7->Prop:=fun w z n Q=>(∃a b,w=.d a/\z=.d b/\((tR a b=true/\Q (.d (.bool (pK a b))) n)\/(je a b/\Q (.d (.bool (a.eqv b))) n)\/(∃c,xO a b=some c/\Q (.d (.bool c)) n)))
structure q_ (w:a4)(z:a4)(n:Nat)(Q:b7):Prop where
 o:MN w z n Q
def MK:a4->a4->Nat->b7->Prop:=fun w z n Q=>(∃a b,w=.d a/\z=.d b/\((tR a b=true/\Q (.d (.bool (!pK a b))) n)\/(je a b/\Q (.d (.bool (!a.eqv b))) n)\/(∃c,xO a b=some c/\Q (.d (.bool !c)) n)))
structure vI (w:a4)(z:a4)(n:Nat)(Q:b7):Prop where
 o:MK w z n Q
theorem Lj {y:V}{b:PyData}{c:Bool}(hx:a7 M H x a)(hy:a7 M H y b)(h:xO a b=some c){P:Bool->Prop}(q:P c):∃a b xs ys,x=.ref a/\y=.ref b/\((bP K H a xs/\bP K H b ys/\xs.length≠ys.length)\/(bp K H a xs/\bp K H b ys/\ys=[]))/\((xs.length=ys.length/\P true)\/(xs.length≠ys.length/\P false)):=by
 match a,b,hx,hy,h with
 | .list a, .list b, hx, hy, h =>
  obtain ⟨p,xs,rfl,hx,aD⟩:=hx.rw.lst_inv
  obtain ⟨b8,ys,rfl,hy,gn⟩:=hy.rw.lst_inv
  have h':(if a.length=b.length then none else some false)=some c:=h
  by_cases e:a.length=b.length
  ·rw[afD e]at h';cases h'
  ·rw[afC e]at h';cases h'
   have ne:xs.length≠ys.length:=by rw[aD.length,gn.length];exact e
   exact ⟨p,b8,xs,ys,rfl,rfl,.inl ⟨bP.of (hx _ (M.cK _)),bP.of (hy _ (M.cK _)),ne⟩,.inr ⟨ne,q⟩⟩
 | .tuple a,.tuple [],hx,hy,h=>
  obtain ⟨p,xs,rfl,hx,aD⟩:=hx.rw.fS
  obtain ⟨b8,ys,rfl,hy,gn⟩:=hy.rw.fS
  cases gn
  have h':some (decide (a.length=0))=some c:=h
  cases h'
  refine ⟨p,b8,xs,[],rfl,rfl,.inr ⟨hx _ (M.cK _),hy _ (M.cK _),rfl⟩,?_⟩
  by_cases e:a.length=0
  ·rw[afI e]at q;exact .inl ⟨by rw[aD.length];exact e,q⟩
  ·rw[afJ e]at q;exact .inr ⟨by rw[aD.length];exact e,q⟩
theorem eX:hD K (gr Ak (gr (fun x y H Q=>∃d e,aS K H x d/\aS K H y e/\d.canLay0=true/\e.canLay0=true/\d.depth<=60/\Q (V.aG (d.eqv e)) H) (r4 K false))) q_:=fun M {H n x y w z Q aK} ok aB aJ h k=>by
 replace h:=h.o;unfold MN at h
 obtain ⟨a,b,rfl,rfl,h⟩:=h
 have kq:a7 M H x a:=aB
 have qb:a7 M H y b:=aJ
 rcases h with ⟨s,h⟩|⟨⟨dJ,cB,j6⟩,h⟩|⟨c,e,h⟩
 ·obtain ⟨s1,s2⟩:=L4 kq qb s
  refine .inl ⟨s1,?_⟩
  rw[s2]
  exact k.now ok (.aG _) h
 ·exact .inr (.inl ⟨a,b,kq.b1,qb.b1,dJ,cB,j6,k.now ok (.aG _) h⟩)
 ·exact .inr (.inr (Lj kq qb e (P:=fun c=>Q (.aG c) H) (k.now ok (.aG _) h)))
theorem ph:hD K (gr Am (gr (fun x y H Q=>∃d e,aS K H x d/\aS K H y e/\d.canLay0=true/\e.canLay0=true/\d.depth<=60/\Q (V.aG (!d.eqv e)) H) (r4 K true))) vI:=fun M {H n x y w z Q aK} ok aB aJ h k=>by
 replace h:=h.o;unfold MK at h
 obtain ⟨a,b,rfl,rfl,h⟩:=h
 have kq:a7 M H x a:=aB
 have qb:a7 M H y b:=aJ
 rcases h with ⟨s,h⟩|⟨⟨dJ,cB,j6⟩,h⟩|⟨c,e,h⟩
 ·obtain ⟨s1,s2⟩:=L4 kq qb s
  refine .inl ⟨s1,?_⟩
  rw[s2]
  exact k.now ok (.aG _) h
 ·exact .inr (.inl ⟨a,b,kq.b1,qb.b1,dJ,cB,j6,k.now ok (.aG _) h⟩)
 ·exact .inr (.inr (Lj kq qb e (P:=fun c=>Q (.aG (!c)) H) (k.now ok (.aG _) h)))
def j9:PyData->Bool
 | .none=>true
 | .bool _=>true
 | .int _=>true
 | .str _=>true
 | _=>false
def lP:PyData->PyData->Bool
 | .none,.none=>true
 | .bool a,.bool b=>a == b
 | .bool a,.int b=>(if a then 1 else 0) == b
 | .int a,.bool b=>a == (if b then 1 else 0)
 | .int a,.int b=>a == b
 | .str a,.str b=>a == b
 | _,_=>false
theorem DZ (hx:a7 M H x a)(h:j9 a=true):mV x=true:=by cases hx<;>first|rfl|cases h
theorem adR {y:V}{b:PyData}(hx:a7 M H x a)(hy:a7 M H y b)(h:j9 a=true)(h':j9 b=true):mq x y=lP a b:=by
 cases hx<;>cases hy<;>first|rfl|(cases h;done)|(cases h';done)
theorem Df {M:cw K}{H:ah}{x:V}{a:PyData}(hx:a7 M H x a)(h:j9 a=true):∀{aa:List V}{ds:ajz},aP M H aa ds->ds.all j9=true->aa.all mV=true/\rk x aa=ds.any fun d=>lP d a
 | _,_,.nil,_=>⟨rfl,rfl⟩
 | _,_,.cons (d:=d) (ds:=ds) hd t,e=>by
  rw[ag_,afM]at e
  obtain ⟨ai,az⟩:=Df hx h t e.2
  refine ⟨by rw[ag_,DZ hd e.1,ai];rfl,?_⟩
  unfold rk at az ⊢
  rw[agY,agY,adR hd hx e.1 h,az]
def MM (neg:Bool):a4->a4->Nat->b7->Prop:=fun w z n Q=>(∃a ds,w=.d a/\z=.d (.tuple ds)/\(j9 a=true/\ds.all j9=true)/\Q (.d (.bool (if neg then !(ds.any fun d=>lP d a) else ds.any fun d=>lP d a))) n)\/(∃a ds,w=.d a/\z=.d (.list ds)/\(j9 a=true/\ds.all j9=true)/\Q (.d (.bool (if neg then !(ds.any fun d=>lP d a) else ds.any fun d=>lP d a))) n)
structure yT (neg:Bool)(w:a4)(z:a4)(n:Nat)(Q:b7):Prop where
 o:MM neg w z n Q
theorem aek (neg:Bool):hD K (rz K neg) (yT neg):=fun M {H n x y w z Q aK} ok aB aJ h k=>by
 replace h:=h.o;unfold MM at h
 rcases h with ⟨a,ds,rfl,rfl,h⟩|⟨a,ds,rfl,rfl,h⟩
 ·have kq:a7 M H x a:=aB
  obtain ⟨p,xs,rfl,hy,gn⟩:=aJ.fS
  obtain ⟨ai,az⟩:=Df kq h.1.1 gn h.1.2
  refine ⟨p,xs,rfl,.inr (hy _ (M.cK _)),DZ kq h.1.1,ai,?_⟩
  rw[az]
  exact k.now ok (.aG _) h.2
 ·have kq:a7 M H x a:=aB
  obtain ⟨p,xs,rfl,hy,gn⟩:=aJ.lst_inv
  obtain ⟨ai,az⟩:=Df kq h.1.1 gn h.1.2
  refine ⟨p,xs,rfl,.inl (bP.of (hy _ (M.cK _))),DZ kq h.1.1,ai,?_⟩
  rw[az]
  exact k.now ok (.aG _) h.2
def ael:a4->a4->Nat->b7->Prop:=fun w z n Q=>(∃ds i d,w=.d (.tuple ds)/\z=.d (.int i)/\ez ds i=some d/\Q (.d d) n)\/(∃ds i d,w=.d (.list ds)/\z=.d (.int i)/\ez ds i=some d/\Q (.d d) n)
structure sP (w:a4)(z:a4)(n:Nat)(Q:b7):Prop where
 o:ael w z n Q
theorem KN {aa:List V}(h:aP M H aa ds)(e:ez ds i=some d):∃v,ez aa i=some v/\a7 M H v d:=by
 unfold ez at e ⊢
 rw[h.length]
 cases ai:ki ds.length i with
 | none=>rw[ai]at e;cases e
 | some j=>
  rw[ai]at e
  obtain ⟨v,h1,h2⟩:=h.get (show ds[j]?=some d from e)
  exact ⟨v,h1,h2⟩
theorem iG:hD K (Al K) sP:=fun M {H n x y w z Q aK} ok aB aJ h k=>by
 rcases h.o with ⟨ds,i,d,rfl,rfl,e,h⟩|⟨ds,i,d,rfl,rfl,e,h⟩
 ·obtain ⟨p,xs,rfl,hx,aD⟩:=aB.fS
  rw[aJ.int_inv]
  obtain ⟨v,ai,b1⟩:=KN aD e
  exact .inr (.inl ⟨p,xs,i,v,rfl,rfl,hx _ (M.cK _),ai,k.now ok b1 h⟩)
 ·obtain ⟨p,xs,rfl,hx,aD⟩:=aB.lst_inv
  rw[aJ.int_inv]
  obtain ⟨v,ai,b1⟩:=KN aD e
  exact .inl ⟨p,xs,i,v,rfl,rfl,bP.of (hx _ (M.cK _)),ai,k.now ok b1 h⟩
theorem adP {Q:b7}(e:ez ds i=some d)(q:Q (.d d) n):sP (.d (.tuple ds)) (.d (.int i)) n Q:=⟨.inl ⟨ds,i,d,rfl,rfl,e,q⟩⟩
theorem adQ {Q:b7}(e:ez ds i=some d)(q:Q (.d d) n):sP (.d (.list ds)) (.d (.int i)) n Q:=⟨.inr ⟨ds,i,d,rfl,rfl,e,q⟩⟩
def Ml:List a4->Nat->b7->Prop:=fun ws n Q=>(∃ds,ws=[.d (.tuple ds)]/\Q (.d (.int (ds.length:Int))) n)\/(∃ds,ws=[.d (.list ds)]/\Q (.d (.int (ds.length:Int))) n)
structure yW (ws:List a4)(n:Nat)(Q:b7):Prop where
 o:Ml ws n Q
theorem kK:pw K (L8 K) yW:=fun M {H n xs ws Q aK} ok r h k=>by
 replace h:=h.o;unfold Ml at h
 rcases h with ⟨ds,rfl,h⟩|⟨ds,rfl,h⟩
 ·replace r:=r.inv1;obtain ⟨v1,rfl,r⟩:=r
  obtain ⟨p,xs,rfl,hx,aD⟩:=r.fS
  refine ⟨p,xs,rfl,.inr (hx _ (M.cK _)),?_⟩
  rw[aD.length];exact k.now ok (.int _) h
 ·replace r:=r.inv1;obtain ⟨v1,rfl,r⟩:=r
  obtain ⟨p,xs,rfl,hx,aD⟩:=r.lst_inv
  refine ⟨p,xs,rfl,.inl (bP.of (hx _ (M.cK _))),?_⟩
  rw[aD.length];exact k.now ok (.int _) h
def Lv:List a4->Nat->b7->Prop:=fun ws n Q=>(∃x,ws=[.d x]/\(oh x/\∀k,k=x.shown->Q (.d (.str k)) n))
structure F0 (ws:List a4)(n:Nat)(Q:b7):Prop where
 o:Lv ws n Q
theorem Lm:pw K (K7 K) F0:=fun M {H n xs ws Q aK} ok r h k=>by
 replace h:=h.o;unfold Lv at h
 obtain ⟨x,rfl,h⟩:=h
 replace r:=r.inv1;obtain ⟨v1,rfl,r⟩:=r
 have bJ:a7 M H _ x:=r
 exact ⟨_,x,x.shown,rfl,bJ.b1,h.1,rfl,k.now ok (.str _) (h.2 _ rfl)⟩
def zJ (d:PyData):Tk->Bool
 | .int=>uO d
 | .bool=>xc d
 | .tuple=>qx d
 | .list=>o_ d
 | .dict=>match d with|.dict _=>true|_=>false
 | .str=>match d with|.str _=>true|_=>false
theorem adJ (d:PyData)(c:Tk):PySem.W.kitOne K (.type (mR d)) (.type c.nm)=some (zJ d c):=by cases c<;>cases d<;>rfl
def Mm:List a4->Nat->b7->Prop:=fun ws n Q=>(∃x c,ws=[.d x,.ty c]/\Q (.d (.bool (zJ x c))) n)
structure FV (ws:List a4)(n:Nat)(Q:b7):Prop where
 o:Mm ws n Q
theorem Me:pw K (L_ K) FV:=fun M {H n xs ws Q aK} ok r h k=>by
 replace h:=h.o;unfold Mm at h
 obtain ⟨x,c,rfl,h⟩:=h
 replace r:=r.inv2;obtain ⟨v1,v2,rfl,r,bt⟩:=r
 have bJ:a7 M H _ x:=r
 have UT:_=V.ty c.nm:=bt
 subst UT
 exact ⟨_,_,_,_,rfl,bJ.b1.ty,adJ x c,k.now ok (.aG _) h⟩
def Kx:List a4->Nat->b7->Prop:=fun ws n Q=>(∃ds,ws=[.d (.tuple ds)]/\Q (.d (.tuple ds)) n)\/(∃ds,ws=[.d (.list ds)]/\Q (.d (.tuple ds)) n)
structure F3 (ws:List a4)(n:Nat)(Q:b7):Prop where
 o:Kx ws n Q
theorem aam:pw K (L7 K) F3:=fun M {H n xs ws Q aK} ok r h k=>by
 replace h:=h.o;unfold Kx at h
 rcases h with ⟨ds,rfl,h⟩|⟨ds,rfl,h⟩
 ·replace r:=r.inv1;obtain ⟨v1,rfl,r⟩:=r
  obtain ⟨p,xs,rfl,hx,aD⟩:=r.fS
  exact ⟨p,xs,rfl,.inr ⟨hx _ (M.cK _),k.now ok (.tup hx aD) h⟩⟩
 ·replace r:=r.inv1;obtain ⟨v1,rfl,r⟩:=r
  obtain ⟨p,xs,rfl,hx,aD⟩:=r.lst_inv
  exact ⟨p,xs,rfl,.inl ⟨bP.of (hx _ (M.cK _)),fun l hl=>k.kr ok (bY hl _) (.tD ok hl aD) h⟩⟩
theorem aP.ints {M:cw K}{H:ah}:∀{aa:List V}{ns:ajH},aP M H aa (ns.map PyData.int)->aa=ns.map V.int
 | _,[],h=>by cases h;rfl
 | _,n::ns,h=>by
  cases h with
  | cons h t=>cases h;rw[aP.ints t];rfl
theorem aP.E5 {M:cw K}{H:ah}:∀{aa:List V}{ns:List Bool},aP M H aa (ns.map PyData.bool)->aa=ns.map V.aG
 | _,[],h=>by cases h;rfl
 | _,n::ns,h=>by
  cases h with
  | cons h t=>cases h;rw[aP.E5 t];rfl
def Mo:List a4->Nat->b7->Prop:=fun ws n Q=>(∃ds,ws=[.d (.list ds)]/\(∃ns:List Bool,ds=ns.map PyData.bool/\Q (.d (.bool (ns.all id))) n))
structure FN (ws:List a4)(n:Nat)(Q:b7):Prop where
 o:Mo ws n Q
theorem adK:pw K (fun xs H Q=>∃a bs,xs=[V.ref a]/\bP K H a (List.map V.aG bs)/\Q (V.aG (bs.all id)) H) FN:=fun M {H n xs ws Q aK} ok r h k=>by
 replace h:=h.o;unfold Mo at h
 obtain ⟨ds,rfl,h⟩:=h
 replace r:=r.inv1;obtain ⟨v1,rfl,r⟩:=r
 obtain ⟨ns,rfl,h⟩:=h
 obtain ⟨p,xs,rfl,hx,aD⟩:=r.lst_inv
 refine ⟨p,ns,rfl,?_,k.now ok (.aG _) h⟩
 rw[<-aD.E5];exact bP.of (hx _ (M.cK _))
def Kz:List a4->Nat->b7->Prop:=fun ws n Q=>(∃i,ws=[.d (.int i)]/\Q (.d (.int i)) n)\/(∃b,ws=[.d (.bool b)]/\Q (.d (.int (if b=true then 1 else 0))) n)
structure FU (ws:List a4)(n:Nat)(Q:b7):Prop where
 o:Kz ws n Q
theorem aan:pw K (fun xs H Q=>(∃i,xs=[V.int i]/\Q (V.int i) H)\/∃k,xs=[V.aG k]/\Q (V.int (if k=true then 1 else 0)) H) FU:=fun M {H n xs ws Q aK} ok r h k=>by
 replace h:=h.o;unfold Kz at h
 rcases h with ⟨i,rfl,h⟩|⟨i,rfl,h⟩
 ·replace r:=r.inv1;obtain ⟨v1,rfl,r⟩:=r
  rw[r.int_inv];exact .inl ⟨i,rfl,k.now ok (.int _) h⟩
 ·replace r:=r.inv1;obtain ⟨v1,rfl,r⟩:=r
  rw[r.E4];exact .inr ⟨i,rfl,k.now ok (.int _) h⟩
end
section
variable {K:ajA}
variable {M:cw K}{H:ah}{a:Addr}{xs:List V}{ds:ajz}{m:Nat}{aC:cP}
theorem acL (h:∀J,M.aI H J->J a=some (.lst xs))(d:aP M H xs ds):mh M H (x7 K a) ds:=fun J k=>by
 have e:=h J k
 refine ⟨fun i x hx=>?_,⟨xs,bP.of e,by rw[d.length];exact afE _⟩⟩
 obtain ⟨v,ai,b1⟩:=d.get hx
 refine ⟨⟨xs,v,bP.of e,ai⟩,fun y fW hy=>?_⟩
 obtain ⟨rfl,hy⟩:=hy
 have:=hy xs (bP.of e)
 rw[ai]at this
 cases this
 exact .inl ⟨rfl,b1⟩
theorem acK (h:∀J,M.aI H J->bp K J a xs)(d:aP M H xs ds):mh M H (oc K a) ds:=fun J k=>by
 have e:=h J k
 refine ⟨fun i x hx=>?_,⟨xs,e,by rw[d.length];exact afE _⟩⟩
 obtain ⟨v,ai,b1⟩:=d.get hx
 refine ⟨⟨xs,v,e,ai⟩,fun y fW hy=>?_⟩
 obtain ⟨rfl,hy⟩:=hy
 have:=hy xs e
 rw[ai]at this
 cases this
 exact .inl ⟨rfl,b1⟩
def kM (lo:Int)(k:Nat):List PyData:=(List.range k).map fun (i:Nat)=>.int (lo+(i:Int))
theorem nR (lo:Int)(k:Nat):(kM lo k).length=k:=by unfold kM;rw[afG,agj]
theorem o1 {lo:Int}{k i:Nat}{d:PyData}(h:(kM lo k)[i]?=some d):i<k/\d=.int (lo+(i:Int)):=by
 unfold kM at h
 rw[af1]at h
 by_cases hi:i<k
 ·rw[agK hi]at h;cases h;exact ⟨hi,rfl⟩
 ·rw[agL (by rw[agj];lia)]at h;cases h
theorem Ln (lo:Int)(k:Nat):mh M H (lD lo k) (kM lo k):=fun J _=>by
 refine ⟨fun i x hx=>?_,by rw[nR];exact afE k⟩
 obtain ⟨hi,rfl⟩:=o1 hx
 refine ⟨hi,fun y fW hy=>?_⟩
 obtain ⟨rfl,rfl⟩:=hy
 exact .inl ⟨rfl,.int _⟩
def Mn (x:a4)(ax:Nat)(R:List PyData->Nat->Prop):Prop:=(∃ds,x=.d (.tuple ds)/\R ds ax)\/(∃ds,x=.d (.list ds)/\R ds ax)
structure yR (x:a4)(ax:Nat)(R:List PyData->Nat->Prop):Prop where
 o:Mn x ax R
def ad4 (a:cp):g4:=fun δ n R=>a δ n fun x ax=>yR x ax R
theorem uJ {aC:TE}{a:cp}(ha:a9 K aC a):lJ K (Ep K aC) (ad4 a):=⟨fun M {σ δ H n R gR} ok re h k=>by
 refine ha.o M ok re h fun x H1 w ax k1 bM au h1=>?_
 replace h1:=h1.o;unfold Mn at h1
 rcases h1 with ⟨ds,rfl,h1⟩|⟨ds,rfl,h1⟩
 ·obtain ⟨p,xs,rfl,hx,aD⟩:=au.fS
  exact ⟨p,rfl,.inr ⟨⟨xs,hx _ (M.cK _)⟩,k _ H1 ds ax k1 bM (acK hx aD) h1⟩⟩
 ·obtain ⟨p,xs,rfl,hx,aD⟩:=au.lst_inv
  exact ⟨p,rfl,.inl ⟨⟨xs,bP.of (hx _ (M.cK _))⟩,k _ H1 ds ax k1 bM (acL hx aD) h1⟩⟩⟩
def ac6 (a:eP):g4:=fun δ n R=>a δ n fun ws ax=>match ws with|[.d (.int j)]=>(-(2^62)<=j/\j<2^62)/\R (kM 0 j.toNat) ax|_=>False
theorem rT {a:eP}(ha:e7 K m aC a):lJ K (DX aC) (ac6 a):=⟨fun M {σ δ H n R gR} ok re h k=>by
 refine ha.o M ok re h fun aa H1 ws ax k1 bM au _ h1=>?_
 match ws,au,h1 with
 | [.d (.int j)],.cons r .nil,h1=>rw[r.int_inv];exact ⟨j,rfl,h1.1.1,h1.1.2,k _ H1 _ ax k1 bM (Ln 0 _) h1.2⟩⟩
def ac5 (a:eP):g4:=fun δ n R=>a δ n fun ws ax=>match ws with|[.d (.int i),.d (.int j)]=>(-(2^62)<=i/\i<2^62/\-(2^62)<=j/\j<2^62)/\R (kM i (j-i).toNat) ax|_=>False
theorem ZC {a:eP}(ha:e7 K m aC a):lJ K (DW aC) (ac5 a):=⟨fun M {σ δ H n R gR} ok re h k=>by
 refine ha.o M ok re h fun aa H1 ws ax k1 bM au _ h1=>?_
 match ws,au,h1 with
 | [.d (.int i),.d (.int j)],.cons r (.cons bt .nil),h1=>rw[r.int_inv,bt.int_inv];exact ⟨i,j,rfl,h1.1,k _ H1 _ ax k1 bM (Ln i _) h1.2⟩⟩
def ma:List PyData->Nat->List PyData
 | [],_=>[]
 | d::ds,i=>.tuple [.int (i:Int),d]::ma ds (i+1)
theorem um:∀(ds:ajz)(i:Nat),(ma ds i).length=ds.length
 | [],_=>rfl
 | d::ds,i=>by unfold ma;rw[afX,afX,um ds]
theorem wQ:∀(ds:ajz)(k i:Nat),(ma ds k)[i]?=(ds[i]?).map fun d=>.tuple [.int ((k+i:Nat):Int),d]
 | [],_,_=>by simp[ma]
 | d::ds,k,0=>rfl
 | d::ds,k,i+1=>by
  unfold ma
  rw[aiA,aiA,wQ ds (k+1) i,show k+1+i=k+(i+1) by lia]
theorem Kq {b:Bool}(h:∀J,M.aI H J->ig b K J a xs)(d:aP M H xs ds):mh M H (m3 b K a) (ma ds 0):=fun J k=>by
 have e:=h J k
 refine ⟨fun i x hx=>?_,⟨xs,e,by rw[um,d.length]⟩⟩
 rw[wQ]at hx
 cases hd:ds[i]? with
 | none=>rw[hd]at hx;cases hx
 | some y=>
  rw[hd]at hx
  cases hx
  obtain ⟨v,ai,b1⟩:=d.get hd
  refine ⟨⟨xs,v,e,ai⟩,fun z fW hy=>?_⟩
  obtain ⟨T,x,rfl,cG,rfl,hy⟩:=hy
  have:=hy xs e
  rw[ai]at this
  cases this
  refine .inr ⟨T,_,_,rfl,cG,rfl,rfl,.cons ?_ (.cons b1 .nil)⟩
  rw[age];exact .int _
def Lw (ws:List a4)(ax:Nat)(R:List PyData->Nat->Prop):Prop:=(∃ds,ws=[.d (.tuple ds)]/\R (ma ds 0) ax)\/(∃ds,ws=[.d (.list ds)]/\R (ma ds 0) ax)
structure FO (ws:List a4)(ax:Nat)(R:List PyData->Nat->Prop):Prop where
 o:Lw ws ax R
def ac_ (a:eP):g4:=fun δ n R=>a δ n fun ws ax=>FO ws ax R
theorem C2 {a:eP}(ha:e7 K m aC a):lJ K (Lr K aC) (ac_ a):=⟨fun M {σ δ H n R gR} ok re h k=>by
 refine ha.o M ok re h fun aa H1 ws ax k1 bM au _ h1=>?_
 replace h1:=h1.o;unfold Lw at h1
 rcases h1 with ⟨ds,rfl,h1⟩|⟨ds,rfl,h1⟩
 ·replace au:=au.inv1;obtain ⟨v1,rfl,r⟩:=au
  obtain ⟨p,xs,rfl,hx,aD⟩:=r.fS
  exact ⟨true,p,xs,rfl,hx _ (M.cK _),k _ H1 _ ax k1 bM (Kq (b:=true) hx aD) h1⟩
 ·replace au:=au.inv1;obtain ⟨v1,rfl,r⟩:=au
  obtain ⟨p,xs,rfl,hx,aD⟩:=r.lst_inv
  exact ⟨false,p,xs,rfl,bP.of (hx _ (M.cK _)),k _ H1 _ ax k1 bM (Kq (b:=false) (fun J e=>bP.of (hx J e)) aD) h1⟩⟩
def LK (i:Nat):d2:=fun d δ n Q=>Q (zs δ i (.d d)) n
theorem nT {i:Nat}:pB K (kL i) (LK i):=⟨fun M {σ δ H n v d Q aK} ok re b1 h k=>k _ H _ n (M.refl _) ok (re.set b1.rw i) h⟩
def ac4:pC:=fun ds δ n Q=>match ds with|[]=>Q δ n|_=>False
def aaL (g:d2)(r:pC):pC:=fun ds δ n Q=>match ds with|d::t=>g d δ n fun bw ao=>r t bw ao Q|[]=>False
def Mj (m:Nat)(d:PyData)(R:List PyData->Prop):Prop:=(∃ds,d=.tuple ds/\ds.length=m/\R ds)
structure yY (m:Nat)(d:PyData)(R:List PyData->Prop):Prop where
 o:Mj m d R
def ac3 (m:Nat)(g:pC):d2:=fun d δ n Q=>yY m d fun ds=>g ds δ n Q
variable {bF:fZ}
variable {g d1:d2}{t:dM}{e:cp}{δ:bc}{acc xs:ajz}{n:Nat}{Q:List PyData->Nat->Prop}{cZ:TI}{tt:TT}{a8:TE}{is:List (Option Nat)}{i:g4}
def xG (g:d2)(t:dM)(e:cp):List PyData->bc->List PyData->Nat->(List PyData->Nat->Prop)->Prop
 | [],_,acc,n,Q=>Q acc n
 | x::xs,δ,acc,n,Q=>g x δ n fun bO a_=>t bO a_ fun b cc=>fo b (e bO cc fun w cX=>match w with|.d y=>xG g t e xs bO (acc++[y]) cX Q|_=>False) (xG g t e xs bO acc cc Q)
def adU (g:d2)(t:dM)(e:cp)(ds:ajz)(δ:bc)(acc:ajz)(n:Nat)(Q:List PyData->Nat->Prop):Prop:=xG g t e ds δ acc n Q
structure k4 (g:d2)(t:dM)(e:cp)(ds:ajz)(δ:bc)(acc:ajz)(n:Nat)(Q:List PyData->Nat->Prop):Prop where
 o:adU g t e ds δ acc n Q
theorem JW :k4 g t e [] δ acc n Q=Q acc n:=propext ⟨fun h=>h.o,fun h=>⟨h⟩⟩
theorem CQ :xG g t e xs=k4 g t e xs:=by funext δ acc n Q;exact propext ⟨fun h=>⟨h⟩,fun h=>h.o⟩
theorem Ji {x:PyData}:k4 g t e (x::xs) δ acc n Q=g x δ n fun bO a_=>t bO a_ fun b cc=>fo b (e bO cc fun w cX=>match w with|.d y=>k4 g t e xs bO (acc++[y]) cX Q|_=>False) (k4 g t e xs bO acc cc Q):=by
 first|(rw[<-CQ,<-CQ];rfl)|(rw[<-CQ];rfl)
def uR (is:List (Option Nat))(δ:bc):bc:=is.map fun o=>match o with|none=>none|some i=>lk δ i
def LL (i:g4)(g:d2)(t:dM)(e:cp)(is:List (Option Nat)):cp:=fun δ n Q=>i δ n fun ds ax=>ds.length<=1000000/\k4 g t e ds (uR is δ) [] ax fun acc a_=>Q (.d (.list acc)) a_
theorem cI.iP {M:cw K}{H:ah}{σ:St}{δ:bc}(h:cI M H σ δ):∀is:List (Option Nat),cI M H (iP is σ) (uR is δ)
 | []=>.nil
 | none::is=>.cons trivial (cI.iP h is)
 | some i :: is => by
  refine .cons ?_ (cI.iP h is)
  show px M H _ (lk δ i)
  cases e:lk δ i with
  | none=>trivial
  | some w=>
   obtain ⟨v,ai,r⟩:=h.get e
   refine ⟨v,?_,r⟩
   show (match σ[i]? with|some v=>v|none=>none)=some v
   rw[ai]
def Ms:dM:=fun _ n Q=>Q true n
theorem qw:cL K D7 Ms:=⟨fun M {σ δ H n Q aK} ok re h k=>k true H n (M.refl _) ok h⟩
theorem ZF {g:dX}(hi:lJ K cZ i)(hg:pB K g d1)(aH:cL K tt t)(he:a9 K a8 e):oi K (qB cZ g tt a8 is) (LL i d1 t e is):=⟨fun M {σ δ H n Q aK} ok re h k=>by
 refine hi.o M ok re h fun bV H1 ds ax k1 bM it h1=>?_
 intro D bq
 obtain ⟨hl,h1⟩:=h1
 have fN:(M.own D).ok (upd H1 D (.lst [])) ax:=⟨by rw[lu,jP bq];exact bM,[],bo⟩
 refine ⟨fun i m aE J=>m=ds.length-i/\i<=ds.length/\∃bw ao acc xs,M.st (bQ D (upd H1 D (.lst []))) (bQ D J)/\(M.own D).ok J ao/\cI (M.own D) J aE bw/\J D=some (.lst xs)/\aP (M.own D) J xs acc/\xs.length<=i/\k4 d1 t e (ds.drop i) bw acc ao (fun acc a_=>aK (.d (.list acc)) a_),
  ⟨ds.length,by simp,afY _,uR is δ,ax,[],[],M.refl _,fN,((re.aI k1).iP is).own bq _,bo,.nil,afE _,h1⟩,?_⟩
 rintro i m aE J ⟨rfl,hle,bw,ao,acc,xs,aI,dR,Ar,hx,aD,zE,h'⟩
 obtain ⟨tm,zI⟩:=mh.ownAt it bq aI dR
 by_cases dj:i<ds.length
 ·refine .inr ?_
  have ai:ds[i]?=some ds[i]:=afQ dj
  rw[agJ dj,Ji]at h'
  obtain ⟨g1,g2⟩:=tm i _ ai
  refine ⟨g1,fun bZ ag=>∃bw ao acc xs,M.st (bQ D (upd H1 D (.lst []))) (bQ D ag)/\(M.own D).ok ag ao/\cI (M.own D) ag bZ bw/\ag D=some (.lst xs)/\aP (M.own D) ag xs acc/\xs.length<=i+1/\k4 d1 t e (ds.drop (i+1)) bw acc ao (fun acc a_=>aK (.d (.list acc)) a_),fun bZ ag q=>⟨ds.length-(i+1),by lia,rfl,dj,q⟩,fun x ag hy=>?_⟩
  obtain ⟨y1,y2,y3⟩:=g2 x ag hy
  refine hg.o (M.own D) ((M.own D).eC dR y2) (Ar.aI y1) y3 h' fun jV b3 sk cc k3 mB nC aQ=>?_
  refine aH.o (M.own D) mB nC aQ fun b bK cX iZ mC bS=>?_
  have nz:=(M.own D).trans y1 ((M.own D).trans k3 iZ)
  have zC:=nz.2 _ hx
  cases b with
  | true =>
   rw[afD rfl]
   refine he.o (M.own D) mC (nC.aI iZ) bS fun y cy w kl k5 p3 tO c1=>?_
   match w,tO,c1 with
   | .d ue,tO,c1=>
    have pX:=(M.own D).trans nz k5
    have RP:=pX.2 _ hx
    refine ⟨xs,RP,ahs (afK zE (ahD dj)) (by rw[afW];lia),?_⟩
    have nj:bQ D (upd cy D (.lst (xs++[y])))=bQ D cy:=lu
    have kw:(M.own D).aI cy (upd cy D (.lst (xs++[y]))):=by show M.aI (bQ D cy) (bQ D (upd cy D (.lst (xs++[y]))));rw[nj];exact M.cK _
    refine ⟨sk,kl,acc++[ue],xs++[y],?_,⟨by rw[nj];exact p3.1,_,bo⟩,((nC.aI iZ).aI k5).kw kw,bo,((aD.aI pX).append (.cons tO .nil)).kw kw,by rw[afZ];show xs.length+1<=_;lia,c1⟩
    rw[nj]
    exact M.trans aI pX.1
  | false=>
   rw[afC afT]
   exact ⟨sk,cX,acc,xs,M.trans aI nz.1,mC,nC.aI iZ,zC,aD.aI nz,by lia,bS⟩
 ·have ai:i=ds.length:=by lia
  subst ai
  rw[ahc,JW]at h'
  rw[lu,jP bq]at aI
  refine .inl ⟨zI,⟨xs,hx⟩,?_⟩
  have z:=k D (bQ D J) xs acc ao (M.trans k1 aI) dR.1 jO (aD.bare bM bq (M.fi aI)) h'
  rw[J3 hx]at z;exact z⟩
theorem qq {g:dX}(hi:lJ K cZ i)(hg:pB K g d1)(aH:cL K tt t)(he:a9 K a8 e):a9 K (qB cZ g tt a8 is) (LL i d1 t e is):=(ZF hi hg aH he).e
end
section
variable {K:ajA}
variable {t:V}{H:ah}{n:Nat}{S:Addr->Prop}{M:cw K}
theorem SB.bQ {A B:ah}(T:kU H t n)(bq:∀b,S b->H b=none)(k:SB t A B):SB t (cC S A) (cC S B):=by
 refine ⟨fun b o h nb=>?_,fun c h=>?_⟩
 ·obtain ⟨e,h⟩:=i7 h
  rw[eD e];exact k.old b o h nb
 ·obtain ⟨a,r,e,h⟩:=h
  obtain ⟨aq,h⟩:=i7 h
  obtain ⟨pD,bJ,aU,h'⟩:=k.cell c ⟨a,r,e,h⟩
  subst e
  cases aU
  exact ⟨a,bJ,rfl,by rw[eD aq];exact h'⟩
theorem dU.bQ {A B:ah}(T:eE H t n)(bq:∀b,S b->H b=none)(k:dU t A B):dU t (cC S A) (cC S B):=by
 refine ⟨fun b o h nb=>?_,fun c h=>?_⟩
 ·obtain ⟨e,h⟩:=i7 h
  rw[eD e];exact k.old b o h nb
 ·obtain ⟨a,r,e,h⟩:=h
  obtain ⟨aq,h⟩:=i7 h
  obtain ⟨pD,bJ,aU,h'⟩:=k.cell c ⟨a,r,e,h⟩
  subst e
  cases aU
  exact ⟨a,bJ,rfl,by rw[eD aq];exact h'⟩
theorem dU.mm {A B:ah}{b:Addr}(T:eE A t n)(k:dU t A B)(e:B b=none):A b=none:=by
 cases h:A b with
 | none=>rfl
 | some o =>
  by_cases z:V.ref b=t
  ·obtain ⟨a,c,cells,at',left,turn,rfl,h1,h2,aQ⟩:=T
   cases z
   obtain ⟨pD,bJ,aU,h'⟩:=k.cell c ⟨_,_,rfl,h1⟩
   cases aU
   rw[h']at e;cases e
  ·rw[k.old b o h z]at e;cases e
def Io (K:ajA)(t:V):cw K where
 val:=t
 ok H n:=eE H t n
 aI:=dU t
 st:=dU t
 fi h:=h
 cK:=dU.refl t
 gH:=dU.trans
 refl:=dU.refl t
 trans:=dU.trans
 same h:=h.VA
 eC T s:=T.same s
 newD:=fun T bq _ e k=>k.old _ _ e (T.ne bq)
 oX:=fun o T bq k=>k.Cb T bq
 oY:=fun o T bq k yc=>T.Cb k yc bq
 cR:=fun T k=>k.keep T
 mv:=fun T bq _ k=>k.bQ T bq
 mm:=fun T k e=>k.mm T e
 tk:=2
 nK:=fun h=>by cases h
 p_:=fun h=>by cases h
 mI:=fun _ {H n} T=>T
 oK:=fun _ {H J n ao} _ s T=>⟨s,T⟩
def r0:Nat->List a4->bc
 | k,[]=>List.replicate k none
 | k,w::ws=>some w::r0 (k-1) ws
theorem I0:∀(k:Nat)(ws:List a4),r0 k ws=ws.map some++List.replicate (k-ws.length) none
 | k,[]=>rfl
 | k,w::ws=>by
  show some w::r0 (k-1) ws=some w::(ws.map some++List.replicate (k-(ws.length+1)) none)
  rw[I0 (k-1) ws,show k-1-ws.length=k-(ws.length+1) by lia]
theorem cI.G6 {M:cw K}{H:ah}:∀k:Nat,cI M H (List.replicate k none) (List.replicate k none)
 | 0=>.nil
 | k+1=>by rw[agE,agE];exact .cons trivial (cI.G6 k)
theorem cI.app {σ aE:St}{δ bw:bc}(h:cI M H σ δ)(h':cI M H aE bw):cI M H (σ++aE) (δ++bw):=by
 induction h with
 | nil=>exact h'
 | cons r _ bl=>exact .cons r bl
theorem fX.re {aa:List V}{ws:List a4}(h:fX M H aa ws):cI M H (aa.map some) (ws.map some):=by
 induction h with
 | nil=>exact .nil
 | cons r _ bl=>exact .cons ⟨_,rfl,r⟩ bl
theorem fX.start {M:cw K}{H:ah}{aa:List V}{ws:List a4}{N:ajD}(h:fX M H aa ws):cI M H (start N aa) (r0 N.length ws):=by
 unfold L2.start
 rw[I0,h.length]
 exact h.re.app (cI.G6 _)
abbrev iH:=List a4->Nat->b7->(Str->List Str->List PyData->Nat->Prop)->Prop
def jR (K:ajA)(z:iH):b_:=fun aa H Q E=>∃(M:cw K) (ws:List a4) (n:Nat) (aK:b7) (jl:Str->List Str->List PyData->Nat->Prop),M.ok H n/\fX M H aa ws/\z ws n aK jl/\ib M H aK Q/\m5 M H jl E
def KQ (k:Nat):dv:=fun ws n Q=>∃m:Int,ws=[.t k,.d (.int m)]/\n<2^30/\0<m/\m<2^30/\∀r,0<=r->r<m->Q (.d (.int r)) (n+1)
structure CT (k:Nat)(ws:List a4)(n:Nat)(Q:b7):Prop where
 o:KQ k ws n Q
theorem Zl {sp:b_}(h:∀aa H Q E,(∃(t:V) (n:Nat) (m:Int),aa=[t,.int m]/\eE H t n/\n<2^40/\0<m/\m<2^30/\∀r J,0<=r->r<m->eE J t (n+1)->dU t H J->Q (.int r) J)->sp aa H Q E):c0 K sp (CT 2):=fun aa H Q hz=>by
 obtain ⟨M,ws,n,aK,ok,r,z,k⟩:=hz
 have z:=z.o;unfold KQ at z
 obtain ⟨m,rfl,hn,h0,h1,q⟩:=z
 cases r with
 | cons au bt =>
  cases bt with
  | cons bt fP=>
   cases fP
   obtain ⟨rfl,hk⟩:=au
   rw[bt.int_inv]
   refine h _ _ _ _ ⟨M.val,n,m,rfl,M.mI hk ok,by lia,h0,h1,fun r J gq au T S=>?_⟩
   obtain ⟨a,b⟩:=M.oK hk ok S T
   exact k _ J _ (n+1) a b (a7.rw (.int r)) (q r gq au)
theorem uH (q:Rat):ef (bj q)=true:=by simp[bj,ef,fF]
theorem xk (rs:List Rat):ef (bX rs)=true:=by unfold bX;simp only[ef];exact Dp rs
theorem a7.Ae {v:V}{rs:List Rat}(h:a7 M H v (bX rs)):∃a xs,v=.ref a/\bp K H a xs/\bE K H xs (rs.map bj):=by
 obtain ⟨a,xs,rfl,hx,aD⟩:=cS.fS (show cS M H v (.d (.tuple (rs.map bj))) from h)
 exact ⟨a,xs,rfl,hx _ (M.cK _),aD.b1⟩
end
section
variable {n:Nat}{Q:b7}{i j:Int}{a b:ajz}
variable {g:Int->Int->PyData}{x d:PyData}
theorem ko (h:Q (.d (.int (i+j))) n):vH (.d (.int i)) (.d (.int j)) n Q:=⟨.inl ⟨i,j,rfl,rfl,h⟩⟩
theorem abU (h1:a.length+b.length<=1000000)(h:Q (.d (.tuple (a++b))) n):vH (.d (.tuple a)) (.d (.tuple b)) n Q:=⟨.inr (.inl ⟨a,b,rfl,rfl,h1,h⟩)⟩
theorem K6 (h1:a.length+b.length<=1000000)(h:Q (.d (.list (a++b))) n):vH (.d (.list a)) (.d (.list b)) n Q:=⟨.inr (.inr (.inl ⟨a,b,rfl,rfl,h1,h⟩))⟩
theorem pg (h:Q (.d (g i j)) n):pM g (.d (.int i)) (.d (.int j)) n Q:=⟨⟨i,j,rfl,rfl,h⟩⟩
theorem iw (h:Q (.d (.int (i-j))) n):MI (.d (.int i)) (.d (.int j)) n Q:=pg h
theorem sg (t:i<j->Q (.d (.bool true)) n)(f:j<=i->Q (.d (.bool false)) n):FX (.d (.int i)) (.d (.int j)) n Q:=pg (by
 by_cases c:i<j
 ·rw[afI c];exact t c
 ·rw[afJ c];exact f (aiB.mp c))
theorem Ej (t:i<=j->Q (.d (.bool true)) n)(f:j<i->Q (.d (.bool false)) n):FW (.d (.int i)) (.d (.int j)) n Q:=pg (by
 by_cases c:i<=j
 ·rw[afI c];exact t c
 ·rw[afJ c];exact f (Int.not_le.mp c))
theorem Ek (t:j<i->Q (.d (.bool true)) n)(f:i<=j->Q (.d (.bool false)) n):FQ (.d (.int i)) (.d (.int j)) n Q:=pg (by
 by_cases c:j<i
 ·rw[afI c];exact t c
 ·rw[afJ c];exact f (aiB.mp c))
theorem Mv (t:j<=i->Q (.d (.bool true)) n)(f:i<j->Q (.d (.bool false)) n):FP (.d (.int i)) (.d (.int j)) n Q:=pg (by
 by_cases c:j<=i
 ·rw[afI c];exact t c
 ·rw[afJ c];exact f (Int.not_le.mp c))
theorem ad_ {C:Int->Int->Prop}(c:C i j)(h:Q (.d (g i j)) n):yQ C g (.d (.int i)) (.d (.int j)) n Q:=⟨⟨i,j,rfl,rfl,c,h⟩⟩
theorem lZ (c:0<j)(h:Q (.d (.int (i%j))) n):ML (.d (.int i)) (.d (.int j)) n Q:=ad_ c h
theorem mT (c:pl i j)(h:Q (.d (.int (i*j))) n):FY (.d (.int i)) (.d (.int j)) n Q:=⟨.inl ⟨i,j,rfl,rfl,.inl c,h⟩⟩
theorem n4 (t:i=j->Q (.d (.bool true)) n)(f:i≠j->Q (.d (.bool false)) n):q_ (.d (.int i)) (.d (.int j)) n Q:=⟨⟨_,_,rfl,rfl,.inl ⟨rfl,by
 show Q (.d (.bool (decide (i=j)))) n
 by_cases c:i=j
 ·rw[afI c];exact t c
 ·rw[afJ c];exact f c⟩⟩⟩
theorem Ei (t:i≠j->Q (.d (.bool true)) n)(f:i=j->Q (.d (.bool false)) n):vI (.d (.int i)) (.d (.int j)) n Q:=⟨⟨_,_,rfl,rfl,.inl ⟨rfl,by
 show Q (.d (.bool !(decide (i=j)))) n
 by_cases c:i=j
 ·rw[afI c];exact f c
 ·rw[afJ c];exact t c⟩⟩⟩
theorem iC {x y:Str}(t:x=y->Q (.d (.bool true)) n)(f:x≠y->Q (.d (.bool false)) n):q_ (.d (.str x)) (.d (.str y)) n Q:=by
 refine ⟨⟨_,_,rfl,rfl,.inl ⟨rfl,?_⟩⟩⟩
 show Q (.d (.bool (decide (x=y)))) n
 by_cases c:x=y
 ·rw[afI c];exact t c
 ·rw[afJ c];exact f c
theorem xA {y:PyData}(s:tR x y=true)(h:Q (.d (.bool (pK x y))) n):q_ (.d x) (.d y) n Q:=⟨⟨x,y,rfl,rfl,.inl ⟨s,h⟩⟩⟩
theorem adn {y:PyData}(s:tR x y=true)(h:Q (.d (.bool (!pK x y))) n):vI (.d x) (.d y) n Q:=⟨⟨x,y,rfl,rfl,.inl ⟨s,h⟩⟩⟩
theorem DR {y:PyData}(s:je x y)(h:Q (.d (.bool (x.eqv y))) n):q_ (.d x) (.d y) n Q:=⟨⟨x,y,rfl,rfl,.inr (.inl ⟨s,h⟩)⟩⟩
theorem xy {y:PyData}(s:je x y)(h:Q (.d (.bool (!x.eqv y))) n):vI (.d x) (.d y) n Q:=⟨⟨x,y,rfl,rfl,.inr (.inl ⟨s,h⟩)⟩⟩
theorem adp {y:PyData}{c:Bool}(s:xO x y=some c)(h:Q (.d (.bool c)) n):q_ (.d x) (.d y) n Q:=⟨⟨x,y,rfl,rfl,.inr (.inr ⟨c,s,h⟩)⟩⟩
theorem ado {neg:Bool}(s:j9 x=true/\a.all j9=true)(h:Q (.d (.bool (if neg then !(a.any fun d=>lP d x) else a.any fun d=>lP d x))) n):yT neg (.d x) (.d (.tuple a)) n Q:=⟨.inl ⟨x,a,rfl,rfl,s,h⟩⟩
theorem i1 (e:ez a i=some d)(q:Q (.d d) n):sP (.d (.tuple a)) (.d (.int i)) n Q:=adP e q
theorem wg (e:ez a i=some d)(q:Q (.d d) n):sP (.d (.list a)) (.d (.int i)) n Q:=adQ e q
theorem kp (h:Q (.d (.int (a.length:Int))) n):yW [.d (.tuple a)] n Q:=⟨.inl ⟨a,rfl,h⟩⟩
theorem Hm (h:Q (.d (.int (a.length:Int))) n):yW [.d (.list a)] n Q:=⟨.inr ⟨a,rfl,h⟩⟩
theorem K4 (s:oh x)(h:∀k,k=x.shown->Q (.d (.str k)) n):F0 [.d x] n Q:=⟨⟨x,rfl,s,h⟩⟩
theorem An {c:Tk}(h:Q (.d (.bool (zJ x c))) n):FV [.d x,.ty c] n Q:=⟨⟨x,c,rfl,h⟩⟩
theorem Hn (h:Q (.d (.tuple a)) n):F3 [.d (.list a)] n Q:=⟨.inr ⟨a,rfl,h⟩⟩
theorem adq {ns:List Bool}(e:a=ns.map PyData.bool)(h:Q (.d (.bool (ns.all id))) n):FN [.d (.list a)] n Q:=⟨⟨a,rfl,ns,e,h⟩⟩
theorem K5 {b:Bool}(h:Q (.d (.int (if b=true then 1 else 0))) n):FU [.d (.bool b)] n Q:=⟨.inr ⟨b,rfl,h⟩⟩
end
section
variable {n:Nat}{Q:b7}{a b:ajz}{l u:Option Int}{R:List PyData->Nat->Prop}
theorem Ap (h:Q (.d (.tuple (qK a l u))) n):F2 (.d (.tuple a)) l u n Q:=⟨.inl ⟨a,rfl,h⟩⟩
theorem Ao (h:Q (.d (.list a.reverse)) n):F1 (.d (.list a)) n Q:=⟨⟨a,rfl,h⟩⟩
theorem Hl (h:R a n):yR (.d (.tuple a)) n R:=⟨.inl ⟨a,rfl,h⟩⟩
theorem tP (h:R a n):yR (.d (.list a)) n R:=⟨.inr ⟨a,rfl,h⟩⟩
theorem we (h:R (ma a 0) n):FO [.d (.tuple a)] n R:=⟨.inl ⟨a,rfl,h⟩⟩
theorem sa {m:Nat}{S:List PyData->Prop}(e:a.length=m)(h:S a):yY m (.tuple a) S:=⟨⟨a,rfl,e,h⟩⟩
end
variable {g:d2}{e:cp}{Q:List PyData->Nat->Prop}{ds:ajz}{δ:bc}{n:Nat}
theorem KI {α:Type}(xs:List α)(k:Nat):qK xs none (some (k:Int))=xs.take k:=by
 unfold qK
 rw[c5.wj,c5.wi,ahP,ahx]
 by_cases h:k<=xs.length
 ·rw[Nat.min_eq_left h]
 ·rw[Nat.min_eq_right ⋯,ahy (afE _),ahy ⋯]
theorem LF {g:d2}{t:dM}{e:cp}{Q:List PyData->Nat->Prop}(P:Nat->bc->List PyData->Nat->Prop):∀{ds:ajz}{δ:bc}{acc:ajz}{n k:Nat},P k δ acc n->
  (∀(i:Nat)(d:PyData)(δ:bc)(acc:ajz)(n:Nat)(R:bc->List PyData->Nat->Prop),ds[i]?=some d->P (k+i) δ acc n->(∀bw eb ao,P (k+i+1) bw eb ao->R bw eb ao)->g d δ n fun bO a_=>t bO a_ fun b cc=>fo b (e bO cc fun w cX=>match w with|.d y=>R bO (acc++[y]) cX|_=>False) (R bO acc cc))->
  (∀(δ:bc)(acc:ajz)(n:Nat),P (k+ds.length) δ acc n->Q acc n)->k4 g t e ds δ acc n Q
 | [],δ,acc,n,k,h,_,f=>by rw[JW];exact f δ acc n h
 | d :: ds, δ, acc, n, k, h, s, f => by
  rw[Ji]
  refine s 0 d δ acc n (fun bO yj a_=>k4 g t e ds bO yj a_ Q) rfl h fun bw eb ao p=>?_
  refine LF P (k:=k+1) p (fun i d δ acc n R hd hp dF=>?_) (fun δ acc n hp=>f δ acc n ?_)
  ·refine s (i+1) d δ acc n R hd (by rw[show k+(i+1)=k+1+i by lia];exact hp) fun bw eb ao q=>dF bw eb ao ?_
   rw[show k+1+i+1=k+(i+1)+1 by lia];exact q
  ·rw[afX,show k+(ds.length+1)=k+1+ds.length by lia];exact hp
theorem qv {t:dM}(P:Nat->bc->List PyData->Nat->Prop){acc:ajz}(h:P 0 δ acc n)
  (s:∀(i:Nat)(d:PyData)(δ:bc)(acc:ajz)(n:Nat)(R:bc->List PyData->Nat->Prop),ds[i]?=some d->P i δ acc n->(∀bw eb ao,P (i+1) bw eb ao->R bw eb ao)->g d δ n fun bO a_=>t bO a_ fun b cc=>fo b (e bO cc fun w cX=>match w with|.d y=>R bO (acc++[y]) cX|_=>False) (R bO acc cc))
  (f:∀(δ:bc)(acc:ajz)(n:Nat),P ds.length δ acc n->Q acc n):k4 g t e ds δ acc n Q:=
 LF P (k:=0) h (fun i d δ acc n R hd hp dF=>s i d δ acc n R hd (by rwa [age]at hp) fun bw eb ao q=>dF bw eb ao (by rwa [age])) (fun δ acc n hp=>f δ acc n (by rwa [age]at hp))
theorem acW (f:PyData->PyData)(bV:bc->Prop)(h:bV δ)
  (s:∀(d:PyData)(δ:bc)(R:bc->PyData->Nat->Prop),d∈ds->bV δ->(∀bw,bV bw->R bw (f d) n)->g d δ n fun bO a_=>e bO a_ fun w cX=>match w with|.d y=>R bO y cX|_=>False)
  (q:Q (ds.map f) n):k4 g Ms e ds δ [] n Q:=
 qv (fun i δ acc m=>m=n/\bV δ/\acc=(ds.take i).map f) ⟨rfl,h,rfl⟩ (fun i d δ acc m R hd hp dF=>by
  obtain ⟨rfl,hj,rfl⟩:=hp
  refine s d δ (fun bO y cX=>R bO (List.map f (List.take i ds)++[y]) cX) (agD hd) hj fun bw pV=>dF _ _ _ ⟨rfl,pV,?_⟩
  rw[<-List.map_singleton,<-af9]
  congr 1
  have hi:=(agf.mp hd)
  obtain ⟨hl,hg⟩:=hi
  rw[List.take_succ,hd];rfl) (fun δ acc m hp=>by
  obtain ⟨rfl,_,rfl⟩:=hp
  rw[agM];exact q)
section
variable {K:ajA}
theorem cI.forget {M:cw K}{H:ah}:∀(σ:St),cI M H σ (σ.map fun _=>none)
 | []=>.nil
 | _::σ=>.cons trivial (cI.forget σ)
end
theorem r3 {k n:Nat}{Q:b7}{m:Int}(hn:n<2^30)(h0:0<m)(h1:m<2^30)(q:∀r,0<=r->r<m->Q (.d (.int r)) (n+1)):CT k [.t k,.d (.int m)] n Q:=⟨⟨m,rfl,hn,h0,h1,q⟩⟩
section
variable {K:ajA}{M:cw K}{H J:ah}{aa:List V}{jH jI w3 w4 afv:a4}{n ao:Nat}{aK:b7}{Q:bW}
theorem ib.jq (k:ib M H aK Q)(ok:M.ok H n)(s:bb H J){v:V}{d:PyData}(b1:aS K J v d)(dm:ef d=true)(q:aK (.d d) n):Q v J:=k.kr ok s (b1.da (M.eC ok s) dm) q
theorem cS.b1 {v:V}{d:PyData}(r:cS M H v (.d d)):aS K H v d:=a7.b1 r
theorem aS.bX {p:Addr}{ws:List V}{rs:List Rat}(t:bp K H p ws)(d:bE K H ws (rs.map bj)):aS K H (.ref p) (bX rs):=.tup t d
end
variable {p:Nat->Bool}
theorem Xt :∀{W k:Nat},k<W->p k=true->(∀j,j<k->p j=false)->(List.range W).find? p=some k
 | W,k,hk,h,hj=>by
  rw[List.find?_eq_some_iff_getElem]
  refine ⟨h,k,by rw[agj];exact hk,ahR _,fun j pV=>?_⟩
  rw[ahR,hj j pV];rfl
theorem X9 {W:Nat}(h:∀j,j<W->p j=false):(List.range W).find? p=none:=by
 rw[List.find?_eq_none]
 intro x hx
 rw[h x (afU.mp hx)];exact afT
theorem je.bj (x y:Rat):je (bj x) (bj y):=⟨rfl,rfl,by simp[L2.bj,PyData.depth,PyData.depthAll]⟩
section
variable {X:aO}{pins:ajx}{σ:St}{H:ah}{s:Shared}
theorem Inv.Hp (I:Inv X pins σ H s):∀{aa:List V}{ds:ajz}{us:ajC},bE X.K H aa ds->Vals aa us->(∀y∈us,∃e∈ds,∃as,Reads s.heap y e as)/\∀e∈ds,∃y∈us,∃as,Reads s.heap y e as
 | _,_,_,.nil,r=>by cases r;exact ⟨fun _ h=>(by cases h),fun _ h=>by cases h⟩
 | _, _, _, .cons h t, r => by
  cases r with
  | cons au bt =>
   obtain ⟨a,b⟩:=Inv.Hp I t bt
   obtain ⟨as,q⟩:=I.reads h au
   refine ⟨fun y hy=>?_,fun e he=>?_⟩
   ·rcases afP.mp hy with rfl|hy
    ·exact ⟨_,af6 ..,as,q⟩
    ·obtain ⟨e,he,z⟩:=a y hy;exact ⟨e,af5 _ he,z⟩
   ·rcases afP.mp he with rfl|he
    ·exact ⟨_,af6 ..,as,q⟩
    ·obtain ⟨y,hy,z⟩:=b e he;exact ⟨y,af5 _ hy,z⟩
end
section
variable {X:aO}{K:ajA}
def MA (K:ajA)(neg:Bool):dV:=fun x y H Q=>∃p xs d ds,y=.ref p/\bp K H p xs/\aS K H x d/\bE K H xs ds/\d.canLay0=true/\(∀e∈ds,e.canLay0=true)/\d.depth<=60/\Q (.aG (if neg then !(ds.any fun e=>e.eqv d) else ds.any fun e=>e.eqv d)) H
open Classical in
theorem acO {pins:ajx}{σ:St}{H:ah}{s:Shared}{k:Nat}(hr:dI k X.A)(I:Inv X pins σ H s){x:V}{u:Value}{d:PyData}{xs:List V}{ds:ajz}{its:ajC}(hd:aS X.K H x d)(aB:RelV x u)(dY:bE X.K H xs ds)(bg:Vals xs its)(cd:d.canLay0=true)(cs:∀e∈ds,e.canLay0=true)(eI:d.depth<=60) :
  ∃f:Value->Bool,(∀y,y∈its.toArray->SeqAt.EqAt X.A.in1 s y u (f y))/\its.toArray.any f=ds.any fun e=>e.eqv d:=by
 obtain ⟨a,b⟩:=I.Hp dY bg
 obtain ⟨as,r⟩:=I.reads hd aB
 have hu:=hr.units
 refine ⟨fun y=>decide (∃e∈ds,∃as,Reads s.heap y e as/\e.eqv d=true),fun y hy=>?_,?_⟩
 ·obtain ⟨e,he,bs,q⟩:=a y (by simpa using hy)
  have key:SeqAt.EqAt X.A.in1 s y u (e.eqv d):=by
   refine PySem.SeqAt.eqAt_reads e d _ _ _ _ _ _ q r (cs e he) cd ?_
   have:=Nat.min_le_right e.depth d.depth
   show X.A.units+1+_<cLine
   lia
  have ai:decide (∃e∈ds,∃as,Reads s.heap y e as/\e.eqv d=true)=e.eqv d:=by
   cases h:e.eqv d with
   | true=>exact afI ⟨e,he,bs,q,h⟩
   | false=>
    refine afJ fun hz=>?_
    obtain ⟨aU,jr,NC,bD,h'⟩:=hz
    rw[PySem.SeqAt.Reads.unique e aU y bs NC (cs e he) q bD,h']at h
    cases h
  rw[<-ai]at key;exact key
 ·rw[agO]
  simp only[List.any_toArray,ajg,agU]
  constructor
  ·rintro ⟨y,hy,e,he,bs,q,h⟩
   exact ⟨e,he,h⟩
  ·rintro ⟨e,he,h⟩
   obtain ⟨y,hy,bs,q⟩:=b e he
   exact ⟨y,hy,e,he,bs,q,h⟩
theorem Cn (bL:X.K=K){k:Nat}(hr:dI k X.A):dh X (compareOp .NotIn) (gr (rz K true) (MA K true)):=by
 subst bL
 intro pins s σ H x y v u Q I aB aJ h
 rcases h with h|⟨p,xs,d,ds,rfl,aM,hd,dY,cd,cs,eI,q⟩
 ·exact WW pins s σ H x y v u Q I aB aJ h
 ·cases aJ
  obtain ⟨its,bg,bX,aZ⟩:=I.tuple aM
  obtain ⟨f,h1,h2⟩:=acO hr I hd aB dY bg cd cs eI
  exact SeqAt.notIn_tupleAt f bX h1 ⟨.aG _,H,I,by rw[h2];rfl,q⟩
def acR (neg:Bool):a4->a4->Nat->b7->Prop:=fun w z n Q=>yT neg w z n Q\/∃a ds,w=.d a/\z=.d (.tuple ds)/\(a.canLay0=true/\(∀e∈ds,e.canLay0=true)/\a.depth<=60)/\Q (.d (.bool (if neg then !(ds.any fun e=>e.eqv a) else ds.any fun e=>e.eqv a))) n
structure yU (neg:Bool)(w z:a4)(n:Nat)(Q:b7):Prop where
 o:acR neg w z n Q
theorem DV (neg:Bool):hD K (gr (rz K neg) (MA K neg)) (yU neg):=fun M {H n x y w z Q aK} ok aB aJ h k=>by
 rcases h.o with h|⟨a,ds,rfl,rfl,⟨dJ,cB,j6⟩,h⟩
 ·exact .inl (aek neg M ok aB aJ h k)
 ·obtain ⟨p,xs,rfl,hy,gn⟩:=aJ.fS
  exact .inr ⟨p,xs,a,ds,rfl,hy _ (M.cK _),aB.b1,gn.b1,dJ,cB,j6,k.now ok (.aG _) h⟩
theorem abT {neg:Bool}{x:PyData}{a:ajz}{n:Nat}{Q:b7}(s:j9 x=true/\a.all j9=true)(h:Q (.d (.bool (if neg then !(a.any fun d=>lP d x) else a.any fun d=>lP d x))) n):yU neg (.d x) (.d (.tuple a)) n Q:=⟨.inl (ado s h)⟩
end
section
variable {K:ajA}
theorem XN {X:aO}{pos:Pos}:bI X (.Dict [] [] pos) Ds:=⟨YW⟩
theorem ZE:a9 K Ds (qA (.dict [])):=⟨fun M {σ δ H n Q aK} ok re h k p hp=>k.kr ok (bY hp _) (.e9 (kvs:=[]) (bT:=[]) (fun _ e=>M.newD ok hp (M.fi (M.same (bY hp _))) bo e) .nil .nil) h⟩
end
section
variable {K:ajA}
variable {S:Addr->Prop}{t:V}
theorem XE {A B:ah}{n m:Nat}(T:kU (cC S A) t n)(s:SB t A B)(gz:kU B t m):SB t (cC S A) (cC S B)/\kU (cC S B) t m/\∀b,S b->V.ref b≠t:=by
 have fL:=T
 obtain ⟨a,c,cells,at',left,rfl,h1,h2,aQ⟩:=T
 obtain ⟨na,ha⟩:=i7 h1
 obtain ⟨mz,hc⟩:=i7 h2
 obtain ⟨oq,gq,ed,lj⟩:=s.cell c ⟨a,_,rfl,ha⟩
 cases ed
 refine ⟨s.bQ (H:=cC S A) fL fun b e=>kF e,?_,fun b e z=>by cases z;exact na e⟩
 obtain ⟨m9,j6,pG,pE,p0,cD,aL,bU,df⟩:=gz
 cases cD
 rw[lj]at aL
 cases aL
 exact ⟨a,c,pG,pE,p0,rfl,by rw[eD na];exact lj,by rw[eD mz];exact bU,df⟩
theorem Ya {A B:ah}{n m:Nat}(T:eE (cC S A) t n)(s:dU t A B)(gz:eE B t m):dU t (cC S A) (cC S B)/\eE (cC S B) t m/\∀b,S b->V.ref b≠t:=by
 have fL:=T
 obtain ⟨a,c,cells,at',left,turn,rfl,h1,h2,aQ⟩:=T
 obtain ⟨na,ha⟩:=i7 h1
 obtain ⟨mz,hc⟩:=i7 h2
 obtain ⟨oq,gq,ed,lj⟩:=s.cell c ⟨a,_,rfl,ha⟩
 cases ed
 refine ⟨s.bQ (H:=cC S A) fL fun b e=>kF e,?_,fun b e z=>by cases z;exact na e⟩
 obtain ⟨m9,j6,pG,pE,p0,B_,cD,aL,bU,df⟩:=gz
 cases cD
 rw[lj]at aL
 cases aL
 exact ⟨a,c,pG,pE,p0,B_,rfl,by rw[eD na];exact lj,by rw[eD mz];exact bU,df⟩
def cw.cY (M:cw K)(S:Addr->Prop)(QO:Bool):cw K where
 val:=M.val
 ok A n:=M.ok (cC S A) n/\∀b,S b->∃xs,A b=some (.lst xs)
 aI A B:=M.aI (cC S A) (cC S B)/\(QO=true->∀b,S b->∀o,A b=some o->B b=some o)
 st A B:=M.st (cC S A) (cC S B)/\∀b,S b->∀o,A b=some o->B b=some o
 fi h:=⟨M.fi h.1,fun _=>h.2⟩
 cK _:=⟨M.cK _,fun _ _ _ _ h=>h⟩
 gH a b:=⟨M.gH a.1 b.1,fun z c h o e=>b.2 z c h o (a.2 z c h o e)⟩
 refl _:=⟨M.refl _,fun _ _ _ h=>h⟩
 trans a b:=⟨M.trans a.1 b.1,fun c h o e=>b.2 c h o (a.2 c h o e)⟩
 same s:=⟨M.same s.cC,fun _ _ _ h=>s _ _ h⟩
 eC:=fun ⟨o,h⟩ s=>⟨M.eC o s.cC,fun b e=>let ⟨xs,q⟩:=h b e;⟨xs,s _ _ q⟩⟩
 newD:=fun {H n E cy o hQ} ⟨ok,h⟩ dN k1 e k2=>by
  have c7:¬S E:=fun z=>by obtain ⟨xs,q⟩:=h E z;rw[dN]at q;cases q
  exact (i7 (M.newD ok (by rw[eD c7];exact dN) k1.1 (by rw[eD c7];exact e) k2.1)).2
 oX:=fun {H n E cy} o ⟨ok,h⟩ dN k1=>by
  have c7:¬S E:=fun z=>by obtain ⟨xs,q⟩:=h E z;rw[dN]at q;cases q
  refine ⟨?_,fun b hb u hu=>by rw[br (show b≠E from fun z=>c7 (z▸hb))];exact k1.2 b hb u hu⟩
  rw[IG c7]
  exact M.oX o ok (by rw[eD c7];exact dN) k1.1
 oY:=fun {H n E cy m} o ⟨ok,h⟩ dN k1 ⟨p3,c1⟩=>by
  have c7:¬S E:=fun z=>by obtain ⟨xs,q⟩:=h E z;rw[dN]at q;cases q
  refine ⟨?_,fun b hb=>by rw[br (show b≠E from fun z=>c7 (z▸hb))];exact c1 b hb⟩
  rw[IG c7]
  exact M.oY o ok (by rw[eD c7];exact dN) k1.1 p3
 cR:=fun {H J n} ⟨ok,h⟩ k b ys r=>by
  have c7:¬S b:=fun z=>by
   obtain ⟨xs,q⟩:=h b z
   rcases r with r|⟨o,r⟩<;>rw[q]at r<;>cases r
  have:=M.cR ok k.1 b ys (r.imp (fun z=>by rw[eD c7];exact z) (fun ⟨o,z⟩=>⟨o,by rw[eD c7];exact z⟩))
  exact this.imp (fun z=>(i7 z).2) (fun ⟨o,z⟩=>⟨o,(i7 z).2⟩)
 mv:=fun {H n cv A B} ⟨ok,h⟩ dN k1 k2=>by
  have zM:=M.mv (S:=cv) ok (fun b e=>by
   by_cases z:S b
   ·rw[kF z]
   ·rw[eD z];exact dN b e) k1.1 k2.1
  refine ⟨?_,fun z b hb o q=>?_⟩
  ·have yx:∀C:ah,cC S (cC cv C)=cC cv (cC S C):=fun C=>by
    rw[rX,rX];congr 1;funext b;exact propext ⟨fun z=>z.symm,fun z=>z.symm⟩
   rw[yx,yx];exact zM
  ·obtain ⟨ax,q⟩:=i7 q
   rw[eD ax];exact k2.2 z b hb o q
 mm:=fun {A B n b} ⟨ok,h⟩ k e=>by
  by_cases z:S b
  ·obtain ⟨xs,q⟩:=h b z
   rw[k.2 b z _ q]at e;cases e
  ·have:=M.mm ok k.1 (b:=b) (by rw[eD z];exact e)
   rw[eD z]at this;exact this
 tk:=M.tk
 nK:=fun h {H n} ⟨ok,_⟩=>(M.nK h ok).same nP
 p_:=fun h {H J n ao} ⟨ok,hx⟩ s t'=>by
  obtain ⟨hs,aH,hv⟩:=XE (M.nK h ok) s t'
  obtain ⟨a,b⟩:=M.p_ h ok hs aH
  exact ⟨⟨a,fun c hc o ho=>s.old _ _ ho (hv c hc)⟩,b,fun c hc=>let ⟨xs,q⟩:=hx c hc;⟨xs,s.old _ _ q (hv c hc)⟩⟩
 mI:=fun h {H n} ⟨ok,_⟩=>(M.mI h ok).same nP
 oK:=fun h {H J n ao} ⟨ok,hx⟩ s t'=>by
  obtain ⟨hs,aH,hv⟩:=Ya (M.mI h ok) s t'
  obtain ⟨a,b⟩:=M.oK h ok hs aH
  exact ⟨⟨a,fun c hc o ho=>s.old _ _ ho (hv c hc)⟩,b,fun c hc=>let ⟨xs,q⟩:=hx c hc;⟨xs,s.old _ _ q (hv c hc)⟩⟩
section
variable {N jX:cw K}{H J:ah}
mutual
theorem a7.imp (k:∀ag,jX.aI J ag->N.aI H ag):∀{v:V}{d:PyData},a7 N H v d->a7 jX J v d
 | _,_,.bz=>.bz
 | _,_,.aG b=>.aG b
 | _,_,.int i=>.int i
 | _,_,.str x=>.str x
 | _,_,.lst h t=>.lst (fun ag e=>h ag (k ag e)) (aP.imp k t)
 | _,_,.tup h t=>.tup (fun ag e=>h ag (k ag e)) (aP.imp k t)
 | _,_,.e9 h a t=>.e9 (fun ag e=>h ag (k ag e)) (aP.imp k a) (aP.imp k t)
 | _,_,.fs h a t=>.fs (fun ag e=>h ag (k ag e)) (aP.imp k a) (aP.imp k t)
theorem aP.imp (k:∀ag,jX.aI J ag->N.aI H ag):∀{aa:List V}{ds:ajz},aP N H aa ds->aP jX J aa ds
 | _,_,.nil=>.nil
 | _,_,.cons h t=>.cons (a7.imp k h) (aP.imp k t)
end
theorem cS.imp (k:∀ag,jX.aI J ag->N.aI H ag)(hv:jX.val=N.val)(aH:jX.tk=N.tk){v:V}{w:a4}(h:cS N H v w):cS jX J v w:=by
 cases w with
 | d x=>exact a7.imp k h
 | t j=>exact ⟨h.1.trans hv.symm,aH.trans h.2⟩
 | ty c=>exact h
 | o ds=>exact h
 | x c ns ds=>
  obtain ⟨C,aq,aD,aa,rfl,hc,hk,hx,hd⟩:=h
  exact ⟨C,aq,aD,aa,rfl,hc,hk,fun ag e=>hx ag (k ag e),hd.imp k⟩
end
variable {M:cw K}{S cv fY:Addr->Prop}{H J H1 ag bC:ah}{n ao:Nat}{σ:St}{δ:bc}
structure gj (M:cw K)(S:Addr->Prop)(H:ah)(cv:Addr->Prop)(J:ah):Prop where
 st:M.st (cC S H) (cC cv J)
 nw:∀b,cv b->¬S b->H b=none
variable {l:ajG}
theorem gj.refl:gj M S H S H:=⟨M.refl _,fun _ a b=>(b a).elim⟩
theorem gj.trans (a:gj M S H cv J)(b:gj M cv J fY ag)(ok:M.ok (cC S H) n):gj M S H fY ag:=⟨M.trans a.st b.st,fun c h2 h0=>by
 by_cases z:cv c
 ·exact a.nw c z h0
 ·have e:=M.mm ok a.st (b:=c) (by rw[eD z];exact b.nw c h2 z)
  rw[eD h0]at e;exact e⟩
theorem gj.aI (a:gj M S H cv J)(ok:M.ok (cC S H) n):∀ag,(M.cY cv false).aI J ag->(M.cY S false).aI H ag:=fun ag e=>by
 refine ⟨?_,fun z=>by cases z⟩
 have z:=M.mv (S:=S) ok (fun b e=>kF e) (M.cK _) (M.gH (M.fi a.st) e.1)
 rw[X7,rX]at z
 exact M.gH z (M.fi (M.same (Zb fun b e=>.inl e)))
structure m4 (M:cw K)(bC:ah)(S:Addr->Prop)(H:ah)(n:Nat):Prop where
 o0:∃d0,M.ok bC d0
 fr:∀b,S b->bC b=none
 st:M.st bC (cC S H)
 ok:M.ok (cC S H) n
 ls:∀b,S b->∃xs,H b=some (.lst xs)
theorem m4.i0 (h:m4 M bC S H n)(b:Bool):(M.cY S b).ok H n:=⟨h.ok,h.ls⟩
theorem m4.out (h:m4 M bC S H n):∀ag,M.aI H ag->(M.cY S false).aI H ag:=fun ag e=>by
 obtain ⟨d0,o0⟩:=h.o0
 exact ⟨M.mv o0 h.fr (M.fi (M.trans h.st (M.same nP))) e,fun z=>by cases z⟩
theorem m4.step {b:Bool}(h:m4 M bC S H n)(k:(M.cY S b).st H J)(o:(M.cY S b).ok J ao):m4 M bC S J ao:=⟨h.o0,h.fr,M.trans h.st k.1,o.1,o.2⟩
inductive g0 (M:cw K)(S:Addr->Prop)(H:ah):St->bc->List Addr->Prop
 | nil:g0 M S H [] [] []
 | cons {o:Option V} {w:Option a4} {σ:St} {δ:bc} {l:ajG}:px (M.cY S false) H o w->g0 M S H σ δ l->g0 M S H (o::σ) (w::δ) l
 | own {b:Addr} {xs:List V} {ds:ajz} {σ:St} {δ:bc} {l:ajG}:S b->b∉l->H b=some (.lst xs)->aP (M.cY S false) H xs ds->g0 M S H σ δ l->g0 M S H (some (.ref b)::σ) (some (.o ds)::δ) (b::l)
theorem px.imp {N jX:cw K}(k:∀ag,jX.aI J ag->N.aI H ag)(hv:jX.val=N.val)(aH:jX.tk=N.tk){o:Option V}{w:Option a4}(h:px N H o w):px jX J o w:=by
 cases w with
 | none=>trivial
 | some w=>obtain ⟨v,e,r⟩:=h;exact ⟨v,e,r.imp k hv aH⟩
theorem g0.imp {l:ajG}(h:g0 M S H σ δ l)(k:∀ag,(M.cY cv false).aI J ag->(M.cY S false).aI H ag)(cR:∀b∈l,cv b/\J b=H b):g0 M cv J σ δ l:=by
 induction h with
 | nil=>exact .nil
 | cons r _ bl=>exact .cons (r.imp k rfl rfl) (bl cR)
 | own fL hl hx hd _ bl=>
  obtain ⟨k1,k2⟩:=cR _ (af6 ..)
  exact .own k1 hl (k2.trans hx) (hd.imp k) (bl fun b hb=>cR b (af5 _ hb))
theorem g0.mem (h:g0 M S H σ δ l):∀b∈l,S b/\∃o,H b=some o:=by
 induction h with
 | nil=>intro b hb;cases hb
 | cons _ _ bl=>exact bl
 | own fL _ hx _ _ bl=>
  intro b hb
  rcases afP.mp hb with rfl|hb
  ·exact ⟨fL,_,hx⟩
  ·exact bl b hb
def Ww:Bool->Option a4->Option a4
 | false,some (.o _)=>none
 | true,some (.o ds)=>some (.d (.list ds))
 | _,w=>w
def jG (b:Bool):bc->bc
 | []=>[]
 | w::δ=>Ww b w::jG b δ
theorem g0.re (h:g0 M S H σ δ l)(b:Bool):cI (M.cY S b) H σ (jG b δ):=by
 have k:∀ag,(M.cY S b).aI H ag->(M.cY S false).aI H ag:=fun ag e=>⟨e.1,fun z=>by cases z⟩
 induction h with
 | nil=>exact .nil
 | @cons o w σ δ l r _ bl =>
  refine .cons ?_ bl
  have bJ:px (M.cY S b) H o w:=r.imp k rfl rfl
  cases b with
  | false=>
   cases w with
   | none=>exact bJ
   | some w=>cases w<;>first|exact bJ|trivial
  | true=>
   cases w with
   | none=>exact bJ
   | some w=>cases w<;>first|exact bJ|(obtain ⟨_,_,z⟩:=bJ;exact z.elim)
 | own fL hl hx hd _ bl=>
  refine .cons ?_ bl
  cases b with
  | false=>trivial
  | true=>exact ⟨_,rfl,.lst (fun ag e=>e.2 rfl _ fL _ hx) (hd.imp k)⟩
theorem g0.set {l:ajG}(h:g0 M S H σ δ l){v:V}{w:a4}(r:cS (M.cY S false) H v w):∀i:Nat,∃pZ,(∀b∈pZ,b∈l)/\g0 M S H (σ.set i (some v)) (zs δ i w) pZ:=by
 induction h with
 | nil=>intro i;exact ⟨[],fun _ h=>h,.nil⟩
 | @cons o h5 σ δ l gq t bl=>
  intro i
  cases i with
  | zero=>exact ⟨l,fun _ h=>h,.cons ⟨v,rfl,r⟩ t⟩
  | succ i=>obtain ⟨pZ,hs,t'⟩:=bl i;exact ⟨pZ,hs,.cons gq t'⟩
 | own fL hl hx hd t bl =>
  intro i
  cases i with
  | zero=>exact ⟨_,fun b hb=>af5 _ hb,.cons ⟨v,rfl,r⟩ t⟩
  | succ i=>
   obtain ⟨pZ,hs,t'⟩:=bl i
   refine ⟨_,fun c hc=>?_,.own fL (fun z=>hl (hs _ z)) hx hd t'⟩
   rcases afP.mp hc with rfl|hc
   ·exact af6 ..
   ·exact af5 _ (hs c hc)
structure e6 (M:cw K)(bC:ah)(S:Addr->Prop)(H:ah)(σ:St)(δ:bc)(n:Nat):Prop where
 b:m4 M bC S H n
 r:∃l,g0 M S H σ δ l
theorem e6.step {b:Bool}(h:e6 M bC S H σ δ n)(k:(M.cY S b).st H J)(o:(M.cY S b).ok J ao):gj M S H S J/\e6 M bC S J σ δ ao:=by
 have t:gj M S H S J:=⟨k.1,fun c a z=>(z a).elim⟩
 obtain ⟨l,r⟩:=h.r
 refine ⟨t,h.b.step k o,l,r.imp (t.aI h.b.ok) fun c hc=>?_⟩
 obtain ⟨s,o,e⟩:=r.mem c hc
 exact ⟨s,(k.2 c s o e).trans e.symm⟩
theorem e6.set (h:e6 M bC S H σ δ n){v:V}{w:a4}(r:cS (M.cY S false) H v w)(i:Nat):e6 M bC S H (σ.set i (some v)) (zs δ i w) n:=by
 obtain ⟨l,t⟩:=h.r
 obtain ⟨pZ,_,t'⟩:=t.set r i
 exact ⟨h.b,pZ,t'⟩
end
section
variable {K:ajA}{bF:fZ}
variable {m:Nat}{z:iH}
abbrev fI:=Str->List Str->List PyData->Nat->Prop
structure m8 (K:ajA)(bF:fZ)(a8:TE)(eR:fI->cp):Prop where
 o:∀(M:cw K){σ:St}{δ:bc}{H:ah}{n:Nat}{Q:bW}{aK:b7}{dz:fI},M.ok H n->cI M H σ δ->eR dz δ n aK->ib M H aK Q->m5 M H dz (bF σ)->a8 σ H Q
structure vn (K:ajA)(bF:fZ)(a8:TT)(eR:fI->dM):Prop where
 o:∀(M:cw K){σ:St}{δ:bc}{H:ah}{n:Nat}{Q:Bool->ah->Prop}{aK:Bool->Nat->Prop}{dz:fI},M.ok H n->cI M H σ δ->eR dz δ n aK->(∀b J ao,M.st H J->M.ok J ao->aK b ao->Q b J)->m5 M H dz (bF σ)->a8 σ H Q
structure EP (K:ajA)(bF:fZ)(k:Nat)(a8:cP)(eR:fI->eP):Prop where
 o:∀(M:cw K){σ:St}{δ:bc}{H:ah}{n:Nat}{Q:List V->ah->Prop}{aK:List a4->Nat->Prop}{dz:fI},M.ok H n->cI M H σ δ->eR dz δ n aK->(∀aa J ws ao,M.st H J->M.ok J ao->fX M J aa ws->ws.length=k->aK ws ao->Q aa J)->m5 M H dz (bF σ)->a8 σ H Q
theorem a9.x {a8:TE}{eR:cp}(h:a9 K a8 eR):m8 K bF a8 (fun _=>eR):=⟨fun M {σ δ H n Q aK dz} ok re hd k _=>h.o M ok re hd k⟩
theorem cL.x {a8:TT}{eR:dM}(h:cL K a8 eR):vn K bF a8 (fun _=>eR):=⟨fun M {σ δ H n Q aK dz} ok re hd k _=>h.o M ok re hd k⟩
theorem e7.x {a8:cP}{eR:eP}(h:e7 K m a8 eR):EP K bF m a8 (fun _=>eR):=⟨fun M {σ δ H n Q aK dz} ok re hd k _=>h.o M ok re hd k⟩
def aaN (z:iH)(a:fI->eP):fI->cp:=fun dz δ n Q=>a dz δ n fun ws ax=>z ws ax Q dz
def jW (K:ajA)(sp:b_)(z:iH):Prop:=∀aa H Q E,jR K z aa H Q E->sp aa H Q E
theorem jW.refl :jW K (jR K z) z:=fun _ _ _ _ h=>h
theorem mM {sp:b_}{t:cP}{a:fI->eP}(hc:jW K sp z)(ha:EP K bF m t a):m8 K bF (KW sp bF t) (aaN z a):=⟨fun M {σ δ H n Q aK dz} ok re h k pY=>by
 refine ha.o M ok re h (fun aa H1 ws ax k1 bM au hl h1=>?_) pY
 exact hc aa H1 _ _ ⟨M,ws,ax,aK,dz,bM,au,h1,k.aI k1,pY.aI k1⟩⟩
structure jm where
 nx:bc->Nat->Prop
 eT:b7
 d8:bc->Nat->Prop:=fun _ _=>False
 cq:bc->Nat->Prop:=fun _ _=>False
 dz:bc->fI:=fun _ _ _ _ _=>False
abbrev eQ:=jm->bc->Nat->Prop
def oJ:Bool->a4->Prop->Prop
 | false,_,P=>P
 | true,.d d,P=>ef d=true/\P
 | true,.t _,P=>P
 | true,.ty _,P=>P
 | true,_,_=>False
def ry:Bool->List PyData->Prop->Prop
 | false,_,P=>P
 | true,ds,P=>fF ds=true/\P
def n5:Bool->fI->fI
 | false,dz=>dz
 | true,dz=>fun x ns ds n=>fF ds=true/\dz x ns ds n
variable {M:cw K}{S cv fY:Addr->Prop}{H J H1 ag bC:ah}{n ao:Nat}{σ:St}{δ:bc}{D:Ends}{ea:jm}{b:Bool}
variable {P:Prop}{aC:TE}{a:fI->cp}{i:Nat}{g:dX}{d1:d2}
theorem cS.oJ {v:V}{w:a4}(ok:(M.cY S false).ok H n)(r:cS (M.cY S b) H v w)(h:L2.oJ b w P):cS (M.cY S false) H v w/\P:=by
 cases b with
 | false=>exact ⟨r,h⟩
 | true=>
  cases w with
  | d d=>exact ⟨(cS.b1 r).da ok h.1,h.2⟩
  | t k=>exact ⟨r,h⟩
  | ty c=>exact ⟨r,h⟩
  | o ds=>exact r.elim
  | x c ns ds=>exact h.elim
theorem aP.ry {aa:List V}{ds:ajz}(ok:(M.cY S false).ok H n)(r:aP (M.cY S b) H aa ds)(h:L2.ry b ds P):aP (M.cY S false) H aa ds/\P:=by
 cases b with
 | false=>exact ⟨r,h⟩
 | true=>exact ⟨r.b1.da ok h.1,h.2⟩
structure lG (M:cw K)(bF:fZ)(bC:ah)(S:Addr->Prop)(H:ah)(ea:jm)(D:Ends):Prop where
 nx:∀cv J σ δ ao,gj M S H cv J->e6 M bC cv J σ δ ao->ea.nx δ ao->D.nx σ J
 eT:∀cv J v w ao,gj M S H cv J->m4 M bC cv J ao->cS (M.cY cv false) J v w->ea.eT w ao->D.eT v J
 d8:∀cv J σ δ ao,gj M S H cv J->e6 M bC cv J σ δ ao->ea.d8 δ ao->D.d8 σ J
 cq:∀cv J σ δ ao,gj M S H cv J->e6 M bC cv J σ δ ao->ea.cq δ ao->D.cq σ J
 dz:∀cv J σ δ ao x ns aa ds,gj M S H cv J->e6 M bC cv J σ δ ao->aP (M.cY cv false) J aa ds->ea.dz δ x ns ds ao->xj K x (wa ns aa) J (bF σ)
theorem lG.kx (k:lG M bF bC S H ea D)(t:gj M S H cv J)(ok:M.ok (cC S H) n):lG M bF bC cv J ea D:=
 ⟨fun fY ag σ δ ao t'=>k.nx fY ag σ δ ao (t.trans t' ok),fun fY ag v w ao t'=>k.eT fY ag v w ao (t.trans t' ok),fun fY ag σ δ ao t'=>k.d8 fY ag σ δ ao (t.trans t' ok),fun fY ag σ δ ao t'=>k.cq fY ag σ δ ao (t.trans t' ok),fun fY ag σ δ ao x ns aa ds t'=>k.dz fY ag σ δ ao x ns aa ds (t.trans t' ok)⟩
theorem lG.Hb (k:lG M bF bC S H ea D)(s:e6 M bC S H σ δ n):m5 (M.cY S b) H (n5 b (ea.dz δ)) (bF σ):=fun x ns aa ds J ao k1 bM r h=>by
 obtain ⟨t,ar⟩:=s.step k1 bM
 cases b with
 | false=>exact k.dz S J σ δ ao x ns aa ds t ar r h
 | true=>exact k.dz S J σ δ ao x ns aa ds t ar (r.b1.da (ar.b.i0 false) h.1) h.2
theorem m8.at {Q:bW}{aK:b7}(ha:m8 K bF aC a)(s:e6 M bC S H σ δ n)(h:a (n5 b (ea.dz δ)) (jG b δ) n aK)(k:lG M bF bC S H ea D)
  (q:∀v H1 w ax,gj M S H S H1->e6 M bC S H1 σ δ ax->cS (M.cY S b) H1 v w->aK w ax->Q v H1):aC σ H Q:=by
 obtain ⟨l,r⟩:=s.r
 refine ha.o (M.cY S b) (s.b.i0 b) (r.re b) h (fun v H1 w ax k1 bM au h1=>?_) (k.Hb s)
 obtain ⟨t,ar⟩:=s.step k1 bM
 exact q v H1 w ax t ar au h1
theorem vn.at {aC:TT}{a:fI->dM}{Q:Bool->ah->Prop}{aK:Bool->Nat->Prop}(ha:vn K bF aC a)(s:e6 M bC S H σ δ n)(h:a (n5 b (ea.dz δ)) (jG b δ) n aK)(k:lG M bF bC S H ea D)
  (q:∀v H1 ax,gj M S H S H1->e6 M bC S H1 σ δ ax->aK v ax->Q v H1):aC σ H Q:=by
 obtain ⟨l,r⟩:=s.r
 refine ha.o (M.cY S b) (s.b.i0 b) (r.re b) h (fun v H1 ax k1 bM h1=>?_) (k.Hb s)
 obtain ⟨t,ar⟩:=s.step k1 bM
 exact q v H1 ax t ar h1
structure gi (K:ajA)(bF:fZ)(ts:cT)(ds:eQ):Prop where
 o:∀(M:cw K){bC:ah}{S:Addr->Prop}{H:ah}{σ:St}{δ:bc}{n:Nat}{D:Ends}{ea:jm},e6 M bC S H σ δ n->ds ea δ n->lG M bF bC S H ea D->ts D σ H
def adF:eQ:=fun D δ n=>D.nx δ n
def aed (s t:eQ):eQ:=fun D δ n=>s {D with nx:=t D} δ n
theorem eg:gi K bF DO adF:=⟨fun M {bC S H σ δ n D ea} s h k=>k.nx _ _ _ _ n .refl s h⟩
theorem b9 {t u:cT}{a b:eQ}(ha:gi K bF t a)(hb:gi K bF u b):gi K bF (D9 t u) (aed a b):=⟨fun M {bC S H σ δ n D ea} s h k=>by
 refine ha.o M s h ⟨fun aew H1 qL afA ax t1 s1 h1=>?_,k.eT,k.d8,k.cq,k.dz⟩
 exact hb.o M s1 h1 (k.kx t1 s.b.ok)⟩
def aee (b:Bool)(a:fI->cp):eQ:=fun D δ n=>a (n5 b (D.dz δ)) (jG b δ) n fun w ax=>oJ b w (D.eT w ax)
theorem dA (ha:m8 K bF aC a):gi K bF (D_ aC) (aee b a):=⟨fun M {bC S H σ δ n D ea} s h k=>by
 refine ha.at s h k fun v H1 w ax t s1 au h1=>?_
 obtain ⟨bt,h2⟩:=au.oJ (s1.b.i0 false) h1
 exact k.eT _ _ _ _ ax t s1.b bt h2⟩
def Ti (b:Bool)(t:fI->dM)(p q:eQ):eQ:=fun D δ n=>t (n5 b (D.dz δ)) (jG b δ) n fun c ax=>fo c (p D δ ax) (q D δ ax)
theorem eh {tt:TT}{t u:cT}{mZ:fI->dM}{p q:eQ}(aH:vn K bF tt mZ)(ha:gi K bF t p)(hb:gi K bF u q):gi K bF (Ec tt t u) (Ti b mZ p q):=⟨fun M {bC S H σ δ n D ea} s h k=>by
 refine aH.at s h k fun c H1 ax t1 s1 h1=>?_
 cases c with
 | true=>exact ha.o M s1 h1 (k.kx t1 s.b.ok)
 | false=>exact hb.o M s1 h1 (k.kx t1 s.b.ok)⟩
def acC:eQ:=fun _ _ _=>False
theorem YA:gi K bF Dr acC:=⟨fun M {bC S H σ δ n D ea} s h k=>h.elim⟩
def aec (b:Bool)(i:Nat)(a:fI->cp):eQ:=fun D δ n=>a (n5 b (D.dz δ)) (jG b δ) n fun w ax=>oJ b w (D.nx (zs δ i w) ax)
theorem eV (ha:m8 K bF aC a):gi K bF (mW aC (kL i)) (aec b i a):=⟨fun M {bC S H σ δ n D ea} s h k=>by
 refine ha.at s h k fun v H1 w ax t s1 au h1=>?_
 obtain ⟨bt,h2⟩:=au.oJ (s1.b.i0 false) h1
 exact k.nx _ _ _ _ ax t (s1.set bt i) h2⟩
structure qU (K:ajA)(g:dX)(d1:d2):Prop where
 o:∀(M:cw K){bC:ah}{S:Addr->Prop}{H:ah}{σ:St}{δ:bc}{n:Nat}{v:V}{d:PyData}{Q:St->ah->Prop}{aK:bc->Nat->Prop},e6 M bC S H σ δ n->a7 (M.cY S false) H v d->d1 d δ n aK->(∀aE bw,e6 M bC S H aE bw n->aK bw n->Q aE H)->g v σ H Q
structure vl (K:ajA)(g:jk)(d1:pC):Prop where
 o:∀(M:cw K){bC:ah}{S:Addr->Prop}{H:ah}{σ:St}{δ:bc}{n:Nat}{aa:List V}{ds:ajz}{Q:St->ah->Prop}{aK:bc->Nat->Prop},e6 M bC S H σ δ n->aP (M.cY S false) H aa ds->d1 ds δ n aK->(∀aE bw,e6 M bC S H aE bw n->aK bw n->Q aE H)->g aa σ H Q
theorem i9 :qU K (kL i) (LK i):=⟨fun M {bC S H σ δ n v d Q aK} s b1 h k=>k _ _ (s.set b1.rw i) h⟩
theorem r6:vl K xQ ac4:=⟨fun M {bC S H σ δ n aa ds Q aK} s b1 h k=>by
 cases b1 with
 | nil=>exact ⟨rfl,k _ _ s h⟩
 | cons _ _=>exact h.elim⟩
theorem lr {r:jk}{Ma:pC}(hg:qU K g d1)(hr:vl K r Ma):vl K (uX g r) (aaL d1 Ma):=⟨fun M {bC S H σ δ n aa ds Q aK} s b1 h k=>by
 cases b1 with
 | nil=>exact h.elim
 | cons d t=>exact ⟨_,_,rfl,hg.o M s d h fun aE bw ar h1=>hr.o M ar t h1 k⟩⟩
theorem r5 {m:Nat}{g:jk}{d1:pC}(hg:vl K g d1):qU K (u5 K m g) (ac3 m d1):=⟨fun M {bC S H σ δ n v d Q aK} s b1 h k=>by
 replace h:yY m d (fun ds=>d1 ds δ n aK):=h
 replace h:=h.o;unfold Mj at h
 obtain ⟨ds,rfl,h⟩:=h
 obtain ⟨p,xs,rfl,hx,aD⟩:=b1.rw.fS
 exact ⟨p,xs,rfl,hx _ ((M.cY S false).cK _),by rw[aD.length];exact h.1,hg.o M s aD h.2 k⟩⟩
def aeh (b:Bool)(a:fI->cp)(g:d2):eQ:=fun D δ n=>a (n5 b (D.dz δ)) (jG b δ) n fun w ax=>match w with|.d d=>oJ b (.d d) (g d δ ax D.nx)|_=>False
theorem Dv (ha:m8 K bF aC a)(hg:qU K g d1):gi K bF (mW aC g) (aeh b a d1):=⟨fun M {bC S H σ δ n D ea} s h k=>by
 refine ha.at s h k fun v H1 w ax t s1 au h1=>?_
 match w,au,h1 with
 | .d d,au,h1=>
  obtain ⟨bt,h2⟩:=au.oJ (s1.b.i0 false) h1
  exact hg.o M s1 bt h2 fun aE bw ar aQ=>k.nx _ _ _ _ ax t ar aQ⟩
def aeg (b:Bool)(i:Nat)(f:Int->Int->Int)(a:fI->cp):eQ:=fun D δ n=>rK δ i fun v=>match v with
 | .d (.int x)=>a (n5 b (D.dz δ)) (jG b δ) n fun w ax=>match w with|.d (.int y)=>D.nx (zs δ i (.d (.int (f x y)))) ax|_=>False
 | _=>False
theorem g0.lk {l:ajG}{i:Nat}{d:PyData}(h:g0 M S H σ δ l)(e:L2.lk δ i=some (.d d)):∃v,σ[i]?=some (some v)/\cS (M.cY S false) H v (.d d):=by
 have z:∀(δ:bc)(i:Nat),L2.lk δ i=some (.d d)->L2.lk (jG false δ) i=some (.d d):=fun δ=>by
  induction δ with
  | nil=>intro i e;exact e
  | cons w δ bl =>
   intro i e
   cases i with
   | zero=>
    have aU:w=some (.d d):=e
    subst aU;rfl
   | succ i=>exact bl i e
 exact (h.re false).get (z δ i e)
theorem xn {f:Int->Int->Int}(ha:m8 K bF aC a):gi K bF (xJ i aC (zH f)) (aeg b i f a):=⟨fun M {bC S H σ δ n D ea} s h k=>by
 obtain ⟨h5,e,h⟩:=xu h
 match h5,e,h with
 | .d (.int x), e, h =>
  obtain ⟨l,r⟩:=s.r
  obtain ⟨v,ai,gq⟩:=r.lk e
  rw[gq.int_inv]at ai
  refine ⟨_,ai,ha.at s h k fun y H1 w ax t s1 au h1=>?_⟩
  match w,au,h1 with
  | .d (.int z),au,h1=>
   rw[au.int_inv]
   exact ⟨x,z,rfl,rfl,k.nx _ _ _ _ ax t (s1.set (a7.rw (.int _)) i) h1⟩⟩
end
section
variable {K:ajA}{bF:fZ}{M:cw K}{S cv fY:Addr->Prop}{H J H1 ag bC:ah}{n ao:Nat}{σ:St}{δ:bc}{D:Ends}{ea:jm}{b:Bool}
variable {g d1:d2}{xs:ajz}{aY:cT}{z:eQ}
def xB (g:d2)(b:eQ)(D:jm):List PyData->bc->Nat->Prop
 | [],δ,n=>D.nx δ n
 | x::xs,δ,n=>g x δ n fun bO a_=>b {D with nx:=xB g b D xs,cq:=xB g b D xs,d8:=D.nx} bO a_
def adE (g:d2)(b:eQ)(D:jm)(ds:ajz)(δ:bc)(n:Nat):Prop:=xB g b D ds δ n
structure lY (g:d2)(b:eQ)(D:jm)(ds:ajz)(δ:bc)(n:Nat):Prop where
 o:adE g b D ds δ n
theorem JG {b:eQ}{D:jm}{δ:bc}{n:Nat}:lY g b D [] δ n=D.nx δ n:=propext ⟨fun h=>h.o,fun h=>⟨h⟩⟩
theorem CH {b:eQ}{D:jm}:xB g b D xs=lY g b D xs:=by funext δ n;exact propext ⟨fun h=>⟨h⟩,fun h=>h.o⟩
theorem I8 {b:eQ}{D:jm}{x:PyData}{δ:bc}{n:Nat}:lY g b D (x::xs) δ n=g x δ n fun bO a_=>b {D with nx:=lY g b D xs,cq:=lY g b D xs,d8:=D.nx} bO a_:=by
 first|(rw[<-CH,<-CH];rfl)|(rw[<-CH];rfl)
theorem aah {g:dX}{bV:gZ}{ds:ajz}(hg:qU K g d1)(hb:gi K bF aY z)(s:e6 M bC S H σ δ n)(it:mh (M.cY S false) H bV ds)(h:lY d1 z ea ds δ n)(k:lG M bF bC S H ea D) :
  ∃W:Nat->Nat->St->ah->Prop,(∃m,W 0 m σ H)/\∀i m σ H,W i m σ H->(bV.stop i H/\D.nx σ H)\/(bV.go i H/\∃N:St->ah->Prop,(∀aE J,N aE J->∃cW,cW<m/\W (i+1) cW aE J)/\∀x J,bV.kB i H x J->g x σ J fun bZ ag=>aY {D with nx:=N,cq:=N,d8:=D.nx} bZ ag):=by
 refine ⟨fun i m aE J=>m=ds.length-i/\i<=ds.length/\∃cv bw ao,gj M S H cv J/\e6 M bC cv J aE bw ao/\lY d1 z ea (ds.drop i) bw ao,⟨ds.length,by simp,afY _,S,δ,n,.refl,s,h⟩,?_⟩
 rintro i m aE J ⟨rfl,hle,cv,bw,ao,t',ar,h'⟩
 have kk:=t'.aI s.b.ok
 obtain ⟨tm,is⟩:=it J (kk J ((M.cY cv false).cK _))
 by_cases dj:i<ds.length
 ·refine .inr ?_
  have e:ds[i]?=some ds[i]:=afQ dj
  rw[agJ dj,I8]at h'
  obtain ⟨g1,g2⟩:=tm i _ e
  refine ⟨g1,fun bZ ag=>∃fY bO a_,gj M S H fY ag/\e6 M bC fY ag bZ bO a_/\lY d1 z ea (ds.drop (i+1)) bO a_,fun bZ ag q=>⟨ds.length-(i+1),by lia,rfl,dj,q⟩,fun x ag hy=>?_⟩
  have key:∃(aI:(M.cY cv false).st J ag),(M.cY cv false).ok ag ao/\a7 (M.cY cv false) ag x ds[i]:=by
   rcases g2 x ag hy with ⟨rfl,b1⟩|⟨T,aa,aA,rfl,cG,rfl,eA,b1⟩
   ·exact ⟨(M.cY cv false).refl _,ar.b.i0 _,b1.imp kk⟩
   ·have e0:=bY cG (.tup aa)
    rw[eA]
    exact ⟨(M.cY cv false).same e0,(M.cY cv false).eC (ar.b.i0 _) e0,.tD (ar.b.i0 _) cG (b1.imp kk)⟩
  obtain ⟨aI,tI,b1⟩:=key
  obtain ⟨cj,s2⟩:=ar.step aI tI
  have t5:=t'.trans cj s.b.ok
  refine hg.o M s2 b1 h' fun jV sk s3 aQ=>?_
  exact hb.o M s3 aQ ⟨fun lI bK h_ mc cX gu s4 bS=>⟨lI,mc,cX,t5.trans gu s.b.ok,s4,bS⟩,(k.kx t5 s.b.ok).eT,fun lI bK h_ mc cX gu s4 bS=>k.nx lI bK h_ mc cX (t5.trans gu s.b.ok) s4 bS,fun lI bK h_ mc cX gu s4 bS=>⟨lI,mc,cX,t5.trans gu s.b.ok,s4,bS⟩,(k.kx t5 s.b.ok).dz⟩
 ·have e:i=ds.length:=by lia
  subst e
  rw[ahc,JG]at h'
  exact .inl ⟨is,k.nx cv J aE bw ao t' ar h'⟩
def aef (i:g4)(g:d2)(b:eQ):eQ:=fun D δ n=>i (jG false δ) n fun ds ax=>lY g b D ds δ ax
theorem r1 {cZ:TI}{g:dX}{i:g4}(hi:lJ K cZ i)(hg:qU K g d1)(hb:gi K bF aY z):gi K bF (Ed cZ g aY) (aef i d1 z):=⟨fun M {bC S H σ δ n D ea} s h k=>by
 obtain ⟨l,r⟩:=s.r
 refine hi.o (M.cY S false) (s.b.i0 _) (r.re false) h fun bV H1 ds ax k1 bM it h1=>?_
 obtain ⟨t1,s1⟩:=s.step k1 bM
 exact aah hg hb s1 it h1 (k.kx t1 s.b.ok)⟩
def acA (b:Bool)(c:dM)(z:eQ):eQ:=fun D δ n=>∃W:Nat->bc->Nat->Prop,(∃m,W m δ n)/\∀m δ n,W m δ n->
 c (jG b δ) n fun k ax=>fo k (∃N:bc->Nat->Prop,(∀bw ao,N bw ao->∃cW,cW<m/\W cW bw ao)/\z {D with nx:=N,cq:=N,d8:=D.nx} δ ax) (D.nx δ ax)
theorem CD {fB:TT}{c:dM}(hc:cL K fB c)(hb:gi K bF aY z):gi K bF (xl fB aY) (acA b c z):=⟨fun M {bC S H σ δ n D ea} s h k=>by
 obtain ⟨W,⟨m0,h5⟩,turn⟩:=h
 refine ⟨fun m aE J=>∃cv bw ao,gj M S H cv J/\e6 M bC cv J aE bw ao/\W m bw ao,⟨m0,S,δ,n,.refl,s,h5⟩,?_⟩
 rintro m aE J ⟨cv,bw,ao,t',ar,dn⟩
 obtain ⟨l,r⟩:=ar.r
 refine hc.o (M.cY cv b) (ar.b.i0 _) (r.re b) (turn m bw ao dn) fun kX H1 ax k1 bM h1=>?_
 obtain ⟨t1,s1⟩:=ar.step k1 bM
 have rG:=t'.trans t1 s.b.ok
 cases kX with
 | true =>
  obtain ⟨N,hN,h1⟩:=h1
  rw[afD rfl]
  refine ⟨fun bZ ag=>∃fY bO a_,gj M S H fY ag/\e6 M bC fY ag bZ bO a_/\N bO a_,fun bZ ag ⟨fY,bO,a_,a1,a2,m9⟩=>?_,?_⟩
  ·obtain ⟨cW,hm,jI⟩:=hN bO a_ m9
   exact ⟨cW,hm,fY,bO,a_,a1,a2,jI⟩
  ·exact hb.o M s1 h1 ⟨fun lI bK h_ mc cX gu s4 bS=>⟨lI,mc,cX,rG.trans gu s.b.ok,s4,bS⟩,(k.kx rG s.b.ok).eT,fun lI bK h_ mc cX gu s4 bS=>k.nx lI bK h_ mc cX (rG.trans gu s.b.ok) s4 bS,fun lI bK h_ mc cX gu s4 bS=>⟨lI,mc,cX,rG.trans gu s.b.ok,s4,bS⟩,(k.kx rG s.b.ok).dz⟩
 | false=>
  rw[afC afT]
  exact k.nx cv H1 aE bw ax rG s1 h1⟩
end
section
variable {K:ajA}{bF:fZ}{M:cw K}{S cv fY:Addr->Prop}{H J H1 ag bC:ah}{n ao:Nat}{σ:St}{δ:bc}{D:Ends}{ea:jm}{b:Bool}
variable {mg:ajy}{st:Stmt}{m:Nat}{P:Program}{w:World}{base:Heap}
def acB (b:Bool)(x:Str)(ns:ajD)(a:eP):eQ:=fun D δ n=>a (jG b δ) n fun ws ax=>sG ws fun ds=>ry b ds (D.dz δ x ns ds ax)
theorem jJ {x qual f g:Str}{C B dK:Addr}{fd:FuncData}{t:cP}{a:eP}(X:lK K mg x qual st [f,g] C B dK fd)(ha:e7 K m t a)(hm:m=2:=by rfl):gi K bF (K3 C (sf K f g) bF t) (acB b x [f,g] a):=⟨fun M {bC S H σ δ n D ea} s h k=>by
 obtain ⟨l,r⟩:=s.r
 refine ha.o (M.cY S b) (s.b.i0 _) (r.re b) h fun aa H1 ws ax k1 bM au hl h1=>?_
 obtain ⟨ds,e,h1⟩:=xH h1
 obtain ⟨t1,s1⟩:=s.step k1 bM
 obtain ⟨eH,h1⟩:=aP.ry (s1.b.i0 false) (au.iQ e) h1
 subst hm
 rcases au with _|⟨_,_|⟨_,_|_⟩⟩<;>try(cases hl;done)
 exact XK X (by simp) (by simp) (k.dz S H1 σ δ ax x [f,g] _ ds t1 s1 eH (by assumption))⟩
theorem cI.Au {l:Unit}(h:cI M H σ δ):g0 M (fun _=>False) H σ δ []:=by
 have k:∀ag,(M.cY (fun _=>False) false).aI H ag->M.aI H ag:=fun ag e=>by
  have:=e.1
  rw[Cx (S:=fun _=>False) (fun _ z=>z.elim),Cx (S:=fun _=>False) (fun _ z=>z.elim)]at this;exact this
 induction h with
 | nil=>exact .nil
 | cons r _ bl=>exact .cons (r.imp k rfl rfl) bl
theorem e6.start (ok:M.ok H n)(re:cI M H σ δ):e6 M H (fun _=>False) H σ δ n:=by
 have e:cC (fun _=>False) H=H:=Cx fun _ z=>z.elim
 exact ⟨⟨⟨n,ok⟩,fun _ z=>z.elim,by rw[e];exact M.refl _,by rw[e];exact ok,fun _ z=>z.elim⟩,[],re.Au (l:=())⟩
theorem lG.start {aK:b7}{Q:bW}{jl:fI}{E:fg}(k:ib M H aK Q)(pY:m5 M H jl E):lG M (fun _=>E) H (fun _=>False) H {nx:=fun _ ao=>aK (.d .none) ao,eT:=aK,dz:=fun _=>jl} {nx:=fun _ J=>Q .bz J,eT:=Q}:=
  ⟨fun cv J σ δ ao t s h=>k _ J _ ao (M.trans s.b.st (M.same nP)) (M.eC s.b.ok nP) (a7.rw .bz) h,
   fun cv J v w ao t s r h=>k v J w ao (M.trans s.st (M.same nP)) (M.eC s.ok nP) (r.imp s.out rfl rfl) h,
   fun _ _ _ _ _ _ _ h=>h.elim,fun _ _ _ _ _ _ _ h=>h.elim,
   fun cv J σ δ ao x ns aa ds t s d h=>pY x ns aa ds J ao (M.trans s.b.st (M.same nP)) (M.eC s.b.ok nP) (d.imp s.b.out) h⟩
abbrev ER:fI:=fun _ _ _ _=>False
theorem Def.fM {y x:Str}{N av:ajD}{n:Nat}{z:dv}(T:Src K mg y x st)(S:b0 N av (bu st))(len:∀ws n Q,z ws n Q->ws.length=av.length)
  (hb:∀(cQ doc pm:Value)(an:ajF)(a6 cq:Value)(us:ajC),us.length=av.length->bindArgs (PySem.W.fnOf x x (iz st) (gc st) (bu st) .none cQ doc pm an a6 cq) ⟨us,[]⟩=pure (av.zip us))
  (kf:∀(f:Addr)(a6:Value)(A:Around)(outer:List Env)(s:Shared)(H:ah)(E:fg),dI n (A.deeper (envOfC x (bu st) s.heap.objs.size f a6))->
   ∃t mZ,ic (jc hz P w K mg base N x (bu st) f a6 A outer s H E).p2 (gc st) t/\gi K (fun _=>fV) t mZ/\∀ws n Q,z ws n Q->mZ {nx:=fun _ ao=>Q (.d .none) ao,eT:=Q,dz:=fun _=>ER} (r0 N.length ws) n):Def P w K mg base y av (n+1) (iF K z):=
 Def.c8 T S (fun aa H Q E ⟨M,ws,m,aK,ok,r,h,k⟩=>r.length.trans (len ws m aK h)) hb fun f a6 A outer s H aa Q E hr ⟨M,ws,m,aK,ok,r,h,k⟩=>by
  obtain ⟨t,mZ,q,e0,i2⟩:=kf f a6 A outer s H E hr
  exact ⟨t,q,e0.o M (.start ok r.start) (i2 ws m aK h) (.start k fun _ _ _ _ _ _ _ _ _ z=>z.elim)⟩
theorem eY.fM {y x:Str}{N av:ajD}{n:Nat}{z:iH}(T:Src K mg y x st)(S:b0 N av (bu st))(len:∀ws n Q X,z ws n Q X->ws.length=av.length)
  (hb:∀(cQ doc pm:Value)(an:ajF)(a6 cq:Value)(us:ajC),us.length=av.length->bindArgs (PySem.W.fnOf x x (iz st) (gc st) (bu st) .none cQ doc pm an a6 cq) ⟨us,[]⟩=pure (av.zip us))
  (kf:∀(f:Addr)(a6:Value)(A:Around)(outer:List Env)(s:Shared)(H:ah)(E:fg),dI n (A.deeper (envOfC x (bu st) s.heap.objs.size f a6))->
   ∃t mZ,ic (jc (m1 P w) P w K mg base N x (bu st) f a6 A outer s H E) (gc st) t/\gi K (fun _=>E) t mZ/\∀ws n Q X,z ws n Q X->mZ {nx:=fun _ ao=>Q (.d .none) ao,eT:=Q,dz:=fun _=>X} (r0 N.length ws) n):eY P w K mg base y av (n+1) (jR K z):=
 eY.c8 T S (fun aa H Q E ⟨M,ws,m,aK,jl,ok,r,h,k,pY⟩=>r.length.trans (len ws m aK jl h)) hb fun f a6 A outer s H aa Q E hr ⟨M,ws,m,aK,jl,ok,r,h,k,pY⟩=>by
  obtain ⟨t,mZ,q,e0,i2⟩:=kf f a6 A outer s H E hr
  exact ⟨t,q,e0.o M (.start ok r.start) (i2 ws m aK jl h) (.start k pY)⟩
theorem adI {ts:cT}{s:eQ}(e0:gi K (fun _=>fV) ts s){t:V}{H1:ah}{σ:St}{v:Option V}{D:Ends}(om:eE H1 t m)(bq:∀J,D.eT (.aG true) J)(i2:s {nx:=fun _ _=>False,eT:=fun w _=>w=.d (.bool true),dz:=fun _=>ER} (none::some (.t 2)::σ.map fun _=>none) m):ts D (v::some t::σ) H1:=
 e0.o (Io K t) (.start (M:=Io K t) om (.cons (w:=none) trivial (.cons (w:=some (.t 2)) ⟨_,rfl,rfl,rfl⟩ (cI.forget σ)))) i2 ⟨fun _ _ _ _ _ _ _ h=>h.elim,fun cv J v w ao k o r h=>by subst h;rw[r.E4];exact bq J,fun _ _ _ _ _ _ _ h=>h.elim,fun _ _ _ _ _ _ _ h=>h.elim,fun _ _ _ _ _ _ _ _ _ _ _ _ h=>h.elim⟩
theorem Lb {g:d2}{b:eQ}{D:jm}(P:Nat->bc->Nat->Prop):∀{ds:ajz}{δ:bc}{n k:Nat},P k δ n->
  (∀(i:Nat)(d:PyData)(δ:bc)(n:Nat)(R:bc->Nat->Prop),ds[i]?=some d->P (k+i) δ n->(∀bw ao,P (k+i+1) bw ao->R bw ao)->g d δ n fun bO a_=>b {D with nx:=R,cq:=R,d8:=D.nx} bO a_)->
  (∀(δ:bc)(n:Nat),P (k+ds.length) δ n->D.nx δ n)->lY g b D ds δ n
 | [],δ,n,k,h,_,e=>by rw[JG];exact e δ n h
 | d :: ds, δ, n, k, h, s, e => by
  rw[I8]
  refine s 0 d δ n _ rfl h fun bw ao p=>?_
  refine Lb P (k:=k+1) p (fun i d δ n R hd hp dF=>?_) (fun δ n hp=>e δ n ?_)
  ·refine s (i+1) d δ n R hd (by rw[show k+(i+1)=k+1+i by lia];exact hp) fun bw ao q=>dF bw ao ?_
   rw[show k+1+i+1=k+(i+1)+1 by lia];exact q
  ·rw[afX,show k+(ds.length+1)=k+1+ds.length by lia];exact hp
theorem rW {g:d2}{b:eQ}{D:jm}(P:Nat->bc->Nat->Prop){ds:ajz}{δ:bc}{n:Nat}(h:P 0 δ n)
  (s:∀(i:Nat)(d:PyData)(δ:bc)(n:Nat)(R:bc->Nat->Prop),ds[i]?=some d->P i δ n->(∀bw ao,P (i+1) bw ao->R bw ao)->g d δ n fun bO a_=>b {D with nx:=R,cq:=R,d8:=D.nx} bO a_)
  (e:∀(δ:bc)(n:Nat),P ds.length δ n->D.nx δ n):lY g b D ds δ n:=
 Lb P (k:=0) h (fun i d δ n R hd hp dF=>s i d δ n R hd (by rwa [age]at hp) fun bw ao q=>dF bw ao (by rwa [age])) (fun δ n hp=>e δ n (by rwa [age]at hp))
end
variable {n:Int}{g5 av:ajH}{d:PyData}{k:Nat}
def ow (n:Nat)(k:Nat):Nat:=Nat.rec 0 (fun d r=>cond (Nat.beq (Nat.mod n (Nat.succ d)) 0) (Nat.succ r) r) k
def yH (k:Nat):Bool:=Nat.rec true (fun m r=>cond (Nat.ble (ow (Nat.mul 2 m) (Nat.mul 2 m)) 40) r false) k
set_option maxRecDepth 1000000 in
theorem acU:yH 501=true:=by decide +kernel
theorem KA:∀{k m:Nat},yH k=true->m<k->ow (2*m) (2*m)<=40
 | 0,_,_,h=>absurd h (ahe _)
 | k+1, m, e, h => by
  have aU:cond (Nat.ble (ow (2*k) (2*k)) 40) (yH k) false=true:=e
  cases c:Nat.ble (ow (2*k) (2*k)) 40 with
  | false=>rw[c]at aU;cases aU
  | true=>
   rw[c]at aU
   by_cases z:m=k
   ·subst z;exact Nat.le_of_ble_eq_true c
   ·exact KA (k:=k) aU ⋯
theorem La (n:Nat):∀i,(p6 (n:Int) i).length<=ow n i
 | 0=>by show ([]:ajH).length<=_;exact afY _
 | i+1 => by
  have bl:=La n i
  have e:ow n (i+1)=cond (Nat.beq (n%(i+1)) 0) (ow n i+1) (ow n i):=rfl
  rw[YZ,afZ,e]
  by_cases h:(n:Int)%(2+(i:Int)-1)=0/\kO (2+(i:Int))=true
  ·rw[afD h]
   have h1:n%(i+1)=0:=by
    have:=h.1
    rw[show (2+(i:Int)-1)=((i+1:Nat):Int) by lia]at this
    exact_mod_cast this
   rw[h1];show _+1<=_+1;lia
  ·rw[afC h]
   show _+0<=_
   cases Nat.beq (n%(i+1)) 0<;>simp<;>lia
theorem acv (h0:0<=n)(h:n<=1000):(dH n).length<=40:=by
 obtain ⟨m,rfl⟩:∃m:Nat,n=(m:Int):=⟨n.toNat,by lia⟩
 unfold dH
 split
 ·decide
 split
 ·decide
 ·have:=La m m
  have c:=KA (m:=m/2) acU ⋯
  rw[show 2*(m/2)=m by lia]at c
  rw[ago];lia
theorem Y0 (h0:0<=n)(h:n<=1000):∀p∈dH n,2<=p/\p<1024:=fun p hp=>by have:=C_ hp;lia
theorem K8:∀i,(fb i).Pairwise (·<·)
 | 0=>.nil
 | i+1 => by
  show (fb i++_).Pairwise _
  refine List.pairwise_append.mpr ⟨K8 i,?_,fun a ha b hb=>?_⟩
  ·split<;>simp
  ·have h1:=w_ ha
   split at hb
   ·rw[af2.mp hb];lia
   ·cases hb
theorem acs (n:Int):(dH n).Pairwise (·<·):=by
 unfold dH
 split
 ·simp
 split
 ·simp
 ·exact (K8 _).filter _
theorem Dk:∀{ds av:ajH},ds.Pairwise (·<·)->av.Pairwise (·<·)->(∀p∈av,p∈ds)->av.length<=ds.length/\(av.length=ds.length->av=ds)
 | [],av,_,_,h=>by
  cases av with
  | nil=>exact ⟨afE _,fun _=>rfl⟩
  | cons p av=>exact absurd (h p af6) (by simp)
 | d::ds,[],_,_,_=>⟨afY _,fun e=>by cases e⟩
 | d :: ds, p :: av, hd, hp, h => by
  obtain ⟨zk,hd2⟩:=List.pairwise_cons.mp hd
  obtain ⟨ri,eK⟩:=List.pairwise_cons.mp hp
  rcases afP.mp (h p af6) with rfl|hm
  ·have bl:=Dk hd2 eK fun q aM=>by
    rcases afP.mp (h q (af5 _ aM)) with rfl|z
    ·exact absurd (ri _ aM) (Int.lt_irrefl _)
    ·exact z
   refine ⟨by rw[afX,afX];lia,fun e=>by rw[bl.2 (by rw[afX,afX]at e;lia)]⟩
  ·have lt:=zk p hm
   have bl:=Dk hd2 hp fun q aM=>by
    rcases afP.mp (h q aM) with rfl|z
    ·rcases afP.mp aM with e|aM
     ·rw[e]at lt;exact absurd lt (Int.lt_irrefl _)
     ·exact absurd (Int.lt_trans lt (ri _ aM)) (Int.lt_irrefl _)
    ·exact z
   have eL:=bl.1
   exact ⟨by show _<=ds.length+1;lia,fun e=>by have aU:(p::av).length=ds.length+1:=e;lia⟩
def j4 (g5 av:ajH)(k:Nat):Bool:=!(g5.contains (av.getD k 0)) || (decide (0<k)&&decide (av.getD k 0<=av.getD (k-1) 0))
def sI (g5 av:ajH):Option Nat:=(List.range av.length).find? (j4 g5 av)
theorem acZ (h:sI g5 av=none):av.Pairwise (·<·)/\∀p∈av,p∈g5:=by
 have key:∀k,k<av.length->g5.contains (av.getD k 0)=true/\(0<k->av.getD (k-1) 0<av.getD k 0):=fun k hk=>by
  have:=List.find?_eq_none.mp h k (afU.mpr hk)
  simp only[j4,ag3,Bool.not_eq_true',afM,agU]at this
  refine ⟨by cases e:g5.contains (av.getD k 0) with|true=>rfl|false=>exact absurd (.inl e) this,fun k0=>?_⟩
  by_cases c:av.getD k 0<=av.getD (k-1) 0
  ·exact absurd (.inr ⟨k0,c⟩) this
  ·lia
 refine ⟨?_,fun p hp=>?_⟩
 ·refine List.pairwise_iff_getElem.mpr fun i j hi hj hij=>?_
  have st:∀m,i+1+m<av.length->av.getD i 0<av.getD (i+1+m) 0:=fun m=>by
   induction m with
   | zero=>intro hm;exact (key (i+1) hm).2 ⋯
   | succ m bl=>
    intro hm
    have a:=bl ⋯
    have b:=(key (i+1+(m+1)) hm).2 ⋯
    rw[show i+1+(m+1)-1=i+1+m by lia]at b
    lia
  have:=st (j-i-1) ⋯
  rw[show i+1+(j-i-1)=j by lia]at this
  rw[afO,afQ hi,afO,afQ hj]at this
  exact this
 ·obtain ⟨i,hi,rfl⟩:=List.mem_iff_getElem.mp hp
  have:=(key i hi).1
  rw[afO,afQ hi]at this
  exact agp.mp this
theorem Js (av:ajH):ef (.tuple (av.map PyData.int))=true:=by
 simp only[ef]
 exact uo fun d hd=>by obtain ⟨i,_,rfl⟩:=agd.mp hd;rfl
noncomputable def vr (n:Int)(x:Rat)(w:Int)(av:ajH):Option (Str×Int):=match sI (dH n) av with
 | some k=>some (("prime":Str),(k:Int))
 | none=>if av.length=(dH n).length then (if gf x av=(w:Rat) then none else some (("sum":Str),0)) else some (("many":Str),0)
def q0:PyData->Bool
 | .tuple [a,b]=>el a&&hO b
 | _=>false
def vh (n:Int)(x:Rat)(d:PyData)(an:Option (Str×Int)):Prop:=(q0 d=false/\an=some (("shape":Str),(0:Int)))\/∃(w:Int) (av:ajH),d=.tuple [.int w,.tuple (av.map PyData.int)]/\an=vr n x w av
theorem JZ (p:Int):∀g5:List Int,((g5.map PyData.int).any fun d=>lP d (.int p))=g5.contains p
 | []=>rfl
 | d::ds=>by
  rw[af8,agY,ajc,JZ p ds]
  show ((d == p) || _)=((p == d) || _)
  rw[show (d == p)=(p == d) from by rw[agO,agC,agC];exact ⟨Eq.symm,Eq.symm⟩]
theorem xp {neg:Bool}{p:Int}{n:Nat}{Q:b7}(h:Q (.d (.bool (if neg then !(g5.contains p) else g5.contains p))) n):yU neg (.d (.int p)) (.d (.tuple (g5.map PyData.int))) n Q:=
 abT ⟨rfl,by rw[aiC];exact afR.mpr fun _ _=>rfl⟩ (by rw[JZ];exact h)
theorem aaK:∀av:List Int,hO (.tuple (av.map PyData.int))=true:=fun av=>by
 show ((av.map PyData.int).all el)=true
 rw[aiC];exact afR.mpr fun _ _=>rfl
theorem Je {i:Nat}(h:(ma (av.map PyData.int) 0)[i]?=some d):i<av.length/\d=.tuple [.int (i:Int),.int (av.getD i 0)]:=by
 rw[wQ,af1]at h
 cases e:av[i]? with
 | none=>rw[e]at h;cases h
 | some p=>
  rw[e]at h
  have hi:=(agf.mp e).1
  refine ⟨hi,?_⟩
  rw[afO,e]
  rw[age]at h
  exact (agq h).symm
theorem o3 (h:k<av.length):ez (av.map PyData.int) (k:Int)=some (.int (av.getD k 0)):=mQ (by
 rw[af1,afO,afQ h];rfl)
theorem ac0 (hk:k<av.length)(h:j4 g5 av k=true)(hj:∀j,j<k->j4 g5 av j=false):sI g5 av=some k:=Xt hk h hj
theorem Zm (hj:∀j,j<av.length->j4 g5 av j=false):sI g5 av=none:=X9 hj
theorem aaE {w:Int}:q0 (.tuple [.int w,.tuple (av.map PyData.int)])=true:=aaK av
theorem aaF (h:q0 d=true):∃(w:Int) (av:ajH),d=.tuple [.int w,.tuple (av.map PyData.int)]:=by
 match d,h with
 | .tuple [a, b], h =>
  have h':(el a&&hO b)=true:=h
  rw[afM]at h'
  match a,b,h' with
  | .int w,.tuple ds,h'=>
   have h2:ds.all el=true:=h'.2
   refine ⟨w,ds.map fun d=>match d with|.int i=>i|_=>0,?_⟩
   congr 1;congr 1;congr 1;congr 1
   rw[agN]
   refine (ah2 ds).symm.trans (ag4 fun d hd=>?_)
   have:=afR.mp h2 d hd
   match d,this with
   | .int i,_=>rfl
theorem Y_ (a b:ajH):PyData.eqv (.tuple (a.map PyData.int)) (.tuple (b.map PyData.int))=decide (a=b):=by simp only[PyData.eqv];exact w2 a b
theorem je.ints (a b:ajH):je (.tuple (a.map PyData.int)) (.tuple (b.map PyData.int)):=⟨by simp only[PyData.canLay0];exact qo a,by simp only[PyData.canLay0];exact qo b,by simp only[PyData.depth];have:=uy a;lia⟩
theorem KP (n:Int)(x:Rat)(d:PyData):∃an,vh n x d an:=by
 cases h:q0 d with
 | false=>exact ⟨_,.inl ⟨h,rfl⟩⟩
 | true=>obtain ⟨w,av,rfl⟩:=aaF h;exact ⟨_,.inr ⟨w,av,rfl,rfl⟩⟩
theorem aeq {m:Int}{x:Rat}{an:Option (Str×Int)}(h:vh m x d an)(hl:∀(w:Int)(av:ajH),d=.tuple [.int w,.tuple (av.map PyData.int)]->av.length<=10000):∀w k,an=some (w,k)->w∈[("shape":Str),"prime","many","sum"]/\0<=k/\k<=10000:=fun w k e=>by
 rcases h with ⟨_,aq⟩|⟨dn,av,rfl,aq⟩
 ·rw[aq]at e;cases e;exact ⟨by simp,by decide,by decide⟩
 ·have hl:=hl dn av rfl
  unfold vr at aq
  cases hb:sI (dH m) av with
  | some j=>
   rw[hb]at aq;rw[aq]at e;cases e
   have:=afU.mp (List.mem_of_find?_eq_some hb)
   exact ⟨by simp,by lia,by lia⟩
  | none =>
   rw[hb]at aq
   have iR:an=if av.length=(dH m).length then (if gf x av=(dn:Rat) then none else some (("sum":Str),0)) else some (("many":Str),0):=aq
   rw[iR]at e
   by_cases c:av.length=(dH m).length
   ·rw[afD c]at e
    by_cases cB:gf x av=(dn:Rat)
    ·rw[afD cB]at e;cases e
    ·rw[afC cB]at e;cases e;exact ⟨by simp,by decide,by decide⟩
   ·rw[afC c]at e;cases e;exact ⟨by simp,by decide,by decide⟩
theorem Yn:bootBuiltins "sorted"=some (.builtin "sorted"):=by decide +kernel
section
variable {X:aO}
def Dy (K:ajA):List V->ah->bW->Prop:=fun xs H Q=>∃(p:Addr) (ns:ajH),xs=[.ref p]/\(bP K H p (ns.map V.int)\/bp K H p (ns.map V.int))/\ns.length<64/\∀ew:List Int,ew.Perm ns->ew.Pairwise (·<=·)->∀D,H D=none->Q (.ref D) (upd H D (.lst (ew.map V.int)))
theorem Xv {K:ajA}(bL:X.K=K):fE X (.builtin "sorted") (Dy K):=by
 subst bL
 intro pins s σ H xs us Q I r h
 obtain ⟨p,ns,rfl,hs,oB,q⟩:=h
 obtain ⟨u,rfl,fz⟩:=iB r
 cases fz
 have key:∃(T:String) (o:Obj) (its:ajC) (n:Nat),(T="list"\/T="tuple")/\Vals (ns.map V.int) its/\s.heap.get? p=some o/\o.cls=.type T/\o.data=.seq its.toArray n:=by
  rcases hs with hs|hs
  ·obtain ⟨its,bg,bX,_⟩:=I.list hs
   obtain ⟨o,e,c,n,d⟩:=bX.isList
   exact ⟨"list",o,its,n,.inl rfl,bg,e,c,d⟩
  ·obtain ⟨its,bg,bX,_⟩:=I.tuple hs
   obtain ⟨o,e,c,n,d⟩:=(show s.heap.IsTuple p its.toArray from bX)
   exact ⟨"tuple",o,its,n,.inr rfl,bg,e,c,d⟩
 obtain ⟨T,o,its,n,cG,bg,ho,hc,hd⟩:=key
 have hl:its.length=ns.length:=by rw[<-bg.length,afG]
 have kb:IntsAre its ns:=Xr bg
 refine Calls.call_function_entry kind_sorted plain_sorted entry_sorted (args_sorted1 _) ?_
 unfold Builtin.«sorted»
 refine afB (m:=checkCount "sorted" 1 1 _) (afF ?_)
 refine afB (wpAny_collect_seq p cG ho hc hd (fun h' kept=>?_) (by rw[afN,afW];lia))
 show wpAny _ _ _ _ _ {s with heap:=h'}
 refine afB (wpAny_newList ?_)
 have rh:(h'.push (seqObj "list" its.toArray 0)).get? h'.objs.size=some (seqObj "list" its.toArray 0):=af3 _ rfl
 refine afB (agB (agQ slot_list_sort ⟨_,rh,rfl⟩ entry_list_sort (list_sort_tree rh kb ⋯ fun out ew a1 a2 m9=>⟨_,rfl,?_⟩) (args_list_sort _)))
 obtain ⟨e,he⟩:=sortedHeap_at (out:=out) rh
 obtain ⟨m,hn,_⟩:=I.loc
 obtain ⟨z_,_,_,eZ,_⟩:=id hn
 have cR:∀b b2,s.heap.get? b=some b2->(sortedHeap (h'.push (seqObj "list" its.toArray 0)) h'.objs.size its out).get? b=some b2:=fun b b2 z=>by
  have hb:=afH (kept b b2 z)
  rw[sortedHeap_old (af4 hb) (by rw[size_push'];exact aio hb)]
  exact afL _ (kept b b2 z)
 have al:∀q∈nX mA s.heap X.env.locals,s.heap.get? q.1=some q.2:=fun q aM=>(JI q aM).1
 have N:News mA X.env.locals (sortedHeap (h'.push (seqObj "list" its.toArray 0)) h'.objs.size its out) ((h'.objs.size,PySem.W.listOf out.toList.toArray e)::nX mA s.heap X.env.locals):=fun q aM=>by
  rcases afP.mp aM with rfl|aM
  ·refine ⟨by rw[Array.toArray_toList];exact he,ahF (afH (kept _ _ eZ)),rfl⟩
  ·obtain ⟨aL,bU,df⟩:=JI q aM
   exact ⟨cR _ _ aL,bU,df⟩
 have Wv:Vals (ew.map V.int) out.toList:=Cs a1
 have ln:ew.length=ns.length:=a2.length_eq
 obtain ⟨ft,bV⟩:=I.newList (xs:=ew.map V.int) (its:=out.toList) (tk:=s.toks) hn ((I.F9 hn).kept cR) N (fun q aM=>afH (kept _ _ (al q aM))) (by rw[afG,afW];lia) Wv
 exact afF ⟨_,rfl,.ref h'.objs.size,_,bV,rfl,q ew a2 m9 _ ft⟩
end
section
variable {K:ajA}
variable {m:Nat}{t:cP}{a:eP}
def Ky:List a4->Nat->b7->Prop:=fun ws n Q=>(∃ds,ws=[.d (.tuple ds)]/\(∃ns:List Int,ds=ns.map PyData.int/\ns.length<64/\∀ew:List Int,ew.Perm ns->ew.Pairwise (·<=·)->Q (.d (.list (ew.map PyData.int))) n))\/(∃ds,ws=[.d (.list ds)]/\(∃ns:List Int,ds=ns.map PyData.int/\ns.length<64/\∀ew:List Int,ew.Perm ns->ew.Pairwise (·<=·)->Q (.d (.list (ew.map PyData.int))) n))
structure yX (ws:List a4)(n:Nat)(Q:b7):Prop where
 o:Ky ws n Q
theorem ZJ {ns:ajH}{n:Nat}{Q:b7}(h:ns.length<64)(q:∀ew:List Int,ew.Perm ns->ew.Pairwise (·<=·)->Q (.d (.list (ew.map PyData.int))) n):yX [.d (.tuple (ns.map PyData.int))] n Q:=⟨.inl ⟨_,rfl,ns,rfl,h,q⟩⟩
theorem ux {M:cw K}{H:ah}:∀ns:List Int,aP M H (ns.map V.int) (ns.map PyData.int)
 | []=>.nil
 | i::ns=>.cons (.int i) (ux ns)
theorem YG (ha:e7 K m t a):oi K (nI (Dy K) t) (CS yX a):=⟨fun M {σ δ H n Q aK} ok re h k=>by
 refine ha.o M ok re h fun aa H1 ws ax k1 bM au hl h1=>?_
 replace h1:=h1.o;unfold Ky at h1
 rcases h1 with ⟨ds,rfl,h⟩|⟨ds,rfl,h⟩
 ·replace au:=au.inv1;obtain ⟨v1,rfl,r⟩:=au
  obtain ⟨ns,rfl,oB,q⟩:=h
  obtain ⟨p,xs,rfl,hx,aD⟩:=r.fS
  rw[aD.ints]at hx
  exact ⟨p,ns,rfl,.inr (hx _ (M.cK _)),oB,fun ew a b D bq=>k D H1 _ _ ax k1 bM bq (ux ew) (q ew a b)⟩
 ·replace au:=au.inv1;obtain ⟨v1,rfl,r⟩:=au
  obtain ⟨ns,rfl,oB,q⟩:=h
  obtain ⟨p,xs,rfl,hx,aD⟩:=r.lst_inv
  rw[aD.ints]at hx
  exact ⟨p,ns,rfl,.inl (bP.of (hx _ (M.cK _))),oB,fun ew a b D bq=>k D H1 _ _ ax k1 bM bq (ux ew) (q ew a b)⟩⟩
theorem YB (ha:e7 K m t a):a9 K (nI (Dy K) t) (CS yX a):=(YG ha).e
def ad3 (a:cp):cp:=fun δ n Q=>a δ n fun w ax=>match w with|.d (.int j)=>(-(2^62)<=j/\j<2^62/\j.toNat<=10000)/\Q (.d (.list (kM 0 j.toNat))) ax|_=>False
theorem abQ (j:Nat):(pf 0 j).map PyData.int=kM 0 j:=by
 unfold pf kM
 rw[agN];rfl
theorem abN {aC:TE}{a:cp}(ha:a9 K aC a):oi K (nI (fun xs H Q=>∃r a b,xs=[.ref r]/\H r=some (.mE a b)/\-(2^62)<=a/\a<2^62/\-(2^62)<=b/\b<2^62/\(b-a).toNat<=10000/\∀l,H l=none->Q (.ref l) (upd H l (.lst ((pf a (b-a).toNat).map V.int)))) (r_ (nI (fun xs H Q=>∃b,xs=[.int b]/\∀r,H r=none->Q (.ref r) (upd H r (.mE 0 b))) (r_ aC se)) se)) (ad3 a):=⟨fun M {σ δ H n Q aK} ok re h k=>by
 refine ha.o M ok re h fun v H1 w ax k1 bM au h1=>?_
 match w,au,h1 with
 | .d (.int j),au,h1=>
  rw[au.int_inv]
  refine ⟨j,rfl,fun r hr=>⟨r,0,j,rfl,bo,by decide,by decide,h1.1.1,h1.1.2.1,by rw[Int.sub_zero];exact h1.1.2.2,fun l hl=>?_⟩⟩
  have s1:=bY hr (.mE 0 j)
  rw[Int.sub_zero]
  refine k l _ _ (kM 0 j.toNat) ax (M.trans k1 (M.same s1)) (M.eC bM s1) hl ?_ h1.2
  rw[<-abQ];exact ux _⟩
end
def cH:PyData->Int
 | .int i=>i
 | _=>0
def iD (ns:ajH):Bool:=(List.range ns.length).all fun i=>ns.contains (i:Int)
def si (ns:ajH):Bool:=(List.range (ns.length-2)).all fun k=>decide (ns.getD k 0<ns.getD (k+1) 0) != decide (ns.getD (k+1) 0<ns.getD (k+2) 0)
def adf (ns:ajH):Bool:=iD ns&&si ns
def adT (ns:ajH):Bool:=adf ns&&(decide (ns.length<2) || decide (ns.getD 1 0<ns.getD 0 0))
def qH:PyData->Bool
 | .tuple ds=>ds.all el&&adT (ds.map cH)
 | _=>false
theorem wX {ds:ajz}(h:ds.all el=true):ds=(ds.map cH).map PyData.int:=by
 rw[agN]
 refine (ah2 ds).symm.trans (ag4 fun d hd=>?_)
 have:=afR.mp h d hd
 match d,this with
 | .int i,_=>rfl
def ll (n:Nat):List Int:=(List.range n).map fun (i:Nat)=>(i:Int)
theorem C6 (n:Nat):(ll n).length=n:=by unfold ll;simp
theorem adm (n:Nat):kM 0 n=(ll n).map PyData.int:=by
 unfold kM ll
 rw[agN]
 refine ag4 fun i _=>?_
 show PyData.int (0+(i:Int))=PyData.int (i:Int)
 rw[ahg]
theorem CG {eL:ajH}:∀{gp:ajH},eL.Nodup->(∀a∈eL,a∈gp)->gp.length<=eL.length->eL.Perm gp:=by
 induction eL with
 | nil=>intro gp _ _ h;rw[List.length_eq_zero_iff.mp (Nat.le_zero.mp h)]
 | cons a t bl =>
  intro gp hn hs hl
  obtain ⟨h1,h2⟩:=ahI.mp hn
  have ha:=hs a af6
  have p:=List.perm_cons_erase ha
  refine List.Perm.trans (List.Perm.cons a (bl h2 (fun b hb=>?_) ?_)) p.symm
  ·exact (List.mem_erase_of_ne (show b≠a from fun e=>h1 (by rw[<-e];exact hb))).mpr (hs b (af5 _ hb))
  ·rw[List.length_erase_of_mem ha]
   rw[afX]at hl;lia
theorem uK (n:Nat):(ll n).Pairwise (·<·):=by
 unfold ll
 rw[List.pairwise_map]
 exact (List.pairwise_lt_range).imp fun h=>by lia
theorem tQ {n:Nat}{a:Int}:a∈ll n ↔ 0<=a/\a<n:=by
 unfold ll
 rw[agd]
 constructor
 ·rintro ⟨i,hi,rfl⟩
  have:=afU.mp hi
  lia
 ·intro ⟨h0,h1⟩
  exact ⟨a.toNat,afU.mpr ⋯,by lia⟩
theorem Yb {ns ew:ajH}(hp:ew.Perm ns)(hs:ew.Pairwise (·<=·)):decide (ew=ll ns.length)=iD ns:=by
 cases e:iD ns with
 | true =>
  refine afI ?_
  have sub:∀a∈ll ns.length,a∈ns:=fun a ha=>by
   obtain ⟨h0,h1⟩:=tQ.mp ha
   have:=afR.mp e a.toNat (afU.mpr ⋯)
   rw[show ((a.toNat:Nat):Int)=a by lia]at this
   exact agp.mp this
  have b8:=CG ((uK ns.length).imp fun h=>aiD h) sub (by rw[C6];exact afE _)
  exact List.Perm.eq_of_pairwise (le:=(·<=·)) (fun a b _ _ h1 h2=>Int.le_antisymm h1 h2) hs ((uK _).imp fun h=>Int.le_of_lt h) (hp.trans b8.symm)
 | false =>
  refine afJ fun z=>?_
  have:iD ns=true:=afR.mpr fun i hi=>by
   have:(i:Int)∈ew:=by rw[z];exact tQ.mpr ⟨by lia,by have:=afU.mp hi;lia⟩
   exact agp.mpr (hp.mem_iff.mp this)
  rw[this]at e;cases e
theorem X1 (a b:ajH):PyData.eqv (.list (a.map PyData.int)) (.list (b.map PyData.int))=decide (a=b):=by simp only[PyData.eqv];exact w2 a b
theorem je.SN (a b:ajH):je (.list (a.map PyData.int)) (.list (b.map PyData.int)):=⟨by simp only[PyData.canLay0];exact qo a,by simp only[PyData.canLay0];exact qo b,by simp only[PyData.depth];rw[uy];decide⟩
abbrev dr (ns:ajH):PyData:=.tuple (ns.map PyData.int)
theorem aaQ (k:Nat):ef (.tuple (hq k))=true:=by simp only[ef];exact LN k
theorem Xb (elt target iter gU dQ:Expr)(ifs eu:ajE)(scope:Scope)(pos:Pos)(it acc:Value)(env:Env) :
  compTurn (.ListComp elt [⟨target,iter,ifs,0⟩,⟨gU,dQ,eu,0⟩] scope pos) 1 it acc env=(do
   standAt dQ.pos
   match <-pyNext it with
   | none=>pure (.done .next)
   | some v =>
    letOwnedTupleGo gU it v
    assign gU env v
    let mut ok:=true
    for c in eu do
     if ok then ok <-isTrue c env (eval c env)
    if ok then
     (do let _ <-call (.builtin "list.append") [acc,<-eval elt env])
    again (.compLoop (.ListComp elt [⟨target,iter,ifs,0⟩,⟨gU,dQ,eu,0⟩] scope pos) 1 it acc env)):=by rfl
theorem Xc (elt target iter gU dQ:Expr)(ifs eu:ajE)(scope:Scope)(pos:Pos)(it acc:Value)(env:Env) :
  compTurn (.ListComp elt [⟨target,iter,ifs,0⟩,⟨gU,dQ,eu,0⟩] scope pos) 0 it acc env=(do
   standAt iter.pos
   match <-pyNext it with
   | none=>pure (.done .next)
   | some v =>
    letOwnedTupleGo target it v
    assign target env v
    let mut ok:=true
    for c in ifs do
     if ok then ok <-isTrue c env (eval c env)
    if ok then
     let x <-eval dQ env
     standAt dQ.pos
     let x <-foldedSetIterable dQ env x
     let _ <-runOwn (.compStart (.ListComp elt [⟨target,iter,ifs,0⟩,⟨gU,dQ,eu,0⟩] scope pos) 1 (<-holding [x] (pyIter x)) acc env) env
    again (.compLoop (.ListComp elt [⟨target,iter,ifs,0⟩,⟨gU,dQ,eu,0⟩] scope pos) 0 it acc env)):=by rfl
section
variable {prog:Program}{w:World}{A:Around}{R:Result->Shared->Prop}{s:Shared}{elt target iter gU dQ:Expr}{ifs eu:ajE}{scope:Scope}{pos:Pos}{it acc:Value}{env:Env}
theorem WH (I:Nat->Shared->Prop)
  (turn:∀n s,I n s->wpAny (model prog w) A (pyNext it) (fun r cz=>match r with
   | none=>R (.ok .next) cz
   | some v => wpAny (model prog w) A (letOwnedTupleGo gU it v) (fun _ oR => wpAny (model prog w) A (assign gU env v) (fun _ hZ =>
     wpAny (model prog w) A (forIn eu true fun c r=>if r=true then do let ok <-isTrue c env (eval c env);pure (ForInStep.yield ok) else pure (ForInStep.yield r)) (fun ok fQ=>
      if ok=true then wpAny (model prog w) A (eval elt env) (fun x oS=>
       wpAny (model prog w) A (call (.builtin "list.append") [acc,x]) (fun _ oT=>∃m,m<n/\I m oT) (notedBy (model prog w) A env fun e ar=>R (.error e) ar) oS) (notedBy (model prog w) A env fun e ar=>R (.error e) ar) fQ
      else ∃m,m<n/\I m fQ) (notedBy (model prog w) A env fun e ar=>R (.error e) ar) hZ) (notedBy (model prog w) A env fun e ar=>R (.error e) ar) oR) (notedBy (model prog w) A env fun e ar=>R (.error e) ar) cz) (notedBy (model prog w) A env fun e ar=>R (.error e) ar) s)
  (n:Nat)(h:I n s) :
  codeAny (model prog w) A (.compLoop (.ListComp elt [⟨target,iter,ifs,0⟩,⟨gU,dQ,eu,0⟩] scope pos) 1 it acc env) R s:=by
 refine codeAny_loop rfl I (fun n s kb=>?_) n h
 show wpAny _ A ((compTurn (.ListComp elt [⟨target,iter,ifs,0⟩,⟨gU,dQ,eu,0⟩] scope pos) 1 it acc env).onRaise (fun x=>do noteFrame x env;theTreesLotGoes x)) _ _ s
 refine wpAny_noted ?_
 rw[Xb]
 refine afB (ags (afB (afV (turn n s kb) (fun r cz gT=>?_) fun _ _ h'=>h')))
 cases r with
 | none=>exact afF gT
 | some v =>
  refine afB (afV gT (fun _ oR th=>?_) fun _ _ h'=>h')
  refine afB (afV th (fun _ hZ nv=>afB (afV nv (fun ok fQ mx=>?_) fun _ _ h'=>h')) fun _ _ h'=>h')
  cases ok with
  | false=>exact afF ⟨rfl,mx⟩
  | true=>
   exact afB (afB (afV mx (fun x oS ti=>afB (afV ti (fun _ oT tj=>afF (afF ⟨rfl,tj⟩)) fun _ _ h'=>h')) fun _ _ h'=>h'))
theorem WG (hs:∀x,foldedSetIterable dQ env x=pure x)(I:Nat->Shared->Prop)
  (turn:∀n s,I n s->wpAny (model prog w) A (pyNext it) (fun r cz=>match r with
   | none=>R (.ok .next) cz
   | some v => wpAny (model prog w) A (letOwnedTupleGo target it v) (fun _ oR => wpAny (model prog w) A (assign target env v) (fun _ hZ =>
     wpAny (model prog w) A (forIn ifs true fun c r=>if r=true then do let ok <-isTrue c env (eval c env);pure (ForInStep.yield ok) else pure (ForInStep.yield r)) (fun ok fQ=>
      if ok=true then wpAny (model prog w) A (eval dQ env) (fun x oS=>wpAny (model prog w) A (pyIter x) (fun rl oT=>
       codeAny (model prog w) A (.compStart (.ListComp elt [⟨target,iter,ifs,0⟩,⟨gU,dQ,eu,0⟩] scope pos) 1 rl acc env) (fun r ar=>match r with
        | .ok _=>∃m,m<n/\I m ar
        | .error e=>cameBackBy (model prog w) A env (notedBy (model prog w) A env fun e ar=>R (.error e) ar) e ar) oT) (notedBy (model prog w) A env fun e ar=>R (.error e) ar) oS) (notedBy (model prog w) A env fun e ar=>R (.error e) ar) fQ
      else ∃m,m<n/\I m fQ) (notedBy (model prog w) A env fun e ar=>R (.error e) ar) hZ) (notedBy (model prog w) A env fun e ar=>R (.error e) ar) oR) (notedBy (model prog w) A env fun e ar=>R (.error e) ar) cz) (notedBy (model prog w) A env fun e ar=>R (.error e) ar) s)
  (n:Nat)(h:I n s) :
  codeAny (model prog w) A (.compLoop (.ListComp elt [⟨target,iter,ifs,0⟩,⟨gU,dQ,eu,0⟩] scope pos) 0 it acc env) R s:=by
 refine codeAny_loop rfl I (fun n s kb=>?_) n h
 show wpAny _ A ((compTurn (.ListComp elt [⟨target,iter,ifs,0⟩,⟨gU,dQ,eu,0⟩] scope pos) 0 it acc env).onRaise (fun x=>do noteFrame x env;theTreesLotGoes x)) _ _ s
 refine wpAny_noted ?_
 rw[Xc]
 refine afB (ags (afB (afV (turn n s kb) (fun r cz gT=>?_) fun _ _ h'=>h')))
 cases r with
 | none=>exact afF gT
 | some v =>
  refine afB (afV gT (fun _ oR th=>?_) fun _ _ h'=>h')
  refine afB (afV th (fun _ hZ nv=>afB (afV nv (fun ok fQ mx=>?_) fun _ _ h'=>h')) fun _ _ h'=>h')
  cases ok with
  | false=>exact afF ⟨rfl,mx⟩
  | true =>
   refine afB (afV mx (fun x oS ti=>?_) fun _ _ h'=>h')
   refine afB (ags (afB (agI (hs x) (afB (agB (afV ti (fun rl oT tj=>?_) fun _ _ h'=>h'))))))
   exact afB (wpAny_runOwn (ahl tj fun r ar hr=>by
    cases r with
    | ok f=>exact afF ⟨rfl,hr⟩
    | error e=>exact hr))
theorem WE
  (h0:codeAny (model prog w) A (.compLoop (.ListComp elt [⟨target,iter,ifs,0⟩,⟨gU,dQ,eu,0⟩] scope pos) 1 it acc env) R s)
  (h:wpAny (model prog w) A (pyIter it) (fun zK ar=>codeAny (model prog w) A (.compLoop (.ListComp elt [⟨target,iter,ifs,0⟩,⟨gU,dQ,eu,0⟩] scope pos) 1 zK acc env) R ar)
   (notedBy (model prog w) A env fun x ar=>R (.error x) ar) s) :
  codeAny (model prog w) A (.compStart (.ListComp elt [⟨target,iter,ifs,0⟩,⟨gU,dQ,eu,0⟩] scope pos) 1 it acc env) R s:=by
 refine codeAny_of_tree ?_
 show wpAny _ _ ((compStart (.ListComp elt [⟨target,iter,ifs,0⟩,⟨gU,dQ,eu,0⟩] scope pos) 1 it acc env).onRaise (fun x=>do noteFrame x env;standAt theWindowsPlace)) _ _ s
 refine wpAny_notedAt ?_
 unfold compStart
 show wpAny _ _ (ask >>= _) _ _ s
 refine afB (wpAny_askSetting (wpAny_ite ?_))
 split
 ·first
   |exact afB (afF (afF (And.intro rfl h0)))
   |exact afF (And.intro rfl h0)
 ·first
   |exact afB (ahj (afB (ags (afB (afV h (fun zK ar h'=>afF (And.intro rfl h')) fun _ _ x=>x)))))
   | (refine afB (ahj ?_);show wpAny _ _ (standAt dQ.pos >>= _) _ _ s;exact afB (ags (afB (afV h (fun zK ar h'=>afF (And.intro rfl h')) fun _ _ x=>x))))
end
def M9 (bV:gZ)(g:dX)(tt:TT)(a8:TE)(D:Addr)(va:St)(bC:ah)(qR:St->ah->Prop):Prop:=
 ∃W:Nat->Nat->St->ah->Prop,(∃m,W 0 m va bC)/\∀i m aE J,W i m aE J->
  (bV.stop i J/\qR aE J)\/(bV.go i J/\∃N:St->ah->Prop,(∀bZ ag,N bZ ag->∃cW,cW<m/\W (i+1) cW bZ ag)/\
   ∀x ag,bV.kB i J x ag->g x aE ag fun bZ b3=>tt bZ b3 fun b bK=>if b=true then a8 bZ bK fun y cy=>∃xs,cy D=some (.lst xs)/\xs.length<sizeLine/\N bZ (upd cy D (.lst (xs++[y]))) else N bZ bK)
def ac2 (bV:gZ)(g:dX)(tt:TT)(fj:TI)(g2:dX)(hK:TT)(a8:TE)(D:Addr)(va:St)(bC:ah)(Q:bW):Prop:=
 ∃W:Nat->Nat->St->ah->Prop,(∃m,W 0 m va bC)/\∀i m aE J,W i m aE J->
  (bV.stop i J/\(∃ys,J D=some (.lst ys))/\Q (.ref D) J)\/(bV.go i J/\∃N:St->ah->Prop,(∀bZ ag,N bZ ag->∃cW,cW<m/\W (i+1) cW bZ ag)/\
   ∀x ag,bV.kB i J x ag->g x aE ag fun bZ b3=>tt bZ b3 fun b bK=>if b=true then fj bZ bK fun x8 cy=>M9 x8 g2 hK a8 D bZ cy N else N bZ bK)
def uI (cZ:TI)(g:dX)(tt:TT)(fj:TI)(g2:dX)(hK:TT)(a8:TE)(is:List (Option Nat)):TE:=fun σ H Q=>cZ σ H fun bV H1=>∀D,H1 D=none->ac2 bV g tt fj g2 hK a8 D (iP is σ) (upd H1 D (.lst [])) Q
theorem Inv.Iw {X Y:aO}{pins:ajx}{σ:St}{H:ah}{s:Shared}(I:Inv X pins σ H s)(h:Y={X with ct:=Y.ct}):Inv Y pins σ H s:=by
 rw[h]
 exact ⟨⟨I.ok.mod,I.ok.kind,I.ok.glob,I.ok.blt,I.ok.above,I.ok.inj,I.ok.has,I.ok.lL,I.ok.hd,I.ok.frames,I.ok.nG,I.ok.pL,I.ok.bs,I.ok.ij,I.ok.lX,I.ok.lQ,I.ok.hT,I.ok.k_⟩,I.os,I.bare,I.base,I.loc,I.cell,I.free,I.g6,I.pin,I.aX,I.len⟩
section
variable {X:aO}
variable {scope:Scope}{pos:Pos}{cl:List (Str×Addr)}{N:ajD}{is:List (Option Nat)}{a8:TE}
theorem Yf {pins:ajx}{s:Shared}{σ:St}{H:ah}{Q:bW}{use:Option (Value->Sem Unit)}{Qr:ajv}{pos':Pos}{elt iter bx dQ ix:Expr}{ifs eu:ajE}{cZ fj:TI}{g g2:dX}{tt hK:TT}(hc:X.calm=true)(k:oa X N is scope cl)(hi:hR X bx iter cZ)
  (hg:∀C bf bA ex E,jf (X.comp N scope cl C bf bA ex E) bx g)(lg:∀C bf bA ex E,hR (X.comp N scope cl C bf bA ex E) ix dQ fj)(nr:∀C bf bA ex E,jf (X.comp N scope cl C bf bA ex E) ix g2)(s9:∀C bf bA ex E,mi (X.comp N scope cl C bf bA ex E) eu hK)(hf:∀C bf bA ex E,mi (X.comp N scope cl C bf bA ex E) ifs tt)(he:∀C bf bA ex E,bN (X.comp N scope cl C bf bA ex E) elt a8)
  (hs:∀x,foldedSetIterable iter X.env x=pure x)(hs2:∀C x,foldedSetIterable dQ (compEnvC scope cl C X.env) x=pure x)(I:Inv X pins σ H s)(h:uI cZ g tt fj g2 hK a8 is σ H Q)
  (zo:∀(D C:Addr)(bK:ah)(s5:Shared)(m:ajy),s5.heap.Ns C m->kP X pins bK C->(∀h',Heap.SameBut C s5.heap h'->Inv X pins σ bK {s5 with heap:=h'})->Q (.ref D) bK->compPost (model X.prog X.w) X.A X.ct use Qr (.ref D) C (.ok .next) s5) :
  wpAny (model X.prog X.w) X.A (comprehension (.ListComp elt [⟨bx,iter,ifs,0⟩,⟨ix,dQ,eu,0⟩] scope pos) scope X.env pos' (newList []) false (eval iter X.env) use) Qr X.ct s:=by
 refine ajq (use:=use) rfl hs k.Fi k.kind k.names (bk (hi pins s σ H _ I h) fun Iy s1 h1=>bk h1 fun tn s2 h2=>?_)
 obtain ⟨it,fp,e2,bV,ag,e,a3,T,hJ,f2,h2⟩:=h2
 subst e
 refine agr (wpAny_newFunctionEnv k.cell (by intro y hy;simp at hy) (fun gT pW nu=>?_) k.kind)
 dsimp only at pW nu ⊢
 generalize pR:s2.heap.push {cls:=.type "list",dict:=none,data:=.seq ([]:ajC).toArray}=cm at pW nu ⊢
 have ee:cm.objs.size=s2.heap.objs.size+1:=by rw[<-pR,ahb]
 have sV:s2.heap.objs.size≠cm.objs.size:=by rw[ee];exact af4 (Nat.lt_succ_self _)
 have nq:s2.heap.objs.size<=cm.objs.size:=by rw[ee];exact ahz _
 have hH:∀b,b<s2.heap.objs.size->b≠cm.objs.size:=fun b hb=>af4 (af0 hb nq)
 have old:∀b o,s2.heap.get? b=some o->gT.get? b=some o:=fun b o e=>nu.extBut b o (hH b (afH e)) (afL _ (pR▸afL _ e))
 have zg:gT.get? s2.heap.objs.size=some {cls:=.type "list",dict:=none,data:=.seq ([]:ajC).toArray}:=nu.extBut _ _ sV (afL _ (pR▸af3 _ rfl))
 have ft:ag s2.heap.objs.size=none:=a3.aX.fresh (afE _)
 have yS:ag cm.objs.size=none:=a3.aX.fresh nq
 obtain ⟨W,⟨m0,h5⟩,turn⟩:=h2 _ ft
 have yw:∀x c,cl.lookup x=some c->c<s2.heap.objs.size:=fun x c e=>by
  obtain ⟨v,q⟩:=a3.cell x c (k.sub.look e)
  exact q.lt
 have pP:∀b∈fp,b<s2.heap.objs.size:=fun b hb=>by
  obtain ⟨o,q,_⟩:=T.obj 0 _ hJ b hb
  exact afH q
 have s6:∀x,((relabel scope X.env).names.lookup x=some .cell\/(relabel scope X.env).names.lookup x=some .free)->∃c,cl.lookup x=some c:=fun x hx=>by
  have all:=afR.mp k.has
  rcases hx with hx|hx
  ·have q:=all _ (ug hx)
   simpa [ahJ] using q
  ·have q:=all _ (ug hx)
   simpa [ahJ] using q
 generalize dN:(notedBy (model X.prog X.w) X.A (compEnvC scope cl cm.objs.size X.env) fun e ar=>compPost (model X.prog X.w) X.A X.ct use Qr (.ref s2.heap.objs.size) cm.objs.size (.error e) ar)=ej
 have hU:(X.comp N scope cl cm.objs.size s2 ag fp ej).Ok:={
  mod:=a3.ok.mod
  kind:=k.kind
  glob:=a3.ok.glob
  blt:=a3.ok.blt
  above:=nq
  inj:=fun x y c ai az=>a3.ok.inj x y c (k.sub.look ai) (k.sub.look az)
  has:=fun x hx=>s6 x hx
  lL:=fun x c z=>by cases z
  hd:=a3.ok.hd
  frames:=a3.ok.frames
  nG:=.inl rfl
  pL:=fun b hb=>⟨hH b (pP b hb),fun x c e=>(f2 b hb).2.2.2.2.1 x c (k.sub.look e)⟩
  bs:=a3.bs
  ij:=afK a3.ok.ij a3.e1
  lX:=fun b o e hb=>by
   rcases (f2 b hb).2.2.2.1 with z|z
   ·exact a3.ok.lX b o e z
   ·exact absurd (af0 (afH e) a3.ok.ij) (aif.mpr z)
  lQ:=fun b hb z=>by
   rcases afP.mp (a3.wA b z) with q|q
   ·exact (f2 b hb).2.1 q
   ·exact (f2 b hb).2.2.1 q
  hT:=a3.stack
  k_:=a3.t2}
 have dD:Inv (X.comp N scope cl cm.objs.size s2 ag fp ej) [] (iP is σ) (upd ag s2.heap.objs.size (.lst [])) {s2 with heap:=gT,toks:=s2.toks+([]:List (Str×Value)).length}:={
  ok:=hU
  os:=rfl
  bare:=a3.bare
  base:=e8.laid old (afE _) ft
  loc:=by
   refine ⟨_,pW,fun j x v ai az cD=>?_⟩
   obtain ⟨i,aL,bU,df,jz⟩:=jd.get k.vv ai az
   obtain ⟨m,hn,hl⟩:=a3.loc
   obtain ⟨u,r,l⟩:=hl i x v aL bU (.inr (.inl df))
   refine ⟨u,r,.inr ⟨.inl jz,?_⟩⟩
   obtain ⟨c,lb⟩:=s6 x (.inl jz)
   refine ⟨c,lb,?_⟩
   rcases l with ⟨z,_⟩|⟨_,bG,aU,o,ho,hd⟩
   ·have dO:X.env.scope.names.lookup x=some .local:=z
    rw[df]at dO;cases dO
   ·have:=k.sub.look lb
    rw[aU]at this;cases this
    exact ⟨o,old _ _ ho,hd⟩
  cell:=fun x c e=>by
   obtain ⟨v,o,ho,hd⟩:=a3.cell x c (k.sub.look e)
   exact ⟨v,o,old _ _ ho,hd⟩
  free:=by
   show upd ag s2.heap.objs.size (.lst []) cm.objs.size=none
   rw[br (af_ sV)];exact yS
  g6:=fun x c e=>by
   rw[br (af4 (yw x c e))]
   exact a3.g6 x c (k.sub.look e)
  pin:=fun p hp=>by simp at hp
  aX:=a3.aX.laid old (afE _) ⟨afY _,[],_,.nil,zg⟩
  len:=by
   show (iP is σ).length=N.length
   rw[k.vv.len];simp[iP]}
 have l2:∀{J:ah},(∀b∈fp,J b=none)->∀b∈fp,kP (X.comp N scope cl cm.objs.size s2 ag fp ej) [] J b:=fun hn b hb=>
  ⟨hn b hb,hH b (pP b hb),hU.lQ b hb,.inl hb,fun x c e=>(f2 b hb).2.2.2.2.1 x c (k.sub.look e),fun p hp=>by simp at hp⟩
 have loop : ∀ fQ : Shared, fQ = { s2 with heap := gT, toks := s2.toks+([] : List (Str × Value)).length } ->
   codeAny (model X.prog X.w) X.A (.compLoop (.ListComp elt [⟨bx,iter,ifs,0⟩,⟨ix,dQ,eu,0⟩] scope pos) 0 (.ref it) (.ref s2.heap.objs.size) (compEnvC scope cl cm.objs.size X.env))
    (compPost (model X.prog X.w) X.A X.ct use Qr (.ref s2.heap.objs.size) cm.objs.size) fQ:=by
  rintro fQ rfl
  refine WG (hs2 _) (fun n ar=>∃i aE J,Inv (X.comp N scope cl cm.objs.size s2 ag fp ej) [] aE J ar/\e2 i ar.heap/\(∀b∈fp,J b=none)/\W i n aE J) ?_ m0
   ⟨0,_,_,dD,T.keep _ _ _ hJ fun b hb o e=>old b o e,fun b hb=>by rw[br (af4 (pP b hb))];exact (f2 b hb).1,h5⟩
  rintro n s4 ⟨i,h_,bK,iL,tZ,sR,w4⟩
  rw[dN]
  rcases turn i n h_ bK w4 with ⟨stop,⟨ys,bq⟩,q⟩|⟨go,qR,hN,step⟩
  ·refine bk (T.done (X.comp N scope cl cm.objs.size s2 ag fp ej) rfl rfl rfl hc i [] s4 h_ bK ej iL (l2 sR) tZ stop) fun r s5 hz=>?_
   obtain ⟨hr,fH⟩:=hz
   subst hr
   obtain ⟨m,hn,_⟩:=fH.loc
   refine zo s2.heap.objs.size cm.objs.size bK s5 m hn (a3.k9 nq fH.free) (fun h' nt=>?_) q
   have B:=fH.base
   have f_:∀b o,b≠cm.objs.size->s5.heap.get? b=some o->h'.get? b=some o:=fun b o hb e=>nt.extBut b o hb e
   have u:e8 (eJ X.stack) fp ag bK s2.heap h':={
    keep:=fun b o e ax a_ cc=>f_ b o (hH b (afH e)) (B.keep b o e ax a_ cc)
    slot:=fun b o e ax a_ cc=>by
     obtain ⟨bR,z⟩:=B.slot b o e ax a_ cc
     exact ⟨bR,f_ b _ (hH b (afH e)) z⟩
    free:=fun b o e ax a_=>B.free b o e ax a_
    there:=fun b o e ax=>by
     obtain ⟨dR,z⟩:=B.there b o e ax
     exact ⟨dR,f_ b _ (hH b (afH e)) z⟩
    jE:=B.jE
    iU:=B.iU
    jD:=B.jD}
   have aX:ep X.prog X.w bK h':=fun b o e=>by
    have tA:∀c v,bK c=some v->c≠cm.objs.size:=fun c v z y=>by
     have:=fH.free
     rw[y]at z
     have z2:bK cm.objs.size=none:=this
     rw[z2]at z;cases z
    refine (fH.aX b o e).f_ (fun c v hG z=>f_ c v ?_ z) (fun _ z=>z) fun _ _ z=>z
    rcases hG with z|z
    ·rw[z];exact tA b o e
    ·exact tA c _ z
   have lS:s5.os=s2.os:=fH.os
   have zh:=fH.bare
   obtain ⟨dZ,sS,ni,qg,Ac⟩:=s5
   obtain rfl:Ac=s2.os:=lS
   have z:=a3.call (h':=h') (g':=sS) (d':=ni) (t':=qg) (ch:=fp) u aX zh fun b hb=>⟨(f2 b hb).2.2.2.1,(f2 b hb).2.1,(f2 b hb).2.2.2.2.1,(f2 b hb).2.2.2.2.2⟩
   exact z
  ·refine bk (T.item (X.comp N scope cl cm.objs.size s2 ag fp ej) rfl rfl rfl hc i [] s4 h_ bK ej iL (l2 sR) tZ go) fun r s5 hz=>?_
   obtain ⟨u,hr,c1⟩:=hz
   subst hr
   refine bk c1 fun _ jC hz=>?_
   obtain ⟨x,hQ,sm,Aj,Cf,qe,y0⟩:=hz
   have x5:=sm.pinned (l2 y0) (T.obj _ _ qe)
   have again:∀{d6:St}{ek:ah}{gs:Shared},Inv (X.comp N scope cl cm.objs.size s2 ag fp ej) ([]++o8 fp jC.heap) d6 ek gs->qR d6 ek->∃m,m<n/\∃i aE J,Inv (X.comp N scope cl cm.objs.size s2 ag fp ej) [] aE J gs/\e2 i gs.heap/\(∀b∈fp,J b=none)/\W i m aE J:=fun {d6 ek gs} e4 km=>by
    obtain ⟨cW,hm,qi⟩:=hN d6 ek km
    refine ⟨cW,hm,i+1,d6,ek,e4.rI,T.keep _ _ _ qe fun b hb o e=>(e4.pin (b,o) (af7 _ (af7 _ (oZ hb e)))).1,fun b hb=>?_,qi⟩
    obtain ⟨o,e,d⟩:=T.obj _ _ qe b hb
    exact (e4.pin (b,o) (af7 _ (af7 _ (oZ hb e)))).2.1
   refine bk (hg cm.objs.size s2 ag fp ej _ jC h_ hQ x u _ x5 Aj (step x hQ Cf)) fun _ gs hz=>?_
   obtain ⟨d6,ek,e4,jA⟩:=hz
   refine bk (hf cm.objs.size s2 ag fp ej _ gs d6 ek _ e4 jA) fun b Ay hz=>?_
   obtain ⟨mf,so,hI⟩:=hz
   cases b with
   | false=>exact again so hI
   | true =>
    refine bk (lg cm.objs.size s2 ag fp ej _ Ay d6 mf _ so hI) fun Iy Hu za=>bk za fun tn Ht QV=>?_
    obtain ⟨rl,sQ,Ip,x8,x2,az,x4,qV,Ig,FL,EN,⟨kj,jI⟩,Wq⟩:=QV
    subst az
    generalize et:([]++o8 fp jC.heap:ajx)=P at *
    generalize QZ:(notedBy (model X.prog X.w) X.A (compEnvC scope cl cm.objs.size X.env) fun e ar=>cameBackBy (model X.prog X.w) X.A (compEnvC scope cl cm.objs.size X.env) ej e ar)=kR
    have B0:∀{J:ah},(∀b∈sQ,J b=none)->∀b∈sQ,kP (X.comp N scope cl cm.objs.size s2 ag fp kR) P J b:=fun hn b hb=>⟨hn b hb,(FL b hb).2⟩
    have GX:∀cz:Shared,cz=Ht->codeAny (model X.prog X.w) X.A (.compLoop (.ListComp elt [⟨bx,iter,ifs,0⟩,⟨ix,dQ,eu,0⟩] scope pos) 1 (.ref rl) (.ref s2.heap.objs.size) (compEnvC scope cl cm.objs.size X.env))
      (fun r ar=>match r with
       | .ok _=>∃m,m<n/\∃i aE J,Inv (X.comp N scope cl cm.objs.size s2 ag fp ej) [] aE J ar/\e2 i ar.heap/\(∀b∈fp,J b=none)/\W i m aE J
       | .error e=>cameBackBy (model X.prog X.w) X.A (compEnvC scope cl cm.objs.size X.env) ej e ar) cz:=by
     rintro cz rfl
     refine WH (fun ao ar=>∃i aE J,Inv (X.comp N scope cl cm.objs.size s2 ag fp kR) P aE J ar/\Ip i ar.heap/\(∀b∈sQ,J b=none)/\EN i ao aE J) ?_ kj ⟨0,_,_,x4.Iw rfl,Ig,fun b hb=>(FL b hb).1,jI⟩
     rintro ao gu ⟨eS,xT,x3,EH,Ii,F_,Wx⟩
     rw[show (notedBy (model X.prog X.w) X.A (compEnvC scope cl cm.objs.size X.env) fun e ar=>(fun r ar=>match r with
       | Except.ok _=>∃m,m<n/\∃i aE J,Inv (X.comp N scope cl cm.objs.size s2 ag fp ej) [] aE J ar/\e2 i ar.heap/\(∀b∈fp,J b=none)/\W i m aE J
       | .error e=>cameBackBy (model X.prog X.w) X.A (compEnvC scope cl cm.objs.size X.env) ej e ar:Result->Shared->Prop) (.error e) ar)=kR from QZ]
     rcases Wq eS ao xT x3 Wx with ⟨stop,q⟩|⟨go,EL,Q2,V0⟩
     ·refine bk (qV.done (X.comp N scope cl cm.objs.size s2 ag fp kR) rfl rfl rfl hc eS P gu xT x3 kR EH (B0 F_) Ii stop) fun r qg hz=>?_
      obtain ⟨hr,x6⟩:=hz
      subst hr
      subst et
      exact again (x6.Iw rfl) q
     ·refine bk (qV.item (X.comp N scope cl cm.objs.size s2 ag fp kR) rfl rfl rfl hc eS P gu xT x3 kR EH (B0 F_) Ii go) fun r qg hz=>?_
      obtain ⟨gI,hr,pQ⟩:=hz
      subst hr
      refine bk pQ fun _ Ij hz=>?_
      obtain ⟨wG,EG,x6,Ho,WC,B1,QL⟩:=hz
      have M6:=x6.pinned (B0 QL) (qV.obj _ _ B1)
      have ES:∀{d6:St}{ek:ah}{gs:Shared},Inv (X.comp N scope cl cm.objs.size s2 ag fp kR) (P++o8 sQ Ij.heap) d6 ek gs->EL d6 ek->∃m,m<ao/\∃i aE J,Inv (X.comp N scope cl cm.objs.size s2 ag fp kR) P aE J gs/\Ip i gs.heap/\(∀b∈sQ,J b=none)/\EN i m aE J:=fun {d6 ek gs} e4 km=>by
       obtain ⟨cW,hm,qi⟩:=Q2 d6 ek km
       refine ⟨cW,hm,eS+1,d6,ek,e4.rI,qV.keep _ _ _ B1 fun b hb o e=>(e4.pin (b,o) (af7 _ (af7 _ (oZ hb e)))).1,fun b hb=>?_,qi⟩
       obtain ⟨o,e,d⟩:=qV.obj _ _ B1 b hb
       exact (e4.pin (b,o) (af7 _ (af7 _ (oZ hb e)))).2.1
      refine bk (nr cm.objs.size s2 ag fp kR _ Ij xT EG wG gI _ M6 Ho (V0 wG EG WC)) fun _ V8 hz=>?_
      obtain ⟨xU,MZ,M7,UG⟩:=hz
      refine bk (s9 cm.objs.size s2 ag fp kR _ V8 xU MZ _ M7 UG) fun b V9 hz=>?_
      obtain ⟨M0,Id,Hk⟩:=hz
      cases b with
      | false=>exact ES Id Hk
      | true=>
       refine bk (he cm.objs.size s2 ag fp kR _ V9 xU M0 _ Id Hk) fun y V_ hz=>?_
       obtain ⟨v,M1,M8,re,xs,QY,hsz,UH⟩:=hz
       refine bk (uj _ V_ xU M1 (.ref s2.heap.objs.size) [v] (.ref s2.heap.objs.size) [y] (fun _ M3=>EL xU M3) M8 rfl (.cons re .nil) ⟨_,xs,v,rfl,rfl,QY,hsz,UH⟩) fun _ afm hz=>?_
       obtain ⟨_,aeu,If,_,UI⟩:=hz
       exact ES If UI
    exact WE (GX _ rfl) (qV.self _ 0 _ _ _ Ig (GX _ rfl))
 exact codeAny_compStart_list (loop _ rfl) (T.self _ 0 _ _ _ (T.keep _ _ _ hJ fun b hb o e=>old b o e) (loop _ rfl))
theorem YQ {i:Nat}{x:Str}{hV l1:Pos}{elt iter bx dQ ix:Expr}{ifs eu:ajE}{cZ fj:TI}{g g2:dX}{tt hK:TT}(hN:X.N.Nodup)(pU:X.N[i]?=some x)(hx:X.env.scope.names.lookup x=some .local)(hc:X.calm=true)(k:oa X N is scope cl)(hi:hR X bx iter cZ)
  (hg:∀C bf bA ex E,jf (X.comp N scope cl C bf bA ex E) bx g)(lg:∀C bf bA ex E,hR (X.comp N scope cl C bf bA ex E) ix dQ fj)(nr:∀C bf bA ex E,jf (X.comp N scope cl C bf bA ex E) ix g2)(s9:∀C bf bA ex E,mi (X.comp N scope cl C bf bA ex E) eu hK)(hf:∀C bf bA ex E,mi (X.comp N scope cl C bf bA ex E) ifs tt)(he:∀C bf bA ex E,bN (X.comp N scope cl C bf bA ex E) elt a8)
  (fu:swapsWith (.ListComp elt [⟨bx,iter,ifs,0⟩,⟨ix,dQ,eu,0⟩] scope pos) (some (.Name x hV)) l1.line X.env=pure true)
  (hs:∀x,foldedSetIterable iter X.env x=pure x:=by intro _;rfl)(hs2:∀C x,foldedSetIterable dQ (compEnvC scope cl C X.env) x=pure x:=by intro _ _;rfl):hC X (.Assign [.Name x hV] (.ListComp elt [⟨bx,iter,ifs,0⟩,⟨ix,dQ,eu,0⟩] scope pos) l1) (mW (uI cZ g tt fj g2 hK a8 is) (kL i)):=by
 intro pins s σ H D I h
 rw[exec_Assign_Name_used _ _ _ _ fu]
 refine afB (ags (afB ?_))
 show wpAny _ X.A (do let _ <-comprehension (.ListComp elt [⟨bx,iter,ifs,0⟩,⟨ix,dQ,eu,0⟩] scope pos) scope X.env _ (newList []) false (eval iter X.env) (some (assign (.Name x hV) X.env))) _ _ s
 refine afB (afV (Yf (use:=some (assign (.Name x hV) X.env)) (Qr:=fun _ ar=>ji X pins D .next ar) hc k hi hg lg nr s9 hf he hs hs2 I h fun A C bK s5 m hn sW kb q=>?_) (fun _ ar aM=>afF (afF aM)) fun _ _ e=>e)
 have fH:Inv X pins σ bK s5:=kb s5.heap (Heap.SameBut.refl _ _)
 obtain ⟨f0,f1,f2,d3,f4,eB⟩:=sW
 show wpAny _ X.A (assign (.Name x hV) X.env (.ref A)) _ _ _
 refine aiG (Cu fH hN pU (.inl hx) (v:=.ref A) rfl (fun ar ia nt=>?_) (.inr hx))
 obtain ⟨a,i3,ha⟩:=nt
 have zc:C≠a:=by
  rcases ha with z|z
  ·rw[z];exact f1
  ·exact fun q=>f4 x a z q.symm
 refine ⟨m,hn.sameBut i3 zc,fun h' lT=>⟨_,bK,?_,q⟩⟩
 exact ia.turned (t':=ar.toks) (fun b o hb e=>lT.extBut b o hb e) f0 f1 d3 f4 eB
end
variable {g g2:d2}{t cj:dM}{e:cp}{δ:bc}{acc xs:ajz}{n:Nat}{Q:bc->List PyData->Nat->Prop}{x:PyData}{dP:g4}
def xD (g:d2)(t:dM)(e:cp):List PyData->bc->List PyData->Nat->(bc->List PyData->Nat->Prop)->Prop
 | [],δ,acc,n,Q=>Q δ acc n
 | x::xs,δ,acc,n,Q=>g x δ n fun bO a_=>t bO a_ fun b cc=>fo b (e bO cc fun w cX=>∃y,w=.d y/\xD g t e xs bO (acc++[y]) cX Q) (xD g t e xs bO acc cc Q)
structure jv (g:d2)(t:dM)(e:cp)(ds:ajz)(δ:bc)(acc:ajz)(n:Nat)(Q:bc->List PyData->Nat->Prop):Prop where
 o:xD g t e ds δ acc n Q
theorem JM :jv g t e [] δ acc n Q=Q δ acc n:=propext ⟨fun h=>h.o,fun h=>⟨h⟩⟩
theorem CK :xD g t e xs=jv g t e xs:=by funext δ acc n Q;exact propext ⟨fun h=>⟨h⟩,fun h=>h.o⟩
theorem Jc :jv g t e (x::xs) δ acc n Q=g x δ n fun bO a_=>t bO a_ fun b cc=>fo b (e bO cc fun w cX=>∃y,w=.d y/\jv g t e xs bO (acc++[y]) cX Q) (jv g t e xs bO acc cc Q):=by
 first|(rw[<-CK,<-CK];rfl)|(rw[<-CK];rfl)
def xF (g:d2)(t:dM)(dP:g4)(g2:d2)(cj:dM)(e:cp):List PyData->bc->List PyData->Nat->(List PyData->Nat->Prop)->Prop
 | [],_,acc,n,Q=>Q acc n
 | x::xs,δ,acc,n,Q=>g x δ n fun bO a_=>t bO a_ fun b cc=>fo b (dP bO cc fun gm cX=>gm.length<=1000/\jv g2 cj e gm bO acc cX fun n9 nc kl=>xF g t dP g2 cj e xs n9 nc kl Q) (xF g t dP g2 cj e xs bO acc cc Q)
structure j8 (g:d2)(t:dM)(dP:g4)(g2:d2)(cj:dM)(e:cp)(ds:ajz)(δ:bc)(acc:ajz)(n:Nat)(Q:List PyData->Nat->Prop):Prop where
 o:xF g t dP g2 cj e ds δ acc n Q
theorem JR {Q:List PyData->Nat->Prop}:j8 g t dP g2 cj e [] δ acc n Q=Q acc n:=propext ⟨fun h=>h.o,fun h=>⟨h⟩⟩
theorem CL :xF g t dP g2 cj e xs=j8 g t dP g2 cj e xs:=by funext δ acc n Q;exact propext ⟨fun h=>⟨h⟩,fun h=>h.o⟩
theorem Jg {Q:List PyData->Nat->Prop}:j8 g t dP g2 cj e (x::xs) δ acc n Q=g x δ n fun bO a_=>t bO a_ fun b cc=>fo b (dP bO cc fun gm cX=>gm.length<=1000/\jv g2 cj e gm bO acc cX fun n9 nc kl=>j8 g t dP g2 cj e xs n9 nc kl Q) (j8 g t dP g2 cj e xs bO acc cc Q):=by
 first|(rw[<-CL,<-CL];rfl)|(rw[<-CL];rfl)
def KR (i:g4)(g:d2)(t:dM)(dP:g4)(g2:d2)(cj:dM)(e:cp)(is:List (Option Nat)):cp:=fun δ n Q=>i δ n fun ds ax=>ds.length<=1000/\j8 g t dP g2 cj e ds (uR is δ) [] ax fun acc a_=>Q (.d (.list acc)) a_
section
variable {K:ajA}
variable {a8:TE}{is:List (Option Nat)}{dP:g4}{t cj:dM}{e:cp}{g:d2}{ds:ajz}{δ:bc}{n:Nat}
theorem YH {cZ fj:TI}{g g2:dX}{tt hK:TT}{i:g4}{d1 mb:d2}(hi:lJ K cZ i)(hg:pB K g d1)(aH:cL K tt t)(lg:lJ K fj dP)(nr:pB K g2 mb)(zB:cL K hK cj)(he:a9 K a8 e):oi K (uI cZ g tt fj g2 hK a8 is) (KR i d1 t dP mb cj e is):=⟨fun M {σ δ H n Q aK} ok re h k=>by
 refine hi.o M ok re h fun bV H1 ds ax k1 bM it h1=>?_
 intro D bq
 obtain ⟨hl,h1⟩:=h1
 have fN:(M.own D).ok (upd H1 D (.lst [])) ax:=⟨by rw[lu,jP bq];exact bM,[],bo⟩
 refine ⟨fun i m aE J=>m=ds.length-i/\i<=ds.length/\∃bw ao acc xs,M.st (bQ D (upd H1 D (.lst []))) (bQ D J)/\(M.own D).ok J ao/\cI (M.own D) J aE bw/\J D=some (.lst xs)/\aP (M.own D) J xs acc/\xs.length<=1000*i/\j8 d1 t dP mb cj e (ds.drop i) bw acc ao (fun acc a_=>aK (.d (.list acc)) a_),
  ⟨ds.length,by simp,afY _,uR is δ,ax,[],[],M.refl _,fN,((re.aI k1).iP is).own bq _,bo,.nil,afY _,h1⟩,?_⟩
 rintro i m aE J ⟨rfl,hle,bw,ao,acc,xs,aI,dR,Ar,hx,aD,zE,h'⟩
 obtain ⟨tm,zI⟩:=mh.ownAt it bq aI dR
 by_cases dj:i<ds.length
 ·refine .inr ?_
  have ai:ds[i]?=some ds[i]:=afQ dj
  rw[agJ dj,Jg]at h'
  obtain ⟨g1,QU⟩:=tm i _ ai
  refine ⟨g1,fun bZ ag=>∃bw ao acc xs,M.st (bQ D (upd H1 D (.lst []))) (bQ D ag)/\(M.own D).ok ag ao/\cI (M.own D) ag bZ bw/\ag D=some (.lst xs)/\aP (M.own D) ag xs acc/\xs.length<=1000*(i+1)/\j8 d1 t dP mb cj e (ds.drop (i+1)) bw acc ao (fun acc a_=>aK (.d (.list acc)) a_),fun bZ ag q=>⟨ds.length-(i+1),by lia,rfl,dj,q⟩,fun x ag hy=>?_⟩
  obtain ⟨y1,y2,y3⟩:=QU x ag hy
  refine hg.o (M.own D) ((M.own D).eC dR y2) (Ar.aI y1) y3 h' fun jV b3 sk cc k3 mB nC aQ=>?_
  refine aH.o (M.own D) mB nC aQ fun b bK cX iZ mC bS=>?_
  have nz:=(M.own D).trans y1 ((M.own D).trans k3 iZ)
  have zC:=nz.2 _ hx
  cases b with
  | true =>
   rw[afD rfl]
   refine lg.o (M.own D) mC (nC.aI iZ) bS fun x8 cy gm kl k5 p3 rl c1=>?_
   obtain ⟨zq,c1⟩:=c1
   have pX:=(M.own D).trans nz k5
   refine ⟨fun eS m aE J=>m=gm.length-eS/\eS<=gm.length/\∃bw ao acc xs,M.st (bQ D (upd H1 D (.lst []))) (bQ D J)/\(M.own D).aI cy J/\(M.own D).ok J ao/\cI (M.own D) J aE bw/\J D=some (.lst xs)/\aP (M.own D) J xs acc/\xs.length<=1000*i+eS/\jv mb cj e (gm.drop eS) bw acc ao (fun n9 nc kl=>j8 d1 t dP mb cj e (ds.drop (i+1)) n9 nc kl (fun acc a_=>aK (.d (.list acc)) a_)),
    ⟨gm.length,by simp,afY _,sk,kl,acc,xs,M.trans aI pX.1,(M.own D).cK _,p3,(nC.aI iZ).aI k5,pX.2 _ hx,aD.aI pX,zE,c1⟩,?_⟩
   rintro eS m aE J ⟨rfl,aeT,bw,ao,acc,xs,zP,v7,b2,Hq,zD,yI,aeW,hb⟩
   obtain ⟨R4,R5⟩:=rl J v7
   by_cases zr:eS<gm.length
   ·refine .inr ?_
    have az:gm[eS]?=some gm[eS]:=afQ zr
    rw[agJ zr,Jc]at hb
    obtain ⟨aL,bU⟩:=R4 eS _ az
    refine ⟨aL,fun bZ ag=>∃bw ao acc xs,M.st (bQ D (upd H1 D (.lst []))) (bQ D ag)/\(M.own D).aI cy ag/\(M.own D).ok ag ao/\cI (M.own D) ag bZ bw/\ag D=some (.lst xs)/\aP (M.own D) ag xs acc/\xs.length<=1000*i+(eS+1)/\jv mb cj e (gm.drop (eS+1)) bw acc ao (fun n9 nc kl=>j8 d1 t dP mb cj e (ds.drop (i+1)) n9 nc kl (fun acc a_=>aK (.d (.list acc)) a_)),fun bZ ag q=>⟨gm.length-(eS+1),by lia,rfl,zr,q⟩,fun x ag hy=>?_⟩
    obtain ⟨z1,z2,z3⟩:=(bU x ag hy).get v7 b2
    refine nr.o (M.own D) ((M.own D).eC b2 z2) (Hq.aI z1) z3 hb fun MR hQ MQ aeZ Sr Tf wh hE=>?_
    refine zB.o (M.own D) Tf wh hE fun b ek km v5 G8 la=>?_
    have tq:=(M.own D).trans z1 ((M.own D).trans Sr v5)
    have RQ:=tq.2 _ zD
    cases b with
    | true=>
     rw[afD rfl]
     refine he.o (M.own D) G8 (wh.aI v5) la fun y mf w S1 GP Tg UW sU=>?_
     obtain ⟨ue,rfl,sU⟩:=sU
     have v3:=(M.own D).trans tq GP
     have RR:=v3.2 _ zD
     refine ⟨xs,RR,by rw[afW];lia,?_⟩
     have nj:bQ D (upd mf D (.lst (xs++[y])))=bQ D mf:=lu
     have kw:(M.own D).aI mf (upd mf D (.lst (xs++[y]))):=by show M.aI (bQ D mf) (bQ D (upd mf D (.lst (xs++[y]))));rw[nj];exact M.cK _
     refine ⟨MQ,S1,acc++[ue],xs++[y],?_,(M.own D).gH v7 ((M.own D).gH ((M.own D).fi v3) kw),⟨by rw[nj];exact Tg.1,_,bo⟩,((wh.aI v5).aI GP).kw kw,bo,((yI.aI v3).append (.cons UW .nil)).kw kw,by rw[afZ];show xs.length+1<=_;lia,sU⟩
     rw[nj]
     exact M.trans zP v3.1
    | false=>
     rw[afC afT]
     exact ⟨MQ,km,acc,xs,M.trans zP tq.1,(M.own D).gH v7 ((M.own D).fi tq),G8,wh.aI v5,RQ,yI.aI tq,by lia,la⟩
   ·have cD:eS=gm.length:=by lia
    subst cD
    rw[ahc,JM]at hb
    exact .inl ⟨R5,bw,ao,acc,xs,zP,b2,Hq,zD,yI,by lia,hb⟩
  | false=>
   rw[afC afT]
   exact ⟨sk,cX,acc,xs,M.trans aI nz.1,mC,nC.aI iZ,zC,aD.aI nz,by lia,bS⟩
 ·have ai:i=ds.length:=by lia
  subst ai
  rw[ahc,JR]at h'
  rw[lu,jP bq]at aI
  refine .inl ⟨zI,⟨xs,hx⟩,?_⟩
  have z:=k D (bQ D J) xs acc ao (M.trans k1 aI) dR.1 jO (aD.bare bM bq (M.fi aI)) h'
  rw[J3 hx]at z;exact z⟩
theorem YC {cZ fj:TI}{g g2:dX}{tt hK:TT}{i:g4}{d1 mb:d2}(hi:lJ K cZ i)(hg:pB K g d1)(aH:cL K tt t)(lg:lJ K fj dP)(nr:pB K g2 mb)(zB:cL K hK cj)(he:a9 K a8 e):a9 K (uI cZ g tt fj g2 hK a8 is) (KR i d1 t dP mb cj e is):=(YH hi hg aH lg nr zB he).e
theorem Lo {g:d2}{t:dM}{e:cp}(P:Nat->bc->List PyData->Nat->Prop){Q:bc->List PyData->Nat->Prop}:∀{ds:ajz}{k:Nat}{δ:bc}{acc:ajz}{n:Nat},P k δ acc n->
  (∀(i:Nat)(d:PyData)(δ:bc)(acc:ajz)(n:Nat)(R:bc->List PyData->Nat->Prop),ds[i]?=some d->P (k+i) δ acc n->(∀bw eb ao,P (k+i+1) bw eb ao->R bw eb ao)->g d δ n fun bO a_=>t bO a_ fun b cc=>fo b (e bO cc fun w cX=>∃y,w=.d y/\R bO (acc++[y]) cX) (R bO acc cc))->
  (∀(δ:bc)(acc:ajz)(n:Nat),P (k+ds.length) δ acc n->Q δ acc n)->jv g t e ds δ acc n Q
 | [],k,δ,acc,n,h,_,q=>by rw[JM];exact q δ acc n h
 | d::ds,k,δ,acc,n,h,s,q=>by
  rw[Jc]
  refine s 0 d δ acc n (fun bO yj a_=>jv g t e ds bO yj a_ Q) rfl h fun bw eb ao h'=>?_
  refine Lo P (ds:=ds) (k:=k+1) h' (fun i d δ acc n R hd hp dF=>?_) (fun δ acc n hp=>?_)
  ·exact s (i+1) d δ acc n R hd (by rw[show k+(i+1)=k+1+i by lia];exact hp) fun bw eb ao h'=>dF bw eb ao (by rw[show k+1+i+1=k+(i+1)+1 by lia];exact h')
  ·exact q δ acc n (by rw[afX,show k+(ds.length+1)=k+1+ds.length by lia];exact hp)
theorem aao (P:Nat->bc->List PyData->Nat->Prop){Q:bc->List PyData->Nat->Prop}{acc:ajz}(h:P 0 δ acc n)
  (s:∀(i:Nat)(d:PyData)(δ:bc)(acc:ajz)(n:Nat)(R:bc->List PyData->Nat->Prop),ds[i]?=some d->P i δ acc n->(∀bw eb ao,P (i+1) bw eb ao->R bw eb ao)->g d δ n fun bO a_=>t bO a_ fun b cc=>fo b (e bO cc fun w cX=>∃y,w=.d y/\R bO (acc++[y]) cX) (R bO acc cc))
  (q:∀(δ:bc)(acc:ajz)(n:Nat),P ds.length δ acc n->Q δ acc n):jv g t e ds δ acc n Q:=
 Lo P (k:=0) h (fun i d δ acc n R hd hp dF=>s i d δ acc n R hd (by rwa [age]at hp) fun bw eb ao h'=>dF bw eb ao (by rwa [age])) (fun δ acc n hp=>q δ acc n (by rwa [age]at hp))
theorem LA {g:d2}{t:dM}{dP:g4}{g2:d2}{cj:dM}{e:cp}(P:Nat->bc->List PyData->Nat->Prop){Q:List PyData->Nat->Prop}:∀{ds:ajz}{k:Nat}{δ:bc}{acc:ajz}{n:Nat},P k δ acc n->
  (∀(i:Nat)(d:PyData)(δ:bc)(acc:ajz)(n:Nat)(R:bc->List PyData->Nat->Prop),ds[i]?=some d->P (k+i) δ acc n->(∀bw eb ao,P (k+i+1) bw eb ao->R bw eb ao)->g d δ n fun bO a_=>t bO a_ fun b cc=>fo b (dP bO cc fun gm cX=>gm.length<=1000/\jv g2 cj e gm bO acc cX R) (R bO acc cc))->
  (∀(δ:bc)(acc:ajz)(n:Nat),P (k+ds.length) δ acc n->Q acc n)->j8 g t dP g2 cj e ds δ acc n Q
 | [],k,δ,acc,n,h,_,q=>by rw[JR];exact q δ acc n h
 | d::ds,k,δ,acc,n,h,s,q=>by
  rw[Jg]
  refine s 0 d δ acc n (fun n9 nc kl=>j8 g t dP g2 cj e ds n9 nc kl Q) rfl h fun bw eb ao h'=>?_
  refine LA P (ds:=ds) (k:=k+1) h' (fun i d δ acc n R hd hp dF=>?_) (fun δ acc n hp=>?_)
  ·exact s (i+1) d δ acc n R hd (by rw[show k+(i+1)=k+1+i by lia];exact hp) fun bw eb ao h'=>dF bw eb ao (by rw[show k+1+i+1=k+(i+1)+1 by lia];exact h')
  ·exact q δ acc n (by rw[afX,show k+(ds.length+1)=k+1+ds.length by lia];exact hp)
theorem aax {g2:d2}(P:Nat->bc->List PyData->Nat->Prop){Q:List PyData->Nat->Prop}(h:P 0 δ [] n)
  (s:∀(i:Nat)(d:PyData)(δ:bc)(acc:ajz)(n:Nat)(R:bc->List PyData->Nat->Prop),ds[i]?=some d->P i δ acc n->(∀bw eb ao,P (i+1) bw eb ao->R bw eb ao)->g d δ n fun bO a_=>t bO a_ fun b cc=>fo b (dP bO cc fun gm cX=>gm.length<=1000/\jv g2 cj e gm bO acc cX R) (R bO acc cc))
  (q:∀(δ:bc)(acc:ajz)(n:Nat),P ds.length δ acc n->Q acc n):j8 g t dP g2 cj e ds δ [] n Q:=
 LA P (k:=0) h (fun i d δ acc n R hd hp dF=>s i d δ acc n R hd (by rwa [age]at hp) fun bw eb ao h'=>dF bw eb ao (by rwa [age])) (fun δ acc n hp=>q δ acc n (by rwa [age]at hp))
end
theorem XM {X:aO}{i:Nat}{x:Str}{hV l1:Pos}{elt iter bx dQ ix:Expr}{ifs eu:ajE}{scope:Scope}{pos:Pos}{cl:List (Str×Addr)}{N:ajD}{is:List (Option Nat)}{cZ fj:TI}{g g2:dX}{tt hK:TT}{a8:TE}(hN:X.N.Nodup)(pU:X.N[i]?=some x)(hx:X.env.scope.names.lookup x=some .local)(hc:X.calm=true)(k:oa X N is scope cl)(hi:jh X bx iter cZ)
  (hg:∀C bf bA ex E,lH (X.comp N scope cl C bf bA ex E) bx g)(hf:∀C bf bA ex E,qT (X.comp N scope cl C bf bA ex E) ifs tt)(lg:∀C bf bA ex E,jh (X.comp N scope cl C bf bA ex E) ix dQ fj)(nr:∀C bf bA ex E,lH (X.comp N scope cl C bf bA ex E) ix g2)(s9:∀C bf bA ex E,qT (X.comp N scope cl C bf bA ex E) eu hK)(he:∀C bf bA ex E,bI (X.comp N scope cl C bf bA ex E) elt a8)
  (fu:swapsWith (.ListComp elt [⟨bx,iter,ifs,0⟩,⟨ix,dQ,eu,0⟩] scope pos) (some (.Name x hV)) l1.line X.env=pure true:=by rfl)
  (hs:∀x,foldedSetIterable iter X.env x=pure x:=by intro _;rfl)(hs2:∀C x,foldedSetIterable dQ (compEnvC scope cl C X.env) x=pure x:=by intro _ _;rfl):gy X (.Assign [.Name x hV] (.ListComp elt [⟨bx,iter,ifs,0⟩,⟨ix,dQ,eu,0⟩] scope pos) l1) (mW (uI cZ g tt fj g2 hK a8 is) (kL i)):=
 ⟨YQ hN pU hx hc k hi.o (fun C bf bA ex E=>(hg C bf bA ex E).o) (fun C bf bA ex E=>(lg C bf bA ex E).o) (fun C bf bA ex E=>(nr C bf bA ex E).o) (fun C bf bA ex E=>(s9 C bf bA ex E).o) (fun C bf bA ex E=>(hf C bf bA ex E).o) (fun C bf bA ex E=>(he C bf bA ex E).o) fu hs hs2⟩
def Az:Nat->Nat
 | 0=>0
 | k+1=>Az k+((k+1)*2^40+2^40*Az k)
def dc:Nat->Nat
 | 0=>0
 | k+1=>(k+1)*2^40+2^40*Az k
section
variable {X:aO}{K:ajA}
def L9:V->List V->ah->bW->Prop:=fun x aa H Q=>∃(p:Addr) (ns:ajH) (k:Int) (j:Nat),x=.ref p/\aa=[.int k]/\H p=some (.lst (ns.map V.int))/\ns[j]?=some k/\(∀m,m<j->ns[m]?≠some k)/\Q (.int ((j:Nat):Int)) H
theorem Yr {ns:ajH}{us:ajC}(r:Vals (ns.map V.int) us){m:Nat}(h:m<us.length):∃n t,ns[m]?=some n/\us[m]=.int n t:=by
 have hl:ns.length=us.length:=by rw[<-r.length,afG]
 have hm:m<ns.length:=by lia
 obtain ⟨u,hu,t,rfl⟩:=r.get (i:=m) (x:=.int ns[m]) (by rw[af1,afQ hm];rfl)
 rw[afQ h]at hu
 exact ⟨_,t,afQ hm,agq hu⟩
theorem aai:x9 X "list.index" L9:=by
 intro pins s σ H x aa v us Q I aB bg h
 obtain ⟨p,ns,k,j,rfl,rfl,iV,hj,kg,q⟩:=h
 cases aB
 obtain ⟨u,rfl,t,rfl⟩:=bg.one
 obtain ⟨z,its,n,r,rg,e⟩:=I.v_ iV
 have hl:ns.length=its.length:=by rw[<-r.length,afG]
 obtain ⟨aeR,_⟩:=agf.mp hj
 have dO:ns.length<=16777216:=by rw[afG]at z;rw[afW]at z;lia
 have at_:∀m (hm:m<its.toArray.size),∃n t,ns[m]?=some n/\its.toArray[m]=.int n t:=fun m hm=>Yr r (by simpa using hm)
 refine agF F.slot_list_index ⟨_,e,rfl⟩ F.entry_list_index (F.args_list_index_2 _ _) (MeetsSeq.list_index p its.toArray n (.int k t) (isInt k) (fun y hy=>?_) j (by rw[afN];lia) ⋯ ?_ fun m hm RA=>?_) ⟨e,?_⟩
 ·obtain ⟨m,hm,rfl⟩:=Array.mem_iff_getElem.mp hy
  obtain ⟨ao,t',_,aU⟩:=at_ m hm
  rw[aU]
  exact MeetsSeq.EqGives.int ao k t' t
 ·obtain ⟨ao,t',ai,aU⟩:=at_ j (by rw[afN];lia)
  rw[aU]
  rw[hj]at ai;cases ai
  show (k == k)=true
  simp
 ·obtain ⟨ao,t',ai,aU⟩:=at_ m hm
  rw[aU]
  show (ao == k)=false
  exact agV.mpr fun z=>kg m RA (z▸ai)
 ·exact ⟨.int (j:Int),H,I.tok _,⟨s.toks,rfl⟩,q⟩
def adO:a4->List a4->Nat->b7->Prop:=fun x ys n Q=>∃(ns:ajH) (k:Int) (j:Nat),x=.d (.list (ns.map PyData.int))/\ys=[.d (.int k)]/\ns[j]?=some k/\(∀m,m<j->ns[m]?≠some k)/\Q (.d (.int ((j:Nat):Int))) n
def ac9 (a:cp)(b:eP):cp:=fun δ n Q=>a δ n fun x ax=>(∃ds,x=.d (.list ds))/\b δ ax fun ys a_=>adO x ys a_ Q
theorem ZD {m:Nat}{aC:TE}{aY:cP}{a:cp}{b:eP}(ha:a9 K aC a)(hb:e7 K m aY b):a9 K (wB K "list" L9 aC aY) (ac9 a b):=⟨fun M {σ δ H n Q aK} ok re h k=>by
 refine ha.o M ok re h fun x H1 w ax k1 bM au h1=>?_
 obtain ⟨⟨ds,rfl⟩,h1⟩:=h1
 obtain ⟨p,xs,rfl,hx,aD⟩:=au.lst_inv
 refine ⟨.inl ⟨rfl,xs,bP.of (hx _ (M.cK _))⟩,?_⟩
 refine hb.o M bM (re.aI k1) h1 fun aa ag ws a_ k2 fN bt hl h2=>?_
 obtain ⟨ns,kk,j,e,rfl,hj,kg,q⟩:=h2
 cases e
 obtain ⟨dy,afx,aU,tf,O3⟩:=(au.aI k2).lst_inv
 cases aU
 obtain rfl:=aP.ints O3
 cases bt with
 | cons r t=>
  cases t
  rw[r.int_inv]
  exact ⟨p,ns,kk,j,rfl,rfl,tf _ (M.cK _),hj,kg,k _ ag _ a_ (M.trans k1 k2) fN (a7.rw (.int _)) q⟩⟩
def gg (k:Int):List Int->Nat
 | []=>0
 | x::r=>if x=k then 0 else gg k r+1
theorem Kk {k:Int}:∀{l:ajH},k∈l->l[gg k l]?=some k
 | [],h=>by cases h
 | x :: r, h => by
  show (x::r)[if x=k then 0 else gg k r+1]?=some k
  by_cases c:x=k
  ·rw[afD c,c];rfl
  ·rw[afC c,aiA]
   exact Kk ((afP.mp h).resolve_left fun z=>c z.symm)
theorem Kj {k:Int}:∀{l:ajH}{m:Nat},m<gg k l->l[m]?≠some k
 | [],m,h=>by cases h
 | x :: r, m, h => by
  have h':m<if x=k then 0 else gg k r+1:=h
  by_cases c:x=k
  ·rw[afD c]at h';cases h'
  ·rw[afC c]at h'
   cases m with
   | zero=>intro z;exact c (agq z)
   | succ m=>rw[aiA];exact Kj ⋯
end
section
variable {X:aO}
theorem WR:typeLookup (.type "tuple") (dunderI "add")=pure none:=by rw[ahU,ahV];kernel_rfl
theorem Cp {prog:Program}{w:World}{A:Around}{E:ajv}{s:Shared}{B:Builtin}{a b:Value}{S:PySem.Spec}{Q:ajv}(ha:s.TypeIs a "tuple")(hb:s.TypeIs b "tuple")
  (entry:entryFor table "tuple.__add__"=some B)(args:argsOk "tuple.__add__" ⟨[a,b],[]⟩)(g:Meets (B ⟨[a,b],[]⟩) S)(h:S A (wants Q E) s):wpAny (model prog w) A (inplaceOp .Add a b) Q E s:=
 wpAny_inplaceOp_concat ha hb WR ah_ aia (agF aib ha entry args g h)
theorem aaq {K:ajA}(bL:X.K=K):pv X .Add (uT K):=by
 subst bL
 intro pins s σ H x y v u Q I aB aJ h
 obtain ⟨a,b,xs,ys,rfl,rfl,ha,hb,aZ,q⟩:=h
 cases aB
 cases aJ
 obtain ⟨its,au,dG,_⟩:=I.tuple ha
 obtain ⟨ip,bt,b8,_⟩:=I.tuple hb
 obtain ⟨⟨cls,dd,data,bR⟩,ho,hc,n,hd⟩:=id dG
 obtain ⟨⟨Fj,ov,data2,oP⟩,js,gD,a_,hd2⟩:=id b8
 simp only at hc hd gD hd2
 subst hc hd gD hd2
 by_cases hx:xs=[]
 ·have ed:its.toArray.isEmpty=true:=by rw[au.oF.mpr hx];rfl
  exact Cp ⟨_,ho,rfl⟩ ⟨_,js,rfl⟩ ahn (aho _ _) (tuple_addW0 a b its.toArray ip.toArray n a_ dd ov bR oP ed) ⟨ho,js,⟨.ref b,H,I,rfl,q b H (bb.refl _) (by rw[hx,agZ];exact hb)⟩⟩
 ·have hv:its≠[]:=fun z=>hx (au.oF.mp z)
  by_cases hw:ip=[]
  ·exact Cp ⟨_,ho,rfl⟩ ⟨_,js,rfl⟩ ahn (aho _ _)
    (tuple_addW1 a b its.toArray ip.toArray n a_ dd ov bR oP (by simpa using hv) (by simp[hw])) ⟨ho,js,⟨.ref a,H,I,rfl,q a H (bb.refl _) (by rw[bt.oF.mp hw,agc];exact ha)⟩⟩
  ·refine Cp ⟨_,ho,rfl⟩ ⟨_,js,rfl⟩ ahn (aho _ _)
    (tuple_addW2 a b its.toArray ip.toArray n a_ dd ov bR oP (by simpa using hv) (by simpa using hw) (by rw[afN,afN,<-au.length,<-bt.length];exact aZ)) ⟨ho,js,?_⟩
   have e:its.toArray++ip.toArray=(its++ip).toArray:=by simp
   rw[e]
   have fr:=I.aX.fresh (afE s.heap.objs.size)
   refine ⟨.ref s.heap.objs.size,_,I.laid (t':=s.toks) (o:=.tup (xs++ys)) (fun b b2 q=>afL _ q) (afE _) ?_,rfl,q _ _ (bY fr _) (bp.of bo)⟩
   exact ⟨by rw[afZ];exact aZ,_,au.append bt,ag7 _ _⟩
end
section
variable {K:ajA}{bF:fZ}{b:Bool}
def adG (b:Bool)(i:Nat)(a:fI->cp):eQ:=fun D δ n=>rK δ i fun v=>match v with
 | .d (.tuple x)=>a (n5 b (D.dz δ)) (jG b δ) n fun w ax=>match w with|.d (.tuple y)=>x.length+y.length<=1000000/\ry b y (D.nx (zs δ i (.d (.tuple (x++y)))) ax)|_=>False
 | _=>False
theorem ZA {i:Nat}{aC:TE}{a:fI->cp}(ha:m8 K bF aC a):gi K bF (xJ i aC (uT K)) (adG b i a):=⟨fun M {bC S H σ δ n D ea} s h k=>by
 obtain ⟨h5,e,h⟩:=xu h
 match h5,e,h with
 | .d (.tuple x), e, h =>
  obtain ⟨l,r⟩:=s.r
  obtain ⟨v,ai,gq⟩:=r.lk e
  refine ⟨_,ai,ha.at s h k fun y H1 w ax t s1 au h1=>?_⟩
  match w,au,h1 with
  | .d (.tuple z),au,h1=>
   obtain ⟨eL,U1⟩:=s1.r
   obtain ⟨jF,FC,US⟩:=U1.lk e
   rw[ai]at FC
   cases FC
   obtain ⟨p,xs,rfl,hx,aD⟩:=US.fS
   obtain ⟨q,ys,rfl,hy,gn⟩:=au.fS
   obtain ⟨dw,h2⟩:=aP.ry (s1.b.i0 false) gn h1.2
   refine ⟨p,q,xs,ys,rfl,rfl,hx _ ((M.cY S false).cK _),hy _ ((M.cY S b).cK _),by rw[aD.length,gn.length];exact uU h1.1,fun dy J e0 st=>?_⟩
   have bM:=s1.b.i0 false
   obtain ⟨cj,s2⟩:=s1.step (b:=false) ((M.cY S false).same e0) ((M.cY S false).eC bM e0)
   exact k.nx _ _ _ _ ax (t.trans cj s.b.ok) (s2.set (a7.rw (.tup (fun _ e=>st.tv ((M.cY S false).eC bM e0) e) ((aD.append dw).aI ((M.cY S false).same e0)))) i) h2⟩
variable {X:aO}
end
variable {m x n:Nat}{r a:ajH}{l:Int}
def jT (ns:ajH):Bool:=(List.range (ns.length-2)).all fun k=>decide (ns.getD k 0<ns.getD (k+1) 0) == decide (ns.getD (k+2) 0<ns.getD (k+1) 0)
def fl (r:ajH)(x:Int):Bool:=if r=[] then true else !(r.contains x)&&(decide (x<r.getD (r.length-1) 0) == decide (r.length%2=1))
def dS (m:Nat)(r:ajH):List Int:=((List.range m).map fun t:Nat=>(0+(t:Int))).filter fun x=>!(r.contains x)
theorem w1 (m:Nat)(r:ajH):dS (m+1) r=dS m r++(if (!(r.contains (0+(m:Int))))=true then [0+(m:Int)] else []):=by
 unfold dS
 rw[ahC,af9,ah0]
 congr 1
 cases h:!(r.contains (0+(m:Int))) with
 | true=>exact aix h
 | false=>exact aiy (by rw[h];decide)
theorem De (m:Nat)(r:ajH):(dS m r).length<=m:=by
 unfold dS
 refine afK (aje _ _) ?_
 rw[afG,agj];exact afE _
def g7 (aY:List (List Int))(m:Nat)(r:ajH)(x:Int):Int:=if fl r x=true then (let f:=dS m r;let row:=aY.getD (f.length-1) [];if r.length%2=0 then row.getD (gg x f) 0 else row.getD (row.length-1-gg x f) 0) else 0
theorem acP (h:(m:Int)∈r):dS (m+1) r=dS m r:=by
 rw[w1,ahg,agp.mpr h];exact agc _
theorem Ks (h:(m:Int)∉r):dS (m+1) r=dS m r++[(m:Int)]:=by
 have:r.contains (m:Int)=false:=by
  cases e:r.contains (m:Int) with
  | false=>rfl
  | true=>exact absurd (agp.mp e) h
 rw[w1,ahg,this];rfl
theorem y6 {x:Int}:x∈dS m r ↔ (0<=x/\x<m)/\x∉r:=by
 unfold dS
 rw[ah5,agd]
 constructor
 ·rintro ⟨⟨i,hi,rfl⟩,h⟩
  have:=afU.mp hi
  refine ⟨by lia,fun hm=>?_⟩
  rw[agp.mpr hm]at h;cases h
 ·rintro ⟨⟨h0,h1⟩,h⟩
  refine ⟨⟨x.toNat,afU.mpr ⋯,by lia⟩,?_⟩
  cases e:r.contains x with
  | false=>rfl
  | true=>exact absurd (agp.mp e) h
def ey (r:ajH)(t:Nat):Nat:=(dS t r).length
theorem r8 (h:(m:Int)∈r):ey r (m+1)=ey r m:=by unfold ey;rw[acP h]
theorem o6 (h:(m:Int)∉r):ey r (m+1)=ey r m+1:=by unfold ey;rw[Ks h,afZ];rfl
theorem JT {r:ajH}{s:Nat}:∀{t:Nat},s<=t->ey r s<=ey r t
 | 0,h=>by rw[Nat.le_zero.mp h];exact afE _
 | t+1, h => by
  by_cases c:s=t+1
  ·rw[c];exact afE _
  ·have bl:=JT (r:=r) (s:=s) (t:=t) ⋯
   by_cases m:(t:Int)∈r
   ·rw[r8 m];exact bl
   ·rw[o6 m];lia
theorem xt {y t:Nat}(h:y<t)(hy:(y:Int)∉r):ey r y<ey r t:=by
 have:=JT (r:=r) (s:=y+1) (t:=t) h
 rw[o6 hy]at this;lia
theorem JC {k:Int}:∀{a b:ajH},k∈a->gg k (a++b)=gg k a
 | [],b,h=>by cases h
 | x::a,b,h=>by
  show (if x=k then 0 else gg k (a++b)+1)=(if x=k then 0 else gg k a+1)
  by_cases c:x=k
  ·rw[afD c,afD c]
  ·rw[afC c,afC c,JC ((afP.mp h).resolve_left fun z=>c z.symm)]
theorem I5 {k:Int}:∀{a:ajH},k∉a->gg k (a++[k])=a.length
 | [],h=>by show (if k=k then 0 else _)=0;rw[afD rfl]
 | x::a,h=>by
  show (if x=k then 0 else gg k (a++[k])+1)=a.length+1
  rw[afC (fun e=>h (by rw[e];exact af6)),I5 (fun e=>h (af5 _ e))]
theorem C9 {r:ajH}{y:Nat}(hy:(y:Int)∉r):∀{t:Nat},y<t->gg (y:Int) (dS t r)=ey r y
 | 0,h=>by lia
 | t+1, h => by
  by_cases c:y=t
  ·subst c
   rw[Ks hy]
   exact I5 fun h=>by have:=(y6.mp h).1;lia
  ·have bl:=C9 hy (t:=t) ⋯
   have hm:(y:Int)∈dS t r:=y6.mpr ⟨by lia,hy⟩
   rw[w1,JC hm,bl]
theorem xe:∀t,ey [] t=t
 | 0=>rfl
 | t+1=>by rw[o6 (by simp),xe t]
theorem CN {r:ajH}{x:Nat}(hx:(x:Int)∉r):∀t,ey (r++[(x:Int)]) t+(if x<t then 1 else 0)=ey r t
 | 0=>by rw[afC ⋯];rfl
 | t+1 => by
  have bl:=CN hx t
  by_cases c:x=t
  ·subst c
   rw[afC ⋯]at bl
   rw[afD ⋯,r8 (by simp),o6 hx];lia
  ·have e:((t:Int)∈r++[(x:Int)]) ↔ (t:Int)∈r:=by simp;lia
   by_cases m:(t:Int)∈r
   ·rw[r8 (e.mpr m),r8 m]
    by_cases cB:x<t
    ·rw[afD cB]at bl;rw[afD ⋯];lia
    ·rw[afC cB]at bl;rw[afC ⋯];lia
   ·rw[o6 (fun h=>m (e.mp h)),o6 m]
    by_cases cB:x<t
    ·rw[afD cB]at bl;rw[afD ⋯];lia
    ·rw[afC cB]at bl;rw[afC ⋯];lia
def cF (g:Int->Int):Nat->Int
 | 0=>0
 | k+1=>cF g k+g (k:Int)
theorem xi {g:Int->Int}(h:∀y:Nat,0<=g (y:Int)){s:Nat}:∀{t:Nat},s<=t->cF g s<=cF g t
 | 0,e=>by rw[Nat.le_zero.mp e];exact agz _
 | t+1, e => by
  by_cases c:s=t+1
  ·rw[c];exact agz _
  ·have bl:=xi h (s:=s) (t:=t) ⋯
   have:=h t
   show _<=cF g t+g t;lia
theorem adV {g:Int->Int}(h:∀y:Nat,0<=g (y:Int))(t:Nat):0<=cF g t:=xi h (s:=0) (afY _)
def d9 (n:Nat):List (List Int):=(List.range (n+1)).map cu
theorem CW (h:m<=n):(d9 n).getD m []=cu m:=by
 unfold d9
 rw[afO,af1,agK ⋯];rfl
theorem Zv (n:Nat):(d9 n).length=n+1:=by unfold d9;rw[afG,agj]
abbrev cJ (n:Nat)(a:ajH):Int->Int:=g7 (d9 n) n a
def n8 (M:Nat)(a:ajH)(c:Nat):Int:=if a.length%2=0 then (cu (M-1)).getD c 0 else (cu (M-1)).getD (M-1-c) 0
theorem qu {x:Int}(h:fl a x=true):x∉a:=by
 by_cases c:a=[]
 ·rw[c];simp
 ·have e:fl a x=(!(a.contains x)&&(decide (x<a.getD (a.length-1) 0) == decide (a.length%2=1))):=afC c
  rw[e,afM]at h
  intro hm
  rw[agp.mpr hm]at h;cases h.1
theorem JJ (a:ajH)(x y:Int):fl (a++[x]) y=(!((a++[x]).contains y)&&(decide (y<x) == decide (a.length%2=0))):=by
 unfold fl
 rw[afC (by simp)]
 congr 2
 ·rw[afZ,afO];simp
 ·rw[afZ];show decide ((a.length+1)%2=1)=_
  by_cases c:a.length%2=0
  ·rw[afI c,afI ⋯]
  ·rw[afJ c,afJ ⋯]
theorem xE {y:Nat}(hy:y<n)(hm:fl a y=true):cJ n a y=n8 (ey a n) a (ey a y):=by
 have hn:=qu hm
 show g7 (d9 n) n a y=_
 unfold g7
 rw[afD hm]
 show (if a.length%2=0 then ((d9 n).getD ((dS n a).length-1) []).getD (gg (y:Int) (dS n a)) 0 else _)=_
 have hl:=De n a
 rw[C9 hn hy,CW ⋯,jM]
 have:=xt hy hn
 unfold n8
 show _=if _ then (cu ((dS n a).length-1)).getD _ 0 else (cu ((dS n a).length-1)).getD ((dS n a).length-1-_) 0
 rw[show (dS n a).length-1+1-1=(dS n a).length-1 by lia]
theorem uV {y:Int}(hm:fl a y=false):cJ n a y=0:=afC (by rw[hm];decide)
theorem Kc {row:ajH}(h:∀x∈row,0<=x):∀k,0<=ei row k
 | 0=>agz _
 | k+1 => by
  have:=Kc h k
  have h2:0<=row.getD (row.length-1-k) 0:=by
   by_cases c:row.length-1-k<row.length
   ·exact h _ (w0 c)
   ·rw[afO,agL ⋯];exact agz _
  show 0<=ei row k+_;lia
theorem J9:∀n,∀x∈cu n,0<=x
 | 0,x,h=>by rw[af2.mp h];decide
 | n+1,x,h=>by
  obtain ⟨k,_,rfl⟩:=agd.mp h
  exact Kc (J9 n) k
theorem aas {row:ajH}(h:∀x∈row,0<=x)(k:Nat):0<=row.getD k 0:=by
 by_cases c:k<row.length
 ·exact h _ (w0 c)
 ·rw[afO,agL ⋯];exact agz _
theorem DY (n:Nat)(a:ajH)(y:Int):0<=cJ n a y:=by
 show 0<=g7 (d9 n) n a y
 unfold g7
 have hl:=De n a
 split
 ·show 0<=(if a.length%2=0 then ((d9 n).getD ((dS n a).length-1) []).getD _ 0 else ((d9 n).getD ((dS n a).length-1) []).getD _ 0)
  rw[CW ⋯]
  split<;>exact aas (J9 _) _
 ·exact agz _
theorem CY {c:Nat}(h:c<=m+1):(cu (m+1)).getD c 0=ei (cu m) c:=by
 show (h8 (cu m)).getD c 0=_
 unfold h8
 rw[afO,af1,agK (by rw[jM];lia)];rfl
theorem KZ {n:Nat}{a:ajH}{x m:Nat}(hx:x<n)(hn:(x:Int)∉a)(he:a.length%2=0)(hm:ey (a++[(x:Int)]) n=m+1):∀t,t<=n->cF (cJ n (a++[(x:Int)])) t=ei (cu m) (if t<=x then ey (a++[(x:Int)]) t else ey (a++[(x:Int)]) x)
 | 0,_=>by rw[afD ⋯];rfl
 | t+1, aH => by
  have bl:=KZ hx hn he hm t ⋯
  show cF _ t+cJ n (a++[(x:Int)]) t=_
  have em:=JJ a (x:Int) (t:Int)
  rw[afI he]at em
  by_cases c:t<x
  ·rw[afD ⋯]at bl
   rw[afD ⋯,bl]
   by_cases hc:(t:Int)∈a++[(x:Int)]
   ·rw[agp.mpr hc]at em
    rw[uV em,r8 hc,ahh]
   ·have hG:(a++[(x:Int)]).contains (t:Int)=false:=by
     cases e:(a++[(x:Int)]).contains (t:Int) with
     | false=>rfl
     | true=>exact absurd (agp.mp e) hc
    rw[hG,afI (show (t:Int)<x by lia)]at em
    rw[xE ⋯ em,o6 hc]
    show _=ei _ _+_
    congr 1
    unfold n8
    rw[afC (by rw[afZ];show ¬(a.length+1)%2=0;lia),hm,jM];rfl
  ·rw[afC ⋯]
   have yM:fl (a++[(x:Int)]) t=false:=by
    rw[em,afJ (show ¬(t:Int)<x by lia)]
    cases (!(a++[(x:Int)]).contains (t:Int))<;>rfl
   rw[uV yM,ahh,bl]
   by_cases cB:t<=x
   ·rw[afD cB,show t=x by lia]
   ·rw[afC cB]
theorem KY {n:Nat}{a:ajH}{x m:Nat}(hx:x<n)(hn:(x:Int)∉a)(he:¬a.length%2=0)(hm:ey (a++[(x:Int)]) n=m+1):∀t,t<=n->cF (cJ n (a++[(x:Int)])) t+ei (cu m) (m+1-(if t<=x then ey (a++[(x:Int)]) x else ey (a++[(x:Int)]) t))=ei (cu m) (m+1-ey (a++[(x:Int)]) x)
 | 0,_=>by rw[afD ⋯];exact ahg _
 | t+1, aH => by
  have bl:=KY hx hn he hm t ⋯
  show cF _ t+cJ n (a++[(x:Int)]) t+_=_
  have em:=JJ a (x:Int) (t:Int)
  rw[afJ he]at em
  by_cases c:t<x
  ·rw[afD ⋯]at bl
   rw[afD ⋯]
   have yM:fl (a++[(x:Int)]) t=false:=by
    rw[em,afI (show (t:Int)<x by lia)]
    cases (!(a++[(x:Int)]).contains (t:Int))<;>rfl
   rw[uV yM,ahh,bl]
  ·rw[afC ⋯]
   by_cases hc:(t:Int)∈a++[(x:Int)]
   ·rw[agp.mpr hc]at em
    rw[uV em,r8 hc,ahh]
    by_cases cB:t<=x
    ·rw[afD cB]at bl;rw[show t=x by lia]at bl ⊢;exact bl
    ·rw[afC cB]at bl;exact bl
   ·have hG:(a++[(x:Int)]).contains (t:Int)=false:=by
     cases e:(a++[(x:Int)]).contains (t:Int) with
     | false=>rfl
     | true=>exact absurd (agp.mp e) hc
    rw[hG,afJ (show ¬(t:Int)<x by lia)]at em
    have cB:¬t<=x:=fun h=>hc (by rw[show t=x by lia];simp)
    rw[afC cB]at bl
    have lt:=xt (show t<n by lia) hc
    rw[hm]at lt
    rw[xE ⋯ em,o6 hc,<-bl]
    obtain ⟨c,lN⟩:∃c,ey (a++[(x:Int)]) t=c:=⟨_,rfl⟩
    rw[lN]at lt ⊢
    rw[show m+1-c=(m-c)+1 by lia,show m+1-(c+1)=m-c by lia]
    have ai:ei (cu m) (m-c+1)=ei (cu m) (m-c)+(cu m).getD c 0:=by
     show ei (cu m) (m-c)+(cu m).getD ((cu m).length-1-(m-c)) 0=_
     rw[jM,show m+1-1-(m-c)=c by lia]
    have az:n8 (ey (a++[(x:Int)]) n) (a++[(x:Int)]) c=(cu m).getD c 0:=by
     unfold n8
     rw[afD (by rw[afZ];show (a.length+1)%2=0;lia),hm];rfl
    rw[ai,az];lia
theorem J_ {n m:Nat}(hm:n=m+1):∀t,t<=n->cF (cJ n []) t+ei (cu m) (n-t)=ei (cu m) n
 | 0,_=>ahg _
 | t+1, aH => by
  have bl:=J_ hm t ⋯
  show cF _ t+cJ n [] t+_=_
  rw[xE ⋯ rfl,xe,xe,<-bl]
  have ai:ei (cu m) (n-t)=ei (cu m) (n-(t+1))+(cu m).getD t 0:=by
   rw[show n-t=(n-(t+1))+1 by lia]
   show ei (cu m) (n-(t+1))+(cu m).getD ((cu m).length-1-(n-(t+1))) 0=_
   rw[jM,show m+1-1-(n-(t+1))=t by lia]
  have az:n8 n [] t=(cu m).getD t 0:=by
   unfold n8
   rw[afD (show ([]:ajH).length%2=0 from rfl),hm];rfl
  rw[ai,az];lia
theorem Zt (h:0<n):cF (cJ n []) n=fR n:=by
 obtain ⟨m,rfl⟩:∃m,n=m+1:=⟨n-1,by lia⟩
 have:=J_ (n:=m+1) (m:=m) rfl (m+1) (afE _)
 rw[ahQ]at this
 have e:ei (cu m) 0=0:=rfl
 rw[e,ahh]at this
 rw[this]
 exact (CY (afE _)).symm
def jY (n:Nat)(a:ajH):Prop:=(∀z∈a,0<=z/\z<n)/\ey a n+a.length=n
def kT (n:Nat)(a:ajH):Int:=if a.length=n then 1 else cF (cJ n a) n
theorem jY.nil (n:Nat):jY n []:=⟨by simp,by rw[xe];rfl⟩
theorem jY.snoc (h:jY n a)(hx:x<n)(hn:(x:Int)∉a):jY n (a++[(x:Int)]):=by
 refine ⟨fun z aZ=>?_,?_⟩
 ·rcases agn.mp aZ with h1|h1
  ·exact h.1 z h1
  ·rw[af2.mp h1];lia
 ·have:=CN hn n
  rw[afD hx]at this
  have:=h.2
  rw[afZ];show _+(a.length+1)=n;lia
theorem CC (h:jY n a)(hx:x<n)(hm:fl a x=true):cJ n a x=kT n (a++[(x:Int)]):=by
 have hn:=qu hm
 have h2:=(h.snoc hx hn).2
 have h1:=h.2
 have aA:(a++[(x:Int)]).length=a.length+1:=by rw[afZ];rfl
 rw[aA]at h2
 have lt:=xt hx hn
 have yy:=CN hn x
 rw[afC ⋯,Nat.add_zero]at yy
 rw[xE hx hm]
 unfold kT
 rw[aA]
 by_cases c:a.length+1=n
 ·rw[afD c]
  have ai:ey a n=1:=by lia
  rw[ai]at lt ⊢
  rw[show ey a x=0 by lia]
  unfold n8
  split<;>rfl
 ·rw[afC c]
  obtain ⟨m,zu⟩:∃m,ey (a++[(x:Int)]) n=m+1:=⟨ey (a++[(x:Int)]) n-1,by lia⟩
  have ai:ey a n=m+2:=by lia
  rw[ai]at lt ⊢
  unfold n8
  by_cases he:a.length%2=0
  ·rw[afD he,KZ hx hn he zu n (afE _),afC ⋯,yy]
   exact CY ⋯
  ·rw[afC he]
   have:=KY hx hn he zu n (afE _)
   rw[afC ⋯,zu,ahQ,yy]at this
   have e:ei (cu m) 0=0:=rfl
   rw[e,ahh]at this
   rw[this]
   exact CY ⋯
def fm (n:Nat):List Int->List Int->Prop
 | _,[]=>True
 | a,x::t=>(0<=x/\x<n)/\fl a x=true/\fm n (a++[x]) t
def f9 (n:Nat):List Int->List Int->Int
 | _,[]=>0
 | a,x::t=>cF (cJ n a) x.toNat+f9 n (a++[x]) t
theorem fm.snoc {n:Nat}{x:Int}:∀{s a:ajH},fm n a s->(0<=x/\x<n)->fl (a++s) x=true->fm n a (s++[x])
 | [],a,_,h1,h2=>⟨h1,by rw[agc]at h2;exact h2,trivial⟩
 | y::s,a,h,h1,h2=>⟨h.1,h.2.1,fm.snoc h.2.2 h1 (by rw[ahr];exact h2)⟩
theorem Jx {n:Nat}{x:Int}:∀{s a:ajH},f9 n a (s++[x])=f9 n a s+cF (cJ n (a++s)) x.toNat
 | [],a=>by
  show cF (cJ n a) x.toNat+0=0+cF (cJ n (a++[])) x.toNat
  rw[agc];lia
 | y::s,a=>by
  show cF (cJ n a) y.toNat+f9 n (a++[y]) (s++[x])=cF (cJ n a) y.toNat+f9 n (a++[y]) s+_
  rw[Jx (s:=s) (a:=a++[y]),ahr]
  show _+(_+cF (cJ n (a++(y::s))) _)=_
  lia
theorem fm.G4 {n:Nat}:∀{s a:ajH},jY n a->fm n a s->jY n (a++s)
 | [],a,h,_=>by rw[agc];exact h
 | y::s,a,h,p=>by
  have e:y=((y.toNat:Nat):Int):=by have:=p.1;lia
  have h':=h.snoc (x:=y.toNat) (by have:=p.1;lia) (by rw[<-e];exact qu p.2.1)
  rw[<-e]at h'
  have:=fm.G4 h' p.2.2
  rw[ahr]at this
  exact this
theorem CE {n:Nat}:∀{t a:ajH},jY n a->fm n a t->a.length+t.length=n->0<=f9 n a t/\f9 n a t<kT n a
 | [],a,h,_,e=>by
  refine ⟨agz _,?_⟩
  have aU:a.length=n:=by simpa using e
  unfold kT
  rw[afD aU]
  show (0:Int)<1;decide
 | x :: t, a, h, p, e => by
  have ex:x=((x.toNat:Nat):Int):=by have:=p.1;lia
  have hx:x.toNat<n:=by have:=p.1;lia
  have hm:=p.2.1
  rw[ex]at hm
  have h':=h.snoc hx (qu hm)
  rw[<-ex]at h'
  rw[afX]at e
  obtain ⟨cU,c6⟩:=CE h' p.2.2 (by rw[afZ];show a.length+1+_=n;lia)
  have st:=CC h hx hm
  rw[<-ex]at st
  have s0:=adV (DY n a ·) x.toNat
  have s1:=xi (g:=cJ n a) (DY n a ·) (s:=x.toNat+1) (t:=n) ⋯
  have s2:cF (cJ n a) (x.toNat+1)=cF (cJ n a) x.toNat+cJ n a x:=by
   show _+cJ n a ((x.toNat:Nat):Int)=_;rw[<-ex]
  have k8:kT n a=cF (cJ n a) n:=afC ⋯
  show 0<=cF (cJ n a) x.toNat+f9 n (a++[x]) t/\cF (cJ n a) x.toNat+f9 n (a++[x]) t<_
  lia
def nA:List Int->List Int->Bool
 | [],[]=>false
 | [],_::_=>true
 | _::_,[]=>false
 | x::s,y::t=>if x=y then nA s t else decide (x<y)
theorem C5 {n:Nat}:∀{s t a:ajH},jY n a->fm n a s->fm n a t->a.length+s.length=n->s.length=t.length->nA s t=true->f9 n a s<f9 n a t
 | [],[],_,_,_,_,_,_,h=>by cases h
 | [],_::_,_,_,_,_,_,e,_=>by cases e
 | _::_,[],_,_,_,_,_,e,_=>by cases e
 | x :: s, y :: t, a, h, p, q, e, pJ, hl => by
  have ex:x=((x.toNat:Nat):Int):=by have:=p.1;lia
  have hx:x.toNat<n:=by have:=p.1;lia
  have hm:=p.2.1
  rw[ex]at hm
  have h':=h.snoc hx (qu hm)
  rw[<-ex]at h'
  rw[afX]at e
  rw[afX,afX]at pJ
  have aU:(a++[x]).length+s.length=n:=by rw[afZ];show a.length+1+_=n;lia
  have rg:(if x=y then nA s t else decide (x<y))=true:=hl
  show cF (cJ n a) x.toNat+f9 n (a++[x]) s<cF (cJ n a) y.toNat+f9 n (a++[y]) t
  by_cases c:x=y
  ·rw[afD c]at rg
   subst c
   have:=C5 h' p.2.2 q.2.2 aU ⋯ rg
   lia
  ·rw[afC c]at rg
   have lt:=afS rg
   have mr:y=((y.toNat:Nat):Int):=by have:=q.1;lia
   have hy:y.toNat<n:=by have:=q.1;lia
   have zt:=q.2.1
   rw[mr]at zt
   have h2:=h.snoc hy (qu zt)
   rw[<-mr]at h2
   obtain ⟨_,c6⟩:=CE h' p.2.2 aU
   obtain ⟨vp,_⟩:=CE h2 q.2.2 (by rw[afZ];show a.length+1+_=n;lia)
   have st:=CC h hx hm
   rw[<-ex]at st
   have s1:=xi (g:=cJ n a) (DY n a ·) (s:=x.toNat+1) (t:=y.toNat) ⋯
   have s2:cF (cJ n a) (x.toNat+1)=cF (cJ n a) x.toNat+cJ n a x:=by
    show _+cJ n a ((x.toNat:Nat):Int)=_;rw[<-ex]
   lia
theorem Lh:∀{s t:ajH},s.length=t.length->nA s t=false->s=t\/nA t s=true
 | [],[],_,_=>.inl rfl
 | [],_::_,e,_=>by cases e
 | _::_,[],e,_=>by cases e
 | x :: s, y :: t, e, h => by
  rw[afX,afX]at e
  have h':(if x=y then nA s t else decide (x<y))=false:=h
  by_cases c:x=y
  ·rw[afD c]at h'
   subst c
   rcases Lh ⋯ h' with rfl|dZ
   ·exact .inl rfl
   ·refine .inr ?_
    show (if x=x then nA t s else _)=true
    rw[afD rfl];exact dZ
  ·rw[afC c]at h'
   have:=ai6 h'
   refine .inr ?_
   show (if y=x then nA t s else decide (y<x))=true
   rw[afC (fun z=>c z.symm)]
   exact afI ⋯
theorem abR {s t:ajH}(p:fm n [] s)(q:fm n [] t)(ai:s.length=n)(az:t.length=n)(h:f9 n [] s=f9 n [] t):s=t:=by
 cases e:nA s t with
 | true=>
  have:=C5 (jY.nil n) p q (by simpa using ai) ⋯ e
  lia
 | false =>
  rcases Lh ⋯ e with rfl|dZ
  ·rfl
  ·have:=C5 (jY.nil n) q p (by simpa using az) ⋯ dZ
   lia
theorem fm.at {n:Nat}:∀{t a:ajH}{k:Nat},fm n a t->k<t.length->(0<=t.getD k 0/\t.getD k 0<n)/\fl (a++t.take k) (t.getD k 0)=true
 | [],_,_,_,h=>by cases h
 | x::t,a,0,p,_=>by
  rw[aiz,agc]
  exact ⟨p.1,p.2.1⟩
 | x::t,a,k+1,p,h=>by
  have:=fm.at (k:=k) p.2.2 (by rw[afX]at h;lia)
  rw[ahr]at this
  exact this
theorem adh (n:Nat):kT n []=fR n:=by
 unfold kT
 by_cases c:0<n
 ·rw[afC (by show ¬0=n;lia),Zt c]
 ·have:n=0:=by lia
  subst this;rfl
theorem DE (hx:x<n):fl a x=true->(x:Int)∈dS n a/\(dS n a).length<=(d9 n).length/\gg (x:Int) (dS n a)<((d9 n).getD ((dS n a).length-1) []).length:=fun hm=>by
 have hn:=qu hm
 have hl:=De n a
 have lt:=xt hx hn
 have lt':ey a x<(dS n a).length:=lt
 refine ⟨y6.mpr ⟨by lia,hn⟩,by rw[Zv];lia,?_⟩
 rw[C9 hn hx,CW ⋯,jM];lia
theorem LU (n:Nat):hq n=(d9 n).map dr:=by unfold hq d9;rw[agN];rfl
theorem adW (hx:x<n)(h:cF (cJ n a) (x+1)<=l)(hl:l<cF (cJ n a) n):x+1<n:=by
 rcases Nat.lt_or_ge (x+1) n with c|c
 ·exact c
 ·rw[show x+1=n by lia]at h;lia
theorem XA (p:fm n [] a)(hx:x<n)(h0:cF (cJ n a) x<=l)(h1:l-cF (cJ n a) x<cJ n a x):fm n [] (a++[(x:Int)])/\f9 n [] (a++[(x:Int)])=f9 n [] a+cF (cJ n a) x/\l-cF (cJ n a) x<kT n (a++[(x:Int)]):=by
 have hm:fl a x=true:=by
  cases e:fl a x with
  | true=>rfl
  | false=>rw[uV e]at h1;lia
 have mz:=fm.G4 (jY.nil n) p
 rw[agZ]at mz
 refine ⟨p.snoc ⋯ (by rw[agZ];exact hm),?_,?_⟩
 ·rw[Jx,agZ,ago]
 ·rw[<-CC mz hx hm];exact h1
end L2
namespace L2
def pk (d:PyData):Prop:=∀ds,d=.tuple ds->∀e∈ds,∀aA,e=.tuple aA->aA.length<=10000
end L2
namespace L2
structure pz (k:Nat)(A:Around):Prop where
 eI:A.depth+3*k+5<recursionLimit
 un:A.units+16*k+200<cLine
 ka:A.guards=some []
end L2
namespace L2
open PySem PyProof.Rows
def pJ (a:Array Keyed)(i:Nat):Keyed:=a[i]?.getD (.none,.none)
end L2
namespace L2
def zN (bC A B:ah):Prop:=∀b o,A b=some o->(bC b=none\/∀xs,o≠.lst xs)->B b=some o
theorem zN.same {bC A B:ah}(s:bb A B):zN bC A B:=fun b o h _=>s b o h
def afo (K:ajA)(bC:ah):cw K where
 val:=.bz
 ok H _:=bb bC H
 aI:=zN bC
 st:=bb
 fi h:=.same h
 cK _:=.same (bb.refl _)
 gH a b:=fun c o h z=>b c o (a c o h z) z
 refl:=bb.refl
 trans:=bb.trans
 same h:=h
 eC a b:=a.trans b
 newD:=fun ok bq _ e k=>k _ _ e (.inl (ok.none bq))
 oX:=fun {H n D cy} o _ bq k b u h=>by rw[br (eN h bq)];exact k b u h
 oY:=fun {H n D cy m} o ok bq k k5 b u h=>by rw[br (eN h (ok.none bq))];exact k5 b u h
 cR:=fun {H J n} _ k b xs h=>by
  rcases h with h|⟨o,h⟩
  ·exact .inl (k _ _ h (.inr fun xs e=>by cases e))
  ·exact .inr ⟨o,k _ _ h (.inr fun xs e=>by cases e)⟩
 mv:=fun {H n S A B} _ _ _ k b o h z=>by
  unfold cC at h ⊢
  by_cases c:S b
  ·rw[afD c]at h;cases h
  ·rw[afC c]at h ⊢;exact k b o h z
 mm:=fun _ k e=>k.none e
 tk:=0
 nK:=fun h=>by cases h
 p_:=fun h=>by cases h
 mI:=fun h=>by cases h
 oK:=fun h=>by cases h
end L2
namespace L2
section
variable {X:aO}
theorem pz.gG {k:Nat}{A:Around}{v:Option Value}(r:dI k A):pz k (A.mark v):=⟨r.eI,r.un,r.ka⟩
end
end L2
namespace L2
section
variable {X:aO}
theorem Xd {k:Nat}(hr:pz k X.A):fE X (.builtin "repr") (fun xs H Q=>∃x d k,xs=[x]/\aS X.K H x d/\oh d/\k=d.shown/\Q (.str k) H):=by
 intro pins s σ H xs us Q I r h
 obtain ⟨x,d,k,rfl,hd,S,rfl,q⟩:=h
 obtain ⟨u,rfl,aB⟩:=iB r
 have hu:X.A.units+64<cLine:=by have:=hr.un;lia
 have zv:=I.nodigits
 have fin:∀h' t tk,(∀b o,s.heap.get? b=some o->h'.get? b=some o)->gh X pins σ Q (.str d.shown t) {s with heap:=h',toks:=tk}:=fun h' t tk hk=>⟨.str d.shown,H,I.kept hk,⟨t,rfl⟩,q⟩
 cases hd with
 | bz=>cases aB;exact PySem.P.repr_of_none (fin s.heap _ _ fun _ _ e=>e)
 | aG b=>cases aB;exact PySem.P.repr_of_bool (fin s.heap _ _ fun _ _ e=>e)
 | int i=>
  obtain ⟨t,rfl⟩:=aB
  exact agy ⋯ (agS s i t) aie.toG (Cg zv (DF (by simpa only[d7] using S.bj)) ⟨_,_,rfl,fin s.heap _ _ fun _ _ e=>e⟩)
 | str y=>obtain ⟨t,rfl⟩:=aB;exact PySem.P.repr_of_str (fin s.heap _ _ fun _ _ e=>e) S.e1
 | lst h t =>
  rename_i a xs ds
  cases aB
  have d4:(listText (PyData.shownAll ds)).length<=sizeLine:=by simpa only[PyData.shown] using S.e1
  obtain ⟨its,bg,⟨o,n,e,c,_,dd⟩,_⟩:=I.list h
  obtain ⟨as,i2⟩:=I.readsAll t bg
  obtain ⟨bs,hb,hk⟩:=I.g_ t bg (by simpa only[d7] using S.bj) (fun t aH=>afK (aiS aH) d4)
  have f7:a∉bs:=agu (.list e c dd i2) (by simp only[PyData.depth];lia) hb
  have iW:=S.eI
  simp only[PyData.depth]at iW
  simp only[PyData.shown]at fin
  cases its with
  | nil=>
   cases i2
   simp only[PyData.shownAll,listText_nil]at fin
   exact agy ⋯ ⟨o,e,c⟩ aii.toG (call_list_repr_empty ⟨o,e,c⟩ e dd ⟨_,_,rfl,fin s.heap _ _ fun _ _ e=>e⟩)
  | cons y l=>
   exact agy ⋯ ⟨o,e,c⟩ aii.toG (call_list_reprK e c dd f7 (by simpa using hk.length_eq) (fun i y e=>hk.item i y (by simpa using e)) hr.ka (fun b _=>ag0 b) (by show X.A.units+1+_<cLine;lia) (fun _ _ e=>e) (fun h' u tk f6=>⟨_,_,rfl,fin h' u tk f6⟩) d4)
 | tup h t=>
  rename_i a xs ds
  cases aB
  have d4:(tupleText (PyData.shownAll ds)).length<=sizeLine:=by simpa only[PyData.shown] using S.e1
  obtain ⟨its,bg,⟨o,e,c,n,dd⟩,_⟩:=I.tuple h
  obtain ⟨as,i2⟩:=I.readsAll t bg
  obtain ⟨bs,hb,hk⟩:=I.g_ t bg (by simpa only[d7] using S.bj) (fun t aH=>afK (aiT aH) d4)
  have f7:a∉bs:=agu (.tuple e c dd i2) (by simp only[PyData.depth];lia) hb
  have iW:=S.eI
  simp only[PyData.depth]at iW
  simp only[PyData.shown]at fin
  exact agy ⋯ ⟨o,e,c⟩ F.slot_tuple_repr (call_tuple_reprK e c dd f7 hk hr.ka (fun b _=>ag0 b) (by show X.A.units+1+_<cLine;lia) (fun _ _ e=>e) (fun h' u tk f6=>⟨_,_,rfl,fin h' u tk f6⟩) d4)
 | e9 h kk t=>
  rename_i a kvs bT
  cases aB
  have d4:(dictText (PyData.shownKv bT)).length<=sizeLine:=by simpa only[PyData.shown] using S.e1
  obtain ⟨lU,hs2⟩:=ie.split (by simpa only[d7] using S.bj)
  obtain ⟨_,lV,aa,dk,o,aA,cV,e,x,da,_,av,_⟩:=(show c_ X.prog X.w H s.heap a (.cE kvs) from I.aX a _ h)
  obtain ⟨fy,bg⟩:=uf dk av
  obtain ⟨as,aL⟩:=I.readsAll kk fy
  obtain ⟨bs,bU⟩:=I.readsAll t bg
  obtain ⟨cU,kd,k1⟩:=I.g_ kk fy lU (fun t aH=>let ⟨p,hp,hl⟩:=aht bT t aH;afK hl (afK (agv hp) d4))
  obtain ⟨c6,ke,k2⟩:=I.g_ t bg hs2 (fun t aH=>let ⟨p,hp,hl⟩:=ahu bT t aH;afK hl (afK (agv hp) d4))
  have r:Reads s.heap (.ref a) (.dict bT) _:=.dict e x.1 da aL bU
  have hb:ReadAtMost s.heap (PyData.depthKv bT) (cU++c6):=(kd.mono (agw bT)).append (ke.mono (agx bT))
  have f7:a∉cU++c6:=agu r (by simp only[PyData.depth];lia) hb
  have iW:=S.eI
  simp only[PyData.depth]at iW
  simp only[PyData.shown,agG]at fin
  exact agy ⋯ ⟨o,e,x.1⟩ aij (aik e x.1 da lV f7 (ahv aA.toList _ _ (k1.more_le (fun b hb=>agA _ hb) (agw bT)) (k2.more_le (fun b hb=>af7 _ hb) (agx bT))) hr.ka (fun b _=>ag0 b) (by show X.A.units+1+_<cLine;lia) (fun _ _ e=>e) (fun h' u tk f6=>⟨_,_,rfl,fin h' u tk f6⟩) (by rw[<-agG];exact d4))
 | fs h kk t=>
  rename_i a b c bT
  cases aB
  have d4:(dictText (PyData.shownKv bT)).length<=sizeLine:=by simpa only[PyData.shown] using S.e1
  obtain ⟨lU,hs2⟩:=ie.split (by simpa only[d7] using S.bj)
  obtain ⟨⟨lV,o,aA,cV,e,x,da,fy,bg⟩,_⟩:=(show c_ X.prog X.w H s.heap a (ob a b c) from I.aX a _ h)
  obtain ⟨as,aL⟩:=I.readsAll kk fy
  obtain ⟨bs,bU⟩:=I.readsAll t bg
  obtain ⟨cU,kd,k1⟩:=I.g_ kk fy lU (fun t aH=>let ⟨p,hp,hl⟩:=aht bT t aH;afK hl (afK (agv hp) d4))
  obtain ⟨c6,ke,k2⟩:=I.g_ t bg hs2 (fun t aH=>let ⟨p,hp,hl⟩:=ahu bT t aH;afK hl (afK (agv hp) d4))
  have r:Reads s.heap (.ref a) (.dict bT) _:=.dict e x.1 da aL bU
  have hb:ReadAtMost s.heap (PyData.depthKv bT) (cU++c6):=(kd.mono (agw bT)).append (ke.mono (agx bT))
  have f7:a∉cU++c6:=agu r (by simp only[PyData.depth];lia) hb
  have iW:=S.eI
  simp only[PyData.depth]at iW
  simp only[PyData.shown,agG]at fin
  exact agy ⋯ ⟨o,e,x.1⟩ aij (aik e x.1 da lV f7 (ahv aA.toList _ _ (k1.more_le (fun b hb=>agA _ hb) (agw bT)) (k2.more_le (fun b hb=>af7 _ hb) (agx bT))) hr.ka (fun b _=>ag0 b) (by show X.A.units+1+_<cLine;lia) (fun _ _ e=>e) (fun h' u tk f6=>⟨_,_,rfl,fin h' u tk f6⟩) (by rw[<-agG];exact d4))
theorem Cq {k:Nat}{K:ajA}(bL:X.K=K)(hr:pz k X.A):fE X (.builtin "repr") (fun xs H Q=>∃x d k,xs=[x]/\aS K H x d/\oh d/\k=d.shown/\Q (.str k) H):=by
 subst bL
 exact Xd hr
end
variable {X:aO}{K:ajA}{S:Addr->Prop}
theorem YM {T:String}{name:Str}{id:String}(bL:X.K=K){r:V->List V->ah->bW->Prop}{o:Expr}{to:TE}{apos:Pos}{eG:Pos}(pa:PlainAttrs T)(slot:Slot T name id)(hty:typeOf (.builtin id)=pure (.type "method_descriptor"))(hm:qQ X id r)(ho:bI X o to)(hbase:attributeBase o name X.env (eval o X.env)=eval o X.env:=by rfl)(hline:(apos.endLine == eG.line)=true:=by rfl):bI X (.Call (.Attribute o name apos) [] [] eG) (Ee K T r to):=by
 subst bL
 exact ZQ pa slot hty hm ho hbase hline
theorem acy (bL:X.K=K):dh X (compareOp .In) (rz K false):=by subst bL;exact XY
def zO (S:Addr->Prop)(bC A B:ah):Prop:=∀b o,A b=some o->(bC b=none\/(∀xs,o≠.lst xs)\/S b)->B b=some o
theorem zO.same {bC A B:ah}(s:bb A B):zO S bC A B:=fun b o h _=>s b o h
def qh (K:ajA)(S:Addr->Prop)(bC:ah):cw K where
 val:=.bz
 ok H _:=bb bC H
 aI:=zO S bC
 st:=bb
 fi h:=.same h
 cK _:=.same (bb.refl _)
 gH a b:=fun c o h z=>b c o (a c o h z) z
 refl:=bb.refl
 trans:=bb.trans
 same h:=h
 eC a b:=a.trans b
 newD:=fun ok bq _ e k=>k _ _ e (.inl (ok.none bq))
 oX:=fun {H n D cy} o _ bq k b u h=>by rw[br (eN h bq)];exact k b u h
 oY:=fun {H n D cy m} o ok bq k k5 b u h=>by rw[br (eN h (ok.none bq))];exact k5 b u h
 cR:=fun {H J n} _ k b xs h=>by
  rcases h with h|⟨o,h⟩
  ·exact .inl (k _ _ h (.inr (.inl fun xs e=>by cases e)))
  ·exact .inr ⟨o,k _ _ h (.inr (.inl fun xs e=>by cases e))⟩
 mv:=fun {H n S A B} _ _ _ k b o h z=>by
  unfold cC at h ⊢
  by_cases c:S b
  ·rw[afD c]at h;cases h
  ·rw[afC c]at h ⊢;exact k b o h z
 mm:=fun _ k e=>k.none e
 tk:=0
 nK:=fun h=>by cases h
 p_:=fun h=>by cases h
 mI:=fun h=>by cases h
 oK:=fun h=>by cases h
theorem aat {bC J:ah}{a:Addr}{ds:ajz}(h:a7 (qh K S bC) J (.ref a) (.list ds)):(bC a=none\/S a)/\∃xs,J a=some (.lst xs)/\aP (qh K S bC) J xs ds:=by
 cases h with
 | @lst _ xs _ h t =>
  have e:=h _ ((qh K S bC).cK _)
  refine ⟨?_,xs,e,t⟩
  cases aZ:bC a with
  | none=>exact .inl rfl
  | some o =>
   refine .inr (Classical.byContradiction fun S2=>?_)
   have:=h (upd J a (.lst (xs++[.bz]))) (fun b u hb z=>by
    by_cases c:b=a
    ·subst c
     rw[e]at hb
     cases hb
     rcases z with z|z|z
     ·rw[aZ]at z;cases z
     ·exact absurd rfl (z _)
     ·exact absurd z S2
    ·rw[br c];exact hb)
   rw[bo]at this
   have:=congrArg (fun o=>match o with|some (dT.lst l)=>l.length|_=>0) this
   simp at this
mutual
def gx:PyData->Bool
 | .list xs=>xs.all fun d=>match d with|.int _=>true|_=>false
 | .tuple xs=>h9 xs
 | .dict kvs=>u6 kvs
 | _=>true
def h9:List PyData->Bool
 | []=>true
 | x::xs=>gx x&&h9 xs
def u6:List (PyData×PyData)->Bool
 | []=>true
 | (k,v)::r=>gx k&&(gx v&&u6 r)
end
theorem uv:∀{bT:List (PyData×PyData)},u6 bT=true->h9 (bT.map (·.1))=true/\h9 (bT.map (·.2))=true
 | [],_=>⟨by simp only[agt,h9],by simp only[agt,h9]⟩
 | (k,v)::r,h=>by
  have h':gx k=true/\gx v=true/\u6 r=true:=by simpa only[u6,afM] using h
  obtain ⟨a,b⟩:=uv h'.2.2
  exact ⟨by simp only[af8,h9,afM];exact ⟨h'.1,a⟩,by simp only[af8,h9,afM];exact ⟨h'.2.1,b⟩⟩
theorem IF:∀{xs:ajz},(xs.all fun d=>match d with|.int _=>true|_=>false)=true->∃ns:List Int,xs=ns.map PyData.int
 | [],_=>⟨[],rfl⟩
 | d::xs,h=>by
  rw[ag_,afM]at h
  obtain ⟨ns,rfl⟩:=IF h.2
  cases d with
  | int i=>exact ⟨i::ns,rfl⟩
  | _=>cases h.1
def xS (H:ah)(b:Addr):Prop:=∃ns:List Int,H b=some (.lst (ns.map V.int))
section
variable {K:ajA}{M:cw K}{H:ah}{n:Nat}
mutual
theorem a7.mH (ok:M.ok H n):∀{v:V}{d:PyData},a7 M H v d->gx d=true->a7 (qh K (xS H) H) H v d
 | _,_,.bz,_=>.bz
 | _,_,.aG b,_=>.aG b
 | _,_,.int i,_=>.int i
 | _,_,.str x,_=>.str x
 | _,_,.lst h t,z=>by
  have e:=h _ (M.cK _)
  obtain ⟨ns,rfl⟩:=IF (by simpa only[gx] using z)
  have ev:=t.ints
  subst ev
  exact .lst (fun ag k=>k _ _ e (.inr (.inr ⟨ns,e⟩))) (ux ns)
 | _, _, .tup h t, z => .tup (fun ag k => by
   have q:=h _ (M.cK _)
   refine q.imp (fun r=>r.imp (fun r=>k _ _ r (.inr (.inl fun xs e=>by cases e))) fun ⟨o,r⟩=>⟨o,k _ _ r (.inr (.inl fun xs e=>by cases e))⟩) id) (aP.mH ok t (by simpa only[gx] using z))
 | _,_,.e9 h a t,z=>.e9 (fun ag k=>k _ _ (h _ (M.cK _)) (.inr (.inl fun xs e=>by cases e))) (aP.mH ok a (uv (by simpa only[gx] using z)).1) (aP.mH ok t (uv (by simpa only[gx] using z)).2)
 | _,_,.fs h a t,z=>.fs (fun ag k=>k _ _ (h _ (M.cK _)) (.inr (.inl fun xs e=>by cases e))) (aP.mH ok a (uv (by simpa only[gx] using z)).1) (aP.mH ok t (uv (by simpa only[gx] using z)).2)
theorem aP.mH (ok:M.ok H n):∀{aa:List V}{ds:ajz},aP M H aa ds->h9 ds=true->aP (qh K (xS H) H) H aa ds
 | _,_,.nil,_=>.nil
 | _,_,.cons (d:=d) (ds:=ds) h t,z=>by
  have dO:gx d=true/\h9 ds=true:=by simpa only[h9,afM] using z
  exact .cons (a7.mH ok h dO.1) (aP.mH ok t dO.2)
end
end
theorem XH {K:ajA}{z:Str}{j:Int}:a9 K (DP [(gv (.str z),u4 (r_ (gv (.int j)) se))]) (qA (.dict [(.str z,.list [.int j])])):=⟨fun M {σ δ H n Q aK} ok re h k p hp=>by
 refine ⟨my,fun b8 eK=>?_⟩
 have ne:b8≠p:=fun e=>by rw[e,bo]at eK;cases eK
 rw[br ne]at eK
 have ed:upd (upd (upd H p (.cE [])) b8 (.lst [.int j])) p (.cE [(.inr z,.ref b8)])=upd (upd H b8 (.lst [.int j])) p (.cE [(.inr z,.ref b8)]):=by
  funext b
  by_cases h1:b=p
  ·rw[h1,bo,bo]
  ·rw[br h1,br h1]
   by_cases h2:b=b8
   ·rw[h2,bo,bo]
   ·rw[br h2,br h1,br h2]
 have ju:upd H b8 (.lst [.int j]) p=none:=by rw[br (af_ ne)];exact hp
 have s1:bb H (upd (upd H b8 (.lst [.int j])) p (.cE [(.inr z,.ref b8)])):=(bY eK _).trans (bY ju _)
 refine ⟨by rw[br (af_ ne)];exact bo,[(.inr z,.ref b8)],rfl,by show 1<=15;decide,?_⟩
 show Q (.ref p) (upd (upd (upd H p (.cE [])) b8 (.lst [.int j])) p (.cE [(.inr z,.ref b8)]))
 rw[ed]
 exact k.kr ok s1 (.e9 (kvs:=[(.inr z,.ref b8)]) (bT:=[(.str z,.list [.int j])]) (fun _ e=>M.newD ok hp (M.fi (M.same s1)) bo e) (.cons (.str z) .nil) (.cons (.lst (fun _ e=>M.newD ok eK (M.fi (M.same s1)) (by rw[br ne];exact bo) e) (.cons (.int j) .nil)) .nil)) h⟩
def du (x:Str):Prop:=∀c∈x.cps.toList,c<0x110000
theorem du.app {x y:Str}(h:du x)(g:du y):du (x++y):=fun c hc=>by
 rw[Str.cps_append,Array.toList_append]at hc
 exact (agn.mp hc).elim (h c) (g c)
theorem du.lit (x:String):du (Str.ofString x):=by
 intro c hc
 rw[Str.ofString_eq_toList]at hc
 simp only[agd]at hc
 obtain ⟨k,_,e⟩:=hc
 have v:=k.valid
 rw[<-e]
 show k.val.toNat<0x110000
 unfold UInt32.isValidChar Nat.isValidChar at v
 lia
theorem du.join:∀{ts:ajD},(∀t∈ts,du t)->du (Str.join ", " ts)
 | [],_=>by intro c hc;cases hc
 | [x],h=>h x (af6 ..)
 | x::y::r,h=>((h x (af6 ..)).app (du.lit ", ")).app (du.join fun t aH=>h t (af5 _ aH))
theorem du.from:∀{ts:ajD}{k:Nat}{acc:Str},du acc->(∀t∈ts,du t)->du (textFrom k acc ts)
 | [],_,_,h,_=>h
 | t::ts,k,acc,h,g=>du.from (ts:=ts) (k:=k+1) ((h.app (du.lit _)).app (g t (af6 ..))) fun x hx=>g x (af5 _ hx)
theorem du.ok {x:Str}(h:du x):PyData.strOk x=true:=by
 unfold PyData.strOk
 rw[aju]
 intro c hc
 exact afI (h c (aiL.mpr hc))
theorem du.of {x:Str}(h:PyData.strOk x=true):du x:=fun c hc=>by
 unfold PyData.strOk at h
 exact afS (aju.mp h c (aiL.mp hc))
mutual
def dt:PyData->Bool
 | .str x=>PyData.strOk (PyData.str x).shown
 | .list xs=>iN xs
 | .tuple xs=>iN xs
 | .dict kvs=>oj kvs
 | .none=>true
 | .bool _=>true
 | .int _=>true
def iN:List PyData->Bool
 | []=>true
 | x::xs=>dt x&&iN xs
def oj:List (PyData×PyData)->Bool
 | []=>true
 | (k,v)::r=>dt k&&(dt v&&oj r)
end
mutual
theorem dt.aa:∀{d:PyData},dt d=true->du d.shown
 | .none,_=>by simp only[PyData.shown];exact du.lit _
 | .bool _,_=>by simp only[PyData.shown];split<;>exact du.lit _
 | .int _,_=>by simp only[PyData.shown];exact du.lit _
 | .str x,h=>du.of (by simpa only[dt] using h)
 | .list xs,h=>by
  simp only[PyData.shown]
  exact (du.from (du.lit "[") (iN.aa (by simpa only[dt] using h))).app (du.lit "]")
 | .tuple xs,h=>by
  simp only[PyData.shown]
  exact ((du.lit "(").app (du.join (iN.aa (by simpa only[dt] using h)))).app (du.lit _)
 | .dict kvs,h=>by
  simp only[PyData.shown]
  exact ((du.lit "{").app (du.join (oj.aa (by simpa only[dt] using h)))).app (du.lit "}")
theorem iN.aa:∀{ds:ajz},iN ds=true->∀t∈PyData.shownAll ds,du t
 | [],_,t,aH=>by simp only[PyData.shownAll]at aH;cases aH
 | d::ds,h,t,aH=>by
  have h':dt d=true/\iN ds=true:=by simpa only[iN,afM] using h
  simp only[PyData.shownAll]at aH
  rcases afP.mp aH with rfl|aH
  ·exact dt.aa h'.1
  ·exact iN.aa h'.2 t aH
theorem oj.aa:∀{ds:List (PyData×PyData)},oj ds=true->∀t∈PyData.shownKv ds,du t
 | [],_,t,aH=>by simp only[PyData.shownKv]at aH;cases aH
 | (k,v)::r,h,t,aH=>by
  have h':dt k=true/\dt v=true/\oj r=true:=by simpa only[oj,afM] using h
  simp only[PyData.shownKv]at aH
  rcases afP.mp aH with rfl|aH
  ·exact ((dt.aa h'.1).app (du.lit ": ")).app (dt.aa h'.2.1)
  ·exact oj.aa h'.2.2 t aH
end
theorem xm {α:Type}{f:α->PyData}(h:∀a,dt (f a)=true):∀l:List α,iN (l.map f)=true
 | []=>by simp only[agt,iN]
 | a::l=>by simp only[af8,iN,afM];exact ⟨h a,xm h l⟩
theorem h7 (i:Int):dt (.int i)=true:=by simp only[dt]
theorem o4 (l:ajH):dt (.tuple (l.map PyData.int))=true:=by simp only[dt];exact xm h7 l
theorem kH {a b:PyData}(h1:dt a=true)(h2:dt b=true):dt (.tuple [a,b])=true:=by simp only[dt,iN,afM];exact ⟨h1,h2,trivial⟩
end L2
local macro_rules | `(tactic| walk_at "rd") => `(tactic| first | refine ⟨_, rfl, ?_⟩ | refine ⟨_, _, rfl, rfl, ?_⟩ | refine ⟨rfl, ?_⟩ | refine ⟨_, _, _, _, rfl, rfl, (by assumption), L2.nf, ?_⟩ | refine ⟨_, _, _, _, rfl, rfl, (by assumption), L2.j3, ?_⟩ | refine ⟨(show (0 : Int) < _ by first | decide | lia), ?_⟩ | refine ⟨⟨by decide, by decide⟩, ?_⟩ | refine ⟨⟨by decide, by decide, by decide⟩, ?_⟩ | refine ⟨.inl ⟨by decide, by decide⟩, ?_⟩ | refine ⟨.inr ⟨by decide, by decide⟩, ?_⟩ | refine ⟨L2.my, ?_⟩ | refine ⟨L2.jx, ?_⟩)
local macro_rules | `(tactic| walk_at "zz") => `(tactic| first | refine L2.ko ?_ | refine L2.iw ?_ | refine L2.kp ?_ | refine L2.Hm ?_ | refine L2.Ap ?_ | refine L2.afc ?_ | refine L2.Hl ?_ | refine L2.tP ?_ | refine L2.Hn ?_ | refine L2.afd ?_ | refine L2.ae_ ?_ | refine L2.ae9 ?_ | refine L2.An ?_ | refine L2.we ?_ | refine L2.ae8 ?_ | refine L2.afg ?_ | refine L2.afe ?_ | refine L2.aff ?_ | refine L2.afb ?_ | refine L2.afa ?_ | refine L2.Ao ?_ | refine L2.ae7 ?_ | refine L2.lZ (by first | decide | lia) ?_ | refine L2.i1 rfl ?_ | refine L2.wg rfl ?_)
local macro_rules | `(tactic| walk_at "lc") => `(tactic| first | exact Or.inl rfl | exact Or.inr rfl)
local macro_rules | `(tactic| walk_at "sc") => `(tactic| exact ⟨rfl,rfl,rfl,by decide +kernel,rfl,by decide +kernel,by decide +kernel⟩)
theorem bl_1 {A:Type}{us:List A}(h:us.length=1):∃a,us=[a]:=by rcases us with _|⟨a,_|_⟩<;>simp_all
theorem bl_2 {A:Type}{us:List A}(h:us.length=2):∃a b,us=[a,b]:=by rcases us with _|⟨a,_|⟨b,_|_⟩⟩<;>simp_all
theorem bl_3 {A:Type}{us:List A}(h:us.length=3):∃a b c,us=[a,b,c]:=by rcases us with _|⟨a,_|⟨b,_|⟨c,_|_⟩⟩⟩<;>simp_all
set_option hygiene false
local macro_rules | `(tactic| walk_at "b1") => `(tactic| (intro _ _ _ _ _ _ us hl;obtain ⟨_,rfl⟩:=bl_1 hl;rfl))
local macro_rules | `(tactic| walk_at "b2") => `(tactic| (intro _ _ _ _ _ _ us hl;obtain ⟨_,_,rfl⟩:=bl_2 hl;rfl))
local macro_rules | `(tactic| walk_at "b3") => `(tactic| (intro _ _ _ _ _ _ us hl;obtain ⟨_,_,_,rfl⟩:=bl_3 hl;rfl))
set_option hygiene true
local macro_rules | `(tactic| walk_at "do") => `(tactic| first|decide|lia)
namespace My
open PySem.W (nsIn mg_of fnOf keepIn codeIn kitOne mg_none_of findIn)
set_option maxHeartbeats 4000000
open PySem L2
def top (i:Nat):Stmt:=PySem.Challenge.pw_powerrests_k80_stays_again_shared.main.body.getD i (.Pass ⟨0,0,0,0⟩)
abbrev Ba:Stmt:=top 7
abbrev A6:Stmt:=top 8
abbrev AU:Stmt:=top 10
abbrev A5:Stmt:=top 11
abbrev A7:Stmt:=top 12
abbrev Bc:Stmt:=top 13
abbrev Bq:Stmt:=top 16
abbrev AW:Stmt:=top 17
abbrev By:Stmt:=top 19
abbrev AB:Stmt:=top 22
abbrev AD:Stmt:=top 23
abbrev AL:Stmt:=top 25
abbrev Bw:Stmt:=top 29
abbrev Bx:Stmt:=top 30
abbrev BF:Stmt:=top 31
abbrev BG:Stmt:=top 32
abbrev BB:Stmt:=top 33
abbrev Bt:Stmt:=top 34
abbrev Bo:Stmt:=top 35
abbrev Bm:Stmt:=top 37
abbrev AJ:Stmt:=top 38
abbrev A9:Stmt:=top 39
abbrev AR:Stmt:=top 41
abbrev Bp:Stmt:=top 42
abbrev A2:Stmt:=top 43
abbrev AZ:Stmt:=top 44
abbrev A4:Stmt:=top 46
abbrev AP:Stmt:=top 47
abbrev BD:Stmt:=top 50
abbrev Be:Stmt:=top 51
abbrev Bf:Stmt:=top 52
abbrev BA:Stmt:=top 53
abbrev Bk:Stmt:=top 54
abbrev Br:Stmt:=top 55
abbrev Bu:Stmt:=top 58
abbrev Bj:Stmt:=top 59
abbrev AY:Stmt:=top 60
abbrev AM:Stmt:=top 62
abbrev AO:Stmt:=top 63
abbrev Bv:Stmt:=top 64
abbrev Bn:Stmt:=top 66
abbrev Bz:Stmt:=top 67
abbrev A3:Stmt:=top 68
abbrev A_:Stmt:=top 69
abbrev Bl:Stmt:=top 71
abbrev AI:Stmt:=top 72
abbrev AH:Stmt:=top 73
abbrev Bs:Stmt:=top 74
abbrev AK:Stmt:=top 76
abbrev Bd:Stmt:=top 77
abbrev Bi:Stmt:=top 78
abbrev A8:Stmt:=top 79
abbrev AG:Stmt:=top 81
abbrev AX:Stmt:=top 82
abbrev AE:Stmt:=top 83
abbrev A1:Stmt:=top 85
abbrev AS:Stmt:=top 86
abbrev A0:Stmt:=top 87
abbrev Bh:Stmt:=top 88
abbrev BE:Stmt:=top 89
abbrev BC:Stmt:=top 90
abbrev AF:Stmt:=top 92
abbrev AQ:Stmt:=top 93
abbrev Bb:Stmt:=top 94
abbrev Bg:Stmt:=top 95
abbrev AN:Stmt:=top 96
abbrev AV:Stmt:=top 97
abbrev nD:Stmt:=top 98
abbrev aX0 (K:ajA)(mg:ajy)(y:Str)(st:Stmt):Prop:=Src K mg y y st
structure Txt (K:ajA)(mg:ajy):Prop where
 P8:aX0 K mg "is_whole" Ba
 P2:aX0 K mg "are_whole" A6
 PQ:aX0 K mg "row_by_steps" AU
 P1:aX0 K mg "row_by_sums" A5
 P4:aX0 K mg "table_to" A7
 P_:aX0 K mg "turns_of" Bc
 Qn:aX0 K mg "lets_table" Bq
 PS:Src K mg "has_shape_tablejudge" "has_shape" AW
 Qw:aX0 K mg "due_behind" By
 Py:aX0 K mg "is_prime" AB
 Pz:aX0 K mg "primes_to" AD
 PH:aX0 K mg "choose" AL
 Qu:aX0 K mg "common_of" Bw
 Qv:aX0 K mg "lowest" Bx
 QD:aX0 K mg "plus" BF
 QE:aX0 K mg "minus" BG
 Qz:aX0 K mg "times" BB
 Qq:aX0 K mg "power_of" Bt
 Ql:aX0 K mg "whole_of" Bo
 Qj:aX0 K mg "step_of" Bm
 PF:aX0 K mg "row_to" AJ
 P6:aX0 K mg "number_at" A9
 PN:aX0 K mg "primes_beneath" AR
 Qm:aX0 K mg "whole_at" Bp
 PY:aX0 K mg "with_parts" A2
 PV:aX0 K mg "beneath_paper" AZ
 P0:aX0 K mg "lets_beneath" A4
 PL:Src K mg "has_shape_beneathjudge" "has_shape" AP
 QB:aX0 K mg "is_turn" BD
 Qb:aX0 K mg "has_each_once" Be
 Qc:aX0 K mg "turns_within" Bf
 Qy:aX0 K mg "goes_down" BA
 Qh:aX0 K mg "turns_down" Bk
 Qo:aX0 K mg "may_follow" Br
 Qs:aX0 K mg "turn_at" Bu
 Qg:aX0 K mg "place_of" Bj
 PU:aX0 K mg "how_many_begin" AY
 PI:aX0 K mg "rest_of" AM
 PK:aX0 K mg "rest_of_power" AO
 Qt:aX0 K mg "inverse_of" Bv
 Qk:aX0 K mg "cut_sum" Bn
 Qx:aX0 K mg "lets_rest" Bz
 PZ:aX0 K mg "factor_of" A3
 P7:aX0 K mg "told_rest" A_
 Qi:aX0 K mg "share_rest" Bl
 PE:aX0 K mg "row_rest" AI
 PD:aX0 K mg "far_rest" AH
 Qp:aX0 K mg "rest_paper" Bs
 PG:aX0 K mg "trimmed" AK
 Qa:aX0 K mg "power_poly" Bd
 Qf:aX0 K mg "value_at" Bi
 P5:aX0 K mg "poly_scaled" A8
 PC:aX0 K mg "signed" AG
 PT:aX0 K mg "moved_from_above" AX
 PA:aX0 K mg "turn_poly" AE
 PX:aX0 K mg "turns_by_row" A1
 PO:aX0 K mg "number_by_turns" AS
 PW:aX0 K mg "turns_by_poly" A0
 Qe:aX0 K mg "twos_product" Bh
 QC:aX0 K mg "two_to" BE
 QA:aX0 K mg "size_of" BC
 PB:aX0 K mg "_law_feed" AF
 PM:aX0 K mg "_law_draw" AQ
 P9:aX0 K mg "_law_ask_rests" Bb
 Qd:aX0 K mg "_law_ask_rows" Bg
 PJ:aX0 K mg "_law_said" AN
 PR:aX0 K mg "_law_question" AV
 QF:aX0 K mg "law" nD
 yl:mg "abs"=none
 EX:mg "all"=none
 Nt:mg "bool"=none
 vq:mg "enumerate"=none
 EY:mg "int"=none
 ng:mg "isinstance"=none
 f3:mg "len"=none
 ym:mg "list"=none
 Nu:mg "min"=none
 iO:mg "range"=none
 qZ:mg "repr"=none
 EZ:mg "reversed"=none
 Nv:mg "sorted"=none
 Nw:mg "sum"=none
 kY:mg "tuple"=none
 NQ:∃t,mg "MOST_tablejudge"=some (.int (41) t)
 NS:∃t,mg "LAST_TRIED"=some (.int (1000) t)
 q1:qN K mg "NOUGHT" [0,1]
 E7:qN K mg "ONE" [1,1]
 NR:∃t,mg "MOST_places"=some (.int (20) t)
 wH:∃C B dK fd,lK K mg "NoPaper" "NoPaper.__init__" (i_ (top 4) 0) ["word","place"] C B dK fd
 wI:∃C B dK fd,lK K mg "NoRest" "NoRest.__init__" (i_ (top 3) 0) ["number","prime"] C B dK fd
 Cc:∃C B dK fd,lK K mg "NoTurn" "NoTurn.__init__" (i_ (top 5) 0) ["word","thing"] C B dK fd
 Gk:∃(C:Addr) (nm q:Str) (N:Addr) (bs bm:ajC) (hdct:Bool) (sn:ajD) (sub:ajC) (ab:Bool) (col:Option Bool) (dd:ajF) (k0 k1 k2 k3 k5:Option Value) (S4:String),mg "PowerError"=some (.ref C)/\cx K "PowerError" C/\K.lookup C=some (excClassObj nm q C N bs bm hdct sn sub ab col dd k0 k1 k2 k3 k5 S4)/\bm.contains (.type "BaseException")=true
 rr:∃C,mg "NoPaper"=some (.ref C)/\cx K "NoPaper" C
 rt:∃C,mg "NoRest"=some (.ref C)/\cx K "NoRest" C
 ru:∃C,mg "NoTurn"=some (.ref C)/\cx K "NoTurn" C
 Sw:∀C D,cx K "NoPaper" C->cx K "NoPaper" D->kitOne K (.ref C) (.ref D)=some true
 Sx:∀C D,cx K "NoPaper" C->cx K "NoRest" D->kitOne K (.ref C) (.ref D)=some false
 Sy:∀C D,cx K "NoPaper" C->cx K "NoTurn" D->kitOne K (.ref C) (.ref D)=some false
 afq:∀C,cx K "NoPaper" C->kitOne K (.ref C) (.type "ValueError")=some true
 Sz:∀C D,cx K "NoRest" C->cx K "NoPaper" D->kitOne K (.ref C) (.ref D)=some false
 SA:∀C D,cx K "NoRest" C->cx K "NoRest" D->kitOne K (.ref C) (.ref D)=some true
 SD:∀C D,cx K "NoRest" C->cx K "NoTurn" D->kitOne K (.ref C) (.ref D)=some false
 afr:∀C,cx K "NoRest" C->kitOne K (.ref C) (.type "ValueError")=some true
 SE:∀C D,cx K "NoTurn" C->cx K "NoPaper" D->kitOne K (.ref C) (.ref D)=some false
 SF:∀C D,cx K "NoTurn" C->cx K "NoRest" D->kitOne K (.ref C) (.ref D)=some false
 SG:∀C D,cx K "NoTurn" C->cx K "NoTurn" D->kitOne K (.ref C) (.ref D)=some true
 afs:∀C,cx K "NoTurn" C->kitOne K (.ref C) (.type "ValueError")=some true
section
variable {P:Program}{w:World}{K:ajA}{mg:ajy}{base:Heap}
variable {fd:FuncData}
theorem ny {C B dK:Addr}(S:lK K mg "NoPaper" "NoPaper.__init__" (i_ (top 4) 0) ["word","place"] C B dK fd):hA P w K mg base hz 1 dK fd ["self","word","place"] (sf K "word" "place"):=Eo S.s.f (by walk_at "sc") rfl (Or.inl rfl) (Or.inl rfl) (Or.inl rfl) (by decide) (by decide) (by decide) (by decide) (fun _=>rfl) (fun _=>rfl)
theorem zF {C B dK:Addr}(S:lK K mg "NoRest" "NoRest.__init__" (i_ (top 3) 0) ["number","prime"] C B dK fd):hA P w K mg base hz 1 dK fd ["self","number","prime"] (sf K "number" "prime"):=Eo S.s.f (by walk_at "sc") rfl (Or.inl rfl) (Or.inl rfl) (Or.inl rfl) (by decide) (by decide) (by decide) (by decide) (fun _=>rfl) (fun _=>rfl)
theorem GL {C B dK:Addr}(S:lK K mg "NoTurn" "NoTurn.__init__" (i_ (top 5) 0) ["word","thing"] C B dK fd):hA P w K mg base hz 1 dK fd ["self","word","thing"] (sf K "word" "thing"):=Eo S.s.f (by walk_at "sc") rfl (Or.inl rfl) (Or.inl rfl) (Or.inl rfl) (by decide) (by decide) (by decide) (by decide) (fun _=>rfl) (fun _=>rfl)
def H7 (K:ajA):b_:=fun aa H Q _=>∃(v:V) (d:PyData),aa=[v]/\aS K H v d/\Q (.aG (el d)) H
theorem Vg:b0 ["thing"] ["thing"] (bu Ba):=(by walk_at "sc")
theorem vC (T:Txt K mg):Def P w K mg base "is_whole" ["thing"] 1 (H7 K):=by
 refine Def.c8 T.P8 Vg (fun aa H Q E h=>?_) (by walk_at "b1") (fun f a6 A outer s H aa Q E hr h=>?_)
 ·obtain ⟨v,d,rfl,_⟩:=h
  rfl
 obtain ⟨v,d,rfl,hd,q⟩:=h
 refine ⟨_,(aW (bB (nV (dp uA rfl T.ng nM (ae (af 0) (ae (rS (v:=.ty "int") rfl T.EY LH rfl) aj))) (nU (ZN (dp uA rfl T.ng nM (ae (af 0) (ae (rS (v:=.ty "bool") rfl T.Nt aaC rfl) aj)))))))),?_⟩
 rw[acM]at q
 refine ⟨_,rfl,_,mR d,"int",uO d,rfl,hd.ty,aal d,_,rfl,?_⟩
 refine fG (fun c=>?_) (fun c=>?_)
 ·refine ⟨_,rfl,_,mR d,"bool",xc d,rfl,hd.ty,Y6 d,_,rfl,?_⟩
  rw[c]at q;exact q
 ·have bG:uO d=false:=by simpa using c
  rw[bG]at q;exact q
def abf:dv:=fun ws n Q=>∃d,ws=[.d d]/\Q (.d (.bool (el d))) n
theorem Fb:c0 K (H7 K) abf:=fun aa H Q hz=>by
 obtain ⟨M,ws,n,aK,ok,r,⟨d,e,q⟩,k⟩:=hz
 subst e
 obtain ⟨v1,rfl,au⟩:=r.inv1
 exact ⟨v1,d,rfl,au.b1,k.now ok (.aG _) q⟩
def HU (K:ajA):b_:=fun aa H Q _=>∃(p:Addr) (ns:ajH),aa=[.ref p]/\bp K H p (ns.map V.int)/\ns.length<=1000/\∀dy J,bb H J->bp K J dy ((h8 ns).map V.int)->Q (.ref dy) J
theorem BL:b0 ["row","behind","number"] ["row"] (bu AU):=(by walk_at "sc")
theorem yA (T:Txt K mg):Def P w K mg base "row_by_steps" ["row"] 1 (HU K):=by
 refine Def.c8 T.PQ BL (fun aa H Q E h=>?_) (by walk_at "b1") (fun f a6 A outer s H aa Q E hr h=>?_)
 ·obtain ⟨p,ns,rfl,_⟩:=h
  rfl
 obtain ⟨p,ns,rfl,dm,hl,q⟩:=h
 refine ⟨_,(aV (ck (i:=1) BL.aT rfl (by walk_at "lc") (jQ (ae ay aj)))
   (aV (i8 agk rfl (Kg rfl T.EZ (ae (af 0) aj)) (dq (i:=2) BL.aT rfl (by walk_at "lc")) (aW (wU (Dz ah3 ajh aji uj (af 1) (ae (a0 hM (dx rm (af 1) (kI kG ay) (fun _ _=>rfl)) (af 2)) aj)))))
   (aW (bB (kC nL rfl T.kY lp (ae (af 1) aj)))))),?_⟩
 have hsz:sizeLine=16777216:=afW
 refine ⟨my,fun l dE=>?_⟩
 have gw:=bY dE (.lst [.int 0])
 refine ⟨_,rfl,p,_,rfl,gw.hh dm,?_⟩
 refine Ku (K:=K) (a:=p) (xs:=ns.map V.int) (fun i σ ag=>∃z,σ=[some (.ref p),some (.ref l),z]/\(∀b o,H b=some o->ag b=some o)/\ag l=some (.lst ((List.range (i+1)).map fun k=>V.int (ei ns k)))) ⟨none,rfl,fun b o e=>gw _ _ e,bo⟩ (fun i σ ag _ ⟨_,_,s,_⟩=>(show bb H ag from s).hh dm) ?_ ?_
 ·rintro i x σ ag hi hx ⟨z,rfl,s2,h2⟩
  rw[afG]at hi hx
  rw[JO ⋯]at hx
  cases hx
  have aq:ez ((List.range (i+1)).map fun k=>V.int (ei ns k)) (-1)=some (V.int (ei ns i)):=by
   rw[ahC,af9];exact Zn _ _
  refine ⟨_,rfl,.inl ⟨rfl,_,bP.of h2⟩,_,rfl,_,rfl,l,_,_,_,rfl,rfl,bP.of h2,aq,_,rfl,_,_,rfl,rfl,l,_,_,rfl,rfl,h2,by rw[afG,agj];lia,?_⟩
  refine ⟨_,rfl,fun b o e=>?_,?_⟩
  ·rw[br (eN e dE)];exact s2 _ _ e
  ·rw[bo,ahC (n:=i+1),af9];rfl
 ·rintro σ ag ⟨z,rfl,s2,h2⟩
  rw[afG,<-JY]at h2
  refine ⟨_,rfl,l,_,rfl,.inl ⟨bP.of h2,fun t aH=>?_⟩⟩
  exact q _ _ ((show bb H ag from s2).trans (bY aH _)) (bp.of bo)
def aa0:dv:=fun ws n Q=>∃ns:List Int,ws=[.d (d5 ns)]/\ns.length<=1000/\Q (.d (d5 (h8 ns))) n
theorem E9:c0 K (HU K) aa0:=fun aa H Q hz=>by
 obtain ⟨M,ws,n,aK,ok,r,⟨ns,e,hl,q⟩,k⟩:=hz
 subst e
 obtain ⟨v1,rfl,au⟩:=r.inv1
 have eH:aS K H v1 (d5 ns):=a7.b1 au
 obtain ⟨a,rfl,aC⟩:=eH.rw
 exact ⟨a,ns,rfl,aC,hl,fun dy J s t=>k.jq ok s (.G_ t) (LO _) q⟩
def H0 (K:ajA):b_:=fun aa H Q _=>∃(p:Addr) (ns:ajH),aa=[.ref p]/\bp K H p (ns.map V.int)/\ns.length<=1000/\∀dy J,bb H J->bp K J dy ((h8 ns).map V.int)->Q (.ref dy) J
theorem HA:b0 ["row","many"] ["row"] (bu A5):=(by walk_at "sc")
theorem OJ (T:Txt K mg):Def P w K mg base "row_by_sums" ["row"] 1 (H0 K):=by
 refine Def.c8 T.P1 HA (fun aa H Q E h=>?_) (by walk_at "b1") (fun f a6 A outer s H aa Q E hr h=>?_)
 ·obtain ⟨p,ns,rfl,_⟩:=h
  rfl
 obtain ⟨p,ns,rfl,dm,hl,q⟩:=h
 refine ⟨_,(aV (ck (i:=1) HA.aT rfl (by walk_at "lc") (dp l4 rfl T.f3 gd (ae (af 0) aj)))
   (aW (bB (kC nL rfl T.kY lp (ae (o2 (N:=["k","row","many"]) (is:=[none,some 0,some 1]) rfl ⟨rfl,rfl,by decide +kernel,by decide +kernel,⟨rfl,⟨rfl,trivial⟩⟩,rfl,⟨⟨rfl,rfl,rfl⟩,⟨⟨rfl,rfl,rfl⟩,trivial⟩⟩⟩ (nN rfl T.iO (ae (a0 hM (af 1) ay) aj)) (fun _ _ _ _ _=>(dq (i:=0) (show List.Nodup (["k","row","many"]:ajD) from by decide +kernel) rfl (by walk_at "lc"))) (fun _ _ _ _ _=>mP) (fun _ _ _ _ _=>(dp (Yi (K:=K) rfl rfl) rfl T.Nw acX (ae (ui (YE (K:=K) rfl) (af 1) (qm (a0 fc (af 2) (af 0))) ur) aj)))) aj))))),?_⟩
 have hsz:sizeLine=16777216:=afW
 refine ⟨_,rfl,p,_,rfl,.inr dm,?_⟩
 rw[afG]
 refine ⟨_,rfl,_,_,rfl,rfl,((ns.length:Nat):Int)+1,rfl,by lia,by lia,fun D ft=>?_⟩
 refine IT (lo:=0) (n:=(((ns.length:Nat):Int)+1).toNat) (fun i σ ag=>(∃z,σ=[z,some (.ref p),some (.int ((ns.length:Nat):Int))])/\(∀b o,H b=some o->ag b=some o)/\ag D=some (.lst ((List.range i).map fun k=>V.int (ei ns k)))) ⟨⟨none,rfl⟩,fun b o e=>bY ft _ b o e,bo⟩ ?_ ?_
 ·rintro i σ ag hi ⟨⟨z,rfl⟩,s2,h2⟩
  refine ⟨_,rfl,_,rfl,_,rfl,_,_,rfl,rfl,_,rfl,p,_,rfl,(show bb H ag from s2).hh dm,fun fO b3 s3 t3=>?_⟩
  have sO:((ns.length:Nat):Int)-(0+(i:Int))=((ns.length-i:Nat):Int):=by lia
  have V7:bp K b3 fO ((ns.drop (ns.length-i)).map V.int):=by
   rw[List.map_drop,<-Zi,<-sO];exact t3
  refine ⟨fO,_,rfl,V7,_,s3 _ _ h2,by rw[afG,agj];lia,⟨_,rfl⟩,fun b o e=>?_,?_⟩
  ·rw[br (eN e ft)];exact s3 _ _ (s2 _ _ e)
  ·rw[bo,I3 ns i ⋯,ahC,af9];rfl
 ·rintro σ ag ⟨⟨z,rfl⟩,s2,h2⟩
  rw[show (((ns.length:Nat):Int)+1).toNat=ns.length+1 by lia,<-JY]at h2
  refine ⟨⟨_,h2⟩,D,_,rfl,.inl ⟨bP.of h2,fun t aH=>?_⟩⟩
  exact q _ _ ((show bb H ag from s2).trans (bY aH _)) (bp.of bo)
def aa_:dv:=fun ws n Q=>∃ns:List Int,ws=[.d (d5 ns)]/\ns.length<=1000/\Q (.d (d5 (h8 ns))) n
theorem NZ:c0 K (H0 K) aa_:=fun aa H Q hz=>by
 obtain ⟨M,ws,n,aK,ok,r,⟨ns,e,hl,q⟩,k⟩:=hz
 subst e
 obtain ⟨v1,rfl,au⟩:=r.inv1
 have eH:aS K H v1 (d5 ns):=a7.b1 au
 obtain ⟨a,rfl,aC⟩:=eH.rw
 exact ⟨a,ns,rfl,aC,hl,fun dy J s t=>k.jq ok s (.G_ t) (LO _) q⟩
def VP (K:ajA):b_:=fun aa H Q _=>∃n k:Int,aa=[.int n,.int k]/\0<=n/\n<=60/\Q (.int (j7 n k)) H
theorem wk:b0 ["n","k","ways","taken"] ["n","k"] (bu AL):=(by walk_at "sc")
theorem Fm (T:Txt K mg):Def P w K mg base "choose" ["n","k"] 1 (VP K):=by
 refine Def.c8 T.PH wk (fun aa H Q E h=>?_) (by walk_at "b2") (fun f a6 A outer s H aa Q E hr h=>?_)
 ·obtain ⟨n,k,rfl,_⟩:=h
  rfl
 obtain ⟨n,k,rfl,d0,ax,q⟩:=h
 refine ⟨_,(aV (c4 (gQ.pt (nZ (cn l9 (af 1) ay (b6 _)) (o5 (cn pb (af 1) (af 0) (b6 _))))) (aW (bB ay)) c3)
   (aV (ck (i:=2) wk.aT rfl (by walk_at "lc") ay)
   (aV (i8 agk rfl (nN rfl T.iO (ae (dp (Yk rfl) rfl T.Nu acY (ae (af 1) (ae (a0 fc (af 0) (af 1)) aj))) aj)) (dq (i:=3) wk.aT rfl (by walk_at "lc")) (aW (ck (i:=2) wk.aT rfl (by walk_at "lc") (a0 uC (a0 kJ (af 2) (a0 fc (af 0) (af 3))) (a0 hM (af 3) ay)))))
   (aW (bB (af 2)))))),?_⟩
 refine ⟨_,rfl,_,_,rfl,rfl,_,rfl,?_⟩
 refine fG (fun c=>?_) (fun c=>?_)
 ·have bG:k<0:=afS c
  refine n6 ?_
  have e:j7 n k=0:=by unfold j7;rw[afC ⋯]
  rw[e]at q;exact q
 have bG:0<=k:=by have:¬k<0:=fun z=>c (afI z);lia
 refine ⟨_,rfl,_,rfl,_,_,rfl,rfl,_,rfl,?_⟩
 have nk:j7 n k=((ch n.toNat k.toNat:Nat):Int):=by unfold j7;rw[afD bG]
 rw[nk]at q
 refine fG (fun g=>?_) (fun g=>?_)
 ·have g':n<k:=afS g
  rw[qz _ _ ⋯]at q
  exact q
 have g':k<=n:=by have:¬n<k:=fun z=>g (afI z);lia
 refine ⟨_,rfl,_,rfl,_,rfl,_,_,rfl,rfl,_,_,rfl,?_⟩
 generalize hm:(if n-k<k then n-k else k)=m
 have m0:0<=m/\m<=k/\m<=n-k:=by subst hm;split<;>lia
 refine ⟨m,rfl,by lia,by lia,?_⟩
 refine wO (lo:=0) (n:=m.toNat) (fun i σ ag=>ag=H/\∃z,σ=[some (.int n),some (.int k),some (.int ((ch n.toNat i:Nat):Int)),z]) ⟨rfl,none,by rw[l8];rfl⟩ ?_ ?_
 ·rintro i σ ag hi ⟨rfl,z,rfl⟩
  refine ⟨_,rfl,_,rfl,_,rfl,_,_,rfl,rfl,_,_,rfl,rfl,.inr ⟨by lia,by lia⟩,_,rfl,_,_,rfl,rfl,_,_,rfl,rfl,⟨by lia,by lia⟩,?_⟩
  refine ⟨rfl,some (.int (0+(i:Int))),?_⟩
  have e:=aaA (n:=n.toNat) (t:=i) ⋯
  have q7:((n.toNat:Nat):Int)=n:=by lia
  rw[q7]at e
  have az:((ch n.toNat i:Nat):Int)*(n-(0+(i:Int)))/(0+(i:Int)+1)=((ch n.toNat (i+1):Nat):Int):=by rw[ahg];exact e
  rw[<-az];rfl
 ·rintro σ ag ⟨rfl,z,rfl⟩
  refine ⟨_,rfl,?_⟩
  have e:ch n.toNat m.toNat=ch n.toNat k.toNat:=by
   by_cases h:m=k
   ·rw[h]
   ·have:m=n-k:=by subst hm;split at h<;>split<;>lia
    rw[DG n.toNat k.toNat ⋯]
    congr 1;lia
  rw[e];exact q
def VT (K:ajA):b_:=fun aa H Q _=>∃a b:Int,aa=[.int a,.int b]/\Q (.int (Int.gcd a b:Int)) H
theorem BP:b0 ["top","bottom","one","other"] ["top","bottom"] (bu Bw):=(by walk_at "sc")
theorem OS (T:Txt K mg):Def P w K mg base "common_of" ["top","bottom"] 1 (VT K):=by
 refine Def.c8 T.Qu BP (fun aa H Q E h=>?_) (by walk_at "b2") (fun f a6 A outer s H aa Q E hr h=>?_)
 ·obtain ⟨a,b,rfl,_⟩:=h
  rfl
 obtain ⟨a,b,rfl,q⟩:=h
 refine ⟨_,(aV (Kf (i:=2) (j:=3) rfl BP.aT rfl rfl (by decide) rfl rfl (ae (dp CP rfl T.yl DH (ae (af 0) aj)) (ae (dp CP rfl T.yl DH (ae (af 1) aj)) aj)) rfl)
   (aV (nO agk (cn Mc (af 3) ay (b6 _)) (aW (Kf (i:=2) (j:=3) rfl BP.aT rfl rfl (by decide) rfl rfl (ae (af 3) (ae (a0 fD (af 2) (af 3)) aj)) rfl)))
   (aW (bB (af 2))))),?_⟩
 refine ⟨_,rfl,a,rfl,_,rfl,b,rfl,_,_,rfl,?_⟩
 refine rP (fun σ ag=>ag=H/\∃x y:Int,σ=[some (.int a),some (.int b),some (.int x),some (.int y)]/\0<=x/\0<=y/\Int.gcd x y=Int.gcd a b) (fun σ _=>match σ with|[_,_,_,some (.int y)]=>y.toNat|_=>0) ⟨rfl,_,_,rfl,?_,?_,?_⟩ ?_ ?_
 ·show 0<=(if a<0 then -a else a);split<;>lia
 ·show 0<=(if b<0 then -b else b);split<;>lia
 ·have ai:∀z:Int,(if z<0 then -z else z)=(z.natAbs:Int):=fun z=>by split<;>lia
  rw[ai,ai];simp[Int.gcd]
 ·rintro σ ag ⟨rfl,x,y,rfl,hx,hy,e⟩
  refine ⟨_,rfl,rfl,_,rfl,?_⟩
  refine fG (fun c=>?_) (fun c=>?_)
  ·have bG:y≠0:=by intro z;subst z;simp at c
   refine ⟨_,rfl,_,rfl,_,rfl,_,_,rfl,rfl,(by lia:0<y),_,_,rfl,?_⟩
   have h1:=agb x bG
   have h2:=aga x (show 0<y by lia)
   refine ⟨⟨rfl,y,x%y,rfl,hy,h1,?_⟩,?_⟩
   ·rw[<-e]
    exact Zd hx hy
   ·show (x%y).toNat<y.toNat;lia
  ·have bG:y=0:=by
    by_cases aZ:y=0
    ·exact aZ
    ·exact absurd (by simp[aZ]) c
   subst bG
   refine ⟨_,rfl,?_⟩
   have az:x=(Int.gcd a b:Int):=by rw[<-e,Int.gcd_zero_right];lia
   rw[az];exact q
 ·rintro σ ag sv sx aM ⟨v,ai,h1,k,az,h2⟩
  exact ⟨v,ai,h1,k,az,aM _ _ h2⟩
def VS (K:ajA):b_:=fun aa H Q _=>∃(v:V) (x:Rat) (n:Int),aa=[v,.int n]/\aS K H v (bj x)/\bH 340 x/\0<=n/\n<=40/\∀v J,bb H J->aS K J v (bj (x^n.toNat))->Q v J
theorem rC:b0 ["one","n","top","bottom","multiplied"] ["one","n"] (bu Bt):=(by walk_at "sc")
theorem OR (T:Txt K mg):Def P w K mg base "power_of" ["one","n"] 1 (VS K):=by
 refine Def.c8 T.Qq rC (fun aa H Q E h=>?_) (by walk_at "b2") (fun f a6 A outer s H aa Q E hr h=>?_)
 ·obtain ⟨v,x,n,rfl,_⟩:=h
  rfl
 obtain ⟨v,x,n,rfl,h1,cU,d0,ax,q⟩:=h
 refine ⟨_,(aV (rV (cN (ae ay (ae ay aj))) (C8 rfl (gL (dq (i:=2) rC.aT rfl (by walk_at "lc")) (gL (dq (i:=3) rC.aT rfl (by walk_at "lc")) nS))))
   (aV (i8 agk rfl (nN rfl T.iO (ae (af 1) aj)) (dq (i:=4) rC.aT rfl (by walk_at "lc")) (aV (l6 (i:=2) rC.aT rfl (by walk_at "lc") (dx fv (af 0) ay (fun _ _=>rfl)) Lq)
   (aW (l6 (i:=3) rC.aT rfl (by walk_at "lc") (dx fv (af 0) ay (fun _ _=>rfl)) Lq))))
   (aW (bB (cN (ae (af 2) (ae (af 3) aj))))))),?_⟩
 obtain ⟨p,rfl,t1⟩:=h1.oN
 refine ⟨jx,fun c hc=>⟨c,_,rfl,bp.of bo,rfl,_,_,rfl,_,_,rfl,rfl,?_⟩⟩
 have s0:=bY hc (.tup [.int 1,.int 1])
 replace t1:=s0.hh t1
 refine ⟨_,rfl,n,rfl,by lia,by lia,?_⟩
 refine wO (lo:=0) (n:=n.toNat) (fun i σ ag=>ag=upd H c (.tup [.int 1,.int 1])/\∃z,σ=[some (.ref p),some (.int n),some (.int (x.num^i)),some (.int ((x.den:Int)^i)),z]) ⟨rfl,none,by simp only[aiv];rfl⟩ ?_ ?_
 ·rintro i σ ag hi ⟨rfl,z,rfl⟩
  have bi:∀{y:Int},cb 340 y->cb 14000 (y^i):=fun h=>(h.pow i).mono (by have:340*i<=340*40:=Nat.mul_le_mul_left _ ⋯;lia)
  refine ⟨_,rfl,_,rfl,p,_,_,_,rfl,rfl,t1,nf,_,_,rfl,rfl,(bi cU.n).k6 cU.n,?_⟩
  refine ⟨_,rfl,_,rfl,p,_,_,_,rfl,rfl,t1,j3,_,_,rfl,rfl,(bi cU.d).k6 cU.d,?_⟩
  refine ⟨rfl,some (.int (0+(i:Int))),?_⟩
  rw[agH,agH];rfl
 ·rintro σ ag ⟨rfl,z,rfl⟩
  refine ⟨_,rfl,_,rfl,jx,fun r zz=>?_⟩
  exact q _ _ (s0.trans (bY zz _)) (aS.oO bo (by rw[Rat.num_pow]) (by rw[JQ]))
def Ic (K:ajA):b_:=fun aa H Q _=>∃(v:V) (x:Rat),aa=[v]/\aS K H v (bj x)/\Q (if (x.den:Int)=1 then .int x.num else .bz) H
theorem Vn:b0 ["one"] ["one"] (bu Bo):=(by walk_at "sc")
theorem yF (T:Txt K mg):Def P w K mg base "whole_of" ["one"] 1 (Ic K):=by
 refine Def.c8 T.Ql Vn (fun aa H Q E h=>?_) (by walk_at "b1") (fun f a6 A outer s H aa Q E hr h=>?_)
 ·obtain ⟨v,x,rfl,_⟩:=h
  rfl
 obtain ⟨v,x,rfl,h1,q⟩:=h
 refine ⟨_,(aW (bB (rN (cn n1 (dx fv (af 0) ay (fun _ _=>rfl)) ay (b6 _)) (dx fv (af 0) ay (fun _ _=>rfl)) Kh))),?_⟩
 obtain ⟨dG,rfl,t1⟩:=h1.oN
 refine ⟨_,rfl,dG,_,_,_,rfl,rfl,t1,j3,rfl,_,rfl,?_⟩
 refine fG (fun c=>?_) (fun c=>?_)
 ·have bG:(x.den:Int)=1:=by have:=afS c;injection this
  rw[afD bG]at q
  exact ⟨_,rfl,dG,_,_,_,rfl,rfl,t1,nf,q⟩
 ·have bG:¬(x.den:Int)=1:=fun z=>c (afI (by rw[z]))
  rw[afC bG]at q
  exact q
def abt:dv:=fun ws n Q=>∃x:Rat,ws=[.d (bj x)]/\Q (.d (if (x.den:Int)=1 then .int x.num else .none)) n
theorem aeF:c0 K (Ic K) abt:=fun aa H Q hz=>by
 obtain ⟨M,ws,n,aK,ok,r,⟨x,e,q⟩,k⟩:=hz
 subst e
 obtain ⟨v1,rfl,au⟩:=r.inv1
 refine ⟨v1,x,rfl,au.b1,?_⟩
 by_cases h:(x.den:Int)=1
 ·rw[afD h]at q ⊢;exact k.now ok (.int _) q
 ·rw[afC h]at q ⊢;exact k.now ok .bz q
def abk:dv:=fun ws n Q=>∃ns:List Int,ws=[.d (dr ns)]/\ns.length<64/\Q (.d (.bool (jT ns))) n
theorem HC:b0 ["numbers","k"] ["numbers"] (bu Bf):=(by walk_at "sc")
theorem ON (T:Txt K mg):Def P w K mg base "turns_within" ["numbers"] 1 (iF K abk):=by
 refine Def.fM T.Qc HC (fun ws n Q h=>?_) (by walk_at "b1") (fun f a6 A outer s H E hr=>⟨_,_,(aV (i8 agk rfl (Cm rfl T.iO (ae ay (ae (a0 fc (dp (kD (K:=K) rfl) rfl T.f3 gd (ae (af 0) aj)) ay) aj))) (dq (i:=1) HC.aT rfl (by walk_at "lc")) (aW (c4 (cn (o9 (K:=K) rfl hr) (l5 l9 (dx (iA (K:=K) rfl) (af 0) (a0 fc (af 1) ay) (fun _ _=>rfl)) (dx (iA (K:=K) rfl) (af 0) (af 1) (fun _ _=>rfl)) (b6 _)) (l5 l9 (dx (iA (K:=K) rfl) (af 0) (a0 (gM (K:=K) rfl) (af 1) ay) (fun _ _=>rfl)) (dx (iA (K:=K) rfl) (af 0) (af 1) (fun _ _=>rfl)) (b6 _)) (b6 _)) (aW (bB lx)) c3)))
   (aW (bB lx))),(b9 (r1 (ZC (ak ba (ak (bh ja (gX kK (ak aw aN)) ba) aN))) i9 (eh (b:=false) (cL.x (dC (bh ph (bh qJ (bh iG aw (bh ja aw ba)) (bh iG aw aw)) (bh qJ (bh iG aw (bh jS aw ba)) (bh iG aw aw))))) (dA (b:=false) (a9.x n0)) eg))
   (dA (b:=false) (a9.x n0))),fun ws n Q h=>?_⟩)
 ·obtain ⟨ns,rfl,_⟩:=h
  rfl
 obtain ⟨ns,rfl,hl,q⟩:=h
 refine kp ?_
 rw[afG]
 refine iw ?_
 refine ⟨⟨by lia,by lia,by lia,by lia⟩,?_⟩
 have az:((ns.length:Int)-1-1).toNat=ns.length-2:=by lia
 rw[az]
 refine rW (fun i δ k=>k=n/\(∃y,δ=[some (.d (dr ns)),y])/\∀j,j<i->(decide (ns.getD j 0<ns.getD (j+1) 0) == decide (ns.getD (j+2) 0<ns.getD (j+1) 0))=true) ⟨rfl,⟨_,rfl⟩,fun j hj=>absurd hj (ahe _)⟩ (fun i d δ k R hd hp dF=>?_) (fun δ k hp=>?_)
 ·obtain ⟨rfl,⟨y,rfl⟩,kc⟩:=hp
  obtain ⟨hi,rfl⟩:=o1 hd
  rw[show (1:Int)+(i:Int)=((i+1:Nat):Int) by lia]
  refine iw ?_
  rw[show ((i+1:Nat):Int)-1=(i:Int) by lia]
  refine i1 (o3 (k:=i) ⋯) ?_
  refine i1 (o3 (k:=i+1) ⋯) ?_
  refine pg ?_
  refine ko ?_
  rw[show ((i+1:Nat):Int)+1=((i+2:Nat):Int) by lia]
  refine i1 (o3 (k:=i+2) ⋯) ?_
  refine i1 (o3 (k:=i+1) ⋯) ?_
  refine pg ?_
  refine adn rfl ?_
  cases lN:pK (.bool (decide (ns.getD i 0<ns.getD (i+1) 0))) (.bool (decide (ns.getD (i+2) 0<ns.getD (i+1) 0))) with
  | true=>
   have yK:=afS (show decide (decide (ns.getD i 0<ns.getD (i+1) 0)=decide (ns.getD (i+2) 0<ns.getD (i+1) 0))=true from lN)
   refine dF _ _ ⟨rfl,⟨_,rfl⟩,fun j hj=>?_⟩
   by_cases vU:j=i
   ·subst vU;rw[yK];exact beq_self_eq_true _
   ·exact kc j ⋯
  | false =>
   have yK:=ai6 (show decide (decide (ns.getD i 0<ns.getD (i+1) 0)=decide (ns.getD (i+2) 0<ns.getD (i+1) 0))=false from lN)
   have e:jT ns=false:=by
    cases h:jT ns with
    | false=>rfl
    | true=>exact absurd (ahL (afR.mp h i (afU.mpr ⋯))) yK
   rw[e]at q
   exact q
 obtain ⟨rfl,⟨y,rfl⟩,kc⟩:=hp
 rw[nR]at kc
 have e:jT ns=true:=afR.mpr fun j hj=>kc j (afU.mp hj)
 rw[e]at q
 exact q
def abw:dv:=fun ws n Q=>∃(r:ajH) (x:Int),ws=[.d (dr r),.d (.int x)]/\r.length<=60/\Q (.d (.bool (fl r x))) n
theorem HD:b0 ["ahead","number","falls"] ["ahead","number"] (bu Br):=(by walk_at "sc")
theorem Ft (T:Txt K mg):Def P w K mg base "may_follow" ["ahead","number"] 1 (iF K abw):=by
 refine Def.fM T.Qo HD (fun ws n Q h=>?_) (by walk_at "b2") (fun f a6 A outer s H E hr=>⟨_,_,(aV (c4 (cn (eW (K:=K) rfl hr) (af 0) (cN aj) (b6 _)) (aW (bB lx)) c3)
   (aV (ck (i:=2) HD.aT rfl (by walk_at "lc") (l5 (eW (K:=K) rfl hr) (a0 fD (dp (kD (K:=K) rfl) rfl T.f3 gd (ae (af 0) aj)) ay) ay (b6 _)))
   (aW (bB (nV (l5 (Cn (K:=K) rfl hr) (af 1) (af 0) rfl) (nU (l5 (eW (K:=K) rfl hr) (l5 l9 (af 1) (dx (iA (K:=K) rfl) (af 0) (kI kG ay) (fun _ _=>rfl)) (b6 _)) (af 2) (b6 _)))))))),(b9 (eh (b:=false) (cL.x (dC (bh eX aw (d_ aN)))) (dA (b:=false) (a9.x n0)) eg)
   (b9 (eV (b:=false) (a9.x (bh eX (bh mU (gX kK (ak aw aN)) ba) ba)))
   (dA (b:=false) (a9.x (qr (bh (DV true) aw aw) (bh eX (bh qJ aw (bh iG aw (Dw ba))) aw)))))),fun ws n Q h=>?_⟩)
 ·obtain ⟨r,x,rfl,_⟩:=h
  rfl
 obtain ⟨r,x,rfl,hl,q⟩:=h
 refine DR (je.ints r []) ?_
 rw[show (dr r).eqv (.tuple [])=decide (r=[]) from Y_ r []]
 by_cases td:r=[]
 ·rw[afI td]
  have e:fl r x=true:=afD td
  rw[e]at q
  exact q
 rw[afJ td]
 refine kp ?_
 rw[afG]
 refine lZ (by decide) ?_
 have em:fl r x=(!(r.contains x)&&(decide (x<r.getD (r.length-1) 0) == decide (r.length%2=1))):=afC td
 rw[em]at q
 have mw:0<r.length:=ai9.mpr td
 have Gz:ez (r.map PyData.int) (-1)=some (.int (r.getD (r.length-1) 0)):=xg (by
  rw[afG,af1,afO,afQ (show r.length-1<r.length by lia)];rfl)
 refine n4 (fun c=>?_) (fun c=>?_)
 ·have bG:r.length%2=1:=by lia
  rw[afI bG]at q
  refine xp ?_
  show (match a4.d (.bool !(r.contains x)) with|.d (.bool c)=>fo c _ _|_=>False)
  cases hm:!(r.contains x) with
  | false=>rw[hm,ahG]at q;exact q
  | true =>
   rw[hm,ah4]at q
   refine i1 Gz ?_
   refine sg (fun d=>?_) (fun d=>?_)
   ·rw[afI d]at q
    exact xA rfl q
   ·rw[afJ (aiB.mpr d)]at q
    exact xA rfl q
 ·have bG:¬r.length%2=1:=by lia
  rw[afJ bG]at q
  refine xp ?_
  show (match a4.d (.bool !(r.contains x)) with|.d (.bool c)=>fo c _ _|_=>False)
  cases hm:!(r.contains x) with
  | false=>rw[hm,ahG]at q;exact q
  | true =>
   rw[hm,ah4]at q
   refine i1 Gz ?_
   refine sg (fun d=>?_) (fun d=>?_)
   ·rw[afI d]at q
    exact xA rfl q
   ·rw[afJ (aiB.mpr d)]at q
    exact xA rfl q
def HO (K:ajA):b_:=fun aa H Q _=>∃a p:Int,aa=[.int a,.int p]/\0<p/\Q (.int (a%p)) H
theorem U7:b0 ["number","p"] ["number","p"] (bu AM):=(by walk_at "sc")
theorem k7 (T:Txt K mg):Def P w K mg base "rest_of" ["number","p"] 1 (HO K):=by
 refine Def.c8 T.PI U7 (fun aa H Q E h=>?_) (by walk_at "b2") (fun f a6 A outer s H aa Q E hr h=>?_)
 ·obtain ⟨a,p,rfl,_⟩:=h
  rfl
 obtain ⟨a,p,rfl,hp,q⟩:=h
 refine ⟨_,(aW (bB (a0 fD (af 0) (af 1)))),?_⟩
 exact ⟨_,rfl,_,rfl,_,_,rfl,rfl,hp,q⟩
def aaV:dv:=fun ws n Q=>∃a p:Int,ws=[.d (.int a),.d (.int p)]/\0<p/\Q (.d (.int (a%p))) n
theorem q2:c0 K (HO K) aaV:=fun aa H Q hz=>by
 obtain ⟨M,ws,n,aK,ok,r,⟨a,p,e,h1,q⟩,k⟩:=hz
 subst e
 obtain ⟨v1,v2,rfl,au,bt⟩:=r.inv2
 rw[au.int_inv,bt.int_inv]
 exact ⟨a,p,rfl,h1,k.now ok (.int _) q⟩
def VO (K:ajA):b_:=fun aa H Q _=>∃(l:Addr) (ws:List V) (rs:List Rat),aa=[.ref l]/\bP K H l ws/\bE K H ws (rs.map bj)/\rs.length<=5000/\∀p kz J,bb H J->bp K J p kz->bE K J kz ((jU rs).map bj)->Q (.ref p) J
theorem BJ:b0 ["shares","end"] ["shares"] (bu AK):=(by walk_at "sc")
theorem OA (T:Txt K mg):Def P w K mg base "trimmed" ["shares"] 1 (VO K):=by
 refine Def.c8 T.PG BJ (fun aa H Q E h=>?_) (by walk_at "b1") (fun f a6 A outer s H aa Q E hr h=>?_)
 ·obtain ⟨l,ws,rs,rfl,_⟩:=h
  rfl
 obtain ⟨l,ws,rs,rfl,eZ,gC,hlen,q⟩:=h
 obtain ⟨jn,lW,l3⟩:=T.q1
 refine ⟨_,(aV (ck (i:=1) BJ.aT rfl (by walk_at "lc") (dp l4 rfl T.f3 gd (ae (af 0) aj)))
   (aV (nO agk (gQ.pt (w6 (cn pb (af 1) ay (b6 _)) (wR (cn (Le hr) (dx rm (af 0) (a0 fc (af 1) ay) (fun _ _=>rfl)) (jN (v:=.ref jn) rfl lW rfl) (b6 _))))) (aW (l6 (i:=1) BJ.aT rfl (by walk_at "lc") ay Lp)))
   (aW (bB (kC nL rfl T.kY lp (ae (ui C3 (af 0) ur (qm (af 1))) aj)))))),?_⟩
 have wl:ws.length=rs.length:=by have:=gC.length;simpa using this
 refine ⟨_,rfl,l,ws,rfl,.inl eZ,?_⟩
 rw[wl]
 refine rP (fun σ ag=>ag=H/\∃e:Nat,σ=[some (.ref l),some (.int (e:Int))]/\e<=rs.length/\jU (rs.take e)=jU rs) (fun σ _=>match σ with|[_,some (.int e)]=>e.toNat|_=>0) ⟨rfl,rs.length,rfl,afE _,by rw[agM]⟩ ?_ ?_
 ·rintro σ ag ⟨rfl,e,rfl,he,aH⟩
  refine ⟨_,rfl,_,_,rfl,rfl,_,rfl,?_⟩
  have fin:jU (rs.take e)=rs.take e->∀p J,bb ag J->J p=some (.tup (ws.take e))->Q (.ref p) J:=fun aZ p J ar hp=>by
   refine q p (ws.take e) J ar (bp.of hp) ?_
   rw[<-aH,aZ,List.map_take]
   exact (gC.mono ar).take e
  refine fG (fun c=>?_) (fun c=>?_)
  ·have bG:0<(e:Int):=afS c
   obtain ⟨aU,rfl⟩:∃aU,e=aU+1:=⟨e-1,by lia⟩
   have hx:ws[aU]?=some (ws[aU]'⋯):=afQ ⋯
   have aq:=mQ (xs:=ws) (j:=aU) hx
   rw[show ((aU:Nat):Int)=((aU+1:Nat):Int)-1 by lia]at aq
   have aD:=(gC.share hx).2
   refine ⟨_,rfl,_,rfl,_,_,rfl,rfl,l,ws,_,_,rfl,rfl,eZ,aq,bj (rs.getD aU 0),bj 0,aD,aS.con l3 rfl rfl _,rfl,rfl,by simp[bj,PyData.depth,PyData.depthAll],_,rfl,?_⟩
   rw[K1]
   by_cases aZ:rs.getD aU 0=0
   ·rw[afI aZ]
    refine n6 ?_
    refine ⟨_,rfl,_,_,rfl,rfl,⟨⟨rfl,aU,by show [_,some (V.int (((aU+1:Nat):Int)-1))]=_;rw[show ((aU+1:Nat):Int)-1=(aU:Int) by lia],by lia,?_⟩,?_⟩⟩
    ·rw[wL ⋯,aZ,XD]at aH;exact aH
    ·show (((aU+1:Nat):Int)-1).toNat<((aU+1:Nat):Int).toNat;lia
   ·rw[afJ aZ]
    refine kN ?_
    refine ⟨_,rfl,_,rfl,_,rfl,l,ws,rfl,eZ,fun dG f1=>?_⟩
    have s1:=bY f1 (.lst (gO ws none (some ((aU+1:Nat):Int))))
    refine ⟨dG,_,rfl,.inl ⟨bP.of bo,fun b8 f2=>?_⟩⟩
    refine fin (by rw[wL ⋯,J5 aZ]) b8 _ (s1.trans (bY f2 _)) ?_
    rw[bo,LD]
  ·refine kN ?_
   have bG:e=0:=by
    have:¬0<(e:Int):=fun z=>c (afI z)
    lia
   subst bG
   refine ⟨_,rfl,_,rfl,_,rfl,l,ws,rfl,eZ,fun dG f1=>?_⟩
   have s1:=bY f1 (.lst (gO ws none (some ((0:Nat):Int))))
   refine ⟨dG,_,rfl,.inl ⟨bP.of bo,fun b8 f2=>?_⟩⟩
   refine fin (by rw[aiz,Yt]) b8 _ (s1.trans (bY f2 _)) ?_
   rw[bo,LD]
 ·rintro σ ag sv sx aM ⟨v,ai,i,j,h1,h2,k,az,h⟩
  refine ⟨v,ai,i,j,h1,h2,k,az,?_⟩
  cases k
  ·exact aM _ _ h
  ·obtain ⟨v1,cD,v2,gA,dP,tp,aQ,bS,a,xs,n,x,hS,yJ,Pe,Pf,d,e,eH,dw,eL,gp,eI,k,nk,h⟩:=h
   exact ⟨v1,cD,v2,gA,dP,tp,aQ,bS,a,xs,n,x,hS,yJ,Pe,Pf,d,e,eH,dw,eL,gp,eI,k,nk,aM _ _ h⟩
def H9 (K:ajA):b_:=fun aa H Q _=>∃(n:Int),aa=[.int n]/\0<=n/\n<=40/\∀v J,bb H J->aS K J v (bX (List.replicate n.toNat 0++[1]))->Q v J
theorem Vj:b0 ["n"] ["n"] (bu Bd):=(by walk_at "sc")
theorem OL (T:Txt K mg):Def P w K mg base "power_poly" ["n"] 1 (H9 K):=by
 refine Def.c8 T.Qa Vj (fun aa H Q E h=>?_) (by walk_at "b1") (fun f a6 A outer s H aa Q E hr h=>?_)
 ·obtain ⟨n,rfl,_⟩:=h
  rfl
 obtain ⟨n,rfl,d0,ax,q⟩:=h
 obtain ⟨vo,zU,B6⟩:=T.E7
 obtain ⟨jn,lW,l3⟩:=T.q1
 refine ⟨_,(aW (bB (a0 Km (a0 Kl (cN (ae (jN (v:=.ref jn) rfl lW rfl) aj)) (af 0)) (cN (ae (jN (v:=.ref vo) rfl zU rfl) aj))))),?_⟩
 have aZ:sizeLine=16777216:=afW
 refine ⟨my,fun dG f1=>?_⟩
 have s1:=bY f1 (.tup [.ref jn])
 refine ⟨_,rfl,dG,n,_,rfl,rfl,bp.of bo,by lia,by lia,by show 1*n.toNat<=100000;lia,fun b8 ag s2 cj=>?_⟩
 rw[Eh]at cj
 refine ⟨my,fun fO d3=>?_⟩
 have s3:=bY d3 (.tup [.ref vo])
 refine ⟨b8,fO,_,_,rfl,rfl,s3.hh cj,bp.of bo,by rw[agX];show _+1<=_;lia,fun tJ bK s4 gu=>?_⟩
 refine q _ bK (s1.trans (s2.trans (s3.trans s4))) (.tup gu ?_)
 rw[af9,Dc]
 exact (bE.rep (aS.con l3 rfl rfl _) _).append (.cons (aS.con B6 rfl rfl _) .nil)
def abi:dv:=fun ws n Q=>∃m:Int,ws=[.d (.int m)]/\0<=m/\m<=40/\Q (.d (bX (List.replicate m.toNat 0++[1]))) n
theorem aeC:c0 K (H9 K) abi:=fun aa H Q hz=>by
 obtain ⟨M,ws,n,aK,ok,r,⟨m,e,h0,h1,q⟩,k⟩:=hz
 subst e
 obtain ⟨v1,rfl,au⟩:=r.inv1
 rw[au.int_inv]
 exact ⟨m,rfl,h0,h1,fun v J s d=>k.jq ok s d (xk _) q⟩
def VN (K:ajA):b_:=fun aa H Q _=>∃(a:Addr) (ns:ajH),aa=[.ref a]/\bP K H a (ns.map V.int)/\ns.length<=63/\∀t J,bb H J->eE J t 0->Q t J
theorem U6:b0 ["_law_script"] ["_law_script"] (bu AF):=(by walk_at "sc")
theorem Ox (T:Txt K mg):Def P w K mg base "_law_feed" ["_law_script"] 1 (VN K):=by
 refine Def.c8 T.PB U6 (fun aa H Q E h=>?_) (by walk_at "b1") (fun f a6 A outer s H aa Q E hr h=>?_)
 ·obtain ⟨a,ns,rfl,_⟩:=h
  rfl
 obtain ⟨a,ns,rfl,fL,hl,q⟩:=h
 refine ⟨_,(aW (bB (JB (uh b5 (kC W6 rfl T.ym Di (ae (ui C3 (af 0) ur (qm ay)) aj)) (uh b5 ay (uh b5 ay (uh b5 ay Jz))))))),?_⟩
 intro d hd
 have gJ:=bY hd (.cE [])
 refine ⟨_,rfl,63,rfl,a,_,rfl,gJ.seq fL,fun c hc=>?_⟩
 have eM:=bY hc (.lst (gO (ns.map V.int) none (some 63)))
 refine ⟨c,_,rfl,.inl (bP.of bo),fun cB gD=>?_⟩
 have t8:=bY gD (.lst (gO (ns.map V.int) none (some 63)))
 refine ⟨t8 _ _ (eM _ _ bo),gB cB 0 0 0,rfl,by show 4<=15;decide,?_⟩
 have aT:d≠cB:=eN (eM _ _ (show upd H d (.cE []) d=some (.cE []) from bo)) gD
 refine q _ _ (fun b o e=>?_) ⟨d,cB,ns,0,0,0,rfl,bo,?_,by decide,by decide,by decide,by decide,hl⟩
 ·rw[br (eN e hd)];exact t8 _ _ (eM _ _ (gJ _ _ e))
 ·rw[br (af_ aT),bo,aaz ns hl]
def HR (K:ajA):b_:=fun aa H Q _=>∃(t:V) (n:Nat) (m:Int),aa=[t,.int m]/\eE H t n/\n<2^40/\0<m/\m<2^30/\∀r J,0<=r->r<m->eE J t (n+1)->dU t H J->Q (.int r) J
theorem nE:b0 ["_law_feed_here","_law_many","_law_turn","_law_found","_law_at","_law_cells","_law_cell","_law_mixed"] ["_law_feed_here","_law_many"] (bu AQ):=(by walk_at "sc")
theorem q5 (T:Txt K mg):Def P w K mg base "_law_draw" ["_law_feed_here","_law_many"] 1 (HR K):=by
 refine Def.c8 T.PM nE (fun aa H Q E h=>?_) (by walk_at "b2") (fun f a6 A outer s H aa Q E hr h=>?_)
 ·obtain ⟨t,n,m,rfl,_⟩:=h
  rfl
 obtain ⟨t,n,m,rfl,T0,hn,hm,zt,q⟩:=h
 refine ⟨_,(aV (wV (l_ hr) (af 0) b5 (a0 hM (qn (l_ hr) (af 0) b5 (fun _ _=>rfl)) ay) rfl)
   (aV (ck (i:=2) nE.aT rfl (by walk_at "lc") (qn (l_ hr) (af 0) b5 (fun _ _=>rfl)))
   (aV (c4 (cn pb (qn (l_ hr) (af 0) b5 (fun _ _=>rfl)) ay (b6 _)) (aV (ck (i:=3) nE.aT rfl (by walk_at "lc") (a0 fD (qn (l_ hr) (af 0) b5 (fun _ _=>rfl)) (af 1)))
   (aV (wV (l_ hr) (af 0) b5 (a0 uC (qn (l_ hr) (af 0) b5 (fun _ _=>rfl)) (af 1)) rfl)
   (aW (bB (af 3))))) c3)
   (aV (ck (i:=4) nE.aT rfl (by walk_at "lc") (qn (l_ hr) (af 0) b5 (fun _ _=>rfl)))
   (aV (ck (i:=5) nE.aT rfl (by walk_at "lc") (qn (l_ hr) (af 0) b5 (fun _ _=>rfl)))
   (aV (wV (l_ hr) (af 0) b5 (a0 hM (af 4) ay) rfl)
   (aV (C7 (ck (i:=6) nE.aT rfl (by walk_at "lc") (rN (cn (Ld hr) (af 5) (jQ aj) (b6 _)) (dx rm (af 5) (a0 fD (af 4) (dp l4 rfl T.f3 gd (ae (af 5) aj))) (fun _ _=>rfl)) (a0 kJ ay (af 2)))))
   (aV (C7 (c4 (gQ.pt (w6 (cn DU (af 6) (a0 DB ay ay) (b6 _)) (wR (cn l9 (af 4) (dp l4 rfl T.f3 gd (ae (af 5) aj)) (b6 _))))) (aV (wV (l_ hr) (af 0) b5 (a0 uC (af 6) (af 1)) rfl)
   (aW (bB (a0 fD (af 6) (af 1))))) c3))
   (aV (ck (i:=7) nE.aT rfl (by walk_at "lc") (a0 fD (a0 kJ (a0 hM (a0 fD (af 6) ay) ay) (a0 hM (a0 kJ (af 2) (af 2)) ay)) ay))
   (aV (ck (i:=7) nE.aT rfl (by walk_at "lc") (a0 fD (a0 DB (af 7) ay) ay))
   (aV (ck (i:=7) nE.aT rfl (by walk_at "lc") (a0 fD (a0 DB (a0 hM (af 7) (a0 kJ ay (af 2))) ay) ay))
   (aW (bB (a0 fD (a0 uC (af 7) ay) (af 1))))))))))))))),?_⟩
 obtain ⟨a,c,cells,at',left,turn,rfl,h1,h2,aQ,bS,c1,hE,la⟩:=T0
 have Gl:c≠a:=by intro z;subst z;rw[h1]at h2;cases h2
 have v8:∀{x y z:Int},(gB c x y z).length<sizeLine:=fun {x y z}=>by show 4<sizeLine;decide
 have fin:∀(x at2 zS:Int)(J:ah),0<=at2->at2<=(n:Int)+1->J a=some (.cE (gB c at2 zS (turn+1)))->(∀b u,H b=some u->b≠a->J b=some u)->Q (.int (x%m)) J:=by
  intro x at2 zS J Q8 aeN ai az
  refine q _ _ (agb _ ⋯) (aga _ hm) ⟨a,c,cells,at2,zS,turn+1,rfl,ai,az _ _ h2 Gl,Q8,by lia,by lia,by lia,la⟩ ⟨fun b u hb c7=>az b u hb fun z=>c7 (by rw[z]),fun bG ⟨pD,bJ,aU,dO⟩=>by
   cases aU
   rw[h1]at dO
   cases dO
   exact ⟨a,_,rfl,ai⟩⟩
 refine ⟨_,rfl,a,_,rfl,qy h1 Kv,_,_,rfl,rfl,_,rfl,a,_,rfl,xr h1 v8 (aau _),?_⟩
 have g1:upd H a (.cE (gB c at' left (turn+1))) a=some (.cE (gB c at' left (turn+1))):=bo
 refine ⟨_,rfl,a,_,rfl,qy g1 Kv,?_⟩
 refine ⟨_,rfl,a,_,rfl,qy g1 Dg,_,_,rfl,rfl,_,rfl,?_⟩
 refine fG (fun _=>?_) (fun _=>?_)
 ·refine ⟨_,rfl,a,_,rfl,qy g1 Dg,_,rfl,_,_,rfl,rfl,hm,?_⟩
  refine ⟨_,rfl,a,_,rfl,qy g1 Dg,_,rfl,_,_,rfl,rfl,⟨hm,by lia⟩,_,rfl,a,_,rfl,xr g1 v8 (Kt _),?_⟩
  refine ⟨_,rfl,?_⟩
  exact fin left at' (left/m) _ aQ ⋯ bo fun b u hb c7=>by rw[br c7,br c7];exact hb
 refine ⟨_,rfl,a,_,rfl,qy g1 adN,?_⟩
 refine ⟨_,rfl,a,_,rfl,qy g1 Zg,?_⟩
 refine ⟨_,rfl,_,_,rfl,rfl,_,rfl,a,_,rfl,xr g1 v8 (adL _),?_⟩
 rw[Zp]
 have g2:upd H a (.cE (gB c (at'+1) left (turn+1))) a=some (.cE (gB c (at'+1) left (turn+1))):=bo
 have g3:upd H a (.cE (gB c (at'+1) left (turn+1))) c=some (.lst (cells.map V.int)):=by rw[br Gl];exact h2
 have oA:∀b u,H b=some u->b≠a->upd H a (.cE (gB c (at'+1) left (turn+1))) b=some u:=fun b u hb c7=>by rw[br c7];exact hb
 generalize upd H a (.cE (gB c (at'+1) left (turn+1)))=H1 at g2 g3 oA ⊢
 refine ⟨fun aE J=>∃z:Int,aE=[some (.ref a),some (.int m),some (.int (turn+1)),none,some (.int at'),some (.ref c),some (.int z),none]/\bb H1 J,?_,?_⟩
 ·have q6:aS K H1 (.ref c) (.list (cells.map PyData.int)):=by
   exact .lst (bP.of g3) (rY cells)
  refine ⟨_,rfl,MC,fun jw f0=>?_⟩
  have gw:=bY f0 (.lst [])
  refine ⟨_,.list [],q6.mono gw,.lst (bP.of bo) .nil,?_,rfl,by simp only[PyData.depth];rw[uy];decide,_,rfl,?_⟩
  ·simp only[PyData.canLay0];exact qo cells
  rw[show PyData.eqv (.list (cells.map PyData.int)) (.list [])=decide (cells=[]) by cases cells<;>simp[PyData.eqv,PyData.eqvAll]]
  by_cases zi:cells=[]
  ·rw[afI zi]
   refine kN ⟨_,rfl,_,_,rfl,rfl,.inl ⟨by decide,by decide⟩,_,rfl,gw⟩
  ·rw[afJ zi]
   have hp:0<cells.length:=ai9.mpr zi
   have ju:(0:Int)<(((cells.map V.int).length:Nat):Int):=by rw[afG];lia
   obtain ⟨v,ai,z,az⟩:=xh (P:=fun x=>∃z:Int,x=V.int z) (xs:=cells.map V.int) (agb at' ⋯) (aga at' ju) (fun x hx=>by
    obtain ⟨z,_,e⟩:=agd.mp hx
    exact ⟨z,e.symm⟩)
   subst az
   refine n6 ⟨_,rfl,_,rfl,_,rfl,c,_,rfl,.inl (bP.of (gw _ _ g3)),_,_,rfl,rfl,ju,c,_,_,_,rfl,rfl,bP.of (gw _ _ g3),ai,z,rfl,gw⟩
 rintro aE ag ⟨cell,rfl,s2⟩
 have k2:=s2 _ _ g2
 have k3:=s2 _ _ g3
 have iZ:∀b u,H b=some u->b≠a->ag b=some u:=fun b u hb c7=>s2 _ _ (oA b u hb c7)
 have afn:=aiX (show 0<=turn+1 by lia) (show 0<=turn+1 by lia)
 have aeI:((2^40:Nat):Int)=1099511627776:=by decide
 have Pd:(2:Int)^64=18446744073709551616:=by decide
 refine ⟨fun aE J=>aE=[some (.ref a),some (.int m),some (.int (turn+1)),none,some (.int at'),some (.ref c),some (.int cell),none]/\J=ag,?_,?_⟩
 ·refine ⟨_,rfl,_,_,rfl,rfl,⟨by decide,by decide,by decide⟩,_,_,rfl,rfl,_,rfl,?_⟩
  refine fG (fun _=>?_) (fun _=>kN ⟨rfl,rfl⟩)
  refine ⟨_,rfl,_,rfl,c,_,rfl,.inl (bP.of k3),_,_,rfl,rfl,_,rfl,?_⟩
  refine fG (fun _=>?_) (fun _=>⟨rfl,rfl⟩)
  refine ⟨_,rfl,_,rfl,_,_,rfl,rfl,⟨hm,by lia⟩,_,rfl,a,_,rfl,xr k2 v8 (Kt _),?_⟩
  refine ⟨_,rfl,_,rfl,_,_,rfl,rfl,hm,?_⟩
  exact fin cell (at'+1) (cell/m) _ ⋯ ⋯ bo fun b u hb c7=>by rw[br c7];exact iZ b u hb c7
 rintro aE J ⟨rfl,rfl⟩
 have yx:=Md cell (m:=2147483629) (by decide) (by decide)
 have aeG:=aga cell (show (0:Int)<2147483629 by decide)
 refine ⟨_,rfl,_,_,rfl,rfl,(show (0:Int)<2147483629 by decide),_,_,rfl,rfl,_,rfl,_,rfl,_,_,rfl,rfl,.inl ⟨by lia,by lia⟩,_,_,rfl,rfl,_,_,rfl,rfl,.inl ⟨by lia,by lia⟩,_,_,rfl,rfl,(show (0:Int)<2147483647 by decide),?_⟩
 refine ⟨_,rfl,_,_,rfl,rfl,⟨by decide,by decide,adw _ (by decide) (by decide)⟩,_,_,rfl,rfl,(show (0:Int)<2147483647 by decide),?_⟩
 generalize ((cell%2147483629+1)*((turn+1)*(turn+1)+48271)%2147483647)^(5:Int).toNat=Iv
 have wK:=agb Iv (show (2147483647:Int)≠0 by decide)
 have y1:=aga Iv (show (0:Int)<2147483647 by decide)
 refine ⟨_,rfl,_,rfl,_,_,rfl,rfl,.inl ⟨by decide,by decide⟩,_,_,rfl,rfl,_,_,rfl,rfl,⟨by decide,by decide,by lia⟩,_,_,rfl,rfl,(show (0:Int)<2147483587 by decide),?_⟩
 refine ⟨_,rfl,_,_,rfl,rfl,⟨by decide,by decide⟩,_,rfl,_,_,rfl,rfl,hm,?_⟩
 exact fin _ (at'+1) left _ ⋯ ⋯ k2 iZ
theorem q3:c0 K (HR K) (CT 2):=Zl fun _ _ _ _ h=>h
def H2 (K:ajA):b_:=fun aa H Q _=>∃(v:V) (d:PyData),aa=[v]/\aS K H v d/\(∀ds,d=.tuple ds->ds.length<=10000)/\∀J,bb H J->Q (.aG (hO d)) J
theorem Vc:b0 ["thing"] ["thing"] (bu A6):=(by walk_at "sc")
theorem yC (T:Txt K mg):Def P w K mg base "are_whole" ["thing"] 2 (H2 K):=by
 refine Def.c8 T.P2 Vc (fun aa H Q E h=>?_) (by walk_at "b1") (fun f a6 A outer s H aa Q E hr h=>?_)
 ·obtain ⟨v,d,rfl,_⟩:=h
  rfl
 obtain ⟨v,d,rfl,hd,hl,q⟩:=h
 refine ⟨_,(aW (bB (nV (dp uA rfl T.ng nM (ae (af 0) (ae (rS (v:=.ty "tuple") rfl T.kY lp rfl) aj))) (nU (dp (JV (K:=K) rfl rfl) rfl T.EX LI (ae (o2 (N:=["number"]) (is:=[none]) rfl ⟨rfl,rfl,by decide +kernel,by decide +kernel,trivial,rfl,trivial⟩ (w7 (af 0)) (fun _ _ _ _ _=>(dq (i:=0) (show List.Nodup (["number"]:ajD) from by decide +kernel) rfl (by walk_at "lc"))) (fun _ _ _ _ _=>mP) (fun _ _ _ _ _=>(a5 (vC T) hr (ae (af 0) aj)))) aj)))))),?_⟩
 have hsz:sizeLine=16777216:=afW
 refine ⟨_,rfl,_,mR d,"tuple",qx d,rfl,hd.ty,aaj d,_,rfl,?_⟩
 by_cases aH:qx d=true
 case neg=>
  have GH:qx d=false:=by simpa using aH
  rw[GH]
  refine kN ?_
  have:=q H (bb.refl _)
  rw[aaJ GH]at this;exact this
 rw[aH]
 refine n6 ?_
 obtain ⟨ds,rfl⟩:=Y7 aH
 obtain ⟨p,xs,rfl,dm,dY⟩:=hd.fS
 have hlen:=dY.length
 have rg:=hl ds rfl
 refine ⟨_,rfl,p,rfl,⟨_,dm⟩,fun D ft=>?_⟩
 refine CM (K:=K) (a:=p) (xs:=xs) (fun i σ ag=>(∃z,σ=[z])/\(∀b o,H b=some o->ag b=some o)/\ag D=some (.lst (((ds.take i).map el).map V.aG))) ⟨⟨none,rfl⟩,fun b o e=>bY ft _ b o e,bo⟩ (fun i σ ag _ ⟨_,s,_⟩=>(show bb H ag from s).hh dm) ?_ ?_
 ·rintro i x σ ag hx ⟨⟨z,rfl⟩,s2,h2⟩
  obtain ⟨e,he,eR⟩:=dY.at hx
  have hi:=(agf.mp he).1
  refine ⟨_,rfl,x,e,rfl,eR.mono s2,_,h2,by rw[afG,afG,ahm];lia,⟨_,rfl⟩,fun b o f5=>?_,?_⟩
  ·rw[br (eN f5 ft)];exact s2 _ _ f5
  ·rw[bo,qk he,af9,af9];rfl
 ·rintro σ ag ⟨⟨z,rfl⟩,s2,h2⟩
  rw[hlen,agM]at h2
  refine ⟨⟨_,h2⟩,D,_,rfl,bP.of h2,?_⟩
  have:=q ag s2
  rw[show hO (.tuple ds)=(ds.map el).all id by rw[aiC];rfl]at this
  exact this
def aba:dv:=fun ws n Q=>∃d,ws=[.d d]/\(∀ds,d=.tuple ds->ds.length<=10000)/\Q (.d (.bool (hO d))) n
theorem yr:c0 K (H2 K) aba:=fun aa H Q hz=>by
 obtain ⟨M,ws,n,aK,ok,r,⟨d,e,h,q⟩,k⟩:=hz
 subst e
 obtain ⟨v1,rfl,au⟩:=r.inv1
 exact ⟨v1,d,rfl,au.b1,h,fun J s=>k.kr ok s (.aG _) q⟩
def H3 (K:ajA):b_:=fun aa H Q _=>∃(n:Int),aa=[.int n]/\0<=n/\n<=60/\∀p ws J,bb H J->bp K J p ws->bE K J ws (hq n.toNat)->Q (.ref p) J
theorem HB:b0 ["n","rows"] ["n"] (bu A7):=(by walk_at "sc")
theorem vB (T:Txt K mg):Def P w K mg base "table_to" ["n"] 2 (H3 K):=by
 refine Def.c8 T.P4 HB (fun aa H Q E h=>?_) (by walk_at "b1") (fun f a6 A outer s H aa Q E hr h=>?_)
 ·obtain ⟨n,rfl,_⟩:=h
  rfl
 obtain ⟨n,rfl,d0,ax,q⟩:=h
 refine ⟨_,(aV (ck (i:=1) HB.aT rfl (by walk_at "lc") (jQ (ae (cN (ae ay aj)) aj)))
   (aV (nO agk (cn qF (dp l4 rfl T.f3 gd (ae (af 1) aj)) (af 0) (b6 _)) (aW (wU (Dz ah3 ajh aji uj (af 1) (ae (a5 (yA T) hr (ae (dx rm (af 1) (kI kG ay) (fun _ _=>rfl)) aj)) aj)))))
   (aW (bB (kC nL rfl T.kY lp (ae (af 1) aj)))))),?_⟩
 refine ⟨my,fun dG f1=>?_⟩
 have gJ:=bY f1 (.tup [.int 1])
 refine ⟨my,fun l dE=>?_⟩
 have eM:=bY dE (.lst [.ref dG])
 refine rP (fun σ ag=>∃(k:Nat) (ws:List V),σ=[some (.int n),some (.ref l)]/\(k:Int)<=n/\(∀b o,H b=some o->ag b=some o)/\ag l=some (.lst ws)/\bE K ag ws (hq k)) (fun σ ag=>match ag l with|some (.lst ws)=>100-ws.length|_=>0) ⟨0,_,rfl,by lia,fun b o e=>eM _ _ (gJ _ _ e),bo,.cons (.tup (bp.of (eM _ _ bo)) (.cons (.int 1) .nil)) .nil⟩ ?_ ?_
 ·rintro σ ag ⟨k,ws,rfl,hk,s2,h2,dw⟩
  have wl:ws.length=k+1:=by have:=dw.length;rw[CX]at this;exact this
  refine ⟨_,rfl,l,ws,rfl,.inl (bP.of h2),_,rfl,_,_,rfl,rfl,_,rfl,?_⟩
  refine fG (fun c=>?_) (fun c=>?_)
  ·have bG:((ws.length:Nat):Int)<=n:=afS c
   obtain ⟨a,aq,aC⟩:=Zu dw
   refine ⟨_,rfl,.inl ⟨rfl,_,bP.of h2⟩,_,rfl,_,rfl,l,_,_,_,rfl,rfl,bP.of h2,aq,a,_,rfl,aC,by rw[jM];lia,fun fO b3 s3 t3=>?_⟩
   have aQ:=s3 _ _ h2
   refine ⟨l,ws,_,rfl,rfl,aQ,by rw[wl,afW];lia,?_⟩
   have cR:lA b3 (upd b3 l (.lst (ws++[.ref fO]))):=wN aQ
   refine ⟨⟨k+1,ws++[.ref fO],rfl,by lia,fun b o e=>?_,bo,?_⟩,?_⟩
   ·rw[br (eN (gJ _ _ e) dE)];exact s3 _ _ (s2 _ _ e)
   ·rw[Yw]
    exact ((dw.mono s3).keep cR (LN k)).append (.cons ((aS.tup t3 (rY _)).SH cR) .nil)
   ·show (match upd b3 l (.lst (ws++[.ref fO])) l with|some (.lst ws)=>100-ws.length|_=>0)<(match ag l with|some (.lst ws)=>100-ws.length|_=>0)
    rw[bo,h2]
    show 100-(ws++[V.ref fO]).length<100-ws.length
    rw[afZ];simp;lia
  ·have bG:¬((ws.length:Nat):Int)<=n:=fun z=>c (afI z)
   have nk:k=n.toNat:=by lia
   subst nk
   refine ⟨_,rfl,l,ws,rfl,.inl ⟨bP.of h2,fun p hp=>?_⟩⟩
   exact q p ws _ ((show bb H ag from s2).trans (bY hp _)) (bp.of bo) (dw.mono (bY hp _))
 ·rintro σ ag sv sx aM ⟨v,ai,p,ys,az,cD,v2,gA,i,j,h1,h2,k,hS,aQ⟩
  exact ⟨v,ai,p,ys,az,cD,v2,gA,i,j,h1,h2,k,hS,aM _ _ aQ⟩
def abb:dv:=fun ws n Q=>∃m:Int,ws=[.d (.int m)]/\0<=m/\m<=60/\Q (.d (.tuple (hq m.toNat))) n
theorem yt:c0 K (H3 K) abb:=fun aa H Q hz=>by
 obtain ⟨M,ws,n,aK,ok,r,⟨m,e,h0,h1,q⟩,k⟩:=hz
 subst e
 obtain ⟨v1,rfl,au⟩:=r.inv1
 rw[au.int_inv]
 exact ⟨m,rfl,h0,h1,fun p us J s t d=>k.jq ok s (.tup t d) (aaQ _) q⟩
def abA:dv:=fun ws n Q=>∃m:Nat,ws=[.d (.tuple ((List.range m).map fun j=>d5 (cu j)))]/\m<=41/\Q (.d (d5 (cu m))) n
theorem Vq:b0 ["ahead"] ["ahead"] (bu By):=(by walk_at "sc")
theorem OT (T:Txt K mg):Def P w K mg base "due_behind" ["ahead"] 2 (iF K abA):=by
 refine Def.fM T.Qw Vq (fun ws n Q h=>?_) (by walk_at "b1") (fun f a6 A outer s H E hr=>⟨_,_,(aW (bB (rN (cn (eW (K:=K) rfl hr) (af 0) (cN aj) (b6 _)) (cN (ae ay aj)) (a5 (yA T) hr (ae (dx (iA (K:=K) rfl) (af 0) (kI kG ay) (fun _ _=>rfl)) aj))))),(dA (b:=false) (a9.x (L3 (dC (bh eX aw (d_ aN))) (d_ (ak ba aN)) (cA E9 (ak (bh iG aw (Dw ba)) aN))))),fun ws n Q h=>?_⟩)
 ·obtain ⟨m,rfl,_⟩:=h
  rfl
 obtain ⟨m,rfl,hm,q⟩:=h
 cases m with
 | zero=>
  refine DR ⟨rfl,rfl,by decide⟩ ?_
  exact q
 | succ m=>
  have hl:((List.range (m+1)).map fun j=>d5 (cu j)).length=m+1:=by rw[afG,agj]
  refine adp (c:=false) (by show some (decide (((List.range (m+1)).map fun j=>d5 (cu j)).length=0))=some false;rw[hl];rfl) ?_
  refine i1 (d:=d5 (cu m)) (xg (by rw[hl,af1,agK ⋯];rfl)) ?_
  exact ⟨cu m,rfl,by rw[jM];lia,q⟩
def VK (K:ajA):b_:=fun aa H Q _=>∃(v:V) (d:PyData),aa=[v]/\aS K H v d/\(∀z,d=.int z->z<=1000000)/\Q (.aG (rx d)) H
theorem BH:b0 ["thing","part"] ["thing"] (bu AB):=(by walk_at "sc")
theorem Ou (T:Txt K mg):Def P w K mg base "is_prime" ["thing"] 2 (VK K):=by
 refine Def.c8 T.Py BH (fun aa H Q E h=>?_) (by walk_at "b1") (fun f a6 A outer s H aa Q E hr h=>?_)
 ·obtain ⟨v,d,rfl,_⟩:=h
  rfl
 obtain ⟨v,d,rfl,hd,aZ,q⟩:=h
 obtain ⟨_,SU⟩:=T.NS
 refine ⟨_,(aV (c4 (gQ.pt (nZ (qt (kE (a5 (vC T) hr (ae (af 0) aj)))) (o5 (cn l9 (af 0) ay (b6 _))))) (aW (bB lx)) c3)
   (aV (ck (i:=1) BH.aT rfl (by walk_at "lc") ay)
   (aV (nO agk (gQ.pt (w6 (cn qF (af 1) (jN (v:=.int (1000)) rfl SU ⟨_,rfl⟩) (b6 _)) (wR (cn qF (a0 kJ (af 1) (af 1)) (af 0) (b6 _))))) (aV (c4 (cn n1 (a0 fD (af 0) (af 1)) ay (b6 _)) (aW (bB lx)) c3)
   (aW (l6 (i:=1) BH.aT rfl (by walk_at "lc") ay uP))))
   (aW (bB lx))))),?_⟩
 refine ⟨_,rfl,v,d,rfl,hd,_,rfl,?_⟩
 rcases hd.whole with ⟨z,rfl,rfl⟩|hw
 ·have aeX:z<=1000000:=aZ z rfl
  refine kN ?_
  refine ⟨_,rfl,_,_,rfl,rfl,_,rfl,?_⟩
  refine fG (fun c=>?_) (fun c=>?_)
  ·have bG:z<2:=afS c
   have e:rx (.int z)=false:=Co fun p=>by have:=p.two;lia
   rw[e]at q;exact q
  have bG:2<=z:=by have:¬z<2:=fun h=>c (afI h);lia
  refine rP (fun σ ag=>ag=H/\∃b:Int,σ=[some (.int z),some (.int b)]/\2<=b/\b<=1001/\∀k:Int,2<=k->k<b->z%k≠0) (fun σ _=>match σ with|[_,some (.int b)]=>(1001-b).toNat|_=>0) ⟨rfl,2,rfl,by decide,by decide,fun k h1 h2=>by lia⟩ ?_ ?_
  ·rintro σ ag ⟨rfl,b,rfl,cU,c6,aT⟩
   have yes:(1000<b\/z<b*b)->kO z=true:=fun h=>Jb ⟨bG,fun k k1 k2=>aT k k1 (by
    rcases h with h|h
    ·have h1:k<1001:=by
      rcases ahw k 1001 with h|h
      ·exact h
      ·have:=ajd h h ⋯ ⋯;lia
     lia
    ·rcases ahw k b with h|h'
     ·exact h
     ·have:=ajd h' h' ⋯ ⋯;lia)⟩
   refine ⟨_,rfl,_,_,rfl,rfl,_,rfl,?_⟩
   refine fG (fun g=>?_) (fun g=>?_)
   ·have g':b<=1000:=afS g
    refine ⟨_,rfl,_,rfl,_,_,rfl,rfl,.inl ⟨by lia,by lia⟩,_,rfl,_,_,rfl,rfl,_,rfl,?_⟩
    refine fG (fun g2=>?_) (fun g2=>?_)
    ·have y7:b*b<=z:=afS g2
     refine ⟨_,rfl,_,rfl,_,_,rfl,rfl,(show (0:Int)<b by lia),rfl,_,rfl,?_⟩
     refine fG (fun e=>?_) (fun e=>?_)
     ·have aU:z%b=0:=by have:=afS e;injection this
      have az:rx (.int z)=false:=Co fun p=>p.no b cU y7 aU
      rw[az]at q;exact q
     ·have aU:z%b≠0:=fun h=>e (afI (by show V.int (z%b)=V.int 0;rw[h]))
      refine ⟨_,rfl,_,_,rfl,rfl,?_⟩
      refine ⟨⟨rfl,b+1,rfl,by lia,by lia,fun k k1 k2=>?_⟩,by show (1001-(b+1)).toNat<(1001-b).toNat;lia⟩
      by_cases hk:k=b
      ·rw[hk];exact aU
      ·exact aT k k1 ⋯
    ·have y7:z<b*b:=by have:¬b*b<=z:=fun h=>g2 (afI h);lia
     have az:rx (.int z)=true:=yes (.inr y7)
     rw[az]at q;exact q
   ·have g':1000<b:=by have:¬b<=1000:=fun h=>g (afI h);lia
    have az:rx (.int z)=true:=yes (.inl g')
    rw[az]at q;exact q
  ·rintro σ ag sv sx aM ⟨v,ai,i,j,h1,h2,k,az,aQ⟩
   cases k with
   | true=>
    obtain ⟨v1,f1,v2,f2,dP,tp,g1,g2,QQ,gW,d3,RU,R2,g3,oA,k3,f4,sS⟩:=aQ
    exact ⟨v,ai,i,j,h1,h2,true,az,v1,f1,v2,f2,dP,tp,g1,g2,QQ,gW,d3,RU,R2,g3,oA,k3,f4,aM _ _ sS⟩
   | false=>exact ⟨v,ai,i,j,h1,h2,false,az,aM _ _ aQ⟩
 ·rw[hw]
  refine n6 ?_
  rw[ab9 hw]at q
  exact q
def VU (K:ajA):b_:=fun aa H Q _=>∃a b:Int,aa=[.int a,.int b]/\b≠0/\cb 8999 b/\∀v J,bb H J->aS K J v (bj (Rat.divInt a b))->Q v J
theorem BQ:b0 ["top","bottom","common"] ["top","bottom"] (bu Bx):=(by walk_at "sc")
theorem ot (T:Txt K mg):Def P w K mg base "lowest" ["top","bottom"] 2 (VU K):=by
 refine Def.c8 T.Qv BQ (fun aa H Q E h=>?_) (by walk_at "b2") (fun f a6 A outer s H aa Q E hr h=>?_)
 ·obtain ⟨a,b,rfl,_⟩:=h
  rfl
 obtain ⟨a,b,rfl,hb,aZ,q⟩:=h
 refine ⟨_,(aV (c4 (cn n1 (af 1) ay (b6 _)) (aW I4) c3)
   (aV (ck (i:=2) BQ.aT rfl (by walk_at "lc") (a5 (OS T) hr (ae (af 0) (ae (af 1) aj))))
   (aV (c4 (cn l9 (af 1) ay (b6 _)) (aW (ck (i:=2) BQ.aT rfl (by walk_at "lc") (kI kG (af 2)))) c3)
   (aW (bB (cN (ae (a0 JF (af 0) (af 2)) (ae (a0 JF (af 1) (af 2)) aj)))))))),?_⟩
 have vV:∀g:Int,g.natAbs=Int.gcd a b->g.natAbs.log2<9000:=fun g hg=>by
  have h1:g.natAbs<=b.natAbs:=by rw[hg];exact Nat.le_of_dvd ⋯ (Int.natAbs_dvd_natAbs.mpr (Int.gcd_dvd_right a b))
  have h2:cb 8999 g:=ahs h1 aZ
  exact aio (h2.log2 (by decide))
 refine ⟨_,rfl,rfl,_,rfl,?_⟩
 refine fG (fun c=>?_) (fun _=>?_)
 ·exact absurd (by simpa using c) hb
 refine ⟨_,rfl,_,rfl,a,b,rfl,?_⟩
 refine ⟨_,rfl,_,_,rfl,rfl,_,rfl,?_⟩
 refine fG (fun c=>?_) (fun c=>?_)
 ·have bG:b<0:=by simpa using c
  obtain ⟨ai,az,cD⟩:=Li (a:=a) hb (-(Int.gcd a b:Int)) (by rw[afD bG])
  refine ⟨_,rfl,_,rfl,_,rfl,_,rfl,_,_,rfl,rfl,⟨cD,vV _ (by simp)⟩,_,rfl,_,rfl,_,_,rfl,rfl,⟨cD,vV _ (by simp)⟩,jx,fun p hp=>?_⟩
  exact q _ _ (bY hp _) (aS.oO bo ai az)
 ·have bG:¬b<0:=by simpa using c
  obtain ⟨ai,az,cD⟩:=Li (a:=a) hb (Int.gcd a b:Int) (by rw[afC bG])
  refine ⟨_,rfl,_,rfl,_,_,rfl,rfl,⟨cD,vV _ (by simp)⟩,_,rfl,_,rfl,_,_,rfl,rfl,⟨cD,vV _ (by simp)⟩,jx,fun p hp=>?_⟩
  exact q _ _ (bY hp _) (aS.oO bo ai az)
def qf (m:Nat)(r:ajH):List (List Int):=(((List.range m).map fun t:Nat=>(0+(t:Int))).filter (fl r)).map fun x=>r++[x]
def jo (m:Nat):Nat->List (List Int)
 | 0=>[[]]
 | k+1=>(jo m k).flatMap (qf m)
theorem Ny:∀m:Fin 8,∀k:Fin 8,(jo m.val k.val).length<=1000:=by decide +kernel
theorem E2 {m:Nat}:∀{k:Nat}{r:ajH},r∈jo m k->r.length=k
 | 0,r,h=>by rcases af2.mp h with rfl;rfl
 | k+1,r,h=>by
  obtain ⟨bJ,h1,h2⟩:=List.mem_flatMap.mp h
  obtain ⟨x,_,rfl⟩:=agd.mp h2
  rw[afZ,E2 h1];rfl
def abo:dv:=fun ws n Q=>∃m:Nat,ws=[.d (.int (m:Int))]/\m<=7/\Q (.d (.list ((jo m m).map dr))) n
theorem wu:b0 ["n","beginnings","taken"] ["n"] (bu Bk):=(by walk_at "sc")
theorem OP (T:Txt K mg):Def P w K mg base "turns_down" ["n"] 2 (iF K abo):=by
 refine Def.fM T.Qh wu (fun ws n Q h=>?_) (by walk_at "b1") (fun f a6 A outer s H E hr=>⟨_,_,(aV (ck (i:=1) wu.aT rfl (by walk_at "lc") (jQ (ae (cN aj) aj)))
   (aV (i8 agk rfl (nN rfl T.iO (ae (af 0) aj)) (dq (i:=2) wu.aT rfl (by walk_at "lc")) (aW (XM (i:=1) (N:=["ahead","number","n"]) (is:=[none,none,some 0]) wu.aT rfl rfl rfl ⟨rfl,rfl,by decide +kernel,by decide +kernel,⟨rfl,trivial⟩,rfl,⟨⟨rfl,rfl,rfl⟩,trivial⟩⟩ (uB (K:=K) rfl (af 1)) (fun _ _ _ _ _=>(dq (i:=0) (show List.Nodup (["ahead","number","n"]:ajD) from by decide +kernel) rfl (by walk_at "lc"))) (fun _ _ _ _ _=>mP) (fun _ _ _ _ _=>(nN rfl T.iO (ae (af 2) aj))) (fun _ _ _ _ _=>(dq (i:=1) (show List.Nodup (["ahead","number","n"]:ajD) from by decide +kernel) rfl (by walk_at "lc"))) (fun _ _ _ _ _=>(w8 (kE (a5 (Ft T) hr (ae (af 0) (ae (af 1) aj)))))) (fun _ _ _ _ _=>(a0 (gM (K:=K) rfl) (af 0) (cN (ae (af 1) aj)))))))
   (aW (bB (af 1))))),(b9 (eV (b:=false) (a9.x (o7 (ak (d_ aN) aN))))
   (b9 (r1 (rT (ak aw aN)) i9 (eV (b:=false) (a9.x (YC (uJ aw) nT qw (rT (ak aw aN)) nT (qE (cA c0.refl (ak aw (ak aw aN)))) (bh jS aw (d_ (ak aw aN)))))))
   (dA (b:=false) (a9.x aw)))),fun ws n Q h=>?_⟩)
 ·obtain ⟨m,rfl,_⟩:=h
  rfl
 obtain ⟨m,rfl,hm,q⟩:=h
 refine ⟨⟨by lia,by lia⟩,?_⟩
 rw[ago]
 refine rW (fun j δ k=>k=n/\∃a2,δ=[some (.d (.int (m:Int))),some (.d (.list ((jo m j).map dr))),a2]) ⟨rfl,_,rfl⟩ (fun j d δ k R hd hp dF=>?_) (fun δ k hp=>?_)
 ·obtain ⟨rfl,a2,rfl⟩:=hp
  obtain ⟨hj,rfl⟩:=o1 hd
  refine tP ?_
  have len:(jo m j).length<=1000:=Ny ⟨m,by lia⟩ ⟨j,by lia⟩
  refine ⟨by rw[afG];exact len,?_⟩
  refine aax (fun i δ acc cO=>cO=k/\(∃y z,δ=[y,z,some (.d (.int (m:Int)))])/\acc=(((jo m j).take i).flatMap (qf m)).map dr) ⟨rfl,⟨_,_,rfl⟩,by rw[aiz];rfl⟩ (fun i d δ acc cO dV hd hp zd=>?_) (fun δ acc cO hp=>?_)
  ·obtain ⟨rfl,⟨y,z,rfl⟩,rfl⟩:=hp
   rw[af1]at hd
   obtain ⟨r,GF,rfl⟩:=ahd.mp hd
   have Hr:=E2 (agD GF)
   have tk:=qk GF
   refine ⟨⟨by lia,by lia⟩,?_⟩
   rw[ago]
   refine ⟨by rw[nR];lia,?_⟩
   refine aao (fun eS δ acc k2=>k2=cO/\(∃z,δ=[some (.d (dr r)),z,some (.d (.int (m:Int)))])/\acc=(((jo m j).take i).flatMap (qf m)).map dr++(qf eS r).map dr) ⟨rfl,⟨_,rfl⟩,by show _=_++[];rw[agc]⟩ (fun eS d δ acc k2 aev hd hp Gj=>?_) (fun δ acc k2 hp=>?_)
   ·obtain ⟨rfl,⟨z,rfl⟩,rfl⟩:=hp
    obtain ⟨iX,rfl⟩:=o1 hd
    refine ⟨r,0+(eS:Int),rfl,by lia,?_⟩
    have st:qf (eS+1) r=qf eS r++(if fl r (0+(eS:Int))=true then [r++[0+(eS:Int)]] else []):=by
     unfold qf
     rw[ahC,af9,ah0,af9]
     show _++(([0+(eS:Int)]:ajH).filter (fl r)).map _=_
     cases h:fl r (0+(eS:Int)) with
     | true=>rw[aix h];rfl
     | false=>rw[aiy (by rw[h];decide)];rfl
    cases hb:fl r (0+(eS:Int)) with
    | true=>
     refine abU (by rw[afG];show _+1<=_;lia) ?_
     refine ⟨_,rfl,Gj _ _ _ ⟨rfl,⟨_,rfl⟩,?_⟩⟩
     rw[st,hb,afD rfl,af9,<-ahr]
     show _++[PyData.tuple _]=_++[dr _]
     unfold dr
     rw[af9];rfl
    | false=>
     refine Gj _ _ _ ⟨rfl,⟨_,rfl⟩,?_⟩
     rw[st,hb,afC afT,agc]
   ·obtain ⟨rfl,⟨z,rfl⟩,rfl⟩:=hp
    refine zd _ _ _ ⟨rfl,⟨_,_,rfl⟩,?_⟩
    rw[nR,tk,List.flatMap_append,af9]
    simp
  ·obtain ⟨rfl,⟨y,z,rfl⟩,rfl⟩:=hp
   rw[afG,agM]
   exact dF _ _ ⟨rfl,_,rfl⟩
 obtain ⟨rfl,a2,rfl⟩:=hp
 rw[nR]
 exact q
theorem Nq {α:Type}{xs:List α}{v:α}{k:Nat}(hk:k<xs.length)(h:xs[xs.length-1-k]?=some v):ez xs (-1-(k:Int))=some v:=by
 unfold ez ki
 rw[afC ⋯,afD ⋯]
 have e:(-1-(k:Int)+(xs.length:Int)).toNat=xs.length-1-k:=by lia
 rw[e]
 exact h
def aa3:dv:=fun ws n Q=>∃(aY:List (List Int)) (m:Nat) (r:ajH) (x:Int),ws=[.d (.tuple (aY.map dr)),.d (.int (m:Int)),.d (dr r),.d (.int x)]/\m<=60/\r.length<=60/\(fl r x=true->x∈dS m r/\(dS m r).length<=aY.length/\gg x (dS m r)<(aY.getD ((dS m r).length-1) []).length)/\Q (.d (.int (g7 aY m r x))) n
theorem wo:b0 ["table","n","ahead","number","free","row","rank"] ["table","n","ahead","number"] (bu AY):=(by walk_at "sc")
theorem yB (T:Txt K mg):Def P w K mg base "how_many_begin" ["table","n","ahead","number"] 2 (iF K aa3):=by
 refine Def.fM T.PU wo (fun ws n Q h=>?_) (fun _ _ _ _ _ _ us hl=>match us,hl with|[_,_,_,_],_=>rfl) (fun f a6 A outer s H E hr=>⟨_,_,(aV (c4 (qt (kE (a5 (Ft T) hr (ae (af 2) (ae (af 3) aj))))) (aW (bB ay)) c3)
   (aV (wW (i:=4) (N:=["k","ahead"]) (is:=[none,some 2]) wo.aT rfl rfl rfl ⟨rfl,rfl,by decide +kernel,by decide +kernel,⟨rfl,trivial⟩,rfl,⟨⟨rfl,rfl,rfl⟩,trivial⟩⟩ (nN rfl T.iO (ae (af 1) aj)) (fun _ _ _ _ _=>(dq (i:=0) (show List.Nodup (["k","ahead"]:ajD) from by decide +kernel) rfl (by walk_at "lc"))) (fun _ _ _ _ _=>(w8 (cn (Cn (K:=K) rfl hr) (af 0) (af 1) rfl))) (fun _ _ _ _ _=>(af 0)))
   (aV (ck (i:=5) wo.aT rfl (by walk_at "lc") (dx (iA (K:=K) rfl) (af 0) (a0 fc (dp (kD (K:=K) rfl) rfl T.f3 gd (ae (af 4) aj)) ay) (fun _ _=>rfl)))
   (aV (ck (i:=6) wo.aT rfl (by walk_at "lc") (ZP (K:=K) rfl ah3 PySem.F.slot_list_index PySem.F.type_list_index aai (af 4) (ae (af 3) aj)))
   (aW (bB (rN (cn (eW (K:=K) rfl hr) (a0 fD (dp (kD (K:=K) rfl) rfl T.f3 gd (ae (af 2) aj)) ay) ay (b6 _)) (dx (iA (K:=K) rfl) (af 5) (af 6) (fun _ _=>rfl)) (dx (iA (K:=K) rfl) (af 5) (a0 fc (kI kG ay) (af 6)) (fun _ _=>rfl))))))))),(b9 (eh (b:=false) (cL.x (r2 (qE (cA c0.refl (ak aw (ak aw aN)))))) (dA (b:=false) (a9.x ba)) eg)
   (b9 (eV (b:=false) (a9.x (qq (rT (ak aw aN)) nT (dC (bh (DV true) aw aw)) aw)))
   (b9 (eV (b:=false) (a9.x (bh iG aw (bh ja (gX kK (ak aw aN)) ba))))
   (b9 (eV (b:=false) (a9.x (ZD aw (ak aw aN))))
   (dA (b:=false) (a9.x (L3 (dC (bh eX (bh mU (gX kK (ak aw aN)) ba) ba)) (bh iG aw aw) (bh iG aw (bh ja (Dw ba) aw))))))))),fun ws n Q h=>?_⟩)
 ·obtain ⟨aY,m,r,x,rfl,_⟩:=h
  rfl
 obtain ⟨aY,m,r,x,rfl,hm,hr,hg,q⟩:=h
 refine ⟨r,x,rfl,hr,?_⟩
 cases hb:fl r x with
 | false=>
  have e:g7 aY m r x=0:=afC (by rw[hb];decide)
  rw[e]at q
  exact q
 | true =>
  obtain ⟨g1,g2,g3⟩:=hg hb
  have e:g7 aY m r x=(if r.length%2=0 then (aY.getD ((dS m r).length-1) []).getD (gg x (dS m r)) 0 else (aY.getD ((dS m r).length-1) []).getD ((aY.getD ((dS m r).length-1) []).length-1-gg x (dS m r)) 0):=afD hb
  rw[e]at q
  clear e
  refine ⟨⟨by lia,by lia⟩,?_⟩
  rw[ago]
  refine ⟨by rw[nR];lia,?_⟩
  refine qv (fun i δ acc cO=>cO=n/\(∃y,δ=[y,some (.d (dr r))])/\acc=(dS i r).map PyData.int) ⟨rfl,⟨_,rfl⟩,rfl⟩ (fun i d δ acc cO R hd hp dF=>?_) (fun δ acc cO hp=>?_)
  ·obtain ⟨rfl,⟨y,rfl⟩,rfl⟩:=hp
   obtain ⟨hi,rfl⟩:=o1 hd
   have st:=w1 i r
   refine xp ?_
   show (match a4.d (.bool !(r.contains (0+(i:Int)))) with|.d (.bool c)=>fo c _ _|_=>False)
   cases hc:!(r.contains (0+(i:Int))) with
   | true=>
    refine dF _ _ _ ⟨rfl,⟨_,rfl⟩,?_⟩
    rw[st,hc,afD rfl,af9];rfl
   | false=>
    refine dF _ _ _ ⟨rfl,⟨_,rfl⟩,?_⟩
    rw[st,hc,afC afT,agc]
  ·obtain ⟨rfl,⟨y,rfl⟩,rfl⟩:=hp
   rw[nR]
   obtain ⟨f,hf⟩:∃f,dS m r=f:=⟨_,rfl⟩
   rw[hf]at q g1 g2 g3 ⊢
   have aeL:0<f.length:=List.length_pos_of_mem g1
   obtain ⟨row,zA⟩:∃row,aY.getD (f.length-1) []=row:=⟨_,rfl⟩
   rw[zA]at q g3
   have RH:aY[f.length-1]?=some row:=by
    rw[afO,afQ (show f.length-1<aY.length by lia)]at zA
    rw[afQ (show f.length-1<aY.length by lia)]
    exact congrArg some zA
   refine Hm ?_
   refine iw ?_
   rw[afG,show ((f.length:Int)-1)=((f.length-1:Nat):Int) by lia]
   refine i1 (d:=dr row) (mQ (by rw[af1,RH];rfl)) ?_
   refine ⟨⟨_,rfl⟩,f,x,gg x f,rfl,rfl,Kk g1,fun _ h=>Kj h,?_⟩
   refine kp ?_
   refine lZ (by decide) ?_
   rw[afG]
   refine n4 (fun c=>?_) (fun c=>?_)
   ·rw[afD ⋯]at q
    exact i1 (o3 (k:=gg x f) g3) q
   ·rw[afC ⋯]at q
    refine iw ?_
    refine i1 (d:=.int (row.getD (row.length-1-gg x f) 0)) ?_ q
    refine Nq (by rw[afG];exact g3) ?_
    rw[afG,af1,afO,afQ (show row.length-1-gg x f<row.length by lia)];rfl
def HQ (K:ajA):b_:=fun aa H Q _=>∃a n p:Int,aa=[.int a,.int n,.int p]/\1<p/\p<2^30/\0<=n/\Q (.int (a^n.toNat%p)) H
theorem qd:b0 ["a","n","p","rest","square","left"] ["a","n","p"] (bu AO):=(by walk_at "sc")
theorem vy (T:Txt K mg):Def P w K mg base "rest_of_power" ["a","n","p"] 2 (HQ K):=by
 refine Def.c8 T.PK qd (fun aa H Q E h=>?_) (by walk_at "b3") (fun f a6 A outer s H aa Q E hr h=>?_)
 ·obtain ⟨a,n,p,rfl,_⟩:=h
  rfl
 obtain ⟨a,n,p,rfl,hp,eK,hn,q⟩:=h
 refine ⟨_,(aV (ck (i:=3) qd.aT rfl (by walk_at "lc") ay)
   (aV (ck (i:=4) qd.aT rfl (by walk_at "lc") (a5 (k7 T) hr (ae (af 0) (ae (af 2) aj))))
   (aV (ck (i:=5) qd.aT rfl (by walk_at "lc") (af 1))
   (aV (nO agk (cn pb (af 5) ay (b6 _)) (aV (c4 (cn n1 (a0 fD (af 5) ay) ay (b6 _)) (aW (ck (i:=3) qd.aT rfl (by walk_at "lc") (a5 (k7 T) hr (ae (a0 kJ (af 3) (af 4)) (ae (af 2) aj))))) c3)
   (aV (ck (i:=4) qd.aT rfl (by walk_at "lc") (a5 (k7 T) hr (ae (a0 kJ (af 4) (af 4)) (ae (af 2) aj))))
   (aW (l6 (i:=5) qd.aT rfl (by walk_at "lc") ay aap)))))
   (aW (bB (af 3))))))),?_⟩
 have FD:(2:Int)^30=1073741824:=by decide
 refine ⟨_,rfl,_,rfl,a,p,rfl,by lia,?_⟩
 refine ⟨_,rfl,?_⟩
 have s0:=agb a (show p≠0 by lia)
 have s1:=aga a (show 0<p by lia)
 refine rP (fun σ ag=>ag=H/\∃r s l:Int,σ=[some (.int a),some (.int n),some (.int p),some (.int r),some (.int s),some (.int l)]/\0<=r/\r<p/\0<=s/\s<p/\0<=l/\r*s^l.toNat%p=a^n.toNat%p) (fun σ _=>match σ with|[_,_,_,_,_,some (.int l)]=>l.toNat|_=>0) ⟨rfl,1,_,n,rfl,by decide,hp,s0,s1,hn,by rw[Int.one_mul,pm]⟩ ?_ ?_
 ·rintro σ ag ⟨rfl,r,s,l,rfl,gq,au,s0,s1,jw,e⟩
  refine ⟨_,rfl,_,_,rfl,rfl,_,rfl,?_⟩
  refine fG (fun c=>?_) (fun c=>?_)
  ·have bG:0<l:=afS c
   have t:=ZR r s p l.toNat
   have ln:(l/2).toNat=l.toNat/2:=by lia
   have rL:=agb (s*s) (show p≠0 by lia)
   have z1:=aga (s*s) (show 0<p by lia)
   have wK:=agb (r*s) (show p≠0 by lia)
   have y1:=aga (r*s) (show 0<p by lia)
   refine ⟨_,rfl,_,_,rfl,rfl,(show (0:Int)<2 by decide),rfl,_,rfl,?_⟩
   refine fG (fun g=>?_) (fun g=>?_)
   ·have g':l%2=1:=by have:=afS g;injection this
    rw[afD (show l.toNat%2=1 by lia)]at t
    refine ⟨_,rfl,_,rfl,_,_,rfl,rfl,.inl ⟨by lia,by lia⟩,_,rfl,r*s,p,rfl,by lia,?_⟩
    refine ⟨_,rfl,_,rfl,_,_,rfl,rfl,.inl ⟨by lia,by lia⟩,_,rfl,s*s,p,rfl,by lia,?_⟩
    refine ⟨_,rfl,_,_,rfl,rfl,⟨by decide,by decide⟩,?_⟩
    refine ⟨⟨rfl,r*s%p,s*s%p,l/2,rfl,wK,y1,rL,z1,by lia,?_⟩,?_⟩
    ·rw[ln,t];exact e
    ·show (l/2).toNat<l.toNat;lia
   ·have g':¬l%2=1:=fun z=>g (afI (by show V.int (l%2)=V.int 1;rw[z]))
    rw[afC (show ¬l.toNat%2=1 by lia)]at t
    refine ⟨_,rfl,_,rfl,_,_,rfl,rfl,.inl ⟨by lia,by lia⟩,_,rfl,s*s,p,rfl,by lia,?_⟩
    refine ⟨_,rfl,_,_,rfl,rfl,⟨by decide,by decide⟩,?_⟩
    refine ⟨⟨rfl,r,s*s%p,l/2,rfl,gq,au,rL,z1,by lia,?_⟩,?_⟩
    ·rw[ln,t];exact e
    ·show (l/2).toNat<l.toNat;lia
  ·have bG:l=0:=by
    by_cases aZ:0<l
    ·exact absurd (afI aZ) c
    ·lia
   subst bG
   refine ⟨_,rfl,?_⟩
   have az:r=a^n.toNat%p:=by
    rw[<-e];show r=r*s^0%p;rw[aiv,ahH,ahZ gq au]
   rw[az];exact q
 ·rintro σ ag sv sx aM ⟨v,ai,i,j,az,cD,k,gA,h2⟩
  exact ⟨v,ai,i,j,az,cD,k,gA,aM _ _ h2⟩
def aaW:dv:=fun ws n Q=>∃a m p:Int,ws=[.d (.int a),.d (.int m),.d (.int p)]/\1<p/\p<2^30/\0<=m/\Q (.d (.int (a^m.toNat%p))) n
theorem NT:c0 K (HQ K) aaW:=fun aa H Q hz=>by
 obtain ⟨M,ws,n,aK,ok,r,⟨a,m,p,e,h1,h2,aQ,q⟩,k⟩:=hz
 subst e
 obtain ⟨v1,v2,gW,rfl,au,bt,fP⟩:=r.vY
 rw[au.int_inv,bt.int_inv,fP.int_inv]
 exact ⟨a,m,p,rfl,h1,h2,aQ,k.now ok (.int _) q⟩
def VX (K:ajA):b_:=fun aa H Q _=>∃(n:Int),aa=[.int n]/\0<=n/\n<=40/\∀J,bb H J->Q (.int (2^n.toNat)) J
theorem Vw:b0 ["n"] ["n"] (bu BE):=(by walk_at "sc")
theorem yG (T:Txt K mg):Def P w K mg base "two_to" ["n"] 2 (VX K):=by
 refine Def.c8 T.QC Vw (fun aa H Q E h=>?_) (by walk_at "b1") (fun f a6 A outer s H aa Q E hr h=>?_)
 ·obtain ⟨n,rfl,_⟩:=h
  rfl
 obtain ⟨n,rfl,d0,ax,q⟩:=h
 refine ⟨_,(aW (bB (a5 (yF T) hr (ae (a5 (OR T) hr (ae (cN (ae ay (ae ay aj))) (ae (af 0) aj))) aj)))),?_⟩
 refine ⟨jx,fun dG f1=>?_⟩
 have gJ:=bY f1 (.tup [.int 2,.int 1])
 refine ⟨_,rfl,_,2,n,rfl,aS.oO (q:=2) bo rfl rfl,⟨by decide,by decide⟩,d0,ax,fun v ag s2 dw=>?_⟩
 refine ⟨v,_,rfl,dw,?_⟩
 rw[Zs,Zr,afD (by decide)]
 exact q _ (gJ.trans s2)
def VW (K:ajA):b_:=fun aa H Q _=>∃(v:V) (x:Rat),aa=[v]/\aS K H v (bj x)/\x.den=1/\Q (.int (u0 x.num)) H
theorem Vu:b0 ["share"] ["share"] (bu BC):=(by walk_at "sc")
theorem Fw (T:Txt K mg):Def P w K mg base "size_of" ["share"] 2 (VW K):=by
 refine Def.c8 T.QA Vu (fun aa H Q E h=>?_) (by walk_at "b1") (fun f a6 A outer s H aa Q E hr h=>?_)
 ·obtain ⟨v,x,rfl,_⟩:=h
  rfl
 obtain ⟨v,x,rfl,d,h1,q⟩:=h
 refine ⟨_,(aW (bB (dp CP rfl T.yl DH (ae (a5 (yF T) hr (ae (af 0) aj)) aj)))),?_⟩
 refine ⟨_,rfl,v,x,rfl,d,?_⟩
 rw[h1,afD (by decide)]
 exact ⟨_,rfl,q⟩
mutual
def ku:PyData->Bool
 | .none=>true
 | .bool _=>true
 | .str _=>true
 | .int i=>decide (i.natAbs<1000)
 | .list xs=>rF xs
 | .tuple xs=>rF xs
 | .dict kvs=>tX kvs
def rF:List PyData->Bool
 | []=>true
 | x::xs=>ku x&&rF xs
def tX:List (PyData×PyData)->Bool
 | []=>true
 | (k,v)::r=>ku k&&(ku v&&tX r)
end
mutual
theorem tW:∀{d:PyData},ku d=true->d7 d
 | .none,_=>by simp only[d7]
 | .bool _,_=>by simp only[d7]
 | .str _,_=>by simp only[d7]
 | .int i,h=>by
  have h':i.natAbs<1000:=afS (by simpa only[ku] using h)
  have h2:cb 10 i:=show i.natAbs<2^10 by lia
  exact (b4.oE h2 (by decide) (by decide)).bj
 | .list xs,h=>by simp only[d7];exact BV (by simpa only[ku] using h)
 | .tuple xs,h=>by simp only[d7];exact BV (by simpa only[ku] using h)
 | .dict kvs,h=>by simp only[d7];exact HL (by simpa only[ku] using h)
theorem BV:∀{ds:ajz},rF ds=true->hP ds
 | [],_=>by simp only[hP]
 | x::xs,h=>by
  have h':ku x=true/\rF xs=true:=by simpa only[rF,afM] using h
  simp only[hP];exact ⟨tW h'.1,BV h'.2⟩
theorem HL:∀{ds:List (PyData×PyData)},tX ds=true->ie ds
 | [],_=>by simp only[ie]
 | (k,v)::r,h=>by
  have h':ku k=true/\ku v=true/\tX r=true:=by simpa only[tX,afM] using h
  simp only[ie];exact ⟨tW h'.1,tW h'.2.1,HL h'.2.2⟩
end
variable {d d' q:PyData}{k m:Nat}{p n:Int}{ns:ajH}
def BS (d:PyData):Bool:=ku d&&(decide (d.depth<=60)&&decide (d.shown.length<=1000))
theorem HH (h:BS d=true):b4 60 8000000 d:=by
 unfold BS at h
 simp only[afM]at h
 exact ⟨tW h.1,afS h.2.1,by have:=afS h.2.2;lia⟩
inductive n_ where
 | t (d:PyData)
 | x (c:Str) (aR:ajD) (ds:ajz)
def n_.ok (a:n_)(n:Nat)(Q:b7)(X:Str->List Str->List PyData->Nat->Prop):Prop:=match a with
 | .t d=>Q (.d d) n
 | .x c aR ds=>X c aR ds n
inductive j0:n_->Prop where
 | t {d:PyData} (h:b4 60 8000000 d) (g:dt d=true):j0 (.t d)
 | p {a b:PyData} (h:b4 60 8000000 (.tuple [a,b])) (g:dt (.tuple [a,b])=true):j0 (.x "NoPaper" ["word","place"] [a,b])
 | r {a b:PyData} (h:b4 60 8000000 (.tuple [a,b])) (g:dt (.tuple [a,b])=true):j0 (.x "NoRest" ["number","prime"] [a,b])
 | u {a b:PyData} (h:b4 60 8000000 (.tuple [a,b])) (g:dt (.tuple [a,b])=true):j0 (.x "NoTurn" ["word","thing"] [a,b])
theorem _root_.L2.b4.hI {n v:Nat}(h:b4 n v d)(hn:n<=60:=by decide)(hv:v<=8000000:=by decide):b4 60 8000000 d:=h.mono hn hv
theorem ks {z:Int}(h0:-100000<z)(h1:z<100000):b4 0 60 (.int z):=(b4.oE (m:=17) (show z.natAbs<2^17 by lia) (by decide) (by decide)).mono (by decide) (by decide)
theorem mF {a b:PyData}{v:Nat}(h1:b4 k v a)(h2:b4 k v b)(hk:k<50)(hv:v<=1000000):b4 60 8000000 (.tuple [a,b]):=(b4.pair h1 h2).mono ⋯ ⋯
def wb:Option (Str×Int)->n_
 | none=>.t (.bool true)
 | some (w,k)=>.x "NoPaper" ["word","place"] [.str w,.int k]
def p5:List Int:=[5,7,11,13,17]
theorem Hf (h:p∈p5):p=5\/p=7\/p=11\/p=13\/p=17:=by
 simpa only[p5,afP,agg,agh] using h
structure sE (d:PyData):Prop where
 e0:pk d
 sw:b4 5 1000 d
 eo:∀ds,d=.tuple ds->ds.length<=6
 li:gx d=true
 l0:dt d=true
def t6 (d:PyData):Bool:=(ku d&&(decide (d.depth<=5)&&decide (d.shown.length<=1000)))&&((gx d&&dt d)&&(match d with|.tuple ds=>decide (ds.length<=6)&&(ds.all fun e=>match e with|.tuple aA=>decide (aA.length<=10000)|_=>true)|_=>true))
theorem B7 (h:t6 d=true):sE d:=by
 unfold t6 at h
 simp only[afM]at h
 obtain ⟨⟨h1,h2,aQ⟩,⟨bS,hE⟩,c1⟩:=h
 refine ⟨fun ds e x hx aA ex=>?_,⟨tW h1,afS h2,afS aQ⟩,fun ds e=>?_,bS,hE⟩
 ·subst e ex
  have pQ:(decide (ds.length<=6)&&(ds.all fun e=>match e with|.tuple aA=>decide (aA.length<=10000)|_=>true))=true:=c1
  rw[afM]at pQ
  exact afS (afR.mp pQ.2 _ hx)
 ·subst e
  have pQ:(decide (ds.length<=6)&&(ds.all fun e=>match e with|.tuple aA=>decide (aA.length<=10000)|_=>true))=true:=c1
  rw[afM]at pQ
  exact afS pQ.1
theorem Hs (hl:ns.length<=6)(hb:∀x∈ns,-5<x/\x<5):sE (dr ns):=by
 have j5:∀x∈ns,cb 3 x:=fun x hx=>by have:=hb x hx;exact show x.natAbs<2^3 by lia
 refine ⟨fun ds e x hx aA ex=>?_,(xd j5 (by decide) (by decide)).mono (by decide) ⋯,fun ds e=>?_,?_,o4 ns⟩
 ·cases e
  obtain ⟨i,_,rfl⟩:=agd.mp hx
  cases ex
 ·cases e;rw[afG];exact hl
 ·have:∀l:List Int,h9 (l.map PyData.int)=true:=fun l=>by
   induction l with
   | nil=>simp only[agt,h9]
   | cons i l bl=>simp only[af8,h9,afM];exact ⟨by simp only[gx],bl⟩
  simp only[gx];exact this ns
def Il:List PyData:=[.tuple [.int 1,.int 0,.int 2],.tuple [.int 1,.int 0],.tuple [.int 0,.int 1],.list [.int 1,.int 0],.tuple [.tuple [.int 1],.tuple [.int 0,.int 1]],.tuple [.tuple [.int 1],.tuple [.int 0,.int 1],.tuple [.int 0,.int 1,.int 1]],.tuple [.tuple [.int 1],.tuple [.int 0,.int 2]],.int 2,.int 3,.bool true]
def Im (r:PyData):List PyData:=[.none,.dict [],.tuple [.int 0,.tuple [.int 2,.int 3]],.tuple [.int 1,.tuple [.int 2,.int 3,.int 5]],.tuple [.int 0,.list [.int 2]],.str "()",.tuple [],.tuple [.int 2,.int 0,.int 3,.int 1]]++([r]++[.tuple [.int 0],.dict [(.str "a",.list [.int 1])]])
theorem We:Il.all t6=true:=by decide +kernel
theorem Wf:([.none,.dict [],.tuple [.int 0,.tuple [.int 2,.int 3]],.tuple [.int 1,.tuple [.int 2,.int 3,.int 5]],.tuple [.int 0,.list [.int 2]],.str "()",.tuple [],.tuple [.int 2,.int 0,.int 3,.int 1]]:ajz).all t6=true:=by decide +kernel
theorem Wg:([.tuple [.int 0],.dict [(.str "a",.list [.int 1])]]:ajz).all t6=true:=by decide +kernel
def aa1:dv:=fun ws k Q=>ws=[.t 2]/\k<=2^20/\∀(w:Str)(n p:Int)(ns:ajH)(d:PyData)(cO:Nat),0<=n->n<=10->p∈p5->ns.length<=6->(∀x∈ns,-5<x/\x<5)->sE d->(PyData.str w).shown.length<=20->cO<=k+30->Q (.d (.tuple [.str w,.int n,.int p,dr ns,d])) cO
theorem nF:b0 ["_law_feed_here","_law_words","_law_word","_law_n","_law_p","_law_row","_law_things"] ["_law_feed_here"] (bu AV):=(by walk_at "sc")
theorem OD (T:Txt K mg):Def P w K mg base "_law_question" ["_law_feed_here"] 2 (iF K aa1):=by
 refine Def.fM T.PR nF (fun ws n Q h=>?_) (by walk_at "b1") (fun f a6 A outer s H E hr=>⟨_,_,(aV (ck (i:=1) nF.aT rfl (by walk_at "lc") (jQ (ae b5 (ae b5 (ae b5 (ae b5 (ae b5 (ae b5 (ae b5 (ae b5 (ae b5 aj)))))))))))
   (aV (ck (i:=1) nF.aT rfl (by walk_at "lc") (a0 (gM (K:=K) rfl) (af 1) (jQ (ae b5 (ae b5 (ae b5 (ae b5 (ae b5 (ae b5 (ae b5 (ae b5 aj)))))))))))
   (aV (ck (i:=2) nF.aT rfl (by walk_at "lc") (dx (iA (K:=K) rfl) (af 1) (a5 (q5 T) hr (ae (af 0) (ae ay aj))) (fun _ _=>rfl)))
   (aV (ck (i:=3) nF.aT rfl (by walk_at "lc") (a5 (q5 T) hr (ae (af 0) (ae ay aj))))
   (aV (ck (i:=4) nF.aT rfl (by walk_at "lc") (dx (iA (K:=K) rfl) (jQ (ae ay (ae ay (ae ay (ae ay (ae ay aj)))))) (a5 (q5 T) hr (ae (af 0) (ae ay aj))) (fun _ _=>rfl)))
   (aV (ck (i:=5) nF.aT rfl (by walk_at "lc") (kC (Yh (K:=K) rfl) rfl T.kY lp (ae (o2 (N:=["_law_k","_law_feed_here"]) (is:=[none,some 0]) rfl ⟨rfl,rfl,by decide +kernel,by decide +kernel,⟨rfl,trivial⟩,rfl,⟨⟨rfl,rfl,rfl⟩,trivial⟩⟩ (nN rfl T.iO (ae (a0 (gM (K:=K) rfl) ay (a5 (q5 T) hr (ae (af 0) (ae ay aj)))) aj)) (fun _ _ _ _ _=>(dq (i:=0) (show List.Nodup (["_law_k","_law_feed_here"]:ajD) from by decide +kernel) rfl (by walk_at "lc"))) (fun _ _ _ _ _=>mP) (fun _ _ _ _ _=>(a0 fc (a5 (q5 T) hr (ae (af 1) (ae ay aj))) ay))) aj)))
   (aV (ck (i:=6) nF.aT rfl (by walk_at "lc") (jQ (ae (cN (ae ay (ae ay (ae ay aj)))) (ae (cN (ae ay (ae ay aj))) (ae (cN (ae ay (ae ay aj))) (ae (jQ (ae ay (ae ay aj))) (ae (cN (ae (cN (ae ay aj)) (ae (cN (ae ay (ae ay aj))) aj))) (ae (cN (ae (cN (ae ay aj)) (ae (cN (ae ay (ae ay aj))) (ae (cN (ae ay (ae ay (ae ay aj)))) aj)))) (ae (cN (ae (cN (ae ay aj)) (ae (cN (ae ay (ae ay aj))) aj))) (ae ay (ae ay (ae lx aj))))))))))))
   (aV (ck (i:=6) nF.aT rfl (by walk_at "lc") (a0 (gM (K:=K) rfl) (af 6) (jQ (ae Kh (ae XN (ae (cN (ae ay (ae (cN (ae ay (ae ay aj))) aj))) (ae (cN (ae ay (ae (cN (ae ay (ae ay (ae ay aj)))) aj))) (ae (cN (ae ay (ae (jQ (ae ay aj)) aj))) (ae b5 (ae (cN aj) (ae (cN (ae ay (ae ay (ae ay (ae ay aj))))) (ae (af 5) (ae (cN (ae ay aj)) (ae (JB (uh b5 (jQ (ae ay aj)) Jz)) aj))))))))))))))
   (aW (bB (cN (ae (af 2) (ae (af 3) (ae (af 4) (ae (af 5) (ae (dx (iA (K:=K) rfl) (af 6) (a5 (q5 T) hr (ae (af 0) (ae ay aj))) (fun _ _=>rfl)) aj)))))))))))))))),(b9 (eV (b:=false) (a9.x (o7 (ak dB (ak dB (ak dB (ak dB (ak dB (ak dB (ak dB (ak dB (ak dB aN))))))))))))
   (b9 (eV (b:=false) (a9.x (bh jS aw (o7 (ak dB (ak dB (ak dB (ak dB (ak dB (ak dB (ak dB (ak dB aN))))))))))))
   (b9 (eV (b:=false) (a9.x (bh iG aw (cA q3 (ak aw (ak ba aN))))))
   (b9 (eV (b:=false) (a9.x (cA q3 (ak aw (ak ba aN)))))
   (b9 (eV (b:=false) (a9.x (bh iG (o7 (ak ba (ak ba (ak ba (ak ba (ak ba aN)))))) (cA q3 (ak aw (ak ba aN))))))
   (b9 (eV (b:=false) (a9.x (gX aam (ak (qq (rT (ak (bh jS ba (cA q3 (ak aw (ak ba aN)))) aN)) nT qw (bh ja (cA q3 (ak aw (ak ba aN))) ba)) aN))))
   (b9 (eV (b:=false) (a9.x (o7 (ak (d_ (ak ba (ak ba (ak ba aN)))) (ak (d_ (ak ba (ak ba aN))) (ak (d_ (ak ba (ak ba aN))) (ak (o7 (ak ba (ak ba aN))) (ak (d_ (ak (d_ (ak ba aN)) (ak (d_ (ak ba (ak ba aN))) aN))) (ak (d_ (ak (d_ (ak ba aN)) (ak (d_ (ak ba (ak ba aN))) (ak (d_ (ak ba (ak ba (ak ba aN)))) aN)))) (ak (d_ (ak (d_ (ak ba aN)) (ak (d_ (ak ba (ak ba aN))) aN))) (ak ba (ak ba (ak n0 aN)))))))))))))
   (b9 (eV (b:=false) (a9.x (bh jS aw (o7 (ak abJ (ak ZE (ak (d_ (ak ba (ak (d_ (ak ba (ak ba aN))) aN))) (ak (d_ (ak ba (ak (d_ (ak ba (ak ba (ak ba aN)))) aN))) (ak (d_ (ak ba (ak (o7 (ak ba aN)) aN))) (ak dB (ak (d_ aN) (ak (d_ (ak ba (ak ba (ak ba (ak ba aN))))) (ak aw (ak (d_ (ak ba aN)) (ak XH aN)))))))))))))))
   (dA (b:=false) (a9.x (d_ (ak aw (ak aw (ak aw (ak aw (ak (bh iG aw (cA q3 (ak aw (ak ba aN)))) aN)))))))))))))))),fun ws n Q h=>?_⟩)
 ·obtain ⟨rfl,_⟩:=h
  rfl
 obtain ⟨rfl,hk,q⟩:=h
 refine K6 (by decide) ?_
 refine r3 (by walk_at "do") (by walk_at "do") (by walk_at "do") fun a oq a1=>?_
 obtain ⟨afw,q8,s,rfl,hs⟩:=xh (P:=fun d=>∃s:Str,d=.str s/\(PyData.str s).shown.length<=20) (xs:=[PyData.str "primes",.str "whole",.str "beneath",.str "judge",.str "share",.str "row",.str "far",.str "cut",.str "rest"]++[.str "turn",.str "all",.str "behind",.str "table",.str "tables",.str "at",.str "place",.str "ties"]) oq (by show a<17;lia) (by
  intro d hd
  simp only[List.cons_append,agZ,afP,agg,agh]at hd
  rcases hd with rfl|rfl|rfl|rfl|rfl|rfl|rfl|rfl|rfl|rfl|rfl|rfl|rfl|rfl|rfl|rfl|rfl<;>exact ⟨_,rfl,by decide +kernel⟩)
 refine wg q8 ?_
 refine r3 (by walk_at "do") (by walk_at "do") (by walk_at "do") fun b pF cU=>?_
 refine r3 (by walk_at "do") (by walk_at "do") (by walk_at "do") fun c vs dJ=>?_
 obtain ⟨ae6,cV,p,rfl,hp⟩:=xh (P:=fun d=>∃p:Int,d=.int p/\p∈p5) (xs:=[PyData.int 5,.int 7,.int 11,.int 13,.int 17]) vs (by show c<5;lia) (by
  intro d hd
  simp only[afP,agg,agh]at hd
  rcases hd with rfl|rfl|rfl|rfl|rfl<;>exact ⟨_,rfl,by decide⟩)
 refine wg cV ?_
 refine r3 (by walk_at "do") (by walk_at "do") (by walk_at "do") fun e ed ai=>?_
 refine ko ?_
 refine ⟨⟨by lia,by lia⟩,?_⟩
 refine ⟨by rw[nR];lia,?_⟩
 refine qv (fun i δ acc cO=>cO=n+4+i/\i<=5/\(∃y,δ=[y,some (.t 2)])/\∃ns:List Int,acc=ns.map PyData.int/\ns.length=i/\∀x∈ns,-5<x/\x<5) ⟨by lia,by lia,⟨_,rfl⟩,[],rfl,rfl,fun x hx=>by cases hx⟩ (fun i d δ acc cO R hd eK dF=>?_) (fun δ acc cO eK=>?_)
 ·obtain ⟨rfl,Rn,⟨y,rfl⟩,ns,rfl,hl,hb⟩:=eK
  obtain ⟨hi,rfl⟩:=o1 hd
  refine r3 (by walk_at "do") (by walk_at "do") (by walk_at "do") fun z rL z1=>?_
  refine iw ?_
  exact dF _ _ _ ⟨by lia,by lia,⟨_,rfl⟩,ns++[z-4],by rw[af9];rfl,by rw[afZ,hl];rfl,fun x hx=>by
   rcases agn.mp hx with hx|hx
   ·exact hb x hx
   ·rw[af2.mp hx];lia⟩
 obtain ⟨rfl,Rn,⟨y,rfl⟩,ns,rfl,hl,hb⟩:=eK
 refine Hn ?_
 refine K6 (by show 10+11<=_;decide) ?_
 refine r3 (by walk_at "do") (by walk_at "do") (by walk_at "do") fun g Ga g1=>?_
 obtain ⟨d,eA,hd⟩:=xh (P:=sE) (xs:=Il++Im (dr ns)) Ga (by show g<21;lia) (by
  intro d hd
  rcases agn.mp hd with hd|hd
  ·exact B7 (afR.mp We d hd)
  ·simp only[Im,agn,afP,agg,agh]at hd
   rcases hd with hd|rfl|hd
   ·exact B7 (afR.mp Wf d (by simp only[afP,agg,agh];exact hd))
   ·exact Hs ⋯ hb
   ·exact B7 (afR.mp Wg d (by simp only[afP,agg,agh];exact hd)))
 refine wg eA ?_
 exact q s b p ns d _ pF ⋯ hp ⋯ hb hd hs ⋯
def H8 (K:ajA):b_:=fun aa H Q _=>∃(n:Int),aa=[.int n]/\0<=n/\n<=60/\∀J,bb H J->Q (.int (fR n.toNat)) J
theorem Vi:b0 ["n"] ["n"] (bu Bc):=(by walk_at "sc")
theorem yE (T:Txt K mg):Def P w K mg base "turns_of" ["n"] 3 (H8 K):=by
 refine Def.c8 T.P_ Vi (fun aa H Q E h=>?_) (by walk_at "b1") (fun f a6 A outer s H aa Q E hr h=>?_)
 ·obtain ⟨n,rfl,_⟩:=h
  rfl
 obtain ⟨n,rfl,d0,ax,q⟩:=h
 refine ⟨_,(aW (bB (dx fv (dx fv (a5 (vB T) hr (ae (af 0) aj)) (af 0) (fun _ _=>rfl)) (kI kG ay) (fun _ _=>rfl)))),?_⟩
 refine ⟨_,rfl,n,rfl,d0,ax,fun p ws ag s2 cj dw=>?_⟩
 obtain ⟨a,aq,aC⟩:=adi dw (afE _)
 rw[show ((n.toNat:Nat):Int)=n by lia]at aq
 refine ⟨_,rfl,p,ws,n,_,rfl,rfl,cj,aq,_,rfl,a,_,_,_,rfl,rfl,aC,Yy _,?_⟩
 exact q ag s2
def abh:dv:=fun ws n Q=>∃m:Int,ws=[.d (.int m)]/\0<=m/\m<=60/\Q (.d (.int (fR m.toNat))) n
theorem Fc:c0 K (H8 K) abh:=fun aa H Q hz=>by
 obtain ⟨M,ws,n,aK,ok,r,⟨m,e,h0,h1,q⟩,k⟩:=hz
 subst e
 obtain ⟨v1,rfl,au⟩:=r.inv1
 rw[au.int_inv]
 exact ⟨m,rfl,h0,h1,fun J s=>k.kr ok s (.int _) q⟩
def aa2:dv:=fun ws n Q=>∃d,ws=[.d d]/\pk d/\Q (.d (.bool (pe d))) n
theorem U9:b0 ["thing"] ["thing"] (bu AW):=(by walk_at "sc")
theorem OE (T:Txt K mg):Def P w K mg base "has_shape_tablejudge" ["thing"] 3 (iF K aa2):=by
 obtain ⟨_,SR⟩:=T.NQ
 refine Def.fM T.PS U9 (fun ws n Q h=>?_) (by walk_at "b1") (fun f a6 A outer s H E hr=>⟨_,_,(aW (bB (nV (dp (Jh (K:=K) rfl) rfl T.ng nM (ae (af 0) (ae (rS (v:=.ty "tuple") rfl T.kY lp rfl) aj))) (nV (XO qF qF ay (dp (kD (K:=K) rfl) rfl T.f3 gd (ae (af 0) aj)) (jN (v:=.int (41)) rfl SR ⟨_,rfl⟩)) (nU (dp (JV rfl (K:=K) rfl) rfl T.EX LI (ae (o2 (N:=["row"]) (is:=[none]) rfl ⟨rfl,rfl,by decide +kernel,by decide +kernel,trivial,rfl,trivial⟩ (uB (K:=K) rfl (af 0)) (fun _ _ _ _ _=>(dq (i:=0) (show List.Nodup (["row"]:ajD) from by decide +kernel) rfl (by walk_at "lc"))) (fun _ _ _ _ _=>mP) (fun _ _ _ _ _=>(a5 (yC T) hr (ae (af 0) aj)))) aj))))))),(dA (b:=false) (a9.x (qr (gX Me (ak aw (ak (L0 .tuple) aN))) (qr (YD En En ba (gX kK (ak aw aN)) ba) (gX adK (ak (qq (uJ aw) nT qw (cA yr (ak aw aN))) aN)))))),fun ws n Q h=>?_⟩)
 ·obtain ⟨d,rfl,_⟩:=h
  rfl
 obtain ⟨d,rfl,hs,q⟩:=h
 refine An ?_
 cases d with
 | tuple ds =>
  have bD:Q (.d (.bool (decide (1<=(ds.length:Int))&&decide ((ds.length:Int)<=41)&&ds.all hO))) n:=q
  refine kp ?_
  refine Ej (fun dJ=>?_) (fun dJ=>?_)
  ·refine Ej (fun cB=>?_) (fun cB=>?_)
   ·rw[afI dJ,afI cB]at bD
    refine Hl ?_
    refine ⟨by lia,?_⟩
    refine acW (fun e=>.bool (hO e)) (fun δ=>∃x,δ=[x]) ⟨_,rfl⟩ (fun e δ R he hj dF=>?_) ?_
    ·obtain ⟨x,rfl⟩:=hj
     exact ⟨e,rfl,fun aA Pk=>hs _ rfl e he aA Pk,dF _ ⟨_,rfl⟩⟩
    refine adq (ns:=ds.map hO) (by rw[agN];rfl) ?_
    rw[aiC]
    exact bD
   ·rw[afJ (show ¬(ds.length:Int)<=41 by lia),ai7,ahG]at bD
    exact bD
  ·rw[afJ (show ¬1<=(ds.length:Int) by lia)]at bD
   exact bD
 | _=>exact q
def VL (K:ajA):b_:=fun aa H Q _=>∃(n:Int),aa=[.int n]/\n<=2000/\∀v J,bb H J->aS K J v (.tuple ((fb (n-1).toNat).map PyData.int))->Q v J
theorem U4:b0 ["n"] ["n"] (bu AD):=(by walk_at "sc")
theorem Ov (T:Txt K mg):Def P w K mg base "primes_to" ["n"] 3 (VL K):=by
 refine Def.c8 T.Pz U4 (fun aa H Q E h=>?_) (by walk_at "b1") (fun f a6 A outer s H aa Q E hr h=>?_)
 ·obtain ⟨n,rfl,_⟩:=h
  rfl
 obtain ⟨n,rfl,hn,q⟩:=h
 refine ⟨_,(aW (bB (kC nL rfl T.kY lp (ae (o2 (N:=["k"]) (is:=[none]) rfl ⟨rfl,rfl,by decide +kernel,by decide +kernel,trivial,rfl,trivial⟩ (Xj rfl T.iO (ae ay (ae (a0 hM (af 0) ay) aj))) (fun _ _ _ _ _=>(dq (i:=0) (show List.Nodup (["k"]:ajD) from by decide +kernel) rfl (by walk_at "lc"))) (fun _ _ _ _ _=>(w8 (kE (a5 (Ou T) hr (ae (af 0) aj))))) (fun _ _ _ _ _=>(af 0))) aj)))),?_⟩
 refine ⟨_,rfl,_,_,rfl,rfl,2,n+1,rfl,⟨by decide,by decide,by lia⟩,fun D ft=>?_⟩
 rw[show (n+1-2).toNat=(n-1).toNat by congr 1;lia]
 refine IT (fun i σ ag=>(∃z,σ=[z])/\(∀b o,H b=some o->ag b=some o)/\ag D=some (.lst ((fb i).map V.int))) ⟨⟨none,rfl⟩,fun b o e=>bY ft _ b o e,bo⟩ ?_ ?_
 ·rintro i σ ag hi ⟨⟨z,rfl⟩,s2,h2⟩
  refine ⟨_,rfl,_,.int (2+(i:Int)),rfl,.int _,fun z e=>by injection e;lia,_,rfl,?_⟩
  refine fG (fun c=>?_) (fun c=>?_)
  ·have bG:kO (2+(i:Int))=true:=c
   refine ⟨_,rfl,_,h2,by rw[afG,afW];have:=xa i;lia,⟨_,rfl⟩,fun b o e=>?_,?_⟩
   ·rw[br (eN e ft)];exact s2 _ _ e
   ·rw[bo]
    show _=some (dT.lst ((fb i++_).map V.int))
    rw[afD bG,af9];rfl
  ·have bG:¬kO (2+(i:Int))=true:=c
   refine ⟨⟨_,rfl⟩,s2,?_⟩
   show _=some (dT.lst ((fb i++_).map V.int))
   rw[afC bG,agc];exact h2
 ·rintro σ ag ⟨⟨z,rfl⟩,s2,h2⟩
  refine ⟨⟨_,h2⟩,D,_,rfl,.inl ⟨bP.of h2,fun p hp=>?_⟩⟩
  exact q _ _ ((show bb H ag from s2).trans (bY hp _)) (.tup (bp.of bo) (Lz _))
def VY (K:ajA):b_:=fun aa H Q _=>∃(v1 v2:V) (x y:Rat),aa=[v1,v2]/\aS K H v1 (bj x)/\aS K H v2 (bj y)/\bH 4400 x/\bH 4400 y/\∀v J,bb H J->aS K J v (bj (x+y))->Q v J
theorem Vx:b0 ["one","other"] ["one","other"] (bu BF):=(by walk_at "sc")
theorem vD (T:Txt K mg):Def P w K mg base "plus" ["one","other"] 3 (VY K):=by
 refine Def.c8 T.QD Vx (fun aa H Q E h=>?_) (by walk_at "b2") (fun f a6 A outer s H aa Q E hr h=>?_)
 ·obtain ⟨v1,v2,x,y,rfl,_⟩:=h
  rfl
 obtain ⟨v1,v2,x,y,rfl,h1,h2,cU,c6,q⟩:=h
 refine ⟨_,(aW (bB (a5 (ot T) hr (ae (a0 hM (a0 l7 (dx fv (af 0) ay (fun _ _=>rfl)) (dx fv (af 1) ay (fun _ _=>rfl))) (a0 l7 (dx fv (af 1) ay (fun _ _=>rfl)) (dx fv (af 0) ay (fun _ _=>rfl)))) (ae (a0 l7 (dx fv (af 0) ay (fun _ _=>rfl)) (dx fv (af 1) ay (fun _ _=>rfl))) aj))))),?_⟩
 obtain ⟨dG,rfl,t1⟩:=h1.oN
 obtain ⟨b8,rfl,cj⟩:=h2.oN
 have hx:=den_pos x
 have hy:=den_pos y
 have GK:=ahO hx hy
 refine ⟨_,rfl,dG,_,_,_,rfl,rfl,t1,nf,_,rfl,b8,_,_,_,rfl,rfl,cj,j3,_,_,rfl,rfl,cU.n.k6 c6.d,?_⟩
 refine ⟨_,rfl,b8,_,_,_,rfl,rfl,cj,nf,_,rfl,dG,_,_,_,rfl,rfl,t1,j3,_,_,rfl,rfl,c6.n.k6 cU.d,_,_,rfl,rfl,?_⟩
 refine ⟨_,rfl,dG,_,_,_,rfl,rfl,t1,j3,_,rfl,b8,_,_,_,rfl,rfl,cj,j3,_,_,rfl,rfl,cU.d.k6 c6.d,?_⟩
 refine ⟨_,_,rfl,by lia,(cU.d.mul c6.d).mono (by decide),fun v J s e=>q v J s ?_⟩
 rw[LJ];exact e
def VZ (K:ajA):b_:=fun aa H Q _=>∃(v1 v2:V) (x y:Rat),aa=[v1,v2]/\aS K H v1 (bj x)/\aS K H v2 (bj y)/\bH 4400 x/\bH 4400 y/\∀v J,bb H J->aS K J v (bj (x-y))->Q v J
theorem Vy:b0 ["one","other"] ["one","other"] (bu BG):=(by walk_at "sc")
theorem OU (T:Txt K mg):Def P w K mg base "minus" ["one","other"] 3 (VZ K):=by
 refine Def.c8 T.QE Vy (fun aa H Q E h=>?_) (by walk_at "b2") (fun f a6 A outer s H aa Q E hr h=>?_)
 ·obtain ⟨v1,v2,x,y,rfl,_⟩:=h
  rfl
 obtain ⟨v1,v2,x,y,rfl,h1,h2,cU,c6,q⟩:=h
 refine ⟨_,(aW (bB (a5 (ot T) hr (ae (a0 fc (a0 l7 (dx fv (af 0) ay (fun _ _=>rfl)) (dx fv (af 1) ay (fun _ _=>rfl))) (a0 l7 (dx fv (af 1) ay (fun _ _=>rfl)) (dx fv (af 0) ay (fun _ _=>rfl)))) (ae (a0 l7 (dx fv (af 0) ay (fun _ _=>rfl)) (dx fv (af 1) ay (fun _ _=>rfl))) aj))))),?_⟩
 obtain ⟨dG,rfl,t1⟩:=h1.oN
 obtain ⟨b8,rfl,cj⟩:=h2.oN
 have hx:=den_pos x
 have hy:=den_pos y
 have GK:=ahO hx hy
 refine ⟨_,rfl,dG,_,_,_,rfl,rfl,t1,nf,_,rfl,b8,_,_,_,rfl,rfl,cj,j3,_,_,rfl,rfl,cU.n.k6 c6.d,?_⟩
 refine ⟨_,rfl,b8,_,_,_,rfl,rfl,cj,nf,_,rfl,dG,_,_,_,rfl,rfl,t1,j3,_,_,rfl,rfl,c6.n.k6 cU.d,_,_,rfl,rfl,?_⟩
 refine ⟨_,rfl,dG,_,_,_,rfl,rfl,t1,j3,_,rfl,b8,_,_,_,rfl,rfl,cj,j3,_,_,rfl,rfl,cU.d.k6 c6.d,?_⟩
 refine ⟨_,_,rfl,by lia,(cU.d.mul c6.d).mono (by decide),fun v J s e=>q v J s ?_⟩
 rw[abF];exact e
def VV (K:ajA):b_:=fun aa H Q _=>∃(v1 v2:V) (x y:Rat),aa=[v1,v2]/\aS K H v1 (bj x)/\aS K H v2 (bj y)/\bH 4400 x/\bH 4400 y/\∀v J,bb H J->aS K J v (bj (x*y))->Q v J
theorem Vt:b0 ["one","other"] ["one","other"] (bu BB):=(by walk_at "sc")
theorem ou (T:Txt K mg):Def P w K mg base "times" ["one","other"] 3 (VV K):=by
 refine Def.c8 T.Qz Vt (fun aa H Q E h=>?_) (by walk_at "b2") (fun f a6 A outer s H aa Q E hr h=>?_)
 ·obtain ⟨v1,v2,x,y,rfl,_⟩:=h
  rfl
 obtain ⟨v1,v2,x,y,rfl,h1,h2,cU,c6,q⟩:=h
 refine ⟨_,(aW (bB (a5 (ot T) hr (ae (a0 l7 (dx fv (af 0) ay (fun _ _=>rfl)) (dx fv (af 1) ay (fun _ _=>rfl))) (ae (a0 l7 (dx fv (af 0) ay (fun _ _=>rfl)) (dx fv (af 1) ay (fun _ _=>rfl))) aj))))),?_⟩
 obtain ⟨dG,rfl,t1⟩:=h1.oN
 obtain ⟨b8,rfl,cj⟩:=h2.oN
 have hx:=den_pos x
 have hy:=den_pos y
 have GK:=ahO hx hy
 refine ⟨_,rfl,dG,_,_,_,rfl,rfl,t1,nf,_,rfl,b8,_,_,_,rfl,rfl,cj,nf,_,_,rfl,rfl,cU.n.k6 c6.n,?_⟩
 refine ⟨_,rfl,dG,_,_,_,rfl,rfl,t1,j3,_,rfl,b8,_,_,_,rfl,rfl,cj,j3,_,_,rfl,rfl,cU.d.k6 c6.d,?_⟩
 refine ⟨_,_,rfl,by lia,(cU.d.mul c6.d).mono (by decide),fun v J s e=>q v J s ?_⟩
 rw[Lf];exact e
def aaX:dv:=fun ws n Q=>∃d,ws=[.d d]/\pk d/\Q (.d (.bool (q0 d))) n
theorem BK:b0 ["thing","whole","primes"] ["thing"] (bu AP):=(by walk_at "sc")
theorem OB (T:Txt K mg):Def P w K mg base "has_shape_beneathjudge" ["thing"] 3 (iF K aaX):=by
 refine Def.fM T.PL BK (fun ws n Q h=>?_) (by walk_at "b1") (fun f a6 A outer s H E hr=>⟨_,_,(aV (c4 (gQ.pt (nZ (qt (kE (dp (Jh (K:=K) rfl) rfl T.ng nM (ae (af 0) (ae (rS (v:=.ty "tuple") rfl T.kY lp rfl) aj))))) (o5 (cn (o9 (K:=K) rfl hr) (dp (kD (K:=K) rfl) rfl T.f3 gd (ae (af 0) aj)) ay (b6 _))))) (aW (bB lx)) c3)
   (aV (rV (af 0) (rQ (K:=K) (n:=2) rfl rfl (gL (dq (i:=1) BK.aT rfl (by walk_at "lc")) (gL (dq (i:=2) BK.aT rfl (by walk_at "lc")) nS))))
   (aW (bB (nV (a5 (vC T) hr (ae (af 1) aj)) (nU (a5 (yC T) hr (ae (af 2) aj)))))))),(b9 (eh (b:=false) (cL.x (qD (r2 (qE (gX Me (ak aw (ak (L0 .tuple) aN))))) (dC (bh ph (gX kK (ak aw aN)) ba)))) (dA (b:=false) (a9.x n0)) eg)
   (b9 (Dv (b:=false) (a9.x aw) (r5 (lr i9 (lr i9 r6))))
   (dA (b:=false) (a9.x (qr (cA Fb (ak aw aN)) (cA yr (ak aw aN))))))),fun ws n Q h=>?_⟩)
 ·obtain ⟨d,rfl,_⟩:=h
  rfl
 obtain ⟨d,rfl,hs,q⟩:=h
 refine An ?_
 cases d with
 | tuple ds =>
  refine kp ?_
  refine Ei (fun c=>?_) (fun c=>?_)
  ·rw[show q0 (.tuple ds)=false by
    match ds,c with
    | [],_=>rfl
    | [_],_=>rfl
    | [_,_],c=>exact absurd rfl c
    | _::_::_::_,_=>rfl]at q
   exact q
  match ds,c,hs,q with
  | [a, b], _, hs, q =>
   refine sa rfl ?_
   refine ⟨a,rfl,?_⟩
   have bD:Q (.d (.bool (el a&&hO b))) n:=q
   cases e:el a with
   | false=>rw[e]at bD;exact bD
   | true=>
    rw[e]at bD
    exact ⟨b,rfl,fun aA he=>hs _ rfl b (by simp) aA he,bD⟩
 | _=>exact q
def oH:PyData->Bool
 | .tuple ds=>ds.all el&&iD (ds.map cH)
 | _=>false
def abj:dv:=fun ws n Q=>∃d,ws=[.d d]/\(∀ds,d=.tuple ds->ds.length<64)/\Q (.d (.bool (oH d))) n
theorem Vk:b0 ["thing"] ["thing"] (bu Be):=(by walk_at "sc")
theorem OM (T:Txt K mg):Def P w K mg base "has_each_once" ["thing"] 3 (iF K abj):=by
 refine Def.fM T.Qb Vk (fun ws n Q h=>?_) (by walk_at "b1") (fun f a6 A outer s H E hr=>⟨_,_,(aW (bB (nV (a5 (yC T) hr (ae (af 0) aj)) (nU (l5 (eW (K:=K) rfl hr) (dp (Xv (K:=K) rfl) rfl T.Nv Yn (ae (af 0) aj)) (kC (WT rfl) rfl T.ym Di (ae (kC W5 rfl T.iO JX (ae (dp (kD (K:=K) rfl) rfl T.f3 gd (ae (af 0) aj)) aj)) aj)) (b6 _)))))),(dA (b:=false) (a9.x (qr (cA yr (ak aw aN)) (bh eX (YB (ak aw aN)) (oi.e (abN (gX kK (ak aw aN)))))))),fun ws n Q h=>?_⟩)
 ·obtain ⟨d,rfl,_⟩:=h
  rfl
 obtain ⟨d,rfl,hs,q⟩:=h
 refine ⟨d,rfl,fun ds h=>by have:=hs ds h;lia,?_⟩
 cases d with
 | tuple ds =>
  have hl:=hs ds rfl
  have bD:Q (.d (.bool (ds.all el&&iD (ds.map cH)))) n:=q
  show (match a4.d (.bool (ds.all el)) with|.d (.bool c)=>fo c _ _|_=>False)
  cases f5:ds.all el with
  | false=>rw[f5]at bD;exact bD
  | true=>
   rw[f5,ah4]at bD
   have eA:=wX f5
   generalize tb:ds.map cH=ns at eA bD
   subst eA
   rw[afG]at hl
   refine ZJ hl fun ew hp lT=>?_
   refine kp ?_
   rw[afG]
   refine ⟨⟨by lia,by lia,by lia⟩,?_⟩
   rw[ago,adm]
   refine DR (je.SN _ _) ?_
   rw[X1,Yb hp lT]
   exact bD
 | _=>exact q
def abz:dv:=fun ws n Q=>∃a p:Int,ws=[.d (.int a),.d (.int p)]/\1<p/\p<2^30/\a%p≠0/\Q (.d (.int (a^(p-2).toNat%p))) n
theorem Vp:b0 ["a","p"] ["a","p"] (bu Bv):=(by walk_at "sc")
theorem Fu (T:Txt K mg):Def P w K mg base "inverse_of" ["a","p"] 3 (iF K abz):=by
 refine Def.fM T.Qt Vp (fun ws n Q h=>?_) (by walk_at "b2") (fun f a6 A outer s H E hr=>⟨_,_,(aV (c4 (cn (eW (K:=K) rfl hr) (a5 (k7 T) hr (ae (af 0) (ae (af 1) aj))) ay (b6 _)) (aW I4) c3)
   (aW (bB (a5 (vy T) hr (ae (af 0) (ae (a0 fc (af 1) ay) (ae (af 1) aj))))))),(b9 (eh (b:=false) (cL.x (dC (bh eX (cA q2 (ak aw (ak aw aN))) ba))) YA eg)
   (dA (b:=false) (a9.x (cA NT (ak aw (ak (bh ja aw ba) (ak aw aN))))))),fun ws n Q h=>?_⟩)
 ·obtain ⟨a,p,rfl,_⟩:=h
  rfl
 obtain ⟨a,p,rfl,h1,h2,aQ,q⟩:=h
 refine ⟨a,p,rfl,by lia,?_⟩
 refine n4 (fun c=>absurd c aQ) (fun _=>?_)
 refine iw ?_
 exact ⟨a,p-2,p,rfl,h1,h2,by lia,q⟩
def Ib (K:ajA):b_:=fun aa H Q _=>∃n p a:Int,aa=[.int n,.int p,.int a]/\1<p/\p<=200/\1<=n/\0<=a/\a<=200/\Q (.int (mY n p a)) H
theorem wx:b0 ["n","p","a","total","j"] ["n","p","a"] (bu Bn):=(by walk_at "sc")
theorem Fq (T:Txt K mg):Def P w K mg base "cut_sum" ["n","p","a"] 3 (Ib K):=by
 refine Def.c8 T.Qk wx (fun aa H Q E h=>?_) (by walk_at "b3") (fun f a6 A outer s H aa Q E hr h=>?_)
 ·obtain ⟨n,p,a,rfl,_⟩:=h
  rfl
 obtain ⟨n,p,a,rfl,hp,eK,hn,oq,a1,q⟩:=h
 refine ⟨_,(aV (ck (i:=3) wx.aT rfl (by walk_at "lc") ay)
   (aV (i8 agk rfl (Cm rfl T.iO (ae ay (ae (af 1) aj))) (dq (i:=4) wx.aT rfl (by walk_at "lc")) (aW (l6 (i:=3) wx.aT rfl (by walk_at "lc") (a0 kJ (a5 (vy T) hr (ae (af 4) (ae (a0 fc (af 0) ay) (ae (af 1) aj)))) (a0 uC (a0 kJ (af 4) (af 2)) (af 1))) uP)))
   (aW (bB (a5 (k7 T) hr (ae (af 3) (ae (af 1) aj))))))),?_⟩
 have Pd:(2:Int)^64=18446744073709551616:=by decide
 refine ⟨_,rfl,?_⟩
 refine ⟨1,p,rfl,⟨by decide,by lia,by lia⟩,?_⟩
 refine wO (lo:=1) (n:=(p-1).toNat) (fun i σ ag=>ag=H/\∃(z:Option V),σ=[some (.int n),some (.int p),some (.int a),some (.int (pd (pj n p a) (i+1))),z]) ⟨rfl,none,by rw[show pd (pj n p a) (0+1)=0 by unfold pd pd pj;simp];rfl⟩ ?_ ?_
 ·rintro i σ ag hi ⟨rfl,z,rfl⟩
  have rL:=agb ((1+(i:Int))^(n-1).toNat) (show p≠0 by lia)
  have z1:=aga ((1+(i:Int))^(n-1).toNat) (show 0<p by lia)
  refine ⟨_,rfl,_,rfl,_,rfl,_,_,rfl,rfl,_,rfl,_,n-1,p,rfl,hp,by lia,by lia,?_⟩
  refine ⟨_,rfl,_,rfl,_,_,rfl,rfl,.inl ⟨by lia,by lia⟩,_,rfl,_,_,rfl,rfl,⟨by lia,by lia⟩,_,_,rfl,rfl,.inl ⟨by lia,by lia⟩,_,_,rfl,rfl,?_⟩
  refine ⟨rfl,some (.int (1+(i:Int))),?_⟩
  have e:pd (pj n p a) (i+1+1)=pd (pj n p a) (i+1)+(1+(i:Int))^(n-1).toNat%p*((1+(i:Int))*a/p):=by
   show _+pj n p a (i+1)=_
   unfold pj
   rw[show ((i+1:Nat):Int)=1+(i:Int) by lia]
  rw[e]
  rfl
 ·rintro σ ag ⟨rfl,z,rfl⟩
  refine ⟨_,rfl,_,rfl,_,_,rfl,by lia,?_⟩
  rw[show (p-1).toNat+1=p.toNat by lia]
  exact q
def abr:dv:=fun ws n Q=>∃m p a:Int,ws=[.d (.int m),.d (.int p),.d (.int a)]/\1<p/\p<=200/\1<=m/\0<=a/\a<=200/\Q (.d (.int (mY m p a))) n
theorem N1:c0 K (Ib K) abr:=fun aa H Q hz=>by
 obtain ⟨M,ws,n,aK,ok,r,⟨m,p,a,e,h1,h2,aQ,bS,c1,q⟩,k⟩:=hz
 subst e
 obtain ⟨v1,v2,gW,rfl,au,bt,fP⟩:=r.vY
 rw[au.int_inv,bt.int_inv,fP.int_inv]
 exact ⟨m,p,a,rfl,h1,h2,aQ,bS,c1,k.now ok (.int _) q⟩
def HZ (K:ajA):b_:=fun aa H Q _=>∃n p a:Int,aa=[.int n,.int p,.int a]/\1<p/\p<2^30/\0<=n/\Q (.int ((a^n.toNat%p-1)%p)) H
theorem Vb:b0 ["n","p","a"] ["n","p","a"] (bu A3):=(by walk_at "sc")
theorem vA (T:Txt K mg):Def P w K mg base "factor_of" ["n","p","a"] 3 (HZ K):=by
 refine Def.c8 T.PZ Vb (fun aa H Q E h=>?_) (by walk_at "b3") (fun f a6 A outer s H aa Q E hr h=>?_)
 ·obtain ⟨n,p,a,rfl,_⟩:=h
  rfl
 obtain ⟨n,p,a,rfl,hp,eK,hn,q⟩:=h
 refine ⟨_,(aW (bB (a5 (k7 T) hr (ae (a0 fc (a5 (vy T) hr (ae (af 2) (ae (af 0) (ae (af 1) aj)))) ay) (ae (af 1) aj))))),?_⟩
 exact ⟨_,rfl,_,rfl,_,rfl,a,n,p,rfl,hp,eK,hn,_,_,rfl,rfl,_,rfl,_,p,rfl,by lia,q⟩
def aa8:dv:=fun ws n Q=>∃m p a:Int,ws=[.d (.int m),.d (.int p),.d (.int a)]/\1<p/\p<2^30/\0<=m/\Q (.d (.int ((a^m.toNat%p-1)%p))) n
theorem vu:c0 K (HZ K) aa8:=fun aa H Q hz=>by
 obtain ⟨M,ws,n,aK,ok,r,⟨m,p,a,e,h1,h2,aQ,q⟩,k⟩:=hz
 subst e
 obtain ⟨v1,v2,gW,rfl,au,bt,fP⟩:=r.vY
 rw[au.int_inv,bt.int_inv,fP.int_inv]
 exact ⟨m,p,a,rfl,h1,h2,aQ,k.now ok (.int _) q⟩
def VR (K:ajA):b_:=fun aa H Q _=>∃(n:Int),aa=[.int n]/\0<=n/\n<=40/\∀J,bb H J->Q (.int (2^n.toNat*(2^n.toNat-1))) J
theorem Vm:b0 ["n"] ["n"] (bu Bh):=(by walk_at "sc")
theorem Fp (T:Txt K mg):Def P w K mg base "twos_product" ["n"] 3 (VR K):=by
 refine Def.c8 T.Qe Vm (fun aa H Q E h=>?_) (by walk_at "b1") (fun f a6 A outer s H aa Q E hr h=>?_)
 ·obtain ⟨n,rfl,_⟩:=h
  rfl
 obtain ⟨n,rfl,d0,ax,q⟩:=h
 refine ⟨_,(aW (bB (a0 l7 (a5 (yG T) hr (ae (af 0) aj)) (a0 fc (a5 (yG T) hr (ae (af 0) aj)) ay)))),?_⟩
 have b:=Dl (n:=n.toNat) ⋯
 refine ⟨_,rfl,n,rfl,d0,ax,fun H1 s1=>?_⟩
 refine ⟨_,rfl,n,rfl,d0,ax,fun ag s2=>⟨_,_,rfl,rfl,_,_,rfl,rfl,?_,?_⟩⟩
 ·exact b.k6 (cb.sub b ((show cb 1 (1:Int) by decide).mono (by decide)))
 ·exact q _ (s1.trans s2)
def abv:iH:=fun ws n Q X=>∃d:PyData,ws=[.d d]/\pk d/\(n3 d=none->Q (.d (.bool true)) n)/\∀w k,n3 d=some (w,k)->X "NoPaper" ["word","place"] [.str w,.int k] n
theorem BN:b0 ["thing","m","row"] ["thing"] (bu Bq):=(by walk_at "sc")
theorem O_ (T:Txt K mg):eY P w K mg base "lets_table" ["thing"] 4 (jR K abv):=by
 obtain ⟨ED,EB,FR,F5,dW⟩:=T.wH
 refine eY.fM T.Qn BN (fun ws n Q X h=>?_) (by walk_at "b1") (fun f a6 A outer s H E hr=>⟨_,_,(aV (c4 (qt (kE (a5 (OE T) hr (ae (af 0) aj)))) (aW (jL dW.s (ny dW) (hr.mono (by decide)) (dW.s.f.binds (by walk_at "b3")) jK (ae b5 (ae ay aj)))) c3)
   (aV (i8 ahi rfl (Cv (K:=K) rfl rfl T.vq (ae (af 0) aj)) (rQ (K:=K) (n:=2) rfl rfl (gL (dq (i:=1) BN.aT rfl (by walk_at "lc")) (gL (dq (i:=2) BN.aT rfl (by walk_at "lc")) nS))) (aW (c4 (cn (o9 (K:=K) rfl hr) (af 2) (a5 (OT T) hr (ae (ui (K0 (K:=K) rfl) (af 0) ur (qm (af 1))) aj)) (b6 _)) (aW (jL dW.s (ny dW) (hr.mono (by decide)) (dW.s.f.binds (by walk_at "b3")) jK (ae b5 (ae (af 1) aj)))) c3)))
   (aW (bB lx)))),(b9 (eh (b:=false) (cL.x (r2 (qE (cA c0.refl (ak aw aN))))) (jJ (b:=false) dW (ak dB (ak ba aN))) eg)
   (b9 (r1 (C2 (ak aw aN)) (r5 (lr i9 (lr i9 r6))) (eh (b:=false) (cL.x (dC (bh ph aw (cA c0.refl (ak (L1 aw I1 (Kb aw)) aN))))) (jJ (b:=false) dW (ak dB (ak aw aN))) eg))
   (dA (b:=false) (a9.x n0)))),fun ws n Q X h=>?_⟩)
 ·obtain ⟨d,rfl,_⟩:=h
  rfl
 obtain ⟨d,rfl,hs,q,fx⟩:=h
 refine ⟨d,rfl,hs,?_⟩
 cases e:pe d with
 | false=>exact fx _ _ (CV e)
 | true=>
 obtain ⟨cM,rfl,eL,gp⟩:=Ju e
 have FF:=IY e
 refine we ?_
 refine rW (fun i δ k=>k=n/\(∀j q,j<i->cM[j]?=some q->q=cu j)/\∃a1 a2,δ=[some (.d (rH cM)),a1,a2]) ⟨rfl,fun j q hj=>absurd hj (ahe _),_,_,rfl⟩ (fun i d δ k R hd hp dF=>?_) (fun δ k hp=>?_)
 ·obtain ⟨rfl,hj,a1,a2,rfl⟩:=hp
  rw[wQ,af1]at hd
  obtain ⟨aeH,pT,rfl⟩:=ahd.mp hd
  obtain ⟨r,te,rfl⟩:=ahd.mp pT
  have hi:=(agf.mp te).1
  rw[age]
  refine sa rfl ?_
  refine Ap ?_
  rw[KI,XF ⋯ hj]
  refine ⟨i,rfl,by lia,?_⟩
  refine xy ⟨Ll _,Ll _,by have:=acV r;have:=aiU (d5 r).depth (d5 (cu i)).depth;lia⟩ ?_
  rw[acS]
  by_cases aM:r=cu i
  ·rw[afI aM]
   refine dF _ _ ⟨rfl,fun j bD vU aU=>?_,_,_,rfl⟩
   by_cases Pl:j=i
   ·subst Pl
    rw[te]at aU;cases aU
    exact aM
   ·exact hj j bD ⋯ aU
  ·rw[afJ aM]
   refine fx _ _ (FF.trans ?_)
   unfold qI
   rw[Kw cM 0 i r te (by rw[age];exact aM) fun j bD vU aU=>by rw[age];exact hj j bD vU aU]
   show some (_,((0+i:Nat):Int))=_
   rw[age]
 ·obtain ⟨rfl,hj,a1,a2,rfl⟩:=hp
  refine q (FF.trans ?_)
  unfold qI
  rw[Jd cM 0 fun j r pV=>by
   rw[age]
   exact hj j r (by have:=(agf.mp pV).1;rw[um,afG];exact this) pV]
def Ia (K:ajA):b_:=fun aa H Q _=>∃(b:Bool) (a:Addr) (ws:List V) (rs:List Rat),aa=[.ref a]/\ig b K H a ws/\bE K H ws (rs.map bj)/\rs.length<=50/\(∀r∈rs,bH 4000 r)/\(∀k,k<=rs.length->bH 4400 (gN (rs.length+1) rs k))/\∀v J,bb H J->aS K J v (bj (qC rs))->Q v J
theorem rB:b0 ["shares","n","total","k","share"] ["shares"] (bu Bm):=(by walk_at "sc")
theorem OQ (T:Txt K mg):Def P w K mg base "step_of" ["shares"] 4 (Ia K):=by
 refine Def.c8 T.Qj rB (fun aa H Q E h=>?_) (by walk_at "b1") (fun f a6 A outer s H aa Q E hr h=>?_)
 ·obtain ⟨b,a,ws,rs,rfl,_⟩:=h
  rfl
 obtain ⟨b,a,ws,rs,rfl,fL,bq,hl,hb,hp,q⟩:=h
 obtain ⟨jn,lW,l3⟩:=T.q1
 refine ⟨_,(aV (ck (i:=1) rB.aT rfl (by walk_at "lc") (dp l4 rfl T.f3 gd (ae (af 0) aj)))
   (aV (ck (i:=2) rB.aT rfl (by walk_at "lc") (jN (v:=.ref jn) rfl lW rfl))
   (aV (i8 agk rfl (YL b rfl T.vq (ae (af 0) aj)) (C8 rfl (gL (dq (i:=3) rB.aT rfl (by walk_at "lc")) (gL (dq (i:=4) rB.aT rfl (by walk_at "lc")) nS))) (aW (ck (i:=2) rB.aT rfl (by walk_at "lc") (a5 (vD T) hr (ae (af 2) (ae (a5 (ou T) hr (ae (cN (ae (a5 (Fm T) hr (ae (a0 hM (af 1) ay) (ae (af 3) aj))) (ae ay aj))) (ae (af 4) aj))) aj))))))
   (aW (bB (a5 (ou T) hr (ae (af 2) (ae (a5 (ot T) hr (ae (kI kG ay) (ae (a0 hM (af 1) ay) aj))) aj)))))))),?_⟩
 have rj:ws.length=rs.length:=by have:=bq.length;simpa using this
 refine ⟨_,rfl,a,ws,rfl,fL.or,?_⟩
 rw[rj]
 refine ⟨_,rfl,a,ws,rfl,fL,?_⟩
 refine Ze (xs:=ws) (fun i σ ag=>∃(t:V) (z1 z2:Option V),σ=[some (.ref a),some (.int (rs.length:Int)),some t,z1,z2]/\bb H ag/\aS K ag t (bj (gN (rs.length+1) rs i))) ⟨_,none,none,rfl,bb.refl _,aS.con l3 rfl rfl _⟩ (fun i σ ag _ ⟨_,_,_,_,s,_⟩=>fL.same s) ?_ ?_
 ·rintro i x T σ ag hx cG ⟨t,z1,z2,rfl,s2,dw⟩
  obtain ⟨hi,aD⟩:=bq.share hx
  refine g2 ?_
  have AA:=bY cG (.tup [.int (i:Int),x])
  repeat (first|walk_at "rd")
  refine ⟨_,_,rfl,by lia,by lia,?_⟩
  repeat (first|walk_at "rd")
  intro p ri
  have sp:=bY ri (.tup [.int (j7 ((rs.length:Int)+1) (i:Int)),.int 1])
  repeat (first|walk_at "rd")
  have lN:j7 ((rs.length:Int)+1) (i:Int)=((ch (rs.length+1) i:Nat):Int):=by
   unfold j7
   rw[afD ⋯]
   congr 2<;>lia
  have Gn:bH 4000 (rs.getD i 0):=by
   refine hb _ ?_
   rw[afO,afQ hi]
   exact ag1 _
  have eI:aS K (upd (upd ag T (.tup [.int (i:Int),x])) p (.tup [.int (j7 ((rs.length:Int)+1) (i:Int)),.int 1])) (.ref p) (bj (((ch (rs.length+1) i:Nat):Int):Rat)):=by
   have:=aS.HI (K:=K) (H:=upd (upd ag T (.tup [.int (i:Int),x])) p (.tup [.int (j7 ((rs.length:Int)+1) (i:Int)),.int 1])) (p:=p) (c:=j7 ((rs.length:Int)+1) (i:Int)) bo
   rw[lN]at this ⊢
   exact this
  have sH:bH 61 (((ch (rs.length+1) i:Nat):Int):Rat):=bH.int (D4 _ _ ⋯) (by decide)
  refine ⟨_,_,_,_,rfl,eI,((aD.mono s2).mono AA).mono sp,sH.mono (by decide),Gn.mono (by decide),fun gW b3 s3 ec=>?_⟩
  refine ⟨_,_,_,_,rfl,((dw.mono AA).mono sp).mono s3,ec,hp i ⋯,(sH.mul Gn).mono (by decide),fun v4 bK s4 fJ=>?_⟩
  exact ⟨_,_,_,rfl,s2.trans (AA.trans (sp.trans (s3.trans s4))),fJ⟩
 ·rintro σ ag ⟨t,z1,z2,rfl,s2,dw⟩
  rw[rj]at dw
  repeat (first|walk_at "rd")
  refine ⟨_,_,rfl,by lia,(cb.of_lt (m:=8) 200 ⋯ ⋯ (by decide)).mono (by decide),fun gW b3 s3 ec=>?_⟩
  refine ⟨_,_,_,_,rfl,dw.mono s3,ec,hp _ (afE _),(bH.divInt (by decide) (cb.of_lt (m:=8) 200 ⋯ ⋯ (by decide)) ⋯).mono (by decide),fun v4 bK s4 fJ=>?_⟩
  exact q v4 bK (s2.trans (s3.trans s4)) fJ
def abq:dv:=fun ws n Q=>∃rs:List Rat,ws=[.d (bX rs)]/\rs.length<=50/\(∀r∈rs,bH 4000 r)/\(∀k,k<=rs.length->bH 4400 (gN (rs.length+1) rs k))/\Q (.d (bj (qC rs))) n
theorem aeE:c0 K (Ia K) abq:=fun aa H Q hz=>by
 obtain ⟨M,ws,n,aK,ok,r,⟨rs,e,hl,hb,hp,q⟩,k⟩:=hz
 subst e
 obtain ⟨v1,rfl,au⟩:=r.inv1
 have eH:aS K H v1 (bX rs):=a7.b1 au
 obtain ⟨a,us,rfl,dm,dY⟩:=eH.fS
 exact ⟨true,a,us,rs,rfl,dm,dY,hl,hb,hp,fun v J s d=>k.jq ok s d (uH _) q⟩
def HS (K:ajA):b_:=fun aa H Q _=>∃n:Int,aa=[.int n]/\0<=n/\n<=1000/\∀p J,bb H J->bp K J p ((dH n).map V.int)->Q (.ref p) J
theorem U8:b0 ["n"] ["n"] (bu AR):=(by walk_at "sc")
theorem vz (T:Txt K mg):Def P w K mg base "primes_beneath" ["n"] 4 (HS K):=by
 refine Def.c8 T.PN U8 (fun aa H Q E h=>?_) (by walk_at "b1") (fun f a6 A outer s H aa Q E hr h=>?_)
 ·obtain ⟨n,rfl,_⟩:=h
  rfl
 obtain ⟨n,rfl,d0,ax,q⟩:=h
 refine ⟨_,(aV (c4 (cn n1 (af 0) ay (b6 _)) (aW (bB (cN (ae ay aj)))) c3)
   (aV (c4 (cn n1 (a0 fD (af 0) ay) ay (b6 _)) (aW (bB (cN aj))) c3)
   (aW (bB (kC nL rfl T.kY lp (ae (o2 (N:=["p","n"]) (is:=[none,some 0]) rfl ⟨rfl,rfl,by decide +kernel,by decide +kernel,⟨rfl,trivial⟩,rfl,⟨⟨rfl,rfl,rfl⟩,trivial⟩⟩ (w7 (a5 (Ov T) hr (ae (a0 hM (af 0) ay) aj))) (fun _ _ _ _ _=>(dq (i:=0) (show List.Nodup (["p","n"]:ajD) from by decide +kernel) rfl (by walk_at "lc"))) (fun _ _ _ _ _=>(w8 (cn n1 (a0 fD (af 1) (a0 fc (af 0) ay)) ay (b6 _)))) (fun _ _ _ _ _=>(af 0))) aj)))))),?_⟩
 unfold dH at q
 refine ⟨_,rfl,rfl,_,rfl,?_⟩
 refine fG (fun c=>?_) (fun c=>?_)
 ·have bG:n=1:=by have:=afS c;injection this
  rw[afD bG]at q
  exact ⟨my,fun p fp=>q p _ (bY fp _) (bp.of bo)⟩
 have bG:n≠1:=fun z=>c (afI (by rw[z]))
 rw[afC bG]at q
 refine ⟨_,rfl,_,_,rfl,rfl,(show (0:Int)<2 by decide),rfl,_,rfl,?_⟩
 refine fG (fun g=>?_) (fun g=>?_)
 ·have g':n%2=1:=by have:=afS g;injection this
  rw[afD g']at q
  exact ⟨MC,fun p fp=>q p _ (bY fp _) (bp.of bo)⟩
 have g':¬n%2=1:=fun z=>g (afI (by show V.int (n%2)=V.int 1;rw[z]))
 rw[afC g']at q
 refine ⟨_,rfl,_,_,rfl,rfl,n+1,rfl,by lia,fun v H1 s1 eH=>?_⟩
 rw[show n+1-1=n by lia]at eH
 obtain ⟨pp,xs,rfl,dm,dY⟩:=eH.fS
 have ex:xs=(fb n.toNat).map V.int:=CJ dY
 subst ex
 refine ⟨pp,rfl,⟨_,dm⟩,fun D ft=>?_⟩
 refine CM (K:=K) (a:=pp) (xs:=(fb n.toNat).map V.int) (fun i σ ag=>(∃z,σ=[z,some (.int n)])/\(∀b o,H1 b=some o->ag b=some o)/\ag D=some (.lst ((((fb n.toNat).take i).filter fun p=>decide (n%(p-1)=0)).map V.int))) ⟨⟨none,rfl⟩,fun b o e=>bY ft _ b o e,bo⟩ (fun i σ ag _ ⟨_,s,_⟩=>(show bb H1 ag from s).hh dm) ?_ ?_
 ·rintro i x σ ag hx ⟨⟨z,rfl⟩,s2,h2⟩
  rw[af1]at hx
  obtain ⟨p,hp,rfl⟩:=ahd.mp hx
  have eK:=w_ (agD hp)
  have k8:(fb n.toNat).take (i+1)=(fb n.toNat).take i++[p]:=qk hp
  refine ⟨_,rfl,_,rfl,_,_,rfl,rfl,_,_,rfl,rfl,by lia,rfl,_,rfl,?_⟩
  refine fG (fun g=>?_) (fun g=>?_)
  ·have g':n%(p-1)=0:=by have:=afS g;injection this
   refine ⟨_,rfl,_,h2,?_,⟨_,rfl⟩,fun b o e=>?_,?_⟩
   ·rw[afG,afW]
    have h1:(((fb n.toNat).take i).filter fun p=>decide (n%(p-1)=0)).length<=((fb n.toNat).take i).length:=aje _ _
    have aQ:((fb n.toNat).take i).length<=(fb n.toNat).length:=by rw[ahm];lia
    have:=xa n.toNat
    lia
   ·rw[br (eN e ft)];exact s2 _ _ e
   ·rw[bo,k8,ah0,af9,aix (by rw[g'];rfl)];rfl
  ·have g':¬n%(p-1)=0:=fun z=>g (afI (by show V.int (n%(p-1))=V.int 0;rw[z]))
   refine ⟨⟨_,rfl⟩,s2,?_⟩
   rw[k8,ah0,aiy (by simpa using g'),List.filter_nil,agc];exact h2
 ·rintro σ ag ⟨⟨z,rfl⟩,s2,h2⟩
  rw[afG,agM]at h2
  refine ⟨⟨_,h2⟩,D,_,rfl,.inl ⟨bP.of h2,fun t aH=>?_⟩⟩
  have st:=bY aH (.tup (((fb n.toNat).filter fun p=>decide (n%(p-1)=0)).map V.int))
  exact q _ _ (s1.trans fun c o e=>st c o (s2 c o e)) (bp.of bo)
def aaY:dv:=fun ws n Q=>∃m:Int,ws=[.d (.int m)]/\0<=m/\m<=1000/\Q (.d (.tuple ((dH m).map PyData.int))) n
theorem E8:c0 K (HS K) aaY:=fun aa H Q hz=>by
 obtain ⟨M,ws,n,aK,ok,r,⟨m,e,h0,h1,q⟩,k⟩:=hz
 subst e
 obtain ⟨v1,rfl,au⟩:=r.inv1
 rw[au.int_inv]
 exact ⟨m,rfl,h0,h1,fun p J s t=>k.jq ok s (.tup t (rY _)) (Js _) q⟩
def HY (K:ajA):b_:=fun aa H Q _=>∃(v:V) (x:Rat) (p:Addr) (av:ajH),aa=[v,.ref p]/\aS K H v (bj x)/\bH 1000 x/\bp K H p (av.map V.int)/\av.length<=50/\(∀p∈av,2<=p/\p<1024)/\∀v J,bb H J->aS K J v (bj (gf x av))->Q v J
theorem wq:b0 ["share","primes","total","p"] ["share","primes"] (bu A2):=(by walk_at "sc")
theorem Fn (T:Txt K mg):Def P w K mg base "with_parts" ["share","primes"] 4 (HY K):=by
 refine Def.c8 T.PY wq (fun aa H Q E h=>?_) (by walk_at "b2") (fun f a6 A outer s H aa Q E hr h=>?_)
 ·obtain ⟨v,x,p,av,rfl,_⟩:=h
  rfl
 obtain ⟨v,x,p,av,rfl,b1,ik,dm,hl,GB,q⟩:=h
 refine ⟨_,(aV (ck (i:=2) wq.aT rfl (by walk_at "lc") (af 0))
   (aV (i8 agk rfl (w7 (af 1)) (dq (i:=3) wq.aT rfl (by walk_at "lc")) (aW (ck (i:=2) wq.aT rfl (by walk_at "lc") (a5 (vD T) hr (ae (af 2) (ae (a5 (ot T) hr (ae ay (ae (af 3) aj))) aj))))))
   (aW (bB (af 2))))),?_⟩
 refine ⟨_,rfl,?_⟩
 refine ⟨_,rfl,p,rfl,⟨_,dm⟩,?_⟩
 refine aav (K:=K) (a:=p) (xs:=av.map V.int) (fun i σ ag=>∃(t:V) (z:Option V),σ=[some v,some (.ref p),some t,z]/\bb H ag/\aS K ag t (bj (gf x (av.take i)))) ⟨_,none,rfl,bb.refl _,b1⟩ (fun i σ ag _ ⟨_,_,_,s,_⟩=>s.hh dm) ?_ ?_
 ·rintro i w σ ag hw ⟨t,z,rfl,s2,dw⟩
  rw[af1]at hw
  obtain ⟨b,hb,rfl⟩:=ahd.mp hw
  have hi:=(agf.mp hb).1
  have h2:=GB b (agD hb)
  have E1:cb 10 b:=cb.of_lt 1024 ⋯ ⋯ (by decide)
  refine ⟨_,rfl,_,rfl,1,b,rfl,by lia,E1.mono (by decide),fun v1 b3 s3 ec=>?_⟩
  refine ⟨_,_,_,_,rfl,dw.mono s3,ec,(JE av ik GB i).mono ⋯,(bH.divInt (m:=10) (by decide) E1 ⋯).mono (by decide),fun v2 bK s4 fJ=>?_⟩
  refine ⟨v2,_,rfl,s2.trans (s3.trans s4),?_⟩
  rw[qk hb,IP];exact fJ
 ·rintro σ ag ⟨t,z,rfl,s2,dw⟩
  rw[afG,agM]at dw
  exact ⟨_,rfl,q t ag s2 dw⟩
def aa7:dv:=fun ws n Q=>∃(x:Rat) (av:ajH),ws=[.d (bj x),.d (.tuple (av.map PyData.int))]/\bH 1000 x/\av.length<=50/\(∀p∈av,2<=p/\p<1024)/\Q (.d (bj (gf x av))) n
theorem NY:c0 K (HY K) aa7:=fun aa H Q hz=>by
 obtain ⟨M,ws,n,aK,ok,r,⟨x,av,e,h0,h1,h2,q⟩,k⟩:=hz
 subst e
 obtain ⟨v1,v2,rfl,au,bt⟩:=r.inv2
 obtain ⟨a,rfl,t⟩:=bt.b1.ints
 exact ⟨v1,x,a,av,rfl,au.b1,h0,t,h1,h2,fun v J s d=>k.jq ok s d (uH _) q⟩
def abC:dv:=fun ws n Q=>∃d,ws=[.d d]/\(∀ds,d=.tuple ds->ds.length<64)/\Q (.d (.bool (oH d&&(match d with|.tuple ds=>jT (ds.map cH)|_=>false)))) n
theorem Vv:b0 ["thing"] ["thing"] (bu BD):=(by walk_at "sc")
theorem Fx (T:Txt K mg):Def P w K mg base "is_turn" ["thing"] 4 (iF K abC):=by
 refine Def.fM T.QB Vv (fun ws n Q h=>?_) (by walk_at "b1") (fun f a6 A outer s H E hr=>⟨_,_,(aW (bB (nV (a5 (OM T) hr (ae (af 0) aj)) (nU (a5 (ON T) hr (ae (af 0) aj)))))),(dA (b:=false) (a9.x (qr (cA c0.refl (ak aw aN)) (cA c0.refl (ak aw aN))))),fun ws n Q h=>?_⟩)
 ·obtain ⟨d,rfl,_⟩:=h
  rfl
 obtain ⟨d,rfl,hs,q⟩:=h
 refine ⟨d,rfl,hs,?_⟩
 cases vF:oH d with
 | false=>rw[vF]at q;exact q
 | true =>
  rw[vF,ah4]at q
  cases d with
  | tuple ds=>
   have h:(ds.all el&&iD (ds.map cH))=true:=vF
   rw[afM]at h
   have eA:=wX h.1
   have hl:=hs ds rfl
   have bD:Q (.d (.bool (jT (ds.map cH)))) n:=q
   generalize tb:ds.map cH=ns at eA bD
   subst eA
   exact ⟨ns,rfl,by rw[afG]at hl;exact hl,bD⟩
  | _=>cases vF
def aby:iH:=fun ws n Q X=>∃(m:Nat) (place:Int),ws=[.d (.int (m:Int)),.d (.int place)]/\m<=20/\(0<=place->place<fR m->∀r,fm m [] r->r.length=m->f9 m [] r=place->Q (.d (dr r)) n)/\((place<0\/fR m<=place)->X "NoTurn" ["word","thing"] [.str ("place":Str),.int place] n)
theorem oM:b0 ["n","place","table","ahead","left","number"] ["n","place"] (bu Bu):=(by walk_at "sc")
theorem Pb (T:Txt K mg):eY P w K mg base "turn_at" ["n","place"] 4 (jR K aby):=by
 obtain ⟨MV,MT,Pu,QH,m6⟩:=T.Cc
 refine eY.fM T.Qs oM (fun ws n Q X h=>?_) (by walk_at "b2") (fun f a6 A outer s H E hr=>⟨_,_,(aV (c4 (gQ.pt (nZ (cn l9 (af 1) ay (b6 _)) (o5 (cn DU (af 1) (a5 (yE T) hr (ae (af 0) aj)) (b6 _))))) (aW (jL m6.s (GL m6) (hr.mono (by decide)) (m6.s.f.binds (by walk_at "b3")) jK (ae b5 (ae (af 1) aj)))) c3)
   (aV (ck (i:=2) oM.aT rfl (by walk_at "lc") (a5 (vB T) hr (ae (af 0) aj)))
   (aV (ck (i:=3) oM.aT rfl (by walk_at "lc") (cN aj))
   (aV (ck (i:=4) oM.aT rfl (by walk_at "lc") (af 1))
   (aV (nO ahi (cn l9 (dp (kD (K:=K) rfl) rfl T.f3 gd (ae (af 3) aj)) (af 0) (b6 _)) (aV (ck (i:=5) oM.aT rfl (by walk_at "lc") ay)
   (aV (nO ahi (cn DU (af 4) (a5 (yB T) hr (ae (af 2) (ae (af 0) (ae (af 3) (ae (af 5) aj))))) (b6 _)) (aV (l6 (i:=4) oM.aT rfl (by walk_at "lc") (a5 (yB T) hr (ae (af 2) (ae (af 0) (ae (af 3) (ae (af 5) aj))))) Lp)
   (aW (l6 (i:=5) oM.aT rfl (by walk_at "lc") ay uP))))
   (aW (l6 (i:=3) oM.aT rfl (by walk_at "lc") (cN (ae (af 5) aj)) (aaq (K:=K) rfl))))))
   (aW (bB (af 3)))))))),(b9 (eh (b:=false) (cL.x (qD (dC (bh qJ aw ba)) (dC (bh MD aw (cA Fc (ak aw aN)))))) (jJ (b:=false) m6 (ak dB (ak aw aN))) eg)
   (b9 (eV (b:=false) (a9.x (cA yt (ak aw aN))))
   (b9 (eV (b:=false) (a9.x (d_ aN)))
   (b9 (eV (b:=false) (a9.x aw))
   (b9 (CD (b:=false) (dC (bh qJ (gX kK (ak aw aN)) aw)) (b9 (eV (b:=false) (a9.x ba))
   (b9 (CD (b:=false) (dC (bh MD aw (cA c0.refl (ak aw (ak aw (ak aw (ak aw aN))))))) (b9 (xn (b:=false) (a9.x (cA c0.refl (ak aw (ak aw (ak aw (ak aw aN)))))))
   (xn (b:=false) (a9.x ba))))
   (ZA (b:=false) (a9.x (d_ (ak aw aN)))))))
   (dA (b:=false) (a9.x aw))))))),fun ws n Q X h=>?_⟩)
 ·obtain ⟨m,place,rfl,_⟩:=h
  rfl
 obtain ⟨m,place,rfl,hm,q,fx⟩:=h
 refine sg (fun c=>?_) (fun vs=>?_)
 ·exact fx (.inl c)
 refine ⟨(m:Int),rfl,by lia,by lia,?_⟩
 rw[ago]
 refine Mv (fun c=>?_) (fun dJ=>?_)
 ·exact fx (.inr c)
 refine ⟨(m:Int),rfl,by lia,by lia,?_⟩
 rw[ago,LU]
 refine ⟨fun j δ k=>k=n/\∃(a:ajH) (l:Int) (y:Option a4),δ=[some (.d (.int (m:Int))),some (.d (.int place)),some (.d (.tuple ((d9 m).map dr))),some (.d (dr a)),some (.d (.int l)),y]/\j+a.length=m/\fm m [] a/\f9 m [] a+l=place/\0<=l/\l<kT m a,⟨m,rfl,[],place,_,rfl,rfl,trivial,by show 0+place=place;lia,vs,by rw[adh];exact dJ⟩,?_⟩
 rintro j δ k ⟨rfl,a,l,y,rfl,hj,pa,hr,jw,eL⟩
 refine kp ?_
 rw[afG]
 refine sg (fun c=>?yes) (fun c=>?no)
 case no=>
  have aq:a.length=m:=by lia
  have:kT m a=1:=afD aq
  exact q vs dJ a pa aq ⋯
 have k8:kT m a=cF (cJ m a) m:=afC ⋯
 refine ⟨fun bw cO=>cO=k/\∃(a:ajH) (l:Int) (y:Option a4),bw=[some (.d (.int (m:Int))),some (.d (.int place)),some (.d (.tuple ((d9 m).map dr))),some (.d (dr a)),some (.d (.int l)),y]/\j-1+a.length=m/\fm m [] a/\f9 m [] a+l=place/\0<=l/\l<kT m a,fun bw cO h=>⟨j-1,by lia,h⟩,?_⟩
 refine ⟨fun i δ cO=>cO=k/\∃x:Nat,δ=[some (.d (.int (m:Int))),some (.d (.int place)),some (.d (.tuple ((d9 m).map dr))),some (.d (dr a)),some (.d (.int (l-cF (cJ m a) x))),some (.d (.int (x:Int)))]/\i+x=m/\x<m/\cF (cJ m a) x<=l,⟨m,rfl,0,?_,rfl,by lia,jw⟩,?_⟩
 ·show _=[_,_,_,_,some (a4.d (.int (l-0))),_]
  rw[Int.sub_zero];rfl
 rintro i δ cO ⟨rfl,x,rfl,hi,hx,V6⟩
 have sn:cF (cJ m a) (x+1)=cF (cJ m a) x+cJ m a x:=rfl
 refine ⟨d9 m,m,a,(x:Int),rfl,by lia,by lia,DE hx,?_⟩
 refine Mv (fun cB=>?_) (fun cB=>?_)
 ·refine ⟨fun bw k2=>k2=cO/\∃x:Nat,bw=[some (.d (.int (m:Int))),some (.d (.int place)),some (.d (.tuple ((d9 m).map dr))),some (.d (dr a)),some (.d (.int (l-cF (cJ m a) x))),some (.d (.int (x:Int)))]/\i-1+x=m/\x<m/\cF (cJ m a) x<=l,fun bw k2 h=>⟨i-1,by lia,h⟩,?_⟩
  refine ⟨d9 m,m,a,(x:Int),rfl,by lia,by lia,DE hx,?_⟩
  have j6:cJ m a x<=l-cF (cJ m a) x:=cB
  have hle:cF (cJ m a) (x+1)<=l:=by rw[sn];lia
  have lt:=adW hx hle (by rw[<-k8];exact eL)
  refine ⟨rfl,x+1,?_,by lia,lt,hle⟩
  rw[sn,show l-(cF (cJ m a) x+cJ m a x)=l-cF (cJ m a) x-cJ m a x by lia]
  rfl
 ·obtain ⟨dy,aU,kX⟩:=XA pa hx V6 cB
  refine ⟨by rw[afG];show a.length+1<=_;lia,?_⟩
  refine ⟨rfl,a++[(x:Int)],l-cF (cJ m a) x,some (.d (.int (x:Int))),?_,by rw[afZ];show j-1+(a.length+1)=m;lia,dy,by rw[aU];lia,by lia,kX⟩
  rw[show dr (a++[(x:Int)])=.tuple (a.map PyData.int++[.int (x:Int)]) by show PyData.tuple _=_;rw[af9];rfl]
  rfl
def H6 (K:ajA):b_:=fun aa H Q _=>∃n p a:Int,aa=[.int n,.int p,.int a]/\1<p/\p<=200/\1<=n/\0<=a/\a<=200/\Q (.int (a^(n-1).toNat%p*mY n p a%p)) H
theorem Vf:b0 ["n","p","a"] ["n","p","a"] (bu A_):=(by walk_at "sc")
theorem Fo (T:Txt K mg):Def P w K mg base "told_rest" ["n","p","a"] 4 (H6 K):=by
 refine Def.c8 T.P7 Vf (fun aa H Q E h=>?_) (by walk_at "b3") (fun f a6 A outer s H aa Q E hr h=>?_)
 ·obtain ⟨n,p,a,rfl,_⟩:=h
  rfl
 obtain ⟨n,p,a,rfl,hp,eK,hn,oq,a1,q⟩:=h
 refine ⟨_,(aW (bB (a5 (k7 T) hr (ae (a0 kJ (a5 (vy T) hr (ae (af 2) (ae (a0 fc (af 0) ay) (ae (af 1) aj)))) (a5 (Fq T) hr (ae (af 0) (ae (af 1) (ae (af 2) aj))))) (ae (af 1) aj))))),?_⟩
 have rL:=agb (a^(n-1).toNat) (show p≠0 by lia)
 have z1:=aga (a^(n-1).toNat) (show 0<p by lia)
 exact ⟨_,rfl,_,rfl,_,_,rfl,rfl,_,rfl,a,n-1,p,rfl,hp,by lia,by lia,_,rfl,_,rfl,_,rfl,n,p,a,rfl,hp,eK,hn,oq,a1,_,_,rfl,rfl,.inl ⟨by lia,by lia⟩,_,rfl,_,p,rfl,by lia,q⟩
def abe:dv:=fun ws n Q=>∃m p a:Int,ws=[.d (.int m),.d (.int p),.d (.int a)]/\1<p/\p<=200/\1<=m/\0<=a/\a<=200/\Q (.d (.int (a^(m-1).toNat%p*mY m p a%p))) n
theorem E_:c0 K (H6 K) abe:=fun aa H Q hz=>by
 obtain ⟨M,ws,n,aK,ok,r,⟨m,p,a,e,h1,h2,aQ,bS,c1,q⟩,k⟩:=hz
 subst e
 obtain ⟨v1,v2,gW,rfl,au,bt,fP⟩:=r.vY
 rw[au.int_inv,bt.int_inv,fP.int_inv]
 exact ⟨m,p,a,rfl,h1,h2,aQ,bS,c1,k.now ok (.int _) q⟩
def abp:iH:=fun ws n Q X=>∃(x:Rat) (p:Int),ws=[.d (bj x),.d (.int p)]/\1<p/\p<2^30/\((x.den:Int)%p=0->X "NoRest" ["number","prime"] [bj x,.int p] n)/\((x.den:Int)%p≠0->Q (.d (.int (x.num*((x.den:Int)^(p-2).toNat%p)%p))) n)
theorem BM:b0 ["share","p","top","bottom"] ["share","p"] (bu Bl):=(by walk_at "sc")
theorem FA (T:Txt K mg):eY P w K mg base "share_rest" ["share","p"] 4 (jR K abp):=by
 obtain ⟨EE,EC,FT,F6,jj⟩:=T.wI
 refine eY.fM T.Qi BM (fun ws n Q X h=>?_) (by walk_at "b2") (fun f a6 A outer s H E hr=>⟨_,_,(aV (rV (af 0) (rQ (K:=K) (n:=2) rfl rfl (gL (dq (i:=2) BM.aT rfl (by walk_at "lc")) (gL (dq (i:=3) BM.aT rfl (by walk_at "lc")) nS))))
   (aV (c4 (cn (eW (K:=K) rfl hr) (a5 (k7 T) hr (ae (af 3) (ae (af 1) aj))) ay (b6 _)) (aW (jL jj.s (zF jj) (hr.mono (by decide)) (jj.s.f.binds (by walk_at "b3")) jK (ae (af 0) (ae (af 1) aj)))) c3)
   (aW (bB (a5 (k7 T) hr (ae (a0 (nW (K:=K) rfl) (af 2) (a5 (Fu T) hr (ae (af 3) (ae (af 1) aj)))) (ae (af 1) aj))))))),(b9 (Dv (b:=false) (a9.x aw) (r5 (lr i9 (lr i9 r6))))
   (b9 (eh (b:=false) (cL.x (dC (bh eX (cA q2 (ak aw (ak aw aN))) ba))) (jJ (b:=false) jj (ak aw (ak aw aN))) eg)
   (dA (b:=false) (a9.x (cA q2 (ak (bh n2 aw (cA c0.refl (ak aw (ak aw aN)))) (ak aw aN))))))),fun ws n Q X h=>?_⟩)
 ·obtain ⟨x,p,rfl,_⟩:=h
  rfl
 obtain ⟨x,p,rfl,hp,eK,fx,q⟩:=h
 have FD:(2:Int)^30=1073741824:=by decide
 have rL:=agb ((x.den:Int)^(p-2).toNat) (show p≠0 by lia)
 have z1:=aga ((x.den:Int)^(p-2).toNat) (show 0<p by lia)
 refine sa rfl ?_
 refine ⟨_,p,rfl,by lia,?_⟩
 refine n4 (fun c=>?_) (fun c=>?_)
 ·exact fx c
 refine ⟨_,p,rfl,hp,eK,c,?_⟩
 refine mT (.inr ⟨by lia,by lia⟩) ?_
 exact ⟨_,p,rfl,by lia,q c⟩
def ps (n p a:Int):Prop:=2<=a/\a<p/\a^n.toNat%p≠1/\∀b,2<=b->b<a->b^n.toNat%p=1
def abx:iH:=fun ws n Q X=>∃m p:Int,ws=[.d (.int m),.d (.int p)]/\p∈mD/\3<=p/\0<=m/\(m%(p-1)=0->X "NoRest" ["number","prime"] [.int m,.int p] n)/\(m%(p-1)≠0->∀a:Int,ps m p a->Q (.d (.int a)) n)
theorem BO:b0 ["n","p","a"] ["n","p"] (bu Bs):=(by walk_at "sc")
theorem Pa (T:Txt K mg):eY P w K mg base "rest_paper" ["n","p"] 4 (jR K abx):=by
 obtain ⟨EE,EC,FT,F6,jj⟩:=T.wI
 refine eY.fM T.Qp BO (fun ws n Q X h=>?_) (by walk_at "b2") (fun f a6 A outer s H E hr=>⟨_,_,(aV (c4 (cn (eW (K:=K) rfl hr) (a0 fD (af 0) (a0 fc (af 1) ay)) ay (b6 _)) (aW (jL jj.s (zF jj) (hr.mono (by decide)) (jj.s.f.binds (by walk_at "b3")) jK (ae (af 0) (ae (af 1) aj)))) c3)
   (aV (ck (i:=2) BO.aT rfl (by walk_at "lc") ay)
   (aV (nO ahi (cn (eW (K:=K) rfl hr) (a5 (vA T) hr (ae (af 0) (ae (af 1) (ae (af 2) aj)))) ay (b6 _)) (aW (l6 (i:=2) BO.aT rfl (by walk_at "lc") ay uP)))
   (aW (bB (af 2)))))),(b9 (eh (b:=false) (cL.x (dC (bh eX (bh mU aw (bh ja aw ba)) ba))) (jJ (b:=false) jj (ak aw (ak aw aN))) eg)
   (b9 (eV (b:=false) (a9.x ba))
   (b9 (CD (b:=false) (dC (bh eX (cA vu (ak aw (ak aw (ak aw aN)))) ba)) (xn (b:=false) (a9.x ba)))
   (dA (b:=false) (a9.x aw))))),fun ws n Q X h=>?_⟩)
 ·obtain ⟨m,p,rfl,_⟩:=h
  rfl
 obtain ⟨m,p,rfl,hp,fO,hm,fx,q⟩:=h
 obtain ⟨dG,b8⟩:=uL p hp
 refine iw ?_
 refine lZ ⋯ ?_
 refine n4 (fun c=>fx c) (fun h0=>?_)
 replace q:=q h0
 obtain ⟨a,a2,ap,ha⟩:=Zh hp hm h0
 refine ⟨fun k δ ao=>ao=n/\∃b:Int,δ=[some (.d (.int m)),some (.d (.int p)),some (.d (.int b))]/\2<=b/\b<=a/\k=(a-b).toNat/\∀c,2<=c->c<b->c^m.toNat%p=1,⟨_,rfl,2,rfl,by decide,a2,rfl,fun c h1 h2=>by lia⟩,fun k δ ao Q7=>?_⟩
 obtain ⟨rfl,b,rfl,c6,aey,rfl,hb⟩:=Q7
 have x0:=agb (b^m.toNat) (show p≠0 by lia)
 have fC:=aga (b^m.toNat) (show 0<p by lia)
 refine ⟨m,p,b,rfl,by lia,by lia,hm,?_⟩
 refine n4 (fun g=>?_) (fun g=>?_)
 ·have g2:=(uw ⋯ x0 fC).mp g
  have aeO:b≠a:=fun z=>ha (by rw[<-z];exact g2)
  refine ⟨fun δ k=>k=ao/\δ=[some (.d (.int m)),some (.d (.int p)),some (.d (.int (b+1)))],?_,?_⟩
  ·rintro bw cO ⟨rfl,rfl⟩
   refine ⟨_,?_,rfl,b+1,rfl,by lia,by lia,rfl,fun c h1 h2=>?_⟩
   ·lia
   ·by_cases hc:c=b
    ·rw[hc];exact g2
    ·exact hb c h1 ⋯
  ·exact ⟨rfl,rfl⟩
 ·exact q b ⟨c6,by lia,fun h=>g ((uw ⋯ x0 fC).mpr h),hb⟩
def H_ (K:ajA):b_:=fun aa H Q _=>∃(p:Addr) (ws:List V) (rs:List Rat) (v:V) (x:Rat) (N n:Nat),aa=[.ref p,v]/\bp K H p ws/\bE K H ws (rs.map bj)/\aS K H v (bj x)/\bH n x/\(∀r∈rs,bH 4400 r)/\(∀i,bH N (jt x (rs.drop i)))/\N+n<=4400/\∀jF J,bb H J->aS K J jF (bj (jt x rs))->Q jF J
theorem wt:b0 ["poly","share","value","number"] ["poly","share"] (bu Bi):=(by walk_at "sc")
theorem OO (T:Txt K mg):Def P w K mg base "value_at" ["poly","share"] 4 (H_ K):=by
 refine Def.c8 T.Qf wt (fun aa H Q E h=>?_) (by walk_at "b2") (fun f a6 A outer s H aa Q E hr h=>?_)
 ·obtain ⟨p,ws,rs,v,x,N,n,rfl,_⟩:=h
  rfl
 obtain ⟨p,ws,rs,v,x,N,n,rfl,cG,gC,hx,ik,hb,E3,aeM,q⟩:=h
 obtain ⟨jn,lW,l3⟩:=T.q1
 refine ⟨_,(aV (ck (i:=2) wt.aT rfl (by walk_at "lc") (jN (v:=.ref jn) rfl lW rfl))
   (aV (i8 agk rfl (Kg rfl T.EZ (ae (af 0) aj)) (dq (i:=3) wt.aT rfl (by walk_at "lc")) (aW (ck (i:=2) wt.aT rfl (by walk_at "lc") (a5 (vD T) hr (ae (a5 (ou T) hr (ae (af 2) (ae (af 1) aj))) (ae (af 3) aj))))))
   (aW (bB (af 2))))),?_⟩
 have wl:ws.length=rs.length:=by have:=gC.length;simpa using this
 repeat (first|walk_at "rd")
 refine ⟨p,ws,rfl,cG,?_⟩
 refine Ku (K:=K) (a:=p) (xs:=ws) (fun i σ ag=>∃(t:V) (z:Option V),σ=[some (.ref p),some v,some t,z]/\bb H ag/\aS K ag t (bj (jt x (rs.drop (rs.length-i))))) ⟨_,none,rfl,bb.refl _,by rw[ahx,ahc];exact aS.con l3 rfl rfl _⟩ (fun i σ ag _ ⟨_,_,_,s,_⟩=>s.hh cG) ?_ ?_
 ·rintro i w σ ag hi hw ⟨t,z,rfl,s2,dw⟩
  obtain ⟨hj,pI⟩:=gC.share hw
  have nj:jt x (rs.drop (rs.length-(i+1)))=jt x (rs.drop (rs.length-i))*x+rs.getD (ws.length-1-i) 0:=by
   rw[show rs.length-(i+1)=ws.length-1-i by lia,agJ hj,show ws.length-1-i+1=rs.length-i by lia,afO,afQ hj]
   rfl
  refine ⟨_,rfl,_,rfl,_,_,_,_,rfl,dw,hx.mono s2,(E3 _).mono ⋯,ik.mono ⋯,fun gW b3 s3 ec=>?_⟩
  refine ⟨_,rfl,_,_,_,_,rfl,ec,(pI.mono s2).mono s3,((E3 _).mul ik).mono ⋯,hb _ (rO hj),fun v4 bK s4 fJ=>?_⟩
  exact ⟨_,_,rfl,s2.trans (s3.trans s4),by rw[nj];exact fJ⟩
 ·rintro σ ag ⟨t,z,rfl,s2,dw⟩
  rw[wl,ahQ,ahP]at dw
  exact ⟨_,rfl,q _ _ s2 dw⟩
def abm:dv:=fun ws n Q=>∃(rs:List Rat) (x:Rat) (N m:Nat),ws=[.d (bX rs),.d (bj x)]/\bH m x/\(∀r∈rs,bH 4400 r)/\(∀i,bH N (jt x (rs.drop i)))/\N+m<=4400/\Q (.d (bj (jt x rs))) n
theorem aeD:c0 K (H_ K) abm:=fun aa H Q hz=>by
 obtain ⟨M,ws,n,aK,ok,r,⟨rs,x,N,m,e,h1,h2,aQ,bS,q⟩,k⟩:=hz
 subst e
 obtain ⟨v1,v2,rfl,au,bt⟩:=r.inv2
 obtain ⟨p,ud,rfl,dm,dY⟩:=au.Ae
 exact ⟨p,ud,rs,v2,x,N,m,rfl,dm,dY,bt.b1,h1,h2,aQ,bS,fun jF J s d=>k.jq ok s d (uH _) q⟩
def H4 (K:ajA):b_:=fun aa H Q _=>∃(p:Addr) (ws:List V) (rs:List Rat) (v:V) (x:Rat),aa=[.ref p,v]/\bp K H p ws/\bE K H ws (rs.map bj)/\rs.length<=1000/\aS K H v (bj x)/\bH 4400 x/\(∀r∈rs,bH 4400 r)/\∀dy kz J,bb H J->bp K J dy kz->bE K J kz ((jU (rs.map (·*x))).map bj)->Q (.ref dy) J
theorem Vd:b0 ["poly","share"] ["poly","share"] (bu A8):=(by walk_at "sc")
theorem OK (T:Txt K mg):Def P w K mg base "poly_scaled" ["poly","share"] 4 (H4 K):=by
 refine Def.c8 T.P5 Vd (fun aa H Q E h=>?_) (by walk_at "b2") (fun f a6 A outer s H aa Q E hr h=>?_)
 ·obtain ⟨p,ws,rs,v,x,rfl,_⟩:=h
  rfl
 obtain ⟨p,ws,rs,v,x,rfl,cG,gC,hlen,hx,ik,hb,q⟩:=h
 refine ⟨_,(aW (bB (a5 (OA T) hr (ae (o2 (N:=["number","share"]) (is:=[none,some 1]) rfl ⟨rfl,rfl,by decide +kernel,by decide +kernel,⟨rfl,trivial⟩,rfl,⟨⟨rfl,rfl,rfl⟩,trivial⟩⟩ (w7 (af 0)) (fun _ _ _ _ _=>(dq (i:=0) (show List.Nodup (["number","share"]:ajD) from by decide +kernel) rfl (by walk_at "lc"))) (fun _ _ _ _ _=>mP) (fun _ _ _ _ _=>(a5 (ou T) hr (ae (af 0) (ae (af 1) aj))))) aj)))),?_⟩
 have wl:ws.length=rs.length:=by have:=gC.length;simpa using this
 refine ⟨_,rfl,p,rfl,⟨_,cG⟩,fun D ft=>?_⟩
 refine CM (K:=K) (a:=p) (xs:=ws) (fun i σ ag=>(∃z,σ=[z,some v])/\(∀b o,H b=some o->ag b=some o)/\∃us,ag D=some (.lst us)/\us.length=i/\bE K ag us (((rs.map (·*x)).take i).map bj)) ⟨⟨none,rfl⟩,fun b o e=>bY ft _ b o e,[],bo,rfl,.nil⟩ (fun i σ ag _ ⟨_,s,_⟩=>(show bb H ag from s).hh cG) ?_ ?_
 ·rintro i w σ ag hw ⟨⟨z,rfl⟩,s2,us,vL,RL,mn⟩
  have qc:bb H ag:=s2
  obtain ⟨hi,pI⟩:=gC.share hw
  refine ⟨_,rfl,_,rfl,_,_,_,_,rfl,pI.mono qc,hx.mono qc,hb _ (rO hi),ik,fun gW b3 s3 ec=>?_⟩
  have Ge:=s3 _ _ vL
  have cR:lA b3 (upd b3 D (.lst (us++[gW]))):=wN Ge
  refine ⟨us,Ge,by rw[afW];lia,⟨_,rfl⟩,fun b o e=>?_,us++[gW],bo,by simp;lia,?_⟩
  ·rw[br (eN e ft)];exact s3 _ _ (s2 _ _ e)
  ·rw[wL (by rw[afG];exact hi),af9]
   refine ((mn.mono s3).zR cR).append (.cons ?_ .nil)
   have yL:(rs.map (·*x)).getD i 0=rs.getD i 0*x:=by
    rw[afO,af1,afO,afQ hi];rfl
   rw[yL]
   exact ec.zQ cR
 rintro σ ag ⟨_,s2,us,vL,RL,mn⟩
 have qc:bb H ag:=s2
 rw[wl,ahy (by rw[afG];lia)]at mn
 refine ⟨⟨_,vL⟩,D,us,_,rfl,bP.of vL,mn,by rw[afG];lia,fun fO WA b3 s3 t3 ec=>?_⟩
 exact q fO WA b3 (qc.trans s3) t3 ec
def abc:dv:=fun ws n Q=>∃(rs:List Rat) (x:Rat),ws=[.d (bX rs),.d (bj x)]/\rs.length<=1000/\bH 4400 x/\(∀r∈rs,bH 4400 r)/\Q (.d (bX (jU (rs.map (·*x))))) n
theorem aeB:c0 K (H4 K) abc:=fun aa H Q hz=>by
 obtain ⟨M,ws,n,aK,ok,r,⟨rs,x,e,h1,h2,aQ,q⟩,k⟩:=hz
 subst e
 obtain ⟨v1,v2,rfl,au,bt⟩:=r.inv2
 obtain ⟨p,ud,rfl,dm,dY⟩:=au.Ae
 exact ⟨p,ud,rs,v2,x,rfl,dm,dY,h1,bt.b1,h2,aQ,fun dy kz J s t d=>k.jq ok s (aS.bX t d) (xk _) q⟩
def VQ (K:ajA):b_:=fun aa H Q _=>∃(l:Addr) (ws:List V) (xs:List Rat) (k:Int) (E:Int) (c:Nat),aa=[.ref l,.int k]/\H l=some (.lst ws)/\bE K H ws (xs.map bj)/\0<=k/\k.toNat<xs.length/\xs.length<=40/\E≠0/\cb c E/\(∀r∈xs,es E c r)/\c<=4000/\∀v J,bb H J->aS K J v (bj (above xs k.toNat (xs.length-1-k.toNat)))->Q v J
theorem wm:b0 ["numbers","k","total","j"] ["numbers","k"] (bu AX):=(by walk_at "sc")
theorem OF (T:Txt K mg):Def P w K mg base "moved_from_above" ["numbers","k"] 4 (VQ K):=by
 refine Def.c8 T.PT wm (fun aa H Q E h=>?_) (by walk_at "b2") (fun f a6 A outer s H aa Q E hr h=>?_)
 ·obtain ⟨l,ws,xs,k,E,c,rfl,_⟩:=h
  rfl
 obtain ⟨l,ws,xs,k,E,c,rfl,eZ,gC,k0,k1,hlen,fV,qY,dN,hc,q⟩:=h
 obtain ⟨jn,lW,l3⟩:=T.q1
 refine ⟨_,(aV (ck (i:=2) wm.aT rfl (by walk_at "lc") (jN (v:=.ref jn) rfl lW rfl))
   (aV (i8 agk rfl (Cm rfl T.iO (ae (a0 hM (af 1) ay) (ae (dp l4 rfl T.f3 gd (ae (af 0) aj)) aj))) (dq (i:=3) wm.aT rfl (by walk_at "lc")) (aW (ck (i:=2) wm.aT rfl (by walk_at "lc") (a5 (vD T) hr (ae (af 2) (ae (a5 (ou T) hr (ae (cN (ae (a5 (Fm T) hr (ae (af 3) (ae (af 1) aj))) (ae ay aj))) (ae (dx rm (af 0) (af 3) (fun _ _=>rfl)) aj))) aj))))))
   (aW (bB (af 2))))),?_⟩
 have wl:ws.length=xs.length:=by have:=gC.length;simpa using this
 refine ⟨_,rfl,_,_,rfl,rfl,_,rfl,l,ws,rfl,.inl (bP.of eZ),?_⟩
 rw[wl]
 refine ⟨k+1,((xs.length:Nat):Int),rfl,⟨by lia,by lia,by lia⟩,?_⟩
 rw[show (((xs.length:Nat):Int)-(k+1)).toNat=xs.length-1-k.toNat by lia]
 have yn:∀i,k.toNat+1+i<=xs.length->bH 4200 (above xs k.toNat i):=fun i hi=>(w5 fV dN i ⋯).bs fV (qY.mono (show c<=4200 by lia)) ⋯
 have ik:∀i,bH 4200 (xs.getD i 0):=fun i=>(uz dN i).bs fV (qY.mono (show c<=4200 by lia)) ⋯
 refine wO (lo:=k+1) (n:=xs.length-1-k.toNat) (fun i σ ag=>∃(t:V) (z:Option V),σ=[some (.ref l),some (.int k),some t,z]/\bb H ag/\aS K ag t (bj (above xs k.toNat i))) ⟨_,none,rfl,bb.refl _,aS.con l3 rfl rfl _⟩ ?_ ?_
 ·rintro i σ ag hi ⟨t,z,rfl,s2,dw⟩
  have hw:ws[k.toNat+1+i]?=some (ws[k.toNat+1+i]'⋯):=afQ ⋯
  have aq:=mQ hw
  rw[show ((k.toNat+1+i:Nat):Int)=k+1+(i:Int) by lia]at aq
  have pI:=(gC.share hw).2
  have lN:j7 (k+1+(i:Int)) k=((ch (k.toNat+1+i) k.toNat:Nat):Int):=by
   unfold j7;rw[afD k0]
   congr 2;lia
  refine ⟨_,rfl,_,rfl,_,rfl,k+1+(i:Int),k,rfl,by lia,by lia,jx,fun dG f1=>?_⟩
  rw[lN]
  have gJ:=bY f1 (.tup [.int ((ch (k.toNat+1+i) k.toNat:Nat):Int),.int 1])
  refine ⟨_,rfl,_,rfl,l,ws,_,_,rfl,rfl,bP.of (gJ _ _ (s2 _ _ eZ)),aq,?_⟩
  have sH:bH 61 (((ch (k.toNat+1+i) k.toNat:Nat):Int):Rat):=bH.int (D4 _ _ ⋯) (by decide)
  refine ⟨_,_,_,_,rfl,aS.HI bo,(pI.mono s2).mono gJ,sH.mono (by decide),(ik _).mono (by decide),fun gW b3 s3 ec=>?_⟩
  refine ⟨_,_,_,_,rfl,(dw.mono gJ).mono s3,ec,(yn i ⋯).mono (by decide),(sH.mul (ik _)).mono (by decide),fun v4 bK s4 fJ=>?_⟩
  exact ⟨v4,_,rfl,s2.trans (gJ.trans (s3.trans s4)),fJ⟩
 ·rintro σ ag ⟨t,z,rfl,s2,dw⟩
  exact ⟨_,rfl,q t ag s2 dw⟩
def HT (K:ajA):b_:=fun aa H Q _=>∃(k:Nat),aa=[.int (2*(k:Int)+2)]/\k<20/\∀v J,bb H J->aS K J v (bj (jB (2*k+2)))->Q v J
theorem Hy:b0 ["n","sign"] ["n"] (bu AS):=(by walk_at "sc")
theorem OC (T:Txt K mg):Def P w K mg base "number_by_turns" ["n"] 4 (HT K):=by
 refine Def.c8 T.PO Hy (fun aa H Q E h=>?_) (by walk_at "b1") (fun f a6 A outer s H aa Q E hr h=>?_)
 ·obtain ⟨k,rfl,_⟩:=h
  rfl
 obtain ⟨k,rfl,hk,q⟩:=h
 refine ⟨_,(aV (ck (i:=1) Hy.aT rfl (by walk_at "lc") (ZO (rN (cn n1 (a0 fD (af 0) ay) ay (b6 _)) (kI kG ay) ay)))
   (aW (bB (a5 (ot T) hr (ae (a0 l7 (a0 kJ (af 1) (af 0)) (a5 (yE T) hr (ae (a0 fc (af 0) ay) aj))) (ae (a5 (Fp T) hr (ae (af 0) aj)) aj)))))),?_⟩
 refine ⟨fun v J=>J=H/\v=.int (if (2*k+2)%4=0 then -1 else 1),?_,?_⟩
 ·refine ⟨_,rfl,_,_,rfl,rfl,(show (0:Int)<4 by decide),rfl,_,rfl,?_⟩
  refine fG (fun c=>?_) (fun c=>?_)
  ·have bG:(2*(k:Int)+2)%4=0:=by have:=afS c;injection this
   exact ⟨_,rfl,rfl,by rw[afD ⋯]⟩
  ·have bG:¬(2*(k:Int)+2)%4=0:=fun z=>c (afI (by show V.int ((2*(k:Int)+2)%4)=_;rw[z]))
   exact ⟨rfl,by rw[afC ⋯]⟩
 rintro v H1 ⟨rfl,rfl⟩
 obtain ⟨tT,RI,hs⟩:∃tT:Int,(if (2*k+2)%4=0 then (-1:Int) else 1)=tT/\-2<tT/\tT<2:=⟨_,rfl,by split<;>decide,by split<;>decide⟩
 have cj:=ad7 hk
 rw[RI]at cj ⊢
 have i3:cb 50 (tT*(2*(k:Int)+2)):=((cb.of_lt (m:=2) 2 ⋯ ⋯ (by decide)).mul (cb.of_lt (m:=10) 100 (x:=2*(k:Int)+2) ⋯ ⋯ (by decide))).mono (by decide)
 refine ⟨_,rfl,_,rfl,_,_,rfl,rfl,.inl ⟨by lia,by lia⟩,?_⟩
 refine ⟨_,rfl,_,_,rfl,rfl,_,rfl,by lia,by lia,fun ag s2=>?_⟩
 rw[show (2*(k:Int)+2-1).toNat=2*k+1 by lia]
 refine ⟨_,_,rfl,rfl,i3.k6 (Dm (n:=2*k+1) ⋯),?_⟩
 refine ⟨_,rfl,_,rfl,by lia,by lia,fun b3 s3=>?_⟩
 have ai:(2*(k:Int)+2).toNat=2*k+2:=by lia
 rw[ai]
 have dG:=Zq (2*k+2)
 have b8:(2:Int)^(2*k+2)≠1:=by
  have:(2:Int)^(2*k+2)=2*2^(2*k+1):=by rw[agH];lia
  lia
 refine ⟨_,_,rfl,?_,(J4 (n:=2*k+2) ⋯).mono (by decide),fun v4 bK s4 fJ=>?_⟩
 ·exact Int.mul_ne_zero ⋯ ⋯
 ·rw[show (2*(k:Int)+2)=((2*k+2:Nat):Int) by lia,cj]at fJ
  exact q v4 bK (s2.trans (s3.trans s4)) fJ
def aaZ:dv:=fun ws n Q=>∃k:Nat,ws=[.d (.int (2*(k:Int)+2))]/\k<20/\Q (.d (bj (jB (2*k+2)))) n
theorem NU:c0 K (HT K) aaZ:=fun aa H Q hz=>by
 obtain ⟨M,ws,n,aK,ok,r,⟨m,e,h1,q⟩,k⟩:=hz
 subst e
 obtain ⟨v1,rfl,au⟩:=r.inv1
 rw[au.int_inv]
 exact ⟨m,rfl,h1,fun v J s d=>k.jq ok s d (uH _) q⟩
def HN (K:ajA):b_:=fun aa H Q _=>∃(n:Int),aa=[.int n]/\0<=n/\n<=40/\∀p ws J,bb H J->bp K J p ws->bE K J ws ((c9 n.toNat).map bj)->Q (.ref p) J
theorem Hx:b0 ["n","numbers"] ["n"] (bu AJ):=(by walk_at "sc")
theorem Oz (T:Txt K mg):Def P w K mg base "row_to" ["n"] 5 (HN K):=by
 refine Def.c8 T.PF Hx (fun aa H Q E h=>?_) (by walk_at "b1") (fun f a6 A outer s H aa Q E hr h=>?_)
 ·obtain ⟨n,rfl,_⟩:=h
  rfl
 obtain ⟨n,rfl,d0,ax,q⟩:=h
 obtain ⟨vo,zU,B6⟩:=T.E7
 refine ⟨_,(aV (ck (i:=1) Hx.aT rfl (by walk_at "lc") (jQ (ae (jN (v:=.ref vo) rfl zU rfl) aj)))
   (aV (nO agk (cn qF (dp l4 rfl T.f3 gd (ae (af 1) aj)) (af 0) (b6 _)) (aW (wU (Dz ah3 ajh aji uj (af 1) (ae (a5 (OQ T) hr (ae (af 1) aj)) aj)))))
   (aW (bB (kC nL rfl T.kY lp (ae (af 1) aj)))))),?_⟩
 refine ⟨my,fun l dE=>?_⟩
 refine rP (fun σ ag=>∃(k:Nat) (ws:List V),σ=[some (.int n),some (.ref l)]/\(k:Int)<=n/\(∀b o,H b=some o->ag b=some o)/\ag l=some (.lst ws)/\bE K ag ws ((c9 k).map bj)) (fun σ ag=>match ag l with|some (.lst ws)=>100-ws.length|_=>0) ⟨0,_,rfl,by lia,fun b o e=>bY dE _ b o e,bo,.cons (aS.con B6 rfl rfl _) .nil⟩ ?_ ?_
 ·rintro σ ag ⟨k,ws,rfl,hk,s2,h2,dw⟩
  have wl:ws.length=k+1:=by have:=dw.length;rw[afG,nQ]at this;exact this
  have hlen:(c9 k).length=k+1:=nQ k
  refine ⟨_,rfl,l,ws,rfl,.inl (bP.of h2),_,rfl,_,_,rfl,rfl,_,rfl,?_⟩
  refine fG (fun c=>?_) (fun c=>?_)
  ·have bG:((ws.length:Nat):Int)<=n:=afS c
   refine ⟨_,rfl,.inl ⟨rfl,_,bP.of h2⟩,_,rfl,false,l,ws,c9 k,rfl,bP.of h2,dw,by lia,fun r hr=>(xx ⋯ r hr).mono (by decide),fun j hj=>(adl (i:=k) ⋯ j hj).mono (by decide),fun v b3 s3 ec=>?_⟩
   have aQ:=s3 _ _ h2
   refine ⟨l,ws,v,rfl,rfl,aQ,by rw[wl,afW];lia,?_⟩
   have cR:lA b3 (upd b3 l (.lst (ws++[v]))):=wN aQ
   refine ⟨⟨k+1,ws++[v],rfl,by lia,fun b o e=>?_,bo,?_⟩,?_⟩
   ·rw[br (eN e dE)];exact s3 _ _ (s2 _ _ e)
   ·show bE K _ _ ((c9 k++[qC (c9 k)]).map bj)
    rw[af9]
    exact ((dw.mono s3).zR cR).append (.cons (ec.zQ cR) .nil)
   ·show (match upd b3 l (.lst (ws++[v])) l with|some (.lst ws)=>100-ws.length|_=>0)<(match ag l with|some (.lst ws)=>100-ws.length|_=>0)
    rw[bo,h2]
    show 100-(ws++[v]).length<100-ws.length
    rw[afZ];simp;lia
  ·have bG:¬((ws.length:Nat):Int)<=n:=fun z=>c (afI z)
   have nk:k=n.toNat:=by lia
   subst nk
   refine ⟨_,rfl,l,ws,rfl,.inl ⟨bP.of h2,fun p hp=>?_⟩⟩
   exact q p ws _ ((show bb H ag from s2).trans (bY hp _)) (bp.of bo) (dw.mono (bY hp _))
 ·rintro σ ag sv sx aM ⟨v,ai,p,ys,az,cD,v2,gA,i,j,h1,h2,k,hS,aQ⟩
  exact ⟨v,ai,p,ys,az,cD,v2,gA,i,j,h1,h2,k,hS,aM _ _ aQ⟩
def aaU:dv:=fun ws n Q=>∃m:Int,ws=[.d (.int m)]/\0<=m/\m<=40/\Q (.d (bX (c9 m.toNat))) n
theorem aeA:c0 K (HN K) aaU:=fun aa H Q hz=>by
 obtain ⟨M,ws,n,aK,ok,r,⟨m,e,h0,h1,q⟩,k⟩:=hz
 subst e
 obtain ⟨v1,rfl,au⟩:=r.inv1
 rw[au.int_inv]
 exact ⟨m,rfl,h0,h1,fun p ws J s t d=>k.jq ok s (aS.bX t d) (xk _) q⟩
def aa9:iH:=fun ws n Q X=>∃(an:Option (Str×Int)) (m:Int) (x:Rat) (d:PyData),ws=[.d (.int m),.d (bj x),.d d]/\0<=m/\m<=1000/\bH 1000 x/\pk d/\vh m x d an/\(an=none->Q (.d (.bool true)) n)/\∀w k,an=some (w,k)->X "NoPaper" ["word","place"] [.str w,.int k] n
theorem rA:b0 ["n","share","thing","whole","primes","due","k","p"] ["n","share","thing"] (bu A4):=(by walk_at "sc")
theorem O6 (T:Txt K mg):eY P w K mg base "lets_beneath" ["n","share","thing"] 5 (jR K aa9):=by
 obtain ⟨ED,EB,FR,F5,dW⟩:=T.wH
 refine eY.fM T.P0 rA (fun ws n Q X h=>?_) (by walk_at "b3") (fun f a6 A outer s H E hr=>⟨_,_,(aV (c4 (qt (kE (a5 (OB T) hr (ae (af 2) aj)))) (aW (jL dW.s (ny dW) (hr.mono (by decide)) (dW.s.f.binds (by walk_at "b3")) jK (ae b5 (ae ay aj)))) c3)
   (aV (rV (af 2) (rQ (K:=K) (n:=2) rfl rfl (gL (dq (i:=3) rA.aT rfl (by walk_at "lc")) (gL (dq (i:=4) rA.aT rfl (by walk_at "lc")) nS))))
   (aV (ck (i:=5) rA.aT rfl (by walk_at "lc") (a5 (vz T) hr (ae (af 0) aj)))
   (aV (i8 ahi rfl (Cv (K:=K) rfl rfl T.vq (ae (af 4) aj)) (rQ (K:=K) (n:=2) rfl rfl (gL (dq (i:=6) rA.aT rfl (by walk_at "lc")) (gL (dq (i:=7) rA.aT rfl (by walk_at "lc")) nS))) (aW (c4 (gQ.pt (nZ (cn (Cn (K:=K) rfl hr) (af 7) (af 5) rfl) (o5 (gQ.pt (w6 (cn pb (af 6) ay (b6 _)) (wR (cn qF (af 7) (dx (iA (K:=K) rfl) (af 4) (a0 fc (af 6) ay) (fun _ _=>rfl)) (b6 _)))))))) (aW (jL dW.s (ny dW) (hr.mono (by decide)) (dW.s.f.binds (by walk_at "b3")) jK (ae b5 (ae (af 6) aj)))) c3)))
   (aV (c4 (cn (o9 (K:=K) rfl hr) (dp (kD (K:=K) rfl) rfl T.f3 gd (ae (af 4) aj)) (dp (kD (K:=K) rfl) rfl T.f3 gd (ae (af 5) aj)) (b6 _)) (aW (jL dW.s (ny dW) (hr.mono (by decide)) (dW.s.f.binds (by walk_at "b3")) jK (ae b5 (ae ay aj)))) c3)
   (aV (c4 (cn (o9 (K:=K) rfl hr) (a5 (Fn T) hr (ae (af 1) (ae (af 4) aj))) (cN (ae (af 3) (ae ay aj))) (b6 _)) (aW (jL dW.s (ny dW) (hr.mono (by decide)) (dW.s.f.binds (by walk_at "b3")) jK (ae b5 (ae ay aj)))) c3)
   (aW (bB lx)))))))),(b9 (eh (b:=false) (cL.x (r2 (qE (cA c0.refl (ak aw aN))))) (jJ (b:=false) dW (ak dB (ak ba aN))) eg)
   (b9 (Dv (b:=false) (a9.x aw) (r5 (lr i9 (lr i9 r6))))
   (b9 (eV (b:=false) (a9.x (cA E8 (ak aw aN))))
   (b9 (r1 (C2 (ak aw aN)) (r5 (lr i9 (lr i9 r6))) (eh (b:=false) (cL.x (qD (dC (bh (DV true) aw aw)) (abK (dC (bh xP aw ba)) (dC (bh En aw (bh iG aw (bh ja aw ba))))))) (jJ (b:=false) dW (ak dB (ak aw aN))) eg))
   (b9 (eh (b:=false) (cL.x (dC (bh ph (gX kK (ak aw aN)) (gX kK (ak aw aN))))) (jJ (b:=false) dW (ak dB (ak ba aN))) eg)
   (b9 (eh (b:=false) (cL.x (dC (bh ph (cA NY (ak aw (ak aw aN))) (d_ (ak aw (ak ba aN)))))) (jJ (b:=false) dW (ak dB (ak ba aN))) eg)
   (dA (b:=false) (a9.x n0)))))))),fun ws n Q X h=>?_⟩)
 ·obtain ⟨an,m,x,d,rfl,_⟩:=h
  rfl
 obtain ⟨an,m,x,d,rfl,m0,p1,ik,hs,Q0,q,fx⟩:=h
 refine ⟨d,rfl,hs,?_⟩
 rcases Q0 with ⟨e,aq⟩|⟨w,av,rfl,aq⟩
 ·rw[e]
  exact fx _ _ aq
 rw[aaE]
 refine sa rfl ?_
 refine ⟨m,rfl,m0,p1,?_⟩
 refine we ?_
 refine rW (fun i δ k=>k=n/\(∀j,j<i->j4 (dH m) av j=false)/\∃j1 yi,δ=[some (.d (.int m)),some (.d (bj x)),some (.d (.tuple [.int w,.tuple (av.map PyData.int)])),some (.d (.int w)),some (.d (.tuple (av.map PyData.int))),some (.d (.tuple ((dH m).map PyData.int))),j1,yi]) ⟨rfl,fun j hj=>absurd hj (ahe _),_,_,rfl⟩ (fun i d δ k R hd hp dF=>?_) (fun δ k hp=>?_)
 ·obtain ⟨rfl,hj,j1,yi,rfl⟩:=hp
  obtain ⟨hi,rfl⟩:=Je hd
  refine sa rfl ?_
  refine xp ?_
  have bad:j4 (dH m) av i=true->an=some (("prime":Str),(i:Int)):=fun h=>by rw[aq];unfold vr;rw[ac0 hi h hj]
  have good:j4 (dH m) av i=false->∀j,j<i+1->j4 (dH m) av j=false:=fun h j pV=>by
   by_cases z:j=i
   ·rw[z];exact h
   ·exact hj j ⋯
  cases c:(dH m).contains (av.getD i 0) with
  | false=>exact fx _ _ (bad (by unfold j4;rw[c];rfl))
  | true =>
   refine Ek (fun k0=>?_) (fun k0=>?_)
   ·refine iw ?_
    rw[show (i:Int)-1=((i-1:Nat):Int) by lia]
    refine i1 (o3 ⋯) ?_
    refine Ej (fun cB=>?_) (fun cB=>?_)
    ·exact fx _ _ (bad (by unfold j4;rw[c,afI (show 0<i by lia),afI cB];rfl))
    ·exact dF _ _ ⟨rfl,good (by unfold j4;rw[c,afJ (show ¬av.getD i 0<=av.getD (i-1) 0 by lia)];simp),_,_,rfl⟩
   ·exact dF _ _ ⟨rfl,good (by unfold j4;rw[c,afJ (show ¬0<i by lia)];rfl),_,_,rfl⟩
 ·obtain ⟨rfl,hj,j1,yi,rfl⟩:=hp
  rw[um,afG]at hj
  have FE:=Zm hj
  obtain ⟨RM,Rz⟩:=acZ FE
  unfold vr at aq
  rw[FE]at aq
  refine kp ?_
  refine kp ?_
  rw[afG,afG]
  refine Ei (fun c=>?_) (fun c=>?_)
  ·exact fx _ _ (aq.trans (afC ⋯))
  have cV:=(Dk (acs m) RM Rz).2 ⋯
  refine ⟨x,av,rfl,ik,by rw[cV];have:=acv m0 p1;lia,by rw[cV];exact Y0 m0 p1,?_⟩
  refine xy (y:=bj (w:Rat)) (je.bj _ _) ?_
  rw[K1]
  have iR:an=if gf x av=(w:Rat) then none else some (("sum":Str),0):=aq.trans (afD ⋯)
  by_cases cB:gf x av=(w:Rat)
  ·rw[afI cB]
   rw[afD cB]at iR
   exact q iR
  ·rw[afJ cB]
   rw[afC cB]at iR
   exact fx _ _ iR
def y8:PyData->Bool
 | .tuple ds=>(oH (.tuple ds)&&jT (ds.map cH))&&(decide (ds.length<2) || decide ((ds.map cH).getD 1 0<(ds.map cH).getD 0 0))
 | _=>false
def abB:dv:=fun ws n Q=>∃d,ws=[.d d]/\(∀ds,d=.tuple ds->ds.length<64)/\Q (.d (.bool (y8 d))) n
theorem Vs:b0 ["thing"] ["thing"] (bu BA):=(by walk_at "sc")
theorem Fv (T:Txt K mg):Def P w K mg base "goes_down" ["thing"] 5 (iF K abB):=by
 refine Def.fM T.Qy Vs (fun ws n Q h=>?_) (by walk_at "b1") (fun f a6 A outer s H E hr=>⟨_,_,(aW (bB (nV (a5 (Fx T) hr (ae (af 0) aj)) (nU (abW (l5 l9 (dp (kD (K:=K) rfl) rfl T.f3 gd (ae (af 0) aj)) ay (b6 _)) (nU (l5 pb (dx (iA (K:=K) rfl) (af 0) ay (fun _ _=>rfl)) (dx (iA (K:=K) rfl) (af 0) ay (fun _ _=>rfl)) (b6 _)))))))),(dA (b:=false) (a9.x (qr (cA c0.refl (ak aw aN)) (abI (bh qJ (gX kK (ak aw aN)) ba) (bh xP (bh iG aw ba) (bh iG aw ba)))))),fun ws n Q h=>?_⟩)
 ·obtain ⟨d,rfl,_⟩:=h
  rfl
 obtain ⟨d,rfl,hs,q⟩:=h
 refine ⟨d,rfl,hs,?_⟩
 cases d with
 | tuple ds =>
  have hl:=hs ds rfl
  have bD:Q (.d (.bool ((oH (.tuple ds)&&jT (ds.map cH))&&(decide (ds.length<2) || decide ((ds.map cH).getD 1 0<(ds.map cH).getD 0 0))))) n:=q
  show (match a4.d (.bool (oH (.tuple ds)&&jT (ds.map cH))) with|.d (.bool c)=>fo c _ _|_=>False)
  cases k8:(oH (.tuple ds)&&jT (ds.map cH)) with
  | false=>rw[k8]at bD;exact bD
  | true =>
   rw[k8,ah4]at bD
   rw[afM]at k8
   have h:(ds.all el&&iD (ds.map cH))=true:=k8.1
   rw[afM]at h
   have eA:=wX h.1
   have pJ:ds.length=(ds.map cH).length:=by rw[afG]
   generalize tb:ds.map cH=ns at eA bD pJ
   subst eA
   rw[pJ]at bD
   refine kp ?_
   rw[afG]
   refine sg (fun c=>?_) (fun c=>?_)
   ·rw[afI (show ns.length<2 by lia)]at bD;exact bD
   ·rw[afJ (show ¬ns.length<2 by lia)]at bD
    refine i1 (o3 (k:=0) ⋯) ?_
    refine i1 (o3 (k:=1) ⋯) ?_
    exact pg bD
 | _=>exact q
def LS:iH:=fun ws n Q X=>∃(m p r:Int) (d:PyData),ws=[.d (.int m),.d (.int p),.d (.int r),.d d]/\1<p/\p<=200/\1<=m/\(v9 m p r d=none->Q (.d (.bool true)) n)/\∀w,v9 m p r d=some w->X "NoPaper" ["word","place"] [.str w,.int 0] n
theorem Vr:b0 ["n","p","rest","thing"] ["n","p","rest","thing"] (bu Bz):=(by walk_at "sc")
theorem Pc (T:Txt K mg):eY P w K mg base "lets_rest" ["n","p","rest","thing"] 5 (jR K LS):=by
 obtain ⟨ED,EB,FR,F5,dW⟩:=T.wH
 refine eY.fM T.Qx Vr (fun ws n Q X h=>?_) (fun _ _ _ _ _ _ us hl=>match us,hl with|[_,_,_,_],_=>rfl) (fun f a6 A outer s H E hr=>⟨_,_,(aV (c4 (gQ.pt (nZ (qt (kE (a5 (vC T) hr (ae (af 3) aj)))) (nZ (cn l9 (af 3) ay (b6 _)) (o5 (cn pb (af 3) (a0 fc (af 1) ay) (b6 _)))))) (aW (jL dW.s (ny dW) (hr.mono (by decide)) (dW.s.f.binds (by walk_at "b3")) jK (ae b5 (ae ay aj)))) c3)
   (aV (c4 (cn (eW (K:=K) rfl hr) (a5 (vA T) hr (ae (af 0) (ae (af 1) (ae (af 3) aj)))) ay (b6 _)) (aW (jL dW.s (ny dW) (hr.mono (by decide)) (dW.s.f.binds (by walk_at "b3")) jK (ae b5 (ae ay aj)))) c3)
   (aV (c4 (cn (o9 (K:=K) rfl hr) (a5 (k7 T) hr (ae (a0 (nW (K:=K) rfl) (a5 (vA T) hr (ae (af 0) (ae (af 1) (ae (af 3) aj)))) (af 2)) (ae (af 1) aj))) (a5 (Fo T) hr (ae (af 0) (ae (af 1) (ae (af 3) aj)))) (b6 _)) (aW (jL dW.s (ny dW) (hr.mono (by decide)) (dW.s.f.binds (by walk_at "b3")) jK (ae b5 (ae ay aj)))) c3)
   (aW (bB lx))))),(b9 (eh (b:=false) (cL.x (qD (r2 (qE (cA Fb (ak aw aN)))) (qD (dC (bh qJ aw ba)) (dC (bh xP aw (bh ja aw ba)))))) (jJ (b:=false) dW (ak dB (ak ba aN))) eg)
   (b9 (eh (b:=false) (cL.x (dC (bh eX (cA vu (ak aw (ak aw (ak aw aN)))) ba))) (jJ (b:=false) dW (ak dB (ak ba aN))) eg)
   (b9 (eh (b:=false) (cL.x (dC (bh ph (cA q2 (ak (bh n2 (cA vu (ak aw (ak aw (ak aw aN)))) aw) (ak aw aN))) (cA E_ (ak aw (ak aw (ak aw aN))))))) (jJ (b:=false) dW (ak dB (ak ba aN))) eg)
   (dA (b:=false) (a9.x n0))))),fun ws n Q X h=>?_⟩)
 ·obtain ⟨m,p,r,d,rfl,_⟩:=h
  rfl
 obtain ⟨m,p,r,d,rfl,hp,eK,hm,q,fx⟩:=h
 refine ⟨d,rfl,?_⟩
 cases hw:el d with
 | false=>exact fx _ (acD hw)
 | true=>
 obtain ⟨z,rfl⟩:=Kr hw
 have x0:=agb (z^m.toNat) (show p≠0 by lia)
 have fC:=aga (z^m.toNat) (show 0<p by lia)
 have wK:=agb (z^m.toNat%p-1) (show p≠0 by lia)
 have y1:=aga (z^m.toNat%p-1) (show 0<p by lia)
 have p9:∀w,ro m p r z=some w->X "NoPaper" ["word","place"] [.str w,.int 0] n:=fx
 have bD:ro m p r z=none->Q (.d (.bool true)) n:=q
 unfold ro at p9 bD
 refine sg (fun c=>?_) (fun c=>?_)
 ·exact p9 _ (by rw[afD (.inl c)])
 refine iw ?_
 refine Ek (fun g=>?_) (fun g=>?_)
 ·exact p9 _ (by rw[afD (.inr g)])
 rw[afC (show ¬(z<2\/p-1<z) by lia)]at bD
 simp only[afC (show ¬(z<2\/p-1<z) by lia)]at p9
 refine ⟨m,p,z,rfl,hp,by lia,by lia,?_⟩
 refine n4 (fun f=>?_) (fun f=>?_)
 ·exact p9 _ (by rw[afD ((uw hp x0 fC).mp f)])
 have f2:¬z^m.toNat%p=1:=fun h=>f ((uw hp x0 fC).mpr h)
 rw[afC f2]at bD
 simp only[afC f2]at p9
 refine ⟨m,p,z,rfl,hp,by lia,by lia,?_⟩
 refine mT (.inl ⟨by lia,by lia⟩) ?_
 refine ⟨_,p,rfl,by lia,?_⟩
 refine ⟨m,p,z,rfl,hp,eK,hm,by lia,by lia,?_⟩
 have iff:=YJ (z^m.toNat%p-1) r (z^(m-1).toNat%p*mY m p z) p
 refine Ei (fun e=>?_) (fun e=>?_)
 ·exact p9 _ (by rw[afC fun h=>e (iff.mpr h)])
 ·exact bD (by rw[afD (iff.mp e)])
def aaS:iH:=fun ws n Q X=>∃m p:Int,ws=[.d (.int m),.d (.int p)]/\p∈mD/\3<=p/\1<=m/\(m%(p-1)=0->X "NoRest" ["number","prime"] [.int m,.int p] n)/\(m%(p-1)≠0->∀a:Int,ps m p a->Q (.d (.int (FZ m p a))) n)
theorem Hv:b0 ["n","p","a"] ["n","p"] (bu AH):=(by walk_at "sc")
theorem O4 (T:Txt K mg):eY P w K mg base "far_rest" ["n","p"] 5 (jR K aaS):=by
 refine eY.fM T.PD Hv (fun ws n Q X h=>?_) (by walk_at "b2") (fun f a6 A outer s H E hr=>⟨_,_,(aV (ck (i:=2) Hv.aT rfl (by walk_at "lc") (lq (Pa T) hr mN (ae (af 0) (ae (af 1) aj))))
   (aW (bB (a5 (k7 T) hr (ae (a0 (nW (K:=K) rfl) (a5 (Fo T) hr (ae (af 0) (ae (af 1) (ae (af 2) aj)))) (a5 (Fu T) hr (ae (a5 (vA T) hr (ae (af 0) (ae (af 1) (ae (af 2) aj)))) (ae (af 1) aj)))) (ae (af 1) aj)))))),(b9 (eV (b:=false) (mM jW.refl (e7.x (ak aw (ak aw aN)))))
   (dA (b:=false) (a9.x (cA q2 (ak (bh n2 (cA E_ (ak aw (ak aw (ak aw aN)))) (cA c0.refl (ak (cA vu (ak aw (ak aw (ak aw aN)))) (ak aw aN)))) (ak aw aN)))))),fun ws n Q X h=>?_⟩)
 ·obtain ⟨m,p,rfl,_⟩:=h
  rfl
 obtain ⟨m,p,rfl,hp,fO,hm,fx,q⟩:=h
 obtain ⟨dG,b8⟩:=uL p hp
 refine ⟨m,p,rfl,hp,fO,by lia,fx,fun h0 a ha=>?_⟩
 obtain ⟨a2,ap,an,_⟩:=ha
 have x0:=agb (a^m.toNat) (show p≠0 by lia)
 have fC:=aga (a^m.toNat) (show 0<p by lia)
 have wK:=agb (a^(m-1).toNat%p*mY m p a) (show p≠0 by lia)
 have y1:=aga (a^(m-1).toNat%p*mY m p a) (show 0<p by lia)
 have fn:¬(a^m.toNat%p-1)%p=0:=fun h=>an ((uw ⋯ x0 fC).mp h)
 refine ⟨m,p,a,rfl,by lia,by lia,hm,by lia,by lia,?_⟩
 refine ⟨m,p,a,rfl,by lia,by lia,by lia,?_⟩
 refine ⟨_,p,rfl,by lia,by lia,by rw[Int.emod_emod];exact fn,?_⟩
 refine mT (.inl ⟨by lia,by lia⟩) ?_
 refine ⟨_,p,rfl,by lia,?_⟩
 exact q h0 a ⟨a2,ap,an,by assumption⟩
def HM (K:ajA):b_:=fun aa H Q _=>∃(p:Addr) (ws:List V) (rs G:List Rat) (E:Int) (c:Nat),aa=[.ref p]/\bp K H p ws/\bE K H ws (rs.map bj)/\rs.length<=40/\G.length=rs.length/\(∀t,jb 1 1 G t+G.getD t 0=rs.getD t 0)/\(∀r∈rs,bH 4200 r)/\E≠0/\cb c E/\(∀r∈G,es E c r)/\c<=2000/\∀dy kz J,bb H J->bp K J dy kz->bE K J kz (G.map bj)->Q (.ref dy) J
theorem BI:b0 ["poly","numbers","k"] ["poly"] (bu AG):=(by walk_at "sc")
theorem Oy (T:Txt K mg):Def P w K mg base "signed" ["poly"] 5 (HM K):=by
 refine Def.c8 T.PC BI (fun aa H Q E h=>?_) (by walk_at "b1") (fun f a6 A outer s H aa Q E hr h=>?_)
 ·obtain ⟨p,ws,rs,G,E,c,rfl,_⟩:=h
  rfl
 obtain ⟨p,ws,rs,G,E,c,rfl,cG,gC,hlen,gl,sX,hb,fV,qY,dN,hc,q⟩:=h
 obtain ⟨jn,lW,l3⟩:=T.q1
 refine ⟨_,(aV (ck (i:=1) BI.aT rfl (by walk_at "lc") (a0 Lc (jQ (ae (jN (v:=.ref jn) rfl lW rfl) aj)) (dp l4 rfl T.f3 gd (ae (af 0) aj))))
   (aV (i8 agk rfl (Xk rfl T.iO (ae (a0 fc (dp l4 rfl T.f3 gd (ae (af 0) aj)) ay) (ae (kI kG ay) (ae (kI kG ay) aj)))) (dq (i:=2) BI.aT rfl (by walk_at "lc")) (aW (rV (a5 (ou T) hr (ae (a5 (OU T) hr (ae (dx fv (af 0) (af 2) (fun _ _=>rfl)) (ae (a5 (OF T) hr (ae (af 1) (ae (af 2) aj))) aj))) (ae (a5 (ot T) hr (ae ay (ae ay aj))) aj))) (ZM (af 1) (af 2) YI))))
   (aW (bB (kC nL rfl T.kY lp (ae (af 1) aj)))))),?_⟩
 have hsz:sizeLine=16777216:=afW
 have wl:ws.length=rs.length:=by have:=gC.length;simpa using this
 refine ⟨my,fun jw f0=>?_⟩
 have gw:=bY f0 (.lst [.ref jn])
 refine ⟨_,rfl,p,ws,rfl,.inr (gw.hh cG),?_⟩
 rw[wl]
 refine ⟨jw,_,_,rfl,rfl,bo,by lia,by lia,by show 1*((rs.length:Nat):Int).toNat<=_;lia,fun L yV=>?_⟩
 rw[Eh,show ((rs.length:Nat):Int).toNat=rs.length by lia]
 have gJ:=bY yV (.lst (List.replicate rs.length (V.ref jn)))
 have s1:=gw.trans gJ
 have Pw:H L=none:=by
  cases e:H L with
  | none=>rfl
  | some o=>rw[gw _ _ e]at yV;cases yV
 refine ⟨_,rfl,p,ws,rfl,.inr (s1.hh cG),?_⟩
 rw[wl]
 refine ⟨_,_,rfl,rfl,1,rfl,1,rfl,?_⟩
 refine ⟨((rs.length:Nat):Int)-1,-1,-1,rfl,by decide,⟨by decide,by decide⟩,⟨by lia,by lia,by decide,by decide⟩,?_⟩
 have Pq:(Builtin.Range.rangeSize (((rs.length:Nat):Int)-1) (-1) (-1)).toNat=rs.length:=by
  unfold Builtin.Range.rangeSize
  simp
  lia
 rw[Pq]
 refine Xs (fun i σ ag=>∃(z:Option V) (us:List V),σ=[some (.ref p),some (.ref L),z]/\(∀b o,H b=some o->ag b=some o)/\ag L=some (.lst us)/\us.length=rs.length/\bE K ag us ((tab rs.length fun t=>if rs.length-i<=t then G.getD t 0 else 0).map bj)) ⟨none,_,rfl,fun b o e=>s1 _ _ e,bo,by rw[agX],?_⟩ ?_ ?_
 ·have e:tab rs.length (fun t=>if rs.length-0<=t then G.getD t 0 else 0)=List.replicate rs.length 0:=by
   have:=Ct (n:=rs.length) (f:=fun t=>if rs.length-0<=t then G.getD t 0 else 0) (g:=fun _=>0) fun i hi=>by rw[afC ⋯]
   rw[this]
   unfold tab
   exact (List.map_eq_replicate_iff.mpr fun t _=>rfl).trans (by rw[agj])
  rw[e,Dc]
  exact bE.rep (aS.con l3 rfl rfl _) _
 ·rintro i σ ag hi ⟨z,us,rfl,s2,vM,ul,mn⟩
  have qc:bb H ag:=s2
  obtain ⟨k,hk⟩:∃k:Nat,rs.length-1-i=k:=⟨_,rfl⟩
  have nk:((rs.length:Nat):Int)-1+(i:Int) * -1=(k:Int):=by lia
  rw[nk]
  have hw:ws[k]?=some (ws[k]'⋯):=afQ ⋯
  have aq:=mQ hw
  have pI:=(gC.share hw).2
  have NP:∀r∈tab rs.length (fun t=>if rs.length-i<=t then G.getD t 0 else 0),es E c r:=fun r hr=>by
   obtain ⟨j,_,rfl⟩:=Zx hr
   split
   ·exact uz dN j
   ·exact es.zero.mono ⋯
  have Cd:(tab rs.length (fun t=>if rs.length-i<=t then G.getD t 0 else 0)).length=rs.length:=qp _ _
  have Ph:above (tab rs.length (fun t=>if rs.length-i<=t then G.getD t 0 else 0)) k (rs.length-1-k)=above G k (G.length-1-k):=by
   unfold above
   rw[gl]
   refine rM fun j hj=>?_
   rw[Zy ⋯,afD ⋯]
  refine ⟨_,rfl,_,rfl,p,ws,_,_,rfl,rfl,qc.hh cG,aq,?_⟩
  refine ⟨_,rfl,_,rfl,L,us,_,(k:Int),E,c,rfl,vM,mn,by lia,by rw[Cd];lia,by rw[Cd];lia,fV,qY,NP,by lia,fun gW b3 s3 ec=>?_⟩
  rw[Cd,show ((k:Nat):Int).toNat=k by lia,Ph]at ec
  have yn:bH 4200 (above G k (G.length-1-k)):=(w5 fV dN (G.length-1-k) ⋯).bs fV (qY.mono (show c<=4200 by lia)) ⋯
  have U3:=qc.trans s3
  have lL:es E (62+c+40) (above G k (G.length-1-k)):=(w5 fV dN (G.length-1-k) ⋯).mono ⋯
  refine ⟨_,_,_,_,rfl,pI.mono U3,ec,(hb _ (rO ⋯)).mono (by decide),yn.mono (by decide),fun v4 bK s4 fJ=>?_⟩
  have Pg:(rs.getD k 0-above G k (G.length-1-k))*Rat.divInt 1 2=G.getD k 0:=by
   have h1:=sX k
   rw[I2 G ⋯]at h1
   have h2:Rat.divInt 1 2=1/2:=by decide +kernel
   rw[h2];grind
  have NF:bH 4300 (rs.getD k 0-above G k (G.length-1-k)):=by
   have h1:=sX k
   rw[I2 G ⋯]at h1
   have az:rs.getD k 0-above G k (G.length-1-k)=G.getD k 0+G.getD k 0:=by grind
   rw[az]
   exact ((es.add fV (uz dN k) (uz dN k)).bs fV (qY.mono (show c<=4300 by lia)) ⋯)
  refine ⟨1,2,rfl,by decide,by decide,fun afp cy s5 ni=>?_⟩
  refine ⟨_,_,_,_,rfl,fJ.mono s5,ni,NF.mono (by decide),(bH.divInt (m:=2) (by decide) (by decide) (by decide)).mono (by decide),fun v6 hQ jC vw=>?_⟩
  rw[Pg]at vw
  have Ax:=s3.trans (s4.trans (s5.trans jC))
  have Gh:=Ax _ _ vM
  refine ⟨_,rfl,_,rfl,L,us,_,k,rfl,rfl,Gh,by unfold ki;rw[afD ⋯,afD ⋯];rfl,?_⟩
  have cR:lA hQ (upd hQ L (.lst (us.set k v6))):=wN Gh
  refine ⟨_,us.set k v6,rfl,fun b o e=>?_,bo,by rw[List.length_set];exact ul,?_⟩
  ·rw[br (eN e Pw)];exact Ax _ _ (s2 _ _ e)
  ·have e:tab rs.length (fun t=>if rs.length-(i+1)<=t then G.getD t 0 else 0)=(tab rs.length (fun t=>if rs.length-i<=t then G.getD t 0 else 0)).set k (G.getD k 0):=by
    rw[Zw]
    refine Ct fun t aH=>?_
    by_cases h1:t=k
    ·subst h1
     rw[afD rfl,afD ⋯]
    ·rw[afC h1]
     by_cases h2:rs.length-i<=t
     ·rw[afD h2,afD ⋯]
     ·rw[afC h2,afC ⋯]
   rw[e,List.map_set]
   exact ((mn.mono Ax).zR cR).set k (vw.zQ cR)
 ·rintro σ ag ⟨z,us,rfl,s2,vM,ul,mn⟩
  have e:tab rs.length (fun t=>if rs.length-rs.length<=t then G.getD t 0 else 0)=G:=by
   have h1:=Ct (n:=rs.length) (f:=fun t=>if rs.length-rs.length<=t then G.getD t 0 else 0) (g:=fun t=>G.getD t 0) fun i hi=>by rw[afD ⋯]
   rw[h1,<-gl,abE]
  rw[e]at mn
  refine ⟨_,rfl,L,us,rfl,.inl ⟨bP.of vM,fun t aH=>?_⟩⟩
  have st:=bY aH (.tup us)
  exact q _ _ _ (fun b o e=>st _ _ (s2 _ _ e)) (bp.of bo) (mn.mono st)
def aaR:dv:=fun ws n Q=>∃(rs:List Rat) (D:Int) (c:Nat),ws=[.d (bX rs)]/\rs.length<=21/\D≠0/\cb c D/\(∀r∈rs,es D c r)/\c<=1500/\Q (.d (bX (BR rs rs.length))) n
def H5 (K:ajA):b_:=fun aa H Q _=>∃(n:Int),aa=[.int n]/\0<=n/\n<=40/\∀v J,bb H J->aS K J v (bj ((c9 n.toNat).getD n.toNat 0))->Q v J
theorem Ve:b0 ["n"] ["n"] (bu A9):=(by walk_at "sc")
theorem yD (T:Txt K mg):Def P w K mg base "number_at" ["n"] 6 (H5 K):=by
 refine Def.c8 T.P6 Ve (fun aa H Q E h=>?_) (by walk_at "b1") (fun f a6 A outer s H aa Q E hr h=>?_)
 ·obtain ⟨n,rfl,_⟩:=h
  rfl
 obtain ⟨n,rfl,d0,ax,q⟩:=h
 refine ⟨_,(aW (bB (dx fv (a5 (Oz T) hr (ae (af 0) aj)) (af 0) (fun _ _=>rfl)))),?_⟩
 refine ⟨_,rfl,n,rfl,d0,ax,fun p ws ag s2 cj dw=>?_⟩
 have wl:ws.length=n.toNat+1:=by have:=dw.length;rw[afG,nQ]at this;exact this
 have hw:ws[n.toNat]?=some (ws[n.toNat]'⋯):=afQ ⋯
 have aq:=mQ (xs:=ws) (j:=n.toNat) hw
 rw[show ((n.toNat:Nat):Int)=n by lia]at aq
 refine ⟨_,rfl,p,ws,n,_,rfl,rfl,cj,aq,?_⟩
 exact q _ ag s2 (dw.share hw).2
def abd:dv:=fun ws n Q=>∃m:Int,ws=[.d (.int m)]/\0<=m/\m<=40/\Q (.d (bj ((c9 m.toNat).getD m.toNat 0))) n
theorem N0:c0 K (H5 K) abd:=fun aa H Q hz=>by
 obtain ⟨M,ws,n,aK,ok,r,⟨m,e,h0,h1,q⟩,k⟩:=hz
 subst e
 obtain ⟨v1,rfl,au⟩:=r.inv1
 rw[au.int_inv]
 exact ⟨m,rfl,h0,h1,fun v J s d=>k.jq ok s d (uH _) q⟩
def zT:PyData->Nat
 | .tuple ds=>ds.length
 | _=>0
theorem Iu (r:ajH):(r.map PyData.int).map cH=r:=by
 rw[agN]
 exact (ag4 fun i _=>rfl).trans (ah2 r)
theorem FG (h:iD ns=true):∀x∈ns,0<=x/\x<(ns.length:Int):=fun x hx=>by
 have sub:∀a∈ll ns.length,a∈ns:=fun a ha=>by
  obtain ⟨h0,h1⟩:=tQ.mp ha
  have:=afR.mp h a.toNat (afU.mpr ⋯)
  rw[show ((a.toNat:Nat):Int)=a by lia]at this
  exact agp.mp this
 have b8:=CG ((uK ns.length).imp fun h=>aiD h) sub (by rw[C6];exact afE _)
 exact tQ.mp (b8.symm.subset hx)
theorem Pj (h:iD ns=true){i j:Nat}(hi:i<ns.length)(hj:j<ns.length)(hij:i≠j):ns.getD i 0≠ns.getD j 0:=by
 have sub:∀a∈ll ns.length,a∈ns:=fun a ha=>by
  obtain ⟨h0,h1⟩:=tQ.mp ha
  have:=afR.mp h a.toNat (afU.mpr ⋯)
  rw[show ((a.toNat:Nat):Int)=a by lia]at this
  exact agp.mp this
 have b8:=CG ((uK ns.length).imp fun h=>aiD h) sub (by rw[C6];exact afE _)
 have aT:ns.Nodup:=b8.nodup_iff.mp ((uK ns.length).imp fun h=>aiD h)
 rw[afO,afO,afQ hi,afQ hj]
 intro z
 exact hij ((List.getElem_inj aT).mp z)
theorem QR (d:PyData):y8 d=qH d:=by
 cases d with
 | tuple ds =>
  show (((ds.all el&&iD (ds.map cH))&&jT (ds.map cH))&&(decide (ds.length<2) || decide ((ds.map cH).getD 1 0<(ds.map cH).getD 0 0)))=(ds.all el&&((iD (ds.map cH)&&si (ds.map cH))&&(decide ((ds.map cH).length<2) || decide ((ds.map cH).getD 1 0<(ds.map cH).getD 0 0))))
  rw[afG]
  cases hw:ds.all el with
  | false=>rfl
  | true =>
   cases he:iD (ds.map cH) with
   | false=>rfl
   | true =>
    have:jT (ds.map cH)=si (ds.map cH):=by
     unfold jT si
     rw[agO,afR,afR]
     refine forall_congr' fun k=>forall_congr' fun hk=>?_
     have hk:=afU.mp hk
     have ne:=Pj he (i:=k+1) (j:=k+2) ⋯ ⋯ ⋯
     have e:decide ((ds.map cH).getD (k+2) 0<(ds.map cH).getD (k+1) 0)=!decide ((ds.map cH).getD (k+1) 0<(ds.map cH).getD (k+2) 0):=by
      by_cases c:(ds.map cH).getD (k+1) 0<(ds.map cH).getD (k+2) 0
      ·rw[afI c,afJ ⋯];rfl
      ·rw[afJ c,afI ⋯];rfl
     rw[e]
     cases decide ((ds.map cH).getD k 0<(ds.map cH).getD (k+1) 0)<;>cases decide ((ds.map cH).getD (k+1) 0<(ds.map cH).getD (k+2) 0)<;>decide
    rw[this];rfl
 | _=>rfl
def ir (m:Nat)(r:ajH):Nat->Int
 | 0=>0
 | i+1=>ir m r i+cF (g7 (d9 m) m (r.take i)) (r.getD i 0).toNat
def tL:PyData->Int
 | .tuple ds=>ir ds.length (ds.map cH) ds.length
 | _=>0
def abn:iH:=fun ws n Q X=>∃d,ws=[.d d]/\(∀ds,d=.tuple ds->ds.length<64)/\((qH d&&decide (zT d<=20))=true->Q (.d (.int (tL d))) n)/\((qH d&&decide (zT d<=20))=false->X "NoTurn" ["word","thing"] [.str ("row":Str),d] n)
theorem oL:b0 ["thing","n","table","place","k","number","lesser"] ["thing"] (bu Bj):=(by walk_at "sc")
theorem O9 (T:Txt K mg):eY P w K mg base "place_of" ["thing"] 6 (jR K abn):=by
 obtain ⟨_,SS⟩:=T.NR
 obtain ⟨MV,MT,Pu,QH,m6⟩:=T.Cc
 refine eY.fM T.Qg oL (fun ws n Q X h=>?_) (by walk_at "b1") (fun f a6 A outer s H E hr=>⟨_,_,(aV (c4 (gQ.pt (nZ (qt (kE (a5 (Fv T) hr (ae (af 0) aj)))) (o5 (cn pb (dp (kD (K:=K) rfl) rfl T.f3 gd (ae (af 0) aj)) (jN (v:=.int (20)) rfl SS ⟨_,rfl⟩) (b6 _))))) (aW (jL m6.s (GL m6) (hr.mono (by decide)) (m6.s.f.binds (by walk_at "b3")) jK (ae b5 (ae (af 0) aj)))) c3)
   (aV (ck (i:=1) oL.aT rfl (by walk_at "lc") (dp (kD (K:=K) rfl) rfl T.f3 gd (ae (af 0) aj)))
   (aV (ck (i:=2) oL.aT rfl (by walk_at "lc") (a5 (vB T) hr (ae (af 1) aj)))
   (aV (ck (i:=3) oL.aT rfl (by walk_at "lc") ay)
   (aV (i8 ahi rfl (Cv (K:=K) rfl rfl T.vq (ae (af 0) aj)) (rQ (K:=K) (n:=2) rfl rfl (gL (dq (i:=4) oL.aT rfl (by walk_at "lc")) (gL (dq (i:=5) oL.aT rfl (by walk_at "lc")) nS))) (aW (i8 ahi rfl (nN rfl T.iO (ae (af 5) aj)) (dq (i:=6) oL.aT rfl (by walk_at "lc")) (aW (l6 (i:=3) oL.aT rfl (by walk_at "lc") (a5 (yB T) hr (ae (af 2) (ae (af 1) (ae (ui (K0 (K:=K) rfl) (af 0) ur (qm (af 4))) (ae (af 6) aj))))) uP)))))
   (aW (bB (af 3)))))))),(b9 (eh (b:=false) (cL.x (qD (r2 (qE (cA c0.refl (ak aw aN)))) (dC (bh xP (gX kK (ak aw aN)) ba)))) (jJ (b:=false) m6 (ak dB (ak aw aN))) eg)
   (b9 (eV (b:=false) (a9.x (gX kK (ak aw aN))))
   (b9 (eV (b:=false) (a9.x (cA yt (ak aw aN))))
   (b9 (eV (b:=false) (a9.x ba))
   (b9 (r1 (C2 (ak aw aN)) (r5 (lr i9 (lr i9 r6))) (r1 (rT (ak aw aN)) i9 (xn (b:=false) (a9.x (cA c0.refl (ak aw (ak aw (ak (L1 aw I1 (Kb aw)) (ak aw aN)))))))))
   (dA (b:=false) (a9.x aw))))))),fun ws n Q X h=>?_⟩)
 ·obtain ⟨d,rfl,_⟩:=h
  rfl
 obtain ⟨d,rfl,hs,q,fx⟩:=h
 refine ⟨d,rfl,hs,?_⟩
 rw[QR]
 cases hd:qH d with
 | false=>exact fx (by rw[hd];rfl)
 | true =>
  cases d with
  | tuple ds =>
   have hw:ds.all el=true/\iD (ds.map cH)=true:=by
    have h':(ds.all el&&((iD (ds.map cH)&&si (ds.map cH))&&_))=true:=hd
    simp only[afM]at h'
    exact ⟨h'.1,h'.2.1.1⟩
   refine kp ?_
   refine Ek (fun c=>?_) (fun c=>?_)
   ·exact fx (by rw[hd];show (true&&decide (ds.length<=20))=false;rw[afJ ⋯];rfl)
   have bD:=q (by rw[hd];show (true&&decide (ds.length<=20))=true;rw[afI ⋯];rfl)
   obtain ⟨r,te,vO⟩:∃r:List Int,ds=r.map PyData.int/\∀x∈r,0<=x/\x<(r.length:Int):=⟨ds.map cH,wX hw.1,FG hw.2⟩
   subst te
   rw[afG]at c
   refine kp ?_
   rw[afG]
   obtain ⟨m,hm⟩:∃m,r.length=m:=⟨_,rfl⟩
   rw[hm]
   refine ⟨(m:Int),rfl,by lia,by lia,?_⟩
   rw[ago,LU]
   refine we ?_
   refine rW (fun i δ k=>k=n/\∃(yg yh j1:Option a4),δ=[some (.d (dr r)),some (.d (.int (m:Int))),some (.d (.tuple ((d9 m).map dr))),some (.d (.int (ir m r i))),yg,yh,j1]) ⟨rfl,_,_,_,rfl⟩ (fun i d δ k R hd ju dF=>?_) (fun δ k ju=>?_)
   ·obtain ⟨rfl,yg,yh,j1,rfl⟩:=ju
    obtain ⟨hi,rfl⟩:=Je hd
    refine sa rfl ?_
    have RO:=vO (r.getD i 0) (by rw[afO,afQ hi];exact ag1 hi)
    obtain ⟨x,hx⟩:∃x:Nat,r.getD i 0=(x:Int):=⟨(r.getD i 0).toNat,by lia⟩
    rw[hx]at RO ⊢
    refine ⟨⟨by lia,by lia⟩,?_⟩
    rw[ago]
    refine rW (fun j δ cO=>cO=k/\∃(j1:Option a4),δ=[some (.d (dr r)),some (.d (.int (m:Int))),some (.d (.tuple ((d9 m).map dr))),some (.d (.int (ir m r i+cF (g7 (d9 m) m (r.take i)) j))),some (.d (.int (i:Int))),some (.d (.int (x:Int))),j1]) ⟨rfl,j1,by rw[show cF (g7 (d9 m) m (r.take i)) 0=0 from rfl,ahh];rfl⟩ (fun j d δ cO dV hd eK zd=>?_) (fun δ cO eK=>?_)
    ·obtain ⟨rfl,j1,rfl⟩:=eK
     obtain ⟨hj,rfl⟩:=o1 hd
     rw[ahg]
     refine Ap ?_
     rw[KI,<-List.map_take]
     refine ⟨d9 m,m,r.take i,(j:Int),rfl,by lia,by rw[ahm];lia,DE ⋯,?_⟩
     refine zd _ _ ⟨rfl,some (.d (.int (j:Int))),?_⟩
     rw[show ir m r i+cF (g7 (d9 m) m (r.take i)) (j+1)=ir m r i+cF (g7 (d9 m) m (r.take i)) j+g7 (d9 m) m (r.take i) (j:Int) from (Int.add_assoc _ _ _).symm];rfl
    ·obtain ⟨rfl,j1,rfl⟩:=eK
     refine dF _ _ ⟨rfl,some (.d (.int (i:Int))),some (.d (.int (x:Int))),j1,?_⟩
     rw[nR,show ir m r (i+1)=ir m r i+cF (g7 (d9 m) m (r.take i)) (r.getD i 0).toNat from rfl,hx,ago]
   ·obtain ⟨rfl,yg,yh,j1,rfl⟩:=ju
    have e:tL (.tuple (r.map PyData.int))=ir m r m:=by
     show ir (r.map PyData.int).length ((r.map PyData.int).map cH) (r.map PyData.int).length=_
     rw[afG,Iu,hm]
    rw[e]at bD
    rw[um,afG,hm]
    exact bD
  | _=>cases hd
def VM (K:ajA):b_:=fun aa H Q _=>∃(n:Int),aa=[.int n]/\0<=n/\n<=20/\∀dy kz J,bb H J->bp K J dy kz->bE K J kz ((eU n.toNat).map bj)->Q (.ref dy) J
theorem U5:b0 ["n"] ["n"] (bu AE):=(by walk_at "sc")
theorem Ow (T:Txt K mg):Def P w K mg base "turn_poly" ["n"] 6 (VM K):=by
 refine Def.c8 T.PA U5 (fun aa H Q E h=>?_) (by walk_at "b1") (fun f a6 A outer s H aa Q E hr h=>?_)
 ·obtain ⟨n,rfl,_⟩:=h
  rfl
 obtain ⟨n,rfl,d0,aeY,q⟩:=h
 refine ⟨_,(aW (bB (a5 (Oy T) hr (ae (a5 (OK T) hr (ae (a5 (OL T) hr (ae (af 0) aj)) (ae (cN (ae ay (ae ay aj))) aj))) aj)))),?_⟩
 obtain ⟨dJ,cB,j6,sJ,_⟩:=KV (n:=n.toNat) ⋯
 refine ⟨_,rfl,n,rfl,d0,by lia,fun v H1 s1 eH=>?_⟩
 obtain ⟨p,ws,rfl,dm,eI⟩:=eH.fS
 refine ⟨jx,fun b8 f2=>?_⟩
 have eM:=bY f2 (.tup [.int 2,.int 1])
 have aQ:(List.replicate n.toNat (0:Rat)++[1]).length=n.toNat+1:=by rw[afZ,agX];rfl
 refine ⟨p,ws,_,_,2,rfl,eM.hh dm,eI.mono eM,by lia,aS.oO (q:=2) bo rfl rfl,⟨by decide,by decide⟩,fun r hr=>((ab_ n.toNat r hr).bs (by decide) (by decide) (afE _)).mono (by decide),fun fO w3 b3 s3 t3 ec=>?_⟩
 have e:jU ((List.replicate n.toNat (0:Rat)++[1]).map (·*2))=List.replicate n.toNat (0:Rat)++[2]:=by
  have em:(List.replicate n.toNat (0:Rat)++[1]).map (·*2)=List.replicate n.toNat (0:Rat)++[2]:=by
   rw[af9,Dc]
   have h0:(0:Rat)*2=0:=by grind
   have h1:(1:Rat)*2=2:=by grind
   rw[h0,af8,agt,h1]
  rw[em]
  refine Xi ?_
  unfold DC
  have az:(List.replicate n.toNat (0:Rat)++[2]).getD ((List.replicate n.toNat (0:Rat)++[2]).length-1) 0=2:=by
   rw[afZ,agX]
   show (List.replicate n.toNat (0:Rat)++[2]).getD (n.toNat+1-1) 0=2
   rw[ajf,afO,ajm (by rw[agX];lia),agX,ahQ];rfl
  rw[az];simp
 rw[e]at ec
 have hl:(List.replicate n.toNat (0:Rat)++[2]).length=n.toNat+1:=by rw[afZ,agX];rfl
 refine ⟨fO,w3,_,eU n.toNat,2097152,90,rfl,t3,ec,by lia,by lia,dJ,fun r hr=>?_,by decide,by decide,sJ,by decide,fun tJ w4 bK s4 gu fJ=>?_⟩
 ·rcases agn.mp hr with h|h
  ·rw[(List.mem_replicate.mp h).2];exact bH.zero.mono (by decide)
  ·rw[af2.mp h];exact ⟨by decide,by decide⟩
 ·exact q tJ w4 bK (s1.trans (eM.trans (s3.trans s4))) gu fJ
def Ie (K:ajA):b_:=fun aa H Q _=>∃n:Int,aa=[.int n]/\0<=n/\n<=40/\∀J,bb H J->Q (.int (gf ((c9 n.toNat).getD n.toNat 0) (dH n)).num) J
theorem Vo:b0 ["n"] ["n"] (bu Bp):=(by walk_at "sc")
theorem Fs (T:Txt K mg):Def P w K mg base "whole_at" ["n"] 7 (Ie K):=by
 refine Def.c8 T.Qm Vo (fun aa H Q E h=>?_) (by walk_at "b1") (fun f a6 A outer s H aa Q E hr h=>?_)
 ·obtain ⟨n,rfl,_⟩:=h
  rfl
 obtain ⟨n,rfl,d0,ax,q⟩:=h
 refine ⟨_,(aW (bB (a5 (yF T) hr (ae (a5 (Fn T) hr (ae (a5 (yD T) hr (ae (af 0) aj)) (ae (a5 (vz T) hr (ae (af 0) aj)) aj))) aj)))),?_⟩
 refine ⟨_,rfl,n,rfl,d0,ax,fun v H1 s1 eH=>?_⟩
 refine ⟨_,rfl,n,rfl,d0,by lia,fun p ag s2 cj=>?_⟩
 have hm:∀p∈dH n,2<=p/\p<1024:=fun p hp=>by have:=C_ hp;lia
 have hlen:(dH n).length<=50:=by
  have e:=DA (n:=n.toNat) ⋯
  rw[show ((n.toNat:Nat):Int)=n by lia]at e
  rw[e]
  have key:∀k,k<41->(tK k).length<=50:=by decide +kernel
  exact key _ ⋯
 refine ⟨v,_,p,_,rfl,eH.mono s2,aaD (xx ⋯) (by decide) _,cj,hlen,hm,fun gW b3 s3 ec=>?_⟩
 refine ⟨gW,_,rfl,ec,?_⟩
 have hw:=Xy (n:=n.toNat) ⋯
 rw[show ((n.toNat:Nat):Int)=n by lia]at hw
 rw[afD (by rw[hw];rfl)]
 exact q _ (s1.trans (s2.trans s3))
def abu:dv:=fun ws n Q=>∃m:Int,ws=[.d (.int m)]/\0<=m/\m<=40/\Q (.d (.int (gf ((c9 m.toNat).getD m.toNat 0) (dH m)).num)) n
theorem N2:c0 K (Ie K) abu:=fun aa H Q hz=>by
 obtain ⟨M,ws,n,aK,ok,r,⟨m,e,h0,h1,q⟩,k⟩:=hz
 subst e
 obtain ⟨v1,rfl,au⟩:=r.inv1
 rw[au.int_inv]
 exact ⟨m,rfl,h0,h1,fun J s=>k.kr ok s (.int _) q⟩
def aaT:iH:=fun ws n Q X=>∃(m p:Int) (x:Rat),ws=[.d (.int m),.d (.int p)]/\0<=m/\m<=40/\x=(c9 m.toNat).getD m.toNat 0/\1<p/\p<2^30/\((x.den:Int)%p=0->X "NoRest" ["number","prime"] [.int m,.int p] n)/\((x.den:Int)%p≠0->Q (.d (.int (x.num*((x.den:Int)^(p-2).toNat%p)%p))) n)
theorem Hw:b0 ["n","p","number"] ["n","p"] (bu AI):=(by walk_at "sc")
theorem O5 (T:Txt K mg):eY P w K mg base "row_rest" ["n","p"] 7 (jR K aaT):=by
 obtain ⟨EE,EC,FT,F6,jj⟩:=T.wI
 refine eY.fM T.PE Hw (fun ws n Q X h=>?_) (by walk_at "b2") (fun f a6 A outer s H E hr=>⟨_,_,(aV (ck (i:=2) Hw.aT rfl (by walk_at "lc") (a5 (yD T) hr (ae (af 0) aj)))
   (aV (c4 (cn (eW (K:=K) rfl hr) (a5 (k7 T) hr (ae (dx (iA (K:=K) rfl) (af 2) ay (fun _ _=>rfl)) (ae (af 1) aj))) ay (b6 _)) (aW (jL jj.s (zF jj) (hr.mono (by decide)) (jj.s.f.binds (by walk_at "b3")) jK (ae (af 0) (ae (af 1) aj)))) c3)
   (aW (bB (lq (FA T) hr mN (ae (af 2) (ae (af 1) aj))))))),(b9 (eV (b:=false) (a9.x (cA N0 (ak aw aN))))
   (b9 (eh (b:=false) (cL.x (dC (bh eX (cA q2 (ak (bh iG aw ba) (ak aw aN))) ba))) (jJ (b:=false) jj (ak aw (ak aw aN))) eg)
   (dA (b:=false) (mM jW.refl (e7.x (ak aw (ak aw aN))))))),fun ws n Q X h=>?_⟩)
 ·obtain ⟨m,p,x,rfl,_⟩:=h
  rfl
 obtain ⟨m,p,x,rfl,m0,p1,hx,hp,eK,fx,q⟩:=h
 refine ⟨m,rfl,m0,p1,?_⟩
 rw[<-hx]
 refine i1 rfl ?_
 refine ⟨_,p,rfl,by lia,?_⟩
 refine n4 (fun c=>?_) (fun c=>?_)
 ·exact fx c
 exact ⟨x,p,rfl,hp,eK,fun h=>absurd h c,q⟩
def HX (K:ajA):b_:=fun aa H Q _=>∃(k:Nat),aa=[.int (2*(k:Int)+1)]/\k<20/\∀J,bb H J->Q (.int (fR (2*k+1))) J
theorem Hz:b0 ["n","factor"] ["n"] (bu A1):=(by walk_at "sc")
theorem OI (T:Txt K mg):Def P w K mg base "turns_by_row" ["n"] 7 (HX K):=by
 refine Def.c8 T.PX Hz (fun aa H Q E h=>?_) (by walk_at "b1") (fun f a6 A outer s H aa Q E hr h=>?_)
 ·obtain ⟨k,rfl,_⟩:=h
  rfl
 obtain ⟨k,rfl,hk,q⟩:=h
 refine ⟨_,(aV (ck (i:=1) Hz.aT rfl (by walk_at "lc") (a5 (ot T) hr (ae (a5 (Fp T) hr (ae (a0 hM (af 0) ay) aj)) (ae (a0 hM (af 0) ay) aj))))
   (aW (bB (a5 (Fw T) hr (ae (a5 (ou T) hr (ae (af 1) (ae (a5 (yD T) hr (ae (a0 hM (af 0) ay) aj)) aj))) aj))))),?_⟩
 obtain ⟨dJ,cB⟩:=ad8 hk
 have ai:(2*(k:Int)+1+1).toNat=2*k+1+1:=by lia
 have aY:=J4 (n:=2*k+1+1) ⋯
 refine ⟨_,rfl,_,_,rfl,rfl,_,rfl,by lia,by lia,fun H1 s1=>?_⟩
 rw[ai]
 refine ⟨_,rfl,_,_,rfl,rfl,_,_,rfl,by lia,(cb.of_lt 100 (m:=10) ⋯ ⋯ (by decide)).mono (by decide),fun v ag s2 dw=>?_⟩
 refine ⟨_,rfl,_,rfl,_,_,rfl,rfl,_,rfl,by lia,by lia,fun gW b3 s3 ec=>?_⟩
 rw[ai,<-Dx ⋯]at ec
 have c6:bH 83 (Rat.divInt (2^(2*k+1+1)*(2^(2*k+1+1)-1)) (2*(k:Int)+1+1)):=bH.divInt aY ((cb.of_lt 100 (m:=10) ⋯ ⋯ (by decide)).mono (by decide)) ⋯
 have vp:bH 4400 (jB (2*k+1+1)):=by
  rw[Dx ⋯]
  exact (xx (k:=2*k+1+1) ⋯ _ (rO (by rw[nQ];lia))).mono (by decide)
 refine ⟨_,_,_,_,rfl,dw.mono s3,ec,c6.mono (by decide),vp,fun v4 bK s4 fJ=>?_⟩
 have ex:Rat.divInt (2^(2*k+1+1)*(2^(2*k+1+1)-1)) (2*(k:Int)+1+1)*jB (2*k+1+1)=sd (2*k+1):=by
  unfold sd;rw[show ((2*k+1:Nat):Int)+1=2*(k:Int)+1+1 by lia]
 rw[ex]at fJ
 refine ⟨_,_,rfl,fJ,dJ,?_⟩
 rw[cB]
 exact q _ (s1.trans (s2.trans (s3.trans s4)))
def aa6:dv:=fun ws n Q=>∃k:Nat,ws=[.d (.int (2*(k:Int)+1))]/\k<20/\Q (.d (.int (fR (2*k+1)))) n
theorem NX:c0 K (HX K) aa6:=fun aa H Q hz=>by
 obtain ⟨M,ws,n,aK,ok,r,⟨m,e,h1,q⟩,k⟩:=hz
 subst e
 obtain ⟨v1,rfl,au⟩:=r.inv1
 rw[au.int_inv]
 exact ⟨m,rfl,h1,fun J s=>k.kr ok s (.int _) q⟩
def HW (K:ajA):b_:=fun aa H Q _=>∃(k:Nat),aa=[.int (2*(k:Int))]/\k<=10/\∀J,bb H J->Q (.int (fR (2*k))) J
theorem Va:b0 ["n"] ["n"] (bu A0):=(by walk_at "sc")
theorem OH (T:Txt K mg):Def P w K mg base "turns_by_poly" ["n"] 7 (HW K):=by
 refine Def.c8 T.PW Va (fun aa H Q E h=>?_) (by walk_at "b1") (fun f a6 A outer s H aa Q E hr h=>?_)
 ·obtain ⟨k,rfl,_⟩:=h
  rfl
 obtain ⟨k,rfl,hk,q⟩:=h
 refine ⟨_,(aW (bB (a5 (Fw T) hr (ae (a5 (ou T) hr (ae (a5 (OO T) hr (ae (a5 (Ow T) hr (ae (af 0) aj)) (ae (cN (ae ay (ae ay aj))) aj))) (ae (cN (ae (a5 (yG T) hr (ae (af 0) aj)) (ae ay aj))) aj))) aj)))),?_⟩
 obtain ⟨dJ,cB⟩:=ad6 hk
 have ai:(2*(k:Int)).toNat=2*k:=by lia
 obtain ⟨_,gl,_,sJ,_⟩:=KV (n:=2*k) ⋯
 have EW:∀r∈eU (2*k),bH 90 r:=fun r hr=>(sJ r hr).bs (by decide) (by decide) (afE _)
 refine ⟨_,rfl,_,rfl,by lia,by lia,fun dG jH H1 s1 t1 eH=>?_⟩
 rw[ai]at eH
 refine ⟨jx,fun b8 f2=>?_⟩
 have eM:=bY f2 (.tup [.int 1,.int 2])
 have hx:aS K (upd H1 b8 (.tup [.int 1,.int 2])) (.ref b8) (bj (Rat.divInt 1 2)):=aS.oO bo (by decide) (by decide)
 have ik:bH 2 (Rat.divInt 1 2):=⟨by decide,by decide⟩
 have vO:∀i,bH 2300 (jt (Rat.divInt 1 2) ((eU (2*k)).drop i)):=fun i=>by
  have eL:((eU (2*k)).drop i).length<=21:=by rw[aiQ];lia
  have:=Nat.mul_le_mul eL (show 90+2+1<=105 by lia)
  exact (Ls (m:=90) (n:=2) ik (rs:=(eU (2*k)).drop i) fun r hr=>EW r (List.mem_of_mem_drop hr)).mono ⋯
 refine ⟨_,_,_,_,_,2300,2,rfl,eM.hh t1,eH.mono eM,hx,ik,fun r hr=>(EW r hr).mono (by decide),vO,by decide,fun gW b3 s3 ec=>?_⟩
 refine ⟨_,rfl,_,rfl,by lia,by lia,fun bK s4=>?_⟩
 rw[ai]
 refine ⟨jx,fun rv eB=>?_⟩
 have It:=bY eB (.tup [.int (2^(2*k)),.int 1])
 have ni:aS K (upd bK rv (.tup [.int (2^(2*k)),.int 1])) (.ref rv) (bj (((2^(2*k):Nat):Int):Rat)):=aS.oO bo (by simp) (by simp)
 refine ⟨_,_,_,_,rfl,(ec.mono s4).mono It,ni,(vO 0).mono (by decide),(bH.int (Dl (n:=2*k) ⋯) (by decide)).mono (by decide),fun v6 hQ jC vw=>?_⟩
 refine ⟨_,_,rfl,vw,dJ,?_⟩
 rw[show (jt (Rat.divInt 1 2) (eU (2*k))*(((2^(2*k):Nat):Int):Rat))=u1 (2*k) from rfl,cB]
 exact q _ (s1.trans (eM.trans (s3.trans (s4.trans (It.trans jC)))))
def aa5:dv:=fun ws n Q=>∃k:Nat,ws=[.d (.int (2*(k:Int)))]/\k<=10/\Q (.d (.int (fR (2*k)))) n
theorem NW:c0 K (HW K) aa5:=fun aa H Q hz=>by
 obtain ⟨M,ws,n,aK,ok,r,⟨m,e,h1,q⟩,k⟩:=hz
 subst e
 obtain ⟨v1,rfl,au⟩:=r.inv1
 rw[au.int_inv]
 exact ⟨m,rfl,h1,fun J s=>k.kr ok s (.int _) q⟩
def HV (K:ajA):b_:=fun aa H Q _=>∃n:Int,aa=[.int n]/\0<=n/\n<=40/\∀v J,bb H J->aS K J v (.tuple [.int (gf ((c9 n.toNat).getD n.toNat 0) (dH n)).num,.tuple ((dH n).map PyData.int)])->Q v J
theorem U_:b0 ["n"] ["n"] (bu AZ):=(by walk_at "sc")
theorem OG (T:Txt K mg):Def P w K mg base "beneath_paper" ["n"] 8 (HV K):=by
 refine Def.c8 T.PV U_ (fun aa H Q E h=>?_) (by walk_at "b1") (fun f a6 A outer s H aa Q E hr h=>?_)
 ·obtain ⟨n,rfl,_⟩:=h
  rfl
 obtain ⟨n,rfl,d0,ax,q⟩:=h
 refine ⟨_,(aW (bB (cN (ae (a5 (Fs T) hr (ae (af 0) aj)) (ae (a5 (vz T) hr (ae (af 0) aj)) aj))))),?_⟩
 refine ⟨_,rfl,n,rfl,d0,ax,fun H1 s1=>?_⟩
 refine ⟨_,rfl,n,rfl,d0,by lia,fun p ag s2 cj=>⟨jx,fun fO d3=>?_⟩⟩
 have t8:=bY d3 (.tup [.int (gf ((c9 n.toNat).getD n.toNat 0) (dH n)).num,.ref p])
 exact q _ _ (s1.trans (s2.trans t8)) (.tup (bp.of bo) (.cons (.int _) (.cons (.tup (t8.hh cj) (rY _)) .nil)))
def aa4:dv:=fun ws n Q=>∃m:Int,ws=[.d (.int m)]/\0<=m/\m<=40/\Q (.d (.tuple [.int (gf ((c9 m.toNat).getD m.toNat 0) (dH m)).num,.tuple ((dH m).map PyData.int)])) n
theorem NV:c0 K (HV K) aa4:=fun aa H Q hz=>by
 obtain ⟨M,ws,n,aK,ok,r,⟨m,e,h1,h2,q⟩,k⟩:=hz
 subst e
 obtain ⟨v1,rfl,au⟩:=r.inv1
 rw[au.int_inv]
 exact ⟨m,rfl,h1,h2,fun v J s d=>k.jq ok s d (by simp only[ef,fF];have:=Js (dH m);simp only[ef]at this;simp[this]) q⟩
def wD:List (List Int):=[[1],[0,1],[0,1,1],[0,1,2,2],[0,2,4,5,5],[0,5,10,14,16,16],[0,16,32,46,56,61,61]]
theorem Wb:((List.range 7).all fun n=>decide ((List.range (n+1)).map u2=wD.take (n+1)))=true:=by decide +kernel
theorem Wc {n:Nat}(h:n<=6):d9 n=wD.take (n+1):=by
 have:=afS (afR.mp Wb n (afU.mpr ⋯))
 rw[<-this]
 unfold d9
 exact ag4 fun i _=>(C0 i).symm
theorem Wd :∀w k,n3 d=some (w,k)->(w="shape"\/w="row")/\0<=k/\k<=41:=fun w k e=>by
  cases aA:pe d with
  | false=>rw[CV aA]at e;cases e;exact ⟨.inl rfl,by decide,by decide⟩
  | true=>
   obtain ⟨cM,rfl,eL,gp⟩:=Ju aA
   rw[Yv]at e
   obtain ⟨a,b,c⟩:=abD e
   exact ⟨a,b,by lia⟩
theorem Gd {l:ajH}(h:∀x∈l,0<=x/\x<=61):0<=l.getD k 0/\l.getD k 0<=61:=by
 rw[afO]
 cases e:l[k]? with
 | none=>exact ⟨by decide,by decide⟩
 | some x=>exact h x (agD e)
theorem Wa:∀l∈wD,∀x∈l,0<=x/\x<=61:=by decide
theorem Ry (hm:m<=6)(r:ajH)(x:Int):0<=g7 (d9 m) m r x/\g7 (d9 m) m r x<=61:=by
 have row:∀k,∀y∈(d9 m).getD k [],0<=y/\y<=61:=fun k y hy=>by
  rw[Wc hm,afO]at hy
  cases e:(wD.take (m+1))[k]? with
  | none=>rw[e]at hy;cases hy
  | some l=>rw[e]at hy;exact Wa l (List.mem_of_mem_take (agD e)) y hy
 unfold g7
 split
 ·simp only[]
  split
  ·exact Gd (row _)
  ·exact Gd (row _)
 ·exact ⟨by decide,by decide⟩
theorem HF {f:Int->Int}(h:∀x,0<=f x/\f x<=61):∀j:Nat,0<=cF f j/\cF f j<=61*(j:Int)
 | 0=>⟨agz _,agz _⟩
 | j+1=>by
  have a:=HF h j
  have b:=h (j:Int)
  show 0<=cF f j+f (j:Int)/\cF f j+f (j:Int)<=_
  lia
theorem Hi {m:Nat}(hm:m<=6){r:ajH}(hr:∀i,(r.getD i 0).toNat<=6):∀i:Nat,0<=ir m r i/\ir m r i<=366*(i:Int)
 | 0=>⟨agz _,agz _⟩
 | i+1=>by
  have a:=Hi hm hr i
  have b:=HF (f:=g7 (d9 m) m (r.take i)) (Ry hm _) (r.getD i 0).toNat
  have c:=hr i
  show 0<=ir m r i+cF _ _/\ir m r i+cF _ _<=_
  lia
open Classical in
noncomputable def B8 (m:Nat)(place:Int):List Int:=if h:∃r,fm m [] r/\r.length=m/\f9 m [] r=place then Classical.choose h else []
theorem Wh {place:Int}{r:ajH}(h1:fm m [] r)(h2:r.length=m)(aQ:f9 m [] r=place):B8 m place=r:=by
 unfold B8
 have ex:∃r,fm m [] r/\r.length=m/\f9 m [] r=place:=⟨r,h1,h2,aQ⟩
 rw[dif_pos ex]
 obtain ⟨a,b,c⟩:=ajj ex
 exact abR a h1 b h2 (c.trans aQ.symm)
noncomputable def j2 (w:Str)(n:Int)(ns:ajH)(d:PyData):n_:=
 if w="turn" then .t (.tuple [.bool (oH d&&(match d with|.tuple ds=>jT (ds.map cH)|_=>false)),.bool (y8 d)]) else
 if w="all" then .t (.list ((jo (n%6).toNat (n%6).toNat).map dr)) else
 if w="behind" then .t (.tuple [d5 (h8 ns),d5 (h8 ns)]) else
 if w="table" then .t (.tuple [.tuple (hq n.toNat),.int (fR n.toNat)]) else
 if w="tables" then wb (n3 d) else
 if w="at" then (if n-2<0\/fR (n%9).toNat<=n-2 then .x "NoTurn" ["word","thing"] [.str "place",.int (n-2)] else .t (dr (B8 (n%9).toNat (n-2)))) else
 if w="place" then (if (qH d&&decide (zT d<=20))=true then .t (.int (tL d)) else .x "NoTurn" ["word","thing"] [.str "row",d]) else
 .t (.tuple [.int (fR (n+1-n%2).toNat),bj (jB (n+2+n%2).toNat),.int (fR (n-n%2).toNat)])
theorem Nx:∀m:Fin 6,BS (.list ((jo m.val m.val).map dr))=true:=by decide +kernel
def abl:iH:=fun ws k Q X=>∃(w:Str) (n:Int) (ns:ajH) (d:PyData),ws=[.d (.str w),.d (.int n),.d (dr ns),.d d]/\0<=n/\n<=10/\ns.length<=6/\(∀x∈ns,-5<x/\x<5)/\pk d/\b4 5 1000 d/\(∀ds,d=.tuple ds->ds.length<=6)/\dt d=true/\(j0 (j2 w n ns d)->(j2 w n ns d).ok k Q X)
theorem Vl:b0 ["_law_word","_law_n","_law_row","_law_thing"] ["_law_word","_law_n","_law_row","_law_thing"] (bu Bg):=(by walk_at "sc")
theorem O8 (T:Txt K mg):eY P w K mg base "_law_ask_rows" ["_law_word","_law_n","_law_row","_law_thing"] 8 (jR K abl):=by
 refine eY.fM T.Qd Vl (fun ws n Q X h=>?_) (fun _ _ _ _ _ _ us hl=>match us,hl with|[_,_,_,_],_=>rfl) (fun f a6 A outer s H E hr=>⟨_,_,(aV (c4 (cn (eW (K:=K) rfl hr) (af 0) b5 (b6 _)) (aW (bB (cN (ae (a5 (Fx T) hr (ae (af 3) aj)) (ae (a5 (Fv T) hr (ae (af 3) aj)) aj))))) c3)
   (aV (c4 (cn (eW (K:=K) rfl hr) (af 0) b5 (b6 _)) (aW (bB (a5 (OP T) hr (ae (a0 fD (af 1) ay) aj)))) c3)
   (aV (c4 (cn (eW (K:=K) rfl hr) (af 0) b5 (b6 _)) (aW (bB (cN (ae (a5 (yA T) hr (ae (af 2) aj)) (ae (a5 (OJ T) hr (ae (af 2) aj)) aj))))) c3)
   (aV (c4 (cn (eW (K:=K) rfl hr) (af 0) b5 (b6 _)) (aW (bB (cN (ae (a5 (vB T) hr (ae (af 1) aj)) (ae (a5 (yE T) hr (ae (af 1) aj)) aj))))) c3)
   (aV (c4 (cn (eW (K:=K) rfl hr) (af 0) b5 (b6 _)) (aW (bB (lq (O_ T) hr mN (ae (af 3) aj)))) c3)
   (aV (c4 (cn (eW (K:=K) rfl hr) (af 0) b5 (b6 _)) (aW (bB (lq (Pb T) hr mN (ae (a0 fD (af 1) ay) (ae (a0 fc (af 1) ay) aj))))) c3)
   (aV (c4 (cn (eW (K:=K) rfl hr) (af 0) b5 (b6 _)) (aW (bB (lq (O9 T) hr mN (ae (af 3) aj)))) c3)
   (aW (bB (cN (ae (a5 (OI T) hr (ae (a0 fc (a0 (gM (K:=K) rfl) (af 1) ay) (a0 fD (af 1) ay)) aj)) (ae (a5 (OC T) hr (ae (a0 (gM (K:=K) rfl) (a0 (gM (K:=K) rfl) (af 1) ay) (a0 fD (af 1) ay)) aj)) (ae (a5 (OH T) hr (ae (a0 fc (af 1) (a0 fD (af 1) ay)) aj)) aj))))))))))))),(b9 (eh (b:=false) (cL.x (dC (bh eX aw dB))) (dA (b:=false) (a9.x (d_ (ak (cA c0.refl (ak aw aN)) (ak (cA c0.refl (ak aw aN)) aN))))) eg)
   (b9 (eh (b:=false) (cL.x (dC (bh eX aw dB))) (dA (b:=false) (a9.x (cA c0.refl (ak (bh mU aw ba) aN)))) eg)
   (b9 (eh (b:=false) (cL.x (dC (bh eX aw dB))) (dA (b:=false) (a9.x (d_ (ak (cA E9 (ak aw aN)) (ak (cA NZ (ak aw aN)) aN))))) eg)
   (b9 (eh (b:=false) (cL.x (dC (bh eX aw dB))) (dA (b:=false) (a9.x (d_ (ak (cA yt (ak aw aN)) (ak (cA Fc (ak aw aN)) aN))))) eg)
   (b9 (eh (b:=false) (cL.x (dC (bh eX aw dB))) (dA (b:=false) (mM jW.refl (e7.x (ak aw aN)))) eg)
   (b9 (eh (b:=false) (cL.x (dC (bh eX aw dB))) (dA (b:=false) (mM jW.refl (e7.x (ak (bh mU aw ba) (ak (bh ja aw ba) aN))))) eg)
   (b9 (eh (b:=false) (cL.x (dC (bh eX aw dB))) (dA (b:=false) (mM jW.refl (e7.x (ak aw aN)))) eg)
   (dA (b:=false) (a9.x (d_ (ak (cA NX (ak (bh ja (bh jS aw ba) (bh mU aw ba)) aN)) (ak (cA NU (ak (bh jS (bh jS aw ba) (bh mU aw ba)) aN)) (ak (cA NW (ak (bh ja aw (bh mU aw ba)) aN)) aN))))))))))))),fun ws n Q X h=>?_⟩)
 ·obtain ⟨w,ao,ns,d,rfl,_⟩:=h
  rfl
 obtain ⟨w,ao,ns,d,rfl,d0,ax,hl,hb,e0,sw,aH,l0,q⟩:=h
 have oB:∀ds,d=.tuple ds->ds.length<64:=fun ds e=>by have:=aH ds e;lia
 unfold j2 at q
 refine iC (fun h=>?_) (fun h1=>?_)
 ·rw[afD h]at q
  refine ⟨d,rfl,oB,⟨d,rfl,oB,q (.t (mF (k:=0) (v:=2000) (b4.bool _) (b4.bool _) (by decide) (by decide)) (kH (by simp only[dt]) (by simp only[dt])))⟩⟩
 rw[afC h1]at q
 refine iC (fun h=>?_) (fun h2=>?_)
 ·rw[afD h]at q
  refine lZ (by decide) ?_
  refine ⟨(ao%6).toNat,?_,by lia,q (.t (HH (Nx ⟨(ao%6).toNat,by lia⟩)) (by simp only[dt];exact xm o4 _))⟩
  rw[show (((ao%6).toNat:Nat):Int)=ao%6 by lia]
 rw[afC h2]at q
 refine iC (fun h=>?_) (fun aQ=>?_)
 ·rw[afD h]at q
  have j5:∀x∈h8 ns,cb 9 x:=KL (m:=3) (fun x hx=>by have:=hb x hx;exact show x.natAbs<2^3 by lia) ⋯
  have s1:=xd j5 (by decide) (by decide)
  refine ⟨ns,rfl,by lia,⟨ns,rfl,by lia,q (.t (mF (k:=1) (v:=7*12+4) (s1.mono (afE _) (by rw[CR];lia)) (s1.mono (afE _) (by rw[CR];lia)) (by decide) (by decide)) (kH (o4 _) (o4 _)))⟩⟩
 rw[afC aQ]at q
 refine iC (fun h=>?_) (fun bS=>?_)
 ·rw[afD h]at q
  have s1:b4 2 (11*(63*380+4+2)+4) (.tuple (hq ao.toNat)):=by
   have:=b4.tup (n:=1) (v:=63*380+4) (ds:=hq ao.toNat) (fun d hd=>by
    obtain ⟨m,hm,rfl⟩:=agd.mp hd
    have hm:=afU.mp hm
    have:=xd (ns:=cu m) (m:=373) (fun x hx=>(CZ m ⋯ x hx).mono ⋯) (by decide) (by decide)
    refine this.mono (by decide) ?_
    rw[jM];lia)
   refine this.mono (by decide) ?_
   rw[CX];lia
  have s2:=(b4.oE (Dm (n:=ao.toNat) ⋯) (by decide) (by decide)).mono (show 0<=2 by decide) (show 373+1<=11*(63*380+4+2)+4 by decide)
  exact ⟨ao,rfl,d0,by lia,⟨ao,rfl,d0,by lia,q (.t (mF s1 s2 (by decide) (by decide)) (kH (by simp only[dt];exact xm (fun m=>o4 _) _) (h7 _)))⟩⟩
 rw[afC bS]at q
 refine iC (fun h=>?_) (fun c1=>?_)
 ·rw[afD h]at q
  refine ⟨d,rfl,e0,fun e=>?_,fun w k e=>?_⟩
  ·rw[e]at q;exact q (.t (b4.bool true).hI (by simp only[dt]))
  ·rw[e]at q
   obtain ⟨hw,k0,k1⟩:=Wd w k e
   refine q (.p (mF (k:=0) (v:=100) ?_ ((ks ⋯ ⋯).mono (by decide) (by decide)) (by decide) (by decide)) (kH ?_ (h7 _)))
   ·rcases hw with rfl|rfl<;>exact (b4.str (v:=20) (by decide +kernel)).mono (by decide) (by decide)
   ·rcases hw with rfl|rfl<;>decide +kernel
 rw[afC c1]at q
 refine iC (fun h=>?_) (fun hE=>?_)
 ·rw[afD h]at q
  refine lZ (by decide) ?_
  refine iw ?_
  refine ⟨(ao%9).toNat,ao-2,by rw[show (((ao%9).toNat:Nat):Int)=ao%9 by lia],by lia,fun Ga g1 r hr Hr fy=>?_,fun g=>?_⟩
  ·rw[afC ⋯,Wh hr Hr fy]at q
   refine q (.t ?_ (o4 _))
   have:=xd (ns:=r) (m:=5) (fun x hx=>by
    obtain ⟨i,hi⟩:=List.mem_iff_getElem?.mp hx
    obtain ⟨lg,rfl⟩:=agf.mp hi
    have:=(hr.at lg).1
    rw[afO,afQ lg]at this
    have z:0<=r[i]/\r[i]<((ao%9).toNat:Int):=this
    exact show (r[i]).natAbs<2^5 by lia) (by decide) (by decide)
   exact (this.mono (afE _) (show r.length*(5+3)+4<=100 by lia)).hI
  ·rw[afD g]at q
   exact q (.u (mF (k:=0) (v:=100) ((b4.str (v:=20) (by decide +kernel)).mono (by decide) (by decide)) ((ks ⋯ ⋯).mono (by decide) (by decide)) (by decide) (by decide)) (kH (by decide +kernel) (h7 _)))
 rw[afC hE]at q
 refine iC (fun h=>?_) (fun la=>?_)
 ·rw[afD h]at q
  refine ⟨d,rfl,oB,fun e=>?_,fun e=>?_⟩
  ·rw[afD e]at q
   refine q (.t ?_ (h7 _))
   have ae5:0<=tL d/\tL d<3000:=by
    cases d with
    | tuple ds =>
     have Ru:=aH ds rfl
     have hd:qH (.tuple ds)=true:=by
      cases hx:qH (.tuple ds) with
      | true=>rfl
      | false=>rw[hx]at e;cases e
     have h':(ds.all el&&((iD (ds.map cH)&&si (ds.map cH))&&_))=true:=hd
     simp only[afM]at h'
     have sO:=FG h'.2.1.1
     have:=Hi (m:=ds.length) Ru (r:=ds.map cH) (fun i=>by
      rw[afO]
      cases yL:(ds.map cH)[i]? with
      | none=>exact afY _
      | some x=>
       have:=sO x (agD yL)
       rw[afG]at this
       show x.toNat<=6
       lia) ds.length
     show 0<=ir ds.length (ds.map cH) ds.length/\ir ds.length (ds.map cH) ds.length<3000
     lia
    | _=>exact ⟨agz 0,show (0:Int)<3000 by decide⟩
   exact (ks ⋯ ⋯).hI
  ·rw[afC (by rw[e];decide)]at q
   exact q (.u (mF (k:=5) (v:=1000) ((b4.str (v:=20) (by decide +kernel)).mono (by decide) (by decide)) sw (by decide) (by decide)) (kH (by decide +kernel) l0))
 rw[afC la]at q
 have Ir:∀m:Nat,m<=12->b4 1 5000 (.int (fR m)):=fun m hm=>(b4.oE (Dm (n:=m) ⋯) (by decide) (by decide)).mono (by decide) (by decide)
 have U2:∀m:Nat,m<=40->b4 1 5000 (bj (jB m)):=fun m hm=>by
  rw[Dx hm]
  refine (b4.HG (xx hm _ ?_) (by decide) (by decide)).mono (by decide) (by decide)
  rw[afO,afQ (by rw[nQ];lia)]
  exact ag1 _
 obtain ⟨k,hk⟩:∃k:Nat,ao=2*(k:Int)+ao%2:=⟨((ao-ao%2)/2).toNat,by lia⟩
 have bt:ao%2=0\/ao%2=1:=by lia
 have ai:(ao+1-ao%2).toNat=2*k+1:=by lia
 have cD:(ao-ao%2).toNat=2*k:=by lia
 obtain ⟨j,hj,Rp⟩:∃j:Nat,ao+2+ao%2=2*(j:Int)+2/\j<20:=⟨((ao+ao%2)/2).toNat,by lia,by lia⟩
 have az:(ao+2+ao%2).toNat=2*j+2:=by lia
 rw[ai,az,cD]at q
 refine ko ?_
 refine lZ (by decide) ?_
 refine iw ?_
 refine ⟨k,by rw[show ao+1-ao%2=2*(k:Int)+1 by lia],by lia,?_⟩
 refine ko ?_
 refine lZ (by decide) ?_
 refine ko ?_
 refine ⟨j,by rw[hj],Rp,?_⟩
 refine lZ (by decide) ?_
 refine iw ?_
 refine ⟨k,by rw[show ao-ao%2=2*(k:Int) by lia],by lia,?_⟩
 refine q (.t ?_ (by unfold bj;simp only[dt,iN,Bool.and_true]))
 have:=b4.tup (n:=1) (v:=5000) (ds:=[.int (fR (2*k+1)),bj (jB (2*j+2)),.int (fR (2*k))]) (fun d hd=>by
  simp only[afP,agg,agh]at hd
  rcases hd with rfl|rfl|rfl
  ·exact Ir _ ⋯
  ·exact U2 _ ⋯
  ·exact Ir _ ⋯)
 exact (this.mono (show 2<=3 by decide) (show 3*(5000+2)+4<=20000 by decide)).hI
set_option maxRecDepth 1000000 in
theorem Wz:((List.range 11).all fun n=>decide ((gf ((lz 40).2.getD n 0) (tK n)).num.natAbs<1000))=true:=by decide +kernel
noncomputable def zL (n:Int)(x:Rat)(d:PyData):Option (Str×Int):=Classical.choose (KP n x d)
theorem R3 (n:Int)(x:Rat)(d:PyData):vh n x d (zL n x d):=ajj (KP n x d)
theorem SQ {m a b:Int}(ha:ps m p a)(hb:ps m p b):a=b:=by
 rcases Int.lt_trichotomy a b with h|h|h
 ·exact absurd (hb.2.2.2 a ha.1 h) ha.2.2.1
 ·exact h
 ·exact absurd (ha.2.2.2 b hb.1 h) hb.2.2.1
open Classical in
noncomputable def yZ (m p:Int):Int:=if h:∃a,ps m p a then Classical.choose h else 0
theorem QG {m a:Int}(h:ps m p a):yZ m p=a:=by
 unfold yZ
 rw[dif_pos ⟨a,h⟩]
 exact SQ (ajj (⟨a,h⟩:∃a,ps m p a)) h
def rE (p:Int):Rat:=Rat.divInt (p+3) (2*p+5)
noncomputable def ml (w:Str)(n p:Int)(d:PyData):n_:=
 if w="primes" then .t (.tuple ((dH n).map PyData.int)) else
 if w="whole" then .t (.int (gf ((c9 n.toNat).getD n.toNat 0) (dH n)).num) else
 if w="beneath" then .t (.tuple [.int (gf ((c9 n.toNat).getD n.toNat 0) (dH n)).num,.tuple ((dH n).map PyData.int)]) else
 if w="judge" then wb (zL n (Rat.divInt (2*p-5) 2) d) else
 if w="share" then (if ((rE p).den:Int)%p=0 then .x "NoRest" ["number","prime"] [bj (rE p),.int p] else .t (.int ((rE p).num*(((rE p).den:Int)^(p-2).toNat%p)%p))) else
 if w="row" then (if (((c9 n.toNat).getD n.toNat 0).den:Int)%p=0 then .x "NoRest" ["number","prime"] [.int n,.int p] else .t (.int (((c9 n.toNat).getD n.toNat 0).num*((((c9 n.toNat).getD n.toNat 0).den:Int)^(p-2).toNat%p)%p))) else
 if w="far" then (if (2*n+2)%(p-1)=0 then .x "NoRest" ["number","prime"] [.int (2*n+2),.int p] else .t (.int (FZ (2*n+2) p (yZ (2*n+2) p)))) else
 if w="cut" then .t (.int (mY (n+1) p (1+n%(p-1)))) else
 wb ((v9 (2*n+2*(if (2*n)%(p-1)=0 then 1 else 0)) p n d).map fun w=>(w,0))
def abg:iH:=fun ws k Q X=>∃(w:Str) (n p:Int) (d:PyData),ws=[.d (.str w),.d (.int n),.d (.int p),.d d]/\0<=n/\n<=10/\p∈p5/\pk d/\(j0 (ml w n p d)->(ml w n p d).ok k Q X)
theorem Vh:b0 ["_law_word","_law_n","_law_p","_law_thing"] ["_law_word","_law_n","_law_p","_law_thing"] (bu Bb):=(by walk_at "sc")
theorem O7 (T:Txt K mg):eY P w K mg base "_law_ask_rests" ["_law_word","_law_n","_law_p","_law_thing"] 9 (jR K abg):=by
 refine eY.fM T.P9 Vh (fun ws n Q X h=>?_) (fun _ _ _ _ _ _ us hl=>match us,hl with|[_,_,_,_],_=>rfl) (fun f a6 A outer s H E hr=>⟨_,_,(aV (c4 (cn (eW (K:=K) rfl hr) (af 0) b5 (b6 _)) (aW (bB (a5 (vz T) hr (ae (af 1) aj)))) c3)
   (aV (c4 (cn (eW (K:=K) rfl hr) (af 0) b5 (b6 _)) (aW (bB (a5 (Fs T) hr (ae (af 1) aj)))) c3)
   (aV (c4 (cn (eW (K:=K) rfl hr) (af 0) b5 (b6 _)) (aW (bB (a5 (OG T) hr (ae (af 1) aj)))) c3)
   (aV (c4 (cn (eW (K:=K) rfl hr) (af 0) b5 (b6 _)) (aW (bB (lq (O6 T) hr mN (ae (af 1) (ae (cN (ae (a0 fc (a0 (nW (K:=K) rfl) ay (af 2)) ay) (ae ay aj))) (ae (af 3) aj)))))) c3)
   (aV (c4 (cn (eW (K:=K) rfl hr) (af 0) b5 (b6 _)) (aW (bB (lq (FA T) hr mN (ae (cN (ae (a0 (gM (K:=K) rfl) (af 2) ay) (ae (a0 (gM (K:=K) rfl) (a0 (nW (K:=K) rfl) ay (af 2)) ay) aj))) (ae (af 2) aj))))) c3)
   (aV (c4 (cn (eW (K:=K) rfl hr) (af 0) b5 (b6 _)) (aW (bB (lq (O5 T) hr mN (ae (af 1) (ae (af 2) aj))))) c3)
   (aV (c4 (cn (eW (K:=K) rfl hr) (af 0) b5 (b6 _)) (aW (bB (lq (O4 T) hr mN (ae (a0 (gM (K:=K) rfl) (a0 (nW (K:=K) rfl) ay (af 1)) ay) (ae (af 2) aj))))) c3)
   (aV (c4 (cn (eW (K:=K) rfl hr) (af 0) b5 (b6 _)) (aW (bB (a5 (Fq T) hr (ae (a0 (gM (K:=K) rfl) (af 1) ay) (ae (af 2) (ae (a0 (gM (K:=K) rfl) ay (a0 fD (af 1) (a0 fc (af 2) ay))) aj)))))) c3)
   (aW (bB (lq (Pc T) hr mN (ae (a0 (gM (K:=K) rfl) (a0 (nW (K:=K) rfl) ay (af 1)) (a0 (nW (K:=K) rfl) ay (kC Ym rfl T.EY LH (ae (l5 (eW (K:=K) rfl hr) (a0 fD (a0 (nW (K:=K) rfl) ay (af 1)) (a0 fc (af 2) ay)) ay (b6 _)) aj)))) (ae (af 2) (ae (af 1) (ae (af 3) aj))))))))))))))),(b9 (eh (b:=false) (cL.x (dC (bh eX aw dB))) (dA (b:=false) (a9.x (cA E8 (ak aw aN)))) eg)
   (b9 (eh (b:=false) (cL.x (dC (bh eX aw dB))) (dA (b:=false) (a9.x (cA N2 (ak aw aN)))) eg)
   (b9 (eh (b:=false) (cL.x (dC (bh eX aw dB))) (dA (b:=false) (a9.x (cA NV (ak aw aN)))) eg)
   (b9 (eh (b:=false) (cL.x (dC (bh eX aw dB))) (dA (b:=false) (mM jW.refl (e7.x (ak aw (ak (d_ (ak (bh ja (bh n2 ba aw) ba) (ak ba aN))) (ak aw aN)))))) eg)
   (b9 (eh (b:=false) (cL.x (dC (bh eX aw dB))) (dA (b:=false) (mM jW.refl (e7.x (ak (d_ (ak (bh jS aw ba) (ak (bh jS (bh n2 ba aw) ba) aN))) (ak aw aN))))) eg)
   (b9 (eh (b:=false) (cL.x (dC (bh eX aw dB))) (dA (b:=false) (mM jW.refl (e7.x (ak aw (ak aw aN))))) eg)
   (b9 (eh (b:=false) (cL.x (dC (bh eX aw dB))) (dA (b:=false) (mM jW.refl (e7.x (ak (bh jS (bh n2 ba aw) ba) (ak aw aN))))) eg)
   (b9 (eh (b:=false) (cL.x (dC (bh eX aw dB))) (dA (b:=false) (a9.x (cA N1 (ak (bh jS aw ba) (ak aw (ak (bh jS ba (bh mU aw (bh ja aw ba))) aN)))))) eg)
   (dA (b:=false) (mM jW.refl (e7.x (ak (bh jS (bh n2 ba aw) (bh n2 ba (gX aan (ak (bh eX (bh mU (bh n2 ba aw) (bh ja aw ba)) ba) aN)))) (ak aw (ak aw (ak aw aN))))))))))))))),fun ws n Q X h=>?_⟩)
 ·obtain ⟨w,ao,p,d,rfl,_⟩:=h
  rfl
 obtain ⟨w,ao,p,d,rfl,d0,ax,hp,e0,q⟩:=h
 have ju:=Hf hp
 have RG:p∈mD:=by rcases ju with rfl|rfl|rfl|rfl|rfl<;>decide
 have rv:5<=p:=by lia
 have ae4:p<=17:=by lia
 unfold ml at q
 have f1:=acu (n:=ao) ⋯
 have f2:b4 0 60 (.int (gf ((c9 ao.toNat).getD ao.toNat 0) (dH ao)).num):=by
  have c:=afS (afR.mp Wz ao.toNat (afU.mpr ⋯))
  rw[(rU 40).1,uq (show ao.toNat<=40 by lia) (afE _),<-DA ⋯,show ((ao.toNat:Nat):Int)=ao by lia]at c
  exact ks ⋯ ⋯
 have d3:=b4.pair (f2.mono (show 0<=1 by decide) (show 60<=1001*15+4 by decide)) f1
 have FD:(2:Int)^30=1073741824:=by decide
 have im:∀z:Int,j0 (.t (.int (z%p))):=fun z=>.t (g:=h7 _) ((ks (by have:=agb z (show p≠0 by lia);lia) (by have:=aga z (show 0<p by lia);lia)).hI)
 refine iC (fun h=>?_) (fun h1=>?_)
 ·rw[afD h]at q
  exact ⟨ao,rfl,d0,by lia,q (.t f1.hI (o4 _))⟩
 rw[afC h1]at q
 refine iC (fun h=>?_) (fun h2=>?_)
 ·rw[afD h]at q
  exact ⟨ao,rfl,d0,by lia,q (.t f2.hI (h7 _))⟩
 rw[afC h2]at q
 refine iC (fun h=>?_) (fun aQ=>?_)
 ·rw[afD h]at q
  exact ⟨ao,rfl,d0,by lia,q (.t d3.hI (kH (h7 _) (o4 _)))⟩
 rw[afC aQ]at q
 refine iC (fun h=>?_) (fun bS=>?_)
 ·rw[afD h]at q
  have hs:PyData.tuple [.int (2*p-5),.int 2]=bj (Rat.divInt (2*p-5) 2):=by rcases ju with rfl|rfl|rfl|rfl|rfl<;>rfl
  have hb:bH 1000 (Rat.divInt (2*p-5) 2):=by rcases ju with rfl|rfl|rfl|rfl|rfl<;>exact ⟨by decide,by decide⟩
  refine mT (.inl ⟨by decide,by decide⟩) ?_
  refine iw ?_
  have GO:=R3 ao (Rat.divInt (2*p-5) 2) d
  refine ⟨zL ao (Rat.divInt (2*p-5) 2) d,ao,Rat.divInt (2*p-5) 2,d,by rw[<-hs],d0,by lia,hb,e0,GO,fun e=>?_,fun w k e=>?_⟩
  ·rw[e]at q
   exact q (.t (b4.bool true).hI (by simp only[dt]))
  ·rw[e]at q
   obtain ⟨hw,k0,k1⟩:=aeq GO (fun w av e=>by
    have:=e0 _ e (.tuple (av.map PyData.int)) (by simp) _ rfl
    rw[afG]at this;exact this) w k e
   simp only[afP,agg,agh]at hw
   refine q (.p (mF (k:=0) (v:=100) ?_ ((ks ⋯ ⋯).mono (by decide) (by decide)) (by decide) (by decide)) (kH ?_ (h7 _)))
   ·rcases hw with rfl|rfl|rfl|rfl<;>exact (b4.str (v:=20) (by decide +kernel)).mono (by decide) (by decide)
   ·rcases hw with rfl|rfl|rfl|rfl<;>decide +kernel
 rw[afC bS]at q
 refine iC (fun h=>?_) (fun c1=>?_)
 ·rw[afD h]at q
  have hs:PyData.tuple [.int (p+3),.int (2*p+5)]=bj (rE p):=by rcases ju with rfl|rfl|rfl|rfl|rfl<;>rfl
  refine ko ?_
  refine mT (.inl ⟨by decide,by decide⟩) ?_
  refine ko ?_
  refine ⟨rE p,p,by rw[<-hs],by lia,by lia,fun e=>?_,fun e=>?_⟩
  ·rw[afD e]at q
   exact q (.r (by rcases ju with rfl|rfl|rfl|rfl|rfl<;>exact HH (by decide +kernel)) (kH (by unfold bj;exact kH (h7 _) (h7 _)) (h7 _)))
  ·rw[afC e]at q
   exact q (im _)
 rw[afC c1]at q
 refine iC (fun h=>?_) (fun hE=>?_)
 ·rw[afD h]at q
  refine ⟨ao,p,_,rfl,d0,by lia,rfl,by lia,by lia,fun e=>?_,fun e=>?_⟩
  ·rw[afD e]at q
   exact q (.r (mF (ks ⋯ ⋯) (ks ⋯ ⋯) (by decide) (by decide)) (kH (h7 _) (h7 _)))
  ·rw[afC e]at q
   exact q (im _)
 rw[afC hE]at q
 refine iC (fun h=>?_) (fun la=>?_)
 ·rw[afD h]at q
  refine mT (.inl ⟨by decide,by decide⟩) ?_
  refine ko ?_
  refine ⟨2*ao+2,p,rfl,RG,by lia,by lia,fun e=>?_,fun e a ha=>?_⟩
  ·rw[afD e]at q
   exact q (.r (mF (ks ⋯ ⋯) (ks ⋯ ⋯) (by decide) (by decide)) (kH (h7 _) (h7 _)))
  ·rw[afC e,QG ha]at q
   exact q (im _)
 rw[afC la]at q
 refine iC (fun h=>?_) (fun sU=>?_)
 ·rw[afD h]at q
  have gq:=agb ao (show p-1≠0 by lia)
  have au:=aga ao (show 0<p-1 by lia)
  refine ko ?_
  refine iw ?_
  refine lZ ⋯ ?_
  refine ko ?_
  exact ⟨ao+1,p,_,rfl,by lia,by lia,by lia,by lia,by lia,q (im _)⟩
 rw[afC sU]at q
 refine mT (.inl ⟨by decide,by decide⟩) ?_
 refine mT (.inl ⟨by decide,by decide⟩) ?_
 refine iw ?_
 refine lZ ⋯ ?_
 have last : ∀ z : Int, (z = 0 \/ z = 1) -> z = (if (2*ao)%(p-1) = 0 then 1 else 0) -> 1 <= 2*ao+2*z -> LS [.d (.int (2*ao+2*z)), .d (.int p), .d (.int ao), .d d] n Q X := fun z aZ Pt h1 => by
  rw[<-Pt]at q
  refine ⟨_,p,ao,d,rfl,by lia,by lia,h1,fun e=>?_,fun w e=>?_⟩
  ·rw[e]at q
   exact q (.t (b4.bool true).hI (by simp only[dt]))
  ·rw[e]at q
   have hw:w="shape"\/w="way"\/w="rest":=by
    cases d with
    | int y =>
     have aU:ro (2*ao+2*z) p ao y=some w:=e
     unfold ro at aU
     split at aU
     ·cases aU;exact .inl rfl
     ·split at aU
      ·cases aU;exact .inr (.inl rfl)
      ·split at aU
       ·cases aU
       ·cases aU;exact .inr (.inr rfl)
    | _=>cases e;exact .inl rfl
   refine q (.p (mF (k:=0) (v:=100) ?_ ((ks (by decide) (by decide)).mono (by decide) (by decide)) (by decide) (by decide)) (kH ?_ (h7 _)))
   ·rcases hw with rfl|rfl|rfl<;>exact (b4.str (v:=20) (by decide +kernel)).mono (by decide) (by decide)
   ·rcases hw with rfl|rfl|rfl<;>decide +kernel
 refine n4 (fun c=>?_) (fun c=>?_)
 ·refine K5 ?_
  refine mT (.inl ⟨by decide,by decide⟩) ?_
  refine ko ?_
  exact last 1 (.inr rfl) (by rw[afD c]) ⋯
 ·refine K5 ?_
  refine mT (.inl ⟨by decide,by decide⟩) ?_
  refine ko ?_
  refine last 0 (.inl rfl) (by rw[afC c]) ?_
  have:ao≠0:=fun e=>c (by rw[e];exact Int.zero_emod _)
  lia
def ub:List Str:=["primes","whole","beneath","judge","share","row","far","cut","rest"]
noncomputable def nd (w:Str)(n p:Int)(ns:ajH)(d:PyData):n_:=if w∈ub then ml w n p d else j2 w n ns d
def mJ:n_->Str
 | .t d=>"told " ++ d.shown
 | .x c aR ds=>"refused" ++ (if c="NoPaper" then " paper " else if c="NoRest" then " rest " else " turn ")++(PyData.tuple ds).shown
structure Nd (w:Str)(n p:Int)(ns:ajH)(d:PyData):Prop where
 d0:0<=n
 ax:n<=10
 pp:p∈p5
 nl:ns.length<=6
 nb:∀x∈ns,-5<x/\x<5
 e0:pk d
 sw:b4 5 1000 d
 eo:∀ds,d=.tuple ds->ds.length<=6
 li:gx d=true
 l0:dt d=true
theorem G9 {o:Option (Str×Int)}(h:wb o=.t d'):o_ d'=false:=by
 cases o with
 | none=>cases h;rfl
 | some q=>cases h
theorem Nn {w:Str}(h:ml w n p d=.t d'):o_ d'=false:=by
 unfold ml at h
 repeat' split at h
 all_goals first|exact G9 h|(cases h;rfl)|cases h
theorem Np {w:Str}(hw:w≠"all")(h:j2 w n ns d=.t d'):o_ d'=false:=by
 unfold j2 at h
 rw[afC hw]at h
 repeat' split at h
 all_goals first|exact G9 h|(cases h;rfl)|cases h
theorem EV :j2 "all" n ns d=.t (.list ((jo (n%6).toNat (n%6).toNat).map dr)):=by
 unfold j2
 rw[afC (by decide),afD rfl]
theorem Nz:∀m:Fin 6,jo m.val m.val≠[]:=by decide +kernel
theorem RW (w:Str):rk (V.str w) [V.str "primes",V.str "whole",V.str "beneath",V.str "judge",V.str "share",V.str "row",V.str "far",V.str "cut",V.str "rest"]=decide (w∈ub):=by
 show (ub.map V.str).any (fun y=>mq y (V.str w))=_
 rw[List.any_map,agO,ajg,decide_eq_true_iff]
 constructor
 ·rintro ⟨s,hs,he⟩
  have:s=w:=afS he
  rw[<-this];exact hs
 ·intro h
  exact ⟨w,h,afI rfl⟩
def sj:dv:=fun ws k Q=>∃(w:Str) (n p:Int) (ns:ajH) (d:PyData),ws=[.d (.tuple [.str w,.int n,.int p,dr ns,d])]/\Nd w n p ns d/\(PyData.strOk (mJ (nd w n p ns d))=true->Q (.d (.str (mJ (nd w n p ns d)))) k)
def HP (K:ajA):b_:=iF K sj
theorem i4:b0 ["_law_question_here","_law_word","_law_n","_law_p","_law_row","_law_thing","_law_some","_law_found","_law_told","e"] ["_law_question_here"] (bu AN):=(by walk_at "sc")
theorem yz (T:Txt K mg):Def P w K mg base "_law_said" ["_law_question_here"] 10 (HP K):=by
 refine Def.c8 T.PJ i4 (fun aa H Q E h=>?_) (by walk_at "b1") (fun f a6 A outer s H aa Q E hr h=>?_)
 ·(obtain ⟨M,ws,n,aK,ok,r,⟨w,ao,p,ns,d,rfl,_⟩,_⟩:=h;exact r.length)
 obtain ⟨M,ws,n,aK,ok,r,⟨w,ao,p,ns,d,rfl,dg,q⟩,k⟩:=h
 obtain ⟨Gk,_,_,_,_,_,_,_,_,_,_,_,_,_,_,_,_,_,SV,BU,SM,NA⟩:=T.Gk
 obtain ⟨rr,SW,BW⟩:=T.rr
 obtain ⟨rt,SX,BX⟩:=T.rt
 obtain ⟨ru,SY,BY⟩:=T.ru
 refine ⟨_,(aV (rV (af 0) (C8 rfl (gL (dq (i:=1) i4.aT rfl (by walk_at "lc")) (gL (dq (i:=2) i4.aT rfl (by walk_at "lc")) (gL (dq (i:=3) i4.aT rfl (by walk_at "lc")) (gL (dq (i:=4) i4.aT rfl (by walk_at "lc")) (gL (dq (i:=5) i4.aT rfl (by walk_at "lc")) nS)))))))
   (aV (ck (i:=6) i4.aT rfl (by walk_at "lc") (cN (ae b5 (ae b5 (ae b5 (ae b5 (ae b5 (ae b5 (ae b5 (ae b5 (ae b5 aj)))))))))))
   (aV (ck (i:=7) i4.aT rfl (by walk_at "lc") b5)
   (aV (ZL (i:=9) ⟨rfl,rfl⟩ i4.aT rfl rfl rfl SV SM NA (fun F de bF hp hx=>(aV (C7 (ck (i:=8) i4.aT rfl (by walk_at "lc") (rN (cn (acy (K:=K) rfl) (af 1) (af 6) rfl) (lq (O7 T) hr hp (ae (af 1) (ae (af 2) (ae (af 3) (ae (af 5) aj))))) (lq (O8 T) hr hp (ae (af 1) (ae (af 2) (ae (af 4) (ae (af 5) aj))))))))
   (aV (ck (i:=7) i4.aT rfl (by walk_at "lc") (a0 (gM (K:=K) rfl) b5 (dp (Cr (K:=K) rfl hr) rfl T.qZ rZ (ae (af 8) aj))))
   (aW (c4 (kE (dp (Yl (K:=K) rfl) rfl T.ng nM (ae (af 8) (ae (rS (v:=.ty "list") rfl T.ym Di rfl) aj)))) (aW (wU (YM (K:=K) rfl ah3 PySem.F.slot_list_clear PySem.F.type_list_clear Y2 (af 8)))) c3)))))
   (fun aq=>(aV (ck (i:=7) i4.aT rfl (by walk_at "lc") b5)
   (aV (c4 (kE (dp (CO (K:=K) rfl) rfl T.ng nM (ae (af 9) (ae (jN (v:=.ref rr) rfl SW rfl) aj)))) (aW (ck (i:=7) i4.aT rfl (by walk_at "lc") (a0 (gM (K:=K) rfl) (a0 (gM (K:=K) rfl) (af 7) b5) (dp (Cq (K:=K) rfl (pz.gG hr)) rfl T.qZ rZ (ae (cN (ae (rR (K:=K) rfl (af 9) rfl) (ae (rR (K:=K) rfl (af 9) rfl) aj))) aj))))) c3)
   (aV (c4 (kE (dp (CO (K:=K) rfl) rfl T.ng nM (ae (af 9) (ae (jN (v:=.ref rt) rfl SX rfl) aj)))) (aW (ck (i:=7) i4.aT rfl (by walk_at "lc") (a0 (gM (K:=K) rfl) (a0 (gM (K:=K) rfl) (af 7) b5) (dp (Cq (K:=K) rfl (pz.gG hr)) rfl T.qZ rZ (ae (cN (ae (rR (K:=K) rfl (af 9) rfl) (ae (rR (K:=K) rfl (af 9) rfl) aj))) aj))))) c3)
   (aW (c4 (kE (dp (CO (K:=K) rfl) rfl T.ng nM (ae (af 9) (ae (jN (v:=.ref ru) rfl SY rfl) aj)))) (aW (ck (i:=7) i4.aT rfl (by walk_at "lc") (a0 (gM (K:=K) rfl) (a0 (gM (K:=K) rfl) (af 7) b5) (dp (Cq (K:=K) rfl (pz.gG hr)) rfl T.qZ rZ (ae (cN (ae (rR (K:=K) rfl (af 9) rfl) (ae (rR (K:=K) rfl (af 9) rfl) aj))) aj))))) c3)))))))
   (aW (bB (af 7))))))),?_⟩
 obtain ⟨v1,rfl,au⟩:=r.inv1
 obtain ⟨a,xs,rfl,hx,aD⟩:=au.fS
 obtain ⟨b,ua,rfl,vE,sL⟩:∃b ua,xs=[.str w,.int ao,.int p,.ref b,ua]/\a7 M H (.ref b) (dr ns)/\a7 M H ua d:=by
  cases aD with
  | cons eH t1 =>
   cases eH
   cases t1 with
   | cons dw cj =>
    cases dw
    cases cj with
    | cons ec t3 =>
     cases ec
     cases t3 with
     | cons fJ gu =>
      cases gu with
      | cons ni qg=>
       cases qg
       obtain ⟨b,ys,rfl,_,_⟩:=(a7.rw fJ).fS
       exact ⟨b,_,rfl,fJ,ni⟩
 have aC:=hx _ (M.cK _)
 refine ⟨_,rfl,a,_,rfl,aC,rfl,_,_,rfl,_,_,rfl,_,_,rfl,_,_,rfl,_,_,rfl,rfl,?_⟩
 refine ⟨by show 9<=sizeLine;decide,fun t0 h0=>?_⟩
 have gw:=bY h0 (.tup [V.str "primes",V.str "whole",V.str "beneath",V.str "judge",V.str "share",V.str "row",V.str "far",V.str "cut",V.str "rest"])
 have oG:=M.eC ok gw
 have GI:upd H t0 (.tup [V.str "primes",V.str "whole",V.str "beneath",V.str "judge",V.str "share",V.str "row",V.str "far",V.str "cut",V.str "rest"]) t0=some (.tup [V.str "primes",V.str "whole",V.str "beneath",V.str "judge",V.str "share",V.str "row",V.str "far",V.str "cut",V.str "rest"]):=bo
 generalize upd H t0 (.tup [V.str "primes",V.str "whole",V.str "beneath",V.str "judge",V.str "share",V.str "row",V.str "far",V.str "cut",V.str "rest"])=cy at gw oG GI ⊢
 replace vE:=vE.aI (M.same gw)
 replace sL:=sL.aI (M.same gw)
 refine abS (fun aE c h6 J=>∃cl aR dY db x y ag,nd w ao p ns d=.x cl aR [dY,db]/\j0 (.x cl aR [dY,db])/\aE=[some (.ref a),some (.str w),some (.int ao),some (.int p),some (.ref b),some ua,some (.ref t0),some (.str "()"),none,none]/\M.st cy ag/\M.ok ag n/\aP M ag [x,y] [dY,db]/\sl K cl (wa aR [x,y]) ag c h6 J) ?_ ?_
 ·rintro aE c h6 J ⟨cl,aR,dY,db,x,y,ag,ha,VB,rfl,hJ,tI,iQ,C,aq,aD,rfl,rfl,ee,ar,ai,az⟩
  cases VB with
  | p fu kh =>
   obtain ⟨kQ,EA,dK,fd,S⟩:=T.wH
   refine ⟨C,aq,rfl,rfl,D6 S ee BU,?_⟩
   have gK:=Ce S ee
   refine ⟨_,rfl,aq,C,_,aD,_,false,ai,az,gK,.inl ⟨rr,true,rfl,T.Sw _ _ ee BW,_,rfl,?_⟩⟩
   refine n6 ?_
   refine ⟨_,rfl,.inr (.inr (.inr ⟨_,_,rfl,rfl,by rw[afW];decide,?_⟩))⟩
   refine ⟨_,rfl,aq,C,_,aD,_,false,x,rfl,ai,az,gK,r9 S ee (by simp),rfl,?_⟩
   refine ⟨_,rfl,aq,C,_,aD,_,false,y,rfl,ai,az,gK,r9 S ee (by simp),rfl,jx,fun dm aH=>?_⟩
   have h4:=bY aH (.tup [x,y])
   have sM:aS K (upd J dm (.tup [x,y])) (.ref dm) (.tuple [dY,db]):=.tup (bp.of bo) ((aP.b1 iQ).mono (ar.trans h4))
   obtain ⟨fw,il⟩:∃k,k=(PyData.tuple [dY,db]).shown:=⟨_,rfl⟩
   refine ⟨_,_,fw,rfl,sM,fu.tU,il,.inr (.inr (.inr ⟨_,_,rfl,rfl,?_,?_⟩))⟩
   ·have:=fu.e1
    rw[il,afW]
    have e:(("refused":Str)++(" paper ":Str)).length<=20:=by decide
    lia
   replace ai:=h4 _ _ ai
   replace az:=h4 _ _ az
   refine ⟨_,rfl,aq,C,_,aD,_,false,ai,az,gK,.inl ⟨rt,false,rfl,T.Sx _ _ ee BX,_,rfl,?_⟩⟩
   refine kN ?_
   refine ⟨_,rfl,aq,C,_,aD,_,false,ai,az,gK,.inl ⟨ru,false,rfl,T.Sy _ _ ee BY,_,rfl,?_⟩⟩
   refine kN ?_
   refine ⟨_,rfl,?_⟩
   rw[ha]at q
   replace q:=q (((du.lit "refused").app (du.lit " paper ")).app (dt.aa kh)).ok
   rw[il]
   exact k _ _ (.d (.str (mJ (.x "NoPaper" ["word","place"] [dY,db])))) n (M.trans (M.same gw) (M.trans hJ (M.same (ar.trans h4)))) (M.eC tI (ar.trans h4)) (a7.rw (.str _)) q
  | r fu kh =>
   obtain ⟨kQ,EA,dK,fd,S⟩:=T.wI
   refine ⟨C,aq,rfl,rfl,D6 S ee BU,?_⟩
   have gK:=Ce S ee
   refine ⟨_,rfl,aq,C,_,aD,_,false,ai,az,gK,.inl ⟨rr,false,rfl,T.Sz _ _ ee BW,_,rfl,?_⟩⟩
   refine kN ?_
   refine ⟨_,rfl,aq,C,_,aD,_,false,ai,az,gK,.inl ⟨rt,true,rfl,T.SA _ _ ee BX,_,rfl,?_⟩⟩
   refine n6 ?_
   refine ⟨_,rfl,.inr (.inr (.inr ⟨_,_,rfl,rfl,by rw[afW];decide,?_⟩))⟩
   refine ⟨_,rfl,aq,C,_,aD,_,false,x,rfl,ai,az,gK,r9 S ee (by simp),rfl,?_⟩
   refine ⟨_,rfl,aq,C,_,aD,_,false,y,rfl,ai,az,gK,r9 S ee (by simp),rfl,jx,fun dm aH=>?_⟩
   have h4:=bY aH (.tup [x,y])
   have sM:aS K (upd J dm (.tup [x,y])) (.ref dm) (.tuple [dY,db]):=.tup (bp.of bo) ((aP.b1 iQ).mono (ar.trans h4))
   obtain ⟨fw,il⟩:∃k,k=(PyData.tuple [dY,db]).shown:=⟨_,rfl⟩
   refine ⟨_,_,fw,rfl,sM,fu.tU,il,.inr (.inr (.inr ⟨_,_,rfl,rfl,?_,?_⟩))⟩
   ·have:=fu.e1
    rw[il,afW]
    have e:(("refused":Str)++(" rest ":Str)).length<=20:=by decide
    lia
   replace ai:=h4 _ _ ai
   replace az:=h4 _ _ az
   refine ⟨_,rfl,aq,C,_,aD,_,false,ai,az,gK,.inl ⟨ru,false,rfl,T.SD _ _ ee BY,_,rfl,?_⟩⟩
   refine kN ?_
   refine ⟨_,rfl,?_⟩
   rw[ha]at q
   replace q:=q (((du.lit "refused").app (du.lit " rest ")).app (dt.aa kh)).ok
   rw[il]
   exact k _ _ (.d (.str (mJ (.x "NoRest" ["number","prime"] [dY,db])))) n (M.trans (M.same gw) (M.trans hJ (M.same (ar.trans h4)))) (M.eC tI (ar.trans h4)) (a7.rw (.str _)) q
  | u fu kh =>
   obtain ⟨kQ,EA,dK,fd,S⟩:=T.Cc
   refine ⟨C,aq,rfl,rfl,D6 S ee BU,?_⟩
   have gK:=Ce S ee
   refine ⟨_,rfl,aq,C,_,aD,_,false,ai,az,gK,.inl ⟨rr,false,rfl,T.SE _ _ ee BW,_,rfl,?_⟩⟩
   refine kN ?_
   refine ⟨_,rfl,aq,C,_,aD,_,false,ai,az,gK,.inl ⟨rt,false,rfl,T.SF _ _ ee BX,_,rfl,?_⟩⟩
   refine kN ?_
   refine ⟨_,rfl,aq,C,_,aD,_,false,ai,az,gK,.inl ⟨ru,true,rfl,T.SG _ _ ee BY,_,rfl,?_⟩⟩
   refine n6 ?_
   refine ⟨_,rfl,.inr (.inr (.inr ⟨_,_,rfl,rfl,by rw[afW];decide,?_⟩))⟩
   refine ⟨_,rfl,aq,C,_,aD,_,false,x,rfl,ai,az,gK,r9 S ee (by simp),rfl,?_⟩
   refine ⟨_,rfl,aq,C,_,aD,_,false,y,rfl,ai,az,gK,r9 S ee (by simp),rfl,jx,fun dm aH=>?_⟩
   have h4:=bY aH (.tup [x,y])
   have sM:aS K (upd J dm (.tup [x,y])) (.ref dm) (.tuple [dY,db]):=.tup (bp.of bo) ((aP.b1 iQ).mono (ar.trans h4))
   obtain ⟨fw,il⟩:∃k,k=(PyData.tuple [dY,db]).shown:=⟨_,rfl⟩
   refine ⟨_,_,fw,rfl,sM,fu.tU,il,.inr (.inr (.inr ⟨_,_,rfl,rfl,?_,?_⟩))⟩
   ·have:=fu.e1
    rw[il,afW]
    have e:(("refused":Str)++(" turn ":Str)).length<=20:=by decide
    lia
   replace ai:=h4 _ _ ai
   replace az:=h4 _ _ az
   refine ⟨_,rfl,?_⟩
   rw[ha]at q
   replace q:=q (((du.lit "refused").app (du.lit " turn ")).app (dt.aa kh)).ok
   rw[il]
   exact k _ _ (.d (.str (mJ (.x "NoTurn" ["word","thing"] [dY,db])))) n (M.trans (M.same gw) (M.trans hJ (M.same (ar.trans h4)))) (M.eC tI (ar.trans h4)) (a7.rw (.str _)) q
 intro bF Gf
 refine ⟨fun σ qP=>∃v d',σ=[some (.ref a),some (.str w),some (.int ao),some (.int p),some (.ref b),some ua,some (.ref t0),some (.str "()"),some v,none]/\nd w ao p ns d=.t d'/\b4 60 8000000 d'/\dt d'=true/\aS K qP v d'/\((o_ d'=false/\M.st cy qP/\M.ok qP n)\/(o_ d'=true/\∃q ys,v=.ref q/\cy q=none/\qP q=some (.lst ys)/\bb cy qP)),?_,?_⟩
 ·refine ⟨_,rfl,_,rfl,t0,_,rfl,.inr (bp.of GI),rfl,rfl,?_⟩
  refine ⟨_,rfl,?_⟩
  show (if (rk (V.str w) _)=true then _ else _)
  rw[RW]
  refine fG (fun c=>?_) (fun c=>?_)
  ·have bG:w∈ub:=afS c
   have aq:nd w ao p ns d=ml w ao p d:=afD bG
   refine ⟨_,rfl,_,rfl,_,rfl,_,rfl,M,_,n,(fun dn ax=>∃d',ml w ao p d=.t d'/\j0 (.t d')/\dn=.d d'/\ax=n),(fun cl aR ds ax=>ml w ao p d=.x cl aR ds/\j0 (.x cl aR ds)/\ax=n),oG,.cons (a7.rw (.str w)) (.cons (a7.rw (.int ao)) (.cons (a7.rw (.int p)) (.cons (a7.rw sL) .nil))),⟨w,ao,p,d,rfl,dg.d0,dg.ax,dg.pp,dg.e0,fun fh=>?_⟩,fun v J dn ax st hU hW aM=>?_,fun cl aR aa ds J ax st hU iQ tg=>?_⟩
   ·cases he:ml w ao p d with
    | t d'=>rw[he]at fh;exact ⟨d',rfl,fh,rfl,rfl⟩
    | x cl aR ds=>rw[he]at fh;exact ⟨rfl,fh,rfl⟩
   ·obtain ⟨d',he,fh,rfl,rfl⟩:=aM
    cases fh with
    | t fu kh=>exact ⟨v,d',rfl,aq.trans he,fu,kh,a7.b1 hW,.inl ⟨Nn he,st,hU⟩⟩
   ·obtain ⟨he,fh,rfl⟩:=tg
    obtain ⟨dY,db,rfl⟩:∃dY db,ds=[dY,db]:=by cases fh<;>exact ⟨_,_,rfl⟩
    obtain ⟨x,y,rfl⟩:∃x y,aa=[x,y]:=by
     cases iQ with
     | cons a b=>cases b with
      | cons c e=>cases e;exact ⟨_,_,rfl⟩
    exact sl.raises (fun c h6 fW h=>Gf _ _ _ _ ⟨cl,aR,dY,db,x,y,J,aq.trans he,fh,rfl,st,hU,iQ,h⟩) (bb.refl _)
  ·have bG : w ∉ ub := fun z => c (afI z)
   have aq:nd w ao p ns d=j2 w ao ns d:=afC bG
   by_cases kc:w="all"
   ·subst kc
    have SO:gx (dr ns)=true:=by
     have:∀l:List Int,h9 (l.map PyData.int)=true:=fun l=>by
      induction l with
      | nil=>simp only[agt,h9]
      | cons i l bl=>simp only[af8,h9,afM];exact ⟨by simp only[gx],bl⟩
     simp only[gx];exact this ns
    refine ⟨_,rfl,_,rfl,_,rfl,_,rfl,qh K (xS cy) cy,_,n,(fun dn ax=>∃d',j2 "all" ao ns d=.t d'/\j0 (.t d')/\dn=.d d'/\ax=n),(fun cl aR ds ax=>False),bb.refl _,.cons (a7.rw (.str _)) (.cons (a7.rw (.int ao)) (.cons (a7.rw (a7.mH oG vE SO)) (.cons (a7.rw (a7.mH oG sL dg.li)) .nil))),⟨_,ao,ns,d,rfl,dg.d0,dg.ax,dg.nl,dg.nb,dg.e0,dg.sw,dg.eo,dg.l0,fun fh=>?_⟩,fun v J dn ax st hU hW aM=>?_,fun cl aR aa ds J ax st hU iQ tg=>tg.elim⟩
    ·rw[EV]at fh ⊢
     exact ⟨_,rfl,fh,rfl,rfl⟩
    ·obtain ⟨d',he,fh,rfl,rfl⟩:=aM
     have oC:d'=.list ((jo (ao%6).toNat (ao%6).toNat).map dr):=by
      rw[EV]at he;cases he;rfl
     cases fh with
     | t fu kh =>
      have Av:a7 (qh K (xS cy) cy) J v d':=hW
      refine ⟨v,d',rfl,aq.trans he,fu,kh,a7.b1 Av,.inr ⟨by rw[oC];rfl,?_⟩⟩
      subst oC
      obtain ⟨bD,rfl⟩:∃bD,v=.ref bD:=by cases Av with|lst h t=>exact ⟨_,rfl⟩
      obtain ⟨hf,ys,hy,gn⟩:=aat Av
      refine ⟨bD,ys,rfl,?_,hy,st⟩
      rcases hf with hf|⟨ms,hm⟩
      ·exact hf
      ·exfalso
       have e:=st _ _ hm
       rw[hy]at e
       have az:ys=ms.map V.int:=by cases e;rfl
       subst az
       have c7:=Nz ⟨(ao%6).toNat,by lia⟩
       cases hb:jo (ao%6).toNat (ao%6).toNat with
       | nil=>exact c7 hb
       | cons gq rest =>
        rw[hb]at gn
        cases ms with
        | nil=>cases gn
        | cons m0 ms=>
         cases gn with
         | cons h1 _=>cases h1
   ·refine ⟨_,rfl,_,rfl,_,rfl,_,rfl,M,_,n,(fun dn ax=>∃d',j2 w ao ns d=.t d'/\j0 (.t d')/\dn=.d d'/\ax=n),(fun cl aR ds ax=>j2 w ao ns d=.x cl aR ds/\j0 (.x cl aR ds)/\ax=n),oG,.cons (a7.rw (.str w)) (.cons (a7.rw (.int ao)) (.cons (a7.rw vE) (.cons (a7.rw sL) .nil))),⟨w,ao,ns,d,rfl,dg.d0,dg.ax,dg.nl,dg.nb,dg.e0,dg.sw,dg.eo,dg.l0,fun fh=>?_⟩,fun v J dn ax st hU hW aM=>?_,fun cl aR aa ds J ax st hU iQ tg=>?_⟩
    ·cases he:j2 w ao ns d with
     | t d'=>rw[he]at fh;exact ⟨d',rfl,fh,rfl,rfl⟩
     | x cl aR ds=>rw[he]at fh;exact ⟨rfl,fh,rfl⟩
    ·obtain ⟨d',he,fh,rfl,rfl⟩:=aM
     cases fh with
     | t fu kh=>exact ⟨v,d',rfl,aq.trans he,fu,kh,a7.b1 hW,.inl ⟨Np kc he,st,hU⟩⟩
    ·obtain ⟨he,fh,rfl⟩:=tg
     obtain ⟨dY,db,rfl⟩:∃dY db,ds=[dY,db]:=by cases fh<;>exact ⟨_,_,rfl⟩
     obtain ⟨x,y,rfl⟩:∃x y,aa=[x,y]:=by
      cases iQ with
      | cons a b=>cases b with
       | cons c e=>cases e;exact ⟨_,_,rfl⟩
     exact sl.raises (fun c h6 fW h=>Gf _ _ _ _ ⟨cl,aR,dY,db,x,y,J,aq.trans he,fh,rfl,st,hU,iQ,h⟩) (bb.refl _)
 rintro σ qP ⟨v,d',rfl,ha,fu,kh,b1,hc⟩
 obtain ⟨fw,il⟩:∃k,k=d'.shown:=⟨_,rfl⟩
 refine ⟨_,rfl,v,d',fw,rfl,b1,fu.tU,il,.inr (.inr (.inr ⟨_,_,rfl,rfl,?_,?_⟩))⟩
 ·have:=fu.e1
  rw[il,afW]
  have e:("told ":Str).length=5:=by decide
  lia
 refine ⟨_,rfl,_,mR d',"list",o_ d',rfl,b1.ty,aak d',_,rfl,?_⟩
 rw[ha]at q
 replace q:=q ((du.lit "told ").app (dt.aa kh)).ok
 rcases hc with ⟨hl,st,hU⟩|⟨hl,UE,ys,rfl,GC,GD,e0⟩
 ·rw[hl]
  refine kN ?_
  refine ⟨_,rfl,?_⟩
  rw[il]
  exact k _ _ (.d (.str (mJ (.t d')))) n (M.trans (M.same gw) st) hU (a7.rw (.str _)) q
 ·rw[hl]
  refine n6 ?_
  refine ⟨_,rfl,.inl ⟨rfl,_,bP.of GD⟩,UE,ys,rfl,rfl,GD,?_⟩
  refine ⟨_,rfl,?_⟩
  rw[il]
  exact k _ _ (.d (.str (mJ (.t d')))) n (M.trans (M.same gw) (M.oX _ oG GC (M.same e0))) (M.oY _ oG GC (M.same e0) (M.eC oG e0)) (a7.rw (.str _)) q
theorem yq:c0 K (HP K) sj:=c0.refl
noncomputable def hY:PyData->PyData
 | .tuple [.str w,.int n,.int p,.tuple ds,d]=>.str (mJ (nd w n p (ds.map cH) d))
 | _=>.none
def vj (q:PyData):Prop:=∃(w:Str) (n p:Int) (ns:ajH) (d:PyData),q=.tuple [.str w,.int n,.int p,dr ns,d]/\0<=n/\n<=10/\p∈p5/\ns.length<=6/\(∀x∈ns,-5<x/\x<5)/\sE d/\(PyData.str w).shown.length<=20
theorem Ai (h:vj q){Q:b7}(aM:(hY q).canLay0=true->Q (.d (hY q)) k):sj [.d q] k Q:=by
 obtain ⟨w,n,p,ns,d,rfl,h1,h2,aQ,bS,c1,hE,_⟩:=h
 refine ⟨w,n,p,ns,d,rfl,⟨h1,h2,aQ,bS,c1,hE.e0,hE.sw,hE.eo,hE.li,hE.l0⟩,fun aX=>?_⟩
 have e:hY (.tuple [.str w,.int n,.int p,dr ns,d])=.str (mJ (nd w n p ns d)):=by
  show PyData.str (mJ (nd w n p ((ns.map PyData.int).map cH) d))=_
  rw[Iu]
 rw[e]at aM;exact aM (by simp only[PyData.canLay0];exact aX)
theorem UK (h:vj q):∃s:Str,hY q=.str s:=by
 obtain ⟨w,n,p,ns,d,rfl,_⟩:=h
 exact ⟨_,rfl⟩
theorem UL (h:vj q):b4 6 (5*(1000+2)+4) q:=by
 obtain ⟨w,n,p,ns,d,rfl,h1,h2,aQ,bS,c1,hE,la⟩:=h
 have hp:=Hf aQ
 exact b4.tup (n:=5) (v:=1000) (ds:=[.str w,.int n,.int p,dr ns,d]) fun e he=>by
  simp only[afP,agg,agh]at he
  rcases he with rfl|rfl|rfl|rfl|rfl
  ·exact (b4.str la).mono (by decide) (by decide)
  ·exact (ks ⋯ ⋯).mono (by decide) (by decide)
  ·exact (ks ⋯ ⋯).mono (by decide) (by decide)
  ·exact (Hs bS c1).sw
  ·exact hE.sw
theorem GS:∀{l:ajz},(∀e∈l,(∃s:Str,e=.str s)/\e.canLay0=true)->PyData.canLayAll0 l=true/\PyData.depthAll l=0
 | [],_=>⟨by simp only[PyData.canLayAll0],by simp only[PyData.depthAll]⟩
 | e::l,h=>by
  obtain ⟨⟨s,rfl⟩,hc⟩:=h e (af6 ..)
  obtain ⟨h1,h2⟩:=GS (l:=l) fun x hx=>h x (af5 _ hx)
  exact ⟨by simp only[PyData.canLayAll0,hc,h1,Bool.and_self],by simp only[PyData.depthAll,PyData.depth,h2];rfl⟩
theorem V1 {l:ajz}(h:∀e∈l,(∃s:Str,e=.str s)/\e.canLay0=true):je (.list l) (.list l)/\PyData.eqv (.list l) (.list l)=true:=by
 obtain ⟨h1,h2⟩:=GS h
 have c:(PyData.list l).canLay0=true:=by simp only[PyData.canLay0];exact h1
 exact ⟨⟨c,c,by simp only[PyData.depth];rw[h2];decide⟩,PySem.SeqAt.eqv_refl _ c⟩
def tY (K:ajA):b_:=fun aa H Q _=>∃(a:Addr) (ns:ajH),aa=[.ref a]/\bP K H a (ns.map V.int)/\ns.length<=63/\∀J,Q (.aG true) J
theorem rD:b0 ["_law_script","_law_feed_here","_law_questions","_law_kept","_law_first","_law_again"] ["_law_script"] (bu nD):=(by walk_at "sc")
theorem OV (T:Txt K mg):Def P w K mg base "law" ["_law_script"] 11 (tY K):=by
 refine Def.c8 T.QF rD (fun aa H Q E h=>?_) (by walk_at "b1") (fun f a6 A outer s H aa Q E hr h=>?_)
 ·obtain ⟨a,ns,rfl,_⟩:=h
  rfl
 obtain ⟨a,ns,rfl,fL,hl,q⟩:=h
 refine ⟨_,(aV (ck (i:=1) rD.aT rfl (by walk_at "lc") (a5 (Ox T) hr (ae (af 0) aj)))
   (aV (wW (i:=2) (N:=["_law_k","_law_feed_here"]) (is:=[none,some 1]) rD.aT rfl rfl rfl ⟨rfl,rfl,by decide +kernel,by decide +kernel,⟨rfl,trivial⟩,rfl,⟨⟨rfl,rfl,rfl⟩,trivial⟩⟩ (nN rfl T.iO (ae ay aj)) (fun _ _ _ _ _=>(dq (i:=0) (show List.Nodup (["_law_k","_law_feed_here"]:ajD) from by decide +kernel) rfl (by walk_at "lc"))) (fun _ _ _ _ _=>mP) (fun _ _ _ _ _=>(a5 (OD T) hr (ae (af 1) aj))))
   (aV (ck (i:=3) rD.aT rfl (by walk_at "lc") (dp (Cr (K:=K) rfl hr) rfl T.qZ rZ (ae (af 2) aj)))
   (aV (wW (i:=4) (N:=["_law_question_here"]) (is:=[none]) rD.aT rfl rfl rfl ⟨rfl,rfl,by decide +kernel,by decide +kernel,trivial,rfl,trivial⟩ (uB (K:=K) rfl (af 2)) (fun _ _ _ _ _=>(dq (i:=0) (show List.Nodup (["_law_question_here"]:ajD) from by decide +kernel) rfl (by walk_at "lc"))) (fun _ _ _ _ _=>mP) (fun _ _ _ _ _=>(a5 (yz T) hr (ae (af 0) aj))))
   (aV (wW (i:=5) (N:=["_law_question_here"]) (is:=[none]) rD.aT rfl rfl rfl ⟨rfl,rfl,by decide +kernel,by decide +kernel,trivial,rfl,trivial⟩ (uB (K:=K) rfl (JA (K:=K) rfl (af 2) (qm (kI kG ay)))) (fun _ _ _ _ _=>(dq (i:=0) (show List.Nodup (["_law_question_here"]:ajD) from by decide +kernel) rfl (by walk_at "lc"))) (fun _ _ _ _ _=>mP) (fun _ _ _ _ _=>(a5 (yz T) hr (ae (af 0) aj))))
   (aV (c4 (gQ.pt (nZ (cn (o9 (K:=K) rfl hr) (JA (K:=K) rfl (af 5) (qm (kI kG ay))) (af 4) (b6 _)) (o5 (cn (o9 (K:=K) rfl hr) (o2 (N:=["_law_question_here"]) (is:=[none]) rfl ⟨rfl,rfl,by decide +kernel,by decide +kernel,trivial,rfl,trivial⟩ (uB (K:=K) rfl (af 2)) (fun _ _ _ _ _=>(dq (i:=0) (show List.Nodup (["_law_question_here"]:ajD) from by decide +kernel) rfl (by walk_at "lc"))) (fun _ _ _ _ _=>mP) (fun _ _ _ _ _=>(a5 (yz T) hr (ae (af 0) aj)))) (af 4) (b6 _))))) (aW (bB lx)) c3)
   (aW (bB (l5 (eW (K:=K) rfl hr) (dp (Cr (K:=K) rfl hr) rfl T.qZ rZ (ae (af 2) aj)) (af 3) (b6 _)))))))))),?_⟩
 refine ⟨_,rfl,a,ns,rfl,fL,hl,fun t H1 s1 om=>?_⟩
 refine adI (b9 (eV (b:=false) (a9.x (qq (rT (ak ba aN)) nT qw (cA c0.refl (ak aw aN)))))
   (b9 (eV (b:=false) (a9.x (gX Lm (ak aw aN))))
   (b9 (eV (b:=false) (a9.x (qq (uJ aw) nT qw (cA yq (ak aw aN)))))
   (b9 (eV (b:=false) (a9.x (qq (uJ (Ka aw)) nT qw (cA yq (ak aw aN)))))
   (b9 (eh (b:=false) (cL.x (qD (dC (bh ph (Ka aw) aw)) (dC (bh ph (qq (uJ aw) nT qw (cA yq (ak aw aN))) aw)))) (dA (b:=false) (a9.x n0)) eg)
   (dA (b:=false) (a9.x (bh eX (gX Lm (ak aw aN)) aw)))))))) om q ?_
 refine ⟨⟨by decide,by decide⟩,?_⟩
 refine ⟨by decide,?_⟩
 refine qv (fun i δ acc k=>k<=30*i/\(∃y,δ=[y,some (.t 2)])/\acc.length=i/\∀q∈acc,vj q) ⟨by lia,⟨_,rfl⟩,rfl,fun q aM=>by cases aM⟩ (fun i d δ acc k R hd hp dF=>?_) (fun δ dg k hp=>?_)
 ·obtain ⟨hk,⟨y,rfl⟩,sZ,aM⟩:=hp
  obtain ⟨hi,rfl⟩:=o1 hd
  refine ⟨rfl,by lia,fun w n p ns d cO h1 h2 aQ bS c1 hE la f6=>?_⟩
  refine dF _ _ _ ⟨by lia,⟨_,rfl⟩,by rw[afZ,sZ];rfl,fun q iY=>?_⟩
  rcases agn.mp iY with iY|iY
  ·exact aM q iY
  ·rw[af2.mp iY]
   exact ⟨w,n,p,ns,d,rfl,h1,h2,aQ,bS,c1,hE,la⟩
 obtain ⟨hk,⟨y,rfl⟩,sZ,aM⟩:=hp
 have sZ:dg.length=5:=sZ
 have sw:oh (.list dg):=((b4.lst (n:=6) (v:=5*(1000+2)+4) (ds:=dg) fun q iY=>UL (aM q iY)).mono (show 7<=8 by decide) (by rw[sZ];decide:_<=40000)).tU
 refine K4 sw fun fw Pm=>?_
 have comp:∀(l:ajz)(z:g4)(k:Nat)(Q:b7),True:=fun _ _ _ _=>trivial
 refine tP ?_
 refine ⟨by lia,?_⟩
 refine qv (fun i δ acc cO=>cO=k/\(∃y,δ=[y])/\acc=(dg.take i).map hY/\∀e∈acc,e.canLay0=true) ⟨rfl,⟨_,rfl⟩,rfl,fun e he=>by cases he⟩ (fun i d δ acc cO R hd hp dF=>?_) (fun δ acc cO hp=>?_)
 ·obtain ⟨rfl,⟨y,rfl⟩,rfl,hc⟩:=hp
  show sj [.d d] _ (fun w cX=>match w with|.d y=>R [some (.d d)] ((dg.take i).map hY++[y]) cX|_=>False)
  refine Ai (aM d (agD hd)) fun lb=>?_
  refine dF [some (.d d)] ((dg.take i).map hY++[hY d]) _ ⟨rfl,⟨_,rfl⟩,by rw[qk hd,af9];rfl,fun e he=>?_⟩
  rcases agn.mp he with he|he
  ·exact hc e he
  ·rw[af2.mp he];exact lb
 obtain ⟨rfl,⟨y,rfl⟩,rfl,Gp⟩:=hp
 rw[agM]at Gp ⊢
 have hst:∀e∈dg.map hY,(∃s:Str,e=.str s)/\e.canLay0=true:=fun e he=>⟨by
  obtain ⟨bD,iY,rfl⟩:=agd.mp he
  exact UK (aM bD iY),Gp e he⟩
 obtain ⟨Ha,FK⟩:=V1 hst
 refine Ao ?_
 refine tP ?_
 refine ⟨by rw[ait];lia,?_⟩
 refine qv (fun i δ acc vZ=>vZ=cO/\(∃y,δ=[y])/\acc=(dg.reverse.take i).map hY) ⟨rfl,⟨_,rfl⟩,rfl⟩ (fun i d δ acc vZ R hd hp dF=>?_) (fun δ acc vZ hp=>?_)
 ·obtain ⟨rfl,⟨y,rfl⟩,rfl⟩:=hp
  show sj [.d d] _ (fun w cX=>match w with|.d y=>R [some (.d d)] ((dg.reverse.take i).map hY++[y]) cX|_=>False)
  refine Ai (aM d (List.mem_reverse.mp (agD hd))) fun lb=>?_
  exact dF [some (.d d)] ((dg.reverse.take i).map hY++[hY d]) _ ⟨rfl,⟨_,rfl⟩,by rw[qk hd,af9];rfl⟩
 obtain ⟨rfl,⟨y,rfl⟩,rfl⟩:=hp
 rw[agM]
 refine Ao ?_
 rw[<-List.map_reverse,List.reverse_reverse]
 refine xy Ha ?_
 rw[FK]
 refine tP ?_
 refine ⟨by lia,?_⟩
 refine qv (fun i δ acc cO=>cO=vZ/\(∃y,δ=[y])/\acc=(dg.take i).map hY) ⟨rfl,⟨_,rfl⟩,rfl⟩ (fun i d δ acc cO R hd hp dF=>?_) (fun δ acc cO hp=>?_)
 ·obtain ⟨rfl,⟨y,rfl⟩,rfl⟩:=hp
  show sj [.d d] _ (fun w cX=>match w with|.d y=>R [some (.d d)] ((dg.take i).map hY++[y]) cX|_=>False)
  refine Ai (aM d (agD hd)) fun lb=>?_
  exact dF [some (.d d)] ((dg.take i).map hY++[hY d]) _ ⟨rfl,⟨_,rfl⟩,by rw[qk hd,af9];rfl⟩
 obtain ⟨rfl,⟨y,rfl⟩,rfl⟩:=hp
 rw[agM]
 refine xy Ha ?_
 rw[FK]
 refine K4 sw fun k2 az=>?_
 exact iC (fun _=>rfl) (fun c=>absurd (az.trans Pm.symm) c)
end
variable {K:ajA}{st:Stmt}{f:Addr}{h:Heap}{mg:ajy}{w:World}{l:PySem.W.OpenLaw}
def cf (K:ajA)(y x:Str)(st:Stmt):Prop:=∃(f:Addr) (od an:ajF) (bR:ajB) (e_ cQ q6 pm cd cq:Value),nsIn K mainGlobals y=some (some (.ref f))/\K.lookup f=some ⟨e_,od,.func (fnOf x x (iz st) (gc st) (bu st) .none cQ q6 pm an cd cq),bR⟩/\codeIn K cd x=true/\keepIn K (.ref f)=true
abbrev aX1 (K:ajA)(y:Str)(st:Stmt):Prop:=cf K y y st
theorem fq_mk {y x:Str}{od an:ajF}{bR:ajB}{e_ cQ q6 pm cd cq:Value}(a:nsIn K mainGlobals y=some (some (.ref f)))(l:K.lookup f=some ⟨e_,od,.func (fnOf x x (iz st) (gc st) (bu st) .none cQ q6 pm an cd cq),bR⟩)(c:codeIn K cd x=true)(k:keepIn K (.ref f)=true):cf K y x st:=⟨f,od,an,bR,e_,cQ,q6,pm,cd,cq,a,l,c,k⟩
theorem srcOf {y x:Str}(X:K.In h)(G:h.Ns mainGlobals mg)(q:cf K y x st):Src K mg y x st:=by obtain ⟨f,_,_,_,_,_,_,_,_,_,a,l,c,k⟩:=q;exact ⟨f,_,r7 l c k,mg_of X G a⟩
theorem o_law {P:Program}{base:Heap}{fd:FuncData}(T:Txt K mg)(F:me K "law" "law" nD f fd)(m:mg "law"=some (.ref f)):hA P w K mg base hz 11 f fd ["_law_script"] (tY K):=(OV T).fn F m
theorem all_mk {fa:Addr}(X:K.In h)(G:h.Ns mainGlobals mg)(Ri:mg "law"=some (.ref fa))
  (aL:aX1 K "is_whole" Ba)
  (bU:aX1 K "are_whole" A6)
  (df:aX1 K "row_by_steps" AU)
  (jz:aX1 K "row_by_sums" A5)
  (Ul:aX1 K "table_to" A7)
  (Ag:aX1 K "turns_of" Bc)
  (jA:aX1 K "lets_table" Bq)
  (hI:cf K "has_shape_tablejudge" "has_shape" AW)
  (Ah:aX1 K "due_behind" By)
  (Af:aX1 K "is_prime" AB)
  (TC:aX1 K "primes_to" AD)
  (TF:aX1 K "choose" AL)
  (TG:aX1 K "common_of" Bw)
  (TH:aX1 K "lowest" Bx)
  (TJ:aX1 K "plus" BF)
  (TK:aX1 K "minus" BG)
  (TL:aX1 K "times" BB)
  (TM:aX1 K "power_of" Bt)
  (TN:aX1 K "whole_of" Bo)
  (TO:aX1 K "step_of" Bm)
  (TP:aX1 K "row_to" AJ)
  (TQ:aX1 K "number_at" A9)
  (TR:aX1 K "primes_beneath" AR)
  (TS:aX1 K "whole_at" Bp)
  (TU:aX1 K "with_parts" A2)
  (TV:aX1 K "beneath_paper" AZ)
  (TX:aX1 K "lets_beneath" A4)
  (TY:cf K "has_shape_beneathjudge" "has_shape" AP)
  (TZ:aX1 K "is_turn" BD)
  (T1:aX1 K "has_each_once" Be)
  (T2:aX1 K "turns_within" Bf)
  (T3:aX1 K "goes_down" BA)
  (T4:aX1 K "turns_down" Bk)
  (T5:aX1 K "may_follow" Br)
  (T6:aX1 K "turn_at" Bu)
  (T7:aX1 K "place_of" Bj)
  (T8:aX1 K "how_many_begin" AY)
  (T9:aX1 K "rest_of" AM)
  (T_:aX1 K "rest_of_power" AO)
  (Ua:aX1 K "inverse_of" Bv)
  (Ub:aX1 K "cut_sum" Bn)
  (Uc:aX1 K "lets_rest" Bz)
  (Ud:aX1 K "factor_of" A3)
  (Ue:aX1 K "told_rest" A_)
  (Ug:aX1 K "share_rest" Bl)
  (Uh:aX1 K "row_rest" AI)
  (Ui:aX1 K "far_rest" AH)
  (Uj:aX1 K "rest_paper" Bs)
  (Uk:aX1 K "trimmed" AK)
  (Um:aX1 K "power_poly" Bd)
  (Un:aX1 K "value_at" Bi)
  (Uo:aX1 K "poly_scaled" A8)
  (Up:aX1 K "signed" AG)
  (Uq:aX1 K "moved_from_above" AX)
  (Ur:aX1 K "turn_poly" AE)
  (Us:aX1 K "turns_by_row" A1)
  (Ut:aX1 K "number_by_turns" AS)
  (Uu:aX1 K "turns_by_poly" A0)
  (Uv:aX1 K "twos_product" Bh)
  (Uw:aX1 K "two_to" BE)
  (Ux:aX1 K "size_of" BC)
  (Uy:aX1 K "_law_feed" AF)
  (Uz:aX1 K "_law_draw" AQ)
  (UA:aX1 K "_law_ask_rests" Bb)
  (UB:aX1 K "_law_ask_rows" Bg)
  (UC:aX1 K "_law_said" AN)
  (UD:aX1 K "_law_question" AV)
  {vG:Addr}{Tq ET:ajF}{VC:ajB}{Tj GQ Fy Hj yv Fl:Value}(a68:nsIn K mainGlobals "law"=some (some (.ref vG)))(l68:K.lookup vG=some ⟨Tj,Tq,.func (fnOf "law" "law" (iz nD) (gc nD) (bu nD) .none GQ Fy Hj ET yv Fl),VC⟩)(c68:codeIn K yv "law"=true)(k68:keepIn K (.ref vG)=true)
  (z1:nsIn K mainGlobals "abs"=some none)
  (z2:nsIn K mainGlobals "all"=some none)
  (z3:nsIn K mainGlobals "bool"=some none)
  (z4:nsIn K mainGlobals "enumerate"=some none)
  (z5:nsIn K mainGlobals "int"=some none)
  (z6:nsIn K mainGlobals "isinstance"=some none)
  (z7:nsIn K mainGlobals "len"=some none)
  (z8:nsIn K mainGlobals "list"=some none)
  (z9:nsIn K mainGlobals "min"=some none)
  (z10:nsIn K mainGlobals "range"=some none)
  (z11:nsIn K mainGlobals "repr"=some none)
  (z12:nsIn K mainGlobals "reversed"=some none)
  (z13:nsIn K mainGlobals "sorted"=some none)
  (z14:nsIn K mainGlobals "sum"=some none)
  (z15:nsIn K mainGlobals "tuple"=some none)
  {Of:Tok}(y1:nsIn K mainGlobals "MOST_tablejudge"=some (some (.int (41) Of)))
  {Og:Tok}(y2:nsIn K mainGlobals "LAST_TRIED"=some (some (.int (1000) Og)))
  {Fg:Addr}{N5:ajF}{N8:ajB}{N_:Nat}{Om Oo:Tok}(y3:nsIn K mainGlobals "NOUGHT"=some (some (.ref Fg)))(w3:K.lookup Fg=some ⟨.type "tuple",N5,.seq #[.int (0) Om,.int (1) Oo] N_,N8⟩)
  {Fh:Addr}{N6:ajF}{N9:ajB}{Oa:Nat}{Oq Ot:Tok}(y4:nsIn K mainGlobals "ONE"=some (some (.ref Fh)))(w4:K.lookup Fh=some ⟨.type "tuple",N6,.seq #[.int (1) Oq,.int (1) Ot] Oa,N9⟩)
  {Oh:Tok}(y5:nsIn K mainGlobals "MOST_places"=some (some (.int (20) Oh)))
  {iI xV ve Na:Addr}{S7 UO:Str}{NG V3:ajC}{VH:ajD}{Ng:Bool}{Oc:Option Bool}{O0 Tr Nj:ajF}{R7 Sa Sg Sk So:Option Value}{VD:ajB}{Tn Ss OW Tw Fd Oi:Value}
  (ax1:nsIn K mainGlobals "NoPaper"=some (some (.ref iI)))(lx1:K.lookup iI=some (excClassObj S7 UO iI Na NG (.ref xV::gb) true VH V3 Ng Oc O0 R7 Sa Sg Sk So "ValueError.__new__"))
  (tx1:PySem.W.tailIn K gb (.ref xV::gb)=true)(ix1:findIn K (.ref iI) "__init__"=some (some (.ref ve)))(nx1:PySem.W.isFn K (.ref ve)=true)(px1:keepIn K (.ref iI)=true)
  (fx1:K.lookup ve=some ⟨Tn,Tr,.func (fnOf "__init__" "NoPaper.__init__" (iz (i_ (top 4) 0)) (gc (i_ (top 4) 0)) (bu (i_ (top 4) 0)) .none Ss OW Tw Nj Fd Oi),VD⟩)(cx1:codeIn K Fd "NoPaper.__init__"=true)(kx1:keepIn K (.ref ve)=true)
  (sax1:findIn K (.ref iI) "__setattr__"=some (some (.builtin "object.__setattr__")))(gax1:findIn K (.ref iI) "__getattribute__"=some (some (.builtin "BaseException.__getattribute__")))(ghx1:findIn K (.ref iI) "__getattr__"=some none)(cax1:findIn K (.ref iI) "__class__"=some (some (.builtin "object.__class__")))
  (cgx1:PySem.W.specialIn K (.builtin "object.__class__") "__get__"=some (some (.builtin "getset_descriptor.__get__")))(ct2x1:PySem.W.takesIn K (.builtin "object.__class__")=some true)(pbx1:nsIn K mainGlobals "PowerError"=some (some (.ref xV)))
  (ff0x1:findIn K (.ref iI) "word"=some none)
  (ff1x1:findIn K (.ref iI) "place"=some none)
  {iJ xW vf Nb:Addr}{S8 UP:Str}{NH V4:ajC}{VI:ajD}{Nh:Bool}{Od:Option Bool}{O1 Ts Nk:ajF}{R8 Sb Sh Sl Sp:Option Value}{VE:ajB}{To Su OX Tx Fe Oj:Value}
  (ax2:nsIn K mainGlobals "NoRest"=some (some (.ref iJ)))(lx2:K.lookup iJ=some (excClassObj S8 UP iJ Nb NH (.ref xW::gb) true VI V4 Nh Od O1 R8 Sb Sh Sl Sp "ValueError.__new__"))
  (tx2:PySem.W.tailIn K gb (.ref xW::gb)=true)(ix2:findIn K (.ref iJ) "__init__"=some (some (.ref vf)))(nx2:PySem.W.isFn K (.ref vf)=true)(px2:keepIn K (.ref iJ)=true)
  (fx2:K.lookup vf=some ⟨To,Ts,.func (fnOf "__init__" "NoRest.__init__" (iz (i_ (top 3) 0)) (gc (i_ (top 3) 0)) (bu (i_ (top 3) 0)) .none Su OX Tx Nk Fe Oj),VE⟩)(cx2:codeIn K Fe "NoRest.__init__"=true)(kx2:keepIn K (.ref vf)=true)
  (sax2:findIn K (.ref iJ) "__setattr__"=some (some (.builtin "object.__setattr__")))(gax2:findIn K (.ref iJ) "__getattribute__"=some (some (.builtin "BaseException.__getattribute__")))(ghx2:findIn K (.ref iJ) "__getattr__"=some none)(cax2:findIn K (.ref iJ) "__class__"=some (some (.builtin "object.__class__")))
  (cgx2:PySem.W.specialIn K (.builtin "object.__class__") "__get__"=some (some (.builtin "getset_descriptor.__get__")))(ct2x2:PySem.W.takesIn K (.builtin "object.__class__")=some true)(pbx2:nsIn K mainGlobals "PowerError"=some (some (.ref xW)))
  (ff0x2:findIn K (.ref iJ) "number"=some none)
  (ff1x2:findIn K (.ref iJ) "prime"=some none)
  {iK xX vg Nc:Addr}{S9 UQ:Str}{NI V5:ajC}{VJ:ajD}{Ni:Bool}{Oe:Option Bool}{O2 Tt Nl:ajF}{R9 Sd Si Sm Sq:Option Value}{VF:ajB}{Tp Sv OY Tz Ff Ol:Value}
  (ax3:nsIn K mainGlobals "NoTurn"=some (some (.ref iK)))(lx3:K.lookup iK=some (excClassObj S9 UQ iK Nc NI (.ref xX::gb) true VJ V5 Ni Oe O2 R9 Sd Si Sm Sq "ValueError.__new__"))
  (tx3:PySem.W.tailIn K gb (.ref xX::gb)=true)(ix3:findIn K (.ref iK) "__init__"=some (some (.ref vg)))(nx3:PySem.W.isFn K (.ref vg)=true)(px3:keepIn K (.ref iK)=true)
  (fx3:K.lookup vg=some ⟨Tp,Tt,.func (fnOf "__init__" "NoTurn.__init__" (iz (i_ (top 5) 0)) (gc (i_ (top 5) 0)) (bu (i_ (top 5) 0)) .none Sv OY Tz Nl Ff Ol),VF⟩)(cx3:codeIn K Ff "NoTurn.__init__"=true)(kx3:keepIn K (.ref vg)=true)
  (sax3:findIn K (.ref iK) "__setattr__"=some (some (.builtin "object.__setattr__")))(gax3:findIn K (.ref iK) "__getattribute__"=some (some (.builtin "BaseException.__getattribute__")))(ghx3:findIn K (.ref iK) "__getattr__"=some none)(cax3:findIn K (.ref iK) "__class__"=some (some (.builtin "object.__class__")))
  (cgx3:PySem.W.specialIn K (.builtin "object.__class__") "__get__"=some (some (.builtin "getset_descriptor.__get__")))(ct2x3:PySem.W.takesIn K (.builtin "object.__class__")=some true)(pbx3:nsIn K mainGlobals "PowerError"=some (some (.ref xX)))
  (ff0x3:findIn K (.ref iK) "word"=some none)
  (ff1x3:findIn K (.ref iK) "thing"=some none)
  {xZ M_:Addr}{S6 UJ:Str}{ND E6 V2:ajC}{VG:ajD}{Rf Nf:Bool}{Ob:Option Bool}{OZ:ajF}{R6 R_ Sf Sj Sn:Option Value}{S5:String}
  (ah1:nsIn K mainGlobals "PowerError"=some (some (.ref xZ)))(lh1:K.lookup xZ=some (excClassObj S6 UJ xZ M_ ND E6 Rf VG V2 Nf Ob OZ R6 R_ Sf Sj Sn S5))(bh1:E6.contains (.type "BaseException")=true)
  {vb:Addr}(an1:nsIn K mainGlobals "NoPaper"=some (some (.ref vb)))
  {vc:Addr}(an2:nsIn K mainGlobals "NoRest"=some (some (.ref vc)))
  {vd:Addr}(an3:nsIn K mainGlobals "NoTurn"=some (some (.ref vd)))
  (ktx1_n1:kitOne K (.ref iI) (.ref vb)=some true)
  (ktx1_n2:kitOne K (.ref iI) (.ref vc)=some false)
  (ktx1_n3:kitOne K (.ref iI) (.ref vd)=some false)
  (vtx1:kitOne K (.ref iI) (.type "ValueError")=some true)
  (ktx2_n1:kitOne K (.ref iJ) (.ref vb)=some false)
  (ktx2_n2:kitOne K (.ref iJ) (.ref vc)=some true)
  (ktx2_n3:kitOne K (.ref iJ) (.ref vd)=some false)
  (vtx2:kitOne K (.ref iJ) (.type "ValueError")=some true)
  (ktx3_n1:kitOne K (.ref iK) (.ref vb)=some false)
  (ktx3_n2:kitOne K (.ref iK) (.ref vc)=some false)
  (ktx3_n3:kitOne K (.ref iK) (.ref vd)=some true)
  (vtx3:kitOne K (.ref iK) (.type "ValueError")=some true) :
  ∃fd:FuncData,(∀(s:Shared)(v:Value),BindsTo s fd ⟨[v],[]⟩ [("_law_script",v)])/\∀base:Heap,K.In base->base.Ns mainGlobals mg->hA l.prog w K mg base hz 11 fa fd ["_law_script"] (tY K):=by
 have T:Txt K mg:=⟨srcOf X G aL,srcOf X G bU,srcOf X G df,srcOf X G jz,srcOf X G Ul,srcOf X G Ag,srcOf X G jA,srcOf X G hI,srcOf X G Ah,srcOf X G Af,srcOf X G TC,srcOf X G TF,srcOf X G TG,srcOf X G TH,srcOf X G TJ,srcOf X G TK,srcOf X G TL,srcOf X G TM,srcOf X G TN,srcOf X G TO,srcOf X G TP,srcOf X G TQ,srcOf X G TR,srcOf X G TS,srcOf X G TU,srcOf X G TV,srcOf X G TX,srcOf X G TY,srcOf X G TZ,srcOf X G T1,srcOf X G T2,srcOf X G T3,srcOf X G T4,srcOf X G T5,srcOf X G T6,srcOf X G T7,srcOf X G T8,srcOf X G T9,srcOf X G T_,srcOf X G Ua,srcOf X G Ub,srcOf X G Uc,srcOf X G Ud,srcOf X G Ue,srcOf X G Ug,srcOf X G Uh,srcOf X G Ui,srcOf X G Uj,srcOf X G Uk,srcOf X G Um,srcOf X G Un,srcOf X G Uo,srcOf X G Up,srcOf X G Uq,srcOf X G Ur,srcOf X G Us,srcOf X G Ut,srcOf X G Uu,srcOf X G Uv,srcOf X G Uw,srcOf X G Ux,srcOf X G Uy,srcOf X G Uz,srcOf X G UA,srcOf X G UB,srcOf X G UC,srcOf X G UD,⟨vG,_,r7 l68 c68 k68,mg_of X G a68⟩,mg_none_of X G z1,mg_none_of X G z2,mg_none_of X G z3,mg_none_of X G z4,mg_none_of X G z5,mg_none_of X G z6,mg_none_of X G z7,mg_none_of X G z8,mg_none_of X G z9,mg_none_of X G z10,mg_none_of X G z11,mg_none_of X G z12,mg_none_of X G z13,mg_none_of X G z14,mg_none_of X G z15,⟨_,mg_of X G y1⟩,⟨_,mg_of X G y2⟩,qN.mk (mg_of X G y3) w3 (by show 2<=sizeLine;decide +kernel) (by exact .cons ⟨_,rfl⟩ (.cons ⟨_,rfl⟩ (.nil))),qN.mk (mg_of X G y4) w4 (by show 2<=sizeLine;decide +kernel) (by exact .cons ⟨_,rfl⟩ (.cons ⟨_,rfl⟩ (.nil))),⟨_,mg_of X G y5⟩,⟨_,_,_,_,⟨mg_of X G ax1,⟨_,_,_,_,_,_,_,_,_,_,_,_,_,_,_,lx1⟩,tx1,ix1,nx1,px1,r7 fx1 cx1 kx1,CU lx1 sax1 gax1 ghx1 cax1 cgx1 ct2x1⟩,ax1,pbx1,by intro z aZ;simp only[afP,af2,agg,agh]at aZ;rcases aZ with rfl|rfl<;>first|exact ff0x1|exact ff1x1⟩,⟨_,_,_,_,⟨mg_of X G ax2,⟨_,_,_,_,_,_,_,_,_,_,_,_,_,_,_,lx2⟩,tx2,ix2,nx2,px2,r7 fx2 cx2 kx2,CU lx2 sax2 gax2 ghx2 cax2 cgx2 ct2x2⟩,ax2,pbx2,by intro z aZ;simp only[afP,af2,agg,agh]at aZ;rcases aZ with rfl|rfl<;>first|exact ff0x2|exact ff1x2⟩,⟨_,_,_,_,⟨mg_of X G ax3,⟨_,_,_,_,_,_,_,_,_,_,_,_,_,_,_,lx3⟩,tx3,ix3,nx3,px3,r7 fx3 cx3 kx3,CU lx3 sax3 gax3 ghx3 cax3 cgx3 ct2x3⟩,ax3,pbx3,by intro z aZ;simp only[afP,af2,agg,agh]at aZ;rcases aZ with rfl|rfl<;>first|exact ff0x3|exact ff1x3⟩,⟨_,_,_,_,_,_,_,_,_,_,_,_,_,_,_,_,_,_,mg_of X G ah1,ah1,lh1,bh1⟩,⟨_,mg_of X G an1,an1⟩,⟨_,mg_of X G an2,an2⟩,⟨_,mg_of X G an3,an3⟩,fun C D h1 h2=>by have ai:=cx.inj h1 ax1;have az:=cx.inj h2 an1;subst ai az;exact ktx1_n1,fun C D h1 h2=>by have ai:=cx.inj h1 ax1;have az:=cx.inj h2 an2;subst ai az;exact ktx1_n2,fun C D h1 h2=>by have ai:=cx.inj h1 ax1;have az:=cx.inj h2 an3;subst ai az;exact ktx1_n3,fun C h1=>by have ai:=cx.inj h1 ax1;subst ai;exact vtx1,fun C D h1 h2=>by have ai:=cx.inj h1 ax2;have az:=cx.inj h2 an1;subst ai az;exact ktx2_n1,fun C D h1 h2=>by have ai:=cx.inj h1 ax2;have az:=cx.inj h2 an2;subst ai az;exact ktx2_n2,fun C D h1 h2=>by have ai:=cx.inj h1 ax2;have az:=cx.inj h2 an3;subst ai az;exact ktx2_n3,fun C h1=>by have ai:=cx.inj h1 ax2;subst ai;exact vtx2,fun C D h1 h2=>by have ai:=cx.inj h1 ax3;have az:=cx.inj h2 an1;subst ai az;exact ktx3_n1,fun C D h1 h2=>by have ai:=cx.inj h1 ax3;have az:=cx.inj h2 an2;subst ai az;exact ktx3_n2,fun C D h1 h2=>by have ai:=cx.inj h1 ax3;have az:=cx.inj h2 an3;subst ai az;exact ktx3_n3,fun C h1=>by have ai:=cx.inj h1 ax3;subst ai;exact vtx3⟩
 have e:=Ri.symm.trans (mg_of X G a68)
 cases e
 refine ⟨fnOf "law" "law" (iz nD) (gc nD) (bu nD) .none GQ Fy Hj ET yv Fl,fun s v=>.of_eq rfl,fun base _ _=>?_⟩
 exact o_law T (r7 l68 c68 k68) (mg_of X G a68)
theorem walk {q:Program}{loose:ajD}{qW:(Str->Option Value)->Heap->Prop}{oo:World->Heap->Prop}{d:DefRec}{K:Params->PySem.W.Frag}(hn:l.most=some 63)(s7:d.params.defaults=[])
  (zf:∀(w:World)(h:Heap),oo w h->(K w.params).In h)
  (F:∀(w:World)(mg:ajy)(fa:Addr)(h:Heap),(K w.params).In h->h.Ns mainGlobals mg->mg d.name=some (.ref fa)->
   ∃fd:FuncData,(∀(s:Shared)(u:Value),BindsTo s fd ⟨[u],[]⟩ [("_law_script",u)])/\∀base:Heap,(K w.params).In base->base.Ns mainGlobals mg->hA l.prog w (K w.params) mg base hz 11 fa fd ["_law_script"] (tY (K w.params))) :
  PySem.W.WalkO q loose qW oo l.row.toRowW d [] (fun f aa=>PySem.call f aa):=
 L2.Wy (n:=63) (k:=11) (x:="_law_script") (e3:=fun _=>hz) (sp:=fun w=>tY (K w.params)) hn (by decide) s7 ⟨rfl,by decide,by decide,rfl⟩ zf F (fun _ _ a ns hl _ fL=>⟨a,ns,rfl,fL,hl,fun _=>rfl⟩) fun _ _ _ _ _ z=>z
end My
open PySem PySem.W PyProof.Rows
namespace PySem.W.Fast
def tw3441930903517582261:=0
def tw8896309135726792978:=0
def tw5512509327501779691:=0
def tw9810010164725367432:=0
def tw1977767969503053394:=0
def tw17673157436358539311:=0
def tw1904546764242456932:=0
def tw5597033348803379595:=0
def tw8772382686624725724:=0
def tw4626531508607806949:=0
def tw2068992995993448375:=0
def tw6890198712043194001:=0
def tw14274897182522402786:=0
def tw18035817931686105201:=0
def tw7282314143325108696:=0
def tw14536803216846760656:=0
def tw15447766972899133135:=0
def tw7934565573447410831:=0
def tw550739816564019807:=0
def tw360949492578890684:=0
def tw12424438453765676350:=0
def tw327601893484614747:=0
def tw13101208315074079157:=0
def tw15147241903592165561:=0
def tw16973354835701677050:=0
def tw13711500361263619263:=0
def tw11596746307015258395:=0
def tw5491712739214609592:=0
def tw11432287997429725101:=0
def tw13713278937063142261:=0
def tw841965144754434689:=0
def tw13146332220284552781:=0
def tw113261409777524267:=0
def tw16746265640697088092:=0
def tw5617202708087446098:=0
def tw6554407096126519530:=0
def tw13662781237020027383:=0
def tw1497328416991997107:=0
def tw6546325867482181089:=0
def tw5910069801713222832:=0
def tw1276010595659758459:=0
def tw13595135663476903258:=0
def tw7477943828980016983:=0
def tw1119321169453634357:=0
def tw7701004770337269316:=0
def tw6471529764475863584:=0
def tw2188567563332975795:=0
def tw15351583887921526283:=0
def tw15412812898380384664:=0
def tw6323709192023779898:=0
def tw803325126152881720:=0
def tw11163339078074106248:=0
def tw12751410900812456717:=0
def tw9255970712454731720:=0
def tw3446790612198060861:=0
def tw15259625881021129862:=0
def tw10213648139700848325:=0
def tw17940204788721590731:=0
def tw12475614184166480390:=0
def tw11792474804654528185:=0
def tw11692111412855925676:=0
def tw11566177745728457268:=0
def tw5236865858363661249:=0
def tw1998823084668537747:=0
def tw8764399478968226852:=0
def tw6248064234650994341:=0
def tw5084221223199376390:=0
def tw6735962811409569958:=0
def tw7108104715343670696:=0
def tw778339498576287687:=0
def tw271991947590669536:=0
def tw10231762017132956705:=0
def tw16202078981615858785:=0
def tw10686697610582541761:=0
def tw674803518900157057:=0
def tw6958150659682786562:=0
def tw12546002303884679138:=0
def tw6359681763597769188:=0
def tw15846844039304270597:=0
def tw15929870824021061224:=0
def tw4614795867801027017:=0
def tw4916869078221194315:=0
def tw6453410724703290028:=0
def tw744787139747086222:=0
def tw11495895962385792495:=0
def tw8461363410698834961:=0
def tw11451551574870695697:=0
def tw2870105249583512020:=0
def tw2496873322439497751:=0
def tw3319604873456118232:=0
def tw14785877498455698328:=0
def tw10022638346143693498:=0
def tw10464383724044758587:=0
def tw739438529144907964:=0
def tw4203931864399730237:=0
def tw788447665556178653:=0
def tw8366995102303039295:=0
def tw12674019251641984472:=0
def tw11295266092767789088:=0
def tw13505418514144604163:=0
def tw7600290363566123806:=0
def tw11865435076141863940:=0
def tw15498743290171111395:=0
def tw16828963455490323806:=0
def tw12186259312118703021:=0
def tw2488283496402536475:=0
def tw7825621990126556161:=0
def tw2255358648026713532:=0
def tw2352937830624571434:=0
def tw11336446185182444575:=0
def tw11387476870808455323:=0
def tw12165529655142697791:=0
def tw414042075751778987:=0
def tw7497331984746881005:=0
def tw18060321620438442813:=0
def tw5876702087844589871:=0
def tw4574776426242277023:=0
def tw398562093125431052:=0
def tw4310248988966728141:=0
def tw7791483284208003612:=0
def tw12516668721021956258:=0
def tw13633439098352077650:=0
def tw9379234271757984356:=0
def tw4249427153620055267:=0
def tw12209609779480431690:=0
def tw17448793112922849210:=0
def tw15342442663586299340:=0
def tw9053300648712552458:=0
def tw17383550880505398038:=0
def tw13030028282975211055:=0
def tw15827420805217540489:=0
def tw1862883803933743492:=0
def tw16048624900078017374:=0
def tw10171229188706142601:=0
def tw10863357384099180304:=0
def tw6676344576067514282:=0
def tw7862542758416545484:=0
def tw5325244715697997232:=0
def tw15957592503249548557:=0
def tw9995730126748267088:=0
def tw15870274685291386694:=0
def tw9177844583291456622:=0
def tw4098770634608707707:=0
def tw2498442346476681765:=0
def tw16176211344656804796:=0
def tw7712310872794170866:=0
def tw13118178920401654067:=0
def tw12724226301999766820:=0
def tw8617580187845235765:=0
def tw3363044843176665168:=0
def tw914007530203985466:=0
def tw5794977729857148702:=0
def tw17734541614842137801:=0
def tw1129465163354848414:=0
def tw3660578011706212430:=0
def tw13612596310126099127:=0
def tw5251948012399035541:=0
def tw558379083646829960:=0
def tw15376637368645494827:=0
def tw11885789264660627988:=0
def tw4999866265290125093:=0
def tw16508010855488999598:=0
def tw14703798566730477790:=0
def tw2907087175931944604:=0
def tw11350330087781774852:=0
def tw12450426101688609630:=0
def tw2641245599545013665:=0
def tw7163299305693961045:=0
def tw124372911249849324:=0
def tw2281697309396316932:=0
def tw2691286111071779496:=0
def tw16788275107680846591:=0
def tw15724905673168381903:=0
def tw8936866509373503830:=0
def tw10818780335701483306:=0
def tw16083505729739224348:=0
def tw9715251250583547205:=0
def tw17078515378472829121:=0
def tw10591441590811648364:=0
def tw14336791470662259498:=0
def tw9186197781706863883:=0
def tw13160283907797827227:=0
def tw6156690983361815028:=0
def tw612379193282074298:=0
def tw8207610433134842836:=0
def tw9072158499705045636:=0
def tw8049276222222700822:=0
def tw6332378362028343361:=0
def tw17986776874589306915:=0
def tw3538410811908653569:=0
def tw2168805135155719233:=0
def tw2675439455450984820:=0
def tw10821684099135020056:=0
def tw18366176994414602891:=0
def tw10777280258761247560:=0
def tw9406744633381809716:=0
def tw3310853926923651949:=0
def tw12255165936434535621:=0
def tw2206226694697048550:=0
def tw16551309807147535325:=0
def tw11855521952310653024:=0
def tw16275559870618789083:=0
def tw13258797094706340075:=0
def tw3627373073031492011:=0
def tw8273468824844252583:=0
def tw630085455872458733:=0
def tw11408415096107656086:=0
def tw5305007876320204955:=0
def tw1561205235812935243:=0
def tw15674798299565401006:=0
def tw17314167869095937576:=0
def tw5533178438818040696:=0
def tw3598559441716460740:=0
def tw5097160554977775099:=0
def tw8907922647019016147:=0
def tw17376993327826281394:=0
def tw11596644457322872259:=0
def tw10278851680877065068:=0
def tw7603730812777069118:=0
def tw7136951437276063501:=0
def tw17254622993524697300:=0
def tw6489454536622083733:=0
def tw2077783494015740697:=0
def tw5523801539209604831:=0
def tw11355279981193914512:=0
def tw8814228607913507313:=0
def tw1245762996450601278:=0
def tw14549141688768730047:=0
def tw1472874856822756900:=0
def tw1563124997311811693:=0
def tw16665989509970208818:=0
def tw14521132123085042132:=0
def tw6535868730324920604:=0
def tw4595045285247506359:=0
def tw5592198525150846441:=0
def tw3986954703350507720:=0
def tw4411083817965835372:=0
def tw17647173869104533875:=0
def tw2015595145278619735:=0
def tw5590683423937250839:=0
def tw14300810439823685407:=0
def tw4106796085410146072:=0
def tw12241102795069298467:=0
def tw11241855119457520231:=0
def tw14489258568264103528:=0
def tw17494920592902987818:=0
def tw14552054125708564970:=0
def tw5856429652634309081:=0
def tw6044214137141967936:=0
def tw7417618763738006989:=0
def tw16416671208621837170:=0
def tw7615465739080953428:=0
def tw4709827263422095999:=0
def tw5360270159327259424:=0
def tw14054866365080440374:=0
def tw7110372812179941862:=0
def tw6328608323381987431:=0
def tw10027190136788368839:=0
def tw5412491774999761969:=0
def tw15512537793129217657:=0
def tw1280002854684805211:=0
def tw15135830777404952044:=0
def tw7526692518370971681:=0
def tw3859006789844342914:=0
def tw15074729252604574097:=0
def tw16597306962905799897:=0
def tw14777896556722276313:=0
def tw12029073418882746139:=0
def tw6612622198326567774:=0
def tw7724692260826902795:=0
def tw4199333760840970700:=0
def tw739163472853333463:=0
def tw12499614370931276349:=0
def tw11576760236403453599:=0
def tw15285446838240229020:=0
def tw5293406387503075456:=0
def tw18076790125443574354:=0
def tw7406971254146277304:=0
def tw1092155735269099236:=0
def tw12587057870475443385:=0
def tw9612626526090341025:=0
def tw12905792767766745174:=0
def tw6020480100980462847:=0
def tw13148974470294421082:=0
def tw8174040274291394262:=0
def tw17616294394394991167:=0
def tw17669882605032958470:=0
def tw14084195375412585334:=0
def tw8908194811874839247:=0
def tw6780805957404077631:=0
def tw7393262506189534335:=0
def tw7020442848009703941:=0
def tw16776246529000966570:=0
def tw7390924267044837390:=0
def tw12585572259338472984:=0
def tw9756198671426010781:=0
def tw15949796236442333745:=0
def tw12185837536391752354:=0
def tw9192653381986051668:=0
def tw7533496276315562391:=0
def tw10129690025074925552:=0
def tw6085270908951691660:=0
def tw2181990213419176189:=0
def tw10698702912304047372:=0
def tw2037203024224387332:=0
def tw1571029118196108244:=0
def tw2696990417415037432:=0
def tw7780414123217822667:=0
def tw15126353262244131680:=0
def tw3598810541871655590:=0
def tw15787836376954407098:=0
def tw5264790569820659198:=0
def tw4507380277057374336:=0
def tw10898963185549665152:=0
def tw3006430923885153971:=0
def tw5925422558448963087:=0
def tw12438141815576788785:=0
def tw683354963600369139:=0
def tw2831408042602473614:=0
def tw13443489182793342388:=0
def tw14822210720640571125:=0
def tw694738290183005370:=0
def tw10099227469951109722:=0
def tw9506444485774017883:=0
def tw8528349608649949784:=0
def tw17110739476460397363:=0
def tw6200109731585322497:=0
def tw9611283267576466413:=0
def tw3845431913648404961:=0
def tw217200424536435890:=0
def tw1467691059334987646:=0
def tw1335561926597890026:=0
def tw7907035180194186807:=0
def tw13609607133205871077:=0
end PySem.W.Fast
local macro_rules | `(tactic| walk_at "fq") => `(tactic| (refine' My.fq_mk ?a ?l ?c ?k; (case a => k_is); (case l => k_is); (case c => k_is); (case k => k_is)))
set_option maxRecDepth 100000 in
set_option maxHeartbeats 0 in
theorem PySem.Challenge.cw_powerrests_k80_stays_again_shared_holds : PySem.Challenge.rw_powerrests_k80_stays_again_shared.Holds := by
 w_on;o_law;k_head;(case hw=>w_witness2)
 k_fill
 refine My.walk (l:=PySem.Challenge.rw_powerrests_k80_stays_again_shared) rfl rfl (fun w h Y=>PySem.W.kIn_of Y) ?F
 case F=>
  intro w mg fa h KX G hmg
  refine' My.all_mk KX G hmg _ _ _ _ _ _ _ _ _ _ _ _ _ _ _ _ _ _ _ _ _ _ _ _ _ _ _ _ _ _ _ _ _ _ _ _ _ _ _ _ _ _ _ _ _ _ _ _ _ _ _ _ _ _ _ _ _ _ _ _ _ _ _ _ _ _ _ ?a68 ?l68 ?c68 ?k68 ?z1 ?z2 ?z3 ?z4 ?z5 ?z6 ?z7 ?z8 ?z9 ?z10 ?z11 ?z12 ?z13 ?z14 ?z15 ?y1 ?y2 ?y3 ?w3 ?y4 ?w4 ?y5 ?ax1 ?lx1 ?tx1 ?ix1 ?nx1 ?px1 ?fx1 ?cx1 ?kx1 ?sax1 ?gax1 ?ghx1 ?cax1 ?cgx1 ?ct2x1 ?pbx1 ?ff0x1 ?ff1x1 ?ax2 ?lx2 ?tx2 ?ix2 ?nx2 ?px2 ?fx2 ?cx2 ?kx2 ?sax2 ?gax2 ?ghx2 ?cax2 ?cgx2 ?ct2x2 ?pbx2 ?ff0x2 ?ff1x2 ?ax3 ?lx3 ?tx3 ?ix3 ?nx3 ?px3 ?fx3 ?cx3 ?kx3 ?sax3 ?gax3 ?ghx3 ?cax3 ?cgx3 ?ct2x3 ?pbx3 ?ff0x3 ?ff1x3 ?ah1 ?lh1 ?bh1 ?an1 ?an2 ?an3 ?ktx1_n1 ?ktx1_n2 ?ktx1_n3 ?vtx1 ?ktx2_n1 ?ktx2_n2 ?ktx2_n3 ?vtx2 ?ktx3_n1 ?ktx3_n2 ?ktx3_n3 ?vtx3
  iterate 67 (walk_at "fq")
  (case a68=>k_is)
  (case l68=>k_is)
  (case c68=>k_is)
  (case k68=>k_is)
  (case z1=>k_is)
  (case z2=>k_is)
  (case z3=>k_is)
  (case z4=>k_is)
  (case z5=>k_is)
  (case z6=>k_is)
  (case z7=>k_is)
  (case z8=>k_is)
  (case z9=>k_is)
  (case z10=>k_is)
  (case z11=>k_is)
  (case z12=>k_is)
  (case z13=>k_is)
  (case z14=>k_is)
  (case z15=>k_is)
  (case y1=>k_is)
  (case y2=>k_is)
  (case y3=>k_is)
  (case w3=>k_is)
  (case y4=>k_is)
  (case w4=>k_is)
  (case y5=>k_is)
  (case ax1=>k_is)
  (case lx1=>k_is)
  (case tx1=>kernel_rfl)
  (case ix1=>k_is)
  (case nx1=>k_is)
  (case px1=>k_is)
  (case fx1=>k_is)
  (case cx1=>k_is)
  (case kx1=>k_is)
  (case sax1=>k_is)
  (case gax1=>k_is)
  (case ghx1=>k_is)
  (case cax1=>k_is)
  (case cgx1=>k_is)
  (case ct2x1=>k_is)
  (case pbx1=>k_is)
  (case ff0x1=>k_is)
  (case ff1x1=>k_is)
  (case ax2=>k_is)
  (case lx2=>k_is)
  (case tx2=>kernel_rfl)
  (case ix2=>k_is)
  (case nx2=>k_is)
  (case px2=>k_is)
  (case fx2=>k_is)
  (case cx2=>k_is)
  (case kx2=>k_is)
  (case sax2=>k_is)
  (case gax2=>k_is)
  (case ghx2=>k_is)
  (case cax2=>k_is)
  (case cgx2=>k_is)
  (case ct2x2=>k_is)
  (case pbx2=>k_is)
  (case ff0x2=>k_is)
  (case ff1x2=>k_is)
  (case ax3=>k_is)
  (case lx3=>k_is)
  (case tx3=>kernel_rfl)
  (case ix3=>k_is)
  (case nx3=>k_is)
  (case px3=>k_is)
  (case fx3=>k_is)
  (case cx3=>k_is)
  (case kx3=>k_is)
  (case sax3=>k_is)
  (case gax3=>k_is)
  (case ghx3=>k_is)
  (case cax3=>k_is)
  (case cgx3=>k_is)
  (case ct2x3=>k_is)
  (case pbx3=>k_is)
  (case ff0x3=>k_is)
  (case ff1x3=>k_is)
  (case ah1=>k_is)
  (case lh1=>k_is)
  (case bh1=>kernel_rfl)
  (case an1=>k_is)
  (case an2=>k_is)
  (case an3=>k_is)
  (case ktx1_n1=>kernel_rfl)
  (case ktx1_n2=>kernel_rfl)
  (case ktx1_n3=>kernel_rfl)
  (case vtx1=>kernel_rfl)
  (case ktx2_n1=>kernel_rfl)
  (case ktx2_n2=>kernel_rfl)
  (case ktx2_n3=>kernel_rfl)
  (case vtx2=>kernel_rfl)
  (case ktx3_n1=>kernel_rfl)
  (case ktx3_n2=>kernel_rfl)
  (case ktx3_n3=>kernel_rfl)
  (case vtx3=>kernel_rfl)