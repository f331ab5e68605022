import PyProof.Rows.All
import Wide.All
import OpenK.AllK
import Wide.FinOn
import Lean
import PyProof.EqAt
import PyProof.EqKinds
import PyProof.TupleCall
import PySem.Challenge.RW_ringlayers_k09_whole_sheets_changed
noncomputable section
set_option Elab.async false
set_option linter.all false
set_option maxRecDepth 100000
def vz:=@PySem.wpAny_bind
def Zy:=@List.mem_cons_of_mem
def Zz:=@PySem.Heap.get?_push_of_some
def ZC:=@PySem.wpAny_pure
def ZD:=@List.map_cons
def ZF:=@List.mem_cons_self
def ZG:=@PySem.Heap.lt_size
def ZJ:=@List.size_toArray
def ZK:=@List.length_map
def ZM:=@List.getElem?_eq_getElem
def ZP:=@List.mem_cons
def ZQ:=@List.getElem?_set_ne
def ZR:=@PySem.Heap.get?_push_size
def ZS:=@Nat.le_refl
def ZV:=@List.getElem?_eq_some_iff
def ZW:=@List.mem_singleton
def ZX:=@Nat.lt_of_lt_of_le
def ZZ:=@if_pos
def Z0:=@Option.bind_some
def Z1:=@Nat.ne_of_lt
def Z2:=@List.length_cons
def Z3:=@List.getD_eq_getElem?_getD
def Z4:=@List.mem_append_right
def Z5:=@List.mem_map
def Z6:=@List.length_append
def Z7:=@decide_eq_true_eq
def Z8:=@List.sum_cons
def Z9:=@List.getElem?_set_self
def aaa:=@if_neg
def aab:=@List.mem_range
def aac:=@Bool.and_eq_true
def aad:=@List.getElem?_map
def aae:=@Array.getElem?_eq_getElem
def aaf:=@List.map_append
def aag:=@List.getElem?_eq_none
def aah:=@PySem.wpAny_call_entry
def aai:=@List.map_map
def aaj:=@PySem.wpAny_callSpecial?_slot
def aak:=@Option.bind_eq_some_iff
def aal:=@Ne.symm
def aam:=@Nat.ne_of_gt
def aan:=@List.getElem?_append_left
def aao:=@List.not_mem_nil
def aap:=@Nat.zero_le
def aaq:=@Nat.mod_lt
def aar:=@List.mem_append
def aas:=@List.lookup_cons
def aat:=@PyProof.Rows.callWith_type1
def aau:=@Bool.eq_iff_iff
def aav:=@PySem.PassesOwn.never
def aaw:=@List.zip_cons_cons
def aax:=@Int.toNat_natCast
def aay:=@decide_eq_false
def aaz:=@List.mem_flatMap
def aaA:=@Option.some.inj
def aaB:=@PySem.Heap.get?_update_other
def aaC:=@PySem.wpAny_setField_rec
def aaD:=@List.map_congr_left
def aaE:=@List.mem_filter
def aaF:=@List.getElem?_eq_none_iff
def aaG:=@PySem.Heap.get?_update_self
def aaH:=@Array.getElem?_toList
def aaI:=@PySem.wpAny_field
def aaJ:=@List.filterMap_cons
def aaK:=@List.nodup_cons
def aaL:=@PySem.sizeLine_eq
def aaM:=@List.all_eq_true
def aaN:=@PySem.F.slot_zip_next
def aaO:=@List.pairwise_cons
def aaP:=@PySem.W.mg_none_of
def aaQ:=@List.filterMap_eq_map'
def aaR:=@List.mem_append_left
def aaS:=@congrArg
def aaT:=@Nat.le_add_right
def aaU:=@Bool.false_ne_true
def aaV:=@Nat.le_trans
def aaW:=@PyProof.Rows.slot_tuple_getitem
def aaX:=@List.getElem_mem
def aaY:=@List.mem_of_getElem?
def aaZ:=@PySem.Heap.size_push
def aa0:=@PySem.wpAny_seqItems
def aa1:=@PySem.wpAny_nextOf_list_item
def aa2:=@PySem.wpAny_holding
def aa3:=@Bool.false_eq_true
def aa4:=@List.map_nil
def aa5:=@PySem.wpAny_mono
def aa6:=@List.getElem?_replicate
def aa7:=@PySem.wpAny_newObj_type
def aa8:=@List.append_assoc
def aa9:=@Nat.lt_or_ge
def aba:=@List.length_nil
def abb:=@List.length_set
def abd:=@List.replicate_succ
def abe:=@List.length_replicate
def abf:=@List.idxOf_lt_length_of_mem
def abg:=@List.flatMap_cons
def abh:=@List.getElem?_append_right
def abi:=@Array.getElem?_eq_some_iff
def abj:=@PySem.boot_len
def abk:=@Nat.lt_irrefl
def abl:=@List.countP_cons
def abm:=@PySem.F.plain_extend_loop
def abn:=@PySem.mem_of_lookup
def abo:=@PySem.Heap.SameBut.update
def abp:=@Nat.lt_succ_of_lt
def abq:=@Int.natCast_mul
def abr:=@PySem.Calls.spliced_cons
def abt:=@PySem.F.called_set
def abu:=@PySem.F.slot_dict_keyiterator_next
def abv:=@List.length_eq_zero_iff
def abw:=@PySem.wpAny_attempt
def abx:=@PySem.wpAny_pyIter_list
def aby:=@decide_eq_true
def abz:=@or_false
def abA:=@List.length_range
def abB:=@List.perm_ext_iff_of_nodup
def abC:=@Int.toNat_of_nonneg
def abD:=@List.append_nil
def abE:=@PySem.wpAny_updateSeq
def abF:=@List.getElem?_zip_eq_some
def abG:=@List.mem_iff_getElem?
def abH:=@Nat.lt_succ_self
def abI:=@PySem.wpAny_isInstance
def abJ:=@List.nodup_range
def abK:=@PySem.AutoSeq1.sub_tuple_tuple
def abL:=@if_true
def abM:=@PySem.wpAny_truthy_bool
def abN:=@List.flatten_cons
def abO:=@Option.some.injEq
def abP:=@PySem.F.args_zip_next_1
def abQ:=@List.count_cons
def abR:=@List.sum_append
def abS:=@Array.length_toList
def abT:=@if_false
def abU:=@List.countP_eq_zero
def abV:=@Array.getElem?_eq_none
def abW:=@Option.map_eq_some_iff
def abX:=@PySem.F.entry_zip_next
def abY:=@PySem.F.slot_enumerate_next
def abZ:=@List.length_take
def ab0:=@beq_self_eq_true
def ab1:=@PySem.wpAny_pyIter_zip
def ab2:=@List.filterMap_map
def ab3:=@PySem.Obj.data_mapFields
def ab4:=@PySem.Heap.get?_some_iff
def ab5:=@PySem.wpAny_nextOf_list_end
def ab6:=@List.length_filter_le
def ab7:=@List.drop_eq_getElem_cons
def ab8:=@PySem.wpAny_passesOwn
def ab9:=@List.range_succ
def aca:=@Nat.le_of_lt
def acb:=@PySem.Calls.spliced_nil
def acd:=@PySem.wpAny_pyIter_enum
def ace:=@PySem.wpAny_setState_of
def acf:=@PySem.Around.under_plainId
def acg:=@List.range_eq_range'
def ach:=@List.nodup_append
def aci:=@PySem.AutoSeq1.wpAny_loadPart'
def acj:=@PySem.plainId_quiet
def ack:=@PySem.wpAny_setEntries_of
def acl:=@PySem.F.plainAttrs_list
def acn:=@List.range'_succ
def aco:=@PySem.wpAny_askSetting
def acp:=@PySem.isSubtype_stop
def acq:=@PySem.wpAny_newTuple
def acr:=@List.nodup_nil
def acs:=@PySem.wpAny_typeNameOfWhole_keyiter
def acu:=@PySem.Calls.callWith_builtin
def acv:=@PySem.call_meets
def acw:=@Nat.le_of_eq
def acx:=@Nat.zero_add
def acy:=@List.of_mem_zip
def acz:=@PySem.wpAny_ite_split
def acA:=@PySem.codeAny_builtin
def acB:=@List.find?_cons
def acC:=@PySem.F.slot_list_append
def acD:=@List.length_singleton
def acE:=@PySem.builtinLookup_eq_fast
def acF:=@PySem.Heap.SameBut.refl
def acG:=@List.pairwise_map
def acH:=@PySem.wpAny_pyIter_slot
def acI:=@PySem.Calls.evalArgs_plain
def acJ:=@PySem.wpAny_rule
def acK:=@PySem.wpAny_letOwnedTupleGo_enum
def acL:=@PyProof.Rows.IntsAre.length
def acM:=@List.ext_getElem
def acN:=@List.filter_cons
def acO:=@Option.getD_some
def acP:=@Classical.byContradiction
def acQ:=@List.pairwise_iff_getElem
def acR:=@PySem.Calls.call_function_entry
def acS:=@List.getElem?_range
def acT:=@PyProof.Rows.F.plain_set_update_loop
def acU:=@List.mergeSort_perm
def acV:=@PySem.F.args_tuple_add_2
def acW:=@List.any_cons
def acX:=@PySem.filterMap_getElem?_range
def acY:=@List.nil_append
def acZ:=@List.forIn_cons
def ac0:=@PySem.wpAny_pyIter_tuple
def ac1:=@PySem.tupleKind_room_in1
def ac2:=@PySem.F.slot_dict_keyiterator_iter
def ac3:=@PySem.F.entry_tuple_add
def ac4:=@Nat.le_succ
def ac5:=@List.getElem?_cons_zero
def ac6:=@PySem.wpAny_letGo
def ac7:=@PySem.F.plainAttrs_dict
def ac8:=@PySem.codeAny_mono
def ac9:=@PySem.F.slot_tuple_add
def ada:=@PySem.wpAny_typeOf
def adb:=@Nat.mul_comm
def adc:=@PySem.SeqAt.ne_of_list_tuple
def ade:=@Bool.and_false
def adf:=@PySem.wpAny_setField
def adg:=@List.pairwise_lt_range
def adh:=@PySem.wpAny_fieldsOf
def adi:=@List.mem_range'_1
def adk:=@Int.mul_zero
def adl:=@Classical.choose_spec
def adm:=@PySem.Obj.isFreed_of_fields
def adn:=@PySem.F.slot_dict_get
def ado:=@Option.getD_none
def adp:=@PySem.F.slot_tuple_mul
def adq:=@List.drop_length
def adt:=@PySem.AutoSeq1.idx_int
def adu:=@PySem.Paired.length
def adw:=@Bool.and_true
def adx:=@PySem.wpAny_onRaise
def ady:=@PySem.F.slot_list_extend
def adz:=@PySem.wpAny_of_eq
def adA:=@PySem.F.args_enumerate_next_1
def adB:=@Nat.one_mul
def adC:=@PySem.wpAny_execs_nil
def adD:=@List.foldl_cons
def adE:=@PySem.F.slot_int_rmul
def adF:=@PySem.typeLookup_type
def adG:=@PySem.wpAny_specialOf
def adH:=@PySem.F.slot_dict_setdefault
def adI:=@PySem.F.entry_enumerate_next
def adJ:=@beq_eq_false_iff_ne
def adK:=@List.getElem_of_mem
def adL:=@Array.getElem?_push
def adM:=@Nat.mul_le_mul_left
def adN:=@PyProof.Rows.IsTup.new
def adO:=@PySem.Calls.Name_function_global
def adP:=@PySem.wpAny_Call_Name_kw
def adQ:=@PySem.F.slot_tuple_iterator_next
def adR:=@Nat.lt_of_le_of_ne
def adS:=@PyProof.Rows.IntsAre.int_at
def adT:=@PyProof.Rows.size_push'
def adU:=@List.forIn_nil
def adV:=@Array.perm_iff_toList_perm
def adW:=@PySem.wpAny_binaryOp_repeat_ref
def adX:=@PySem.F.typeCall_enumerate_1
def adY:=@PySem.wpAny_letOwnedTupleGo_zip
def adZ:=@List.mem_of_find?_eq_some
def ad0:=@Int.mul_one
def ad1:=@Nat.le_succ_of_le
def ad2:=@PySem.Obj.cls_mapFields
def ad3:=@Nat.le_of_lt_succ
def ad4:=@PySem.fits_of_scanBound
def ad5:=@PySem.wpAny_Call_method
def ad6:=@not_false_eq_true
def ad7:=@of_decide_eq_true
def ad8:=@Int.mul_add
def ad9:=@List.getElem?_take_of_lt
def aea:=@PySem.F.newCall_enumerate_1
def aeb:=@PySem.F.entry_enumerate_new
def aec:=@PySem.F.type_list_append
def aed:=@PySem.wpAny_newList
def aee:=@PySem.F.slot_dict_update
def aef:=@List.length_erase_of_mem
def aeg:=@List.Pairwise.imp_of_mem
def aeh:=@PySem.noFill_tuple_add
def aei:=@List.length_drop
def aej:=@PySem.F.args_object_init_2
def aek:=@PySem.F.plain_list_iadd
def ael:=@List.pairwise_mergeSort
def aem:=@PySem.F.args_dict_get_3
def aen:=@PySem.Heap.IsList.push
def aeo:=@Nat.not_le_of_lt
def aep:=@PySem.F.slot_list_index
def aeq:=@Nat.lt_of_not_le
def aer:=@PySem.W.cellsFrom_some
def aes:=@PySem.concat_meets
def aet:=@PySem.typeIs_int
def aeu:=@List.range_succ_eq_map
def aev:=@List.take_of_length_le
def aew:=@List.drop_of_length_le
def aex:=@PySem.intKind_is
def aey:=@beq_iff_eq
def aez:=@PySem.call_meetsIn
def aeA:=@PySem.F.entry_dict_get
def aeB:=@PySem.F.slot_dict_iter
def aeC:=@List.any_map
def aeD:=@List.zipWith_cons_cons
def aeE:=@List.sum_nil
def aeF:=@Int.mul_comm
def aeG:=@PySem.wpAny_ite_false
def aeH:=@Bool.or_eq_true
def aeI:=@List.countP_map
def aeJ:=@Int.natCast_one
def aeK:=@PySem.F.called_enumerate
def aeL:=@PySem.F.plain_set_new
def aeM:=@PySem.F.slot_set_iter
def aeN:=@PySem.F.slot_zip_iter
def aeO:=@List.countP_le_length
def aeP:=@PySem.seqIndex_of
def aeQ:=@Nat.mul_le_mul
def aeR:=@List.drop_zero
def aeS:=@List.getElem_toArray
def aeT:=@Nat.mul_le_mul_right
def aeU:=@Int.mul_sub
def aeV:=@List.toList_toArray
def aeW:=@Nat.mul_lt_mul_left
def aeX:=@Bool.or_false
def aeY:=@List.all_cons
def aeZ:=@PySem.W.mg_of
def ae0:=@Int.ofNat_sub
def ae1:=@Int.mul_assoc
def ae2:=@and_iff_right
def ae3:=@List.mem_filterMap
def ae4:=@Nat.not_lt
def ae5:=@PySem.call_zip_2
def ae6:=@List.getElem?_drop
def ae7:=@List.forIn_toArray
def ae8:=@List.countP_append
def ae9:=@List.filter_append
def afa:=@Eq.trans
def afb:=@Int.add_zero
def afc:=@Int.zero_add
def afd:=@Nat.mul_zero
def afe:=@not_or
def afg:=@Int.add_mul
namespace L2
open PySem PySem.Spec PyProof.Rows
abbrev Key:=Sum Int Str
def xQ:Key->Value->Bool
 |.inl k,v=>Value.isInt k v|.inr x,v=>Value.isStrOf x v
noncomputable def YH(w:World):Key->Int
 |.inl k=>hashInt k|.inr x=>hashStr w x
theorem dD:∀{k:Key}{v:Value},xQ k v=true->(∃i t,k=Sum.inl i/\v=Value.int i t)\/(∃x t,k=Sum.inr x/\v=Value.str x t)
 |.inl i,v,h=>by
   obtain⟨t,e⟩:=Value.isInt_shape (k:=i) (v:=v) h;exact .inl ⟨i,t,rfl,e⟩
 |.inr x,v,h=>by
   obtain⟨t,e⟩:=Value.isStrOf_shape (x:=x) (v:=v) h;exact .inr ⟨x,t,rfl,e⟩
theorem Ks(i:Int)(t:Tok):xQ (.inl i) (.int i t)=true:=by simp[xQ,Value.isInt]
theorem Kr(x:Str)(t:Tok):xQ (.inr x) (.str x t)=true:=by simp[xQ,Value.isStrOf]
theorem VD(a b:Int):decide ((Sum.inl a:Key)=Sum.inl b)=(a==b):=by
 by_cases e:a=b
 ·subst e;simp
 ·have h:¬ (Sum.inl a:Key)=Sum.inl b:=λq=>e (Sum.inl.inj q);rw[aay h];exact(adJ.mpr e).symm
theorem Vy(a b:Str):decide ((Sum.inr a:Key)=Sum.inr b)=decide (a=b):=by
 by_cases e:a=b
 ·subst e;simp
 ·have h:¬ (Sum.inr a:Key)=Sum.inr b:=λq=>e (Sum.inr.inj q);rw[aay h,aay e]
theorem VB(a:Int)(b:Str):decide ((Sum.inl a:Key)=Sum.inr b)=false:=aay (λq=>nomatch q)
theorem Vz(a:Str)(b:Int):decide ((Sum.inr a:Key)=Sum.inl b)=false:=aay (λq=>nomatch q)
def b8(prog:Program)(w:World):PySem.KeyKind prog w Key where
 is:=xQ
 hash:=YH w
 inj:=λv a b ha hb=>by
  rcases dD ha with⟨i,t,rfl,rfl⟩|⟨x,t,rfl,rfl⟩
  ·rcases dD hb with⟨j,u,rfl,e⟩|⟨y,u,rfl,e⟩
   ·injection e with e1 _;rw[e1]
   ·exact nomatch e
  ·rcases dD hb with⟨j,u,rfl,e⟩|⟨y,u,rfl,e⟩
   ·exact nomatch e
   ·injection e with e1 _;rw[e1]
 byValue:=λk v h=>by
  rcases dD h with⟨i,t,rfl,rfl⟩|⟨x,t,rfl,rfl⟩<;>rfl
 pyHash:=λhv h=>by
  rcases dD hv with⟨i,t,rfl,rfl⟩|⟨x,t,rfl,rfl⟩
  ·exact wpAny_pyHash_int h
  ·exact wpAny_pyHash_str h
 eqBool:=λhu hv h=>by
  rcases dD hu with⟨i,t,rfl,rfl⟩|⟨x,t,rfl,rfl⟩
  ·rcases dD hv with⟨j,u,rfl,rfl⟩|⟨y,u,rfl,rfl⟩
   ·rw[VD]at h;exact wpAny_eqBool_int h
   ·rw[VB]at h;exact SeqAt.EqAt.int_str i t y u _ _ _ _ h
  ·rcases dD hv with⟨j,u,rfl,rfl⟩|⟨y,u,rfl,rfl⟩
   ·rw[Vz]at h;exact SeqAt.EqAt.str_int x t j u _ _ _ _ h
   ·rw[Vy]at h;exact wpAny_eqBool_str h
 «strs»:=λk x t v h=>by
  rcases dD h with⟨i,u,rfl,e⟩|⟨y,u,rfl,e⟩
  ·exact nomatch e
  ·injection e with e1 _;subst e1;cases v<;>rfl
theorem Cd(prog:Program)(w:World)(i:Int)(t:Tok):(b8 prog w).is (.inl i) (.int i t)=true:=Ks i t
theorem Ca(prog:Program)(w:World)(x:Str)(t:Tok):(b8 prog w).is (.inr x) (.str x t)=true:=Kr x t
inductive V where
 |non|bl (b:Bool)|int (i:Int)|str (x:Str)|byt (b:Array UInt8)|flt (b:UInt64)|ref (a:Addr)|ty (n:String)
 deriving DecidableEq
noncomputable def RelV:V->Value->Prop
 |.non,u=>u=Value.none|.bl b,u=>u=Value.bool b|.int i,u=>∃t,u=Value.int i t|.str x,u=>∃t,u=Value.str x t|.byt b,u=>∃t,u=Value.bytes b t|.flt b,u=>∃t,u=Value.float b t|.ref a,u=>u=Value.ref a|.ty n,u=>u=Value.type n
abbrev Vals:List V->List Value->Prop:=Paired RelV
theorem Vals.length{xs:List V}{us:List Value}(r:Vals xs us):xs.length=us.length:=adu r
theorem Vals.get:∀{xs:List V}{us:List Value}{i:Nat}{x:V},Vals xs us->xs[i]? = some x->∃u,us[i]? = some u/\RelV x u
 |_,_,_,_,.nil,e=>by simp at e|_,_,0,_,.cons r _,e=>by simp at e;subst e;exact⟨_,rfl,r⟩|_,_,i+1,x,.cons _ t,e=>by
   obtain⟨u,h1,h2⟩:=Vals.get (i:=i) (x:=x) t (by simpa using e);exact⟨u,by simpa using h1,h2⟩
theorem Vals.set{x:V}{u:Value}(r:RelV x u):∀{xs:List V}{us:List Value}(i:Nat),Vals xs us->Vals (xs.set i x) (us.set i u)
 |_,_,_,.nil=>.nil|_,_,0,.cons _ t=>.cons r t|_,_,i+1,.cons q t=>.cons q (Vals.set r i t)
theorem Vals.append:∀{xs ys:List V}{us ws:List Value},Vals xs us->Vals ys ws->Vals (xs++ys) (us++ws)
 |_,_,_,_,.nil,s=>s|_,_,_,_,.cons r t,s=>.cons r (Vals.append t s)
theorem Vals.take:∀{xs:List V}{us:List Value}(n:Nat),Vals xs us->Vals (xs.take n) (us.take n)
 |_,_,0,_=>.nil|_,_,_+1,.nil=>.nil|_,_,n+1,.cons r t=>.cons r (Vals.take n t)
theorem Vals.drop:∀{xs:List V}{us:List Value}(n:Nat),Vals xs us->Vals (xs.drop n) (us.drop n)
 |_,_,0,r=>r|_,_,_+1,.nil=>.nil|_,_,n+1,.cons _ t=>Vals.drop n t
def RelO:Option V->Option Value->Prop
 |some v,some u=>RelV v u|none,none=>True|_,_=>False
def KV{κ:Type}:List (κ×V)->List (κ×Value)->Prop:=Paired λ(p:κ×V)(q:κ×Value)=>p.1=q.1/\RelV p.2 q.2
noncomputable def kV:Key->V
 |.inl i=>.int i|.inr x=>.str x
inductive HO where
 |lst (xs:List V)
 |tup (xs:List V)
 |dK (kvs:List (Key×V))|dT (kvs:List (List Key×V))
 |set (S:Int->Bool) (n:Nat)
 |ins (C dx:Addr) (fs:List (Str×V))
 |own (x:Addr)
 |xd (fs:List (Str×V))
 |met (f x:Addr)
 |rng (lo hi:Int)
 |frz (o:Obj) (u:HO)
 |tbl (ps:Array Value)
 |ext (φ:Heap->Prop)
abbrev Hp:=Addr->Option HO
noncomputable def upd(H:Hp)(a:Addr)(o:HO):Hp:=λb=>if b=a then some o else H b
theorem aY{H:Hp}{a:Addr}{o:HO}:upd H a o a=some o:=by unfold upd;rw[ZZ rfl]
theorem aR{H:Hp}{a b:Addr}{o:HO}(h:b≠a):upd H a o b=H b:=by unfold upd;rw[aaa h]
theorem Q0{H:Hp}{a:Addr}{o u:HO}:upd (upd H a o) a u=upd H a u:=by
 funext b;unfold upd;split<;>rfl
theorem Xn{H:Hp}{a b:Addr}{o u:HO}(h:H a=some o)(h':H b=some u)(d:o≠u):a≠b:=by
 intro e;subst e;rw[h]at h';exact d (aaA h')
theorem bx{H:Hp}{a b:Addr}{o:HO}(h:H a=some o)(h':H b=none):a≠b:=by
 intro e;subst e;rw[h]at h';cases h'
section
variable(P:Program)(w:World)
def ObjOk(H:Hp)(h:Heap)(a:Addr):HO->Prop
 |.lst xs=>xs.length<=sizeLine/\∃(its:List Value)(n:Nat),Vals xs its/\h.get? a=some {cls:=.type "list",data:=.seq its.toArray n}|.tup xs=>xs.length<=sizeLine/\∃its:List Value,Vals xs its/\IsTup h a its.toArray|.dK kvs=>kvs.length<=sizeLine/\(a==sysModules)=false/\∃vs,KV kvs vs/\h.DictOf (b8 P w) a vs|.dT kvs=>kvs.length<=sizeLine/\(a==sysModules)=false/\∃xs:List (List Key×Addr×Value),
  Paired (λ(p:List Key×V)(q:List Key×Addr×Value)=>p.1=q.1/\H q.2.1=some (.tup (p.1.map kV))/\RelV p.2 q.2.2) kvs xs/\
  ∃o es ep,h.get? a=some o/\o.ExactDict/\o.data=.dict es ep/\es.toList=xs.map (entryOfKey (tupleKind (b8 P w)))/\(xs.map (·.1)).Nodup
 |.set S n=>h.SetOf (intKind P w) a S n|.ins C dx fs=>H dx=some (.own a)/\fs.length<=1000/\dx≠a/\h.get? a=some (PySem.W.instObj C dx)/\
  ∃mA,h.Ns1 dx mA/\(∀f,RelO (fs.lookup f) (mA f))/\PySem.Within mA (fs.map (·.1))
 |.own _=>∃o,h.get? a=some o|.xd fs=>∃mA,h.Ns1 a mA/\∀f,RelO (fs.lookup f) (mA f)|.rng lo hi=>∃t u v,h.get? a=some {cls:=.type "range",data:=.fields #[.int lo t,.int hi u,.int 1 v]}|.frz o u=>h.get? a=some o/\ObjOk H h a u|.tbl ps=>h.get? a=some {cls:=.none,data:=.fields ps}|.met f x=>h.get? a=some (PySem.W.methodObj (.ref f) (.ref x))|.ext φ=>φ h/\(∃o,h.get? a=some o)/\∀h1 h2:Heap,φ h1->(∀o,h1.get? a=some o->h2.get? a=some o)->φ h2
def HOk(H:Hp)(h:Heap):Prop:=∀a o,H a=some o->ObjOk P w H h a o
end
section
variable{P:Program}{w:World}{H H':Hp}{h h':Heap}{a:Addr}{o:HO}
theorem ObjOk.lt(x:ObjOk P w H h a o):a<h.objs.size:=by
 cases o with
 |lst xs=>obtain⟨_,_,_,_,e⟩:=x;exact ZG e
 |tup xs=>obtain⟨_,_,_,p⟩:=x;exact p.lt
 |dK kvs=>obtain⟨_,_,_,_,o,_,_,e,_⟩:=x;exact ZG e
 |dT kvs=>obtain⟨_,_,_,_,o,_,_,e,_⟩:=x;exact ZG e
 |set S n=>obtain⟨o,_,_,_,e,_⟩:=x;exact ZG e
 |ins C dx fs=>obtain⟨_,_,_,e,_⟩:=x;exact ZG e
 |own y=>obtain⟨_,e⟩:=x;exact ZG e
 |xd fs=>obtain⟨_,⟨_,_,_,e,_⟩,_⟩:=x;exact ZG e
 |rng lo hi=>obtain⟨_,_,_,e⟩:=x;exact ZG e
 |frz ob u=>obtain⟨e,_⟩:=x;exact ZG e
 |tbl ps=>exact ZG (show h.get? a=some _ from x)|met f y=>exact ZG (show h.get? a=some _ from x)|ext φ=>obtain⟨_,⟨_,e⟩,_⟩:=x;exact ZG e
theorem Paired.mapP{α β:Type}{F G:α->β->Prop}:∀{l₁:List α}{l₂:List β},Paired F l₁ l₂->(∀a b,F a b->G a b)->Paired G l₁ l₂
 |_,_,.nil,_=>.nil|_,_,.cons r t,f=>.cons (f _ _ r) (Paired.mapP t f)
theorem ObjOk.stay(x:ObjOk P w H h a o)(k:∀b u,(b=a\/H b=some (.own a))->h.get? b=some u->h'.get? b=some u)
 (ho:∀b,H b=some (.own a)->H' b=some (.own a)) (ht:∀b xs,H b=some (.tup xs)->H' b=some (.tup xs)):ObjOk P w H' h' a o:=by
 induction o with
 |lst xs=>obtain⟨z,its,n,r,e⟩:=x;exact⟨z,its,n,r,k _ _ (.inl rfl) e⟩
 |tup xs=>obtain⟨z,its,r,ob,e,c⟩:=x;exact⟨z,its,r,ob,k _ _ (.inl rfl) e,c⟩
 |dK kvs=>obtain⟨z,y,vs,r,ob,es,ep,e,c⟩:=x;exact⟨z,y,vs,r,ob,es,ep,k _ _ (.inl rfl) e,c⟩
 |dT kvs=>
   obtain⟨z,y,xs,r,ob,es,ep,e,c⟩:=x;exact⟨z,y,xs,Paired.mapP r λp q z=>⟨z.1,ht _ _ z.2.1,z.2.2⟩,ob,es,ep,k _ _ (.inl rfl) e,c⟩
 |set S n=>obtain⟨ob,es,ep,t,e,c⟩:=x;exact⟨ob,es,ep,t,k _ _ (.inl rfl) e,c⟩
 |ins C dx fs=>
   obtain⟨d,z,ne,e,mA,⟨od,es,ep,e2,c⟩,r⟩:=x;exact⟨ho _ d,z,ne,k _ _ (.inl rfl) e,mA,⟨od,es,ep,k _ _ (.inr d) e2,c⟩,r⟩
 |own y=>obtain⟨ob,e⟩:=x;exact⟨ob,k _ _ (.inl rfl) e⟩
 |xd fs=>obtain⟨mA,⟨od,es,ep,e,c⟩,r⟩:=x;exact⟨mA,⟨od,es,ep,k _ _ (.inl rfl) e,c⟩,r⟩
 |rng lo hi=>obtain⟨t,u,v,e⟩:=x;exact⟨t,u,v,k _ _ (.inl rfl) e⟩
 |frz ob u ih=>obtain⟨e,q⟩:=x;exact⟨k _ _ (.inl rfl) e,ih q⟩
 |tbl ps=>
   have e:h.get? a=some {cls:=.none,data:=.fields ps}:=x;show h'.get? a=some {cls:=.none,data:=.fields ps};exact k a _ (.inl rfl) e
 |met f y=>
   have e:h.get? a=some (PySem.W.methodObj (.ref f) (.ref y)):=x;show h'.get? a=some (PySem.W.methodObj (.ref f) (.ref y));exact k a _ (.inl rfl) e
 |ext φ=>obtain⟨p,⟨o,e⟩,st⟩:=x;exact⟨st _ _ p λo q=>k _ _ (.inl rfl) q,⟨o,k _ _ (.inl rfl) e⟩,st⟩
theorem HOk.lt(x:HOk P w H h)(e:H a=some o):a<h.objs.size:=(x a o e).lt
theorem HOk.fresh(x:HOk P w H h)(e:h.objs.size<=a):H a=none:=by
 cases q:H a with
 |none=>rfl|some u=>exact absurd (ZX (x.lt q) e) (abk _)
theorem HOk.kept(x:HOk P w H h)(k:∀b u,h.get? b=some u->h'.get? b=some u):HOk P w H h':=λa o e=>
 (x a o e).stay (λb u _ q=>k b u q) (λ_ q=>q) λ_ _ q=>q
theorem HOk.laid(x:HOk P w H h)(k:∀b u,h.get? b=some u->h'.get? b=some u)(hp:h.objs.size<=a)(new:ObjOk P w (upd H a o) h' a o):HOk P w (upd H a o) h':=λb u e=>by
 have hn:=x.fresh hp;by_cases hb:b=a
 ·subst hb;rw[aY]at e;cases e;exact new
 ·rw[aR hb]at e;exact(x b u e).stay (λc v _ q=>k c v q) (λc q=>by rw[aR (bx q hn)];exact q) λc xs q=>by rw[aR (bx q hn)];exact q
end
def Rd(H:Hp)(a:Addr)(u:HO):Prop:=H a=some u\/∃o,H a=some (.frz o u)
theorem Rd.ok{P:Program}{w:World}{H:Hp}{h:Heap}{a:Addr}{u:HO}(r:Rd H a u)(x:HOk P w H h):ObjOk P w H h a u:=by
 rcases r with r|⟨o,r⟩
 ·exact x a u r
 ·obtain⟨_,q⟩:=x a _ r;exact q
noncomputable def Ww:Option HO->Prop
 |some (.lst _)=>True|some (.dK _)=>True|some (.dT _)=>True|some (.set _ _)=>True|some (.ins _ _ _)=>True|some (.ext _)=>True|_=>False
section
variable{P:Program}{w:World}{H:Hp}{h h':Heap}{x e:Addr}{o':HO}
theorem HOk.write(ok:HOk P w H h)(mu:Ww (H x))(he:e=x\/H e=some (.own x))(k:∀b u,b≠e->h.get? b=some u->h'.get? b=some u)(heo:∃u,h'.get? e=some u)
 (new:ObjOk P w (upd H x o') h' x o'):HOk P w (upd H x o') h':=λb u q=>by
 have nown:∀c y,H c=some (.own y)->c≠x:=λc y r z=>by subst z;rw[r]at mu;exact mu
 have ntup:∀c xs,H c=some (.tup xs)->c≠x:=λc xs r z=>by subst z;rw[r]at mu;exact mu
 by_cases hb:b=x
 ·subst hb;rw[aY]at q;cases q;exact new
 ·rw[aR hb]at q;by_cases hbe:b=e
  ·have q':H b=some (.own x):=by
    rcases he with z|z
    ·exact absurd (hbe.trans z) hb
    ·rw[hbe];exact z
   rw[q]at q';cases q';obtain⟨v,hv⟩:=heo;exact⟨v,by rw[hbe];exact hv⟩
  ·refine(ok b u q).stay (λc v hc r=>k c v ?_ r) (λc r=>by rw[aR (nown c b r)];exact r) λc xs r=>by rw[aR (ntup c xs r)];exact r
   rcases hc with rfl|hc
   ·exact hbe
   ·rintro rfl;rcases he with z|z
    ·exact nown c b hc z
    ·rw[hc]at z;cases z;exact hb rfl
end
structure Un(fs ex:List Addr)(H H':Hp)(h h':Heap):Prop where
 keep:∀b o,h.get? b=some o->H b=none->b∉fs->b∉ex->h'.get? b=some o
 slot:∀b o,h.get? b=some o->H b=none->b∈fs->b∉ex->∃sl,h'.get? b=some {o with slots:=sl}
 free:∀b o,h.get? b=some o->H b=none->b∉ex->H' b=none
 there:∀b o,h.get? b=some o->b∉ex->∃o',h'.get? b=some o'
 tups:∀b xs,H b=some (.tup xs)->H' b=some (.tup xs)
 frzs:∀b o u,H b=some (.frz o u)->H' b=some (.frz o u)
 tbls:∀b ps,H b=some (.tbl ps)->∃more,H' b=some (.tbl (ps++more))
section
variable{fs fs' ex ex':List Addr}{H H1 H2:Hp}{h h1 h2 h':Heap}{a x e:Addr}{o:HO}
theorem Un.any(u:Un fs ex H H1 h h1){b:Addr}{ob:Obj}(q:h.get? b=some ob)(n:H b=none)(hx:b∉ex):∃sl,h1.get? b=some {ob with slots:=sl}:=by
 by_cases hb:b∈fs
 ·exact u.slot b ob q n hb hx
 ·exact⟨ob.slots,u.keep b ob q n hb hx⟩
theorem Un.kept(k:∀b u,h.get? b=some u->h'.get? b=some u):Un fs ex H H h h':=
 ⟨λb ob q _ _ _=>k b ob q,λb ob q _ _ _=>⟨ob.slots,k b ob q⟩,λ_ _ _ n _=>n,λb ob q _=>⟨ob,k b ob q⟩,λ_ _ q=>q,λ_ _ _ q=>q,λ_ ps q=>⟨#[],by rw[q];simp⟩⟩
theorem Un.refl:Un fs ex H H h h:=Un.kept λ_ _ q=>q
theorem Un.laid(k:∀b u,h.get? b=some u->h'.get? b=some u)(hp:h.objs.size<=a)(hn:H a=none):Un fs ex H (upd H a o) h h' where
 keep:=λb u q _ _ _=>k b u q
 slot:=λb u q _ _ _=>⟨u.slots,k b u q⟩
 free:=λb u q n _=>by rw[aR (Z1 (ZX (ZG q) hp))];exact n
 there:=λb u q _=>⟨u,k b u q⟩
 tups:=λb xs q=>by rw[aR (bx q hn)];exact q
 frzs:=λb u xs q=>by rw[aR (bx q hn)];exact q
 tbls:=λb ps q=>⟨#[],by rw[aR (bx q hn),q];simp⟩
theorem Un.write(mu:Ww (H x))(he:e=x\/H e=some (.own x))(k:∀b u,b≠e->h.get? b=some u->h'.get? b=some u)(heo:∃u,h'.get? e=some u):Un fs ex H (upd H x o) h h':=by
 have hx:∀b,H b=none->b≠x:=λb n z=>by subst z;rw[n]at mu;exact mu
 have hb:∀b,H b=none->b≠e:=λb n z=>by
  subst z;rcases he with r|r
  ·exact hx b n r
  ·rw[n]at r;cases r
 have hm:∀b u,H b=some u->¬ Ww (some u)->b≠x:=λb u q nm z=>by subst z;rw[q]at mu;exact nm mu
 refine⟨λb u q n _ _=>k b u (hb b n) q,λb u q n _ _=>⟨u.slots,k b u (hb b n) q⟩,λb u q n _=>by rw[aR (hx b n)];exact n,λb u q _=>?_,
  λb xs q=>by rw[aR (hm b _ q λz=>z)];exact q,λb u xs q=>by rw[aR (hm b _ q λz=>z)];exact q,λb ps q=>⟨#[],by rw[aR (hm b _ q λz=>z),q];simp⟩⟩
 by_cases hbe:b=e
 ·subst hbe;exact heo
 ·exact⟨u,k b u hbe q⟩
end
noncomputable def Yd(h:Heap)(H:Hp):List Addr:=(List.range h.objs.size).filter λa=>(H a).isSome
def zu(h:Heap)(H:Hp):Heap:=PySem.W.hideAll h (Yd h H)
theorem KD(h:Heap)(H:Hp):(zu h H).objs.size=h.objs.size:=PySem.W.hideAll_size _ _
theorem O2{h:Heap}{H:Hp}{b:Addr}{o:Obj}(e:h.get? b=some o)(n:H b=none):(zu h H).get? b=some o:=
 PySem.W.hideAll_get _ e λhm=>by
  have q:(H b).isSome=true:=(aaE.mp hm).2;rw[n]at q;simp at q
theorem R3{h:Heap}{H:Hp}{b:Addr}{o:Obj}(e:(zu h H).get? b=some o):h.get? b=some o/\H b=none:=by
 have e':h.get? b=some o:=PySem.W.of_hideAll (Yd h H) e;refine⟨e',?_⟩;cases q:H b with
 |none=>rfl|some x=>
   have hm:b∈Yd h H:=aaE.mpr ⟨aab.mpr (ZG e'),by simp[q]⟩;have z:(zu h H).get? b=none:=PySem.W.hideAll_none (Yd h H) hm;rw[z]at e;cases e
structure Mod(K:PySem.W.Frag)(mg:Str->Option Value)(base:Heap):Prop where
 kin:K.In base
 glob:base.Ns mainGlobals mg
 blt:∃mb,base.Ns builtinsNs mb/\∀x:Str,x≠"__name__"->mb x=bootBuiltins x
 nolimit:base.NoLimit
structure Cx where
 prog:Program
 w:World
 K:PySem.W.Frag
 mg:Str->Option Value
 base:Heap
 A:Around
 N:List Str
 s₀:Shared
 H₀:Hp
 env:Env
 outer:List Env
 stack:List Env
 ex:List Addr
 fn:Str->Bool
 calm:Bool
 pn:List (Addr×Obj)
 xe:Value->Shared->Prop
def frs(l:List Env):List Addr:=l.filterMap (·.frame)
abbrev Cx.fs(X:Cx):List Addr:=frs X.outer
def X5(sc:Scope)(x:Str):Prop:=sc.names.lookup x=some .local\/sc.names.lookup x=some .cell\/sc.names.lookup x=some .free
def Loc(sc:Scope)(x:Str):Prop:=sc.names.lookup x=some .local\/sc.names.lookup x=some .cell
def Look(env:Env)(h:Heap)(m:Str->Option Value)(x:Str)(u:Value):Prop:=
 (env.kindOf x=some .local/\m x=some u)\/((env.kindOf x=some .cell\/env.kindOf x=some .free)/\∃c,env.cells.lookup x=some c/\h.IsCell c (some u))
structure Cx.Ok(X:Cx):Prop where
 mod:Mod X.K X.mg X.base
 kind:X.env.scope.kind=.function
 glob:X.env.globals=mainGlobals
 blt:X.env.builtins=builtinsNs
 above:X.s₀.heap.objs.size<=X.env.locals
 inj:∀x y c,X.env.cells.lookup x=some c->X.env.cells.lookup y=some c->x=y
 has:∀x,(X.env.kindOf x=some .cell\/X.env.kindOf x=some .free)->∃c,X.env.cells.lookup x=some c
 cab:∀x c,X.fn x=true->X.env.cells.lookup x=some c->X.s₀.heap.objs.size<=c
 hd:X.calm=true->X.A.handled=none
 frames:X.A.frames=some X.stack
 stk:X.stack=X.outer\/(X.stack=X.env::X.outer/\X.env.frame=some X.env.locals)
 exf:∀b∈X.ex,b≠X.env.locals/\∀x c,X.env.cells.lookup x=some c->c≠b
 bs:∀b o,X.base.get? b=some o->X.s₀.heap.get? b=some o/\X.H₀ b=none
 bsz:X.base.objs.size<=X.s₀.heap.objs.size
 noex:∀b o,X.base.get? b=some o->b∉X.ex
 exfs:∀b∈X.ex,b∉X.fs
 funs:X.s₀.heap.FunFrames X.base X.outer
 frf:∀b∈X.fs,X.H₀ b=none
structure Inv(X:Cx)(pins:List (Addr×Obj))(σ:List (Option V))(H:Hp)(s:Shared):Prop where
 ok:X.Ok
 os:s.os=X.s₀.os
 bare:AllBare s.gens
 base:Un X.fs X.ex X.H₀ H X.s₀.heap s.heap
 loc:∃m,s.heap.Ns X.env.locals m/\∀(i:Nat)(x:Str)(v:V),X.N[i]? = some x->σ[i]? = some (some v)->X5 X.env.scope x->∃u,RelV v u/\Look X.env s.heap m x u
 cell:∀x c,X.env.cells.lookup x=some c->∃v,s.heap.IsCell c v
 free:H X.env.locals=none
 freeC:∀x c,X.env.cells.lookup x=some c->H c=none
 pin:∀p∈X.pn++pins,s.heap.get? p.1=some p.2/\H p.1=none/\p.1≠X.env.locals/\p.1∉X.fs/\∀v,p.2.data≠.cell v
 hok:HOk X.prog X.w H s.heap
 len:σ.length=X.N.length
section
variable{X:Cx}{pins:List (Addr×Obj)}{σ:List (Option V)}{H H':Hp}{s:Shared}{h':Heap}
theorem Cx.Ok.nofr(ok:X.Ok){b:Addr}{o:Obj}(e:X.base.get? b=some o):b∉X.fs:=λhb=>by
 have:=(ok.funs.mem hb).1;rw[e]at this;cases this
theorem Inv.bs(I:Inv X pins σ H s):∀b o,X.base.get? b=some o->s.heap.get? b=some o/\H b=none:=λb o e=>
 ⟨I.base.keep b o (I.ok.bs b o e).1 (I.ok.bs b o e).2 (I.ok.nofr e) (I.ok.noex b o e),I.base.free b o (I.ok.bs b o e).1 (I.ok.bs b o e).2 (I.ok.noex b o e)⟩
theorem Inv.bk(I:Inv X pins σ H s):∀b o,X.base.get? b=some o->s.heap.get? b=some o:=λb o e=>(I.bs b o e).1
theorem Inv.mod(I:Inv X pins σ H s):Mod X.K X.mg X.base:=I.ok.mod
theorem Inv.kIn(I:Inv X pins σ H s):X.K.In s.heap:=I.ok.mod.kin.keeps I.bk
theorem Inv.lt(I:Inv X pins σ H s):X.env.locals<s.heap.objs.size:=let ⟨_,hn,_⟩:=I.loc;hn.lt
theorem Inv.sz(I:Inv X pins σ H s):X.s₀.heap.objs.size<=s.heap.objs.size:=aaV I.ok.above (aca I.lt)
theorem Inv.nofs(I:Inv X pins σ H s){a:Addr}(h:s.heap.objs.size<=a):a∉X.fs:=λhb=>by
 obtain⟨_,o,ho,_⟩:=I.ok.funs.mem hb;exact absurd (ZX (ZG ho) (aaV I.sz h)) (abk _)
theorem Inv.cne(I:Inv X pins σ H s):∀x c,X.env.cells.lookup x=some c->c≠X.env.locals:=λx c e z=>by
 obtain⟨v,o,ho,hd⟩:=I.cell x c e;obtain⟨m,⟨o',es,ep,ho',hd',_⟩,_⟩:=I.loc;rw[z,ho']at ho;cases ho;rw[hd']at hd;cases hd
theorem Inv.funs(I:Inv X pins σ H s):s.heap.FunFrames X.base X.outer:=by
 have all:∀(l:List Env),(∀b∈frs l,b∈X.fs)->X.s₀.heap.FunFrames X.base l->s.heap.FunFrames X.base l:=by
  intro l;induction l with
  |nil=>intro _ _;trivial|cons env r ih=>
    intro hs hl;obtain⟨hk,⟨L,o,hf,hn,ho,hd⟩,hr⟩:=hl;have hL:L∈X.fs:=hs L (by unfold frs;rw[aaJ,hf];exact ZF);obtain⟨sl,e⟩:=I.base.slot L o ho (I.ok.frf L hL) hL λz=>I.ok.exfs L z hL;exact⟨hk,⟨L,_,hf,hn,e,hd⟩,ih (λb hb=>hs b (by unfold frs;rw[aaJ,hf];exact Zy _ hb)) hr⟩
 exact all X.outer (λ_ hb=>hb) I.ok.funs
theorem Inv.stack(I:Inv X pins σ H s):s.heap.FunFrames X.base X.stack:=by
 rcases I.ok.stk with e|⟨e,hf⟩
 ·rw[e];exact I.funs
 ·rw[e];obtain⟨m,hn,_⟩:=I.loc;refine .cons (by rw[I.ok.kind];decide) hf hn ?_ I.funs;exact Heap.get?_none_of_le (aaV I.ok.bsz I.ok.above)
theorem Inv.stkSub(I:Inv X pins σ H s):∀b∈frs X.stack,b∈X.env.locals::X.fs:=λb hb=>by
 rcases I.ok.stk with e|⟨e,hf⟩
 ·rw[e]at hb;exact Zy _ hb
 ·rw[e]at hb;unfold frs at hb;rw[aaJ,hf]at hb;exact hb
theorem Inv.stkFree(I:Inv X pins σ H s):∀b∈frs X.stack,H b=none:=λb hb=>by
 rcases ZP.mp (I.stkSub b hb)with e|hb
 ·rw[e];exact I.free
 ·obtain⟨_,o,ho,_⟩:=I.ok.funs.mem hb;exact I.base.free b o ho (I.ok.frf b hb) λz=>I.ok.exfs b z hb
theorem Inv.step{g':Array GenState}{t':Nat}{d':Drawn}{ch:List Addr}(I:Inv X pins σ H s)
 (hch:∀b∈ch,(b∈X.ex\/X.s₀.heap.objs.size<=b)/\b≠X.env.locals/\(∀x c,X.env.cells.lookup x=some c->c≠b)/\∀p∈X.pn++pins,p.1≠b)
 (keep:∀b o,b≠X.env.locals->b∉X.fs->b∉ch->s.heap.get? b=some o->H b=none->h'.get? b=some o)
 (slot:∀b o,b≠X.env.locals->b∈X.fs->b∉ch->s.heap.get? b=some o->H b=none->∃sl,h'.get? b=some {o with slots:=sl}) (free:∀b o,b∉ch->s.heap.get? b=some o->H b=none->H' b=none)
 (there:∀b o,b∉ch->s.heap.get? b=some o->∃o',h'.get? b=some o')
 (tups:∀b xs,H b=some (.tup xs)->H' b=some (.tup xs)) (frzs:∀b o u,H b=some (.frz o u)->H' b=some (.frz o u)) (tbls:∀b ps,H b=some (.tbl ps)->∃more,H' b=some (.tbl (ps++more)))
 (ns:∀m,s.heap.Ns X.env.locals m->h'.Ns X.env.locals m) (hok:HOk X.prog X.w H' h') (hg:AllBare g'):
 Inv X pins σ H' {s with heap:=h',gens:=g',drawn:=d',toks:=t'}:=by
 have neL:∀b o,X.s₀.heap.get? b=some o->b≠X.env.locals:=λb o e=>Z1 (ZX (ZG e) I.ok.above);have neC:∀b o,X.s₀.heap.get? b=some o->b∉X.ex->b∉ch:=λb o e hx hb=>by
  rcases(hch b hb).1 with z|z
  ·exact hx z
  ·exact absurd (ZX (ZG e) z) (abk _)
 have cellK:∀x c,X.env.cells.lookup x=some c->∀v,s.heap.IsCell c v->h'.IsCell c v:=λx c e v ⟨o,ho,hd⟩=>by
  have nch:c∉ch:=λz=>(hch c z).2.2.1 x c e rfl;by_cases hc:c∈X.fs
  ·obtain⟨sl,q⟩:=slot c o (I.cne x c e) hc nch ho (I.freeC x c e);exact⟨_,q,hd⟩
  ·exact⟨o,keep c o (I.cne x c e) hc nch ho (I.freeC x c e),hd⟩
 refine⟨I.ok,I.os,hg,⟨λb o e n hb hx=>?_,λb o e n hb hx=>?_,λb o e n hx=>?_,λb o e hx=>?_,λb xs e=>tups b xs (I.base.tups b xs e),λb o xs e=>frzs b o xs (I.base.frzs b o xs e),λb ps e=>?_⟩,?_,λx c e=>?_,?_,λx c e=>?_,λp hp=>?_,hok,I.len⟩
 ·exact keep b o (neL b o e) hb (neC b o e hx) (I.base.keep b o e n hb hx) (I.base.free b o e n hx)
 ·obtain⟨sl,e1⟩:=I.base.slot b o e n hb hx;obtain⟨sl',e2⟩:=slot b _ (neL b o e) hb (neC b o e hx) e1 (I.base.free b o e n hx);exact⟨sl',e2⟩
 ·obtain⟨o',e1⟩:=I.base.there b o e hx;exact free b o' (neC b o e hx) e1 (I.base.free b o e n hx)
 ·obtain⟨o',e1⟩:=I.base.there b o e hx;exact there b o' (neC b o e hx) e1
 ·obtain⟨m1,e1⟩:=I.base.tbls b ps e;obtain⟨m2,e2⟩:=tbls b _ e1;exact⟨m1++m2,by rw[e2,Array.append_assoc]⟩
 ·obtain⟨m,hn,hl⟩:=I.loc;refine⟨m,ns m hn,λi x v e1 e2 e3=>?_⟩;obtain⟨u,r,l⟩:=hl i x v e1 e2 e3;refine⟨u,r,?_⟩;rcases l with l|⟨k,c,e,z⟩
  ·exact .inl l
  ·exact .inr ⟨k,c,e,cellK x c e _ z⟩
 ·obtain⟨v,z⟩:=I.cell x c e;exact⟨v,cellK x c e v z⟩
 ·obtain⟨m,⟨o,_,_,ho,_⟩,_⟩:=I.loc;exact free _ o (λz=>(hch _ z).2.1 rfl) ho I.free
 ·obtain⟨v,o,ho,hd⟩:=I.cell x c e;exact free c o (λz=>(hch c z).2.2.1 x c e rfl) ho (I.freeC x c e)
 ·obtain⟨e,n,ne,nf,d⟩:=I.pin p hp;have nch:p.1∉ch:=λz=>(hch p.1 z).2.2.2 p hp rfl;exact⟨keep p.1 p.2 ne nf nch e n,free p.1 p.2 nch e n,ne,nf,d⟩
theorem Inv.un{t':Nat}(I:Inv X pins σ H s)(u:Un X.fs [] H H' s.heap h')(hok:HOk X.prog X.w H' h'):Inv X pins σ H' {s with heap:=h',toks:=t'}:=by
 obtain⟨m,⟨o,es,ep,ho,r⟩,_⟩:=id I.loc;obtain⟨sl,hL⟩:=u.any ho I.free (by simp);exact I.step (g':=s.gens) (d':=s.drawn) (ch:=[]) (λ_ z=>nomatch z) (λb o _ hb _ e n=>u.keep b o e n hb (by simp)) (λb o _ hb _ e n=>u.slot b o e n hb (by simp)) (λb o _ e n=>u.free b o e n (by simp)) (λb o _ e=>u.there b o e (by simp)) u.tups u.frzs u.tbls (λm' hm=>by
  obtain⟨o',es',ep',ho',r'⟩:=hm;rw[ho]at ho';cases ho';exact⟨_,es',ep',hL,r'⟩) hok I.bare
theorem Inv.call{g':Array GenState}{t':Nat}{d':Drawn}{ch:List Addr}(I:Inv X pins σ H s)(u:Un (frs X.stack) ch H H' s.heap h')(hok:HOk X.prog X.w H' h')(hg:AllBare g')
 (hch:∀b∈ch,(b∈X.ex\/X.s₀.heap.objs.size<=b)/\b≠X.env.locals/\(∀x c,X.env.cells.lookup x=some c->c≠b)/\∀p∈X.pn++pins,p.1≠b):
 Inv X pins σ H' {s with heap:=h',gens:=g',drawn:=d',toks:=t'}:=by
 obtain⟨m,⟨o,es,ep,ho,r⟩,_⟩:=id I.loc;obtain⟨sl,hL⟩:=u.any ho I.free λz=>(hch _ z).2.1 rfl;exact I.step (ch:=ch) hch (λb o hL hb hc e n=>u.keep b o e n (λz=>(ZP.mp (I.stkSub b z)).elim hL hb) hc) (λb o _ _ hc e n=>u.any e n hc) (λb o hc e n=>u.free b o e n hc) (λb o hc e=>u.there b o e hc) u.tups u.frzs u.tbls (λm' hm=>by
  obtain⟨o',es',ep',ho',r'⟩:=hm;rw[ho]at ho';cases ho';exact⟨_,es',ep',hL,r'⟩) hok hg
theorem Inv.turned{t':Nat}{it:Addr}(I:Inv X pins σ H s)(k:∀b o,b≠it->s.heap.get? b=some o->h'.get? b=some o)(hn:H it=none)(hL:it≠X.env.locals)
 (h1:it∈X.ex\/X.s₀.heap.objs.size<=it) (h2:∀x c,X.env.cells.lookup x=some c->c≠it) (h3:∀p∈X.pn++pins,p.1≠it):Inv X pins σ H {s with heap:=h',toks:=t'}:=by
 have nit:∀b u,H b=some u->b≠it:=λb u e z=>by rw[z,hn]at e;cases e
 refine I.step (g':=s.gens) (d':=s.drawn) (ch:=[it]) (λb hb=>?_) (λb o _ _ hc e _=>k b o (λz=>hc (by simp[z])) e) (λb o _ _ hc e _=>⟨o.slots,k b o (λz=>hc (by simp[z])) e⟩) (λ_ _ _ _ n=>n)
  (λb o hc e=>⟨o,k b o (λz=>hc (by simp[z])) e⟩) (λ_ _ e=>e) (λ_ _ _ e=>e) (λb ps e=>⟨#[],by rw[e];simp⟩) (λm hm=>?_) (λb u e=>?_) I.bare
 ·have e:b=it:=by simpa using hb
  subst e;exact⟨h1,hL,h2,h3⟩
 ·obtain⟨o,es,ep,ho,r⟩:=hm;exact⟨o,es,ep,k _ o (aal hL) ho,r⟩
 ·refine(I.hok b u e).stay (λc v hc q=>k c v ?_ q) (λ_ q=>q) λ_ _ q=>q;rcases hc with z|z
  ·rw[z];exact nit b u e
  ·exact nit c _ z
theorem Inv.tok(I:Inv X pins σ H s)(t:Nat):Inv X pins σ H {s with toks:=t}:=I.un (h':=s.heap) (t':=t) Un.refl I.hok
theorem Inv.kept{t':Nat}(I:Inv X pins σ H s)(k:∀b u,s.heap.get? b=some u->h'.get? b=some u):Inv X pins σ H {s with heap:=h',toks:=t'}:=I.un (Un.kept k) (I.hok.kept k)
theorem Inv.laid{a:Addr}{o:HO}{t':Nat}(I:Inv X pins σ H s)(k:∀b u,s.heap.get? b=some u->h'.get? b=some u)(hp:s.heap.objs.size<=a)(new:ObjOk X.prog X.w (upd H a o) h' a o):
 Inv X pins σ (upd H a o) {s with heap:=h',toks:=t'}:=I.un (Un.laid k hp (I.hok.fresh hp)) (I.hok.laid k hp new)
theorem Inv.write{x e:Addr}{o:HO}{t':Nat}(I:Inv X pins σ H s)(mu:Ww (H x))(he:e=x\/H e=some (.own x))(k:∀b u,b≠e->s.heap.get? b=some u->h'.get? b=some u)(heo:∃u,h'.get? e=some u)
 (new:ObjOk X.prog X.w (upd H x o) h' x o):Inv X pins σ (upd H x o) {s with heap:=h',toks:=t'}:=I.un (Un.write mu he k heo) (I.hok.write mu he k heo new)
theorem Inv.pins_of{pins':List (Addr×Obj)}(I:Inv X pins σ H s)(h:∀p∈pins',s.heap.get? p.1=some p.2/\H p.1=none/\p.1≠X.env.locals/\p.1∉X.fs/\∀v,p.2.data≠.cell v):Inv X pins' σ H s:=
 ⟨I.ok,I.os,I.bare,I.base,I.loc,I.cell,I.free,I.freeC,λp hp=>(aar.mp hp).elim (λz=>I.pin p (aaR _ z)) (h p),I.hok,I.len⟩
theorem BW{N:List Str}(hN:N.Nodup){i j:Nat}{x:Str}(a:N[i]? = some x)(b:N[j]? = some x):i=j:=by
 obtain⟨h1,e1⟩:=ZV.mp a;obtain⟨h2,e2⟩:=ZV.mp b;exact(List.getElem_inj hN).mp (e1.trans e2.symm)
theorem JS{M:Model}{A:Around}{E:Value->Shared->Prop}{i:Nat}{x:Str}{v:V}{u:Value}{Q:Unit->Shared->Prop}(I:Inv X pins σ H s)(hN:X.N.Nodup)(hi:X.N[i]? = some x)(hx:Loc X.env.scope x)(r:RelV v u)
 (h:∀s',Inv X pins (σ.set i (some v)) H s'->(∃a,Heap.SameBut a s.heap s'.heap/\(a=X.env.locals\/X.env.cells.lookup x=some a))->Q () s') (hf:X.fn x=true\/X.env.scope.names.lookup x=some .local:=by first|exact .inl rfl|exact .inr rfl|assumption):wpAny M A (storeName X.env x u) Q E s:=by
 obtain⟨m,hn,hl⟩:=id I.loc;have hcls:(X.env.scope.kind==.class||(X.env.scope.kind==.module&&X.env.locals != X.env.globals))=false:=by rw[I.ok.kind];rfl
 have hiσ:i<σ.length:=by rw[I.len];exact(ZV.mp hi).1
 have cne:=I.cne;have tracked:∀{a:Addr}{h':Heap},(∃o,s.heap.get? a=some o/\H a=none)->Heap.SameBut a s.heap h'->HOk X.prog X.w H h':=λ{a h'} ha hs b ob e=>by
  obtain⟨_,_,hfree⟩:=ha;refine(I.hok b ob e).stay (λc w' hc q=>(hs.2 c ?_).trans q) (λ_ q=>q) λ_ _ q=>q;rintro rfl;rcases hc with rfl|hc
  ·rw[hfree]at e;cases e
  ·rw[hfree]at hc;cases hc
 rcases hx with hk|hk
 ·refine wpAny_storeName_local hk hn (λh' hn' hs=>?_) hcls;obtain⟨oL,_,_,hoL,_⟩:=id hn;refine h _ ⟨I.ok,I.os,I.bare,⟨λb o e n hb hx=>?_,λb o e n hb hx=>?_,I.base.free,λb o e hx=>?_,I.base.tups,I.base.frzs,I.base.tbls⟩,⟨_,hn',λj y v' e1 e2 e3=>?_⟩,λy c e=>?_,I.free,I.freeC,λp hp=>?_,tracked ⟨oL,hoL,I.free⟩ hs,by simpa using I.len⟩ ⟨_,hs,.inl rfl⟩
  ·exact(hs.2 b (Z1 (ZX (ZG e) I.ok.above))).trans (I.base.keep b o e n hb hx)
  ·obtain⟨sl,e1⟩:=I.base.slot b o e n hb hx;exact⟨sl,(hs.2 b (Z1 (ZX (ZG e) I.ok.above))).trans e1⟩
  ·obtain⟨o',e1⟩:=I.base.there b o e hx;exact⟨o',(hs.2 b (Z1 (ZX (ZG e) I.ok.above))).trans e1⟩
  ·by_cases hj:j=i
   ·subst hj;rw[hi]at e1;cases e1;rw[Z9 hiσ]at e2;cases e2;exact⟨u,r,.inl ⟨hk,by simp⟩⟩
   ·rw[ZQ (aal hj)]at e2;obtain⟨u',r',q⟩:=hl j y v' e1 e2 e3;refine⟨u',r',?_⟩;rcases q with⟨k,e⟩|⟨k,c,e,z⟩
    ·refine .inl ⟨k,?_⟩;have:y≠x:=λe=>hj (BW hN e1 (e▸hi));simp[this,e]
    ·exact .inr ⟨k,c,e,z.sameBut hs (cne y c e)⟩
  ·obtain⟨w',z⟩:=I.cell y c e;exact⟨w',z.sameBut hs (cne y c e)⟩
  ·obtain⟨e,n,ne,nf,d⟩:=I.pin p hp;exact⟨(hs.2 p.1 ne).trans e,n,ne,nf,d⟩
 ·have hfn:X.fn x=true:=by
   rcases hf with z|z
   ·exact z
   ·rw[z]at hk;cases hk
  obtain⟨c,hc⟩:=I.ok.has x (.inl hk);obtain⟨w',z⟩:=I.cell x c hc;refine wpAny_storeName_cell I.ok.kind hk hc z (λh' hc' hs=>?_);obtain⟨oc,hoc,hocd⟩:=id z;refine h {s with heap:=h'} ⟨I.ok,I.os,I.bare,⟨λb o e n hb hx=>?_,λb o e n hb hx=>?_,I.base.free,λb o e hx=>?_,I.base.tups,I.base.frzs,I.base.tbls⟩,⟨m,hn.sameBut hs (aal (cne x c hc)),λj y v' e1 e2 e3=>?_⟩,λy c' e=>?_,I.free,I.freeC,λp hp=>?_,tracked ⟨oc,hoc,I.freeC x c hc⟩ hs,by simpa using I.len⟩ ⟨c,hs,.inr hc⟩
  ·exact(hs.2 b (Z1 (ZX (ZG e) (I.ok.cab x c hfn hc)))).trans (I.base.keep b o e n hb hx)
  ·obtain⟨sl,e1⟩:=I.base.slot b o e n hb hx;exact⟨sl,(hs.2 b (Z1 (ZX (ZG e) (I.ok.cab x c hfn hc)))).trans e1⟩
  ·obtain⟨o',e1⟩:=I.base.there b o e hx;exact⟨o',(hs.2 b (Z1 (ZX (ZG e) (I.ok.cab x c hfn hc)))).trans e1⟩
  ·by_cases hj:j=i
   ·subst hj;rw[hi]at e1;cases e1;rw[Z9 hiσ]at e2;cases e2;exact⟨u,r,.inr ⟨.inl hk,c,hc,hc'⟩⟩
   ·rw[ZQ (aal hj)]at e2;obtain⟨u',r',q⟩:=hl j y v' e1 e2 e3;refine⟨u',r',?_⟩;rcases q with q|⟨k,c',e,z'⟩
    ·exact .inl q
    ·refine .inr ⟨k,c',e,z'.sameBut hs ?_⟩;rintro rfl;exact hj (BW hN e1 (I.ok.inj _ _ _ e hc▸hi))
  ·by_cases hcc:c'=c
   ·subst hcc;exact⟨_,hc'⟩
   ·obtain⟨w2,z2⟩:=I.cell y c' e;exact⟨w2,z2.sameBut hs hcc⟩
  ·obtain⟨e,n,ne,nf,d⟩:=I.pin p hp;refine⟨(hs.2 p.1 ?_).trans e,n,ne,nf,d⟩;intro q;rw[q,hoc]at e;have q':oc=p.2:=aaA e;exact d w' (by rw[<-q'];exact hocd)
theorem uI{M:Model}{A:Around}{E:Value->Shared->Prop}{i:Nat}{x:Str}{v:V}{u:Value}{Q:Unit->Shared->Prop}(I:Inv X pins σ H s)(hN:X.N.Nodup)(hi:X.N[i]? = some x)(hx:Loc X.env.scope x)(r:RelV v u)
 (h:∀s',Inv X pins (σ.set i (some v)) H s'->Q () s') (hf:X.fn x=true\/X.env.scope.names.lookup x=some .local:=by first|exact .inl rfl|exact .inr rfl|assumption):wpAny M A (storeName X.env x u) Q E s:=
 JS I hN hi hx r (λs' I' _=>h s' I') hf
theorem Inv.call'{s':Shared}{ch:List Addr}(I:Inv X pins σ H s)(ho:s'.os=s.os)(u:Un (frs X.stack) ch H H' s.heap s'.heap)(hok:HOk X.prog X.w H' s'.heap)(hg:AllBare s'.gens)
 (hch:∀b∈ch,(b∈X.ex\/X.s₀.heap.objs.size<=b)/\b≠X.env.locals/\(∀x c,X.env.cells.lookup x=some c->c≠b)/\∀p∈X.pn++pins,p.1≠b):Inv X pins σ H' s':=by
 obtain⟨h',g',d',t',o'⟩:=s';have e:o'=s.os:=ho;subst e;exact I.call (g':=g') (t':=t') (d':=d') u hok hg hch
end
abbrev XK:=Value->Option Addr->Hp->Prop
abbrev St:=List (Option V)
abbrev VK:=V->Hp->Prop
abbrev TE:=St->Hp->VK->Prop
abbrev TT:=St->Hp->(Bool->Hp->Prop)->Prop
abbrev TA:=St->Hp->(List V->Hp->Prop)->Prop
structure Ends where
 nx:St->Hp->Prop
 rt:VK
 bk:St->Hp->Prop:=λ_ _=>False
 ct:St->Hp->Prop:=λ_ _=>False
abbrev TS:=Ends->St->Hp->Prop
def EP(X:Cx)(pins:List (Addr×Obj))(σ:St)(Q:VK)(u:Value)(s':Shared):Prop:=∃v H',Inv X pins σ H' s'/\RelV v u/\Q v H'
def TP(X:Cx)(pins:List (Addr×Obj))(σ:St)(Q:Bool->Hp->Prop)(b:Bool)(s':Shared):Prop:=∃H',Inv X pins σ H' s'/\Q b H'
def AP(X:Cx)(pins:List (Addr×Obj))(σ:St)(Q:List V->Hp->Prop)(us:List Value)(s':Shared):Prop:=∃vs H',Inv X pins σ H' s'/\Vals vs us/\Q vs H'
def SP(X:Cx)(pins:List (Addr×Obj))(D:Ends)(f:Flow)(s':Shared):Prop:=
 match f with
 |.next=>∃σ' H',Inv X pins σ' H' s'/\D.nx σ' H'|.brk=>∃σ' H',Inv X pins σ' H' s'/\D.bk σ' H'|.cont=>∃σ' H',Inv X pins σ' H' s'/\D.ct σ' H'|.ret u=>∃v σ' H',Inv X pins σ' H' s'/\RelV v u/\D.rt v H'
def PE(X:Cx)(e:Expr)(t:TE):Prop:=
 ∀(pins:List (Addr×Obj))(s:Shared)(σ:St)(H:Hp)(Q:VK),Inv X pins σ H s->t σ H Q->wpAny (model X.prog X.w) X.A (eval e X.env) (EP X pins σ Q) X.xe s
def PT(X:Cx)(e:Expr)(t:TT):Prop:=
 ∀(pins:List (Addr×Obj))(s:Shared)(σ:St)(H:Hp)(Q:Bool->Hp->Prop),Inv X pins σ H s->t σ H Q->wpAny (model X.prog X.w) X.A (isTrue e X.env (eval e X.env)) (TP X pins σ Q) X.xe s
def PW(X:Cx)(e:Expr)(t:TT):Prop:=
 ∀(whole:Sem Value)(pins:List (Addr×Obj))(s:Shared)(σ:St)(H:Hp)(Q:Bool->Hp->Prop),Inv X pins σ H s->t σ H Q->wpAny (model X.prog X.w) X.A (isTrue e X.env whole) (TP X pins σ Q) X.xe s
theorem PW.pt{X:Cx}{e:Expr}{t:TT}(h:PW X e t):PT X e t:=h _
def PA(X:Cx)(es:List Expr)(t:TA):Prop:=
 ∀(pos:Pos)(pins:List (Addr×Obj))(s:Shared)(σ:St)(H:Hp)(Q:List V->Hp->Prop),Inv X pins σ H s->t σ H Q->wpAny (model X.prog X.w) X.A (spliced (backTo pos (starEach es X.env))) (AP X pins σ Q) X.xe s
def PS(X:Cx)(st:Stmt)(t:TS):Prop:=
 ∀(pins:List (Addr×Obj))(s:Shared)(σ:St)(H:Hp)(D:Ends),Inv X pins σ H s->t D σ H->wpAny (model X.prog X.w) X.A (exec st X.env) (SP X pins D) X.xe s
def PSs(X:Cx)(st:List Stmt)(t:TS):Prop:=
 ∀(pins:List (Addr×Obj))(s:Shared)(σ:St)(H:Hp)(D:Ends),Inv X pins σ H s->t D σ H->wpAny (model X.prog X.w) X.A (execs st X.env) (SP X pins D) X.xe s
theorem cW{α:Type}{t:Sem α}{Q Q':α->Shared->Prop}{M:Model}{A:Around}{E:Value->Shared->Prop}{s:Shared}(h:wpAny M A t Q E s)(hQ:∀a s,Q a s->Q' a s):wpAny M A t Q' E s:=aa5 h hQ λ_ _ x=>x
section
variable{X:Cx}
theorem bin{a b:Expr}{ta tb:TE}(ha:PE X a ta)(hb:PE X b tb){pins:List (Addr×Obj)}{s:Shared}{σ:St}{H:Hp}{R:V->V->Hp->Prop}(I:Inv X pins σ H s)(h:ta σ H λx H1=>tb σ H1 λy H2=>R x y H2)
 {α:Type} {Q:α->Shared->Prop} {f:Value->Value->Sem α}
 (hf:∀v u s2 x y H2,Inv X pins σ H2 s2->RelV x v->RelV y u->R x y H2->wpAny (model X.prog X.w) X.A (f v u) Q X.xe s2):
 wpAny (model X.prog X.w) X.A (eval a X.env) (λv s₁=>wpAny (model X.prog X.w) X.A (eval b X.env) (λu s₂=>wpAny (model X.prog X.w) X.A (f v u) Q X.xe s₂) X.xe s₁) X.xe s:=by
 refine cW (ha pins s σ H _ I h) λv s1 ⟨x,H1,I1,r1,q1⟩=>?_;refine cW (hb pins s1 σ H1 _ I1 q1) λu s2 ⟨y,H2,I2,r2,q2⟩=>?_;exact hf v u s2 x y H2 I2 r1 r2 q2
noncomputable def fC(i:Nat):TE:=λσ H Q=>∃v,σ[i]? = some (some v)/\Q v H
noncomputable def tC(v:V):TE:=λ_ H Q=>Q v H
theorem Vo{i:Nat}{x:Str}{pos:Pos}(hN:X.N[i]? = some x)(hv:X5 X.env.scope x)(hd:(x==("__debug__":Str))=false:=by decide)(hcd:(x==("__classdict__":Str))=false:=by decide):PE X (.Name x pos) (fC i):=by
 intro pins s σ H Q I h;obtain⟨v,e,h⟩:=h;obtain⟨m,hn,hl⟩:=I.loc;obtain⟨u,r,l⟩:=hl i x v hN e hv;have fin:EP X pins σ Q u s:=⟨v,H,I,r,h⟩;rcases l with⟨hk,hm⟩|⟨hk,c,hc,hcell⟩
 ·exact wpAny_Name (wpAny_loadName_local I.ok.kind hk hn hm fin) hd
 ·rcases hk with hk|hk
  ·exact wpAny_Name (wpAny_loadName_cell I.ok.kind hk hc hcell fin) hd
  ·exact wpAny_Name (wpAny_loadName_free I.ok.kind hk hc hcell fin hcd) hd
theorem pQ{i j pos}:PE X (.Constant (.int i) j pos) (tC (.int i)):=λ_ _ _ H _ I h=>wpAny_Constant_int ⟨.int i,H,I.tok _,⟨_,rfl⟩,h⟩
theorem Xd{b j pos}:PE X (.Constant (.bool b) j pos) (tC (.bl b)):=λ_ _ _ H _ I h=>Constant_bool ⟨.bl b,H,I,rfl,h⟩
theorem Nz{j pos}:PE X (.Constant .none j pos) (tC .non):=λ_ _ _ H _ I h=>Constant_none ⟨.non,H,I,rfl,h⟩
def Gl(X:Cx)(x:Str):Prop:=X.env.kindOf x=some .globalImplicit
theorem Ij{E:Value->Shared->Prop}{pins:List (Addr×Obj)}{s:Shared}{σ:St}{H:Hp}{x:Str}{u:Value}{pos:Pos}{Q:Value->Shared->Prop}(I:Inv X pins σ H s)(hg:Gl X x)(hm:X.mg x=some u)(h:Q u s)
 (hd:(x==("__debug__":Str))=false:=by decide):wpAny (model X.prog X.w) X.A (eval (.Name x pos) X.env) Q E s:=
 adO I.ok.kind hg (Calls.loadGlobal_global (by rw[I.ok.glob];exact I.mod.glob.keeps I.bk) hm h) hd
theorem jl{E:Value->Shared->Prop}{pins:List (Addr×Obj)}{s:Shared}{σ:St}{H:Hp}{x:Str}{u:Value}{pos:Pos}{Q:Value->Shared->Prop}(I:Inv X pins σ H s)(hg:Gl X x)(hm:X.mg x=none)(hv:bootBuiltins x=some u)(h:Q u s)
 (hn:x≠"__name__":=by decide) (hd:(x==("__debug__":Str))=false:=by decide):wpAny (model X.prog X.w) X.A (eval (.Name x pos) X.env) Q E s:=by
 obtain⟨mb,h1,h2⟩:=I.mod.blt;exact adO I.ok.kind hg (Calls.loadGlobal_builtin (by rw[I.ok.glob];exact I.mod.glob.keeps I.bk) hm (by rw[I.ok.blt];exact h1.keeps I.bk) ((h2 x hn).trans hv) h) hd
theorem HN{x:Str}{v:V}{u:Value}{pos:Pos}(hg:Gl X x)(hm:X.mg x=some u)(r:RelV v u)(hd:(x==("__debug__":Str))=false:=by decide):PE X (.Name x pos) (tC v):=
 λ_ _ _ H _ I h=>Ij I hg hm ⟨v,H,I,r,h⟩ hd
variable{a b:Expr}{ta tb:TE}{pos:Pos}
def PC(X:Cx)(op:CmpOp)(a b:Expr)(t:TE):Prop:=
 ∀(pins:List (Addr×Obj))(s:Shared)(σ:St)(H:Hp)(Q:VK),Inv X pins σ H s->t σ H Q->
  wpAny (model X.prog X.w) X.A (eval a X.env) (λv s₁=>wpAny (model X.prog X.w) X.A (eval b X.env) (λu s₂=>wpAny (model X.prog X.w) X.A (compareOp op v u) (EP X pins σ Q) X.xe s₂) X.xe s₁) X.xe s
noncomputable def tB(t:TE):TT:=λσ H Q=>t σ H λx H1=>∃c,x=.bl c/\Q c H1
theorem Vj{op:CmpOp}{t:TE}(h:PC X op a b t)(h1:behindInMarks op b=false:=by first|exact nobehind _ (by decide) (by decide)|rfl):PT X (.Compare a [op] [b] pos) (tB t):=by
 intro pins s σ H Q I hw;refine wpAny_isTrue_Compare1 (cW (h pins s σ H _ I hw) λv s1 h1=>cW h1 λu s2 h2=>cW h2 λc s3 ⟨x,H1,I1,r1,q1⟩=>?_) h1;obtain⟨d,rfl,q⟩:=q1;cases r1;exact abM ⟨H1,I1,q⟩
variable{tA tB':TT}{rest:List Expr}
noncomputable def yG(t u:TT):TT:=λσ H Q=>t σ H λc H1=>if c=true then u σ H1 Q else Q false H1
noncomputable def Q8(t u:TT):TT:=λσ H Q=>t σ H λc H1=>if c=true then Q true H1 else u σ H1 Q
noncomputable def qt(t:TT):TT:=λσ H Q=>t σ H λc H1=>Q (!c) H1
theorem Ry(ha:PT X a tA):PW X (.BoolOp .And [a] pos) tA:=by
 intro wh pins s σ H Q I h;refine isTrue_and (cW (ha pins s σ H Q I h) λc s1 e=>?_);cases c with
 |true=>exact isTrue_and_nil e|false=>exact e
theorem Vg(ha:PT X a tA):PW X (.BoolOp .Or [a] pos) tA:=by
 intro wh pins s σ H Q I h;refine isTrue_or (cW (ha pins s σ H Q I h) λc s1 e=>?_);cases c with
 |false=>exact isTrue_or_nil e|true=>exact e
theorem Vh(ha:PT X a tA)(hb:PW X (.BoolOp .And (b::rest) pos) tB'):PW X (.BoolOp .And (a::b::rest) pos) (yG tA tB'):=by
 intro wh pins s σ H Q I h;refine isTrue_and (cW (ha pins s σ H _ I h) λc s1 ⟨H1,I1,q1⟩=>?_);cases c with
 |true=>exact hb wh pins s1 σ H1 Q I1 q1|false=>exact⟨H1,I1,q1⟩
theorem W9(ha:PT X a tA)(hb:PW X (.BoolOp .Or (b::rest) pos) tB'):PW X (.BoolOp .Or (a::b::rest) pos) (Q8 tA tB'):=by
 intro wh pins s σ H Q I h;refine isTrue_or (cW (ha pins s σ H _ I h) λc s1 ⟨H1,I1,q1⟩=>?_);cases c with
 |true=>exact⟨H1,I1,q1⟩|false=>exact hb wh pins s1 σ H1 Q I1 q1
theorem Vi(ha:PT X a tA):PT X (.UnaryOp .Not a pos) (qt tA):=by
 intro pins s σ H Q I h;exact isTrue_not (ha pins s σ H (λc H1=>Q (!c) H1) I h)
noncomputable def W0(ta tb:TE):TE:=λσ H Q=>ta σ H λx H1=>∃c,x=.bl c/\if c=true then tb σ H1 Q else Q (.bl false) H1
theorem Vq{op}{t:TE}(h:PE X a t):PE X (.BoolOp op [a] pos) t:=λpins s σ H Q I hw=>BoolOp_one (h pins s σ H Q I hw)
theorem Vr(ha:PE X a ta)(hb:PE X (.BoolOp .And (b::rest) pos) tb):PE X (.BoolOp .And (a::b::rest) pos) (W0 ta tb):=by
 intro pins s σ H Q I h;refine BoolOp_and (cW (ha pins s σ H _ I h) λv s1 ⟨x,H1,I1,r1,q1⟩=>?_);obtain⟨c,rfl,q1⟩:=q1;cases r1;refine abM ?_;cases c with
 |true=>exact hb pins s1 σ H1 Q I1 q1|false=>exact⟨.bl false,H1,I1,rfl,q1⟩
end
def SqL(K:PySem.W.Frag)(H:Hp)(a:Addr)(xs:List V):Prop:=
 Rd H a (.lst xs)\/
  ∃(o:Obj)(its:Array Value)(n:Nat),K.lookup a=some o/\o.cls=.type "list"/\o.dict=none/\o.data=.seq its n/\its.size<=sizeLine/\Vals xs its.toList
def SqT(K:PySem.W.Frag)(H:Hp)(a:Addr)(xs:List V):Prop:=
 Rd H a (.tup xs)\/
  ∃(o:Obj)(its:Array Value)(n:Nat),K.lookup a=some o/\o.cls=.type "tuple"/\o.data=.seq its n/\its.size<=sizeLine/\Vals xs its.toList
noncomputable def YM:Value->Option V
 |.none=>some .non|.bool b=>some (.bl b)|.int i _=>some (.int i)|.str x _=>some (.str x)|.bytes b _=>some (.byt b)|.float b _=>some (.flt b)|.ref a=>some (.ref a)|.type n=>some (.ty n)|_=>none
theorem RelV.abs{x:V}{u:Value}(r:RelV x u):YM u=some x:=by
 cases x with
 |non=>cases r;rfl|bl _=>cases r;rfl|int _=>obtain⟨t,rfl⟩:=r;rfl
 |str _=>obtain⟨t,rfl⟩:=r;rfl
 |byt _=>obtain⟨t,rfl⟩:=r;rfl
 |flt _=>obtain⟨t,rfl⟩:=r;rfl
 |ref _=>cases r;rfl|ty _=>cases r;rfl
theorem RelV.inj{x y:V}{u:Value}(r:RelV x u)(q:RelV y u):x=y:=aaA (r.abs.symm.trans q.abs)
theorem Vals.inj:∀{xs ys:List V}{us:List Value},Vals xs us->Vals ys us->xs=ys
 |_,_,_,.nil,.nil=>rfl|_,_,_,.cons r t,.cons r' t'=>by rw[r.inj r',Vals.inj t t']
section
variable{X:Cx}{pins:List (Addr×Obj)}{σ:St}{H:Hp}{s:Shared}{a:Addr}{xs ys:List V}
theorem SqL.of{K:PySem.W.Frag}(h:H a=some (.lst xs)):SqL K H a xs:=.inl (.inl h)
theorem SqT.of{K:PySem.W.Frag}(h:H a=some (.tup xs)):SqT K H a xs:=.inl (.inl h)
theorem Inv.list(I:Inv X pins σ H s)(h:SqL X.K H a xs):∃its:List Value,Vals xs its/\PlainL s.heap a its.toArray/\xs.length<=sizeLine:=by
 rcases h with h|⟨o,its,n,hk,hc,hd,hs,hz,r⟩
 ·obtain⟨z,its,n,r,e⟩:=h.ok I.hok;exact⟨its,r,⟨_,n,e,rfl,rfl,rfl⟩,z⟩
 ·refine⟨its.toList,r,⟨o,n,I.kIn a o hk,hc,hd,by simpa using hs⟩,?_⟩;have e:=r.length;simp only[abS]at e;omega
theorem Inv.tuple(I:Inv X pins σ H s)(h:SqT X.K H a xs):∃its:List Value,Vals xs its/\IsTup s.heap a its.toArray/\xs.length<=sizeLine:=by
 rcases h with h|⟨o,its,n,hk,hc,hs,hz,r⟩
 ·obtain⟨z,its,r,p⟩:=h.ok I.hok;exact⟨its,r,p,z⟩
 ·refine⟨its.toList,r,⟨o,I.kIn a o hk,hc,n,by simpa using hs⟩,?_⟩;have e:=r.length;simp only[abS]at e;omega
theorem Inv.list_inj(I:Inv X pins σ H s)(h:SqL X.K H a xs)(h':SqL X.K H a ys):xs=ys:=by
 obtain⟨its,r,⟨o,n,e,_,_,d⟩,_⟩:=I.list h;obtain⟨its',r',⟨o',n',e',_,_,d'⟩,_⟩:=I.list h';rw[e]at e';cases e';rw[d]at d';injection d' with d1 _;have:its=its':=by simpa using aaS Array.toList d1
 subst this;exact r.inj r'
theorem Inv.tuple_inj(I:Inv X pins σ H s)(h:SqT X.K H a xs)(h':SqT X.K H a ys):xs=ys:=by
 obtain⟨its,r,⟨o,e,_,n,d⟩,_⟩:=I.tuple h;obtain⟨its',r',⟨o',e',_,n',d'⟩,_⟩:=I.tuple h';rw[e]at e';cases e';rw[d]at d';injection d' with d1 _;have:its=its':=by simpa using aaS Array.toList d1
 subst this;exact r.inj r'
end
abbrev Cx.wish(X:Cx)(E:Value->Shared->Prop):Cx:={X with xe:=E}
abbrev Cx.nox(X:Cx):Cx:=X.wish λ_ _=>False
theorem Cx.Ok.wish{X:Cx}(ok:X.Ok)(E:Value->Shared->Prop):(X.wish E).Ok:=
 ⟨ok.mod,ok.kind,ok.glob,ok.blt,ok.above,ok.inj,ok.has,ok.cab,ok.hd,ok.frames,ok.stk,ok.exf,ok.bs,ok.bsz,ok.noex,ok.exfs,ok.funs,ok.frf⟩
theorem Cx.Ok.unwish{X:Cx}{E:Value->Shared->Prop}(ok:(X.wish E).Ok):X.Ok:=
 ⟨ok.mod,ok.kind,ok.glob,ok.blt,ok.above,ok.inj,ok.has,ok.cab,ok.hd,ok.frames,ok.stk,ok.exf,ok.bs,ok.bsz,ok.noex,ok.exfs,ok.funs,ok.frf⟩
section
variable{X:Cx}{pins:List (Addr×Obj)}{σ:St}{H:Hp}{s:Shared}{E:Value->Shared->Prop}
theorem Inv.wish(I:Inv X pins σ H s)(E:Value->Shared->Prop):Inv (X.wish E) pins σ H s:=⟨I.ok.wish E,I.os,I.bare,I.base,I.loc,I.cell,I.free,I.freeC,I.pin,I.hok,I.len⟩
theorem Inv.unwish(I:Inv (X.wish E) pins σ H s):Inv X pins σ H s:=⟨I.ok.unwish,I.os,I.bare,I.base,I.loc,I.cell,I.free,I.freeC,I.pin,I.hok,I.len⟩
theorem SP.unwish{D:Ends}{f:Flow}{s':Shared}(h:SP (X.wish E) pins D f s'):SP X pins D f s':=by
 cases f with
 |next=>obtain⟨σ',H',I,q⟩:=h;exact⟨σ',H',I.unwish,q⟩
 |brk=>obtain⟨σ',H',I,q⟩:=h;exact⟨σ',H',I.unwish,q⟩
 |cont=>obtain⟨σ',H',I,q⟩:=h;exact⟨σ',H',I.unwish,q⟩
 |ret u=>obtain⟨v,σ',H',I,r,q⟩:=h;exact⟨v,σ',H',I.unwish,r,q⟩
theorem PSs.nox{st:List Stmt}{t:TS}(h:PSs X.nox st t):PSs X st t:=λpins s σ H D I hw=>
 aa5 (h pins s σ H D (I.wish _) hw) (λ_ _ q=>q.unwish) λ_ _ z=>False.elim z
end
section
variable{X:Cx}{st:Stmt}{rest:List Stmt}{t u:TS}{e:Expr}{te:TE}{pos:Pos}
noncomputable def WQ:TS:=λD σ H=>D.nx σ H
noncomputable def JQ(t u:TS):TS:=λD σ H=>t {D with nx:=u D} σ H
theorem Rz:PSs X [] WQ:=λ_ _ σ H _ I h=>adC ⟨σ,H,I,h⟩
theorem gP(h1:PS X st t)(h2:PSs X rest u):PSs X (st::rest) (JQ t u):=by
 intro pins s σ H D I h;refine wpAny_execs_cons (cW (h1 pins s σ H {D with nx:=u D} I h) λf s1 q=>?_);cases f with
 |next=>
   obtain⟨σ',H',I',q⟩:=q;exact h2 pins s1 σ' H' D I' q
 |ret v=>exact q|brk=>exact q|cont=>exact q
theorem jW(h1:PS X st t):PSs X [st] t:=by
 intro pins s σ H D I h;refine wpAny_execs_cons (cW (h1 pins s σ H D I h) λf s1 q=>?_);cases f with
 |next=>exact adC q
 |ret v=>exact q|brk=>exact q|cont=>exact q
theorem Inv.quiet{pins:List (Addr×Obj)}{σ:St}{H:Hp}{s:Shared}(I:Inv X pins σ H s):interactive X.env=false:=by simp[interactive,I.ok.kind]
noncomputable def Hi(te:TE):TS:=λD σ H=>te σ H λ_ H1=>D.nx σ H1
theorem oF(he:PE X e te)(hs:swapsWith e none pos.line X.env=pure false:=by rfl):PS X (.Expr e pos) (Hi te):=by
 intro pins s σ H D I h;exact wpAny_Expr_any (cW (he pins s σ H _ I h) λv s1 ⟨x,H1,I1,r1,q1⟩=>⟨σ,H1,I1,q1⟩) I.quiet hs
noncomputable def WN(te:TE):TS:=λD σ H=>te σ H D.rt
theorem Fq(he:PE X e te):PS X (.Return (some e) pos) (WN te):=by
 intro pins s σ H D I h;exact wpAny_Return_some (cW (he pins s σ H _ I h) λv s1 ⟨x,H1,I1,r1,q1⟩=>⟨x,σ,H1,I1,r1,q1⟩)
noncomputable def Yu(c:TT)(t u:TS):TS:=λD σ H=>c σ H λb H1=>if b=true then t D σ H1 else u D σ H1
theorem Xa{c:Expr}{a b:List Stmt}{tc:TT}(hc:PT X c tc)(ha:PSs X a t)(hb:PSs X b u):PS X (.If c a b pos) (Yu tc t u):=by
 intro pins s σ H D I h;refine wpAny_If (cW (hc pins s σ H _ I h) λd s1 ⟨H1,I1,q1⟩=>?_);cases d with
 |true=>exact ha pins s1 σ H1 D I1 q1|false=>exact hb pins s1 σ H1 D I1 q1
end
abbrev TG:=V->St->Hp->(St->Hp->Prop)->Prop
abbrev Uv:=List V->St->Hp->(St->Hp->Prop)->Prop
def PG(X:Cx)(target:Expr)(t:TG):Prop:=
 ∀(pins:List (Addr×Obj))(s:Shared)(σ:St)(H:Hp)(v:V)(u:Value)(Q:St->Hp->Prop),Inv X pins σ H s->RelV v u->t v σ H Q->
  wpAny (model X.prog X.w) X.A (assign target X.env u) (λ_ s'=>∃σ' H',Inv X pins σ' H' s'/\Q σ' H') X.xe s
def X7(X:Cx)(ts:List Expr)(t:Uv):Prop:=
 ∀(pins:List (Addr×Obj))(s:Shared)(σ:St)(H:Hp)(vs:List V)(us:List Value)(Q:St->Hp->Prop),Inv X pins σ H s->Vals vs us->t vs σ H Q->
  wpAny (model X.prog X.w) X.A (assignInOrder ((assignEach ts X.env).map (·.2)) us) (λ_ s'=>∃σ' H',Inv X pins σ' H' s'/\Q σ' H') X.xe s
abbrev Wq:=V->V->V->Hp->(Hp->Prop)->Prop
def X6(X:Cx)(t:Wq):Prop:=
 ∀(pins:List (Addr×Obj))(s:Shared)(σ:St)(H:Hp)(o i v:V)(ov iv u:Value)(Q:Hp->Prop),Inv X pins σ H s->RelV o ov->RelV i iv->RelV v u->t o i v H Q->
  wpAny (model X.prog X.w) X.A (setItem ov iv u) (λ_ s'=>∃H',Inv X pins σ H' s'/\Q H') X.xe s
abbrev Wv:=V->V->Hp->VK->Prop
def YT(X:Cx)(op:Operator)(t:Wv):Prop:=
 ∀(pins:List (Addr×Obj))(s:Shared)(σ:St)(H:Hp)(x y:V)(v u:Value)(Q:VK),Inv X pins σ H s->RelV x v->RelV y u->t x y H Q->
  wpAny (model X.prog X.w) X.A (inplaceOp op v u) (EP X pins σ Q) X.xe s
section
variable{X:Cx}{pos:Pos}
noncomputable def gG(i:Nat):TG:=λv σ H Q=>Q (σ.set i (some v)) H
theorem HH{i:Nat}{x:Str}(hN:X.N.Nodup)(hi:X.N[i]? = some x)(hx:Loc X.env.scope x)(hf:X.fn x=true\/X.env.scope.names.lookup x=some .local:=by first|exact .inl rfl|exact .inr rfl|assumption):PG X (.Name x pos) (gG i):=by
 intro pins s σ H v u Q I r h;exact wpAny_assign_Name (uI I hN hi hx r (λs' I'=>⟨_,H,I',h⟩) hf)
noncomputable def XF:Uv:=λvs σ H Q=>vs=[]/\Q σ H
noncomputable def O7(t:TG)(u:Uv):Uv:=λvs σ H Q=>∃v r,vs=v::r/\t v σ H λσ' H'=>u r σ' H' Q
theorem HF:X7 X [] XF:=by
 intro pins s σ H vs us Q I r h;obtain⟨e,h⟩:=h;subst e;cases r;exact assignInOrder_nil ⟨σ,H,I,h⟩
theorem u5{e:Expr}{es:List Expr}{t:TG}{u:Uv}(h1:PG X e t)(h2:X7 X es u)
 (hs:(assignEach (e::es) X.env).map (·.2)=assign e X.env::(assignEach es X.env).map (·.2):=by rfl):X7 X (e::es) (O7 t u):=by
 intro pins s σ H vs us Q I r h;obtain⟨v,vr,e1,h⟩:=h;subst e1;cases r with
 |cons r rr=>
   rw[hs];refine assignInOrder_cons (cW (h1 pins s σ H _ _ _ I r h) λ_ s1 ⟨σ1,H1,I1,q1⟩=>?_);exact h2 pins s1 σ1 H1 _ _ Q I1 rr q1
noncomputable def XD(K:PySem.W.Frag)(n:Nat)(t:Uv):TG:=λv σ H Q=>∃a xs,v=.ref a/\SqT K H a xs/\xs.length=n/\t xs σ H Q
theorem Nv{es:List Expr}{k:Nat}{t:Uv}{n:Nat}(hc:X.calm=true)(h:X7 X es t)
 (hn:(assignEach es X.env).length=n:=by rfl) (hst:(assignEach es X.env).findIdx? (·.1)=none:=by rfl):PG X (.Tuple es k pos) (XD X.K n t):=by
 intro pins s σ H v u Q I r hw;obtain⟨a,xs,e1,hq,hl,hw⟩:=hw;subst e1;cases r;obtain⟨its,rv,ht,hz⟩:=I.tuple hq;refine assign_Tuple_tuple (I.ok.hd hc) ht (by simp[hn,<-hl,rv.length]) hst λh' hx=>?_;have I1:Inv X pins σ H {s with heap:=h'}:=I.kept (t':=s.toks) λb o e=>hx b o (Z1 (ZG e)) e;exact h pins _ σ H xs _ Q I1 (by simpa using rv) hw
def Mp(te:TE)(g:TG):TS:=λD σ H=>te σ H λx H1=>g x σ H1 D.nx
theorem Np{tg e:Expr}{te:TE}{g:TG}(he:PE X e te)(hg:PG X tg g)(hs:swapsWithSole [tg] e pos.line X.env=pure false:=by rfl)(hw:swappedStores [tg] e X.env=pure none:=by rfl)
 (h1:(assignEach [tg] X.env).map (·.2)=[assign tg X.env]:=by rfl):PS X (.Assign [tg] e pos) (Mp te g):=by
 intro pins s σ H D I h;refine wpAny_Assign_stores (cW (he pins s σ H _ I h) λv s1 ⟨x,H1,I1,r1,q1⟩=>?_) hs hw;rw[h1];exact cW (hg pins s1 σ H1 x v _ I1 r1 q1) λ_ s2 q=>q
theorem Fp{i:Nat}{x:Str}{e:Expr}{te:TE}{pos':Pos}(hN:X.N.Nodup)(hi:X.N[i]? = some x)(hx:Loc X.env.scope x)(he:PE X e te)(hs:swapsWith e (some (.Name x pos')) pos.line X.env=pure false:=by rfl)(hf:X.fn x=true\/X.env.scope.names.lookup x=some .local:=by first|exact .inl rfl|exact .inr rfl|assumption):
 PS X (.Assign [.Name x pos'] e pos) (Mp te (gG i)):=by
 intro pins s σ H D I h;refine wpAny_Assign_Name (cW (he pins s σ H _ I h) λv s1 ⟨y,H1,I1,r1,q1⟩=>?_) hs;exact uI I1 hN hi hx r1 (λs2 I2=>⟨_,H1,I2,q1⟩) hf
noncomputable def Yv(i:Nat)(te:TE)(ti:Wv):TS:=λD σ H=>∃x,σ[i]? = some (some x)/\te σ H λy H1=>ti x y H1 λz H2=>D.nx (σ.set i (some z)) H2
theorem Vk{i:Nat}{x:Str}{e:Expr}{te:TE}{op:Operator}{ti:Wv}{pos':Pos}(hN:X.N.Nodup)(hi:X.N[i]? = some x)(hx:Loc X.env.scope x)(he:PE X e te)(ho:YT X op ti)(hf:X.fn x=true\/X.env.scope.names.lookup x=some .local:=by first|exact .inl rfl|exact .inr rfl|assumption):
 PS X (.AugAssign (.Name x pos') op e pos) (Yv i te ti):=by
 intro pins s σ H D I h;obtain⟨v,e1,h⟩:=h;obtain⟨m,hn,hl⟩:=I.loc;have vis:X5 X.env.scope x:=by rcases hx with k|k;exact .inl k;exact .inr (.inl k)
 obtain⟨u,r,l⟩:=hl i x v hi e1 vis;refine wpAny_AugAssign_Name ?_;have go:wpAny (model X.prog X.w) X.A (eval e X.env) (λw s₂=>wpAny (model X.prog X.w) X.A (inplaceOp op u w) (λr s₃=>wpAny (model X.prog X.w) X.A (storeName X.env x r) (λ_=>SP X pins D .next) X.xe s₃) X.xe s₂) X.xe s:=by
  refine cW (he pins s σ H _ I h) λw s1 ⟨y,H1,I1,r1,q1⟩=>?_;refine cW (ho pins s1 σ H1 v y u w _ I1 r r1 q1) λz s2 ⟨zv,H2,I2,r2,q2⟩=>?_;exact uI I2 hN hi hx r2 (λs3 I3=>⟨_,H2,I3,q2⟩) hf
 rcases l with⟨hk,hm⟩|⟨hk,c,hc,hcell⟩
 ·exact wpAny_loadName_local I.ok.kind hk hn hm go
 ·rcases hk with hk|hk
  ·exact wpAny_loadName_cell I.ok.kind hk hc hcell go
  ·rcases hx with k|k
   ·have:X.env.scope.names.lookup x=some .free:=hk;rw[k]at this;cases this
   ·have:X.env.scope.names.lookup x=some .free:=hk;rw[k]at this;cases this
noncomputable def Mm(to ti te:TE)(tget:V->V->Hp->VK->Prop)(tip:Wv)(tset:Wq):TS:=λD σ H=>to σ H λo H1=>ti σ H1 λi H2=>tget o i H2 λx H3=>te σ H3 λy H4=>tip x y H4 λz H5=>tset o i z H5 λH6=>D.nx σ H6
def X8(X:Cx)(t:V->V->Hp->VK->Prop):Prop:=
 ∀(pins:List (Addr×Obj))(s:Shared)(σ:St)(H:Hp)(o i:V)(ov iv:Value)(Q:VK),Inv X pins σ H s->RelV o ov->RelV i iv->t o i H Q->
  wpAny (model X.prog X.w) X.A (getItem ov iv) (EP X pins σ Q) X.xe s
theorem Hz{o i e:Expr}{to ti te:TE}{tget:V->V->Hp->VK->Prop}{tip:Wv}{tset:Wq}{op:Operator}{tpos:Pos}(ho:PE X o to)(hi:PE X i ti)(hg:X8 X tget)(he:PE X e te)(hp:YT X op tip)(hs:X6 X tset)
 (ha:∀ov iv new,augStore i ov iv new=(do holding [new,ov,iv] (setItem ov iv new);release [new,ov,iv] [];pure .next):=by intros;rfl):PS X (.AugAssign (.Subscript o i tpos) op e pos) (Mm to ti te tget tip tset):=by
 intro pins s σ H D I h;refine wpAny_AugAssign_SubscriptAny (cW (ho pins s σ H _ I h) λov s1 ⟨x1,H1,I1,r1,q1⟩=>?_) ha;refine cW (hi pins s1 σ H1 _ I1 q1) λiv s2 ⟨x2,H2,I2,r2,q2⟩=>?_;refine cW (hg pins s2 σ H2 x1 x2 ov iv _ I2 r1 r2 q2) λold s3 ⟨x3,H3,I3,r3,q3⟩=>?_;refine cW (he pins s3 σ H3 _ I3 q3) λv s4 ⟨x4,H4,I4,r4,q4⟩=>?_;refine cW (hp pins s4 σ H4 x3 x4 old v _ I4 r3 r4 q4) λnew s5 ⟨x5,H5,I5,r5,q5⟩=>?_;exact cW (hs pins s5 σ H5 x1 x2 x5 ov iv new _ I5 r1 r2 r5 q5) λ_ s6 ⟨H6,I6,q6⟩=>⟨σ,H6,I6,q6⟩
noncomputable def YJ(f:Int->Int->Int):Wv:=λx y H Q=>∃i j,x=.int i/\y=.int j/\Q (.int (f i j)) H
theorem Gd:YT X .Add (YJ λi j=>i+j):=by
 intro pins s σ H x y v u Q I r1 r2 h;obtain⟨i,j,e1,e2,q⟩:=h;subst e1;subst e2;obtain⟨t,rfl⟩:=r1;obtain⟨t',rfl⟩:=r2;exact iadd_int ⟨.int _,H,I.tok _,⟨_,rfl⟩,q⟩
end
section
variable{X:Cx}{pos:Pos}
noncomputable def UV(c:TT)(tb:TS):TS:=λD σ H=>∃W:Nat->St->Hp->Prop,(∃m,W m σ H)/\∀m σ H,W m σ H->
 c σ H λb H1=>if b=true then ∃N:St->Hp->Prop,(∀σ' H',N σ' H'->∃m',m'<m/\W m' σ' H')/\tb {D with nx:=N,ct:=N,bk:=D.nx} σ H1 else D.nx σ H1
theorem Nj{c:Expr}{body:List Stmt}{tc:TT}{tb:TS}(hp:PassesOwn (model X.prog X.w) X.A X.env X.xe)(hc:PT X c tc)(hb:PSs X body tb):PS X (.While c body [] pos) (UV tc tb):=by
 intro pins s σ H D I h;obtain⟨W,⟨m0,w0⟩,turn⟩:=h;refine wpAny_While (codeAny_whileLoop (λn s'=>∃σ' H',Inv X pins σ' H' s'/\W n σ' H') ?_ m0 ⟨σ,H,I,w0⟩);rintro n s1 ⟨σ1,H1,I1,w1⟩;refine ab8 hp (cW (hc pins s1 σ1 H1 _ I1 (turn n σ1 H1 w1)) λb s2 ⟨H2,I2,q2⟩=>?_);cases b with
 |true=>
   obtain⟨N,hN,q2⟩:=q2;rw[ZZ rfl];refine ab8 hp (cW (hb pins s2 σ1 H2 _ I2 q2) λf s3 q3=>?_);cases f with
   |next=>
     obtain⟨σ3,H3,I3,n3⟩:=q3;obtain⟨m',hm,w3⟩:=hN σ3 H3 n3;exact⟨m',hm,σ3,H3,I3,w3⟩
   |cont=>
     obtain⟨σ3,H3,I3,n3⟩:=q3;obtain⟨m',hm,w3⟩:=hN σ3 H3 n3;exact⟨m',hm,σ3,H3,I3,w3⟩
   |brk=>exact q3|ret v=>exact q3
 |false=>
   rw[aaa aaU];exact adC ⟨σ1,H2,I2,q2⟩
end
structure It where
 go:Nat->Hp->Prop
 yld:Nat->Hp->V->Hp->Prop
 stop:Nat->Hp->Prop
def mO(X:Cx)(pins:List (Addr×Obj))(H:Hp)(b:Addr):Prop:=
 H b=none/\b≠X.env.locals/\b∉X.fs/\(b∈X.ex\/X.s₀.heap.objs.size<=b)/\(∀x c,X.env.cells.lookup x=some c->c≠b)/\∀p∈X.pn++pins,p.1≠b
theorem Inv.fpOk{X:Cx}{pins:List (Addr×Obj)}{σ:St}{H H':Hp}{s:Shared}{b:Addr}(I:Inv X pins σ H s)(hb:s.heap.objs.size<=b)(hn:H' b=none):mO X pins H' b:=by
 refine⟨hn,aam (ZX I.lt hb),I.nofs hb,.inr (aaV I.sz hb),λx c e z=>?_,λp hp z=>?_⟩
 ·obtain⟨v,q⟩:=I.cell x c e;exact absurd (ZX q.lt (by rw[z];exact hb)) (abk _)
 ·exact absurd (ZX (ZG (I.pin p hp).1) (by rw[z];exact hb)) (abk _)
structure Turn(P:Program)(w:World)(K:PySem.W.Frag)(tg:Expr)(J:It)(fp:List Addr)(it:Addr)(tn:Nat->Heap->Prop):Prop where
 mem:it∈fp
 obj:∀i h,tn i h->∀b∈fp,∃o,h.get? b=some o/\∀v,o.data≠.cell v
 keep:∀i h h',tn i h->(∀b∈fp,∀o,h.get? b=some o->h'.get? b=some o)->tn i h'
 item:∀(X:Cx),X.prog=P->X.w=w->X.K=K->X.calm=true->∀(i:Nat)(pins:List (Addr×Obj))(s:Shared)(σ:St)(H:Hp)(E:Value->Shared->Prop),Inv X pins σ H s->(∀b∈fp,mO X pins H b)->tn i s.heap->J.go i H->
  wpAny (model P w) X.A (pyNext (.ref it)) (λr s1=>∃u,r=some u/\
   wpAny (model P w) X.A (letOwnedTupleGo tg (.ref it) u) (λ_ s2=>∃x H',Inv X pins σ H' s2/\RelV x u/\J.yld i H x H'/\tn (i+1) s2.heap/\∀b∈fp,H' b=none) E s1) E s
 done:∀(X:Cx),X.prog=P->X.w=w->X.K=K->X.calm=true->∀(i:Nat)(pins:List (Addr×Obj))(s:Shared)(σ:St)(H:Hp)(E:Value->Shared->Prop),Inv X pins σ H s->(∀b∈fp,mO X pins H b)->tn i s.heap->J.stop i H->
  wpAny (model P w) X.A (pyNext (.ref it)) (λr s1=>r=none/\Inv X pins σ H s1) E s
 self:∀(A:Around)(i:Nat)(s:Shared)(Q:Value->Shared->Prop)(E:Value->Shared->Prop),tn i s.heap->Q (.ref it) s->wpAny (model P w) A (pyIter (.ref it)) Q E s
abbrev TI:=St->Hp->(It->Hp->Prop)->Prop
def PIE(X:Cx)(pins:List (Addr×Obj))(σ:St)(tg:Expr)(R:It->Hp->Prop)(itv:Value)(s2:Shared):Prop:=
 ∃(it:Addr)(fp:List Addr)(tn:Nat->Heap->Prop)(J:It)(H':Hp),itv=.ref it/\Inv X pins σ H' s2/\Turn X.prog X.w X.K tg J fp it tn/\tn 0 s2.heap/\(∀b∈fp,mO X pins H' b)/\R J H'
def PI(X:Cx)(tg iter:Expr)(wi:TI):Prop:=
 ∀(pins:List (Addr×Obj))(s:Shared)(σ:St)(H:Hp)(R:It->Hp->Prop),Inv X pins σ H s->wi σ H R->
  wpAny (model X.prog X.w) X.A (eval iter X.env) (λv s1=>wpAny (model X.prog X.w) X.A (pyIter v) (PIE X pins σ tg R) X.xe s1) X.xe s
theorem Iv{M:Model}{A:Around}{E:Value->Shared->Prop}{s:Shared}{tg:Expr}{it:Addr}{u:Value}{o:Obj}{n:String}{vs:Array Value}{Q:Unit->Shared->Prop}(ho:s.heap.get? it=some o)(hc:o.cls=.type n)(hd:o.data=.fields vs)
 (hn:["enumerate","zip","dict_itemiterator","dict_reverseitemiterator","odict_iterator","itertools.zip_longest","itertools.pairwise"].contains n=false) (hQ:Q () s):wpAny M A (letOwnedTupleGo tg (.ref it) u) Q E s:=by
 unfold letOwnedTupleGo;cases tg<;>first
  |exact ZC hQ
  | (cases u<;>first
   |exact ZC hQ
   | (refine vz (wpAny_load ho ?_)
      rw[hc,hd];show wpAny M A (if(["enumerate","zip","dict_itemiterator","dict_reverseitemiterator","odict_iterator","itertools.zip_longest","itertools.pairwise"].contains n&&vs[0]?==some (rawInt _))=true then _ else _) Q E s;rw[aaa (by intro h;rw[hn,Bool.false_and]at h;cases h)];exact ZC hQ))
noncomputable def QR(K:PySem.W.Frag)(a:Addr):It:=
 ⟨λi H=>∃xs x,SqL K H a xs/\xs[i]? = some x,λi H x H'=>H'=H/\∀xs,SqL K H a xs->xs[i]? = some x,λi H=>∃xs,SqL K H a xs/\xs.length<=i⟩
noncomputable def Ym(K:PySem.W.Frag)(a:Addr):It:=
 ⟨λi H=>∃xs x,SqT K H a xs/\xs[i]? = some x,λi H x H'=>H'=H/\∀xs,SqT K H a xs->xs[i]? = some x,λi H=>∃xs,SqT K H a xs/\xs.length<=i⟩
noncomputable def Wy(lo:Int)(n:Nat):It:=⟨λi _=>i<n,λi H x H'=>H'=H/\x=.int (lo+i),λi _=>n<=i⟩
theorem wZ{P:Program}{w:World}{K:PySem.W.Frag}{tg:Expr}(a it:Addr):Turn P w K tg (QR K a) [it] it (λi h=>h.IsListIter it a i) where
 mem:=by simp
 obj:=λi h st b hb=>by
  have e:b=it:=by simpa using hb
  subst e;obtain⟨o,e,c,d⟩:=st;exact⟨o,e,λv z=>by rw[d]at z;cases z⟩
 keep:=λi h h' st k=>st.at λo e=>k it (by simp) o e
 item:=by
  intro X hP hw hK hc i pins s σ H E I hf st hg;subst hP hw hK;obtain⟨xs,x,hq,hx⟩:=hg;obtain⟨its,rv,p,hz⟩:=I.list hq;obtain⟨u,hu,ru⟩:=rv.get hx;obtain⟨f0,f1,f2,f3,f4,f5⟩:=hf it (by simp);refine wpAny_pyNext_list_item st p.isList (x:=u) (by simpa using hu) λh' st' sb=>?_;have I1:Inv X pins σ H {s with heap:=h'}:=I.turned (t':=s.toks) (λb o hb e=>(sb.2 b hb).trans e) f0 f1 f3 f4 f5;obtain⟨o,e,c,d⟩:=id st';exact⟨u,rfl,Iv (s:={s with heap:=h'}) e c d (by decide) ⟨x,H,I1,ru,⟨rfl,λys hy=>by rw[I.list_inj hy hq];exact hx⟩,st',λb hb=>(hf b hb).1⟩⟩
 done:=by
  intro X hP hw hK hc i pins s σ H E I hf st hg;subst hP hw hK;obtain⟨xs,hq,hx⟩:=hg;obtain⟨its,rv,p,hz⟩:=I.list hq;obtain⟨f0,f1,f2,f3,f4,f5⟩:=hf it (by simp);have hl:=rv.length;exact wpAny_pyNext_list_end (I.ok.hd hc) st p.isList (by simp;omega) λh' eb=>⟨rfl,I.turned (t':=s.toks) (λb o hb e=>eb b o hb e) f0 f1 f3 f4 f5⟩
 self:=λ_ _ _ _ _ st h=>wpAny_pyIter_listiter st h
theorem uH{P:Program}{w:World}{K:PySem.W.Frag}{tg:Expr}(a it:Addr):Turn P w K tg (Ym K a) [it] it (λi h=>h.IsTupleIter it a i) where
 mem:=by simp
 obj:=λi h st b hb=>by
  have e:b=it:=by simpa using hb
  subst e;obtain⟨o,e,c,d⟩:=st;exact⟨o,e,λv z=>by rw[d]at z;cases z⟩
 keep:=λi h h' st k=>st.at λo e=>k it (by simp) o e
 item:=by
  intro X hP hw hK hc i pins s σ H E I hf st hg;subst hP hw hK;obtain⟨xs,x,hq,hx⟩:=hg;obtain⟨its,rv,p,hz⟩:=I.tuple hq;obtain⟨u,hu,ru⟩:=rv.get hx;obtain⟨f0,f1,f2,f3,f4,f5⟩:=hf it (by simp);refine wpAny_pyNext_tuple_item st (show s.heap.IsTuple a its.toArray from p) (x:=u) (by simpa using hu) λh' st' sb=>?_;have I1:Inv X pins σ H {s with heap:=h'}:=I.turned (t':=s.toks) (λb o hb e=>(sb.2 b hb).trans e) f0 f1 f3 f4 f5;obtain⟨o,e,c,d⟩:=id st';exact⟨u,rfl,Iv (s:={s with heap:=h'}) e c d (by decide) ⟨x,H,I1,ru,⟨rfl,λys hy=>by rw[I.tuple_inj hy hq];exact hx⟩,st',λb hb=>(hf b hb).1⟩⟩
 done:=by
  intro X hP hw hK hc i pins s σ H E I hf st hg;subst hP hw hK;obtain⟨xs,hq,hx⟩:=hg;obtain⟨its,rv,p,hz⟩:=I.tuple hq;obtain⟨f0,f1,f2,f3,f4,f5⟩:=hf it (by simp);have hl:=rv.length;exact wpAny_pyNext_tuple_end (I.ok.hd hc) st (show s.heap.IsTuple a its.toArray from p) (by simp;omega) λh' eb=>⟨rfl,I.turned (t':=s.toks) (λb o hb e=>eb b o hb e) f0 f1 f3 f4 f5⟩
 self:=λ_ _ _ _ _ st h=>wpAny_pyIter_tupleiter st h
theorem Ef{P:Program}{w:World}{K:PySem.W.Frag}{tg:Expr}(it:Addr)(lo:Int)(n:Nat):Turn P w K tg (Wy lo n) [it] it (λi h=>IsRangeIter h it (lo+(i:Nat)*1) ((n:Int)-(i:Nat)) 1) where
 mem:=by simp
 obj:=λi h st b hb=>by
  have e:b=it:=by simpa using hb
  subst e;exact⟨_,st,λv z=>by
   have z':Data.fields _=Data.cell v:=z;cases z'⟩
 keep:=λi h h' st k=>k it (by simp) _ st
 item:=by
  intro X hP hw hK hc i pins s σ H E I hf st hg;subst hP hw hK;obtain⟨f0,f1,f2,f3,f4,f5⟩:=hf it (by simp);have W:=Walks.range (prog:=X.prog) (w:=X.w) (I.ok.hd hc) it lo 1 n;refine W.item i s _ _ hg st λv h' tk hv st' kk=>?_;obtain⟨t,rfl⟩:=hv;have I1:Inv X pins σ H {s with heap:=h',toks:=tk}:=I.turned (λb o hb e=>kk b o (by simpa using hb) e) f0 f1 f3 f4 f5;refine⟨_,rfl,Iv (s:={s with heap:=h',toks:=tk}) (n:="range_iterator") st' rfl rfl (by decide) ⟨.int (lo+i),H,I1,⟨t,?_⟩,⟨rfl,rfl⟩,st',λb hb=>(hf b hb).1⟩⟩;rw[ad0]
 done:=by
  intro X hP hw hK hc i pins s σ H E I hf st hg;subst hP hw hK;obtain⟨f0,f1,f2,f3,f4,f5⟩:=hf it (by simp);exact wpAny_pyNext_range_end (I.ok.hd hc) st (by have:n<=i:=hg;omega) λh' eb=>⟨rfl,I.turned (t':=s.toks) (λb o hb e=>eb b o hb e) f0 f1 f3 f4 f5⟩
 self:=λ_ _ _ _ _ st h=>wpAny_pyIter_rangeiter st h
section
variable{X:Cx}{tg:Expr}
def Up(K:PySem.W.Frag)(tl:TE):TI:=λσ H R=>tl σ H λx H1=>∃a,x=.ref a/\(∃xs,SqL K H1 a xs)/\R (QR K a) H1
def Xv(K:PySem.W.Frag)(tl:TE):TI:=λσ H R=>tl σ H λx H1=>∃a,x=.ref a/\(∃xs,SqT K H1 a xs)/\R (Ym K a) H1
theorem RJ{l:Expr}{tl:TE}(hl:PE X l tl):PI X tg l (Up X.K tl):=by
 intro pins s σ H R I h;refine cW (hl pins s σ H _ I h) λv s1 ⟨x,H1,I1,r1,q1⟩=>?_;obtain⟨a,e,⟨xs,hq⟩,q⟩:=q1;subst e;cases r1;obtain⟨its,rv,p,hz⟩:=I1.list hq;refine abx p.isList ?_;refine⟨s1.heap.objs.size,[s1.heap.objs.size],_,_,H1,rfl,I1.kept (t':=s1.toks) λb o e=>Zz _ e,wZ a _,⟨_,ZR _ rfl,rfl,rfl⟩,λb hb=>?_,q⟩;have e:b=s1.heap.objs.size:=by simpa using hb
 subst e;exact I1.fpOk (ZS _) (I1.hok.fresh (ZS _))
theorem Vm{l:Expr}{tl:TE}(hl:PE X l tl):PI X tg l (Xv X.K tl):=by
 intro pins s σ H R I h;refine cW (hl pins s σ H _ I h) λv s1 ⟨x,H1,I1,r1,q1⟩=>?_;obtain⟨a,e,⟨xs,hq⟩,q⟩:=q1;subst e;cases r1;obtain⟨its,rv,p,hz⟩:=I1.tuple hq;refine ac0 (show s1.heap.IsTuple a its.toArray from p) ?_;refine⟨s1.heap.objs.size,[s1.heap.objs.size],_,_,H1,rfl,I1.kept (t':=s1.toks) λb o e=>Zz _ e,uH a _,⟨_,ZR _ rfl,rfl,rfl⟩,λb hb=>?_,q⟩;have e:b=s1.heap.objs.size:=by simpa using hb
 subst e;exact I1.fpOk (ZS _) (I1.hok.fresh (ZS _))
theorem Bm{pins:List (Addr×Obj)}{σ:St}{H:Hp}{s:Shared}{R:It->Hp->Prop}{E:Value->Shared->Prop}{lo hi:Int}{t u v:Tok}{tk:Nat}(I:Inv X pins σ H s)(h1 : -(2^62)<=lo)(h2:lo<2^62)(h3 : -(2^62)<=hi)(h4:hi<2^62)
 (q:R (Wy lo (hi-lo).toNat) H):wpAny (model X.prog X.w) X.A (pyIter (.ref s.heap.objs.size)) (PIE X pins σ tg R) E {s with heap:=s.heap.push {cls:=.type "range",data:=.fields #[.int lo t,.int hi u,.int 1 v]},toks:=tk}:=by
 refine wpAny_pyIter_range (IsRange.new ..) (small_one h1 h2 h3 h4) ?_;have I1:Inv X pins σ H {s with heap:=s.heap.push {cls:=.type "range",data:=.fields #[.int lo t,.int hi u,.int 1 v]},toks:=tk}:=I.kept λb o e=>Zz _ e;refine⟨(s.heap.push {cls:=.type "range",data:=.fields #[.int lo t,.int hi u,.int 1 v]}).objs.size,[(s.heap.push {cls:=.type "range",data:=.fields #[.int lo t,.int hi u,.int 1 v]}).objs.size],_,_,H,rfl,
  I1.kept (t':=tk) λb o e=>Zz _ e,Ef _ lo (hi-lo).toNat,?_,λb hb=>?_,q⟩
 ·have e1:lo+((0:Nat):Int)*1=lo:=by simp
  have e2:(((hi-lo).toNat:Nat):Int)-((0:Nat):Int)=Builtin.Range.rangeSize lo hi 1:=by rw[rangeSize_one];split<;>omega
  show IsRangeIter _ _ (lo+((0:Nat):Int)*1) ((((hi-lo).toNat:Nat):Int)-((0:Nat):Int)) 1;rw[e1,e2];exact ZR _ rfl
 ·have e:b=(s.heap.push {cls:=.type "range",data:=.fields #[.int lo t,.int hi u,.int 1 v]}).objs.size:=by simpa using hb
  subst e;exact I1.fpOk (ZS _) (I1.hok.fresh (ZS _))
def Xx(ta:TA):TI:=λσ H R=>ta σ H λvs H1=>∃j:Int,vs=[.int j] /\ -(2^62)<=j/\j<2^62/\R (Wy 0 j.toNat) H1
def Xw(ta:TA):TI:=λσ H R=>ta σ H λvs H1=>∃i j:Int,vs=[.int i,.int j]/\(-(2^62)<=i/\i<2^62 /\ -(2^62)<=j/\j<2^62)/\R (Wy i (j-i).toNat) H1
theorem Kd{a:Expr}{ta:TA}{p pos:Pos}(hg:Gl X "range")(hm:X.mg "range"=none)(ha:PA X [a] ta)(hs:starEach [a] X.env=[(false,eval a X.env)]:=by rfl):PI X tg (.Call (.Name "range" p) [a] [] pos) (Xx ta):=by
 intro pins s σ H R I h;refine Call_ (jl I hg hm boot_range (aat (cW (ha pos pins s σ H _ I h) λus s1 ⟨vs,H1,I1,r1,q1⟩=>?_) hs rfl));obtain⟨j,e,q1,q2,q⟩:=q1;subst e;cases r1 with
 |cons r rr=>
   cases rr;obtain⟨t,rfl⟩:=r;exact call_range_1 (Bm I1 (by omega) (by omega) q1 q2 (by simpa using q))
theorem Kc{a b:Expr}{ta:TA}{p pos:Pos}(hg:Gl X "range")(hm:X.mg "range"=none)(ha:PA X [a,b] ta)(hs:starEach [a,b] X.env=[(false,eval a X.env),(false,eval b X.env)]:=by rfl)(hs2:starEach [b] X.env=[(false,eval b X.env)]:=by rfl):
 PI X tg (.Call (.Name "range" p) [a,b] [] pos) (Xw ta):=by
 intro pins s σ H R I h;refine Call_ (jl I hg hm boot_range (aat (cW (ha pos pins s σ H _ I h) λus s1 ⟨vs,H1,I1,r1,q1⟩=>?_) (by rw[hs,hs2]) (by rw[hs2];rfl)));obtain⟨i,j,e,⟨q1,q2,q3,q4⟩,q⟩:=q1;subst e;cases r1 with
 |cons r rr=>
   cases rr with
   |cons r' rr=>
     cases rr;obtain⟨t,rfl⟩:=r;obtain⟨t',rfl⟩:=r';exact call_range_2 (Bm I1 q1 q2 q3 q4 q)
def JR(wi:TI)(g:TG)(tb:TS):TS:=λD σ H=>wi σ H λJ H1=>∃W:Nat->Nat->St->Hp->Prop,(∃m,W 0 m σ H1)/\∀i m σ H,W i m σ H->
 (J.stop i H/\D.nx σ H)\/(J.go i H/\∃N:St->Hp->Prop,(∀σ' H',N σ' H'->∃m',m'<m/\W (i+1) m' σ' H')/\∀x H',J.yld i H x H'->g x σ H' λσ2 H2=>tb {D with nx:=N,ct:=N,bk:=D.nx} σ2 H2)
noncomputable def yU(fp:List Addr)(h:Heap):List (Addr×Obj):=fp.filterMap λb=>(h.get? b).map λo=>(b,o)
theorem fG{fp:List Addr}{h:Heap}{b:Addr}{o:Obj}(hb:b∈fp)(e:h.get? b=some o):(b,o)∈yU fp h:=ae3.mpr ⟨b,hb,by rw[e];rfl⟩
theorem Kl{fp:List Addr}{h:Heap}{p:Addr×Obj}(hp:p∈yU fp h):p.1∈fp/\h.get? p.1=some p.2:=by
 obtain⟨b,hb,e⟩:=ae3.mp hp;cases q:h.get? b with
 |none=>rw[q]at e;cases e|some o=>
   rw[q]at e;have e':(b,o)=p:=aaA e;subst e';exact⟨hb,q⟩
theorem Inv.pinned{pins:List (Addr×Obj)}{σ:St}{H:Hp}{s:Shared}{fp:List Addr}(I:Inv X pins σ H s)(hf:∀b∈fp,mO X pins H b)(ho:∀b∈fp,∃o,s.heap.get? b=some o/\∀v,o.data≠.cell v):Inv X (pins++yU fp s.heap) σ H s:=
 I.pins_of λp hp=>(aar.mp hp).elim (λz=>I.pin p (Z4 _ z)) λz=>by
  obtain⟨hb,e⟩:=Kl z;obtain⟨f0,f1,f2,_⟩:=hf p.1 hb;obtain⟨o,e',d⟩:=ho p.1 hb;rw[e]at e';cases e';exact⟨e,f0,f1,f2,d⟩
theorem Inv.unpinned{pins pl:List (Addr×Obj)}{σ:St}{H:Hp}{s:Shared}(I:Inv X (pins++pl) σ H s):Inv X pins σ H s:=I.pins_of λp hp=>I.pin p (Z4 _ (aaR _ hp))
theorem u0{iter:Expr}{body:List Stmt}{wi:TI}{g:TG}{tb:TS}{pos:Pos}(hp:PassesOwn (model X.prog X.w) X.A X.env X.xe)(hc:X.calm=true)(hi:PI X tg iter wi)(hg:PG X tg g)(hb:PSs X body tb)
 (hs:∀x,foldedSetIterable iter X.env x=pure x:=by intro _;rfl):PS X (.For tg iter body [] pos) (JR wi g tb):=by
 intro pins s σ H D I h;refine wpAny_For (cW (hi pins s σ H _ I h) λv s1 h1=>cW h1 λitv s2 h2=>?_) hs;obtain⟨it,fp,tn,J,H2,e,I2,T,st2,f2,W,⟨m0,w0⟩,turn⟩:=h2;subst e;have stat:∀{H':Hp},(∀b∈fp,H' b=none)->∀b∈fp,mO X pins H' b:=λhn b hb=>⟨hn b hb,(f2 b hb).2⟩;refine codeAny_forLoop_any (λn s'=>∃i σ' H',Inv X pins σ' H' s'/\tn i s'.heap/\(∀b∈fp,H' b=none)/\W i n σ' H') ?_ m0 ⟨0,σ,H2,I2,st2,λb hb=>(f2 b hb).1,w0⟩;rintro n s3 ⟨i,σ3,H3,I3,st3,fr3,w3⟩;rcases turn i n σ3 H3 w3 with⟨stop,qn⟩|⟨go,N,hN,step⟩
 ·refine ab8 hp (cW (T.done X rfl rfl rfl hc i pins s3 σ3 H3 X.xe I3 (stat fr3) st3 stop) λr s4 ⟨hr,I4⟩=>?_);subst hr;exact adC ⟨σ3,H3,I4,qn⟩
 ·refine ab8 hp (cW (T.item X rfl rfl rfl hc i pins s3 σ3 H3 X.xe I3 (stat fr3) st3 go) λr s4 ⟨u,hr,h4⟩=>?_);subst hr;refine ab8 hp (cW h4 λ_ s5 ⟨x,H5,I5,r5,y5,st5,fr5⟩=>?_);have I5':=I5.pinned (stat fr5) (T.obj _ _ st5);refine ab8 hp (cW (hg _ s5 σ3 H5 x u _ I5' r5 (step x H5 y5)) λ_ s6 ⟨σ6,H6,I6,q6⟩=>?_);refine ab8 hp (cW (hb _ s6 σ6 H6 _ I6 q6) λf s7 q7=>?_);have again:∀{σ7:St}{H7:Hp},Inv X (pins++yU fp s5.heap) σ7 H7 s7->N σ7 H7->∃m,m<n/\∃i σ' H',Inv X pins σ' H' s7/\tn i s7.heap/\(∀b∈fp,H' b=none)/\W i m σ' H':=λ{σ7 H7} I7 n7=>by
   obtain⟨m',hm,w7⟩:=hN σ7 H7 n7;refine⟨m',hm,i+1,σ7,H7,I7.unpinned,T.keep _ _ _ st5 λb hb o e=>(I7.pin (b,o) (Z4 _ (Z4 _ (fG hb e)))).1,λb hb=>?_,w7⟩;obtain⟨o,e,d⟩:=T.obj _ _ st5 b hb;exact(I7.pin (b,o) (Z4 _ (Z4 _ (fG hb e)))).2.1
  cases f with
  |next=>obtain⟨σ7,H7,I7,n7⟩:=q7;exact again I7 n7
  |cont=>obtain⟨σ7,H7,I7,n7⟩:=q7;exact again I7 n7
  |brk=>obtain⟨σ7,H7,I7,q7⟩:=q7;exact⟨σ7,H7,I7.unpinned,q7⟩
  |ret v=>obtain⟨x7,σ7,H7,I7,r7,q7⟩:=q7;exact⟨x7,σ7,H7,I7.unpinned,r7,q7⟩
end
theorem Pa{K:PySem.W.Frag}{a:Addr}{xs:List V}{g:TG}{tb:TS}{D:Ends}{σ:St}{H:Hp}(Pv:Nat->St->Hp->Prop)(h0:Pv 0 σ H)(hl:∀i σ H,i<=xs.length->Pv i σ H->SqL K H a xs)
 (hs:∀i x σ H,xs[i]? = some x->Pv i σ H->g x σ H λσ2 H2=>tb {D with nx:=Pv (i+1),ct:=Pv (i+1),bk:=D.nx} σ2 H2) (hd:∀σ H,Pv xs.length σ H->D.nx σ H):
 ∃W:Nat->Nat->St->Hp->Prop,(∃m,W 0 m σ H)/\∀i m σ H,W i m σ H->
  ((QR K a).stop i H/\D.nx σ H)\/((QR K a).go i H/\∃N:St->Hp->Prop,(∀σ' H',N σ' H'->∃m',m'<m/\W (i+1) m' σ' H')/\∀x H',(QR K a).yld i H x H'->g x σ H' λσ2 H2=>tb {D with nx:=N,ct:=N,bk:=D.nx} σ2 H2):=by
 refine⟨λi m σ H=>m=xs.length-i/\i<=xs.length/\Pv i σ H,⟨xs.length,by simp,aap _,h0⟩,?_⟩;rintro i m σ H ⟨rfl,hi,p⟩;have q:=hl i σ H hi p;by_cases hlt:i<xs.length
 ·refine .inr ⟨⟨xs,xs[i],q,by simp[hlt]⟩,Pv (i+1),λσ' H' p'=>⟨xs.length-(i+1),by omega,rfl,hlt,p'⟩,λx H' y=>?_⟩;obtain⟨e,y⟩:=y;subst e;exact hs i x σ _ (y xs q) p
 ·have e:i=xs.length:=by omega
  subst e;exact .inl ⟨⟨xs,q,ZS _⟩,hd σ H p⟩
abbrev R2:=V->V->Hp->VK->Prop
def OpR(X:Cx)(f:Value->Value->Sem Value)(r:R2):Prop:=
 ∀(pins:List (Addr×Obj))(s:Shared)(σ:St)(H:Hp)(x y:V)(v u:Value)(Q:VK),Inv X pins σ H s->RelV x v->RelV y u->r x y H Q->
  wpAny (model X.prog X.w) X.A (f v u) (EP X pins σ Q) X.xe s
def Yj(X:Cx)(f:Value->Sem Value)(r:V->Hp->VK->Prop):Prop:=
 ∀(pins:List (Addr×Obj))(s:Shared)(σ:St)(H:Hp)(x:V)(v:Value)(Q:VK),Inv X pins σ H s->RelV x v->r x H Q->
  wpAny (model X.prog X.w) X.A (f v) (EP X pins σ Q) X.xe s
def ik(X:Cx)(f:Value)(r:List V->Hp->VK->Prop):Prop:=
 ∀(pins:List (Addr×Obj))(s:Shared)(σ:St)(H:Hp)(xs:List V)(us:List Value)(Q:VK),Inv X pins σ H s->Vals xs us->r xs H Q->
  wpAny (model X.prog X.w) X.A (call f us) (EP X pins σ Q) X.xe s
def YS(X:Cx)(r:V->Hp->(Bool->Hp->Prop)->Prop):Prop:=
 ∀(pins:List (Addr×Obj))(s:Shared)(σ:St)(H:Hp)(x:V)(v:Value)(Q:Bool->Hp->Prop),Inv X pins σ H s->RelV x v->r x H Q->
  wpAny (model X.prog X.w) X.A (truthy v) (TP X pins σ Q) X.xe s
noncomputable def Q9(r:R2)(ta tb:TE):TE:=λσ H Q=>ta σ H λx H1=>tb σ H1 λy H2=>r x y H2 Q
noncomputable def Y0(r:V->Hp->VK->Prop)(ta:TE):TE:=λσ H Q=>ta σ H λx H1=>r x H1 Q
def rI(C:Int->Int->Prop)(g:Int->Int->V):R2:=λx y H Q=>∃i j,x=.int i/\y=.int j/\C i j/\Q (g i j) H
def Ud(g:Int->Int->V):R2:=λx y H Q=>∃i j,x=.int i/\y=.int j/\Q (g i j) H
def rU(g:Int->V):V->Hp->VK->Prop:=λx H Q=>∃i,x=.int i/\Q (g i) H
section
variable{X:Cx}{a b c:Expr}{ta tb tc:TE}{pos:Pos}
theorem Wk(ha:PE X a ta)(hb:PE X b tb){pins:List (Addr×Obj)}{s:Shared}{σ:St}{H:Hp}{R:V->V->Hp->Prop}(I:Inv X pins σ H s)
 (h:ta σ H λx H1=>tb σ H1 λy H2=>R x y H2) {Q:Value->Shared->Prop} {f:Value->Value->Sem Value}
 (hf:∀v u s2 x y H2,Inv X pins σ H2 s2->RelV x v->RelV y u->R x y H2->wpAny (model X.prog X.w) X.A (f v u) Q X.xe s2):
 wpAny (model X.prog X.w) X.A (eval a X.env) (λv s₁=>wpAny (model X.prog X.w) X.A (eval b X.env) (λu s₂=>wpAny (model X.prog X.w) X.A (f v u) Q X.xe s₂) X.xe s₁) X.xe s:=by
 refine cW (ha pins s σ H _ I h) λv s1 ⟨x,H1,I1,r1,q1⟩=>?_;refine cW (hb pins s1 σ H1 _ I1 q1) λu s2 ⟨y,H2,I2,r2,q2⟩=>?_;exact hf v u s2 x y H2 I2 r1 r2 q2
theorem Ny{op:Operator}{r:R2}(ho:OpR X (binaryOp op) r)(ha:PE X a ta)(hb:PE X b tb):PE X (.BinOp a op b pos) (Q9 r ta tb):=by
 intro pins s σ H Q I h;exact wpAny_BinOp (Wk ha hb I h λv u s2 x y H2 I2 rx ry q=>ho pins s2 σ H2 x y v u Q I2 rx ry q)
theorem Ue{op:UnaryOp}{r:V->Hp->VK->Prop}(ho:Yj X (unaryOp op) r)(ha:PE X a ta):PE X (.UnaryOp op a pos) (Y0 r ta):=by
 intro pins s σ H Q I h;exact UnaryOp_ (cW (ha pins s σ H _ I h) λv s1 ⟨x,H1,I1,r1,q1⟩=>ho pins s1 σ H1 x v Q I1 r1 q1)
theorem YD{f:Value->Value->Sem Value}{C:Int->Int->Prop}{g:Int->Int->Int}
 (rule:∀(i j:Int)(t u:Tok)(s:Shared)(Q:Value->Shared->Prop)(E:Value->Shared->Prop),C i j->Q (.int (g i j) s.toks) {s with toks:=s.toks+1}->wpAny (model X.prog X.w) X.A (f (.int i t) (.int j u)) Q E s):
 OpR X f (rI C λi j=>.int (g i j)):=by
 intro pins s σ H x y v u Q I rx ry h;obtain⟨i,j,rfl,rfl,hc,q⟩:=h;obtain⟨t,rfl⟩:=rx;obtain⟨t',rfl⟩:=ry;exact rule i j t t' s _ _ hc ⟨.int (g i j),H,I.tok _,⟨_,rfl⟩,q⟩
theorem Xj{f:Value->Value->Sem Value}{g:Int->Int->Int}
 (rule:∀(i j:Int)(t u:Tok)(s:Shared)(Q:Value->Shared->Prop)(E:Value->Shared->Prop),Q (.int (g i j) s.toks) {s with toks:=s.toks+1}->wpAny (model X.prog X.w) X.A (f (.int i t) (.int j u)) Q E s):
 OpR X f (Ud λi j=>.int (g i j)):=by
 intro pins s σ H x y v u Q I rx ry h;obtain⟨i,j,rfl,rfl,q⟩:=h;obtain⟨t,rfl⟩:=rx;obtain⟨t',rfl⟩:=ry;exact rule i j t t' s _ _ ⟨.int (g i j),H,I.tok _,⟨_,rfl⟩,q⟩
theorem R1{f:Value->Value->Sem Value}{g:Int->Int->Bool}
 (rule:∀(i j:Int)(t u:Tok)(s:Shared)(Q:Value->Shared->Prop)(E:Value->Shared->Prop),Q (.bool (g i j)) s->wpAny (model X.prog X.w) X.A (f (.int i t) (.int j u)) Q E s):
 OpR X f (Ud λi j=>.bl (g i j)):=by
 intro pins s σ H x y v u Q I rx ry h;obtain⟨i,j,rfl,rfl,q⟩:=h;obtain⟨t,rfl⟩:=rx;obtain⟨t',rfl⟩:=ry;exact rule i j t t' s _ _ ⟨.bl (g i j),H,I,rfl,q⟩
def YX(i j:Int):Prop:=0<j/\j<1073741824
def CMul(i j:Int):Prop:=(-(2^64)<i/\i<2^64)\/(-(2^64)<j/\j<2^64)
theorem CMul.ok{i j:Int}(h:CMul i j):IntMulOk i j:=by
 rcases h with⟨h1,h2⟩|⟨h1,h2⟩
 ·exact .of_left (intBits_le_64 h1 h2)
 ·exact .of_right (intBits_le_64 h1 h2)
theorem op_add:OpR X (binaryOp .Add) (Ud λi j=>.int (i+j)):=Xj λ_ _ _ _ _ _ _ q=>add_int q
theorem Vs:OpR X (binaryOp .Sub) (Ud λi j=>.int (i-j)):=Xj λ_ _ _ _ _ _ _ q=>sub_int q
theorem op_mul:OpR X (binaryOp .Mult) (rI CMul λi j=>.int (i*j)):=YD λ_ _ _ _ _ _ _ hc q=>mul_int q hc.ok
theorem RZ:OpR X (binaryOp .FloorDiv) (rI YX λi j=>.int (i/j)):=YD λi j _ _ _ _ _ hc q=>by
 have h1:(0:Int)<j:=hc.1;have h2:j<1073741824:=hc.2;exact floordiv_int (by omega) (by rw[Int.fdiv_eq_ediv_of_nonneg i (by omega)];exact q) (.inl (PyProof.noPylong_small (by omega)))
theorem Vt:OpR X (binaryOp .Mod) (rI (λ_ j=>0<j) λi j=>.int (i%j)):=YD λi j _ _ _ _ _ hc q=>by
 have h1:(0:Int)<j:=hc;exact mod_int' (by omega) (by rw[Int.fmod_eq_emod_of_nonneg i (by omega)];exact q)
theorem Zk{f:Value->Sem Value}{g:Int->Int}
 (rule:∀(i:Int)(t:Tok)(s:Shared)(Q:Value->Shared->Prop)(E:Value->Shared->Prop),Q (.int (g i) s.toks) {s with toks:=s.toks+1}->wpAny (model X.prog X.w) X.A (f (.int i t)) Q E s):
 Yj X f (rU λi=>.int (g i)):=by
 intro pins s σ H x v Q I rx h;obtain⟨i,rfl,q⟩:=h;obtain⟨t,rfl⟩:=rx;exact rule i t s _ _ ⟨.int (g i),H,I.tok _,⟨_,rfl⟩,q⟩
theorem Lz:Yj X (unaryOp .USub) (rU λi=>.int (-i)):=Zk λ_ _ _ _ _ q=>neg_int q
end
section
variable{X:Cx}{a b c:Expr}{ta tb tc:TE}{pos:Pos}
theorem Pb{pins:List (Addr×Obj)}{σ:St}{H:Hp}{s:Shared}{Q:VK}{k k':Bool}(I:Inv X pins σ H s)(q:Q (.bl k) H)(e:k=k'):EP X pins σ Q (.bool k') s:=by
 subst e;exact⟨.bl k,H,I,rfl,q⟩
theorem Xf:OpR X (compareOp .Lt) (Ud λi j=>.bl (decide (i<j))):=R1 λ_ _ _ _ _ _ _ q=>lt_int q
theorem Xg:OpR X (compareOp .LtE) (Ud λi j=>.bl (decide (i<=j))):=R1 λ_ _ _ _ _ _ _ q=>le_int q
theorem Xh:OpR X (compareOp .Gt) (Ud λi j=>.bl (decide (j<i))):=R1 λ_ _ _ _ _ _ _ q=>gt_int q
theorem Xi:OpR X (compareOp .GtE) (Ud λi j=>.bl (decide (j<=i))):=R1 λ_ _ _ _ _ _ _ q=>ge_int q
theorem Kg:OpR X (compareOp .In) (λx y H Q=>∃i j,x=.str i/\y=.str j/\Q (.bl (!(Builtin.Str.occurrences j i 0 j.length 1).isEmpty)) H):=by
 intro pins s σ H x y v u Q I rx ry h;obtain⟨i,j,rfl,rfl,q⟩:=h;obtain⟨t,rfl⟩:=rx;obtain⟨t',rfl⟩:=ry;exact in_str (Pb I q rfl)
theorem RX:OpR X (compareOp .IsNot) (λx y H Q=>y=.non/\Q (.bl (!decide (x=.non))) H):=by
 intro pins s σ H x y v u Q I rx ry h;obtain⟨rfl,q⟩:=h;cases ry;refine isnot_none_gen (Pb I q ?_);cases x<;>first
  |(cases rx;rfl)
  |(obtain⟨t,rfl⟩:=rx;rfl)
theorem OpR.or{f:Value->Value->Sem Value}{r r':R2}(h:OpR X f r)(h':OpR X f r'):OpR X f (λx y H Q=>r x y H Q\/r' x y H Q):=by
 intro pins s σ H x y v u Q I rx ry q;rcases q with q|q
 ·exact h pins s σ H x y v u Q I rx ry q
 ·exact h' pins s σ H x y v u Q I rx ry q
theorem cu(b:Expr){op:CmpOp}(h:op≠.In:=by decide)(h2:op≠.NotIn:=by decide):behindInMarks op b=false:=by
 have e1:(op==CmpOp.In)=false:=by cases op<;>first|rfl|exact absurd rfl h
 have e2:(op==CmpOp.NotIn)=false:=by cases op<;>first|rfl|exact absurd rfl h2
 cases b<;>simp[behindInMarks,e1,e2]
theorem RT{op:CmpOp}{r:R2}(ho:OpR X (compareOp op) r)(ha:PE X a ta)(hb:PE X b tb)(hm:behindInMarks op b=false):PE X (.Compare a [op] [b] pos) (Q9 r ta tb):=by
 intro pins s σ H Q I h;exact wpAny_Compare1 (Wk ha hb I h λv u s2 x y H2 I2 rx ry q=>ho pins s2 σ H2 x y v u Q I2 rx ry q) hm
noncomputable def TX(t:TE):TT:=λσ H Q=>t σ H λx H'=>∃k,x=.bl k/\Q k H'
theorem Hx{op:CmpOp}{r:R2}(ho:OpR X (compareOp op) r)(ha:PE X a ta)(hb:PE X b tb)(hm:behindInMarks op b=false):PT X (.Compare a [op] [b] pos) (TX (Q9 r ta tb)):=by
 intro pins s σ H Q I h;refine wpAny_isTrue_Compare1 (cW (ha pins s σ H _ I h) λv s1 ⟨x,H1,I1,r1,q1⟩=>cW (hb pins s1 σ H1 _ I1 q1) λu s2 ⟨y,H2,I2,r2,q2⟩=>
  cW (ho pins s2 σ H2 x y v u _ I2 r1 r2 q2) λc s3 ⟨z,H3,I3,r3,k,e,q3⟩=>?_) hm
 subst e;cases r3;exact abM ⟨H3,I3,q3⟩
noncomputable def U5(r r':R2)(ta tb tc:TE):TE:=λσ H Q=>ta σ H λx H1=>tb σ H1 λy H2=>r x y H2 λz H3=>∃k,z=.bl k/\
 (if k=true then tc σ H3 λw' H4=>r' y w' H4 Q else Q (.bl false) H3)
theorem Ni{op op':CmpOp}{r r':R2}(ho:OpR X (compareOp op) r)(ho':OpR X (compareOp op') r')(ha:PE X a ta)(hb:PE X b tb)(hc:PE X c tc)
 (hm:lastMarks [op,op'] [b,c]=false:=by with_unfolding_all rfl):PT X (.Compare a [op,op'] [b,c] pos) (TX (U5 r r' ta tb tc)):=by
 intro pins s σ H Q I h;refine isTrue_chain (cW (ha pins s σ H _ I h) λv s1 ⟨x,H1,I1,r1,q1⟩=>test_link (cW (hb pins s1 σ H1 _ I1 q1) λu s2 ⟨y,H2,I2,r2,q2⟩=>
  cW (ho pins s2 σ H2 x y v u _ I2 r1 r2 q2) λd s3 ⟨z,H3,I3,r3,k,e,q3⟩=>?_)) hm
 subst e;cases r3;refine abM ?_;cases k with
 |false=>
   obtain⟨k',e',q'⟩:=q3;cases e';exact ite_ff ⟨H3,I3,q'⟩
 |true=>
   refine ite_tt (test_last (cW (hc pins s3 σ H3 _ I3 q3) λw' s4 ⟨z',H4,I4,r4,q4⟩=>cW (ho' pins s4 σ H4 y z' u w' _ I4 r2 r4 q4) λd' s5 ⟨z2,H5,I5,r5,k2,e2,q5⟩=>?_));subst e2;cases r5;exact abM ⟨H5,I5,q5⟩
def Wo(K:PySem.W.Frag)(x:V)(H:Hp)(k:Bool):Prop:=
 match x with
 |.non=>k=false|.bl b=>k=b|.int i=>k=(i != 0)|.str y=>y.length<=sizeLine/\k=((y.length:Int) != 0)|.byt y=>y.size<=sizeLine/\k=((y.size:Int) != 0)|.ref p=>(∃xs,SqL K H p xs/\k = !xs.isEmpty)\/(∃xs,SqT K H p xs/\k = !xs.isEmpty)\/∃kvs,H p=some (.dK kvs)/\k = !kvs.isEmpty|_=>False
theorem Ga{κ:Type}{kvs:List (κ×V)}{vs:List (κ×Value)}(r:KV kvs vs):(!vs.isEmpty) = !kvs.isEmpty:=by
 cases r<;>rfl
theorem vI{xs:List V}{its:List Value}(r:Vals xs its):(!its.toArray.isEmpty) = !xs.isEmpty:=by
 cases r<;>simp
theorem nJ:(sizeLine:Nat)<2^63:=by rw[aaL];decide
theorem UL:YS X (λx H Q=>∃k,Wo X.K x H k/\Q k H):=by
 intro pins s σ H x v Q I rx h;obtain⟨k,e,q⟩:=h;have hl:=nJ;have hs:sizeLine=16777216:=aaL;cases x with
 |non=>
   cases rx;have e':k=false:=e;subst e';exact truthy_none ⟨H,I,q⟩
 |bl b=>
   cases rx;have e':k=b:=e;subst e';exact abM ⟨H,I,q⟩
 |int i=>
   obtain⟨t,rfl⟩:=rx;have e':k=(i != 0):=e;subst e';exact PySem.P.truthy_int ⟨H,I,q⟩
 |str y=>
   obtain⟨t,rfl⟩:=rx;obtain⟨hy,e'⟩:y.length<=sizeLine/\k=((y.length:Int) != 0):=e;subst e';exact PySem.P.truthy_str (by omega) ⟨H,I.tok _,q⟩
 |byt y=>
   obtain⟨t,rfl⟩:=rx;obtain⟨hy,e'⟩:y.size<=sizeLine/\k=((y.size:Int) != 0):=e;subst e';exact PySem.W.truthy_bytes (by omega) ⟨H,I.tok _,q⟩
 |ref p=>
   cases rx;have e':(∃xs,SqL X.K H p xs/\k = !xs.isEmpty)\/(∃xs,SqT X.K H p xs/\k = !xs.isEmpty)\/∃kvs,H p=some (.dK kvs)/\k = !kvs.isEmpty:=e;rcases e' with⟨xs,hx,e'⟩|⟨xs,hx,e'⟩|⟨kvs,hx,e'⟩
   ·subst e';obtain⟨its,r,pl,hz⟩:=I.list hx;have hlen:=r.length;exact wpAny_truthy_list pl.isList (by simp only[ZJ];omega) ⟨H,I.tok _,by rw[vI r];exact q⟩
   ·subst e';obtain⟨its,r,pl,hz⟩:=I.tuple hx;have hlen:=r.length;exact truthy_tuple pl (by simp only[ZJ];omega) ⟨H,I.tok _,by rw[vI r];exact q⟩
   ·subst e';obtain⟨hz,hS,vs,r,m⟩:kvs.length<=sizeLine/\(p==sysModules)=false/\∃vs,KV kvs vs/\s.heap.DictOf (b8 X.prog X.w) p vs:=I.hok p _ hx;have hlen:kvs.length=vs.length:=adu r;exact wpAny_truthy_dict hS m (by omega) ⟨H,I.tok _,by rw[Ga r];exact q⟩
 |_=>exact(show False from e).elim
theorem Nh(ha:PE X a ta)(he:∀whole,isTrue a X.env whole=(do let v <-whole;standAt a.pos;holding [v] (truthy v))):
 PT X a (λσ H Q=>ta σ H λx H'=>∃k,Wo X.K x H' k/\Q k H'):=by
 intro pins s σ H Q I h;exact isTrue_plain (cW (ha pins s σ H _ I h) λv s1 ⟨x,H1,I1,r1,q1⟩=>UL pins s1 σ H1 x v Q I1 r1 q1) (he _)
theorem FJ:OpR X (binaryOp .Add) (λx y H Q=>∃i j,x=.str i/\y=.str j/\i.length+j.length<=sizeLine/\Q (.str (i++j)) H):=by
 intro pins s σ H x y v u Q I rx ry h;obtain⟨i,j,rfl,rfl,hz,q⟩:=h;obtain⟨t,rfl⟩:=rx;obtain⟨t',rfl⟩:=ry;exact add_str (λt' tk=>⟨.str (i++j),H,I.tok _,⟨_,rfl⟩,q⟩) hz
theorem vals1{x:V}{us:List Value}(r:Vals [x] us):∃u,us=[u]/\RelV x u:=by
 cases r with
 |cons r1 r2=>cases r2;exact⟨_,rfl,r1⟩
theorem vals2{x y:V}{us:List Value}(r:Vals [x,y] us):∃u w',us=[u,w']/\RelV x u/\RelV y w':=by
 cases r with
 |cons r1 r2=>
   cases r2 with
   |cons r3 r4=>cases r4;exact⟨_,_,rfl,r1,r3⟩
theorem Lg(hc:X.calm=true):ik X (.builtin "max") (λxs H Q=>∃i j,xs=[.int i,.int j]/\Q (.int (if j>i then j else i)) H):=by
 intro pins s σ H xs us Q I r h;obtain⟨i,j,rfl,q⟩:=h;obtain⟨u,w',rfl,⟨t,rfl⟩,⟨t',rfl⟩⟩:=vals2 r;refine max_two_ints (I.ok.hd hc) λh' tk k=>⟨_,H,I.kept k,?_,q⟩;by_cases hj:j>i
 ·rw[ZZ hj,ZZ hj];exact⟨_,rfl⟩
 ·rw[aaa hj,aaa hj];exact⟨_,rfl⟩
theorem Lf(hc:X.calm=true):ik X (.builtin "min") (λxs H Q=>∃i j,xs=[.int i,.int j]/\Q (.int (if j<i then j else i)) H):=by
 intro pins s σ H xs us Q I r h;obtain⟨i,j,rfl,q⟩:=h;obtain⟨u,w',rfl,⟨t,rfl⟩,⟨t',rfl⟩⟩:=vals2 r;refine min_two_ints (I.ok.hd hc) λh' tk k=>⟨_,H,I.kept k,?_,q⟩;by_cases hj:j<i
 ·rw[ZZ hj,ZZ hj];exact⟨_,rfl⟩
 ·rw[aaa hj,aaa hj];exact⟨_,rfl⟩
theorem Lh:ik X (.type "int") (λxs H Q=>(∃i,xs=[.int i]/\Q (.int i) H)\/∃k,xs=[.bl k]/\Q (.int (if k then 1 else 0)) H):=by
 intro pins s σ H xs us Q I r h;rcases h with⟨i,rfl,q⟩|⟨k,rfl,q⟩
 ·obtain⟨u,rfl,t,rfl⟩:=vals1 r;exact call_int_int ⟨.int i,H,I,⟨_,rfl⟩,q⟩
 ·obtain⟨u,rfl,r1⟩:=vals1 r;cases r1;exact call_int_bool ⟨.int (if k then 1 else 0),H,I.tok _,⟨_,rfl⟩,q⟩
end
section
variable{prog:Program}{w:World}{A:Around}{E:Value->Shared->Prop}{s:Shared}{K:PySem.W.Frag}{x dx C f:Addr}{mA:Str->Option Value}{name:Str}{v:Value}
end
theorem RelO.some_of{v:V}{o:Option Value}(r:RelO (some v) o):∃u,o=some u/\RelV v u:=by
 cases o with
 |none=>exact(show False from r).elim|some u=>exact⟨u,rfl,r⟩
section
variable{P:Program}{w:World}{H H':Hp}{h h':Heap}{a C dx:Addr}{fs fs':List (Str×V)}
end
section
variable{X:Cx}{pins:List (Addr×Obj)}{σ:St}{H:Hp}{s:Shared}{a C dx:Addr}{fs:List (Str×V)}{f:Str}{v:V}{A:Around}{E:Value->Shared->Prop}
end
section
variable{X:Cx}{o e value:Expr}{f:Str}{pos pos' tpos:Pos}{ta tv:TE}
end
section
variable{X:Cx}{pins:List (Addr×Obj)}{σ:St}{H:Hp}{s:Shared}{A:Around}{E:Value->Shared->Prop}{Q:Value->Shared->Prop}{c:Value}{b:Bool}
end
structure Room(k:Nat)(A:Around):Prop where
 hd:A.handled=none
 dp:A.depth+3*k+5<recursionLimit
 un:A.units+16*k+200<cLine
theorem Room.mono{j k:Nat}{A:Around}(r:Room k A)(h:j<=k):Room j A:=⟨r.hd,by have:=r.dp;omega,by have:=r.un;omega⟩
theorem Room.deeper{k:Nat}{A:Around}(r:Room (k+1) A)(env:Env):Room k (A.deeper env):=
 ⟨r.hd,by have:=r.dp;show A.depth+1+3*k+5<_;omega,by have:=r.un;show A.units+3+16*k+200<_;omega⟩
theorem Room.depth{k:Nat}{A:Around}(r:Room k A):A.depth<recursionLimit:=by have:=r.dp;omega
theorem Room.units{k:Nat}{A:Around}(r:Room k A):A.units+64<cLine:=by have:=r.un;omega
noncomputable def En:TA:=λ_ H Q=>Q [] H
noncomputable def kW(ta:TE)(tr:TA):TA:=λσ H Q=>ta σ H λx H1=>tr σ H1 λxs H2=>Q (x::xs) H2
section
variable{X:Cx}{e:Expr}{es:List Expr}{te:TE}{t:TA}{pos:Pos}
theorem cV:PA X [] En:=λ_ _ _ _ H Q I h=>acb ⟨[],H,I,.nil,h⟩
theorem bG(ha:PE X e te)(hr:PA X es t)(hs:starEach (e::es) X.env=(false,eval e X.env)::starEach es X.env:=by rfl):PA X (e::es) (kW te t):=by
 intro pos pins s σ H Q I h;rw[hs];show wpAny _ _ (spliced ((false,eval e X.env)::backTo pos (starEach es X.env))) _ _ s;refine abr (cW (ha pins s σ H _ I h) λu s1 ⟨x,H1,I1,r1,q1⟩=>?_);exact cW (hr pos pins s1 σ H1 _ I1 q1) λus s2 ⟨xs,H2,I2,r2,q2⟩=>⟨x::xs,H2,I2,.cons r1 r2,q2⟩
def Yt(t:TA):TE:=λσ H Q=>t σ H λxs H1=>xs.length<=sizeLine/\∀p,H1 p=none->Q (.ref p) (upd H1 p (.tup xs))
def WT(t:TA):TE:=λσ H Q=>t σ H λxs H1=>xs.length<=sizeLine/\∀p,H1 p=none->Q (.ref p) (upd H1 p (.lst xs))
theorem Vp{x1}(h:PA X es t):PE X (.Tuple es x1 pos) (Yt t):=by
 intro pins s σ H Q I hq;refine wpAny_Tuple_spliced (cW (h pos pins s σ H _ I hq) λus s1 ⟨xs,H1,I1,r,z,q⟩=>⟨by rw[<-r.length];exact z,?_⟩);have hf:H1 s1.heap.objs.size=none:=I1.hok.fresh (ZS _);refine⟨.ref s1.heap.objs.size,upd H1 s1.heap.objs.size (.tup xs),I1.laid (t':=s1.toks) (λb u e=>Zz _ e) (ZS _) ?_,rfl,q _ hf⟩;exact⟨z,us,r,⟨_,ZR _ rfl,rfl,_,rfl⟩⟩
theorem Fw(h:PA X es t):PE X (.List es pos) (WT t):=by
 intro pins s σ H Q I hq;refine wpAny_List_spliced (cW (h pos pins s σ H _ I hq) λus s1 ⟨xs,H1,I1,r,z,q⟩=>⟨by rw[<-r.length];exact z,?_⟩);have hf:H1 s1.heap.objs.size=none:=I1.hok.fresh (ZS _);refine⟨.ref s1.heap.objs.size,upd H1 s1.heap.objs.size (.lst xs),I1.laid (t':=s1.toks) (λb u e=>Zz _ e) (ZS _) ?_,rfl,q _ hf⟩;exact⟨z,us,0,r,ZR _ rfl⟩
end
abbrev Sp:=List V->Hp->VK->XK->Prop
abbrev QL:=List Env->Hp->Shared->XK->Value->Shared->Prop
structure TQ(P:Program)(w:World)(K:PySem.W.Frag)(mg:Str->Option Value)(base:Heap)(A:Around)(outer:List Env)(s:Shared)(H:Hp):Prop where
 frames:A.frames=some outer
 mod:Mod K mg base
 bs:∀b o,base.get? b=some o->s.heap.get? b=some o/\H b=none
 bsz:base.objs.size<=s.heap.objs.size
 funs:s.heap.FunFrames base outer
 frf:∀b∈frs outer,H b=none
 hok:HOk P w H s.heap
 bare:AllBare s.gens
def CE(outer:List Env)(P:Program)(w:World)(H:Hp)(s:Shared)(Q:VK)(u:Value)(s':Shared):Prop:=
 ∃v H',s'.os=s.os/\AllBare s'.gens/\Un (frs outer) [] H H' s.heap s'.heap/\HOk P w H' s'.heap/\RelV v u/\Q v H'
def CR(CX:QL)(outer:List Env)(P:Program)(w:World)(H:Hp)(s:Shared)(Q:VK)(E:XK)(r:Result)(s':Shared):Prop:=
 match r with
 |.ok (.ret u)=>CE outer P w H s Q u s'|.ok _=>False|.error e=>CX outer H s E e s'
structure mQ(P:Program)(w:World)(K:PySem.W.Frag)(mg:Str->Option Value)(base:Heap)(CX:QL)(k:Nat)(f:Addr)(fd:FuncData)(ps:List Str)(sp:Sp):Prop where
 len:∀vs H Q E,sp vs H Q E->vs.length=ps.length
 run:∀(A:Around)(outer:List Env)(s:Shared)(H:Hp)(args:Args)(us:List Value)(vs:List V)(Q:VK)(E:XK),Room k A->TQ P w K mg base A outer s H->BindsTo s fd args (ps.zip us)->Vals vs us->sp vs H Q E->
  codeAny (model P w) A (.call (.ref f) args) (CR CX outer P w H s Q E) s
section
variable{X:Cx}{pins:List (Addr×Obj)}{σ:St}{H:Hp}{s s':Shared}
theorem Inv.env0(I:Inv X pins σ H s):TQ X.prog X.w X.K X.mg X.base X.A X.stack s H:=
 ⟨I.ok.frames,I.ok.mod,I.bs,aaV I.ok.bsz I.sz,I.stack,I.stkFree,I.hok,I.bare⟩
theorem Inv.after{Q:VK}{u:Value}(I:Inv X pins σ H s)(h:CE X.stack X.prog X.w H s Q u s'):EP X pins σ Q u s':=by
 obtain⟨v,H',os,bare,un,hok,r,q⟩:=h;obtain⟨hh,g,d,t,os'⟩:=s';obtain rfl:os'=s.os:=os;exact⟨v,H',I.call (h':=hh) (g':=g) (d':=d) (t':=t) (ch:=[]) un hok bare (λb z=>absurd z (by simp)),r,q⟩
end
noncomputable def Aq(sp:Sp)(dvs:List V)(E:XK)(t:TA):TE:=λσ H Q=>t σ H λvs H1=>sp (vs++dvs) H1 Q E
def Binds(K:PySem.W.Frag)(fd:FuncData)(ps:List Str)(ds:List Value):Prop:=
 ∀(s:Shared)(us:List Value),K.In s.heap->(us++ds).length=ps.length->BindsTo s fd ⟨us,[]⟩ (ps.zip (us++ds))
theorem Binds.all{K:PySem.W.Frag}{fd:FuncData}{ps:List Str}(h:∀us:List Value,us.length=ps.length->bindArgs fd ⟨us,[]⟩=pure (ps.zip us)):Binds K fd ps []:=λs us _ hl=>by
 rw[abD]at hl ⊢;exact .of_eq (h us hl)
def G7(CX:QL)(X:Cx)(E:XK):Prop:=∀(pins:List (Addr×Obj))(σ:St)(H:Hp)(s:Shared)(e:Value)(s':Shared),Inv X pins σ H s->CX X.stack H s E e s'->X.xe e s'
section
variable{X:Cx}{CX:QL}{k:Nat}{f C:Addr}{fd:FuncData}{ps:List Str}{sp:Sp}{dvs:List V}{ds:List Value}{E:XK}{x m:Str}{p pos apos:Pos}{e o:Expr}{es:List Expr}{ta:TE}{t:TA}
theorem Va{pins:List (Addr×Obj)}{σ:St}{H:Hp}{s:Shared}{Q:VK}{us:List Value}{vs:List V}(F:mQ X.prog X.w X.K X.mg X.base CX k f fd ps sp)(hr:Room k X.A)(hb:Binds X.K fd ps ds)(hd:Vals dvs ds)(hx:G7 CX X E)
 (I:Inv X pins σ H s) (r:Vals vs us) (h:sp (vs++dvs) H Q E):wpAny (model X.prog X.w) X.A (call (.ref f) us) (EP X pins σ Q) X.xe s:=by
 have r2:Vals (vs++dvs) (us++ds):=r.append hd;have hl:(us++ds).length=ps.length:=by rw[<-r2.length];exact F.len _ _ _ _ h
 refine wpAny_call (ac8 (F.run X.A X.stack s H ⟨us,[]⟩ (us++ds) (vs++dvs) Q E hr I.env0 (hb s us I.kIn hl) r2 h) λr s' hq=>?_);cases r with
 |error e=>exact hx pins σ H s e s' I hq|ok fl=>
   cases fl with
   |ret u=>exact I.after hq|next=>exact False.elim hq
   |brk=>exact False.elim hq|cont=>exact False.elim hq
theorem oG(F:mQ X.prog X.w X.K X.mg X.base CX k f fd ps sp)(hr:Room k X.A)(hg:Gl X x)(hm:X.mg x=some (.ref f))(hk:PySem.W.keepIn X.K (.ref f)=true)(hb:Binds X.K fd ps ds)(hd:Vals dvs ds)(hx:G7 CX X E)
 (ha:PA X (e::es) t) (hdb:(x==("__debug__":Str))=false:=by decide) (he:starEach (e::es) X.env=(false,eval e X.env)::starEach es X.env:=by rfl) (hpl:(backTo pos (starEach es X.env)).any (·.1)=false:=by rfl):
 PE X (.Call (.Name x p) (e::es) [] pos) (Aq sp dvs E t):=by
 intro pins s σ H Q I h;refine adP (Ij I hg hm ?_ hdb);refine PySem.W.callWith_K (h₀:=X.base) I.ok.mod.kin hk (cW (ha pos pins s σ H _ I h) λus s1 ⟨vs,H1,I1,r,q⟩=>⟨I1.kIn,?_⟩) he hpl;exact Va F hr hb hd hx I1 r q
end
section
variable{X:Cx}{CX:QL}{k:Nat}{f C:Addr}{fd:FuncData}{ps ks:List Str}{sp:Sp}{E:XK}{x m:Str}{p pos apos kpos:Pos}{e o:Expr}{es:List Expr}{kws:List Keyword}{te ta:TE}{t tk:TA}{nm:Option Str}
variable{g:List Value->List Value->List Value}{gV:List V->List V->List V}
end
structure ig(N P:List Str)(sc:Scope):Prop where
 kind:sc.kind=.function
 co:sc.isCoroutine=false
 gen:sc.isGenerator=false
 nd:N.Nodup
 pre:N.take P.length=P
 par:∀x∈P,sc.names.lookup x=some .local\/sc.names.lookup x=some .cell
 nofree:∀y∈sc.names,y.2≠.free
theorem yh{kindOf:Str->Option NameKind}{x:Str}:∀{binds:List (Str×Value)}{m:Str->Option Value},(∀v,(x,v)∉binds)->bindL kindOf binds m x=m x
 |[],_,_=>rfl|(n,v)::r,m,h=>by
   unfold bindL;rw[yh λw hw=>h w (Zy _ hw)];split
   ·have:x≠n:=by rintro rfl;exact h v ZF
    simp[this]
   ·rfl
theorem ym{kindOf:Str->Option NameKind}{x:Str}:∀{binds:List (Str×Value)}{m:Str->Option Value},(∀v,(x,v)∉binds)->bindC kindOf binds m x=m x
 |[],_,_=>rfl|(n,v)::r,m,h=>by
   unfold bindC;rw[ym λw hw=>h w (Zy _ hw)];split
   ·rfl
   ·have:x≠n:=by rintro rfl;exact h v ZF
    simp[this]
theorem yj{kindOf:Str->Option NameKind}{x:Str}{v:Value}:∀{P:List Str}{vs:List Value}{i:Nat}{m:Str->Option Value},P.Nodup->P[i]? = some x->vs[i]? = some v->kindOf x=some .local->
 bindL kindOf (P.zip vs) m x=some v
 |[],_,_,_,_,h,_,_=>by simp at h|_::_,[],_,_,_,_,h,_=>by simp at h|p::P,w::vs,0,m,nd,h1,h2,hk=>by
   simp at h1 h2;subst h1;subst h2;show bindL kindOf ((p,w)::P.zip vs) m p=_;unfold bindL;rw[yh λv hv=>(aaK.mp nd).1 (acy hv).1,ZZ hk];simp
 |p::P,w::vs,i+1,m,nd,h1,h2,hk=>by
   show bindL kindOf ((p,w)::P.zip vs) m x=_;unfold bindL;exact yj (i:=i) (aaK.mp nd).2 (by simpa using h1) (by simpa using h2) hk
theorem yo{kindOf:Str->Option NameKind}{x:Str}{v:Value}:∀{P:List Str}{vs:List Value}{i:Nat}{m:Str->Option Value},P.Nodup->P[i]? = some x->vs[i]? = some v->kindOf x≠some .local->
 bindC kindOf (P.zip vs) m x=some v
 |[],_,_,_,_,h,_,_=>by simp at h|_::_,[],_,_,_,_,h,_=>by simp at h|p::P,w::vs,0,m,nd,h1,h2,hk=>by
   simp at h1 h2;subst h1;subst h2;show bindC kindOf ((p,w)::P.zip vs) m p=_;unfold bindC;rw[ym λv hv=>(aaK.mp nd).1 (acy hv).1,aaa hk];simp
 |p::P,w::vs,i+1,m,nd,h1,h2,hk=>by
   show bindC kindOf ((p,w)::P.zip vs) m x=_;unfold bindC;exact yo (i:=i) (aaK.mp nd).2 (by simpa using h1) (by simpa using h2) hk
noncomputable def start(N:List Str)(vs:List V):St:=vs.map some++List.replicate (N.length-vs.length) none
noncomputable def tK(CX:QL)(P:Program)(w:World)(K:PySem.W.Frag)(mg:Str->Option Value)(base:Heap)(N:List Str)(qual:Str)(scope:Scope)(f:Addr)(cd:Value)(A:Around)(outer:List Env)(s:Shared)(H:Hp)(E:XK):Cx where
 prog:=P
 w:=w
 K:=K
 mg:=mg
 base:=base
 A:=A.deeper (envOfC qual scope s.heap.objs.size f cd)
 N:=N
 s₀:=s
 H₀:=H
 env:=envOfC qual scope s.heap.objs.size f cd
 outer:=outer
 stack:=envOfC qual scope s.heap.objs.size f cd::outer
 ex:=[]
 calm:=true
 fn:=λ_=>true
 pn:=[]
 xe:=λe s'=>wpAny (model P w) (A.deeper (envOfC qual scope s.heap.objs.size f cd)) (leaving (envOfC qual scope s.heap.objs.size f cd) e) (λ_ s''=>CX outer H s E e s'') (λe' s''=>CX outer H s E e' s'') s'
theorem Dt{sc:Scope}{n:Nat}{x:Str}(h:sc.names.lookup x=some .cell):∃c,(cellsFrom n sc.names []).lookup x=some c:=by
 have q:=aer sc.names n [] (.inl h);exact Option.isSome_iff_exists.mp q
theorem Ky{CX:QL}{P:Program}{w:World}{K:PySem.W.Frag}{mg:Str->Option Value}{base:Heap}{N ps:List Str}{qual:Str}{scope:Scope}{f:Addr}{cd:Value}{A:Around}{outer:List Env}{s s1:Shared}{H:Hp}{E:XK}{us:List Value}{vs:List V}
 (S:ig N ps scope) (hd:A.handled=none) (e0:TQ P w K mg base A outer s H) (hl:vs.length=ps.length) (r:Vals vs us)
 (x:InCallC s s.heap.objs.size (bindL (envOfC qual scope s.heap.objs.size f cd).kindOf (ps.zip us) λ_=>none) (cellsFrom (s.heap.objs.size+1) scope.names []) (bindC (envOfC qual scope s.heap.objs.size f cd).kindOf (ps.zip us) λ_=>none) s1):
 Inv (tK CX P w K mg base N qual scope f cd A outer s H E) [] (start N vs) H s1:=by
 have hpl:ps.length<=N.length:=by have:=aaS List.length S.pre;rw[abZ]at this;omega
 obtain⟨h1,tk,rfl,hk⟩:=x.done;have noA:∀b:Addr,b∉(tK CX P w K mg base N qual scope f cd A outer s H E).ex:=λb z=>absurd (show b∈([]:List Addr)from z) (by simp);refine⟨⟨e0.mod,S.kind,rfl,rfl,ZS _,λy z c h1 h2=>?_,λy hy=>?_,λy c _ h=>?_,λ_=>hd,Around.frames_deeper e0.frames,.inr ⟨rfl,rfl⟩,λb z=>absurd z (noA b),e0.bs,e0.bsz,λb _ _=>noA b,λb z=>absurd z (noA b),e0.funs,e0.frf⟩,
  rfl,e0.bare,Un.kept hk,⟨_,x.toInCall.ns,λi y v h1 h2 h3=>?_⟩,λy c h=>⟨_,x.cell y c h⟩,e0.hok.fresh (ZS _),λy c h=>?_,λp hp=>absurd (show p∈([]:List (Addr×Obj))from hp) (by simp),e0.hok.kept hk,?_⟩
 ·exact name_of_addr x.apart (abn h1) (abn h2)
 ·have hy:scope.names.lookup y=some .cell\/scope.names.lookup y=some .free:=hy;rcases hy with hy|hy
  ·exact Dt hy
  ·exact absurd rfl (S.nofree _ (abn hy))
 ·exact aca (x.above y c (abn h))
 ·have hi:i<vs.length:=by
   unfold start at h2;by_cases hi:i<vs.length
   ·exact hi
   ·rw[abh (by simpa using hi)]at h2;rw[aa6]at h2;split at h2<;>cases h2
  have ha:vs[i]? = some v:=by
   unfold start at h2;rw[aan (by simpa using hi),aad]at h2;cases e:vs[i]? with
   |none=>rw[e]at h2;cases h2|some a=>rw[e]at h2;cases h2;rfl
  obtain⟨u,hu,rv⟩:=r.get ha;have hp:ps[i]? = some y:=by
   rw[<-S.pre,ad9 (by omega)];exact h1
  have ndP:ps.Nodup:=by rw[<-S.pre];exact S.nd.sublist (List.take_sublist _ _)
  refine⟨u,rv,?_⟩;rcases S.par y (aaY hp)with k|k
  ·exact .inl ⟨k,yj ndP hp hu k⟩
  ·obtain⟨c,e⟩:=Dt (n:=s.heap.objs.size+1) k;refine .inr ⟨.inl k,c,e,?_⟩;have q:=x.cell y c e;rw[yo ndP hp hu (by show scope.names.lookup y≠_;rw[k];decide)]at q;exact q
 ·exact e0.hok.fresh (aca (x.above y c (abn h)))
 ·unfold start;show _=N.length;rw[Z6,ZK,abe];omega
theorem XJ{CX:QL}{P:Program}{w:World}{K:PySem.W.Frag}{mg:Str->Option Value}{base:Heap}{k:Nat}{f:Addr}{name qual:Str}{params:Arguments}{body:List Stmt}{scope:Scope}{dV kV doc pm cdv ct oc:Value}{an od:Option Addr}
 {osl:Array (Option Value)} {N ps:List Str} {sp:Sp} (lk:K.lookup f=some ⟨oc,od,.func (PySem.W.fnOf name qual params body scope dV kV doc pm an cdv ct),osl⟩) (hcd:PySem.W.codeIn K cdv qual=true) (S:ig N ps scope)
 (len:∀vs H Q E,sp vs H Q E->vs.length=ps.length)
 (hbody:∀(A:Around)(outer:List Env)(s:Shared)(H:Hp)(vs:List V)(Q:VK)(E:XK),Room k (A.deeper (envOfC qual scope s.heap.objs.size f cdv))->sp vs H Q E->
  ∃t,PSs (tK CX P w K mg base N qual scope f cdv A outer s H E) body t/\t {nx:=λ_ H'=>Q .non H',rt:=Q} (start N vs) H):
 mQ P w K mg base CX (k+1) f (PySem.W.fnOf name qual params body scope dV kV doc pm an cdv ct) ps sp:=by
 refine⟨len,λA outer s H args us vs Q E hr e0 hb r hsp=>?_⟩;have hl:=len _ _ _ _ hsp;have KX:K.In s.heap:=e0.mod.kin.keeps λb o e=>(e0.bs b o e).1;have lim:s.heap.NoLimit:=e0.mod.nolimit.keeps λb o e=>(e0.bs b o e).1;have hkind:∀y∈ps.zip us,scope.names.lookup y.1=some .local\/(scope.names.lookup y.1=some .cell/\((cellsFrom (s.heap.objs.size+1) scope.names []).lookup y.1).isSome=true):=λ⟨n,v⟩ hy=>by
  rcases S.par n (acy hy).1 with q|q
  ·exact .inl q
  ·exact .inr ⟨q,aer _ _ _ (.inl q)⟩
 refine codeAny_call_function hr.depth (KX _ _ lk) rfl S.co S.gen rfl (PySem.W.codeRec_of KX hcd) (hb _ _ _ _ ?_);refine wpAny_newFunctionEnv_cells S.kind hkind λenv he s1 x=>?_;subst he;refine⟨lim.keeps x.toInCall.keep,codeAny_func ?_⟩;obtain⟨t,ht,hq⟩:=hbody A outer s H vs Q E (hr.deeper _) hsp;have I:Inv (tK CX P w K mg base N qual scope f cdv A outer s H E) [] (start N vs) H s1:=Ky S hr.hd e0 hl r x;refine aa5 (ht [] s1 (start N vs) H _ I hq) (λfl s' hs=>?_) λe s' hs=>hs;have fin:∀{σ':St}{H':Hp}{v:V}{u:Value},Inv (tK CX P w K mg base N qual scope f cdv A outer s H E) [] σ' H' s'->RelV v u->Q v H'->CE outer P w H s Q u s':=
  λ{σ' H' v u} J rv q=>⟨v,H',J.os,J.bare,J.base,J.hok,rv,q⟩
 cases fl with
 |ret u=>
   obtain⟨v,σ',H',J,rv,q⟩:=hs;exact fin J rv q
 |next=>
   obtain⟨σ',H',J,q⟩:=hs;exact fin (v:=V.non) (u:=Value.none) J rfl q
 |brk=>
   obtain⟨_,_,_,q⟩:=hs;exact False.elim q
 |cont=>
   obtain⟨_,_,_,q⟩:=hs;exact False.elim q
section
variable{X:Cx}{x:Str}{p pos:Pos}{e:Expr}{es:List Expr}{t:TA}{id T:String}{r:List V->Hp->VK->Prop}
noncomputable def Y4(r:List V->Hp->VK->Prop)(t:TA):TE:=λσ H Q=>t σ H λvs H1=>r vs H1 Q
theorem qL(hc:ik X (.builtin id) r)(hg:Gl X x)(hm:X.mg x=none)(hv:bootBuiltins x=some (.builtin id))(ha:PA X (e::es) t)(hn:x≠"__name__":=by decide)(hdb:(x==("__debug__":Str))=false:=by decide)
 (he:starEach (e::es) X.env=(false,eval e X.env)::starEach es X.env:=by rfl) (hpl:(backTo pos (starEach es X.env)).any (·.1)=false:=by rfl):PE X (.Call (.Name x p) (e::es) [] pos) (Y4 r t):=by
 intro pins s σ H Q I h;refine adP (jl I hg hm hv ?_ hn hdb);exact PyProof.Rows.callWith_builtin1 (cW (ha pos pins s σ H _ I h) λus s1 ⟨vs,H1,I1,r1,q1⟩=>hc pins s1 σ H1 vs us Q I1 r1 q1) he hpl
theorem sE(hc:ik X (.type T) r)(hg:Gl X x)(hm:X.mg x=none)(hv:bootBuiltins x=some (.type T))(ha:PA X (e::es) t)(hn:x≠"__name__":=by decide)(hdb:(x==("__debug__":Str))=false:=by decide)
 (he:starEach (e::es) X.env=(false,eval e X.env)::starEach es X.env:=by rfl) (hpl:(backTo pos (starEach es X.env)).any (·.1)=false:=by rfl):PE X (.Call (.Name x p) (e::es) [] pos) (Y4 r t):=by
 intro pins s σ H Q I h;refine adP (jl I hg hm hv ?_ hn hdb);exact aat (cW (ha pos pins s σ H _ I h) λus s1 ⟨vs,H1,I1,r1,q1⟩=>hc pins s1 σ H1 vs us Q I1 r1 q1) he hpl
end
end L2
namespace HT
open PySem PyProof.Rows
noncomputable def lexLt:List Int->List Int->Bool
 |[],[]=>false|[],_::_=>true|_::_,[]=>false|x::xs,y::ys=>if x=y then lexLt xs ys else decide (x<y)
theorem FW(x y:Int)(xs ys:List Int):lexLt (x::xs) (y::ys)=if x=y then lexLt xs ys else decide (x<y):=rfl
theorem wL:lexLt [] []=false:=rfl
theorem vD(y:Int)(ys:List Int):lexLt [] (y::ys)=true:=rfl
theorem vG(x:Int)(xs:List Int):lexLt (x::xs) []=false:=rfl
theorem Pk(A:Around)(s:Shared)(a:Int)(t:Tok)(c:Int)(u:Tok):∃e,SeqAt.EqAt A s (.int a t) (.int c u) e/\(e=true↔a=c):=
 ⟨(a==c),SeqAt.EqAt.int_int a t c u,by simp⟩
theorem M5(A:Around)(s:Shared)(a:Int)(t:Tok)(c:Int)(u:Tok)(prog:Program)(w:World)(E:Value->Shared->Prop)(Q:Value->Shared->Prop)(h:Q (.bool (decide (a<c))) s):
 wpAny (model prog w) A (richCompare .Lt (.int a t) (.int c u)) Q E s:=
 (PyProof.Rows.lt_int h:wpAny (model prog w) A (compareOp .Lt (.int a t) (.int c u)) Q E s)
section
open PySem.SeqAt
open PySem.AutoSeq1 (wpAny_loadPart')
open PySem.MeetsSeq PySem.MeetsSeq2 PySem.MeetsSeq3
theorem wD(l b:Addr)(items items2:Array Value)(n n2:Nat)(dd dd2:Option Addr)(sl sl2:Array (Option Value))(ns ms:List Int)(hi:IntsAre items.toList ns)(hj:IntsAre items2.toList ms):
 Meets (Builtin.«tuple.__lt__» ⟨[.ref l,.ref b],[]⟩)
  (λ_ R s=>s.heap.get? l=some {cls:=.type "tuple",dict:=dd,data:=.seq items n,slots:=sl}/\s.heap.get? b=some {cls:=.type "tuple",dict:=dd2,data:=.seq items2 n2,slots:=sl2}/\
   R (.ok (.ret (.bool (lexLt ns ms)))) s):=
 .of_wp λprog w A R s h=>by
  obtain⟨hp,g,d,tk,os⟩:=s;obtain⟨hl,hb,h⟩:=h;have f2:=abK;have z1:items.size=ns.length:=by rw[<-hi.length];simp
  have z2:items2.size=ms.length:=by rw[<-hj.length];simp
  wp_walk using wpAny_loadPart' hl,wpAny_loadPart' hb,wpAny_forIn_list _ (λrest b s'=>b.1=none/\s'=⟨hp,g,d,tk,os⟩/\∃(vs ws:List Value)(ns' ms':List Int),rest=vs.zip ws/\
   IntsAre vs ns'/\IntsAre ws ms'/\ns'.length+items2.size=ms'.length+items.size/\R (.ok (.ret (.bool (lexLt ns' ms')))) ⟨hp,g,d,tk,os⟩) _
  case turn=>
   rintro⟨y,x⟩ rest b s' ⟨hb',rfl,vs,ws,ns',ms',hz,hvi,hwi,hlen,hR⟩;cases hvi with
   |nil=>rw[List.zip_nil_left]at hz;cases hz|cons a t hvi'=>
     cases hwi with
     |nil=>rw[List.zip_nil_right]at hz;cases hz|cons c u hwi'=>
       rw[aaw]at hz;injection hz with hyx hrest;injection hyx with hy hx;subst hy hx;rw[FW]at hR;simp only[Z2]at hlen;obtain⟨e,he,hiff⟩:=Pk A.in1 ⟨hp,g,d,tk,os⟩ a t c u;refine vz (he prog w _ _ ?_);cases e with
       |true=>
         rw[ZZ (hiff.mp rfl)]at hR;wp_walk;exact⟨rfl,rfl,_,_,_,_,hrest,hvi',hwi',by omega,hR⟩
       |false=>
         rw[aaa (λq=>absurd (hiff.mpr q) aaU)]at hR;have hri:=M5 A.in1 ⟨hp,g,d,tk,os⟩ a t c u prog w
         wp_walk using hri
         exact⟨_,rfl,by simpa using hR⟩
  case fin=>
   rintro⟨b1,b2⟩ s' ⟨hb',rfl,vs,ws,ns',ms',hz,hvi,hwi,hlen,hR⟩;simp only at hb';subst hb';have hv:lexLt ns' ms'=decide (items.size<items2.size):=by
    cases hvi with
    |nil=>
      cases hwi with
      |nil=>
        simp only[aba]at hlen;rw[wL];exact(aay (by omega)).symm
      |cons c u hw=>
        simp only[aba,Z2]at hlen;rw[vD];exact(aby (by omega)).symm
    |cons a t hv=>
      cases hwi with
      |nil=>
        simp only[aba,Z2]at hlen;rw[vG];exact(aay (by omega)).symm
      |cons c u hw=>
        rw[aaw]at hz;cases hz
   rw[hv]at hR;wp_walk;exact⟨_,rfl,by simpa[Builtin.Tuple.tupleCompareSizes]using hR⟩
  case h=>
   exact⟨rfl,rfl,items.toList,items2.toList,ns,ms,rfl,hi,hj,by omega,h⟩
end
section
variable{prog:Program}{w:World}{A:Around}{E:Value->Shared->Prop}{s:Shared}
theorem lt_tupInts{l b:Addr}{items items2:Array Value}{ns ms:List Int}{Q:Value->Shared->Prop}(hl:IsTup s.heap l items)(hb:IsTup s.heap b items2)(hi:IntsAre items.toList ns)(hj:IntsAre items2.toList ms)
 (hu:A.units<cLine) (h:Q (.bool (lexLt ns ms)) s):wpAny (model prog w) A (compareOp .Lt (.ref l) (.ref b)) Q E s:=by
 obtain⟨⟨cls,dd,data,sl⟩,ho,hc,n,hd⟩:=id hl;obtain⟨⟨cls2,dd2,data2,sl2⟩,ho2,hc2,n2,hd2⟩:=id hb;simp only at hc hd hc2 hd2;subst hc hd hc2 hd2;exact richCompare_meets_room (op:=.Lt) ⟨_,ho,rfl⟩ ⟨_,ho2,rfl⟩ PySem.F.slot_tuple_lt PySem.F.entry_tuple_lt (PySem.F.args_tuple_lt_2 _ _) (wD l b items items2 n n2 dd dd2 sl sl2 ns ms hi hj)
  ⟨ho,ho2,show Value.bool (lexLt ns ms)≠Value.notImplemented/\Q (.bool (lexLt ns ms)) s from⟨(λx=>nomatch x),h⟩⟩ hu
theorem cat_tup{t b:Addr}{vs ws:List Value}{Q:Value->Shared->Prop}(ht:IsTup s.heap t vs.toArray)(hb:IsTup s.heap b ws.toArray)(hv:vs≠[])
 (h1:ws=[]->Q (.ref t) s) (h2:ws≠[]->Q (.ref s.heap.objs.size) {s with heap:=s.heap.push {cls:=.type "tuple",data:=.seq (vs++ws).toArray}})
 (hsz:vs.length+ws.length<=sizeLine):wpAny (model prog w) A (binaryOp .Add (.ref t) (.ref b)) Q E s:=by
 obtain⟨⟨cls,dd,data,sl⟩,ho,hc,n,hd⟩:=id ht;obtain⟨⟨cls2,dd2,data2,sl2⟩,ho2,hc2,n2,hd2⟩:=id hb;simp only at hc hd hc2 hd2;subst hc hd hc2 hd2;have e:vs.toArray++ws.toArray=(vs++ws).toArray:=by simp
 by_cases hw:ws=[]
 ·exact aes ⟨_,ho,rfl⟩ ⟨_,ho2,rfl⟩ aeh seq_tuple_add ac9 ac3 (acV _ _)
   (tuple_addW1 t b vs.toArray ws.toArray n n2 dd dd2 sl sl2 (by simpa using hv) (by simp[hw])) ⟨ho,ho2,h1 hw⟩
 ·refine aes ⟨_,ho,rfl⟩ ⟨_,ho2,rfl⟩ aeh seq_tuple_add ac9 ac3 (acV _ _)
   (tuple_addW2 t b vs.toArray ws.toArray n n2 dd dd2 sl sl2 (by simpa using hv) (by simpa using hw) (by rw[ZJ,ZJ];exact hsz)) ⟨ho,ho2,?_⟩
  rw[e];exact h2 hw
noncomputable def sIx(n d:Nat):Option Int->Nat
 |none=>d|some v=>if v<0 then(v+(n:Int)).toNat else min v.toNat n
theorem sIx_none(n d:Nat):sIx n d none=d:=rfl
theorem sIx_nat(n d k:Nat):sIx n d (some (k:Int))=min k n:=by
 show(if(k:Int)<0 then((k:Int)+(n:Int)).toNat else min (k:Int).toNat n)=min k n;rw[aaa (by omega),aax]
theorem U9(n d:Nat)(hd:d<=n)(o:Option Int):sIx n d o<=n:=by
 cases o with
 |none=>exact hd|some v=>
   show(if v<0 then(v+(n:Int)).toNat else min v.toNat n)<=n;by_cases hv:v<0
   ·rw[ZZ hv];omega
   ·rw[aaa hv];exact Nat.min_le_right _ _
theorem Jk(v:Int)(n d:Nat):(if v<0 then max (v+(n:Int)) 0 else min v (n:Int))=((sIx n d (some v):Nat):Int):=by
 show(if v<0 then max (v+(n:Int)) 0 else min v (n:Int))=(((if v<0 then(v+(n:Int)).toNat else min v.toNat n):Nat):Int);by_cases hv:v<0
 ·simp only[ZZ hv];omega
 ·simp only[aaa hv];omega
theorem G5(lo hi:Option Int)(n:Nat):Builtin.Slice.sliceAdjust lo hi 1 (n:Int)=(((sIx n 0 lo:Nat):Int),((sIx n n hi:Nat):Int)):=by
 have h1:¬ ((1:Int)<0):=by omega
 unfold Builtin.Slice.sliceAdjust;simp only[h1,abT];refine Prod.ext ?_ ?_
 ·cases lo with
  |none=>rfl|some v=>exact Jk v n 0
 ·cases hi with
  |none=>rfl|some v=>exact Jk v n n
theorem Ft(i j:Nat):Builtin.Slice.slicePlaces (i:Int) (j:Int) 1=j-i:=by
 unfold Builtin.Slice.slicePlaces;have h1:(1:Int)>0:=by omega
 simp only[h1,abL,Int.ediv_one];split<;>omega
theorem uK{v:Value}{o:Option Int}{Q:Option Int->Shared->Prop}(p:IsPart v o)(h:Q o s):wpAny (model prog w) A (Builtin.Slice.slicePartIndex v) Q E s:=by
 cases p with
 |none=>exact slicePart_none h|int i t=>exact slicePart_int h
theorem sliceApplied_gen{sl:Addr}{vl vu:Value}{lo hi:Option Int}{n:Nat}{Q:Int×Int×Nat->Shared->Prop}(hs:s.heap.IsSliceOf sl vl vu .none)(pl:IsPart vl lo)(pu:IsPart vu hi)
 (h:Q (((sIx n 0 lo:Nat):Int),1,sIx n n hi-sIx n 0 lo) s):wpAny (model prog w) A (Builtin.Slice.sliceApplied (.ref sl) (pure (n:Int))) Q E s:=by
 obtain⟨os,hos,hcs,hds⟩:=id hs;unfold Builtin.Slice.sliceApplied Builtin.Slice.sliceFields;refine vz (vz (aaI hos hds (x:=vl) rfl (vz (aaI hos hds (x:=vu) rfl (vz (aaI hos hds (x:=.none) rfl (ZC ?_)))))));refine vz (slicePart_none ?_);show wpAny _ _ (if((1:Int)==0)=true then _ else _) _ _ s;rw[aaa (by decide)];refine vz (uK pl (vz (uK pu (vz (ZC ?_)))));show wpAny _ _ (match Builtin.Slice.sliceAdjust lo hi 1 (n:Int)with|(lo,hi)=>pure (lo,(1:Int),Builtin.Slice.slicePlaces lo hi 1)) _ _ s;rw[G5 lo hi n];show wpAny _ _ (pure (((sIx n 0 lo:Nat):Int),(1:Int),Builtin.Slice.slicePlaces ((sIx n 0 lo:Nat):Int) ((sIx n n hi:Nat):Int) 1)) _ _ s;rw[Ft];exact ZC h
theorem Nt(xs:Array Value)(i k:Nat):((List.range k).filterMap λ(m:Nat)=>xs[((i:Int)+(m:Int)*1).toNat]?).toArray=((xs.toList.drop i).take k).toArray:=by
 have e:(λ(m:Nat)=>xs[((i:Int)+(m:Int)*1).toNat]?)=λm=>xs[i+m]?:=by
  funext m
  have:((i:Int)+(m:Int)*1).toNat=i+m:=by omega
  rw[this]
 rw[e];have:=pick_run xs i k;rw[ab2]at this;have e2:((λx=>xs[x]?)∘λx=>i+x)=λm=>xs[i+m]?:=rfl;rw[e2]at this;rw[this]
theorem getItem_tuple_cut{t sl:Addr}{items:Array Value}{vl vu:Value}{lo hi:Option Int}{Q:Value->Shared->Prop}(ht:IsTup s.heap t items)(hs:s.heap.IsSliceOf sl vl vu .none)(pl:IsPart vl lo)(pu:IsPart vu hi)
 (hw:¬ (sIx items.size 0 lo=0/\sIx items.size items.size hi=items.size))
 (h:Q (.ref s.heap.objs.size) {s with heap:=s.heap.push {cls:=.type "tuple",data:=.seq ((items.toList.drop (sIx items.size 0 lo)).take (sIx items.size items.size hi-sIx items.size 0 lo)).toArray}})
 (hsz:items.size<=sizeLine):wpAny (model prog w) A (getItem (.ref t) (.ref sl)) Q E s:=by
 have htake:sizeOk (.seq ((items.toList.drop (sIx items.size 0 lo)).take (sIx items.size items.size hi-sIx items.size 0 lo)).toArray):=by
  show((items.toList.drop (sIx items.size 0 lo)).take (sIx items.size items.size hi-sIx items.size 0 lo)).toArray.size<=sizeLine;rw[ZJ,abZ,aei,abS];omega
 have hj:sIx items.size items.size hi<=items.size:=U9 _ _ (ZS _) hi;obtain⟨os,hos,hcs,hds⟩:=id hs;have hTs:s.TypeIs (.ref sl) "slice":=⟨os,hos,hcs⟩;unfold getItem;try with_reducible refine aa2 ?_
 first|refine vz (ZC ?_)|skip
 refine vz (wpAny_sequenceKey ht.typeIs (by decide) ?_);refine vz (aaj (name:=Str.ofString "__getitem__") ht.typeIs aaW
  (aah aaW ht.typeIs entry_tuple_getitem ?_ (args_tuple_getitem _ _)))
 show wpAny _ _ (Builtin.Tuple.tupleItemsOf (.ref t) >>= _) _ _ s;refine vz (tupleItemsOf_ ht ?_);refine vz (ada hTs ?_);rw[ZZ (by decide)];refine vz (sliceApplied_gen hs pl pu ?_);have hno:¬ ((((sIx items.size 0 lo:Nat):Int)==0&&(1:Int)==1&&(sIx items.size items.size hi-sIx items.size 0 lo)==items.size)=true):=by
  intro q;rw[aac,aac]at q;have q1:((sIx items.size 0 lo:Nat):Int)=0:=eq_of_beq q.1.1;have q2:sIx items.size items.size hi-sIx items.size 0 lo=items.size:=eq_of_beq q.2;exact hw ⟨by omega,by omega⟩
 show wpAny _ _ (if(((sIx items.size 0 lo:Nat):Int)==0&&(1:Int)==1&&(sIx items.size items.size hi-sIx items.size 0 lo)==items.size)=true then _ else _) _ _ s;rw[aaa hno,Nt];first
  |exact vz (m:=Builtin.Tuple.tupleExact _) (aa7 (ZC ⟨_,rfl,ZC h⟩) htake)
  |exact vz (m:=Builtin.Tuple.tupleExact _) (aa7 (vz (ZC (ZC ⟨_,rfl,ZC h⟩))) htake)
  |exact vz (vz (m:=Builtin.Tuple.tupleExact _) (aa7 (ZC (ZC ⟨_,rfl,ZC h⟩)) htake))
  |exact vz (vz (m:=Builtin.Tuple.tupleExact _) (aa7 (ZC ⟨_,rfl,ZC h⟩) htake))
end
end HT
namespace L2
open PySem PySem.Spec PyProof.Rows
abbrev TO:=St->Hp->(Option Int->Hp->Prop)->Prop
def PO(X:Cx)(e:Option Expr)(t:TO):Prop:=
 ∀(pins:List (Addr×Obj))(s:Shared)(σ:St)(H:Hp)(Q:Option Int->Hp->Prop),Inv X pins σ H s->t σ H Q->
  wpAny (model X.prog X.w) X.A (evalPart e X.env) (λu s'=>∃o H',Inv X pins σ H' s'/\IsPart u o/\Q o H') X.xe s
noncomputable def Ra:TO:=λ_ H Q=>Q none H
noncomputable def WP(t:TE):TO:=λσ H Q=>t σ H λx H1=>∃i,x=.int i/\Q (some i) H1
theorem intsAre_of{ns:List Int}:∀{us:List Value},Vals (ns.map V.int) us->IntsAre us ns:=by
 induction ns with
 |nil=>intro us r;rw[aa4]at r;cases r;exact .nil|cons n ns ih=>
   intro us r;rw[ZD]at r;cases r with
   |cons r1 r2=>
     obtain⟨t,e⟩:=r1;subst e;exact .cons n t (ih r2)
section
variable{X:Cx}{e:Expr}{te:TE}{lo hi:Option Expr}{tl th:TO}{pos p2:Pos}
theorem RD:PO X none Ra:=by
 intro pins s σ H Q I h;rw[evalPart_none];exact ZC ⟨none,H,I,.none,h⟩
theorem RC(h:PE X e te):PO X (some e) (WP te):=by
 intro pins s σ H Q I hw;rw[evalPart_some];refine cW (h pins s σ H _ I hw) λu s1 ⟨x,H1,I1,r1,q1⟩=>?_;obtain⟨i,rfl,q⟩:=q1;obtain⟨t,rfl⟩:=r1;exact⟨some i,H1,I1,.int i t,q⟩
def SlR(X:Cx)(r:V->Option Int->Option Int->Hp->VK->Prop):Prop:=
 ∀(pins:List (Addr×Obj))(s:Shared)(σ:St)(H:Hp)(x:V)(v vl vu:Value)(lo hi:Option Int)(sl:Addr)(Q:VK),Inv X pins σ H s->RelV x v->s.heap.IsSliceOf sl vl vu .none->IsPart vl lo->IsPart vu hi->r x lo hi H Q->
  ∃T id,typeLookup (.type T) "__getitem__"=pure (some (.builtin id))/\s.TypeIs v T/\wpAny (model X.prog X.w) X.A (getItem v (.ref sl)) (EP X pins σ Q) X.xe s
theorem SlR.or{r r':V->Option Int->Option Int->Hp->VK->Prop}(h:SlR X r)(h':SlR X r'):SlR X (λx lo hi H Q=>r x lo hi H Q\/r' x lo hi H Q):=by
 intro pins s σ H x v vl vu lo hi sl Q I rx hs pl pu q;rcases q with q|q
 ·exact h pins s σ H x v vl vu lo hi sl Q I rx hs pl pu q
 ·exact h' pins s σ H x v vl vu lo hi sl Q I rx hs pl pu q
noncomputable def Zn(r:V->Option Int->Option Int->Hp->VK->Prop)(te:TE)(tl th:TO):TE:=λσ H Q=>te σ H λx H1=>tl σ H1 λl H2=>th σ H2 λu H3=>r x l u H3 Q
theorem Nx{r:V->Option Int->Option Int->Hp->VK->Prop}(hr:SlR X r)(he:PE X e te)(hl:PO X lo tl)(hu:PO X hi th):PE X (.Subscript e (.Slice lo hi none p2) pos) (Zn r te tl th):=by
 intro pins s σ H Q I h;refine Subscript_ (cW (he pins s σ H _ I h) λv s1 ⟨x,H1,I1,r1,q1⟩=>?_);refine wpAny_Slice (cW (hl pins s1 σ H1 _ I1 q1) λvl s2 ⟨l,H2,I2,pl,q2⟩=>cW (hu pins s2 σ H2 _ I2 q2) λvu s3 ⟨u,H3,I3,pu,q3⟩=>?_);rw[evalPart_none];refine ZC ?_;have I4:Inv X pins σ H3 {s3 with heap:=s3.heap.push {cls:=.type "slice",data:=.fields #[vl,vu,.none]}}:=I3.kept (t':=s3.toks) λb ob q=>Zz _ q;obtain⟨T,id,hT,ht,hg⟩:=hr pins {s3 with heap:=s3.heap.push {cls:=.type "slice",data:=.fields #[vl,vu,.none]}} σ H3 x v vl vu l u s3.heap.objs.size Q I4 r1 (Heap.IsSliceOf.new ..) pl pu q3;show wpAny (model X.prog X.w) X.A (subscriptTail e (.Slice lo hi none p2) v (.ref s3.heap.objs.size)) (EP X pins σ Q) X.xe {s3 with heap:=s3.heap.push {cls:=.type "slice",data:=.fields #[vl,vu,.none]}};exact tail_any (ops:=[.ref s3.heap.objs.size,v]) ht hT hg (by with_unfolding_all rfl)
def Dp(xs:List V)(lo hi:Option Int):List V:=(xs.drop (HT.sIx xs.length 0 lo)).take (HT.sIx xs.length xs.length hi-HT.sIx xs.length 0 lo)
theorem ud(xs:List V)(lo hi:Option Int):(Dp xs lo hi).length<=xs.length:=by
 unfold Dp;rw[abZ,aei];omega
def Yy(K:PySem.W.Frag):V->Option Int->Option Int->Hp->VK->Prop:=λx lo hi H Q=>∃a xs,x=.ref a/\SqT K H a xs/\
 ¬ (HT.sIx xs.length 0 lo=0/\HT.sIx xs.length xs.length hi=xs.length)/\∀p,H p=none->Q (.ref p) (upd H p (.tup (Dp xs lo hi)))
theorem sl_tup:SlR X (Yy X.K):=by
 intro pins s σ H x v vl vu lo hi sl Q I rx hs pl pu h;obtain⟨a,xs,rfl,hx,hw,q⟩:=h;cases rx;obtain⟨its,r,ht,hz⟩:=I.tuple hx;have hlen:its.toArray.size=xs.length:=by rw[ZJ];exact r.length.symm
 refine⟨"tuple",_,aaW.lookup,ht.typeIs,?_⟩;refine HT.getItem_tuple_cut ht hs pl pu (by rw[hlen];exact hw) ?_ (by rw[hlen];exact hz);rw[hlen];refine⟨.ref s.heap.objs.size,_,I.laid (t':=s.toks) (o:=.tup (Dp xs lo hi)) (λb ob q=>Zz _ q) (ZS _) ?_,rfl,q _ (I.hok.fresh (ZS _))⟩;exact⟨aaV (ud xs lo hi) hz,_,(r.drop (HT.sIx xs.length 0 lo)).take (HT.sIx xs.length xs.length hi-HT.sIx xs.length 0 lo),adN _ _⟩
def W8(K:PySem.W.Frag):R2:=λx y H Q=>∃a b xs ys,x=.ref a/\y=.ref b/\SqT K H a xs/\SqT K H b ys/\xs≠[]/\xs.length+ys.length<=sizeLine/\
 (ys=[]->Q (.ref a) H)/\(ys≠[]->∀p,H p=none->Q (.ref p) (upd H p (.tup (xs++ys))))
theorem Vals.nil_iff{xs:List V}{us:List Value}(r:Vals xs us):us=[]↔xs=[]:=by
 cases r with
 |nil=>simp|cons _ _=>simp
theorem R0:OpR X (binaryOp .Add) (W8 X.K):=by
 intro pins s σ H x y v u Q I rx ry h;obtain⟨a,b,xs,ys,rfl,rfl,ha,hb,hx,hz,q1,q2⟩:=h;cases rx;cases ry;obtain⟨its,r1,p1,_⟩:=I.tuple ha;obtain⟨its2,r2,p2,_⟩:=I.tuple hb;refine HT.cat_tup p1 p2 (λz=>hx (r1.nil_iff.mp z)) (λz=>⟨.ref a,H,I,rfl,q1 (r2.nil_iff.mp z)⟩) (λz=>?_) (by rw[<-r1.length,<-r2.length];exact hz);refine⟨.ref s.heap.objs.size,_,I.laid (t':=s.toks) (o:=.tup (xs++ys)) (λb ob q=>Zz _ q) (ZS _) ?_,rfl,q2 (λw=>z (r2.nil_iff.mpr w)) _ (I.hok.fresh (ZS _))⟩;exact⟨by rw[Z6];exact hz,_,r1.append r2,adN _ _⟩
end
noncomputable def QM(n:Nat)(i:Int):Option Nat:=if 0<=i then(if i<n then some i.toNat else none)else if -(n:Int)<=i then some (i+n).toNat else none
def Tv{α:Type}(xs:List α)(i:Int):Option α:=(QM xs.length i).bind λj=>xs[j]?
theorem Ip{n:Nat}{i:Int}{j:Nat}(h:QM n i=some j):seqIndex? i n=some j/\j<n /\ -(n:Int)<=i/\i<n:=by
 unfold QM at h;by_cases h0:0<=i
 ·rw[ZZ h0]at h;by_cases h1:i<n
  ·rw[ZZ h1]at h;have e:i.toNat=j:=aaA h;exact⟨by rw[aeP h0 h1,e],by omega,by omega,h1⟩
  ·rw[aaa h1]at h;cases h
 ·rw[aaa h0]at h;by_cases h1 : -(n:Int)<=i
  ·rw[ZZ h1]at h;have e:(i+n).toNat=j:=aaA h;exact⟨by rw[seqIndex_neg (by omega) h1,e],by omega,h1,by omega⟩
  ·rw[aaa h1]at h;cases h
theorem uD{α:Type}{xs:List α}{i:Int}{v:α}(h:Tv xs i=some v):∃j,seqIndex? i xs.length=some j/\xs[j]? = some v/\j<xs.length /\ -(xs.length:Int)<=i/\i<xs.length:=by
 unfold Tv at h;cases e:QM xs.length i with
 |none=>rw[e]at h;cases h|some j=>
   rw[e]at h;obtain⟨h1,h2,h3,h4⟩:=Ip e;exact⟨j,h1,h,h2,h3,h4⟩
def zT(b:Expr):Prop:=∀o i,subscripted b false o i=operate [o,i] (getItem o i)
def IxR(X:Cx)(r:R2):Prop:=
 ∀(value slice:Expr)(pins:List (Addr×Obj))(s:Shared)(σ:St)(H:Hp)(x y:V)(v u:Value)(Q:VK),Inv X pins σ H s->RelV x v->RelV y u->r x y H Q->
  subscripted slice false v u=operate [v,u] (getItem v u)->wpAny (model X.prog X.w) X.A (subscriptTail value slice v u) (EP X pins σ Q) X.xe s
def Zh(X:Cx)(id:String)(r:V->List V->Hp->VK->Prop):Prop:=
 ∀(pins:List (Addr×Obj))(s:Shared)(σ:St)(H:Hp)(x:V)(xs:List V)(v:Value)(us:List Value)(Q:VK),Inv X pins σ H s->RelV x v->Vals xs us->r x xs H Q->
  wpAny (model X.prog X.w) X.A (call (.builtin id) (v::us)) (EP X pins σ Q) X.xe s
section
variable{X:Cx}{a b:Expr}{ta tb:TE}{pos:Pos}
theorem IxR.or{r r':R2}(h:IxR X r)(h':IxR X r'):IxR X (λx y H Q=>r x y H Q\/r' x y H Q):=by
 intro value slice pins s σ H x y v u Q I rx ry q hs;rcases q with q|q
 ·exact h value slice pins s σ H x y v u Q I rx ry q hs
 ·exact h' value slice pins s σ H x y v u Q I rx ry q hs
theorem HJ{r:R2}(hr:IxR X r)(ha:PE X a ta)(hb:PE X b tb)(hs:zT b):PE X (.Subscript a b pos) (Q9 r ta tb):=by
 intro pins s σ H Q I h;exact Subscript_ (Wk ha hb I h λv u s2 x y H2 I2 rx ry q=>hr a b pins s2 σ H2 x y v u Q I2 rx ry q (hs _ _))
def Ng(K:PySem.W.Frag):R2:=λx y H Q=>∃p xs i v,x=.ref p/\y=.int i/\SqL K H p xs/\Tv xs i=some v/\Q v H
def Vf(K:PySem.W.Frag):R2:=λx y H Q=>∃p xs i v,x=.ref p/\y=.int i/\SqT K H p xs/\Tv xs i=some v/\Q v H
def YB:R2:=λx y H Q=>∃z i c,x=.str z/\y=.int i/\z.length<=sizeLine/\Tv z.cps.toList i=some c/\Q (.str ⟨#[c]⟩) H
theorem ix_list:IxR X (Ng X.K):=by
 intro value slice pins s σ H x y v u Q I rx ry h hs;obtain⟨p,xs,i,z,rfl,rfl,hq,he,q⟩:=h;cases rx;obtain⟨t,rfl⟩:=ry;obtain⟨its,r,pl,hz⟩:=I.list hq;obtain⟨j,h1,h2,h3,h4,h5⟩:=uD he;obtain⟨w,ew,rw'⟩:=r.get h2;have hl:=r.length;have hn:=nJ;have fin:EP X pins σ Q w s:=⟨z,H,I,rw',q⟩;by_cases h0:0<=i
 ·have hj:i.toNat=j:=by
   rw[aeP h0 h5]at h1;exact aaA h1
  exact item_listR pl.isList h0 (by omega) (by rw[hj];simpa using ew) fin hs
 ·have hj:(i+(its.toArray.size:Int)).toNat=j:=by
   rw[seqIndex_neg (by omega) h4]at h1;rw[ZJ,<-hl];exact aaA h1
  exact subscriptTail_builtinR (x:=w) pl.isList.typeIs slot_list_getitem.lookup
   (wpAny_getItem_list_neg (Q:=λr s'=>r=w/\EP X pins σ Q r s') pl.isList (by omega) (by rw[ZJ]<;>omega) (by omega) (by rw[hj];simpa using ew) ⟨rfl,fin⟩) hs
theorem ix_tup:IxR X (Vf X.K):=by
 intro value slice pins s σ H x y v u Q I rx ry h hs;obtain⟨p,xs,i,z,rfl,rfl,hq,he,q⟩:=h;cases rx;obtain⟨t,rfl⟩:=ry;obtain⟨its,r,pl,hz⟩:=I.tuple hq;obtain⟨j,h1,h2,h3,h4,h5⟩:=uD he;obtain⟨w,ew,rw'⟩:=r.get h2;have hl:=r.length;have hn:=nJ;have fin:EP X pins σ Q w s:=⟨z,H,I,rw',q⟩;exact subscriptTail_builtinR (x:=w) pl.typeIs aaW.lookup
  (getItem_tuple (j:=j) (Q:=λr s'=>r=w/\EP X pins σ Q r s') pl (by omega) (by omega) (by rw[ZJ,<-hl];exact h1) (by simpa using ew) ⟨rfl,fin⟩) hs
theorem VF:IxR X YB:=by
 intro value slice pins s σ H x y v u Q I rx ry h hs;obtain⟨z,i,c,rfl,rfl,hz,he,q⟩:=h;obtain⟨t,rfl⟩:=rx;obtain⟨t',rfl⟩:=ry;obtain⟨j,h1,h2,h3,h4,h5⟩:=uD he;have hl:z.cps.toList.length=z.length:=by simp[Str.length]
 rw[hl]at h1 h4 h5;have hn:=nJ;exact tail_any (typeIs_str s z t) slot_str_getitem.lookup (getItem_str (c:=c) (by
  have e1:decide (i < -(2^63:Int))=false:=aay (by omega);have e2:decide (i≥2^63)=false:=aay (by omega);rw[e1,e2,aeX]) (by rw[h1];simpa using h2) ⟨.str ⟨#[c]⟩,H,I.tok _,⟨_,rfl⟩,q⟩) hs
theorem FT(its:List Value)(n j:Nat)(u:Value):Obj.mapSeq (·.setIfInBounds j u) {cls:=.type "list",data:=.seq its.toArray n}={cls:=.type "list",data:=.seq (its.set j u).toArray n}:=by
 simp[Obj.mapSeq]
theorem Inv.lst{pins:List (Addr×Obj)}{σ:St}{H:Hp}{s:Shared}{p:Addr}{xs:List V}(I:Inv X pins σ H s)(h:H p=some (.lst xs)):
 ∃(its:List Value)(n:Nat),Vals xs its/\s.heap.get? p=some {cls:=.type "list",data:=.seq its.toArray n}/\xs.length<=sizeLine:=by
 obtain⟨z,its,n,r,e⟩:=I.hok p _ h;exact⟨its,n,r,e,z⟩
theorem Inv.lstUpd{pins:List (Addr×Obj)}{σ:St}{H:Hp}{s:Shared}{p:Addr}{xs ys:List V}{its its':List Value}{n n':Nat}{f:Obj->Obj}(I:Inv X pins σ H s)(h:H p=some (.lst xs))
 (ho:s.heap.get? p=some {cls:=.type "list",data:=.seq its.toArray n}) (hf:f {cls:=.type "list",data:=.seq its.toArray n}={cls:=.type "list",data:=.seq its'.toArray n'}) (r:Vals ys its') (hz:ys.length<=sizeLine) (t:Nat):
 Inv X pins σ (upd H p (.lst ys)) {s with heap:=s.heap.update p f,toks:=t}:=by
 have e:(s.heap.update p f).get? p=some {cls:=.type "list",data:=.seq its'.toArray n'}:=by
  rw[aaG f ho (by rw[hf]<;>rfl),hf]
 refine I.write (x:=p) (e:=p) (by rw[h];trivial) (.inl rfl) (λb u hb q=>(aaB _ _ (aal hb)).trans q) ⟨_,e⟩ ?_;exact⟨hz,its',n',r,e⟩
def Nf:V->V->V->Hp->(Hp->Prop)->Prop:=λo i v H Q=>∃p xs k j,o=.ref p/\i=.int k/\H p=some (.lst xs)/\QM xs.length k=some j/\Q (upd H p (.lst (xs.set j v)))
theorem set_list:X6 X Nf:=by
 intro pins s σ H o i v ov iv u Q I ro ri rv h;obtain⟨p,xs,k,j,rfl,rfl,hp,hj,q⟩:=h;cases ro;obtain⟨t,rfl⟩:=ri;obtain⟨its,n,r,ho,hz⟩:=I.lst hp;obtain⟨h1,h2,h3,h4⟩:=Ip hj;have hl:=r.length;have hn:=nJ;have I':Inv X pins σ (upd H p (.lst (xs.set j v))) {s with heap:=s.heap.update p (Obj.mapSeq (·.setIfInBounds j u))}:=
  I.lstUpd hp ho (FT its n j u) (r.set rv j) (by rw[abb];exact hz) s.toks
 by_cases h0:0<=k
 ·have hk:k.toNat=j:=by
   rw[aeP h0 h4]at h1;exact aaA h1
  exact PySem.W.ki_setAt ho h0 (by omega) (by rw[ZJ,<-hl];exact h4) (by rw[hk];exact⟨_,I',q⟩)
 ·have hk:(k+(its.toArray.size:Int)).toNat=j:=by
   rw[seqIndex_neg (by omega) h3]at h1;rw[ZJ,<-hl];exact aaA h1
  exact PySem.W.ki_setBack ho (by omega) (by rw[ZJ,<-hl];exact h3) (by omega) (by rw[hk];exact⟨_,I',q⟩)
theorem yI(lo hi:Option Int)(n:Nat):(sliceBounds lo hi none n).1=((HT.sIx n 0 lo:Nat):Int)/\(sliceBounds lo hi none n).2.1=((HT.sIx n n hi:Nat):Int)/\(sliceBounds lo hi none n).2.2=1:=by
 refine⟨?_,?_,rfl⟩
 ·cases lo with
  |none=>simp[sliceBounds,HT.sIx]|some i=>
    simp only[sliceBounds,HT.sIx,ado,show(1:Int)>0 by decide,abL];by_cases h:i<0
    ·simp only[h,abL]<;>omega
    ·simp only[h,abT]<;>omega
 ·cases hi with
  |none=>simp[sliceBounds,HT.sIx]|some i=>
    simp only[sliceBounds,HT.sIx,ado,show(1:Int)>0 by decide,abL];by_cases h:i<0
    ·simp only[h,abL]<;>omega
    ·simp only[h,abT]<;>omega
theorem wF(its:List Value)(lo hi:Option Int):slicePick its.toArray lo hi none=((its.drop (HT.sIx its.length 0 lo)).take (HT.sIx its.length its.length hi-HT.sIx its.length 0 lo)).toArray:=by
 obtain⟨h1,h2,h3⟩:=yI lo hi its.toArray.size;unfold slicePick;rw[h1,h2,h3];simp only[sliceRange_one,pick_run,ZJ]<;>rfl
def Yz(K:PySem.W.Frag):V->Option Int->Option Int->Hp->VK->Prop:=λx lo hi H Q=>∃a xs,x=.ref a/\SqL K H a xs/\∀p,H p=none->Q (.ref p) (upd H p (.lst (Dp xs lo hi)))
theorem sl_list:SlR X (Yz X.K):=by
 intro pins s σ H x v vl vu lo hi sl Q I rx hs pl pu h;obtain⟨a,xs,rfl,hx,q⟩:=h;cases rx;obtain⟨its,r,ht,hz⟩:=I.list hx;have hlen:=r.length;refine⟨"list",_,slot_list_getitem.lookup,ht.isList.typeIs,?_⟩;refine wpAny_getItem_list_slice ht.isList hs pl pu .none (by simp) ?_ (by rw[ZJ]<;>omega);rw[wF,<-hlen];refine⟨.ref s.heap.objs.size,_,I.laid (t':=s.toks) (o:=.lst (Dp xs lo hi)) (λb ob q=>Zz _ q) (ZS _) ?_,rfl,q _ (I.hok.fresh (ZS _))⟩;exact⟨aaV (ud xs lo hi) hz,_,0,(r.drop (HT.sIx xs.length 0 lo)).take (HT.sIx xs.length xs.length hi-HT.sIx xs.length 0 lo),ZR _ rfl⟩
theorem zQ:ik X (.builtin "len") (λxs H Q=>∃p ys,xs=[.ref p]/\(SqL X.K H p ys\/SqT X.K H p ys)/\Q (.int ys.length) H):=by
 intro pins s σ H xs us Q I r h;obtain⟨p,ys,rfl,hq,q⟩:=h;obtain⟨u,rfl,rx⟩:=vals1 r;cases rx;have hn:=nJ;rcases hq with hq|hq
 ·obtain⟨its,r',pl,hz⟩:=I.list hq;have hlen:=r'.length;exact Calls.call_len_list pl.isList (by simp only[ZJ]<;>omega) ⟨.int ys.length,H,I.tok _,⟨s.toks+1,by rw[ZJ,hlen]⟩,q⟩
 ·obtain⟨its,r',pl,hz⟩:=I.tuple hq;have hlen:=r'.length;exact len_tuple pl (by simp only[ZJ]<;>omega) ⟨.int ys.length,H,I.tok _,⟨s.toks+1,by rw[ZJ,hlen]⟩,q⟩
theorem zP:ik X (.builtin "len") (λxs H Q=>∃z,xs=[.str z]/\z.length<=sizeLine/\Q (.int z.length) H):=by
 intro pins s σ H xs us Q I r h;obtain⟨z,rfl,hz,q⟩:=h;obtain⟨u,rfl,t,rfl⟩:=vals1 r;have hn:=nJ;exact len_str (by omega) ⟨.int z.length,H,I.tok _,⟨_,rfl⟩,q⟩
theorem wQ:ik X (.type "tuple") (λxs H Q=>∃p ys,xs=[.ref p]/\((SqL X.K H p ys/\∀l,H l=none->Q (.ref l) (upd H l (.tup ys)))\/(SqT X.K H p ys/\Q (.ref p) H))):=by
 intro pins s σ H xs us Q I r h;obtain⟨p,ys,rfl,h⟩:=h;obtain⟨u,rfl,rx⟩:=vals1 r;cases rx;rcases h with⟨hq,q⟩|⟨hq,q⟩
 ·obtain⟨its,r',pl,hz⟩:=I.list hq;have hlen:=r'.length;refine call_tuple_list pl.isList (λh' kp=>?_) (by simp only[ZJ]<;>omega);have I1:Inv X pins σ H {s with heap:=h'}:=I.kept (t':=s.toks) kp;have I2:Inv X pins σ (upd H h'.objs.size (.tup ys)) {s with heap:=h'.push {cls:=.type "tuple",data:=.seq its.toArray}}:=
   I1.laid (t':=s.toks) (λb o e=>Zz _ e) (ZS _) (show ObjOk X.prog X.w _ _ _ (.tup ys)from⟨hz,its,r',adN _ _⟩)
  exact⟨.ref h'.objs.size,_,I2,rfl,q _ (I1.hok.fresh (ZS _))⟩
 ·obtain⟨its,r',pl,hz⟩:=I.tuple hq;exact call_tuple_same pl ⟨.ref p,H,I,rfl,q⟩
def YZ(K:PySem.W.Frag)(T:String)(x:V)(H:Hp):Prop:=match x with
 |.str _=>T="str"|.int _=>T="int"|.ref p=>(T="list"/\∃xs,SqL K H p xs)\/(T="tuple"/\∃o,K.lookup p=some o/\o.cls=.type "tuple"/\o.dict=none)\/
  (T="dict"/\((∃kvs,H p=some (.dK kvs))\/∃kvs,H p=some (.dT kvs)))\/(T="set"/\∃S n,H p=some (.set S n))
 |_=>False
theorem UJ{pins:List (Addr×Obj)}{σ:St}{H:Hp}{s:Shared}{T:String}{x:V}{v:Value}(I:Inv X pins σ H s)(r:RelV x v)(ty:YZ X.K T x H):
 s.TypeIs v T/\∀a,v=.ref a->∃ob,s.heap.get? a=some ob/\ob.dict=none:=by
 cases x with
 |str z=>
   obtain⟨t,rfl⟩:=r;cases(show T="str" from ty);exact⟨typeIs_str s z t,λ_ e=>nomatch e⟩
 |int i=>
   obtain⟨t,rfl⟩:=r;cases(show T="int" from ty);exact⟨aet s i t,λ_ e=>nomatch e⟩
 |ref p=>
   cases r;rcases ty with⟨rfl,xs,hq⟩|⟨rfl,o,hk,hc,hd⟩|⟨rfl,hk⟩|⟨rfl,S,n,hk⟩
   ·obtain⟨its,_,pl,_⟩:=I.list hq;refine⟨pl.isList.typeIs,λa e=>?_⟩;cases e;obtain⟨o,n,e,c,hd,_⟩:=pl;exact⟨o,e,hd⟩
   ·refine⟨⟨o,I.kIn p o hk,hc⟩,λa e=>?_⟩;cases e;exact⟨o,I.kIn _ o hk,hd⟩
   ·have z:∃o,s.heap.get? p=some o/\o.ExactDict:=by
     rcases hk with⟨kvs,hk⟩|⟨kvs,hk⟩
     ·obtain⟨_,_,_,_,o,_,_,e,ex,_⟩:=I.hok p _ hk;exact⟨o,e,ex⟩
     ·obtain⟨_,_,_,_,o,_,_,e,ex,_⟩:=I.hok p _ hk;exact⟨o,e,ex⟩
    obtain⟨o,e,ex⟩:=z;refine⟨⟨o,e,ex.1⟩,λa e2=>?_⟩;cases e2;exact⟨o,e,ex.2.1⟩
   ·obtain⟨o,_,_,_,e,ex,_⟩:=I.hok p _ hk;refine⟨⟨o,e,ex.1⟩,λa e2=>?_⟩;cases e2;exact⟨o,e,ex.2.1⟩
 |_=>exact False.elim ty
noncomputable def Y5(K:PySem.W.Frag)(T:String)(r:V->List V->Hp->VK->Prop)(to:TE)(t:TA):TE:=λσ H Q=>to σ H λx H1=>YZ K T x H1/\t σ H1 λxs H2=>r x xs H2 Q
variable{o e:Expr}{es:List Expr}{to:TE}{t:TA}{name:Str}{apos cpos:Pos}{T id:String}{r:V->List V->Hp->VK->Prop}
theorem HQ(pa:PlainAttrs T)(slot:Slot T name id)(hty:typeOf (.builtin id)=pure (.type "method_descriptor"))(hm:Zh X id r)(ho:PE X o to)(ha:PA X (e::es) t)
 (hbase:attributeBase o name X.env (eval o X.env)=eval o X.env:=by rfl)
 (hfew:((backTo cpos (starEach (e::es) X.env)).all (λx => !x.1)&&(backToKw cpos (keywordEach [] X.env)).all (λx=>x.1.isSome)
  && decide ((e::es).length+([]:List Keyword).length+(if([]:List Keyword).isEmpty then 0 else 1)<30))=true:=by rfl)
 (hline:(apos.endLine==cpos.line)=true:=by rfl) (hs:starEach (e::es) X.env=(false,eval e X.env)::starEach es X.env:=by rfl) (hplain:(backTo cpos (starEach es X.env)).any (·.1)=false:=by rfl):
 PE X (.Call (.Attribute o name apos) (e::es) [] cpos) (Y5 X.K T r to t):=by
 intro pins s σ H Q I h;refine wpAny_Call_method_late hbase hfew hline rfl (cW (ho pins s σ H _ I h) λv s1 ⟨x,H1,I1,r1,ty,q1⟩=>?_);obtain⟨h1,h2⟩:=UJ I1 r1 ty;refine⟨T,id,pa,slot,hty,h1,h2,?_⟩;have hA:=ha cpos pins s1 σ H1 _ I1 q1;rw[hs]at hA ⊢;refine acu (by show(false||(backTo cpos (starEach es X.env)).any (·.1))=false;rw[hplain]<;>rfl) (acI ?_);exact cW hA λus s2 ⟨vs,H2,I2,r2,q2⟩=>hm pins s2 σ H2 x vs v us Q I2 r1 r2 q2
end
def Wx(X:Cx)(id:String)(r:V->List V->Hp->VK->Prop):Prop:=
 ∀(pins:List (Addr×Obj))(s:Shared)(σ:St)(H:Hp)(x:V)(xs:List V)(v:Value)(us:List Value)(Q:VK),Inv X pins σ H s->RelV x v->Vals xs us->r x xs H Q->
  wpAny (model X.prog X.w) X.A (call (.builtin id) (v::us)) (EP X pins σ Q) X.xe s
theorem Vals.one:∀{x:V}{us:List Value},Vals [x] us->∃u,us=[u]/\RelV x u
 |_,_,.cons r .nil=>⟨_,rfl,r⟩
theorem Vals.rep{xs:List V}{us:List Value}(h:Vals xs us):∀k:Nat,Vals (List.replicate k xs).flatten (List.replicate k us).flatten
 |0=>.nil|k+1=>by
   rw[abd,abd,abN,abN];exact Vals.append h (Vals.rep h k)
theorem foldl_rep(its:List Value):∀(k:Nat)(acc:List Value),
 List.foldl (λx1 x2=>x1++x2) acc.toArray (List.replicate k its.toArray)=(acc++(List.replicate k its).flatten).toArray
 |0,acc=>by simp|k+1,acc=>by
   have e:acc.toArray++its.toArray=(acc++its).toArray:=by simp
   have e2:(acc++its)++(List.replicate k its).flatten=acc++(List.replicate (k+1) its).flatten:=by
    rw[abd,abN,aa8]
   rw[<-e2,<-foldl_rep its k (acc++its),<-e,abd,adD]
section
variable{X:Cx}{pins:List (Addr×Obj)}{σ:St}{H:Hp}{s:Shared}{l b:Addr}{xs ys zs:List V}
theorem Inv.lset{its its':List Value}{n:Nat}{f:Array Value->Array Value}{t':Nat}(I:Inv X pins σ H s)(hH:H l=some (.lst xs))
 (e:s.heap.get? l=some {cls:=.type "list",data:=.seq its.toArray n}) (hf:f its.toArray=its'.toArray) (hv:Vals ys its') (hz:ys.length<=sizeLine):
 Inv X pins σ (upd H l (.lst ys)) {s with heap:=s.heap.update l (Obj.mapSeq f),toks:=t'}:=by
 have q:=PySem.IsL.update e f;rw[hf]at q;refine I.write (x:=l) (e:=l) (by rw[hH];exact trivial) (.inl rfl) (λb' u hb hu=>(aaB s.heap (Obj.mapSeq f) (aal hb)).trans hu) ⟨_,q⟩ ?_;exact⟨hz,its',_,hv,q⟩
theorem Inv.lnew{its:List Value}{t':Nat}(I:Inv X pins σ H s)(hv:Vals ys its)(hz:ys.length<=sizeLine):
 Inv X pins σ (upd H s.heap.objs.size (.lst ys)) {s with heap:=s.heap.push {cls:=.type "list",data:=.seq its.toArray},toks:=t'}:=
 I.laid (λ_ _ q=>Zz _ q) (ZS _) ⟨hz,its,0,hv,ZR _ rfl⟩
theorem Inv.fresh(I:Inv X pins σ H s):H s.heap.objs.size=none:=I.hok.fresh (ZS _)
theorem Inv.lstM(I:Inv X pins σ H s)(hH:H l=some (.lst xs)):xs.length<=sizeLine/\∃(its:List Value)(n:Nat),Vals xs its/\xs.length=its.length/\s.heap.get? l=some {cls:=.type "list",data:=.seq its.toArray n}:=by
 obtain⟨z,its,n,r,e⟩:=I.hok l _ hH;exact⟨z,its,n,r,r.length,e⟩
theorem vm{n:Nat}(h:n<=sizeLine):Builtin.List.listTooLong n=false:=by
 unfold Builtin.List.listTooLong;exact aay (by omega)
end
section
variable{X:Cx}
def Hw:V->List V->Hp->VK->Prop:=λx vs H Q=>∃l xs y,x=.ref l/\vs=[y]/\H l=some (.lst xs)/\xs.length<sizeLine/\Q .non (upd H l (.lst (xs++[y])))
theorem xJ:Wx X "list.append" Hw:=by
 intro pins s σ H x vs v us Q I rx rv h;obtain⟨l,xs,y,rfl,rfl,hH,hz,q⟩:=h;cases rx;obtain⟨u,rfl,ru⟩:=rv.one;obtain⟨z,its,n,r,hl,e⟩:=I.lstM hH;refine acv acC ⟨_,e,rfl⟩ F.entry_list_append (F.args_list_append_2 _ _) (PySem.list_append l its.toArray n u (by rw[ZJ];omega)) ⟨e,?_⟩;refine⟨.non,_,I.lset (its':=its++[u]) hH e (by simp) (r.append (.cons ru .nil)) ?_,rfl,q⟩;rw[Z6,acD];omega
def W7:R2:=λx y H Q=>∃l k xs,x=.ref l/\y=.int k/\H l=some (.lst xs) /\ -(2^63)<=k/\k<2^63/\xs.length*k.toNat<=sizeLine/\
 ∀p,H p=none->Q (.ref p) (upd H p (.lst (List.replicate k.toNat xs).flatten))
theorem len_rep{α:Type}(xs:List α)(k:Nat):(List.replicate k xs).flatten.length=k*xs.length:=by
 induction k with
 |zero=>simp|succ k ih=>rw[abd,abN,Z6,ih,Nat.succ_mul,Nat.add_comm]
theorem N6:OpR X (binaryOp .Mult) W7:=by
 intro pins s σ H x y v u Q I rx ry h;obtain⟨l,k,xs,rfl,rfl,hH,h1,h2,hz,q⟩:=h;cases rx;obtain⟨t,rfl⟩:=ry;obtain⟨z,its,n,r,hl,e⟩:=I.lstM hH;have hlen:its.toArray.size*k.toNat<=sizeLine:=by rw[ZJ,<-hl];exact hz
 have hcap:¬ its.toArray.size*k.toNat>(2^63-1)/8:=by
  have:(sizeLine:Nat)<=(2^63-1)/8:=by decide
  omega
 have hfit:¬ (!Builtin.List.listFitsIndex k)=true:=by
  rw[fitsIndex_both h1 h2];exact aaU
 have hlong:¬ Builtin.List.listTooLong (its.toArray.size*k.toNat)=true:=by
  rw[vm hlen];exact aaU
 have hnew:List.foldl (λx1 x2=>x1++x2) #[] (List.replicate (if its.toArray.isEmpty=true then 0 else k.toNat) its.toArray)=(List.replicate k.toNat its).flatten.toArray:=by
  have f0:∀m:Nat,List.foldl (λx1 x2=>x1++x2) #[] (List.replicate m its.toArray)=(List.replicate m its).flatten.toArray:=λm=>by
   have:=foldl_rep its m [];rw[acY]at this;exact this
  rw[f0];cases its with
  |nil=>simp|cons a r'=>rw[aaa (by simp)]
 refine adW (T:="list") (U:="int") (by decide) ⟨_,e,rfl⟩ (λs'=>aet s' k t) noFill_list_mul F.fills_int_mul adE repeat_list F.slot_int_index.lookup
  (acv adE (aet s k t) F.entry_int_rmul (F.args_int_rmul_2 _ _) (int___rmul___int_list k t l its.toArray n)
   ⟨e,rfl,⟨_,e,rfl⟩,acv F.slot_list_mul ⟨_,e,rfl⟩ F.entry_list_mul (F.args_list_mul_2 _ _) (AutoListH.list___mul___list_int_3 l its.toArray n k t hfit hcap hlong) ⟨e,?_⟩⟩)
 rw[hnew];exact⟨.ref _,_,I.lnew (t':=s.toks) (r.rep k.toNat) (by rw[len_rep,adb];exact hz),rfl,q _ I.fresh⟩
end
section
variable{prog:Program}{w:World}{A:Around}{E:Value->Shared->Prop}{s:Shared}
set_option maxRecDepth 100000 in
end
section
variable{X:Cx}
end
end L2
namespace Att
open PySem PySem.W PySem.Calls PyProof.Rows
theorem uo{P:Params}{h:Heap}:∀(ns:List Int)(vs:List Value),WellAll P h vs (ns.map WData.int)->IntsAre vs ns:=by
 intro ns;induction ns with
 |nil=>
   intro vs w;rw[aa4]at w;cases w;exact .nil
 |cons n ns ih=>
   intro vs w;rw[ZD]at w;cases w with
   |cons a b=>
     cases a;exact .cons _ _ (ih _ b)
theorem JZ{l:OpenLaw}{n:Nat}(hn:l.most=some n){P:Params}{h:Heap}{args:List WData}{vals:List Value}
 (hpre:l.row.toRowW.claim.pre args=true) (hwl:WellAll P h vals args):
 ∃a vs ns,vals=[Value.ref a]/\args=[WData.list (ns.map WData.int)]/\h.get? a=some {cls:=.type "list",data:=.seq vs.toArray}/\IntsAre vs ns/\ns.length<=n:=by
 have hsh:WShape.hasAll [] args [.list .int]=true:=(pre_splitW hpre).1;have hc:l.pre.holds [] {args:=args}=true:=(pre_splitW hpre).2;obtain⟨d,r,rfl,h1,h2⟩:=hasAllW_cons hsh;obtain rfl:=hasAllW_nil h2;obtain⟨xs,rfl,h3⟩:=hasW_list h1;obtain⟨ns,rfl⟩:=items_int h3;have hlen:ns.length<=n:=by
  unfold OpenLaw.pre at hc;have h4:(WTm.not (.lt (.lit (.int (n:Int))) (.len (.arg 0)))).holds [] {args:=[.list (ns.map .int)]}=true:=by
   have h4:=(holds_andW hc).1;rw[hn]at h4;exact h4
  have h5:=condW_of h4 (w_not (w_lt w_lit (w_len_list (w_arg rfl))));rw[ZK]at h5;refine Nat.le_of_not_lt λq=>?_;have q':(n:Int)<((ns.length:Nat):Int):=by omega
  first
   |(rw[aby q']at h5;exact absurd h5 (by decide))
   |(simp at h5;omega)
 cases hwl with
 |cons w1 w2=>
   cases w2;cases w1 with
   |list ho hall=>exact⟨_,_,ns,rfl,rfl,ho,uo ns _ hall,hlen⟩
theorem Ka(l:OpenLaw)(args:List WData):l.row.toRowW.claim.post args (.bool true) args=true:=
 postW_of (r:=l.row.toRowW) (X:=(true==true))
  (show WShape.has [] (.bool true) .bool=true by first|rfl|decide|simp[WShape.has,WShape.arms,WShape.armsAll])
  (show(WTm.eq .res (.lit (.bool true))).value [] {args:=args,res:=some (.bool true),after:=args}=some (.bool (true==true))from w_eq_bool (w_res rfl) w_lit) rfl
theorem attach_call{l:OpenLaw}{n:Nat}{q:Program}{loose:List Str}{XP:(Str->Option Value)->Heap->Prop}{YP:World->Heap->Prop}{d:DefRec}
 (hn:l.most=some n) (hdf:d.params.defaults=[])
 (call:∀(w:World)(s₀ s₁:Shared)(mg mb:Str->Option Value)(fa:Addr)(o:Obj)(pm cd doc:Value)(a:Addr)(vs:List Value)(ns:List Int),
  Ground q loose [] XP w s₀ mg mb s₁.heap->YP w s₁.heap->
  s₁.heap.get? fa=some o->o.data=.func (docDef d.name d.params d.body d.scope pm cd doc)->s₁.heap.CodeRec cd d.name->mg d.name=some (.ref fa)->
  s₁.heap.get? a=some {cls:=.type "list",data:=.seq vs.toArray}->IntsAre vs ns->ns.length<=n->s₁.gens=#[]->
  codeAny (model l.prog w) callerA (.call (.ref fa) ⟨[.ref a],[]⟩) (λr s'=>r=.ok (.ret (.bool true))/\OldK s₁.heap s'.heap/\s'.os=s₁.os/\AllBare s'.gens) s₁):
 WalkO q loose XP YP l.row.toRowW d [] (λf vs=>PySem.call f vs):=by
 intro w s₀ s₁ mg mb G Y fa o pm cd doc dV kV ho hd hcd hD hmg hg args vals as hpre hlay hrd hwl hlo;obtain rfl:dV=.none:=Dflts.none hD hdf;obtain rfl:kV=.none:=Dflts.noKw hD;obtain⟨a,vs,ns,rfl,rfl,hobj,hints,hlen⟩:=JZ hn hpre hwl;refine enter_call (ac8 (call w s₀ s₁ mg mb fa o pm cd doc a vs ns G Y ho (fd_plain hd) hcd hmg hobj hints hlen hg) λr s' hq=>?_);obtain⟨rfl,h2,h3,h4⟩:=hq;exact⟨.inl ⟨.bool true,.bool true,[],rfl,λ_=>rfl,.bool true,Ka l _,λ_=>⟨List.Pairwise.nil,λ_ hm=>(nomatch hm)⟩⟩,h2,h3,h4⟩
section
variable{prog:Program}{w:World}{A:Around}{E:Value->Shared->Prop}{s:Shared}{K:Frag}
end
end Att
namespace L2
open PySem PySem.Spec PyProof.Rows
theorem wX:∀{vs:List Value}{ns:List Int},IntsAre vs ns->Vals (ns.map V.int) vs
 |_,_,.nil=>.nil|_,_,.cons n t h=>.cons ⟨t,rfl⟩ (wX h)
def Only(H:Hp):Prop:=∀b,H b=none\/∃o xs,H b=some (.frz o (.lst xs))
theorem Om{P:Program}{w:World}{K:PySem.W.Frag}{mg mb:Str->Option Value}{CX:QL}{k:Nat}{fa a:Addr}{fd:FuncData}{x:Str}{sp:Sp}{s₁:Shared}{vs:List Value}{ns:List Int}
 (KX:K.In s₁.heap) (hns:s₁.heap.Ns mainGlobals mg) (hb:s₁.heap.Ns builtinsNs mb) (hbb:∀x:Str,x≠"__name__"->mb x=bootBuiltins x) (hlim:s₁.heap.NoLimit) (hg:s₁.gens=#[])
 (ha:s₁.heap.get? a=some {cls:=.type "list",data:=.seq vs.toArray}) (hi:IntsAre vs ns) (hl:ns.length<=sizeLine) (hr:Room k callerA)
 (F:∀base:Heap,K.In base->base.Ns mainGlobals mg->mQ P w K mg base CX k fa fd [x] sp) (hbind:∀(s:Shared)(u:Value),BindsTo s fd ⟨[u],[]⟩ [(x,u)])
 (hsp:∀H:Hp,Only H->SqL K H a (ns.map V.int)->sp [.ref a] H (λv _=>v=.bl true) λ_ _ _=>False)
 (hCX:∀H e s',CX [] H s₁ (λ_ _ _=>False) e s'->False):
 codeAny (model P w) callerA (.call (.ref fa) ⟨[.ref a],[]⟩) (λr s'=>r=.ok (.ret (.bool true))/\OldK s₁.heap s'.heap/\s'.os=s₁.os/\AllBare s'.gens) s₁:=by
 have rv:=wX hi;have lenV:=hi.length;have core:∀H:Hp,Only H->SqL K H a (ns.map V.int)->HOk P w H s₁.heap->(∀b,H b≠none->b=a)->(H a≠none->K.lookup a=none)->
  codeAny (model P w) callerA (.call (.ref fa) ⟨[.ref a],[]⟩) (λr s'=>r=.ok (.ret (.bool true))/\OldK s₁.heap s'.heap/\s'.os=s₁.os/\AllBare s'.gens) s₁:=by
  intro H hO hS hok hA hK;have base_of:∀{b:Addr}{o:Obj},s₁.heap.get? b=some o->H b=none->(zu s₁.heap H).get? b=some o:=λe n=>O2 e n;have noA:∀{b:Addr}{o:Obj}{es:Array DictEntry}{ep:Nat},s₁.heap.get? b=some o->o.data=.dict es ep->H b=none:=λ{b o es ep} e d=>by
   cases q:H b with
   |none=>rfl|some u=>
     have e':b=a:=hA b (by rw[q];simp);subst e';rw[ha]at e;cases e;have d':Data.seq vs.toArray _=Data.dict es ep:=d;cases d'
  have nsK:∀{b:Addr}{m:Str->Option Value},s₁.heap.Ns b m->(zu s₁.heap H).Ns b m:=λ{b m} ⟨o,es,ep,e,d,r⟩=>⟨o,es,ep,base_of e (noA e d),d,r⟩;have hKb:K.In (zu s₁.heap H):=λb o e=>base_of (KX b o e) (by
   cases q:H b with
   |none=>rfl|some u=>
     have e':b=a:=hA b (by rw[q];simp);subst e';rw[hK (by rw[q];simp)]at e;cases e)
  have hM:Mod K mg (zu s₁.heap H):=⟨hKb,nsK hns,⟨mb,nsK hb,hbb⟩,let ⟨mc,h1,h2⟩:=hlim;⟨mc,nsK h1,h2⟩⟩;have e0:TQ P w K mg (zu s₁.heap H) callerA [] s₁ H:=⟨rfl,hM,λb o e=>R3 e,acw (KD _ _),trivial,λb hb=>absurd (show b∈([]:List Addr)from hb) (by simp),hok,.of_eq hg⟩;refine ac8 ((F _ hKb (nsK hns)).run callerA [] s₁ H ⟨[.ref a],[]⟩ [.ref a] [.ref a] _ _ hr e0 (hbind s₁ (.ref a)) (.cons rfl .nil) (hsp H hO hS)) λr s' h=>?_;cases r with
  |error e=>exact(hCX H e s' h).elim|ok fl=>
    cases fl with
    |next=>exact False.elim h
    |brk=>exact False.elim h|cont=>exact False.elim h|ret u=>
      obtain⟨v,H',os,bare,un,hok',r',q⟩:=h;have q':v=.bl true:=q;subst q';obtain rfl:u=Value.bool true:=r';refine⟨rfl,OldK.of_keep λb o e=>?_,os,bare⟩;cases q:H b with
      |none=>exact un.keep b o e q (by intro z;exact absurd (show b∈([]:List Addr)from z) (by simp)) (by simp)|some u=>
        rcases hO b with z|⟨ob,xs,z⟩
        ·rw[q]at z;cases z
        ·have z2:=un.frzs b ob _ z;obtain⟨e1,_⟩:=hok b _ z;obtain⟨e2,_⟩:=hok' b _ z2;rw[e]at e1;cases e1;exact e2
 cases hk:K.lookup a with
 |some o=>
   have e:=KX a o hk;rw[ha]at e;cases e;refine core (λ_=>none) (λ_=>.inl rfl) (.inr ⟨_,vs.toArray,_,hk,rfl,rfl,rfl,by rw[ZJ,lenV];exact hl,by simpa using rv⟩) (λb u z=>by have z':(none:Option HO)=some u:=z;cases z') (λb z=>absurd rfl z) λz=>absurd rfl z
 |none=>
   refine core (λb=>if b=a then some (.frz {cls:=.type "list",data:=.seq vs.toArray} (.lst (ns.map V.int)))else none) (λb=>?_) (.inl (.inr ⟨{cls:=.type "list",data:=.seq vs.toArray},ZZ rfl⟩)) (λb u z=>?_) (λb z=>?_) λ_=>hk
   ·by_cases hb:b=a
    ·exact .inr ⟨_,_,ZZ hb⟩
    ·exact .inl (aaa hb)
   ·by_cases hb:b=a
    ·have z':=(ZZ hb).symm.trans z;cases z';subst hb;exact⟨ha,by rw[ZK];exact hl,vs,_,rv,ha⟩
    ·have z':=(aaa hb).symm.trans z;cases z'
   ·by_cases hb:b=a
    ·exact hb
    ·exact absurd (aaa hb) z
theorem walk_of{l:PySem.W.OpenLaw}{n k:Nat}{q:Program}{loose:List Str}{XP:(Str->Option Value)->Heap->Prop}{YP:World->Heap->Prop}{d:DefRec}{K:Params->PySem.W.Frag}{CX:World->QL}{sp:World->Sp}{x:Str}
 (hn:l.most=some n) (hn2:n<=sizeLine) (hdf:d.params.defaults=[]) (hr:Room k callerA)
 (hY:∀(w:World)(h:Heap),YP w h->(K w.params).In h)
 (F:∀(w:World)(mg:Str->Option Value)(fa:Addr)(h:Heap),(K w.params).In h->h.Ns mainGlobals mg->mg d.name=some (.ref fa)->
  ∃fd:FuncData,(∀(s:Shared)(u:Value),BindsTo s fd ⟨[u],[]⟩ [(x,u)])/\
   ∀base:Heap,(K w.params).In base->base.Ns mainGlobals mg->mQ l.prog w (K w.params) mg base (CX w) k fa fd [x] (sp w))
 (hsp:∀(w:World)(H:Hp)(a:Addr)(ns:List Int),ns.length<=n->Only H->SqL (K w.params) H a (ns.map V.int)->sp w [.ref a] H (λv _=>v=.bl true) λ_ _ _=>False)
 (hCX:∀(w:World)(H:Hp)(s:Shared)(e:Value)(s':Shared),CX w [] H s (λ_ _ _=>False) e s'->False):
 PySem.W.WalkO q loose XP YP l.row.toRowW d [] (λf vs=>PySem.call f vs):=by
 refine Att.attach_call hn hdf λw s₀ s₁ mg mb fa o pm cd doc a vs ns G Y ho hd hcd hmg hobj hints hlen hg=>?_;have KX:=hY w _ Y;obtain⟨fd,hb,hF⟩:=F w mg fa _ KX G.T.g hmg;exact Om KX G.T.g G.T.b G.T.builtins G.T.nolimit hg hobj hints (aaV hlen hn2) hr hF hb (λH hO hS=>hsp w H a ns hlen hO hS) λH e s'=>hCX w H s₁ e s'
noncomputable def oN(s:Stmt):Arguments:=match s with
 |.FunctionDef _ a _ _ _ _ _ _ _ _=>a|_=>{posonlyargs:=[],args:=[],vararg:=none,kwonlyargs:=[],kw_defaults:=[],kwarg:=none,defaults:=[]}
noncomputable def gm(s:Stmt):List Stmt:=match s with
 |.FunctionDef _ _ b _ _ _ _ _ _ _=>b|_=>[]
noncomputable def aH(s:Stmt):Scope:=match s with
 |.FunctionDef _ _ _ _ _ _ sc _ _ _=>sc|_=>{kind:=.function,names:=[],isGenerator:=false,isCoroutine:=false}
abbrev uE:QL:=λ_ _ _ _ _ _=>False
abbrev E0:XK:=λ_ _ _=>False
theorem xE{X:Cx}:G7 uE X E0:=λ_ _ _ _ _ _ _ h=>h.elim
structure Fun(K:PySem.W.Frag)(x qual:Str)(st:Stmt)(f:Addr)(fd:FuncData):Prop where
 ex:∃(oc:Value)(od:Option Addr)(kV doc pm:Value)(an:Option Addr)(cdv ct:Value)(osl:Array (Option Value)),
  fd=PySem.W.fnOf x qual (oN st) (gm st) (aH st) .none kV doc pm an cdv ct/\K.lookup f=some ⟨oc,od,.func fd,osl⟩/\PySem.W.codeIn K cdv qual=true
 kp:PySem.W.keepIn K (.ref f)=true
section
variable{P:Program}{w:World}{K:PySem.W.Frag}{mg:Str->Option Value}{base:Heap}
theorem Fun.ok{x qual:Str}{st:Stmt}{f:Addr}{fd:FuncData}{N ps:List Str}{k:Nat}{sp:Sp}(F:Fun K x qual st f fd)(S:ig N ps (aH st))(len:∀vs H Q E,sp vs H Q E->vs.length=ps.length)
 (hbody:∀(cdv:Value)(A:Around)(outer:List Env)(s:Shared)(H:Hp)(vs:List V)(Q:VK)(E:XK),Room k (A.deeper (envOfC qual (aH st) s.heap.objs.size f cdv))->sp vs H Q E->
  ∃t,PSs (tK uE P w K mg base N qual (aH st) f cdv A outer s H E).nox (gm st) t/\t {nx:=λ_ H'=>Q .non H',rt:=Q} (start N vs) H):mQ P w K mg base uE (k+1) f fd ps sp:=by
 obtain⟨oc,od,kV,doc,pm,an,cdv,ct,osl,rfl,lk,hcd⟩:=F.ex;refine XJ lk hcd S len λA outer s H vs Q E hr hsp=>?_;obtain⟨t,h,q⟩:=hbody cdv A outer s H vs Q E hr hsp;exact⟨t,h.nox,q⟩
theorem Fun.binds{x qual:Str}{st:Stmt}{f:Addr}{fd:FuncData}{ps:List Str}(F:Fun K x qual st f fd)
 (h:∀(kV doc pm:Value)(an:Option Addr)(cdv ct:Value)(us:List Value),us.length=ps.length->bindArgs (PySem.W.fnOf x qual (oN st) (gm st) (aH st) .none kV doc pm an cdv ct) ⟨us,[]⟩=pure (ps.zip us)):Binds K fd ps []:=by
 obtain⟨oc,od,kV,doc,pm,an,cdv,ct,osl,rfl,lk,hcd⟩:=F.ex;exact .all (h kV doc pm an cdv ct)
theorem V0{x qual:Str}{st:Stmt}{f:Addr}{oc:Value}{od an:Option Addr}{osl:Array (Option Value)}{kV doc pm cdv ct:Value}(l:K.lookup f=some ⟨oc,od,.func (PySem.W.fnOf x qual (oN st) (gm st) (aH st) .none kV doc pm an cdv ct),osl⟩)
 (c:PySem.W.codeIn K cdv qual=true) (k:PySem.W.keepIn K (.ref f)=true):Fun K x qual st f (PySem.W.fnOf x qual (oN st) (gm st) (aH st) .none kV doc pm an cdv ct):=⟨⟨oc,od,kV,doc,pm,an,cdv,ct,osl,rfl,l,c⟩,k⟩
end
section
variable{X:Cx}
theorem pv(i:Nat){x:Str}{pos:Pos}(hN:X.N[i]? = some x:=by rfl)(hv:X5 X.env.scope x:=by first|exact Or.inl rfl|exact Or.inr (Or.inl rfl)|exact Or.inr (Or.inr rfl))(hd:(x==("__debug__":Str))=false:=by decide)
 (hcd:(x==("__classdict__":Str))=false:=by decide):PE X (.Name x pos) (fC i):=Vo hN hv hd hcd
end
theorem Kw{A B:Prop}(h:B):if false=true then A else B:=by
 rw[aaa aaU];exact h
theorem Kv{A B:Prop}(h:A):if true=true then A else B:=by
 rw[ZZ rfl];exact h
def Same(H H':Hp):Prop:=∀b o,H b=some o->H' b=some o
theorem Same.refl(H:Hp):Same H H:=λ_ _ h=>h
theorem Same.trans{H H1 H2:Hp}(a:Same H H1)(b:Same H1 H2):Same H H2:=λc o h=>b c o (a c o h)
theorem Same.free{H H':Hp}(e:Same H H'){l:Addr}(h:H' l=Option.none):H l=Option.none:=by
 cases q:H l with
 |none=>rfl|some o=>
   rw[e l o q]at h;cases h
theorem Same.seq{K:PySem.W.Frag}{H H':Hp}{a:Addr}{xs:List V}(e:Same H H')(h:SqL K H a xs):SqL K H' a xs:=by
 rcases h with(h|⟨o,h⟩)|h
 ·exact .inl (.inl (e _ _ h))
 ·exact .inl (.inr ⟨o,e _ _ h⟩)
 ·exact .inr h
end L2
namespace DL
open PySem
inductive D where
 |non|bl (b:Bool)|int (i:Int)|str (x:Str)|tup (ds:List D)|lst (ds:List D)|dic (t:Bool) (ks vs:List D)
abbrev Ev:=List (Option D)
inductive Rs where
 |nx (δ:Ev)|rt (d:D)|bk (δ:Ev)|ct (δ:Ev)|ex
abbrev ME:=Ev->Option D
abbrev MT:=Ev->Option Bool
abbrev MA:=Ev->Option (List D)
abbrev MS:=Ev->Option Rs
abbrev MG:=D->Ev->Option Ev
abbrev QH:=List D->Ev->Option Ev
abbrev MI:=Ev->Option (List D)
abbrev MF:=List D->Option D
noncomputable def slot{α:Type}(δ:List (Option α))(i:Nat):Option α:=(δ[i]?).getD none
def ak(i:Nat):ME:=λδ=>slot δ i
noncomputable def eC(d:D):ME:=λ_=>some d
noncomputable def aK(f:D->D->Option D)(a b:ME):ME:=λδ=>(a δ).bind λx=>(b δ).bind λy=>f x y
noncomputable def rR(f:D->Option D)(a:ME):ME:=λδ=>(a δ).bind f
noncomputable def az:MA:=λ_=>some []
noncomputable def aj(a:ME)(r:MA):MA:=λδ=>(a δ).bind λx=>(r δ).bind λxs=>some (x::xs)
noncomputable def au(f:MF)(a:MA):ME:=λδ=>(a δ).bind f
noncomputable def dw(a:MA):ME:=λδ=>(a δ).bind λxs=>some (.tup xs)
noncomputable def gD(a:MA):ME:=λδ=>(a δ).bind λxs=>some (.lst xs)
noncomputable def Gp(a b:ME):ME:=λδ=>(a δ).bind λx=>match x with|.bl true=>b δ|.bl false=>some (.bl false)|_=>none
noncomputable def truth:D->Option Bool
 |.non=>some false|.bl b=>some b|.int i=>some (i != 0)|.str _=>none|.tup ds=>some (!ds.isEmpty)|.lst ds=>some (!ds.isEmpty)|.dic _ _ _=>none
def tV(a:ME):MT:=λδ=>(a δ).bind truth
noncomputable def yG(a b:MT):MT:=λδ=>(a δ).bind λk=>if k=true then b δ else some false
noncomputable def Q8(a b:MT):MT:=λδ=>(a δ).bind λk=>if k=true then some true else b δ
noncomputable def qt(a:MT):MT:=λδ=>(a δ).bind λk=>some (!k)
def oJ(f g:D->D->Option D)(a b c:ME):ME:=λδ=>(a δ).bind λx=>(b δ).bind λy=>(f x y).bind λz=>match z with
 |.bl true=>(c δ).bind λu=>g y u|.bl false=>some (.bl false)|_=>none
def oI(g:Int->Int->Option D):D->D->Option D
 |.int i,.int j=>g i j|_,_=>none
noncomputable def small(i:Int):Bool:=decide (-(2^64)<i)&&decide (i<2^64)
noncomputable def bO:D->D->Option D
 |.int i,.int j=>some (.int (i+j))|.lst xs,.lst ys=>if xs.length+ys.length<=16777216 then some (.lst (xs++ys))else none
 |.tup xs,.tup ys=>if xs.length+ys.length<=16777216 then some (.tup (xs++ys))else none
 |.str x,.str y=>if x.length+y.length<=16777216 then some (.str (x++y))else none
 |_,_=>none
def iW:D->D->Option D:=oI λi j=>some (.int (i-j))
def cA:D->D->Option D
 |.int i,.int j=>if(small j||small i)=true then some (.int (i*j))else none
 |.tup xs,.int k=>if(decide (0<k)&&decide (k<=1000)&&decide (0<xs.length)&&decide (xs.length<=1000))=true then some (.tup (List.replicate k.toNat xs).flatten)else none
 |_,_=>none
def oMod:D->D->Option D:=oI λi j=>if 0<j then some (.int (i%j))else none
def vh:D->D->Option D:=oI λi j=>if 0<j/\j<1073741824 then some (.int (i/j))else none
def oLt:D->D->Option D:=oI λi j=>some (.bl (decide (i<j)))
def oLe:D->D->Option D:=oI λi j=>some (.bl (decide (i<=j)))
def R4:D->D->Option D:=oI λi j=>some (.bl (decide (j<i)))
def Yg:D->D->Option D:=oI λi j=>some (.bl (decide (j<=i)))
noncomputable def UG:D->Option D
 |.int i=>some (.int (-i))|_=>none
mutual
def dW:D->D->Bool
 |.non,.non=>true|.bl a,.bl b=>a==b|.int a,.int b=>a==b|.bl a,.int b=>(if a then 1 else 0)==b
 |.int a,.bl b=>a==(if b then 1 else 0)
 |.str a,.str b=>a==b|.tup as,.tup bs=>il as bs|.lst as,.lst bs=>il as bs|.dic t ks vs,.dic u ls ws=>t==u&&il ks ls&&il vs ws|_,_=>false
def il:List D->List D->Bool
 |[],[]=>true|a::as,b::bs=>dW a b&&il as bs|_,_=>false
end
mutual
def bY:D->Nat
 |.tup ds=>dh ds+1|.lst ds=>dh ds+1|.dic _ _ _=>31|_=>0
def dh:List D->Nat
 |[]=>0|d::ds=>max (bY d) (dh ds)
end
def oEq(a b:D):Option D:=if bY a<=30/\bY b<=30 then some (.bl (dW a b))else none
def um(a b:D):Option D:=if bY a<=30/\bY b<=30 then some (.bl (!dW a b))else none
def YF:D->D->Option D
 |x,.tup ys=>if dh ys<=30/\bY x<=30 then some (.bl (ys.any λy=>dW y x))else none
 |x,.lst ys=>if dh ys<=30/\bY x<=30 then some (.bl (ys.any λy=>dW y x))else none
 |.str x,.str y=>some (.bl (!(Builtin.Str.occurrences y x 0 y.length 1).isEmpty))|_,_=>none
noncomputable def uz(n:Nat)(i:Int):Option Nat:=if 0<=i then(if i<n then some i.toNat else none)else if -(n:Int)<=i then some (i+n).toNat else none
def cz:D->D->Option D
 |.tup xs,.int i=>(uz xs.length i).bind λj=>xs[j]?|.lst xs,.int i=>(uz xs.length i).bind λj=>xs[j]?|.str x,.int i=>if x.length<=16777216 then(uz x.cps.toList.length i).bind λj=>x.cps.toList[j]?.bind λc=>some (.str ⟨#[c]⟩)else none
 |_,_=>none
noncomputable def Zm(k:Nat):D->Option D
 |.tup xs=>some (.tup (xs.take k))|.lst xs=>some (.lst (xs.take k))|_=>none
noncomputable def fB:MF:=λds=>match ds with
 |[.tup xs]=>some (.int xs.length)|[.lst xs]=>some (.int xs.length)|[.str x]=>if x.length<=16777216 then some (.int x.length)else none
 |_=>none
noncomputable def Zc:MF:=λds=>match ds with|[.tup xs]=>some (.lst xs)|[.lst xs]=>some (.lst xs)|_=>none
noncomputable def dJ:MF:=λds=>match ds with|[.tup xs]=>some (.tup xs)|[.lst xs]=>some (.tup xs)|_=>none
noncomputable def allB:List D->Option Bool
 |[]=>some true|.bl b::r=>(allB r).bind λk=>some (b&&k)|_=>none
def SX:MF:=λds=>match ds with|[.lst xs]=>(allB xs).bind λk=>some (.bl k)|_=>none
noncomputable def gN(i:Nat):MG:=λd δ=>some (δ.set i (some d))
noncomputable def dB:QH:=λds δ=>match ds with|[]=>some δ|_::_=>none
def aP(g:MG)(gs:QH):QH:=λds δ=>match ds with|d::r=>(g d δ).bind λδ'=>gs r δ'|[]=>none
noncomputable def gT(gs:QH):MG:=λd δ=>match d with|.tup ds=>gs ds δ|_=>none
noncomputable def cC(a:ME):MI:=λδ=>(a δ).bind λd=>match d with|.tup ds=>some ds|.lst ds=>some ds|_=>none
noncomputable def dN(n:Nat):List D:=(List.range n).map λ(i:Nat)=>D.int i
def dR(a:ME):MI:=λδ=>(a δ).bind λd=>match d with|.int j=>if -1073741824<j/\j<1073741824 then some (dN j.toNat)else none|_=>none
noncomputable def cG:Nat->List D->List D
 |_,[]=>[]|k,d::r=>.tup [.int k,d]::cG (k+1) r
def rD(a:ME):MI:=λδ=>(a δ).bind λd=>match d with|.tup ds=>some (cG 0 ds)|.lst ds=>some (cG 0 ds)|_=>none
def pick{α:Type}(k:Nat)(fv:List Nat)(δ:List (Option α)):List (Option α):=List.replicate k none++fv.map (slot δ)
noncomputable def ug(turn:D->Option (Option D)):List D->Option (List D)
 |[]=>some []|x::xs=>(turn x).bind λo=>(ug turn xs).bind λr=>some (match o with|some d=>d::r|none=>r)
def nP(B:Ev->Ev)(i:MI)(g:MG)(c:MT)(e:ME):ME:=λδ=>(i δ).bind λxs=>if xs.length<=16777216 then
 (ug (λx=>(g x (B δ)).bind λδ1=>(c δ1).bind λb=>if b=true then(e δ1).bind λd=>some (some d)else some none) xs).bind λr=>some (.lst r)
 else none
def bM(k:Nat)(fv:List Nat)(i:MI)(g:MG)(c:MT)(e:ME):ME:=λδ=>(i δ).bind λxs=>if xs.length<=16777216 then
 (ug (λx=>(g x (pick k fv δ)).bind λδ1=>(c δ1).bind λb=>if b=true then(e δ1).bind λd=>some (some d)else some none) xs).bind λr=>some (.lst r)
 else none
noncomputable def tT:MT:=λ_=>some true
noncomputable def gC:MS:=λδ=>some (.nx δ)
noncomputable def bw(a b:MS):MS:=λδ=>(a δ).bind λr=>match r with|.nx δ'=>b δ'|r=>some r
noncomputable def m6(c:MT)(a b:MS):MS:=λδ=>(c δ).bind λk=>if k=true then a δ else b δ
noncomputable def bN(a:ME):MS:=λδ=>(a δ).bind λd=>some (.rt d)
def cB(a:ME)(g:MG):MS:=λδ=>(a δ).bind λd=>(g d δ).bind λδ'=>some (.nx δ')
def forM(g:MG)(body:MS):List D->Ev->Option Rs
 |[],δ=>some (.nx δ)|x::xs,δ=>(g x δ).bind λδ1=>(body δ1).bind λr=>match r with
   |.nx δ2=>forM g body xs δ2|.ct δ2=>forM g body xs δ2|.bk δ2=>some (.nx δ2)|.rt d=>some (.rt d)|.ex=>some .ex
def lV(i:MI)(g:MG)(body:MS):MS:=λδ=>(i δ).bind λxs=>forM g body xs δ
noncomputable def wB(c:MT)(b:MS):Nat->Ev->Option Rs
 |0,_=>none|n+1,δ=>(c δ).bind λk=>if k=true then(b δ).bind λr=>match r with
   |.nx δ2=>wB c b n δ2|.ct δ2=>wB c b n δ2|.bk δ2=>some (.nx δ2)|.rt d=>some (.rt d)|.ex=>some .ex
   else some (.nx δ)
open Classical in
def pM(c:MT)(b:MS):MS:=λδ=>if h:∃n r,wB c b n δ=some r then wB c b (Classical.choose h) δ else none
noncomputable def iM(n k:Nat)(m:MS):MF:=λds=>if ds.length=n then(m (ds.map some++List.replicate (k-n) none)).bind λr=>match r with
 |.rt d=>some d|.nx _=>some .non|_=>none
 else none
def ownAt(n i:Nat)(δ:Ev):Option D:=match slot δ i with
 |none=>slot δ (n+i)|some _=>none
noncomputable def lM(n i:Nat)(d:D)(δ:Ev):Ev:=(δ.set i none).set (n+i) (some d)
def jT(n i:Nat)(a:ME):MS:=λδ=>(a δ).bind λd=>some (.nx (lM n i d δ))
def frz(n i:Nat)(δ:Ev):Ev:=match ownAt n i δ with
 |some (.lst ds)=>(δ.set i (some (.lst ds))).set (n+i) none|_=>δ
def Be(n i:Nat)(m:MS):MS:=λδ=>match ownAt n i δ with
 |some (.dic t ks vs)=>m ((δ.set i (some (.dic t ks vs))).set (n+i) none)|_=>none
def frzs(n:Nat):List Nat->Ev->Ev
 |[],δ=>δ|i::r,δ=>frzs n r (frz n i δ)
def Ex(n:Nat)(is:List Nat)(m:MS):MS:=λδ=>m (frzs n is δ)
mutual
def flat:D->Bool
 |.tup ds=>flats ds|.lst _=>false|.dic _ _ _=>false|_=>true
def flats:List D->Bool
 |[]=>true|d::ds=>flat d&&flats ds
end
def KY(n:Nat)(is:List Nat)(a:ME):ME:=λδ=>(a (frzs n is δ)).bind λd=>if flat d=true then some d else none
def Ez(n i:Nat)(a:ME):MS:=λδ=>(a δ).bind λy=>match ownAt n i δ with
 |some (.lst ds)=>if ds.length<16777216 then some (.nx (δ.set (n+i) (some (.lst (ds++[y])))))else none
 |_=>none
theorem Ls(c:MT)(b:MS):∀(n:Nat)(δ:Ev)(r:Rs),wB c b n δ=some r->wB c b (n+1) δ=some r:=by
 intro n;induction n with
 |zero=>intro δ r h;simp[wB]at h|succ n ih=>
   intro δ r h;rw[wB]at h ⊢;cases hc:c δ with
   |none=>rw[hc]at h;simp at h|some k=>
     rw[hc]at h;simp only[Z0]at h ⊢;cases k with
     |false=>simpa using h|true=>
       simp only[abL]at h ⊢;cases hb:b δ with
       |none=>rw[hb]at h;simp at h|some q=>
         rw[hb]at h;simp only[Z0]at h ⊢;cases q with
         |nx δ2=>exact ih _ _ h|ct δ2=>exact ih _ _ h|bk δ2=>exact h|rt d=>exact h|ex=>exact h
theorem Lx{c:MT}{b:MS}{n m:Nat}{δ:Ev}{r:Rs}(h:wB c b n δ=some r)(hm:n<=m):wB c b m δ=some r:=by
 induction hm with
 |refl=>exact h|step _ ih=>exact Ls _ _ _ _ _ ih
theorem xr{c:MT}{b:MS}{n:Nat}{δ:Ev}{r:Rs}(h:wB c b n δ=some r):pM c b δ=some r:=by
 have hx:∃n r,wB c b n δ=some r:=⟨n,r,h⟩;unfold pM;rw[dif_pos hx];obtain⟨r',h'⟩:=adl hx;rcases Nat.le_total n (Classical.choose hx)with l|l
 ·exact Lx h l
 ·have:=Lx h' l;rw[h]at this;rw[h',this]
theorem Ew{c:MT}{b:MS}{δ:Ev}{r:Rs}(h:pM c b δ=some r):∃n,wB c b n δ=some r:=by
 unfold pM at h;split at h
 ·exact⟨_,h⟩
 ·cases h
theorem Dr{turn:D->Option (Option D)}(f:D->Option D):∀(xs:List D),(∀x∈xs,turn x=some (f x))->ug turn xs=some (xs.filterMap f)
 |[],_=>rfl|x::xs,h=>by
   rw[ug,h x ZF,Dr f xs λy hy=>h y (Zy _ hy)];simp only[Z0,aaJ];cases f x<;>rfl
theorem ou{α:Type}{δ:List (Option α)}{i:Nat}{d:α}(h:slot δ i=some d):δ[i]? = some (some d):=by
 unfold slot at h;cases e:δ[i]? with
 |none=>rw[e]at h;cases h|some o=>rw[e]at h;exact aaS some h
mutual
theorem jO:∀d:D,dW d d=true
 |.non=>rfl|.bl _=>by simp[dW]|.int _=>by simp[dW]|.str _=>by simp[dW]|.tup ds=>by simp only[dW];exact lD ds|.lst ds=>by simp only[dW];exact lD ds|.dic t ks vs=>by simp only[dW,lD ks,lD vs,ab0];rfl
theorem lD:∀ds:List D,il ds ds=true
 |[]=>by simp[il]|d::ds=>by simp[il,jO d,lD ds]
end
theorem jN:∀(ds es:List D),((List.range (min ds.length es.length)).all (λj=>dW (ds.getD j .non) (es.getD j .non))&&ds.length==es.length)=il ds es
 |[],[]=>by simp[il]|[],_::_=>by simp[il]|_::_,[]=>by simp[il]|d::ds,e::es=>by
   have ih:=jN ds es;have hm:min (ds.length+1) (es.length+1)=min ds.length es.length+1:=by omega
   have hb:(ds.length+1==es.length+1)=(ds.length==es.length):=by simp
   simp only[Z2,hm,hb,aeu,aeY,List.all_map,List.getD_cons_zero,il,<-ih,Bool.and_assoc];rfl
theorem depDs_le{n:Nat}:∀{ds:List D},dh ds<=n↔∀d∈ds,bY d<=n
 |[]=>by simp[dh]|d::ds=>by
   have:=depDs_le (n:=n) (ds:=ds);simp only[dh,ZP,forall_eq_or_imp,<-this];omega
theorem bZ{n k:Nat}{m:MS}{ds:List D}{r:D}(hl:ds.length=n)(h:m (ds.map some++List.replicate (k-n) none)=some (.rt r)):iM n k m ds=some r:=by
 unfold iM;rw[ZZ hl,h];rfl
theorem aO{a b:MS}{δ δ':Ev}(h:a δ=some (.nx δ')):bw a b δ=b δ':=by unfold bw;rw[h];rfl
theorem uM{a b:MS}{δ:Ev}{d:D}(h:a δ=some (.rt d)):bw a b δ=some (.rt d):=by unfold bw;rw[h];rfl
theorem KC{c:MT}{a b:MS}{δ:Ev}(h:c δ=some true):m6 c a b δ=a δ:=by unfold m6;rw[h];rfl
theorem Gh{c:MT}{a b:MS}{δ:Ev}(h:c δ=some false):m6 c a b δ=b δ:=by unfold m6;rw[h];rfl
theorem bQ{a:ME}{δ:Ev}{d:D}(h:a δ=some d):bN a δ=some (.rt d):=by unfold bN;rw[h];rfl
theorem bI{a:ME}{g:MG}{δ δ':Ev}{d:D}(h:a δ=some d)(hg:g d δ=some δ'):cB a g δ=some (.nx δ'):=by unfold cB;rw[h];simp[hg]
theorem gM{a:ME}{δ:Ev}{d:D}{b:Bool}(h:a δ=some d)(hb:truth d=some b):tV a δ=some b:=by unfold tV;rw[h];exact hb
theorem yF{a:MT}{δ:Ev}{b:Bool}(h:a δ=some b):qt a δ=some (!b):=by unfold qt;rw[h];rfl
theorem Em{a c:MT}{δ:Ev}{x y:Bool}(h:a δ=some x)(hc:c δ=some y):Q8 a c δ=some (x||y):=by
 unfold Q8;rw[h];cases x<;>simp[hc]
theorem bu{f:D->D->Option D}{a b:ME}{δ:Ev}{x y:D}(h:a δ=some x)(hb:b δ=some y):aK f a b δ=f x y:=by unfold aK;rw[h,hb];rfl
theorem wY{f:D->Option D}{a:ME}{δ:Ev}{x:D}(h:a δ=some x):rR f a δ=f x:=by unfold rR;rw[h];rfl
theorem XS(f:MF)(a:ME)(δ:Ev):au f (aj a az) δ=(a δ).bind λx=>f [x]:=by
 simp only[au,aj,az];cases a δ<;>rfl
theorem call2(f:MF)(a b:ME)(δ:Ev):au f (aj a (aj b az)) δ=(a δ).bind λx=>(b δ).bind λy=>f [x,y]:=by
 simp only[au,aj,az];cases a δ<;>cases b δ<;>rfl
theorem XR(f:MF)(a b c:ME)(δ:Ev):au f (aj a (aj b (aj c az))) δ=(a δ).bind λx=>(b δ).bind λy=>(c δ).bind λz=>f [x,y,z]:=by
 simp only[au,aj,az];cases a δ<;>cases b δ<;>cases c δ<;>rfl
theorem aM{f:MF}{a:ME}{δ:Ev}{x:D}(h:a δ=some x):au f (aj a az) δ=f [x]:=by rw[XS,h];rfl
theorem bF{f:MF}{a b:ME}{δ:Ev}{x y:D}(h:a δ=some x)(hb:b δ=some y):au f (aj a (aj b az)) δ=f [x,y]:=by rw[call2,h,hb];rfl
theorem nQ{f:MF}{a b c:ME}{δ:Ev}{x y z:D}(h:a δ=some x)(hb:b δ=some y)(hc:c δ=some z):au f (aj a (aj b (aj c az))) δ=f [x,y,z]:=by rw[XR,h,hb,hc];rfl
theorem cR{k:Nat}{fv:List Nat}{i:MI}{g:MG}{c:MT}{e:ME}{δ:Ev}{xs:List D}(f:D->Option D)(hi:i δ=some xs)(hl:xs.length<=16777216)
 (h:∀x∈xs,∃δ1,g x (pick k fv δ)=some δ1/\((c δ1=some true/\∃d,e δ1=some d/\f x=some d)\/(c δ1=some false/\f x=none))):
 bM k fv i g c e δ=some (.lst (xs.filterMap f)):=by
 unfold bM;rw[hi];simp only[Z0];rw[ZZ hl,Dr f xs λx hx=>?_]
 ·rfl
 ·obtain⟨δ1,e1,h|h⟩:=h x hx
  ·obtain⟨h1,d,h2,h3⟩:=h;rw[e1];simp[h1,h2,h3]
  ·obtain⟨h1,h3⟩:=h;rw[e1];simp[h1,h3]
theorem Gj{g:MG}{body:MS}(P:Ev->Prop):∀(xs:List D)(δ:Ev),P δ->(∀x∈xs,∀δ,P δ->∃δ1 δ2,g x δ=some δ1/\(body δ1=some (.nx δ2)\/body δ1=some (.ct δ2))/\P δ2)->∃δ',forM g body xs δ=some (.nx δ')/\P δ'
 |[],δ,h0,_=>⟨δ,rfl,h0⟩|x::xs,δ,h0,h=>by
   obtain⟨δ1,δ2,e1,e2,h2⟩:=h x ZF δ h0;obtain⟨δ',e3,h3⟩:=Gj P xs δ2 h2 λy hy=>h y (Zy _ hy);refine⟨δ',?_,h3⟩;rw[forM,e1];rcases e2 with e2|e2<;>simp[e2,e3]
theorem dj{i:MI}{g:MG}{body:MS}{δ:Ev}{xs:List D}(hi:i δ=some xs):lV i g body δ=forM g body xs δ:=by unfold lV;rw[hi];rfl
end DL
namespace DL
open PySem PySem.Spec PyProof.Rows L2
noncomputable def kD:Key->D
 |.inl i=>.int i|.inr x=>.str x
def kT(ks:List Key):D:=.tup (ks.map kD)
def DcAt(H:Hp)(a:Addr)(t:Bool)(ks:List D)(xs:List V):Prop:=
 (t=false/\∃kvs:List (Key×V),H a=some (.dK kvs)/\ks=kvs.map (λp=>kD p.1)/\xs=kvs.map (·.2))\/
 (t=true/\∃kvs:List (List Key×V),H a=some (.dT kvs)/\ks=kvs.map (λp=>kT p.1)/\xs=kvs.map (·.2))
def DcF(H:Hp)(a:Addr)(t:Bool)(ks:List D)(xs:List V):Prop:=
 (t=false/\∃(o:Obj)(kvs:List (Key×V)),H a=some (.frz o (.dK kvs))/\ks=kvs.map (λp=>kD p.1)/\xs=kvs.map (·.2))\/
 (t=true/\∃(o:Obj)(kvs:List (List Key×V)),H a=some (.frz o (.dT kvs))/\ks=kvs.map (λp=>kT p.1)/\xs=kvs.map (·.2))
mutual
def Den(K:PySem.W.Frag)(H:Hp):D->V->Prop
 |.non,v=>v=.non|.bl b,v=>v=.bl b|.int i,v=>v=.int i|.str x,v=>v=.str x|.tup ds,v=>∃a xs,v=.ref a/\H a=some (.tup xs)/\Dens K H ds xs|.lst ds,v=>∃a xs,v=.ref a/\SqL K H a xs/\Dens K H ds xs|.dic t ks vs,v=>∃a xs,v=.ref a/\DcF H a t ks xs/\Dens K H vs xs
def Dens(K:PySem.W.Frag)(H:Hp):List D->List V->Prop
 |[],xs=>xs=[]|d::ds,xs=>∃x r,xs=x::r/\Den K H d x/\Dens K H ds r
end
section
variable{K:PySem.W.Frag}{H H':Hp}
theorem U7{a:Addr}{xs:List V}(e:Same H H')(h:SqT K H a xs):SqT K H' a xs:=by
 rcases h with(h|⟨o,h⟩)|h
 ·exact .inl (.inl (e _ _ h))
 ·exact .inl (.inr ⟨o,e _ _ h⟩)
 ·exact .inr h
theorem DcAt.mono{a:Addr}{t:Bool}{ks:List D}{xs:List V}(e:Same H H')(h:DcAt H a t ks xs):DcAt H' a t ks xs:=by
 rcases h with⟨z,kvs,h,r⟩|⟨z,kvs,h,r⟩
 ·exact .inl ⟨z,kvs,e _ _ h,r⟩
 ·exact .inr ⟨z,kvs,e _ _ h,r⟩
theorem DcF.mono{a:Addr}{t:Bool}{ks:List D}{xs:List V}(e:Same H H')(h:DcF H a t ks xs):DcF H' a t ks xs:=by
 rcases h with⟨z,o,kvs,h,r⟩|⟨z,o,kvs,h,r⟩
 ·exact .inl ⟨z,o,kvs,e _ _ h,r⟩
 ·exact .inr ⟨z,o,kvs,e _ _ h,r⟩
mutual
theorem Den.mono(e:Same H H'):∀(d:D)(v:V),Den K H d v->Den K H' d v
 |.non,_,h=>by simp only[Den]at h ⊢;exact h|.bl _,_,h=>by simp only[Den]at h ⊢;exact h|.int _,_,h=>by simp only[Den]at h ⊢;exact h|.str _,_,h=>by simp only[Den]at h ⊢;exact h|.tup ds,_,h=>by
   simp only[Den]at h ⊢;obtain⟨a,xs,e1,h1,h2⟩:=h;exact⟨a,xs,e1,e _ _ h1,Dens.mono e ds xs h2⟩
 |.lst ds,_,h=>by
   simp only[Den]at h ⊢;obtain⟨a,xs,e1,h1,h2⟩:=h;exact⟨a,xs,e1,e.seq h1,Dens.mono e ds xs h2⟩
 |.dic t ks ds,_,h=>by
   simp only[Den]at h ⊢;obtain⟨a,xs,e1,h1,h2⟩:=h;exact⟨a,xs,e1,h1.mono e,Dens.mono e ds xs h2⟩
theorem Dens.mono(e:Same H H'):∀(ds:List D)(xs:List V),Dens K H ds xs->Dens K H' ds xs
 |[],_,h=>by simp only[Dens]at h ⊢;exact h|d::ds,_,h=>by
   simp only[Dens]at h ⊢;obtain⟨x,r,e1,h1,h2⟩:=h;exact⟨x,r,e1,Den.mono e d x h1,Dens.mono e ds r h2⟩
end
theorem Dens.nil:Dens K H [] []:=by simp only[Dens]
theorem Dens.cons{d:D}{ds:List D}{x:V}{xs:List V}(h:Den K H d x)(hs:Dens K H ds xs):Dens K H (d::ds) (x::xs):=by
 simp only[Dens];exact⟨x,xs,rfl,h,hs⟩
theorem Dens.uncons{d:D}{ds:List D}{xs:List V}(h:Dens K H (d::ds) xs):∃x r,xs=x::r/\Den K H d x/\Dens K H ds r:=by
 simpa only[Dens]using h
theorem Dens.unnil{xs:List V}(h:Dens K H [] xs):xs=[]:=by simpa only[Dens]using h
theorem Dens.length:∀{ds:List D}{xs:List V},Dens K H ds xs->ds.length=xs.length
 |[],_,h=>by rw[h.unnil];rfl|d::ds,_,h=>by
   obtain⟨x,r,rfl,_,h2⟩:=h.uncons;simp[h2.length]
theorem Dens.get:∀{ds:List D}{xs:List V}{i:Nat}{d:D},Dens K H ds xs->ds[i]? = some d->∃x,xs[i]? = some x/\Den K H d x
 |[],_,_,_,_,e=>by simp at e|d::ds,_,i,d',h,e=>by
   obtain⟨x,r,rfl,h1,h2⟩:=h.uncons;cases i with
   |zero=>simp at e;subst e;exact⟨x,rfl,h1⟩|succ i=>simpa using h2.get (i:=i) (d:=d') (by simpa using e)
theorem Dens.append:∀{ds es:List D}{xs ys:List V},Dens K H ds xs->Dens K H es ys->Dens K H (ds++es) (xs++ys)
 |[],_,_,_,h,g=>by rw[h.unnil];exact g|d::ds,_,_,_,h,g=>by
   obtain⟨x,r,rfl,h1,h2⟩:=h.uncons;exact .cons h1 (h2.append g)
theorem Dens.flat:∀{ds:List D}{xs:List V}(k:Nat),Dens K H ds xs->Dens K H (List.replicate k ds).flatten (List.replicate k xs).flatten
 |_,_,0,_=>.nil|ds,xs,k+1,h=>by
   rw[abd,abd,abN,abN];exact h.append (h.flat k)
theorem Den.int(i:Int):Den K H (.int i) (.int i):=by simp only[Den]
theorem Den.bl(b:Bool):Den K H (.bl b) (.bl b):=by simp only[Den]
theorem Den.non:Den K H .non .non:=by simp only[Den]
theorem Den.str(x:Str):Den K H (.str x) (.str x):=by simp only[Den]
theorem Den.tup{a:Addr}{ds:List D}{xs:List V}(h:H a=some (.tup xs))(hs:Dens K H ds xs):Den K H (.tup ds) (.ref a):=by
 simp only[Den];exact⟨a,xs,rfl,h,hs⟩
theorem Den.lst{a:Addr}{ds:List D}{xs:List V}(h:SqL K H a xs)(hs:Dens K H ds xs):Den K H (.lst ds) (.ref a):=by
 simp only[Den];exact⟨a,xs,rfl,h,hs⟩
theorem Den.int_inv{i:Int}{v:V}(h:Den K H (.int i) v):v=.int i:=by simpa only[Den]using h
theorem Den.bl_inv{i:Bool}{v:V}(h:Den K H (.bl i) v):v=.bl i:=by simpa only[Den]using h
theorem Den.str_inv{i:Str}{v:V}(h:Den K H (.str i) v):v=.str i:=by simpa only[Den]using h
theorem Den.non_inv{v:V}(h:Den K H .non v):v=.non:=by simpa only[Den]using h
theorem Den.tup_inv{ds:List D}{v:V}(h:Den K H (.tup ds) v):∃a xs,v=.ref a/\H a=some (.tup xs)/\Dens K H ds xs:=by simpa only[Den]using h
theorem Den.tup_sq{ds:List D}{v:V}(h:Den K H (.tup ds) v):∃a xs,v=.ref a/\SqT K H a xs/\Dens K H ds xs:=let ⟨a,xs,e,h1,h2⟩:=h.tup_inv;⟨a,xs,e,.of h1,h2⟩
theorem Den.lst_inv{ds:List D}{v:V}(h:Den K H (.lst ds) v):∃a xs,v=.ref a/\SqL K H a xs/\Dens K H ds xs:=by simpa only[Den]using h
theorem Den.dic{a:Addr}{t:Bool}{ks ds:List D}{xs:List V}(h:DcF H a t ks xs)(hs:Dens K H ds xs):Den K H (.dic t ks ds) (.ref a):=by
 simp only[Den];exact⟨a,xs,rfl,h,hs⟩
theorem Den.dic_inv{t:Bool}{ks ds:List D}{v:V}(h:Den K H (.dic t ks ds) v):∃a xs,v=.ref a/\DcF H a t ks xs/\Dens K H ds xs:=by simpa only[Den]using h
theorem bB{p:Addr}(h:H p=none)(o:HO):Same H (upd H p o):=λb u q=>by rw[aR (bx q h)];exact q
theorem Dens.ints:∀(ns:List Int),Dens K H (ns.map D.int) (ns.map V.int)
 |[]=>.nil|n::ns=>.cons (.int n) (Dens.ints ns)
noncomputable def hide(os:List Addr)(H:Hp):Hp:=λb=>if b∈os then none else H b
noncomputable def Uw:HO->Prop
 |.tup _=>False|_=>True
def Live(os:List Addr)(H:Hp):Prop:=∀a∈os,∃o,H a=some o/\Uw o
section
variable{os:List Addr}{p:Addr}
theorem hide_le:Same (hide os H) H:=λb o e=>by unfold hide at e;split at e;cases e;exact e
theorem hide_nil:hide [] H=H:=by funext b;simp[hide]
theorem aL{b:Addr}(h:b∉os):hide os H b=H b:=by simp[hide,h]
theorem cg{b:Addr}(h:b∈os):hide os H b=none:=by simp[hide,h]
theorem _root_.L2.Same.hd(g:Same H H'):Same (hide os H) (hide os H'):=λb o e=>by
 unfold hide at e ⊢;split at e
 ·cases e
 ·rename_i h;rw[aaa h];exact g b o e
theorem Live.mono(l:Live os H)(g:Same H H'):Live os H':=λa h=>let ⟨o,e,n⟩:=l a h;⟨o,g _ _ e,n⟩
theorem Live.ne(l:Live os H)(h:H p=none):p∉os:=λz=>by obtain⟨o,e,_⟩:=l p z;rw[h]at e;cases e
theorem vN(l:Live os H){xs:List V}(h:H p=some (.tup xs)):hide os H p=some (.tup xs):=by
 rw[aL λz=>?_]
 ·exact h
 ·obtain⟨o,e,n⟩:=l p z;rw[h]at e;cases e;exact n
theorem Cy(l:Live os H)(h:H p=none)(o:HO):hide os (upd H p o) p=some o:=by rw[aL (l.ne h),aY]
theorem Den.newT{ds:List D}{xs:List V}(l:Live os H)(h:H p=none)(d:Dens K (hide os H) ds xs):Den K (hide os (upd H p (.tup xs))) (.tup ds) (.ref p):=.tup (Cy l h _) (d.mono (bB h _).hd _ _)
theorem Den.newL{ds:List D}{xs:List V}(l:Live os H)(h:H p=none)(d:Dens K (hide os H) ds xs):Den K (hide os (upd H p (.lst xs))) (.lst ds) (.ref p):=.lst (.of (Cy l h _)) (d.mono (bB h _).hd _ _)
theorem Den.tup_up{ds:List D}{v:V}(h:Den K (hide os H) (.tup ds) v):∃a xs,v=.ref a/\SqT K H a xs/\Dens K (hide os H) ds xs:=let ⟨a,xs,e,h1,h2⟩:=h.tup_inv;⟨a,xs,e,.of (hide_le _ _ h1),h2⟩
theorem Den.lst_up{ds:List D}{v:V}(h:Den K (hide os H) (.lst ds) v):∃a xs,v=.ref a/\SqL K H a xs/\Dens K (hide os H) ds xs:=let ⟨a,xs,e,h1,h2⟩:=h.lst_inv;⟨a,xs,e,hide_le.seq h1,h2⟩
theorem Den.up{d:D}{v:V}(h:Den K (hide os H) d v):Den K H d v:=h.mono hide_le _ _
theorem Dens.up{ds:List D}{vs:List V}(h:Dens K (hide os H) ds vs):Dens K H ds vs:=h.mono hide_le _ _
end
def Own(K:PySem.W.Frag)(B H:Hp)(a:Addr):D->Prop
 |.lst ds=>∃xs,H a=some (.lst xs)/\Dens K B ds xs|.dic t ks vs=>∃xs,DcAt H a t ks xs/\Dens K B vs xs|_=>False
theorem Own.mono{os:List Addr}{a:Addr}{d:D}(g:Same H H')(h:Own K (hide os H) H a d):Own K (hide os H') H' a d:=by
 cases d with
 |lst ds=>obtain⟨xs,h1,h2⟩:=h;exact⟨xs,g _ _ h1,h2.mono g.hd _ _⟩
 |dic t ks vs=>obtain⟨xs,h1,h2⟩:=h;exact⟨xs,h1.mono g,h2.mono g.hd _ _⟩
 |_=>exact h
structure Sl(X:Cx)(os:List Addr)(H:Hp)(δ:Ev)(σ:L2.St):Prop where
 n:σ.length=X.N.length
 len:X.N.length<=δ.length
 pl:∀(i:Nat)(d:D),i<X.N.length->δ[i]? = some (some d)->∃v,σ[i]? = some (some v)/\Den X.K (hide os H) d v
 ow:∀(i:Nat)(d:D),i<X.N.length->δ[i]? = some none->δ[X.N.length+i]? = some (some d)->∃a,σ[i]? = some (some (.ref a))/\a∈os/\(X.fn ""=true->X.H₀ a=none)/\Own X.K (hide os H) H a d
 inj:∀(i j:Nat)(d e:D)(a:Addr),i<X.N.length->j<X.N.length->δ[i]? = some none->δ[j]? = some none->δ[X.N.length+i]? = some (some d)->δ[X.N.length+j]? = some (some e)->σ[i]? = some (some (.ref a))->σ[j]? = some (some (.ref a))->i=j
 live:Live os H
 keep:Same X.H₀ H
section
variable{os:List Addr}{X:Cx}
theorem Sl.mono{δ:Ev}{σ:L2.St}(e:Same H H')(h:Sl X os H δ σ):Sl X os H' δ σ:=
 ⟨h.n,h.len,λi d l q=>let ⟨v,a,b⟩:=h.pl i d l q;⟨v,a,b.mono e.hd _ _⟩,λi d l q1 q2=>let ⟨a,e1,e2,e4,e3⟩:=h.ow i d l q1 q2;⟨a,e1,e2,e4,e3.mono e⟩,h.inj,h.live.mono e,h.keep.trans e⟩
theorem Sl.set{δ:Ev}{σ:L2.St}{d:D}{v:V}(i:Nat)(hi:i<X.N.length)(h:Sl X os H δ σ)(r:Den X.K (hide os H) d v):Sl X os H (δ.set i (some d)) (σ.set i (some v)):=by
 have hid:i<δ.length:=ZX hi h.len;have ne:∀j,(δ.set i (some d))[j]? = some none->i≠j:=λj q z=>by
  subst z;rw[Z9 hid]at q;cases q
 refine⟨by simpa using h.n,by simpa using h.len,λj d' l q=>?_,λj d' l q1 q2=>?_,λj k d1 d2 a l1 l2 q1 q2 q3 q4 q5 q6=>?_,h.live,h.keep⟩
 ·by_cases hj:i=j
  ·subst hj;rw[Z9 hid]at q;cases q;exact⟨v,by rw[Z9 (by rw[h.n];exact hi)],r⟩
  ·rw[ZQ hj]at q ⊢;exact h.pl j d' l q
 ·have hj:=ne j q1;rw[ZQ hj]at q1 ⊢;rw[ZQ (by omega)]at q2;exact h.ow j d' l q1 q2
 ·have hj:=ne j q1;have hk:=ne k q2;rw[ZQ hj]at q1 q5;rw[ZQ hk]at q2 q6;rw[ZQ (by omega)]at q3;rw[ZQ (by omega)]at q4;exact h.inj j k d1 d2 a l1 l2 q1 q2 q3 q4 q5 q6
end
end
def Fin(K:PySem.W.Frag)(os:List Addr)(H:Hp)(d:D)(Q:VK):Prop:=∀v H',Same H H'->Den K (hide os H') d v->Q v H'
theorem Fin.mono{K:PySem.W.Frag}{os:List Addr}{H H':Hp}{d:D}{Q:VK}(e:Same H H')(h:Fin K os H d Q):Fin K os H' d Q:=λv H2 g r=>h v H2 (e.trans g) r
def DE(X:Cx)(e:Expr)(m:ME):Prop:=∃t:TE,PE X e t/\∀os σ H δ d Q,Sl X os H δ σ->m δ=some d->Fin X.K os H d Q->t σ H Q
def DF(X:Cx)(e:Expr)(m:ME):Prop:=∃t:TE,PE X e t/\∀os σ H δ d Q,Sl X os H δ σ->m δ=some d->(∀p H',Same H H'->H p=none->Own X.K (hide (p::os) H') H' p d->Q (.ref p) H')->t σ H Q
theorem H9{os:List Addr}{H:Hp}{p:Addr}(h:H p=none)(o:HO):Same (hide os H) (hide (p::os) (upd H p o)):=λb u e=>by
 have hb:b∉os:=λz=>by rw[cg z]at e;cases e
 rw[aL hb]at e;have hp:b≠p:=bx e h;rw[aL (by simp[hb,hp]),aR hp];exact e
theorem Ol{os:List Addr}{H:Hp}{p:Addr}:Same (hide (p::os) H) (hide os H):=λb u e=>by
 have hb:b∉p::os:=λz=>by rw[cg z]at e;cases e
 rw[aL hb]at e;rw[aL (λz=>hb (Zy _ z))];exact e
theorem Own.den{K:PySem.W.Frag}{os:List Addr}{H:Hp}{p:Addr}{ds:List D}(hp:p∉os)(h:Own K (hide (p::os) H) H p (.lst ds)):Den K (hide os H) (.lst ds) (.ref p):=by
 obtain⟨xs,h1,h2⟩:=h;exact .lst (.of ((aL hp).trans h1)) (h2.mono Ol _ _)
def QJ(m:ME):Prop:=∀δ d,m δ=some d->∃ds,d=.lst ds
theorem DF.de{X:Cx}{e:Expr}{m:ME}(h:DF X e m)(hm:QJ m):DE X e m:=by
 obtain⟨t,p,q⟩:=h;refine⟨t,p,λos σ H δ d Q s m k=>?_⟩;obtain⟨ds,rfl⟩:=hm _ _ m;exact q os σ H δ _ Q s m λa H' g ha o=>k _ H' g (o.den (s.live.ne ha))
theorem Og(m:MA):QJ (gD m):=λδ d h=>by
 obtain⟨xs,_,h⟩:=aak.mp h;cases h;exact⟨xs,rfl⟩
theorem xM(B:Ev->Ev)(i:MI)(g:MG)(c:MT)(e:ME):QJ (nP B i g c e):=λδ d h=>by
 obtain⟨xs,_,h⟩:=aak.mp h;split at h
 ·obtain⟨ys,_,h⟩:=aak.mp h;cases h;exact⟨ys,rfl⟩
 ·cases h
def DT(X:Cx)(e:Expr)(m:MT):Prop:=∃t:TT,PT X e t/\∀os σ H δ b Q,Sl X os H δ σ->m δ=some b->(∀H',Same H H'->Q b H')->t σ H Q
def DW(X:Cx)(e:Expr)(m:MT):Prop:=∃t:TT,PW X e t/\∀os σ H δ b Q,Sl X os H δ σ->m δ=some b->(∀H',Same H H'->Q b H')->t σ H Q
def DA(X:Cx)(es:List Expr)(m:MA):Prop:=(∀δ ds,m δ=some ds->ds.length=es.length)/\∃t:TA,PA X es t/\∀os σ H δ ds Q,Sl X os H δ σ->m δ=some ds->(∀vs H',Same H H'->Dens X.K (hide os H') ds vs->Q vs H')->t σ H Q
theorem DW.dt{X:Cx}{e:Expr}{m:MT}(h:DW X e m):DT X e m:=let ⟨t,p,q⟩:=h;⟨t,p.pt,q⟩
section
variable{X:Cx}{a b c e:Expr}{es:List Expr}{ma mb mc me:ME}{pos p:Pos}
theorem sV{i n:Nat}(h:Nat.blt i n=true):i<n:=Nat.le_of_ble_eq_true h
theorem V9(i:Nat)(h:PE X e (fC i))(hi:Nat.blt i X.N.length=true:=by rfl):DE X e (ak i):=by
 refine⟨_,h,λos σ H δ d Q s m k=>?_⟩;obtain⟨v,e1,r⟩:=s.pl i d (sV hi) (ou m);exact⟨v,e1,k v H (Same.refl _) r⟩
theorem Tj{d:D}{v:V}(h:PE X e (L2.tC v))(r:∀H,Den X.K H d v):DE X e (eC d):=by
 refine⟨_,h,λos σ H δ d' Q s m k=>?_⟩;cases m;exact k v H (Same.refl _) (r _)
theorem aB{i:Int}{j:Nat}:DE X (.Constant (.int i) j pos) (eC (.int i)):=Tj pQ λ_=>.int i
theorem gH{i:Bool}{j:Nat}:DE X (.Constant (.bool i) j pos) (eC (.bl i)):=Tj Xd λ_=>.bl i
theorem GC{j:Nat}:DE X (.Constant .none j pos) (eC .non):=Tj Nz λ_=>.non
theorem dq{x:Str}{i:Int}{t:Tok}(hg:Gl X x)(hm:X.mg x=some (.int i t))(hd:(x==("__debug__":Str))=false:=by decide):DE X (.Name x pos) (eC (.int i)):=
 Tj (HN (v:=.int i) hg hm ⟨t,rfl⟩ hd) λ_=>.int i
theorem ao{α β:Type}{o:Option α}{f:α->Option β}{r:β}(h:o.bind f=some r):∃x,o=some x/\f x=some r:=by
 cases o with
 |none=>cases h|some x=>exact⟨x,rfl,h⟩
def DP(X:Cx)(f:Value->Value->Sem Value)(g:D->D->Option D):Prop:=
 ∃r:R2,OpR X f r/\∀os H,Live os H->∀dx dy d x y Q,Den X.K (hide os H) dx x->Den X.K (hide os H) dy y->g dx dy=some d->Fin X.K os H d Q->r x y H Q
def Zf(X:Cx)(f:Value->Sem Value)(g:D->Option D):Prop:=
 ∃r,Yj X f r/\∀os H,Live os H->∀dx d x Q,Den X.K (hide os H) dx x->g dx=some d->Fin X.K os H d Q->r x H Q
def Zi(X:Cx)(g:D->D->Option D):Prop:=
 ∃r:R2,IxR X r/\∀os H,Live os H->∀dx dy d x y Q,Den X.K (hide os H) dx x->Den X.K (hide os H) dy y->g dx dy=some d->Fin X.K os H d Q->r x y H Q
def CallD(X:Cx)(f:Value)(g:MF):Prop:=
 ∃r,ik X f r/\∀os H,Live os H->∀ds d vs Q,Dens X.K (hide os H) ds vs->g ds=some d->Fin X.K os H d Q->r vs H Q
theorem two{g:D->D->Option D}{ta tb:TE}{r:R2}
 (qa:∀os σ H δ d Q,Sl X os H δ σ->ma δ=some d->Fin X.K os H d Q->ta σ H Q) (qb:∀os σ H δ d Q,Sl X os H δ σ->mb δ=some d->Fin X.K os H d Q->tb σ H Q)
 (qr:∀os H,Live os H->∀dx dy d x y Q,Den X.K (hide os H) dx x->Den X.K (hide os H) dy y->g dx dy=some d->Fin X.K os H d Q->r x y H Q):
 ∀os σ H δ d Q,Sl X os H δ σ->aK g ma mb δ=some d->Fin X.K os H d Q->Q9 r ta tb σ H Q:=by
 intro os σ H δ d Q s m k;obtain⟨dx,e1,m⟩:=ao m;obtain⟨dy,e2,m⟩:=ao m;refine qa os σ H δ dx _ s e1 λx H1 g1 r1=>?_;refine qb os σ H1 δ dy _ (s.mono g1) e2 λy H2 g2 r2=>?_;exact qr os H2 (s.live.mono (g1.trans g2)) dx dy d x y Q (r1.mono (g2).hd _ _) r2 m (k.mono (g1.trans g2))
theorem aU{op:Operator}{g:D->D->Option D}(ho:DP X (binaryOp op) g)(ha:DE X a ma)(hb:DE X b mb):DE X (.BinOp a op b pos) (aK g ma mb):=by
 obtain⟨r,hr,qr⟩:=ho;obtain⟨ta,pa,qa⟩:=ha;obtain⟨tb,pb,qb⟩:=hb;exact⟨_,Ny hr pa pb,two qa qb qr⟩
theorem kJ{op:CmpOp}{g:D->D->Option D}(ho:DP X (compareOp op) g)(ha:DE X a ma)(hb:DE X b mb)(hm:behindInMarks op b=false):DE X (.Compare a [op] [b] pos) (aK g ma mb):=by
 obtain⟨r,hr,qr⟩:=ho;obtain⟨ta,pa,qa⟩:=ha;obtain⟨tb,pb,qb⟩:=hb;exact⟨_,RT hr pa pb hm,two qa qb qr⟩
theorem bD{g:D->D->Option D}(ho:Zi X g)(ha:DE X a ma)(hb:DE X b mb)(hs:zT b):DE X (.Subscript a b pos) (aK g ma mb):=by
 obtain⟨r,hr,qr⟩:=ho;obtain⟨ta,pa,qa⟩:=ha;obtain⟨tb,pb,qb⟩:=hb;exact⟨_,HJ hr pa pb hs,two qa qb qr⟩
theorem Ur{op:UnaryOp}{g:D->Option D}(ho:Zf X (unaryOp op) g)(ha:DE X a ma):DE X (.UnaryOp op a pos) (rR g ma):=by
 obtain⟨r,hr,qr⟩:=ho;obtain⟨ta,pa,qa⟩:=ha;refine⟨_,Ue hr pa,λos σ H δ d Q s m k=>?_⟩;obtain⟨dx,e1,m⟩:=ao m;exact qa os σ H δ dx _ s e1 λx H1 g1 r1=>qr os H1 (s.live.mono g1) dx d x Q r1 m (k.mono g1)
theorem Qe{op:BoolOp}(h:DE X a ma):DE X (.BoolOp op [a] pos) ma:=let ⟨t,p,q⟩:=h;⟨t,Vq p,q⟩
theorem Qg{rest:List Expr}(ha:DE X a ma)(hb:DE X (.BoolOp .And (b::rest) pos) mb):DE X (.BoolOp .And (a::b::rest) pos) (Gp ma mb):=by
 obtain⟨ta,pa,qa⟩:=ha;obtain⟨tb,pb,qb⟩:=hb;refine⟨_,Vr pa pb,λos σ H δ d Q s m k=>?_⟩;obtain⟨dx,e1,m⟩:=ao m;refine qa os σ H δ dx _ s e1 λx H1 g1 r1=>?_;cases dx with
 |bl z=>
   refine⟨z,r1.bl_inv,?_⟩;cases z with
   |true=>exact Kv (qb os σ H1 δ d Q (s.mono g1) m (k.mono g1))|false=>cases m;exact Kw (k _ H1 g1 (.bl false))
 |_=>cases m
theorem Mf{K:PySem.W.Frag}{os:List Addr}{H:Hp}{d:D}{x:V}{b:Bool}(r:Den K (hide os H) d x)(h:truth d=some b):Wo K x H b:=by
 cases d with
 |non=>rw[r.non_inv];cases h;exact rfl|bl z=>rw[r.bl_inv];cases h;exact rfl|int i=>rw[r.int_inv];cases h;exact rfl|str z=>cases h|dic t ks vs=>cases h|tup ds=>
   obtain⟨a,xs,rfl,h1,h2⟩:=r.tup_up;cases h;refine .inr (.inl ⟨xs,h1,?_⟩);have:=h2.length;cases ds<;>cases xs<;>simp_all
 |lst ds=>
   obtain⟨a,xs,rfl,h1,h2⟩:=r.lst_up;cases h;refine .inl ⟨xs,h1,?_⟩;have:=h2.length;cases ds<;>cases xs<;>simp_all
theorem jm(ha:DE X a ma)(he:∀whole,isTrue a X.env whole=(do let v <-whole;standAt a.pos;holding [v] (truthy v)):=by intro _;rfl):DT X a (tV ma):=by
 obtain⟨ta,pa,qa⟩:=ha;refine⟨_,Nh pa he,λos σ H δ b Q s m k=>?_⟩;obtain⟨dx,e1,m⟩:=ao m;exact qa os σ H δ dx _ s e1 λx H1 g1 r1=>⟨b,Mf r1 m,k H1 g1⟩
theorem dX{op:CmpOp}{g:D->D->Option D}(ho:DP X (compareOp op) g)(ha:DE X a ma)(hb:DE X b mb)(hm:behindInMarks op b=false)
 (hg:∀x y d,g x y=some d->∃k,d=.bl k):DT X (.Compare a [op] [b] pos) (tV (aK g ma mb)):=by
 obtain⟨r,hr,qr⟩:=ho;obtain⟨ta,pa,qa⟩:=ha;obtain⟨tb,pb,qb⟩:=hb;refine⟨_,Hx hr pa pb hm,λos σ H δ z Q s m k=>?_⟩;obtain⟨d,m1,m2⟩:=ao m;have hb':∃k,d=.bl k:=by
  obtain⟨x,_,m1⟩:=ao m1;obtain⟨y,_,m1⟩:=ao m1;exact hg x y d m1
 obtain⟨k',rfl⟩:=hb';cases m2;exact two qa qb qr os σ H δ _ _ s m1 λv H1 g1 r1=>⟨z,r1.bl_inv,k H1 g1⟩
variable{na nb:MT}
theorem Jc(ha:DT X a na):DW X (.BoolOp .And [a] pos) na:=let ⟨t,p,q⟩:=ha;⟨t,Ry p,q⟩
theorem Gq(ha:DT X a na):DW X (.BoolOp .Or [a] pos) na:=let ⟨t,p,q⟩:=ha;⟨t,Vg p,q⟩
theorem Py{rest:List Expr}(ha:DT X a na)(hb:DW X (.BoolOp .And (b::rest) pos) nb):DW X (.BoolOp .And (a::b::rest) pos) (yG na nb):=by
 obtain⟨ta,pa,qa⟩:=ha;obtain⟨tb,pb,qb⟩:=hb;refine⟨_,Vh pa pb,λos σ H δ z Q s m k=>?_⟩;obtain⟨x,e1,m⟩:=ao m;refine qa os σ H δ x _ s e1 λH1 g1=>?_;cases x with
 |true=>exact Kv (qb os σ H1 δ z Q (s.mono g1) m λH2 g2=>k H2 (g1.trans g2))|false=>cases m;exact Kw (k H1 g1)
theorem Px{rest:List Expr}(ha:DT X a na)(hb:DW X (.BoolOp .Or (b::rest) pos) nb):DW X (.BoolOp .Or (a::b::rest) pos) (Q8 na nb):=by
 obtain⟨ta,pa,qa⟩:=ha;obtain⟨tb,pb,qb⟩:=hb;refine⟨_,W9 pa pb,λos σ H δ z Q s m k=>?_⟩;obtain⟨x,e1,m⟩:=ao m;refine qa os σ H δ x _ s e1 λH1 g1=>?_;cases x with
 |false=>exact Kw (qb os σ H1 δ z Q (s.mono g1) m λH2 g2=>k H2 (g1.trans g2))|true=>cases m;exact Kv (k H1 g1)
theorem tD(ha:DT X a na):DT X (.UnaryOp .Not a pos) (qt na):=by
 obtain⟨ta,pa,qa⟩:=ha;refine⟨_,Vi pa,λos σ H δ z Q s m k=>?_⟩;obtain⟨x,e1,m⟩:=ao m;cases m;exact qa os σ H δ x _ s e1 λH1 g1=>k H1 g1
theorem aq:DA X [] az:=⟨λδ ds h=>by cases h;rfl,_,cV,λos σ H δ ds Q s m k=>by cases m;exact k [] H (Same.refl _) .nil⟩
theorem aa{mr:MA}(ha:DE X e me)(hr:DA X es mr)(hs:starEach (e::es) X.env=(false,eval e X.env)::starEach es X.env:=by rfl):DA X (e::es) (aj me mr):=by
 obtain⟨ta,pa,qa⟩:=ha;obtain⟨hl,tr,pr,qr⟩:=hr;refine⟨λδ ds h=>?_,_,bG pa pr hs,λos σ H δ ds Q s m k=>?_⟩
 ·obtain⟨x,_,h⟩:=ao h;obtain⟨xs,e2,h⟩:=ao h;cases h;simp[hl δ xs e2]
 ·obtain⟨x,e1,m⟩:=ao m;obtain⟨xs,e2,m⟩:=ao m;cases m;refine qa os σ H δ x _ s e1 λv H1 g1 r1=>?_;exact qr os σ H1 δ xs _ (s.mono g1) e2 λvs H2 g2 r2=>k (v::vs) H2 (g1.trans g2) (.cons (r1.mono (g2).hd _ _) r2)
theorem cU{x1:Nat}{m:MA}(h:DA X es m)(hn:es.length<=sizeLine):DE X (.Tuple es x1 pos) (dw m):=by
 obtain⟨hl,t,p,q⟩:=h;refine⟨_,Vp p,λos σ H δ d Q s m k=>?_⟩;obtain⟨ds,e1,m⟩:=ao m;cases m;refine q os σ H δ ds _ s e1 λvs H1 g1 r1=>⟨by rw[<-r1.length,hl δ ds e1];exact hn,λa ha=>?_⟩;exact k _ _ (g1.trans (bB ha (.tup vs))) (.newT (s.live.mono g1) ha r1)
theorem kI{m:MA}(h:DA X es m)(hn:es.length<=sizeLine):DF X (.List es pos) (gD m):=by
 obtain⟨hl,t,p,q⟩:=h;refine⟨_,Fw p,λos σ H δ d Q s m k=>?_⟩;obtain⟨ds,e1,m⟩:=ao m;cases m;refine q os σ H δ ds _ s e1 λvs H1 g1 r1=>⟨by rw[<-r1.length,hl δ ds e1];exact hn,λa ha=>?_⟩;exact k a _ (g1.trans (bB ha (.lst vs))) (g1.free ha) ⟨vs,aY,r1.mono (H9 ha _) _ _⟩
theorem zG{m:MA}(h:DA X es m)(hn:es.length<=sizeLine):DE X (.List es pos) (gD m):=(kI h hn).de (Og m)
def DX(K:PySem.W.Frag)(f:MF):Sp:=λvs H Q _=>∃os ds r,Live os H/\Dens K (hide os H) ds vs/\f ds=some r/\Fin K os H r Q
theorem Ti{f:Addr}{fd:FuncData}{ps:List Str}{k:Nat}{x:Str}{fn:MF}{m:MA}(F:mQ X.prog X.w X.K X.mg X.base uE k f fd ps (DX X.K fn))(hr:Room k X.A)(hg:Gl X x)(hm:X.mg x=some (.ref f))(hk:PySem.W.keepIn X.K (.ref f)=true)
 (hb:Binds X.K fd ps []) (ha:DA X (e::es) m) (hdb:(x==("__debug__":Str))=false:=by decide) (he:starEach (e::es) X.env=(false,eval e X.env)::starEach es X.env:=by rfl) (hpl:(backTo pos (starEach es X.env)).any (·.1)=false:=by rfl):
 DE X (.Call (.Name x p) (e::es) [] pos) (au fn m):=by
 obtain⟨hl,t,pt,q⟩:=ha;refine⟨_,oG F hr hg hm hk hb .nil xE pt hdb he hpl,λos σ H δ d Q s m k=>?_⟩;obtain⟨ds,e1,m⟩:=ao m;refine q os σ H δ ds _ s e1 λvs H1 g1 r1=>?_;rw[abD];exact⟨os,ds,d,s.live.mono g1,r1,m,k.mono g1⟩
theorem cH{id:String}{x:Str}{fn:MF}{m:MA}(hc:CallD X (.builtin id) fn)(hg:Gl X x)(hm:X.mg x=none)(hv:bootBuiltins x=some (.builtin id))(ha:DA X (e::es) m)(hn:x≠"__name__":=by decide)(hdb:(x==("__debug__":Str))=false:=by decide)
 (he:starEach (e::es) X.env=(false,eval e X.env)::starEach es X.env:=by rfl) (hpl:(backTo pos (starEach es X.env)).any (·.1)=false:=by rfl):
 DE X (.Call (.Name x p) (e::es) [] pos) (au fn m):=by
 obtain⟨r,hr,qr⟩:=hc;obtain⟨hl,t,pt,q⟩:=ha;refine⟨_,qL hr hg hm hv pt hn hdb he hpl,λos σ H δ d Q s m k=>?_⟩;obtain⟨ds,e1,m⟩:=ao m;exact q os σ H δ ds _ s e1 λvs H1 g1 r1=>qr os H1 (s.live.mono g1) ds d vs Q r1 m (k.mono g1)
theorem cQ{T:String}{x:Str}{fn:MF}{m:MA}(hc:CallD X (.type T) fn)(hg:Gl X x)(hm:X.mg x=none)(hv:bootBuiltins x=some (.type T))(ha:DA X (e::es) m)(hn:x≠"__name__":=by decide)(hdb:(x==("__debug__":Str))=false:=by decide)
 (he:starEach (e::es) X.env=(false,eval e X.env)::starEach es X.env:=by rfl) (hpl:(backTo pos (starEach es X.env)).any (·.1)=false:=by rfl):
 DE X (.Call (.Name x p) (e::es) [] pos) (au fn m):=by
 obtain⟨r,hr,qr⟩:=hc;obtain⟨hl,t,pt,q⟩:=ha;refine⟨_,sE hr hg hm hv pt hn hdb he hpl,λos σ H δ d Q s m k=>?_⟩;obtain⟨ds,e1,m⟩:=ao m;exact q os σ H δ ds _ s e1 λvs H1 g1 r1=>qr os H1 (s.live.mono g1) ds d vs Q r1 m (k.mono g1)
end
section
variable{X:Cx}
def Zt(K:PySem.W.Frag):R2:=λx y H Q=>∃l b xs ys,x=.ref l/\y=.ref b/\SqL K H l xs/\SqL K H b ys/\xs.length+ys.length<=sizeLine/\∀p,H p=none->Q (.ref p) (upd H p (.lst (xs++ys)))
theorem op_catL:OpR X (binaryOp .Add) (Zt X.K):=by
 intro pins s σ H x y v u Q I rx ry h;obtain⟨l,b,xs,ys,rfl,rfl,hl,hb,hz,q⟩:=h;cases rx;cases ry;obtain⟨its,r1,⟨⟨c1,d1,dt1,sl1⟩,n1,e1,c1',d1',t1'⟩,_⟩:=I.list hl;obtain⟨its2,r2,⟨⟨c2,d2,dt2,sl2⟩,n2,e2,c2',d2',t2'⟩,_⟩:=I.list hb;simp only at c1' d1' t1' c2' d2' t2';subst c1' d1' t1' c2' d2' t2';have l1:=r1.length;have l2:=r2.length;refine aes ⟨_,e1,rfl⟩ ⟨_,e2,rfl⟩ noFill_list_add seq_list_add F.slot_list_add F.entry_list_add (F.args_list_add_2 _ _)
  (list_addW l b its.toArray its2.toArray n1 n2 none none sl1 sl2 (by rw[ZJ,ZJ];omega)) ⟨e1,e2,?_⟩
 have ea:its.toArray++its2.toArray=(its++its2).toArray:=by simp
 rw[ea];exact⟨.ref _,_,I.lnew (t':=s.toks) (r1.append r2) (by rw[Z6];omega),rfl,q _ I.fresh⟩
def Zr(K:PySem.W.Frag):R2:=λx y H Q=>∃a b xs ys,x=.ref a/\y=.ref b/\SqT K H a xs/\SqT K H b ys/\xs.length+ys.length<=sizeLine/\
 (xs=[]->Q (.ref b) H)/\(xs≠[]->ys=[]->Q (.ref a) H)/\(xs≠[]->ys≠[]->∀p,H p=none->Q (.ref p) (upd H p (.tup (xs++ys))))
theorem op_catTT:OpR X (binaryOp .Add) (Zr X.K):=by
 intro pins s σ H x y v u Q I rx ry h;obtain⟨a,b,xs,ys,rfl,rfl,ha,hb,hz,q0,q1,q2⟩:=h;by_cases hx:xs=[]
 ·cases rx;cases ry;subst hx;obtain⟨its,r1,⟨⟨c1,d1,dt1,sl1⟩,e1,c1',n1,t1'⟩,_⟩:=I.tuple ha;obtain⟨its2,r2,⟨⟨c2,d2,dt2,sl2⟩,e2,c2',n2,t2'⟩,_⟩:=I.tuple hb;simp only at c1' t1' c2' t2';subst c1' t1' c2' t2';have hi:its=[]:=r1.nil_iff.mpr rfl;exact aes ⟨_,e1,rfl⟩ ⟨_,e2,rfl⟩ aeh seq_tuple_add ac9 ac3 (acV _ _)
   (tuple_addW0 a b its.toArray its2.toArray n1 n2 d1 d2 sl1 sl2 (by simp[hi])) ⟨e1,e2,⟨.ref b,H,I,rfl,q0 rfl⟩⟩
 ·exact R0 pins s σ H _ _ v u Q I rx ry ⟨a,b,xs,ys,rfl,rfl,ha,hb,hx,hz,q1 hx,q2 hx⟩
theorem cM:sizeLine=16777216:=aaL
theorem bV:DP X (binaryOp .Add) bO:=by
 refine⟨_,op_add.or (op_catL.or (op_catTT.or FJ)),λos H L dx dy d x y Q rx ry m k=>?_⟩;cases dx with
 |int i=>
   cases dy with
   |int j=>
     cases m;exact .inl ⟨i,j,rx.int_inv,ry.int_inv,k _ H (Same.refl _) (.int _)⟩
   |_=>cases m
 |lst xs=>
   cases dy with
   |lst ys=>
     have m':(if xs.length+ys.length<=16777216 then some (D.lst (xs++ys))else none)=some d:=m;split at m'
     ·rename_i hz;cases m';obtain⟨a,vs,rfl,h1,h2⟩:=rx.lst_up;obtain⟨b,ws,rfl,h3,h4⟩:=ry.lst_up;refine .inr (.inl ⟨a,b,vs,ws,rfl,rfl,h1,h3,by rw[<-h2.length,<-h4.length,cM];exact hz,λp hp=>?_⟩);exact k _ _ (bB hp (.lst (vs++ws))) (.newL L hp (h2.append h4))
     ·cases m'
   |_=>cases m
 |tup xs=>
   cases dy with
   |tup ys=>
     have m':(if xs.length+ys.length<=16777216 then some (D.tup (xs++ys))else none)=some d:=m;split at m'
     ·rename_i hz;cases m';obtain⟨a,vs,rfl,h1,h2⟩:=rx.tup_up;obtain⟨b,ws,rfl,h3,h4⟩:=ry.tup_up;refine .inr (.inr (.inl ⟨a,b,vs,ws,rfl,rfl,h1,h3,by rw[<-h2.length,<-h4.length,cM];exact hz,λe=>?_,λ_ e=>?_,λ_ _ p hp=>?_⟩))
      ·subst e;have:xs=[]:=by have:=h2.length;cases xs<;>simp_all
       subst this;exact k _ H (Same.refl _) ry
      ·subst e;have:ys=[]:=by have:=h4.length;cases ys<;>simp_all
       subst this;rw[abD]at k;exact k _ H (Same.refl _) rx
      ·exact k _ _ (bB hp (.tup (vs++ws))) (.newT L hp (h2.append h4))
     ·cases m'
   |_=>cases m
 |str x=>
   cases dy with
   |str y=>
     have m':(if x.length+y.length<=16777216 then some (D.str (x++y))else none)=some d:=m;split at m'
     ·rename_i hz;cases m';exact .inr (.inr (.inr ⟨x,y,rx.str_inv,ry.str_inv,by rw[cM];exact hz,k _ H (Same.refl _) (.str _)⟩))
     ·cases m'
   |_=>cases m
 |_=>cases m
theorem mj{g:Int->Int->Option D}{dx dy d:D}(h:oI g dx dy=some d):∃i j,dx=.int i/\dy=.int j/\g i j=some d:=by
 cases dx with
 |int i=>
   cases dy with
   |int j=>exact⟨i,j,rfl,rfl,h⟩|_=>cases h
 |_=>cases h
theorem ir:DP X (binaryOp .Sub) iW:=by
 refine⟨_,Vs,λos H L dx dy d x y Q rx ry m k=>?_⟩;obtain⟨i,j,rfl,rfl,m⟩:=mj m;cases m;exact⟨i,j,rx.int_inv,ry.int_inv,k _ H (Same.refl _) (.int _)⟩
theorem jj:DP X (binaryOp .Mod) oMod:=by
 refine⟨_,Vt,λos H L dx dy d x y Q rx ry m k=>?_⟩;obtain⟨i,j,rfl,rfl,m2⟩:=mj m;split at m2
 ·rename_i hj;cases m2;exact⟨i,j,rx.int_inv,ry.int_inv,hj,k _ H (Same.refl _) (.int _)⟩
 ·cases m2
theorem HX:DP X (binaryOp .FloorDiv) vh:=by
 refine⟨_,RZ,λos H L dx dy d x y Q rx ry m k=>?_⟩;obtain⟨i,j,rfl,rfl,m2⟩:=mj m;split at m2
 ·rename_i hj;cases m2;exact⟨i,j,rx.int_inv,ry.int_inv,hj,k _ H (Same.refl _) (.int _)⟩
 ·cases m2
theorem sJ:fillsNumberSlot (.type "tuple") "mul"=pure false:=
 PySem.fillsNumberSlot_seq (id:="tuple.__mul__") (r:=some (.builtin "tuple.__rmul__")) adp.lookup (by decide +kernel) F.slot_tuple_rmul.lookup (by decide +kernel)
theorem yO:seqRepeat? (.type "tuple")=pure (some (.builtin "tuple.__mul__")):=by
 unfold seqRepeat?;rw[PySem.seqSlot_of (T:="tuple") (name:="__mul__") (id:="tuple.__mul__") adp.lookup (by decide +kernel),PySem.seqSlot_of (T:="tuple") (name:="__rmul__") (id:="tuple.__rmul__") F.slot_tuple_rmul.lookup (by decide +kernel)];rfl
theorem vL(a:Int)(t:Tok)(l:Addr)(items:Array Value)(n:Nat)(dd:Option Addr)(sl:Array (Option Value)):
 Meets (Builtin.«int.__rmul__» ⟨[.int a t,.ref l],[]⟩) (λ_ R s=>s.heap.get? l=some {cls:=.type "tuple",dict:=dd,data:=.seq items n,slots:=sl}/\R (.ok (.ret Value.notImplemented)) s):=
 .of_wp λprog w A R s h=>by obtain⟨hp,g,d,tk,os⟩:=s;obtain⟨hl,h⟩:=h;wp_walk;exact⟨_,rfl,h⟩
end
def Fr(X:Cx)(os:List Addr)(H:Hp)(os':List Addr)(H':Hp):Prop:=Same (hide os H) (hide os' H')/\∀b∈os,X.H₀ b≠none->b∈os'
theorem Fr.of{X:Cx}{os:List Addr}{H H':Hp}(g:Same H H'):Fr X os H os H':=⟨g.hd,λ_ h _=>h⟩
theorem Fr.trans{X:Cx}{os os1 os2:List Addr}{H H1 H2:Hp}(a:Fr X os H os1 H1)(b:Fr X os1 H1 os2 H2):Fr X os H os2 H2:=⟨a.1.trans b.1,λc h n=>b.2 c (a.2 c h n) n⟩
def Ok(X:Cx)(PX:Prop)(D:Ends)(os:List Addr)(H:Hp):Rs->Prop
 |.nx δ=>∀σ H' os',Fr X os H os' H'->Sl X os' H' δ σ->D.nx σ H'|.bk δ=>∀σ H' os',Fr X os H os' H'->Sl X os' H' δ σ->D.bk σ H'|.ct δ=>∀σ H' os',Fr X os H os' H'->Sl X os' H' δ σ->D.ct σ H'|.rt d=>∀v H' os',Fr X os H os' H'->Same X.H₀ H'->Den X.K (hide os' H') d v->D.rt v H'|.ex=>PX
theorem Ok.mono{X:Cx}{PX:Prop}{D:Ends}{os os':List Addr}{H H':Hp}{r:Rs}(e:Fr X os H os' H')(h:Ok X PX D os H r):Ok X PX D os' H' r:=by
 cases r with
 |nx δ=>exact λσ H2 os2 g s=>h σ H2 os2 (e.trans g) s|bk δ=>exact λσ H2 os2 g s=>h σ H2 os2 (e.trans g) s|ct δ=>exact λσ H2 os2 g s=>h σ H2 os2 (e.trans g) s|rt d=>exact λv H2 os2 g=>h v H2 os2 (e.trans g)|ex=>exact h
def DS(X:Cx)(PX:Prop)(st:Stmt)(m:MS):Prop:=∃t:TS,PS X st t/\∀os σ H δ r D,Sl X os H δ σ->m δ=some r->Ok X PX D os H r->t D σ H
def DQ(X:Cx)(PX:Prop)(st:List Stmt)(m:MS):Prop:=∃t:TS,PSs X st t/\∀os σ H δ r D,Sl X os H δ σ->m δ=some r->Ok X PX D os H r->t D σ H
def DG(X:Cx)(e:Expr)(g:MG):Prop:=∃t:TG,PG X e t/\∀os v σ H d δ δ' Q,Sl X os H δ σ->Den X.K (hide os H) d v->g d δ=some δ'->(∀σ' H',Same H H'->Sl X os H' δ' σ'->Q σ' H')->t v σ H Q
def Yo(X:Cx)(es:List Expr)(g:QH):Prop:=∃t:Uv,X7 X es t/\∀os vs σ H ds δ δ' Q,Sl X os H δ σ->Dens X.K (hide os H) ds vs->g ds δ=some δ'->(∀σ' H',Same H H'->Sl X os H' δ' σ'->Q σ' H')->t vs σ H Q
section
variable{X:Cx}{PX:Prop}{st:Stmt}{rest sts sts':List Stmt}{m m':MS}{a b c e tg:Expr}{ma mb:ME}{mc:MT}{pos pos':Pos}
theorem cj:DQ X PX [] gC:=⟨_,Rz,λos σ H δ r D s m k=>by cases m;exact k σ H os (.of (Same.refl _)) s⟩
theorem aD(h:DS X PX st m):DQ X PX [st] m:=let ⟨t,p,q⟩:=h;⟨t,jW p,q⟩
theorem aA(h1:DS X PX st m)(h2:DQ X PX rest m'):DQ X PX (st::rest) (bw m m'):=by
 obtain⟨t,p,q⟩:=h1;obtain⟨t',p',q'⟩:=h2;refine⟨_,gP p p',λos σ H δ r D s m k=>?_⟩;obtain⟨r1,e1,m⟩:=ao m;refine q os σ H δ r1 _ s e1 ?_;cases r1 with
 |nx δ'=>exact λσ' H' os' g s'=>q' os' σ' H' δ' r D s' m (k.mono g)|bk δ'=>cases m;exact k|ct δ'=>cases m;exact k|rt d=>cases m;exact k|ex=>cases m;exact k
theorem aW(h:DE X e ma):DS X PX (.Return (some e) pos) (bN ma):=by
 obtain⟨t,p,q⟩:=h;refine⟨_,Fq p,λos σ H δ r D s m k=>?_⟩;obtain⟨d,e1,m⟩:=ao m;cases m;exact q os σ H δ d _ s e1 λv H' g r=>k v H' os (.of g) (s.keep.trans g) r
theorem fc(hc:DT X c mc)(ha:DQ X PX sts m)(hb:DQ X PX sts' m'):DS X PX (.If c sts sts' pos) (m6 mc m m'):=by
 obtain⟨tc,pc,qc⟩:=hc;obtain⟨ta,pa,qa⟩:=ha;obtain⟨tb,pb,qb⟩:=hb;refine⟨_,Xa pc pa pb,λos σ H δ r D s m k=>?_⟩;obtain⟨x,e1,m⟩:=ao m;refine qc os σ H δ x _ s e1 λH1 g1=>?_;cases x with
 |true=>exact Kv (qa os σ H1 δ r D (s.mono g1) m (k.mono (.of g1)))|false=>exact Kw (qb os σ H1 δ r D (s.mono g1) m (k.mono (.of g1)))
theorem Te{i:Nat}{x:Str}(h:PG X (.Name x pos) (gG i))(hi:Nat.blt i X.N.length=true:=by rfl):DG X (.Name x pos) (gN i):=by
 refine⟨_,h,λos v σ H d δ δ' Q s r m k=>?_⟩;cases m;exact k _ H (Same.refl _) (s.set i (sV hi) r)
theorem fj:Yo X [] dB:=by
 refine⟨_,HF,λos vs σ H ds δ δ' Q s r m k=>?_⟩;cases ds with
 |nil=>cases m;exact⟨r.unnil,k σ H (Same.refl _) s⟩|cons d ds=>cases m
theorem aZ{es:List Expr}{g:MG}{gs:QH}(h1:DG X e g)(h2:Yo X es gs)
 (hs:(assignEach (e::es) X.env).map (·.2)=assign e X.env::(assignEach es X.env).map (·.2):=by rfl):Yo X (e::es) (aP g gs):=by
 obtain⟨t,p,q⟩:=h1;obtain⟨t',p',q'⟩:=h2;refine⟨_,u5 p p' hs,λos vs σ H ds δ δ' Q s r m k=>?_⟩;cases ds with
 |nil=>cases m|cons d ds=>
   obtain⟨δ1,e1,m⟩:=ao m;obtain⟨x,xs,rfl,h1,h2⟩:=r.uncons;refine⟨x,xs,rfl,q os x σ H d δ δ1 _ s h1 e1 λσ1 H1 g1 s1=>?_⟩;exact q' os xs σ1 H1 ds δ1 δ' Q s1 (h2.mono g1.hd _ _) m λσ2 H2 g2 s2=>k σ2 H2 (g1.trans g2) s2
theorem gW{es:List Expr}{k:Nat}{gs:QH}(hc:X.calm=true)(h:Yo X es gs)(hl:∀ds δ δ',gs ds δ=some δ'->ds.length=es.length)
 (hn:(assignEach es X.env).length=es.length:=by rfl) (hst:(assignEach es X.env).findIdx? (·.1)=none:=by rfl):DG X (.Tuple es k pos) (gT gs):=by
 obtain⟨t,p,q⟩:=h;refine⟨_,Nv hc p hn hst,λos v σ H d δ δ' Q s r m kq=>?_⟩;cases d with
 |tup ds=>
   obtain⟨a,xs,rfl,h1,h2⟩:=r.tup_up;exact⟨a,xs,rfl,h1,by rw[<-h2.length];exact hl ds δ δ' m,q os xs σ H ds δ δ' Q s h2 m kq⟩
 |_=>cases m
theorem cP(ds:List D)(δ δ':Ev)(h:dB ds δ=some δ'):ds.length=0:=by
 cases ds with
 |nil=>rfl|cons _ _=>cases h
theorem aN{g:MG}{gs:QH}{n:Nat}(h:∀ds δ δ',gs ds δ=some δ'->ds.length=n)(ds:List D)(δ δ':Ev)(e:aP g gs ds δ=some δ'):ds.length=n+1:=by
 cases ds with
 |nil=>cases e|cons d ds=>
   obtain⟨δ1,_,e⟩:=ao e;simp[h ds δ1 δ' e]
theorem bH{g:MG}(he:DE X e ma)(hg:DG X tg g)(hs:swapsWithSole [tg] e pos.line X.env=pure false:=by rfl)(hw:swappedStores [tg] e X.env=pure none:=by rfl)
 (h1:(assignEach [tg] X.env).map (·.2)=[assign tg X.env]:=by rfl):DS X PX (.Assign [tg] e pos) (cB ma g):=by
 obtain⟨t,p,q⟩:=he;obtain⟨t',p',q'⟩:=hg;refine⟨_,Np p p' hs hw h1,λos σ H δ r D s m k=>?_⟩;obtain⟨d,e1,m⟩:=ao m;obtain⟨δ',e2,m⟩:=ao m;cases m;refine q os σ H δ d _ s e1 λv H1 g1 r1=>?_;exact q' os v σ H1 d δ δ' _ (s.mono g1) r1 e2 λσ2 H2 g2 s2=>k σ2 H2 os (.of (g1.trans g2)) s2
def Walk(K:PySem.W.Frag)(J:It)(B:Hp)(xs:List D):Prop:=∀i os1 H1,Live os1 H1->Same B (hide os1 H1)->(∀d,xs[i]? = some d->J.go i H1/\∀x H2,J.yld i H1 x H2->Same H1 H2/\Den K (hide os1 H2) d x)/\(i=xs.length->J.stop i H1)
def DI(X:Cx)(tg e:Expr)(m:MI):Prop:=∃wi:TI,PI X tg e wi/\∀os σ H δ xs R,Sl X os H δ σ->m δ=some xs->(∀J H',Same H H'->Walk X.K J (hide os H') xs->R J H')->wi σ H R
theorem fZ{iter:Expr}{body:List Stmt}{mi:MI}{g:MG}(hp:PassesOwn (model X.prog X.w) X.A X.env X.xe)(hc:X.calm=true)(hi:DI X tg iter mi)(hg:DG X tg g)(hb:DQ X PX body m)
 (hs:∀x,foldedSetIterable iter X.env x=pure x:=by intro _;rfl):DS X PX (.For tg iter body [] pos) (lV mi g m):=by
 obtain⟨wi,pi,qi⟩:=hi;obtain⟨t',p',q'⟩:=hg;obtain⟨tb,pb,qb⟩:=hb;refine⟨_,u0 hp hc pi p' pb hs,λos σ H δ r D s me k=>?_⟩;obtain⟨xs,e1,me⟩:=ao me;refine qi os σ H δ xs _ s e1 λJ H1 g1 wk=>?_;refine⟨λi n σ2 H2=>n=xs.length-i/\i<=xs.length/\∃os2 δ2,Fr X os H1 os2 H2/\Sl X os2 H2 δ2 σ2/\forM g m (xs.drop i) δ2=some r,⟨xs.length,by simp,aap _,os,δ,.of (Same.refl _),s.mono g1,by simpa using me⟩,?_⟩;rintro i n σ2 H2 ⟨rfl,hi,os2,δ2,g2,s2,m2⟩;obtain⟨w1,w2⟩:=wk i os2 H2 s2.live g2.1;by_cases hlt:i<xs.length
 ·have hx:xs[i]? = some xs[i]:=ZM hlt;obtain⟨go,yl⟩:=w1 _ hx;rw[ab7 hlt,forM]at m2;obtain⟨δ3,e3,m2⟩:=ao m2;obtain⟨r3,e4,m2⟩:=ao m2;refine .inr ⟨go,λσ' H'=>∃m',m'<xs.length-i/\(m'=xs.length-(i+1)/\i+1<=xs.length/\∃os2 δ2,Fr X os H1 os2 H'/\Sl X os2 H' δ2 σ'/\forM g m (xs.drop (i+1)) δ2=some r),λσ' H' h=>h,λx H3 y=>?_⟩;obtain⟨g3,r1⟩:=yl x H3 y;refine q' os2 x σ2 H3 _ δ2 δ3 _ (s2.mono g3) r1 e3 λσ4 H4 g4 s4=>?_;have g14:Fr X os H1 os2 H4:=g2.trans (.of (g3.trans g4));have again:∀δ5,forM g m (xs.drop (i+1)) δ5=some r->∀σ5 H5 os5,Fr X os2 H4 os5 H5->Sl X os5 H5 δ5 σ5->∃m',m'<xs.length-i/\(m'=xs.length-(i+1)/\i+1<=xs.length/\∃os2 δ2,Fr X os H1 os2 H5/\Sl X os2 H5 δ2 σ5/\forM g m (xs.drop (i+1)) δ2=some r):=
   λδ5 h5 σ5 H5 os5 g5 s5=>⟨xs.length-(i+1),by omega,rfl,hlt,os5,δ5,g14.trans g5,s5,h5⟩
  refine qb os2 σ4 H4 δ3 r3 _ s4 e4 ?_;have kk:Ok X PX D os2 H4 r->Ok X PX D os2 H4 r:=id;cases r3 with
  |nx δ5=>exact λσ5 H5 os5 g5 s5=>again δ5 m2 σ5 H5 os5 g5 s5|ct δ5=>exact λσ5 H5 os5 g5 s5=>again δ5 m2 σ5 H5 os5 g5 s5|bk δ5=>cases m2;exact λσ5 H5 os5 g5 s5=>k σ5 H5 os5 ((Fr.of g1).trans (g14.trans g5)) s5|rt d=>cases m2;exact Ok.mono (r:=.rt d) ((Fr.of g1).trans g14) k|ex=>cases m2;exact k
 ·have e:i=xs.length:=by omega
  subst e;rw[adq]at m2;cases m2;exact .inl ⟨w2 rfl,k σ2 H2 os2 ((Fr.of g1).trans g2) s2⟩
theorem Df{body:List Stmt}(hp:PassesOwn (model X.prog X.w) X.A X.env X.xe)(hc:DT X c mc)(hb:DQ X PX body m):DS X PX (.While c body [] pos) (pM mc m):=by
 obtain⟨tc,pc,qc⟩:=hc;obtain⟨tb,pb,qb⟩:=hb;refine⟨_,Nj hp pc pb,λos σ H δ r D s me k=>?_⟩;obtain⟨n0,h0⟩:=Ew me;refine⟨λn σ2 H2=>∃os2 δ2,Fr X os H os2 H2/\Sl X os2 H2 δ2 σ2/\wB mc m n δ2=some r,⟨n0,os,δ,.of (Same.refl _),s,h0⟩,?_⟩;rintro n σ2 H2 ⟨os2,δ2,g2,s2,m2⟩;cases n with
 |zero=>cases m2|succ n=>
   rw[wB]at m2;obtain⟨b,e1,m2⟩:=ao m2;refine qc os2 σ2 H2 δ2 b _ s2 e1 λH3 g3=>?_;cases b with
   |false=>
     rw[aaa aaU]at m2;cases m2;exact Kw (k σ2 H3 os2 (g2.trans (.of g3)) (s2.mono g3))
   |true=>
     rw[ZZ rfl]at m2;obtain⟨r3,e3,m2⟩:=ao m2;refine Kv ⟨λσ' H'=>∃m',m'<n+1/\(∃os2 δ2,Fr X os H os2 H'/\Sl X os2 H' δ2 σ'/\wB mc m m' δ2=some r),λσ' H' h=>h,?_⟩;refine qb os2 σ2 H3 δ2 r3 _ (s2.mono g3) e3 ?_;have g23:=g2.trans (Fr.of g3);cases r3 with
     |nx δ5=>exact λσ5 H5 os5 g5 s5=>⟨n,abH _,os5,δ5,g23.trans g5,s5,m2⟩|ct δ5=>exact λσ5 H5 os5 g5 s5=>⟨n,abH _,os5,δ5,g23.trans g5,s5,m2⟩|bk δ5=>cases m2;exact λσ5 H5 os5 g5 s5=>k σ5 H5 os5 (g23.trans g5) s5|rt d=>cases m2;exact Ok.mono (r:=.rt d) g23 k|ex=>cases m2;exact k
theorem JG{K:PySem.W.Frag}{B:Hp}{a:Addr}{ds:List D}{xs:List V}(h1:SqL K B a xs)(h2:Dens K B ds xs):Walk K (QR K a) B ds:=by
 intro i os1 H1 L g;have gu:=g.trans hide_le;refine⟨λd hd=>?_,λhl=>⟨xs,gu.seq h1,by rw[<-h2.length,hl];exact ZS _⟩⟩;obtain⟨x,hx,r⟩:=h2.get hd;refine⟨⟨xs,x,gu.seq h1,hx⟩,λy H2 z=>?_⟩;obtain⟨rfl,z⟩:=z;have:=z xs (gu.seq h1);rw[hx]at this;cases this;exact⟨Same.refl _,r.mono g _ _⟩
theorem Af{K:PySem.W.Frag}{B:Hp}{a:Addr}{ds:List D}{xs:List V}(h1:SqT K B a xs)(h2:Dens K B ds xs):Walk K (Ym K a) B ds:=by
 intro i os1 H1 L g;have gu:=g.trans hide_le;refine⟨λd hd=>?_,λhl=>⟨xs,U7 gu h1,by rw[<-h2.length,hl];exact ZS _⟩⟩;obtain⟨x,hx,r⟩:=h2.get hd;refine⟨⟨xs,x,U7 gu h1,hx⟩,λy H2 z=>?_⟩;obtain⟨rfl,z⟩:=z;have:=z xs (U7 gu h1);rw[hx]at this;cases this;exact⟨Same.refl _,r.mono g _ _⟩
theorem Eb{K:PySem.W.Frag}{H:Hp}(n:Nat):Walk K (Wy 0 n) H (dN n):=by
 intro i os1 H1 L g;have hlen:(dN n).length=n:=by simp[dN]
 refine⟨λd hd=>?_,λhl=>by rw[hlen]at hl;exact acw hl.symm⟩;have hi:i<n:=by
  have:=(ZV.mp hd).1;rw[hlen]at this;exact this
 refine⟨hi,λy H2 z=>?_⟩;obtain⟨rfl,rfl⟩:=z;have e:d=.int (0+(i:Int)):=by
  unfold dN at hd;rw[aad,acS hi]at hd;cases hd;simp
 subst e;exact⟨Same.refl _,.int _⟩
def Su(K:PySem.W.Frag)(tl:TE):TI:=λσ H R=>tl σ H λx H1=>∃a,x=.ref a/\(((∃xs,SqL K H1 a xs)/\R (QR K a) H1)\/((∃xs,SqT K H1 a xs)/\R (Ym K a) H1))
theorem Ke{l:Expr}{tl:TE}(hl:PE X l tl):PI X tg l (Su X.K tl):=by
 intro pins s σ H R I h;refine cW (hl pins s σ H _ I h) λv s1 ⟨x,H1,I1,r1,q1⟩=>?_;obtain⟨a,e,q⟩:=q1;subst e;cases r1;have fp:∀b∈[s1.heap.objs.size],mO X pins H1 b:=λb hb=>by
  have e:b=s1.heap.objs.size:=by simpa using hb
  subst e;exact I1.fpOk (ZS _) (I1.hok.fresh (ZS _))
 rcases q with⟨⟨xs,hq⟩,q⟩|⟨⟨xs,hq⟩,q⟩
 ·obtain⟨its,rv,p,hz⟩:=I1.list hq;refine abx p.isList ?_;exact⟨s1.heap.objs.size,[s1.heap.objs.size],_,_,H1,rfl,I1.kept (t':=s1.toks) λb o e=>Zz _ e,wZ a _,⟨_,ZR _ rfl,rfl,rfl⟩,fp,q⟩
 ·obtain⟨its,rv,p,hz⟩:=I1.tuple hq;refine ac0 (show s1.heap.IsTuple a its.toArray from p) ?_;exact⟨s1.heap.objs.size,[s1.heap.objs.size],_,_,H1,rfl,I1.kept (t':=s1.toks) λb o e=>Zz _ e,uH a _,⟨_,ZR _ rfl,rfl,rfl⟩,fp,q⟩
theorem cO{l:Expr}(h:DE X l ma):DI X tg l (cC ma):=by
 obtain⟨t,p,q⟩:=h;refine⟨_,Ke p,λos σ H δ xs R s m k=>?_⟩;obtain⟨d,e1,m⟩:=ao m;refine q os σ H δ d _ s e1 λv H1 g1 r1=>?_;cases d with
 |tup ds=>
   cases m;obtain⟨a,ys,rfl,h1,h2⟩:=r1.tup_inv;exact⟨a,rfl,.inr ⟨⟨ys,.of (hide_le _ _ h1)⟩,k _ H1 g1 (Af (.of h1) h2)⟩⟩
 |lst ds=>
   cases m;obtain⟨a,ys,rfl,h1,h2⟩:=r1.lst_inv;exact⟨a,rfl,.inl ⟨⟨ys,hide_le.seq h1⟩,k _ H1 g1 (JG h1 h2)⟩⟩
 |_=>cases m
theorem jd{p:Pos}(hg:Gl X "range")(hm:X.mg "range"=none)(h:DE X a ma)(hs:starEach [a] X.env=(false,eval a X.env)::starEach [] X.env:=by rfl)(hs':starEach [a] X.env=[(false,eval a X.env)]:=by rfl):
 DI X tg (.Call (.Name "range" p) [a] [] pos) (dR ma):=by
 obtain⟨t,pt,q⟩:=h;refine⟨_,Kd hg hm (bG pt cV hs) hs',λos σ H δ xs R s m k=>?_⟩;obtain⟨d,e1,m⟩:=ao m;refine q os σ H δ d _ s e1 λv H1 g1 r1=>?_;cases d with
 |int j=>
   have m':(if -1073741824<j/\j<1073741824 then some (dN j.toNat)else none)=some xs:=m;split at m'
   ·rename_i hj;cases m';rw[r1.int_inv];exact⟨j,rfl,by omega,by omega,k _ H1 g1 (Eb _)⟩
   ·cases m'
 |_=>cases m
theorem Ax{X:Cx}{os:List Addr}{H:Hp}{ds:List D}{vs:List V}{np kk:Nat}(L:Live os H)(hH:X.H₀=H)(d:Dens X.K (hide os H) ds vs)(hl:ds.length=np)(hp:np<=X.N.length)(hk:X.N.length<=kk):
 Sl X os H (ds.map some++List.replicate (kk-np) none) (L2.start X.N vs):=by
 have hv:=d.length;have none_at:∀i z,ds.length<=i->(ds.map some++List.replicate (kk-np) none)[i]? = some (some z)->False:=λi z hi hz=>by
  rw[abh (by simpa using hi),aa6]at hz;split at hz<;>cases hz
 refine⟨by unfold L2.start;simp;omega,by simp;omega,λi z hi hz=>?_,λi z hi h1 h2=>(none_at _ z (by omega) h2).elim,λi j z y a hi hj h1 h2 h3 h4=>(none_at _ z (by omega) h3).elim,L,hH▸Same.refl _⟩;by_cases hi':i<ds.length
 ·unfold L2.start;rw[aan (by simpa using hi'),aad]at hz;rw[aan (by rw[ZK,<-hv];exact hi'),aad];cases hq:ds[i]? with
  |none=>rw[hq]at hz;cases hz|some y=>
    rw[hq]at hz;cases hz;obtain⟨v,hv,rv⟩:=d.get hq;exact⟨v,by rw[hv];rfl,rv⟩
 ·exact(none_at i z (by omega) hz).elim
theorem XH{P:Program}{w:World}{K:PySem.W.Frag}{mg:Str->Option Value}{base:Heap}{x qual:Str}{st:Stmt}{f:Addr}{fd:FuncData}{N ps:List Str}{k kk:Nat}(hkk:N.length<=kk)(F:Fun K x qual st f fd)(S:ig N ps (aH st))
 (h:∀(cdv:Value)(A:Around)(outer:List Env)(s:Shared)(H:Hp)(E:XK),Room k (A.deeper (envOfC qual (aH st) s.heap.objs.size f cdv))->
  DQ (tK uE P w K mg base N qual (aH st) f cdv A outer s H E).nox False (gm st) m):
 mQ P w K mg base uE (k+1) f fd ps (DX K (iM ps.length kk m)):=by
 have hpl:ps.length<=N.length:=by have:=aaS List.length S.pre;rw[abZ]at this;omega
 have inv:∀ds r,iM ps.length kk m ds=some r->ds.length=ps.length/\((m (ds.map some++List.replicate (kk-ps.length) none)=some (.rt r))\/(∃δ,m (ds.map some++List.replicate (kk-ps.length) none)=some (.nx δ)/\r=.non)):=by
  intro ds r e;unfold iM at e;split at e
  ·rename_i hl;obtain⟨q,e1,e⟩:=ao e;refine⟨hl,?_⟩;cases q with
   |rt d=>cases e;exact .inl e1|nx δ=>cases e;exact .inr ⟨δ,e1,rfl⟩|bk δ=>cases e|ct δ=>cases e|ex=>cases e
  ·cases e
 refine F.ok S (λvs H Q E hq=>?_) (λcdv A outer s H vs Q E hr hq=>?_)
 ·obtain⟨os,ds,r,L,d,e,_⟩:=hq;rw[<-d.length];exact(inv ds r e).1
 ·obtain⟨os,ds,r,L,d,e,kq⟩:=hq;obtain⟨t,p,q⟩:=h cdv A outer s H E hr;obtain⟨hl,e2⟩:=inv ds r e;have s0:=Ax (X:=(tK uE P w K mg base N qual (aH st) f cdv A outer s H E).nox) (kk:=kk) L rfl d hl hpl hkk;refine⟨t,p,?_⟩;rcases e2 with e2|⟨δ,e2,e3⟩
  ·refine q os _ H _ (.rt r) _ s0 e2 λv H' os' fr sm dn=>kq v H' sm (dn.mono (λb o z=>?_) _ _);have hb:b∉os':=λy=>by rw[cg y]at z;cases z
   rw[aL hb]at z;have hb2:b∉os:=λy=>hb (fr.2 b y λn=>by
    obtain⟨o',e',_⟩:=L b y;have n':H b=none:=n;rw[n']at e';cases e')
   rw[aL hb2];exact z
  ·subst e3;exact q os _ H _ (.nx δ) _ s0 e2 λσ H' os' fr sl=>kq .non H' sl.keep .non
end
def tL(cells:List (Str×Addr)):List (Str×NameKind)->List (Str×Addr)
 |[]=>[]|(n,k)::r=>tL cells r++(if k==.free then(match cells.lookup n with|some c=>[(n,c)]|none=>[])else [])
theorem rK{cells:List (Str×Addr)}{x:Str}{c:Addr}:∀{names:List (Str×NameKind)},(x,c)∈tL cells names->cells.lookup x=some c
 |[],h=>by cases h|(n,k)::r,h=>by
   unfold tL at h;rcases aar.mp h with h|h
   ·exact rK h
   ·split at h
    ·split at h
     ·rename_i c' e;have:=ZW.mp h;cases this;exact e
     ·cases h
    ·cases h
theorem v5{cells:List (Str×Addr)}{x:Str}{c:Addr}(hc:cells.lookup x=some c):∀{names:List (Str×NameKind)},(x,NameKind.free)∈names->(x,c)∈tL cells names
 |[],h=>by cases h|(n,k)::r,h=>by
   unfold tL;rcases ZP.mp h with h|h
   ·cases h;refine Z4 _ ?_;rw[ZZ (by rfl),hc];exact ZW.mpr rfl
   ·exact aaR _ (v5 hc h)
theorem km{x:Str}{c:Addr}:∀{l:List (Str×Addr)},(x,c)∈l->∃c',l.lookup x=some c'
 |[],h=>by cases h|(n,d)::r,h=>by
   rw[aas];cases hx:x==n with
   |true=>exact⟨d,rfl⟩|false=>
     rcases ZP.mp h with h|h
     ·cases h;rw[ab0]at hx;cases hx
     ·exact km h
theorem GP{sc:Scope}{env:Env}(h:∀y∈sc.names,y.2=.free->∃c,env.cells.lookup y.1=some c):closureFor sc env=pure (tL env.cells sc.names):=by
 have go:∀(names:List (Str×NameKind)),(∀y∈names,y.2=.free->∃c,env.cells.lookup y.1=some c)->∀(acc:List (Str×Addr)),
  (forIn names acc λ(x:Str×NameKind)(r:List (Str×Addr))=>(if(x.2==NameKind.free)=true then do let c <-cellOf env x.1;pure (ForInStep.yield ((x.1,c)::r))else pure (ForInStep.yield r):Sem (ForInStep (List (Str×Addr)))))=pure (tL env.cells names++acc):=by
  intro names;induction names with
  |nil=>intro _ acc;rfl|cons y r ih=>
    intro h acc;obtain⟨n,k⟩:=y;rw[acZ];unfold tL;by_cases hk:k=.free
    ·subst hk;obtain⟨c,hc⟩:=h (n,.free) ZF rfl;have e1:cellOf env n=pure c:=by unfold cellOf;rw[hc]
     simp only[ab0,abL,e1,pure_bind,hc];rw[ih (λy hy=>h y (Zy _ hy))];rw[aa8];rfl
    ·have hk':(k==NameKind.free)=false:=by simpa using hk
     simp only[hk',aa3,abT,pure_bind,abD];exact ih (λy hy=>h y (Zy _ hy)) acc
 have:=go sc.names h [];rw[abD]at this;unfold closureFor;first
  |(rw[show(pure (tL env.cells sc.names):Sem _)=(pure (tL env.cells sc.names) >>= λcs=>pure cs)from rfl,<-this];rfl)|(simp only[this,pure_bind];done)
  |(refine afa ?_ this;simp)
abbrev kO(X:Cx)(sc:Scope)(N:List Str)(C:Addr)(s:Shared)(H:Hp)(fp:List Addr):Cx where
 prog:=X.prog
 w:=X.w
 K:=X.K
 mg:=X.mg
 base:=X.base
 A:=X.A
 N:=N
 s₀:=s
 H₀:=H
 env:=compEnvC sc (tL X.env.cells sc.names) C X.env
 outer:=X.stack
 stack:=X.stack
 ex:=fp
 fn:=λ_=>false
 calm:=X.calm
 pn:=[]
 xe:=λ_ _=>False
structure cT(scX sc:Scope)(NX N:List Str)(k:Nat)(fv:List Nat):Prop where
 kind:sc.kind=.function
 nocell:∀y∈sc.names,y.2≠.cell
 names:∀y∈sc.names,y.2=.local->sc.names.lookup y.1=some .local
 freeX:∀y∈sc.names,y.2=.free->scX.names.lookup y.1=some .cell
 len:N.length=k+fv.length
 nd:N.Nodup
 fvs:∀t,t<fv.length->NX[fv.getD t 0]? = N[k+t]?/\(N[k+t]?.bind λx=>sc.names.lookup x)=some .free
def zU(Y:Cx):List Expr->MT->Prop
 |[],m=>m=tT|[c],m=>DT Y c m|_,_=>False
def Below(k:Nat)(g:MG):Prop:=∀d δ δ',g d δ=some δ'->δ'.length=δ.length/\∀i,k<=i->δ'[i]? = δ[i]?
theorem aJ{k i:Nat}(h:i<k):Below k (gN i):=by
 intro d δ δ' e;cases e;exact⟨by simp,λj hj=>by rw[ZQ (by omega)]⟩
def zV(k:Nat)(g:QH):Prop:=∀ds δ δ',g ds δ=some δ'->δ'.length=δ.length/\∀i,k<=i->δ'[i]? = δ[i]?
theorem fJ{k:Nat}:zV k dB:=by
 intro ds δ δ' e;cases ds with
 |nil=>cases e;exact⟨rfl,λ_ _=>rfl⟩|cons _ _=>cases e
theorem bh{k:Nat}{g:MG}{gs:QH}(h:Below k g)(hs:zV k gs):zV k (aP g gs):=by
 intro ds δ δ' e;cases ds with
 |nil=>cases e|cons d ds=>
   obtain⟨δ1,e1,e⟩:=ao e;obtain⟨a1,a2⟩:=h d δ δ1 e1;obtain⟨b1,b2⟩:=hs ds δ1 δ' e;exact⟨b1.trans a1,λi hi=>(b2 i hi).trans (a2 i hi)⟩
theorem gJ{k:Nat}{gs:QH}(h:zV k gs):Below k (gT gs):=by
 intro d δ δ' e;cases d with
 |tup ds=>exact h ds δ δ' e|_=>cases e
section
variable{X:Cx}{scX sc:Scope}{NX N:List Str}{k:Nat}{fv:List Nat}
theorem jX{α:Type}(k:Nat)(fv:List Nat)(δ:List (Option α)):(pick k fv δ).length=k+fv.length:=by simp[pick]
theorem xD{α:Type}{k:Nat}{fv:List Nat}{δ:List (Option α)}{i:Nat}{d:α}(h:(pick k fv δ)[i]? = some (some d)):∃t j,i=k+t/\fv[t]? = some j/\δ[j]? = some (some d):=by
 unfold pick at h;by_cases hi:i<k
 ·rw[aan (by simpa using hi),aa6]at h;split at h<;>cases h
 ·rw[abh (by simpa using hi),abe,aad]at h;cases q:fv[i-k]? with
  |none=>rw[q]at h;cases h|some j=>
    rw[q]at h;refine⟨i-k,j,by omega,q,?_⟩;exact ou (aaA h)
theorem uw{α:Type}{k:Nat}{fv:List Nat}{δ:List (Option α)}{t j:Nat}{d:α}(h:fv[t]? = some j)(hd:δ[j]? = some (some d)):(pick k fv δ)[k+t]? = some (some d):=by
 unfold pick;rw[abh (by simp),abe,aad,show k+t-k=t by omega,h];simp[slot,hd]
theorem FP{α:Type}:∀{l:List α}{i j:Nat},l.Nodup->(hi:i<l.length)->(hj:j<l.length)->l[i]=l[j]->i=j
 |[],_,_,_,hi,_,_=>absurd hi (by simp)|a::l,0,0,_,_,_,_=>rfl|a::l,0,j+1,nd,_,hj,e=>by
   rw[aaK]at nd;exact absurd (by rw[show a=l[j]'(by simpa using hj)from by simpa using e];exact aaX _) nd.1
 |a::l,i+1,0,nd,hi,_,e=>by
   rw[aaK]at nd;exact absurd (by rw[show a=l[i]'(by simpa using hi)from by simpa using e.symm];exact aaX _) nd.1
 |a::l,i+1,j+1,nd,hi,hj,e=>by
   rw[aaK]at nd;exact aaS (·+1) (FP (l:=l) nd.2 (by simpa using hi) (by simpa using hj) (by simpa using e))
theorem Iw(S:cT scX sc NX N k fv){t j:Nat}(h:fv[t]? = some j):j<NX.length:=by
 have ht:t<fv.length:=(ZV.mp h).1;obtain⟨q1,q2⟩:=S.fvs t ht;have hj:fv.getD t 0=j:=by rw[Z3,h];rfl
 rw[hj]at q1;cases e:N[k+t]? with
 |none=>rw[e]at q2;cases q2|some x=>rw[e]at q1;exact(ZV.mp q1).1
structure Blk(X:Cx)(k:Nat)(fv:List Nat)(B:Ev->Ev):Prop where
 len:∀δ,k+fv.length<=(B δ).length
 pl:∀δ i d,i<k+fv.length->(B δ)[i]? = some (some d)->∃t j,i=k+t/\fv[t]? = some j/\δ[j]? = some (some d)
 own:∀δ i,i<k->(B δ)[i]? = some none
 ow:∀δ i d,X.N.length<=δ.length->i<k+fv.length->(B δ)[i]? = some none->(B δ)[k+fv.length+i]? = some (some d)->∃t j,i=k+t/\fv[t]? = some j/\(j<X.N.length->δ[j]? = some none)/\δ[X.N.length+j]? = some (some d)
theorem v9:Blk X k fv (pick k fv):=by
 refine⟨λδ=>acw (jX k fv δ).symm,λδ i d _ h=>xD h,λδ i h=>?_,λδ i d _ _ _ h=>?_⟩
 ·unfold pick;rw[aan (by simpa using h),aa6,ZZ h]
 ·rw[aag (by rw[jX];omega)]at h;cases h
theorem Wj{B:Ev->Ev}(hB:Blk X k fv B)(S:cT scX sc NX N k fv)(hN:X.N=NX){os:List Addr}{H:Hp}{δ:Ev}{σ:L2.St}{C:Addr}{s:Shared}{fp:List Addr}(sl:Sl X os H δ σ):Sl (kO X sc N C s H fp) os H (B δ) (pick k fv σ):=by
 have hl:(kO X sc N C s H fp).N.length=k+fv.length:=S.len;refine⟨by rw[jX,hl],by rw[hl];exact hB.len δ,λi d hi h=>?_,λi d hi h1 h2=>?_,λi i' d e a hi hi' h1 h1' h2 h2' h3 h3'=>?_,sl.live,Same.refl _⟩
 ·rw[hl]at hi;obtain⟨t,j,rfl,e1,e2⟩:=hB.pl δ i d hi h;obtain⟨v,e3,r⟩:=sl.pl j d (by rw[hN];exact Iw S e1) e2;exact⟨v,uw e1 e3,r⟩
 ·rw[hl]at hi h2;obtain⟨t,j,rfl,e1,e2,e3⟩:=hB.ow δ i d sl.len hi h1 h2;have hj:j<X.N.length:=by rw[hN];exact Iw S e1
  obtain⟨a,q1,q2,_,q3⟩:=sl.ow j d hj (e2 hj) e3;exact⟨a,uw e1 q1,q2,λz=>absurd (show false=true from z) aaU,q3⟩
 ·rw[hl]at hi hi' h2 h2';obtain⟨t,j,rfl,e1,e2,e3⟩:=hB.ow δ i d sl.len hi h1 h2;obtain⟨t',j',rfl,e1',e2',e3'⟩:=hB.ow δ i' e sl.len hi' h1' h2';have hj:j<X.N.length:=by rw[hN];exact Iw S e1
  have hj':j'<X.N.length:=by rw[hN];exact Iw S e1'
  obtain⟨a1,q1,_⟩:=sl.ow j d hj (e2 hj) e3;obtain⟨a2,q1',_⟩:=sl.ow j' e hj' (e2' hj') e3';have p1:=uw (k:=k) e1 q1;have p2:=uw (k:=k) e1' q1';rw[h3]at p1;rw[h3']at p2;cases p1;cases p2;have ej:=sl.inj j j' d e a hj hj' (e2 hj) (e2' hj') e3 e3' q1 q1';subst ej;obtain⟨f1,_⟩:=S.fvs t (ZV.mp e1).1;obtain⟨f2,_⟩:=S.fvs t' (ZV.mp e1').1;have g1:fv.getD t 0=j:=by rw[Z3,e1];rfl
  have g2:fv.getD t' 0=j:=by rw[Z3,e1'];rfl
  rw[g1]at f1;rw[g2]at f2;have nd:=S.nd;have l1:k+t<N.length:=by rw[S.len];omega
  have l2:k+t'<N.length:=by rw[S.len];omega
  rw[f1,ZM l1,ZM l2]at f2;exact FP nd l1 l2 (aaA f2)
theorem Sl.back{B:Ev->Ev}{Y:Cx}(hB:Blk X k fv B)(hY:Y.N.length=k+fv.length){os:List Addr}{H:Hp}{δ δ1:Ev}{σ:L2.St}(s:Sl Y os H δ1 σ)(hx:X.N.length<=δ.length)(hl:δ1.length=(B δ).length)(hb:∀i,k<=i->δ1[i]? = (B δ)[i]?):Sl Y os H (B δ) σ:=by
 have go:∀i d,i<Y.N.length->(B δ)[i]? = some none->(B δ)[Y.N.length+i]? = some (some d)->δ1[i]? = some none/\δ1[Y.N.length+i]? = some (some d):=λi d hi h1 h2=>by
  rw[hY]at hi;obtain⟨t,j,rfl,_⟩:=hB.ow δ i d hx hi h1 (by rw[<-hY];exact h2);exact⟨(hb _ (aaT _ _)).trans h1,(hb _ (by rw[hY];omega)).trans h2⟩
 refine⟨s.n,by rw[hY];exact hB.len δ,λi d hi h=>?_,λi d hi h1 h2=>?_,λi j d e a hi hj h1 h2 h3 h4 h5 h6=>?_,s.live,s.keep⟩
 ·obtain⟨t,j,rfl,_,_⟩:=hB.pl δ i d (by rw[<-hY];exact hi) h;exact s.pl _ d hi ((hb _ (aaT _ _)).trans h)
 ·obtain⟨q1,q2⟩:=go i d hi h1 h2;exact s.ow i d hi q1 q2
 ·obtain⟨q1,q2⟩:=go i d hi h1 h3;obtain⟨q3,q4⟩:=go j e hj h2 h4;exact s.inj i j d e a hi hj q1 q3 q2 q4 h5 h6
theorem qJ{env:Env}:∀{names:List (Str×NameKind)}{x:Str},(∀y∈names,y.2≠.cell)->
 ((names.map λ(n,k)=>if(k==NameKind.free&&env.scope.kind==.function&&env.kindOf n==some .cell)then(n,NameKind.cell)else(n,k)).lookup x=some .cell\/
  (names.map λ(n,k)=>if(k==NameKind.free&&env.scope.kind==.function&&env.kindOf n==some .cell)then(n,NameKind.cell)else(n,k)).lookup x=some .free)->names.lookup x=some .free
 |[],_,_,h=>by rcases h with h|h<;>cases h
 |(n,k)::r,x,hc,h=>by
   have ih:=@qJ env r x λy hy=>hc y (Zy _ hy);rw[ZD]at h;have e1:∀q:Str×NameKind,q=(if(k==NameKind.free&&env.scope.kind==.function&&env.kindOf n==some .cell)then(n,NameKind.cell)else(n,k))->q.1=n:=λq hq=>by rw[hq];split<;>rfl
   rw[aas];have hk:=hc (n,k) ZF;cases hx:x==n with
   |true=>
     by_cases hf:k=.free
     ·subst hf;rfl
     ·have hf':(k==NameKind.free)=false:=by simpa using hf
      simp only[hf',Bool.false_and,aa3,abT,aas,hx]at h;rcases h with h|h
      ·cases h;exact absurd rfl hk
      ·cases h;exact absurd rfl hf
   |false=>
     refine ih ?_;by_cases hq:(k==NameKind.free&&env.scope.kind==.function&&env.kindOf n==some .cell)=true
     ·simpa only[hq,abL,aas,hx]using h
     ·simpa only[hq,aa3,abT,aas,hx]using h
theorem rF{x:Str}{k:NameKind}:∀{names:List (Str×NameKind)},names.lookup x=some k->(x,k)∈names
 |[],h=>by cases h|(n,j)::r,h=>by
   rw[aas]at h;cases hx:x==n with
   |true=>
     rw[hx]at h;cases h;have:=eq_of_beq hx;subst this;exact ZF
   |false=>
     rw[hx]at h;exact Zy _ (rF h)
theorem Kz{pins:List (Addr×Obj)}{σ:L2.St}{H:Hp}{s:Shared}{fp:List Addr}{h1:Heap}{tk:Nat}{m:Str->Option Value}{C:Addr}(I:Inv X pins σ H s)(S:cT scX sc NX N k fv)(hX:X.env.scope=scX)(hN:X.N=NX)
 (hf:∀b∈fp,mO X pins H b) (hfl:∀b∈fp,b<s.heap.objs.size) (hC:s.heap.objs.size<=C) (hns:h1.Ns C m) (kept:∀b o,s.heap.get? b=some o->h1.get? b=some o):
 Inv (kO X sc N C s H fp) [] (pick k fv σ) H {s with heap:=h1,toks:=tk}:=by
 have hcl:∀x c,(tL X.env.cells sc.names).lookup x=some c->X.env.cells.lookup x=some c:=λx c h=>rK (abn h);have hfree:∀x,sc.names.lookup x=some .free->X.env.kindOf x=some .cell:=λx h=>by
  have:=S.freeX (x,.free) (rF h) rfl;show X.env.scope.names.lookup x=_;rw[hX];exact this
 have hkind:X.env.scope.kind=.function:=I.ok.kind;have hrel:∀x,sc.names.lookup x=some .free->(relabel sc X.env).names.lookup x=some .cell\/(relabel sc X.env).names.lookup x=some .free:=λx h=>by
  have go:∀(names:List (Str×NameKind)),names.lookup x=some .free->(names.map λ(n,k)=>if(k==NameKind.free&&X.env.scope.kind==.function&&X.env.kindOf n==some .cell)then(n,NameKind.cell)else(n,k)).lookup x=some .cell\/
   (names.map λ(n,k)=>if(k==NameKind.free&&X.env.scope.kind==.function&&X.env.kindOf n==some .cell)then(n,NameKind.cell)else(n,k)).lookup x=some .free:=by
   intro names;induction names with
   |nil=>intro h;cases h|cons y r ih=>
     obtain⟨n,j⟩:=y;intro h;rw[aas]at h;rw[ZD];by_cases hq:(j==NameKind.free&&X.env.scope.kind==.function&&X.env.kindOf n==some .cell)=true
     ·simp only[hq,abL,aas];cases hx:x==n with
      |true=>exact .inl rfl|false=>rw[hx]at h;exact ih h
     ·simp only[hq,aa3,abT,aas];cases hx:x==n with
      |true=>rw[hx]at h;cases h;exact .inr rfl|false=>rw[hx]at h;exact ih h
  exact go sc.names h
 have stk:∀b∈frs X.stack,b∈X.env.locals::X.fs:=I.stkSub;have neC:∀b,b<s.heap.objs.size->b≠C:=λb hb=>Z1 (ZX hb hC);have hall:∀x,(X.env.kindOf x=some .cell\/X.env.kindOf x=some .free)->∃c,X.env.cells.lookup x=some c:=I.ok.has;have okY:(kO X sc N C s H fp).Ok:=by
  refine⟨I.ok.mod,S.kind,I.ok.glob,I.ok.blt,hC,λx y c h1 h2=>I.ok.inj x y c (hcl x c h1) (hcl y c h2),λx hx=>?_,λx c h _=>?_,I.ok.hd,I.ok.frames,.inl rfl,λb hb=>?_,I.bs,aaV I.ok.bsz I.sz,λb o e hb=>?_,λb hb hb'=>?_,I.stack,I.stkFree⟩
  ·have hx':sc.names.lookup x=some .free:=qJ (env:=X.env) S.nocell hx;obtain⟨c,hc⟩:=hall x (.inl (hfree x hx'));exact km (v5 hc (rF hx'))
  ·exact absurd (show false=true from h) aaU
  ·exact⟨neC b (hfl b hb),λx c e=>(hf b hb).2.2.2.2.1 x c (hcl x c e)⟩
  ·have hf':=(hf b hb).2.2.2.1;rcases hf' with z|z
   ·exact I.ok.noex b o e z
   ·exact absurd (ZX (ZG e) (aaV I.ok.bsz z)) (abk _)
  ·rcases ZP.mp (stk b hb')with z|z
   ·exact(hf b hb).2.1 z
   ·exact(hf b hb).2.2.1 z
 refine⟨okY,rfl,I.bare,Un.kept kept,⟨m,hns,λi x v e1 e2 e3=>?_⟩,λx c e=>?_,I.hok.fresh hC,λx c e=>I.freeC x c (hcl x c e),λp hp=>absurd (show p∈([]:List (Addr×Obj))from hp) (by simp),I.hok.kept kept,?_⟩
 ·obtain⟨t,j,rfl,f1,f2⟩:=xD e2;have ht:t<fv.length:=(ZV.mp f1).1;obtain⟨q1,q2⟩:=S.fvs t ht;have hj:fv.getD t 0=j:=by rw[Z3,f1];rfl
  rw[hj]at q1;have e1':N[k+t]? = some x:=e1;rw[e1']at q1 q2;have q2':sc.names.lookup x=some .free:=q2;obtain⟨m0,_,hl⟩:=I.loc;obtain⟨u,r,l⟩:=hl j x v (by rw[hN];exact q1) f2 (.inr (.inl (hfree x q2')));refine⟨u,r,.inr ⟨hrel x q2',?_⟩⟩;rcases l with⟨kx,_⟩|⟨_,c,ec,ic⟩
  ·rw[hfree x q2']at kx;cases kx
  ·obtain⟨c',hc'⟩:=km (v5 ec (rF q2'));have:c'=c:=by
    have:=hcl x c' hc';rw[ec]at this;exact(aaA this).symm
   subst this;obtain⟨o,ho,hd⟩:=ic;exact⟨c',hc',o,kept _ _ ho,hd⟩
 ·obtain⟨v,o,ho,hd⟩:=I.cell x c (hcl x c e);exact⟨v,o,kept _ _ ho,hd⟩
 ·rw[jX];exact S.len.symm
end
section
variable{X:Cx}{scX sc:Scope}{NX N:List Str}{k:Nat}{fv:List Nat}
noncomputable def G6(M:Model)(A:Around)(env:Env)(Er:Value->Shared->Prop)(k:Bool->Shared->Prop):List Expr->Shared->Prop
 |[],s=>k true s|[c],s=>wpAny M A (isTrue c env (eval c env)) k Er s|_,_=>False
theorem JP{Y:Cx}{os:List Addr}{pins:List (Addr×Obj)}{σ:L2.St}{H:Hp}{s:Shared}{δ:Ev}{b:Bool}{mc:MT}{Er:Value->Shared->Prop}{k:Bool->Shared->Prop}{ifs:List Expr}(h:zU Y ifs mc)(I:Inv Y pins σ H s)(sl:Sl Y os H δ σ)(e:mc δ=some b)
 (hk:∀s' H',Inv Y pins σ H' s'->Same H H'->k b s') (hx:∀v s',Y.xe v s'->Er v s'):G6 (model Y.prog Y.w) Y.A Y.env Er k ifs s:=by
 match ifs,h with
 |[],h=>
   have h':mc=tT:=h;subst h';cases e;exact hk s H I (Same.refl _)
 |[c],h=>
   obtain⟨t,p,q⟩:=(show DT Y c mc from h);refine aa5 (p pins s σ H (λz H'=>z=b/\Same H H') I (q os σ H δ b _ sl e λH' g=>⟨rfl,g⟩)) (λz s' r=>?_) hx;obtain⟨H',I',rfl,g'⟩:=r;exact hk s' H' I' g'
theorem R8{prog:Program}{w:World}{A:Around}{R:Result->Shared->Prop}{s:Shared}{elt target iter:Expr}{ifs:List Expr}{scope:Scope}{pos:Pos}{it acc:Value}{env:Env}(hi:ifs.length<=1)(J:Nat->Shared->Prop)
 (round:∀n s,J n s->wpAny (model prog w) A (pyNext it) (λr s1=>r.elim (R (.ok .next) s1) λv=>
  wpAny (model prog w) A (letOwnedTupleGo target it v) (λ_ s2=>wpAny (model prog w) A (assign target env v) (λ_ s3=>
   G6 (model prog w) A env (notedBy (model prog w) A env λx z=>R (.error x) z) (λok s4=>if ok=true then
    wpAny (model prog w) A (eval elt env) (λx s5=>wpAny (model prog w) A (call (.builtin "list.append") [acc,x]) (λ_ s6=>∃m,m<n/\J m s6) (notedBy (model prog w) A env λx z=>R (.error x) z) s5) (notedBy (model prog w) A env λx z=>R (.error x) z) s4
    else ∃m,m<n/\J m s4) ifs s3)
   (notedBy (model prog w) A env λx z=>R (.error x) z) s2) (notedBy (model prog w) A env λx z=>R (.error x) z) s1) (notedBy (model prog w) A env λx z=>R (.error x) z) s)
 (n:Nat) (h:J n s):codeAny (model prog w) A (.compLoop (.ListComp elt [⟨target,iter,ifs,0⟩] scope pos) 0 it acc env) R s:=by
 match ifs,hi,round with
 |[],_,round=>
   refine PySem.W.kcp_loop J (λn s hJ=>aa5 (round n s hJ) (λr s1 q=>?_) λ_ _ q=>q) n h;cases r with
   |none=>exact q|some v=>exact aa5 q (λ_ s2 q=>aa5 q (λ_ s3 q=>by simpa only[G6,abL]using q) λ_ _ q=>q) λ_ _ q=>q
 |[c],_,round=>
   refine PySem.W.kct_loop J (λn s hJ=>aa5 (round n s hJ) (λr s1 q=>?_) λ_ _ q=>q) n h;cases r with
   |none=>exact q|some v=>exact q
 |_::_::_,hi,_=>exact absurd hi (by simp)
theorem Lj{pins:List (Addr×Obj)}{σ σ':L2.St}{H H':Hp}{s s':Shared}{fp:List Addr}{C D:Addr}{its:List Value}{cnt:Nat}{vs:List V}{h':Heap}(I:Inv X pins σ H s)(hf:∀b∈fp,mO X pins H b)(hD:s.heap.objs.size<=D)(hDC:D≠C)(hC:s.heap.objs.size<=C)
 (J:Inv (kO X sc N C s H fp) [(D,{cls:=.type "list",data:=.seq its.toArray cnt})] σ' H' s') (rv:Vals vs its) (hz:vs.length<=sizeLine) (sb:Heap.SameBut C s'.heap h'):
 Inv X pins σ (upd H' D (.lst vs)) {s' with heap:=h'}:=by
 obtain⟨eD,nD,_,_,_⟩:=J.pin (D,{cls:=.type "list",data:=.seq its.toArray cnt}) (by simp);have nC:H' C=none:=J.free;have kp:∀b o,b≠C->s'.heap.get? b=some o->h'.get? b=some o:=λb o hb e=>(sb.2 b hb).trans e;have ltC:∀b,b<s.heap.objs.size->b≠C:=λb hb=>Z1 (ZX hb hC);have ltD:∀b,b<s.heap.objs.size->b≠D:=λb hb=>Z1 (ZX hb hD);have un:=J.base;have u2:Un (frs X.stack) fp H (upd H' D (.lst vs)) s.heap h':=by
  refine⟨λb o e n h1 h2=>kp b o (ltC b (ZG e)) (un.keep b o e n h1 h2),λb o e n h1 h2=>?_,λb o e n h2=>?_,λb o e h2=>?_,λb xs e=>?_,λb o u e=>?_,λb ps e=>?_⟩
  ·obtain⟨sl,q⟩:=un.slot b o e n h1 h2;exact⟨sl,kp b _ (ltC b (ZG e)) q⟩
  ·rw[aR (ltD b (ZG e))];exact un.free b o e n h2
  ·obtain⟨o',q⟩:=un.there b o e h2;exact⟨o',kp b o' (ltC b (ZG e)) q⟩
  ·have q:=un.tups b xs e;rw[aR (bx q nD)];exact q
  ·have q:=un.frzs b o u e;rw[aR (bx q nD)];exact q
  ·obtain⟨more,q⟩:=un.tbls b ps e;exact⟨more,by rw[aR (bx q nD)];exact q⟩
 have hok:HOk X.prog X.w (upd H' D (.lst vs)) h':=by
  intro b u e;by_cases hb:b=D
  ·subst hb;rw[aY]at e;cases e;exact⟨hz,its,cnt,rv,kp _ _ hDC eD⟩
  ·rw[aR hb]at e;refine(J.hok b u e).stay (λc v hc q=>kp c v ?_ q) (λc q=>by rw[aR (bx q nD)];exact q) λc xs q=>by rw[aR (bx q nD)];exact q
   rcases hc with z|z
   ·rw[z];exact bx e nC
   ·exact bx z nC
 exact I.call' (s':={s' with heap:=h'}) (ch:=fp) J.os u2 hok J.bare λb hb=>⟨(hf b hb).2.2.2.1,(hf b hb).2.1,(hf b hb).2.2.2.2.1,(hf b hb).2.2.2.2.2⟩
theorem v4{use:Option (Value->Sem Unit)}{QQ:Value->Shared->Prop}{elt tg iter:Expr}{ifs:List Expr}{pos:Pos}{mi:MI}{g:MG}{mc:MT}{me:ME}{B:Ev->Ev}(hB:Blk X k fv B)(hc:X.calm=true)(S:cT scX sc NX N k fv)(hX:X.env.scope=scX)(hN:X.N=NX)(hi:DI X tg iter mi)(hbl:Below k g)(hil:ifs.length<=1)
 {os:List Addr} {H0:Hp} (J:Hp->List D->List V->Prop) (J0:∀H,J H [] []) (Jm:∀{H H' ys vs},Same H H'->J H ys vs->J H' ys vs) (Jl:∀{H ys vs},J H ys vs->ys.length=vs.length)
 (hb:∀C s H fp,DG (kO X sc N C s H fp) tg g/\zU (kO X sc N C s H fp) ifs mc/\∃tE:TE,PE (kO X sc N C s H fp) elt tE/\∀σ' H7 δ1 dd,Sl (kO X sc N C s H fp) os H7 δ1 σ'->Same H0 H7->me δ1=some dd->tE σ' H7 λv H8=>Same H7 H8/\∀ys vs,J H7 ys vs->J H8 (ys++[dd]) (vs++[v]))
 (hs:∀x,foldedSetIterable iter X.env x=pure x:=by intro _;rfl)
 {pins:List (Addr×Obj)} {s:Shared} {σ:L2.St} {δ:Ev} {d:D} (I:Inv X pins σ H0 s) (sl:Sl X os H0 δ σ) (m:nP B mi g mc me δ=some d)
 (fin:∀(Cc Dd:Addr)(s4:Shared)(Hd:Hp),(∀h',Heap.SameBut Cc s4.heap h'->Inv X pins σ Hd {s4 with heap:=h'})->(∃m,s4.heap.Ns Cc m)->mO X pins Hd Cc->Same H0 Hd->H0 Dd=none->(∃H3 ys vs,d=.lst ys/\J H3 ys vs/\H3 Dd=none/\Hd=upd H3 Dd (.lst vs))->
  compPost (model X.prog X.w) X.A X.xe use QQ (.ref Dd) Cc (.ok .next) s4):
 wpAny (model X.prog X.w) X.A (comprehension (.ListComp elt [⟨tg,iter,ifs,0⟩] sc pos) sc X.env (firstIterPos [⟨tg,iter,ifs,0⟩] pos) (newList []) (firstAsync [⟨tg,iter,ifs,0⟩]) (firstIter [⟨tg,iter,ifs,0⟩] X.env) use) QQ X.xe s:=by
 obtain⟨wi,pi,qi⟩:=hi;obtain⟨xs,e1,m⟩:=ao m;have m':(if xs.length<=16777216 then(ug (λx=>(g x (B δ)).bind λδ1=>(mc δ1).bind λb=>if b=true then(me δ1).bind λd=>some (some d)else some none) xs).bind λr=>some (D.lst r)else none)=some d:=m;split at m'
 case isFalse=>cases m'
 rename_i hlen;obtain⟨r,e2,m'⟩:=ao m';cases m';have hsl:sizeLine=16777216:=aaL;have hcells:∀y∈sc.names,y.2=.free->∃c,X.env.cells.lookup y.1=some c:=λy hy hf=>I.ok.has y.1 (.inl (by show X.env.scope.names.lookup y.1=_;rw[hX];exact S.freeX y hy hf));refine wpAny_comprehension_free (use:=use) rfl hs (GP hcells) S.kind S.names (cW (pi pins s σ H0 (λJ H'=>Same H0 H'/\Walk X.K J (hide os H') xs) I (qi os σ H0 δ xs _ sl e1 λJ H' g w=>⟨g,w⟩)) λv s1 h1=>cW h1 λitv s2 h2=>?_);obtain⟨it,fp,tn,JJ,H2,rfl,I2,T,st2,f2,g2,wk⟩:=h2;have hfl:∀b∈fp,b<s2.heap.objs.size:=λb hb=>let ⟨o,e,_⟩:=T.obj _ _ st2 b hb;ZG e
 refine aa7 (wpAny_newFunctionEnv S.nocell (by intro y hy;simp at hy) (λh₁ hns₁ hsb₁=>?_) S.kind);dsimp only at hns₁ hsb₁ ⊢;generalize hP2:s2.heap.push {cls:=.type "list",dict:=none,data:=.seq ([]:List Value).toArray}=P2 at hns₁ hsb₁ ⊢;generalize hDd:s2.heap.objs.size=Dd;generalize hCc:P2.objs.size=Cc at hns₁ hsb₁ ⊢;have hC1:Cc=Dd+1:=by rw[<-hCc,<-hP2,aaZ,hDd]
 have hDC:Dd≠Cc:=λe=>by rw[hC1]at e;exact absurd e (Z1 (abH _))
 have ltC:∀b:Addr,b<s2.heap.objs.size->b≠Cc:=λb hb e=>by rw[e,hC1,<-hDd]at hb;exact absurd (Nat.lt_of_succ_lt hb) (abk _)
 have ltD:∀b:Addr,b<s2.heap.objs.size->b≠Dd:=λb hb e=>by rw[e,<-hDd]at hb;exact absurd hb (abk _)
 have leC:s2.heap.objs.size<=Cc:=by rw[hC1,hDd];exact ac4 _
 have old:∀b o,s2.heap.get? b=some o->h₁.get? b=some o:=λb o e=>
  hsb₁.extBut b o (ltC b (ZG e)) (Zz _ (hP2▸Zz _ e))
 have hacc:h₁.get? Dd=some {cls:=.type "list",data:=.seq ([]:List Value).toArray 0}:=
  hsb₁.extBut _ _ hDC (Zz _ (by rw[<-hP2,<-hDd];exact ZR _ rfl))
 have fpD:∀b∈fp,b≠Dd:=λb hb=>ltD b (hfl b hb);obtain⟨⟨tG,pG,qG⟩,hI,tE,pE,qE⟩:=hb Cc s2 H2 fp;have loop:∀s₃:Shared,s₃={s2 with heap:=h₁,toks:=s2.toks+([]:List (Str×Value)).length}->
  codeAny (model X.prog X.w) X.A (.compLoop (.ListComp elt [⟨tg,iter,ifs,0⟩] sc pos) 0 (.ref it) (.ref Dd) (compEnvC sc (tL X.env.cells sc.names) Cc X.env))
   (compPost (model X.prog X.w) X.A X.xe use QQ (.ref Dd) Cc) s₃:=by
  rintro s₃ rfl;have I0:Inv (kO X sc N Cc s2 H2 fp) [] (pick k fv σ) H2 {s2 with heap:=h₁,toks:=s2.toks+([]:List (Str×Value)).length}:=
   Kz I2 S hX hN f2 hfl leC hns₁ old
  have nfs:Dd∉(kO X sc N Cc s2 H2 fp).fs:=λz=>by
   rcases ZP.mp (I2.stkSub Dd z)with e|e
   ·exact ltD _ I2.lt e.symm
   ·exact I2.nofs (acw hDd) e
  have cne:∀x c,(kO X sc N Cc s2 H2 fp).env.cells.lookup x=some c->c≠Dd:=λx c e z=>by
   obtain⟨v,o,ho,_⟩:=I2.cell x c (rK (abn e));exact ltD _ (ZG ho) z
  have I0':Inv (kO X sc N Cc s2 H2 fp) [(Dd,{cls:=.type "list",data:=.seq ([]:List Value).toArray 0})] (pick k fv σ) H2 {s2 with heap:=h₁,toks:=s2.toks+([]:List (Str×Value)).length}:=by
   refine I0.pins_of λp hp=>?_;have hp':p=(Dd,{cls:=.type "list",data:=.seq ([]:List Value).toArray 0}):=by simpa using hp
   subst hp';exact⟨hacc,I2.hok.fresh (acw hDd),hDC,nfs,λv z=>nomatch z⟩
  have statF:∀{H':Hp}{o:Obj},(∀b∈fp,H' b=none)->∀b∈fp,mO (kO X sc N Cc s2 H2 fp) [(Dd,o)] H' b:=λ{H' o} hn b hb=>by
   refine⟨hn b hb,?_,?_,.inl hb,λx c e=>(f2 b hb).2.2.2.2.1 x c (rK (abn e)),λp hp=>?_⟩
   ·exact ltC b (hfl b hb)
   ·intro z;rcases ZP.mp (I2.stkSub b z)with e|e
    ·exact(f2 b hb).2.1 e
    ·exact(f2 b hb).2.2.1 e
   ·have hp':p=(Dd,o):=by simpa using hp
    subst hp';exact(fpD b hb).symm
  have st1:tn 0 h₁:=T.keep _ _ _ st2 λb hb o e=>old b o e;refine R8 hil (λn s'=>∃(i:Nat)(σ':L2.St)(H':Hp)(its:List Value)(cnt:Nat)(vs:List V)(ys rest:List D),
   Inv (kO X sc N Cc s2 H2 fp) [(Dd,{cls:=.type "list",data:=.seq its.toArray cnt})] σ' H' s'/\Vals vs its/\tn i s'.heap/\(∀b∈fp,H' b=none)/\Same H2 H'/\Sl (kO X sc N Cc s2 H2 fp) os H' (B δ) σ'/\J H' ys vs/\
   ug (λx=>(g x (B δ)).bind λδ1=>(mc δ1).bind λb=>if b=true then(me δ1).bind λd=>some (some d)else some none) (xs.drop i)=some rest/\ys++rest=r/\i<=xs.length/\ys.length<=i/\n=xs.length-i) ?_ xs.length
   ⟨0,_,H2,[],0,[],[],r,I0',.nil,st1,λb hb=>(f2 b hb).1,Same.refl _,Wj hB S hN (sl.mono g2),J0 _,by simpa using e2,rfl,aap _,ZS _,by simp⟩
  rintro n s3 ⟨i,σ3,H3,its,cnt,vs,ys,rest,I3,rv,st3,fr3,g3,sl3,dv,cm,hr,hi,hyl,rfl⟩;by_cases hlt:i<xs.length
  ·have hx:xs[i]? = some xs[i]:=ZM hlt;obtain⟨go,yl⟩:=(wk i os H3 sl3.live g3.hd).1 _ hx;rw[ab7 hlt,ug]at cm;obtain⟨o,e3,cm⟩:=ao cm;obtain⟨rest',e4,cm⟩:=ao cm;obtain⟨δ1,e5,e3⟩:=ao e3;obtain⟨b,e6,e3⟩:=ao e3;refine cW (T.item (kO X sc N Cc s2 H2 fp) rfl rfl rfl hc i _ s3 σ3 H3 _ I3 (statF fr3) st3 go) λrr s4 ⟨u,hrr,h4⟩=>?_;subst hrr;refine cW h4 λ_ s5 ⟨x,H5,I5,r5,y5,st5,fr5⟩=>?_;obtain⟨g5,dx⟩:=yl x H5 y5;have I5':=I5.pinned (statF fr5) (T.obj _ _ st5);refine aa5 (pG _ s5 σ3 H5 x u (λσ6 H6=>Same H5 H6/\Sl (kO X sc N Cc s2 H2 fp) os H6 δ1 σ6) I5' r5 (qG os x σ3 H5 _ (B δ) δ1 _ (sl3.mono g5) dx e5 λσ6 H6 g6 s6=>⟨g6,s6⟩)) (λ_ s6 r6=>?_) λ_ _ z=>z.elim;obtain⟨σ6,H6,I6,g6,sl6⟩:=r6;refine JP hI I6 sl6 e6 (λs7 H7 I7 g7=>?_) λ_ _ z=>z.elim;obtain⟨bl1,bl2⟩:=hbl _ _ _ e5;have g37:Same H3 H7:=g5.trans (g6.trans g7);have sl7:Sl (kO X sc N Cc s2 H2 fp) os H7 (B δ) σ6:=(sl6.mono g7).back hB S.len sl.len bl1 bl2;cases b with
   |false=>
     rw[aaa aaU]at e3;cases e3;cases cm;rw[aaa aaU];refine⟨xs.length-(i+1),by omega,i+1,σ6,H7,its,cnt,vs,ys,rest',?_,rv,?_,?_,g3.trans g37,sl7,Jm g37 dv,e4,hr,hlt,by omega,rfl⟩
     ·exact I7.unpinned
     ·exact T.keep _ _ _ st5 λb hb o e=>(I7.pin (b,o) (Z4 _ (Z4 _ (fG hb e)))).1
     ·intro b hb;obtain⟨o,e,_⟩:=T.obj _ _ st5 b hb;exact(I7.pin (b,o) (Z4 _ (Z4 _ (fG hb e)))).2.1
   |true=>
     rw[ZZ rfl]at e3;obtain⟨dd,e7,e3⟩:=ao e3;cases e3;cases cm;rw[ZZ rfl];refine aa5 (pE _ s7 σ6 H7 _ I7 (qE σ6 H7 δ1 dd (sl6.mono g7) (g2.trans (g3.trans g37)) e7)) (λu8 s8 r=>?_) λ_ _ z=>z.elim;obtain⟨v8,H8,I8,r8,g8,den8⟩:=r;obtain⟨eD,nD,neD,nfD,_⟩:=I8.pin (Dd,{cls:=.type "list",data:=.seq its.toArray cnt}) (Z4 _ (aaR _ (ZW.mpr rfl)));have hlv:its.length=ys.length:=by rw[<-rv.length,<-Jl dv]
     refine acv acC ⟨_,eD,rfl⟩ F.entry_list_append (F.args_list_append_2 _ _) (PySem.list_append Dd its.toArray cnt u8 (by rw[ZJ];omega)) ⟨eD,?_⟩;have hpush:its.toArray.push u8=(its++[u8]).toArray:=by simp
     obtain⟨cnt',q⟩:∃c,(s8.heap.update Dd (Obj.mapSeq (·.push u8))).get? Dd=some {cls:=.type "list",data:=.seq (its++[u8]).toArray c}:=
      ⟨_,by have q:=PySem.IsL.update eD (·.push u8);rw[hpush]at q;exact q⟩
     have I9:=(I8.pins_of (pins':=[]) λp hp=>absurd hp (by simp)).turned (it:=Dd) (h':=s8.heap.update Dd (Obj.mapSeq (·.push u8))) (t':=s8.toks)
      (λb o hb e=>(aaB s8.heap _ (aal hb)).trans e) nD neD (.inr (acw hDd)) cne (λp hp=>absurd hp (by simp))
     refine⟨xs.length-(i+1),by omega,i+1,σ6,H8,its++[u8],cnt',vs++[v8],ys++[dd],rest',I9.pins_of λp hp=>?_,rv.append (.cons r8 .nil),?_,?_,g3.trans (g37.trans g8),sl7.mono g8,den8 _ _ (Jm g37 dv),e4,?_,hlt,?_,rfl⟩
     ·have hp':=ZW.mp hp;subst hp';exact⟨q,nD,neD,nfD,λv z=>nomatch z⟩
     ·refine T.keep _ _ _ st5 λb hb o e=>?_;have:=(I8.pin (b,o) (Z4 _ (Z4 _ (fG hb e)))).1;exact(aaB s8.heap _ (aal (fpD b hb))).trans this
     ·intro b hb;obtain⟨o,e,_⟩:=T.obj _ _ st5 b hb;exact(I8.pin (b,o) (Z4 _ (Z4 _ (fG hb e)))).2.1
     ·rw[aa8];exact hr
     ·rw[Z6,acD];omega
  ·have e:i=xs.length:=by omega
   subst e;rw[adq]at cm;cases cm;rw[abD]at hr;subst hr;refine cW (T.done (kO X sc N Cc s2 H2 fp) rfl rfl rfl hc _ _ s3 σ3 H3 _ I3 (statF fr3) st3 ((wk _ os H3 sl3.live g3.hd).2 rfl)) λrr s4 ⟨hrr,I4⟩=>?_;subst hrr;obtain⟨mm,hnn,_⟩:=I4.loc;have hlv:=Jl dv;have nD:H3 Dd=none:=(I4.pin (Dd,{cls:=.type "list",data:=.seq its.toArray cnt}) (Z4 _ (ZW.mpr rfl))).2.1;exact fin Cc Dd s4 _ (λh' sb=>Lj I2 f2 (acw hDd) hDC leC I4 rv (by omega) sb) ⟨mm,hnn⟩ (I2.fpOk leC ((aR hDC.symm).trans I4.free)) (g2.trans (g3.trans (bB nD _))) ((g2.trans g3).free nD) ⟨H3,_,vs,rfl,dv,nD,rfl⟩
 exact codeAny_compStart_list (loop _ rfl) (T.self X.A 0 _ _ _ (T.keep _ _ _ st2 λb hb o e=>old b o e) (loop _ rfl))
theorem yf{use:Option (Value->Sem Unit)}{QQ:Value->Shared->Prop}{elt tg iter:Expr}{ifs:List Expr}{pos:Pos}{mi:MI}{g:MG}{mc:MT}{me:ME}{B:Ev->Ev}(hB:Blk X k fv B)(hc:X.calm=true)(S:cT scX sc NX N k fv)(hX:X.env.scope=scX)(hN:X.N=NX)(hi:DI X tg iter mi)(hbl:Below k g)(hil:ifs.length<=1)
 (hb:∀C s H fp,DG (kO X sc N C s H fp) tg g/\zU (kO X sc N C s H fp) ifs mc/\DE (kO X sc N C s H fp) elt me)
 (hs:∀x,foldedSetIterable iter X.env x=pure x:=by intro _;rfl)
 {pins:List (Addr×Obj)} {s:Shared} {σ:L2.St} {H:Hp} {os:List Addr} {δ:Ev} {d:D} (I:Inv X pins σ H s) (sl:Sl X os H δ σ) (m:nP B mi g mc me δ=some d)
 (fin:∀(Cc Dd:Addr)(s4:Shared)(Hd:Hp),(∀h',Heap.SameBut Cc s4.heap h'->Inv X pins σ Hd {s4 with heap:=h'})->(∃m,s4.heap.Ns Cc m)->mO X pins Hd Cc->Same H Hd->H Dd=none->Own X.K (hide (Dd::os) Hd) Hd Dd d->
  compPost (model X.prog X.w) X.A X.xe use QQ (.ref Dd) Cc (.ok .next) s4):
 wpAny (model X.prog X.w) X.A (comprehension (.ListComp elt [⟨tg,iter,ifs,0⟩] sc pos) sc X.env (firstIterPos [⟨tg,iter,ifs,0⟩] pos) (newList []) (firstAsync [⟨tg,iter,ifs,0⟩]) (firstIter [⟨tg,iter,ifs,0⟩] X.env) use) QQ X.xe s:=by
 refine v4 (os:=os) (H0:=H) hB hc S hX hN hi hbl hil (λH ys vs=>Dens X.K (hide os H) ys vs) (λ_=>.nil) (λg h=>h.mono g.hd _ _) (λh=>h.length) (λC s' H' fp=>?_) hs I sl m λCc Dd s4 Hd a1 a2 a3 a4 a5 a6=>?_
 ·obtain⟨h1,h2,tE,pE,qE⟩:=hb C s' H' fp;exact⟨h1,h2,tE,pE,λσ' H7 δ1 dd s1 _ e=>qE os σ' H7 δ1 dd _ s1 e λv H8 g8 r8=>⟨g8,λys vs h=>(h.mono g8.hd _ _).append (.cons r8 .nil)⟩⟩
 ·obtain⟨H3,ys,vs,rfl,h1,h2,rfl⟩:=a6;exact fin Cc Dd s4 _ a1 a2 a3 a4 a5 ⟨vs,aY,h1.mono (H9 h2 _) _ _⟩
theorem PP{elt tg iter:Expr}{ifs:List Expr}{pos:Pos}{mi:MI}{g:MG}{mc:MT}{me:ME}{B:Ev->Ev}(hB:Blk X k fv B)(hc:X.calm=true)(S:cT scX sc NX N k fv)(hX:X.env.scope=scX)(hN:X.N=NX)(hi:DI X tg iter mi)(hbl:Below k g)(hil:ifs.length<=1)
 (hb:∀C s H fp,DG (kO X sc N C s H fp) tg g/\zU (kO X sc N C s H fp) ifs mc/\DE (kO X sc N C s H fp) elt me)
 (hs:∀x,foldedSetIterable iter X.env x=pure x:=by intro _;rfl):
 DF X (.ListComp elt [⟨tg,iter,ifs,0⟩] sc pos) (nP B mi g mc me):=by
 refine⟨λσ H Q=>∃os δ d,Sl X os H δ σ/\nP B mi g mc me δ=some d/\(∀p H',Same H H'->H p=none->Own X.K (hide (p::os) H') H' p d->Q (.ref p) H'),?_,λos σ H δ d Q s m k=>⟨os,δ,d,s,m,k⟩⟩;intro pins s σ H Q I h;obtain⟨os,δ,d,sl,m,kq⟩:=h;rw[eval_ListComp];refine yf (use:=none) hB hc S hX hN hi hbl hil hb hs I sl m λCc Dd s4 Hd hI hns _ g hn ow=>?_;obtain⟨mm,hnn⟩:=hns;exact⟨mm,hnn,λh' sb=>⟨.ref Dd,Hd,hI h' sb,rfl,kq _ _ g hn ow⟩⟩
def U3(X:Cx)(i:Nat)(m:ME):TS:=λD σ H=>∃os δ d,Sl X os H δ σ/\m δ=some d/\∀p H',Same H H'->H p=none->Own X.K (hide (p::os) H') H' p d->D.nx (σ.set i (some (.ref p))) H'
theorem Nk{x:Str}{p2 spos:Pos}{i:Nat}{elt tg iter:Expr}{ifs:List Expr}{pos:Pos}{mi:MI}{g:MG}{mc:MT}{me:ME}{B:Ev->Ev}(hB:Blk X k fv B)(hc:X.calm=true)(S:cT scX sc NX N k fv)(hX:X.env.scope=scX)(hN:X.N=NX)(hi:DI X tg iter mi)(hbl:Below k g)(hil:ifs.length<=1)
 (hb:∀C s H fp,DG (kO X sc N C s H fp) tg g/\zU (kO X sc N C s H fp) ifs mc/\DE (kO X sc N C s H fp) elt me) (hpg:PG X (.Name x p2) (gG i))
 (hsw:swapsWith (.ListComp elt [⟨tg,iter,ifs,0⟩] sc pos) (some (.Name x p2)) spos.line X.env=pure true) (hs:∀x,foldedSetIterable iter X.env x=pure x):
 PS X (.Assign [.Name x p2] (.ListComp elt [⟨tg,iter,ifs,0⟩] sc pos) spos) (U3 X i (nP B mi g mc me)):=by
 intro pins s σ H D I h;obtain⟨os,δ,d,sl,m,kq⟩:=h;rw[exec_Assign_Name_used _ _ _ _ hsw];refine vz (wpAny_standAt (vz ?_));show wpAny _ _ (comprehension (.ListComp elt [⟨tg,iter,ifs,0⟩] sc pos) sc X.env (firstIterPos [⟨tg,iter,ifs,0⟩] pos) (newList []) (firstAsync [⟨tg,iter,ifs,0⟩]) (firstIter [⟨tg,iter,ifs,0⟩] X.env) (some (assign (.Name x p2) X.env)) >>= λ_=>pure ()) _ _ _;refine vz (yf (use:=some (assign (.Name x p2) X.env)) hB hc S hX hN hi hbl hil hb hs I sl m λCc Dd s4 Hd hI hns hf gs hn ow=>?_);obtain⟨mm,o,es,ep,ho,hr⟩:=hns;have J:Inv X pins σ Hd s4:=hI s4.heap (acF _ _);have hnc:∀v,o.data≠.cell v:=λv z=>by
  rw[hr.1]at z;cases z
 have J':=J.pinned (fp:=[Cc]) (λb hb=>by rw[ZW.mp hb];exact hf) (λb hb=>by rw[ZW.mp hb];exact⟨o,ho,hnc⟩);refine aa5 (hpg _ s4 σ Hd (.ref Dd) (.ref Dd) (λσ' H'=>D.nx σ' H') J' rfl (kq Dd Hd gs hn ow)) (λ_ s5 q=>?_) λ_ _ z=>z;obtain⟨σ',H',J5,q5⟩:=q;have pin:=J5.pin (Cc,o) (Z4 _ (Z4 _ (fG (by simp) ho)));refine⟨mm,⟨o,es,ep,pin.1,hr⟩,λh' sb=>ZC (ZC ?_)⟩;have J6:=J5.unpinned;exact⟨σ',H',J6.turned (it:=Cc) (h':=h') (t':=s5.toks) (λb ob hb e=>(sb.2 b hb).trans e) pin.2.1 hf.2.1 hf.2.2.2.1 hf.2.2.2.2.1 hf.2.2.2.2.2,q5⟩
theorem Tf{elt tg iter:Expr}{ifs:List Expr}{pos:Pos}{mi:MI}{g:MG}{mc:MT}{me:ME}(hc:X.calm=true)(S:cT scX sc NX N k fv)(hX:X.env.scope=scX)(hN:X.N=NX)(hi:DI X tg iter mi)(hbl:Below k g)
 (hb:∀C s H fp,DG (kO X sc N C s H fp) tg g/\zU (kO X sc N C s H fp) ifs mc/\DE (kO X sc N C s H fp) elt me)
 (hs:∀x,foldedSetIterable iter X.env x=pure x:=by intro _;rfl) (hil:ifs.length<=1:=by decide):
 DF X (.ListComp elt [⟨tg,iter,ifs,0⟩] sc pos) (bM k fv mi g mc me):=PP (B:=pick k fv) v9 hc S hX hN hi hbl hil hb hs
theorem cN{elt tg iter:Expr}{ifs:List Expr}{pos:Pos}{mi:MI}{g:MG}{mc:MT}{me:ME}(hc:X.calm=true)(S:cT scX sc NX N k fv)(hX:X.env.scope=scX)(hN:X.N=NX)(hi:DI X tg iter mi)(hbl:Below k g)
 (hb:∀C s H fp,DG (kO X sc N C s H fp) tg g/\zU (kO X sc N C s H fp) ifs mc/\DE (kO X sc N C s H fp) elt me)
 (hs:∀x,foldedSetIterable iter X.env x=pure x:=by intro _;rfl) (hil:ifs.length<=1:=by decide):
 DE X (.ListComp elt [⟨tg,iter,ifs,0⟩] sc pos) (bM k fv mi g mc me):=(Tf hc S hX hN hi hbl hb hs hil).de (xM _ mi g mc me)
end
open AutoSeq1 (wpAny_loadPart')
section
variable{X:Cx}{a b c e:Expr}{es:List Expr}{ma mb mc me:ME}{pos p:Pos}
theorem Ej(l:Addr)(items:Array Value)(n:Nat)(u:Tok)(dd:Option Addr)(sl:Array (Option Value)):
 Meets (Builtin.«tuple.__mul__» ⟨[.ref l,.int 1 u],[]⟩) (λ_ R s=>s.heap.get? l=some {cls:=.type "tuple",dict:=dd,data:=.seq items n,slots:=sl}/\R (.ok (.ret (Value.ref l))) s):=
 .of_wp λprog w A R s h=>by
  obtain⟨hp,g,d,tk,os⟩:=s;obtain⟨hl,h⟩:=h;have f1:=adt;have f2:=abK;have hc1:(items.isEmpty||(1:Int)==1)=true:=by simp
  wp_walk using wpAny_loadPart' hl
  exact⟨_,rfl,h⟩
theorem Ei(l:Addr)(items:Array Value)(n:Nat)(x:Int)(u:Tok)(dd:Option Addr)(sl:Array (Option Value))(hc0:¬(decide (x < -(2^63))||decide (x≥2^63))=true)(hc1:¬(items.isEmpty||x==1)=true)(hc2:¬(decide (x<=0)||items.isEmpty)=true)
 (hc3:¬(items.size:Int)*x>(2^63-1)/8) (hc4:¬Builtin.Tuple.tupleTooMany ((items.size:Int)*x)=true) (hsz:sizeOk (.seq (List.foldl (λx1 x2=>x1++x2) #[] (List.replicate x.toNat items)))):
 Meets (Builtin.«tuple.__mul__» ⟨[.ref l,.int x u],[]⟩) (λ_ R s=>s.heap.get? l=some {cls:=.type "tuple",dict:=dd,data:=.seq items n,slots:=sl}/\
  R (.ok (.ret (Value.ref s.heap.objs.size))) {s with heap:=s.heap.push {cls:=Value.type "tuple",data:=Data.seq (List.foldl (λx1 x2=>x1++x2) #[] (List.replicate x.toNat items))}}):=
 .of_wp λprog w A R s h=>by
  obtain⟨hp,g,d,tk,os⟩:=s;obtain⟨hl,h⟩:=h;have f1:=adt;have f2:=abK
  wp_walk using wpAny_loadPart' hl
  refine aeG (aay hc0) ?_
  wp_walk using wpAny_loadPart' hl
  refine aeG (aay hc3) ?_
  wp_walk using wpAny_loadPart' hl
  refine aeG (aay (ae4.mpr hsz)) ?_
  wp_walk using wpAny_loadPart' hl
  exact⟨_,rfl,h⟩
def W6(K:PySem.W.Frag):R2:=λx y H Q=>∃l k xs,x=.ref l/\y=.int k/\SqT K H l xs/\0<k/\k<=1000/\0<xs.length/\xs.length<=1000/\(k=1->Q (.ref l) H)/\
 (k≠1->∀p,H p=none->Q (.ref p) (upd H p (.tup (List.replicate k.toNat xs).flatten)))
theorem RW:OpR X (binaryOp .Mult) (W6 X.K):=by
 intro pins s σ H x y v u Q I rx ry h;obtain⟨l,k,xs,rfl,rfl,hl,h0,h1,h2,h3,q1,q2⟩:=h;cases rx;obtain⟨t,rfl⟩:=ry;obtain⟨its,r,⟨⟨c1,d1,dt1,sl1⟩,e1,c1',n1,t1'⟩,_⟩:=I.tuple hl;simp only at c1' t1';subst c1' t1';have hlen:=r.length;refine adW (T:="tuple") (U:="int") (by decide) ⟨_,e1,rfl⟩ (λs'=>aet s' k t) sJ F.fills_int_mul adE yO F.slot_int_index.lookup
  (acv adE (aet s k t) F.entry_int_rmul (F.args_int_rmul_2 _ _) (vL k t l its.toArray n1 d1 sl1) ⟨e1,rfl,⟨_,e1,rfl⟩,?_⟩)
 by_cases hk:k=1
 ·subst hk;exact acv adp ⟨_,e1,rfl⟩ F.entry_tuple_mul (F.args_tuple_mul_2 _ _) (Ej l its.toArray n1 t d1 sl1) ⟨e1,⟨.ref l,H,I,rfl,q1 rfl⟩⟩
 ·have hnew:List.foldl (λx1 x2=>x1++x2) #[] (List.replicate k.toNat its.toArray)=(List.replicate k.toNat its).flatten.toArray:=by
   have:=foldl_rep its k.toNat [];rw[acY]at this;exact this
  have hfl:(List.replicate k.toNat its).flatten.length=k.toNat*its.length:=len_rep its k.toNat;have hb:k.toNat*its.length<=1000*1000:=aeQ (by omega) (by omega);have hbi:(its.length:Int)*k<=1000*1000:=by
   have e:(its.length:Int)*k=((k.toNat*its.length:Nat):Int):=by
    rw[adb];push_cast;rw[abC (by omega)]
   rw[e];exact_mod_cast hb
  have hne:its≠[]:=by intro z;rw[z,aba]at hlen;omega
  have hie:its.toArray.isEmpty=false:=by simpa using hne
  have hz:(List.replicate k.toNat its).flatten.length<=sizeLine:=by rw[hfl,cM];omega
  refine acv adp ⟨_,e1,rfl⟩ F.entry_tuple_mul (F.args_tuple_mul_2 _ _) (Ei l its.toArray n1 k t d1 sl1 (by simp;omega) (by rw[hie];simpa using hk) (by rw[hie];simp;omega)
   (by rw[ZJ];omega) (by rw[ZJ];have hsz:=cM;simp[Builtin.Tuple.tupleTooMany];omega) (by rw[hnew];show(List.replicate k.toNat its).flatten.toArray.size<=sizeLine;rw[ZJ];exact hz)) ⟨e1,?_⟩
  rw[hnew];refine⟨.ref s.heap.objs.size,_,I.laid (t':=s.toks) (o:=.tup (List.replicate k.toNat xs).flatten) (λb ob q=>Zz _ q) (ZS _) ?_,rfl,q2 hk _ (I.hok.fresh (ZS _))⟩;exact⟨by rw[len_rep,hlen,<-hfl];exact hz,_,r.rep k.toNat,adN _ _⟩
theorem cJ:DP X (binaryOp .Mult) cA:=by
 refine⟨_,op_mul.or RW,λos H L dx dy d x y Q rx ry m k=>?_⟩;cases dy with
 |int j=>
   cases dx with
   |int i=>
     have m':(if(small j||small i)=true then some (D.int (i*j))else none)=some d:=m;split at m'
     ·rename_i hs;cases m';refine .inl ⟨i,j,rx.int_inv,ry.int_inv,?_,k _ H (Same.refl _) (.int _)⟩;simp[small]at hs;rcases hs with hs|hs
      ·exact .inr ⟨hs.1,hs.2⟩
      ·exact .inl ⟨hs.1,hs.2⟩
     ·cases m'
   |tup xs=>
     have m':(if(decide (0<j)&&decide (j<=1000)&&decide (0<xs.length)&&decide (xs.length<=1000))=true then some (D.tup (List.replicate j.toNat xs).flatten)else none)=some d:=m;split at m'
     ·rename_i hs;cases m';simp only[aac,Z7]at hs;obtain⟨⟨⟨h1,h2⟩,h3⟩,h4⟩:=hs;obtain⟨a,vs,rfl,g1,g2⟩:=rx.tup_up;have hl:=g2.length;refine .inr ⟨a,j,vs,rfl,ry.int_inv,g1,h1,h2,by omega,by omega,λe=>?_,λ_ p hp=>?_⟩
      ·subst e;exact k _ H (Same.refl _) (by simpa using rx)
      ·exact k _ _ (bB hp (.tup (List.replicate j.toNat vs).flatten)) (.newT L hp (g2.flat j.toNat))
     ·cases m'
   |_=>cases m
 |_=>cases dx<;>cases m
theorem BR:DP X (compareOp .Lt) oLt:=by
 refine⟨_,Xf,λos H L dx dy d x y Q rx ry m k=>?_⟩;obtain⟨i,j,rfl,rfl,m⟩:=mj m;cases m;exact⟨i,j,rx.int_inv,ry.int_inv,k _ H (Same.refl _) (.bl _)⟩
theorem Xk:DP X (compareOp .LtE) oLe:=by
 refine⟨_,Xg,λos H L dx dy d x y Q rx ry m k=>?_⟩;obtain⟨i,j,rfl,rfl,m⟩:=mj m;cases m;exact⟨i,j,rx.int_inv,ry.int_inv,k _ H (Same.refl _) (.bl _)⟩
theorem Oa:DP X (compareOp .Gt) R4:=by
 refine⟨_,Xh,λos H L dx dy d x y Q rx ry m k=>?_⟩;obtain⟨i,j,rfl,rfl,m⟩:=mj m;cases m;exact⟨i,j,rx.int_inv,ry.int_inv,k _ H (Same.refl _) (.bl _)⟩
theorem Xm:DP X (compareOp .GtE) Yg:=by
 refine⟨_,Xi,λos H L dx dy d x y Q rx ry m k=>?_⟩;obtain⟨i,j,rfl,rfl,m⟩:=mj m;cases m;exact⟨i,j,rx.int_inv,ry.int_inv,k _ H (Same.refl _) (.bl _)⟩
theorem LC:Zf X (unaryOp .USub) UG:=by
 refine⟨_,Lz,λos H L dx d x Q rx m k=>?_⟩;cases dx with
 |int i=>cases m;exact⟨i,rx.int_inv,k _ H (Same.refl _) (.int _)⟩|_=>cases m
theorem Qu{g:Int->Int->Bool}{dx dy d:D}(h:oI (λi j=>some (.bl (g i j))) dx dy=some d):∃k,d=.bl k:=by
 obtain⟨i,j,rfl,rfl,m⟩:=mj h;cases m;exact⟨_,rfl⟩
theorem Jp(x y d:D)(h:oLt x y=some d):∃k,d=.bl k:=Qu h
theorem XX(x y d:D)(h:oLe x y=some d):∃k,d=.bl k:=Qu h
theorem X3(x y d:D)(h:Yg x y=some d):∃k,d=.bl k:=Qu h
theorem Jq(x y d:D)(h:oEq x y=some d):∃k,d=.bl k:=by
 unfold oEq at h;split at h
 ·cases h;exact⟨_,rfl⟩
 ·cases h
theorem mZ(x y d:D)(h:um x y=some d):∃k,d=.bl k:=by
 unfold um at h;split at h
 ·cases h;exact⟨_,rfl⟩
 ·cases h
end
section
variable{X:Cx}{pins:List (Addr×Obj)}{σ:L2.St}{H:Hp}{s:Shared}
theorem BV(I:Inv X pins σ H s){a:Addr}{xs ys:List V}(h1:SqL X.K H a xs)(h2:SqT X.K H a ys):False:=by
 obtain⟨i1,_,p1,_⟩:=I.list h1;obtain⟨i2,_,p2,_⟩:=I.tuple h2;exact(adc (s:=s) p1.isList p2) rfl
mutual
theorem Den.inj(I:Inv X pins σ H s):∀{d e:D}{v:V},bY d<=30->bY e<=30->Den X.K H d v->Den X.K H e v->d=e
 |.non,e,v,_,he,h,g=>by
   rw[h.non_inv]at g;cases e with
   |non=>rfl|bl z=>cases g.bl_inv|int z=>cases g.int_inv|str z=>cases g.str_inv|tup z=>obtain⟨_,_,q,_⟩:=g.tup_sq;cases q
   |lst z=>obtain⟨_,_,q,_⟩:=g.lst_inv;cases q
   |dic z0 z w=>simp[bY]at he
 |.bl b,e,v,_,he,h,g=>by
   rw[h.bl_inv]at g;cases e with
   |non=>cases g.non_inv|bl z=>cases g.bl_inv;rfl|int z=>cases g.int_inv|str z=>cases g.str_inv|tup z=>obtain⟨_,_,q,_⟩:=g.tup_sq;cases q
   |lst z=>obtain⟨_,_,q,_⟩:=g.lst_inv;cases q
   |dic z0 z w=>simp[bY]at he
 |.int b,e,v,_,he,h,g=>by
   rw[h.int_inv]at g;cases e with
   |non=>cases g.non_inv|bl z=>cases g.bl_inv|int z=>cases g.int_inv;rfl|str z=>cases g.str_inv|tup z=>obtain⟨_,_,q,_⟩:=g.tup_sq;cases q
   |lst z=>obtain⟨_,_,q,_⟩:=g.lst_inv;cases q
   |dic z0 z w=>simp[bY]at he
 |.str b,e,v,_,he,h,g=>by
   rw[h.str_inv]at g;cases e with
   |non=>cases g.non_inv|bl z=>cases g.bl_inv|int z=>cases g.int_inv|str z=>cases g.str_inv;rfl|tup z=>obtain⟨_,_,q,_⟩:=g.tup_sq;cases q
   |lst z=>obtain⟨_,_,q,_⟩:=g.lst_inv;cases q
   |dic z0 z w=>simp[bY]at he
 |.tup ds,e,v,hd,he,h,g=>by
   obtain⟨a,xs,rfl,h1,h2⟩:=h.tup_sq;simp only[bY]at hd;cases e with
   |non=>cases g.non_inv|bl z=>cases g.bl_inv|int z=>cases g.int_inv|str z=>cases g.str_inv|dic z0 z w=>simp[bY]at he|tup es=>
     simp only[bY]at he;obtain⟨b,ys,q,g1,g2⟩:=g.tup_sq;cases q;rw[<-I.tuple_inj h1 g1]at g2;rw[Dens.inj I (by omega) (by omega) h2 g2]
   |lst es=>
     obtain⟨b,ys,q,g1,g2⟩:=g.lst_inv;cases q;exact(BV I g1 h1).elim
 |.lst ds,e,v,hd,he,h,g=>by
   obtain⟨a,xs,rfl,h1,h2⟩:=h.lst_inv;simp only[bY]at hd;cases e with
   |non=>cases g.non_inv|bl z=>cases g.bl_inv|int z=>cases g.int_inv|str z=>cases g.str_inv|dic z0 z w=>simp[bY]at he|lst es=>
     simp only[bY]at he;obtain⟨b,ys,q,g1,g2⟩:=g.lst_inv;cases q;rw[<-I.list_inj h1 g1]at g2;rw[Dens.inj I (by omega) (by omega) h2 g2]
   |tup es=>
     obtain⟨b,ys,q,g1,g2⟩:=g.tup_sq;cases q;exact(BV I h1 g1).elim
 |.dic t ks vs,e,v,hd,_,_,_=>by simp[bY]at hd
theorem Dens.inj(I:Inv X pins σ H s):∀{ds es:List D}{xs:List V},dh ds<=30->dh es<=30->Dens X.K H ds xs->Dens X.K H es xs->ds=es
 |[],[],_,_,_,_,_=>rfl|[],e::es,_,_,_,h,g=>by obtain⟨x,r,q,_⟩:=g.uncons;rw[h.unnil]at q;cases q
 |d::ds,[],_,_,_,h,g=>by obtain⟨x,r,q,_⟩:=h.uncons;rw[g.unnil]at q;cases q
 |d::ds,e::es,_,hd,he,h,g=>by
   obtain⟨x,r,rfl,h1,h2⟩:=h.uncons;obtain⟨y,t,q,g1,g2⟩:=g.uncons;cases q;simp only[dh]at hd he;rw[Den.inj I (by omega) (by omega) h1 g1,Dens.inj I (by omega) (by omega) h2 g2]
end
abbrev El(A:Around)(s:Shared)(ds es:List D)(its its2:List Value):Prop:=
 ∀j (h1:j<its.toArray.size) (h2:j<its2.toArray.size),SeqAt.EqAt A.in1 s its.toArray[j] its2.toArray[j] (dW (ds.getD j .non) (es.getD j .non))
theorem M3{A:Around}{l b:Addr}{its its2:List Value}{ds es:List D}{xs ys:List V}(I:Inv X pins σ H s)(hu:A.units<cLine)(hl:IsTup s.heap l its.toArray)(hb:IsTup s.heap b its2.toArray)(r1:Vals xs its)(r2:Vals ys its2)(d1:Dens X.K H ds xs)(d2:Dens X.K H es ys)(he:El A s ds es its its2):
 SeqAt.RcAt A s (.ref l) (.ref b) (dW (.tup ds) (.tup es)):=by
 have q:=SeqAt.RcAt.tuples (A:=A) (s:=s) hl hb hu he;have e1:its.toArray.size=ds.length:=by rw[ZJ,<-r1.length,d1.length]
 have e2:its2.toArray.size=es.length:=by rw[ZJ,<-r2.length,d2.length]
 rw[e1,e2,jN]at q;rw[dW];exact q
theorem Vb{A:Around}{l b:Addr}{its its2:List Value}{ds es:List D}{xs ys:List V}(I:Inv X pins σ H s)(hu:A.units<cLine)(hl:IsTup s.heap l its.toArray)(hb:IsTup s.heap b its2.toArray)(r1:Vals xs its)(r2:Vals ys its2)(d1:Dens X.K H ds xs)(d2:Dens X.K H es ys)(he:El A s ds es its its2):
 SeqAt.RcNeAt A s (.ref l) (.ref b) (!dW (.tup ds) (.tup es)):=by
 have q:=SeqAt.RcNeAt.tuples (A:=A) (s:=s) hl hb hu he;have e1:its.toArray.size=ds.length:=by rw[ZJ,<-r1.length,d1.length]
 have e2:its2.toArray.size=es.length:=by rw[ZJ,<-r2.length,d2.length]
 rw[e1,e2,jN]at q;rw[dW];exact q
theorem M4{A:Around}{l b:Addr}{its its2:List Value}{ds es:List D}{xs ys:List V}(I:Inv X pins σ H s)(hu:A.units<cLine)(hl:PlainL s.heap l its.toArray)(hb:PlainL s.heap b its2.toArray)(r1:Vals xs its)(r2:Vals ys its2)(d1:Dens X.K H ds xs)(d2:Dens X.K H es ys)(he:El A s ds es its its2):
 SeqAt.RcAt A s (.ref l) (.ref b) (dW (.lst ds) (.lst es)):=by
 have e1:its.toArray.size=ds.length:=by rw[ZJ,<-r1.length,d1.length]
 have e2:its2.toArray.size=es.length:=by rw[ZJ,<-r2.length,d2.length]
 have er:=jN ds es;rw[dW,<-er];by_cases hs:ds.length=es.length
 ·have q:=SeqAt.RcAt.lists (A:=A) (s:=s) hl.isList hb.isList (by rw[e1,e2];exact hs) hu he;rw[e1]at q;rw[hs,Nat.min_self,ab0,adw,<-hs];exact q
 ·have q:=SeqAt.RcAt.lists_lengths (A:=A) (s:=s) hl.isList hb.isList (by rw[e1,e2];simpa using hs) hu;have hb':(ds.length==es.length)=false:=by simpa using hs
  rw[hb',ade];exact q
theorem Vc{A:Around}{l b:Addr}{its its2:List Value}{ds es:List D}{xs ys:List V}(I:Inv X pins σ H s)(hu:A.units<cLine)(hl:PlainL s.heap l its.toArray)(hb:PlainL s.heap b its2.toArray)(r1:Vals xs its)(r2:Vals ys its2)(d1:Dens X.K H ds xs)(d2:Dens X.K H es ys)(he:El A s ds es its its2):
 SeqAt.RcNeAt A s (.ref l) (.ref b) (!dW (.lst ds) (.lst es)):=by
 have e1:its.toArray.size=ds.length:=by rw[ZJ,<-r1.length,d1.length]
 have e2:its2.toArray.size=es.length:=by rw[ZJ,<-r2.length,d2.length]
 have er:=jN ds es;rw[dW,<-er];by_cases hs:ds.length=es.length
 ·have q:=SeqAt.RcNeAt.lists (A:=A) (s:=s) hl.isList hb.isList (by rw[e1,e2];exact hs) hu he;rw[e1]at q;rw[hs,Nat.min_self,ab0,adw,<-hs];exact q
 ·have q:=SeqAt.RcNeAt.lists_lengths (A:=A) (s:=s) hl.isList hb.isList (by rw[e1,e2];simpa using hs) hu;have hb':(ds.length==es.length)=false:=by simpa using hs
  rw[hb',ade];exact q
theorem Cv{A:Around}{n:Nat}(el:∀(A:Around)(dx dy:D)(x y:V)(v u:Value),bY dx<=n->(bY dx<=30/\bY dy<=30)->A.units+n<cLine->Den X.K H dx x->Den X.K H dy y->RelV x v->RelV y u->SeqAt.EqAt A s v u (dW dx dy))
 {ds es:List D} {xs ys:List V} {its its2:List Value} (hd:∀d∈ds,bY d<=n) (hb:(∀d∈ds,bY d<=30)/\(∀d∈es,bY d<=30)) (hu:A.units+1+n<cLine) (d1:Dens X.K H ds xs) (d2:Dens X.K H es ys) (r1:Vals xs its) (r2:Vals ys its2):El A s ds es its its2:=by
 intro j h1 h2;rw[ZJ]at h1 h2;have l1:=r1.length;have l2:=r2.length;have m1:=d1.length;have m2:=d2.length;have j1:j<ds.length:=by omega
 have j2:j<es.length:=by omega
 obtain⟨x,hx,q1⟩:=d1.get (i:=j) (d:=ds[j]) (ZM j1);obtain⟨y,hy,q2⟩:=d2.get (i:=j) (d:=es[j]) (ZM j2);obtain⟨v,hv,w1⟩:=r1.get hx;obtain⟨u,hu',w2⟩:=r2.get hy;have ev:its.toArray[j]=v:=by
  rw[ZM h1]at hv;simpa using hv
 have eu:its2.toArray[j]=u:=by
  rw[ZM h2]at hu';simpa using hu'
 rw[ev,eu,Z3,Z3,ZM j1,ZM j2];exact el A.in1 ds[j] es[j] x y v u (hd _ (aaX j1)) ⟨hb.1 _ (aaX j1),hb.2 _ (aaX j2)⟩ hu q1 q2 w1 w2
inductive View(X:Cx)(H:Hp)(s:Shared):D->Value->Prop where
 |non:View X H s .non .none
 |bl (b:Bool):View X H s (.bl b) (.bool b)
 |int (i:Int) (t:Tok):View X H s (.int i) (.int i t)
 |str (x:Str) (t:Tok):View X H s (.str x) (.str x t)
 |lst {ds:List D} {a:Addr} {xs:List V} {its:List Value} (h:SqL X.K H a xs) (d:Dens X.K H ds xs) (r:Vals xs its) (p:PlainL s.heap a its.toArray) (q:s.heap.IsList a its.toArray):View X H s (.lst ds) (.ref a)
 |tup {ds:List D} {a:Addr} {xs:List V} {its:List Value} (h:SqT X.K H a xs) (d:Dens X.K H ds xs) (r:Vals xs its) (p:IsTup s.heap a its.toArray) (q:s.heap.IsTuple a its.toArray):View X H s (.tup ds) (.ref a)
theorem view(I:Inv X pins σ H s){d:D}{x:V}{v:Value}(h:bY d<=30)(r:Den X.K H d x)(w:RelV x v):View X H s d v:=by
 cases d with
 |dic _ _ _=>exact absurd h (by simp[bY])|non=>rw[r.non_inv]at w;cases w;exact .non|bl b=>rw[r.bl_inv]at w;cases w;exact .bl b|int i=>rw[r.int_inv]at w;obtain⟨t,rfl⟩:=w;exact .int i t
 |str z=>rw[r.str_inv]at w;obtain⟨t,rfl⟩:=w;exact .str z t
 |lst ds=>obtain⟨a,xs,rfl,h1,h2⟩:=r.lst_inv;cases w;obtain⟨its,r',p,_⟩:=I.list h1;exact .lst h1 h2 r' p p.isList
 |tup ds=>obtain⟨a,xs,rfl,h1,h2⟩:=r.tup_sq;cases w;obtain⟨its,r',p,_⟩:=I.tuple h1;exact .tup h1 h2 r' p p
theorem Ys{P:Bool->Prop}{b c:Bool}(h:P b)(e:b=c):P c:=e▸h
noncomputable def both:D->D->Bool
 |.lst _,.lst _=>true|.tup _,.tup _=>true|_,_=>false
theorem kinds{A:Around}{dx dy:D}{v u:Value}(hx:View X H s dx v)(hy:View X H s dy u)(hb:both dx dy=false)(hu:A.units<cLine):SeqAt.EqAt A s v u (dW dx dy)/\SeqAt.RcAt A s v u (dW dx dy)/\SeqAt.RcNeAt A s v u (!dW dx dy):=by
 cases hx<;>cases hy<;>first
 |exact Bool.noConfusion hb
 |refine⟨?_,?_,?_⟩
 all_goals
  apply Ys
  ·first
   |with_reducible first|exact .same _|exact .none_none|exact .none_bool _|exact .none_int _ _|exact .none_str _ _|exact .none_list ‹_› ‹_› | exact .none_tuple ‹_› ‹_› | exact .bool_none _|exact .bool_bool _ _|exact .bool_int _ _ _|exact .bool_str _ _ _|exact .bool_list _ ‹_› ‹_› | exact .bool_tuple _ ‹_› ‹_› | exact .int_none _ _|exact .int_bool _ _ _|exact .int_int _ _ _ _|exact .int_str _ _ _ _|exact .int_list _ _ ‹_› ‹_› | exact .int_tuple _ _ ‹_› ‹_› | exact .str_none _ _|exact .str_bool _ _ _|exact .str_int _ _ _ _|exact .str_str _ _ _ _|exact .str_list _ _ ‹_› ‹_› | exact .str_tuple _ _ ‹_› ‹_› | exact .list_none ‹_› ‹_› | exact .list_bool _ ‹_› ‹_› | exact .list_int _ _ ‹_› ‹_› | exact .list_str _ _ ‹_› ‹_› | exact .list_tuple ‹_› ‹_› ‹_› | exact .tuple_none ‹_› ‹_› | exact .tuple_bool _ ‹_› ‹_› | exact .tuple_int _ _ ‹_› ‹_› | exact .tuple_str _ _ ‹_› ‹_› | exact .tuple_list ‹_› ‹_› ‹_›
   |exact .of_refs (adc (s:=s) ‹_› ‹_›) (.list_tuple ‹_› ‹_› ‹_›)
   |exact .of_refs (adc (s:=s) ‹_› ‹_›).symm (.tuple_list ‹_› ‹_› ‹_›)
  ·rfl
theorem Pq(I:Inv X pins σ H s):∀(n:Nat)(A:Around)(dx dy:D)(x y:V)(v u:Value),bY dx<=n->(bY dx<=30/\bY dy<=30)->A.units+n<cLine->Den X.K H dx x->Den X.K H dy y->RelV x v->RelV y u->SeqAt.EqAt A s v u (dW dx dy):=by
 intro n;induction n with
 |zero=>
   intro A dx dy x y v u hd hb hu0 rx ry vx vy;have ht:both dx dy=false:=by cases dx<;>first|rfl|simp[bY]at hd
   exact(kinds (view I hb.1 rx vx) (view I hb.2 ry vy) ht (by omega)).1
 |succ n ih=>
   intro A dx dy x y v u hd hb hu0 rx ry vx vy;have hu:A.units<cLine:=by omega
   have items:∀{ds es:List D}{xs ys:List V}{its its2:List Value},dh ds<=n->dh ds<=29->dh es<=29->Dens X.K H ds xs->Dens X.K H es ys->Vals xs its->Vals ys its2->El A s ds es its its2:=λa b c=>Cv ih (depDs_le.mp a) ⟨depDs_le.mp (by omega),depDs_le.mp (by omega)⟩ (by omega);cases ht:both dx dy with
   |false=>exact(kinds (view I hb.1 rx vx) (view I hb.2 ry vy) ht hu).1|true=>
     cases view I hb.1 rx vx<;>cases view I hb.2 ry vy<;>first|exact Bool.noConfusion ht|skip
     ·rename_i ds1 a1 _ _ h1 d1 r1 p1 q1 ds2 a2 _ _ h2 d2 r2 p2 q2;simp only[bY]at hd hb;by_cases hab:a1=a2
      ·subst hab;have e:ds1=ds2:=Dens.inj I (by omega) (by omega) d1 (by rw[I.list_inj h1 h2];exact d2);subst e;rw[jO];exact .same _
      ·exact .of_refs hab (M4 I hu p1 p2 r1 r2 d1 d2 (items (by omega) (by omega) (by omega) d1 d2 r1 r2))
     ·rename_i ds1 a1 _ _ h1 d1 r1 p1 q1 ds2 a2 _ _ h2 d2 r2 p2 q2;simp only[bY]at hd hb;by_cases hab:a1=a2
      ·subst hab;have e:ds1=ds2:=Dens.inj I (by omega) (by omega) d1 (by rw[I.tuple_inj h1 h2];exact d2);subst e;rw[jO];exact .same _
      ·exact .of_refs hab (M3 I hu p1 p2 r1 r2 d1 d2 (items (by omega) (by omega) (by omega) d1 d2 r1 r2))
section
variable{n:Nat}{A:Around}{dx dy:D}{x y:V}{v u:Value}
theorem Uc(I:Inv X pins σ H s)(hd:bY dx<=n+1)(hb:bY dx<=30/\bY dy<=30)(hu0:A.units+(n+1)<cLine)(rx:Den X.K H dx x)(ry:Den X.K H dy y)(vx:RelV x v)(vy:RelV y u):SeqAt.RcAt A s v u (dW dx dy)/\SeqAt.RcNeAt A s v u (!dW dx dy):=by
 have hu:A.units<cLine:=by omega
 cases ht:both dx dy with
 |false=>exact(kinds (view I hb.1 rx vx) (view I hb.2 ry vy) ht hu).2|true=>
   cases view I hb.1 rx vx<;>cases view I hb.2 ry vy<;>first|exact Bool.noConfusion ht|skip
   all_goals
    rename_i ds1 a1 _ _ h1 d1 r1 p1 q1 ds2 a2 _ _ h2 d2 r2 p2 q2;simp only[bY]at hd hb;have el:=Cv (Pq I n) (A:=A) (depDs_le.mp (show dh ds1<=n by omega)) ⟨depDs_le.mp (by omega),depDs_le.mp (show dh ds2<=30 by omega)⟩ (by omega) d1 d2 r1 r2
    first
    |exact⟨M4 I hu p1 p2 r1 r2 d1 d2 el,Vc I hu p1 p2 r1 r2 d1 d2 el⟩
    |exact⟨M3 I hu p1 p2 r1 r2 d1 d2 el,Vb I hu p1 p2 r1 r2 d1 d2 el⟩
end
end
section
variable{X:Cx}{a b c e:Expr}{es:List Expr}{ma mb mc md me:ME}{pos p p2 p3:Pos}
theorem qN(hu:X.A.units+64<cLine):DP X (compareOp .Eq) oEq:=by
 refine⟨λx y H Q=>∃dx dy,Den X.K H dx x/\Den X.K H dy y/\(bY dx<=30/\bY dy<=30)/\Q (.bl (dW dx dy)) H,?_,λos H L dx dy d x y Q rx ry m k=>?_⟩
 ·intro pins s σ H x y v u Q I rx ry h;obtain⟨dx,dy,d1,d2,hd,q⟩:=h;exact(Uc (n:=30) I (ad1 hd.1) hd (by omega) d1 d2 rx ry).1 X.prog X.w X.xe _ ⟨.bl _,H,I,rfl,q⟩
 ·unfold oEq at m;split at m
  ·rename_i hd;cases m;exact⟨dx,dy,rx.up,ry.up,hd,k _ H (Same.refl _) (.bl _)⟩
  ·cases m
theorem mW(hu:X.A.units+64<cLine):DP X (compareOp .NotEq) um:=by
 refine⟨λx y H Q=>∃dx dy,Den X.K H dx x/\Den X.K H dy y/\(bY dx<=30/\bY dy<=30)/\Q (.bl (!dW dx dy)) H,?_,λos H L dx dy d x y Q rx ry m k=>?_⟩
 ·intro pins s σ H x y v u Q I rx ry h;obtain⟨dx,dy,d1,d2,hd,q⟩:=h;exact(Uc (n:=30) I (ad1 hd.1) hd (by omega) d1 d2 rx ry).2 X.prog X.w X.xe _ ⟨.bl _,H,I,rfl,q⟩
 ·unfold um at m;split at m
  ·rename_i hd;cases m;exact⟨dx,dy,rx.up,ry.up,hd,k _ H (Same.refl _) (.bl _)⟩
  ·cases m
open Classical in
def pq(K:PySem.W.Frag)(H:Hp)(dx:D)(u:Value):Bool:=if h:∃d v,(RelV v u/\bY d<=30)/\Den K H d v then dW (Classical.choose h) dx else false
theorem CQ{pins:List (Addr×Obj)}{σ:L2.St}{H:Hp}{s:Shared}(I:Inv X pins σ H s){dx d:D}{v:V}{u:Value}(r:RelV v u)(hd:bY d<=30)(h:Den X.K H d v):pq X.K H dx u=dW d dx:=by
 have hx:∃d v,(RelV v u/\bY d<=30)/\Den X.K H d v:=⟨d,v,⟨r,hd⟩,h⟩;unfold pq;rw[dif_pos hx];obtain⟨v',⟨r',hd'⟩,h'⟩:=adl hx;rw[RelV.inj r' r]at h';rw[Den.inj I hd' hd h' h]
theorem tQ{pins:List (Addr×Obj)}{σ:L2.St}{H:Hp}{s:Shared}(I:Inv X pins σ H s){dx:D}:∀{ds:List D}{xs:List V}{us:List Value},(∀d∈ds,bY d<=30)->Dens X.K H ds xs->Vals xs us->us.any (pq X.K H dx)=ds.any λy=>dW y dx
 |[],_,_,_,h,r=>by rw[h.unnil]at r;cases r;rfl|d::ds,_,_,hd,h,r=>by
   obtain⟨x,t,rfl,h1,h2⟩:=h.uncons;cases r with
   |cons r1 r2=>rw[acW,acW,CQ I r1 (hd d ZF) h1,tQ I (λd' h'=>hd d' (Zy _ h')) h2 r2]
theorem sU{A:Around}{pins:List (Addr×Obj)}{σ:L2.St}{H:Hp}{s:Shared}(I:Inv X pins σ H s)(hu:A.units+40<cLine){dx:D}{x:V}{v:Value}(rx:RelV x v)(hx:Den X.K H dx x)(hxd:bY dx<=30):∀{ds:List D}{xs:List V}{us:List Value},(∀d∈ds,bY d<=30)->Dens X.K H ds xs->Vals xs us->∀u∈us,SeqAt.EqAt A s u v (pq X.K H dx u)
 |[],_,_,_,h,r=>λu hm=>by rw[h.unnil]at r;cases r;cases hm|d::ds,_,_,hd,h,r=>λu hm=>by
   obtain⟨y,t,rfl,h1,h2⟩:=h.uncons;cases r with
   |cons r1 r2=>
     rcases ZP.mp hm with rfl|hm
     ·rw[CQ I r1 (hd d ZF) h1];exact Pq I 30 A d dx y x u v (hd d ZF) ⟨hd d ZF,hxd⟩ (by omega) h1 hx r1 rx
     ·exact sU I hu rx hx hxd (λd' h'=>hd d' (Zy _ h')) h2 r2 u hm
theorem Xl(hu:X.A.units+64<cLine):DP X (compareOp .In) YF:=by
 have hu1:X.A.in1.units+40<cLine:=by show X.A.units+1+40<cLine;omega
 refine⟨λx y H Q=>(∃i j,x=V.str i/\y=V.str j/\Q (.bl (!(Builtin.Str.occurrences j i 0 j.length 1).isEmpty)) H)\/∃dx p ds xs,Den X.K H dx x/\y=.ref p/\(SqL X.K H p xs\/SqT X.K H p xs)/\Dens X.K H ds xs/\(dh ds<=30/\bY dx<=30)/\Q (.bl (ds.any λy=>dW y dx)) H,?_,λos H L dx dy d x y Q rx ry m k=>?_⟩
 ·intro pins s σ H x y v u Q I rx ry h;rcases h with h|h
  ·exact Kg pins s σ H x y v u Q I rx ry h
  obtain⟨dx,p,ds,xs,hx,rfl,hq,hs,hd,q⟩:=h;cases ry;have hd':=depDs_le.mp hd.1;rcases hq with hq|hq
  ·obtain⟨its,r,pl,hz⟩:=I.list hq;refine SeqAt.in_listAt (pq X.K H dx) pl.isList (λw hw=>sU I hu1 rx hx hd.2 hd' hs r w (by simpa using hw)) ⟨.bl _,H,I,rfl,?_⟩;rw[show its.toArray.any (pq X.K H dx)=its.any (pq X.K H dx)by simp,tQ I hd' hs r];exact q
  ·obtain⟨its,r,pl,hz⟩:=I.tuple hq;refine SeqAt.in_tupleAt (pq X.K H dx) pl (λw hw=>sU I hu1 rx hx hd.2 hd' hs r w (by simpa using hw)) ⟨.bl _,H,I,rfl,?_⟩;rw[show its.toArray.any (pq X.K H dx)=its.any (pq X.K H dx)by simp,tQ I hd' hs r];exact q
 ·cases dy with
  |tup ys=>
    have m':(if dh ys<=30/\bY dx<=30 then some (D.bl (ys.any λy=>dW y dx))else none)=some d:=m;split at m'
    ·rename_i hd;cases m';obtain⟨p,xs,rfl,h1,h2⟩:=ry.tup_up;exact .inr ⟨dx,p,ys,xs,rx.up,rfl,.inr h1,h2.up,hd,k _ H (Same.refl _) (.bl _)⟩
    ·cases m'
  |lst ys=>
    have m':(if dh ys<=30/\bY dx<=30 then some (D.bl (ys.any λy=>dW y dx))else none)=some d:=m;split at m'
    ·rename_i hd;cases m';obtain⟨p,xs,rfl,h1,h2⟩:=ry.lst_up;exact .inr ⟨dx,p,ys,xs,rx.up,rfl,.inl h1,h2.up,hd,k _ H (Same.refl _) (.bl _)⟩
    ·cases m'
  |str y=>
    cases dx with
    |str x=>cases m;exact .inl ⟨x,y,rx.str_inv,ry.str_inv,k _ H (Same.refl _) (.bl _)⟩|_=>cases m
  |_=>cases dx<;>cases m
theorem lX{K:PySem.W.Frag}{H:Hp}{d:D}{vs:List V}(h:Dens K H [d] vs):∃v,vs=[v]/\Den K H d v:=by
 obtain⟨x,r,rfl,h1,h2⟩:=h.uncons;exact⟨x,by rw[h2.unnil],h1⟩
theorem Qt{f:Value}{r r':List V->Hp->VK->Prop}(a:ik X f r)(b:ik X f r'):ik X f (λxs H Q=>r xs H Q\/r' xs H Q):=λpins s σ H xs us Q I rel h=>by
 rcases h with h|h
 ·exact a pins s σ H xs us Q I rel h
 ·exact b pins s σ H xs us Q I rel h
theorem jn:CallD X (.builtin "len") fB:=by
 refine⟨_,Qt zQ zP,λos H L ds d vs Q r m k=>?_⟩
 match ds,m with
 |[.tup xs],m=>
   cases m;obtain⟨v,rfl,h⟩:=lX r;obtain⟨p,ys,rfl,h1,h2⟩:=h.tup_up;exact .inl ⟨p,ys,rfl,.inr h1,by rw[<-h2.length];exact k _ H (Same.refl _) (.int _)⟩
 |[.lst xs],m=>
   cases m;obtain⟨v,rfl,h⟩:=lX r;obtain⟨p,ys,rfl,h1,h2⟩:=h.lst_up;exact .inl ⟨p,ys,rfl,.inl h1,by rw[<-h2.length];exact k _ H (Same.refl _) (.int _)⟩
 |[.str x],m=>
   have m':(if x.length<=16777216 then some (D.int x.length)else none)=some d:=m;split at m'
   ·rename_i hz;cases m';obtain⟨v,rfl,h⟩:=lX r;exact .inr ⟨x,by rw[h.str_inv],by rw[cM];exact hz,k _ H (Same.refl _) (.int _)⟩
   ·cases m'
theorem dY:CallD X (.type "tuple") dJ:=by
 refine⟨_,wQ,λos H L ds d vs Q r m k=>?_⟩
 match ds,m with
 |[.tup xs],m=>
   cases m;obtain⟨v,rfl,h⟩:=lX r;obtain⟨p,ys,rfl,h1,h2⟩:=h.tup_up;exact⟨p,ys,rfl,.inr ⟨h1,k _ H (Same.refl _) h⟩⟩
 |[.lst xs],m=>
   cases m;obtain⟨v,rfl,h⟩:=lX r;obtain⟨p,ys,rfl,h1,h2⟩:=h.lst_up;refine⟨p,ys,rfl,.inl ⟨h1,λl hl=>?_⟩⟩;exact k _ _ (bB hl (.tup ys)) (.newT L hl h2)
theorem Li(hc:X.calm=true):ik X (.builtin "all") (λxs H Q=>∃(p:Addr)(bs:List Bool),xs=[.ref p]/\SqL X.K H p (bs.map V.bl)/\Q (.bl (bs.all id)) H):=by
 intro pins s σ H xs us Q I r h;obtain⟨p,bs,rfl,hq,q⟩:=h;obtain⟨u,rfl,ru⟩:=vals1 r;cases ru;obtain⟨its,rv,pl,hz⟩:=I.list hq;have hlen:its.length=bs.length:=by rw[<-rv.length,ZK]
 have hne:p≠s.heap.objs.size:=λe=>by
  obtain⟨o,ho,_⟩:=pl.isList;rw[e]at ho;exact absurd (ZG ho) (abk _)
 refine call_all_walk (abx pl.isList ?_);refine⟨s.heap.objs.size,_,_,_,_,_,λi=>(bs[i]?).getD true,rfl,Walks.list (A:=X.A.in1) (I.ok.hd hc) s.heap.objs.size p hne its.toArray,⟨⟨_,ZR _ rfl,rfl,rfl⟩,?_⟩,?_,λh' tk hk=>?_⟩
 ·obtain⟨o,ho,rr⟩:=pl.isList;exact⟨o,Zz _ ho,rr⟩
 ·intro i v s' Q' E' hP hQ;have hv:its[i]? = some v:=by simpa using hP
  have hi:i<its.length:=(ZV.mp hv).1;have hb:(bs.map V.bl)[i]? = some (.bl bs[i]):=by rw[aad,ZM (by omega)];rfl
  obtain⟨u',hu',ru'⟩:=rv.get hb;rw[hv]at hu';cases hu';cases ru';have:(bs[i]?).getD true=bs[i]:=by rw[ZM (by omega)];rfl
  have hQ':Q' ((bs[i]?).getD true) s':=hQ;rw[this]at hQ';exact abM hQ'
 ·have I1:Inv X pins σ H {s with heap:=h',toks:=tk}:=I.kept λb o e=>hk b o (by
   intro z;have z':b=s.heap.objs.size:=by simpa using z
   rw[z']at e;exact absurd (ZG e) (abk _)) (Zz _ e)
  refine⟨.bl _,H,I1,?_,q⟩;have e1:(List.range its.toArray.size).all (λi=>(bs[i]?).getD true)=bs.all id:=by
   rw[ZJ,hlen,aau,aaM,aaM];constructor
   ·intro hall z hz';obtain⟨i,hi,rfl⟩:=adK hz';have:=hall i (aab.mpr hi);rw[ZM hi]at this;exact this
   ·intro hall i hi;have hi':=aab.mp hi;rw[ZM hi'];exact hall _ (aaX hi')
  show Value.bool _=Value.bool _;rw[e1]
theorem Dw:∀{ds:List D}{k:Bool},allB ds=some k->∃bs:List Bool,ds=bs.map D.bl/\k=bs.all id
 |[],k,h=>by cases h;exact⟨[],rfl,rfl⟩|.bl b::r,k,h=>by
   obtain⟨k',e,h⟩:=ao h;cases h;obtain⟨bs,rfl,rfl⟩:=Dw e;exact⟨b::bs,rfl,rfl⟩
 |.non::r,_,h=>by cases h|.int _::r,_,h=>by cases h|.str _::r,_,h=>by cases h|.tup _::r,_,h=>by cases h|.lst _::r,_,h=>by cases h
theorem Dl{K:PySem.W.Frag}{H:Hp}:∀{bs:List Bool}{xs:List V},Dens K H (bs.map D.bl) xs->xs=bs.map V.bl
 |[],_,h=>h.unnil|b::bs,_,h=>by
   obtain⟨x,r,rfl,h1,h2⟩:=h.uncons;rw[h1.bl_inv,Dl h2];rfl
theorem Wi(hc:X.calm=true):CallD X (.builtin "all") SX:=by
 refine⟨_,Li hc,λos H L ds d vs Q r m k=>?_⟩
 match ds,m with
 |[.lst xs],m=>
   obtain⟨z,e1,m⟩:=ao (show(allB xs).bind (λk=>some (D.bl k))=some d from m);cases m;obtain⟨v,rfl,h⟩:=lX r;obtain⟨p,ys,rfl,h1,h2⟩:=h.lst_up;obtain⟨bs,rfl,rfl⟩:=Dw e1;rw[Dl h2]at h1;exact⟨p,bs,rfl,h1,k _ H (Same.refl _) (.bl _)⟩
theorem bC:Zi X cz:=by
 refine⟨_,ix_list.or (ix_tup.or VF),λos H L dx dy d x y Q rx ry m k=>?_⟩;cases dy with
 |int i=>
   cases dx with
   |lst ds=>
     obtain⟨j,e1,e2⟩:=ao (show(uz ds.length i).bind (λj=>ds[j]?)=some d from m);obtain⟨a,xs,rfl,h1,h2⟩:=rx.lst_up;obtain⟨v,hv,rv⟩:=h2.get e2;refine .inl ⟨a,xs,i,v,rfl,ry.int_inv,h1,?_,k v H (Same.refl _) rv⟩;show(uz xs.length i).bind (λj=>xs[j]?)=some v;rw[<-h2.length,e1];exact hv
   |tup ds=>
     obtain⟨j,e1,e2⟩:=ao (show(uz ds.length i).bind (λj=>ds[j]?)=some d from m);obtain⟨a,xs,rfl,h1,h2⟩:=rx.tup_up;obtain⟨v,hv,rv⟩:=h2.get e2;refine .inr (.inl ⟨a,xs,i,v,rfl,ry.int_inv,h1,?_,k v H (Same.refl _) rv⟩);show(uz xs.length i).bind (λj=>xs[j]?)=some v;rw[<-h2.length,e1];exact hv
   |str z=>
     have m':(if z.length<=16777216 then(uz z.cps.toList.length i).bind λj=>z.cps.toList[j]?.bind λc=>some (D.str ⟨#[c]⟩)else none)=some d:=m;split at m'
     ·rename_i hz;obtain⟨j,e1,m'⟩:=ao m';obtain⟨c,e2,m'⟩:=ao m';cases m';refine .inr (.inr ⟨z,i,c,rx.str_inv,ry.int_inv,by rw[cM];exact hz,?_,k _ H (Same.refl _) (.str _)⟩);show(uz z.cps.toList.length i).bind (λj=>z.cps.toList[j]?)=some c;rw[e1];exact e2
     ·cases m'
   |_=>cases m
 |_=>cases dx<;>cases m
end
section
variable{prog:Program}{w:World}{A:Around}{E:Value->Shared->Prop}{s:Shared}
theorem oV{t sl:Addr}{items:Array Value}{vl vu:Value}{lo hi:Option Int}{Q:Value->Shared->Prop}(ht:IsTup s.heap t items)(hs:s.heap.IsSliceOf sl vl vu .none)(pl:IsPart vl lo)(pu:IsPart vu hi)
 (hw:HT.sIx items.size 0 lo=0/\HT.sIx items.size items.size hi=items.size) (h:Q (.ref t) s):wpAny (model prog w) A (getItem (.ref t) (.ref sl)) Q E s:=by
 obtain⟨os,hos,hcs,hds⟩:=id hs;have hTs:s.TypeIs (.ref sl) "slice":=⟨os,hos,hcs⟩;unfold getItem;try with_reducible refine aa2 ?_
 first|refine vz (ZC ?_)|skip
 refine vz (wpAny_sequenceKey ht.typeIs (by decide) ?_);refine vz (aaj (name:=Str.ofString "__getitem__") ht.typeIs aaW
  (aah aaW ht.typeIs entry_tuple_getitem ?_ (args_tuple_getitem _ _)))
 show wpAny _ _ (Builtin.Tuple.tupleItemsOf (.ref t) >>= _) _ _ s;refine vz (tupleItemsOf_ ht ?_);refine vz (ada hTs ?_);rw[ZZ (by decide)];refine vz (HT.sliceApplied_gen hs pl pu ?_);have hyes:((((HT.sIx items.size 0 lo:Nat):Int)==0&&(1:Int)==1&&(HT.sIx items.size items.size hi-HT.sIx items.size 0 lo)==items.size)=true):=by
  rw[hw.1,hw.2];simp
 show wpAny _ _ (if(((HT.sIx items.size 0 lo:Nat):Int)==0&&(1:Int)==1&&(HT.sIx items.size items.size hi-HT.sIx items.size 0 lo)==items.size)=true then _ else _) _ _ s;rw[ZZ hyes];unfold Builtin.Tuple.tupleIsExact;refine vz (vz (ada ht.typeIs (ZC ?_)));rw[ZZ (by decide)];refine vz (acJ ?_)
 first
  |exact ZC ⟨_,rfl,ZC h⟩
  |exact vz (ZC (ZC ⟨_,rfl,ZC h⟩))
end
section
variable{X:Cx}{a b c e:Expr}{es:List Expr}{ma mb mc md me:ME}{pos p p2 p3:Pos}
def Yx(K:PySem.W.Frag):V->Option Int->Option Int->Hp->VK->Prop:=λx lo hi H Q=>∃a xs,x=.ref a/\SqT K H a xs/\(HT.sIx xs.length 0 lo=0/\HT.sIx xs.length xs.length hi=xs.length)/\Q (.ref a) H
theorem Rg:SlR X (Yx X.K):=by
 intro pins s σ H x v vl vu lo hi sl Q I rx hs pl pu h;obtain⟨a,xs,rfl,hx,hw,q⟩:=h;cases rx;obtain⟨its,r,ht,hz⟩:=I.tuple hx;have hlen:its.toArray.size=xs.length:=by rw[ZJ];exact r.length.symm
 exact⟨"tuple",_,aaW.lookup,ht.typeIs,oV ht hs pl pu (by rw[hlen];exact hw) ⟨.ref a,H,I,rfl,q⟩⟩
end
open AutoSeq1 (wpAny_loadPart')
section
variable{prog:Program}{w:World}{A:Around}{E:Value->Shared->Prop}{s:Shared}{it l:Addr}{i:Nat}{items:Array Value}
theorem Ma{x:Value}{Q:PySem.Fin->Shared->Prop}(a:s.heap.IsTupleIter it l i)(b:s.heap.IsTuple l items)(hx:items[i]? = some x)
 (k:∀h',h'.IsTupleIter it l (i+1)->Heap.SameBut it s.heap h'->Q (.done (.ret x)) {s with heap:=h'}):wpAny (model prog w) A (Builtin.«tuple_iterator.__next__» ⟨[.ref it],[]⟩) Q E s:=by
 obtain⟨o,ho,hc,hd⟩:=a;obtain⟨p,hp,_,n,hq⟩:=b
 wp_walk using aaI ho hd (x:=.ref l) rfl,aaI ho hd (x:=.int i 0) rfl,aa0 hp hq
 rw[show items[(i:Int).toNat]? = some x from hx];refine vz (adf ho hd (abH 1) (ZC (k _ ⟨_,aaG _ ho ?_,?_,?_⟩ (abo ..))))
 ·exact adm (ab3 hd _)
 ·rw[ad2,hc]
 ·rw[ab3 hd];rfl
theorem LR{Q:PySem.Fin->Shared->Prop}(hh:A.handled=none)(a:s.heap.IsTupleIter it l i)(b:s.heap.IsTuple l items)(hx:items[i]? = none)
 (k:∀h' e,Heap.ExtBut it s.heap h'->(∃o,h'.get? e=some o/\o.cls=.type "StopIteration")->E (.ref e) {s with heap:=h'}):wpAny (model prog w) A (Builtin.«tuple_iterator.__next__» ⟨[.ref it],[]⟩) Q E s:=by
 obtain⟨o,ho,hc,hd⟩:=a;obtain⟨p,hp,_,n,hq⟩:=b
 wp_walk using aaI ho hd (x:=.ref l) rfl,aaI ho hd (x:=.int i 0) rfl,aa0 hp hq
 rw[show items[(i:Int).toNat]? = none from hx];refine vz (acJ (vz (adf ho hd (Nat.succ_pos 1) ?_)));unfold Builtin.SmallTypes.stopIteration;wp_walk;refine wpAny_raiseNew_none hh (k _ _ (((abo s.heap it _).extBut.push _).push _) ?_);exact⟨_,ZR _ rfl,rfl⟩
end
noncomputable def qm(l:Addr):Obj:={cls:=.type "tuple_iterator",data:=.fields #[.ref l,.int 0 0]}
noncomputable def nO(j:Addr):Obj:={cls:=.type "enumerate",data:=.fields #[.none,.bool false,.ref j,rawInt 0,.none,.none]}
theorem KR(l:Addr)(items:Array Value)(n:Nat)(dd:Option Addr)(sl:Array (Option Value)):Meets (Builtin.«enumerate.__new__» ⟨[.type "enumerate",.ref l],[]⟩) λ_ R s=>
 s.heap.get? l=some ⟨.type "tuple",dd,.seq items n,sl⟩/\R (.ok (.ret (.ref (s.heap.objs.size+1)))) {s with heap:=(s.heap.push (qm l)).push (nO s.heap.objs.size)}:=by
 refine .of_wp λprog w A R s h=>?_;rcases s with⟨hp,g,d,tk,os⟩;have tup:Heap.IsTuple hp l items:=⟨_,h.1,rfl,n,rfl⟩;have sub:=sub_enumerate;have fin:=h.2;rw[<-aaZ hp (qm l)]at fin;wp_walk using wpAny_loadPart' h.1;refine wpAny_stack_any λ_=>ZC ?_;split<;>(try (rename_i c _ _ _ _ _;cases(c==Value.type "enumerate")))<;>(wp_walk using wpAny_loadPart' h.1,ac0 (s:=⟨hp,g,d,tk,os⟩) tup)<;>exact⟨_,rfl,fin⟩
section
variable{prog:Program}{w:World}{A:Around}{E:Value->Shared->Prop}{s:Shared}{it l:Addr}{items:Array Value}
theorem uq{Q:Value->Shared->Prop}(t:s.heap.IsTuple l items)
 (k:∀h',IsEnum h' (s.heap.objs.size+1) s.heap.objs.size 0 .none->h'.IsTupleIter s.heap.objs.size l 0->(∀b o,s.heap.get? b=some o->h'.get? b=some o)->Q (.ref (s.heap.objs.size+1)) {s with heap:=h'}):
 wpAny (model prog w) A (call (.type "enumerate") [.ref l]) Q E s:=by
 obtain⟨⟨c,dd,dt,sl⟩,hl,rfl,n,rfl⟩:=t;have z:=aaZ s.heap (qm l);have top:=ZR (s.heap.push (qm l)) (o:=nO s.heap.objs.size) rfl;rw[z]at top;have low:=Zz (nO s.heap.objs.size) (ZR s.heap (o:=qm l) rfl);exact callType_new aeK (by decide) (adX _) (aea _) (λ_=>aej _ _) aeb (KR l items n dd sl)
  ⟨hl,⟨_,top,rfl⟩,k _ top ⟨_,low,rfl,rfl⟩ λb o q=>Zz _ (Zz _ q)⟩
theorem HY{Q:Value->Shared->Prop}{i:Nat}(a:s.heap.IsTupleIter it l i)(h:wpAny (model prog w) A.in1 (Builtin.«tuple_iterator.__next__» ⟨[.ref it],[]⟩) (λf s'=>∃x,f=.done (.ret x)/\Q x s') E s):wpAny (model prog w) A (Builtin.SmallTypes.nextOf (.ref it)) Q E s:=by
 refine vz (aaj a.typeIs adQ (aah adQ a.typeIs F.entry_tuple_iterator_next (aa5 h (λf s' r=>?_) λ_ _ z=>z) (F.args_tuple_iterator_next_1 _)));obtain⟨x,rfl,q⟩:=r;exact⟨x,rfl,ZC q⟩
theorem t8(hh:A.handled=none)(ne:l≠it)(items:Array Value):Draws prog w A it [it,l] items.size (λi v=>items[i]? = some v) λi h=>h.IsTupleIter it l i/\h.IsTuple l items:=by
 constructor
 ·rintro i h ⟨⟨o,q,_⟩,_⟩;exact⟨o,q⟩
 ·rintro i h h' ⟨a,b⟩ k;exact⟨a.at (k it (by simp)),b.at (k l (by simp))⟩
 ·rintro i s Q E hi ⟨a,b⟩ k;have hx:items[i]? = some items[i]:=by simp[hi]
  exact HY a (Ma a b hx λh' a' sb=>⟨_,rfl,k _ h' s.toks hx ⟨a',b.extBut sb.extBut ne⟩ sb⟩)
 ·rintro s Q E ⟨a,b⟩ k;exact HY a (LR hh a b (by simp) k)
end
section
variable{X:Cx}{pins:List (Addr×Obj)}{σ:L2.St}{H:Hp}{s:Shared}{h':Heap}
theorem iH{fp:List Addr}{t':Nat}(I:Inv X pins σ H s)(hf:∀b∈fp,mO X pins H b)(k:∀b o,b∉fp->s.heap.get? b=some o->h'.get? b=some o):Inv X pins σ H {s with heap:=h',toks:=t'}:=by
 have nit:∀b u,H b=some u->b∉fp:=λb u e z=>by rw[(hf b z).1]at e;cases e
 refine I.step (g':=s.gens) (d':=s.drawn) (ch:=fp) (λb hb=>⟨(hf b hb).2.2.2.1,(hf b hb).2.1,(hf b hb).2.2.2.2.1,(hf b hb).2.2.2.2.2⟩) (λb o _ _ hc e _=>k b o hc e) (λb o _ _ hc e _=>⟨o.slots,k b o hc e⟩) (λ_ _ _ _ n=>n)
  (λb o hc e=>⟨o,k b o hc e⟩) (λ_ _ e=>e) (λ_ _ _ e=>e) (λb ps e=>⟨#[],by rw[e];simp⟩) (λm hm=>?_) (λb u e=>?_) I.bare
 ·obtain⟨o,es,ep,ho,r⟩:=hm;exact⟨o,es,ep,k _ o (λz=>(hf _ z).2.1 rfl) ho,r⟩
 ·refine(I.hok b u e).stay (λc v hc q=>k c v ?_ q) (λ_ q=>q) λ_ _ q=>q;rcases hc with z|z
  ·rw[z];exact nit b u e
  ·exact nit c _ z
def Yb(sq:Hp->Addr->List V->Prop)(a:Addr):It:=
 ⟨λi H=>∃xs x,sq H a xs/\xs[i]? = some x,λi H p H'=>∃x t,(∀xs,sq H a xs->xs[i]? = some x)/\H t=none/\p=.ref t/\H'=upd H t (.tup [.int i,x]),λi H=>∃xs,sq H a xs/\i=xs.length⟩
theorem CW{e it T:Addr}{tk tk':Nat}{i:Int}{x:V}{u:Value}{h2:Heap}(I:Inv X pins σ H s)(hf:∀b∈[e,it],mO X pins H b)(hlt:∀b∈[e,it],b<s.heap.objs.size)(hT:T=s.heap.objs.size)(ru:RelV x u)
 (hk:∀b o,b≠e->b≠it->s.heap.get? b=some o->h2.get? b=some o) (ht:h2.get? T=some {cls:=.type "tuple",data:=.seq #[.int i tk,u]}):
 Inv X pins σ (upd H T (.tup [.int i,x])) {s with heap:=h2,toks:=tk'}:=by
 subst hT;have I1:Inv X pins σ (upd H s.heap.objs.size (.tup [.int i,x])) {s with heap:=s.heap.push {cls:=.type "tuple",data:=.seq [Value.int i tk,u].toArray},toks:=tk'}:=by
  refine I.laid (t':=tk') (λb o q=>Zz _ q) (ZS _) ?_;exact⟨by show 2<=sizeLine;rw[cM];decide,[.int i tk,u],.cons ⟨tk,rfl⟩ (.cons ru .nil),adN _ _⟩
 have T1:=iH (t':=tk') (h':=h2) (fp:=[e,it]) I1;refine T1 (λb hb=>⟨?_,(hf b hb).2⟩) λb o hb q=>?_
 ·rw[aR (Z1 (hlt b hb))];exact(hf b hb).1
 ·by_cases hz:b=s.heap.objs.size
  ·subst hz;have q':=(ZR s.heap (o:={cls:=.type "tuple",data:=.seq [Value.int i tk,u].toArray}) rfl).symm.trans q;cases q';exact ht
  ·have q':(s.heap.push {cls:=.type "tuple",data:=.seq [Value.int i tk,u].toArray}).get? b=some o:=q;have hlt':b<(s.heap.push {cls:=.type "tuple",data:=.seq [Value.int i tk,u].toArray}).objs.size:=ZG q';rw[aaZ]at hlt';have hb':b<s.heap.objs.size:=adR (ad3 hlt') hz;refine hk b o (λz=>hb (by simp[z])) (λz=>hb (by simp[z])) ?_;obtain⟨o1,ho1⟩:∃o1,s.heap.get? b=some o1:=by
    cases hg:s.heap.get? b with
    |some o1=>exact⟨o1,rfl⟩|none=>
      exfalso;obtain⟨q1,q2⟩:=ab4.mp q';have q3:s.heap.objs[b]? = some o:=by
       revert q1
       generalize s.heap=hh at hb' ⊢;cases hh;intro q1;simpa[Heap.push,adL,Z1 hb']using q1
      rw[ab4.mpr ⟨q3,q2⟩]at hg;cases hg
   have:=Zz {cls:=.type "tuple",data:=.seq [Value.int i tk,u].toArray} ho1;rw[q']at this;cases this;exact ho1
theorem Eg{P:Program}{w:World}{K:PySem.W.Frag}{elts:List Expr}{k:Nat}{pos:Pos}(a e it:Addr):Turn P w K (.Tuple elts k pos) (Yb (SqT K) a) [e,it] e (λi h=>e≠it/\(∃old,IsEnum h e it i old)/\h.IsTupleIter it a i) where
 mem:=by simp
 obj:=λi h st b hb=>by
  obtain⟨_,⟨old,he⟩,o,ho,c,d⟩:=st;rcases ZP.mp hb with rfl|hb
  ·exact⟨_,he,λv z=>by cases z⟩
  ·rw[ZW.mp hb];exact⟨o,ho,λv z=>by rw[d]at z;cases z⟩
 keep:=λi h h' st k=>by
  obtain⟨ne,⟨old,he⟩,o,ho,r⟩:=st;exact⟨ne,⟨old,k e (by simp) _ he⟩,o,k it (by simp) o ho,r⟩
 item:=by
  intro X hP hw hK hc i pins s σ H E I hf st hg;subst hP hw hK;obtain⟨hne,⟨old,he⟩,hit⟩:=st;obtain⟨xs,x,hq,hx⟩:=hg;obtain⟨its,rv,p,hz⟩:=I.tuple hq;obtain⟨u,hu,ru⟩:=rv.get hx;have p':s.heap.IsTuple a its.toArray:=p;have hai:a≠it:=λz=>by
   obtain⟨o,e1,c1,_⟩:=p';obtain⟨o',e2,c2,_⟩:=hit;rw[z,e2]at e1;cases e1;rw[c2]at c1;injection c1 with c1;exact absurd c1 (by decide)
  have hae:e≠a:=λz=>by
   obtain⟨o,e1,c1,_⟩:=p';rw[<-z,he]at e1;cases e1;injection c1 with c1;exact absurd c1 (by decide)
  have hil:i<its.toArray.size:=by
   rw[ZJ];exact(ZV.mp hu).1
  have ltE:e<s.heap.objs.size:=ZG he;have ltI:it<s.heap.objs.size:=by obtain⟨o,q,_⟩:=hit;exact ZG q
  refine wpAny_pyNext_enum_itemD (t8 (A:=X.A.in1) (I.ok.hd hc) hai its.toArray) he ⟨hit,p'⟩ hil hne (by simp[hne,hae]) λy h1 tk hy ho hs1 hT hsz hk=>?_;have hyu:y=u:=by
   have hy':its.toArray[i]? = some y:=hy;have hu':its.toArray[i]? = some u:=by simpa using hu
   rw[hu']at hy';exact(aaA hy').symm
  subst hyu;refine⟨_,rfl,acK ho λh2 he2 hs2=>?_⟩;have hs2':Heap.SameBut e h1 h2:=hs2;refine⟨.ref s.heap.objs.size,upd H s.heap.objs.size (.tup [.int i,x]),?_,rfl,⟨x,s.heap.objs.size,λys hy'=>by rw[I.tuple_inj hy' hq];exact hx,I.fresh,rfl,rfl⟩,⟨hne,⟨_,by simpa using he2⟩,?_⟩,λb hb=>?_⟩
  ·refine CW (s:=s) (tk':=tk+1) I hf (λb hb=>?_) rfl ru (λb o n1 n2 q=>(hs2'.2 b n1).trans (hk b o n1 n2 q)) ((hs2'.2 _ (aam ltE)).trans hT);rcases ZP.mp hb with rfl|hb
   ·exact ltE
   ·rw[ZW.mp hb];exact ltI
  ·obtain⟨o,q,r⟩:=hs1.1;exact⟨o,(hs2'.2 it hne.symm).trans q,r⟩
  ·have hlt:b<s.heap.objs.size:=by
    rcases ZP.mp hb with rfl|hb
    ·exact ltE
    ·rw[ZW.mp hb];exact ltI
   rw[aR (Z1 hlt)];exact(hf b hb).1
 done:=by
  intro X hP hw hK hc i pins s σ H E I hf st hg;subst hP hw hK;obtain⟨hne,⟨old,he⟩,hit⟩:=st;obtain⟨xs,hq,hx⟩:=hg;obtain⟨its,rv,p,hz⟩:=I.tuple hq;have hl:=rv.length;have hai:a≠it:=λz=>by
   obtain⟨o,e1,c1,_⟩:=(show s.heap.IsTuple a its.toArray from p);obtain⟨o',e2,c2,_⟩:=hit;rw[z,e2]at e1;cases e1;rw[c2]at c1;injection c1 with c1;exact absurd c1 (by decide)
  have hi:i=its.toArray.size:=by rw[ZJ];omega
  subst hi;refine wpAny_pyNext_enum_endD (t8 (A:=X.A.in1) (I.ok.hd hc) hai its.toArray) he ⟨hit,(show s.heap.IsTuple a its.toArray from p)⟩ λh' hx'=>⟨rfl,?_⟩;exact iH (t':=s.toks) I hf λb o hb q=>hx' b o (λz=>hb (by simp[z])) q
 self:=λ_ _ _ _ _ st h=>by
  obtain⟨_,⟨old,he⟩,_⟩:=st;exact acd he h
theorem Eh{P:Program}{w:World}{K:PySem.W.Frag}{elts:List Expr}{k:Nat}{pos:Pos}(a e it:Addr):Turn P w K (.Tuple elts k pos) (Yb (SqL K) a) [e,it] e (λi h=>e≠it/\(∃old,IsEnum h e it i old)/\h.IsListIter it a i) where
 mem:=by simp
 obj:=λi h st b hb=>by
  obtain⟨_,⟨old,he⟩,o,ho,c,d⟩:=st;rcases ZP.mp hb with rfl|hb
  ·exact⟨_,he,λv z=>by cases z⟩
  ·rw[ZW.mp hb];exact⟨o,ho,λv z=>by rw[d]at z;cases z⟩
 keep:=λi h h' st k=>by
  obtain⟨ne,⟨old,he⟩,o,ho,r⟩:=st;exact⟨ne,⟨old,k e (by simp) _ he⟩,o,k it (by simp) o ho,r⟩
 item:=by
  intro X hP hw hK hc i pins s σ H E I hf st hg;subst hP hw hK;obtain⟨hne,⟨old,he⟩,hit⟩:=st;obtain⟨xs,x,hq,hx⟩:=hg;obtain⟨its,rv,p,hz⟩:=I.list hq;obtain⟨u,hu,ru⟩:=rv.get hx;have p':s.heap.IsList a its.toArray:=p.isList;have hai:a≠it:=λz=>by
   obtain⟨o,e1,c1,_⟩:=p';obtain⟨o',e2,c2,_⟩:=hit;rw[z,e2]at e1;cases e1;rw[c2]at c1;injection c1 with c1;exact absurd c1 (by decide)
  have hae:e≠a:=λz=>by
   obtain⟨o,e1,c1,_⟩:=p';rw[<-z,he]at e1;cases e1;injection c1 with c1;exact absurd c1 (by decide)
  have hil:i<its.toArray.size:=by
   rw[ZJ];exact(ZV.mp hu).1
  have ltE:e<s.heap.objs.size:=ZG he;have ltI:it<s.heap.objs.size:=by obtain⟨o,q,_⟩:=hit;exact ZG q
  refine wpAny_pyNext_enum_itemD (Draws.list (A:=X.A.in1) (I.ok.hd hc) it a hai its.toArray) he ⟨hit,p'⟩ hil hne (by simp[hne,hae]) λy h1 tk hy ho hs1 hT hsz hk=>?_;have hyu:y=u:=by
   have hy':its.toArray[i]? = some y:=hy;have hu':its.toArray[i]? = some u:=by simpa using hu
   rw[hu']at hy';exact(aaA hy').symm
  subst hyu;refine⟨_,rfl,acK ho λh2 he2 hs2=>?_⟩;have hs2':Heap.SameBut e h1 h2:=hs2;refine⟨.ref s.heap.objs.size,upd H s.heap.objs.size (.tup [.int i,x]),?_,rfl,⟨x,s.heap.objs.size,λys hy'=>by rw[I.list_inj hy' hq];exact hx,I.fresh,rfl,rfl⟩,⟨hne,⟨_,by simpa using he2⟩,?_⟩,λb hb=>?_⟩
  ·refine CW (s:=s) (tk':=tk+1) I hf (λb hb=>?_) rfl ru (λb o n1 n2 q=>(hs2'.2 b n1).trans (hk b o n1 n2 q)) ((hs2'.2 _ (aam ltE)).trans hT);rcases ZP.mp hb with rfl|hb
   ·exact ltE
   ·rw[ZW.mp hb];exact ltI
  ·obtain⟨o,q,r⟩:=hs1.1;exact⟨o,(hs2'.2 it hne.symm).trans q,r⟩
  ·have hlt:b<s.heap.objs.size:=by
    rcases ZP.mp hb with rfl|hb
    ·exact ltE
    ·rw[ZW.mp hb];exact ltI
   rw[aR (Z1 hlt)];exact(hf b hb).1
 done:=by
  intro X hP hw hK hc i pins s σ H E I hf st hg;subst hP hw hK;obtain⟨hne,⟨old,he⟩,hit⟩:=st;obtain⟨xs,hq,hx⟩:=hg;obtain⟨its,rv,p,hz⟩:=I.list hq;have hl:=rv.length;have hai:a≠it:=λz=>by
   obtain⟨o,e1,c1,_⟩:=p.isList;obtain⟨o',e2,c2,_⟩:=hit;rw[z,e2]at e1;cases e1;rw[c2]at c1;injection c1 with c1;exact absurd c1 (by decide)
  have hi:i=its.toArray.size:=by rw[ZJ];omega
  subst hi;refine wpAny_pyNext_enum_endD (Draws.list (A:=X.A.in1) (I.ok.hd hc) it a hai its.toArray) he ⟨hit,p.isList⟩ λh' hx'=>⟨rfl,?_⟩;exact iH (t':=s.toks) I hf λb o hb q=>hx' b o (λz=>hb (by simp[z])) q
 self:=λ_ _ _ _ _ st h=>by
  obtain⟨_,⟨old,he⟩,_⟩:=st;exact acd he h
end
section
variable{X:Cx}{a:Expr}{ma:ME}{pos pos' p:Pos}{elts:List Expr}{kt:Nat}
def VN(K:PySem.W.Frag)(ta:TA):TI:=λσ H R=>ta σ H λvs H1=>∃a,vs=[.ref a]/\(((∃xs,SqL K H1 a xs)/\R (Yb (SqL K) a) H1)\/((∃xs,SqT K H1 a xs)/\R (Yb (SqT K) a) H1))
theorem RL{ta:TA}(hg:Gl X "enumerate")(hm:X.mg "enumerate"=none)(ha:PA X [a] ta)(hs:starEach [a] X.env=[(false,eval a X.env)]:=by rfl):
 PI X (.Tuple elts kt pos') (.Call (.Name "enumerate" p) [a] [] pos) (VN X.K ta):=by
 intro pins s σ H R I h;refine Call_ (jl I hg hm boot_enumerate (aat (cW (ha pos pins s σ H _ I h) λus s1 ⟨vs,H1,I1,r1,q1⟩=>?_) hs rfl));obtain⟨a,e,q⟩:=q1;subst e;cases r1 with
 |cons r rr=>
   cases rr;cases r;have fp:∀b∈[s1.heap.objs.size+1,s1.heap.objs.size],mO X pins H1 b:=λb hb=>by
    have e:s1.heap.objs.size<=b:=by
     rcases ZP.mp hb with rfl|hb
     ·exact ac4 _
     ·rw[ZW.mp hb];exact ZS _
    exact I1.fpOk e (I1.hok.fresh e)
   rcases q with⟨⟨xs,hq⟩,q⟩|⟨⟨xs,hq⟩,q⟩
   ·obtain⟨its,rv,p,hz⟩:=I1.list hq;refine call_enumerate_list p.isList λh' he hit hsz hk=>acd he ?_;exact⟨s1.heap.objs.size+1,[s1.heap.objs.size+1,s1.heap.objs.size],_,_,H1,rfl,I1.kept (t':=s1.toks) hk,Eh a _ _,⟨Nat.succ_ne_self _,⟨_,he⟩,hit⟩,fp,q⟩
   ·obtain⟨its,rv,p,hz⟩:=I1.tuple hq;refine uq (show s1.heap.IsTuple a its.toArray from p) λh' he hit hk=>acd he ?_;exact⟨s1.heap.objs.size+1,[s1.heap.objs.size+1,s1.heap.objs.size],_,_,H1,rfl,I1.kept (t':=s1.toks) hk,Eg a _ _,⟨Nat.succ_ne_self _,⟨_,he⟩,hit⟩,fp,q⟩
theorem rG:∀(ds:List D)(k i:Nat)(d:D),(cG k ds)[i]? = some d->∃e,ds[i]? = some e/\d=.tup [.int ((k+i:Nat):Int),e]
 |[],_,_,_,h=>by simp[cG]at h|e::ds,k,0,d,h=>by
   simp[cG]at h;exact⟨e,rfl,by rw[<-h];rfl⟩
 |e::ds,k,i+1,d,h=>by
   have h':(cG (k+1) ds)[i]? = some d:=by simpa[cG]using h
   obtain⟨e',h1,h2⟩:=rG ds (k+1) i d h';refine⟨e',by simpa using h1,?_⟩;rw[h2,show k+1+i=k+(i+1)by omega]
theorem lF:∀(ds:List D)(k:Nat),(cG k ds).length=ds.length
 |[],_=>rfl|_::ds,k=>by simp[cG,lF ds (k+1)]
theorem wW{K:PySem.W.Frag}{B:Hp}{a:Addr}{ds:List D}{xs:List V}{sq:Hp->Addr->List V->Prop}(hm:∀{H':Hp},Same B H'->sq H' a xs)(h2:Dens K B ds xs):Walk K (Yb sq a) B (cG 0 ds):=by
 intro i os1 H1 L g;have gu:=g.trans hide_le;refine⟨λd hd=>?_,λhl=>⟨xs,hm gu,by rw[<-h2.length,<-lF ds 0];exact hl⟩⟩;obtain⟨e,he,rfl⟩:=rG ds 0 i d hd;obtain⟨x,hx,r⟩:=h2.get he;refine⟨⟨xs,x,hm gu,hx⟩,λy H2 z=>?_⟩;obtain⟨x',t,z,ht,rfl,rfl⟩:=z;have:=z xs (hm gu);rw[hx]at this;cases this;refine⟨bB ht (.tup [.int i,x]),.newT L ht ?_⟩;rw[acx];exact .cons (.int _) (.cons (r.mono g _ _) .nil)
theorem zF(hg:Gl X "enumerate")(hm:X.mg "enumerate"=none)(h:DE X a ma)(hs:starEach [a] X.env=(false,eval a X.env)::starEach [] X.env:=by rfl)(hs':starEach [a] X.env=[(false,eval a X.env)]:=by rfl):
 DI X (.Tuple elts kt pos') (.Call (.Name "enumerate" p) [a] [] pos) (rD ma):=by
 obtain⟨t,pt,q⟩:=h;refine⟨_,RL hg hm (bG pt cV hs) hs',λos σ H δ xs R s m k=>?_⟩;obtain⟨d,e1,m⟩:=ao m;refine q os σ H δ d _ s e1 λv H1 g1 r1=>?_;cases d with
 |tup ds=>
   cases m;obtain⟨a,ys,rfl,h1,h2⟩:=r1.tup_inv;exact⟨a,rfl,.inr ⟨⟨ys,.of (hide_le _ _ h1)⟩,k _ H1 g1 (wW (λg=>.of (g _ _ h1)) h2)⟩⟩
 |lst ds=>
   cases m;obtain⟨a,ys,rfl,h1,h2⟩:=r1.lst_inv;exact⟨a,rfl,.inl ⟨⟨ys,hide_le.seq h1⟩,k _ H1 g1 (wW (λg=>g.seq h1) h2)⟩⟩
 |_=>cases m
end
theorem V3{P:Program}{w:World}{K:PySem.W.Frag}{mg:Str->Option Value}{base:Heap}{x qual:Str}{st:Stmt}{f:Addr}{fd:FuncData}{N ps:List Str}{k kk:Nat}{m:MS}{M:MF}(hkk:N.length<=kk)(F:Fun K x qual st f fd)(S:ig N ps (aH st))
 (hM:M=iM ps.length kk m)
 (h:∀(cdv:Value)(A:Around)(outer:List Env)(s:Shared)(H:Hp)(E:XK),Room k (A.deeper (envOfC qual (aH st) s.heap.objs.size f cdv))->
  DQ (tK uE P w K mg base N qual (aH st) f cdv A outer s H E).nox False (gm st) m):
 mQ P w K mg base uE (k+1) f fd ps (DX K M):=by
 rw[hM];exact XH hkk F S h
section
variable{X:Cx}{os:List Addr}{H H':Hp}{δ:Ev}{σ:L2.St}
theorem JW{i:Nat}(h:i<δ.length)(e:slot δ i=none):δ[i]? = some none:=by
 unfold slot at e;rw[ZM h]at e ⊢;exact aaS some e
theorem Sl.own_at(s:Sl X os H δ σ){n i:Nat}{d:D}(hn:X.N.length=n)(hi:i<n)(h:ownAt n i δ=some d):
 δ[i]? = some none/\δ[n+i]? = some (some d)/\∃a,σ[i]? = some (some (.ref a))/\a∈os/\(X.fn ""=true->X.H₀ a=none)/\Own X.K (hide os H) H a d:=by
 subst hn;unfold ownAt at h;cases e:slot δ i with
 |some y=>rw[e]at h;cases h|none=>
   rw[e]at h;have h1:=JW (ZX hi s.len) e;have h2:=ou h;exact⟨h1,h2,s.ow i d hi h1 h2⟩
theorem Sl.make(s:Sl X os H δ σ){n i:Nat}{d:D}{p:Addr}(hn:X.N.length=n)(hi:i<n)(g:Same H H')(hp:H p=none)(o:Own X.K (hide (p::os) H') H' p d):Sl X (p::os) H' (lM n i d δ) (σ.set i (some (.ref p))):=by
 subst hn;have np:=s.live.ne hp;have big:Same (hide os H) (hide (p::os) H'):=λb u e=>by
  have hb:b∉os:=λz=>by rw[cg z]at e;cases e
  rw[aL hb]at e;have hbp:b≠p:=bx e hp;rw[aL (by simp[hb,hbp])];exact g _ _ e
 have lv:∃u,H' p=some u/\Uw u:=by
  cases d with
  |lst ds=>obtain⟨xs,h1,_⟩:=o;exact⟨_,h1,True.intro⟩
  |dic t ks vs=>obtain⟨xs,h1,_⟩:=o;rcases h1 with⟨_,_,h1,_⟩|⟨_,_,h1,_⟩<;>exact⟨_,h1,True.intro⟩
  |_=>exact o.elim
 have own_up:∀{a:Addr}{e:D},Own X.K (hide os H) H a e->Own X.K (hide (p::os) H') H' a e:=λ{a e} h=>by
  cases e with
  |lst ds=>obtain⟨xs,h1,h2⟩:=h;exact⟨xs,g _ _ h1,h2.mono big _ _⟩
  |dic t ks vs=>obtain⟨xs,h1,h2⟩:=h;exact⟨xs,h1.mono g,h2.mono big _ _⟩
  |_=>exact h
 have hid:i<δ.length:=ZX hi s.len;have nT:∀{e:D},(lM X.N.length i d δ)[X.N.length+i]? = some (some e)->e=d:=λ{e} h=>by
  unfold lM at h;by_cases hl:X.N.length+i<δ.length
  ·rw[Z9 (by simpa using hl)]at h;cases h;rfl
  ·rw[aag (by simpa using hl)]at h;cases h
 have off:∀{j:Nat},j≠i->j≠X.N.length+i->(lM X.N.length i d δ)[j]? = δ[j]?:=λ{j} h1 h2=>by
  unfold lM;rw[ZQ (aal h2),ZQ (aal h1)]
 have self_none:(lM X.N.length i d δ)[i]? = some none:=by
  unfold lM;rw[ZQ (by omega),Z9 hid]
 have sig:∀{j:Nat},j≠i->(σ.set i (some (V.ref p)))[j]? = σ[j]?:=λ{j} h=>ZQ (aal h);have sigi:(σ.set i (some (V.ref p)))[i]? = some (some (.ref p)):=Z9 (by rw[s.n];exact hi);have p0:X.H₀ p=none:=s.keep.free hp;refine⟨by simpa using s.n,by unfold lM;simpa using s.len,λj e hj h=>?_,λj e hj h1 h2=>?_,λj k e f a hj hk h1 h2 h3 h4 h5 h6=>?_,λa ha=>?_,s.keep.trans g⟩
 ·by_cases hji:j=i
  ·subst hji;rw[self_none]at h;cases h
  ·rw[off hji (by omega)]at h;obtain⟨v,e1,r⟩:=s.pl j e hj h;exact⟨v,(sig hji).trans e1,r.mono big _ _⟩
 ·by_cases hji:j=i
  ·subst hji;have:=nT h2;subst this;exact⟨p,sigi,ZF,λ_=>p0,o⟩
  ·rw[off hji (by omega)]at h1;rw[off (by omega) (by omega)]at h2;obtain⟨a,e1,e2,e3,e4⟩:=s.ow j e hj h1 h2;exact⟨a,(sig hji).trans e1,Zy _ e2,e3,own_up e4⟩
 ·by_cases hji:j=i
  ·by_cases hki:k=i
   ·rw[hji,hki]
   ·exfalso;subst hji;rw[off hki (by omega)]at h2;rw[off (by omega) (by omega)]at h4;obtain⟨a',e1,e2,_⟩:=s.ow k f hk h2 h4;rw[sigi]at h5;rw[sig hki,e1]at h6;cases h5;cases h6;exact np e2
  ·rw[off hji (by omega)]at h1;rw[off (by omega) (by omega)]at h3;by_cases hki:k=i
   ·exfalso;subst hki;obtain⟨a',e1,e2,_⟩:=s.ow j e hj h1 h3;rw[sigi]at h6;rw[sig hji,e1]at h5;cases h5;cases h6;exact np e2
   ·rw[off hki (by omega)]at h2;rw[off (by omega) (by omega)]at h4;exact s.inj j k e f a hj hk h1 h2 h3 h4 ((sig hji).symm.trans h5) ((sig hki).symm.trans h6)
 ·rcases ZP.mp ha with rfl|ha
  ·exact lv
  ·exact(s.live.mono g) a ha
theorem SM{p:Addr}(g:Same H H')(hp:H p=none):Fr X os H (p::os) H':=by
 refine⟨λb u e=>?_,λb h _=>Zy _ h⟩;have hb:b∉os:=λz=>by rw[cg z]at e;cases e
 rw[aL hb]at e;have hbp:b≠p:=bx e hp;rw[aL (by simp[hb,hbp])];exact g _ _ e
theorem Sl.chg(s:Sl X os H δ σ){n i:Nat}{d d':D}{a:Addr}{o:HO}(hn:X.N.length=n)(hi:i<n)(hfn:X.fn ""=true)(h:ownAt n i δ=some d)(ha:σ[i]? = some (some (.ref a)))(ho:Own X.K (hide os H) (upd H a o) a d'):
 Sl X os (upd H a o) (δ.set (n+i) (some d')) σ/\Fr X os H os (upd H a o):=by
 obtain⟨h1,h2,a',e1,e2,e3,e4⟩:=s.own_at hn hi h;subst hn;rw[ha]at e1;cases e1;have hd:hide os (upd H a o)=hide os H:=by
  funext b
  by_cases hb:b∈os
  ·rw[cg hb,cg hb]
  ·rw[aL hb,aL hb,aR (λz:b=a=>hb (by rw[z];exact e2))]
 have off:∀{j:Nat},j≠X.N.length+i->(δ.set (X.N.length+i) (some d'))[j]? = δ[j]?:=λ{j} h=>ZQ (aal h);have nT:∀{e:D},(δ.set (X.N.length+i) (some d'))[X.N.length+i]? = some (some e)->e=d':=λ{e} h=>by
  by_cases hl:X.N.length+i<δ.length
  ·rw[Z9 hl]at h;cases h;rfl
  ·rw[aag (by simpa using hl)]at h;cases h
 have back:∀{j:Nat}{e:D},j<X.N.length->(δ.set (X.N.length+i) (some d'))[X.N.length+j]? = some (some e)->∃e',δ[X.N.length+j]? = some (some e'):=λ{j e} hj h=>by
  by_cases hji:j=i
  ·subst hji;exact⟨d,h2⟩
  ·rw[off (by omega)]at h;exact⟨e,h⟩
 refine⟨⟨s.n,by simpa using s.len,λj e hj h=>?_,λj e hj q1 q2=>?_,λj k e f b hj hk q1 q2 q3 q4 q5 q6=>?_,λb hb=>?_,λb u e=>?_⟩,⟨by rw[hd];exact Same.refl _,λ_ h _=>h⟩⟩
 ·rw[off (by omega)]at h;obtain⟨v,r1,r2⟩:=s.pl j e hj h;exact⟨v,r1,by rw[hd];exact r2⟩
 ·rw[off (by omega)]at q1;by_cases hji:j=i
  ·subst hji;have:=nT q2;subst this;exact⟨a,ha,e2,e3,by rw[hd];exact ho⟩
  ·rw[off (by omega)]at q2;obtain⟨b,r1,r2,r3,r4⟩:=s.ow j e hj q1 q2;have hba:b≠a:=λz=>by
    subst z;exact hji (s.inj j i e d b hj hi q1 h1 q2 h2 r1 ha)
   refine⟨b,r1,r2,r3,?_⟩;rw[hd];cases e with
   |lst ds=>obtain⟨xs,w1,w2⟩:=r4;exact⟨xs,(aR hba).trans w1,w2⟩
   |dic t ks vs=>
     obtain⟨xs,w1,w2⟩:=r4;refine⟨xs,?_,w2⟩;rcases w1 with⟨z,kvs,w1,r⟩|⟨z,kvs,w1,r⟩
     ·exact .inl ⟨z,kvs,(aR hba).trans w1,r⟩
     ·exact .inr ⟨z,kvs,(aR hba).trans w1,r⟩
   |_=>exact r4
 ·rw[off (by omega)]at q1 q2;obtain⟨e',w1⟩:=back hj q3;obtain⟨f',w2⟩:=back hk q4;exact s.inj j k e' f' b hj hk q1 q2 w1 w2 q5 q6
 ·by_cases hba:b=a
  ·subst hba;refine⟨o,aY,?_⟩;cases d' with
   |lst ds=>obtain⟨xs,w1,_⟩:=ho;rw[aY]at w1;cases w1;exact True.intro
   |dic t ks vs=>obtain⟨xs,w1,_⟩:=ho;rcases w1 with⟨_,_,w1,_⟩|⟨_,_,w1,_⟩<;>(rw[aY]at w1;cases w1;exact True.intro)
   |_=>exact ho.elim
  ·obtain⟨u,e,n⟩:=s.live b hb;exact⟨u,(aR hba).trans e,n⟩
 ·rw[aR (bx e (e3 hfn))];exact s.keep b u e
theorem Sl.frz(s:Sl X os H δ σ){n i:Nat}(hn:X.N.length=n)(hi:i<n):∃os',Sl X os' H (frz n i δ) σ/\(∀b∈os',b∈os)/\(∀b∈os,b∉os'->(X.fn ""=true->X.H₀ b=none)/\∃d,Own X.K (hide os H) H b d):=by
 by_cases hl:∃ds,ownAt n i δ=some (.lst ds)
 ·obtain⟨ds,h⟩:=hl;have ef:DL.frz n i δ=(δ.set i (some (.lst ds))).set (n+i) none:=by unfold DL.frz;rw[h]
  rw[ef];obtain⟨h1,h2,a,e1,e2,e3,e4⟩:=s.own_at hn hi h;subst hn;generalize hd:D.lst ds=d at *;have hid:i<δ.length:=ZX hi s.len;have hid2:X.N.length+i<δ.length:=(ZV.mp h2).1;have mem:∀b,b∈os.filter (λc=>decide (c≠a))↔b∈os/\b≠a:=λb=>by simp
  have na:a∉os.filter (λc=>decide (c≠a)):=λz=>((mem a).mp z).2 rfl;have big:Same (hide os H) (hide (os.filter (λc=>decide (c≠a))) H):=λb u e=>by
   have hb:b∉os:=λz=>by rw[cg z]at e;cases e
   rw[aL hb]at e;rw[aL (λz=>hb ((mem b).mp z).1)];exact e
  have dn:Den X.K (hide (os.filter (λc=>decide (c≠a))) H) d (.ref a):=by
   subst hd;obtain⟨xs,w1,w2⟩:=e4;exact .lst (.of ((aL na).trans w1)) (w2.mono big _ _)
  have off:∀{j:Nat},j≠i->j≠X.N.length+i->((δ.set i (some d)).set (X.N.length+i) none)[j]? = δ[j]?:=λ{j} q1 q2=>by
   rw[ZQ (aal q2),ZQ (aal q1)]
  have nT:((δ.set i (some d)).set (X.N.length+i) none)[i]? = some (some d):=by
   rw[ZQ (by omega),Z9 hid]
  have at_n:((δ.set i (some d)).set (X.N.length+i) none)[X.N.length+i]? = some none:=by
   rw[Z9 (by simpa using hid2)]
  refine⟨os.filter (λc=>decide (c≠a)),⟨s.n,by simpa using s.len,λj e hj q=>?_,λj e hj q1 q2=>?_,λj k e f b hj hk q1 q2 q3 q4 q5 q6=>?_,λb hb=>s.live b ((mem b).mp hb).1,s.keep⟩,λb hb=>((mem b).mp hb).1,λb hb hn=>?_⟩
  ·by_cases hji:j=i
   ·subst hji;rw[nT]at q;cases q;exact⟨_,e1,dn⟩
   ·rw[off hji (by omega)]at q;obtain⟨v,r1,r2⟩:=s.pl j e hj q;exact⟨v,r1,r2.mono big _ _⟩
  ·by_cases hji:j=i
   ·subst hji;rw[nT]at q1;cases q1
   ·rw[off hji (by omega)]at q1;rw[off (by omega) (by omega)]at q2;obtain⟨b,r1,r2,r3,r4⟩:=s.ow j e hj q1 q2;have hba:b≠a:=λz=>by
     subst z;exact hji (s.inj j i e d b hj hi q1 h1 q2 h2 r1 e1)
    refine⟨b,r1,(mem b).mpr ⟨r2,hba⟩,r3,?_⟩;cases e with
    |lst ds=>obtain⟨xs,w1,w2⟩:=r4;exact⟨xs,w1,w2.mono big _ _⟩
    |dic t ks vs=>obtain⟨xs,w1,w2⟩:=r4;exact⟨xs,w1,w2.mono big _ _⟩
    |_=>exact r4
  ·by_cases hji:j=i
   ·subst hji;rw[nT]at q1;cases q1
   ·by_cases hki:k=i
    ·subst hki;rw[nT]at q2;cases q2
    ·rw[off hji (by omega)]at q1;rw[off hki (by omega)]at q2;rw[off (by omega) (by omega)]at q3 q4;exact s.inj j k e f b hj hk q1 q2 q3 q4 q5 q6
  ·have:b=a:=acP λz=>hn ((mem b).mpr ⟨hb,z⟩);subst this;exact⟨e3,d,e4⟩
 ·have ef:DL.frz n i δ=δ:=by
   unfold DL.frz;split
   ·rename_i ds h;exact absurd ⟨ds,h⟩ hl
   ·rfl
  rw[ef];exact⟨os,s,λ_ z=>z,λb h1 h2=>absurd h1 h2⟩
theorem Sl.frzs{n:Nat}(hn:X.N.length=n):∀(is:List Nat){os:List Addr}{δ:Ev},(∀i∈is,i<n)->Sl X os H δ σ->∃os',Sl X os' H (frzs n is δ) σ/\(∀b∈os',b∈os)/\(∀b∈os,b∉os'->(X.fn ""=true->X.H₀ b=none)/\∃B d,Own X.K B H b d)
 |[],os,δ,_,s=>⟨os,s,λ_ z=>z,λb h1 h2=>absurd h1 h2⟩|i::is,os,δ,hi,s=>by
   obtain⟨os1,s1,a1,b1⟩:=s.frz hn (hi i ZF);obtain⟨os2,s2,a2,b2⟩:=Sl.frzs hn is (λj h=>hi j (Zy _ h)) s1;refine⟨os2,s2,λb h=>a1 b (a2 b h),λb h h'=>?_⟩;by_cases h1:b∈os1
   ·exact b2 b h1 h'
   ·obtain⟨q1,d,q2⟩:=b1 b h h1;exact⟨q1,_,d,q2⟩
theorem V1{os':List Addr}(hfn:X.fn ""=true)(h1:∀b∈os',b∈os)(h2:∀b∈os,b∉os'->(X.fn ""=true->X.H₀ b=none)/\∃B d,Own X.K B H b d):Fr X os H os' H:=by
 refine⟨λb u e=>?_,λb h n=>?_⟩
 ·have hb:b∉os:=λz=>by rw[cg z]at e;cases e
  rw[aL hb]at e;rw[aL (λz=>hb (h1 b z))];exact e
 ·exact acP λz=>n ((h2 b h z).1 hfn)
mutual
theorem Den.fl{K:PySem.W.Frag}{B B':Hp}(h:∀a xs,B a=some (.tup xs)->B' a=some (.tup xs)):∀(d:D)(v:V),DL.flat d=true->Den K B d v->Den K B' d v
 |.non,_,_,q=>by simp only[Den]at q ⊢;exact q|.bl _,_,_,q=>by simp only[Den]at q ⊢;exact q|.int _,_,_,q=>by simp only[Den]at q ⊢;exact q|.str _,_,_,q=>by simp only[Den]at q ⊢;exact q|.tup ds,_,f,q=>by
   simp only[Den]at q ⊢;obtain⟨a,xs,e1,h1,h2⟩:=q;exact⟨a,xs,e1,h a xs h1,Dens.fl h ds xs (by simpa only[DL.flat]using f) h2⟩
 |.lst ds,_,f,_=>by simp[DL.flat]at f|.dic t ks ds,_,f,_=>by simp[DL.flat]at f
theorem Dens.fl{K:PySem.W.Frag}{B B':Hp}(h:∀a xs,B a=some (.tup xs)->B' a=some (.tup xs)):∀(ds:List D)(xs:List V),DL.flats ds=true->Dens K B ds xs->Dens K B' ds xs
 |[],_,_,q=>by simp only[Dens]at q ⊢;exact q|d::ds,_,f,q=>by
   simp only[Dens]at q ⊢;obtain⟨x,r,e1,h1,h2⟩:=q;simp only[DL.flats,aac]at f;exact⟨x,r,e1,Den.fl h d x f.1 h1,Dens.fl h ds r f.2 h2⟩
end
theorem Q5{os os':List Addr}{H':Hp}(l:Live os H')(a:Addr)(xs:List V)(q:hide os' H' a=some (.tup xs)):hide os H' a=some (.tup xs):=vN l (hide_le _ _ q)
variable{e:Expr}{ma mb:ME}{mc:MT}{m:MS}{PX:Prop}{pos p2 p3:Pos}
theorem Qf{n:Nat}{is:List Nat}(hn:X.N.length=n)(his:∀i∈is,i<n)(h:DE X e ma):DE X e (KY n is ma):=by
 obtain⟨t,p,q⟩:=h;refine⟨t,p,λos σ H δ d Q s m k=>?_⟩;obtain⟨d',e1,m⟩:=ao m;split at m
 ·rename_i hf;cases m;obtain⟨os',s',a1,b1⟩:=Sl.frzs hn is his s;refine q os' σ H _ d Q s' e1 λv H' g r=>k v H' g (Den.fl (Q5 (s.live.mono g)) d v hf r)
 ·cases m
theorem oK{n:Nat}{is:List Nat}{sts:List Stmt}(hn:X.N.length=n)(his:∀i∈is,i<n)(hfn:X.fn ""=true)(h:DQ X PX sts m):DQ X PX sts (Ex n is m):=by
 obtain⟨t,p,q⟩:=h;refine⟨t,p,λos σ H δ r D s me k=>?_⟩;obtain⟨os',s',a1,b1⟩:=Sl.frzs hn is his s;exact q os' σ H _ r D s' me (k.mono (V1 hfn a1 b1))
theorem jP{n i:Nat}{x:Str}(hn:X.N.length=n)(hi:i<n)(he:DF X e ma)(hg:PG X (.Name x p2) (gG i))(hs:swapsWithSole [.Name x p2] e pos.line X.env=pure false:=by rfl)(hw:swappedStores [.Name x p2] e X.env=pure none:=by rfl)
 (h1:(assignEach [.Name x p2] X.env).map (·.2)=[assign (.Name x p2) X.env]:=by rfl):DS X PX (.Assign [.Name x p2] e pos) (jT n i ma):=by
 obtain⟨t,p,q⟩:=he;refine⟨_,Np p hg hs hw h1,λos σ H δ r D s m k=>?_⟩;obtain⟨d,e1,m⟩:=ao m;cases m;exact q os σ H δ d _ s e1 λa H' g ha o=>k _ H' (a::os) (SM g ha) (s.make hn hi g ha o)
theorem Gw{n i:Nat}{xo:Expr}{p4:Pos}(hn:X.N.length=n)(hi:i<n)(hfn:X.fn ""=true)(hv:PE X xo (fC i))(he:DE X e ma)
 (hbase:attributeBase xo "append" X.env (eval xo X.env)=eval xo X.env:=by rfl)
 (hfew:((backTo p3 (starEach [e] X.env)).all (λx => !x.1)&&(backToKw p3 (keywordEach [] X.env)).all (λx=>x.1.isSome)
  && decide ([e].length+([]:List Keyword).length+(if([]:List Keyword).isEmpty then 0 else 1)<30))=true:=by rfl)
 (hline:(p2.endLine==p3.line)=true:=by rfl) (hs:starEach [e] X.env=(false,eval e X.env)::starEach [] X.env:=by rfl) (hplain:(backTo p3 (starEach [] X.env)).any (·.1)=false:=by rfl):
 DS X PX (.Expr (.Call (.Attribute xo "append" p2) [e] [] p3) p4) (Ez n i ma):=by
 obtain⟨t,p,q⟩:=he;refine⟨_,oF (HQ acl acC aec xJ hv (bG p cV hs) hbase hfew hline hs hplain),λos σ H δ r D s m k=>?_⟩;obtain⟨y,e1,m⟩:=ao m;split at m
 ·rename_i ds ho;split at m
  ·rename_i hl;cases m;obtain⟨w1,w2,a,w3,w4,w5,xs,w6,w7⟩:=s.own_at hn hi ho;refine⟨_,w3,.inl ⟨rfl,xs,.of w6⟩,q os σ H δ y _ s e1 λv H' g rv=>?_⟩;refine⟨a,xs,v,rfl,rfl,g _ _ w6,by rw[<-w7.length,aaL];exact hl,?_⟩;obtain⟨s2,f2⟩:=(s.mono g).chg (d':=.lst (ds++[y])) (o:=.lst (xs++[v])) hn hi hfn ho w3 ⟨_,aY,(w7.mono g.hd _ _).append (.cons rv .nil)⟩;exact k σ _ os ((Fr.of g).trans f2) s2
  ·cases m
 ·cases m
end
section
variable{X:Cx}{scX sc:Scope}{NX N:List Str}{k:Nat}{fv:List Nat}{PX:Prop}
theorem oM{x:Str}{p2 spos:Pos}{i:Nat}{elt tg iter:Expr}{ifs:List Expr}{pos:Pos}{mi:MI}{g:MG}{mc:MT}{me:ME}(hlt:Nat.blt i X.N.length=true)(hpg:PG X (.Name x p2) (gG i))(hc:X.calm=true)(S:cT scX sc NX N k fv)(hX:X.env.scope=scX)(hN:X.N=NX)(hi:DI X tg iter mi)(hbl:Below k g)
 (hb:∀C s H fp,DG (kO X sc N C s H fp) tg g/\zU (kO X sc N C s H fp) ifs mc/\DE (kO X sc N C s H fp) elt me)
 (hsw:swapsWith (.ListComp elt [⟨tg,iter,ifs,0⟩] sc pos) (some (.Name x p2)) spos.line X.env=pure true:=by rfl) (hs:∀x,foldedSetIterable iter X.env x=pure x:=by intro _;rfl) (hil:ifs.length<=1:=by decide):
 DS X PX (.Assign [.Name x p2] (.ListComp elt [⟨tg,iter,ifs,0⟩] sc pos) spos) (cB (bM k fv mi g mc me) (gN i)):=by
 refine⟨_,Nk v9 hc S hX hN hi hbl hil hb hpg hsw hs,λos σ H δ r D s m kq=>?_⟩;obtain⟨d,e1,m⟩:=ao m;cases m;obtain⟨ds,rfl⟩:=xM (pick k fv) mi g mc me δ d e1;refine⟨os,δ,_,s,e1,λp H' g hp ow=>?_⟩;exact kq _ H' os (.of g) ((s.mono g).set i (sV hlt) (ow.den (s.live.ne hp)))
end
end DL
namespace DL
open PySem
noncomputable def SQ:MF:=λds=>match ds with|[.int i,.int j]=>some (.int (if j>i then j else i))|_=>none
noncomputable def V7:MF:=λds=>match ds with|[.int i,.int j]=>some (.int (if j<i then j else i))|_=>none
noncomputable def jt(a:Int)(n:Nat):List D:=(List.range n).map λ(i:Nat)=>D.int (a+i)
def rB(a b:ME):MI:=λδ=>(a δ).bind λx=>(b δ).bind λy=>match x,y with
 |.int i,.int j=>if -1073741824<i/\i<1073741824 /\ -1073741824<j/\j<1073741824 then some (jt i (j-i).toNat)else none
 |_,_=>none
noncomputable def Am(k:Nat):D->Option D
 |.tup xs=>some (.tup (xs.drop k))|.lst xs=>some (.lst (xs.drop k))|_=>none
noncomputable def vU(a b:ME):ME:=λδ=>(a δ).bind λx=>(b δ).bind λy=>match x,y with
 |.lst ds,.int k=>if -9223372036854775808<=k/\k<9223372036854775808/\ds.length*k.toNat<=16777216 then some (.lst (List.replicate k.toNat ds).flatten)else none
 |_,_=>none
def Bg(i:Nat)(f:D->D->Option D)(a:ME):MS:=λδ=>(slot δ i).bind λx=>(a δ).bind λy=>(f x y).bind λz=>some (.nx (δ.set i (some z)))
def Mz(n i:Nat)(k a:ME):MS:=λδ=>(k δ).bind λz=>(a δ).bind λy=>match ownAt n i δ,z,y with
 |some (.lst ds),.int j,.int b=>(uz ds.length j).bind λq=>(ds[q]?).bind λo=>match o with
   |.int c=>some (.nx (δ.set (n+i) (some (.lst (ds.set q (.int (c+b)))))))|_=>none
 |_,_,_=>none
def Ey(n i:Nat)(a:ME):MS:=λδ=>(a δ).bind λy=>match ownAt n i δ,y with
 |some (.lst ds),.tup es=>if ds.length+es.length<=16777216 then some (.nx (δ.set (n+i) (some (.lst (ds++es)))))else none
 |some (.lst ds),.lst es=>if ds.length+es.length<=16777216 then some (.nx (δ.set (n+i) (some (.lst (ds++es)))))else none
 |_,_=>none
noncomputable def gB(xs ys:List D):List D:=(xs.zip ys).map λp=>.tup [p.1,p.2]
def wN(a b:ME):MI:=λδ=>(a δ).bind λx=>(b δ).bind λy=>match x,y with
 |.lst xs,.lst ys=>some (gB xs ys)|_,_=>none
def vV(a b:ME):ME:=λδ=>(wN a b δ).bind λxs=>if xs.length<=16777216 then some (.lst xs)else none
noncomputable def intsOf:List D->Option (List Int)
 |[]=>some []|.int i::r=>(intsOf r).bind λq=>some (i::q)|_=>none
noncomputable def isKey:D->Bool
 |.int _=>true|.str _=>true|_=>false
def sY:D->Bool
 |.tup ds=>ds.all isKey|_=>false
def Mx(n i:Nat)(k a:ME):MS:=λδ=>(a δ).bind λy=>(k δ).bind λz=>match ownAt n i δ with
 |some (.dic true ks vs)=>if sY z=true/\(ks.all λq => !dW q z)=true/\ks.length<16777216 then some (.nx (δ.set (n+i) (some (.dic true (ks++[z]) (vs++[y])))))else none
 |_=>none
noncomputable def nH:List D->List D->Int->Option D
 |.int j::ks,v::vs,i=>if j=i then some v else nH ks vs i
 |_::ks,_::vs,i=>nH ks vs i|_,_,_=>none
def Jb(d k x:ME):ME:=λδ=>(d δ).bind λdd=>(k δ).bind λz=>(x δ).bind λy=>match dd,z with
 |.dic false ks vs,.int i=>some ((nH ks vs i).getD y)|_,_=>none
noncomputable def jM(ks:List Int)(n:Int):List Int:=if n∈ks then ks else ks++[n]
noncomputable def sortI(ks:List Int):List Int:=ks.mergeSort λa b=>decide (a<=b)
def qj:D->Option D
 |.lst xs=>(intsOf xs).bind λis=>if is.length+1<4096/\(is.foldl jM []).length<64 then some (.lst ((sortI (is.foldl jM [])).map D.int))else none
 |_=>none
def V6:MF:=λds=>match ds with
 |[.tup xs]=>(intsOf xs).bind λis=>some (.int is.sum)|[.lst xs]=>(intsOf xs).bind λis=>some (.int is.sum)|_=>none
end DL
namespace DL
open PySem PySem.Spec PyProof.Rows L2
section
variable{X:Cx}{PX:Prop}{a b e:Expr}{ma mb me:ME}{pos p p2 p3:Pos}
theorem LK{K:PySem.W.Frag}{H:Hp}{d d':D}{vs:List V}(h:Dens K H [d,d'] vs):∃v w,vs=[v,w]/\Den K H d v/\Den K H d' w:=by
 obtain⟨x,r,rfl,h1,h2⟩:=h.uncons;obtain⟨y,r2,rfl,h3,h4⟩:=h2.uncons;exact⟨x,y,by rw[h4.unnil],h1,h3⟩
theorem Qo(hc:X.calm=true):CallD X (.builtin "max") SQ:=by
 refine⟨_,Lg hc,λos H L ds d vs Q r m k=>?_⟩
 match ds,m with
 |[.int i,.int j],m=>
   cases m;obtain⟨v,w,rfl,h1,h2⟩:=LK r;exact⟨i,j,by rw[h1.int_inv,h2.int_inv],k _ H (Same.refl _) (.int _)⟩
theorem Wh(hc:X.calm=true):CallD X (.builtin "min") V7:=by
 refine⟨_,Lf hc,λos H L ds d vs Q r m k=>?_⟩
 match ds,m with
 |[.int i,.int j],m=>
   cases m;obtain⟨v,w,rfl,h1,h2⟩:=LK r;exact⟨i,j,by rw[h1.int_inv,h2.int_inv],k _ H (Same.refl _) (.int _)⟩
theorem zB{i:Nat}{x:Str}(hN:X.N.Nodup)(hi:X.N[i]? = some x)(hx:X.env.scope.names.lookup x=some .local)(ha:DE X e me):DS X PX (.AugAssign (.Name x p2) .Add e pos) (Bg i (oI λu v=>some (.int (u+v))) me):=by
 obtain⟨t,pt,q⟩:=ha;refine⟨_,Vk hN hi (.inl hx) pt Gd (.inr hx),λos σ H δ r D s m k=>?_⟩;have hil:i<X.N.length:=(ZV.mp hi).1;obtain⟨dx,e1,m⟩:=ao m;obtain⟨dy,e2,m⟩:=ao m;obtain⟨dz,e3,m⟩:=ao m;cases m;obtain⟨u,w,rfl,rfl,e3⟩:=mj e3;cases e3;obtain⟨v,h1,r1⟩:=s.pl i _ hil (ou e1);rw[r1.int_inv]at h1;refine⟨.int u,h1,q os σ H δ _ _ s e2 λy H1 g1 r2=>⟨u,w,rfl,r2.int_inv,?_⟩⟩;exact k _ H1 os (.of g1) ((s.mono g1).set i hil (.int _))
theorem Gy(ha:DF X a ma)(hb:DE X b mb):DF X (.BinOp a .Mult b pos) (vU ma mb):=by
 obtain⟨ta,pa,qa⟩:=ha;obtain⟨tb,pb,qb⟩:=hb;refine⟨_,Ny N6 pa pb,λos σ H δ d Q s m k=>?_⟩;obtain⟨dx,e1,m⟩:=ao m;obtain⟨dy,e2,m⟩:=ao m;refine qa os σ H δ dx _ s e1 λl H1 g1 hl o1=>?_;refine qb os σ H1 δ dy _ (s.mono g1) e2 λy H2 g2 r2=>?_
 match dx,dy,m with
 |.lst ds,.int n,m=>
   have m':(if -9223372036854775808<=n/\n<9223372036854775808/\ds.length*n.toNat<=16777216 then some (D.lst (List.replicate n.toNat ds).flatten)else none)=some d:=m;split at m'
   ·rename_i hz;cases m';obtain⟨xs,h1,h2⟩:=o1;have hlen:=h2.length;refine⟨l,n,xs,rfl,r2.int_inv,g2 _ _ h1,by omega,by omega,by rw[cM,<-hlen];exact hz.2.2,λq hq=>?_⟩;have nl:l∉os:=s.live.ne hl;refine k q _ ((g1.trans g2).trans (bB hq _)) ((g1.trans g2).free hq) ⟨_,aY,?_⟩;refine(h2.flat n.toNat).mono (λc u hc=>?_) _ _;have hc2:c∉l::os:=λz=>by rw[cg z]at hc;cases hc
    rw[aL hc2]at hc;have hc3:H2 c=some u:=g2 _ _ hc;have hcq:c≠q:=bx hc3 hq;rw[aL (by simp only[ZP,afe];exact⟨hcq,λz=>hc2 (Zy _ z)⟩),aR hcq];exact hc3
   ·cases m'
theorem Gm(l b:Addr)(us ws:Array Value)(n n2:Nat)(dd:Option Addr)(sl:Array (Option Value))(hlong:¬(!us.isEmpty&&Builtin.List.listTooLong (us.size+ws.size))=true)(h1:us.size<=sizeLine)(h2:(us++ws).size<=sizeLine+1):
 Meets (Builtin.«list.extend» ⟨[.ref l,.ref b],[]⟩) (λ_ R s=>s.heap.get? l=some {cls:=.type "list",data:=.seq us n}/\s.heap.get? b=some {cls:=.type "tuple",dict:=dd,data:=.seq ws n2,slots:=sl}/\
  R (.ok (.ret Value.none)) {s with heap:=s.heap.update l (Obj.mapSeq λx=>x++ws)}):=
 .of_wp λprog w A R s h=>by
  obtain⟨hp,g,d,tk,os⟩:=s;obtain⟨hl,hb,h⟩:=h;have f1:=adt;have f2:=abK;have f3:=AutoSeq1.sub_list_list;have f4:=AutoSeq1.sub_tuple_list;have f5:=AutoSeq1.sub_list_tuple
  wp_walk using(abE hl rfl (hz:=h1) (_hz':=h2)),aci hl,aci hb
  exact⟨_,rfl,h⟩
theorem KN:Wx X "list.extend" (λx vs H Q=>∃l b xs zs,x=.ref l/\vs=[.ref b]/\H l=some (.lst xs)/\SqT X.K H b zs/\xs.length+zs.length<=sizeLine/\Q .non (upd H l (.lst (xs++zs)))):=by
 intro pins s σ H x vs v us Q I rx rv h;obtain⟨l,b,xs,zs,rfl,rfl,hH,hB,hz,q⟩:=h;cases rx;obtain⟨u,rfl,ru⟩:=rv.one;cases ru;obtain⟨z,its,n,r,hl,e⟩:=I.lstM hH;obtain⟨its2,r2,⟨⟨c2,d2,dt2,sl2⟩,e2,c2',n2,t2'⟩,_⟩:=I.tuple hB;simp only at c2' t2';subst c2' t2';have hl2:=r2.length;have hsz:its.toArray.size+its2.toArray.size<=sizeLine:=by rw[ZJ,ZJ];omega
 have hlong:¬ (!its.toArray.isEmpty&&Builtin.List.listTooLong (its.toArray.size+its2.toArray.size))=true:=by
  rw[vm hsz,ade];exact aaU
 refine acv ady ⟨_,e,rfl⟩ F.entry_list_extend (F.args_list_extend_2 _ _)
  (Gm l b its.toArray its2.toArray n n2 d2 sl2 hlong (by rw[ZJ];omega) (by rw[Array.size_append];omega)) ⟨e,e2,?_⟩
 refine⟨.non,_,I.lset (its':=its++its2) hH e (by simp) (r.append r2) ?_,rfl,q⟩;rw[Z6];omega
theorem Gn(l b:Addr)(us ws:Array Value)(n n2:Nat)(sl:Array (Option Value))(hlong:¬(!us.isEmpty&&Builtin.List.listTooLong (us.size+ws.size))=true)(h1:us.size<=sizeLine)(h2:(us++ws).size<=sizeLine+1):
 Meets (Builtin.«list.extend» ⟨[.ref l,.ref b],[]⟩) (λ_ R s=>s.heap.get? l=some {cls:=.type "list",data:=.seq us n}/\s.heap.get? b=some {cls:=.type "list",data:=.seq ws n2,slots:=sl}/\
  R (.ok (.ret Value.none)) {s with heap:=s.heap.update l (Obj.mapSeq λx=>x++ws)}):=
 .of_wp λprog w A R s h=>by
  obtain⟨hp,g,d,tk,os⟩:=s;obtain⟨hl,hb,h⟩:=h;have f1:=adt;have f2:=abK;have f3:=AutoSeq1.sub_list_list;have f4:=AutoSeq1.sub_tuple_list;have f5:=AutoSeq1.sub_list_tuple
  wp_walk using(abE hl rfl (hz:=h1) (_hz':=h2)),aci hl,aci hb
  exact⟨_,rfl,h⟩
theorem Ph:Wx X "list.extend" (λx vs H Q=>∃l b xs zs,x=.ref l/\vs=[.ref b]/\H l=some (.lst xs)/\SqL X.K H b zs/\xs.length+zs.length<=sizeLine/\Q .non (upd H l (.lst (xs++zs)))):=by
 intro pins s σ H x vs v us Q I rx rv h;obtain⟨l,b,xs,zs,rfl,rfl,hH,hB,hz,q⟩:=h;cases rx;obtain⟨u,rfl,ru⟩:=rv.one;cases ru;obtain⟨z,its,n,r,hl,e⟩:=I.lstM hH;obtain⟨its2,r2,⟨⟨c2,d2,dt2,sl2⟩,n2,e2,c2',d2',t2'⟩,_⟩:=I.list hB;simp only at c2' d2' t2';subst c2' d2' t2';have hl2:=r2.length;have hsz:its.toArray.size+its2.toArray.size<=sizeLine:=by rw[ZJ,ZJ];omega
 have hlong:¬ (!its.toArray.isEmpty&&Builtin.List.listTooLong (its.toArray.size+its2.toArray.size))=true:=by
  rw[vm hsz,ade];exact aaU
 refine acv ady ⟨_,e,rfl⟩ F.entry_list_extend (F.args_list_extend_2 _ _)
  (Gn l b its.toArray its2.toArray n n2 sl2 hlong (by rw[ZJ];omega) (by rw[Array.size_append];omega)) ⟨e,e2,?_⟩
 refine⟨.non,_,I.lset (its':=its++its2) hH e (by simp) (r.append r2) ?_,rfl,q⟩;rw[Z6];omega
theorem Vw{id:String}{r r':V->List V->Hp->VK->Prop}(h:Wx X id r)(h':Wx X id r'):Wx X id (λx vs H Q=>r x vs H Q\/r' x vs H Q):=by
 intro pins s σ H x vs v us Q I rx rv q;rcases q with q|q
 ·exact h pins s σ H x vs v us Q I rx rv q
 ·exact h' pins s σ H x vs v us Q I rx rv q
theorem Gv{n i:Nat}{xo:Expr}{p4:Pos}(hn:X.N.length=n)(hi:i<n)(hfn:X.fn ""=true)(hv:PE X xo (fC i))(he:DE X e me)
 (hbase:attributeBase xo "extend" X.env (eval xo X.env)=eval xo X.env:=by rfl)
 (hfew:((backTo p3 (starEach [e] X.env)).all (λx => !x.1)&&(backToKw p3 (keywordEach [] X.env)).all (λx=>x.1.isSome)
  && decide ([e].length+([]:List Keyword).length+(if([]:List Keyword).isEmpty then 0 else 1)<30))=true:=by rfl)
 (hline:(p2.endLine==p3.line)=true:=by rfl) (hs:starEach [e] X.env=(false,eval e X.env)::starEach [] X.env:=by rfl) (hplain:(backTo p3 (starEach [] X.env)).any (·.1)=false:=by rfl):
 DS X PX (.Expr (.Call (.Attribute xo "extend" p2) [e] [] p3) p4) (Ey n i me):=by
 obtain⟨t,p,q⟩:=he;refine⟨_,oF (HQ acl ady PySem.F.type_list_extend (Vw KN Ph) hv (bG p cV hs) hbase hfew hline hs hplain),λos σ H δ r D s m k=>?_⟩;obtain⟨y,e1,m⟩:=ao m;split at m
 ·rename_i ds es ho;split at m
  ·rename_i hl;cases m;obtain⟨w1,w2,a,w3,w4,w5,xs,w6,w7⟩:=s.own_at hn hi ho;refine⟨_,w3,.inl ⟨rfl,xs,.of w6⟩,q os σ H δ _ _ s e1 λv H' g rv=>?_⟩;obtain⟨b,zs,rfl,hb,hd⟩:=rv.tup_inv;have l1:=w7.length;have l2:=hd.length;refine .inl ⟨a,b,xs,zs,rfl,rfl,g _ _ w6,.of (hide_le _ _ hb),by rw[cM];omega,?_⟩;obtain⟨s2,f2⟩:=(s.mono g).chg (d':=.lst (ds++es)) (o:=.lst (xs++zs)) hn hi hfn ho w3 ⟨_,aY,(w7.mono g.hd _ _).append hd⟩;exact k σ _ os ((Fr.of g).trans f2) s2
  ·cases m
 ·rename_i ds es ho;split at m
  ·rename_i hl;cases m;obtain⟨w1,w2,a,w3,w4,w5,xs,w6,w7⟩:=s.own_at hn hi ho;refine⟨_,w3,.inl ⟨rfl,xs,.of w6⟩,q os σ H δ _ _ s e1 λv H' g rv=>?_⟩;obtain⟨b,zs,rfl,hb,hd⟩:=rv.lst_inv;have l1:=w7.length;have l2:=hd.length;refine .inr ⟨a,b,xs,zs,rfl,rfl,g _ _ w6,hide_le.seq hb,by rw[cM];omega,?_⟩;obtain⟨s2,f2⟩:=(s.mono g).chg (d':=.lst (ds++es)) (o:=.lst (xs++zs)) hn hi hfn ho w3 ⟨_,aY,(w7.mono g.hd _ _).append hd⟩;exact k σ _ os ((Fr.of g).trans f2) s2
  ·cases m
 ·cases m
theorem CN:X8 X (Ng X.K):=by
 intro pins s σ H o i ov iv Q I ro ri h;obtain⟨p,xs,k,z,rfl,rfl,hq,he,q⟩:=h;cases ro;obtain⟨t,rfl⟩:=ri;obtain⟨its,r,pl,hz⟩:=I.list hq;obtain⟨j,h1,h2,h3,h4,h5⟩:=uD he;obtain⟨w,ew,rw'⟩:=r.get h2;have hl:=r.length;have hn:=nJ;by_cases h0:0<=k
 ·have hj:k.toNat=j:=by
   rw[aeP h0 h5]at h1;exact aaA h1
  exact wpAny_getItem_list pl.isList h0 (by omega) (by rw[hj];simpa using ew) ⟨z,H,I,rw',q⟩
 ·have hj:(k+(its.toArray.size:Int)).toNat=j:=by
   rw[seqIndex_neg (by omega) h4]at h1;rw[ZJ,<-hl];exact aaA h1
  exact wpAny_getItem_list_neg pl.isList (by omega) (by rw[ZJ]<;>omega) (by omega) (by rw[hj];simpa using ew) ⟨z,H,I,rw',q⟩
theorem Wl{α:Type}{xs:List α}{i:Int}{j:Nat}{v:α}(h:uz xs.length i=some j)(hv:xs[j]? = some v):Tv xs i=some v:=by
 unfold Tv;rw[show QM xs.length i=some j from h];exact hv
theorem Dk{K:PySem.W.Frag}{B:Hp}:∀{ds:List D}{xs:List V}{d:D}{v:V}(q:Nat),Dens K B ds xs->Den K B d v->Dens K B (ds.set q d) (xs.set q v)
 |[],_,_,_,_,h,_=>by rw[h.unnil];exact .nil|c::ds,_,_,_,0,h,hv=>by
   obtain⟨x,r,rfl,h1,h2⟩:=h.uncons;exact .cons hv h2
 |c::ds,_,_,_,q+1,h,hv=>by
   obtain⟨x,r,rfl,h1,h2⟩:=h.uncons;exact .cons h1 (Dk q h2 hv)
theorem Tc{n i:Nat}{xo kx:Expr}{tp:Pos}{mk:ME}(hn:X.N.length=n)(hi:i<n)(hfn:X.fn ""=true)(hv:PE X xo (fC i))(hk:DE X kx mk)(he:DE X e me)
 (ha:∀ov iv new,augStore kx ov iv new=(do holding [new,ov,iv] (setItem ov iv new);release [new,ov,iv] [];pure .next):=by intros;rfl):
 DS X PX (.AugAssign (.Subscript xo kx tp) .Add e pos) (Mz n i mk me):=by
 obtain⟨te,pe,qe⟩:=he;obtain⟨tk,pk,qk⟩:=hk;refine⟨_,Hz hv pk CN pe Gd set_list ha,λos σ H δ r D s m k=>?_⟩;obtain⟨z,e2,m⟩:=ao m;obtain⟨y,e1,m⟩:=ao m;split at m
 ·rename_i ds j b ho _;obtain⟨q,e3,m⟩:=ao m;obtain⟨o,e4,m⟩:=ao m;cases o with
  |int c=>
    cases m;obtain⟨w1,w2,a,w3,w4,w5,xs,w6,w7⟩:=s.own_at hn hi ho;refine⟨_,w3,qk os σ H δ _ _ s e2 λu H1 g1 ru=>?_⟩;obtain⟨v,hv1,hv2⟩:=w7.get e4;refine⟨a,xs,j,v,rfl,ru.int_inv,.of (g1 _ _ w6),Wl (by rw[<-w7.length];exact e3) hv1,?_⟩;refine qe os σ H1 δ _ _ (s.mono g1) e1 λw H2 g2 rw'=>⟨c,b,hv2.int_inv,rw'.int_inv,?_⟩;have g12:=g1.trans g2;refine⟨a,xs,j,q,rfl,ru.int_inv,g12 _ _ w6,by rw[<-w7.length];exact e3,?_⟩;obtain⟨s2,f2⟩:=(s.mono g12).chg (d':=.lst (ds.set q (.int (c+b)))) (o:=.lst (xs.set q (.int (c+b)))) hn hi hfn ho w3 ⟨_,aY,Dk q (w7.mono g12.hd _ _) (.int _)⟩;exact k σ _ os ((Fr.of g12).trans f2) s2
  |_=>cases m
 ·cases m
theorem yd(xs:List V)(k:Nat):Dp xs (some (k:Int)) none=xs.drop k:=by
 unfold Dp;rw[HT.sIx_none,HT.sIx_nat,aev (by rw[aei];omega)];rcases Nat.le_total k xs.length with h|h
 ·rw[Nat.min_eq_left h]
 ·rw[Nat.min_eq_right h,aew (ZS _),aew h]
theorem _root_.DL.Dens.drop{K:PySem.W.Frag}{B:Hp}:∀{ds:List D}{xs:List V}(n:Nat),Dens K B ds xs->Dens K B (ds.drop n) (xs.drop n)
 |_,_,0,h=>by rw[aeR,aeR];exact h|[],_,n+1,h=>by rw[h.unnil];exact .nil|d::ds,_,n+1,h=>by
   obtain⟨x,r,rfl,h1,h2⟩:=h.uncons;exact h2.drop n
theorem Ji(k:Nat){j:Nat}(he:DE X e me):DE X (.Subscript e (.Slice (some (.Constant (.int k) j p3)) none none p2) pos) (rR (Am k) me):=by
 obtain⟨te,pe,qe⟩:=he;refine⟨_,Nx (sl_list.or (sl_tup.or Rg)) pe (RC pQ) RD,λos σ H δ d Q s m kq=>?_⟩;obtain⟨dx,e1,m⟩:=ao m;refine qe os σ H δ dx _ s e1 λx H1 g1 r1=>⟨(k:Int),rfl,?_⟩;cases dx with
 |lst ds=>
   cases m;obtain⟨a,xs,rfl,h1,h2⟩:=r1.lst_up;refine .inl ⟨a,xs,rfl,h1,λq hq=>?_⟩;rw[yd];exact kq _ _ (g1.trans (bB hq (.lst (xs.drop k)))) (.newL (s.live.mono g1) hq (h2.drop k))
 |tup ds=>
   cases m;obtain⟨a,xs,rfl,h1,h2⟩:=r1.tup_up;have hl:=h2.length;by_cases hw:k=0
   ·subst hw;refine .inr (.inr ⟨a,xs,rfl,h1,⟨by rw[HT.sIx_nat];omega,HT.sIx_none _ _⟩,?_⟩);exact kq _ H1 g1 r1
   ·by_cases h0:xs.length=0
    ·have ex:xs=[]:=abv.mp h0;have ed:ds=[]:=abv.mp (by omega);subst ex ed;refine .inr (.inr ⟨a,[],rfl,h1,⟨by rw[HT.sIx_nat];simp,HT.sIx_none _ _⟩,?_⟩);rw[List.drop_nil]at kq;exact kq _ H1 g1 r1
    ·refine .inr (.inl ⟨a,xs,rfl,h1,λz=>?_,λq hq=>?_⟩)
     ·rw[HT.sIx_nat]at z;omega
     ·rw[yd];exact kq _ _ (g1.trans (bB hq (.tup (xs.drop k)))) (.newT (s.live.mono g1) hq (h2.drop k))
 |_=>cases m
end
section
variable{X:Cx}{pins:List (Addr×Obj)}{σ:L2.St}{H:Hp}{s:Shared}
theorem NT{fp:List Addr}{T:Addr}{x y:V}{u w:Value}{h2:Heap}{tk':Nat}(I:Inv X pins σ H s)(hf:∀b∈fp,mO X pins H b)(hlt:∀b∈fp,b<s.heap.objs.size)(hT:T=s.heap.objs.size)(ru:RelV x u)(rw':RelV y w)
 (hk:∀b o,b∉fp->s.heap.get? b=some o->h2.get? b=some o) (ht:h2.get? T=some {cls:=.type "tuple",data:=.seq #[u,w]}):
 Inv X pins σ (upd H T (.tup [x,y])) {s with heap:=h2,toks:=tk'}:=by
 subst hT;have I1:Inv X pins σ (upd H s.heap.objs.size (.tup [x,y])) {s with heap:=s.heap.push {cls:=.type "tuple",data:=.seq [u,w].toArray},toks:=tk'}:=by
  refine I.laid (t':=tk') (λb o q=>Zz _ q) (ZS _) ?_;exact⟨by show 2<=sizeLine;rw[cM];decide,[u,w],.cons ru (.cons rw' .nil),adN _ _⟩
 have T1:=iH (t':=tk') (h':=h2) (fp:=fp) I1;refine T1 (λb hb=>⟨?_,(hf b hb).2⟩) λb o hb q=>?_
 ·rw[aR (Z1 (hlt b hb))];exact(hf b hb).1
 ·by_cases hz:b=s.heap.objs.size
  ·subst hz;have q':=(ZR s.heap (o:={cls:=.type "tuple",data:=.seq [u,w].toArray}) rfl).symm.trans q;cases q';exact ht
  ·have q':(s.heap.push {cls:=.type "tuple",data:=.seq [u,w].toArray}).get? b=some o:=q;have hlt':b<(s.heap.push {cls:=.type "tuple",data:=.seq [u,w].toArray}).objs.size:=ZG q';rw[aaZ]at hlt';have hb':b<s.heap.objs.size:=adR (ad3 hlt') hz;refine hk b o hb ?_;obtain⟨q1,q2⟩:=ab4.mp q';have q3:s.heap.objs[b]? = some o:=by
    revert q1
    generalize s.heap=hh at hb' ⊢;cases hh;intro q1;simpa[Heap.push,adL,Z1 hb']using q1
   exact ab4.mpr ⟨q3,q2⟩
def Yl(K:PySem.W.Frag)(l1 l2:Addr):It:=
 ⟨λi H=>∃xs ys x y,SqL K H l1 xs/\SqL K H l2 ys/\xs[i]? = some x/\ys[i]? = some y,
  λi H v H'=>∃x y t,(∀xs,SqL K H l1 xs->xs[i]? = some x)/\(∀ys,SqL K H l2 ys->ys[i]? = some y)/\H t=none/\v=.ref t/\H'=upd H t (.tup [x,y]),
  λi H=>∃xs ys,SqL K H l1 xs/\SqL K H l2 ys/\(xs[i]? = none\/ys[i]? = none)⟩
def Zx(z TI TO i1 i2 l1 l2:Addr)(i:Nat)(h:Heap):Prop:=IsZip h z TI TO .none/\IsPair h TI (.ref i1) (.ref i2)/\(∃a b,IsPair h TO a b)/\h.IsListIter i1 l1 i/\h.IsListIter i2 l2 i
theorem LQ{P:Program}{w:World}{K:PySem.W.Frag}{elts:List Expr}{k:Nat}{pos:Pos}{z TI TO i1 i2 l1 l2:Addr}(D:ZipApart z TI TO i1 i2 l1 l2):
 Turn P w K (.Tuple elts k pos) (Yl K l1 l2) [z,TI,TO,i1,i2] z (Zx z TI TO i1 i2 l1 l2) where
 mem:=by simp
 obj:=λi h st b hb=>by
  obtain⟨a1,a2,⟨a,b',a3⟩,⟨o1,a4,_,c4⟩,⟨o2,a5,_,c5⟩⟩:=st;simp only[ZP,aao,abz]at hb;rcases hb with rfl|rfl|rfl|rfl|rfl
  ·exact⟨_,a1,λv z=>by cases z⟩
  ·exact⟨_,a2,λv z=>by cases z⟩
  ·exact⟨_,a3,λv z=>by cases z⟩
  ·exact⟨_,a4,λv z=>by rw[c4]at z;cases z⟩
  ·exact⟨_,a5,λv z=>by rw[c5]at z;cases z⟩
 keep:=λi h h' st kp=>by
  obtain⟨a1,a2,⟨a,b',a3⟩,a4,a5⟩:=st;exact⟨kp z (by simp) _ a1,kp TI (by simp) _ a2,⟨a,b',kp TO (by simp) _ a3⟩,a4.at λo q=>kp i1 (by simp) o q,a5.at λo q=>kp i2 (by simp) o q⟩
 item:=by
  intro X hP hw hK hc i pins s σ H E I hf st hg;subst hP hw hK;obtain⟨xs,ys,x,y,hq1,hq2,hx,hy⟩:=hg;obtain⟨its1,rv1,p1,_⟩:=I.list hq1;obtain⟨its2,rv2,p2,_⟩:=I.list hq2;obtain⟨u,hu,ru⟩:=rv1.get hx;obtain⟨v,hv,rv⟩:=rv2.get hy;obtain⟨a1,a2,⟨a,b',a3⟩,a4,a5⟩:=st;have lt:∀b∈[z,TI,TO,i1,i2],b<s.heap.objs.size:=λb hb=>by
   simp only[ZP,aao,abz]at hb;rcases hb with rfl|rfl|rfl|rfl|rfl
   ·exact ZG a1
   ·exact ZG a2
   ·exact ZG a3
   ·obtain⟨o,q,_⟩:=a4;exact ZG q
   ·obtain⟨o,q,_⟩:=a5;exact ZG q
  refine wpAny_pyNext_zip_item D a1 a2 a3 a4 a5 p1.isList p2.isList (x:=u) (y:=v) (by simpa using hu) (by simpa using hv) λh1 b1 b2 b3 b4 b5 b6 b7=>?_;refine⟨_,rfl,adY b1 λh2 c1 c2=>?_⟩;have c2':Heap.SameBut z h1 h2:=c2;have ne:∀b∈[z,TI,TO,i1,i2],s.heap.objs.size≠b:=λb hb=>aam (lt b hb);refine⟨.ref s.heap.objs.size,upd H s.heap.objs.size (.tup [x,y]),?_,rfl,⟨x,y,s.heap.objs.size,λws hw'=>by rw[I.list_inj hw' hq1];exact hx,λws hw'=>by rw[I.list_inj hw' hq2];exact hy,I.fresh,rfl,rfl⟩,⟨c1,?_,⟨_,_,(c2'.2 _ D.TOz).trans b2⟩,?_,?_⟩,λb hb=>?_⟩
  ·refine NT (s:=s) (fp:=[z,TI,TO,i1,i2]) (tk':=s.toks) I hf lt rfl ru rv (λb o hb q=>?_) ((c2'.2 _ (ne z (by simp))).trans b5);have n1:b≠z:=λe=>hb (by simp[e]);exact(c2'.2 _ n1).trans (b7 b o n1 (λe=>hb (by simp[e])) (λe=>hb (by simp[e])) (λe=>hb (by simp[e])) q)
  ·exact(c2'.2 _ D.TIz).trans (b7 _ _ D.TIz D.TITO D.TIi1 D.TIi2 a2)
  ·obtain⟨o,q,r⟩:=b3;exact⟨o,(c2'.2 _ D.i1z).trans q,r⟩
  ·obtain⟨o,q,r⟩:=b4;exact⟨o,(c2'.2 _ D.i2z).trans q,r⟩
  ·rw[aR (Z1 (lt b hb))];exact(hf b hb).1
 done:=by
  intro X hP hw hK hc i pins s σ H E I hf st hg;subst hP hw hK;obtain⟨xs,ys,hq1,hq2,hn⟩:=hg;obtain⟨its1,rv1,p1,_⟩:=I.list hq1;obtain⟨its2,rv2,p2,_⟩:=I.list hq2;have e1:=rv1.length;have e2:=rv2.length;obtain⟨a1,a2,⟨a,b',a3⟩,a4,a5⟩:=st;refine wpAny_pyNext_zip_end (I.ok.hd hc) D a1 a2 a3 a4 a5 p1.isList p2.isList ?_ λh' hk'=>⟨rfl,?_⟩
  ·rcases hn with hn|hn
   ·left;rw[aaF]at hn;simp;omega
   ·right;rw[aaF]at hn;simp;omega
  ·exact iH (t':=s.toks) I hf λb o hb q=>hk' b o (λe=>hb (by simp[e])) (λe=>hb (by simp[e])) (λe=>hb (by simp[e])) (λe=>hb (by simp[e])) q
 self:=λ_ _ _ _ _ st h=>ab1 st.1 h
end
section
variable{X:Cx}{a b:Expr}{ma mb:ME}{pos pos' p:Pos}{elts:List Expr}{kt:Nat}
def Xu(K:PySem.W.Frag)(ta:TA):TI:=λσ H R=>ta σ H λvs H1=>∃l1 l2 xs ys,vs=[.ref l1,.ref l2]/\SqL K H1 l1 xs/\SqL K H1 l2 ys/\R (Yl K l1 l2) H1
theorem Vl{ta:TA}(hg:Gl X "zip")(hm:X.mg "zip"=none)(ha:PA X [a,b] ta)(h1:starEach [a,b] X.env=(false,eval a X.env)::starEach [b] X.env:=by rfl)(hpl:(backTo pos (starEach [b] X.env)).any (·.1)=false:=by rfl):
 PI X (.Tuple elts kt pos') (.Call (.Name "zip" p) [a,b] [] pos) (Xu X.K ta):=by
 intro pins s σ H R I h;refine Call_ (jl I hg hm (by rfl) (aat (cW (ha pos pins s σ H _ I h) λus s1 ⟨vs,H1,I1,r1,q1⟩=>?_) h1 hpl));obtain⟨l1,l2,xs,ys,e,hq1,hq2,q⟩:=q1;subst e;obtain⟨u,v,rfl,ru,rv⟩:=vals2 r1;cases ru;cases rv;obtain⟨its1,rv1,p1,_⟩:=I1.list hq1;obtain⟨its2,rv2,p2,_⟩:=I1.list hq2;have a1:l1<s1.heap.objs.size:=by obtain⟨_,q,_⟩:=p1.isList;exact ZG q
 have a2:l2<s1.heap.objs.size:=by obtain⟨_,q,_⟩:=p2.isList;exact ZG q
 refine ae5 p1.isList p2.isList λh' hz hTI hTO hi1 hi2 hsz hk=>ab1 hz ?_;refine⟨s1.heap.objs.size+4,[s1.heap.objs.size+4,s1.heap.objs.size+2,s1.heap.objs.size+3,s1.heap.objs.size,s1.heap.objs.size+1],_,_,H1,rfl,I1.kept (t':=s1.toks) hk,LQ (zipApart_new a1 a2),⟨hz,hTI,⟨_,_,hTO⟩,hi1,hi2⟩,λb hb=>?_,q⟩;have hb':s1.heap.objs.size<=b:=by
  simp only[ZP,aao,abz]at hb;rcases hb with rfl|rfl|rfl|rfl|rfl
  ·exact aaT _ _
  ·exact aaT _ _
  ·exact aaT _ _
  ·exact ZS _
  ·exact aaT _ _
 exact I1.fpOk hb' (I1.hok.fresh hb')
theorem qg(xs ys:List D)(i:Nat)(d:D)(h:(gB xs ys)[i]? = some d):∃x y,xs[i]? = some x/\ys[i]? = some y/\d=.tup [x,y]:=by
 unfold gB at h;rw[aad]at h;cases hz:(xs.zip ys)[i]? with
 |none=>rw[hz]at h;cases h|some q=>
   rw[hz]at h;obtain⟨e1,e2⟩:=abF.mp hz;exact⟨q.1,q.2,e1,e2,(aaA h).symm⟩
theorem Ae{K:PySem.W.Frag}{B:Hp}{l1 l2:Addr}{ds es:List D}{xs ys:List V}(h1:SqL K B l1 xs)(d1:Dens K B ds xs)(h2:SqL K B l2 ys)(d2:Dens K B es ys):Walk K (Yl K l1 l2) B (gB ds es):=by
 intro i os1 H1 L g;have gu:=g.trans hide_le;refine⟨λd hd=>?_,λhl=>⟨xs,ys,gu.seq h1,gu.seq h2,?_⟩⟩
 ·obtain⟨x,y,e1,e2,rfl⟩:=qg ds es i d hd;obtain⟨v,hv,rv⟩:=d1.get e1;obtain⟨w,hw,rw'⟩:=d2.get e2;refine⟨⟨xs,ys,v,w,gu.seq h1,gu.seq h2,hv,hw⟩,λu H2 z=>?_⟩;obtain⟨v',w',t,z1,z2,ht,rfl,rfl⟩:=z;have q1:=z1 xs (gu.seq h1);have q2:=z2 ys (gu.seq h2);rw[hv]at q1;rw[hw]at q2;cases q1;cases q2;exact⟨bB ht (.tup [v,w]),.newT L ht (.cons (rv.mono g _ _) (.cons (rw'.mono g _ _) .nil))⟩
 ·have l1:=d1.length;have l2:=d2.length;have hz:(gB ds es).length=min ds.length es.length:=by simp[gB]
  rw[aaF,aaF];omega
theorem PJ(hg:Gl X "zip")(hm:X.mg "zip"=none)(ha:DE X a ma)(hb:DE X b mb)(h1:starEach [a,b] X.env=(false,eval a X.env)::starEach [b] X.env:=by rfl)(h2:starEach [b] X.env=(false,eval b X.env)::starEach [] X.env:=by rfl)(hpl:(backTo pos (starEach [b] X.env)).any (·.1)=false:=by rfl):
 DI X (.Tuple elts kt pos') (.Call (.Name "zip" p) [a,b] [] pos) (wN ma mb):=by
 obtain⟨ta,pa,qa⟩:=ha;obtain⟨tb,pb,qb⟩:=hb;refine⟨_,Vl hg hm (bG pa (bG pb cV h2) h1) h1 hpl,λos σ H δ xs R s m k=>?_⟩;obtain⟨dx,e1,m⟩:=ao m;obtain⟨dy,e2,m⟩:=ao m;refine qa os σ H δ dx _ s e1 λv H1 g1 r1=>?_;refine qb os σ H1 δ dy _ (s.mono g1) e2 λw H2 g2 r2=>?_
 match dx,dy,m with
 |.lst ds,.lst es,m=>
   cases m;obtain⟨l1,xs,rfl,h1,d1⟩:=(r1.mono g2.hd _ _).lst_inv;obtain⟨l2,ys,rfl,h2,d2⟩:=r2.lst_inv;exact⟨l1,l2,xs,ys,rfl,hide_le.seq h1,hide_le.seq h2,k _ H2 (g1.trans g2) (Ae h1 d1 h2 d2)⟩
end
end DL
namespace DL
open PySem
def Cut(xs:Array Nat)(j r:Nat):Prop:=r<=xs.size/\(∀i v,i<r->xs[i]? = some v->v<j)/\∀i v,r<=i->xs[i]? = some v->j<=v
def Ris(xs:Array Nat):Prop:=xs.toList.Pairwise (·<·)
theorem Ris.lt{xs:Array Nat}(h:Ris xs){i k u v:Nat}(hk:i<k)(h1:xs[i]? = some u)(h2:xs[k]? = some v):u<v:=by
 rw[<-aaH]at h1 h2;obtain⟨a1,e1⟩:=ZV.mp h1;obtain⟨a2,e2⟩:=ZV.mp h2;have:=acQ.mp h i k a1 a2 hk;rw[e1,e2]at this;exact this
theorem wg{xs:Array Nat}(h:Ris xs)(j:Nat):∀(f lo hi:Nat),hi-lo<=f->lo<=hi->hi<=xs.size->(∀i v,i<lo->xs[i]? = some v->v<j)->(∀i v,hi<=i->xs[i]? = some v->j<=v)->Cut xs j (SetTable.below.go xs j f lo hi)
 |0,lo,hi,hf,hl,hs,h1,h2=>by
   rw[SetTable.below.go];exact⟨by omega,h1,λi v hi'=>h2 i v (by omega)⟩
 |f+1,lo,hi,hf,hl,hs,h1,h2=>by
   rw[SetTable.below.go];by_cases hlt:lo<hi
   ·rw[ZZ hlt];have hm:(lo+hi)/2<xs.size:=by omega
    have e:xs[(lo+hi)/2]? = some xs[(lo+hi)/2]:=aae hm;have eD:xs.getD ((lo+hi)/2) j=xs[(lo+hi)/2]:=by simp[hm]
    simp only[eD];by_cases hc:xs[(lo+hi)/2]<j
    ·rw[ZZ hc];refine wg h j f _ _ (by omega) (by omega) hs (λi v hi' q=>?_) h2;by_cases hq:i=(lo+hi)/2
     ·subst hq;rw[e]at q;cases q;exact hc
     ·have:=h.lt (show i<(lo+hi)/2 by omega) q e;omega
    ·rw[aaa hc];refine wg h j f _ _ (by omega) (by omega) (by omega) h1 λi v hi' q=>?_;by_cases hq:i=(lo+hi)/2
     ·subst hq;rw[e]at q;cases q;omega
     ·have:=h.lt (show(lo+hi)/2<i by omega) e q;omega
   ·rw[aaa hlt];exact⟨by omega,h1,λi v hi'=>h2 i v (by omega)⟩
theorem tM{xs:Array Nat}(h:Ris xs)(j:Nat):Cut xs j (SetTable.below xs j):=by
 unfold SetTable.below;refine wg h j _ _ _ (by omega) (by omega) (ZS _) (λi v hi=>by omega) λi v hi q=>?_;rw[abV hi]at q;cases q
theorem Cut.uniq{xs:Array Nat}{j r r':Nat}(h:Cut xs j r)(h':Cut xs j r'):r=r':=by
 rcases Nat.lt_trichotomy r r' with q|q|q
 ·have hr:=ZX q h'.1;have e:xs[r]? = some xs[r]:=aae hr;have a:=h'.2.1 r _ q e;have b:=h.2.2 r _ (ZS _) e;omega
 ·exact q
 ·have hr:=ZX q h.1;have e:xs[r']? = some xs[r']:=aae hr;have a:=h.2.1 r' _ q e;have b:=h'.2.2 r' _ (ZS _) e;omega
theorem G3{xs:Array Nat}(h:Ris xs){i v:Nat}(e:xs[i]? = some v):SetTable.below xs (v+1)=i+1:=by
 have hi:i<xs.size:=(abi.mp e).1;refine(tM h (v+1)).uniq ⟨by omega,λk u hk q=>?_,λk u hk q=>?_⟩
 ·by_cases z:k=i
  ·subst z;rw[e]at q;cases q;omega
  ·have:=h.lt (show k<i by omega) q e;omega
 ·exact h.lt (show i<k by omega) e q
theorem GZ(xs:Array Nat)(h:Ris xs):SetTable.below xs 0=0:=
 (tM h 0).uniq ⟨aap _,λi v hi=>by omega,λ_ _ _ _=>aap _⟩
theorem Ro{xs:Array Nat}(h:Ris xs){j:Nat}(hn:xs[SetTable.below xs j]?≠some j):Ris (SetTable.insertAt xs (SetTable.below xs j) j):=by
 obtain⟨c1,c2,c3⟩:=tM h j;generalize SetTable.below xs j=p at *;unfold Ris;rw[SetTable.toList_insertAt,List.pairwise_append];refine⟨h.sublist (List.take_sublist _ _),aaO.mpr ⟨λb hb=>?_,h.sublist (List.drop_sublist _ _)⟩,λa ha b hb=>?_⟩
 ·obtain⟨k,hk⟩:=abG.mp hb;rw[ae6,aaH]at hk;have h1:=c3 _ _ (aaT _ _) hk;by_cases z:k=0
  ·subst z;rcases Nat.lt_or_eq_of_le h1 with q|q
   ·exact q
   ·subst q;exact absurd hk hn
  ·have hp:p<xs.size:=by
    have:=(abi.mp hk).1;omega
   have e:xs[p]? = some xs[p]:=aae hp;have h2:=c3 _ _ (ZS _) e;have h3:=h.lt (show p<p+k by omega) e hk;omega
 ·obtain⟨k,hk⟩:=abG.mp ha;have hkp:k<p:=acP λz=>by
   rw[aag (by rw[abZ];omega)]at hk;cases hk
  rw[ad9 hkp,aaH]at hk;have h1:=c2 _ _ hkp hk;rcases ZP.mp hb with rfl|hb
  ·exact h1
  ·obtain⟨q,hq⟩:=abG.mp hb;rw[ae6,aaH]at hq;have h2:=c3 _ _ (aaT _ _) hq;omega
structure Tb(bt:Bool)(t:SetTable)(n:Nat):Prop where
 fit:t.fits n=true
 ris:Ris t.place
 nod:t.dummies=#[]
 led:bt=true\/t.led=true
theorem Mh(bt:Bool):Tb bt (.fresh 0 0 (!bt)) 0:=⟨by decide +revert,by simp[SetTable.fresh,Ris],rfl,by cases bt<;>simp[SetTable.fresh]⟩
theorem Od(j:Nat):SetTable.has #[] j=false:=by unfold SetTable.has;simp
theorem Bs{t:SetTable}(hd:t.dummies=#[])(g:Nat->Int)(h:Int):∀(f:Nat)(p:SetTable.Probe)(j:Nat)(d:Option Nat),p.dummy=none->SetTable.probe.go t g h f p=some (.empty j d)->d=none/\t.slot j=.empty
 |0,p,j,d,_,e=>by rw[SetTable.probe.go]at e;cases e|f+1,p,j,d,hp,e=>by
   rw[SetTable.probe.go]at e;have adv:(t.advance p).dummy=none:=by unfold SetTable.advance;split<;>exact hp
   split at e
   ·rename_i hs;simp only[abO,SetTable.Met.empty.injEq]at e;obtain⟨rfl,rfl⟩:=e;exact⟨hp,hs⟩
   ·rename_i hs;exfalso;unfold SetTable.slot at hs;simp only[hd,Od]at hs;split at hs<;>simp at hs
   ·split at e
    ·cases e
    ·exact Bs hd g h f _ j d adv e
theorem KJ{t:SetTable}(hd:t.dummies=#[]){h:Int}{j:Nat}{b:Bool}(e:t.freeSlot h=some (j,b)):t.place[SetTable.below t.place j]?≠some j:=by
 unfold SetTable.freeSlot at e;split at e
 ·rename_i j' d hp;obtain⟨rfl,hs⟩:=Bs hd _ h _ _ _ _ rfl hp;simp only[ado,Option.isSome_none,abO,Prod.mk.injEq]at e;obtain⟨rfl,_⟩:=e;intro z;unfold SetTable.slot at hs;simp[z]at hs
 ·cases e
theorem qp{bt:Bool}{t:SetTable}(h:bt=true\/t.led=true)(n:Nat):Tb bt (t.standIn n) n:=
 ⟨SetTable.standIn_fits t n,by unfold Ris SetTable.standIn;simp[adg],rfl,h⟩
theorem UT{bt:Bool}{t:SetTable}{es:Array (Int×Value)}(T:Tb bt t es.size)(h:Int)(x:Value):Tb bt (layNew t es h x).2.1 (layNew t es h x).1.size:=by
 unfold layNew;cases e:t.freeSlot h with
 |none=>
   dsimp only;rw[Array.size_push];exact qp T.led _
 |some q=>
   obtain⟨j,b⟩:=q;have hn:=KJ T.nod e;dsimp only;unfold SetTable.orStandIn;split
   ·rename_i hf;refine⟨hf,Ro T.ris hn,?_,T.led⟩;show(if SetTable.has t.dummies j=true then _ else t.dummies)=#[];rw[T.nod,Od];rfl
   ·exact qp T.led _
theorem Mg{bt:Bool}{t:SetTable}{es:Array (Int×Value)}(hl:bt=true\/t.led=true)(k:Nat):Tb bt (relayAll t es k).2.1 (relayAll t es k).1.size:=by
 unfold relayAll;cases e:t.relaid (es.map (·.1)) k with
 |none=>exact qp hl _|some q=>
   obtain⟨t',order⟩:=q;dsimp only;split
   ·rename_i hc;simp only[aac]at hc;unfold SetTable.relaid SetTable.laid at e;obtain⟨ow,_,e⟩:=aak.mp e;simp only[Option.pure_def,abO,Prod.mk.injEq]at e;obtain⟨rfl,_⟩:=e;refine⟨hc.2,?_,rfl,hl⟩;show List.Pairwise (·<·) (List.map _ _).toArray.toList;rw[aeV,acG];refine List.Pairwise.filterMap _ (λa a' haa b hb b' hb'=>?_) adg;obtain⟨u,_,rfl⟩:=abW.mp hb;obtain⟨u',_,rfl⟩:=abW.mp hb';exact haa
   ·exact qp hl _
end DL
namespace DL
open PySem PyProof.Rows
noncomputable def kOf(e:Int×Value):Int:=match e.2 with
 |.int k _=>k|_=>0
def AllI(es:List (Int×Value)):Prop:=∀e∈es,∃t,e.2=.int (kOf e) t/\e.1=hashInt (kOf e)
noncomputable def bt(w:World):Bool:=w.params.followText "set-order"
def SetS(w:World)(h:Heap)(a:Addr)(ks:List Int):Prop:=
 ∃o es ep t,h.get? a=some o/\o.ExactSet/\o.data=.set es ep t/\AllI es.toList/\(es.toList.map kOf).Perm ks/\es.size<scanBound/\Tb (bt w) t es.size
theorem AllI.elems{P:Program}{w:World}{es:List (Int×Value)}(h:AllI es):ElemsOf (intKind P w) es:=λe he=>by
 obtain⟨t,h1,h2⟩:=h e he;refine⟨⟨kOf e,?_,h2⟩,?_⟩
 ·rw[h1];exact aex P w _ _
 ·rw[h1];rfl
theorem AllI.perm{l l':List (Int×Value)}(h:AllI l)(p:l'.Perm l):AllI l':=λe he=>h e (p.mem_iff.mp he)
theorem AllI.snoc{l:List (Int×Value)}(h:AllI l)(n:Int)(t:Tok):AllI (l++[(hashInt n,.int n t)]):=λe he=>by
 rcases aar.mp he with q|q
 ·exact h e q
 ·rw[ZW.mp q];exact⟨t,rfl,rfl⟩
theorem SetS.at'{w:World}{h h':Heap}{a:Addr}{ks:List Int}(x:SetS w h a ks)(k:∀o,h.get? a=some o->h'.get? a=some o):SetS w h' a ks:=
 let ⟨o,es,ep,t,e,r⟩:=x;⟨o,es,ep,t,k _ e,r⟩
section
variable{P:Program}{w:World}{A:Around}{E:Value->Shared->Prop}{s:Shared}
theorem Cu{h:Heap}{a:Addr}{o:Obj}{es es':Array (Int×Value)}{ep:Nat}{t t':SetTable}(ho:h.get? a=some o)(hx:o.ExactSet)(hd:o.data=.set es ep t):
 ∃o',(h.update a (Obj.putSet es' t')).get? a=some o'/\o'.ExactSet/\o'.data=.set es' (ep+1) t':=by
 have q:=aaG (Obj.putSet es' t') ho (by rw[putSet_of es' t' hd];rfl);rw[putSet_of es' t' hd]at q;exact⟨_,q,hx,rfl⟩
theorem Ri{a:Addr}{ks:List Int}{n:Int}{tk:Tok}{Q:Bool->Shared->Prop}(hS:SetS w s.heap a ks)(hr:ks.length+1<scanBound)
 (k:∀b h',Heap.SameBut a s.heap h'->SetS w h' a (jM ks n)->Q b {s with heap:=h'}):wpAny (model P w) A (setAddHashed a (.int n tk) (hashInt n)) Q E s:=by
 obtain⟨o,es,ep,t,ho,hx,hd,hi,hp,hb,hT⟩:=hS;have hlen:es.size=ks.length:=by rw[<-hp.length_eq,ZK,abS]
 have hel:=hi.elems (P:=P) (w:=w);have hkey:=aex P w n tk;unfold setAddHashed setAddHashedIn;refine aa2 (vz ?_);refine ace ho hd hT.fit ?_;dsimp only;rw[ZZ (byScan_of (knd:=intKind P w) (x:=.int n tk) rfl hb hel)];unfold setAddByScan;refine vz (vz (acJ (vz ?_)));refine wpAny_setScan_of (knd:=intKind P w) (k:=n) hkey ho hd hT.fit hel ?_;have hmem:n∈ks↔∃e∈es.toList,(intKind P w).is n e.2=true:=by
  rw[<-hp.mem_iff,Z5];constructor
  ·rintro⟨e,he,rfl⟩;obtain⟨tt,q,_⟩:=hi e he;exact⟨e,he,by rw[q];exact aex P w _ _⟩
  ·rintro⟨e,he,q⟩;obtain⟨tt,q',_⟩:=hi e he;refine⟨e,he,?_⟩;rw[q']at q;exact(intKind P w).inj _ _ _ (aex P w _ _) q
 cases hf:List.findIdx? (λe=>(intKind P w).is n e.2) es.toList with
 |some j=>
   obtain⟨hj,hpj,_⟩:=List.findIdx?_eq_some_iff_getElem.mp hf;have hin:n∈ks:=hmem.mpr ⟨_,aaX hj,hpj⟩;dsimp only;refine ZC (ZC ?_);refine k false s.heap (acF a _) ?_;unfold jM;rw[ZZ hin];exact⟨o,es,ep,t,ho,hx,hd,hi,hp,hb,hT⟩
 |none=>
   have hin:n∉ks:=λz=>by
    obtain⟨e,he,q⟩:=hmem.mp z;have:=List.findIdx?_eq_none_iff.mp hf e he;rw[q]at this;cases this
   dsimp only;have p1:=layNew_perm t es (hashInt n) (.int n tk);have T1:=UT hT (hashInt n) (.int n tk);generalize layNew t es (hashInt n) (.int n tk)=L at p1 T1 ⊢;obtain⟨es1,t1,dm,gv⟩:=L;dsimp only at p1 T1 ⊢;rw[Array.toList_push]at p1;have i1:AllI es1.toList:=(hi.snoc n tk).perm p1;have n1:es1.size=es.size+1:=by
    have:=p1.length_eq;simpa using this
   have b1:es1.size<scanBound:=by omega
   have q1:(es1.toList.map kOf).Perm (jM ks n):=by
    unfold jM;rw[aaa hin];refine(p1.map kOf).trans ?_;rw[aaf];exact hp.append_right _
   have gw:∀(b:Bool)(s₁:Shared)(Q':Unit->Shared->Prop),Q' () s₁->wpAny (model P w) A (match b with|true=>rule "set.scan.the-table-gave-way"|false=>pure ()) Q' E s₁:=λb s₁ Q' z=>by
    cases b
    ·exact ZC z
    ·exact acJ z
   obtain⟨o1,g1,x1,d1⟩:=Cu (es':=es1) (t':=t1) ho hx hd;have sb1:=abo s.heap a (Obj.putSet es1 t1);have p2:=relayAll_perm t1 es1 (SetTable.grown es1.size);have T3:=Mg (es:=es1) T1.led (SetTable.grown es1.size);obtain⟨o2,g2,x2,d2⟩:=Cu (es':=(relayAll t1 es1 (SetTable.grown es1.size)).1) (t':=(relayAll t1 es1 (SetTable.grown es1.size)).2.1) g1 x1 d1;have n2:(relayAll t1 es1 (SetTable.grown es1.size)).1.size=es1.size:=by simpa using p2.length_eq
   have end2:=k true _ (sb1.trans (abo _ a _)) ⟨o2,_,_,_,g2,x2,d2,i1.perm p2,(p2.map kOf).trans q1,by omega,T3⟩;have end1:=k true _ sb1 ⟨o1,es1,_,t1,g1,x1,d1,i1,q1,b1,T1⟩;refine vz (gw gv s _ ?_);have st:∀(R':Unit->Shared->Prop),R' () {s with heap:=s.heap.update a (Obj.putSet es1 t1)}->wpAny (model P w) A (storeSet a es1 t1) R' E s:=λR' z=>wpAny_storeSet_of ho hd z (ad4 b1);have st2:∀(R':Unit->Shared->Prop),R' () {s with heap:=(s.heap.update a (Obj.putSet es1 t1)).update a (Obj.putSet (relayAll t1 es1 (SetTable.grown es1.size)).1 (relayAll t1 es1 (SetTable.grown es1.size)).2.1)}->
    wpAny (model P w) A (storeSet a (relayAll t1 es1 (SetTable.grown es1.size)).1 (relayAll t1 es1 (SetTable.grown es1.size)).2.1) R' E {s with heap:=s.heap.update a (Obj.putSet es1 t1)}:=λR' z=>wpAny_storeSet_of g1 d1 z (ad4 (by omega))
   have hv:=hashByValue_scannable 8 (x:=.int n tk) rfl;refine acz (c:=t1.plain=true) (λ_=>?_) λ_=>?_
   all_goals try rw[hv]
   all_goals refine vz (ZC ?_)
   all_goals refine vz (m:=storeSet a es1 t1) (st _ ?_)
   all_goals exact acz (c:=(!dm&&t1.tooFull)=true) (λ_=>vz (gw _ _ _ (vz (st2 _ (ZC (ZC end2)))))) λ_=>ZC (ZC end1)
end
section
variable{P:Program}{w:World}{A:Around}{E:Value->Shared->Prop}{s:Shared}
theorem Ly{β:Type}{m:Sem β}{k:β->Sem PySem.Fin}{vs:List Value}{R:Result->Shared->Prop}(h:wpAny (model P w) A.in1 m (λb s'=>wpAny (model P w) A.in1 (k b) (λfin s'=>match fin with|.done f=>R (.ok f) s'|.again c'=>c'.quiet=true/\codeAny (model P w) A c' R s') (λe s'=>R (.error e) s') s') (λe s'=>R (.error e) s') s)
 (e:Builtin.«set.update.loop» ⟨vs,[]⟩=m >>= k):codeAny (model P w) A (.builtin "set.update.loop" ⟨vs,[]⟩) R s:=
 acA PyProof.Rows.F.entry_set_update_loop (by rw[acf acT _,e];exact vz h)
theorem Mv{R:Result->Shared->Prop}{I:Addr}{fp wr:List Addr}{G:Array GenState->Array GenState->Prop}{n:Nat}{PI:Nat->Value->Prop}{St:Nat->Shared->Prop}(W:WalksS P w A.in1 I fp wr G n PI St){a:Addr}(ha:a∉fp)
 (val:Nat->Int) (hv:∀i v,PI i v->∃t,v=.int (val i) t) (hb:n+1<scanBound):∀(m i:Nat)(s:Shared)(ks:List Int),n-i=m->i<=n->ks.length<=i->St i s->SetS w s.heap a ks->
  (∀s',Moved (a::wr) G s s'->SetS w s'.heap a (((List.range' i (n-i)).map val).foldl jM ks)->R (.ok (.ret .none)) s')->
  codeAny (model P w) A (.builtin "set.update.loop" ⟨[.ref a,.ref I],[]⟩) R s:=by
 have haw:a∉wr:=λz=>ha (W.sub _ z);have up:∀b∈wr,b∈a::wr:=λb z=>Zy _ z;intro m;induction m with
 |zero=>
   intro i s ks hm hi hl hst hS k;have e:i=n:=by omega
   subst e;refine Ly (m:=pyNext (.ref I)) ?_ rfl;refine W.done s _ _ hst λs' hm'=>ZC (k s' (hm'.mono up) ?_);rw[Nat.sub_self];exact hS.at' λo q=>hm'.heap a o haw q
 |succ m ih=>
   intro i s ks hm hi hl hst hS k;have hlt:i<n:=by omega
   refine Ly (m:=pyNext (.ref I)) ?_ rfl;refine W.item i s _ _ hlt hst λv s' hp hst' hm'=>?_;obtain⟨t,rfl⟩:=hv i v hp;have hS':=hS.at' (h':=s'.heap) λo q=>hm'.heap a o haw q;refine vz (m:=holding [Value.int (val i) t] (setAdd a (.int (val i) t))) (aa2 (aa2 (vz ((intKind P w).pyHash (k:=val i) (aex _ _ _ _) ?_))));refine Ri (P:=P) (s:={s' with toks:=s'.toks+1}) hS' (by omega) λb h' sb hS2=>?_;have hlen:(jM ks (val i)).length<=i+1:=by
    unfold jM;split
    ·omega
    ·rw[Z6,acD];omega
   refine ZC ⟨acj acT _,ih (i+1) _ _ (by omega) hlt hlen (W.frame _ s' _ _ hst' (ac4 _) λc hc o q=>?_) hS2 λs2 m2 hS3=>?_⟩
   ·rw[sb.2 c λz:c=a=>ha (z▸hc)];exact q
   ·refine k s2 (Moved.trans W.gtrans ((hm'.mono up).then_heap (ac4 _) λc o hc q=>?_) m2) ?_
    ·rw[sb.2 c λz:c=a=>hc (z▸ZF)];exact q
    ·have e:n-i=(n-(i+1))+1:=by omega
     rw[e,acn];exact hS3
theorem Rh(x:Value){Q₁:Value->Shared->Prop}(k:Q₁ (.ref s.heap.objs.size) {s with heap:=s.heap.push {cls:=.type "set",dict:=none,data:=.set #[] 0 (.fresh 0 0 (!bt w))}}):
 codeAny (model P w) A (.call (.builtin "set.__new__") ⟨[.type "set",x],[]⟩) (wants Q₁ E) s:=by
 refine codeAny_of_tree ?_;show wpAny _ _ (checkBuiltinCall "set.__new__" ⟨[.type "set",x],[]⟩ >>= λ_=>again (.builtin "set.__new__" ⟨[.type "set",x],[]⟩)) _ _ _;refine vz (adz (PySem.F.newCall_set_1 x) ?_);refine ZC ⟨acj aeL _,acA PySem.F.entry_set_new ?_⟩;rw[acf aeL _];unfold Builtin.«set.__new__» Builtin.Frozenset.newClass;have q:=sub_set_self;obtain⟨hp,g,d,tk,os⟩:=s;dsimp only at k ⊢
 wp_walk
 refine aco (ZC ?_);simp only[newObj];exact vz (wpAny_alloc (ZC (ZC k)))
end
section
variable{P:Program}{w:World}{A:Around}{E:Value->Shared->Prop}{s:Shared}
set_option maxHeartbeats 3200000 in
theorem Le{l:Addr}{vs:List Value}{ns:List Int}{Q:Value->Shared->Prop}(hh:A.handled=none)(hl:s.heap.IsList l vs.toArray)(hi:IntsAre vs ns)(hb:vs.length+1<scanBound)
 (k:∀h' tk,SetS w h' s.heap.objs.size (ns.foldl jM [])->(∀b o,s.heap.get? b=some o->h'.get? b=some o)->Q (.ref s.heap.objs.size) {s with heap:=h',toks:=tk}):
 wpAny (model P w) A (call (.type "set") [.ref l]) Q E s:=by
 obtain⟨c0,tl0,hm0⟩:=abt.mro;have f1:=abt.made;have f2:=abt.sub;have f3:=abt.notType;have f4:=abt.canCreate;have f5:=PySem.F.typeCall_set_1 (.ref l);refine wpAny_call (codeAny_of_tree (show wpAny _ _ (callAny (.type "set") _) _ _ _ from ZC ⟨Code.quiet_builtin _ (by decide +kernel),acA PySem.F.entry_type_call ?_⟩));rw[Around.under_plain (weight_type_call_type "set" [.ref l] []) rfl]
 repeat (any_goals (first|assumption|wp_step))
 refine ac8 (Rh (.ref l) (E:=E) (Q₁:=λv s1=>v=.ref s.heap.objs.size/\s1={s with heap:=s.heap.push {cls:=.type "set",dict:=none,data:=.set #[] 0 (.fresh 0 0 (!bt w))}}) ⟨rfl,rfl⟩) λr s1 hr=>?_
 match r,hr with
 |.error e,hr=>exact hr|.ok (.ret v),hr=>
   obtain⟨rfl,rfl⟩:=hr;generalize ho:({cls:=.type "set",dict:=none,data:=.set #[] 0 (.fresh 0 0 (!bt w))}:Obj)=ob;have g0:(s.heap.push ob).get? s.heap.objs.size=some ob:=ZR _ (by rw[<-ho];rfl);have g1:Shared.TypeIs {s with heap:=s.heap.push ob} (.ref s.heap.objs.size) "set":=⟨_,g0,by rw[<-ho]⟩;have g2:=abt.init.lookup;have g3:=abt.init.bind (.ref s.heap.objs.size)
   repeat (any_goals (first|assumption|wp_step))
   refine ac8 (codeAny_call_builtin (R:=wants (λr s2=>r=.none/\∃h' tk,s2={s with heap:=h',toks:=tk}/\SetS w h' s.heap.objs.size (ns.foldl jM [])/\(∀b o,s.heap.get? b=some o->h'.get? b=some o)) E)
    abt.init.plain PySem.F.entry_set_init (check_set_init_1 g1 ?_)) λr2 s2 hr2=>?_
   ·obtain⟨ol,hol,cl,nl,dl⟩:=hl;obtain⟨oc,od,oda,os⟩:=ol;simp only at cl dl;subst cl dl;have hol':(s.heap.push ob).get? l=some {cls:=.type "list",dict:=od,data:=.seq vs.toArray nl,slots:=os}:=Zz _ hol;have q1:=PySem.F.sub_list_set;have q2:=PySem.F.sub_list_frozenset;have q3:(Value.type "list"==Value.type "dict")=false:=by decide
    have q4:(s.heap.push ob).IsList l vs.toArray:=⟨_,hol',rfl,nl,rfl⟩;subst ho;unfold Builtin.«set.__init__» noKeywords Builtin.Frozenset.updateFrom;generalize hPI:pyIter=PI
    wp_walk
    subst hPI;have lt:l<s.heap.objs.size:=ZG hol;refine abx q4 (vz (wpAny_runValue ?_));have sz:=aaZ s.heap {cls:=.type "set",dict:=none,data:=.set #[] 0 (.fresh 0 0 (!bt w))};have hne:l≠(s.heap.push {cls:=.type "set",dict:=none,data:=.set #[] 0 (.fresh 0 0 (!bt w))}).objs.size:=by rw[sz];exact Z1 (abp lt)
    have hnf:s.heap.objs.size∉[(s.heap.push {cls:=.type "set",dict:=none,data:=.set #[] 0 (.fresh 0 0 (!bt w))}).objs.size,l]:=by
     rw[sz];simp only[ZP,aao,abz,afe];exact⟨Z1 (abH _),aam lt⟩
    have W:=Walks.list (prog:=P) (w:=w) (A:=A.in1.in1.in1) (by simp[hh]) (s.heap.push {cls:=.type "set",dict:=none,data:=.set #[] 0 (.fresh 0 0 (!bt w))}).objs.size l hne vs.toArray;refine Mv W.toS hnf (λi=>ns.getD i 0) (λi v hv=>?_) (by simpa using hb) _ 0 _ [] rfl (aap _) (ZS _) ⟨⟨_,ZR _ rfl,rfl,rfl⟩,q4.push _⟩ ?_ ?_
    ·exact adS hi i v (by rw[<-aaH]at hv;exact hv)
    ·refine⟨_,#[],0,_,Zz _ g0,⟨rfl,rfl,rfl⟩,rfl,λe he=>by simp at he,.refl _,by decide,Mh (bt w)⟩
    ·intro s' hm' hS;have e:((List.range' 0 (vs.toArray.size-0)).map λi=>ns.getD i 0)=ns:=by
      have hz:vs.toArray.size-0=ns.length:=by rw[ZJ,acL hi];rfl
      rw[hz,<-acg];refine List.ext_getElem? λi=>?_;rw[aad];by_cases hi':i<ns.length
      ·simp[hi']
      ·simp[hi',ae4.mp hi']
     rw[e]at hS;obtain⟨h',g',d',tk',os'⟩:=s';have e1:g'=s.gens:=hm'.gens;have e2:d'=s.drawn:=hm'.drawn;have e3:os'=s.os:=hm'.os;subst e1 e2 e3;refine ZC (ZC ⟨rfl,h',tk',rfl,hS,λb o q=>?_⟩);have hlt:=ZG q;refine hm'.heap b o ?_ (Zz _ (Zz _ q));rw[sz];simp only[ZP,aao,abz,afe];exact⟨Z1 hlt,Z1 (abp hlt)⟩
   ·match r2,hr2 with
    |.error e,hr2=>exact hr2|.ok (.ret v),hr2=>
      obtain⟨rfl,h',tk,rfl,z1,z2⟩:=hr2
      repeat (any_goals (first|assumption|wp_step))
      exact k _ _ z1 z2
end
theorem si_slot:Slot "set_iterator" "__next__" "set_iterator.__next__":=
 Slot.of (owner:="set_iterator") (n:="__next__") (by rw[adF,acE];kernel_rfl) (by decide +kernel) (by decide +kernel) (by decide +kernel) (by first|exact .inl (by decide +kernel)|exact .inr (by decide +kernel)) (by rw[isSubtype_type];kernel_rfl)
theorem qx:entryFor table "set_iterator.__next__"=some Builtin.«set_iterator.__next__»:=entryFor_of_tree (by kernel_rfl)
theorem Ay:Manifest.owners.lookup (String.ofList ['r','o','t','a','r','e','t','i','_','t','e','s'].reverse)=some Manifest.sig_set_iterator:=by kernel_rfl
theorem ur(a:Value):argsOk "set_iterator.__next__" ⟨[a],[]⟩:=by
 unfold argsOk;rw[signature?_of (id:="set_iterator.__next__") (n:=['_','_','t','x','e','n','_','_']) (o:=['r','o','t','a','r','e','t','i','_','t','e','s']) (by kernel_rfl) Ay];kernel_rfl
theorem xj:Slot "set_iterator" "__iter__" "set_iterator.__iter__":=
 Slot.of (owner:="set_iterator") (n:="__iter__") (by rw[adF,acE];kernel_rfl) (by decide +kernel) (by decide +kernel) (by decide +kernel) (by first|exact .inl (by decide +kernel)|exact .inr (by decide +kernel)) (by rw[isSubtype_type];kernel_rfl)
theorem Eu:entryFor table "set_iterator.__iter__"=some Builtin.«dict_keyiterator.__iter__»:=entryFor_alias (id':="dict_keyiterator.__iter__") (by kernel_rfl) (by decide +kernel) (by decide +kernel) (by kernel_rfl)
theorem JX(a:Value):argsOk "set_iterator.__iter__" ⟨[a],[]⟩:=by
 unfold argsOk;rw[signature?_of (id:="set_iterator.__iter__") (n:=['_','_','r','e','t','i','_','_']) (o:=['r','o','t','a','r','e','t','i','_','t','e','s']) (by kernel_rfl) Ay];kernel_rfl
theorem uL:entryFor table "set.__iter__"=some Builtin.«frozenset.__iter__»:=entryFor_alias (id':="frozenset.__iter__") (by kernel_rfl) (by decide +kernel) (by decide +kernel) (by kernel_rfl)
def SIt(h:Heap)(it a:Addr)(f0:Value)(i n ep:Nat):Prop:=∃o,h.get? it=some o/\o.cls=.type "set_iterator"/\o.data=.fields #[f0,.int i 0,.ref a,.int n 0,.int ep 0]
def SAt(w:World)(h:Heap)(a:Addr)(es:Array (Int×Value))(ep:Nat)(t:SetTable):Prop:=∃o,h.get? a=some o/\o.cls=.type "set"/\o.data=.set es ep t/\Tb (bt w) t es.size
section
variable{P:Program}{w:World}{A:Around}{E:Value->Shared->Prop}{s:Shared}{it a:Addr}{es:Array (Int×Value)}{ep:Nat}{t:SetTable}
theorem oX{slot i:Nat}{Q:Option (Value×Nat)->Shared->Prop}(hS:SAt w s.heap a es ep t)(hb:bt w=true)(k:Q (((pickOrder (w.params.setOrder a ep) es)[i]?).map λe=>(e.2,slot)) s):wpAny (model P w) A (setNext a slot i ep) Q E s:=by
 obtain⟨o,ho,_,hd,hT⟩:=hS;unfold setNext;refine vz (ace ho hd hT.fit (vz (vz (aco (ZC ?_)))));show wpAny _ _ (if bt w=true then _ else _) _ _ _;rw[ZZ hb];show wpAny _ _ (if(ep != ep)=true then _ else _) _ _ _;rw[aaa (by simp)];refine vz ?_;unfold setWalk;refine vz (ace ho hd hT.fit (vz (vz (aco (ZC ?_)))));show wpAny _ _ (if bt w=true then _ else _) _ _ _;rw[ZZ hb];exact vz (aco (ZC (ZC k)))
theorem m9{slot i:Nat}{Q:Option (Value×Nat)->Shared->Prop}(hS:SAt w s.heap a es ep t)(hb:bt w=false)(hp:(!t.plain&&decide (es.size>1))=false)
 (k:Q (match es[SetTable.below t.place slot]?,t.place[SetTable.below t.place slot]? with|some (_,x),some j=>some (x,j+1)|_,_=>none) s):wpAny (model P w) A (setNext a slot i ep) Q E s:=by
 obtain⟨o,ho,_,hd,hT⟩:=hS;unfold setNext;refine vz (ace ho hd hT.fit (vz (vz (aco (ZC ?_)))));show wpAny _ _ (if bt w=true then _ else _) _ _ _;rw[hb];show wpAny _ _ (if(!t.plain&&decide (es.size>1))=true then _ else _) _ _ _;rw[hp];refine vz (m:=if(!t.led&&!es.isEmpty)=true then unsupported "set:maker-not-led" else pure ()) ?_;rw[show t.led=true from hT.led.resolve_left (by rw[hb];simp)];exact ZC (ZC k)
theorem sr{f0:Value}{i n ep:Nat}{Q:Unit->Shared->Prop}{j:Nat}{x:Value}(hI:SIt s.heap it a f0 i n ep)(hj:j<5)(k:∀h' o',Heap.SameBut it s.heap h'->h'.get? it=some o'->o'.cls=.type "set_iterator"->o'.data=.fields ((#[f0,.int i 0,.ref a,.int n 0,.int ep 0]:Array Value).setIfInBounds j x)->Q () {s with heap:=h'}):
 wpAny (model P w) A (setField (.ref it) j x) Q E s:=by
 obtain⟨o,ho,hc,hd⟩:=hI;exact adf ho hd hj (k _ _ (abo ..) (aaG _ ho (adm (ab3 hd _))) ((ad2 ..).trans hc) (ab3 hd _))
theorem Hm{x:Value}{slot i:Nat}{Q:Option Value->Shared->Prop}(hI:SIt s.heap it a (.int slot 0) i es.size ep)(hS:SAt w s.heap a es ep t){nx:Nat}
 (hn:∀(A:Around)(E:Value->Shared->Prop)(Q:Option (Value×Nat)->Shared->Prop),Q (some (x,nx)) s->wpAny (model P w) A (setNext a slot i ep) Q E s)
 (k:∀h',SIt h' it a (.int nx 0) (i+1) es.size ep->Heap.SameBut it s.heap h'->Q (some x) {s with heap:=h'}):wpAny (model P w) A (pyNext (.ref it)) Q E s:=by
 have hII:=hI;obtain⟨o,ho,hc,hd⟩:=hI;obtain⟨oS,hoS,hcS,hdS,hT⟩:=hS;have hTy:s.TypeIs (.ref it) "set_iterator":=⟨o,ho,hc⟩;unfold pyNext;refine vz (abw (aaj (name:=Str.ofString "__next__") hTy si_slot (aah si_slot hTy qx ?_ (ur _))));unfold Builtin.«set_iterator.__next__»;refine vz (ZC (vz (adh ho hd ?_)));dsimp only;refine vz (ack hoS hdS hT.fit ?_);rw[aaa (by simp)];refine vz ?_;simp only[aax];refine hn _ _ _ ?_;dsimp only;refine vz (sr hII (by decide) λh1 o1 sb1 g1 c1 d1=>?_);have I1:SIt h1 it a (.int nx 0) i es.size ep:=⟨o1,g1,c1,by rw[d1];rfl⟩;refine vz (sr (s:={s with heap:=h1}) I1 (by decide) λh2 o2 sb2 g2 c2 d2=>?_);exact ZC ⟨_,rfl,ZC (k h2 ⟨o2,g2,c2,by rw[d2];rfl⟩ (sb1.trans sb2))⟩
theorem pH{α:Type}{Q:α->Shared->Prop}{E':Value->Shared->Prop}(hh:A.handled=none)(k:∀h' e o,(∀b ob,s.heap.get? b=some ob->h'.get? b=some ob)->h'.get? e=some o->o.cls=.type "StopIteration"->E' (.ref e) {s with heap:=h'}):
 wpAny (model P w) A (newExc (.type "StopIteration") [] >>= λe=>raiseNew e) Q E' s:=by
 simp only[newExc,newTuple,raiseNew];refine vz (vz (aa7 (vz (m:=firstArgMember _ _) (adz (a:=Value.none) (by simp only[firstArgMember];rfl) (aa7 ?_ (by size_fits)))) (by size_fits)));refine vz (wpAny_handled ?_);rw[hh];exact vz (ZC (wpAny_throw (k _ _ _ (λb ob q=>Zz _ (Zz _ q)) (ZR _ rfl) rfl)))
theorem Mu{slot i:Nat}{Q:Option Value->Shared->Prop}(hh:A.handled=none)(hI:SIt s.heap it a (.int slot 0) i es.size ep)(hS:SAt w s.heap a es ep t)
 (hn:∀(A:Around)(E:Value->Shared->Prop)(Q:Option (Value×Nat)->Shared->Prop),Q none s->wpAny (model P w) A (setNext a slot i ep) Q E s)
 (k:∀h',Heap.ExtBut it s.heap h'->Q none {s with heap:=h'}):wpAny (model P w) A (pyNext (.ref it)) Q E s:=by
 have hII:=hI;obtain⟨o,ho,hc,hd⟩:=hI;obtain⟨oS,hoS,hcS,hdS,hT⟩:=hS;have hTy:s.TypeIs (.ref it) "set_iterator":=⟨o,ho,hc⟩;unfold pyNext;refine vz (abw (aaj (name:=Str.ofString "__next__") hTy si_slot (aah si_slot hTy qx ?_ (ur _))));unfold Builtin.«set_iterator.__next__»;refine vz (ZC (vz (adh ho hd ?_)));dsimp only;refine vz (ack hoS hdS hT.fit ?_);rw[aaa (by simp)];refine vz ?_;simp only[aax];refine hn _ _ _ ?_;dsimp only;refine vz (sr hII (by decide) λh1 o1 sb1 g1 c1 d1=>?_);refine pH (s:={s with heap:=h1}) hh λh2 e oe k2 ge ce=>?_;refine vz (abI (T:="StopIteration") (b:=true) ⟨oe,ge,ce⟩ acp (ZC (k h2 λb ob hb q=>k2 _ _ ?_)));rw[sb1.2 b hb];exact q
theorem Rk{pl:Addr}{ps:Array Value}{np i p:Nat}{x:Int×Value}{Q:Option Value->Shared->Prop}(hI:SIt s.heap it a (.ref pl) i es.size ep)(hS:SAt w s.heap a es ep t)(hp:∃o,s.heap.get? pl=some o/\o.data=.seq ps np)
 (hi:ps[i]? = some (.int p 0)) (hx:es[p]? = some x)
 (k:∀h',SIt h' it a (.ref pl) (i+1) es.size ep->Heap.SameBut it s.heap h'->Q (some x.2) {s with heap:=h'}):wpAny (model P w) A (pyNext (.ref it)) Q E s:=by
 have hII:=hI;obtain⟨o,ho,hc,hd⟩:=hI;obtain⟨oS,hoS,hcS,hdS,hT⟩:=hS;obtain⟨op,hop,hdp⟩:=hp;have hTy:s.TypeIs (.ref it) "set_iterator":=⟨o,ho,hc⟩;unfold pyNext;refine vz (abw (aaj (name:=Str.ofString "__next__") hTy si_slot (aah si_slot hTy qx ?_ (ur _))));unfold Builtin.«set_iterator.__next__»;refine vz (ZC (vz (adh ho hd ?_)));dsimp only;refine vz (ack hoS hdS hT.fit ?_);rw[aaa (by simp)];refine vz (aa0 hop hdp ?_);simp only[aax,hi];refine vz ?_;unfold setNextDrawn;refine vz (ace hoS hdS hT.fit ?_);dsimp only;rw[aaa (by simp),hx];refine ZC (vz (sr hII (by decide) λh1 o1 sb1 g1 c1 d1=>?_));exact ZC ⟨_,rfl,ZC (k h1 ⟨o1,g1,c1,by rw[d1];rfl⟩ sb1)⟩
theorem U8{pl:Addr}{ps:Array Value}{np i:Nat}{Q:Option Value->Shared->Prop}(hh:A.handled=none)(hI:SIt s.heap it a (.ref pl) i es.size ep)(hS:SAt w s.heap a es ep t)(hp:∃o,s.heap.get? pl=some o/\o.data=.seq ps np)
 (hi:ps[i]? = none)
 (k:∀h',Heap.ExtBut it s.heap h'->Q none {s with heap:=h'}):wpAny (model P w) A (pyNext (.ref it)) Q E s:=by
 have hII:=hI;obtain⟨o,ho,hc,hd⟩:=hI;obtain⟨oS,hoS,hcS,hdS,hT⟩:=hS;obtain⟨op,hop,hdp⟩:=hp;have hTy:s.TypeIs (.ref it) "set_iterator":=⟨o,ho,hc⟩;unfold pyNext;refine vz (abw (aaj (name:=Str.ofString "__next__") hTy si_slot (aah si_slot hTy qx ?_ (ur _))));unfold Builtin.«set_iterator.__next__»;refine vz (ZC (vz (adh ho hd ?_)));dsimp only;refine vz (ack hoS hdS hT.fit ?_);rw[aaa (by simp)];refine vz (aa0 hop hdp ?_);simp only[aax,hi];refine vz (sr hII (by decide) λh1 o1 sb1 g1 c1 d1=>?_);have I1:SIt h1 it a (.int 0 0) i es.size ep:=⟨o1,g1,c1,by rw[d1];rfl⟩;refine vz (sr (s:={s with heap:=h1}) I1 (by decide) λh2 o2 sb2 g2 c2 d2=>?_);refine pH (s:={s with heap:=h2}) hh λh3 e oe k3 ge ce=>?_;refine vz (abI (T:="StopIteration") (b:=true) ⟨oe,ge,ce⟩ acp (ZC (k h3 λb ob hb q=>k3 _ _ ?_)));rw[sb2.2 b hb,sb1.2 b hb];exact q
theorem yJ{f0:Value}{i n ep:Nat}{Q:Value->Shared->Prop}(hI:SIt s.heap it a f0 i n ep)(k:Q (.ref it) s):wpAny (model P w) A (pyIter (.ref it)) Q E s:=by
 obtain⟨o,ho,hc,hd⟩:=hI;have hTy:s.TypeIs (.ref it) "set_iterator":=⟨o,ho,hc⟩;refine acH hTy xj (aah xj hTy Eu (show wpAny _ _ (ret (.ref it)) _ _ s from ZC ⟨_,rfl,"set_iterator",_,hTy,si_slot.lookup,k⟩) (JX _))
theorem GQ{Q:Nat->Shared->Prop}{n:Nat}(hn:n≠0)(k:∀i d,i<n->Q i {s with drawn:=d}):wpAny (model P w) A (choose .order n) Q E s:=fun Γ p hΓ=>⟨hn,k _ _ (aaq _ (Nat.pos_of_ne_zero hn))⟩
theorem rY{α:Type}:∀{l:List α}{i:Nat}{x:α},l[i]? = some x->(x::l.eraseIdx i).Perm l
 |[],i,x,e=>by simp at e|y::l,0,x,e=>by
   simp only[ac5,abO]at e;subst e;exact .refl _
 |y::l,i+1,x,e=>by
   rw[List.eraseIdx_cons_succ];exact(List.Perm.swap y x _).trans ((rY (by simpa using e)).cons y)
theorem vX{α:Type}:∀(n:Nat)(xs:List α)(s:Shared)(Q:List α->Shared->Prop),xs.length=n->(∀ys d,ys.Perm xs->Q ys {s with drawn:=d})->wpAny (model P w) A (drawOrder n xs) Q E s
 |0,xs,s,Q,hl,k=>by
   have e:xs=[]:=abv.mp hl;subst e;exact ZC (k [] s.drawn (.refl _))
 |n+1,[],s,Q,hl,k=>by simp at hl|n+1,x::xs,s,Q,hl,k=>by
   rw[drawOrder];refine vz (GQ (by simp) λi d hi=>?_);obtain⟨y,hy⟩:∃y,(x::xs)[i]? = some y:=⟨_,ZM hi⟩;rw[hy];have hp:=rY hy;refine vz (vX n _ {s with drawn:=d} _ (by have:=hp.length_eq;simp only[Z2]at this hl ⊢;omega) λys d' q=>ZC (k (y::ys) d' ((q.cons y).trans hp)));intro z;cases z
theorem HB{α:Type}(next:Nat->Nat):∀(f k:Nat)(left:List α)(out:Array α),left.length=f->((pickOrder.go next f k left out).toList).Perm (out.toList++left)
 |0,k,left,out,hl=>by
   have e:left=[]:=abv.mp hl;subst e;rw[pickOrder.go,abD]
 |f+1,k,left,out,hl=>by
   rw[pickOrder.go];have hi:next k%left.length<left.length:=aaq _ (by omega)
   have e:left[next k%left.length]? = some left[next k%left.length]:=ZM hi;have hp:=rY e;simp only[e];refine(HB next f (k+1) _ _ (by have:=hp.length_eq;simp only[Z2]at this;omega)).trans ?_;rw[Array.toList_push,aa8];exact hp.append_left _
theorem sy{α:Type}(next:Nat->Nat)(xs:Array α):(pickOrder next xs).toList.Perm xs.toList:=by
 unfold pickOrder;simpa using HB next xs.size 0 xs.toList #[] (by simp)
end
def wA(ord:List (Int×Value))(i:Nat)(v:Value):Prop:=∃e,ord[i]? = some e/\v=e.2
theorem Gg{ord:List (Int×Value)}(hi:AllI ord){acc:Array Value}(h:ItemsOf (wA ord) acc ord.length):IntsAre acc.toList (ord.map kOf):=by
 have key:∀(ord:List (Int×Value))(l:List Value),AllI ord->l.length=ord.length->(∀j v,l[j]? = some v->wA ord j v)->IntsAre l (ord.map kOf):=by
  intro ord;induction ord with
  |nil=>
    intro l _ hl _;have e:l=[]:=abv.mp (by simpa using hl);subst e;exact .nil
  |cons e ord ih=>
    intro l hi hl hv;cases l with
    |nil=>simp at hl|cons v l=>
      obtain⟨e',q1,q2⟩:=hv 0 v rfl;simp only[ac5,abO]at q1;subst q1;obtain⟨t,q3,_⟩:=hi e ZF;rw[q3]at q2;subst q2;rw[ZD];refine .cons _ _ (ih l (λe' he=>hi e' (Zy _ he)) (by simpa using hl) λj v hj=>?_);obtain⟨e',q4,q5⟩:=hv (j+1) v (by simpa using hj);exact⟨e',by simpa using q4,q5⟩
 exact key ord acc.toList hi (by simpa using h.1) λj v hj=>h.2 j v (by rw[<-aaH];exact hj)
section
variable{P:Program}{w:World}{A:Around}{E:Value->Shared->Prop}{s:Shared}{a:Addr}
theorem SIt.at'{h h':Heap}{it a:Addr}{f0:Value}{i n ep:Nat}(x:SIt h it a f0 i n ep)(k:∀o,h.get? it=some o->h'.get? it=some o):SIt h' it a f0 i n ep:=let ⟨o,e,r⟩:=x;⟨o,k _ e,r⟩
theorem SAt.at'{h h':Heap}{a:Addr}{es:Array (Int×Value)}{ep:Nat}{t:SetTable}(x:SAt w h a es ep t)(k:∀o,h.get? a=some o->h'.get? a=some o):SAt w h' a es ep t:=let ⟨o,e,r⟩:=x;⟨o,k _ e,r⟩
theorem Ea(hh:A.handled=none){it a:Addr}{es:Array (Int×Value)}{ep:Nat}{t:SetTable}(hb:bt w=true)(hne:a≠it):
 Walks P w A it [it,a] [it] es.size (wA (pickOrder (w.params.setOrder a ep) es).toList) (λi h=>SIt h it a (.int (0:Nat) 0) i es.size ep/\SAt w h a es ep t) where
 sub:=λb hb=>ZP.mpr (.inl (ZW.mp hb))
 frame:=λ_ _ _ st hk=>⟨st.1.at' λo e=>hk it (by simp) o e,st.2.at' λo e=>hk a (by simp) o e⟩
 item:=by
  intro i s Q E hi st hQ;have hz:(pickOrder (w.params.setOrder a ep) es).size=es.size:=by simpa using(sy (w.params.setOrder a ep) es).length_eq
  obtain⟨e,he⟩:∃e,(pickOrder (w.params.setOrder a ep) es)[i]? = some e:=⟨_,aae (by omega)⟩;refine Hm (t:=t) (x:=e.2) (nx:=0) st.1 st.2 (λA E Q z=>oX st.2 hb (by rw[he];exact z)) λh' I' sb=>?_;exact hQ _ h' s.toks ⟨e,by rw[aaH];exact he,rfl⟩ ⟨I',st.2.at' λo q=>(sb.2 a hne).trans q⟩ λb o hb' q=>(sb.2 b (λz=>hb' (by simp[z]))).trans q
 done:=λs Q E st hQ=>by
  have hz:(pickOrder (w.params.setOrder a ep) es).size=es.size:=by simpa using(sy (w.params.setOrder a ep) es).length_eq
  refine Mu (t:=t) hh st.1 st.2 (λA E Q z=>oX st.2 hb (by rw[abV (by omega)];exact z)) λh' ext=>hQ h' s.toks λb o hb' q=>ext b o (λz=>hb' (by simp[z])) q
 self:=λ_ _ _ _ st hQ=>yJ st.1 hQ
noncomputable def slotAt(xs:Array Nat):Nat->Nat
 |0=>0|i+1=>xs.getD i 0+1
theorem qw{xs:Array Nat}(h:Ris xs):∀i,i<=xs.size->SetTable.below xs (slotAt xs i)=i
 |0,_=>GZ xs h|i+1,hi=>by
   have e:xs[i]? = some xs[i]:=aae hi;have eD:xs.getD i 0=xs[i]:=by simp[show i<xs.size from hi]
   show SetTable.below xs (xs.getD i 0+1)=i+1;rw[eD];exact G3 h e
theorem Ac(hh:A.handled=none){it a:Addr}{es:Array (Int×Value)}{ep:Nat}{t:SetTable}(hb:bt w=false)(hp:(!t.plain&&decide (es.size>1))=false)(hne:a≠it):
 Walks P w A it [it,a] [it] es.size (wA es.toList) (λi h=>SIt h it a (.int (slotAt t.place i) 0) i es.size ep/\SAt w h a es ep t/\Tb (bt w) t es.size) where
 sub:=λb hb=>ZP.mpr (.inl (ZW.mp hb))
 frame:=λ_ _ _ st hk=>⟨st.1.at' λo e=>hk it (by simp) o e,st.2.1.at' λo e=>hk a (by simp) o e,st.2.2⟩
 item:=by
  intro i s Q E hi st hQ;have T:=st.2.2;have hz:t.place.size=es.size:=by
   have:=T.fit;simp only[SetTable.fits,aac,aey]at this;exact this.1
  have hbl:=qw T.ris i (by omega);have e1:es[i]? = some es[i]:=aae hi;have e2:t.place[i]? = some t.place[i]:=aae (by omega);have e3:slotAt t.place (i+1)=t.place[i]+1:=by show t.place.getD i 0+1=_;simp[show i<t.place.size by omega]
  refine Hm (t:=t) (x:=es[i].2) (nx:=slotAt t.place (i+1)) st.1 st.2.1 (λA E Q z=>m9 st.2.1 hb hp (by rw[hbl,e1,e2];dsimp only;rw[<-e3];exact z)) λh' I' sb=>?_;exact hQ _ h' s.toks ⟨es[i],by rw[aaH];exact e1,rfl⟩ ⟨I',st.2.1.at' λo q=>(sb.2 a hne).trans q,T⟩ λb o hb' q=>(sb.2 b (λz=>hb' (by simp[z]))).trans q
 done:=λs Q E st hQ=>by
  have T:=st.2.2;have hz:t.place.size=es.size:=by
   have:=T.fit;simp only[SetTable.fits,aac,aey]at this;exact this.1
  have hbl:=qw T.ris es.size (by omega);refine Mu (t:=t) hh st.1 st.2.1 (λA E Q z=>m9 st.2.1 hb hp (by rw[hbl,abV (ZS _)];exact z)) λh' ext=>hQ h' s.toks λb o hb' q=>ext b o (λz=>hb' (by simp[z])) q
 self:=λ_ _ _ _ st hQ=>yJ st.1 hQ
theorem Ad(hh:A.handled=none){it a pl:Addr}{es:Array (Int×Value)}{ep:Nat}{t:SetTable}{ps:List Nat}{np:Nat}(hp:ps.Perm (List.range es.size))(hne:a≠it)(hnp:pl≠it):
 Walks P w A it [it,a,pl] [it] es.size (wA (ps.filterMap (es[·]?))) (λi h=>SIt h it a (.ref pl) i es.size ep/\SAt w h a es ep t/\∃o,h.get? pl=some o/\o.data=.seq (ps.map λ(i:Nat)=>rawInt i).toArray np) where
 sub:=λb hb=>ZP.mpr (.inl (ZW.mp hb))
 frame:=λ_ _ _ st hk=>⟨st.1.at' λo e=>hk it (by simp) o e,st.2.1.at' λo e=>hk a (by simp) o e,let ⟨o,q,r⟩:=st.2.2;⟨o,hk pl (by simp) o q,r⟩⟩
 item:=by
  intro i s Q E hi st hQ;have hl:ps.length=es.size:=by simpa using hp.length_eq
  have hlt:∀p∈ps,p<es.size:=λp z=>by simpa using hp.mem_iff.mp z
  have hi':i<ps.length:=by omega
  have e1:ps[i]? = some ps[i]:=ZM hi';have hpi:ps[i]<es.size:=hlt _ (aaX hi');have e2:es[ps[i]]? = some es[ps[i]]:=aae hpi;have e3:(ps.filterMap (es[·]?))[i]? = some es[ps[i]]:=by
   have:ps.filterMap (es[·]?)=ps.map λp=>es.getD p (0,.none):=by
    clear e1 hi' hpi e2 hp hl hQ st;induction ps with
    |nil=>rfl|cons p ps ih=>
      have q:=hlt p ZF;rw[aaJ,ZD,ih λp' z=>hlt p' (Zy _ z)];simp[q]
   rw[this,aad,e1];simp[hpi]
  refine Rk (t:=t) (p:=ps[i]) (x:=es[ps[i]]) st.1 st.2.1 st.2.2 (by simp[e1,rawInt]) e2 λh' I' sb=>?_;exact hQ _ h' s.toks ⟨_,e3,rfl⟩ ⟨I',st.2.1.at' λo q=>(sb.2 a hne).trans q,let ⟨o,q,r⟩:=st.2.2;⟨o,(sb.2 pl hnp).trans q,r⟩⟩ λb o hb' q=>(sb.2 b (λz=>hb' (by simp[z]))).trans q
 done:=λs Q E st hQ=>by
  have hl:ps.length=es.size:=by simpa using hp.length_eq
  refine U8 (t:=t) hh st.1 st.2.1 st.2.2 (by simp[hl]) λh' ext=>hQ h' s.toks λb o hb' q=>ext b o (λz=>hb' (by simp[z])) q
 self:=λ_ _ _ _ st hQ=>yJ st.1 hQ
theorem Mw{ks:List Int}{Q:Value->Shared->Prop}(hS:SetS w s.heap a ks)
 (k:∀(it:Addr)(fp:List Addr)(ord:List (Int×Value))(St:Nat->Heap->Prop)(h':Heap)(d':Drawn),(∀A':Around,A'.handled=none->Walks P w A' it fp [it] ord.length (wA ord) St)->St 0 h'->AllI ord->(ord.map kOf).Perm ks->
  (∀b o,s.heap.get? b=some o->h'.get? b=some o)->s.heap.objs.size<=it->(∀b∈fp,b=a\/s.heap.objs.size<=b)->Q (.ref it) {s with heap:=h',drawn:=d'}):
 wpAny (model P w) A (pyIter (.ref a)) Q E s:=by
 obtain⟨o,es,ep,t,ho,hx,hd,hi,hp,hb,hT⟩:=hS;have hTy:s.TypeIs (.ref a) "set":=⟨o,ho,hx.1⟩;have hlt:a<s.heap.objs.size:=ZG ho;have S0:SAt w s.heap a es ep t:=⟨o,ho,hx.1,hd,hT⟩;refine acH hTy aeM (aah aeM hTy uL ?_ (PySem.F.args_set_iter_1 _));unfold Builtin.«frozenset.__iter__»;refine vz (ZC (vz (vz (ack ho hd hT.fit (ZC ?_)))));refine vz ?_;unfold setDrawn;refine vz (ace ho hd hT.fit (vz (vz (aco (ZC ?_)))));refine ZC ?_;show wpAny _ _ (if(!bt w&&(!t.plain&&decide (es.size>1)))=true then _ else _) _ _ _;cases hc:(!bt w&&(!t.plain&&decide (es.size>1)))with
 |true=>
   rw[ZZ rfl];refine vz (vX es.size (List.range es.size) s _ (by simp) λps d hps=>?_);have hl:ps.length=es.size:=by simpa using hps.length_eq
   have hz:(ps.map λ(i:Nat)=>rawInt i).length<=sizeLine:=by rw[ZK,hl];exact ad4 hb
   refine vz (acq ?_ hz);generalize hob:({cls:=.type "tuple",data:=.seq (ps.map λ(i:Nat)=>rawInt i).toArray}:Obj)=ob;have g1:(s.heap.push ob).get? s.heap.objs.size=some ob:=ZR _ (by rw[<-hob];rfl);have sz:(s.heap.push ob).objs.size=s.heap.objs.size+1:=aaZ _ _;refine vz (wpAny_setEpoch_of (Zz _ ho) hd hT.fit ?_);refine vz (aa7 (ZC ⟨_,rfl,"set_iterator",_,⟨_,ZR _ rfl,rfl⟩,si_slot.lookup,?_⟩));refine k _ [(s.heap.push ob).objs.size,a,s.heap.objs.size] (ps.filterMap (es[·]?)) (λi h=>SIt h (s.heap.push ob).objs.size a (.ref s.heap.objs.size) i es.size ep/\SAt w h a es ep t/\∃o,h.get? s.heap.objs.size=some o/\o.data=.seq (ps.map λ(i:Nat)=>rawInt i).toArray 0) _ d (λA' hh=>?_) ⟨⟨_,ZR _ rfl,rfl,rfl⟩,S0.at' λo q=>Zz _ (Zz _ q),ob,Zz _ g1,by rw[<-hob]⟩ ?_ ?_ (λb o q=>Zz _ (Zz _ q)) (by rw[sz];exact ac4 _) λb hb=>?_
   ·have W:=Ad (P:=P) (w:=w) (A:=A') hh (it:=(s.heap.push ob).objs.size) (a:=a) (pl:=s.heap.objs.size) (es:=es) (ep:=ep) (t:=t) (np:=0) hps (by rw[sz];exact Z1 (abp hlt)) (by rw[sz];exact Z1 (abH _));have e:(ps.filterMap (es[·]?)).length=es.size:=by
     have:=(hps.filterMap (es[·]?)).length_eq;rw[this,acX,abS]
    rw[e];exact W
   ·refine hi.perm ?_;rw[<-acX];exact hps.filterMap _
   ·refine List.Perm.trans ?_ hp;refine List.Perm.map _ ?_;rw[<-acX];exact hps.filterMap _
   ·simp only[ZP,aao,abz]at hb;rcases hb with rfl|rfl|rfl
    ·exact .inr (by rw[sz];exact ac4 _)
    ·exact .inl rfl
    ·exact .inr (ZS _)
 |false=>
   rw[aaa (by simp)];refine vz (ZC ?_);refine vz (wpAny_setEpoch_of ho hd hT.fit ?_);refine vz (aa7 (ZC ⟨_,rfl,"set_iterator",_,⟨_,ZR _ rfl,rfl⟩,si_slot.lookup,?_⟩));have hne:a≠s.heap.objs.size:=Z1 hlt;have fin:∀b∈[s.heap.objs.size,a],b=a\/s.heap.objs.size<=b:=λb z=>by
    simp only[ZP,aao,abz]at z;rcases z with rfl|rfl
    ·exact .inr (ZS _)
    ·exact .inl rfl
   cases hbt:bt w with
   |true=>
     have pp:=sy (w.params.setOrder a ep) es;have e:(pickOrder (w.params.setOrder a ep) es).toList.length=es.size:=by simpa using pp.length_eq
     refine k _ [s.heap.objs.size,a] (pickOrder (w.params.setOrder a ep) es).toList (λi h=>SIt h s.heap.objs.size a (.int (0:Nat) 0) i es.size ep/\SAt w h a es ep t) _ s.drawn (λA' hh=>?_) ⟨⟨_,ZR _ rfl,rfl,rfl⟩,S0.at' λo q=>Zz _ q⟩ (hi.perm pp) ((pp.map kOf).trans hp) (λb o q=>Zz _ q) (ZS _) fin;rw[e];exact Ea hh hbt hne
   |false=>
     have hpl:(!t.plain&&decide (es.size>1))=false:=by rw[hbt]at hc;simpa using hc
     have e:es.toList.length=es.size:=by simp
     refine k _ [s.heap.objs.size,a] es.toList (λi h=>SIt h s.heap.objs.size a (.int (slotAt t.place i) 0) i es.size ep/\SAt w h a es ep t/\Tb (bt w) t es.size) _ s.drawn (λA' hh=>?_) ⟨⟨_,ZR _ rfl,rfl,rfl⟩,S0.at' λo q=>Zz _ q,hT⟩ hi hp (λb o q=>Zz _ q) (ZS _) fin;rw[e];exact Ac hh hbt hpl hne
end
section
variable{P:Program}{w:World}{A:Around}{E:Value->Shared->Prop}{s:Shared}
def QC(P:Program)(w:World)(A:Around)(S r:Addr)(T:String)(res:Value)(R:Result->Shared->Prop)(v:Value)(s1:Shared):Prop:=
 ∃(I:Addr)(fp wr:List Addr)(G:Array GenState->Array GenState->Prop)(n:Nat)(PI:Nat->Value->Prop)(St:Nat->Shared->Prop)(c:Nat),v=.ref I/\WalksS P w A I fp wr G n PI St/\St 0 s1/\S∉fp/\n<=sizeLine/\
  s1.heap.get? S=some {cls:=.type "list",data:=.seq #[] c}/\s1.TypeIs (.ref r) T/\
  ∀s' acc c',Moved (S::wr) G s1 s'->s'.heap.get? S=some {cls:=.type "list",dict:=none,data:=.seq acc c',slots:=#[]}->ItemsOf PI acc n->R (.ok (.ret res)) s'
theorem S5{S r:Addr}{T:String}{res:Value}{R:Result->Shared->Prop}(hT:s.TypeIs (.ref r) T)(nl:(Value.type T==Value.type "list")=false)(nt:(Value.type T==Value.type "tuple")=false)(hne:S≠r)
 (hit:wpAny (model P w) A.in1 (pyIter (.ref r)) (QC P w A.in1 S r T res R) (λe s'=>R (.error e) s') s)
 (hint:∀(E:Value->Shared->Prop)(Q:Bool->Shared->Prop)(s:Shared),s.TypeIs (.ref r) T->(∀b,Q b s)->wpAny (model P w) A.in1 (Builtin.List.listLengthHint (.ref r)) Q E s):
 wpAny (model P w) A.in1 (Builtin.List.listExtendWith (.ref S) (.ref r) res)
  (λfin s'=>match fin with|.done f=>R (.ok f) s'|.again c'=>c'.quiet=true/\codeAny (model P w) A c' R s') (λe s'=>R (.error e) s') s:=by
 unfold Builtin.List.listExtendWith;refine vz (ada (T:=T) hT ?_);have h1:Builtin.List.listSameRef (.ref S) (.ref r)=false:=by simp[Builtin.List.listSameRef,hne]
 simp only[h1,nl,nt,aeX,aa3,abT];refine vz (aa5 hit (λv s1 z=>?_) λ_ _ z=>z);obtain⟨I,fp,wr,G,n,PI,St,c,rfl,W,st,hSf,hn,gS,hT1,k⟩:=z;refine vz (aa2 (hint _ _ _ hT1 λb=>?_));have run:∀(h:Heap)(c1:Nat),(∀b o,b≠S->s1.heap.get? b=some o->h.get? b=some o)->h.get? S=some {cls:=.type "list",data:=.seq #[] c1}->codeAny (model P w) A (.builtin "list.extend.loop" ⟨[.ref S,.ref I,res],[]⟩) R {s1 with heap:=h}:=λh c1 hk g1=>by
  have hm0:Moved (S::wr) G s1 {s1 with heap:=h}:=(Moved.refl W.grefl).then_heap (ZS _) λb o hb q=>hk b o (λz=>hb (by simp[z])) q;refine codeAny_extend_loopS W hn S hSf res n 0 _ #[] c1 rfl (aap _) (W.frame 0 s1 _ _ st (ZS _) λb hb o q=>hk b o (λz=>hSf (z▸hb)) q) g1 (ItemsOf.nil _) λs' acc' c' hm gS' hacc=>?_;exact k s' acc' c' (Moved.trans W.gtrans hm0 hm) gS' hacc
 refine acz (λ_=>?_) λ_=>ZC ⟨acj abm _,run s1.heap c (λ_ _ _ q=>q) gS⟩;refine vz (acJ (vz ?_));have g2:=aaG (Obj.mapSeq (·.push Value.none)) gS rfl;have g3:=aaG (Obj.mapSeq (·.pop)) g2 rfl;refine vz (m:=updateSeq S (·.push .none)) (abE gS rfl (abE (hz:=by seq_fits) g2 rfl ?_));exact ZC ⟨acj abm _,run _ _ (λb o hb q=>(aaB _ _ (aal hb)).trans ((aaB _ _ (aal hb)).trans q)) g3⟩
theorem O1{r:Addr}{Q:Bool->Shared->Prop}(hT:s.TypeIs (.ref r) "set")(k:Q false s):wpAny (model P w) A (Builtin.List.listLengthHint (.ref r)) Q E s:=by
 unfold Builtin.List.listLengthHint;refine vz (adG hT PySem.F.slot_set_len.lookup ?_);generalize hid:("set.__len__":String)=lid
 wp_delta
 rw[show splitId lid=some ("set","__len__")from by subst hid;decide +kernel];subst hid;refine vz (abI (T:="set") (b:=true) hT sub_set_self ?_);refine acz (λz=>absurd z (by decide)) λ_=>acz (λ_=>?_) λz=>absurd (by decide +kernel) z;exact vz (ada hT (ZC k))
end
end DL
namespace DL
open PySem PyProof.Rows PySem.W
section
variable{P:Program}{w:World}{A:Around}{E:Value->Shared->Prop}{s:Shared}
theorem Az{r:Addr}{ks:List Int}{R:List Value->Shared->Prop}(hh:A.handled=none)(hS:SetS w s.heap r ks)(hn:ks.length<=sizeLine)
 (k:∀h' d' tk vs ns,(∀b o,s.heap.get? b=some o->h'.get? b=some o)->s.heap.objs.size<=h'.objs.size->IntsAre vs ns->ns.Perm ks->R vs {s with heap:=h',drawn:=d',toks:=tk}):
 wpAny (model P w) A (collect (.ref r)) R E s:=by
 have hlt:r<s.heap.objs.size:=by obtain⟨o,_,_,_,q,_⟩:=hS;exact ZG q
 have hTy:s.TypeIs (.ref r) "set":=by obtain⟨o,_,_,_,q,x,_⟩:=hS;exact⟨o,q,x.1⟩
 unfold collect;refine vz (wpAny_runValue (acA entry_proto_collect' ?_));rw[acf PySem.F.plain_proto_collect _];show wpAny _ _ (newList [] >>= λl=>again (.builtin "list.__iadd__" ⟨[l,.ref r],[]⟩)) _ _ s;refine vz (aa7 (ZC ⟨acj aek _,acA entry_list_iadd' ?_⟩));rw[acf aek _];have g0:(s.heap.push {cls:=.type "list",data:=.seq ([]:List Value).toArray}).get? s.heap.objs.size=some {cls:=.type "list",data:=.seq #[]}:=ZR _ rfl;have sz:=aaZ s.heap {cls:=.type "list",data:=.seq ([]:List Value).toArray};show wpAny _ _ (Builtin.List.listExtendWith (.ref s.heap.objs.size) (.ref r) (.ref s.heap.objs.size)) _ _ _;have S1:SetS w (s.heap.push {cls:=.type "list",data:=.seq ([]:List Value).toArray}) r ks:=hS.at' λo q=>Zz _ q;have key:=S5 (P:=P) (w:=w) (A:=A) (s:={s with heap:=s.heap.push {cls:=.type "list",data:=.seq ([]:List Value).toArray}}) (S:=s.heap.objs.size) (r:=r) (T:="set") (res:=.ref s.heap.objs.size)
  (R:=λq s'=>∃h' d' tk acc c ns,q=.ok (.ret (.ref s.heap.objs.size))/\s'={s with heap:=h',drawn:=d',toks:=tk}/\(∀b o,s.heap.get? b=some o->h'.get? b=some o)/\s.heap.objs.size<=h'.objs.size/\h'.get? s.heap.objs.size=some {cls:=.type "list",dict:=none,data:=.seq acc c,slots:=#[]}/\IntsAre acc.toList ns/\ns.Perm ks)
  (by obtain⟨o,q,c⟩:=hTy;exact⟨o,Zz _ q,c⟩) (by decide) (by decide) (aam hlt)
  (Mw S1 λit fp ord St h' d' W st hi hp hk hit hfp=>?_) λE Q s hT z=>O1 hT (z false)
 ·refine aa5 key (λfin s' x=>?_) λe s' x=>?_
  ·cases fin with
   |done f=>
     obtain⟨h',d',tk,acc,c,ns,e,rfl,k1,k0,k2,k3,k4⟩:=x;cases e;exact vz (m:=load s.heap.objs.size) (wpAny_load k2 (ZC (k h' d' tk acc.toList ns k1 k0 k3 k4)))
   |again c1=>
     refine⟨x.1,ac8 x.2 λq s2 y=>?_⟩;obtain⟨h',d',tk,acc,c,ns,rfl,rfl,k1,k0,k2,k3,k4⟩:=y;exact vz (m:=load s.heap.objs.size) (wpAny_load k2 (ZC (k h' d' tk acc.toList ns k1 k0 k3 k4)))
  ·obtain⟨_,_,_,_,_,_,e',_⟩:=x;cases e'
 ·have hlen:ord.length=ks.length:=by simpa using hp.length_eq
  rw[sz]at hit;refine⟨it,fp,[it],_,ord.length,wA ord,_,0,rfl,(W A.in1 hh).toS,st,λz=>?_,by omega,hk _ _ g0,?_,λs' acc c' hm gS hacc=>?_⟩
  ·rcases hfp _ z with q|q
   ·exact aam hlt q
   ·rw[sz]at q;exact absurd q (Nat.not_succ_le_self _)
  ·obtain⟨o,q,c⟩:=hTy;exact⟨o,hk _ _ (Zz _ q),c⟩
  ·obtain⟨h2,g2,d2,t2,o2⟩:=s';have e1:g2=s.gens:=hm.gens;have e2:d2=d':=hm.drawn;have e3:o2=s.os:=hm.os;subst e1 e2 e3;refine⟨h2,d2,t2,acc,c',ord.map kOf,rfl,rfl,λb o q=>?_,aca (ZG gS),gS,Gg hi hacc,hp⟩;have hb:=ZG q;refine hm.heap b o ?_ (hk _ _ (Zz _ q));simp only[ZP,aao,abz,afe];exact⟨Z1 hb,Z1 (ZX (abp hb) hit)⟩
theorem zM{r:Addr}{ks:List Int}{Q:Value->Shared->Prop}(hh:A.handled=none)(hS:SetS w s.heap r ks)(h64:ks.length<64)
 (k:∀h' d' tk l vs e ns,(∀b o,s.heap.get? b=some o->h'.get? b=some o)->h'.get? l=some (seqObj "list" vs e)->s.heap.objs.size<=l->IntsAre vs.toList ns->ns.Perm ks->ns.Pairwise (·<=·)->Q (.ref l) {s with heap:=h',drawn:=d',toks:=tk}):
 wpAny (model P w) A (call (.builtin "sorted") [.ref r]) Q E s:=by
 refine acR kind_sorted plain_sorted entry_sorted (args_sorted1 _) ?_;unfold Builtin.«sorted»;refine vz (m:=checkCount "sorted" 1 1 _) (ZC (vz (Az (A:=A.in1) hh hS (by rw[aaL];omega) λh' d' tk vs ns k1 k0 hi hp=>?_)));have hl:vs.length<64:=by rw[acL hi,hp.length_eq];exact h64
 refine vz (aed ?_ (by rw[aaL];omega));have gL:(h'.push (seqObj "list" vs.toArray 0)).get? h'.objs.size=some (seqObj "list" vs.toArray 0):=ZR _ rfl;refine vz (aa2 (aah slot_list_sort ⟨_,gL,rfl⟩ entry_list_sort (list_sort_tree gL hi hl λout ns' a1 a2 a3=>⟨_,rfl,?_⟩) (args_list_sort _)));obtain⟨e,he⟩:=sortedHeap_at (out:=out) gL;refine ZC ⟨_,rfl,k _ d' tk h'.objs.size out e ns' (λb o q=>?_) he k0 a1 (a2.trans hp) a3⟩;have hb:=ZG (k1 _ _ q);rw[sortedHeap_old (Z1 hb) (by rw[adT];exact abp hb)];exact Zz _ (k1 _ _ q)
end
end DL
namespace DL
open PySem PySem.Spec PyProof.Rows L2
section
variable{X:Cx}{e a b tg:Expr}{me ma mb:ME}{pos p p2 p3:Pos}
theorem Inv.drw{pins:List (Addr×Obj)}{σ:L2.St}{H:Hp}{s:Shared}(I:L2.Inv X pins σ H s)(d:Drawn):L2.Inv X pins σ H {s with drawn:=d}:=
 ⟨I.ok,I.os,I.bare,I.base,I.loc,I.cell,I.free,I.freeC,I.pin,I.hok,I.len⟩
noncomputable def QF(w:World)(p:Addr)(ks:List Int):HO:=.ext λh=>SetS w h p ks
theorem Rj{P:Program}{w:World}{H:Hp}{h:Heap}{p:Addr}{ks:List Int}(x:SetS w h p ks):ObjOk P w H h p (QF w p ks):=
 ⟨x,let ⟨o,_,_,_,q,_⟩:=x;⟨o,q⟩,λ_ _ z k=>z.at' k⟩
theorem We(hc:X.calm=true):ik X (.type "set") (λxs H Q=>∃(l:Addr)(ns:List Int),xs=[.ref l]/\SqL X.K H l (ns.map V.int)/\ns.length+1<4096/\∀p,H p=none->Q (.ref p) (upd H p (QF X.w p (ns.foldl jM [])))):=by
 intro pins s σ H xs us Q I r h;obtain⟨l,ns,rfl,hq,hb,q⟩:=h;obtain⟨u,rfl,ru⟩:=Vals.one r;cases ru;obtain⟨its,rv,p1,_⟩:=I.list hq;have hi:=intsAre_of rv;refine Le (I.ok.hd hc) p1.isList hi (by rw[acL hi];exact hb) λh' tk hS hk=>?_;exact⟨.ref s.heap.objs.size,upd H s.heap.objs.size (QF X.w s.heap.objs.size (ns.foldl jM [])),I.laid (t':=tk) hk (ZS _) (Rj hS),rfl,q _ I.fresh⟩
theorem Aw{ns ks:List Int}(hp:ns.Perm ks)(hs:ns.Pairwise (·<=·)):ns=sortI ks:=by
 refine PySem.W.ksm_same (hp.trans (acU _ _).symm) hs ?_;have:=ael (le:=λa b:Int=>decide (a<=b)) (λa b c h1 h2=>by simp only[Z7]at *;omega) (λa b=>by simp only[aeH,Z7];omega) ks;exact this.imp λh=>by simpa using h
theorem sZ:∀{vs:List Value}{ns:List Int},IntsAre vs ns->Vals (ns.map V.int) vs
 |_,_,.nil=>.nil|_,_,.cons n t h=>.cons ⟨t,rfl⟩ (sZ h)
theorem K6(hc:X.calm=true):ik X (.builtin "sorted") (λxs H Q=>∃(q:Addr)(ks:List Int),xs=[.ref q]/\H q=some (QF X.w q ks)/\ks.length<64/\∀p,H p=none->Q (.ref p) (upd H p (.lst ((sortI ks).map V.int)))):=by
 intro pins s σ H xs us Q I r h;obtain⟨l,ks,rfl,hq,hb,q⟩:=h;obtain⟨u,rfl,ru⟩:=Vals.one r;cases ru;have hS:SetS X.w s.heap l ks:=(I.hok l _ hq).1;refine zM (I.ok.hd hc) hS hb λh' d' tk l' vs e ns k1 g1 hlt hi hp hs=>?_;have en:=Aw hp hs;have hz:((sortI ks).map V.int).length<=sizeLine:=by rw[ZK,<-en,hp.length_eq,cM];omega
 refine⟨.ref l',upd H l' (.lst ((sortI ks).map V.int)),Inv.drw (I.laid (o:=.lst ((sortI ks).map V.int)) (t':=tk) k1 hlt ⟨hz,vs.toList,e,sZ (en▸hi),by rw[g1]⟩) d',rfl,q _ (I.hok.fresh hlt)⟩
theorem fV{K:PySem.W.Frag}{B:Hp}:∀{ds:List D}{is:List Int}{xs:List V},intsOf ds=some is->Dens K B ds xs->xs=is.map V.int
 |[],is,xs,e,h=>by cases e;exact h.unnil|.int i::ds,is,xs,e,h=>by
   obtain⟨q,e1,e2⟩:=aak.mp e;cases e2;obtain⟨x,r,rfl,h1,h2⟩:=h.uncons;rw[h1.int_inv,fV e1 h2];rfl
theorem Gz(hc:X.calm=true)(hg1:Gl X "sorted")(hm1:X.mg "sorted"=none)(hg2:Gl X "set")(hm2:X.mg "set"=none)(he:DE X e me)
 (s1:starEach [e] X.env=(false,eval e X.env)::starEach [] X.env:=by rfl) (s2:starEach [Expr.Call (.Name "set" p2) [e] [] p3] X.env=(false,eval (Expr.Call (.Name "set" p2) [e] [] p3) X.env)::starEach [] X.env:=by rfl) (hpl:∀pos:Pos,(backTo pos (starEach [] X.env)).any (·.1)=false:=by intro _;rfl):
 DE X (.Call (.Name "sorted" p) [.Call (.Name "set" p2) [e] [] p3] [] pos) (rR qj me):=by
 obtain⟨te,pe,qe⟩:=he;refine⟨_,qL (K6 hc) hg1 hm1 boot_sorted (bG (sE (We hc) hg2 hm2 rfl (bG pe cV s1) (he:=s1) (hpl:=hpl _)) cV s2) (he:=s2) (hpl:=hpl _),λos σ H δ d Q s m k=>?_⟩;obtain⟨dx,e1,m⟩:=ao m;refine qe os σ H δ dx _ s e1 λv H1 g1 r1=>?_;cases dx with
 |lst xs=>
   obtain⟨is,e2,m⟩:=ao m;split at m
   ·rename_i hb;cases m;obtain⟨l,ys,rfl,h1,h2⟩:=r1.lst_up;have:=fV e2 h2;subst this;refine⟨l,is,rfl,h1,hb.1,λp hp=>⟨p,_,rfl,aY,hb.2,λq hq=>?_⟩⟩;have g2:=bB hp (QF X.w p (is.foldl jM []));refine k _ _ (g1.trans (g2.trans (bB hq _))) (.newL ((s.live.mono g1).mono g2) hq (Dens.ints _))
   ·cases m
 |_=>cases m
theorem Wd(hc:X.calm=true):ik X (.builtin "sum") (λxs H Q=>∃(l:Addr)(ns:List Int),xs=[.ref l]/\(SqL X.K H l (ns.map V.int)\/SqT X.K H l (ns.map V.int))/\Q (.int ns.sum) H):=by
 intro pins s σ H xs us Q I r h;obtain⟨l,ns,rfl,hq,q⟩:=h;obtain⟨u,rfl,ru⟩:=Vals.one r;cases ru;have hh:X.A.in1.handled=none:=by have:=I.ok.hd hc;simpa using this
 have pre:∀{its:List Value},IntsAre its ns->preSum (λi=>ns.getD i 0) its.toArray.size=ns.sum:=λ{its} hi=>by
  rw[preSum_getD,aev (by rw[ZJ,acL hi];exact ZS _)]
 have kept:∀{it:Addr}{o:Obj}{h':Heap}{ax:Addr},it=s.heap.objs.size->(∀b ob,b∉[it]->(s.heap.push o).get? b=some ob->h'.get? b=some ob)->∀b ob,s.heap.get? b=some ob->h'.get? b=some ob:=λ{it o h' ax} e k b ob q=>k b ob (λz=>by rw[ZW.mp z,e]at q;exact absurd (ZG q) (abk _)) (Zz _ q);refine call_sum_walkG ?_;rcases hq with hq|hq
 ·obtain⟨its,rv,p1,_⟩:=I.list hq;have hi:=intsAre_of rv;have hlt:l<s.heap.objs.size:=by obtain⟨_,q,_⟩:=p1.isList;exact ZG q
  refine abx p1.isList ⟨s.heap.objs.size,_,_,_,_,_,λi=>ns.getD i 0,rfl,Walks.list hh _ l (Z1 hlt) its.toArray,⟨⟨_,ZR _ rfl,rfl,rfl⟩,p1.isList.push _⟩,λb hb=>?_,λi v hv=>adS hi i v (by rw[<-aaH]at hv;exact hv),λh' tk t' k=>?_⟩
  ·rw[adT];simp only[ZP,aao,abz]at hb;rcases hb with rfl|rfl
   ·exact abH _
   ·exact abp hlt
  ·rw[pre hi];exact⟨.int ns.sum,H,I.kept (t':=tk) (kept (ax:=l) rfl k),⟨t',rfl⟩,q⟩
 ·obtain⟨its,rv,p1,_⟩:=I.tuple hq;have hi:=intsAre_of rv;have hlt:l<s.heap.objs.size:=p1.lt;have ht:s.heap.IsTuple l its.toArray:=p1;refine ac0 ht ⟨s.heap.objs.size,_,_,_,_,_,λi=>ns.getD i 0,rfl,Walks.tuple hh _ l (Z1 hlt) its.toArray,⟨⟨_,ZR _ rfl,rfl,rfl⟩,p1.push _⟩,λb hb=>?_,λi v hv=>adS hi i v (by rw[<-aaH]at hv;exact hv),λh' tk t' k=>?_⟩
  ·rw[adT];simp only[ZP,aao,abz]at hb;rcases hb with rfl|rfl
   ·exact abH _
   ·exact abp hlt
  ·rw[pre hi];exact⟨.int ns.sum,H,I.kept (t':=tk) (kept (ax:=l) rfl k),⟨t',rfl⟩,q⟩
theorem Qn(hc:X.calm=true):CallD X (.builtin "sum") V6:=by
 refine⟨_,Wd hc,λos H L ds d vs Q r m k=>?_⟩
 match ds,m with
 |[.tup xs],m=>
   obtain⟨is,e,m⟩:=ao m;cases m;obtain⟨v,rfl,h⟩:=lX r;obtain⟨p,ys,rfl,h1,h2⟩:=h.tup_up;have:=fV e h2;subst this;exact⟨p,is,rfl,.inr h1,k _ H (Same.refl _) (.int _)⟩
 |[.lst xs],m=>
   obtain⟨is,e,m⟩:=ao m;cases m;obtain⟨v,rfl,h⟩:=lX r;obtain⟨p,ys,rfl,h1,h2⟩:=h.lst_up;have:=fV e h2;subst this;exact⟨p,is,rfl,.inl h1,k _ H (Same.refl _) (.int _)⟩
theorem Ag{K:PySem.W.Frag}{B:Hp}(a:Int)(n:Nat):Walk K (Wy a n) B (jt a n):=by
 intro i os1 H1 L g;have hlen:(jt a n).length=n:=by simp[jt]
 refine⟨λd hd=>?_,λhl=>by rw[hlen]at hl;exact acw hl.symm⟩;have hi:i<n:=by have:=(ZV.mp hd).1;omega
 refine⟨hi,λy H2 z=>?_⟩;obtain⟨rfl,rfl⟩:=z;unfold jt at hd;rw[aad,acS hi]at hd;cases hd;exact⟨Same.refl _,.int _⟩
theorem K3{p:Pos}(hg:Gl X "range")(hm:X.mg "range"=none)(ha:DE X a ma)(hb:DE X b mb)(h1:starEach [a,b] X.env=(false,eval a X.env)::starEach [b] X.env:=by rfl)(h2:starEach [b] X.env=(false,eval b X.env)::starEach [] X.env:=by rfl)(h3:starEach [a,b] X.env=[(false,eval a X.env),(false,eval b X.env)]:=by rfl)(h4:starEach [b] X.env=[(false,eval b X.env)]:=by rfl):
 DI X tg (.Call (.Name "range" p) [a,b] [] pos) (rB ma mb):=by
 obtain⟨ta,pa,qa⟩:=ha;obtain⟨tb,pb,qb⟩:=hb;refine⟨_,Kc hg hm (bG pa (bG pb cV h2) h1) h3 h4,λos σ H δ xs R s m k=>?_⟩;obtain⟨dx,e1,m⟩:=ao m;obtain⟨dy,e2,m⟩:=ao m;refine qa os σ H δ dx _ s e1 λv H1 g1 r1=>?_;refine qb os σ H1 δ dy _ (s.mono g1) e2 λw H2 g2 r2=>?_
 match dx,dy,m with
 |.int i,.int j,m=>
   have m':(if -1073741824<i/\i<1073741824 /\ -1073741824<j/\j<1073741824 then some (jt i (j-i).toNat)else none)=some xs:=m;split at m'
   ·rename_i hj;cases m';rw[r1.int_inv,r2.int_inv];exact⟨i,j,rfl,by omega,k _ H2 (g1.trans g2) (Ag _ _)⟩
   ·cases m'
end
end DL
namespace DL
open PySem PyProof.Rows
section
variable{P:Program}{w:World}{A:Around}{E:Value->Shared->Prop}{s:Shared}
def zW(h:Heap)(z TI TO T:Addr)(f:Bool):Prop:=h.get? z=some {cls:=.type "zip",dict:=none,data:=.fields #[.int T 0,.bool f,.bool false,.ref TI,.ref TO],slots:=#[]}
structure Apart(z TI i1 i2 l1 l2:Addr):Prop where
 TIz:TI≠z
 i1z:i1≠z
 i2z:i2≠z
 TIi1:TI≠i1
 TIi2:TI≠i2
 i12:i1≠i2
 l1z:l1≠z
 l1i1:l1≠i1
 l1i2:l1≠i2
 l2z:l2≠z
 l2i1:l2≠i1
 l2i2:l2≠i2
theorem yx{a:Addr}{Q:Option Obj->Shared->Prop}(h:Q (s.heap.get? a) s):wpAny (model P w) A (loadIfAlive a) Q E s:=λ_ _ _=>h
theorem QV{z TI TO T:Addr}{f:Bool}{Q:Bool->Shared->Prop}(hz:zW s.heap z TI TO T f)(hT:∃o,s.heap.get? T=some o)(k:∀h',zW h' z TI TO T true->Heap.SameBut z s.heap h'->Q false {s with heap:=h'}):
 wpAny (model P w) A (Builtin.SmallTypes.ownedTupleIsFree (.ref z)) Q E s:=by
 obtain⟨o,ho⟩:=hT;refine vz (m:=field (.ref z) 0) (aaI hz rfl (x:=.int T 0) rfl (vz (yx ?_)));rw[aax,ho];rw[aaa (by simp)];refine vz (aaI hz rfl (x:=.bool f) rfl ?_);cases f with
 |true=>
   rw[aaa (by decide)];exact ZC (k s.heap hz (acF _ _))
 |false=>
   rw[ZZ (by decide)];exact vz (aaC hz (by simp) λh1 z1 sb=>ZC (k h1 z1 sb))
theorem Ux{z TI TO T i1 i2 l1 l2:Addr}{f:Bool}{m:Nat}{us ws:Array Value}{Q:PySem.Fin->Shared->Prop}(hh:A.handled=none)(D:Apart z TI i1 i2 l1 l2)(hz:zW s.heap z TI TO T f)(hT:∃o,s.heap.get? T=some o)(hTI:IsPair s.heap TI (.ref i1) (.ref i2))
 (a1:s.heap.IsListIter i1 l1 m) (b1:s.heap.IsList l1 us) (a2:s.heap.IsListIter i2 l2 m) (b2:s.heap.IsList l2 ws)
 (go:∀x y h',us[m]? = some x->ws[m]? = some y->zW h' z TI TO T true->h'.IsListIter i1 l1 (m+1)->h'.IsListIter i2 l2 (m+1)->IsPair h' s.heap.objs.size x y->(∀c o,c≠z->c≠i1->c≠i2->s.heap.get? c=some o->h'.get? c=some o)->Q (.done (.ret (.ref s.heap.objs.size))) {s with heap:=h'})
 (no:∀h' e,us[m]? = none\/ws[m]? = none->(∀c o,c≠z->c≠i1->c≠i2->s.heap.get? c=some o->h'.get? c=some o)->(∃o,h'.get? e=some o/\o.cls=.type "StopIteration")->E (.ref e) {s with heap:=h'}):
 wpAny (model P w) A (Builtin.«zip.__next__» ⟨[.ref z],[]⟩) Q E s:=by
 refine vz (m:=field (.ref z) 2) (aaI hz rfl (x:=.bool false) rfl (vz (m:=field (.ref z) 3) (aaI hz rfl (x:=.ref TI) rfl (vz (aa0 hTI rfl ?_)))));refine vz (m:=Builtin.SmallTypes.ownedTupleIsFree (.ref z)) (QV hz hT λg0 z0 s0=>?_);simp only[aa3,abT,ae7,acZ,adU];have c1:=a1.extBut s0.extBut D.i1z;have d1:=b1.extBut s0.extBut D.l1z;refine vz (vz (vz (aa2 (vz (m:=Builtin.SmallTypes.nextOf (.ref i1)) ?_))));cases e1:us[m]? with
 |none=>exact ab5 hh c1 d1 e1 λg1 e x1 he=>no g1 e (.inl e1) (λc o n1 n2 _ q=>x1 _ _ n2 (s0.extBut _ _ n1 q)) he|some x=>
   refine aa1 c1 d1 e1 λg1 j1 s1=>ZC (ZC (vz (vz (aa2 (vz (m:=Builtin.SmallTypes.nextOf (.ref i2)) ?_)))));have c2:=(a2.extBut s0.extBut D.i2z).extBut s1.extBut D.i12.symm;have d2:=(b2.extBut s0.extBut D.l2z).extBut s1.extBut D.l2i1;cases e2:ws[m]? with
   |none=>exact ab5 hh c2 d2 e2 λg2 e x2 he=>no g2 e (.inr e2) (λc o n1 n2 n3 q=>x2 _ _ n3 (s1.extBut _ _ n2 (s0.extBut _ _ n1 q))) he|some y=>
     refine aa1 c2 d2 e2 λg2 j2 s2=>ZC ?_;refine ZC (ZC (vz (acq (ZC ?_) (by show 2<=sizeLine;rw[aaL];decide))));have sz:g2.objs.size=s.heap.objs.size:=by rw[s2.1,s1.1,s0.1]
     have q:=go x y (g2.push {cls:=.type "tuple",data:=.seq #[x,y]}) e1 e2 (Zz _ (s2.extBut _ _ D.i2z.symm (s1.extBut _ _ D.i1z.symm z0))) ((j1.extBut s2.extBut D.i12).at λo e=>Zz _ e) (j2.at λo e=>Zz _ e)
      (by rw[<-sz];exact ZR _ rfl) λc o n1 n2 n3 e=>Zz _ (s2.extBut _ _ n3 (s1.extBut _ _ n2 (s0.extBut _ _ n1 e)))
     rw[<-sz]at q;exact q
theorem Ha{z TI TO T i1 i2 l1 l2:Addr}{f:Bool}{m:Nat}{us ws:Array Value}{Q:Option Value->Shared->Prop}(hh:A.handled=none)(D:Apart z TI i1 i2 l1 l2)(hz:zW s.heap z TI TO T f)(hT:∃o,s.heap.get? T=some o)(hTI:IsPair s.heap TI (.ref i1) (.ref i2))
 (a1:s.heap.IsListIter i1 l1 m) (b1:s.heap.IsList l1 us) (a2:s.heap.IsListIter i2 l2 m) (b2:s.heap.IsList l2 ws)
 (go:∀x y h',us[m]? = some x->ws[m]? = some y->zW h' z TI TO T true->h'.IsListIter i1 l1 (m+1)->h'.IsListIter i2 l2 (m+1)->IsPair h' s.heap.objs.size x y->(∀c o,c≠z->c≠i1->c≠i2->s.heap.get? c=some o->h'.get? c=some o)->Q (some (.ref s.heap.objs.size)) {s with heap:=h'})
 (no:∀h',us[m]? = none\/ws[m]? = none->(∀c o,c≠z->c≠i1->c≠i2->s.heap.get? c=some o->h'.get? c=some o)->Q none {s with heap:=h'}):
 wpAny (model P w) A (pyNext (.ref z)) Q E s:=by
 have hTy:s.TypeIs (.ref z) "zip":=⟨_,hz,rfl⟩;unfold pyNext;refine vz (abw (aaj (name:=Str.ofString "__next__") hTy aaN (aah aaN hTy abX (Ux (A:=A.in1) hh D hz hT hTI a1 b1 a2 b2
  (λx y h' e1 e2 k1 k2 k3 k4 k5=>⟨_,rfl,ZC (go x y h' e1 e2 k1 k2 k3 k4 k5)⟩) λh' e hn hk he=>?_) (abP _))))
 obtain⟨o,ho,hc⟩:=he;exact vz (abI (T:="StopIteration") (b:=true) ⟨o,ho,hc⟩ acp (ZC (no _ hn hk)))
end
structure ZL(B z TI TO i1 i2 S:Addr)(l1 l2:Addr)(xs ys:Array Value)(i:Nat)(ts:List Addr)(h0 h:Heap):Prop where
 zs:(i=0/\IsZip h z TI TO .none/\∃a b,IsPair h TO a b)\/∃T f,zW h z TI TO T f/\T∈ts
 ti:IsPair h TI (.ref i1) (.ref i2)
 a1:h.IsListIter i1 l1 i
 a2:h.IsListIter i2 l2 i
 old:∀b o,b<B->h0.get? b=some o->h.get? b=some o
 at_:∃c,h.get? S=some {cls:=.type "list",dict:=none,data:=.seq (ts.map Value.ref).toArray c,slots:=#[]}
 tl:ts.length=i
 tp:∀(j:Nat)(t:Addr),ts[j]? = some t->(B<=t/\t≠z/\t≠TI/\t≠TO/\t≠i1/\t≠i2/\t≠S)/\∃x y,xs[j]? = some x/\ys[j]? = some y/\IsPair h t x y
 nd:ts.Nodup
section
variable{P:Program}{w:World}{A:Around}{E:Value->Shared->Prop}{s:Shared}{B z TI TO i1 i2 S l1 l2:Addr}{xs ys:Array Value}{h0:Heap}
structure ZApart(B z TI TO i1 i2 S l1 l2:Addr):Prop where
 D:ZipApart z TI TO i1 i2 l1 l2
 Sz:S≠z
 STI:S≠TI
 STO:S≠TO
 Si1:S≠i1
 Si2:S≠i2
 bz:B<=z
 bTO:B<=TO
 b1:B<=i1
 b2:B<=i2
 bS:B<=S
 l1B:l1<B
 l2B:l2<B
theorem ZApart.ap(q:ZApart B z TI TO i1 i2 S l1 l2):Apart z TI i1 i2 l1 l2:=⟨q.D.TIz,q.D.i1z,q.D.i2z,q.D.TIi1,q.D.TIi2,q.D.i12,q.D.l1z,q.D.l1i1,q.D.l1i2,q.D.l2z,q.D.l2i1,q.D.l2i2⟩
theorem ZL.more(q:ZApart B z TI TO i1 i2 S l1 l2){i:Nat}{ts:List Addr}{h h1:Heap}{T:Addr}{f:Bool}{x y:Value}(L:ZL B z TI TO i1 i2 S l1 l2 xs ys i ts h0 h)(hx:xs[i]? = some x)(hy:ys[i]? = some y)
 (bz:zW h1 z TI TO T f) (hT:T=h.objs.size\/T∈ts) (j1:h1.IsListIter i1 l1 (i+1)) (j2:h1.IsListIter i2 l2 (i+1)) (hp:IsPair h1 h.objs.size x y)
 (k:∀b o,b≠z->b≠TO->b≠i1->b≠i2->h.get? b=some o->h1.get? b=some o) (bTOlt:TO<h.objs.size) (bTIlt:TI<h.objs.size):
 ZL B z TI TO i1 i2 S l1 l2 xs ys (i+1) (ts++[h.objs.size]) h0 (h1.update S (Obj.mapSeq (·.push (.ref h.objs.size)))):=by
 have ltz:z<h.objs.size:=by rcases L.zs with⟨_,q,_⟩|⟨_,_,q,_⟩<;>exact ZG q
 have lt1:i1<h.objs.size:=by obtain⟨_,q,_⟩:=L.a1;exact ZG q
 have lt2:i2<h.objs.size:=by obtain⟨_,q,_⟩:=L.a2;exact ZG q
 obtain⟨c,aS⟩:=L.at_;have ltS:S<h.objs.size:=ZG aS;have gS:h1.get? S=_:=k S _ q.Sz q.STO q.Si1 q.Si2 aS;have up:∀{b:Addr}{o:Obj},b≠S->h1.get? b=some o->(h1.update S (Obj.mapSeq (·.push (.ref h.objs.size)))).get? b=some o:=λ{b o} hb e=>(aaB _ _ (aal hb)).trans e;refine⟨.inr ⟨T,f,up q.Sz.symm bz,?_⟩,up q.STI.symm (k _ _ q.D.TIz q.D.TITO q.D.TIi1 q.D.TIi2 L.ti),j1.at λo e=>up q.Si1.symm e,j2.at λo e=>up q.Si2.symm e,λb o hb e=>?_,?_,by simp[L.tl],λj t hj=>?_,?_⟩
 ·rcases hT with rfl|hT
  ·simp
  ·simp[hT]
 ·exact up (Z1 (ZX hb q.bS)) (k b o (Z1 (ZX hb q.bz)) (Z1 (ZX hb q.bTO)) (Z1 (ZX hb q.b1)) (Z1 (ZX hb q.b2)) (L.old b o hb e))
 ·have g:=aaG (Obj.mapSeq (·.push (.ref h.objs.size))) gS rfl;simp only[Obj.mapSeq,List.push_toArray]at g;rw[aaf];exact⟨_,g⟩
 ·by_cases hji:j<ts.length
  ·rw[aan hji]at hj;obtain⟨⟨b1,b2,b3,b4,b5,b6,b7⟩,u,v,e1,e2,e3⟩:=L.tp j t hj;exact⟨⟨b1,b2,b3,b4,b5,b6,b7⟩,u,v,e1,e2,up b7 (k t _ b2 b4 b5 b6 e3)⟩
  ·have hj':=(ZV.mp hj).1;simp only[Z6,Z2,aba]at hj';have ej:j=ts.length:=by omega
   subst ej;simp only[List.getElem?_concat_length,abO]at hj;subst hj;refine⟨⟨aaV q.bS (aca ltS),aam ltz,aam bTIlt,aam bTOlt,aam lt1,aam lt2,aam ltS⟩,x,y,by rw[L.tl];exact hx,by rw[L.tl];exact hy,up (aam ltS) hp⟩
 ·rw[ach];refine⟨L.nd,by simp,λa ha b hb e=>?_⟩;simp only[ZW]at hb;subst hb;subst e;obtain⟨j,hj⟩:=abG.mp ha;obtain⟨_,u,v,_,_,e3⟩:=L.tp j _ hj;exact abk _ (ZG e3)
theorem Ii{β:Type}{m:Sem β}{k:β->Sem PySem.Fin}{vs:List Value}{R:Result->Shared->Prop}(h:wpAny (model P w) A.in1 m (λb s'=>wpAny (model P w) A.in1 (k b) (λfin s'=>match fin with|.done f=>R (.ok f) s'|.again c'=>c'.quiet=true/\codeAny (model P w) A c' R s') (λe s'=>R (.error e) s') s') (λe s'=>R (.error e) s') s)
 (e:Builtin.«list.extend.loop» ⟨vs,[]⟩=m >>= k):codeAny (model P w) A (.builtin "list.extend.loop" ⟨vs,[]⟩) R s:=
 acA PySem.F.entry_extend_loop (by rw[acf abm _,e];exact vz h)
theorem QT(hh:A.handled=none)(q:ZApart B z TI TO i1 i2 S l1 l2)(o1:h0.IsList l1 xs)(o2:h0.IsList l2 ys)(hn:min xs.size ys.size<=sizeLine){res:Value}{R:Result->Shared->Prop}:
 ∀(m i:Nat)(s:Shared)(ts:List Addr),min xs.size ys.size-i=m->i<=min xs.size ys.size->ZL B z TI TO i1 i2 S l1 l2 xs ys i ts h0 s.heap->(TO<s.heap.objs.size)->
  (∀(h':Heap)(ts':List Addr),(∀b o,b<B->h0.get? b=some o->h'.get? b=some o)->(∃c,h'.get? S=some {cls:=.type "list",dict:=none,data:=.seq (ts'.map Value.ref).toArray c,slots:=#[]})->ts'.length=min xs.size ys.size->ts'.Nodup->
   (∀(j:Nat)(t:Addr),ts'[j]? = some t->B<=t/\t≠S/\∃x y,xs[j]? = some x/\ys[j]? = some y/\IsPair h' t x y)->R (.ok (.ret res)) {s with heap:=h'})->
  codeAny (model P w) A (.builtin "list.extend.loop" ⟨[.ref S,.ref z,res],[]⟩) R s:=by
 intro m;induction m with
 |zero=>
   intro i s ts hm hi L lTO k;have e:i=min xs.size ys.size:=by omega
   refine Ii (m:=pyNext (.ref z)) ?_ rfl;have p1:s.heap.IsList l1 xs:=let ⟨o,g,r⟩:=o1;⟨o,L.old _ _ q.l1B g,r⟩
   have p2:s.heap.IsList l2 ys:=let ⟨o,g,r⟩:=o2;⟨o,L.old _ _ q.l2B g,r⟩
   have hend:xs[i]? = none\/ys[i]? = none:=by
    simp only[Array.getElem?_eq_none_iff];omega
   have fin:∀h',(∀b o,b≠z->b≠TO->b≠i1->b≠i2->s.heap.get? b=some o->h'.get? b=some o)->R (.ok (.ret res)) {s with heap:=h'}:=λh' kk=>by
    obtain⟨c,aS⟩:=L.at_;refine k h' ts (λb o hb e=>kk b o (Z1 (ZX hb q.bz)) (Z1 (ZX hb q.bTO)) (Z1 (ZX hb q.b1)) (Z1 (ZX hb q.b2)) (L.old b o hb e)) ⟨c,kk S _ q.Sz q.STO q.Si1 q.Si2 aS⟩ (by rw[L.tl,e]) L.nd λj t hj=>?_;obtain⟨⟨b1,b2,b3,b4,b5,b6,b7⟩,u,v,e1,e2,e3⟩:=L.tp j t hj;exact⟨b1,b7,u,v,e1,e2,kk t _ b2 b4 b5 b6 e3⟩
   rcases L.zs with⟨_,hz,a,b,hTO⟩|⟨T,f,hz,hTm⟩
   ·exact wpAny_pyNext_zip_end (A:=A.in1) hh q.D hz L.ti hTO L.a1 L.a2 p1 p2 hend λh' kk=>ZC (fin h' λb o c1 c2 c3 c4 e=>kk b o c1 c2 c3 c4 e)
   ·obtain⟨j,hj⟩:=abG.mp hTm;obtain⟨_,u,v,_,_,e3⟩:=L.tp j T hj;exact Ha (A:=A.in1) hh q.ap hz ⟨_,e3⟩ L.ti L.a1 p1 L.a2 p2 (λx y h' e1 e2=>absurd hend (by rw[e1,e2];simp)) λh' _ kk=>ZC (fin h' λb o c1 c2 c3 c4 e=>kk b o c1 c3 c4 e)
 |succ m ih=>
   intro i s ts hm hi L lTO k;have hlt:i<min xs.size ys.size:=by omega
   refine Ii (m:=pyNext (.ref z)) ?_ rfl;have p1:s.heap.IsList l1 xs:=let ⟨o,g,r⟩:=o1;⟨o,L.old _ _ q.l1B g,r⟩
   have p2:s.heap.IsList l2 ys:=let ⟨o,g,r⟩:=o2;⟨o,L.old _ _ q.l2B g,r⟩
   obtain⟨x,hx⟩:∃x,xs[i]? = some x:=⟨_,aae (by omega)⟩;obtain⟨y,hy⟩:∃y,ys[i]? = some y:=⟨_,aae (by omega)⟩;have lTI:TI<s.heap.objs.size:=ZG L.ti;have go:∀h1 T f,zW h1 z TI TO T f->(T=s.heap.objs.size\/T∈ts)->h1.IsListIter i1 l1 (i+1)->h1.IsListIter i2 l2 (i+1)->IsPair h1 s.heap.objs.size x y->(∀b o,b≠z->b≠TO->b≠i1->b≠i2->s.heap.get? b=some o->h1.get? b=some o)->
    wpAny (model P w) A.in1 (updateSeq S (·.push (.ref s.heap.objs.size)) >>= λ_=>again (.builtin "list.extend.loop" ⟨[.ref S,.ref z,res],[]⟩)) (λfin s'=>match fin with|.done f=>R (.ok f) s'|.again c'=>c'.quiet=true/\codeAny (model P w) A c' R s') (λe s'=>R (.error e) s') {s with heap:=h1}:=λh1 T f bz hT j1 j2 hp kk=>by
    obtain⟨c,aS⟩:=L.at_;have gS:=kk S _ q.Sz q.STO q.Si1 q.Si2 aS;have L1:=L.more q hx hy bz hT j1 j2 hp kk lTO lTI;refine vz (abE (s:={s with heap:=h1}) gS rfl (ZC ⟨acj abm _,ih (i+1) _ _ (by omega) hlt L1 ?_ k⟩) (by simp[L.tl];omega) (by simp[L.tl];omega));rw[Heap.size_update];exact ZX lTO (aca (ZG hp))
   rcases L.zs with⟨_,hz,a,b,hTO⟩|⟨T,f,hz,hTm⟩
   ·exact wpAny_pyNext_zip_item q.D hz L.ti hTO L.a1 L.a2 p1 p2 hx hy λh' b1 b2 b3 b4 b5 b6 b7=>go h' s.heap.objs.size false b1 (.inl rfl) b3 b4 b5 b7
   ·obtain⟨j,hj⟩:=abG.mp hTm;obtain⟨_,u,v,_,_,e3⟩:=L.tp j T hj;refine Ha (A:=A.in1) hh q.ap hz ⟨_,e3⟩ L.ti L.a1 p1 L.a2 p2 (λx' y' h' e1 e2 b1 b2 b3 b4 b5=>?_) λh' hn _=>absurd hn (by rw[hx,hy];simp);cases hx.symm.trans e1;cases hy.symm.trans e2;exact go h' T true b1 (.inr hTm) b2 b3 b4 λb o c1 c2 c3 c4 e=>b5 b o c1 c3 c4 e
end
end DL
namespace DL
open PySem PySem.Spec PyProof.Rows L2
section
variable{P:Program}{w:World}{A:Around}{E:Value->Shared->Prop}{s:Shared}
theorem OJ{r:Addr}{Q:Bool->Shared->Prop}(hT:s.TypeIs (.ref r) "zip")(k:∀b,Q b s):wpAny (model P w) A (Builtin.List.listLengthHint (.ref r)) Q E s:=by
 unfold Builtin.List.listLengthHint;refine vz (adG hT (r:=none) (by rw[adF,acE];kernel_rfl) ?_);dsimp only;rw[aaa (by decide)];rw[aaa (by decide)];refine vz (adG hT (r:=none) (by rw[adF,acE];kernel_rfl) ?_);exact ZC (k true)
theorem wR{B z TI TO i1 i2 l1 l2:Addr}{xs ys:Array Value}{Q:Value->Shared->Prop}(hh:A.handled=none)(D:ZipApart z TI TO i1 i2 l1 l2)(hz:IsZip s.heap z TI TO .none)(hTI:IsPair s.heap TI (.ref i1) (.ref i2))(hTO:∃a b,IsPair s.heap TO a b)
 (h1:s.heap.IsListIter i1 l1 0) (h2:s.heap.IsListIter i2 l2 0) (hl1:s.heap.IsList l1 xs) (hl2:s.heap.IsList l2 ys) (bz:B<=z) (bTO:B<=TO) (b1:B<=i1) (b2:B<=i2) (l1B:l1<B) (l2B:l2<B) (hn:min xs.size ys.size<=sizeLine)
 (k:∀(h':Heap)(ts:List Addr),(∀b o,b<B->s.heap.get? b=some o->h'.get? b=some o)->(∃c,h'.get? s.heap.objs.size=some {cls:=.type "list",dict:=none,data:=.seq (ts.map Value.ref).toArray c,slots:=#[]})->ts.length=min xs.size ys.size->ts.Nodup->
  (∀(j:Nat)(t:Addr),ts[j]? = some t->B<=t/\t≠s.heap.objs.size/\∃x y,xs[j]? = some x/\ys[j]? = some y/\IsPair h' t x y)->Q (.ref s.heap.objs.size) {s with heap:=h'}):
 wpAny (model P w) A (call (.type "list") [.ref z]) Q E s:=by
 have ltz:z<s.heap.objs.size:=ZG hz;have ltI:TI<s.heap.objs.size:=ZG hTI;have ltO:TO<s.heap.objs.size:=by obtain⟨_,_,q⟩:=hTO;exact ZG q
 have lt1:i1<s.heap.objs.size:=by obtain⟨_,q,_⟩:=h1;exact ZG q
 have lt2:i2<s.heap.objs.size:=by obtain⟨_,q,_⟩:=h2;exact ZG q
 have q:ZApart B z TI TO i1 i2 s.heap.objs.size l1 l2:=⟨D,aam ltz,aam ltI,aam ltO,aam lt1,aam lt2,bz,bTO,b1,b2,aaV bz (aca ltz),l1B,l2B⟩;refine callType_codes (Q₁:=λv s1=>v=.ref s.heap.objs.size/\s1={s with heap:=s.heap.push {cls:=.type "list",data:=.seq #[]}}) PySem.F.called_list (PySem.F.typeCall_list_1 _) PySem.F.entry_list_init (code_list_new _ ⟨rfl,rfl⟩) λv s1 z1=>?_;obtain⟨rfl,rfl⟩:=z1;have g0:(s.heap.push {cls:=.type "list",data:=.seq #[]}).get? s.heap.objs.size=some {cls:=.type "list",data:=.seq #[]}:=ZR _ rfl;refine⟨⟨_,g0,rfl⟩,PySem.F.args_list_init_2 _ _,?_⟩;show wpAny _ _ (Builtin.List.listItems (.ref s.heap.objs.size) >>= λold=>Builtin.List.listUpdate (.ref s.heap.objs.size) (λ_=>#[]) >>= λ_=>letGo old.toList.reverse >>= λ_=>Builtin.List.listExtendWith (.ref s.heap.objs.size) (.ref z) .none) _ _ _;refine vz (vz (aa0 g0 rfl (ZC ?_)));refine vz (show wpAny _ _ (updateSeq s.heap.objs.size λ_=>#[]) _ _ _ from abE g0 rfl (vz (ac6 ?_)));have g1:=aaG (Obj.mapSeq λ_=>(#[]:Array Value)) g0 rfl;generalize hG:(s.heap.push {cls:=.type "list",data:=.seq #[]}).update s.heap.objs.size (Obj.mapSeq λ_=>(#[]:Array Value))=G at g1 ⊢;have kG:∀b o,b≠s.heap.objs.size->s.heap.get? b=some o->G.get? b=some o:=λb o hb e=>by rw[<-hG];exact(aaB _ _ (aal hb)).trans (Zz _ e)
 have kG':∀b o,s.heap.get? b=some o->G.get? b=some o:=λb o e=>kG b o (Z1 (ZG e)) e;unfold Builtin.List.listExtendWith;have hTy:Shared.TypeIs {s with heap:=G} (.ref z) "zip":=⟨_,kG' _ _ hz,rfl⟩;refine vz (ada (T:="zip") hTy ?_);have e1:Builtin.List.listSameRef (.ref s.heap.objs.size) (.ref z)=false:=by simp[Builtin.List.listSameRef,aam ltz]
 have e2:(Value.type "zip"==Value.type "list")=false:=by decide
 have e3:(Value.type "zip"==Value.type "tuple")=false:=by decide
 simp only[e1,e2,e3,aeX,aa3,abT];refine vz (ab1 (s:={s with heap:=G}) (kG' _ _ hz) ?_);refine vz (aa2 (OJ hTy λb=>?_));have run:∀(h:Heap)(c1:Nat),(∀b o,b≠s.heap.objs.size->G.get? b=some o->h.get? b=some o)->h.get? s.heap.objs.size=some {cls:=.type "list",data:=.seq #[] c1}->codeAny (model P w) A.in1 (.builtin "list.extend.loop" ⟨[.ref s.heap.objs.size,.ref z,.none],[]⟩) (wants (λr s2=>r=.none/\Q (.ref s.heap.objs.size) s2) E) {s with heap:=h}:=λh c1 hk gh=>by
  have kk:∀b o,s.heap.get? b=some o->h.get? b=some o:=λb o e=>hk b o (Z1 (ZG e)) (kG' b o e);refine QT (A:=A.in1) (h0:=s.heap) hh q hl1 hl2 hn _ 0 {s with heap:=h} [] rfl (aap _) ⟨.inl ⟨rfl,kk _ _ hz,let ⟨a,b,e⟩:=hTO;⟨a,b,kk _ _ e⟩⟩,kk _ _ hTI,h1.at λo e=>kk _ o e,h2.at λo e=>kk _ o e,λb o _ e=>kk b o e,⟨c1,gh⟩,rfl,λj t hj=>by simp at hj,acr⟩ ?_ λh' ts k1 k2 k3 k4 k5=>⟨rfl,k h' ts k1 k2 k3 k4 k5⟩;obtain⟨a,b,e⟩:=hTO;exact ZG (kk _ _ e)
 refine acz (λ_=>?_) λ_=>ZC ⟨acj abm _,run G _ (λ_ _ _ e=>e) g1⟩;refine vz (acJ (vz ?_));show wpAny _ _ (updateSeq s.heap.objs.size (·.push .none) >>= λ_=>updateSeq s.heap.objs.size (·.pop)) _ _ _;have g2:=aaG (Obj.mapSeq (·.push Value.none)) g1 rfl;have g3:=aaG (Obj.mapSeq (·.pop)) g2 rfl;refine vz (abE (s:={s with heap:=G}) g1 rfl (abE (hz:=by seq_fits) g2 rfl ?_));exact ZC ⟨acj abm _,run _ _ (λb o hb e=>(aaB _ _ (aal hb)).trans ((aaB _ _ (aal hb)).trans e)) g3⟩
end
section
variable{X:Cx}{pins:List (Addr×Obj)}{σ:L2.St}{H H':Hp}{s:Shared}{h':Heap}
theorem Inv.lays{t':Nat}(I:L2.Inv X pins σ H s)(k:∀b u,s.heap.get? b=some u->h'.get? b=some u)(hold:∀a o,H a=some o->H' a=some o)
 (hnew:∀a o,H' a=some o->H a=some o\/s.heap.objs.size<=a/\ObjOk X.prog X.w H' h' a o):L2.Inv X pins σ H' {s with heap:=h',toks:=t'}:=by
 refine I.un (t':=t') ⟨λb o q _ _ _=>k b o q,λb o q _ _ _=>⟨o.slots,k b o q⟩,λb o q n _=>?_,λb o q _=>⟨o,k b o q⟩,λb xs q=>hold _ _ q,λb o u q=>hold _ _ q,λb ps q=>⟨#[],by rw[hold _ _ q];simp⟩⟩ λa o e=>?_
 ·cases e:H' b with
  |none=>rfl|some u=>
    rcases hnew b u e with z|z
    ·rw[n]at z;cases z
    ·exact absurd (ZX (ZG q) z.1) (abk _)
 ·rcases hnew a o e with z|z
  ·exact(I.hok a o z).stay (λb u _ q=>k b u q) (λb q=>hold _ _ q) λb xs q=>hold _ _ q
  ·exact z.2
end
noncomputable def zh(ts:List Addr)(ps:List (List V))(H:Hp):Hp:=λb=>match(ts.zip ps).lookup b with
 |some xs=>some (.tup xs)|none=>H b
theorem zm{β:Type}:∀{ts:List Addr}{ps:List β}{b:Addr}{p:β},(ts.zip ps).lookup b=some p->∃j:Nat,ts[j]? = some b/\ps[j]? = some p
 |[],_,_,_,h=>by simp at h|_::_,[],_,_,h=>by simp at h|t::ts,q::ps,b,p,h=>by
   rw[aaw,aas]at h;split at h
   ·rename_i e;cases h;exact⟨0,by simp[eq_of_beq e],rfl⟩
   ·obtain⟨j,e1,e2⟩:=zm h;exact⟨j+1,by simpa using e1,by simpa using e2⟩
theorem Uj{β:Type}:∀{ts:List Addr}{ps:List β}{b:Addr}{p:β}{j:Nat},ts.Nodup->ts[j]? = some b->ps[j]? = some p->(ts.zip ps).lookup b=some p
 |[],_,_,_,_,_,h,_=>by simp at h|_::_,[],_,_,_,_,_,h=>by simp at h|t::ts,q::ps,b,p,0,hn,h1,h2=>by
   simp only[ac5,abO]at h1 h2;subst h1 h2;rw[aaw,aas];simp
 |t::ts,q::ps,b,p,j+1,hn,h1,h2=>by
   rw[aaK]at hn;have hb:b≠t:=λz=>hn.1 (z▸aaY (by simpa using h1));rw[aaw,aas];have e:(b==t)=false:=by simpa using hb
   rw[e];exact Uj hn.2 (by simpa using h1) (by simpa using h2)
section
variable{X:Cx}{a b:Expr}{ma mb:ME}{pos p p2 p3:Pos}
noncomputable def Zo(K:PySem.W.Frag)(ta:TA):TE:=λσ H Q=>ta σ H λvs H1=>∃l1 l2 xs ys,vs=[.ref l1,.ref l2]/\SqL K H1 l1 xs/\SqL K H1 l2 ys/\min xs.length ys.length<=sizeLine/\
 ∀(H2:Hp)(S:Addr)(ts:List Addr),Same H1 H2->H1 S=none->H2 S=some (.lst (ts.map V.ref))->ts.length=min xs.length ys.length->
  (∀(j:Nat)(t:Addr),ts[j]? = some t->H1 t=none/\∃x y,xs[j]? = some x/\ys[j]? = some y/\H2 t=some (.tup [x,y]))->Q (.ref S) H2
theorem yC{xs:List V}{us:List Value}{i:Nat}{u:Value}(r:Vals xs us)(h:us[i]? = some u):∃x,xs[i]? = some x/\RelV x u:=by
 have hi:=(ZV.mp h).1;have hx:i<xs.length:=by rw[r.length];exact hi
 obtain⟨u',e1,e2⟩:=r.get (ZM hx);rw[h]at e1;cases e1;exact⟨_,ZM hx,e2⟩
theorem Fy{ta:TA}(hc:X.calm=true)(hg1:Gl X "list")(hm1:X.mg "list"=none)(hg2:Gl X "zip")(hm2:X.mg "zip"=none)(ha:PA X [a,b] ta)(h1:starEach [a,b] X.env=(false,eval a X.env)::starEach [b] X.env:=by rfl)(hpl:(backTo p3 (starEach [b] X.env)).any (·.1)=false:=by rfl)
 (s1:starEach [Expr.Call (.Name "zip" p2) [a,b] [] p3] X.env=(false,eval (Expr.Call (.Name "zip" p2) [a,b] [] p3) X.env)::starEach [] X.env:=by rfl) (hp0:(backTo pos (starEach [] X.env)).any (·.1)=false:=by rfl):
 PE X (.Call (.Name "list" p) [.Call (.Name "zip" p2) [a,b] [] p3] [] pos) (Zo X.K ta):=by
 intro pins s σ H Q I h;refine Call_ (jl I hg1 hm1 (by rfl) (aat ?_ s1 hp0));rw[s1];show wpAny _ _ (spliced ((false,eval (Expr.Call (.Name "zip" p2) [a,b] [] p3) X.env)::backTo pos (starEach [] X.env))) _ _ s;refine abr ?_;refine Call_ (jl I hg2 hm2 (by rfl) (aat (cW (ha p3 pins s σ H _ I h) λus s1 ⟨vs,H1,I1,r1,q1⟩=>?_) h1 hpl));obtain⟨l1,l2,xs,ys,e,hq1,hq2,hn,q⟩:=q1;subst e;obtain⟨u,v,rfl,ru,rv⟩:=vals2 r1;cases ru;cases rv;obtain⟨its1,rv1,p1,_⟩:=I1.list hq1;obtain⟨its2,rv2,p2',_⟩:=I1.list hq2;have a1:l1<s1.heap.objs.size:=by obtain⟨_,q,_⟩:=p1.isList;exact ZG q
 have a2:l2<s1.heap.objs.size:=by obtain⟨_,q,_⟩:=p2'.isList;exact ZG q
 refine ae5 p1.isList p2'.isList λh2 hz hTI hTO hi1 hi2 hsz hk=>?_;refine acb ?_;have m1:h2.IsList l1 its1.toArray:=let ⟨o,g,r⟩:=p1.isList;⟨o,hk _ _ g,r⟩
 have m2:h2.IsList l2 its2.toArray:=let ⟨o,g,r⟩:=p2'.isList;⟨o,hk _ _ g,r⟩
 have hlen:min its1.toArray.size its2.toArray.size=min xs.length ys.length:=by rw[ZJ,ZJ,rv1.length,rv2.length]
 refine wR (s:={s1 with heap:=h2}) (B:=s1.heap.objs.size) (I1.ok.hd hc) (zipApart_new a1 a2) hz hTI ⟨_,_,hTO⟩ hi1 hi2 m1 m2 (aaT _ _) (aaT _ _) (ZS _) (aaT _ _) a1 a2 (by rw[hlen];exact hn) λh3 ts k1 k2 k3 k4 k5=>?_;have hS:s1.heap.objs.size<=h2.objs.size:=by rw[hsz];exact aaT _ _
 have kk:∀c o,s1.heap.get? c=some o->h3.get? c=some o:=λc o e=>k1 c o (ZG e) (hk c o e);have pz:∀(j:Nat)(t:Addr),ts[j]? = some t->∃x y ux uy,xs[j]? = some x/\ys[j]? = some y/\RelV x ux/\RelV y uy/\IsPair h3 t ux uy:=λj t hj=>by
  obtain⟨_,_,ux,uy,e1,e2,e3⟩:=k5 j t hj;obtain⟨x,f1,f2⟩:=yC rv1 (i:=j) (u:=ux) (by simpa using e1);obtain⟨y,f3,f4⟩:=yC rv2 (i:=j) (u:=uy) (by simpa using e2);exact⟨x,y,ux,uy,f1,f3,f2,f4,e3⟩
 let ps:List (List V):=(xs.zip ys).map λq=>[q.1,q.2]
 have hps:∀(j:Nat) x y,xs[j]? = some x->ys[j]? = some y->ps[j]? = some [x,y]:=λj x y e1 e2=>by
  simp only[ps,aad];have z:(xs.zip ys)[j]? = some (x,y):=abF.mpr ⟨e1,e2⟩;rw[z];rfl
 let H2:Hp:=upd (zh ts ps H1) h2.objs.size (.lst (ts.map V.ref))
 have zt:∀(j:Nat)(t:Addr) x y,ts[j]? = some t->xs[j]? = some x->ys[j]? = some y->zh ts ps H1 t=some (.tup [x,y]):=λj t x y e1 e2 e3=>by
  unfold zh;rw[Uj k4 e1 (hps j x y e2 e3)]
 have zo:∀c o,zh ts ps H1 c=some o->H1 c=some o\/∃(j:Nat)(x y:V),ts[j]? = some c/\xs[j]? = some x/\ys[j]? = some y/\o=.tup [x,y]:=λc o e=>by
  unfold zh at e;split at e
  ·rename_i vs el;cases e;obtain⟨j,e1,e2⟩:=zm el;obtain⟨x,y,_,_,f1,f2,_⟩:=pz j c e1;rw[hps j x y f1 f2]at e2;cases e2;exact .inr ⟨j,x,y,e1,f1,f2,rfl⟩
  ·exact .inl e
 have fr:∀(j:Nat)(t:Addr),ts[j]? = some t->H1 t=none:=λj t hj=>I1.hok.fresh (k5 j t hj).1;have hold:∀c o,H1 c=some o->H2 c=some o:=λc o e=>by
  have hc:c≠h2.objs.size:=bx e (I1.hok.fresh hS);show upd _ _ _ c=_;rw[aR hc];unfold zh;split
  ·rename_i vs el;obtain⟨j,e1,_⟩:=zm el;rw[fr j c e1]at e;cases e
  ·exact e
 have H2S:H2 h2.objs.size=some (.lst (ts.map V.ref)):=aY;have H2t:∀(j:Nat)(t:Addr) x y,ts[j]? = some t->xs[j]? = some x->ys[j]? = some y->H2 t=some (.tup [x,y]):=λj t x y e1 e2 e3=>by
  show upd _ _ _ t=_;rw[aR (k5 j t e1).2.1];exact zt j t x y e1 e2 e3
 have J:L2.Inv X pins σ H2 {s1 with heap:=h3,toks:=s1.toks}:=by
  refine Inv.lays (s:=s1) (t':=s1.toks) I1 kk hold λc o e=>?_;by_cases hcS:c=h2.objs.size
  ·subst hcS;rw[H2S]at e;cases e;obtain⟨cc,gS⟩:=k2;refine .inr ⟨hS,by rw[ZK,k3,hlen];exact hn,ts.map Value.ref,cc,?_,gS⟩;clear pz hps zt zo fr H2t k3 k4 k5 gS hold H2S;induction ts with
   |nil=>exact .nil|cons t ts ih=>exact .cons rfl ih
  ·have e':zh ts ps H1 c=some o:=by
    have:upd (zh ts ps H1) h2.objs.size (.lst (ts.map V.ref)) c=some o:=e;rw[aR hcS]at this;exact this
   rcases zo c o e' with z|⟨j,x,y,e1,e2,e3,rfl⟩
   ·exact .inl z
   ·obtain⟨x',y',ux,uy,f1,f2,f3,f4,f5⟩:=pz j c e1;rw[e2]at f1;rw[e3]at f2;cases f1;cases f2;exact .inr ⟨(k5 j c e1).1,by show 2<=sizeLine;rw[cM];decide,[ux,uy],.cons f3 (.cons f4 .nil),_,f5,rfl,_,rfl⟩
 refine⟨.ref h2.objs.size,H2,J,rfl,q H2 h2.objs.size ts (λc o e=>hold c o e) (I1.hok.fresh hS) H2S (by rw[k3,hlen]) λj t hj=>?_⟩;obtain⟨x,y,_,_,f1,f2,_⟩:=pz j t hj;exact⟨fr j t hj,x,y,f1,f2,H2t j t x y hj f1 f2⟩
theorem GD(hc:X.calm=true)(hg1:Gl X "list")(hm1:X.mg "list"=none)(hg2:Gl X "zip")(hm2:X.mg "zip"=none)(ha:DE X a ma)(hb:DE X b mb)(h1:starEach [a,b] X.env=(false,eval a X.env)::starEach [b] X.env:=by rfl)(h2:starEach [b] X.env=(false,eval b X.env)::starEach [] X.env:=by rfl)(hpl:(backTo p3 (starEach [b] X.env)).any (·.1)=false:=by rfl)
 (s1:starEach [Expr.Call (.Name "zip" p2) [a,b] [] p3] X.env=(false,eval (Expr.Call (.Name "zip" p2) [a,b] [] p3) X.env)::starEach [] X.env:=by rfl) (hp0:(backTo pos (starEach [] X.env)).any (·.1)=false:=by rfl):
 DE X (.Call (.Name "list" p) [.Call (.Name "zip" p2) [a,b] [] p3] [] pos) (vV ma mb):=by
 obtain⟨ta,pa,qa⟩:=ha;obtain⟨tb,pb,qb⟩:=hb;refine⟨_,Fy hc hg1 hm1 hg2 hm2 (bG pa (bG pb cV h2) h1) h1 hpl s1 hp0,λos σ H δ d Q s m k=>?_⟩;obtain⟨zs,m0,m⟩:=ao m;obtain⟨dx,e1,m0⟩:=ao m0;obtain⟨dy,e2,m0⟩:=ao m0;refine qa os σ H δ dx _ s e1 λv H1 g1 r1=>?_;refine qb os σ H1 δ dy _ (s.mono g1) e2 λw H2 g2 r2=>?_
 match dx,dy,m0 with
 |.lst ds,.lst es,m0=>
   cases m0;split at m
   ·rename_i hz;cases m;obtain⟨l1,xs,rfl,q1,d1⟩:=(r1.mono g2.hd _ _).lst_up;obtain⟨l2,ys,rfl,q2,d2⟩:=r2.lst_up;have zl:(gB ds es).length=min xs.length ys.length:=by simp[gB,d1.length,d2.length]
    refine⟨l1,l2,xs,ys,rfl,q1,q2,by rw[<-zl,cM];exact hz,λH3 S ts g3 hS h3 hl ht=>?_⟩;have L:=(s.live.mono g1).mono g2;refine k _ H3 (g1.trans (g2.trans g3)) (.lst (.of ((aL (L.ne hS)).trans h3)) ?_);have key:∀(zs:List D)(us:List Addr),zs.length=us.length->(∀(j:Nat)(t:Addr)(d:D),us[j]? = some t->zs[j]? = some d->Den X.K (hide os H3) d (.ref t))->Dens X.K (hide os H3) zs (us.map V.ref):=by
     intro zs;induction zs with
     |nil=>intro us hl _;rw[abv.mp hl.symm];exact .nil|cons z zs ih=>
       intro us hl hd;cases us with
       |nil=>simp at hl|cons u us=>exact .cons (hd 0 u z rfl rfl) (ih us (by simpa using hl) λj t d e1 e2=>hd (j+1) t d (by simpa using e1) (by simpa using e2))
    refine key _ _ (by rw[zl,hl]) λj t d ej ed=>?_;obtain⟨x,y,f1,f2,rfl⟩:=qg ds es j d ed;obtain⟨tn,u,v,w1,w2,w3⟩:=ht j t ej;obtain⟨u',z1,z2⟩:=d1.get f1;obtain⟨v',z3,z4⟩:=d2.get f2;rw[w1]at z1;rw[w2]at z3;cases z1;cases z3;exact .tup ((aL (L.ne tn)).trans w3) (.cons (z2.mono g3.hd _ _) (.cons (z4.mono g3.hd _ _) .nil))
   ·cases m
end
end DL
namespace DL
open PySem PyProof.Rows
def Wt(h:Heap)(d:Addr)(es:Array DictEntry)(ep:Nat):Prop:=∃o,h.get? d=some o/\o.ExactDict/\o.data=.dict es ep
section
variable{P:Program}{w:World}{A:Around}{E:Value->Shared->Prop}{s:Shared}{d:Addr}{es:Array DictEntry}{ep:Nat}
end
end DL
namespace L2
open PySem PySem.Spec PyProof.Rows
section
variable{κ:Type}[DecidableEq κ]
noncomputable def fO(kvs:List (κ×V))(k:κ):Option V:=(kvs.find? λkv=>decide (kv.1=k)).map (·.2)
noncomputable def putK(kvs:List (κ×V))(k:κ)(v:V):List (κ×V):=
 if(kvs.any λkv=>decide (kv.1=k))=true then kvs.map (λkv=>if kv.1=k then(kv.1,v)else kv)else kvs++[(k,v)]
theorem jE{p:κ×V}{r:List (κ×V)}{k:κ}(e:p.1=k):fO (p::r) k=some p.2:=by simp[fO,acB,e]
theorem iV{p:κ×V}{r:List (κ×V)}{k:κ}(e:¬ p.1=k):fO (p::r) k=fO r k:=by simp[fO,acB,e]
theorem m8(k:κ):∀kvs:List (κ×V),(kvs.any λkv=>decide (kv.1=k))=(fO kvs k).isSome
 |[]=>rfl|p::r=>by
   rw[acW];by_cases e:p.1=k
   ·simp only[jE e,aby e,Bool.true_or,Option.isSome_some]
   ·rw[iV e,aay e,Bool.false_or];exact m8 k r
theorem j0(kvs:List (κ×V))(k:κ)(v:V):(putK kvs k v).length<=kvs.length+1:=by
 unfold putK;split
 ·rw[ZK];omega
 ·rw[Z6,Z2,aba];omega
theorem qK{kvs:List (κ×V)}{k:κ}(v:V)(h:fO kvs k=none):putK kvs k v=kvs++[(k,v)]:=by
 unfold putK;rw[m8,h];exact aaa (by decide)
theorem RelO.isSome_eq{o:Option V}{u:Option Value}(r:RelO o u):o.isSome=u.isSome:=by
 cases o with
 |none=>cases u with
   |none=>rfl|some _=>exact(show False from r).elim
 |some _=>cases u with
   |none=>exact(show False from r).elim|some _=>rfl
theorem RelO.getD{o:Option V}{u:Option Value}{d:V}{d':Value}(r:RelO o u)(rd:RelV d d'):RelV (o.getD d) (u.getD d'):=by
 cases o with
 |none=>cases u with
   |none=>exact rd|some _=>exact(show False from r).elim
 |some _=>cases u with
   |none=>exact(show False from r).elim|some _=>exact r
theorem KV.val{kvs:List (κ×V)}{vs:List (κ×Value)}(r:KV kvs vs)(k:κ):RelO (fO kvs k) (valueAt vs k):=by
 unfold KV at r;induction r with
 |nil=>exact True.intro|@cons p q ps qs h t ih=>
   obtain⟨h1,h2⟩:=h;by_cases e:p.1=k
   ·have e':q.1=k:=h1.symm.trans e;have b:valueAt (q::qs) k=some q.2:=by simp[valueAt,acB,e']
    rw[jE e,b];exact h2
   ·have e':¬ q.1=k:=λz=>e (h1.trans z);have b:valueAt (q::qs) k=valueAt qs k:=by simp[valueAt,acB,e']
    rw[iV e,b];exact ih
theorem KV.any{kvs:List (κ×V)}{vs:List (κ×Value)}(r:KV kvs vs)(k:κ):(kvs.any λkv=>decide (kv.1=k))=vs.any λkv=>decide (kv.1=k):=by
 unfold KV at r;induction r with
 |nil=>rfl|cons h t ih=>rw[acW,acW,ih,h.1]
theorem KV.repl{kvs:List (κ×V)}{vs:List (κ×Value)}(r:KV kvs vs)(k:κ){y:V}{u:Value}(ry:RelV y u):
 KV (kvs.map λkv=>if kv.1=k then(kv.1,y)else kv) (vs.map λkv=>if kv.1=k then(kv.1,u)else kv):=by
 unfold KV at r ⊢
 induction r with
 |nil=>exact .nil|@cons p q ps qs h t ih=>
   rw[ZD,ZD];refine .cons ?_ ih;obtain⟨h1,h2⟩:=h;by_cases e:p.1=k
   ·rw[ZZ e,ZZ (h1.symm.trans e)];exact⟨h1,ry⟩
   ·rw[aaa e,aaa (λz=>e (h1.trans z))];exact⟨h1,h2⟩
theorem KV.put{kvs:List (κ×V)}{vs:List (κ×Value)}(r:KV kvs vs)(k:κ){y:V}{u:Value}(ry:RelV y u):KV (putK kvs k y) (stored vs k u):=by
 unfold putK stored;rw[r.any k];by_cases e:(vs.any λkv=>decide (kv.1=k))=true
 ·rw[ZZ e,ZZ e];exact r.repl k ry
 ·rw[aaa e,aaa e];exact Paired.snoc r ⟨rfl,ry⟩
theorem KV.keys{kvs:List (κ×V)}{vs:List (κ×Value)}(r:KV kvs vs):kvs.map (·.1)=vs.map (·.1):=by
 unfold KV at r;induction r with
 |nil=>rfl|cons h t ih=>rw[ZD,ZD,ih,h.1]
theorem KV.length{kvs:List (κ×V)}{vs:List (κ×Value)}(r:KV kvs vs):kvs.length=vs.length:=adu r
end
theorem vH{P:Program}{w:World}{k:Key}{u:Value}(r:RelV (kV k) u):(b8 P w).is k u=true:=by
 cases k with
 |inl i=>obtain⟨t,e⟩:=(show ∃t,u=Value.int i t from r);subst e;exact Cd P w i t
 |inr x=>obtain⟨t,e⟩:=(show ∃t,u=Value.str x t from r);subst e;exact Ca P w x t
theorem xT{P:Program}{w:World}:∀{ks:List Key}{us:List Value},Vals (ks.map kV) us->ItemsAre (b8 P w) ks us
 |[],_,r=>by rw[aa4]at r;cases r;exact .nil|k::ks,_,r=>by
   rw[ZD]at r;cases r with
   |cons h t=>exact .cons (vH h) (xT t)
abbrev KT(H:Hp):List (List Key×V)->List (List Key×Addr×Value)->Prop:=Paired λp q=>p.1=q.1/\H q.2.1=some (.tup (p.1.map kV))/\RelV p.2 q.2.2
theorem KT.val{H:Hp}{kvs:List (List Key×V)}{xs:List (List Key×Addr×Value)}(r:KT H kvs xs)(k:List Key):RelO (fO kvs k) ((atKey xs k).map (·.2)):=by
 induction r with
 |nil=>exact True.intro|@cons p q ps qs h t ih=>
   obtain⟨h1,_,h2⟩:=h;by_cases e:p.1=k
   ·have e':q.1=k:=h1.symm.trans e;have b:atKey (q::qs) k=some q.2:=by simp[atKey,acB,e']
    rw[jE e,b];exact h2
   ·have e':¬ q.1=k:=λz=>e (h1.trans z);have b:atKey (q::qs) k=atKey qs k:=by simp[atKey,acB,e']
    rw[iV e,b];exact ih
theorem KT.repl{H:Hp}{kvs:List (List Key×V)}{xs:List (List Key×Addr×Value)}(r:KT H kvs xs)(k:List Key){y:V}{u:Value}(ry:RelV y u):
 KT H (kvs.map λkv=>if kv.1=k then(kv.1,y)else kv) (xs.map (putAt k u)):=by
 induction r with
 |nil=>exact .nil|@cons p q ps qs h t ih=>
   rw[ZD,ZD];refine .cons ?_ ih;obtain⟨h1,h2,h3⟩:=h;unfold putAt;by_cases e:p.1=k
   ·rw[ZZ e,ZZ (h1.symm.trans e)];exact⟨h1,h2,ry⟩
   ·rw[aaa e,aaa (λz=>e (h1.trans z))];exact⟨h1,h2,h3⟩
theorem KT.put{H:Hp}{kvs:List (List Key×V)}{xs:List (List Key×Addr×Value)}(r:KT H kvs xs)(k:List Key){b:Addr}{y:V}{u:Value}(hb:H b=some (.tup (k.map kV)))(ry:RelV y u):
 KT H (putK kvs k y) (storedH xs k b u):=by
 have e:(kvs.any λkv=>decide (kv.1=k))=(atKey xs k).isSome:=by
  rw[m8,(r.val k).isSome_eq,Option.isSome_map]
 unfold putK storedH;rw[e];by_cases q:(atKey xs k).isSome=true
 ·rw[ZZ q,ZZ q];exact r.repl k ry
 ·rw[aaa q,aaa q];exact Paired.snoc r ⟨rfl,hb,ry⟩
theorem KT.keeps{H H':Hp}{kvs:List (List Key×V)}{xs:List (List Key×Addr×Value)}(r:KT H kvs xs)(ht:∀b ys,H b=some (.tup ys)->H' b=some (.tup ys)):KT H' kvs xs:=
 Paired.mapP r λ_ _ z=>⟨z.1,ht _ _ z.2.1,z.2.2⟩
section
variable{P:Program}{w:World}{H:Hp}{h:Heap}{a:Addr}
theorem Ub{u:HO}(ok:HOk P w H h)(e:Rd H a u):ObjOk P w H h a u:=e.ok ok
theorem uc{kvs:List (Key×V)}(ok:HOk P w H h)(e:Rd H a (.dK kvs)):kvs.length<=sizeLine/\(a==sysModules)=false/\∃vs,KV kvs vs/\h.DictOf (b8 P w) a vs:=
 show ObjOk P w H h a (.dK kvs)from Ub ok e
theorem Je{kvs:List (Key×V)}(ok:HOk P w H h)(e:H a=some (.dK kvs)):kvs.length<=sizeLine/\(a==sysModules)=false/\∃vs,KV kvs vs/\h.DictOf (b8 P w) a vs:=uc ok (.inl e)
theorem pZ{ks:List Key}(ok:HOk P w H h)(e:H a=some (.tup (ks.map kV))):(tupleKind (b8 P w)).is h ks a:=by
 obtain⟨_,its,r,o,h1,h2,n,h3⟩:=(show ObjOk P w H h a (.tup (ks.map kV))from ok a _ e);exact⟨o,its.toArray,n,h1,h2,h3,by simpa using xT r⟩
theorem xX{kvs:List (List Key×V)}(ok:HOk P w H h)(e:Rd H a (.dT kvs)):kvs.length<=sizeLine/\(a==sysModules)=false/\
 ∃xs,KT H kvs xs/\h.DictOfH (tupleKind (b8 P w)) a xs:=by
 obtain⟨z,y,xs,r,o,es,ep,h1,h2,h3,h4,h5⟩:=(show ObjOk P w H h a (.dT kvs)from Ub ok e);refine⟨z,y,xs,r,o,es,ep,h1,h2,h3,h4,λx hx=>?_,h5⟩;have all:∀{l:List (List Key×V)}{m:List (List Key×Addr×Value)},KT H l m->∀x∈m,(tupleKind (b8 P w)).is h x.1 x.2.1:=by
  intro l m q;induction q with
  |nil=>intro x hx;exact nomatch hx|@cons p q ps qs hq t ih=>
    intro x hx;rcases ZP.mp hx with e|hx
    ·subst e;exact pZ ok (by rw[<-hq.1];exact hq.2.1)
    ·exact ih x hx
 exact all r x hx
theorem XQ{kvs:List (List Key×V)}(ok:HOk P w H h)(e:H a=some (.dT kvs)):kvs.length<=sizeLine/\(a==sysModules)=false/\
 ∃xs,KT H kvs xs/\h.DictOfH (tupleKind (b8 P w)) a xs:=xX ok (.inl e)
end
def DR(H:Hp)(a:Addr)(y:V)(r:Option V):Prop:=
 (∃kvs k,Rd H a (.dK kvs)/\y=kV k/\r=fO kvs k)\/∃kvs k b,Rd H a (.dT kvs)/\y=.ref b/\H b=some (.tup (k.map kV))/\r=fO kvs k
def DPut(H:Hp)(a:Addr)(y v:V)(H':Hp):Prop:=
 (∃kvs k,H a=some (.dK kvs)/\y=kV k/\kvs.length<sizeLine/\H'=upd H a (.dK (putK kvs k v)))\/
 ∃kvs k b,H a=some (.dT kvs)/\y=.ref b/\H b=some (.tup (k.map kV))/\kvs.length<sizeLine/\H'=upd H a (.dT (putK kvs k v))
theorem DPut.k{H:Hp}{a:Addr}{kvs:List (Key×V)}{k:Key}{v:V}(e:H a=some (.dK kvs))(hl:kvs.length<sizeLine):DPut H a (kV k) v (upd H a (.dK (putK kvs k v))):=.inl ⟨kvs,k,e,rfl,hl,rfl⟩
theorem DPut.t{H:Hp}{a b:Addr}{kvs:List (List Key×V)}{k:List Key}{v:V}(e:H a=some (.dT kvs))(eb:H b=some (.tup (k.map kV)))(hl:kvs.length<sizeLine):
 DPut H a (.ref b) v (upd H a (.dT (putK kvs k v))):=.inr ⟨kvs,k,b,e,rfl,eb,hl,rfl⟩
section
variable{X:Cx}{pins:List (Addr×Obj)}{σ:St}{H:Hp}{s:Shared}{a:Addr}{y v:V}{u r:Value}{o:Option V}{A:Around}{E:Value->Shared->Prop}
theorem Inv.big(I:Inv X pins σ H s):sysModules<s.heap.objs.size:=by
 have h:mainGlobals<s.heap.objs.size:=(I.mod.glob.keeps I.bk).lt;exact Nat.lt_trans (by decide) h
theorem K5{Q:Value->Shared->Prop}(hu:A.units+1<cLine)(I:Inv X pins σ H s)(g:DR H a y (some v))(ry:RelV y u)(h:∀w' s',Inv X pins σ H s'->RelV v w'->Q w' s'):
 wpAny (model X.prog X.w) A (getItem (.ref a) u) Q E s:=by
 rcases g with⟨kvs,k,e,ey,l⟩|⟨kvs,k,b,e,ey,eb,l⟩
 ·subst ey;obtain⟨z,hd,vs,rel,dd⟩:=uc I.hok e;obtain⟨w',hw,rw'⟩:=RelO.some_of (v:=v) (o:=valueAt vs k) (by rw[l];exact rel.val k);exact wpAny_getItem_of (vH ry) dd.mapOf hw (h w' _ (I.tok _) rw')
 ·subst ey;cases(show u=Value.ref b from ry);obtain⟨z,hd,xs,rel,dd⟩:=xX I.hok e;obtain⟨w',hw,rw'⟩:=RelO.some_of (v:=v) (o:=(atKey xs k).map (·.2)) (by rw[l];exact rel.val k);obtain⟨p,hp,hp2⟩:=abW.mp hw;refine wpAny_getItem_heap (ac1 hu) (pZ I.hok eb) dd hp ?_;rw[hp2];exact h w' _ (I.tok _) rw'
theorem Tq{Q:Value->Shared->Prop}(hu:A.units+1<cLine)(I:Inv X pins σ H s)(g:DR H a y o)(ry:RelV y u)(h:∀s',Inv X pins σ H s'->Q (.bool (!o.isSome)) s'):
 wpAny (model X.prog X.w) A (compareOp .NotIn u (.ref a)) Q E s:=by
 rcases g with⟨kvs,k,e,ey,l⟩|⟨kvs,k,b,e,ey,eb,l⟩
 ·subst ey;obtain⟨z,hd,vs,rel,dd⟩:=uc I.hok e;refine wpAny_notIn_of (vH ry) hd dd.mapOf ?_;rw[<-(rel.val k).isSome_eq,<-l];exact h _ (I.tok _)
 ·subst ey;cases(show u=Value.ref b from ry);obtain⟨z,hd,xs,rel,dd⟩:=xX I.hok e;refine wpAny_notIn_heap (ac1 hu) (pZ I.hok eb) hd dd ?_;have q:=(rel.val k).isSome_eq;rw[Option.isSome_map]at q;rw[<-q,<-l];exact h _ (I.tok _)
theorem rJ{h':Heap}{t':Nat}{ob:HO}(I:Inv X pins σ H s)(mu:Ww (H a))(hs:Heap.SameBut a s.heap h')(he:∃q,h'.get? a=some q)(new:ObjOk X.prog X.w (upd H a ob) h' a ob):
 Inv X pins σ (upd H a ob) {s with heap:=h',toks:=t'}:=
 I.write (x:=a) (e:=a) mu (.inl rfl) (λb q hb z=>(hs.2 b hb).trans z) he new
theorem zE{P:Program}{w:World}{H':Hp}{h':Heap}{kvs:List (Key×V)}{vs:List (Key×Value)}(z:kvs.length<=sizeLine)(hd:(a==sysModules)=false)(rel:KV kvs vs)(dd:h'.DictOf (b8 P w) a vs):
 ObjOk P w H' h' a (.dK kvs):=⟨z,hd,vs,rel,dd⟩
theorem K4{H':Hp}{Q:Unit->Shared->Prop}(hu:A.units+1<cLine)(I:Inv X pins σ H s)(g:DPut H a y v H')(ry:RelV y u)(rv:RelV v r)(h:∀s',Inv X pins σ H' s'->Q () s'):
 wpAny (model X.prog X.w) A (setItem (.ref a) u r) Q E s:=by
 rcases g with⟨kvs,k,e,ey,l,eH⟩|⟨kvs,k,b,e,ey,eb,l,eH⟩
 ·subst ey eH;obtain⟨z,hd,vs,rel,dd⟩:=Je I.hok e;have hz:vs.length<=sizeLine:=by rw[<-rel.length];exact z
  have hl:(putK kvs k v).length<=sizeLine:=by have:=j0 kvs k v;omega
  refine wpAny_setItem_pairs (hsz:=hz) (vH ry) dd λh' dd' hs=>h _ ?_;have he:∃q,h'.get? a=some q:=let ⟨q,_,_,hq,_⟩:=dd';⟨q,hq⟩
  exact rJ I (by rw[e];exact True.intro) hs he (zE hl hd (rel.put k rv) dd')
 ·subst ey eH;cases(show u=Value.ref b from ry);obtain⟨z,hd,xs,rel,dd⟩:=XQ I.hok e;have hz:xs.length<=sizeLine:=by rw[<-adu rel];exact z
  have hl:(putK kvs k v).length<=sizeLine:=by have:=j0 kvs k v;omega
  refine wpAny_setItem_heap (hsz:=hz) (ac1 hu) (pZ I.hok eb) dd λh' dd' hs=>h _ ?_;obtain⟨q,es,ep,hq,h2,h3,h4,_,h5⟩:=dd';refine rJ I (by rw[e];exact True.intro) hs ⟨q,hq⟩ ⟨hl,hd,_,(rel.put k eb rv).keeps λc ys ec=>?_,q,es,ep,hq,h2,h3,h4,h5⟩;rw[aR (Xn ec e (λz=>nomatch z))];exact ec
end
section
variable{X:Cx}{pins:List (Addr×Obj)}{σ:St}{H:Hp}{s:Shared}{a:Addr}{kvs:List (Key×V)}{k:Key}{u:Value}{A:Around}{E:Value->Shared->Prop}
end
def Wr(i:Expr):Prop:=∀ov iv,subscripted i false ov iv=operate [ov,iv] (getItem ov iv)
theorem Rc{prog:Program}{w:World}{A:Around}{E:Value->Shared->Prop}{s:Shared}{env:Env}{value slice:Expr}{pos:Pos}{T id:String}{Q:Value->Shared->Prop}
 (hl:typeLookup (.type T) "__getitem__"=pure (some (.builtin id))) (hs:Wr slice)
 (h:wpAny (model prog w) A (eval value env) (λo s₁=>wpAny (model prog w) A (eval slice env) (λi s₂=>s₂.TypeIs o T/\wpAny (model prog w) A (getItem o i) Q E s₂) E s₁) E s):
 wpAny (model prog w) A (eval (.Subscript value slice pos) env) Q E s:=by
 refine Subscript_ (aa5 h (λo s₁ h₁=>aa5 h₁ (λi s₂ h₂=>?_) λ_ _ x=>x) λ_ _ x=>x);obtain⟨hT,h₂⟩:=h₂;unfold subscriptTail;refine vz ?_;rw[getitemInPython_of_ne hT.not_modules];refine vz (adG hT hl ?_);have fin:wpAny (model prog w) A (subscripted slice false o i) (λr s₃=>wpAny (model prog w) A (letTemporaryGo value o r >>= λ_=>pure r) Q E s₃) E s₂:=by
  rw[hs o i];exact wpAny_operating (aa5 h₂ (λr s₃ h₃=>vz (wpAny_letTemporaryGo (ZC h₃))) λ_ _ x=>x)
 first
  |exact ZC (vz fin)
  |exact vz (ZC (vz fin))
  |exact vz fin
theorem Dh{X:Cx}{pins:List (Addr×Obj)}{σ:St}{H:Hp}{s:Shared}{a:Addr}{y:V}{o:Option V}(I:Inv X pins σ H s)(g:DR H a y o):s.TypeIs (.ref a) "dict":=by
 rcases g with⟨kvs,k,e,_,_⟩|⟨kvs,k,b,e,_,_,_⟩
 ·obtain⟨_,_,vs,_,dd⟩:=uc I.hok e;exact dd.typeIs
 ·obtain⟨_,_,xs,_,dd⟩:=xX I.hok e;exact dd.typeIs
noncomputable def WY(td ty:TE):TE:=λσ H Q=>td σ H λx H1=>ty σ H1 λy H2=>∃a v,x=.ref a/\DR H2 a y (some v)/\Q v H2
noncomputable def Rb(ty td:TE):TE:=λσ H Q=>ty σ H λy H1=>td σ H1 λx H2=>∃a o,x=.ref a/\DR H2 a y o/\Q (.bl (!o.isSome)) H2
noncomputable def W2(td ty tv:TE):TS:=λD σ H=>tv σ H λv H1=>td σ H1 λx H2=>ty σ H2 λy H3=>∃a H4,x=.ref a/\DPut H3 a y v H4/\D.nx σ H4
section
variable{X:Cx}{o i e value:Expr}{pos pos' tpos:Pos}{td ty tv:TE}
theorem RQ(hu:X.A.units+1<cLine)(ho:PE X o td)(hi:PE X i ty)(hs:Wr i):PE X (.Subscript o i pos) (WY td ty):=by
 intro pins s σ H Q I h;refine Rc PySem.F.slot_dict_getitem.lookup hs (cW (ho pins s σ H _ I h) λu s1 ⟨x,H1,I1,rx,q1⟩=>cW (hi pins s1 σ H1 _ I1 q1) λiv s2 ⟨y,H2,I2,ry,a,v,ex,g,q2⟩=>?_);subst ex;obtain rfl:u=Value.ref a:=rx;exact⟨Dh I2 g,K5 hu I2 g ry λw' s3 I3 rw'=>⟨v,H2,I3,rw',q2⟩⟩
theorem Kf(hu:X.A.units+1<cLine)(hi:PE X i ty)(ho:PE X o td):PC X .NotIn i o (Rb ty td):=by
 intro pins s σ H Q I h;refine cW (hi pins s σ H _ I h) λiv s1 ⟨y,H1,I1,ry,q1⟩=>cW (ho pins s1 σ H1 _ I1 q1) λu s2 ⟨x,H2,I2,rx,a,ov,ex,g,q2⟩=>?_;subst ex;obtain rfl:u=Value.ref a:=rx;exact Tq hu I2 g ry λs3 I3=>⟨.bl (!ov.isSome),H2,I3,rfl,q2⟩
theorem Hy(hu:X.A.units+1<cLine)(ho:PE X o td)(hi:PE X i ty)(hv:PE X value tv)(hs:swapsWith value (some (.Subscript o i pos')) pos.line X.env=pure false):
 PS X (.Assign [.Subscript o i pos'] value pos) (W2 td ty tv):=by
 intro pins s σ H D I h;refine wpAny_Assign_Subscript (cW (hv pins s σ H _ I h) λr s1 ⟨v,H1,I1,rv,q1⟩=>cW (ho pins s1 σ H1 _ I1 q1) λu s2 ⟨x,H2,I2,rx,q2⟩=>cW (hi pins s2 σ H2 _ I2 q2) λiv s3 ⟨y,H3,I3,ry,a,H4,ex,g,q3⟩=>?_) hs;subst ex;obtain rfl:u=Value.ref a:=rx;exact K4 hu I3 g ry rv λs4 I4=>⟨σ,H4,I4,q3⟩
end
theorem Dg{P:Program}{w:World}{H:Hp}(h:Heap)(hb:sysModules<h.objs.size):ObjOk P w H (h.push {cls:=.type "dict",data:=.dict #[]}) h.objs.size (.dK []):=
 ⟨aap _,adJ.mpr (aal (Z1 hb)),[],.nil,Heap.DictOf.new h⟩
theorem Pz{P:Program}{w:World}{H:Hp}(h:Heap)(hb:sysModules<h.objs.size):ObjOk P w H (h.push {cls:=.type "dict",data:=.dict #[]}) h.objs.size (.dT []):=
 ⟨aap _,adJ.mpr (aal (Z1 hb)),[],.nil,_,#[],0,ZR _ rfl,⟨rfl,rfl,rfl⟩,rfl,rfl,acr⟩
def Ml:TE:=λ_ H Q=>∀p,H p=none->Q (.ref p) (upd H p (.dK []))
def UW:TE:=λ_ H Q=>∀p,H p=none->Q (.ref p) (upd H p (.dT []))
section
variable{X:Cx}{pos:Pos}
theorem NK:PE X (.Dict [] [] pos) Ml:=λpins s σ H Q I h=>
 wpAny_Dict_empty ⟨.ref s.heap.objs.size,_,I.laid (a:=s.heap.objs.size) (o:=.dK []) (t':=s.toks) (λ_ _ q=>Zz _ q) (ZS _) (Dg s.heap I.big),rfl,h _ (I.hok.fresh (ZS _))⟩
theorem NB:PE X (.Dict [] [] pos) UW:=λpins s σ H Q I h=>
 wpAny_Dict_empty ⟨.ref s.heap.objs.size,_,I.laid (a:=s.heap.objs.size) (o:=.dT []) (t':=s.toks) (λ_ _ q=>Zz _ q) (ZS _) (Pz s.heap I.big),rfl,h _ (I.hok.fresh (ZS _))⟩
end
noncomputable def Ek:List (TE×TE)->St->Hp->(List (V×V)->Hp->Prop)->Prop
 |[],_,H,Q=>Q [] H|(tk,tv)::r,σ,H,Q=>tk σ H λx H1=>tv σ H1 λy H2=>Ek r σ H2 λps H3=>Q ((x,y)::ps) H3
abbrev VV:List (V×V)->List (Value×Value)->Prop:=Paired λp q=>RelV p.1 q.1/\RelV p.2 q.2
def Yk(X:Cx)(pos:Pos)(keys:List (Option Expr))(values:List Expr)(trs:List (TE×TE)):Prop:=
 ∀(pins:List (Addr×Obj))(s:Shared)(σ:St)(H:Hp)(Q:List (V×V)->Hp->Prop),Inv X pins σ H s->Ek trs σ H Q->
  wpAny (model X.prog X.w) X.A (evalPairs (pairTrees keys values X.env pos)) (λvs s'=>∃ps H',Inv X pins σ H' s'/\VV ps vs/\Q ps H') X.xe s
theorem RB{X:Cx}{pos:Pos}:Yk X pos [] [] []:=λpins s σ H Q I h=>pairTrees_nil_walk ⟨[],H,I,.nil,h⟩
theorem Nr{X:Cx}{pos:Pos}{k v:Expr}{ks:List (Option Expr)}{vs:List Expr}{tk tv:TE}{trs:List (TE×TE)}(hk:PE X k tk)(hv:PE X v tv)(hr:Yk X pos ks vs trs):
 Yk X pos (some k::ks) (v::vs) ((tk,tv)::trs):=λpins s σ H Q I h=>
 pairTrees_cons_walk (cW (hk pins s σ H _ I h) λu s1 ⟨x,H1,I1,rx,q1⟩=>cW (hv pins s1 σ H1 _ I1 q1) λw2 s2 ⟨y,H2,I2,ry,q2⟩=>
  cW (hr pins s2 σ H2 _ I2 q2) λws s3 ⟨ps,H3,I3,rel,q3⟩=>⟨(x,y)::ps,H3,I3,.cons ⟨rx,ry⟩ rel,q3⟩)
def jK(kvs more:List (Key×V)):List (Key×V):=more.foldl (λacc kv=>putK acc kv.1 kv.2) kvs
theorem KV.merge:∀{more:List (Key×V)}{rs:List (Key×Value)}{kvs:List (Key×V)}{vs:List (Key×Value)},KV more rs->KV kvs vs->KV (jK kvs more) (merged vs rs):=by
 intro more rs kvs vs r;unfold KV at r;induction r generalizing kvs vs with
 |nil=>intro q;exact q|@cons p q ps qs h t ih=>
   intro r0;have e:KV (putK kvs p.1 p.2) (stored vs q.1 q.2):=by
    have:=r0.put p.1 h.2;rw[<-h.1];exact this
   exact ih e
theorem kE:∀(more kvs:List (Key×V)),(jK kvs more).length<=kvs.length+more.length
 |[],kvs=>by show kvs.length<=kvs.length+0;omega|p::r,kvs=>by
   have h1:=kE r (putK kvs p.1 p.2);have h2:=j0 kvs p.1 p.2;show(jK (putK kvs p.1 p.2) r).length<=_;rw[Z2];omega
theorem v7{P:Program}{w:World}:∀{kvs:List (Key×V)}{ws:List (Value×Value)},VV (kvs.map λkv=>(kV kv.1,kv.2)) ws->∃rs,Carries (b8 P w) ws rs/\KV kvs rs
 |[],_,r=>by rw[aa4]at r;cases r;exact⟨[],True.intro,.nil⟩|p::kvs,_,r=>by
   rw[ZD]at r;cases r with
   |@cons a b as bs h t=>
     obtain⟨rs,c,q⟩:=v7 (P:=P) (w:=w) t;obtain⟨b1,b2⟩:=b;exact⟨(p.1,b2)::rs,⟨vH h.1,rfl,c⟩,.cons ⟨rfl,h.2⟩ q⟩
def WW(trs:List (TE×TE)):TE:=λσ H Q=>∀p,H p=none->Ek trs σ (upd H p (.dK [])) λps H2=>H2 p=some (.dK [])/\∃kvs:List (Key×V),ps=kvs.map (λkv=>(kV kv.1,kv.2))/\kvs.length<=15/\Q (.ref p) (upd H2 p (.dK (jK [] kvs)))
theorem RP{X:Cx}{pos:Pos}{keys:List (Option Expr)}{values:List Expr}{trs:List (TE×TE)}(h:Yk X pos keys values trs)(hall:keys.all (·.isSome)=true)(hl:keys.length=values.length)(h0:keys≠[])
 (h15:keys.length<=15):PE X (.Dict keys values pos) (WW trs):=by
 intro pins s σ H Q I q;have hn:=I.hok.fresh (ZS s.heap.objs.size);have I1:=I.laid (a:=s.heap.objs.size) (o:=.dK []) (h':=s.heap.push {cls:=.type "dict",data:=.dict #[]}) (t':=s.toks) (λ_ _ q=>Zz _ q) (ZS _) (Dg s.heap I.big);refine wpAny_Dict_walk (knd:=b8 X.prog X.w) hall hl h0 h15 (cW (h pins _ σ _ _ I1 (q _ hn)) λws s2 ⟨ps,H2,I2,rel,e,kvs,ep,lk,q2⟩=>?_);subst ep;obtain⟨rs,c,rk⟩:=v7 (P:=X.prog) (w:=X.w) rel;obtain⟨z,hd,vs0,r0,dd⟩:=Je I2.hok e;cases r0;refine⟨rs,c,dd,λh' dd' hs=>⟨.ref s.heap.objs.size,_,?_,rfl,q2⟩⟩;have hz:(jK [] kvs).length<=sizeLine:=by
  have h1:=kE kvs [];rw[aba]at h1;rw[aaL];omega
 have he:∃q,h'.get? s.heap.objs.size=some q:=let ⟨q,_,_,hq,_⟩:=dd';⟨q,hq⟩
 exact rJ I2 (by rw[e];exact True.intro) hs he (zE hz hd (rk.merge .nil) dd')
structure M1(X:Cx)(o:Expr)(m:Str)(apos:Pos)(e:Expr)(cpos:Pos):Prop where
 base:attributeBase o m X.env (eval o X.env)=eval o X.env
 few:((backTo cpos (starEach [e] X.env)).all (λx => !x.1)&&(backToKw cpos (keywordEach [] X.env)).all (λx=>x.1.isSome)
  && decide (([e]:List Expr).length+([]:List Keyword).length+(if([]:List Keyword).isEmpty then 0 else 1)<30))=true
 line:(apos.endLine==cpos.line)=true
 trees:backTo cpos (starEach [e] X.env)=[(false,eval e X.env)]
structure M2(X:Cx)(o:Expr)(m:Str)(apos:Pos)(e f:Expr)(cpos:Pos):Prop where
 base:attributeBase o m X.env (eval o X.env)=eval o X.env
 few:((backTo cpos (starEach [e,f] X.env)).all (λx => !x.1)&&(backToKw cpos (keywordEach [] X.env)).all (λx=>x.1.isSome)
  && decide (([e,f]:List Expr).length+([]:List Keyword).length+(if([]:List Keyword).isEmpty then 0 else 1)<30))=true
 line:(apos.endLine==cpos.line)=true
 trees:backTo cpos (starEach [e,f] X.env)=[(false,eval e X.env),(false,eval f X.env)]
def Yn(H:Hp)(a:Addr):Prop:=(∃kvs,Rd H a (.dK kvs))\/∃kvs,Rd H a (.dT kvs)
theorem Gb{X:Cx}{pins:List (Addr×Obj)}{σ:St}{H:Hp}{s:Shared}{a:Addr}(I:Inv X pins σ H s)(d:Yn H a):
 s.TypeIs (.ref a) "dict"/\(∀b,Value.ref a=.ref b->∃ob,s.heap.get? b=some ob/\ob.dict=none)/\(a==sysModules)=false:=by
 rcases d with⟨kvs,e⟩|⟨kvs,e⟩
 ·obtain⟨_,hd,vs,_,dd⟩:=uc I.hok e;refine⟨dd.typeIs,λb q=>?_,hd⟩;cases q;obtain⟨ob,_,_,h1,h2,_⟩:=dd;exact⟨ob,h1,h2.2.1⟩
 ·obtain⟨_,hd,xs,_,dd⟩:=xX I.hok e;refine⟨dd.typeIs,λb q=>?_,hd⟩;cases q;obtain⟨ob,_,_,h1,h2,_⟩:=dd;exact⟨ob,h1,h2.2.1⟩
section
variable{X:Cx}{pins:List (Addr×Obj)}{σ:St}{H:Hp}{s:Shared}{a:Addr}{y d:V}{u r:Value}{o:Option V}{A:Around}{E:Value->Shared->Prop}
theorem Wc{Q:Value->Shared->Prop}(hu:A.units+1<cLine)(I:Inv X pins σ H s)(g:DR H a y o)(ry:RelV y u)(rd:RelV d r)(h:∀w' s',Inv X pins σ H s'->RelV (o.getD d) w'->Q w' s'):
 wpAny (model X.prog X.w) A (call (.builtin "dict.get") [.ref a,u,r]) Q E s:=by
 rcases g with⟨kvs,k,e,ey,l⟩|⟨kvs,k,b,e,ey,eb,l⟩
 ·subst ey;obtain⟨z,hd,vs,rel,dd⟩:=uc I.hok e;refine aez adn dd.typeIs aeA (aem _ _ _) (meets_dict_get_default (b8 X.prog X.w) a (vH ry) hd r) ⟨_,dd.mapOf,h _ _ (I.tok _) ?_⟩;rw[l];exact(rel.val k).getD rd
 ·subst ey;cases(show u=Value.ref b from ry);obtain⟨z,hd,xs,rel,dd⟩:=xX I.hok e;refine aez adn dd.typeIs aeA (aem _ _ _) (meetsH_dict_get_default (tupleKind (b8 X.prog X.w)) a b hd r) ⟨ac1 hu,k,xs,pZ I.hok eb,dd,h _ _ (I.tok _) ?_⟩;rw[l];exact(rel.val k).getD rd
end
noncomputable def U0(td ty tx:TE):TE:=λσ H Q=>td σ H λx H1=>∃a,x=.ref a/\Yn H1 a/\ty σ H1 λy H2=>tx σ H2 λz H3=>∃o,DR H3 a y o/\Q (o.getD z) H3
section
variable{X:Cx}{o e f:Expr}{apos cpos:Pos}{td ty tx:TE}
theorem NP(hu:X.A.units+1<cLine)(ho:PE X o td)(he:PE X e ty)(hf:PE X f tx)(m:M2 X o "get" apos e f cpos):PE X (.Call (.Attribute o "get" apos) [e,f] [] cpos) (U0 td ty tx):=by
 intro pins s σ H Q I h;refine ad5 m.base m.few m.line ac7 adn PySem.F.type_dict_get (cW (ho pins s σ H _ I h) λu s1 ⟨x,H1,I1,rx,a,ex,d,q1⟩=>?_);subst ex;obtain rfl:u=Value.ref a:=rx;obtain⟨t1,t2,_⟩:=Gb I1 d;refine⟨t1,t2,?_⟩;rw[m.trees];refine acu rfl (acI (abr (cW (he pins s1 σ H1 _ I1 q1) λiv s2 ⟨y,H2,I2,ry,q2⟩=>
  abr (cW (hf pins s2 σ H2 _ I2 q2) λfv s3 ⟨z,H3,I3,rz,ov,g,q3⟩=>acb ?_))))
 exact Wc hu I3 g ry rz λw' s4 I4 rw'=>⟨_,H3,I4,rw',q3⟩
end
section
variable{X:Cx}{pins:List (Addr×Obj)}{σ:St}{H:Hp}{s:Shared}{a:Addr}{kvs:List (Key×V)}{A:Around}{E:Value->Shared->Prop}
end
section
variable{X:Cx}{pins:List (Addr×Obj)}{σ:St}{H:Hp}{s:Shared}{a:Addr}{y:V}{u:Value}{A:Around}{E:Value->Shared->Prop}
end
end L2
namespace DL
open PySem PySem.Spec PyProof.Rows L2
theorem pZ{d:D}(h:isKey d=true):∃k,d=kD k:=by
 cases d with
 |int i=>exact⟨.inl i,rfl⟩|str x=>exact⟨.inr x,rfl⟩|_=>cases h
theorem Im:∀{ds:List D},ds.all isKey=true->∃ks:List Key,ds=ks.map kD
 |[],_=>⟨[],rfl⟩|d::ds,h=>by
   rw[aeY,aac]at h;obtain⟨k,rfl⟩:=pZ h.1;obtain⟨ks,rfl⟩:=Im h.2;exact⟨k::ks,rfl⟩
theorem zr{d:D}(h:sY d=true):∃ks,d=kT ks:=by
 cases d with
 |tup ds=>obtain⟨ks,rfl⟩:=Im h;exact⟨ks,rfl⟩
 |_=>cases h
theorem Jh{K:PySem.W.Frag}{B:Hp}(k:Key):Den K B (kD k) (kV k):=by
 cases k with
 |inl i=>exact .int i|inr x=>exact .str x
theorem xZ{K:PySem.W.Frag}{B:Hp}:∀(ks:List Key),Dens K B (ks.map kD) (ks.map kV)
 |[]=>.nil|k::ks=>.cons (Jh k) (xZ ks)
theorem iQ{K:PySem.W.Frag}{B:Hp}:∀{ks:List Key}{xs:List V},Dens K B (ks.map kD) xs->xs=ks.map kV
 |[],_,h=>h.unnil|k::ks,_,h=>by
   obtain⟨x,r,rfl,h1,h2⟩:=h.uncons;rw[iQ h2];cases k with
   |inl i=>rw[Den.int_inv h1];rfl|inr z=>rw[Den.str_inv h1];rfl
section
variable{X:Cx}{pins:List (Addr×Obj)}{σ:L2.St}{H:Hp}{s:Shared}
theorem Inv.still{a:Addr}{u:HO}(I:L2.Inv X pins σ H s)(hu:(∃kvs,u=.dK kvs)\/∃kvs,u=.dT kvs)(e:H a=some u):∃o,L2.Inv X pins σ (upd H a (.frz o u)) s:=by
 obtain⟨o,ho⟩:∃o,s.heap.get? a=some o:=by
  have:=(I.hok a u e);rcases hu with⟨kvs,rfl⟩|⟨kvs,rfl⟩
  ·obtain⟨_,_,_,_,o,_,_,q,_⟩:=this;exact⟨o,q⟩
  ·obtain⟨_,_,_,_,o,_,_,q,_⟩:=this;exact⟨o,q⟩
 have mu:Ww (H a):=by rw[e];rcases hu with⟨kvs,rfl⟩|⟨kvs,rfl⟩<;>exact True.intro
 have ne:∀{b:Addr}{v:HO},H b=some v->(∀z,v≠.dK z)->(∀z,v≠.dT z)->b≠a:=λ{b v} q n1 n2 z=>by
  subst z;rw[e]at q;cases q;rcases hu with⟨kvs,rfl⟩|⟨kvs,rfl⟩
  ·exact n1 _ rfl
  ·exact n2 _ rfl
 have st:ObjOk X.prog X.w (upd H a (.frz o u)) s.heap a u:=(I.hok a u e).stay (λ_ _ _ q=>q) (λb q=>by rw[aR (ne q (λ_ z=>nomatch z) (λ_ z=>nomatch z))];exact q) λb xs q=>by rw[aR (ne q (λ_ z=>nomatch z) (λ_ z=>nomatch z))];exact q
 have:=I.write (o:=.frz o u) (t':=s.toks) (h':=s.heap) mu (.inl rfl) (λ_ _ _ q=>q) ⟨o,ho⟩ ⟨ho,st⟩;exact⟨o,this⟩
end
section
variable{X:Cx}{e k a b o:Expr}{me mk ma mb mo:ME}{m:MS}{PX:Prop}{pos p2 p3 pos':Pos}{elts:List Expr}{kt:Nat}
theorem PL:DF X (.Dict [] [] pos) (eC (.dic true [] [])):=by
 refine⟨_,NB,λos σ H δ d Q s m k p hp=>?_⟩;cases m;exact k p _ (bB hp _) hp ⟨[],.inr ⟨rfl,[],aY,rfl,rfl⟩,.nil⟩
theorem vW{n i:Nat}{sts:List Stmt}(hn:X.N.length=n)(hi:i<n)(hfn:X.fn ""=true)(h:DQ X PX sts m):DQ X PX sts (Be n i m):=by
 obtain⟨t,p,q⟩:=h;refine⟨λD σ H=>∃a u,((∃kvs,u=.dK kvs)\/∃kvs,u=.dT kvs)/\H a=some u/\∀o,t D σ (upd H a (.frz o u)),λpins s σ H D I hh=>?_,λos σ H δ r D s me k=>?_⟩
 ·obtain⟨a,u,hu,e,hh⟩:=hh;obtain⟨o,I'⟩:=Inv.still I hu e;exact p pins s σ _ D I' (hh o)
 ·unfold Be at me;split at me
  ·rename_i tt ks vs ho;obtain⟨h1,h2,a,e1,e2,e3,xs,hd,hv⟩:=s.own_at hn hi ho;obtain⟨u,hu,ea,hF⟩:∃u,((∃kvs,u=HO.dK kvs)\/∃kvs,u=HO.dT kvs)/\H a=some u/\∀(o:Obj)(B:Hp),B a=some (.frz o u)->DcF B a tt ks xs:=by
    rcases hd with⟨rfl,kvs,z,r⟩|⟨rfl,kvs,z,r⟩
    ·exact⟨_,.inl ⟨kvs,rfl⟩,z,λo B hB=>.inl ⟨rfl,o,kvs,hB,r⟩⟩
    ·exact⟨_,.inr ⟨kvs,rfl⟩,z,λo B hB=>.inr ⟨rfl,o,kvs,hB,r⟩⟩
   refine⟨a,u,hu,ea,λo=>?_⟩;subst hn;generalize hH:upd H a (.frz o u)=H1;have H1a:H1 a=some (.frz o u):=by rw[<-hH];exact aY
   have H1n:∀{b:Addr},b≠a->H1 b=H b:=λ{b} z=>by rw[<-hH];exact aR z
   have mem:∀b,b∈os.filter (λc=>decide (c≠a))↔b∈os/\b≠a:=λb=>by simp
   have na:a∉os.filter (λc=>decide (c≠a)):=λz=>((mem a).mp z).2 rfl;have big:Same (hide os H) (hide (os.filter (λc=>decide (c≠a))) H1):=λb v z=>by
    have hb:b∉os:=λy=>by rw[cg y]at z;cases z
    rw[aL hb]at z;rw[aL (λy=>hb ((mem b).mp y).1),H1n (λy=>hb (by rw[y];exact e2))];exact z
   have hid:i<δ.length:=ZX hi s.len;have hid2:X.N.length+i<δ.length:=(ZV.mp h2).1;have off:∀{j:Nat},j≠i->j≠X.N.length+i->((δ.set i (some (.dic tt ks vs))).set (X.N.length+i) none)[j]? = δ[j]?:=λ{j} q1 q2=>by
    rw[ZQ (aal q2),ZQ (aal q1)]
   have nT:((δ.set i (some (DL.D.dic tt ks vs))).set (X.N.length+i) none)[i]? = some (some (.dic tt ks vs)):=by
    rw[ZQ (by omega),Z9 hid]
   have sl:Sl X (os.filter (λc=>decide (c≠a))) H1 ((δ.set i (some (.dic tt ks vs))).set (X.N.length+i) none) σ:=by
    refine⟨s.n,by simpa using s.len,λj d hj q=>?_,λj d hj q1 q2=>?_,λj l d f b hj hl q1 q2 q3 q4 q5 q6=>?_,λb hb=>?_,λb v z=>?_⟩
    ·by_cases hji:j=i
     ·subst hji;rw[nT]at q;cases q;exact⟨_,e1,.dic (hF o _ ((aL na).trans H1a)) (hv.mono big _ _)⟩
     ·rw[off hji (by omega)]at q;obtain⟨v,r1,r2⟩:=s.pl j d hj q;exact⟨v,r1,r2.mono big _ _⟩
    ·by_cases hji:j=i
     ·subst hji;rw[nT]at q1;cases q1
     ·rw[off hji (by omega)]at q1;rw[off (by omega) (by omega)]at q2;obtain⟨b,r1,r2,r3,r4⟩:=s.ow j d hj q1 q2;have hba:b≠a:=λz=>by
       subst z;exact hji (s.inj j i d _ b hj hi q1 h1 q2 h2 r1 e1)
      refine⟨b,r1,(mem b).mpr ⟨r2,hba⟩,r3,?_⟩;cases d with
      |lst ds=>obtain⟨xs,w1,w2⟩:=r4;exact⟨xs,(H1n hba).trans w1,w2.mono big _ _⟩
      |dic t' ks vs=>
        obtain⟨xs,w1,w2⟩:=r4;refine⟨xs,?_,w2.mono big _ _⟩;rcases w1 with⟨z,kvs,w1,r⟩|⟨z,kvs,w1,r⟩
        ·exact .inl ⟨z,kvs,(H1n hba).trans w1,r⟩
        ·exact .inr ⟨z,kvs,(H1n hba).trans w1,r⟩
      |_=>exact r4
    ·by_cases hji:j=i
     ·subst hji;rw[nT]at q1;cases q1
     ·by_cases hki:l=i
      ·subst hki;rw[nT]at q2;cases q2
      ·rw[off hji (by omega)]at q1;rw[off hki (by omega)]at q2;rw[off (by omega) (by omega)]at q3 q4;exact s.inj j l d f b hj hl q1 q2 q3 q4 q5 q6
    ·obtain⟨y1,y2⟩:=(mem b).mp hb;obtain⟨v,z1,z2⟩:=s.live b y1;exact⟨v,(H1n y2).trans z1,z2⟩
    ·have hb:b≠a:=λy=>by
      have:=e3 hfn;rw[y,this]at z;cases z
     exact(H1n hb).trans (s.keep b v z)
   refine q _ σ H1 _ r D sl me (k.mono ⟨big,λb hb hn=>?_⟩);refine(mem b).mpr ⟨hb,λy=>hn (by rw[y];exact e3 hfn)⟩
  ·cases me
theorem Ec{kvs:List (List Key×V)}{kk:List Key}(h:((kvs.map λp=>kT p.1).all λq => !dW q (kT kk))=true):fO kvs kk=none:=by
 cases hv:fO kvs kk with
 |none=>rfl|some v=>
   exfalso;unfold fO at hv;obtain⟨p,hp,_⟩:=abW.mp hv;have hm:=adZ hp;have hk:=List.find?_some hp;simp only[Z7]at hk;have:=aaM.mp h (kT p.1) (Z5.mpr ⟨p,hm,rfl⟩);rw[hk,jO]at this;cases this
theorem S8{n i:Nat}(hu:X.A.units+1<cLine)(hn:X.N.length=n)(hi:i<n)(hfn:X.fn ""=true)(hv:PE X o (fC i))(hk:DE X k mk)(he:DE X e me)
 (hs:swapsWith e (some (.Subscript o k pos')) pos.line X.env=pure false:=by rfl):DS X PX (.Assign [.Subscript o k pos'] e pos) (Mx n i mk me):=by
 obtain⟨te,pe,qe⟩:=he;obtain⟨tk,pk,qk⟩:=hk;refine⟨_,Hy hu hv pk pe hs,λos σ H δ r D s m kq=>?_⟩;obtain⟨y,e1,m⟩:=ao m;obtain⟨z,e2,m⟩:=ao m;split at m
 ·rename_i ks vs ho;split at m
  ·rename_i hc;cases m;obtain⟨kk,rfl⟩:=zr hc.1;refine qe os σ H δ y _ s e1 λv H1 g1 r1=>?_;obtain⟨w1,w2,a,w3,w4,w5,xs,w6,w7⟩:=s.own_at hn hi ho;refine⟨_,w3,qk os σ H1 δ _ _ (s.mono g1) e2 λu H2 g2 r2=>?_⟩;have g12:=g1.trans g2;rcases w6 with⟨z,_⟩|⟨_,kvs,w6,rfl,rfl⟩
   ·cases z
   obtain⟨b,bs,rfl,hb,hbs⟩:=r2.tup_inv;have:=iQ hbs;subst this;have hlen:kvs.length<sizeLine:=by rw[cM];have:=hc.2.2;simpa using this
   have hnew:=Ec hc.2.1;refine⟨a,_,rfl,DPut.t (k:=kk) (g12 _ _ w6) (hide_le _ _ hb) hlen,?_⟩;rw[qK v hnew];obtain⟨s2,f2⟩:=(s.mono g12).chg (d':=.dic true (kvs.map (λp=>kT p.1)++[kT kk]) (vs++[y])) (o:=.dT (kvs++[(kk,v)])) hn hi hfn ho w3
    ⟨_,.inr ⟨rfl,_,aY,by simp,rfl⟩,by rw[aaf];exact(w7.mono g12.hd _ _).append (.cons (r1.mono g2.hd _ _) .nil)⟩
   exact kq σ _ os ((Fr.of g12).trans f2) s2
  ·cases m
 ·cases m
theorem xF{α β:Type}{F:α->β->Prop}:∀{l:List α}{r:List β}{i:Nat}{x:α},Paired F l r->l[i]? = some x->∃y,r[i]? = some y/\F x y
 |_,_,_,_,.nil,e=>by simp at e|_,_,0,_,.cons r _,e=>by simp at e;subst e;exact⟨_,rfl,r⟩|_,_,i+1,x,.cons _ t,e=>by
   obtain⟨y,h1,h2⟩:=xF (i:=i) (x:=x) t (by simpa using e);exact⟨y,by simpa using h1,h2⟩
theorem Gr{P:Program}{w:World}{H:Hp}{h:Heap}{a:Addr}{o:Obj}{kvs:List (List Key×V)}(x:ObjOk P w H h a (.frz o (.dT kvs))):
 (a==sysModules)=false/\∃es ep,Wt h a es ep/\o.data=.dict es ep/\es.size=kvs.length/\∀(i:Nat)(p:List Key×V),kvs[i]? = some p->∃b u e,es[i]? = some e/\e.key=.ref b/\e.val=u/\H b=some (.tup (p.1.map kV))/\RelV p.2 u:=by
 obtain⟨g,hz,hd,xs,rel,o',es,ep,h1,h2,h3,h4,h5⟩:=x;rw[g]at h1;cases h1;refine⟨hd,es,ep,⟨o,g,h2,h3⟩,h3,?_,λi p hp=>?_⟩
 ·rw[<-abS,h4,ZK];exact(adu rel).symm
 ·obtain⟨q,e1,e2,e3,e4⟩:=xF rel hp;refine⟨q.2.1,q.2.2,entryOfKey (tupleKind (b8 P w)) q,?_,rfl,rfl,e3,e4⟩;rw[<-aaH,h4,aad,e1];rfl
theorem vB{K:PySem.W.Frag}{B:Hp}(i:Int):∀{kvs:List (Key×V)}{vs:List D},Dens K B vs (kvs.map (·.2))->(nH (kvs.map λp=>kD p.1) vs i=none/\fO kvs (.inl i)=none)\/∃d v,nH (kvs.map λp=>kD p.1) vs i=some d/\fO kvs (.inl i)=some v/\Den K B d v
 |[],vs,h=>by
   rw[aa4];exact .inl ⟨by cases vs<;>rfl,rfl⟩
 |p::kvs,[],h=>by
   have:=h.length;simp at this
 |(k,x)::kvs,d::vs,h=>by
   obtain⟨y,r,e,h1,h2⟩:=h.uncons;rw[ZD]at e;cases e;rw[ZD];cases k with
   |inl j=>
     show((if j=i then some d else nH (kvs.map λp=>kD p.1) vs i)=none/\_)\/∃d' v,(if j=i then some d else nH (kvs.map λp=>kD p.1) vs i)=some d'/\_;by_cases hj:j=i
     ·subst hj;rw[ZZ rfl,jE rfl];exact .inr ⟨d,x,rfl,rfl,h1⟩
     ·rw[aaa hj,iV (by simpa using hj)];exact vB i h2
   |inr z=>
     show(nH (kvs.map λp=>kD p.1) vs i=none/\_)\/∃d' v,nH (kvs.map λp=>kD p.1) vs i=some d'/\_;rw[iV (by simp)];exact vB i h2
theorem Th{apos:Pos}(hu:X.A.units+1<cLine)(ho:DE X o mo)(hk:DE X k mk)(he:DE X e me)(h1:attributeBase o "get" X.env (eval o X.env)=eval o X.env:=by rfl)
 (h2:((backTo pos (starEach [k,e] X.env)).all (λx => !x.1)&&(backToKw pos (keywordEach [] X.env)).all (λx=>x.1.isSome)&&decide (([k,e]:List Expr).length+([]:List Keyword).length+(if([]:List Keyword).isEmpty then 0 else 1)<30))=true:=by rfl)
 (h3:(apos.endLine==pos.line)=true:=by rfl) (h4:backTo pos (starEach [k,e] X.env)=[(false,eval k X.env),(false,eval e X.env)]:=by rfl):
 DE X (.Call (.Attribute o "get" apos) [k,e] [] pos) (Jb mo mk me):=by
 obtain⟨to,po,qo⟩:=ho;obtain⟨tk,pk,qk⟩:=hk;obtain⟨te,pe,qe⟩:=he;refine⟨_,NP hu po pk pe ⟨h1,h2,h3,h4⟩,λos σ H δ d Q s m kq=>?_⟩;obtain⟨dd,e1,m⟩:=ao m;obtain⟨z,e2,m⟩:=ao m;obtain⟨y,e3,m⟩:=ao m
 match dd,z,e1,e2,m with
 |.dic false ks vs,.int i,e1,e2,m=>
   cases m;refine qo os σ H δ _ _ s e1 λv H1 g1 r1=>?_;obtain⟨a,ys,rfl,hF,hv⟩:=r1.dic_inv;rcases hF with⟨_,ob,kvs,f1,rfl,rfl⟩|⟨z,_⟩
   ·refine⟨a,rfl,.inl ⟨kvs,.inr ⟨ob,hide_le _ _ f1⟩⟩,?_⟩;refine qk os σ H1 δ _ _ (s.mono g1) e2 λu H2 g2 r2=>?_;refine qe os σ H2 δ _ _ ((s.mono g1).mono g2) e3 λw H3 g3 r3=>?_;have g23:=g2.trans g3;rw[r2.int_inv];refine⟨fO kvs (.inl i),.inl ⟨kvs,.inl i,.inr ⟨ob,g23 _ _ (hide_le _ _ f1)⟩,rfl,rfl⟩,?_⟩;have gt:=g1.trans g23;rcases vB i hv with⟨c1,c2⟩|⟨d,v,c1,c2,c3⟩
    ·rw[c1]at kq;rw[c2];exact kq _ H3 gt r3
    ·rw[c1]at kq;rw[c2];exact kq _ H3 gt (c3.mono g23.hd _ _)
   ·cases z
end
end DL
namespace DL
open PySem
abbrev Tab:=List (Int×List Int)
noncomputable def cF(r:List Int)(ts:List Int)(b:Int):List Int:=ts.foldl (λr t=>r.set t.toNat (r.getD t.toNat 0+b)) r
def je:Tab->Int->List Int->Int->Tab
 |[],far,ts,b=>[(far,cF (List.replicate 24 0) ts b)]|(k,r)::T,far,ts,b=>if k=far then(k,cF r ts b)::T else(k,r)::je T far ts b
def yE:D->Option (List Int)
 |.lst ds=>(intsOf ds).bind λis=>if(is.all λt=>decide (0<=t)&&decide (t<24))=true then some is else none
 |_=>none
noncomputable def Hk:D->Option (Int×Int)
 |.tup [.int a,.int b]=>some (a,b)|_=>none
def zL(sp tu:MF):List D->Tab->Option Tab
 |[],T=>some T|p::ps,T=>(sp [p]).bind λs=>(Hk s).bind λq=>(tu [p]).bind λt=>(yE t).bind λts=>
   if T.length+2<=1000000 then zL sp tu ps (je (je T q.1 ts 1) q.2 ts (-1))else none
noncomputable def mY(T:Tab):D:=.dic false (T.map λp=>.int p.1) (T.map λp=>.lst (p.2.map D.int))
def lA(sp tu:MF):MF:=λds=>match ds with
 |[.tup ps]=>(zL sp tu ps []).bind λT=>some (mY T)|_=>none
theorem d9(b:Int):∀(ts r:List Int),(cF r ts b).length=r.length
 |[],_=>rfl|t::ts,r=>by
   show(cF (r.set t.toNat _) ts b).length=_;rw[d9 b ts];simp
theorem rP:∀(T:Tab)(far:Int)(ts:List Int)(b:Int),(je T far ts b).length<=T.length+1
 |[],_,_,_=>by simp[je]|(k,r)::T,far,ts,b=>by
   unfold je;split
   ·simp
   ·have:=rP T far ts b;simp only[Z2];omega
end DL
namespace DL
open PySem PySem.Spec PyProof.Rows L2
section
variable{X:Cx}{pins:List (Addr×Obj)}{σ:L2.St}{H:Hp}{s:Shared}{A:Around}{E:Value->Shared->Prop}{a:Addr}{kvs:List (Key×V)}{k:Key}{z:V}{u r:Value}
theorem Wb{Q:Value->Shared->Prop}(I:L2.Inv X pins σ H s)(e:H a=some (.dK kvs))(hl:kvs.length<sizeLine)(ry:RelV (kV k) u)(rz:RelV z r)
 (h1:∀v w s',fO kvs k=some v->L2.Inv X pins σ H s'->RelV v w->Q w s') (h2:∀s',fO kvs k=none->L2.Inv X pins σ (upd H a (.dK (kvs++[(k,z)]))) s'->Q r s'):
 wpAny (model X.prog X.w) A (call (.builtin "dict.setdefault") [.ref a,u,r]) Q E s:=by
 obtain⟨hz,hd,vs,rel,dd⟩:=Je I.hok e;have hz':vs.length<=sizeLine:=by rw[<-rel.length];exact hz
 refine aez adH dd.typeIs PySem.F.entry_dict_setdefault (PySem.F.args_dict_setdefault_3 _ _ _) (kt_meets_setdefault (b8 X.prog X.w) a (vH ry) hd r) ⟨vs,dd,hz',λv hv=>?_,λhn h' dd' hs=>?_⟩
 ·have rv:=rel.val k;rw[hv]at rv;cases hk:fO kvs k with
  |none=>rw[hk]at rv;exact rv.elim|some y=>rw[hk]at rv;exact h1 y v _ hk (I.tok _) rv
 ·have rv:=rel.val k;rw[hn]at rv;have hk:fO kvs k=none:=by
   cases hk:fO kvs k with
   |none=>rfl|some y=>rw[hk]at rv;exact rv.elim
  refine h2 _ hk ?_;rw[<-qK z hk];have he:∃q,h'.get? a=some q:=let ⟨q,_,_,hq,_⟩:=dd';⟨q,hq⟩
  have hl':(putK kvs k z).length<=sizeLine:=by have:=j0 kvs k z;omega
  exact rJ I (by rw[e];exact True.intro) hs he (zE hl' hd (rel.put k rz) dd')
end
def TY(td ty tx:TE):TE:=λσ H Q=>td σ H λx H1=>∃a,x=.ref a/\Yn H1 a/\ty σ H1 λy H2=>tx σ H2 λz H3=>∃kvs k,H3 a=some (.dK kvs)/\kvs.length<sizeLine/\y=kV k/\
 (∀v,fO kvs k=some v->Q v H3)/\(fO kvs k=none->Q z (upd H3 a (.dK (kvs++[(k,z)]))))
theorem RM{X:Cx}{o e f:Expr}{td ty tx:TE}{apos cpos:Pos}(ho:PE X o td)(he:PE X e ty)(hf:PE X f tx)(h1:attributeBase o "setdefault" X.env (eval o X.env)=eval o X.env:=by rfl)
 (h2:((backTo cpos (starEach [e,f] X.env)).all (λx => !x.1)&&(backToKw cpos (keywordEach [] X.env)).all (λx=>x.1.isSome)&&decide (([e,f]:List Expr).length+([]:List Keyword).length+(if([]:List Keyword).isEmpty then 0 else 1)<30))=true:=by rfl)
 (h3:(apos.endLine==cpos.line)=true:=by rfl) (h4:backTo cpos (starEach [e,f] X.env)=[(false,eval e X.env),(false,eval f X.env)]:=by rfl):
 PE X (.Call (.Attribute o "setdefault" apos) [e,f] [] cpos) (TY td ty tx):=by
 intro pins s σ H Q I h;refine ad5 h1 h2 h3 ac7 adH PySem.F.type_dict_setdefault (cW (ho pins s σ H _ I h) λu s1 ⟨x,H1,I1,rx,a,ex,d,q1⟩=>?_);subst ex;obtain rfl:u=Value.ref a:=rx;obtain⟨t1,t2,_⟩:=Gb I1 d;refine⟨t1,t2,?_⟩;rw[h4];refine acu rfl (acI (abr (cW (he pins s1 σ H1 _ I1 q1) λiv s2 ⟨y,H2,I2,ry,q2⟩=>
  abr (cW (hf pins s2 σ H2 _ I2 q2) λfv s3 ⟨z,H3,I3,rz,kvs,k,e,hl,ey,qa,qb⟩=>acb ?_))))
 subst ey;exact Wb I3 e hl ry rz (λv w s' hv I' rv=>⟨v,H3,I',rv,qa v hv⟩) λs' hn I'=>⟨z,_,I',rz,qb hn⟩
noncomputable def Rows(H:Hp):List Addr->Tab->Prop
 |[],[]=>True|l::ls,(_,r)::T=>H l=some (.lst (r.map V.int))/\r.length=24/\Rows H ls T|_,_=>False
noncomputable def kvsOf:List Addr->Tab->List (Key×V)
 |l::ls,(k,_)::T=>(.inl k,.ref l)::kvsOf ls T|_,_=>[]
structure ChAt(H:Hp)(a:Addr)(ls:List Addr)(T:Tab):Prop where
 d:H a=some (.dK (kvsOf ls T))
 r:Rows H ls T
 n:ls.Nodup
theorem Rows.len{H:Hp}:∀{ls:List Addr}{T:Tab},Rows H ls T->ls.length=T.length
 |[],[],_=>rfl|_::ls,(_,_)::T,h=>by simp[Rows.len h.2.2]
theorem xO:∀{ls:List Addr}{T:Tab},ls.length=T.length->(kvsOf ls T).length=T.length
 |[],[],_=>rfl|_::ls,(_,_)::T,h=>by simp[kvsOf,xO (ls:=ls) (T:=T) (by simpa using h)]
theorem Rows.mem{H:Hp}:∀{ls:List Addr}{T:Tab}{l:Addr},Rows H ls T->l∈ls->∃xs,H l=some (.lst xs)
 |[],_,_,_,h=>by cases h|m::ls,(_,r)::T,l,h,q=>by
   rcases ZP.mp q with rfl|q
   ·exact⟨_,h.1⟩
   ·exact Rows.mem h.2.2 q
theorem Rows.keep{H H':Hp}:∀{ls:List Addr}{T:Tab},Rows H ls T->(∀l∈ls,H' l=H l)->Rows H' ls T
 |[],[],_,_=>True.intro|l::ls,(_,r)::T,h,k=>⟨(k l ZF).trans h.1,h.2.1,Rows.keep h.2.2 λm q=>k m (Zy _ q)⟩
theorem uV{H:Hp}(far:Int):∀{ls:List Addr}{T:Tab}{v:V},Rows H ls T->ls.Nodup->fO (kvsOf ls T) (.inl far)=some v->
 ∃l r,v=.ref l/\l∈ls/\H l=some (.lst (r.map V.int))/\r.length=24/\∀ts b,kvsOf ls (je T far ts b)=kvsOf ls T/\∀H':Hp,H' l=some (.lst ((cF r ts b).map V.int))->(∀m∈ls,m≠l->H' m=H m)->Rows H' ls (je T far ts b)
 |[],[],v,_,_,h=>by cases h|l::ls,(k,r)::T,v,h,n,e=>by
   rw[kvsOf]at e;by_cases hk:k=far
   ·rw[jE (by rw[hk])]at e;cases e;refine⟨l,r,rfl,ZF,h.1,h.2.1,λts b=>?_⟩;rw[je,ZZ hk];refine⟨rfl,λH' h1 h2=>⟨h1,by rw[d9];exact h.2.1,h.2.2.keep λm q=>h2 m (Zy _ q) λz=>?_⟩⟩;rw[aaK]at n;exact n.1 (z▸q)
   ·rw[iV (by simpa using hk)]at e;rw[aaK]at n;obtain⟨l',r',e1,e2,e3,e4,e5⟩:=uV far h.2.2 n.2 e;refine⟨l',r',e1,Zy _ e2,e3,e4,λts b=>?_⟩;rw[je,aaa hk];obtain⟨f1,f2⟩:=e5 ts b;refine⟨by rw[kvsOf,kvsOf,f1],λH' h1 h2=>⟨(h2 l ZF λz=>n.1 (z▸e2)).trans h.1,h.2.1,f2 H' h1 λm q z=>h2 m (Zy _ q) z⟩⟩
theorem Hr{H:Hp}(far:Int):∀{ls:List Addr}{T:Tab},Rows H ls T->fO (kvsOf ls T) (.inl far)=none->
 ∀ts b l,kvsOf (ls++[l]) (je T far ts b)=kvsOf ls T++[(.inl far,.ref l)]/\∀H':Hp,H' l=some (.lst ((cF (List.replicate 24 0) ts b).map V.int))->(∀m∈ls,H' m=H m)->Rows H' (ls++[l]) (je T far ts b)
 |[],[],_,_,ts,b,l=>⟨rfl,λH' h1 _=>⟨h1,by rw[d9];rfl,True.intro⟩⟩|m::ls,(k,r)::T,h,e,ts,b,l=>by
   rw[kvsOf]at e;have hk:k≠far:=λz=>by rw[jE (by rw[z])]at e;cases e
   rw[iV (by simpa using hk)]at e;obtain⟨f1,f2⟩:=Hr far h.2.2 e ts b l;rw[je,aaa hk];refine⟨?_,λH' h1 h2=>⟨(h2 m ZF).trans h.1,h.2.1,f2 H' h1 λc q=>h2 c (Zy _ q)⟩⟩;show(Sum.inl k,V.ref m)::kvsOf (ls++[l]) (je T far ts b)=_;rw[f1];rfl
theorem ChAt.live{H:Hp}{a:Addr}{ls:List Addr}{T:Tab}(c:ChAt H a ls T):Live (a::ls) H:=λb hb=>by
 rcases ZP.mp hb with rfl|hb
 ·exact⟨_,c.d,True.intro⟩
 ·obtain⟨xs,e⟩:=c.r.mem hb;exact⟨_,e,True.intro⟩
theorem ChAt.na{H:Hp}{a:Addr}{ls:List Addr}{T:Tab}(c:ChAt H a ls T):a∉ls:=λz=>by
 obtain⟨xs,e⟩:=c.r.mem z;rw[c.d]at e;cases e
theorem ChAt.mono{H H':Hp}{a:Addr}{ls:List Addr}{T:Tab}(c:ChAt H a ls T)(g:Same H H'):ChAt H' a ls T:=
 ⟨g _ _ c.d,c.r.keep λl hl=>by obtain⟨xs,e⟩:=c.r.mem hl;rw[e];exact g _ _ e,c.n⟩
def Hl(K:PySem.W.Frag)(fnT:MF):Sp:=λvs H Q _=>∃a far pd pv b ls T ts,vs=[.ref a,.int far,pv,.int b]/\ChAt H a ls T/\Den K (hide (a::ls) H) pd pv/\(∃d,fnT [pd]=some d/\yE d=some ts)/\T.length+1<=1000000/\
 ∀H' ls',ChAt H' a ls' (je T far ts b)->Same (hide (a::ls) H) (hide (a::ls') H')->(∀m∈ls',m∈ls\/H m=none)->Q .non H'
theorem Ed{d:D}{ts:List Int}(h:yE d=some ts):∃ds,d=.lst ds/\intsOf ds=some ts/\∀t∈ts,0<=t/\t<24:=by
 cases d with
 |lst ds=>
   obtain⟨is,e1,e2⟩:=aak.mp h;split at e2
   ·rename_i hc;cases e2;refine⟨ds,rfl,e1,λt ht=>?_⟩;have:=aaM.mp hc t ht;simpa using this
   ·cases e2
 |_=>cases h
def Mi:TE:=Q9 W7 (WT (kW (tC (.int 0)) En)) (tC (.int 24))
def Yw(K:PySem.W.Frag)(fnT:MF)(E:XK):TS:=JQ (Mp (TY (fC 0) (fC 1) Mi) (gG 4))
 (JR (Up K (Aq (DX K fnT) [] E (kW (fC 2) En))) (gG 5) (Mm (fC 4) (fC 5) (fC 3) (Ng K) (YJ λi j=>i+j) Nf))
theorem DY{σ:L2.St}{H:Hp}{Q:VK}(h:∀p H',Same H H'->H p=none->H' p=some (.lst ((List.replicate 24 (0:Int)).map V.int))->Q (.ref p) H'):Mi σ H Q:=by
 refine⟨by show 1<=sizeLine;rw[cM];decide,λp hp=>⟨p,24,[.int 0],rfl,rfl,aY,by decide,by decide,by show 1*24<=sizeLine;rw[cM];decide,λq hq=>?_⟩⟩;have g1:=bB (H:=H) hp (HO.lst [V.int 0]);have hq':H q=none:=g1.free hq;exact h q _ (g1.trans (bB hq _)) hq' aY
theorem Dz(r:List Int)(ts:List Int)(t b:Int):cF r (ts++[t]) b=(cF r ts b).set t.toNat ((cF r ts b).getD t.toNat 0+b):=by
 unfold cF;rw[List.foldl_append];rfl
theorem Dy{K:PySem.W.Frag}{H:Hp}{σ:L2.St}{m l:Addr}{r ts:List Int}{b:Int}{D:Ends}(hm:SqL K H m (ts.map V.int))(hml:∀xs,SqL K (upd H l (.lst xs)) m (ts.map V.int))(hl:H l=some (.lst (r.map V.int)))(hr:r.length=24)(ht:∀t∈ts,0<=t/\t<24)
 (h6:σ.length=6) (s3:σ[3]? = some (some (.int b))) (s4:σ[4]? = some (some (.ref l))) (k:∀σ',D.nx σ' (upd H l (.lst ((cF r ts b).map V.int)))):
 ∃W:Nat->Nat->L2.St->Hp->Prop,(∃m,W 0 m σ H)/\∀i n σ H,W i n σ H->((QR K m).stop i H/\D.nx σ H)\/((QR K m).go i H/\∃N:L2.St->Hp->Prop,(∀σ' H',N σ' H'->∃m',m'<n/\W (i+1) m' σ' H')/\∀x H',(QR K m).yld i H x H'->gG 5 x σ H' λσ2 H2=>Mm (fC 4) (fC 5) (fC 3) (Ng K) (YJ λi j=>i+j) Nf {D with nx:=N,ct:=N,bk:=D.nx} σ2 H2):=by
 have e0:upd H l (.lst ((cF r (ts.take 0) b).map V.int))=H:=by
  funext c
  by_cases hc:c=l
  ·subst hc;rw[aY,hl];rfl
  ·rw[aR hc]
 refine Pa (xs:=ts.map V.int) (λi σ' H'=>σ'.length=6/\σ'[3]? = some (some (.int b))/\σ'[4]? = some (some (.ref l))/\H'=upd H l (.lst ((cF r (ts.take i) b).map V.int))) ⟨h6,s3,s4,e0.symm⟩ (λi σ' H' _ p=>?_) (λi x σ' H' hx p=>?_) λσ' H' p=>?_
 ·obtain⟨_,_,_,rfl⟩:=p;exact hml _
 ·obtain⟨p6,p3,p4,rfl⟩:=p;rw[aad]at hx;cases ht':ts[i]? with
  |none=>rw[ht']at hx;cases hx|some t=>
    rw[ht']at hx;cases hx;have hti:i<ts.length:=(ZV.mp ht').1;have hlen:(cF r (ts.take i) b).length=24:=by rw[d9];exact hr
    obtain⟨t0,t24⟩:=ht t (aaY ht');have hj:QM ((cF r (ts.take i) b).map V.int).length t=some t.toNat:=by
     unfold QM;rw[ZK,hlen,ZZ t0,ZZ (by omega)]
    have hlt:t.toNat<(cF r (ts.take i) b).length:=by omega
    have hat:((cF r (ts.take i) b).map V.int)[t.toNat]? = some (.int ((cF r (ts.take i) b).getD t.toNat 0)):=by
     rw[aad,ZM hlt];simp[hlt]
    refine⟨_,by rw[ZQ (by decide)];exact p4,_,by rw[Z9 (by omega)],l,_,t,_,rfl,rfl,.of aY,by unfold Tv;rw[hj];exact hat,?_⟩;refine⟨_,by rw[ZQ (by decide)];exact p3,_,_,rfl,rfl,l,_,t,t.toNat,rfl,rfl,aY,hj,?_⟩;refine⟨by rw[abb];exact p6,by rw[ZQ (by decide)];exact p3,by rw[ZQ (by decide)];exact p4,?_⟩;rw[Q0];have et:ts.take (i+1)=ts.take i++[t]:=by
     rw[List.take_succ,ht'];rfl
    rw[et,Dz,List.map_set]
 ·obtain⟨_,_,_,rfl⟩:=p;have:=k σ';rw[ZK,List.take_length];exact this
theorem QB{K:PySem.W.Frag}{fnT:MF}{E E':XK}{N:List Str}{vs:List V}{H:Hp}{Q:VK}{D:Ends}(hN:N.length=6)(h:Hl K fnT vs H Q E')(hD:∀σ H',Q .non H'->D.nx σ H'):Yw K fnT E D (L2.start N vs) H:=by
 obtain⟨a,far,pd,pv,b,ls,T,ts,rfl,c,dp,⟨d,hf,hti⟩,hT,k⟩:=h;obtain⟨ds,rfl,hints,hrange⟩:=Ed hti;have hst:L2.start N [V.ref a,.int far,pv,.int b]=[some (V.ref a),some (.int far),some pv,some (.int b),none,none]:=by
  unfold L2.start;rw[hN];rfl
 rw[hst];have hkl:=xO c.r.len;refine⟨_,rfl,a,rfl,.inl ⟨_,.inl c.d⟩,_,rfl,DY λp H1 g1 hp h1=>?_⟩;have c1:=c.mono g1;refine⟨kvsOf ls T,.inl far,c1.d,by rw[hkl,cM];omega,rfl,λv hv=>?_,λhv=>?_⟩
 ·obtain⟨l,r,rfl,ml,hl,hr,q⟩:=uV far c1.r c1.n hv;refine⟨_,rfl,?_⟩;have dp1:Den K (hide (a::ls) H1) pd pv:=dp.mono g1.hd _ _;show DX K fnT ([pv]++[]) H1 _ E;refine⟨a::ls,[pd],.lst ds,c1.live,.cons dp1 .nil,hf,λv H2 g2 rv=>?_⟩;obtain⟨m,ms,rfl,hm,dm⟩:=rv.lst_inv;have:=fV hints dm;subst this;have c2:=c1.mono g2;have hh:∀xs,hide (a::ls) (upd H2 l (.lst xs))=hide (a::ls) H2:=λxs=>by
   funext y
   by_cases hy:y∈a::ls
   ·rw[cg hy,cg hy]
   ·rw[aL hy,aL hy,aR (λz:y=l=>hy (by rw[z];exact Zy _ ml))]
  refine⟨m,rfl,⟨_,hide_le.seq hm⟩,Dy (hide_le.seq hm) (λxs=>hide_le.seq (by rw[hh];exact hm)) (g2 _ _ hl) hr hrange rfl rfl rfl λσ'=>hD _ _ ?_⟩;obtain⟨f1,f2⟩:=q ts b;have nal:a≠l:=λz=>c.na (z▸ml);refine k _ ls ⟨by rw[aR nal,f1];exact c2.d,f2 _ aY λy hy hn=>?_,c.n⟩ (λy o e=>?_) λy hy=>.inl hy
  ·rw[aR hn];obtain⟨xs,e⟩:=c1.r.mem hy;rw[e];exact g2 _ _ e
  ·rw[hh];exact(g1.trans g2).hd _ _ e
 ·refine⟨_,rfl,?_⟩;have npa:a≠p:=λz=>by
   have:=c.d;rw[z,hp]at this;cases this
  have npl:∀{y:Addr},y∈ls->y≠p:=λ{y} hy z=>by
   obtain⟨xs,e⟩:=c.r.mem hy;rw[z,hp]at e;cases e
  generalize hH:upd H1 a (.dK (kvsOf ls T++[(.inl far,.ref p)]))=H1';have ha:H1' a=some (.dK (kvsOf ls T++[(.inl far,.ref p)])):=by rw[<-hH];exact aY
  have hne:∀{y:Addr},y≠a->H1' y=H1 y:=λ{y} z=>by rw[<-hH];exact aR z
  have lv:Live (a::(ls++[p])) H1':=λy hy=>by
   rcases ZP.mp hy with rfl|hy
   ·exact⟨_,ha,True.intro⟩
   ·rcases aar.mp hy with hy|hy
    ·obtain⟨xs,e⟩:=c1.r.mem hy;exact⟨_,(hne λz=>c.na (z▸hy)).trans e,True.intro⟩
    ·rw[ZW.mp hy];exact⟨_,(hne npa.symm).trans h1,True.intro⟩
  have big:Same (hide (a::ls) H) (hide (a::(ls++[p])) H1'):=λy o e=>by
   have hy:y∉a::ls:=λz=>by rw[cg z]at e;cases e
   rw[aL hy]at e;have hyp:y≠p:=bx e hp;have hy2:y∉a::(ls++[p]):=λz=>by
    rcases ZP.mp z with z|z
    ·exact hy (by rw[z];exact ZF)
    ·rcases aar.mp z with z|z
     ·exact hy (Zy _ z)
     ·exact hyp (ZW.mp z)
   rw[aL hy2,hne (λz=>hy (by rw[z];exact ZF))];exact g1 _ _ e
  show DX K fnT ([pv]++[]) H1' _ E;refine⟨a::(ls++[p]),[pd],.lst ds,lv,.cons (dp.mono big _ _) .nil,hf,λv H2 g2 rv=>?_⟩;obtain⟨m,ms,rfl,hm,dm⟩:=rv.lst_inv;have:=fV hints dm;subst this;have hh:∀xs,hide (a::(ls++[p])) (upd H2 p (.lst xs))=hide (a::(ls++[p])) H2:=λxs=>by
   funext y
   by_cases hy:y∈a::(ls++[p])
   ·rw[cg hy,cg hy]
   ·rw[aL hy,aL hy,aR (λz:y=p=>hy (by rw[z];simp))]
  refine⟨m,rfl,⟨_,hide_le.seq hm⟩,Dy (hide_le.seq hm) (λxs=>hide_le.seq (by rw[hh];exact hm)) (g2 _ _ ((hne npa.symm).trans h1)) (by simp) hrange rfl rfl rfl λσ'=>hD _ _ ?_⟩;obtain⟨f1,f2⟩:=Hr far c.r hv ts b p;refine k _ (ls++[p]) ⟨by rw[aR npa,f1];exact g2 _ _ ha,f2 _ aY λy hy=>?_,?_⟩ (λy o e=>?_) λy hy=>?_
  ·rw[aR (npl hy)];obtain⟨xs,e⟩:=c.r.mem hy;rw[e];exact g2 _ _ ((hne λz=>c.na (z▸hy)).trans (g1 _ _ e))
  ·rw[ach];exact⟨c.n,by simp,λy hy z hz e=>npl hy (e.trans (ZW.mp hz))⟩
  ·rw[hh];exact g2.hd _ _ (big _ _ e)
  ·rcases aar.mp hy with hy|hy
   ·exact .inl hy
   ·exact .inr (by rw[ZW.mp hy];exact hp)
def Mj(t:TS):TS:=λD σ H=>∃a u,((∃kvs,u=.dK kvs)\/∃kvs,u=.dT kvs)/\H a=some u/\∀o,t D σ (upd H a (.frz o u))
theorem J9{X:Cx}{sts:List Stmt}{t:TS}(h:PSs X sts t):PSs X sts (Mj t):=λpins s σ H D I hh=>by
 obtain⟨a,u,hu,e,hh⟩:=hh;obtain⟨o,I'⟩:=Inv.still I hu e;exact h pins s σ _ D I' (hh o)
def WR:TE:=Y0 (rU λi=>.int (-i)) (tC (.int 1))
def Zq(K:PySem.W.Frag)(fnS fnT:MF)(E1 E2 E3:XK):TS:=JQ (Mp Ml (gG 1)) (JQ (JR (Xv K (fC 0)) (gG 2)
 (JQ (Mp (Aq (DX K fnS) [] E1 (kW (fC 2) En)) (gG 3))
 (JQ (Hi (Aq (Hl K fnT) [] E2 (kW (fC 1) (kW (Q9 (Vf K) (fC 3) (tC (.int 0))) (kW (fC 2) (kW (tC (.int 1)) En))))))
 (Hi (Aq (Hl K fnT) [] E3 (kW (fC 1) (kW (Q9 (Vf K) (fC 3) (tC (.int 1))) (kW (fC 2) (kW WR En)))))))))
 (Mj (WN (fC 1))))
theorem JV{d:D}{q:Int×Int}(h:Hk d=some q):d=.tup [.int q.1,.int q.2]:=by
 unfold Hk at h;split at h
 ·cases h;rfl
 ·cases h
theorem Bj{K:PySem.W.Frag}{B:Hp}:∀{ls:List Addr}{T:Tab},Rows B ls T->Dens K B (T.map λp=>.lst (p.2.map D.int)) ((kvsOf ls T).map (·.2))
 |[],[],_=>.nil|l::ls,(k,r)::T,h=>.cons (.lst (.of h.1) (Dens.ints r)) (Bj h.2.2)
theorem xx:∀{H:Hp}{ls:List Addr}{T:Tab},Rows H ls T->(T.map λp=>D.int p.1)=(kvsOf ls T).map λp=>kD p.1
 |_,[],[],_=>rfl|_,l::ls,(k,r)::T,h=>by
   rw[ZD,xx h.2.2];rfl
theorem Tn{K:PySem.W.Frag}{fnS fnT:MF}{E0 E1 E2 E3:XK}{N:List Str}{vs:List V}{H:Hp}{Q:VK}(hN:N.length=4)(h:DX K (lA fnS fnT) vs H Q E0):Zq K fnS fnT E1 E2 E3 {nx:=λ_ H'=>Q .non H',rt:=Q} (L2.start N vs) H:=by
 obtain⟨os,ds,r,L,dn,hm,fin⟩:=h;have hds:∃ps,ds=[.tup ps]:=by
  unfold lA at hm;split at hm
  ·exact⟨_,rfl⟩
  ·cases hm
 obtain⟨ps,rfl⟩:=hds;obtain⟨TF,hT,hr⟩:=aak.mp (show(zL fnS fnT ps []).bind (λT=>some (mY T))=some r from hm);cases hr;obtain⟨v,rr,rfl,hv,hn⟩:=dn.uncons;have:=hn.unnil;subst this;obtain⟨tt,xs,rfl,htt,hxs⟩:=hv.tup_inv;have hst:L2.start N [V.ref tt]=[some (V.ref tt),none,none,none]:=by
  unfold L2.start;rw[hN];rfl
 rw[hst];intro a ha;have wk:=Af (K:=K) (B:=hide os H) (.of htt) hxs;have g0:=bB ha (HO.dK []);refine⟨_,rfl,tt,rfl,⟨xs,.of (g0 _ _ (hide_le _ _ htt))⟩,?_⟩;refine⟨λi n σ H'=>n=ps.length-i/\i<=ps.length/\σ.length=4/\σ[1]? = some (some (.ref a))/\∃ls T,ChAt H' a ls T/\Same H H'/\(∀l∈ls,H l=none)/\zL fnS fnT (ps.drop i) T=some TF,
  ⟨ps.length,by simp,aap _,rfl,rfl,[],[],⟨aY,True.intro,acr⟩,g0,(λl hl=>by cases hl),by rw[aeR];exact hT⟩,?_⟩
 rintro i n σ H1 ⟨rfl,hi,h4,s1,ls,T,c,g1,hls,hch⟩;have free:∀{y:Addr}{o:HO},H y=some o->y∉a::ls:=λ{y o} e z=>by
  rcases ZP.mp z with rfl|z
  ·rw[ha]at e;cases e
  ·rw[hls y z]at e;cases e
 have lv:Live (os++a::ls) H1:=λy hy=>by
  rcases aar.mp hy with hy|hy
  ·exact(L.mono g1) y hy
  ·exact c.live y hy
 have big:Same (hide os H) (hide (os++a::ls) H1):=λy o e=>by
  have hy:y∉os:=λz=>by rw[cg z]at e;cases e
  rw[aL hy]at e;rw[aL (λz=>(aar.mp z).elim hy (free e))];exact g1 _ _ e
 obtain⟨w1,w2⟩:=wk i (os++a::ls) H1 lv big;by_cases hlt:i<ps.length
 ·have hp:ps[i]? = some ps[i]:=ZM hlt;obtain⟨go,yl⟩:=w1 _ hp;rw[ab7 hlt,zL]at hch;obtain⟨sd,f1,hc1⟩:=aak.mp hch;obtain⟨q,f2,hc2⟩:=aak.mp hc1;obtain⟨td,f3,hc3⟩:=aak.mp hc2;obtain⟨ts,f4,hc4⟩:=aak.mp hc3;clear hch hc1 hc2 hc3;split at hc4
  ·rename_i hroom;have:=JV f2;subst this;refine .inr ⟨go,λσ' H'=>∃m',m'<ps.length-i/\(m'=ps.length-(i+1)/\i+1<=ps.length/\σ'.length=4/\σ'[1]? = some (some (.ref a))/\∃ls T,ChAt H' a ls T/\Same H H'/\(∀l∈ls,H l=none)/\zL fnS fnT (ps.drop (i+1)) T=some TF),λσ' H' z=>z,λx H2 y=>?_⟩;obtain⟨g2,rx⟩:=yl x H2 y;have e2:∀{σ:L2.St},σ.length=4->(σ.set 2 (some x))[2]? = some (some x):=λ{σ} z=>Z9 (by omega);refine⟨_,e2 h4,?_⟩;show DX K fnS ([x]++[]) H2 _ E1;refine⟨os++a::ls,[ps[i]],_,lv.mono g2,.cons rx .nil,f1,λv H3 g3 rv=>?_⟩;obtain⟨ta,ys,rfl,hta,hys⟩:=rv.tup_inv;obtain⟨y1,yr,rfl,d1,hys⟩:=hys.uncons;obtain⟨y2,yr,rfl,d2,hys⟩:=hys.uncons;have:=hys.unnil;subst this;have:=d1.int_inv;have:=d2.int_inv;subst y1 y2;have g23:=g2.trans g3;have c3:=c.mono g23;have hta3:H3 ta=some (.tup [.int q.1,.int q.2]):=hide_le _ _ hta;have rx3:Den K (hide (a::ls) H3) ps[i] x:=rx.mono (λy o e=>by
    have hy:y∉os++a::ls:=λz=>by rw[cg z]at e;cases e
    rw[aL hy]at e;rw[aL (λz=>hy (Z4 _ z))];exact g3 _ _ e) _ _
   have z4:((σ.set 2 (some x)).set 3 (some (V.ref ta))).length=4:=by simpa using h4
   have z1:((σ.set 2 (some x)).set 3 (some (V.ref ta)))[1]? = some (some (.ref a)):=by rw[ZQ (by decide),ZQ (by decide)];exact s1
   have z2:((σ.set 2 (some x)).set 3 (some (V.ref ta)))[2]? = some (some x):=by rw[ZQ (by decide)];exact e2 h4
   have z3:((σ.set 2 (some x)).set 3 (some (V.ref ta)))[3]? = some (some (.ref ta)):=by exact Z9 (by simpa using(by omega:3<σ.length))
   refine⟨.ref a,z1,.ref ta,z3,ta,[.int q.1,.int q.2],0,.int q.1,rfl,rfl,.of hta3,rfl,x,z2,?_⟩;refine⟨a,q.1,ps[i],x,1,ls,T,ts,rfl,c3,rx3,⟨td,f3,f4⟩,by omega,λH5 ls5 c5 g5 l5=>?_⟩;have ta5:H5 ta=some (.tup [.int q.1,.int q.2]):=hide_le _ _ (g5 _ _ (vN c3.live hta3));have rx5:=rx3.mono g5 _ _;refine⟨.ref a,z1,.ref ta,z3,ta,[.int q.1,.int q.2],1,.int q.2,rfl,rfl,.of ta5,rfl,x,z2,1,rfl,?_⟩;refine⟨a,q.2,ps[i],x,-1,ls5,_,ts,rfl,c5,rx5,⟨td,f3,f4⟩,by have:=rP T q.1 ts 1;omega,λH6 ls6 c6 g6 l6=>?_⟩;have n5:∀l∈ls5,H l=none:=λl hl=>by
    rcases l5 l hl with z|z
    ·exact hls l z
    ·exact(g1.trans g23).free z
   have s5:Same H H5:=λy o e=>hide_le _ _ (g5 _ _ ((aL (free e)).trans ((g1.trans g23) _ _ e)));have free5:∀{y:Addr}{o:HO},H y=some o->y∉a::ls5:=λ{y o} e z=>by
    rcases ZP.mp z with rfl|z
    ·rw[ha]at e;cases e
    ·rw[n5 y z]at e;cases e
   have s6:Same H H6:=λy o e=>hide_le _ _ (g6 _ _ ((aL (free5 e)).trans (s5 _ _ e)));have n6:∀l∈ls6,H l=none:=λl hl=>by
    rcases l6 l hl with z|z
    ·exact n5 l z
    ·exact s5.free z
   exact⟨ps.length-(i+1),by omega,rfl,hlt,z4,z1,ls6,_,c6,s6,n6,hc4⟩
  ·cases hc4
 ·have e:i=ps.length:=by omega
  subst e;rw[adq,zL]at hch;cases hch;refine .inl ⟨w2 rfl,a,_,.inl ⟨_,rfl⟩,c.d,λo=>⟨_,s1,fin _ _ (λy ob e=>?_) ?_⟩⟩
  ·rw[aR (λz=>free e (by rw[z];exact ZF))];exact g1 _ _ e
  ·have nao:a∉os:=L.ne ha;have rows:Rows (hide os (upd H1 a (.frz o (.dK (kvsOf ls TF))))) ls TF:=c.r.keep λl hl=>by
    rw[aL (L.ne (hls l hl)),aR (λz:l=a=>c.na (by rw[<-z];exact hl))]
   exact .dic (.inl ⟨rfl,o,_,(aL nao).trans aY,xx c.r,rfl⟩) (Bj rows)
theorem Wa{K:PySem.W.Frag}{fnS fnT:MF}{vs:List V}{H:Hp}{Q:VK}{E:XK}(h:DX K (lA fnS fnT) vs H Q E):vs.length=1:=by
 obtain⟨os,ds,r,L,dn,hm,fin⟩:=h;rw[<-dn.length];unfold lA at hm;split at hm
 ·rfl
 ·cases hm
theorem Cg(a b:ME):QJ (vU a b):=λδ d h=>by
 obtain⟨x,_,h⟩:=aak.mp h;obtain⟨y,_,h⟩:=aak.mp h;split at h
 ·split at h
  ·cases h;exact⟨_,rfl⟩
  ·cases h
 ·cases h
end DL
namespace DL
open PySem PyProof.Rows
section
variable{P:Program}{w:World}{A:Around}{E:Value->Shared->Prop}{s:Shared}
def wy(h:Heap)(z TI TO:Addr)(f0:Value)(f:Bool):Prop:=h.get? z=some {cls:=.type "zip",dict:=none,data:=.fields #[f0,.bool f,.bool false,.ref TI,.ref TO],slots:=#[]}
def QG(f0:Value):Prop:=f0=.none\/∃T:Addr,f0=.int T 0
theorem QS{z TI TO:Addr}{f0:Value}{f:Bool}{Q:Bool->Shared->Prop}(hz:wy s.heap z TI TO f0 f)(ho:QG f0)(yes:Q true s)(no:∀h',wy h' z TI TO f0 true->Heap.SameBut z s.heap h'->Q false {s with heap:=h'}):
 wpAny (model P w) A (Builtin.SmallTypes.ownedTupleIsFree (.ref z)) Q E s:=by
 refine vz (m:=field (.ref z) 0) (aaI hz rfl (x:=f0) rfl ?_);rcases ho with rfl|⟨T,rfl⟩
 ·exact ZC yes
 ·refine vz (yx ?_);rw[aax];cases s.heap.get? T with
  |none=>
    rw[ZZ (show(none:Option Obj).isNone=true from rfl)];exact ZC yes
  |some o=>
    rw[aaa (by simp)];refine vz (aaI hz rfl (x:=.bool f) rfl ?_);cases f with
    |true=>
      rw[aaa (by decide)];exact ZC (no s.heap hz (acF _ _))
    |false=>
      rw[ZZ (by decide)];exact vz (aaC hz (by simp) λh1 z1 sb=>ZC (no h1 z1 sb))
def jr(h:Heap)(T:Addr)(a b c:Value):Prop:=h.get? T=some {cls:=.type "tuple",data:=.seq #[a,b,c]}
theorem uZ{T:Addr}{vs ws:Array Value}{k:Nat}{x:Value}{Q:Unit->Shared->Prop}(hT:s.heap.get? T=some {cls:=.type "tuple",data:=.seq vs})(e:vs.setIfInBounds k x=ws)(hz:vs.size<=sizeLine)(hw:ws.size<=sizeLine+1)
 (q:∀h',h'.get? T=some {cls:=.type "tuple",data:=.seq ws}->Heap.SameBut T s.heap h'->Q () {s with heap:=h'}):wpAny (model P w) A (updateSeq T (·.setIfInBounds k x)) Q E s:=by
 subst e;exact abE hT rfl (q _ (by rw[aaG _ hT rfl];simp[Obj.mapSeq]) (abo ..)) (hz:=hz) (_hz':=hw)
theorem yz{z TI TO i1 i2 l1 l2:Addr}{f0:Value}{f:Bool}{m:Nat}{us ws:Array Value}{Q:PySem.Fin->Shared->Prop}(hh:A.handled=none)(D:ZipApart z TI TO i1 i2 l1 l2)(hz:wy s.heap z TI TO f0 f)(hf:QG f0)(hTI:IsPair s.heap TI (.ref i1) (.ref i2))(hTO:∃a b,IsPair s.heap TO a b)
 (a1:s.heap.IsListIter i1 l1 m) (b1:s.heap.IsList l1 us) (a2:s.heap.IsListIter i2 l2 m) (b2:s.heap.IsList l2 ws) (he:us.size=ws.size)
 (go:∀x y h' f0' f',us[m]? = some x->ws[m]? = some y->wy h' z TI TO f0' f'->QG f0'->(∃a b,IsPair h' TO a b)->h'.IsListIter i1 l1 (m+1)->h'.IsListIter i2 l2 (m+1)->IsPair h' s.heap.objs.size x y->(∀c o,c≠z->c≠TO->c≠i1->c≠i2->s.heap.get? c=some o->h'.get? c=some o)->Q (.done (.ret (.ref s.heap.objs.size))) {s with heap:=h'})
 (no:∀h' e,us[m]? = none->(∀c o,c≠z->c≠TO->c≠i1->c≠i2->s.heap.get? c=some o->h'.get? c=some o)->(∃o,h'.get? e=some o/\o.cls=.type "StopIteration")->E (.ref e) {s with heap:=h'}):
 wpAny (model P w) A (Builtin.«zip.__next__» ⟨[.ref z],[]⟩) Q E s:=by
 obtain⟨ta,tb,hTO⟩:=hTO;have both:us[m]? = none\/∃x y,us[m]? = some x/\ws[m]? = some y:=by
  by_cases hm:m<us.size
  ·exact .inr ⟨us[m],ws[m],aae hm,aae (by omega)⟩
  ·exact .inl (abV (by omega))
 refine vz (m:=field (.ref z) 2) (aaI hz rfl (x:=.bool false) rfl (vz (m:=field (.ref z) 3) (aaI hz rfl (x:=.ref TI) rfl (vz (aa0 hTI rfl ?_)))));refine vz (m:=Builtin.SmallTypes.ownedTupleIsFree (.ref z)) (QS hz hf ?_ λg0 z0 s0=>?_)
 ·simp only[abL];refine vz (acJ (vz (aaI hz rfl (x:=.ref TO) rfl (vz (aaC hz (by simp) λg0 z0 s0=>?_)))));have z0:wy g0 z TI TO .ellipsis f:=z0;refine vz ?_;simp only[List.zipIdx_cons,List.zipIdx_nil,acZ,adU];refine vz (vz (adx (vz (m:=Builtin.SmallTypes.nextOf (.ref i1)) ?_)));have c1:=a1.extBut s0.extBut D.i1z;have d1:=b1.extBut s0.extBut D.l1z;rcases both with e1|⟨x,y,e1,e2⟩
  ·refine ab5 hh c1 d1 e1 λg1 e x1 hs=>?_;obtain⟨oe,ho,hc⟩:=hs;have zg:wy g1 z TI TO .ellipsis f:=x1 _ _ D.i1z.symm z0;have ne:e≠z:=λq=>by
    subst q;rw[show g1.get? e=_ from zg]at ho;cases ho;injection hc with hc;exact absurd hc (by decide)
   exact aaC (s:={s with heap:=g1}) zg (by simp) λg2 _ s2=>no g2 e e1 (λc o n1 n2 n3 n4 q=>s2.extBut _ _ n1 (x1 _ _ n3 (s0.extBut _ _ n1 q))) ⟨oe,s2.extBut _ _ ne ho,hc⟩
  ·refine aa1 c1 d1 e1 λg1 j1 s1=>ZC ?_;have T1:IsPair g1 TO ta tb:=s1.extBut _ _ D.TOi1 (s0.extBut _ _ D.TOz hTO);refine vz (aa0 T1 rfl (vz (uZ (s:={s with heap:=g1}) T1 (ws:=#[x,tb]) rfl (by show 2<=sizeLine;rw[aaL];decide) (by show 2<=sizeLine+1;rw[aaL];decide) λg2 T2 s2=>vz (ac6 (ZC ?_)))));refine vz (vz (adx (vz (m:=Builtin.SmallTypes.nextOf (.ref i2)) ?_)));have s2:Heap.SameBut TO g1 g2:=s2;have c2:=((a2.extBut s0.extBut D.i2z).extBut s1.extBut D.i12.symm).extBut s2.extBut D.TOi2.symm;have d2:=((b2.extBut s0.extBut D.l2z).extBut s1.extBut D.l2i1).extBut s2.extBut D.l2TO;refine aa1 c2 d2 e2 λg3 j3 s3=>ZC ?_;have s3:Heap.SameBut i2 g2 g3:=s3;have T3:IsPair g3 TO x tb:=s3.extBut _ _ D.TOi2 T2;refine vz (aa0 T3 rfl (vz (uZ (s:={s with heap:=g3}) T3 (ws:=#[x,y]) rfl (by show 2<=sizeLine;rw[aaL];decide) (by show 2<=sizeLine+1;rw[aaL];decide) λg4 T4 s4=>vz (ac6 (ZC (ZC ?_))))));have s4:Heap.SameBut TO g3 g4:=s4;refine vz (aa0 T4 rfl (vz (acq ?_)));have zs:g4.objs.size=s.heap.objs.size:=by rw[s4.1,s3.1,s2.1,s1.1,s0.1]
   have up:∀c o,c≠z->c≠TO->c≠i1->c≠i2->s.heap.get? c=some o->g4.get? c=some o:=λc o n1 n2 n3 n4 q=>s4.extBut _ _ n2 (s3.extBut _ _ n4 (s2.extBut _ _ n2 (s1.extBut _ _ n3 (s0.extBut _ _ n1 q))));have z4:wy g4 z TI TO .ellipsis f:=s4.extBut _ _ D.TOz.symm (s3.extBut _ _ D.i2z.symm (s2.extBut _ _ D.TOz.symm (s1.extBut _ _ D.i1z.symm z0)));have z5:wy (g4.push {cls:=.type "tuple",data:=.seq #[x,y]}) z TI TO .ellipsis f:=Zz _ z4;have ltz:z<g4.objs.size:=ZG z4;refine vz (m:=Builtin.SmallTypes.ownedTupleHandOut (.ref z) (.ref g4.objs.size)) (vz (m:=setField (.ref z) 0 (rawInt g4.objs.size)) (aaC z5 (by simp) λg6 z6 s6=>?_));have z6:wy g6 z TI TO (rawInt g4.objs.size) f:=z6;refine aaC (s:={s with heap:=g6}) z6 (by simp) λg7 z7 s7=>ZC ?_;have s6:Heap.SameBut z (g4.push {cls:=.type "tuple",data:=.seq #[x,y]}) g6:=s6;have s7:Heap.SameBut z g6 g7:=s7;have on:∀c o,c≠z->g4.get? c=some o->g7.get? c=some o:=λc o n1 q=>s7.extBut _ _ n1 (s6.extBut _ _ n1 (Zz _ q));have pr:IsPair g7 g4.objs.size x y:=s7.extBut _ _ (aam ltz) (s6.extBut _ _ (aam ltz) (ZR _ rfl));have q:=go x y g7 (rawInt g4.objs.size) false e1 e2 z7 (.inr ⟨_,rfl⟩) ⟨x,y,on _ _ D.TOz T4⟩ ((((j1.extBut s2.extBut D.TOi1.symm).extBut s3.extBut D.i12).extBut s4.extBut D.TOi1.symm).at λo e=>on _ o D.i1z e) ((j3.extBut s4.extBut D.TOi2.symm).at λo e=>on _ o D.i2z e) (by rw[<-zs];exact pr) λc o n1 n2 n3 n4 e=>on c o n1 (up c o n1 n2 n3 n4 e);rw[<-zs]at q;exact q
 ·simp only[aa3,abT,ae7,acZ,adU];have c1:=a1.extBut s0.extBut D.i1z;have d1:=b1.extBut s0.extBut D.l1z;refine vz (vz (vz (aa2 (vz (m:=Builtin.SmallTypes.nextOf (.ref i1)) ?_))));rcases both with e1|⟨x,y,e1,e2⟩
  ·exact ab5 hh c1 d1 e1 λg1 e x1 he=>no g1 e e1 (λc o n1 _ n2 _ q=>x1 _ _ n2 (s0.extBut _ _ n1 q)) he
  ·refine aa1 c1 d1 e1 λg1 j1 s1=>ZC (ZC (vz (vz (aa2 (vz (m:=Builtin.SmallTypes.nextOf (.ref i2)) ?_)))));have c2:=(a2.extBut s0.extBut D.i2z).extBut s1.extBut D.i12.symm;have d2:=(b2.extBut s0.extBut D.l2z).extBut s1.extBut D.l2i1;refine aa1 c2 d2 e2 λg2 j2 s2=>ZC ?_;refine ZC (ZC (vz (acq (ZC ?_) (by show 2<=sizeLine;rw[aaL];decide))));have sz:g2.objs.size=s.heap.objs.size:=by rw[s2.1,s1.1,s0.1]
   have up:∀c o,c≠z->c≠i1->c≠i2->s.heap.get? c=some o->(g2.push {cls:=.type "tuple",data:=.seq #[x,y]}).get? c=some o:=λc o n1 n2 n3 e=>Zz _ (s2.extBut _ _ n3 (s1.extBut _ _ n2 (s0.extBut _ _ n1 e)));have q:=go x y (g2.push {cls:=.type "tuple",data:=.seq #[x,y]}) f0 true e1 e2 (Zz _ (s2.extBut _ _ D.i2z.symm (s1.extBut _ _ D.i1z.symm z0))) hf ⟨ta,tb,up _ _ D.TOz D.TOi1 D.TOi2 hTO⟩ ((j1.extBut s2.extBut D.i12).at λo e=>Zz _ e) (j2.at λo e=>Zz _ e)
    (by rw[<-sz];exact ZR _ rfl) λc o n1 _ n2 n3 e=>up c o n1 n2 n3 e
   rw[<-sz]at q;exact q
end
open AutoSeq1 (wpAny_loadPart')
section
variable{P:Program}{w:World}{A:Around}{E:Value->Shared->Prop}{s:Shared}
theorem Pn{e j:Addr}{i:Nat}{old:Value}{Q:PySem.Fin->Shared->Prop}(he:IsEnum s.heap e j i old)
 (hn:wpAny (model P w) A (Builtin.SmallTypes.nextOf (.ref j)) (λx s1=>∃h1,s1={s with heap:=h1}/\IsEnum h1 e j i old/\
  ∀h',IsEnumOut h' e j ((i:Int)+1) x h1.objs.size->IsPair h' h1.objs.size (.int i s.toks) x->(∀c o,c≠e->h1.get? c=some o->h'.get? c=some o)->Q (.done (.ret (.ref h1.objs.size))) {s with heap:=h',toks:=s.toks+1}) E s):
 wpAny (model P w) A (Builtin.«enumerate.__next__» ⟨[.ref e],[]⟩) Q E s:=by
 refine vz (m:=field (.ref e) 2) (aaI he rfl (x:=.ref j) rfl (vz (aa5 hn (λx s1 z=>?_) λ_ _ z=>z)));obtain⟨h1,rfl,e1,k⟩:=z;refine vz (m:=field (.ref e) 3) (aaI e1 rfl (x:=rawInt i) rfl (vz (m:=field (.ref e) 4) (aaI e1 rfl (x:=.none) rfl (vz (m:=mkInt i) (wpAny_mkInt ?_)))));refine vz (m:=setField (.ref e) 3 (rawInt ((i:Int)+1))) (aaC e1 (by simp) λh2 e2 s2=>?_);have e2:IsEnum h2 e j ((i:Int)+1) old:=e2;have s2:Heap.SameBut e h1 h2:=s2;refine vz (m:=setField (.ref e) 4 .none) (aaC (s:={s with heap:=h2,toks:=s.toks+1}) e2 (by simp) λh3 e3 s3=>?_);have e3:IsEnum h3 e j ((i:Int)+1) old:=e3;have s3:Heap.SameBut e h2 h3:=s3;refine vz (m:=newTuple [.int i s.toks,x]) (acq ?_);have sz:h3.objs.size=h1.objs.size:=by rw[s3.1,s2.1]
 have le:e<h1.objs.size:=ZG e1;have e4:IsEnum (h3.push {cls:=.type "tuple",data:=.seq #[.int i s.toks,x]}) e j ((i:Int)+1) old:=Zz _ e3;have t4:IsPair (h3.push {cls:=.type "tuple",data:=.seq #[.int i s.toks,x]}) h1.objs.size (.int i s.toks) x:=by rw[<-sz];exact ZR _ rfl
 have k4:∀c o,c≠e->h1.get? c=some o->(h3.push {cls:=.type "tuple",data:=.seq #[.int i s.toks,x]}).get? c=some o:=λc o n q=>Zz _ (s3.extBut _ _ n (s2.extBut _ _ n q));have hg:(h3.push {cls:=.type "tuple",data:=.seq [Value.int i s.toks,x].toArray})=h3.push {cls:=.type "tuple",data:=.seq #[.int i s.toks,x]}:=rfl;dsimp only;rw[hg,sz];generalize h3.push {cls:=.type "tuple",data:=.seq #[.int i s.toks,x]}=h4 at e4 t4 k4 ⊢;refine vz (m:=Builtin.SmallTypes.ownedTupleIsFree (.ref e)) (vz (m:=field (.ref e) 0) (aaI e4 rfl (x:=.none) rfl (ZC ?_)));simp only[abL];refine vz (acJ (vz (aaI e4 rfl (x:=old) rfl (vz (aaC e4 (by simp) λh5 e5 s5=>?_)))));have e5:IsEnum h5 e j ((i:Int)+1) x:=e5;have s5:Heap.SameBut e h4 h5:=s5;refine vz (m:=Builtin.SmallTypes.ownedTupleHandOut (.ref e) (.ref h1.objs.size)) (vz (m:=setField (.ref e) 0 (rawInt h1.objs.size)) (aaC (s:={s with heap:=h5,toks:=s.toks+1}) e5 (by simp) λh6 e6 s6=>?_));have e6:IsEnumOut h6 e j ((i:Int)+1) x h1.objs.size:=e6;have s6:Heap.SameBut e h5 h6:=s6;refine aaC (s:={s with heap:=h6,toks:=s.toks+1}) e6 (by simp) λh7 e7 s7=>?_;have s7:Heap.SameBut e h6 h7:=s7;have on:∀c o,c≠e->h4.get? c=some o->h7.get? c=some o:=λc o n q=>s7.extBut _ _ n (s6.extBut _ _ n (s5.extBut _ _ n q));exact vz (ac6 (ZC (k h7 e7 (on _ _ (aam le) t4) λc o n q=>on c o n (k4 c o n q))))
theorem BX{z:Addr}{Q:Value->Shared->Prop}(t:s.TypeIs (.ref z) "zip")(h:wpAny (model P w) A.in1 (Builtin.«zip.__next__» ⟨[.ref z],[]⟩) (λf s'=>∃x,f=.done (.ret x)/\Q x s') E s):wpAny (model P w) A (Builtin.SmallTypes.nextOf (.ref z)) Q E s:=by
 refine vz (aaj t aaN (aah aaN t abX (aa5 h (λf s' r=>?_) λ_ _ z=>z) (abP _)));obtain⟨x,rfl,q⟩:=r;exact⟨x,rfl,ZC q⟩
theorem S6(z:Addr)(TI TO:Addr)(f0:Value):Meets (Builtin.«enumerate.__new__» ⟨[.type "enumerate",.ref z],[]⟩) λ_ R s=>
 IsZip s.heap z TI TO f0/\R (.ok (.ret (.ref s.heap.objs.size))) {s with heap:=s.heap.push (nO z)}:=by
 refine .of_wp λprog w A R s h=>?_;rcases s with⟨hp,g,d,tk,os⟩;have sub:=sub_enumerate;have fin:=h.2;have hz:IsZip (Shared.heap ⟨hp,g,d,tk,os⟩) z TI TO f0:=h.1
 wp_walk using wpAny_loadPart' h.1
 refine wpAny_stack_any λ_=>ZC ?_;split<;>(try (rename_i c _ _ _ _ _;cases(c==Value.type "enumerate")))<;>(wp_walk using wpAny_loadPart' h.1,ab1 (s:=⟨hp,g,d,tk,os⟩) hz)<;>exact⟨_,rfl,fin⟩
theorem wU{z TI TO:Addr}{f0:Value}{Q:Value->Shared->Prop}(hz:IsZip s.heap z TI TO f0)
 (k:∀h',IsEnum h' s.heap.objs.size z 0 .none->(∀b o,s.heap.get? b=some o->h'.get? b=some o)->Q (.ref s.heap.objs.size) {s with heap:=h'}):
 wpAny (model P w) A (call (.type "enumerate") [.ref z]) Q E s:=by
 have top:=ZR s.heap (o:=nO z) rfl;exact callType_new aeK (by decide) (adX _) (aea _) (λ_=>aej _ _) aeb (S6 z TI TO f0)
  ⟨hz,⟨_,top,rfl⟩,k _ top λb o q=>Zz _ q⟩
end
structure zX(z TI TO i1 i2 i3 l1 l2 l3:Addr):Prop where
 nd:[z,TI,TO,i1,i2,i3].Nodup
 l1:l1∉[z,TI,TO,i1,i2,i3]
 l2:l2∉[z,TI,TO,i1,i2,i3]
 l3:l3∉[z,TI,TO,i1,i2,i3]
section
variable{P:Program}{w:World}{A:Around}{E:Value->Shared->Prop}{s:Shared}
theorem Uy{z TI TO i1 i2 i3 l1 l2 l3:Addr}{m:Nat}{us vs ws:Array Value}{Q:PySem.Fin->Shared->Prop}(hh:A.handled=none)(D:zX z TI TO i1 i2 i3 l1 l2 l3)(hz:IsZip s.heap z TI TO .none)(hTI:jr s.heap TI (.ref i1) (.ref i2) (.ref i3))(hTO:∃a b c,jr s.heap TO a b c)
 (a1:s.heap.IsListIter i1 l1 m) (b1:s.heap.IsList l1 us) (a2:s.heap.IsListIter i2 l2 m) (b2:s.heap.IsList l2 vs) (a3:s.heap.IsListIter i3 l3 m) (b3:s.heap.IsList l3 ws) (he:us.size=vs.size/\vs.size=ws.size)
 (go:∀x y u h',us[m]? = some x->vs[m]? = some y->ws[m]? = some u->IsZip h' z TI TO (rawInt s.heap.objs.size)->jr h' TO x y u->h'.IsListIter i1 l1 (m+1)->h'.IsListIter i2 l2 (m+1)->h'.IsListIter i3 l3 (m+1)->jr h' s.heap.objs.size x y u->(∀c o,c∉[z,TO,i1,i2,i3]->s.heap.get? c=some o->h'.get? c=some o)->Q (.done (.ret (.ref s.heap.objs.size))) {s with heap:=h'})
 (no:∀h' e,us[m]? = none->(∀c o,c∉[z,TO,i1,i2,i3]->s.heap.get? c=some o->h'.get? c=some o)->(∃o,h'.get? e=some o/\o.cls=.type "StopIteration")->E (.ref e) {s with heap:=h'}):
 wpAny (model P w) A (Builtin.«zip.__next__» ⟨[.ref z],[]⟩) Q E s:=by
 obtain⟨ta,tb,tc,hTO⟩:=hTO;obtain⟨nd,n1,n2,n3⟩:=D;simp only[aaK,ZP,aao,abz,afe,acr,and_true,ad6]at nd n1 n2 n3;obtain⟨⟨zTI,zTO,z1,z2,z3⟩,⟨TITO,TI1,TI2,TI3⟩,⟨TO1,TO2,TO3⟩,⟨i12,i13⟩,i23⟩:=nd;have all:us[m]? = none\/∃x y u,us[m]? = some x/\vs[m]? = some y/\ws[m]? = some u:=by
  by_cases hm:m<us.size
  ·exact .inr ⟨us[m],vs[m],ws[m],aae hm,aae (by omega),aae (by omega)⟩
  ·exact .inl (abV (by omega))
 have sm:3<=sizeLine:=by rw[aaL];decide
 have sm':3<=sizeLine+1:=ad1 sm;refine vz (m:=field (.ref z) 2) (aaI hz rfl (x:=.bool false) rfl (vz (m:=field (.ref z) 3) (aaI hz rfl (x:=.ref TI) rfl (vz (aa0 hTI rfl ?_)))));refine vz (m:=Builtin.SmallTypes.ownedTupleIsFree (.ref z)) (vz (m:=field (.ref z) 0) (aaI hz rfl (x:=.none) rfl (ZC ?_)));simp only[abL];refine vz (acJ (vz (aaI hz rfl (x:=.ref TO) rfl (vz (aaC hz (by simp) λg0 q0 s0=>?_)))));have q0:IsZip g0 z TI TO .ellipsis:=q0;refine vz ?_;simp only[List.zipIdx_cons,List.zipIdx_nil,acZ,adU];refine vz (vz (adx (vz (m:=Builtin.SmallTypes.nextOf (.ref i1)) ?_)));have c1:=a1.extBut s0.extBut (aal z1);have d1:=b1.extBut s0.extBut n1.1;rcases all with e1|⟨x,y,u,e1,e2,e3⟩
 ·refine ab5 hh c1 d1 e1 λg1 e x1 hs=>?_;obtain⟨oe,ho,hc⟩:=hs;have zg:IsZip g1 z TI TO .ellipsis:=x1 _ _ z1 q0;have ne:e≠z:=λq=>by
   subst q;rw[show g1.get? e=_ from zg]at ho;cases ho;injection hc with hc;exact absurd hc (by decide)
  exact aaC (s:={s with heap:=g1}) zg (by simp) λg2 _ s2=>no g2 e e1 (λc o nc q=>s2.extBut _ _ (λk=>nc (by simp[k])) (x1 _ _ (λk=>nc (by simp[k])) (s0.extBut _ _ (λk=>nc (by simp[k])) q))) ⟨oe,s2.extBut _ _ ne ho,hc⟩
 ·refine aa1 c1 d1 e1 λg1 j1 s1=>ZC ?_;have T1:jr g1 TO ta tb tc:=s1.extBut _ _ TO1 (s0.extBut _ _ (aal zTO) hTO);refine vz (aa0 T1 rfl (vz (uZ (s:={s with heap:=g1}) T1 (ws:=#[x,tb,tc]) rfl sm sm' λg2 T2 s2=>vz (ac6 (ZC ?_)))));refine vz (vz (adx (vz (m:=Builtin.SmallTypes.nextOf (.ref i2)) ?_)));have s2:Heap.SameBut TO g1 g2:=s2;have c2:=((a2.extBut s0.extBut (aal z2)).extBut s1.extBut (aal i12)).extBut s2.extBut (aal TO2);have d2:=((b2.extBut s0.extBut n2.1).extBut s1.extBut n2.2.2.2.1).extBut s2.extBut n2.2.2.1;refine aa1 c2 d2 e2 λg3 j3 s3=>ZC ?_;have s3:Heap.SameBut i2 g2 g3:=s3;have T3:jr g3 TO x tb tc:=s3.extBut _ _ TO2 T2;refine vz (aa0 T3 rfl (vz (uZ (s:={s with heap:=g3}) T3 (ws:=#[x,y,tc]) rfl sm sm' λg4 T4 s4=>vz (ac6 (ZC ?_)))));refine vz (vz (adx (vz (m:=Builtin.SmallTypes.nextOf (.ref i3)) ?_)));have s4:Heap.SameBut TO g3 g4:=s4;have c3:=((((a3.extBut s0.extBut (aal z3)).extBut s1.extBut (aal i13)).extBut s2.extBut (aal TO3)).extBut s3.extBut (aal i23)).extBut s4.extBut (aal TO3);have d3:=((((b3.extBut s0.extBut n3.1).extBut s1.extBut n3.2.2.2.1).extBut s2.extBut n3.2.2.1).extBut s3.extBut n3.2.2.2.2.1).extBut s4.extBut n3.2.2.1;refine aa1 c3 d3 e3 λg5 j5 s5=>ZC ?_;have s5:Heap.SameBut i3 g4 g5:=s5;have T5:jr g5 TO x y tc:=s5.extBut _ _ TO3 T4;refine vz (aa0 T5 rfl (vz (uZ (s:={s with heap:=g5}) T5 (ws:=#[x,y,u]) rfl sm sm' λg6 T6 s6=>vz (ac6 (ZC (ZC ?_))))));have s6:Heap.SameBut TO g5 g6:=s6;refine vz (aa0 T6 rfl (vz (acq ?_ sm)));have zs:g6.objs.size=s.heap.objs.size:=by rw[s6.1,s5.1,s4.1,s3.1,s2.1,s1.1,s0.1]
  have up:∀c o,c≠z->c≠TO->c≠i1->c≠i2->c≠i3->s.heap.get? c=some o->g6.get? c=some o:=λc o k1 k2 k3 k4 k5 q=>s6.extBut _ _ k2 (s5.extBut _ _ k5 (s4.extBut _ _ k2 (s3.extBut _ _ k4 (s2.extBut _ _ k2 (s1.extBut _ _ k3 (s0.extBut _ _ k1 q))))));have q6:IsZip g6 z TI TO .ellipsis:=s6.extBut _ _ zTO (s5.extBut _ _ z3 (s4.extBut _ _ zTO (s3.extBut _ _ z2 (s2.extBut _ _ zTO (s1.extBut _ _ z1 q0)))));have q7:IsZip (g6.push {cls:=.type "tuple",data:=.seq #[x,y,u]}) z TI TO .ellipsis:=Zz _ q6;have ltz:z<g6.objs.size:=ZG q6;refine vz (m:=Builtin.SmallTypes.ownedTupleHandOut (.ref z) (.ref g6.objs.size)) (vz (m:=setField (.ref z) 0 (rawInt g6.objs.size)) (aaC q7 (by simp) λg8 q8 s8=>?_));have q8:IsZip g8 z TI TO (rawInt g6.objs.size):=q8;refine aaC (s:={s with heap:=g8}) q8 (by simp) λg9 q9 s9=>ZC ?_;have s8:Heap.SameBut z (g6.push {cls:=.type "tuple",data:=.seq #[x,y,u]}) g8:=s8;have s9:Heap.SameBut z g8 g9:=s9;have on:∀c o,c≠z->g6.get? c=some o->g9.get? c=some o:=λc o k1 q=>s9.extBut _ _ k1 (s8.extBut _ _ k1 (Zz _ q));have pr:jr g9 g6.objs.size x y u:=s9.extBut _ _ (aam ltz) (s8.extBut _ _ (aam ltz) (ZR _ rfl));have q:=go x y u g9 e1 e2 e3 (by rw[<-zs];exact q9) (on _ _ (aal zTO) T6)
   ((((((j1.extBut s2.extBut (aal TO1)).extBut s3.extBut i12).extBut s4.extBut (aal TO1)).extBut s5.extBut i13).extBut s6.extBut (aal TO1)).at λo e=>on _ o (aal z1) e)
   ((((j3.extBut s4.extBut (aal TO2)).extBut s5.extBut i23).extBut s6.extBut (aal TO2)).at λo e=>on _ o (aal z2) e) ((j5.extBut s6.extBut (aal TO3)).at λo e=>on _ o (aal z3) e) (by rw[<-zs];exact pr) λc o nc e=>on c o (λk=>nc (by simp[k])) (up c o (λk=>nc (by simp[k])) (λk=>nc (by simp[k])) (λk=>nc (by simp[k])) (λk=>nc (by simp[k])) (λk=>nc (by simp[k])) e)
  rw[<-zs]at q;exact q
theorem Hb{z TI TO i1 i2 i3 l1 l2 l3:Addr}{m:Nat}{us vs ws:Array Value}{Q:Option Value->Shared->Prop}(hh:A.handled=none)(D:zX z TI TO i1 i2 i3 l1 l2 l3)(hz:IsZip s.heap z TI TO .none)(hTI:jr s.heap TI (.ref i1) (.ref i2) (.ref i3))(hTO:∃a b c,jr s.heap TO a b c)
 (a1:s.heap.IsListIter i1 l1 m) (b1:s.heap.IsList l1 us) (a2:s.heap.IsListIter i2 l2 m) (b2:s.heap.IsList l2 vs) (a3:s.heap.IsListIter i3 l3 m) (b3:s.heap.IsList l3 ws) (he:us.size=vs.size/\vs.size=ws.size)
 (go:∀x y u h',us[m]? = some x->vs[m]? = some y->ws[m]? = some u->IsZip h' z TI TO (rawInt s.heap.objs.size)->jr h' TO x y u->h'.IsListIter i1 l1 (m+1)->h'.IsListIter i2 l2 (m+1)->h'.IsListIter i3 l3 (m+1)->jr h' s.heap.objs.size x y u->(∀c o,c∉[z,TO,i1,i2,i3]->s.heap.get? c=some o->h'.get? c=some o)->Q (some (.ref s.heap.objs.size)) {s with heap:=h'})
 (no:∀h',us[m]? = none->(∀c o,c∉[z,TO,i1,i2,i3]->s.heap.get? c=some o->h'.get? c=some o)->Q none {s with heap:=h'}):
 wpAny (model P w) A (pyNext (.ref z)) Q E s:=by
 have hTy:s.TypeIs (.ref z) "zip":=⟨_,hz,rfl⟩;unfold pyNext;refine vz (abw (aaj (name:=Str.ofString "__next__") hTy aaN (aah aaN hTy abX (Uy (A:=A.in1) hh D hz hTI hTO a1 b1 a2 b2 a3 b3 he
  (λx y u h' e1 e2 e3 k1 k2 k3 k4 k5 k6 k7=>⟨_,rfl,ZC (go x y u h' e1 e2 e3 k1 k2 k3 k4 k5 k6 k7)⟩) λh' e hn hk he=>?_) (abP _))))
 obtain⟨o,ho,hc⟩:=he;exact vz (abI (T:="StopIteration") (b:=true) ⟨o,ho,hc⟩ acp (ZC (no _ hn hk)))
noncomputable def lw(l:Addr):Obj:={cls:=.type "list_iterator",data:=.fields #[.ref l,.int 0 0]}
noncomputable def tri(a b c:Value):Obj:={cls:=.type "tuple",data:=.seq #[a,b,c]}
noncomputable def Wz(TI TO:Addr):Obj:={cls:=.type "zip",data:=.fields #[.none,.bool false,.bool false,.ref TI,.ref TO]}
def uG(h:Heap)(l1 l2 l3:Addr):Heap:=
 (((((h.push (lw l1)).push (lw l2)).push (lw l3)).push (tri (.ref h.objs.size) (.ref (h.objs.size+1)) (.ref (h.objs.size+2)))).push (tri .none .none .none)).push (Wz (h.objs.size+3) (h.objs.size+4))
theorem QW(l1 l2 l3:Addr)(us vs ws:Array Value):Meets (Builtin.«zip.__new__» ⟨[.type "zip",.ref l1,.ref l2,.ref l3],[]⟩) λ_ R s=>
 s.heap.IsList l1 us/\s.heap.IsList l2 vs/\s.heap.IsList l3 ws/\R (.ok (.ret (.ref (s.heap.objs.size+5)))) {s with heap:=uG s.heap l1 l2 l3}:=by
 refine .of_wp λprog w A R s h=>?_;rcases s with⟨hp,g,d,tk,os⟩;obtain⟨m1,m2,m3,fin⟩:=h;have sub:=sub_zip;have n1:Heap.IsList (Shared.heap ⟨hp,g,d,tk,os⟩) l1 us:=m1;have n2:Heap.IsList (Shared.heap ⟨hp.push (lw l1),g,d,tk,os⟩) l2 vs:=aen m2 _;have n3:Heap.IsList (Shared.heap ⟨(hp.push (lw l1)).push (lw l2),g,d,tk,os⟩) l3 ws:=aen (aen m3 _) _;unfold lw at n2 n3;wp_walk using abx n1,abx n2,abx n3;refine⟨_,rfl,?_⟩;simp only[aaZ];exact fin
theorem WD(a b c:Value):checkTypeCall "zip" ⟨[a,b,c],[]⟩=pure ():=by kernel_rfl
theorem WK(a b c:Value):checkBuiltinCall "zip.__new__" ⟨[.type "zip",a,b,c],[]⟩=pure ():=by kernel_rfl
theorem WF(a b c d:Value):argsOk "object.__init__" ⟨[a,b,c,d],[]⟩:=by
 unfold argsOk;rw[signature?_of (id:="object.__init__") (n:=['_','_','t','i','n','i','_','_']) (o:=['t','c','e','j','b','o']) (by kernel_rfl) PySem.F.owner_object];kernel_rfl
theorem Ld{l1 l2 l3:Addr}{us vs ws:Array Value}{Q:Value->Shared->Prop}(m1:s.heap.IsList l1 us)(m2:s.heap.IsList l2 vs)(m3:s.heap.IsList l3 ws)
 (k:∀h',IsZip h' (s.heap.objs.size+5) (s.heap.objs.size+3) (s.heap.objs.size+4) .none->jr h' (s.heap.objs.size+3) (.ref s.heap.objs.size) (.ref (s.heap.objs.size+1)) (.ref (s.heap.objs.size+2))->jr h' (s.heap.objs.size+4) .none .none .none->
  h'.IsListIter s.heap.objs.size l1 0->h'.IsListIter (s.heap.objs.size+1) l2 0->h'.IsListIter (s.heap.objs.size+2) l3 0->(∀c o,s.heap.get? c=some o->h'.get? c=some o)->Q (.ref (s.heap.objs.size+5)) {s with heap:=h'}):
 wpAny (model P w) A (call (.type "zip") [.ref l1,.ref l2,.ref l3]) Q E s:=by
 have up:∀(h:Heap)(o p:Obj)(b:Addr),h.get? b=some p->(h.push o).get? b=some p:=λh o p b e=>Zz _ e;have at_:∀(h:Heap)(o:Obj)(n:Nat),h.objs.size=n->o.isFreed=false->(h.push o).get? n=some o:=λh o n e f=>by rw[<-e];exact ZR _ f
 let h1:=s.heap.push (lw l1)
 let h2:=h1.push (lw l2)
 let h3:=h2.push (lw l3)
 let h4:=h3.push (tri (.ref s.heap.objs.size) (.ref (s.heap.objs.size+1)) (.ref (s.heap.objs.size+2)))
 let h5:=h4.push (tri .none .none .none)
 have z1:h1.objs.size=s.heap.objs.size+1:=aaZ ..;have z2:h2.objs.size=s.heap.objs.size+2:=by show(h1.push _).objs.size=_;rw[aaZ,z1]
 have z3:h3.objs.size=s.heap.objs.size+3:=by show(h2.push _).objs.size=_;rw[aaZ,z2]
 have z4:h4.objs.size=s.heap.objs.size+4:=by show(h3.push _).objs.size=_;rw[aaZ,z3]
 have z5:h5.objs.size=s.heap.objs.size+5:=by show(h4.push _).objs.size=_;rw[aaZ,z4]
 have g6:(uG s.heap l1 l2 l3).get? (s.heap.objs.size+5)=some (Wz (s.heap.objs.size+3) (s.heap.objs.size+4)):=at_ h5 _ _ z5 rfl;have g5:(uG s.heap l1 l2 l3).get? (s.heap.objs.size+4)=some (tri .none .none .none):=up _ _ _ _ (at_ h4 _ _ z4 rfl);have g4:(uG s.heap l1 l2 l3).get? (s.heap.objs.size+3)=some (tri (.ref s.heap.objs.size) (.ref (s.heap.objs.size+1)) (.ref (s.heap.objs.size+2))):=up _ _ _ _ (up _ _ _ _ (at_ h3 _ _ z3 rfl));have g3:(uG s.heap l1 l2 l3).get? (s.heap.objs.size+2)=some (lw l3):=up _ _ _ _ (up _ _ _ _ (up _ _ _ _ (at_ h2 _ _ z2 rfl)));have g2:(uG s.heap l1 l2 l3).get? (s.heap.objs.size+1)=some (lw l2):=up _ _ _ _ (up _ _ _ _ (up _ _ _ _ (up _ _ _ _ (at_ h1 _ _ z1 rfl))));have g1:(uG s.heap l1 l2 l3).get? s.heap.objs.size=some (lw l1):=up _ _ _ _ (up _ _ _ _ (up _ _ _ _ (up _ _ _ _ (up _ _ _ _ (at_ s.heap _ _ rfl rfl)))));exact callType_new PySem.F.called_zip (by decide) (WD _ _ _) (WK _ _ _) (λobj=>WF obj _ _ _) PySem.F.entry_zip_new (QW l1 l2 l3 us vs ws)
  ⟨m1,m2,m3,⟨_,g6,rfl⟩,k _ g6 g4 g5 ⟨_,g1,rfl,rfl⟩ ⟨_,g2,rfl,rfl⟩ ⟨_,g3,rfl,rfl⟩ λc o e=>up _ _ _ _ (up _ _ _ _ (up _ _ _ _ (up _ _ _ _ (up _ _ _ _ (up _ _ _ _ e)))))⟩
end
section
variable{P:Program}{w:World}{A:Around}{E:Value->Shared->Prop}{s:Shared}{d:Addr}{es:Array DictEntry}{ep:Nat}
theorem Kq{Q:Value->Shared->Prop}(hd:(d==sysModules)=false)(hm:Wt s.heap d es ep)
 (k:Q (.ref s.heap.objs.size) {s with heap:=s.heap.push {cls:=.type "dict_keyiterator",data:=.fields #[.ref d,.int 0 0,.int es.size 0,.int ep 0]}}):
 wpAny (model P w) A (pyIter (.ref d)) Q E s:=by
 obtain⟨o,ho,hx,hdat⟩:=hm;have hTy:s.TypeIs (.ref d) "dict":=⟨o,ho,hx.1⟩;refine acH hTy aeB (aah aeB hTy PySem.F.entry_dict_iter ?_ (PySem.F.args_dict_iter_1 _));refine vz (m:=Builtin.Dict.dictSlotNone "__iter__" ⟨[.ref d],[]⟩) (vz (wpAny_notOrdered_dict hTy (adz (a:=Value.ref d) rfl (vz (m:=Builtin.Dict.showsAll d) ?_))));unfold Builtin.Dict.showsAll;rw[aaa (by rw[hd];decide)];refine ZC (vz (wpAny_dictEntries ho hdat (vz (wpAny_dictEpoch ho hdat (vz (aa7 (ZC ⟨_,rfl,"dict_keyiterator",_,⟨_,ZR _ rfl,rfl⟩,abu.lookup,?_⟩)))))));simpa[rawInt]using k
theorem Cq{it:Addr}{i:Nat}{Q:Option Value->Shared->Prop}(hh:A.handled=none)(hit:s.heap.IsKeyIter it d i es.size ep)(hm:Wt s.heap d es ep)
 (go:∀e h',es[i]? = some e->h'.IsKeyIter it d (i+1) es.size ep->Heap.SameBut it s.heap h'->Q (some e.key) {s with heap:=h'})
 (no:∀h',es[i]? = none->Heap.ExtBut it s.heap h'->Q none {s with heap:=h'}):wpAny (model P w) A (pyNext (.ref it)) Q E s:=by
 have t0:=hit.typeIs;obtain⟨o,ho,hc,hd⟩:=hit;obtain⟨od,hod,_,hdd⟩:=hm;have ow:Builtin.Dict_items.ownsTuple "dict_keyiterator"=false:=by decide
 unfold pyNext;refine vz (abw (aaj (name:=Str.ofString "__next__") t0 abu (aah abu t0 PySem.F.entry_dict_keyiterator_next ?_ (PySem.F.args_dict_keyiterator_next_1 _))));refine vz (ZC (vz (vz (vz (acs t0 (ZC (vz (adh ho hd ?_))))))));simp only[ow,aa3,abT];have nn:¬ (Value.ref d==Value.none)=true:=by intro z;cases z
 refine(?_:wpAny _ _ (ite ((Value.ref d==Value.none)=true) _ _) _ _ _);rw[aaa nn];refine vz (ZC (vz (wpAny_dictEntries hod hdd ?_)));rw[aaa (by simp)];refine vz (ZC (vz (wpAny_dictEpoch hod hdd ?_)));rw[aaa (by simp)];refine ZC ?_;cases hx:es[i]? with
 |none=>
   simp only[show ¬ ((i:Int)<0)from by omega,abT,aax,hx];refine vz (vz (acs t0 (ZC (vz (m:=setField (.ref it) 0 .none) (adf ho hd (by simp) ?_)))));refine pH (s:={s with heap:=s.heap.update it (Obj.mapFields (·.setIfInBounds 0 .none))}) hh λh2 e oe k2 ge ce=>?_;exact vz (abI (T:="StopIteration") (b:=true) ⟨oe,ge,ce⟩ acp (ZC (no h2 hx λb ob hb q=>k2 _ _ ((abo ..).extBut b ob hb q))))
 |some e=>
   simp only[show ¬ ((i:Int)<0)from by omega,abT,aax,hx];refine vz (vz (acs t0 (ZC (vz (wpAny_isOneOf_keyiter t0 (vz (m:=setField (.ref it) 1 (rawInt ((i:Int)+1))) (adf ho hd (by simp) ?_)))))));have j1:(s.heap.update it (Obj.mapFields (·.setIfInBounds 1 (rawInt ((i:Int)+1))))).IsKeyIter it d (i+1) es.size ep:=
    by
     refine⟨_,aaG _ ho ?_,?_,?_⟩
     ·exact adm (ab3 hd _)
     ·rw[ad2,hc]
     ·rw[ab3 hd];simp[rawInt]
   have t1:=Heap.IsKeyIter.typeIs (s:={s with heap:=s.heap.update it (Obj.mapFields (·.setIfInBounds 1 (rawInt ((i:Int)+1))))}) j1;exact vz (aa2 (vz (wpAny_isOneOf_keyiter t1 (adz (a:=e.key) rfl (ZC ⟨_,rfl,ZC (go e _ hx j1 (abo ..))⟩)))))
end
end DL
namespace DL
open PySem
noncomputable def Y8:D->Bool
 |.non=>true|_=>false
def ql:D->Option D:=λd=>some (.bl (!Y8 d))
def rC(a b:ME):MI:=λδ=>(a δ).bind λx=>(b δ).bind λy=>match x,y with
 |.lst xs,.lst ys=>if xs.length=ys.length then some (cG 0 (gB xs ys))else none
 |_,_=>none
def oW(xs ys zs:List D):List D:=(xs.zip (ys.zip zs)).map λp=>.tup [p.1,p.2.1,p.2.2]
def vM(a b c:ME):MI:=λδ=>(a δ).bind λx=>(b δ).bind λy=>(c δ).bind λz=>match x,y,z with
 |.lst xs,.lst ys,.lst zs=>if xs.length=ys.length/\ys.length=zs.length then some (oW xs ys zs)else none
 |_,_,_=>none
noncomputable def OD(a:ME):MI:=λδ=>(a δ).bind λd=>match d with
 |.dic true ks _=>some ks|_=>none
def xN:List D->List D->D->Option D
 |k::ks,v::vs,z=>if dW k z=true then some v else xN ks vs z
 |_,_,_=>none
def Dc(d k:ME):ME:=λδ=>(d δ).bind λx=>(k δ).bind λz=>match x with
 |.dic true ks vs=>if sY z=true then xN ks vs z else none
 |_=>none
end DL
namespace DL
open PySem PySem.Spec PyProof.Rows L2
section
variable{X:Cx}{e k a b o:Expr}{me mk ma mb mo:ME}{pos p2 pos':Pos}{tg:Expr}
def YW(a:Addr)(o:Obj)(kvs:List (List Key×V)):It:=
 ⟨λi H=>H a=some (.frz o (.dT kvs))/\i<kvs.length,
  λi H v H'=>H'=H/\∃p b,kvs[i]? = some p/\H b=some (.tup (p.1.map kV))/\v=.ref b,
  λi H=>H a=some (.frz o (.dT kvs))/\i=kvs.length⟩
theorem JN{P:Program}{w:World}{K:PySem.W.Frag}(a it:Addr)(o:Obj)(kvs:List (List Key×V))(es:Array DictEntry)(ep:Nat)(hes:o.data=.dict es ep)(hsz:es.size=kvs.length):
 Turn P w K tg (YW a o kvs) [it] it (λi h=>h.IsKeyIter it a i es.size ep) where
 mem:=by simp
 obj:=λi h st b hb=>by
  obtain⟨ob,g,_,gd⟩:=st;rw[ZW.mp hb];exact⟨ob,g,λv z=>by rw[gd]at z;cases z⟩
 keep:=λi h h' st k=>by
  obtain⟨ob,g,r⟩:=st;exact⟨ob,k it (by simp) _ g,r⟩
 item:=by
  intro X hP hw hK hc i pins s σ H E I hf st hg;subst hP hw hK;obtain⟨hH,hi⟩:=hg;obtain⟨_,es',ep',hraw,hes',_,hat⟩:=Gr (I.hok a _ hH);rw[hes]at hes';cases hes';obtain⟨b,u,en,e1,e2,e3,e4,e5⟩:=hat i kvs[i] (ZM hi);obtain⟨f0,f1,f2,f3,f4,f5⟩:=hf it (by simp);refine Cq (I.ok.hd hc) st hraw (λen' h1 z j1 sb=>?_) λ_ z _=>absurd (z.symm.trans e1) (by simp);cases e1.symm.trans z;have I1:L2.Inv X pins σ H {s with heap:=h1}:=I.turned (t':=s.toks) (λc ob hb q=>(sb.2 c hb).trans q) f0 f1 f3 f4 f5;obtain⟨ob,g,gc,gd⟩:=id j1;exact⟨_,rfl,Iv (s:={s with heap:=h1}) g gc gd (by decide) ⟨.ref b,H,I1,by rw[e2];rfl,⟨rfl,kvs[i],b,ZM hi,e4,rfl⟩,j1,λc hc'=>(hf c hc').1⟩⟩
 done:=by
  intro X hP hw hK hc i pins s σ H E I hf st hg;subst hP hw hK;obtain⟨hH,hi⟩:=hg;obtain⟨_,es',ep',hraw,hes',_,_⟩:=Gr (I.hok a _ hH);rw[hes]at hes';cases hes';exact Cq (I.ok.hd hc) st hraw (λe h' z=>absurd (abi.mp z).1 (by omega)) λh' _ ext=>⟨rfl,iH (fp:=[it]) (t':=s.toks) I hf λb ob hb q=>ext b ob (λz=>hb (by simp[z])) q⟩
 self:=λA i s Q E st h=>by
  obtain⟨ob,g,gc,gd⟩:=st;have t:s.TypeIs (.ref it) "dict_keyiterator":=⟨ob,g,gc⟩;refine acH t ac2 (aah ac2 t PySem.F.entry_dict_keyiterator_iter ?_ (PySem.F.args_dict_keyiterator_iter_1 _));exact adz (a:=.done (.ret (.ref it))) rfl ⟨_,rfl,"dict_keyiterator",_,t,abu.lookup,h⟩
theorem JH{K:PySem.W.Frag}{B:Hp}{a:Addr}{o:Obj}{kvs:List (List Key×V)}(h:B a=some (.frz o (.dT kvs))):Walk K (YW a o kvs) B (kvs.map λp=>kT p.1):=by
 intro i os1 H1 L g;have ha:=hide_le _ _ (g _ _ h);refine⟨λe he=>?_,λhl=>⟨ha,by rw[hl,ZK]⟩⟩;have hi:i<kvs.length:=by have:=(ZV.mp he).1;rw[ZK]at this;exact this
 refine⟨⟨ha,hi⟩,λv H2 z=>?_⟩;obtain⟨rfl,p,b,hp,hb,rfl⟩:=z;rw[aad,hp]at he;cases he;exact⟨Same.refl _,.tup (vN L hb) (xZ p.1)⟩
def VM(te:TE):TI:=λσ H R=>te σ H λx H1=>∃a o kvs,x=.ref a/\H1 a=some (.frz o (.dT kvs))/\R (YW a o kvs) H1
theorem RK{te:TE}(he:PE X e te):PI X tg e (VM te):=by
 intro pins s σ H R I h;refine cW (he pins s σ H _ I h) λv s1 ⟨x,H1,I1,r1,q1⟩=>?_;obtain⟨a,o,kvs,rfl,hH,q⟩:=q1;cases r1;obtain⟨hns,es,ep,hraw,hes,hsz,_⟩:=Gr (I1.hok a _ hH);refine Kq hns hraw ?_;refine⟨_,[_],_,_,H1,rfl,I1.kept (t':=s1.toks) λb u z=>Zz _ z,JN a _ o kvs es ep hes hsz,⟨_,ZR _ rfl,rfl,rfl⟩,λb hb=>?_,q⟩;rw[ZW.mp hb];exact I1.fpOk (ZS _) (I1.hok.fresh (ZS _))
theorem Jg(he:DE X e me):DI X tg e (OD me):=by
 obtain⟨te,pe,qe⟩:=he;refine⟨_,RK pe,λos σ H δ xs R s m k=>?_⟩;obtain⟨d,e1,m⟩:=ao m;refine qe os σ H δ d _ s e1 λv H1 g1 r1=>?_;split at m
 ·rename_i ks vs;cases m;obtain⟨a,ys,rfl,hF,hv⟩:=r1.dic_inv;rcases hF with⟨z,_⟩|⟨_,o,kvs,h1,rfl,rfl⟩
  ·cases z
  exact⟨a,o,kvs,rfl,hide_le _ _ h1,k _ H1 g1 (JH h1)⟩
 ·cases m
theorem Uo(a b:Key):dW (kD a) (kD b)=decide (a=b):=by
 cases a with
 |inl i=>
   cases b with
   |inl j=>simp only[kD,dW];rw[aau];simp|inr y=>simp only[kD,dW];rw[aau];simp
 |inr x=>
   cases b with
   |inl j=>simp only[kD,dW];rw[aau];simp|inr y=>simp only[kD,dW];rw[aau];simp
theorem Ou:∀a b:List Key,il (a.map kD) (b.map kD)=decide (a=b)
 |[],[]=>by simp[il]|[],_::_=>by simp[il]|_::_,[]=>by simp[il]|x::a,y::b=>by
   rw[ZD,ZD,il,Uo,Ou a b,aau];simp
theorem Um(a b:List Key):dW (kT a) (kT b)=decide (a=b):=by
 unfold kT;rw[dW,Ou]
theorem Cj{K:PySem.W.Frag}{B:Hp}(z:List Key){d:D}:∀{kvs:List (List Key×V)}{vs:List D},Dens K B vs (kvs.map (·.2))->xN (kvs.map λp=>kT p.1) vs (kT z)=some d->∃v,fO kvs z=some v/\Den K B d v
 |[],vs,h,e=>by
   rw[aa4]at e;cases vs<;>cases e
 |p::kvs,[],h,e=>by
   rw[ZD]at e;cases e
 |(q,x)::kvs,d'::vs,h,e=>by
   obtain⟨y,r,e1,h1,h2⟩:=h.uncons;rw[ZD]at e1;cases e1;rw[ZD,xN,Um]at e;by_cases hq:q=z
   ·rw[ZZ (by simpa using hq)]at e;cases e;exact⟨x,jE hq,h1⟩
   ·rw[aaa (by simpa using hq)]at e;obtain⟨v,v1,v2⟩:=Cj z h2 e;exact⟨v,(iV hq).trans v1,v2⟩
theorem zH(hu:X.A.units+1<cLine)(ho:DE X o mo)(hk:DE X k mk)(hs:Wr k):DE X (.Subscript o k pos) (Dc mo mk):=by
 obtain⟨to,po,qo⟩:=ho;obtain⟨tk,pk,qk⟩:=hk;refine⟨_,RQ hu po pk hs,λos σ H δ d Q s m kq=>?_⟩;obtain⟨x,e1,m⟩:=ao m;obtain⟨z,e2,m⟩:=ao m;refine qo os σ H δ x _ s e1 λv H1 g1 r1=>?_;refine qk os σ H1 δ z _ (s.mono g1) e2 λu H2 g2 r2=>?_;split at m
 ·rename_i ks vs;split at m
  ·rename_i hz;obtain⟨kk,rfl⟩:=zr hz;obtain⟨a,ys,rfl,hF,hv⟩:=(r1.mono g2.hd _ _).dic_inv;rcases hF with⟨z,_⟩|⟨_,ob,kvs,h1,rfl,rfl⟩
   ·cases z
   obtain⟨b,bs,rfl,hb,hbs⟩:=r2.tup_inv;have:=iQ hbs;subst this;obtain⟨y,y1,y2⟩:=Cj kk hv m;exact⟨a,y,rfl,.inr ⟨kvs,kk,b,.inr ⟨ob,hide_le _ _ h1⟩,rfl,hide_le _ _ hb,y1.symm⟩,kq _ H2 (g1.trans g2) y2⟩
  ·cases m
 ·cases m
theorem Sh{K:PySem.W.Frag}{H:Hp}{d:D}{x:V}(h:Den K H d x):decide (x=.non)=Y8 d:=by
 cases d with
 |non=>rw[h.non_inv];rfl|bl b=>rw[h.bl_inv];rfl|int i=>rw[h.int_inv];rfl|str i=>rw[h.str_inv];rfl|tup ds=>obtain⟨a,xs,rfl,_⟩:=h.tup_inv;rfl
 |lst ds=>obtain⟨a,xs,rfl,_⟩:=h.lst_inv;rfl
 |dic tk ks ds=>obtain⟨a,xs,rfl,_⟩:=h.dic_inv;rfl
theorem tH{j:Nat}(ha:DE X a ma):DT X (.Compare a [.IsNot] [.Constant .none j p2] pos) (tV (rR ql ma)):=by
 obtain⟨ta,pa,qa⟩:=ha;refine⟨_,Hx RX pa Nz (cu _),λos σ H δ z Q s m kq=>?_⟩;obtain⟨d,m1,m2⟩:=ao m;obtain⟨dx,e1,m1⟩:=ao m1;cases m1;cases m2;exact qa os σ H δ dx _ s e1 λx H1 g1 r1=>⟨rfl,_,by rw[Sh r1],kq H1 g1⟩
end
section
variable{X:Cx}{pins:List (Addr×Obj)}{σ:L2.St}{H:Hp}{s:Shared}
theorem tup_inv{fp:List Addr}{T:Addr}{xs:List V}{us:List Value}{h2:Heap}{tk':Nat}(I:L2.Inv X pins σ H s)(hf:∀b∈fp,mO X pins H b)(hlt:∀b∈fp,b<s.heap.objs.size)(hT:T=s.heap.objs.size)(r:Vals xs us)(hz:xs.length<=sizeLine)
 (hk:∀b o,b∉fp->s.heap.get? b=some o->h2.get? b=some o) (ht:h2.get? T=some {cls:=.type "tuple",data:=.seq us.toArray}):
 L2.Inv X pins σ (upd H T (.tup xs)) {s with heap:=h2,toks:=tk'}:=by
 subst hT;have I1:L2.Inv X pins σ (upd H s.heap.objs.size (.tup xs)) {s with heap:=s.heap.push {cls:=.type "tuple",data:=.seq us.toArray},toks:=tk'}:=
  I.laid (t':=tk') (λb o q=>Zz _ q) (ZS _) ⟨hz,us,r,adN _ _⟩
 have T1:=iH (t':=tk') (h':=h2) (fp:=fp) I1;refine T1 (λb hb=>⟨?_,(hf b hb).2⟩) λb o hb q=>?_
 ·rw[aR (Z1 (hlt b hb))];exact(hf b hb).1
 ·by_cases hc:b=s.heap.objs.size
  ·subst hc;have q':=(ZR s.heap (o:={cls:=.type "tuple",data:=.seq us.toArray}) rfl).symm.trans q;cases q';exact ht
  ·have q':(s.heap.push {cls:=.type "tuple",data:=.seq us.toArray}).get? b=some o:=q;have hl:=ZG q';rw[aaZ]at hl;have hb':b<s.heap.objs.size:=adR (ad3 hl) hc;refine hk b o hb ?_;obtain⟨q1,q2⟩:=ab4.mp q';have q3:s.heap.objs[b]? = some o:=by
    revert q1
    generalize s.heap=hh at hb' ⊢;cases hh;intro q1;simpa[Heap.push,adL,Z1 hb']using q1
   exact ab4.mpr ⟨q3,q2⟩
end
def Ws(K:PySem.W.Frag)(l1 l2 l3:Addr):It:=
 ⟨λi H=>∃xs ys zs x y z,SqL K H l1 xs/\SqL K H l2 ys/\SqL K H l3 zs/\(xs.length=ys.length/\ys.length=zs.length)/\xs[i]? = some x/\ys[i]? = some y/\zs[i]? = some z,
  λi H v H'=>∃x y z t,(∀xs,SqL K H l1 xs->xs[i]? = some x)/\(∀ys,SqL K H l2 ys->ys[i]? = some y)/\(∀zs,SqL K H l3 zs->zs[i]? = some z)/\H t=none/\v=.ref t/\H'=upd H t (.tup [x,y,z]),
  λi H=>∃xs ys zs,SqL K H l1 xs/\SqL K H l2 ys/\SqL K H l3 zs/\(xs.length=ys.length/\ys.length=zs.length)/\xs[i]? = none⟩
def YQ(z TI TO i1 i2 i3 l1 l2 l3:Addr)(i:Nat)(h:Heap):Prop:=IsZip h z TI TO .none/\jr h TI (.ref i1) (.ref i2) (.ref i3)/\(∃a b c,jr h TO a b c)/\h.IsListIter i1 l1 i/\h.IsListIter i2 l2 i/\h.IsListIter i3 l3 i
theorem got{xs:List V}{its:List Value}{i:Nat}{x:V}{u:Value}(rv:Vals xs its)(hx:xs[i]? = some x)(hu:its.toArray[i]? = some u):RelV x u:=by
 obtain⟨u',e1,e2⟩:=rv.get hx;have hu':its[i]? = some u:=by simpa using hu
 rw[hu']at e1;cases e1;exact e2
theorem JM{P:Program}{w:World}{K:PySem.W.Frag}{elts:List Expr}{k:Nat}{pos:Pos}{z TI TO i1 i2 i3 l1 l2 l3:Addr}(D:zX z TI TO i1 i2 i3 l1 l2 l3):
 Turn P w K (.Tuple elts k pos) (Ws K l1 l2 l3) [z,TI,TO,i1,i2,i3] z (YQ z TI TO i1 i2 i3 l1 l2 l3) where
 mem:=by simp
 obj:=λi h st b hb=>by
  obtain⟨a1,a2,⟨a,b',c',a3⟩,⟨o1,a4,_,c4⟩,⟨o2,a5,_,c5⟩,⟨o3,a6,_,c6⟩⟩:=st;have hb':b=z\/b=TI\/b=TO\/b=i1\/b=i2\/b=i3:=by simpa using hb
  rcases hb' with rfl|rfl|rfl|rfl|rfl|rfl
  ·exact⟨_,a1,λv z=>by cases z⟩
  ·exact⟨_,a2,λv z=>by cases z⟩
  ·exact⟨_,a3,λv z=>by cases z⟩
  ·exact⟨_,a4,λv z=>by rw[c4]at z;cases z⟩
  ·exact⟨_,a5,λv z=>by rw[c5]at z;cases z⟩
  ·exact⟨_,a6,λv z=>by rw[c6]at z;cases z⟩
 keep:=λi h h' st kp=>by
  obtain⟨a1,a2,⟨a,b',c',a3⟩,a4,a5,a6⟩:=st;exact⟨kp z (by simp) _ a1,kp TI (by simp) _ a2,⟨a,b',c',kp TO (by simp) _ a3⟩,a4.at λo q=>kp i1 (by simp) o q,a5.at λo q=>kp i2 (by simp) o q,a6.at λo q=>kp i3 (by simp) o q⟩
 item:=by
  intro X hP hw hK hc i pins s σ H E I hf st hg;subst hP hw hK;obtain⟨xs,ys,zs,x,y,u,hq1,hq2,hq3,hl,hx,hy,hu⟩:=hg;obtain⟨its1,rv1,p1,_⟩:=I.list hq1;obtain⟨its2,rv2,p2,_⟩:=I.list hq2;obtain⟨its3,rv3,p3,_⟩:=I.list hq3;obtain⟨a1,a2,a3,a4,a5,a6⟩:=st;have lt:∀b∈[z,TI,TO,i1,i2,i3],b<s.heap.objs.size:=λb hb=>by
   have hb':b=z\/b=TI\/b=TO\/b=i1\/b=i2\/b=i3:=by simpa using hb
   obtain⟨_,_,_,a3⟩:=a3;rcases hb' with rfl|rfl|rfl|rfl|rfl|rfl
   ·exact ZG a1
   ·exact ZG a2
   ·exact ZG a3
   ·obtain⟨o,q,_⟩:=a4;exact ZG q
   ·obtain⟨o,q,_⟩:=a5;exact ZG q
   ·obtain⟨o,q,_⟩:=a6;exact ZG q
  have e1:=rv1.length;have e2:=rv2.length;have e3:=rv3.length;have hi:i<xs.length:=(ZV.mp hx).1;have nd:=D.nd;simp only[aaK,ZP,aao,abz,afe,acr,and_true,ad6]at nd;obtain⟨⟨zTI,zTO,z1,z2,z3⟩,⟨TITO,TI1,TI2,TI3⟩,_⟩:=nd;refine Hb (I.ok.hd hc) D a1 a2 a3 a4 p1.isList a5 p2.isList a6 p3.isList (by simp only[ZJ];omega) (λu1 u2 u3 h1 f1 f2 f3 b1 b2 b3 b4 b5 b6 b7=>?_) λh' hn _=>absurd hn (by simp;omega);refine⟨_,rfl,adY b1 λh2 c1 c2=>?_⟩;have c2':Heap.SameBut z h1 h2:=c2;refine⟨.ref s.heap.objs.size,upd H s.heap.objs.size (.tup [x,y,u]),?_,rfl,⟨x,y,u,s.heap.objs.size,λws hw'=>by rw[I.list_inj hw' hq1];exact hx,λws hw'=>by rw[I.list_inj hw' hq2];exact hy,λws hw'=>by rw[I.list_inj hw' hq3];exact hu,I.fresh,rfl,rfl⟩,⟨c1,?_,⟨_,_,_,(c2'.2 _ (aal zTO)).trans b2⟩,?_,?_,?_⟩,λb hb=>?_⟩
  ·refine tup_inv (s:=s) (fp:=[z,TI,TO,i1,i2,i3]) (us:=[u1,u2,u3]) (tk':=s.toks) I hf lt rfl (.cons (got rv1 hx f1) (.cons (got rv2 hy f2) (.cons (got rv3 hu f3) .nil))) (by show 3<=sizeLine;rw[cM];decide) (λb o hb q=>?_) ((c2'.2 _ (aam (lt z (by simp)))).trans b6);have nb:∀c,b=c->c∈[z,TI,TO,i1,i2,i3]->False:=λc e m=>hb (e▸m);exact(c2'.2 _ λe=>nb z e (by simp)).trans (b7 b o (λm=>hb (by
    have m':b=z\/b=TO\/b=i1\/b=i2\/b=i3:=by simpa using m
    rcases m' with e|e|e|e|e<;>simp[e])) q)
  ·exact(c2'.2 _ (aal zTI)).trans (b7 _ _ (by simp only[ZP,aao,abz,afe];exact⟨aal zTI,TITO,TI1,TI2,TI3⟩) a2)
  ·obtain⟨o,q,r⟩:=b3;exact⟨o,(c2'.2 _ (aal z1)).trans q,r⟩
  ·obtain⟨o,q,r⟩:=b4;exact⟨o,(c2'.2 _ (aal z2)).trans q,r⟩
  ·obtain⟨o,q,r⟩:=b5;exact⟨o,(c2'.2 _ (aal z3)).trans q,r⟩
  ·rw[aR (Z1 (lt b hb))];exact(hf b hb).1
 done:=by
  intro X hP hw hK hc i pins s σ H E I hf st hg;subst hP hw hK;obtain⟨xs,ys,zs,hq1,hq2,hq3,hl,hn⟩:=hg;obtain⟨its1,rv1,p1,_⟩:=I.list hq1;obtain⟨its2,rv2,p2,_⟩:=I.list hq2;obtain⟨its3,rv3,p3,_⟩:=I.list hq3;have e1:=rv1.length;have e2:=rv2.length;have e3:=rv3.length;obtain⟨a1,a2,a3,a4,a5,a6⟩:=st;rw[aaF]at hn;refine Hb (I.ok.hd hc) D a1 a2 a3 a4 p1.isList a5 p2.isList a6 p3.isList (by simp only[ZJ];omega) (λu1 u2 u3 h1 f1=>absurd (abi.mp f1).1 (by simp only[ZJ];omega)) λh' _ hk'=>⟨rfl,iH (t':=s.toks) I hf λb o hb q=>hk' b o (λm=>hb (by
   have m':b=z\/b=TO\/b=i1\/b=i2\/b=i3:=by simpa using m
   rcases m' with e|e|e|e|e<;>simp[e])) q⟩
 self:=λ_ _ _ _ _ st h=>ab1 st.1 h
section
variable{X:Cx}{a b c:Expr}{ma mb mc:ME}{pos pos' p p2 p3:Pos}{elts:List Expr}{kt:Nat}
theorem vals3{x y z:V}{us:List Value}(r:Vals [x,y,z] us):∃u v w,us=[u,v,w]/\RelV x u/\RelV y v/\RelV z w:=by
 cases r with
 |cons r1 rr=>
   cases rr with
   |cons r2 rr=>
     cases rr with
     |cons r3 rr=>
       cases rr;exact⟨_,_,_,rfl,r1,r2,r3⟩
def VL(K:PySem.W.Frag)(ta:TA):TI:=λσ H R=>ta σ H λvs H1=>∃l1 l2 l3 xs ys zs,vs=[.ref l1,.ref l2,.ref l3]/\SqL K H1 l1 xs/\SqL K H1 l2 ys/\SqL K H1 l3 zs/\R (Ws K l1 l2 l3) H1
theorem RG{ta:TA}(hg:Gl X "zip")(hm:X.mg "zip"=none)(ha:PA X [a,b,c] ta)(h1:starEach [a,b,c] X.env=(false,eval a X.env)::starEach [b,c] X.env:=by rfl)(hpl:(backTo pos (starEach [b,c] X.env)).any (·.1)=false:=by rfl):
 PI X (.Tuple elts kt pos') (.Call (.Name "zip" p) [a,b,c] [] pos) (VL X.K ta):=by
 intro pins s σ H R I h;refine Call_ (jl I hg hm (by rfl) (aat (cW (ha pos pins s σ H _ I h) λus s1 ⟨vs,H1,I1,r1,q1⟩=>?_) h1 hpl));obtain⟨l1,l2,l3,xs,ys,zs,e,hq1,hq2,hq3,q⟩:=q1;subst e;obtain⟨u,v,w',rfl,ru,rv,rw'⟩:=vals3 r1;cases ru;cases rv;cases rw';obtain⟨its1,_,p1,_⟩:=I1.list hq1;obtain⟨its2,_,p2,_⟩:=I1.list hq2;obtain⟨its3,_,p3,_⟩:=I1.list hq3;have a1:l1<s1.heap.objs.size:=by obtain⟨_,q,_⟩:=p1.isList;exact ZG q
 have a2:l2<s1.heap.objs.size:=by obtain⟨_,q,_⟩:=p2.isList;exact ZG q
 have a3:l3<s1.heap.objs.size:=by obtain⟨_,q,_⟩:=p3.isList;exact ZG q
 generalize hn:s1.heap.objs.size=n at a1 a2 a3;refine Ld p1.isList p2.isList p3.isList λh' hz hTI hTO hi1 hi2 hi3 hk=>ab1 hz ?_;rw[hn]at hz hTI hTO hi1 hi2 hi3 ⊢;have big:∀b∈[n+5,n+3,n+4,n,n+1,n+2],n<=b:=λb hb=>by
  have hb':b=n+5\/b=n+3\/b=n+4\/b=n\/b=n+1\/b=n+2:=by simpa using hb
  omega
 have D:zX (n+5) (n+3) (n+4) n (n+1) (n+2) l1 l2 l3:=by
  refine⟨?_,λm=>absurd (big _ m) (aeo a1),λm=>absurd (big _ m) (aeo a2),λm=>absurd (big _ m) (aeo a3)⟩;simp
 refine⟨n+5,[n+5,n+3,n+4,n,n+1,n+2],_,_,H1,rfl,I1.kept (t':=s1.toks) hk,JM D,⟨hz,hTI,⟨_,_,_,hTO⟩,hi1,hi2,hi3⟩,λb hb=>?_,q⟩;have hb':s1.heap.objs.size<=b:=by rw[hn];exact big b hb
 exact I1.fpOk hb' (I1.hok.fresh hb')
theorem JD(xs ys zs:List D)(i:Nat)(d:D)(h:(oW xs ys zs)[i]? = some d):∃x y z,xs[i]? = some x/\ys[i]? = some y/\zs[i]? = some z/\d=.tup [x,y,z]:=by
 unfold oW at h;rw[aad]at h;cases hz:(xs.zip (ys.zip zs))[i]? with
 |none=>rw[hz]at h;cases h|some q=>
   rw[hz]at h;obtain⟨e1,e2⟩:=abF.mp hz;obtain⟨e3,e4⟩:=abF.mp e2;exact⟨q.1,q.2.1,q.2.2,e1,e3,e4,(aaA h).symm⟩
theorem JF{K:PySem.W.Frag}{B:Hp}{l1 l2 l3:Addr}{ds es fs:List D}{xs ys zs:List V}(hl:ds.length=es.length/\es.length=fs.length)(h1:SqL K B l1 xs)(d1:Dens K B ds xs)(h2:SqL K B l2 ys)(d2:Dens K B es ys)(h3:SqL K B l3 zs)(d3:Dens K B fs zs):Walk K (Ws K l1 l2 l3) B (oW ds es fs):=by
 intro i os1 H1 L g;have gu:=g.trans hide_le;have m1:=d1.length;have m2:=d2.length;have m3:=d3.length;have hz:(oW ds es fs).length=ds.length:=by simp[oW];omega
 refine⟨λd hd=>?_,λhl'=>⟨xs,ys,zs,gu.seq h1,gu.seq h2,gu.seq h3,by omega,by rw[aaF];omega⟩⟩;obtain⟨x,y,z,e1,e2,e3,rfl⟩:=JD ds es fs i d hd;obtain⟨v1,w1,r1⟩:=d1.get e1;obtain⟨v2,w2,r2⟩:=d2.get e2;obtain⟨v3,w3,r3⟩:=d3.get e3;refine⟨⟨xs,ys,zs,v1,v2,v3,gu.seq h1,gu.seq h2,gu.seq h3,by omega,w1,w2,w3⟩,λu H2 q=>?_⟩;obtain⟨u1,u2,u3,t,q1,q2,q3,ht,rfl,rfl⟩:=q;have f1:=q1 xs (gu.seq h1);have f2:=q2 ys (gu.seq h2);have f3:=q3 zs (gu.seq h3);rw[w1]at f1;rw[w2]at f2;rw[w3]at f3;cases f1;cases f2;cases f3;exact⟨bB ht _,.newT L ht (.cons (r1.mono g _ _) (.cons (r2.mono g _ _) (.cons (r3.mono g _ _) .nil)))⟩
theorem Jf(hg:Gl X "zip")(hm:X.mg "zip"=none)(ha:DE X a ma)(hb:DE X b mb)(hc:DE X c mc)(h1:starEach [a,b,c] X.env=(false,eval a X.env)::starEach [b,c] X.env:=by rfl)(h2:starEach [b,c] X.env=(false,eval b X.env)::starEach [c] X.env:=by rfl)
 (h3:starEach [c] X.env=(false,eval c X.env)::starEach [] X.env:=by rfl) (hpl:(backTo pos (starEach [b,c] X.env)).any (·.1)=false:=by rfl):
 DI X (.Tuple elts kt pos') (.Call (.Name "zip" p) [a,b,c] [] pos) (vM ma mb mc):=by
 obtain⟨ta,pa,qa⟩:=ha;obtain⟨tb,pb,qb⟩:=hb;obtain⟨tc,pc,qc⟩:=hc;refine⟨_,RG hg hm (bG pa (bG pb (bG pc cV h3) h2) h1) h1 hpl,λos σ H δ xs R s m k=>?_⟩;obtain⟨dx,e1,m⟩:=ao m;obtain⟨dy,e2,m⟩:=ao m;obtain⟨dz,e3,m⟩:=ao m;refine qa os σ H δ dx _ s e1 λv H1 g1 r1=>?_;refine qb os σ H1 δ dy _ (s.mono g1) e2 λw H2 g2 r2=>?_;refine qc os σ H2 δ dz _ ((s.mono g1).mono g2) e3 λu H3 g3 r3=>?_
 match dx,dy,dz,m with
 |.lst ds,.lst es,.lst fs,m=>
   obtain⟨hl,m⟩:(ds.length=es.length/\es.length=fs.length)/\some (oW ds es fs)=some xs:=by
    have m':(if ds.length=es.length/\es.length=fs.length then some (oW ds es fs)else none)=some xs:=m;split at m'
    ·rename_i h;exact⟨h,m'⟩
    ·cases m'
   cases m;obtain⟨l1,xs,rfl,h1,d1⟩:=((r1.mono g2.hd _ _).mono g3.hd _ _).lst_inv;obtain⟨l2,ys,rfl,h2,d2⟩:=(r2.mono g3.hd _ _).lst_inv;obtain⟨l3,zs,rfl,h3,d3⟩:=r3.lst_inv;exact⟨l1,l2,l3,xs,ys,zs,rfl,hide_le.seq h1,hide_le.seq h2,hide_le.seq h3,k _ H3 ((g1.trans g2).trans g3) (JF hl h1 d1 h2 d2 h3 d3)⟩
end
def QK(K:PySem.W.Frag)(l1 l2:Addr):It:=
 ⟨λi H=>∃xs ys x y,SqL K H l1 xs/\SqL K H l2 ys/\xs.length=ys.length/\xs[i]? = some x/\ys[i]? = some y,
  λi H v H'=>∃x y p t,(∀xs,SqL K H l1 xs->xs[i]? = some x)/\(∀ys,SqL K H l2 ys->ys[i]? = some y)/\H p=none/\H t=none/\t≠p/\v=.ref t/\H'=upd (upd H p (.tup [x,y])) t (.tup [.int i,.ref p]),
  λi H=>∃xs ys,SqL K H l1 xs/\SqL K H l2 ys/\xs.length=ys.length/\xs[i]? = none⟩
def EZ(e z TI TO i1 i2 l1 l2:Addr)(i:Nat)(h:Heap):Prop:=
 (∃old,IsEnum h e z i old)/\(∃f0 f,wy h z TI TO f0 f/\QG f0)/\IsPair h TI (.ref i1) (.ref i2)/\(∃a b,IsPair h TO a b)/\h.IsListIter i1 l1 i/\h.IsListIter i2 l2 i
theorem Q4{P:Program}{w:World}{K:PySem.W.Frag}{elts:List Expr}{k:Nat}{pos:Pos}{e z TI TO i1 i2 l1 l2:Addr}(D:ZipApart z TI TO i1 i2 l1 l2)(De:e∉[z,TI,TO,i1,i2]):
 Turn P w K (.Tuple elts k pos) (QK K l1 l2) [e,z,TI,TO,i1,i2] e (EZ e z TI TO i1 i2 l1 l2) where
 mem:=by simp
 obj:=λi h st b hb=>by
  obtain⟨⟨old,a0⟩,⟨f0,f,a1,_⟩,a2,⟨a,b',a3⟩,⟨o1,a4,_,c4⟩,⟨o2,a5,_,c5⟩⟩:=st;have hb':b=e\/b=z\/b=TI\/b=TO\/b=i1\/b=i2:=by simpa using hb
  rcases hb' with rfl|rfl|rfl|rfl|rfl|rfl
  ·exact⟨_,a0,λv z=>by cases z⟩
  ·exact⟨_,a1,λv z=>by cases z⟩
  ·exact⟨_,a2,λv z=>by cases z⟩
  ·exact⟨_,a3,λv z=>by cases z⟩
  ·exact⟨_,a4,λv z=>by rw[c4]at z;cases z⟩
  ·exact⟨_,a5,λv z=>by rw[c5]at z;cases z⟩
 keep:=λi h h' st kp=>by
  obtain⟨⟨old,a0⟩,⟨f0,f,a1,r1⟩,a2,⟨a,b',a3⟩,a4,a5⟩:=st;exact⟨⟨old,kp e (by simp) _ a0⟩,⟨f0,f,kp z (by simp) _ a1,r1⟩,kp TI (by simp) _ a2,⟨a,b',kp TO (by simp) _ a3⟩,a4.at λo q=>kp i1 (by simp) o q,a5.at λo q=>kp i2 (by simp) o q⟩
 item:=by
  intro X hP hw hK hc i pins s σ H E I hf st hg;subst hP hw hK;obtain⟨xs,ys,x,y,hq1,hq2,hl,hx,hy⟩:=hg;obtain⟨its1,rv1,p1,_⟩:=I.list hq1;obtain⟨its2,rv2,p2,_⟩:=I.list hq2;have m1:=rv1.length;have m2:=rv2.length;have hi:i<xs.length:=(ZV.mp hx).1;obtain⟨⟨old,a0⟩,⟨f0,f,a1,r1⟩,a2,a3,a4,a5⟩:=st;have De':e≠z/\e≠TI/\e≠TO/\e≠i1/\e≠i2:=by simpa using De
  obtain⟨ez,eI,eO,e1',e2'⟩:=De';have lt:∀b∈[e,z,TI,TO,i1,i2],b<s.heap.objs.size:=λb hb=>by
   have hb':b=e\/b=z\/b=TI\/b=TO\/b=i1\/b=i2:=by simpa using hb
   obtain⟨_,_,a3⟩:=a3;rcases hb' with rfl|rfl|rfl|rfl|rfl|rfl
   ·exact ZG a0
   ·exact ZG a1
   ·exact ZG a2
   ·exact ZG a3
   ·obtain⟨o,q,_⟩:=a4;exact ZG q
   ·obtain⟨o,q,_⟩:=a5;exact ZG q
  have tE:s.TypeIs (.ref e) "enumerate":=⟨_,a0,rfl⟩;have tZ:s.TypeIs (.ref z) "zip":=⟨_,a1,rfl⟩;have hh:X.A.in1.in1.handled=none:=I.ok.hd hc;unfold pyNext;refine vz (abw (aaj (name:=Str.ofString "__next__") tE abY (aah abY tE adI (Pn (A:=X.A.in1) a0 (BX tZ ?_)) (adA _))));refine yz hh D a1 r1 a2 a3 a4 p1.isList a5 p2.isList (by simp only[ZJ];omega) (λu1 u2 h1 g0 g f1 f2 b1 b2 b3 b4 b5 b6 b7=>?_) λh' _ hn=>absurd hn (by simp;omega);have E1:IsEnum h1 e z i old:=b7 _ _ ez eO e1' e2' a0;refine⟨_,rfl,h1,rfl,E1,λh2 o2 t2 k2=>⟨_,rfl,ZC ⟨_,rfl,?_⟩⟩⟩;refine acK (s:={s with heap:=h2,toks:=s.toks+1}) o2 λh3 e3 s3=>?_;have s3:Heap.SameBut e h2 h3:=s3;have up:∀c o,c≠e->h1.get? c=some o->h3.get? c=some o:=λc o n q=>(s3.2 c n).trans (k2 c o n q);have lp:s.heap.objs.size<h1.objs.size:=ZG b6;have np:∀b∈[e,z,TI,TO,i1,i2],s.heap.objs.size≠b:=λb hb=>aam (lt b hb);have I1:L2.Inv X pins σ (upd H s.heap.objs.size (.tup [x,y])) {s with heap:=h1,toks:=s.toks}:=by
   refine tup_inv (s:=s) (fp:=[e,z,TI,TO,i1,i2]) (us:=[u1,u2]) (tk':=s.toks) I hf lt rfl (.cons (got rv1 hx f1) (.cons (got rv2 hy f2) .nil)) (by show 2<=sizeLine;rw[cM];decide) (λb o hb q=>?_) b6;exact b7 b o (λm=>hb (by simp[m])) (λm=>hb (by simp[m])) (λm=>hb (by simp[m])) (λm=>hb (by simp[m])) q
  have hf1:∀b∈[e,z,TI,TO,i1,i2],mO X pins (upd H s.heap.objs.size (.tup [x,y])) b:=λb hb=>⟨by rw[aR (Z1 (lt b hb))];exact(hf b hb).1,(hf b hb).2⟩;have lt1:∀b∈[e,z,TI,TO,i1,i2],b<h1.objs.size:=λb hb=>Nat.lt_trans (lt b hb) lp;refine⟨.ref h1.objs.size,upd (upd H s.heap.objs.size (.tup [x,y])) h1.objs.size (.tup [.int i,.ref s.heap.objs.size]),?_,rfl,⟨x,y,s.heap.objs.size,h1.objs.size,λws hw'=>by rw[I.list_inj hw' hq1];exact hx,λws hw'=>by rw[I.list_inj hw' hq2];exact hy,I.fresh,I.hok.fresh (aca lp),aam lp,rfl,rfl⟩,⟨⟨_,by simpa using e3⟩,⟨g0,g,up _ _ (aal ez) b1,b2⟩,up _ _ (aal eI) (b7 _ _ D.TIz D.TITO D.TIi1 D.TIi2 a2),?_,?_,?_⟩,λb hb=>?_⟩
  ·exact tup_inv (s:={s with heap:=h1,toks:=s.toks}) (fp:=[e,z,TI,TO,i1,i2]) (us:=[.int i s.toks,.ref s.heap.objs.size]) (h2:=h3) (tk':=s.toks+1) I1 hf1 lt1 rfl (.cons ⟨_,rfl⟩ (.cons rfl .nil)) (by show 2<=sizeLine;rw[cM];decide) (λb o hb q=>up b o (λm=>hb (by simp[m])) q) ((s3.2 _ (aam (lt1 e (by simp)))).trans t2)
  ·obtain⟨ta,tb,q⟩:=b3;exact⟨ta,tb,up _ _ (aal eO) q⟩
  ·obtain⟨o,q,r⟩:=b4;exact⟨o,up _ _ (aal e1') q,r⟩
  ·obtain⟨o,q,r⟩:=b5;exact⟨o,up _ _ (aal e2') q,r⟩
  ·rw[aR (Z1 (lt1 b hb))];exact(hf1 b hb).1
 done:=by
  intro X hP hw hK hc i pins s σ H E I hf st hg;subst hP hw hK;obtain⟨xs,ys,hq1,hq2,hl,hn⟩:=hg;obtain⟨its1,rv1,p1,_⟩:=I.list hq1;obtain⟨its2,rv2,p2,_⟩:=I.list hq2;have m1:=rv1.length;have m2:=rv2.length;obtain⟨⟨old,a0⟩,⟨f0,f,a1,r1⟩,a2,a3,a4,a5⟩:=st;rw[aaF]at hn;have tE:s.TypeIs (.ref e) "enumerate":=⟨_,a0,rfl⟩;have tZ:s.TypeIs (.ref z) "zip":=⟨_,a1,rfl⟩;have hh:X.A.in1.in1.handled=none:=I.ok.hd hc;unfold pyNext;refine vz (abw (aaj (name:=Str.ofString "__next__") tE abY (aah abY tE adI (Pn (A:=X.A.in1) a0 (BX tZ ?_)) (adA _))));refine yz hh D a1 r1 a2 a3 a4 p1.isList a5 p2.isList (by simp only[ZJ];omega) (λu1 u2 h1 g0 g f1=>absurd (abi.mp f1).1 (by simp only[ZJ];omega)) λh' ex _ hk he=>?_;obtain⟨o,ho,hc'⟩:=he;exact vz (abI (T:="StopIteration") (b:=true) ⟨o,ho,hc'⟩ acp (ZC ⟨rfl,iH (t':=s.toks) I hf λb ob hb q=>hk b ob (λm=>hb (by simp[m])) (λm=>hb (by simp[m])) (λm=>hb (by simp[m])) (λm=>hb (by simp[m])) q⟩))
 self:=λ_ _ _ _ _ st h=>by
  obtain⟨⟨old,he⟩,_⟩:=st;exact acd he h
section
variable{X:Cx}{a b:Expr}{ma mb:ME}{pos pos' p p2 p3:Pos}{elts:List Expr}{kt:Nat}
def YK(K:PySem.W.Frag)(ta:TA):TI:=λσ H R=>ta σ H λvs H1=>∃l1 l2 xs ys,vs=[.ref l1,.ref l2]/\SqL K H1 l1 xs/\SqL K H1 l2 ys/\R (QK K l1 l2) H1
theorem Xc{ta:TA}(hg1:Gl X "enumerate")(hm1:X.mg "enumerate"=none)(hg2:Gl X "zip")(hm2:X.mg "zip"=none)(ha:PA X [a,b] ta)(h1:starEach [a,b] X.env=(false,eval a X.env)::starEach [b] X.env:=by rfl)(hpl:(backTo p3 (starEach [b] X.env)).any (·.1)=false:=by rfl)
 (s1:starEach [Expr.Call (.Name "zip" p2) [a,b] [] p3] X.env=(false,eval (Expr.Call (.Name "zip" p2) [a,b] [] p3) X.env)::starEach [] X.env:=by rfl) (hp0:(backTo pos (starEach [] X.env)).any (·.1)=false:=by rfl):
 PI X (.Tuple elts kt pos') (.Call (.Name "enumerate" p) [.Call (.Name "zip" p2) [a,b] [] p3] [] pos) (YK X.K ta):=by
 intro pins s σ H R I h;refine Call_ (jl I hg1 hm1 boot_enumerate (aat ?_ s1 hp0));rw[s1];show wpAny _ _ (spliced ((false,eval (Expr.Call (.Name "zip" p2) [a,b] [] p3) X.env)::backTo pos (starEach [] X.env))) _ _ s;refine abr ?_;refine Call_ (jl I hg2 hm2 (by rfl) (aat (cW (ha p3 pins s σ H _ I h) λus s1 ⟨vs,H1,I1,r1,q1⟩=>?_) h1 hpl));obtain⟨l1,l2,xs,ys,e,hq1,hq2,q⟩:=q1;subst e;obtain⟨u,v,rfl,ru,rv⟩:=vals2 r1;cases ru;cases rv;obtain⟨its1,rv1,p1,_⟩:=I1.list hq1;obtain⟨its2,rv2,p2',_⟩:=I1.list hq2;have a1:l1<s1.heap.objs.size:=by obtain⟨_,q,_⟩:=p1.isList;exact ZG q
 have a2:l2<s1.heap.objs.size:=by obtain⟨_,q,_⟩:=p2'.isList;exact ZG q
 refine ae5 p1.isList p2'.isList λh2 hz hTI hTO hi1 hi2 hsz hk=>?_;refine acb ?_;refine wU (s:={s1 with heap:=h2}) hz λh3 he3 hk3=>acd he3 ?_;have kk:∀c o,s1.heap.get? c=some o->h3.get? c=some o:=λc o e=>hk3 c o (hk c o e);have he3:IsEnum h3 h2.objs.size (s1.heap.objs.size+4) 0 .none:=he3;show PIE X pins σ _ R (.ref h2.objs.size) _;rw[hsz]at he3 ⊢;refine⟨s1.heap.objs.size+5,[s1.heap.objs.size+5,s1.heap.objs.size+4,s1.heap.objs.size+2,s1.heap.objs.size+3,s1.heap.objs.size,s1.heap.objs.size+1],_,_,H1,rfl,I1.kept (t':=s1.toks) kk,
  Q4 (e:=s1.heap.objs.size+5) (zipApart_new a1 a2) (by simp),⟨⟨_,he3⟩,⟨_,_,hk3 _ _ hz,.inl rfl⟩,hk3 _ _ hTI,⟨_,_,hk3 _ _ hTO⟩,hi1.at λo q=>hk3 _ o q,hi2.at λo q=>hk3 _ o q⟩,λb hb=>?_,q⟩
 have hb2:b=s1.heap.objs.size+5\/b=s1.heap.objs.size+4\/b=s1.heap.objs.size+2\/b=s1.heap.objs.size+3\/b=s1.heap.objs.size\/b=s1.heap.objs.size+1:=by simpa using hb
 have hb':s1.heap.objs.size<=b:=by
  rcases hb2 with rfl|rfl|rfl|rfl|rfl|rfl<;>first|exact ZS _|exact aaT _ _
 exact I1.fpOk hb' (I1.hok.fresh hb')
theorem KQ(ds es:List D)(hl:ds.length=es.length)(i:Nat)(d:D)(h:(cG 0 (gB ds es))[i]? = some d):∃x y,ds[i]? = some x/\es[i]? = some y/\d=.tup [.int i,.tup [x,y]]:=by
 obtain⟨e,h1,h2⟩:=rG _ 0 i d h;obtain⟨x,y,h3,h4,rfl⟩:=qg ds es i e h1;exact⟨x,y,h3,h4,by rw[h2,acx]⟩
theorem QX{K:PySem.W.Frag}{B:Hp}{l1 l2:Addr}{ds es:List D}{xs ys:List V}(hl:ds.length=es.length)(h1:SqL K B l1 xs)(d1:Dens K B ds xs)(h2:SqL K B l2 ys)(d2:Dens K B es ys):Walk K (QK K l1 l2) B (cG 0 (gB ds es)):=by
 intro i os1 H1 L g;have gu:=g.trans hide_le;have m1:=d1.length;have m2:=d2.length;have hz:(cG 0 (gB ds es)).length=ds.length:=by rw[lF];simp[gB];omega
 refine⟨λd hd=>?_,λhl'=>⟨xs,ys,gu.seq h1,gu.seq h2,by omega,by rw[aaF];omega⟩⟩;obtain⟨x,y,e1,e2,rfl⟩:=KQ ds es hl i d hd;obtain⟨v1,w1,r1⟩:=d1.get e1;obtain⟨v2,w2,r2⟩:=d2.get e2;refine⟨⟨xs,ys,v1,v2,gu.seq h1,gu.seq h2,by omega,w1,w2⟩,λu H2 q=>?_⟩;obtain⟨u1,u2,p,t,q1,q2,hp,ht,hne,rfl,rfl⟩:=q;have f1:=q1 xs (gu.seq h1);have f2:=q2 ys (gu.seq h2);rw[w1]at f1;rw[w2]at f2;cases f1;cases f2;have s1:Same H1 (upd H1 p (.tup [v1,v2])):=bB hp _;have ht':upd H1 p (.tup [v1,v2]) t=none:=by rw[aR hne];exact ht
 exact⟨s1.trans (bB ht' _),.newT (L.mono s1) ht' (.cons (.int _) (.cons (.newT L hp (.cons (r1.mono g _ _) (.cons (r2.mono g _ _) .nil))) .nil))⟩
theorem Gx(hg1:Gl X "enumerate")(hm1:X.mg "enumerate"=none)(hg2:Gl X "zip")(hm2:X.mg "zip"=none)(ha:DE X a ma)(hb:DE X b mb)(h1:starEach [a,b] X.env=(false,eval a X.env)::starEach [b] X.env:=by rfl)(h2:starEach [b] X.env=(false,eval b X.env)::starEach [] X.env:=by rfl)(hpl:(backTo p3 (starEach [b] X.env)).any (·.1)=false:=by rfl)
 (s1:starEach [Expr.Call (.Name "zip" p2) [a,b] [] p3] X.env=(false,eval (Expr.Call (.Name "zip" p2) [a,b] [] p3) X.env)::starEach [] X.env:=by rfl) (hp0:(backTo pos (starEach [] X.env)).any (·.1)=false:=by rfl):
 DI X (.Tuple elts kt pos') (.Call (.Name "enumerate" p) [.Call (.Name "zip" p2) [a,b] [] p3] [] pos) (rC ma mb):=by
 obtain⟨ta,pa,qa⟩:=ha;obtain⟨tb,pb,qb⟩:=hb;refine⟨_,Xc hg1 hm1 hg2 hm2 (bG pa (bG pb cV h2) h1) h1 hpl s1 hp0,λos σ H δ xs R s m k=>?_⟩;obtain⟨dx,e1,m⟩:=ao m;obtain⟨dy,e2,m⟩:=ao m;refine qa os σ H δ dx _ s e1 λv H1 g1 r1=>?_;refine qb os σ H1 δ dy _ (s.mono g1) e2 λw H2 g2 r2=>?_
 match dx,dy,m with
 |.lst ds,.lst es,m=>
   obtain⟨hl,m⟩:ds.length=es.length/\some (cG 0 (gB ds es))=some xs:=by
    have m':(if ds.length=es.length then some (cG 0 (gB ds es))else none)=some xs:=m;split at m'
    ·rename_i h;exact⟨h,m'⟩
    ·cases m'
   cases m;obtain⟨l1,xs,rfl,h1,d1⟩:=(r1.mono g2.hd _ _).lst_inv;obtain⟨l2,ys,rfl,h2,d2⟩:=r2.lst_inv;exact⟨l1,l2,xs,ys,rfl,hide_le.seq h1,hide_le.seq h2,k _ H2 (g1.trans g2) (QX hl h1 d1 h2 d2)⟩
end
end DL
namespace DL
open PySem
noncomputable def isInt:D->Bool
 |.int _=>true|_=>false
def pW:D->D->Option D
 |.lst ds,.int i=>(intsOf ds).bind λis=>if i∈is then some (.int (is.idxOf i:Nat))else none
 |_,_=>none
def Pu(k v:ME):ME:=λδ=>(k δ).bind λz=>(v δ).bind λy=>match z with
 |.int i=>if flat y=true then some (.dic false [.int i] [y])else none
 |_=>none
def My(n i:Nat)(k a:ME):MS:=λδ=>(a δ).bind λy=>(k δ).bind λz=>match ownAt n i δ,z with
 |some (.dic false ks vs),.int j=>if(ks.all λq => !dW q (.int j))=true/\ks.length<16777216 then some (.nx (δ.set (n+i) (some (.dic false (ks++[.int j]) (vs++[y])))))else none
 |_,_=>none
def inD:D->D->Option Bool
 |.dic true ks _,z=>if sY z=true then some (ks.any λq=>dW q z)else none
 |.dic false ks _,.int i=>some (ks.any λq=>dW q (.int i))|_,_=>none
def Pr(n i:Nat)(neg:Bool)(a:ME):ME:=λδ=>(a δ).bind λz=>(ownAt n i δ).bind λd=>(inD d z).bind λb=>some (.bl (b != neg))
def frs:List D->List D->Bool
 |_,[]=>true|ks,l::ls=>(ks.all λq => !dW q l)&&frs (ks++[l]) ls
def Rm(n i:Nat)(a:ME):MS:=λδ=>(a δ).bind λy=>match ownAt n i δ,y with
 |some (.dic false ks vs),.dic false ls ws=>if frs ks ls=true/\(ls.all isInt)=true/\ks.length+ls.length<=16777216 then some (.nx (δ.set (n+i) (some (.dic false (ks++ls) (vs++ws)))))else none
 |_,_=>none
def Al:D->Option D
 |.dic false ks _=>if(ks.all isInt)=true/\ks.length<=16777216 then some (.lst ks)else none
 |_=>none
noncomputable def eF(rows:List (List Int))(n:Int)(cs:List Int):List (List Int):=cs.foldl (λrs c=>rs.set c.toNat (rs.getD c.toNat []++[n])) rows
def wM(fn:MF)(es:D):Nat->List D->List (List Int)->Option (List (List Int))
 |_,[],rows=>some rows|n,p::ps,rows=>(fn [p,es]).bind λd=>match d with
   |.lst ds=>(intsOf ds).bind λcs=>if(cs.all λc=>decide (0<=c)&&decide (c<rows.length))=true/\(rows.all λr=>decide (r.length+cs.length<=1000000))=true then wM fn es (n+1) ps (eF rows n cs)else none
   |_=>none
noncomputable def Bk(rows:List (List Int)):D:=.lst (rows.map λr=>.lst (r.map D.int))
def qD(cm:ME)(fn:MF)(m:MS):MS:=λδ=>match δ with
 |[some (.tup ps),some (.lst es),none,none,none,none]=>(cm δ).bind λc=>match c with
   |.lst cs=>if cs.length<=1000000 then(wM fn (.lst es) 0 ps (List.replicate cs.length [])).bind λrows=>m [some (.tup ps),some (.lst es),some (Bk rows),none,none,none]else none
   |_=>none
 |_=>none
def T8(n i:Nat):MS:=λδ=>(ownAt n i δ).bind λd=>some (.rt d)
noncomputable def uT(a b:MS):MS:=λδ=>(a δ).bind λr=>match r with|.nx δ'=>b δ'|_=>none
noncomputable def Wu(n k:Nat)(m:MS):MF:=λds=>if ds.length=n then(m (ds.map some++List.replicate (k-n) none)).bind λr=>match r with
 |.rt d=>some d|_=>none
 else none
end DL
namespace DL
open PySem PySem.Spec PyProof.Rows L2
def Ye(K:PySem.W.Frag)(f:MF):Sp:=λvs H Q _=>∃os ds r,Live os H/\Dens K (hide os H) ds vs/\f ds=some r/\∀p H',Same H H'->H p=none->Own K (hide (p::os) H') H' p r->Q (.ref p) H'
def Yc(X:Cx)(st:List Stmt)(m:MS):Prop:=∃t:TS,PSs X st t/\∀os σ H δ d D,Sl X os H δ σ->m δ=some (.rt d)->
 (∀p H' os',Fr X os H os' H'->Same X.H₀ H'->X.H₀ p=none->p∈os'->Own X.K (hide os' H') H' p d->D.rt (.ref p) H')->t D σ H
section
variable{X:Cx}{PX:Prop}{st:Stmt}{rest:List Stmt}{m m':MS}{e a b k o:Expr}{me ma mb mk mo:ME}{pos p p2 p3 p4:Pos}
theorem S7{n i:Nat}(hn:X.N.length=n)(hi:i<n)(hfn:X.fn ""=true)(hv:PE X e (fC i)):Yc X [.Return (some e) pos] (T8 n i):=by
 refine⟨_,jW (Fq hv),λos σ H δ d D s m k=>?_⟩;obtain⟨d',e1,m⟩:=ao m;cases m;obtain⟨h1,h2,a,e2,e3,e4,e5⟩:=s.own_at hn hi e1;exact⟨_,e2,k a H os (.of (Same.refl _)) s.keep (e4 hfn) e3 e5⟩
theorem rH(h1:DS X False st m)(h2:Yc X rest m'):Yc X (st::rest) (uT m m'):=by
 obtain⟨t,p,q⟩:=h1;obtain⟨t',p',q'⟩:=h2;refine⟨_,gP p p',λos σ H δ d D s m k=>?_⟩;obtain⟨r1,e1,m⟩:=ao m;refine q os σ H δ r1 _ s e1 ?_;cases r1 with
 |nx δ'=>exact λσ' H' os' g s'=>q' os' σ' H' δ' d D s' m λp H2 os2 g2=>k p H2 os2 (g.trans g2)|bk δ'=>cases m|ct δ'=>cases m|rt d=>cases m|ex=>cases m
theorem V4{P:Program}{w:World}{K:PySem.W.Frag}{mg:Str->Option Value}{base:Heap}{x qual:Str}{st:Stmt}{f:Addr}{fd:FuncData}{N ps:List Str}{k kk:Nat}{m:MS}{M:MF}(hkk:N.length<=kk)(F:Fun K x qual st f fd)(S:ig N ps (aH st))(hM:M=Wu ps.length kk m)
 (h:∀(cdv:Value)(A:Around)(outer:List Env)(s:Shared)(H:Hp)(E:XK),Room k (A.deeper (envOfC qual (aH st) s.heap.objs.size f cdv))->
  Yc (tK uE P w K mg base N qual (aH st) f cdv A outer s H E).nox (gm st) m):
 mQ P w K mg base uE (k+1) f fd ps (Ye K M):=by
 subst hM;have hpl:ps.length<=N.length:=by have:=aaS List.length S.pre;rw[abZ]at this;omega
 have inv:∀ds r,Wu ps.length kk m ds=some r->ds.length=ps.length/\m (ds.map some++List.replicate (kk-ps.length) none)=some (.rt r):=by
  intro ds r e;unfold Wu at e;split at e
  ·rename_i hl;obtain⟨q,e1,e⟩:=ao e;refine⟨hl,?_⟩;cases q with
   |rt d=>cases e;exact e1|nx δ=>cases e|bk δ=>cases e|ct δ=>cases e|ex=>cases e
  ·cases e
 refine F.ok S (λvs H Q E hq=>?_) (λcdv A outer s H vs Q E hr hq=>?_)
 ·obtain⟨os,ds,r,L,d,e,_⟩:=hq;rw[<-d.length];exact(inv ds r e).1
 ·obtain⟨os,ds,r,L,d,e,kq⟩:=hq;obtain⟨t,p,q⟩:=h cdv A outer s H E hr;obtain⟨hl,e2⟩:=inv ds r e;have s0:=Ax (X:=(tK uE P w K mg base N qual (aH st) f cdv A outer s H E).nox) (kk:=kk) L rfl d hl hpl hkk;refine⟨t,p,q os _ H _ r _ s0 e2 λp H' os' fr sm hp mp ow=>kq p H' sm hp ?_⟩;have big:Same (hide os' H') (hide (p::os) H'):=λb o z=>by
   have hb:b∉os':=λy=>by rw[cg y]at z;cases z
   rw[aL hb]at z;have hb2:b∉os:=λy=>hb (fr.2 b y λn=>by
    obtain⟨o',e',_⟩:=L b y;have n':H b=none:=n;rw[n']at e';cases e')
   have hbp:b≠p:=λy=>hb (y▸mp);rw[aL (by simp[hb2,hbp])];exact z
  cases r with
  |lst ds=>obtain⟨xs,w1,w2⟩:=ow;exact⟨xs,w1,w2.mono big _ _⟩
  |dic t ks vs=>obtain⟨xs,w1,w2⟩:=ow;exact⟨xs,w1,w2.mono big _ _⟩
  |_=>exact ow
theorem PQ{f:Addr}{fd:FuncData}{ps:List Str}{k:Nat}{x:Str}{fn:MF}{m:MA}{es:List Expr}(F:mQ X.prog X.w X.K X.mg X.base uE k f fd ps (Ye X.K fn))(hr:Room k X.A)(hg:Gl X x)(hm:X.mg x=some (.ref f))(hk:PySem.W.keepIn X.K (.ref f)=true)
 (hb:Binds X.K fd ps []) (ha:DA X (e::es) m) (hdb:(x==("__debug__":Str))=false:=by decide) (he:starEach (e::es) X.env=(false,eval e X.env)::starEach es X.env:=by rfl) (hpl:(backTo pos (starEach es X.env)).any (·.1)=false:=by rfl):
 DF X (.Call (.Name x p) (e::es) [] pos) (au fn m):=by
 obtain⟨hl,t,pt,q⟩:=ha;refine⟨_,oG F hr hg hm hk hb .nil xE pt hdb he hpl,λos σ H δ d Q s m k=>?_⟩;obtain⟨ds,e1,m⟩:=ao m;refine q os σ H δ ds _ s e1 λvs H1 g1 r1=>?_;rw[abD];exact⟨os,ds,d,s.live.mono g1,r1,m,λp H' g hp o=>k p H' (g1.trans g) (g1.free hp) o⟩
theorem PN(hk:DE X k mk)(he:DE X e me):DF X (.Dict [some k] [e] pos) (Pu mk me):=by
 obtain⟨tk,pk,qk⟩:=hk;obtain⟨te,pe,qe⟩:=he;refine⟨_,RP (Nr pk pe RB) rfl rfl (by simp) (by show 1<=15;decide),λos σ H δ d Q s m kq=>?_⟩;obtain⟨z,e1,m⟩:=ao m;obtain⟨y,e2,m⟩:=ao m;intro p hp;have s1:=s.mono (bB hp (.dK []));refine qk os σ _ δ z _ s1 e1 λu H1 g1 r1=>?_;refine qe os σ H1 δ y _ (s1.mono g1) e2 λv H2 g2 r2=>?_
 match z,m with
 |.int i,m=>
   obtain⟨hf,m⟩:flat y=true/\some (D.dic false [.int i] [y])=some d:=by
    have m':(if flat y=true then some (D.dic false [.int i] [y])else none)=some d:=m;split at m'
    ·rename_i h;exact⟨h,m'⟩
    ·cases m'
   cases m;have g12:=g1.trans g2;have hp2:H2 p=some (.dK []):=g12 _ _ aY;refine⟨hp2,[(.inl i,v)],by rw[r1.int_inv];rfl,by show 1<=15;decide,kq p _ (λb w z=>?_) hp ?_⟩
   ·rw[aR (bx z hp)];exact g12 _ _ ((aR (bx z hp)).trans z)
   ·refine⟨[v],.inl ⟨rfl,[(.inl i,v)],aY,rfl,rfl⟩,.cons (Den.fl (λc xs z=>?_) y v hf r2) .nil⟩;have hc:c≠p:=λz'=>by
     rw[z']at z;have:=hide_le _ _ z;rw[hp2]at this;cases this
    have hos:c∉os:=λy=>by rw[cg y]at z;cases z
    rw[aL (by simp[hos,hc]),aR hc];exact hide_le _ _ z
theorem Ah{kvs:List (Key×V)}{j:Int}(h:((kvs.map λp=>kD p.1).all λq => !dW q (.int j))=true):fO kvs (.inl j)=none:=by
 cases hv:fO kvs (.inl j)with
 |none=>rfl|some v=>
   exfalso;unfold fO at hv;obtain⟨p,hp,_⟩:=abW.mp hv;have hm:=adZ hp;have hk:=List.find?_some hp;simp only[Z7]at hk;have:=aaM.mp h (kD p.1) (Z5.mpr ⟨p,hm,rfl⟩);rw[hk]at this;simp[kD,dW]at this
theorem S9{n i:Nat}{p5:Pos}(hu:X.A.units+1<cLine)(hn:X.N.length=n)(hi:i<n)(hfn:X.fn ""=true)(hv:PE X o (fC i))(hk:DE X k mk)(he:DE X e me)
 (hs:swapsWith e (some (.Subscript o k p5)) pos.line X.env=pure false:=by rfl):DS X PX (.Assign [.Subscript o k p5] e pos) (My n i mk me):=by
 obtain⟨te,pe,qe⟩:=he;obtain⟨tk,pk,qk⟩:=hk;refine⟨_,Hy hu hv pk pe hs,λos σ H δ r D s m kq=>?_⟩;obtain⟨y,e1,m⟩:=ao m;obtain⟨z,e2,m⟩:=ao m;split at m
 ·rename_i ks vs j ho;split at m
  ·rename_i hc;cases m;refine qe os σ H δ y _ s e1 λv H1 g1 r1=>?_;obtain⟨w1,w2,a,w3,w4,w5,xs,w6,w7⟩:=s.own_at hn hi ho;refine⟨_,w3,qk os σ H1 δ _ _ (s.mono g1) e2 λu H2 g2 r2=>?_⟩;have g12:=g1.trans g2;rcases w6 with⟨_,kvs,w6,rfl,rfl⟩|⟨z,_⟩
   ·have hlen:kvs.length<sizeLine:=by rw[cM];have:=hc.2;simpa using this
    have hnew:=Ah hc.1;refine⟨a,_,rfl,by rw[r2.int_inv];exact DPut.k (k:=.inl j) (g12 _ _ w6) hlen,?_⟩;rw[qK v hnew];obtain⟨s2,f2⟩:=(s.mono g12).chg (d':=.dic false (kvs.map (λp=>kD p.1)++[.int j]) (vs++[y])) (o:=.dK (kvs++[(.inl j,v)])) hn hi hfn ho w3
     ⟨_,.inl ⟨rfl,_,aY,by simp[kD],rfl⟩,by rw[aaf];exact(w7.mono g12.hd _ _).append (.cons (r1.mono g2.hd _ _) .nil)⟩
    exact kq σ _ os ((Fr.of g12).trans f2) s2
   ·cases z
  ·cases m
 ·cases m
theorem Zv{kvs:List (Key×V)}(j:Int):((kvs.map λp=>kD p.1).any λq=>dW q (.int j))=(fO kvs (.inl j)).isSome:=by
 rw[<-m8,aeC];refine aaS (List.any kvs) (funext λp=>?_);exact Uo p.1 (.inl j)
theorem Zu{kvs:List (List Key×V)}(z:List Key):((kvs.map λp=>kT p.1).any λq=>dW q (kT z))=(fO kvs z).isSome:=by
 rw[<-m8,aeC];refine aaS (List.any kvs) (funext λp=>?_);exact Um p.1 z
theorem VJ{K:PySem.W.Frag}{os:List Addr}{H:Hp}{a:Addr}{t:Bool}{ks vs:List D}{xs:List V}{z:D}{u:V}{b:Bool}(L:Live os H)(hd:DcAt H a t ks xs\/DcF H a t ks xs)(r:Den K (hide os H) z u)(m:inD (.dic t ks vs) z=some b):∃w,DR H a u w/\w.isSome=b:=by
 have rd:(t=false/\∃kvs:List (Key×V),Rd H a (.dK kvs)/\ks=kvs.map λp=>kD p.1)\/t=true/\∃kvs:List (List Key×V),Rd H a (.dT kvs)/\ks=kvs.map λp=>kT p.1:=by
  rcases hd with(⟨h1,kvs,h2,h3,_⟩|⟨h1,kvs,h2,h3,_⟩)|(⟨h1,o,kvs,h2,h3,_⟩|⟨h1,o,kvs,h2,h3,_⟩)
  ·exact .inl ⟨h1,kvs,.inl h2,h3⟩
  ·exact .inr ⟨h1,kvs,.inl h2,h3⟩
  ·exact .inl ⟨h1,kvs,.inr ⟨o,h2⟩,h3⟩
  ·exact .inr ⟨h1,kvs,.inr ⟨o,h2⟩,h3⟩
 rcases rd with⟨rfl,kvs,h,rfl⟩|⟨rfl,kvs,h,rfl⟩
 ·cases z with
  |int i=>
    have m':some ((kvs.map λp=>kD p.1).any λq=>dW q (.int i))=some b:=m;rw[Zv]at m';cases m';rw[r.int_inv];exact⟨fO kvs (.inl i),.inl ⟨kvs,.inl i,h,rfl,rfl⟩,rfl⟩
  |_=>cases m
 ·have m':(if sY z=true then some ((kvs.map λp=>kT p.1).any λq=>dW q z)else none)=some b:=by
   cases z<;>exact m
  split at m'
  ·rename_i hz;obtain⟨kk,rfl⟩:=zr hz;rw[Zu]at m';cases m';obtain⟨c,bs,rfl,hb,hbs⟩:=r.tup_inv;have:=iQ hbs;subst this;exact⟨fO kvs kk,.inr ⟨kvs,kk,c,h,rfl,hide_le _ _ hb,rfl⟩,rfl⟩
  ·cases m'
end
section
variable{X:Cx}{PX:Prop}{e a b k o:Expr}{me ma mb mk mo:ME}{pos p p2 p3 p4:Pos}
theorem Jd{n i:Nat}(hu:X.A.units+1<cLine)(hn:X.N.length=n)(hi:i<n)(ha:DE X a ma)(hv:PE X o (fC i))(hmk:behindInMarks .NotIn o=false:=by rfl):DT X (.Compare a [.NotIn] [o] pos) (tV (Pr n i true ma)):=by
 obtain⟨ta,pa,qa⟩:=ha;refine⟨_,Vj (Kf hu pa hv) hmk,λos σ H δ z Q s m kq=>?_⟩;obtain⟨d,m1,m2⟩:=ao m;obtain⟨y,e1,m1⟩:=ao m1;obtain⟨dd,e2,m1⟩:=ao m1;obtain⟨c,e3,m1⟩:=ao m1;cases m1;cases m2;refine qa os σ H δ y _ s e1 λu H1 g1 r1=>?_;obtain⟨h1,h2,a,w3,w4,w5,w6⟩:=(s.mono g1).own_at hn hi e2;cases dd with
 |dic t ks vs=>
   obtain⟨xs,w6,_⟩:=w6;obtain⟨w,w7,w8⟩:=VJ (vs:=vs) (s.mono g1).live (.inl w6) r1 e3;exact⟨_,w3,a,w,rfl,w7,_,rfl,by rw[w8,<-Bool.bne_true];exact kq H1 g1⟩
 |_=>cases e3
def WX(td ty:TE):TE:=λσ H Q=>td σ H λx H1=>∃a,x=.ref a/\Yn H1 a/\ty σ H1 λy H2=>∃b kvs more,y=.ref b/\a≠b/\H2 a=some (.dK kvs)/\Rd H2 b (.dK more)/\kvs.length+more.length<=sizeLine/\Q .non (upd H2 a (.dK (jK kvs more)))
theorem RN{td ty:TE}{apos cpos:Pos}(ho:PE X o td)(he:PE X e ty)(m:M1 X o "update" apos e cpos):PE X (.Call (.Attribute o "update" apos) [e] [] cpos) (WX td ty):=by
 intro pins s σ H Q I h;refine ad5 m.base m.few m.line ac7 aee PySem.F.type_dict_update (cW (ho pins s σ H _ I h) λu s1 ⟨x,H1,I1,rx,a,ex,d,q1⟩=>?_);subst ex;obtain rfl:u=Value.ref a:=rx;obtain⟨t1,t2,_⟩:=Gb I1 d;refine⟨t1,t2,?_⟩;rw[m.trees];refine acu rfl (acI (abr (cW (he pins s1 σ H1 _ I1 q1) λiv s2 ⟨y,H2,I2,ry,b,kvs,more,ey,hab,ea,eb,hl,q2⟩=>acb ?_)));subst ey;obtain rfl:iv=Value.ref b:=ry;obtain⟨z,hd,vs,rel,dd⟩:=Je I2.hok ea;obtain⟨z',hd',ws,rel',dd'⟩:=uc I2.hok eb;have l1:=rel.length;have l2:=rel'.length;refine aez aee dd.typeIs PySem.F.entry_dict_update (PySem.F.args_dict_update_2 _ _) (meets_dict_update (b8 X.prog X.w) a b hab hd') ⟨vs,ws,dd,dd',by omega,λh' e1 e2 sb=>⟨.non,_,?_,rfl,q2⟩⟩;have hz:(jK kvs more).length<=sizeLine:=by have:=kE more kvs;omega
 exact rJ (t':=s2.toks) I2 (by rw[ea];exact True.intro) sb (let ⟨q,_,_,hq,_⟩:=e1;⟨q,hq⟩) (zE hz hd (rel'.merge rel) e1)
theorem xK:∀(more kvs:List (Key×V)),(∀q∈more,∃j,q.1=.inl j)->frs (kvs.map λp=>kD p.1) (more.map λp=>kD p.1)=true->jK kvs more=kvs++more
 |[],kvs,_,_=>by simp[jK]|(k,v)::more,kvs,hk,h=>by
   rw[ZD,frs,aac]at h;obtain⟨j,hj⟩:=hk _ ZF;simp only at hj;subst hj;have e:putK kvs (.inl j) v=kvs++[(.inl j,v)]:=qK v (Ah h.1);have:jK kvs ((.inl j,v)::more)=jK (putK kvs (.inl j) v) more:=rfl;rw[this,e,xK more _ (λq hq=>hk q (Zy _ hq)) (by rw[aaf];exact h.2),aa8];rfl
theorem V8{n i:Nat}(hn:X.N.length=n)(hi:i<n)(hfn:X.fn ""=true)(hv:PE X o (fC i))(he:DE X e me)(hb:attributeBase o "update" X.env (eval o X.env)=eval o X.env:=by rfl)
 (hf:((backTo p3 (starEach [e] X.env)).all (λx => !x.1)&&(backToKw p3 (keywordEach [] X.env)).all (λx=>x.1.isSome)&&decide (([e]:List Expr).length+([]:List Keyword).length+(if([]:List Keyword).isEmpty then 0 else 1)<30))=true:=by rfl)
 (hl:(p2.endLine==p3.line)=true:=by rfl) (ht:backTo p3 (starEach [e] X.env)=[(false,eval e X.env)]:=by rfl):
 DS X PX (.Expr (.Call (.Attribute o "update" p2) [e] [] p3) p4) (Rm n i me):=by
 obtain⟨te,pe,qe⟩:=he;refine⟨_,oF (RN hv pe ⟨hb,hf,hl,ht⟩),λos σ H δ r D s m kq=>?_⟩;obtain⟨y,e1,m⟩:=ao m;split at m
 ·rename_i ks vs ls ws ho;split at m
  ·rename_i hc;cases m;obtain⟨w1,w2,a,w3,w4,w5,xs,w6,w7⟩:=s.own_at hn hi ho;rcases w6 with⟨_,kvs,w6,rfl,rfl⟩|⟨z,_⟩
   ·refine⟨_,w3,a,rfl,.inl ⟨kvs,.inl w6⟩,qe os σ H δ _ _ s e1 λv H1 g1 r1=>?_⟩;obtain⟨b,ys,rfl,hF,hy⟩:=r1.dic_inv;rcases hF with⟨_,ob,more,f1,rfl,rfl⟩|⟨z,_⟩
    ·have ea:=g1 _ _ w6;have eb:=hide_le _ _ f1;have hab:a≠b:=λz=>by
      subst z;rw[ea]at eb;cases eb
     have hk:∀q∈more,∃j,q.1=.inl j:=λq hq=>by
      have:=aaM.mp hc.2.1 (kD q.1) (Z5.mpr ⟨q,hq,rfl⟩);cases hq1:q.1 with
      |inl j=>exact⟨j,rfl⟩|inr x=>rw[hq1]at this;cases this
     have hmg:=xK more kvs hk hc.1;refine⟨b,kvs,more,rfl,hab,ea,.inr ⟨ob,eb⟩,by rw[cM];have:=hc.2.2;simpa using this,?_⟩;rw[hmg];obtain⟨s2,f2⟩:=(s.mono g1).chg (d':=.dic false (kvs.map (λp=>kD p.1)++more.map (λp=>kD p.1)) (vs++ws)) (o:=.dK (kvs++more)) hn hi hfn ho w3
      ⟨_,.inl ⟨rfl,_,aY,by simp,rfl⟩,by rw[aaf];exact(w7.mono g1.hd _ _).append hy⟩
     exact kq σ _ os ((Fr.of g1).trans f2) s2
    ·cases z
   ·cases z
  ·cases m
 ·cases m
end
section
variable{X:Cx}{PX:Prop}{e a b k o:Expr}{me ma mb mk mo:ME}{pos p p2 p3 p4:Pos}
theorem Sd{P:Program}{w:World}{k:Key}{v:Value}(h:(b8 P w).is k v=true):RelV (kV k) v:=by
 cases k with
 |inl i=>
   have h':Value.isInt i v=true:=h;cases v with
   |int j t=>
     have e:(j==i)=true:=h';exact⟨t,by rw[eq_of_beq e]⟩
   |_=>cases h'
 |inr x=>
   have h':Value.isStrOf x v=true:=h;cases v with
   |str y t=>
     have e:(y==x)=true:=h';exact⟨t,by rw[eq_of_beq e]⟩
   |_=>cases h'
theorem Qk(hc:X.calm=true):ik X (.type "list") (λxs H Q=>∃a kvs,xs=[.ref a]/\Rd H a (.dK kvs)/\∀p,H p=none->Q (.ref p) (upd H p (.lst (kvs.map λq=>kV q.1)))):=by
 intro pins s σ H xs us Q I r h;obtain⟨a,kvs,rfl,hq,q⟩:=h;obtain⟨u,rfl,ru⟩:=vals1 r;cases ru;obtain⟨z,hd,vs,rel,dd⟩:=uc I.hok hq;obtain⟨ep,da⟩:=dd.dictAt;have hl:=rel.length;refine PySem.W.kdl_call (PySem.W.kdl_dict (knd:=b8 X.prog X.w) (kvs:=vs) (ep:=ep) hd) (I.ok.hd hc) da (by omega) λh' tk acc c hk hS hacc=>?_;refine⟨.ref s.heap.objs.size,upd H s.heap.objs.size (.lst (kvs.map λq=>kV q.1)),I.laid (o:=.lst (kvs.map λq=>kV q.1)) (t':=tk) hk (ZS _) ⟨by rw[ZK];exact z,acc.toList,c,?_,by simpa using hS⟩,rfl,q _ I.fresh⟩;have hlen:acc.toList.length=vs.length:=by simpa using hacc.1
 have hat:∀(j:Nat)(v:Value),acc.toList[j]? = some v->∃k x,vs[j]? = some (k,x)/\(b8 X.prog X.w).is k v=true:=λj v e=>hacc.2 j v (by rw[<-aaH];exact e);have keys:=rel.keys;clear hS hacc da dd hk q;generalize acc.toList=l at hlen hat;clear rel hl z hq;induction vs generalizing kvs l with
 |nil=>
   cases l with
   |nil=>
     cases kvs with
     |nil=>exact .nil|cons _ _=>cases keys
   |cons _ _=>simp at hlen
 |cons w vs ih=>
   cases kvs with
   |nil=>cases keys|cons q kvs=>
     cases l with
     |nil=>simp at hlen|cons v l=>
       rw[ZD,ZD]at keys;injection keys with k1 k2;obtain⟨k,x,e1,e2⟩:=hat 0 v rfl;simp at e1;subst e1;refine .cons (by show RelV (kV q.1) v;rw[k1];exact Sd e2) (ih kvs k2 l (by simpa using hlen) λj v' e=>?_);obtain⟨k',x',e3,e4⟩:=hat (j+1) v' (by simpa using e);exact⟨k',x',by simpa using e3,e4⟩
theorem Dm{K:PySem.W.Frag}{B:Hp}:∀(kvs:List (Key×V)),((kvs.map λp=>kD p.1).all isInt)=true->Dens K B (kvs.map λp=>kD p.1) (kvs.map λq=>kV q.1)
 |[],_=>.nil|(k,v)::kvs,h=>by
   rw[ZD,ZD];exact .cons (Jh k) (Dm kvs (by rw[ZD,aeY,aac]at h;exact h.2))
theorem PK(hc:X.calm=true)(hg:Gl X "list")(hm:X.mg "list"=none)(he:DE X e me)(s1:starEach [e] X.env=(false,eval e X.env)::starEach [] X.env:=by rfl)(hpl:(backTo pos (starEach [] X.env)).any (·.1)=false:=by rfl):
 DF X (.Call (.Name "list" p) [e] [] pos) (rR Al me):=by
 obtain⟨te,pe,qe⟩:=he;refine⟨_,sE (Qk hc) hg hm rfl (bG pe cV s1) (he:=s1) (hpl:=hpl),λos σ H δ d Q s m k=>?_⟩;obtain⟨dx,e1,m⟩:=ao m;refine qe os σ H δ dx _ s e1 λv H1 g1 r1=>?_
 match dx,m with
 |.dic false ks vs,m=>
   have m':(if(ks.all isInt)=true/\ks.length<=16777216 then some (D.lst ks)else none)=some d:=m;split at m'
   ·rename_i hc;cases m';obtain⟨a,xs,rfl,hF,_⟩:=r1.dic_inv;rcases hF with⟨_,ob,kvs,f1,rfl,rfl⟩|⟨z,_⟩
    ·refine⟨a,kvs,rfl,.inr ⟨ob,hide_le _ _ f1⟩,λp hp=>?_⟩;exact k p _ (g1.trans (bB hp _)) (g1.free hp) ⟨_,aY,(Dm kvs hc.1)⟩
    ·cases z
   ·cases m'
theorem Km(m:ME):QJ (rR Al m):=λδ d h=>by
 obtain⟨x,_,h⟩:=aak.mp h;cases x with
 |dic t ks vs=>
   cases t with
   |true=>cases h|false=>
     have h':(if(ks.all isInt)=true/\ks.length<=16777216 then some (D.lst ks)else none)=some d:=h;split at h'
     ·cases h';exact⟨ks,rfl⟩
     ·cases h'
 |_=>cases h
end
section
variable{X:Cx}{PX:Prop}{e a b k o:Expr}{me ma mb mk mo:ME}{pos p p2 p3 p4:Pos}
noncomputable def Zd(i:Int):Value->Bool
 |.int j _=>j==i|_=>false
theorem Oe:Zh X "list.index" (λx vs H Q=>∃(l:Addr)(is:List Int)(i:Int),x=.ref l/\vs=[.int i]/\SqL X.K H l (is.map V.int)/\i∈is/\Q (.int (is.idxOf i:Nat)) H):=by
 intro pins s σ H x vs v us Q I rx rv h;obtain⟨l,is,i,rfl,rfl,hq,hi,q⟩:=h;cases rx;obtain⟨u,rfl,t,rfl⟩:=vals1 rv;obtain⟨its,r,⟨⟨c2,d2,dt2,sl2⟩,n2,e2,c2',d2',t2'⟩,hz⟩:=I.list hq;simp only at c2' d2' t2';subst c2' d2' t2';have hints:=intsAre_of r;have hlen:its.length=is.length:=acL hints;have hat:∀(m:Nat)(hm:m<its.length),∃t',its[m]=.int (is[m]'(by omega)) t':=λm hm=>by
  obtain⟨t',e⟩:=adS hints m its[m] (ZM hm);exact⟨t',by rw[e];simp[show m<is.length by omega]⟩
 have hj:is.idxOf i<is.length:=abf hi;have hzz:its.length<=sizeLine:=by rw[hlen];rw[ZK]at hz;exact hz
 have hbig:sizeLine<2^63-1:=by rw[aaL];decide
 refine acv aep ⟨_,e2,rfl⟩ PySem.F.entry_list_index (PySem.F.args_list_index_2 _ _)
  (SeqAt.list_indexAt l its.toArray n2 none sl2 (.int i t) (Zd i) (is.idxOf i) (by simp;omega) (by omega) ?_ ?_) ⟨e2,λy hy=>?_,⟨.int (is.idxOf i:Nat),H,I.tok _,⟨_,rfl⟩,q⟩⟩
 ·obtain⟨t',e'⟩:=hat (is.idxOf i) (by omega);simp only[aeS];rw[e'];simp[Zd]
 ·intro m hm hlt;obtain⟨t',e'⟩:=hat m (by simpa using hm);simp only[aeS];rw[e'];have hz:(is[m]'(by simp at hm;omega)==i)=false:=List.not_of_lt_findIdx (p:=(·==i)) (show m<List.findIdx (·==i) is from hlt);exact hz
 ·obtain⟨m,hm,rfl⟩:=List.mem_iff_getElem.mp (by simpa using hy);obtain⟨t',e'⟩:=hat m hm;rw[e'];exact SeqAt.EqAt.int_int _ _ _ _
theorem Do(ho:DE X o mo)(he:DE X e me)(hb:attributeBase o "index" X.env (eval o X.env)=eval o X.env:=by rfl)
 (hf:((backTo p3 (starEach [e] X.env)).all (λx => !x.1)&&(backToKw p3 (keywordEach [] X.env)).all (λx=>x.1.isSome)&&decide ([e].length+([]:List Keyword).length+(if([]:List Keyword).isEmpty then 0 else 1)<30))=true:=by rfl)
 (hl:(p2.endLine==p3.line)=true:=by rfl) (hs:starEach [e] X.env=(false,eval e X.env)::starEach [] X.env:=by rfl) (hpl:(backTo p3 (starEach [] X.env)).any (·.1)=false:=by rfl):
 DE X (.Call (.Attribute o "index" p2) [e] [] p3) (aK pW mo me):=by
 obtain⟨to,po,qo⟩:=ho;obtain⟨te,pe,qe⟩:=he;refine⟨_,HQ acl aep PySem.F.type_list_index Oe po (bG pe cV hs) hb hf hl hs hpl,λos σ H δ d Q s m k=>?_⟩;obtain⟨x,e1,m⟩:=ao m;obtain⟨y,e2,m⟩:=ao m;refine qo os σ H δ x _ s e1 λv H1 g1 r1=>?_
 match x,y,e1,e2,m with
 |.lst ds,.int i,e1,e2,m=>
   obtain⟨is,m1,m⟩:=ao m;obtain⟨hi,m⟩:i∈is/\some (D.int (is.idxOf i:Nat))=some d:=by
    split at m
    ·rename_i h;exact⟨h,m⟩
    ·cases m
   cases m;obtain⟨l,xs,rfl,h1,d1⟩:=r1.lst_inv;refine⟨.inl ⟨rfl,xs,hide_le.seq h1⟩,qe os σ H1 δ _ _ (s.mono g1) e2 λw H2 g2 r2=>?_⟩;rw[fV m1 d1]at h1;exact⟨l,is,i,rfl,by rw[r2.int_inv],(g2.hd.trans hide_le).seq h1,hi,k _ H2 (g1.trans g2) (.int _)⟩
end
section
variable{X:Cx}{PX:Prop}{e a b k o:Expr}{me ma mb mk mo:ME}{pos p p2 p3 p4:Pos}
end
section
variable{X:Cx}{scX sc:Scope}{NX N:List Str}{k n:Nat}{fv:List Nat}{PX:Prop}
end
section
variable{X:Cx}{scX sc:Scope}{NX N:List Str}{k:Nat}{fv:List Nat}
theorem GK{use:Option (Value->Sem Unit)}{QQ:Value->Shared->Prop}{tg iter:Expr}{lp:Pos}{pos:Pos}{mi:MI}{g:MG}{B:Ev->Ev}(hB:Blk X k fv B)(hc:X.calm=true)(S:cT scX sc NX N k fv)(hX:X.env.scope=scX)(hN:X.N=NX)(hi:DI X tg iter mi)(hbl:Below k g)
 (hb:∀C s H fp,DG (kO X sc N C s H fp) tg g)
 (hs:∀x,foldedSetIterable iter X.env x=pure x:=by intro _;rfl)
 {pins:List (Addr×Obj)} {s:Shared} {σ:L2.St} {H:Hp} {os:List Addr} {δ:Ev} {d:D} (I:Inv X pins σ H s) (sl:Sl X os H δ σ) (m:nP B mi g tT (gD az) δ=some d)
 (fin:∀(Cc Dd:Addr)(s4:Shared)(Hd:Hp),(∀h',Heap.SameBut Cc s4.heap h'->Inv X pins σ Hd {s4 with heap:=h'})->(∃m,s4.heap.Ns Cc m)->mO X pins Hd Cc->Same H Hd->H Dd=none->(∃as:List Addr,d=.lst (List.replicate as.length (.lst []))/\Hd Dd=some (.lst (as.map V.ref))/\as.Nodup/\∀y∈as,Hd y=some (.lst [])/\H y=none)->
  compPost (model X.prog X.w) X.A X.xe use QQ (.ref Dd) Cc (.ok .next) s4):
 wpAny (model X.prog X.w) X.A (comprehension (.ListComp (.List [] lp) [⟨tg,iter,[],0⟩] sc pos) sc X.env (firstIterPos [⟨tg,iter,[],0⟩] pos) (newList []) (firstAsync [⟨tg,iter,[],0⟩]) (firstIter [⟨tg,iter,[],0⟩] X.env) use) QQ X.xe s:=by
 refine v4 (os:=os) (H0:=H) (ifs:=[]) (mc:=tT) (me:=gD az) hB hc S hX hN hi hbl (aap _) (λH' ys vs=>∃as:List Addr,vs=as.map V.ref/\ys=List.replicate as.length (.lst [])/\as.Nodup/\∀y∈as,H' y=some (.lst [])/\H y=none) (λ_=>⟨[],rfl,rfl,acr,λy h=>by cases h⟩) (λg h=>?_) (λh=>?_) (λC s' H' fp=>⟨hb C s' H' fp,(show zU (kO X sc N C s' H' fp) [] tT from rfl),_,Fw cV,λσ' H7 δ1 dd s1 g e=>?_⟩) hs I sl m λCc Dd s4 Hd a1 a2 a3 a4 a5 a6=>?_
 ·obtain⟨as,h1,h2,h3,h4⟩:=h;exact⟨as,h1,h2,h3,λy hy=>⟨g _ _ (h4 y hy).1,(h4 y hy).2⟩⟩
 ·obtain⟨as,rfl,rfl,_⟩:=h;simp
 ·cases e;refine⟨aap _,λp hp=>⟨bB hp _,?_⟩⟩;rintro _ _ ⟨as,rfl,rfl,nd,ha⟩;have n8:p∉as:=λz=>by
   have:=(ha p z).1;rw[hp]at this;cases this
  refine⟨as++[p],by simp,by rw[Z6];exact(List.replicate_succ' ..).symm,ach.mpr ⟨nd,by simp,λx hx y hy=>by rw[ZW]at hy;subst hy;exact λz=>n8 (z▸hx)⟩,λy hy=>?_⟩;rcases aar.mp hy with hy|hy
  ·exact⟨bB hp _ _ _ (ha y hy).1,(ha y hy).2⟩
  ·rw[ZW.mp hy];exact⟨aY,g.free hp⟩
 ·obtain⟨H3,ys,vs,rfl,⟨as,rfl,rfl,nd,ha⟩,h2,rfl⟩:=a6;exact fin Cc Dd s4 _ a1 a2 a3 a4 a5 ⟨as,rfl,aY,nd,λy hy=>⟨bB h2 _ _ _ (ha y hy).1,(ha y hy).2⟩⟩
end
structure Mat(H:Hp)(p:Addr)(as:List Addr)(rows:List (List Int)):Prop where
 top:H p=some (.lst (as.map V.ref))
 nd:as.Nodup
 len:as.length=rows.length
 at_:∀(j:Nat)(a:Addr)(r:List Int),as[j]? = some a->rows[j]? = some r->H a=some (.lst (r.map V.int))
theorem Mat.mono{H H':Hp}{p:Addr}{as:List Addr}{rows:List (List Int)}(m:Mat H p as rows)(g:Same H H'):Mat H' p as rows:=⟨g _ _ m.top,m.nd,m.len,λj a r h1 h2=>g _ _ (m.at_ j a r h1 h2)⟩
theorem Mat.ne{H:Hp}{p a:Addr}{as:List Addr}{rows:List (List Int)}{j:Nat}(m:Mat H p as rows)(h:as[j]? = some a):p≠a:=λz=>by
 have hj:j<rows.length:=by rw[<-m.len];exact(ZV.mp h).1
 have e:=m.at_ j a rows[j] h (ZM hj);rw[<-z,m.top]at e;have e2:as.map V.ref=rows[j].map V.int:=by injection e with e;injection e
 have:V.ref a∈rows[j].map V.int:=e2▸Z5.mpr ⟨a,aaY h,rfl⟩;obtain⟨_,_,q⟩:=Z5.mp this;cases q
theorem Mat.app{H:Hp}{p a:Addr}{as:List Addr}{rows:List (List Int)}{j:Nat}{r:List Int}(m:Mat H p as rows)(h:as[j]? = some a)(hr:rows[j]? = some r)(n:Int):Mat (upd H a (.lst (r.map V.int++[.int n]))) p as (rows.set j (r++[n])):=by
 refine⟨(aR (m.ne h)).trans m.top,m.nd,by rw[abb];exact m.len,λi b q h1 h2=>?_⟩;have hj:j<rows.length:=(ZV.mp hr).1;by_cases hij:i=j
 ·subst hij;rw[h]at h1;cases h1;rw[Z9 hj]at h2;cases h2;rw[aY,aaf];rfl
 ·rw[ZQ (aal hij)]at h2;have hb:b≠a:=λz=>hij (by
   subst z;have l1:=(ZV.mp h1);have l2:=(ZV.mp h);exact FP m.nd l1.1 l2.1 (l1.2.trans l2.2.symm))
  rw[aR hb];exact m.at_ i b q h1 h2
structure Lay(X:Cx)(os:List Addr)(p:Addr)(as:List Addr)(H:Hp)(δ:Ev)(σ:L2.St)(rows:List (List Int)):Prop where
 sl:Sl X (p::(as++os)) H δ σ
 mt:Mat H p as rows
 s2:σ[2]? = some (some (.ref p))
 six:σ.length=6
 d6:δ.length=6
 d2:δ[2]? = some none
 nu:∀y∈p::as,X.H₀ y=none
section
variable{X:Cx}{os:List Addr}{p:Addr}{as:List Addr}{H H':Hp}{δ:Ev}{σ:L2.St}{rows:List (List Int)}
theorem Lay.mono(h:Lay X os p as H δ σ rows)(g:Same H H'):Lay X os p as H' δ σ rows:=⟨h.sl.mono g,h.mt.mono g,h.s2,h.six,h.d6,h.d2,h.nu⟩
theorem Lay.set(h:Lay X os p as H δ σ rows)(hN:X.N.length=6){i:Nat}{d:D}{v:V}(hi:i<6)(h2:i≠2)(r:Den X.K (hide (p::(as++os)) H) d v):Lay X os p as H (δ.set i (some d)) (σ.set i (some v)) rows:=
 ⟨h.sl.set i (by rw[hN];exact hi) r,h.mt,by rw[ZQ h2];exact h.s2,by rw[abb];exact h.six,by rw[abb];exact h.d6,by rw[ZQ h2];exact h.d2,h.nu⟩
theorem Lay.app(h:Lay X os p as H δ σ rows)(hN:X.N.length=6){j:Nat}{a:Addr}{r:List Int}(ha:as[j]? = some a)(hr:rows[j]? = some r)(n:Int):
 Lay X os p as (upd H a (.lst (r.map V.int++[.int n]))) δ σ (rows.set j (r++[n]))/\hide (p::(as++os)) (upd H a (.lst (r.map V.int++[.int n])))=hide (p::(as++os)) H:=by
 have ma:a∈p::(as++os):=Zy _ (aaR _ (aaY ha));have hd:hide (p::(as++os)) (upd H a (.lst (r.map V.int++[.int n])))=hide (p::(as++os)) H:=by
  funext b
  by_cases hb:b∈p::(as++os)
  ·rw[cg hb,cg hb]
  ·rw[aL hb,aL hb,aR (λz:b=a=>hb (by rw[z];exact ma))]
 have h0:X.H₀ a=none:=h.nu a (Zy _ (aaY ha));refine⟨⟨⟨h.sl.n,h.sl.len,λi d hi q=>?_,λi d hi q1 q2=>?_,λi k d e b hi hk q1 q2 q3=>?_,λb hb=>?_,λb u e=>?_⟩,h.mt.app ha hr n,h.s2,h.six,h.d6,h.d2,h.nu⟩,hd⟩
 ·rw[hd];exact h.sl.pl i d hi q
 ·rw[aag (by rw[h.d6,hN];omega)]at q2;cases q2
 ·rw[aag (by rw[h.d6,hN];omega)]at q3;cases q3
 ·by_cases hba:b=a
  ·subst hba;exact⟨_,aY,True.intro⟩
  ·obtain⟨u,e,q⟩:=h.sl.live b hb;exact⟨u,(aR hba).trans e,q⟩
 ·rw[aR (bx e h0)];exact h.sl.keep b u e
theorem DK(rows:List (List Int))(n c:Int)(cs:List Int):eF rows n (cs++[c])=(eF rows n cs).set c.toNat ((eF rows n cs).getD c.toNat []++[n]):=by
 unfold eF;rw[List.foldl_append];rfl
theorem jR(n:Int):∀(cs:List Int)(rows:List (List Int)),(eF rows n cs).length=rows.length
 |[],_=>rfl|c::cs,rows=>by
   show(eF (rows.set _ _) n cs).length=_;rw[jR n cs,abb]
theorem rQ(n:Int){B:Nat}:∀(cs:List Int)(rows:List (List Int)),(∀r∈rows,r.length+cs.length<=B)->∀r∈eF rows n cs,r.length<=B
 |[],rows,h,r,hr=>h r hr|c::cs,rows,h,r,hr=>by
   refine rQ n cs (rows.set c.toNat (rows.getD c.toNat []++[n])) (λq hq=>?_) r hr;rcases List.mem_or_eq_of_mem_set hq with z|z
   ·have:=h q z;simp only[Z2]at this;omega
   ·rw[z,Z6,acD];by_cases hc:c.toNat<rows.length
    ·have:=h _ (aaX hc);simp only[Z2]at this;simp[Z3,hc];omega
    ·have:rows.getD c.toNat []=[]:=by simp[Z3,ae4.mp hc]
     rw[this];by_cases hz:c.toNat<rows.length
     ·exact absurd hz hc
     ·rw[List.set_eq_of_length_le (ae4.mp hz)]at hq;have:=h q hq;simp only[Z2]at this;simp;omega
end
section
variable{X:Cx}{scX sc:Scope}{NX N:List Str}{k:Nat}{fv:List Nat}{PX:Prop}
noncomputable def U4(X:Cx)(i:Nat)(m:ME):TS:=λD σ H=>∃os δ d,Sl X os H δ σ/\m δ=some d/\∀(p:Addr)(H':Hp)(as:List Addr),Same H H'->H p=none->d=.lst (List.replicate as.length (.lst []))->H' p=some (.lst (as.map V.ref))->as.Nodup->(∀y∈as,H' y=some (.lst [])/\H y=none)->D.nx (σ.set i (some (.ref p))) H'
theorem Nm{x:Str}{p2 spos lp:Pos}{i:Nat}{tg iter:Expr}{pos:Pos}{mi:MI}{g:MG}{B:Ev->Ev}(hB:Blk X k fv B)(hc:X.calm=true)(S:cT scX sc NX N k fv)(hX:X.env.scope=scX)(hN:X.N=NX)(hi:DI X tg iter mi)(hbl:Below k g)
 (hb:∀C s H fp,DG (kO X sc N C s H fp) tg g) (hpg:PG X (.Name x p2) (gG i))
 (hsw:swapsWith (.ListComp (.List [] lp) [⟨tg,iter,[],0⟩] sc pos) (some (.Name x p2)) spos.line X.env=pure true) (hs:∀x,foldedSetIterable iter X.env x=pure x):
 PS X (.Assign [.Name x p2] (.ListComp (.List [] lp) [⟨tg,iter,[],0⟩] sc pos) spos) (U4 X i (nP B mi g tT (gD az))):=by
 intro pins s σ H D I h;obtain⟨os,δ,d,sl,m,kq⟩:=h;rw[exec_Assign_Name_used _ _ _ _ hsw];refine vz (wpAny_standAt (vz ?_));refine vz (m:=comprehension (.ListComp (.List [] lp) [⟨tg,iter,[],0⟩] sc pos) sc X.env (firstIterPos [⟨tg,iter,[],0⟩] pos) (newList []) (firstAsync [⟨tg,iter,[],0⟩]) (firstIter [⟨tg,iter,[],0⟩] X.env) (some (assign (.Name x p2) X.env))) (GK (use:=some (assign (.Name x p2) X.env)) hB hc S hX hN hi hbl hb hs I sl m λCc Dd s4 Hd hI hns hf gs hn ow=>?_);obtain⟨mm,o,es,ep,ho,hr⟩:=hns;obtain⟨as,o1,o2,o3,o4⟩:=ow;have J:Inv X pins σ Hd s4:=hI s4.heap (acF _ _);have hnc:∀v,o.data≠.cell v:=λv z=>by
  rw[hr.1]at z;cases z
 have J':=J.pinned (fp:=[Cc]) (λb hb=>by rw[ZW.mp hb];exact hf) (λb hb=>by rw[ZW.mp hb];exact⟨o,ho,hnc⟩);refine aa5 (hpg _ s4 σ Hd (.ref Dd) (.ref Dd) (λσ' H'=>D.nx σ' H') J' rfl (kq Dd Hd as gs hn o1 o2 o3 o4)) (λ_ s5 q=>?_) λ_ _ z=>z;obtain⟨σ',H',J5,q5⟩:=q;have pin:=J5.pin (Cc,o) (Z4 _ (Z4 _ (fG (by simp) ho)));refine⟨mm,⟨o,es,ep,pin.1,hr⟩,λh' sb=>ZC (ZC ?_)⟩;have J6:=J5.unpinned;exact⟨σ',H',J6.turned (it:=Cc) (h':=h') (t':=s5.toks) (λb ob hb e=>(sb.2 b hb).trans e) pin.2.1 hf.2.1 hf.2.2.2.1 hf.2.2.2.2.1 hf.2.2.2.2.2,q5⟩
end
section
variable{X:Cx}{os:List Addr}{p:Addr}{as:List Addr}{PX:Prop}
def Mq(K:PySem.W.Frag):TS:=Hi (Y5 K "list" Hw (Q9 (Ng K) (fC 2) (fC 5)) (kW (fC 3) En))
theorem Qz{H:Hp}{δ:Ev}{σ:L2.St}{rows:List (List Int)}{n c:Int}{D:Ends}(h:Lay X os p as H δ σ rows)(hN:X.N.length=6)(h3:σ[3]? = some (some (.int n)))(h5:σ[5]? = some (some (.int c)))(c0:0<=c)(c1:c<rows.length)(hs:∀r∈rows,r.length<=1000000)
 (k:∀H',Lay X os p as H' δ σ (rows.set c.toNat (rows.getD c.toNat []++[n]))->hide (p::(as++os)) H'=hide (p::(as++os)) H->D.nx σ H'):Mq X.K D σ H:=by
 have hj:c.toNat<rows.length:=by omega
 have ha:c.toNat<as.length:=by rw[h.mt.len];exact hj
 have ea:as[c.toNat]? = some as[c.toNat]:=ZM ha;have er:rows[c.toNat]? = some rows[c.toNat]:=ZM hj;have hat:=h.mt.at_ _ _ _ ea er;have hg:rows.getD c.toNat []=rows[c.toNat]:=by simp[Z3,hj]
 obtain⟨l1,l2⟩:=h.app hN ea er n;have hix:QM (as.map V.ref).length c=some c.toNat:=by
  unfold QM;rw[ZK,ZZ c0,ZZ (by rw[h.mt.len];omega)]
 refine⟨_,h.s2,_,h5,p,as.map V.ref,c,.ref as[c.toNat],rfl,rfl,.of h.mt.top,by unfold Tv;rw[hix];simp[ea],.inl ⟨rfl,_,.of hat⟩,_,h3,as[c.toNat],rows[c.toNat].map V.int,.int n,rfl,rfl,hat,?_,?_⟩
 ·rw[ZK,cM];have:=hs _ (aaX hj);omega
 ·exact k _ (by rw[hg];exact l1) l2
end
theorem xV:∀{ds:List D}{cs:List Int},intsOf ds=some cs->ds=cs.map DL.D.int
 |[],cs,h=>by cases h;rfl|.int i::ds,cs,h=>by
   obtain⟨q,h1,h2⟩:=aak.mp h;cases h2;rw[xV h1];rfl
section
variable{X:Cx}{os:List Addr}{p:Addr}{as:List Addr}{PX:Prop}{fn:MF}{wi wi2:TI}
theorem Gf{H:Hp}{δ:Ev}{σ:L2.St}{rows:List (List Int)}{n:Int}{es pc:D}{ds:List D}{cs:List Int}{D:Ends}(hN:X.N.length=6)
 (qi:∀os σ H δ xs R,Sl X os H δ σ->cC (au fn (aj (ak 4) (aj (ak 1) az))) δ=some xs->(∀J H',Same H H'->Walk X.K J (hide os H') xs->R J H')->wi2 σ H R)
 (h:Lay X os p as H δ σ rows) (d1:δ[1]? = some (some es)) (d4:δ[4]? = some (some pc)) (h3:σ[3]? = some (some (.int n))) (hf:fn [pc,es]=some (.lst ds)) (hc:intsOf ds=some cs)
 (h1:∀c∈cs,0<=c/\c<rows.length) (h2:∀r∈rows,r.length+cs.length<=1000000)
 (k:∀H' σ' δ',Lay X os p as H' δ' σ' (eF rows n cs)->Same (hide (p::(as++os)) H) (hide (p::(as++os)) H')->(∀j,j≠5->δ'[j]? = δ[j]?)->D.nx σ' H'):
 JR wi2 (gG 5) (Mq X.K) D σ H:=by
 have hds:=xV hc;subst hds;have e1:ak 1 δ=some es:=by unfold ak slot;rw[d1];rfl
 have e4:ak 4 δ=some pc:=by unfold ak slot;rw[d4];rfl
 have hm:cC (au fn (aj (ak 4) (aj (ak 1) az))) δ=some (cs.map DL.D.int):=by
  unfold cC;rw[bF e4 e1,hf];rfl
 refine qi _ σ H δ _ _ h.sl hm λJ H1 g1 wk=>?_;refine⟨λi m σ2 H2=>m=cs.length-i/\i<=cs.length/\∃δ2,Lay X os p as H2 δ2 σ2 (eF rows n (cs.take i))/\Same (hide (p::(as++os)) H1) (hide (p::(as++os)) H2)/\(∀j,j≠5->δ2[j]? = δ[j]?)/\σ2[3]? = some (some (.int n)),
  ⟨cs.length,by simp,aap _,δ,h.mono g1,Same.refl _,λ_ _=>rfl,h3⟩,?_⟩
 rintro i m σ2 H2 ⟨rfl,hi,δ2,L2,g2,hd,s3⟩;obtain⟨w1,w2⟩:=wk i _ H2 L2.sl.live g2;by_cases hlt:i<cs.length
 ·have hx:(cs.map DL.D.int)[i]? = some (.int cs[i]):=by rw[aad,ZM hlt];rfl
  obtain⟨go,yl⟩:=w1 _ hx;refine .inr ⟨go,λσ' H'=>∃δ2,Lay X os p as H' δ2 σ' (eF rows n (cs.take (i+1)))/\Same (hide (p::(as++os)) H1) (hide (p::(as++os)) H')/\(∀j,j≠5->δ2[j]? = δ[j]?)/\σ'[3]? = some (some (.int n)),λσ' H' q=>⟨cs.length-(i+1),by omega,rfl,hlt,q⟩,λx H3 y=>?_⟩;obtain⟨g3,r⟩:=yl x H3 y;have hx3:=r.int_inv;subst hx3;have L3:=(L2.mono g3).set hN (i:=5) (by decide) (by decide) r;have hl:(eF rows n (cs.take i)).length=rows.length:=jR n _ _;obtain⟨c0,c1⟩:=h1 cs[i] (aaX hlt);have et:cs.take (i+1)=cs.take i++[cs[i]]:=by rw[List.take_succ,ZM hlt];rfl
  refine Qz L3 hN (by rw[ZQ (by decide)];exact s3) (by rw[Z9 (by rw[L2.six];decide)]) c0 (by rw[hl];exact c1) (λr hr=>rQ n (cs.take i) rows (λq hq=>by have:=h2 q hq;rw[abZ];omega) r hr) λH4 L4 e4=>?_;refine⟨δ2.set 5 (some (.int cs[i])),by rw[et,DK];exact L4,g2.trans ((g3.hd).trans (by rw[e4];exact Same.refl _)),λj hj=>by rw[ZQ (aal hj)];exact hd j hj,by rw[ZQ (by decide)];exact s3⟩
 ·have e:i=cs.length:=by omega
  subst e;rw[List.take_length]at L2;exact .inl ⟨w2 (by rw[ZK]),k H2 σ2 δ2 L2 (g1.hd.trans g2) hd⟩
def XC(K:PySem.W.Frag):TG:=XD K 2 (O7 (gG 3) (O7 (gG 4) XF))
theorem Fz{H:Hp}{δ:Ev}{σ:L2.St}{rows fin:List (List Int)}{es:List D}{ps:List D}{D:Ends}(hN:X.N.length=6)
 (qo:∀os σ H δ xs R,Sl X os H δ σ->rD (ak 0) δ=some xs->(∀J H',Same H H'->Walk X.K J (hide os H') xs->R J H')->wi σ H R)
 (qi:∀os σ H δ xs R,Sl X os H δ σ->cC (au fn (aj (ak 4) (aj (ak 1) az))) δ=some xs->(∀J H',Same H H'->Walk X.K J (hide os H') xs->R J H')->wi2 σ H R)
 (h:Lay X os p as H δ σ rows) (d0:δ[0]? = some (some (.tup ps))) (d1:δ[1]? = some (some (.lst es))) (hl:wM fn (.lst es) 0 ps rows=some fin)
 (k:∀H' σ' δ',Lay X os p as H' δ' σ' fin->Same (hide (p::(as++os)) H) (hide (p::(as++os)) H')->δ'[0]? = some (some (.tup ps))->δ'[1]? = some (some (.lst es))->D.nx σ' H'):
 JR wi (XC X.K) (JR wi2 (gG 5) (Mq X.K)) D σ H:=by
 have hm:rD (ak 0) δ=some (cG 0 ps):=by
  unfold rD ak slot;rw[d0];rfl
 refine qo _ σ H δ _ _ h.sl hm λJ H1 g1 wk=>?_;refine⟨λi m σ2 H2=>m=ps.length-i/\i<=ps.length/\∃δ2 rows2,Lay X os p as H2 δ2 σ2 rows2/\Same (hide (p::(as++os)) H1) (hide (p::(as++os)) H2)/\δ2[0]? = some (some (.tup ps))/\δ2[1]? = some (some (.lst es))/\wM fn (.lst es) i (ps.drop i) rows2=some fin,
  ⟨ps.length,by simp,aap _,δ,rows,h.mono g1,Same.refl _,d0,d1,hl⟩,?_⟩
 rintro i m σ2 H2 ⟨rfl,hi,δ2,rows2,L2,g2,f0,f1,hl2⟩;obtain⟨w1,w2⟩:=wk i _ H2 L2.sl.live g2;by_cases hlt:i<ps.length
 ·have hx:(cG 0 ps)[i]? = some (.tup [.int (i:Nat),ps[i]]):=by
   have hi':i<(cG 0 ps).length:=by rw[lF];exact hlt
   obtain⟨e,e1,e2⟩:=rG ps 0 i _ (ZM hi');rw[ZM hlt]at e1;cases e1;rw[ZM hi',e2,acx]
  obtain⟨go,yl⟩:=w1 _ hx;rw[ab7 hlt,wM]at hl2;obtain⟨d,f2,hl2⟩:=ao hl2
  match d,f2,hl2 with
  |.lst ds,f2,hl2=>
    obtain⟨cs,f3,hl2⟩:=ao hl2;split at hl2
    ·rename_i hb;have b1:∀c∈cs,0<=c/\c<rows2.length:=λc hc=>by
      have:=aaM.mp hb.1 c hc;simpa using this
     have b2:∀r∈rows2,r.length+cs.length<=1000000:=λr hr=>by
      have:=aaM.mp hb.2 r hr;simpa using this
     refine .inr ⟨go,λσ' H'=>∃δ2 rows2,Lay X os p as H' δ2 σ' rows2/\Same (hide (p::(as++os)) H1) (hide (p::(as++os)) H')/\δ2[0]? = some (some (.tup ps))/\δ2[1]? = some (some (.lst es))/\wM fn (.lst es) (i+1) (ps.drop (i+1)) rows2=some fin,λσ' H' q=>⟨ps.length-(i+1),by omega,rfl,hlt,q⟩,λx H3 y=>?_⟩;obtain⟨g3,r⟩:=yl x H3 y;obtain⟨t,vs,rfl,ht,dv⟩:=r.tup_inv;obtain⟨v0,r0,rfl,hv0,dv⟩:=dv.uncons;obtain⟨v1,r1,rfl,hv1,dv⟩:=dv.uncons;have:=dv.unnil;subst this;have hv0':=hv0.int_inv;subst hv0';refine⟨t,_,rfl,.of (hide_le _ _ ht),rfl,_,_,rfl,_,_,rfl,rfl,?_⟩;have L3:=((L2.mono g3).set hN (i:=3) (by decide) (by decide) hv0).set hN (i:=4) (by decide) (by decide) hv1;refine Gf hN qi L3 (es:=.lst es) (pc:=ps[i]) (n:=(i:Nat)) (cs:=cs) (ds:=ds) (by rw[ZQ (by decide),ZQ (by decide)];exact f1) (by rw[Z9 (by rw[abb,L2.d6];decide)])
      (by rw[ZQ (by decide),Z9 (by rw[L2.six];decide)]) f2 f3 b1 b2 λH4 σ4 δ4 L4 g4 hd=>?_
     refine⟨δ4,_,L4,g2.trans (g3.hd.trans g4),?_,?_,hl2⟩
     ·rw[hd 0 (by decide),ZQ (by decide),ZQ (by decide)];exact f0
     ·rw[hd 1 (by decide),ZQ (by decide),ZQ (by decide)];exact f1
    ·cases hl2
 ·have e:i=ps.length:=by omega
  subst e;rw[adq]at hl2;cases hl2;exact .inl ⟨w2 (by rw[lF]),k H2 σ2 δ2 L2 (g1.hd.trans g2) f0 f1⟩
end
section
variable{X:Cx}{scX sc:Scope}{NX N:List Str}{k:Nat}{fv:List Nat}{PX:Prop}
theorem Nq{o i e:Expr}{p2 p3 p4 p5:Pos}(h2:PE X o (fC 2))(h5:PE X i (fC 5))(h3:PE X e (fC 3))(hix:zT i)(hb:attributeBase (.Subscript o i p5) "append" X.env (eval (.Subscript o i p5) X.env)=eval (.Subscript o i p5) X.env:=by rfl)
 (hf:((backTo p3 (starEach [e] X.env)).all (λx => !x.1)&&(backToKw p3 (keywordEach [] X.env)).all (λx=>x.1.isSome)&&decide ([e].length+([]:List Keyword).length+(if([]:List Keyword).isEmpty then 0 else 1)<30))=true:=by rfl)
 (hl:(p2.endLine==p3.line)=true:=by rfl) (hs:starEach [e] X.env=(false,eval e X.env)::starEach [] X.env:=by rfl) (hpl:(backTo p3 (starEach [] X.env)).any (·.1)=false:=by rfl):
 PS X (.Expr (.Call (.Attribute (.Subscript o i p5) "append" p2) [e] [] p3) p4) (Mq X.K):=
 oF (HQ acl acC aec xJ (HJ ix_list h2 h5 hix) (bG h3 cV hs) hb hf hl hs hpl)
theorem Gu{x:Str}{p2 spos lp pos pos1 pos2:Pos}{tg iter tgO iterO tgI iterI:Expr}{stA:Stmt}{rest:List Stmt}{mi:MI}{g:MG}{fn:MF}{m:MS}(h6:X.N.length=6)(hp:PassesOwn (model X.prog X.w) X.A X.env X.xe)(hc:X.calm=true)(S:cT scX sc NX N k fv)(hX:X.env.scope=scX)(hN:X.N=NX)(hi:DI X tg iter mi)(hbl:Below k g)
 (hb:∀C s H fp,DG (kO X sc N C s H fp) tg g) (hpg:PG X (.Name x p2) (gG 2)) (hiO:DI X tgO iterO (rD (ak 0))) (hgO:PG X tgO (XC X.K)) (hiI:DI X tgI iterI (cC (au fn (aj (ak 4) (aj (ak 1) az))))) (hgI:PG X tgI (gG 5)) (hA:PS X stA (Mq X.K)) (hr:DQ X PX rest m)
 (hsw:swapsWith (.ListComp (.List [] lp) [⟨tg,iter,[],0⟩] sc pos) (some (.Name x p2)) spos.line X.env=pure true:=by rfl) (hs:∀x,foldedSetIterable iter X.env x=pure x:=by intro _;rfl)
 (hsO:∀x,foldedSetIterable iterO X.env x=pure x:=by intro _;rfl) (hsI:∀x,foldedSetIterable iterI X.env x=pure x:=by intro _;rfl):
 DQ X PX (.Assign [.Name x p2] (.ListComp (.List [] lp) [⟨tg,iter,[],0⟩] sc pos) spos::.For tgO iterO [.For tgI iterI [stA] [] pos1] [] pos2::rest) (qD (bM k fv mi g tT (gD az)) fn m):=by
 obtain⟨wO,pO,qO⟩:=hiO;obtain⟨wI,pI,qI⟩:=hiI;obtain⟨t',p',q'⟩:=hr;refine⟨_,gP (Nm v9 hc S hX hN hi hbl hb hpg hsw hs) (gP (u0 hp hc pO hgO (jW (u0 hp hc pI hgI (jW hA) hsI)) hsO) p'),λos σ H δ r D s me kq=>?_⟩;unfold qD at me;split at me
 ·rename_i ps es;obtain⟨c,e1,me⟩:=ao me
  match c,e1,me with
  |.lst cs,e1,me=>
    have me':(if cs.length<=1000000 then(wM fn (.lst es) 0 ps (List.replicate cs.length [])).bind λrows=>m [some (.tup ps),some (.lst es),some (Bk rows),none,none,none]else none)=some r:=me;by_cases hcs:cs.length<=1000000
    ·rw[ZZ hcs]at me';obtain⟨rows,e2,me⟩:=ao me';refine⟨os,_,_,s,e1,λp H1 as g1 hp1 hd htop hnd has=>?_⟩;have hlen:cs.length=as.length:=by
      injection hd with hd;rw[hd,abe]
     have fresh:∀y∈p::as,H y=none:=λy hy=>by
      rcases ZP.mp hy with z|z
      ·rw[z];exact hp1
      ·exact(has y z).2
     have big:Same (hide os H) (hide (p::(as++os)) H1):=λb o z=>by
      have hb':b∉os:=λy=>by rw[cg y]at z;cases z
      rw[aL hb']at z;have hn:b∉p::(as++os):=λy=>by
       rcases ZP.mp y with y|y
       ·rw[y,hp1]at z;cases z
       ·rcases aar.mp y with y|y
        ·rw[(has b y).2]at z;cases z
        ·exact hb' y
      rw[aL hn];exact g1 _ _ z
     have hsn:σ.length=6:=by rw[s.n];exact h6
     have L:Lay X os p as H1 [some (.tup ps),some (.lst es),none,none,none,none] (σ.set 2 (some (.ref p))) (List.replicate cs.length []):=by
      refine⟨⟨by rw[abb];exact s.n,by rw[h6];exact ZS 6,λi d hi q=>?_,λi d hi q1 q2=>?_,λi j d e b hi hj q1 q2 q3=>?_,λb hb'=>?_,s.keep.trans g1⟩,⟨htop,hnd,by rw[abe];exact hlen.symm,λj a r' q1 q2=>?_⟩,by rw[Z9 (by omega)],by rw[abb];exact hsn,rfl,rfl,λy hy=>s.keep.free (fresh y hy)⟩
      ·have h2:i≠2:=λz=>by subst z;cases q
       obtain⟨v,v1,v2⟩:=s.pl i d hi q;exact⟨v,by rw[ZQ (aal h2)];exact v1,v2.mono big _ _⟩
      ·rw[aag (by rw[h6];show 6<=6+i;omega)]at q2;cases q2
      ·rw[aag (by rw[h6];show 6<=6+i;omega)]at q3;cases q3
      ·rcases ZP.mp hb' with y|y
       ·rw[y];exact⟨_,htop,True.intro⟩
       ·rcases aar.mp y with y|y
        ·exact⟨_,(has b y).1,True.intro⟩
        ·obtain⟨u,e,q⟩:=s.live b y;exact⟨u,g1 _ _ e,q⟩
      ·have hr0:r'=[]:=by
        rw[aa6]at q2;split at q2
        ·cases q2;rfl
        ·cases q2
       subst hr0;exact(has a (aaY q1)).1
     refine Fz h6 qO qI L rfl rfl e2 λH2 σ2 δ2 L2 g2 f0 f1=>?_;have np:∀y∈p::as,y∉os:=λy hy z=>by
      obtain⟨u,e,_⟩:=s.live y z;rw[fresh y hy]at e;cases e
     have less:Same (hide (p::(as++os)) H2) (hide os H2):=λb o z=>by
      have hn:b∉p::(as++os):=λy=>by rw[cg y]at z;cases z
      rw[aL hn]at z;rw[aL (λy=>hn (Zy _ (Z4 _ y)))];exact z
     refine q' os σ2 H2 [some (.tup ps),some (.lst es),some (Bk rows),none,none,none] r D ⟨L2.sl.n,by rw[h6];exact ZS 6,λi d hi q=>?_,λi d hi q1 q2=>?_,λi j d e b hi hj q1 q2 q3=>?_,λb hb'=>L2.sl.live b (Zy _ (Z4 _ hb')),L2.sl.keep⟩ me (kq.mono ⟨(big.trans g2).trans less,λb hb' _=>hb'⟩)
     ·by_cases i0:i=0
      ·subst i0;cases q;obtain⟨v,v1,v2⟩:=L2.sl.pl 0 _ hi f0;exact⟨v,v1,v2.mono less _ _⟩
      ·by_cases i1:i=1
       ·subst i1;cases q;obtain⟨v,v1,v2⟩:=L2.sl.pl 1 _ hi f1;exact⟨v,v1,v2.mono less _ _⟩
       ·by_cases i2:i=2
        ·subst i2;cases q;refine⟨_,L2.s2,.lst (.of ((aL (np p ZF)).trans L2.mt.top)) ?_⟩;have key:∀(l:List Addr)(rs:List (List Int)),l.length=rs.length->(∀y∈l,y∉os)->(∀(j:Nat)(a:Addr)(r:List Int),l[j]? = some a->rs[j]? = some r->H2 a=some (.lst (r.map V.int)))->Dens X.K (hide os H2) (rs.map λr=>.lst (r.map DL.D.int)) (l.map V.ref):=λl=>by
          induction l with
          |nil=>
            intro rs hl _ _;cases rs with
            |nil=>exact .nil|cons _ _=>cases hl
          |cons a l ih=>
            intro rs hl hn hat;cases rs with
            |nil=>cases hl|cons r0 rs=>
              exact .cons (.lst (.of ((aL (hn a ZF)).trans (hat 0 a r0 rfl rfl))) (Dens.ints r0)) (ih rs (by simpa using hl) (λy hy=>hn y (Zy _ hy)) λj a' r' q1 q2=>hat (j+1) a' r' (by simpa using q1) (by simpa using q2))
         exact key as rows L2.mt.len (λy hy=>np y (Zy _ hy)) L2.mt.at_
        ·exfalso
         match i,i0,i1,i2,q with
         |3,_,_,_,q=>cases q|4,_,_,_,q=>cases q|5,_,_,_,q=>cases q|i+6,_,_,_,q=>rw[h6]at hi;omega
     ·rw[aag (by rw[h6];show 6<=6+i;omega)]at q2;cases q2
     ·rw[aag (by rw[h6];show 6<=6+i;omega)]at q3;cases q3
    ·rw[aaa hcs]at me';cases me'
 ·cases me
end
theorem KZ{X:Cx}{a b c:Expr}{ma mb mc:ME}{pos:Pos}{op op':CmpOp}{f g:D->D->Option D}(ho:DP X (compareOp op) f)(ho':DP X (compareOp op') g)(hf:∀x y d,f x y=some d->∃k,d=.bl k)(hg:∀x y d,g x y=some d->∃k,d=.bl k)
 (ha:DE X a ma) (hb:DE X b mb) (hc:DE X c mc) (hm:lastMarks [op,op'] [b,c]=false:=by with_unfolding_all rfl):DT X (.Compare a [op,op'] [b,c] pos) (tV (oJ f g ma mb mc)):=by
 obtain⟨r,hr,qr⟩:=ho;obtain⟨r',hr',qr'⟩:=ho';obtain⟨ta,pa,qa⟩:=ha;obtain⟨tb,pb,qb⟩:=hb;obtain⟨tc,pc,qc⟩:=hc;refine⟨_,Ni hr hr' pa pb pc hm,λos σ H δ d Q s m kq=>?_⟩;obtain⟨w,m,mt⟩:=ao m;obtain⟨x,e1,m⟩:=ao m;obtain⟨y,e2,m⟩:=ao m;obtain⟨z,e3,m⟩:=ao m;obtain⟨k,rfl⟩:=hf x y z e3;refine qa os σ H δ x _ s e1 λvx H1 g1 r1=>?_;refine qb os σ H1 δ y _ (s.mono g1) e2 λvy H2 g2 r2=>?_;refine qr os H2 (s.live.mono (g1.trans g2)) x y _ vx vy _ (r1.mono (g2).hd _ _) r2 e3 λvz H3 g3 r3=>⟨k,r3.bl_inv,?_⟩;have g13:=g1.trans (g2.trans g3);cases k with
 |false=>
   cases m;cases mt;exact Kw ⟨false,rfl,kq H3 g13⟩
 |true=>
   obtain⟨u,e4,m⟩:=ao m;refine Kv (qc os σ H3 δ u _ (s.mono g13) e4 λvu H4 g4 r4=>qr' os H4 (s.live.mono (g13.trans g4)) y u w vy vu _ (r2.mono ((g3.trans g4)).hd _ _) r4 m λv H5 g5 r5=>?_);obtain⟨k',rfl⟩:=hg y u w m;cases mt;exact⟨_,r5.bl_inv,kq H5 (g13.trans (g4.trans g5))⟩
end DL
namespace DL
open PySem PyProof.Rows PySem.W
section
variable{P:Program}{w:World}{A:Around}{E:Value->Shared->Prop}{s:Shared}
section
variable{M:Model}{σ β:Type}{n:Nat}{c:β}{f:Nat->β->StateT σ Sem (ForInStep β)}{Q:β->σ->Shared->Prop}{st:σ}
end
end
section
variable{P:Program}{w:World}{A:Around}{E:Value->Shared->Prop}{s:Shared}
def Yp(a:Addr)(h h':Heap):Prop:=∀b o,b≠a->h.get? b=some o->h'.get? b=some o
end
end DL
namespace DL
open PySem PySem.Spec PyProof.Rows L2
section
variable{X:Cx}{e:Expr}{me:ME}{pos p:Pos}
end
end DL
namespace DL
open PySem
end DL
namespace DL
open PySem PySem.W PyProof.Rows
noncomputable def jL{α:Type}(lt:Nat->Nat->Bool):KasT α->α
 |.ret a=>a|.ask i j k=>jL lt (k (lt i j))
noncomputable def Oj:List Int->List Int->Bool
 |_,[]=>false|[],_::_=>true|a::x,b::y=>if a=b then Oj x y else decide (a<b)
def VH:D->Option (List Int×Int)
 |.tup [.tup ks,.int a]=>(intsOf ks).bind λis=>some (is,a)|_=>none
def FZ:List D->Option (List (List Int×Int))
 |[]=>some []|d::ds=>(VH d).bind λq=>(FZ ds).bind λr=>some (q::r)
def Ui(x y:List Int×Int):Bool:=if x.1=y.1 then decide (x.2<y.2)else Oj x.1 y.1
def ltAt(qs:List (List Int×Int))(i j:Nat):Bool:=Ui (qs.getD i ([],0)) (qs.getD j ([],0))
def xg(qs:List (List Int×Int))(ds:List D):List D:=if ds.length<2 then ds else(jL (ltAt qs) (kas_sort ds.length)).toList.map λi=>ds.getD i .non
def yD:D->Option D
 |.lst ds=>(FZ ds).bind λqs=>if ds.length<64 then some (.lst (xg qs ds))else none
 |_=>none
noncomputable def jq{α:Type}(n:Nat)(lt:Nat->Nat->Bool)(Q:α->Prop):KasT α->Prop
 |.ret a=>Q a|.ask i j k=>i<n/\j<n/\jq n lt Q (k (lt i j))
section
variable{n:Nat}{lt:Nat->Nat->Bool}
theorem lC{α β:Type}{Q:β->Prop}{f:α->KasT β}:∀(t:KasT α),jq n lt (λa=>jq n lt Q (f a)) t->jq n lt Q (t.bind f)
 |.ret a,h=>h|.ask i j k,⟨h1,h2,h3⟩=>⟨h1,h2,lC (k (lt i j)) h3⟩
theorem rm{α:Type}{Q:α->Prop}:∀(t:KasT α),jq n lt Q t->Q (jL lt t)
 |.ret a,h=>h|.ask i j k,⟨_,_,h3⟩=>rm (k (lt i j)) h3
theorem lB{α:Type}{Q R:α->Prop}(hqr:∀a,Q a->R a):∀(t:KasT α),jq n lt Q t->jq n lt R t
 |.ret a,h=>hqr a h|.ask i j k,⟨h1,h2,h3⟩=>⟨h1,h2,lB hqr (k (lt i j)) h3⟩
def Pm(n:Nat)(p:Array Nat):Prop:=p.toList.Perm (List.range n)
theorem Pm.in_{p:Array Nat}(hn:0<n)(h:Pm n p)(i:Nat):p.getD i 0<n:=by
 by_cases hi:i<p.size
 ·have e:p.getD i 0=p[i]:=by simp[Array.getD,hi]
  rw[e];have:p[i]∈p.toList:=by simp
  exact aab.mp (h.mem_iff.mp this)
 ·have e:p.getD i 0=0:=by simp[Array.getD,hi]
  rw[e];exact hn
theorem Pm.rev{p:Array Nat}(h:Pm n p)(i j:Nat):Pm n (kas_rev p i j):=(adV.mp (mirror_perm p i j _)).trans h
theorem Pm.bub{p:Array Nat}(h:Pm n p)(i j:Nat):Pm n (bubble p i j):=(adV.mp (bubble_perm p i j)).trans h
theorem zq{p:Array Nat}(hn:0<n)(h:Pm n p):∀(f m:Nat),jq n lt (λ_=>True) (kas_asc p f m)
 |0,m=>trivial|f+1,m=>by
   refine⟨h.in_ hn _,h.in_ hn _,?_⟩;dsimp only;split
   ·trivial
   ·exact zq hn h f (m+1)
theorem rn(hn:0<n):∀(f:Nat)(p:Array Nat)(m q:Nat),Pm n p->jq n lt (λr=>Pm n r.1) (kas_desc f p m q)
 |0,p,m,q,h=>h|f+1,p,m,q,h=>by
   refine⟨h.in_ hn _,h.in_ hn _,?_⟩;dsimp only;split
   ·split
    ·exact rn hn f _ _ _ (h.rev _ _)
    ·exact rn hn f _ _ _ h
   ·refine⟨h.in_ hn _,h.in_ hn _,?_⟩;dsimp only;split
    ·exact h
    ·exact rn hn f _ _ _ h
theorem xP(hn:0<n){p:Array Nat}(h:Pm n p)(m k:Nat):jq n lt (λr=>Pm n r.2) (kas_tail3 m k p):=lC _ (lB (λ_ _=>h.rev _ _) _ (zq hn (h.rev _ _) _ _))
theorem Cp(hn:0<n){p:Array Nat}(h:Pm n p)(m k:Nat):jq n lt (λr=>Pm n r.2) (kas_descPart m k p):=by
 refine lC _ (lB (λr hr=>?_) _ (rn hn _ _ _ _ h));split
 ·exact xP hn (hr.rev _ _) _ _
 ·exact xP hn hr _ _
theorem Kp(hn:0<n){p:Array Nat}(h:Pm n p)(k:Nat):jq n lt (λr=>Pm n r.2) (kas_count k p):=by
 refine lC _ (lB (λm _=>?_) _ (zq hn h _ _));split
 ·exact h
 ·split
  ·refine⟨h.in_ hn _,h.in_ hn _,?_⟩;dsimp only;split
   ·exact h
   ·exact Cp hn (h.rev _ _) _ _
  ·exact Cp hn h _ _
theorem sW(hn:0<n){p:Array Nat}(h:Pm n p)(k:Nat):∀f l r,jq n lt (λ_=>True) (kas_place p k f l r)
 |0,l,r=>trivial|f+1,l,r=>by
   unfold kas_place;split
   ·trivial
   ·refine⟨h.in_ hn _,h.in_ hn _,?_⟩;dsimp only;split
    ·exact sW hn h k f _ _
    ·exact sW hn h k f _ _
theorem Il(hn:0<n):∀(f:Nat)(p:Array Nat)(k:Nat),Pm n p->jq n lt (Pm n) (kas_bin f p k)
 |0,p,k,h=>h|f+1,p,k,h=>lC _ (lB (λl _=>Il hn f _ _ (h.bub _ _)) _ (sW hn h k _ _ _))
theorem nM(hn:0<n):jq n lt (Pm n) (kas_sort n):=by
 refine lC _ (lB (λr hr=>?_) _ (Kp hn (p:=List.toArray (List.range n)) (List.Perm.refl _) n));split
 ·exact Il hn _ _ _ hr
 ·exact hr
end
theorem O6(ds:List D):(List.range ds.length).map (λi=>ds.getD i .non)=ds:=by
 refine acM (by simp) λi h1 h2=>?_;simp[h2]
theorem Et(qs:List (List Int×Int))(ds:List D):(xg qs ds).Perm ds:=by
 unfold xg;split
 ·exact List.Perm.refl _
 ·have:=(rm _ (nM (n:=ds.length) (lt:=ltAt qs) (by omega))).map λi=>ds.getD i .non;rw[O6]at this;exact this
end DL
namespace DL
open PySem PyProof.Rows PySem.W
section
variable{P:Program}{w:World}{A:Around}{E:Value->Shared->Prop}{s:Shared}
theorem Ot{α:Type}{n:Nat}{lt:Nat->Nat->Bool}{Q:α->Prop}{cmp:Nat->Nat->(Bool->Shared->Prop)->Shared->Prop}(hc:∀i j C,i<n->j<n->C (lt i j) s->cmp i j C s):∀t:KasT α,jq n lt Q t->t.kasWp cmp (λa s'=>a=jL lt t/\s'=s) s
 |.ret a,_=>⟨rfl,rfl⟩|.ask i j k,⟨h1,h2,h3⟩=>hc i j _ h1 h2 (Ot hc (k (lt i j)) h3)
def lq(lt:Nat->Nat->Bool)(vs:List Value):List Value:=if vs.length<2 then vs else(jL lt (kas_sort vs.length)).toList.map λi=>vs.getD i .none
theorem HR(lt:Nat->Nat->Bool)(vs:List Value):(lq lt vs).length=vs.length:=by
 unfold lq;split
 ·rfl
 ·have:=(rm _ (nM (n:=vs.length) (lt:=lt) (by omega))).length_eq;rw[ZK,this,abA]
theorem Mt{a:Addr}{vs:List Value}{c:Nat}{κ:SortKind}{lt:Nat->Nat->Bool}{R:PySem.Fin->Shared->Prop}(ho:s.heap.get? a=some (seqObj "list" vs.toArray c))(h64:vs.length<64)
 (hk:2<=vs.length->∀(h':Heap)(Q:SortKind->Shared->Prop),Yp a s.heap h'->Q κ {s with heap:=h'}->wpAny (model P w) A (keyKind' vs.toArray) Q E {s with heap:=h'})
 (hc:∀(h':Heap)(i j:Nat)(C:Bool->Shared->Prop),Yp a s.heap h'->i<vs.length->j<vs.length->C (lt i j) {s with heap:=h'}->kas_ask P w A κ vs i j C {s with heap:=h'})
 (k:R (.done (.ret .none)) {s with heap:=sortedHeap s.heap a vs (lq lt vs).toArray}):wpAny (model P w) A (Builtin.«list.sort» ⟨[.ref a],[]⟩) R E s:=by
 have hs:vs.toArray.size=vs.length:=by simp
 have e0:=get?_update_seq ho λ_=>(#[]:Array Value);generalize hh:((s.heap.update a (Obj.mapSeq λ_=>(#[]:Array Value))).push (seqObj "tuple" vs.toArray 0)).push (seqObj "list" #[] 0)=h1;have g1:=Zz (seqObj "list" #[] 0) (Zz (seqObj "tuple" vs.toArray 0) e0);rw[hh]at g1;have b1:Yp a s.heap h1:=λb o hb q=>by
  rw[<-hh];exact Zz _ (Zz _ ((aaB _ _ (aal hb)).trans q))
 have hol:=HR lt vs;have hzip:(pairsOf vs).map (·.2)=vs.toArray:=by
  unfold pairsOf;apply Array.toList_inj.mp;simp only[Array.toList_map,Array.toList_zip];exact List.map_snd_zip (ZS _)
 unfold sortedHeap at k;rw[hh]at k;rw[list_sort_plain];refine vz (listItems_at ho rfl (vz (listUpdate_at ho rfl (vz (seqEpoch_at e0 rfl (vz (acq (vz (aed (aa2 ?_) (by simp))) (by rw[aaL];simp;omega))))) (by rw[hs,aaL];omega) (aap _))));show wpAny _ _ _ _ _ {s with heap:=((s.heap.update a (Obj.mapSeq λ_=>(#[]:Array Value))).push (seqObj "tuple" vs.toArray 0)).push (seqObj "list" #[] 0)};rw[hh];by_cases h2:vs.length<2
 ·rw[ZZ (by omega),ZZ (by omega)];have eo:lq lt vs=vs:=by unfold lq;rw[ZZ h2]
  rw[eo]at k;refine vz (ZC (vz (ZC ?_)));have hm:(arrOf (SortSt.mk' general' (vs.toArray.zip vs.toArray) #[] 7 none)).map (·.2)=vs.toArray:=hzip;refine vz (seqEpoch_at g1 rfl (vz (listUpdate_at g1 rfl ?_ (aap _) (by show((arrOf (SortSt.mk' general' (vs.toArray.zip vs.toArray) #[] 7 none)).map (·.2)).size<=_;rw[hm,hs,aaL];omega))));rw[show failedOf (SortSt.mk' general' (vs.toArray.zip vs.toArray) #[] 7 none)=none from rfl,hm];simp only[bne_self_eq_false,aa3,abT];exact ZC k
 ·rw[aaa (by omega),aaa (by omega)];have eo:lq lt vs=(jL lt (kas_sort vs.length)).toList.map λi=>vs.getD i .none:=by unfold lq;rw[aaa h2]
  refine vz (hk (by omega) h1 _ b1 ?_);have hps:=pairsOf_size vs;have tree:=Ot (s:={s with heap:=h1}) (cmp:=kas_cmp P w A κ (pairsOf vs)) (λi j C hi hj q=>by rw[<-kas_ask_eq];exact hc h1 i j C b1 hi hj q) _ (nM (n:=vs.length) (lt:=lt) (by omega));have run:=kas_runs (E:=E) (Q:=λ_ st' s'=>(arrOf st').map (·.2)=(lq lt vs).toArray/\failedOf st'=none/\s'={s with heap:=h1}) (by omega) h64 (λp' st' s' _ a2 a3 a4=>⟨by
   obtain⟨rfl,_⟩:=a4;rw[a2,eo];apply Array.toList_inj.mp;rw[Array.map_map,Array.toList_map];refine aaD λi _=>?_;simp only[Function.comp];rw[kas_item_eq],a3,a4.2⟩) tree
  have est:SortSt.mk' κ (pairsOf vs) #[] 7 none=kas_st κ (pairsOf vs) (List.toArray (List.range vs.length)):=by
   unfold kas_st;rw[<-hps,kas_range]
  rw[<-est]at run;refine vz (aa5 run (λr s' z=>?_) λ_ _ z=>z);obtain⟨u,st'⟩:=r;obtain⟨hm,e2,rfl⟩:=z;refine vz (seqEpoch_at g1 rfl (vz (listUpdate_at g1 rfl ?_ (aap _) (by show((arrOf st').map (·.2)).size<=_;rw[hm,ZJ,hol,aaL];omega))));rw[e2,hm];simp only[bne_self_eq_false,aa3,abT];exact ZC k
theorem zO{l:Addr}{vs:List Value}{κ:SortKind}{lt:Nat->Nat->Bool}{Q:Value->Shared->Prop}(hl:s.heap.IsList l vs.toArray)(h64:vs.length<64)
 (hk:2<=vs.length->∀(E':Value->Shared->Prop)(h':Heap)(Q:SortKind->Shared->Prop),(∀b o,s.heap.get? b=some o->h'.get? b=some o)->Q κ {s with heap:=h'}->wpAny (model P w) A.in1.in1 (keyKind' vs.toArray) Q E' {s with heap:=h'})
 (hc:∀(h':Heap)(i j:Nat)(C:Bool->Shared->Prop),(∀b o,s.heap.get? b=some o->h'.get? b=some o)->i<vs.length->j<vs.length->C (lt i j) {s with heap:=h'}->kas_ask P w A.in1.in1 κ vs i j C {s with heap:=h'})
 (k:∀h' a c,(∀b o,s.heap.get? b=some o->h'.get? b=some o)->s.heap.objs.size<=a->h'.get? a=some (seqObj "list" (lq lt vs).toArray c)->Q (.ref a) {s with heap:=h'}):
 wpAny (model P w) A (call (.builtin "sorted") [.ref l]) Q E s:=by
 refine acR kind_sorted plain_sorted entry_sorted (args_sorted1 _) ?_;unfold Builtin.«sorted»;refine vz (m:=checkCount "sorted" 1 1 _) (ZC (vz (collect_list hl (vz (aed ?_ (by rw[aaL];omega))) (by rw[aaL];omega))));generalize hg:(s.heap.push (seqObj "list" #[] 0)).update s.heap.objs.size (Obj.mapSeq (·++vs.toArray))=h1;have k1:∀b o,s.heap.get? b=some o->h1.get? b=some o:=λb o q=>by
  rw[<-hg];exact(aaB _ _ (aam (ZG q))).trans (Zz _ q)
 have sz:s.heap.objs.size<=h1.objs.size:=by rw[<-hg,Heap.size_update,adT];exact ac4 _
 have gL:(h1.push (seqObj "list" vs.toArray 0)).get? h1.objs.size=some (seqObj "list" vs.toArray 0):=ZR _ rfl;have keep:∀h2,Yp h1.objs.size (h1.push (seqObj "list" vs.toArray 0)) h2->∀b o,s.heap.get? b=some o->h2.get? b=some o:=λh2 hb b o q=>hb b o (Z1 (ZG (k1 b o q))) (Zz _ (k1 b o q));refine vz (aa2 (aah slot_list_sort ⟨_,gL,rfl⟩ entry_list_sort (Mt (κ:=κ) (lt:=lt) gL h64 (λh2 h' Q hb q=>hk h2 _ h' Q (keep h' hb) q) (λh' i j C hb hi hj q=>hc h' i j C (keep h' hb) hi hj q) ⟨_,rfl,?_⟩) (args_list_sort _)));obtain⟨e,he⟩:=sortedHeap_at (out:=(lq lt vs).toArray) gL;refine ZC ⟨_,rfl,k _ h1.objs.size e (λb o q=>?_) sz he⟩;have hlt:=ZG (k1 _ _ q);rw[sortedHeap_old (Z1 hlt) (by rw[adT];exact abp hlt)];exact Zz _ (k1 _ _ q)
end
end DL
namespace DL
open PySem PySem.Spec PyProof.Rows L2 PySem.W
section
variable{X:Cx}{pins:List (Addr×Obj)}{σ:L2.St}{H:Hp}{s:Shared}{e:Expr}{me:ME}{pos p:Pos}
theorem Oi:∀a b:List Int,HT.lexLt a b=Oj a b
 |[],[]=>rfl|[],_::_=>rfl|_::_,[]=>rfl|x::a,y::b=>by rw[HT.lexLt,Oj,Oi a b]
theorem IV:∀{ks ls:List D}{is js:List Int},intsOf ks=some is->intsOf ls=some js->il ks ls=decide (is=js)
 |[],[],_,_,h1,h2=>by cases h1;cases h2;rfl|[],d::ls,_,js,h1,h2=>by
   cases h1;cases d with
   |int j=>
     obtain⟨r,_,e⟩:=ao h2;cases e;rfl
   |_=>cases h2
 |d::ks,[],is,_,h1,h2=>by
   cases h2;cases d with
   |int j=>
     obtain⟨r,_,e⟩:=ao h1;cases e;rfl
   |_=>cases h1
 |d::ks,d'::ls,is,js,h1,h2=>by
   cases d with
   |int i=>
     cases d' with
     |int j=>
       obtain⟨r,e1,e⟩:=ao h1;cases e;obtain⟨r',e2,e⟩:=ao h2;cases e;show((i==j)&&il ks ls)=_;rw[IV e1 e2,aau];simp
     |_=>cases h2
   |_=>cases h1
theorem lG:∀{ks:List D}{is:List Int},intsOf ks=some is->dh ks=0
 |[],_,_=>rfl|d::ks,is,h=>by
   cases d with
   |int i=>
     obtain⟨r,e1,_⟩:=ao h;show max 0 (dh ks)=0;rw[lG e1];rfl
   |_=>cases h
theorem Sg{d:D}{q:List Int×Int}(h:VH d=some q):∃ks,d=.tup [.tup ks,.int q.2]/\intsOf ks=some q.1:=by
 unfold VH at h;split at h
 ·obtain⟨is,e,h⟩:=ao h;cases h;exact⟨_,rfl,e⟩
 ·cases h
theorem za(I:L2.Inv X pins σ H s){d:D}{q:List Int×Int}{y:V}{v:Value}(hd:Den X.K H d y)(rv:RelV y v)(hq:VH d=some q):∃ks b c o b' its t,intsOf ks=some q.1/\v=.ref b/\s.heap.get? b=some o/\o.cls=.type "tuple"/\o.data=.seq #[.ref b',.int q.2 t] c/\Den X.K H (.tup ks) (.ref b')/\IsTup s.heap b' its/\IntsAre its.toList q.1:=by
 obtain⟨ks,rfl,hk⟩:=Sg hq;obtain⟨b,xs,rfl,h1,h2⟩:=hd.tup_inv;cases rv;obtain⟨z1,r,rfl,d1,h2⟩:=h2.uncons;obtain⟨z2,r,rfl,d2,h2⟩:=h2.uncons;have:=h2.unnil;subst this;obtain⟨b',zs,rfl,h3,h4⟩:=d1.tup_inv;rw[d2.int_inv]at h1;obtain⟨_,us,rv,ht⟩:=I.hok b _ h1;obtain⟨_,us',rv',ht'⟩:=I.hok b' _ h3;cases rv with
 |cons r1 rr=>
   cases rr with
   |cons r2 rr=>
     cases rr;cases r1;obtain⟨t,rfl⟩:=r2;obtain⟨o,g1,g2,c,g3⟩:=ht;have ez:=fV hk h4;subst ez;exact⟨ks,b,c,o,b',us'.toArray,t,hk,rfl,g1,g2,g3,d1,ht',intsAre_of rv'⟩
theorem RV(I:L2.Inv X pins σ H s){A:Around}{E:Value->Shared->Prop}(hu:A.units+2<cLine){d d':D}{q q':List Int×Int}{y y':V}{v v':Value}(hd:Den X.K H d y)(hd':Den X.K H d' y')(rv:RelV y v)(rv':RelV y' v')(hq:VH d=some q)(hq':VH d'=some q'){C:Bool->Shared->Prop}(h:C (Ui q q') s):wpAny (model X.prog X.w) A (keyLt' (tuples' false) v v') C E s:=by
 obtain⟨ks,b,c,o,b',its,t,k1,rfl,g1,g2,g3,d1,t1,i1⟩:=za I hd rv hq;obtain⟨ks',c1,c',o',c2,its',t',k1',rfl,g1',g2',g3',d1',t1',i1'⟩:=za I hd' rv' hq';have dp:bY (.tup ks)=1:=by show dh ks+1=1;rw[lG k1]
 have dp':bY (.tup ks')=1:=by show dh ks'+1=1;rw[lG k1']
 have eqa:=Pq I 1 A (.tup ks) (.tup ks') (.ref b') (.ref c2) (.ref b') (.ref c2) (by omega) ⟨by omega,by omega⟩ (by omega) d1 d1' rfl rfl;have ee:dW (.tup ks) (.tup ks')=decide (q.1=q'.1):=IV k1 k1';rw[ee]at eqa;refine kat_lt g1 g3 g1' g3' (kat_cons (eqa _ _ _ _ (kat_go (λe=>?_) λe=>?_)))
 ·have e:q.1=q'.1:=ad7 e;refine kat_yes (kat_cons (wpAny_eqBool_int (kat_go (λe2=>?_) λe2=>?_)))
  ·have e2:q.2=q'.2:=eq_of_beq e2;refine kat_yes (kat_nil ?_);have:Ui q q'=false:=by unfold Ui;rw[ZZ e,e2,aay (Int.lt_irrefl _)]
   rw[this]at h;exact h
  ·refine kat_no (kat_one _ _ (wpAny_lt_int ?_));have:Ui q q'=decide (q.2<q'.2):=by unfold Ui;rw[ZZ e]
   rw[this]at h;exact h
 ·have e:q.1≠q'.1:=of_decide_eq_false e;refine kat_no (kat_one _ _ (HT.lt_tupInts t1 t1' i1 i1' (by omega) ?_));have:Ui q q'=Oj q.1 q'.1:=by unfold Ui;rw[aaa e]
  rw[this,<-Oi]at h;exact h
end
section
variable{X:Cx}{pins:List (Addr×Obj)}{σ:L2.St}{H:Hp}{s:Shared}{e:Expr}{me:ME}{pos p:Pos}
theorem kat_tups(I:L2.Inv X pins σ H s):∀{ds:List D}{ys:List V}{its:List Value}{qs:List (List Int×Int)},Dens X.K H ds ys->Vals ys its->FZ ds=some qs->∃fs:List Value,KatTups s.heap its fs/\fs.length=its.length/\∀v∈fs,Looks (model X.prog X.w) s.heap (typeOf v) (.type "tuple")
 |[],_,_,_,hd,rv,_=>by
   rw[hd.unnil]at rv;cases rv;exact⟨[],.nil,rfl,λv hv=>by cases hv⟩
 |d::ds,_,_,_,hd,rv,hq=>by
   obtain⟨y,r,rfl,d1,d2⟩:=hd.uncons;obtain⟨q,e1,hq⟩:=ao hq;obtain⟨qs,e2,_⟩:=ao hq;cases rv with
   |cons r1 rr=>
     obtain⟨fs,a1,a2,a3⟩:=kat_tups I d2 rr e2;obtain⟨ks,b,c,o,b',its',t,_,rfl,g1,g2,g3,_,t1,_⟩:=za I d1 r1 e1;refine⟨.ref b'::fs,.cons g1 g2 g3 rfl a1,by rw[Z2,Z2,a2],λv hv=>?_⟩;rcases ZP.mp hv with rfl|hv
     ·obtain⟨o',g1',g2',_⟩:=t1;have:Looks (model X.prog X.w) s.heap (typeOf (.ref b')) o'.cls:=(Looks.ld g1').andThen .now;rw[g2']at this;exact this
     ·exact a3 v hv
theorem nT:∀{ds:List D}{ys:List V}{its:List Value}{qs:List (List Int×Int)}(i:Nat),Dens X.K H ds ys->Vals ys its->FZ ds=some qs->i<its.length->∃d,Den X.K H d (ys.getD i .non)/\RelV (ys.getD i .non) (its.getD i .none)/\VH d=some (qs.getD i ([],0))
 |[],_,_,_,i,hd,rv,_,hi=>by
   rw[hd.unnil]at rv;cases rv;simp at hi
 |d::ds,_,_,_,i,hd,rv,hq,hi=>by
   obtain⟨y,r,rfl,d1,d2⟩:=hd.uncons;obtain⟨q,e1,hq⟩:=ao hq;obtain⟨qs,e2,hq⟩:=ao hq;cases hq;cases rv with
   |cons r1 rr=>
     cases i with
     |zero=>exact⟨d,d1,r1,e1⟩|succ i=>
       obtain⟨d',a1,a2,a3⟩:=nT i d2 rr e2 (by simpa using hi);exact⟨d',a1,a2,a3⟩
def outV(lt:Nat->Nat->Bool)(ys:List V):List V:=if ys.length<2 then ys else(jL lt (kas_sort ys.length)).toList.map λi=>ys.getD i .non
theorem Bu{lt:Nat->Nat->Bool}{ys:List V}{its:List Value}(r:Vals ys its):Vals (outV lt ys) (lq lt its):=by
 have hl:=r.length;unfold outV lq;rw[hl];split
 ·exact r
 ·rename_i h2;have hm:∀i∈(jL lt (kas_sort its.length)).toList,i<its.length:=λi hi=>aab.mp ((rm _ (nM (n:=its.length) (lt:=lt) (by omega))).mem_iff.mp hi);generalize(jL lt (kas_sort its.length)).toList=l at hm
  induction l with
  |nil=>exact .nil|cons i l ih=>
    have hi:=hm i ZF;refine .cons ?_ (ih λj hj=>hm j (Zy _ hj));obtain⟨x,e1,e2⟩:=yC r (i:=i) (u:=its.getD i .none) (by simp[hi]);have:ys.getD i .non=x:=by simp[e1]
    show RelV (ys.getD i .non) (its.getD i .none);rw[this];exact e2
theorem N5{K:PySem.W.Frag}{B:Hp}{qs:List (List Int×Int)}{ds:List D}{ys:List V}(r:Dens K B ds ys):Dens K B (xg qs ds) (outV (ltAt qs) ys):=by
 have hl:=r.length;unfold xg outV;rw[hl];split
 ·exact r
 ·rename_i h2;have hm:∀i∈(jL (ltAt qs) (kas_sort ys.length)).toList,i<ys.length:=λi hi=>aab.mp ((rm _ (nM (n:=ys.length) (lt:=ltAt qs) (by omega))).mem_iff.mp hi);generalize(jL (ltAt qs) (kas_sort ys.length)).toList=l at hm
  induction l with
  |nil=>exact .nil|cons i l ih=>
    have hi:=hm i ZF;refine .cons ?_ (ih λj hj=>hm j (Zy _ hj));obtain⟨x,e1,e2⟩:=r.get (i:=i) (d:=ds.getD i .non) (by simp[show i<ds.length by omega]);have:ys.getD i .non=x:=by simp[e1]
    show Den K B (ds.getD i .non) (ys.getD i .non);rw[this];exact e2
theorem GJ(hu:X.A.units+64<cLine):ik X (.builtin "sorted") (λxs H Q=>∃a ds ys qs,xs=[.ref a]/\SqL X.K H a ys/\Dens X.K H ds ys/\FZ ds=some qs/\ds.length<64/\∀p,H p=none->Q (.ref p) (upd H p (.lst (outV (ltAt qs) ys)))):=by
 intro pins s σ H xs us Q I r h;obtain⟨a,ds,ys,qs,rfl,hq,hd,hi,h64,q⟩:=h;obtain⟨u,rfl,ru⟩:=Vals.one r;cases ru;obtain⟨its,rv,pl,hz⟩:=I.list hq;have l1:=hd.length;have l2:=rv.length;refine zO (lt:=ltAt qs) (κ:=tuples' false) pl.isList (by omega) (λh2 E' h' Q' keep q'=>?_) (λh' i j C keep hi' hj' q'=>?_) λh' a' c keep hle g=>?_
 ·have I':L2.Inv X pins σ H {s with heap:=h'}:=I.kept (t':=s.toks) keep;obtain⟨fs,b1,b2,b3⟩:=kat_tups I' hd rv hi;exact kat_kind (T:=.type "tuple") b1 (by omega) b3 (by decide) q'
 ·have I':L2.Inv X pins σ H {s with heap:=h'}:=I.kept (t':=s.toks) keep;obtain⟨d,a1,a2,a3⟩:=nT i hd rv hi hi';obtain⟨d',a1',a2',a3'⟩:=nT j hd rv hi hj';exact RV I' (A:=X.A.in1.in1) (by show X.A.units+1+1+2<cLine;omega) a1 a1' a2 a2' a3 a3' q'
 ·have hol:=HR (ltAt qs) its;have hov:=(Bu (lt:=ltAt qs) rv).length;refine⟨.ref a',upd H a' (.lst (outV (ltAt qs) ys)),I.laid (o:=.lst (outV (ltAt qs) ys)) (t':=s.toks) keep hle ⟨by rw[hov,hol,<-l2];exact hz,lq (ltAt qs) its,c,Bu rv,g⟩,rfl,q _ (I.hok.fresh hle)⟩
theorem Qd(hu:X.A.units+64<cLine)(hg:Gl X "sorted")(hm:X.mg "sorted"=none)(he:DE X e me)(s1:starEach [e] X.env=(false,eval e X.env)::starEach [] X.env:=by rfl)(hpl:(backTo pos (starEach [] X.env)).any (·.1)=false:=by rfl):
 DE X (.Call (.Name "sorted" p) [e] [] pos) (rR yD me):=by
 obtain⟨te,pe,qe⟩:=he;refine⟨_,qL (GJ hu) hg hm boot_sorted (bG pe cV s1) (he:=s1) (hpl:=hpl),λos σ H δ d Q s m k=>?_⟩;obtain⟨dx,e1,m⟩:=ao m;refine qe os σ H δ dx _ s e1 λv H1 g1 r1=>?_;cases dx with
 |lst ds=>
   obtain⟨qs,e2,m⟩:=ao m;split at m
   ·rename_i hb;cases m;obtain⟨a,ys,rfl,h1,h2⟩:=r1.lst_up;exact⟨a,ds,ys,qs,rfl,h1,h2.up,e2,hb,λp hp=>k _ _ (g1.trans (bB hp _)) (.newL (s.live.mono g1) hp (N5 h2))⟩
   ·cases m
 |_=>cases m
end
end DL
namespace DL
open PySem PySem.Spec PyProof.Rows L2
section
variable{X:Cx}
end
section
variable{X:Cx}{a b e o k:Expr}{ma mb me mo mk:ME}{pos p2:Pos}
end
section
variable{X:Cx}{a b:Expr}{ma mb:ME}{pos:Pos}
end
end DL
namespace DL
open PySem PySem.Spec PyProof.Rows L2 PySem.W
def rW:D->Option D
 |.lst ds=>(intsOf ds).bind λis=>if is.length<64 then some (.lst ((sortI is).map D.int))else none
 |_=>none
noncomputable def Uq:MF:=λds=>match ds with
 |[.bl b]=>some (.int (if b then 1 else 0))
 |_=>none
section
variable{X:Cx}{e:Expr}{me:ME}{pos p:Pos}
theorem Tt:CallD X (.type "int") Uq:=by
 refine⟨_,Lh,λos H L ds d vs Q r m k=>?_⟩
 match ds,m with
 |[.bl b],m=>
   cases m;obtain⟨v,rfl,h⟩:=lX r;exact .inr ⟨b,by rw[h.bl_inv],k _ H (Same.refl _) (.int _)⟩
theorem zN{P:Program}{w:World}{A:Around}{E:Value->Shared->Prop}{s:Shared}{l:Addr}{ks:List Int}{vs:List Value}{Q:Value->Shared->Prop}(hl:s.heap.IsList l vs.toArray)(hi:IntsAre vs ks)(h64:ks.length<64)
 (k:∀(h1 h2:Heap)(l':Addr)(ws:Array Value)(c:Nat)(ns:List Int),(∀b o,s.heap.get? b=some o->h1.get? b=some o)->(∀b o,h1.get? b=some o->h2.get? b=some o)->h2.get? l'=some (seqObj "list" ws c)->h1.objs.size<=l'->IntsAre ws.toList ns->ns.Perm ks->ns.Pairwise (·<=·)->Q (.ref l') {s with heap:=h2}):
 wpAny (model P w) A (call (.builtin "sorted") [.ref l]) Q E s:=by
 have hv:vs.length<64:=by rw[acL hi];exact h64
 obtain⟨ob,g0,gc,n0,gd⟩:=hl;refine acR (A:=A) kind_sorted plain_sorted entry_sorted (args_sorted1 _) ?_;unfold Builtin.«sorted»;refine vz (m:=checkCount "sorted" 1 1 _) (ZC (vz (wpAny_collect_seq l (.inl rfl) g0 gc gd (λh' k1=>?_) (by rw[ZJ,aaL];omega))));rw[aeV];refine vz (aed (items:=vs) ?_ (by rw[aaL];omega));have gL:(h'.push (seqObj "list" vs.toArray 0)).get? h'.objs.size=some (seqObj "list" vs.toArray 0):=ZR _ rfl;refine vz (aa2 (aah slot_list_sort ⟨_,gL,rfl⟩ entry_list_sort (list_sort_tree gL hi hv λout ns' a1 a2 a3=>⟨_,rfl,?_⟩) (args_list_sort _)));obtain⟨c,he⟩:=sortedHeap_at (out:=out) gL;refine ZC ⟨_,rfl,k h' _ h'.objs.size out c ns' k1 (λb o q=>?_) he (ZS _) a1 a2 a3⟩;have hb:=ZG q;rw[sortedHeap_old (Z1 hb) (by rw[adT];exact abp hb)];exact Zz _ q
theorem Dn(hc:X.calm=true)(hg:Gl X "sorted")(hm:X.mg "sorted"=none)(he:DE X e me)(s1:starEach [e] X.env=(false,eval e X.env)::starEach [] X.env:=by rfl)(hpl:(backTo pos (starEach [] X.env)).any (·.1)=false:=by rfl):
 DE X (.Call (.Name "sorted" p) [e] [] pos) (rR rW me):=by
 have cr:ik X (.builtin "sorted") (λxs H Q=>∃(l:Addr)(is:List Int),xs=[.ref l]/\SqL X.K H l (is.map V.int)/\is.length<64/\∀p,H p=none->Q (.ref p) (upd H p (.lst ((sortI is).map V.int)))):=by
  intro pins s σ H xs us Q I r h;obtain⟨l,is,rfl,hq,hb,q⟩:=h;obtain⟨u,rfl,ru⟩:=Vals.one r;cases ru;obtain⟨its,rv,p1,_⟩:=I.list hq;refine zN p1.isList (intsAre_of rv) hb λh1 h2 l' ws c ns k1 k2 g hlt hi hp hs=>?_;have en:=Aw hp hs;have I1:L2.Inv X pins σ H {s with heap:=h1}:=I.kept (t':=s.toks) k1;exact⟨.ref l',_,I1.laid (o:=.lst ((sortI is).map V.int)) (t':=s.toks) k2 hlt ⟨by rw[ZK,<-en,hp.length_eq,cM];omega,ws.toList,c,sZ (en▸hi),by rw[g]⟩,rfl,q _ (I1.hok.fresh hlt)⟩
 obtain⟨te,pe,qe⟩:=he;refine⟨_,qL cr hg hm boot_sorted (bG pe cV s1) (he:=s1) (hpl:=hpl),λos σ H δ d Q s m k=>?_⟩;obtain⟨dx,e1,m⟩:=ao m;refine qe os σ H δ dx _ s e1 λv H1 g1 r1=>?_;unfold rW at m;split at m
 ·obtain⟨is,e2,m⟩:=ao m;split at m
  ·rename_i hb;cases m;obtain⟨l,ys,rfl,h1,h2⟩:=r1.lst_up;cases fV e2 h2;exact⟨l,is,rfl,h1,hb,λq hq=>k _ _ (g1.trans (bB hq _)) (.newL (s.live.mono g1) hq (Dens.ints _))⟩
  ·cases m
 ·cases m
end
end DL
namespace DL
open PySem PySem.Spec PyProof.Rows L2
def Cw(a b:ME):MI:=λδ=>(a δ).bind λx=>(b δ).bind λy=>match x,y with
 |.lst ds,.lst es=>if ds.length=es.length then some (gB ds es)else none
 |_,_=>none
def Zj(K:PySem.W.Frag)(l1 l2:Addr):It:=⟨(QK K l1 l2).go,(Yl K l1 l2).yld,(QK K l1 l2).stop⟩
def NZ(z TI TO i1 i2 l1 l2:Addr)(i:Nat)(h:Heap):Prop:=
 (∃f0 f,wy h z TI TO f0 f/\QG f0)/\IsPair h TI (.ref i1) (.ref i2)/\(∃a b,IsPair h TO a b)/\h.IsListIter i1 l1 i/\h.IsListIter i2 l2 i
theorem Q3{P:Program}{w:World}{K:PySem.W.Frag}{x:Str}{pos:Pos}{z TI TO i1 i2 l1 l2:Addr}(D:ZipApart z TI TO i1 i2 l1 l2):
 Turn P w K (.Name x pos) (Zj K l1 l2) [z,TI,TO,i1,i2] z (NZ z TI TO i1 i2 l1 l2) where
 mem:=by simp
 obj:=λi h st b hb=>by
  obtain⟨⟨f0,f,a1,_⟩,a2,⟨a,b',a3⟩,⟨o1,a4,_,c4⟩,⟨o2,a5,_,c5⟩⟩:=st;have hb':b=z\/b=TI\/b=TO\/b=i1\/b=i2:=by simpa using hb
  rcases hb' with rfl|rfl|rfl|rfl|rfl
  ·exact⟨_,a1,λv z=>by cases z⟩
  ·exact⟨_,a2,λv z=>by cases z⟩
  ·exact⟨_,a3,λv z=>by cases z⟩
  ·exact⟨_,a4,λv z=>by rw[c4]at z;cases z⟩
  ·exact⟨_,a5,λv z=>by rw[c5]at z;cases z⟩
 keep:=λi h h' st kp=>by
  obtain⟨⟨f0,f,a1,r1⟩,a2,⟨a,b',a3⟩,a4,a5⟩:=st;exact⟨⟨f0,f,kp z (by simp) _ a1,r1⟩,kp TI (by simp) _ a2,⟨a,b',kp TO (by simp) _ a3⟩,a4.at λo q=>kp i1 (by simp) o q,a5.at λo q=>kp i2 (by simp) o q⟩
 item:=by
  intro X hP hw hK hc i pins s σ H E I hf st hg;subst hP hw hK;obtain⟨xs,ys,x,y,hq1,hq2,hl,hx,hy⟩:=hg;obtain⟨its1,rv1,p1,_⟩:=I.list hq1;obtain⟨its2,rv2,p2,_⟩:=I.list hq2;have m1:=rv1.length;have m2:=rv2.length;have hi:i<xs.length:=(ZV.mp hx).1;obtain⟨⟨f0,f,a1,r1⟩,a2,a3,a4,a5⟩:=st;have lt:∀b∈[z,TI,TO,i1,i2],b<s.heap.objs.size:=λb hb=>by
   have hb':b=z\/b=TI\/b=TO\/b=i1\/b=i2:=by simpa using hb
   obtain⟨_,_,a3⟩:=a3;rcases hb' with rfl|rfl|rfl|rfl|rfl
   ·exact ZG a1
   ·exact ZG a2
   ·exact ZG a3
   ·obtain⟨o,q,_⟩:=a4;exact ZG q
   ·obtain⟨o,q,_⟩:=a5;exact ZG q
  have tZ:s.TypeIs (.ref z) "zip":=⟨_,a1,rfl⟩;have hh:X.A.in1.handled=none:=I.ok.hd hc;unfold pyNext;refine vz (abw (aaj (name:=Str.ofString "__next__") tZ aaN (aah aaN tZ abX ?_ (abP _))));refine yz hh D a1 r1 a2 a3 a4 p1.isList a5 p2.isList (by simp only[ZJ];omega) (λu1 u2 h1 g0 g f1 f2 b1 b2 b3 b4 b5 b6 b7=>?_) λh' _ hn=>absurd hn (by simp;omega);refine⟨_,rfl,ZC ⟨_,rfl,ZC ⟨.ref s.heap.objs.size,upd H s.heap.objs.size (.tup [x,y]),?_,rfl,⟨x,y,s.heap.objs.size,λws hw'=>by rw[I.list_inj hw' hq1];exact hx,λws hw'=>by rw[I.list_inj hw' hq2];exact hy,I.fresh,rfl,rfl⟩,⟨⟨g0,g,b1,b2⟩,b7 _ _ D.TIz D.TITO D.TIi1 D.TIi2 a2,b3,b4,b5⟩,λb hb=>?_⟩⟩⟩
  ·refine tup_inv (s:=s) (fp:=[z,TI,TO,i1,i2]) (us:=[u1,u2]) (tk':=s.toks) I hf lt rfl (.cons (got rv1 hx f1) (.cons (got rv2 hy f2) .nil)) (by show 2<=sizeLine;rw[cM];decide) (λb o hb q=>?_) b6;exact b7 b o (λm=>hb (by simp[m])) (λm=>hb (by simp[m])) (λm=>hb (by simp[m])) (λm=>hb (by simp[m])) q
  ·rw[aR (Z1 (lt b hb))];exact(hf b hb).1
 done:=by
  intro X hP hw hK hc i pins s σ H E I hf st hg;subst hP hw hK;obtain⟨xs,ys,hq1,hq2,hl,hn⟩:=hg;obtain⟨its1,rv1,p1,_⟩:=I.list hq1;obtain⟨its2,rv2,p2,_⟩:=I.list hq2;have m1:=rv1.length;have m2:=rv2.length;obtain⟨⟨f0,f,a1,r1⟩,a2,a3,a4,a5⟩:=st;rw[aaF]at hn;have tZ:s.TypeIs (.ref z) "zip":=⟨_,a1,rfl⟩;have hh:X.A.in1.handled=none:=I.ok.hd hc;unfold pyNext;refine vz (abw (aaj (name:=Str.ofString "__next__") tZ aaN (aah aaN tZ abX ?_ (abP _))));refine yz hh D a1 r1 a2 a3 a4 p1.isList a5 p2.isList (by simp only[ZJ];omega) (λu1 u2 h1 g0 g f1=>absurd (abi.mp f1).1 (by simp only[ZJ];omega)) λh' ex _ hk he=>?_;obtain⟨o,ho,hc'⟩:=he;exact vz (abI (T:="StopIteration") (b:=true) ⟨o,ho,hc'⟩ acp (ZC ⟨rfl,iH (t':=s.toks) I hf λb ob hb q=>hk b ob (λm=>hb (by simp[m])) (λm=>hb (by simp[m])) (λm=>hb (by simp[m])) (λm=>hb (by simp[m])) q⟩))
 self:=λ_ _ s _ _ st h=>by
  obtain⟨⟨f0,f,hz,_⟩,_⟩:=st;have tZ:s.TypeIs (.ref z) "zip":=⟨_,hz,rfl⟩;exact acH tZ aeN (aah aeN tZ PySem.F.entry_zip_iter (adz (a:=.done (.ret (.ref z))) rfl ⟨_,rfl,"zip",_,tZ,aaN.lookup,h⟩) (PySem.F.args_zip_iter_1 _))
section
variable{X:Cx}{a b:Expr}{ma mb:ME}{pos pos' p:Pos}{x:Str}
theorem Xb{ta:TA}(hg:Gl X "zip")(hm:X.mg "zip"=none)(ha:PA X [a,b] ta)(h1:starEach [a,b] X.env=(false,eval a X.env)::starEach [b] X.env)(hpl:(backTo pos (starEach [b] X.env)).any (·.1)=false):
 PI X (.Name x pos') (.Call (.Name "zip" p) [a,b] [] pos) λσ H R=>ta σ H λvs H1=>∃l1 l2 xs ys,vs=[.ref l1,.ref l2]/\SqL X.K H1 l1 xs/\SqL X.K H1 l2 ys/\R (Zj X.K l1 l2) H1:=by
 intro pins s σ H R I h;refine Call_ (jl I hg hm (by rfl) (aat (cW (ha pos pins s σ H _ I h) λus s1 ⟨vs,H1,I1,r1,q1⟩=>?_) h1 hpl));obtain⟨l1,l2,xs,ys,e,hq1,hq2,q⟩:=q1;subst e;obtain⟨u,v,rfl,ru,rv⟩:=vals2 r1;cases ru;cases rv;obtain⟨its1,rv1,p1,_⟩:=I1.list hq1;obtain⟨its2,rv2,p2,_⟩:=I1.list hq2;have a1:l1<s1.heap.objs.size:=by obtain⟨_,q,_⟩:=p1.isList;exact ZG q
 have a2:l2<s1.heap.objs.size:=by obtain⟨_,q,_⟩:=p2.isList;exact ZG q
 refine ae5 p1.isList p2.isList λh' hz hTI hTO hi1 hi2 hsz hk=>ab1 hz ?_;refine⟨s1.heap.objs.size+4,[s1.heap.objs.size+4,s1.heap.objs.size+2,s1.heap.objs.size+3,s1.heap.objs.size,s1.heap.objs.size+1],_,_,H1,rfl,I1.kept (t':=s1.toks) hk,Q3 (zipApart_new a1 a2),⟨⟨_,_,hz,.inl rfl⟩,hTI,⟨_,_,hTO⟩,hi1,hi2⟩,λb hb=>?_,q⟩;have hb':s1.heap.objs.size<=b:=by
  have hb2:b=s1.heap.objs.size+4\/b=s1.heap.objs.size+2\/b=s1.heap.objs.size+3\/b=s1.heap.objs.size\/b=s1.heap.objs.size+1:=by simpa using hb
  rcases hb2 with rfl|rfl|rfl|rfl|rfl<;>first|exact ZS _|exact aaT _ _
 exact I1.fpOk hb' (I1.hok.fresh hb')
theorem Td(hg:Gl X "zip")(hm:X.mg "zip"=none)(ha:DE X a ma)(hb:DE X b mb)(h1:starEach [a,b] X.env=(false,eval a X.env)::starEach [b] X.env:=by rfl)(h2:starEach [b] X.env=(false,eval b X.env)::starEach [] X.env:=by rfl)(hpl:(backTo pos (starEach [b] X.env)).any (·.1)=false:=by rfl):
 DI X (.Name x pos') (.Call (.Name "zip" p) [a,b] [] pos) (Cw ma mb):=by
 obtain⟨ta,pa,qa⟩:=ha;obtain⟨tb,pb,qb⟩:=hb;refine⟨_,Xb hg hm (bG pa (bG pb cV h2) h1) h1 hpl,λos σ H δ xs R s m k=>?_⟩;obtain⟨dx,e1,m⟩:=ao m;obtain⟨dy,e2,m⟩:=ao m;refine qa os σ H δ dx _ s e1 λv H1 g1 r1=>?_;refine qb os σ H1 δ dy _ (s.mono g1) e2 λw H2 g2 r2=>?_
 match dx,dy,m with
 |.lst ds,.lst es,m=>
   have m':(if ds.length=es.length then some (gB ds es)else none)=some xs:=m;split at m'
   ·rename_i hl;cases m';obtain⟨l1,xs,rfl,h1,d1⟩:=(r1.mono g2.hd _ _).lst_inv;obtain⟨l2,ys,rfl,h2,d2⟩:=r2.lst_inv;refine⟨l1,l2,xs,ys,rfl,hide_le.seq h1,hide_le.seq h2,k _ H2 (g1.trans g2) λi os1 H1 L g=>?_⟩;have n1:=d1.length;have n2:=d2.length;have gu:=g.trans hide_le;obtain⟨w1,w2⟩:=Ae h1 d1 h2 d2 i os1 H1 L g;refine⟨λd hd=>⟨?_,(w1 d hd).2⟩,λhl'=>⟨xs,ys,gu.seq h1,gu.seq h2,by omega,?_⟩⟩
    ·obtain⟨x,y,e1,e2,_⟩:=qg ds es i d hd;obtain⟨v1,w1,_⟩:=d1.get e1;obtain⟨v2,w2,_⟩:=d2.get e2;exact⟨xs,ys,v1,v2,gu.seq h1,gu.seq h2,by omega,w1,w2⟩
    ·have hz:(gB ds es).length=min ds.length es.length:=by simp[gB]
     rw[aaF];omega
   ·cases m'
end
structure FnI(K:PySem.W.Frag)(nm:Str)(st:Stmt) where
 f:Addr
 fd:FuncData
 F:Fun K nm nm st f fd
 a:PySem.W.nsIn K mainGlobals nm=some (some (.ref f))
noncomputable def fnI{K:PySem.W.Frag}{nm:Str}{st:Stmt}{f:Addr}{od an:Option Addr}{sl:Array (Option Value)}{oc kV dc pm cd ct:Value}(a:PySem.W.nsIn K mainGlobals nm=some (some (.ref f)))
 (l:K.lookup f=some ⟨oc,od,.func (PySem.W.fnOf nm nm (oN st) (gm st) (aH st) .none kV dc pm an cd ct),sl⟩) (c:PySem.W.codeIn K cd nm=true) (k:PySem.W.keepIn K (.ref f)=true):FnI K nm st:=⟨f,_,V0 l c k,a⟩
structure jf(K:PySem.W.Frag)(mg:Str->Option Value)(nm:Str)(st:Stmt)(ps:List Str) where
 f:Addr
 fd:FuncData
 F:Fun K nm nm st f fd
 g:mg nm=some (.ref f)
 b:Binds K fd ps []
noncomputable def FnI.g{K:PySem.W.Frag}{nm:Str}{st:Stmt}{h:Heap}{mg:Str->Option Value}{ps:List Str}(x:FnI K nm st)(X:K.In h)(G:h.Ns mainGlobals mg)
 (b:∀(kV doc pm:Value)(an:Option Addr)(cdv ct:Value)(us:List Value),us.length=ps.length->bindArgs (PySem.W.fnOf nm nm (oN st) (gm st) (aH st) .none kV doc pm an cdv ct) ⟨us,[]⟩=pure (ps.zip us):=by intro _ _ _ _ _ _ us hl;rcases us with _|⟨_,_|⟨_,_|⟨_,_|⟨_,_|⟨_,_⟩⟩⟩⟩⟩<;>first|rfl|cases hl):jf K mg nm st ps:=⟨x.f,x.fd,x.F,aeZ X G x.a,x.F.binds b⟩
section
variable{X:Cx}{e:Expr}{es:List Expr}{pos p:Pos}{nm:Str}{st:Stmt}{ps:List Str}{k k':Nat}{fn:MF}{m:MA}
theorem aF{x:jf X.K X.mg nm st ps}(F:mQ X.prog X.w X.K X.mg X.base uE k x.f x.fd ps (DX X.K fn))(hr:Room k' X.A)(ha:DA X (e::es) m)(hk:k<=k':=by decide)(hg:Gl X nm:=by rfl)(hdb:(nm==("__debug__":Str))=false:=by decide)
 (he:starEach (e::es) X.env=(false,eval e X.env)::starEach es X.env:=by rfl) (hpl:(backTo pos (starEach es X.env)).any (·.1)=false:=by rfl):DE X (.Call (.Name nm p) (e::es) [] pos) (au fn m):=Ti F (hr.mono hk) hg x.g x.F.kp x.b ha hdb he hpl
theorem P0{x:jf X.K X.mg nm st ps}(F:mQ X.prog X.w X.K X.mg X.base uE k x.f x.fd ps (Ye X.K fn))(hr:Room k' X.A)(ha:DA X (e::es) m)(hk:k<=k':=by decide)(hg:Gl X nm:=by rfl)(hdb:(nm==("__debug__":Str))=false:=by decide)
 (he:starEach (e::es) X.env=(false,eval e X.env)::starEach es X.env:=by rfl) (hpl:(backTo pos (starEach es X.env)).any (·.1)=false:=by rfl):DF X (.Call (.Name nm p) (e::es) [] pos) (au fn m):=PQ F (hr.mono hk) hg x.g x.F.kp x.b ha hdb he hpl
end
theorem ul{u j k c:Nat}(h:u+k<c)(d:j<=k:=by decide):u+j<c:=Nat.lt_of_le_of_lt (Nat.add_le_add_left d _) h
section
variable{X:Cx}{pos:Pos}{x:Str}
theorem dv(i:Nat)(hN:X.N[i]? = some x:=by rfl)(hv:X5 X.env.scope x:=by first|exact Or.inl rfl|exact Or.inr (Or.inl rfl)|exact Or.inr (Or.inr rfl))(hd:(x==("__debug__":Str))=false:=by decide)
 (hcd:(x==("__classdict__":Str))=false:=by decide) (hi:Nat.blt i X.N.length=true:=by rfl):DE X (.Name x pos) (ak i):=V9 i (pv i hN hv hd hcd) hi
theorem cI(i:Nat)(hN:X.N.Nodup)(hi:X.N[i]? = some x:=by rfl)(hx:Loc X.env.scope x:=by first|exact Or.inl rfl|exact Or.inr rfl)(hf:X.fn x=true\/X.env.scope.names.lookup x=some .local:=by first|exact .inl rfl|exact .inr rfl)(hb:Nat.blt i X.N.length=true:=by rfl):DG X (.Name x pos) (gN i):=Te (HH hN hi hx hf) hb
end
theorem fsc{N P:List Str}{sc:Scope}(a:sc.kind=.function:=by rfl)(b:sc.isCoroutine=false:=by rfl)(c:sc.isGenerator=false:=by rfl)(d:N.Nodup:=by decide +kernel)(e:N.take P.length=P:=by rfl)
 (f:∀x∈P,sc.names.lookup x=some .local\/sc.names.lookup x=some .cell:=by decide +kernel) (g:∀y∈sc.names,y.2≠.free:=by decide +kernel):ig N P sc:=⟨a,b,c,d,e,f,g⟩
theorem rT{scX sc:Scope}{NX N:List Str}{k:Nat}{fv:List Nat}(a:sc.kind=.function:=by rfl)(b:∀y∈sc.names,y.2≠.cell:=by decide +kernel)(c:∀y∈sc.names,y.2=.local->sc.names.lookup y.1=some .local:=by decide +kernel)
 (d:∀y∈sc.names,y.2=.free->scX.names.lookup y.1=some .cell:=by decide +kernel) (e:N.length=k+fv.length:=by rfl) (f:N.Nodup:=by decide +kernel)
 (g:∀t,t<fv.length->NX[fv.getD t 0]? = N[k+t]?/\(N[k+t]?.bind λx=>sc.names.lookup x)=some .free:=by decide +kernel):cT scX sc NX N k fv:=⟨a,b,c,d,e,f,g⟩
theorem nod(l:List Str)(h:l.Nodup:=by decide +kernel):l.Nodup:=h
abbrev j7{K:PySem.W.Frag}{mg:Str->Option Value}{nm:Str}{st:Stmt}{ps:List Str}(P:Program)(w:World)(base:Heap)(x:jf K mg nm st ps)(d:Nat)(m:MF):Prop:=mQ P w K mg base uE d x.f x.fd ps (DX K m)
abbrev Zg{K:PySem.W.Frag}{mg:Str->Option Value}{nm:Str}{st:Stmt}{ps:List Str}(P:Program)(w:World)(base:Heap)(x:jf K mg nm st ps)(d:Nat)(m:MF):Prop:=mQ P w K mg base uE d x.f x.fd ps (Ye K m)
section
variable{P:Program}{w:World}{K:PySem.W.Frag}{mg:Str->Option Value}{base:Heap}{nm:Str}{st:Stmt}{ps:List Str}{x:jf K mg nm st ps}{M:MF}
theorem bJ(N:List Str)(k kk:Nat)(m:MS)(hM:M=iM ps.length kk m)(h:∀(cdv:Value)(A:Around)(outer:List Env)(s:Shared)(H:Hp)(E:XK),N.Nodup->Room k (A.deeper (envOfC nm (aH st) s.heap.objs.size x.f cdv))->(A.deeper (envOfC nm (aH st) s.heap.objs.size x.f cdv)).units+64<cLine->
 DQ (tK uE P w K mg base N nm (aH st) x.f cdv A outer s H E).nox False (gm st) m) (S:ig N ps (aH st):=by exact fsc) (hkk:N.length<=kk:=by decide):j7 P w base x (k+1) M:=V3 hkk x.F S hM λcdv A outer s H E hr=>h cdv A outer s H E S.nd hr hr.units
theorem V2(N:List Str)(k kk:Nat)(m:MS)(hM:M=Wu ps.length kk m)(h:∀(cdv:Value)(A:Around)(outer:List Env)(s:Shared)(H:Hp)(E:XK),N.Nodup->Room k (A.deeper (envOfC nm (aH st) s.heap.objs.size x.f cdv))->(A.deeper (envOfC nm (aH st) s.heap.objs.size x.f cdv)).units+64<cLine->
 Yc (tK uE P w K mg base N nm (aH st) x.f cdv A outer s H E).nox (gm st) m) (S:ig N ps (aH st):=by exact fsc) (hkk:N.length<=kk:=by decide):Zg P w base x (k+1) M:=V4 hkk x.F S hM λcdv A outer s H E hr=>h cdv A outer s H E S.nd hr hr.units
end
section
variable{X:Cx}{pos:Pos}{x:Str}
theorem u6(i:Nat)(hN:X.N.Nodup)(hi:X.N[i]? = some x:=by rfl)(hx:Loc X.env.scope x:=by first|exact Or.inl rfl|exact Or.inr rfl)(hf:X.fn x=true\/X.env.scope.names.lookup x=some .local:=by first|exact .inl rfl|exact .inr rfl):PG X (.Name x pos) (gG i):=HH (i:=i) hN hi hx hf
end
end DL
namespace DL.Pg
open PySem DL
def gr:MS:=(bN (vV (ak 0) (rR (Am 1) (ak 0))))
def cD:MF:=iM 1 1 gr
def tO:MS:=(bw (cB (au SQ (aj (aK cz (ak 0) (eC (.int 0))) (aj (eC (.int 0)) az))) (gN 1))
 (bN (dw (aj (ak 1) (aj (au SQ (aj (aK cz (ak 0) (eC (.int 1))) (aj (ak 1) az))) az)))))
def iy:MF:=iM 1 2 tO
def gY:MS:=(Ey 3 1 (au iy (aj (ak 2) az)))
def mG:MS:=(bw (jT 3 1 (gD (aj (eC (.int 0)) az)))
 (bw (lV (cC (ak 0)) (gN 2)
 gY)
 (Ex 3 [1] (bN (rR qj (ak 1))))))
def cZ:MF:=iM 1 6 mG
def mC:MS:=(bw (cB (au V7 (aj (aK cz (ak 0) (eC (.int 3))) (aj (eC (.int 24)) az))) (gN 1))
 (bN (bM 1 [0] (dR (ak 1)) (gN 0) tT (aK oMod (aK bO (aK cz (ak 1) (eC (.int 2))) (ak 0)) (eC (.int 24))))))
def iw:MF:=iM 1 2 mC
def gk:MF:=lA iy iw
def fM:MS:=(bw (cB (Jb (ak 2) (aK cz (ak 5) (eC (.int 0))) (vU (gD (aj (eC (.int 0)) az)) (eC (.int 24)))) (gN 6))
 (bw (cB (bM 2 [] (wN (ak 4) (ak 6)) (gT (aP (gN 0) (aP (gN 1) dB))) tT (aK bO (ak 0) (ak 1))) (gN 4))
 (Ez 7 3 (ak 4))))
def jz:MS:=(bw (cB (au gk (aj (ak 0) az)) (gN 2))
 (bw (jT 7 3 (gD az))
 (bw (cB (vU (gD (aj (eC (.int 0)) az)) (eC (.int 24))) (gN 4))
 (bw (lV (cC (ak 1)) (gN 5)
 fM)
 (Ex 7 [3] (bN (ak 3)))))))
def bW:MF:=iM 2 14 jz
def j6:MS:=(bN (aK iW (aK cA (aK cz (ak 0) (eC (.int 1))) (aK cz (ak 0) (eC (.int 1)))) (aK cA (aK cz (ak 0) (eC (.int 0))) (aK cz (ak 0) (eC (.int 0))))))
def fH:MF:=iM 1 1 j6
def eV:MS:=(Mz 6 1 (ak 5) (au fH (aj (ak 3) az)))
def jo:MS:=(lV (cC (ak 4)) (gN 5)
 eV)
def iR:MS:=(bw (jT 6 1 (vU (gD (aj (eC (.int 0)) az)) (aK bO (au fB (aj (ak 0) az)) (eC (.int 1)))))
 (bw (cB (au cD (aj (au cZ (aj (ak 0) az)) az)) (gN 2))
 (bw (lV (wN (ak 2) (au bW (aj (ak 0) (aj (ak 2) az)))) (gT (aP (gN 3) (aP (gN 4) dB)))
 jo)
 (Ex 6 [1] (bN (au dJ (aj (rR (Am 1) (ak 1)) az)))))))
def eX:MF:=iM 1 12 iR
def gZ:MS:=(bN (au V6 (aj (au eX (aj (ak 0) az)) az)))
def dO:MF:=iM 1 1 gZ
def jA:MS:=(Ey 6 4 (bM 1 [5] (cC (ak 3)) (gN 0) tT (aK bO (aK cA (eC (.int 24)) (ak 1)) (ak 0))))
def mH:MS:=(bw (cB (au iy (aj (ak 0) az)) (gN 2))
 (bw (cB (au iw (aj (ak 0) az)) (gN 3))
 (bw (jT 6 4 (gD az))
 (bw (lV (rB (aK pW (ak 1) (aK cz (ak 2) (eC (.int 0)))) (aK pW (ak 1) (aK cz (ak 2) (eC (.int 1))))) (gN 5)
 jA)
 (Ex 6 [4] (bN (ak 4)))))))
def mz:MF:=iM 2 12 mH
def iT:MS:=(qD (bM 1 [] (dR (aK cA (eC (.int 24)) (au fB (aj (ak 1) az)))) (gN 0) tT (gD az)) mz (bN (bM 1 [] (cC (ak 2)) (gN 0) tT (au dJ (aj (ak 0) az)))))
def gb:MF:=iM 2 6 iT
def gq:MS:=(bN (bM 1 [] (cC (au gb (aj (ak 0) (aj (ak 1) az)))) (gN 0) tT (aK R4 (au fB (aj (ak 0) az)) (eC (.int 0)))))
def eQ:MF:=iM 2 2 gq
def pA:MS:=(bw (cB (aK oMod (ak 0) (eC (.int 24))) (gN 2))
 (bN (aK bO (aK iW (ak 0) (ak 2)) (aK oMod (aK bO (ak 2) (ak 1)) (eC (.int 24))))))
def dH:MF:=iM 2 3 pA
def mJ:MS:=(bw (cB (aK vh (ak 5) (eC (.int 24))) (gN 6))
 (bw (m6 (tV (aK um (aK cz (ak 2) (ak 5)) (aK cz (ak 2) (aK bO (ak 5) (eC (.int 24)))))) (Bg 3 (oI λu v=>some (.int (u+v))) (aK cz (ak 1) (aK bO (ak 6) (eC (.int 1))))) gC)
 (m6 (tV (aK um (aK cz (ak 2) (ak 5)) (aK cz (ak 2) (au dH (aj (ak 5) (aj (eC (.int 1)) az)))))) (Bg 4 (oI λu v=>some (.int (u+v))) (aK iW (aK cz (ak 1) (aK bO (ak 6) (eC (.int 1)))) (aK cz (ak 1) (ak 6)))) gC)))
def rN:MS:=(bw (cB (au cZ (aj (ak 0) az)) (gN 1))
 (bw (cB (au eQ (aj (ak 0) (aj (ak 1) az))) (gN 2))
 (bw (cB (eC (.int 0)) (gN 3))
 (bw (cB (eC (.int 0)) (gN 4))
 (bw (lV (dR (aK iW (au fB (aj (ak 2) az)) (eC (.int 24)))) (gN 5)
 mJ)
 (bN (dw (aj (ak 3) (aj (ak 4) az)))))))))
def jb:MF:=iM 1 7 rN
def jw:MS:=(bw (cB (gD (aj (au dH (aj (ak 0) (aj (eC (.int 1)) az))) (aj (au dH (aj (ak 0) (aj (rR UG (eC (.int 1))) az))) az))) (gN 2))
 (bw (cB (gD (aj (aK bO (ak 0) (eC (.int 24))) (aj (aK iW (ak 0) (eC (.int 24))) az))) (gN 3))
 (bN (aK bO (ak 2) (bM 1 [1] (cC (ak 3)) (gN 0) (tV (oJ oLe oLt (eC (.int 0)) (ak 0) (ak 1))) (ak 0))))))
def mq:MF:=iM 2 4 jw
def fW:MS:=(m6 (yG (tV (Pr 7 2 true (ak 6))) (tV (aK oEq (aK cz (ak 0) (ak 6)) (aK cz (ak 0) (ak 1))))) (bw (My 7 2 (ak 6) (ak 5))
 (Ez 7 3 (ak 6))) gC)
def iG:MS:=(bw (cB (KY 7 [3] (aK cz (ak 3) (ak 4))) (gN 5))
 (bw (lV (cC (au mq (aj (ak 5) (aj (au fB (aj (ak 0) az)) az)))) (gN 6)
 fW)
 (Bg 4 (oI λu v=>some (.int (u+v))) (eC (.int 1)))))
def fL:MS:=(uT (jT 7 2 (Pu (ak 1) (eC .non)))
 (uT (jT 7 3 (gD (aj (ak 1) az)))
 (uT (cB (eC (.int 0)) (gN 4))
 (uT (pM (tV (aK oLt (ak 4) (KY 7 [3] (au fB (aj (ak 3) az)))))
 iG)
 (T8 7 2)))))
def cY:MF:=Wu 2 14 fL
def di:MS:=(m6 (tV (Pr 5 1 true (ak 3))) (bw (jT 5 4 (au cY (aj (ak 0) (aj (ak 3) az))))
 (Be 5 4 (bw (Rm 5 1 (ak 4))
 (Ez 5 2 (rR Al (ak 4)))))) gC)
def fX:MS:=(bw (jT 5 1 (au cY (aj (ak 0) (aj (aK iW (au fB (aj (ak 0) az)) (eC (.int 1))) az))))
 (bw (jT 5 2 (gD az))
 (bw (lV (dR (au fB (aj (ak 0) az))) (gN 3)
 di)
 (Ex 5 [2] (Be 5 1 (bN (ak 2)))))))
def cX:MF:=iM 1 10 fX
def fu:MS:=(bw (cB (au eQ (aj (ak 0) (aj (au cZ (aj (ak 0) az)) az))) (gN 2))
 (bN (au fB (aj (bM 1 [1,2] (cC (au cX (aj (ak 2) az))) (gN 0) (tV (aK oEq (aK cz (ak 2) (aK cz (ak 0) (eC (.int 0)))) (ak 1))) (ak 0)) az))))
def eZ:MF:=iM 2 3 fu
def Ju:MS:=(bN (au eZ (aj (ak 0) (aj (eC (.bl true)) az))))
def qX:MF:=iM 1 1 Ju
def Jv:MS:=(bN (au eZ (aj (ak 0) (aj (eC (.bl false)) az))))
def qY:MF:=iM 1 1 Jv
def jx:MS:=(bN (au V6 (aj (bM 1 [1] (cC (ak 0)) (gN 0) tT (au fH (aj (aK cz (ak 1) (aK vh (ak 0) (eC (.int 24)))) az))) az)))
def fQ:MF:=iM 2 2 jx
def uC:MS:=(bw (cB (au cZ (aj (ak 0) az)) (gN 1))
 (bw (cB (au cD (aj (ak 1) az)) (gN 2))
 (bw (cB (au gb (aj (ak 0) (aj (ak 1) az))) (gN 3))
 (bN (au dJ (aj (rR yD (bM 1 [3,2] (cC (au cX (aj (ak 3) az))) (gN 0) tT (dw (aj (aK cz (ak 1) (aK cz (ak 0) (eC (.int 0)))) (aj (au fQ (aj (ak 0) (aj (ak 2) az))) az))))) az))))))
def my:MF:=iM 1 4 uC
def jy:MS:=(bN (aK bO (au fB (aj (au my (aj (ak 0) az)) az)) (eC (.int 1))))
def gR:MF:=iM 1 1 jy
def eU:MS:=(m6 (tV (aK um (aK oEq (aK cz (ak 3) (eC (.int 0))) (eC (.int 0))) (aK oEq (aK cz (ak 3) (eC (.int 1))) (eC (.int 0))))) (bN (ak 2)) gC)
def eY:MS:=(bw (lV (rC (ak 0) (ak 1)) (gT (aP (gN 2) (aP (gN 3) dB)))
 eU)
 (bN (eC .non)))
def iJ:MF:=iM 2 4 eY
def gn:MS:=(bN (dw (aj (dw (aj (aK bO (aK cA (eC (.int 2)) (ak 0)) (eC (.int 1))) (aj (eC (.int 2)) az))) (aj (dw (aj (aK bO (aK cA (eC (.int 2)) (ak 1)) (eC (.int 1))) (aj (eC (.int 2)) az))) az))))
def jk:MF:=iM 2 2 gn
def iD:MS:=(bw (cB (au iJ (aj (ak 4) (aj (ak 5) az))) (gN 6))
 (m6 (tV (rR ql (ak 6))) (bN (au jk (aj (aK cz (ak 3) (eC (.int 0))) (aj (ak 6) az)))) gC))
def lH:MS:=(bw (cB (au cD (aj (au cZ (aj (aK bO (ak 0) (ak 1)) az)) az)) (gN 2))
 (bw (lV (vM (ak 2) (au bW (aj (ak 0) (aj (ak 2) az))) (au bW (aj (ak 1) (aj (ak 2) az)))) (gT (aP (gN 3) (aP (gN 4) (aP (gN 5) dB))))
 iD)
 (bN (eC .non))))
def iZ:MF:=iM 2 7 lH
end DL.Pg
namespace DL.Lw
open PySem DL DL.Pg
def gK:MS:=(bw (m6 (tV (aK oLt (ak 1) (au fB (aj (ak 0) az)))) (bN (aK cz (ak 0) (ak 1))) gC)
 (bN (eC (.int 0))))
def jc:MF:=iM 2 2 gK
def p7:MS:=(bN (aK oMod (aK oMod (aK cA (ak 0) (eC (.int 48271))) (ak 1)) (ak 2)))
def bT:MF:=iM 3 3 p7
def jB:MS:=(bw (cB (au bT (aj (ak 0) (aj (eC (.int 9973)) (aj (ak 1) az)))) (gN 2))
 (bw (cB (aK bO (aK bO (ak 2) (eC (.int 1))) (au bT (aj (ak 0) (aj (eC (.int 9967)) (aj (aK iW (ak 1) (ak 2)) az))))) (gN 3))
 (bw (cB (aK bO (eC (.int 1)) (au bT (aj (ak 0) (aj (eC (.int 9949)) (aj (eC (.int 24)) az))))) (gN 4))
 (bw (m6 (tV (aK oEq (aK oMod (ak 0) (eC (.int 4))) (eC (.int 0)))) (cB (eC (.int 24)) (gN 4)) gC)
 (bN (dw (aj (ak 2) (aj (ak 3) (aj (au bT (aj (ak 0) (aj (eC (.int 9941)) (aj (eC (.int 24)) az)))) (aj (ak 4) az))))))))))
def fU:MF:=iM 2 5 jB
def rO:MS:=(bN (au dJ (aj (bM 1 [1,0] (dR (au bT (aj (ak 0) (aj (eC (.int 9931)) (aj (aK bO (ak 2) (eC (.int 1))) az))))) (gN 0) tT (au fU (aj (aK bO (ak 2) (aK cA (eC (.int 11)) (ak 0))) (aj (ak 1) az)))) az)))
def ju:MF:=iM 3 3 rO
def mK:MS:=(bw (cB (ak 0) (gT (aP (gN 3) (aP (gN 4) (aP (gN 5) (aP (gN 6) dB))))))
 (bw (m6 (Q8 (tV (aK oLt (aK cz (ak 1) (eC (.int 0))) (aK cA (ak 3) (aK cz (ak 1) (eC (.int 1)))))) (tV (aK Yg (aK cz (ak 1) (eC (.int 0))) (aK cA (ak 4) (aK cz (ak 1) (eC (.int 1))))))) (bN (eC (.bl false))) gC)
 (bN (aK oLt (aK oMod (aK iW (aK cz (ak 2) (eC (.int 0))) (aK cA (ak 5) (aK cz (ak 2) (eC (.int 1))))) (aK cA (eC (.int 24)) (aK cz (ak 2) (eC (.int 1))))) (aK cA (ak 6) (aK cz (ak 2) (eC (.int 1))))))))
def iB:MF:=iM 3 7 mK
def pB:MS:=(bN (au dJ (aj (bM 2 [1] (rD (ak 0)) (gT (aP (gN 0) (aP (gN 1) dB))) (tV (au iB (aj (ak 1) (aj (aK cz (ak 2) (eC (.int 0))) (aj (aK cz (ak 2) (eC (.int 1))) az))))) (ak 0)) az)))
def iK:MF:=iM 2 2 pB
def ie:MS:=(Mx 5 2 (dw (aj (ak 3) (aj (ak 4) az))) (au iK (aj (ak 0) (aj (dw (aj (dw (aj (aK bO (aK cA (eC (.int 2)) (ak 3)) (eC (.int 1))) (aj (eC (.int 2)) az))) (aj (dw (aj (aK bO (aK cA (eC (.int 2)) (ak 4)) (eC (.int 1))) (aj (eC (.int 2)) az))) az))) az))))
def jQ:MS:=(lV (dR (eC (.int 24))) (gN 4)
 ie)
def jC:MS:=(bw (jT 5 2 (eC (.dic true [] [])))
 (bw (lV (dR (aK bO (ak 1) (eC (.int 1)))) (gN 3)
 jQ)
 (Be 5 2 (bN (ak 2)))))
def gU:MF:=iM 2 10 jC
end DL.Lw
namespace DL.K09
open PySem DL DL.Pg DL.Lw
def Dv:MS:=(bN (au dJ (aj (bM 1 [1] (cC (ak 0)) (gN 0) tT (dw (aj (aK cz (ak 0) (eC (.int 0))) (aj (aK cz (ak 0) (eC (.int 1))) (aj (aK oMod (aK bO (aK cz (ak 0) (eC (.int 2))) (ak 1)) (eC (.int 24))) (aj (aK cz (ak 0) (eC (.int 3))) az)))))) az)))
def vA:MF:=iM 2 2 Dv
def wj:MS:=(bN (au dJ (aj (bM 1 [] (cC (ak 0)) (gN 0) tT (dw (aj (aK cz (ak 0) (eC (.int 0))) (aj (aK cz (ak 0) (eC (.int 1))) (aj (aK oMod (aK iW (rR UG (aK cz (ak 0) (eC (.int 2)))) (aK cz (ak 0) (eC (.int 3)))) (eC (.int 24))) (aj (aK cz (ak 0) (eC (.int 3))) az)))))) az)))
def pY:MF:=iM 1 1 wj
def Jw:MS:=(bN (au dJ (aj (bM 1 [1] (cC (ak 0)) (gN 0) tT (dw (aj (aK cA (aK cz (ak 0) (eC (.int 0))) (ak 1)) (aj (aK cA (aK cz (ak 0) (eC (.int 1))) (ak 1)) (aj (aK cz (ak 0) (eC (.int 2))) (aj (aK cz (ak 0) (eC (.int 3))) az)))))) az)))
def zj:MF:=iM 2 2 Jw
def du:MS:=(bw (cB (eC (.int 1)) (gN 9))
 (bw (m6 (tV (aK oEq (ak 8) (ak 5))) (cB (aK cA (ak 2) (ak 2)) (gN 9)) gC)
 (bw (m6 (tV (aK um (au eX (aj (ak 8) az)) (au dJ (aj (bM 1 [9] (cC (au eX (aj (ak 0) az))) (gN 0) tT (aK cA (ak 0) (ak 1))) az)))) (bN (eC (.bl false))) gC)
 (bw (m6 (tV (aK um (dw (aj (au gR (aj (ak 8) az)) (aj (au qX (aj (ak 8) az)) (aj (au qY (aj (ak 8) az)) az)))) (dw (aj (au gR (aj (ak 0) az)) (aj (au qX (aj (ak 0) az)) (aj (au qY (aj (ak 0) az)) az)))))) (bN (eC (.bl false))) gC)
 (m6 (tV (aK um (rR rW (bM 2 [] (cC (au my (aj (ak 8) az))) (gT (aP (gN 0) (aP (gN 1) dB))) tT (ak 1))) (rR rW (bM 2 [9] (cC (au my (aj (ak 0) az))) (gT (aP (gN 0) (aP (gN 1) dB))) tT (aK cA (ak 1) (ak 2)))))) (bN (eC (.bl false))) gC)))))
def dM:MS:=(bw (cB (au vA (aj (ak 0) (aj (ak 1) az))) (gN 3))
 (bw (cB (au pY (aj (ak 0) az)) (gN 4))
 (bw (cB (au zj (aj (ak 0) (aj (ak 2) az))) (gN 5))
 (bw (m6 (tV (aK um (ak 3) (au dJ (aj (bM 4 [1] (cC (ak 0)) (gT (aP (gN 0) (aP (gN 1) (aP (gN 2) (aP (gN 3) dB))))) tT (dw (aj (ak 0) (aj (ak 1) (aj (aK oMod (aK bO (ak 2) (ak 4)) (eC (.int 24))) (aj (ak 3) az)))))) az)))) (bN (eC (.bl false))) gC)
 (bw (m6 (tV (aK um (ak 4) (au dJ (aj (bM 4 [] (cC (ak 0)) (gT (aP (gN 0) (aP (gN 1) (aP (gN 2) (aP (gN 3) dB))))) tT (dw (aj (ak 0) (aj (ak 1) (aj (aK oMod (aK iW (aK iW (eC (.int 48)) (ak 2)) (ak 3)) (eC (.int 24))) (aj (ak 3) az)))))) az)))) (bN (eC (.bl false))) gC)
 (bw (m6 (tV (aK um (ak 5) (au dJ (aj (bM 4 [2] (cC (ak 0)) (gT (aP (gN 0) (aP (gN 1) (aP (gN 2) (aP (gN 3) dB))))) tT (dw (aj (aK cA (ak 0) (ak 4)) (aj (aK cA (ak 1) (ak 4)) (aj (ak 2) (aj (ak 3) az)))))) az)))) (bN (eC (.bl false))) gC)
 (bw (cB (au jb (aj (ak 0) az)) (gT (aP (gN 6) (aP (gN 7) dB))))
 (bw (lV (cC (gD (aj (ak 3) (aj (ak 4) (aj (ak 5) az))))) (gN 8)
 du)
 (bw (m6 (tV (aK um (au jb (aj (ak 5) az)) (dw (aj (aK cA (ak 6) (ak 2)) (aj (aK cA (ak 7) (ak 2)) az))))) (bN (eC (.bl false))) gC)
 (bN (Gp (aK oEq (au jb (aj (ak 3) az)) (dw (aj (ak 6) (aj (ak 7) az)))) (aK oEq (au jb (aj (ak 4) az)) (dw (aj (ak 6) (aj (ak 7) az)))))))))))))))
def fY:MF:=iM 3 10 dM
def m5:MS:=(m6 (tV (aK um (au fB (aj (Dc (ak 3) (ak 4)) az)) (au Uq (aj (aK YF (ak 4) (ak 1)) az)))) (bN (eC (.bl false))) gC)
def iU:MS:=(bw (cB (au gU (aj (ak 0) (aj (ak 2) az))) (gN 3))
 (bw (lV (OD (ak 3)) (gN 4)
 m5)
 (bN (eC (.bl true)))))
def dI:MF:=iM 3 5 iU
def mD:MS:=(Bg 2 (oI λu v=>some (.int (u+v))) (eC (.int 1)))
def mF:MS:=(bw (cB (eC (.int 0)) (gN 2))
 (bw (pM (tV (aK cz (ak 0) (aK oMod (aK bO (ak 1) (ak 2)) (eC (.int 24)))))
 mD)
 (bN (ak 2))))
def pX:MF:=iM 2 3 mF
def oR:MS:=(bw (m6 (tV (au SX (aj (ak 0) az))) (bN (gD (aj (dw (aj (eC (.int 0)) (aj (eC (.int 24)) az))) az))) gC)
 (bw (cB (bM 2 [0] (rD (ak 0)) (gT (aP (gN 0) (aP (gN 1) dB))) (yG (tV (ak 1)) (qt (tV (aK cz (ak 2) (aK iW (ak 0) (eC (.int 1))))))) (ak 0)) (gN 1))
 (bN (bM 1 [0] (cC (ak 1)) (gN 0) tT (dw (aj (ak 0) (aj (au pX (aj (ak 1) (aj (ak 0) az))) az)))))))
def lz:MF:=iM 1 2 oR
def nR:MS:=(bw (cB (bM 1 [2] (Cw (ak 6) (ak 7)) (gN 0) tT (Gp (aK R4 (aK cz (ak 0) (eC (.int 0))) (eC (.int 0))) (aK oEq (aK R4 (aK cz (ak 0) (eC (.int 1))) (eC (.int 0))) (ak 1)))) (gN 8))
 (Ey 9 4 (bM 1 [5] (cC (au lz (aj (ak 8) az))) (gN 0) tT (dw (aj (aK cz (ak 1) (eC (.int 0))) (aj (aK cz (ak 1) (eC (.int 1))) (aj (aK cz (ak 0) (eC (.int 0))) (aj (aK cz (ak 0) (eC (.int 1))) az))))))))
def zR:MS:=(bw (cB (au cD (aj (au cZ (aj (aK bO (ak 0) (ak 1)) az)) az)) (gN 3))
 (bw (jT 9 4 (gD az))
 (bw (lV (vM (ak 3) (au bW (aj (ak 0) (aj (ak 3) az))) (au bW (aj (ak 1) (aj (ak 3) az)))) (gT (aP (gN 5) (aP (gN 6) (aP (gN 7) dB))))
 nR)
 (Ex 9 [4] (bN (au dJ (aj (ak 4) az)))))))
def zf:MF:=iM 3 18 zR
def yq:MS:=(bN (au zf (aj (ak 0) (aj (ak 1) (aj (eC (.bl true)) az)))))
def iz:MF:=iM 2 2 yq
def Js:MS:=(bN (au iz (aj (ak 0) (aj (ak 0) az))))
def qW:MF:=iM 1 1 Js
def yp:MS:=(bN (au zf (aj (ak 0) (aj (ak 1) (aj (eC (.bl false)) az)))))
def jD:MF:=iM 2 2 yp
def uB:MS:=(bw (cB (au jc (aj (ak 0) (aj (aK cA (eC (.int 3)) (ak 1)) az))) (gN 2))
 (bw (cB (au ju (aj (ak 2) (aj (eC (.int 6)) (aj (eC (.int 5)) az)))) (gN 3))
 (bw (cB (au ju (aj (au jc (aj (ak 0) (aj (aK bO (aK cA (eC (.int 3)) (ak 1)) (eC (.int 1))) az))) (aj (eC (.int 6)) (aj (eC (.int 4)) az)))) (gN 4))
 (bw (cB (au jc (aj (ak 0) (aj (aK bO (aK cA (eC (.int 3)) (ak 1)) (eC (.int 2))) az))) (gN 5))
 (bw (m6 (qt (tV (au fY (aj (ak 3) (aj (aK iW (au bT (aj (ak 5) (aj (eC (.int 9883)) (aj (eC (.int 49)) az)))) (eC (.int 24))) (aj (aK bO (eC (.int 1)) (au bT (aj (ak 5) (aj (eC (.int 9871)) (aj (eC (.int 9)) az))))) az)))))) (bN (eC (.bl false))) gC)
 (bw (cB (au gU (aj (ak 3) (aj (eC (.int 6)) az))) (gN 6))
 (bw (cB (au gU (aj (ak 4) (aj (eC (.int 6)) az))) (gN 7))
 (bw (cB (bM 1 [6] (OD (ak 6)) (gN 0) (tV (Dc (ak 1) (ak 0))) (ak 0)) (gN 8))
 (bw (cB (bM 1 [7] (cC (ak 8)) (gN 0) (tV (Dc (ak 1) (ak 0))) (ak 0)) (gN 9))
 (bw (cB (bM 1 [7] (cC (ak 8)) (gN 0) (qt (tV (Dc (ak 1) (ak 0)))) (ak 0)) (gN 10))
 (bw (m6 (Q8 (qt (tV (au dI (aj (au qW (aj (ak 3) az)) (aj (ak 8) (aj (eC (.int 6)) az)))))) (tV (rR ql (au iZ (aj (au qW (aj (ak 3) az)) (aj (ak 3) az)))))) (bN (eC (.bl false))) gC)
 (bw (m6 (Q8 (qt (tV (au dI (aj (au iz (aj (ak 3) (aj (ak 4) az))) (aj (ak 9) (aj (eC (.int 6)) az)))))) (qt (tV (au dI (aj (au jD (aj (ak 3) (aj (ak 4) az))) (aj (ak 10) (aj (eC (.int 6)) az))))))) (bN (eC (.bl false))) gC)
 (bw (m6 (tV (rR ql (au iZ (aj (aK bO (au iz (aj (ak 3) (aj (ak 4) az))) (au jD (aj (ak 3) (aj (ak 4) az)))) (aj (ak 3) az))))) (bN (eC (.bl false))) gC)
 (m6 (tV (aK um (aK bO (au dO (aj (au iz (aj (ak 3) (aj (ak 4) az))) az)) (au dO (aj (au jD (aj (ak 3) (aj (ak 4) az))) az))) (au dO (aj (ak 3) az)))) (bN (eC (.bl false))) gC))))))))))))))
def Jt:MS:=(bw (lV (dR (eC (.int 2))) (gN 1)
 uB)
 (bN (eC (.bl true))))
def Ce:MF:=iM 1 11 Jt
end DL.K09
namespace DL.Pg
open PySem DL
structure Pc where
 i:Nat
 o:Nat
 b:Nat
 w:Nat
def Pc.ok(p:Pc):Prop:=p.i<p.o/\p.o<=1000/\p.b<24/\1<=p.w/\p.w<=24
noncomputable def pD(p:Pc):D:=.tup [.int p.i,.int p.o,.int p.b,.int p.w]
def aQ(s:List Pc):D:=.tup (s.map pD)
noncomputable def Pc.at(p:Pc)(t:Nat):Bool:=decide ((t+24-p.b)%24<p.w)
def Pc.has(p:Pc)(r t:Nat):Bool:=decide (p.i<=r)&&decide (r<p.o)&&p.at t
def dep(s:List Pc)(r t:Nat):Nat:=s.countP λp=>p.has r t
noncomputable def dF(p:Pc):List Int:=(List.range p.w).map λk=>(((p.b+k)%24:Nat):Int)
theorem Fg{p:Pc}(h:p.ok):iy [pD p]=some (.tup [.int p.i,.int p.o]):=by
 have h1:¬ ((0:Int)>p.i):=by omega
 have h2:¬ ((p.i:Int)>p.o):=by have:=h.1;omega
 simp[iy,iM,tO,bw,cB,bN,au,aj,az,aK,ak,slot,eC,cz,uz,SQ,gN,dw,pD];have:=h.1;omega
theorem su{n:Nat}{x:D}(h:x∈dN n):∃k:Nat,k<n/\x=.int k:=by
 unfold dN at h;obtain⟨k,h1,h2⟩:=Z5.mp h;exact⟨k,aab.mp h1,h2.symm⟩
theorem Bo{a:ME}{δ:Ev}{j:Int}(h:a δ=some (.int j))(h1 : -1073741824<j/\j<1073741824):dR a δ=some (dN j.toNat):=by
 unfold dR;rw[h];simp only[Z0];rw[ZZ h1]
theorem lg{a:ME}{δ:Ev}{n:Nat}(h:a δ=some (.int n))(h1:n<1073741824):dR a δ=some (dN n):=by
 have e:=Bo h ⟨by omega,by omega⟩
 rwa [aax]at e
theorem Hs{p:Pc}(h:p.ok):iw [pD p]=some (.lst ((dF p).map D.int)):=by
 obtain⟨_,_,_,h4,h5⟩:=h;have e0:mC [some (pD p),none]=bN (bM 1 [0] (dR (ak 1)) (gN 0) tT (aK oMod (aK bO (aK cz (ak 1) (eC (.int 2))) (ak 0)) (eC (.int 24)))) [some (pD p),some (.int p.w)]:=by
  unfold mC;refine aO (bI (d:=.int p.w) ?_ rfl);have:¬ ((24:Int)<p.w):=by omega
  simp[au,aj,az,aK,ak,slot,eC,cz,uz,V7,pD];omega
 refine bZ rfl (e0.trans ?_);have hi:dR (ak 1) [some (pD p),some (.int p.w)]=some (dN p.w):=lg rfl (by omega);refine bQ ((cR (λx=>match x with|.int k=>some (.int ((p.b+k)%24))|_=>none) hi (by simp[dN];omega) λx hx=>?_).trans ?_)
 ·obtain⟨k,_,rfl⟩:=su hx;refine⟨[some (.int k),some (pD p)],rfl,.inl ⟨rfl,.int ((p.b+k)%24),?_,rfl⟩⟩;simp[aK,ak,slot,eC,cz,uz,pD,bO,oMod,oI]
 ·refine aaS (λl=>some (D.lst l)) ?_;unfold dF dN;generalize List.range p.w=l
  induction l with
  |nil=>rfl|cons a l ih=>
    have e:(((p.b+a)%24:Nat):Int)=((p.b:Int)+(a:Int))%24:=by omega
    simp only[ZD,aaJ];rw[ih,e]
theorem ints_map:∀(l:List Int),intsOf (l.map D.int)=some l
 |[]=>rfl|a::l=>by simp[intsOf,ints_map l]
theorem An{p:Pc}:∀t∈dF p,0<=t/\t<24:=λt h=>by
 unfold dF at h;obtain⟨k,_,rfl⟩:=Z5.mp h;have:=aaq (p.b+k) (show 0<24 by decide);omega
theorem JL(p:Pc):yE (.lst ((dF p).map D.int))=some (dF p):=by
 show(intsOf ((dF p).map D.int)).bind _=_;rw[ints_map];simp only[Z0];rw[ZZ];rw[aaM];intro t ht;have:=An t ht;simp[this]
def oh(T:Tab)(p:Pc):Tab:=je (je T p.i (dF p) 1) p.o (dF p) (-1)
def tabOf(s:List Pc):Tab:=s.foldl oh []
theorem Jo:∀(s:List Pc)(T:Tab),(∀p∈s,p.ok)->T.length+2*s.length<=1000000->zL iy iw (s.map pD) T=some (s.foldl oh T)
 |[],T,_,_=>rfl|p::s,T,h,hl=>by
   have hp:=h p ZF;simp only[Z2]at hl;rw[ZD,zL,Fg hp];simp only[Z0,Hk];rw[Hs hp];simp only[Z0,JL];rw[ZZ (by omega)];have h1:=rP T p.i (dF p) 1;have h2:=rP (je T p.i (dF p) 1) p.o (dF p) (-1);exact Jo s _ (λq hq=>h q (Zy _ hq)) (by omega)
theorem J7{s:List Pc}(h:∀p∈s,p.ok)(hl:s.length<=400000):gk [aQ s]=some (mY (tabOf s)):=by
 unfold gk lA aQ;simp only;rw[Jo s [] h (by simp only[aba];omega)];rfl
noncomputable def zeros:List Int:=List.replicate 24 0
def m7(T:Tab)(e:Int):List Int:=(T.lookup e).getD zeros
def oU(T:Tab)(e:Int)(t:Nat):Int:=(m7 T e).getD t 0
def pC(T:Tab):Prop:=∀q∈T,q.2.length=24
theorem Ck(far:Int)(ts:List Int)(b:Int):∀(T:Tab)(e:Int),(je T far ts b).lookup e=if e=far then some (cF (m7 T far) ts b)else T.lookup e
 |[],e=>by
   unfold je m7;by_cases h:e=far
   ·subst h;simp[List.lookup,zeros]
   ·have h':(e==far)=false:=by simpa using h
    simp[List.lookup,h,h']
 |(k,r)::T,e=>by
   unfold je;by_cases hk:k=far
   ·subst hk;rw[ZZ rfl,aas];by_cases he:e=k
    ·subst he;simp[m7,aas]
    ·have:(e==k)=false:=by simpa using he
     simp[this,he,aas]
   ·rw[aaa hk,aas,aas,Ck far ts b T e];by_cases he:e=k
    ·subst he;simp[hk]
    ·have h1:(e==k)=false:=by simpa using he
     have h2:(far==k)=false:=by simpa using aal hk
     simp only[h1,m7,aas,h2]
theorem good_add{T:Tab}(h:pC T)(far:Int)(ts:List Int)(b:Int):pC (je T far ts b):=by
 induction T with
 |nil=>
   intro q hq;unfold je at hq;rw[ZW.mp hq,d9];rfl
 |cons kr T ih=>
   obtain⟨k,r⟩:=kr;intro q hq;have hr:r.length=24:=h (k,r) ZF;unfold je at hq;split at hq
   ·rcases ZP.mp hq with rfl|hq
    ·rw[d9];exact hr
    ·exact h q (Zy _ hq)
   ·rcases ZP.mp hq with rfl|hq
    ·exact hr
    ·exact ih (λq' hq'=>h q' (Zy _ hq')) q hq
theorem Bl{T:Tab}(h:pC T)(e:Int):(m7 T e).length=24:=by
 unfold m7;cases hl:T.lookup e with
 |none=>rfl|some r=>
   obtain⟨_,_,hm⟩:∃k,k=e/\(k,r)∈T:=by
    clear h;induction T with
    |nil=>simp at hl|cons kr T ih=>
      obtain⟨k,r'⟩:=kr;rw[aas]at hl;split at hl
      ·rename_i hk;cases hl;exact⟨k,(eq_of_beq hk).symm,ZF⟩
      ·obtain⟨k',h1,h2⟩:=ih hl;exact⟨k',h1,Zy _ h2⟩
   exact h _ hm
theorem qd(b:Int):∀(ts r:List Int)(t:Nat),(∀z∈ts,0<=z/\z<r.length)->(cF r ts b).getD t 0=r.getD t 0+b*(ts.count (t:Int):Nat)
 |[],r,t,_=>by simp[cF]|z::ts,r,t,h=>by
   obtain⟨z0,z1⟩:=h z ZF;have e:cF r (z::ts) b=cF (r.set z.toNat (r.getD z.toNat 0+b)) ts b:=rfl;rw[e,qd b ts _ t λy hy=>by rw[abb];exact h y (Zy _ hy),abQ];by_cases hz:z=t
   ·subst hz;have:t<r.length:=by omega
    simp[Z3,List.getElem?_set,this,ad8];omega
   ·have h1:z.toNat≠t:=by omega
    have h2:(z==(t:Int))=false:=by simpa using hz
    simp[Z3,List.getElem?_set,h1,h2]
theorem ue:∀b,b<24->∀w,w<25->∀t,t<24->((List.range w).map λk=>(b+k)%24).count t=if(t+24-b)%24<w then 1 else 0:=by decide +kernel
theorem K8{p:Pc}(h:p.ok){t:Nat}(ht:t<24):(dF p).count (t:Int)=if p.at t=true then 1 else 0:=by
 obtain⟨_,_,h3,_,h5⟩:=h;have:=ue p.b h3 p.w (by omega) t ht;unfold Pc.at;simp only[Z7];rw[<-this];unfold dF;generalize List.range p.w=l
 induction l with
 |nil=>rfl|cons a l ih=>
   rw[ZD,ZD,abQ,abQ,ih];congr 1;have:((((p.b+a)%24:Nat):Int)==(t:Int))=((p.b+a)%24==t):=by
    rw[aau];simp only[aey];omega
   rw[this]
theorem Aj{T:Tab}(h:pC T){p:Pc}(hp:p.ok)(far b:Int)(e:Int){t:Nat}(ht:t<24):oU (je T far (dF p) b) e t=oU T e t+if e=far then b*(if p.at t=true then 1 else 0)else 0:=by
 unfold oU;have:m7 (je T far (dF p) b) e=if e=far then cF (m7 T far) (dF p) b else m7 T e:=by
  unfold m7;rw[Ck];split<;>rfl
 rw[this];by_cases he:e=far
 ·subst he;rw[ZZ rfl,ZZ rfl,qd b _ _ t λz hz=>by rw[Bl h];exact An z hz,K8 hp ht];split<;>simp
 ·rw[aaa he,aaa he];simp
def chg(p:Pc)(e t:Nat):Int:=if p.at t=true then(if e=p.i then 1 else 0)-(if e=p.o then 1 else 0)else 0
theorem Ai:∀(s:List Pc)(T:Tab),pC T->(∀p∈s,p.ok)->∀(e t:Nat),t<24->oU (s.foldl oh T) e t=oU T e t+(s.map λp=>chg p e t).sum
 |[],T,_,_,e,t,_=>by simp|p::s,T,h,hs,e,t,ht=>by
   have hp:=hs p ZF;have h1:=good_add h p.i (dF p) 1;have h2:pC (oh T p):=good_add h1 p.o (dF p) (-1);rw[adD,Ai s _ h2 (λq hq=>hs q (Zy _ hq)) e t ht,ZD,Z8];unfold oh;rw[Aj h1 hp _ _ _ ht,Aj h hp _ _ _ ht];unfold chg;have e1:((e:Int)=(p.i:Int))↔e=p.i:=by omega
   have e2:((e:Int)=(p.o:Int))↔e=p.o:=by omega
   simp only[e1,e2];by_cases ha:p.at t=true<;>by_cases h1:e=p.i<;>by_cases h2:e=p.o<;>simp[ha,h1,h2]<;>omega
theorem CJ:∀(s:List Pc)(T:Tab),pC T->pC (s.foldl oh T)
 |[],T,h=>h|p::s,T,h=>CJ s _ (good_add (good_add h _ _ _) _ _ _)
theorem CK:pC []:=λq h=>by cases h
noncomputable def rowOf(f:Nat->Int):List Int:=(List.range 24).map f
noncomputable def bL(r:List Int):D:=.lst (r.map D.int)
noncomputable def aG(q:Nat×Nat):D:=.tup [.int q.1,.int q.2]
theorem xA(f:Nat->Int):(rowOf f).length=24:=by simp[rowOf]
theorem tW{f g:Nat->Int}(h:∀t,t<24->f t=g t):rowOf f=rowOf g:=aaD λt ht=>h t (aab.mp ht)
theorem J1{r:List Int}(h:r.length=24):rowOf (λt=>r.getD t 0)=r:=by
 refine acM (by rw[xA,h]) λi h1 h2=>?_;simp[rowOf,h2]
theorem zip_rows(f g:Nat->Int):List.zipWith (·+·) (rowOf f) (rowOf g)=rowOf λt=>f t+g t:=by
 unfold rowOf;rw[List.zipWith_map];generalize List.range 24=l
 induction l with
 |nil=>rfl|cons a l ih=>rw[aeD,ih];rfl
theorem Ci:∀(T:Tab)(e:Int),nH (T.map λp=>.int p.1) (T.map λp=>.lst (p.2.map D.int)) e=(T.lookup e).map λr=>.lst (r.map D.int)
 |[],e=>rfl|(k,r)::T,e=>by
   rw[ZD,ZD,nH,Ci T e,aas];by_cases h:k=e
   ·subst h;simp
   ·have:(e==k)=false:=by simpa using aal h
    rw[aaa h,this]
theorem VP{o k x:ME}{δ:Ev}{T:Tab}{e:Int}(ho:o δ=some (mY T))(hk:k δ=some (.int e))(hx:x δ=some (bL zeros)):Jb o k x δ=some (bL (m7 T e)):=by
 unfold Jb;rw[ho,hk,hx];simp only[Z0,mY];rw[Ci];unfold m7;cases T.lookup e<;>rfl
theorem zZ(δ:Ev):vU (gD (aj (eC (.int 0)) az)) (eC (.int 24)) δ=some (bL zeros):=by
 unfold vU;simp[gD,aj,az,eC];rfl
theorem wV:∀(a b:List Int),gB (a.map D.int) (b.map D.int)=(a.zip b).map λp=>D.tup [.int p.1,.int p.2]
 |[],_=>rfl|_::_,[]=>rfl|x::a,y::b=>by
   have:=wV a b;unfold gB at this ⊢;rw[ZD,ZD,aaw,aaw,ZD,ZD,this]
theorem Ql{x y:ME}{δ:Ev}{a b:List Int}(hx:x δ=some (bL a))(hy:y δ=some (bL b))(hl:a.length<=1000):bM 2 [] (wN x y) (gT (aP (gN 0) (aP (gN 1) dB))) tT (aK bO (ak 0) (ak 1)) δ=some (bL (List.zipWith (·+·) a b)):=by
 have hi:wN x y δ=some ((a.zip b).map λp=>D.tup [.int p.1,.int p.2]):=by
  unfold wN;rw[hx,hy];simp only[Z0,bL];rw[wV]
 refine(cR (λd=>match d with|.tup [.int u,.int v]=>some (.int (u+v))|_=>none) hi (by simp;omega) λd hd=>?_).trans ?_
 ·obtain⟨p,_,rfl⟩:=Z5.mp hd;exact⟨[some (.int p.1),some (.int p.2)],rfl,.inl ⟨rfl,.int (p.1+p.2),rfl,rfl⟩⟩
 ·refine aaS (λl=>some (D.lst l)) ?_;clear hi hx hy hl;induction a generalizing b with
  |nil=>rfl|cons u a ih=>
    cases b with
    |nil=>rfl|cons v b=>
      rw[aaw,ZD,aaJ,aeD,ZD];simp only;rw[ih]
def qH(T:Tab):(Nat->Int)->List (Nat×Nat)->List (List Int)
 |_,[]=>[]|f,q::qs=>rowOf (λt=>f t+oU T q.1 t)::qH T (λt=>f t+oU T q.1 t) qs
theorem xu{T:Tab}(hT:pC T)(sh bd:D):∀(qs:List (Nat×Nat))(f:Nat->Int)(rs:List D)(x5 x6:Option D),rs.length+qs.length<=1000->∃y4 y5 y6,
 forM (gN 5) fM (qs.map aG) [some sh,some bd,some (mY T),none,some (bL (rowOf f)),x5,x6,none,none,none,some (.lst rs),none,none,none]=
  some (.nx [some sh,some bd,some (mY T),none,y4,y5,y6,none,none,none,some (.lst (rs++(qH T f qs).map bL)),none,none,none])
 |[],f,rs,x5,x6,_=>⟨_,_,_,by rw[aa4,forM,qH,aa4,abD]⟩|q::qs,f,rs,x5,x6,hl=>by
   simp only[Z2]at hl;have e:fM [some sh,some bd,some (mY T),none,some (bL (rowOf f)),some (aG q),x6,none,none,none,some (.lst rs),none,none,none]=
    some (.nx [some sh,some bd,some (mY T),none,some (bL (rowOf λt=>f t+oU T q.1 t)),some (aG q),some (bL (m7 T q.1)),none,none,none,some (.lst (rs++[bL (rowOf λt=>f t+oU T q.1 t)])),none,none,none]):=by
    unfold fM;rw[aO (bI (VP (T:=T) (e:=q.1) rfl rfl (zZ _)) rfl)];have hz:List.zipWith (·+·) (rowOf f) (m7 T q.1)=rowOf λt=>f t+oU T q.1 t:=by
     rw[<-J1 (Bl hT q.1),zip_rows];rfl
    rw[aO (bI ((Ql (a:=rowOf f) (b:=m7 T q.1) rfl rfl (by rw[xA];decide)).trans (by rw[hz])) rfl)];unfold Ez;have:(rs.length<16777216):=by omega
    simp[ak,slot,gN,ownAt,this]
   obtain⟨y4,y5,y6,ih⟩:=xu hT sh bd qs (λt=>f t+oU T q.1 t) (rs++[bL (rowOf λt=>f t+oU T q.1 t)]) (some (aG q)) (some (bL (m7 T q.1))) (by simp;omega);refine⟨y4,y5,y6,?_⟩;rw[ZD,forM];show(fM [some sh,some bd,some (mY T),none,some (bL (rowOf f)),some (aG q),x6,none,none,none,some (.lst rs),none,none,none]).bind _=_;rw[e];simp only[Z0];rw[ih,qH,ZD,aa8];rfl
theorem uX{s:List Pc}(h:∀p∈s,p.ok)(hl:s.length<=400000){qs:List (Nat×Nat)}(hq:qs.length<=1000):bW [aQ s,.lst (qs.map aG)]=some (.lst ((qH (tabOf s) (λ_=>0) qs).map bL)):=by
 have hz:bL zeros=bL (rowOf λ_=>0):=rfl;obtain⟨y4,y5,y6,e⟩:=xu (T:=tabOf s) (CJ s [] CK) (aQ s) (.lst (qs.map aG)) qs (λ_=>0) [] none none (by simpa using hq);refine bZ rfl ?_;show jz [some (aQ s),some (.lst (qs.map aG)),none,none,none,none,none,none,none,none,none,none,none,none]=_;unfold jz;rw[aO (bI ((aM rfl).trans (J7 h hl)) rfl)];rw[aO (show jT 7 3 (gD az) _=some (.nx [some (aQ s),some (.lst (qs.map aG)),some (mY (tabOf s)),none,none,none,none,none,none,none,some (.lst []),none,none,none])from rfl)];rw[aO (bI (δ':=[some (aQ s),some (.lst (qs.map aG)),some (mY (tabOf s)),none,some (bL (rowOf λ_=>0)),none,none,none,none,none,some (.lst []),none,none,none]) (zZ _) rfl)];rw[aO ((dj (xs:=qs.map aG) rfl).trans e)];rfl
def GF(s:List Pc)(e t:Nat):Int:=(s.map λp=>if p.at t=true then((if p.i<e then 1 else 0)-(if p.o<e then 1 else 0):Int)else 0).sum
theorem Ob{i o e:Nat}(h:i<o):((if i<e then 1 else 0)-(if o<e then 1 else 0):Int)+((if e=i then 1 else 0)-(if e=o then 1 else 0))=if i<=e/\e<o then 1 else 0:=by
 split<;>split<;>split<;>split<;>split<;>omega
theorem Oc{i o e e':Nat}(h:i<o)(h1:i<e'↔i<=e)(h2:o<e'↔o<=e):((if i<e' then 1 else 0)-(if o<e' then 1 else 0):Int)=if i<=e/\e<o then 1 else 0:=by
 split<;>split<;>split<;>omega
theorem Qi{s:List Pc}(h:∀p∈s,p.ok)(e t:Nat):GF s e t+(s.map λp=>chg p e t).sum=(dep s e t:Int):=by
 unfold GF dep;induction s with
 |nil=>rfl|cons p s ih=>
   have ih':=ih λq hq=>h q (Zy _ hq);have hp:=(h p ZF).1;rw[ZD,ZD,Z8,Z8,abl,Int.natCast_add,<-ih'];have:(if p.at t=true then((if p.i<e then 1 else 0)-(if p.o<e then 1 else 0):Int)else 0)+chg p e t=((if p.has e t=true then 1 else 0:Nat):Int):=by
    unfold chg Pc.has;cases ha:p.at t
    ·simp
    ·simp only[abL,adw,aac,Z7];rw[Ob hp];split<;>rfl
   omega
theorem Qj{s:List Pc}{e e':Nat}(h:∀p∈s,p.i<p.o/\(p.i<e'↔p.i<=e)/\(p.o<e'↔p.o<=e))(t:Nat):GF s e' t=(dep s e t:Int):=by
 unfold GF dep;induction s with
 |nil=>rfl|cons p s ih=>
   obtain⟨h0,h1,h2⟩:=h p ZF;rw[ZD,Z8,abl,Int.natCast_add,ih λq hq=>h q (Zy _ hq)];have:(if p.at t=true then((if p.i<e' then 1 else 0)-(if p.o<e' then 1 else 0):Int)else 0)=((if p.has e t=true then 1 else 0:Nat):Int):=by
    unfold Pc.has;cases ha:p.at t
    ·simp
    ·simp only[abL,adw,aac,Z7];rw[Oc h0 h1 h2];split<;>rfl
   omega
def Left(s:List Pc)(e:Nat)(es:List Nat):Prop:=∀p∈s,(p.i<e\/p.i∈e::es)/\(p.o<e\/p.o∈e::es)
theorem Left.next{s:List Pc}{e e':Nat}{es:List Nat}(h:Left s e (e'::es))(hs:(e::e'::es).Pairwise (·<·)):Left s e' es:=by
 have hlt:e<e':=(aaO.mp hs).1 e' ZF;have key:∀x,x<e\/x∈e::e'::es->x<e'\/x∈e'::es:=λx hx=>by
  rcases hx with hx|hx
  ·exact .inl (by omega)
  ·rcases ZP.mp hx with rfl|hx
   ·exact .inl hlt
   ·exact .inr hx
 exact λp hp=>⟨key _ (h p hp).1,key _ (h p hp).2⟩
theorem Left.iff{s:List Pc}{e e':Nat}{es:List Nat}(h:Left s e (e'::es))(hs:(e::e'::es).Pairwise (·<·)):∀p∈s,(p.i<e'↔p.i<=e)/\(p.o<e'↔p.o<=e):=by
 have hlt:e<e':=(aaO.mp hs).1 e' ZF;have h2:=(aaO.mp (aaO.mp hs).2).1;have key:∀x,x<e\/x∈e::e'::es->(x<e'↔x<=e):=λx hx=>by
  rcases hx with hx|hx
  ·omega
  ·rcases ZP.mp hx with rfl|hx
   ·omega
   ·rcases ZP.mp hx with rfl|hx
    ·omega
    ·have:=h2 x hx;omega
 exact λp hp=>⟨key _ (h p hp).1,key _ (h p hp).2⟩
def aX(s:List Pc)(e:Nat):List Int:=rowOf λt=>(dep s e t:Int)
theorem uU{s:List Pc}(h:∀p∈s,p.ok):∀(es:List Nat)(e:Nat)(f:Nat->Int),(e::es).Pairwise (·<·)->Left s e es->(∀t,t<24->f t=GF s e t)->
 qH (tabOf s) f ((e::es).zip es)=((e::es).zip es).map λq=>aX s q.1
 |[],e,f,_,_,_=>rfl|e'::es,e,f,hs,hL,hf=>by
   have hrow:∀t,t<24->f t+oU (tabOf s) e t=(dep s e t:Int):=λt ht=>by
    rw[hf t ht];unfold tabOf;rw[Ai s [] CK h e t ht,<-Qi h e t];have:oU [] (e:Int) t=0:=by
     unfold oU m7 zeros;rw[List.lookup_nil,ado,Z3,aa6];split<;>rfl
    omega
   rw[aaw,qH,ZD];simp only;rw[tW hrow,uU h es e' (λt=>f t+oU (tabOf s) e t) (aaO.mp hs).2 (hL.next hs) λt ht=>?_]
   ·rfl
   ·rw[hrow t ht];exact(Qj (λp hp=>⟨(h p hp).1,hL.iff hs p hp⟩) t).symm
noncomputable def jU(s:List Pc):List Nat:=0::s.flatMap λp=>[p.i,p.o]
def edges(s:List Pc):List Nat:=(List.range 1001).filter λr=>decide (r∈jU s)
theorem bA(s:List Pc):(edges s).Pairwise (·<·):=adg.filter _
theorem cL{s:List Pc}(h:∀p∈s,p.ok)(x:Nat):x∈edges s↔x∈jU s:=by
 unfold edges;rw[aaE,aab,Z7];refine⟨λz=>z.2,λz=>⟨?_,z⟩⟩;unfold jU at z;rcases ZP.mp z with rfl|z
 ·decide
 ·obtain⟨p,hp,hx⟩:=aaz.mp z;have:=h p hp;have h1:=this.1;have h2:=this.2.1;simp only[ZP,aao,abz]at hx;omega
theorem Ow(ks:List Int)(n x:Int):x∈jM ks n↔x∈ks\/x=n:=by
 unfold jM;split
 ·rename_i h;exact⟨.inl,λz=>z.elim id λe=>e▸h⟩
 ·simp
theorem Ge{ks:List Int}(h:ks.Nodup)(n:Int):(jM ks n).Nodup:=by
 unfold jM;split
 ·exact h
 ·rename_i hn;rw[ach];exact⟨h,by simp,λa ha b hb e=>hn (by rw[ZW.mp hb]at e;exact e▸ha)⟩
theorem yc:∀(l ks:List Int),ks.Nodup->(l.foldl jM ks).Nodup/\∀x,x∈l.foldl jM ks↔x∈ks\/x∈l
 |[],ks,h=>⟨h,λx=>by simp⟩|n::l,ks,h=>by
   obtain⟨h1,h2⟩:=yc l (jM ks n) (Ge h n);refine⟨h1,λx=>?_⟩;rw[adD,h2,Ow,ZP,or_assoc]
theorem xf{a b:List Int}(hp:a.Perm b)(ha:a.Pairwise (·<=·))(hb:b.Pairwise (·<=·)):a=b:=
 hp.eq_of_pairwise (λx y _ _ h1 h2=>Int.le_antisymm h1 h2) ha hb
theorem lL(ks:List Int):(sortI ks).Pairwise (·<=·):=by
 have:=ael (le:=λa b:Int=>decide (a<=b)) (λa b c h1 h2=>by simp only[Z7]at *;omega) (λa b=>by simp only[aeH,Z7];omega) ks;exact this.imp λh=>by simpa using h
theorem Es{s:List Pc}(h:∀p∈s,p.ok):sortI (((jU s).map λ(n:Nat)=>(n:Int)).foldl jM [])=(edges s).map λ(n:Nat)=>(n:Int):=by
 obtain⟨n1,n2⟩:=yc ((jU s).map λ(n:Nat)=>(n:Int)) [] acr;have hs:((edges s).map λ(n:Nat)=>(n:Int)).Pairwise (·<·):=by
  rw[acG];exact(bA s).imp λz=>by omega
 refine xf ?_ (lL _) (hs.imp λz=>by omega);refine(acU _ _).trans ?_;refine(abB n1 (hs.imp λz=>by omega)).mpr λx=>?_;rw[n2];simp only[aao,false_or,Z5,cL h]
noncomputable def aC(E:List Nat):List D:=E.map λ(n:Nat)=>D.int (n:Int)
theorem vJ(E:List Nat):intsOf (aC E)=some (E.map λ(n:Nat)=>(n:Int)):=by
 have:aC E=(E.map λ(n:Nat)=>(n:Int)).map D.int:=by unfold aC;rw[aai];rfl
 rw[this,ints_map]
theorem vR(sh:D):∀(s:List Pc)(ds:List D)(x2:Option D),(∀p∈s,p.ok)->ds.length+2*s.length<=10000->∃y2,
 forM (gN 2) gY (s.map pD) [some sh,none,x2,none,some (.lst ds),none]=some (.nx [some sh,none,y2,none,some (.lst (ds++aC (s.flatMap λp=>[p.i,p.o]))),none])
 |[],ds,x2,_,_=>⟨x2,by simp[forM,aC]⟩|p::s,ds,x2,h,hl=>by
   simp only[Z2]at hl;have e:gY [some sh,none,some (pD p),none,some (.lst ds),none]=some (.nx [some sh,none,some (pD p),none,some (.lst (ds++[.int p.i,.int p.o])),none]):=by
    unfold gY Ey;rw[aM (x:=pD p) rfl,Fg (h p ZF)];have:ds.length+2<=16777216:=by omega
    simp[ownAt,slot,this]
   obtain⟨y2,ih⟩:=vR sh s (ds++[.int p.i,.int p.o]) (some (pD p)) (λq hq=>h q (Zy _ hq)) (by simp;omega);refine⟨y2,?_⟩;rw[ZD,forM];show(gY [some sh,none,some (pD p),none,some (.lst ds),none]).bind _=_;rw[e];simp only[Z0];rw[ih];simp[aC]
theorem oE{s:List Pc}(h:∀p∈s,p.ok)(hl:s.length<=1000)(he:(edges s).length<64):cZ [aQ s]=some (.lst (aC (edges s))):=by
 obtain⟨y2,e⟩:=vR (aQ s) s [.int 0] none h (by simp;omega);refine bZ rfl ?_;show mG [some (aQ s),none,none,none,none,none]=_;unfold mG;rw[aO (show jT 3 1 (gD (aj (eC (.int 0)) az)) _=some (.nx [some (aQ s),none,none,none,some (.lst [.int 0]),none])from rfl)];rw[aO ((dj (xs:=s.map pD) rfl).trans e)];have ef:[D.int 0]++aC (s.flatMap λp=>[p.i,p.o])=aC (jU s):=rfl;rw[ef];show bN (rR qj (ak 1)) [some (aQ s),some (.lst (aC (jU s))),y2,none,none,none]=_;refine bQ ((wY (x:=.lst (aC (jU s))) rfl).trans ?_);unfold qj;simp only;rw[vJ];simp only[Z0];have hs:=Es h;have h1:((jU s).map λ(n:Nat)=>(n:Int)).length+1<4096:=by
  unfold jU;simp;have:(s.flatMap λp=>[p.i,p.o]).length=2*s.length:=by
   clear h hl he e ef hs;induction s with
   |nil=>rfl|cons p s ih=>rw[abg,Z6,ih];simp;omega
  simp at this;omega
 have h2:(((jU s).map λ(n:Nat)=>(n:Int)).foldl jM []).length<64:=by
  have:=aaS List.length hs;rw[ZK]at this;unfold sortI at this;rw[List.length_mergeSort]at this;omega
 rw[ZZ ⟨h1,h2⟩,hs];unfold aC;rw[aai];rfl
noncomputable def bj(E:List Nat):List (Nat×Nat):=E.zip E.tail
theorem G9:∀(E F:List Nat),gB (aC E) (aC F)=(E.zip F).map aG
 |[],_=>rfl|_::_,[]=>rfl|a::E,b::F=>by
   have:=G9 E F;unfold gB aC at this ⊢;rw[ZD,ZD,aaw,aaw,ZD,ZD,this];rfl
theorem uv{E:List Nat}(hl:E.length<=1000):cD [.lst (aC E)]=some (.lst ((bj E).map aG)):=by
 refine bZ rfl ?_;show gr [some (.lst (aC E))]=_;unfold gr;refine bQ ?_;unfold vV wN;have e:rR (Am 1) (ak 0) [some (.lst (aC E))]=some (.lst (aC E.tail)):=by
  show some (D.lst ((aC E).drop 1))=_;rw[show(aC E).drop 1=aC E.tail by cases E<;>rfl]
 rw[e,show ak 0 [some (.lst (aC E))]=some (.lst (aC E))from rfl];simp only[Z0];rw[G9];have:((E.zip E.tail).map aG).length<=16777216:=by simp;omega
 rw[ZZ this];rfl
noncomputable def ar(q:Nat×Nat):Int:=(q.2:Int)*q.2-(q.1:Int)*q.1
theorem rZ{n:Nat}(h:n<=1000):small (n:Int)=true:=by
 unfold small;simp only[aac,Z7];omega
theorem sS{i j:Int}(h:small j=true):cA (.int i) (.int j)=some (.int (i*j)):=by
 simp[cA,h]
theorem Vd{a b:ME}{δ:Ev}{ds:List D}{k:Int}(ha:a δ=some (.lst ds))(hb:b δ=some (.int k))(h : -9223372036854775808<=k/\k<9223372036854775808/\ds.length*k.toNat<=16777216):vU a b δ=some (.lst (List.replicate k.toNat ds).flatten):=by
 unfold vU;rw[ha,hb];simp only[Z0];rw[ZZ h]
theorem Lb{a b:Int}(ha:small a=true)(hb:small b=true):fH [.tup [.int a,.int b]]=some (.int (b*b-a*a)):=by
 refine bZ rfl ?_;show j6 [some (.tup [.int a,.int b])]=_;unfold j6;refine bQ ((bu ((bu (x:=.int b) (y:=.int b) rfl rfl).trans (sS hb)) ((bu (x:=.int a) (y:=.int a) rfl rfl).trans (sS ha))).trans rfl)
theorem tX{q:Nat×Nat}(h1:q.1<=1000)(h2:q.2<=1000):fH [aG q]=some (.int (ar q)):=Lb (rZ h1) (rZ h2)
theorem yt(sh bd bn rw':D)(A:Int)(hA:fH [bn]=some (.int A)):∀(row hs:List Int)(x5:Option D),(∀z∈row,0<=z/\z<hs.length)->∃y5,
 forM (gN 5) eV (row.map D.int) [some sh,none,some bd,some bn,some rw',x5,none,some (.lst (hs.map D.int)),none,none,none,none]=
  some (.nx [some sh,none,some bd,some bn,some rw',y5,none,some (.lst ((cF hs row A).map D.int)),none,none,none,none])
 |[],hs,x5,_=>⟨x5,rfl⟩|z::row,hs,x5,h=>by
   obtain⟨z0,z1⟩:=h z ZF;have hz:z.toNat<hs.length:=by omega
   have e:eV [some sh,none,some bd,some bn,some rw',some (.int z),none,some (.lst (hs.map D.int)),none,none,none,none]=
    some (.nx [some sh,none,some bd,some bn,some rw',some (.int z),none,some (.lst ((hs.set z.toNat (hs.getD z.toNat 0+A)).map D.int)),none,none,none,none]):=by
    unfold eV Mz;rw[show ak 5 [some sh,none,some bd,some bn,some rw',some (.int z),none,some (.lst (hs.map D.int)),none,none,none,none]=some (.int z)from rfl,aM (x:=bn) rfl,hA];have hi:uz (hs.map D.int).length z=some z.toNat:=by
     unfold uz;rw[ZK,ZZ z0,ZZ (by omega)]
    have hg:(hs.map D.int)[z.toNat]? = some (.int (hs.getD z.toNat 0)):=by
     rw[aad,ZM hz];simp[hz]
    simp only[Z0];rw[show ownAt 6 1 [some sh,none,some bd,some bn,some rw',some (.int z),none,some (.lst (hs.map D.int)),none,none,none,none]=some (.lst (hs.map D.int))from rfl];simp only;rw[hi];simp only[Z0];rw[hg];simp only[Z0];rw[List.map_set];rfl
   obtain⟨y5,ih⟩:=yt sh bd bn rw' A hA row (hs.set z.toNat (hs.getD z.toNat 0+A)) (some (.int z)) λy hy=>by rw[abb];exact h y (Zy _ hy)
   refine⟨y5,?_⟩;rw[ZD,forM];show(eV [some sh,none,some bd,some bn,some rw',some (.int z),none,some (.lst (hs.map D.int)),none,none,none,none]).bind _=_;rw[e];simp only[Z0];rw[ih];rfl
theorem dU{g:MG}{body:MS}{x:D}{xs:List D}{δ δ1 δ2:Ev}(hg:g x δ=some δ1)(hb:body δ1=some (.nx δ2)):forM g body (x::xs) δ=forM g body xs δ2:=by
 rw[forM,hg];simp only[Z0];rw[hb];rfl
def nW(s:List Pc)(hs:List Int)(qs:List (Nat×Nat)):List Int:=qs.foldl (λhs q=>cF hs (aX s q.1) (ar q)) hs
theorem nU(s:List Pc)(hs:List Int)(q:Nat×Nat)(qs:List (Nat×Nat)):nW s hs (q::qs)=nW s (cF hs (aX s q.1) (ar q)) qs:=by
 unfold nW;rw[adD]
theorem xY{s:List Pc}{e:Nat}:∀z∈aX s e,0<=z/\z<s.length+1:=λz hz=>by
 unfold aX rowOf at hz;obtain⟨t,_,rfl⟩:=Z5.mp hz;have:dep s e t<=s.length:=aeO;omega
theorem wu(s:List Pc)(sh bd:D):∀(qs:List (Nat×Nat))(hs:List Int)(x3 x4 x5:Option D),hs.length=s.length+1->(∀q∈qs,q.1<=1000/\q.2<=1000)->∃y3 y4 y5,
 forM (gT (aP (gN 3) (aP (gN 4) dB))) jo (qs.map λq=>.tup [aG q,bL (aX s q.1)]) [some sh,none,some bd,x3,x4,x5,none,some (.lst (hs.map D.int)),none,none,none,none]=
  some (.nx [some sh,none,some bd,y3,y4,y5,none,some (.lst ((nW s hs qs).map D.int)),none,none,none,none])
 |[],hs,x3,x4,x5,_,_=>⟨x3,x4,x5,rfl⟩|q::qs,hs,x3,x4,x5,hl,hq=>by
   obtain⟨q1,q2⟩:=hq q ZF;obtain⟨z5,e⟩:=yt sh bd (aG q) (bL (aX s q.1)) (ar q) (tX q1 q2) (aX s q.1) hs x5 λz hz=>by have:=xY z hz;omega
   obtain⟨y3,y4,y5,ih⟩:=wu s sh bd qs (cF hs (aX s q.1) (ar q)) (some (aG q)) (some (bL (aX s q.1))) z5 (by rw[d9,hl]) λp hp=>hq p (Zy _ hp);refine⟨y3,y4,y5,?_⟩;have eb:jo [some sh,none,some bd,some (aG q),some (bL (aX s q.1)),x5,none,some (.lst (hs.map D.int)),none,none,none,none]=_:=(dj (xs:=(aX s q.1).map D.int) rfl).trans e;rw[ZD,dU (δ1:=[some sh,none,some bd,some (aG q),some (bL (aX s q.1)),x5,none,some (.lst (hs.map D.int)),none,none,none,none]) rfl eb,nU];exact ih
theorem zY{α:Type}:∀l:List α,l.zip l=l.map λq=>(q,q)
 |[]=>rfl|a::l=>by rw[aaw,zY l,ZD]
theorem dZ(s:List Pc):∃es,edges s=0::es:=by
 unfold edges;rw[aeu,List.filter_cons_of_pos (by unfold jU;simp)];exact⟨_,rfl⟩
theorem Fb{s:List Pc}(h:∀p∈s,p.ok):qH (tabOf s) (λ_=>0) (bj (edges s))=(bj (edges s)).map λq=>aX s q.1:=by
 obtain⟨es,e⟩:=dZ s;have hs:=bA s;have hm:=cL h;unfold bj;rw[e]at hs hm ⊢;refine uU h es 0 _ hs (λp hp=>?_) λt _=>?_
 ·have:∀x,x∈[p.i,p.o]->x∈jU s:=λx hx=>Zy _ (aaz.mpr ⟨p,hp,hx⟩);exact⟨.inr ((hm _).mpr (this _ (by simp))),.inr ((hm _).mpr (this _ (by simp)))⟩
 ·unfold GF;have:∀l:List Pc,(l.map λp=>if p.at t=true then((if p.i<0 then 1 else 0)-(if p.o<0 then 1 else 0):Int)else 0).sum=0:=λl=>by
   induction l with
   |nil=>rfl|cons p l ih=>rw[ZD,Z8,ih];simp
  exact(this s).symm
theorem CZ{s:List Pc}{x:Nat}(hx:x∈edges s):x<=1000:=by
 unfold edges at hx;have:=aab.mp (aaE.mp hx).1;omega
theorem Qw{s:List Pc}:∀q∈bj (edges s),q.1<=1000/\q.2<=1000:=λq hq=>by
 have:=acy hq;exact⟨CZ this.1,CZ (List.mem_of_mem_tail this.2)⟩
def d8(s:List Pc):List Int:=nW s (List.replicate (s.length+1) 0) (bj (edges s))
theorem j9{s:List Pc}(h:∀p∈s,p.ok)(hl:s.length<=1000)(he:(edges s).length<64):eX [aQ s]=some (.tup ((d8 s).tail.map D.int)):=by
 have hbl:(bj (edges s)).length<=1000:=by unfold bj;simp;omega
 obtain⟨y3,y4,y5,e⟩:=wu s (aQ s) (.lst ((bj (edges s)).map aG)) (bj (edges s)) (List.replicate (s.length+1) 0) none none none (by simp) Qw;refine bZ rfl ?_;show iR [some (aQ s),none,none,none,none,none,none,none,none,none,none,none]=_;unfold iR;have e0:jT 6 1 (vU (gD (aj (eC (.int 0)) az)) (aK bO (au fB (aj (ak 0) az)) (eC (.int 1)))) [some (aQ s),none,none,none,none,none,none,none,none,none,none,none]=
  some (.nx [some (aQ s),none,none,none,none,none,none,some (.lst ((List.replicate (s.length+1) (0:Int)).map D.int)),none,none,none,none]):=by
  have er:vU (gD (aj (eC (.int 0)) az)) (aK bO (au fB (aj (ak 0) az)) (eC (.int 1))) [some (aQ s),none,none,none,none,none,none,none,none,none,none,none]=some (.lst ((List.replicate (s.length+1) (0:Int)).map D.int)):=by
   have e1:aK bO (au fB (aj (ak 0) az)) (eC (.int 1)) [some (aQ s),none,none,none,none,none,none,none,none,none,none,none]=some (.int ((s.length+1:Nat):Int)):=by
    rw[bu (x:=.int (s.length:Nat)) (y:=.int 1) ((aM (x:=aQ s) rfl).trans (by unfold aQ fB;simp)) rfl];simp[bO]
   refine(Vd (ds:=[.int 0]) rfl e1 ⟨by omega,by omega,?_⟩).trans ?_
   ·rw[aax];simp;omega
   rw[aax];have:∀n,(List.replicate n [D.int 0]).flatten=(List.replicate n (0:Int)).map D.int:=λn=>by
    induction n with
    |zero=>rfl|succ n ih=>rw[abd,abN,ih,abd,ZD];rfl
   rw[this]
  unfold jT;rw[er];rfl
 rw[aO e0];rw[aO (bI (δ':=[some (aQ s),none,some (.lst ((bj (edges s)).map aG)),none,none,none,none,some (.lst ((List.replicate (s.length+1) (0:Int)).map D.int)),none,none,none,none]) ((aM ((aM (x:=aQ s) rfl).trans (oE h hl he))).trans (uv (by omega))) rfl)];have hz:wN (ak 2) (au bW (aj (ak 0) (aj (ak 2) az))) [some (aQ s),none,some (.lst ((bj (edges s)).map aG)),none,none,none,none,some (.lst ((List.replicate (s.length+1) (0:Int)).map D.int)),none,none,none,none]=
  some ((bj (edges s)).map λq=>.tup [aG q,bL (aX s q.1)]):=by
  unfold wN;rw[bF (x:=aQ s) (y:=.lst ((bj (edges s)).map aG)) rfl rfl,uX h (by omega) hbl,Fb h,show ak 2 [some (aQ s),none,some (.lst ((bj (edges s)).map aG)),none,none,none,none,some (.lst ((List.replicate (s.length+1) (0:Int)).map D.int)),none,none,none,none]=some (.lst ((bj (edges s)).map aG))from rfl];simp only[Z0];unfold gB;rw[aai,List.zip_map,zY,aai,aai];rfl
 rw[aO ((dj hz).trans e)];show bN _ [some (aQ s),some (.lst ((d8 s).map D.int)),_,y3,y4,y5,none,none,none,none,none,none]=_;refine bQ ((aM (x:=.lst (((d8 s).map D.int).drop 1)) ((wY (f:=Am 1) (x:=.lst ((d8 s).map D.int)) rfl).trans rfl)).trans ?_);show some (D.tup (((d8 s).map D.int).drop 1))=_;rw[<-List.map_drop,List.drop_one]
def cnt(s:List Pc)(r k:Nat):Nat:=(aX s r).count (k:Int)
theorem mL(s:List Pc):∀(qs:List (Nat×Nat))(hs:List Int),(nW s hs qs).length=hs.length
 |[],_=>rfl|q::qs,hs=>by rw[nU,mL s qs,d9]
theorem p8(s:List Pc)(k:Nat):∀(qs:List (Nat×Nat))(hs:List Int),hs.length=s.length+1->(nW s hs qs).getD k 0=hs.getD k 0+(qs.map λq=>ar q*(cnt s q.1 k:Int)).sum
 |[],hs,_=>by simp[nW]|q::qs,hs,hl=>by
   rw[nU,p8 s k qs _ (by rw[d9,hl]),qd (ar q) _ _ k λz hz=>by have:=xY z hz;omega,ZD,Z8];unfold cnt;omega
theorem Dj{s:List Pc}{a r:Nat}(h:∀p∈s,(p.i<=r↔p.i<=a)/\(r<p.o↔a<p.o))(t:Nat):dep s r t=dep s a t:=by
 unfold dep;refine List.countP_congr λp hp=>?_;obtain⟨h1,h2⟩:=h p hp;unfold Pc.has;simp only[aac,Z7,h1,h2]
theorem MK{s:List Pc}{a r:Nat}(h:∀p∈s,(p.i<=r↔p.i<=a)/\(r<p.o↔a<p.o)):aX s r=aX s a:=tW λt _=>by rw[Dj h t]
theorem Di{s:List Pc}{r:Nat}(h:∀p∈s,p.o<=r)(t:Nat):dep s r t=0:=by
 unfold dep;rw[abU];intro p hp;have:=h p hp;unfold Pc.has;have h2:decide (r<p.o)=false:=by simp;omega
 simp[h2]
theorem Qm{s:List Pc}{r k:Nat}(h:∀p∈s,p.o<=r)(hk:1<=k):cnt s r k=0:=by
 unfold cnt aX rowOf;rw[List.count_eq_zero];intro hm;obtain⟨t,_,e⟩:=Z5.mp hm;rw[Di h t]at e;omega
theorem Ms(c:Int):∀(n e:Nat),((List.range' e n).map λ(r:Nat)=>(2*(r:Int)+1)*c).sum=(((e+n:Nat):Int)*(e+n:Nat)-(e:Int)*e)*c
 |0,e=>by simp|n+1,e=>by
   rw[acn,ZD,Z8,Ms c n (e+1)];have h1:(((e+1+n:Nat):Int))=(e:Int)+1+n:=by omega
   have h2:(((e+(n+1):Nat):Int))=(e:Int)+1+n:=by omega
   have h3:(((e+1:Nat):Int))=(e:Int)+1:=by omega
   rw[h1,h2,h3];have:((e:Int)+1)*((e:Int)+1)=(e:Int)*e+2*e+1:=by rw[afg,ad8];omega
   rw[this,<-afg];congr 1;omega
theorem WM{s:List Pc}(h:∀p∈s,p.i<p.o){k:Nat}(hk:1<=k)(R:Nat):∀(es:List Nat)(e:Nat),(e::es).Pairwise (·<·)->Left s e es->(∀x∈e::es,x<=R)->
 (((e::es).zip es).map λq=>ar q*(cnt s q.1 k:Int)).sum=((List.range' e (R-e)).map λ(r:Nat)=>(2*(r:Int)+1)*(cnt s r k:Int)).sum
 |[],e,_,hL,hR=>by
   have:∀l:List Nat,(∀r∈l,e<=r)->(l.map λ(r:Nat)=>(2*(r:Int)+1)*(cnt s r k:Int)).sum=0:=λl hl=>by
    induction l with
    |nil=>rfl|cons r l ih=>
      rw[ZD,Z8,ih λx hx=>hl x (Zy _ hx),Qm (λp hp=>?_) hk]
      ·simp
      ·have:=hl r ZF;rcases(hL p hp).2 with z|z
       ·omega
       ·rw[ZW]at z;omega
   rw[this _ λr hr=>by rw[adi]at hr;exact hr.1];rfl
 |e'::es,e,hs,hL,hR=>by
   have hlt:e<e':=(aaO.mp hs).1 e' ZF;have hR':=hR e' (by simp);have split:List.range' e (R-e)=List.range' e (e'-e)++List.range' e' (R-e'):=by
    have:=List.range'_append_1 (s:=e) (m:=e'-e) (n:=R-e');rw[show e+(e'-e)=e' by omega,show(e'-e)+(R-e')=R-e by omega]at this;exact this.symm
   rw[aaw,ZD,Z8,WM h hk R es e' (aaO.mp hs).2 (hL.next hs) λx hx=>hR x (Zy _ hx),split,aaf,abR];congr 1;have hc:(List.range' e (e'-e)).map (λ(r:Nat)=>(2*(r:Int)+1)*(cnt s r k:Int))=(List.range' e (e'-e)).map λ(r:Nat)=>(2*(r:Int)+1)*(cnt s e k:Int):=by
    refine aaD λr hr=>?_;rw[adi]at hr;have:cnt s r k=cnt s e k:=by
     unfold cnt;rw[MK λp hp=>?_];obtain⟨h1,h2⟩:=hL.iff hs p hp;have:=h p hp;omega
    rw[this]
   rw[hc,Ms,show e+(e'-e)=e' by omega];rfl
def da(s:List Pc)(R k:Nat):Int:=((List.range R).map λ(r:Nat)=>(2*(r:Int)+1)*(cnt s r k:Int)).sum
theorem Qx{s:List Pc}(h:∀p∈s,p.ok){R:Nat}(hR:∀p∈s,p.o<=R):(d8 s).tail=(List.range s.length).map λk=>da s R (k+1):=by
 have hlen:(d8 s).length=s.length+1:=by unfold d8;rw[mL];simp
 refine acM (by simp[hlen]) λk h1 h2=>?_;have hk:k<s.length:=by simpa using h2
 obtain⟨es,e⟩:=dZ s;have hs:=bA s;have hm:=cL h;have g:(d8 s).getD (k+1) 0=da s R (k+1):=by
  unfold d8 da bj;rw[p8 s (k+1) _ _ (by simp)];rw[e]at hs hm ⊢;have hL:Left s 0 es:=λp hp=>by
   have:∀x,x∈[p.i,p.o]->x∈jU s:=λx hx=>Zy _ (aaz.mpr ⟨p,hp,hx⟩);exact⟨.inr ((hm _).mpr (this _ (by simp))),.inr ((hm _).mpr (this _ (by simp)))⟩
  have hle:∀x∈0::es,x<=R:=λx hx=>by
   have:=(hm x).mp hx;unfold jU at this;rcases ZP.mp this with rfl|z
   ·omega
   ·obtain⟨p,hp,hx⟩:=aaz.mp z;have h1:=hR p hp;have h2:=(h p hp).1;simp only[ZP,aao,abz]at hx;omega
  have:=WM (λp hp=>(h p hp).1) (k:=k+1) (by omega) R es 0 hs hL hle;rw[List.tail_cons,this,Nat.sub_zero,<-acg];simp[Z3,aa6];split<;>simp
 rw[List.getElem_tail,List.getElem_map,List.getElem_range,<-g];simp[hlen,hk]
theorem Rx{s:List Pc}(h:∀p∈s,p.ok)(hl:s.length<=1000)(he:(edges s).length<64){R:Nat}(hR:∀p∈s,p.o<=R):eX [aQ s]=some (.tup ((List.range s.length).map λk=>.int (da s R (k+1)))):=by
 rw[j9 h hl he,Qx h hR,aai];rfl
theorem pN:∀(l:List Nat)(lo hi:Nat),l.Pairwise (·<·)->(∀x∈l,lo<=x/\x<hi)->l.length<=hi-lo
 |[],_,_,_,_=>aap _|a::l,lo,hi,h,hx=>by
   obtain⟨h1,h2⟩:=aaO.mp h;have:=pN l (a+1) hi h2 λx hm=>⟨h1 x hm,(hx x (Zy _ hm)).2⟩;have:=hx a ZF;rw[Z2];omega
theorem iC{s:List Pc}(h:∀p∈s,p.ok){R:Nat}(hR:∀p∈s,p.o<=R):(edges s).length<=R+1:=by
 have h1:∀x∈edges s,x<R+1:=λx hx=>by
  have:=(cL h x).mp hx;unfold jU at this;rcases ZP.mp this with rfl|z
  ·omega
  ·obtain⟨p,hp,hx⟩:=aaz.mp z;have h1:=hR p hp;have h2:=(h p hp).1;simp only[ZP,aao,abz]at hx;omega
 have:=pN (edges s) 0 (R+1) (bA s) λx hx=>⟨aap _,h1 x hx⟩;omega
end DL.Pg
namespace DL.Lw
open PySem DL DL.Pg
noncomputable def gQ(c p m:Int):Int:=c*48271%p%m
theorem uY{c p m:Int}(hp:0<p)(hm:0<m):bT [.int c,.int p,.int m]=some (.int (gQ c p m)):=by
 simp[bT,iM,p7,bN,aK,ak,slot,eC,oMod,oI,cA,small,hp,hm,gQ]
theorem dC{c p m:Int}(hm:0<m):0<=gQ c p m/\gQ c p m<m:=⟨Int.emod_nonneg _ (by omega),Int.emod_lt_of_pos _ hm⟩
def yZ(c M:Int):Pc:=⟨(gQ c 9973 M).toNat,(gQ c 9973 M+1+gQ c 9967 (M-gQ c 9973 M)).toNat,(gQ c 9941 24).toNat,(if c%4=0 then 24 else 1+gQ c 9949 24).toNat⟩
theorem Xe(c M:Int)(h1:1<=M)(h9:M<=999):(yZ c M).ok/\((yZ c M).o:Int)<=M:=by
 have q1:=dC (c:=c) (p:=9973) (m:=M) (by omega);have q2:=dC (c:=c) (p:=9967) (m:=M-gQ c 9973 M) (by omega);have q3:=dC (c:=c) (p:=9941) (m:=24) (by decide);have q4:=dC (c:=c) (p:=9949) (m:=24) (by decide);unfold Pc.ok yZ;simp only;refine⟨⟨by omega,by omega,by omega,?_,?_⟩,by omega⟩<;>(split<;>omega)
theorem YC(c M:Int)(h1:1<=M):pD (yZ c M)=.tup [.int (gQ c 9973 M),.int (gQ c 9973 M+1+gQ c 9967 (M-gQ c 9973 M)),.int (gQ c 9941 24),.int (if c%4=0 then 24 else 1+gQ c 9949 24)]:=by
 have q1:=dC (c:=c) (p:=9973) (m:=M) (by omega);have q2:=dC (c:=c) (p:=9967) (m:=M-gQ c 9973 M) (by omega);have q3:=dC (c:=c) (p:=9941) (m:=24) (by decide);have q4:=dC (c:=c) (p:=9949) (m:=24) (by decide);unfold pD yZ;simp only;rw[abC q1.1,abC q3.1,abC (by omega),abC (by split<;>omega)]
theorem Rq(c M:Int)(h1:1<=M):fU [.int c,.int M]=some (pD (yZ c M)):=by
 have q1:=dC (c:=c) (p:=9973) (m:=M) (by omega);have e1:bT [.int c,.int 9973,.int M]=some (.int (gQ c 9973 M)):=uY (by decide) (by omega);have e2:bT [.int c,.int 9967,.int (M-gQ c 9973 M)]=some (.int (gQ c 9967 (M-gQ c 9973 M))):=uY (by decide) (by omega);have e3:bT [.int c,.int 9941,.int 24]=some (.int (gQ c 9941 24)):=uY (by decide) (by decide);have e4:bT [.int c,.int 9949,.int 24]=some (.int (gQ c 9949 24)):=uY (by decide) (by decide);rw[YC c M h1];by_cases h:c%4=0
 ·simp[fU,iM,jB,bw,cB,m6,bN,aK,ak,slot,eC,au,aj,az,gN,bO,iW,oI,oMod,oEq,bY,dW,tV,truth,gC,dw,e1,e2,e3,e4,h]
 ·simp[fU,iM,jB,bw,cB,m6,bN,aK,ak,slot,eC,au,aj,az,gN,bO,iW,oI,oMod,oEq,bY,dW,tV,truth,gC,dw,e1,e2,e3,e4,h]
def pf(c M:Int):D->D
 |.int k=>pD (yZ (c+11*k) M)|d=>d
def U6(c M:Int)(n:Nat):List Pc:=(List.range (gQ c 9931 (n+1)).toNat).map λ(k:Nat)=>yZ (c+11*(k:Int)) M
theorem T7(c M:Int)(n:Nat)(h1:1<=M)(h9:M<=999):(U6 c M n).length<=n/\∀p∈U6 c M n,p.ok/\(p.o:Int)<=M:=by
 have q:=dC (c:=c) (p:=9931) (m:=(n:Int)+1) (by omega);unfold U6;refine⟨by rw[ZK,abA];omega,λp hp=>?_⟩;obtain⟨k,_,rfl⟩:=Z5.mp hp;exact Xe _ _ h1 h9
theorem Hu(c M:Int)(n:Nat)(h1:1<=M)(hn:n<=1000):ju [.int c,.int M,.int n]=some (aQ (U6 c M n)):=by
 have hm:=dC (c:=c) (p:=9931) (m:=(n:Int)+1) (by omega);have e1:bT [.int c,.int 9931,.int ((n:Int)+1)]=some (.int (gQ c 9931 ((n:Int)+1))):=uY (by decide) (by omega);have hi:dR (au bT (aj (ak 0) (aj (eC (.int 9931)) (aj (aK bO (ak 2) (eC (.int 1))) az)))) [some (.int c),some (.int M),some (.int (n:Int))]=some (dN (gQ c 9931 ((n:Int)+1)).toNat):=
  Bo ((nQ (x:=.int c) (y:=.int 9931) (z:=.int ((n:Int)+1)) rfl rfl rfl).trans e1) ⟨by omega,by omega⟩
 have hc:=cR (k:=1) (fv:=[1,0]) (g:=gN 0) (c:=tT) (e:=au fU (aj (aK bO (ak 2) (aK cA (eC (.int 11)) (ak 0))) (aj (ak 1) az))) (λx=>some (pf c M x)) hi (by simp[dN];omega) λx hx=>by
  obtain⟨k,_,rfl⟩:=su hx;refine⟨[some (.int k),some (.int M),some (.int c)],rfl,.inl ⟨rfl,pD (yZ (c+11*k) M),?_,rfl⟩⟩;have em:∀k:Int,cA (.int 11) (.int k)=some (.int (11*k)):=λk=>by simp[cA,small]
  exact(bF (x:=.int (c+11*k)) (y:=.int M) ((bu (x:=.int c) (y:=.int (11*k)) rfl ((bu (x:=.int 11) (y:=.int k) rfl rfl).trans (em _))).trans rfl) rfl).trans (Rq _ _ h1)
 refine bZ rfl (bQ ((aM hc).trans ?_));rw[aaQ];simp[dJ,dN,U6,aQ,pf,Function.comp_def]
def sm(i:Int):Prop := -1000000<i/\i<1000000
theorem qu{i:Int}(h:sm i):small i=true:=by
 unfold small sm at *;simp only[aac,Z7];omega
noncomputable def Sw(i o b w u l v k:Int):Bool:=decide (i*l<=u/\u<o*l)&&decide ((v-b*k)%(24*k)<w*k)
theorem dG{i j:Int}(h:small i=true):cA (.int i) (.int j)=some (.int (i*j)):=by simp[cA,h]
theorem Fl{i o b w u l v k:Int}(hi:sm i)(ho:sm o)(hb:sm b)(hw:sm w)(hk:0<k):iB [.tup [.int i,.int o,.int b,.int w],.tup [.int u,.int l],.tup [.int v,.int k]]=some (.bl (Sw i o b w u l v k)):=by
 have em1:cA (.int i) (.int l)=some (.int (i*l)):=dG (qu hi);have em2:cA (.int o) (.int l)=some (.int (o*l)):=dG (qu ho);have em3:cA (.int b) (.int k)=some (.int (b*k)):=dG (qu hb);have em4:cA (.int 24) (.int k)=some (.int (24*k)):=dG (by decide);have em5:cA (.int w) (.int k)=some (.int (w*k)):=dG (qu hw);refine bZ rfl ?_;show mK [some (.tup [.int i,.int o,.int b,.int w]),some (.tup [.int u,.int l]),some (.tup [.int v,.int k]),none,none,none,none]=_;unfold mK;rw[aO (bI (d:=.tup [.int i,.int o,.int b,.int w]) (δ':=[some (.tup [.int i,.int o,.int b,.int w]),some (.tup [.int u,.int l]),some (.tup [.int v,.int k]),some (.int i),some (.int o),some (.int b),some (.int w)]) rfl rfl)];have t0:Q8 (tV (aK oLt (aK cz (ak 1) (eC (.int 0))) (aK cA (ak 3) (aK cz (ak 1) (eC (.int 1)))))) (tV (aK Yg (aK cz (ak 1) (eC (.int 0))) (aK cA (ak 4) (aK cz (ak 1) (eC (.int 1))))))
  [some (.tup [.int i,.int o,.int b,.int w]),some (.tup [.int u,.int l]),some (.tup [.int v,.int k]),some (.int i),some (.int o),some (.int b),some (.int w)]=some (decide (u<i*l)||decide (o*l<=u)):=by
  refine Em (gM (d:=.bl _) ((bu (x:=.int u) (y:=.int (i*l)) rfl ((bu (x:=.int i) (y:=.int l) rfl rfl).trans em1)).trans rfl) rfl) (gM (d:=.bl _) ((bu (x:=.int u) (y:=.int (o*l)) rfl ((bu (x:=.int o) (y:=.int l) rfl rfl).trans em2)).trans rfl) rfl)
 by_cases h:(i*l<=u/\u<o*l)
 ·have:(decide (u<i*l)||decide (o*l<=u))=false:=by simp;omega
  rw[this]at t0;rw[aO ((Gh t0).trans rfl)];refine bQ ?_;have hk2:0<24*k:=by omega
  simp[aK,ak,slot,cz,uz,eC,em3,em4,em5,iW,oI,oMod,hk2,hk,oLt];unfold Sw;simp[h]
 ·have:(decide (u<i*l)||decide (o*l<=u))=true:=by simp;omega
  rw[this]at t0;rw[uM ((KC t0).trans (bQ rfl))];unfold Sw;simp[h]
theorem J4{p:Pc}(h:p.ok){r t:Nat}(ht:t<24):iB [pD p,.tup [.int (2*(r:Int)+1),.int 2],.tup [.int (2*(t:Int)+1),.int 2]]=some (.bl (p.has r t)):=by
 obtain⟨h1,h2,h3,h4,h5⟩:=h;have e:=Fl (i:=p.i) (o:=p.o) (b:=p.b) (w:=p.w) (u:=2*(r:Int)+1) (l:=2) (v:=2*(t:Int)+1) (k:=2) ⟨by omega,by omega⟩ ⟨by omega,by omega⟩ ⟨by omega,by omega⟩ ⟨by omega,by omega⟩ (by decide);unfold pD;rw[e];refine aaS (λb=>some (D.bl b)) ?_;unfold Sw Pc.has Pc.at;rw[aau];simp only[aac,Z7];omega
def dg:Nat->List Pc->Nat->Nat->List Nat
 |_,[],_,_=>[]|k,p::s,r,t=>if p.has r t=true then k::dg (k+1) s r t else dg (k+1) s r t
noncomputable def Ut(r t:Nat):D:=.tup [.tup [.int (2*(r:Int)+1),.int 2],.tup [.int (2*(t:Int)+1),.int 2]]
noncomputable def NQ:D->Pc
 |.tup [.int i,.int o,.int b,.int w]=>⟨i.toNat,o.toNat,b.toNat,w.toNat⟩|_=>⟨0,0,0,0⟩
def lf(r t:Nat):D->Option D
 |.tup [.int j,d]=>if(NQ d).has r t=true then some (.int j)else none
 |_=>none
theorem Uk(r t:Nat)(j:Int)(p:Pc):lf r t (.tup [.int j,pD p])=if p.has r t=true then some (.int j)else none:=rfl
theorem vQ:∀(ds:List D)(k:Nat),(cG k ds).length=ds.length
 |[],_=>rfl|_::r,k=>by simp[cG,vQ r (k+1)]
theorem CV:∀{s:List Pc}{k:Nat}{x:D},x∈cG k (s.map pD)->∃(i:Nat)(p:Pc),s[i]? = some p/\x=.tup [.int ((k+i:Nat):Int),pD p]
 |[],_,_,h=>by cases h|p::s,k,x,h=>by
   rw[ZD,cG]at h;rcases ZP.mp h with rfl|h
   ·exact⟨0,p,rfl,rfl⟩
   ·obtain⟨i,p',h1,h2⟩:=CV h;refine⟨i+1,p',by simpa using h1,?_⟩;rw[h2,show k+1+i=k+(i+1)by omega]
theorem Oh(r t:Nat):∀(s:List Pc)(k:Nat),(cG k (s.map pD)).filterMap (lf r t)=aC (dg k s r t)
 |[],_=>rfl|p::s,k=>by
   rw[ZD,cG,aaJ,Uk,dg,Oh r t s (k+1)];cases p.has r t<;>rfl
theorem yQ{s:List Pc}(h:∀p∈s,p.ok)(hl:s.length<=1000)(r:Nat){t:Nat}(ht:t<24):iK [aQ s,Ut r t]=some (.tup (aC (dg 0 s r t))):=by
 have hc:=cR (k:=2) (fv:=[1]) (i:=rD (ak 0)) (g:=gT (aP (gN 0) (aP (gN 1) dB))) (c:=tV (au iB (aj (ak 1) (aj (aK cz (ak 2) (eC (.int 0))) (aj (aK cz (ak 2) (eC (.int 1))) az))))) (e:=ak 0) (δ:=[some (aQ s),some (Ut r t)]) (xs:=cG 0 (s.map pD)) (lf r t) rfl (by rw[vQ];simp;omega) λx hx=>by
  obtain⟨i,p,hp,rfl⟩:=CV hx;refine⟨[some (.int ((0+i:Nat):Int)),some (pD p),some (Ut r t)],rfl,?_⟩;have ht':tV (au iB (aj (ak 1) (aj (aK cz (ak 2) (eC (.int 0))) (aj (aK cz (ak 2) (eC (.int 1))) az)))) [some (.int ((0+i:Nat):Int)),some (pD p),some (Ut r t)]=some (p.has r t):=
   gM ((nQ (x:=pD p) (y:=.tup [.int (2*(r:Int)+1),.int 2]) (z:=.tup [.int (2*(t:Int)+1),.int 2]) rfl rfl rfl).trans (J4 (h p (aaY hp)) ht)) rfl
  rw[ht',Uk];cases p.has r t with
  |true=>exact .inl ⟨rfl,_,rfl,rfl⟩|false=>exact .inr ⟨rfl,rfl⟩
 refine bZ rfl (bQ ((aM hc).trans ?_));rw[Oh];rfl
noncomputable def cells(R:Nat):List (Nat×Nat):=(List.range (R+1)).flatMap λr=>(List.range 24).map λt=>(r,t)
def lJ(s:List Pc)(c:Nat×Nat):D:=.tup (aC (dg 0 s c.1 c.2))
theorem gf:∀(s:List Pc)(k r t:Nat),(dg k s r t).length=dep s r t
 |[],_,_,_=>rfl|p::s,k,r,t=>by
   unfold dg dep;rw[abl];have:=gf s (k+1) r t;unfold dep at this;cases p.has r t<;>simp[this]
theorem zA(a b:Nat×Nat):dW (aG a) (aG b)=decide (a=b):=by
 unfold aG;simp only[dW,il,adw];rw[aau];obtain⟨a1,a2⟩:=a;obtain⟨b1,b2⟩:=b;simp;omega
theorem Cr(a:Nat×Nat):sY (aG a)=true:=rfl
theorem jV{a b:ME}{δ:Ev}{x y:D}(ha:a δ=some x)(hb:b δ=some y):dw (aj a (aj b az)) δ=some (.tup [x,y]):=by
 unfold dw aj az;rw[ha,hb];rfl
theorem Ds{s:List Pc}(h:∀p∈s,p.ok)(hl:s.length<=1000)(R r:Nat):∀(ts:List Nat)(L:List (Nat×Nat))(x4:Option D),(∀t∈ts,t<24)->ts.Nodup->(∀t∈ts,(r,t)∉L)->L.length+ts.length<=1000->∃y4,
 forM (gN 4) ie (aC ts) [some (aQ s),some (.int (R:Int)),none,some (.int r),x4,none,none,some (.dic true (L.map aG) (L.map (lJ s))),none,none]=
  some (.nx [some (aQ s),some (.int (R:Int)),none,some (.int r),y4,none,none,some (.dic true ((L++ts.map λt=>(r,t)).map aG) ((L++ts.map λt=>(r,t)).map (lJ s))),none,none])
 |[],L,x4,_,_,_,_=>⟨x4,by simp[aC,forM]⟩|t::ts,L,x4,h1,h2,h3,h4=>by
   have ht:=h1 t ZF;simp only[Z2]at h4;rw[aaK]at h2;have e:ie [some (aQ s),some (.int (R:Int)),none,some (.int r),some (.int t),none,none,some (.dic true (L.map aG) (L.map (lJ s))),none,none]=
    some (.nx [some (aQ s),some (.int (R:Int)),none,some (.int r),some (.int t),none,none,some (.dic true ((L++[(r,t)]).map aG) ((L++[(r,t)]).map (lJ s))),none,none]):=by
    have ek:dw (aj (ak 3) (aj (ak 4) az)) [some (aQ s),some (.int (R:Int)),none,some (.int r),some (.int t),none,none,some (.dic true (L.map aG) (L.map (lJ s))),none,none]=some (aG (r,t)):=rfl;have em:∀k:Int,cA (.int 2) (.int k)=some (.int (2*k)):=λk=>dG (by decide);have ea:∀{i:Nat}{k:Int}{δ:Ev},ak i δ=some (.int k)->aK bO (aK cA (eC (.int 2)) (ak i)) (eC (.int 1)) δ=some (.int (2*k+1)):=λ{i k δ} he=>(bu ((bu (x:=.int 2) rfl he).trans (em k)) rfl).trans rfl;have ev:au iK (aj (ak 0) (aj (dw (aj (dw (aj (aK bO (aK cA (eC (.int 2)) (ak 3)) (eC (.int 1))) (aj (eC (.int 2)) az))) (aj (dw (aj (aK bO (aK cA (eC (.int 2)) (ak 4)) (eC (.int 1))) (aj (eC (.int 2)) az))) az))) az)) [some (aQ s),some (.int (R:Int)),none,some (.int r),some (.int t),none,none,some (.dic true (L.map aG) (L.map (lJ s))),none,none]=some (lJ s (r,t)):=by
     refine(bF (x:=aQ s) (y:=Ut r t) rfl ?_).trans (yQ h hl r ht);exact jV (jV (ea (i:=3) (k:=r) rfl) rfl) (jV (ea (i:=4) (k:=t) rfl) rfl)
    unfold ie Mx;rw[ev];simp only[Z0];rw[ek];simp only[Z0];rw[show ownAt 5 2 [some (aQ s),some (.int (R:Int)),none,some (.int r),some (.int t),none,none,some (.dic true (L.map aG) (L.map (lJ s))),none,none]=some (.dic true (L.map aG) (L.map (lJ s)))from rfl];simp only;have hall:((L.map aG).all λq => !dW q (aG (r,t)))=true:=by
     rw[aaM];intro q hq;obtain⟨c,hc,rfl⟩:=Z5.mp hq;rw[zA];have:c≠(r,t):=λz=>h3 t ZF (z▸hc);simp[this]
    rw[ZZ ⟨Cr _,hall,by rw[ZK];omega⟩,aaf,aaf];rfl
   obtain⟨y4,ih⟩:=Ds h hl R r ts (L++[(r,t)]) (some (.int t)) (λx hx=>h1 x (Zy _ hx)) h2.2 (λx hx=>by
    rw[aar,ZW];rintro(z|z)
    ·exact h3 x (Zy _ hx) z
    ·cases z;exact h2.1 hx) (by simp;omega)
   refine⟨y4,?_⟩;have e0:aC (t::ts)=.int t::aC ts:=rfl;rw[e0,dU (δ1:=[some (aQ s),some (.int (R:Int)),none,some (.int r),some (.int t),none,none,some (.dic true (L.map aG) (L.map (lJ s))),none,none]) rfl e,ih,ZD];simp only[aa8,List.singleton_append]
theorem nodup_range(n:Nat):(List.range n).Nodup:=abJ
theorem yg{s:List Pc}(h:∀p∈s,p.ok)(hl:s.length<=1000)(R:Nat):∀(rs:List Nat)(L:List (Nat×Nat))(x3 x4:Option D),rs.Nodup->(∀c∈L,c.1∉rs)->L.length+24*rs.length<=900->∃y3 y4,
 forM (gN 3) jQ (aC rs) [some (aQ s),some (.int (R:Int)),none,x3,x4,none,none,some (.dic true (L.map aG) (L.map (lJ s))),none,none]=
  some (.nx [some (aQ s),some (.int (R:Int)),none,y3,y4,none,none,some (.dic true ((L++rs.flatMap λr=>(List.range 24).map λt=>(r,t)).map aG) ((L++rs.flatMap λr=>(List.range 24).map λt=>(r,t)).map (lJ s))),none,none])
 |[],L,x3,x4,_,_,_=>⟨x3,x4,by simp[aC,forM]⟩|r::rs,L,x3,x4,h1,h2,h3=>by
   rw[aaK]at h1;simp only[Z2]at h3;obtain⟨z4,e⟩:=Ds h hl R r (List.range 24) L x4 (λt ht=>aab.mp ht) (nodup_range 24) (λt ht z=>h2 _ z ZF) (by simp;omega);have eb:jQ [some (aQ s),some (.int (R:Int)),none,some (.int r),x4,none,none,some (.dic true (L.map aG) (L.map (lJ s))),none,none]=_:=(dj (i:=dR (eC (.int 24))) (xs:=aC (List.range 24)) rfl).trans e;obtain⟨y3,y4,ih⟩:=yg h hl R rs (L++(List.range 24).map λt=>(r,t)) (some (.int r)) z4 h1.2 (λc hc=>by
    rcases aar.mp hc with z|z
    ·exact λq=>h2 c z (Zy _ q)
    ·obtain⟨t,_,rfl⟩:=Z5.mp z;exact h1.1) (by simp;omega)
   refine⟨y3,y4,?_⟩;have e0:aC (r::rs)=.int r::aC rs:=rfl;rw[e0,dU (δ1:=[some (aQ s),some (.int (R:Int)),none,some (.int r),x4,none,none,some (.dic true (L.map aG) (L.map (lJ s))),none,none]) rfl eb,ih,abg,aa8]
def cellsD(s:List Pc)(R:Nat):D:=.dic true ((cells R).map aG) ((cells R).map (lJ s))
theorem nq{s:List Pc}(h:∀p∈s,p.ok)(hl:s.length<=1000){R:Nat}(hR:R<=30):gU [aQ s,.int R]=some (cellsD s R):=by
 obtain⟨y3,y4,e⟩:=yg h hl R (List.range (R+1)) [] none none (nodup_range _) (λc hc=>by cases hc) (by rw[abA,aba];omega);rw[aa4,aa4,acY]at e;refine bZ rfl ?_;show jC [some (aQ s),some (.int (R:Int)),none,none,none,none,none,none,none,none]=_;unfold jC;rw[aO (show jT 5 2 (eC (.dic true [] [])) _=some (.nx [some (aQ s),some (.int (R:Int)),none,none,none,none,none,some (.dic true [] []),none,none])from rfl)];have hi:dR (aK bO (ak 1) (eC (.int 1))) [some (aQ s),some (.int (R:Int)),none,none,none,none,none,some (.dic true [] []),none,none]=some (aC (List.range (R+1))):=by
  have e1:aK bO (ak 1) (eC (.int 1)) [some (aQ s),some (.int (R:Int)),none,none,none,none,none,some (.dic true [] []),none,none]=some (.int ((R+1:Nat):Int)):=by
   rw[Int.natCast_succ];rfl
  exact lg e1 (by omega)
 rw[aO ((dj hi).trans e)];rfl
end DL.Lw
namespace DL.Pg
open PySem DL DL.Lw
noncomputable def un(x y:Int):Bool:=(decide (x=0)) != (decide (y=0))
theorem QZ(x y k:Int)(x0 x1:Option D):eU [x0,x1,some (.int k),some (.tup [.int x,.int y])]=if un x y=true then some (.rt (.int k))else some (.nx [x0,x1,some (.int k),some (.tup [.int x,.int y])]):=by
 unfold eU;have e:∀z:Int,oEq (.int z) (.int 0)=some (.bl (decide (z=0))):=λz=>by
  unfold oEq;rw[ZZ (by simp[bY])];simp only[dW];congr 2
 have e2:∀a b:Bool,um (.bl a) (.bl b)=some (.bl (a != b)):=λa b=>by cases a<;>cases b<;>rfl
 have t0:tV (aK um (aK oEq (aK cz (ak 3) (eC (.int 0))) (eC (.int 0))) (aK oEq (aK cz (ak 3) (eC (.int 1))) (eC (.int 0)))) [x0,x1,some (.int k),some (.tup [.int x,.int y])]=some (un x y):=
  gM (d:=.bl (un x y)) ((bu ((bu (x:=.int x) (y:=.int 0) rfl rfl).trans (e x)) ((bu (x:=.int y) (y:=.int 0) rfl rfl).trans (e y))).trans (e2 _ _)) rfl
 cases h:un x y with
 |true=>rw[h]at t0;rw[KC t0];rfl|false=>rw[h]at t0;rw[Gh t0];rfl
theorem O9{g:MG}{body:MS}{x:D}{xs:List D}{δ δ1:Ev}{d:D}(h1:g x δ=some δ1)(h2:body δ1=some (.rt d)):forM g body (x::xs) δ=some (.rt d):=by
 rw[forM,h1];simp[h2]
theorem Hc(x0 x1:Option D)(f g:Nat->Int):∀(n k:Nat)(x2 x3:Option D),
 (∃y2 y3,forM (gT (aP (gN 2) (aP (gN 3) dB))) eU (cG k (gB ((List.range' k n).map λt=>.int (f t)) ((List.range' k n).map λt=>.int (g t)))) [x0,x1,x2,x3]=some (.nx [x0,x1,y2,y3])/\∀t,k<=t->t<k+n->un (f t) (g t)=false)\/
 ∃t,k<=t/\t<k+n/\un (f t) (g t)=true/\forM (gT (aP (gN 2) (aP (gN 3) dB))) eU (cG k (gB ((List.range' k n).map λt=>.int (f t)) ((List.range' k n).map λt=>.int (g t)))) [x0,x1,x2,x3]=some (.rt (.int t))
 |0,k,x2,x3=>.inl ⟨x2,x3,rfl,λt h1 h2=>by omega⟩|n+1,k,x2,x3=>by
   have es:cG k (gB ((List.range' k (n+1)).map λt=>.int (f t)) ((List.range' k (n+1)).map λt=>.int (g t)))=.tup [.int k,.tup [.int (f k),.int (g k)]]::cG (k+1) (gB ((List.range' (k+1) n).map λt=>.int (f t)) ((List.range' (k+1) n).map λt=>.int (g t))):=by
    rw[acn];rfl
   have st:=QZ (f k) (g k) k x0 x1;have hg:gT (aP (gN 2) (aP (gN 3) dB)) (.tup [.int k,.tup [.int (f k),.int (g k)]]) [x0,x1,x2,x3]=some [x0,x1,some (.int k),some (.tup [.int (f k),.int (g k)])]:=rfl;rw[es];cases h:un (f k) (g k)with
   |true=>
     rw[h,ZZ rfl]at st;exact .inr ⟨k,ZS _,by omega,h,O9 hg st⟩
   |false=>
     rw[h,aaa (by simp)]at st;rw[dU hg st];rcases Hc x0 x1 f g n (k+1) (some (.int k)) (some (.tup [.int (f k),.int (g k)]))with⟨y2,y3,e,a⟩|⟨t,h1,h2,h3,e⟩
     ·refine .inl ⟨y2,y3,e,λt t1 t2=>?_⟩;by_cases hk:t=k
      ·rw[hk];exact h
      ·exact a t (by omega) (by omega)
     ·exact .inr ⟨t,by omega,by omega,h3,e⟩
theorem wG(f g:Nat->Int):(iJ [bL (rowOf f),bL (rowOf g)]=some .non/\∀t,t<24->un (f t) (g t)=false)\/∃t,t<24/\un (f t) (g t)=true/\iJ [bL (rowOf f),bL (rowOf g)]=some (.int t):=by
 have hi:rC (ak 0) (ak 1) [some (bL (rowOf f)),some (bL (rowOf g)),none,none]=some (cG 0 (gB ((List.range' 0 24).map λt=>.int (f t)) ((List.range' 0 24).map λt=>.int (g t)))):=by
  have er:∀h:Nat->Int,bL (rowOf h)=.lst ((List.range' 0 24).map λt=>.int (h t)):=λh=>by
   unfold bL rowOf;rw[aai,acg];rfl
  unfold rC;rw[er,er,show ak 0 [some (.lst ((List.range' 0 24).map λt=>.int (f t))),some (.lst ((List.range' 0 24).map λt=>.int (g t))),none,none]=some (.lst ((List.range' 0 24).map λt=>.int (f t)))from rfl,
   show ak 1 [some (.lst ((List.range' 0 24).map λt=>.int (f t))),some (.lst ((List.range' 0 24).map λt=>.int (g t))),none,none]=some (.lst ((List.range' 0 24).map λt=>.int (g t)))from rfl]
  simp only[Z0];rw[ZZ (by rw[ZK,ZK])]
 rcases Hc (some (bL (rowOf f))) (some (bL (rowOf g))) f g 24 0 none none with⟨y2,y3,e,a⟩|⟨t,h1,h2,h3,e⟩
 ·refine .inl ⟨bZ rfl ?_,λt ht=>a t (aap _) (by omega)⟩;show eY [some (bL (rowOf f)),some (bL (rowOf g)),none,none]=_;unfold eY;rw[aO ((dj hi).trans e)];rfl
 ·refine .inr ⟨t,by omega,h3,bZ rfl ?_⟩;show eY [some (bL (rowOf f)),some (bL (rowOf g)),none,none]=_;unfold eY;exact uM ((dj hi).trans e)
theorem Ve(r t:Nat):jk [.int r,.int t]=some (Ut r t):=by
 have em:∀k:Int,cA (.int 2) (.int k)=some (.int (2*k)):=λk=>dG (by decide);have ea:∀{i:Nat}{k:Int}{δ:Ev},ak i δ=some (.int k)->aK bO (aK cA (eC (.int 2)) (ak i)) (eC (.int 1)) δ=some (.int (2*k+1)):=λ{i k δ} he=>(bu ((bu (x:=.int 2) rfl he).trans (em k)) rfl).trans rfl;refine bZ rfl ?_;show gn [some (.int r),some (.int t)]=_;unfold gn;exact bQ (jV (jV (ea (i:=0) (k:=r) rfl) rfl) (jV (ea (i:=1) (k:=t) rfl) rfl))
def df(s1 s2:List Pc)(r t:Nat):Bool:=un (dep s1 r t) (dep s2 r t)
def pF(s1 s2:List Pc)(q:Nat×Nat):D:=.tup [aG q,bL (aX s1 q.1),bL (aX s2 q.1)]
theorem Hf(s1 s2:List Pc)(x0 x1 x2:Option D):∀(qs:List (Nat×Nat))(x3 x4 x5 x6:Option D),
 (∃y3 y4 y5 y6,forM (gT (aP (gN 3) (aP (gN 4) (aP (gN 5) dB)))) iD (qs.map (pF s1 s2)) [x0,x1,x2,x3,x4,x5,x6]=some (.nx [x0,x1,x2,y3,y4,y5,y6])/\∀q∈qs,∀t,t<24->df s1 s2 q.1 t=false)\/
 ∃q∈qs,∃t,t<24/\df s1 s2 q.1 t=true/\forM (gT (aP (gN 3) (aP (gN 4) (aP (gN 5) dB)))) iD (qs.map (pF s1 s2)) [x0,x1,x2,x3,x4,x5,x6]=some (.rt (Ut q.1 t))
 |[],x3,x4,x5,x6=>.inl ⟨x3,x4,x5,x6,rfl,λq hq=>by cases hq⟩|q::qs,x3,x4,x5,x6=>by
   have hg:gT (aP (gN 3) (aP (gN 4) (aP (gN 5) dB))) (pF s1 s2 q) [x0,x1,x2,x3,x4,x5,x6]=some [x0,x1,x2,some (aG q),some (bL (aX s1 q.1)),some (bL (aX s2 q.1)),x6]:=rfl;rw[ZD];rcases wG (λt=>(dep s1 q.1 t:Int)) (λt=>(dep s2 q.1 t:Int))with⟨e,a⟩|⟨t,ht,h3,e⟩
   ·have eb:iD [x0,x1,x2,some (aG q),some (bL (aX s1 q.1)),some (bL (aX s2 q.1)),x6]=some (.nx [x0,x1,x2,some (aG q),some (bL (aX s1 q.1)),some (bL (aX s2 q.1)),some .non]):=by
     unfold iD;rw[aO (bI (d:=.non) (δ':=[x0,x1,x2,some (aG q),some (bL (aX s1 q.1)),some (bL (aX s2 q.1)),some .non]) ((bF (x:=bL (aX s1 q.1)) (y:=bL (aX s2 q.1)) rfl rfl).trans e) rfl)];rfl
    rw[dU hg eb];rcases Hf s1 s2 x0 x1 x2 qs (some (aG q)) (some (bL (aX s1 q.1))) (some (bL (aX s2 q.1))) (some .non)with⟨y3,y4,y5,y6,e',a'⟩|⟨q',hq',t,ht,h3,e'⟩
    ·refine .inl ⟨y3,y4,y5,y6,e',λp hp=>?_⟩;rcases ZP.mp hp with hp|hp
     ·rw[hp];exact a
     ·exact a' p hp
    ·exact .inr ⟨q',Zy _ hq',t,ht,h3,e'⟩
   ·refine .inr ⟨q,ZF,t,ht,h3,O9 hg ?_⟩;unfold iD;rw[aO (bI (d:=.int t) (δ':=[x0,x1,x2,some (aG q),some (bL (aX s1 q.1)),some (bL (aX s2 q.1)),some (.int t)]) ((bF (x:=bL (aX s1 q.1)) (y:=bL (aX s2 q.1)) rfl rfl).trans e) rfl)];rw[KC (show tV (rR ql (ak 6)) [x0,x1,x2,some (aG q),some (bL (aX s1 q.1)),some (bL (aX s2 q.1)),some (.int t)]=some true from rfl)];exact bQ ((bF (x:=.int q.1) (y:=.int t) rfl rfl).trans (Ve q.1 t))
theorem ut{s S:List Pc}(h:∀p∈S,p.ok)(hs:∀p∈s,p∈S):qH (tabOf s) (λ_=>0) (bj (edges S))=(bj (edges S)).map λq=>aX s q.1:=by
 obtain⟨es,e⟩:=dZ S;have hr:=bA S;have hm:=cL h;unfold bj;rw[e]at hr hm ⊢;refine uU (λp hp=>h p (hs p hp)) es 0 _ hr (λp hp=>?_) λt _=>?_
 ·have:∀x,x∈[p.i,p.o]->x∈jU S:=λx hx=>Zy _ (aaz.mpr ⟨p,hs p hp,hx⟩);exact⟨.inr ((hm _).mpr (this _ (by simp))),.inr ((hm _).mpr (this _ (by simp)))⟩
 ·unfold GF;have:∀l:List Pc,(l.map λp=>if p.at t=true then((if p.i<0 then 1 else 0)-(if p.o<0 then 1 else 0):Int)else 0).sum=0:=λl=>by
   induction l with
   |nil=>rfl|cons p l ih=>rw[ZD,Z8,ih];simp
  exact(this s).symm
theorem uF(s1 s2:List Pc):∀qs:List (Nat×Nat),oW (qs.map aG) ((qs.map λq=>aX s1 q.1).map bL) ((qs.map λq=>aX s2 q.1).map bL)=qs.map (pF s1 s2)
 |[]=>rfl|q::qs=>by
   have:=uF s1 s2 qs;unfold oW at this ⊢;simp only[ZD,aaw,this];rfl
theorem M6{s1 s2:List Pc}(h:∀p∈s1++s2,p.ok)(hl:(s1++s2).length<=1000)(he:(edges (s1++s2)).length<64):
 (iZ [aQ s1,aQ s2]=some .non/\∀q∈bj (edges (s1++s2)),∀t,t<24->df s1 s2 q.1 t=false)\/
 ∃q∈bj (edges (s1++s2)),∃t,t<24/\df s1 s2 q.1 t=true/\iZ [aQ s1,aQ s2]=some (Ut q.1 t):=by
 have h1:∀p∈s1,p∈s1++s2:=λp hp=>aaR _ hp;have h2:∀p∈s2,p∈s1++s2:=λp hp=>Z4 _ hp;have hll:=hl;rw[Z6]at hll;have hbl:(bj (edges (s1++s2))).length<=1000:=by unfold bj;simp;omega
 have eb:cB (au cD (aj (au cZ (aj (aK bO (ak 0) (ak 1)) az)) az)) (gN 2) [some (aQ s1),some (aQ s2),none,none,none,none,none]=
  some (.nx [some (aQ s1),some (aQ s2),some (.lst ((bj (edges (s1++s2))).map aG)),none,none,none,none]):=by
  refine bI ((aM ((aM (x:=aQ (s1++s2)) ((bu (x:=aQ s1) (y:=aQ s2) rfl rfl).trans ?_)).trans (oE h hl he))).trans (uv (by omega))) rfl;unfold aQ bO;simp only;rw[ZK,ZK,ZZ (by omega),aaf]
 have hz:vM (ak 2) (au bW (aj (ak 0) (aj (ak 2) az))) (au bW (aj (ak 1) (aj (ak 2) az))) [some (aQ s1),some (aQ s2),some (.lst ((bj (edges (s1++s2))).map aG)),none,none,none,none]=some ((bj (edges (s1++s2))).map (pF s1 s2)):=by
  unfold vM;rw[bF (x:=aQ s1) (y:=.lst ((bj (edges (s1++s2))).map aG)) rfl rfl,bF (x:=aQ s2) (y:=.lst ((bj (edges (s1++s2))).map aG)) rfl rfl,uX (λp hp=>h p (h1 p hp)) (by omega) hbl,uX (λp hp=>h p (h2 p hp)) (by omega) hbl,ut h h1,ut h h2,
   show ak 2 [some (aQ s1),some (aQ s2),some (.lst ((bj (edges (s1++s2))).map aG)),none,none,none,none]=some (.lst ((bj (edges (s1++s2))).map aG))from rfl]
  simp only[Z0];rw[ZZ (by simp),uF]
 rcases Hf s1 s2 (some (aQ s1)) (some (aQ s2)) (some (.lst ((bj (edges (s1++s2))).map aG))) (bj (edges (s1++s2))) none none none none with⟨y3,y4,y5,y6,e,a⟩|⟨q,hq,t,ht,h3,e⟩
 ·refine .inl ⟨bZ rfl ?_,a⟩;show lH [some (aQ s1),some (aQ s2),none,none,none,none,none]=_;unfold lH;rw[aO eb,aO ((dj hz).trans e)];rfl
 ·refine .inr ⟨q,hq,t,ht,h3,bZ rfl ?_⟩;show lH [some (aQ s1),some (aQ s2),none,none,none,none,none]=_;unfold lH;rw[aO eb];exact uM ((dj hz).trans e)
end DL.Pg
namespace DL.K09
open PySem DL DL.Pg DL.Lw
noncomputable def eN(f:Nat->Bool):List D:=(List.range 24).map λt=>D.bl (f t)
noncomputable def rl(f:Nat->Bool)(b:Nat):Nat->Nat->Nat
 |0,j=>j|n+1,j=>if f ((b+j)%24)=true then rl f b n (j+1)else j
theorem Ua(f:Nat->Bool)(b:Nat):∀n j i,j<=i->i<rl f b n j->f ((b+i)%24)=true
 |0,j,i,h1,h2=>by rw[rl]at h2;omega|n+1,j,i,h1,h2=>by
   rw[rl]at h2;split at h2
   ·rename_i hf;by_cases h:i=j
    ·rw[h];exact hf
    ·exact Ua f b n (j+1) i (by omega) h2
   ·omega
theorem MP(f:Nat->Bool)(b:Nat):∀n j,(∃i,j<=i/\i<j+n/\f ((b+i)%24)=false)->f ((b+rl f b n j)%24)=false/\rl f b n j<j+n
 |0,j,⟨i,h1,h2,_⟩=>by omega|n+1,j,⟨i,h1,h2,h3⟩=>by
   rw[rl];split
   ·rename_i hf;have hij:i≠j:=λz=>by rw[z,hf]at h3;cases h3
    have:=MP f b n (j+1) ⟨i,by omega,by omega,h3⟩;exact⟨this.1,by omega⟩
   ·rename_i hf;exact⟨by simpa using hf,by omega⟩
def wd(f:Nat->Bool)(b:Nat):Nat:=rl f b 24 0
theorem uV(f:Nat->Bool){t:Nat}(h:t<24):(eN f)[t]? = some (.bl (f t)):=by
 unfold eN;rw[aad,acS h];rfl
theorem yN(f:Nat->Bool):(eN f).length=24:=by simp[eN]
theorem VG(f:Nat->Bool){t:Nat}(h:t<24):cz (.lst (eN f)) (.int (t:Int))=some (.bl (f t)):=by
 show(uz (eN f).length (t:Int)).bind (λj=>(eN f)[j]?)=_;rw[yN];unfold uz;rw[ZZ (by omega),ZZ (by omega),aax];exact uV f h
theorem Bh(f:Nat->Bool)(b:Nat):∀m j,(∀i,i<m->f ((b+(j+i))%24)=true)->f ((b+(j+m))%24)=false->
 wB (tV (aK cz (ak 0) (aK oMod (aK bO (ak 1) (ak 2)) (eC (.int 24))))) mD (m+1) [some (.lst (eN f)),some (.int (b:Int)),some (.int (j:Int))]=some (.nx [some (.lst (eN f)),some (.int (b:Int)),some (.int ((j+m:Nat):Int))])
 |m,j,h1,h2=>by
   have ev:tV (aK cz (ak 0) (aK oMod (aK bO (ak 1) (ak 2)) (eC (.int 24)))) [some (.lst (eN f)),some (.int (b:Int)),some (.int (j:Int))]=some (f ((b+j)%24)):=by
    refine gM (d:=.bl (f ((b+j)%24))) ((bu (x:=.lst (eN f)) (y:=.int (((b+j)%24:Nat):Int)) rfl ?_).trans (VG f (aaq _ (by decide)))) rfl;show some (D.int (((b:Int)+(j:Int))%24))=_;congr 2
   cases m with
   |zero=>
     have h2':f ((b+j)%24)=false:=h2;rw[wB,ev,h2'];rfl
   |succ m=>
     have h0:f ((b+j)%24)=true:=h1 0 (Nat.succ_pos _);have ih:=Bh f b m (j+1) (λi hi=>by have:=h1 (i+1) (by omega);rwa [show b+(j+1+i)=b+(j+(i+1))by omega]) (by rwa [show b+(j+1+m)=b+(j+(m+1))by omega]);rw[wB,ev,h0];simp only[Z0,abL];rw[show mD [some (.lst (eN f)),some (.int (b:Int)),some (.int (j:Int))]=some (.nx [some (.lst (eN f)),some (.int (b:Int)),some (.int ((j+1:Nat):Int))])from rfl];simp only[Z0];rw[ih,show j+1+m=j+(m+1)by omega]
theorem nZ{f:Nat->Bool}(hn:∃t,t<24/\f t=false){b:Nat}(hb:b<24):(∀i,i<wd f b->f ((b+i)%24)=true)/\f ((b+wd f b)%24)=false/\wd f b<24:=by
 obtain⟨t,ht,hf⟩:=hn;have:=MP f b 24 0 ⟨(t+24-b)%24,aap _,by omega,by rw[show(b+(t+24-b)%24)%24=t by omega];exact hf⟩;exact⟨λi hi=>Ua f b 24 0 i (aap _) hi,this.1,by have:=this.2;unfold wd;omega⟩
theorem Fi{f:Nat->Bool}(hn:∃t,t<24/\f t=false){b:Nat}(hb:b<24):pX [.lst (eN f),.int (b:Int)]=some (.int (wd f b:Nat)):=by
 obtain⟨h1,h2,_⟩:=nZ hn hb;refine bZ rfl ?_;show mF [some (.lst (eN f)),some (.int (b:Int)),none]=_;unfold mF;rw[aO (bI (d:=.int 0) (δ':=[some (.lst (eN f)),some (.int (b:Int)),some (.int 0)]) rfl rfl)];have:=Bh f b (wd f b) 0 (λi hi=>by rw[acx];exact h1 i hi) (by rw[acx];exact h2);rw[acx]at this;refine(aO (xr this)).trans ?_;exact bQ rfl
noncomputable def bg(f:Nat->Bool):List Nat:=(List.range 24).filter λt=>f t&&!f ((t+23)%24)
open Classical in
def runs(f:Nat->Bool):List (Nat×Nat):=if ∃t,t<24/\f t=false then(bg f).map λb=>(b,wd f b)else [(0,24)]
theorem Tw(f:Nat->Bool):∀n,allB ((List.range n).map λt=>D.bl (f t))=some ((List.range n).all f):=by
 have key:∀l:List Nat,allB (l.map λt=>D.bl (f t))=some (l.all f):=by
  intro l;induction l with
  |nil=>rfl|cons a l ih=>
    show(allB (l.map λt=>D.bl (f t))).bind _=_;rw[ih];rfl
 exact λn=>key _
noncomputable def Yi(f:Nat->Bool):D->Option D
 |.tup [.int t,_]=>if(f t.toNat&&!f ((t.toNat+23)%24))=true then some (.int t)else none
 |_=>none
theorem IW(f:Nat->Bool):∀(l:List Nat)(k:Nat),l=List.range' k l.length->(cG k (l.map λt=>D.bl (f t))).filterMap (Yi f)=aC (l.filter λt=>f t&&!f ((t+23)%24))
 |[],_,_=>rfl|a::l,k,h=>by
   rw[Z2,acn]at h;injection h with h1 h2;subst h1;rw[ZD,cG,aaJ,IW f l (a+1) h2,acN];have e4:Yi f (.tup [.int (a:Int),.bl (f a)])=if(f a&&!f ((a+23)%24))=true then some (.int (a:Int))else none:=by
    show(if(f ((a:Int)).toNat&&!f ((((a:Int)).toNat+23)%24))=true then some (D.int (a:Int))else none)=_;rw[aax]
   rw[e4];cases(f a&&!f ((a+23)%24))<;>rfl
theorem t7(f:Nat->Bool):∀{l:List Nat}{k:Nat}{x:D},l=List.range' k l.length->x∈cG k (l.map λt=>D.bl (f t))->∃t:Nat,t∈l/\x=.tup [.int (t:Int),.bl (f t)]
 |[],_,_,_,h=>by cases h|a::l,k,x,e,h=>by
   rw[Z2,acn]at e;injection e with h1 h2;subst h1;rw[ZD,cG]at h;rcases ZP.mp h with rfl|h
   ·exact⟨a,ZF,rfl⟩
   ·obtain⟨t,m,e⟩:=t7 f h2 h;exact⟨t,Zy _ m,e⟩
noncomputable def W3(q:Nat×Nat):D:=.tup [.int (q.1:Int),.int (q.2:Int)]
def Y6(f:Nat->Bool):D->Option D
 |.int b=>some (.tup [.int b,.int (wd f b.toNat:Nat)])|_=>none
theorem J3(f:Nat->Bool):lz [.lst (eN f)]=some (.lst ((runs f).map W3)):=by
 refine bZ rfl ?_;show oR [some (.lst (eN f)),none]=_;unfold oR;have hall:tV (au SX (aj (ak 0) az)) [some (.lst (eN f)),none]=some ((List.range 24).all f):=by
  refine gM (d:=.bl ((List.range 24).all f)) ((aM (x:=.lst (eN f)) rfl).trans ?_) rfl;unfold SX;show(allB ((List.range 24).map λt=>D.bl (f t))).bind _=_;rw[Tw];rfl
 by_cases hn:∃t,t<24/\f t=false
 ·have ha:(List.range 24).all f=false:=by
   obtain⟨t,ht,hf⟩:=hn;rw[List.all_eq_false];exact⟨t,aab.mpr ht,by simp[hf]⟩
  rw[ha]at hall;rw[aO ((Gh hall).trans rfl)];have lr:List.range 24=List.range' 0 (List.range 24).length:=by rw[abA,acg]
  have c1:bM 2 [0] (rD (ak 0)) (gT (aP (gN 0) (aP (gN 1) dB))) (yG (tV (ak 1)) (qt (tV (aK cz (ak 2) (aK iW (ak 0) (eC (.int 1))))))) (ak 0) [some (.lst (eN f)),none]=some (.lst (aC (bg f))):=by
   refine(cR (xs:=cG 0 (eN f)) (Yi f) rfl (by rw[vQ,yN];decide) λx hx=>?_).trans ?_
   ·obtain⟨t,ht,rfl⟩:=t7 f lr hx;have ht24:t<24:=aab.mp ht;refine⟨[some (.int (t:Int)),some (.bl (f t)),some (.lst (eN f))],rfl,?_⟩;have e1:tV (aK cz (ak 2) (aK iW (ak 0) (eC (.int 1)))) [some (.int (t:Int)),some (.bl (f t)),some (.lst (eN f))]=some (f ((t+23)%24)):=by
     refine gM (d:=.bl (f ((t+23)%24))) ((bu (x:=.lst (eN f)) (y:=.int ((t:Int)-1)) rfl rfl).trans ?_) rfl;show(uz (eN f).length ((t:Int)-1)).bind (λj=>(eN f)[j]?)=_;have e2:uz (eN f).length ((t:Int)-1)=some ((t+23)%24):=by
      rw[yN];unfold uz;by_cases h0:t=0
      ·subst h0;rfl
      ·rw[ZZ (by omega),ZZ (by omega)];congr 1;omega
     rw[e2];exact uV f (aaq _ (by decide))
    have e3:yG (tV (ak 1)) (qt (tV (aK cz (ak 2) (aK iW (ak 0) (eC (.int 1)))))) [some (.int (t:Int)),some (.bl (f t)),some (.lst (eN f))]=some (f t&&!f ((t+23)%24)):=by
     unfold yG;rw[gM (d:=.bl (f t)) rfl rfl,yF e1];cases f t<;>rfl
    have e4:Yi f (.tup [.int (t:Int),.bl (f t)])=if(f t&&!f ((t+23)%24))=true then some (.int (t:Int))else none:=by
     show(if(f ((t:Int)).toNat&&!f ((((t:Int)).toNat+23)%24))=true then some (D.int (t:Int))else none)=_;rw[aax]
    rw[e3,e4];cases(f t&&!f ((t+23)%24))with
    |true=>exact .inl ⟨rfl,_,rfl,rfl⟩|false=>exact .inr ⟨rfl,rfl⟩
   ·exact aaS (λz=>some (D.lst z)) (IW f (List.range 24) 0 lr)
  rw[aO (bI (δ':=[some (.lst (eN f)),some (.lst (aC (bg f)))]) c1 rfl)];refine bQ ((cR (xs:=aC (bg f)) (Y6 f) rfl ?_ λx hx=>?_).trans ?_)
  ·have:(bg f).length<=24:=aaV (ab6 _ _) (by simp);simp only[aC,ZK];omega
  ·obtain⟨b,hb,rfl⟩:=Z5.mp hx;have hb24:b<24:=aab.mp (aaE.mp hb).1;refine⟨[some (.int (b:Int)),some (.lst (eN f))],rfl,.inl ⟨rfl,.tup [.int (b:Int),.int (wd f b:Nat)],?_,?_⟩⟩
   ·exact jV rfl ((bF (x:=.lst (eN f)) (y:=.int (b:Int)) rfl rfl).trans (Fi hn hb24))
   ·show some (D.tup [.int (b:Int),.int (wd f ((b:Int)).toNat:Nat)])=_;rw[aax]
  ·unfold runs aC;rw[ZZ hn,ab2,aai];have:(Y6 f∘λ(n:Nat)=>D.int (n:Int))=λb=>some (W3 (b,wd f b)):=by
    funext b
    show some (D.tup [.int (b:Int),.int (wd f ((b:Int)).toNat:Nat)])=_;rw[aax];rfl
   rw[this];simp
 ·have ha:(List.range 24).all f=true:=by
   rw[aaM];intro t ht;cases h:f t with
   |true=>rfl|false=>exact absurd ⟨t,aab.mp ht,h⟩ hn
  rw[ha]at hall;rw[uM ((KC hall).trans (bQ rfl))];unfold runs;rw[aaa hn];rfl
theorem K7{l:List Nat}{p:Nat->Bool}{b0:Nat}(hn:l.Nodup)(hm:b0∈l)(h0:p b0=true)(hu:∀b∈l,p b=true->b=b0):l.countP p=1:=by
 induction l with
 |nil=>cases hm|cons a l ih=>
   rw[aaK]at hn;rw[abl];rcases ZP.mp hm with rfl|hm
   ·rw[ZZ h0,abU.mpr λb hb hp=>hn.1 (hu b (Zy _ hb) hp▸hb)]
   ·rw[ih hn.2 hm λb hb=>hu b (Zy _ hb),aaa λhp=>hn.1 (hu a ZF hp▸hm)]
theorem bg_mem{f:Nat->Bool}{b:Nat}:b∈bg f↔b<24/\f b=true/\f ((b+23)%24)=false:=by
 unfold bg;rw[aaE,aab,aac,Bool.not_eq_true']
theorem EY(f:Nat->Bool){t:Nat}(ht:t<24):(runs f).countP (λq=>decide ((t+24-q.1)%24<q.2))=if f t=true then 1 else 0:=by
 unfold runs;by_cases hn:∃t,t<24/\f t=false
 ·rw[ZZ hn,aeI];have inR:∀b,b<24->(t+24-b)%24<wd f b->f t=true:=λb hb h=>by
   have:=(nZ hn hb).1 _ h
   rwa [show(b+(t+24-b)%24)%24=t by omega]at this
  cases hf:f t with
  |false=>
    rw[aaa (by simp),abU];intro b hb hp;have:=inR b (bg_mem.mp hb).1 (ad7 hp);rw[hf]at this;cases this
  |true=>
    rw[ZZ rfl];obtain⟨x,hx,hxf⟩:=hn;have hn':∃u,u<24/\(λu=>f ((24-u)%24)) u=false:=⟨(24-x)%24,aaq _ (by decide),by show f ((24-(24-x)%24)%24)=false;rw[show(24-(24-x)%24)%24=x by omega];exact hxf⟩;obtain⟨m1,m2,m3⟩:=nZ hn' (b:=(24-t)%24) (aaq _ (by decide));generalize wd (λu=>f ((24-u)%24)) ((24-t)%24)=m at *;have back:∀i,i<24->(24-((24-t)%24+i)%24)%24=(t+24-i)%24:=λi hi=>by omega
    have m1':∀i,i<m->f ((t+24-i)%24)=true:=λi hi=>by have:=m1 i hi;simp only[back i (by omega)]at this;exact this
    have m2':f ((t+24-m)%24)=false:=by simp only[back m m3]at m2;exact m2
    have mp:0<m:=by
     cases m with
     |zero=>rw[show(t+24-0)%24=t by omega,hf]at m2';cases m2'|succ _=>omega
    refine K7 (b0:=(t+24-(m-1))%24) (abJ.filter _) (bg_mem.mpr ⟨aaq _ (by decide),m1' (m-1) (by omega),?_⟩) ?_ λb hb hp=>?_
    ·rw[show((t+24-(m-1))%24+23)%24=(t+24-m)%24 by omega];exact m2'
    ·obtain⟨w1,w2,w3⟩:=nZ ⟨x,hx,hxf⟩ (b:=(t+24-(m-1))%24) (aaq _ (by decide));show decide ((t+24-(t+24-(m-1))%24)%24<wd f ((t+24-(m-1))%24))=true;rw[show(t+24-(t+24-(m-1))%24)%24=m-1 by omega,Z7];apply aeq;intro hle;have:=m1' (m-1-wd f ((t+24-(m-1))%24)) (by omega);rw[show(t+24-(m-1-wd f ((t+24-(m-1))%24)))%24=((t+24-(m-1))%24+wd f ((t+24-(m-1))%24))%24 by omega,w2]at this;cases this
    ·obtain⟨b1,b2,b3⟩:=bg_mem.mp hb;have hlt:(t+24-b)%24<wd f b:=ad7 hp;obtain⟨w1,w2,w3⟩:=nZ ⟨x,hx,hxf⟩ b1;have hj:(t+24-b)%24=m-1:=by
      rcases Nat.lt_trichotomy ((t+24-b)%24) (m-1)with h|h|h
      ·have:=m1' ((t+24-b)%24+1) (by omega);rw[show(t+24-((t+24-b)%24+1))%24=(b+23)%24 by omega,b3]at this;cases this
      ·exact h
      ·have:=w1 ((t+24-b)%24-m) (by omega);rw[show(b+((t+24-b)%24-m))%24=(t+24-m)%24 by omega,m2']at this;cases this
     omega
 ·rw[aaa hn];have hf:f t=true:=by
   cases h:f t with
   |true=>rfl|false=>exact absurd ⟨t,ht,h⟩ hn
  rw[ZZ hf];have:(t+24-0)%24<24:=aaq _ (by decide);simp[this];omega
theorem Rn(f:Nat->Bool):∀q∈runs f,q.1<24/\1<=q.2/\q.2<=24:=by
 intro q hq;unfold runs at hq;split at hq
 ·rename_i hn;obtain⟨b,hb,rfl⟩:=Z5.mp hq;obtain⟨b1,b2,b3⟩:=bg_mem.mp hb;obtain⟨w1,w2,w3⟩:=nZ hn b1;refine⟨b1,?_,by show wd f b<=24;omega⟩;show 1<=wd f b;apply aeq;intro h;have h0:wd f b=0:=by omega
  rw[h0,show(b+0)%24=b by omega,b2]at w2;cases w2
 ·rw[ZW.mp hq];decide
theorem qF(f:Nat->Bool):(runs f).length<=24:=by
 unfold runs;split
 ·rw[ZK];exact aaV (ab6 _ _) (by simp)
 ·decide
def cond(a b:List Pc)(sh:Bool)(r t:Nat):Bool:=decide (0<dep a r t)&&(decide (0<dep b r t)==sh)
def kq(a b:List Pc)(sh:Bool)(q:Nat×Nat):List Pc:=(runs (cond a b sh q.1)).map λn=>⟨q.1,q.2,n.1,n.2⟩
def kp(a b:List Pc)(sh:Bool):List Pc:=(bj (edges (a++b))).flatMap (kq a b sh)
noncomputable def Ze(sh:Bool):D->Option D
 |.tup [.int x,.int y]=>some (.bl (decide (0<x)&&(decide (0<y)==sh)))|_=>none
theorem G8(f g:Nat->Int):∀l:List Nat,gB ((l.map f).map D.int) ((l.map g).map D.int)=l.map λt=>.tup [.int (f t),.int (g t)]
 |[]=>rfl|t::l=>by
   have:=G8 f g l;unfold gB at this ⊢;rw[ZD,ZD,ZD,ZD,aaw,ZD,this];rfl
theorem MN{a b:List Pc}{sh:Bool}{e:Nat}{δ:Ev}(h6:ak 6 δ=some (bL (aX a e)))(h7:ak 7 δ=some (bL (aX b e)))(h2:slot δ 2=some (.bl sh)):
 bM 1 [2] (Cw (ak 6) (ak 7)) (gN 0) tT (Gp (aK R4 (aK cz (ak 0) (eC (.int 0))) (eC (.int 0))) (aK oEq (aK R4 (aK cz (ak 0) (eC (.int 1))) (eC (.int 0))) (ak 1))) δ=some (.lst (eN (cond a b sh e))):=by
 have hz:Cw (ak 6) (ak 7) δ=some ((List.range 24).map λt=>D.tup [.int (dep a e t:Int),.int (dep b e t:Int)]):=by
  unfold Cw;rw[h6,h7];unfold bL aX rowOf;simp only[Z0];rw[ZZ (by simp),G8]
 refine(cR (Ze sh) hz (by simp) λx hx=>?_).trans ?_
 ·obtain⟨t,_,rfl⟩:=Z5.mp hx;refine⟨[some (.tup [.int (dep a e t:Int),.int (dep b e t:Int)]),some (.bl sh)],by show some [some _,slot δ 2]=_;rw[h2],.inl ⟨rfl,.bl (decide (0<(dep a e t:Int))&&(decide (0<(dep b e t:Int))==sh)),?_,rfl⟩⟩;unfold Gp;rw[show aK R4 (aK cz (ak 0) (eC (.int 0))) (eC (.int 0)) [some (.tup [.int (dep a e t:Int),.int (dep b e t:Int)]),some (.bl sh)]=some (.bl (decide (0<(dep a e t:Int))))from rfl];have e2:aK oEq (aK R4 (aK cz (ak 0) (eC (.int 1))) (eC (.int 0))) (ak 1) [some (.tup [.int (dep a e t:Int),.int (dep b e t:Int)]),some (.bl sh)]=some (.bl (decide (0<(dep b e t:Int))==sh)):=by
   refine(bu (x:=.bl (decide (0<(dep b e t:Int)))) (y:=.bl sh) rfl rfl).trans ?_;unfold oEq;rw[ZZ ⟨by show 0<=30;decide,by show 0<=30;decide⟩,dW]
  simp only[Z0];cases decide (0<(dep a e t:Int))with
  |true=>exact e2|false=>rfl
 ·rw[ab2];have:(Ze sh∘λt=>D.tup [.int (dep a e t:Int),.int (dep b e t:Int)])=λt=>some (D.bl (cond a b sh e t)):=by
   funext t
   show some (D.bl (decide (0<(dep a e t:Int))&&(decide (0<(dep b e t:Int))==sh)))=some (D.bl (decide (0<dep a e t)&&(decide (0<dep b e t)==sh)));have z:∀n:Nat,decide (0<(n:Int))=decide (0<n):=λn=>by rw[aau];simp
   rw[z,z]
  rw[this];unfold eN;simp
noncomputable def Y7(q:Nat×Nat):D->Option D
 |.tup [.int x,.int y]=>some (.tup [.int q.1,.int q.2,.int x,.int y])|_=>none
theorem MJ{f:Nat->Bool}{q:Nat×Nat}{δ:Ev}(h8:ak 8 δ=some (.lst (eN f)))(h5:slot δ 5=some (aG q)):
 bM 1 [5] (cC (au lz (aj (ak 8) az))) (gN 0) tT (dw (aj (aK cz (ak 1) (eC (.int 0))) (aj (aK cz (ak 1) (eC (.int 1))) (aj (aK cz (ak 0) (eC (.int 0))) (aj (aK cz (ak 0) (eC (.int 1))) az))))) δ=some (.lst (((runs f).map λn=>(⟨q.1,q.2,n.1,n.2⟩:Pc)).map pD)):=by
 have hi:cC (au lz (aj (ak 8) az)) δ=some ((runs f).map W3):=by
  unfold cC;rw[(aM h8).trans (J3 f)];rfl
 refine(cR (Y7 q) hi (by have:=qF f;rw[ZK];omega) λx hx=>?_).trans ?_
 ·obtain⟨n,_,rfl⟩:=Z5.mp hx;exact⟨[some (W3 n),some (aG q)],by show some [some _,slot δ 5]=_;rw[h5],.inl ⟨rfl,_,rfl,rfl⟩⟩
 ·rw[ab2,aai];have:(Y7 q∘W3)=λn=>some (pD ⟨q.1,q.2,n.1,n.2⟩):=rfl;rw[this];simp
theorem Ku{a b:List Pc}{sh:Bool}{q:Nat×Nat}{A B BD:D}{x8:Option D}{acc:List D}(hl:acc.length<=1000000):
 nR [some A,some B,some (.bl sh),some BD,none,some (aG q),some (bL (aX a q.1)),some (bL (aX b q.1)),x8,none,none,none,none,some (.lst acc),none,none,none,none]=
 some (.nx [some A,some B,some (.bl sh),some BD,none,some (aG q),some (bL (aX a q.1)),some (bL (aX b q.1)),some (.lst (eN (cond a b sh q.1))),none,none,none,none,some (.lst (acc++(kq a b sh q).map pD)),none,none,none,none]):=by
 unfold nR;rw[aO (bI (δ':=[some A,some B,some (.bl sh),some BD,none,some (aG q),some (bL (aX a q.1)),some (bL (aX b q.1)),some (.lst (eN (cond a b sh q.1))),none,none,none,none,some (.lst acc),none,none,none,none]) (MN rfl rfl rfl) rfl)];unfold Ey;rw[MJ (f:=cond a b sh q.1) (q:=q) rfl rfl];have hr:=qF (cond a b sh q.1);show(if acc.length+(((runs (cond a b sh q.1)).map λn=>(⟨q.1,q.2,n.1,n.2⟩:Pc)).map pD).length<=16777216 then _ else _)=_;rw[ZZ (by rw[ZK,ZK];omega)];rfl
theorem xR{a b:List Pc}{sh:Bool}{A B BD:D}:∀(qs:List (Nat×Nat))(x5 x6 x7 x8:Option D)(acc:List D),acc.length+24*qs.length<=1000000->∃y5 y6 y7 y8,
 forM (gT (aP (gN 5) (aP (gN 6) (aP (gN 7) dB)))) nR (qs.map (pF a b)) [some A,some B,some (.bl sh),some BD,none,x5,x6,x7,x8,none,none,none,none,some (.lst acc),none,none,none,none]=
 some (.nx [some A,some B,some (.bl sh),some BD,none,y5,y6,y7,y8,none,none,none,none,some (.lst (acc++(qs.flatMap (kq a b sh)).map pD)),none,none,none,none])
 |[],x5,x6,x7,x8,acc,_=>⟨x5,x6,x7,x8,by simp[forM]⟩|q::qs,x5,x6,x7,x8,acc,hl=>by
   simp only[Z2]at hl;have hr:=qF (cond a b sh q.1);obtain⟨y5,y6,y7,y8,ih⟩:=xR (a:=a) (b:=b) (sh:=sh) (A:=A) (B:=B) (BD:=BD) qs (some (aG q)) (some (bL (aX a q.1))) (some (bL (aX b q.1))) (some (.lst (eN (cond a b sh q.1)))) (acc++(kq a b sh q).map pD) (by
    rw[Z6,ZK];unfold kq;rw[ZK];omega)
   refine⟨y5,y6,y7,y8,?_⟩;rw[ZD,forM];show(nR [some A,some B,some (.bl sh),some BD,none,some (aG q),some (bL (aX a q.1)),some (bL (aX b q.1)),x8,none,none,none,none,some (.lst acc),none,none,none,none]).bind _=_;rw[Ku (by omega)];simp only[Z0];rw[ih,abg,aaf,aa8]
theorem M8{a b:List Pc}(h:∀p∈a++b,p.ok)(hl:(a++b).length<=1000)(he:(edges (a++b)).length<64)(sh:Bool):zf [aQ a,aQ b,.bl sh]=some (aQ (kp a b sh)):=by
 have h1:∀p∈a,p∈a++b:=λp hp=>aaR _ hp;have h2:∀p∈b,p∈a++b:=λp hp=>Z4 _ hp;have hll:=hl;rw[Z6]at hll;have hbl:(bj (edges (a++b))).length<=64:=by unfold bj;simp;omega
 refine bZ rfl ?_;show zR [some (aQ a),some (aQ b),some (.bl sh),none,none,none,none,none,none,none,none,none,none,none,none,none,none,none]=_;unfold zR;have eb:au cD (aj (au cZ (aj (aK bO (ak 0) (ak 1)) az)) az) [some (aQ a),some (aQ b),some (.bl sh),none,none,none,none,none,none,none,none,none,none,none,none,none,none,none]=some (.lst ((bj (edges (a++b))).map aG)):=by
  refine(aM ((aM (x:=aQ (a++b)) ((bu (x:=aQ a) (y:=aQ b) rfl rfl).trans ?_)).trans (oE h hl he))).trans (uv (by omega));unfold aQ bO;simp only;rw[ZK,ZK,ZZ (by omega),aaf]
 rw[aO (bI (δ':=[some (aQ a),some (aQ b),some (.bl sh),some (.lst ((bj (edges (a++b))).map aG)),none,none,none,none,none,none,none,none,none,none,none,none,none,none]) eb rfl)];rw[aO (show jT 9 4 (gD az) [some (aQ a),some (aQ b),some (.bl sh),some (.lst ((bj (edges (a++b))).map aG)),none,none,none,none,none,none,none,none,none,none,none,none,none,none]=some (.nx [some (aQ a),some (aQ b),some (.bl sh),some (.lst ((bj (edges (a++b))).map aG)),none,none,none,none,none,none,none,none,none,some (.lst []),none,none,none,none])from rfl)];generalize hδ:[some (aQ a),some (aQ b),some (.bl sh),some (.lst ((bj (edges (a++b))).map aG)),none,none,none,none,none,none,none,none,none,some (.lst []),none,none,none,none]=δ;have v0:ak 0 δ=some (aQ a):=by rw[<-hδ];rfl
 have v1:ak 1 δ=some (aQ b):=by rw[<-hδ];rfl
 have v3:ak 3 δ=some (.lst ((bj (edges (a++b))).map aG)):=by rw[<-hδ];rfl
 have hz:vM (ak 3) (au bW (aj (ak 0) (aj (ak 3) az))) (au bW (aj (ak 1) (aj (ak 3) az))) δ=some ((bj (edges (a++b))).map (pF a b)):=by
  unfold vM;rw[bF v0 v3,bF v1 v3,uX (λp hp=>h p (h1 p hp)) (by omega) (by omega),uX (λp hp=>h p (h2 p hp)) (by omega) (by omega),ut h h1,ut h h2,v3];simp only[Z0];rw[ZZ (by simp),uF]
 obtain⟨y5,y6,y7,y8,e⟩:=xR (a:=a) (b:=b) (sh:=sh) (A:=aQ a) (B:=aQ b) (BD:=.lst ((bj (edges (a++b))).map aG)) (bj (edges (a++b))) none none none none [] (by simp only[aba];omega);rw[aO ((dj hz).trans (by rw[<-hδ];exact e)),acY];exact bQ rfl
theorem Nb{a b:List Pc}(h:∀p∈a++b,p.ok)(hl:(a++b).length<=1000)(he:(edges (a++b)).length<64):iz [aQ a,aQ b]=some (aQ (kp a b true)):=bZ rfl (bQ ((nQ (x:=aQ a) (y:=aQ b) (z:=.bl true) rfl rfl rfl).trans (M8 h hl he true)))
theorem W5{a b:List Pc}(h:∀p∈a++b,p.ok)(hl:(a++b).length<=1000)(he:(edges (a++b)).length<64):jD [aQ a,aQ b]=some (aQ (kp a b false)):=bZ rfl (bQ ((nQ (x:=aQ a) (y:=aQ b) (z:=.bl false) rfl rfl rfl).trans (M8 h hl he false)))
theorem Rp{a:List Pc}(h:∀p∈a++a,p.ok)(hl:(a++a).length<=1000)(he:(edges (a++a)).length<64):qW [aQ a]=some (aQ (kp a a true)):=bZ rfl (bQ ((bF (x:=aQ a) (y:=aQ a) rfl rfl).trans (Nb h hl he)))
theorem Ar{α:Type}{f:α->Nat}:∀{l:List α},(∀q∈l,f q=0)->(l.map f).sum=0
 |[],_=>rfl|a::l,h=>by
   rw[ZD,Z8,h a ZF,Ar λq hq=>h q (Zy _ hq)]
theorem Du(g:Nat->Nat)(r:Nat):∀(es:List Nat)(e:Nat),(e::es).Pairwise (·<·)->e<=r->
 ((((e::es).zip es).map λq=>if q.1<=r/\r<q.2 then g q.1 else 0).sum=0/\∀x∈es,x<=r)\/
 ∃m,m<=r/\(∀x∈e::es,x<=r->x<=m)/\(((e::es).zip es).map λq=>if q.1<=r/\r<q.2 then g q.1 else 0).sum=g m
 |[],e,_,_=>.inl ⟨rfl,λx hx=>by cases hx⟩|x::es,e,hp,he=>by
   rw[aaO]at hp;have hs:(((e::x::es).zip (x::es)).map λq=>if q.1<=r/\r<q.2 then g q.1 else 0).sum=(if e<=r/\r<x then g e else 0)+(((x::es).zip es).map λq=>if q.1<=r/\r<q.2 then g q.1 else 0).sum:=by
    rw[aaw,ZD,Z8]
   by_cases hx:r<x
   ·have hge:∀y∈x::es,x<=y:=λy hy=>by
     rcases ZP.mp hy with rfl|hy
     ·exact ZS _
     ·exact aca ((aaO.mp hp.2).1 y hy)
    refine .inr ⟨e,he,λy hy hyr=>?_,?_⟩
    ·rcases ZP.mp hy with rfl|hy
     ·exact ZS _
     ·have:=hge y hy;omega
    ·rw[hs,ZZ ⟨he,hx⟩,Ar λq hq=>?_,Nat.add_zero];have:=hge q.1 (acy (a:=q.1) (b:=q.2) hq).1;rw[aaa (by omega)]
   ·rw[hs,aaa (by omega),acx];rcases Du g r es x hp.2 (by omega)with⟨h1,h2⟩|⟨m,h1,h2,h3⟩
    ·exact .inl ⟨h1,λy hy=>by
      rcases ZP.mp hy with rfl|hy
      ·omega
      ·exact h2 y hy⟩
    ·refine .inr ⟨m,h1,λy hy hyr=>?_,h3⟩;rcases ZP.mp hy with rfl|hy
     ·have:=h2 x ZF (by omega);have:=hp.1 x ZF;omega
     ·exact h2 y hy hyr
theorem vZ{α β:Type}(p:β->Bool)(g:α->List β):∀l:List α,(l.flatMap g).countP p=(l.map λa=>(g a).countP p).sum
 |[]=>rfl|a::l=>by rw[abg,ae8,vZ p g l,ZD,Z8]
theorem Oo(a b:List Pc)(sh:Bool)(q:Nat×Nat)(r:Nat){t:Nat}(ht:t<24):(kq a b sh q).countP (λp=>p.has r t)=if q.1<=r/\r<q.2 then(if cond a b sh q.1 t=true then 1 else 0)else 0:=by
 unfold kq;rw[aeI];by_cases h:q.1<=r/\r<q.2
 ·rw[ZZ h,<-EY (cond a b sh q.1) ht];congr 1
  funext n
  show(decide (q.1<=r)&&decide (r<q.2)&&decide ((t+24-n.1)%24<n.2))=_;rw[aby h.1,aby h.2];rfl
 ·rw[aaa h,abU];intro n _ hp;have hp':(decide (q.1<=r)&&decide (r<q.2)&&decide ((t+24-n.1)%24<n.2))=true:=hp;simp only[aac,Z7]at hp';exact h hp'.1
theorem Qc{a b:List Pc}(h:∀p∈a++b,p.ok)(sh:Bool)(r:Nat){t:Nat}(ht:t<24):dep (kp a b sh) r t=if cond a b sh r t=true then 1 else 0:=by
 obtain⟨es,e⟩:=dZ (a++b);have hs:=bA (a++b);have hm:=cL h;rw[e]at hs hm;have inE:∀p∈a++b,p.i∈0::es/\p.o∈0::es:=λp hp=>⟨(hm _).mpr (Zy _ (aaz.mpr ⟨p,hp,by simp⟩)),(hm _).mpr (Zy _ (aaz.mpr ⟨p,hp,by simp⟩))⟩;have hd:dep (kp a b sh) r t=(((0::es).zip es).map λq=>if q.1<=r/\r<q.2 then(if cond a b sh q.1 t=true then 1 else 0)else 0).sum:=by
  unfold dep kp bj;rw[e,vZ];congr 1;exact aaD λq _=>Oo a b sh q r ht
 rw[hd];rcases Du (λm=>if cond a b sh m t=true then 1 else 0) r es 0 hs (aap _)with⟨h1,h2⟩|⟨m,h1,h2,h3⟩
 ·rw[h1];have z:dep a r t=0:=Di (λp hp=>by
   have:=(inE p (aaR _ hp)).2;rcases ZP.mp this with h0|h0
   ·omega
   ·exact h2 _ h0) t
  unfold cond;rw[z];rfl
 ·rw[h3];have same:∀s:List Pc,(∀p∈s,p∈a++b)->dep s r t=dep s m t:=λs hsub=>Dj (λp hp=>by
   obtain⟨i1,i2⟩:=inE p (hsub p hp);exact⟨⟨λz=>h2 _ i1 z,λz=>by omega⟩,⟨λz=>by omega,λz=>aeq λz'=>by have:=h2 _ i2 z';omega⟩⟩) t
  unfold cond;rw[same a λp hp=>aaR _ hp,same b λp hp=>Z4 _ hp]
theorem Ul{a b:List Pc}(h:∀p∈a++b,p.ok){R:Nat}(hR:∀p∈a++b,p.o<=R)(sh:Bool):∀p∈kp a b sh,p.ok/\p.o<=R:=by
 intro p hp;obtain⟨q,hq,hp⟩:=aaz.mp hp;obtain⟨n,hn,rfl⟩:=Z5.mp hp;obtain⟨n1,n2,n3⟩:=Rn _ n hn;have hs:=bA (a++b);obtain⟨es,e⟩:=dZ (a++b);unfold bj at hq;have e2:=hq;rw[e]at hq hs;have lt:q.1<q.2:=by
  have key:∀(es:List Nat)(x:Nat),(x::es).Pairwise (·<·)->∀q∈(x::es).zip es,q.1<q.2:=by
   intro es;induction es with
   |nil=>intro x _ q hq;cases hq|cons y es ih=>
     intro x hp q hq;rw[aaO]at hp;rw[aaw]at hq;rcases ZP.mp hq with rfl|hq
     ·exact hp.1 y ZF
     ·exact ih y hp.2 q hq
  exact key es 0 hs q hq
 have mem2:q.2∈edges (a++b):=by rw[e];exact Zy _ (acy (a:=q.1) (b:=q.2) hq).2
 have fr:=(cL h _).mp mem2;have hq2:q.2<=R/\q.2<=1000:=by
  rcases ZP.mp fr with z|z
  ·omega
  ·obtain⟨p,hp,hx⟩:=aaz.mp z;have h1:=hR p hp;obtain⟨g1,g2,_⟩:=h p hp;simp at hx;omega
 exact⟨⟨lt,hq2.2,n1,n2,n3⟩,hq2.1⟩
end DL.K09
namespace DL.Pg
open PySem DL
section
variable{β:Type}[DecidableEq β]{nb:Nat->List Nat}{v:Nat->β}{n:Nat}
inductive Hg(nb:Nat->List Nat)(v:Nat->β)(a:Nat):Nat->Prop where
 |refl:Hg nb v a a
 |step {b c:Nat}:Hg nb v a b->c∈nb b->v c=v b->Hg nb v a c
theorem Hg.val{a b:Nat}(h:Hg nb v a b):v b=v a:=by
 induction h with
 |refl=>rfl|step _ _ e ih=>rw[e,ih]
theorem Hg.trans{a b c:Nat}(h:Hg nb v a b)(g:Hg nb v b c):Hg nb v a c:=by
 induction g with
 |refl=>exact h|step _ m e ih=>exact .step ih m e
def JB(nb:Nat->List Nat)(n:Nat):Prop:=∀b c,b<n->c∈nb b->c<n/\b∈nb c
theorem Hg.lt(hs:JB nb n){a b:Nat}(ha:a<n)(h:Hg nb v a b):b<n:=by
 induction h with
 |refl=>exact ha|step _ m _ ih=>exact(hs _ _ ih m).1
theorem Hg.symm(hs:JB nb n){a b:Nat}(ha:a<n)(h:Hg nb v a b):Hg nb v b a:=by
 induction h with
 |refl=>exact .refl|step g m e ih=>exact Hg.trans (.step .refl (hs _ _ (g.lt hs ha) m).2 e.symm) ih
noncomputable def grow(P:Nat->Bool):List Nat->List Nat->List Nat
 |R,[]=>R|R,o::ns=>grow P (if o∉R/\P o=true then R++[o]else R) ns
theorem rE(P:Nat->Bool):∀(ns R:List Nat),∃T,grow P R ns=R++T/\∀x∈T,x∈ns/\P x=true
 |[],R=>⟨[],by simp[grow],λx h=>by cases h⟩|o::ns,R=>by
   rw[grow];by_cases h:o∉R/\P o=true
   ·rw[ZZ h];obtain⟨T,e,q⟩:=rE P ns (R++[o]);refine⟨o::T,by rw[e];simp,λx hx=>?_⟩;rcases ZP.mp hx with rfl|hx
    ·exact⟨ZF,h.2⟩
    ·exact⟨Zy _ (q x hx).1,(q x hx).2⟩
   ·rw[aaa h];obtain⟨T,e,q⟩:=rE P ns R;exact⟨T,e,λx hx=>⟨Zy _ (q x hx).1,(q x hx).2⟩⟩
theorem vO(P:Nat->Bool):∀(ns R:List Nat),R.Nodup->(grow P R ns).Nodup
 |[],R,h=>h|o::ns,R,h=>by
   rw[grow];refine vO P ns _ ?_;split
   ·rename_i q;rw[ach];refine⟨h,by simp,λa ha b hb=>?_⟩;rw[ZW]at hb;subst hb;exact λz=>q.1 (z▸ha)
   ·exact h
theorem Cz(P:Nat->Bool)(ns R:List Nat):∀x∈R,x∈grow P R ns:=λx hx=>by
 obtain⟨T,e,_⟩:=rE P ns R;rw[e];exact aaR _ hx
theorem CG(P:Nat->Bool):∀(ns R:List Nat),∀o∈ns,P o=true->o∈grow P R ns
 |[],_,_,h,_=>by cases h|q::ns,R,o,h,hp=>by
   rw[grow];rcases ZP.mp h with rfl|h
   ·refine Cz P ns _ _ ?_;by_cases z:o∈R
    ·split
     ·exact aaR _ z
     ·exact z
    ·rw[ZZ ⟨z,hp⟩];simp
   ·exact CG P ns _ o h hp
theorem sI:∀(n:Nat)(l:List Nat),l.Nodup->(∀x∈l,x<n)->l.length<=n
 |0,l,_,h=>by
   cases l with
   |nil=>simp|cons a l=>exact absurd (h a ZF) (by omega)
 |n+1,l,hn,h=>by
   have h1:=sI n (l.erase n) (hn.erase n) λx hx=>by
    have h2:=h x (List.mem_of_mem_erase hx);have h3:x≠n:=λz=>by
     subst z;exact(List.Nodup.not_mem_erase hn) hx
    omega
   by_cases hm:n∈l
   ·rw[aef hm]at h1;omega
   ·rw[List.erase_of_not_mem hm]at h1;omega
structure Bf(nb:Nat->List Nat)(v:Nat->β)(n a:Nat)(R:List Nat)(k:Nat):Prop where
 nd:R.Nodup
 hd:R.head? = some a
 hg:∀x∈R,Hg nb v a x
 cl:∀j x,j<k->R[j]? = some x->∀c∈nb x,v c=v a->c∈R
 kl:k<=R.length
 lt:∀x∈R,x<n
theorem Bf.start{a:Nat}(ha:a<n):Bf nb v n a [a] 0 where
 nd:=by simp
 hd:=rfl
 hg:=λx hx=>by rw[ZW]at hx;subst hx;exact .refl
 cl:=λj x h=>absurd h (by omega)
 kl:=aap _
 lt:=λx hx=>by rw[ZW]at hx;omega
theorem Bf.next(hs:JB nb n){a:Nat}{R:List Nat}{k x:Nat}(h:Bf nb v n a R k)(hx:R[k]? = some x):Bf nb v n a (grow (λc=>decide (v c=v a)) R (nb x)) (k+1):=by
 obtain⟨T,e,q⟩:=rE (λc=>decide (v c=v a)) (nb x) R;have hxm:=aaY hx;have hxa:=(h.hg x hxm).val;have hk:k<R.length:=by
  rcases aa9 k R.length with z|z
  ·exact z
  ·rw[aag z]at hx;cases hx
 constructor
 ·exact vO _ _ _ h.nd
 ·rw[e];have:=h.hd;cases R with
  |nil=>cases this|cons b R=>exact this
 ·intro y hy;rw[e]at hy;rcases aar.mp hy with z|z
  ·exact h.hg y z
  ·have:=(q y z).2;simp only[Z7]at this;exact .step (h.hg x hxm) (q y z).1 (by rw[this,hxa])
 ·intro j y hj hy c hc hv;have hjR:R[j]? = some y:=by
   rw[e,aan (by omega)]at hy;exact hy
  by_cases hjk:j=k
  ·subst hjk;rw[hx]at hjR;cases hjR;exact CG _ _ _ c hc (by simp[hv])
  ·exact Cz _ _ _ _ (h.cl j y (by omega) hjR c hc hv)
 ·rw[e,Z6];omega
 ·intro y hy;rw[e]at hy;rcases aar.mp hy with z|z
  ·exact h.lt y z
  ·exact(hs x y (h.lt x hxm) (q y z).1).1
theorem Bf.mem{a:Nat}{R:List Nat}(h:Bf nb v n a R R.length)(x:Nat):x∈R↔Hg nb v a x:=by
 refine⟨h.hg x,λg=>?_⟩
 induction g with
 |refl=>
   have:=h.hd;cases R with
   |nil=>cases this|cons b R=>cases this;exact ZF
 |step g m e ih=>
   obtain⟨j,hj⟩:=List.getElem?_of_mem ih;refine h.cl j _ ?_ hj _ m (by rw[e,g.val]);rcases aa9 j R.length with z|z
   ·exact z
   ·rw[aag z]at hj;cases hj
theorem Bf.few{a:Nat}{R:List Nat}{k:Nat}(h:Bf nb v n a R k):R.length<=n:=sI n R h.nd h.lt
theorem Ab(hs:JB nb n){a:Nat}{c:MT}{b:MS}(S:List Nat->Nat->Ev->Prop)(hc:∀R k δ,k<=R.length->S R k δ->c δ=some (decide (k<R.length)))
 (hb:∀R k x δ,Bf nb v n a R k->R[k]? = some x->S R k δ->∃δ',b δ=some (.nx δ')/\S (grow (λc=>decide (v c=v a)) R (nb x)) (k+1) δ'):
 ∀(m:Nat)(R:List Nat)(k:Nat)(δ:Ev),n-k<=m->Bf nb v n a R k->S R k δ->∃(N:Nat)(R':List Nat)(δ':Ev),wB c b N δ=some (.nx δ')/\S R' R'.length δ'/\Bf nb v n a R' R'.length
 |m,R,k,δ,hm,h,hS=>by
   have h1:=hc R k δ h.kl hS;by_cases hk:k<R.length
   ·have hx:R[k]? = some R[k]:=ZM hk;obtain⟨δ1,e1,S1⟩:=hb R k _ δ h hx hS;have:=h.few;cases m with
    |zero=>omega|succ m=>
      obtain⟨N,R',δ',e2,S2,h2⟩:=Ab hs S hc hb m _ (k+1) δ1 (by omega) (h.next hs hx) S1;refine⟨N+1,R',δ',?_,S2,h2⟩;rw[wB,h1];simp[hk,e1,e2]
   ·have hkl:=h.kl;have:k=R.length:=by omega
    subst this;refine⟨1,R,δ,?_,hS,h⟩;rw[wB,h1];simp
end
noncomputable def rM(c:Nat):Nat:=c-c%24+(c%24+1)%24
noncomputable def uA(c:Nat):Nat:=c-c%24+(c%24+23)%24
def iu(n c:Nat):List Nat:=[rM c,uA c]++((if c+24<n then [c+24]else [])++(if 24<=c then [c-24]else []))
theorem nb_mem{n c d:Nat}:d∈iu n c↔d=rM c\/d=uA c\/(d=c+24/\c+24<n)\/(24<=c/\d=c-24):=by
 unfold iu;simp only[aar,ZP,aao,abz];by_cases h1:c+24<n<;>by_cases h2:24<=c<;>simp[h1,h2]<;>omega
theorem nG(N:Nat):JB (iu (24*N)) (24*N):=λb c hb hc=>by
 rw[nb_mem]at hc;rw[nb_mem];unfold rM uA at *;omega
theorem xC(c:Nat):dH [.int c,.int 1]=some (.int (rM c:Nat)):=by
 have e:(((rM c:Nat)):Int)=(c:Int)-(c:Int)%24+((c:Int)%24+1)%24:=by unfold rM;omega
 rw[e];rfl
theorem J8(c:Nat):dH [.int c,.int (-1)]=some (.int (uA c:Nat)):=by
 have e:(((uA c:Nat)):Int)=(c:Int)-(c:Int)%24+((c:Int)%24 + -1)%24:=by unfold uA;omega
 rw[e];rfl
noncomputable def inN(n:Nat):D->Option D
 |.int i=>if 0<=i/\i<n then some (.int i)else none
 |_=>none
theorem R7{a b:ME}{δ:Ev}{x y:D}(ha:a δ=some x)(hb:b δ=some y):gD (aj a (aj b az)) δ=some (.lst [x,y]):=by
 unfold gD aj az;rw[ha,hb];rfl
theorem yP{n c:Nat}(hc:c<n):mq [.int c,.int n]=some (.lst (aC (iu n c))):=by
 refine bZ rfl ?_;show jw [some (.int c),some (.int n),none,none]=_;unfold jw;rw[aO (bI (d:=.lst [.int (rM c:Nat),.int (uA c:Nat)]) (δ':=[some (.int c),some (.int n),some (.lst [.int (rM c:Nat),.int (uA c:Nat)]),none]) (R7 ((bF (x:=.int c) (y:=.int 1) rfl rfl).trans (xC c)) ((bF (x:=.int c) (y:=.int (-1)) rfl rfl).trans (J8 c))) rfl)];rw[aO (bI (d:=.lst [.int ((c:Int)+24),.int ((c:Int)-24)]) (δ':=[some (.int c),some (.int n),some (.lst [.int (rM c:Nat),.int (uA c:Nat)]),some (.lst [.int ((c:Int)+24),.int ((c:Int)-24)])]) rfl rfl)];have hcm:=cR (k:=1) (fv:=[1]) (i:=cC (ak 3)) (g:=gN 0) (c:=tV (oJ oLe oLt (eC (.int 0)) (ak 0) (ak 1))) (e:=ak 0) (δ:=[some (.int c),some (.int n),some (.lst [.int (rM c:Nat),.int (uA c:Nat)]),some (.lst [.int ((c:Int)+24),.int ((c:Int)-24)])]) (xs:=[.int ((c:Int)+24),.int ((c:Int)-24)]) (inN n) rfl (by simp) λx hx=>by
  have hx':∃i:Int,x=.int i:=by
   simp only[ZP,aao,abz]at hx;rcases hx with rfl|rfl<;>exact⟨_,rfl⟩
  obtain⟨i,rfl⟩:=hx';refine⟨[some (.int i),some (.int n)],rfl,?_⟩;by_cases h1:0<=i
  ·by_cases h2:i<n
   ·exact .inl ⟨by simp[tV,oJ,eC,ak,slot,oLe,oLt,oI,h1,h2,truth],.int i,rfl,by simp[inN,h1,h2]⟩
   ·exact .inr ⟨by simp[tV,oJ,eC,ak,slot,oLe,oLt,oI,h1,h2,truth],by simp[inN,h1,h2]⟩
  ·exact .inr ⟨by simp[tV,oJ,eC,ak,slot,oLe,oLt,oI,h1,truth],by simp[inN,h1]⟩
 refine bQ ((bu (x:=.lst [.int (rM c:Nat),.int (uA c:Nat)]) rfl hcm).trans ?_);have hl:([D.int ((c:Int)+24),.int ((c:Int)-24)].filterMap (inN n)).length<=2:=List.length_filterMap_le _ _;unfold bO;simp only;rw[ZZ (by simp only[Z2,aba];omega)];refine aaS (λl=>some (D.lst l)) ?_;unfold iu aC;simp only[aaf];refine aaS _ ?_;have f1:inN n (.int ((c:Int)+24))=if c+24<n then some (.int ((c+24:Nat):Int))else none:=by
  unfold inN;by_cases h1:c+24<n
  ·rw[ZZ h1];simp only;rw[ZZ (by omega)];rfl
  ·rw[aaa h1];simp only;rw[aaa (by omega)]
 have f2:inN n (.int ((c:Int)-24))=if 24<=c then some (.int ((c-24:Nat):Int))else none:=by
  unfold inN;by_cases h1:24<=c
  ·rw[ZZ h1];simp only;rw[ZZ (by omega),ae0 h1];rfl
  ·rw[aaa h1];simp only;rw[aaa (by omega)]
 rw[aaJ,aaJ,List.filterMap_nil,f1,f2];by_cases h1:c+24<n<;>by_cases h2:24<=c<;>simp[h1,h2]
section
variable{β:Type}[DecidableEq β]
noncomputable def aV(f:β->D)(v:Nat->β)(n:Nat):D:=.lst ((List.range n).map λc=>f (v c))
structure Fd(f:β->D):Prop where
 eq:∀x y,dW (f x) (f y)=decide (x=y)
 dp:∀x,bY (f x)<=30
structure Pt(nb:Nat->List Nat)(R:List Nat)(V:List D):Prop where
 len:V.length=R.length
 zero:V[0]? = some .non
 bef:∀i x,0<i->R[i]? = some x->∃j y,j<i/\R[j]? = some y/\V[i]? = some (.int (y:Nat))/\x∈nb y
theorem Pt.app{nb:Nat->List Nat}{R:List Nat}{V:List D}(h:Pt nb R V){k x o:Nat}(hx:R[k]? = some x)(ho:o∈nb x):Pt nb (R++[o]) (V++[.int (x:Nat)]):=by
 have hk:k<R.length:=by
  rcases aa9 k R.length with z|z
  ·exact z
  ·rw[aag z]at hx;cases hx
 constructor
 ·simp[h.len]
 ·rw[aan (by rw[h.len];omega)];exact h.zero
 ·intro i y hi hy;rcases aa9 i R.length with z|z
  ·rw[aan z]at hy;obtain⟨j,u,a1,a2,a3,a4⟩:=h.bef i y hi hy;refine⟨j,u,a1,?_,?_,a4⟩
   ·rw[aan (by omega)];exact a2
   ·rw[aan (by rw[h.len];omega)];exact a3
  ·have hi':i=R.length:=by
    rcases aa9 i (R++[o]).length with q|q
    ·simp at q;omega
    ·rw[aag q]at hy;cases hy
   subst hi';rw[abh (ZS _)]at hy;simp at hy;subst hy;refine⟨k,x,hk,?_,?_,ho⟩
   ·rw[aan hk];exact hx
   ·rw[abh (by rw[h.len];exact ZS _),h.len];simp
theorem Jx(R:List Nat)(o:Nat):((aC R).any λq=>dW q (.int o))=decide (o∈R):=by
 unfold aC;rw[aeC,aau,List.any_eq_true,Z7];constructor
 ·rintro⟨x,hx,e⟩;simp only[Function.comp,dW,aey]at e;have:x=o:=by omega
  exact this▸hx
 ·intro h;exact⟨o,h,by simp[dW]⟩
theorem Jy(R:List Nat)(o:Nat)(h:o∉R):((aC R).all λq => !dW q (.int o))=true:=by
 rw[aaM];intro q hq;unfold aC at hq;obtain⟨x,hx,rfl⟩:=Z5.mp hq;have:x≠o:=λz=>h (z▸hx);simp[dW];omega
theorem sX{l:List D}{c:Nat}{d:D}(h:l[c]? = some d):cz (.lst l) (.int (c:Nat))=some d:=by
 have hc:c<l.length:=by
  rcases aa9 c l.length with z|z
  ·exact z
  ·rw[aag z]at h;cases h
 unfold cz;simp only;unfold uz;rw[ZZ (by omega),ZZ (by omega)];simpa using h
theorem j4(f:β->D)(v:Nat->β){n c:Nat}(hc:c<n):cz (aV f v n) (.int (c:Nat))=some (f (v c)):=by
 unfold aV;refine sX ?_;rw[aad,acS hc];rfl
abbrev HS(vs:D)(a:Nat)(R:List Nat)(V:List D)(k:Nat)(x5 x6:Option D):Ev:=[some vs,some (.int a),none,none,some (.int k),x5,x6,none,none,some (.dic false (aC R) V),some (.lst (aC R)),none,none,none]
variable{f:β->D}{v:Nat->β}{n a:Nat}
theorem O5(hf:Fd f)(ha:a<n){R:List Nat}{V:List D}(k:Nat){x o:Nat}(ho:o<n)(hl:R.length<=100000):fW (HS (aV f v n) a R V k (some (.int x)) (some (.int o)))=
 some (.nx (if o∉R/\decide (v o=v a)=true then HS (aV f v n) a (R++[o]) (V++[.int x]) k (some (.int x)) (some (.int o))else HS (aV f v n) a R V k (some (.int x)) (some (.int o)))):=by
 have t1:tV (Pr 7 2 true (ak 6)) (HS (aV f v n) a R V k (some (.int x)) (some (.int o)))=some (!decide (o∈R)):=by
  have e:inD (.dic false (aC R) V) (.int o)=some (decide (o∈R)):=by
   show some ((aC R).any λq=>dW q (.int o))=_;rw[Jx]
  show((inD (.dic false (aC R) V) (.int o)).bind λb=>some (.bl (b != true))).bind truth=_;rw[e];cases decide (o∈R)<;>rfl
 have t2:tV (aK oEq (aK cz (ak 0) (ak 6)) (aK cz (ak 0) (ak 1))) (HS (aV f v n) a R V k (some (.int x)) (some (.int o)))=some (decide (v o=v a)):=by
  refine gM (d:=.bl (decide (v o=v a))) ((bu ((bu (x:=aV f v n) (y:=.int o) rfl rfl).trans (j4 f v ho)) ((bu (x:=aV f v n) (y:=.int a) rfl rfl).trans (j4 f v ha))).trans ?_) rfl;unfold oEq;rw[ZZ ⟨hf.dp _,hf.dp _⟩,hf.eq]
 unfold fW m6 yG;rw[t1];simp only[Z0];by_cases h1:o∈R
 ·simp[h1,gC]
 ·simp only[h1,decide_false,Bool.not_false,abL,t2,Z0];by_cases h2:v o=v a
  ·simp only[h2,decide_true,abL,ad6,and_self];have p:My 7 2 (ak 6) (ak 5) (HS (aV f v n) a R V k (some (.int x)) (some (.int o)))=some (.nx [some (aV f v n),some (.int a),none,none,some (.int k),some (.int x),some (.int o),none,none,some (.dic false (aC R++[.int o]) (V++[.int x])),some (.lst (aC R)),none,none,none]):=by
    show(if((aC R).all λq => !dW q (.int o))=true/\(aC R).length<16777216 then _ else _)=_;rw[ZZ ⟨Jy R o h1,by unfold aC;rw[ZK];omega⟩];rfl
   rw[aO p];show(if(aC R).length<16777216 then _ else _)=_;rw[ZZ (by unfold aC;rw[ZK];omega)];have ea:aC R++[.int o]=aC (R++[o]):=by unfold aC;rw[aaf];rfl
   unfold HS;rw[<-ea];rfl
  ·simp[h2,gC]
theorem zx(hf:Fd f)(ha:a<n){nb:Nat->List Nat}{k x:Nat}:∀(ns R:List Nat)(V:List D)(x6:Option D),R[k]? = some x->(∀o∈ns,o<n/\o∈nb x)->Pt nb R V->R.length+ns.length<=100000->∃V' y6,
 forM (gN 6) fW (aC ns) (HS (aV f v n) a R V k (some (.int x)) x6)=some (.nx (HS (aV f v n) a (grow (λc=>decide (v c=v a)) R ns) V' k (some (.int x)) y6))/\Pt nb (grow (λc=>decide (v c=v a)) R ns) V'
 |[],R,V,x6,_,_,hp,_=>⟨V,x6,rfl,hp⟩|o::ns,R,V,x6,hx,hn,hp,hl=>by
   simp only[Z2]at hl;obtain⟨ho,hob⟩:=hn o ZF;have e0:aC (o::ns)=.int o::aC ns:=rfl;have e1:=O5 (v:=v) hf ha (R:=R) (V:=V) k (x:=x) ho (by omega);rw[grow];by_cases h:o∉R/\decide (v o=v a)=true
   ·rw[ZZ h]at e1 ⊢;have hk:k<R.length:=by
     rcases aa9 k R.length with z|z
     ·exact z
     ·rw[aag z]at hx;cases hx
    obtain⟨V',y6,ih,hp'⟩:=zx hf ha (nb:=nb) ns (R++[o]) (V++[.int x]) (some (.int o)) (by rw[aan hk];exact hx) (λq hq=>hn q (Zy _ hq)) (hp.app hx hob) (by simp;omega);refine⟨V',y6,?_,hp'⟩;rw[e0,dU (δ1:=HS (aV f v n) a R V k (some (.int x)) (some (.int o))) rfl e1,ih]
   ·rw[aaa h]at e1 ⊢;obtain⟨V',y6,ih,hp'⟩:=zx hf ha (nb:=nb) ns R V (some (.int o)) hx (λq hq=>hn q (Zy _ hq)) hp (by omega);refine⟨V',y6,?_,hp'⟩;rw[e0,dU (δ1:=HS (aV f v n) a R V k (some (.int x)) (some (.int o))) rfl e1,ih]
theorem qZ(f:β->D)(v:Nat->β)(n:Nat):fB [aV f v n]=some (.int n):=by
 unfold aV fB;simp
theorem Vv(n c:Nat):(iu n c).length<=4:=by
 unfold iu;split<;>split<;>simp
theorem M9(hf:Fd f){N:Nat}(hn:n=24*N)(hN:N<=1000)(ha:a<n):∃R V,cY [aV f v n,.int a]=some (.dic false (aC R) V)/\Bf (iu n) v n a R R.length/\Pt (iu n) R V:=by
 have hs:JB (iu n) n:=hn▸nG N
 let S:List Nat->Nat->Ev->Prop:=λR k δ=>∃V x5 x6,δ=HS (aV f v n) a R V k x5 x6/\Pt (iu n) R V
 obtain⟨M,R,δ',e,⟨V,x5,x6,rfl,hp⟩,hb⟩:=Ab (v:=v) (a:=a) hs (c:=tV (aK oLt (ak 4) (KY 7 [3] (au fB (aj (ak 3) az))))) (b:=iG) S
  (λR k δ hk ⟨V,x5,x6,e,_⟩=>by
   subst e;have:tV (aK oLt (ak 4) (KY 7 [3] (au fB (aj (ak 3) az)))) (HS (aV f v n) a R V k x5 x6)=some (decide ((k:Int)<((aC R).length:Nat))):=rfl;rw[this];unfold aC;rw[ZK];simp)
  (λR k x δ hB hx ⟨V,x5,x6,e,hp⟩=>by
   subst e;have hxn:=hB.lt x (aaY hx);have hfew:=hB.few;have h4:=Vv n x;obtain⟨V',y6,e2,hp'⟩:=zx (v:=v) hf ha (nb:=iu n) (k:=k) (x:=x) (iu n x) R V x6 hx (λo ho=>⟨(hs x o hxn ho).1,ho⟩) hp (by omega);refine⟨HS (aV f v n) a (grow (λc=>decide (v c=v a)) R (iu n x)) V' (k+1) (some (.int x)) y6,?_,V',_,_,rfl,hp'⟩;unfold iG;have e1:KY 7 [3] (aK cz (ak 3) (ak 4)) (HS (aV f v n) a R V k x5 x6)=some (.int x):=by
    show(cz (.lst (aC R)) (.int k)).bind (λd=>if flat d=true then some d else none)=_;have:(aC R)[k]? = some (.int x):=by unfold aC;rw[aad,hx];rfl
    rw[sX this];rfl
   rw[aO (bI (δ':=HS (aV f v n) a R V k (some (.int x)) x6) e1 rfl)];rw[aO ((dj (xs:=aC (iu n x)) (by
    unfold cC;rw[bF (x:=.int x) (y:=.int n) rfl ((aM (x:=aV f v n) rfl).trans (qZ f v n)),yP hxn];rfl)).trans e2)]
   unfold HS;rw[Int.natCast_succ];rfl)
  n [a] 0 (HS (aV f v n) a [a] [.non] 0 none none) (by omega) (Bf.start ha) ⟨_,_,_,rfl,rfl,rfl,λi x hi hx=>by
   have:([a]:List Nat)[i]? = none:=aag (by simp;omega);rw[this]at hx;cases hx⟩
 refine⟨R,V,?_,hb,hp⟩;unfold cY Wu;rw[ZZ (show([aV f v n,D.int (a:Int)]:List D).length=2 from rfl)];show(fL [some (aV f v n),some (.int a),none,none,none,none,none,none,none,none,none,none,none,none]).bind _=_;have:fL [some (aV f v n),some (.int a),none,none,none,none,none,none,none,none,none,none,none,none]=some (.rt (.dic false (aC R) V)):=by
  unfold fL;have sn:∀{a b:MS}{δ δ':Ev},a δ=some (.nx δ')->uT a b δ=b δ':=λh=>by unfold uT;rw[h];rfl
  rw[sn (δ':=[some (aV f v n),some (.int a),none,none,none,none,none,none,none,some (.dic false [.int a] [.non]),none,none,none,none]) rfl];rw[sn (δ':=[some (aV f v n),some (.int a),none,none,none,none,none,none,none,some (.dic false [.int a] [.non]),some (.lst [.int a]),none,none,none]) rfl];rw[sn (δ':=HS (aV f v n) a [a] [.non] 0 none none) rfl];rw[sn (xr e)];rfl
 rw[this];rfl
end
section
variable{β:Type}[DecidableEq β]
noncomputable def mn(nb:Nat->List Nat)(v:Nat->β)(c:Nat):Bool:=@decide (∀d,Hg nb v c d->c<=d) (Classical.propDecidable _)
noncomputable def out(nb:Nat->List Nat)(v:Nat->β)(n c:Nat):Bool:=@decide (Hg nb v (n-1) c) (Classical.propDecidable _)
theorem mn_iff{nb:Nat->List Nat}{v:Nat->β}{c:Nat}:mn nb v c=true↔∀d,Hg nb v c d->c<=d:=by unfold mn;simp
theorem out_iff{nb:Nat->List Nat}{v:Nat->β}{n c:Nat}:out nb v n c=true↔Hg nb v (n-1) c:=by unfold out;simp
def wC(Gs:List (List Nat)):List D:=Gs.map λR=>.lst (aC R)
variable{f:β->D}{v:Nat->β}{n:Nat}
structure Kn(nb:Nat->List Nat)(v:Nat->β)(n c:Nat)(K:List Nat)(KV:List D)(Gs:List (List Nat)):Prop where
 nd:K.Nodup
 lt:∀x∈K,x<n
 mem:∀x,x∈K↔(Hg nb v (n-1) x\/∃d,d<c/\Hg nb v d x)
 hds:Gs.map (λR=>R.headD 0)=(List.range c).filter λd=>mn nb v d&&!out nb v n d
 bf:∀R∈Gs,∃a,a<n/\Bf nb v n a R R.length
theorem Iz:∀(R K:List Nat),R.Nodup->(∀x∈R,x∉K)->frs (aC K) (aC R)=true
 |[],_,_,_=>rfl|o::R,K,h,hk=>by
   rw[aaK]at h;have e:aC (o::R)=.int o::aC R:=rfl;have ea:aC K++[.int o]=aC (K++[o]):=by unfold aC;rw[aaf];rfl
   rw[e,frs,Jy K o (hk o ZF),ea,Iz R (K++[o]) h.2 λx hx=>?_]
   ·rfl
   ·rw[aar,ZW];rintro(z|z)
    ·exact hk x (Zy _ hx) z
    ·subst z;exact h.1 hx
theorem Jz(R:List Nat):(aC R).all isInt=true:=by
 rw[aaM];intro q hq;unfold aC at hq;obtain⟨x,hx,rfl⟩:=Z5.mp hq;rfl
theorem iY(R:List Nat):(aC R).length=R.length:=by unfold aC;rw[ZK]
abbrev BS(vs:D)(x3 x4:Option D)(K:List Nat)(KV:List D)(Gs:List (List Nat)):Ev:=[some vs,none,none,x3,x4,none,some (.dic false (aC K) KV),some (.lst (wC Gs)),none,none]
theorem Ih{nb:Nat->List Nat}(hs:JB nb n){c:Nat}(hc:c<n):mn nb v c=true↔∀d,d<c->¬ Hg nb v d c:=by
 rw[mn_iff];constructor
 ·intro h d hd g;have:=h d (g.symm hs (by omega));omega
 ·intro h d g;rcases aa9 d c with z|z
  ·exact absurd (g.symm hs hc) (h d z)
  ·exact z
theorem Iu{nb:Nat->List Nat}(hs:JB nb n){a b c:Nat}(ha:a<n)(hb:b<n)(h1:Hg nb v a c)(h2:Hg nb v b c):Hg nb v a b:=h1.trans (h2.symm hs hb)
theorem Gi(hf:Fd f){N:Nat}(hn:n=24*N)(hN:N<=1000){c:Nat}(hc:c<n)(hGc:(∀Gs:List (List Nat),Gs.length<=c->Gs.length<16777216)){K:List Nat}{KV:List D}{Gs:List (List Nat)}(h:Kn (iu n) v n c K KV Gs)(x4:Option D):∃K' KV' Gs' y4,
 di (BS (aV f v n) (some (.int c)) x4 K KV Gs)=some (.nx (BS (aV f v n) (some (.int c)) y4 K' KV' Gs'))/\Kn (iu n) v n (c+1) K' KV' Gs':=by
 have hs:JB (iu n) n:=hn▸nG N;have h0:n-1<n:=by omega
 have t1:tV (Pr 5 1 true (ak 3)) (BS (aV f v n) (some (.int c)) x4 K KV Gs)=some (!decide (c∈K)):=by
  have e:inD (.dic false (aC K) KV) (.int c)=some (decide (c∈K)):=by
   show some ((aC K).any λq=>dW q (.int c))=_;rw[Jx]
  show((inD (.dic false (aC K) KV) (.int c)).bind λb=>some (.bl (b != true))).bind truth=_;rw[e];cases decide (c∈K)<;>rfl
 by_cases hk:c∈K
 ·refine⟨K,KV,Gs,x4,?_,h.nd,h.lt,λx=>?_,?_,h.bf⟩
  ·unfold di;rw[Gh (by rw[t1];simp[hk])];rfl
  ·rw[h.mem];constructor
   ·rintro(z|⟨d,hd,z⟩)
    ·exact .inl z
    ·exact .inr ⟨d,by omega,z⟩
   ·rintro(z|⟨d,hd,z⟩)
    ·exact .inl z
    ·by_cases hdc:d=c
     ·subst hdc;rcases(h.mem d).mp hk with q|⟨e,he,q⟩
      ·exact .inl (q.trans z)
      ·exact .inr ⟨e,he,q.trans z⟩
     ·exact .inr ⟨d,by omega,z⟩
  ·rw[ab9,ae9,h.hds];have:(mn (iu n) v c&&!out (iu n) v n c)=false:=by
    rcases(h.mem c).mp hk with q|⟨e,he,q⟩
    ·rw[out_iff.mpr q];simp
    ·have:mn (iu n) v c=false:=by
      cases hm:mn (iu n) v c with
      |false=>rfl|true=>exact absurd q ((Ih hs hc).mp hm e he)
     rw[this];rfl
   simp[this]
 ·obtain⟨R,V,e,hB,hP⟩:=M9 (v:=v) hf hn hN hc;have hdis:∀x∈R,x∉K:=λx hx hxk=>hk ((h.mem c).mpr (by
   have hcx:=hB.hg x hx;rcases(h.mem x).mp hxk with q|⟨d,hd,q⟩
   ·exact .inl (Iu hs h0 hc q hcx)
   ·exact .inr ⟨d,hd,Iu hs (by omega) hc q hcx⟩))
  have hmn:(mn (iu n) v c&&!out (iu n) v n c)=true:=by
   rw[aac];refine⟨(Ih hs hc).mpr λd hd g=>hk ((h.mem c).mpr (.inr ⟨d,hd,g⟩)),?_⟩;cases ho:out (iu n) v n c with
   |false=>rfl|true=>exact absurd ((h.mem c).mpr (.inl (out_iff.mp ho))) hk
  have hcat:(K++R).Nodup:=by
   rw[ach];exact⟨h.nd,hB.nd,λa ha b hb z=>hdis b hb (z▸ha)⟩
  have hclt:∀x∈K++R,x<n:=λx hx=>by
   rcases aar.mp hx with z|z
   ·exact h.lt x z
   ·exact hB.lt x z
  have hfew:=sI n _ hcat hclt;rw[Z6]at hfew;have hGl:Gs.length<=c:=by
   have:=aaS List.length h.hds;rw[ZK]at this;rw[this];have:=ab6 (λd=>mn (iu n) v d&&!out (iu n) v n d) (List.range c);rw[abA]at this;exact this
  refine⟨K++R,KV++V,Gs++[R],some (.dic false (aC R) V),?_,hcat,hclt,λx=>?_,?_,?_⟩
  ·unfold di;rw[KC (by rw[t1];simp[hk])];have eo:jT 5 4 (au cY (aj (ak 0) (aj (ak 3) az))) (BS (aV f v n) (some (.int c)) x4 K KV Gs)=some (.nx [some (aV f v n),none,none,some (.int c),none,none,some (.dic false (aC K) KV),some (.lst (wC Gs)),none,some (.dic false (aC R) V)]):=by
    unfold jT;rw[bF (x:=aV f v n) (y:=.int c) rfl rfl,e];rfl
   rw[aO eo];show bw (Rm 5 1 (ak 4)) (Ez 5 2 (rR Al (ak 4))) [some (aV f v n),none,none,some (.int c),some (.dic false (aC R) V),none,some (.dic false (aC K) KV),some (.lst (wC Gs)),none,none]=_;have eu:Rm 5 1 (ak 4) [some (aV f v n),none,none,some (.int c),some (.dic false (aC R) V),none,some (.dic false (aC K) KV),some (.lst (wC Gs)),none,none]=some (.nx [some (aV f v n),none,none,some (.int c),some (.dic false (aC R) V),none,some (.dic false (aC K++aC R) (KV++V)),some (.lst (wC Gs)),none,none]):=by
    show(if frs (aC K) (aC R)=true/\((aC R).all isInt)=true/\(aC K).length+(aC R).length<=16777216 then _ else _)=_;rw[ZZ ⟨Iz R K hB.nd hdis,Jz R,by rw[iY,iY];omega⟩];rfl
   rw[aO eu];unfold Ez;have ek:rR Al (ak 4) [some (aV f v n),none,none,some (.int c),some (.dic false (aC R) V),none,some (.dic false (aC K++aC R) (KV++V)),some (.lst (wC Gs)),none,none]=some (.lst (aC R)):=by
    show(if((aC R).all isInt)=true/\(aC R).length<=16777216 then _ else _)=_;rw[ZZ ⟨Jz R,by rw[iY];omega⟩]
   rw[ek];show(if(wC Gs).length<16777216 then _ else _)=_;rw[ZZ (by unfold wC;rw[ZK];exact hGc Gs hGl)];have e1:aC K++aC R=aC (K++R):=by unfold aC;rw[aaf]
   have e2:wC Gs++[.lst (aC R)]=wC (Gs++[R]):=by unfold wC;rw[aaf];rfl
   unfold BS;rw[<-e1,<-e2];rfl
  ·rw[aar,h.mem,hB.mem];constructor
   ·rintro((z|⟨d,hd,z⟩)|z)
    ·exact .inl z
    ·exact .inr ⟨d,by omega,z⟩
    ·exact .inr ⟨c,by omega,z⟩
   ·rintro(z|⟨d,hd,z⟩)
    ·exact .inl (.inl z)
    ·by_cases hdc:d=c
     ·subst hdc;exact .inr z
     ·exact .inl (.inr ⟨d,by omega,z⟩)
  ·rw[ab9,ae9,aaf,h.hds];have hh:R.headD 0=c:=by
    have:=hB.hd;cases R with
    |nil=>cases this|cons b R=>cases this;rfl
   simp only[ZD,aa4,hh,acN,hmn,abL,List.filter_nil]
  ·intro Q hQ;rcases aar.mp hQ with z|z
   ·exact h.bf Q z
   ·rw[ZW]at z;subst z;exact⟨c,hc,hB⟩
theorem t6(hf:Fd f){N:Nat}(hn:n=24*N)(hN:N<=1000):∀(m c:Nat)(x3 x4:Option D)(K:List Nat)(KV:List D)(Gs:List (List Nat)),c+m=n->Kn (iu n) v n c K KV Gs->∃K' KV' Gs' y3 y4,
 forM (gN 3) di (aC (List.range' c m)) (BS (aV f v n) x3 x4 K KV Gs)=some (.nx (BS (aV f v n) y3 y4 K' KV' Gs'))/\Kn (iu n) v n n K' KV' Gs'
 |0,c,x3,x4,K,KV,Gs,hm,h=>⟨K,KV,Gs,x3,x4,rfl,by rw[Nat.add_zero]at hm;exact hm▸h⟩|m+1,c,x3,x4,K,KV,Gs,hm,h=>by
   obtain⟨K1,KV1,Gs1,z4,e1,h1⟩:=Gi hf hn hN (c:=c) (by omega) (λGs hG=>by omega) h x4;obtain⟨K',KV',Gs',y3,y4,e2,h2⟩:=t6 hf hn hN m (c+1) (some (.int c)) z4 K1 KV1 Gs1 (by omega) h1;refine⟨K',KV',Gs',y3,y4,?_,h2⟩;rw[acn];have e0:aC (c::List.range' (c+1) m)=.int c::aC (List.range' (c+1) m):=rfl;rw[e0,dU (δ1:=BS (aV f v n) (some (.int c)) x4 K KV Gs) rfl e1,e2]
theorem Bp(hf:Fd f){N:Nat}(hn:n=24*N)(hN:N<=1000)(h1:1<=N):∃Gs,cX [aV f v n]=some (.lst (wC Gs))/\Gs.map (λR=>R.headD 0)=((List.range n).filter λd=>mn (iu n) v d&&!out (iu n) v n d)/\∀R∈Gs,∃a,a<n/\Bf (iu n) v n a R R.length:=by
 have h0:n-1<n:=by omega
 obtain⟨R,V,e,hB,hP⟩:=M9 (v:=v) hf hn hN h0;obtain⟨K',KV',Gs',y3,y4,e2,h2⟩:=t6 (v:=v) hf hn hN n 0 none none R V [] (by omega) ⟨hB.nd,hB.lt,λx=>by
  rw[hB.mem];exact⟨.inl,λz=>by
   rcases z with z|⟨d,hd,_⟩
   ·exact z
   ·omega⟩,rfl,λR hR=>by cases hR⟩
 refine⟨Gs',?_,h2.hds,h2.bf⟩;refine bZ rfl ?_;show fX [some (aV f v n),none,none,none,none,none,none,none,none,none]=_;unfold fX;have e1:aK iW (au fB (aj (ak 0) az)) (eC (.int 1)) [some (aV f v n),none,none,none,none,none,none,none,none,none]=some (.int ((n-1:Nat):Int)):=by
  rw[bu ((aM (x:=aV f v n) rfl).trans (qZ f v n)) (y:=.int 1) rfl,ae0 (by omega)];rfl
 have eo:jT 5 1 (au cY (aj (ak 0) (aj (aK iW (au fB (aj (ak 0) az)) (eC (.int 1))) az))) [some (aV f v n),none,none,none,none,none,none,none,none,none]=some (.nx [some (aV f v n),none,none,none,none,none,some (.dic false (aC R) V),none,none,none]):=by
  unfold jT;rw[bF (x:=aV f v n) rfl e1,e];rfl
 rw[aO eo];rw[aO (δ':=BS (aV f v n) none none R V []) rfl];have hi:dR (au fB (aj (ak 0) az)) (BS (aV f v n) none none R V [])=some (aC (List.range' 0 n)):=by
  have:=lg (n:=n) ((aM (x:=aV f v n) rfl).trans (qZ f v n):au fB (aj (ak 0) az) (BS (aV f v n) none none R V [])=_) (by omega);rw[this,<-acg];rfl
 rw[aO ((dj hi).trans e2)];rfl
end
section
variable{β:Type}[DecidableEq β]
structure Bd(E:List Nat)(val:Nat->Nat->β)(N:Nat):Prop where
 ris:E.Pairwise (·<·)
 pos:0<E.length
 zero:E.getD 0 0=0
 lt:∀b,b<E.length->E.getD b 0<N
 bc:∀b r t,b<E.length->E.getD b 0<=r->(b+1<E.length->r<E.getD (b+1) 0)->val r t=val (E.getD b 0) t
variable{E:List Nat}{val:Nat->Nat->β}{N:Nat}
noncomputable def vv(E:List Nat)(val:Nat->Nat->β)(c:Nat):β:=val (E.getD (c/24) 0) (c%24)
end
end DL.Pg
namespace DL.Pg
open PySem DL DL.Lw
noncomputable def bU(p:Pc):List Nat:=(List.range p.w).map λk=>(p.b+k)%24
theorem JK(p:Pc):(dF p).map D.int=aC (bU p):=by unfold dF aC bU;rw[aai,aai];rfl
def d7(p:Pc)(bs:List Nat):List Nat:=bs.flatMap λb=>(bU p).map λt=>24*b+t
theorem Ir(x:Nat):∀E:List Nat,(E.map λ(n:Nat)=>(n:Int)).idxOf (x:Int)=E.idxOf x
 |[]=>rfl|e::E=>by
   rw[ZD,List.idxOf_cons,List.idxOf_cons,Ir x E];have:((e:Int)==(x:Int))=(e==x):=by rw[aau];simp;omega
   rw[this]
theorem Hv{E:List Nat}{x:Nat}(hx:x∈E):pW (.lst (aC E)) (.int x)=some (.int (E.idxOf x:Nat)):=by
 unfold pW;simp only;rw[vJ];simp only[Z0];rw[ZZ (Z5.mpr ⟨x,hx,rfl⟩),Ir]
theorem Ff(a m:Nat):jt a m=aC (List.range' a m):=by
 unfold jt aC;rw[List.range'_eq_map_range,aai];refine aaD λi _=>?_;simp
theorem J2{a b:ME}{δ:Ev}{i j:Int}(ha:a δ=some (.int i))(hb:b δ=some (.int j))(h : -1073741824<i/\i<1073741824 /\ -1073741824<j/\j<1073741824):rB a b δ=some (jt i (j-i).toNat):=by
 unfold rB;rw[ha,hb];simp only[Z0];rw[ZZ h]
noncomputable def Wn(b:Nat):D->D
 |.int t=>.int (24*(b:Int)+t)|d=>d
theorem G4{p:Pc}(x0 x1 x2 x4:Option D)(b:Nat)(r:Ev)(hw:p.w<=24):
 bM 1 [5] (cC (ak 3)) (gN 0) tT (aK bO (aK cA (eC (.int 24)) (ak 1)) (ak 0)) ([x0,x1,x2,some (.lst (aC (bU p))),x4,some (.int b)]++r)=some (.lst (aC ((bU p).map λt=>24*b+t))):=by
 have hl:(aC (bU p)).length<=16777216:=by unfold aC bU;simp;omega
 have hc:=cR (k:=1) (fv:=[5]) (i:=cC (ak 3)) (g:=gN 0) (c:=tT) (e:=aK bO (aK cA (eC (.int 24)) (ak 1)) (ak 0)) (δ:=[x0,x1,x2,some (.lst (aC (bU p))),x4,some (.int b)]++r) (xs:=aC (bU p)) (λx=>some (Wn b x)) rfl hl λx hx=>by
  unfold aC at hx;obtain⟨t,_,rfl⟩:=Z5.mp hx;refine⟨[some (.int t),some (.int b)],rfl,.inl ⟨rfl,Wn b (.int t),?_,rfl⟩⟩;have em:cA (.int 24) (.int b)=some (.int (24*b)):=dG (by decide);exact(bu ((bu (x:=.int 24) (y:=.int b) rfl rfl).trans em) (y:=.int t) rfl).trans rfl
 rw[hc,aaQ];unfold aC;rw[aai,aai];refine aaS (λl=>some (D.lst l)) (aaD λt _=>?_);simp only[Function.comp,Wn];congr 1
theorem v6{p:Pc}(hw:p.w<=24)(x0 x1 x2:Option D):∀(bs:List Nat)(acc:List Nat)(x5:Option D),acc.length+24*bs.length<=100000->∃y5,
 forM (gN 5) jA (aC bs) [x0,x1,x2,some (.lst (aC (bU p))),none,x5,none,none,none,none,some (.lst (aC acc)),none]=
  some (.nx [x0,x1,x2,some (.lst (aC (bU p))),none,y5,none,none,none,none,some (.lst (aC (acc++d7 p bs))),none])
 |[],acc,x5,_=>⟨x5,by simp[aC,forM,d7]⟩|b::bs,acc,x5,hl=>by
   simp only[Z2]at hl;have hm:(bU p).length<=24:=by unfold bU;simp;exact hw
   have e:jA [x0,x1,x2,some (.lst (aC (bU p))),none,some (.int b),none,none,none,none,some (.lst (aC acc)),none]=
    some (.nx [x0,x1,x2,some (.lst (aC (bU p))),none,some (.int b),none,none,none,none,some (.lst (aC (acc++(bU p).map λt=>24*b+t))),none]):=by
    have eb:=G4 (p:=p) x0 x1 x2 none b [none,none,none,none,some (.lst (aC acc)),none] hw;unfold jA Ey;simp only[List.cons_append,acY]at eb;rw[eb];show(if(aC acc).length+(aC ((bU p).map λt=>24*b+t)).length<=16777216 then _ else _)=_;rw[ZZ (by rw[iY,iY,ZK];omega)];have:aC acc++aC ((bU p).map λt=>24*b+t)=aC (acc++(bU p).map λt=>24*b+t):=by unfold aC;rw[aaf]
    rw[<-this];rfl
   obtain⟨y5,ih⟩:=v6 hw x0 x1 x2 bs (acc++(bU p).map λt=>24*b+t) (some (.int b)) (by rw[Z6,ZK];omega);refine⟨y5,?_⟩;have e0:aC (b::bs)=.int b::aC bs:=rfl;rw[e0,dU (δ1:=[x0,x1,x2,some (.lst (aC (bU p))),none,some (.int b),none,none,none,none,some (.lst (aC acc)),none]) rfl e,ih];unfold d7;rw[abg,aa8]
noncomputable def fK(E:List Nat)(p:Pc):List Nat:=List.range' (E.idxOf p.i) (E.idxOf p.o-E.idxOf p.i)
theorem Fo{p:Pc}(h:p.ok){E:List Nat}(hi:p.i∈E)(ho:p.o∈E)(hE:E.length<=1000):mz [pD p,.lst (aC E)]=some (.lst (aC (d7 p (fK E p)))):=by
 have hw:p.w<=24:=h.2.2.2.2;have l1:=abf hi;have l2:=abf ho;obtain⟨y5,e⟩:=v6 hw (some (pD p)) (some (.lst (aC E))) (some (.tup [.int p.i,.int p.o])) (fK E p) [] none (by unfold fK;simp;omega);refine bZ rfl ?_;show mH [some (pD p),some (.lst (aC E)),none,none,none,none,none,none,none,none,none,none]=_;unfold mH;rw[aO (bI (d:=.tup [.int p.i,.int p.o]) (δ':=[some (pD p),some (.lst (aC E)),some (.tup [.int p.i,.int p.o]),none,none,none,none,none,none,none,none,none]) ((aM (x:=pD p) rfl).trans (Fg h)) rfl)];rw[aO (bI (d:=.lst (aC (bU p))) (δ':=[some (pD p),some (.lst (aC E)),some (.tup [.int p.i,.int p.o]),some (.lst (aC (bU p))),none,none,none,none,none,none,none,none]) ((aM (x:=pD p) rfl).trans ((Hs h).trans (by rw[JK]))) rfl)];rw[aO (δ':=[some (pD p),some (.lst (aC E)),some (.tup [.int p.i,.int p.o]),some (.lst (aC (bU p))),none,none,none,none,none,none,some (.lst (aC [])),none]) rfl];have hr:rB (aK pW (ak 1) (aK cz (ak 2) (eC (.int 0)))) (aK pW (ak 1) (aK cz (ak 2) (eC (.int 1)))) [some (pD p),some (.lst (aC E)),some (.tup [.int p.i,.int p.o]),some (.lst (aC (bU p))),none,none,none,none,none,none,some (.lst (aC [])),none]=some (aC (fK E p)):=by
  rw[J2 ((bu (x:=.lst (aC E)) (y:=.int p.i) rfl rfl).trans (Hv hi)) ((bu (x:=.lst (aC E)) (y:=.int p.o) rfl rfl).trans (Hv ho)) (by omega),Ff];unfold fK;rw[show(((E.idxOf p.o:Nat):Int)-((E.idxOf p.i:Nat):Int)).toNat=E.idxOf p.o-E.idxOf p.i by omega]
 rw[aO ((dj hr).trans e)];rfl
theorem ye(b t:Nat)(ht:t<24)(b':Nat):∀l:List Nat,(∀x∈l,x<24)->(l.map λx=>24*b'+x).count (24*b+t)=if b'=b then l.count t else 0
 |[],_=>by simp|x::l,h=>by
   have hx:=h x ZF;rw[ZD,abQ,abQ,ye b t ht b' l λy hy=>h y (Zy _ hy)];by_cases hb:b'=b
   ·subst hb;simp only[abL];have:(24*b'+x==24*b'+t)=(x==t):=by rw[aau];simp
    rw[this]
   ·have:(24*b'+x==24*b+t)=false:=by simp;omega
    simp[hb,this]
theorem uf(p:Pc)(b t:Nat)(ht:t<24):∀bs:List Nat,(d7 p bs).count (24*b+t)=bs.count b*(bU p).count t
 |[]=>by simp[d7]|b'::bs=>by
   have ih:=uf p b t ht bs;unfold d7 at ih ⊢;rw[abg,List.count_append,ih,ye b t ht b' (bU p) λx hx=>by
    unfold bU at hx;obtain⟨k,_,rfl⟩:=Z5.mp hx;exact aaq _ (by decide),abQ]
   by_cases hb:b'=b
   ·subst hb;simp[Nat.add_mul,Nat.add_comm]
   ·simp[hb]
theorem zJ{p:Pc}(h:p.ok){t:Nat}(ht:t<24):(bU p).count t=if p.at t=true then 1 else 0:=by
 unfold bU Pc.at;rw[ue p.b h.2.2.1 p.w (by have:=h.2.2.2.2;omega) t ht];simp only[Z7]
theorem zK(b a m:Nat):(List.range' a m).count b=if a<=b/\b<a+m then 1 else 0:=by
 rw[(List.nodup_range' (s:=a) (n:=m)).count];simp[adi]
theorem Oz{E:List Nat}(hE:E.Pairwise (·<·)){x:Nat}(hx:x∈E){b:Nat}(hb:b<E.length):E.idxOf x<=b↔x<=E[b]:=by
 have hl:=abf hx;have hg:E[E.idxOf x]=x:=List.getElem_idxOf hl;rw[acQ]at hE;constructor
 ·intro h;rcases aa9 (E.idxOf x) b with z|z
  ·have:=hE _ _ hl hb z;omega
  ·have:E.idxOf x=b:=by omega
   subst this;omega
 ·intro h;rcases aa9 b (E.idxOf x)with z|z
  ·have:=hE _ _ hb hl z;omega
  ·exact z
theorem Dq{p:Pc}(h:p.ok){E:List Nat}(hE:E.Pairwise (·<·))(hi:p.i∈E)(ho:p.o∈E){c:Nat}(hc:c<24*E.length):(d7 p (fK E p)).count c=if p.has (E.getD (c/24) 0) (c%24)=true then 1 else 0:=by
 have hb:c/24<E.length:=by omega
 have ht:c%24<24:=aaq _ (by decide);have e:=uf p (c/24) (c%24) ht (fK E p);rw[show 24*(c/24)+c%24=c by omega]at e;rw[e,zJ h ht];unfold fK;rw[zK];have h1:=Oz hE hi hb;have h2:=Oz hE ho hb;have hg:E.getD (c/24) 0=E[c/24]:=by simp[hb]
 rw[hg];unfold Pc.has;by_cases a1:p.i<=E[c/24]<;>by_cases a2:E[c/24]<p.o
 ·rw[ZZ (by omega)];simp[a1,a2]
 ·rw[aaa (by omega)];simp[a2]
 ·rw[aaa (by omega)];simp[a1]
 ·rw[aaa (by omega)];simp[a1]
noncomputable def zs(l:List Nat):List Int:=l.map λ(n:Nat)=>(n:Int)
theorem Yq(l:List Nat):(zs l).map D.int=aC l:=by unfold zs aC;rw[aai];rfl
theorem jR(n:Int):∀(cs:List Int)(rows:List (List Int)),(eF rows n cs).length=rows.length
 |[],_=>rfl|c::cs,rows=>by
   show(eF (rows.set c.toNat _) n cs).length=_;rw[jR n cs];simp
theorem ww(n:Int)(c:Nat):∀(cs:List Nat)(rows:List (List Int)),(∀x∈cs,x<rows.length)->(eF rows n (zs cs)).getD c []=rows.getD c []++List.replicate (cs.count c) n
 |[],rows,_=>by simp[zs,eF]|x::cs,rows,h=>by
   have hx:=h x ZF;show(eF (rows.set (x:Int).toNat (rows.getD (x:Int).toNat []++[n])) n (zs cs)).getD c []=_;rw[aax,ww n c cs _ λy hy=>by rw[abb];exact h y (Zy _ hy),abQ];by_cases e:x=c
   ·subst e;simp only[Z3,Z9 hx,acO,ab0,abL,aa8];rfl
   ·simp only[Z3,ZQ e];have:(x==c)=false:=by simp[e]
    simp[this]
theorem La{p:Pc}{E:List Nat}(ho:p.o∈E):∀c∈d7 p (fK E p),c<24*E.length:=λc hc=>by
 unfold d7 fK at hc;obtain⟨b,hb,hx⟩:=aaz.mp hc;obtain⟨t,ht,rfl⟩:=Z5.mp hx;rw[adi]at hb;unfold bU at ht;obtain⟨k,_,rfl⟩:=Z5.mp ht;have l2:=abf ho;have:=aaq (p.b+k) (show 0<24 by decide);omega
theorem GR{p:Pc}(h:p.ok){E:List Nat}(ho:p.o∈E):(d7 p (fK E p)).length<=24*E.length:=by
 have l2:=abf ho;have hw:=h.2.2.2.2;have:∀bs:List Nat,(d7 p bs).length=p.w*bs.length:=λbs=>by
  induction bs with
  |nil=>simp[d7]|cons b bs ih=>
    unfold d7 at ih ⊢;rw[abg,Z6,ih,ZK,Z2,Nat.mul_add];unfold bU;simp;omega
 rw[this];unfold fK;rw[List.length_range'];exact aaV (aeT _ hw) (adM _ (by omega))
theorem Ik{E:List Nat}(hE:E.Pairwise (·<·))(hEl:E.length<=1000):∀(s:List Pc)(k:Nat)(rows:List (List Int)),(∀p∈s,p.ok/\p.i∈E/\p.o∈E)->k+s.length<=1000->rows.length=24*E.length->(∀r∈rows,r.length<=k)->
 ∃rows',wM mz (.lst (aC E)) k (s.map pD) rows=some rows'/\rows'.length=24*E.length/\∀c,c<24*E.length->rows'.getD c []=rows.getD c []++zs (dg k s (E.getD (c/24) 0) (c%24))
 |[],k,rows,_,_,hl,_=>⟨rows,rfl,hl,λc _=>by simp[dg,zs]⟩|p::s,k,rows,h,hk,hl,hr=>by
   simp only[Z2]at hk;obtain⟨hp,hi,ho⟩:=h p ZF;have hlt:=La (p:=p) ho;have hcl:=GR hp ho;have hget:∀c,c<24*E.length->(eF rows (k:Int) (zs (d7 p (fK E p)))).getD c []=rows.getD c []++(if p.has (E.getD (c/24) 0) (c%24)=true then [(k:Int)]else []):=λc hc=>by
    rw[ww _ c _ _ λx hx=>by rw[hl];exact hlt x hx,Dq hp hE hi ho hc];split<;>rfl
   have hlen:=jR (k:Int) (zs (d7 p (fK E p))) rows;obtain⟨rows',e,h1,h2⟩:=Ik hE hEl s (k+1) (eF rows (k:Int) (zs (d7 p (fK E p)))) (λq hq=>h q (Zy _ hq)) (by omega) (by rw[hlen,hl]) λr hrr=>by
    obtain⟨c,hc,rfl⟩:=adK hrr;have hc':c<24*E.length:=by rw[hlen,hl]at hc;exact hc
    have:=hget c hc';rw[Z3,ZM hc,acO]at this;rw[this,Z6];have hrow:(rows.getD c []).length<=k:=by
     have hc2:c<rows.length:=by omega
     rw[Z3,ZM hc2,acO];exact hr _ (aaX hc2)
    split<;>simp only[Z2,aba]<;>omega
   refine⟨rows',?_,h1,λc hc=>?_⟩
   ·rw[ZD,wM,Fo hp hi ho hEl];simp only[Z0];rw[vJ];simp only[Z0];have c1:(((d7 p (fK E p)).map λ(n:Nat)=>(n:Int)).all λc=>decide (0<=c)&&decide (c<rows.length))=true:=by
     rw[aaM];intro x hx;obtain⟨c,hc,rfl⟩:=Z5.mp hx;have:=hlt c hc;rw[aac,Z7,Z7];omega
    have c2:(rows.all λr=>decide (r.length+((d7 p (fK E p)).map λ(n:Nat)=>(n:Int)).length<=1000000))=true:=by
     rw[aaM];intro r hrr;have:=hr r hrr;rw[ZK,Z7];omega
    rw[ZZ ⟨c1,c2⟩];exact e
   ·rw[h2 c hc,hget c hc,dg];split<;>simp[zs]
theorem Ko{cm:ME}{fn:MF}{m:MS}{ps es cs:List D}{rows:List (List Int)}(hc:cm [some (.tup ps),some (.lst es),none,none,none,none]=some (.lst cs))(hl:cs.length<=1000000)(e:wM fn (.lst es) 0 ps (List.replicate cs.length [])=some rows):
 qD cm fn m [some (.tup ps),some (.lst es),none,none,none,none]=m [some (.tup ps),some (.lst es),some (Bk rows),none,none,none]:=by
 unfold qD;simp only;rw[hc];simp only[Z0];rw[ZZ hl,e];rfl
def ly(s:List Pc)(E:List Nat)(c:Nat):List Nat:=dg 0 s (E.getD (c/24) 0) (c%24)
def lK(l:List Nat):D:=.tup (aC l)
noncomputable def Yr:D->D
 |.lst l=>.tup l|d=>d
theorem o7{s:List Pc}{E:List Nat}(hE:E.Pairwise (·<·))(hEl:E.length<=1000)(h:∀p∈s,p.ok/\p.i∈E/\p.o∈E)(hl:s.length<=1000):gb [aQ s,.lst (aC E)]=some (aV lK (ly s E) (24*E.length)):=by
 obtain⟨rows,e,h1,h2⟩:=Ik hE hEl s 0 (List.replicate (24*E.length) []) h (by omega) (by simp) λr hr=>by
  rw[List.eq_of_mem_replicate hr];simp
 have hrows:rows=(List.range (24*E.length)).map λc=>zs (ly s E c):=by
  refine acM (by simp[h1]) λc hc hc'=>?_;have hcn:c<24*E.length:=by omega
  have:=h2 c hcn;rw[Z3,ZM hc,acO]at this;rw[this];simp[ly,hcn]
 refine bZ rfl ?_;show iT [some (aQ s),some (.lst (aC E)),none,none,none,none]=_;unfold iT;have hcm:∃cs:List D,cs.length=24*E.length/\bM 1 [] (dR (aK cA (eC (.int 24)) (au fB (aj (ak 1) az)))) (gN 0) tT (gD az) [some (aQ s),some (.lst (aC E)),none,none,none,none]=some (.lst cs):=by
  have em:cA (.int 24) (.int (E.length:Nat))=some (.int ((24*E.length:Nat):Int)):=by
   rw[dG (by decide)];simp
  have el:au fB (aj (ak 1) az) [some (aQ s),some (.lst (aC E)),none,none,none,none]=some (.int (E.length:Nat)):=by
   rw[aM (x:=.lst (aC E)) rfl];show some (D.int ((aC E).length:Nat))=_;rw[iY]
  have hi:=lg (n:=24*E.length) ((bu (x:=.int 24) rfl el).trans em:aK cA (eC (.int 24)) (au fB (aj (ak 1) az)) [some (aQ s),some (.lst (aC E)),none,none,none,none]=_) (by omega);refine⟨_,?_,cR (λ_=>some (.lst [])) hi (by unfold dN;simp;omega) λx hx=>⟨_,rfl,.inl ⟨rfl,_,rfl,rfl⟩⟩⟩;rw[aaQ];unfold dN;simp
 obtain⟨cs,hcl,hcm⟩:=hcm;unfold aQ at hcm ⊢;rw[<-hcl]at e;rw[Ko hcm (by omega) e,hrows];have hrl:(List.map (λr=>D.lst (List.map D.int r)) (List.map (λc=>zs (ly s E c)) (List.range (24*E.length)))).length<=16777216:=by simp;omega
 have hc:=cR (k:=1) (fv:=[]) (i:=cC (ak 2)) (g:=gN 0) (c:=tT) (e:=au dJ (aj (ak 0) az)) (δ:=[some (.tup (s.map pD)),some (.lst (aC E)),some (Bk ((List.range (24*E.length)).map λc=>zs (ly s E c))),none,none,none]) (λx=>some (Yr x)) rfl hrl λx hx=>by
  obtain⟨r,_,rfl⟩:=Z5.mp hx;exact⟨[some (.lst (r.map D.int))],rfl,.inl ⟨rfl,_,rfl,rfl⟩⟩
 refine bQ (hc.trans ?_);rw[aaQ,aai,aai];unfold aV;refine aaS (λl=>some (D.lst l)) (aaD λc _=>?_);show D.tup ((zs (ly s E c)).map D.int)=_;rw[Yq];rfl
def cv(s:List Pc)(E:List Nat)(c:Nat):Bool:=decide (0<dep s (E.getD (c/24) 0) (c%24))
noncomputable def Za:D->D
 |.tup l=>.bl (decide (0<l.length))|d=>d
theorem xB{s:List Pc}{E:List Nat}(hE:E.Pairwise (·<·))(hEl:E.length<=1000)(h:∀p∈s,p.ok/\p.i∈E/\p.o∈E)(hl:s.length<=1000):eQ [aQ s,.lst (aC E)]=some (aV D.bl (cv s E) (24*E.length)):=by
 refine bZ rfl ?_;show gq [some (aQ s),some (.lst (aC E))]=_;unfold gq;have hi:cC (au gb (aj (ak 0) (aj (ak 1) az))) [some (aQ s),some (.lst (aC E))]=some ((List.range (24*E.length)).map λc=>lK (ly s E c)):=by
  unfold cC;rw[bF (x:=aQ s) (y:=.lst (aC E)) rfl rfl,o7 hE hEl h hl];rfl
 have hc:=cR (k:=1) (fv:=[]) (g:=gN 0) (c:=tT) (e:=aK R4 (au fB (aj (ak 0) az)) (eC (.int 0))) (λx=>some (Za x)) hi (by simp;omega) λx hx=>by
  obtain⟨c,_,rfl⟩:=Z5.mp hx;refine⟨[some (lK (ly s E c))],rfl,.inl ⟨rfl,.bl (decide ((0:Int)<((aC (ly s E c)).length:Nat))),rfl,?_⟩⟩;unfold lK Za;simp
 refine bQ (hc.trans ?_);rw[aaQ,aai];unfold aV;refine aaS (λl=>some (D.lst l)) (aaD λc _=>?_);show D.bl (decide (0<(aC (ly s E c)).length))=_;rw[iY];unfold ly;rw[gf];rfl
theorem XM:Fd D.bl:=⟨λx y=>by cases x<;>cases y<;>rfl,λ_=>aap _⟩
def Sy(v:Nat->Bool)(n:Nat)(b:Bool):Nat:=((List.range n).filter λc=>(mn (iu n) v c&&!out (iu n) v n c)&&v c==b).length
noncomputable def Yh(v:Nat->Bool)(b:Bool):D->Option D
 |.lst (.int i::r)=>if v i.toNat=b then some (.lst (.int i::r))else none
 |_=>none
theorem O4(v:Nat->Bool)(b:Bool):∀Gs:List (List Nat),(∀R∈Gs,R≠[])->((wC Gs).filterMap (Yh v b)).length=((Gs.map λR=>R.headD 0).filter λc=>v c==b).length
 |[],_=>rfl|[]::Gs,h=>absurd rfl (h [] ZF)|(c::R)::Gs,h=>by
   have ih:=O4 v b Gs λR hR=>h R (Zy _ hR);unfold wC at ih ⊢;rw[ZD,ZD,aaJ,acN];have e:Yh v b (.lst (aC (c::R)))=if v c=b then some (.lst (aC (c::R)))else none:=rfl
   rw[e];by_cases hv:v c=b
   ·simp only[hv,abL,List.headD_cons,ab0,Z2,ih]
   ·have hv':(v c==b)=false:=by simp[hv]
    simp only[hv,abT,List.headD_cons,hv',ih];rfl
theorem Ht{s:List Pc}(h:∀p∈s,p.ok)(hl:s.length<=1000)(he:(edges s).length<64)(b:Bool):eZ [aQ s,.bl b]=some (.int (Sy (cv s (edges s)) (24*(edges s).length) b:Nat)):=by
 have hE:=bA s;have hin:∀p∈s,p.ok/\p.i∈edges s/\p.o∈edges s:=λp hp=>by
  have:∀x,x∈[p.i,p.o]->x∈jU s:=λx hx=>Zy _ (aaz.mpr ⟨p,hp,hx⟩);exact⟨h p hp,(cL h _).mpr (this _ (by simp)),(cL h _).mpr (this _ (by simp))⟩
 have hc:=xB hE (by omega) hin hl;obtain⟨es,e1⟩:=dZ s;have h1:1<=(edges s).length:=by rw[e1];simp
 obtain⟨Gs,eg,hh,hb⟩:=Bp (v:=cv s (edges s)) XM (n:=24*(edges s).length) rfl (by omega) h1;refine bZ rfl ?_;show fu [some (aQ s),some (.bl b),none]=_;unfold fu;generalize hn:24*(edges s).length=n at *;have ea:au eQ (aj (ak 0) (aj (au cZ (aj (ak 0) az)) az)) [some (aQ s),some (.bl b),none]=some (aV D.bl (cv s (edges s)) n):=(bF (x:=aQ s) (y:=.lst (aC (edges s))) rfl ((aM (x:=aQ s) rfl).trans (oE h hl he))).trans hc;rw[aO (bI (δ':=[some (aQ s),some (.bl b),some (aV D.bl (cv s (edges s)) n)]) ea rfl)];have hi:cC (au cX (aj (ak 2) az)) [some (aQ s),some (.bl b),some (aV D.bl (cv s (edges s)) n)]=some (wC Gs):=by
  unfold cC;rw[aM (x:=aV D.bl (cv s (edges s)) n) rfl,eg];rfl
 have hlen:(wC Gs).length<=n:=by
  have:=aaS List.length hh;unfold wC;rw[ZK]at this ⊢;rw[this];have:=ab6 (λd=>mn (iu n) (cv s (edges s)) d&&!out (iu n) (cv s (edges s)) n d) (List.range n);rw[abA]at this;exact this
 have hcp:=cR (k:=1) (fv:=[1,2]) (g:=gN 0) (c:=tV (aK oEq (aK cz (ak 2) (aK cz (ak 0) (eC (.int 0)))) (ak 1))) (e:=ak 0) (Yh (cv s (edges s)) b) hi (by omega) λx hx=>by
  obtain⟨R,hR,rfl⟩:=Z5.mp hx;obtain⟨a,ha,hB⟩:=hb R hR;have hd:=hB.hd;cases R with
  |nil=>cases hd|cons c R=>
    cases hd;refine⟨[some (.lst (aC (a::R))),some (.bl b),some (aV D.bl (cv s (edges s)) n)],rfl,?_⟩;have t:tV (aK oEq (aK cz (ak 2) (aK cz (ak 0) (eC (.int 0)))) (ak 1)) [some (.lst (aC (a::R))),some (.bl b),some (aV D.bl (cv s (edges s)) n)]=some (cv s (edges s) a==b):=by
     have e0:cz (.lst (aC (a::R))) (.int 0)=some (.int (a:Nat)):=sX (c:=0) rfl;refine gM (d:=.bl (cv s (edges s) a==b)) ((bu ((bu (x:=aV D.bl (cv s (edges s)) n) (y:=.int a) rfl ((bu (x:=.lst (aC (a::R))) (y:=.int 0) rfl rfl).trans e0)).trans (j4 D.bl _ ha)) (y:=.bl b) rfl).trans ?_) rfl;cases cv s (edges s) a<;>cases b<;>rfl
    have e2:Yh (cv s (edges s)) b (.lst (aC (a::R)))=if cv s (edges s) a=b then some (.lst (aC (a::R)))else none:=rfl
    rw[t,e2];by_cases hv:cv s (edges s) a=b
    ·exact .inl ⟨by simp[hv],_,rfl,by rw[ZZ hv]⟩
    ·exact .inr ⟨by simp[hv],by rw[aaa hv]⟩
 refine bQ ((aM hcp).trans ?_);unfold fB;simp only;rw[O4 _ _ _ λR hR=>?_,hh,List.filter_filter]
 ·unfold Sy;refine aaS (λk:Nat=>some (D.int (k:Int))) (aaS List.length (List.filter_congr λc _=>?_));rw[Bool.and_comm]
 ·obtain⟨a,ha,hB⟩:=hb R hR;intro z;have:=hB.hd;rw[z]at this;cases this
theorem Rr{s:List Pc}(h:∀p∈s,p.ok)(hl:s.length<=1000)(he:(edges s).length<64):qX [aQ s]=some (.int (Sy (cv s (edges s)) (24*(edges s).length) true:Nat)):=
 bZ rfl (bQ ((bF (x:=aQ s) (y:=.bl true) rfl rfl).trans (Ht h hl he true)))
theorem Rt{s:List Pc}(h:∀p∈s,p.ok)(hl:s.length<=1000)(he:(edges s).length<64):qY [aQ s]=some (.int (Sy (cv s (edges s)) (24*(edges s).length) false:Nat)):=
 bZ rfl (bQ ((bF (x:=aQ s) (y:=.bl false) rfl rfl).trans (Ht h hl he false)))
noncomputable def Lr(v:Nat->Bool)(E:List Nat)(c:Nat):Int:=if(v c != v (c+24))=true then(E.getD (c/24+1) 0:Nat)else 0
def Lp(v:Nat->Bool)(E:List Nat)(c:Nat):Int:=if(v c != v (rM c))=true then(E.getD (c/24+1) 0:Nat)-(E.getD (c/24) 0:Nat)else 0
theorem Ug(a b:Bool):um (.bl a) (.bl b)=some (.bl (a != b)):=by cases a<;>cases b<;>rfl
abbrev OS(sh:D)(E:List Nat)(v:Nat->Bool)(n:Nat)(A L:Int)(x5 x6:Option D):Ev:=[some sh,some (.lst (aC E)),some (aV D.bl v n),some (.int A),some (.int L),x5,x6]
theorem Io{E:List Nat}{c:Nat}(h:c<E.length):cz (.lst (aC E)) (.int (c:Nat))=some (.int (E.getD c 0:Nat)):=by
 refine sX ?_;unfold aC;rw[aad,ZM h];simp[h]
theorem Ox{c:MT}{a b:MS}{δ:Ev}{k:Bool}(h:c δ=some k):m6 c a b δ=if k=true then a δ else b δ:=by unfold m6;rw[h];rfl
theorem GX{E:List Nat}{v:Nat->Bool}{n c:Nat}(hn:n=24*E.length)(hc:c<n-24)(sh:D)(A L:Int)(x6:Option D):
 mJ (OS sh E v n A L (some (.int c)) x6)=some (.nx (OS sh E v n (A+Lr v E c) (L+Lp v E c) (some (.int c)) (some (.int (c/24:Nat))))):=by
 unfold mJ;have hb1:c/24+1<E.length:=by omega
 have eb:(((c/24:Nat)):Int)=(c:Int)/24:=by omega
 have e1:aK vh (ak 5) (eC (.int 24)) (OS sh E v n A L (some (.int c)) x6)=some (.int (c/24:Nat)):=by rw[eb];rfl
 rw[aO (bI (δ':=OS sh E v n A L (some (.int c)) (some (.int (c/24:Nat)))) e1 rfl)];have p24:aK bO (ak 5) (eC (.int 24)) (OS sh E v n A L (some (.int c)) (some (.int (c/24:Nat))))=some (.int ((c+24:Nat):Int)):=rfl;have p1:∀A L,aK bO (ak 6) (eC (.int 1)) (OS sh E v n A L (some (.int c)) (some (.int (c/24:Nat))))=some (.int ((c/24+1:Nat):Int)):=λ_ _=>rfl;have t1:tV (aK um (aK cz (ak 2) (ak 5)) (aK cz (ak 2) (aK bO (ak 5) (eC (.int 24))))) (OS sh E v n A L (some (.int c)) (some (.int (c/24:Nat))))=some (v c != v (c+24)):=
  gM ((bu ((bu (x:=aV D.bl v n) (y:=.int c) rfl rfl).trans (j4 D.bl v (by omega))) ((bu (x:=aV D.bl v n) rfl p24).trans (j4 D.bl v (by omega)))).trans (Ug _ _)) rfl
 have i1:∀A L,aK cz (ak 1) (aK bO (ak 6) (eC (.int 1))) (OS sh E v n A L (some (.int c)) (some (.int (c/24:Nat))))=some (.int (E.getD (c/24+1) 0:Nat)):=λA L=>(bu (x:=.lst (aC E)) rfl (p1 A L)).trans (Io hb1);have s1:m6 (tV (aK um (aK cz (ak 2) (ak 5)) (aK cz (ak 2) (aK bO (ak 5) (eC (.int 24)))))) (Bg 3 (oI λu v=>some (.int (u+v))) (aK cz (ak 1) (aK bO (ak 6) (eC (.int 1))))) gC (OS sh E v n A L (some (.int c)) (some (.int (c/24:Nat))))=
  some (.nx (OS sh E v n (A+Lr v E c) L (some (.int c)) (some (.int (c/24:Nat))))):=by
  rw[Ox t1];unfold Lr;by_cases h:(v c != v (c+24))=true
  ·rw[ZZ h,ZZ h];unfold Bg;rw[i1];rfl
  ·rw[aaa h,aaa h,afb];rfl
 rw[aO s1];have hbs:rM c<n:=by unfold rM;omega
 have t2:tV (aK um (aK cz (ak 2) (ak 5)) (aK cz (ak 2) (au dH (aj (ak 5) (aj (eC (.int 1)) az))))) (OS sh E v n (A+Lr v E c) L (some (.int c)) (some (.int (c/24:Nat))))=some (v c != v (rM c)):=
  gM ((bu ((bu (x:=aV D.bl v n) (y:=.int c) rfl rfl).trans (j4 D.bl v (by omega))) ((bu (x:=aV D.bl v n) rfl ((bF (x:=.int c) (y:=.int 1) rfl rfl).trans (xC c))).trans (j4 D.bl v hbs))).trans (Ug _ _)) rfl
 rw[Ox t2];unfold Lp;by_cases h:(v c != v (rM c))=true
 ·rw[ZZ h,ZZ h];unfold Bg;rw[bu (i1 _ _) ((bu (x:=.lst (aC E)) (y:=.int (c/24:Nat)) rfl rfl).trans (Io (by omega)))];rfl
 ·rw[aaa h,aaa h,afb];rfl
theorem uh{E:List Nat}{v:Nat->Bool}{n:Nat}(hn:n=24*E.length)(sh:D):∀(cs:List Nat)(A L:Int)(x5 x6:Option D),(∀c∈cs,c<n-24)->∃y5 y6,
 forM (gN 5) mJ (aC cs) (OS sh E v n A L x5 x6)=some (.nx (OS sh E v n (A+(cs.map (Lr v E)).sum) (L+(cs.map (Lp v E)).sum) y5 y6))
 |[],A,L,x5,x6,_=>⟨x5,x6,by simp[forM,aC]⟩|c::cs,A,L,x5,x6,h=>by
   obtain⟨y5,y6,ih⟩:=uh hn sh cs (A+Lr v E c) (L+Lp v E c) (some (.int c)) (some (.int (c/24:Nat))) λq hq=>h q (Zy _ hq);refine⟨y5,y6,?_⟩;have e0:aC (c::cs)=.int c::aC cs:=rfl;rw[e0,dU (δ1:=OS sh E v n A L (some (.int c)) x6) rfl (GX hn (h c ZF) sh A L x6),ih,ZD,ZD,Z8,Z8,Int.add_assoc,Int.add_assoc]
theorem rA{s:List Pc}(h:∀p∈s,p.ok):∀p∈s,p.ok/\p.i∈edges s/\p.o∈edges s:=λp hp=>by
 have:∀x,x∈[p.i,p.o]->x∈jU s:=λx hx=>Zy _ (aaz.mpr ⟨p,hp,hx⟩);exact⟨h p hp,(cL h _).mpr (this _ (by simp)),(cL h _).mpr (this _ (by simp))⟩
theorem Br{s:List Pc}(h:∀p∈s,p.ok)(hl:s.length<=1000)(he:(edges s).length<64):jb [aQ s]=
 some (.tup [.int ((List.range (24*(edges s).length-24)).map (Lr (cv s (edges s)) (edges s))).sum,.int ((List.range (24*(edges s).length-24)).map (Lp (cv s (edges s)) (edges s))).sum]):=by
 obtain⟨es,e1⟩:=dZ s;have h1:1<=(edges s).length:=by rw[e1];simp
 obtain⟨y5,y6,e⟩:=uh (v:=cv s (edges s)) (n:=24*(edges s).length) (E:=edges s) rfl (aQ s) (List.range (24*(edges s).length-24)) 0 0 none none λc hc=>aab.mp hc;have hc:=xB (bA s) (by omega) (rA h) hl;refine bZ rfl ?_;show rN [some (aQ s),none,none,none,none,none,none]=_;unfold rN;generalize hn:24*(edges s).length=n at *;rw[aO (bI (d:=.lst (aC (edges s))) (δ':=[some (aQ s),some (.lst (aC (edges s))),none,none,none,none,none]) ((aM (x:=aQ s) rfl).trans (oE h hl he)) rfl)];rw[aO (bI (d:=aV D.bl (cv s (edges s)) n) (δ':=[some (aQ s),some (.lst (aC (edges s))),some (aV D.bl (cv s (edges s)) n),none,none,none,none]) ((bF (x:=aQ s) (y:=.lst (aC (edges s))) rfl rfl).trans hc) rfl)];rw[aO (bI (d:=.int 0) (δ':=[some (aQ s),some (.lst (aC (edges s))),some (aV D.bl (cv s (edges s)) n),some (.int 0),none,none,none]) rfl rfl)];rw[aO (bI (d:=.int 0) (δ':=OS (aQ s) (edges s) (cv s (edges s)) n 0 0 none none) rfl rfl)];have hi:dR (aK iW (au fB (aj (ak 2) az)) (eC (.int 24))) (OS (aQ s) (edges s) (cv s (edges s)) n 0 0 none none)=some (aC (List.range (n-24))):=by
  have ea:aK iW (au fB (aj (ak 2) az)) (eC (.int 24)) (OS (aQ s) (edges s) (cv s (edges s)) n 0 0 none none)=some (.int ((n-24:Nat):Int)):=by
   rw[bu ((aM (x:=aV D.bl (cv s (edges s)) n) rfl).trans (qZ _ _ n)) (y:=.int 24) rfl,ae0 (by omega)];rfl
  rw[lg ea (by omega)];rfl
 rw[aO ((dj hi).trans e),afc,afc];rfl
theorem Ja{s:List Pc}(h:∀p∈s,p.ok){N:Nat}(h0:0<N)(hN:∀p∈s,p.o<N){x:Nat}(hx:x∈edges s):x<N:=by
 have:=(cL h x).mp hx;unfold jU at this;rcases ZP.mp this with rfl|z
 ·exact h0
 ·obtain⟨p,hp,hx⟩:=aaz.mp z;have h1:=hN p hp;have h2:=(h p hp).1;simp only[ZP,aao,abz]at hx;omega
theorem getD_mem{E:List Nat}{b:Nat}(hb:b<E.length):E.getD b 0∈E:=by
 rw[Z3,ZM hb];exact aaX hb
theorem mem_getD{E:List Nat}{x:Nat}(hx:x∈E):∃j,j<E.length/\E.getD j 0=x:=by
 obtain⟨j,hj,e⟩:=adK hx;exact⟨j,hj,by simp[hj,e]⟩
theorem Fe{E:List Nat}(hE:E.Pairwise (·<·)){a b:Nat}(hab:a<=b)(hb:b<E.length):E.getD a 0<=E.getD b 0:=by
 rcases aa9 a b with z|z
 ·have:=acQ.mp hE a b (by omega) hb z;have h2:E.getD a 0<E.getD b 0:=by simpa[show a<E.length by omega,hb]using this
  omega
 ·have:a=b:=by omega
  rw[this];exact ZS _
theorem Qv{β:Type}[DecidableEq β]{s:List Pc}(h:∀p∈s,p.ok){N:Nat}(h0:0<N)(hN:∀p∈s,p.o<N){val:Nat->Nat->β}(hv:∀r r' t,(∀p∈s,p.has r t=p.has r' t)->val r t=val r' t):Bd (edges s) val N where
 ris:=bA s
 pos:=by
  obtain⟨es,e⟩:=dZ s;rw[e];simp
 zero:=by
  obtain⟨es,e⟩:=dZ s;rw[e];rfl
 lt:=λb hb=>Ja h h0 hN (getD_mem hb)
 bc:=λb r t hb h1 h2=>hv _ _ _ λp hp=>by
  obtain⟨_,hi,ho⟩:=rA h p hp;have key:∀x∈edges s,(x<=r↔x<=(edges s).getD b 0):=λx hx=>by
   obtain⟨j,hj,rfl⟩:=mem_getD hx;constructor
   ·intro z;rcases aa9 b j with q|q
    ·have a1:=h2 (by omega);have a2:=Fe (bA s) (show b+1<=j by omega) hj;omega
    ·exact Fe (bA s) q hb
   ·intro z;omega
  have k1:=key _ hi;have k2:=key _ ho;unfold Pc.has;rw[show(decide (p.i<=r))=decide (p.i<=(edges s).getD b 0)by simp only[k1],show(decide (r<p.o))=decide ((edges s).getD b 0<p.o)by rw[aau,Z7,Z7];omega]
def wv(s:List Pc)(r t:Nat):Bool:=decide (0<dep s r t)
theorem Qh(s:List Pc)(E:List Nat):cv s E=vv E (wv s):=rfl
theorem least{P:Nat->Prop}:∀(n k:Nat),k<=n->P k->∃m,P m/\∀d,P d->m<=d
 |0,k,h,hk=>⟨k,hk,λd _=>by omega⟩|n+1,k,h,hk=>by
   by_cases q:∃d,d<k/\P d
   ·obtain⟨d,hd,hp⟩:=q;exact least n d (by omega) hp
   ·refine⟨k,hk,λd hd=>?_⟩;rcases aa9 d k with z|z
    ·exact absurd ⟨d,z,hd⟩ q
    ·exact z
section
variable{s:List Pc}{N:Nat}
noncomputable def Sm(F:Nat->Int)(m:Nat):Int:=((List.range m).map F).sum
theorem gA(F:Nat->Int)(m:Nat):Sm F (m+1)=Sm F m+F m:=by unfold Sm;rw[ab9,aaf,abR];simp
theorem gj{F G:Nat->Int}:∀m,(∀r,r<m->F r=G r)->Sm F m=Sm G m
 |0,_=>rfl|m+1,h=>by rw[gA,gA,gj m λr hr=>h r (by omega),h m (by omega)]
theorem TJ{F:Nat->Int}{x:Int}(a:Nat):∀k,(∀r,a<=r->r<a+k->F r=x)->Sm F (a+k)=Sm F a+(k:Int)*x
 |0,_=>by simp|k+1,h=>by
   rw[show a+(k+1)=(a+k)+1 by omega,gA,TJ a k λr h1 h2=>h r h1 (by omega),h (a+k) (by omega) (by omega),show((k+1:Nat):Int)=(k:Int)+1 by omega,afg];omega
theorem wz(F:Nat->Int)(x:Int):∀m,Sm (λt=>x*F t) m=x*Sm F m
 |0=>by simp[Sm]|m+1=>by rw[gA,gA,wz F x m,ad8]
theorem QD(F:Nat->Int)(a:Nat):∀k,Sm F (a+k)=Sm F a+Sm (λt=>F (a+t)) k
 |0=>by simp[Sm]|k+1=>by rw[show a+(k+1)=(a+k)+1 by omega,gA,gA,QD F a k];omega
theorem DN(F:Nat->Int):∀m,Sm F (24*m)=Sm (λr=>Sm (λt=>F (24*r+t)) 24) m
 |0=>rfl|m+1=>by rw[show 24*(m+1)=24*m+24 by omega,QD,DN F m,gA (λr=>Sm (λt=>F (24*r+t)) 24) m]
noncomputable def ind(b:Bool):Int:=if b=true then 1 else 0
theorem Sq(b:Bool)(x:Int):(if b=true then x else 0)=x*ind b:=by cases b<;>simp[ind]
variable{E:List Nat}{w:Nat->Nat->Bool}
end
section
variable{β:Type}[DecidableEq β]{E:List Nat}{val:Nat->Nat->β}{N:Nat}
def GA(nb:Nat->List Nat)(v:Nat->β)(n:Nat)(F:Nat->Int)(a:Nat):Int:=Sm (λc=>@ite _ (Hg nb v a c) (Classical.propDecidable _) (F c) 0) n
theorem sum_filter(F:Nat->Int)(q:Nat->Bool):∀l:List Nat,((l.filter q).map F).sum=(l.map λc=>if q c=true then F c else 0).sum
 |[]=>rfl|c::l=>by
   rw[acN,ZD,Z8,<-sum_filter F q l];cases q c<;>simp
theorem Bt{l l':List Int}(h:l.Perm l'):l.sum=l'.sum:=by
 induction h with
 |nil=>rfl|cons x _ ih=>rw[Z8,Z8,ih]|swap x y l=>simp only[Z8];omega|trans _ _ h1 h2=>exact h1.trans h2
theorem Xz{nb:Nat->List Nat}{v:Nat->β}{n a:Nat}{R:List Nat}(h:Bf nb v n a R R.length)(F:Nat->Int):(R.map F).sum=GA nb v n F a:=by
 have hp:R.Perm ((List.range n).filter λc=>@decide _ (Classical.propDecidable (Hg nb v a c))):=(abB h.nd (abJ.filter _)).mpr λc=>by
  rw[h.mem,aaE,aab];constructor
  ·intro g;exact⟨h.lt c ((h.mem c).mpr g),by simpa using g⟩
  ·rintro⟨_,g⟩;simpa using g
 rw[Bt (hp.map F),sum_filter];unfold GA Sm;refine aaS List.sum (aaD λc _=>?_);by_cases g:Hg nb v a c
 ·simp[g]
 ·simp[g]
noncomputable def Uu(c:Nat):Int:=2*((c/24:Nat):Int)+1
def Lk(E:List Nat)(c:Nat):Int:=ar (E.getD (c/24) 0,E.getD (c/24+1) 0)
theorem kZ{n b:Nat}{v:Nat->β}(hv:∀t,t<24->v (24*b+t)=v (24*b)):∀t,t<24->Hg (iu n) v (24*b) (24*b+t)
 |0,_=>.refl|t+1,h=>.step (kZ hv t (by omega)) (nb_mem.mpr (.inl (by unfold rM;omega))) (by rw[hv (t+1) h,hv t (by omega)])
structure Far(E:List Nat)(val:Nat->Nat->β)(N:Nat):Prop where
 bd:Bd E val N
 K:E.getD (E.length-1) 0<N
 same:∀r t t',E.getD (E.length-1) 0<=r->val r t=val r t'
theorem Far.vlast(h:Far E val N)(t:Nat)(ht:t<24):vv E val (24*(E.length-1)+t)=vv E val (24*(E.length-1)):=by
 unfold vv;rw[show(24*(E.length-1)+t)/24=E.length-1 by omega,show 24*(E.length-1)/24=E.length-1 by omega];exact h.same _ _ _ (ZS _)
theorem Far.out_last(h:Far E val N){a t:Nat}(ht:t<24)(g:Hg (iu (24*E.length)) (vv E val) a (24*(E.length-1)+t))(ha:a<24*E.length):out (iu (24*E.length)) (vv E val) (24*E.length) a=true:=by
 have hp:=h.bd.pos;have hs:=nG E.length;have g1:=kZ (n:=24*E.length) (v:=vv E val) h.vlast t ht;have g2:=kZ (n:=24*E.length) (v:=vv E val) h.vlast 23 (by decide);rw[out_iff,show 24*E.length-1=24*(E.length-1)+23 by omega];have h0:24*(E.length-1)<24*E.length:=by omega
 exact((g.trans (g1.symm hs h0)).trans g2).symm hs ha
def hc'(E:List Nat)(val:Nat->Nat->β):List Nat:=(List.range (24*E.length)).filter λd=>mn (iu (24*E.length)) (vv E val) d&&!out (iu (24*E.length)) (vv E val) (24*E.length) d
theorem JC{F:Nat->Int}:∀m,(∀r,r<m->F r=0)->Sm F m=0
 |0,_=>rfl|m+1,h=>by rw[gA,JC m λr hr=>h r (by omega),h m (by omega)];rfl
end
section
variable{β:Type}[DecidableEq β]{n:Nat}{v:Nat->β}{N:Nat}
theorem Eo{α:Type}(f:α->Nat->Int)(m:Nat):∀l:List α,(l.map λa=>Sm (f a) m).sum=Sm (λc=>(l.map λa=>f a c).sum) m
 |[]=>(JC m λ_ _=>rfl).symm|a::l=>by
   rw[ZD,Z8,Eo f m l];have:∀m,Sm (f a) m+Sm (λc=>(l.map λa=>f a c).sum) m=Sm (λc=>((a::l).map λa=>f a c).sum) m:=λm=>by
    induction m with
    |zero=>rfl|succ m ih=>
      rw[gA,gA,gA,<-ih,ZD,Z8];omega
   exact this m
end
theorem xH:∀(l l':List Nat),l.Nodup->(∀x∈l,x∈l')->l.length<=l'.length
 |[],_,_,_=>aap _|a::l,l',hn,h=>by
   rw[aaK]at hn;have hm:=h a ZF;have:=xH l (l'.erase a) hn.2 λx hx=>(List.mem_erase_of_ne (show x≠a from λz=>hn.1 (z▸hx))).mpr (h x (Zy _ hx));rw[aef hm]at this;have:=List.length_pos_of_mem hm;rw[Z2];omega
theorem zp(r t r' t':Nat):∀(s:List Pc)(k:Nat),(∀p∈s,p.has r t=p.has r' t')->dg k s r t=dg k s r' t'
 |[],_,_=>rfl|p::s,k,h=>by rw[dg,dg,h p ZF,zp r t r' t' s (k+1) λq hq=>h q (Zy _ hq)]
def YL(p:Pc)(r:Nat):Nat:=(List.range 23).countP λt=>p.has r t != p.has r (t+1)
theorem Wf:∀b,b<24->∀w,w<=24->(List.range 23).countP (λt=>decide ((t+24-b)%24<w) != decide ((t+1+24-b)%24<w))<=2:=by decide +kernel
theorem Wg{p:Pc}(h:p.ok)(r:Nat):YL p r<=if p.i<=r/\r<p.o then 2 else 0:=by
 obtain⟨h1,h2,h3,h4,h5⟩:=h;unfold YL Pc.has Pc.at;split
 ·rename_i z;have:=Wf p.b (by omega) p.w (by omega);simpa[z.1,z.2]using this
 ·rename_i z;rw[Nat.le_zero,abU];intro t _;have:(decide (p.i<=r)&&decide (r<p.o))=false:=by simp;omega
  simp[this]
theorem yu{α:Type}(q:Nat->α->Bool):∀(s:List α)(l:List Nat),l.countP (λt=>s.any (q t))<=(s.map λp=>l.countP λt=>q t p).sum
 |[],l=>by simp|p::s,l=>by
   have ih:=yu q s l;rw[ZD,Z8];have:l.countP (λt=>(p::s).any (q t))<=l.countP (λt=>q t p)+l.countP λt=>s.any (q t):=by
    clear ih;induction l with
    |nil=>simp|cons t l ih=>
      simp only[acW]at ih ⊢;rw[abl,abl,abl];cases q t p<;>cases s.any (q t)<;>simp<;>omega
   omega
noncomputable def Qq(E:List Nat)(v:Nat->List Nat)(b:Nat):List Nat:=(24*b)::((List.range 23).filter λt=>v (24*b+t) != v (24*b+t+1)).map λt=>24*b+t+1
theorem Qp{s:List Pc}(h:∀p∈s,p.ok)(E:List Nat)(b:Nat):(Qq E (vv E (dg 0 s)) b).length<=1+(s.map λp=>if p.i<=E.getD b 0/\E.getD b 0<p.o then 2 else 0).sum:=by
 unfold Qq;rw[Z2,ZK,<-List.countP_eq_length_filter];have h1:(List.range 23).countP (λt=>vv E (dg 0 s) (24*b+t) != vv E (dg 0 s) (24*b+t+1))<=(List.range 23).countP λt=>s.any λp=>p.has (E.getD b 0) t != p.has (E.getD b 0) (t+1):=List.countP_mono_left λt ht hne=>by
  rw[aab]at ht;unfold vv at hne;rw[show(24*b+t)/24=b by omega,show(24*b+t)%24=t by omega,show(24*b+t+1)/24=b by omega,show(24*b+t+1)%24=t+1 by omega]at hne;cases z:s.any λp=>p.has (E.getD b 0) t != p.has (E.getD b 0) (t+1)with
  |true=>rfl|false=>
    rw[List.any_eq_false]at z;have:=zp (E.getD b 0) t (E.getD b 0) (t+1) s 0 λp hp=>by simpa using z p hp
    rw[this]at hne;simp at hne
 have h2:=yu (λt (p:Pc)=>p.has (E.getD b 0) t != p.has (E.getD b 0) (t+1)) s (List.range 23);have h3:(s.map λp=>(List.range 23).countP λt=>p.has (E.getD b 0) t != p.has (E.getD b 0) (t+1)).sum<=(s.map λp=>if p.i<=E.getD b 0/\E.getD b 0<p.o then 2 else 0).sum:=by
  clear h1 h2;induction s with
  |nil=>simp|cons p s ih=>
    have a1:=Wg (h p ZF) (E.getD b 0);have a2:=ih λq hq=>h q (Zy _ hq);unfold YL at a1;rw[ZD,Z8,ZD,Z8];omega
 omega
theorem O3{E:List Nat}{val:Nat->Nat->List Nat}{N:Nat}(h:Far E val N):∀c∈hc' E val,c∈(List.range (E.length-1)).flatMap (Qq E (vv E val)):=λc hc=>by
 have hp:=h.bd.pos;unfold hc' at hc;rw[aaE,aab,aac,mn_iff]at hc;obtain⟨hlt,hm,ho⟩:=hc;rw[aaz];refine⟨c/24,aab.mpr ?_,?_⟩
 ·rcases aa9 (c/24) (E.length-1)with z|z
  ·exact z
  ·exfalso;have e:c=24*(E.length-1)+c%24:=by omega
   have:=h.out_last (t:=c%24) (a:=c) (aaq _ (by decide)) (e ▸ .refl) hlt;rw[this]at ho;cases ho
 ·unfold Qq;by_cases z:c%24=0
  ·exact ZP.mpr (.inl (by omega))
  ·refine Zy _ (Z5.mpr ⟨c%24-1,aaE.mpr ⟨aab.mpr (by omega),?_⟩,by omega⟩);rw[show 24*(c/24)+(c%24-1)+1=c by omega];have hne:vv E val (24*(c/24)+(c%24-1))≠vv E val c:=λe=>by
    have g:Hg (iu (24*E.length)) (vv E val) c (24*(c/24)+(c%24-1)):=.step .refl (nb_mem.mpr (.inr (.inl (by unfold uA;omega)))) e;have:=hm _ g;omega
   simpa using hne
theorem CP(f:Nat->List Nat):∀l:List Nat,(l.flatMap f).length=(l.map λb=>(f b).length).sum
 |[]=>rfl|b::l=>by rw[abg,Z6,ZD,Z8,CP f l]
theorem Mr{f g:Nat->Nat}:∀l:List Nat,(∀b∈l,f b<=g b)->(l.map f).sum<=(l.map g).sum
 |[],_=>ZS _|b::l,h=>by
   rw[ZD,ZD,Z8,Z8];have:=h b ZF;have:=Mr l λc hc=>h c (Zy _ hc);omega
noncomputable def Ln(E:List Nat)(p:Pc)(m:Nat):Nat:=((List.range m).map λb=>if p.i<=E.getD b 0/\E.getD b 0<p.o then 2 else 0).sum
theorem Hj(E:List Nat):∀(s:List Pc)(m:Nat),((List.range m).map λb=>1+(s.map λp=>if p.i<=E.getD b 0/\E.getD b 0<p.o then 2 else 0).sum).sum=m+(s.map λp=>Ln E p m).sum
 |[],m=>by
   induction m with
   |zero=>rfl|succ m ih=>rw[ab9,aaf,abR,ih];simp
 |p::s,m=>by
   have ih:=Hj E s m;rw[ZD,Z8];have:((List.range m).map λb=>1+((p::s).map λp=>if p.i<=E.getD b 0/\E.getD b 0<p.o then 2 else 0).sum).sum=Ln E p m+((List.range m).map λb=>1+(s.map λp=>if p.i<=E.getD b 0/\E.getD b 0<p.o then 2 else 0).sum).sum:=by
    clear ih;unfold Ln;induction m with
    |zero=>rfl|succ m ih=>
      rw[ab9,aaf,abR,aaf,abR,aaf,abR,ih];simp only[ZD,aa4,Z8,aeE];omega
   omega
theorem Ep(E:List Nat)(p:Pc):∀m,Ln E p m<=2*m
 |0=>ZS _|m+1=>by
   have ih:=Ep E p m;unfold Ln at ih ⊢;rw[ab9,aaf,abR];simp only[ZD,aa4,Z8,aeE];split<;>omega
theorem zz{f:Pc->Nat}{x:Nat}:∀s:List Pc,(∀p∈s,f p<=x)->(s.map f).sum<=x*s.length
 |[],_=>aap _|p::s,h=>by
   have a1:=h p ZF;have a2:=zz s λq hq=>h q (Zy _ hq);rw[ZD,Z8,Z2,Nat.mul_succ];omega
theorem Cm{f:Pc->Nat}{x y:Nat}{p0:Pc}(hy:f p0+y<=x):∀s:List Pc,(∀p∈s,f p<=x)->p0∈s->(s.map f).sum+y<=x*s.length
 |[],_,h=>by cases h|p::s,h,hm=>by
   have a1:=h p ZF;rw[ZD,Z8,Z2,Nat.mul_succ];rcases ZP.mp hm with e|e
   ·subst e;have a2:=zz s λq hq=>h q (Zy _ hq);omega
   ·have a2:=Cm hy s (λq hq=>h q (Zy _ hq)) e;omega
theorem yw:∀(E:List Nat)(a:Nat),E.Pairwise (·<·)->(∀x∈E,a<=x/\x<7)->E.length=7-a->∀b,b<E.length->E.getD b 0=a+b
 |[],_,_,_,_,b,hb=>by simp at hb|e::E,a,hp,hr,hl,b,hb=>by
   rw[aaO]at hp;have hlen:=pN E (e+1) 7 hp.2 λx hx=>⟨hp.1 x hx,(hr x (Zy _ hx)).2⟩;have he:=hr e ZF;rw[Z2]at hl hb;have ea:e=a:=by omega
   subst ea;cases b with
   |zero=>simp|succ b=>
     rw[List.getD_cons_succ,yw E (e+1) hp.2 (λx hx=>⟨hp.1 x hx,(hr x (Zy _ hx)).2⟩) (by omega) b (by omega)];omega
theorem Gk{s:List Pc}(h:∀p∈s,p.ok)(ho:∀p∈s,p.o<=6)(hl:s.length<=5){N:Nat}(hF:Far (edges s) (dg 0 s) N):(hc' (edges s) (dg 0 s)).length<64:=by
 have h1:=xH _ _ (abJ.filter _) (O3 hF);rw[CP]at h1;have h2:=Mr (f:=λb=>(Qq (edges s) (vv (edges s) (dg 0 s)) b).length) (List.range ((edges s).length-1)) λb _=>Qp h (edges s) b;rw[Hj]at h2;have hE:=iC h ho;have h3:(hc' (edges s) (dg 0 s)).length<=((edges s).length-1)+(s.map λp=>Ln (edges s) p ((edges s).length-1)).sum:=aaV h1 h2;by_cases z:(edges s).length<=6
 ·have h4:=zz (f:=λp=>Ln (edges s) p ((edges s).length-1)) (x:=10) s λp _=>aaV (Ep _ p _) (by omega);omega
 ·have e7:(edges s).length=7:=by omega
  have lt7:∀x∈edges s,0<=x/\x<7:=λx hx=>⟨aap _,Ja h (N:=7) (by decide) (λp hp=>by have:=ho p hp;omega) hx⟩;have hE7:=yw (edges s) 0 (bA s) lt7 (by omega);have h2m:2∈edges s:=by
   have:=getD_mem (E:=edges s) (b:=2) (by omega);rw[hE7 2 (by omega)]at this;exact this
  have:=(cL h 2).mp h2m;unfold jU at this;rcases ZP.mp this with q|q
  ·omega
  obtain⟨p0,hp0,hx⟩:=aaz.mp q;simp only[ZP,aao,abz]at hx;rw[e7]at h3;have hs0:Ln (edges s) p0 6+4<=12:=by
   have g:∀b,b<7->(edges s).getD b 0=b:=λb hb=>by rw[hE7 b (by omega)];omega
   have i0:=(h p0 hp0).1;unfold Ln;rw[show List.range 6=[0,1,2,3,4,5]from rfl];simp only[ZD,aa4,Z8,aeE,g 0 (by decide),g 1 (by decide),g 2 (by decide),g 3 (by decide),g 4 (by decide),g 5 (by decide)];rcases hx with e|e
   ·rw[<-e];repeat' split
    all_goals omega
   ·rw[<-e];repeat' split
    all_goals omega
  have h4:=Cm (f:=λp=>Ln (edges s) p 6) (x:=12) (y:=4) hs0 s (λp _=>Ep _ p 6) hp0;have:(edges s).length-1=6:=by omega
  have h5:(s.map λp=>Ln (edges s) p (7-1)).sum=(s.map λp=>Ln (edges s) p 6).sum:=rfl;omega
section
variable{β:Type}[DecidableEq β]{n:Nat}{nb:Nat->List Nat}{v v':Nat->β}{φ:Nat->Nat}
structure Mv2(nb:Nat->List Nat)(v v':Nat->β)(n:Nat)(φ:Nat->Nat):Prop where
 lt:∀a,a<n->φ a<n
 inj:∀a b,a<n->b<n->φ a=φ b->a=b
 sur:∀b,b<n->∃a,a<n/\φ a=b
 hg:∀a b,a<n->b<n->(Hg nb v' a b↔Hg nb v (φ a) (φ b))
theorem Mv2.perm(h:Mv2 nb v v' n φ):((List.range n).map φ).Perm (List.range n):=by
 refine(abB ?_ abJ).mpr λb=>?_
 ·refine acG.mpr (aeg (λ{a b} ha hb hab e=>hab ?_) abJ);exact h.inj a b (aab.mp ha) (aab.mp hb) e
 ·rw[Z5,aab];constructor
  ·rintro⟨a,ha,rfl⟩;exact h.lt a (aab.mp ha)
  ·intro hb;obtain⟨a,ha,e⟩:=h.sur b hb;exact⟨a,aab.mpr ha,e⟩
theorem Mv2.sum(h:Mv2 nb v v' n φ)(G:Nat->Int):Sm (λc=>G (φ c)) n=Sm G n:=by
 unfold Sm;have:=Bt (h.perm.map G);rw[aai]at this;exact this
theorem Mv2.area(h:Mv2 nb v v' n φ){F:Nat->Int}(hF:∀c,F (φ c)=F c){a:Nat}(ha:a<n):GA nb v' n F a=GA nb v n F (φ a):=by
 unfold GA;refine afa (gj n λc hc=>?_) (h.sum λc=>@ite _ (Hg nb v (φ a) c) (Classical.propDecidable _) (F c) 0);by_cases g:Hg nb v' a c
 ·rw[ZZ g,ZZ ((h.hg a c ha hc).mp g),hF]
 ·rw[aaa g,aaa λz=>g ((h.hg a c ha hc).mpr z)]
theorem SJ(hs:JB nb n){a b:Nat}(ha:a<n)(g:Hg nb v a b)(F:Nat->Int):GA nb v n F a=GA nb v n F b:=by
 unfold GA;refine gj n λc hc=>?_;by_cases z:Hg nb v a c
 ·rw[ZZ z,ZZ ((g.symm hs ha).trans z)]
 ·rw[aaa z,aaa λy=>z (g.trans y)]
theorem KH(hs:JB nb n){c:Nat}(hc:c<n):∃m,Hg nb v c m/\m<n/\mn nb v m=true:=by
 obtain⟨m,hm,hl⟩:=least (P:=λd=>Hg nb v c d) c c (ZS _) .refl;exact⟨m,hm,hm.lt hs hc,mn_iff.mpr λd g=>hl d (hm.trans g)⟩
theorem R6(hs:JB nb n){a b:Nat}(ha:a<n)(h1:mn nb v a=true)(h2:mn nb v b=true)(g:Hg nb v a b):a=b:=by
 have:=mn_iff.mp h1 b g;have:=mn_iff.mp h2 a (g.symm hs ha);omega
theorem u9{γ:Type}(hs:JB nb n)(h:Mv2 nb v v' n φ){P P':Nat->Bool}(hP:∀a,a<n->P' a=P (φ a))(hPc:∀a b,a<n->Hg nb v a b->P a=P b){F F':Nat->γ}(hF:∀a,a<n->F' a=F (φ a))(hFc:∀a b,a<n->Hg nb v a b->F a=F b):
 (((List.range n).filter λc=>mn nb v' c&&P' c).map F').Perm (((List.range n).filter λc=>mn nb v c&&P c).map F):=by
 have hex:∀c,∃m,c<n->Hg nb v (φ c) m/\m<n/\mn nb v m=true:=λc=>by
  by_cases hc:c<n
  ·obtain⟨m,a1,a2,a3⟩:=KH (v:=v) hs (h.lt c hc);exact⟨m,λ_=>⟨a1,a2,a3⟩⟩
  ·exact⟨0,λz=>absurd z hc⟩
 let g:Nat->Nat:=λc=>Classical.choose (hex c)
 have hg:∀c,c<n->Hg nb v (φ c) (g c)/\g c<n/\mn nb v (g c)=true:=λc hc=>adl (hex c) hc;have e1:((List.range n).filter λc=>mn nb v' c&&P' c).map F'=(((List.range n).filter λc=>mn nb v' c&&P' c).map g).map F:=by
  rw[aai];refine aaD λa ha=>?_;have ha':=aab.mp (aaE.mp ha).1;rw[hF a ha'];exact hFc _ _ (h.lt a ha') (hg a ha').1
 rw[e1];refine List.Perm.map F ((abB ?_ (abJ.filter _)).mpr λx=>?_)
 ·refine acG.mpr (aeg (λ{a b} ha hb hab e=>hab ?_) (abJ.filter _));rw[aaE,aab,aac]at ha hb;have k1:=hg a ha.1;have k2:=hg b hb.1;rw[e]at k1;have:=(h.hg a b ha.1 hb.1).mpr (k1.1.trans (k2.1.symm hs (h.lt b hb.1)));have s':Hg nb v' b a:=(h.hg b a hb.1 ha.1).mpr (k2.1.trans (k1.1.symm hs (h.lt a ha.1)));have q1:=mn_iff.mp ha.2.1 b this;have q2:=mn_iff.mp hb.2.1 a s';omega
 ·rw[Z5,aaE,aab,aac];constructor
  ·rintro⟨a,ha,rfl⟩;rw[aaE,aab,aac]at ha;have k:=hg a ha.1;refine⟨k.2.1,k.2.2,?_⟩;rw[<-hPc _ _ (h.lt a ha.1) k.1,<-hP a ha.1];exact ha.2.2
  ·rintro⟨hx,hm,hPx⟩;obtain⟨y,hy,rfl⟩:=h.sur x hx;obtain⟨m,hm',hl⟩:=least (P:=λd=>d<n/\Hg nb v (φ y) (φ d)) y y (ZS _) ⟨hy,.refl⟩;have k:=hg m hm'.1;refine⟨m,aaE.mpr ⟨aab.mpr hm'.1,?_⟩,?_⟩
   ·rw[aac,mn_iff];refine⟨λd g'=>?_,?_⟩
    ·rcases aa9 d n with z|z
     ·exact hl d ⟨z,hm'.2.trans ((h.hg m d hm'.1 z).mp g')⟩
     ·omega
    ·rw[hP m hm'.1,<-hPc _ _ (h.lt y hy) hm'.2];exact hPx
   ·exact(R6 hs (h.lt y hy) hm k.2.2 (hm'.2.trans k.1)).symm
end
structure Tz(τ:Nat->Nat):Prop where
 lt:∀t,t<24->τ t<24
 inv:∃τ':Nat->Nat,(∀t,t<24->τ' t<24/\τ' (τ t)=t/\τ (τ' t)=t)
 adj:(∀t,t<24->τ ((t+1)%24)=(τ t+1)%24)\/∀t,t<24->τ ((t+1)%24)=(τ t+23)%24
noncomputable def phi(τ:Nat->Nat)(c:Nat):Nat:=24*(c/24)+τ (c%24)
noncomputable def T9(k t:Nat):Nat:=(t+k)%24
noncomputable def Vx(t:Nat):Nat:=23-t
theorem Hh{k:Nat}(hk:k<24):Tz (T9 k):=⟨λt _=>aaq _ (by decide),⟨T9 (24-k),λt ht=>by unfold T9;omega⟩,.inl λt ht=>by unfold T9;omega⟩
theorem Q6:Tz Vx:=⟨λt _=>by unfold Vx;omega,⟨Vx,λt ht=>by unfold Vx;omega⟩,.inr λt ht=>by unfold Vx;omega⟩
section
variable{τ:Nat->Nat}(hτ:Tz τ)
include hτ
theorem lW(c:Nat):phi τ c/24=c/24:=by have:=hτ.lt (c%24) (aaq _ (by decide));unfold phi;omega
theorem yW(c:Nat):phi τ c%24=τ (c%24):=by have:=hτ.lt (c%24) (aaq _ (by decide));unfold phi;omega
theorem yX{K c:Nat}(h:c<24*K):phi τ c<24*K:=by have:=hτ.lt (c%24) (aaq _ (by decide));unfold phi;omega
theorem Fv:(∀c,phi τ (rM c)=rM (phi τ c)/\phi τ (uA c)=uA (phi τ c))\/∀c,phi τ (rM c)=uA (phi τ c)/\phi τ (uA c)=rM (phi τ c):=by
 have e1:∀c,rM c/24=c/24/\rM c%24=(c%24+1)%24:=λc=>by unfold rM;omega
 have e0:∀c,uA c/24=c/24/\uA c%24=(c%24+23)%24:=λc=>by unfold uA;omega
 have hz:∀c,((c%24+23)%24+1)%24=c%24:=λc=>by omega
 refine hτ.adj.imp (λa c=>?_) λa c=>?_
 all_goals
  have hl:=hτ.lt (c%24) (aaq _ (by decide));have hl0:=hτ.lt ((c%24+23)%24) (aaq _ (by decide));have a1:=a (c%24) (aaq _ (by decide));have a0:=a ((c%24+23)%24) (aaq _ (by decide));rw[hz]at a0;unfold phi;rw[(e1 c).1,(e1 c).2,(e0 c).1,(e0 c).2,a1];unfold rM uA;omega
theorem Vn{K c d:Nat}(hd:d∈iu (24*K) c):phi τ d∈iu (24*K) (phi τ c):=by
 rw[nb_mem]at hd ⊢;rcases hd with rfl|rfl|⟨rfl,h⟩|⟨h,rfl⟩
 ·rcases Fv hτ with e|e
  ·exact .inl (e c).1
  ·exact .inr (.inl (e c).1)
 ·rcases Fv hτ with e|e
  ·exact .inr (.inl (e c).2)
  ·exact .inl (e c).2
 ·have:=hτ.lt (c%24) (aaq _ (by decide));refine .inr (.inr (.inl ⟨?_,?_⟩))
  ·unfold phi;rw[show(c+24)%24=c%24 by omega,show(c+24)/24=c/24+1 by omega];omega
  ·unfold phi;omega
 ·have:=hτ.lt (c%24) (aaq _ (by decide));refine .inr (.inr (.inr ⟨?_,?_⟩))
  ·unfold phi;omega
  ·unfold phi;rw[show(c-24)%24=c%24 by omega,show(c-24)/24=c/24-1 by omega];omega
theorem Nu{β:Type}[DecidableEq β]{K:Nat}{v v':Nat->β}(hv:∀c,c<24*K->v' c=v (phi τ c)){a b:Nat}(ha:a<24*K)(g:Hg (iu (24*K)) v' a b):Hg (iu (24*K)) v (phi τ a) (phi τ b):=by
 induction g with
 |refl=>exact .refl|step g1 h1 h2 ih=>
   rename_i b c;have hb:=g1.lt (nG K) ha;have hc:=((nG K) b c hb h1).1;exact .step ih (Vn hτ h1) (by rw[<-hv c hc,<-hv b hb,h2])
end
theorem Q7{τ:Nat->Nat}(hτ:Tz τ):∃τ',Tz τ'/\∀t,t<24->τ' (τ t)=t/\τ (τ' t)=t:=by
 obtain⟨τ',h⟩:=hτ.inv;have inj:∀t u,t<24->u<24->τ t=τ u->t=u:=λt u ht hu e=>by rw[<-(h t ht).2.1,<-(h u hu).2.1,e]
 refine⟨τ',⟨λt ht=>(h t ht).1,⟨τ,λt ht=>⟨hτ.lt t ht,(h t ht).2.2,(h t ht).2.1⟩⟩,?_⟩,λt ht=>(h t ht).2⟩;rcases hτ.adj with a|a
 ·left;intro t ht;have h1:=h t ht;have h2:=h ((t+1)%24) (aaq _ (by decide));refine inj _ _ h2.1 (aaq _ (by decide)) ?_;rw[h2.2.2,a _ h1.1,h1.2.2]
 ·right;intro t ht;have h1:=h t ht;have h2:=h ((t+1)%24) (aaq _ (by decide));have a0:=a ((τ' t+23)%24) (aaq _ (by decide));rw[show((τ' t+23)%24+1)%24=τ' t by have:=h1.1;omega,h1.2.2]at a0;have hl:=hτ.lt ((τ' t+23)%24) (aaq _ (by decide));refine inj _ _ h2.1 (aaq _ (by decide)) ?_;rw[h2.2.2];omega
theorem HD{τ τ':Nat->Nat}(hτ:Tz τ)(h:∀t,t<24->τ' (τ t)=t)(c:Nat):phi τ' (phi τ c)=c:=by
 have e1:=lW hτ c;have e2:=yW hτ c;unfold phi at *;rw[e1,e2,h _ (aaq _ (by decide))];omega
theorem qU{β:Type}[DecidableEq β]{τ:Nat->Nat}(hτ:Tz τ){K:Nat}{v v':Nat->β}(hv:∀c,c<24*K->v' c=v (phi τ c)):Mv2 (iu (24*K)) v v' (24*K) (phi τ):=by
 obtain⟨τ',hτ',hi⟩:=Q7 hτ;have p1:=HD hτ λt ht=>(hi t ht).1;have p2:=HD hτ' λt ht=>(hi t ht).2;refine⟨λa ha=>yX hτ ha,λa b _ _ e=>by rw[<-p1 a,<-p1 b,e],λb hb=>⟨phi τ' b,yX hτ' hb,p2 b⟩,λa b ha hb=>⟨Nu hτ hv ha,λg=>?_⟩⟩;have:=Nu hτ' (v:=v') (v':=v) (λc hc=>by rw[hv _ (yX hτ' hc),p2]) (yX hτ ha) g;rw[p1,p1]at this;exact this
theorem CT:∀a b:List Nat,il (aC a) (aC b)=decide (a=b)
 |[],[]=>rfl|[],_::_=>rfl|_::_,[]=>rfl|x::a,y::b=>by
   have ih:=CT a b;unfold aC at ih ⊢;rw[ZD,ZD,il,ih,aau];simp only[dW,aac,aey,Z7,List.cons.injEq];exact⟨λ⟨h1,h2⟩=>⟨by omega,h2⟩,λ⟨h1,h2⟩=>⟨by omega,h2⟩⟩
theorem Tg(a:List Nat):dh (aC a)=0:=by
 unfold aC;induction a with
 |nil=>rfl|cons x l ih=>simp[dh,bY,ih]
theorem SN{a b:ME}{δ:Ev}{i j:Int}(ha:a δ=some (.int i))(hb:b δ=some (.int j))(h:0<j/\j<1073741824):aK vh a b δ=some (.int (i/j)):=by
 rw[bu ha hb];show(if 0<j/\j<1073741824 then some (D.int (i/j))else none)=_;rw[ZZ h]
theorem V5:Fd lK:=⟨λx y=>by unfold lK;rw[dW];exact CT x y,λx=>by unfold lK;show dh (aC x)+1<=30;rw[Tg];decide⟩
theorem Sv{β:Type}[DecidableEq β]{v:Nat->β}{n:Nat}{nb:Nat->List Nat}{a:Nat}{R:List Nat}{k:Nat}(h:Bf nb v n a R k):R.headD 0=a:=by
 have:=h.hd;cases R with
 |nil=>cases this|cons b R=>cases this;rfl
theorem xW{s:List Pc}(h:∀p∈s,p.ok){N:Nat}(h0:0<N)(hN:∀p∈s,p.o<N):Far (edges s) (dg 0 s) N:=by
 have bd:Bd (edges s) (dg 0 s) N:=Qv h h0 hN λr r' t hh=>zp r t r' t s 0 hh;have hp:=bd.pos;refine⟨bd,bd.lt _ (by omega),λr t t' hr=>zp r t r t' s 0 λp hp'=>?_⟩;obtain⟨_,_,ho⟩:=rA h p hp';obtain⟨j,hj,e⟩:=mem_getD ho;have:=Fe (bA s) (show j<=(edges s).length-1 by omega) (by omega);have z:(decide (r<p.o))=false:=by rw[decide_eq_false_iff_not];omega
 unfold Pc.has;rw[z,ade];rfl
def Lq(q:List Nat×Int):D:=.tup [lK q.1,.int q.2]
noncomputable def Zb(q:List Nat×Int):List Int×Int:=(q.1.map λ(x:Nat)=>(x:Int),q.2)
def JT(qs:List (List Nat×Int)):List D:=xg (qs.map Zb) (qs.map Lq)
theorem xU:∀l:List Nat,intsOf (aC l)=some (l.map λ(x:Nat)=>(x:Int))
 |[]=>rfl|x::l=>by
   show(intsOf (aC l)).bind _=_;rw[xU l];rfl
theorem Ov:∀qs:List (List Nat×Int),FZ (qs.map Lq)=some (qs.map Zb)
 |[]=>rfl|q::qs=>by
   rw[ZD,FZ,Ov qs];show((intsOf (aC q.1)).bind λis=>some (is,q.2)).bind _=_;rw[xU];rfl
theorem Rf{qs:List (List Nat×Int)}(h:qs.length<64):yD (.lst (qs.map Lq))=some (.lst (JT qs)):=by
 unfold yD;simp only;rw[Ov];simp only[Z0,ZK];rw[ZZ h];rfl
theorem uJ(qs:List (List Nat×Int)):(JT qs).Perm (qs.map Lq):=Et _ _
theorem Tu{E:List Nat}{b:Nat}(h:b+1<E.length):((bj E).map aG)[b]? = some (aG (E.getD b 0,E.getD (b+1) 0)):=by
 unfold bj;rw[aad];have:(E.zip E.tail)[b]? = some (E.getD b 0,E.getD (b+1) 0):=abF.mpr ⟨by
  have:b<E.length:=by omega
  simp[this],by
  simp[h]⟩
 rw[this];rfl
theorem vK(F:Nat->Int):∀R:List Nat,intsOf (R.map λc=>D.int (F c))=some (R.map F)
 |[]=>rfl|c::R=>by
   show(intsOf (R.map λc=>D.int (F c))).bind _=_;rw[vK F R];rfl
def Zw(E:List Nat):D->D
 |.int c=>.int (Lk E c.toNat)|d=>d
theorem yR{E:List Nat}(hE:∀b,b<E.length->E.getD b 0<=1000){R:List Nat}(hR:∀c∈R,c/24+1<E.length)(hl:R.length<=100000):fQ [.lst (aC R),.lst ((bj E).map aG)]=some (.int (R.map (Lk E)).sum):=by
 refine bZ rfl ?_;show jx [some (.lst (aC R)),some (.lst ((bj E).map aG))]=_;unfold jx;have hc:=cR (k:=1) (fv:=[1]) (i:=cC (ak 0)) (g:=gN 0) (c:=tT) (e:=au fH (aj (aK cz (ak 1) (aK vh (ak 0) (eC (.int 24)))) az)) (δ:=[some (.lst (aC R)),some (.lst ((bj E).map aG))]) (xs:=aC R) (λx=>some (Zw E x)) rfl (by rw[iY];omega) λx hx=>by
  unfold aC at hx;obtain⟨c,hcm,rfl⟩:=Z5.mp hx;have hb:=hR c hcm;refine⟨[some (.int (c:Nat)),some (.lst ((bj E).map aG))],rfl,.inl ⟨rfl,.int (Lk E c),?_,rfl⟩⟩;have ef:aK vh (ak 0) (eC (.int 24)) [some (.int (c:Nat)),some (.lst ((bj E).map aG))]=some (.int ((c/24:Nat):Int)):=by
   rw[SN (i:=(c:Nat)) (j:=24) rfl rfl (by decide)];rfl
  rw[aM ((bu (x:=.lst ((bj E).map aG)) rfl ef).trans (sX (Tu hb)))];exact tX (hE _ (by omega)) (hE _ hb)
 refine bQ ((aM hc).trans ?_);rw[aaQ];unfold aC;rw[aai];show((intsOf (R.map λ(c:Nat)=>D.int (Lk E c))).bind λis=>some (D.int is.sum))=_;rw[vK];rfl
def fq(s:List Pc)(a:Nat):List Nat×Int:=(vv (edges s) (dg 0 s) a,GA (iu (24*(edges s).length)) (vv (edges s) (dg 0 s)) (24*(edges s).length) (Lk (edges s)) a)
def Qs(s:List Pc):List (List Nat×Int):=(hc' (edges s) (dg 0 s)).map (fq s)
theorem Rv{s:List Pc}(h:∀p∈s,p.ok)(hl:s.length<=1000)(he:(edges s).length<=60){N:Nat}(hF:Far (edges s) (dg 0 s) N)(hN:N<=1000)(hq:(Qs s).length<64):my [aQ s]=some (.tup (JT (Qs s))):=by
 have hpos:=hF.bd.pos;obtain⟨Gs,eG,hG,hB⟩:=Bp (f:=lK) (v:=ly s (edges s)) V5 (n:=24*(edges s).length) rfl (by omega) (by omega);have hG':Gs.map (λR=>R.headD 0)=hc' (edges s) (dg 0 s):=hG;have key:∀R∈Gs,Bf (iu (24*(edges s).length)) (vv (edges s) (dg 0 s)) (24*(edges s).length) (R.headD 0) R R.length/\(∀c∈R,c/24+1<(edges s).length):=λR hR=>by
  obtain⟨a,ha,hb⟩:=hB R hR;have ea:=Sv hb;have hm:R.headD 0∈hc' (edges s) (dg 0 s):=by rw[<-hG'];exact Z5.mpr ⟨R,hR,rfl⟩
  rw[ea];refine⟨hb,λc hc=>?_⟩;have hlt:=hb.lt c hc;rw[ea]at hm;unfold hc' at hm;rw[aaE,aac]at hm;rcases aa9 (c/24+1) (edges s).length with z|z
  ·exact z
  ·exfalso;have e:c=24*((edges s).length-1)+c%24:=by omega
   have g:=hb.hg c hc;rw[e]at g;have:=hF.out_last (aaq _ (by decide)) g ha;rw[this]at hm;cases hm.2.2
 have hlist:Gs.map (λR=>Lq (ly s (edges s) (R.headD 0),(R.map (Lk (edges s))).sum))=(Qs s).map Lq:=by
  unfold Qs;rw[<-hG',aai,aai];refine aaD λR hR=>?_;show Lq _=Lq (fq s (R.headD 0));unfold fq;rw[Xz (key R hR).1];rfl
 refine bZ rfl ?_;show uC [some (aQ s),none,none,none]=_;unfold uC;rw[aO (bI (d:=.lst (aC (edges s))) (δ':=[some (aQ s),some (.lst (aC (edges s))),none,none]) ((aM (x:=aQ s) rfl).trans (oE h hl (by omega))) rfl)];rw[aO (bI (d:=.lst ((bj (edges s)).map aG)) (δ':=[some (aQ s),some (.lst (aC (edges s))),some (.lst ((bj (edges s)).map aG)),none]) ((aM (x:=.lst (aC (edges s))) rfl).trans (uv (by omega))) rfl)];rw[aO (bI (d:=aV lK (ly s (edges s)) (24*(edges s).length)) (δ':=[some (aQ s),some (.lst (aC (edges s))),some (.lst ((bj (edges s)).map aG)),some (aV lK (ly s (edges s)) (24*(edges s).length))]) ((bF (x:=aQ s) (y:=.lst (aC (edges s))) rfl rfl).trans (o7 (bA s) (by omega) (rA h) hl)) rfl)];have hGl:Gs.length<64:=by
  have:=aaS List.length hlist;rw[ZK,ZK]at this;omega
 have hi:cC (au cX (aj (ak 3) az)) [some (aQ s),some (.lst (aC (edges s))),some (.lst ((bj (edges s)).map aG)),some (aV lK (ly s (edges s)) (24*(edges s).length))]=some (wC Gs):=by
  unfold cC;rw[aM (x:=aV lK (ly s (edges s)) (24*(edges s).length)) rfl,eG];rfl
 have each:∀R∈Gs,dw (aj (aK cz (ak 1) (aK cz (ak 0) (eC (.int 0)))) (aj (au fQ (aj (ak 0) (aj (ak 2) az))) az)) [some (.lst (aC R)),some (aV lK (ly s (edges s)) (24*(edges s).length)),some (.lst ((bj (edges s)).map aG))]=some (Lq (ly s (edges s) (R.headD 0),(R.map (Lk (edges s))).sum)):=λR hR=>by
  obtain⟨hb,hin⟩:=key R hR;have hfew:=hb.few;have hhd:(aC R)[0]? = some (.int (R.headD 0:Nat)):=by
   have:=hb.hd;cases R with
   |nil=>cases this|cons a R=>rfl
  have hlt:=hb.lt (R.headD 0) (by
   have:=hb.hd;cases R with
   |nil=>cases this
   | cons a R=>exact ZF)
  refine jV ((bu (x:=aV lK (ly s (edges s)) (24*(edges s).length)) rfl ((bu (x:=.lst (aC R)) (y:=.int ((0:Nat):Int)) rfl rfl).trans (sX hhd))).trans (j4 lK _ hlt)) ((bF (x:=.lst (aC R)) (y:=.lst ((bj (edges s)).map aG)) rfl rfl).trans (yR (λb hb'=>by have:=hF.bd.lt b hb';omega) hin (by omega)))
 obtain⟨g,hg⟩:∃g:D->D,∀R∈Gs,g (.lst (aC R))=Lq (ly s (edges s) (R.headD 0),(R.map (Lk (edges s))).sum):=by
  refine⟨λx=>(dw (aj (aK cz (ak 1) (aK cz (ak 0) (eC (.int 0)))) (aj (au fQ (aj (ak 0) (aj (ak 2) az))) az)) [some x,some (aV lK (ly s (edges s)) (24*(edges s).length)),some (.lst ((bj (edges s)).map aG))]).getD .non,λR hR=>?_⟩;simp only[each R hR,acO]
 have hc:=cR (k:=1) (fv:=[3,2]) (g:=gN 0) (c:=tT) (e:=dw (aj (aK cz (ak 1) (aK cz (ak 0) (eC (.int 0)))) (aj (au fQ (aj (ak 0) (aj (ak 2) az))) az))) (λx=>some (g x)) hi (by unfold wC;rw[ZK];omega) λx hx=>by
  unfold wC at hx;obtain⟨R,hR,rfl⟩:=Z5.mp hx;exact⟨[some (.lst (aC R)),some (aV lK (ly s (edges s)) (24*(edges s).length)),some (.lst ((bj (edges s)).map aG))],rfl,.inl ⟨rfl,_,each R hR,by rw[hg R hR]⟩⟩
 have hcl:(wC Gs).filterMap (λx=>some (g x))=(Qs s).map Lq:=by
  rw[aaQ,<-hlist];unfold wC;rw[aai];exact aaD λR hR=>hg R hR
 rw[hcl]at hc;refine bQ ((aM ((wY hc).trans (Rf hq))).trans ?_);rfl
theorem yH(qs:List (List Nat×Int)):(JT qs).length=qs.length:=by rw[(uJ qs).length_eq,ZK]
theorem yS{s:List Pc}(hf:my [aQ s]=some (.tup (JT (Qs s)))):gR [aQ s]=some (.int ((Qs s).length+1:Nat)):=by
 refine bZ rfl ?_;show jy [some (aQ s)]=_;unfold jy;refine bQ ((bu ((aM ((aM (x:=aQ s) rfl).trans hf)).trans (show fB [.tup (JT (Qs s))]=some (.int ((JT (Qs s)).length:Nat))from rfl)) (y:=.int 1) rfl).trans ?_);rw[yH];rfl
structure Moved(s s':List Pc)(τ:Nat->Nat)(m:Nat):Prop where
 tau:Tz τ
 pos:0<m
 ok0:∀p∈s,p.ok
 map:∃f:Pc->Pc,s'=s.map f/\∀p∈s,(f p).i=m*p.i/\(f p).o=m*p.o/\(f p).ok/\∀r t,t<24->(f p).has (m*r) t=p.has r (τ t)
theorem yV{τ:Nat->Nat}(hτ:Tz τ)(K:Nat)(G:Nat->Int):Sm (λc=>G (phi τ c)) (24*K)=Sm G (24*K):=(qU hτ (K:=K) (v:=λ_=>()) (v':=λ_=>()) λ_ _=>rfl).sum G
section
variable{s s':List Pc}{τ:Nat->Nat}{m:Nat}(h:Moved s s' τ m)
include h
theorem Moved.ok:∀p∈s',p.ok:=λp hp=>by
 obtain⟨f,rfl,g⟩:=h.map;obtain⟨q,hq,rfl⟩:=Z5.mp hp;exact(g q hq).2.2.1
theorem Moved.len:s'.length=s.length:=by
 obtain⟨f,rfl,h⟩:=h.map;rw[ZK]
theorem Moved.out{R:Nat}(hR:∀p∈s,p.o<=R):∀p∈s',p.o<=m*R:=λp hp=>by
 obtain⟨f,rfl,g⟩:=h.map;obtain⟨q,hq,rfl⟩:=Z5.mp hp;rw[(g q hq).2.1];exact adM _ (hR q hq)
theorem Moved.edges:edges s'=(edges s).map (m*·):=by
 have hs:((Pg.edges s).map (m*·)).Pairwise (·<·):=acG.mpr ((bA s).imp λz=>(aeW h.pos).mpr z);refine((abB ((bA s').imp Z1) (hs.imp Z1)).mpr λx=>?_).eq_of_pairwise (λx y _ _ h1 h2=>absurd h1 (Nat.lt_asymm h2)) (bA s') hs;rw[cL h.ok,Z5];simp only[cL h.ok0];obtain⟨f,rfl,g⟩:=h.map;unfold jU;simp only[ZP,aaz,Z5];constructor
 ·rintro(rfl|⟨p,⟨q,hq,rfl⟩,hx⟩)
  ·exact⟨0,.inl rfl,afd _⟩
  ·rw[(g q hq).1,(g q hq).2.1]at hx;rcases hx with rfl|rfl|hx
   ·exact⟨_,.inr ⟨q,hq,.inl rfl⟩,rfl⟩
   ·exact⟨_,.inr ⟨q,hq,.inr (.inl rfl)⟩,rfl⟩
   ·cases hx
 ·rintro⟨y,rfl|⟨q,hq,hx⟩,rfl⟩
  ·exact .inl (afd _)
  ·refine .inr ⟨f q,⟨q,hq,rfl⟩,?_⟩;rw[(g q hq).1,(g q hq).2.1];rcases hx with rfl|rfl|hx
   ·exact .inl rfl
   ·exact .inr (.inl rfl)
   ·cases hx
theorem Moved.at(j:Nat):(Pg.edges s').getD j 0=m*(Pg.edges s).getD j 0:=by
 rw[h.edges];simp only[Z3,aad];cases(Pg.edges s)[j]?<;>rfl
theorem Moved.elen:(Pg.edges s').length=(Pg.edges s).length:=by rw[h.edges,ZK]
theorem Moved.lay(r:Nat){t:Nat}(ht:t<24):∀k,dg k s' (m*r) t=dg k s r (τ t):=by
 obtain⟨f,rfl,g⟩:=h.map;clear h;induction s with
 |nil=>intro k;rfl|cons p s ih=>
   intro k;rw[ZD,dg,dg,(g p ZF).2.2.2 r t ht,ih (λq hq=>g q (Zy _ hq)) (k+1)]
theorem Moved.dep(r:Nat){t:Nat}(ht:t<24):dep s' (m*r) t=dep s r (τ t):=by
 rw[<-gf s' 0,<-gf s 0,h.lay r ht 0]
theorem Moved.vl(c:Nat):vv (Pg.edges s') (dg 0 s') c=vv (Pg.edges s) (dg 0 s) (phi τ c):=by
 unfold vv;rw[lW h.tau,yW h.tau,h.at];exact h.lay _ (aaq _ (by decide)) 0
theorem Moved.vc(c:Nat):cv s' (Pg.edges s') c=cv s (Pg.edges s) (phi τ c):=by
 unfold cv;rw[lW h.tau,yW h.tau,h.at,h.dep _ (aaq _ (by decide))]
theorem Moved.out_eq{β:Type}[DecidableEq β]{E:List Nat}{val:Nat->Nat->β}{N:Nat}(hF:Far E val N){v':Nat->β}(hv:∀c,v' c=vv E val (phi τ c)){c:Nat}(hc:c<24*E.length):Pg.out (iu (24*E.length)) v' (24*E.length) c=Pg.out (iu (24*E.length)) (vv E val) (24*E.length) (phi τ c):=by
 have hp:=hF.bd.pos;have hs:=nG E.length;have h2:=qU h.tau (K:=E.length) (v:=vv E val) (v':=v') λc _=>hv c;have hl:=h.tau.lt 23 (by decide);have e:phi τ (24*E.length-1)=24*(E.length-1)+τ 23:=by
  unfold phi;rw[show(24*E.length-1)/24=E.length-1 by omega,show(24*E.length-1)%24=23 by omega]
 have g1:=kZ (n:=24*E.length) (v:=vv E val) hF.vlast (τ 23) hl;have g2:=kZ (n:=24*E.length) (v:=vv E val) hF.vlast 23 (by decide);have h0:24*(E.length-1)<24*E.length:=by omega
 have g3:Hg (iu (24*E.length)) (vv E val) (24*E.length-1) (phi τ (24*E.length-1)):=by
  rw[e,show 24*E.length-1=24*(E.length-1)+23 by omega];exact(g2.symm hs h0).trans g1
 rw[aau,out_iff,out_iff,h2.hg _ _ (by omega) hc];exact⟨λg=>g3.trans g,λg=>(g3.symm hs (by omega)).trans g⟩
omit h in
theorem Bv{β:Type}[DecidableEq β]{n:Nat}{nb:Nat->List Nat}{v:Nat->β}(hs:JB nb n){a b:Nat}(ha:a<n)(g:Hg nb v a b):Pg.out nb v n a=Pg.out nb v n b:=by
 rw[aau,out_iff,out_iff];exact⟨λz=>z.trans g,λz=>z.trans (g.symm hs ha)⟩
theorem Moved.ar(c:Nat):Lk (Pg.edges s') c=(m*m:Nat)*Lk (Pg.edges s) c:=by
 unfold Lk Pg.ar;simp only[h.at,abq,aeU,ae1,Int.mul_left_comm]
omit h in
theorem VR{β:Type}[DecidableEq β]{n:Nat}{nb:Nat->List Nat}{v:Nat->β}{F F':Nat->Int}{x:Int}(hF:∀c,F' c=x*F c)(a:Nat):GA nb v n F' a=x*GA nb v n F a:=by
 unfold GA;rw[<-wz];refine gj n λc _=>?_;split
 ·exact hF c
 ·exact(adk _).symm
theorem Moved.faces{N:Nat}(hF:Far (Pg.edges s) (dg 0 s) N):((Qs s').map Prod.snd).Perm ((Qs s).map λq=>q.2*(m*m:Nat)):=by
 have hs:=nG (Pg.edges s).length;have h2:=qU h.tau (K:=(Pg.edges s).length) (v:=vv (Pg.edges s) (dg 0 s)) (v':=vv (Pg.edges s') (dg 0 s')) λc _=>h.vl c;unfold Qs fq hc';rw[h.elen,aai,aai];refine u9 hs h2 (P:=λd => !Pg.out (iu (24*(Pg.edges s).length)) (vv (Pg.edges s) (dg 0 s)) (24*(Pg.edges s).length) d) (λa ha=>?_) (λa b ha g=>?_) (λa ha=>?_) λa b ha g=>?_
 ·rw[h.out_eq hF h.vl ha]
 ·rw[Bv hs ha g]
 ·refine(h2.area (F:=Lk (Pg.edges s')) (λc=>by unfold Lk;rw[lW h.tau]) ha).trans ((VR h.ar _).trans (aeF _ _))
 ·exact aaS (·*((m*m:Nat):Int)) (SJ hs ha g _)
theorem Moved.count{N:Nat}(hF:Far (Pg.edges s) (dg 0 s) N):(Qs s').length=(Qs s).length:=by
 have:=(h.faces hF).length_eq;rw[ZK,ZK]at this;exact this
theorem Moved.groups{N:Nat}(hF:Far (Pg.edges s) (wv s) N)(b:Bool):Sy (cv s' (Pg.edges s')) (24*(Pg.edges s').length) b=Sy (cv s (Pg.edges s)) (24*(Pg.edges s).length) b:=by
 have hs:=nG (Pg.edges s).length;have h2:=qU h.tau (K:=(Pg.edges s).length) (v:=cv s (Pg.edges s)) (v':=cv s' (Pg.edges s')) λc _=>h.vc c;rw[h.elen];unfold Sy;simp only[Bool.and_assoc];have:=u9 hs h2 (P:=λd => !Pg.out (iu (24*(Pg.edges s).length)) (cv s (Pg.edges s)) (24*(Pg.edges s).length) d&&cv s (Pg.edges s) d==b) (P':=λd => !Pg.out (iu (24*(Pg.edges s).length)) (cv s' (Pg.edges s')) (24*(Pg.edges s).length) d&&cv s' (Pg.edges s') d==b) (F:=λ_=>()) (F':=λ_=>()) (λa ha=>?_) (λa b' ha g=>?_) (λ_ _=>rfl) λ_ _ _ _=>rfl
 ·have:=this.length_eq;rw[ZK,ZK]at this;exact this
 ·have:=h.out_eq (v':=cv s' (Pg.edges s')) hF (λc=>by rw[<-Qh];exact h.vc c) ha;rw[Qh s];rw[this,h.vc,<-Qh]
 ·rw[Bv hs ha g,g.val]
theorem Moved.row(r k:Nat):cnt s' (m*r) k=cnt s r k:=by
 have h2:=qU h.tau (K:=1) (v:=λ_=>()) (v':=λ_=>()) λ_ _=>rfl;unfold cnt aX rowOf;have e:(List.range 24).map (λt=>(Pg.dep s' (m*r) t:Int))=((List.range 24).map (phi τ)).map λt=>(Pg.dep s r t:Int):=by
  rw[aai];refine aaD λt ht=>?_;rw[aab]at ht;simp only[Function.comp];rw[h.dep r ht];unfold phi;rw[show t/24=0 by omega,show t%24=t by omega,afd,acx]
 rw[e];exact(h2.perm.map _).count_eq _
omit h in
theorem Av{α:Type}(x:Int)(g:α->Int):∀l:List α,(l.map λq=>x*g q).sum=x*(l.map g).sum
 |[]=>(adk x).symm|q::l=>by rw[ZD,ZD,Z8,Z8,Av x g l,ad8]
theorem Moved.areas:d8 s'=(d8 s).map λ(x:Int)=>x*((m*m:Nat):Int):=by
 have l1:∀s:List Pc,(d8 s).length=s.length+1:=λs=>by unfold d8;rw[mL,abe]
 refine acM (by rw[ZK,l1,l1,h.len]) λk h1 h2=>?_;have g:∀(s:List Pc)(hk:k<(d8 s).length),(d8 s)[k]=((bj (Pg.edges s)).map λq=>Pg.ar q*(cnt s q.1 k:Int)).sum:=λs hk=>by
  have:=p8 s k (bj (Pg.edges s)) (List.replicate (s.length+1) 0) (abe ..);rw[show(List.replicate (s.length+1) (0:Int)).getD k 0=0 by rw[Z3,aa6];split<;>rfl,afc]at this;rw[<-this];show(d8 s)[k]=(d8 s).getD k 0;rw[Z3,ZM hk];rfl
 rw[List.getElem_map,g s' h1,g s (by rw[ZK]at h2;exact h2),aeF,<-Av];unfold bj;rw[h.edges,<-List.map_tail,List.zip_map,aai];refine aaS List.sum (aaD λq _=>?_);show Pg.ar (m*q.1,m*q.2)*(cnt s' (m*q.1) k:Int)=_;rw[h.row,<-ae1];unfold Pg.ar;simp only[abq,aeU,ae1,Int.mul_left_comm]
theorem Moved.arcs:((List.range (24*(Pg.edges s').length-24)).map (Lr (cv s' (Pg.edges s')) (Pg.edges s'))).sum=m*((List.range (24*(Pg.edges s).length-24)).map (Lr (cv s (Pg.edges s)) (Pg.edges s))).sum:=by
 rw[h.elen,show 24*(Pg.edges s).length-24=24*((Pg.edges s).length-1)by omega];refine afa ?_ (aaS (λz=>(m:Int)*z) (yV h.tau ((Pg.edges s).length-1) (Lr (cv s (Pg.edges s)) (Pg.edges s))));rw[<-wz];refine gj _ λc _=>?_;unfold Lr;have e:phi τ (c+24)=phi τ c+24:=by
  unfold phi;rw[show(c+24)%24=c%24 by omega];omega
 rw[h.vc,h.vc,e,h.at,lW h.tau];split
 ·exact abq _ _
 ·exact(adk _).symm
theorem Moved.lins:((List.range (24*(Pg.edges s').length-24)).map (Lp (cv s' (Pg.edges s')) (Pg.edges s'))).sum=m*((List.range (24*(Pg.edges s).length-24)).map (Lp (cv s (Pg.edges s)) (Pg.edges s))).sum:=by
 rw[h.elen,show 24*(Pg.edges s).length-24=24*((Pg.edges s).length-1)by omega];have b1:∀c,rM c=phi (T9 1) c:=λc=>by unfold rM phi T9;omega
 have b2:∀c,rM (uA c)=c:=λc=>by unfold rM uA;omega
 have d0:∀c,uA c/24=c/24:=λc=>by unfold uA;omega
 have e:Sm (Lp (cv s' (Pg.edges s')) (Pg.edges s')) (24*((Pg.edges s).length-1))=Sm (λc=>m*Lp (cv s (Pg.edges s)) (Pg.edges s) (phi τ c)) (24*((Pg.edges s).length-1)):=by
  rcases Fv h.tau with a|a
  ·refine gj _ λc _=>?_;unfold Lp;rw[h.vc,h.vc,(a c).1,h.at,h.at,lW h.tau,abq,abq,<-aeU];split
   ·rfl
   ·exact(adk _).symm
  ·refine afa ?_ (yV (Hh (k:=1) (by decide)) _ _);refine gj _ λc _=>?_;unfold Lp;rw[<-b1,(a c).1,b2,d0,h.vc,h.vc,(a c).1,h.at,h.at,lW h.tau,abq,abq,<-aeU,bne_comm];split
   ·rfl
   ·exact(adk _).symm
 refine e.trans ((wz _ _ _).trans (aaS (λz=>(m:Int)*z) (yV h.tau _ _)))
end
end DL.Pg
namespace DL.K09
open PySem DL DL.Pg DL.Lw
noncomputable def TV(b:Int)(p:Pc):Pc:=⟨p.i,p.o,((p.b+b)%24).toNat,p.w⟩
noncomputable def Uh(p:Pc):Pc:=⟨p.i,p.o,((48-p.b-p.w:Int)%24).toNat,p.w⟩
noncomputable def Sx(m:Nat)(p:Pc):Pc:=⟨p.i*m,p.o*m,p.b,p.w⟩
theorem Xo{s:List Pc}(h:∀p∈s,p.ok)(b:Int):Moved s (s.map (TV b)) (T9 ((24-b%24)%24).toNat) 1:=by
 refine⟨Hh (by omega),by decide,h,_,rfl,λp hp=>⟨(adB _).symm,(adB _).symm,?_,λr t ht=>?_⟩⟩
 ·obtain⟨h1,h2,h3,h4,h5⟩:=h p hp;exact⟨h1,h2,by show((p.b+b)%24).toNat<24;omega,h4,h5⟩
 ·obtain⟨h1,h2,h3,h4,h5⟩:=h p hp;rw[adB];unfold Pc.has Pc.at TV T9;congr 2;rw[eq_iff_iff];show(t+24-((p.b+b)%24).toNat)%24<p.w↔_;omega
theorem Xp{s:List Pc}(h:∀p∈s,p.ok):Moved s (s.map Uh) Vx 1:=by
 refine⟨Q6,by decide,h,_,rfl,λp hp=>⟨(adB _).symm,(adB _).symm,?_,λr t ht=>?_⟩⟩
 ·obtain⟨h1,h2,h3,h4,h5⟩:=h p hp;exact⟨h1,h2,by show((48-p.b-p.w:Int)%24).toNat<24;omega,h4,h5⟩
 ·obtain⟨h1,h2,h3,h4,h5⟩:=h p hp;rw[adB];unfold Pc.has Pc.at Uh Vx;congr 2;rw[eq_iff_iff];show(t+24-((48-p.b-p.w:Int)%24).toNat)%24<p.w↔_;omega
theorem Xq{s:List Pc}(h:∀p∈s,p.ok)(ho:∀p∈s,p.o<=6){m:Nat}(h1:0<m)(h9:m<=9):Moved s (s.map (Sx m)) (λt=>t) m:=by
 refine⟨⟨λt ht=>ht,⟨λt=>t,λt ht=>⟨ht,rfl,rfl⟩⟩,.inl λt ht=>rfl⟩,h1,h,_,rfl,λp hp=>⟨adb _ _,adb _ _,?_,λr t ht=>?_⟩⟩
 ·obtain⟨a1,a2,a3,a4,a5⟩:=h p hp;have:=ho p hp;have q:p.o*m<=6*9:=aeQ this h9;exact⟨(Nat.mul_lt_mul_right h1).mpr a1,by show p.o*m<=1000;omega,a3,a4,a5⟩
 ·unfold Pc.has;show(decide (p.i*m<=m*r)&&decide (m*r<p.o*m)&&p.at t)=_;rw[adb p.i,adb p.o];simp only[Nat.mul_le_mul_left_iff h1,aeW h1]
theorem oO{k:Nat}{fv:List Nat}{g:MG}{e:ME}{δ:Ev}{s:List Pc}(f:Pc->Pc)(hv:ak 0 δ=some (aQ s))(hl:s.length<=1000)(st:∀p∈s,∃δ1,g (pD p) (pick k fv δ)=some δ1/\e δ1=some (pD (f p))):
 au dJ (aj (bM k fv (cC (ak 0)) g tT e) az) δ=some (aQ (s.map f)):=by
 have hi:cC (ak 0) δ=some (s.map pD):=by unfold cC;rw[hv];rfl
 rw[aM (cR (λd=>some (pD (f (NQ d)))) hi (by rw[ZK];omega) λx hx=>?_)]
 ·rw[ab2];show some (D.tup (s.filterMap λp=>some (pD (f p))))=_;rw[aaQ];unfold aQ;rw[aai];rfl
 ·obtain⟨p,hp,rfl⟩:=Z5.mp hx;obtain⟨δ1,e1,e2⟩:=st p hp;exact⟨δ1,e1,.inl ⟨rfl,_,e2,rfl⟩⟩
theorem Ia(x:Int):(((x%24).toNat:Nat):Int)=x%24:=abC (by omega)
theorem WL(b:Int)(p:Pc):D.tup [.int p.i,.int p.o,.int (((p.b:Int)+b)%24),.int p.w]=pD (TV b p):=by
 unfold pD TV;rw[Ia]
theorem Xr(p:Pc):D.tup [.int p.i,.int p.o,.int ((48-(p.b:Int)-p.w)%24),.int p.w]=pD (Uh p):=by
 unfold pD Uh;rw[Ia]
theorem Xy(m:Nat)(p:Pc):D.tup [.int ((p.i:Int)*m),.int ((p.o:Int)*m),.int p.b,.int p.w]=pD (Sx m p):=by
 unfold pD Sx;rw[<-abq,<-abq]
abbrev g4:MG:=gT (aP (gN 0) (aP (gN 1) (aP (gN 2) (aP (gN 3) dB))))
theorem M7{s:List Pc}(hl:s.length<=1000)(b:Int):vA [aQ s,.int b]=some (aQ (s.map (TV b))):=
 bZ rfl (bQ (oO (TV b) rfl hl λp hp=>⟨[some (pD p),some (.int b)],rfl,by rw[<-WL];rfl⟩))
theorem Fj{s:List Pc}(hl:s.length<=1000):pY [aQ s]=some (aQ (s.map Uh)):=
 bZ rfl (bQ (oO Uh rfl hl λp hp=>⟨[some (pD p)],rfl,by
  rw[<-Xr,show(48-(p.b:Int)-p.w)%24=(-(p.b:Int)-p.w)%24 by omega];rfl⟩))
theorem zc{a b:ME}{δ:Ev}{i:Int}{m:Nat}(ha:a δ=some (.int i))(hb:b δ=some (.int m))(h:m<=1000):aK cA a b δ=some (.int (i*m)):=(bu ha hb).trans (sS (rZ h))
theorem nY{a:ME}{r:MA}{δ:Ev}{x:D}{xs:List D}(ha:a δ=some x)(hr:r δ=some xs):aj a r δ=some (x::xs):=by unfold aj;rw[ha,hr];rfl
theorem Ao{r:MA}{δ:Ev}{xs:List D}(h:r δ=some xs):dw r δ=some (.tup xs):=by unfold dw;rw[h];rfl
theorem Ru{s:List Pc}(hl:s.length<=1000){m:Nat}(h:m<=1000):zj [aQ s,.int m]=some (aQ (s.map (Sx m))):=
 bZ rfl (bQ (oO (Sx m) rfl hl λp hp=>⟨[some (pD p),some (.int m)],rfl,by
  rw[<-Xy];exact Ao (nY (zc rfl rfl h) (nY (zc rfl rfl h) rfl))⟩))
theorem XN{p q:Pc}(h:dW (pD p) (pD q)=true):p=q:=by
 obtain⟨a,b,c,d⟩:=p;obtain⟨a',b',c',d'⟩:=q;simp[pD,dW,il]at h;simp;omega
theorem Pj:∀{a b:List Pc},il (a.map pD) (b.map pD)=true->a=b
 |[],[],_=>rfl|[],_::_,h=>by simp[il]at h|_::_,[],h=>by simp[il]at h|p::a,q::b,h=>by
   rw[ZD,ZD,il,aac]at h;rw[XN h.1,Pj h.2]
theorem vY(s:List Pc):bY (aQ s)<=30:=by
 show dh (s.map pD)+1<=30;have:dh (s.map pD)<=1:=depDs_le.mpr λd hd=>by
  obtain⟨p,_,rfl⟩:=Z5.mp hd;exact ZS _
 omega
theorem lG(l:List Int):dh (l.map D.int)<=29:=depDs_le.mpr λd hd=>by
 obtain⟨p,_,rfl⟩:=Z5.mp hd;exact aap _
theorem R5{d:D}(h:bY d<=30):um d d=some (.bl false):=by
 unfold um;rw[ZZ ⟨h,h⟩,jO];rfl
theorem zb{a b:ME}{δ:Ev}{x:D}{m n:MS}(ha:a δ=some x)(hb:b δ=some x)(h:bY x<=30):m6 (tV (aK um a b)) m n δ=n δ:=Gh (gM (d:=.bl false) ((bu ha hb).trans (R5 h)) rfl)
theorem Tp{A:ME}{δ:Ev}{l:List Int}{k:Nat}(hA:A δ=some (.tup (l.map D.int)))(h9:slot δ 9=some (.int k))(hl:l.length<=1000)(hk:k<=1000):
 au dJ (aj (bM 1 [9] (cC A) (gN 0) tT (aK cA (ak 0) (ak 1))) az) δ=some (.tup ((l.map λx=>x*(k:Int)).map D.int)):=by
 have hi:cC A δ=some (l.map D.int):=by unfold cC;rw[hA];rfl
 rw[aM (cR (λd=>match d with|.int x=>some (.int (x*k))|_=>none) hi (by rw[ZK];omega) λx hx=>?_),ab2]
 ·show some (D.tup (l.filterMap λx=>some (D.int (x*k))))=_;rw[aaQ,aai];rfl
 ·obtain⟨i,_,rfl⟩:=Z5.mp hx;exact⟨[some (.int i),some (.int k)],by show some [some _,slot δ 9]=_;rw[h9],.inl ⟨rfl,_,zc rfl rfl hk,rfl⟩⟩
theorem sortI_perm{a b:List Int}(h:a.Perm b):sortI a=sortI b:=xf ((acU _ _).trans (h.trans (acU _ _).symm)) (lL _) (lL _)
noncomputable def sn:D->Int
 |.tup [_,.int a]=>a|_=>0
theorem IK{fv:List Nat}{A e:ME}{δ:Ev}{qs:List (List Nat×Int)}{k:Nat}{l:List Int}(hA:A δ=some (.tup (JT qs)))(he:∀(u:D)(a:Int),e (some u::some (.int a)::fv.map (slot δ))=some (.int (a*k)))(hq:qs.length<64)(hp:(qs.map λq=>q.2*(k:Int)).Perm l):
 rR rW (bM 2 fv (cC A) (gT (aP (gN 0) (aP (gN 1) dB))) tT e) δ=some (.lst ((sortI l).map D.int)):=by
 have hi:cC A δ=some (JT qs):=by unfold cC;rw[hA];rfl
 have hm:∀x∈JT qs,∃q,x=Lq q:=λx hx=>by
  obtain⟨q,_,e⟩:=Z5.mp ((uJ qs).mem_iff.mp hx);exact⟨q,e.symm⟩
 rw[wY (cR (λd=>some (.int (sn d*k))) hi (by rw[yH];omega) λx hx=>?_),aaQ]
 ·have e1:(JT qs).map (λd=>D.int (sn d*k))=((JT qs).map λd=>sn d*k).map D.int:=by rw[aai];rfl
  unfold rW;simp only;rw[e1,ints_map];simp only[Z0];rw[ZZ (by rw[ZK,yH];exact hq),sortI_perm (List.Perm.trans ((uJ qs).map _) ?_)];rw[aai];exact hp
 ·obtain⟨q,rfl⟩:=hm x hx;exact⟨some (lK q.1)::some (.int q.2)::fv.map (slot δ),rfl,.inl ⟨rfl,_,he _ _,rfl⟩⟩
structure Fx(x:List Pc):Prop where
 ok:∀p∈x,p.ok
 len:x.length<=1000
 ed:(edges x).length<=60
 far:Far (edges x) (dg 0 x) 100
 few:(Qs x).length<64
theorem Fx.faces{x:List Pc}(f:Fx x):my [aQ x]=some (.tup (JT (Qs x))):=Rv f.ok f.len f.ed f.far (by decide) f.few
theorem Fx.three{x:List Pc}(f:Fx x){a:ME}{δ:Ev}(ha:a δ=some (aQ x)):dw (aj (au gR (aj a az)) (aj (au qX (aj a az)) (aj (au qY (aj a az)) az))) δ=some (.tup [.int ((Qs x).length+1:Nat),.int (Sy (cv x (edges x)) (24*(edges x).length) true:Nat),.int (Sy (cv x (edges x)) (24*(edges x).length) false:Nat)]):=by
 have:=f.ed;exact Ao (nY ((aM ha).trans (yS f.faces)) (nY ((aM ha).trans (Rr f.ok f.len (by omega))) (nY ((aM ha).trans (Rt f.ok f.len (by omega))) rfl)))
theorem Fx.wfar{x:List Pc}(f:Fx x):Far (edges x) (wv x) 100:=⟨⟨f.far.bd.ris,f.far.bd.pos,f.far.bd.zero,f.far.bd.lt,λb r t h1 h2 h3=>by
 unfold wv;rw[<-gf x 0,<-gf x 0,f.far.bd.bc b r t h1 h2 h3]⟩,f.far.K,λr t t' h=>by
 unfold wv;rw[<-gf x 0,<-gf x 0,f.far.same r t t' h]⟩
theorem O8{s:List Pc}(h:∀p∈s,p.ok)(ho:∀p∈s,p.o<=6)(hl:s.length<=5):Fx s:=by
 have he:=iC h ho;have hF:=xW h (N:=100) (by decide) λp hp=>by have:=ho p hp;omega
 exact⟨h,by omega,by omega,hF,by unfold Qs;rw[ZK];exact Gk h ho hl hF⟩
theorem vP{s x:List Pc}{τ:Nat->Nat}{m:Nat}(f:Fx s)(ho:∀p∈s,p.o<=6)(h9:m<=9)(v:Moved s x τ m):Fx x:=by
 refine⟨v.ok,by rw[v.len];exact f.len,by rw[v.elen];exact f.ed,xW v.ok (by decide) λp hp=>?_,by rw[v.count f.far];exact f.few⟩;have:=v.out ho p hp;have:m*6<=9*6:=aeT _ h9;omega
abbrev TS(S:D)(b:Option D)(m:Nat)(O G R:D)(A L x8 x9:Option D):Ev:=[some S,b,some (.int m),some O,some G,some R,A,L,x8,x9]
theorem body{s x r:List Pc}{τ:Nat->Nat}{m n:Nat}(f:Fx s)(g:Fx x)(v:Moved s x τ n)(hn:n<=9)(hm:m<=9)(hk:if dW (aQ x) (aQ r)=true then m*m=n*n else n*n=1)(b:Option D)(O G:D)(A L x9:Option D):
 du (TS (aQ s) b m O G (aQ r) A L (some (aQ x)) x9)=some (.nx (TS (aQ s) b m O G (aQ r) A L (some (aQ x)) (some (.int (n*n:Nat))))):=by
 have:=f.ed;have:=g.ed;have q:n*n<=9*9:=aeQ hn hn;unfold du;rw[aO (bI (δ':=TS (aQ s) b m O G (aQ r) A L (some (aQ x)) (some (.int 1))) (d:=.int 1) rfl rfl)];rw[aO (δ':=TS (aQ s) b m O G (aQ r) A L (some (aQ x)) (some (.int (n*n:Nat)))) ?_]
 ·refine(aO ((zb ((aM (x:=aQ x) rfl).trans (j9 g.ok g.len (by omega))) ?_ (Nat.succ_le_succ (lG _))).trans rfl)).trans ?_
  ·rw[v.areas,<-List.map_tail];refine Tp ((aM (x:=aQ s) rfl).trans (j9 f.ok f.len (by omega))) rfl ?_ (by omega);have:=f.len;unfold d8;rw[List.length_tail,mL,abe];omega
  refine(aO ((zb (g.three rfl) ?_ (by decide:1<=30)).trans rfl)).trans ?_
  ·rw[f.three rfl,v.count f.far,v.groups f.wfar,v.groups f.wfar]
  exact(zb (IK (k:=1) ((aM (x:=aQ x) rfl).trans g.faces) (λu a=>by rw[aeJ,ad0];rfl) g.few (l:=(Qs s).map λq=>q.2*(n*n:Nat)) (by simp only[aeJ,ad0];exact v.faces f.far)) (IK ((aM (x:=aQ s) rfl).trans f.faces) (λu a=>zc rfl rfl (by omega)) f.few (.refl _)) (Nat.succ_le_succ (lG _))).trans rfl
 ·have t:tV (aK oEq (ak 8) (ak 5)) (TS (aQ s) b m O G (aQ r) A L (some (aQ x)) (some (.int 1)))=some (dW (aQ x) (aQ r)):=gM ((bu (x:=aQ x) (y:=aQ r) rfl rfl).trans (ZZ ⟨vY _,vY _⟩)) rfl;rw[Ox t];split at hk
  ·rw[ZZ ‹_›,<-hk,abq];exact bI (zc rfl rfl (by omega)) rfl
  ·rw[aaa ‹_›,hk];rfl
theorem eq_self{d:D}(h:bY d<=30):oEq d d=some (.bl true):=by
 unfold oEq;rw[ZZ ⟨h,h⟩,jO]
theorem X4{a b:ME}{δ:Ev}(ha:a δ=some (.bl true)):Gp a b δ=b δ:=by unfold Gp;rw[ha];rfl
abbrev arcs(s:List Pc):Int:=((List.range (24*(edges s).length-24)).map (Lr (cv s (edges s)) (edges s))).sum
abbrev lins(s:List Pc):Int:=((List.range (24*(edges s).length-24)).map (Lp (cv s (edges s)) (edges s))).sum
theorem Fx.border{s x:List Pc}{τ:Nat->Nat}{n:Nat}(g:Fx x)(v:Moved s x τ n){a:ME}{δ:Ev}(ha:a δ=some (aQ x)):au jb (aj a az) δ=some (.tup [.int (arcs s*n),.int (lins s*n)]):=by
 have:=g.ed;rw[aM ha,Br g.ok g.len (by omega),v.arcs,v.lins,aeF,aeF (n:Int)]
theorem uW{s:List Pc}(h:∀p∈s,p.ok)(ho:∀p∈s,p.o<=6)(hl:s.length<=5)(b:Int){m:Nat}(h1:0<m)(h9:m<=9):fY [aQ s,.int b,.int m]=some (.bl true):=by
 have f:=O8 h ho hl;have v1:=Xo h b;have v2:=Xp h;have v3:=Xq h ho h1 h9;have f1:=vP f ho (by decide) v1;have f2:=vP f ho (by decide) v2;have f3:=vP f ho h9 v3;have hl:=f.len;have he:=f.ed;have r1:=M7 hl b;have r2:=Fj hl;have r3:=Ru hl (m:=m) (by omega);have c1:∀δ:Ev,ak 0 δ=some (aQ s)->slot δ 1=some (.int b)->au dJ (aj (bM 4 [1] (cC (ak 0)) g4 tT (dw (aj (ak 0) (aj (ak 1) (aj (aK oMod (aK bO (ak 2) (ak 4)) (eC (.int 24))) (aj (ak 3) az)))))) az) δ=some (aQ (s.map (TV b))):=λδ e0 e1=>oO _ e0 hl λp hp=>⟨[some (.int p.i),some (.int p.o),some (.int p.b),some (.int p.w),slot δ 1],rfl,by rw[<-WL,e1];rfl⟩;have c2:∀δ:Ev,ak 0 δ=some (aQ s)->au dJ (aj (bM 4 [] (cC (ak 0)) g4 tT (dw (aj (ak 0) (aj (ak 1) (aj (aK oMod (aK iW (aK iW (eC (.int 48)) (ak 2)) (ak 3)) (eC (.int 24))) (aj (ak 3) az)))))) az) δ=some (aQ (s.map Uh)):=λδ e0=>oO _ e0 hl λp hp=>⟨[some (.int p.i),some (.int p.o),some (.int p.b),some (.int p.w)],rfl,by rw[<-Xr];rfl⟩;have c3:∀δ:Ev,ak 0 δ=some (aQ s)->slot δ 2=some (.int m)->au dJ (aj (bM 4 [2] (cC (ak 0)) g4 tT (dw (aj (aK cA (ak 0) (ak 4)) (aj (aK cA (ak 1) (ak 4)) (aj (ak 2) (aj (ak 3) az)))))) az) δ=some (aQ (s.map (Sx m))):=λδ e0 e1=>oO _ e0 hl λp hp=>⟨[some (.int p.i),some (.int p.o),some (.int p.b),some (.int p.w),slot δ 2],rfl,by
  rw[<-Xy,e1];exact Ao (nY (zc rfl rfl (by omega)) (nY (zc rfl rfl (by omega)) rfl))⟩
 have hk:∀x:List Pc,dW (aQ x) (aQ (s.map (Sx m)))=true->x=s.map (Sx m):=λx hx=>Pj (by unfold aQ at hx;rw[dW]at hx;exact hx);generalize s.map (TV b)=o at *;generalize s.map Uh=g at *;generalize s.map (Sx m)=r at *;have one:∀(x:List Pc)(τ:Nat->Nat),Fx x->Moved s x τ 1->∃n:Nat,∀(A L x9:Option D),du (TS (aQ s) (some (.int b)) m (aQ o) (aQ g) (aQ r) A L (some (aQ x)) x9)=some (.nx (TS (aQ s) (some (.int b)) m (aQ o) (aQ g) (aQ r) A L (some (aQ x)) (some (.int n)))):=λx τ fx v=>by
  by_cases e:dW (aQ x) (aQ r)=true
  ·have ee:=hk x e;subst ee;exact⟨_,λA L x9=>body f f3 v3 h9 h9 (by rw[ZZ e]) _ _ _ _ _ _⟩
  ·exact⟨_,λA L x9=>body f fx v (by decide) h9 (by rw[aaa e]) _ _ _ _ _ _⟩
 obtain⟨n1,b1⟩:=one o _ f1 v1;obtain⟨n2,b2⟩:=one g _ f2 v2;refine bZ rfl ?_;show dM [some (aQ s),some (.int b),some (.int m),none,none,none,none,none,none,none]=_;unfold dM;rw[aO (bI (δ':=[some (aQ s),some (.int b),some (.int m),some (aQ o),none,none,none,none,none,none]) ((bF (x:=aQ s) (y:=.int b) rfl rfl).trans r1) rfl)];rw[aO (bI (δ':=[some (aQ s),some (.int b),some (.int m),some (aQ o),some (aQ g),none,none,none,none,none]) ((aM (x:=aQ s) rfl).trans r2) rfl)];rw[aO (bI (δ':=TS (aQ s) (some (.int b)) m (aQ o) (aQ g) (aQ r) none none none none) ((bF (x:=aQ s) (y:=.int m) rfl rfl).trans r3) rfl)];rw[aO ((zb (x:=aQ o) rfl (c1 _ rfl rfl) (vY _)).trans rfl),aO ((zb (x:=aQ g) rfl (c2 _ rfl) (vY _)).trans rfl),aO ((zb (x:=aQ r) rfl (c3 _ rfl rfl) (vY _)).trans rfl)];rw[aO (bI (δ':=TS (aQ s) (some (.int b)) m (aQ o) (aQ g) (aQ r) (some (.int (arcs s))) (some (.int (lins s))) none none) ((aM (x:=aQ s) rfl).trans (Br f.ok f.len (by omega))) rfl)];rw[aO (δ':=TS (aQ s) (some (.int b)) m (aQ o) (aQ g) (aQ r) (some (.int (arcs s))) (some (.int (lins s))) (some (aQ r)) (some (.int (m*m:Nat)))) ((dj (xs:=[aQ o,aQ g,aQ r]) rfl).trans ((dU rfl (b1 _ _ _)).trans ((dU rfl (b2 _ _ _)).trans ((dU rfl (body f f3 v3 h9 h9 (by rw[ZZ (jO _)]) _ _ _ _ _ _)).trans rfl))))];refine(aO ((zb (f3.border v3 rfl) (Ao (nY (zc rfl rfl (by omega)) (nY (zc rfl rfl (by omega)) rfl))) (by decide:1<=30)).trans rfl)).trans (bQ ?_);have fin:∀(x:List Pc)(τ:Nat->Nat),Fx x->Moved s x τ 1->∀{a:ME}{δ:Ev},a δ=some (aQ x)->slot δ 6=some (.int (arcs s))->slot δ 7=some (.int (lins s))->aK oEq (au jb (aj a az)) (dw (aj (ak 6) (aj (ak 7) az))) δ=some (.bl true):=λx τ fx v a δ ha e6 e7=>by
  have:=fx.border v ha;rw[aeJ,ad0,ad0]at this;exact(bu this (Ao (nY e6 (nY e7 rfl)))).trans (eq_self (by decide:1<=30))
 rw[X4 (fin o _ f1 v1 rfl rfl rfl)];exact fin g _ f2 v2 rfl rfl rfl
end DL.K09
namespace DL.Pg
open PySem DL
end DL.Pg
namespace DL.K04
open PySem DL DL.Pg DL.Lw
end DL.K04
namespace DL.Pg
open PySem DL DL.Lw
end DL.Pg
namespace DL.K04
open PySem DL DL.Pg DL.Lw
theorem pP(ns:List Int){k:Int}(hk:0<=k):∃c,jc [.lst (ns.map .int),.int k]=some (.int c):=by
 have hl:fB [.lst (ns.map .int)]=some (.int ns.length):=by simp[fB]
 have t0:tV (aK oLt (ak 1) (au fB (aj (ak 0) az))) [some (.lst (ns.map .int)),some (.int k)]=some (decide (k<ns.length)):=
  gM (d:=.bl _) ((bu (x:=.int k) (y:=.int ns.length) rfl ((aM (x:=.lst (ns.map .int)) rfl).trans hl)).trans rfl) rfl
 by_cases h:k<ns.length
 ·have hz:k.toNat<ns.length:=by omega
  refine⟨ns[k.toNat],bZ rfl ?_⟩;show gK [some (.lst (ns.map .int)),some (.int k)]=_;unfold gK;rw[aby h]at t0;refine uM ((KC t0).trans (bQ ((bu (x:=.lst (ns.map .int)) (y:=.int k) rfl rfl).trans ?_)));unfold cz uz;simp only;rw[ZK,ZZ hk,ZZ h];simp[hz]
 ·refine⟨0,bZ rfl ?_⟩;show gK [some (.lst (ns.map .int)),some (.int k)]=_;unfold gK;rw[aay h]at t0;rw[aO ((Gh t0).trans rfl)];rfl
theorem vC(s:List Pc)(c:Nat×Nat):∀l:List (Nat×Nat),c∈l->xN (l.map aG) (l.map (lJ s)) (aG c)=some (lJ s c)
 |[],h=>by cases h|a::l,h=>by
   rw[ZD,ZD,xN,zA];by_cases hc:a=c
   ·subst hc;rw[ZZ (by simp)]
   ·rw[aaa (by simpa using hc)];rcases ZP.mp h with z|z
    ·exact absurd z.symm hc
    ·exact vC s c l z
theorem PB{d k:ME}{δ:Ev}{s:List Pc}{R:Nat}{c:Nat×Nat}(hc:c∈cells R)(hd:d δ=some (cellsD s R))(hk:k δ=some (aG c)):Dc d k δ=some (lJ s c):=by
 unfold Dc;rw[hd,hk];simp only[Z0,cellsD];rw[ZZ (Cr c)];exact vC s c _ hc
noncomputable def Us:D->Nat×Nat
 |.tup [.int a,.int b]=>(a.toNat,b.toNat)|_=>(0,0)
theorem Jr(c:Nat×Nat):Us (aG c)=c:=rfl
theorem K9(R:Nat)(h:R<=30):(cells R).length<=1000:=by
 have:∀l:List Nat,(l.flatMap λr=>(List.range 24).map λt=>(r,t)).length=24*l.length:=λl=>by
  induction l with
  |nil=>rfl|cons a l ih=>rw[abg,Z6,ih,Z2,ZK,abA];omega
 unfold cells;rw[this,abA];omega
end DL.K04
namespace DL.Pg
open PySem DL DL.Lw
theorem R9{s:List Pc}{r t:Nat}:(!(dg 0 s r t).isEmpty)=wv s r t:=by
 have h:=gf s 0 r t;unfold wv;cases e:dg 0 s r t with
 |nil=>
   rw[e]at h;rw[<-h];rfl
 |cons a l=>
   rw[e]at h;rw[<-h];rfl
theorem Jj(row:List Int):∀m:Nat,((List.range m).map λ(k:Nat)=>(row.count ((k+1:Nat):Int):Int)).sum=(row.countP (λz=>decide (1<=z/\z<=(m:Int))):Nat)
 |0=>by
   have:row.countP (λz=>decide (1<=z/\z<=((0:Nat):Int)))=0:=abU.mpr λz _=>by simp;omega
   rw[this];rfl
 |m+1=>by
   rw[ab9,aaf,abR,Jj row m];have:row.countP (λz=>decide (1<=z/\z<=((m+1:Nat):Int)))=row.countP (λz=>decide (1<=z/\z<=(m:Int)))+row.count ((m+1:Nat):Int):=by
    induction row with
    |nil=>rfl|cons z row ih=>
      rw[abl,abl,abQ,ih];by_cases e:z=((m+1:Nat):Int)
      ·have e1:(z==((m+1:Nat):Int))=true:=by simpa using e
       rw[e1,aby (show 1<=z/\z<=((m+1:Nat):Int)by omega),aay (show ¬ (1<=z/\z<=(m:Int))by omega),ZZ rfl,aaa (by decide)];omega
      ·have e2:(z==((m+1:Nat):Int))=false:=by simpa using e
       rw[e2,aaa (show ¬ (false=true)by decide)];by_cases q:1<=z/\z<=(m:Int)
       ·rw[aby q,aby (show 1<=z/\z<=((m+1:Nat):Int)by omega),ZZ rfl];omega
       ·rw[aay q,aay (show ¬ (1<=z/\z<=((m+1:Nat):Int))by omega),aaa (by decide)];omega
   rw[this];simp
theorem Tr(s:List Pc)(r:Nat):((aX s r).countP (λz=>decide (1<=z/\z<=(s.length:Int))):Nat)=Sm (λt=>ind (wv s r t)) 24:=by
 unfold aX rowOf Sm;rw[aeI];generalize List.range 24=l
 induction l with
 |nil=>rfl|cons t l ih=>
   rw[abl,ZD,Z8,<-ih];have hd:dep s r t<=s.length:=aeO;have:((λz=>decide (1<=z/\z<=(s.length:Int)))∘λt=>((dep s r t:Nat):Int)) t=wv s r t:=by
    unfold wv;simp only[Function.comp];rw[aau,Z7,Z7];omega
   rw[this];unfold ind;cases wv s r t<;>simp<;>omega
theorem Rw{s:List Pc}(h:∀p∈s,p.ok)(hl:s.length<=1000)(he:(edges s).length<64){N:Nat}(hN:∀p∈s,p.o<=N):dO [aQ s]=some (.int (Sm (λc=>if wv s (c/24) (c%24)=true then Uu c else 0) (24*N))):=by
 refine bZ rfl ?_;show gZ [some (aQ s)]=_;unfold gZ;refine bQ ((aM ((aM (x:=aQ s) rfl).trans (Rx h hl he hN))).trans ?_);show((intsOf ((List.range s.length).map λk=>D.int (da s N (k+1)))).bind λis=>some (D.int is.sum))=_;rw[vK (λk=>da s N (k+1))];refine aaS (λz=>some (D.int z)) ?_;have e1:((List.range s.length).map λk=>da s N (k+1))=(List.range s.length).map λk=>Sm (λr=>(2*(r:Int)+1)*(cnt s r (k+1):Int)) N:=rfl;rw[e1,Eo (λk r=>(2*(r:Int)+1)*(cnt s r (k+1):Int)),DN];refine gj N λr _=>?_;have e2:∀l:List Nat,(l.map λk=>(2*(r:Int)+1)*(cnt s r (k+1):Int)).sum=(2*(r:Int)+1)*(l.map λk=>(cnt s r (k+1):Int)).sum:=λl=>by
  induction l with
  |nil=>rw[aa4,aa4];show(0:Int)=_*0;rw[adk]|cons k l ih=>rw[ZD,ZD,Z8,Z8,ih,ad8]
 have e3:((List.range s.length).map λk=>(cnt s r (k+1):Int)).sum=Sm (λt=>ind (wv s r t)) 24:=by
  rw[<-Tr,<-Jj];rfl
 rw[e2,e3,<-wz];refine gj 24 λt ht=>?_;rw[show(24*r+t)/24=r by omega,show(24*r+t)%24=t by omega,Sq];unfold Uu;rw[show(24*r+t)/24=r by omega]
end DL.Pg
namespace DL.K09
open PySem DL DL.Pg DL.Lw DL.K04
theorem Ss(c:Nat×Nat)(W:List (Nat×Nat)):YF (aG c) (.lst (W.map aG))=some (.bl (decide (c∈W))):=by
 have hd:dh (W.map aG)<=30:=depDs_le.mpr λd hd=>by
  obtain⟨c,_,rfl⟩:=Z5.mp hd;exact(by decide:1<=30)
 refine(ZZ (⟨hd,(by decide:1<=30)⟩:dh (W.map aG)<=30/\bY (aG c)<=30)).trans ?_;rw[aeC];refine aaS (λz=>some (D.bl z)) ?_;rw[aau,List.any_eq_true,Z7];simp only[Function.comp,zA,Z7];exact⟨λ⟨a,h,e⟩=>e▸h,λh=>⟨c,h,rfl⟩⟩
theorem Bq{x:List Pc}{W:List (Nat×Nat)}(h:∀p∈x,p.ok)(hl:x.length<=1000)(H:∀c∈cells 6,dep x c.1 c.2=if c∈W then 1 else 0):dI [aQ x,.lst (W.map aG),.int 6]=some (.bl true):=by
 refine bZ rfl ?_;show iU [some (aQ x),some (.lst (W.map aG)),some (.int 6),none,none]=_;unfold iU;rw[aO (bI (δ':=[some (aQ x),some (.lst (W.map aG)),some (.int 6),some (cellsD x 6),none]) ((bF (x:=aQ x) (y:=.int 6) rfl rfl).trans (nq (R:=6) h hl (by decide))) rfl)];obtain⟨δ',e1,x4,rfl⟩:=Gj (g:=gN 4) (body:=m5) (λδ=>∃x4,δ=[some (aQ x),some (.lst (W.map aG)),some (.int 6),some (cellsD x 6),x4]) ((cells 6).map aG) _ ⟨none,rfl⟩ λd hd δ ⟨x4,e⟩=>by
  subst e;obtain⟨c,hc,rfl⟩:=Z5.mp hd;refine⟨[some (aQ x),some (.lst (W.map aG)),some (.int 6),some (cellsD x 6),some (aG c)],_,rfl,.inl ((zb (x:=.int ((dep x c.1 c.2:Nat):Int)) ((aM (PB hc rfl rfl)).trans ?_) ((aM ((bu (x:=aG c) (y:=.lst (W.map aG)) rfl rfl).trans (Ss c W))).trans ?_) (aap _)).trans rfl),_,rfl⟩
  ·rw[<-gf x 0];unfold lJ aC;show some (D.int ((List.map _ _).length:Nat))=_;rw[ZK]
  ·rw[H c hc];show some (D.int (if decide (c∈W)=true then 1 else 0))=_;by_cases z:c∈W
   ·rw[ZZ z,aby z];rfl
   ·rw[aaa z,aay z];rfl
 rw[aO ((dj (xs:=(cells 6).map aG) rfl).trans e1)];rfl
theorem zy{n:Nat}{i:MI}{T:MT}{δ:Ev}{W:List (Nat×Nat)}{k:Nat×Nat->Bool}(hi:i δ=some (W.map aG))(hl:W.length<=1000)(ht:∀c∈W,T [some (aG c),slot δ n]=some (k c)):bM 1 [n] i (gN 0) T (ak 0) δ=some (.lst ((W.filter k).map aG)):=by
 refine(cR (λx=>if k (Us x)=true then some x else none) hi (by rw[ZK];omega) λx hx=>?_).trans ?_
 ·obtain⟨c,hc,rfl⟩:=Z5.mp hx;refine⟨[some (aG c),slot δ n],rfl,?_⟩;rw[ht c hc,Jr];cases k c with
  |true=>exact .inl ⟨rfl,_,rfl,rfl⟩|false=>exact .inr ⟨rfl,rfl⟩
 ·refine aaS (λl=>some (D.lst l)) ?_;clear hi hl ht;induction W with
  |nil=>rfl|cons c l ih=>
    rw[ZD,aaJ,acN,Jr,ih];cases k c<;>rfl
theorem N7{δ:Ev}{a b:ME}{s:List Pc}{c:Nat×Nat}(hc:c∈cells 6)(ha:a δ=some (cellsD s 6))(hb:b δ=some (aG c)):tV (Dc a b) δ=some (wv s c.1 c.2):=by
 refine gM (PB hc ha hb) ?_;show some (!(aC (dg 0 s c.1 c.2)).isEmpty)=_;rw[<-R9];unfold aC;rw[List.isEmpty_map]
theorem Ak{s1 s2:List Pc}(h:∀p∈s1++s2,p.ok)(hl:(s1++s2).length<=1000)(he:(edges (s1++s2)).length<64)(H:∀r t,t<24->wv s1 r t=wv s2 r t):iZ [aQ s1,aQ s2]=some .non:=by
 rcases M6 h hl he with⟨e,_⟩|⟨q,_,t,ht,e,_⟩
 ·exact e
 ·have:=H q.1 t ht;unfold df un at e;unfold wv at this;simp only[bne_iff_ne,ne_eq,decide_eq_decide]at e this;omega
theorem Aa{a b:List Pc}(h:∀p∈a++b,p.ok)(sh:Bool)(r:Nat){t:Nat}(ht:t<24):wv (kp a b sh) r t=(wv a r t&&(wv b r t==sh)):=by
 unfold wv;rw[Qc h sh r ht];unfold cond;cases decide (0<dep a r t)&&(decide (0<dep b r t)==sh)<;>rfl
theorem Uz(a b:List Pc)(r t:Nat):wv (a++b) r t=(wv a r t||wv b r t):=by
 unfold wv dep;rw[ae8,aau,aeH,Z7,Z7,Z7];omega
theorem Oq(a b:List Pc)(sh:Bool):(kp a b sh).length<=24*(edges (a++b)).length:=by
 unfold kp;have:∀l:List (Nat×Nat),(l.flatMap (kq a b sh)).length<=24*l.length:=λl=>by
  induction l with
  |nil=>exact ZS _|cons q l ih=>
    have:=qF (cond a b sh q.1);rw[abg,Z6,Z2];have e:(kq a b sh q).length=(runs (cond a b sh q.1)).length:=by unfold kq;rw[ZK]
    omega
 refine aaV (this _) (adM _ ?_);unfold bj;rw[List.length_zip];omega
theorem Wm{a b:List Pc}(h:(a++b).length<=1000):bO (aQ a) (aQ b)=some (aQ (a++b)):=by
 rw[Z6]at h;unfold aQ bO;simp only;rw[ZK,ZK,ZZ (by omega),aaf]
theorem Qa{a b:List Pc}(h:∀p∈a++b,p.ok)(sh:Bool)(r:Nat){t:Nat}(ht:t<24):dep (kp a b sh) r t=if(wv a r t&&(wv b r t==sh))=true then 1 else 0:=Qc h sh r ht
theorem Qy{a b:List Pc}(h:∀p∈a++b,p.ok)(N:Nat):Sm (λc=>if wv (kp a b true) (c/24) (c%24)=true then Uu c else 0) (24*N)+Sm (λc=>if wv (kp a b false) (c/24) (c%24)=true then Uu c else 0) (24*N)=Sm (λc=>if wv a (c/24) (c%24)=true then Uu c else 0) (24*N):=by
 have:=Eo (λsh c=>if wv (kp a b sh) (c/24) (c%24)=true then Uu c else 0) (24*N) [true,false];simp only[ZD,aa4,Z8,aeE,afb]at this;rw[this];refine gj _ λc _=>?_;rw[Aa h _ _ (aaq _ (by decide)),Aa h _ _ (aaq _ (by decide))];cases wv a (c/24) (c%24)<;>cases wv b (c/24) (c%24)<;>simp
theorem Y9{p q:Prop}[Decidable p][Decidable q](h:p↔q):(if p then 1 else 0:Nat)=if q then 1 else 0:=by
 by_cases hp:p
 ·rw[ZZ hp,ZZ (h.mp hp)]
 ·rw[aaa hp,aaa λz=>hp (h.mpr z)]
theorem sq{a b:MS}{δ δ':Ev}{r:Option Rs}(h:a δ=some (.nx δ'))(k:b δ'=r):bw a b δ=r:=(aO h).trans k
theorem iN{c:MT}{a:MS}{δ:Ev}(h:c δ=some false):m6 c a gC δ=some (.nx δ):=(Gh h).trans rfl
theorem k1{f:MF}{a:ME}{δ:Ev}{x:D}{r:Option D}(ha:a δ=some x)(h:f [x]=r):au f (aj a az) δ=r:=(aM ha).trans h
theorem k2{f:MF}{a b:ME}{δ:Ev}{x y:D}{r:Option D}(ha:a δ=some x)(hb:b δ=some y)(h:f [x,y]=r):au f (aj a (aj b az)) δ=r:=(bF ha hb).trans h
theorem k3{f:MF}{a b c:ME}{δ:Ev}{x y z:D}{r:Option D}(ha:a δ=some x)(hb:b δ=some y)(hc:c δ=some z)(h:f [x,y,z]=r):au f (aj a (aj b (aj c az))) δ=r:=(nQ ha hb hc).trans h
theorem YG(ns:List Int)(k:Nat)(x2 x3 x4 x5 x6 x7 x8 x9 x10:Option D):∃y2 y3 y4 y5 y6 y7 y8 y9 y10,
 uB [some (.lst (ns.map .int)),some (.int k),x2,x3,x4,x5,x6,x7,x8,x9,x10]=some (.nx [some (.lst (ns.map .int)),some (.int k),y2,y3,y4,y5,y6,y7,y8,y9,y10]):=by
 have em:∀k:Int,cA (.int 3) (.int k)=some (.int (3*k)):=λk=>dG (by decide);obtain⟨c,ec⟩:=pP ns (k:=3*(k:Int)) (by omega);obtain⟨d,ed⟩:=pP ns (k:=3*(k:Int)+1) (by omega);obtain⟨e,ee⟩:=pP ns (k:=3*(k:Int)+2) (by omega);obtain⟨a1,a2⟩:=T7 c 6 5 (by decide) (by decide);obtain⟨b1,b2⟩:=T7 d 6 4 (by decide) (by decide);have ea:=Hu c 6 5 (by decide) (by decide);have eb:=Hu d 6 4 (by decide) (by decide);generalize U6 c 6 5=a at a1 a2 ea;generalize U6 d 6 4=b at b1 b2 eb;have ha:∀p∈a,p.ok:=λp hp=>(a2 p hp).1;have hb:∀p∈b,p.ok:=λp hp=>(b2 p hp).1;have oa:∀p∈a,p.o<=6:=λp hp=>by have:=(a2 p hp).2;omega
 have ob:∀p∈b,p.o<=6:=λp hp=>by have:=(b2 p hp).2;omega
 have both:∀{P:Pc->Prop}{u v:List Pc},(∀p∈u,P p)->(∀p∈v,P p)->∀p∈u++v,P p:=λh1 h2 p hp=>(aar.mp hp).elim (h1 p) (h2 p);have hab:=both ha hb;have haa:=both ha ha;have m1:=dC (c:=e) (p:=9871) (m:=9) (by decide);have r1:=uY (c:=e) (p:=9883) (m:=49) (by decide) (by decide);have r2:=uY (c:=e) (p:=9871) (m:=9) (by decide) (by decide);have r3:=uW ha oa a1 (gQ e 9883 49-24) (m:=(1+gQ e 9871 9).toNat) (by omega) (by omega);rw[abC (by omega)]at r3;have fab:=iC hab (both oa ob);have faa:=iC haa (both oa oa);have lab:(a++b).length<=9:=by rw[Z6];omega
 have laa:(a++a).length<=10:=by rw[Z6];omega
 have ko:∀sh,∀p∈kp a b sh,p.ok/\p.o<=6:=Ul hab (both oa ob);have kl:∀sh,(kp a b sh).length<=168:=λsh=>by have:=Oq a b sh;omega
 have ka:=Ul haa (both oa oa) true;have kla:(kp a a true).length<=168:=by have:=Oq a a true;omega
 have e1:=Rp haa (by omega) (by omega);have e2:=Nb hab (by omega) (by omega);have e3:=W5 hab (by omega) (by omega);have u1:iZ [aQ (kp a a true),aQ a]=some .non:=Ak (both (λp hp=>(ka p hp).1) ha) (by rw[Z6];omega) (by have:=iC (both (λp hp=>(ka p hp).1) ha) (both (λp hp=>(ka p hp).2) oa);omega) λr t ht=>by
  rw[Aa haa true r ht];cases wv a r t<;>rfl
 have kk:=both (ko true) (ko false);have lk:(kp a b true++kp a b false).length<=336:=by have:=kl true;have:=kl false;rw[Z6];omega
 have u2:iZ [aQ (kp a b true++kp a b false),aQ a]=some .non:=Ak (both (λp hp=>(kk p hp).1) ha) (by rw[Z6];omega) (by have:=iC (both (λp hp=>(kk p hp).1) ha) (both (λp hp=>(kk p hp).2) oa);omega) λr t ht=>by
  rw[Uz,Aa hab true r ht,Aa hab false r ht];cases wv a r t<;>cases wv b r t<;>rfl
 have cov:∀{x:List Pc},(∀p∈x,p.ok/\p.o<=6)->x.length<=168->dO [aQ x]=some (.int (Sm (λc=>if wv x (c/24) (c%24)=true then Uu c else 0) (24*6))):=λhx hl=>Rw (λp hp=>(hx p hp).1) (by omega) (by have:=iC (λp hp=>(hx p hp).1) λp hp=>(hx p hp).2;omega) λp hp=>(hx p hp).2;have lt:∀c∈cells 6,c.2<24:=λc hc=>by
  obtain⟨r,_,hr⟩:=aaz.mp hc;obtain⟨t,ht,rfl⟩:=Z5.mp hr;exact aab.mp ht
 have cl:=K9 6 (by decide);obtain⟨E,eE⟩:∃E,E=(cells 6).filter λc=>wv a c.1 c.2:=⟨_,rfl⟩;have hE:∀c,c∈E↔c∈cells 6/\wv a c.1 c.2=true:=λc=>by rw[eE,aaE]
 have lE:E.length<=1000:=by rw[eE];exact aaV (ab6 ..) (by omega)
 have v1:dI [aQ (kp a a true),.lst (E.map aG),.int 6]=some (.bl true):=Bq (λp hp=>(ka p hp).1) (by omega) λc hc=>by
  rw[Qa haa true _ (lt c hc)];refine Y9 ?_;rw[hE,ae2 hc];cases wv a c.1 c.2<;>simp
 have v2:∀(sh:Bool)(W:List (Nat×Nat)),(∀c∈cells 6,c∈W↔(wv a c.1 c.2&&(wv b c.1 c.2==sh))=true)->dI [aQ (kp a b sh),.lst (W.map aG),.int 6]=some (.bl true):=λsh W h=>Bq (λp hp=>(ko sh p hp).1) (by have:=kl sh;omega) λc hc=>by
  rw[Qa hab sh _ (lt c hc)];exact Y9 (h c hc).symm
 have tF:∀{f:MF}{A:MA}{δ:Ev} , au f A δ=some (.bl true)->qt (tV (au f A)) δ=some false:=λh=>yF (gM h rfl);generalize D.lst (ns.map .int)=S at *;refine⟨some (.int c),some (aQ a),some (aQ b),some (.int e),some (cellsD a 6),some (cellsD b 6),some (.lst (E.map aG)),some (.lst ((E.filter λc=>wv b c.1 c.2).map aG)),some (.lst ((E.filter λc => !wv b c.1 c.2).map aG)),?_⟩;unfold uB;refine sq (bI (k2 (x:=S) rfl ((bu (x:=.int 3) (y:=.int k) rfl rfl).trans (em k)) ec) rfl) ?_;refine sq (bI (k3 (x:=.int c) (y:=.int 6) (z:=.int 5) rfl rfl rfl ea) rfl) ?_;refine sq (bI (k3 (y:=.int 6) (z:=.int 4) (k2 (x:=S) rfl ((bu ((bu (x:=.int 3) (y:=.int k) rfl rfl).trans (em k)) (y:=.int 1) rfl).trans rfl) ed) rfl rfl eb) rfl) ?_;refine sq (bI (k2 (x:=S) rfl ((bu ((bu (x:=.int 3) (y:=.int k) rfl rfl).trans (em k)) (y:=.int 2) rfl).trans rfl) ee) rfl) ?_;refine sq (iN (tF (k3 (x:=aQ a) rfl ((bu (k3 (x:=.int e) (y:=.int 9883) (z:=.int 49) rfl rfl rfl r1) (y:=.int 24) rfl).trans rfl) ((bu (x:=.int 1) rfl (k3 (x:=.int e) (y:=.int 9871) (z:=.int 9) rfl rfl rfl r2)).trans rfl) r3))) ?_;refine sq (bI (k2 (x:=aQ a) (y:=.int 6) rfl rfl (nq (R:=6) ha (by omega) (by decide))) rfl) ?_;refine sq (bI (k2 (x:=aQ b) (y:=.int 6) rfl rfl (nq (R:=6) hb (by omega) (by decide))) rfl) ?_;refine sq (bI (d:=.lst (E.map aG)) (eE▸zy (W:=cells 6) rfl (by omega) λc hc=>N7 (s:=a) hc rfl rfl) rfl) ?_;refine sq (bI (zy (W:=E) rfl lE λc hc=>N7 (s:=b) ((hE c).mp hc).1 rfl rfl) rfl) ?_;refine sq (bI (zy (W:=E) rfl lE λc hc=>yF (N7 (s:=b) ((hE c).mp hc).1 rfl rfl)) rfl) ?_;have p1:∀{δ:Ev},ak 3 δ=some (aQ a)->au qW (aj (ak 3) az) δ=some (aQ (kp a a true)):=λh=>k1 h e1;have p2:∀{δ:Ev},ak 3 δ=some (aQ a)->ak 4 δ=some (aQ b)->au iz (aj (ak 3) (aj (ak 4) az)) δ=some (aQ (kp a b true)):=λh h'=>k2 h h' e2;have p3:∀{δ:Ev},ak 3 δ=some (aQ a)->ak 4 δ=some (aQ b)->au jD (aj (ak 3) (aj (ak 4) az)) δ=some (aQ (kp a b false)):=λh h'=>k2 h h' e3;refine sq (iN (Em (tF (k3 (y:=.lst (E.map aG)) (z:=.int 6) (p1 rfl) rfl rfl v1)) (gM (d:=.bl false) ((wY (k2 (y:=aQ a) (p1 rfl) rfl u1)).trans rfl) rfl))) ?_;refine sq (iN (Em (tF (k3 (z:=.int 6) (p2 rfl rfl) rfl rfl (v2 true (E.filter λc=>wv b c.1 c.2) λc hc=>by rw[aaE,hE,ae2 hc];simp))) (tF (k3 (z:=.int 6) (p3 rfl rfl) rfl rfl (v2 false (E.filter λc => !wv b c.1 c.2) λc hc=>by rw[aaE,hE,ae2 hc];simp))))) ?_;refine sq (iN (gM (d:=.bl false) ((wY (k2 (y:=aQ a) ((bu (p2 rfl rfl) (p3 rfl rfl)).trans (Wm (by omega))) rfl u2)).trans rfl) rfl)) ?_;refine afa (zb (x:=.int (Sm (λc=>if wv a (c/24) (c%24)=true then Uu c else 0) (24*6))) ?_ (k1 (x:=aQ a) rfl (cov (λp hp=>⟨ha p hp,oa p hp⟩) (by omega))) (aap _)) rfl;rw[<-Qy hab];exact(bu (k1 (p2 rfl rfl) (cov (ko true) (kl true))) (k1 (p3 rfl rfl) (cov (ko false) (kl false)))).trans rfl
theorem W4(ns:List Int):Ce [.lst (ns.map .int)]=some (.bl true):=by
 refine bZ rfl ?_;show Jt [some (.lst (ns.map .int)),none,none,none,none,none,none,none,none,none,none]=_;unfold Jt;obtain⟨δ',e1,x1,x2,x3,x4,x5,x6,x7,x8,x9,x10,rfl⟩:=Gj (g:=gN 1) (body:=uB) (λδ=>∃x1 x2 x3 x4 x5 x6 x7 x8 x9 x10,δ=[some (.lst (ns.map .int)),x1,x2,x3,x4,x5,x6,x7,x8,x9,x10]) (dN 2) _ ⟨none,none,none,none,none,none,none,none,none,none,rfl⟩ λx hx δ hP=>by
  obtain⟨z1,z2,z3,z4,z5,z6,z7,z8,z9,z10,rfl⟩:=hP;obtain⟨k,_,rfl⟩:=su hx;obtain⟨w2,w3,w4,w5,w6,w7,w8,w9,w10,h1⟩:=YG ns k z2 z3 z4 z5 z6 z7 z8 z9 z10;exact⟨_,_,rfl,.inl h1,_,_,_,_,_,_,_,_,_,_,rfl⟩
 exact(aO ((dj (xs:=dN 2) rfl).trans e1)).trans rfl
end DL.K09
namespace DL.Pg
end DL.Pg
namespace DL.Lw
end DL.Lw
namespace DL.K09
open PySem PySem.Spec PyProof.Rows L2 DL DL.Pg DL.Lw
noncomputable def top(i:Nat):Stmt:=PySem.Challenge.pw_ringlayers_k09_whole_sheets_changed.main.body.getD i (.Pass ⟨0,0,0,0⟩)
abbrev tU:Stmt:=top 43
abbrev uQ:Stmt:=top 44
abbrev qz:Stmt:=top 45
abbrev lU:Stmt:=top 46
abbrev uR:Stmt:=top 47
abbrev j8:Stmt:=top 48
abbrev qC:Stmt:=top 49
abbrev uN:Stmt:=top 12
abbrev pK:Stmt:=top 13
abbrev yL:Stmt:=top 14
abbrev xm:Stmt:=top 2
abbrev uP:Stmt:=top 4
abbrev pJ:Stmt:=top 3
abbrev pL:Stmt:=top 28
abbrev iI:Stmt:=top 27
abbrev jh:Stmt:=top 40
abbrev o5:Stmt:=top 29
abbrev Bc:Stmt:=top 41
abbrev mU:Stmt:=top 5
abbrev lR:Stmt:=top 7
abbrev jg:Stmt:=top 6
abbrev lQ:Stmt:=top 8
abbrev tR:Stmt:=top 9
abbrev oZ:Stmt:=top 22
abbrev lO:Stmt:=top 35
abbrev lN:Stmt:=top 30
abbrev ni:Stmt:=top 31
abbrev kY:Stmt:=top 32
abbrev yM:Stmt:=top 34
abbrev qy:Stmt:=top 36
abbrev gO:Stmt:=top 39
abbrev Ho:Stmt:=top 37
abbrev Hq:Stmt:=top 38
abbrev bK:Stmt:=top 51
abbrev oY:Stmt:=top 25
abbrev mR:Stmt:=top 10
abbrev Ba:Stmt:=top 24
abbrev nj:Stmt:=top 23
abbrev o6:Stmt:=top 52
abbrev uO:Stmt:=top 20
abbrev oA:Stmt:=top 19
abbrev yK:Stmt:=top 18
abbrev xq:Stmt:=top 16
abbrev Hn:Stmt:=top 15
abbrev xn:Stmt:=top 17
abbrev Bb:Stmt:=top 53
structure Txt(K:PySem.W.Frag)(mg:Str->Option Value) where
 x0:jf K mg "_law_cell" tU ["_law_script","_law_k"]
 x1:jf K mg "_law_mix" uQ ["_law_cell_here","_law_prime","_law_many"]
 x2:jf K mg "_law_piece" qz ["_law_cell_here","_law_most"]
 x3:jf K mg "_law_sheet" lU ["_law_cell_here","_law_most","_law_many"]
 x4:jf K mg "_law_has" uR ["_law_piece_here","_law_far","_law_turn"]
 x5:jf K mg "_law_layers" j8 ["_law_sheet_here","_law_point"]
 x6:jf K mg "_law_cells" qC ["_law_sheet_here","_law_most"]
 x7:jf K mg "turned" uN ["sheet","by"]
 x8:jf K mg "mirrored" pK ["sheet"]
 x9:jf K mg "grown" yL ["sheet","times"]
 x10:jf K mg "span_of" xm ["piece"]
 x11:jf K mg "edges_of" uP ["sheet"]
 x12:jf K mg "turns_of" pJ ["piece"]
 x13:jf K mg "cells_of" pL ["piece","edges"]
 x14:jf K mg "cell_layers" iI ["sheet","edges"]
 x15:jf K mg "covered_cells" jh ["sheet","edges"]
 x16:jf K mg "cell_beside" o5 ["cell","by"]
 x17:jf K mg "border" Bc ["sheet"]
 x18:jf K mg "bands_between" mU ["edges"]
 x19:jf K mg "add_change" lR ["changes","far","piece","by"]
 x20:jf K mg "depth_changes" jg ["sheet"]
 x21:jf K mg "depth_rows" lQ ["sheet","bands"]
 x22:jf K mg "cell_area" tR ["band"]
 x23:jf K mg "depth_areas" oZ ["sheet"]
 x24:jf K mg "group_area" lO ["group","bands"]
 x25:jf K mg "neighbours" lN ["cell","count"]
 x26:jf K mg "hanging_with" ni ["values","start"]
 x27:jf K mg "bounded_groups" kY ["values"]
 x28:jf K mg "faces" yM ["sheet"]
 x29:jf K mg "face_count" qy ["sheet"]
 x30:jf K mg "groups_that_are" gO ["sheet","covered"]
 x31:jf K mg "lands" Ho ["sheet"]
 x32:jf K mg "holes" Hq ["sheet"]
 x33:jf K mg "_law_turned_right" bK ["_law_sheet_here","_law_by","_law_times"]
 x34:jf K mg "unlike_turn" oY ["here","there"]
 x35:jf K mg "point_in_cell" mR ["inner","turn"]
 x36:jf K mg "unlike" Ba ["one","other"]
 x37:jf K mg "covered_area" nj ["sheet"]
 x38:jf K mg "_law_covers" o6 ["_law_sheet_here","_law_wish","_law_most"]
 x39:jf K mg "run_from" uO ["row","begin"]
 x40:jf K mg "runs_in" oA ["row"]
 x41:jf K mg "kept" yK ["one","other","shared"]
 x42:jf K mg "both_of" xq ["one","other"]
 x43:jf K mg "plain" Hn ["sheet"]
 x44:jf K mg "cut_out" xn ["one","other"]
 x45:jf K mg "law" Bb ["_law_script"]
 k_WHOLE_TURN:Tok
 c0:mg "WHOLE_TURN"=some (.int 24 k_WHOLE_TURN)
 z_all:mg "all"=none
 z_enumerate:mg "enumerate"=none
 z_int:mg "int"=none
 z_len:mg "len"=none
 z_list:mg "list"=none
 z_max:mg "max"=none
 z_min:mg "min"=none
 z_range:mg "range"=none
 z_set:mg "set"=none
 z_sorted:mg "sorted"=none
 z_sum:mg "sum"=none
 z_tuple:mg "tuple"=none
 z_zip:mg "zip"=none
section
variable{P:Program}{w:World}{K:PySem.W.Frag}{mg:Str->Option Value}{base:Heap}
theorem lZ(T:Txt K mg):j7 P w base T.x0 1 jc:=
 bJ ["_law_script","_law_k"] 0 2 gK rfl λ_ _ _ _ _ _ nd hr hu=>
  (aA (fc (dX BR (dv 1) (cH jn rfl T.z_len abj (aa (dv 0) aq)) (cu _) Jp) (aD (aW (bD bC (dv 0) (dv 1) (λ_ _=>rfl)))) cj)
  (aD (aW aB)))
theorem fD(T:Txt K mg):j7 P w base T.x1 1 bT:=
 bJ ["_law_cell_here","_law_prime","_law_many"] 0 3 p7 rfl λ_ _ _ _ _ _ nd hr hu=>
  (aD (aW (aU jj (aU jj (aU cJ (dv 0) aB) (dv 1)) (dv 2))))
theorem wK(T:Txt K mg):j7 P w base T.x2 2 fU:=
 bJ ["_law_cell_here","_law_most","_law_inner","_law_outer","_law_wide"] 1 5 jB rfl λ_ _ _ _ _ _ nd hr hu=>
  (aA (bH (aF (fD T) hr (aa (dv 0) (aa aB (aa (dv 1) aq)))) (cI 2 nd))
  (aA (bH (aU bV (aU bV (dv 2) aB) (aF (fD T) hr (aa (dv 0) (aa aB (aa (aU ir (dv 1) (dv 2)) aq))))) (cI 3 nd))
  (aA (bH (aU bV aB (aF (fD T) hr (aa (dv 0) (aa aB (aa aB aq))))) (cI 4 nd))
  (aA (fc (dX (qN hu) (aU jj (dv 0) aB) aB (cu _) Jq) (aD (bH aB (cI 4 nd))) cj)
  (aD (aW (cU (aa (dv 2) (aa (dv 3) (aa (aF (fD T) hr (aa (dv 0) (aa aB (aa aB aq)))) (aa (dv 4) aq)))) (by decide))))))))
abbrev qT:List Str:=["_law_cell_here","_law_most","_law_many"]
theorem pg(T:Txt K mg):j7 P w base T.x3 3 ju:=
 bJ qT 2 3 rO rfl λ_ _ _ _ _ _ nd hr hu=>
  (aD (aW (cQ dY rfl T.z_tuple rfl (aa (cN (scX:=aH lU) (NX:=qT) (N:=["_law_k","_law_most","_law_cell_here"]) (k:=1) (fv:=[1,0]) rfl rT rfl rfl (jd rfl T.z_range (aF (fD T) hr (aa (dv 0) (aa aB (aa (aU bV (dv 2) aB) aq))))) (aJ (by decide)) (λ_ _ _ _=>⟨(cI 0 (nod ["_law_k","_law_most","_law_cell_here"])),rfl,(aF (wK T) hr (aa (aU bV (dv 2) (aU cJ aB (dv 0))) (aa (dv 1) aq)))⟩)) aq))))
theorem BP(T:Txt K mg):j7 P w base T.x4 1 iB:=
 bJ ["_law_piece_here","_law_far","_law_turn","_law_inner","_law_outer","_law_begin","_law_wide"] 0 7 mK rfl λ_ _ _ _ _ _ nd hr hu=>
  (aA (bH (dv 0) (gW rfl (aZ (cI 3 nd) (aZ (cI 4 nd) (aZ (cI 5 nd) (aZ (cI 6 nd) fj)))) (aN (aN (aN (aN cP))))))
  (aA (fc (DW.dt (Px (dX BR (bD bC (dv 1) aB (λ_ _=>rfl)) (aU cJ (dv 3) (bD bC (dv 1) aB (λ_ _=>rfl))) (cu _) Jp) (Gq (dX Xm (bD bC (dv 1) aB (λ_ _=>rfl)) (aU cJ (dv 4) (bD bC (dv 1) aB (λ_ _=>rfl))) (cu _) X3)))) (aD (aW gH)) cj)
  (aD (aW (kJ BR (aU jj (aU ir (bD bC (dv 2) aB (λ_ _=>rfl)) (aU cJ (dv 5) (bD bC (dv 2) aB (λ_ _=>rfl)))) (aU cJ aB (bD bC (dv 2) aB (λ_ _=>rfl)))) (aU cJ (dv 6) (bD bC (dv 2) aB (λ_ _=>rfl))) (cu _))))))
abbrev ph:List Str:=["_law_sheet_here","_law_point"]
theorem vg(T:Txt K mg):j7 P w base T.x5 2 iK:=
 bJ ph 1 2 pB rfl λ_ _ _ _ _ _ nd hr hu=>
  (aD (aW (cQ dY rfl T.z_tuple rfl (aa (cN (scX:=aH j8) (NX:=ph) (N:=["_law_k","_law_piece_here","_law_point"]) (k:=2) (fv:=[1]) rfl rT rfl rfl (zF rfl T.z_enumerate (dv 0)) (gJ (bh (aJ (by decide)) (bh (aJ (by decide)) fJ))) (λ_ _ _ _=>⟨(gW rfl (aZ (cI 0 (nod ["_law_k","_law_piece_here","_law_point"])) (aZ (cI 1 (nod ["_law_k","_law_piece_here","_law_point"])) fj)) (aN (aN cP))),(jm (aF (BP T) hr (aa (dv 1) (aa (bD bC (dv 2) aB (λ_ _=>rfl)) (aa (bD bC (dv 2) aB (λ_ _=>rfl)) aq))))),(dv 0)⟩)) aq))))
theorem kh(T:Txt K mg):j7 P w base T.x6 3 gU:=
 bJ ["_law_sheet_here","_law_most","_law_found","_law_ring","_law_turn"] 2 10 jC rfl λ_ _ _ _ _ _ nd hr hu=>
  (aA (jP (n:=5) (i:=2) rfl (by decide) PL (u6 2 nd))
  (aA (fZ aav rfl (jd rfl T.z_range (aU bV (dv 1) aB)) (cI 3 nd)
  (aD (fZ aav rfl (jd rfl T.z_range aB) (cI 4 nd)
  (aD (S8 (n:=5) (i:=2) (ul hu) rfl (by decide) rfl (pv 2) (cU (aa (dv 3) (aa (dv 4) aq)) (by decide)) (aF (vg T) hr (aa (dv 0) (aa (cU (aa (cU (aa (aU bV (aU cJ aB (dv 3)) aB) (aa aB aq)) (by decide)) (aa (cU (aa (aU bV (aU cJ aB (dv 4)) aB) (aa aB aq)) (by decide)) aq)) (by decide)) aq))))))))
  (vW (n:=5) (i:=2) rfl (by decide) rfl (aD (aW (dv 2))))))
abbrev BZ:List Str:=["sheet","by"]
theorem Kh(T:Txt K mg):j7 P w base T.x7 1 vA:=
 bJ BZ 0 2 Dv rfl λ_ _ _ _ _ _ nd hr hu=>
  (aD (aW (cQ dY rfl T.z_tuple rfl (aa (cN (scX:=aH uN) (NX:=BZ) (N:=["piece","by"]) (k:=1) (fv:=[1]) rfl rT rfl rfl (cO (dv 0)) (aJ (by decide)) (λ_ _ _ _=>⟨(cI 0 (nod ["piece","by"])),rfl,(cU (aa (bD bC (dv 0) aB (λ_ _=>rfl)) (aa (bD bC (dv 0) aB (λ_ _=>rfl)) (aa (aU jj (aU bV (bD bC (dv 0) aB (λ_ _=>rfl)) (dv 1)) (dq rfl T.c0)) (aa (bD bC (dv 0) aB (λ_ _=>rfl)) aq)))) (by decide))⟩)) aq))))
abbrev vp:List Str:=["sheet"]
theorem By(T:Txt K mg):j7 P w base T.x8 1 pY:=
 bJ vp 0 1 wj rfl λ_ _ _ _ _ _ nd hr hu=>
  (aD (aW (cQ dY rfl T.z_tuple rfl (aa (cN (scX:=aH pK) (NX:=vp) (N:=["piece"]) (k:=1) (fv:=[]) rfl rT rfl rfl (cO (dv 0)) (aJ (by decide)) (λ_ _ _ _=>⟨(cI 0 (nod ["piece"])),rfl,(cU (aa (bD bC (dv 0) aB (λ_ _=>rfl)) (aa (bD bC (dv 0) aB (λ_ _=>rfl)) (aa (aU jj (aU ir (Ur LC (bD bC (dv 0) aB (λ_ _=>rfl))) (bD bC (dv 0) aB (λ_ _=>rfl))) (dq rfl T.c0)) (aa (bD bC (dv 0) aB (λ_ _=>rfl)) aq)))) (by decide))⟩)) aq))))
abbrev Ie:List Str:=["sheet","times"]
theorem N8(T:Txt K mg):j7 P w base T.x9 1 zj:=
 bJ Ie 0 2 Jw rfl λ_ _ _ _ _ _ nd hr hu=>
  (aD (aW (cQ dY rfl T.z_tuple rfl (aa (cN (scX:=aH yL) (NX:=Ie) (N:=["piece","times"]) (k:=1) (fv:=[1]) rfl rT rfl rfl (cO (dv 0)) (aJ (by decide)) (λ_ _ _ _=>⟨(cI 0 (nod ["piece","times"])),rfl,(cU (aa (aU cJ (bD bC (dv 0) aB (λ_ _=>rfl)) (dv 1)) (aa (aU cJ (bD bC (dv 0) aB (λ_ _=>rfl)) (dv 1)) (aa (bD bC (dv 0) aB (λ_ _=>rfl)) (aa (bD bC (dv 0) aB (λ_ _=>rfl)) aq)))) (by decide))⟩)) aq))))
theorem pR(T:Txt K mg):j7 P w base T.x10 1 iy:=
 bJ ["piece","inner"] 0 2 tO rfl λ_ _ _ _ _ _ nd hr hu=>
  (aA (bH (cH (Qo rfl) rfl T.z_max rfl (aa (bD bC (dv 0) aB (λ_ _=>rfl)) (aa aB aq))) (cI 1 nd))
  (aD (aW (cU (aa (dv 1) (aa (cH (Qo rfl) rfl T.z_max rfl (aa (bD bC (dv 0) aB (λ_ _=>rfl)) (aa (dv 1) aq))) aq)) (by decide)))))
theorem gF(T:Txt K mg):j7 P w base T.x11 2 cZ:=
 bJ ["sheet","fars","piece"] 1 6 mG rfl λ_ _ _ _ _ _ nd hr hu=>
  (aA (jP (n:=3) (i:=1) rfl (by decide) (kI (aa aB aq) (by decide)) (u6 1 nd))
  (aA (fZ aav rfl (cO (dv 0)) (cI 2 nd)
  (aD (Gv (n:=3) (i:=1) rfl (by decide) rfl (pv 1) (aF (pR T) hr (aa (dv 2) aq)))))
  (oK (n:=3) (is:=[1]) rfl (by decide) rfl (aD (aW (Gz rfl rfl T.z_sorted rfl T.z_set (dv 1)))))))
abbrev vo:List Str:=["piece","wide"]
theorem tY(T:Txt K mg):j7 P w base T.x12 1 iw:=
 bJ vo 0 2 mC rfl λ_ _ _ _ _ _ nd hr hu=>
  (aA (bH (cH (Wh rfl) rfl T.z_min rfl (aa (bD bC (dv 0) aB (λ_ _=>rfl)) (aa (dq rfl T.c0) aq))) (cI 1 nd))
  (aD (aW (cN (scX:=aH pJ) (NX:=vo) (N:=["step","piece"]) (k:=1) (fv:=[0]) rfl rT rfl rfl (jd rfl T.z_range (dv 1)) (aJ (by decide)) (λ_ _ _ _=>⟨(cI 0 (nod ["step","piece"])),rfl,(aU jj (aU bV (bD bC (dv 1) aB (λ_ _=>rfl)) (dv 0)) (dq rfl T.c0))⟩)))))
abbrev vq:List Str:=["piece","edges","span","turns","cells","band"]
theorem BL(T:Txt K mg):j7 P w base T.x13 2 mz:=
 bJ vq 1 12 mH rfl λ_ _ _ _ _ _ nd hr hu=>
  (aA (bH (aF (pR T) hr (aa (dv 0) aq)) (cI 2 nd))
  (aA (bH (aF (tY T) hr (aa (dv 0) aq)) (cI 3 nd))
  (aA (jP (n:=6) (i:=4) rfl (by decide) (kI aq (by decide)) (u6 4 nd))
  (aA (fZ aav rfl (K3 rfl T.z_range (Do (dv 1) (bD bC (dv 2) aB (λ_ _=>rfl))) (Do (dv 1) (bD bC (dv 2) aB (λ_ _=>rfl)))) (cI 5 nd)
  (aD (Gv (n:=6) (i:=4) rfl (by decide) rfl (pv 4) (cN (scX:=aH pL) (NX:=vq) (N:=["turn","band"]) (k:=1) (fv:=[5]) rfl rT rfl rfl (cO (dv 3)) (aJ (by decide)) (λ_ _ _ _=>⟨(cI 0 (nod ["turn","band"])),rfl,(aU bV (aU cJ (dq rfl T.c0) (dv 1)) (dv 0))⟩)))))
  (oK (n:=6) (is:=[4]) rfl (by decide) rfl (aD (aW (dv 4))))))))
abbrev kj:List Str:=["sheet","edges","cells","number","piece","cell"]
theorem nA(T:Txt K mg):j7 P w base T.x14 3 gb:=
 bJ kj 2 6 iT rfl λ_ _ _ _ _ _ nd hr hu=>
  Gu (scX:=aH iI) (NX:=kj) (N:=["place"]) (k:=1) (fv:=[]) rfl aav rfl rT rfl rfl (jd rfl T.z_range (aU cJ (dq rfl T.c0) (cH jn rfl T.z_len abj (aa (dv 1) aq)))) (aJ (by decide)) (λ_ _ _ _=>(cI 0 (nod ["place"]))) (u6 2 nd)
  (zF rfl T.z_enumerate (dv 0)) (Nv rfl (u5 (u6 3 nd) (u5 (u6 4 nd) HF)))
  (cO (aF (BL T) hr (aa (dv 4) (aa (dv 1) aq)))) (u6 5 nd) (Nq (pv 2) (pv 5) (pv 3) (λ_ _=>rfl))
  (aD (aW (cN (scX:=aH iI) (NX:=kj) (N:=["numbers"]) (k:=1) (fv:=[]) rfl rT rfl rfl (cO (dv 2)) (aJ (by decide)) (λ_ _ _ _=>⟨(cI 0 (nod ["numbers"])),rfl,(cQ dY rfl T.z_tuple rfl (aa (dv 0) aq))⟩))))
abbrev mX:List Str:=["sheet","edges"]
theorem lu(T:Txt K mg):j7 P w base T.x15 4 eQ:=
 bJ mX 3 2 gq rfl λ_ _ _ _ _ _ nd hr hu=>
  (aD (aW (cN (scX:=aH jh) (NX:=mX) (N:=["numbers"]) (k:=1) (fv:=[]) rfl rT rfl rfl (cO (aF (nA T) hr (aa (dv 0) (aa (dv 1) aq)))) (aJ (by decide)) (λ_ _ _ _=>⟨(cI 0 (nod ["numbers"])),rfl,(kJ Oa (cH jn rfl T.z_len abj (aa (dv 0) aq)) aB (cu _))⟩))))
theorem jH(T:Txt K mg):j7 P w base T.x16 1 dH:=
 bJ ["cell","by","turn"] 0 3 pA rfl λ_ _ _ _ _ _ nd hr hu=>
  (aA (bH (aU jj (dv 0) (dq rfl T.c0)) (cI 2 nd))
  (aD (aW (aU bV (aU ir (dv 0) (dv 2)) (aU jj (aU bV (dv 2) (dv 1)) (dq rfl T.c0))))))
theorem oH(T:Txt K mg):j7 P w base T.x17 5 jb:=
 bJ ["sheet","edges","covered","arcs","lines","cell","band"] 4 7 rN rfl λ_ _ _ _ _ _ nd hr hu=>
  (aA (bH (aF (gF T) hr (aa (dv 0) aq)) (cI 1 nd))
  (aA (bH (aF (lu T) hr (aa (dv 0) (aa (dv 1) aq))) (cI 2 nd))
  (aA (bH aB (cI 3 nd))
  (aA (bH aB (cI 4 nd))
  (aA (fZ aav rfl (jd rfl T.z_range (aU ir (cH jn rfl T.z_len abj (aa (dv 2) aq)) (dq rfl T.c0))) (cI 5 nd)
  (aA (bH (aU HX (dv 5) (dq rfl T.c0)) (cI 6 nd))
  (aA (fc (dX (mW hu) (bD bC (dv 2) (dv 5) (λ_ _=>rfl)) (bD bC (dv 2) (aU bV (dv 5) (dq rfl T.c0)) (λ_ _=>rfl)) (cu _) mZ) (aD (zB (i:=3) nd rfl rfl (bD bC (dv 1) (aU bV (dv 6) aB) (λ_ _=>rfl)))) cj)
  (aD (fc (dX (mW hu) (bD bC (dv 2) (dv 5) (λ_ _=>rfl)) (bD bC (dv 2) (aF (jH T) hr (aa (dv 5) (aa aB aq))) (λ_ _=>rfl)) (cu _) mZ) (aD (zB (i:=4) nd rfl rfl (aU ir (bD bC (dv 1) (aU bV (dv 6) aB) (λ_ _=>rfl)) (bD bC (dv 1) (dv 6) (λ_ _=>rfl))))) cj)))))
  (aD (aW (cU (aa (dv 3) (aa (dv 4) aq)) (by decide)))))))))
theorem fP(T:Txt K mg):j7 P w base T.x18 1 cD:=
 bJ ["edges"] 0 1 gr rfl λ_ _ _ _ _ _ nd hr hu=>
  (aD (aW (GD rfl rfl T.z_list rfl T.z_zip (dv 0) (Ji 1 (dv 0)))))
theorem sc_add_change:ig ["changes","far","piece","by","row","turn"] ["changes","far","piece","by"] (aH lR):=fsc
theorem o9(T:Txt K mg):mQ P w K mg base uE 2 T.x19.f T.x19.fd ["changes","far","piece","by"] (Hl K iw):=
 T.x19.F.ok sc_add_change (λvs H Q E h=>by obtain⟨_,_,_,_,_,_,_,_,rfl,_⟩:=h;rfl) λcdv A outer s H vs Q E hr hq=>
  ⟨_,gP (Fp (i:=4) sc_add_change.nd rfl (Or.inl rfl) (RM (pv 0) (pv 1) (Ny N6 (Fw (bG pQ cV)) (HN (v:=.int 24) rfl T.c0 ⟨_,rfl⟩)))) (jW (u0 aav rfl (RJ (oG (tY T) (hr.mono (by decide)) rfl T.x12.g T.x12.F.kp T.x12.b .nil xE (bG (pv 2) cV))) (u6 5 sc_add_change.nd) (jW (Hz (pv 4) (pv 5) CN (pv 3) Gd set_list)))),QB rfl hq λ_ _ z=>z⟩
theorem sc_depth_changes:ig ["sheet","changes","piece","span"] ["sheet"] (aH jg):=fsc
theorem sH(T:Txt K mg):mQ P w K mg base uE 3 T.x20.f T.x20.fd ["sheet"] (DX K gk):=
 T.x20.F.ok sc_depth_changes (λvs H Q E h=>Wa h) λcdv A outer s H vs Q E hr hq=>
  ⟨_,gP (Fp (i:=1) sc_depth_changes.nd rfl (Or.inl rfl) NK) (gP (u0 aav rfl (Vm (pv 0)) (u6 2 sc_depth_changes.nd) (gP (Fp (i:=3) sc_depth_changes.nd rfl (Or.inl rfl) (oG (pR T) (hr.mono (by decide)) rfl T.x10.g T.x10.F.kp T.x10.b .nil xE (bG (pv 2) cV))) (gP (oF (oG (o9 T) (hr.mono (by decide)) rfl T.x19.g T.x19.F.kp T.x19.b .nil xE (bG (pv 1) (bG (HJ ix_tup (pv 3) pQ (λ_ _=>rfl)) (bG (pv 2) (bG pQ cV)))))) (jW (oF (oG (o9 T) (hr.mono (by decide)) rfl T.x19.g T.x19.F.kp T.x19.b .nil xE (bG (pv 1) (bG (HJ ix_tup (pv 3) pQ (λ_ _=>rfl)) (bG (pv 2) (bG (Ue Lz pQ) cV)))))))))) (J9 (jW (Fq (pv 1))))),Tn rfl hq⟩
abbrev qR:List Str:=["sheet","bands","changes","rows","row","band","change"]
theorem f9(T:Txt K mg):j7 P w base T.x21 4 bW:=
 bJ qR 3 14 jz rfl λ_ _ _ _ _ _ nd hr hu=>
  (aA (bH (aF (sH T) hr (aa (dv 0) aq)) (cI 2 nd))
  (aA (jP (n:=7) (i:=3) rfl (by decide) (kI aq (by decide)) (u6 3 nd))
  (aA (bH (DF.de (Gy (kI (aa aB aq) (by decide)) (dq rfl T.c0)) (Cg _ _)) (cI 4 nd))
  (aA (fZ aav rfl (cO (dv 1)) (cI 5 nd)
  (aA (bH (Th (ul hu) (dv 2) (bD bC (dv 5) aB (λ_ _=>rfl)) (DF.de (Gy (kI (aa aB aq) (by decide)) (dq rfl T.c0)) (Cg _ _))) (cI 6 nd))
  (aA (oM (i:=4) rfl (u6 4 nd) (scX:=aH lQ) (NX:=qR) (N:=["depth","by"]) (k:=2) (fv:=[]) rfl rT rfl rfl (PJ rfl T.z_zip (dv 4) (dv 6)) (gJ (bh (aJ (by decide)) (bh (aJ (by decide)) fJ))) (λ_ _ _ _=>⟨(gW rfl (aZ (cI 0 (nod ["depth","by"])) (aZ (cI 1 (nod ["depth","by"])) fj)) (aN (aN cP))),rfl,(aU bV (dv 0) (dv 1))⟩))
  (aD (Gw (n:=7) (i:=3) rfl (by decide) rfl (pv 3) (dv 4))))))
  (oK (n:=7) (is:=[3]) rfl (by decide) rfl (aD (aW (dv 3))))))))
theorem qM(T:Txt K mg):j7 P w base T.x22 1 fH:=
 bJ ["band"] 0 1 j6 rfl λ_ _ _ _ _ _ nd hr hu=>
  (aD (aW (aU ir (aU cJ (bD bC (dv 0) aB (λ_ _=>rfl)) (bD bC (dv 0) aB (λ_ _=>rfl))) (aU cJ (bD bC (dv 0) aB (λ_ _=>rfl)) (bD bC (dv 0) aB (λ_ _=>rfl))))))
theorem jG(T:Txt K mg):j7 P w base T.x23 5 eX:=
 bJ ["sheet","areas","bands","band","row","depth"] 4 12 iR rfl λ_ _ _ _ _ _ nd hr hu=>
  (aA (jP (n:=6) (i:=1) rfl (by decide) (Gy (kI (aa aB aq) (by decide)) (aU bV (cH jn rfl T.z_len abj (aa (dv 0) aq)) aB)) (u6 1 nd))
  (aA (bH (aF (fP T) hr (aa (aF (gF T) hr (aa (dv 0) aq)) aq)) (cI 2 nd))
  (aA (fZ aav rfl (PJ rfl T.z_zip (dv 2) (aF (f9 T) hr (aa (dv 0) (aa (dv 2) aq)))) (gW rfl (aZ (cI 3 nd) (aZ (cI 4 nd) fj)) (aN (aN cP)))
  (aD (fZ aav rfl (cO (dv 4)) (cI 5 nd)
  (aD (Tc (n:=6) (i:=1) rfl (by decide) rfl (pv 1) (dv 5) (aF (qM T) hr (aa (dv 3) aq)))))))
  (oK (n:=6) (is:=[1]) rfl (by decide) rfl (aD (aW (cQ dY rfl T.z_tuple rfl (aa (Ji 1 (dv 1)) aq))))))))
abbrev qQ:List Str:=["group","bands"]
theorem wJ(T:Txt K mg):j7 P w base T.x24 2 fQ:=
 bJ qQ 1 2 jx rfl λ_ _ _ _ _ _ nd hr hu=>
  (aD (aW (cH (Qn rfl) rfl T.z_sum rfl (aa (cN (scX:=aH lO) (NX:=qQ) (N:=["cell","bands"]) (k:=1) (fv:=[1]) rfl rT rfl rfl (cO (dv 0)) (aJ (by decide)) (λ_ _ _ _=>⟨(cI 0 (nod ["cell","bands"])),rfl,(aF (qM T) hr (aa (bD bC (dv 1) (aU HX (dv 0) (dq rfl T.c0)) (λ_ _=>rfl)) aq))⟩)) aq))))
abbrev qP:List Str:=["cell","count","beside","across"]
theorem wH(T:Txt K mg):j7 P w base T.x25 2 mq:=
 bJ qP 1 4 jw rfl λ_ _ _ _ _ _ nd hr hu=>
  (aA (bH (zG (aa (aF (jH T) hr (aa (dv 0) (aa aB aq))) (aa (aF (jH T) hr (aa (dv 0) (aa (Ur LC aB) aq))) aq)) (by decide)) (cI 2 nd))
  (aA (bH (zG (aa (aU bV (dv 0) (dq rfl T.c0)) (aa (aU ir (dv 0) (dq rfl T.c0)) aq)) (by decide)) (cI 3 nd))
  (aD (aW (aU bV (dv 2) (cN (scX:=aH lN) (NX:=qP) (N:=["other","count"]) (k:=1) (fv:=[1]) rfl rT rfl rfl (cO (dv 3)) (aJ (by decide)) (λ_ _ _ _=>⟨(cI 0 (nod ["other","count"])),(KZ Xk BR XX Jp aB (dv 0) (dv 1)),(dv 0)⟩)))))))
theorem mV(T:Txt K mg):Zg P w base T.x26 3 cY:=
 V2 ["values","start","before","row","place","cell","other"] 2 14 fL rfl λ_ _ _ _ _ _ nd hr hu=>
  (rH (jP (n:=7) (i:=2) rfl (by decide) (PN (dv 1) GC) (u6 2 nd))
  (rH (jP (n:=7) (i:=3) rfl (by decide) (kI (aa (dv 1) aq) (by decide)) (u6 3 nd))
  (rH (bH aB (cI 4 nd))
  (rH (Df aav (dX BR (dv 4) (Qf (n:=7) (is:=[3]) rfl (by decide) (cH jn rfl T.z_len abj (aa (dv 3) aq))) (cu _) Jp)
  (aA (bH (Qf (n:=7) (is:=[3]) rfl (by decide) (bD bC (dv 3) (dv 4) (λ_ _=>rfl))) (cI 5 nd))
  (aA (fZ aav rfl (cO (aF (wH T) hr (aa (dv 5) (aa (cH jn rfl T.z_len abj (aa (dv 0) aq)) aq)))) (cI 6 nd)
  (aD (fc (DW.dt (Py (Jd (n:=7) (i:=2) (ul hu) rfl (by decide) (dv 6) (pv 2)) (Jc (dX (qN hu) (bD bC (dv 0) (dv 6) (λ_ _=>rfl)) (bD bC (dv 0) (dv 1) (λ_ _=>rfl)) (cu _) Jq)))) (aA (S9 (n:=7) (i:=2) (ul hu) rfl (by decide) rfl (pv 2) (dv 6) (dv 5))
  (aD (Gw (n:=7) (i:=3) rfl (by decide) rfl (pv 3) (dv 6)))) cj)))
  (aD (zB (i:=4) nd rfl rfl aB)))))
  (S7 (n:=7) (i:=2) rfl (by decide) rfl (pv 2))))))
theorem jY(T:Txt K mg):j7 P w base T.x27 4 cX:=
 bJ ["values","known","groups","cell","group"] 3 10 fX rfl λ_ _ _ _ _ _ nd hr hu=>
  (aA (jP (n:=5) (i:=1) rfl (by decide) (P0 (mV T) hr (aa (dv 0) (aa (aU ir (cH jn rfl T.z_len abj (aa (dv 0) aq)) aB) aq))) (u6 1 nd))
  (aA (jP (n:=5) (i:=2) rfl (by decide) (kI aq (by decide)) (u6 2 nd))
  (aA (fZ aav rfl (jd rfl T.z_range (cH jn rfl T.z_len abj (aa (dv 0) aq))) (cI 3 nd)
  (aD (fc (Jd (n:=5) (i:=1) (ul hu) rfl (by decide) (dv 3) (pv 1)) (aA (jP (n:=5) (i:=4) rfl (by decide) (P0 (mV T) hr (aa (dv 0) (aa (dv 3) aq))) (u6 4 nd))
  (vW (n:=5) (i:=4) rfl (by decide) rfl (aA (V8 (n:=5) (i:=1) rfl (by decide) rfl (pv 1) (dv 4))
  (aD (Gw (n:=5) (i:=2) rfl (by decide) rfl (pv 2) (DF.de (PK rfl rfl T.z_list (dv 4)) (Km _))))))) cj)))
  (oK (n:=5) (is:=[2]) rfl (by decide) rfl (vW (n:=5) (i:=1) rfl (by decide) rfl (aD (aW (dv 2))))))))
abbrev Ig:List Str:=["sheet","edges","bands","numbers"]
theorem vf(T:Txt K mg):j7 P w base T.x28 5 my:=
 bJ Ig 4 4 uC rfl λ_ _ _ _ _ _ nd hr hu=>
  (aA (bH (aF (gF T) hr (aa (dv 0) aq)) (cI 1 nd))
  (aA (bH (aF (fP T) hr (aa (dv 1) aq)) (cI 2 nd))
  (aA (bH (aF (nA T) hr (aa (dv 0) (aa (dv 1) aq))) (cI 3 nd))
  (aD (aW (cQ dY rfl T.z_tuple rfl (aa (Qd hu rfl T.z_sorted (cN (scX:=aH yM) (NX:=Ig) (N:=["group","numbers","bands"]) (k:=1) (fv:=[3,2]) rfl rT rfl rfl (cO (aF (jY T) hr (aa (dv 3) aq))) (aJ (by decide)) (λ_ _ _ _=>⟨(cI 0 (nod ["group","numbers","bands"])),rfl,(cU (aa (bD bC (dv 1) (bD bC (dv 0) aB (λ_ _=>rfl)) (λ_ _=>rfl)) (aa (aF (wJ T) hr (aa (dv 0) (aa (dv 2) aq))) aq)) (by decide))⟩))) aq)))))))
theorem o8(T:Txt K mg):j7 P w base T.x29 6 gR:=
 bJ ["sheet"] 5 1 jy rfl λ_ _ _ _ _ _ nd hr hu=>
  (aD (aW (aU bV (cH jn rfl T.z_len abj (aa (aF (vf T) hr (aa (dv 0) aq)) aq)) aB)))
abbrev jZ:List Str:=["sheet","covered","cells"]
theorem jF(T:Txt K mg):j7 P w base T.x30 5 eZ:=
 bJ jZ 4 3 fu rfl λ_ _ _ _ _ _ nd hr hu=>
  (aA (bH (aF (lu T) hr (aa (dv 0) (aa (aF (gF T) hr (aa (dv 0) aq)) aq))) (cI 2 nd))
  (aD (aW (cH jn rfl T.z_len abj (aa (cN (scX:=aH gO) (NX:=jZ) (N:=["group","covered","cells"]) (k:=1) (fv:=[1,2]) rfl rT rfl rfl (cO (aF (jY T) hr (aa (dv 2) aq))) (aJ (by decide)) (λ_ _ _ _=>⟨(cI 0 (nod ["group","covered","cells"])),(dX (qN hu) (bD bC (dv 2) (bD bC (dv 0) aB (λ_ _=>rfl)) (λ_ _=>rfl)) (dv 1) (cu _) Jq),(dv 0)⟩)) aq)))))
theorem BJ(T:Txt K mg):j7 P w base T.x31 6 qX:=
 bJ ["sheet"] 5 1 Ju rfl λ_ _ _ _ _ _ nd hr hu=>
  (aD (aW (aF (jF T) hr (aa (dv 0) (aa gH aq)))))
theorem BK(T:Txt K mg):j7 P w base T.x32 6 qY:=
 bJ ["sheet"] 5 1 Jv rfl λ_ _ _ _ _ _ nd hr hu=>
  (aD (aW (aF (jF T) hr (aa (dv 0) (aa gH aq)))))
abbrev bR:List Str:=["_law_sheet_here","_law_by","_law_times","_law_other","_law_glass","_law_great","_law_arcs","_law_lines","_law_some","_law_by_area"]
theorem nF(T:Txt K mg):j7 P w base T.x33 7 fY:=
 bJ bR 6 10 dM rfl λ_ _ _ _ _ _ nd hr hu=>
  (aA (bH (aF (Kh T) hr (aa (dv 0) (aa (dv 1) aq))) (cI 3 nd))
  (aA (bH (aF (By T) hr (aa (dv 0) aq)) (cI 4 nd))
  (aA (bH (aF (N8 T) hr (aa (dv 0) (aa (dv 2) aq))) (cI 5 nd))
  (aA (fc (dX (mW hu) (dv 3) (cQ dY rfl T.z_tuple rfl (aa (cN (scX:=aH bK) (NX:=bR) (N:=["_law_a","_law_b","_law_begin","_law_wide","_law_by"]) (k:=4) (fv:=[1]) rfl rT rfl rfl (cO (dv 0)) (gJ (bh (aJ (by decide)) (bh (aJ (by decide)) (bh (aJ (by decide)) (bh (aJ (by decide)) fJ))))) (λ_ _ _ _=>⟨(gW rfl (aZ (cI 0 (nod ["_law_a","_law_b","_law_begin","_law_wide","_law_by"])) (aZ (cI 1 (nod ["_law_a","_law_b","_law_begin","_law_wide","_law_by"])) (aZ (cI 2 (nod ["_law_a","_law_b","_law_begin","_law_wide","_law_by"])) (aZ (cI 3 (nod ["_law_a","_law_b","_law_begin","_law_wide","_law_by"])) fj)))) (aN (aN (aN (aN cP))))),rfl,(cU (aa (dv 0) (aa (dv 1) (aa (aU jj (aU bV (dv 2) (dv 4)) aB) (aa (dv 3) aq)))) (by decide))⟩)) aq)) (cu _) mZ) (aD (aW gH)) cj)
  (aA (fc (dX (mW hu) (dv 4) (cQ dY rfl T.z_tuple rfl (aa (cN (scX:=aH bK) (NX:=bR) (N:=["_law_a","_law_b","_law_begin","_law_wide"]) (k:=4) (fv:=[]) rfl rT rfl rfl (cO (dv 0)) (gJ (bh (aJ (by decide)) (bh (aJ (by decide)) (bh (aJ (by decide)) (bh (aJ (by decide)) fJ))))) (λ_ _ _ _=>⟨(gW rfl (aZ (cI 0 (nod ["_law_a","_law_b","_law_begin","_law_wide"])) (aZ (cI 1 (nod ["_law_a","_law_b","_law_begin","_law_wide"])) (aZ (cI 2 (nod ["_law_a","_law_b","_law_begin","_law_wide"])) (aZ (cI 3 (nod ["_law_a","_law_b","_law_begin","_law_wide"])) fj)))) (aN (aN (aN (aN cP))))),rfl,(cU (aa (dv 0) (aa (dv 1) (aa (aU jj (aU ir (aU ir aB (dv 2)) (dv 3)) aB) (aa (dv 3) aq)))) (by decide))⟩)) aq)) (cu _) mZ) (aD (aW gH)) cj)
  (aA (fc (dX (mW hu) (dv 5) (cQ dY rfl T.z_tuple rfl (aa (cN (scX:=aH bK) (NX:=bR) (N:=["_law_a","_law_b","_law_begin","_law_wide","_law_times"]) (k:=4) (fv:=[2]) rfl rT rfl rfl (cO (dv 0)) (gJ (bh (aJ (by decide)) (bh (aJ (by decide)) (bh (aJ (by decide)) (bh (aJ (by decide)) fJ))))) (λ_ _ _ _=>⟨(gW rfl (aZ (cI 0 (nod ["_law_a","_law_b","_law_begin","_law_wide","_law_times"])) (aZ (cI 1 (nod ["_law_a","_law_b","_law_begin","_law_wide","_law_times"])) (aZ (cI 2 (nod ["_law_a","_law_b","_law_begin","_law_wide","_law_times"])) (aZ (cI 3 (nod ["_law_a","_law_b","_law_begin","_law_wide","_law_times"])) fj)))) (aN (aN (aN (aN cP))))),rfl,(cU (aa (aU cJ (dv 0) (dv 4)) (aa (aU cJ (dv 1) (dv 4)) (aa (dv 2) (aa (dv 3) aq)))) (by decide))⟩)) aq)) (cu _) mZ) (aD (aW gH)) cj)
  (aA (bH (aF (oH T) hr (aa (dv 0) aq)) (gW rfl (aZ (cI 6 nd) (aZ (cI 7 nd) fj)) (aN (aN cP))))
  (aA (fZ aav rfl (cO (zG (aa (dv 3) (aa (dv 4) (aa (dv 5) aq))) (by decide))) (cI 8 nd)
  (aA (bH aB (cI 9 nd))
  (aA (fc (dX (qN hu) (dv 8) (dv 5) (cu _) Jq) (aD (bH (aU cJ (dv 2) (dv 2)) (cI 9 nd))) cj)
  (aA (fc (dX (mW hu) (aF (jG T) hr (aa (dv 8) aq)) (cQ dY rfl T.z_tuple rfl (aa (cN (scX:=aH bK) (NX:=bR) (N:=["_law_one","_law_by_area"]) (k:=1) (fv:=[9]) rfl rT rfl rfl (cO (aF (jG T) hr (aa (dv 0) aq))) (aJ (by decide)) (λ_ _ _ _=>⟨(cI 0 (nod ["_law_one","_law_by_area"])),rfl,(aU cJ (dv 0) (dv 1))⟩)) aq)) (cu _) mZ) (aD (aW gH)) cj)
  (aA (fc (dX (mW hu) (cU (aa (aF (o8 T) hr (aa (dv 8) aq)) (aa (aF (BJ T) hr (aa (dv 8) aq)) (aa (aF (BK T) hr (aa (dv 8) aq)) aq))) (by decide)) (cU (aa (aF (o8 T) hr (aa (dv 0) aq)) (aa (aF (BJ T) hr (aa (dv 0) aq)) (aa (aF (BK T) hr (aa (dv 0) aq)) aq))) (by decide)) (cu _) mZ) (aD (aW gH)) cj)
  (aD (fc (dX (mW hu) (Dn rfl rfl T.z_sorted (cN (scX:=aH bK) (NX:=bR) (N:=["_law_inside","_law_area_here"]) (k:=2) (fv:=[]) rfl rT rfl rfl (cO (aF (vf T) hr (aa (dv 8) aq))) (gJ (bh (aJ (by decide)) (bh (aJ (by decide)) fJ))) (λ_ _ _ _=>⟨(gW rfl (aZ (cI 0 (nod ["_law_inside","_law_area_here"])) (aZ (cI 1 (nod ["_law_inside","_law_area_here"])) fj)) (aN (aN cP))),rfl,(dv 1)⟩))) (Dn rfl rfl T.z_sorted (cN (scX:=aH bK) (NX:=bR) (N:=["_law_inside","_law_area_here","_law_by_area"]) (k:=2) (fv:=[9]) rfl rT rfl rfl (cO (aF (vf T) hr (aa (dv 0) aq))) (gJ (bh (aJ (by decide)) (bh (aJ (by decide)) fJ))) (λ_ _ _ _=>⟨(gW rfl (aZ (cI 0 (nod ["_law_inside","_law_area_here","_law_by_area"])) (aZ (cI 1 (nod ["_law_inside","_law_area_here","_law_by_area"])) fj)) (aN (aN cP))),rfl,(aU cJ (dv 1) (dv 2))⟩))) (cu _) mZ) (aD (aW gH)) cj)))))))
  (aA (fc (dX (mW hu) (aF (oH T) hr (aa (dv 5) aq)) (cU (aa (aU cJ (dv 6) (dv 2)) (aa (aU cJ (dv 7) (dv 2)) aq)) (by decide)) (cu _) mZ) (aD (aW gH)) cj)
  (aD (aW (Qg (kJ (qN hu) (aF (oH T) hr (aa (dv 3) aq)) (cU (aa (dv 6) (aa (dv 7) aq)) (by decide)) (cu _)) (Qe (kJ (qN hu) (aF (oH T) hr (aa (dv 4) aq)) (cU (aa (dv 6) (aa (dv 7) aq)) (by decide)) (cu _)))))))))))))))
theorem vd(T:Txt K mg):j7 P w base T.x34 1 iJ:=
 bJ ["here","there","turn","depths"] 0 4 eY rfl λ_ _ _ _ _ _ nd hr hu=>
  (aA (fZ aav rfl (Gx rfl T.z_enumerate rfl T.z_zip (dv 0) (dv 1)) (gW rfl (aZ (cI 2 nd) (aZ (cI 3 nd) fj)) (aN (aN cP)))
  (aD (fc (dX (mW hu) (kJ (qN hu) (bD bC (dv 3) aB (λ_ _=>rfl)) aB (cu _)) (kJ (qN hu) (bD bC (dv 3) aB (λ_ _=>rfl)) aB (cu _)) (cu _) mZ) (aD (aW (dv 2))) cj)))
  (aD (aW GC)))
theorem sG(T:Txt K mg):j7 P w base T.x35 1 jk:=
 bJ ["inner","turn"] 0 2 gn rfl λ_ _ _ _ _ _ nd hr hu=>
  (aD (aW (cU (aa (cU (aa (aU bV (aU cJ aB (dv 0)) aB) (aa aB aq)) (by decide)) (aa (cU (aa (aU bV (aU cJ aB (dv 1)) aB) (aa aB aq)) (by decide)) aq)) (by decide))))
theorem xG(T:Txt K mg):j7 P w base T.x36 5 iZ:=
 bJ ["one","other","bands","band","here","there","turn"] 4 7 lH rfl λ_ _ _ _ _ _ nd hr hu=>
  (aA (bH (aF (fP T) hr (aa (aF (gF T) hr (aa (aU bV (dv 0) (dv 1)) aq)) aq)) (cI 2 nd))
  (aA (fZ aav rfl (Jf rfl T.z_zip (dv 2) (aF (f9 T) hr (aa (dv 0) (aa (dv 2) aq))) (aF (f9 T) hr (aa (dv 1) (aa (dv 2) aq)))) (gW rfl (aZ (cI 3 nd) (aZ (cI 4 nd) (aZ (cI 5 nd) fj))) (aN (aN (aN cP))))
  (aA (bH (aF (vd T) hr (aa (dv 4) (aa (dv 5) aq))) (cI 6 nd))
  (aD (fc (tH (dv 6)) (aD (aW (aF (sG T) hr (aa (bD bC (dv 3) aB (λ_ _=>rfl)) (aa (dv 6) aq))))) cj))))
  (aD (aW GC))))
theorem ji(T:Txt K mg):j7 P w base T.x37 6 dO:=
 bJ ["sheet"] 5 1 gZ rfl λ_ _ _ _ _ _ nd hr hu=>
  (aD (aW (cH (Qn rfl) rfl T.z_sum rfl (aa (aF (jG T) hr (aa (dv 0) aq)) aq))))
theorem jJ(T:Txt K mg):j7 P w base T.x38 4 dI:=
 bJ ["_law_sheet_here","_law_wish","_law_most","_law_cells_here","_law_place"] 3 5 iU rfl λ_ _ _ _ _ _ nd hr hu=>
  (aA (bH (aF (kh T) hr (aa (dv 0) (aa (dv 2) aq))) (cI 3 nd))
  (aA (fZ aav rfl (Jg (dv 3)) (cI 4 nd)
  (aD (fc (dX (mW hu) (cH jn rfl T.z_len abj (aa (zH (ul hu) (dv 3) (dv 4) (λ_ _=>rfl)) aq)) (cQ Tt rfl T.z_int rfl (aa (kJ (Xl hu) (dv 4) (dv 1) rfl) aq)) (cu _) mZ) (aD (aW gH)) cj)))
  (aD (aW gH))))
theorem Bw(T:Txt K mg):j7 P w base T.x39 1 pX:=
 bJ ["row","begin","wide"] 0 3 mF rfl λ_ _ _ _ _ _ nd hr hu=>
  (aA (bH aB (cI 2 nd))
  (aA (Df aav (jm (bD bC (dv 0) (aU jj (aU bV (dv 1) (dv 2)) (dq rfl T.c0)) (λ_ _=>rfl)))
  (aD (zB (i:=2) nd rfl rfl aB)))
  (aD (aW (dv 2)))))
abbrev sO:List Str:=["row","begins"]
theorem FN(T:Txt K mg):j7 P w base T.x40 2 lz:=
 bJ sO 1 2 oR rfl λ_ _ _ _ _ _ nd hr hu=>
  (aA (fc (jm (cH (Wi rfl) rfl T.z_all rfl (aa (dv 0) aq))) (aD (aW (zG (aa (cU (aa aB (aa (dq rfl T.c0) aq)) (by decide)) aq) (by decide)))) cj)
  (aA (oM (i:=1) rfl (u6 1 nd) (scX:=aH oA) (NX:=sO) (N:=["turn","keep","row"]) (k:=2) (fv:=[0]) rfl rT rfl rfl (zF rfl T.z_enumerate (dv 0)) (gJ (bh (aJ (by decide)) (bh (aJ (by decide)) fJ))) (λ_ _ _ _=>⟨(gW rfl (aZ (cI 0 (nod ["turn","keep","row"])) (aZ (cI 1 (nod ["turn","keep","row"])) fj)) (aN (aN cP))),(DW.dt (Py (jm (dv 1)) (Jc (tD (jm (bD bC (dv 2) (aU ir (dv 0) aB) (λ_ _=>rfl))))))),(dv 0)⟩))
  (aD (aW (cN (scX:=aH oA) (NX:=sO) (N:=["begin","row"]) (k:=1) (fv:=[0]) rfl rT rfl rfl (cO (dv 1)) (aJ (by decide)) (λ_ _ _ _=>⟨(cI 0 (nod ["begin","row"])),rfl,(cU (aa (dv 0) (aa (aF (Bw T) hr (aa (dv 1) (aa (dv 0) aq))) aq)) (by decide))⟩))))))
abbrev FQ:List Str:=["one","other","shared","bands","pieces","band","here","there","row"]
theorem HW(T:Txt K mg):j7 P w base T.x41 5 zf:=
 bJ FQ 4 18 zR rfl λ_ _ _ _ _ _ nd hr hu=>
  (aA (bH (aF (fP T) hr (aa (aF (gF T) hr (aa (aU bV (dv 0) (dv 1)) aq)) aq)) (cI 3 nd))
  (aA (jP (n:=9) (i:=4) rfl (by decide) (kI aq (by decide)) (u6 4 nd))
  (aA (fZ aav rfl (Jf rfl T.z_zip (dv 3) (aF (f9 T) hr (aa (dv 0) (aa (dv 3) aq))) (aF (f9 T) hr (aa (dv 1) (aa (dv 3) aq)))) (gW rfl (aZ (cI 5 nd) (aZ (cI 6 nd) (aZ (cI 7 nd) fj))) (aN (aN (aN cP))))
  (aA (oM (i:=8) rfl (u6 8 nd) (scX:=aH yK) (NX:=FQ) (N:=["depths","shared"]) (k:=1) (fv:=[2]) rfl rT rfl rfl (Td rfl T.z_zip (dv 6) (dv 7)) (aJ (by decide)) (λ_ _ _ _=>⟨(cI 0 (nod ["depths","shared"])),rfl,(Qg (kJ Oa (bD bC (dv 0) aB (λ_ _=>rfl)) aB (cu _)) (Qe (kJ (qN hu) (kJ Oa (bD bC (dv 0) aB (λ_ _=>rfl)) aB (cu _)) (dv 1) (cu _))))⟩))
  (aD (Gv (n:=9) (i:=4) rfl (by decide) rfl (pv 4) (cN (scX:=aH yK) (NX:=FQ) (N:=["run","band"]) (k:=1) (fv:=[5]) rfl rT rfl rfl (cO (aF (FN T) hr (aa (dv 8) aq))) (aJ (by decide)) (λ_ _ _ _=>⟨(cI 0 (nod ["run","band"])),rfl,(cU (aa (bD bC (dv 1) aB (λ_ _=>rfl)) (aa (bD bC (dv 1) aB (λ_ _=>rfl)) (aa (bD bC (dv 0) aB (λ_ _=>rfl)) (aa (bD bC (dv 0) aB (λ_ _=>rfl)) aq)))) (by decide))⟩))))))
  (oK (n:=9) (is:=[4]) rfl (by decide) rfl (aD (aW (cQ dY rfl T.z_tuple rfl (aa (dv 4) aq))))))))
theorem lY(T:Txt K mg):j7 P w base T.x42 6 iz:=
 bJ ["one","other"] 5 2 yq rfl λ_ _ _ _ _ _ nd hr hu=>
  (aD (aW (aF (HW T) hr (aa (dv 0) (aa (dv 1) (aa gH aq))))))
theorem Bx(T:Txt K mg):j7 P w base T.x43 7 qW:=
 bJ ["sheet"] 6 1 Js rfl λ_ _ _ _ _ _ nd hr hu=>
  (aD (aW (aF (lY T) hr (aa (dv 0) (aa (dv 0) aq)))))
theorem pU(T:Txt K mg):j7 P w base T.x44 6 jD:=
 bJ ["one","other"] 5 2 yp rfl λ_ _ _ _ _ _ nd hr hu=>
  (aD (aW (aF (HW T) hr (aa (dv 0) (aa (dv 1) (aa gH aq))))))
abbrev Ib:List Str:=["_law_script","_law_k","_law_cell_here","_law_one","_law_other","_law_more","_law_mine","_law_yours","_law_every","_law_both","_law_rest"]
theorem Vu(T:Txt K mg):j7 P w base T.x45 8 Ce:=
 bJ Ib 7 11 Jt rfl λ_ _ _ _ _ _ nd hr hu=>
  (aA (fZ aav rfl (jd rfl T.z_range aB) (cI 1 nd)
  (aA (bH (aF (lZ T) hr (aa (dv 0) (aa (aU cJ aB (dv 1)) aq))) (cI 2 nd))
  (aA (bH (aF (pg T) hr (aa (dv 2) (aa aB (aa aB aq)))) (cI 3 nd))
  (aA (bH (aF (pg T) hr (aa (aF (lZ T) hr (aa (dv 0) (aa (aU bV (aU cJ aB (dv 1)) aB) aq))) (aa aB (aa aB aq)))) (cI 4 nd))
  (aA (bH (aF (lZ T) hr (aa (dv 0) (aa (aU bV (aU cJ aB (dv 1)) aB) aq))) (cI 5 nd))
  (aA (fc (tD (jm (aF (nF T) hr (aa (dv 3) (aa (aU ir (aF (fD T) hr (aa (dv 5) (aa aB (aa aB aq)))) aB) (aa (aU bV aB (aF (fD T) hr (aa (dv 5) (aa aB (aa aB aq))))) aq)))))) (aD (aW gH)) cj)
  (aA (bH (aF (kh T) hr (aa (dv 3) (aa aB aq))) (cI 6 nd))
  (aA (bH (aF (kh T) hr (aa (dv 4) (aa aB aq))) (cI 7 nd))
  (aA (oM (i:=8) rfl (u6 8 nd) (scX:=aH Bb) (NX:=Ib) (N:=["_law_place","_law_mine"]) (k:=1) (fv:=[6]) rfl rT rfl rfl (Jg (dv 6)) (aJ (by decide)) (λ_ _ _ _=>⟨(cI 0 (nod ["_law_place","_law_mine"])),(jm (zH (ul hu) (dv 1) (dv 0) (λ_ _=>rfl))),(dv 0)⟩))
  (aA (oM (i:=9) rfl (u6 9 nd) (scX:=aH Bb) (NX:=Ib) (N:=["_law_place","_law_yours"]) (k:=1) (fv:=[7]) rfl rT rfl rfl (cO (dv 8)) (aJ (by decide)) (λ_ _ _ _=>⟨(cI 0 (nod ["_law_place","_law_yours"])),(jm (zH (ul hu) (dv 1) (dv 0) (λ_ _=>rfl))),(dv 0)⟩))
  (aA (oM (i:=10) rfl (u6 10 nd) (scX:=aH Bb) (NX:=Ib) (N:=["_law_place","_law_yours"]) (k:=1) (fv:=[7]) rfl rT rfl rfl (cO (dv 8)) (aJ (by decide)) (λ_ _ _ _=>⟨(cI 0 (nod ["_law_place","_law_yours"])),(tD (jm (zH (ul hu) (dv 1) (dv 0) (λ_ _=>rfl)))),(dv 0)⟩))
  (aA (fc (DW.dt (Px (tD (jm (aF (jJ T) hr (aa (aF (Bx T) hr (aa (dv 3) aq)) (aa (dv 8) (aa aB aq)))))) (Gq (tH (aF (xG T) hr (aa (aF (Bx T) hr (aa (dv 3) aq)) (aa (dv 3) aq))))))) (aD (aW gH)) cj)
  (aA (fc (DW.dt (Px (tD (jm (aF (jJ T) hr (aa (aF (lY T) hr (aa (dv 3) (aa (dv 4) aq))) (aa (dv 9) (aa aB aq)))))) (Gq (tD (jm (aF (jJ T) hr (aa (aF (pU T) hr (aa (dv 3) (aa (dv 4) aq))) (aa (dv 10) (aa aB aq))))))))) (aD (aW gH)) cj)
  (aA (fc (tH (aF (xG T) hr (aa (aU bV (aF (lY T) hr (aa (dv 3) (aa (dv 4) aq))) (aF (pU T) hr (aa (dv 3) (aa (dv 4) aq)))) (aa (dv 3) aq)))) (aD (aW gH)) cj)
  (aD (fc (dX (mW hu) (aU bV (aF (ji T) hr (aa (aF (lY T) hr (aa (dv 3) (aa (dv 4) aq))) aq)) (aF (ji T) hr (aa (aF (pU T) hr (aa (dv 3) (aa (dv 4) aq))) aq))) (aF (ji T) hr (aa (dv 3) aq)) (cu _) mZ) (aD (aW gH)) cj))))))))))))))))
  (aD (aW gH)))
end
set_option maxHeartbeats 0 in
theorem all_mk{l:PySem.W.OpenLaw}{w:World}{K:PySem.W.Frag}{h:Heap}{mg:Str->Option Value}{fa:Addr}(X:K.In h)(G:h.Ns mainGlobals mg)(hfa:mg "law"=some (.ref fa))
 (x0:FnI K "_law_cell" tU)
 (x1:FnI K "_law_mix" uQ)
 (x2:FnI K "_law_piece" qz)
 (x3:FnI K "_law_sheet" lU)
 (x4:FnI K "_law_has" uR)
 (x5:FnI K "_law_layers" j8)
 (x6:FnI K "_law_cells" qC)
 (x7:FnI K "turned" uN)
 (x8:FnI K "mirrored" pK)
 (x9:FnI K "grown" yL)
 (x10:FnI K "span_of" xm)
 (x11:FnI K "edges_of" uP)
 (x12:FnI K "turns_of" pJ)
 (x13:FnI K "cells_of" pL)
 (x14:FnI K "cell_layers" iI)
 (x15:FnI K "covered_cells" jh)
 (x16:FnI K "cell_beside" o5)
 (x17:FnI K "border" Bc)
 (x18:FnI K "bands_between" mU)
 (x19:FnI K "add_change" lR)
 (x20:FnI K "depth_changes" jg)
 (x21:FnI K "depth_rows" lQ)
 (x22:FnI K "cell_area" tR)
 (x23:FnI K "depth_areas" oZ)
 (x24:FnI K "group_area" lO)
 (x25:FnI K "neighbours" lN)
 (x26:FnI K "hanging_with" ni)
 (x27:FnI K "bounded_groups" kY)
 (x28:FnI K "faces" yM)
 (x29:FnI K "face_count" qy)
 (x30:FnI K "groups_that_are" gO)
 (x31:FnI K "lands" Ho)
 (x32:FnI K "holes" Hq)
 (x33:FnI K "_law_turned_right" bK)
 (x34:FnI K "unlike_turn" oY)
 (x35:FnI K "point_in_cell" mR)
 (x36:FnI K "unlike" Ba)
 (x37:FnI K "covered_area" nj)
 (x38:FnI K "_law_covers" o6)
 (x39:FnI K "run_from" uO)
 (x40:FnI K "runs_in" oA)
 (x41:FnI K "kept" yK)
 (x42:FnI K "both_of" xq)
 (x43:FnI K "plain" Hn)
 (x44:FnI K "cut_out" xn)
 (x45:FnI K "law" Bb)
 {tk0:Tok}
 (v0:PySem.W.nsIn K mainGlobals "WHOLE_TURN"=some (some (.int 24 tk0)))
 (z0:PySem.W.nsIn K mainGlobals "all"=some none)
 (z1:PySem.W.nsIn K mainGlobals "enumerate"=some none)
 (z2:PySem.W.nsIn K mainGlobals "int"=some none)
 (z3:PySem.W.nsIn K mainGlobals "len"=some none)
 (z4:PySem.W.nsIn K mainGlobals "list"=some none)
 (z5:PySem.W.nsIn K mainGlobals "max"=some none)
 (z6:PySem.W.nsIn K mainGlobals "min"=some none)
 (z7:PySem.W.nsIn K mainGlobals "range"=some none)
 (z8:PySem.W.nsIn K mainGlobals "set"=some none)
 (z9:PySem.W.nsIn K mainGlobals "sorted"=some none)
 (z10:PySem.W.nsIn K mainGlobals "sum"=some none)
 (z11:PySem.W.nsIn K mainGlobals "tuple"=some none)
 (z12:PySem.W.nsIn K mainGlobals "zip"=some none):
 ∃fd:FuncData,(∀(s:Shared)(v:Value),BindsTo s fd ⟨[v],[]⟩ [("_law_script",v)])/\∀base:Heap,K.In base->base.Ns mainGlobals mg->mQ l.prog w K mg base uE 8 fa fd ["_law_script"] (DX K Ce):=by
 cases hfa.symm.trans (aeZ X G x45.a);have hb:∀(s:Shared)(v:Value),BindsTo s x45.fd ⟨[v],[]⟩ [("_law_script",v)]:=by
  obtain⟨_,_,_,_,_,_,_,_,_,e,_⟩:=x45.F.ex;rw[e];exact λs v=>.of_eq rfl
 exact⟨x45.fd,hb,λbase _ _=>Vu (T:={
  x0:=x0.g X G,
  x1:=x1.g X G,
  x2:=x2.g X G,
  x3:=x3.g X G,
  x4:=x4.g X G,
  x5:=x5.g X G,
  x6:=x6.g X G,
  x7:=x7.g X G,
  x8:=x8.g X G,
  x9:=x9.g X G,
  x10:=x10.g X G,
  x11:=x11.g X G,
  x12:=x12.g X G,
  x13:=x13.g X G,
  x14:=x14.g X G,
  x15:=x15.g X G,
  x16:=x16.g X G,
  x17:=x17.g X G,
  x18:=x18.g X G,
  x19:=x19.g X G,
  x20:=x20.g X G,
  x21:=x21.g X G,
  x22:=x22.g X G,
  x23:=x23.g X G,
  x24:=x24.g X G,
  x25:=x25.g X G,
  x26:=x26.g X G,
  x27:=x27.g X G,
  x28:=x28.g X G,
  x29:=x29.g X G,
  x30:=x30.g X G,
  x31:=x31.g X G,
  x32:=x32.g X G,
  x33:=x33.g X G,
  x34:=x34.g X G,
  x35:=x35.g X G,
  x36:=x36.g X G,
  x37:=x37.g X G,
  x38:=x38.g X G,
  x39:=x39.g X G,
  x40:=x40.g X G,
  x41:=x41.g X G,
  x42:=x42.g X G,
  x43:=x43.g X G,
  x44:=x44.g X G,
  x45:=x45.g X G,
  k_WHOLE_TURN:=tk0,c0:=aeZ X G v0,
  z_all:=aaP X G z0,
  z_enumerate:=aaP X G z1,
  z_int:=aaP X G z2,
  z_len:=aaP X G z3,
  z_list:=aaP X G z4,
  z_max:=aaP X G z5,
  z_min:=aaP X G z6,
  z_range:=aaP X G z7,
  z_set:=aaP X G z8,
  z_sorted:=aaP X G z9,
  z_sum:=aaP X G z10,
  z_tuple:=aaP X G z11,
  z_zip:=aaP X G z12})⟩
theorem walk{l:PySem.W.OpenLaw}{q:Program}{loose:List Str}{XP:(Str->Option Value)->Heap->Prop}{YP:World->Heap->Prop}{d:DefRec}{K:Params->PySem.W.Frag}(hn:l.most=some 63)(hdf:d.params.defaults=[])
 (hY:∀(w:World)(h:Heap),YP w h->(K w.params).In h)
 (F:∀(w:World)(mg:Str->Option Value)(fa:Addr)(h:Heap),(K w.params).In h->h.Ns mainGlobals mg->mg d.name=some (.ref fa)->
  ∃fd:FuncData,(∀(s:Shared)(u:Value),BindsTo s fd ⟨[u],[]⟩ [("_law_script",u)])/\∀base:Heap,(K w.params).In base->base.Ns mainGlobals mg->mQ l.prog w (K w.params) mg base uE 8 fa fd ["_law_script"] (DX (K w.params) Ce)):
 PySem.W.WalkO q loose XP YP l.row.toRowW d [] (λf vs=>PySem.call f vs):=
 L2.walk_of (n:=63) (k:=8) (x:="_law_script") (CX:=λ_=>uE) (sp:=λw=>DX (K w.params) Ce) hn (by decide) hdf ⟨rfl,by decide,by decide⟩ hY F
  (λw H a ns hl _ hS=>⟨[],[.lst (ns.map .int)],.bl true,(λ_ z=>absurd z (by simp)),hide_nil.symm ▸ .cons (.lst hS (Dens.ints ns)) .nil,W4 ns,λv H' _ r=>r.bl_inv⟩) λ_ _ _ _ _ z=>z
end DL.K09
open PySem PySem.W PyProof.Rows
namespace PySem.W.Fast
def tw10944501167071084294:=0
def tw5343273059843346548:=0
def tw9150382103702930839:=0
def tw5445884366292812523:=0
def tw4341958872401750457:=0
def tw2329368485995903295:=0
def tw8375171188170064034:=0
def tw18407554368572369994:=0
def tw803279527505175860:=0
def tw17367035244275441472:=0
def tw5157364361105359067:=0
def tw7521513536547170997:=0
def tw5305389048212330675:=0
def tw11373076689936589325:=0
def tw7909084235519357941:=0
def tw7828805764887316179:=0
def tw13368908925743105584:=0
def tw14423947621234037621:=0
def tw17998181083786994764:=0
def tw2589423686079527468:=0
def tw15621456455963065001:=0
def tw9119779298447861484:=0
def tw2874053656607240239:=0
def tw7472658113407136867:=0
def tw9723905096828610544:=0
def tw12989046961046150848:=0
def tw9063648493609601493:=0
def tw1551137889013025491:=0
def tw8212137989542973141:=0
def tw7674293691913143203:=0
def tw12993075626087828347:=0
def tw13230088059861581688:=0
def tw15350841004024498243:=0
def tw8303147806985439327:=0
def tw10813546980497895525:=0
def tw7234532696802511598:=0
def tw15400611606934554283:=0
def tw17763458526540158116:=0
def tw13351578631460415694:=0
def tw2419515320649934699:=0
def tw6814427378102555485:=0
def tw10240358272407436268:=0
def tw9579605853802513866:=0
def tw905653084195566130:=0
def tw585575784421120210:=0
def tw2752175570569899946:=0
def tw3182806960904716334:=0
def tw13343892120572236894:=0
def tw2536350676998374191:=0
def tw15815200405269727816:=0
def tw15246644039659920679:=0
def tw14628216063962744703:=0
def tw10703729282271965459:=0
def tw4403003065781773399:=0
def tw11804621286796397046:=0
def tw7042008062544110665:=0
def tw9703473082662200038:=0
def tw2799352500873763403:=0
def tw6547661068306408739:=0
def tw1781634880102218947:=0
def tw16245090732479436368:=0
def tw17400076975723747024:=0
def tw6252629331123205407:=0
def tw15057250651887594377:=0
def tw12955371244982194256:=0
def tw13459465273119951700:=0
def tw12635741799111710594:=0
def tw7842486907567621050:=0
def tw4758252125846920007:=0
def tw18240416412066926849:=0
def tw15940215177509669649:=0
def tw15594009586753113408:=0
def tw10604015846404660746:=0
def tw18051428192502084589:=0
def tw13757750096788280792:=0
def tw11386873871573085985:=0
def tw10519063484380362035:=0
def tw15767862514047972626:=0
def tw290565557312299476:=0
def tw7966592949721035037:=0
def tw12663419062708835056:=0
def tw5170235531321292095:=0
def tw13596346626263892649:=0
def tw3194756073911274703:=0
def tw4593728852655882945:=0
def tw8555851542783369993:=0
def tw11440787791653890399:=0
def tw10316581832574858060:=0
def tw11254632257779787269:=0
def tw1844414866696944054:=0
def tw10715079521416775095:=0
def tw10844203789894509916:=0
def tw16966957708335832811:=0
def tw17668066520642203857:=0
def tw2096731162094282031:=0
def tw14485270813721869355:=0
def tw5504811718221746775:=0
def tw13191490554461774386:=0
def tw15623326379761650038:=0
def tw12857499134172238424:=0
def tw8694939924872574369:=0
def tw17869032433310707143:=0
def tw5700190712323399493:=0
def tw3546606151741460644:=0
def tw13093460992840940274:=0
def tw8470510546051111648:=0
def tw13962085091538588598:=0
def tw6412688143391452249:=0
def tw17904057456606672105:=0
def tw13982897161744852092:=0
def tw6139871820943977720:=0
def tw3073518354009348597:=0
def tw17043108008079419296:=0
def tw13615782996645551323:=0
def tw10111119993876572006:=0
def tw7852384006069680552:=0
def tw15543269650065049979:=0
def tw15156400675134147394:=0
def tw4093525819058120559:=0
def tw10331770271082383754:=0
def tw2168392064308050472:=0
def tw16706493706705158063:=0
def tw11121848068044706293:=0
def tw1679723647399521066:=0
def tw5180818584077982858:=0
def tw13932861559803560913:=0
def tw15100238201768213301:=0
def tw14961929494612395345:=0
def tw2122334206542668518:=0
def tw12478774704704834175:=0
def tw1443025224661550825:=0
def tw10499698548493611436:=0
def tw7910645916772926905:=0
def tw11589333285188146171:=0
def tw7627164992676690351:=0
def tw5165312921285334229:=0
def tw10662799502404555569:=0
def tw7783654793249413684:=0
def tw12564475303655894974:=0
def tw13730233594811816452:=0
def tw9606665496099889675:=0
def tw8241573679921377389:=0
def tw3865294892663945850:=0
def tw3416228098602913276:=0
def tw5432659518622377482:=0
def tw12108385404150328342:=0
def tw9742938381489178002:=0
def tw3014631789152006064:=0
def tw8372680877806530212:=0
def tw6705125292970848575:=0
end PySem.W.Fast
set_option maxRecDepth 100000 in
set_option maxHeartbeats 0 in
theorem PySem.Challenge.cw_ringlayers_k09_whole_sheets_changed_holds : PySem.Challenge.rw_ringlayers_k09_whole_sheets_changed.Holds := by
 w_on;o_law;k_head;(case hw=>w_witness2)
 k_fill
 refine DL.K09.walk (l:=PySem.Challenge.rw_ringlayers_k09_whole_sheets_changed) rfl rfl (λw h Y=>PySem.W.kIn_of Y) ?F
 case F=>
  intro w mg fa h KX G hmg;refine' DL.K09.all_mk KX G hmg (DL.fnI ?a0 ?l0 ?c0 ?k0) (DL.fnI ?a1 ?l1 ?c1 ?k1) (DL.fnI ?a2 ?l2 ?c2 ?k2) (DL.fnI ?a3 ?l3 ?c3 ?k3) (DL.fnI ?a4 ?l4 ?c4 ?k4) (DL.fnI ?a5 ?l5 ?c5 ?k5) (DL.fnI ?a6 ?l6 ?c6 ?k6) (DL.fnI ?a7 ?l7 ?c7 ?k7) (DL.fnI ?a8 ?l8 ?c8 ?k8) (DL.fnI ?a9 ?l9 ?c9 ?k9) (DL.fnI ?a10 ?l10 ?c10 ?k10) (DL.fnI ?a11 ?l11 ?c11 ?k11) (DL.fnI ?a12 ?l12 ?c12 ?k12) (DL.fnI ?a13 ?l13 ?c13 ?k13) (DL.fnI ?a14 ?l14 ?c14 ?k14) (DL.fnI ?a15 ?l15 ?c15 ?k15) (DL.fnI ?a16 ?l16 ?c16 ?k16) (DL.fnI ?a17 ?l17 ?c17 ?k17) (DL.fnI ?a18 ?l18 ?c18 ?k18) (DL.fnI ?a19 ?l19 ?c19 ?k19) (DL.fnI ?a20 ?l20 ?c20 ?k20) (DL.fnI ?a21 ?l21 ?c21 ?k21) (DL.fnI ?a22 ?l22 ?c22 ?k22) (DL.fnI ?a23 ?l23 ?c23 ?k23) (DL.fnI ?a24 ?l24 ?c24 ?k24) (DL.fnI ?a25 ?l25 ?c25 ?k25) (DL.fnI ?a26 ?l26 ?c26 ?k26) (DL.fnI ?a27 ?l27 ?c27 ?k27) (DL.fnI ?a28 ?l28 ?c28 ?k28) (DL.fnI ?a29 ?l29 ?c29 ?k29) (DL.fnI ?a30 ?l30 ?c30 ?k30) (DL.fnI ?a31 ?l31 ?c31 ?k31) (DL.fnI ?a32 ?l32 ?c32 ?k32) (DL.fnI ?a33 ?l33 ?c33 ?k33) (DL.fnI ?a34 ?l34 ?c34 ?k34) (DL.fnI ?a35 ?l35 ?c35 ?k35) (DL.fnI ?a36 ?l36 ?c36 ?k36) (DL.fnI ?a37 ?l37 ?c37 ?k37) (DL.fnI ?a38 ?l38 ?c38 ?k38) (DL.fnI ?a39 ?l39 ?c39 ?k39) (DL.fnI ?a40 ?l40 ?c40 ?k40) (DL.fnI ?a41 ?l41 ?c41 ?k41) (DL.fnI ?a42 ?l42 ?c42 ?k42) (DL.fnI ?a43 ?l43 ?c43 ?k43) (DL.fnI ?a44 ?l44 ?c44 ?k44) (DL.fnI ?a45 ?l45 ?c45 ?k45) ?v0 ?z0 ?z1 ?z2 ?z3 ?z4 ?z5 ?z6 ?z7 ?z8 ?z9 ?z10 ?z11 ?z12
  (case a0=>k_is)
  (case l0=>k_is)
  (case c0=>k_is)
  (case k0=>k_is)
  (case a1=>k_is)
  (case l1=>k_is)
  (case c1=>k_is)
  (case k1=>k_is)
  (case a2=>k_is)
  (case l2=>k_is)
  (case c2=>k_is)
  (case k2=>k_is)
  (case a3=>k_is)
  (case l3=>k_is)
  (case c3=>k_is)
  (case k3=>k_is)
  (case a4=>k_is)
  (case l4=>k_is)
  (case c4=>k_is)
  (case k4=>k_is)
  (case a5=>k_is)
  (case l5=>k_is)
  (case c5=>k_is)
  (case k5=>k_is)
  (case a6=>k_is)
  (case l6=>k_is)
  (case c6=>k_is)
  (case k6=>k_is)
  (case a7=>k_is)
  (case l7=>k_is)
  (case c7=>k_is)
  (case k7=>k_is)
  (case a8=>k_is)
  (case l8=>k_is)
  (case c8=>k_is)
  (case k8=>k_is)
  (case a9=>k_is)
  (case l9=>k_is)
  (case c9=>k_is)
  (case k9=>k_is)
  (case a10=>k_is)
  (case l10=>k_is)
  (case c10=>k_is)
  (case k10=>k_is)
  (case a11=>k_is)
  (case l11=>k_is)
  (case c11=>k_is)
  (case k11=>k_is)
  (case a12=>k_is)
  (case l12=>k_is)
  (case c12=>k_is)
  (case k12=>k_is)
  (case a13=>k_is)
  (case l13=>k_is)
  (case c13=>k_is)
  (case k13=>k_is)
  (case a14=>k_is)
  (case l14=>k_is)
  (case c14=>k_is)
  (case k14=>k_is)
  (case a15=>k_is)
  (case l15=>k_is)
  (case c15=>k_is)
  (case k15=>k_is)
  (case a16=>k_is)
  (case l16=>k_is)
  (case c16=>k_is)
  (case k16=>k_is)
  (case a17=>k_is)
  (case l17=>k_is)
  (case c17=>k_is)
  (case k17=>k_is)
  (case a18=>k_is)
  (case l18=>k_is)
  (case c18=>k_is)
  (case k18=>k_is)
  (case a19=>k_is)
  (case l19=>k_is)
  (case c19=>k_is)
  (case k19=>k_is)
  (case a20=>k_is)
  (case l20=>k_is)
  (case c20=>k_is)
  (case k20=>k_is)
  (case a21=>k_is)
  (case l21=>k_is)
  (case c21=>k_is)
  (case k21=>k_is)
  (case a22=>k_is)
  (case l22=>k_is)
  (case c22=>k_is)
  (case k22=>k_is)
  (case a23=>k_is)
  (case l23=>k_is)
  (case c23=>k_is)
  (case k23=>k_is)
  (case a24=>k_is)
  (case l24=>k_is)
  (case c24=>k_is)
  (case k24=>k_is)
  (case a25=>k_is)
  (case l25=>k_is)
  (case c25=>k_is)
  (case k25=>k_is)
  (case a26=>k_is)
  (case l26=>k_is)
  (case c26=>k_is)
  (case k26=>k_is)
  (case a27=>k_is)
  (case l27=>k_is)
  (case c27=>k_is)
  (case k27=>k_is)
  (case a28=>k_is)
  (case l28=>k_is)
  (case c28=>k_is)
  (case k28=>k_is)
  (case a29=>k_is)
  (case l29=>k_is)
  (case c29=>k_is)
  (case k29=>k_is)
  (case a30=>k_is)
  (case l30=>k_is)
  (case c30=>k_is)
  (case k30=>k_is)
  (case a31=>k_is)
  (case l31=>k_is)
  (case c31=>k_is)
  (case k31=>k_is)
  (case a32=>k_is)
  (case l32=>k_is)
  (case c32=>k_is)
  (case k32=>k_is)
  (case a33=>k_is)
  (case l33=>k_is)
  (case c33=>k_is)
  (case k33=>k_is)
  (case a34=>k_is)
  (case l34=>k_is)
  (case c34=>k_is)
  (case k34=>k_is)
  (case a35=>k_is)
  (case l35=>k_is)
  (case c35=>k_is)
  (case k35=>k_is)
  (case a36=>k_is)
  (case l36=>k_is)
  (case c36=>k_is)
  (case k36=>k_is)
  (case a37=>k_is)
  (case l37=>k_is)
  (case c37=>k_is)
  (case k37=>k_is)
  (case a38=>k_is)
  (case l38=>k_is)
  (case c38=>k_is)
  (case k38=>k_is)
  (case a39=>k_is)
  (case l39=>k_is)
  (case c39=>k_is)
  (case k39=>k_is)
  (case a40=>k_is)
  (case l40=>k_is)
  (case c40=>k_is)
  (case k40=>k_is)
  (case a41=>k_is)
  (case l41=>k_is)
  (case c41=>k_is)
  (case k41=>k_is)
  (case a42=>k_is)
  (case l42=>k_is)
  (case c42=>k_is)
  (case k42=>k_is)
  (case a43=>k_is)
  (case l43=>k_is)
  (case c43=>k_is)
  (case k43=>k_is)
  (case a44=>k_is)
  (case l44=>k_is)
  (case c44=>k_is)
  (case k44=>k_is)
  (case a45=>k_is)
  (case l45=>k_is)
  (case c45=>k_is)
  (case k45=>k_is)
  (case v0=>k_is)
  (case z0=>k_is)
  (case z1=>k_is)
  (case z2=>k_is)
  (case z3=>k_is)
  (case z4=>k_is)
  (case z5=>k_is)
  (case z6=>k_is)
  (case z7=>k_is)
  (case z8=>k_is)
  (case z9=>k_is)
  (case z10=>k_is)
  (case z11=>k_is)
  (case z12=>k_is)