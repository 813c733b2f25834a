import PyProof.Rows.All
import PyProof.FactsAll.NoneType_1
import Wide.All
import OpenK.AllK
import Wide.FinOn
import Lean
import PyProof.EqAt
import PyProof.EqKinds
import PyProof.TupleCall
import PyProof.StrWalks
import PyProof.StrLawsRepr
import PyProof.ListMulRoad
import PyProof.StrOps2
import PyProof.CallStr
import PyProof.CollectStr
import PyProof.TupleOfSeq
import PyProof.DictTable
import KE.KSortTup
import PyProof.MeetsStr
import PyProof.FactsAll.str_5
import PyProof.StrBlockG
import PyProof.AttrMiss
import PyProof.FactsAll.zip_1
import KE.KDictOf
import PyProof.AttrMissHeap
import KE.KTryMore
import KE.KRevIter
import PyProof.ListRange
import PyProof.FactsAll.dict_3
import PyProof.MeetsDict
import PyProof.FactsAll.dict_keyiterator
import PyProof.DictItems
import PyProof.DictValues
import KE.KPairComp
import PyProof.TupleOfStr
import PyProof.TupleOfGen
import PyProof.DictWalks
import PySem.Challenge.RW_pivotfold_k10_tables_folded
set_option genInjectivity false
set_option genSizeOf false
set_option Elab.async false
set_option linter.all false
set_option maxRecDepth 100000
noncomputable section
section
open PySem
abbrev q9:=Shared
abbrev q_:=PyData
abbrev p6:=Around
abbrev t6:=Program
abbrev v4:=List Str
abbrev u_:=FuncData
abbrev v5:=List Addr
abbrev u5:=List Expr
abbrev w6:=List Value
abbrev p7:=Option Int
abbrev w5:=List q_
abbrev v6:=Array Value
abbrev v_:=PySem.W.Frag
abbrev t_:=Option Value
abbrev p8:=List (Nat×Nat)
abbrev o7:=Nat->v5
abbrev y_:=List (Addr×Obj)
abbrev v7:=Array DictEntry
abbrev x_:=Str->t_
abbrev p_:=List (Option Nat)
abbrev z_:=Value->q9->Prop
end
section
open PySem PySem.Spec PyProof.Rows PySem.W PySem.Calls PySem.MeetsSeq PySem.MeetsSeq2 PySem.MeetsSeq3 PySem.SeqAt
abbrev aj:=@wpAny_bind
abbrev ak:=@List.length_map
abbrev ao:=@wpAny_pure
abbrev aq:=@Nat.le_refl
abbrev au:=@Nat.le_trans
abbrev az:=@List.mem_cons
abbrev aA:=@Heap.lt_size
abbrev aB:=@Bool.and_eq_true_iff
abbrev aC:=@List.mem_map
abbrev aD:=@List.map_cons
abbrev aF:=@decide_eq_true
abbrev aG:=@Heap.get?_push_of_some
abbrev aH:=@Heap.get?_push_size
abbrev aJ:=@Ne.symm
abbrev aK:=@List.length_append
abbrev aL:=@decide_eq_false
abbrev aM:=@List.not_mem_nil
abbrev aN:=@or_false
abbrev aO:=@List.size_toArray
abbrev aP:=@Nat.lt_of_lt_of_le
abbrev aQ:=@List.length_cons
abbrev aR:=@Bool.false_ne_true
abbrev aU:=@List.mem_append_right
abbrev aV:=@Nat.ne_of_lt
abbrev aW:=@Nat.zero_le
abbrev aX:=@of_decide_eq_true
abbrev aY:=@List.mem_singleton
abbrev aZ:=@if_false
abbrev a_:=@wpAny_mono
abbrev bc:=@Nat.lt_or_ge
abbrev bf:=@Nat.zero_add
abbrev bh:=@Nat.lt_irrefl
abbrev bj:=@List.getElem?_eq_getElem
abbrev bu:=@List.lookup_cons
abbrev bw:=@wpAny_loadPart'
abbrev bx:=@List.mem_cons_of_mem
abbrev bz:=@List.getElem?_map
abbrev bA:=@wpAny_field
abbrev bB:=@Option.map_eq_some_iff
abbrev bC:=@true_and
abbrev bD:=@List.mem_cons_self
abbrev bG:=@List.length_set
abbrev bH:=@List.mem_of_getElem?
abbrev bI:=@List.map_append
abbrev bJ:=@wpAny_call_entry
abbrev bK:=@Option.some.inj
abbrev bL:=@List.getElem?_eq_some_iff
abbrev bM:=@List.getElem?_set_ne
abbrev bN:=@List.all_eq_true
abbrev bO:=@Bool.false_eq_true
abbrev bQ:=@List.nodup_cons
abbrev bR:=@List.zip_cons_cons
abbrev bT:=@Heap.SameBut.update
abbrev bU:=@List.getElem?_eq_none
abbrev bV:=@if_true
abbrev bW:=@Nat.lt_of_le_of_lt
abbrev bY:=@List.mem_append
abbrev bZ:=@List.getElem?_set_self
abbrev b_:=@Heap.size_push
abbrev cj:=@Nat.ne_of_gt
abbrev cz:=@Heap.get?_update_other
abbrev cA:=@wpAny_newObj_type
abbrev cB:=@wpAny_callSpecial?_slot
abbrev cD:=@beq_eq_false_iff_ne
abbrev cG:=@wpAny_holding
abbrev cH:=@List.append_nil
abbrev cJ:=@congrArg
abbrev cL:=@Bool.and_eq_true
abbrev cM:=@Heap.get?_update_self
abbrev cN:=@List.map_nil
abbrev cP:=@wpAny_attempt
abbrev cQ:=@List.map_map
abbrev cR:=@Nat.sub_self
abbrev cT:=@wpAny_rule
abbrev cU:=@wpAny_seqItems
abbrev cV:=@List.getElem?_append_right
abbrev cW:=@List.getElem?_append_left
abbrev cX:=@List.nil_append
abbrev cY:=@List.length_nil
abbrev cZ:=@Option.bind_eq_some_iff
abbrev dg:=@PassesOwn.never
abbrev dh:=@List.mem_append_left
abbrev dm:=@eq_of_beq
abbrev dq:=@List.length_range
abbrev du:=@wpAny_isInstance
abbrev dw:=@Nat.add_le_add_left
abbrev dz:=@List.mem_range
abbrev dB:=@List.replicate_succ
abbrev dC:=@Nat.min_self
abbrev dD:=@List.length_zip
abbrev dF:=@List.getD_eq_getElem?_getD
abbrev dG:=@beq_self_eq_true
abbrev dH:=@wpAny_specialOf
abbrev dI:=@Calls.spliced_cons
abbrev dJ:=@wpAny_typeOf
abbrev dM:=@call_meets
abbrev dN:=@Nat.lt_succ_self
abbrev dO:=@wpAny_pyIter_tuple
abbrev dR:=@F.slot_zip_next
abbrev dU:=@Nat.sub_zero
abbrev dW:=@codeAny_builtin
abbrev dX:=@Around.under_plainId
abbrev dY:=@Option.bind_some
abbrev dZ:=@List.nodup_append
abbrev d_:=@Paired.length
abbrev eG:=@List.filterMap_cons
abbrev eN:=@Array.length_toList
abbrev eO:=@PyProof.Rows.callWith_type1
abbrev eQ:=@List.any_cons
abbrev eU:=@List.length_singleton
abbrev eV:=@Array.getElem?_toList
abbrev eX:=@List.find?_cons
abbrev eY:=@List.nodup_nil
abbrev eZ:=@call_meetsIn
abbrev e_:=@List.forIn_cons
abbrev fc:=@Nat.le_of_succ_le
abbrev fu:=@Nat.lt_succ_of_lt
abbrev fB:=@Obj.data_mapFields
abbrev fC:=@wpAny_setField_rec
abbrev fG:=@isSubtype_stop
abbrev fH:=@plainId_quiet
abbrev fJ:=@List.getElem?_cons_succ
abbrev fK:=@Nat.add_assoc
abbrev fL:=@eqIsQuiet_byValue
abbrev fM:=@wpAny_truthy_bool
abbrev fP:=@Calls.spliced_nil
abbrev fQ:=@List.length_take
abbrev fU:=@Int.toNat_natCast
abbrev fV:=@PyProof.Rows.slot_tuple_getitem
abbrev fW:=@Calls.callWith_builtin
abbrev fX:=@List.flatten_cons
abbrev fY:=@List.append_assoc
abbrev fZ:=@Nat.le_of_eq
abbrev gb:=@PySem.F.slot_dict_get
abbrev gf:=@List.forIn_nil
abbrev gk:=@wpAny_pyIter_list
abbrev gn:=@List.drop_zero
abbrev gw:=@List.take_length
abbrev gA:=@Nat.succ.inj
abbrev gB:=@Int.eq_ofNat_of_zero_le
abbrev gC:=@Nat.le_add_right
abbrev gF:=@Array.forIn_toList
abbrev gG:=@wpAny_forIn_list
abbrev gH:=@wpAny_standAt
abbrev gJ:=@wpAny_passesOwn
abbrev gK:=@Bool.eq_iff_iff
abbrev gM:=@PySem.mem_of_lookup
abbrev gO:=@Nat.min_le_right
abbrev gP:=@Nat.le_succ
abbrev gQ:=@PySem.F.plainAttrs_dict
abbrev gU:=@Option.map_some
abbrev gW:=@decide_eq_true_eq
abbrev gY:=@strLen_append
abbrev gZ:=@Array.getElem?_eq_getElem
abbrev g_:=@wpAny_updateSeq
abbrev h_:=@F.plain_extend_loop
abbrev ie:=@Array.Perm.refl
abbrev ig:=@F.slot_NoneType_hash
abbrev ik:=@F.slot_tuple_hash
abbrev il:=@SeqAt.eqAt_reads
abbrev ir:=@Nat.le_of_lt
abbrev iu:=@codeAny_mono
abbrev iw:=@wpAny_Call_Name_kw
abbrev iy:=@Option.isSome_iff_exists
abbrev iz:=@List.length_drop
abbrev iB:=@Bool.or_false
abbrev iC:=@Calls.evalArgs_plain
abbrev iD:=@PySem.F.entry_dict_get
abbrev iG:=@pushCells_keeps
abbrev iH:=@List.zip_nil_left
abbrev iI:=@List.getElem?_zip_eq_some
abbrev iJ:=@PySem.F.plainAttrs_list
abbrev iK:=@Obj.isFreed_of_fields
abbrev iM:=@wpAny_onRaise
abbrev iQ:=@F.entry_zip_next
abbrev iR:=@F.args_zip_next_1
abbrev iT:=@AutoSeq1.wpAny_loadPart'
abbrev iU:=@List.drop_eq_nil_iff
abbrev iV:=@plain_eq_loop
abbrev iW:=@listUpdate_at
abbrev iY:=@Bool.true_and
abbrev iZ:=@wpAny_notOrdered_dict
abbrev i_:=@F.slot_dict_keyiterator_next
abbrev j0:=@F.slot_dict_itemiterator_next
abbrev j4:=@F.plain_list_iadd
abbrev j5:=@F.slot_dict_valueiterator_next
abbrev j6:=@List.drop_length
abbrev j7:=@List.getElem?_range
abbrev j8:=@List.Perm.refl
abbrev j9:=@List.pairwise_cons
abbrev jb:=@wpAny_execs_cons
abbrev jc:=@assignInOrder_cons
abbrev jd:=@List.length_replicate
abbrev je:=@noFill_tuple_add
abbrev jf:=@PySem.F.slot_tuple_add
abbrev jg:=@PySem.F.entry_tuple_add
abbrev jh:=@PySem.F.args_tuple_add_2
abbrev ji:=@SeqAt.EqAt.str_str
abbrev jj:=@Nat.succ_le_succ
abbrev jk:=@Option.isSome_some
abbrev jl:=@wpAny_Call_method
abbrev jm:=@List.getElem_mem
abbrev jn:=@Bool.not_eq_true
abbrev jo:=@Obj.cls_mapFields
abbrev jq:=@wpAny_updateSeq_pair
abbrev jr:=@wpAny_pyIter_zip
abbrev jt:=@F.args_object_init_2
abbrev ju:=@Nat.add_le_add_right
abbrev jw:=@List.countP_cons
abbrev jx:=@List.map_snd_zip
abbrev jy:=@wpAny_raiseNew_none
abbrev jz:=@wpAny_pyIter_slot
abbrev jA:=@builtinLookup_eq_fast
abbrev jB:=@List.take_of_length_le
abbrev jC:=@Nat.mul_le_mul_left
abbrev jD:=@List.eraseIdx_cons_succ
abbrev jE:=@List.map_congr_left
abbrev jF:=@wpAny_callSpecialIfBoundUnlessNone?_slot
abbrev jG:=@F.entry_dict_keyiterator_next
abbrev jH:=@F.args_dict_keyiterator_next_1
abbrev jJ:=@F.entry_dict_itemiterator_next
abbrev jK:=@F.args_dict_itemiterator_next_1
abbrev jL:=@F.entry_dict_valueiterator_next
abbrev jM:=@F.args_dict_valueiterator_next_1
end
namespace L2
open PySem PySem.Spec PyProof.Rows PySem.W
def Ui:v4->w6->Bool
 | [],[]=>true
 | s::ss,.str z _::us=>s==z&&Ui ss us
 | _,_=>false
def A5g (h:Heap)(q:Str×v4):Bool:=match h.nsMap mainGlobals q.1 with
 | some (.ref a)=>match h.get? a with
  | some o=>match o.cls,o.data with
   | .type c,.seq its _=>c == "tuple" && decide (its.size<=sizeLine)&&Ui q.2 its.toList
   | _,_=>false
  | none=>false
 | _=>false
end L2
namespace K
open PySem PySem.W PyProof.Rows
def tcT:List (Str×v4):=[("ORDERS",[Str.ofString "seen",Str.ofString "rising"])]
abbrev pwT:=PySem.Challenge.pw_pivotfold_k10_tables_folded
abbrev rwT:=PySem.Challenge.rw_pivotfold_k10_tables_folded
def B1r:Stmt->Bool
 | .Assign [.Name n _] _ _=>!(["__name__", "ORDERS"]:v4).contains n
 | _=>true
def qT:t6:={ pwT with main:={ pwT.main with body:=pwT.main.body.filter B1r } }
abbrev xtT:q9->Bool:=fun s=>xlAt qT [] s&&recOk (RowW.records rwT.row.toRowW) s&&tcT.all (L2.A5g s.heap)
set_option maxHeartbeats 0 in
theorem B0a:LeftO rwT.row.prog qT ["ORDERS"] xtT Hook.none.obs Hook.none.val 20000:=fun w=>by kernel_rfl
end K
namespace L2
open PySem PySem.Spec PyProof.Rows
abbrev Key:=Sum Int Str
def X8:Key->Value->Bool
 | .inl k,v=>Value.isInt k v
 | .inr x,v=>Value.isStrOf x v
def Bp1 (w:World):Key->Int
 | .inl k=>hashInt k
 | .inr x=>hashStr w x
theorem Eg:∀{k:Key}{v:Value},X8 k v=true->(∃i t,k=Sum.inl i/\v=Value.int i t)\/(∃x t,k=Sum.inr x/\v=Value.str x t)
 | .inl i,v,h=>by
  obtain⟨t,e⟩:=Value.isInt_shape (k:=i) (v:=v) h;exact .inl ⟨i,t,rfl,e⟩
 | .inr x,v,h=>by
  obtain⟨t,e⟩:=Value.isStrOf_shape (x:=x) (v:=v) h;exact .inr ⟨x,t,rfl,e⟩
theorem A2l (i:Int)(t:Tok):X8 (.inl i) (.int i t)=true:=by simp[X8,Value.isInt]
theorem A2x (x:Str)(t:Tok):X8 (.inr x) (.str x t)=true:=by simp[X8,Value.isStrOf]
theorem Bx2 (a b:Int):decide ((Sum.inl a:Key)=Sum.inl b)=(a==b):=by
 by_cases e:a=b
 ·subst e;simp
 ·have h:¬ (Sum.inl a:Key)=Sum.inl b:=fun q=>e (Sum.inl.inj q)
  rw[aL h];exact(cD.mpr e).symm
theorem Bo1 (a b:Str):decide ((Sum.inr a:Key)=Sum.inr b)=decide (a=b):=by
 by_cases e:a=b
 ·subst e;simp
 ·have h:¬ (Sum.inr a:Key)=Sum.inr b:=fun q=>e (Sum.inr.inj q)
  rw[aL h,aL e]
theorem Bw1 (a:Int)(b:Str):decide ((Sum.inl a:Key)=Sum.inr b)=false:=aL (fun q=>nomatch q)
theorem Bx0 (a:Str)(b:Int):decide ((Sum.inr a:Key)=Sum.inl b)=false:=aL (fun q=>nomatch q)
def Gf (prog:t6)(w:World):PySem.KeyKind prog w Key where
 is:=X8
 hash:=Bp1 w
 inj:=fun v a b ha hb=>by
  rcases Eg ha with ⟨i,t,rfl,rfl⟩ | ⟨x,t,rfl,rfl⟩
  ·rcases Eg hb with ⟨j,u,rfl,e⟩ | ⟨y,u,rfl,e⟩
   ·injection e with e1 _;rw[e1]
   ·exact nomatch e
  ·rcases Eg hb with ⟨j,u,rfl,e⟩ | ⟨y,u,rfl,e⟩
   ·exact nomatch e
   ·injection e with e1 _;rw[e1]
 byValue:=fun k v h=>by
  rcases Eg h with ⟨i,t,rfl,rfl⟩ | ⟨x,t,rfl,rfl⟩ <;> rfl
 pyHash:=fun hv h=>by
  rcases Eg hv with ⟨i,t,rfl,rfl⟩ | ⟨x,t,rfl,rfl⟩
  ·exact wpAny_pyHash_int h
  ·exact wpAny_pyHash_str h
 eqBool:=fun hu hv h=>by
  rcases Eg hu with ⟨i,t,rfl,rfl⟩ | ⟨x,t,rfl,rfl⟩
  ·rcases Eg hv with ⟨j,u,rfl,rfl⟩ | ⟨y,u,rfl,rfl⟩
   ·rw[Bx2]at h;exact wpAny_eqBool_int h
   ·rw[Bw1]at h;exact SeqAt.EqAt.int_str i t y u _ _ _ _ h
  ·rcases Eg hv with ⟨j,u,rfl,rfl⟩ | ⟨y,u,rfl,rfl⟩
   ·rw[Bx0]at h;exact SeqAt.EqAt.str_int x t j u _ _ _ _ h
   ·rw[Bo1]at h;exact wpAny_eqBool_str h
 «strs»:=fun k x t v h=>by
  rcases Eg h with ⟨i,u,rfl,e⟩ | ⟨y,u,rfl,e⟩
  ·exact nomatch e
  ·injection e with e1 _
   subst e1
   cases v <;> rfl
theorem Mu (prog:t6)(w:World)(i:Int)(t:Tok):(Gf prog w).is (.inl i) (.int i t)=true:=A2l i t
theorem Nk (prog:t6)(w:World)(x:Str)(t:Tok):(Gf prog w).is (.inr x) (.str x t)=true:=A2x x t
noncomputable instance B2n:DecidableEq q_:=fun a b=>Classical.propDecidable (a=b)
mutual
def keyB:q_->Bool
 | .none=>true
 | .int _=>true
 | .str _=>true
 | .tuple ds=>Fz ds
 | _=>false
def Fz:w5->Bool
 | []=>true
 | d::ds=>keyB d&&Fz ds
end
mutual
theorem Jw:∀(x y:q_),keyB x=true->keyB y=true->(PyData.eqv x y=true↔x=y)
 | .none,y,_,hy=>by cases y <;> simp_all [PyData.eqv,keyB]
 | .int _,y,_,hy=>by cases y <;> simp_all [PyData.eqv,keyB]
 | .str _,y,_,hy=>by cases y <;> simp_all [PyData.eqv,keyB]
 | .tuple xs,.tuple ys,hx,hy=>by
  have:=Ai5 xs ys hx hy
  show PyData.eqvAll xs ys=true↔_
  rw[this]
  exact⟨fun e=>by rw[e],fun e=>by cases e;rfl⟩
 | .tuple xs,.none,hx,hy=>⟨(fun e=>nomatch e),fun e=>nomatch e⟩
 | .tuple xs,.int _,hx,hy=>⟨(fun e=>nomatch e),fun e=>nomatch e⟩
 | .tuple xs,.str _,hx,hy=>⟨(fun e=>nomatch e),fun e=>nomatch e⟩
theorem Ai5:∀(xs ys:w5),Fz xs=true->Fz ys=true->(PyData.eqvAll xs ys=true↔xs=ys)
 | [],[],_,_=>⟨fun _=>rfl,fun _=>rfl⟩
 | [],_::_,_,_=>⟨(fun e=>nomatch e),fun e=>nomatch e⟩
 | _::_,[],_,_=>⟨(fun e=>nomatch e),fun e=>nomatch e⟩
 | x::xs,y::ys,hx,hy=>by
  obtain⟨a,b⟩:=aB.mp (show (keyB x&&Fz xs)=true from hx)
  obtain⟨c,d⟩:=aB.mp (show (keyB y&&Fz ys)=true from hy)
  show (PyData.eqv x y&&PyData.eqvAll xs ys)=true↔_
  rw[aB,Jw x y a c,Ai5 xs ys b d,List.cons.injEq]
end
mutual
theorem V2 {h h':Heap}{d:Addr}{o:Obj}{es:v7}{ep:Nat}(ho:h.get? d=some o)(hd:o.data=.dict es ep)(hs:Heap.SameBut d h h'):∀(k:q_),keyB k=true->∀(v:Value) (as:v5),Reads h v k as->Reads h' v k as
 | .none,_,_,_,r=>by cases r;exact .none
 | .int i,_,_,_,r=>by cases r;exact .int _ _
 | .str x,_,_,_,r=>by cases r;exact .str _ _
 | .tuple ds,hk,_,_,r=>by
  cases r with
  | @tuple a o' vs n xs as h1 h2 h3 h4 =>
   refine .tuple ((hs.2 a ?_).trans h1) h2 h3 (S6 ho hd hs ds hk _ _ h4)
   intro e;rw[e,ho]at h1;cases h1;rw[hd]at h3;cases h3
theorem S6 {h h':Heap}{d:Addr}{o:Obj}{es:v7}{ep:Nat}(ho:h.get? d=some o)(hd:o.data=.dict es ep)(hs:Heap.SameBut d h h'):∀(ks:w5),Fz ks=true->∀(vs:w6) (as:v5),ReadsAll h vs ks as->ReadsAll h' vs ks as
 | [],_,_,_,r=>by cases r;exact .nil
 | k::ks,hk,_,_,r=>by
  obtain⟨a,b⟩:=aB.mp (show (keyB k&&Fz ks)=true from hk)
  cases r with
  | cons r1 r2=>exact .cons (V2 ho hd hs k a _ _ r1) (S6 ho hd hs ks b _ _ r2)
end
mutual
def Am7 (w:World):q_->Int
 | .none=>hashInt 0xFCA86420
 | .int i=>Bp1 w (.inl i)
 | .str x=>Bp1 w (.inr x)
 | .tuple ds=>reduceHash (Builtin.Tuple.tupleHashOf (Ly w ds))
 | _=>0
def Ly (w:World):w5->List Int
 | []=>[]
 | d::ds=>Am7 w d::Ly w ds
end
mutual
def Vd:q_->Nat
 | .tuple ds=>Mz ds+1
 | _=>1
def Mz:w5->Nat
 | []=>0
 | d::ds=>Vd d+Mz ds
end
section
variable {prog:t6}{w:World}
theorem Xv {A:p6}{E:z_}{s:q9}{Q:Int->q9->Prop}(h:Q (hashInt 0xFCA86420) { s with toks:=s.toks+1 }):wpAny (model prog w) A (pyHash .none) Q E s:=by
 have hT:s.TypeIs Value.none "NoneType" := rfl;unfold pyHash
 first | unfold pyHashByItsType | skip
 have hv:[Value.none].any Value.onHeap=false:=rfl
 refine aj ?_
 rw[cRoomFor,if_neg (by rw[hv];exact aR)];refine ao ?_
 refine aj (dH hT ig.lookup ?_)
 show wpAny _ _ (if (some (Value.builtin "NoneType.__hash__")==some Value.none)=true then _ else _) Q E s
 rw[if_neg (by rw[beq_builtin_none];exact aR)]
 refine aj (dH hT ig.lookup ?_)
 show wpAny _ _ (callSpecialIfBoundUnlessNone? .none "__hash__" _ >>= _) Q E s
 refine aj (jF hT ig
  (bJ ig hT F.entry_NoneType_hash
   (show wpAny _ _ (do ret (<- mkInt 0xFCA86420)) _ _ s from wpAny_ret_mkInt ?_) (F.args_NoneType_hash_1 _)))
 show wpAny _ _ (if (decide (-(2:Int) ^ 63<=0xFCA86420)&&decide ((0xFCA86420:Int)<2 ^ 63))=true then _ else _) Q E _
 rw[if_pos (by decide)]
 exact ao h
theorem A4a:∀(n:Nat) (d:q_),d.depth<=n->keyB d=true->∀(A:p6) (E:z_) (s:q9) (v:Value) (as:v5) (Q:Int->q9->Prop),A.units+n<cLine->Reads s.heap v d as ->
 Q (Am7 w d) { s with toks:=s.toks+Vd d }->wpAny (model prog w) A (pyHash v) Q E s:=by
 intro n
 induction n with
 | zero =>
  intro d hd hk A E s v as Q hu r h
  cases r with
  | none=>exact Xv h
  | int i t=>exact(Gf prog w).pyHash (k:=.inl i) (v:=.int i t) (Mu prog w i t) h
  | str x t=>exact(Gf prog w).pyHash (k:=.inr x) (v:=.str x t) (Nk prog w x t) h
  | tuple=>exact absurd hd (by simp[PyData.depth])
  | bool b=>cases hk
  | list=>cases hk
  | dict=>cases hk
 | succ n ih =>
  intro d hd hk A E s v as Q hu r h
  cases r with
  | none=>exact Xv h
  | int i t=>exact(Gf prog w).pyHash (k:=.inl i) (v:=.int i t) (Mu prog w i t) h
  | str x t=>exact(Gf prog w).pyHash (k:=.inr x) (v:=.str x t) (Nk prog w x t) h
  | bool b=>cases hk
  | list=>cases hk
  | dict=>cases hk
  | @tuple a o items n' ds as ho hc hdt hi =>
   have hT:s.TypeIs (.ref a) "tuple" := ⟨o,ho,hc⟩
   have hds:PyData.depthAll ds<=n:=Nat.le_of_succ_le_succ (show PyData.depthAll ds+1<=n+1 from hd)
   have hks:Fz ds=true:=hk;unfold pyHash
   first | unfold pyHashByItsType | skip
   first | refine aj (wpAny_cRoomFor_or (.inr (bW (gC _ _) hu)) ?_) | skip
   refine aj (dH hT ik.lookup ?_)
   show wpAny _ _ (if (some (Value.builtin "tuple.__hash__")==some Value.none)=true then _ else _) Q E s
   rw[if_neg (by rw[beq_builtin_none];exact aR)]
   refine aj (dH hT ik.lookup ?_)
   show wpAny _ _ (callSpecialIfBoundUnlessNone? (.ref a) "__hash__" _ >>= _) Q E s
   refine aj (jF hT ik (bJ ik hT F.entry_tuple_hash ?_ (F.args_tuple_hash_1 _)))
   show wpAny _ _ (Builtin.Tuple.tupleItemsOf (.ref a) >>= _) _ _ s
   refine aj (wpAny_tupleItemsOf ho hdt ?_)
   refine aj ?_
   rw[<- gF]
   refine gG _
    (fun rest (b:Array Int) s'=>∃done left bs,Ly w ds=done++Ly w left/\ReadsAll s.heap rest left bs/\Fz left=true/\PyData.depthAll left<=n/\b.toList=done/\∃k,k+Mz left=Mz ds/\s'={ s with toks:=s.toks+k })
    _ ?_ ?_ _ _ ⟨[],ds,_,rfl,hi,hks,hds,rfl,0,bf _,rfl⟩
   ·rintro x rest b s' ⟨done,left,bs,e1,hl,hkl,hdl,hb,k,ek,rfl⟩
    cases hl with
    | @cons _ _ d' ds' as1 bs1 h1 hl' =>
     obtain⟨k1,k2⟩:=aB.mp (show (keyB d'&&Fz ds')=true from hkl)
     have dd:d'.depth<=n/\PyData.depthAll ds'<=n:=by
      have:max d'.depth (PyData.depthAll ds')<=n:=hdl;omega
     refine aj (ih d' dd.1 k1 _ _ _ _ _ _ (by first | exact bW (by simp;omega) hu | (have:=hu;simp at *;omega)) h1 ?_)
     first
      | exact ao ⟨done++[Am7 w d'],ds',_,by rw[e1];simp[Ly],hl',k2,dd.2,by simp[hb],k+Vd d',by rw[<- ek];simp[Mz,fK],by simp[fK]⟩
      | exact aj (ao (ao ⟨done++[Am7 w d'],ds',_,by rw[e1];simp[Ly],hl',k2,dd.2,by simp[hb],k+Vd d',by rw[<- ek];simp[Mz,fK],by simp[fK]⟩))
   ·rintro b s' ⟨done,left,bs,e1,hl,hkl,hdl,hb,k,ek,rfl⟩
    cases hl
    have e2:Ly w ds=done:=by rw[e1];simp[Ly]
    have e3:k=Mz ds:=ek
    have h:Q (reduceHash (Builtin.Tuple.tupleHashOf (Ly w ds))) { s with toks:=s.toks+(Mz ds+1) }:=h
    rw[e2]at h;subst e3
    show wpAny _ _ (retInt (Builtin.Tuple.tupleHashOf b.toList)) _ _ _
    rw[hb]
    refine wpAny_ret_mkInt ?_
    show wpAny _ _ (if (decide (-(2:Int) ^ 63<=Builtin.Tuple.tupleHashOf done)&&decide (Builtin.Tuple.tupleHashOf done<2 ^ 63))=true then _ else _) Q E _
    unfold reduceHash at h
    by_cases hr:(decide (-(2:Int) ^ 63<=Builtin.Tuple.tupleHashOf done)&&decide (Builtin.Tuple.tupleHashOf done<2 ^ 63))=true
    ·rw[if_pos hr]
     rw[if_pos hr]at h
     exact ao (by simpa[fK] using h)
    ·rw[if_neg hr]
     rw[if_neg hr]at h
     exact aj (cT (ao (by simpa[fK] using h)))
theorem Aq8:∀(m:Nat) (d:q_),d.depth<=m->keyB d=true->∀(A:p6) (E:z_) (s:q9) (v:Value) (as:v5) (Q:Bool->q9->Prop),Reads s.heap v d as->Q true s->wpAny (model prog w) A (eqIsQuiet (m+1) v) Q E s:=by
 intro m
 induction m with
 | zero =>
  intro d hd hk A E s v as Q r h
  cases r with
  | none=>rw[fL _ rfl];exact ao h
  | int i t=>rw[fL _ rfl];exact ao h
  | str x t=>rw[fL _ rfl];exact ao h
  | tuple=>exact absurd hd (by simp[PyData.depth])
  | bool b=>cases hk
  | list=>cases hk
  | dict=>cases hk
 | succ n ih =>
  intro d hd hk A E s v as Q r h
  cases r with
  | none=>rw[fL _ rfl];exact ao h
  | int i t=>rw[fL _ rfl];exact ao h
  | str x t=>rw[fL _ rfl];exact ao h
  | bool b=>cases hk
  | list=>cases hk
  | dict=>cases hk
  | @tuple a o items n' ds as ho hc hdt hi =>
   have hT:s.TypeIs (.ref a) "tuple" := ⟨o,ho,hc⟩
   have hds:PyData.depthAll ds<=n:=Nat.le_of_succ_le_succ (show PyData.depthAll ds+1<=n+1 from hd)
   have hks:Fz ds=true:=hk;unfold eqIsQuiet
   refine aj (dH hT F.slot_tuple_eq.lookup ?_)
   show wpAny _ _ (isInstance (.ref a) (.type "tuple") >>= _) _ _ s
   refine aj (du hT isSubtype_tuple_tuple ?_)
   simp only[Bool.not_true,bO,aZ]
   refine aj (cU ho hdt ?_)
   refine aj ?_
   show wpAny _ _ (forIn items _ _) _ _ s
   rw[<- gF]
   refine gG _ (fun rest r s'=>r.1=none/\s'=s/\∃left bs,ReadsAll s.heap rest left bs/\Fz left=true/\PyData.depthAll left<=n) _ ?_ ?_ _ _ ⟨rfl,rfl,ds,_,hi,hks,hds⟩
   ·rintro v rest r s' ⟨hr,rfl,left,bs,hl,hkl,hdl⟩
    cases hl with
    | @cons _ _ d' ds' as1 bs1 h1 hl' =>
     obtain⟨k1,k2⟩:=aB.mp (show (keyB d'&&Fz ds')=true from hkl)
     have dd:d'.depth<=n/\PyData.depthAll ds'<=n:=by
      have:max d'.depth (PyData.depthAll ds')<=n:=hdl;omega
     refine aj (ih d' dd.1 k1 _ _ _ _ _ _ h1 ?_)
     simp only[Bool.not_true,bO,aZ];exact ao ⟨rfl,rfl,ds',_,hl',k2,dd.2⟩
   ·rintro⟨r1,r2⟩ s' ⟨hr,rfl,_⟩
    simp only at hr;subst hr;exact ao h
def Br9 (h:Heap)(k:q_)(a:Addr):Prop:=(keyB k=true/\k.canLay0=true/\k.depth<=7)/\∃as,Reads h (.ref a) k as
def Ck (prog:t6)(w:World):HeapKind prog w q_ where
 is:=Br9
 hash:=Am7 w
 draws:=Vd
 room:=fun A=>A.units+8<cLine
 inj:=fun hx hy=>let ⟨⟨_,l,_⟩,_,r⟩:=hx;let ⟨_,_,r'⟩:=hy; SeqAt.Reads.unique _ _ _ _ _ l r r'
 keeps:=fun x ho hd hs=>let ⟨c,_,r⟩:=x; ⟨c,_,V2 ho hd hs _ c.1 _ _ r⟩
 pyHash:=fun hu hk h=>let ⟨c,_,r⟩:=hk; A4a 7 _ c.2.2 c.1 _ _ _ _ _ _ (bW (dw (by decide) _) hu) r h
 eqBool:=fun {A E s x y a b Q} hu hx hy h=>by
  obtain⟨c,_,r⟩:=hx;obtain⟨d,_,r'⟩:=hy
  refine il x y A s _ _ _ _ r r' c.2.1 d.2.1 (bW (dw (au (Nat.min_le_left _ _) (au c.2.2 (by decide))) _) hu) prog w E Q ?_
  have e:PyData.eqv x y=decide (x=y):=by
   have:=Jw x y c.1 d.1
   by_cases z:x=y
   ·rw[aF z];exact this.mpr z
   ·rw[aL z]
    cases q:PyData.eqv x y with
    | false=>rfl
    | true=>exact absurd (this.mp q) z
  rw[e];exact h
 quiet:=fun hk h=>let ⟨c,_,r⟩:=hk; Aq8 7 _ c.2.2 c.1 _ _ _ _ _ _ r h
end
inductive V where
 | non | bl (b:Bool) | int (i:Int) | str (x:Str) | byt (b:Array UInt8) | flt (b:UInt64) | ref (a:Addr) | ty (n:String)
 deriving DecidableEq
abbrev m7:=List V
@[simp] theorem V.bl.injEq (a b:Bool):(V.bl a=V.bl b)=(a=b):=propext ⟨fun h=>by cases h;rfl,fun h=>by rw[h]⟩
@[simp] theorem V.int.injEq (a b:Int):(V.int a=V.int b)=(a=b):=propext ⟨fun h=>by cases h;rfl,fun h=>by rw[h]⟩
@[simp] theorem V.str.injEq (a b:Str):(V.str a=V.str b)=(a=b):=propext ⟨fun h=>by cases h;rfl,fun h=>by rw[h]⟩
@[simp] theorem V.byt.injEq (a b:Array UInt8):(V.byt a=V.byt b)=(a=b):=propext ⟨fun h=>by cases h;rfl,fun h=>by rw[h]⟩
@[simp] theorem V.ref.injEq (a b:Addr):(V.ref a=V.ref b)=(a=b):=propext ⟨fun h=>by cases h;rfl,fun h=>by rw[h]⟩
def RelV:V->Value->Prop
 | .non,u=>u=Value.none
 | .bl b,u=>u=Value.bool b
 | .int i,u=>∃t,u=Value.int i t
 | .str x,u=>∃t,u=Value.str x t
 | .byt b,u=>∃t,u=Value.bytes b t
 | .flt b,u=>∃t,u=Value.float b t
 | .ref a,u=>u=Value.ref a
 | .ty n,u=>u=Value.type n
abbrev Vals:m7->w6->Prop:=Paired RelV
theorem Vals.length {xs:m7}{us:w6}(r:Vals xs us):xs.length=us.length:=d_ r
theorem Vals.get:∀{xs:m7}{us:w6}{i:Nat}{x:V},Vals xs us->xs[i]?=some x->∃u,us[i]?=some u/\RelV x u
 | _,_,_,_,.nil,e=>by simp at e
 | _,_,0,_,.cons r _,e=>by simp at e;subst e;exact⟨_,rfl,r⟩
 | _,_,i+1,x,.cons _ t,e=>by
  obtain⟨u,h1,h2⟩:=Vals.get (i:=i) (x:=x) t (by simpa using e)
  exact⟨u,by simpa using h1,h2⟩
theorem Vals.set {x:V}{u:Value}(r:RelV x u):∀{xs:m7}{us:w6}(i:Nat),Vals xs us->Vals (xs.set i x) (us.set i u)
 | _,_,_,.nil=>.nil
 | _,_,0,.cons _ t=>.cons r t
 | _,_,i+1,.cons q t=>.cons q (Vals.set r i t)
theorem Vals.append:∀{xs ys:m7}{us ws:w6},Vals xs us->Vals ys ws->Vals (xs++ys) (us++ws)
 | _,_,_,_,.nil,s=>s
 | _,_,_,_,.cons r t,s=>.cons r (Vals.append t s)
theorem Vals.take:∀{xs:m7}{us:w6}(n:Nat),Vals xs us->Vals (xs.take n) (us.take n)
 | _,_,0,_=>.nil
 | _,_,_+1,.nil=>.nil
 | _,_,n+1,.cons r t=>.cons r (Vals.take n t)
theorem Vals.drop:∀{xs:m7}{us:w6}(n:Nat),Vals xs us->Vals (xs.drop n) (us.drop n)
 | _,_,0,r=>r
 | _,_,_+1,.nil=>.nil
 | _,_,n+1,.cons _ t=>Vals.drop n t
def RelO:Option V->t_->Prop
 | some v,some u=>RelV v u
 | none,none=>True
 | _,_=>False
def KV {κ:Type}:List (κ×V)->List (κ×Value)->Prop:=Paired fun (p:κ×V) (q:κ×Value)=>p.1=q.1/\RelV p.2 q.2
def kV:Key->V
 | .inl i=>.int i
 | .inr x=>.str x
inductive HO where
 | lst (xs:m7)
 | tup (xs:m7)
 | dK (kvs:List (Key×V)) | dT (kvs:List (PyData×V))
 | set (S:Int->Bool) (n:Nat)
 | ins (C dx:Addr) (fs:List (Str×V))
 | own (x:Addr)
 | xd (fs:List (Str×V))
 | met (f x:Addr)
 | rng (lo hi:Int)
 | frz (o:Obj) (u:HO)
 | tbl (q:Str)
 | ext (φ:Heap->Prop)
abbrev Hp:=Addr->Option HO
def upd (H:Hp)(a:Addr)(o:HO):Hp:=fun b=>if b=a then some o else H b
theorem Bb {H:Hp}{a:Addr}{o:HO}:upd H a o a=some o:=by unfold upd;rw[if_pos rfl]
theorem Ak {H:Hp}{a b:Addr}{o:HO}(h:b≠a):upd H a o b=H b:=by unfold upd;rw[if_neg h]
theorem A7c {H:Hp}{a b:Addr}{o u:HO}(h:H a=some o)(h':H b=some u)(d:o≠u):a≠b:=by
 intro e;subst e;rw[h]at h';exact d (bK h')
theorem Br {H:Hp}{a b:Addr}{o:HO}(h:H a=some o)(h':H b=none):a≠b:=by
 intro e;subst e;rw[h]at h';cases h'
mutual
def KTr (H:Hp):q_->V->Prop
 | .none,v=>v=.non
 | .int i,v=>v=.int i
 | .str x,v=>v=.str x
 | .tuple ds,v=>∃a vs,v=.ref a/\H a=some (.tup vs)/\KTrL H ds vs
 | _,_=>False
def KTrL (H:Hp):w5->m7->Prop
 | [],vs=>vs=[]
 | d::ds,vs=>∃v r,vs=v::r/\KTr H d v/\KTrL H ds r
end
mutual
theorem KTr.stay {H H':Hp}(ht:∀b xs,H b=some (.tup xs)->H' b=some (.tup xs)):∀{d:q_}{v:V},KTr H d v->KTr H' d v
 | .none,_,h=>h
 | .int _,_,h=>h
 | .str _,_,h=>h
 | .tuple _,_,⟨a,vs,e,ha,t⟩=>⟨a,vs,e,ht _ _ ha,KTrL.stay ht t⟩
theorem KTrL.stay {H H':Hp}(ht:∀b xs,H b=some (.tup xs)->H' b=some (.tup xs)):∀{ds:w5}{vs:m7},KTrL H ds vs->KTrL H' ds vs
 | [],_,h=>h
 | _::_,_,⟨v,r,e,h,t⟩=>⟨v,r,e,KTr.stay ht h,KTrL.stay ht t⟩
end
def Bm9 (k:q_):Prop:=keyB k=true/\k.canLay0=true/\k.depth<=7
def KAt (H:Hp)(k:q_)(a:Addr):Prop:=Bm9 k/\KTr H k (.ref a)
theorem KAt.stay {H H':Hp}{k:q_}{a:Addr}(ht:∀b xs,H b=some (.tup xs)->H' b=some (.tup xs))(h:KAt H k a):KAt H' k a:=⟨h.1,KTr.stay ht h.2⟩
def zZ (h:Heap)(a:Addr)(items:v6):Prop:=∃o,h.get? a=some o/\o.cls=.type "tuple" /\ (∃n,o.data=.seq items n)/\o.dict=none
theorem zZ.tup {h:Heap}{a:Addr}{items:v6}(x:zZ h a items):IsTup h a items:=let ⟨o,h1,h2,h3,_⟩:=x; ⟨o,h1,h2,h3⟩
theorem zZ.lt {h:Heap}{a:Addr}{items:v6}(x:zZ h a items):a<h.objs.size:=x.tup.lt
theorem zZ.new (h:Heap)(items:v6):zZ (h.push { cls:=.type "tuple",data:=.seq items }) h.objs.size items:=⟨_,aH _ rfl,rfl,⟨_,rfl⟩,rfl⟩
section
variable (P:t6)(w:World)
def zG (H:Hp)(h:Heap)(a:Addr):HO->Prop
 | .lst xs=>xs.length<=sizeLine/\∃(its:w6) (n:Nat),Vals xs its/\h.get? a=some { cls:=.type "list",data:=.seq its.toArray n }
 | .tup xs=>xs.length<=sizeLine/\∃its:w6,Vals xs its/\zZ h a its.toArray
 | .dK kvs=>kvs.length<=sizeLine/\(a==sysModules)=false/\∃vs,KV kvs vs/\h.DictOf (Gf P w) a vs
 | .dT kvs=>kvs.length<=sizeLine/\(a==sysModules)=false/\∃xs:List (PyData×Addr×Value),
  Paired (fun (p:PyData×V) (q:PyData×Addr×Value)=>p.1=q.1/\KAt H p.1 q.2.1/\RelV p.2 q.2.2) kvs xs /\
  ∃o es ep,h.get? a=some o/\o.ExactDict/\o.data=.dict es ep/\es.toList=xs.map (entryOfKey (Ck P w))/\(xs.map (·.1)).Nodup
 | .set S n=>h.SetOf (intKind P w) a S n
 | .ins C dx fs=>H dx=some (.own a)/\fs.length<=1000/\dx≠a/\h.get? a=some (PySem.W.instObj C dx) /\
  ∃mA,h.Ns1 dx mA/\(∀f,RelO (fs.lookup f) (mA f))/\PySem.Within mA (fs.map (·.1))
 | .own _=>∃o,h.get? a=some o
 | .xd fs=>∃mA,h.Ns1 a mA/\∀f,RelO (fs.lookup f) (mA f)
 | .rng lo hi=>∃t u v,h.get? a=some { cls:=.type "range",data:=.fields #[.int lo t,.int hi u,.int 1 v] }
 | .frz o u=>h.get? a=some o/\zG H h a u
 | .tbl q=>∃ps:v6,h.get? a=some { cls:=.none,data:=.fields ps }/\TriplesOk ps.toList/\∀pos cv,codeAmong pos ps.toList=some cv->∃c o vs t,cv=.ref c/\H c=some (.frz o (.own 0))/\o.data=.fields vs/\vs[1]?=some (.str q t)
 | .met f x=>h.get? a=some (PySem.W.methodObj (.ref f) (.ref x))
 | .ext φ=>φ h/\(∃o,h.get? a=some o)/\∀h1 h2:Heap,φ h1->(∀o,h1.get? a=some o->h2.get? a=some o)->φ h2
def HOk (H:Hp)(h:Heap):Prop:=∀a o,H a=some o->zG P w H h a o
end
section
variable {P:t6}{w:World}{H H':Hp}{h h':Heap}{a:Addr}{o:HO}
theorem zG.lt (x:zG P w H h a o):a<h.objs.size:=by
 cases o with
 | lst xs=>obtain⟨_,_,_,_,e⟩:=x;exact aA e
 | tup xs=>obtain⟨_,_,_,p⟩:=x;exact p.lt
 | dK kvs=>obtain⟨_,_,_,_,o,_,_,e,_⟩:=x;exact aA e
 | dT kvs=>obtain⟨_,_,_,_,o,_,_,e,_⟩:=x;exact aA e
 | set S n=>obtain⟨o,_,_,_,e,_⟩:=x;exact aA e
 | ins C dx fs=>obtain⟨_,_,_,e,_⟩:=x;exact aA e
 | own y=>obtain⟨_,e⟩:=x;exact aA e
 | xd fs=>obtain⟨_,⟨_,_,_,e,_⟩,_⟩:=x;exact aA e
 | rng lo hi=>obtain⟨_,_,_,e⟩:=x;exact aA e
 | frz ob u=>obtain⟨e,_⟩:=x;exact aA e
 | tbl q=>obtain⟨_,e,_⟩:=x;exact aA e
 | met f y=>exact aA (show h.get? a=some _ from x)
 | ext φ=>obtain⟨_,⟨_,e⟩,_⟩:=x;exact aA e
theorem Paired.mapP {α β:Type}{F G:α->β->Prop}:∀{l₁:List α}{l₂:List β},Paired F l₁ l₂->(∀a b,F a b->G a b)->Paired G l₁ l₂
 | _,_,.nil,_=>.nil
 | _,_,.cons r t,f=>.cons (f _ _ r) (Paired.mapP t f)
theorem zG.stay (x:zG P w H h a o)(k:∀b u,(b=a\/H b=some (.own a))->h.get? b=some u->h'.get? b=some u)
 (ho:∀b,H b=some (.own a)->H' b=some (.own a)) (ht:∀b xs,H b=some (.tup xs)->H' b=some (.tup xs)) (hz:∀b o u,H b=some (.frz o u)->H' b=some (.frz o u):=by exact fun _ _ _ q=>q):zG P w H' h' a o:=by
 induction o with
 | lst xs=>obtain⟨z,its,n,r,e⟩:=x;exact⟨z,its,n,r,k _ _ (.inl rfl) e⟩
 | tup xs=>obtain⟨z,its,r,ob,e,c⟩:=x;exact⟨z,its,r,ob,k _ _ (.inl rfl) e,c⟩
 | dK kvs=>obtain⟨z,y,vs,r,ob,es,ep,e,c⟩:=x;exact⟨z,y,vs,r,ob,es,ep,k _ _ (.inl rfl) e,c⟩
 | dT kvs =>
  obtain⟨z,y,xs,r,ob,es,ep,e,c⟩:=x
  exact⟨z,y,xs,Paired.mapP r fun p q z=>⟨z.1,z.2.1.stay ht,z.2.2⟩,ob,es,ep,k _ _ (.inl rfl) e,c⟩
 | set S n=>obtain⟨ob,es,ep,t,e,c⟩:=x;exact⟨ob,es,ep,t,k _ _ (.inl rfl) e,c⟩
 | ins C dx fs =>
  obtain⟨d,z,ne,e,mA,⟨od,es,ep,e2,c⟩,r⟩:=x;exact⟨ho _ d,z,ne,k _ _ (.inl rfl) e,mA,⟨od,es,ep,k _ _ (.inr d) e2,c⟩,r⟩
 | own y=>obtain⟨ob,e⟩:=x;exact⟨ob,k _ _ (.inl rfl) e⟩
 | xd fs=>obtain⟨mA,⟨od,es,ep,e,c⟩,r⟩:=x;exact⟨mA,⟨od,es,ep,k _ _ (.inl rfl) e,c⟩,r⟩
 | rng lo hi=>obtain⟨t,u,v,e⟩:=x;exact⟨t,u,v,k _ _ (.inl rfl) e⟩
 | frz ob u ih=>obtain⟨e,q⟩:=x;exact⟨k _ _ (.inl rfl) e,ih q⟩
 | tbl q =>
  obtain⟨ps,e,t,f⟩:=x
  exact⟨ps,k a _ (.inl rfl) e,t,fun pos cv z=>let ⟨c,ob,vs,tk,e1,e2,e3⟩:=f pos cv z; ⟨c,ob,vs,tk,e1,hz _ _ _ e2,e3⟩⟩
 | met f y =>
  have e:h.get? a=some (PySem.W.methodObj (.ref f) (.ref y)):=x
  show h'.get? a=some (PySem.W.methodObj (.ref f) (.ref y))
  exact k a _ (.inl rfl) e
 | ext φ=>obtain⟨p,⟨o,e⟩,st⟩:=x;exact⟨st _ _ p fun o q=>k _ _ (.inl rfl) q,⟨o,k _ _ (.inl rfl) e⟩,st⟩
theorem HOk.lt (x:HOk P w H h)(e:H a=some o):a<h.objs.size:=(x a o e).lt
theorem HOk.fresh (x:HOk P w H h)(e:h.objs.size<=a):H a=none:=by
 cases q:H a with
 | none=>rfl
 | some u=>exact absurd (aP (x.lt q) e) (bh _)
theorem HOk.kept (x:HOk P w H h)(k:∀b u,h.get? b=some u->h'.get? b=some u):HOk P w H h':=fun a o e =>
 (x a o e).stay (fun b u _ q=>k b u q) (fun _ q=>q) fun _ _ q=>q
theorem HOk.laid (x:HOk P w H h)(k:∀b u,h.get? b=some u->h'.get? b=some u)(hp:h.objs.size<=a)(new:zG P w (upd H a o) h' a o):HOk P w (upd H a o) h':=fun b u e=>by
 have hn:=x.fresh hp
 by_cases hb:b=a
 ·subst hb;rw[Bb]at e;cases e;exact new
 ·rw[Ak hb]at e
  exact(x b u e).stay (fun c v _ q=>k c v q) (fun c q=>by rw[Ak (Br q hn)];exact q) (fun c xs q=>by rw[Ak (Br q hn)];exact q) fun c ob xs q=>by rw[Ak (Br q hn)];exact q
end
def Rd (H:Hp)(a:Addr)(u:HO):Prop:=H a=some u\/∃o,H a=some (.frz o u)
theorem Rd.ok {P:t6}{w:World}{H:Hp}{h:Heap}{a:Addr}{u:HO}(r:Rd H a u)(x:HOk P w H h):zG P w H h a u:=by
 rcases r with r | ⟨o,r⟩
 ·exact x a u r
 ·obtain⟨_,q⟩:=x a _ r
  exact q
def Mut:Option HO->Prop
 | some (.lst _)=>True
 | some (.dK _)=>True
 | some (.dT _)=>True
 | some (.set _ _)=>True
 | some (.ins _ _ _)=>True
 | some (.ext _)=>True
 | _=>False
section
variable {P:t6}{w:World}{H:Hp}{h h':Heap}{x e:Addr}{o':HO}
theorem HOk.write (ok:HOk P w H h)(mu:Mut (H x))(he:e=x\/H e=some (.own x))(k:∀b u,b≠e->h.get? b=some u->h'.get? b=some u)(heo:∃u,h'.get? e=some u)
 (new:zG P w (upd H x o') h' x o'):HOk P w (upd H x o') h':=fun b u q=>by
 have nown:∀c y,H c=some (.own y)->c≠x:=fun c y r z=>by subst z;rw[r]at mu;exact mu
 have ntup:∀c xs,H c=some (.tup xs)->c≠x:=fun c xs r z=>by subst z;rw[r]at mu;exact mu
 have nfrz:∀c ob xs,H c=some (.frz ob xs)->c≠x:=fun c ob xs r z=>by subst z;rw[r]at mu;exact mu
 by_cases hb:b=x
 ·subst hb;rw[Bb]at q;cases q;exact new
 ·rw[Ak hb]at q
  by_cases hbe:b=e
  ·have q':H b=some (.own x):=by
    rcases he with z | z
    ·exact absurd (hbe.trans z) hb
    ·rw[hbe];exact z
   rw[q]at q';cases q';obtain⟨v,hv⟩:=heo
   exact⟨v,by rw[hbe];exact hv⟩
  ·refine (ok b u q).stay (fun c v hc r=>k c v ?_ r) (fun c r=>by rw[Ak (nown c b r)];exact r) (fun c xs r=>by rw[Ak (ntup c xs r)];exact r) fun c ob xs r=>by rw[Ak (nfrz c ob xs r)];exact r
   rcases hc with rfl | hc
   ·exact hbe
   ·rintro rfl
    rcases he with z | z
    ·exact nown c b hc z
    ·rw[hc]at z;cases z;exact hb rfl
end
structure Un (fs ex:v5) (H H':Hp) (h h':Heap):Prop where
 keep:∀b o,h.get? b=some o->H b=none->b∉fs->b∉ex->h'.get? b=some o
 slot:∀b o,h.get? b=some o->H b=none->b∈fs->b∉ex->∃sl,h'.get? b=some { o with slots:=sl }
 free:∀b o,h.get? b=some o->H b=none->b∉ex->H' b=none
 there:∀b o,h.get? b=some o->b∉ex->∃o',h'.get? b=some o'
 tups:∀b xs,H b=some (.tup xs)->H' b=some (.tup xs)
 frzs:∀b o u,H b=some (.frz o u)->H' b=some (.frz o u)
 tbls:∀b q,H b=some (.tbl q)->H' b=some (.tbl q)
section
variable {fs fs' ex ex':v5}{H H1 H2:Hp}{h h1 h2 h':Heap}{a x e:Addr}{o:HO}
theorem Un.any (u:Un fs ex H H1 h h1){b:Addr}{ob:Obj}(q:h.get? b=some ob)(n:H b=none)(hx:b∉ex):∃sl,h1.get? b=some { ob with slots:=sl }:=by
 by_cases hb:b∈fs
 ·exact u.slot b ob q n hb hx
 ·exact⟨ob.slots,u.keep b ob q n hb hx⟩
theorem Un.kept (k:∀b u,h.get? b=some u->h'.get? b=some u):Un fs ex H H h h' :=
 ⟨fun b ob q _ _ _=>k b ob q,fun b ob q _ _ _=>⟨ob.slots,k b ob q⟩,fun _ _ _ n _=>n,fun b ob q _=>⟨ob,k b ob q⟩,fun _ _ q=>q,fun _ _ _ q=>q,fun _ _ q=>q⟩
theorem Un.refl:Un fs ex H H h h:=Un.kept fun _ _ q=>q
theorem Un.laid (k:∀b u,h.get? b=some u->h'.get? b=some u)(hp:h.objs.size<=a)(hn:H a=none):Un fs ex H (upd H a o) h h' where
 keep:=fun b u q _ _ _=>k b u q
 slot:=fun b u q _ _ _=>⟨u.slots,k b u q⟩
 free:=fun b u q n _=>by rw[Ak (aV (aP (aA q) hp))];exact n
 there:=fun b u q _=>⟨u,k b u q⟩
 tups:=fun b xs q=>by rw[Ak (Br q hn)];exact q
 frzs:=fun b u xs q=>by rw[Ak (Br q hn)];exact q
 tbls:=fun b ps q=>by rw[Ak (Br q hn)];exact q
theorem Un.write (mu:Mut (H x))(he:e=x\/H e=some (.own x))(k:∀b u,b≠e->h.get? b=some u->h'.get? b=some u)(heo:∃u,h'.get? e=some u):Un fs ex H (upd H x o) h h':=by
 have hx:∀b,H b=none->b≠x:=fun b n z=>by subst z;rw[n]at mu;exact mu
 have hb:∀b,H b=none->b≠e:=fun b n z=>by
  subst z
  rcases he with r | r
  ·exact hx b n r
  ·rw[n]at r;cases r
 have hm:∀b u,H b=some u->¬ Mut (some u)->b≠x:=fun b u q nm z=>by subst z;rw[q]at mu;exact nm mu
 refine⟨fun b u q n _ _=>k b u (hb b n) q,fun b u q n _ _=>⟨u.slots,k b u (hb b n) q⟩,fun b u q n _=>by rw[Ak (hx b n)];exact n,fun b u q _=>?_,
  fun b xs q=>by rw[Ak (hm b _ q fun z=>z)];exact q,fun b u xs q=>by rw[Ak (hm b _ q fun z=>z)];exact q,fun b ps q=>by rw[Ak (hm b _ q fun z=>z)];exact q⟩
 by_cases hbe:b=e
 ·subst hbe;exact heo
 ·exact⟨u,k b u hbe q⟩
end
def trk (h:Heap)(H:Hp):v5:=(List.range h.objs.size).filter fun a=>(H a).isSome
def Xm (h:Heap)(H:Hp):Heap:=PySem.W.hideAll h (trk h H)
theorem A1u (h:Heap)(H:Hp):(Xm h H).objs.size=h.objs.size:=PySem.W.hideAll_size _ _
theorem A6a {h:Heap}{H:Hp}{b:Addr}{o:Obj}(e:h.get? b=some o)(n:H b=none):(Xm h H).get? b=some o :=
 PySem.W.hideAll_get _ e fun hm=>by
  have q:(H b).isSome=true:=(List.mem_filter.mp hm).2;rw[n]at q;simp at q
theorem Bj0 {h:Heap}{H:Hp}{b:Addr}{o:Obj}(e:(Xm h H).get? b=some o):h.get? b=some o/\H b=none:=by
 have e':h.get? b=some o:=PySem.W.of_hideAll (trk h H) e
 refine⟨e',?_⟩
 cases q:H b with
 | none=>rfl
 | some x =>
  have hm:b∈trk h H:=List.mem_filter.mpr ⟨dz.mpr (aA e'),by simp[q]⟩
  have z:(Xm h H).get? b=none:=PySem.W.hideAll_none (trk h H) hm;rw[z]at e;cases e
def Bj1 (g h:Heap)(L:Addr):y_:=(List.range h.objs.size).filterMap fun a=>if a=L\/(g.get? a).isSome=true then none else (h.get? a).map fun o=>(a,o)
def rest (g h:Heap)(L d:Addr):y_:=(Bj1 g h L).filter fun p=>decide (p.1≠d)
def Av0 (T:Addr)(q:Str):Obj:={ cls:=.str q 0,data:=.cell (some (.ref T)) }
def Vh (o:Obj):Option (Addr×Str):=match o.data with
 | .cell (some (.ref T))=>(match o.cls with
  | .str q _=>some (T,q)
  | _=>none)
 | _=>none
def Ff (K:v_):List (Addr×Str):=K.filterMap fun p=>Vh p.2
structure Mod (K:v_) (mg:x_) (base:Heap):Prop where
 kin:K.In base
 glob:base.Ns mainGlobals mg
 blt:∃mb,base.Ns builtinsNs mb/\∀x:Str,x ≠ "__name__" -> mb x=bootBuiltins x
 nolimit:base.NoLimit
 bmod:∃bm o,mg "__builtins__" = some (.ref bm)/\bm≠builtinsNs/\bm≠mainGlobals/\base.get? bm=some o/\o.cls=.type "module" /\ o.dict=some builtinsNs/\o.data=.plain
structure Cx where
 prog:t6
 w:World
 K:v_
 mg:x_
 base:Heap
 A:p6
 N:v4
 s₀:q9
 H₀:Hp
 env:Env
 outer:List Env
 stack:List Env
 ex:v5
 fn:Str->Bool
 calm:Bool
 pn:y_
 xe:z_
def frs (l:List Env):v5:=l.filterMap (·.frame)
abbrev Cx.fs (X:Cx):v5:=frs X.outer
def Vis (sc:Scope)(x:Str):Prop:=sc.names.lookup x=some .local\/sc.names.lookup x=some .cell\/sc.names.lookup x=some .free
def Loc (sc:Scope)(x:Str):Prop:=sc.names.lookup x=some .local\/sc.names.lookup x=some .cell
def Look (env:Env)(h:Heap)(m:x_)(x:Str)(u:Value):Prop :=
 (env.kindOf x=some .local/\m x=some u)\/((env.kindOf x=some .cell\/env.kindOf x=some .free)/\∃c,env.cells.lookup x=some c/\h.IsCell c (some u))
structure Cx.Ok (X:Cx):Prop where
 mod:Mod X.K X.mg X.base
 kind:X.env.scope.kind=.function
 glob:X.env.globals=mainGlobals
 blt:X.env.builtins=builtinsNs
 above:X.s₀.heap.objs.size<=X.env.locals
 inj:∀x y c,X.env.cells.lookup x=some c->X.env.cells.lookup y=some c->x=y
 has:∀x,(X.env.kindOf x=some .cell\/X.env.kindOf x=some .free)->∃c,X.env.cells.lookup x=some c
 cab:∀x c,X.fn x=true->X.env.cells.lookup x=some c->X.s₀.heap.objs.size<=c
 hd:X.calm=true->X.A.handled=none
 frames:X.A.frames=some X.stack
 stk:X.stack=X.outer\/(X.stack=X.env::X.outer/\X.env.frame=some X.env.locals)
 exf:∀b∈X.ex,b≠X.env.locals/\∀x c,X.env.cells.lookup x=some c->c≠b
 bs:∀b o,X.base.get? b=some o->X.s₀.heap.get? b=some o/\X.H₀ b=none
 bsz:X.base.objs.size<=X.s₀.heap.objs.size
 noex:∀b o,X.base.get? b=some o->b∉X.ex
 exfs:∀b∈X.ex,b∉X.fs
 funs:X.s₀.heap.FunFrames X.base X.outer
 frf:∀b∈X.fs,X.H₀ b=none
 tab:∀p∈Ff X.K,X.H₀ p.1=some (.tbl p.2)
structure Inv (X:Cx) (pins:y_) (σ:List (Option V)) (H:Hp) (s:q9):Prop where
 ok:X.Ok
 os:s.os=X.s₀.os
 bare:AllBare s.gens
 base:Un X.fs X.ex X.H₀ H X.s₀.heap s.heap
 loc:∃m,s.heap.Ns X.env.locals m/\∀(i:Nat) (x:Str) (v:V),X.N[i]?=some x->σ[i]?=some (some v)->Vis X.env.scope x->∃u,RelV v u/\Look X.env s.heap m x u
 cell:∀x c,X.env.cells.lookup x=some c->∃v,s.heap.IsCell c v
 free:H X.env.locals=none
 freeC:∀x c,X.env.cells.lookup x=some c->H c=none
 pin:∀p∈X.pn++pins,s.heap.get? p.1=some p.2/\H p.1=none/\p.1≠X.env.locals/\p.1∉X.fs/\∀v,p.2.data≠.cell v
 hok:HOk X.prog X.w H s.heap
 len:σ.length=X.N.length
section
variable {X:Cx}{pins:y_}{σ:List (Option V)}{H H':Hp}{s:q9}{h':Heap}
theorem Cx.Ok.nofr (ok:X.Ok){b:Addr}{o:Obj}(e:X.base.get? b=some o):b∉X.fs:=fun hb=>by
 have:=(ok.funs.mem hb).1;rw[e]at this;cases this
theorem Inv.bs (I:Inv X pins σ H s):∀b o,X.base.get? b=some o->s.heap.get? b=some o/\H b=none:=fun b o e =>
 ⟨I.base.keep b o (I.ok.bs b o e).1 (I.ok.bs b o e).2 (I.ok.nofr e) (I.ok.noex b o e),I.base.free b o (I.ok.bs b o e).1 (I.ok.bs b o e).2 (I.ok.noex b o e)⟩
theorem Inv.bk (I:Inv X pins σ H s):∀b o,X.base.get? b=some o->s.heap.get? b=some o:=fun b o e=>(I.bs b o e).1
theorem Inv.mod (I:Inv X pins σ H s):Mod X.K X.mg X.base:=I.ok.mod
theorem Inv.kIn (I:Inv X pins σ H s):X.K.In s.heap:=I.ok.mod.kin.keeps I.bk
theorem Inv.fr (I:Inv X pins σ H s):∃m,Fr X.base X.env.locals s.heap m :=
 let ⟨m,hn,_⟩:=I.loc
 ⟨m,hn,I.bk,au I.ok.bsz I.ok.above⟩
theorem Inv.lt (I:Inv X pins σ H s):X.env.locals<s.heap.objs.size:=let ⟨_,hn,_⟩:=I.loc;hn.lt
theorem Inv.sz (I:Inv X pins σ H s):X.s₀.heap.objs.size<=s.heap.objs.size:=au I.ok.above (ir I.lt)
theorem Inv.nofs (I:Inv X pins σ H s){a:Addr}(h:s.heap.objs.size<=a):a∉X.fs:=fun hb=>by
 obtain⟨_,o,ho,_⟩:=I.ok.funs.mem hb;exact absurd (aP (aA ho) (au I.sz h)) (bh _)
theorem Inv.cne (I:Inv X pins σ H s):∀x c,X.env.cells.lookup x=some c->c≠X.env.locals:=fun x c e z=>by
 obtain⟨v,o,ho,hd⟩:=I.cell x c e;obtain⟨m,⟨o',es,ep,ho',hd',_⟩,_⟩:=I.loc;rw[z,ho']at ho;cases ho;rw[hd']at hd;cases hd
theorem Inv.funs (I:Inv X pins σ H s):s.heap.FunFrames X.base X.outer:=by
 have all:∀(l:List Env),(∀b∈frs l,b∈X.fs)->X.s₀.heap.FunFrames X.base l->s.heap.FunFrames X.base l:=by
  intro l
  induction l with
  | nil=>intro _ _;trivial
  | cons env r ih =>
   intro hs hl;obtain⟨hk,⟨L,o,hf,hn,ho,hd⟩,hr⟩:=hl
   have hL:L∈X.fs:=hs L (by unfold frs;rw[eG,hf];exact bD)
   obtain⟨sl,e⟩:=I.base.slot L o ho (I.ok.frf L hL) hL fun z=>I.ok.exfs L z hL
   exact⟨hk,⟨L,_,hf,hn,e,hd⟩,ih (fun b hb=>hs b (by unfold frs;rw[eG,hf];exact bx _ hb)) hr⟩
 exact all X.outer (fun _ hb=>hb) I.ok.funs
theorem Inv.stack (I:Inv X pins σ H s):s.heap.FunFrames X.base X.stack:=by
 rcases I.ok.stk with e | ⟨e,hf⟩
 ·rw[e];exact I.funs
 ·rw[e]
  obtain⟨m,hn,_⟩:=I.loc
  refine .cons (by rw[I.ok.kind];decide) hf hn ?_ I.funs
  exact Heap.get?_none_of_le (au I.ok.bsz I.ok.above)
theorem Inv.stkSub (I:Inv X pins σ H s):∀b∈frs X.stack,b∈X.env.locals::X.fs:=fun b hb=>by
 rcases I.ok.stk with e | ⟨e,hf⟩
 ·rw[e]at hb;exact bx _ hb
 ·rw[e]at hb
  unfold frs at hb;rw[eG,hf]at hb;exact hb
theorem Inv.stkFree (I:Inv X pins σ H s):∀b∈frs X.stack,H b=none:=fun b hb=>by
 rcases az.mp (I.stkSub b hb) with e | hb
 ·rw[e];exact I.free
 ·obtain⟨_,o,ho,_⟩:=I.ok.funs.mem hb
  exact I.base.free b o ho (I.ok.frf b hb) fun z=>I.ok.exfs b z hb
theorem Inv.step {g':Array GenState}{t':Nat}{d':Drawn}{ch:v5}(I:Inv X pins σ H s)
 (hch:∀b∈ch,(b∈X.ex\/X.s₀.heap.objs.size<=b)/\b≠X.env.locals/\(∀x c,X.env.cells.lookup x=some c->c≠b)/\∀p∈X.pn++pins,p.1≠b)
 (keep:∀b o,b≠X.env.locals->b∉X.fs->b∉ch->s.heap.get? b=some o->H b=none->h'.get? b=some o)
 (slot:∀b o,b≠X.env.locals->b∈X.fs->b∉ch->s.heap.get? b=some o->H b=none->∃sl,h'.get? b=some { o with slots:=sl }) (free:∀b o,b∉ch->s.heap.get? b=some o->H b=none->H' b=none)
 (there:∀b o,b∉ch->s.heap.get? b=some o->∃o',h'.get? b=some o')
 (tups:∀b xs,H b=some (.tup xs)->H' b=some (.tup xs)) (frzs:∀b o u,H b=some (.frz o u)->H' b=some (.frz o u)) (tbls:∀b q,H b=some (.tbl q)->H' b=some (.tbl q))
 (ns:∀m,s.heap.Ns X.env.locals m->h'.Ns X.env.locals m) (hok:HOk X.prog X.w H' h') (hg:AllBare g') :
 Inv X pins σ H' { s with heap:=h',gens:=g',drawn:=d',toks:=t' }:=by
 have neL:∀b o,X.s₀.heap.get? b=some o->b≠X.env.locals:=fun b o e=>aV (aP (aA e) I.ok.above)
 have neC:∀b o,X.s₀.heap.get? b=some o->b∉X.ex->b∉ch:=fun b o e hx hb=>by
  rcases (hch b hb).1 with z | z
  ·exact hx z
  ·exact absurd (aP (aA e) z) (bh _)
 have cellK:∀x c,X.env.cells.lookup x=some c->∀v,s.heap.IsCell c v->h'.IsCell c v:=fun x c e v ⟨o,ho,hd⟩=>by
  have nch:c∉ch:=fun z=>(hch c z).2.2.1 x c e rfl
  by_cases hc:c∈X.fs
  ·obtain⟨sl,q⟩:=slot c o (I.cne x c e) hc nch ho (I.freeC x c e)
   exact⟨_,q,hd⟩
  ·exact⟨o,keep c o (I.cne x c e) hc nch ho (I.freeC x c e),hd⟩
 refine⟨I.ok,I.os,hg,⟨fun b o e n hb hx=>?_,fun b o e n hb hx=>?_,fun b o e n hx=>?_,fun b o e hx=>?_,fun b xs e=>tups b xs (I.base.tups b xs e),fun b o xs e=>frzs b o xs (I.base.frzs b o xs e),fun b ps e=>?_⟩,?_,fun x c e=>?_,?_,fun x c e=>?_,fun p hp=>?_,hok,I.len⟩
 ·exact keep b o (neL b o e) hb (neC b o e hx) (I.base.keep b o e n hb hx) (I.base.free b o e n hx)
 ·obtain⟨sl,e1⟩:=I.base.slot b o e n hb hx
  obtain⟨sl',e2⟩:=slot b _ (neL b o e) hb (neC b o e hx) e1 (I.base.free b o e n hx);exact⟨sl',e2⟩
 ·obtain⟨o',e1⟩:=I.base.there b o e hx
  exact free b o' (neC b o e hx) e1 (I.base.free b o e n hx)
 ·obtain⟨o',e1⟩:=I.base.there b o e hx
  exact there b o' (neC b o e hx) e1
 ·exact tbls b ps (I.base.tbls b ps e)
 ·obtain⟨m,hn,hl⟩:=I.loc
  refine⟨m,ns m hn,fun i x v e1 e2 e3=>?_⟩
  obtain⟨u,r,l⟩:=hl i x v e1 e2 e3
  refine⟨u,r,?_⟩
  rcases l with l | ⟨k,c,e,z⟩
  ·exact .inl l
  ·exact .inr ⟨k,c,e,cellK x c e _ z⟩
 ·obtain⟨v,z⟩:=I.cell x c e
  exact⟨v,cellK x c e v z⟩
 ·obtain⟨m,⟨o,_,_,ho,_⟩,_⟩:=I.loc
  exact free _ o (fun z=>(hch _ z).2.1 rfl) ho I.free
 ·obtain⟨v,o,ho,hd⟩:=I.cell x c e
  exact free c o (fun z=>(hch c z).2.2.1 x c e rfl) ho (I.freeC x c e)
 ·obtain⟨e,n,ne,nf,d⟩:=I.pin p hp
  have nch:p.1∉ch:=fun z=>(hch p.1 z).2.2.2 p hp rfl
  exact⟨keep p.1 p.2 ne nf nch e n,free p.1 p.2 nch e n,ne,nf,d⟩
theorem Inv.un {t':Nat}(I:Inv X pins σ H s)(u:Un X.fs [] H H' s.heap h')(hok:HOk X.prog X.w H' h'):Inv X pins σ H' { s with heap:=h',toks:=t' }:=by
 obtain⟨m,⟨o,es,ep,ho,r⟩,_⟩:=id I.loc
 obtain⟨sl,hL⟩:=u.any ho I.free (by simp)
 exact I.step (g':=s.gens) (d':=s.drawn) (ch:=[]) (fun _ z=>nomatch z) (fun b o _ hb _ e n=>u.keep b o e n hb (by simp)) (fun b o _ hb _ e n=>u.slot b o e n hb (by simp)) (fun b o _ e n=>u.free b o e n (by simp)) (fun b o _ e=>u.there b o e (by simp)) u.tups u.frzs u.tbls (fun m' hm=>by
  obtain⟨o',es',ep',ho',r'⟩:=hm;rw[ho]at ho';cases ho'
  exact⟨_,es',ep',hL,r'⟩) hok I.bare
theorem Inv.call {g':Array GenState}{t':Nat}{d':Drawn}{ch:v5}(I:Inv X pins σ H s)(u:Un (frs X.stack) ch H H' s.heap h')(hok:HOk X.prog X.w H' h')(hg:AllBare g')
 (hch:∀b∈ch,(b∈X.ex\/X.s₀.heap.objs.size<=b)/\b≠X.env.locals/\(∀x c,X.env.cells.lookup x=some c->c≠b)/\∀p∈X.pn++pins,p.1≠b) :
 Inv X pins σ H' { s with heap:=h',gens:=g',drawn:=d',toks:=t' }:=by
 obtain⟨m,⟨o,es,ep,ho,r⟩,_⟩:=id I.loc
 obtain⟨sl,hL⟩:=u.any ho I.free fun z=>(hch _ z).2.1 rfl
 exact I.step (ch:=ch) hch (fun b o hL hb hc e n=>u.keep b o e n (fun z=>(az.mp (I.stkSub b z)).elim hL hb) hc) (fun b o _ _ hc e n=>u.any e n hc) (fun b o hc e n=>u.free b o e n hc) (fun b o hc e=>u.there b o e hc) u.tups u.frzs u.tbls (fun m' hm=>by
  obtain⟨o',es',ep',ho',r'⟩:=hm;rw[ho]at ho';cases ho'
  exact⟨_,es',ep',hL,r'⟩) hok hg
theorem Inv.turned {t':Nat}{it:Addr}(I:Inv X pins σ H s)(k:∀b o,b≠it->s.heap.get? b=some o->h'.get? b=some o)(hn:H it=none)(hL:it≠X.env.locals)
 (h1:it∈X.ex\/X.s₀.heap.objs.size<=it) (h2:∀x c,X.env.cells.lookup x=some c->c≠it) (h3:∀p∈X.pn++pins,p.1≠it):Inv X pins σ H { s with heap:=h',toks:=t' }:=by
 have nit:∀b u,H b=some u->b≠it:=fun b u e z=>by rw[z,hn]at e;cases e
 refine I.step (g':=s.gens) (d':=s.drawn) (ch:=[it]) (fun b hb=>?_) (fun b o _ _ hc e _=>k b o (fun z=>hc (by simp[z])) e) (fun b o _ _ hc e _=>⟨o.slots,k b o (fun z=>hc (by simp[z])) e⟩) (fun _ _ _ _ n=>n)
  (fun b o hc e=>⟨o,k b o (fun z=>hc (by simp[z])) e⟩) (fun _ _ e=>e) (fun _ _ _ e=>e) (fun b ps e=>e) (fun m hm=>?_) (fun b u e=>?_) I.bare
 ·have e:b=it:=by simpa using hb
  subst e;exact⟨h1,hL,h2,h3⟩
 ·obtain⟨o,es,ep,ho,r⟩:=hm
  exact⟨o,es,ep,k _ o (aJ hL) ho,r⟩
 ·refine (I.hok b u e).stay (fun c v hc q=>k c v ?_ q) (fun _ q=>q) fun _ _ q=>q
  rcases hc with z | z
  ·rw[z];exact nit b u e
  ·exact nit c _ z
theorem Inv.tok (I:Inv X pins σ H s)(t:Nat):Inv X pins σ H { s with toks:=t }:=I.un (h':=s.heap) (t':=t) Un.refl I.hok
theorem Inv.kept {t':Nat}(I:Inv X pins σ H s)(k:∀b u,s.heap.get? b=some u->h'.get? b=some u):Inv X pins σ H { s with heap:=h',toks:=t' }:=I.un (Un.kept k) (I.hok.kept k)
theorem Inv.laid {a:Addr}{o:HO}{t':Nat}(I:Inv X pins σ H s)(k:∀b u,s.heap.get? b=some u->h'.get? b=some u)(hp:s.heap.objs.size<=a)(new:zG X.prog X.w (upd H a o) h' a o) :
 Inv X pins σ (upd H a o) { s with heap:=h',toks:=t' }:=I.un (Un.laid k hp (I.hok.fresh hp)) (I.hok.laid k hp new)
theorem Inv.write {x e:Addr}{o:HO}{t':Nat}(I:Inv X pins σ H s)(mu:Mut (H x))(he:e=x\/H e=some (.own x))(k:∀b u,b≠e->s.heap.get? b=some u->h'.get? b=some u)(heo:∃u,h'.get? e=some u)
 (new:zG X.prog X.w (upd H x o) h' x o):Inv X pins σ (upd H x o) { s with heap:=h',toks:=t' }:=I.un (Un.write mu he k heo) (I.hok.write mu he k heo new)
theorem Inv.pins_of {pins':y_}(I:Inv X pins σ H s)(h:∀p∈pins',s.heap.get? p.1=some p.2/\H p.1=none/\p.1≠X.env.locals/\p.1∉X.fs/\∀v,p.2.data≠.cell v):Inv X pins' σ H s :=
 ⟨I.ok,I.os,I.bare,I.base,I.loc,I.cell,I.free,I.freeC,fun p hp=>(bY.mp hp).elim (fun z=>I.pin p (dh _ z)) (h p),I.hok,I.len⟩
theorem Ai3 {N:v4}(hN:N.Nodup){i j:Nat}{x:Str}(a:N[i]?=some x)(b:N[j]?=some x):i=j:=by
 obtain⟨h1,e1⟩:=bL.mp a;obtain⟨h2,e2⟩:=bL.mp b;exact(List.getElem_inj hN).mp (e1.trans e2.symm)
theorem Ym {M:Model}{A:p6}{E:z_}{i:Nat}{x:Str}{v:V}{u:Value}{Q:Unit->q9->Prop}(I:Inv X pins σ H s)(hN:X.N.Nodup)(hi:X.N[i]?=some x)(hx:Loc X.env.scope x)(r:RelV v u)
 (h:∀s',Inv X pins (σ.set i (some v)) H s'->(∃a,Heap.SameBut a s.heap s'.heap/\(a=X.env.locals\/X.env.cells.lookup x=some a))->Q () s') (hf:X.fn x=true\/X.env.scope.names.lookup x=some .local:=by first | exact .inl rfl | exact .inr rfl | assumption):wpAny M A (storeName X.env x u) Q E s:=by
 obtain⟨m,hn,hl⟩:=id I.loc
 have hcls:(X.env.scope.kind==.class||(X.env.scope.kind==.module&&X.env.locals != X.env.globals))=false:=by rw[I.ok.kind];rfl
 have hiσ:i<σ.length:=by rw[I.len];exact(bL.mp hi).1
 have cne:=I.cne
 have tracked:∀{a:Addr} {h':Heap},(∃o,s.heap.get? a=some o/\H a=none)->Heap.SameBut a s.heap h'->HOk X.prog X.w H h':=fun {a h'} ha hs b ob e=>by
  obtain⟨_,_,hfree⟩:=ha
  refine (I.hok b ob e).stay (fun c w' hc q=>(hs.2 c ?_).trans q) (fun _ q=>q) fun _ _ q=>q
  rintro rfl
  rcases hc with rfl | hc
  ·rw[hfree]at e;cases e
  ·rw[hfree]at hc;cases hc
 rcases hx with hk | hk
 ·refine wpAny_storeName_local hk hn (fun h' hn' hs=>?_) hcls
  obtain⟨oL,_,_,hoL,_⟩:=id hn
  refine h _ ⟨I.ok,I.os,I.bare,⟨fun b o e n hb hx=>?_,fun b o e n hb hx=>?_,I.base.free,fun b o e hx=>?_,I.base.tups,I.base.frzs,I.base.tbls⟩,⟨_,hn',fun j y v' e1 e2 e3=>?_⟩,fun y c e=>?_,I.free,I.freeC,fun p hp=>?_,tracked ⟨oL,hoL,I.free⟩ hs,by simpa using I.len⟩ ⟨_,hs,.inl rfl⟩
  ·exact(hs.2 b (aV (aP (aA e) I.ok.above))).trans (I.base.keep b o e n hb hx)
  ·obtain⟨sl,e1⟩:=I.base.slot b o e n hb hx
   exact⟨sl,(hs.2 b (aV (aP (aA e) I.ok.above))).trans e1⟩
  ·obtain⟨o',e1⟩:=I.base.there b o e hx
   exact⟨o',(hs.2 b (aV (aP (aA e) I.ok.above))).trans e1⟩
  ·by_cases hj:j=i
   ·subst hj
    rw[hi]at e1;cases e1;rw[bZ hiσ]at e2
    cases e2
    exact⟨u,r,.inl ⟨hk,by simp⟩⟩
   ·rw[bM (aJ hj)]at e2
    obtain⟨u',r',q⟩:=hl j y v' e1 e2 e3
    refine⟨u',r',?_⟩
    rcases q with ⟨k,e⟩ | ⟨k,c,e,z⟩
    ·refine .inl ⟨k,?_⟩
     have:y≠x:=fun e=>hj (Ai3 hN e1 (e▸hi))
     simp[this,e]
    ·exact .inr ⟨k,c,e,z.sameBut hs (cne y c e)⟩
  ·obtain⟨w',z⟩:=I.cell y c e
   exact⟨w',z.sameBut hs (cne y c e)⟩
  ·obtain⟨e,n,ne,nf,d⟩:=I.pin p hp
   exact⟨(hs.2 p.1 ne).trans e,n,ne,nf,d⟩
 ·have hfn:X.fn x=true:=by
   rcases hf with z | z
   ·exact z
   ·rw[z]at hk;cases hk
  obtain⟨c,hc⟩:=I.ok.has x (.inl hk);obtain⟨w',z⟩:=I.cell x c hc
  refine wpAny_storeName_cell I.ok.kind hk hc z (fun h' hc' hs=>?_)
  obtain⟨oc,hoc,hocd⟩:=id z
  refine h { s with heap:=h' } ⟨I.ok,I.os,I.bare,⟨fun b o e n hb hx=>?_,fun b o e n hb hx=>?_,I.base.free,fun b o e hx=>?_,I.base.tups,I.base.frzs,I.base.tbls⟩,⟨m,hn.sameBut hs (aJ (cne x c hc)),fun j y v' e1 e2 e3=>?_⟩,fun y c' e=>?_,I.free,I.freeC,fun p hp=>?_,tracked ⟨oc,hoc,I.freeC x c hc⟩ hs,by simpa using I.len⟩ ⟨c,hs,.inr hc⟩
  ·exact(hs.2 b (aV (aP (aA e) (I.ok.cab x c hfn hc)))).trans (I.base.keep b o e n hb hx)
  ·obtain⟨sl,e1⟩:=I.base.slot b o e n hb hx
   exact⟨sl,(hs.2 b (aV (aP (aA e) (I.ok.cab x c hfn hc)))).trans e1⟩
  ·obtain⟨o',e1⟩:=I.base.there b o e hx
   exact⟨o',(hs.2 b (aV (aP (aA e) (I.ok.cab x c hfn hc)))).trans e1⟩
  ·by_cases hj:j=i
   ·subst hj
    rw[hi]at e1;cases e1;rw[bZ hiσ]at e2
    cases e2
    exact⟨u,r,.inr ⟨.inl hk,c,hc,hc'⟩⟩
   ·rw[bM (aJ hj)]at e2
    obtain⟨u',r',q⟩:=hl j y v' e1 e2 e3
    refine⟨u',r',?_⟩
    rcases q with q | ⟨k,c',e,z'⟩
    ·exact .inl q
    ·refine .inr ⟨k,c',e,z'.sameBut hs ?_⟩
     rintro rfl
     exact hj (Ai3 hN e1 (I.ok.inj _ _ _ e hc▸hi))
  ·by_cases hcc:c'=c
   ·subst hcc;exact⟨_,hc'⟩
   ·obtain⟨w2,z2⟩:=I.cell y c' e
    exact⟨w2,z2.sameBut hs hcc⟩
  ·obtain⟨e,n,ne,nf,d⟩:=I.pin p hp
   refine⟨(hs.2 p.1 ?_).trans e,n,ne,nf,d⟩
   intro q;rw[q,hoc]at e;have q':oc=p.2:=bK e
   exact d w' (by rw[<- q'];exact hocd)
theorem Qt {M:Model}{A:p6}{E:z_}{i:Nat}{x:Str}{v:V}{u:Value}{Q:Unit->q9->Prop}(I:Inv X pins σ H s)(hN:X.N.Nodup)(hi:X.N[i]?=some x)(hx:Loc X.env.scope x)(r:RelV v u)
 (h:∀s',Inv X pins (σ.set i (some v)) H s'->Q () s') (hf:X.fn x=true\/X.env.scope.names.lookup x=some .local:=by first | exact .inl rfl | exact .inr rfl | assumption):wpAny M A (storeName X.env x u) Q E s :=
 Ym I hN hi hx r (fun s' I' _=>h s' I') hf
theorem Inv.call' {s':q9}{ch:v5}(I:Inv X pins σ H s)(ho:s'.os=s.os)(u:Un (frs X.stack) ch H H' s.heap s'.heap)(hok:HOk X.prog X.w H' s'.heap)(hg:AllBare s'.gens)
 (hch:∀b∈ch,(b∈X.ex\/X.s₀.heap.objs.size<=b)/\b≠X.env.locals/\(∀x c,X.env.cells.lookup x=some c->c≠b)/\∀p∈X.pn++pins,p.1≠b):Inv X pins σ H' s':=by
 obtain⟨h',g',d',t',o'⟩:=s';have e:o'=s.os:=ho;subst e;exact I.call (g':=g') (t':=t') (d':=d') u hok hg hch
end
abbrev XK:=Value->Option Addr->Hp->Prop
abbrev St:=List (Option V)
abbrev VK:=V->Hp->Prop
abbrev TE:=St->Hp->VK->Prop
abbrev TT:=St->Hp->(Bool->Hp->Prop)->Prop
abbrev TA:=St->Hp->(m7->Hp->Prop)->Prop
structure Ends where
 nx:St->Hp->Prop
 rt:VK
 bk:St->Hp->Prop:=fun _ _=>False
 ct:St->Hp->Prop:=fun _ _=>False
abbrev TS:=Ends->St->Hp->Prop
def EP (X:Cx)(pins:y_)(σ:St)(Q:VK)(u:Value)(s':q9):Prop:=∃v H',Inv X pins σ H' s'/\RelV v u/\Q v H'
def TP (X:Cx)(pins:y_)(σ:St)(Q:Bool->Hp->Prop)(b:Bool)(s':q9):Prop:=∃H',Inv X pins σ H' s'/\Q b H'
def AP (X:Cx)(pins:y_)(σ:St)(Q:m7->Hp->Prop)(us:w6)(s':q9):Prop:=∃vs H',Inv X pins σ H' s'/\Vals vs us/\Q vs H'
def SP (X:Cx)(pins:y_)(D:Ends)(f:Flow)(s':q9):Prop :=
 match f with
 | .next=>∃σ' H',Inv X pins σ' H' s'/\D.nx σ' H'
 | .brk=>∃σ' H',Inv X pins σ' H' s'/\D.bk σ' H'
 | .cont=>∃σ' H',Inv X pins σ' H' s'/\D.ct σ' H'
 | .ret u=>∃v σ' H',Inv X pins σ' H' s'/\RelV v u/\D.rt v H'
def PE (X:Cx)(e:Expr)(t:TE):Prop :=
 ∀(pins:y_) (s:q9) (σ:St) (H:Hp) (Q:VK),Inv X pins σ H s->t σ H Q->wpAny (model X.prog X.w) X.A (eval e X.env) (EP X pins σ Q) X.xe s
def PT (X:Cx)(e:Expr)(t:TT):Prop :=
 ∀(pins:y_) (s:q9) (σ:St) (H:Hp) (Q:Bool->Hp->Prop),Inv X pins σ H s->t σ H Q->wpAny (model X.prog X.w) X.A (isTrue e X.env (eval e X.env)) (TP X pins σ Q) X.xe s
def PW (X:Cx)(e:Expr)(t:TT):Prop :=
 ∀(whole:Sem Value) (pins:y_) (s:q9) (σ:St) (H:Hp) (Q:Bool->Hp->Prop),Inv X pins σ H s->t σ H Q->wpAny (model X.prog X.w) X.A (isTrue e X.env whole) (TP X pins σ Q) X.xe s
theorem PW.pt {X:Cx}{e:Expr}{t:TT}(h:PW X e t):PT X e t:=h _
def PA (X:Cx)(es:u5)(t:TA):Prop :=
 ∀(pos:Pos) (pins:y_) (s:q9) (σ:St) (H:Hp) (Q:m7->Hp->Prop),Inv X pins σ H s->t σ H Q->wpAny (model X.prog X.w) X.A (spliced (backTo pos (starEach es X.env))) (AP X pins σ Q) X.xe s
def PS (X:Cx)(st:Stmt)(t:TS):Prop :=
 ∀(pins:y_) (s:q9) (σ:St) (H:Hp) (D:Ends),Inv X pins σ H s->t D σ H->wpAny (model X.prog X.w) X.A (exec st X.env) (SP X pins D) X.xe s
def PSs (X:Cx)(st:List Stmt)(t:TS):Prop :=
 ∀(pins:y_) (s:q9) (σ:St) (H:Hp) (D:Ends),Inv X pins σ H s->t D σ H->wpAny (model X.prog X.w) X.A (execs st X.env) (SP X pins D) X.xe s
theorem thn {α:Type}{t:Sem α}{Q Q':α->q9->Prop}{M:Model}{A:p6}{E:z_}{s:q9}(h:wpAny M A t Q E s)(hQ:∀a s,Q a s->Q' a s):wpAny M A t Q' E s:=a_ h hQ fun _ _ x=>x
section
variable {X:Cx}
def A3a (i:Nat):TE:=fun σ H Q=>∃v,σ[i]?=some (some v)/\Q v H
def tC (v:V):TE:=fun _ H Q=>Q v H
theorem A4e {i:Nat}{x:Str}{pos:Pos}(hN:X.N[i]?=some x)(hv:Vis X.env.scope x)(hd:(x==("__debug__" : Str))=false:=by decide) (hcd:(x==("__classdict__" : Str))=false:=by decide):PE X (.Name x pos) (A3a i):=by
 intro pins s σ H Q I h;obtain⟨v,e,h⟩:=h;obtain⟨m,hn,hl⟩:=I.loc;obtain⟨u,r,l⟩:=hl i x v hN e hv;have fin:EP X pins σ Q u s:=⟨v,H,I,r,h⟩
 rcases l with ⟨hk,hm⟩ | ⟨hk,c,hc,hcell⟩
 ·exact wpAny_Name (wpAny_loadName_local I.ok.kind hk hn hm fin) hd
 ·rcases hk with hk | hk
  ·exact wpAny_Name (wpAny_loadName_cell I.ok.kind hk hc hcell fin) hd
  ·exact wpAny_Name (wpAny_loadName_free I.ok.kind hk hc hcell fin hcd) hd
theorem A5p {i j pos}:PE X (.Constant (.int i) j pos) (tC (.int i)):=fun _ _ _ H _ I h=>wpAny_Constant_int ⟨.int i,H,I.tok _,⟨_,rfl⟩,h⟩
theorem Bm0 {b j pos}:PE X (.Constant (.bool b) j pos) (tC (.bl b)):=fun _ _ _ H _ I h=>Constant_bool ⟨.bl b,H,I,rfl,h⟩
theorem A5l {j pos}:PE X (.Constant .none j pos) (tC .non):=fun _ _ _ H _ I h=>Constant_none ⟨.non,H,I,rfl,h⟩
theorem Ba5 {x j pos}:PE X (.Constant (.str x) j pos) (tC (.str x)):=fun _ _ _ H _ I h=>Calls.Constant_str ⟨.str x,H,I.tok _,⟨_,rfl⟩,h⟩
def Gl (X:Cx)(x:Str):Prop:=X.env.kindOf x=some .globalImplicit
theorem A0p {E:z_}{pins:y_}{s:q9}{σ:St}{H:Hp}{x:Str}{u:Value}{pos:Pos}{Q:z_}(I:Inv X pins σ H s)(hg:Gl X x)(hm:X.mg x=some u)(h:Q u s)
 (hd:(x==("__debug__" : Str))=false:=by decide):wpAny (model X.prog X.w) X.A (eval (.Name x pos) X.env) Q E s :=
 Calls.Name_function_global I.ok.kind hg (Calls.loadGlobal_global (by rw[I.ok.glob];exact I.mod.glob.keeps I.bk) hm h) hd
theorem J9 {E:z_}{pins:y_}{s:q9}{σ:St}{H:Hp}{x:Str}{u:Value}{pos:Pos}{Q:z_}(I:Inv X pins σ H s)(hg:Gl X x)(hm:X.mg x=none)(hv:bootBuiltins x=some u)(h:Q u s)
 (hn:x ≠ "__name__" := by decide) (hd:(x==("__debug__" : Str))=false:=by decide):wpAny (model X.prog X.w) X.A (eval (.Name x pos) X.env) Q E s:=by
 obtain⟨mb,h1,h2⟩:=I.mod.blt
 exact Calls.Name_function_global I.ok.kind hg (Calls.loadGlobal_builtin (by rw[I.ok.glob];exact I.mod.glob.keeps I.bk) hm (by rw[I.ok.blt];exact h1.keeps I.bk) ((h2 x hn).trans hv) h) hd
theorem Bk7 {x:Str}{v:V}{u:Value}{pos:Pos}(hg:Gl X x)(hm:X.mg x=some u)(r:RelV v u)(hd:(x==("__debug__" : Str))=false:=by decide):PE X (.Name x pos) (tC v) :=
 fun _ _ _ H _ I h=>A0p I hg hm ⟨v,H,I,r,h⟩ hd
theorem Bg7 {x:Str}{v:V}{u:Value}{pos:Pos}(hg:Gl X x)(hm:X.mg x=none)(hv:bootBuiltins x=some u)(r:RelV v u)(hn:x ≠ "__name__" := by decide) (hd:(x==("__debug__" : Str))=false:=by decide):PE X (.Name x pos) (tC v) :=
 fun _ _ _ H _ I h=>J9 I hg hm hv ⟨v,H,I,r,h⟩ hn hd
variable {a b:Expr}{ta tb:TE}{pos:Pos}
def tB (t:TE):TT:=fun σ H Q=>t σ H fun x H1=>∃c,x=.bl c/\Q c H1
theorem Bo5 {e:Expr}{t:TE}(h:PE X e t)(he:∀whole,isTrue e X.env whole=(do let v <- whole;standAt e.pos;holding [v] (truthy v)):=by intro _;rfl):PT X e (tB t):=by
 intro pins s σ H Q I hw
 refine isTrue_plain (thn (h pins s σ H _ I hw) fun v s1 ⟨x,H1,I1,r1,q1⟩=>?_) (he _)
 obtain⟨d,rfl,q⟩:=q1
 cases r1
 exact fM ⟨H1,I1,q⟩
variable {tA tB':TT}{rest:u5}
def Bs7 (t u:TT):TT:=fun σ H Q=>t σ H fun c H1=>if c=true then u σ H1 Q else Q false H1
def tOr (t u:TT):TT:=fun σ H Q=>t σ H fun c H1=>if c=true then Q true H1 else u σ H1 Q
def Bx6 (t:TT):TT:=fun σ H Q=>t σ H fun c H1=>Q (!c) H1
theorem Bc4 (ha:PT X a tA):PW X (.BoolOp .And [a] pos) tA:=by
 intro wh pins s σ H Q I h
 refine isTrue_and (thn (ha pins s σ H Q I h) fun c s1 e=>?_)
 cases c with
 | true=>exact isTrue_and_nil e
 | false=>exact e
theorem Bu9 (ha:PT X a tA):PW X (.BoolOp .Or [a] pos) tA:=by
 intro wh pins s σ H Q I h
 refine isTrue_or (thn (ha pins s σ H Q I h) fun c s1 e=>?_)
 cases c with
 | false=>exact isTrue_or_nil e
 | true=>exact e
theorem Bx4 (ha:PT X a tA)(hb:PW X (.BoolOp .And (b::rest) pos) tB'):PW X (.BoolOp .And (a::b::rest) pos) (Bs7 tA tB'):=by
 intro wh pins s σ H Q I h
 refine isTrue_and (thn (ha pins s σ H _ I h) fun c s1 ⟨H1,I1,q1⟩=>?_)
 cases c with
 | true=>exact hb wh pins s1 σ H1 Q I1 q1
 | false=>exact⟨H1,I1,q1⟩
theorem B0e (ha:PT X a tA)(hb:PW X (.BoolOp .Or (b::rest) pos) tB'):PW X (.BoolOp .Or (a::b::rest) pos) (tOr tA tB'):=by
 intro wh pins s σ H Q I h
 refine isTrue_or (thn (ha pins s σ H _ I h) fun c s1 ⟨H1,I1,q1⟩=>?_)
 cases c with
 | true=>exact⟨H1,I1,q1⟩
 | false=>exact hb wh pins s1 σ H1 Q I1 q1
theorem Bp6 (ha:PT X a tA):PT X (.UnaryOp .Not a pos) (Bx6 tA):=by
 intro pins s σ H Q I h
 exact isTrue_not (ha pins s σ H (fun c H1=>Q (!c) H1) I h)
def A5s (ta tb:TE):TE:=fun σ H Q=>ta σ H fun x H1=>∃c,x=.bl c/\if c=true then tb σ H1 Q else Q (.bl false) H1
def A8j (ta:TE):TE:=fun σ H Q=>ta σ H fun x H1=>∃c,x=.bl c/\Q (.bl (!c)) H1
theorem Bs3 {op}{t:TE}(h:PE X a t):PE X (.BoolOp op [a] pos) t:=fun pins s σ H Q I hw=>BoolOp_one (h pins s σ H Q I hw)
theorem Br4 (ha:PE X a ta)(hb:PE X (.BoolOp .And (b::rest) pos) tb):PE X (.BoolOp .And (a::b::rest) pos) (A5s ta tb):=by
 intro pins s σ H Q I h
 refine BoolOp_and (thn (ha pins s σ H _ I h) fun v s1 ⟨x,H1,I1,r1,q1⟩=>?_)
 obtain⟨c,rfl,q1⟩:=q1
 cases r1
 refine fM ?_
 cases c with
 | true=>exact hb pins s1 σ H1 Q I1 q1
 | false=>exact⟨.bl false,H1,I1,rfl,q1⟩
theorem Bn9 (ha:PE X a ta):PE X (.UnaryOp .Not a pos) (A8j ta):=by
 intro pins s σ H Q I h
 refine UnaryOp_ (thn (ha pins s σ H _ I h) fun v s1 ⟨x,H1,I1,r1,q1⟩=>?_)
 obtain⟨c,rfl,q1⟩:=q1
 cases r1
 exact not_of (fM ⟨.bl (!c),H1,I1,rfl,q1⟩)
def tIf (t:TT)(ta tb:TE):TE:=fun σ H Q=>t σ H fun c H1=>if c=true then ta σ H1 Q else tb σ H1 Q
theorem A7o {c:Expr}(hc:PT X c tA)(ha:PE X a ta)(hb:PE X b tb):PE X (.IfExp c a b pos) (tIf tA ta tb):=by
 intro pins s σ H Q I h
 refine wpAny_IfExp (thn (hc pins s σ H _ I h) fun d s1 ⟨H1,I1,q1⟩=>?_)
 cases d with
 | true=>exact ha pins s1 σ H1 Q I1 q1
 | false=>exact hb pins s1 σ H1 Q I1 q1
end
def SqL (K:v_)(H:Hp)(a:Addr)(xs:m7):Prop :=
 Rd H a (.lst xs) \/
  ∃(o:Obj) (its:v6) (n:Nat),K.lookup a=some o/\o.cls=.type "list" /\ o.dict=none/\o.data=.seq its n/\its.size<=sizeLine/\Vals xs its.toList
def SqT (K:v_)(H:Hp)(a:Addr)(xs:m7):Prop :=
 Rd H a (.tup xs) \/
  ∃(o:Obj) (its:v6) (n:Nat),K.lookup a=some o/\o.cls=.type "tuple" /\ o.data=.seq its n/\its.size<=sizeLine/\Vals xs its.toList
def B2l:Value->Option V
 | .none=>some .non
 | .bool b=>some (.bl b)
 | .int i _=>some (.int i)
 | .str x _=>some (.str x)
 | .bytes b _=>some (.byt b)
 | .float b _=>some (.flt b)
 | .ref a=>some (.ref a)
 | .type n=>some (.ty n)
 | _=>none
theorem RelV.abs {x:V}{u:Value}(r:RelV x u):B2l u=some x:=by
 cases x with
 | non=>cases r;rfl
 | bl _=>cases r;rfl
 | int _=>obtain⟨t,rfl⟩:=r;rfl
 | str _=>obtain⟨t,rfl⟩:=r;rfl
 | byt _=>obtain⟨t,rfl⟩:=r;rfl
 | flt _=>obtain⟨t,rfl⟩:=r;rfl
 | ref _=>cases r;rfl
 | ty _=>cases r;rfl
theorem RelV.inj {x y:V}{u:Value}(r:RelV x u)(q:RelV y u):x=y:=bK (r.abs.symm.trans q.abs)
theorem Vals.inj:∀{xs ys:m7}{us:w6},Vals xs us->Vals ys us->xs=ys
 | _,_,_,.nil,.nil=>rfl
 | _,_,_,.cons r t,.cons r' t'=>by rw[r.inj r',Vals.inj t t']
section
variable {X:Cx}{pins:y_}{σ:St}{H:Hp}{s:q9}{a:Addr}{xs ys:m7}
theorem SqL.of {K:v_}(h:H a=some (.lst xs)):SqL K H a xs:=.inl (.inl h)
theorem SqT.of {K:v_}(h:H a=some (.tup xs)):SqT K H a xs:=.inl (.inl h)
theorem Inv.list (I:Inv X pins σ H s)(h:SqL X.K H a xs):∃its:w6,Vals xs its/\PlainL s.heap a its.toArray/\xs.length<=sizeLine:=by
 rcases h with h | ⟨o,its,n,hk,hc,hd,hs,hz,r⟩
 ·obtain⟨z,its,n,r,e⟩:=h.ok I.hok
  exact⟨its,r,⟨_,n,e,rfl,rfl,rfl⟩,z⟩
 ·refine⟨its.toList,r,⟨o,n,I.kIn a o hk,hc,hd,by simpa using hs⟩,?_⟩
  have e:=r.length;simp only[eN]at e;omega
theorem Inv.tuple (I:Inv X pins σ H s)(h:SqT X.K H a xs):∃its:w6,Vals xs its/\IsTup s.heap a its.toArray/\xs.length<=sizeLine:=by
 rcases h with h | ⟨o,its,n,hk,hc,hs,hz,r⟩
 ·obtain⟨z,its,r,p⟩:=h.ok I.hok
  exact⟨its,r,p.tup,z⟩
 ·refine⟨its.toList,r,⟨o,I.kIn a o hk,hc,n,by simpa using hs⟩,?_⟩
  have e:=r.length;simp only[eN]at e;omega
theorem Inv.list_inj (I:Inv X pins σ H s)(h:SqL X.K H a xs)(h':SqL X.K H a ys):xs=ys:=by
 obtain⟨its,r,⟨o,n,e,_,_,d⟩,_⟩:=I.list h;obtain⟨its',r',⟨o',n',e',_,_,d'⟩,_⟩:=I.list h';rw[e]at e';cases e';rw[d]at d'
 injection d' with d1 _
 have:its=its':=by simpa using cJ Array.toList d1
 subst this;exact r.inj r'
theorem Inv.tuple_inj (I:Inv X pins σ H s)(h:SqT X.K H a xs)(h':SqT X.K H a ys):xs=ys:=by
 obtain⟨its,r,⟨o,e,_,n,d⟩,_⟩:=I.tuple h;obtain⟨its',r',⟨o',e',_,n',d'⟩,_⟩:=I.tuple h';rw[e]at e';cases e';rw[d]at d'
 injection d' with d1 _
 have:its=its':=by simpa using cJ Array.toList d1
 subst this;exact r.inj r'
end
abbrev Cx.wish (X:Cx)(E:z_):Cx:={ X with xe:=E }
abbrev Cx.nox (X:Cx):Cx:=X.wish fun _ _=>False
theorem Cx.Ok.wish {X:Cx}(ok:X.Ok)(E:z_):(X.wish E).Ok :=
 ⟨ok.mod,ok.kind,ok.glob,ok.blt,ok.above,ok.inj,ok.has,ok.cab,ok.hd,ok.frames,ok.stk,ok.exf,ok.bs,ok.bsz,ok.noex,ok.exfs,ok.funs,ok.frf,ok.tab⟩
theorem Cx.Ok.unwish {X:Cx}{E:z_}(ok:(X.wish E).Ok):X.Ok :=
 ⟨ok.mod,ok.kind,ok.glob,ok.blt,ok.above,ok.inj,ok.has,ok.cab,ok.hd,ok.frames,ok.stk,ok.exf,ok.bs,ok.bsz,ok.noex,ok.exfs,ok.funs,ok.frf,ok.tab⟩
section
variable {X:Cx}{pins:y_}{σ:St}{H:Hp}{s:q9}{E:z_}
theorem Inv.wish (I:Inv X pins σ H s)(E:z_):Inv (X.wish E) pins σ H s:=⟨I.ok.wish E,I.os,I.bare,I.base,I.loc,I.cell,I.free,I.freeC,I.pin,I.hok,I.len⟩
theorem Inv.unwish (I:Inv (X.wish E) pins σ H s):Inv X pins σ H s:=⟨I.ok.unwish,I.os,I.bare,I.base,I.loc,I.cell,I.free,I.freeC,I.pin,I.hok,I.len⟩
theorem SP.unwish {D:Ends}{f:Flow}{s':q9}(h:SP (X.wish E) pins D f s'):SP X pins D f s':=by
 cases f with
 | next=>obtain⟨σ',H',I,q⟩:=h;exact⟨σ',H',I.unwish,q⟩
 | brk=>obtain⟨σ',H',I,q⟩:=h;exact⟨σ',H',I.unwish,q⟩
 | cont=>obtain⟨σ',H',I,q⟩:=h;exact⟨σ',H',I.unwish,q⟩
 | ret u=>obtain⟨v,σ',H',I,r,q⟩:=h;exact⟨v,σ',H',I.unwish,r,q⟩
theorem PSs.nox {st:List Stmt}{t:TS}(h:PSs X.nox st t):PSs X st t:=fun pins s σ H D I hw =>
 a_ (h pins s σ H D (I.wish _) hw) (fun _ _ q=>q.unwish) fun _ _ z=>False.elim z
end
section
variable {X:Cx}{st:Stmt}{rest:List Stmt}{t u:TS}{e:Expr}{te:TE}{pos:Pos}
def A9w:TS:=fun D σ H=>D.nx σ H
def A7v (t u:TS):TS:=fun D σ H=>t { D with nx:=u D } σ H
theorem Bc3:PSs X [] A9w:=fun _ _ σ H _ I h=>wpAny_execs_nil ⟨σ,H,I,h⟩
theorem A7d (h1:PS X st t)(h2:PSs X rest u):PSs X (st::rest) (A7v t u):=by
 intro pins s σ H D I h
 refine jb (thn (h1 pins s σ H { D with nx:=u D } I h) fun f s1 q=>?_)
 cases f with
 | next =>
  obtain⟨σ',H',I',q⟩:=q;exact h2 pins s1 σ' H' D I' q
 | ret v=>exact q
 | brk=>exact q
 | cont=>exact q
theorem Be7 (h1:PS X st t):PSs X [st] t:=by
 intro pins s σ H D I h
 refine jb (thn (h1 pins s σ H D I h) fun f s1 q=>?_)
 cases f with
 | next=>exact wpAny_execs_nil q
 | ret v=>exact q
 | brk=>exact q
 | cont=>exact q
theorem Inv.quiet {pins:y_}{σ:St}{H:Hp}{s:q9}(I:Inv X pins σ H s):interactive X.env=false:=by simp[interactive,I.ok.kind]
def A0g (te:TE):TS:=fun D σ H=>te σ H fun _ H1=>D.nx σ H1
theorem Bi5 (he:PE X e te)(hs:swapsWith e none pos.line X.env=pure false:=by rfl):PS X (.Expr e pos) (A0g te):=by
 intro pins s σ H D I h
 exact wpAny_Expr_any (thn (he pins s σ H _ I h) fun v s1 ⟨x,H1,I1,r1,q1⟩=>⟨σ,H1,I1,q1⟩) I.quiet hs
def Bp9 (te:TE):TS:=fun D σ H=>te σ H D.rt
theorem Bn5 (he:PE X e te):PS X (.Return (some e) pos) (Bp9 te):=by
 intro pins s σ H D I h
 exact wpAny_Return_some (thn (he pins s σ H _ I h) fun v s1 ⟨x,H1,I1,r1,q1⟩=>⟨x,σ,H1,I1,r1,q1⟩)
def Bx9 (c:TT)(t u:TS):TS:=fun D σ H=>c σ H fun b H1=>if b=true then t D σ H1 else u D σ H1
theorem B1o {c:Expr}{a b:List Stmt}{tc:TT}(hc:PT X c tc)(ha:PSs X a t)(hb:PSs X b u):PS X (.If c a b pos) (Bx9 tc t u):=by
 intro pins s σ H D I h
 refine wpAny_If (thn (hc pins s σ H _ I h) fun d s1 ⟨H1,I1,q1⟩=>?_)
 cases d with
 | true=>exact ha pins s1 σ H1 D I1 q1
 | false=>exact hb pins s1 σ H1 D I1 q1
def Aq0:TS:=fun _ _ _=>False
theorem A8i:PS X st Aq0:=fun _ _ _ _ _ _ h=>h.elim
end
abbrev TG:=V->St->Hp->(St->Hp->Prop)->Prop
abbrev TGs:=m7->St->Hp->(St->Hp->Prop)->Prop
def PG (X:Cx)(target:Expr)(t:TG):Prop :=
 ∀
  (pins:y_) (s:q9) (σ:St) (H:Hp) (v:V) (u:Value) (Q:St->Hp->Prop),Inv X pins σ H s->RelV v u->t v σ H Q ->
  wpAny (model X.prog X.w) X.A (assign target X.env u) (fun _ s'=>∃σ' H',Inv X pins σ' H' s'/\Q σ' H') X.xe s
def PGs (X:Cx)(ts:u5)(t:TGs):Prop :=
 ∀
  (pins:y_) (s:q9) (σ:St) (H:Hp) (vs:m7) (us:w6) (Q:St->Hp->Prop),Inv X pins σ H s->Vals vs us->t vs σ H Q ->
  wpAny (model X.prog X.w) X.A (assignInOrder ((assignEach ts X.env).map (·.2)) us) (fun _ s'=>∃σ' H',Inv X pins σ' H' s'/\Q σ' H') X.xe s
abbrev Bj4:=V->V->V->Hp->(Hp->Prop)->Prop
def Bo9 (X:Cx)(t:Bj4):Prop :=
 ∀
  (pins:y_) (s:q9) (σ:St) (H:Hp) (o i v:V) (ov iv u:Value) (Q:Hp->Prop),Inv X pins σ H s->RelV o ov->RelV i iv->RelV v u->t o i v H Q ->
  wpAny (model X.prog X.w) X.A (setItem ov iv u) (fun _ s'=>∃H',Inv X pins σ H' s'/\Q H') X.xe s
section
variable {X:Cx}{pos:Pos}
def Mp (i:Nat):TG:=fun v σ H Q=>Q (σ.set i (some v)) H
theorem Bl2 {i:Nat}{x:Str}(hN:X.N.Nodup)(hi:X.N[i]?=some x)(hx:Loc X.env.scope x)(hf:X.fn x=true\/X.env.scope.names.lookup x=some .local:=by first | exact .inl rfl | exact .inr rfl | assumption):PG X (.Name x pos) (Mp i):=by
 intro pins s σ H v u Q I r h
 exact wpAny_assign_Name (Qt I hN hi hx r (fun s' I'=>⟨_,H,I',h⟩) hf)
def A3v:TGs:=fun vs σ H Q=>vs=[]/\Q σ H
def Wg (t:TG)(u:TGs):TGs:=fun vs σ H Q=>∃v r,vs=v::r/\t v σ H fun σ' H'=>u r σ' H' Q
theorem Bb6:PGs X [] A3v:=by
 intro pins s σ H vs us Q I r h;obtain⟨e,h⟩:=h;subst e
 cases r
 exact assignInOrder_nil ⟨σ,H,I,h⟩
theorem A9b {e:Expr}{es:u5}{t:TG}{u:TGs}(h1:PG X e t)(h2:PGs X es u)
 (hs:(assignEach (e::es) X.env).map (·.2)=assign e X.env::(assignEach es X.env).map (·.2):=by rfl):PGs X (e::es) (Wg t u):=by
 intro pins s σ H vs us Q I r h;obtain⟨v,vr,e1,h⟩:=h;subst e1
 cases r with
 | cons r rr =>
  rw[hs]
  refine jc (thn (h1 pins s σ H _ _ _ I r h) fun _ s1 ⟨σ1,H1,I1,q1⟩=>?_)
  exact h2 pins s1 σ1 H1 _ _ Q I1 rr q1
def Ba3 (K:v_)(n:Nat)(t:TGs):TG:=fun v σ H Q=>∃a xs,v=.ref a/\SqT K H a xs/\xs.length=n/\t xs σ H Q
theorem Br0 {es:u5}{k:Nat}{t:TGs}{n:Nat}(hc:X.calm=true)(h:PGs X es t)
 (hn:(assignEach es X.env).length=n:=by rfl) (hst:(assignEach es X.env).findIdx? (·.1)=none:=by rfl):PG X (.Tuple es k pos) (Ba3 X.K n t):=by
 intro pins s σ H v u Q I r hw;obtain⟨a,xs,e1,hq,hl,hw⟩:=hw;subst e1
 cases r
 obtain⟨its,rv,ht,hz⟩:=I.tuple hq
 refine assign_Tuple_tuple (I.ok.hd hc) ht (by simp[hn,<- hl,rv.length]) hst fun h' hx=>?_
 have I1:Inv X pins σ H { s with heap:=h' }:=I.kept (t':=s.toks) fun b o e=>hx b o (aV (aA e)) e
 exact h pins _ σ H xs _ Q I1 (by simpa using rv) hw
def Bz6 (to ti:TE)(t:Bj4):TG:=fun v σ H Q=>to σ H fun o H1=>ti σ H1 fun i H2=>t o i v H2 fun H3=>Q σ H3
theorem Bq2 {o i:Expr}{to ti:TE}{t:Bj4}(ho:PE X o to)(hi:PE X i ti)(hs:Bo9 X t)
 (ha:∀v,assign (.Subscript o i pos) X.env v=(do
  let ov <- holding [v] (eval o X.env)
  let iv <- holding [v,ov] (eval i X.env)
  standAt pos
  holding [v,ov,iv] (setItem ov iv v)
  release [v,ov,iv] []):=by intro _;rfl):PG X (.Subscript o i pos) (Bz6 to ti t):=by
 intro pins s σ H v u Q I r h;rw[ha]
 refine aj (cG (thn (ho pins s σ H _ I h) fun ov s1 ⟨x,H1,I1,r1,q1⟩=>?_))
 refine aj (cG (thn (hi pins s1 σ H1 _ I1 q1) fun iv s2 ⟨y,H2,I2,r2,q2⟩=>?_))
 refine aj (gH (aj (cG (thn (hs pins s2 σ H2 x y v ov iv u _ I2 r1 r2 r q2) fun _ s3 ⟨H3,I3,q3⟩=>?_))))
 exact wpAny_release ⟨σ,H3,I3,q3⟩
def Yz (te:TE)(g:TG):TS:=fun D σ H=>te σ H fun x H1=>g x σ H1 D.nx
theorem Bv4 {tg e:Expr}{te:TE}{g:TG}(he:PE X e te)(hg:PG X tg g)(hs:swapsWithSole [tg] e pos.line X.env=pure false:=by rfl)(hw:swappedStores [tg] e X.env=pure none:=by rfl)
 (h1:(assignEach [tg] X.env).map (·.2)=[assign tg X.env]:=by rfl):PS X (.Assign [tg] e pos) (Yz te g):=by
 intro pins s σ H D I h
 refine wpAny_Assign_stores (thn (he pins s σ H _ I h) fun v s1 ⟨x,H1,I1,r1,q1⟩=>?_) hs hw
 rw[h1]
 exact thn (hg pins s1 σ H1 x v _ I1 r1 q1) fun _ s2 q=>q
theorem Bw9 {i:Nat}{x:Str}{e:Expr}{te:TE}{pos':Pos}(hN:X.N.Nodup)(hi:X.N[i]?=some x)(hx:Loc X.env.scope x)(he:PE X e te)(hs:swapsWith e (some (.Name x pos')) pos.line X.env=pure false:=by rfl)(hf:X.fn x=true\/X.env.scope.names.lookup x=some .local:=by first | exact .inl rfl | exact .inr rfl | assumption) :
 PS X (.Assign [.Name x pos'] e pos) (Yz te (Mp i)):=by
 intro pins s σ H D I h
 refine wpAny_Assign_Name (thn (he pins s σ H _ I h) fun v s1 ⟨y,H1,I1,r1,q1⟩=>?_) hs
 exact Qt I1 hN hi hx r1 (fun s2 I2=>⟨_,H1,I2,q1⟩) hf
def Bw8 (i j:Nat)(ta:TA):TS:=fun D σ H=>ta σ H fun vs H1=>∃v w,vs=[v,w]/\D.nx ((σ.set i (some v)).set j (some w)) H1
theorem Bo8 {i j:Nat}{x y:Str}{a b:Expr}{ta:TA}{px py pt:Pos}{kt k2 pt2}(hc:X.calm=true)(hN:X.N.Nodup)(hi:X.N[i]?=some x)(hj:X.N[j]?=some y)(hij:i≠j)
 (hx:X.env.scope.names.lookup x=some .local) (hy:X.env.scope.names.lookup y=some .local) (ha:PA X [a,b] ta)
 (hw:swappedStores [.Tuple [.Name x px,.Name y py] kt pt] (.Tuple [a,b] k2 pt2) X.env=pure (some [x,y]))
 (hs:swapsWithSole [.Tuple [.Name x px,.Name y py] kt pt] (.Tuple [a,b] k2 pt2) pos.line X.env=pure false:=by rfl) :
 PS X (.Assign [.Tuple [.Name x px,.Name y py] kt pt] (.Tuple [a,b] k2 pt2) pos) (Bw8 i j ta):=by
 intro pins s σ H D I h;rw[exec_Assign_arm]
 refine aj (gH ?_)
 rw[hs]
 refine aj (ao ?_)
 rw[if_neg (by decide)]
 refine aj (Tuple_ (thn (ha _ pins s σ H _ I h) fun us s1 ⟨vs,H1,I1,r1,q1⟩=>?_))
 obtain⟨v,w,e1,q1⟩:=q1;subst e1
 obtain⟨u1,u2,rfl,rv,rw'⟩:∃u1 u2,us=[u1,u2]/\RelV v u1/\RelV w u2:=by
  cases r1 with
  | cons p q =>
   cases q with
   | cons p' q' =>
    cases q'
    exact⟨_,_,rfl,p,p'⟩
 refine cA ?_ (by show 2<=sizeLine;decide)
 have I2:Inv X pins σ H1 { s1 with heap:=s1.heap.push { cls:=.type "tuple",data:=.seq [u1,u2].toArray } }:=I1.kept (t':=s1.toks) fun b o e=>aG _ e
 rw[hw]
 refine aj (ao ?_)
 show wpAny (model X.prog X.w) X.A (do rule "assign.swapped-stores";let items <- unpackItems (.ref s1.heap.objs.size) 2 none;assignInOrder [fun v=>bindName X.env y v,fun v=>bindName X.env x v] items.reverse;pure Flow.next) _ _ _
 refine aj (cT (aj (unpackItems_tuple (items:=#[u1,u2]) (I.ok.hd hc) (IsTup.new s1.heap _) fun h' hx'=>?_)))
 have I3:=I2.kept (h':=h') (t':=s1.toks) fun b o e=>hx' b o (aV (aA e)) e
 show wpAny _ _ (assignInOrder [fun v=>bindName X.env y v,fun v=>bindName X.env x v] [u2,u1] >>= fun _=>pure Flow.next) _ _ _
 refine aj (jc (wpAny_bindName (Qt I3 hN hj (.inl hy) rw' (fun s2 I4=>?_) (.inr hy))))
 refine jc (wpAny_bindName (Qt I4 hN hi (.inl hx) rv (fun s3 I5=>assignInOrder_nil (ao ?_)) (.inr hx)))
 rw[List.set_comm _ _ (aJ hij)]at I5;exact⟨_,H1,I5,q1⟩
end
structure It where
 go:Nat->Hp->Prop
 yld:Nat->Hp->V->Hp->Prop
 stop:Nat->Hp->Prop
def Ma (X:Cx)(pins:y_)(H:Hp)(b:Addr):Prop :=
 H b=none/\b≠X.env.locals/\b∉X.fs/\(b∈X.ex\/X.s₀.heap.objs.size<=b)/\(∀x c,X.env.cells.lookup x=some c->c≠b)/\∀p∈X.pn++pins,p.1≠b
theorem Inv.fpOk {X:Cx}{pins:y_}{σ:St}{H H':Hp}{s:q9}{b:Addr}(I:Inv X pins σ H s)(hb:s.heap.objs.size<=b)(hn:H' b=none):Ma X pins H' b:=by
 refine⟨hn,cj (aP I.lt hb),I.nofs hb,.inr (au I.sz hb),fun x c e z=>?_,fun p hp z=>?_⟩
 ·obtain⟨v,q⟩:=I.cell x c e
  exact absurd (aP q.lt (by rw[z];exact hb)) (bh _)
 ·exact absurd (aP (aA (I.pin p hp).1) (by rw[z];exact hb)) (bh _)
structure Turn (P:t6) (w:World) (K:v_) (tg:Expr) (J:It) (fp:v5) (it:Addr) (tn:Nat->Heap->Prop):Prop where
 mem:it∈fp
 obj:∀i h,tn i h->∀b∈fp,∃o,h.get? b=some o/\∀v,o.data≠.cell v
 keep:∀i h h',tn i h->(∀b∈fp,∀o,h.get? b=some o->h'.get? b=some o)->tn i h'
 item:∀(X:Cx),X.prog=P->X.w=w->X.K=K->X.calm=true->∀(i:Nat) (pins:y_) (s:q9) (σ:St) (H:Hp) (E:z_),Inv X pins σ H s->(∀b∈fp,Ma X pins H b)->tn i s.heap->J.go i H ->
  wpAny (model P w) X.A (pyNext (.ref it)) (fun r s1=>∃u,r=some u /\
   wpAny (model P w) X.A (letOwnedTupleGo tg (.ref it) u) (fun _ s2=>∃x H',Inv X pins σ H' s2/\RelV x u/\J.yld i H x H'/\tn (i+1) s2.heap/\∀b∈fp,H' b=none) E s1) E s
 done:∀(X:Cx),X.prog=P->X.w=w->X.K=K->X.calm=true->∀(i:Nat) (pins:y_) (s:q9) (σ:St) (H:Hp) (E:z_),Inv X pins σ H s->(∀b∈fp,Ma X pins H b)->tn i s.heap->J.stop i H ->
  wpAny (model P w) X.A (pyNext (.ref it)) (fun r s1=>r=none/\Inv X pins σ H s1) E s
 self:∀(A:p6) (i:Nat) (s:q9) (Q:z_) (E:z_),tn i s.heap->Q (.ref it) s->wpAny (model P w) A (pyIter (.ref it)) Q E s
abbrev TI:=St->Hp->(It->Hp->Prop)->Prop
def PIE (X:Cx)(pins:y_)(σ:St)(tg:Expr)(R:It->Hp->Prop)(itv:Value)(s2:q9):Prop :=
 ∃(it:Addr) (fp:v5) (tn:Nat->Heap->Prop) (J:It) (H':Hp),itv=.ref it/\Inv X pins σ H' s2/\Turn X.prog X.w X.K tg J fp it tn/\tn 0 s2.heap/\(∀b∈fp,Ma X pins H' b)/\R J H'
def PI (X:Cx)(tg iter:Expr)(wi:TI):Prop :=
 ∀
  (pins:y_) (s:q9) (σ:St) (H:Hp) (R:It->Hp->Prop),Inv X pins σ H s->wi σ H R ->
  wpAny (model X.prog X.w) X.A (eval iter X.env) (fun v s1=>wpAny (model X.prog X.w) X.A (pyIter v) (PIE X pins σ tg R) X.xe s1) X.xe s
theorem Ah5 {M:Model}{A:p6}{E:z_}{s:q9}{tg:Expr}{it:Addr}{u:Value}{o:Obj}{n:String}{vs:v6}{Q:Unit->q9->Prop}(ho:s.heap.get? it=some o)(hc:o.cls=.type n)(hd:o.data=.fields vs)
 (hn:["enumerate", "zip", "dict_itemiterator", "dict_reverseitemiterator", "odict_iterator", "itertools.zip_longest", "itertools.pairwise"].contains n=false) (hQ:Q () s):wpAny M A (letOwnedTupleGo tg (.ref it) u) Q E s:=by
 unfold letOwnedTupleGo
 cases tg <;> first
  | exact ao hQ
  | (cases u <;> first
   | exact ao hQ
   | (
    refine aj (wpAny_load ho ?_)
    rw[hc,hd]
    show wpAny M A (if (["enumerate", "zip", "dict_itemiterator", "dict_reverseitemiterator", "odict_iterator", "itertools.zip_longest", "itertools.pairwise"].contains n&&vs[0]?==some (rawInt _))=true then _ else _) Q E s
    rw[if_neg (by intro h;rw[hn,Bool.false_and]at h;cases h)]
    exact ao hQ))
def Itl (K:v_)(a:Addr):It :=
 ⟨fun i H=>∃xs x,SqL K H a xs/\xs[i]?=some x,fun i H x H'=>H'=H/\∀xs,SqL K H a xs->xs[i]?=some x,fun i H=>∃xs,SqL K H a xs/\xs.length<=i⟩
def Itt (K:v_)(a:Addr):It :=
 ⟨fun i H=>∃xs x,SqT K H a xs/\xs[i]?=some x,fun i H x H'=>H'=H/\∀xs,SqT K H a xs->xs[i]?=some x,fun i H=>∃xs,SqT K H a xs/\xs.length<=i⟩
def Itr (lo:Int)(n:Nat):It:=⟨fun i _=>i<n,fun i H x H'=>H'=H/\x=.int (lo+i),fun i _=>n<=i⟩
theorem A1r {P:t6}{w:World}{K:v_}{tg:Expr}(a it:Addr):Turn P w K tg (Itl K a) [it] it (fun i h=>h.IsListIter it a i) where
 mem:=by simp
 obj:=fun i h st b hb=>by
  have e:b=it:=by simpa using hb
  subst e;obtain⟨o,e,c,d⟩:=st
  exact⟨o,e,fun v z=>by rw[d]at z;cases z⟩
 keep:=fun i h h' st k=>st.at fun o e=>k it (by simp) o e
 item:=by
  intro X hP hw hK hc i pins s σ H E I hf st hg;subst hP hw hK;obtain⟨xs,x,hq,hx⟩:=hg;obtain⟨its,rv,p,hz⟩:=I.list hq;obtain⟨u,hu,ru⟩:=rv.get hx
  obtain⟨f0,f1,f2,f3,f4,f5⟩:=hf it (by simp)
  refine wpAny_pyNext_list_item st p.isList (x:=u) (by simpa using hu) fun h' st' sb=>?_
  have I1:Inv X pins σ H { s with heap:=h' }:=I.turned (t':=s.toks) (fun b o hb e=>(sb.2 b hb).trans e) f0 f1 f3 f4 f5
  obtain⟨o,e,c,d⟩:=id st'
  exact⟨u,rfl,Ah5 (s:={ s with heap:=h' }) e c d (by decide) ⟨x,H,I1,ru,⟨rfl,fun ys hy=>by rw[I.list_inj hy hq];exact hx⟩,st',fun b hb=>(hf b hb).1⟩⟩
 done:=by
  intro X hP hw hK hc i pins s σ H E I hf st hg;subst hP hw hK;obtain⟨xs,hq,hx⟩:=hg;obtain⟨its,rv,p,hz⟩:=I.list hq
  obtain⟨f0,f1,f2,f3,f4,f5⟩:=hf it (by simp)
  have hl:=rv.length
  exact wpAny_pyNext_list_end (I.ok.hd hc) st p.isList (by simp;omega) fun h' eb=>⟨rfl,I.turned (t':=s.toks) (fun b o hb e=>eb b o hb e) f0 f1 f3 f4 f5⟩
 self:=fun _ _ _ _ _ st h=>wpAny_pyIter_listiter st h
theorem As3 {P:t6}{w:World}{K:v_}{tg:Expr}(a it:Addr):Turn P w K tg (Itt K a) [it] it (fun i h=>h.IsTupleIter it a i) where
 mem:=by simp
 obj:=fun i h st b hb=>by
  have e:b=it:=by simpa using hb
  subst e;obtain⟨o,e,c,d⟩:=st
  exact⟨o,e,fun v z=>by rw[d]at z;cases z⟩
 keep:=fun i h h' st k=>st.at fun o e=>k it (by simp) o e
 item:=by
  intro X hP hw hK hc i pins s σ H E I hf st hg;subst hP hw hK;obtain⟨xs,x,hq,hx⟩:=hg;obtain⟨its,rv,p,hz⟩:=I.tuple hq;obtain⟨u,hu,ru⟩:=rv.get hx
  obtain⟨f0,f1,f2,f3,f4,f5⟩:=hf it (by simp)
  refine wpAny_pyNext_tuple_item st (show s.heap.IsTuple a its.toArray from p) (x:=u) (by simpa using hu) fun h' st' sb=>?_
  have I1:Inv X pins σ H { s with heap:=h' }:=I.turned (t':=s.toks) (fun b o hb e=>(sb.2 b hb).trans e) f0 f1 f3 f4 f5
  obtain⟨o,e,c,d⟩:=id st'
  exact⟨u,rfl,Ah5 (s:={ s with heap:=h' }) e c d (by decide) ⟨x,H,I1,ru,⟨rfl,fun ys hy=>by rw[I.tuple_inj hy hq];exact hx⟩,st',fun b hb=>(hf b hb).1⟩⟩
 done:=by
  intro X hP hw hK hc i pins s σ H E I hf st hg;subst hP hw hK;obtain⟨xs,hq,hx⟩:=hg;obtain⟨its,rv,p,hz⟩:=I.tuple hq
  obtain⟨f0,f1,f2,f3,f4,f5⟩:=hf it (by simp)
  have hl:=rv.length
  exact wpAny_pyNext_tuple_end (I.ok.hd hc) st (show s.heap.IsTuple a its.toArray from p) (by simp;omega) fun h' eb=>⟨rfl,I.turned (t':=s.toks) (fun b o hb e=>eb b o hb e) f0 f1 f3 f4 f5⟩
 self:=fun _ _ _ _ _ st h=>wpAny_pyIter_tupleiter st h
theorem Aq1 {P:t6}{w:World}{K:v_}{tg:Expr}(it:Addr)(lo:Int)(n:Nat):Turn P w K tg (Itr lo n) [it] it (fun i h=>IsRangeIter h it (lo+(i:Nat)*1) ((n:Int)-(i:Nat)) 1) where
 mem:=by simp
 obj:=fun i h st b hb=>by
  have e:b=it:=by simpa using hb
  subst e
  exact⟨_,st,fun v z=>by
   have z':Data.fields _=Data.cell v:=z
   cases z'⟩
 keep:=fun i h h' st k=>k it (by simp) _ st
 item:=by
  intro X hP hw hK hc i pins s σ H E I hf st hg;subst hP hw hK
  obtain⟨f0,f1,f2,f3,f4,f5⟩:=hf it (by simp)
  have W:=Walks.range (prog:=X.prog) (w:=X.w) (I.ok.hd hc) it lo 1 n
  refine W.item i s _ _ hg st fun v h' tk hv st' kk=>?_
  obtain⟨t,rfl⟩:=hv
  have I1:Inv X pins σ H { s with heap:=h',toks:=tk }:=I.turned (fun b o hb e=>kk b o (by simpa using hb) e) f0 f1 f3 f4 f5
  refine⟨_,rfl,Ah5 (s:={ s with heap:=h',toks:=tk }) (n := "range_iterator") st' rfl rfl (by decide) ⟨.int (lo+i),H,I1,⟨t,?_⟩,⟨rfl,rfl⟩,st',fun b hb=>(hf b hb).1⟩⟩
  rw[Int.mul_one]
 done:=by
  intro X hP hw hK hc i pins s σ H E I hf st hg;subst hP hw hK
  obtain⟨f0,f1,f2,f3,f4,f5⟩:=hf it (by simp)
  exact wpAny_pyNext_range_end (I.ok.hd hc) st (by have:n<=i:=hg;omega) fun h' eb=>⟨rfl,I.turned (t':=s.toks) (fun b o hb e=>eb b o hb e) f0 f1 f3 f4 f5⟩
 self:=fun _ _ _ _ _ st h=>wpAny_pyIter_rangeiter st h
section
variable {X:Cx}{tg:Expr}
theorem A5f {pins:y_}{σ:St}{H:Hp}{s:q9}{R:It->Hp->Prop}{E:z_}{lo hi:Int}{t u v:Tok}{tk:Nat}(I:Inv X pins σ H s)(h1:-(2 ^ 62)<=lo)(h2:lo<2 ^ 62)(h3:-(2 ^ 62)<=hi)(h4:hi<2 ^ 62)
 (q:R (Itr lo (hi-lo).toNat) H):wpAny (model X.prog X.w) X.A (pyIter (.ref s.heap.objs.size)) (PIE X pins σ tg R) E { s with heap:=s.heap.push { cls:=.type "range",data:=.fields #[.int lo t,.int hi u,.int 1 v] },toks:=tk }:=by
 refine wpAny_pyIter_range (IsRange.new ..) (small_one h1 h2 h3 h4) ?_
 have I1:Inv X pins σ H { s with heap:=s.heap.push { cls:=.type "range",data:=.fields #[.int lo t,.int hi u,.int 1 v] },toks:=tk }:=I.kept fun b o e=>aG _ e
 refine⟨(s.heap.push { cls:=.type "range",data:=.fields #[.int lo t,.int hi u,.int 1 v] }).objs.size,[(s.heap.push { cls:=.type "range",data:=.fields #[.int lo t,.int hi u,.int 1 v] }).objs.size],_,_,H,rfl,
  I1.kept (t':=tk) fun b o e=>aG _ e,Aq1 _ lo (hi-lo).toNat,?_,fun b hb=>?_,q⟩
 ·have e1:lo+((0:Nat):Int)*1=lo:=by simp
  have e2:(((hi-lo).toNat:Nat):Int)-((0:Nat):Int)=Builtin.Range.rangeSize lo hi 1:=by rw[rangeSize_one];split <;> omega
  show IsRangeIter _ _ (lo+((0:Nat):Int)*1) ((((hi-lo).toNat:Nat):Int)-((0:Nat):Int)) 1
  rw[e1,e2];exact aH _ rfl
 ·have e:b=(s.heap.push { cls:=.type "range",data:=.fields #[.int lo t,.int hi u,.int 1 v] }).objs.size:=by simpa using hb
  subst e;exact I1.fpOk (aq _) (I1.hok.fresh (aq _))
def A6n (ta:TA):TI:=fun σ H R=>ta σ H fun vs H1=>∃j:Int,vs=[.int j]/\-(2 ^ 62)<=j/\j<2 ^ 62/\R (Itr 0 j.toNat) H1
theorem A3n {a:Expr}{ta:TA}{p pos:Pos}(hg:Gl X "range") (hm:X.mg "range" = none) (ha:PA X [a] ta) (hs:starEach [a] X.env=[(false,eval a X.env)]:=by rfl):PI X tg (.Call (.Name "range" p) [a] [] pos) (A6n ta):=by
 intro pins s σ H R I h
 refine Call_ (J9 I hg hm boot_range (eO (thn (ha pos pins s σ H _ I h) fun us s1 ⟨vs,H1,I1,r1,q1⟩=>?_) hs rfl))
 obtain⟨j,e,q1,q2,q⟩:=q1;subst e
 cases r1 with
 | cons r rr =>
  cases rr
  obtain⟨t,rfl⟩:=r
  exact call_range_1 (A5f I1 (by omega) (by omega) q1 q2 (by simpa using q))
def Bl5 (wi:TI)(g:TG)(tb:TS):TS:=fun D σ H=>wi σ H fun J H1=>∃W:Nat->Nat->St->Hp->Prop,(∃m,W 0 m σ H1)/\∀i m σ H,W i m σ H ->
 (J.stop i H/\D.nx σ H)\/(J.go i H/\∃N:St->Hp->Prop,(∀σ' H',N σ' H'->∃m',m'<m/\W (i+1) m' σ' H')/\∀x H',J.yld i H x H'->g x σ H' fun σ2 H2=>tb { D with nx:=N,ct:=N,bk:=D.nx } σ2 H2)
def Wl (fp:v5)(h:Heap):y_:=fp.filterMap fun b=>(h.get? b).map fun o=>(b,o)
theorem Le {fp:v5}{h:Heap}{b:Addr}{o:Obj}(hb:b∈fp)(e:h.get? b=some o):(b,o)∈Wl fp h:=List.mem_filterMap.mpr ⟨b,hb,by rw[e];rfl⟩
theorem A0s {fp:v5}{h:Heap}{p:Addr×Obj}(hp:p∈Wl fp h):p.1∈fp/\h.get? p.1=some p.2:=by
 obtain⟨b,hb,e⟩:=List.mem_filterMap.mp hp
 cases q:h.get? b with
 | none=>rw[q]at e;cases e
 | some o =>
  rw[q]at e;have e':(b,o)=p:=bK e;subst e';exact⟨hb,q⟩
theorem Inv.pinned {pins:y_}{σ:St}{H:Hp}{s:q9}{fp:v5}(I:Inv X pins σ H s)(hf:∀b∈fp,Ma X pins H b)(ho:∀b∈fp,∃o,s.heap.get? b=some o/\∀v,o.data≠.cell v):Inv X (pins++Wl fp s.heap) σ H s :=
 I.pins_of fun p hp=>(bY.mp hp).elim (fun z=>I.pin p (aU _ z)) fun z=>by
  obtain⟨hb,e⟩:=A0s z;obtain⟨f0,f1,f2,_⟩:=hf p.1 hb;obtain⟨o,e',d⟩:=ho p.1 hb;rw[e]at e';cases e';exact⟨e,f0,f1,f2,d⟩
theorem Inv.unpinned {pins pl:y_}{σ:St}{H:Hp}{s:q9}(I:Inv X (pins++pl) σ H s):Inv X pins σ H s:=I.pins_of fun p hp=>I.pin p (aU _ (dh _ hp))
theorem Bw2 {iter:Expr}{body:List Stmt}{wi:TI}{g:TG}{tb:TS}{pos:Pos}(hp:PassesOwn (model X.prog X.w) X.A X.env X.xe)(hc:X.calm=true)(hi:PI X tg iter wi)(hg:PG X tg g)(hb:PSs X body tb)
 (hs:∀x,foldedSetIterable iter X.env x=pure x:=by intro _;rfl):PS X (.For tg iter body [] pos) (Bl5 wi g tb):=by
 intro pins s σ H D I h
 refine wpAny_For (thn (hi pins s σ H _ I h) fun v s1 h1=>thn h1 fun itv s2 h2=>?_) hs
 obtain⟨it,fp,tn,J,H2,e,I2,T,st2,f2,W,⟨m0,w0⟩,turn⟩:=h2;subst e
 have stat:∀{H':Hp},(∀b∈fp,H' b=none)->∀b∈fp,Ma X pins H' b:=fun hn b hb=>⟨hn b hb,(f2 b hb).2⟩
 refine codeAny_forLoop_any (fun n s'=>∃i σ' H',Inv X pins σ' H' s'/\tn i s'.heap/\(∀b∈fp,H' b=none)/\W i n σ' H') ?_ m0 ⟨0,σ,H2,I2,st2,fun b hb=>(f2 b hb).1,w0⟩
 rintro n s3 ⟨i,σ3,H3,I3,st3,fr3,w3⟩
 rcases turn i n σ3 H3 w3 with ⟨stop,qn⟩ | ⟨go,N,hN,step⟩
 ·refine gJ hp (thn (T.done X rfl rfl rfl hc i pins s3 σ3 H3 X.xe I3 (stat fr3) st3 stop) fun r s4 ⟨hr,I4⟩=>?_)
  subst hr;exact wpAny_execs_nil ⟨σ3,H3,I4,qn⟩
 ·refine gJ hp (thn (T.item X rfl rfl rfl hc i pins s3 σ3 H3 X.xe I3 (stat fr3) st3 go) fun r s4 ⟨u,hr,h4⟩=>?_)
  subst hr
  refine gJ hp (thn h4 fun _ s5 ⟨x,H5,I5,r5,y5,st5,fr5⟩=>?_)
  have I5':=I5.pinned (stat fr5) (T.obj _ _ st5)
  refine gJ hp (thn (hg _ s5 σ3 H5 x u _ I5' r5 (step x H5 y5)) fun _ s6 ⟨σ6,H6,I6,q6⟩=>?_)
  refine gJ hp (thn (hb _ s6 σ6 H6 _ I6 q6) fun f s7 q7=>?_)
  have again:∀{σ7:St} {H7:Hp},Inv X (pins++Wl fp s5.heap) σ7 H7 s7->N σ7 H7->∃m,m<n/\∃i σ' H',Inv X pins σ' H' s7/\tn i s7.heap/\(∀b∈fp,H' b=none)/\W i m σ' H':=fun {σ7 H7} I7 n7=>by
   obtain⟨m',hm,w7⟩:=hN σ7 H7 n7
   refine⟨m',hm,i+1,σ7,H7,I7.unpinned,T.keep _ _ _ st5 fun b hb o e=>(I7.pin (b,o) (aU _ (aU _ (Le hb e)))).1,fun b hb=>?_,w7⟩
   obtain⟨o,e,d⟩:=T.obj _ _ st5 b hb;exact(I7.pin (b,o) (aU _ (aU _ (Le hb e)))).2.1
  cases f with
  | next=>obtain⟨σ7,H7,I7,n7⟩:=q7;exact again I7 n7
  | cont=>obtain⟨σ7,H7,I7,n7⟩:=q7;exact again I7 n7
  | brk=>obtain⟨σ7,H7,I7,q7⟩:=q7;exact⟨σ7,H7,I7.unpinned,q7⟩
  | ret v=>obtain⟨x7,σ7,H7,I7,r7,q7⟩:=q7;exact⟨x7,σ7,H7,I7.unpinned,r7,q7⟩
end
abbrev R2:=V->V->Hp->VK->Prop
def OpR (X:Cx)(f:Value->Value->Sem Value)(r:R2):Prop :=
 ∀
  (pins:y_) (s:q9) (σ:St) (H:Hp) (x y:V) (v u:Value) (Q:VK),Inv X pins σ H s->RelV x v->RelV y u->r x y H Q ->
  wpAny (model X.prog X.w) X.A (f v u) (EP X pins σ Q) X.xe s
def CallR (X:Cx)(f:Value)(r:m7->Hp->VK->Prop):Prop :=
 ∀
  (pins:y_) (s:q9) (σ:St) (H:Hp) (xs:m7) (us:w6) (Q:VK),Inv X pins σ H s->Vals xs us->r xs H Q ->
  wpAny (model X.prog X.w) X.A (call f us) (EP X pins σ Q) X.xe s
def tOp (r:R2)(ta tb:TE):TE:=fun σ H Q=>ta σ H fun x H1=>tb σ H1 fun y H2=>r x y H2 Q
def tUn (r:V->Hp->VK->Prop)(ta:TE):TE:=fun σ H Q=>ta σ H fun x H1=>r x H1 Q
def rI (C:Int->Int->Prop)(g:Int->Int->V):R2:=fun x y H Q=>∃i j,x=.int i/\y=.int j/\C i j/\Q (g i j) H
def rI0 (g:Int->Int->V):R2:=fun x y H Q=>∃i j,x=.int i/\y=.int j/\Q (g i j) H
section
variable {X:Cx}{a b c:Expr}{ta tb tc:TE}{pos:Pos}
theorem Bu0 (ha:PE X a ta)(hb:PE X b tb){pins:y_}{s:q9}{σ:St}{H:Hp}{R:V->V->Hp->Prop}(I:Inv X pins σ H s)
 (h:ta σ H fun x H1=>tb σ H1 fun y H2=>R x y H2) {Q:z_} {f:Value->Value->Sem Value}
 (hf:∀v u s2 x y H2,Inv X pins σ H2 s2->RelV x v->RelV y u->R x y H2->wpAny (model X.prog X.w) X.A (f v u) Q X.xe s2) :
 wpAny (model X.prog X.w) X.A (eval a X.env) (fun v s₁=>wpAny (model X.prog X.w) X.A (eval b X.env) (fun u s₂=>wpAny (model X.prog X.w) X.A (f v u) Q X.xe s₂) X.xe s₁) X.xe s:=by
 refine thn (ha pins s σ H _ I h) fun v s1 ⟨x,H1,I1,r1,q1⟩=>?_
 refine thn (hb pins s1 σ H1 _ I1 q1) fun u s2 ⟨y,H2,I2,r2,q2⟩=>?_
 exact hf v u s2 x y H2 I2 r1 r2 q2
theorem Vq {op:Operator}{r:R2}(ho:OpR X (binaryOp op) r)(ha:PE X a ta)(hb:PE X b tb):PE X (.BinOp a op b pos) (tOp r ta tb):=by
 intro pins s σ H Q I h
 exact wpAny_BinOp (Bu0 ha hb I h fun v u s2 x y H2 I2 rx ry q=>ho pins s2 σ H2 x y v u Q I2 rx ry q)
theorem opI {f:Value->Value->Sem Value}{C:Int->Int->Prop}{g:Int->Int->Int}
 (rule:∀(i j:Int) (t u:Tok) (s:q9) (Q:z_) (E:z_),C i j->Q (.int (g i j) s.toks) { s with toks:=s.toks+1 }->wpAny (model X.prog X.w) X.A (f (.int i t) (.int j u)) Q E s) :
 OpR X f (rI C fun i j=>.int (g i j)):=by
 intro pins s σ H x y v u Q I rx ry h;obtain⟨i,j,rfl,rfl,hc,q⟩:=h;obtain⟨t,rfl⟩:=rx;obtain⟨t',rfl⟩:=ry;exact rule i j t t' s _ _ hc ⟨.int (g i j),H,I.tok _,⟨_,rfl⟩,q⟩
theorem Xn {f:Value->Value->Sem Value}{g:Int->Int->Int}
 (rule:∀(i j:Int) (t u:Tok) (s:q9) (Q:z_) (E:z_),Q (.int (g i j) s.toks) { s with toks:=s.toks+1 }->wpAny (model X.prog X.w) X.A (f (.int i t) (.int j u)) Q E s) :
 OpR X f (rI0 fun i j=>.int (g i j)):=by
 intro pins s σ H x y v u Q I rx ry h;obtain⟨i,j,rfl,rfl,q⟩:=h;obtain⟨t,rfl⟩:=rx;obtain⟨t',rfl⟩:=ry;exact rule i j t t' s _ _ ⟨.int (g i j),H,I.tok _,⟨_,rfl⟩,q⟩
theorem Bz5 {f:Value->Value->Sem Value}{g:Int->Int->Bool}
 (rule:∀(i j:Int) (t u:Tok) (s:q9) (Q:z_) (E:z_),Q (.bool (g i j)) s->wpAny (model X.prog X.w) X.A (f (.int i t) (.int j u)) Q E s) :
 OpR X f (rI0 fun i j=>.bl (g i j)):=by
 intro pins s σ H x y v u Q I rx ry h;obtain⟨i,j,rfl,rfl,q⟩:=h;obtain⟨t,rfl⟩:=rx;obtain⟨t',rfl⟩:=ry;exact rule i j t t' s _ _ ⟨.bl (g i j),H,I,rfl,q⟩
def A5o (i j:Int):Prop:=0<j/\j<1073741824
def A8g (i j:Int):Prop:=0<=j/\j<=1000000/\i.natAbs<2 ^ 64
def CMul (i j:Int):Prop:=(-(2 ^ 64)<i/\i<2 ^ 64)\/(-(2 ^ 64)<j/\j<2 ^ 64)
theorem CMul.ok {i j:Int}(h:CMul i j):IntMulOk i j:=by
 rcases h with ⟨h1,h2⟩ | ⟨h1,h2⟩
 ·exact .of_left (intBits_le_64 h1 h2)
 ·exact .of_right (intBits_le_64 h1 h2)
theorem Bq5:OpR X (binaryOp .Add) (rI0 fun i j=>.int (i+j)):=Xn fun _ _ _ _ _ _ _ q=>add_int q
theorem Bt5:OpR X (binaryOp .Sub) (rI0 fun i j=>.int (i-j)):=Xn fun _ _ _ _ _ _ _ q=>sub_int q
theorem Bz1:OpR X (binaryOp .Mult) (rI CMul fun i j=>.int (i*j)):=opI fun _ _ _ _ _ _ _ hc q=>mul_int q hc.ok
theorem Bi2:OpR X (binaryOp .FloorDiv) (rI A5o fun i j=>.int (i / j)):=opI fun i j _ _ _ _ _ hc q=>by
 have h1:(0:Int)<j:=hc.1;have h2:j<1073741824:=hc.2
 exact floordiv_int (by omega) (by rw[Int.fdiv_eq_ediv_of_nonneg i (by omega)];exact q) (.inl (PyProof.noPylong_small (by omega)))
theorem Bs1:OpR X (binaryOp .Mod) (rI (fun _ j=>0<j) fun i j=>.int (i % j)):=opI fun i j _ _ _ _ _ hc q=>by
 have h1:(0:Int)<j:=hc
 exact mod_int' (by omega) (by rw[Int.fmod_eq_emod_of_nonneg i (by omega)];exact q)
theorem Bv7:OpR X (binaryOp .Pow) (rI A8g fun i j=>.int (i ^ j.toNat)):=opI fun _ _ _ _ _ _ _ hc q=>pow_int_small hc.1 hc.2.1 hc.2.2 q
end
def B0y:V->V->Bool
 | .non,.non=>true | .non,.int _=>true | .int _,.non=>true | .non,.bl _=>true | .bl _,.non=>true | .non,.str _=>true | .str _,.non=>true
 | .int _,.int _=>true | .bl _,.bl _=>true | .str _,.str _=>true | .byt _,.byt _=>true
 | .int _,.str _=>true | .str _,.int _=>true | .bl _,.str _=>true | .str _,.bl _=>true
 | _,_=>false
def rEq:R2:=fun x y H Q=>B0y x y=true/\Q (.bl (decide (x=y))) H
def rNe:R2:=fun x y H Q=>B0y x y=true/\Q (.bl (!decide (x=y))) H
theorem Ax6 {i j:Int}:decide (V.int i=V.int j)=(i==j):=by
 rw[gK]
 simp
theorem A6f {i j:Bool}:decide (V.bl i=V.bl j)=(i==j):=by
 rw[gK]
 simp
theorem Az5 {i j:Str}:decide (V.str i=V.str j)=(i==j):=by
 rw[gK]
 simp
theorem A0m {i j:Array UInt8}:decide (V.byt i=V.byt j)=(i.toList==j.toList):=by
 rw[gK]
 cases i
 cases j
 simp
section
variable {X:Cx}{a b c:Expr}{ta tb tc:TE}{pos:Pos}
theorem Cj {pins:y_}{σ:St}{H:Hp}{s:q9}{Q:VK}{k k':Bool}(I:Inv X pins σ H s)(q:Q (.bl k) H)(e:k=k'):EP X pins σ Q (.bool k') s:=by
 subst e;exact⟨.bl k,H,I,rfl,q⟩
theorem B0z:OpR X (compareOp .Eq) rEq:=by
 intro pins s σ H x y v u Q I rx ry h;obtain⟨hs,q⟩:=h
 cases x with
 | non =>
  cases rx
  cases y with
  | non=>cases ry;exact PySem.EqNone.eq_none_none (Cj I q (by simp))
  | bl j=>cases ry;exact PySem.EqNone.eq_none_bool (Cj I q (by simp))
  | int j=>obtain⟨t',rfl⟩:=ry;exact PySem.EqNone.eq_none_int (Cj I q (by simp))
  | str j=>obtain⟨t',rfl⟩:=ry;exact PySem.EqNone.eq_none_str (Cj I q (by simp))
  | _=>exact absurd (show false=true from hs) aR
 | bl i =>
  cases rx
  cases y with
  | non=>cases ry;exact PySem.EqNone.eq_bool_none (Cj I q (by simp))
  | bl j=>cases ry;exact eq_bool (Cj I q A6f)
  | str j=>obtain⟨t',rfl⟩:=ry;exact PySem.EqMixed.eq_bool_str (Cj I q (by simp))
  | _=>exact absurd (show false=true from hs) aR
 | int i =>
  obtain⟨t,rfl⟩:=rx
  cases y with
  | non=>cases ry;exact PySem.EqNone.eq_int_none (Cj I q (by simp))
  | int j=>obtain⟨t',rfl⟩:=ry;exact eq_int (Cj I q Ax6)
  | str j=>obtain⟨t',rfl⟩:=ry;exact PySem.EqMixed.eq_int_str (Cj I q (by simp))
  | _=>exact absurd (show false=true from hs) aR
 | str i =>
  obtain⟨t,rfl⟩:=rx
  cases y with
  | non=>cases ry;exact PySem.EqNone.eq_str_none (Cj I q (by simp))
  | bl j=>cases ry;exact PySem.EqMixed.eq_str_bool (Cj I q (by simp))
  | int j=>obtain⟨t',rfl⟩:=ry;exact PySem.EqMixed.eq_str_int (Cj I q (by simp))
  | str j=>obtain⟨t',rfl⟩:=ry;exact eq_str (Cj I q Az5)
  | _=>exact absurd (show false=true from hs) aR
 | byt i =>
  obtain⟨t,rfl⟩:=rx
  cases y with
  | byt j=>obtain⟨t',rfl⟩:=ry;exact PySem.W.eq_bytes (Cj I q A0m)
  | _=>exact absurd (show false=true from hs) aR
 | _=>cases y <;> exact absurd (show false=true from hs) aR
theorem B0t:OpR X (compareOp .NotEq) rNe:=by
 intro pins s σ H x y v u Q I rx ry h;obtain⟨hs,q⟩:=h
 cases x with
 | non =>
  cases rx
  cases y with
  | non=>cases ry;exact PySem.EqNone.ne_none_none (Cj I q (by simp))
  | bl j=>cases ry;exact PySem.EqNone.ne_none_bool (Cj I q (by simp))
  | int j=>obtain⟨t',rfl⟩:=ry;exact PySem.EqNone.ne_none_int (Cj I q (by simp))
  | str j=>obtain⟨t',rfl⟩:=ry;exact PySem.EqNone.ne_none_str (Cj I q (by simp))
  | _=>exact absurd (show false=true from hs) aR
 | bl i =>
  cases rx
  cases y with
  | non=>cases ry;exact PySem.EqNone.ne_bool_none (Cj I q (by simp))
  | bl j=>cases ry;exact ne_bool (Cj I q (cJ not A6f))
  | str j=>obtain⟨t',rfl⟩:=ry;exact PySem.EqMixed.ne_bool_str (Cj I q (by simp))
  | _=>exact absurd (show false=true from hs) aR
 | int i =>
  obtain⟨t,rfl⟩:=rx
  cases y with
  | non=>cases ry;exact PySem.EqNone.ne_int_none (Cj I q (by simp))
  | int j=>obtain⟨t',rfl⟩:=ry;exact ne_int (Cj I q (cJ not Ax6))
  | str j=>obtain⟨t',rfl⟩:=ry;exact PySem.EqMixed.ne_int_str (Cj I q (by simp))
  | _=>exact absurd (show false=true from hs) aR
 | str i =>
  obtain⟨t,rfl⟩:=rx
  cases y with
  | non=>cases ry;exact PySem.EqNone.ne_str_none (Cj I q (by simp))
  | bl j=>cases ry;exact PySem.EqMixed.ne_str_bool (Cj I q (by simp))
  | int j=>obtain⟨t',rfl⟩:=ry;exact PySem.EqMixed.ne_str_int (Cj I q (by simp))
  | str j=>obtain⟨t',rfl⟩:=ry;exact ne_str (Cj I q (cJ not Az5))
  | _=>exact absurd (show false=true from hs) aR
 | byt i =>
  obtain⟨t,rfl⟩:=rx
  cases y with
  | byt j=>obtain⟨t',rfl⟩:=ry;exact PySem.W.ne_bytes (Cj I q (cJ not A0m))
  | _=>exact absurd (show false=true from hs) aR
 | _=>cases y <;> exact absurd (show false=true from hs) aR
theorem B1m:OpR X (compareOp .Lt) (rI0 fun i j=>.bl (decide (i<j))):=Bz5 fun _ _ _ _ _ _ _ q=>lt_int q
theorem B0n:OpR X (compareOp .Gt) (rI0 fun i j=>.bl (decide (j<i))):=Bz5 fun _ _ _ _ _ _ _ q=>gt_int q
theorem B0p:OpR X (compareOp .GtE) (rI0 fun i j=>.bl (decide (j<=i))):=Bz5 fun _ _ _ _ _ _ _ q=>ge_int q
theorem Bw3:OpR X (compareOp .Is) (fun x y H Q=>y=.non/\Q (.bl (decide (x=.non))) H):=by
 intro pins s σ H x y v u Q I rx ry h;obtain⟨rfl,q⟩:=h
 cases ry
 refine is_none_gen (Cj I q ?_)
 cases x <;> first
  | (cases rx;rfl)
  | (obtain⟨t,rfl⟩:=rx;rfl)
theorem OpR.or {f:Value->Value->Sem Value}{r r':R2}(h:OpR X f r)(h':OpR X f r'):OpR X f (fun x y H Q=>r x y H Q\/r' x y H Q):=by
 intro pins s σ H x y v u Q I rx ry q
 rcases q with q | q
 ·exact h pins s σ H x y v u Q I rx ry q
 ·exact h' pins s σ H x y v u Q I rx ry q
theorem O1 (b:Expr){op:CmpOp}(h:op≠.In:=by decide)(h2:op≠.NotIn:=by decide):behindInMarks op b=false:=by
 have e1:(op==CmpOp.In)=false:=by cases op <;> first | rfl | exact absurd rfl h
 have e2:(op==CmpOp.NotIn)=false:=by cases op <;> first | rfl | exact absurd rfl h2
 cases b <;> simp[behindInMarks,e1,e2]
theorem Za {op:CmpOp}{r:R2}(ho:OpR X (compareOp op) r)(ha:PE X a ta)(hb:PE X b tb)(hm:behindInMarks op b=false):PE X (.Compare a [op] [b] pos) (tOp r ta tb):=by
 intro pins s σ H Q I h
 exact wpAny_Compare1 (Bu0 ha hb I h fun v u s2 x y H2 I2 rx ry q=>ho pins s2 σ H2 x y v u Q I2 rx ry q) hm
def Km (t:TE):TT:=fun σ H Q=>t σ H fun x H'=>∃k,x=.bl k/\Q k H'
theorem Mh {op:CmpOp}{r:R2}(ho:OpR X (compareOp op) r)(ha:PE X a ta)(hb:PE X b tb)(hm:behindInMarks op b=false):PT X (.Compare a [op] [b] pos) (Km (tOp r ta tb)):=by
 intro pins s σ H Q I h
 refine wpAny_isTrue_Compare1 (thn (ha pins s σ H _ I h) fun v s1 ⟨x,H1,I1,r1,q1⟩=>thn (hb pins s1 σ H1 _ I1 q1) fun u s2 ⟨y,H2,I2,r2,q2⟩ =>
  thn (ho pins s2 σ H2 x y v u _ I2 r1 r2 q2) fun c s3 ⟨z,H3,I3,r3,k,e,q3⟩=>?_) hm
 subst e
 cases r3
 exact fM ⟨H3,I3,q3⟩
theorem U3:(sizeLine:Nat)<2 ^ 63:=by rw[sizeLine_eq];decide
theorem Ar3:OpR X (binaryOp .Add) (fun x y H Q=>∃i j,x=.str i/\y=.str j/\i.length+j.length<=sizeLine/\Q (.str (i++j)) H):=by
 intro pins s σ H x y v u Q I rx ry h;obtain⟨i,j,rfl,rfl,hz,q⟩:=h;obtain⟨t,rfl⟩:=rx;obtain⟨t',rfl⟩:=ry
 exact add_str (fun t' tk=>⟨.str (i++j),H,I.tok _,⟨_,rfl⟩,q⟩) hz
theorem vals1 {x:V}{us:w6}(r:Vals [x] us):∃u,us=[u]/\RelV x u:=by
 cases r with
 | cons r1 r2=>cases r2;exact⟨_,rfl,r1⟩
theorem vals2 {x y:V}{us:w6}(r:Vals [x,y] us):∃u w',us=[u,w']/\RelV x u/\RelV y w':=by
 cases r with
 | cons r1 r2 =>
  cases r2 with
  | cons r3 r4=>cases r4;exact⟨_,_,rfl,r1,r3⟩
theorem A6o:CallR X (.builtin "abs") (fun xs H Q=>∃i,xs=[.int i]/\Q (.int (if i<0 then -i else i)) H):=by
 intro pins s σ H xs us Q I r h;obtain⟨i,rfl,q⟩:=h;obtain⟨u,rfl,t,rfl⟩:=vals1 r
 exact call_abs_int fun u tk=>⟨.int (if i<0 then -i else i),H,I.tok _,⟨_,rfl⟩,q⟩
theorem A2z (hc:X.calm=true):CallR X (.builtin "min") (fun xs H Q=>∃i j,xs=[.int i,.int j]/\Q (.int (if j<i then j else i)) H):=by
 intro pins s σ H xs us Q I r h;obtain⟨i,j,rfl,q⟩:=h;obtain⟨u,w',rfl,⟨t,rfl⟩,⟨t',rfl⟩⟩:=vals2 r
 refine min_two_ints (I.ok.hd hc) fun h' tk k=>⟨_,H,I.kept k,?_,q⟩
 by_cases hj:j<i
 ·rw[if_pos hj,if_pos hj];exact⟨_,rfl⟩
 ·rw[if_neg hj,if_neg hj];exact⟨_,rfl⟩
theorem A2y:CallR X (.type "int") (fun xs H Q=>(∃i,xs=[.int i]/\Q (.int i) H)\/∃k,xs=[.bl k]/\Q (.int (if k then 1 else 0)) H):=by
 intro pins s σ H xs us Q I r h
 rcases h with ⟨i,rfl,q⟩ | ⟨k,rfl,q⟩
 ·obtain⟨u,rfl,t,rfl⟩:=vals1 r
  exact call_int_int ⟨.int i,H,I,⟨_,rfl⟩,q⟩
 ·obtain⟨u,rfl,r1⟩:=vals1 r
  cases r1
  exact call_int_bool ⟨.int (if k then 1 else 0),H,I.tok _,⟨_,rfl⟩,q⟩
theorem Zc:CallR X (.type "str") (fun xs H Q=>∃i,xs=[.int i]/\i.natAbs.log2<1920/\Q (.str (toString i)) H):=by
 intro pins s σ H xs us Q I r h;obtain⟨i,rfl,hz,q⟩:=h;obtain⟨u,rfl,t,rfl⟩:=vals1 r;exact PySem.P.str_of_int hz ⟨.str _,H,I.tok _,⟨_,rfl⟩,q⟩
def B0o (K:v_)(x:V)(H:Hp)(n:Nat):Prop :=
 match x with
 | .str y=>y.length<=sizeLine/\n=y.length
 | .byt y=>y.size<=sizeLine/\n=y.size
 | .ref p=>(∃xs,SqL K H p xs/\n=xs.length)\/∃xs,SqT K H p xs/\n=xs.length
 | _=>False
theorem Ai0:CallR X (.builtin "len") (fun xs H Q=>∃x n,xs=[x]/\B0o X.K x H n/\Q (.int n) H):=by
 intro pins s σ H xs us Q I r h;obtain⟨x,n,rfl,e,q⟩:=h;obtain⟨u,rfl,rx⟩:=vals1 r;have hl:=U3;have hs:sizeLine=16777216:=sizeLine_eq
 cases x with
 | str y =>
  obtain⟨t,rfl⟩:=rx;obtain⟨hy,e'⟩:y.length<=sizeLine/\n=y.length:=e;subst e'
  exact len_str (by omega) ⟨.int _,H,I.tok _,⟨_,rfl⟩,q⟩
 | byt y =>
  obtain⟨t,rfl⟩:=rx;obtain⟨hy,e'⟩:y.size<=sizeLine/\n=y.size:=e;subst e'
  exact PySem.W.len_bytes (by omega) ⟨.int _,H,I.tok _,⟨_,rfl⟩,q⟩
 | ref p =>
  cases rx
  have e':(∃xs,SqL X.K H p xs/\n=xs.length)\/∃xs,SqT X.K H p xs/\n=xs.length:=e
  rcases e' with ⟨xs,hx,e'⟩ | ⟨xs,hx,e'⟩
  ·subst e'
   obtain⟨its,r',pl,hz⟩:=I.list hx;have hlen:=r'.length
   exact Calls.call_len_list pl.isList (by simp only[aO];omega) ⟨.int xs.length,H,I.tok _,⟨_,by simp only[aO];rw[hlen]⟩,q⟩
  ·subst e'
   obtain⟨its,r',pl,hz⟩:=I.tuple hx;have hlen:=r'.length
   exact len_tuple pl (by simp only[aO];omega) ⟨.int xs.length,H,I.tok _,⟨_,by simp only[aO];rw[hlen]⟩,q⟩
 | _=>exact(show False from e).elim
end
structure ObjM (h:Heap) (x dx C:Addr) (mA:x_):Prop where
 obj:h.get? x=some (PySem.W.instObj C dx)
 ns:h.Ns1 dx mA
 ne:dx≠x
theorem A3q {h:Heap}{dx:Addr}{mA:x_}(n:h.Ns1 dx mA):∃od,h.get? dx=some od/\∀name,PySem.W.lookIn name od=some (mA name):=by
 obtain⟨o,es,ep,ho,hd,hk,_,hm⟩:=n
 refine⟨o,ho,fun name=>?_⟩
 have e:=hm name;unfold nsFind findBy at e;rw[<- Array.find?_toList]at e;unfold PySem.W.lookIn;rw[hd]
 dsimp only
 split
 ·rename_i y q
  rw[q]at e;exact cJ some e
 ·rename_i q
  rw[q]at e
  have a:es.toList.any (·.refKey)=false:=by
   rw[List.any_eq_false];intro y hy;obtain⟨z,t,hkey⟩:=hk y (Array.mem_toList_iff.mp hy)
   simp[DictEntry.refKey,hkey]
  have a':¬ es.toList.any (·.refKey)=true:=by rw[a];exact aR
  rw[if_neg a'];exact cJ some e
theorem ObjM.look {h:Heap}{x dx C:Addr}{mA:x_}(I:ObjM h x dx C mA):∃od,PySem.W.InstAt h x (PySem.W.instObj C dx) C (some od)/\∀name,PySem.W.lookIn name od=some (mA name) :=
 let ⟨od,ho,hl⟩:=A3q I.ns
 ⟨od,⟨I.obj,rfl,rfl,ho⟩,hl⟩
section
variable {prog:t6}{w:World}{A:p6}{E:z_}{s:q9}{K:v_}{x dx C f:Addr}{mA:x_}{name:Str}{v:Value}
theorem Ul {ns:v4}{Q:Unit->q9->Prop}(X:K.In s.heap)(I:ObjM s.heap x dx C mA)
 (hs:PySem.W.findIn K (.ref C) "__setattr__" = some (some (.builtin "object.__setattr__"))) (hp:PySem.W.plainOver K C=true) (ht:PySem.W.takerIn K C name=some none) (hh:PySem.W.hasDictIn K C=true)
 (hw:PySem.Within mA ns) (hsz:ns.length<=sizeLine)
 (h:∀h',ObjM h' x dx C (fun y=>if y=name then some v else mA y)->Heap.SameBut dx s.heap h'->Q () { s with heap:=h',toks:=s.toks+2 }) :
 wpAny (model prog w) A (setAttr (.ref x) name v) Q E s:=by
 obtain⟨od,J,hl⟩:=I.look
 refine PySem.W.set_plain X J hs (PySem.W.osa_open (s:={ s with toks:=s.toks+1 }) (r:=none) X J hp ht fun b=>?_)
 obtain⟨cd,hc,hd'⟩:=PySem.W.any_some hh;have hx:s.heap.get? x=some ⟨.ref C,some dx,.plain,#[]⟩:=I.obj
 refine aj (ao (aj (aj (wpAny_loadPart hx (aj (PySem.W.Looks.here (s:={ s with toks:=s.toks+1 }) (PySem.W.looks_clsIn X hc) ?_))))))
 rw[hd']
 refine ao (a:=some dx) (aj (ao (aj ?_)))
 refine wpAny_nsSet1 (s:={ s with toks:=s.toks+1 }) I.ns fun h' hn2 hs2=>?_
 obtain⟨oD,esD,epD,hoD,hdD,hcD⟩:=hn2.count (PySem.Within.cons name v hw)
 refine aj (wpAny_lookBehind hoD (by rw[hdD];exact pastItsLine_dict (au hcD (by rw[aQ];omega))) ?_)
 exact ao (h _ ⟨(hs2.2 _ (aJ I.ne)).trans I.obj,hn2,I.ne⟩ hs2)
end
structure Room (k:Nat) (A:p6):Prop where
 hd:A.handled=none
 dp:A.depth+3*k+5<recursionLimit
 un:A.units+16*k+200<cLine
 gd:A.guards=some []
theorem Room.mono {j k:Nat}{A:p6}(r:Room k A)(h:j<=k):Room j A:=⟨r.hd,by have:=r.dp;omega,by have:=r.un;omega,r.gd⟩
theorem Room.deeper {k:Nat}{A:p6}(r:Room (k+1) A)(env:Env):Room k (A.deeper env) :=
 ⟨r.hd,by have:=r.dp;show A.depth+1+3*k+5<_;omega,by have:=r.un;show A.units+3+16*k+200<_;omega,r.gd⟩
theorem Room.in1 {k:Nat}{A:p6}(r:Room (k+1) A):Room k A.in1 :=
 ⟨r.hd,by have:=r.dp;show A.depth+3*k+5<_;omega,by have:=r.un;show A.units+1+16*k+200<_;omega,r.gd⟩
theorem Room.depth {k:Nat}{A:p6}(r:Room k A):A.depth<recursionLimit:=by have:=r.dp;omega
theorem Room.units {k:Nat}{A:p6}(r:Room k A):A.units+64<cLine:=by have:=r.un;omega
def Io:TA:=fun _ H Q=>Q [] H
def Dz (ta:TE)(tr:TA):TA:=fun σ H Q=>ta σ H fun x H1=>tr σ H1 fun xs H2=>Q (x::xs) H2
section
variable {X:Cx}{e:Expr}{es:u5}{te:TE}{t:TA}{pos:Pos}
theorem At7:PA X [] Io:=fun _ _ _ _ H Q I h=>fP ⟨[],H,I,.nil,h⟩
theorem Au6 (ha:PE X e te)(hr:PA X es t)(hs:starEach (e::es) X.env=(false,eval e X.env)::starEach es X.env:=by rfl):PA X (e::es) (Dz te t):=by
 intro pos pins s σ H Q I h;rw[hs]
 show wpAny _ _ (spliced ((false,eval e X.env)::backTo pos (starEach es X.env))) _ _ s
 refine dI (thn (ha pins s σ H _ I h) fun u s1 ⟨x,H1,I1,r1,q1⟩=>?_)
 exact thn (hr pos pins s1 σ H1 _ I1 q1) fun us s2 ⟨xs,H2,I2,r2,q2⟩=>⟨x::xs,H2,I2,.cons r1 r2,q2⟩
def Bd4 (t:TA):TE:=fun σ H Q=>t σ H fun xs H1=>xs.length<=sizeLine/\∀p,H1 p=none->Q (.ref p) (upd H1 p (.tup xs))
def Bj8 (t:TA):TE:=fun σ H Q=>t σ H fun xs H1=>xs.length<=sizeLine/\∀p,H1 p=none->Q (.ref p) (upd H1 p (.lst xs))
theorem Bz8 {x1}(h:PA X es t):PE X (.Tuple es x1 pos) (Bd4 t):=by
 intro pins s σ H Q I hq
 refine wpAny_Tuple_spliced (thn (h pos pins s σ H _ I hq) fun us s1 ⟨xs,H1,I1,r,z,q⟩=>⟨by rw[<- r.length];exact z,?_⟩)
 have hf:H1 s1.heap.objs.size=none:=I1.hok.fresh (aq _)
 refine⟨.ref s1.heap.objs.size,upd H1 s1.heap.objs.size (.tup xs),I1.laid (t':=s1.toks) (fun b u e=>aG _ e) (aq _) ?_,rfl,q _ hf⟩
 exact⟨z,us,r,⟨_,aH _ rfl,rfl,⟨_,rfl⟩,rfl⟩⟩
theorem Bo7 (h:PA X es t):PE X (.List es pos) (Bj8 t):=by
 intro pins s σ H Q I hq
 refine wpAny_List_spliced (thn (h pos pins s σ H _ I hq) fun us s1 ⟨xs,H1,I1,r,z,q⟩=>⟨by rw[<- r.length];exact z,?_⟩)
 have hf:H1 s1.heap.objs.size=none:=I1.hok.fresh (aq _)
 refine⟨.ref s1.heap.objs.size,upd H1 s1.heap.objs.size (.lst xs),I1.laid (t':=s1.toks) (fun b u e=>aG _ e) (aq _) ?_,rfl,q _ hf⟩
 exact⟨z,us,0,r,aH _ rfl⟩
end
abbrev Sp:=m7->Hp->VK->XK->Prop
abbrev CXT:=List Env->Hp->q9->XK->Value->q9->Prop
structure Env0 (P:t6) (w:World) (K:v_) (mg:x_) (base:Heap) (A:p6) (outer:List Env) (s:q9) (H:Hp):Prop where
 frames:A.frames=some outer
 mod:Mod K mg base
 bs:∀b o,base.get? b=some o->s.heap.get? b=some o/\H b=none
 bsz:base.objs.size<=s.heap.objs.size
 funs:s.heap.FunFrames base outer
 frf:∀b∈frs outer,H b=none
 tab:∀p∈Ff K,H p.1=some (.tbl p.2)
 hok:HOk P w H s.heap
 bare:AllBare s.gens
def CE (outer:List Env)(P:t6)(w:World)(H:Hp)(s:q9)(Q:VK)(u:Value)(s':q9):Prop :=
 ∃v H',s'.os=s.os/\AllBare s'.gens/\Un (frs outer) [] H H' s.heap s'.heap/\HOk P w H' s'.heap/\RelV v u/\Q v H'
def CR (CX:CXT)(outer:List Env)(P:t6)(w:World)(H:Hp)(s:q9)(Q:VK)(E:XK)(r:Result)(s':q9):Prop :=
 match r with
 | .ok (.ret u)=>CE outer P w H s Q u s'
 | .ok _=>False
 | .error e=>CX outer H s E e s'
structure FnOk (P:t6) (w:World) (K:v_) (mg:x_) (base:Heap) (CX:CXT) (k:Nat) (f:Addr) (fd:u_) (ps:v4) (sp:Sp):Prop where
 len:∀vs H Q E,sp vs H Q E->vs.length=ps.length
 run:∀(A:p6) (outer:List Env) (s:q9) (H:Hp) (args:Args) (us:w6) (vs:m7) (Q:VK) (E:XK),Room k A->Env0 P w K mg base A outer s H->BindsTo s fd args (ps.zip us)->Vals vs us->sp vs H Q E ->
  codeAny (model P w) A (.call (.ref f) args) (CR CX outer P w H s Q E) s
theorem FnOk.imp {P:t6}{w:World}{K:v_}{mg:x_}{base:Heap}{CX:CXT}{k:Nat}{f:Addr}{fd:u_}{ps:v4}{sp sp':Sp}(F:FnOk P w K mg base CX k f fd ps sp)
 (h:∀vs H Q E,sp' vs H Q E->sp vs H Q E):FnOk P w K mg base CX k f fd ps sp' :=
 ⟨fun vs H Q E q=>F.len vs H Q E (h _ _ _ _ q),fun A outer s H args us vs Q E hr he hb hv hs=>F.run A outer s H args us vs Q E hr he hb hv (h _ _ _ _ hs)⟩
theorem Env0.in1 {P:t6}{w:World}{K:v_}{mg:x_}{base:Heap}{A:p6}{outer:List Env}{s:q9}{H:Hp}(e:Env0 P w K mg base A outer s H) :
 Env0 P w K mg base A.in1 outer s H:=⟨e.frames,e.mod,e.bs,e.bsz,e.funs,e.frf,e.tab,e.hok,e.bare⟩
section
variable {X:Cx}{pins:y_}{σ:St}{H:Hp}{s s':q9}
theorem Inv.env0 (I:Inv X pins σ H s):Env0 X.prog X.w X.K X.mg X.base X.A X.stack s H :=
 ⟨I.ok.frames,I.ok.mod,I.bs,au I.ok.bsz I.sz,I.stack,I.stkFree,fun p hp=>I.base.tbls p.1 p.2 (I.ok.tab p hp),I.hok,I.bare⟩
theorem Inv.after {Q:VK}{u:Value}(I:Inv X pins σ H s)(h:CE X.stack X.prog X.w H s Q u s'):EP X pins σ Q u s':=by
 obtain⟨v,H',os,bare,un,hok,r,q⟩:=h;obtain⟨hh,g,d,t,os'⟩:=s';obtain rfl:os'=s.os:=os
 exact⟨v,H',I.call (h':=hh) (g':=g) (d':=d) (t':=t) (ch:=[]) un hok bare (fun b z=>absurd z (by simp)),r,q⟩
end
def Xz (sp:Sp)(dvs:m7)(E:XK)(t:TA):TE:=fun σ H Q=>t σ H fun vs H1=>sp (vs++dvs) H1 Q E
def Binds (K:v_)(fd:u_)(ps:v4)(ds:w6):Prop :=
 ∀(s:q9) (us:w6),K.In s.heap->(us++ds).length=ps.length->BindsTo s fd ⟨us,[]⟩ (ps.zip (us++ds))
theorem Binds.all {K:v_}{fd:u_}{ps:v4}(h:∀us:w6,us.length=ps.length->bindArgs fd ⟨us,[]⟩=pure (ps.zip us)):Binds K fd ps []:=fun s us _ hl=>by
 rw[cH]at hl ⊢;exact .of_eq (h us hl)
def Wf (CX:CXT)(X:Cx)(E:XK):Prop:=∀(pins:y_) (σ:St) (H:Hp) (s:q9) (e:Value) (s':q9),Inv X pins σ H s->CX X.stack H s E e s'->X.xe e s'
section
variable {X:Cx}{CX:CXT}{k:Nat}{f C:Addr}{fd:u_}{ps:v4}{sp:Sp}{dvs:m7}{ds:w6}{E:XK}{x m:Str}{p pos apos:Pos}{e o:Expr}{es:u5}{ta:TE}{t:TA}
theorem Bx8 {pins:y_}{σ:St}{H:Hp}{s:q9}{Q:VK}{us:w6}{vs:m7}(F:FnOk X.prog X.w X.K X.mg X.base CX k f fd ps sp)(hr:Room k X.A)(hb:Binds X.K fd ps ds)(hd:Vals dvs ds)(hx:Wf CX X E)
 (I:Inv X pins σ H s) (r:Vals vs us) (h:sp (vs++dvs) H Q E):wpAny (model X.prog X.w) X.A (call (.ref f) us) (EP X pins σ Q) X.xe s:=by
 have r2:Vals (vs++dvs) (us++ds):=r.append hd
 have hl:(us++ds).length=ps.length:=by rw[<- r2.length];exact F.len _ _ _ _ h
 refine wpAny_call (iu (F.run X.A X.stack s H ⟨us,[]⟩ (us++ds) (vs++dvs) Q E hr I.env0 (hb s us I.kIn hl) r2 h) fun r s' hq=>?_)
 cases r with
 | error e=>exact hx pins σ H s e s' I hq
 | ok fl =>
  cases fl with
  | ret u=>exact I.after hq
  | next=>exact False.elim hq
  | brk=>exact False.elim hq
  | cont=>exact False.elim hq
theorem Bi8 (F:FnOk X.prog X.w X.K X.mg X.base CX k f fd ps sp)(hr:Room k X.A)(hg:Gl X x)(hm:X.mg x=some (.ref f))(hk:PySem.W.keepIn X.K (.ref f)=true)(hb:Binds X.K fd ps ds)(hd:Vals dvs ds)(hx:Wf CX X E)
 (ha:PA X (e::es) t) (hdb:(x==("__debug__" : Str))=false:=by decide) (he:starEach (e::es) X.env=(false,eval e X.env)::starEach es X.env:=by rfl) (hpl:(backTo pos (starEach es X.env)).any (·.1)=false:=by rfl) :
 PE X (.Call (.Name x p) (e::es) [] pos) (Xz sp dvs E t):=by
 intro pins s σ H Q I h
 refine iw (A0p I hg hm ?_ hdb)
 refine PySem.W.callWith_K (h₀:=X.base) I.ok.mod.kin hk (thn (ha pos pins s σ H _ I h) fun us s1 ⟨vs,H1,I1,r,q⟩=>⟨I1.kIn,?_⟩) he hpl
 exact Bx8 F hr hb hd hx I1 r q
end
def PK (X:Cx)(kws:List Keyword)(t:TA):Prop :=
 ∀(pos:Pos) (pins:y_) (s:q9) (σ:St) (H:Hp) (Q:m7->Hp->Prop),Inv X pins σ H s->t σ H Q->wpAny (model X.prog X.w) X.A (evalAll ((backToKw pos (keywordEach kws X.env)).map (·.2))) (AP X pins σ Q) X.xe s
section
variable {X:Cx}{CX:CXT}{k:Nat}{f C:Addr}{fd:u_}{ps ks:v4}{sp:Sp}{E:XK}{x m:Str}{p pos apos kpos:Pos}{e o:Expr}{es:u5}{kws:List Keyword}{te ta:TE}{t tk:TA}{nm:Option Str}
theorem Bn6:PK X [] Io:=fun _ _ _ _ H Q I h=>wpAny_evalAll_nil ⟨[],H,I,.nil,h⟩
theorem Bj3 (ha:PE X e te)(hr:PK X kws t):PK X (⟨nm,e,kpos⟩::kws) (Dz te t):=by
 intro pos pins s σ H Q I h
 show wpAny _ _ (evalAll ((do let v <- eval e X.env;standAt pos;pure v)::(backToKw pos (keywordEach kws X.env)).map (·.2))) _ _ s
 refine wpAny_evalAll_cons (aj (thn (ha pins s σ H _ I h) fun u s1 ⟨x,H1,I1,r1,q1⟩=>aj (gH (ao ?_))))
 exact thn (hr pos pins s1 σ H1 _ I1 q1) fun us s2 ⟨xs,H2,I2,r2,q2⟩=>⟨x::xs,H2,I2,.cons r1 r2,q2⟩
variable {g:w6->w6->w6}{gV:m7->m7->m7}
end
structure Bk (N P:v4) (sc:Scope):Prop where
 kind:sc.kind=.function
 co:sc.isCoroutine=false
 gen:sc.isGenerator=false
 nd:N.Nodup
 pre:N.take P.length=P
 par:∀x∈P,sc.names.lookup x=some .local\/sc.names.lookup x=some .cell
 nofree:∀y∈sc.names,y.2≠.free
theorem Xo {kindOf:Str->Option NameKind}{x:Str}:∀{binds:List (Str×Value)}{m:x_},(∀v,(x,v)∉binds)->bindL kindOf binds m x=m x
 | [],_,_=>rfl
 | (n,v)::r,m,h=>by
  unfold bindL
  rw[Xo fun w hw=>h w (bx _ hw)]
  split
  ·have:x≠n:=by rintro rfl;exact h v bD
   simp[this]
  ·rfl
theorem Yv {kindOf:Str->Option NameKind}{x:Str}:∀{binds:List (Str×Value)}{m:x_},(∀v,(x,v)∉binds)->bindC kindOf binds m x=m x
 | [],_,_=>rfl
 | (n,v)::r,m,h=>by
  unfold bindC
  rw[Yv fun w hw=>h w (bx _ hw)]
  split
  ·rfl
  ·have:x≠n:=by rintro rfl;exact h v bD
   simp[this]
theorem Yp {kindOf:Str->Option NameKind}{x:Str}{v:Value}:∀{P:v4}{vs:w6}{i:Nat}{m:x_},P.Nodup->P[i]?=some x->vs[i]?=some v->kindOf x=some .local ->
 bindL kindOf (P.zip vs) m x=some v
 | [],_,_,_,_,h,_,_=>by simp at h
 | _::_,[],_,_,_,_,h,_=>by simp at h
 | p::P,w::vs,0,m,nd,h1,h2,hk=>by
  simp at h1 h2;subst h1;subst h2
  show bindL kindOf ((p,w)::P.zip vs) m p=_
  unfold bindL
  rw[Xo fun v hv=>(bQ.mp nd).1 (List.of_mem_zip hv).1,if_pos hk]
  simp
 | p::P,w::vs,i+1,m,nd,h1,h2,hk=>by
  show bindL kindOf ((p,w)::P.zip vs) m x=_
  unfold bindL
  exact Yp (i:=i) (bQ.mp nd).2 (by simpa using h1) (by simpa using h2) hk
theorem Xq {kindOf:Str->Option NameKind}{x:Str}{v:Value}:∀{P:v4}{vs:w6}{i:Nat}{m:x_},P.Nodup->P[i]?=some x->vs[i]?=some v->kindOf x≠some .local ->
 bindC kindOf (P.zip vs) m x=some v
 | [],_,_,_,_,h,_,_=>by simp at h
 | _::_,[],_,_,_,_,h,_=>by simp at h
 | p::P,w::vs,0,m,nd,h1,h2,hk=>by
  simp at h1 h2;subst h1;subst h2
  show bindC kindOf ((p,w)::P.zip vs) m p=_
  unfold bindC
  rw[Yv fun v hv=>(bQ.mp nd).1 (List.of_mem_zip hv).1,if_neg hk]
  simp
 | p::P,w::vs,i+1,m,nd,h1,h2,hk=>by
  show bindC kindOf ((p,w)::P.zip vs) m x=_
  unfold bindC
  exact Xq (i:=i) (bQ.mp nd).2 (by simpa using h1) (by simpa using h2) hk
def start (N:v4)(vs:m7):St:=vs.map some++List.replicate (N.length-vs.length) none
def A1k (CX:CXT)(P:t6)(w:World)(K:v_)(mg:x_)(base:Heap)(N:v4)(qual:Str)(scope:Scope)(f:Addr)(cd:Value)(A:p6)(outer:List Env)(s:q9)(H:Hp)(E:XK):Cx where
 prog:=P
 w:=w
 K:=K
 mg:=mg
 base:=base
 A:=A.deeper (envOfC qual scope s.heap.objs.size f cd)
 N:=N
 s₀:=s
 H₀:=H
 env:=envOfC qual scope s.heap.objs.size f cd
 outer:=outer
 stack:=envOfC qual scope s.heap.objs.size f cd::outer
 ex:=[]
 calm:=true
 fn:=fun _=>true
 pn:=[]
 xe:=fun e s'=>wpAny (model P w) (A.deeper (envOfC qual scope s.heap.objs.size f cd)) (leaving (envOfC qual scope s.heap.objs.size f cd) e) (fun _ s''=>CX outer H s E e s'') (fun e' s''=>CX outer H s E e' s'') s'
theorem Aj1 {sc:Scope}{n:Nat}{x:Str}(h:sc.names.lookup x=some .cell):∃c,(cellsFrom n sc.names []).lookup x=some c:=by
 have q:=PySem.W.cellsFrom_some sc.names n [] (.inl h);exact iy.mp q
theorem A2m {CX:CXT}{P:t6}{w:World}{K:v_}{mg:x_}{base:Heap}{N ps:v4}{qual:Str}{scope:Scope}{f:Addr}{cd:Value}{A:p6}{outer:List Env}{s s1:q9}{H:Hp}{E:XK}{us:w6}{vs:m7}
 (S:Bk N ps scope) (hd:A.handled=none) (e0:Env0 P w K mg base A outer s H) (hl:vs.length=ps.length) (r:Vals vs us)
 (x:InCallC s s.heap.objs.size (bindL (envOfC qual scope s.heap.objs.size f cd).kindOf (ps.zip us) fun _=>none) (cellsFrom (s.heap.objs.size+1) scope.names []) (bindC (envOfC qual scope s.heap.objs.size f cd).kindOf (ps.zip us) fun _=>none) s1) :
 Inv (A1k CX P w K mg base N qual scope f cd A outer s H E) [] (start N vs) H s1:=by
 have hpl:ps.length<=N.length:=by have:=cJ List.length S.pre;rw[fQ]at this;omega
 obtain⟨h1,tk,rfl,hk⟩:=x.done
 have noA:∀b:Addr,b∉(A1k CX P w K mg base N qual scope f cd A outer s H E).ex:=fun b z=>absurd (show b∈([]:v5) from z) (by simp)
 refine⟨⟨e0.mod,S.kind,rfl,rfl,aq _,fun y z c h1 h2=>?_,fun y hy=>?_,fun y c _ h=>?_,fun _=>hd,Around.frames_deeper e0.frames,.inr ⟨rfl,rfl⟩,fun b z=>absurd z (noA b),e0.bs,e0.bsz,fun b _ _=>noA b,fun b z=>absurd z (noA b),e0.funs,e0.frf,e0.tab⟩,
  rfl,e0.bare,Un.kept hk,⟨_,x.toInCall.ns,fun i y v h1 h2 h3=>?_⟩,fun y c h=>⟨_,x.cell y c h⟩,e0.hok.fresh (aq _),fun y c h=>?_,fun p hp=>absurd (show p∈([]:y_) from hp) (by simp),e0.hok.kept hk,?_⟩
 ·exact name_of_addr x.apart (gM h1) (gM h2)
 ·have hy:scope.names.lookup y=some .cell\/scope.names.lookup y=some .free:=hy
  rcases hy with hy | hy
  ·exact Aj1 hy
  ·exact absurd rfl (S.nofree _ (gM hy))
 ·exact ir (x.above y c (gM h))
 ·have hi:i<vs.length:=by
   unfold start at h2
   by_cases hi:i<vs.length
   ·exact hi
   ·rw[cV (by simpa using hi)]at h2
    rw[List.getElem?_replicate]at h2
    split at h2 <;> cases h2
  have ha:vs[i]?=some v:=by
   unfold start at h2
   rw[cW (by simpa using hi),bz]at h2
   cases e:vs[i]? with
   | none=>rw[e]at h2;cases h2
   | some a=>rw[e]at h2;cases h2;rfl
  obtain⟨u,hu,rv⟩:=r.get ha
  have hp:ps[i]?=some y:=by
   rw[<- S.pre,List.getElem?_take_of_lt (by omega)];exact h1
  have ndP:ps.Nodup:=by rw[<- S.pre];exact S.nd.sublist (List.take_sublist _ _)
  refine⟨u,rv,?_⟩
  rcases S.par y (bH hp) with k | k
  ·exact .inl ⟨k,Yp ndP hp hu k⟩
  ·obtain⟨c,e⟩:=Aj1 (n:=s.heap.objs.size+1) k
   refine .inr ⟨.inl k,c,e,?_⟩
   have q:=x.cell y c e
   rw[Xq ndP hp hu (by show scope.names.lookup y≠_;rw[k];decide)]at q
   exact q
 ·exact e0.hok.fresh (ir (x.above y c (gM h)))
 ·unfold start
  show _=N.length
  rw[aK,ak,jd];omega
theorem B0v {CX:CXT}{P:t6}{w:World}{K:v_}{mg:x_}{base:Heap}{k:Nat}{f:Addr}{name qual:Str}{params:Arguments}{body:List Stmt}{scope:Scope}{dV kV doc pm cdv ct oc:Value}{an od:Option Addr}
 {osl:Array (t_)} {N ps:v4} {sp:Sp} (lk:K.lookup f=some ⟨oc,od,.func (PySem.W.fnOf name qual params body scope dV kV doc pm an cdv ct),osl⟩) (hcd:PySem.W.codeIn K cdv qual=true) (S:Bk N ps scope)
 (len:∀vs H Q E,sp vs H Q E->vs.length=ps.length)
 (hbody:∀(A:p6) (outer:List Env) (s:q9) (H:Hp) (vs:m7) (Q:VK) (E:XK),Room k (A.deeper (envOfC qual scope s.heap.objs.size f cdv))->sp vs H Q E ->
  ∃t,PSs (A1k CX P w K mg base N qual scope f cdv A outer s H E) body t/\t { nx:=fun _ H'=>Q .non H',rt:=Q } (start N vs) H) :
 FnOk P w K mg base CX (k+1) f (PySem.W.fnOf name qual params body scope dV kV doc pm an cdv ct) ps sp:=by
 refine⟨len,fun A outer s H args us vs Q E hr e0 hb r hsp=>?_⟩
 have hl:=len _ _ _ _ hsp
 have KX:K.In s.heap:=e0.mod.kin.keeps fun b o e=>(e0.bs b o e).1
 have lim:s.heap.NoLimit:=e0.mod.nolimit.keeps fun b o e=>(e0.bs b o e).1
 have hkind:∀y∈ps.zip us,scope.names.lookup y.1=some .local\/(scope.names.lookup y.1=some .cell/\((cellsFrom (s.heap.objs.size+1) scope.names []).lookup y.1).isSome=true):=fun⟨n,v⟩ hy=>by
  rcases S.par n (List.of_mem_zip hy).1 with q | q
  ·exact .inl q
  ·exact .inr ⟨q,PySem.W.cellsFrom_some _ _ _ (.inl q)⟩
 refine codeAny_call_function hr.depth (KX _ _ lk) rfl S.co S.gen rfl (PySem.W.codeRec_of KX hcd) (hb _ _ _ _ ?_)
 refine wpAny_newFunctionEnv_cells S.kind hkind fun env he s1 x=>?_
 subst he
 refine⟨lim.keeps x.toInCall.keep,codeAny_func ?_⟩
 obtain⟨t,ht,hq⟩:=hbody A outer s H vs Q E (hr.deeper _) hsp;have I:Inv (A1k CX P w K mg base N qual scope f cdv A outer s H E) [] (start N vs) H s1:=A2m S hr.hd e0 hl r x
 refine a_ (ht [] s1 (start N vs) H _ I hq) (fun fl s' hs=>?_) fun e s' hs=>hs
 have fin:∀{σ':St} {H':Hp} {v:V} {u:Value},Inv (A1k CX P w K mg base N qual scope f cdv A outer s H E) [] σ' H' s'->RelV v u->Q v H'->CE outer P w H s Q u s' :=
  fun {σ' H' v u} J rv q=>⟨v,H',J.os,J.bare,J.base,J.hok,rv,q⟩
 cases fl with
 | ret u =>
  obtain⟨v,σ',H',J,rv,q⟩:=hs;exact fin J rv q
 | next =>
  obtain⟨σ',H',J,q⟩:=hs;exact fin (v:=V.non) (u:=Value.none) J rfl q
 | brk =>
  obtain⟨_,_,_,q⟩:=hs;exact False.elim q
 | cont =>
  obtain⟨_,_,_,q⟩:=hs;exact False.elim q
section
variable {X:Cx}{x:Str}{p pos:Pos}{e:Expr}{es:u5}{t:TA}{id T:String}{r:m7->Hp->VK->Prop}
def tCB (r:m7->Hp->VK->Prop)(t:TA):TE:=fun σ H Q=>t σ H fun vs H1=>r vs H1 Q
theorem A8u (hc:CallR X (.builtin id) r)(hg:Gl X x)(hm:X.mg x=none)(hv:bootBuiltins x=some (.builtin id))(ha:PA X (e::es) t)(hn:x ≠ "__name__" := by decide) (hdb:(x==("__debug__" : Str))=false:=by decide)
 (he:starEach (e::es) X.env=(false,eval e X.env)::starEach es X.env:=by rfl) (hpl:(backTo pos (starEach es X.env)).any (·.1)=false:=by rfl):PE X (.Call (.Name x p) (e::es) [] pos) (tCB r t):=by
 intro pins s σ H Q I h
 refine iw (J9 I hg hm hv ?_ hn hdb)
 exact PyProof.Rows.callWith_builtin1 (thn (ha pos pins s σ H _ I h) fun us s1 ⟨vs,H1,I1,r1,q1⟩=>hc pins s1 σ H1 vs us Q I1 r1 q1) he hpl
theorem A1z (hc:CallR X (.type T) r)(hg:Gl X x)(hm:X.mg x=none)(hv:bootBuiltins x=some (.type T))(ha:PA X (e::es) t)(hn:x ≠ "__name__" := by decide) (hdb:(x==("__debug__" : Str))=false:=by decide)
 (he:starEach (e::es) X.env=(false,eval e X.env)::starEach es X.env:=by rfl) (hpl:(backTo pos (starEach es X.env)).any (·.1)=false:=by rfl):PE X (.Call (.Name x p) (e::es) [] pos) (tCB r t):=by
 intro pins s σ H Q I h
 refine iw (J9 I hg hm hv ?_ hn hdb)
 exact eO (thn (ha pos pins s σ H _ I h) fun us s1 ⟨vs,H1,I1,r1,q1⟩=>hc pins s1 σ H1 vs us Q I1 r1 q1) he hpl
end
end L2
namespace HT
open PySem PyProof.Rows
section
variable {prog:t6}{w:World}{A:p6}{E:z_}{s:q9}
theorem Bk5 {t b:Addr}{vs ws:w6}{Q:z_}(ht:IsTup s.heap t vs.toArray)(hb:IsTup s.heap b ws.toArray)(hv:vs≠[])
 (h1:ws=[]->Q (.ref t) s) (h2:ws≠[]->Q (.ref s.heap.objs.size) { s with heap:=s.heap.push { cls:=.type "tuple",data:=.seq (vs++ws).toArray } })
 (hsz:vs.length+ws.length<=sizeLine):wpAny (model prog w) A (binaryOp .Add (.ref t) (.ref b)) Q E s:=by
 obtain⟨⟨cls,dd,data,sl⟩,ho,hc,n,hd⟩:=id ht;obtain⟨⟨cls2,dd2,data2,sl2⟩,ho2,hc2,n2,hd2⟩:=id hb;simp only at hc hd hc2 hd2;subst hc hd hc2 hd2
 have e:vs.toArray++ws.toArray=(vs++ws).toArray:=by simp
 by_cases hw:ws=[]
 ·exact concat_meets ⟨_,ho,rfl⟩ ⟨_,ho2,rfl⟩ je seq_tuple_add jf jg (jh _ _)
   (tuple_addW1 t b vs.toArray ws.toArray n n2 dd dd2 sl sl2 (by simpa using hv) (by simp[hw])) ⟨ho,ho2,h1 hw⟩
 ·refine concat_meets ⟨_,ho,rfl⟩ ⟨_,ho2,rfl⟩ je seq_tuple_add jf jg (jh _ _)
   (tuple_addW2 t b vs.toArray ws.toArray n n2 dd dd2 sl sl2 (by simpa using hv) (by simpa using hw) (by rw[aO,aO];exact hsz)) ⟨ho,ho2,?_⟩
  rw[e];exact h2 hw
def sIx (n d:Nat):p7->Nat
 | none=>d
 | some v=>if v<0 then (v+(n:Int)).toNat else min v.toNat n
theorem Af9 (n d:Nat):sIx n d none=d:=rfl
theorem Az7 (n d k:Nat):sIx n d (some (k:Int))=min k n:=by
 show (if (k:Int)<0 then ((k:Int)+(n:Int)).toNat else min (k:Int).toNat n)=min k n
 rw[if_neg (by omega),fU]
theorem Bu3 (n d:Nat)(hd:d<=n)(o:p7):sIx n d o<=n:=by
 cases o with
 | none=>exact hd
 | some v =>
  show (if v<0 then (v+(n:Int)).toNat else min v.toNat n)<=n
  by_cases hv:v<0
  ·rw[if_pos hv];omega
  ·rw[if_neg hv];exact gO _ _
theorem Ay7 (v:Int)(n d:Nat):(if v<0 then max (v+(n:Int)) 0 else min v (n:Int))=((sIx n d (some v):Nat):Int):=by
 show (if v<0 then max (v+(n:Int)) 0 else min v (n:Int))=(((if v<0 then (v+(n:Int)).toNat else min v.toNat n):Nat):Int)
 by_cases hv:v<0
 ·simp only[if_pos hv];omega
 ·simp only[if_neg hv];omega
theorem Ap2 (lo hi:p7)(n:Nat):Builtin.Slice.sliceAdjust lo hi 1 (n:Int)=(((sIx n 0 lo:Nat):Int),((sIx n n hi:Nat):Int)):=by
 have h1:¬ ((1:Int)<0):=by omega
 unfold Builtin.Slice.sliceAdjust;simp only[h1,aZ]
 refine Prod.ext ?_ ?_
 ·cases lo with
  | none=>rfl
  | some v=>exact Ay7 v n 0
 ·cases hi with
  | none=>rfl
  | some v=>exact Ay7 v n n
theorem Ao6 (i j:Nat):Builtin.Slice.slicePlaces (i:Int) (j:Int) 1=j-i:=by
 unfold Builtin.Slice.slicePlaces
 have h1:(1:Int)>0:=by omega
 simp only[h1,bV,Int.ediv_one]
 split <;> omega
theorem Vp {v:Value}{o:p7}{Q:p7->q9->Prop}(p:IsPart v o)(h:Q o s):wpAny (model prog w) A (Builtin.Slice.slicePartIndex v) Q E s:=by
 cases p with
 | none=>exact slicePart_none h
 | int i t=>exact slicePart_int h
theorem K8 {sl:Addr}{vl vu:Value}{lo hi:p7}{n:Nat}{Q:Int×Int×Nat->q9->Prop}(hs:s.heap.IsSliceOf sl vl vu .none)(pl:IsPart vl lo)(pu:IsPart vu hi)
 (h:Q (((sIx n 0 lo:Nat):Int),1,sIx n n hi-sIx n 0 lo) s):wpAny (model prog w) A (Builtin.Slice.sliceApplied (.ref sl) (pure (n:Int))) Q E s:=by
 obtain⟨os,hos,hcs,hds⟩:=id hs;unfold Builtin.Slice.sliceApplied Builtin.Slice.sliceFields
 refine aj (aj (bA hos hds (x:=vl) rfl (aj (bA hos hds (x:=vu) rfl (aj (bA hos hds (x:=.none) rfl (ao ?_)))))))
 refine aj (slicePart_none ?_)
 show wpAny _ _ (if ((1:Int)==0)=true then _ else _) _ _ s
 rw[if_neg (by decide)]
 refine aj (Vp pl (aj (Vp pu (aj (ao ?_)))))
 show wpAny _ _ (match Builtin.Slice.sliceAdjust lo hi 1 (n:Int) with | (lo,hi)=>pure (lo,(1:Int),Builtin.Slice.slicePlaces lo hi 1)) _ _ s
 rw[Ap2 lo hi n]
 show wpAny _ _ (pure (((sIx n 0 lo:Nat):Int),(1:Int),Builtin.Slice.slicePlaces ((sIx n 0 lo:Nat):Int) ((sIx n n hi:Nat):Int) 1)) _ _ s
 rw[Ao6];exact ao h
theorem A4r (xs:v6)(i k:Nat):((List.range k).filterMap fun (m:Nat)=>xs[((i:Int)+(m:Int)*1).toNat]?).toArray=((xs.toList.drop i).take k).toArray:=by
 have e:(fun (m:Nat)=>xs[((i:Int)+(m:Int)*1).toNat]?)=fun m=>xs[i+m]?:=by
  funext m
  have:((i:Int)+(m:Int)*1).toNat=i+m:=by omega
  rw[this]
 rw[e];have:=pick_run xs i k;rw[List.filterMap_map]at this
 have e2:((fun x=>xs[x]?) ∘ fun x=>i+x)=fun m=>xs[i+m]?:=rfl
 rw[e2]at this;rw[this]
theorem Qq {t sl:Addr}{items:v6}{vl vu:Value}{lo hi:p7}{Q:z_}(ht:IsTup s.heap t items)(hs:s.heap.IsSliceOf sl vl vu .none)(pl:IsPart vl lo)(pu:IsPart vu hi)
 (hw:¬ (sIx items.size 0 lo=0/\sIx items.size items.size hi=items.size))
 (h:Q (.ref s.heap.objs.size) { s with heap:=s.heap.push { cls:=.type "tuple",data:=.seq ((items.toList.drop (sIx items.size 0 lo)).take (sIx items.size items.size hi-sIx items.size 0 lo)).toArray } })
 (hsz:items.size<=sizeLine):wpAny (model prog w) A (getItem (.ref t) (.ref sl)) Q E s:=by
 have htake:sizeOk (.seq ((items.toList.drop (sIx items.size 0 lo)).take (sIx items.size items.size hi-sIx items.size 0 lo)).toArray):=by
  show ((items.toList.drop (sIx items.size 0 lo)).take (sIx items.size items.size hi-sIx items.size 0 lo)).toArray.size<=sizeLine
  rw[aO,fQ,iz,eN];omega
 have hj:sIx items.size items.size hi<=items.size:=Bu3 _ _ (aq _) hi;obtain⟨os,hos,hcs,hds⟩:=id hs;have hTs:s.TypeIs (.ref sl) "slice" := ⟨os,hos,hcs⟩;unfold getItem
 try with_reducible refine cG ?_
 first | refine aj (ao ?_) | skip
 refine aj (wpAny_sequenceKey ht.typeIs (by decide) ?_)
 refine aj (cB (name:="__getitem__") ht.typeIs fV
  (bJ fV ht.typeIs entry_tuple_getitem ?_ (args_tuple_getitem _ _)))
 show wpAny _ _ (Builtin.Tuple.tupleItemsOf (.ref t) >>= _) _ _ s
 refine aj (tupleItemsOf_ ht ?_)
 refine aj (dJ hTs ?_)
 rw[if_pos (by decide)]
 refine aj (K8 hs pl pu ?_)
 have hno:¬ ((((sIx items.size 0 lo:Nat):Int)==0&&(1:Int)==1&&(sIx items.size items.size hi-sIx items.size 0 lo)==items.size)=true):=by
  intro q;rw[cL,cL]at q;have q1:((sIx items.size 0 lo:Nat):Int)=0:=dm q.1.1;have q2:sIx items.size items.size hi-sIx items.size 0 lo=items.size:=dm q.2
  exact hw ⟨by omega,by omega⟩
 show wpAny _ _ (if (((sIx items.size 0 lo:Nat):Int)==0&&(1:Int)==1&&(sIx items.size items.size hi-sIx items.size 0 lo)==items.size)=true then _ else _) _ _ s
 rw[if_neg hno,A4r]
 first
  | exact aj (m:=Builtin.Tuple.tupleExact _) (cA (ao ⟨_,rfl,ao h⟩) htake)
  | exact aj (m:=Builtin.Tuple.tupleExact _) (cA (aj (ao (ao ⟨_,rfl,ao h⟩))) htake)
  | exact aj (aj (m:=Builtin.Tuple.tupleExact _) (cA (ao (ao ⟨_,rfl,ao h⟩)) htake))
  | exact aj (aj (m:=Builtin.Tuple.tupleExact _) (cA (ao ⟨_,rfl,ao h⟩) htake))
end
end HT
namespace L2
open PySem PySem.Spec PyProof.Rows
abbrev TO:=St->Hp->(p7->Hp->Prop)->Prop
def PO (X:Cx)(e:Option Expr)(t:TO):Prop :=
 ∀
  (pins:y_) (s:q9) (σ:St) (H:Hp) (Q:p7->Hp->Prop),Inv X pins σ H s->t σ H Q ->
  wpAny (model X.prog X.w) X.A (evalPart e X.env) (fun u s'=>∃o H',Inv X pins σ H' s'/\IsPart u o/\Q o H') X.xe s
def Zq:TO:=fun _ H Q=>Q none H
def A4t (t:TE):TO:=fun σ H Q=>t σ H fun x H1=>∃i,x=.int i/\Q (some i) H1
section
variable {X:Cx}{e:Expr}{te:TE}{lo hi:Option Expr}{tl th:TO}{pos p2:Pos}
theorem Bc8:PO X none Zq:=by
 intro pins s σ H Q I h;rw[evalPart_none];exact ao ⟨none,H,I,.none,h⟩
theorem Bg4 (h:PE X e te):PO X (some e) (A4t te):=by
 intro pins s σ H Q I hw;rw[evalPart_some]
 refine thn (h pins s σ H _ I hw) fun u s1 ⟨x,H1,I1,r1,q1⟩=>?_
 obtain⟨i,rfl,q⟩:=q1;obtain⟨t,rfl⟩:=r1;exact⟨some i,H1,I1,.int i t,q⟩
def SlR (X:Cx)(r:V->p7->p7->Hp->VK->Prop):Prop :=
 ∀
  (pins:y_) (s:q9) (σ:St) (H:Hp) (x:V) (v vl vu:Value) (lo hi:p7) (sl:Addr) (Q:VK),Inv X pins σ H s->RelV x v->s.heap.IsSliceOf sl vl vu .none->IsPart vl lo->IsPart vu hi->r x lo hi H Q ->
  ∃T id,typeLookup (.type T) "__getitem__" = pure (some (.builtin id))/\s.TypeIs v T/\wpAny (model X.prog X.w) X.A (getItem v (.ref sl)) (EP X pins σ Q) X.xe s
theorem SlR.or {r r':V->p7->p7->Hp->VK->Prop}(h:SlR X r)(h':SlR X r'):SlR X (fun x lo hi H Q=>r x lo hi H Q\/r' x lo hi H Q):=by
 intro pins s σ H x v vl vu lo hi sl Q I rx hs pl pu q
 rcases q with q | q
 ·exact h pins s σ H x v vl vu lo hi sl Q I rx hs pl pu q
 ·exact h' pins s σ H x v vl vu lo hi sl Q I rx hs pl pu q
def tSl (r:V->p7->p7->Hp->VK->Prop)(te:TE)(tl th:TO):TE:=fun σ H Q=>te σ H fun x H1=>tl σ H1 fun l H2=>th σ H2 fun u H3=>r x l u H3 Q
theorem A6z {r:V->p7->p7->Hp->VK->Prop}(hr:SlR X r)(he:PE X e te)(hl:PO X lo tl)(hu:PO X hi th):PE X (.Subscript e (.Slice lo hi none p2) pos) (tSl r te tl th):=by
 intro pins s σ H Q I h
 refine Subscript_ (thn (he pins s σ H _ I h) fun v s1 ⟨x,H1,I1,r1,q1⟩=>?_)
 refine wpAny_Slice (thn (hl pins s1 σ H1 _ I1 q1) fun vl s2 ⟨l,H2,I2,pl,q2⟩=>thn (hu pins s2 σ H2 _ I2 q2) fun vu s3 ⟨u,H3,I3,pu,q3⟩=>?_)
 rw[evalPart_none]
 refine ao ?_
 have I4:Inv X pins σ H3 { s3 with heap:=s3.heap.push { cls:=.type "slice",data:=.fields #[vl,vu,.none] } }:=I3.kept (t':=s3.toks) fun b ob q=>aG _ q
 obtain⟨T,id,hT,ht,hg⟩:=hr pins { s3 with heap:=s3.heap.push { cls:=.type "slice",data:=.fields #[vl,vu,.none] } } σ H3 x v vl vu l u s3.heap.objs.size Q I4 r1 (Heap.IsSliceOf.new ..) pl pu q3
 show wpAny (model X.prog X.w) X.A (subscriptTail e (.Slice lo hi none p2) v (.ref s3.heap.objs.size)) (EP X pins σ Q) X.xe { s3 with heap:=s3.heap.push { cls:=.type "slice",data:=.fields #[vl,vu,.none] } }
 exact tail_any (ops:=[.ref s3.heap.objs.size,v]) ht hT hg (by with_unfolding_all rfl)
def Ah0 (xs:m7)(lo hi:p7):m7:=(xs.drop (HT.sIx xs.length 0 lo)).take (HT.sIx xs.length xs.length hi-HT.sIx xs.length 0 lo)
theorem Te (xs:m7)(lo hi:p7):(Ah0 xs lo hi).length<=xs.length:=by
 unfold Ah0;rw[fQ,iz];omega
def B0f (K:v_):V->p7->p7->Hp->VK->Prop:=fun x lo hi H Q=>∃a xs,x=.ref a/\SqT K H a xs /\
 ¬ (HT.sIx xs.length 0 lo=0/\HT.sIx xs.length xs.length hi=xs.length)/\∀p,H p=none->Q (.ref p) (upd H p (.tup (Ah0 xs lo hi)))
theorem Bq7:SlR X (B0f X.K):=by
 intro pins s σ H x v vl vu lo hi sl Q I rx hs pl pu h;obtain⟨a,xs,rfl,hx,hw,q⟩:=h
 cases rx
 obtain⟨its,r,ht,hz⟩:=I.tuple hx
 have hlen:its.toArray.size=xs.length:=by rw[aO];exact r.length.symm
 refine⟨"tuple",_,fV.lookup,ht.typeIs,?_⟩
 refine HT.Qq ht hs pl pu (by rw[hlen];exact hw) ?_ (by rw[hlen];exact hz)
 rw[hlen]
 refine⟨.ref s.heap.objs.size,_,I.laid (t':=s.toks) (o:=.tup (Ah0 xs lo hi)) (fun b ob q=>aG _ q) (aq _) ?_,rfl,q _ (I.hok.fresh (aq _))⟩
 exact⟨au (Te xs lo hi) hz,_,(r.drop (HT.sIx xs.length 0 lo)).take (HT.sIx xs.length xs.length hi-HT.sIx xs.length 0 lo),zZ.new _ _⟩
def B0i (K:v_):R2:=fun x y H Q=>∃a b xs ys,x=.ref a/\y=.ref b/\SqT K H a xs/\SqT K H b ys/\xs≠[]/\xs.length+ys.length<=sizeLine /\
 (ys=[]->Q (.ref a) H)/\(ys≠[]->∀p,H p=none->Q (.ref p) (upd H p (.tup (xs++ys))))
theorem Vals.nil_iff {xs:m7}{us:w6}(r:Vals xs us):us=[]↔xs=[]:=by
 cases r with
 | nil=>simp
 | cons _ _=>simp
theorem Bj9:OpR X (binaryOp .Add) (B0i X.K):=by
 intro pins s σ H x y v u Q I rx ry h;obtain⟨a,b,xs,ys,rfl,rfl,ha,hb,hx,hz,q1,q2⟩:=h
 cases rx
 cases ry
 obtain⟨its,r1,p1,_⟩:=I.tuple ha;obtain⟨its2,r2,p2,_⟩:=I.tuple hb
 refine HT.Bk5 p1 p2 (fun z=>hx (r1.nil_iff.mp z)) (fun z=>⟨.ref a,H,I,rfl,q1 (r2.nil_iff.mp z)⟩) (fun z=>?_) (by rw[<- r1.length,<- r2.length];exact hz)
 refine⟨.ref s.heap.objs.size,_,I.laid (t':=s.toks) (o:=.tup (xs++ys)) (fun b ob q=>aG _ q) (aq _) ?_,rfl,q2 (fun w=>z (r2.nil_iff.mpr w)) _ (I.hok.fresh (aq _))⟩
 exact⟨by rw[aK];exact hz,_,r1.append r2,zZ.new _ _⟩
end
def ixN (n:Nat)(i:Int):Option Nat:=if 0<=i then (if i<n then some i.toNat else none) else if -(n:Int)<=i then some (i+n).toNat else none
def atI {α:Type}(xs:List α)(i:Int):Option α:=(ixN xs.length i).bind fun j=>xs[j]?
theorem Ab4 {n:Nat}{i:Int}{j:Nat}(h:ixN n i=some j):seqIndex? i n=some j/\j<n/\-(n:Int)<=i/\i<n:=by
 unfold ixN at h
 by_cases h0:0<=i
 ·rw[if_pos h0]at h
  by_cases h1:i<n
  ·rw[if_pos h1]at h
   have e:i.toNat=j:=bK h
   exact⟨by rw[seqIndex_of h0 h1,e],by omega,by omega,h1⟩
  ·rw[if_neg h1]at h;cases h
 ·rw[if_neg h0]at h
  by_cases h1:-(n:Int)<=i
  ·rw[if_pos h1]at h
   have e:(i+n).toNat=j:=bK h
   exact⟨by rw[seqIndex_neg (by omega) h1,e],by omega,h1,by omega⟩
  ·rw[if_neg h1]at h;cases h
theorem Aa4 {α:Type}{xs:List α}{i:Int}{v:α}(h:atI xs i=some v):∃j,seqIndex? i xs.length=some j/\xs[j]?=some v/\j<xs.length/\-(xs.length:Int)<=i/\i<xs.length:=by
 unfold atI at h
 cases e:ixN xs.length i with
 | none=>rw[e]at h;cases h
 | some j =>
  rw[e]at h;obtain⟨h1,h2,h3,h4⟩:=Ab4 e;exact⟨j,h1,h,h2,h3,h4⟩
theorem Iz {α:Type}{xs:List α}{j:Nat}{v:α}(h:xs[j]?=some v):atI xs (j:Int)=some v:=by
 have hj:j<xs.length:=(bL.mp h).1
 have e:ixN xs.length (j:Int)=some j:=by
  unfold ixN
  rw[if_pos (by omega),if_pos (by omega)];simp
 unfold atI;rw[e];exact h
def Ln (b:Expr):Prop:=∀o i,subscripted b false o i=operate [o,i] (getItem o i)
def IxR (X:Cx)(r:R2):Prop :=
 ∀
  (value slice:Expr) (pins:y_) (s:q9) (σ:St) (H:Hp) (x y:V) (v u:Value) (Q:VK),Inv X pins σ H s->RelV x v->RelV y u->r x y H Q ->
  subscripted slice false v u=operate [v,u] (getItem v u)->wpAny (model X.prog X.w) X.A (subscriptTail value slice v u) (EP X pins σ Q) X.xe s
def MtR (X:Cx)(id:String)(r:V->m7->Hp->VK->Prop):Prop :=
 ∀
  (pins:y_) (s:q9) (σ:St) (H:Hp) (x:V) (xs:m7) (v:Value) (us:w6) (Q:VK),Inv X pins σ H s->RelV x v->Vals xs us->r x xs H Q ->
  wpAny (model X.prog X.w) X.A (call (.builtin id) (v::us)) (EP X pins σ Q) X.xe s
section
variable {X:Cx}{a b:Expr}{ta tb:TE}{pos:Pos}
theorem IxR.or {r r':R2}(h:IxR X r)(h':IxR X r'):IxR X (fun x y H Q=>r x y H Q\/r' x y H Q):=by
 intro value slice pins s σ H x y v u Q I rx ry q hs
 rcases q with q | q
 ·exact h value slice pins s σ H x y v u Q I rx ry q hs
 ·exact h' value slice pins s σ H x y v u Q I rx ry q hs
theorem B1u {r:R2}(hr:IxR X r)(ha:PE X a ta)(hb:PE X b tb)(hs:Ln b):PE X (.Subscript a b pos) (tOp r ta tb):=by
 intro pins s σ H Q I h
 exact Subscript_ (Bu0 ha hb I h fun v u s2 x y H2 I2 rx ry q=>hr a b pins s2 σ H2 x y v u Q I2 rx ry q (hs _ _))
def Bs0 (K:v_):R2:=fun x y H Q=>∃p xs i v,x=.ref p/\y=.int i/\SqL K H p xs/\atI xs i=some v/\Q v H
def Br1 (K:v_):R2:=fun x y H Q=>∃p xs i v,x=.ref p/\y=.int i/\SqT K H p xs/\atI xs i=some v/\Q v H
def B1w:R2:=fun x y H Q=>∃z i c,x=.str z/\y=.int i/\z.length<=sizeLine/\atI z.cps.toList i=some c/\Q (.str ⟨#[c]⟩) H
theorem ix_list:IxR X (Bs0 X.K):=by
 intro value slice pins s σ H x y v u Q I rx ry h hs;obtain⟨p,xs,i,z,rfl,rfl,hq,he,q⟩:=h
 cases rx
 obtain⟨t,rfl⟩:=ry;obtain⟨its,r,pl,hz⟩:=I.list hq;obtain⟨j,h1,h2,h3,h4,h5⟩:=Aa4 he;obtain⟨w,ew,rw'⟩:=r.get h2;have hl:=r.length;have hn:=U3;have fin:EP X pins σ Q w s:=⟨z,H,I,rw',q⟩
 by_cases h0:0<=i
 ·have hj:i.toNat=j:=by
   rw[seqIndex_of h0 h5]at h1;exact bK h1
  exact item_listR pl.isList h0 (by omega) (by rw[hj];simpa using ew) fin hs
 ·have hj:(i+(its.toArray.size:Int)).toNat=j:=by
   rw[seqIndex_neg (by omega) h4]at h1
   rw[aO,<- hl];exact bK h1
  exact subscriptTail_builtinR (x:=w) pl.isList.typeIs slot_list_getitem.lookup
   (wpAny_getItem_list_neg (Q:=fun r s'=>r=w/\EP X pins σ Q r s') pl.isList (by omega) (by rw[aO] <;> omega) (by omega) (by rw[hj];simpa using ew) ⟨rfl,fin⟩) hs
theorem ix_tup:IxR X (Br1 X.K):=by
 intro value slice pins s σ H x y v u Q I rx ry h hs;obtain⟨p,xs,i,z,rfl,rfl,hq,he,q⟩:=h
 cases rx
 obtain⟨t,rfl⟩:=ry;obtain⟨its,r,pl,hz⟩:=I.tuple hq;obtain⟨j,h1,h2,h3,h4,h5⟩:=Aa4 he;obtain⟨w,ew,rw'⟩:=r.get h2;have hl:=r.length;have hn:=U3;have fin:EP X pins σ Q w s:=⟨z,H,I,rw',q⟩
 exact subscriptTail_builtinR (x:=w) pl.typeIs slot_tuple_getitem.lookup
  (getItem_tuple (j:=j) (Q:=fun r s'=>r=w/\EP X pins σ Q r s') pl (by omega) (by omega) (by rw[aO,<- hl];exact h1) (by simpa using ew) ⟨rfl,fin⟩) hs
theorem Bp3:IxR X B1w:=by
 intro value slice pins s σ H x y v u Q I rx ry h hs;obtain⟨z,i,c,rfl,rfl,hz,he,q⟩:=h;obtain⟨t,rfl⟩:=rx;obtain⟨t',rfl⟩:=ry;obtain⟨j,h1,h2,h3,h4,h5⟩:=Aa4 he
 have hl:z.cps.toList.length=z.length:=by simp[Str.length]
 rw[hl]at h1 h4 h5;have hn:=U3
 exact tail_any (typeIs_str s z t) slot_str_getitem.lookup (getItem_str (c:=c) (by
  have e1:decide (i < -(2 ^ 63:Int))=false:=aL (by omega)
  have e2:decide (i≥2 ^ 63)=false:=aL (by omega)
  rw[e1,e2,iB]) (by rw[h1];simpa using h2) ⟨.str ⟨#[c]⟩,H,I.tok _,⟨_,rfl⟩,q⟩) hs
def rIx (K:v_):R2:=fun x y H Q=>Bs0 K x y H Q\/Br1 K x y H Q\/B1w x y H Q
theorem Bp5:IxR X (rIx X.K):=ix_list.or (ix_tup.or Bp3)
theorem Ao3 (its:w6)(n j:Nat)(u:Value):Obj.mapSeq (·.setIfInBounds j u) { cls:=.type "list",data:=.seq its.toArray n }={ cls:=.type "list",data:=.seq (its.set j u).toArray n }:=by
 simp[Obj.mapSeq]
theorem Inv.lst {pins:y_}{σ:St}{H:Hp}{s:q9}{p:Addr}{xs:m7}(I:Inv X pins σ H s)(h:H p=some (.lst xs)) :
 ∃(its:w6) (n:Nat),Vals xs its/\s.heap.get? p=some { cls:=.type "list",data:=.seq its.toArray n }/\xs.length<=sizeLine:=by
 obtain⟨z,its,n,r,e⟩:=I.hok p _ h;exact⟨its,n,r,e,z⟩
theorem Inv.lstUpd {pins:y_}{σ:St}{H:Hp}{s:q9}{p:Addr}{xs ys:m7}{its its':w6}{n n':Nat}{f:Obj->Obj}(I:Inv X pins σ H s)(h:H p=some (.lst xs))
 (ho:s.heap.get? p=some { cls:=.type "list",data:=.seq its.toArray n }) (hf:f { cls:=.type "list",data:=.seq its.toArray n }={ cls:=.type "list",data:=.seq its'.toArray n' }) (r:Vals ys its') (hz:ys.length<=sizeLine) (t:Nat) :
 Inv X pins σ (upd H p (.lst ys)) { s with heap:=s.heap.update p f,toks:=t }:=by
 have e:(s.heap.update p f).get? p=some { cls:=.type "list",data:=.seq its'.toArray n' }:=by
  rw[cM f ho (by rw[hf] <;> rfl),hf]
 refine I.write (x:=p) (e:=p) (by rw[h];trivial) (.inl rfl) (fun b u hb q=>(cz _ _ (aJ hb)).trans q) ⟨_,e⟩ ?_
 exact⟨hz,its',n',r,e⟩
def Bl9:V->V->V->Hp->(Hp->Prop)->Prop:=fun o i v H Q=>∃p xs k j,o=.ref p/\i=.int k/\H p=some (.lst xs)/\ixN xs.length k=some j/\Q (upd H p (.lst (xs.set j v)))
theorem set_list:Bo9 X Bl9:=by
 intro pins s σ H o i v ov iv u Q I ro ri rv h;obtain⟨p,xs,k,j,rfl,rfl,hp,hj,q⟩:=h
 cases ro
 obtain⟨t,rfl⟩:=ri;obtain⟨its,n,r,ho,hz⟩:=I.lst hp;obtain⟨h1,h2,h3,h4⟩:=Ab4 hj;have hl:=r.length;have hn:=U3
 have I':Inv X pins σ (upd H p (.lst (xs.set j v))) { s with heap:=s.heap.update p (Obj.mapSeq (·.setIfInBounds j u)) } :=
  I.lstUpd hp ho (Ao3 its n j u) (r.set rv j) (by rw[bG];exact hz) s.toks
 by_cases h0:0<=k
 ·have hk:k.toNat=j:=by
   rw[seqIndex_of h0 h4]at h1;exact bK h1
  exact PySem.W.ki_setAt ho h0 (by omega) (by rw[aO,<- hl];exact h4) (by rw[hk];exact⟨_,I',q⟩)
 ·have hk:(k+(its.toArray.size:Int)).toNat=j:=by
   rw[seqIndex_neg (by omega) h3]at h1
   rw[aO,<- hl];exact bK h1
  exact PySem.W.ki_setBack ho (by omega) (by rw[aO,<- hl];exact h3) (by omega) (by rw[hk];exact⟨_,I',q⟩)
theorem Aa5 (lo hi:p7)(n:Nat):(sliceBounds lo hi none n).1=((HT.sIx n 0 lo:Nat):Int)/\(sliceBounds lo hi none n).2.1=((HT.sIx n n hi:Nat):Int)/\(sliceBounds lo hi none n).2.2=1:=by
 refine⟨?_,?_,rfl⟩
 ·cases lo with
  | none=>simp[sliceBounds,HT.sIx]
  | some i =>
   simp only[sliceBounds,HT.sIx,Option.getD_none,show (1:Int)>0 by decide,bV]
   by_cases h:i<0
   ·simp only[h,bV] <;> omega
   ·simp only[h,aZ] <;> omega
 ·cases hi with
  | none=>simp[sliceBounds,HT.sIx]
  | some i =>
   simp only[sliceBounds,HT.sIx,Option.getD_none,show (1:Int)>0 by decide,bV]
   by_cases h:i<0
   ·simp only[h,bV] <;> omega
   ·simp only[h,aZ] <;> omega
theorem Xa (its:w6)(lo hi:p7):slicePick its.toArray lo hi none=((its.drop (HT.sIx its.length 0 lo)).take (HT.sIx its.length its.length hi-HT.sIx its.length 0 lo)).toArray:=by
 obtain⟨h1,h2,h3⟩:=Aa5 lo hi its.toArray.size;unfold slicePick;rw[h1,h2,h3]
 simp only[sliceRange_one,pick_run,aO] <;> rfl
def B0b (K:v_):V->p7->p7->Hp->VK->Prop:=fun x lo hi H Q=>∃a xs,x=.ref a/\SqL K H a xs/\∀p,H p=none->Q (.ref p) (upd H p (.lst (Ah0 xs lo hi)))
theorem Bk3:SlR X (B0b X.K):=by
 intro pins s σ H x v vl vu lo hi sl Q I rx hs pl pu h;obtain⟨a,xs,rfl,hx,q⟩:=h
 cases rx
 obtain⟨its,r,ht,hz⟩:=I.list hx;have hlen:=r.length
 refine⟨"list",_,slot_list_getitem.lookup,ht.isList.typeIs,?_⟩
 refine wpAny_getItem_list_slice ht.isList hs pl pu .none (by simp) ?_ (by rw[aO] <;> omega)
 rw[Xa,<- hlen]
 refine⟨.ref s.heap.objs.size,_,I.laid (t':=s.toks) (o:=.lst (Ah0 xs lo hi)) (fun b ob q=>aG _ q) (aq _) ?_,rfl,q _ (I.hok.fresh (aq _))⟩
 exact⟨au (Te xs lo hi) hz,_,0,(r.drop (HT.sIx xs.length 0 lo)).take (HT.sIx xs.length xs.length hi-HT.sIx xs.length 0 lo),aH _ rfl⟩
def Qs:V->Bool
 | .non=>true
 | .bl _=>true
 | .int _=>true
 | .str _=>true
 | _=>false
def eqV:V->V->Bool
 | .non,.non=>true
 | .bl a,.bl b=>a==b
 | .bl a,.int b=>(if a then 1 else 0)==b
 | .int a,.bl b=>a==(if b then 1 else 0)
 | .int a,.int b=>a==b
 | .str a,.str b=>a==b
 | _,_=>false
theorem Bt6 {A:p6}{s:q9}{y x:V}{u v:Value}(ry:RelV y u)(rx:RelV x v)(fy:Qs y=true)(fx:Qs x=true):SeqAt.EqAt A s u v (eqV y x):=by
 cases y with
 | non =>
  cases ry
  cases x with
  | non=>cases rx;exact SeqAt.EqAt.same _
  | bl b=>cases rx;exact SeqAt.EqAt.none_bool b
  | int b=>obtain⟨t,rfl⟩:=rx;exact SeqAt.EqAt.none_int b t
  | str b=>obtain⟨t,rfl⟩:=rx;exact SeqAt.EqAt.none_str b t
  | _=>exact absurd (show false=true from fx) aR
 | bl a =>
  cases ry
  cases x with
  | non=>cases rx;exact SeqAt.EqAt.bool_none a
  | bl b=>cases rx;exact SeqAt.EqAt.bool_bool a b
  | int b=>obtain⟨t,rfl⟩:=rx;exact SeqAt.EqAt.bool_int a b t
  | str b=>obtain⟨t,rfl⟩:=rx;exact SeqAt.EqAt.bool_str a b t
  | _=>exact absurd (show false=true from fx) aR
 | int a =>
  obtain⟨t',rfl⟩:=ry
  cases x with
  | non=>cases rx;exact SeqAt.EqAt.int_none a t'
  | bl b=>cases rx;exact SeqAt.EqAt.int_bool a t' b
  | int b=>obtain⟨t,rfl⟩:=rx;exact SeqAt.EqAt.int_int a t' b t
  | str b=>obtain⟨t,rfl⟩:=rx;exact SeqAt.EqAt.int_str a t' b t
  | _=>exact absurd (show false=true from fx) aR
 | str a =>
  obtain⟨t',rfl⟩:=ry
  cases x with
  | non=>cases rx;exact SeqAt.EqAt.str_none a t'
  | bl b=>cases rx;exact SeqAt.EqAt.str_bool a t' b
  | int b=>obtain⟨t,rfl⟩:=rx;exact SeqAt.EqAt.str_int a t' b t
  | str b=>obtain⟨t,rfl⟩:=rx;exact ji a t' b t
  | _=>exact absurd (show false=true from fx) aR
 | _=>exact absurd (show false=true from fy) aR
def eqU (x:V)(u:Value):Bool:=match u with
 | .none=>eqV .non x
 | .bool b=>eqV (.bl b) x
 | .int i _=>eqV (.int i) x
 | .str z _=>eqV (.str z) x
 | _=>false
theorem A9u {x y:V}{u:Value}(r:RelV y u)(f:Qs y=true):eqU x u=eqV y x:=by
 cases y with
 | non=>cases r;rfl
 | bl b=>cases r;rfl
 | int i=>obtain⟨t,rfl⟩:=r;rfl
 | str z=>obtain⟨t,rfl⟩:=r;rfl
 | _=>exact absurd (show false=true from f) aR
theorem Aa8 {x:V}:∀{xs:m7}{us:w6},Vals xs us->xs.all Qs=true->us.any (eqU x)=xs.any fun y=>eqV y x
 | _,_,.nil,_=>rfl
 | y::xs,u::us,.cons r t,f=>by
  rw[List.all_cons,cL]at f;rw[eQ,eQ,A9u r f.1,Aa8 t f.2]
theorem Wh {A:p6}{s:q9}{x:V}{v:Value}(rx:RelV x v)(fx:Qs x=true):∀{xs:m7}{us:w6},Vals xs us->xs.all Qs=true->∀u∈us,SeqAt.EqAt A s u v (eqU x u)
 | _,_,.nil,_=>fun u hu=>by cases hu
 | y::xs,u::us,.cons r t,f=>fun u' hu=>by
  rw[List.all_cons,cL]at f
  rcases az.mp hu with rfl | hu
  ·rw[A9u r f.1];exact Bt6 r rx f.1 fx
  ·exact Wh rx fx t f.2 u' hu
def inV (x:V)(xs:m7):Bool:=xs.any fun y=>eqV y x
def rIn (K:v_)(neg:Bool):R2:=fun x y H Q=>∃p xs,y=.ref p/\(SqL K H p xs\/SqT K H p xs)/\Qs x=true/\xs.all Qs=true/\Q (.bl (if neg then !inV x xs else inV x xs)) H
theorem Aa7:OpR X (compareOp .NotIn) (rIn X.K true):=by
 intro pins s σ H x y v u Q I rx ry h;obtain⟨p,xs,rfl,hq,fx,fs,q⟩:=h
 cases ry
 rcases hq with hq | hq
 ·obtain⟨its,r,pl,hz⟩:=I.list hq
  refine SeqAt.notIn_listAt (eqU x) pl.isList (fun w hw=>Wh rx fx r fs w (by simpa using hw)) ⟨.bl _,H,I,rfl,?_⟩
  rw[show its.toArray.any (eqU x)=its.any (eqU x) by simp,Aa8 r fs]
  exact q
 ·obtain⟨its,r,pl,hz⟩:=I.tuple hq
  refine SeqAt.notIn_tupleAt (eqU x) pl (fun w hw=>Wh rx fx r fs w (by simpa using hw)) ⟨.bl _,H,I,rfl,?_⟩
  rw[show its.toArray.any (eqU x)=its.any (eqU x) by simp,Aa8 r fs]
  exact q
theorem CallR.or {f:Value}{r r':m7->Hp->VK->Prop}(h:CallR X f r)(h':CallR X f r'):CallR X f (fun xs H Q=>r xs H Q\/r' xs H Q):=by
 intro pins s σ H xs us Q I rs q
 rcases q with q | q
 ·exact h pins s σ H xs us Q I rs q
 ·exact h' pins s σ H xs us Q I rs q
theorem Ae0:CallR X (.type "list") (fun xs H Q=>∃p ys,xs=[.ref p]/\(SqL X.K H p ys\/SqT X.K H p ys)/\∀l,H l=none->Q (.ref l) (upd H l (.lst ys))):=by
 intro pins s σ H xs us Q I r h;obtain⟨p,ys,rfl,hq,q⟩:=h;obtain⟨u,rfl,rx⟩:=vals1 r
 cases rx
 have fin:∀(its:w6),Vals ys its->ys.length<=sizeLine->∀(h':Heap) (c':Nat),(∀b o',s.heap.get? b=some o'->h'.get? b=some o') ->
  h'.get? s.heap.objs.size=some { cls:=.type "list",dict:=none,data:=.seq its.toArray c',slots:=#[] }->EP X pins σ Q (.ref s.heap.objs.size) { s with heap:=h' }:=fun its r' hz h' c' kp e =>
  ⟨.ref s.heap.objs.size,_,I.laid (t':=s.toks) kp (aq _) (show zG X.prog X.w _ h' _ (.lst ys) from ⟨hz,its,c',r',e⟩),rfl,q _ (I.hok.fresh (aq _))⟩
 rcases hq with hq | hq
 ·obtain⟨its,r',pl,hz⟩:=I.list hq
  have hlen:=r'.length;obtain⟨o,ho,hc,n,hd⟩:=pl.isList
  exact call_list_seq p (.inl rfl) ho hc hd (fun h' c' kp e=>fin its r' hz h' c' kp e) (by simp only[aO] <;> omega)
 ·obtain⟨its,r',pl,hz⟩:=I.tuple hq
  have hlen:=r'.length;obtain⟨o,ho,hc,n,hd⟩:=pl
  exact call_list_seq p (.inr rfl) ho hc hd (fun h' c' kp e=>fin its r' hz h' c' kp e) (by simp only[aO] <;> omega)
theorem W7:CallR X (.type "tuple") (fun xs H Q=>∃p ys,xs=[.ref p]/\((SqL X.K H p ys/\∀l,H l=none->Q (.ref l) (upd H l (.tup ys)))\/(SqT X.K H p ys/\Q (.ref p) H))):=by
 intro pins s σ H xs us Q I r h;obtain⟨p,ys,rfl,h⟩:=h;obtain⟨u,rfl,rx⟩:=vals1 r
 cases rx
 rcases h with ⟨hq,q⟩ | ⟨hq,q⟩
 ·obtain⟨its,r',pl,hz⟩:=I.list hq
  have hlen:=r'.length
  refine call_tuple_list pl.isList (fun h' kp=>?_) (by simp only[aO] <;> omega)
  have I1:Inv X pins σ H { s with heap:=h' }:=I.kept (t':=s.toks) kp
  have I2:Inv X pins σ (upd H h'.objs.size (.tup ys)) { s with heap:=h'.push { cls:=.type "tuple",data:=.seq its.toArray } } :=
   I1.laid (t':=s.toks) (fun b o e=>aG _ e) (aq _) (show zG X.prog X.w _ _ _ (.tup ys) from ⟨hz,its,r',zZ.new _ _⟩)
  exact⟨.ref h'.objs.size,_,I2,rfl,q _ (I1.hok.fresh (aq _))⟩
 ·obtain⟨its,r',pl,hz⟩:=I.tuple hq
  exact call_tuple_same pl ⟨.ref p,H,I,rfl,q⟩
def tyV (K:v_)(T:String)(x:V)(H:Hp):Prop:=match x with
 | .str _=>T = "str"
 | .int _=>T = "int"
 | .ref p=>(T = "list" /\ ∃xs,SqL K H p xs)\/(T = "tuple" /\ ∃o,K.lookup p=some o/\o.cls=.type "tuple" /\ o.dict=none) \/
  (T = "dict" /\ ((∃kvs,H p=some (.dK kvs))\/∃kvs,H p=some (.dT kvs)))\/(T = "set" /\ ∃S n,H p=some (.set S n))\/(T = "tuple" /\ ∃xs,H p=some (.tup xs))
 | _=>False
theorem Bu1 {pins:y_}{σ:St}{H:Hp}{s:q9}{T:String}{x:V}{v:Value}(I:Inv X pins σ H s)(r:RelV x v)(ty:tyV X.K T x H) :
 s.TypeIs v T/\∀a,v=.ref a->∃ob,s.heap.get? a=some ob/\ob.dict=none:=by
 cases x with
 | str z =>
  obtain⟨t,rfl⟩:=r
  cases (show T = "str" from ty)
  exact⟨typeIs_str s z t,fun _ e=>nomatch e⟩
 | int i =>
  obtain⟨t,rfl⟩:=r
  cases (show T = "int" from ty)
  exact⟨typeIs_int s i t,fun _ e=>nomatch e⟩
 | ref p =>
  cases r
  rcases ty with ⟨rfl,xs,hq⟩ | ⟨rfl,o,hk,hc,hd⟩ | ⟨rfl,hk⟩ | ⟨rfl,S,n,hk⟩ | ⟨rfl,xs,hk⟩
  ·obtain⟨its,_,pl,_⟩:=I.list hq
   refine⟨pl.isList.typeIs,fun a e=>?_⟩
   cases e
   obtain⟨o,n,e,c,hd,_⟩:=pl;exact⟨o,e,hd⟩
  ·refine⟨⟨o,I.kIn p o hk,hc⟩,fun a e=>?_⟩
   cases e
   exact⟨o,I.kIn _ o hk,hd⟩
  ·have z:∃o,s.heap.get? p=some o/\o.ExactDict:=by
    rcases hk with ⟨kvs,hk⟩ | ⟨kvs,hk⟩
    ·obtain⟨_,_,_,_,o,_,_,e,ex,_⟩:=I.hok p _ hk
     exact⟨o,e,ex⟩
    ·obtain⟨_,_,_,_,o,_,_,e,ex,_⟩:=I.hok p _ hk
     exact⟨o,e,ex⟩
   obtain⟨o,e,ex⟩:=z
   refine⟨⟨o,e,ex.1⟩,fun a e2=>?_⟩
   cases e2
   exact⟨o,e,ex.2.1⟩
  ·obtain⟨o,_,_,_,e,ex,_⟩:=I.hok p _ hk
   refine⟨⟨o,e,ex.1⟩,fun a e2=>?_⟩
   cases e2
   exact⟨o,e,ex.2.1⟩
  ·obtain⟨_,its,_,o,e,c,_,dn⟩:=I.hok p _ hk
   refine⟨⟨o,e,c⟩,fun a e2=>?_⟩
   cases e2
   exact⟨o,e,dn⟩
 | _=>exact False.elim ty
def tBM (K:v_)(T:String)(r:V->m7->Hp->VK->Prop)(to:TE)(t:TA):TE:=fun σ H Q=>to σ H fun x H1=>tyV K T x H1/\t σ H1 fun xs H2=>r x xs H2 Q
variable {o e:Expr}{es:u5}{to:TE}{t:TA}{name:Str}{apos cpos:Pos}{T id:String}{r:V->m7->Hp->VK->Prop}
theorem Bm2 (pa:PlainAttrs T)(slot:Slot T name id)(hty:typeOf (.builtin id)=pure (.type "method_descriptor")) (hm:MtR X id r) (ho:PE X o to) (ha:PA X (e::es) t)
 (hbase:attributeBase o name X.env (eval o X.env)=eval o X.env:=by rfl)
 (hfew:((backTo cpos (starEach (e::es) X.env)).all (fun x=>!x.1)&&(backToKw cpos (keywordEach [] X.env)).all (fun x=>x.1.isSome)
  && decide ((e::es).length+([]:List Keyword).length+(if ([]:List Keyword).isEmpty then 0 else 1)<30))=true:=by rfl)
 (hline:(apos.endLine==cpos.line)=true:=by rfl) (hs:starEach (e::es) X.env=(false,eval e X.env)::starEach es X.env:=by rfl) (hplain:(backTo cpos (starEach es X.env)).any (·.1)=false:=by rfl) :
 PE X (.Call (.Attribute o name apos) (e::es) [] cpos) (tBM X.K T r to t):=by
 intro pins s σ H Q I h
 refine wpAny_Call_method_late hbase hfew hline rfl (thn (ho pins s σ H _ I h) fun v s1 ⟨x,H1,I1,r1,ty,q1⟩=>?_)
 obtain⟨h1,h2⟩:=Bu1 I1 r1 ty
 refine⟨T,id,pa,slot,hty,h1,h2,?_⟩
 have hA:=ha cpos pins s1 σ H1 _ I1 q1;rw[hs]at hA ⊢
 refine fW (by show (false||(backTo cpos (starEach es X.env)).any (·.1))=false;rw[hplain] <;> rfl) (iC ?_)
 exact thn hA fun us s2 ⟨vs,H2,I2,r2,q2⟩=>hm pins s2 σ H2 x vs v us Q I2 r1 r2 q2
end
def MtM (X:Cx)(id:String)(r:V->m7->Hp->VK->Prop):Prop :=
 ∀
  (pins:y_) (s:q9) (σ:St) (H:Hp) (x:V) (xs:m7) (v:Value) (us:w6) (Q:VK),Inv X pins σ H s->RelV x v->Vals xs us->r x xs H Q ->
  wpAny (model X.prog X.w) X.A (call (.builtin id) (v::us)) (EP X pins σ Q) X.xe s
theorem Vals.one:∀{x:V}{us:w6},Vals [x] us->∃u,us=[u]/\RelV x u
 | _,_,h=>by
  cases h with
  | cons r t=>cases t;exact⟨_,rfl,r⟩
theorem Vals.two:∀{x y:V}{us:w6},Vals [x,y] us->∃u v,us=[u,v]/\RelV x u/\RelV y v
 | _,_,_,h=>by
  cases h with
  | cons r t =>
   cases t with
   | cons q t=>cases t;exact⟨_,_,rfl,r,q⟩
theorem Vals.eraseIdx:∀{xs:m7}{us:w6}(i:Nat),Vals xs us->Vals (xs.eraseIdx i) (us.eraseIdx i)
 | _,_,_,.nil=>.nil
 | _,_,0,.cons _ t=>t
 | _,_,i+1,.cons r t=>.cons r (Vals.eraseIdx i t)
theorem Vals.rep {xs:m7}{us:w6}(h:Vals xs us):∀k:Nat,Vals (List.replicate k xs).flatten (List.replicate k us).flatten
 | 0=>.nil
 | k+1=>by
  rw[dB,dB,fX,fX];exact Vals.append h (Vals.rep h k)
theorem Yk {α:Type}:∀(l:List α) (i:Nat),(l.eraseIdx i).length<=l.length
 | [],_=>aq _
 | _::_,0=>gP _
 | _::r,i+1=>jj (Yk r i)
theorem foldl_rep (its:w6):∀(k:Nat) (acc:w6),
 List.foldl (fun x1 x2=>x1++x2) acc.toArray (List.replicate k its.toArray)=(acc++(List.replicate k its).flatten).toArray
 | 0,acc=>by simp
 | k+1,acc=>by
  have e:acc.toArray++its.toArray=(acc++its).toArray:=by simp
  have e2:(acc++its)++(List.replicate k its).flatten=acc++(List.replicate (k+1) its).flatten:=by
   rw[dB,fX,fY]
  rw[<- e2,<- foldl_rep its k (acc++its),<- e,dB,List.foldl_cons]
section
variable {X:Cx}{pins:y_}{σ:St}{H:Hp}{s:q9}{l b:Addr}{xs ys zs:m7}
theorem Inv.lset {its its':w6}{n:Nat}{f:v6->v6}{t':Nat}(I:Inv X pins σ H s)(hH:H l=some (.lst xs))
 (e:s.heap.get? l=some { cls:=.type "list",data:=.seq its.toArray n }) (hf:f its.toArray=its'.toArray) (hv:Vals ys its') (hz:ys.length<=sizeLine) :
 Inv X pins σ (upd H l (.lst ys)) { s with heap:=s.heap.update l (Obj.mapSeq f),toks:=t' }:=by
 have q:=PySem.IsL.update e f;rw[hf]at q
 refine I.write (x:=l) (e:=l) (by rw[hH];exact trivial) (.inl rfl) (fun b' u hb hu=>(cz s.heap (Obj.mapSeq f) (aJ hb)).trans hu) ⟨_,q⟩ ?_
 exact⟨hz,its',_,hv,q⟩
theorem Inv.lnew {its:w6}{t':Nat}(I:Inv X pins σ H s)(hv:Vals ys its)(hz:ys.length<=sizeLine) :
 Inv X pins σ (upd H s.heap.objs.size (.lst ys)) { s with heap:=s.heap.push { cls:=.type "list",data:=.seq its.toArray },toks:=t' } :=
 I.laid (fun _ _ q=>aG _ q) (aq _) ⟨hz,its,0,hv,aH _ rfl⟩
theorem Inv.fresh (I:Inv X pins σ H s):H s.heap.objs.size=none:=I.hok.fresh (aq _)
theorem Inv.lstM (I:Inv X pins σ H s)(hH:H l=some (.lst xs)):xs.length<=sizeLine/\∃(its:w6) (n:Nat),Vals xs its/\xs.length=its.length/\s.heap.get? l=some { cls:=.type "list",data:=.seq its.toArray n }:=by
 obtain⟨z,its,n,r,e⟩:=I.hok l _ hH;exact⟨z,its,n,r,r.length,e⟩
theorem A4c {n:Nat}(h:n<=sizeLine):Builtin.List.listTooLong n=false:=by
 unfold Builtin.List.listTooLong
 exact aL (by omega)
end
section
variable {X:Cx}
def rAppend:V->m7->Hp->VK->Prop:=fun x vs H Q=>∃l xs y,x=.ref l/\vs=[y]/\H l=some (.lst xs)/\xs.length<sizeLine/\Q .non (upd H l (.lst (xs++[y])))
theorem A2f:MtM X "list.append" rAppend:=by
 intro pins s σ H x vs v us Q I rx rv h;obtain⟨l,xs,y,rfl,rfl,hH,hz,q⟩:=h
 cases rx
 obtain⟨u,rfl,ru⟩:=rv.one;obtain⟨z,its,n,r,hl,e⟩:=I.lstM hH
 refine dM F.slot_list_append ⟨_,e,rfl⟩ F.entry_list_append (F.args_list_append_2 _ _) (PySem.list_append l its.toArray n u (by rw[aO];omega)) ⟨e,?_⟩
 refine⟨.non,_,I.lset (its':=its++[u]) hH e (by simp) (r.append (.cons ru .nil)) ?_,rfl,q⟩
 rw[aK,eU];omega
def rPopAt:V->m7->Hp->VK->Prop:=fun x vs H Q=>∃l xs i k y,x=.ref l/\vs=[.int i]/\H l=some (.lst xs)/\-(2 ^ 63)<=i/\i<2 ^ 63/\seqIndex? i xs.length=some k/\xs[k]?=some y/\Q y (upd H l (.lst (xs.eraseIdx k)))
theorem Ah7:MtM X "list.pop" rPopAt:=by
 intro pins s σ H x vs v us Q I rx rv h;obtain⟨l,xs,i,k,y,rfl,rfl,hH,h1,h2,hk,hy,q⟩:=h
 cases rx
 obtain⟨u,rfl,ru⟩:=rv.one;obtain⟨t,rfl⟩:=ru;obtain⟨z,its,n,r,hl,e⟩:=I.lstM hH;obtain⟨w,hw,rw'⟩:=r.get hy
 refine dM F.slot_list_pop ⟨_,e,rfl⟩ F.entry_list_pop (F.args_list_pop_2 _ _)
  (MeetsSeq.list_pop_at l its.toArray n i t k w (fitsIndex_both h1 h2) (by rw[aO,<- hl];exact hk) (by rw[<- eV];exact hw) (by rw[aO];omega)) ⟨e,?_⟩
 refine⟨y,_,I.lset (its':=its.eraseIdx k) hH e ?_ (r.eraseIdx k) ?_,rw',q⟩
 ·show its.toArray.eraseIdxIfInBounds k=(its.eraseIdx k).toArray
  rw[List.eraseIdxIfInBounds_toArray]
 ·have:=Yk xs k
  omega
def B1t:R2:=fun x y H Q=>∃l b xs zs,x=.ref l/\y=.ref b/\H l=some (.lst xs)/\H b=some (.lst zs)/\xs.length+zs.length<=sizeLine/\∀p,H p=none->Q (.ref p) (upd H p (.lst (xs++zs)))
theorem Bw7:OpR X (binaryOp .Add) B1t:=by
 intro pins s σ H x y v u Q I rx ry h;obtain⟨l,b,xs,zs,rfl,rfl,hH,hB,hz,q⟩:=h
 cases rx
 cases ry
 obtain⟨z,its,n,r,hl,e⟩:=I.lstM hH;obtain⟨z2,its2,n2,r2,hl2,e2⟩:=I.lstM hB
 refine PySem.P.add_list e e2 ?_ (by rw[aO,aO];omega)
 have ea:its.toArray++its2.toArray=(its++its2).toArray:=by simp
 rw[ea]
 exact⟨.ref _,_,I.lnew (t':=s.toks) (r.append r2) (by rw[aK];omega),rfl,q _ I.fresh⟩
def Bb8:R2:=fun x y H Q=>∃l k xs,x=.ref l/\y=.int k/\H l=some (.lst xs)/\-(2 ^ 63)<=k/\k<2 ^ 63/\xs.length*k.toNat<=sizeLine /\
 ∀p,H p=none->Q (.ref p) (upd H p (.lst (List.replicate k.toNat xs).flatten))
theorem len_rep {α:Type}(xs:List α)(k:Nat):(List.replicate k xs).flatten.length=k*xs.length:=by
 induction k with
 | zero=>simp
 | succ k ih=>rw[dB,fX,aK,ih,Nat.succ_mul,Nat.add_comm]
theorem Bt7:OpR X (binaryOp .Mult) Bb8:=by
 intro pins s σ H x y v u Q I rx ry h;obtain⟨l,k,xs,rfl,rfl,hH,h1,h2,hz,q⟩:=h
 cases rx
 obtain⟨t,rfl⟩:=ry;obtain⟨z,its,n,r,hl,e⟩:=I.lstM hH
 have hlen:its.toArray.size*k.toNat<=sizeLine:=by rw[aO,<- hl];exact hz
 have hcap:¬ its.toArray.size*k.toNat>(2 ^ 63-1) / 8:=by
  have:(sizeLine:Nat)<=(2 ^ 63-1) / 8:=by decide
  omega
 have hfit:¬ (!Builtin.List.listFitsIndex k)=true:=by
  rw[fitsIndex_both h1 h2];exact aR
 have hlong:¬ Builtin.List.listTooLong (its.toArray.size*k.toNat)=true:=by
  rw[A4c hlen];exact aR
 have hnew:List.foldl (fun x1 x2=>x1++x2) #[] (List.replicate (if its.toArray.isEmpty=true then 0 else k.toNat) its.toArray)=(List.replicate k.toNat its).flatten.toArray:=by
  have f0:∀m:Nat,List.foldl (fun x1 x2=>x1++x2) #[] (List.replicate m its.toArray)=(List.replicate m its).flatten.toArray:=fun m=>by
   have:=foldl_rep its m [];rw[cX]at this;exact this
  rw[f0]
  cases its with
  | nil=>simp
  | cons a r'=>rw[if_neg (by simp)]
 refine wpAny_binaryOp_repeat_ref (T := "list") (U := "int") (by decide) ⟨_,e,rfl⟩ (fun s'=>typeIs_int s' k t) noFill_list_mul F.fills_int_mul F.slot_int_rmul repeat_list F.slot_int_index.lookup
  (dM F.slot_int_rmul (typeIs_int s k t) F.entry_int_rmul (F.args_int_rmul_2 _ _) (int___rmul___int_list k t l its.toArray n)
   ⟨e,rfl,⟨_,e,rfl⟩,dM F.slot_list_mul ⟨_,e,rfl⟩ F.entry_list_mul (F.args_list_mul_2 _ _) (AutoListH.list___mul___list_int_3 l its.toArray n k t hfit hcap hlong) ⟨e,?_⟩⟩)
 rw[hnew]
 exact⟨.ref _,_,I.lnew (t':=s.toks) (r.rep k.toNat) (by rw[len_rep,Nat.mul_comm];exact hz),rfl,q _ I.fresh⟩
end
section
variable {κ:Type}[DecidableEq κ]
def Js (kvs:List (κ×V))(k:κ):Option V:=(kvs.find? fun kv=>decide (kv.1=k)).map (·.2)
def putK (kvs:List (κ×V))(k:κ)(v:V):List (κ×V) :=
 if (kvs.any fun kv=>decide (kv.1=k))=true then kvs.map (fun kv=>if kv.1=k then (kv.1,v) else kv) else kvs++[(k,v)]
theorem Mt {p:κ×V}{r:List (κ×V)}{k:κ}(e:p.1=k):Js (p::r) k=some p.2:=by simp[Js,eX,e]
theorem Ji {p:κ×V}{r:List (κ×V)}{k:κ}(e:¬ p.1=k):Js (p::r) k=Js r k:=by simp[Js,eX,e]
theorem Q7 (k:κ):∀kvs:List (κ×V),(kvs.any fun kv=>decide (kv.1=k))=(Js kvs k).isSome
 | []=>rfl
 | p::r=>by
  rw[eQ]
  by_cases e:p.1=k
  ·simp only[Mt e,aF e,Bool.true_or,jk]
  ·rw[Ji e,aL e,Bool.false_or];exact Q7 k r
theorem Td (kvs:List (κ×V))(k:κ)(v:V):(putK kvs k v).length<=kvs.length+1:=by
 unfold putK
 split
 ·rw[ak];omega
 ·rw[aK,aQ,cY];omega
theorem RelO.isSome_eq {o:Option V}{u:t_}(r:RelO o u):o.isSome=u.isSome:=by
 cases o with
 | none=>
  cases u with
   | none=>rfl
   | some _=>exact(show False from r).elim
 | some _=>
  cases u with
   | none=>exact(show False from r).elim
   | some _=>rfl
theorem RelO.getD {o:Option V}{u:t_}{d:V}{d':Value}(r:RelO o u)(rd:RelV d d'):RelV (o.getD d) (u.getD d'):=by
 cases o with
 | none=>
  cases u with
   | none=>exact rd
   | some _=>exact(show False from r).elim
 | some _=>
  cases u with
   | none=>exact(show False from r).elim
   | some _=>exact r
theorem KV.val {kvs:List (κ×V)}{vs:List (κ×Value)}(r:KV kvs vs)(k:κ):RelO (Js kvs k) (valueAt vs k):=by
 unfold KV at r
 induction r with
 | nil=>exact True.intro
 | @cons p q ps qs h t ih =>
  obtain⟨h1,h2⟩:=h
  by_cases e:p.1=k
  ·have e':q.1=k:=h1.symm.trans e
   have b:valueAt (q::qs) k=some q.2:=by simp[valueAt,eX,e']
   rw[Mt e,b];exact h2
  ·have e':¬ q.1=k:=fun z=>e (h1.trans z)
   have b:valueAt (q::qs) k=valueAt qs k:=by simp[valueAt,eX,e']
   rw[Ji e,b];exact ih
theorem KV.any {kvs:List (κ×V)}{vs:List (κ×Value)}(r:KV kvs vs)(k:κ):(kvs.any fun kv=>decide (kv.1=k))=vs.any fun kv=>decide (kv.1=k):=by
 unfold KV at r
 induction r with
 | nil=>rfl
 | cons h t ih=>rw[eQ,eQ,ih,h.1]
theorem KV.repl {kvs:List (κ×V)}{vs:List (κ×Value)}(r:KV kvs vs)(k:κ){y:V}{u:Value}(ry:RelV y u) :
 KV (kvs.map fun kv=>if kv.1=k then (kv.1,y) else kv) (vs.map fun kv=>if kv.1=k then (kv.1,u) else kv):=by
 unfold KV at r ⊢
 induction r with
 | nil=>exact .nil
 | @cons p q ps qs h t ih =>
  rw[aD,aD]
  refine .cons ?_ ih
  obtain⟨h1,h2⟩:=h
  by_cases e:p.1=k
  ·rw[if_pos e,if_pos (h1.symm.trans e)];exact⟨h1,ry⟩
  ·rw[if_neg e,if_neg (fun z=>e (h1.trans z))];exact⟨h1,h2⟩
theorem KV.put {kvs:List (κ×V)}{vs:List (κ×Value)}(r:KV kvs vs)(k:κ){y:V}{u:Value}(ry:RelV y u):KV (putK kvs k y) (stored vs k u):=by
 unfold putK stored;rw[r.any k]
 by_cases e:(vs.any fun kv=>decide (kv.1=k))=true
 ·rw[if_pos e,if_pos e];exact r.repl k ry
 ·rw[if_neg e,if_neg e];exact Paired.snoc r ⟨rfl,ry⟩
theorem KV.length {kvs:List (κ×V)}{vs:List (κ×Value)}(r:KV kvs vs):kvs.length=vs.length:=d_ r
end
theorem A7y {P:t6}{w:World}{k:Key}{u:Value}(r:RelV (kV k) u):(Gf P w).is k u=true:=by
 cases k with
 | inl i=>obtain⟨t,e⟩:=(show ∃t,u=Value.int i t from r);subst e;exact Mu P w i t
 | inr x=>obtain⟨t,e⟩:=(show ∃t,u=Value.str x t from r);subst e;exact Nk P w x t
theorem Ax2 {A:p6}(hu:A.units+9<cLine):A.in1.units+8<cLine:=bW (fZ (show A.units+1+8=A.units+9 from rfl)) hu
abbrev KT (H:Hp):List (PyData×V)->List (PyData×Addr×Value)->Prop:=Paired fun p q=>p.1=q.1/\KAt H p.1 q.2.1/\RelV p.2 q.2.2
theorem KT.val {H:Hp}{kvs:List (PyData×V)}{xs:List (PyData×Addr×Value)}(r:KT H kvs xs)(k:q_):RelO (Js kvs k) ((atKey xs k).map (·.2)):=by
 induction r with
 | nil=>exact True.intro
 | @cons p q ps qs h t ih =>
  obtain⟨h1,_,h2⟩:=h
  by_cases e:p.1=k
  ·have e':q.1=k:=h1.symm.trans e
   have b:atKey (q::qs) k=some q.2:=by simp[atKey,eX,e']
   rw[Mt e,b];exact h2
  ·have e':¬ q.1=k:=fun z=>e (h1.trans z)
   have b:atKey (q::qs) k=atKey qs k:=by simp[atKey,eX,e']
   rw[Ji e,b];exact ih
theorem KT.repl {H:Hp}{kvs:List (PyData×V)}{xs:List (PyData×Addr×Value)}(r:KT H kvs xs)(k:q_){y:V}{u:Value}(ry:RelV y u) :
 KT H (kvs.map fun kv=>if kv.1=k then (kv.1,y) else kv) (xs.map (putAt k u)):=by
 induction r with
 | nil=>exact .nil
 | @cons p q ps qs h t ih =>
  rw[aD,aD]
  refine .cons ?_ ih
  obtain⟨h1,h2,h3⟩:=h;unfold putAt
  by_cases e:p.1=k
  ·rw[if_pos e,if_pos (h1.symm.trans e)];exact⟨h1,h2,ry⟩
  ·rw[if_neg e,if_neg (fun z=>e (h1.trans z))];exact⟨h1,h2,h3⟩
theorem KT.put {H:Hp}{kvs:List (PyData×V)}{xs:List (PyData×Addr×Value)}(r:KT H kvs xs)(k:q_){b:Addr}{y:V}{u:Value}(hb:KAt H k b)(ry:RelV y u) :
 KT H (putK kvs k y) (storedH xs k b u):=by
 have e:(kvs.any fun kv=>decide (kv.1=k))=(atKey xs k).isSome:=by
  rw[Q7,(r.val k).isSome_eq,Option.isSome_map]
 unfold putK storedH;rw[e]
 by_cases q:(atKey xs k).isSome=true
 ·rw[if_pos q,if_pos q];exact r.repl k ry
 ·rw[if_neg q,if_neg q];exact Paired.snoc r ⟨rfl,hb,ry⟩
theorem KT.keeps {H H':Hp}{kvs:List (PyData×V)}{xs:List (PyData×Addr×Value)}(r:KT H kvs xs)(ht:∀b ys,H b=some (.tup ys)->H' b=some (.tup ys)):KT H' kvs xs :=
 Paired.mapP r fun _ _ z=>⟨z.1,z.2.1.stay ht,z.2.2⟩
section
variable {P:t6}{w:World}{H:Hp}{h:Heap}{a:Addr}
theorem Gu {u:HO}(ok:HOk P w H h)(e:Rd H a u):zG P w H h a u:=e.ok ok
theorem Av6 {kvs:List (Key×V)}(ok:HOk P w H h)(e:Rd H a (.dK kvs)):kvs.length<=sizeLine/\(a==sysModules)=false/\∃vs,KV kvs vs/\h.DictOf (Gf P w) a vs :=
 show zG P w H h a (.dK kvs) from Gu ok e
theorem B1j {kvs:List (Key×V)}(ok:HOk P w H h)(e:H a=some (.dK kvs)):kvs.length<=sizeLine/\(a==sysModules)=false/\∃vs,KV kvs vs/\h.DictOf (Gf P w) a vs:=Av6 ok (.inl e)
mutual
theorem X6 (ok:HOk P w H h):∀{d:q_}{v:V}{u:Value},KTr H d v->RelV v u->∃as,Reads h u d as
 | .none,_,u=>fun e r=>by
  cases (show _=V.non from e)
  cases (show u=Value.none from r)
  exact⟨_,.none⟩
 | .int i,_,u=>fun e r=>by
  cases (show _=V.int i from e)
  obtain⟨t,rfl⟩:=r;exact⟨_,.int i t⟩
 | .str x,_,u=>fun e r=>by
  cases (show _=V.str x from e)
  obtain⟨t,rfl⟩:=r;exact⟨_,.str x t⟩
 | .tuple ds,_,u=>fun e r=>by
  obtain⟨a,vs,rfl,ha,t⟩:=e
  cases (show u=Value.ref a from r)
  obtain⟨z,its,rv,o,e,c,⟨n,dt⟩,_⟩:=ok a _ ha;obtain⟨as,q⟩:=Wt ok t rv
  exact⟨_,.tuple e c dt (by simpa using q)⟩
 | .bool _,_,_=>fun e _=>False.elim e
 | .list _,_,_=>fun e _=>False.elim e
 | .dict _,_,_=>fun e _=>False.elim e
theorem Wt (ok:HOk P w H h):∀{ds:w5}{vs:m7}{us:w6},KTrL H ds vs->Vals vs us->∃as,ReadsAll h us ds as
 | [],_,us=>fun e r=>by
  cases (show _=[] from e)
  cases r
  exact⟨_,.nil⟩
 | d::ds,_,us=>fun e r=>by
  obtain⟨v,vs,rfl,hv,t⟩:=e
  cases r with
  | cons r1 r2 =>
   obtain⟨as,q⟩:=X6 ok hv r1;obtain⟨bs,p⟩:=Wt ok t r2;exact⟨_,.cons q p⟩
end
theorem Wy {k:q_}(ok:HOk P w H h)(e:KAt H k a):(Ck P w).is h k a:=⟨e.1,X6 ok e.2 (show RelV (.ref a) (.ref a) from rfl)⟩
theorem Av3 {kvs:List (PyData×V)}(ok:HOk P w H h)(e:Rd H a (.dT kvs)):kvs.length<=sizeLine/\(a==sysModules)=false /\
 ∃xs,KT H kvs xs/\h.DictOfH (Ck P w) a xs:=by
 obtain⟨z,y,xs,r,o,es,ep,h1,h2,h3,h4,h5⟩:=(show zG P w H h a (.dT kvs) from Gu ok e)
 refine⟨z,y,xs,r,o,es,ep,h1,h2,h3,h4,fun x hx=>?_,h5⟩
 have all:∀{l:List (PyData×V)} {m:List (PyData×Addr×Value)},KT H l m->∀x∈m,(Ck P w).is h x.1 x.2.1:=by
  intro l m q
  induction q with
  | nil=>intro x hx;exact nomatch hx
  | @cons p q ps qs hq t ih =>
   intro x hx
   rcases az.mp hx with e | hx
   ·subst e
    exact Wy ok (by rw[<- hq.1];exact hq.2.1)
   ·exact ih x hx
 exact all r x hx
theorem Bn0 {kvs:List (PyData×V)}(ok:HOk P w H h)(e:H a=some (.dT kvs)):kvs.length<=sizeLine/\(a==sysModules)=false /\
 ∃xs,KT H kvs xs/\h.DictOfH (Ck P w) a xs:=Av3 ok (.inl e)
end
def Bi0 (H:Hp)(a:Addr)(y:V)(r:Option V):Prop :=
 (∃kvs k,Rd H a (.dK kvs)/\y=kV k/\r=Js kvs k)\/∃kvs k b,Rd H a (.dT kvs)/\y=.ref b/\KAt H k b/\r=Js kvs k
def DPut (H:Hp)(a:Addr)(y v:V)(H':Hp):Prop :=
 (∃kvs k,H a=some (.dK kvs)/\y=kV k/\kvs.length<sizeLine/\H'=upd H a (.dK (putK kvs k v))) \/
 ∃kvs k b,H a=some (.dT kvs)/\y=.ref b/\KAt H k b/\kvs.length<sizeLine/\H'=upd H a (.dT (putK kvs k v))
theorem DPut.t {H:Hp}{a b:Addr}{kvs:List (PyData×V)}{k:q_}{v:V}(e:H a=some (.dT kvs))(eb:KAt H k b)(hl:kvs.length<sizeLine) :
 DPut H a (.ref b) v (upd H a (.dT (putK kvs k v))):=.inr ⟨kvs,k,b,e,rfl,eb,hl,rfl⟩
section
variable {X:Cx}{pins:y_}{σ:St}{H:Hp}{s:q9}{a:Addr}{y v:V}{u r:Value}{o:Option V}{A:p6}{E:z_}
theorem Inv.big (I:Inv X pins σ H s):sysModules<s.heap.objs.size:=by
 have h:mainGlobals<s.heap.objs.size:=(I.mod.glob.keeps I.bk).lt
 exact Nat.lt_trans (by decide) h
theorem Uk {h':Heap}{t':Nat}{ob:HO}(I:Inv X pins σ H s)(mu:Mut (H a))(hs:Heap.SameBut a s.heap h')(he:∃q,h'.get? a=some q)(new:zG X.prog X.w (upd H a ob) h' a ob) :
 Inv X pins σ (upd H a ob) { s with heap:=h',toks:=t' } :=
 I.write (x:=a) (e:=a) mu (.inl rfl) (fun b q hb z=>(hs.2 b hb).trans z) he new
theorem Bu2 {P:t6}{w:World}{H':Hp}{h':Heap}{kvs:List (Key×V)}{vs:List (Key×Value)}(z:kvs.length<=sizeLine)(hd:(a==sysModules)=false)(rel:KV kvs vs)(dd:h'.DictOf (Gf P w) a vs) :
 zG P w H' h' a (.dK kvs):=⟨z,hd,vs,rel,dd⟩
theorem A2a {H':Hp}{Q:Unit->q9->Prop}(hu:A.units+9<cLine)(I:Inv X pins σ H s)(g:DPut H a y v H')(ry:RelV y u)(rv:RelV v r)(h:∀s',Inv X pins σ H' s'->Q () s') :
 wpAny (model X.prog X.w) A (setItem (.ref a) u r) Q E s:=by
 rcases g with ⟨kvs,k,e,ey,l,eH⟩ | ⟨kvs,k,b,e,ey,eb,l,eH⟩
 ·subst ey eH
  obtain⟨z,hd,vs,rel,dd⟩:=B1j I.hok e
  have hz:vs.length<=sizeLine:=by rw[<- rel.length];exact z
  have hl:(putK kvs k v).length<=sizeLine:=by have:=Td kvs k v;omega
  refine wpAny_setItem_pairs (hsz:=hz) (A7y ry) dd fun h' dd' hs=>h _ ?_
  have he:∃q,h'.get? a=some q:=let ⟨q,_,_,hq,_⟩:=dd'; ⟨q,hq⟩
  exact Uk I (by rw[e];exact True.intro) hs he (Bu2 hl hd (rel.put k rv) dd')
 ·subst ey eH
  cases (show u=Value.ref b from ry)
  obtain⟨z,hd,xs,rel,dd⟩:=Bn0 I.hok e
  have hz:xs.length<=sizeLine:=by rw[<- d_ rel];exact z
  have hl:(putK kvs k v).length<=sizeLine:=by have:=Td kvs k v;omega
  refine wpAny_setItem_heap (hsz:=hz) ((show (Ck _ _).room _ from Ax2 hu)) (Wy I.hok eb) dd fun h' dd' hs=>h _ ?_
  obtain⟨q,es,ep,hq,h2,h3,h4,_,h5⟩:=dd'
  refine Uk I (by rw[e];exact True.intro) hs ⟨q,hq⟩ ⟨hl,hd,_,(rel.put k eb rv).keeps fun c ys ec=>?_,q,es,ep,hq,h2,h3,h4,h5⟩
  rw[Ak (A7c ec e (fun z=>nomatch z))]
  exact ec
end
def A5d (td ty tv:TE):TS:=fun D σ H=>tv σ H fun v H1=>td σ H1 fun x H2=>ty σ H2 fun y H3=>∃a H4,x=.ref a/\DPut H3 a y v H4/\D.nx σ H4
section
variable {X:Cx}{o i e value:Expr}{pos pos' tpos:Pos}{td ty tv:TE}
theorem Bk2 (hu:X.A.units+9<cLine)(ho:PE X o td)(hi:PE X i ty)(hv:PE X value tv)(hs:swapsWith value (some (.Subscript o i pos')) pos.line X.env=pure false) :
 PS X (.Assign [.Subscript o i pos'] value pos) (A5d td ty tv):=by
 intro pins s σ H D I h
 refine wpAny_Assign_Subscript (thn (hv pins s σ H _ I h) fun r s1 ⟨v,H1,I1,rv,q1⟩=>thn (ho pins s1 σ H1 _ I1 q1) fun u s2 ⟨x,H2,I2,rx,q2⟩=>thn (hi pins s2 σ H2 _ I2 q2) fun iv s3 ⟨y,H3,I3,ry,a,H4,ex,g,q3⟩=>?_) hs
 subst ex;obtain rfl:u=Value.ref a:=rx
 exact A2a hu I3 g ry rv fun s4 I4=>⟨σ,H4,I4,q3⟩
end
theorem A9r {P:t6}{w:World}{H:Hp}(h:Heap)(hb:sysModules<h.objs.size):zG P w H (h.push { cls:=.type "dict",data:=.dict #[] }) h.objs.size (.dT []) :=
 ⟨aW _,cD.mpr (aJ (aV hb)),[],.nil,_,#[],0,aH _ rfl,⟨rfl,rfl,rfl⟩,rfl,rfl,eY⟩
def As1:TE:=fun _ H Q=>∀p,H p=none->Q (.ref p) (upd H p (.dT []))
section
variable {X:Cx}{pos:Pos}
theorem A9a:PE X (.Dict [] [] pos) As1:=fun pins s σ H Q I h =>
 wpAny_Dict_empty ⟨.ref s.heap.objs.size,_,I.laid (a:=s.heap.objs.size) (o:=.dT []) (t':=s.toks) (fun _ _ q=>aG _ q) (aq _) (A9r s.heap I.big),rfl,h _ (I.hok.fresh (aq _))⟩
end
structure M1 (X:Cx) (o:Expr) (m:Str) (apos:Pos) (e:Expr) (cpos:Pos):Prop where
 base:attributeBase o m X.env (eval o X.env)=eval o X.env
 few:((backTo cpos (starEach [e] X.env)).all (fun x=>!x.1)&&(backToKw cpos (keywordEach [] X.env)).all (fun x=>x.1.isSome)
  && decide (([e]:u5).length+([]:List Keyword).length+(if ([]:List Keyword).isEmpty then 0 else 1)<30))=true
 line:(apos.endLine==cpos.line)=true
 trees:backTo cpos (starEach [e] X.env)=[(false,eval e X.env)]
structure M2 (X:Cx) (o:Expr) (m:Str) (apos:Pos) (e f:Expr) (cpos:Pos):Prop where
 base:attributeBase o m X.env (eval o X.env)=eval o X.env
 few:((backTo cpos (starEach [e,f] X.env)).all (fun x=>!x.1)&&(backToKw cpos (keywordEach [] X.env)).all (fun x=>x.1.isSome)
  && decide (([e,f]:u5).length+([]:List Keyword).length+(if ([]:List Keyword).isEmpty then 0 else 1)<30))=true
 line:(apos.endLine==cpos.line)=true
 trees:backTo cpos (starEach [e,f] X.env)=[(false,eval e X.env),(false,eval f X.env)]
def IsD (H:Hp)(a:Addr):Prop:=(∃kvs,Rd H a (.dK kvs))\/∃kvs,Rd H a (.dT kvs)
theorem Vy {X:Cx}{pins:y_}{σ:St}{H:Hp}{s:q9}{a:Addr}(I:Inv X pins σ H s)(d:IsD H a) :
 s.TypeIs (.ref a) "dict" /\ (∀b,Value.ref a=.ref b->∃ob,s.heap.get? b=some ob/\ob.dict=none)/\(a==sysModules)=false:=by
 rcases d with ⟨kvs,e⟩ | ⟨kvs,e⟩
 ·obtain⟨_,hd,vs,_,dd⟩:=Av6 I.hok e
  refine⟨dd.typeIs,fun b q=>?_,hd⟩
  cases q
  obtain⟨ob,_,_,h1,h2,_⟩:=dd;exact⟨ob,h1,h2.2.1⟩
 ·obtain⟨_,hd,xs,_,dd⟩:=Av3 I.hok e
  refine⟨dd.typeIs,fun b q=>?_,hd⟩
  cases q
  obtain⟨ob,_,_,h1,h2,_⟩:=dd;exact⟨ob,h1,h2.2.1⟩
section
variable {X:Cx}{pins:y_}{σ:St}{H:Hp}{s:q9}{a:Addr}{y d:V}{u r:Value}{o:Option V}{A:p6}{E:z_}
theorem By4 {Q:z_}(hu:A.units+9<cLine)(I:Inv X pins σ H s)(g:Bi0 H a y o)(ry:RelV y u)(h:∀w' s',Inv X pins σ H s'->RelV (o.getD .non) w'->Q w' s') :
 wpAny (model X.prog X.w) A (call (.builtin "dict.get") [.ref a,u]) Q E s:=by
 rcases g with ⟨kvs,k,e,ey,l⟩ | ⟨kvs,k,b,e,ey,eb,l⟩
 ·subst ey
  obtain⟨z,hd,vs,rel,dd⟩:=Av6 I.hok e
  refine eZ gb dd.typeIs iD (PySem.F.args_dict_get_2 _ _) (meets_dict_get (Gf X.prog X.w) a (A7y ry) hd) ⟨_,dd.mapOf,h _ _ (I.tok _) ?_⟩
  rw[l];exact(rel.val k).getD rfl
 ·subst ey
  cases (show u=Value.ref b from ry)
  obtain⟨z,hd,xs,rel,dd⟩:=Av3 I.hok e
  refine eZ gb dd.typeIs iD (PySem.F.args_dict_get_2 _ _) (meetsH_dict_get (Ck X.prog X.w) a b hd) ⟨(show (Ck _ _).room _ from Ax2 hu),k,xs,Wy I.hok eb,dd,h _ _ (I.tok _) ?_⟩
  rw[l];exact(rel.val k).getD rfl
theorem Bp8 {Q:z_}(hu:A.units+9<cLine)(I:Inv X pins σ H s)(g:Bi0 H a y o)(ry:RelV y u)(rd:RelV d r)(h:∀w' s',Inv X pins σ H s'->RelV (o.getD d) w'->Q w' s') :
 wpAny (model X.prog X.w) A (call (.builtin "dict.get") [.ref a,u,r]) Q E s:=by
 rcases g with ⟨kvs,k,e,ey,l⟩ | ⟨kvs,k,b,e,ey,eb,l⟩
 ·subst ey
  obtain⟨z,hd,vs,rel,dd⟩:=Av6 I.hok e
  refine eZ gb dd.typeIs iD (PySem.F.args_dict_get_3 _ _ _) (meets_dict_get_default (Gf X.prog X.w) a (A7y ry) hd r) ⟨_,dd.mapOf,h _ _ (I.tok _) ?_⟩
  rw[l];exact(rel.val k).getD rd
 ·subst ey
  cases (show u=Value.ref b from ry)
  obtain⟨z,hd,xs,rel,dd⟩:=Av3 I.hok e
  refine eZ gb dd.typeIs iD (PySem.F.args_dict_get_3 _ _ _) (meetsH_dict_get_default (Ck X.prog X.w) a b hd r) ⟨(show (Ck _ _).room _ from Ax2 hu),k,xs,Wy I.hok eb,dd,h _ _ (I.tok _) ?_⟩
  rw[l];exact(rel.val k).getD rd
end
def By3 (td ty:TE):TE:=fun σ H Q=>td σ H fun x H1=>∃a,x=.ref a/\IsD H1 a/\ty σ H1 fun y H2=>∃o,Bi0 H2 a y o/\Q (o.getD .non) H2
def Zv (td ty tx:TE):TE:=fun σ H Q=>td σ H fun x H1=>∃a,x=.ref a/\IsD H1 a/\ty σ H1 fun y H2=>tx σ H2 fun z H3=>∃o,Bi0 H3 a y o/\Q (o.getD z) H3
section
variable {X:Cx}{o e f:Expr}{apos cpos:Pos}{td ty tx:TE}
theorem Ba0 (hu:X.A.units+9<cLine)(ho:PE X o td)(he:PE X e ty)(m:M1 X o "get" apos e cpos):PE X (.Call (.Attribute o "get" apos) [e] [] cpos) (By3 td ty):=by
 intro pins s σ H Q I h
 refine jl m.base m.few m.line gQ gb PySem.F.type_dict_get (thn (ho pins s σ H _ I h) fun u s1 ⟨x,H1,I1,rx,a,ex,d,q1⟩=>?_)
 subst ex;obtain rfl:u=Value.ref a:=rx;obtain⟨t1,t2,_⟩:=Vy I1 d
 refine⟨t1,t2,?_⟩
 rw[m.trees]
 refine fW rfl (iC (dI (thn (he pins s1 σ H1 _ I1 q1) fun iv s2 ⟨y,H2,I2,ry,ov,g,q2⟩=>fP ?_)))
 exact By4 hu I2 g ry fun w' s3 I3 rw'=>⟨_,H2,I3,rw',q2⟩
theorem A4s (hu:X.A.units+9<cLine)(ho:PE X o td)(he:PE X e ty)(hf:PE X f tx)(m:M2 X o "get" apos e f cpos):PE X (.Call (.Attribute o "get" apos) [e,f] [] cpos) (Zv td ty tx):=by
 intro pins s σ H Q I h
 refine jl m.base m.few m.line gQ gb PySem.F.type_dict_get (thn (ho pins s σ H _ I h) fun u s1 ⟨x,H1,I1,rx,a,ex,d,q1⟩=>?_)
 subst ex;obtain rfl:u=Value.ref a:=rx;obtain⟨t1,t2,_⟩:=Vy I1 d
 refine⟨t1,t2,?_⟩
 rw[m.trees]
 refine fW rfl (iC (dI (thn (he pins s1 σ H1 _ I1 q1) fun iv s2 ⟨y,H2,I2,ry,q2⟩ =>
  dI (thn (hf pins s2 σ H2 _ I2 q2) fun fv s3 ⟨z,H3,I3,rz,ov,g,q3⟩=>fP ?_))))
 exact Bp8 hu I3 g ry rz fun w' s4 I4 rw'=>⟨_,H3,I4,rw',q3⟩
end
end L2
namespace Att
open PySem PySem.W PySem.Calls PyProof.Rows
theorem Tt {P:Params}{h:Heap}:∀(ns:List Int) (vs:w6),WellAll P h vs (ns.map WData.int)->IntsAre vs ns:=by
 intro ns
 induction ns with
 | nil =>
  intro vs w;rw[cN]at w
  cases w
  exact .nil
 | cons n ns ih =>
  intro vs w;rw[aD]at w
  cases w with
  | cons a b =>
   cases a
   exact .cons _ _ (ih _ b)
theorem A0z {l:OpenLaw}{n:Nat}(hn:l.most=some n){P:Params}{h:Heap}{args:List WData}{vals:w6}
 (hpre:l.row.toRowW.claim.pre args=true) (hwl:WellAll P h vals args) :
 ∃a vs ns,vals=[Value.ref a]/\args=[WData.list (ns.map WData.int)]/\h.get? a=some { cls:=.type "list",data:=.seq vs.toArray }/\IntsAre vs ns/\ns.length<=n:=by
 have hsh:WShape.hasAll [] args [.list .int]=true:=(pre_splitW hpre).1;have hc:l.pre.holds [] { args:=args }=true:=(pre_splitW hpre).2;obtain⟨d,r,rfl,h1,h2⟩:=hasAllW_cons hsh;obtain rfl:=hasAllW_nil h2;obtain⟨xs,rfl,h3⟩:=hasW_list h1;obtain⟨ns,rfl⟩:=items_int h3
 have hlen:ns.length<=n:=by
  unfold OpenLaw.pre at hc
  have h4:(WTm.not (.lt (.lit (.int (n:Int))) (.len (.arg 0)))).holds [] { args:=[.list (ns.map .int)] }=true:=by
   have h4:=(holds_andW hc).1;rw[hn]at h4;exact h4
  have h5:=condW_of h4 (w_not (w_lt w_lit (w_len_list (w_arg rfl))));rw[ak]at h5
  refine Nat.le_of_not_lt fun q=>?_
  have q':(n:Int)<((ns.length:Nat):Int):=by omega
  first
   | (rw[aF q']at h5;exact absurd h5 (by decide))
   | (simp at h5;omega)
 cases hwl with
 | cons w1 w2 =>
  cases w2
  cases w1 with
  | list ho hall=>exact⟨_,_,ns,rfl,rfl,ho,Tt ns _ hall,hlen⟩
theorem A0v (l:OpenLaw)(args:List WData):l.row.toRowW.claim.post args (.bool true) args=true :=
 postW_of (r:=l.row.toRowW) (X:=(true==true))
  (show WShape.has [] (.bool true) .bool=true by first | rfl | decide | simp[WShape.has,WShape.arms,WShape.armsAll])
  (show (WTm.eq .res (.lit (.bool true))).value [] { args:=args,res:=some (.bool true),after:=args }=some (.bool (true==true)) from w_eq_bool (w_res rfl) w_lit) rfl
theorem Aj4 {l:OpenLaw}{n:Nat}{q:t6}{loose:v4}{XP:(x_)->Heap->Prop}{YP:World->Heap->Prop}{d:DefRec}
 (hn:l.most=some n) (hdf:d.params.defaults=[])
 (call:∀(w:World) (s₀ s₁:q9) (mg mb:x_) (fa:Addr) (o:Obj) (pm cd doc:Value) (a:Addr) (vs:w6) (ns:List Int),
  Ground q loose [] XP w s₀ mg mb s₁.heap->YP w s₁.heap ->
  s₁.heap.get? fa=some o->o.data=.func (docDef d.name d.params d.body d.scope pm cd doc)->s₁.heap.CodeRec cd d.name->mg d.name=some (.ref fa) ->
  s₁.heap.get? a=some { cls:=.type "list",data:=.seq vs.toArray }->IntsAre vs ns->ns.length<=n->s₁.gens=#[] ->
  codeAny (model l.prog w) callerA (.call (.ref fa) ⟨[.ref a],[]⟩) (fun r s'=>r=.ok (.ret (.bool true))/\OldK s₁.heap s'.heap/\s'.os=s₁.os/\AllBare s'.gens) s₁) :
 WalkO q loose XP YP l.row.toRowW d [] (fun f vs=>PySem.call f vs):=by
 intro w s₀ s₁ mg mb G Y fa o pm cd doc dV kV ho hd hcd hD hmg hg args vals as hpre hlay hrd hwl hlo;obtain rfl:dV=.none:=Dflts.none hD hdf;obtain rfl:kV=.none:=Dflts.noKw hD;obtain⟨a,vs,ns,rfl,rfl,hobj,hints,hlen⟩:=A0z hn hpre hwl
 refine enter_call (iu (call w s₀ s₁ mg mb fa o pm cd doc a vs ns G Y ho (fd_plain hd) hcd hmg hobj hints hlen hg) fun r s' hq=>?_)
 obtain⟨rfl,h2,h3,h4⟩:=hq
 exact⟨.inl ⟨.bool true,.bool true,[],rfl,fun _=>rfl,.bool true,A0v l _,fun _=>⟨List.Pairwise.nil,fun _ hm=>(nomatch hm)⟩⟩,h2,h3,h4⟩
end Att
namespace L2
open PySem PySem.Spec PyProof.Rows
theorem Yh:∀{vs:w6}{ns:List Int},IntsAre vs ns->Vals (ns.map V.int) vs
 | _,_,.nil=>.nil
 | _,_,.cons n t h=>.cons ⟨t,rfl⟩ (Yh h)
def Lw (s:Stmt):Arguments:=match s with
 | .FunctionDef _ a _ _ _ _ _ _ _ _=>a
 | _=>{ posonlyargs:=[],args:=[],vararg:=none,kwonlyargs:=[],kw_defaults:=[],kwarg:=none,defaults:=[] }
def J0 (s:Stmt):List Stmt:=match s with
 | .FunctionDef _ _ b _ _ _ _ _ _ _=>b
 | _=>[]
def Aw (s:Stmt):Scope:=match s with
 | .FunctionDef _ _ _ _ _ _ sc _ _ _=>sc
 | _=>{ kind:=.function,names:=[],isGenerator:=false,isCoroutine:=false }
abbrev CX0:CXT:=fun _ _ _ _ _ _=>False
abbrev E0:XK:=fun _ _ _=>False
theorem B0c {X:Cx}:Wf CX0 X E0:=fun _ _ _ _ _ _ _ h=>h.elim
structure Fun (K:v_) (x qual:Str) (st:Stmt) (f:Addr) (fd:u_):Prop where
 ex:∃(oc:Value) (od:Option Addr) (kV doc pm:Value) (an:Option Addr) (cdv ct:Value) (osl:Array (t_)),
  fd=PySem.W.fnOf x qual (Lw st) (J0 st) (Aw st) .none kV doc pm an cdv ct/\K.lookup f=some ⟨oc,od,.func fd,osl⟩/\PySem.W.codeIn K cdv qual=true
 kp:PySem.W.keepIn K (.ref f)=true
section
variable {P:t6}{w:World}{K:v_}{mg:x_}{base:Heap}
theorem Fun.ok {x qual:Str}{st:Stmt}{f:Addr}{fd:u_}{N ps:v4}{k:Nat}{sp:Sp}(F:Fun K x qual st f fd)(S:Bk N ps (Aw st))(len:∀vs H Q E,sp vs H Q E->vs.length=ps.length)
 (hbody:∀(cdv:Value) (A:p6) (outer:List Env) (s:q9) (H:Hp) (vs:m7) (Q:VK) (E:XK),Room k (A.deeper (envOfC qual (Aw st) s.heap.objs.size f cdv))->sp vs H Q E ->
  ∃t,PSs (A1k CX0 P w K mg base N qual (Aw st) f cdv A outer s H E).nox (J0 st) t/\t { nx:=fun _ H'=>Q .non H',rt:=Q } (start N vs) H):FnOk P w K mg base CX0 (k+1) f fd ps sp:=by
 obtain⟨oc,od,kV,doc,pm,an,cdv,ct,osl,rfl,lk,hcd⟩:=F.ex
 refine B0v lk hcd S len fun A outer s H vs Q E hr hsp=>?_
 obtain⟨t,h,q⟩:=hbody cdv A outer s H vs Q E hr hsp;exact⟨t,h.nox,q⟩
theorem Fun.binds {x qual:Str}{st:Stmt}{f:Addr}{fd:u_}{ps:v4}(F:Fun K x qual st f fd)
 (h:∀(kV doc pm:Value) (an:Option Addr) (cdv ct:Value) (us:w6),us.length=ps.length->bindArgs (PySem.W.fnOf x qual (Lw st) (J0 st) (Aw st) .none kV doc pm an cdv ct) ⟨us,[]⟩=pure (ps.zip us)):Binds K fd ps []:=by
 obtain⟨oc,od,kV,doc,pm,an,cdv,ct,osl,rfl,lk,hcd⟩:=F.ex;exact .all (h kV doc pm an cdv ct)
end
section
variable {X:Cx}
theorem pv (i:Nat){x:Str}{pos:Pos}(hN:X.N[i]?=some x:=by rfl)(hv:Vis X.env.scope x:=by first | exact Or.inl rfl | exact Or.inr (Or.inl rfl) | exact Or.inr (Or.inr rfl))(hd:(x==("__debug__" : Str))=false:=by decide)
 (hcd:(x==("__classdict__" : Str))=false:=by decide):PE X (.Name x pos) (A3a i):=A4e hN hv hd hcd
end
def Same (H H':Hp):Prop:=∀b o,H b=some o->H' b=some o
theorem Same.refl (H:Hp):Same H H:=fun _ _ h=>h
theorem Same.trans {H H1 H2:Hp}(a:Same H H1)(b:Same H1 H2):Same H H2:=fun c o h=>b c o (a c o h)
theorem Same.free {H H':Hp}(e:Same H H'){l:Addr}(h:H' l=Option.none):H l=Option.none:=by
 cases q:H l with
 | none=>rfl
 | some o =>
  rw[e l o q]at h
  cases h
theorem Same.seq {K:v_}{H H':Hp}{a:Addr}{xs:m7}(e:Same H H')(h:SqL K H a xs):SqL K H' a xs:=by
 rcases h with (h | ⟨o,h⟩) | h
 ·exact .inl (.inl (e _ _ h))
 ·exact .inl (.inr ⟨o,e _ _ h⟩)
 ·exact .inr h
end L2
set_option maxHeartbeats 4000000
namespace L2
open PySem PySem.Spec PyProof.Rows
abbrev Fw (X:Cx)(N':v4)(scope:Scope)(cl:List (Str×Addr))(C:Addr)(s₀:q9)(H₀:Hp)(ex:v5):Cx :=
 { X with N:=N',env:=compEnvC scope cl C X.env,s₀:=s₀,H₀:=H₀,outer:=X.stack,stack:=X.stack,ex:=ex,fn:=fun x=>decide (scope.names.lookup x=some .local\/scope.names.lookup x=some .cell),pn:=[],xe:=fun _ _=>False }
def cst (idx:p_)(σ:St):St:=idx.map fun o=>o.bind fun i=>(σ[i]?).join
structure J2 (X:Cx) (N':v4) (idx:p_) (scope:Scope):Prop where
 kind:scope.kind=.function
 nod:(scope.names.map (·.1)).Nodup
 free:∀y∈scope.names,y.2=.free->X.env.kindOf y.1=some .cell\/X.env.kindOf y.1=some .free
 len:idx.length=N'.length
 at':∀(j i:Nat) (x:Str),N'[j]?=some x->idx[j]?=some (some i)->X.N[i]?=some x/\scope.names.lookup x=some .free
theorem Ke (env:Env):∀(names:List (Str×NameKind)) (acc:List (Str×Addr)),(∀y∈names,y.2=.free->∃c,env.cells.lookup y.1=some c) ->
 ∃
  cl,(forIn names acc fun (p:Str×NameKind) (r:List (Str×Addr))=>(if (p.2==NameKind.free)=true then (do let c <- cellOf env p.1;pure (ForInStep.yield ((p.1,c)::r))) else pure (ForInStep.yield r):Sem (ForInStep (List (Str×Addr)))))=(pure cl:Sem (List (Str×Addr))) /\
  (∀x c,cl.lookup x=some c->acc.lookup x=some c\/(env.cells.lookup x=some c/\(x,NameKind.free)∈names))/\(∀x,((∃c,acc.lookup x=some c)\/(x,NameKind.free)∈names)->∃c,cl.lookup x=some c)
 | [],acc,_=>⟨acc,rfl,fun x c e=>.inl e,fun x h=>by
  rcases h with h | h
  ·exact h
  ·simp at h⟩
 | (n,k)::r,acc,h=>by
  by_cases hk:k=NameKind.free
  ·subst hk
   obtain⟨c,hc⟩:=h (n,.free) (by simp) rfl
   obtain⟨cl,e,a,b⟩:=Ke env r ((n,c)::acc) fun y hy=>h y (bx _ hy)
   refine⟨cl,?_,fun x c' e'=>?_,fun x hx=>?_⟩
   ·rw[e_]
    simp only[cellOf,hc];exact e
   ·rcases a x c' e' with z | ⟨z1,z2⟩
    ·rw[bu]at z
     split at z
     ·rename_i hxe
      have:x=n:=by simpa using hxe
      subst this
      cases z
      exact .inr ⟨hc,by simp⟩
     ·exact .inl z
    ·exact .inr ⟨z1,bx _ z2⟩
   ·refine b x ?_
    rcases hx with ⟨c',z⟩ | z
    ·left
     rw[bu]
     split
     ·exact⟨_,rfl⟩
     ·exact⟨_,z⟩
    ·rcases az.mp z with z | z
     ·left
      cases z
      exact⟨c,by simp⟩
     ·exact .inr z
  ·obtain⟨cl,e,a,b⟩:=Ke env r acc fun y hy=>h y (bx _ hy)
   refine⟨cl,?_,fun x c' e'=>?_,fun x hx=>?_⟩
   ·rw[e_]
    have:(k==NameKind.free)=false:=by cases k <;> first | rfl | exact absurd rfl hk
    simp only[this];exact e
   ·rcases a x c' e' with z | ⟨z1,z2⟩
    ·exact .inl z
    ·exact .inr ⟨z1,bx _ z2⟩
   ·refine b x ?_
    rcases hx with z | z
    ·exact .inl z
    ·rcases az.mp z with z | z
     ·cases z;exact absurd rfl hk
     ·exact .inr z
theorem U0 {env:Env}{scope:Scope}(h:∀y∈scope.names,y.2=.free->∃c,env.cells.lookup y.1=some c) :
 ∃cl,closureFor scope env=pure cl/\(∀x c,cl.lookup x=some c->env.cells.lookup x=some c/\(x,NameKind.free)∈scope.names)/\(∀x,(x,NameKind.free)∈scope.names->∃c,cl.lookup x=some c):=by
 obtain⟨cl,e,a,b⟩:=Ke env scope.names [] h
 refine⟨cl,?_,fun x c e'=>?_,fun x hx=>b x (.inr hx)⟩
 ·unfold closureFor
  have e':=e;simp only[bind_pure]at e' ⊢;exact e'
 ·rcases a x c e' with z | z
  ·simp at z
  ·exact z
abbrev Be3 (ifs:u5)(env:Env):Sem Bool:=forIn ifs true fun c r=>if r=true then do let ok <- isTrue c env (eval c env);pure (ForInStep.yield ok) else pure (ForInStep.yield r)
def Bs2 (M:Model)(A:p6)(E:z_)(tg elt:Expr)(ifs:u5)(env:Env)(it acc v:Value)(Z:q9->Prop)(s:q9):Prop :=
 wpAny M A (letOwnedTupleGo tg it v) (fun _ a=>wpAny M A (assign tg env v) (fun _ b=>wpAny M A (Be3 ifs env) (fun ok c=>match ok with
  | true=>wpAny M A (eval elt env) (fun x d=>wpAny M A (call (.builtin "list.append") [acc,x]) (fun _ z=>Z z) E d) E c
  | false=>Z c) E b) E a) E s
theorem Bd7 {P:t6}{w:World}{A:p6}{R:Result->q9->Prop}{elt tg iter:Expr}{ifs:u5}{sc:Scope}{pos:Pos}{it acc:Value}{env:Env}{E:z_}(hE:E=notedBy (model P w) A env fun x z=>R (.error x) z)(Wd:Nat->q9->Prop)
 (step:∀n z,Wd n z->wpAny (model P w) A (pyNext it) (fun r a=>match r with
  | none=>R (.ok .next) a
  | some v=>Bs2 (model P w) A E tg elt ifs env it acc v (fun y=>∃m,m<n/\Wd m y) a) E z) (n:Nat) {s:q9} (h:Wd n s) :
 codeAny (model P w) A (.compLoop (.ListComp elt [⟨tg,iter,ifs,0⟩] sc pos) 0 it acc env) R s:=by
 subst hE
 refine codeAny_loop (I:=Wd) rfl (turn:=?_) n h
 intro k z hz;have st:=step k z hz
 show wpAny (model P w) A (Sem.onRaise (compTurn (.ListComp elt [⟨tg,iter,ifs,0⟩] sc pos) 0 it acc env) fun x=>do noteFrame x env;theTreesLotGoes x) _ _ z
 apply wpAny_noted;rw[compTurn_list];apply aj;apply gH;apply aj
 refine a_ st ?_ (fun _ _ q=>q)
 rintro (_ | v) a ha
 ·exact ao ha
 apply aj
 refine a_ ha ?_ (fun _ _ q=>q)
 intro _ b hb;apply aj
 refine a_ hb ?_ (fun _ _ q=>q)
 intro _ c hc;apply aj
 refine a_ hc ?_ (fun _ _ q=>q)
 rintro (_ | _) d hd
 ·exact ao (And.intro rfl hd)
 apply aj;apply aj
 refine a_ hd ?_ (fun _ _ q=>q)
 intro y e he;apply aj
 refine a_ he ?_ (fun _ _ q=>q)
 intro _ g hg;exact ao (ao (And.intro rfl hg))
def PTs (X:Cx)(ifs:u5)(t:TT):Prop :=
 ∀
  (pins:y_) (s:q9) (σ:St) (H:Hp) (Q:Bool->Hp->Prop),Inv X pins σ H s->t σ H Q ->
  wpAny (model X.prog X.w) X.A (forIn ifs true fun c r=>if r=true then do let ok <- isTrue c X.env (eval c X.env);pure (ForInStep.yield ok) else pure (ForInStep.yield r)) (TP X pins σ Q) X.xe s
def Bw4:TT:=fun _ H Q=>Q true H
theorem Bk6 {X:Cx}:PTs X [] Bw4:=fun _ _ _ H _ I h=>wpAny_tests_nil ⟨H,I,h⟩
theorem Bk9 {X:Cx}{c:Expr}{t:TT}(h:PT X c t):PTs X [c] t:=fun pins s σ H Q I q=>wpAny_tests_one (h pins s σ H Q I q)
def tLC (idx:p_)(wi:TI)(g:TG)(tc:TT)(te:TE):TE:=fun σ H Q=>wi σ H fun J H1 =>
 ∃
  W:Nat->Nat->St->m7->Hp->Prop,(∃m,W 0 m (cst idx σ) [] H1)/\∀i m σ' acc H,W i m σ' acc H ->
  (J.stop i H/\∀p,H p=none->Q (.ref p) (upd H p (.lst acc))) \/
  (J.go i H/\acc.length<sizeLine/\∃N:St->m7->Hp->Prop,(∀σ' acc' H',N σ' acc' H'->∃m',m'<m/\W (i+1) m' σ' acc' H')/\∀x H',J.yld i H x H'->g x σ' H' fun σ2 H2=>tc σ2 H2 fun b H3 =>
   if b=true then te σ2 H3 fun y H4=>N σ2 (acc++[y]) H4 else N σ2 acc H3)
theorem HOk.track {P:t6}{w:World}{H:Hp}{h:Heap}{a:Addr}{o:HO}(x:HOk P w H h)(hn:H a=none)(new:zG P w (upd H a o) h a o):HOk P w (upd H a o) h:=fun b u e=>by
 by_cases hb:b=a
 ·subst hb;rw[Bb]at e;cases e;exact new
 ·rw[Ak hb]at e
  exact(x b u e).stay (fun c v _ q=>q) (fun c q=>by rw[Ak (Br q hn)];exact q) (fun c xs q=>by rw[Ak (Br q hn)];exact q) fun c ob xs q=>by rw[Ak (Br q hn)];exact q
theorem Ir {env:Env}:∀{names:List (Str×NameKind)}{x:Str},names.lookup x=some .free ->
 (names.map fun (n,k)=>if (k==NameKind.free&&env.scope.kind==.function&&env.kindOf n==some .cell) then (n,NameKind.cell) else (n,k)).lookup x=some .free \/
 (names.map fun (n,k)=>if (k==NameKind.free&&env.scope.kind==.function&&env.kindOf n==some .cell) then (n,NameKind.cell) else (n,k)).lookup x=some .cell
 | [],_,h=>by simp at h
 | (n,k)::r,x,h=>by
  have ih:=@Ir env r x;simp only[aD]
  cases hx:x==n with
  | true =>
   simp only[bu,hx]at h
   cases h
   split
   ·right;simp[bu,hx]
   ·left;simp[bu,hx]
  | false =>
   simp only[bu,hx]at h
   split
   ·simp only[bu,hx];exact ih h
   ·simp only[bu,hx];exact ih h
theorem Lh {env:Env}:∀{names:List (Str×NameKind)}{x:Str}{k:NameKind},
 (names.map fun (n,k)=>if (k==NameKind.free&&env.scope.kind==.function&&env.kindOf n==some .cell) then (n,NameKind.cell) else (n,k)).lookup x=some k ->
 names.lookup x=some k\/(k=.cell/\names.lookup x=some .free)
 | [],_,_,h=>by simp at h
 | (n,k')::r,x,k,h=>by
  have ih:=@Lh env r x k;simp only[aD]at h
  cases hx:x==n with
  | true =>
   by_cases hc:(k'==NameKind.free&&env.scope.kind==.function&&env.kindOf n==some .cell)=true
   ·rw[if_pos hc]at h
    simp only[bu,hx]at h
    cases h
    right
    refine⟨rfl,?_⟩
    simp only[bu,hx]
    have:k'=.free:=by
     simp only[cL]at hc;exact dm hc.1.1
    rw[this]
   ·rw[if_neg hc]at h
    simp only[bu,hx]at h ⊢;exact .inl h
  | false =>
   simp only[bu,hx]
   refine ih ?_
   by_cases hc:(k'==NameKind.free&&env.scope.kind==.function&&env.kindOf n==some .cell)=true
   ·rw[if_pos hc]at h;simpa only[bu,hx] using h
   ·rw[if_neg hc]at h;simpa only[bu,hx] using h
theorem lookup_mem {α:Type}:∀{l:List (Str×α)}{x:Str}{k:α},l.lookup x=some k->(x,k)∈l
 | [],_,_,h=>by simp at h
 | (n,k')::r,x,k,h=>by
  rw[bu]at h
  split at h
  ·rename_i e
   have:x=n:=by simpa using e
   subst this
   cases h
   simp
  ·exact bx _ (lookup_mem h)
theorem mem_lookup {α:Type}:∀{l:List (Str×α)}{x:Str}{k:α},(l.map (·.1)).Nodup->(x,k)∈l->l.lookup x=some k
 | [],_,_,_,h=>by simp at h
 | (n,k')::r,x,k,hn,h=>by
  have hn:(n::r.map (·.1)).Nodup:=hn
  obtain⟨h1,h2⟩:=bQ.mp hn
  rcases az.mp h with h | hr
  ·cases h;simp
  ·rw[bu]
   split
   ·rename_i e
    have:x=n:=by simpa using e
    subst this
    exact absurd (show x∈r.map (·.1) from aC.mpr ⟨(x,k),hr,rfl⟩) h1
   ·exact mem_lookup h2 hr
section
variable {X:Cx}{N':v4}{idx:p_}{scope:Scope}
theorem Bf6 {pins:y_}{σ:St}{H:Hp}{s:q9}{fp:v5}{cl:List (Str×Addr)}{C:Addr}(L:J2 X N' idx scope)(I:Inv X pins σ H s)(hf:∀b∈fp,Ma X pins H b)(hfs:∀b∈fp,b<s.heap.objs.size)
 (hC:s.heap.objs.size<=C) (c1:∀x c,cl.lookup x=some c->(X.env.cells.lookup x=some c/\(x,NameKind.free)∈scope.names)\/(s.heap.objs.size<=c/\(x,NameKind.cell)∈scope.names)) (c2:∀x,((x,NameKind.free)∈scope.names\/(x,NameKind.cell)∈scope.names)->∃c,cl.lookup x=some c) (c3:∀x y c,cl.lookup x=some c->cl.lookup y=some c->x=y) :
 (Fw X N' scope cl C s H fp).Ok where
 mod:=I.ok.mod
 kind:=L.kind
 glob:=I.ok.glob
 blt:=I.ok.blt
 above:=hC
 inj:=c3
 has:=fun x h=>by
  refine c2 x ?_
  have h':(relabel scope X.env).names.lookup x=some .cell\/(relabel scope X.env).names.lookup x=some .free:=h
  rcases h' with h | h
  ·rcases Lh h with z | ⟨_,z⟩
   ·exact .inr (lookup_mem z)
   ·exact .inl (lookup_mem z)
  ·rcases Lh h with z | ⟨z,_⟩
   ·exact .inl (lookup_mem z)
   ·cases z
 cab:=fun x c hx hc=>by
  have hx':scope.names.lookup x=some .local\/scope.names.lookup x=some .cell:=aX hx
  rcases c1 x c hc with ⟨_,z⟩ | ⟨z,_⟩
  ·have z:=mem_lookup L.nod z
   rw[z]at hx'
   rcases hx' with hx' | hx' <;> cases hx'
  ·exact z
 hd:=I.ok.hd
 frames:=I.ok.frames
 stk:=.inl rfl
 exf
  := fun b hb=>⟨aV (aP (hfs b hb) hC),fun x c e=>by
  rcases c1 x c e with ⟨z,_⟩ | ⟨z,_⟩
  ·exact(hf b hb).2.2.2.2.1 x c z
  ·exact cj (aP (hfs b hb) z)⟩
 bs:=I.bs
 bsz:=au I.ok.bsz I.sz
 noex:=fun b o e hb=>by
  rcases (hf b hb).2.2.2.1 with z | z
  ·exact I.ok.noex b o e z
  ·exact absurd (aP (aA e) (au I.ok.bsz z)) (bh _)
 exfs:=fun b hb z=>by
  rcases az.mp (I.stkSub b z) with q | q
  ·exact(hf b hb).2.1 q
  ·exact(hf b hb).2.2.1 q
 funs:=I.stack
 frf:=I.stkFree
 tab:=fun p hp=>I.base.tbls p.1 p.2 (I.ok.tab p hp)
theorem A4x {pins:y_}{σ:St}{H:Hp}{s s':q9}{fp:v5}{cl:List (Str×Addr)}{C:Addr}{m:x_}(L:J2 X N' idx scope)(I:Inv X pins σ H s)(hf:∀b∈fp,Ma X pins H b)(hfs:∀b∈fp,b<s.heap.objs.size)
 (hC:s.heap.objs.size<=C) (c1:∀x c,cl.lookup x=some c->(X.env.cells.lookup x=some c/\(x,NameKind.free)∈scope.names)\/(s.heap.objs.size<=c/\(x,NameKind.cell)∈scope.names)) (c2:∀x,((x,NameKind.free)∈scope.names\/(x,NameKind.cell)∈scope.names)->∃c,cl.lookup x=some c) (c3:∀x y c,cl.lookup x=some c->cl.lookup y=some c->x=y) (c4:∀x c,cl.lookup x=some c->(x,NameKind.cell)∈scope.names->s'.heap.IsCell c none)
 (ho:s'.os=s.os) (hg:s'.gens=s.gens) (k:∀b o,s.heap.get? b=some o->s'.heap.get? b=some o) (hn:s'.heap.Ns C m):Inv (Fw X N' scope cl C s H fp) [] (cst idx σ) H s' where
 ok:=Bf6 L I hf hfs hC c1 c2 c3
 os:=ho
 bare:=by rw[hg];exact I.bare
 base:=Un.kept k
 loc:=by
  refine⟨m,hn,fun j x v e1 e2 e3=>?_⟩
  obtain⟨m0,hn0,hl⟩:=I.loc
  have e2':(idx.map fun o=>o.bind fun i=>(σ[i]?).join)[j]?=some (some v):=e2
  rw[bz]at e2'
  cases ei:idx[j]? with
  | none=>rw[ei]at e2';cases e2'
  | some o =>
   rw[ei]at e2';simp only[gU,Option.some.injEq]at e2'
   cases o with
   | none=>cases e2'
   | some i =>
    have e2'':(σ[i]?).join=some v:=e2';obtain⟨hNi,hfr⟩:=L.at' j i x e1 ei
    have hσ:σ[i]?=some (some v):=by
     cases q:σ[i]? with
     | none=>rw[q]at e2'';cases e2''
     | some z=>rw[q]at e2'';rw[show z=some v from e2'']
    have hk:=L.free _ (lookup_mem hfr) rfl
    have hvis:Vis X.env.scope x:=by
     rcases hk with z | z
     ·exact .inr (.inl z)
     ·exact .inr (.inr z)
    obtain⟨u,r,lk⟩:=hl i x v hNi hσ hvis
    refine⟨u,r,.inr ?_⟩
    rcases lk with ⟨z,_⟩ | ⟨_,c,hc,hcl⟩
    ·exfalso
     have z':X.env.kindOf x=some .local:=z
     rcases hk with q | q
     ·rw[show X.env.kindOf x=_ from q]at z';cases z'
     ·rw[show X.env.kindOf x=_ from q]at z';cases z'
    ·obtain⟨c',hc'⟩:=c2 x (.inl (lookup_mem hfr))
     have:c'=c:=by
      rcases c1 x c' hc' with ⟨q,_⟩ | ⟨_,q⟩
      ·rw[hc]at q;exact(bK q).symm
      ·rw[mem_lookup L.nod q]at hfr;cases hfr
     subst this
     refine⟨?_,c',hc',let ⟨o,e,d⟩:=hcl; ⟨o,k _ o e,d⟩⟩
     rcases Ir (env:=X.env) hfr with q | q
     ·exact .inr q
     ·exact .inl q
 cell:=fun x c e=>by
  rcases c1 x c e with ⟨q,_⟩ | ⟨_,q⟩
  ·obtain⟨v,z⟩:=I.cell x c q
   exact⟨v,let ⟨o,e,d⟩:=z; ⟨o,k _ o e,d⟩⟩
  ·exact⟨none,c4 x c e q⟩
 free:=I.hok.fresh hC
 freeC:=fun x c e=>by
  rcases c1 x c e with ⟨q,_⟩ | ⟨q,_⟩
  ·exact I.freeC x c q
  ·exact I.hok.fresh q
 pin:=fun p hp=>by simp at hp
 hok:=I.hok.kept k
 len:=by
  show (idx.map _).length=N'.length
  rw[ak];exact L.len
end
section
variable {X:Cx}{N':v4}{idx:p_}{scope:Scope}{elt tg iter:Expr}{ifs:u5}{pos:Pos}{wi:TI}{g:TG}{tc:TT}{te:TE}
theorem O9:∀(names:List (Str×NameKind)) (h:Heap) (acc:List (Str×Addr)),(∀x y c,acc.lookup x=some c->acc.lookup y=some c->x=y)->(∀x c,acc.lookup x=some c->c<h.objs.size) ->
 (∀x c,(cellsFrom h.objs.size names acc).lookup x=some c->acc.lookup x=some c\/(h.objs.size<=c/\(x,NameKind.cell)∈names/\(pushCells h names).IsCell c none)) /\
 (∀x,((∃c,acc.lookup x=some c)\/(x,NameKind.cell)∈names)->∃c,(cellsFrom h.objs.size names acc).lookup x=some c) /\
 (∀x y c,(cellsFrom h.objs.size names acc).lookup x=some c->(cellsFrom h.objs.size names acc).lookup y=some c->x=y)
 | [],h,acc,hi,hl=>by
  refine⟨fun x c e=>.inl e,fun x z=>?_,hi⟩
  rcases z with z | z
  ·exact z
  ·exact nomatch z
 | (n,k)::r,h,acc,hi,hl=>by
  unfold cellsFrom pushCells
  by_cases hk:(k==NameKind.cell)=true
  ·rw[if_pos hk,if_pos hk]
   have hk':k=.cell:=dm hk;subst hk';have sz:(h.push { cls:=.type "cell",data:=.cell none }).objs.size=h.objs.size+1:=b_ ..
   have ih:=O9 r (h.push { cls:=.type "cell",data:=.cell none }) ((n,h.objs.size)::acc) (fun x y c e1 e2=>?_) (fun x c e=>?_)
   ·rw[sz]at ih
    obtain⟨i1,i2,i3⟩:=ih
    refine⟨fun x c e=>?_,fun x z=>?_,i3⟩
    ·rcases i1 x c e with q | ⟨q1,q2,q3⟩
     ·rw[bu]at q
      split at q
      ·rename_i hb
       cases q
       have:x=n:=dm hb;subst this;exact .inr ⟨aq _,bD,_,iG _ _ _ _ (aH _ rfl),rfl⟩
      ·exact .inl q
     ·exact .inr ⟨fc q1,bx _ q2,q3⟩
    ·refine i2 x ?_
     by_cases hx:x=n
     ·subst hx;exact .inl ⟨h.objs.size,by simp⟩
     ·rcases z with ⟨c,z⟩ | z
      ·exact .inl ⟨c,by rw[bu,beq_false_of_ne hx];exact z⟩
      ·rcases az.mp z with z | z
       ·cases z;exact absurd rfl hx
       ·exact .inr z
   ·rw[bu]at e1 e2
    split at e1
    ·rename_i hb1
     cases e1
     split at e2
     ·rename_i hb2
      exact(dm hb1).trans (dm hb2).symm
     ·exact absurd (hl _ _ e2) (bh _)
    ·split at e2
     ·cases e2
      exact absurd (hl _ _ e1) (bh _)
     ·exact hi x y c e1 e2
   ·rw[sz]
    rw[bu]at e
    split at e
    ·cases e;exact dN _
    ·exact fu (hl x c e)
  ·rw[if_neg hk,if_neg hk]
   have ih:=O9 r h acc hi hl;obtain⟨i1,i2,i3⟩:=ih
   refine⟨fun x c e=>?_,fun x z=>i2 x ?_,i3⟩
   ·rcases i1 x c e with q | ⟨q1,q2,q3⟩
    ·exact .inl q
    ·exact .inr ⟨q1,bx _ q2,q3⟩
   ·rcases z with z | z
    ·exact .inl z
    ·rcases az.mp z with z | z
     ·cases z;exact absurd rfl hk
     ·exact .inr z
theorem Bc9 {M:Model}{A:p6}{E:z_}{s:q9}{scope:Scope}{globals:Addr}{cl:List (Str×Addr)}{qual:Str}{outer:Env}{Q:Env->q9->Prop}
 (h:Q (newEnv scope s.heap.objs.size globals (cellsFrom (s.heap.objs.size+1) scope.names cl) qual none .none (some outer) builtinsNs) { s with heap:=pushCells (s.heap.push { cls:=.type "dict",data:=.dict #[] }) scope.names }) :
 wpAny M A (newFunctionEnv scope globals cl [] qual none .none (some outer)) Q E s:=by
 simp only[newFunctionEnv,jk,bV]
 refine aj (wpAny_alloc ?_)
 refine aj (wpAny_layCells _ (fun name kind cells=>by cases hkc:kind==NameKind.cell <;> simp[hkc]) _ _ _ _ ?_)
 rw[show ({ s with heap:=s.heap.push { cls:=.type "dict",data:=.dict #[] } }:q9).heap.objs.size=s.heap.objs.size+1 from b_ ..]
 rw[gf];exact aj (ao (ao h))
theorem Al1 {pins:y_}{σ:St}{H2:Hp}{s2:q9}{it:Addr}{fp:v5}{tn:Nat->Heap->Prop}{J:It}{cl:List (Str×Addr)}{E:z_}{RR:Value->Addr->Result->q9->Prop}{F:m7->Hp->Prop}
 (L:J2 X N' idx scope) (hc:X.calm=true)
 (hg:∀cl C s₀ H₀ ex,PG (Fw X N' scope cl C s₀ H₀ ex) tg g) (ht:∀cl C s₀ H₀ ex,PTs (Fw X N' scope cl C s₀ H₀ ex) ifs tc) (he:∀cl C s₀ H₀ ex,PE (Fw X N' scope cl C s₀ H₀ ex) elt te)
 (c1:∀x c,cl.lookup x=some c->X.env.cells.lookup x=some c/\(x,NameKind.free)∈scope.names) (c2:∀x,(x,NameKind.free)∈scope.names->∃c,cl.lookup x=some c)
 (I2:Inv X pins σ H2 s2) (T:Turn X.prog X.w X.K tg J fp it tn) (st2:tn 0 s2.heap) (f2:∀b∈fp,Ma X pins H2 b) (W:Nat->Nat->St->m7->Hp->Prop) (w0:∃m,W 0 m (cst idx σ) [] H2)
 (turn:∀i m σ' acc H,W i m σ' acc H->(J.stop i H/\F acc H) \/
  (J.go i H/\acc.length<sizeLine/\∃N:St->m7->Hp->Prop,(∀σ' acc' H',N σ' acc' H'->∃m',m'<m/\W (i+1) m' σ' acc' H')/\∀x H',J.yld i H x H'->g x σ' H' fun σ2 H2=>tc σ2 H2 fun b H3 =>
   if b=true then te σ2 H3 fun y H4=>N σ2 (acc++[y]) H4 else N σ2 acc H3))
 (hR:∀(D C:Addr) (s':q9) (acc:m7) (its:w6) (n:Nat) (H':Hp) (m:x_),s2.heap.objs.size<=D->s2.heap.objs.size<=C->D≠C->s'.heap.Ns C m->s'.heap.get? D=some { cls:=.type "list",data:=.seq its.toArray n }->Vals acc its->acc.length<=sizeLine ->
  H' D=none->H' C=none->s'.os=s2.os->AllBare s'.gens->Un (frs X.stack) fp H2 H' s2.heap s'.heap->HOk X.prog X.w H' s'.heap->F acc H'->RR (.ref D) C (.ok .next) s') :
 wpAny (model X.prog X.w) X.A (newList []) (fun acc s₃=>wpAny (model X.prog X.w) X.A (newFunctionEnv scope X.env.globals cl [] X.env.qual none .none (some X.env)) (fun cenv s₄ =>
  codeAny (model X.prog X.w) X.A (.compStart (.ListComp elt [⟨tg,iter,ifs,0⟩] scope pos) 0 (.ref it) acc { cenv with scope:=relabel scope X.env }) (RR acc cenv.locals) s₄) E s₃) E s2:=by
 have hfs:∀b∈fp,b<s2.heap.objs.size:=fun b hb=>let ⟨o,e,_⟩:=T.obj _ _ st2 b hb; aA e
 refine cA (Bc9 ?_)
 dsimp only
 generalize hH2:s2.heap.push { cls:=.type "list",dict:=none,data:=.seq ([]:w6).toArray }=G
 have hC:G.objs.size=s2.heap.objs.size+1:=by rw[<- hH2,b_]
 have hDC:s2.heap.objs.size≠G.objs.size:=by rw[hC];exact aV (dN _)
 have hCle:s2.heap.objs.size<=G.objs.size:=by rw[hC];exact gP _
 obtain⟨h₁,hh₁⟩:∃h₁,h₁=pushCells (G.push { cls:=.type "dict",data:=.dict #[] }) scope.names:=⟨_,rfl⟩;rw[<- hh₁]
 have hns₁:h₁.Ns G.objs.size (fun _=>none):=by rw[hh₁];exact(Heap.Ns.new G (.type "dict")).keeps (iG _ _)
 have old:∀b o,s2.heap.get? b=some o->h₁.get? b=some o:=fun b o e=>by rw[hh₁];exact iG _ _ b o (aG _ (hH2▸aG _ e))
 have hacc:h₁.get? s2.heap.objs.size=some { cls:=.type "list",dict:=none,data:=.seq ([]:w6).toArray }:=by rw[hh₁];exact iG _ _ _ _ (aG _ (hH2▸aH _ rfl))
 have szD:(G.push { cls:=.type "dict",data:=.dict #[] }).objs.size=G.objs.size+1:=b_ ..
 obtain⟨k1,k2,k3⟩:=O9 scope.names (G.push { cls:=.type "dict",data:=.dict #[] }) cl (fun x y c e1 e2=>I2.ok.inj x y c (c1 x c e1).1 (c1 y c e2).1) (fun x c e=>by
  obtain⟨v,o,ho,_⟩:=I2.cell x c (c1 x c e).1
  rw[szD];exact fu (aP (aA ho) hCle))
 rw[szD,<- hh₁]at k1;rw[szD]at k2 k3;obtain⟨cl0,hcl0⟩:∃cl0,cl0=cl:=⟨_,rfl⟩;have c1o:=c1;have c2o:=c2;rw[<- hcl0]at k1 k2 k3 c1o c2o;rw[<- hcl0]
 clear c1 c2
 generalize cellsFrom (G.objs.size+1) scope.names cl0=cl at k1 k2 k3 ⊢
 have c1:∀x c,cl.lookup x=some c->(X.env.cells.lookup x=some c/\(x,NameKind.free)∈scope.names)\/(s2.heap.objs.size<=c/\(x,NameKind.cell)∈scope.names):=fun x c e=>by
  rcases k1 x c e with q | ⟨q1,q2,_⟩
  ·exact .inl (c1o x c q)
  ·exact .inr ⟨au hCle (fc q1),q2⟩
 have c2:∀x,((x,NameKind.free)∈scope.names\/(x,NameKind.cell)∈scope.names)->∃c,cl.lookup x=some c:=fun x z=>k2 x (z.imp (fun z=>c2o x z) id)
 have c4:∀x c,cl.lookup x=some c->(x,NameKind.cell)∈scope.names->h₁.IsCell c none:=fun x c e z=>by
  rcases k1 x c e with q | ⟨_,_,q⟩
  ·have:=mem_lookup L.nod (c1o x c q).2
   rw[mem_lookup L.nod z]at this;cases this
  ·exact q
 let X':Cx:=Fw X N' scope cl G.objs.size s2 H2 fp
 have I1:Inv X' [] (cst idx σ) H2 { s2 with heap:=h₁ }:=A4x L I2 f2 hfs hCle c1 c2 k3 c4 rfl rfl old hns₁
 have hD2:H2 s2.heap.objs.size=none:=I2.hok.fresh (aq _)
 have hDfs:s2.heap.objs.size∉X'.fs:=fun z=>by
  obtain⟨_,o,ho,_⟩:=I2.stack.mem z;exact absurd (aA ho) (bh _)
 have hDfp:s2.heap.objs.size∉fp:=fun z=>absurd (hfs _ z) (bh _)
 have stat:∀{H':Hp} {pl:y_},(∀b∈fp,H' b=none)->(∀p∈pl,p.1∉fp)->∀b∈fp,Ma X' pl H' b:=fun {H' pl} hn hpl b hb =>
  ⟨hn b hb,aV (aP (hfs b hb) hCle),fun z=>by
   rcases az.mp (I2.stkSub b z) with q | q
   ·exact(f2 b hb).2.1 q
   ·exact(f2 b hb).2.2.1 q,.inl hb,fun x c e=>by
    rcases c1 x c e with ⟨z,_⟩ | ⟨z,_⟩
    ·exact(f2 b hb).2.2.2.2.1 x c z
    ·exact cj (aP (hfs b hb) z),fun p hp z=>hpl p (by have hp':p∈[]++pl:=hp;simpa using hp') (z▸hb)⟩
 have loop:∀s₃:q9,s₃={ s2 with heap:=h₁ } ->
  codeAny (model X.prog X.w) X.A (.compLoop (.ListComp elt [⟨tg,iter,ifs,0⟩] scope pos) 0 (.ref it) (.ref s2.heap.objs.size) (compEnvC scope cl G.objs.size X.env)) (RR (.ref s2.heap.objs.size) G.objs.size) s₃:=by
  rintro s₃ rfl
  obtain⟨m0,w0⟩:=w0
  refine Bd7 rfl (Wd:=fun n s'=>∃i σ' acc its k H',Inv X' [(s2.heap.objs.size,{ cls:=.type "list",data:=.seq its.toArray k })] σ' H' s'/\Vals acc its/\acc.length<=sizeLine/\tn i s'.heap/\(∀b∈fp,H' b=none)/\W i n σ' acc H') (step:=?_) m0
   ⟨0,cst idx σ,[],[],0,H2,I1.pins_of (fun p hp=>?_),.nil,aW _,T.keep _ _ _ st2 fun b _ o e=>old b o e,fun b hb=>(f2 b hb).1,w0⟩
  ·rintro n s3 ⟨i,σ3,acc,its,k,H3,I3,rv,hz,st3,fr3,w3⟩
   have hpl:∀p∈[((s2.heap.objs.size,{ cls:=.type "list",data:=.seq its.toArray k }):Addr×Obj)],p.1∉fp:=fun p hp=>by
    rcases aY.mp hp with rfl;exact hDfp
   rcases turn i n σ3 acc H3 w3 with ⟨stop,q⟩ | ⟨go,hlt,N,hN,step⟩
   ·refine a_ (T.done X' rfl rfl rfl hc i _ s3 σ3 H3 (fun _ _=>False) I3 (stat fr3 hpl) st3 stop) (fun r s4 ⟨hr,I4⟩=>?_) fun _ _ f=>f.elim
    subst hr;obtain⟨p1,p2,p3,p4,p5⟩:=I4.pin (s2.heap.objs.size,{ cls:=.type "list",data:=.seq its.toArray k }) (aU _ bD);obtain⟨m4,hn4,_⟩:=I4.loc;exact hR _ _ s4 acc its k H3 m4 (aq _) hCle hDC hn4 p1 rv hz p2 I4.free I4.os I4.bare I4.base I4.hok q
   ·refine a_ (T.item X' rfl rfl rfl hc i _ s3 σ3 H3 (fun _ _=>False) I3 (stat fr3 hpl) st3 go) (fun r s4 ⟨u,hr,h4⟩=>?_) fun _ _ f=>f.elim
    subst hr
    refine a_ h4 (fun _ s5 ⟨x,H5,I5,r5,y5,st5,fr5⟩=>?_) fun _ _ f=>f.elim
    have I5':=I5.pinned (stat fr5 hpl) (T.obj _ _ st5)
    refine a_ (hg _ _ _ _ _ _ s5 σ3 H5 x u _ I5' r5 (step x H5 y5)) (fun _ s6 ⟨σ6,H6,I6,q6⟩=>?_) fun _ _ f=>f.elim
    refine a_ (ht _ _ _ _ _ _ s6 σ6 H6 _ I6 q6) (fun ok s7 ⟨H7,I7,q7⟩=>?_) fun _ _ f=>f.elim
    have tnk:∀{σ':St} {H':Hp} {s':q9},Inv X' ([(s2.heap.objs.size,{ cls:=.type "list",data:=.seq its.toArray k })]++Wl fp s5.heap) σ' H' s'->tn (i+1) s'.heap/\∀b∈fp,H' b=none:=fun {σ' H' s'} I=>by
     refine⟨T.keep _ _ _ st5 fun b hb o e=>(I.pin (b,o) (aU _ (aU _ (Le hb e)))).1,fun b hb=>?_⟩
     obtain⟨o,e,d⟩:=T.obj _ _ st5 b hb;exact(I.pin (b,o) (aU _ (aU _ (Le hb e)))).2.1
    cases ok with
    | false =>
     rw[if_neg (by decide)]at q7
     obtain⟨m',hm,w7⟩:=hN _ _ _ q7;exact⟨m',hm,i+1,σ6,acc,its,k,H7,I7.unpinned,rv,hz,(tnk I7).1,(tnk I7).2,w7⟩
    | true =>
     rw[if_pos rfl]at q7
     refine a_ (he _ _ _ _ _ _ s7 σ6 H7 _ I7 q7) (fun y s8 ⟨yv,H8,I8,r8,q8⟩=>?_) fun _ _ f=>f.elim
     obtain⟨m',hm,w8⟩:=hN _ _ _ q8;obtain⟨p1,p2,p3,p4,p5⟩:=I8.pin (s2.heap.objs.size,{ cls:=.type "list",data:=.seq its.toArray k }) (aU _ bD)
     refine dM PySem.F.slot_list_append ⟨_,p1,rfl⟩ PySem.F.entry_list_append (PySem.F.args_list_append_2 _ _) (PySem.list_append s2.heap.objs.size its.toArray k y (by have:=rv.length;rw[aO];omega)) ⟨p1,?_⟩
     have hz':=rv.length;obtain⟨t8,f8⟩:=tnk I8
     have I8':Inv X' [] σ6 H8 s8:=I8.pins_of fun p hp=>nomatch hp
     have q:=PySem.IsL.update p1 (·.push y)
     have e':(its.toArray.push y)=(its++[y]).toArray:=by simp
     rw[e']at q
     obtain⟨k9,q⟩:∃k9,(s8.heap.update s2.heap.objs.size (Obj.mapSeq (·.push y))).get? s2.heap.objs.size=some { cls:=.type "list",data:=.seq (its++[y]).toArray k9 }:=⟨_,q⟩
     have I9:Inv X' [] σ6 H8 { s8 with heap:=s8.heap.update s2.heap.objs.size (Obj.mapSeq (·.push y)) } :=
      I8'.turned (t':=s8.toks) (fun b o hb e=>(cz s8.heap _ (aJ hb)).trans e) p2 p3 (.inr (aq _)) (fun x c e z=>by
       obtain⟨v,o,ho,hd⟩:=I8'.cell x c e
       rw[z,p1]at ho;cases ho;cases hd) (fun p hp=>by have hp':p∈([]:y_)++[]:=hp;simp at hp')
     refine⟨m',hm,i+1,σ6,acc++[yv],its++[y],k9,H8,I9.pins_of (fun p hp=>?_),rv.append (.cons r8 .nil),by rw[aK,eU];omega,T.keep _ _ _ t8 fun b hb o e=>(cz s8.heap (Obj.mapSeq (·.push y)) (show s2.heap.objs.size≠b from fun z=>hDfp (by rw[z];exact hb))).trans e,f8,w8⟩
     rcases aY.mp hp with rfl
     exact⟨q,p2,p3,p4,fun v z=>by cases z⟩
  ·rcases aY.mp hp with rfl
   exact⟨hacc,hD2,hDC,hDfs,fun v z=>by cases z⟩
 exact codeAny_compStart_list (loop _ rfl) (T.self _ 0 _ _ _ (T.keep _ _ _ st2 fun b _ o e=>old b o e) (loop _ rfl))
theorem B1s (L:J2 X N' idx scope)(hc:X.calm=true)(hi:PI X tg iter wi)
 (hg:∀cl C s₀ H₀ ex,PG (Fw X N' scope cl C s₀ H₀ ex) tg g) (ht:∀cl C s₀ H₀ ex,PTs (Fw X N' scope cl C s₀ H₀ ex) ifs tc) (he:∀cl C s₀ H₀ ex,PE (Fw X N' scope cl C s₀ H₀ ex) elt te)
 (hs:∀x,foldedSetIterable iter X.env x=pure x:=by intro _;rfl) :
 PE X (.ListComp elt [⟨tg,iter,ifs,0⟩] scope pos) (tLC idx wi g tc te):=by
 intro pins s σ H Q I h
 obtain⟨cl,hclos,c1,c2⟩:=U0 (env:=X.env) (scope:=scope) fun y hy hf=>I.ok.has y.1 (L.free y hy hf)
 rw[eval_ListComp]
 refine wpAny_comprehension_free (use:=none) rfl hs hclos L.kind (fun y hy hl=>mem_lookup L.nod (by rw[<- hl];exact hy)) (a_ (hi pins s σ H _ I h) (fun v s1 h1=>a_ h1 (fun itv s2 h2=>?_) fun _ _ e=>e) fun _ _ e=>e)
 obtain⟨it,fp,tn,J,H2,rfl,I2,T,st2,f2,W,w0,turn⟩:=h2
 refine Al1 (F:=fun acc H=>∀p,H p=none->Q (.ref p) (upd H p (.lst acc))) (RR:=fun acc C=>compPost (model X.prog X.w) X.A X.xe none (EP X pins σ Q) acc C) L hc hg ht he c1 c2 I2 T st2 f2 W w0 turn ?_
 intro D C s' acc its n H' m hD hC hDC hn hDo rv hz hD' hC' ho hg' hu hk q
 refine⟨m,hn,fun h' hsb=>?_⟩
 have eD:h'.get? D=some { cls:=.type "list",data:=.seq its.toArray n }:=hsb.extBut _ _ hDC hDo
 have ok1:HOk X.prog X.w H' h':=fun b u e=>by
  refine (hk b u e).stay (fun c v hc q=>hsb.extBut c v ?_ q) (fun _ q=>q) fun _ _ q=>q
  rintro rfl
  rcases hc with rfl | hc
  ·rw[hC']at e;cases e
  ·rw[hC']at hc;cases hc
 have ok2:HOk X.prog X.w (upd H' D (.lst acc)) h':=ok1.track hD' ⟨hz,its,n,rv,eD⟩
 have neC:∀b o,s2.heap.get? b=some o->b≠C:=fun b o e=>aV (aP (aA e) hC)
 have neD:∀b o,s2.heap.get? b=some o->b≠D:=fun b o e=>aV (aP (aA e) hD)
 have u2:Un (frs X.stack) fp H2 (upd H' D (.lst acc)) s2.heap h' :=
  ⟨
   fun b o e n1 n2 n3=>hsb.extBut b o (neC b o e) (hu.keep b o e n1 n2 n3),fun b o e n1 n2 n3=>let ⟨sl,q⟩:=hu.slot b o e n1 n2 n3; ⟨sl,hsb.extBut b _ (neC b o e) q⟩,
   fun b o e n1 n2=>by rw[Ak (neD b o e)];exact hu.free b o e n1 n2,fun b o e n1=>let ⟨o',q⟩:=hu.there b o e n1; ⟨o',hsb.extBut b _ (neC b o e) q⟩,
   fun b xs e=>by rw[Ak (Br (hu.tups b xs e) hD')];exact hu.tups b xs e,fun b o u e=>by rw[Ak (Br (hu.frzs b o u e) hD')];exact hu.frzs b o u e,
   fun b ps e=>by rw[Ak (Br (hu.tbls b ps e) hD')];exact hu.tbls b ps e⟩
 refine⟨.ref D,upd H' D (.lst acc),I2.call' (s':={ s' with heap:=h' }) ho u2 ok2 hg' (fun b hb=>⟨(f2 b hb).2.2.2.1,(f2 b hb).2.1,(f2 b hb).2.2.2.2.1,(f2 b hb).2.2.2.2.2⟩),rfl,q D hD'⟩
end
section
variable {X:Cx}{N':v4}{idx:p_}{scope:Scope}{elt tg iter:Expr}{ifs:u5}{pos:Pos}{wi:TI}{g:TG}{tc:TT}{te:TE}
theorem A5m {i:Nat}{y:Str}{py spos:Pos}(hN:X.N.Nodup)(hi':X.N[i]?=some y)(hy:Loc X.env.scope y)(L:J2 X N' idx scope)(hc:X.calm=true)(hi:PI X tg iter wi)
 (hg:∀cl C s₀ H₀ ex,PG (Fw X N' scope cl C s₀ H₀ ex) tg g) (ht:∀cl C s₀ H₀ ex,PTs (Fw X N' scope cl C s₀ H₀ ex) ifs tc) (he:∀cl C s₀ H₀ ex,PE (Fw X N' scope cl C s₀ H₀ ex) elt te)
 (hsw:swapsWith (.ListComp elt [⟨tg,iter,ifs,0⟩] scope pos) (some (.Name y py)) spos.line X.env=pure true:=by rfl)
 (hf:X.fn y=true\/X.env.scope.names.lookup y=some .local:=by first | exact .inl rfl | exact .inr rfl | assumption)
 (hs:∀x,foldedSetIterable iter X.env x=pure x:=by intro _;rfl) :
 PS X (.Assign [.Name y py] (.ListComp elt [⟨tg,iter,ifs,0⟩] scope pos) spos) (Yz (tLC idx wi g tc te) (Mp i)):=by
 intro pins s σ H D₀ I h
 have h:tLC idx wi g tc te σ H fun x H1=>D₀.nx (σ.set i (some x)) H1:=h
 obtain⟨cl,hclos,c1,c2⟩:=U0 (env:=X.env) (scope:=scope) fun y hy hf=>I.ok.has y.1 (L.free y hy hf)
 rw[exec_Assign_Name_used _ _ _ _ hsw]
 refine aj (gH (aj ?_))
 show wpAny _ X.A (do let _ <- comprehension (.ListComp elt [⟨tg,iter,ifs,0⟩] scope pos) scope X.env _ (newList []) false (eval iter X.env) (some (assign (.Name y py) X.env))) _ _ s
 refine aj (a_ (wpAny_comprehension_free (use:=some (assign (.Name y py) X.env)) (Q:=fun _ s'=>SP X pins D₀ .next s') rfl hs hclos L.kind (fun y hy hl=>mem_lookup L.nod (by rw[<- hl];exact hy))
  (a_ (hi pins s σ H _ I h) (fun v s1 h1=>a_ h1 (fun itv s2 h2=>?_) fun _ _ e=>e) fun _ _ e=>e)) (fun _ s' hq=>ao (ao hq)) fun _ _ e=>e)
 obtain⟨it,fp,tn,J,H2,rfl,I2,T,st2,f2,W,w0,turn⟩:=h2
 refine Al1 (F:=fun acc H=>∀p,H p=none->D₀.nx (σ.set i (some (.ref p))) (upd H p (.lst acc))) (RR:=fun acc C=>compPost (model X.prog X.w) X.A X.xe (some (assign (.Name y py) X.env)) (fun _ s'=>SP X pins D₀ .next s') acc C) L hc hg ht he c1 c2 I2 T st2 f2 W w0 turn ?_
 intro D C s' acc its n H' m hD hC hDC hn hDo rv hz hD' hC' ho hg' hu hk q;have ok2:HOk X.prog X.w (upd H' D (.lst acc)) s'.heap:=hk.track hD' ⟨hz,its,n,rv,hDo⟩
 have neD:∀b o,s2.heap.get? b=some o->b≠D:=fun b o e=>aV (aP (aA e) hD)
 have u2:Un (frs X.stack) fp H2 (upd H' D (.lst acc)) s2.heap s'.heap :=
  ⟨
   hu.keep,hu.slot,fun b o e n1 n2=>by rw[Ak (neD b o e)];exact hu.free b o e n1 n2,hu.there,
   fun b xs e=>by rw[Ak (Br (hu.tups b xs e) hD')];exact hu.tups b xs e,fun b o u e=>by rw[Ak (Br (hu.frzs b o u e) hD')];exact hu.frzs b o u e,
   fun b ps e=>by rw[Ak (Br (hu.tbls b ps e) hD')];exact hu.tbls b ps e⟩
 have I3:Inv X pins σ (upd H' D (.lst acc)) s':=I2.call' ho u2 ok2 hg' (fun b hb=>⟨(f2 b hb).2.2.2.1,(f2 b hb).2.1,(f2 b hb).2.2.2.2.1,(f2 b hb).2.2.2.2.2⟩)
 have hCL:C≠X.env.locals:=cj (aP I2.lt hC)
 have hCc:∀x c,X.env.cells.lookup x=some c->c≠C:=fun x c e z=>by
  obtain⟨v,w⟩:=I2.cell x c e
  exact absurd (aP w.lt (by rw[z];exact hC)) (bh _)
 have hCp:∀p∈X.pn++pins,p.1≠C:=fun p hp z=>absurd (aP (aA (I2.pin p hp).1) (by rw[z];exact hC)) (bh _)
 show wpAny _ X.A (assign (.Name y py) X.env (.ref D)) _ _ _
 refine wpAny_assign_Name (Ym (v:=.ref D) I3 hN hi' hy rfl (fun s4 I4 ⟨a,sb,ha⟩=>?_) hf)
 have hCa:C≠a:=by
  rcases ha with z | z
  ·rw[z];exact hCL
  ·exact aJ (hCc y a z)
 refine⟨m,hn.sameBut sb hCa,fun h' hsb=>?_⟩
 refine⟨_,_,I4.turned (t':=s4.toks) (fun b o hb e=>hsb.extBut b o hb e) ?_ hCL (.inr (au I2.sz hC)) hCc hCp,q D hD'⟩
 rw[Ak (aJ hDC)];exact hC'
end
section
variable {X:Cx}
def Ol (H:Hp):V->Option String
 | .non=>some "NoneType" | .bl _=>some "bool" | .int _=>some "int" | .str _=>some "str"
 | .ref a=>match H a with
  | some (.lst _)=>some "list"
  | some (.tup _)=>some "tuple"
  | some (.dK _)=>some "dict"
  | some (.dT _)=>some "dict"
  | _=>none
 | _=>none
section
variable {X:Cx}{pins:y_}{σ:St}{H:Hp}{s:q9}
theorem A8m {x:V}{u:Value}{t:String}(I:Inv X pins σ H s)(rx:RelV x u)(h:Ol H x=some t):∃hp:Heap->Prop,PySem.W.KitX X.K u (.type t) hp/\hp s.heap/\u≠.builtin "__main__.__loader__#opaque" := by
 cases x with
 | non=>cases h;cases (show u=Value.none from rx);exact⟨_,PySem.W.kitx_none,True.intro,fun z=>nomatch z⟩
 | bl b=>cases h;cases (show u=Value.bool b from rx);exact⟨_,PySem.W.kitx_bool,True.intro,fun z=>nomatch z⟩
 | int i=>cases h;obtain⟨t,rfl⟩:=rx;exact⟨_,PySem.W.kitx_int,True.intro,fun z=>nomatch z⟩
 | str y=>cases h;obtain⟨t,rfl⟩:=rx;exact⟨_,PySem.W.kitx_str,True.intro,fun z=>nomatch z⟩
 | ref a =>
  cases (show u=Value.ref a from rx)
  have fin:∀T,PySem.W.KitX X.K (.ref a) (.type T) (PySem.W.KitAt a T)->PySem.W.KitAt a T s.heap->some T=some t->∃hp:Heap->Prop,PySem.W.KitX X.K (.ref a) (.type t) hp/\hp s.heap/\Value.ref a≠.builtin "__main__.__loader__#opaque" := fun T k p q=>by cases q;exact⟨_,k,p,fun z=>nomatch z⟩
  have h:(match H a with | some (.lst _)=>some "list" | some (.tup _)=>some "tuple" | some (.dK _)=>some "dict" | some (.dT _)=>some "dict" | _=>none)=some t:=h
  split at h
  ·rename_i xs ea
   obtain⟨_,_,n,_,h1⟩:=(show zG X.prog X.w H s.heap a (.lst xs) from I.hok a _ ea)
   exact fin _ PySem.W.kitx_list ⟨_,h1,rfl⟩ h
  ·rename_i xs ea
   obtain⟨_,_,_,o,h1,h2,_⟩:=(show zG X.prog X.w H s.heap a (.tup xs) from I.hok a _ ea)
   exact fin _ PySem.W.kitx_tuple ⟨o,h1,h2⟩ h
  ·rename_i kvs ea
   obtain⟨_,_,vs,_,o,es,ep,h1,h2,_⟩:=(show zG X.prog X.w H s.heap a (.dK kvs) from I.hok a _ ea)
   exact fin _ PySem.W.kitx_dict ⟨o,h1,h2.1⟩ h
  ·rename_i kvs ea
   obtain⟨_,_,xs,_,o,es,ep,h1,h2,_⟩:=(show zG X.prog X.w H s.heap a (.dT kvs) from I.hok a _ ea)
   exact fin _ PySem.W.kitx_dict ⟨o,h1,h2.1⟩ h
  ·cases h
 | byt b=>cases h
 | flt b=>cases h
 | ty n=>cases h
end
def Fb (t T:String):Option Bool:=if ["NoneType", "bool", "int", "str", "list", "tuple", "dict"].contains t&&["int", "str", "bool", "list", "tuple"].contains T then some (t==T||(t == "bool" && T == "int")) else none
theorem Aj6 {K:v_}{t T:String}{b:Bool}(h:Fb t T=some b):PySem.W.kitOne K (.type t) (.type T)=some b:=by
 unfold Fb at h
 split at h
 ·rename_i hc
  cases h
  simp only[cL,List.contains_iff_mem,az,aM,aN]at hc;obtain⟨h1,h2⟩:=hc
  rcases h1 with rfl | rfl | rfl | rfl | rfl | rfl | rfl <;> rcases h2 with rfl | rfl | rfl | rfl | rfl <;> with_unfolding_all rfl
 ·cases h
theorem A6e:CallR X (.builtin "isinstance") (fun xs H Q=>∃x T t b,xs=[x,.ty T]/\Ol H x=some t/\Fb t T=some b/\Q (.bl b) H):=by
 intro pins s σ H xs us Q I r h;obtain⟨x,T,t,b,rfl,hk,hs,q⟩:=h;obtain⟨u,v,rfl,ru,rv⟩:=Vals.two r
 cases (show v=Value.type T from rv)
 obtain⟨hp,z,p,ne⟩:=A8m I ru hk
 exact PySem.W.kia_one z I.kIn p (Aj6 hs) ne fun tk=>⟨.bl b,H,I.tok _,rfl,q⟩
theorem walk_seq {A:p6}{pins:y_}{σ:St}{H:Hp}{s:q9}{a:Addr}{xs:m7}{E:z_}{R:z_}(hh:A.handled=none)(I:Inv X pins σ H s)(h:SqL X.K H a xs)
 (k:∀(its:w6) (J:Addr) (s2:q9),Vals xs its->Walks X.prog X.w A J [J,a] [J] its.length (fun i v=>its[i]?=some v) (fun i h=>h.IsListIter J a i/\h.IsList a its.toArray)->s2.heap.IsListIter J a 0/\s2.heap.IsList a its.toArray->(∀b∈[J,a],b<s2.heap.objs.size) ->
  Inv X pins σ H s2->(∀h' tk,(∀b o,b∉[J]->s2.heap.get? b=some o->h'.get? b=some o)->Inv X pins σ H { s2 with heap:=h',toks:=tk })->R (.ref J) s2) :
 wpAny (model X.prog X.w) A (pyIter (.ref a)) R E s:=by
 obtain⟨its,rv,p,hz⟩:=I.list h
 refine gk p.isList ?_
 have ha:a<s.heap.objs.size:=let ⟨_,e,_⟩:=p.isList; aA e
 have hne:a≠s.heap.objs.size:=aV ha;have W:=Walks.list (prog:=X.prog) (w:=X.w) (A:=A) hh s.heap.objs.size a hne its.toArray;rw[aO]at W
 have I1:Inv X pins σ H { s with heap:=s.heap.push { cls:=.type "list_iterator",data:=.fields #[.ref a,.int 0 0] } }:=I.kept (t':=s.toks) fun b o e=>aG _ e
 have f:=I.fpOk (b:=s.heap.objs.size) (aq _) (I.hok.fresh (aq _))
 refine k its s.heap.objs.size _ rv (by simpa using W) ⟨⟨_,aH _ rfl,rfl,rfl⟩,let ⟨o,e,r⟩:=p.isList; ⟨o,aG _ e,r⟩⟩ ?_ I1 fun h' tk hk=>?_
 ·intro b hb
  have e:=b_ s.heap { cls:=.type "list_iterator",data:=.fields #[.ref a,.int 0 0] }
  show b<(s.heap.push _).objs.size
  rw[e]
  rcases az.mp hb with rfl | hb
  ·exact dN _
  ·rw[aY.mp hb];exact fu ha
 ·obtain⟨f0,f1,f2,f3,f4,f5⟩:=f
  exact I1.turned (t':=tk) (fun b o hb e=>hk b o (by simpa using hb) e) f0 f1 f3 f4 f5
theorem Ag9 {A:p6}{its:w6}{bs:List Bool}(r:Vals (bs.map V.bl) its):TruthOf X.prog X.w A (fun i v=>its[i]?=some v) (fun i=>bs.getD i false):=by
 intro i v s Q E hP hQ;have hl:i<its.length:=(bL.mp hP).1
 have hl':i<bs.length:=by have:=r.length;rw[ak]at this;omega
 obtain⟨u,hu,ru⟩:=r.get (i:=i) (x:=V.bl bs[i]) (by simp[hl'])
 have hP:its[i]?=some v:=hP;rw[hP]at hu
 cases hu
 cases (show v=Value.bool bs[i] from ru)
 have e:bs.getD i false=bs[i]:=by simp[List.getD,hl']
 have hQ:Q (bs.getD i false) s:=hQ;rw[e]at hQ;exact fM hQ
theorem range_all (bs:List Bool):(List.range bs.length).all (fun i=>bs.getD i false)=bs.all id:=by
 rw[gK];simp only[bN,List.mem_range,id]
 constructor
 ·intro h b hb
  obtain⟨i,hi,rfl⟩:=List.getElem_of_mem hb
  simpa[List.getD,hi] using h i hi
 ·intro h i hi
  simpa[List.getD,hi] using h bs[i] (jm hi)
theorem A1n (hc:X.calm=true):CallR X (.builtin "all") (fun xs H Q=>∃(a:Addr) (bs:List Bool),xs=[.ref a]/\SqL X.K H a (bs.map V.bl)/\Q (.bl (bs.all id)) H):=by
 intro pins s σ H xs us Q I r h;obtain⟨a,bs,rfl,hq,q⟩:=h;obtain⟨u,rfl,ru⟩:=vals1 r
 cases (show u=Value.ref a from ru)
 refine call_all_walk (walk_seq (A:=X.A.in1) (I.ok.hd hc) I hq fun its J s2 rv W st hb I2 k=>⟨J,_,_,_,_,_,_,rfl,W,st,Ag9 rv,fun h' tk hk=>?_⟩)
 have e:its.length=bs.length:=by rw[<- rv.length,ak]
 rw[e,range_all];exact⟨.bl (bs.all id),H,k h' tk hk,rfl,q⟩
end
mutual
def Tr (H:Hp):q_->V->Prop
 | .none,v=>v=.non
 | .bool b,v=>v=.bl b
 | .int i,v=>v=.int i
 | .str x,v=>v=.str x
 | .list ds,v=>∃a vs,v=.ref a/\H a=some (.lst vs)/\TrL H ds vs
 | .tuple ds,v=>∃a vs,v=.ref a/\H a=some (.tup vs)/\TrL H ds vs
 | .dict _,_=>False
def TrL (H:Hp):w5->m7->Prop
 | [],vs=>vs=[]
 | d::ds,vs=>∃v r,vs=v::r/\Tr H d v/\TrL H ds r
end
theorem TrL.length {H:Hp}:∀{ds:w5}{vs:m7},TrL H ds vs->ds.length=vs.length
 | [],_,h=>by cases (show _=[] from h);rfl
 | d::ds,_,h=>by
  obtain⟨v,r,rfl,_,t⟩:=h;rw[aQ,aQ,TrL.length t]
mutual
theorem Tr.same {H H':Hp}(S:Same H H'):∀{d:q_}{v:V},Tr H d v->Tr H' d v
 | .none,_,h=>h
 | .bool _,_,h=>h
 | .int _,_,h=>h
 | .str _,_,h=>h
 | .list ds,_,⟨a,vs,e,ha,t⟩=>⟨a,vs,e,S _ _ ha,TrL.same S t⟩
 | .tuple ds,_,⟨a,vs,e,ha,t⟩=>⟨a,vs,e,S _ _ ha,TrL.same S t⟩
theorem TrL.same {H H':Hp}(S:Same H H'):∀{ds:w5}{vs:m7},TrL H ds vs->TrL H' ds vs
 | [],_,h=>h
 | d::ds,_,⟨v,r,e,h,t⟩=>⟨v,r,e,Tr.same S h,TrL.same S t⟩
end
def B2o (H H':Hp):Prop:=∀b xs,H b=some (.tup xs)->H' b=some (.tup xs)
section
variable {X:Cx}{pins:y_}{σ:St}{H:Hp}{s:q9}
mutual
theorem Tr.reads (I:Inv X pins σ H s):∀{d:q_}{v:V}{u:Value},Tr H d v->RelV v u->∃as,Reads s.heap u d as
 | .none,_,u=>fun h r=>by
  cases (show _=V.non from h)
  cases (show u=Value.none from r)
  exact⟨_,.none⟩
 | .bool b,_,u=>fun h r=>by
  cases (show _=V.bl b from h)
  cases (show u=Value.bool b from r)
  exact⟨_,.bool b⟩
 | .int i,_,u=>fun h r=>by
  cases (show _=V.int i from h)
  obtain⟨t,rfl⟩:=r;exact⟨_,.int i t⟩
 | .str x,_,u=>fun h r=>by
  cases (show _=V.str x from h)
  obtain⟨t,rfl⟩:=r;exact⟨_,.str x t⟩
 | .list ds,_,u=>fun h r=>by
  obtain⟨a,vs,rfl,ha,t⟩:=h
  cases (show u=Value.ref a from r)
  obtain⟨z,its,n,rv,e⟩:=I.hok a _ ha;obtain⟨as,q⟩:=TrL.reads I t rv
  exact⟨_,.list e rfl rfl (by simpa using q)⟩
 | .tuple ds,_,u=>fun h r=>by
  obtain⟨a,vs,rfl,ha,t⟩:=h
  cases (show u=Value.ref a from r)
  obtain⟨z,its,rv,o,e,c,⟨n,dt⟩,_⟩:=I.hok a _ ha;obtain⟨as,q⟩:=TrL.reads I t rv
  exact⟨_,.tuple e c dt (by simpa using q)⟩
 | .dict k,_,u=>fun h r=>False.elim h
theorem TrL.reads (I:Inv X pins σ H s):∀{ds:w5}{vs:m7}{us:w6},TrL H ds vs->Vals vs us->∃as,ReadsAll s.heap us ds as
 | [],_,us=>fun h r=>by
  cases (show _=[] from h)
  cases r
  exact⟨_,.nil⟩
 | d::ds,_,us=>fun h r=>by
  obtain⟨v,vs,rfl,hv,t⟩:=h
  cases r with
  | cons r1 r2 =>
   obtain⟨as,q⟩:=Tr.reads I hv r1;obtain⟨bs,p⟩:=TrL.reads I t r2;exact⟨_,.cons q p⟩
end
end
def Flat (d:q_):Prop:=d.canLay0=true/\d.depth<=40
section
variable {X:Cx}
theorem Bm3 {u a b c:Nat}(hu:u+64<c)(hb:b<=40):u+min a b<c:=bW (dw (au (gO a b) (au hb (by decide))) u) hu
theorem A8f {u a b c:Nat}(hu:u+64<c)(hb:b<=40):u+1+min a b<c:=bW (au (dw (au (gO a b) hb) (u+1)) (dw (show 1+40<=64 by decide) u)) hu
theorem Bp2 (hu:X.A.units+64<cLine):OpR X (compareOp .Eq) (fun x y H Q=>∃da db,Tr H da x/\Tr H db y/\Flat da/\Flat db/\Q (.bl (PyData.eqv da db)) H):=by
 intro pins s σ H x y v u Q I rx ry h;obtain⟨da,db,ta,tb,fa,fb,q⟩:=h;obtain⟨as,ra⟩:=ta.reads I rx;obtain⟨bs,rb⟩:=tb.reads I ry;exact SeqAt.compareEq_reads ra rb fa.1 fb.1 (Bm3 hu fb.2) ⟨.bl _,H,I,rfl,q⟩
theorem Bx5 (hu:X.A.units+64<cLine):OpR X (compareOp .NotEq) (fun x y H Q=>∃da db,Tr H da x/\Tr H db y/\Flat da/\Flat db/\Q (.bl (!PyData.eqv da db)) H):=by
 intro pins s σ H x y v u Q I rx ry h;obtain⟨da,db,ta,tb,fa,fb,q⟩:=h;obtain⟨as,ra⟩:=ta.reads I rx;obtain⟨bs,rb⟩:=tb.reads I ry;exact SeqAt.compareNe_reads ra rb fa.1 fb.1 (Bm3 hu fb.2) ⟨.bl _,H,I,rfl,q⟩
theorem Yi (hu:X.A.units+64<cLine):OpR X (compareOp .NotIn) (fun x y H Q=>∃d ds,Tr H d x/\(Tr H (.list ds) y\/Tr H (.tuple ds) y)/\Flat d/\PyData.canLayAll0 ds=true/\Q (.bl (!ds.any fun e=>PyData.eqv e d)) H):=by
 intro pins s σ H x y v u Q I rx ry h;obtain⟨d,ds,tx,ty,fd,fs,q⟩:=h;obtain⟨as,ra⟩:=tx.reads I rx
 rcases ty with ty | ty
 ·obtain⟨bs,rb⟩:=ty.reads I ry
  exact SeqAt.notIn_list_reads rb ra fs fd.1 (A8f hu fd.2) ⟨.bl _,H,I,rfl,q⟩
 ·obtain⟨bs,rb⟩:=ty.reads I ry
  exact SeqAt.notIn_tuple_reads rb ra fs fd.1 (A8f hu fd.2) ⟨.bl _,H,I,rfl,q⟩
theorem A2n (hu:X.A.units+64<cLine)(hg:X.A.guards=some []):CallR X (.type "str") (fun xs H Q=>∃a d,xs=[.ref a]/\Tr H d (.ref a)/\d.showable=true/\d.hasDict=false/\d.depth<=40/\d.shown.length<=sizeLine/\Q (.str d.shown) H):=by
 intro pins s σ H xs us Q I r h;obtain⟨a,d,rfl,td,h1,h2,h3,h4,q⟩:=h;obtain⟨u,rfl,ru⟩:=vals1 r
 cases (show u=Value.ref a from ru)
 obtain⟨as,rd⟩:=td.reads I ru
 exact str_of_reads rd h1 (fun z=>by rw[h2]at z;cases z) hg (by omega) (fun _ _ e=>e) (fun h' t tk hk=>⟨.str _,H,I.kept (t':=tk) hk,⟨t,rfl⟩,q⟩) h4
end
mutual
def Ls (gt:Bool):q_->q_->Option Bool
 | .int i,.int j=>some (if gt then decide (j<i) else decide (i<j))
 | .str i,.str j=>some (if gt then decide (j.cps.toList<i.cps.toList) else decide (i.cps.toList<j.cps.toList))
 | .tuple xs,.tuple ys=>Nq gt xs ys
 | _,_=>none
def Nq (gt:Bool):w5->w5->Option Bool
 | [],[]=>some false
 | [],_::_=>some (!gt)
 | _::_,[]=>some gt
 | x::xs,y::ys=>if PyData.eqv x y=true then Nq gt xs ys else Ls gt x y
end
abbrev opG (gt:Bool):CmpOp:=if gt then .Gt else .Lt
def By1 (gt:Bool)(A:p6)(s:q9)(a b:Value)(r:Bool):Prop :=
 ∀(prog:t6) (w:World) (E:z_) (Q:z_),Q (.bool r) s->wpAny (model prog w) A (richCompare (opG gt) a b) Q E s
inductive Oi (gt:Bool) (A:p6) (s:q9):w6->w6->Bool->Prop
 | nn:Oi gt A s [] [] false
 | nc {y ys}:Oi gt A s [] (y::ys) (!gt)
 | cn {x xs}:Oi gt A s (x::xs) [] gt
 | eq {x xs y ys r}:SeqAt.EqAt A s x y true->Oi gt A s xs ys r->Oi gt A s (x::xs) (y::ys) r
 | ne {x xs y ys r}:SeqAt.EqAt A s x y false->By1 gt A s x y r->Oi gt A s (x::xs) (y::ys) r
section
open PySem.SeqAt
open PySem.AutoSeq1 (wpAny_loadPart')
open PySem.MeetsSeq PySem.MeetsSeq2 PySem.MeetsSeq3
theorem Zx (l b:Addr)(items items2:v6)(n n2:Nat)(dd dd2:Option Addr)(sl sl2:Array (t_))(r:Bool) :
 Meets (Builtin.«tuple.__lt__» ⟨[.ref l,.ref b],[]⟩)
  (fun A R s=>s.heap.get? l=some { cls:=.type "tuple",dict:=dd,data:=.seq items n,slots:=sl }/\s.heap.get? b=some { cls:=.type "tuple",dict:=dd2,data:=.seq items2 n2,slots:=sl2 } /\
   Oi false A.in1 s items.toList items2.toList r/\R (.ok (.ret (.bool r))) s) :=
 .of_wp fun prog w A R s h=>by
  obtain⟨hp,g,d,tk,os⟩:=s;obtain⟨hl,hb,hx,h⟩:=h;have f2:=AutoSeq1.sub_tuple_tuple
  wp_walk using bw hl,bw hb,gG _ (fun rest b s'=>b.1=none/\s'=⟨hp,g,d,tk,os⟩/\∃(vs ws:w6),rest=vs.zip ws /\
   vs.length+items2.size=ws.length+items.size/\Oi false A.in1 ⟨hp,g,d,tk,os⟩ vs ws r) _
  case turn =>
   rintro⟨y,x⟩ rest b s' ⟨hb',rfl,vs,ws,hz,hlen,hR⟩
   cases hR with
   | nn=>rw[iH]at hz;cases hz
   | nc=>rw[iH]at hz;cases hz
   | cn=>rw[List.zip_nil_right]at hz;cases hz
   | eq he hr =>
    rw[bR]at hz
    injection hz with hyx hrest
    injection hyx with hy hx
    subst hy hx;simp only[aQ]at hlen
    refine aj (he prog w _ _ ?_)
    wp_walk
    exact⟨rfl,rfl,_,_,hrest,by omega,hr⟩
   | ne he hr =>
    rw[bR]at hz
    injection hz with hyx hrest
    injection hyx with hy hx
    subst hy hx
    refine aj (he prog w _ _ ?_)
    have hri:∀(E:z_) (Q:z_),Q (.bool r) ⟨hp,g,d,tk,os⟩->wpAny (model prog w) A.in1 (richCompare .Lt y x) Q E ⟨hp,g,d,tk,os⟩:=hr prog w
    wp_walk using hri
    exact⟨_,rfl,by simpa using h⟩
  case fin =>
   rintro⟨b1,b2⟩ s' ⟨hb',rfl,vs,ws,hz,hlen,hR⟩
   simp only at hb';subst hb'
   have hv:r=decide (items.size<items2.size):=by
    cases hR with
    | nn=>exact(aL (by simp only[cY]at hlen;omega)).symm
    | nc=>simp only[cY,aQ]at hlen;exact(aF (by omega)).symm
    | cn=>simp only[cY,aQ]at hlen;exact(aL (by omega)).symm
    | eq=>rw[bR]at hz;cases hz
    | ne=>rw[bR]at hz;cases hz
   rw[hv]at h
   wp_walk
   exact⟨_,rfl,by simpa[Builtin.Tuple.tupleCompareSizes] using h⟩
  case h =>
   exact⟨rfl,rfl,items.toList,items2.toList,rfl,by simp;omega,hx⟩
theorem Yy (l b:Addr)(items items2:v6)(n n2:Nat)(dd dd2:Option Addr)(sl sl2:Array (t_))(r:Bool) :
 Meets (Builtin.«tuple.__gt__» ⟨[.ref l,.ref b],[]⟩)
  (fun A R s=>s.heap.get? l=some { cls:=.type "tuple",dict:=dd,data:=.seq items n,slots:=sl }/\s.heap.get? b=some { cls:=.type "tuple",dict:=dd2,data:=.seq items2 n2,slots:=sl2 } /\
   Oi true A.in1 s items.toList items2.toList r/\R (.ok (.ret (.bool r))) s) :=
 .of_wp fun prog w A R s h=>by
  obtain⟨hp,g,d,tk,os⟩:=s;obtain⟨hl,hb,hx,h⟩:=h;have f2:=AutoSeq1.sub_tuple_tuple
  wp_walk using bw hl,bw hb,gG _ (fun rest b s'=>b.1=none/\s'=⟨hp,g,d,tk,os⟩/\∃(vs ws:w6),rest=vs.zip ws /\
   vs.length+items2.size=ws.length+items.size/\Oi true A.in1 ⟨hp,g,d,tk,os⟩ vs ws r) _
  case turn =>
   rintro⟨y,x⟩ rest b s' ⟨hb',rfl,vs,ws,hz,hlen,hR⟩
   cases hR with
   | nn=>rw[iH]at hz;cases hz
   | nc=>rw[iH]at hz;cases hz
   | cn=>rw[List.zip_nil_right]at hz;cases hz
   | eq he hr =>
    rw[bR]at hz
    injection hz with hyx hrest
    injection hyx with hy hx
    subst hy hx;simp only[aQ]at hlen
    refine aj (he prog w _ _ ?_)
    wp_walk
    exact⟨rfl,rfl,_,_,hrest,by omega,hr⟩
   | ne he hr =>
    rw[bR]at hz
    injection hz with hyx hrest
    injection hyx with hy hx
    subst hy hx
    refine aj (he prog w _ _ ?_)
    have hri:∀(E:z_) (Q:z_),Q (.bool r) ⟨hp,g,d,tk,os⟩->wpAny (model prog w) A.in1 (richCompare .Gt y x) Q E ⟨hp,g,d,tk,os⟩:=hr prog w
    wp_walk using hri
    exact⟨_,rfl,by simpa using h⟩
  case fin =>
   rintro⟨b1,b2⟩ s' ⟨hb',rfl,vs,ws,hz,hlen,hR⟩
   simp only at hb';subst hb'
   have hv:r=decide (items2.size<items.size):=by
    cases hR with
    | nn=>exact(aL (by simp only[cY]at hlen;omega)).symm
    | nc=>simp only[cY,aQ]at hlen;exact(aL (by omega)).symm
    | cn=>simp only[cY,aQ]at hlen;exact(aF (by omega)).symm
    | eq=>rw[bR]at hz;cases hz
    | ne=>rw[bR]at hz;cases hz
   rw[hv]at h
   wp_walk
   exact⟨_,rfl,by simpa[Builtin.Tuple.tupleCompareSizes] using h⟩
  case h =>
   exact⟨rfl,rfl,items.toList,items2.toList,rfl,by simp;omega,hx⟩
end
theorem Br8 {gt:Bool}{A:p6}{s:q9}{l b:Addr}{items items2:v6}{r:Bool}(hl:s.heap.IsTuple l items)(hb:s.heap.IsTuple b items2)(hx:Oi gt A.in1 s items.toList items2.toList r)(hu:A.units<cLine):By1 gt A s (.ref l) (.ref b) r:=by
 intro prog w E Q h;obtain⟨⟨cls,dd,data,sl⟩,ho,hc,n,hd⟩:=id hl;obtain⟨⟨cls2,dd2,data2,sl2⟩,ho2,hc2,n2,hd2⟩:=id hb;simp only at hc hd hc2 hd2;subst hc hd hc2 hd2
 cases gt with
 | false =>
  exact richCompare_meets_room (op:=.Lt) ⟨_,ho,rfl⟩ ⟨_,ho2,rfl⟩ PySem.F.slot_tuple_lt PySem.F.entry_tuple_lt (PySem.F.args_tuple_lt_2 _ _) (Zx l b items items2 n n2 dd dd2 sl sl2 r)
   ⟨ho,ho2,hx,show Value.bool r≠Value.notImplemented/\Q (.bool r) s from ⟨(fun x=>nomatch x),h⟩⟩ hu
 | true =>
  exact richCompare_meets_room (op:=.Gt) ⟨_,ho,rfl⟩ ⟨_,ho2,rfl⟩ PySem.F.slot_tuple_gt PySem.F.entry_tuple_gt (PySem.F.args_tuple_gt_2 _ _) (Yy l b items items2 n n2 dd dd2 sl sl2 r)
   ⟨ho,ho2,hx,show Value.bool r≠Value.notImplemented/\Q (.bool r) s from ⟨(fun x=>nomatch x),h⟩⟩ hu
mutual
theorem A9c (gt:Bool):∀(da db:q_) (A:p6) (s:q9) (a b:Value) (as bs:v5) (r:Bool),Reads s.heap a da as->Reads s.heap b db bs->da.canLay0=true->db.canLay0=true->A.units+da.depth<cLine->Ls gt da db=some r->By1 gt A s a b r
 | .int i,db,A,s,a,b,as,bs,r,ra,rb,ca,cb,hu,h=>by
  cases db with
  | int j =>
   cases ra
   cases rb
   cases h
   intro prog w E Q q
   cases gt with
   | false=>exact(PyProof.Rows.lt_int q:wpAny (model prog w) A (compareOp .Lt _ _) Q E s)
   | true=>exact(PyProof.Rows.gt_int q:wpAny (model prog w) A (compareOp .Gt _ _) Q E s)
  | _=>cases h
 | .str i,db,A,s,a,b,as,bs,r,ra,rb,ca,cb,hu,h=>by
  cases db with
  | str j =>
   cases ra
   cases rb
   cases h
   intro prog w E Q q
   cases gt with
   | false=>exact(PyProof.Rows.lt_str q:wpAny (model prog w) A (compareOp .Lt _ _) Q E s)
   | true=>exact(PySem.P.gt_str q:wpAny (model prog w) A (compareOp .Gt _ _) Q E s)
  | _=>cases h
 | .tuple xs,db,A,s,a,b,as,bs,r,ra,rb,ca,cb,hu,h=>by
  cases db with
  | tuple ys =>
   cases ra with
   | tuple h1 h2 h3 h4 =>
    cases rb with
    | tuple g1 g2 g3 g4 =>
     have hu':A.units+(PyData.depthAll xs+1)<cLine:=hu
     exact Br8 ⟨_,h1,h2,_,h3⟩ ⟨_,g1,g2,_,g3⟩ (Pk gt xs ys A.in1 s _ _ _ _ r h4 g4 ca cb (by show A.units+1+PyData.depthAll xs<cLine;omega) h) (by omega)
  | _=>cases h
 | .none,db,A,s,a,b,as,bs,r,ra,rb,ca,cb,hu,h=>by cases db <;> cases h
 | .bool _,db,A,s,a,b,as,bs,r,ra,rb,ca,cb,hu,h=>by cases db <;> cases h
 | .list _,db,A,s,a,b,as,bs,r,ra,rb,ca,cb,hu,h=>by cases db <;> cases h
 | .dict _,db,A,s,a,b,as,bs,r,ra,rb,ca,cb,hu,h=>by cases db <;> cases h
theorem Pk (gt:Bool):∀(xs ys:w5) (A:p6) (s:q9) (vs ws:w6) (as bs:v5) (r:Bool),ReadsAll s.heap vs xs as->ReadsAll s.heap ws ys bs->PyData.canLayAll0 xs=true->PyData.canLayAll0 ys=true->A.units+PyData.depthAll xs<cLine->Nq gt xs ys=some r->Oi gt A s vs ws r
 | [],[],A,s,vs,ws,as,bs,r,ra,rb,ca,cb,hu,h=>by cases ra;cases rb;cases h;exact .nn
 | [],y::ys,A,s,vs,ws,as,bs,r,ra,rb,ca,cb,hu,h=>by cases ra;cases rb;cases h;exact .nc
 | x::xs,[],A,s,vs,ws,as,bs,r,ra,rb,ca,cb,hu,h=>by cases ra;cases rb;cases h;exact .cn
 | x::xs,y::ys,A,s,vs,ws,as,bs,r,ra,rb,ca,cb,hu,h=>by
  cases ra with
  | cons r1 r2 =>
   cases rb with
   | cons q1 q2 =>
    have ca':=aB.mp ca;have cb':=aB.mp cb;have hu':A.units+max x.depth (PyData.depthAll xs)<cLine:=hu
    have e:=il x y A s _ _ _ _ r1 q1 ca'.1 cb'.1 (by omega)
    rw[Nq]at h
    by_cases he:PyData.eqv x y=true
    ·rw[if_pos he]at h
     rw[he]at e
     exact .eq e (Pk gt xs ys A s _ _ _ _ r r2 q2 ca'.2 cb'.2 (by omega) h)
    ·rw[if_neg he]at h
     rw[jn _ |>.mp he]at e
     exact .ne e (A9c gt x y A s _ _ _ _ r r1 q1 ca'.1 cb'.1 (by omega) h)
end
section
variable {X:Cx}{pins:y_}{σ:St}{H:Hp}{s:q9}
theorem Inv.recS {S:Addr}{o o':Obj}{f:Obj->Obj}{pl:y_}(I:Inv X (pins++(S,o)::pl) σ H s)(hS:X.s₀.heap.objs.size<=S)(hp:∀p∈pins++pl,p.1≠S)(hpn:∀p∈X.pn,p.1≠S)
 (hu:(s.heap.update S f).get? S=some o') (hd:∀v,o'.data≠.cell v):Inv X (pins++(S,o')::pl) σ H { s with heap:=s.heap.update S f }:=by
 obtain⟨p1,p2,p3,p4,p5⟩:=I.pin (S,o) (aU _ (aU _ bD))
 have I0:Inv X [] σ H s:=I.pins_of fun p hp=>nomatch hp
 have I1:Inv X [] σ H { s with heap:=s.heap.update S f }:=I0.turned (t':=s.toks) (fun b u hb e=>(cz s.heap f (aJ hb)).trans e) p2 p3 (.inr hS) (fun x c e z=>by
  obtain⟨v,ob,ho,hdc⟩:=I.cell x c e
  rw[z,p1]at ho;cases ho;exact p5 v hdc) (fun p hp' z=>by
   have hp':p∈X.pn++[]:=hp';rw[cH]at hp'
   exact hpn p hp' z)
 refine I1.pins_of fun p hpp=>?_
 have keep:∀p∈pins++pl,(s.heap.update S f).get? p.1=some p.2/\H p.1=none/\p.1≠X.env.locals/\p.1∉X.fs/\∀v,p.2.data≠.cell v:=fun p hpm=>by
  have hpm':p∈X.pn++(pins++(S,o)::pl):=aU _ (by
   rcases bY.mp hpm with z | z
   ·exact dh _ z
   ·exact aU _ (bx _ z))
  obtain⟨q1,q2,q3,q4,q5⟩:=I.pin p hpm';exact⟨(cz s.heap f (aJ (hp p hpm))).trans q1,q2,q3,q4,q5⟩
 rcases bY.mp hpp with z | z
 ·exact keep p (dh _ z)
 ·rcases az.mp z with rfl | z
  ·exact⟨hu,p2,p3,p4,hd⟩
  ·exact keep p (aU _ z)
end
def A3s (H:Hp):V->Option Nat
 | .ref p=>match H p with
  | some (.lst xs)=>some xs.length
  | some (.tup xs)=>some xs.length
  | _=>none
 | .str z=>if z.length<=sizeLine then some z.length else none
 | _=>none
def rAppF:V->m7->Hp->VK->Prop:=fun x vs H Q=>∃l y xs,x=.ref l/\vs=[y]/\H l=some (.lst xs)/\xs.length<sizeLine/\Q .non (upd H l (.lst (xs++[y])))
def Bp4 (K:v_)(tl:TE):TI:=fun σ H R=>tl σ H fun x H1=>∃a,x=.ref a/\((∃xs,H1 a=some (.lst xs)/\R (Itl K a) H1)\/(∃xs,H1 a=some (.tup xs)/\R (Itt K a) H1))
section
variable {X:Cx}
theorem A2b:CallR X (.builtin "len") (fun xs H Q=>∃x n,xs=[x]/\A3s H x=some n/\Q (.int (n:Nat)) H):=by
 intro pins s σ H xs us Q I r h;obtain⟨x,n,rfl,e,q⟩:=h
 refine Ai0 pins s σ H [x] us Q I r ⟨x,n,rfl,?_,q⟩
 cases x with
 | ref p =>
  have e:(match H p with | some (.lst xs)=>some xs.length | some (.tup xs)=>some xs.length | _=>none)=some n:=e
  cases hp:H p with
  | none=>rw[hp]at e;cases e
  | some o =>
   rw[hp]at e
   cases o with
   | lst xs=>cases e;exact .inl ⟨xs,SqL.of hp,rfl⟩
   | tup xs=>cases e;exact .inr ⟨xs,SqT.of hp,rfl⟩
   | _=>cases e
 | str z =>
  have e:(if z.length<=sizeLine then some z.length else none)=some n:=e
  split at e
  ·cases e;exact⟨by assumption,rfl⟩
  ·cases e
 | _=>cases e
theorem Ba8:MtM X "list.append" rAppF:=by
 intro pins s σ H x vs v us Q I rx rv h;obtain⟨l,y,xs,e1,e2,h1,h2,q⟩:=h;exact A2f pins s σ H x vs v us Q I rx rv ⟨l,xs,y,e1,e2,h1,h2,q⟩
theorem Bv9 {tg l:Expr}{tl:TE}(hl:PE X l tl):PI X tg l (Bp4 X.K tl):=by
 intro pins s σ H R I h
 refine thn (hl pins s σ H _ I h) fun v s1 ⟨x,H1,I1,r1,q1⟩=>?_
 obtain⟨a,e,q1⟩:=q1;subst e
 cases r1
 rcases q1 with ⟨xs,hq,q⟩ | ⟨xs,hq,q⟩
 ·obtain⟨its,rv,p,hz⟩:=I1.list (SqL.of hq)
  refine gk p.isList ?_
  refine⟨s1.heap.objs.size,[s1.heap.objs.size],_,_,H1,rfl,I1.kept (t':=s1.toks) fun b o e=>aG _ e,A1r a _,⟨_,aH _ rfl,rfl,rfl⟩,fun b hb=>?_,q⟩
  have e:b=s1.heap.objs.size:=by simpa using hb
  subst e;exact I1.fpOk (aq _) (I1.hok.fresh (aq _))
 ·obtain⟨its,rv,p,hz⟩:=I1.tuple (SqT.of hq)
  refine dO (show s1.heap.IsTuple a its.toArray from p) ?_
  refine⟨s1.heap.objs.size,[s1.heap.objs.size],_,_,H1,rfl,I1.kept (t':=s1.toks) fun b o e=>aG _ e,As3 a _,⟨_,aH _ rfl,rfl,rfl⟩,fun b hb=>?_,q⟩
  have e:b=s1.heap.objs.size:=by simpa using hb
  subst e;exact I1.fpOk (aq _) (I1.hok.fresh (aq _))
def Li (t:String):List String->Option Bool
 | []=>some false
 | T::r=>match Fb t T with
  | some true=>some true
  | some false=>Li t r
  | none=>none
theorem Uz {K:v_}{t:String}:∀{Ts:List String}{b:Bool},Li t Ts=some b->PySem.W.kitAny K (.type t) (Ts.map Value.type)=some b
 | [],b,h=>h
 | T::r,b,h=>by
  have h:(match Fb t T with | some true=>some true | some false=>Li t r | none=>none)=some b:=h
  show (match PySem.W.kitOne K (.type t) (.type T) with | some true=>some true | some false=>PySem.W.kitAny K (.type t) (r.map Value.type) | none=>none)=some b
  cases e:Fb t T with
  | none=>rw[e]at h;cases h
  | some k =>
   rw[e]at h;rw[Aj6 e]
   cases k with
   | true=>exact h
   | false=>exact Uz h
theorem Ag2:∀{Ts:List String}{us:w6},Vals (Ts.map V.ty) us->us=Ts.map Value.type
 | [],_,.nil=>rfl
 | T::r,_,.cons h t=>by
  cases (show _=Value.type T from h)
  rw[Ag2 t]
  rfl
theorem A3w:CallR X (.builtin "isinstance") (fun xs H Q=>∃x p Ts t b,xs=[x,.ref p]/\H p=some (.tup (Ts.map V.ty))/\Ol H x=some t/\Li t Ts=some b/\Q (.bl b) H):=by
 intro pins s σ H xs us Q I r h;obtain⟨x,p,Ts,t,b,rfl,hp,hk,hs,q⟩:=h;obtain⟨u,v,rfl,ru,rv⟩:=Vals.two r
 cases (show v=Value.ref p from rv)
 obtain⟨z,its,rt,o,ho,hc,⟨n,hd⟩,hdn⟩:=I.hok p _ hp;have ei:=Ag2 rt;subst ei;obtain⟨cls,dd,data,sl⟩:=o;simp only at hc hd;subst hc hd
 have fin:∀tk,EP X pins σ Q (.bool b) { s with toks:=tk }:=fun tk=>⟨.bl b,H,I.tok _,rfl,q⟩
 obtain⟨hp,z,p,ne⟩:=A8m I ru hk;exact PySem.W.kia_tup z I.kIn p ho (Uz (K:=X.K) hs) ne fin
end
theorem Bo4:bootBuiltins "len" = some (.builtin "len"):=by decide +kernel
theorem Bo0:bootBuiltins "abs" = some (.builtin "abs"):=by decide +kernel
theorem Om:bootBuiltins "isinstance" = some (.builtin "isinstance"):=by decide +kernel
theorem Bv6:bootBuiltins "all" = some (.builtin "all"):=by decide +kernel
theorem Bu7:bootBuiltins "min" = some (.builtin "min"):=by decide +kernel
theorem Ap1:bootBuiltins "int" = some (.type "int"):=by decide +kernel
theorem Ra:bootBuiltins "str" = some (.type "str"):=by decide +kernel
theorem Z8:bootBuiltins "bool" = some (.type "bool"):=by decide +kernel
theorem Ur:bootBuiltins "list" = some (.type "list"):=by decide +kernel
theorem Ko:bootBuiltins "tuple" = some (.type "tuple"):=by decide +kernel
theorem Ex {X:Cx}{N':v4}{idx:p_}{scope:Scope}(h1:scope.kind=.function)(h2:(0:Nat)=0)(h3:(scope.names.map (·.1)).Nodup)
 (h4:(scope.names.all fun y=>decide (y.2≠.free)||decide (X.env.kindOf y.1=some .cell)||decide (X.env.kindOf y.1=some .free))=true) (h5:idx.length=N'.length)
 (h6:((idx.zip N').all fun p=>match p.1 with | none=>true | some i=>decide (X.N[i]?=some p.2)&&decide (scope.names.lookup p.2=some .free))=true):J2 X N' idx scope where
 kind:=h1
 nod:=h3
 free:=fun y hy hf=>by
  have h:=bN.mp h4 y hy;simp only[Bool.or_eq_true,gW]at h
  rcases h with (h | h) | h
  ·exact absurd hf h
  ·exact .inl h
  ·exact .inr h
 len:=h5
 at':=fun j i x e1 e2=>by
  have hz:(some i,x)∈idx.zip N':=by
   have:(idx.zip N')[j]?=some (some i,x):=by simp[iI,e1,e2]
   exact bH this
  have h:=bN.mp h6 _ hz;simp only[cL,gW]at h;exact h
def Wi:Expr->Option V
 | .Constant (.int i) _ _=>some (.int i)
 | .Constant (.str x) _ _=>some (.str x)
 | .Constant (.bool b) _ _=>some (.bl b)
 | .Constant .none _ _=>some .non
 | _=>none
def Qy:u5->Option (m7)
 | []=>some []
 | e::es=>match Wi e,Qy es with
  | some v,some vs=>some (v::vs)
  | _,_=>none
def tK (vs:m7):TA:=fun _ H Q=>Q vs H
theorem A7r {X:Cx}{e:Expr}{v:V}(h:Wi e=some v):PE X e (tC v)/\∀es,starEach (e::es) X.env=(false,eval e X.env)::starEach es X.env:=by
 unfold Wi at h
 split at h <;> first
  | (cases h;exact⟨A5p,fun _=>rfl⟩)
  | (cases h;exact⟨Ba5,fun _=>rfl⟩)
  | (cases h;exact⟨Bm0,fun _=>rfl⟩)
  | (cases h;exact⟨A5l,fun _=>rfl⟩)
  | cases h
theorem X5 {X:Cx}:∀{es:u5}{vs:m7},Qy es=some vs->PA X es (tK vs)
 | [],vs,h=>by cases h;exact At7
 | e::es,vs,h=>by
  have h:(match Wi e,Qy es with | some v,some vs=>some (v::vs) | _,_=>none)=some vs:=h
  cases e1:Wi e with
  | none=>rw[e1]at h;cases h
  | some v =>
   cases e2:Qy es with
   | none=>rw[e1,e2]at h;cases h
   | some r =>
    rw[e1,e2]at h
    cases h
    obtain⟨p1,p2⟩:=A7r (X:=X) e1;exact Au6 p1 (X5 e2) (p2 es)
def isStar:Expr->Bool
 | .Starred ..=>true
 | _=>false
def noStar:u5->Bool
 | []=>true
 | e::es=>!isStar e&&noStar es
theorem Gj {e:Expr}{es:u5}{env:Env}(h:isStar e=false):starEach (e::es) env=(false,eval e env)::starEach es env:=by
 cases e <;> first | rfl | cases h
theorem Lj {pos:Pos}{env:Env}:∀{es:u5},noStar es=true->(backTo pos (starEach es env)).any (·.1)=false
 | [],_=>rfl
 | e::es,h=>by
  obtain⟨h1,h2⟩:=aB.mp h
  rw[Gj (by simpa using h1)]
  show (false||(backTo pos (starEach es env)).any (·.1))=false
  rw[Lj h2]
  rfl
theorem G9 {e:Expr}{es:u5}(h:noStar (e::es)=true):isStar e=false/\noStar es=true:=by
 obtain⟨h1,h2⟩:=aB.mp h
 exact⟨by simpa using h1,h2⟩
section
variable {X:Cx}{CX:CXT}{k:Nat}{f:Addr}{fd:u_}{ps:v4}{sp:Sp}{dvs:m7}{ds:w6}{E:XK}{x:Str}{p pos:Pos}{e:Expr}{es:u5}{te:TE}{t:TA}{id T:String}{r:m7->Hp->VK->Prop}
theorem B1z (ha:PE X e te)(hr:PA X es t)(hs:isStar e=false:=by rfl):PA X (e::es) (Dz te t):=Au6 ha hr (Gj hs)
theorem A6d (F:FnOk X.prog X.w X.K X.mg X.base CX k f fd ps sp)(hr:Room k X.A)(hg:Gl X x)(hm:X.mg x=some (.ref f))(hk:PySem.W.keepIn X.K (.ref f)=true)(hb:Binds X.K fd ps ds)(hd:Vals dvs ds)(hx:Wf CX X E)
 (ha:PA X (e::es) t) (hdb:(x==("__debug__" : Str))=false:=by decide) (hn:noStar (e::es)=true:=by rfl):PE X (.Call (.Name x p) (e::es) [] pos) (Xz sp dvs E t) :=
 Bi8 F hr hg hm hk hb hd hx ha hdb (Gj (G9 hn).1) (Lj (G9 hn).2)
theorem Jc (hc:CallR X (.builtin id) r)(hg:Gl X x)(hm:X.mg x=none)(hv:bootBuiltins x=some (.builtin id))(ha:PA X (e::es) t)(hn:x ≠ "__name__" := by decide) (hdb:(x==("__debug__" : Str))=false:=by decide)
 (hns:noStar (e::es)=true:=by rfl):PE X (.Call (.Name x p) (e::es) [] pos) (tCB r t):=A8u hc hg hm hv ha hn hdb (Gj (G9 hns).1) (Lj (G9 hns).2)
theorem Lx (hc:CallR X (.type T) r)(hg:Gl X x)(hm:X.mg x=none)(hv:bootBuiltins x=some (.type T))(ha:PA X (e::es) t)(hn:x ≠ "__name__" := by decide) (hdb:(x==("__debug__" : Str))=false:=by decide)
 (hns:noStar (e::es)=true:=by rfl):PE X (.Call (.Name x p) (e::es) [] pos) (tCB r t):=A1z hc hg hm hv ha hn hdb (Gj (G9 hns).1) (Lj (G9 hns).2)
end
section
variable {X:Cx}{a b e:Expr}{es:u5}{ta tb te:TE}{t:TA}{p pos apos cpos:Pos}{p2:Pos}
theorem Ga {f:Expr}{args:u5}{kws:List Keyword}{pos:Pos}:Ln (.Call f args kws pos):=fun _ _=>rfl
theorem V5 {x:Str}{pos:Pos}:Ln (.Name x pos):=fun _ _=>rfl
theorem Bq {i:Int}{j}{pos:Pos}:Ln (.Constant (.int i) j pos):=fun _ _=>rfl
theorem A1a {a b:Expr}{pos:Pos}:Ln (.Subscript a b pos):=fun _ _=>rfl
theorem A3x (ha:PE X a ta)(hb:PE X b tb):PE X (.BinOp a .Sub b pos) (tOp (rI0 fun i j=>.int (i-j)) ta tb):=Vq Bt5 ha hb
theorem A1c (ha:PE X a ta)(hb:PE X b tb):PE X (.BinOp a .Mult b pos) (tOp (rI CMul fun i j=>.int (i*j)) ta tb):=Vq Bz1 ha hb
theorem Aq5 (ha:PE X a ta)(hb:PE X b tb):PE X (.BinOp a .FloorDiv b pos) (tOp (rI A5o fun i j=>.int (i / j)) ta tb):=Vq Bi2 ha hb
theorem A1j (ha:PE X a ta)(hb:PE X b tb):PE X (.BinOp a .Mod b pos) (tOp (rI (fun _ j=>0<j) fun i j=>.int (i % j)) ta tb):=Vq Bs1 ha hb
theorem A0r (ha:PE X a ta)(hb:PE X b tb):PE X (.BinOp a .Pow b pos) (tOp (rI A8g fun i j=>.int (i ^ j.toNat)) ta tb):=Vq Bv7 ha hb
theorem A1i (ha:PE X a ta)(hb:PE X b tb):PE X (.BinOp a .Mult b pos) (tOp (Bb8) ta tb):=Vq Bt7 ha hb
def B2k:R2:=fun x y H Q=>∃da db,Tr H da x/\Tr H db y/\Flat da/\Flat db/\Q (.bl (PyData.eqv da db)) H
def B2e:R2:=fun x y H Q=>∃da db,Tr H da x/\Tr H db y/\Flat da/\Flat db/\Q (.bl (!PyData.eqv da db)) H
theorem A8v (ha:PE X a ta)(hb:PE X b tb):PT X (.Compare a [.Lt] [b] pos) (Km (tOp (rI0 fun i j=>.bl (decide (i<j))) ta tb)):=Mh (B1m) ha hb (O1 _)
theorem A8q (ha:PE X a ta)(hb:PE X b tb):PT X (.Compare a [.Gt] [b] pos) (Km (tOp (rI0 fun i j=>.bl (decide (j<i))) ta tb)):=Mh (B0n) ha hb (O1 _)
theorem A4q (ha:PE X a ta)(hb:PE X b tb):PE X (.Compare a [.GtE] [b] pos) (tOp (rI0 fun i j=>.bl (decide (j<=i))) ta tb):=Za (B0p) ha hb (O1 _)
theorem A1w (ha:PE X a ta)(hb:PE X b tb):PT X (.Compare a [.Is] [b] pos) (Km (tOp (fun x y H Q=>y=.non/\Q (.bl (decide (x=.non))) H) ta tb)):=Mh (Bw3) ha hb (O1 _)
def S9 (K:v_):m7->Hp->VK->Prop:=fun xs H Q=>∃x n,xs=[x]/\A3s H x=some n/\Q (.int (n:Nat)) H
def Ao7 (K:v_):m7->Hp->VK->Prop:=fun xs H Q=>∃x n,xs=[x]/\B0o K x H n/\Q (.int n) H
def O7 (K:v_):m7->Hp->VK->Prop:=fun xs H Q=>∃i,xs=[.int i]/\Q (.int (if i<0 then -i else i)) H
theorem Ag3 (hgl:Gl X "abs") (hm:X.mg "abs" = none) (ha:PA X (e::es) t) (hns:noStar (e::es)=true:=by rfl):PE X (.Call (.Name "abs" p) (e::es) [] pos) (tCB (O7 X.K) t):=Jc (A6o) hgl hm Bo0 ha (by decide) (by decide) hns
def Lr (K:v_):m7->Hp->VK->Prop:=fun xs H Q=>∃x T t b,xs=[x,.ty T]/\Ol H x=some t/\Fb t T=some b/\Q (.bl b) H
theorem Ai1 (hgl:Gl X "isinstance") (hm:X.mg "isinstance" = none) (ha:PA X (e::es) t) (hns:noStar (e::es)=true:=by rfl):PE X (.Call (.Name "isinstance" p) (e::es) [] pos) (tCB (Lr X.K) t):=Jc (A6e) hgl hm Om ha (by decide) (by decide) hns
def Jx (K:v_):m7->Hp->VK->Prop:=fun xs H Q=>∃x p Ts t b,xs=[x,.ref p]/\H p=some (.tup (Ts.map V.ty))/\Ol H x=some t/\Li t Ts=some b/\Q (.bl b) H
theorem Ab8 (hgl:Gl X "isinstance") (hm:X.mg "isinstance" = none) (ha:PA X (e::es) t) (hns:noStar (e::es)=true:=by rfl):PE X (.Call (.Name "isinstance" p) (e::es) [] pos) (tCB (Jx X.K) t):=Jc (A3w) hgl hm Om ha (by decide) (by decide) hns
def M9 (K:v_):m7->Hp->VK->Prop:=fun xs H Q=>∃(a:Addr) (bs:List Bool),xs=[.ref a]/\SqL K H a (bs.map V.bl)/\Q (.bl (bs.all id)) H
theorem Ac2 (hc:X.calm=true)(hgl:Gl X "all") (hm:X.mg "all" = none) (ha:PA X (e::es) t) (hns:noStar (e::es)=true:=by rfl):PE X (.Call (.Name "all" p) (e::es) [] pos) (tCB (M9 X.K) t):=Jc (A1n hc) hgl hm Bv6 ha (by decide) (by decide) hns
def Nt (K:v_):m7->Hp->VK->Prop:=fun xs H Q=>(∃i,xs=[.int i]/\Q (.int i) H)\/∃k,xs=[.bl k]/\Q (.int (if k then 1 else 0)) H
theorem Zd (hgl:Gl X "int") (hm:X.mg "int" = none) (ha:PA X (e::es) t) (hns:noStar (e::es)=true:=by rfl):PE X (.Call (.Name "int" p) (e::es) [] pos) (tCB (Nt X.K) t):=Lx (A2y) hgl hm Ap1 ha (by decide) (by decide) hns
def V1 (K:v_):m7->Hp->VK->Prop:=fun xs H Q=>∃i:Int,xs=[.int i]/\i.natAbs.log2<1920/\Q (.str (toString i)) H
def Am1 (K:v_):m7->Hp->VK->Prop:=fun xs H Q=>∃a d,xs=[.ref a]/\Tr H d (.ref a)/\d.showable=true/\d.hasDict=false/\d.depth<=40/\d.shown.length<=sizeLine/\Q (.str d.shown) H
def Ih (K:v_):m7->Hp->VK->Prop:=fun xs H Q=>∃p ys,xs=[.ref p]/\((SqL K H p ys/\∀l,H l=none->Q (.ref l) (upd H l (.tup ys)))\/(SqT K H p ys/\Q (.ref p) H))
theorem Rv (hgl:Gl X "tuple") (hm:X.mg "tuple" = none) (ha:PA X (e::es) t) (hns:noStar (e::es)=true:=by rfl):PE X (.Call (.Name "tuple" p) (e::es) [] pos) (tCB (Ih X.K) t):=Lx (W7) hgl hm Ko ha (by decide) (by decide) hns
def Jg (K:v_):m7->Hp->VK->Prop:=fun xs H Q=>∃p ys,xs=[.ref p]/\(SqL K H p ys\/SqT K H p ys)/\∀l,H l=none->Q (.ref l) (upd H l (.lst ys))
theorem Tn (hgl:Gl X "list") (hm:X.mg "list" = none) (ha:PA X (e::es) t) (hns:noStar (e::es)=true:=by rfl):PE X (.Call (.Name "list" p) (e::es) [] pos) (tCB (Jg X.K) t):=Lx (Ae0) hgl hm Ur ha (by decide) (by decide) hns
def Ju (K:v_):m7->Hp->VK->Prop:=fun xs H Q=>∃i j,xs=[.int i,.int j]/\Q (.int (if j<i then j else i)) H
theorem Zu (hc:X.calm=true)(hgl:Gl X "min") (hm:X.mg "min" = none) (ha:PA X (e::es) t) (hns:noStar (e::es)=true:=by rfl):PE X (.Call (.Name "min" p) (e::es) [] pos) (tCB (Ju X.K) t):=Jc (A2z hc) hgl hm Bu7 ha (by decide) (by decide) hns
theorem A3p (ho:PE X a ta)(hv:PE X e te)(hbase:attributeBase a "append" X.env (eval a X.env)=eval a X.env:=by rfl)
 (hfew:((backTo cpos (starEach [e] X.env)).all (fun x=>!x.1)&&(backToKw cpos (keywordEach [] X.env)).all (fun x=>x.1.isSome)
  && decide ([e].length+([]:List Keyword).length+(if ([]:List Keyword).isEmpty then 0 else 1)<30))=true:=by rfl)
 (hline:(apos.endLine==cpos.line)=true:=by rfl) (hns:isStar e=false:=by rfl) :
 PE X (.Call (.Attribute a "append" apos) [e] [] cpos) (tBM X.K "list" rAppF ta (Dz te Io)) :=
 Bm2 iJ PySem.F.slot_list_append PySem.F.type_list_append Ba8 ho (B1z hv At7 hns) hbase hfew hline (Gj hns) rfl
end
section
variable {P:t6}{w:World}{A:p6}
abbrev bare (led:Bool):Obj:={ cls:=.type "set",dict:=none,data:=.set #[] 0 (.fresh 0 0 led) }
end
section
variable {P:t6}{w:World}{A:p6}{E:z_}{s:q9}
theorem Ti {j u:Addr}{k:Nat}{Q:z_}(at':s.heap.IsTupleIter j u k)
 (body:wpAny (model P w) A.in1 (Builtin.«tuple_iterator.__next__» ⟨[.ref j],[]⟩) (fun f z=>∃v,f=.done (.ret v)/\Q v z) E s) :
 wpAny (model P w) A (Builtin.SmallTypes.nextOf (.ref j)) Q E s:=by
 unfold Builtin.SmallTypes.nextOf;apply aj
 refine cB (name:="__next__") at'.typeIs F.slot_tuple_iterator_next ?_
 refine bJ F.slot_tuple_iterator_next at'.typeIs F.entry_tuple_iterator_next ?_ (F.args_tuple_iterator_next_1 _)
 refine a_ body (fun f z hz=>?_) fun _ _ q=>q
 obtain⟨v,rfl,q⟩:=hz;exact⟨v,rfl,ao q⟩
theorem An9 {j u:Addr}{k:Nat}{vs:v6}{x:Value}{Q:z_}(at':s.heap.IsTupleIter j u k)(tu:s.heap.IsTuple u vs)(hx:vs[k]?=some x)
 (q:∀h',h'.IsTupleIter j u (k+1)->Heap.SameBut j s.heap h'->Q x { s with heap:=h' }):wpAny (model P w) A (Builtin.SmallTypes.nextOf (.ref j)) Q E s:=by
 refine Ti at' ?_
 obtain⟨o,e1,e2,e3⟩:=at';obtain⟨o2,g1,_,n,g3⟩:=tu;apply aj (m:=field (.ref j) 0);apply bA e1 e3 (x:=.ref u) rfl;have nn:¬ ((Value.ref u==Value.none)=true):=aR
 show wpAny _ _ (if (Value.ref u==.none)=true then _ else _) _ _ _
 rw[if_neg nn];apply aj (m:=field (.ref j) 1);apply bA e1 e3 (x:=.int k 0) rfl;apply aj (m:=seqItems? (.ref u));apply cU g1 g3;simp only[hx,fU];apply aj
 apply wpAny_setField e1 e3 (by simp)
 apply ao
 have up:=cM (Obj.mapFields fun a=>a.setIfInBounds 1 (rawInt ((k:Int)+1))) e1 (iK (fB e3 _))
 refine⟨x,rfl,q _ ⟨_,up,(jo ..).trans e2,?_⟩ (bT ..)⟩
 rw[fB e3]
 simp[rawInt]
theorem A1q {j u:Addr}{k:Nat}{vs:v6}{Q:z_}(quiet:A.handled=none)(at':s.heap.IsTupleIter j u k)(tu:s.heap.IsTuple u vs)(hx:vs[k]?=none)
 (q:∀h' e,Heap.ExtBut j s.heap h'->(∃o,h'.get? e=some o/\o.cls=.type "StopIteration")->E (.ref e) { s with heap:=h' }):wpAny (model P w) A (Builtin.SmallTypes.nextOf (.ref j)) Q E s:=by
 refine Ti at' ?_
 obtain⟨o,e1,e2,e3⟩:=at';obtain⟨o2,g1,_,n,g3⟩:=tu;apply aj (m:=field (.ref j) 0);apply bA e1 e3 (x:=.ref u) rfl;have nn:¬ ((Value.ref u==Value.none)=true):=aR
 show wpAny _ _ (if (Value.ref u==.none)=true then _ else _) _ _ _
 rw[if_neg nn];apply aj (m:=field (.ref j) 1);apply bA e1 e3 (x:=.int k 0) rfl;apply aj (m:=seqItems? (.ref u));apply cU g1 g3;simp only[hx,fU];apply aj;apply cT;apply aj
 apply wpAny_setField e1 e3 (by simp)
 apply aj (m:=newExc (.type "StopIteration") []);unfold newExc newTuple;apply aj
 refine cA ?_ (by size_fits )
 apply aj (m:=firstArgMember _ _)
 refine wpAny_of_eq (a:=Value.none) (by simp only[firstArgMember];rfl) ?_
 refine cA ?_ (by size_fits )
 unfold raiseNew;apply aj;apply wpAny_handled;have quiet1:A.in1.handled=none:=quiet;rw[quiet1]
 refine aj (ao ?_)
 apply wpAny_throw;exact q _ _ ((((bT ..).extBut).push _).push _) ⟨_,aH _ rfl,rfl⟩
def ItAt (t:Bool)(h:Heap)(j u:Addr)(k:Nat):Prop:=match t with
 | true=>h.IsTupleIter j u k
 | false=>h.IsListIter j u k
def SqA (t:Bool)(h:Heap)(u:Addr)(vs:v6):Prop:=match t with
 | true=>h.IsTuple u vs
 | false=>h.IsList u vs
theorem ItAt.stay {t:Bool}{h h':Heap}{j u:Addr}{k:Nat}(x:ItAt t h j u k)(q:∀o,h.get? j=some o->h'.get? j=some o):ItAt t h' j u k:=by
 cases t <;> (obtain⟨o,e,r⟩:=x;exact⟨o,q o e,r⟩)
theorem ItAt.obj {t:Bool}{h:Heap}{j u:Addr}{k:Nat}(x:ItAt t h j u k):∃o,h.get? j=some o/\o.data=.fields #[.ref u,.int k 0]:=by
 cases t <;> (obtain⟨o,e,_,r⟩:=x;exact⟨o,e,r⟩)
theorem SqA.stay {t:Bool}{h h':Heap}{u:Addr}{vs:v6}(x:SqA t h u vs)(q:∀o,h.get? u=some o->h'.get? u=some o):SqA t h' u vs:=by
 cases t <;> (obtain⟨o,e,r⟩:=x;exact⟨o,q o e,r⟩)
theorem next_item {t:Bool}{j u:Addr}{k:Nat}{vs:v6}{x:Value}{Q:z_}(a:ItAt t s.heap j u k)(b:SqA t s.heap u vs)(hx:vs[k]?=some x)
 (q:∀h',ItAt t h' j u (k+1)->Heap.SameBut j s.heap h'->Q x { s with heap:=h' }):wpAny (model P w) A (Builtin.SmallTypes.nextOf (.ref j)) Q E s:=by
 cases t
 ·exact wpAny_nextOf_list_item a b hx q
 ·exact An9 a b hx q
theorem next_end {t:Bool}{j u:Addr}{k:Nat}{vs:v6}{Q:z_}(quiet:A.handled=none)(a:ItAt t s.heap j u k)(b:SqA t s.heap u vs)(hx:vs[k]?=none)
 (q:∀h' e,Heap.ExtBut j s.heap h'->(∃o,h'.get? e=some o/\o.cls=.type "StopIteration")->E (.ref e) { s with heap:=h' }):wpAny (model P w) A (Builtin.SmallTypes.nextOf (.ref j)) Q E s:=by
 cases t
 ·exact wpAny_nextOf_list_end quiet a b hx q
 ·exact A1q quiet a b hx q
structure ZipAt (h:Heap) (t1 t2:Bool) (z ti to i1 i2 a b:Addr) (f0:Value) (k:Nat):Prop where
 zip:IsZip h z ti to f0
 ins:IsPair h ti (.ref i1) (.ref i2)
 outs:∃u v,IsPair h to u v
 one:ItAt t1 h i1 a k
 two:ItAt t2 h i2 b k
structure zE (z ti to i1 i2 a b:Addr):Prop where
 nd:[z,ti,to,i1,i2].Nodup
 na:a∉[z,ti,to,i1,i2]
 nb:b∉[z,ti,to,i1,i2]
theorem zE.z_ti (x:zE z ti to i1 i2 a b):ti≠z:=by have:=x.nd;simp at this;exact fun e=>this.1.1 e.symm
theorem zE.z_to (x:zE z ti to i1 i2 a b):to≠z:=by have:=x.nd;simp at this;exact fun e=>this.1.2.1 e.symm
theorem zE.z_i1 (x:zE z ti to i1 i2 a b):i1≠z:=by have:=x.nd;simp at this;exact fun e=>this.1.2.2.1 e.symm
theorem zE.z_i2 (x:zE z ti to i1 i2 a b):i2≠z:=by have:=x.nd;simp at this;exact fun e=>this.1.2.2.2 e.symm
theorem zE.to_i1 (x:zE z ti to i1 i2 a b):to≠i1:=by have:=x.nd;simp at this;exact this.2.2.1.1
theorem zE.to_i2 (x:zE z ti to i1 i2 a b):to≠i2:=by have:=x.nd;simp at this;exact this.2.2.1.2
theorem zE.i1_i2 (x:zE z ti to i1 i2 a b):i1≠i2:=by have:=x.nd;simp at this;exact this.2.2.2
theorem zE.ti_to (x:zE z ti to i1 i2 a b):ti≠to:=by have:=x.nd;simp at this;exact this.2.1.1
theorem zE.ti_i1 (x:zE z ti to i1 i2 a b):ti≠i1:=by have:=x.nd;simp at this;exact this.2.1.2.1
theorem zE.ti_i2 (x:zE z ti to i1 i2 a b):ti≠i2:=by have:=x.nd;simp at this;exact this.2.1.2.2
theorem Ah8 {t1 t2:Bool}{z ti to i1 i2 a b:Addr}{k:Nat}{xs ys:v6}{x x':Value}{Q:z_}(d:zE z ti to i1 i2 a b)(y:ZipAt s.heap t1 t2 z ti to i1 i2 a b .none k)
 (ha:SqA t1 s.heap a xs) (hb:SqA t2 s.heap b ys) (hx:xs[k]?=some x) (hx':ys[k]?=some x')
 (q:∀h',ZipAt h' t1 t2 z ti to i1 i2 a b (rawInt s.heap.objs.size) (k+1)->IsPair h' s.heap.objs.size x x'->(∀c o,c∉[z,ti,to,i1,i2]->s.heap.get? c=some o->h'.get? c=some o)->Q (.ref s.heap.objs.size) { s with heap:=h' }) :
 wpAny (model P w) A (Builtin.«zip.__next__» ⟨[.ref z],[]⟩) (fun f z=>∃v,f=.done (.ret v)/\Q v z) E s:=by
 obtain⟨u0,v0,o0⟩:=y.outs;have na:=d.na;have nb:=d.nb;simp only[az,aM,aN,not_or]at na nb;apply aj (m:=field (.ref z) 2);apply bA y.zip rfl (x:=.bool false) rfl;apply aj (m:=field (.ref z) 3);apply bA y.zip rfl (x:=.ref ti) rfl;apply aj;apply cU y.ins rfl;apply aj (m:=Builtin.SmallTypes.ownedTupleIsFree (.ref z));unfold Builtin.SmallTypes.ownedTupleIsFree;apply aj;apply bA y.zip rfl (x:=.none) rfl;apply ao;simp only[bV];apply aj;apply cT;apply aj;apply bA y.zip rfl (x:=.ref to) rfl;apply aj
 apply fC y.zip (by simp)
 intro g1 z1 c1;have z1:IsZip g1 z ti to .ellipsis:=z1;apply aj;simp only[List.zipIdx_cons,List.zipIdx_nil,e_,gf];apply aj;apply aj;apply iM;apply aj (m:=Builtin.SmallTypes.nextOf (.ref i1))
 refine next_item (y.one.stay fun o e=>c1.extBut _ _ d.z_i1 e) (ha.stay fun o e=>c1.extBut _ _ na.1 e) hx fun g2 n1 c2=>?_
 apply ao;have o2:IsPair g2 to u0 v0:=c2.extBut _ _ d.to_i1 (c1.extBut _ _ d.z_to o0);apply aj;apply cU o2 rfl;apply aj;apply jq o2;intro g3 o3 c3;have o3:IsPair g3 to x v0:=o3;apply aj;apply wpAny_letGo;apply ao;apply aj;apply aj;apply iM;apply aj (m:=Builtin.SmallTypes.nextOf (.ref i2))
 refine next_item (y.two.stay fun o e=>c3.extBut _ _ d.to_i2.symm (c2.extBut _ _ d.i1_i2.symm (c1.extBut _ _ d.z_i2 e))) (hb.stay fun o e=>c3.extBut _ _ nb.2.2.1 (c2.extBut _ _ nb.2.2.2.1 (c1.extBut _ _ nb.1 e))) hx' fun g4 n2 c4=>?_
 apply ao;have o4:IsPair g4 to x v0:=c4.extBut _ _ d.to_i2 o3;apply aj;apply cU o4 rfl;apply aj;apply jq o4;intro g5 o5 c5;have o5:IsPair g5 to x x':=o5;apply aj;apply wpAny_letGo;apply ao;apply ao;apply aj;apply cU o5 rfl;apply aj
 refine wpAny_newTuple ?_
 have sz:g5.objs.size=s.heap.objs.size:=by rw[c5.1,c4.1,c3.1,c2.1,c1.1]
 have all5:∀c o,c≠z->c≠to->c≠i1->c≠i2->s.heap.get? c=some o->g5.get? c=some o:=fun c o p1 p2 p3 p4 e=>c5.extBut _ _ p2 (c4.extBut _ _ p4 (c3.extBut _ _ p2 (c2.extBut _ _ p3 (c1.extBut _ _ p1 e))))
 have z5:IsZip g5 z ti to .ellipsis:=c5.extBut _ _ d.z_to.symm (c4.extBut _ _ d.z_i2.symm (c3.extBut _ _ d.z_to.symm (c2.extBut _ _ d.z_i1.symm z1)))
 have m1:ItAt t1 g5 i1 a (k+1):=n1.stay fun o e=>c5.extBut _ _ d.to_i1.symm (c4.extBut _ _ d.i1_i2 (c3.extBut _ _ d.to_i1.symm e))
 have m2:ItAt t2 g5 i2 b (k+1):=n2.stay fun o e=>c5.extBut _ _ d.to_i2.symm e
 apply aj (m:=Builtin.SmallTypes.ownedTupleHandOut (.ref z) (.ref g5.objs.size));unfold Builtin.SmallTypes.ownedTupleHandOut;have z6:IsZip (g5.push { cls:=.type "tuple",data:=.seq #[x,x'] }) z ti to .ellipsis:=aG _ z5;apply aj
 apply fC z6 (by simp)
 intro g7 z7 c7;have z7:IsZip g7 z ti to (rawInt g5.objs.size):=z7
 apply fC z7 (by simp)
 intro g8 z8 c8;have z8:IsZip g8 z ti to (rawInt g5.objs.size):=z8
 have all8:∀c o,c≠z->g5.get? c=some o->g8.get? c=some o:=fun c o p e=>c8.extBut _ _ p (c7.extBut _ _ p (aG _ e))
 have zlt:z<g5.objs.size:=aA z5;have new:IsPair g8 g5.objs.size x x':=c8.extBut _ _ (cj zlt) (c7.extBut _ _ (cj zlt) (aH _ rfl));rw[sz]at z8 new;apply ao
 refine⟨_,rfl,?_⟩
 show Q (.ref g5.objs.size) _
 rw[sz]
 refine q g8 ⟨z8,all8 _ _ d.z_ti (all5 _ _ d.z_ti d.ti_to d.ti_i1 d.ti_i2 y.ins),⟨x,x',all8 _ _ d.z_to o5⟩,m1.stay fun o e=>all8 _ _ d.z_i1 e,m2.stay fun o e=>all8 _ _ d.z_i2 e⟩ new fun c o p e=>?_
 simp only[az,aM,aN,not_or]at p;exact all8 c o p.1 (all5 c o p.1 p.2.2.1 p.2.2.2.1 p.2.2.2.2 e)
theorem Al5 {t1 t2:Bool}{z ti to i1 i2 a b:Addr}{k:Nat}{xs ys:v6}{F:Fin->q9->Prop}(quiet:A.handled=none)(d:zE z ti to i1 i2 a b)(y:ZipAt s.heap t1 t2 z ti to i1 i2 a b .none k)
 (ha:SqA t1 s.heap a xs) (hb:SqA t2 s.heap b ys) (hx:xs[k]?=none\/ys[k]?=none)
 (q:∀h' e,(∀c o,c∉[z,ti,to,i1,i2]->s.heap.get? c=some o->h'.get? c=some o)->(∃o,h'.get? e=some o/\o.cls=.type "StopIteration")->E (.ref e) { s with heap:=h' }) :
 wpAny (model P w) A (Builtin.«zip.__next__» ⟨[.ref z],[]⟩) F E s:=by
 obtain⟨u0,v0,o0⟩:=y.outs;have na:=d.na;have nb:=d.nb;simp only[az,aM,aN,not_or]at na nb;apply aj (m:=field (.ref z) 2);apply bA y.zip rfl (x:=.bool false) rfl;apply aj (m:=field (.ref z) 3);apply bA y.zip rfl (x:=.ref ti) rfl;apply aj;apply cU y.ins rfl;apply aj (m:=Builtin.SmallTypes.ownedTupleIsFree (.ref z));unfold Builtin.SmallTypes.ownedTupleIsFree;apply aj;apply bA y.zip rfl (x:=.none) rfl;apply ao;simp only[bV];apply aj;apply cT;apply aj;apply bA y.zip rfl (x:=.ref to) rfl;apply aj
 apply fC y.zip (by simp)
 intro g1 z1 c1;have z1:IsZip g1 z ti to .ellipsis:=z1;apply aj;simp only[List.zipIdx_cons,List.zipIdx_nil,e_,gf];apply aj;apply aj;apply iM;apply aj (m:=Builtin.SmallTypes.nextOf (.ref i1))
 cases e1:xs[k]? with
 | none =>
  refine next_end quiet (y.one.stay fun o e=>c1.extBut _ _ d.z_i1 e) (ha.stay fun o e=>c1.extBut _ _ na.1 e) e1 fun g2 x c2 hx2=>?_
  obtain⟨ox,f1,f2⟩:=hx2;have z2:IsZip g2 z ti to .ellipsis:=c2 _ _ d.z_i1.symm z1
  have nz:x≠z:=fun e=>by subst e;rw[z2]at f1;cases f1;simp at f2
  apply fC z2 (by simp)
  intro g3 _ c3
  refine q g3 x (fun c o p e=>?_) ⟨ox,c3.extBut _ _ nz f1,f2⟩
  simp only[az,aM,aN,not_or]at p;exact c3.extBut _ _ p.1 (c2 _ _ p.2.2.2.1 (c1.extBut _ _ p.1 e))
 | some x =>
  have e2:ys[k]?=none:=by
   rcases hx with h | h
   ·rw[e1]at h;cases h
   ·exact h
  refine next_item (y.one.stay fun o e=>c1.extBut _ _ d.z_i1 e) (ha.stay fun o e=>c1.extBut _ _ na.1 e) e1 fun g2 n1 c2=>?_
  apply ao;have o2:IsPair g2 to u0 v0:=c2.extBut _ _ d.to_i1 (c1.extBut _ _ d.z_to o0);apply aj;apply cU o2 rfl;apply aj;apply jq o2;intro g3 o3 c3;apply aj;apply wpAny_letGo;apply ao;apply aj;apply aj;apply iM;apply aj (m:=Builtin.SmallTypes.nextOf (.ref i2))
  refine next_end quiet (y.two.stay fun o e=>c3.extBut _ _ d.to_i2.symm (c2.extBut _ _ d.i1_i2.symm (c1.extBut _ _ d.z_i2 e))) (hb.stay fun o e=>c3.extBut _ _ nb.2.2.1 (c2.extBut _ _ nb.2.2.2.1 (c1.extBut _ _ nb.1 e))) e2 fun g4 x c4 hx4=>?_
  obtain⟨ox,f1,f2⟩:=hx4;have z4:IsZip g4 z ti to .ellipsis:=c4 _ _ d.z_i2.symm (c3.extBut _ _ d.z_to.symm (c2.extBut _ _ d.z_i1.symm z1))
  have nz:x≠z:=fun e=>by subst e;rw[z4]at f1;cases f1;simp at f2
  apply fC z4 (by simp)
  intro g5 _ c5
  refine q g5 x (fun c o p e=>?_) ⟨ox,c5.extBut _ _ nz f1,f2⟩
  simp only[az,aM,aN,not_or]at p;exact c5.extBut _ _ p.1 (c4 _ _ p.2.2.2.2 (c3.extBut _ _ p.2.2.1 (c2.extBut _ _ p.2.2.2.1 (c1.extBut _ _ p.1 e))))
end
section
variable {X:Cx}{pins:y_}{σ:St}{H:Hp}{s:q9}{h':Heap}
theorem Inv.turnLay {ch:v5}{p:Addr}{o:HO}{t':Nat}(I:Inv X pins σ H s)(hf:∀b∈ch,Ma X pins H b)(k:∀b u,b∉ch->s.heap.get? b=some u->h'.get? b=some u)(hp:s.heap.objs.size<=p)(new:zG X.prog X.w (upd H p o) h' p o) :
 Inv X pins σ (upd H p o) { s with heap:=h',toks:=t' }:=by
 have hpn:H p=none:=I.hok.fresh hp
 have nch:∀b u,H b=some u->b∉ch:=fun b u e z=>by rw[(hf b z).1]at e;cases e
 have np:∀b u,H b=some u->b≠p:=fun b u e=>Br e hpn
 have npo:∀b u,s.heap.get? b=some u->b≠p:=fun b u e z=>absurd (aA e) (by rw[z];exact Nat.not_lt.mpr hp)
 refine I.step (g':=s.gens) (d':=s.drawn) (ch:=ch) (fun b hb=>?_) (fun b u _ _ hc e _=>k b u hc e) (fun b u _ _ hc e _=>⟨u.slots,k b u hc e⟩) (fun b u _ e n=>?_) (fun b u hc e=>⟨u,k b u hc e⟩)
  (fun b xs e=>?_) (fun b o u e=>?_) (fun b ps e=>?_) (fun m hm=>?_) (fun b u e=>?_) I.bare
 ·obtain⟨f0,f1,f2,f3,f4,f5⟩:=hf b hb
  exact⟨f3,f1,f4,f5⟩
 ·rw[Ak (npo b u e)];exact n
 ·rw[Ak (np b _ e)];exact e
 ·rw[Ak (np b _ e)];exact e
 ·rw[Ak (np b _ e)];exact e
 ·obtain⟨ob,es,ep,ho,r⟩:=hm
  exact⟨ob,es,ep,k _ ob (fun z=>(hf _ z).2.1 rfl) ho,r⟩
 ·by_cases hb:b=p
  ·subst hb;rw[Bb]at e;cases e;exact new
  ·rw[Ak hb]at e
   refine (I.hok b u e).stay (fun c v hc q=>k c v ?_ q) (fun c q=>by rw[Ak (np c _ q)];exact q) (fun c xs q=>by rw[Ak (np c _ q)];exact q) fun c ob xs q=>by rw[Ak (np c _ q)];exact q
   rcases hc with z | z
   ·rw[z];exact nch b u e
   ·exact nch c _ z
theorem Inv.turnL {ch:v5}{t':Nat}(I:Inv X pins σ H s)(hf:∀b∈ch,Ma X pins H b)(k:∀b u,b∉ch->s.heap.get? b=some u->h'.get? b=some u):Inv X pins σ H { s with heap:=h',toks:=t' }:=by
 have nch:∀b u,H b=some u->b∉ch:=fun b u e z=>by rw[(hf b z).1]at e;cases e
 refine I.step (g':=s.gens) (d':=s.drawn) (ch:=ch) (fun b hb=>?_) (fun b u _ _ hc e _=>k b u hc e) (fun b u _ _ hc e _=>⟨u.slots,k b u hc e⟩) (fun b u _ e n=>n) (fun b u hc e=>⟨u,k b u hc e⟩)
  (fun b xs e=>e) (fun b o u e=>e) (fun b ps e=>e) (fun m hm=>?_) (fun b u e=>?_) I.bare
 ·obtain⟨f0,f1,f2,f3,f4,f5⟩:=hf b hb
  exact⟨f3,f1,f4,f5⟩
 ·obtain⟨ob,es,ep,ho,r⟩:=hm
  exact⟨ob,es,ep,k _ ob (fun z=>(hf _ z).2.1 rfl) ho,r⟩
 ·refine (I.hok b u e).stay (fun c v hc q=>k c v ?_ q) (fun c q=>q) fun c xs q=>q
  rcases hc with z | z
  ·rw[z];exact nch b u e
  ·exact nch c _ z
end
def SqK (t:Bool)(H:Hp)(a:Addr)(xs:m7):Prop:=match t with
 | true=>H a=some (.tup xs)
 | false=>H a=some (.lst xs)
theorem SqK.one {t:Bool}{H:Hp}{a:Addr}{xs ys:m7}(x:SqK t H a xs)(y:SqK t H a ys):xs=ys:=by
 cases t
 ·have x:H a=some (.lst xs):=x
  have y:H a=some (.lst ys):=y;rw[x]at y;cases y;rfl
 ·have x:H a=some (.tup xs):=x
  have y:H a=some (.tup ys):=y;rw[x]at y;cases y;rfl
theorem SqK.some {t:Bool}{H:Hp}{a:Addr}{xs:m7}(x:SqK t H a xs):∃o,H a=some o:=by
 cases t
 ·exact⟨_,x⟩
 ·exact⟨_,x⟩
theorem SqK.its {X:Cx}{pins:y_}{σ:St}{H:Hp}{s:q9}{t:Bool}{a:Addr}{xs:m7}(I:Inv X pins σ H s)(x:SqK t H a xs):∃its:w6,Vals xs its/\SqA t s.heap a its.toArray:=by
 cases t
 ·obtain⟨its,rv,p,_⟩:=I.list (SqL.of x)
  exact⟨its,rv,p.isList⟩
 ·obtain⟨its,rv,p,_⟩:=I.tuple (SqT.of x)
  exact⟨its,rv,(show s.heap.IsTuple a its.toArray from p)⟩
def Itz (t1 t2:Bool)(a b:Addr):It :=
 ⟨
  fun i H=>∃xs ys x y,SqK t1 H a xs/\SqK t2 H b ys/\xs[i]?=some x/\ys[i]?=some y,
  fun i H v H'=>∃p x y,v=.ref p/\H p=none/\H'=upd H p (.tup [x,y])/\(∀xs,SqK t1 H a xs->xs[i]?=some x)/\∀ys,SqK t2 H b ys->ys[i]?=some y,
  fun i H=>∃xs ys,SqK t1 H a xs/\SqK t2 H b ys/\(xs.length<=i\/ys.length<=i)⟩
theorem A5c {P:t6}{w:World}{K:v_}{t1 t2:Bool}{elts:u5}{kk:Nat}{pos:Pos}{z ti to i1 i2 a b:Addr}(nd:[z,ti,to,i1,i2].Nodup) :
 Turn P w K (.Tuple elts kk pos) (Itz t1 t2 a b) [z,ti,to,i1,i2] z (fun i h=>ZipAt h t1 t2 z ti to i1 i2 a b .none i) where
 mem:=by simp
 obj:=fun i h st c hc=>by
  simp only[az,aM,aN]at hc
  rcases hc with rfl | rfl | rfl | rfl | rfl
  ·exact⟨_,st.zip,fun v e=>by cases e⟩
  ·exact⟨_,st.ins,fun v e=>by cases e⟩
  ·obtain⟨u,v,e⟩:=st.outs;exact⟨_,e,fun v e=>by cases e⟩
  ·obtain⟨o,e,q⟩:=st.one.obj;exact⟨o,e,fun v e=>by rw[q]at e;cases e⟩
  ·obtain⟨o,e,q⟩:=st.two.obj;exact⟨o,e,fun v e=>by rw[q]at e;cases e⟩
 keep:=fun i h h' st k=>by
  obtain⟨u,v,e⟩:=st.outs
  exact⟨k z (by simp) _ st.zip,k ti (by simp) _ st.ins,⟨u,v,k to (by simp) _ e⟩,st.one.stay fun o e=>k i1 (by simp) o e,st.two.stay fun o e=>k i2 (by simp) o e⟩
 item:=by
  intro X hP hw hK hc i pins s σ H E I hf st hg;subst hP hw hK;obtain⟨xs,ys,x,y,ha,hb,hx,hy⟩:=hg;obtain⟨its,rv,pa⟩:=ha.its I;obtain⟨jts,rw',pb⟩:=hb.its I;obtain⟨u,hu,ru⟩:=rv.get hx;obtain⟨v,hv,rv'⟩:=rw'.get hy
  have off:zE z ti to i1 i2 a b:=⟨nd,fun m=>by (obtain⟨o,e⟩:=ha.some;rw[(hf a m).1]at e;cases e),fun m=>by (obtain⟨o,e⟩:=hb.some;rw[(hf b m).1]at e;cases e)⟩
  have ty:s.TypeIs (.ref z) "zip" := ⟨_,st.zip,rfl⟩;unfold pyNext;apply aj;apply cP
  refine cB (name:="__next__") ty dR ?_
  refine bJ dR ty iQ ?_ (iR _)
  refine Ah8 off st pa pb (x:=u) (x':=v) (by simpa using hu) (by simpa using hv) fun h1 z1 new kp=>?_
  refine ao ⟨_,rfl,?_⟩
  apply wpAny_letOwnedTupleGo_zip z1.zip;intro h2 z2 sb;have nz:s.heap.objs.size≠z:=cj (aA st.zip);have new2:IsPair h2 s.heap.objs.size u v:=sb.extBut _ _ nz new
  have ok:zG X.prog X.w (upd H s.heap.objs.size (.tup [x,y])) h2 s.heap.objs.size (.tup [x,y]):=⟨(show 2<=sizeLine by decide),[u,v],.cons ru (.cons rv' .nil),⟨_,new2,rfl,⟨_,rfl⟩,rfl⟩⟩
  have I2:=I.turnLay (t':=s.toks) hf (h':=h2) (fun c o m e=>sb.extBut _ _ (fun e=>m (by simp[e])) (kp c o m e)) (aq _) ok
  obtain⟨u1,v1,e1⟩:=z1.outs;have zf:H s.heap.objs.size=none:=I.hok.fresh (aq _)
  refine⟨.ref s.heap.objs.size,_,I2,rfl,⟨_,x,y,rfl,zf,rfl,fun xs' h=>?_,fun ys' h=>?_⟩,?_,fun c hc=>?_⟩
  ·rw[h.one ha];exact hx
  ·rw[h.one hb];exact hy
  ·exact⟨z2,sb.extBut _ _ off.z_ti z1.ins,⟨u1,v1,sb.extBut _ _ off.z_to e1⟩,z1.one.stay fun o e=>sb.extBut _ _ off.z_i1 e,z1.two.stay fun o e=>sb.extBut _ _ off.z_i2 e⟩
  ·have lt:c<s.heap.objs.size:=by
    simp only[az,aM,aN]at hc
    rcases hc with rfl | rfl | rfl | rfl | rfl
    ·exact aA st.zip
    ·exact aA st.ins
    ·obtain⟨_,_,e⟩:=st.outs;exact aA e
    ·obtain⟨o,e,q⟩:=st.one.obj;exact aA e
    ·obtain⟨o,e,q⟩:=st.two.obj;exact aA e
   rw[Ak (aV lt)];exact(hf c hc).1
 done:=by
  intro X hP hw hK hc i pins s σ H E I hf st hg;subst hP hw hK;obtain⟨xs,ys,ha,hb,hl⟩:=hg;obtain⟨its,rv,pa⟩:=ha.its I;obtain⟨jts,rw',pb⟩:=hb.its I
  have off:zE z ti to i1 i2 a b:=⟨nd,fun m=>by (obtain⟨o,e⟩:=ha.some;rw[(hf a m).1]at e;cases e),fun m=>by (obtain⟨o,e⟩:=hb.some;rw[(hf b m).1]at e;cases e)⟩
  have ty:s.TypeIs (.ref z) "zip" := ⟨_,st.zip,rfl⟩;have l1:=rv.length;have l2:=rw'.length;unfold pyNext;apply aj;apply cP
  refine cB (name:="__next__") ty dR ?_
  refine bJ dR ty iQ ?_ (iR _)
  refine Al5 (I.ok.hd hc) off st pa pb (by simp;omega) fun h1 e kp he=>?_
  obtain⟨o,e1,e2⟩:=he;apply aj
  refine du (T := "StopIteration") (b:=true) ⟨o,e1,e2⟩ fG ?_
  exact ao ⟨rfl,I.turnL (t':=s.toks) hf fun c o m e=>kp c o m e⟩
 self:=fun _ _ _ _ _ st h=>jr st.zip h
section
variable {P:t6}{w:World}{A:p6}{E:z_}{s:q9}
abbrev itO (t:Bool)(u:Addr):Obj:={ cls:=.type (if t then "tuple_iterator" else "list_iterator"),data:=.fields #[.ref u,.int 0 0] }
abbrev zh1 (h:Heap)(t1:Bool)(a:Addr):Heap:=h.push (itO t1 a)
abbrev zh2 (h:Heap)(t1 t2:Bool)(a b:Addr):Heap:=(zh1 h t1 a).push (itO t2 b)
abbrev zh3 (h:Heap)(t1 t2:Bool)(a b:Addr):Heap:=(zh2 h t1 t2 a b).push { cls:=.type "tuple",data:=.seq #[.ref h.objs.size,.ref (zh1 h t1 a).objs.size] }
abbrev zh4 (h:Heap)(t1 t2:Bool)(a b:Addr):Heap:=(zh3 h t1 t2 a b).push { cls:=.type "tuple",data:=.seq #[.none,.none] }
abbrev zh5 (h:Heap)(t1 t2:Bool)(a b:Addr):Heap:=(zh4 h t1 t2 a b).push { cls:=.type "zip",data:=.fields #[.none,.bool false,.bool false,.ref (zh2 h t1 t2 a b).objs.size,.ref (zh3 h t1 t2 a b).objs.size] }
theorem A8h (t1 t2:Bool)(a b:Addr)(xs ys:v6) :
 Meets (Builtin.«zip.__new__» ⟨[.type "zip",.ref a,.ref b],[]⟩) (fun _ R s=>SqA t1 s.heap a xs/\SqA t2 s.heap b ys/\R (.ok (.ret (.ref (zh4 s.heap t1 t2 a b).objs.size))) { s with heap:=zh5 s.heap t1 t2 a b }) :=
 .of_wp fun P w A R s h=>by
  obtain⟨hp,g,d,tk,os⟩:=s;obtain⟨p1,p2,h⟩:=h;have sub:=sub_zip
  cases t1 <;> cases t2
  ·have q1:Heap.IsList (Shared.heap ⟨hp,g,d,tk,os⟩) a xs:=p1
   have q2:Heap.IsList (Shared.heap ⟨hp.push { cls:=.type "list_iterator",data:=.fields #[.ref a,.int 0 0] },g,d,tk,os⟩) b ys:=Heap.IsList.push p2 _
   wp_walk using gk q1,gk q2
   exact⟨_,rfl,h⟩
  ·have q1:Heap.IsList (Shared.heap ⟨hp,g,d,tk,os⟩) a xs:=p1
   have q2:Heap.IsTuple (Shared.heap ⟨hp.push { cls:=.type "list_iterator",data:=.fields #[.ref a,.int 0 0] },g,d,tk,os⟩) b ys:=Heap.IsTuple.push p2 _
   wp_walk using gk q1,dO q2
   exact⟨_,rfl,h⟩
  ·have q1:Heap.IsTuple (Shared.heap ⟨hp,g,d,tk,os⟩) a xs:=p1
   have q2:Heap.IsList (Shared.heap ⟨hp.push { cls:=.type "tuple_iterator",data:=.fields #[.ref a,.int 0 0] },g,d,tk,os⟩) b ys:=Heap.IsList.push p2 _
   wp_walk using dO q1,gk q2
   exact⟨_,rfl,h⟩
  ·have q1:Heap.IsTuple (Shared.heap ⟨hp,g,d,tk,os⟩) a xs:=p1
   have q2:Heap.IsTuple (Shared.heap ⟨hp.push { cls:=.type "tuple_iterator",data:=.fields #[.ref a,.int 0 0] },g,d,tk,os⟩) b ys:=Heap.IsTuple.push p2 _
   wp_walk using dO q1,dO q2
   exact⟨_,rfl,h⟩
theorem Ap0 {t:Bool}{h:Heap}{j u:Addr}(e:h.get? j=some (itO t u)):ItAt t h j u 0:=by
 cases t
 ·exact⟨_,e,rfl,rfl⟩
 ·exact⟨_,e,rfl,rfl⟩
theorem Ut {t1 t2:Bool}{a b:Addr}{xs ys:v6}{Q:z_}(p1:SqA t1 s.heap a xs)(p2:SqA t2 s.heap b ys)
 (q:∀h',ZipAt h' t1 t2 (s.heap.objs.size+4) (s.heap.objs.size+2) (s.heap.objs.size+3) s.heap.objs.size (s.heap.objs.size+1) a b .none 0->(∀c o,s.heap.get? c=some o->h'.get? c=some o)->Q (.ref (s.heap.objs.size+4)) { s with heap:=h' }) :
 wpAny (model P w) A (call (.type "zip") [.ref a,.ref b]) Q E s:=by
 apply callType_new F.called_zip (by decide) (F.typeCall_zip_2 _ _) (F.newCall_zip_2 _ _) (fun o=>F.args_object_init_3 o _ _) F.entry_zip_new (A8h t1 t2 a b xs ys)
 refine⟨p1,p2,?_⟩
 have s1:(zh1 s.heap t1 a).objs.size=s.heap.objs.size+1:=b_ ..
 have s2:(zh2 s.heap t1 t2 a b).objs.size=s.heap.objs.size+2:=by rw[b_,s1]
 have s3:(zh3 s.heap t1 t2 a b).objs.size=s.heap.objs.size+3:=by rw[b_,s2]
 have s4:(zh4 s.heap t1 t2 a b).objs.size=s.heap.objs.size+4:=by rw[b_,s3]
 have up:=fun {h:Heap} {c:Addr} {o:Obj} (n:Obj) (e:h.get? c=some o)=>aG n e
 have e5:(zh5 s.heap t1 t2 a b).get? (zh4 s.heap t1 t2 a b).objs.size=some _:=aH _ rfl;have e4:(zh5 s.heap t1 t2 a b).get? (zh3 s.heap t1 t2 a b).objs.size=some _:=up _ (aH _ rfl);have e3:(zh5 s.heap t1 t2 a b).get? (zh2 s.heap t1 t2 a b).objs.size=some _:=up _ (up _ (aH _ rfl));have e2:(zh5 s.heap t1 t2 a b).get? (zh1 s.heap t1 a).objs.size=some _:=up _ (up _ (up _ (aH _ rfl)));have e1:(zh5 s.heap t1 t2 a b).get? s.heap.objs.size=some _:=up _ (up _ (up _ (up _ (aH _ rfl))));rw[s2,s3,s4]at e5;rw[s1,s2]at e3;rw[s3]at e4;rw[s1]at e2
 show _/\_
 rw[s4]
 exact⟨⟨_,e5,rfl⟩,q _ ⟨e5,e3,⟨_,_,e4⟩,Ap0 e1,Ap0 e2⟩ fun c o e=>up _ (up _ (up _ (up _ (up _ e))))⟩
end
theorem Yd:bootBuiltins "zip" = some (.type "zip"):=by decide +kernel
section
variable {X:Cx}
def Bu6 (ta:TA):TI:=fun σ H R=>ta σ H fun vs H1=>∃a b,vs=[.ref a,.ref b]/\∃t1 t2 xs ys,SqK t1 H1 a xs/\SqK t2 H1 b ys/\R (Itz t1 t2 a b) H1
theorem Bp7 {a b:Expr}{ta:TA}{p pos tpos:Pos}{elts:u5}{kk:Nat}(hg:Gl X "zip") (hm:X.mg "zip" = none) (ha:PA X [a,b] ta) (hs1:isStar a=false:=by rfl) (hs2:isStar b=false:=by rfl) :
 PI X (.Tuple elts kk tpos) (.Call (.Name "zip" p) [a,b] [] pos) (Bu6 ta):=by
 intro pins s σ H R I h;have st1:=Gj (es:=[b]) (env:=X.env) hs1;have st2:=Gj (es:=[]) (env:=X.env) hs2
 refine Call_ (J9 I hg hm Yd (eO (thn (ha pos pins s σ H _ I h) fun us s1 ⟨vs,H1,I1,r1,q1⟩=>?_) st1 (by rw[st2];rfl)))
 obtain⟨a',b',rfl,t1,t2,xs,ys,h1,h2,q⟩:=q1;obtain⟨u1,u2,rfl,g1,g2⟩:=Vals.two r1
 cases (show u1=Value.ref a' from g1)
 cases (show u2=Value.ref b' from g2)
 obtain⟨its,rv,pa⟩:=h1.its I1;obtain⟨jts,rw',pb⟩:=h2.its I1
 refine Ut pa pb fun h' zz kp=>?_
 apply jr zz.zip
 have nd:[s1.heap.objs.size+4,s1.heap.objs.size+2,s1.heap.objs.size+3,s1.heap.objs.size,s1.heap.objs.size+1].Nodup:=by simp
 refine⟨_,_,_,_,H1,rfl,I1.kept (t':=s1.toks) kp,A5c nd,zz,fun c hc=>?_,q⟩
 have le:s1.heap.objs.size<=c:=by
  simp only[az,aM,aN]at hc
  rcases hc with rfl | rfl | rfl | rfl | rfl <;> simp
 exact I1.fpOk le (I1.hok.fresh le)
end
def Bm1:R2:=fun x y H Q=>∃a b xs ys,x=.ref a/\y=.ref b/\H a=some (.tup xs)/\H b=some (.tup ys)/\xs.length+ys.length<=sizeLine/\∀p H',Same H H'->H' p=some (.tup (xs++ys))->Q (.ref p) H'
section
variable {X:Cx}
theorem Bt {H:Hp}{p:Addr}(h:H p=none)(o:HO):Same H (upd H p o):=fun b u e=>by rw[Ak (Br e h)];exact e
theorem Bd5:OpR X (binaryOp .Add) Bm1:=by
 intro pins s σ H x y v u Q I rx ry h;obtain⟨a,b,xs,ys,rfl,rfl,ha,hb,hz,q⟩:=h
 by_cases e:xs=[]
 ·cases rx
  cases ry
  subst e;obtain⟨its,r1,p1,_⟩:=I.tuple (SqT.of ha);obtain⟨jts,r2,p2,_⟩:=I.tuple (SqT.of hb);have e1:its=[]:=r1.nil_iff.mpr rfl;subst e1;obtain⟨⟨c1,d1,dt1,s1⟩,o1,k1,n1,w1⟩:=id p1;obtain⟨⟨c2,d2,dt2,s2⟩,o2,k2,n2,w2⟩:=id p2;simp only at k1 w1 k2 w2;subst k1 w1 k2 w2
  exact concat_meets ⟨_,o1,rfl⟩ ⟨_,o2,rfl⟩ je seq_tuple_add jf jg (jh _ _)
   (tuple_addW0 a b #[] jts.toArray n1 n2 d1 d2 s1 s2 (by simp)) ⟨o1,o2,⟨.ref b,H,I,rfl,q b H (fun _ _ e=>e) hb⟩⟩
 ·refine Bj9 pins s σ H _ _ v u Q I rx ry ⟨a,b,xs,ys,rfl,rfl,SqT.of ha,SqT.of hb,e,hz,fun hy=>?_,fun hy p hp=>?_⟩
  ·subst hy;exact q a H (fun _ _ e=>e) (by simpa using ha)
  ·exact q p _ (Bt hp _) Bb
end
section
variable {P:t6}{w:World}{A:p6}{E:z_}{s:q9}
theorem Bv2 (quiet:A.handled=none)(t:Bool)(j u:Addr)(ne:u≠j)(vs:v6):Draws P w A j [j,u] vs.size (fun i v=>vs[i]?=some v) (fun i h=>ItAt t h j u i/\SqA t h u vs) where
 live:=fun i h x=>let ⟨o,e,_⟩:=x.1.obj; ⟨o,e⟩
 frame:=fun i h h' x k=>⟨x.1.stay fun o e=>k j (by simp) o e,x.2.stay fun o e=>k u (by simp) o e⟩
 item:=fun i s Q E hi x q=>next_item x.1 x.2 (x:=vs[i]) (by simp[hi]) fun h' a b=>q _ h' s.toks (by simp[hi]) ⟨a,x.2.stay fun o e=>b.extBut _ _ ne e⟩ b
 done:=fun s Q E x q=>next_end quiet x.1 x.2 (by simp) q
theorem Aq2 (u:Addr)(vs:v6)(n:Nat)(dct:Option Addr)(sl:Array (t_)) :
 Meets (Builtin.«enumerate.__new__» ⟨[.type "enumerate",.ref u],[]⟩) (fun _ R s=>s.heap.get? u=some { cls:=.type "tuple",dict:=dct,data:=.seq vs n,slots:=sl } /\
  R (.ok (.ret (.ref (s.heap.push (itO true u)).objs.size))) { s with heap:=(s.heap.push (itO true u)).push { cls:=.type "enumerate",data:=.fields #[.none,.bool false,.ref s.heap.objs.size,rawInt 0,.none,.none] } }) :=
 .of_wp fun P w A R s h=>by
  obtain⟨hp,g,d,tk,os⟩:=s;obtain⟨e,h⟩:=h;have sub:=sub_enumerate;have tu:Heap.IsTuple (Shared.heap ⟨hp,g,d,tk,os⟩) u vs:=⟨_,e,rfl,n,rfl⟩
  wp_walk using iT e
  refine wpAny_stack_any fun st=>ao ?_
  split
  ·rename_i c _ _ _ _ _
   cases (c==Value.type "enumerate")
   ·wp_walk using iT e,dO tu
    exact⟨_,rfl,h⟩
   ·wp_walk using iT e,dO tu
    exact⟨_,rfl,h⟩
  ·wp_walk using iT e,dO tu
   exact⟨_,rfl,h⟩
theorem Al9 {t:Bool}{u:Addr}{vs:v6}{Q:z_}(p:SqA t s.heap u vs)
 (q:∀h',IsEnum h' (s.heap.objs.size+1) s.heap.objs.size 0 .none->ItAt t h' s.heap.objs.size u 0->(∀c o,s.heap.get? c=some o->h'.get? c=some o)->Q (.ref (s.heap.objs.size+1)) { s with heap:=h' }) :
 wpAny (model P w) A (call (.type "enumerate") [.ref u]) Q E s:=by
 cases t
 ·exact call_enumerate_list p fun h' a b c d=>q h' a b d
 ·obtain⟨⟨c,dct,dt,sl⟩,e,k,n,g⟩:=p
  simp only at k g;subst k g
  apply callType_new F.called_enumerate (by decide) (F.typeCall_enumerate_1 _) (F.newCall_enumerate_1 _) (fun o=>jt o _) F.entry_enumerate_new (Aq2 u vs n dct sl)
  refine⟨e,?_⟩
  have z1:(s.heap.push (itO true u)).objs.size=s.heap.objs.size+1:=b_ ..;have en:IsEnum ((s.heap.push (itO true u)).push { cls:=.type "enumerate",data:=.fields #[.none,.bool false,.ref s.heap.objs.size,rawInt 0,.none,.none] }) (s.heap.push (itO true u)).objs.size s.heap.objs.size 0 .none:=aH _ rfl;rw[z1]at en
  show _/\_
  rw[z1]
  exact⟨⟨_,en,rfl⟩,q _ en (Ap0 (aG _ (aH _ rfl))) fun c o x=>aG _ (aG _ x)⟩
end
def Ite (t:Bool)(a:Addr):It :=
 ⟨
  fun i H=>∃xs x,SqK t H a xs/\xs[i]?=some x,
  fun i H v H'=>∃p x,v=.ref p/\H p=none/\H'=upd H p (.tup [.int i,x])/\∀xs,SqK t H a xs->xs[i]?=some x,
  fun i H=>∃xs,SqK t H a xs/\xs.length<=i⟩
theorem A3u {P:t6}{w:World}{K:v_}{t:Bool}{elts:u5}{kk:Nat}{pos:Pos}{e j a:Addr}(ne:e≠j) :
 Turn P w K (.Tuple elts kk pos) (Ite t a) [e,j] e (fun i h=>(∃old,IsEnum h e j i old)/\ItAt t h j a i) where
 mem:=by simp
 obj:=fun i h st c hc=>by
  simp only[az,aM,aN]at hc
  rcases hc with rfl | rfl
  ·obtain⟨old,q⟩:=st.1;exact⟨_,q,fun v e=>by cases e⟩
  ·obtain⟨o,e,q⟩:=st.2.obj;exact⟨o,e,fun v e=>by rw[q]at e;cases e⟩
 keep:=fun i h h' st k=>by
  obtain⟨⟨old,q⟩,r⟩:=st
  exact⟨⟨old,k e (by simp) _ q⟩,r.stay fun o e=>k j (by simp) o e⟩
 item:=by
  intro X hP hw hK hc i pins s σ H E I hf st hg;subst hP hw hK;obtain⟨xs,x,ha,hx⟩:=hg;obtain⟨⟨old,en⟩,it⟩:=st;obtain⟨its,rv,pa⟩:=ha.its I;obtain⟨u,hu,ru⟩:=rv.get hx
  have off:∀c∈[e,j],a≠c:=fun c m z=>by obtain⟨o,q⟩:=ha.some;rw[z,(hf c m).1]at q;cases q
  have dr:=Bv2 (P:=X.prog) (w:=X.w) (A:=X.A.in1) (I.ok.hd hc) t j a (off j (by simp)) its.toArray
  have li:i<its.toArray.size:=by simpa using (bL.mp hu).1
  refine wpAny_pyNext_enum_itemD dr en ⟨it,pa⟩ li ne (by simp;exact⟨ne,fun z=>off e (by simp) z.symm⟩) fun u' h1 tk pu ou st1 new _ kp=>?_
  have eu:u'=u:=by
   have pu:its.toArray[i]?=some u':=pu;rw[List.getElem?_toArray,hu]at pu;cases pu;rfl
  subst eu
  refine⟨_,rfl,?_⟩
  apply wpAny_letOwnedTupleGo_enum ou;intro h2 en2 sb
  have lt:∀c∈[e,j],c<s.heap.objs.size:=fun c m=>by
   simp only[az,aM,aN]at m
   rcases m with rfl | rfl
   ·exact aA en
   ·obtain⟨o,e,_⟩:=it.obj;exact aA e
  have new2:h2.get? s.heap.objs.size=some { cls:=.type "tuple",data:=.seq #[.int i tk,u'] }:=sb.extBut _ _ (cj (lt e (by simp))) new
  have ok:zG X.prog X.w (upd H s.heap.objs.size (.tup [.int i,x])) h2 s.heap.objs.size (.tup [.int i,x]):=⟨(show 2<=sizeLine by decide),[.int i tk,u'],.cons ⟨tk,rfl⟩ (.cons ru .nil),⟨_,new2,rfl,⟨_,rfl⟩,rfl⟩⟩
  have I2:=I.turnLay (t':=tk+1) hf (h':=h2) (fun c o m q=>sb.extBut _ _ (fun z=>m (by simp[z])) (kp c o (fun z=>m (by simp[z])) (fun z=>m (by simp[z])) q)) (aq _) ok
  refine⟨.ref s.heap.objs.size,_,I2,rfl,⟨_,x,rfl,I.hok.fresh (aq _),rfl,fun xs' h=>?_⟩,⟨⟨u',?_⟩,?_⟩,fun c m=>?_⟩
  ·rw[h.one ha];exact hx
  ·have:IsEnum h2 e j ((i:Int)+1) u':=en2
   simpa using this
  ·exact st1.1.stay fun o q=>sb.extBut _ _ (aJ ne) q
  ·rw[Ak (aV (lt c m))]
   exact(hf c m).1
 done:=by
  intro X hP hw hK hc i pins s σ H E I hf st hg;subst hP hw hK;obtain⟨xs,ha,hl⟩:=hg;obtain⟨⟨old,en⟩,it⟩:=st;obtain⟨its,rv,pa⟩:=ha.its I
  have off:∀c∈[e,j],a≠c:=fun c m z=>by obtain⟨o,q⟩:=ha.some;rw[z,(hf c m).1]at q;cases q
  have ty:s.TypeIs (.ref e) "enumerate" := ⟨_,en,rfl⟩;have ln:=rv.length;unfold pyNext;apply aj;apply cP
  refine cB (name:="__next__") ty F.slot_enumerate_next ?_
  refine bJ F.slot_enumerate_next ty F.entry_enumerate_next ?_ (F.args_enumerate_next_1 _)
  apply aj (m:=field (.ref e) 2);apply bA en rfl (x:=.ref j) rfl;apply aj
  refine next_end (I.ok.hd hc) it pa (by simp;omega) fun h1 x kp hx=>?_
  obtain⟨o,e1,e2⟩:=hx;apply aj
  refine du (T := "StopIteration") (b:=true) ⟨o,e1,e2⟩ fG ?_
  exact ao ⟨rfl,I.turnL (t':=s.toks) hf fun c o m q=>kp c o (fun z=>m (by simp[z])) q⟩
 self:=fun _ _ _ _ _ st h=>let ⟨_,q⟩:=st.1;wpAny_pyIter_enum q h
theorem At3:bootBuiltins "enumerate" = some (.type "enumerate"):=by decide +kernel
section
variable {X:Cx}
def A7b (ta:TA):TI:=fun σ H R=>ta σ H fun vs H1=>∃a,vs=[.ref a]/\∃t xs,SqK t H1 a xs/\R (Ite t a) H1
theorem Bf9 {a:Expr}{ta:TA}{p pos tpos:Pos}{elts:u5}{kk:Nat}(hg:Gl X "enumerate") (hm:X.mg "enumerate" = none) (ha:PA X [a] ta) (hs1:isStar a=false:=by rfl) :
 PI X (.Tuple elts kk tpos) (.Call (.Name "enumerate" p) [a] [] pos) (A7b ta):=by
 intro pins s σ H R I h;have st1:=Gj (es:=[]) (env:=X.env) hs1
 refine Call_ (J9 I hg hm At3 (eO (thn (ha pos pins s σ H _ I h) fun us s1 ⟨vs,H1,I1,r1,q1⟩=>?_) st1 rfl))
 obtain⟨a',rfl,t,xs,h1,q⟩:=q1;obtain⟨u1,rfl,g1⟩:=vals1 r1
 cases (show u1=Value.ref a' from g1)
 obtain⟨its,rv,pa⟩:=h1.its I1
 refine Al9 pa fun h' en it kp=>?_
 apply wpAny_pyIter_enum en
 refine⟨_,_,_,_,H1,rfl,I1.kept (t':=s1.toks) kp,A3u (cj (dN _)),⟨⟨_,en⟩,it⟩,fun c hc=>?_,q⟩
 have le:s1.heap.objs.size<=c:=by
  simp only[az,aM,aN]at hc
  rcases hc with rfl | rfl <;> simp
 exact I1.fpOk le (I1.hok.fresh le)
end
section
variable {X:Cx}{a b:Expr}{ta tb:TE}{pos:Pos}
def A8y (neg:Bool):R2:=fun x y H Q=>∃d ds,Tr H d x/\(Tr H (.list ds) y\/Tr H (.tuple ds) y)/\Flat d/\PyData.canLayAll0 ds=true/\Q (.bl (if neg then !ds.any (fun e=>PyData.eqv e d) else ds.any fun e=>PyData.eqv e d)) H
theorem Yx (hu:X.A.units+64<cLine)(ha:PE X a ta)(hb:PE X b tb)(hm:behindInMarks .NotIn b=false):PE X (.Compare a [.NotIn] [b] pos) (tOp (A8y true) ta tb):=Za (Yi hu) ha hb hm
theorem Ac9 (hu:X.A.units+64<cLine)(ha:PE X a ta)(hb:PE X b tb)(hm:behindInMarks .NotIn b=false):PT X (.Compare a [.NotIn] [b] pos) (Km (tOp (A8y true) ta tb)):=Mh (Yi hu) ha hb hm
end
end L2
set_option autoImplicit true
namespace L2
open PySem PySem.Spec PyProof.Rows
structure QE (X:Cx) (e:Expr) (t:TE):Prop where
 get:PE X e t
structure QT (X:Cx) (e:Expr) (t:TT):Prop where
 get:PT X e t
structure QW (X:Cx) (e:Expr) (t:TT):Prop where
 get:PW X e t
structure QA (X:Cx) (e:(u5)) (t:TA):Prop where
 get:PA X e t
structure QS (X:Cx) (st:Stmt) (t:TS):Prop where
 get:PS X st t
structure QSs (X:Cx) (st:(List Stmt)) (t:TS):Prop where
 get:PSs X st t
structure QG (X:Cx) (e:Expr) (t:TG):Prop where
 get:PG X e t
structure QGs (X:Cx) (e:(u5)) (t:TGs):Prop where
 get:PGs X e t
structure QO (X:Cx) (e:(Option Expr)) (t:TO):Prop where
 get:PO X e t
structure QK (X:Cx) (e:(List Keyword)) (t:TA):Prop where
 get:PK X e t
structure QTs (X:Cx) (e:(u5)) (t:TT):Prop where
 get:PTs X e t
structure QI (X:Cx) (tg iter:Expr) (wi:TI):Prop where
 get:PI X tg iter wi
theorem Aj {i j pos}:QE X (.Constant (.int i) j pos) (tC (.int i)) :=
 ⟨A5p ⟩
theorem Xw {b j pos}:QE X (.Constant (.bool b) j pos) (tC (.bl b)) :=
 ⟨Bm0 ⟩
theorem Vm {j pos}:QE X (.Constant .none j pos) (tC .non) :=
 ⟨A5l ⟩
theorem Fg {x j pos}:QE X (.Constant (.str x) j pos) (tC (.str x)) :=
 ⟨Ba5 ⟩
theorem Ab2 {x:Str}{v:V}{u:Value}{pos:Pos}(hg:Gl X x)(hm:X.mg x=some u)(r:RelV v u)(hd:(x==("__debug__" : Str))=false:=by decide):QE X (.Name x pos) (tC v) :=
 ⟨Bk7 (hg:=hg) (hm:=hm) (r:=r) (hd:=hd)⟩
theorem Eo {x:Str}{v:V}{u:Value}{pos:Pos}(hg:Gl X x)(hm:X.mg x=none)(hv:bootBuiltins x=some u)(r:RelV v u)(hn:x ≠ "__name__" := by decide) (hd:(x==("__debug__" : Str))=false:=by decide):QE X (.Name x pos) (tC v) :=
 ⟨Bg7 (hg:=hg) (hm:=hm) (hv:=hv) (r:=r) (hn:=hn) (hd:=hd)⟩
theorem Be6 (ha:QT X a tA):QW X (.BoolOp .And [a] pos) tA :=
 ⟨Bc4 (ha:=ha.get)⟩
theorem Y8 (ha:QT X a tA):QW X (.BoolOp .Or [a] pos) tA :=
 ⟨Bu9 (ha:=ha.get)⟩
theorem Bv3 (ha:QT X a tA)(hb:QW X (.BoolOp .And (b::rst) pos) tB'):QW X (.BoolOp .And (a::b::rst) pos) (Bs7 tA tB') :=
 ⟨Bx4 (ha:=ha.get) (hb:=hb.get)⟩
theorem Ax7 (ha:QT X a tA)(hb:QW X (.BoolOp .Or (b::rst) pos) tB'):QW X (.BoolOp .Or (a::b::rst) pos) (tOr tA tB') :=
 ⟨B0e (ha:=ha.get) (hb:=hb.get)⟩
theorem Ao8 (ha:QT X a tA):QT X (.UnaryOp .Not a pos) (Bx6 tA) :=
 ⟨Bp6 (ha:=ha.get)⟩
theorem Zj {op}{t:TE}(h:QE X a t):QE X (.BoolOp op [a] pos) t :=
 ⟨Bs3 (h:=h.get)⟩
theorem Vi (ha:QE X a ta)(hb:QE X (.BoolOp .And (b::rst) pos) tb):QE X (.BoolOp .And (a::b::rst) pos) (A5s ta tb) :=
 ⟨Br4 (ha:=ha.get) (hb:=hb.get)⟩
theorem Bo6 (ha:QE X a ta):QE X (.UnaryOp .Not a pos) (A8j ta) :=
 ⟨Bn9 (ha:=ha.get)⟩
theorem A4v {c:Expr}(hc:QT X c tA)(ha:QE X a ta)(hb:QE X b tb):QE X (.IfExp c a b pos) (tIf tA ta tb) :=
 ⟨A7o (hc:=hc.get) (ha:=ha.get) (hb:=hb.get)⟩
theorem By  : QSs X [] A9w :=
 ⟨Bc3 ⟩
theorem Ag (h1:QS X stm t)(h2:QSs X rst u):QSs X (stm::rst) (A7v t u) :=
 ⟨A7d (h1:=h1.get) (h2:=h2.get)⟩
theorem Am (h1:QS X stm t):QSs X [stm] t :=
 ⟨Be7 (h1:=h1.get)⟩
theorem Jv (he:QE X e te)(hs:swapsWith e none pos.line X.env=pure false:=by rfl):QS X (.Expr e pos) (A0g te) :=
 ⟨Bi5 (he:=he.get) (hs:=hs)⟩
theorem Be (he:QE X e te):QS X (.Return (some e) pos) (Bp9 te) :=
 ⟨Bn5 (he:=he.get)⟩
theorem Er {c:Expr}{a b:List Stmt}{tc:TT}(hc:QT X c tc)(ha:QSs X a t)(hb:QSs X b u):QS X (.If c a b pos) (Bx9 tc t u) :=
 ⟨B1o (hc:=hc.get) (ha:=ha.get) (hb:=hb.get)⟩
theorem K4  : QS X stm Aq0 :=
 ⟨A8i ⟩
theorem Bc {i:Nat}{x:Str}(hN:X.N.Nodup)(hi:X.N[i]?=some x)(hx:Loc X.env.scope x)(hf:X.fn x=true\/X.env.scope.names.lookup x=some .local:=by first | exact .inl rfl | exact .inr rfl | assumption):QG X (.Name x pos) (Mp i) :=
 ⟨Bl2 (hN:=hN) (hi:=hi) (hx:=hx) (hf:=hf)⟩
theorem Jy  : QGs X [] A3v :=
 ⟨Bb6 ⟩
theorem Dh {e:Expr}{es:u5}{t:TG}{u:TGs}(h1:QG X e t)(h2:QGs X es u)(hs:(assignEach (e::es) X.env).map (·.2)=assign e X.env::(assignEach es X.env).map (·.2):=by rfl):QGs X (e::es) (Wg t u) :=
 ⟨A9b (h1:=h1.get) (h2:=h2.get) (hs:=hs)⟩
theorem M5 {Kq:v_}(hKq:X.K=Kq){es:u5}{k:Nat}{t:TGs}{n:Nat}(hc:X.calm=true)(h:QGs X es t)(hn:(assignEach es X.env).length=n:=by rfl)(hst:(assignEach es X.env).findIdx? (·.1)=none:=by rfl):QG X (.Tuple es k pos) (Ba3 Kq n t):=by
 subst hKq;exact⟨Br0 (hc:=hc) (h:=h.get) (hn:=hn) (hst:=hst)⟩
theorem A6c {o i:Expr}{to ti:TE}{t:Bj4}(ho:QE X o to)(hi:QE X i ti)(hs:Bo9 X t)(ha:∀v,assign (.Subscript o i pos) X.env v=(do
 let ov <- holding [v] (eval o X.env)
 let iv <- holding [v,ov] (eval i X.env)
 standAt pos
 holding [v,ov,iv] (setItem ov iv v)
 release [v,ov,iv] []):=by intro _;rfl):QG X (.Subscript o i pos) (Bz6 to ti t) :=
 ⟨Bq2 (ho:=ho.get) (hi:=hi.get) (hs:=hs) (ha:=ha)⟩
theorem Ac8 {tg e:Expr}{te:TE}{g:TG}(he:QE X e te)(hg:QG X tg g)(hs:swapsWithSole [tg] e pos.line X.env=pure false:=by rfl)(hw:swappedStores [tg] e X.env=pure none:=by rfl)(h1:(assignEach [tg] X.env).map (·.2)=[assign tg X.env]:=by rfl):QS X (.Assign [tg] e pos) (Yz te g) :=
 ⟨Bv4 (he:=he.get) (hg:=hg.get) (hs:=hs) (hw:=hw) (h1:=h1)⟩
theorem Bl {i:Nat}{x:Str}{e:Expr}{te:TE}{pos':Pos}(hN:X.N.Nodup)(hi:X.N[i]?=some x)(hx:Loc X.env.scope x)(he:QE X e te)(hs:swapsWith e (some (.Name x pos')) pos.line X.env=pure false:=by rfl)(hf:X.fn x=true\/X.env.scope.names.lookup x=some .local:=by first | exact .inl rfl | exact .inr rfl | assumption):QS X (.Assign [.Name x pos'] e pos) (Yz te (Mp i)) :=
 ⟨Bw9 (hN:=hN) (hi:=hi) (hx:=hx) (he:=he.get) (hs:=hs) (hf:=hf)⟩
theorem Bx1 {i j:Nat}{x y:Str}{a b:Expr}{ta:TA}{px py pt:Pos}{kt k2 pt2}(hc:X.calm=true)(hN:X.N.Nodup)(hi:X.N[i]?=some x)(hj:X.N[j]?=some y)(hij:i≠j)(hx:X.env.scope.names.lookup x=some .local)(hy:X.env.scope.names.lookup y=some .local)(ha:QA X [a,b] ta)(hw:swappedStores [.Tuple [.Name x px,.Name y py] kt pt] (.Tuple [a,b] k2 pt2) X.env=pure (some [x,y]))(hs:swapsWithSole [.Tuple [.Name x px,.Name y py] kt pt] (.Tuple [a,b] k2 pt2) pos.line X.env=pure false:=by rfl):QS X (.Assign [.Tuple [.Name x px,.Name y py] kt pt] (.Tuple [a,b] k2 pt2) pos) (Bw8 i j ta) :=
 ⟨Bo8 (hc:=hc) (hN:=hN) (hi:=hi) (hj:=hj) (hij:=hij) (hx:=hx) (hy:=hy) (ha:=ha.get) (hw:=hw) (hs:=hs)⟩
theorem Ew {Kq:v_}(hKq:X.K=Kq){tg l:Expr}{tl:TE}(hl:QE X l tl):QI X tg l (Bp4 Kq tl):=by
 subst hKq;exact⟨Bv9 (hl:=hl.get)⟩
theorem Kz {a:Expr}{ta:TA}{p pos:Pos}(hg:Gl X "range") (hm:X.mg "range" = none) (ha:QA X [a] ta) (hs:starEach [a] X.env=[(false,eval a X.env)]:=by rfl):QI X tg (.Call (.Name "range" p) [a] [] pos) (A6n ta) :=
 ⟨A3n (hg:=hg) (hm:=hm) (ha:=ha.get) (hs:=hs)⟩
theorem Jr {iter:Expr}{body:List Stmt}{wi:TI}{g:TG}{tb:TS}{pos:Pos}(hp:PassesOwn (model X.prog X.w) X.A X.env X.xe)(hc:X.calm=true)(hi:QI X tg iter wi)(hg:QG X tg g)(hb:QSs X body tb)(hs:∀x,foldedSetIterable iter X.env x=pure x:=by intro _;rfl):QS X (.For tg iter body [] pos) (Bl5 wi g tb) :=
 ⟨Bw2 (hp:=hp) (hc:=hc) (hi:=hi.get) (hg:=hg.get) (hb:=hb.get) (hs:=hs)⟩
theorem Mj {e:Expr}{t:TE}(h:QE X e t)(he:∀whole,isTrue e X.env whole=(do let v <- whole;standAt e.pos;holding [v] (truthy v)):=by intro _;rfl):QT X e (tB t) :=
 ⟨Bo5 (h:=h.get) (he:=he)⟩
theorem Ae  : QA X [] Io :=
 ⟨At7 ⟩
theorem Af (ha:QE X e te)(hr:QA X es t)(hs:isStar e=false:=by rfl):QA X (e::es) (Dz te t) :=
 ⟨B1z (ha:=ha.get) (hr:=hr.get) (hs:=hs)⟩
theorem Cm {x1}(h:QA X es t):QE X (.Tuple es x1 pos) (Bd4 t) :=
 ⟨Bz8 (h:=h.get)⟩
theorem Dr (h:QA X es t):QE X (.List es pos) (Bj8 t) :=
 ⟨Bo7 (h:=h.get)⟩
theorem A5j (F:FnOk X.prog X.w X.K X.mg X.base CX k f fd ps sp)(hr:Room k X.A)(hg:Gl X x)(hm:X.mg x=some (.ref f))(hk:PySem.W.keepIn X.K (.ref f)=true)(hb:Binds X.K fd ps ds)(hd:Vals dvs ds)(hx:Wf CX X E)(ha:QA X (e::es) t)(hdb:(x==("__debug__" : Str))=false:=by decide) (hn:noStar (e::es)=true:=by rfl):QE X (.Call (.Name x p) (e::es) [] pos) (Xz sp dvs E t) :=
 ⟨A6d (F:=F) (hr:=hr) (hg:=hg) (hm:=hm) (hk:=hk) (hb:=hb) (hd:=hd) (hx:=hx) (ha:=ha.get) (hdb:=hdb) (hn:=hn)⟩
theorem A5t  : QK X [] Io :=
 ⟨Bn6 ⟩
theorem Ax0 (ha:QE X e te)(hr:QK X kws t):QK X (⟨nm,e,kpos⟩::kws) (Dz te t) :=
 ⟨Bj3 (ha:=ha.get) (hr:=hr.get)⟩
theorem T6  : QO X none Zq :=
 ⟨Bc8 ⟩
theorem T8 (h:QE X e te):QO X (some e) (A4t te) :=
 ⟨Bg4 (h:=h.get)⟩
theorem A5i {r:V->p7->p7->Hp->VK->Prop}(hr:SlR X r)(he:QE X e te)(hl:QO X low tl)(hu:QO X hi th):QE X (.Subscript e (.Slice low hi none p2) pos) (tSl r te tl th) :=
 ⟨A6z (hr:=hr) (he:=he.get) (hl:=hl.get) (hu:=hu.get)⟩
theorem Bm6 {r:R2}(hr:IxR X r)(ha:QE X a ta)(hb:QE X b tb)(hs:Ln b):QE X (.Subscript a b pos) (tOp r ta tb) :=
 ⟨B1u (hr:=hr) (ha:=ha.get) (hb:=hb.get) (hs:=hs)⟩
theorem Am5 {Kq:v_}(hKq:X.K=Kq)(pa:PlainAttrs T)(slot:Slot T name idn)(hty:typeOf (.builtin idn)=pure (.type "method_descriptor")) (hm:MtR X idn r) (ho:QE X o to) (ha:QA X (e::es) t) (hbase:attributeBase o name X.env (eval o X.env)=eval o X.env:=by rfl) (hfew:((backTo cpos (starEach (e::es) X.env)).all (fun x=>!x.1)&&(backToKw cpos (keywordEach [] X.env)).all (fun x=>x.1.isSome)
 && decide ((e::es).length+([]:List Keyword).length+(if ([]:List Keyword).isEmpty then 0 else 1)<30))=true:=by rfl) (hline:(apos.endLine==cpos.line)=true:=by rfl) (hs:starEach (e::es) X.env=(false,eval e X.env)::starEach es X.env:=by rfl) (hplain:(backTo cpos (starEach es X.env)).any (·.1)=false:=by rfl):QE X (.Call (.Attribute o name apos) (e::es) [] cpos) (tBM Kq T r to t):=by
 subst hKq;exact⟨Bm2 (pa:=pa) (slot:=slot) (hty:=hty) (hm:=hm) (ho:=ho.get) (ha:=ha.get) (hbase:=hbase) (hfew:=hfew) (hline:=hline) (hs:=hs) (hplain:=hplain)⟩
theorem K9 {Kq:v_}(hKq:X.K=Kq)(ho:QE X a ta)(hv:QE X e te)(hbase:attributeBase a "append" X.env (eval a X.env)=eval a X.env:=by rfl) (hfew:((backTo cpos (starEach [e] X.env)).all (fun x=>!x.1)&&(backToKw cpos (keywordEach [] X.env)).all (fun x=>x.1.isSome)
 && decide ([e].length+([]:List Keyword).length+(if ([]:List Keyword).isEmpty then 0 else 1)<30))=true:=by rfl) (hline:(apos.endLine==cpos.line)=true:=by rfl) (hns:isStar e=false:=by rfl):QE X (.Call (.Attribute a "append" apos) [e] [] cpos) (tBM Kq "list" rAppF ta (Dz te Io)):=by
 subst hKq;exact⟨A3p (ho:=ho.get) (hv:=hv.get) (hbase:=hbase) (hfew:=hfew) (hline:=hline) (hns:=hns)⟩
theorem Dv {X:Cx}:QTs X [] Bw4 :=
 ⟨Bk6 ⟩
theorem Bg9 {X:Cx}{c:Expr}{t:TT}(h:QT X c t):QTs X [c] t :=
 ⟨Bk9 (h:=h.get)⟩
theorem Jq (L:J2 X N' idx scope)(hc:X.calm=true)(hi:QI X tg iter wi)(hg:∀cl C s₀ H₀ ex,QG (Fw X N' scope cl C s₀ H₀ ex) tg g)(ht:∀cl C s₀ H₀ ex,QTs (Fw X N' scope cl C s₀ H₀ ex) ifs tc)(he:∀cl C s₀ H₀ ex,QE (Fw X N' scope cl C s₀ H₀ ex) elt te)(hs:∀x,foldedSetIterable iter X.env x=pure x:=by intro _;rfl):QE X (.ListComp elt [⟨tg,iter,ifs,0⟩] scope pos) (tLC idx wi g tc te) :=
 ⟨B1s (L:=L) (hc:=hc) (hi:=hi.get) (hg:=fun cl C s₀ H₀ ex=>(hg cl C s₀ H₀ ex).get) (ht:=fun cl C s₀ H₀ ex=>(ht cl C s₀ H₀ ex).get) (he:=fun cl C s₀ H₀ ex=>(he cl C s₀ H₀ ex).get) (hs:=hs)⟩
theorem Ms {i:Nat}{y:Str}{py spos:Pos}(hN:X.N.Nodup)(hi':X.N[i]?=some y)(hy:Loc X.env.scope y)(L:J2 X N' idx scope)(hc:X.calm=true)(hi:QI X tg iter wi)(hg:∀cl C s₀ H₀ ex,QG (Fw X N' scope cl C s₀ H₀ ex) tg g)(ht:∀cl C s₀ H₀ ex,QTs (Fw X N' scope cl C s₀ H₀ ex) ifs tc)(he:∀cl C s₀ H₀ ex,QE (Fw X N' scope cl C s₀ H₀ ex) elt te)(hsw:swapsWith (.ListComp elt [⟨tg,iter,ifs,0⟩] scope pos) (some (.Name y py)) spos.line X.env=pure true:=by rfl)(hf:X.fn y=true\/X.env.scope.names.lookup y=some .local:=by first | exact .inl rfl | exact .inr rfl | assumption)(hs:∀x,foldedSetIterable iter X.env x=pure x:=by intro _;rfl):QS X (.Assign [.Name y py] (.ListComp elt [⟨tg,iter,ifs,0⟩] scope pos) spos) (Yz (tLC idx wi g tc te) (Mp i)) :=
 ⟨A5m (hN:=hN) (hi':=hi') (hy:=hy) (L:=L) (hc:=hc) (hi:=hi.get) (hg:=fun cl C s₀ H₀ ex=>(hg cl C s₀ H₀ ex).get) (ht:=fun cl C s₀ H₀ ex=>(ht cl C s₀ H₀ ex).get) (he:=fun cl C s₀ H₀ ex=>(he cl C s₀ H₀ ex).get) (hsw:=hsw) (hf:=hf) (hs:=hs)⟩
theorem Jb (ha:QE X a ta)(hb:QE X b tb):QE X (.BinOp a .Sub b pos) (tOp (rI0 fun i j=>.int (i-j)) ta tb) :=
 ⟨A3x (ha:=ha.get) (hb:=hb.get)⟩
theorem Ha (ha:QE X a ta)(hb:QE X b tb):QE X (.BinOp a .Mult b pos) (tOp (rI CMul fun i j=>.int (i*j)) ta tb) :=
 ⟨A1c (ha:=ha.get) (hb:=hb.get)⟩
theorem Wr (ha:QE X a ta)(hb:QE X b tb):QE X (.BinOp a .FloorDiv b pos) (tOp (rI A5o fun i j=>.int (i / j)) ta tb) :=
 ⟨Aq5 (ha:=ha.get) (hb:=hb.get)⟩
theorem Hb (ha:QE X a ta)(hb:QE X b tb):QE X (.BinOp a .Mod b pos) (tOp (rI (fun _ j=>0<j) fun i j=>.int (i % j)) ta tb) :=
 ⟨A1j (ha:=ha.get) (hb:=hb.get)⟩
theorem Rf (ha:QE X a ta)(hb:QE X b tb):QE X (.BinOp a .Pow b pos) (tOp (rI A8g fun i j=>.int (i ^ j.toNat)) ta tb) :=
 ⟨A0r (ha:=ha.get) (hb:=hb.get)⟩
theorem Xu (ha:QE X a ta)(hb:QE X b tb):QE X (.BinOp a .Mult b pos) (tOp (Bb8) ta tb) :=
 ⟨A1i (ha:=ha.get) (hb:=hb.get)⟩
theorem Af6 (ha:QE X a ta)(hb:QE X b tb):QT X (.Compare a [.Lt] [b] pos) (Km (tOp (rI0 fun i j=>.bl (decide (i<j))) ta tb)) :=
 ⟨A8v (ha:=ha.get) (hb:=hb.get)⟩
theorem Ve (ha:QE X a ta)(hb:QE X b tb):QT X (.Compare a [.Gt] [b] pos) (Km (tOp (rI0 fun i j=>.bl (decide (j<i))) ta tb)) :=
 ⟨A8q (ha:=ha.get) (hb:=hb.get)⟩
theorem A9l (ha:QE X a ta)(hb:QE X b tb):QE X (.Compare a [.GtE] [b] pos) (tOp (rI0 fun i j=>.bl (decide (j<=i))) ta tb) :=
 ⟨A4q (ha:=ha.get) (hb:=hb.get)⟩
theorem Sq (ha:QE X a ta)(hb:QE X b tb):QT X (.Compare a [.Is] [b] pos) (Km (tOp (fun x y H Q=>y=.non/\Q (.bl (decide (x=.non))) H) ta tb)) :=
 ⟨A1w (ha:=ha.get) (hb:=hb.get)⟩
theorem Tc {Kq:v_}(hKq:X.K=Kq)(hgl:Gl X "abs") (hm:X.mg "abs" = none) (ha:QA X (e::es) t) (hns:noStar (e::es)=true:=by rfl):QE X (.Call (.Name "abs" p) (e::es) [] pos) (tCB (O7 Kq) t):=by
 subst hKq;exact⟨Ag3 (hgl:=hgl) (hm:=hm) (ha:=ha.get) (hns:=hns)⟩
theorem Cg {Kq:v_}(hKq:X.K=Kq)(hgl:Gl X "isinstance") (hm:X.mg "isinstance" = none) (ha:QA X (e::es) t) (hns:noStar (e::es)=true:=by rfl):QE X (.Call (.Name "isinstance" p) (e::es) [] pos) (tCB (Lr Kq) t):=by
 subst hKq;exact⟨Ai1 (hgl:=hgl) (hm:=hm) (ha:=ha.get) (hns:=hns)⟩
theorem Y4 {Kq:v_}(hKq:X.K=Kq)(hgl:Gl X "isinstance") (hm:X.mg "isinstance" = none) (ha:QA X (e::es) t) (hns:noStar (e::es)=true:=by rfl):QE X (.Call (.Name "isinstance" p) (e::es) [] pos) (tCB (Jx Kq) t):=by
 subst hKq;exact⟨Ab8 (hgl:=hgl) (hm:=hm) (ha:=ha.get) (hns:=hns)⟩
theorem Qn {Kq:v_}(hKq:X.K=Kq)(hc:X.calm=true)(hgl:Gl X "all") (hm:X.mg "all" = none) (ha:QA X (e::es) t) (hns:noStar (e::es)=true:=by rfl):QE X (.Call (.Name "all" p) (e::es) [] pos) (tCB (M9 Kq) t):=by
 subst hKq;exact⟨Ac2 (hc:=hc) (hgl:=hgl) (hm:=hm) (ha:=ha.get) (hns:=hns)⟩
theorem Iw {Kq:v_}(hKq:X.K=Kq)(hgl:Gl X "int") (hm:X.mg "int" = none) (ha:QA X (e::es) t) (hns:noStar (e::es)=true:=by rfl):QE X (.Call (.Name "int" p) (e::es) [] pos) (tCB (Nt Kq) t):=by
 subst hKq;exact⟨Zd (hgl:=hgl) (hm:=hm) (ha:=ha.get) (hns:=hns)⟩
theorem Aq {Kq:v_}(hKq:X.K=Kq)(hgl:Gl X "tuple") (hm:X.mg "tuple" = none) (ha:QA X (e::es) t) (hns:noStar (e::es)=true:=by rfl):QE X (.Call (.Name "tuple" p) (e::es) [] pos) (tCB (Ih Kq) t):=by
 subst hKq;exact⟨Rv (hgl:=hgl) (hm:=hm) (ha:=ha.get) (hns:=hns)⟩
theorem Fp {Kq:v_}(hKq:X.K=Kq)(hgl:Gl X "list") (hm:X.mg "list" = none) (ha:QA X (e::es) t) (hns:noStar (e::es)=true:=by rfl):QE X (.Call (.Name "list" p) (e::es) [] pos) (tCB (Jg Kq) t):=by
 subst hKq;exact⟨Tn (hgl:=hgl) (hm:=hm) (ha:=ha.get) (hns:=hns)⟩
theorem Zb {Kq:v_}(hKq:X.K=Kq)(hc:X.calm=true)(hgl:Gl X "min") (hm:X.mg "min" = none) (ha:QA X (e::es) t) (hns:noStar (e::es)=true:=by rfl):QE X (.Call (.Name "min" p) (e::es) [] pos) (tCB (Ju Kq) t):=by
 subst hKq;exact⟨Zu (hc:=hc) (hgl:=hgl) (hm:=hm) (ha:=ha.get) (hns:=hns)⟩
theorem Bu8 {a b:Expr}{ta:TA}{p pos tpos:Pos}{elts:u5}{kk:Nat}(hg:Gl X "zip") (hm:X.mg "zip" = none) (ha:QA X [a,b] ta) (hs1:isStar a=false:=by rfl) (hs2:isStar b=false:=by rfl):QI X (.Tuple elts kk tpos) (.Call (.Name "zip" p) [a,b] [] pos) (Bu6 ta) :=
 ⟨Bp7 (hg:=hg) (hm:=hm) (ha:=ha.get) (hs1:=hs1) (hs2:=hs2)⟩
theorem Bc6 {a:Expr}{ta:TA}{p pos tpos:Pos}{elts:u5}{kk:Nat}(hg:Gl X "enumerate") (hm:X.mg "enumerate" = none) (ha:QA X [a] ta) (hs1:isStar a=false:=by rfl):QI X (.Tuple elts kk tpos) (.Call (.Name "enumerate" p) [a] [] pos) (A7b ta) :=
 ⟨Bf9 (hg:=hg) (hm:=hm) (ha:=ha.get) (hs1:=hs1)⟩
theorem Qd (hu:X.A.units+64<cLine)(ha:QE X a ta)(hb:QE X b tb)(hm:behindInMarks .NotIn b=false):QE X (.Compare a [.NotIn] [b] pos) (tOp (A8y true) ta tb) :=
 ⟨Yx (hu:=hu) (ha:=ha.get) (hb:=hb.get) (hm:=hm)⟩
theorem Lp (hu:X.A.units+64<cLine)(ha:QE X a ta)(hb:QE X b tb)(hm:behindInMarks .NotIn b=false):QT X (.Compare a [.NotIn] [b] pos) (Km (tOp (A8y true) ta tb)) :=
 ⟨Ac9 (hu:=hu) (ha:=ha.get) (hb:=hb.get) (hm:=hm)⟩
theorem Rx {X:Cx}{es:u5}{vs:m7}(h:Qy es=some vs):QA X es (tK vs):=⟨X5 h⟩
theorem QW.qt {X:Cx}{e:Expr}{t:TT}(h:QW X e t):QT X e t:=⟨h.get.pt⟩
theorem qv (i:Nat){x:Str}{pos:Pos}(hN:X.N[i]?=some x:=by rfl)(hv:Vis X.env.scope x:=by first | exact Or.inl rfl | exact Or.inr (Or.inl rfl) | exact Or.inr (Or.inr rfl))(hd:(x==("__debug__" : Str))=false:=by decide) (hcd:(x==("__classdict__" : Str))=false:=by decide):QE X (.Name x pos) (A3a i):=⟨A4e hN hv hd hcd⟩
end L2
namespace L2
open PySem
theorem Gk {X:Cx}{st:List Stmt}{t:TS}{D:Ends}{σ:St}{H:Hp}(h:QSs X st t)(k:t D σ H):∃t,PSs X st t/\t D σ H:=⟨t,h.get,k⟩
theorem Tw:Fb "NoneType" "int" = some false:=by with_unfolding_all rfl
theorem Tv:Fb "NoneType" "str" = some false:=by with_unfolding_all rfl
theorem Rm:Fb "NoneType" "bool" = some false:=by with_unfolding_all rfl
theorem Rh:Fb "NoneType" "list" = some false:=by with_unfolding_all rfl
theorem Qv:Fb "NoneType" "tuple" = some false:=by with_unfolding_all rfl
theorem Al7:Fb "bool" "int" = some true:=by with_unfolding_all rfl
theorem Ag6:Fb "bool" "str" = some false:=by with_unfolding_all rfl
theorem Ze:Fb "bool" "bool" = some true:=by with_unfolding_all rfl
theorem Y6:Fb "bool" "list" = some false:=by with_unfolding_all rfl
theorem Xj:Fb "bool" "tuple" = some false:=by with_unfolding_all rfl
theorem Ar9:Fb "int" "int" = some true:=by with_unfolding_all rfl
theorem Ao5:Fb "int" "str" = some false:=by with_unfolding_all rfl
theorem Al8:Fb "int" "bool" = some false:=by with_unfolding_all rfl
theorem Ae1:Fb "int" "list" = some false:=by with_unfolding_all rfl
theorem Zf:Fb "int" "tuple" = some false:=by with_unfolding_all rfl
theorem At0:Fb "str" "int" = some false:=by with_unfolding_all rfl
theorem Ap3:Fb "str" "str" = some true:=by with_unfolding_all rfl
theorem Af1:Fb "str" "bool" = some false:=by with_unfolding_all rfl
theorem Ah2:Fb "str" "list" = some false:=by with_unfolding_all rfl
theorem Ac7:Fb "str" "tuple" = some false:=by with_unfolding_all rfl
theorem Ah3:Fb "list" "int" = some false:=by with_unfolding_all rfl
theorem Ag4:Fb "list" "str" = some false:=by with_unfolding_all rfl
theorem Ad1:Fb "list" "bool" = some false:=by with_unfolding_all rfl
theorem Ab7:Fb "list" "list" = some true:=by with_unfolding_all rfl
theorem Xd:Fb "list" "tuple" = some false:=by with_unfolding_all rfl
theorem Ad5:Fb "tuple" "int" = some false:=by with_unfolding_all rfl
theorem Y5:Fb "tuple" "str" = some false:=by with_unfolding_all rfl
theorem Xf:Fb "tuple" "bool" = some false:=by with_unfolding_all rfl
theorem Xk:Fb "tuple" "list" = some false:=by with_unfolding_all rfl
theorem V8:Fb "tuple" "tuple" = some true:=by with_unfolding_all rfl
section
variable {K:v_}{H:Hp}{Q:VK}{x:V}{T:String}{i j:Int}{a p:Addr}
theorem By6 {xs:m7}(h:H a=some (.lst xs)):Ol H (.ref a)=some "list" := by simp only[Ol,h]
theorem Bs6 {xs:m7}(h:H a=some (.tup xs)):Ol H (.ref a)=some "tuple" := by simp only[Ol,h]
theorem Bk1 {xs:m7}(h:H a=some (.lst xs)):A3s H (.ref a)=some xs.length:=by simp only[A3s,h]
theorem Bd3 {xs:m7}(h:H a=some (.tup xs)):A3s H (.ref a)=some xs.length:=by simp only[A3s,h]
end
abbrev g2 (K:v_)(i j:Nat):TG:=Ba3 K 2 (Wg (Mp i) (Wg (Mp j) A3v))
mutual
def noL:q_->Bool
 | .none=>true
 | .bool _=>true
 | .int _=>true
 | .str _=>true
 | .tuple ds=>Rb ds
 | .list _=>false
 | .dict _=>false
def Rb:w5->Bool
 | []=>true
 | d::r=>noL d&&Rb r
end
theorem TrL.get {H:Hp}:∀{ds:w5}{vs:m7}{k:Nat}{v:V},TrL H ds vs->vs[k]?=some v->∃d,ds[k]?=some d/\Tr H d v
 | [],_,k,v,h,e=>by cases (show _=[] from h);simp at e
 | d::r,_,0,v,⟨_,_,rfl,q,_⟩,e=>by simp at e;subst e;exact⟨d,rfl,q⟩
 | d::r,_,k+1,v,⟨_,_,rfl,_,q⟩,e=>by simp at e;simpa using TrL.get q e
theorem TrL.got {H:Hp}:∀{ds:w5}{vs:m7}{k:Nat}{d:q_},TrL H ds vs->ds[k]?=some d->∃v,vs[k]?=some v/\Tr H d v
 | [],_,k,d,h,e=>by simp at e
 | d::r,_,0,_,⟨v,_,rfl,q,_⟩,e=>by simp at e;subst e;exact⟨v,rfl,q⟩
 | d::r,_,k+1,_,⟨_,_,rfl,_,q⟩,e=>by simp at e;simpa using TrL.got q e
theorem TrL.app {H:Hp}:∀{ds es:w5}{vs us:m7},TrL H ds vs->TrL H es us->TrL H (ds++es) (vs++us)
 | [],es,_,us,h,q=>by cases (show _=[] from h);exact q
 | d::r,es,_,us,⟨v,vr,rfl,q1,q2⟩,q=>⟨v,vr++us,rfl,q1,TrL.app q2 q⟩
theorem TrL.one {H:Hp}{d:q_}{v:V}(h:Tr H d v):TrL H [d] [v]:=⟨v,[],rfl,h,rfl⟩
theorem Aa3 {ds:w5}(h:∀d∈ds,noL d=true):Rb ds=true:=by
 induction ds with
 | nil=>rfl
 | cons a r ih=>show (noL a&&Rb r)=true;rw[h a (.head _),ih fun d hd=>h d (.tail _ hd)];rfl
end L2
namespace L2
open PySem PySem.Spec PyProof.Rows
end L2
namespace L2
open PySem
mutual
def wt:q_->Nat
 | .none=>4
 | .bool _=>5
 | .int _=>1921
 | .str x=>10*x.length+2
 | .list xs=>Jt xs+4
 | .tuple xs=>Jt xs+4
 | .dict _=>0
def Jt:w5->Nat
 | []=>0
 | x::xs=>wt x+2+Jt xs
end
theorem Ae5:∀(ts:v4) (k:Nat) (acc:Str),(textFrom k acc ts).length<=acc.length+(ts.map fun t=>t.length+2).sum
 | [],k,acc=>aq _
 | t::r,k,acc=>by
  have ih:=Ae5 r (k+1) (acc++(if k>0 then ", " else "" : String)++t)
  have e:(acc++(if k>0 then ", " else "" : String)++t).length<=acc.length+2+t.length:=by
   rw[gY,gY]
   split
   ·exact aq _
   ·show acc.length+0+t.length<=_;omega
  show (textFrom (k+1) (acc++(if k>0 then ", " else "" : String)++t) r).length<=_
  rw[aD,List.sum_cons];omega
theorem A7p (ts:v4):(listText ts).length<=(ts.map fun t=>t.length+2).sum+4:=by
 unfold listText;rw[gY]
 have:=Ae5 ts 0 "["
 have e1:(("[" : String):Str).length=1:=rfl
 have e2:(("]" : String):Str).length=1:=rfl
 omega
theorem Yu:∀ts:v4,piled ts=(ts.map fun t=>t.length+2).sum
 | []=>rfl
 | t::r=>by rw[piled_cons,aD,List.sum_cons,Yu r]
theorem A1y (ts:v4):(tupleText ts).length<=(ts.map fun t=>t.length+2).sum+4:=by
 unfold tupleText;rw[gY,gY]
 have e1:(("(" : String):Str).length=1:=rfl
 have e2:(if ts.length==1 then ((",)" : String):Str) else ((")" : String):Str)).length<=2:=by split <;> decide
 have e3:((if ts.length==1 then ",)" else ")" : String):Str).length<=2:=by split <;> decide
 by_cases h:ts=[]
 ·subst h;show 1+0+_<=_;simp only[cN,List.sum_nil]at *;omega
 ·have:=join_length_add ts h
  rw[Yu]at this;omega
mutual
theorem An0:∀d:q_,d.canLay0=true->d.showable=true->d.shown.length<=wt d
 | .none,_,_=>by decide
 | .bool b,_,_=>by cases b <;> decide
 | .int i,_,h=>PyProof.Rows.int_text_len_1921 (by simpa[PyData.showable] using h)
 | .str x,h,_=>StrLaws.reprText_len x fun c hc=>by
  have h:x.cps.all (·<0x110000)=true:=h
  have:=Array.all_eq_true_iff_forall_mem.mp h c (Array.mem_toList_iff.mp hc);have:=aX this;omega
 | .list xs,h,s=>au (A7p _) (ju (Mv xs h s) 4)
 | .tuple xs,h,s=>au (A1y _) (ju (Mv xs h s) 4)
 | .dict kv,h,_=>nomatch h
theorem Mv:∀ds:w5,PyData.canLayAll0 ds=true->PyData.showableAll ds=true->((PyData.shownAll ds).map fun t=>t.length+2).sum<=Jt ds
 | [],_,_=>aq _
 | d::r,h,s=>by
  obtain⟨h1,h2⟩:=aB.mp (show (d.canLay0&&PyData.canLayAll0 r)=true from h)
  obtain⟨s1,s2⟩:=aB.mp (show (d.showable&&PyData.showableAll r)=true from s)
  have a:=An0 d h1 s1;have b:=Mv r h2 s2
  show (((d.shown::PyData.shownAll r).map fun t=>t.length+2).sum)<=wt d+2+Jt r
  rw[aD,List.sum_cons];omega
end
end L2
namespace L2
open PySem PySem.Spec PyProof.Rows
end L2
namespace HT
open PySem PySem.Spec PyProof.Rows
end HT
namespace L2
open PySem PySem.Spec PyProof.Rows
section
variable {X:Cx}
def Ah9 (y:Str):Value->Bool
 | .str z _=>z==y
 | _=>false
theorem Zz:∀{ss:v4}{us:w6},Vals (ss.map V.str) us->∀u∈us,∃z t,u=.str z t
 | [],_,r,u,hu=>by cases r;cases hu
 | s::ss,_,r,u,hu=>by
  cases r with
  | cons r1 r2 =>
   rcases az.mp hu with rfl | hu
   ·obtain⟨t,rfl⟩:=r1;exact⟨s,t,rfl⟩
   ·exact Zz r2 u hu
theorem Yn (y:Str):∀{ss:v4}{us:w6},Vals (ss.map V.str) us->us.countP (Ah9 y)=ss.countP fun z=>z==y
 | [],_,r=>by cases r;rfl
 | s::ss,_,r=>by
  cases r with
  | cons r1 r2 =>
   obtain⟨t,rfl⟩:=r1;rw[jw,jw,Yn y r2];rfl
end
end L2
namespace HT
open PySem PySem.Spec PyProof.Rows
section
variable {prog:t6}{w:World}{A:p6}{E:z_}{s:q9}
theorem Oh {t sl:Addr}{items:v6}{vl vu:Value}{lo hi:p7}{Q:z_}(ht:IsTup s.heap t items)(hs:s.heap.IsSliceOf sl vl vu .none)(pl:IsPart vl lo)(pu:IsPart vu hi)
 (hw:sIx items.size 0 lo=0/\sIx items.size items.size hi=items.size) (h:Q (.ref t) s):wpAny (model prog w) A (getItem (.ref t) (.ref sl)) Q E s:=by
 obtain⟨os,hos,hcs,hds⟩:=id hs;have hTs:s.TypeIs (.ref sl) "slice" := ⟨os,hos,hcs⟩;unfold getItem
 try with_reducible refine cG ?_
 first | refine aj (ao ?_) | skip
 refine aj (wpAny_sequenceKey ht.typeIs (by decide) ?_)
 refine aj (cB (name:="__getitem__") ht.typeIs fV
  (bJ fV ht.typeIs entry_tuple_getitem ?_ (args_tuple_getitem _ _)))
 show wpAny _ _ (Builtin.Tuple.tupleItemsOf (.ref t) >>= _) _ _ s
 refine aj (tupleItemsOf_ ht ?_)
 refine aj (dJ hTs ?_)
 rw[if_pos (by decide)]
 refine aj (K8 hs pl pu ?_)
 show wpAny _ _ (if (((sIx items.size 0 lo:Nat):Int)==0&&(1:Int)==1&&(sIx items.size items.size hi-sIx items.size 0 lo)==items.size)=true then _ else _) _ _ s
 have yes:(((sIx items.size 0 lo:Nat):Int)==0&&(1:Int)==1&&(sIx items.size items.size hi-sIx items.size 0 lo)==items.size)=true:=by
  rw[hw.1,hw.2];simp
 rw[if_pos yes]
 refine aj (m:=Builtin.Tuple.tupleIsExact _) (aj (dJ ht.typeIs (ao ?_)))
 rw[if_pos (by decide)]
 refine aj (cT ?_)
 first
  | exact ao ⟨_,rfl,ao h⟩
  | exact aj (ao ⟨_,rfl,ao h⟩)
  | exact aj (ao (ao ⟨_,rfl,ao h⟩))
  | trace_state
end
end HT
namespace L2
open PySem PySem.Spec PyProof.Rows
section
variable {X:Cx}
def Bm4 (K:v_):V->p7->p7->Hp->VK->Prop:=fun x lo hi H Q=>∃a xs,x=.ref a/\SqT K H a xs /\
 (HT.sIx xs.length 0 lo=0/\HT.sIx xs.length xs.length hi=xs.length)/\Q (.ref a) H
theorem Bl3:SlR X (Bm4 X.K):=by
 intro pins s σ H x v vl vu lo hi sl Q I rx hs pl pu h;obtain⟨a,xs,rfl,hx,hw,q⟩:=h
 cases rx
 obtain⟨its,r,ht,hz⟩:=I.tuple hx
 have hlen:its.toArray.size=xs.length:=by rw[aO];exact r.length.symm
 refine⟨"tuple",_,fV.lookup,ht.typeIs,?_⟩
 exact HT.Oh ht hs pl pu (by rw[hlen];exact hw) ⟨.ref a,H,I,rfl,q⟩
end
theorem Wz (l:Addr)(items:v6)(n:Nat)(dd:Option Addr)(sl:Array (t_))(x:Value)(e:Value->Bool)(j:Nat)(hj:j<items.size)
 (hit:e items[j]=true) (hno:∀m (hm:m<items.size),m<j->e items[m]=false) :
 Meets (Builtin.«tuple.index» ⟨[.ref l,x],[]⟩)
  (fun A R s=>s.heap.get? l=some { cls:=.type "tuple",dict:=dd,data:=.seq items n,slots:=sl }/\(∀y,y∈items->SeqAt.EqAt A.in1 s y x (e y))/\R (.ok (.ret (.int j s.toks))) { s with toks:=s.toks+1 }) :=
 .of_wp fun prog w A R s h=>by
  obtain⟨hp,g,d,tk,os⟩:=s;obtain⟨hl,he,h⟩:=h
  wp_walk using bw hl
  change wpAny _ _ (forIn (m:=Sem) [:min items.size items.size] ((none,()):Option Fin×Unit) _) _ _ _
  rw[Std.Legacy.Range.forIn_eq_forIn_range'];simp only[Std.Legacy.Range.size,dU,Nat.add_sub_cancel,Nat.div_one,dC]
  refine gG _ (fun rest b s'=>b.1=none/\s'=⟨hp,g,d,tk,os⟩/\∃i,i<=j/\rest=List.range' i (items.size-i)) _ ?_ ?_ _ _ ⟨rfl,rfl,0,aW _,rfl⟩
  ·rintro y rest b s' ⟨hb,rfl,i,hij,hr⟩
   have hi:i<items.size:=bW hij hj;have hd:items.size-i=(items.size-(i+1))+1:=(Nat.succ_pred_eq_of_pos (Nat.sub_pos_of_lt hi)).symm;rw[hd,List.range'_succ]at hr
   cases hr
   have hg:items[y]?=some items[y]:=by simp[hi]
   simp only[hg]
   refine aj (he _ (Array.getElem_mem hi) prog w _ _ ?_)
   rcases Nat.lt_or_eq_of_le hij with lt | rfl
   ·rw[hno y hi lt]
    wp_walk
    exact⟨rfl,rfl,y+1,lt,rfl⟩
   ·rw[hit]
    wp_walk
    exact⟨_,rfl,h⟩
  ·rintro⟨b1,b2⟩ s' ⟨hb,rfl,i,hij,hr⟩
   have hz:=cJ List.length hr
   simp at hz
   omega
section
variable {X:Cx}
theorem A5a (y:Str){ss:v4}{us:w6}(r:Vals (ss.map V.str) us){m:Nat}(hm:m<us.length)(h2:m<ss.length):Ah9 y us[m]=(ss[m]==y):=by
 obtain⟨u,hu,ru⟩:=r.get (i:=m) (x:=V.str ss[m]) (by simp[h2])
 obtain⟨t,rfl⟩:=ru;rw[bj hm]at hu
 injection hu with hu
 rw[hu];rfl
def Ac3 (K:v_):V->m7->Hp->VK->Prop:=fun x vs H Q=>∃(a:Addr) (ss:v4) (y:Str) (j:Nat),x=.ref a/\vs=[.str y]/\SqT K H a (ss.map V.str)/\ss[j]?=some y/\(∀m<j,ss[m]?≠some y)/\Q (.int (j:Nat)) H
theorem A2i:MtM X "tuple.index" (Ac3 X.K):=by
 intro pins s σ H x vs v us Q I rx rv h;obtain⟨a,ss,y,j,rfl,rfl,hq,hj,hno,q⟩:=h
 cases rx
 obtain⟨u,rfl,ru⟩:=rv.one;obtain⟨t,rfl⟩:=ru;obtain⟨its,r,pl,hz⟩:=I.tuple hq
 obtain⟨o,e,hc,n,hd⟩:=(show s.heap.IsTuple a its.toArray from pl)
 obtain⟨c0,dd,dat,sl⟩:=o
 dsimp only at hc hd
 subst hc hd
 have len:its.length=ss.length:=by have:=r.length;simpa using this.symm
 obtain⟨lj,ej⟩:=bL.mp hj
 refine dM F.slot_tuple_index ⟨_,e,rfl⟩ F.entry_tuple_index (F.args_tuple_index_2 _ _) (Wz a its.toArray n dd sl _ (Ah9 y) j (by simpa[len] using lj) ?_ ?_) ⟨e,fun w hw=>?_,?_⟩
 ·have:=A5a y r (m:=j) (by omega) lj
  simp only[List.getElem_toArray];rw[this,ej];simp
 ·intro m hm hlt
  have hm':m<its.length:=by simpa using hm
  have:=A5a y r (m:=m) hm' (by omega)
  simp only[List.getElem_toArray];rw[this];have h2:=hno m hlt
  rw[bj (by omega)]at h2
  simpa using h2
 ·obtain⟨z,t',rfl⟩:=Zz r w (by simpa using hw)
  exact ji z t' y t
 ·exact⟨.int _,H,I.tok _,⟨_,rfl⟩,q⟩
theorem U9 {Kq:v_}(hKq:X.K=Kq):MtM X "tuple.index" (Ac3 Kq):=by
 subst hKq;exact A2i
end
section
variable {X:Cx}
def B2d:V->Option Str
 | .non=>some (Str.ofString "None")
 | .bl b=>some (if b then Str.ofString "True" else Str.ofString "False")
 | .str x=>some x
 | _=>none
def Tg (K:v_):m7->Hp->VK->Prop:=fun xs H Q=>∃x z,xs=[x]/\B2d x=some z/\Q (.str z) H
theorem A3h:CallR X (.type "str") (Tg X.K):=by
 intro pins s σ H xs us Q I r h;obtain⟨x,z,rfl,hx,q⟩:=h;obtain⟨u,rfl,ru⟩:=vals1 r
 cases x with
 | non=>cases hx;cases (show u=Value.none from ru);exact P.str_of_none ⟨.str _,H,I.tok _,⟨_,rfl⟩,q⟩
 | bl b=>cases hx;cases (show u=Value.bool b from ru);exact P.str_of_bool ⟨.str _,H,I.tok _,⟨_,by cases b <;> rfl⟩,q⟩
 | str y=>cases hx;obtain⟨t,rfl⟩:=ru;exact P.str_of_str ⟨.str _,H,I,⟨_,rfl⟩,q⟩
 | _=>cases hx
end
section
variable {X:Cx}
def B2g (ks:v4)(xs:m7):List (Key×V):=(ks.zip xs).map fun p=>((Sum.inr p.1:Key),p.2)
end
end L2
namespace L2
open PySem PySem.Spec PyProof.Rows PySem.W
section
open PySem.SeqAt
open PySem.AutoSeq1 (wpAny_loadPart')
open PySem.MeetsSeq PySem.MeetsSeq2 PySem.MeetsSeq3
theorem A2q (l b:Addr)(items items2:v6)(n n2:Nat)(dd dd2:Option Addr)(sl sl2:Array (t_))(r:Bool)(k:Nat) :
 ∀
  (i:Nat) (vs ws:w6),items.toList.drop i=vs->items2.toList.drop i=ws->i<=items.size->i<=items2.size->vs.length=k->Meets (Builtin.«list.__eq__.loop» ⟨[.ref l,.ref b,rawInt i,rawInt 0],[]⟩)
  (fun A R s=>s.heap.get? l=some { cls:=.type "list",dict:=dd,data:=.seq items n,slots:=sl }/\s.heap.get? b=some { cls:=.type "list",dict:=dd2,data:=.seq items2 n2,slots:=sl2 } /\
   Oi false A.in1 s vs ws r/\R (.ok (.ret (.bool r))) s):=by
 have none_of:∀{its:v6} {i:Nat},its.toList.drop i=[]->its[((i:Nat):Int).toNat]?=none:=fun {its i} e=>by
  have:=iU.mp e
  simp at this ⊢;omega
 have some_of:∀{its:v6} {i:Nat} {x:Value} {r:w6},its.toList.drop i=x::r->its[((i:Nat):Int).toNat]?=some x/\its.toList.drop (i+1)=r/\i<its.size:=fun {its i x r} e=>by
  have lt:i<its.size:=by
   rcases bc i its.size with h | h
   ·exact h
   ·rw[List.drop_eq_nil_of_le (by simpa using h)]at e;cases e
  rw[List.drop_eq_getElem_cons (by simpa using lt)]at e
  injection e with e1 e2
  exact⟨by simp[lt];simpa using e1,e2,lt⟩
 induction k with
 | zero =>
  intro i vs ws h1 h2 l1 l2 hk prog w A R s h;obtain⟨hp,g,d,tk,os⟩:=s;obtain⟨hl,hb,hx,h⟩:=h;have hv:vs=[]:=List.length_eq_zero_iff.mp hk;subst hv
  wp_walk using bw hl,bw hb
  rw[none_of h1]
  have sz:items.size=i:=by have:=iU.mp h1;simp at this;omega
  wp_walk using bw hl,bw hb
  show R (.ok (.ret (.bool (decide (items.size<items2.size))))) _
  have hv:decide (items.size<items2.size)=r:=by
   cases hx with
   | nn=>have:=iU.mp h2;simp at this;exact aL (by omega)
   | nc=>exact aF (by have:=(some_of h2).2.2;omega)
  rw[hv];exact h
 | succ k ih =>
  intro i vs ws h1 h2 l1 l2 hk prog w A R s h;obtain⟨hp,g,d,tk,os⟩:=s;obtain⟨hl,hb,hx,h⟩:=h
  cases hx with
  | nn=>cases hk
  | nc=>cases hk
  | cn =>
   wp_walk using bw hl,bw hb
   rw[(some_of h1).1,none_of h2]
   wp_walk using bw hl,bw hb
   show R (.ok (.ret (.bool (decide (items.size<items2.size))))) _
   have:=(some_of h1).2.2;have:=iU.mp h2
   simp at this
   rw[aL (by omega)];exact h
  | eq he hr =>
   have q1:=some_of h1;have q2:=some_of h2
   have hc:((i:Int)+1)=((i+1:Nat):Int):=by push_cast;rfl
   wp_walk using bw hl,bw hb
   rw[q1.1,q2.1]
   refine aj (he prog w _ _ ?_)
   wp_walk
   rw[hc]
   exact⟨fH iV _,dW entry_eq_loop (by
    rw[dX iV _]
    exact ih (i+1) _ _ q1.2.1 q2.2.1 q1.2.2 q2.2.2 (by simpa using hk) prog w A R _ ⟨hl,hb,hr,h⟩)⟩
  | ne he hr =>
   have q1:=some_of h1;have q2:=some_of h2
   wp_walk using bw hl,bw hb
   rw[q1.1,q2.1]
   refine aj (he prog w _ _ ?_)
   have hri:∀(E:z_) (Q:z_),Q (.bool r) ⟨hp,g,d,tk,os⟩->wpAny (model prog w) A.in1 (richCompare .Lt _ _) Q E ⟨hp,g,d,tk,os⟩:=hr prog w
   wp_walk using bw hl,bw hb
   rw[q1.1,q2.1]
   wp_walk using hri
   simpa using h
theorem A3t (l b:Addr)(items items2:v6)(n n2:Nat)(dd dd2:Option Addr)(sl sl2:Array (t_))(r:Bool) :
 Meets (Builtin.«list.__lt__» ⟨[.ref l,.ref b],[]⟩)
  (fun A R s=>s.heap.get? l=some { cls:=.type "list",dict:=dd,data:=.seq items n,slots:=sl }/\s.heap.get? b=some { cls:=.type "list",dict:=dd2,data:=.seq items2 n2,slots:=sl2 } /\
   Oi false A.in1 s items.toList items2.toList r/\R (.ok (.ret (.bool r))) s):=by
 intro prog w A R s h;obtain⟨hp,g,d,tk,os⟩:=s;obtain⟨hl,hb,hx,h⟩:=h;have f3:=AutoSeq1.sub_list_list
 wp_walk using bw hl,bw hb
 exact⟨fH iV _,dW entry_eq_loop (by
  rw[dX iV _]
  exact A2q l b items items2 n n2 dd dd2 sl sl2 r _ 0 _ _ rfl rfl (aW _) (aW _) rfl prog w A R _ ⟨hl,hb,hx,h⟩)⟩
end
def kEv {α:Type}(B:Nat->Nat->Option Bool):KasT α->Option α
 | .ret a=>some a
 | .ask i j k=>(B i j).bind fun b=>kEv B (k b)
theorem A9v {α:Type}{cmp:Nat->Nat->(Bool->q9->Prop)->q9->Prop}{B:Nat->Nat->Option Bool}{s:q9}(hc:∀i j b C,B i j=some b->C b s->cmp i j C s){G:α->q9->Prop} :
 ∀(t:KasT α) (a:α),kEv B t=some a->G a s->t.kasWp cmp G s
 | .ret a,a',e,g=>by cases e;exact g
 | .ask i j k,a',e,g=>by
  obtain⟨b,e1,e2⟩:=cZ.mp (show (B i j).bind (fun b=>kEv B (k b))=some a' from e)
  exact hc i j b _ e1 (A9v hc (k b) a' e2 g)
def Ar8 (b:Bool):q_->Bool
 | .tuple (.int _::_)=>b
 | .tuple (.tuple _::_)=>!b
 | _=>false
section
variable {prog:t6}{w:World}{A:p6}{E:z_}{s:q9}{b fin:Bool}{Q:Bool->q9->Prop}
theorem Zo:∀{vs ws:w6}{r:Bool},Oi false A s vs ws r->∀i,(b&&i==0)=false->fin=decide (vs.length<ws.length)->Q r s->KatLex prog w A b fin Q (vs.zip ws) i s
 | _,_,_,.nn,i,_,hf,h=>by
  have e:fin=false:=hf;subst e;exact kat_nil h
 | _,_,_,.nc (y:=y) (ys:=ys),i,_,hf,h=>by
  have e:fin=true:=hf.trans (aF (by rw[cY,aQ];omega))
  subst e;exact kat_nil h
 | _,_,_,.cn (x:=x) (xs:=xs),i,_,hf,h=>by
  have e:fin=false:=hf.trans (aL (by rw[cY,aQ];omega))
  subst e;exact kat_nil h
 | _,_,_,.eq he hr,i,hi,hf,h=>kat_cons (he prog w _ _ (kat_yes (Zo hr (i+1) (by simp) (hf.trans (by simp)) h)))
 | _,_,_,.ne he hr,i,hi,hf,h=>kat_cons (he prog w _ _ (kat_no (by rw[hi];exact kat_one _ _ (hr prog w _ _ h))))
theorem B2c {i j:Int}{xs ys:w5}{us vs:w6}{as bs:v5}{r:Bool}(ra:ReadsAll s.heap us (.int i::xs) as)(rb:ReadsAll s.heap vs (.int j::ys) bs)(ca:PyData.canLayAll0 (.int i::xs)=true)(cb:PyData.canLayAll0 (.int j::ys)=true)
 (hu:A.units+PyData.depthAll (.int i::xs)<cLine) (hc:Nq false (.int i::xs) (.int j::ys)=some r) (hf:fin=decide (us.length<vs.length)) (h:Q r s):KatLex prog w A true fin Q (us.zip vs) 0 s:=by
 cases ra with
 | cons r1 r2 =>
  cases rb with
  | cons q1 q2 =>
   have ca':=aB.mp ca;have cb':=aB.mp cb;have hu':A.units+max (PyData.int i).depth (PyData.depthAll xs)<cLine:=hu
   have e:=il (.int i) (.int j) A s _ _ _ _ r1 q1 ca'.1 cb'.1 (by omega)
   rw[Nq]at hc
   by_cases he:PyData.eqv (.int i) (.int j)=true
   ·rw[if_pos he]at hc
    rw[he]at e
    exact kat_cons (e prog w _ _ (kat_yes (Zo (Pk false xs ys A s _ _ _ _ r r2 q2 ca'.2 cb'.2 (by omega) hc) 1 (by simp) (hf.trans (by simp)) h)))
   ·rw[if_neg he]at hc
    rw[jn _ |>.mp he]at e
    refine kat_cons (e prog w _ _ (kat_no ?_))
    cases r1
    cases q1
    have hr:decide (i<j)=r:=by simpa[Ls] using hc
    rw[<- hr]at h;exact(kat_lt_int h:wpAny (model prog w) A (keyLt' oneType' _ _) Q _ s)
theorem A9g {dx dy:q_}{u v:Value}{as bs:v5}{r:Bool}(ra:Reads s.heap u dx as)(rb:Reads s.heap v dy bs)(ca:dx.canLay0=true)(cb:dy.canLay0=true)
 (fa:Ar8 b dx=true) (fb:Ar8 b dy=true) (hu:A.units+dx.depth<cLine) (hc:Ls false dx dy=some r) (h:Q r s):wpAny (model prog w) A (keyLt' (tuples' b) u v) Q E s:=by
 cases dx with
 | tuple xs =>
  cases dy with
  | tuple ys =>
   cases ra with
   | tuple h1 h2 h3 h4 =>
    cases rb with
    | tuple g1 g2 g3 g4 =>
     have hu':A.units+(PyData.depthAll xs+1)<cLine:=hu
     refine kat_lt h1 h3 g1 g3 ?_
     cases b with
     | false=>exact Zo (Pk false xs ys A s _ _ _ _ r h4 g4 ca cb (by omega) hc) 0 rfl (by simp) h
     | true =>
      match xs,ys,fa,fb,h4,g4,ca,cb,hu',hc with
      | .int i::xs,.int j::ys,_,_,h4,g4,ca,cb,hu',hc=>exact B2c h4 g4 ca cb (by omega) hc (by simp) h
  | _=>cases fb
 | _=>cases fa
end
inductive Kd where
 | ti | tt | tl | ii | ll
def Mw:Kd->q_->Bool
 | .ti,.tuple (.int _::_)=>true
 | .tt,.tuple (.tuple _::_)=>true
 | .tl,.tuple (.list _::_)=>true
 | .ii,.int _=>true
 | .ll,.list _=>true
 | _,_=>false
theorem Ja {kd:Kd}{d:q_}(h:Mw kd d=true):match kd with
 | .ti=>∃i xs,d=.tuple (.int i::xs)
 | .tt=>∃ys xs,d=.tuple (.tuple ys::xs)
 | .tl=>∃ys xs,d=.tuple (.list ys::xs)
 | .ii=>∃i,d=.int i
 | .ll=>∃xs,d=.list xs:=by
 unfold Mw at h
 split at h
 ·exact⟨_,_,rfl⟩
 ·exact⟨_,_,rfl⟩
 ·exact⟨_,_,rfl⟩
 ·exact⟨_,rfl⟩
 ·exact⟨_,rfl⟩
 ·cases h
def kdK:Kd->SortKind
 | .ti=>tuples' true
 | .tt=>tuples' false
 | .tl=>tuples' true
 | .ii=>oneType'
 | .ll=>oneType'
def B1g (x y:q_):Option Bool:=match x,y with
 | .tuple (.list a::xs),.tuple (.list b::ys)=>if PyData.eqv (.list a) (.list b)=true then Nq false xs ys else Nq false a b
 | _,_=>none
def B1e (x y:q_):Option Bool:=match x,y with
 | .list a,.list b=>Nq false a b
 | _,_=>none
def Bg1 (kd:Kd)(x y:q_):Option Bool:=match kd with
 | .tl=>B1g x y
 | .ll=>B1e x y
 | _=>Ls false x y
def A1b (kd:Kd)(ds:w5)(i j:Nat):Option Bool:=match ds[i]?,ds[j]? with
 | some x,some y=>Bg1 kd x y
 | _,_=>none
section
variable {prog:t6}{w:World}{A:p6}{E:z_}{s:q9}{fin:Bool}{Q:Bool->q9->Prop}
theorem Wa {l b:Addr}{o o2:Obj}{items items2:v6}{n n2:Nat}{r:Bool}(h1:s.heap.get? l=some o)(h2:o.cls=.type "list") (h3:o.data=.seq items n) (g1:s.heap.get? b=some o2) (g2:o2.cls=.type "list") (g3:o2.data=.seq items2 n2)
 (hx:Oi false A.in1 s items.toList items2.toList r) (hu:A.units<cLine) (h:Q r s):wpAny (model prog w) A (oneLt' true (.ref l) (.ref b)) Q E s:=by
 obtain⟨c0,dd,dat,sl⟩:=o;obtain⟨c1,dd2,dat2,sl2⟩:=o2
 dsimp only at h2 h3 g2 g3
 subst h2 h3 g2 g3;rw[oneLt'_eq];simp only[bV]
 refine aj (wpAny_cRoomFor hu ?_)
 refine aj (wpAny_callSpecialIfBound?_slot ⟨_,h1,rfl⟩ F.slot_list_lt (dM F.slot_list_lt ⟨_,h1,rfl⟩ F.entry_list_lt (F.args_list_lt_2 _ _) (A3t l b items items2 n n2 dd dd2 sl sl2 r) ⟨h1,g1,hx,?_⟩))
 exact fM h
theorem B2f {a b xs ys:w5}{us vs:w6}{as bs:v5}{r:Bool}(ra:ReadsAll s.heap us (.list a::xs) as)(rb:ReadsAll s.heap vs (.list b::ys) bs)(ca:PyData.canLayAll0 (.list a::xs)=true)(cb:PyData.canLayAll0 (.list b::ys)=true)
 (hu:A.units+PyData.depthAll (.list a::xs)<cLine) (hc:B1g (.tuple (.list a::xs)) (.tuple (.list b::ys))=some r) (hf:fin=decide (us.length<vs.length)) (h:Q r s):KatLex prog w A true fin Q (us.zip vs) 0 s:=by
 cases ra with
 | cons r1 r2 =>
  cases rb with
  | cons q1 q2 =>
   have ca':=aB.mp ca;have cb':=aB.mp cb;have hu':A.units+max (PyData.list a).depth (PyData.depthAll xs)<cLine:=hu;have hd:(PyData.list a).depth=PyData.depthAll a+1:=rfl
   have e:=il (.list a) (.list b) A s _ _ _ _ r1 q1 ca'.1 cb'.1 (by omega)
   have hc:(if PyData.eqv (.list a) (.list b)=true then Nq false xs ys else Nq false a b)=some r:=hc
   by_cases he:PyData.eqv (.list a) (.list b)=true
   ·rw[if_pos he]at hc
    rw[he]at e
    exact kat_cons (e prog w _ _ (kat_yes (Zo (Pk false xs ys A s _ _ _ _ r r2 q2 ca'.2 cb'.2 (by omega) hc) 1 (by simp) (hf.trans (by simp)) h)))
   ·rw[if_neg he]at hc
    rw[jn _ |>.mp he]at e
    refine kat_cons (e prog w _ _ (kat_no ?_))
    cases r1 with
    | list h1 h2 h3 h4 =>
     cases q1 with
     | list g1 g2 g3 g4=>exact Wa h1 h2 h3 g1 g2 g3 (Pk false a b A.in1 s _ _ _ _ r h4 g4 ca'.1 cb'.1 (by show A.units+1+_<_;omega) hc) (by omega) h
theorem Bd8 {kd:Kd}{dx dy:q_}{u v:Value}{as bs:v5}{r:Bool}(ra:Reads s.heap u dx as)(rb:Reads s.heap v dy bs)(ca:dx.canLay0=true)(cb:dy.canLay0=true)
 (fa:Mw kd dx=true) (fb:Mw kd dy=true) (hu:A.units+dx.depth<cLine) (hc:Bg1 kd dx dy=some r) (h:Q r s):wpAny (model prog w) A (keyLt' (kdK kd) u v) Q E s:=by
 have sx:=Ja fa;have sy:=Ja fb
 cases kd with
 | ti =>
  obtain⟨i,xs,rfl⟩:=sx;obtain⟨j,ys,rfl⟩:=sy;exact A9g (b:=true) ra rb ca cb rfl rfl hu hc h
 | tt =>
  obtain⟨i,xs,rfl⟩:=sx;obtain⟨j,ys,rfl⟩:=sy;exact A9g (b:=false) ra rb ca cb rfl rfl hu hc h
 | tl =>
  obtain⟨i,xs,rfl⟩:=sx;obtain⟨j,ys,rfl⟩:=sy
  cases ra with
  | tuple h1 h2 h3 h4 =>
   cases rb with
   | tuple g1 g2 g3 g4 =>
    refine kat_lt h1 h3 g1 g3 (B2f h4 g4 ca cb ?_ hc (by simp) h)
    have hu':A.units+(PyData.depthAll (.list i::xs)+1)<cLine:=hu;omega
 | ii =>
  obtain⟨i,rfl⟩:=sx;obtain⟨j,rfl⟩:=sy
  cases ra
  cases rb
  have hr:decide (i<j)=r:=by simpa[Bg1,Ls] using hc
  rw[<- hr]at h;exact kat_lt_int h
 | ll =>
  obtain⟨xs,rfl⟩:=sx;obtain⟨ys,rfl⟩:=sy
  cases ra with
  | list h1 h2 h3 h4 =>
   cases rb with
   | list g1 g2 g3 g4 =>
    have hu':A.units+(PyData.depthAll xs+1)<cLine:=hu
    show wpAny (model prog w) A (keyLt' oneType' _ _) Q E s
    rw[keyLt'_oneType]
    exact Wa h1 h2 h3 g1 g2 g3 (Pk false xs ys A.in1 s _ _ _ _ r h4 g4 ca cb (by show A.units+1+_<_;omega) hc) (by omega) h
end
section
variable {M:Model}{A:p6}{E:z_}{s:q9}
def tyK (b:Bool):Value:=if b then .type "int" else .type "tuple"
theorem Vb {h:Heap}{vs:w6}{d:q_}{ds:w5}{as:v5}(r:ReadsAll h vs (d::ds) as):∃v as',vs[0]?=some v/\Reads h v d as':=by
 cases r with
 | cons r1 r2=>exact⟨_,_,rfl,r1⟩
theorem V4 {h:Heap}{b:Bool}:∀{us:w6}{ds:w5}{as:v5},ReadsAll h us ds as->ds.all (Ar8 b)=true->∃fs,KatTups h us fs/\fs.length=us.length/\∀v∈fs,Looks M h (typeOf v) (tyK b)
 | _,_,_,.nil,_=>⟨[],trivial,rfl,fun v z=>nomatch z⟩
 | _,_,_,.cons (d:=d) r1 r2,hb=>by
  obtain⟨h1,h2⟩:=aB.mp (show (Ar8 b d&&_)=true from hb)
  obtain⟨fs,t,l,k⟩:=V4 r2 h2
  cases d with
  | tuple xs =>
   cases r1 with
   | tuple e1 e2 e3 e4 =>
    match xs,h1,e4 with
    | .int i::xs,h1,e4 =>
     obtain⟨v,as',f1,f2⟩:=Vb e4;have hb':b=true:=h1;subst hb'
     cases f2 with
     | int i t0=>
      exact⟨.int i t0::fs,KatTups.cons e1 e2 e3 (by rw[<- eV];exact f1) t,by rw[aQ,aQ,l],fun v hv=>by
       rcases az.mp hv with rfl | hv
       ·exact Looks.now
       ·exact k v hv⟩
    | .tuple ys::xs,h1,e4 =>
     obtain⟨v,as',f1,f2⟩:=Vb e4
     have hb':b=false:=by simpa[Ar8] using h1
     subst hb'
     cases f2 with
     | tuple g1 g2 g3 g4=>
      exact⟨_::fs,KatTups.cons e1 e2 e3 (by rw[<- eV];exact f1) t,by rw[aQ,aQ,l],fun v hv=>by
       rcases az.mp hv with rfl | hv
       ·have q:=(Looks.ld (M:=M) (part:=none) g1).andThen (f:=fun o=>pure o.cls) .now
        rw[g2]at q;exact q
       ·exact k v hv⟩
  | _=>cases h1
theorem Am2 {b:Bool}{us:w6}{ds:w5}{as:v5}{Q:SortKind->q9->Prop}(r:ReadsAll s.heap us ds as)(hb:ds.all (Ar8 b)=true)(h0:0<us.length)(h:Q (tuples' b) s):wpAny M A (keyKind' us.toArray) Q E s:=by
 obtain⟨fs,t,l,k⟩:=V4 (M:=M) r hb
 refine kat_kind t (by omega) k (by cases b <;> decide) ?_
 cases b <;> exact h
theorem Af0 {h:Heap}:∀{us:w6}{ds:w5}{as:v5},ReadsAll h us ds as->ds.all (Mw .tl)=true->∃fs,KatTups h us fs/\fs.length=us.length/\∀v∈fs,Looks M h (typeOf v) (.type "list")
 | _,_,_,.nil,_=>⟨[],trivial,rfl,fun v z=>nomatch z⟩
 | _,_,_,.cons (d:=d) r1 r2,hb=>by
  obtain⟨h1,h2⟩:=aB.mp (show (Mw .tl d&&_)=true from hb)
  obtain⟨fs,t,l,k⟩:=Af0 r2 h2;obtain⟨_,_,rfl⟩:=Ja h1
  cases r1 with
  | tuple e1 e2 e3 e4 =>
   obtain⟨v,as',f1,f2⟩:=Vb e4
   cases f2 with
   | list g1 g2 g3 g4=>
    exact⟨_::fs,KatTups.cons e1 e2 e3 (by rw[<- eV];exact f1) t,by rw[aQ,aQ,l],fun v hv=>by
     rcases az.mp hv with rfl | hv
     ·have q:=(Looks.ld (M:=M) (part:=none) g1).andThen (f:=fun o=>pure o.cls) .now
      rw[g2]at q;exact q
     ·exact k v hv⟩
theorem Al3 {h:Heap}:∀{us:w6}{ds:w5}{as:v5},ReadsAll h us ds as->ds.all (Mw .ll)=true->∀v∈us,Looks M h (typeOf v) (.type "list")
 | _,_,_,.nil,_,v,z=>nomatch z
 | _,_,_,.cons (d:=d) r1 r2,hb,v,hv=>by
  obtain⟨h1,h2⟩:=aB.mp (show (Mw .ll d&&_)=true from hb)
  rcases az.mp hv with rfl | hv
  ·obtain⟨_,rfl⟩:=Ja h1
   cases r1 with
   | list g1 g2 g3 g4 =>
    have q:=(Looks.ld (M:=M) (part:=none) g1).andThen (f:=fun o=>pure o.cls) .now
    rw[g2]at q;exact q
  ·exact Al3 r2 h2 v hv
theorem ints_of {h:Heap}:∀{us:w6}{ds:w5}{as:v5},ReadsAll h us ds as->ds.all (Mw .ii)=true->∃ns,IntsAre us ns
 | _,_,_,.nil,_=>⟨[],.nil⟩
 | _,_,_,.cons (d:=d) r1 r2,hb=>by
  obtain⟨h1,h2⟩:=aB.mp (show (Mw .ii d&&_)=true from hb)
  obtain⟨ns,t⟩:=ints_of r2 h2;obtain⟨_,rfl⟩:=Ja h1
  cases r1 with
  | int i t0=>exact⟨_::ns,.cons _ _ t⟩
theorem A0o {b:Bool}:∀{ds:w5},ds.all (Mw (if b then .ti else .tt))=true->ds.all (Ar8 b)=true:=fun {ds} h=>by
 rw[bN]at h ⊢;intro d hd;have:=Ja (h d hd)
 cases b
 ·obtain⟨_,_,rfl⟩:=this;rfl
 ·obtain⟨_,_,rfl⟩:=this;rfl
theorem Ba1 {kd:Kd}{us:w6}{ds:w5}{as:v5}{Q:SortKind->q9->Prop}(r:ReadsAll s.heap us ds as)(hb:ds.all (Mw kd)=true)(h0:2<=us.length)(h:Q (kdK kd) s):wpAny M A (keyKind' us.toArray) Q E s:=by
 cases kd with
 | ti=>exact Am2 (b:=true) r (A0o (b:=true) hb) (by omega) h
 | tt=>exact Am2 (b:=false) r (A0o (b:=false) hb) (by omega) h
 | tl =>
  obtain⟨fs,t,l,k⟩:=Af0 (M:=M) r hb
  exact kat_kind t (by omega) k (by decide) h
 | ii =>
  obtain⟨ns,t⟩:=ints_of r hb
  rw[ksk_kind (keys:=us.toArray) (by simpa using t) (by simpa using h0)]
  exact ao h
 | ll=>exact kas_kind h0 (Al3 (M:=M) r hb) (by decide) (by decide) h
theorem Yl {body:Value->PUnit->Sem (ForInStep PUnit)}{Iv:w6->q9->Prop}(step:∀x rest s,Iv (x::rest) s->wpAny M A (body x ⟨⟩) (fun r s'=>r=.yield ⟨⟩/\Iv rest s') E s) :
 ∀(l:w6) (s:q9),Iv l s->wpAny M A (forIn l PUnit.unit body) (fun _ s'=>Iv [] s') E s
 | [],s,h=>by rw[gf];exact ao h
 | x::l,s,h=>by
  rw[e_]
  refine aj (a_ (step x l s h) (fun q s' hq=>?_) fun _ _ z=>z)
  obtain⟨rfl,h'⟩:=hq;exact Yl step l s' h'
end
section
variable {X:Cx}{pins:y_}{σ:St}{H:Hp}{s:q9}{h':Heap}
theorem Inv.adopt {D:Addr}{o:HO}{t':Nat}(I:Inv X pins σ H s)(k:∀b u,b≠D->s.heap.get? b=some u->h'.get? b=some u)(hn:H D=none)(hL:D≠X.env.locals)(h1:X.s₀.heap.objs.size<=D)
 (h2:∀x c,X.env.cells.lookup x=some c->c≠D) (h3:∀p∈X.pn++pins,p.1≠D) (new:zG X.prog X.w (upd H D o) h' D o):Inv X pins σ (upd H D o) { s with heap:=h',toks:=t' }:=by
 have nit:∀b u,H b=some u->b≠D:=fun b u e z=>by rw[z,hn]at e;cases e
 refine I.step (g':=s.gens) (d':=s.drawn) (ch:=[D]) (fun b hb=>?_) (fun b o _ _ hc e _=>k b o (fun z=>hc (by simp[z])) e) (fun b o _ _ hc e _=>⟨o.slots,k b o (fun z=>hc (by simp[z])) e⟩) (fun b o hc e n=>by rw[Ak (fun z=>hc (by simp[z]))];exact n)
  (fun b o hc e=>⟨o,k b o (fun z=>hc (by simp[z])) e⟩) (fun b xs e=>by rw[Ak (nit _ _ e)];exact e) (fun b _ _ e=>by rw[Ak (nit _ _ e)];exact e) (fun b ps e=>by rw[Ak (nit _ _ e)];exact e) (fun m hm=>?_) (fun b u e=>?_) I.bare
 ·have e:b=D:=by simpa using hb
  subst e;exact⟨.inr h1,hL,h2,h3⟩
 ·obtain⟨o,es,ep,ho,r⟩:=hm
  exact⟨o,es,ep,k _ o (aJ hL) ho,r⟩
 ·by_cases hb:b=D
  ·subst hb;rw[Bb]at e;cases e;exact new
  ·rw[Ak hb]at e
   refine (I.hok b u e).stay (fun c v hc q=>k c v ?_ q) (fun c q=>by rw[Ak (nit _ _ q)];exact q) (fun c xs q=>by rw[Ak (nit _ _ q)];exact q) fun c ob xs q=>by rw[Ak (nit _ _ q)];exact q
   rcases hc with z | z
   ·rw[z];exact hb
   ·exact nit c _ z
theorem Bk8 {k:Nat}{f:Addr}{fd:u_}{ps:v4}{sp:Sp}{E:z_}{Q:VK}{us:w6}{vs:m7}(F:FnOk X.prog X.w X.K X.mg X.base CX0 k f fd ps sp)(hr:Room (k+2) X.A)(hb:Binds X.K fd ps [])
 (I:Inv X pins σ H s) (r:Vals vs us) (h:sp vs H Q E0):wpAny (model X.prog X.w) X.A.in1.in1 (call (.ref f) us) (EP X pins σ Q) E s:=by
 have hl:(us++[]).length=ps.length:=by rw[cH,<- r.length];exact F.len _ _ _ _ h
 refine wpAny_call (iu (F.run X.A.in1.in1 X.stack s H ⟨us,[]⟩ (us++[]) vs Q E0 hr.in1.in1 I.env0.in1.in1 (hb s us I.kIn hl) (by rw[cH];exact r) h) fun r s' hq=>?_)
 cases r with
 | error e=>exact False.elim hq
 | ok fl =>
  cases fl with
  | ret u=>exact I.after hq
  | next=>exact False.elim hq
  | brk=>exact False.elim hq
  | cont=>exact False.elim hq
end
def Ak9 (Ky:V->Hp->VK->Prop):m7->m7->Hp->(m7->Hp->Prop)->Prop
 | [],ks,H,k=>k ks H
 | x::xs,ks,H,k=>Ky x H (fun kv H1=>Ak9 Ky xs (ks++[kv]) H1 k)
abbrev Av2 (sp:Sp):m7->m7->Hp->(m7->Hp->Prop)->Prop:=Ak9 fun x H Q=>sp [x] H Q E0
def A4b (vs ks:m7)(H:Hp)(Q:VK):Prop :=
 (vs.length<2/\∀p,H p=none->Q (.ref p) (upd H p (.lst vs))) \/
 (2<=vs.length/\vs.length<64/\∃ds kd p,TrL H ds ks/\ds.all (Mw kd)=true/\(∀d∈ds,Flat d)/\kEv (A1b kd ds) (kas_sort vs.length)=some p/\∀l,H l=none->Q (.ref l) (upd H l (.lst (p.toList.map fun i=>vs.getD i .non))))
theorem Au4:∀{vs:m7}{us:w6},Vals vs us->∀i,RelV (vs.getD i .non) (us.getD i Value.none)
 | _,_,.nil,i=>rfl
 | _,_,.cons r rs,0=>r
 | _,_,.cons r rs,i+1=>Au4 rs i
theorem Yq {vs:m7}{us:w6}(r:Vals vs us):∀l:List Nat,Vals (l.map fun i=>vs.getD i .non) (l.map fun i=>us.getD i Value.none)
 | []=>.nil
 | i::l=>.cons (Au4 r i) (Yq r l)
theorem Yg {v:V}{u:Value}(h:RelV v u):∀{vs:m7}{us:w6},Vals vs us->Vals (vs++[v]) (us++[u])
 | _,_,.nil=>.cons h .nil
 | _,_,.cons r rs=>.cons r (Yg h rs)
theorem Uy {h:Heap}:∀{us:w6}{ds:w5}{as:v5},ReadsAll h us ds as->∀{i:Nat}{d:q_},ds[i]?=some d->∃as',Reads h (us.getD i Value.none) d as'
 | _,_,_,.nil,i,d,e=>by simp at e
 | _,_,_,.cons r rs,0,d,e=>by simp at e;subst e;exact⟨_,r⟩
 | _,_,_,.cons r rs,i+1,d,e=>Uy rs (by simpa using e)
section
variable {X:Cx}{pins:y_}{σ:St}{H:Hp}{s:q9}{D S:Addr}{e1 n:Nat}{Q:VK}{P:PySem.Fin->q9->Prop}{E:z_}{A:p6}
theorem Xy {kus ous:w6}{outs:m7}{st:SortSt}(hD:X.s₀.heap.objs.size<=D)(hS:X.s₀.heap.objs.size<=S)(hDS:D≠S)(hp:∀p∈X.pn++pins,p.1≠S/\p.1≠D)
 (I:Inv X (pins++[(S,seqObj "list" kus.toArray n),(D,seqObj "list" #[] e1)]) σ H s) (hz:outs.length<=sizeLine) (hk:kus.length<=sizeLine)
 (ho:(arrOf st).map (·.2)=List.toArray ous) (hf:failedOf st=none) (rv:Vals outs ous) (q:∀l,H l=none->Q (.ref l) (upd H l (.lst outs)))
 (hP:∀s',EP X pins σ Q (.ref D) s'->P (.done (.ret .none)) s'):wpAny (model X.prog X.w) A (ksk_tail D false e1 (.ref S) st) P E s:=by
 obtain⟨ps1,ps2,ps3,ps4,ps5⟩:=I.pin (S,seqObj "list" kus.toArray n) (aU _ (aU _ bD));obtain⟨pd1,pd2,pd3,pd4,pd5⟩:=I.pin (D,seqObj "list" #[] e1) (aU _ (aU _ (bx _ bD)))
 have cel:∀x c,X.env.cells.lookup x=some c->c≠S/\c≠D:=fun x c e=>by
  obtain⟨v,ob,ho,hdc⟩:=I.cell x c e
  refine⟨fun z=>?_,fun z=>?_⟩
  ·rw[z,ps1]at ho;cases ho;exact ps5 v hdc
  ·rw[z,pd1]at ho;cases ho;exact pd5 v hdc
 have I0:Inv X pins σ H s:=I.pins_of fun p hp=>I.pin p (aU _ (dh _ hp))
 have I1:Inv X pins σ H { s with heap:=s.heap.update S (Obj.mapSeq fun _=>#[]) }:=I0.turned (t':=s.toks) (fun b o hb e=>(cz s.heap _ (aJ hb)).trans e) ps2 ps3 (.inr hS) (fun x c e=>(cel x c e).1) (fun p hp'=>(hp p hp').1)
 have gD:(s.heap.update S (Obj.mapSeq fun _=>(#[]:v6))).get? D=some (seqObj "list" #[] e1):=(cz s.heap _ (aJ hDS)).trans pd1
 obtain⟨n2,gD2⟩:∃n2,((s.heap.update S (Obj.mapSeq fun _=>(#[]:v6))).update D (Obj.mapSeq fun _=>ous.toArray)).get? D=some (seqObj "list" ous.toArray n2):=⟨_,get?_update_seq gD fun _=>ous.toArray⟩
 have hlen:=rv.length;unfold ksk_tail
 dsimp only
 rw[ho]
 refine aj (iW ps1 rfl ?_ (by simpa using hk) (aW _))
 refine aj (wpAny_letGo ?_)
 refine aj (seqEpoch_at gD rfl ?_)
 simp only[bO,aZ]
 refine aj (iW gD rfl ?_ (aW _) (by rw[aO];omega))
 rw[hf];simp only[bne_self_eq_false,bO,aZ]
 refine ao (hP _ ⟨.ref D,upd H D (.lst outs),?_,rfl,q D pd2⟩)
 exact I1.adopt (t':=s.toks) (fun b u hb e=>(cz _ _ (aJ hb)).trans e) pd2 pd3 hD (fun x c e=>(cel x c e).2) (fun p hp'=>(hp p hp').2) ⟨hz,ous,n2,rv,gD2⟩
theorem A6b {kus us:w6}{vs ks:m7}(hu:A.units+64<cLine)(hD:X.s₀.heap.objs.size<=D)(hS:X.s₀.heap.objs.size<=S)(hDS:D≠S)(hp:∀p∈X.pn++pins,p.1≠S/\p.1≠D)
 (I:Inv X (pins++[(S,seqObj "list" kus.toArray n),(D,seqObj "list" #[] e1)]) σ H s) (hz:vs.length<=sizeLine) (rv:Vals vs us) (rk:Vals ks kus) (hl:kus.length=us.length) (hw:A4b vs ks H Q)
 (hP:∀s',EP X pins σ Q (.ref D) s'->P (.done (.ret .none)) s'):wpAny (model X.prog X.w) A (ksk_end D false us.toArray e1 (.ref S) kus.toArray) P E s:=by
 have hlen:=rv.length;unfold ksk_end;simp only[bO,aZ]
 rcases hw with ⟨h2,q⟩ | ⟨h2,h64,ds,kd,p,tds,hb,hfl,hpp,q⟩
 ·have h2':us.toArray.size<2:=by rw[aO];omega
  rw[if_pos h2',if_pos h2']
  refine aj (ao ?_)
  rw[StateT.run_pure]
  refine aj (ao ?_)
  refine Xy hD hS hDS hp I hz (by omega) ?_ rfl rv q hP
  show (kus.toArray.zip us.toArray).map (·.2)=us.toArray
  apply Array.ext';simp only[Array.toList_map,Array.toList_zip]
  exact jx (l₁:=kus) (l₂:=us) (by omega)
 ·have h2':¬ us.toArray.size<2:=by rw[aO];omega
  rw[if_neg h2',if_neg h2'];obtain⟨as,rd⟩:=tds.reads I rk
  refine aj (Ba1 rd hb (by omega) ?_)
  have e64:us.length<64:=by omega
  rw[hlen]at hpp
  refine aj (a_ (kat_run (Q:=fun st' s'=>s'=s/\arrOf st'=p.map (kas_item (kus.toArray.zip us.toArray))/\failedOf st'=none/\p.size=us.length) (G:=fun p' s'=>p'=p/\s'=s) hl (by omega) e64 (fun p' st' s' a1 a2 a3 a4=>?_) (A9v (B:=A1b kd ds) (fun i j r C hB hC=>?_) _ p hpp ⟨rfl,rfl⟩)) ?_ fun _ _ z=>z)
  ·obtain⟨rfl,rfl⟩:=a4
   exact⟨rfl,a2,a3,a1⟩
  ·unfold A1b at hB
   cases ei:ds[i]? with
   | none=>rw[ei]at hB;cases hB
   | some di =>
    cases ej:ds[j]? with
    | none=>rw[ei,ej]at hB;cases hB
    | some dj =>
     rw[ei,ej]at hB;obtain⟨a1,r1⟩:=Uy rd ei;obtain⟨a2,r2⟩:=Uy rd ej;have mi:di∈ds:=bH ei;have mj:dj∈ds:=bH ej;have fi:=hfl di mi;have fj:=hfl dj mj
     exact Bd8 r1 r2 fi.1 fj.1 (bN.mp hb di mi) (bN.mp hb dj mj) (by have:=fi.2;omega) hB hC
  ·rintro⟨⟨⟩,st'⟩ s' ⟨rfl,har,hf,hps⟩
   refine Xy hD hS hDS hp I (outs:=p.toList.map fun i=>vs.getD i .non) ?_ (by omega) (kat_snds hl har) hf (Yq rv _) q hP
   rw[ak,eN,hps];omega
def B1p (X:Cx)(pins:y_)(σ:St)(f:Addr)(Z:Hp->Prop)(Ky:V->Hp->VK->Prop):Prop :=
 ∀(pins':y_) (s:q9) (H:Hp) (x:V) (u:Value) (Q':VK),Inv X (pins++pins') σ H s->Z H->RelV x u->Ky x H Q'->wpAny (model X.prog X.w) X.A.in1.in1 (call (.ref f) [u]) (EP X (pins++pins') σ fun v H'=>Z H'/\Q' v H') (fun _ _=>False) s
theorem A2j {k:Nat}{f:Addr}{Z:Hp->Prop}{Ky:V->Hp->VK->Prop}{us:w6}{vs:m7}(run:B1p X pins σ f Z Ky)(hr:Room (k+2) X.A)
 (hD:X.s₀.heap.objs.size<=D) (hS:X.s₀.heap.objs.size<=S) (hDS:D≠S) (hp:∀p∈X.pn++pins,p.1≠S/\p.1≠D)
 (I:Inv X (pins++[(S,seqObj "list" #[] 0),(D,seqObj "list" #[] e1)]) σ H s) (hZ:Z H) (hz:vs.length<=sizeLine) (rv:Vals vs us) (h:Ak9 Ky vs [] H (fun ks H1=>A4b vs ks H1 Q))
 (hP:∀s',EP X pins σ Q (.ref D) s'->P (.done (.ret .none)) s'):wpAny (model X.prog X.w) X.A.in1.in1 (ksk_rest D (.ref f) false us.toArray e1 (.ref S)) P E s:=by
 have hlen:=rv.length;unfold ksk_rest
 refine aj (cT ?_)
 rw[<- gF]
 refine aj (a_ (Yl (Iv:=fun rest s=>∃ks kus n H1 vr,Inv X (pins++[(S,seqObj "list" (List.toArray kus) n),(D,seqObj "list" #[] e1)]) σ H1 s/\Vals ks kus/\Vals vr rest/\kus.length+rest.length=us.length/\Z H1/\Ak9 Ky vr ks H1 (fun ks H1=>A4b vs ks H1 Q)) ?_ us s ⟨[],[],0,H,vs,I,.nil,rv,by simp,hZ,h⟩) (fun _ s' hd=>?_) fun _ _ z=>z)
 ·rintro x rest s ⟨ks,kus,n,H1,vr,I1,rk,rv1,hl,hZ1,hw⟩
  rw[aQ]at hl
  cases rv1 with
  | cons rx rr =>
   refine aj (cP (a_ (run _ s H1 _ x _ I1 hZ1 rx hw) (fun ku s2 h2=>?_) fun _ _ z=>z.elim))
   obtain⟨kv,H2,I2,rku,hZ2,hw2⟩:=h2;obtain⟨t1,t2,t3,t4,t5⟩:=I2.pin (S,seqObj "list" kus.toArray n) (aU _ (aU _ bD))
   have ea:(List.toArray kus).push ku=List.toArray (kus++[ku]):=by simp
   dsimp only
   refine aj (iW t1 rfl ?_ (by rw[aO];omega) (by rw[Array.size_push,aO];omega))
   have gS:=get?_update_seq t1 (·.push ku)
   rw[ea]at gS
   refine ao ⟨rfl,ks++[kv],kus++[ku],_,H2,_,I2.recS hS (fun p hpp=>?_) (fun p hpp=>(hp p (dh _ hpp)).1) gS (fun v z=>by cases z),Yg rku rk,rr,?_,hZ2,hw2⟩
   ·rcases bY.mp hpp with z | z
    ·exact(hp p (aU _ z)).1
    ·rw[aY.mp z];exact hDS
   ·rw[aK,eU];omega
 ·obtain⟨ks,kus,n,H1,vr,I1,rk,rv0,hl,hZ1,hw⟩:=hd
  cases rv0
  rw[cY]at hl;obtain⟨t1,t2,t3,t4,t5⟩:=I1.pin (S,seqObj "list" kus.toArray n) (aU _ (aU _ bD))
  refine aj (listItems_at t1 rfl ?_)
  have hu:X.A.in1.in1.units+64<cLine:=by have:=hr.un;show X.A.units+1+1+64<_;omega
  exact A6b hu hD hS hDS hp I1 hz rv rk (by omega) hw hP
theorem Ao2 {k:Nat}{f:Addr}{Z:Hp->Prop}{Ky:V->Hp->VK->Prop}{a:Addr}{vs:m7}(run:B1p X pins σ f Z Ky)(hr:Room (k+2) X.A)
 (I:Inv X pins σ H s) (hZ:Z H) (hq:SqL X.K H a vs\/SqT X.K H a vs) (h:Ak9 Ky vs [] H (fun ks H1=>A4b vs ks H1 Q)) :
 wpAny (model X.prog X.w) X.A (call (.builtin "sorted") [.ref a] [(Str.ofString "key",.ref f)]) (EP X pins σ Q) E s:=by
 obtain⟨us,T,o,n,rv,hT,ho,hcl,hd,hz⟩:∃(us:w6) (T:String) (o:Obj) (n:Nat),Vals vs us/\(T = "list" \/ T = "tuple")/\s.heap.get? a=some o/\o.cls=.type T/\o.data=.seq us.toArray n/\vs.length<=sizeLine:=by
  rcases hq with hq | hq
  ·obtain⟨us,rv,⟨o,n,g1,g2,g3,g4⟩,hz⟩:=I.list hq
   exact⟨us, "list",o,n,rv,.inl rfl,g1,g2,by first | exact g3 | exact g4,hz⟩
  ·obtain⟨us,rv,it,hz⟩:=I.tuple hq
   obtain⟨o,g1,g2,n,g3⟩:=it;exact⟨us, "tuple",o,n,rv,.inr rfl,g1,g2,g3,hz⟩
 have hlen:=rv.length
 refine call_function_entry_kw kind_sorted plain_sorted entry_sorted (ksk_s1 _ _) ?_
 unfold Builtin.«sorted»
 refine aj (m:=checkCount "sorted" 1 1 _) (ao ?_)
 refine aj (wpAny_collect_seq a hT ho hcl hd (fun g kg=>?_) (by rw[aO];omega))
 refine aj (wpAny_newList ?_ (by simp;omega))
 have I1:Inv X pins σ H { s with heap:=g }:=I.kept (t':=s.toks) kg
 have le:∀b o,s.heap.get? b=some o->b<g.objs.size:=fun b o e=>aA (kg b o e)
 have lo:X.s₀.heap.objs.size<=g.objs.size:=I1.sz;generalize hg1:g.push (seqObj "list" us.toArray 0)=g1
 have e1:g1.objs.size=g.objs.size+1:=by rw[<- hg1,size_push']
 have gD:g1.get? g.objs.size=some (seqObj "list" us.toArray 0):=by rw[<- hg1];exact aH _ rfl
 refine aj (cG (wpAny_call_entry_kw slot_list_sort ⟨_,gD,rfl⟩ entry_list_sort ?_ (ksk_l1 _ _)))
 show wpAny (model X.prog X.w) X.A.in1.in1 (Builtin.«list.sort» ⟨[.ref g.objs.size],[(Str.ofString "key",.ref f)]⟩) _ _ _
 rw[ksk_t1];unfold ksk_tree
 refine aj (listItems_at gD rfl ?_)
 refine aj (iW gD rfl ?_ (by rw[aO];omega) (aW _))
 generalize hg2:g1.update g.objs.size (Obj.mapSeq fun _=>(#[]:v6))=g2
 obtain⟨n1,gD1⟩:∃n1,g2.get? g.objs.size=some (seqObj "list" #[] n1):=⟨_,by rw[<- hg2];exact get?_update_seq gD fun _=>#[]⟩
 have e2:g2.objs.size=g.objs.size+1:=by rw[<- hg2,Heap.size_update,e1]
 refine aj (seqEpoch_at gD1 rfl ?_)
 refine aj (wpAny_newTuple ?_ (by simp;omega))
 refine aj (wpAny_newList ?_ (aW _))
 refine cG ?_
 generalize hg3:g2.push { cls:=.type "tuple",data:=.seq us.toArray.toList.toArray }=g3
 have e3:g3.objs.size=g.objs.size+2:=by rw[<- hg3,b_,e2]
 have fD:=I1.fpOk (b:=g.objs.size) (aq _) (I1.hok.fresh (aq _))
 have fS:=I1.fpOk (b:=g3.objs.size) (by show g.objs.size<=_;omega) (I1.hok.fresh (by show g.objs.size<=_;omega))
 have keep:∀b u,g.get? b=some u->(g3.push { cls:=.type "list",data:=.seq ([]:w6).toArray }).get? b=some u:=fun b u e=>by
  have hlt:b<g.objs.size:=aA e
  have q1:g1.get? b=some u:=by rw[<- hg1];exact aG _ e
  have q2:g2.get? b=some u:=by rw[<- hg2];exact(cz _ _ (cj hlt)).trans q1
  have q3:g3.get? b=some u:=by rw[<- hg3];exact aG _ q2
  exact aG _ q3
 have I2:Inv X pins σ H { s with heap:=g3.push { cls:=.type "list",data:=.seq ([]:w6).toArray } }:=I1.kept (t':=s.toks) keep
 have gS:(g3.push { cls:=.type "list",data:=.seq ([]:w6).toArray }).get? g3.objs.size=some (seqObj "list" #[] 0):=aH _ rfl
 have gD2:(g3.push { cls:=.type "list",data:=.seq ([]:w6).toArray }).get? g.objs.size=some (seqObj "list" #[] n1):=aG _ (by rw[<- hg3];exact aG _ gD1)
 have I3:Inv X (pins++[(g3.objs.size,seqObj "list" #[] 0),(g.objs.size,seqObj "list" #[] n1)]) σ H { s with heap:=g3.push { cls:=.type "list",data:=.seq ([]:w6).toArray } }:=I2.pins_of fun p hpp=>by
  rcases bY.mp hpp with z | z
  ·exact I2.pin p (aU _ z)
  ·rcases az.mp z with rfl | z
   ·exact⟨gS,fS.1,fS.2.1,fS.2.2.1,fun v z=>by cases z⟩
   ·rw[aY.mp z]
    exact⟨gD2,fD.1,fD.2.1,fD.2.2.1,fun v z=>by cases z⟩
 refine A2j (us:=us) (D:=g.objs.size) (S:=g3.objs.size) run hr lo (au lo (by omega)) (fun z=>by have z:g.objs.size=g3.objs.size:=z;omega) (fun p hpp=>⟨fun z=>?_,fun z=>?_⟩) I3 hZ hz rv h fun s' q=>⟨_,rfl,ao ⟨_,rfl,q⟩⟩
 ·exact absurd (aA (I1.pin p hpp).1) (by rw[z];show ¬ (g3.objs.size<g.objs.size);omega)
 ·exact absurd (aA (I1.pin p hpp).1) (by rw[z];show ¬ (g.objs.size<g.objs.size);omega)
theorem Ar2 {k:Nat}{f:Addr}{fd:u_}{ps:v4}{sp:Sp}{a:Addr}{vs:m7}(F:FnOk X.prog X.w X.K X.mg X.base CX0 k f fd ps sp)(hr:Room (k+2) X.A)(hb:Binds X.K fd ps [])
 (I:Inv X pins σ H s) (hq:SqL X.K H a vs\/SqT X.K H a vs) (h:Av2 sp vs [] H (fun ks H1=>A4b vs ks H1 Q)) :
 wpAny (model X.prog X.w) X.A (call (.builtin "sorted") [.ref a] [(Str.ofString "key",.ref f)]) (EP X pins σ Q) E s :=
 Ao2 (Z:=fun _=>True) (fun pins' s H x u Q' I _ r hk=>a_ (Bk8 F hr hb I (.cons r .nil) hk) (fun _ _ ⟨v,H',I',r',q⟩=>⟨v,H',I',r',trivial,q⟩) fun _ _ z=>z) hr I trivial hq h
end
section
variable {X:Cx}{p pos:Pos}{e:Expr}{t tk:TA}{kws:List Keyword}
def Bz0 (K:v_)(f:Addr)(sp:Sp)(t tk:TA):TE:=fun σ H Q=>t σ H fun vs H1=>tk σ H1 fun zs H2=>∃a xs,vs=[.ref a]/\zs=[.ref f]/\(SqL K H2 a xs\/SqT K H2 a xs)/\Av2 sp xs [] H2 (fun ks H3=>A4b xs ks H3 Q)
theorem A6g {k:Nat}{f:Addr}{fd:u_}{ps:v4}{sp:Sp}(F:FnOk X.prog X.w X.K X.mg X.base CX0 k f fd ps sp)(hr:Room (k+2) X.A)(hb:Binds X.K fd ps [])(hg:Gl X "sorted") (hm:X.mg "sorted" = none)
 (ha:PA X [e] t) (hkw:PK X kws tk) (hall:(backToKw pos (keywordEach kws X.env)).all (·.1.isSome)=true:=by rfl) (hks:(backToKw pos (keywordEach kws X.env)).filterMap (·.1)=[Str.ofString "key"]:=by rfl)
 (he:backTo pos (starEach [e] X.env)=(false,eval e X.env)::backTo pos (starEach [] X.env):=by rfl) (hpl:(backTo pos (starEach [e] X.env)).any (·.1)=false:=by rfl) (hno:(backToKw pos (keywordEach kws X.env)).any (·.1.isNone)=false:=by rfl) :
 PE X (.Call (.Name "sorted" p) [e] kws pos) (Bz0 X.K f sp t tk):=by
 intro pins s σ H Q I h
 refine iw (J9 I hg hm boot_sorted ?_ (by decide) (by decide))
 refine PyProof.Rows.callWith_kw (thn (ha pos pins s σ H _ I h) fun us s1 ⟨vs,H1,I1,r,q⟩=>?_) he hpl hall hno
 refine thn (hkw pos pins s1 σ H1 _ I1 q) fun ws s2 ⟨zs,H2,I2,rz,q2⟩=>?_
 obtain⟨a,xs,rfl,rfl,hq,hw⟩:=q2;obtain⟨u,rfl,ru⟩:=vals1 r
 cases (show u=Value.ref a from ru)
 obtain⟨uf,rfl,rf⟩:=vals1 rz
 cases (show uf=Value.ref f from rf)
 rw[hks];exact Ar2 F hr hb I2 hq hw
theorem Al6 {Kq:v_}(hKq:X.K=Kq){k:Nat}{f:Addr}{fd:u_}{ps:v4}{sp:Sp}(F:FnOk X.prog X.w X.K X.mg X.base CX0 k f fd ps sp)(hr:Room (k+2) X.A)(hb:Binds X.K fd ps [])(hg:Gl X "sorted") (hm:X.mg "sorted" = none)
 (ha:QA X [e] t) (hkw:QK X kws tk) (hall:(backToKw pos (keywordEach kws X.env)).all (·.1.isSome)=true:=by rfl) (hks:(backToKw pos (keywordEach kws X.env)).filterMap (·.1)=[Str.ofString "key"]:=by rfl)
 (he:backTo pos (starEach [e] X.env)=(false,eval e X.env)::backTo pos (starEach [] X.env):=by rfl) (hpl:(backTo pos (starEach [e] X.env)).any (·.1)=false:=by rfl) (hno:(backToKw pos (keywordEach kws X.env)).any (·.1.isNone)=false:=by rfl) :
 QE X (.Call (.Name "sorted" p) [e] kws pos) (Bz0 Kq f sp t tk):=by
 subst hKq;exact⟨A6g F hr hb hg hm ha.get hkw.get hall hks he hpl hno⟩
end
end L2
namespace L2
open PySem PySem.Spec PyProof.Rows
section
variable {X:Cx}
def B0s:V->p7->p7->Hp->VK->Prop:=fun x lo hi H Q=>∃z:Str,x=.str z/\z.length<=sizeLine/\Q (.str (Txt.slice z lo hi)) H
theorem part_of {v:Value}{o:p7}(h:IsPart v o):∃p:Option (Int×Tok),v=partValue p/\p.map (·.1)=o:=by
 cases h with
 | none=>exact⟨none,rfl,rfl⟩
 | int i t=>exact⟨some (i,t),rfl,rfl⟩
theorem Br3:SlR X B0s:=by
 intro pins s σ H x v vl vu lo hi sl Q I rx hs pl pu h;obtain⟨z,rfl,hz,q⟩:=h;obtain⟨t,rfl⟩:=rx;obtain⟨l,rfl,rfl⟩:=part_of pl;obtain⟨u,rfl,rfl⟩:=part_of pu
 refine⟨"str",_,F.slot_str_getitem.lookup,typeIs_str _ _ _,wpAny_getItem_str_slice (l:=l) (u:=u) (st:=none) hs rfl ?_⟩
 exact post_val_or_str ⟨au (Txt.slice_le z _ _) hz,fun t' k=>⟨.str _,H,I.tok _,⟨_,rfl⟩,q⟩⟩
end
section
variable {P:t6}{w:World}{A:p6}{E:z_}{s:q9}
structure Bf0 (h:Heap) (t1 t2:Bool) (z ti to i1 i2 a b p0:Addr) (b1:Bool) (k:Nat):Prop where
 zip:h.get? z=some { cls:=.type "zip",data:=.fields #[rawInt p0,.bool b1,.bool false,.ref ti,.ref to] }
 ins:IsPair h ti (.ref i1) (.ref i2)
 held:∃o,h.get? p0=some o
 one:ItAt t1 h i1 a k
 two:ItAt t2 h i2 b k
theorem Af2 {M:Model}{p:Addr}{o:Obj}{Q:Option Obj->q9->Prop}(e:s.heap.get? p=some o)(h:Q (some o) s):wpAny M A (loadIfAlive p) Q E s:=fun Γ q hΓ=>by
 show Sem.wp M Γ (.loadIfAlive p fun x=>.pure x) _ _ q s
 rw[Sem.wp_loadIfAlive,e];exact(ao h:wpAny M A (pure (some o)) Q E s) Γ q hΓ
theorem Ai4 {z ti to p0:Addr}{b1:Bool}{o0:Obj}{Q:Bool->q9->Prop}(hz:s.heap.get? z=some { cls:=.type "zip",data:=.fields #[rawInt p0,.bool b1,.bool false,.ref ti,.ref to] }) (e0:s.heap.get? p0=some o0)
 (q:∀g1:Heap,g1.get? z=some { cls:=.type "zip",data:=.fields #[rawInt p0,.bool true,.bool false,.ref ti,.ref to] }->Heap.SameBut z s.heap g1->Q false { s with heap:=g1 }):wpAny (model P w) A (Builtin.SmallTypes.ownedTupleIsFree (.ref z)) Q E s:=by
 unfold Builtin.SmallTypes.ownedTupleIsFree;apply aj;apply bA hz rfl (x:=rawInt p0) rfl;unfold rawInt
 dsimp only
 refine aj (Af2 (o:=o0) (by simpa using e0) ?_)
 simp only[Option.isNone_some,bO,aZ]
 refine aj ?_
 apply bA hz rfl (x:=.bool b1) rfl
 cases b1 with
 | true=>exact ao (q s.heap hz (Heap.SameBut.refl _ _))
 | false =>
  rw[if_pos (by decide)]
  apply aj
  apply fC hz (by simp)
  intro g1 z1 c1;exact ao (q g1 z1 c1)
theorem A3m {t1 t2:Bool}{z ti to i1 i2 a b p0:Addr}{b1:Bool}{k:Nat}{xs ys:v6}{x x':Value}{Q:z_}(d:zE z ti to i1 i2 a b)(y:Bf0 s.heap t1 t2 z ti to i1 i2 a b p0 b1 k)(hp:p0∉[z,ti,to,i1,i2])
 (ha:SqA t1 s.heap a xs) (hb:SqA t2 s.heap b ys) (hx:xs[k]?=some x) (hx':ys[k]?=some x')
 (q:∀h',Bf0 h' t1 t2 z ti to i1 i2 a b p0 true (k+1)->IsPair h' s.heap.objs.size x x'->(∀c o,c∉[z,ti,to,i1,i2]->s.heap.get? c=some o->h'.get? c=some o)->Q (.ref s.heap.objs.size) { s with heap:=h' }) :
 wpAny (model P w) A (Builtin.«zip.__next__» ⟨[.ref z],[]⟩) (fun f z=>∃v,f=.done (.ret v)/\Q v z) E s:=by
 have na:=d.na;have nb:=d.nb;simp only[az,aM,aN,not_or]at na nb hp;obtain⟨o0,e0⟩:=y.held;apply aj (m:=field (.ref z) 2);apply bA y.zip rfl (x:=.bool false) rfl;apply aj (m:=field (.ref z) 3);apply bA y.zip rfl (x:=.ref ti) rfl;apply aj;apply cU y.ins rfl;apply aj (m:=Builtin.SmallTypes.ownedTupleIsFree (.ref z))
 refine Ai4 y.zip e0 fun g1 z1 c1=>?_
 simp only[bO,aZ];apply aj;rw[<- gF];simp only[e_,gf];apply aj;apply aj;apply cG;apply aj (m:=Builtin.SmallTypes.nextOf (.ref i1))
 refine next_item (y.one.stay fun o e=>c1.extBut _ _ d.z_i1 e) (ha.stay fun o e=>c1.extBut _ _ na.1 e) hx fun g2 n1 c2=>?_
 apply ao;apply ao;apply aj;apply aj;apply cG;apply aj (m:=Builtin.SmallTypes.nextOf (.ref i2))
 refine next_item (y.two.stay fun o e=>c2.extBut _ _ d.i1_i2.symm (c1.extBut _ _ d.z_i2 e)) (hb.stay fun o e=>c2.extBut _ _ nb.2.2.2.1 (c1.extBut _ _ nb.1 e)) hx' fun g3 n2 c3=>?_
 apply ao;apply ao;apply ao;apply aj
 refine wpAny_newTuple ?_ (show 2<=sizeLine by decide)
 have sz:g3.objs.size=s.heap.objs.size:=by rw[c3.1,c2.1,c1.1]
 have all3:∀c o,c≠z->c≠i1->c≠i2->s.heap.get? c=some o->g3.get? c=some o:=fun c o p1 p3 p4 e=>c3.extBut _ _ p4 (c2.extBut _ _ p3 (c1.extBut _ _ p1 e))
 refine ao ⟨_,rfl,?_⟩
 show Q (.ref g3.objs.size) _
 rw[sz]
 have up:∀{c:Addr} {o:Obj},g3.get? c=some o->(g3.push { cls:=.type "tuple",data:=.seq #[x,x'] }).get? c=some o:=fun e=>aG _ e
 refine q _ ⟨up (c3.extBut _ _ d.z_i2.symm (c2.extBut _ _ d.z_i1.symm z1)),up (all3 _ _ d.z_ti d.ti_i1 d.ti_i2 y.ins),⟨o0,up (all3 _ _ hp.1 hp.2.2.2.1 hp.2.2.2.2 e0)⟩,(n1.stay fun o e=>c3.extBut _ _ d.i1_i2 e).stay fun o e=>up e,n2.stay fun o e=>up e⟩ (by rw[<- sz];exact aH _ rfl) fun c o p e=>?_
 simp only[az,aM,aN,not_or]at p;exact up (all3 c o p.1 p.2.2.2.1 p.2.2.2.2 e)
end
section
variable {P:t6}{w:World}{A:p6}{E:z_}{s:q9}{t1 t2:Bool}{z ti to i1 i2 a b p0:Addr}{b1:Bool}{k:Nat}{xs ys:v6}
theorem A0w {F:Fin->q9->Prop}(quiet:A.handled=none)(d:zE z ti to i1 i2 a b)(y:Bf0 s.heap t1 t2 z ti to i1 i2 a b p0 b1 k)(ha:SqA t1 s.heap a xs)(hx:xs[k]?=none)
 (q:∀h' e,(∀c o,c∉[z,ti,to,i1,i2]->s.heap.get? c=some o->h'.get? c=some o)->(∃o,h'.get? e=some o/\o.cls=.type "StopIteration")->E (.ref e) { s with heap:=h' }) :
 wpAny (model P w) A (Builtin.«zip.__next__» ⟨[.ref z],[]⟩) F E s:=by
 have na:=d.na;simp only[az,aM,aN,not_or]at na;obtain⟨o0,e0⟩:=y.held;apply aj (m:=field (.ref z) 2);apply bA y.zip rfl (x:=.bool false) rfl;apply aj (m:=field (.ref z) 3);apply bA y.zip rfl (x:=.ref ti) rfl;apply aj;apply cU y.ins rfl;apply aj (m:=Builtin.SmallTypes.ownedTupleIsFree (.ref z))
 refine Ai4 y.zip e0 fun g1 z1 c1=>?_
 simp only[bO,aZ];apply aj;rw[<- gF];simp only[e_,gf];apply aj;apply aj;apply cG;apply aj (m:=Builtin.SmallTypes.nextOf (.ref i1))
 refine next_end quiet (y.one.stay fun o e=>c1.extBut _ _ d.z_i1 e) (ha.stay fun o e=>c1.extBut _ _ na.1 e) hx fun g2 x c2 hx2=>?_
 refine q g2 x (fun c o p e=>?_) hx2
 simp only[az,aM,aN,not_or]at p;exact c2 _ _ p.2.2.2.1 (c1.extBut _ _ p.1 e)
def Zs (h:Heap)(t1 t2:Bool)(z ti to i1 i2 a b:Addr)(k:Nat):Prop:=(k=0/\ZipAt h t1 t2 z ti to i1 i2 a b .none 0)\/∃p0 b1,p0∉[z,ti,to,i1,i2]/\Bf0 h t1 t2 z ti to i1 i2 a b p0 b1 k
theorem Zs.ty (y:Zs s.heap t1 t2 z ti to i1 i2 a b k):s.TypeIs (.ref z) "zip" := by
 rcases y with ⟨_,y⟩ | ⟨_,_,_,y⟩
 ·exact⟨_,y.zip,rfl⟩
 ·exact⟨_,y.zip,rfl⟩
theorem Zs.lt (y:Zs s.heap t1 t2 z ti to i1 i2 a b k):∀c∈[z,ti,i1,i2],c<s.heap.objs.size:=by
 intro c hc;simp only[az,aM,aN]at hc
 rcases y with ⟨_,y⟩ | ⟨_,_,_,y⟩
 ·rcases hc with rfl | rfl | rfl | rfl
  ·exact aA y.zip
  ·exact aA y.ins
  ·obtain⟨o,e,_⟩:=y.one.obj;exact aA e
  ·obtain⟨o,e,_⟩:=y.two.obj;exact aA e
 ·rcases hc with rfl | rfl | rfl | rfl
  ·exact aA y.zip
  ·exact aA y.ins
  ·obtain⟨o,e,_⟩:=y.one.obj;exact aA e
  ·obtain⟨o,e,_⟩:=y.two.obj;exact aA e
theorem Zs.keep {h h':Heap}(y:Zs h t1 t2 z ti to i1 i2 a b k)(hk:0<k){D:Addr}(nd:D∉[z,ti,to,i1,i2])(sb:Heap.SameBut D h h')(th:∀o,h.get? D=some o->∃o',h'.get? D=some o'):Zs h' t1 t2 z ti to i1 i2 a b k:=by
 simp only[az,aM,aN,not_or]at nd
 rcases y with ⟨e,_⟩ | ⟨p0,b1,hp,y⟩
 ·omega
 ·refine .inr ⟨p0,b1,hp,?_⟩
  obtain⟨o,e⟩:=y.held
  refine⟨sb.extBut _ _ (aJ nd.1) y.zip,sb.extBut _ _ (aJ nd.2.1) y.ins,?_,y.one.stay fun o e=>sb.extBut _ _ (aJ nd.2.2.2.1) e,y.two.stay fun o e=>sb.extBut _ _ (aJ nd.2.2.2.2) e⟩
  by_cases z:p0=D
  ·subst z;exact th o e
  ·exact⟨o,sb.extBut _ _ z e⟩
theorem A2d {x x':Value}{Q:t_->q9->Prop}(d:zE z ti to i1 i2 a b)(hto:to<s.heap.objs.size)(y:Zs s.heap t1 t2 z ti to i1 i2 a b k)(ha:SqA t1 s.heap a xs)(hb:SqA t2 s.heap b ys)(hx:xs[k]?=some x)(hx':ys[k]?=some x')
 (q:∀h',Zs h' t1 t2 z ti to i1 i2 a b (k+1)->IsPair h' s.heap.objs.size x x'->s.heap.objs.size<h'.objs.size->(∀c o,c∉[z,ti,to,i1,i2]->s.heap.get? c=some o->h'.get? c=some o)->Q (some (.ref s.heap.objs.size)) { s with heap:=h' }) :
 wpAny (model P w) A (pyNext (.ref z)) Q E s:=by
 have ty:=y.ty;unfold pyNext;apply aj;apply cP
 refine cB (name:="__next__") ty dR ?_
 refine bJ dR ty iQ ?_ (iR _)
 have no:s.heap.objs.size∉[z,ti,to,i1,i2]:=fun m=>by
  have l:=y.lt;simp only[az,aM,aN]at m
  rcases m with m | m | m | m | m
  ·exact absurd (l z (by simp)) (by rw[<- m];exact bh _)
  ·exact absurd (l ti (by simp)) (by rw[<- m];exact bh _)
  ·exact absurd hto (by rw[<- m];exact bh _)
  ·exact absurd (l i1 (by simp)) (by rw[<- m];exact bh _)
  ·exact absurd (l i2 (by simp)) (by rw[<- m];exact bh _)
 rcases y with ⟨rfl,y⟩ | ⟨p0,b1,hp,y⟩
 ·refine Ah8 d y ha hb hx hx' fun h1 z1 new kp=>?_
  exact ao (q h1 (.inr ⟨s.heap.objs.size,false,no,⟨z1.zip,z1.ins,⟨_,new⟩,z1.one,z1.two⟩⟩) new (aA new) kp)
 ·refine A3m d y hp ha hb hx hx' fun h1 z1 new kp=>?_
  exact ao (q h1 (.inr ⟨p0,true,hp,z1⟩) new (aA new) kp)
theorem ZipAt.kept {h h':Heap}{f0:Value}(y:ZipAt h t1 t2 z ti to i1 i2 a b f0 k)(kp:∀c o,h.get? c=some o->h'.get? c=some o):ZipAt h' t1 t2 z ti to i1 i2 a b f0 k:=by
 obtain⟨u,v,e⟩:=y.outs
 exact⟨kp _ _ y.zip,kp _ _ y.ins,⟨u,v,kp _ _ e⟩,y.one.stay fun o e=>kp _ _ e,y.two.stay fun o e=>kp _ _ e⟩
end
end L2
namespace L2
open PySem PySem.Spec PyProof.Rows PySem.W
section
variable {X:Cx}{pins:y_}{σ:St}{H H':Hp}{s s':q9}{CX:CXT}{k:Nat}{f:Addr}{fd:u_}{ps:v4}{sp:Sp}{dvs:m7}{ds:w6}{E:XK}{x:Str}{p pos:Pos}{e:Expr}{es:u5}{t:TA}{Q:VK}
def B2j (a C:Addr):HO:=.ext fun h=>∃o,h.get? a=some o/\o.cls=.ref C
end
end L2
namespace L2
open PySem PySem.Spec PyProof.Rows
def TabAt (K:v_)(h:Heap):Prop:=(∀p∈Ff K,h.get? p.1=some { cls:=.none,data:=.fields #[] }/\isCodeTable h p.1/\K.lookup p.1=none)/\∀p∈Ff K,(Ff K).lookup p.1=some p.2
theorem J3 {l:List (Addr×Str)}{b:Addr}{q:Str}(h:l.lookup b=some q):(b,q)∈l:=by
 induction l with
 | nil=>cases h
 | cons p r ih =>
  obtain⟨c,y⟩:=p;rw[bu]at h
  split at h
  ·rename_i e
   have:b=c:=by simpa using e
   subst this
   cases h
   exact bD
  ·exact bx _ (ih h)
theorem A2h {P:t6}{w:World}{K:v_}{mg mb:x_}{CX:CXT}{k:Nat}{fa a:Addr}{fd:u_}{x:Str}{sp:Sp}{s₁:q9}{vs:w6}{ns:List Int}
 (KX:K.In s₁.heap) (hns:s₁.heap.Ns mainGlobals mg) (hb:s₁.heap.Ns builtinsNs mb) (hbb:∀x:Str,x ≠ "__name__" -> mb x=bootBuiltins x) (hlim:s₁.heap.NoLimit) (hg:s₁.gens=#[])
 (hbm:∃bm o,mg "__builtins__" = some (.ref bm)/\bm≠builtinsNs/\s₁.heap.get? bm=some o/\o.cls=.type "module" /\ o.dict=some builtinsNs/\o.data=.plain) (hT:TabAt K s₁.heap)
 (ha:s₁.heap.get? a=some { cls:=.type "list",data:=.seq vs.toArray }) (hi:IntsAre vs ns) (hl:ns.length<=sizeLine) (hr:Room k callerA)
 (F:∀base:Heap,K.In base->base.Ns mainGlobals mg->FnOk P w K mg base CX k fa fd [x] sp) (hbind:∀(s:q9) (u:Value),BindsTo s fd ⟨[u],[]⟩ [(x,u)])
 (hsp:∀H:Hp,SqL K H a (ns.map V.int)->sp [.ref a] H (fun v _=>v=.bl true) fun _ _ _=>False)
 (hCX:∀H e s',CX [] H s₁ (fun _ _ _=>False) e s'->False) :
 codeAny (model P w) callerA (.call (.ref fa) ⟨[.ref a],[]⟩) (fun r s'=>r=.ok (.ret (.bool true))/\OldK s₁.heap s'.heap/\s'.os=s₁.os/\AllBare s'.gens) s₁:=by
 have rv:=Yh hi;have lenV:=hi.length
 have neA:∀p∈Ff K,p.1≠a:=fun p hp z=>by
  have e:=(hT.1 p hp).1;rw[z,ha]at e;cases e
 have core:∀H:Hp,SqL K H a (ns.map V.int)->HOk P w H s₁.heap->(∀b u,H b=some u->(b=a/\K.lookup a=none/\∃o xs,u=.frz o (.lst xs))\/∃q,(b,q)∈Ff K/\u=.tbl q)->(∀p∈Ff K,H p.1=some (.tbl p.2)) ->
  codeAny (model P w) callerA (.call (.ref fa) ⟨[.ref a],[]⟩) (fun r s'=>r=.ok (.ret (.bool true))/\OldK s₁.heap s'.heap/\s'.os=s₁.os/\AllBare s'.gens) s₁:=by
  intro H hS hok hA hH
  have base_of:∀{b:Addr} {o:Obj},s₁.heap.get? b=some o->H b=none->(Xm s₁.heap H).get? b=some o:=fun e n=>A6a e n
  have noA:∀{b:Addr} {o:Obj},s₁.heap.get? b=some o->(∀x n,o.data≠.seq x n)->(∀x,o.data≠.fields x)->H b=none:=fun {b o} e d1 d2=>by
   cases q:H b with
   | none=>rfl
   | some u =>
    rcases hA b u q with ⟨z,_⟩ | ⟨y,hy,_⟩
    ·rw[z,ha]at e;cases e;exact absurd rfl (d1 _ _)
    ·have e1:=(hT.1 _ hy).1
     rw[e]at e1;cases e1;exact absurd rfl (d2 _)
  have nsK:∀{b:Addr} {m:x_},s₁.heap.Ns b m->(Xm s₁.heap H).Ns b m:=fun {b m} ⟨o,es,ep,e,d,r⟩=>⟨o,es,ep,base_of e (noA e (fun x n z=>by rw[d]at z;cases z) fun x z=>by rw[d]at z;cases z),d,r⟩
  have hKb:K.In (Xm s₁.heap H):=fun b o e=>base_of (KX b o e) (by
   cases q:H b with
   | none=>rfl
   | some u =>
    rcases hA b u q with ⟨z,z2,_⟩ | ⟨y,hy,_⟩
    ·rw[z,z2]at e;cases e
    ·rw[(hT.1 _ hy).2.2]at e;cases e)
  have hBm:∃bm o,mg "__builtins__" = some (.ref bm)/\bm≠builtinsNs/\bm≠mainGlobals/\(Xm s₁.heap H).get? bm=some o/\o.cls=.type "module" /\ o.dict=some builtinsNs/\o.data=.plain:=by
   obtain⟨bm,o,b1,b2,b3,b4,b5,b6⟩:=hbm
   refine⟨bm,o,b1,b2,fun z=>?_,base_of b3 (noA b3 (fun x n z=>by rw[b6]at z;cases z) fun x z=>by rw[b6]at z;cases z),b4,b5,b6⟩
   obtain⟨og,es,ep,e,d,_⟩:=hns;rw[z,e]at b3;cases b3;rw[d]at b6;cases b6
  have hM:Mod K mg (Xm s₁.heap H):=⟨hKb,nsK hns,⟨mb,nsK hb,hbb⟩,(let ⟨mc,h1,h2⟩:=hlim; ⟨mc,nsK h1,h2⟩),hBm⟩
  have e0:Env0 P w K mg (Xm s₁.heap H) callerA [] s₁ H:=⟨rfl,hM,fun b o e=>Bj0 e,fZ (A1u _ _),trivial,fun b hb=>absurd (show b∈([]:v5) from hb) (by simp),hH,hok,.of_eq hg⟩
  refine iu ((F _ hKb (nsK hns)).run callerA [] s₁ H ⟨[.ref a],[]⟩ [.ref a] [.ref a] _ _ hr e0 (hbind s₁ (.ref a)) (.cons rfl .nil) (hsp H hS)) fun r s' h=>?_
  cases r with
  | error e=>exact(hCX H e s' h).elim
  | ok fl =>
   cases fl with
   | next=>exact False.elim h
   | brk=>exact False.elim h
   | cont=>exact False.elim h
   | ret u =>
    obtain⟨v,H',os,bare,un,hok',r',q⟩:=h;have q':v=.bl true:=q;subst q';obtain rfl:u=Value.bool true:=r'
    refine⟨rfl,⟨fun b o e=>?_,fun b o e=>un.there b o e (by simp)⟩,os,bare⟩
    cases q:H b with
    | none=>exact .inl (un.keep b o e q (by intro z;exact absurd (show b∈([]:v5) from z) (by simp)) (by simp))
    | some u =>
     rcases hA b u q with ⟨_,_,ob,xs,rfl⟩ | ⟨y,hy,rfl⟩
     ·have z2:=un.frzs b ob _ q
      obtain⟨e1,_⟩:=hok b _ q;obtain⟨e2,_⟩:=hok' b _ z2;rw[e]at e1;cases e1;exact .inl e2
     ·obtain⟨ps,e2,_⟩:=hok' b _ (un.tbls b y q)
      obtain⟨t1,t2,_⟩:=hT.1 _ hy;rw[e]at t1;cases t1
      exact .inr (.inl ⟨t2,rfl,#[],ps,rfl,by rw[e2];simp⟩)
 have tabOk:∀(H:Hp) (p:Addr×Str),p∈Ff K->zG P w H s₁.heap p.1 (.tbl p.2):=fun H p hp=>⟨#[],(hT.1 p hp).1,trivial,fun pos cv z=>by cases z⟩
 cases hk:K.lookup a with
 | some o =>
  have e:=KX a o hk;rw[ha]at e
  cases e
  refine core (fun b=>((Ff K).lookup b).map .tbl) (.inr ⟨_,vs.toArray,_,hk,rfl,rfl,rfl,by rw[aO,lenV];exact hl,by simpa using rv⟩) (fun b u z=>?_) (fun b u z=>?_) fun p hp=>?_
  ·obtain⟨q,e1,rfl⟩:=bB.mp z
   exact tabOk _ (b,q) (J3 e1)
  ·obtain⟨q,e1,rfl⟩:=bB.mp z
   exact .inr ⟨q,J3 e1,rfl⟩
  ·show ((Ff K).lookup p.1).map HO.tbl=_
   rw[hT.2 p hp];rfl
 | none =>
  refine core (fun b=>if b=a then some (.frz { cls:=.type "list",data:=.seq vs.toArray } (.lst (ns.map V.int))) else ((Ff K).lookup b).map .tbl) (.inl (.inr ⟨{ cls:=.type "list",data:=.seq vs.toArray },if_pos rfl⟩)) (fun b u z=>?_) (fun b u z=>?_) fun p hp=>?_
  ·by_cases hb:b=a
   ·have z':=(if_pos hb).symm.trans z
    cases z'
    subst hb
    exact⟨ha,by rw[ak];exact hl,vs,_,rv,ha⟩
   ·have z':=(if_neg hb).symm.trans z
    obtain⟨q,e1,rfl⟩:=bB.mp z';exact tabOk _ (b,q) (J3 e1)
  ·by_cases hb:b=a
   ·have z':=(if_pos hb).symm.trans z
    cases z'
    exact .inl ⟨hb,hk,_,_,rfl⟩
   ·have z':=(if_neg hb).symm.trans z
    obtain⟨q,e1,rfl⟩:=bB.mp z';exact .inr ⟨q,J3 e1,rfl⟩
  ·show (if p.1=a then _ else _)=_
   rw[if_neg (neA p hp),hT.2 p hp];rfl
end L2
namespace L2
open PySem PySem.Spec PyProof.Rows PySem.W
def Hj (o:Obj):Bool:=match o.data with
 | .cell _=>false
 | _=>true
def sel (h:Heap)(tabs:List (Addr×Addr×Str))(a:Addr):Option Obj:=(h.get? a).bind fun o=>if (Hj o&&!(tabs.any fun t=>t.2.1==a))=true then some o else none
def Qp (h:Heap)(tabs:List (Addr×Addr×Str)):Frag:=((List.range h.objs.size).filterMap fun a=>(sel h tabs a).map fun o=>(a,o))++tabs.map fun t=>(t.1,Av0 t.2.1 t.2.2)
theorem Qi {f:Nat->Option Obj}{b:Nat}:∀{l:List Nat},(l.filterMap fun a=>(f a).map fun o=>(a,o)).lookup b=if b∈l then f b else none
 | []=>by simp
 | a::l=>by
  rw[eG]
  by_cases e:b=a
  ·subst e
   rw[if_pos bD]
   cases q:f b with
   | none =>
    simp only[Option.map_none];rw[Qi]
    split
    ·exact q
    ·rfl
   | some o=>simp
  ·have h1:(b∈a::l)=(b∈l):=by simp[e]
   simp only[h1]
   cases q:f a with
   | none=>simp only[Option.map_none];exact Qi
   | some o =>
    simp only[gU];rw[bu]
    have:(b==a)=false:=by simp[e]
    rw[this];exact Qi
section
variable {h:Heap}{tabs:List (Addr×Addr×Str)}
theorem Q0 {a:Addr}{o:Obj}(e:sel h tabs a=some o):h.get? a=some o/\Hj o=true/\∀t∈tabs,t.2.1≠a:=by
 obtain⟨o',e1,e2⟩:=cZ.mp e
 split at e2
 ·rename_i c
  cases e2
  obtain⟨c1,c2⟩:=aB.mp c
  refine⟨e1,c1,fun t ht z=>?_⟩
  have:(tabs.any fun t=>t.2.1==a)=true:=List.any_eq_true.mpr ⟨t,ht,by simp[z]⟩
  rw[this]at c2;cases c2
 ·cases e2
theorem Bz7 {a:Addr}{o:Obj}(e:h.get? a=some o)(hp:Hj o=true)(hn:∀t∈tabs,t.2.1≠a):sel h tabs a=some o:=by
 unfold sel;rw[e,dY,if_pos];rw[hp,iY]
 have:(tabs.any fun t=>t.2.1==a)=false:=by
  rw[List.any_eq_false];intro t ht z
  exact hn t ht (by simpa using z)
 rw[this];rfl
theorem O3 {a:Addr}{o:Obj}(e:sel h tabs a=some o):(Qp h tabs).lookup a=some o:=by
 unfold Qp;rw[List.lookup_append,Qi,if_pos (dz.mpr (aA (Q0 e).1)),e];rfl
theorem Vo {a:Addr}{o:Obj}:∀{tabs:List (Addr×Addr×Str)},(tabs.map fun t=>(t.1,Av0 t.2.1 t.2.2)).lookup a=some o->∃t∈tabs,t.1=a
 | [],e=>by cases e
 | t::r,e=>by
  rw[aD,bu]at e
  split at e
  ·rename_i z
   exact⟨t,bD,by simpa using (eq_comm.mp (by simpa using z))⟩
  ·obtain⟨t',h1,h2⟩:=Vo e
   exact⟨t',bx _ h1,h2⟩
theorem B1l (ht:∀t∈tabs,CodeHd h t.1 t.2.1/\h.get? t.2.1=some { cls:=.none,data:=.fields #[] })(nd:∀t∈tabs,(tabs.map fun t=>(t.2.1,t.2.2)).lookup t.2.1=some t.2.2) :
 (Qp h tabs).In h/\TabAt (Qp h tabs) h/\(∀t∈tabs,codeHdIn (Qp h tabs) t.1 t.2.1=true/\(t.2.1,t.2.2)∈Ff (Qp h tabs))/\∀a o,h.get? a=some o->Hj o=true->o.data≠.fields #[]->(Qp h tabs).lookup a=some o:=by
 have look:∀a o,h.get? a=some o->Hj o=true->o.data≠.fields #[]->sel h tabs a=some o:=fun a o e hp hd=>Bz7 e hp fun t m z=>by
  have:=(ht t m).2;rw[z,e]at this;cases this;exact hd rfl
 have code:∀t∈tabs,∃o vs,h.get? t.1=some o/\o.cls=.type "code" /\ o.data=.fields vs/\vs[11]?=some (.ref t.2.1)/\sel h tabs t.1=some o:=fun t m=>by
  obtain⟨o,vs,_,_,_,_,_,_,_,h1,h2,h3,h4,_⟩:=(ht t m).1
  refine⟨o,vs,h1,h2,h3,h4,look t.1 o h1 (by unfold Hj;rw[h3]) fun z=>?_⟩
  rw[h3]at z
  injection z with z
  rw[z]at h4;simp at h4
 have look2:∀{a:Addr} {o:Obj},(Qp h tabs).lookup a=some o->sel h tabs a=some o:=fun {a o} e=>by
  cases q:sel h tabs a with
  | some o'=>rw[O3 q]at e;exact e
  | none =>
   unfold Qp at e;rw[List.lookup_append,Qi]at e
   have e0:(if a∈List.range h.objs.size then sel h tabs a else none)=none:=by
    split
    ·exact q
    ·rfl
   rw[e0]at e
   obtain⟨t,m,z⟩:=Vo (show (tabs.map fun t=>(t.1,Av0 t.2.1 t.2.2)).lookup a=some o from e)
   obtain⟨_,_,_,_,_,_,s⟩:=code t m;rw[z,q]at s;cases s
 have lam:Ff (Qp h tabs)=tabs.map fun t=>(t.2.1,t.2.2):=by
  unfold Ff Qp;rw[List.filterMap_append]
  have e1:((List.range h.objs.size).filterMap fun a=>(sel h tabs a).map fun o=>(a,o)).filterMap (fun p=>Vh p.2)=[]:=by
   rw[List.filterMap_eq_nil_iff];intro p hp;obtain⟨a,_,e⟩:=List.mem_filterMap.mp hp;obtain⟨o,e1,rfl⟩:=bB.mp e;have hd:=(Q0 e1).2.1
   show Vh o=none
   unfold Vh;unfold Hj at hd
   split
   ·rename_i z;rw[z]at hd;cases hd
   ·rfl
  have e2:(tabs.map fun t=>(t.1,Av0 t.2.1 t.2.2)).filterMap (fun p=>Vh p.2)=tabs.map fun t=>(t.2.1,t.2.2):=by
   clear look look2 code nd ht e1
   induction tabs with
   | nil=>rfl
   | cons t r ih =>
    rw[aD,eG]
    show (t.2.1,t.2.2)::_=_
    rw[ih];rfl
  rw[e1,e2,cX]
 have kin:(Qp h tabs).In h:=fun a o e=>(Q0 (look2 e)).1
 refine⟨kin,⟨fun p hp=>?_,fun p hp=>?_⟩,fun t m=>⟨?_,?_⟩,fun a o e hp hd=>O3 (look a o e hp hd)⟩
 ·rw[lam]at hp
  obtain⟨t,m,rfl⟩:=aC.mp hp;obtain⟨o,vs,h1,h2,h3,h4,_⟩:=code t m
  refine⟨(ht t m).2,⟨t.1,o,vs,h1,h2,h3,h4⟩,?_⟩
  cases q:(Qp h tabs).lookup t.2.1 with
  | none=>rfl
  | some o'=>exact absurd rfl ((Q0 (look2 q)).2.2 t m)
 ·rw[lam]at hp ⊢
  obtain⟨t,m,rfl⟩:=aC.mp hp;exact nd t m
 ·obtain⟨o,vs,_,h2,h3,_,s⟩:=code t m
  obtain⟨o',vs',f,tf,fl,tg,b,n,tt,g1,g2,g3,g4,g5,g6,g7,g8,g9,g10⟩:=(ht t m).1;have eo:o'=o:=bK (g1.symm.trans (Q0 s).1);subst eo;have k:=O3 s;obtain⟨oc,od,odt,osl⟩:=o'
  cases (show oc=Value.type "code" from g2)
  cases (show odt=Data.fields vs' from g3)
  unfold codeHdIn;rw[k];simp only[g4,g6,g7,g8,g9]
  simp[g10]
 ·rw[lam];exact aC.mpr ⟨t,m,rfl⟩
end
section
variable {q:t6}{loose:v4}{mean:ExcName->t_}{mg mb:x_}{h:Heap}{K:Frag}
theorem A3e {cd:Value}{x:Str}(hK:∀a o,h.get? a=some o->Hj o=true->o.data≠.fields #[]->K.lookup a=some o)(c:h.CodeRec cd x):codeIn K cd x=true:=by
 obtain⟨a,o,vs,t,rfl,g,d,e⟩:=c
 have k:=hK a o g (by unfold Hj;rw[d]) (fun z=>by rw[d]at z;injection z with z;rw[z]at e;simp at e)
 obtain⟨oc,od,odt,osl⟩:=o
 cases (show odt=Data.fields vs from d)
 show (match K.lookup a with
  | some ⟨_,_,.fields vs,_⟩=>(match vs.toList with | _::.str n _::_=>n==x | _=>false)
  | _=>false)=true
 rw[k];obtain⟨l⟩:=vs
 match l,e with
 | _::.str n u::_,e =>
  have e:some (Value.str n u)=some (Value.str x t):=by simpa using e
  cases e
  simp
theorem Bf3 (T:Top q loose mean mg mb h)(hK:∀a o,h.get? a=some o->Hj o=true->o.data≠.fields #[]->K.lookup a=some o){d:DefRec}{st:Stmt}(hd:d∈recsOf q)(e2:d.params=Lw st)(e3:d.body=J0 st)(e4:d.scope=Aw st) :
 ∃f fd,Fun K d.name d.name st f fd/\mg d.name=some (.ref f):=by
 obtain⟨a,o,pm,code,doc,h1,h2,h3,h4⟩:=T.fn d hd
 have k:=hK a o h2 (by unfold Hj;rw[h3]) fun z=>by rw[h3]at z;cases z
 obtain⟨oc,od,odt,osl⟩:=o
 cases (show odt=_ from h3)
 have ef:PySem.Calls.docDef d.name d.params d.body d.scope pm code doc=fnOf d.name d.name (Lw st) (J0 st) (Aw st) .none .none doc pm none code .none:=by rw[e2,e3,e4];rfl
 refine⟨a,_,⟨⟨oc,od,.none,doc,pm,none,code,.none,osl,ef,k,A3e hK h4⟩,?_⟩,h1⟩
 unfold keepIn;simp only[k]
def A9s (q:t6)(loose:v4)(RN:v4)(x:Str):Bool:=!startupNames.contains x&&!loose.contains x&&!RN.contains x&&!((litsOf q).map (·.1)).contains x&&!((clssOf q loose).map (·.name)).contains x
theorem Eh (T:Top q loose mean mg mb h){RN bs:v4}(hR:(recsOf q).map (·.name)=RN)(hb:bs.all (A9s q loose RN)=true){x:Str}(hx:x∈bs):mg x=none:=by
 have:=bN.mp hb x hx;unfold A9s at this;simp only[cL,Bool.not_eq_true',List.contains_eq_mem,decide_eq_false_iff_not]at this;obtain⟨⟨⟨⟨h1,h2⟩,h3⟩,h4⟩,h5⟩:=this
 exact T.free x h1 h2 (by rw[hR];exact h3) h4 h5
end
theorem A8o {q:t6}{L:List (Str×Arguments×List Stmt×Scope)}(hR:(recsOf q).map (fun d=>(d.name,d.params,d.body,d.scope))=L){i:Nat}{x:Str×Arguments×List Stmt×Scope}(e:L[i]?=some x) :
 ∃d,d∈recsOf q/\d.name=x.1/\d.params=x.2.1/\d.body=x.2.2.1/\d.scope=x.2.2.2:=by
 rw[<- hR,bz]at e;obtain⟨d,h1,rfl⟩:=bB.mp e;exact⟨d,bH h1,rfl,rfl,rfl,rfl⟩
theorem Do {q:t6}{L:List (Str×Arguments×List Stmt×Scope)}(hR:(recsOf q).map (fun d=>(d.name,d.params,d.body,d.scope))=L):(recsOf q).map (·.name)=L.map (·.1):=by
 rw[<- hR,cQ];rfl
theorem A9t {K:Frag}{x qual y:Str}{st:Stmt}{f:Addr}{fd:u_}(F:Fun K x qual st f fd)(h:∀(kV doc pm:Value) (an:Option Addr) (cdv ct:Value) (s:q9) (u:Value),BindsTo s (fnOf x qual (Lw st) (J0 st) (Aw st) .none kV doc pm an cdv ct) ⟨[u],[]⟩ [(y,u)]):∀(s:q9) (u:Value),BindsTo s fd ⟨[u],[]⟩ [(y,u)]:=by
 obtain⟨oc,od,kV,doc,pm,an,cdv,ct,osl,rfl,lk,_⟩:=F.ex
 exact fun s u=>h kV doc pm an cdv ct s u
end L2
namespace L2
open PySem PySem.Spec PyProof.Rows
section
variable {prog:t6}{w:World}{K:Type}[DecidableEq K]{knd:HeapKind prog w K}{A:p6}{E:z_}{s:q9}
theorem A2r {d a:Addr}{xs:List (K×Addr×Value)}{k:K}{v:Value}{Q:z_}(hu:knd.room A)(hk:knd.is s.heap k a)(hm:s.heap.DictOfH knd d xs)(hsz:xs.length<=sizeLine)
 (old:∀p,atKey xs k=some p->Q p.2 { s with toks:=s.toks+knd.draws k })
 (new:atKey xs k=none->∀h',h'.DictOfH knd d (xs++[(k,a,v)])->Heap.SameBut d s.heap h'->Q v { s with heap:=h',toks:=s.toks+knd.draws k }) :
 wpAny (model prog w) A (dictSetDefault d (.ref a) v) Q E s:=by
 obtain⟨o,es,ep,ho,hc,hd,he,his,hn⟩:=hm;unfold dictSetDefault
 refine cG ?_
 refine aj (knd.pyHash hu hk ?_)
 refine aj (wpAny_dictFind_heap (s:={ s with toks:=s.toks+knd.draws k }) hu hk ho hd he his hn ?_ ?_)
 ·intro hno
  refine aj (cT (aj (wpAny_updateDictKeys (hz:=by have e:=size_of_entries he;omega) (s:={ s with toks:=s.toks+knd.draws k }) ho hd (ao (new (atKey_none_of_get hno) _
   ⟨_,_,ep+1,cM _ ho (Obj.isFreed_of_dict (Obj.data_mapDictKeys hd _)),hc.mapDictKeys _,Obj.data_mapDictKeys hd _,?_,?_,?_⟩ (bT ..))))))
  ·simp[he,entryOfKey]
  ·intro x hx
   rcases bY.mp hx with hx | hx
   ·exact knd.keeps (his x hx) ho hd (bT ..)
   ·cases aY.mp hx
    exact knd.keeps hk ho hd (bT ..)
  ·rw[bI,dZ]
   refine⟨hn,by simp,fun x hx y hy e=>?_⟩
   cases aY.mp hy
   have e':x=k:=e;exact not_mem_keys_of_get hno (e'▸hx)
 ·intro j p hj
  refine aj (wpAny_dictEntries (s:={ s with toks:=s.toks+knd.draws k }) ho hd ?_)
  have ej:es[j]?=some (entryOfKey knd (k,p)):=by
   rw[<- eV,he,bz,hj];rfl
  rw[ej];exact aj (cT (ao (old p (atKey_of_get hn hj))))
end
section
variable {X:Cx}{pins:y_}{σ:St}{H:Hp}{s:q9}{a b:Addr}{E:z_}{A:p6}
theorem Ag5 {P:t6}{w:World}{xs:List (PyData×Addr×Value)}{k:q_}{r:Value}(hd:(a==sysModules)=false)(hz:xs.length<=sizeLine) :
 MeetsIn P w (Builtin.«dict.setdefault» ⟨[.ref a,.ref b,r],[]⟩) (fun A R s=>A.units+9<cLine/\s.heap.DictOfH (Ck P w) a xs/\(Ck P w).is s.heap k b/\(∀p,atKey xs k=some p->R (.ok (.ret p.2)) { s with toks:=s.toks+Vd k }) /\
  (atKey xs k=none->∀h',h'.DictOfH (Ck P w) a (xs++[(k,b,r)])->Heap.SameBut a s.heap h'->R (.ok (.ret r)) { s with heap:=h',toks:=s.toks+Vd k })) :=
 .of_wp fun A R s ⟨hr,hm,hk,h1,h2⟩=>by
  unfold Builtin.«dict.setdefault»
  refine aj ?_
  unfold Builtin.Dict.keyAndDefault
  refine aj (iZ hm.typeIs ?_)
  refine ao ?_
  show wpAny _ _ (if (a==sysModules)=true then _ else (dictSetDefault a (.ref b) r >>= _)) _ _ s
  rw[if_neg (by rw[hd];exact aR)]
  exact aj (A2r (knd:=Ck P w) (show (Ck P w).room A.in1 from Ax2 hr) hk hm hz (fun p hp=>ao ⟨_,rfl,h1 p hp⟩) fun hn h' dd' hs=>ao ⟨_,rfl,h2 hn h' dd' hs⟩)
theorem Bn7 {kvs:List (PyData×V)}{k:q_}{z:V}{r:Value}{Q:z_}(hu:A.units+9<cLine)(I:Inv X pins σ H s)(e:H a=some (.dT kvs))(eb:KAt H k b)(hl:kvs.length<sizeLine)(rz:RelV z r)
 (old:∀v w' s',Js kvs k=some v->Inv X pins σ H s'->RelV v w'->Q w' s') (new:∀s',Js kvs k=none->Inv X pins σ (upd H a (.dT (kvs++[(k,z)]))) s'->Q r s') :
 wpAny (model X.prog X.w) A (call (.builtin "dict.setdefault") [.ref a,.ref b,r]) Q E s:=by
 obtain⟨zz,hd,xs,rel,dd⟩:=Bn0 I.hok e
 have hz:xs.length<=sizeLine:=by rw[<- d_ rel];exact zz
 refine eZ PySem.F.slot_dict_setdefault dd.typeIs PySem.F.entry_dict_setdefault (PySem.F.args_dict_setdefault_3 _ _ _) (Ag5 hd hz) ⟨hu,dd,Wy I.hok eb,fun p hp=>?_,fun hn h' dd' hs=>?_⟩
 ·have q:=rel.val k
  rw[hp]at q
  cases ev:Js kvs k with
  | none=>rw[ev]at q;exact False.elim q
  | some v=>rw[ev]at q;exact old v p.2 _ ev (I.tok _) q
 ·have q:=rel.val k
  rw[hn]at q
  cases ev:Js kvs k with
  | some v=>rw[ev]at q;exact False.elim q
  | none =>
   refine new _ ev ?_
   obtain⟨ob,es,ep,hq,h2,h3,h4,_,h5⟩:=dd'
   refine Uk I (by rw[e];exact True.intro) hs ⟨ob,hq⟩ ⟨by rw[aK];exact hl,hd,_,KT.keeps (Paired.snoc rel ⟨rfl,eb,rz⟩) fun c ys ec=>?_,ob,es,ep,hq,h2,h3,h4,h5⟩
   rw[Ak (A7c ec e (fun z=>nomatch z))]
   exact ec
end
def A6m (td ty tx:TE):TE:=fun σ H Q=>td σ H fun x H1=>∃a,x=.ref a/\IsD H1 a/\ty σ H1 fun y H2=>tx σ H2 fun z H3=>∃kvs k b,y=.ref b/\H3 a=some (.dT kvs)/\KAt H3 k b/\kvs.length<sizeLine /\
 (∀v,Js kvs k=some v->Q v H3)/\(Js kvs k=none->Q z (upd H3 a (.dT (kvs++[(k,z)]))))
section
variable {X:Cx}{o e f:Expr}{td ty tx:TE}{apos cpos:Pos}
theorem Bd0 (hu:X.A.units+64<cLine)(ho:PE X o td)(he:PE X e ty)(hf:PE X f tx)(m:M2 X o "setdefault" apos e f cpos):PE X (.Call (.Attribute o "setdefault" apos) [e,f] [] cpos) (A6m td ty tx):=by
 intro pins s σ H Q I h
 refine jl m.base m.few m.line gQ PySem.F.slot_dict_setdefault PySem.F.type_dict_setdefault (thn (ho pins s σ H _ I h) fun u s1 ⟨x,H1,I1,rx,a,ex,d,q1⟩=>?_)
 subst ex;obtain rfl:u=Value.ref a:=rx;obtain⟨t1,t2,_⟩:=Vy I1 d
 refine⟨t1,t2,?_⟩
 rw[m.trees]
 refine fW rfl (iC (dI (thn (he pins s1 σ H1 _ I1 q1) fun iv s2 ⟨y,H2,I2,ry,q2⟩ =>
  dI (thn (hf pins s2 σ H2 _ I2 q2) fun fv s3 ⟨z,H3,I3,rz,kvs,k,b,ey,ea,eb,hl,qo,qn⟩=>fP ?_))))
 subst ey
 cases (show iv=Value.ref b from ry)
 exact Bn7 (bW (dw (by decide) _) hu) I3 ea eb hl rz (fun v w' s4 ev I4 rw'=>⟨v,H3,I4,rw',qo v ev⟩) fun s4 ev I4=>⟨z,_,I4,rz,qn ev⟩
theorem Bd9 (hu:X.A.units+64<cLine)(ho:QE X o td)(he:QE X e ty)(hf:QE X f tx)(m:M2 X o "setdefault" apos e f cpos):QE X (.Call (.Attribute o "setdefault" apos) [e,f] [] cpos) (A6m td ty tx):=⟨Bd0 hu ho.get he.get hf.get m⟩
theorem A4j (hu:X.A.units+64<cLine)(ho:QE X o td)(he:QE X e ty)(hf:QE X f tx)(m:M2 X o "get" apos e f cpos):QE X (.Call (.Attribute o "get" apos) [e,f] [] cpos) (Zv td ty tx):=⟨A4s (bW (dw (by decide) _) hu) ho.get he.get hf.get m⟩
theorem Ql {pos:Pos}:QE X (.Dict [] [] pos) As1:=⟨A9a⟩
end
section
variable {P:t6}{w:World}{A:p6}{E:z_}{s:q9}
theorem Ap9:((Manifest.find? "dict_keyiterator").elim "dict_keyiterator" fun x=>x.tpName) = "dict_keyiterator" := by rw[find?_eq_fast];kernel_rfl
theorem Am6 {it dd:Addr}{i ep:Nat}{es:v7}{od:Obj}{Q:t_->q9->Prop}(hit:s.heap.IsKeyIter it dd i es.size ep)(hod:s.heap.get? dd=some od)(hdd:od.data=.dict es ep)(hi:i<es.size)
 (hQ:∀h',h'.IsKeyIter it dd (i+1) es.size ep->Heap.SameBut it s.heap h'->Q (some es[i].key) { s with heap:=h' }):wpAny (model P w) A (pyNext (.ref it)) Q E s:=by
 obtain⟨hp,g,d,tk,os⟩:=s;obtain⟨⟨c,dct,dat,sl⟩,ho,hc,hd⟩:=hit;obtain⟨c2,dct2,dat2,sl2⟩:=od;simp only at hc hd hdd;subst hc hd hdd;have ty:(⟨hp,g,d,tk,os⟩:q9).TypeIs (.ref it) "dict_keyiterator" := ⟨_,ho,rfl⟩;have f1:=mroOf_keyiter
 have f2:Builtin.Dict_items.ownsTuple "dict_keyiterator" = false:=by decide
 have f3:es[(i:Int).toNat]?=some es[i]:=by simp[hi]
 unfold pyNext
 refine aj (cP (cB (name:="__next__") ty i_ (bJ i_ ty jG ?_ (jH _))))
 repeat any_goals first | assumption | wp_step
 simp only[Ap9,f2,bO,aZ,gn,List.take]
 have f4:¬ ((i:Int)<0):=by omega
 simp only[f4,aZ,f3]
 repeat any_goals first | assumption | wp_step
 simp only[Ap9,f2,bO,aZ]
 have hit':(hp.update it (Obj.mapFields (·.setIfInBounds 1 (rawInt ((i:Int)+1))))).IsKeyIter it dd (i+1) es.size ep :=
  ⟨_,cM _ ho (iK (fB rfl _)),jo ..,by rw[fB rfl];simp[rawInt]⟩
 exact⟨_,rfl,ao (hQ _ hit' (bT ..))⟩
theorem Aw5 {it dd:Addr}{i ep:Nat}{es:v7}{od:Obj}{Q:t_->q9->Prop}(quiet:A.handled=none)(hit:s.heap.IsKeyIter it dd i es.size ep)(hod:s.heap.get? dd=some od)(hdd:od.data=.dict es ep)(hi:es.size<=i)
 (hQ:∀h',Heap.ExtBut it s.heap h'->Q none { s with heap:=h' }):wpAny (model P w) A (pyNext (.ref it)) Q E s:=by
 obtain⟨hp,g,d,tk,os⟩:=s;obtain⟨⟨c,dct,dat,sl⟩,ho,hc,hd⟩:=hit;obtain⟨c2,dct2,dat2,sl2⟩:=od;simp only at hc hd hdd;subst hc hd hdd;have ty:(⟨hp,g,d,tk,os⟩:q9).TypeIs (.ref it) "dict_keyiterator" := ⟨_,ho,rfl⟩;have f1:=mroOf_keyiter
 have f2:Builtin.Dict_items.ownsTuple "dict_keyiterator" = false:=by decide
 have f3:es[(i:Int).toNat]?=none:=by simp[hi]
 unfold pyNext
 refine aj (cP (cB (name:="__next__") ty i_ (bJ i_ ty jG ?_ (jH _))))
 repeat any_goals first | assumption | wp_step
 simp only[Ap9,f2,bO,aZ,gn,List.take]
 have f4:¬ ((i:Int)<0):=by omega
 simp only[f4,aZ,f3]
 repeat any_goals first | assumption | wp_step
 refine jy (show A.in1.handled=none from quiet) ?_
 refine aj (du (T := "StopIteration") (b:=true) ⟨_,aH _ rfl,rfl⟩ fG ?_)
 exact ao (hQ _ (((bT ..).extBut.push _).push _))
theorem Ak1 {dd:Addr}{ep:Nat}{es:v7}{od:Obj}{Q:z_}(nd:(dd==sysModules)=false)(hod:s.heap.get? dd=some od)(hx:od.ExactDict)(hdd:od.data=.dict es ep)
 (hQ:Q (.ref s.heap.objs.size) { s with heap:=s.heap.push { cls:=.type "dict_keyiterator",data:=.fields #[.ref dd,.int 0 0,.int es.size 0,.int ep 0] } }):wpAny (model P w) A (pyIter (.ref dd)) Q E s:=by
 obtain⟨hp,g,d,tk,os⟩:=s;obtain⟨c2,dct2,dat2,sl2⟩:=od;obtain⟨x1,x2,x3⟩:=hx;simp only at x1 x2 x3 hdd;subst x1 x2 x3 hdd;have ty:(⟨hp,g,d,tk,os⟩:q9).TypeIs (.ref dd) "dict" := ⟨_,hod,rfl⟩
 refine jz ty F.slot_dict_iter (bJ F.slot_dict_iter ty F.entry_dict_iter ?_ (F.args_dict_iter_1 _))
 unfold Builtin.«dict.__iter__» Builtin.Dict.dictSlotNone
 refine aj (aj (iZ ty (ao ?_)))
 have e0:Builtin.Dict.showsAll dd=pure ():=by unfold Builtin.Dict.showsAll;rw[if_neg (by rw[nd];exact aR)]
 show wpAny _ _ (Builtin.Dict.showsAll dd >>= _) _ _ _
 rw[e0]
 repeat any_goals first | assumption | wp_step
 exact⟨_,rfl, "dict_keyiterator",_,⟨_,aH _ rfl,rfl⟩,F.slot_dict_keyiterator_next.lookup,hQ⟩
end
section
variable {P:t6}{w:World}{A:p6}{E:z_}{s:q9}
theorem P0 {h:Heap}{it:Addr}{vs:v6}{f:v6->v6}(e:h.get? it=some { cls:=.type "dict_itemiterator",data:=.fields vs }):(h.update it (Obj.mapFields f)).get? it=some { cls:=.type "dict_itemiterator",data:=.fields (f vs) } :=
 cM _ e (iK (fB rfl _))
theorem Ar1:((Manifest.find? "dict_itemiterator").elim "dict_itemiterator" fun x=>x.tpName) = "dict_itemiterator" := by rw[find?_eq_fast];kernel_rfl
theorem A7e {it dd:Addr}{i ep:Nat}{ok ov:Value}{es:v7}{od:Obj}{Q:t_->q9->Prop}(hit:IsItemIter s.heap it dd i es.size ep ok ov)(hod:s.heap.get? dd=some od)(hdd:od.data=.dict es ep)(hi:i<es.size)
 (hQ:∀h',IsItemIterOut h' it dd (i+1) es.size ep es[i].key es[i].val s.heap.objs.size->h'.get? s.heap.objs.size=some { cls:=.type "tuple",data:=.seq #[es[i].key,es[i].val] }->h'.objs.size=s.heap.objs.size+1 ->
  (∀b o,b≠it->s.heap.get? b=some o->h'.get? b=some o)->Q (some (.ref s.heap.objs.size)) { s with heap:=h' }):wpAny (model P w) A (pyNext (.ref it)) Q E s:=by
 obtain⟨hp,g,d,tk,os⟩:=s;obtain⟨c2,dct2,dat2,sl2⟩:=od;simp only at hdd;subst hdd;have ty:(⟨hp,g,d,tk,os⟩:q9).TypeIs (.ref it) "dict_itemiterator" := ⟨_,hit,rfl⟩;have f1:=mroOf_itemiter
 have f2:Builtin.Dict_items.ownsTuple "dict_itemiterator" = true:=by decide
 have f3:es[(i:Int).toNat]?=some es[i]:=by simp[hi]
 have f4:¬ ((i:Int)<0):=by omega
 unfold pyNext
 refine aj (cP (cB (name:="__next__") ty j0 (bJ j0 ty jJ ?_ (jK _))))
 repeat any_goals first | assumption | wp_step
 simp only[Ar1,f2,bV,List.drop,List.take]
 repeat any_goals first | assumption | wp_step
 simp only[f4,aZ,f3]
 repeat any_goals first | assumption | wp_step
 simp only[Ar1,f2,bV]
 have sb:Heap.SameBut it hp (hp.update it (Obj.mapFields fun x=>x.setIfInBounds (2+1) (rawInt ((i:Int)+1)))):=bT ..
 have g1:(hp.update it (Obj.mapFields fun x=>x.setIfInBounds (2+1) (rawInt ((i:Int)+1)))).get? it=some { cls:=.type "dict_itemiterator",data:=.fields #[.none,.bool false,.ref dd,rawInt ((i:Int)+1),.int es.size 0,.int ep 0,ok,ov] }:=P0 hit
 refine⟨_,rfl,ao ?_⟩
 show Q (some (.ref (hp.update it (Obj.mapFields fun x=>x.setIfInBounds (2+1) (rawInt ((i:Int)+1)))).objs.size)) { heap:=(((((hp.update it (Obj.mapFields fun x=>x.setIfInBounds (2+1) (rawInt ((i:Int)+1)))).push { cls:=Value.type "tuple",data:=Data.seq #[es[i].key,es[i].val] }).update it (Obj.mapFields fun x=>x.setIfInBounds 6 es[i].key)).update it (Obj.mapFields fun x=>x.setIfInBounds (6+1) es[i].val)).update it (Obj.mapFields fun x=>x.setIfInBounds 0 (rawInt (hp.update it (Obj.mapFields fun x=>x.setIfInBounds (2+1) (rawInt ((i:Int)+1)))).objs.size))).update it (Obj.mapFields fun x=>x.setIfInBounds 1 (Value.bool false)),gens:=g,drawn:=d,toks:=tk,os:=os }
 generalize hp.update it (Obj.mapFields fun x=>x.setIfInBounds (2+1) (rawInt ((i:Int)+1)))=h1 at sb g1 ⊢
 have sz:h1.objs.size=hp.objs.size:=sb.1;have g2:=aG { cls:=Value.type "tuple",data:=Data.seq #[es[i].key,es[i].val] } g1;have t2:(h1.push { cls:=Value.type "tuple",data:=Data.seq #[es[i].key,es[i].val] }).get? h1.objs.size=some { cls:=.type "tuple",data:=.seq #[es[i].key,es[i].val] }:=aH _ rfl
 have k2:∀b o,b≠it->hp.get? b=some o->(h1.push { cls:=Value.type "tuple",data:=Data.seq #[es[i].key,es[i].val] }).get? b=some o:=fun b o n e=>aG _ ((sb.2 b n).trans e)
 have z2:(h1.push { cls:=Value.type "tuple",data:=Data.seq #[es[i].key,es[i].val] }).objs.size=h1.objs.size+1:=b_ ..;generalize h1.push { cls:=Value.type "tuple",data:=Data.seq #[es[i].key,es[i].val] }=h2 at g2 t2 k2 z2 ⊢;rw[sz]at t2 z2 ⊢;have ne:hp.objs.size≠it:=cj (aA hit)
 have s3:=bT h2 it (Obj.mapFields fun x=>x.setIfInBounds 6 es[i].key)
 have g3:=P0 (f:=fun x=>x.setIfInBounds 6 es[i].key) g2
 generalize h2.update it (Obj.mapFields fun x=>x.setIfInBounds 6 es[i].key)=h3 at s3 g3 ⊢
 have s4:=bT h3 it (Obj.mapFields fun x=>x.setIfInBounds (6+1) es[i].val)
 have g4:=P0 (f:=fun x=>x.setIfInBounds (6+1) es[i].val) g3
 generalize h3.update it (Obj.mapFields fun x=>x.setIfInBounds (6+1) es[i].val)=h4 at s4 g4 ⊢
 have s5:=bT h4 it (Obj.mapFields fun x=>x.setIfInBounds 0 (rawInt hp.objs.size))
 have g5:=P0 (f:=fun x=>x.setIfInBounds 0 (rawInt hp.objs.size)) g4
 generalize h4.update it (Obj.mapFields fun x=>x.setIfInBounds 0 (rawInt hp.objs.size))=h5 at s5 g5 ⊢
 have s6:=bT h5 it (Obj.mapFields fun x=>x.setIfInBounds 1 (Value.bool false))
 have g6:=P0 (f:=fun x=>x.setIfInBounds 1 (Value.bool false)) g5
 generalize h5.update it (Obj.mapFields fun x=>x.setIfInBounds 1 (Value.bool false))=h6 at s6 g6 ⊢
 have all:∀b o,b≠it->h2.get? b=some o->h6.get? b=some o:=fun b o n e=>(s6.2 b n).trans ((s5.2 b n).trans ((s4.2 b n).trans ((s3.2 b n).trans e)))
 refine hQ h6 ?_ (all _ _ ne t2) (by rw[show h6.objs.size=h2.objs.size from s6.1.trans (s5.1.trans (s4.1.trans s3.1))];exact z2) fun b o n e=>all b o n (k2 b o n e)
 have e1:((i+1:Nat):Int)=(i:Int)+1:=by omega
 unfold IsItemIterOut;rw[e1];exact g6
end
theorem KT.get {H:Hp}:∀{kvs:List (PyData×V)}{xs:List (PyData×Addr×Value)}{i:Nat}{k:q_}{v:V},KT H kvs xs->kvs[i]?=some (k,v)->∃b u,xs[i]?=some (k,b,u)/\KAt H k b/\RelV v u
 | _,_,_,_,_,.nil,e=>by simp at e
 | _,_,0,k,v,.cons (a:=p) (b:=q) h t,e=>by
  cases (show some p=some (k,v) from e)
  obtain⟨h1,h2,h3⟩:=h;obtain⟨k',b,u⟩:=q
  cases (show k=k' from h1)
  exact⟨b,u,rfl,h2,h3⟩
 | _,_,i+1,k,v,.cons h t,e=>by
  obtain⟨b,u,e1,r⟩:=KT.get t (by simpa using e)
  exact⟨b,u,by simpa using e1,r⟩
section
variable {X:Cx}{pins:y_}{σ:St}{H:Hp}{s:q9}{a:Addr}{kvs:List (PyData×V)}
theorem Inv.still (I:Inv X pins σ H s)(e:H a=some (.dT kvs)):∃o,Inv X pins σ (upd H a (.frz o (.dT kvs))) s:=by
 obtain⟨z,y,xs,r,o,es,ep,h1,c⟩:=I.hok a _ e
 refine⟨o,Uk (h':=s.heap) (t':=s.toks) (ob:=.frz o (.dT kvs)) I (by rw[e];exact True.intro) (Heap.SameBut.refl _ _) ⟨o,h1⟩ ⟨h1,z,y,xs,KT.keeps r fun c ys ec=>?_,o,es,ep,h1,c⟩⟩
 rw[Ak (A7c ec e (fun z=>nomatch z))];exact ec
theorem Inv.seen {o:Obj}(I:Inv X pins σ H s)(e:H a=some (.frz o (.dT kvs))):∃xs es ep,s.heap.get? a=some o/\(a==sysModules)=false/\o.ExactDict/\o.data=.dict es ep/\es.toList=xs.map (entryOfKey (Ck X.prog X.w))/\KT H kvs xs/\kvs.length<=sizeLine:=by
 obtain⟨h0,z,y,xs,r,o',es,ep,h1,h2,h3,h4,h5⟩:=I.hok a _ e
 cases (h0.symm.trans h1)
 exact⟨xs,es,ep,h1,y,h2,h3,h4,r,z⟩
theorem Hr {xs:List (PyData×Addr×Value)}{es:v7}{P:t6}{w:World}(h:es.toList=xs.map (entryOfKey (Ck P w)))(r:KT H kvs xs):es.size=kvs.length:=by
 rw[<- eN,h,ak,d_ r]
theorem Aa9 {xs:List (PyData×Addr×Value)}{es:v7}{P:t6}{w:World}{i:Nat}{k:q_}{v:V}(h:es.toList=xs.map (entryOfKey (Ck P w)))(r:KT H kvs xs)(e:kvs[i]?=some (k,v))(hi:i<es.size) :
 ∃b u,es[i].key=.ref b/\es[i].val=u/\KAt H k b/\RelV v u:=by
 obtain⟨b,u,e1,h1,h2⟩:=KT.get r e
 have e2:es.toList[i]?=some (entryOfKey (Ck P w) (k,b,u)):=by rw[h,bz,e1];rfl
 rw[eV,gZ hi]at e2;have e3:=bK e2
 exact⟨b,u,by rw[e3];rfl,by rw[e3];rfl,h1,h2⟩
end
def Itk (a:Addr)(o:Obj):It :=
 ⟨fun i H=>∃kvs,H a=some (.frz o (.dT kvs))/\i<kvs.length,fun i H x H'=>H'=H/\∃kvs k v b,H a=some (.frz o (.dT kvs))/\kvs[i]?=some (k,v)/\x=.ref b/\KAt H k b,fun i H=>∃kvs,H a=some (.frz o (.dT kvs))/\kvs.length<=i⟩
def Iti (a:Addr)(o:Obj):It :=
 ⟨fun i H=>∃kvs,H a=some (.frz o (.dT kvs))/\i<kvs.length,fun i H x H'=>∃p kvs k v b,x=.ref p/\H p=none/\H'=upd H p (.tup [.ref b,v])/\H a=some (.frz o (.dT kvs))/\kvs[i]?=some (k,v)/\KAt H k b,fun i H=>∃kvs,H a=some (.frz o (.dT kvs))/\kvs.length<=i⟩
theorem A1o {P:t6}{w:World}{K:v_}{tg:Expr}{a it:Addr}{o:Obj}{es:v7}{ep:Nat}(hd:o.data=.dict es ep):Turn P w K tg (Itk a o) [it] it (fun i h=>h.IsKeyIter it a i es.size ep) where
 mem:=by simp
 obj:=fun i h st b hb=>by
  have e:b=it:=by simpa using hb
  subst e;obtain⟨o,e,c,d⟩:=st
  exact⟨o,e,fun v z=>by rw[d]at z;cases z⟩
 keep:=fun i h h' st k=>let ⟨o,e,r⟩:=st; ⟨o,k it (by simp) o e,r⟩
 item:=by
  intro X hP hw hK hc i pins s σ H E I hf st hg;subst hP hw hK;obtain⟨kvs,ha,hi⟩:=hg;obtain⟨xs,es',ep',g1,g2,g3,g4,g5,g6,g7⟩:=I.seen ha;rw[hd]at g4
  cases g4
  have li:i<es.size:=by rw[Hr g5 g6];exact hi
  obtain⟨⟨k,v⟩,hk⟩:∃x,kvs[i]?=some x:=⟨_,bj hi⟩;obtain⟨b,u,k1,k2,k3,k4⟩:=Aa9 g5 g6 hk li
  obtain⟨f0,f1,f2,f3,f4,f5⟩:=hf it (by simp)
  refine Am6 st g1 hd li fun h' st' sb=>?_
  have I1:Inv X pins σ H { s with heap:=h' }:=I.turned (t':=s.toks) (fun b o hb e=>(sb.2 b hb).trans e) f0 f1 f3 f4 f5
  obtain⟨o',e,c,d⟩:=id st'
  exact⟨_,rfl,Ah5 (s:={ s with heap:=h' }) e c d (by decide) ⟨.ref b,H,I1,by rw[k1];rfl,⟨rfl,kvs,k,v,b,ha,hk,rfl,k3⟩,st',fun b hb=>(hf b hb).1⟩⟩
 done:=by
  intro X hP hw hK hc i pins s σ H E I hf st hg;subst hP hw hK;obtain⟨kvs,ha,hi⟩:=hg;obtain⟨xs,es',ep',g1,g2,g3,g4,g5,g6,g7⟩:=I.seen ha;rw[hd]at g4
  cases g4
  obtain⟨f0,f1,f2,f3,f4,f5⟩:=hf it (by simp)
  exact Aw5 (I.ok.hd hc) st g1 hd (by rw[Hr g5 g6];exact hi) fun h' eb=>⟨rfl,I.turned (t':=s.toks) (fun b o hb e=>eb b o hb e) f0 f1 f3 f4 f5⟩
 self:=fun _ _ _ _ _ st h=>wpAny_pyIter_keyiter st h
def iDK (td:TE):TI:=fun σ H R=>td σ H fun x H1=>∃a o kvs,x=.ref a/\H1 a=some (.frz o (.dT kvs))/\R (Itk a o) H1
section
variable {X:Cx}
theorem A7h {tg l:Expr}{tl:TE}(hl:PE X l tl):PI X tg l (iDK tl):=by
 intro pins s σ H R I h
 refine thn (hl pins s σ H _ I h) fun v s1 ⟨x,H1,I1,r1,q1⟩=>?_
 obtain⟨a,o,kvs,e,hq,q⟩:=q1;subst e
 cases r1
 obtain⟨xs,es,ep,g1,g2,g3,g4,g5,g6,g7⟩:=I1.seen hq
 refine Ak1 g2 g1 g3 g4 ?_
 refine⟨s1.heap.objs.size,[s1.heap.objs.size],_,_,H1,rfl,I1.kept (t':=s1.toks) fun b o e=>aG _ e,A1o g4,⟨_,aH _ rfl,rfl,rfl⟩,fun b hb=>?_,q⟩
 have e:b=s1.heap.objs.size:=by simpa using hb
 subst e;exact I1.fpOk (aq _) (I1.hok.fresh (aq _))
def tFz (d:Nat)(t u:TS):TS:=fun D σ H=>t { D with nx:=fun σ' H'=>∃a kvs,σ'[d]?=some (some (.ref a))/\H' a=some (.dT kvs)/\∀o,u D σ' (upd H' a (.frz o (.dT kvs))) } σ H
theorem Bx3 {d:Nat}{st:Stmt}{rest:List Stmt}{t u:TS}(h1:PS X st t)(h2:PSs X rest u):PSs X (st::rest) (tFz d t u):=by
 intro pins s σ H D I h
 refine jb (thn (h1 pins s σ H _ I h) fun f s1 q=>?_)
 cases f with
 | next =>
  obtain⟨σ',H',I',a,kvs,e1,e2,q⟩:=q;obtain⟨o,I2⟩:=I'.still e2;exact h2 pins s1 σ' _ D I2 (q o)
 | ret v=>exact q
 | brk=>exact q
 | cont=>exact q
end
section
variable {P:t6}{w:World}{A:p6}{E:z_}{s:q9}
theorem Bj6 {it dd:Addr}{i ep:Nat}{ok ov:Value}{es:v7}{od:Obj}{Q:t_->q9->Prop}(quiet:A.handled=none)(hit:IsItemIter s.heap it dd i es.size ep ok ov)(hod:s.heap.get? dd=some od)(hdd:od.data=.dict es ep)(hi:es.size<=i)
 (hQ:∀h',Heap.ExtBut it s.heap h'->Q none { s with heap:=h' }):wpAny (model P w) A (pyNext (.ref it)) Q E s:=by
 obtain⟨hp,g,d,tk,os⟩:=s;obtain⟨c2,dct2,dat2,sl2⟩:=od;simp only at hdd;subst hdd;have ty:(⟨hp,g,d,tk,os⟩:q9).TypeIs (.ref it) "dict_itemiterator" := ⟨_,hit,rfl⟩;have f1:=mroOf_itemiter
 have f2:Builtin.Dict_items.ownsTuple "dict_itemiterator" = true:=by decide
 have f3:es[(i:Int).toNat]?=none:=by simp[hi]
 have f4:¬ ((i:Int)<0):=by omega
 unfold pyNext
 refine aj (cP (cB (name:="__next__") ty j0 (bJ j0 ty jJ ?_ (jK _))))
 repeat any_goals first | assumption | wp_step
 simp only[Ar1,f2,bV,List.drop,List.take]
 repeat any_goals first | assumption | wp_step
 simp only[f4,aZ,f3]
 repeat any_goals first | assumption | wp_step
 refine jy (show A.in1.handled=none from quiet) ?_
 refine aj (du (T := "StopIteration") (b:=true) ⟨_,aH _ rfl,rfl⟩ fG ?_)
 exact ao (hQ _ (((bT ..).extBut.push _).push _))
theorem A2k {dd:Addr}(nd:(dd==sysModules)=false):MeetsIn P w (Builtin.«dict.items» ⟨[.ref dd],[]⟩) (fun _ R s=>s.TypeIs (.ref dd) "dict" /\ R (.ok (.ret (.ref s.heap.objs.size))) { s with heap:=s.heap.push { cls:=.type "dict_items",data:=.fields #[.ref dd] } }) :=
 .of_wp fun A R s ⟨t,h⟩=>by
  unfold Builtin.«dict.items» Builtin.Dict.noArgs
  refine aj (aj (iZ t (ao ?_)))
  have e0:Builtin.Dict.showsAll dd=pure ():=by unfold Builtin.Dict.showsAll;rw[if_neg (by rw[nd];exact aR)]
  show wpAny _ _ (Builtin.Dict.showsAll dd >>= _) _ _ _
  rw[e0]
  refine aj (ao (aj (cA (ao ⟨_,rfl,h⟩))))
theorem A5w {dd:Addr}{Q:z_}(nd:(dd==sysModules)=false)(ty:s.TypeIs (.ref dd) "dict")
 (hQ:Q (.ref s.heap.objs.size) { s with heap:=s.heap.push { cls:=.type "dict_items",data:=.fields #[.ref dd] } }):wpAny (model P w) A (call (.builtin "dict.items") [.ref dd]) Q E s :=
 eZ PySem.F.slot_dict_items ty PySem.F.entry_dict_items (PySem.F.args_dict_items_1 _) (A2k nd) ⟨ty,hQ⟩
theorem A4f {v dd:Addr}{es:v7}{ep:Nat}{od:Obj}{Q:z_}(hv:s.heap.get? v=some { cls:=.type "dict_items",data:=.fields #[.ref dd] }) (hod:s.heap.get? dd=some od) (hdd:od.data=.dict es ep)
 (hQ:Q (.ref s.heap.objs.size) { s with heap:=s.heap.push { cls:=.type "dict_itemiterator",data:=.fields #[.none,.bool false,.ref dd,.int 0 0,.int es.size 0,.int ep 0,.none,.none] } }):wpAny (model P w) A (pyIter (.ref v)) Q E s:=by
 obtain⟨hp,g,d,tk,os⟩:=s;obtain⟨c2,dct2,dat2,sl2⟩:=od;simp only at hdd;subst hdd;have ty:(⟨hp,g,d,tk,os⟩:q9).TypeIs (.ref v) "dict_items" := ⟨_,hv,rfl⟩
 have f2:Builtin.Dict_items.ownsTuple "dict_itemiterator" = true:=by decide
 refine jz ty F.slot_dict_items_iter (bJ F.slot_dict_items_iter ty F.entry_dict_items_iter ?_ (F.args_dict_items_iter_1 _))
 repeat any_goals first | assumption | wp_step
 simp only[f2,bV];exact⟨_,rfl, "dict_itemiterator",_,⟨_,aH _ rfl,rfl⟩,F.slot_dict_itemiterator_next.lookup,hQ⟩
end
theorem An5 {P:t6}{w:World}{K:v_}{elts:u5}{kk:Nat}{pos:Pos}{a it:Addr}{o:Obj}{es:v7}{ep:Nat}(hd:o.data=.dict es ep):Turn P w K (.Tuple elts kk pos) (Iti a o) [it] it (fun i h=>∃ok ov,IsItemIter h it a i es.size ep ok ov) where
 mem:=by simp
 obj:=fun i h st b hb=>by
  have e:b=it:=by simpa using hb
  subst e;obtain⟨ok,ov,e⟩:=st
  exact⟨_,e,fun v z=>by cases z⟩
 keep:=fun i h h' st k=>let ⟨ok,ov,e⟩:=st; ⟨ok,ov,k it (by simp) _ e⟩
 item:=by
  intro X hP hw hK hc i pins s σ H E I hf st hg;subst hP hw hK;obtain⟨kvs,ha,hi⟩:=hg;obtain⟨ok,ov,st⟩:=st;obtain⟨xs,es',ep',g1,g2,g3,g4,g5,g6,g7⟩:=I.seen ha;rw[hd]at g4
  cases g4
  have li:i<es.size:=by rw[Hr g5 g6];exact hi
  obtain⟨⟨k,v⟩,hk⟩:∃x,kvs[i]?=some x:=⟨_,bj hi⟩;obtain⟨b,u,k1,k2,k3,k4⟩:=Aa9 g5 g6 hk li
  obtain⟨f0,f1,f2,f3,f4,f5⟩:=hf it (by simp)
  refine A7e st g1 hd li fun h' st' new sz kp=>?_
  refine⟨_,rfl,?_⟩
  apply wpAny_letOwnedTupleGo_items st';intro h2 st2 sb2;have ne:s.heap.objs.size≠it:=cj (aA st);have hp:H s.heap.objs.size=none:=I.hok.fresh (aq _);have new2:h2.get? s.heap.objs.size=some { cls:=.type "tuple",data:=.seq #[es[i].key,es[i].val] }:=(sb2.2 _ ne).trans new
  refine⟨.ref s.heap.objs.size,upd H s.heap.objs.size (.tup [.ref b,v]),?_,rfl,⟨_,kvs,k,v,b,rfl,hp,rfl,ha,hk,k3⟩,⟨_,_,st2⟩,fun c hc=>?_⟩
  ·refine I.turnLay (t':=s.toks) (h':=h2) (p:=s.heap.objs.size) (o:=.tup [.ref b,v]) (ch:=[it]) hf (fun c o m e=>(sb2.2 c (by simpa using m)).trans (kp c o (by simpa using m) e)) (aq _) ?_
   refine⟨show 2<=sizeLine by decide,[es[i].key,es[i].val],.cons (by rw[k1];rfl) (.cons (by rw[k2];exact k4) .nil),_,new2,rfl,⟨_,rfl⟩,rfl⟩
  ·have e:c=it:=by simpa using hc
   subst e;rw[Ak (aJ ne)];exact f0
 done:=by
  intro X hP hw hK hc i pins s σ H E I hf st hg;subst hP hw hK;obtain⟨kvs,ha,hi⟩:=hg;obtain⟨ok,ov,st⟩:=st;obtain⟨xs,es',ep',g1,g2,g3,g4,g5,g6,g7⟩:=I.seen ha;rw[hd]at g4
  cases g4
  obtain⟨f0,f1,f2,f3,f4,f5⟩:=hf it (by simp)
  exact Bj6 (I.ok.hd hc) st g1 hd (by rw[Hr g5 g6];exact hi) fun h' eb=>⟨rfl,I.turned (t':=s.toks) (fun b o hb e=>eb b o hb e) f0 f1 f3 f4 f5⟩
 self:=fun A i s Q E st h=>by
  obtain⟨ok,ov,st⟩:=st;exact PySem.W.kcp_self st h
def iDI (td:TE):TI:=fun σ H R=>td σ H fun x H1=>∃a o kvs,x=.ref a/\H1 a=some (.frz o (.dT kvs))/\R (Iti a o) H1
section
variable {X:Cx}
theorem A2c {l:Expr}{tl:TE}{apos cpos tpos:Pos}{elts:u5}{kk:Nat}(hl:PE X l tl)(hbase:attributeBase l "items" X.env (eval l X.env)=eval l X.env:=by rfl) (hline:(apos.endLine==cpos.line)=true:=by rfl) :
 PI X (.Tuple elts kk tpos) (.Call (.Attribute l "items" apos) [] [] cpos) (iDI tl):=by
 intro pins s σ H R I h
 refine wpAny_Call_method0_late hbase hline (thn (hl pins s σ H _ I h) fun v s1 ⟨x,H1,I1,r1,q1⟩=>?_)
 obtain⟨a,o,kvs,e,hq,q⟩:=q1;subst e
 cases (show v=Value.ref a from r1)
 obtain⟨t1,t2,_⟩:=Vy I1 (.inr ⟨kvs,.inr ⟨o,hq⟩⟩);obtain⟨xs,es,ep,g1,g2,g3,g4,g5,g6,g7⟩:=I1.seen hq
 refine⟨"dict", "dict.items",gQ,PySem.F.slot_dict_items,PySem.F.type_dict_items,t1,t2,fW rfl (PySem.evalArgs_none (A5w g2 t1 ?_))⟩
 refine A4f (aH _ rfl) (aG _ g1) g4 ?_
 have kp:∀b o',s1.heap.get? b=some o'->((s1.heap.push { cls:=.type "dict_items",data:=.fields #[.ref a] }).push { cls:=.type "dict_itemiterator",data:=.fields #[.none,.bool false,.ref a,.int 0 0,.int es.size 0,.int ep 0,.none,.none] }).get? b=some o':=fun b o' e=>aG _ (aG _ e)
 refine⟨_,[(s1.heap.push { cls:=.type "dict_items",data:=.fields #[.ref a] }).objs.size],_,_,H1,rfl,I1.kept (t':=s1.toks) kp,An5 g4,⟨_,_,aH _ rfl⟩,fun b hb=>?_,q⟩
 have e:b=(s1.heap.push { cls:=.type "dict_items",data:=.fields #[.ref a] }).objs.size:=by simpa using hb
 subst e
 have le:s1.heap.objs.size<=(s1.heap.push { cls:=.type "dict_items",data:=.fields #[.ref a] }).objs.size:=by rw[b_];exact gP _
 exact I1.fpOk le (I1.hok.fresh le)
end
section
variable {P:t6}{w:World}{A:p6}{E:z_}{s:q9}
theorem A1s (quiet:A.handled=none){it dd:Addr}(ne:dd≠it){es:v7}{ep:Nat}{o:Obj}(hd:o.data=.dict es ep) :
 Walks P w A it [it,dd] [it] es.size (fun i v=>∃h:i<es.size,v=es[i].key) (fun i h=>h.IsKeyIter it dd i es.size ep/\h.get? dd=some o) where
 sub:=fun b hb=>by simp at hb;simp[hb]
 frame:=fun _ _ _ st hk=>⟨let ⟨o,e,r⟩:=st.1; ⟨o,hk it (by simp) o e,r⟩,hk dd (by simp) _ st.2⟩
 item:=fun i s Q E hi st hQ=>Am6 st.1 st.2 hd hi fun h' it' sb=>hQ _ h' s.toks ⟨hi,rfl⟩ ⟨it',(sb.2 _ ne).trans st.2⟩ fun b o hb e=>(sb.2 b (fun h=>hb (by simp[h]))).trans e
 done:=fun s Q E st hQ=>Aw5 quiet st.1 st.2 hd (aq _) fun h' he=>hQ h' s.toks fun b o hb e=>he b o (fun h=>hb (by simp[h])) e
 self:=fun _ _ _ _ st hQ=>wpAny_pyIter_keyiter st.1 hQ
theorem A6p:typeLookup (.type "dict") "__len__" = pure (some (.builtin "dict.__len__")):=by rw[typeLookup_type,jA];kernel_rfl
theorem A9n:isSubtype (.type "dict") (.type "dict")=pure true:=by rw[isSubtype_type];kernel_rfl
theorem Yw {dd:Addr}{es:v7}{ep:Nat}{o:Obj}{Q:w6->q9->Prop}(quiet:A.handled=none)(nd:(dd==sysModules)=false)(g1:s.heap.get? dd=some o)(gx:o.ExactDict)(hd:o.data=.dict es ep)(hn:es.size<=sizeLine)
 (hQ:∀s' acc,(∀b o,s.heap.get? b=some o->s'.heap.get? b=some o)->s'.gens=s.gens->s'.drawn=s.drawn->s'.os=s.os->ItemsOf (fun i v=>∃h:i<es.size,v=es[i].key) acc es.size->Q acc.toList s'):wpAny (model P w) A (collect (.ref dd)) Q E s:=by
 unfold collect
 refine aj (wpAny_runValue (dW F.entry_proto_collect ?_))
 rw[dX F.plain_proto_collect _]
 show wpAny _ A.in1 (newList [] >>= fun l=>again (.builtin "list.__iadd__" ⟨[l,.ref dd],[]⟩)) _ _ s
 refine aj (cA ?_)
 refine ao ⟨fH j4 _,dW F.entry_list_iadd ?_⟩
 rw[dX j4 _];have nl:s.heap.objs.size≠dd:=cj (aA g1)
 have h1:Builtin.List.listSameRef (.ref s.heap.objs.size) (.ref dd)=false:=by simp[Builtin.List.listSameRef,nl]
 have g2:=aG { cls:=.type "list",data:=.seq ([]:w6).toArray } g1;have hS:(s.heap.push { cls:=.type "list",data:=.seq ([]:w6).toArray }).get? s.heap.objs.size=some { cls:=.type "list",data:=.seq ([]:w6).toArray }:=aH _ rfl
 show wpAny _ A.in1 (Builtin.List.listExtendWith (.ref s.heap.objs.size) (.ref dd) (.ref s.heap.objs.size)) _ _ _
 unfold Builtin.List.listExtendWith
 have ty:({ s with heap:=s.heap.push { cls:=.type "list",data:=.seq ([]:w6).toArray } }:q9).TypeIs (.ref dd) "dict" := ⟨_,g2,gx.1⟩
 refine aj (dJ ty ?_)
 have h2:(Value.type "dict" == Value.type "list")=false:=by decide
 have h3:(Value.type "dict" == Value.type "tuple")=false:=by decide
 simp only[h1,h2,h3,iB,bO,aZ]
 refine aj (Ak1 nd g2 gx hd ?_)
 have g3:=aG { cls:=.type "dict_keyiterator",data:=.fields #[.ref dd,.int 0 0,.int es.size 0,.int ep 0] } g2;have hS2:=aG { cls:=.type "dict_keyiterator",data:=.fields #[.ref dd,.int 0 0,.int es.size 0,.int ep 0] } hS;have hI:((s.heap.push { cls:=.type "list",data:=.seq ([]:w6).toArray }).push { cls:=.type "dict_keyiterator",data:=.fields #[.ref dd,.int 0 0,.int es.size 0,.int ep 0] }).IsKeyIter (s.heap.push { cls:=.type "list",data:=.seq ([]:w6).toArray }).objs.size dd 0 es.size ep:=⟨_,aH _ rfl,rfl,rfl⟩;have z1:(s.heap.push { cls:=.type "list",data:=.seq ([]:w6).toArray }).objs.size=s.heap.objs.size+1:=b_ ..
 have up:∀b o,s.heap.get? b=some o->((s.heap.push { cls:=.type "list",data:=.seq ([]:w6).toArray }).push { cls:=.type "dict_keyiterator",data:=.fields #[.ref dd,.int 0 0,.int es.size 0,.int ep 0] }).get? b=some o:=fun b o e=>aG _ (aG _ e)
 rw[z1]at hI ⊢
 generalize ((s.heap.push { cls:=.type "list",data:=.seq ([]:w6).toArray }).push { cls:=.type "dict_keyiterator",data:=.fields #[.ref dd,.int 0 0,.int es.size 0,.int ep 0] })=h2 at *
 have ty2:({ s with heap:=h2 }:q9).TypeIs (.ref dd) "dict" := ⟨_,g3,gx.1⟩
 refine aj (cG ?_)
 unfold Builtin.List.listLengthHint
 refine aj (dH ty2 A6p ?_)
 wp_delta
 refine aj (du (b:=true) ty2 A9n ?_)
 show wpAny _ A.in1 (typeOf (Value.ref dd) >>= _) _ _ _
 refine aj (dJ ty2 ?_)
 refine ao ?_
 rw[if_pos (by decide)]
 refine aj (cT ?_)
 refine aj (m:=Builtin.List.listTouch _) ?_
 unfold Builtin.List.listTouch
 refine aj (g_ hS2 rfl ?_)
 have q2:=cM (Obj.mapSeq (·.push Value.none)) hS2 rfl
 refine g_ q2 rfl ?_
 have q3:=cM (Obj.mapSeq (·.pop)) q2 rfl
 have oth:∀b o,b≠s.heap.objs.size->h2.get? b=some o->((h2.update s.heap.objs.size (Obj.mapSeq (·.push Value.none))).update s.heap.objs.size (Obj.mapSeq (·.pop))).get? b=some o:=fun b o n e=>(cz _ _ (aJ n)).trans ((cz _ _ (aJ n)).trans e)
 have lt:=aA g1;have ne:dd≠s.heap.objs.size+1:=aV (fu lt)
 have W:=A1s (P:=P) (w:=w) (A:=A.in1) (show A.in1.handled=none from quiet) ne hd
 refine ao ⟨fH h_ _,codeAny_extend_loopS W.toS hn s.heap.objs.size (fun m=>?_) _ es.size 0 _ _ _ rfl (aW _) ⟨?_,oth _ _ (aJ nl) g3⟩ q3 (ItemsOf.nil _) fun s' acc' c' hm hS' hacc=>?_⟩
 ·simp only[az,aM,aN]at m
  rcases m with m | m
  ·exact absurd m (aV (dN _))
  ·exact nl m
 ·obtain⟨ob,e1,e2⟩:=hI
  exact⟨ob,oth _ _ (cj (dN _)) e1,e2⟩
 ·show wpAny _ A (load s.heap.objs.size >>= _) _ _ s'
  refine aj (wpAny_load hS' ?_)
  refine ao (hQ s' acc' (fun b ob e=>hm.heap b ob (fun hb=>?_) (oth b ob (aV (aA e)) (up b ob e))) hm.gens hm.drawn hm.os hacc)
  have hlt:=aA e;simp only[az,aM,aN]at hb
  rcases hb with h | h
  ·rw[h]at hlt;exact absurd hlt (bh _)
  ·rw[h]at hlt;exact absurd hlt (Nat.not_lt.mpr (gP _))
theorem U7 {dd:Addr}{es:v7}{ep:Nat}{o:Obj}(nd:(dd==sysModules)=false)(gx:o.ExactDict)(hd:o.data=.dict es ep)(hn:es.size<=sizeLine) :
 Meets (Builtin.«tuple.__new__» ⟨[.type "tuple",.ref dd],[]⟩)
  (fun A R s=>A.handled=none/\s.heap.get? dd=some o/\∀(s':q9) (acc:v6),(∀b o,s.heap.get? b=some o->s'.heap.get? b=some o)->s'.gens=s.gens->s'.drawn=s.drawn->s'.os=s.os->ItemsOf (fun i v=>∃h:i<es.size,v=es[i].key) acc es.size ->
   R (.ok (.ret (.ref s'.heap.objs.size))) { s' with heap:=s'.heap.push { cls:=.type "tuple",data:=.seq acc } }) :=
 .of_wp fun P w A R s h=>by
  obtain⟨hh,g1,h⟩:=h;have hsub:=sub_tuple_self;have hinit:=init_tuple_lookup;have hmh:=madeHere_tuple;have hT:s.TypeIs (.ref dd) "dict" := ⟨_,g1,gx.1⟩;have hh1:A.in1.handled=none:=hh
  wp_walk using dJ hT,Yw hh1 nd g1 gx hd hn
  intro s' acc hk hg hdr hos hacc
  refine aj (ao ?_)
  show wpAny _ _ (Builtin.Tuple.tupleExact acc.toList.toArray >>= fun v=>ret v) _ _ _
  unfold Builtin.Tuple.tupleExact
  have e:acc.toList.toArray=acc:=by simp
  refine aj (cA ?_ (by rw[e];show acc.size<=sizeLine;rw[hacc.1];exact hn))
  refine ao ⟨_,rfl,?_⟩
  rw[e];exact h s' acc hk hg hdr hos hacc
theorem Xl {dd:Addr}{es:v7}{ep:Nat}{o:Obj}{Q:z_}(quiet:A.handled=none)(nd:(dd==sysModules)=false)(g1:s.heap.get? dd=some o)(gx:o.ExactDict)(hd:o.data=.dict es ep)(hn:es.size<=sizeLine)
 (h:∀(h':Heap) (tk:Nat) (acc:v6),(∀b o,s.heap.get? b=some o->h'.get? b=some o)->ItemsOf (fun i v=>∃h:i<es.size,v=es[i].key) acc es.size->Q (.ref h'.objs.size) { s with heap:=h'.push { cls:=.type "tuple",data:=.seq acc },toks:=tk }) :
 wpAny (model P w) A (call (.type "tuple") [.ref dd]) Q E s:=by
 refine callType_new F.called_tuple (by decide) (F.typeCall_tuple_1 _) (F.newCall_tuple_1 _) (fun obj=>jt obj _) F.entry_tuple_new
  (U7 nd gx hd hn) ⟨quiet,g1,fun s' acc hk hg hdr hos hacc=>⟨⟨_,aH _ rfl,rfl⟩,?_⟩⟩
 obtain⟨h',g',d',tk',os'⟩:=s'
 cases (show g'=s.gens from hg)
 cases (show d'=s.drawn from hdr)
 cases (show os'=s.os from hos)
 exact h h' tk' acc hk hacc
end
def Bf1 (H:Hp):w5->m7->Prop
 | [],vs=>vs=[]
 | k::ks,vs=>∃b r,vs=.ref b::r/\KAt H k b/\Bf1 H ks r
def A9p (td:TE):TE:=fun σ H Q=>td σ H fun x H1=>∃a o kvs,x=.ref a/\H1 a=some (.frz o (.dT kvs))/\∀vs p,Bf1 H1 (kvs.map (·.1)) vs->H1 p=none->Q (.ref p) (upd H1 p (.tup vs))
section
variable {X:Cx}
theorem Bn3 {H:Hp}{P:t6}{w:World}:∀{kvs:List (PyData×V)}{xs:List (PyData×Addr×Value)},KT H kvs xs->∃vs,Bf1 H (kvs.map (·.1)) vs/\Vals vs (xs.map fun x=>Value.ref x.2.1)
 | _,_,.nil=>⟨[],rfl,.nil⟩
 | _,_,.cons (a:=p) (b:=q) h t=>by
  obtain⟨vs,h1,h2⟩:=Bn3 (P:=P) (w:=w) t;exact⟨.ref q.2.1::vs,⟨q.2.1,vs,rfl,h.2.1,h1⟩,.cons rfl h2⟩
theorem Bf4 {e:Expr}{te:TE}{p pos:Pos}(hc:X.calm=true)(hg:Gl X "tuple") (hm:X.mg "tuple" = none) (he:PE X e te) (hs1:isStar e=false:=by rfl):PE X (.Call (.Name "tuple" p) [e] [] pos) (A9p te):=by
 intro pins s σ H Q I h;have st1:=Gj (es:=[]) (env:=X.env) hs1
 refine Call_ (J9 I hg hm Ko (eO ?_ st1 rfl))
 rw[st1]
 show wpAny _ _ (spliced ((false,eval e X.env)::backTo pos (starEach [] X.env))) _ _ s
 refine dI ?_
 refine thn (he pins s σ H _ I h) fun u s1 ⟨v,H1,I1,r1,q1⟩=>?_
 refine fP ?_
 obtain⟨a,o,kvs,rfl,hq,q⟩:=q1
 cases (show u=Value.ref a from r1)
 obtain⟨xs,es,ep,g1,g2,g3,g4,g5,g6,g7⟩:=I1.seen hq;have sz:=Hr g5 g6
 refine Xl (I.ok.hd hc) g2 g1 g3 g4 (by rw[sz];exact g7) fun h' tk acc kp items=>?_
 obtain⟨vs,k1,k2⟩:=Bn3 (P:=X.prog) (w:=X.w) g6
 have ea:acc.toList=xs.map fun x=>Value.ref x.2.1:=by
  have la:acc.size=xs.length:=items.1.trans (sz.trans (d_ g6));apply List.ext_getElem
  ·rw[eN,ak];exact la
  ·intro i h1 h2
   have hi:i<acc.size:=by simpa using h1
   have hx:i<xs.length:=by simpa using h2
   obtain⟨hs,e1⟩:=items.2 i acc[i] (gZ hi)
   have e2:es.toList[i]?=some (entryOfKey (Ck X.prog X.w) xs[i]):=by rw[g5,bz,bj hx];rfl
   rw[eV,gZ hs]at e2;rw[Array.getElem_toList,e1,bK e2,List.getElem_map];rfl
 have I2:Inv X pins σ H1 { s1 with heap:=h',toks:=tk }:=I1.kept (t':=tk) kp
 have hf:H1 h'.objs.size=none:=I2.hok.fresh (aq _)
 refine⟨.ref h'.objs.size,upd H1 h'.objs.size (.tup vs),I2.laid (t':=tk) (fun b u e=>aG _ e) (aq _) ?_,rfl,q vs _ k1 hf⟩
 refine⟨by rw[k2.length,ak,<- d_ g6];exact g7,acc.toList,by rw[ea];exact k2,_,aH _ rfl,rfl,⟨0,by simp⟩,rfl⟩
theorem Bg3 {e:Expr}{te:TE}{p pos:Pos}(hc:X.calm=true)(hg:Gl X "tuple") (hm:X.mg "tuple" = none) (he:QE X e te) (hs1:isStar e=false:=by rfl):QE X (.Call (.Name "tuple" p) [e] [] pos) (A9p te):=⟨Bf4 hc hg hm he.get hs1⟩
theorem Am9 {tg l:Expr}{tl:TE}(hl:QE X l tl):QI X tg l (iDK tl):=⟨A7h hl.get⟩
theorem A2s {l:Expr}{tl:TE}{apos cpos tpos:Pos}{elts:u5}{kk:Nat}(hl:QE X l tl)(hbase:attributeBase l "items" X.env (eval l X.env)=eval l X.env:=by rfl) (hline:(apos.endLine==cpos.line)=true:=by rfl) :
 QI X (.Tuple elts kk tpos) (.Call (.Attribute l "items" apos) [] [] cpos) (iDI tl):=⟨A2c hl.get hbase hline⟩
theorem Zw {d:Nat}{st:Stmt}{rest:List Stmt}{t u:TS}(h1:QS X st t)(h2:QSs X rest u):QSs X (st::rest) (tFz d t u):=⟨Bx3 h1.get h2.get⟩
theorem Aa6 {o i value:Expr}{td ty tv:TE}{pos pos':Pos}(hu:X.A.units+64<cLine)(ho:QE X o td)(hi:QE X i ty)(hv:QE X value tv)(hs:swapsWith value (some (.Subscript o i pos')) pos.line X.env=pure false:=by rfl) :
 QS X (.Assign [.Subscript o i pos'] value pos) (A5d td ty tv):=⟨Bk2 (bW (dw (by decide) _) hu) ho.get hi.get hv.get hs⟩
end
end L2
namespace L2
open PySem PySem.Spec PyProof.Rows PySem.W
section
variable {X:Cx}
def Au1 (K:v_):V->m7->Hp->VK->Prop:=fun x vs H Q=>∃(a:Addr) (ss:v4) (y:Str),x=.ref a/\vs=[.str y]/\SqL K H a (ss.map V.str)/\Q (.int ((ss.countP fun z=>z==y):Nat)) H
theorem A2t {Kq:v_}(hKq:X.K=Kq):MtM X "list.count" (Au1 Kq):=by
 subst hKq;intro pins s σ H x vs v us Q I rx rv h;obtain⟨a,ss,y,rfl,rfl,hq,q⟩:=h
 cases rx
 obtain⟨u,rfl,ru⟩:=rv.one;obtain⟨t,rfl⟩:=ru;obtain⟨its,r,pl,hz⟩:=I.list hq;obtain⟨o,n,e,hc,hdn,hd⟩:=pl;obtain⟨c0,dd,dat,sl⟩:=o
 dsimp only at hc hd hdn
 subst hc hd hdn
 refine dM F.slot_list_count ⟨_,e,rfl⟩ F.entry_list_count (F.args_list_count_2 _ _) (SeqAt.list_countAt a its.toArray n none sl _ (Ah9 y)) ⟨e,fun w hw=>?_,?_⟩
 ·obtain⟨z,t',rfl⟩:=Zz r w (by simpa using hw)
  exact ji z t' y t
 ·have e2:its.toArray.toList.countP (Ah9 y)=ss.countP fun z=>z==y:=Yn y r
  rw[e2];exact⟨.int _,H,I.tok _,⟨_,rfl⟩,q⟩
end
def A3j (tc:List (Str×v4))(mg:x_)(h:Heap):Prop:=∀q∈tc,∃a o its n,mg q.1=some (.ref a)/\h.get? a=some o/\o.cls=.type "tuple" /\ o.data=.seq its n/\its.size<=sizeLine/\Vals (q.2.map V.str) its.toList
theorem Px:∀{ss:v4}{us:w6},Ui ss us=true->Vals (ss.map V.str) us
 | [],[],_=>.nil
 | s::ss,.str z t::us,e=>by
  obtain⟨e1,e2⟩:=aB.mp (show (s==z&&Ui ss us)=true from e)
  cases dm e1
  exact .cons ⟨t,rfl⟩ (Px e2)
theorem B0x {tc:List (Str×v4)}{s:q9}(e:tc.all (A5g s.heap)=true):A3j tc (s.heap.nsMap mainGlobals) s.heap:=fun q m=>by
 have e:=bN.mp e q m;unfold A5g at e
 split at e
 ·rename_i a e1
  split at e
  ·rename_i o e2
   split at e
   ·rename_i c its n e3 e4
    obtain⟨e,e7⟩:=aB.mp e;obtain⟨e5,e6⟩:=aB.mp e
    exact⟨a,o,its,n,e1,e2,by rw[e3,dm e5],e4,aX e6,Px e7⟩
   ·cases e
  ·cases e
 ·cases e
theorem A7t {tc:List (Str×v4)}(mg:x_)(h h':Heap)(x:A3j tc mg h)(hk:∀b o,h.get? b=some o->h'.get? b=some o):A3j tc mg h':=fun q m=>by
 obtain⟨a,o,its,n,e1,e2,r⟩:=x q m;exact⟨a,o,its,n,e1,hk _ _ e2,r⟩
theorem Bl6 {tc:List (Str×v4)}{mg:x_}{h:Heap}{K:v_}(x:A3j tc mg h)(hK:∀a o,h.get? a=some o->Hj o=true->o.data≠.fields #[]->K.lookup a=some o){i:Nat}{y:Str}{ss:v4}(e:tc[i]?=some (y,ss)):∃p,mg y=some (.ref p)/\∀H,SqT K H p (ss.map V.str):=by
 obtain⟨a,o,its,n,e1,e2,e3,e4,e5,e6⟩:=x _ (bH e)
 exact⟨a,e1,fun H=>.inr ⟨o,its,n,hK a o e2 (by unfold Hj;rw[e4]) (by rw[e4];intro z;cases z),e3,e4,e5,e6⟩⟩
theorem walk_ofX {l:OpenLaw}{n k:Nat}{q:t6}{loose:v4}{XP:(x_)->Heap->Prop}{YP:World->Heap->Prop}{d:DefRec}{sp:Frag->Sp}{x:Str}
 (hn:l.most=some n) (hn2:n<=sizeLine) (hdf:d.params.defaults=[]) (hr:Room k callerA)
 (F:∀(w:World) (mean:ExcName->t_) (mg mb:x_) (fa:Addr) (h:Heap),Top q (looseW q loose) mean mg mb h->XP mg h->mg d.name=some (.ref fa) ->
  ∃(K:Frag) (fd:u_),K.In h/\TabAt K h/\(∀(s:q9) (u:Value),BindsTo s fd ⟨[u],[]⟩ [(x,u)])/\∀base:Heap,K.In base->base.Ns mainGlobals mg->FnOk l.prog w K mg base CX0 k fa fd [x] (sp K))
 (hsp:∀(K:Frag) (H:Hp) (a:Addr) (ns:List Int),ns.length<=n->SqL K H a (ns.map V.int)->sp K [.ref a] H (fun v _=>v=.bl true) fun _ _ _=>False) :
 WalkO q loose XP YP l.row.toRowW d [] (fun f vs=>PySem.call f vs):=by
 refine Att.Aj4 hn hdf fun w s₀ s₁ mg mb fa o pm cd doc a vs ns G Y ho hd hcd hmg hobj hints hlen hg=>?_
 obtain⟨K,fd,kin,tab,hb,hF⟩:=F w _ mg mb fa _ G.T G.X hmg
 exact A2h kin G.T.g G.T.b G.T.builtins G.T.nolimit hg G.T.bmain tab hobj hints (au hlen hn2) hr hF hb (fun H hS=>hsp K H a ns hlen hS) fun H e s' z=>z
end L2
namespace L2
open PySem PySem.Spec PyProof.Rows
def LaidS (H0:Hp)(xs ys:m7):Nat->m7->Hp->Prop
 | 0,ps,H=>ps=[]/\H=H0
 | i+1,ps,H=>∃r H' p x y,LaidS H0 xs ys i r H'/\xs[i]?=some x/\ys[i]?=some y/\H' p=none/\ps=r++[.ref p]/\H=upd H' p (.tup [x,y])
theorem SqK.upd {t:Bool}{H:Hp}{a p:Addr}{xs:m7}{o:HO}(x:SqK t H a xs)(h:H p=none):SqK t (upd H p o) a xs:=by
 obtain⟨u,e⟩:=x.some;have ne:a≠p:=Br e h
 cases t
 ·exact(Ak ne).trans x
 ·exact(Ak ne).trans x
theorem Ar7:typeLookup (.type "zip") "__len__" = pure none:=by rw[typeLookup_type,jA];kernel_rfl
theorem Af3:typeLookup (.type "zip") "__length_hint__" = pure none:=by rw[typeLookup_type,jA];kernel_rfl
section
variable {X:Cx}{pins:y_}{σ:St}{A:p6}{t1 t2:Bool}{z ti to i1 i2 a b S:Addr}{xs ys:m7}
theorem At6 {P:t6}{w:World}{E:z_}{s:q9}{us vs:v6}{k:Nat}{Q:t_->q9->Prop}(quiet:A.handled=none)(d:zE z ti to i1 i2 a b)(y:Zs s.heap t1 t2 z ti to i1 i2 a b k)(ha:SqA t1 s.heap a us)(hb:SqA t2 s.heap b vs)(hx:us[k]?=none)
 (q:∀h',(∀c o,c∉[z,ti,to,i1,i2]->s.heap.get? c=some o->h'.get? c=some o)->Q none { s with heap:=h' }):wpAny (model P w) A (pyNext (.ref z)) Q E s:=by
 have ty:=y.ty;unfold pyNext
 refine aj (cP (cB (name:="__next__") ty dR (bJ dR ty iQ ?_ (iR _))))
 rcases y with ⟨rfl,y⟩ | ⟨p0,b1,hp,y⟩
 ·refine Al5 quiet d y ha hb (.inl hx) fun h1 e kp he=>?_
  obtain⟨o,e1,e2⟩:=he;exact aj (du (T := "StopIteration") (b:=true) ⟨o,e1,e2⟩ fG (ao (q h1 kp)))
 ·refine A0w quiet d y ha hx fun h1 e kp he=>?_
  obtain⟨o,e1,e2⟩:=he;exact aj (du (T := "StopIteration") (b:=true) ⟨o,e1,e2⟩ fG (ao (q h1 kp)))
theorem Bh0 {H0:Hp}{R:Result->q9->Prop}{res:Value}(quiet:A.in1.handled=none)(nd:[z,ti,to,i1,i2].Nodup)(nS:S∉[z,ti,to,i1,i2])(hl:xs.length=ys.length)(hz:xs.length<=sizeLine)
 (fin:∀H acc c ps s,Inv X pins σ H s->LaidS H0 xs ys xs.length ps H->Vals ps acc.toList->s.heap.get? S=some { cls:=.type "list",dict:=none,data:=.seq acc c,slots:=#[] }->R (.ok (.ret res)) s) :
 ∀
  (r i:Nat) (H:Hp) (s:q9) (acc:v6) (c:Nat) (ps:m7),i+r=xs.length->Inv X pins σ H s->(∀b∈[z,ti,to,i1,i2],Ma X pins H b)->Ma X pins H S->to<s.heap.objs.size->SqK t1 H a xs->SqK t2 H b ys->Zs s.heap t1 t2 z ti to i1 i2 a b i ->
  s.heap.get? S=some { cls:=.type "list",dict:=none,data:=.seq acc c,slots:=#[] }->acc.size=i->Vals ps acc.toList->LaidS H0 xs ys i ps H->codeAny (model X.prog X.w) A (.builtin "list.extend.loop" ⟨[.ref S,.ref z,res],[]⟩) R s:=by
 have off:∀{H:Hp},(∀b∈[z,ti,to,i1,i2],Ma X pins H b)->SqK t1 H a xs->SqK t2 H b ys->zE z ti to i1 i2 a b:=fun hf ha hb =>
  ⟨nd,fun m=>by (obtain⟨o,e⟩:=ha.some;rw[(hf a m).1]at e;cases e),fun m=>by (obtain⟨o,e⟩:=hb.some;rw[(hf b m).1]at e;cases e)⟩
 intro r
 induction r with
 | zero =>
  intro i H s acc c ps e I hf fS hto ha hb y hS ea rv L
  have hi:i=xs.length:=by omega
  subst hi;obtain⟨its,ra,pa⟩:=ha.its I;obtain⟨jts,rb,pb⟩:=hb.its I
  refine dW F.entry_extend_loop ?_
  rw[dX h_ _]
  show wpAny _ A.in1 (pyNext (.ref z) >>= _) _ _ s
  refine aj (At6 quiet (off hf ha hb) y pa pb (by simp[ra.length]) fun h' kp=>?_)
  exact ao (fin H acc c ps _ (I.turnL (t':=s.toks) hf fun c o m e=>kp c o m e) L rv (kp S _ nS hS))
 | succ r ih =>
  intro i H s acc c ps e I hf fS hto ha hb y hS ea rv L
  have hi:i<xs.length:=by omega
  have hj:i<ys.length:=by omega
  obtain⟨its,ra,pa⟩:=ha.its I;obtain⟨jts,rb,pb⟩:=hb.its I;obtain⟨u,hu,ru⟩:=ra.get (bj hi);obtain⟨v,hv,rv'⟩:=rb.get (bj hj)
  refine dW F.entry_extend_loop ?_
  rw[dX h_ _]
  show wpAny _ A.in1 (pyNext (.ref z) >>= _) _ _ s
  refine aj (A2d (x:=u) (x':=v) (off hf ha hb) hto y pa pb (by simpa using hu) (by simpa using hv) fun h1 z1 new lt1 kp=>?_)
  have hS1:=kp S _ nS hS;have np:s.heap.objs.size≠S:=cj (aA hS);have hp:H s.heap.objs.size=none:=I.hok.fresh (aq _)
  have I1:=I.turnLay (t':=s.toks) (h':=h1) (p:=s.heap.objs.size) (o:=.tup [xs[i],ys[i]]) hf (fun c o m e=>kp c o m e) (aq _) ⟨(show 2<=sizeLine by decide),[u,v],.cons ru (.cons rv' .nil),⟨_,new,rfl,⟨_,rfl⟩,rfl⟩⟩
  have lts:∀c∈[z,ti,to,i1,i2],c≠s.heap.objs.size:=fun c hc=>by
   have l:=y.lt;simp only[az,aM,aN]at hc
   rcases hc with rfl | rfl | rfl | rfl | rfl
   ·exact aV (l _ (by simp))
   ·exact aV (l _ (by simp))
   ·exact aV hto
   ·exact aV (l _ (by simp))
   ·exact aV (l _ (by simp))
  have hf1:∀c∈[z,ti,to,i1,i2],Ma X pins (upd H s.heap.objs.size (.tup [xs[i],ys[i]])) c:=fun c hc=>⟨(Ak (lts c hc)).trans (hf c hc).1,(hf c hc).2⟩
  have fS1:Ma X pins (upd H s.heap.objs.size (.tup [xs[i],ys[i]])) S:=⟨(Ak (aJ np)).trans fS.1,fS.2⟩
  show wpAny _ A.in1 (updateSeq S (·.push (.ref s.heap.objs.size)) >>= _) _ _ _
  have oth:∀b o,b≠S->h1.get? b=some o->(h1.update S (Obj.mapSeq (·.push (.ref s.heap.objs.size)))).get? b=some o:=fun b o n e=>(cz _ _ (aJ n)).trans e
  have sb:Heap.SameBut S h1 (h1.update S (Obj.mapSeq (·.push (.ref s.heap.objs.size)))):=bT ..
  refine aj (g_ hS1 rfl (ao ⟨fH h_ _,ih (i+1) _ _ _ _ (ps++[.ref s.heap.objs.size]) (by omega)
   (I1.turnL (t':=s.toks) (ch:=[S]) (fun b hb=>by rw[aY.mp hb];exact fS1) fun b o m e=>oth b o (fun q=>m (by simp[q])) e) hf1 fS1 ?_ (ha.upd hp) (hb.upd hp) (z1.keep (Nat.succ_pos _) nS sb fun o e=>⟨_,cM _ hS1 rfl⟩) (cM _ hS1 rfl) ?_ ?_ ⟨ps,H,_,_,_,L,bj hi,bj hj,hp,rfl,rfl⟩⟩)
   (by rw[ea];omega) (by show (acc.push _).size<=sizeLine+1;rw[Array.size_push,ea];omega))
  ·rw[show (h1.update S (Obj.mapSeq (·.push (.ref s.heap.objs.size)))).objs.size=h1.objs.size from sb.1]
   exact Nat.lt_trans hto lt1
  ·rw[Array.size_push,ea]
  ·rw[Array.toList_push]
   exact rv.append (.cons rfl .nil)
theorem Am0 {s:q9}{E:z_}{H:Hp}{Q:w6->q9->Prop}(quiet:A.handled=none)(I:Inv X pins σ H s)(nd:[z,ti,to,i1,i2].Nodup)(hl:xs.length=ys.length)(hz:xs.length<=sizeLine)
 (hf:∀b∈[z,ti,to,i1,i2],Ma X pins H b) (hto:to<s.heap.objs.size) (ha:SqK t1 H a xs) (hb:SqK t2 H b ys) (y0:ZipAt s.heap t1 t2 z ti to i1 i2 a b .none 0)
 (hQ:∀H' vs ps s',Inv X pins σ H' s'->LaidS H xs ys xs.length ps H'->Vals ps vs->Q vs s'):wpAny (model X.prog X.w) A (collect (.ref z)) Q E s:=by
 unfold collect
 refine aj (wpAny_runValue (dW F.entry_proto_collect ?_))
 rw[dX F.plain_proto_collect _]
 show wpAny _ A.in1 (newList [] >>= fun l=>again (.builtin "list.__iadd__" ⟨[l,.ref z],[]⟩)) _ _ s
 refine aj (cA ?_)
 refine ao ⟨fH j4 _,dW F.entry_list_iadd ?_⟩
 rw[dX j4 _]
 have up:∀c o,s.heap.get? c=some o->(s.heap.push { cls:=.type "list",data:=.seq ([]:w6).toArray }).get? c=some o:=fun c o e=>aG _ e
 have hS:(s.heap.push { cls:=.type "list",data:=.seq ([]:w6).toArray }).get? s.heap.objs.size=some { cls:=.type "list",data:=.seq ([]:w6).toArray }:=aH _ rfl;have sz:(s.heap.push { cls:=.type "list",data:=.seq ([]:w6).toArray }).objs.size=s.heap.objs.size+1:=b_ ..;have y:Zs s.heap t1 t2 z ti to i1 i2 a b 0:=.inl ⟨rfl,y0⟩;have y1:=y0.kept up
 generalize (s.heap.push { cls:=.type "list",data:=.seq ([]:w6).toArray })=h1 at *
 have I1:Inv X pins σ H { s with heap:=h1 }:=I.kept (t':=s.toks) up
 have nS:s.heap.objs.size∉[z,ti,to,i1,i2]:=fun m=>by
  have l:=y.lt;simp only[az,aM,aN]at m
  rcases m with m | m | m | m | m
  ·exact absurd (l z (by simp)) (by rw[<- m];exact bh _)
  ·exact absurd (l ti (by simp)) (by rw[<- m];exact bh _)
  ·exact absurd hto (by rw[<- m];exact bh _)
  ·exact absurd (l i1 (by simp)) (by rw[<- m];exact bh _)
  ·exact absurd (l i2 (by simp)) (by rw[<- m];exact bh _)
 have nz:s.heap.objs.size≠z:=fun e=>nS (by simp[e])
 have e1:Builtin.List.listSameRef (.ref s.heap.objs.size) (.ref z)=false:=by simp[Builtin.List.listSameRef,nz]
 show wpAny _ A.in1 (Builtin.List.listExtendWith (.ref s.heap.objs.size) (.ref z) (.ref s.heap.objs.size)) _ _ _
 unfold Builtin.List.listExtendWith
 have ty:({ s with heap:=h1 }:q9).TypeIs (.ref z) "zip" := ⟨_,y1.zip,rfl⟩
 refine aj (dJ ty ?_)
 have e2:(Value.type "zip" == Value.type "list")=false:=by decide
 have e3:(Value.type "zip" == Value.type "tuple")=false:=by decide
 simp only[e1,e2,e3,iB,bO,aZ]
 refine aj (jr y1.zip ?_)
 refine aj (cG ?_)
 unfold Builtin.List.listLengthHint
 refine aj (dH ty Ar7 ?_)
 show wpAny _ A.in1 (specialOf (Value.ref z) (Str.ofString "__length_hint__") >>= _) _ _ _
 refine aj (dH ty Af3 ?_)
 refine ao ?_
 show wpAny _ A.in1 (rule "list.extend.makes-room" >>= fun _=>Builtin.List.listTouch (.ref s.heap.objs.size) >>= fun _ =>
  again (.builtin "list.extend.loop" ⟨[.ref s.heap.objs.size,.ref z,.ref s.heap.objs.size],[]⟩)) _ _ _
 refine aj (cT ?_)
 refine aj ?_
 show wpAny _ A.in1 (updateSeq s.heap.objs.size (·.push .none) >>= fun _=>updateSeq s.heap.objs.size (·.pop)) _ _ _
 refine aj (g_ hS rfl ?_)
 have q2:=cM (Obj.mapSeq (·.push Value.none)) hS rfl
 refine g_ q2 rfl ?_
 have q3:=cM (Obj.mapSeq (·.pop)) q2 rfl
 have oth:∀b o,b≠s.heap.objs.size->h1.get? b=some o->((h1.update s.heap.objs.size (Obj.mapSeq (·.push Value.none))).update s.heap.objs.size (Obj.mapSeq (·.pop))).get? b=some o:=fun b o n e=>(cz _ _ (aJ n)).trans ((cz _ _ (aJ n)).trans e)
 have s2:((h1.update s.heap.objs.size (Obj.mapSeq (·.push Value.none))).update s.heap.objs.size (Obj.mapSeq (·.pop))).objs.size=h1.objs.size:=(show Heap.SameBut s.heap.objs.size _ _ from bT ..).1.trans (show Heap.SameBut s.heap.objs.size h1 _ from bT ..).1
 have fS:Ma X pins H s.heap.objs.size:=I.fpOk (aq _) (I.hok.fresh (aq _))
 have I2:Inv X pins σ H { s with heap:=(h1.update s.heap.objs.size (Obj.mapSeq (·.push Value.none))).update s.heap.objs.size (Obj.mapSeq (·.pop)) }:=I1.turnL (t':=s.toks) (ch:=[s.heap.objs.size]) (fun b hb=>by rw[aY.mp hb];exact fS) fun b o m e=>oth b o (fun q=>m (by simp[q])) e
 have y2:ZipAt ((h1.update s.heap.objs.size (Obj.mapSeq (·.push Value.none))).update s.heap.objs.size (Obj.mapSeq (·.pop))) t1 t2 z ti to i1 i2 a b .none 0:=by
  simp only[az,aM,aN,not_or]at nS;obtain⟨u,v,e⟩:=y1.outs
  exact⟨oth _ _ (aJ nS.1) y1.zip,oth _ _ (aJ nS.2.1) y1.ins,⟨u,v,oth _ _ (aJ nS.2.2.1) e⟩,y1.one.stay fun o e=>oth _ _ (aJ nS.2.2.2.1) e,y1.two.stay fun o e=>oth _ _ (aJ nS.2.2.2.2) e⟩
 refine ao ⟨fH h_ _,Bh0 (X:=X) (pins:=pins) (σ:=σ) (H0:=H) (show A.in1.handled=none from quiet) nd nS hl hz (fun H' acc c ps s' I' L rv hS'=>?_) xs.length 0 H _ _ _ [] (bf _) I2 hf fS ?_ ha hb (.inl ⟨rfl,y2⟩) q3 rfl .nil ⟨rfl,rfl⟩⟩
 ·show wpAny _ A (load s.heap.objs.size >>= _) _ _ s'
  exact aj (wpAny_load hS' (ao (hQ H' _ ps s' I' L rv)))
 ·show to<_
  rw[s2,sz];exact fu hto
theorem LaidS.length {H0:Hp}:∀{i:Nat}{ps:m7}{H:Hp},LaidS H0 xs ys i ps H->ps.length=i
 | 0,_,_,⟨e,_⟩=>by rw[e];rfl
 | i+1,_,_,⟨r,H',p,x,y,l,_,_,_,e,_⟩=>by rw[e,aK,l.length];rfl
theorem W9 {P:t6}{w:World}:MeetsIn P w (Builtin.«tuple.__new__» ⟨[.type "tuple",.ref z],[]⟩)
 (fun A R s=>s.TypeIs (.ref z) "zip" /\ wpAny (model P w) A.in1.in1 (collect (.ref z)) (fun vs s'=>vs.length<=sizeLine/\R (.ok (.ret (.ref s'.heap.objs.size))) { s' with heap:=s'.heap.push { cls:=.type "tuple",data:=.seq vs.toArray } }) (fun e s'=>R (.error e) s') s) :=
 .of_wp fun A R s h=>by
  obtain⟨hT,hc⟩:=h;have hsub:=sub_tuple_self;have hinit:=init_tuple_lookup;have hmh:=madeHere_tuple
  have col:∀{Q:w6->q9->Prop},(∀vs s',vs.length<=sizeLine->R (.ok (.ret (.ref s'.heap.objs.size))) { s' with heap:=s'.heap.push { cls:=.type "tuple",data:=.seq vs.toArray } }->Q vs s')->wpAny (model P w) A.in1 (collect (.ref z)) Q (fun e s'=>R (.error e) s') s:=fun h=>wpAny_of_in1 (a_ hc (fun vs s' q=>h vs s' q.1 q.2) fun _ _ q=>q)
  wp_walk using dJ hT,col
  intro vs s' hl hR
  refine aj (ao ?_)
  show wpAny _ _ (Builtin.Tuple.tupleExact vs.toArray >>= fun v=>ret v) _ _ _
  unfold Builtin.Tuple.tupleExact
  refine aj (cA ?_ (by show vs.toArray.size<=sizeLine;simpa using hl))
  exact ao ⟨_,rfl,hR⟩
def A6r (ta:TA):TE:=fun σ H Q=>ta σ H fun vs H1=>∃a b,vs=[.ref a,.ref b]/\∃t1 t2 xs ys,SqK t1 H1 a xs/\SqK t2 H1 b ys/\xs.length=ys.length/\∀ps p H2,LaidS H1 xs ys xs.length ps H2->H2 p=none->Q (.ref p) (upd H2 p (.tup ps))
theorem Be2 {e f:Expr}{ta:TA}{p p2 pos pos2:Pos}(hc:X.calm=true)(hgd:Gl X "tuple") (hmd:X.mg "tuple" = none) (hg:Gl X "zip") (hm:X.mg "zip" = none) (ha:PA X [e,f] ta) (hs1:isStar e=false:=by rfl) (hs2:isStar f=false:=by rfl) :
 PE X (.Call (.Name "tuple" p) [.Call (.Name "zip" p2) [e,f] [] pos2] [] pos) (A6r ta):=by
 intro pins s σ H Q I h;have st1:=Gj (es:=[f]) (env:=X.env) hs1;have st2:=Gj (es:=[]) (env:=X.env) hs2;have st3:starEach [.Call (.Name "zip" p2) [e,f] [] pos2] X.env=(false,eval (.Call (.Name "zip" p2) [e,f] [] pos2) X.env)::starEach [] X.env:=Gj rfl
 refine Call_ (J9 I hgd hmd Ko (eO ?_ st3 rfl))
 rw[st3]
 show wpAny _ _ (spliced ((false,eval (.Call (.Name "zip" p2) [e,f] [] pos2) X.env)::backTo pos (starEach [] X.env))) _ _ s
 refine dI ?_
 refine Call_ (J9 I hg hm Yd (eO (thn (ha pos2 pins s σ H _ I h) fun us s1 ⟨vs,H1,I1,r1,q1⟩=>?_) st1 (by rw[st2];rfl)))
 obtain⟨a',b',rfl,t1,t2,xs,ys,h1,h2,hl,q⟩:=q1
 have hz:xs.length<=sizeLine:=by
  cases t1
  ·obtain⟨_,_,_,z⟩:=I1.list (SqL.of h1);exact z
  ·obtain⟨_,_,_,z⟩:=I1.tuple (SqT.of h1);exact z
 obtain⟨u1,u2,rfl,g1,g2⟩:=Vals.two r1
 cases (show u1=Value.ref a' from g1)
 cases (show u2=Value.ref b' from g2)
 obtain⟨its,rv,pa⟩:=h1.its I1;obtain⟨jts,rw',pb⟩:=h2.its I1
 refine Ut pa pb fun h' zz kp=>fP ?_
 have I2:Inv X pins σ H1 { s1 with heap:=h' }:=I1.kept (t':=s1.toks) kp
 have nd5:[s1.heap.objs.size+4,s1.heap.objs.size+2,s1.heap.objs.size+3,s1.heap.objs.size,s1.heap.objs.size+1].Nodup:=by simp
 have fr:∀c∈[s1.heap.objs.size+4,s1.heap.objs.size+2,s1.heap.objs.size+3,s1.heap.objs.size,s1.heap.objs.size+1],s1.heap.objs.size<=c:=fun c hc=>by
  simp only[az,aM,aN]at hc
  rcases hc with rfl | rfl | rfl | rfl | rfl <;> simp
 obtain⟨u0,v0,o0⟩:=zz.outs
 refine callType_newIn F.called_tuple (by decide) (F.typeCall_tuple_1 _) (F.newCall_tuple_1 _) (fun obj=>jt obj _) F.entry_tuple_new W9 ⟨⟨_,zz.zip,rfl⟩,?_⟩
 refine Am0 (s:={ s1 with heap:=h' }) (show _=none from I.ok.hd hc) I2 nd5 hl hz (fun c hc=>I1.fpOk (fr c hc) (I1.hok.fresh (fr c hc))) (aA o0) h1 h2 zz fun H' ws ps s' I' L rv'=>?_
 have lp:ps.length=xs.length:=L.length
 refine⟨by rw[<- rv'.length,lp];exact hz,⟨_,aH _ rfl,rfl⟩,?_⟩
 have hf:H' s'.heap.objs.size=none:=I'.hok.fresh (aq _)
 refine⟨.ref s'.heap.objs.size,upd H' s'.heap.objs.size (.tup ps),I'.laid (t':=s'.toks) (fun b u e=>aG _ e) (aq _) ?_,rfl,q ps _ H' L hf⟩
 exact⟨by rw[lp];exact hz,ws,rv',_,aH _ rfl,rfl,⟨0,by simp⟩,rfl⟩
theorem Bd2 {e f:Expr}{ta:TA}{p p2 pos pos2:Pos}(hc:X.calm=true)(hgd:Gl X "tuple") (hmd:X.mg "tuple" = none) (hg:Gl X "zip") (hm:X.mg "zip" = none) (ha:QA X [e,f] ta) (hs1:isStar e=false:=by rfl) (hs2:isStar f=false:=by rfl) :
 QE X (.Call (.Name "tuple" p) [.Call (.Name "zip" p2) [e,f] [] pos2] [] pos) (A6r ta):=⟨Be2 hc hgd hmd hg hm ha.get hs1 hs2⟩
theorem A5x {o e:Expr}{td ty:TE}{apos cpos:Pos}(hu:X.A.units+64<cLine)(ho:QE X o td)(he:QE X e ty)(m:M1 X o "get" apos e cpos):QE X (.Call (.Attribute o "get" apos) [e] [] cpos) (Zv td ty (tC .non)):=⟨Ba0 (bW (dw (by decide) _) hu) ho.get he.get m⟩
end
section
variable {P:t6}{w:World}{A:p6}{E:z_}{s:q9}
theorem An2:((Manifest.find? "dict_valueiterator").elim "dict_valueiterator" fun x=>x.tpName) = "dict_valueiterator" := by rw[find?_eq_fast];kernel_rfl
theorem A8x {it dd:Addr}{i ep:Nat}{es:v7}{od:Obj}{Q:t_->q9->Prop}(hit:s.heap.IsValIter it dd i es.size ep)(hod:s.heap.get? dd=some od)(hdd:od.data=.dict es ep)(hi:i<es.size)
 (hQ:∀h',h'.IsValIter it dd (i+1) es.size ep->Heap.SameBut it s.heap h'->Q (some es[i].val) { s with heap:=h' }):wpAny (model P w) A (pyNext (.ref it)) Q E s:=by
 obtain⟨hp,g,d,tk,os⟩:=s;obtain⟨⟨c,dct,dat,sl⟩,ho,hc,hd⟩:=hit;obtain⟨c2,dct2,dat2,sl2⟩:=od;simp only at hc hd hdd;subst hc hd hdd;have ty:(⟨hp,g,d,tk,os⟩:q9).TypeIs (.ref it) "dict_valueiterator" := ⟨_,ho,rfl⟩;have f1:=mroOf_valiter
 have f2:Builtin.Dict_items.ownsTuple "dict_valueiterator" = false:=by decide
 have f3:es[(i:Int).toNat]?=some es[i]:=by simp[hi]
 unfold pyNext
 refine aj (cP (cB (name:="__next__") ty j5 (bJ j5 ty jL ?_ (jM _))))
 repeat any_goals first | assumption | wp_step
 simp only[An2,f2,bO,aZ,gn,List.take]
 have f4:¬ ((i:Int)<0):=by omega
 simp only[f4,aZ,f3]
 repeat any_goals first | assumption | wp_step
 simp only[An2,f2,bO,aZ]
 have hit':(hp.update it (Obj.mapFields (·.setIfInBounds 1 (rawInt ((i:Int)+1))))).IsValIter it dd (i+1) es.size ep :=
  ⟨_,cM _ ho (iK (fB rfl _)),jo ..,by rw[fB rfl];simp[rawInt]⟩
 exact⟨_,rfl,ao (hQ _ hit' (bT ..))⟩
theorem Bb1 {it dd:Addr}{i ep:Nat}{es:v7}{od:Obj}{Q:t_->q9->Prop}(quiet:A.handled=none)(hit:s.heap.IsValIter it dd i es.size ep)(hod:s.heap.get? dd=some od)(hdd:od.data=.dict es ep)(hi:es.size<=i)
 (hQ:∀h',Heap.ExtBut it s.heap h'->Q none { s with heap:=h' }):wpAny (model P w) A (pyNext (.ref it)) Q E s:=by
 obtain⟨hp,g,d,tk,os⟩:=s;obtain⟨⟨c,dct,dat,sl⟩,ho,hc,hd⟩:=hit;obtain⟨c2,dct2,dat2,sl2⟩:=od;simp only at hc hd hdd;subst hc hd hdd;have ty:(⟨hp,g,d,tk,os⟩:q9).TypeIs (.ref it) "dict_valueiterator" := ⟨_,ho,rfl⟩;have f1:=mroOf_valiter
 have f2:Builtin.Dict_items.ownsTuple "dict_valueiterator" = false:=by decide
 have f3:es[(i:Int).toNat]?=none:=by simp[hi]
 unfold pyNext
 refine aj (cP (cB (name:="__next__") ty j5 (bJ j5 ty jL ?_ (jM _))))
 repeat any_goals first | assumption | wp_step
 simp only[An2,f2,bO,aZ,gn,List.take]
 have f4:¬ ((i:Int)<0):=by omega
 simp only[f4,aZ,f3]
 repeat any_goals first | assumption | wp_step
 refine jy (show A.in1.handled=none from quiet) ?_
 refine aj (du (T := "StopIteration") (b:=true) ⟨_,aH _ rfl,rfl⟩ fG ?_)
 exact ao (hQ _ (((bT ..).extBut.push _).push _))
theorem A3o {dd:Addr}(nd:(dd==sysModules)=false):MeetsIn P w (Builtin.«dict.values» ⟨[.ref dd],[]⟩) (fun _ R s=>s.TypeIs (.ref dd) "dict" /\ R (.ok (.ret (.ref s.heap.objs.size))) { s with heap:=s.heap.push { cls:=.type "dict_values",data:=.fields #[.ref dd] } }) :=
 .of_wp fun A R s ⟨t,h⟩=>by
  refine aj ?_
  unfold Builtin.Dict.noArgs
  refine aj (iZ t (ao ?_))
  have e0:Builtin.Dict.showsAll dd=pure ():=by unfold Builtin.Dict.showsAll;rw[if_neg (by rw[nd];exact aR)]
  show wpAny _ _ (Builtin.Dict.showsAll dd >>= _) _ _ _
  rw[e0]
  refine aj (ao (aj (cA (ao ⟨_,rfl,h⟩))))
theorem A8b {dd:Addr}{Q:z_}(nd:(dd==sysModules)=false)(ty:s.TypeIs (.ref dd) "dict")
 (hQ:Q (.ref s.heap.objs.size) { s with heap:=s.heap.push { cls:=.type "dict_values",data:=.fields #[.ref dd] } }):wpAny (model P w) A (call (.builtin "dict.values") [.ref dd]) Q E s :=
 eZ PySem.F.slot_dict_values ty PySem.F.entry_dict_values (PySem.F.args_dict_values_1 _) (A3o nd) ⟨ty,hQ⟩
theorem A8r {v dd:Addr}{es:v7}{ep:Nat}{od:Obj}{Q:z_}(hv:s.heap.get? v=some { cls:=.type "dict_values",data:=.fields #[.ref dd] }) (hod:s.heap.get? dd=some od) (hdd:od.data=.dict es ep)
 (hQ:Q (.ref s.heap.objs.size) { s with heap:=s.heap.push { cls:=.type "dict_valueiterator",data:=.fields #[.ref dd,.int 0 0,.int es.size 0,.int ep 0] } }):wpAny (model P w) A (pyIter (.ref v)) Q E s:=by
 obtain⟨hp,g,d,tk,os⟩:=s;obtain⟨c2,dct2,dat2,sl2⟩:=od;simp only at hdd;subst hdd;have ty:(⟨hp,g,d,tk,os⟩:q9).TypeIs (.ref v) "dict_values" := ⟨_,hv,rfl⟩
 have f2:Builtin.Dict_items.ownsTuple "dict_valueiterator" = false:=by decide
 refine jz ty F.slot_dict_values_iter (bJ F.slot_dict_values_iter ty F.entry_dict_values_iter ?_ (F.args_dict_values_iter_1 _))
 repeat any_goals first | assumption | wp_step
 simp only[f2,bO,aZ];exact⟨_,rfl, "dict_valueiterator",_,⟨_,aH _ rfl,rfl⟩,F.slot_dict_valueiterator_next.lookup,hQ⟩
end
def Itv (a:Addr)(o:Obj):It :=
 ⟨fun i H=>∃kvs,H a=some (.frz o (.dT kvs))/\i<kvs.length,fun i H x H'=>H'=H/\∃kvs k,H a=some (.frz o (.dT kvs))/\kvs[i]?=some (k,x),fun i H=>∃kvs,H a=some (.frz o (.dT kvs))/\kvs.length<=i⟩
theorem A3b {P:t6}{w:World}{K:v_}{tg:Expr}{a it:Addr}{o:Obj}{es:v7}{ep:Nat}(hd:o.data=.dict es ep):Turn P w K tg (Itv a o) [it] it (fun i h=>h.IsValIter it a i es.size ep) where
 mem:=by simp
 obj:=fun i h st b hb=>by
  have e:b=it:=by simpa using hb
  subst e;obtain⟨o,e,c,d⟩:=st
  exact⟨o,e,fun v z=>by rw[d]at z;cases z⟩
 keep:=fun i h h' st k=>let ⟨o,e,r⟩:=st; ⟨o,k it (by simp) o e,r⟩
 item:=by
  intro X hP hw hK hc i pins s σ H E I hf st hg;subst hP hw hK;obtain⟨kvs,ha,hi⟩:=hg;obtain⟨xs,es',ep',g1,g2,g3,g4,g5,g6,g7⟩:=I.seen ha;rw[hd]at g4
  cases g4
  have li:i<es.size:=by rw[Hr g5 g6];exact hi
  obtain⟨⟨k,v⟩,hk⟩:∃x,kvs[i]?=some x:=⟨_,bj hi⟩;obtain⟨b,u,k1,k2,k3,k4⟩:=Aa9 g5 g6 hk li
  obtain⟨f0,f1,f2,f3,f4,f5⟩:=hf it (by simp)
  refine A8x st g1 hd li fun h' st' sb=>?_
  have I1:Inv X pins σ H { s with heap:=h' }:=I.turned (t':=s.toks) (fun b o hb e=>(sb.2 b hb).trans e) f0 f1 f3 f4 f5
  obtain⟨o',e,c,d⟩:=id st'
  exact⟨_,rfl,Ah5 (s:={ s with heap:=h' }) e c d (by decide) ⟨v,H,I1,by rw[k2];exact k4,⟨rfl,kvs,k,ha,hk⟩,st',fun b hb=>(hf b hb).1⟩⟩
 done:=by
  intro X hP hw hK hc i pins s σ H E I hf st hg;subst hP hw hK;obtain⟨kvs,ha,hi⟩:=hg;obtain⟨xs,es',ep',g1,g2,g3,g4,g5,g6,g7⟩:=I.seen ha;rw[hd]at g4
  cases g4
  obtain⟨f0,f1,f2,f3,f4,f5⟩:=hf it (by simp)
  exact Bb1 (I.ok.hd hc) st g1 hd (by rw[Hr g5 g6];exact hi) fun h' eb=>⟨rfl,I.turned (t':=s.toks) (fun b o hb e=>eb b o hb e) f0 f1 f3 f4 f5⟩
 self:=fun _ _ _ _ _ st h=>wpAny_pyIter_valiter st h
def iDV (td:TE):TI:=fun σ H R=>td σ H fun x H1=>∃a o kvs,x=.ref a/\H1 a=some (.frz o (.dT kvs))/\R (Itv a o) H1
section
variable {X:Cx}
theorem A6v {l tg:Expr}{tl:TE}{apos cpos:Pos}(hl:PE X l tl)(hbase:attributeBase l "values" X.env (eval l X.env)=eval l X.env:=by rfl) (hline:(apos.endLine==cpos.line)=true:=by rfl) :
 PI X tg (.Call (.Attribute l "values" apos) [] [] cpos) (iDV tl):=by
 intro pins s σ H R I h
 refine wpAny_Call_method0_late hbase hline (thn (hl pins s σ H _ I h) fun v s1 ⟨x,H1,I1,r1,q1⟩=>?_)
 obtain⟨a,o,kvs,e,hq,q⟩:=q1;subst e
 cases (show v=Value.ref a from r1)
 obtain⟨t1,t2,_⟩:=Vy I1 (.inr ⟨kvs,.inr ⟨o,hq⟩⟩);obtain⟨xs,es,ep,g1,g2,g3,g4,g5,g6,g7⟩:=I1.seen hq
 refine⟨"dict", "dict.values",gQ,PySem.F.slot_dict_values,PySem.F.type_dict_values,t1,t2,fW rfl (PySem.evalArgs_none (A8b g2 t1 ?_))⟩
 refine A8r (aH _ rfl) (aG _ g1) g4 ?_
 have kp:∀b o',s1.heap.get? b=some o'->((s1.heap.push { cls:=.type "dict_values",data:=.fields #[.ref a] }).push { cls:=.type "dict_valueiterator",data:=.fields #[.ref a,.int 0 0,.int es.size 0,.int ep 0] }).get? b=some o':=fun b o' e=>aG _ (aG _ e)
 refine⟨_,[(s1.heap.push { cls:=.type "dict_values",data:=.fields #[.ref a] }).objs.size],_,_,H1,rfl,I1.kept (t':=s1.toks) kp,A3b g4,⟨_,aH _ rfl,rfl,rfl⟩,fun b hb=>?_,q⟩
 have e:b=(s1.heap.push { cls:=.type "dict_values",data:=.fields #[.ref a] }).objs.size:=by simpa using hb
 subst e
 have le:s1.heap.objs.size<=(s1.heap.push { cls:=.type "dict_values",data:=.fields #[.ref a] }).objs.size:=by rw[b_];exact gP _
 exact I1.fpOk le (I1.hok.fresh le)
theorem A7i {l tg:Expr}{tl:TE}{apos cpos:Pos}(hl:QE X l tl)(hbase:attributeBase l "values" X.env (eval l X.env)=eval l X.env:=by rfl) (hline:(apos.endLine==cpos.line)=true:=by rfl) :
 QI X tg (.Call (.Attribute l "values" apos) [] [] cpos) (iDV tl):=⟨A6v hl.get hbase hline⟩
end
end L2
namespace U
open PySem L2
inductive Th where
 | nm (T:String)
 | dc (ks:v4) (ds:w5)
 | dt (ks ds:w5)
 | ds (ks ds:w5)
 | td (xs ks ds:w5)
 | xc (nm:Str)
inductive O where
 | im (d:q_)
 | ls (b:Bool) (ds:w5)
 | sc (ns:List Int)
 | ty (T:Th)
abbrev m6:=Option O
abbrev m5:=List (m6)
abbrev Ev:=m5
inductive PV where
 | o (o:O)
 | sl (i:Nat)
inductive R (α:Type) where
 | ok (a:α) (c:Ev)
 | bad
abbrev n8:=Ev->R PV
abbrev n6:=Ev->R Bool
abbrev o8:=PV->Ev->R Unit
abbrev o_:=Ev->R (List PV)
abbrev o9:=Ev->R (w5)
def R.bind {α β:Type}(r:R α)(k:α->Ev->R β):R β:=match r with
 | .ok a c=>k a c
 | .bad=>.bad
def R.sat {α:Type}(r:R α)(φ:α->Ev->Prop):Prop:=match r with
 | .ok a c=>φ a c
 | .bad=>False
theorem R.sat_bind {α β:Type}{r:R α}{k:α->Ev->R β}{φ:β->Ev->Prop}:(r.bind k).sat φ↔r.sat fun a c=>(k a c).sat φ:=by cases r <;> exact Iff.rfl
theorem R.sat.mono {α:Type}{r:R α}{φ ψ:α->Ev->Prop}(h:r.sat φ)(f:∀a c,φ a c->ψ a c):r.sat ψ:=by
 cases r with
 | ok a c=>exact f a c h
 | bad=>exact h
theorem R.sat.bnd {α β:Type}{r:R α}{k:α->Ev->R β}{φ:β->Ev->Prop}(h:(r.bind k).sat φ):r.sat fun a c=>(k a c).sat φ:=R.sat_bind.mp h
def O.bor:O->Bool
 | .ls b _=>b
 | _=>false
def O.own:O->Bool
 | .ls _ _=>true
 | _=>false
def O.dat:O->Option q_
 | .im d=>some d
 | .ls _ ds=>some (.list ds)
 | _=>none
def O.flag (b:Bool):O->O
 | .ls _ ds=>.ls b ds
 | o=>o
def nrm:PV->PV
 | .o (.ls _ ds)=>.o (.im (.list ds))
 | p=>p
def rdP (c:Ev):PV->m6
 | .o o=>some o
 | .sl i=>(c[i]?).join
def Ef (c:Ev)(p:PV):Option q_:=(rdP c p).bind O.dat
structure Wo where
 Hf:Hp
 H:Hp
 fps:Nat->v5
def Wo.S (W:Wo):Addr->Prop:=fun a=>∃i,a∈W.fps i
def RepT (K:v_)(Hf:Hp):Th->V->Prop
 | .nm T,v=>v=.ty T
 | .dc ks ds,v=>∃a xs,v=.ref a/\Hf a=some (.dK (B2g ks xs))/\TrL Hf ds xs
 | .dt ks ds,v=>∃a xs,v=.ref a/\Rd Hf a (.dT (ks.zip xs))/\TrL Hf ds xs/\ks.length=xs.length
 | .ds ks ds,v=>∃a o xs,v=.ref a/\Hf a=some (.frz o (.dT (ks.zip xs)))/\TrL Hf ds xs/\ks.length=xs.length
 | .td es ks ds,v=>∃a us b o xs,v=.ref a/\Hf a=some (.tup (us++[.ref b]))/\TrL Hf es us/\Hf b=some (.frz o (.dT (ks.zip xs)))/\TrL Hf ds xs/\ks.length=xs.length
 | .xc nm,v=>∃a C,v=.ref a/\PySem.W.nsIn K mainGlobals nm=some (some (.ref C))/\Hf a=some (B2j a C)
theorem Bl7 {Hf Hf':Hp}(S:Same Hf Hf'){a:Addr}{u:HO}(h:Rd Hf a u):Rd Hf' a u:=h.imp (fun h=>S _ _ h) fun⟨o,h⟩=>⟨o,S _ _ h⟩
theorem RepT.same {K:v_}{Hf Hf':Hp}(S:Same Hf Hf'):∀{t:Th}{v:V},RepT K Hf t v->RepT K Hf' t v
 | .nm T,_,h=>h
 | .dc ks ds,_,⟨a,xs,e,h,t⟩=>⟨a,xs,e,S _ _ h,TrL.same S t⟩
 | .dt ks ds,_,⟨a,xs,e,h,t,l⟩=>⟨a,xs,e,Bl7 S h,TrL.same S t,l⟩
 | .ds ks ds,_,⟨a,o,xs,e,h,t,l⟩=>⟨a,o,xs,e,S _ _ h,TrL.same S t,l⟩
 | .td es ks ds,_,⟨a,us,b,o,xs,e,h,t,h2,t2,l⟩=>⟨a,us,b,o,xs,e,S _ _ h,TrL.same S t,S _ _ h2,TrL.same S t2,l⟩
 | .xc nm,_,⟨a,C,e,n,h⟩=>⟨a,C,e,n,S _ _ h⟩
def RepN (K:v_)(Hf:Hp):O->V->Prop
 | .im d,v=>Tr Hf d v
 | .sc ns,v=>∃a,v=.ref a/\SqL K Hf a (ns.map V.int)
 | .ty T,v=>RepT K Hf T v
 | .ls _ _,_=>False
def RepO (K:v_)(Hf H:Hp)(o:O)(v:V)(fp:v5):Prop:=match o with
 | .ls _ ds=>∃a vs,v=.ref a/\fp=[a]/\Hf a=none/\H a=some (.lst vs)/\TrL Hf ds vs
 | o=>fp=[]/\RepN K Hf o v
structure Stp (S:Addr->Prop) (Hf H:Hp) (S':Addr->Prop) (Hf' H':Hp):Prop where
 fz:Same Hf Hf'
 kp:∀a o,H a=some o->¬ S a->H' a=some o
 nf:∀a o,H a=some o->Mut (some o)->¬ S a->Hf a=none->Hf' a=none
 fr:∀a,S' a->S a\/H a=none
structure Rep (K:v_) (β:Nat->V) (W:Wo) (c:Ev) (σ:St):Prop where
 sub:Same W.Hf W.H
 len:c.length=σ.length
 get:∀i o,c[i]?=some (some o)->∃v,σ[i]?=some (some v)/\RepO K W.Hf W.H o v (W.fps i)/\(o.bor=true->v=β i)
 dis:∀i j a,a∈W.fps i->a∈W.fps j->i=j
 own:∀i a,a∈W.fps i->W.Hf a=none/\∃o,W.H a=some o/\Mut (some o)
def Gn (K:v_)(W:Wo)(σ:St):PV->V->v5->Prop
 | .o o,v,fp=>RepO K W.Hf W.H o v fp/\∀a∈fp,¬ W.S a
 | .sl i,v,fp=>fp=[]/\σ[i]?=some (some v)
def RepA (K:v_)(Hf:Hp)(σ:St):PV->V->Prop
 | .o o,v=>RepN K Hf o v
 | .sl i,v=>σ[i]?=some (some v)
def zP (K:v_)(Hf:Hp)(σ:St):List PV->m7->Prop
 | [],vs=>vs=[]
 | p::ps,vs=>∃v r,vs=v::r/\RepA K Hf σ p v/\zP K Hf σ ps r
abbrev orS (S:Addr->Prop)(fp:v5):Addr->Prop:=fun a=>S a\/a∈fp
section
variable {K:v_}{β:Nat->V}{W W':Wo}{c c':Ev}{σ:St}{Hf Hf' Hf2 H H' H2:Hp}{o:O}{v:V}{fp:v5}{S S' S2:Addr->Prop}{p:PV}{a:Addr}
theorem Stp.refl:Stp S Hf H S Hf H:=⟨fun _ _ h=>h,fun _ _ h _=>h,fun _ _ _ _ _ h=>h,fun _ h=>.inl h⟩
theorem Stp.trans (x:Stp S Hf H S' Hf' H')(y:Stp S' Hf' H' S2 Hf2 H2):Stp S Hf H S2 Hf2 H2:=by
 have key:∀a o,H a=some o->¬ S a->¬ S' a:=fun a o h n z=>by
  rcases x.fr a z with q | q
  ·exact n q
  ·rw[h]at q;cases q
 refine⟨x.fz.trans y.fz,fun a o h n=>y.kp a o (x.kp a o h n) (key a o h n),fun a o h mu n q=>y.nf a o (x.kp a o h n) mu (key a o h n) (x.nf a o h mu n q),fun a h=>?_⟩
 rcases y.fr a h with q | q
 ·exact x.fr a q
 ·cases e:H a with
  | none=>exact .inr rfl
  | some o =>
   by_cases n:S a
   ·exact .inl n
   ·rw[x.kp a o e n]at q;cases q
theorem Stp.less (x:Stp S Hf H S' Hf' H')(h:∀a,S2 a->S' a):Stp S Hf H S2 Hf' H':=⟨x.fz,x.kp,x.nf,fun a q=>x.fr a (h a q)⟩
theorem Stp.more {F:Addr->Prop}(x:Stp S Hf H S' Hf' H'):Stp (fun a=>S a\/F a) Hf H (fun a=>S' a\/F a) Hf' H' :=
 ⟨x.fz,fun a o h n=>x.kp a o h fun z=>n (.inl z),fun a o h mu n q=>x.nf a o h mu (fun z=>n (.inl z)) q,fun a q=>by
  rcases q with q | q
  ·rcases x.fr a q with z | z
   ·exact .inl (.inl z)
   ·exact .inr z
  ·exact .inl (.inr q)⟩
theorem Stp.up (x:Stp S Hf H S' Hf' H')(h:∀a,S a->S2 a):Stp S2 Hf H S' Hf' H' :=
 ⟨x.fz,fun a o e n=>x.kp a o e fun z=>n (h a z),fun a o e mu n q=>x.nf a o e mu (fun z=>n (h a z)) q,fun a q=>(x.fr a q).imp (h a) id⟩
theorem RepN.same (S:Same Hf Hf'):∀{o:O}{v:V},RepN K Hf o v->RepN K Hf' o v
 | .im d,_,h=>Tr.same S h
 | .sc ns,_,⟨a,e,h⟩=>⟨a,e,Same.seq S h⟩
 | .ty T,_,h=>RepT.same S h
 | .ls _ _,_,h=>h
theorem RepA.same (S:Same Hf Hf'):∀{p:PV}{v:V},RepA K Hf σ p v->RepA K Hf' σ p v
 | .o _,_,h=>RepN.same S h
 | .sl _,_,h=>h
theorem zP.same (S:Same Hf Hf'):∀{ps:List PV}{vs:m7},zP K Hf σ ps vs->zP K Hf' σ ps vs
 | [],_,h=>h
 | p::ps,_,⟨v,r,e,h,t⟩=>⟨v,r,e,RepA.same S h,zP.same S t⟩
theorem RepO.mono (h:RepO K Hf H o v fp)(S:Same Hf Hf')(h1:∀a∈fp,Hf' a=none/\H' a=H a):RepO K Hf' H' o v fp:=by
 cases o with
 | ls b ds =>
  obtain⟨a,vs,rfl,rfl,q,e,t⟩:=h;obtain⟨z1,z2⟩:=h1 a (.head _);exact⟨a,vs,rfl,rfl,z1,z2.trans e,TrL.same S t⟩
 | im d=>exact⟨h.1,RepN.same S h.2⟩
 | sc ns=>exact⟨h.1,RepN.same S h.2⟩
 | ty T=>exact⟨h.1,RepN.same S h.2⟩
theorem Rep.frame (R:Rep K β W c σ)(S:Same W.Hf Hf')(sub:Same Hf' H')(h:∀a,W.S a->Hf' a=none/\H' a=W.H a):Rep K β ⟨Hf',H',W.fps⟩ c σ :=
 ⟨sub,R.len,fun i o e=>by
  obtain⟨v,e1,r,b⟩:=R.get i o e
  exact⟨v,e1,r.mono S fun a ha=>h a ⟨i,ha⟩,b⟩,R.dis,fun i a ha=>by
  obtain⟨_,o,q,mu⟩:=R.own i a ha;obtain⟨z1,z2⟩:=h a ⟨i,ha⟩
  exact⟨z1,o,z2.trans q,mu⟩⟩
theorem Rep.notS (R:Rep K β W c σ)(h:W.H a=none):¬ W.S a:=fun⟨i,q⟩=>by
 obtain⟨_,o,e,_⟩:=R.own i a q;rw[h]at e;cases e
theorem Rep.notF (R:Rep K β W c σ)(h:W.H a=none):W.Hf a=none:=Same.free R.sub h
theorem Stp.rep (R:Rep K β W c σ)(x:Stp (fun _=>False) W.Hf W.H S' Hf' H')(sub:Same Hf' H'):Rep K β ⟨Hf',H',W.fps⟩ c σ :=
 R.frame x.fz sub fun a ha=>by
  obtain⟨i,hi⟩:=ha;obtain⟨z,o,e,mu⟩:=R.own i a hi
  exact⟨x.nf a o e mu (fun z=>z) z,(x.kp a o e fun z=>z).trans e.symm⟩
theorem Bt {H:Hp}{p:Addr}{o:HO}(h:H p=none):Same H (upd H p o):=fun b u e=>by
 rw[Ak];exact e;intro z;rw[z,h]at e;cases e
theorem Lb {o:HO}(s:Same Hf H):Same (upd Hf a o) (upd H a o):=fun b u e=>by
 unfold upd at e ⊢
 split
 ·rename_i z;rw[if_pos z]at e;exact e
 ·rename_i z;rw[if_neg z]at e;exact s b u e
theorem Stp.newF {o:HO}(s:Same Hf H)(h:H a=none):Stp (fun _=>False) Hf H (fun _=>False) (upd Hf a o) (upd H a o) :=
 ⟨Bt (Same.free s h),fun b u e _=>Bt h b u e,fun b u e _ _ q=>by rw[Ak (Br e h)];exact q,fun _ z=>z.elim⟩
theorem Stp.newL {o:HO}(s:Same Hf H)(h:H a=none):Stp (fun _=>False) Hf H (fun b=>b∈[a]) Hf (upd H a o) :=
 ⟨Same.refl _,fun b u e _=>Bt h b u e,fun b u e _ _ q=>q,fun b z=>by
  rw[aY]at z;subst z;exact .inr h⟩
theorem Ud {o:HO}(s:Same Hf H)(h:H a=none):Same Hf (upd H a o):=s.trans (Bt h)
def ME (K:v_)(T:TE)(f:n8):Prop:=∀(β:Nat->V) (W:Wo) (c:Ev) (σ:St) (Q:VK),Rep K β W c σ ->
 (f c).sat (fun p c'=>∀v W' fp,Stp W.S W.Hf W.H (orS W'.S fp) W'.Hf W'.H->Rep K β W' c' σ->Gn K W' σ p v fp->Q v W'.H)->T σ W.H Q
def MV (K:v_)(T:TE)(f:n8):Prop:=∀(β:Nat->V) (W:Wo) (c:Ev) (σ:St) (Q:VK),Rep K β W c σ ->
 (f c).sat (fun p c'=>∀v W',Stp W.S W.Hf W.H W'.S W'.Hf W'.H->Rep K β W' c' σ->RepA K W'.Hf σ (nrm p) v->Q v W'.H)->T σ W.H Q
def MA (K:v_)(T:TA)(f:o_):Prop:=∀(β:Nat->V) (W:Wo) (c:Ev) (σ:St) (Q:m7->Hp->Prop),Rep K β W c σ ->
 (f c).sat (fun ps c'=>∀vs W',Stp W.S W.Hf W.H W'.S W'.Hf W'.H->Rep K β W' c' σ->zP K W'.Hf σ ps vs->Q vs W'.H)->T σ W.H Q
def MT (K:v_)(T:TT)(f:n6):Prop:=∀(β:Nat->V) (W:Wo) (c:Ev) (σ:St) (Q:Bool->Hp->Prop),Rep K β W c σ ->
 (f c).sat (fun b c'=>∀W',Stp W.S W.Hf W.H W'.S W'.Hf W'.H->Rep K β W' c' σ->Q b W'.H)->T σ W.H Q
theorem Z1 {vs:m7}(R:Rep K β W c σ)(hf:W.Hf a=none)(hH:W.H a=some (.lst vs))(hn:¬ W.S a):Rep K β ⟨upd W.Hf a (.lst vs),W.H,W.fps⟩ c σ :=
 R.frame (Bt hf) (fun b u e=>by
  unfold upd at e
  split at e
  ·rename_i z;rw[z,hH,<- e]
  ·exact R.sub b u e) fun b hb=>by
   obtain⟨i,hi⟩:=hb
   have nb:b≠a:=fun z=>hn ⟨i,by rw[<- z];exact hi⟩
   exact⟨by rw[Ak nb];exact(R.own i b hi).1,rfl⟩
theorem Bm7 {p:PV}{Q:VK}{c':Ev}(k:∀v W',Stp W.S W.Hf W.H W'.S W'.Hf W'.H->Rep K β W' c' σ->RepA K W'.Hf σ (nrm p) v->Q v W'.H)(v:V)(W':Wo)(fp:v5)(st:Stp W.S W.Hf W.H (orS W'.S fp) W'.Hf W'.H)(R':Rep K β W' c' σ)(rp:Gn K W' σ p v fp):Q v W'.H:=by
 cases p with
 | sl i =>
  obtain⟨rfl,e⟩:=rp
  exact k v W' (st.less fun a z=>.inl z) R' e
 | o o =>
  cases o with
  | im d =>
   obtain⟨⟨rfl,e⟩,_⟩:=rp
   exact k v W' (st.less fun a z=>.inl z) R' e
  | sc d =>
   obtain⟨⟨rfl,e⟩,_⟩:=rp
   exact k v W' (st.less fun a z=>.inl z) R' e
  | ty d =>
   obtain⟨⟨rfl,e⟩,_⟩:=rp
   exact k v W' (st.less fun a z=>.inl z) R' e
  | ls b ds =>
   obtain⟨⟨a,vs,rfl,rfl,hf,hH,t⟩,hn⟩:=rp;have hn:=hn a (.head _)
   refine k (.ref a) ⟨upd W'.Hf a (.lst vs),W'.H,W'.fps⟩ ⟨st.fz.trans (Bt hf),st.kp,fun b o e mu n q=>?_,fun b z=>st.fr b (.inl z)⟩ (Z1 R' hf hH hn) ?_
   ·have nb:b≠a:=fun z=>by
     rcases st.fr a (.inr (.head _)) with y | y
     ·exact n (by rw[z];exact y)
     ·rw[z,y]at e;cases e
    show upd W'.Hf a (.lst vs) b=none
    rw[Ak nb];exact st.nf b o e mu n q
   ·exact⟨a,vs,rfl,Bb,TrL.same (Bt hf) t⟩
theorem ME.toV {T:TE}{f:n8}(h:ME K T f):MV K T f:=fun β W c σ Q R s=>h β W c σ Q R (s.mono fun p c' k v W' fp st R' rp=>Bm7 k v W' fp st R' rp)
end
def RdV (Hf H:Hp):q_->V->Prop
 | .list ds,v=>∃a vs,v=.ref a/\H a=some (.lst vs)/\TrL Hf ds vs
 | d,v=>Tr Hf d v
section
variable {K:v_}{β:Nat->V}{W W':Wo}{c c':Ev}{σ:St}{Hf Hf' Hf2 H H' H2:Hp}{o:O}{v:V}{fp:v5}{S S' S2:Addr->Prop}{p:PV}{a:Addr}{d:q_}
theorem RdV.of (s:Same Hf H)(h:Tr Hf d v):RdV Hf H d v:=by
 cases d with
 | list ds=>obtain⟨a,vs,e,q,t⟩:=h;exact⟨a,vs,e,s _ _ q,t⟩
 | none=>exact h
 | bool b=>exact h
 | int i=>exact h
 | str x=>exact h
 | tuple ds=>exact h
 | dict k=>exact h
theorem RdV.tr (s:Same Hf H)(h:RdV Hf H d v):Tr H d v:=by
 cases d with
 | list ds=>obtain⟨a,vs,e,q,t⟩:=h;exact⟨a,vs,e,q,TrL.same s t⟩
 | none=>exact h
 | bool b=>exact h
 | int i=>exact h
 | str x=>exact h
 | tuple ds=>exact Tr.same s h
 | dict k=>exact h.elim
theorem Gu (R:Rep K β W c σ)(h:RepA K W.Hf σ p v)(e:Ef c p=some d):RdV W.Hf W.H d v:=by
 cases p with
 | o o =>
  cases o with
  | im d'=>cases (show some d'=some d from e);exact .of R.sub h
  | ls b ds=>exact h.elim
  | sc ns=>cases (show (none:Option q_)=some d from e)
  | ty T=>cases (show (none:Option q_)=some d from e)
 | sl i =>
  have e':((c[i]?).join).bind O.dat=some d:=e;obtain⟨o,h1,h2⟩:=cZ.mp e'
  have h1:c[i]?=some (some o):=by
   cases q:c[i]? with
   | none=>rw[q]at h1;cases h1
   | some z=>
    rw[q]at h1;cases z with
     | none=>cases h1
     | some y=>cases h1;rfl
  obtain⟨v',e1,r,_⟩:=R.get i o h1
  cases (show some (some v')=some (some v) from e1.symm.trans h)
  cases o with
  | im d'=>cases (show some d'=some d from h2);exact .of R.sub r.2
  | ls b ds =>
   cases (show some (PyData.list ds)=some d from h2)
   obtain⟨a,vs,e,_,_,q,t⟩:=r;exact⟨a,vs,e,q,t⟩
  | sc ns=>cases (show (none:Option q_)=some d from h2)
  | ty T=>cases (show (none:Option q_)=some d from h2)
def Bx7 (Hf H:Hp):w5->m7->Prop
 | [],vs=>vs=[]
 | d::ds,vs=>∃v r,vs=v::r/\RdV Hf H d v/\Bx7 Hf H ds r
abbrev New (K:v_)(Hf H:Hp)(o:O)(Q:VK):Prop:=∀v Hf' H' fp,Stp (fun _=>False) Hf H (fun a=>a∈fp) Hf' H'->Same Hf' H'->RepO K Hf' H' o v fp->Q v H'
def OpS (K:v_)(r:R2)(op:q_->q_->m6):Prop:=∀(Hf H:Hp) (x y:V) (dx dy:q_) (o:O) (Q:VK),Same Hf H->RdV Hf H dx x->RdV Hf H dy y->op dx dy=some o->New K Hf H o Q->r x y H Q
def B0d (K:v_)(r:m7->Hp->VK->Prop)(op:w5->m6):Prop:=∀(Hf H:Hp) (xs:m7) (ds:w5) (o:O) (Q:VK),Same Hf H->Bx7 Hf H ds xs->op ds=some o->New K Hf H o Q->r xs H Q
theorem New.same {Q:VK}(h:New K Hf H (.im d) Q)(s:Same Hf H){v:V}(t:Tr Hf d v):Q v H:=h v Hf H [] (Stp.refl.less fun a z=>nomatch z) s ⟨rfl,t⟩
theorem New.tup {Q:VK}{ds:w5}{vs:m7}(h:New K Hf H (.im (.tuple ds)) Q)(s:Same Hf H)(t:TrL Hf ds vs){p:Addr}(hp:H p=none):Q (.ref p) (upd H p (.tup vs)) :=
 h (.ref p) (upd Hf p (.tup vs)) _ [] ((Stp.newF s hp).less fun a z=>nomatch z) (Lb s) ⟨rfl,p,vs,rfl,Bb,TrL.same (Bt (Same.free s hp)) t⟩
theorem New.lst {Q:VK}{ds:w5}{vs:m7}(h:New K Hf H (.ls false ds) Q)(s:Same Hf H)(t:TrL Hf ds vs){p:Addr}(hp:H p=none):Q (.ref p) (upd H p (.lst vs)) :=
 h (.ref p) Hf _ [p] (Stp.newL s hp) (Ud s hp) ⟨p,vs,rfl,rfl,Same.free s hp,Bb,t⟩
theorem New.of {Q:VK}(R:Rep K β W c σ)(k:∀v W' fp,Stp W.S W.Hf W.H (orS W'.S fp) W'.Hf W'.H->Rep K β W' c σ->Gn K W' σ (.o o) v fp->Q v W'.H):New K W.Hf W.H o Q:=by
 intro v Hf' H' fp st sub r;have R':=st.rep R sub
 refine k v ⟨Hf',H',W.fps⟩ fp ⟨st.fz,fun a o e _=>st.kp a o e fun z=>z,fun a o e mu _ q=>st.nf a o e mu (fun z=>z) q,fun a z=>?_⟩ R' ⟨r,fun a ha z=>?_⟩
 ·rcases z with z | z
  ·exact .inl z
  ·rcases st.fr a z with y | y
   ·exact y.elim
   ·exact .inr y
 ·rcases st.fr a ha with y | y
  ·exact y
  ·exact R.notS y z
def cOp (op:q_->q_->m6)(fa fb:n8):n8:=fun c=>(fa c).bind fun p c=>(fb c).bind fun q c =>
 match Ef c (nrm p),Ef c (nrm q) with
 | some x,some y=>match op x y with
  | some o=>.ok (.o o) c
  | none=>.bad
 | _,_=>.bad
theorem An {r:R2}{op:q_->q_->m6}{ta tb:TE}{fa fb:n8}(ha:ME K ta fa)(hb:ME K tb fb)(hr:OpS K r op):ME K (tOp r ta tb) (cOp op fa fb):=by
 intro β W c σ Q R s
 refine ha.toV β W c σ _ R ((s.bnd).mono fun p c1 s1 v1 W1 st1 R1 r1=>?_)
 refine hb.toV β W1 c1 σ _ R1 ((s1.bnd).mono fun q c2 s2 v2 W2 st2 R2 r2=>?_)
 have r1:=RepA.same st2.fz r1
 cases ex:Ef c2 (nrm p) with
 | none=>simp only[ex]at s2;exact s2.elim
 | some x =>
  cases ey:Ef c2 (nrm q) with
  | none=>simp only[ex,ey]at s2;exact s2.elim
  | some y =>
   simp only[ex,ey]at s2
   cases eo:op x y with
   | none=>simp only[eo]at s2;exact s2.elim
   | some o =>
    simp only[eo]at s2
    exact hr W2.Hf W2.H v1 v2 x y o Q R2.sub (Gu R2 r1 ex) (Gu R2 r2 ey) eo (New.of R2 fun v W' fp st R' rp=>s2 v W' fp (st1.trans (st2.trans st)) R' rp)
def Al:o_:=fun c=>.ok [] c
def Ac (f:n8)(fr:o_):o_:=fun c=>(f c).bind fun p c=>(fr c).bind fun ps c=>.ok (nrm p::ps) c
def cK (ds:w5):o_:=fun c=>.ok (ds.map fun d=>.o (.im d)) c
theorem Ah:MA K Io Al:=fun β W c σ Q R s=>s [] W Stp.refl R rfl
theorem Ab {ta:TE}{tr:TA}{fa:n8}{fr:o_}(ha:ME K ta fa)(hr:MA K tr fr):MA K (Dz ta tr) (Ac fa fr):=by
 intro β W c σ Q R s
 refine ha.toV β W c σ _ R ((s.bnd).mono fun p c1 s1 v1 W1 st1 R1 r1=>?_)
 refine hr β W1 c1 σ _ R1 ((s1.bnd).mono fun ps c2 s2 vs W2 st2 R2 r2=>?_)
 exact s2 (v1::vs) W2 (st1.trans st2) R2 ⟨v1,vs,rfl,RepA.same st2.fz r1,r2⟩
def Ad (i:Nat):n8:=fun c=>match c[i]? with
 | some (some (.ls _ _))=>.ok (.sl i) c
 | some (some o)=>.ok (.o o) c
 | _=>.bad
theorem Rep.here (R:Rep K β W c σ){v:V}(h:RepN K W.Hf o v)(n:o.own=false){Q:VK}(s:∀v W' fp,Stp W.S W.Hf W.H (orS W'.S fp) W'.Hf W'.H->Rep K β W' c σ->Gn K W' σ (.o o) v fp->Q v W'.H):Q v W.H :=
 s
  v W [] (Stp.refl.less fun a z=>by
  rcases z with z | z
  ·exact z
  ·cases z) R ⟨by
   cases o with
   | ls b ds=>exact nomatch n
   | im d=>exact⟨rfl,h⟩
   | sc d=>exact⟨rfl,h⟩
   | ty d=>exact⟨rfl,h⟩,fun a z=>nomatch z⟩
theorem Aa {i:Nat}:ME K (A3a i) (Ad i):=by
 intro β W c σ Q R s;unfold Ad at s
 cases e:c[i]? with
 | none=>simp only[e]at s;exact s.elim
 | some x =>
  cases x with
  | none=>simp only[e]at s;exact s.elim
  | some o =>
   obtain⟨v,e1,r,_⟩:=R.get i o e
   refine⟨v,e1,?_⟩
   simp only[e]at s
   cases o with
   | ls b ds=>
    exact s v W [] (Stp.refl.less fun a z=>by
     rcases z with z | z
     ·exact z
     ·cases z) R ⟨rfl,e1⟩
   | im d=>exact R.here r.2 rfl s
   | sc d=>exact R.here r.2 rfl s
   | ty d=>exact R.here r.2 rfl s
def cC (d:q_):n8:=fun c=>.ok (.o (.im d)) c
def vD:V->Option q_
 | .non=>some .none
 | .bl b=>some (.bool b)
 | .int i=>some (.int i)
 | .str x=>some (.str x)
 | _=>none
theorem Bm5:∀{v:V}{d:q_},vD v=some d->Tr H d v
 | .non,_,e=>by cases e;rfl
 | .bl b,_,e=>by cases e;rfl
 | .int i,_,e=>by cases e;rfl
 | .str x,_,e=>by cases e;rfl
 | .byt _,_,e=>nomatch e
 | .flt _,_,e=>nomatch e
 | .ref _,_,e=>nomatch e
 | .ty _,_,e=>nomatch e
theorem Ax {v:V}{d:q_}(h:vD v=some d):ME K (tC v) (cC d):=fun β W c σ Q R s=>R.here (o:=.im d) (Bm5 h) rfl s
def frz (p:PV)(c:Ev):R q_:=match p with
 | .o (.im d)=>.ok d c
 | .o _=>.bad
 | .sl i=>match c[i]? with
  | some (some (.im d))=>.ok d c
  | some (some (.ls false ds))=>.ok (.list ds) (c.set i (some (.im (.list ds))))
  | _=>.bad
def clr (fps:Nat->v5)(i:Nat):Nat->v5:=fun j=>if j=i then [] else fps j
theorem Fj {fps:Nat->v5}{i j:Nat}(h:a∈clr fps i j):a∈fps j/\j≠i:=by
 unfold clr at h
 split at h
 ·cases h
 ·rename_i n;exact⟨h,n⟩
theorem Rep.setN (R:Rep K β W c σ){i:Nat}{v:V}(h:RepN K W.Hf o v)(n:o.own=false):Rep K β ⟨W.Hf,W.H,clr W.fps i⟩ (c.set i (some o)) (σ.set i (some v)):=by
 refine⟨R.sub,by rw[bG,bG];exact R.len,fun j o' e=>?_,fun j k a h1 h2=>R.dis j k a (Fj h1).1 (Fj h2).1,fun j a h=>R.own j a (Fj h).1⟩
 by_cases z:j=i
 ·subst z
  by_cases l:j<c.length
  ·rw[bZ l]at e
   cases e
   refine⟨v,by rw[bZ (by rw[<- R.len];exact l)],?_,fun b=>?_⟩
   ·show RepO K W.Hf W.H o v (clr W.fps j j)
    unfold clr;rw[if_pos rfl]
    cases o with
    | ls b ds=>exact nomatch n
    | im d=>exact⟨rfl,h⟩
    | sc d=>exact⟨rfl,h⟩
    | ty d=>exact⟨rfl,h⟩
   ·cases o with
    | ls b ds=>exact nomatch n
    | im d=>exact nomatch b
    | sc d=>exact nomatch b
    | ty d=>exact nomatch b
  ·rw[bU (by rw[bG];omega)]at e;cases e
 ·rw[bM (fun y=>z y.symm)]at e
  obtain⟨v',e1,r,b⟩:=R.get j o' e
  refine⟨v',by rw[bM (fun y=>z y.symm)];exact e1,?_,b⟩
  show RepO K W.Hf W.H o' v' (clr W.fps i j)
  unfold clr;rw[if_neg z];exact r
theorem Rep.setO (R:Rep K β W c σ){i:Nat}{v:V}(h:RepO K W.Hf W.H o v fp)(hn:∀a∈fp,¬ W.S a)(hb:o.bor=false):Rep K β ⟨W.Hf,W.H,fun j=>if j=i then fp else W.fps j⟩ (c.set i (some o)) (σ.set i (some v)):=by
 refine⟨R.sub,by rw[bG,bG];exact R.len,fun j o' e=>?_,fun j k a h1 h2=>?_,fun j a h1=>?_⟩
 ·by_cases z:j=i
  ·subst z
   by_cases l:j<c.length
   ·rw[bZ l]at e
    cases e
    refine⟨v,by rw[bZ (by rw[<- R.len];exact l)],?_,fun b=>by rw[hb]at b;cases b⟩
    show RepO K W.Hf W.H o v (if j=j then fp else W.fps j)
    rw[if_pos rfl];exact h
   ·rw[bU (by rw[bG];omega)]at e;cases e
  ·rw[bM (fun y=>z y.symm)]at e
   obtain⟨v',e1,r,b⟩:=R.get j o' e
   refine⟨v',by rw[bM (fun y=>z y.symm)];exact e1,?_,b⟩
   show RepO K W.Hf W.H o' v' (if j=i then fp else W.fps j)
   rw[if_neg z];exact r
 ·have h1:a∈if j=i then fp else W.fps j:=h1
  have h2:a∈if k=i then fp else W.fps k:=h2
  split at h1
  ·split at h2
   ·omega
   ·exact absurd ⟨k,h2⟩ (hn a h1)
  ·split at h2
   ·exact absurd ⟨j,h1⟩ (hn a h2)
   ·exact R.dis j k a h1 h2
 ·have h1:a∈if j=i then fp else W.fps j:=h1
  split at h1
  ·cases o with
   | ls b ds =>
    obtain⟨a',vs,_,rfl,q1,q2,_⟩:=h
    cases (aY.mp h1)
    exact⟨q1,_,q2,trivial⟩
   | im d=>rw[h.1]at h1;cases h1
   | sc d=>rw[h.1]at h1;cases h1
   | ty d=>rw[h.1]at h1;cases h1
  ·exact R.own j a h1
theorem set_same {α:Type}{l:List α}{i:Nat}{x:α}(h:l[i]?=some x):l.set i x=l:=by
 apply List.ext_getElem?;intro j
 by_cases z:i=j
 ·subst z
  have l':i<l.length:=by
   rcases bc i l.length with q | q
   ·exact q
   ·rw[bU q]at h;cases h
  rw[bZ l',h]
 ·rw[bM z]
theorem Rep.drop (R:Rep K β W c σ)(i:Nat):Rep K β ⟨W.Hf,W.H,clr W.fps i⟩ (c.set i none) σ:=by
 refine⟨R.sub,by rw[bG];exact R.len,fun j o' e=>?_,fun j k a h1 h2=>R.dis j k a (Fj h1).1 (Fj h2).1,fun j a h=>R.own j a (Fj h).1⟩
 by_cases z:j=i
 ·subst z
  by_cases l:j<c.length
  ·rw[bZ l]at e;cases e
  ·rw[bU (by rw[bG];omega)]at e;cases e
 ·rw[bM (fun y=>z y.symm)]at e
  obtain⟨v',e1,r,b⟩:=R.get j o' e
  refine⟨v',e1,?_,b⟩
  show RepO K W.Hf W.H o' v' (clr W.fps i j)
  unfold clr;rw[if_neg z];exact r
theorem Gp (R:Rep K β W c σ)(h:RepA K W.Hf σ p v){φ:q_->Ev->Prop}(s:(frz p c).sat φ) :
 ∃d c' W',frz p c=.ok d c'/\φ d c'/\W'.H=W.H/\Stp W.S W.Hf W.H W'.S W'.Hf W'.H/\Rep K β W' c' σ/\Tr W'.Hf d v:=by
 cases p with
 | o o =>
  cases o with
  | im d=>exact⟨d,c,W,rfl,s,rfl,Stp.refl,R,h⟩
  | ls b ds=>exact s.elim
  | sc d=>exact s.elim
  | ty d=>exact s.elim
 | sl i =>
  unfold frz at s ⊢
  cases e:c[i]? with
  | none=>simp only[e]at s;exact s.elim
  | some x =>
   cases x with
   | none=>simp only[e]at s;exact s.elim
   | some o =>
    obtain⟨v',e1,r,_⟩:=R.get i o e
    cases (show some (some v')=some (some v) from e1.symm.trans h)
    cases o with
    | im d=>simp only[e]at s;exact⟨d,c,W,by simp only[e],s,rfl,Stp.refl,R,r.2⟩
    | sc d=>simp only[e]at s;exact s.elim
    | ty d=>simp only[e]at s;exact s.elim
    | ls b ds =>
     cases b with
     | true=>simp only[e]at s;exact s.elim
     | false =>
      simp only[e]at s;obtain⟨a,vs,rfl,ef,hf,hH,t⟩:=r
      refine⟨.list ds,c.set i (some (.im (.list ds))),⟨upd W.Hf a (.lst vs),W.H,clr W.fps i⟩,by simp only[e],s,rfl,⟨Bt hf,fun b o e _=>e,fun b o e mu n q=>?_,fun b z=>?_⟩,?_,⟨a,vs,rfl,Bb,TrL.same (Bt hf) t⟩⟩
      ·have nb:b≠a:=fun z=>n ⟨i,by rw[z,ef];exact .head _⟩
       show upd W.Hf a (.lst vs) b=none
       rw[Ak nb];exact q
      ·obtain⟨j,hj⟩:=z
       exact .inl ⟨j,(Fj hj).1⟩
      ·have hn:¬ Wo.S ⟨W.Hf,W.H,clr W.fps i⟩ a:=fun⟨j,hj⟩=>by
        obtain⟨q1,q2⟩:=Fj hj
        exact q2 (R.dis j i a q1 (by rw[ef];exact .head _))
       have R2:=Z1 (R.drop i) hf hH hn;have R3:=R2.setN (i:=i) (o:=.im (.list ds)) (v:=.ref a) ⟨a,vs,rfl,Bb,TrL.same (Bt hf) t⟩ rfl;rw[List.set_set,set_same h]at R3
       have z:clr (clr W.fps i) i=clr W.fps i:=by funext j;unfold clr;split <;> rfl
       have R3:Rep K β ⟨upd W.Hf a (.lst vs),W.H,clr (clr W.fps i) i⟩ _ _:=R3;rw[z]at R3;exact R3
def vDs:m7->Option (w5)
 | []=>some []
 | v::vs=>(vD v).bind fun d=>(vDs vs).map (d::·)
theorem Az1:∀{vs:m7}{ds:w5},vDs vs=some ds->zP K Hf σ (ds.map fun d=>.o (.im d)) vs
 | [],_,e=>by cases (show some []=some _ from e);exact rfl
 | v::vs,ds,e=>by
  obtain⟨d,e1,e2⟩:=cZ.mp (show ((vD v).bind fun d=>(vDs vs).map (d::·))=some ds from e)
  obtain⟨ds',e3,rfl⟩:=bB.mp e2;exact⟨v,vs,rfl,Bm5 e1,Az1 e3⟩
theorem Br6 {vs:m7}{ds:w5}(h:vDs vs=some ds):MA K (tK vs) (cK ds):=fun β W c σ Q R s=>s vs W Stp.refl R (Az1 h)
def frzs:List PV->Ev->R (w5)
 | [],c=>.ok [] c
 | p::ps,c=>(frz p c).bind fun d c=>(frzs ps c).bind fun ds c=>.ok (d::ds) c
theorem T7:∀{ps:List PV}{vs:m7}{W:Wo}{c:Ev}{φ:w5->Ev->Prop},Rep K β W c σ->zP K W.Hf σ ps vs->(frzs ps c).sat φ ->
 ∃ds c' W',φ ds c'/\W'.H=W.H/\Stp W.S W.Hf W.H W'.S W'.Hf W'.H/\Rep K β W' c' σ/\TrL W'.Hf ds vs
 | [],vs,W,c,φ,R,h,s=>⟨[],c,W,s,rfl,Stp.refl,R,h⟩
 | p::ps,_,W,c,φ,R,⟨v,r,rfl,h,t⟩,s=>by
  obtain⟨d,c1,W1,_,s1,e1,st1,R1,t1⟩:=Gp R h s.bnd;obtain⟨ds,c2,W2,s2,e2,st2,R2,t2⟩:=T7 R1 (zP.same st1.fz t) s1.bnd;exact⟨d::ds,c2,W2,s2,e2.trans e1,st1.trans st2,R2,v,r,rfl,Tr.same st2.fz t1,t2⟩
def Dq (f:o_):n8:=fun c=>(f c).bind fun ps c=>(frzs ps c).bind fun ds c=>if ds.length<=1000 then .ok (.o (.im (.tuple ds))) c else .bad
def Fy (f:o_):n8:=fun c=>(f c).bind fun ps c=>(frzs ps c).bind fun ds c=>if ds.length<=1000 then .ok (.o (.ls false ds)) c else .bad
theorem Ax5 {n:Nat}(h:n<=1000):n<=sizeLine:=au h (by decide)
theorem Cq {t:TA}{f:o_}(h:MA K t f):ME K (Bd4 t) (Dq f):=by
 intro β W c σ Q R s
 refine h β W c σ _ R (s.bnd.mono fun ps c1 s1 vs W1 st1 R1 r1=>?_)
 obtain⟨ds,c2,W2,s2,e2,st2,R2,t2⟩:=T7 R1 r1 s1.bnd
 by_cases l:ds.length<=1000
 ·rw[if_pos l]at s2
  refine⟨by rw[<- t2.length];exact Ax5 l,fun p hp=>?_⟩
  rw[<- e2]at hp ⊢
  exact New.tup (New.of R2 fun v W' fp st R' rp=>s2 v W' fp (st1.trans (st2.trans st)) R' rp) R2.sub t2 hp
 ·rw[if_neg l]at s2;exact s2.elim
theorem Dw {t:TA}{f:o_}(h:MA K t f):ME K (Bj8 t) (Fy f):=by
 intro β W c σ Q R s
 refine h β W c σ _ R (s.bnd.mono fun ps c1 s1 vs W1 st1 R1 r1=>?_)
 obtain⟨ds,c2,W2,s2,e2,st2,R2,t2⟩:=T7 R1 r1 s1.bnd
 by_cases l:ds.length<=1000
 ·rw[if_pos l]at s2
  refine⟨by rw[<- t2.length];exact Ax5 l,fun p hp=>?_⟩
  rw[<- e2]at hp ⊢
  exact New.lst (New.of R2 fun v W' fp st R' rp=>s2 v W' fp (st1.trans (st2.trans st)) R' rp) R2.sub t2 hp
 ·rw[if_neg l]at s2;exact s2.elim
end
def Hm (cI:Ev):p8->Ev->Option Ev
 | [],c=>some c
 | (k,i)::m,c=>match c[i]? with
  | some (some (.ls b _))=>match cI[k]? with
   | some (some (.ls true ds))=>Hm cI m (c.set i (some (.ls b ds)))
   | _=>none
  | _=>Hm cI m c
def inn (m:p8)(i:Nat):Option Nat:=(m.find? fun p=>p.2==i).map (·.1)
def Ah1 (m:p8)(k:Nat):Option Nat:=(m.find? fun p=>p.1==k).map (·.2)
theorem Jo {m:p8}{k j i:Nat}:inn ((k,j)::m) i=if j=i then some k else inn m i:=by
 unfold inn;rw[eX]
 by_cases h:j=i
 ·have:(j==i)=true:=by simp[h]
  simp[this,h]
 ·have:(j==i)=false:=by simp[h]
  simp[this,h]
theorem Uc {m:p8}{i k:Nat}(h:inn m i=some k):(k,i)∈m:=by
 induction m with
 | nil=>cases h
 | cons p m ih =>
  obtain⟨k',j⟩:=p;rw[Jo]at h
  split at h
  ·rename_i z;cases h;subst z;exact .head _
  ·exact .tail _ (ih h)
theorem Uh {m:p8}{i k:Nat}(nd:(m.map (·.2)).Nodup)(h:(k,i)∈m):inn m i=some k:=by
 induction m with
 | nil=>cases h
 | cons p m ih =>
  obtain⟨k',j⟩:=p;rw[aD,bQ]at nd;rw[Jo]
  rcases az.mp h with e | e
  ·cases e;rw[if_pos rfl]
  ·have:j≠i:=fun z=>nd.1 (by rw[z];exact aC.mpr ⟨(k,i),e,rfl⟩)
   rw[if_neg this];exact ih nd.2 e
theorem Aw0 {m:p8}{i j k:Nat}(nd:(m.map (·.1)).Nodup)(h:(k,i)∈m)(h':(k,j)∈m):i=j:=by
 induction m with
 | nil=>cases h
 | cons p m ih =>
  rw[aD,bQ]at nd
  rcases az.mp h with e | e
  ·rcases az.mp h' with e' | e'
   ·rw[<- e]at e';cases e';rfl
   ·exact absurd (aC.mpr ⟨(k,j),e',by rw[<- e]⟩) nd.1
  ·rcases az.mp h' with e' | e'
   ·exact absurd (aC.mpr ⟨(k,i),e,by rw[<- e']⟩) nd.1
   ·exact ih nd.2 e e'
theorem Ss {cI:Ev}:∀{m:p8}{c cO:Ev},(m.map (·.2)).Nodup->Hm cI m c=some cO->cO.length=c.length/\∀i,
 (∃b ds0 k ds,c[i]?=some (some (.ls b ds0))/\inn m i=some k/\cI[k]?=some (some (.ls true ds))/\cO[i]?=some (some (.ls b ds))) \/
 (cO[i]?=c[i]?/\∀b ds,c[i]?=some (some (.ls b ds))->inn m i=none)
 | [],c,cO,nd,e=>by cases (show some c=some cO from e);exact⟨rfl,fun i=>.inr ⟨rfl,fun _ _ _=>rfl⟩⟩
 | (k,j)::m,c,cO,nd,e=>by
  rw[aD,bQ]at nd
  have nj:inn m j=none:=by
   cases q:inn m j with
   | none=>rfl
   | some k'=>exact absurd (aC.mpr ⟨(k',j),Uc q,rfl⟩) nd.1
  unfold Hm at e
  have other:Hm cI m c=some cO->(∀b ds,c[j]?≠some (some (.ls b ds)))->cO.length=c.length/\∀i,
   (∃b ds0 k' ds,c[i]?=some (some (.ls b ds0))/\inn ((k,j)::m) i=some k'/\cI[k']?=some (some (.ls true ds))/\cO[i]?=some (some (.ls b ds))) \/
   (cO[i]?=c[i]?/\∀b ds,c[i]?=some (some (.ls b ds))->inn ((k,j)::m) i=none):=fun e hn=>by
   obtain⟨hl,hg⟩:=Ss nd.2 e
   refine⟨hl,fun i=>?_⟩
   rcases hg i with ⟨b,ds0,k',ds,q1,q2,q3,q4⟩ | ⟨q1,q2⟩
   ·refine .inl ⟨b,ds0,k',ds,q1,?_,q3,q4⟩
    rw[Jo,if_neg (fun z=>hn b ds0 (by rw[z];exact q1))];exact q2
   ·refine .inr ⟨q1,fun b ds q=>?_⟩
    rw[Jo,if_neg (fun z=>hn b ds (by rw[z];exact q))];exact q2 b ds q
  cases ec:c[j]? with
  | none=>simp only[ec]at e;exact other e fun b ds z=>by rw[ec]at z;cases z
  | some x =>
   cases x with
   | none=>simp only[ec]at e;exact other e fun b ds z=>by rw[ec]at z;cases z
   | some o =>
    cases o with
    | im d=>simp only[ec]at e;exact other e fun b ds z=>by rw[ec]at z;cases z
    | sc d=>simp only[ec]at e;exact other e fun b ds z=>by rw[ec]at z;cases z
    | ty d=>simp only[ec]at e;exact other e fun b ds z=>by rw[ec]at z;cases z
    | ls b0 ds0 =>
     simp only[ec]at e
     cases ei:cI[k]? with
     | none=>simp only[ei]at e;cases e
     | some x =>
      cases x with
      | none=>simp only[ei]at e;cases e
      | some o =>
       cases o with
       | im d=>simp only[ei]at e;cases e
       | sc d=>simp only[ei]at e;cases e
       | ty d=>simp only[ei]at e;cases e
       | ls b1 ds1 =>
        cases b1 with
        | false=>simp only[ei]at e;cases e
        | true =>
         simp only[ei]at e
         have lj:j<c.length:=by
          rcases bc j c.length with q | q
          ·exact q
          ·rw[bU q]at ec;cases ec
         obtain⟨hl,hg⟩:=Ss nd.2 e;rw[bG]at hl
         refine⟨hl,fun i=>?_⟩
         by_cases z:j=i
         ·subst z
          rcases hg j with ⟨b,ds0',k',ds,q1,q2,q3,q4⟩ | ⟨q1,q2⟩
          ·rw[nj]at q2;cases q2
          ·rw[bZ lj]at q1
           exact .inl ⟨b0,ds0,k,ds1,ec,by rw[Jo,if_pos rfl],ei,q1⟩
         ·have gs:(c.set j (some (.ls b0 ds1)))[i]?=c[i]?:=bM z
          rcases hg i with ⟨b,ds0',k',ds,q1,q2,q3,q4⟩ | ⟨q1,q2⟩
          ·rw[gs]at q1
           exact .inl ⟨b,ds0',k',ds,q1,by rw[Jo,if_neg z];exact q2,q3,q4⟩
          ·rw[gs]at q1 q2
           exact .inr ⟨q1,fun b ds q=>by rw[Jo,if_neg z];exact q2 b ds q⟩
def Hx:Option (m6)->Bool
 | some (some (.ls _ _))=>true
 | _=>false
def Tj (m:p8)(c:Ev)(fps:Nat->v5):Nat->v5:=fun k=>match Ah1 m k with
 | some i=>if Hx c[i]? then fps i else []
 | none=>[]
theorem U8 {m:p8}{i k:Nat}(h:Ah1 m k=some i):(k,i)∈m:=by
 unfold Ah1 at h;obtain⟨p,h1,h2⟩:=bB.mp h;have:=List.find?_some h1;have mm:=List.mem_of_find?_eq_some h1
 have e:p.1=k:=by simpa using this
 obtain⟨a,b⟩:=p
 cases h2
 cases (show a=k from e)
 exact mm
theorem Hl {m:p8}{c:Ev}{fps:Nat->v5}{k:Nat}{a:Addr}(h:a∈Tj m c fps k):∃i,(k,i)∈m/\Hx c[i]?=true/\a∈fps i:=by
 unfold Tj at h
 cases e:Ah1 m k with
 | none=>rw[e]at h;cases h
 | some i =>
  rw[e]at h
  have h:a∈if Hx c[i]? then fps i else []:=h
  by_cases q:Hx c[i]?=true
  ·rw[if_pos q]at h;exact⟨i,U8 e,q,h⟩
  ·rw[if_neg q]at h;cases h
theorem Bl0 {m:p8}{i k:Nat}(nd:(m.map (·.1)).Nodup)(h:(k,i)∈m):Ah1 m k=some i:=by
 cases e:Ah1 m k with
 | none =>
  unfold Ah1 at e;rw[Option.map_eq_none_iff,List.find?_eq_none]at e
  exact absurd (by simp:((k,i).1==k)=true) (e (k,i) h)
 | some j=>rw[Aw0 nd h (U8 e)]
def Ap4 (m:p8)(c:Ev)(fps fpsJ:Nat->v5):Nat->v5:=fun i=>if Hx c[i]? then (match inn m i with
 | some k=>fpsJ k
 | none=>fps i) else fps i
section
variable {K:v_}{β β':Nat->V}{W W':Wo}{c cI cI' cO:Ev}{σ σI σI':St}{m:p8}{fp:v5}
structure Lent (K:v_) (Hf:Hp) (m:p8) (c:Ev) (σ:St) (β':Nat->V) (cI:Ev) (σI:St):Prop where
 n1:(m.map (·.1)).Nodup
 n2:(m.map (·.2)).Nodup
 len:cI.length=σI.length
 at_:∀k o,cI[k]?=some (some o)->(o.own=false/\(∀i,(k,i)∈m->Hx c[i]?=false)/\(∃v,σI[k]?=some (some v)/\RepN K Hf o v))\/∃i b ds v,(k,i)∈m/\c[i]?=some (some (.ls b ds))/\o=.ls true ds/\σ[i]?=some (some v)/\σI[k]?=some (some v)/\β' k=v
theorem Lent.rep (L:Lent K W.Hf m c σ β' cI σI)(R:Rep K β W c σ):Rep K β' ⟨W.Hf,W.H,Tj m c W.fps⟩ cI σI:=by
 refine⟨R.sub,L.len,fun k o e=>?_,fun k l a h1 h2=>?_,fun k a h=>?_⟩
 ·rcases L.at_ k o e with ⟨n,hno,v,e1,r⟩ | ⟨i,b,ds,v,hm,ec,rfl,es,e1,eb⟩
  ·refine⟨v,e1,?_,fun q=>?_⟩
   ·have fp0:∀fp:v5,fp=[]->RepO K W.Hf W.H o v fp:=fun fp z=>by
     cases o with
     | ls b ds=>exact nomatch n
     | im d=>exact⟨z,r⟩
     | sc d=>exact⟨z,r⟩
     | ty d=>exact⟨z,r⟩
    refine fp0 _ ?_
    show Tj m c W.fps k=[]
    unfold Tj
    cases q:Ah1 m k with
    | none=>rfl
    | some i =>
     show (if Hx c[i]? then W.fps i else [])=[]
     rw[hno i (U8 q)]
     rfl
   ·cases o with
    | ls b ds=>exact nomatch n
    | im d=>exact nomatch q
    | sc d=>exact nomatch q
    | ty d=>exact nomatch q
  ·obtain⟨v',e2,r,_⟩:=R.get i _ ec
   cases (show some (some v')=some (some v) from e2.symm.trans es)
   refine⟨v,e1,?_,fun _=>eb.symm⟩
   obtain⟨a,vs,q1,q2,q3⟩:=r
   refine⟨a,vs,q1,?_,q3⟩
   show Tj m c W.fps k=[a]
   unfold Tj;rw[Bl0 L.n1 hm]
   show (if Hx c[i]? then W.fps i else [])=[a]
   rw[ec];exact q2
 ·obtain⟨i,m1,_,a1⟩:=Hl h1
  obtain⟨j,m2,_,a2⟩:=Hl h2
  cases (R.dis i j a a1 a2)
  have e1:=Uh L.n2 m1;have e2:=Uh L.n2 m2;rw[e1]at e2;exact bK e2
 ·obtain⟨i,_,_,a1⟩:=Hl h
  exact R.own i a a1
theorem Bi4 {x:Option (m6)}(h:Hx x=true):∃b ds,x=some (some (.ls b ds)):=by
 match x,h with
 | some (some (.ls b ds)),_=>exact⟨b,ds,rfl⟩
theorem Lent.back (L:Lent K W.Hf m c σ β' cI σI)(R:Rep K β W c σ)(R':Rep K β' W' cI' σI')(st:Stp (Wo.S ⟨W.Hf,W.H,Tj m c W.fps⟩) W.Hf W.H (orS W'.S fp) W'.Hf W'.H)(hb:Hm cI' m c=some cO)
 (hval:∀k i b ds v,(k,i)∈m->c[i]?=some (some (.ls b ds))->σ[i]?=some (some v)->β' k=v) (hfp:∀a∈fp,¬ W'.S a) :
 ∃W2:Wo,W2.Hf=W'.Hf/\W2.H=W'.H/\Rep K β W2 cO σ/\Stp W.S W.Hf W.H (orS W2.S fp) W'.Hf W'.H/\∀a∈fp,¬ W2.S a:=by
 obtain⟨hl,hg⟩:=Ss L.n2 hb
 have inner:∀k a,a∈W'.fps k->(∃i,(∃l,(l,i)∈m)/\Hx c[i]?=true/\a∈W.fps i)\/W.H a=none:=fun k a h=>by
  rcases st.fr a (.inl ⟨k,h⟩) with ⟨l,q⟩ | q
  ·obtain⟨i,q1,q2,q3⟩:=Hl q
   exact .inl ⟨i,⟨l,q1⟩,q2,q3⟩
  ·exact .inr q
 have apart:∀i a,a∈W.fps i->(Hx c[i]?=true->inn m i=none)->¬ Wo.S ⟨W.Hf,W.H,Tj m c W.fps⟩ a:=fun i a h n ⟨k,q⟩=>by
  obtain⟨j,q1,q2,q3⟩:=Hl q
  cases (R.dis i j a h q3)
  have:=n q2;rw[Uh L.n2 q1]at this;cases this
 have fO:∀i a,a∈Ap4 m c W.fps W'.fps i->(∃k,inn m i=some k/\Hx c[i]?=true/\a∈W'.fps k)\/(a∈W.fps i/\(Hx c[i]?=true->inn m i=none)):=fun i a h=>by
  have h:a∈if Hx c[i]? then (match inn m i with | some k=>W'.fps k | none=>W.fps i) else W.fps i:=h
  by_cases q:Hx c[i]?=true
  ·rw[if_pos q]at h
   cases e:inn m i with
   | none=>rw[e]at h;exact .inr ⟨h,fun _=>rfl⟩
   | some k=>rw[e]at h;exact .inl ⟨k,rfl,q,h⟩
  ·rw[if_neg q]at h;exact .inr ⟨h,fun z=>absurd z q⟩
 have cross:∀i k a,a∈W.fps i->(Hx c[i]?=true->inn m i=none)->a∈W'.fps k->False:=fun i k a h n h'=>by
  rcases inner k a h' with ⟨j,⟨l,q1⟩,q2,q3⟩ | q
  ·cases (R.dis i j a h q3)
   have:=n q2;rw[Uh L.n2 q1]at this;cases this
  ·obtain⟨_,o,e,_⟩:=R.own i a h
   rw[q]at e;cases e
 refine⟨⟨W'.Hf,W'.H,Ap4 m c W.fps W'.fps⟩,rfl,rfl,⟨R'.sub,hl.trans R.len,fun i o e=>?_,fun i j a h1 h2=>?_,fun i a h=>?_⟩,⟨st.fz,fun a o e n=>st.kp a o e fun⟨k,q⟩=>?_,fun a o e mu n q=>st.nf a o e mu (fun zz=>?_) q,fun a h=>?_⟩,fun a ha ⟨i,h⟩=>?_⟩
 ·rcases hg i with ⟨b,ds0,k,ds,q1,q2,q3,q4⟩ | ⟨q1,q2⟩
  ·rw[q4]at e;cases e
   obtain⟨v,e1,r,bb⟩:=R.get i _ q1;obtain⟨v',e1',r',bb'⟩:=R'.get k _ q3;have hv:=bb' rfl;rw[hval k i b ds0 v (Uc q2) q1 e1]at hv;subst hv
   refine⟨v',e1,?_,bb⟩
   obtain⟨a,vs,z1,z2,z3⟩:=r'
   refine⟨a,vs,z1,?_,z3⟩
   show Ap4 m c W.fps W'.fps i=[a]
   unfold Ap4;rw[q1,q2];exact z2
  ·rw[q1]at e
   obtain⟨v,e1,r,bb⟩:=R.get i _ e
   refine⟨v,e1,?_,bb⟩
   have n:Hx c[i]?=true->inn m i=none:=fun z=>by
    obtain⟨b,ds,z⟩:=Bi4 z;exact q2 b ds z
   have ef:Ap4 m c W.fps W'.fps i=W.fps i:=by
    unfold Ap4
    by_cases q:Hx c[i]?=true
    ·rw[if_pos q,n q]
    ·rw[if_neg q]
   show RepO K W'.Hf W'.H o v (Ap4 m c W.fps W'.fps i)
   rw[ef]
   refine r.mono st.fz fun a ha=>?_
   obtain⟨z,u,eu,mu⟩:=R.own i a ha;exact⟨st.nf a u eu mu (apart i a ha n) z,(st.kp a u eu (apart i a ha n)).trans eu.symm⟩
 ·rcases fO i a h1 with ⟨k,y1,y2,y3⟩ | ⟨y1,y2⟩
  ·rcases fO j a h2 with ⟨l,z1,z2,z3⟩ | ⟨z1,z2⟩
   ·cases (R'.dis k l a y3 z3)
    exact Aw0 L.n1 (Uc y1) (Uc z1)
   ·exact(cross j k a z1 z2 y3).elim
  ·rcases fO j a h2 with ⟨l,z1,z2,z3⟩ | ⟨z1,z2⟩
   ·exact(cross i l a y1 y2 z3).elim
   ·exact R.dis i j a y1 z1
 ·rcases fO i a h with ⟨k,y1,y2,y3⟩ | ⟨y1,y2⟩
  ·exact R'.own k a y3
  ·obtain⟨z,u,eu,mu⟩:=R.own i a y1
   exact⟨st.nf a u eu mu (apart i a y1 y2) z,u,st.kp a u eu (apart i a y1 y2),mu⟩
 ·obtain⟨i,_,_,q3⟩:=Hl q
  exact n ⟨i,q3⟩
 ·obtain⟨k,q'⟩:=zz
  obtain⟨i,_,_,q3⟩:=Hl q';exact n ⟨i,q3⟩
 ·rcases h with ⟨i,h⟩ | h
  ·rcases fO i a h with ⟨k,y1,y2,y3⟩ | ⟨y1,y2⟩
   ·rcases inner k a y3 with ⟨j,_,_,q⟩ | q
    ·exact .inl ⟨j,q⟩
    ·exact .inr q
   ·exact .inl ⟨i,y1⟩
  ·rcases st.fr a (.inr h) with ⟨k,q⟩ | q
   ·obtain⟨i,_,_,q3⟩:=Hl q
    exact .inl ⟨i,q3⟩
   ·exact .inr q
 ·rcases fO i a h with ⟨k,y1,y2,y3⟩ | ⟨y1,y2⟩
  ·exact hfp a ha ⟨k,y3⟩
  ·rcases st.fr a (.inr ha) with q | q
   ·exact apart i a y1 y2 q
   ·obtain⟨_,u,eu,_⟩:=R.own i a y1
    rw[q]at eu;cases eu
end
inductive SR where
 | nx (c:Ev)
 | rt (p:PV) (c:Ev)
 | bk (c:Ev)
 | ct (c:Ev)
 | bad
def zV (K:v_)(β:Nat->V)(W:Wo)(D:Ends):SR->Prop
 | .nx c'=>∀σ' W',Stp W.S W.Hf W.H W'.S W'.Hf W'.H->Rep K β W' c' σ'->D.nx σ' W'.H
 | .bk c'=>∀σ' W',Stp W.S W.Hf W.H W'.S W'.Hf W'.H->Rep K β W' c' σ'->D.bk σ' W'.H
 | .ct c'=>∀σ' W',Stp W.S W.Hf W.H W'.S W'.Hf W'.H->Rep K β W' c' σ'->D.ct σ' W'.H
 | .rt p c'=>∀σ' v W' fp,Stp W.S W.Hf W.H (orS W'.S fp) W'.Hf W'.H->Rep K β W' c' σ'->Gn K W' σ' p v fp->D.rt v W'.H
 | .bad=>False
def MS (K:v_)(T:TS)(f:Ev->SR):Prop:=∀(β:Nat->V) (W:Wo) (c:Ev) (σ:St) (D:Ends),Rep K β W c σ->zV K β W D (f c)->T D σ W.H
def MG (K:v_)(g:TG)(cg:o8):Prop:=∀(β:Nat->V) (W:Wo) (c:Ev) (σ:St) (p:PV) (v:V) (fp:v5) (k:St->Hp->Prop),Rep K β W c σ->Gn K W σ p v fp ->
 (cg p c).sat (fun _ c'=>∀σ' W',Stp (orS W.S fp) W.Hf W.H W'.S W'.Hf W'.H->Rep K β W' c' σ'->k σ' W'.H)->g v σ W.H k
def MGs (K:v_)(g:TGs)(cg:w5->Ev->R Unit):Prop:=∀(β:Nat->V) (W:Wo) (c:Ev) (σ:St) (ds:w5) (vs:m7) (k:St->Hp->Prop),Rep K β W c σ->TrL W.Hf ds vs ->
 (cg ds c).sat (fun _ c'=>∀σ' W',Stp W.S W.Hf W.H W'.S W'.Hf W'.H->Rep K β W' c' σ'->k σ' W'.H)->g vs σ W.H k
def R.toS {α:Type}(r:R α)(k:α->Ev->SR):SR:=match r with
 | .ok a c=>k a c
 | .bad=>.bad
section
variable {K:v_}{β β':Nat->V}{W W':Wo}{c c' cI cI' cO:Ev}{σ σ' σI σI':St}{D:Ends}{Hf H:Hp}{o:O}{v:V}{fp:v5}
theorem La {α:Type}{r:R α}{k:α->Ev->SR}(h:zV K β W D (r.toS k)):r.sat fun a c=>zV K β W D (k a c):=by
 cases r with
 | ok a c=>exact h
 | bad=>exact h
theorem zV.step {r:SR}(h:zV K β W D r)(st:Stp W.S W.Hf W.H W'.S W'.Hf W'.H):zV K β W' D r:=by
 cases r with
 | nx c=>exact fun σ' W2 st2 R=>h σ' W2 (st.trans st2) R
 | bk c=>exact fun σ' W2 st2 R=>h σ' W2 (st.trans st2) R
 | ct c=>exact fun σ' W2 st2 R=>h σ' W2 (st.trans st2) R
 | rt p c=>exact fun σ' v W2 fp st2 R r=>h σ' v W2 fp (st.trans st2) R r
 | bad=>exact h
def Bm (f g:Ev->SR):Ev->SR:=fun c=>match f c with
 | .nx c=>g c
 | r=>r
theorem Ar {t u:TS}{f g:Ev->SR}(h1:MS K t f)(h2:MS K u g):MS K (A7v t u) (Bm f g):=by
 intro β W c σ D R l
 refine h1 β W c σ _ R ?_
 unfold Bm at l
 cases e:f c with
 | nx c1=>rw[e]at l;exact fun σ' W1 st R1=>h2 β W1 c1 σ' D R1 (zV.step l st)
 | rt p c1=>rw[e]at l;exact l
 | bk c1=>rw[e]at l;exact l
 | ct c1=>rw[e]at l;exact l
 | bad=>rw[e]at l;exact l
def Dd:Ev->SR:=fun c=>.nx c
theorem Cd:MS K A9w Dd:=fun β W c σ D R l=>l σ W Stp.refl R
def Nf:Ev->SR:=fun _=>.bad
theorem Ku:MS K Aq0 Nf:=fun β W c σ D R l=>l.elim
def Jm (f:n8):Ev->SR:=fun c=>(f c).toS fun _ c=>.nx c
theorem Mi {te:TE}{f:n8}(h:ME K te f):MS K (A0g te) (Jm f):=fun β W c σ D R l =>
 h.toV β W c σ _ R ((La l).mono fun p c1 l1 v W1 st R1 _=>l1 σ W1 st R1)
def Dc (f:n8):Ev->SR:=fun c=>(f c).toS fun p c=>.rt p c
theorem Bf {te:TE}{f:n8}(h:ME K te f):MS K (Bp9 te) (Dc f):=fun β W c σ D R l =>
 h β W c σ _ R ((La l).mono fun p c1 l1 v W1 fp st R1 r1=>l1 σ v W1 fp st R1 r1)
def cIf (t:n6)(f g:Ev->SR):Ev->SR:=fun c=>(t c).toS fun b c=>if b=true then f c else g c
theorem Ez {tc:TT}{t u:TS}{ft:n6}{f g:Ev->SR}(h:MT K tc ft)(h1:MS K t f)(h2:MS K u g):MS K (Bx9 tc t u) (cIf ft f g):=fun β W c σ D R l =>
 h
  β W c σ _ R ((La l).mono fun b c1 l1 W1 st R1=>by
  cases b with
  | true=>exact h1 β W1 c1 σ D R1 (zV.step l1 st)
  | false=>exact h2 β W1 c1 σ D R1 (zV.step l1 st))
def cgN (i:Nat):o8:=fun p c=>match p with
 | .o (.ls _ ds)=>.ok () (c.set i (some (.ls false ds)))
 | .o o=>.ok () (c.set i (some o))
 | .sl j=>(frz (.sl j) c).bind fun d c=>.ok () (c.set i (some (.im d)))
theorem Bs5 {i:Nat}{a:Addr}(h:Wo.S ⟨Hf,H,clr W.fps i⟩ a):W.S a:=by
 obtain⟨j,h⟩:=h;exact⟨j,(Fj h).1⟩
theorem Ai {i:Nat}:MG K (Mp i) (cgN i):=by
 intro β W c σ p v fp k R r s
 have nonown:∀{o:O} {W1:Wo} {c1:Ev},Rep K β W1 c1 σ->o.own=false->RepN K W1.Hf o v->Stp (orS W.S fp) W.Hf W.H W1.S W1.Hf W1.H->W1.H=W.H->(∀σ' W',Stp (orS W.S fp) W.Hf W.H W'.S W'.Hf W'.H->Rep K β W' (c1.set i (some o)) σ'->k σ' W'.H)->k (σ.set i (some v)) W.H:=fun {o W1 c1} R1 n r st e s=>by
  rw[<- e]
  exact s (σ.set i (some v)) ⟨W1.Hf,W1.H,clr W1.fps i⟩ (st.less fun a z=>Bs5 z) (R1.setN r n)
 cases p with
 | sl j =>
  obtain⟨rfl,e⟩:=r
  obtain⟨d,c1,W1,e1,s1,eH,st,R1,t⟩:=Gp R (show RepA K W.Hf σ (.sl j) v from e) s.bnd
  exact nonown R1 (o:=.im d) rfl t (st.up fun a z=>.inl z) eH s1
 | o o =>
  cases o with
  | im d=>exact nonown R rfl r.1.2 (Stp.refl.up fun a z=>.inl z) rfl s
  | sc d=>exact nonown R rfl r.1.2 (Stp.refl.up fun a z=>.inl z) rfl s
  | ty d=>exact nonown R rfl r.1.2 (Stp.refl.up fun a z=>.inl z) rfl s
  | ls b ds =>
   refine s (σ.set i (some v)) ⟨W.Hf,W.H,fun j=>if j=i then fp else W.fps j⟩ ⟨Same.refl _,fun a o e _=>e,fun a o e _ _ q=>q,fun a z=>?_⟩ (R.setO (o:=.ls false ds) r.1 r.2 rfl)
   obtain⟨j,z⟩:=z
   have z:a∈if j=i then fp else W.fps j:=z
   split at z
   ·exact .inl (.inr z)
   ·exact .inl (.inl ⟨j,z⟩)
def Gm:w5->Ev->R Unit:=fun ds c=>match ds with
 | []=>.ok () c
 | _=>.bad
def Bo (g:o8)(gs:w5->Ev->R Unit):w5->Ev->R Unit:=fun ds c=>match ds with
 | d::ds=>(g (.o (.im d)) c).bind fun _ c=>gs ds c
 | []=>.bad
theorem J6:MGs K A3v Gm:=fun β W c σ ds vs k R t s=>by
 cases ds with
 | nil=>cases (show vs=[] from t);exact⟨rfl,s σ W Stp.refl R⟩
 | cons d r=>exact s.elim
theorem Dg {t:TG}{u:TGs}{g:o8}{gs:w5->Ev->R Unit}(h1:MG K t g)(h2:MGs K u gs):MGs K (Wg t u) (Bo g gs):=fun β W c σ ds vs k R tr s=>by
 cases ds with
 | nil=>exact s.elim
 | cons d r =>
  obtain⟨v,vr,rfl,t1,t2⟩:=tr
  refine⟨v,vr,rfl,h1 β W c σ (.o (.im d)) v [] _ R ⟨⟨rfl,t1⟩,fun a z=>nomatch z⟩ (s.bnd.mono fun _ c1 s1 σ1 W1 st1 R1=>?_)⟩
  have st1:=st1.up (S2:=W.S) fun a z=>by
   rcases z with z | z
   ·exact z
   ·cases z
  exact h2 β W1 c1 σ1 r vr k R1 (TrL.same st1.fz t2) (s1.mono fun _ c2 s2 σ2 W2 st2 R2=>s2 σ2 W2 (st1.trans st2) R2)
def cgT (n:Nat)(gs:w5->Ev->R Unit):o8:=fun p c=>match p with
 | .o (.im (.tuple ds))=>if ds.length=n then gs ds c else .bad
 | _=>.bad
theorem Mx {n:Nat}{t:TGs}{gs:w5->Ev->R Unit}(h:MGs K t gs):MG K (Ba3 K n t) (cgT n gs):=by
 intro β W c σ p v fp k R r s
 match p,r,s with
 | .o (.im (.tuple ds)),r,s =>
  obtain⟨⟨rfl,a,vs,rfl,ha,t1⟩,_⟩:=r
  have s:(if ds.length=n then gs ds c else .bad:U.R Unit).sat _:=s
  by_cases e:ds.length=n
  ·rw[if_pos e]at s
   refine⟨a,vs,rfl,SqT.of (R.sub _ _ ha),by rw[<- t1.length];exact e,h β W c σ ds vs k R t1 (s.mono fun _ c1 s1 σ1 W1 st R1=>s1 σ1 W1 (st.up fun a z=>.inl z) R1)⟩
  ·rw[if_neg e]at s;exact s.elim
 | .o (.im .none),r,s=>exact s.elim
 | .o (.im (.bool _)),r,s=>exact s.elim
 | .o (.im (.int _)),r,s=>exact s.elim
 | .o (.im (.str _)),r,s=>exact s.elim
 | .o (.im (.list _)),r,s=>exact s.elim
 | .o (.im (.dict _)),r,s=>exact s.elim
 | .o (.ls _ _),r,s=>exact s.elim
 | .o (.sc _),r,s=>exact s.elim
 | .o (.ty _),r,s=>exact s.elim
 | .sl _,r,s=>exact s.elim
def Cp (f:n8)(g:o8):Ev->SR:=fun c=>(f c).toS fun p c=>(g p c).toS fun _ c=>.nx c
theorem Bj {te:TE}{t:TG}{f:n8}{g:o8}(h:ME K te f)(hg:MG K t g):MS K (Yz te t) (Cp f g):=fun β W c σ D R l =>
 h β W c σ _ R ((La l).mono fun p c1 l1 v W1 fp st R1 r1=>hg β W1 c1 σ p v fp _ R1 r1 ((La l1).mono fun _ c2 l2 σ2 W2 st2 R2=>l2 σ2 W2 (st.trans st2) R2))
def A1e (J:It)(Hf:Hp)(ds:w5):Prop:=∀(i:Nat) (Hf' H:Hp),Same Hf Hf'->Same Hf' H->(i=ds.length->J.stop i H) /\
 ∀d,ds[i]?=some d->J.go i H/\∀x H',J.yld i H x H'->∃Hf2,Stp (fun _=>False) Hf' H (fun _=>False) Hf2 H'/\Same Hf2 H'/\Tr Hf2 d x
def MI (K:v_)(wi:TI)(fi:Ev->R (w5)):Prop:=∀(β:Nat->V) (W:Wo) (c:Ev) (σ:St) (k:It->Hp->Prop),Rep K β W c σ ->
 (fi c).sat (fun ds c'=>∀J W',Stp W.S W.Hf W.H W'.S W'.Hf W'.H->Rep K β W' c' σ->A1e J W'.Hf ds->k J W'.H)->wi σ W.H k
def forL (g:o8)(body:Ev->SR):w5->Ev->SR
 | [],c=>.nx c
 | d::ds,c=>match g (.o (.im d)) c with
  | .bad=>.bad
  | .ok _ c=>match body c with
   | .nx c=>forL g body ds c
   | .ct c=>forL g body ds c
   | .bk c=>.nx c
   | .rt p c=>.rt p c
   | .bad=>.bad
def Vz (fi:Ev->R (w5))(g:o8)(body:Ev->SR):Ev->SR:=fun c=>(fi c).toS fun ds c=>forL g body ds c
theorem Ru {α:Type}{l:List α}{i:Nat}(h:i<l.length):l.drop i=l[i]::l.drop (i+1):=List.drop_eq_getElem_cons h
theorem Ox {wi:TI}{t:TG}{tb:TS}{fi:Ev->R (w5)}{g:o8}{body:Ev->SR}(hi:MI K wi fi)(hg:MG K t g)(hb:MS K tb body):MS K (Bl5 wi t tb) (Vz fi g body):=by
 intro β W c σ D R l
 refine hi β W c σ _ R ((La l).mono fun ds c1 l1 J W1 st1 R1 it=>?_)
 refine⟨fun i m σ H=>∃W2 c2,W2.H=H/\Rep K β W2 c2 σ/\m=ds.length-i/\i<=ds.length/\Same W1.Hf W2.Hf/\zV K β W2 D (forL g body (ds.drop i) c2),⟨_,W1,c1,rfl,R1,rfl,aW _,Same.refl _,zV.step l1 st1⟩,?_⟩
 rintro i m σ H ⟨W2,c2,rfl,R2,rfl,hle,sm,l2⟩
 obtain⟨hstop,hgo⟩:=it i W2.Hf W2.H sm R2.sub
 by_cases lt:i<ds.length
 ·obtain⟨q1,q2⟩:=hgo ds[i] (bj lt)
  refine .inr ⟨q1,fun σ' H'=>∃W2 c2,W2.H=H'/\Rep K β W2 c2 σ'/\Same W1.Hf W2.Hf/\zV K β W2 D (forL g body (ds.drop (i+1)) c2),fun σ' H' ⟨W3,c3,e3,R3,s3,l3⟩=>⟨ds.length-(i+1),by omega,W3,c3,e3,R3,rfl,by omega,s3,l3⟩,fun x H' hy=>?_⟩
  obtain⟨Hf2,st2,sub2,tx⟩:=q2 x H' hy;have R3:=st2.rep R2 sub2
  have stx:Stp W2.S W2.Hf W2.H (Wo.S ⟨Hf2,H',W2.fps⟩) Hf2 H':=⟨st2.fz,fun a o e _=>st2.kp a o e fun z=>z,fun a o e mu _ q=>st2.nf a o e mu (fun z=>z) q,fun a z=>.inl z⟩
  rw[Ru lt]at l2;unfold forL at l2
  refine hg β ⟨Hf2,H',W2.fps⟩ c2 σ (.o (.im ds[i])) x [] _ R3 ⟨⟨rfl,tx⟩,fun a z=>nomatch z⟩ ?_
  cases eg:g (.o (.im ds[i])) c2 with
  | bad=>rw[eg]at l2;exact l2.elim
  | ok u c3 =>
   rw[eg]at l2;intro σ3 W3 st3 R3'
   have st3:=st3.up (S2:=W2.S) fun a z=>by
    rcases z with z | z
    ·exact z
    ·cases z
   have st23:=stx.trans st3;have sm3:Same W1.Hf W3.Hf:=sm.trans st23.fz
   refine hb β W3 c3 σ3 _ R3' ?_
   cases ebd:body c3 with
   | nx c4=>simp only[ebd]at l2;exact fun σ4 W4 st4 R4=>⟨W4,c4,rfl,R4,sm3.trans st4.fz,zV.step l2 (st23.trans st4)⟩
   | ct c4=>simp only[ebd]at l2;exact fun σ4 W4 st4 R4=>⟨W4,c4,rfl,R4,sm3.trans st4.fz,zV.step l2 (st23.trans st4)⟩
   | bk c4=>simp only[ebd]at l2;exact fun σ4 W4 st4 R4=>l2 σ4 W4 (st23.trans st4) R4
   | rt p c4=>simp only[ebd]at l2;exact fun σ4 v W4 fp st4 R4 r4=>l2 σ4 v W4 fp (st23.trans st4) R4 r4
   | bad=>simp only[ebd]at l2;exact l2.elim
 ·have e:i=ds.length:=by omega
  subst e;rw[j6]at l2;exact .inl ⟨hstop rfl,l2 σ W2 Stp.refl R2⟩
def Ed (g:o8)(ft:n6)(fe:n8):w5->w5->Ev->R (w5)
 | [],acc,c=>.ok acc c
 | d::ds,acc,c=>(g (.o (.im d)) c).bind fun _ c=>(ft c).bind fun b c=>if b=true then (fe c).bind fun p c=>(frz (nrm p) c).bind fun y c=>Ed g ft fe ds (acc++[y]) c else Ed g ft fe ds acc c
def cIn (idx:p_)(c:Ev):Ev:=idx.map fun o=>o.bind fun i=>((c[i]?).join).map (O.flag true)
def pairsOf:Nat->p_->p8
 | _,[]=>[]
 | k,none::r=>pairsOf (k+1) r
 | k,some i::r=>(k,i)::pairsOf (k+1) r
def cLC (idx:p_)(fi:Ev->R (w5))(g:o8)(ft:n6)(fe:n8):n8:=fun c=>(fi c).bind fun ds c =>
 if ds.length<=16000000 then match Ed g ft fe ds [] (cIn idx c) with
 | .bad=>.bad
 | .ok acc cI=>match Hm cI (pairsOf 0 idx) c with
  | none=>.bad
  | some c=>.ok (.o (.ls false acc)) c
 else .bad
theorem A9y {k l:Nat}(h:l+1<=k):k-(l+1)+1=k-l:=by omega
theorem Gg {k i:Nat}:∀{l:Nat}{idx:p_},(k,i)∈pairsOf l idx->l<=k/\idx[k-l]?=some (some i)
 | l,[],h=>by cases h
 | l,none::r,h=>by
  obtain⟨q1,q2⟩:=Gg (l:=l+1) (idx:=r) h
  refine⟨fc q1,?_⟩
  rw[show k-l=(k-(l+1))+1 from (A9y q1).symm,fJ];exact q2
 | l,some j::r,h=>by
  rcases az.mp (show (k,i)∈(l,j)::pairsOf (l+1) r from h) with e | e
  ·cases e;exact⟨aq _,by rw[cR];rfl⟩
  ·obtain⟨q1,q2⟩:=Gg (l:=l+1) (idx:=r) e
   refine⟨fc q1,?_⟩
   rw[show k-l=(k-(l+1))+1 from (A9y q1).symm,fJ];exact q2
theorem Oa {k i:Nat}:∀{l:Nat}{idx:p_},idx[k]?=some (some i)->(k+l,i)∈pairsOf l idx
 | l,[],h=>by simp at h
 | l,none::r,h=>by
  cases k with
  | zero=>simp at h
  | succ k =>
   rw[fJ]at h;have:=Oa (l:=l+1) (idx:=r) h
   rw[show k+1+l=k+(l+1) by omega];exact this
 | l,some j::r,h=>by
  cases k with
  | zero=>simp at h;subst h;rw[bf];exact .head _
  | succ k =>
   rw[fJ]at h;have:=Oa (l:=l+1) (idx:=r) h
   rw[show k+1+l=k+(l+1) by omega];exact .tail _ this
theorem Q3:∀{l:Nat}{idx:p_},((pairsOf l idx).map (·.1)).Nodup
 | l,[]=>eY
 | l,none::r=>Q3 (l:=l+1) (idx:=r)
 | l,some j::r=>by
  show (l::(pairsOf (l+1) r).map (·.1)).Nodup
  rw[bQ]
  refine⟨fun h=>?_,Q3⟩
  obtain⟨⟨k,i⟩,h1,h2⟩:=aC.mp h;have:=(Gg h1).1;have h2:k=l:=h2;omega
theorem A7k {x:Option (m6)}{o:O}(h:x.join=some o):x=some (some o):=by
 cases x with
 | none=>cases h
 | some y=>
  cases y with
   | none=>cases h
   | some z=>cases h;rfl
theorem Bb3 {idx:p_}{c:Ev}{k:Nat}{o:O}(h:(cIn idx c)[k]?=some (some o)):∃i o',idx[k]?=some (some i)/\c[i]?=some (some o')/\o=o'.flag true:=by
 unfold cIn at h;rw[bz]at h;obtain⟨x,h1,h2⟩:=bB.mp h
 cases x with
 | none=>cases h2
 | some i =>
  have h2:((c[i]?).join).map (O.flag true)=some o:=h2;obtain⟨o',h3,h4⟩:=bB.mp h2;exact⟨i,o',h1,A7k h3,h4.symm⟩
theorem Au7 {idx:p_}{σ:St}{k i:Nat}{v:V}(h1:idx[k]?=some (some i))(h2:σ[i]?=some (some v)):(cst idx σ)[k]?=some (some v):=by
 unfold cst;rw[bz,h1]
 show some ((σ[i]?).join)=_
 rw[h2];rfl
theorem Bi6 {idx:p_}(R:Rep K β W c σ)(hnd:((pairsOf 0 idx).map (·.2)).Nodup):Lent K W.Hf (pairsOf 0 idx) c σ (fun k=>(((cst idx σ)[k]?).join).getD .non) (cIn idx c) (cst idx σ) where
 n1:=Q3
 n2:=hnd
 len:=by unfold cIn cst;rw[ak,ak]
 at_:=fun k o h=>by
  obtain⟨i,o',h1,h2,rfl⟩:=Bb3 h;obtain⟨v,e,r,_⟩:=R.get i o' h2;have hs:=Au7 h1 e
  have one:∀j,(k,j)∈pairsOf 0 idx->j=i:=fun j hj=>by
   have:=(Gg hj).2;rw[dU,h1]at this;cases this;rfl
  have nol:Hx c[i]?=false->∀j,(k,j)∈pairsOf 0 idx->Hx c[j]?=false:=fun q j hj=>by rw[one j hj];exact q
  cases o' with
  | im d=>exact .inl ⟨rfl,nol (by rw[h2];rfl),v,hs,r.2⟩
  | sc d=>exact .inl ⟨rfl,nol (by rw[h2];rfl),v,hs,r.2⟩
  | ty d=>exact .inl ⟨rfl,nol (by rw[h2];rfl),v,hs,r.2⟩
  | ls b ds=>exact .inr ⟨i,b,ds,v,Oa (l:=0) h1,h2,rfl,e,hs,by rw[hs];rfl⟩
theorem Bc2 {idx:p_}{t:TG}{tc:TT}{te:TE}{g:o8}{ft:n6}{fe:n8}{W1:Wo}{c1:Ev}{ds:w5}{J:It}{Q:VK}(hnd:((pairsOf 0 idx).map (·.2)).Nodup)(hg:MG K t g)(ht:MT K tc ft)(he:ME K te fe)
 (st1:Stp W.S W.Hf W.H W1.S W1.Hf W1.H) (R1:Rep K β W1 c1 σ)
 (it:∀(i:Nat) (W2:Wo),Stp (Wo.S ⟨W1.Hf,W1.H,Tj (pairsOf 0 idx) c1 W1.fps⟩) W1.Hf W1.H W2.S W2.Hf W2.H->Same W2.Hf W2.H->(i=ds.length->J.stop i W2.H) /\
  ∀d,ds[i]?=some d->J.go i W2.H/\∀x H',J.yld i W2.H x H'->∃Hf2,Stp (fun _=>False) W2.Hf W2.H (fun _=>False) Hf2 H'/\Same Hf2 H'/\Tr Hf2 d x)
 (s1:(if ds.length<=16000000 then match Ed g ft fe ds [] (cIn idx c1) with
  | .bad=>.bad
  | .ok acc cI=>match Hm cI (pairsOf 0 idx) c1 with
   | none=>.bad
   | some c=>.ok (.o (.ls false acc)) c
  else .bad:R PV).sat fun p c'=>∀v W' fp,Stp W.S W.Hf W.H (orS W'.S fp) W'.Hf W'.H->Rep K β W' c' σ->Gn K W' σ p v fp->Q v W'.H):tLC idx (fun _ H k=>k J H) t tc te σ W1.H Q:=by
 unfold tLC
 dsimp only
 by_cases hl:ds.length<=16000000
 ·rw[if_pos hl]at s1
  have L:=Bi6 (idx:=idx) R1 hnd
  let βI:Nat->V:=fun k=>(((cst idx σ)[k]?).join).getD .non
  have RI:=L.rep R1
  let WI:Wo:=⟨W1.Hf,W1.H,Tj (pairsOf 0 idx) c1 W1.fps⟩
  let fin:U.R (w5)->Prop:=fun r=>match r with
   | .bad=>False
   | .ok acc cI=>match Hm cI (pairsOf 0 idx) c1 with
    | none=>False
    | some c=>∀v W' fp,Stp W.S W.Hf W.H (orS W'.S fp) W'.Hf W'.H->Rep K β W' c σ->Gn K W' σ (.o (.ls false acc)) v fp->Q v W'.H
  have s2:fin (Ed g ft fe ds [] (cIn idx c1)):=by
   show match Ed g ft fe ds [] (cIn idx c1) with
    | .bad=>False
    | .ok acc cI=>match Hm cI (pairsOf 0 idx) c1 with
     | none=>False
     | some c=>∀v W' fp,Stp W.S W.Hf W.H (orS W'.S fp) W'.Hf W'.H->Rep K β W' c σ->Gn K W' σ (.o (.ls false acc)) v fp->Q v W'.H
   cases e1:Ed g ft fe ds [] (cIn idx c1) with
   | bad=>rw[e1]at s1;exact s1.elim
   | ok acc cI =>
    simp only[e1]at s1
    show match Hm cI (pairsOf 0 idx) c1 with
     | none=>False
     | some c=>∀v W' fp,Stp W.S W.Hf W.H (orS W'.S fp) W'.Hf W'.H->Rep K β W' c σ->Gn K W' σ (.o (.ls false acc)) v fp->Q v W'.H
    cases e2:Hm cI (pairsOf 0 idx) c1 with
    | none=>simp only[e2]at s1;exact s1.elim
    | some c2=>simp only[e2]at s1;exact s1
  refine⟨fun i m σ' vs H=>∃W2 c2 acc,W2.H=H/\Rep K βI W2 c2 σ'/\m=ds.length-i/\i<=ds.length/\vs.length<=i/\Stp WI.S WI.Hf WI.H W2.S W2.Hf W2.H/\TrL W2.Hf acc vs/\fin (Ed g ft fe (ds.drop i) acc c2),
   ⟨_,WI,cIn idx c1,[],rfl,RI,rfl,aW _,aq _,Stp.refl,rfl,s2⟩,?_⟩
  rintro i m σ' vs H ⟨W2,c2,acc,rfl,R2,rfl,hle,hvs,st2,ta,f2⟩
  obtain⟨hstop,hgo⟩:=it i W2 st2 R2.sub
  by_cases lt:i<ds.length
  ·obtain⟨q1,q2⟩:=hgo ds[i] (bj lt)
   refine .inr ⟨q1,aP (bW hvs (aP lt hl)) (by decide),fun σ' vs H'=>∃W2 c2 acc,W2.H=H'/\Rep K βI W2 c2 σ'/\vs.length<=i+1/\Stp WI.S WI.Hf WI.H W2.S W2.Hf W2.H/\TrL W2.Hf acc vs/\fin (Ed g ft fe (ds.drop (i+1)) acc c2),
    fun σ' acc' H' ⟨W3,c3,acc3,e3,R3,h3,st3,t3,f3⟩=>⟨ds.length-(i+1),by omega,W3,c3,acc3,e3,R3,rfl,by omega,h3,st3,t3,f3⟩,fun x H' hy=>?_⟩
   obtain⟨Hf2,st3,sub3,tx⟩:=q2 x H' hy;have R3:=st3.rep R2 sub3
   have stx:Stp W2.S W2.Hf W2.H (Wo.S ⟨Hf2,H',W2.fps⟩) Hf2 H':=⟨st3.fz,fun a o e _=>st3.kp a o e fun z=>z,fun a o e mu _ q=>st3.nf a o e mu (fun z=>z) q,fun a z=>.inl z⟩
   rw[Ru lt]at f2;unfold Ed at f2
   refine hg βI ⟨Hf2,H',W2.fps⟩ c2 σ' (.o (.im ds[i])) x [] _ R3 ⟨⟨rfl,tx⟩,fun a z=>nomatch z⟩ ?_
   cases eg:g (.o (.im ds[i])) c2 with
   | bad=>rw[eg]at f2;exact f2.elim
   | ok u c3 =>
    rw[eg]at f2
    have f2:fin ((ft c3).bind fun b c=>if b=true then (fe c).bind fun p c=>(frz (nrm p) c).bind fun y c=>Ed g ft fe (ds.drop (i+1)) (acc++[y]) c else Ed g ft fe (ds.drop (i+1)) acc c):=f2
    intro σ3 W3 st4 R4
    have st4:=st4.up (S2:=W2.S) fun a z=>by
     rcases z with z | z
     ·exact z
     ·cases z
    refine ht βI W3 c3 σ3 _ R4 ?_
    cases et:ft c3 with
    | bad=>rw[et]at f2;exact f2.elim
    | ok b c4 =>
     rw[et]at f2;intro W4 st5 R5;have st15:Stp WI.S WI.Hf WI.H W4.S W4.Hf W4.H:=st2.trans (stx.trans (st4.trans st5));have ta4:TrL W4.Hf acc vs:=TrL.same (stx.trans (st4.trans st5)).fz ta
     cases b with
     | false=>rw[if_neg (by decide)];exact⟨W4,c4,acc,rfl,R5,by omega,st15,ta4,f2⟩
     | true =>
      rw[if_pos rfl]
      have f2:fin ((fe c4).bind fun p c=>(frz (nrm p) c).bind fun y c=>Ed g ft fe (ds.drop (i+1)) (acc++[y]) c):=f2
      refine he.toV βI W4 c4 σ3 _ R5 ?_
      cases ee:fe c4 with
      | bad=>rw[ee]at f2;exact f2.elim
      | ok p c5 =>
       rw[ee]at f2
       have f2:fin ((frz (nrm p) c5).bind fun y c=>Ed g ft fe (ds.drop (i+1)) (acc++[y]) c):=f2
       intro y W5 st6 R6 r6
       have fz:(frz (nrm p) c5).sat fun _ _=>True:=by
        cases ef:frz (nrm p) c5 with
        | bad=>rw[ef]at f2;exact f2.elim
        | ok d c=>trivial
       obtain⟨d,c6,W6,e6,_,eH,st7,R7,t7⟩:=Gp R6 r6 fz;rw[e6]at f2
       refine⟨W6,c6,acc++[d],eH,R7,by rw[aK,eU];omega,st15.trans (st6.trans st7),(TrL.same (st6.trans st7).fz ta4).app (TrL.one t7),f2⟩
  ·have e:i=ds.length:=by omega
   subst e;rw[j6]at f2
   refine .inl ⟨hstop rfl,fun p hp=>?_⟩
   have f2:match Hm c2 (pairsOf 0 idx) c1 with
    | none=>False
    | some c=>∀v W' fp,Stp W.S W.Hf W.H (orS W'.S fp) W'.Hf W'.H->Rep K β W' c σ->Gn K W' σ (.o (.ls false acc)) v fp->Q v W'.H:=f2
   cases eb:Hm c2 (pairsOf 0 idx) c1 with
   | none=>simp only[eb]at f2
   | some cO =>
    simp only[eb]at f2
    obtain⟨W3,e1,e2,R3,st3,_⟩:=L.back (fp:=[]) R1 R2 (st2.less fun a z=>by
     rcases z with z | z
     ·exact z
     ·cases z) eb (fun k i b ds v hm _ hv=>by
      have:=(Gg hm).2;rw[dU]at this
      show (((cst idx σ)[k]?).join).getD .non=v
      rw[Au7 this hv];rfl) (fun a z=>nomatch z)
    have st3:Stp W1.S W1.Hf W1.H W3.S W3.Hf W3.H:=by
     rw[e1,e2];exact st3.less fun a z=>.inl z
    rw[<- e2]at hp ⊢
    exact New.lst (New.of R3 fun v W' fp st R' rp=>f2 v W' fp (st1.trans (st3.trans st)) R' rp) R3.sub (by rw[e1];exact ta) hp
 ·rw[if_neg hl]at s1;exact s1.elim
theorem G6 {idx:p_}{wi:TI}{t:TG}{tc:TT}{te:TE}{fi:Ev->R (w5)}{g:o8}{ft:n6}{fe:n8}(hnd:((pairsOf 0 idx).map (·.2)).Nodup)(hi:MI K wi fi)(hg:MG K t g)(ht:MT K tc ft)(he:ME K te fe) :
 ME K (tLC idx wi t tc te) (cLC idx fi g ft fe):=by
 intro β W c σ Q R s
 refine hi β W c σ _ R (s.bnd.mono fun ds c1 s1 J W1 st1 R1 it=>?_)
 exact Bc2 hnd hg ht he st1 R1 (fun i W2 st2 sub=>it i W2.Hf W2.H st2.fz sub) s1
end
inductive FR where
 | ret (o:O) (as:List O)
 | bad
abbrev n_:=List O->FR
def resolve (p:PV)(c:Ev):Option (O×Ev):=match p with
 | .o (.ls _ ds)=>some (.ls false ds,c)
 | .o o=>some (o,c)
 | .sl i=>match c[i]? with
  | some (some (.ls false ds))=>some (.ls false ds,c.set i none)
  | some (some (.im d))=>some (.im d,c)
  | _=>none
def Hz:List O->Ev->Option (List O)
 | [],_=>some []
 | .ls true _::r,some (.ls true ds)::c=>(Hz r c).map (.ls true ds::·)
 | .ls _ _::_,_=>none
 | o::r,_::c=>(Hz r c).map (o::·)
 | _::_,[]=>none
def A1h (as:List O)(p:PV)(c:Ev):FR:=match resolve p c with
 | none=>.bad
 | some (o,c)=>match Hz as c with
  | none=>.bad
  | some as'=>.ret o as'
def En (n N:Nat)(body:Ev->SR):n_:=fun as=>if as.length=n then match body (as.map some++List.replicate (N-n) none) with
 | .nx c=>A1h as (.o (.im .none)) c
 | .rt p c=>A1h as p c
 | _=>.bad
 else .bad
def spP (K:v_)(F:n_):Sp:=fun vs H Q _=>∃(β:Nat->V) (W:Wo) (as:List O),W.H=H/\as.length=vs.length/\Rep K β W (as.map some) (vs.map some)/\match F as with
 | .bad=>False
 | .ret o as'=>∀v W' fp,Stp W.S W.Hf W.H (orS W'.S fp) W'.Hf W'.H->Rep K β W' (as'.map some) (vs.map some)->RepO K W'.Hf W'.H o v fp->(∀a∈fp,¬ W'.S a)->Q v W'.H
section
variable {K:v_}{β β':Nat->V}{W W':Wo}{c c' cI cI' cO:Ev}{σ σ' σI σI':St}{D:Ends}{Hf H:Hp}{o:O}{v:V}{fp:v5}
theorem Qf:∀{as:List O}{c:Ev}{as':List O},Hz as c=some as'->as'.length=as.length/\∀(i:Nat) (o':O),as'[i]?=some o'->(o'.own=false/\as[i]?=some o')\/(∃ds ds',o'=.ls true ds'/\as[i]?=some (.ls true ds)/\c[i]?=some (some (.ls true ds')))
 | [],c,as',e=>by cases (show some []=some as' from e);exact⟨rfl,fun i o' h=>by simp at h⟩
 | o::r,[],as',e=>by
  cases o with
  | ls b ds=>cases b <;> cases e
  | im d=>cases e
  | sc d=>cases e
  | ty d=>cases e
 | o::r,x::c,as',e=>by
  have go:∀o1:O,(Hz r c).map (o1::·)=some as'->((o1.own=false/\o1=o)\/(∃ds ds',o1=.ls true ds'/\o=.ls true ds/\x=some (.ls true ds'))) ->
   as'.length=(o::r).length/\∀(i:Nat) (o':O),as'[i]?=some o'->(o'.own=false/\(o::r)[i]?=some o')\/(∃ds ds',o'=.ls true ds'/\(o::r)[i]?=some (.ls true ds)/\(x::c)[i]?=some (some (.ls true ds'))):=fun o1 e1 h1=>by
   obtain⟨t,e2,rfl⟩:=bB.mp e1;obtain⟨l,g⟩:=Qf e2
   refine⟨by rw[aQ,aQ,l],fun i o' h=>?_⟩
   cases i with
   | zero =>
    cases (show some o1=some o' from h)
    rcases h1 with ⟨z1,z2⟩ | ⟨ds,ds',z1,z2,z3⟩
    ·exact .inl ⟨z1,by rw[z2];rfl⟩
    ·exact .inr ⟨ds,ds',z1,by rw[z2];rfl,by rw[z3];rfl⟩
   | succ i=>exact g i o' (by simpa using h)
  cases o with
  | ls b ds =>
   cases b with
   | false=>cases e
   | true =>
    match x,e with
    | some (.ls true ds'),e=>exact go (.ls true ds') e (.inr ⟨ds,ds',rfl,rfl,rfl⟩)
    | some (.ls false ds'),e=>cases e
    | some (.im _),e=>cases e
    | some (.sc _),e=>cases e
    | some (.ty _),e=>cases e
    | none,e=>cases e
  | im d=>exact go (.im d) e (.inl ⟨rfl,rfl⟩)
  | sc d=>exact go (.sc d) e (.inl ⟨rfl,rfl⟩)
  | ty d=>exact go (.ty d) e (.inl ⟨rfl,rfl⟩)
theorem As5 {p:PV}{fp:v5}(R:Rep K β W c σ)(r:Gn K W σ p v fp)(e:resolve p c=some (o,c')) :
 ∃W2 fp2,W2.Hf=W.Hf/\W2.H=W.H/\Rep K β W2 c' σ/\RepO K W2.Hf W2.H o v fp2/\(∀a∈fp2,¬ W2.S a)/\∀a,orS W2.S fp2 a->orS W.S fp a:=by
 cases p with
 | o o1 =>
  have e1:o=o1.flag false/\c'=c:=by
   cases o1 with
   | ls b ds=>cases e;exact⟨rfl,rfl⟩
   | im d=>cases e;exact⟨rfl,rfl⟩
   | sc d=>cases e;exact⟨rfl,rfl⟩
   | ty d=>cases e;exact⟨rfl,rfl⟩
  obtain⟨rfl,rfl⟩:=e1
  refine⟨W,fp,rfl,rfl,R,?_,r.2,fun a z=>z⟩
  cases o1 with
  | ls b ds=>exact r.1
  | im d=>exact r.1
  | sc d=>exact r.1
  | ty d=>exact r.1
 | sl i =>
  obtain⟨rfl,ev⟩:=r;unfold resolve at e
  cases ec:c[i]? with
  | none=>simp only[ec]at e;cases e
  | some x =>
   cases x with
   | none=>simp only[ec]at e;cases e
   | some o1 =>
    obtain⟨v',e1,r1,_⟩:=R.get i o1 ec
    cases (show some (some v')=some (some v) from e1.symm.trans ev)
    cases o1 with
    | sc d=>simp only[ec]at e;cases e
    | ty d=>simp only[ec]at e;cases e
    | im d =>
     simp only[ec]at e
     cases e
     exact⟨W,[],rfl,rfl,R,⟨rfl,r1.2⟩,(fun a z=>by cases z),fun a z=>z⟩
    | ls b ds =>
     cases b with
     | true=>simp only[ec]at e;cases e
     | false =>
      simp only[ec]at e
      cases e
      refine⟨⟨W.Hf,W.H,clr W.fps i⟩,W.fps i,rfl,rfl,R.drop i,r1,fun a ha ⟨j,hj⟩=>?_,fun a z=>?_⟩
      ·obtain⟨q1,q2⟩:=Fj hj
       exact q2 (R.dis j i a q1 ha)
      ·rcases z with z | z
       ·exact .inl (Bs5 z)
       ·exact .inl ⟨i,z⟩
theorem Du {α β:Type}{l:List α}{f:α->β}{i:Nat}{y:β}(h:(l.map f)[i]?=some y):∃x,l[i]?=some x/\f x=y:=by
 rw[bz]at h;exact bB.mp h
theorem A9i {as as':List O}{vs:m7}{W0:Wo}(R0:Rep K β W0 (as.map some) (vs.map some))(R:Rep K β W c σ)(S:Same W0.Hf W.Hf)(e:Hz as c=some as') :
 ∃W2:Wo,W2.Hf=W.Hf/\W2.H=W.H/\Rep K β W2 (as'.map some) (vs.map some)/\∀a,W2.S a->W.S a:=by
 obtain⟨hl,hg⟩:=Qf e
 let fps2:Nat->v5:=fun i=>if Hx ((as'.map some)[i]?) then W.fps i else []
 have sub2:∀i a,a∈fps2 i->a∈W.fps i:=fun i a h=>by
  have h:a∈if Hx ((as'.map some)[i]?) then W.fps i else []:=h
  split at h
  ·exact h
  ·cases h
 have hlen:as.length=vs.length:=by have:=R0.len;rwa [ak,ak]at this
 refine⟨⟨W.Hf,W.H,fps2⟩,rfl,rfl,⟨R.sub,by rw[ak,ak,hl,hlen],fun i o h=>?_,fun i j a h1 h2=>R.dis i j a (sub2 i a h1) (sub2 j a h2),fun i a h=>R.own i a (sub2 i a h)⟩,fun a ⟨i,h⟩=>⟨i,sub2 i a h⟩⟩
 obtain⟨o',h1,h2⟩:=Du h
 cases h2
 rcases hg i o h1 with ⟨n,q⟩ | ⟨ds,ds',rfl,q1,q2⟩
 ·obtain⟨v,e1,r,_⟩:=R0.get i o (by rw[bz,q];rfl)
  have f0:fps2 i=[]:=by
   show (if Hx ((as'.map some)[i]?) then W.fps i else [])=[]
   rw[h]
   cases o with
   | ls b ds=>exact nomatch n
   | im d=>rfl
   | sc d=>rfl
   | ty d=>rfl
  refine⟨v,e1,?_,?_⟩
  ·show RepO K W.Hf W.H o v (fps2 i)
   rw[f0]
   cases o with
   | ls b ds=>exact nomatch n
   | im d=>exact⟨rfl,RepN.same S r.2⟩
   | sc d=>exact⟨rfl,RepN.same S r.2⟩
   | ty d=>exact⟨rfl,RepN.same S r.2⟩
  ·intro b
   cases o with
   | ls b ds=>exact nomatch n
   | im d=>exact nomatch b
   | sc d=>exact nomatch b
   | ty d=>exact nomatch b
 ·obtain⟨v,e1,r,bb⟩:=R0.get i (.ls true ds) (by rw[bz,q1];rfl)
  obtain⟨v',e1',r',bb'⟩:=R.get i _ q2;have hv:=bb rfl;have hv':=bb' rfl;rw[<- hv]at hv';subst hv'
  refine⟨v',e1,?_,bb⟩
  have f0:fps2 i=W.fps i:=by
   show (if Hx ((as'.map some)[i]?) then W.fps i else [])=_
   rw[h];rfl
  show RepO K W.Hf W.H (.ls true ds') v' (fps2 i)
  rw[f0];exact r'
theorem Ca {n:Nat}{N:v4}{body:Ev->SR}{T:TS}{vs:m7}{Q:VK}{E:XK}(h:MS K T body)(hs:spP K (En n N.length body) vs H Q E):T { nx:=fun _ H'=>Q .non H',rt:=Q } (start N vs) H:=by
 obtain⟨β,W,as,rfl,hl,R0,hf⟩:=hs;unfold En at hf
 by_cases hn:as.length=n
 ·rw[if_pos hn]at hf
  let c0:Ev:=as.map some++List.replicate (N.length-n) none
  have R:Rep K β W c0 (start N vs):=by
   refine⟨R0.sub,?_,fun i o e=>?_,R0.dis,R0.own⟩
   ·show (as.map some++List.replicate (N.length-n) none).length=(vs.map some++List.replicate (N.length-vs.length) none).length
    rw[aK,aK,ak,ak,jd,jd,<- hl,hn]
   ·have e:(as.map some++List.replicate (N.length-n) none)[i]?=some (some o):=e
    by_cases li:i<as.length
    ·rw[cW (by rw[ak];exact li)]at e
     obtain⟨v,e1,r⟩:=R0.get i o e
     refine⟨v,?_,r⟩
     show (vs.map some++List.replicate (N.length-vs.length) none)[i]?=_
     rw[cW (by rw[ak,<- hl];exact li)];exact e1
    ·rw[cV (by rw[ak];exact Nat.le_of_not_lt li),List.getElem?_replicate]at e
     split at e <;> cases e
  refine h β W c0 (start N vs) _ R ?_
  have fin:∀p c1 σ1 v W1 fp,(match A1h as p c1 with
   | .bad=>False
   | .ret o as'=>∀v W' fp,Stp W.S W.Hf W.H (orS W'.S fp) W'.Hf W'.H->Rep K β W' (as'.map some) (vs.map some)->RepO K W'.Hf W'.H o v fp->(∀a∈fp,¬ W'.S a)->Q v W'.H) ->
   Stp W.S W.Hf W.H (orS W1.S fp) W1.Hf W1.H->Rep K β W1 c1 σ1->Gn K W1 σ1 p v fp->Q v W1.H:=fun p c1 σ1 v W1 fp hf st R1 r1=>by
   unfold A1h at hf
   cases er:resolve p c1 with
   | none=>simp only[er]at hf
   | some q =>
    obtain⟨o,c2⟩:=q;simp only[er]at hf
    cases ea:Hz as c2 with
    | none=>simp only[ea]at hf
    | some as' =>
     simp only[ea]at hf;obtain⟨W2,fp2,e1,e2,R2,r2,n2,s2⟩:=As5 R1 r1 er
     obtain⟨W3,e3,e4,R3,s3⟩:=A9i R0 R2 (by rw[e1];exact st.fz) ea
     rw[show W1.H=W3.H by rw[e4,e2]]
     refine hf v W3 fp2 ?_ R3 (by rw[e3,e4];exact r2) fun a ha z=>n2 a ha (s3 a z)
     rw[e3,e4,e1,e2]
     exact st.less fun a z=>s2 a (by
      rcases z with z | z
      ·exact .inl (s3 a z)
      ·exact .inr z)
  cases eb:body c0 with
  | nx c1 =>
   rw[show body (as.map some++List.replicate (N.length-n) none)=.nx c1 from eb]at hf
   exact fun σ1 W1 st R1=>fin (.o (.im .none)) c1 σ1 .non W1 [] hf (st.less fun a z=>by
    rcases z with z | z
    ·exact z
    ·cases z) R1 ⟨⟨rfl,rfl⟩,fun a z=>nomatch z⟩
  | rt p c1 =>
   rw[show body (as.map some++List.replicate (N.length-n) none)=.rt p c1 from eb]at hf
   exact fun σ1 v W1 fp st R1 r1=>fin p c1 σ1 v W1 fp hf st R1 r1
  | bk c1=>rw[show body (as.map some++List.replicate (N.length-n) none)=.bk c1 from eb]at hf;exact hf.elim
  | ct c1=>rw[show body (as.map some++List.replicate (N.length-n) none)=.ct c1 from eb]at hf;exact hf.elim
  | bad=>rw[show body (as.map some++List.replicate (N.length-n) none)=.bad from eb]at hf;exact hf.elim
 ·rw[if_neg hn]at hf;exact hf.elim
theorem Bw {n:Nat}{N:Nat}{body:Ev->SR}{vs:m7}{Q:VK}{E:XK}(hs:spP K (En n N body) vs H Q E):vs.length=n:=by
 obtain⟨β,W,as,rfl,hl,R0,hf⟩:=hs;unfold En at hf
 by_cases hn:as.length=n
 ·omega
 ·rw[if_neg hn]at hf;exact hf.elim
def Zr (c:Ev):List PV->Option (List O)
 | []=>some []
 | .o o::r=>(Zr c r).map (o::·)
 | .sl i::r=>match c[i]? with
  | some (some o)=>(Zr c r).map (o.flag true::·)
  | _=>none
def slots:List PV->p_
 | []=>[]
 | .o _::r=>none::slots r
 | .sl i::r=>some i::slots r
def ndB:List Nat->Bool
 | []=>true
 | x::r=>!r.contains x&&ndB r
theorem A8z:∀{l:List Nat},ndB l=true->l.Nodup
 | [],_=>eY
 | x::r,h=>by
  obtain⟨h1,h2⟩:=aB.mp (show (!r.contains x&&ndB r)=true from h)
  rw[bQ]
  exact⟨fun z=>by simp[z]at h1,A8z h2⟩
def S5 (F:n_)(ps:List PV)(c:Ev):R PV:=match Zr c ps with
 | none=>.bad
 | some as=>if ndB ((pairsOf 0 (slots ps)).map (·.2))=true then match F as with
  | .bad=>.bad
  | .ret o as'=>match Hm (as'.map some) (pairsOf 0 (slots ps)) c with
   | none=>.bad
   | some c=>.ok (.o o) c
  else .bad
def cF (F:n_)(fa:o_):n8:=fun c=>(fa c).bind fun ps c=>S5 F ps c
theorem V9 {Hf:Hp}:∀{ps:List PV}{vs:m7}{as:List O},Zr c ps=some as->zP K Hf σ ps vs->as.length=vs.length/\∀(k:Nat) (o:O),as[k]?=some o->∃v,vs[k]?=some v /\
 ((RepN K Hf o v/\(slots ps)[k]?=some none)\/∃i o',(slots ps)[k]?=some (some i)/\c[i]?=some (some o')/\o=o'.flag true/\σ[i]?=some (some v))
 | [],vs,as,e,h=>by cases (show some []=some as from e);cases (show vs=[] from h);exact⟨rfl,fun k o h=>by simp at h⟩
 | .o o1::r,_,as,e,⟨v,vr,rfl,h,t⟩=>by
  obtain⟨l,e2,rfl⟩:=bB.mp (show (Zr c r).map (o1::·)=some as from e)
  obtain⟨hl,hg⟩:=V9 e2 t
  refine⟨by rw[aQ,aQ,hl],fun k o hk=>?_⟩
  cases k with
  | zero=>cases (show some o1=some o from hk);exact⟨v,rfl,.inl ⟨h,rfl⟩⟩
  | succ k=>exact hg k o (by simpa using hk)
 | .sl i::r,_,as,e,⟨v,vr,rfl,h,t⟩=>by
  unfold Zr at e
  cases ec:c[i]? with
  | none=>simp only[ec]at e;cases e
  | some x =>
   cases x with
   | none=>simp only[ec]at e;cases e
   | some o1 =>
    simp only[ec]at e;obtain⟨l,e2,rfl⟩:=bB.mp e;obtain⟨hl,hg⟩:=V9 e2 t
    refine⟨by rw[aQ,aQ,hl],fun k o hk=>?_⟩
    cases k with
    | zero=>cases (show some (o1.flag true)=some o from hk);exact⟨v,rfl,.inr ⟨i,o1,rfl,ec,rfl,h⟩⟩
    | succ k=>exact hg k o (by simpa using hk)
theorem Sh {Hf:Hp}:∀{ps:List PV}{vs:m7}{k i:Nat}{v:V},zP K Hf σ ps vs->(slots ps)[k]?=some (some i)->σ[i]?=some (some v)->vs[k]?=some v
 | [],vs,k,i,v,h,e,q=>by simp[slots]at e
 | .o _::r,_,k,i,v,⟨v1,vr,rfl,h,t⟩,e,q=>by
  cases k with
  | zero=>simp[slots]at e
  | succ k=>have:=Sh (k:=k) t (by simpa[slots] using e) q;simpa using this
 | .sl j::r,_,k,i,v,⟨v1,vr,rfl,h,t⟩,e,q=>by
  cases k with
  | zero =>
   have:j=i:=by simpa[slots] using e
   subst this
   cases (show some (some v1)=some (some v) from (show σ[j]?=some (some v1) from h).symm.trans q)
   rfl
  | succ k=>have:=Sh (k:=k) t (by simpa[slots] using e) q;simpa using this
theorem As7 {F:n_}{E:XK}{W1:Wo}{c1:Ev}{ps:List PV}{vs:m7}{Q:VK}(R1:Rep K β W1 c1 σ)(r1:zP K W1.Hf σ ps vs)
 (s1:(S5 F ps c1).sat fun p c'=>∀v W' fp,Stp W1.S W1.Hf W1.H (orS W'.S fp) W'.Hf W'.H->Rep K β W' c' σ->Gn K W' σ p v fp->(∀j a,a∈W1.fps j->some j∉slots ps->W'.H a=W1.H a)->Q v W'.H):spP K F (vs++[]) W1.H Q E:=by
 unfold S5 at s1
 cases ea:Zr c1 ps with
 | none=>simp only[ea]at s1;exact s1.elim
 | some as =>
  simp only[ea]at s1
  by_cases nd:ndB ((pairsOf 0 (slots ps)).map (·.2))=true
  ·rw[if_pos nd]at s1
   obtain⟨hl,hg⟩:=V9 ea r1
   let m:=pairsOf 0 (slots ps)
   let βI:Nat->V:=fun k=>(vs[k]?).getD .non
   have L:Lent K W1.Hf m c1 σ βI (as.map some) (vs.map some):=by
    refine⟨Q3,A8z nd,by rw[ak,ak];exact hl,fun k o hk=>?_⟩
    obtain⟨o1,h1,h2⟩:=Du hk
    cases h2
    obtain⟨v,hv,q⟩:=hg k o h1
    have hv':(vs.map some)[k]?=some (some v):=by rw[bz,hv];rfl
    rcases q with ⟨rn,sl⟩ | ⟨i,o',sl,ec,rfl,es⟩
    ·refine .inl ⟨?_,fun i hi=>?_,v,hv',rn⟩
     ·cases o with
      | ls b ds=>exact rn.elim
      | im d=>rfl
      | sc d=>rfl
      | ty d=>rfl
     ·have:=(Gg hi).2
      rw[dU,sl]at this;cases this
    ·have nol:Hx c1[i]?=false->∀j,(k,j)∈m->Hx c1[j]?=false:=fun q j hj=>by
      have:=(Gg hj).2;rw[dU,sl]at this;cases this;exact q
     obtain⟨v',e1,r,_⟩:=R1.get i o' ec
     cases (show some (some v')=some (some v) from e1.symm.trans es)
     cases o' with
     | im d=>exact .inl ⟨rfl,nol (by rw[ec];rfl),v,hv',r.2⟩
     | sc d=>exact .inl ⟨rfl,nol (by rw[ec];rfl),v,hv',r.2⟩
     | ty d=>exact .inl ⟨rfl,nol (by rw[ec];rfl),v,hv',r.2⟩
     | ls b ds=>exact .inr ⟨i,b,ds,v,Oa (l:=0) sl,ec,rfl,es,hv',by show (vs[k]?).getD .non=v;rw[hv];rfl⟩
   have RI:=L.rep R1
   refine⟨βI,⟨W1.Hf,W1.H,Tj m c1 W1.fps⟩,as,rfl,by rw[cH];exact hl,by rw[cH];exact RI,?_⟩
   cases ef:F as with
   | bad=>simp only[ef]at s1;exact s1.elim
   | ret o as' =>
    simp only[ef]at s1;intro v W' fp st R' ro nf;rw[cH]at R'
    cases eb:Hm (as'.map some) m c1 with
    | none=>simp only[m]at eb;simp only[eb]at s1;exact s1.elim
    | some cO =>
     have eb':=eb;simp only[m]at eb';simp only[eb']at s1
     obtain⟨W2,e1,e2,R2,st2,n2⟩:=L.back R1 R' st eb (fun k i b ds v hm hc hv=>by
      have:=(Gg hm).2;rw[dU]at this
      show (vs[k]?).getD .non=v
      rw[Sh r1 this hv];rfl) nf
     rw[<- e2]
     refine s1 v W2 fp (by rw[e1,e2];exact st2) R2 ⟨by rw[e1,e2];exact ro,n2⟩ fun j a ha hj=>?_
     obtain⟨_,ob,hob,_⟩:=R1.own j a ha;rw[e2,hob]
     refine st.kp a ob hob fun⟨k,hk⟩=>hj ?_
     obtain⟨i,q1,_,q3⟩:=Hl hk
     cases (R1.dis i j a q3 ha)
     have:=(Gg q1).2;exact bH this
  ·rw[if_neg nd]at s1;exact s1.elim
theorem Q9 {F:n_}{E:XK}{W1:Wo}{c1:Ev}{ps:List PV}{vs:m7}{Q:VK}(R1:Rep K β W1 c1 σ)(r1:zP K W1.Hf σ ps vs)
 (s1:(S5 F ps c1).sat fun p c'=>∀v W' fp,Stp W1.S W1.Hf W1.H (orS W'.S fp) W'.Hf W'.H->Rep K β W' c' σ->Gn K W' σ p v fp->Q v W'.H):spP K F (vs++[]) W1.H Q E :=
 As7 R1 r1 (s1.mono fun p c' k v W' fp st R r _=>k v W' fp st R r)
theorem Ao {F:n_}{E:XK}{t:TA}{fa:o_}(ha:MA K t fa):ME K (Xz (spP K F) [] E t) (cF F fa):=by
 intro β W c σ Q R s
 refine ha β W c σ _ R (s.bnd.mono fun ps c1 s1 vs W1 st1 R1 r1=>?_)
 exact Q9 R1 r1 (s1.mono fun p c' k v W' fp st R' r=>k v W' fp (st1.trans st) R' r)
theorem zP.ext {Hf:Hp}{x:Option V}:∀{ps:List PV}{vs:m7},zP K Hf σ ps vs->zP K Hf (σ++[x]) ps vs
 | [],vs,h=>h
 | .o _::r,_,⟨v,vr,e,h,t⟩=>⟨v,vr,e,h,zP.ext t⟩
 | .sl i::r,_,⟨v,vr,e,h,t⟩=>⟨v,vr,e,by
  have h:σ[i]?=some (some v):=h
  have:i<σ.length:=by
   rcases bc i σ.length with q | q
   ·exact q
   ·rw[bU q]at h;cases h
  show (σ++[x])[i]?=_
  rw[cW this];exact h,zP.ext t⟩
def cFO (F:n_)(fa:n8)(fr:o_):n8:=fun c=>(fa c).bind fun p c=>(fr c).bind fun ps c=>match p with
 | .o (.ls _ ds)=>(S5 F (.sl c.length::ps) (c++[some (.ls false ds)])).bind fun r c'=>match r with
  | .o o=>.ok (.o o) c'.dropLast
  | .sl _=>.bad
 | _=>.bad
theorem A9k {F:n_}{E:XK}{ta:TE}{t:TA}{fa:n8}{fr:o_}(ha:ME K ta fa)(hr:MA K t fr):ME K (Xz (spP K F) [] E (Dz ta t)) (cFO F fa fr):=by
 intro β W c σ Q R s
 refine ha β W c σ _ R (s.bnd.mono fun p c1 s1 v1 W1 fp1 st1 R1 r1=>?_)
 refine hr β W1 c1 σ _ R1 (s1.bnd.mono fun ps c2 s2 vs W2 st2 R2 r2=>?_)
 match p,r1,s2 with
 | .sl _,_,s2=>exact s2.elim
 | .o (.im _),_,s2=>exact s2.elim
 | .o (.sc _),_,s2=>exact s2.elim
 | .o (.ty _),_,s2=>exact s2.elim
 | .o (.ls b ds),r1,s2 =>
  obtain⟨⟨a,us,rfl,rfl,hf,hH,t⟩,hn⟩:=r1;have hn:=hn a (.head _);have hH2:=st2.kp a _ hH hn;have hf2:=st2.nf a _ hH trivial hn hf
  have hn2:¬ W2.S a:=fun z=>by
   rcases st2.fr a z with q | q
   ·exact hn q
   ·rw[hH]at q;cases q
  let W3:Wo:=⟨W2.Hf,W2.H,fun j=>if j=c2.length then [a] else W2.fps j⟩
  have sub3:∀j x,x∈W3.fps j->(j=c2.length/\x=a)\/x∈W2.fps j:=fun j x h=>by
   have h:x∈if j=c2.length then [a] else W2.fps j:=h
   split at h
   ·rename_i z;exact .inl ⟨z,aY.mp h⟩
   ·exact .inr h
  have R3:Rep K β W3 (c2++[some (.ls false ds)]) (σ++[some (.ref a)]):=by
   refine⟨R2.sub,by rw[aK,aK,R2.len];rfl,fun i o e=>?_,fun i j x h1 h2=>?_,fun i x h=>?_⟩
   ·by_cases z:i<c2.length
    ·rw[cW z]at e
     obtain⟨v,e1,r,bb⟩:=R2.get i o e
     refine⟨v,by rw[cW (by rw[<- R2.len];exact z)];exact e1,?_,bb⟩
     show RepO K W2.Hf W2.H o v (if i=c2.length then [a] else W2.fps i)
     rw[if_neg (by omega)];exact r
    ·by_cases z2:i=c2.length
     ·subst z2
      rw[cV (aq _),cR]at e
      cases e
      refine⟨.ref a,by rw[R2.len,cV (aq _),cR];rfl,?_,fun z=>nomatch z⟩
      refine⟨a,us,rfl,?_,hf2,hH2,TrL.same st2.fz t⟩
      show (if c2.length=c2.length then [a] else _)=_
      rw[if_pos rfl]
     ·rw[bU (by rw[aK,eU];omega)]at e;cases e
   ·rcases sub3 i x h1 with ⟨q1,q2⟩ | q
    ·rcases sub3 j x h2 with ⟨q3,q4⟩ | q'
     ·omega
     ·rw[q2]at q';exact absurd ⟨j,q'⟩ hn2
    ·rcases sub3 j x h2 with ⟨q3,q4⟩ | q'
     ·rw[q4]at q;exact absurd ⟨i,q⟩ hn2
     ·exact R2.dis i j x q q'
   ·rcases sub3 i x h with ⟨q1,q2⟩ | q
    ·rw[q2];exact⟨hf2,_,hH2,trivial⟩
    ·exact R2.own i x q
  have st13:Stp W.S W.Hf W.H W3.S W2.Hf W2.H:=by
   refine (st1.trans (Stp.more (F:=fun x=>x∈[a]) st2)).less fun x ⟨i,z⟩=>?_
   rcases sub3 i x z with ⟨q1,q2⟩ | q
   ·exact .inr (by rw[q2];exact .head _)
   ·exact .inl ⟨i,q⟩
  have r3:zP K W3.Hf (σ++[some (.ref a)]) (.sl c2.length::ps) (.ref a::vs) :=
   ⟨.ref a,vs,rfl,by show (σ++[some (V.ref a)])[c2.length]?=_;rw[R2.len,cV (aq _),cR];rfl,zP.ext r2⟩
  refine Q9 (W1:=W3) R3 r3 (s2.bnd.mono fun p c' k v W' fp st R' r=>?_)
  match p,r,k with
  | .sl _,r,k=>exact k.elim
  | .o o,r,k =>
   have hl:c'.length=σ.length+1:=by have:=R'.len;rw[aK,eU]at this;exact this
   let W4:Wo:=⟨W'.Hf,W'.H,fun j=>if j<σ.length then W'.fps j else []⟩
   have sub4:∀j x,x∈W4.fps j->x∈W'.fps j/\j<σ.length:=fun j x h=>by
    have h:x∈if j<σ.length then W'.fps j else []:=h
    split at h
    ·rename_i z;exact⟨h,z⟩
    ·cases h
   have R4:Rep K β W4 c'.dropLast σ:=by
    refine⟨R'.sub,by rw[List.length_dropLast,hl];rfl,fun i o e=>?_,fun i j x h1 h2=>R'.dis i j x (sub4 i x h1).1 (sub4 j x h2).1,fun i x h=>R'.own i x (sub4 i x h).1⟩
    have z:i<σ.length:=by
     rcases bc i σ.length with q | q
     ·exact q
     ·rw[bU (by rw[List.length_dropLast,hl];exact q)]at e;cases e
    rw[List.getElem?_dropLast,if_pos (by omega)]at e
    obtain⟨v,e1,r,bb⟩:=R'.get i o e
    refine⟨v,by rw[cW z]at e1;exact e1,?_,bb⟩
    show RepO K W'.Hf W'.H o v (if i<σ.length then W'.fps i else [])
    rw[if_pos z];exact r
   have lessS:∀x,W4.S x->W'.S x:=fun x ⟨i,h⟩=>⟨i,(sub4 i x h).1⟩
   refine k v W4 fp ((st13.trans st).less fun x z=>?_) R4 ⟨r.1,fun x hx z=>r.2 x hx (lessS x z)⟩
   rcases z with z | z
   ·exact .inl (lessS x z)
   ·exact .inr z
end
def B2b (is:List Nat)(c:Ev):Ev:=is.foldl (fun c i=>c.set i none) c
section
variable {K:v_}{X:Cx}{Hf H:Hp}{Q:VK}
theorem OpR.or {X:Cx}{f:Value->Value->Sem Value}{r r':R2}(h:OpR X f r)(h':OpR X f r'):OpR X f (fun x y H Q=>r x y H Q\/r' x y H Q):=by
 intro pins s σ H x y v u Q I rx ry q
 rcases q with q | q
 ·exact h pins s σ H x y v u Q I rx ry q
 ·exact h' pins s σ H x y v u Q I rx ry q
theorem CallR.or {X:Cx}{f:Value}{r r':m7->Hp->VK->Prop}(h:CallR X f r)(h':CallR X f r'):CallR X f (fun xs H Q=>r xs H Q\/r' xs H Q):=by
 intro pins s σ H xs us Q I rx q
 rcases q with q | q
 ·exact h pins s σ H xs us Q I rx q
 ·exact h' pins s σ H xs us Q I rx q
theorem El {i:Int}{v:V}(h:RdV Hf H (.int i) v):v=.int i:=h
theorem Hs {x:Str}{v:V}(h:RdV Hf H (.str x) v):v=.str x:=h
theorem Qh {b:Bool}{v:V}(h:RdV Hf H (.bool b) v):v=.bl b:=h
theorem Um {v:V}(h:RdV Hf H .none v):v=.non:=h
theorem Im {ds:w5}{v:V}(s:Same Hf H)(h:RdV Hf H (.tuple ds) v):∃a vs,v=.ref a/\H a=some (.tup vs)/\TrL Hf ds vs:=by
 obtain⟨a,vs,e,q,t⟩:=(show Tr Hf (.tuple ds) v from h)
 exact⟨a,vs,e,s _ _ q,t⟩
theorem G4 {ds:w5}{v:V}(h:RdV Hf H (.list ds) v):∃a vs,v=.ref a/\H a=some (.lst vs)/\TrL Hf ds vs:=h
theorem New.int {i:Int}(h:New K Hf H (.im (.int i)) Q)(s:Same Hf H):Q (.int i) H:=h.same s rfl
theorem New.bl {b:Bool}(h:New K Hf H (.im (.bool b)) Q)(s:Same Hf H):Q (.bl b) H:=h.same s rfl
theorem New.str {x:Str}(h:New K Hf H (.im (.str x)) Q)(s:Same Hf H):Q (.str x) H:=h.same s rfl
theorem New.tupS {ds:w5}{vs:m7}(h:New K Hf H (.im (.tuple ds)) Q)(s:Same Hf H)(t:TrL Hf ds vs){p:Addr}{H':Hp}(S:Same H H')(hp:H' p=some (.tup vs)):Q (.ref p) H':=by
 have sf:Same Hf (upd Hf p (.tup vs)):=fun b u e=>by
  unfold upd
  split
  ·rename_i z
   have:=S b u (s b u e);rw[z,hp]at this;exact this
  ·exact e
 refine h (.ref p) (upd Hf p (.tup vs)) H' [] ⟨sf,fun a o e _=>S a o e,fun a o e mu _ q=>?_,fun a z=>nomatch z⟩ (fun b u e=>?_) ⟨rfl,p,vs,rfl,Bb,TrL.same sf t⟩
 ·unfold upd
  split
  ·rename_i z
   have:=S a o e;rw[z,hp]at this
   cases this
   exact mu.elim
  ·exact q
 ·unfold upd at e
  split at e
  ·rename_i z;rw[z,hp];exact e
  ·exact S b u (s b u e)
def By8:R2:=fun x y H Q=>(rI0 (fun i j=>.int (i+j)) x y H Q\/(∃i j,x=.str i/\y=.str j/\i.length+j.length<=sizeLine/\Q (.str (i++j)) H))\/(B1t x y H Q\/Bm1 x y H Q)
theorem Bt0:OpR X (binaryOp .Add) By8:=OpR.or (OpR.or Bq5 Ar3) (OpR.or Bw7 Bd5)
def Dm:q_->q_->m6
 | .int i,.int j=>some (.im (.int (i+j)))
 | .str a,.str b=>if a.length+b.length<=16000000 then some (.im (.str (a++b))) else none
 | .list a,.list b=>if a.length+b.length<=16000000 then some (.ls false (a++b)) else none
 | .tuple a,.tuple b=>if a.length+b.length<=16000000 then some (.im (.tuple (a++b))) else none
 | _,_=>none
theorem lim {n:Nat}(h:n<=16000000):n<=sizeLine:=au h (by decide)
theorem Dy:OpS K By8 Dm:=by
 intro Hf H x y dx dy o Q s rx ry e n;unfold Dm at e
 split at e
 ·rename_i i j
  cases e
  exact .inl (.inl ⟨i,j,El rx,El ry,n.int s⟩)
 ·rename_i a b
  have e:(if a.length+b.length<=16000000 then some (O.im (.str (a++b))) else none)=some o:=e
  split at e
  ·rename_i l
   cases e
   exact .inl (.inr ⟨a,b,Hs rx,Hs ry,lim l,n.str s⟩)
  ·cases e
 ·rename_i a b
  have e:(if a.length+b.length<=16000000 then some (O.ls false (a++b)) else none)=some o:=e
  split at e
  ·rename_i l
   cases e
   obtain⟨p,vs,e1,h1,t1⟩:=G4 rx;obtain⟨q,us,e2,h2,t2⟩:=G4 ry
   exact .inr (.inl ⟨p,q,vs,us,e1,e2,h1,h2,by rw[<- t1.length,<- t2.length];exact lim l,fun r hr=>n.lst s (t1.app t2) hr⟩)
  ·cases e
 ·rename_i a b
  have e:(if a.length+b.length<=16000000 then some (O.im (.tuple (a++b))) else none)=some o:=e
  split at e
  ·rename_i l
   cases e
   obtain⟨p,vs,e1,h1,t1⟩:=Im s rx;obtain⟨q,us,e2,h2,t2⟩:=Im s ry
   exact .inr (.inr ⟨p,q,vs,us,e1,e2,h1,h2,by rw[<- t1.length,<- t2.length];exact lim l,fun r H' S hr=>n.tupS s (t1.app t2) S hr⟩)
  ·cases e
 ·cases e
def opI (C:Int->Int->Bool)(g:Int->Int->Int):q_->q_->m6
 | .int i,.int j=>if C i j then some (.im (.int (g i j))) else none
 | _,_=>none
theorem Ay1 {C':Int->Int->Prop}{C:Int->Int->Bool}{g:Int->Int->Int}(hc:∀i j,C i j=true->C' i j):OpS K (rI C' fun i j=>.int (g i j)) (opI C g):=by
 intro Hf H x y dx dy o Q s rx ry e n;unfold opI at e
 split at e
 ·rename_i i j
  have e:(if C i j then some (O.im (.int (g i j))) else none)=some o:=e
  split at e
  ·rename_i l
   cases e
   exact⟨i,j,El rx,El ry,hc i j l,n.int s⟩
  ·cases e
 ·cases e
def Xn (g:Int->Int->q_):q_->q_->m6
 | .int i,.int j=>some (.im (g i j))
 | _,_=>none
theorem Zi {g:Int->Int->q_}{g':Int->Int->V}(hg:∀i j H,Tr H (g i j) (g' i j)):OpS K (rI0 g') (Xn g):=by
 intro Hf H x y dx dy o Q s rx ry e n;unfold Xn at e
 split at e
 ·rename_i i j
  cases e
  exact⟨i,j,El rx,El ry,n.same s (hg i j Hf)⟩
 ·cases e
def V0 (i j:Int):Bool:=(decide (-(2 ^ 64)<i)&&decide (i<2 ^ 64))||(decide (-(2 ^ 64)<j)&&decide (j<2 ^ 64))
def B0l (ds:w5)(n:Nat):w5:=(List.replicate n ds).flatten
theorem Av5 {a:w5}{vs:m7}(t:TrL Hf a vs):∀n:Nat,TrL Hf (B0l a n) (List.replicate n vs).flatten
 | 0=>rfl
 | n+1=>by
  show TrL Hf (List.replicate (n+1) a).flatten (List.replicate (n+1) vs).flatten
  rw[dB,dB,fX,fX];exact t.app (Av5 t n)
def Dj (d:q_):Bool:=d.canLay0&&decide (d.depth<=40)
theorem Mg {d:q_}(h:Dj d=true):Flat d:=by
 obtain⟨h1,h2⟩:=aB.mp h;exact⟨h1,aX h2⟩
def Ug:q_->q_->Bool
 | .str _,.str _=>true
 | _,_=>false
def Cy (neg:Bool)(a b:q_):m6:=if (Dj a&&Dj b)||Ug a b then some (.im (.bool (if neg then !PyData.eqv a b else PyData.eqv a b))) else none
def rEQ:R2:=fun x y H Q=>B2k x y H Q\/rEq x y H Q
def rNE:R2:=fun x y H Q=>B2e x y H Q\/rNe x y H Q
theorem Bn2 (hu:X.A.units+64<cLine):OpR X (compareOp .Eq) rEQ:=OpR.or (Bp2 hu) B0z
theorem B1i (hu:X.A.units+64<cLine):OpR X (compareOp .NotEq) rNE:=OpR.or (Bx5 hu) B0t
theorem V6 (x y:Str):PyData.eqv (.str x) (.str y)=decide (V.str x=V.str y):=by
 show (x==y)=_
 by_cases h:x=y
 ·rw[h];simp
 ·rw[cD.mpr h];simp[h]
theorem Hg:OpS K rEQ (Cy false):=by
 intro Hf H x y dx dy o Q s rx ry e n;unfold Cy at e
 split at e
 ·rename_i l
  cases e
  rcases Bool.or_eq_true_iff.mp l with l | l
  ·obtain⟨l1,l2⟩:=aB.mp l
   exact .inl ⟨dx,dy,rx.tr s,ry.tr s,Mg l1,Mg l2,n.bl s⟩
  ·unfold Ug at l
   split at l
   ·cases (Hs rx)
    cases (Hs ry)
    refine .inr ⟨rfl,?_⟩
    rw[<- V6];exact n.bl s
   ·cases l
 ·cases e
theorem Rn:OpS K rNE (Cy true):=by
 intro Hf H x y dx dy o Q s rx ry e n;unfold Cy at e
 split at e
 ·rename_i l
  cases e
  rcases Bool.or_eq_true_iff.mp l with l | l
  ·obtain⟨l1,l2⟩:=aB.mp l
   exact .inl ⟨dx,dy,rx.tr s,ry.tr s,Mg l1,Mg l2,n.bl s⟩
  ·unfold Ug at l
   split at l
   ·cases (Hs rx)
    cases (Hs ry)
    refine .inr ⟨rfl,?_⟩
    rw[<- V6];exact n.bl s
   ·cases l
 ·cases e
def Jh (neg:Bool)(a b:q_):m6:=match b with
 | .none=>some (.im (.bool (match a with
  | .none=>!neg
  | _=>neg)))
 | _=>none
theorem Be1 {d:q_}{v:V}(h:RdV Hf H d v):decide (v=.non)=(match d with | .none=>true | _=>false):=by
 cases d with
 | none=>cases (Um h);rfl
 | bool b=>cases (Qh h);rfl
 | int i=>cases (El h);rfl
 | str x=>cases (Hs h);rfl
 | list ds=>obtain⟨a,vs,rfl,_⟩:=G4 h;rfl
 | tuple ds=>obtain⟨a,vs,rfl,_⟩:=(show Tr Hf (.tuple ds) v from h);rfl
 | dict k=>exact(show False from h).elim
theorem Ac6:OpS K (fun x y H Q=>y=.non/\Q (.bl (decide (x=.non))) H) (Jh false):=by
 intro Hf H x y dx dy o Q s rx ry e n
 match dy,ry,e with
 | .none,ry,e =>
  refine⟨Um ry,?_⟩
  rw[Be1 rx]
  cases e
  cases dx <;> exact n.bl s
def M4 (neg:Bool):q_->q_->m6
 | d,.list ds=>if Dj d&&PyData.canLayAll0 ds then some (.im (.bool (if neg then !(ds.any fun e=>PyData.eqv e d) else ds.any fun e=>PyData.eqv e d))) else none
 | d,.tuple ds=>if Dj d&&PyData.canLayAll0 ds then some (.im (.bool (if neg then !(ds.any fun e=>PyData.eqv e d) else ds.any fun e=>PyData.eqv e d))) else none
 | .str i,.str j=>if neg then none else some (.im (.bool (!(Builtin.Str.occurrences j i 0 j.length 1).isEmpty)))
 | _,_=>none
theorem Kh:OpS K (A8y true) (M4 true):=by
 intro Hf H x y dx dy o Q s rx ry e n;unfold M4 at e
 split at e
 ·rename_i ds
  have e:(if Dj dx&&PyData.canLayAll0 ds then some (O.im (.bool (!(ds.any fun e=>PyData.eqv e dx)))) else none)=some o:=e
  split at e
  ·rename_i l
   obtain⟨l1,l2⟩:=aB.mp l
   cases e
   exact⟨dx,ds,rx.tr s,.inl (ry.tr s),Mg l1,l2,n.bl s⟩
  ·cases e
 ·rename_i ds
  have e:(if Dj dx&&PyData.canLayAll0 ds then some (O.im (.bool (!(ds.any fun e=>PyData.eqv e dx)))) else none)=some o:=e
  split at e
  ·rename_i l
   obtain⟨l1,l2⟩:=aB.mp l
   cases e
   exact⟨dx,ds,rx.tr s,.inr (ry.tr s),Mg l1,l2,n.bl s⟩
  ·cases e
 ·rename_i i j
  cases e
 ·cases e
theorem A4h {ds:w5}{vs:m7}{i:Int}{d:q_}(t:TrL Hf ds vs)(h:atI ds i=some d):∃v,atI vs i=some v/\Tr Hf d v:=by
 unfold atI at h ⊢;rw[<- t.length];obtain⟨j,h1,h2⟩:=cZ.mp h;obtain⟨v,h3,h4⟩:=t.got h2
 exact⟨v,by rw[h1];exact h3,h4⟩
def cutD (ds:w5)(lo hi:p7):w5:=(ds.drop (HT.sIx ds.length 0 lo)).take (HT.sIx ds.length ds.length hi-HT.sIx ds.length 0 lo)
theorem TrL.drop':∀{ds:w5}{vs:m7}(n:Nat),TrL Hf ds vs->TrL Hf (ds.drop n) (vs.drop n)
 | ds,vs,0,h=>h
 | [],_,n+1,h=>by cases (show _=[] from h);exact rfl
 | d::ds,_,n+1,⟨v,r,rfl,_,t⟩=>TrL.drop' n t
theorem TrL.take':∀{ds:w5}{vs:m7}(n:Nat),TrL Hf ds vs->TrL Hf (ds.take n) (vs.take n)
 | ds,vs,0,h=>by rw[List.take_zero,List.take_zero];exact rfl
 | [],_,n+1,h=>by cases (show _=[] from h);exact rfl
 | d::ds,_,n+1,⟨v,r,rfl,q,t⟩=>⟨v,r.take n,rfl,q,TrL.take' n t⟩
theorem TrL.cut {ds:w5}{vs:m7}{lo hi:p7}(t:TrL Hf ds vs):TrL Hf (cutD ds lo hi) (Ah0 vs lo hi):=by
 unfold cutD Ah0;rw[<- t.length];exact TrL.take' _ (TrL.drop' _ t)
end
section
variable {K:v_}{X:Cx}{Hf H:Hp}{Q:VK}{β:Nat->V}{W W':Wo}{c c':Ev}{σ:St}{v:V}
theorem Bz9 {d:q_}{xs:m7}(h:Bx7 Hf H [d] xs):∃x,xs=[x]/\RdV Hf H d x:=by
 obtain⟨v,r,rfl,h1,h2⟩:=h
 cases (show r=[] from h2)
 exact⟨v,rfl,h1⟩
def Jl:w5->m6
 | [.list ds]=>some (.im (.int ds.length))
 | [.tuple ds]=>some (.im (.int ds.length))
 | [.str z]=>if z.length<=16000000 then some (.im (.int z.length)) else none
 | _=>none
theorem A0u:B0d K (S9 K) Jl:=by
 intro Hf H xs ds o Q s rx e n;unfold Jl at e
 split at e
 ·rename_i ds
  obtain⟨x,rfl,r⟩:=Bz9 rx;obtain⟨a,vs,rfl,h1,t⟩:=G4 r
  cases e
  refine⟨.ref a,vs.length,rfl,Bk1 h1,?_⟩
  rw[<- t.length];exact n.int s
 ·rename_i ds
  obtain⟨x,rfl,r⟩:=Bz9 rx;obtain⟨a,vs,rfl,h1,t⟩:=Im s r
  cases e
  refine⟨.ref a,vs.length,rfl,Bd3 h1,?_⟩
  rw[<- t.length];exact n.int s
 ·rename_i z
  obtain⟨x,rfl,r⟩:=Bz9 rx
  cases (Hs r)
  have e:(if z.length<=16000000 then some (O.im (.int z.length)) else none)=some o:=e
  split at e
  ·rename_i l
   cases e
   refine⟨.str z,z.length,rfl,?_,n.int s⟩
   show (if z.length<=sizeLine then some z.length else none)=_
   rw[if_pos (lim l)]
  ·cases e
 ·cases e
def Bd1 (K:v_):m7->Hp->VK->Prop:=fun xs H Q=>S9 K xs H Q\/Ao7 K xs H Q
theorem A8p:CallR X (.builtin "len") (Bd1 X.K):=CallR.or A2b Ai0
def Ia (f:n8):n8:=fun c=>(f c).bind fun p c=>match nrm p with
 | .o (.sc ns)=>.ok (.o (.im (.int ns.length))) c
 | p=>match Ef c p with
  | some d=>match Jl [d] with
   | some o=>.ok (.o o) c
   | none=>.bad
  | none=>.bad
theorem Hk {t:TE}{f:n8}(h:ME K t f):ME K (tCB (Bd1 K) (Dz t Io)) (Ia f):=by
 intro β W c σ Q R s
 refine h.toV β W c σ _ R (s.bnd.mono fun p c1 s1 v W1 st1 R1 r1=>?_)
 have gen:∀q:PV,RepA K W1.Hf σ q v->((match Ef c1 q with
  | some d=>(match Jl [d] with
   | some o=>.ok (.o o) c1
   | none=>.bad)
  | none=>.bad:U.R PV)).sat (fun p c'=>∀v W' fp,Stp W.S W.Hf W.H (orS W'.S fp) W'.Hf W'.H->Rep K β W' c' σ->Gn K W' σ p v fp->Q v W'.H)->Bd1 K [v] W1.H Q:=fun q r1 s1=>by
  cases ex:Ef c1 q with
  | none=>simp only[ex]at s1;exact s1.elim
  | some d =>
   simp only[ex]at s1
   cases eo:Jl [d] with
   | none=>simp only[eo]at s1;exact s1.elim
   | some o =>
    simp only[eo]at s1
    exact .inl (A0u W1.Hf W1.H [v] [d] o Q R1.sub ⟨v,[],rfl,Gu R1 r1 ex,rfl⟩ eo (New.of R1 fun v W' fp st R' rp=>s1 v W' fp (st1.trans st) R' rp))
 generalize nrm p=q at s1 r1
 match q,r1,s1 with
 | .o (.sc ns),r1,s1 =>
  obtain⟨a,rfl,hs⟩:=r1;have s1:∀v W' fp,Stp W.S W.Hf W.H (orS W'.S fp) W'.Hf W'.H->Rep K β W' c1 σ->Gn K W' σ (.o (.im (.int ns.length))) v fp->Q v W'.H:=s1
  refine .inr ⟨.ref a,ns.length,rfl,?_,(New.of R1 fun v W' fp st R' rp=>s1 v W' fp (st1.trans st) R' rp).int R1.sub⟩
  exact .inl ⟨ns.map V.int,Same.seq R1.sub hs,by rw[ak]⟩
 | .o (.im d),r1,s1=>exact gen (.o (.im d)) r1 s1
 | .o (.ls b d),r1,s1=>exact gen (.o (.ls b d)) r1 s1
 | .o (.ty T),r1,s1=>exact gen (.o (.ty T)) r1 s1
 | .sl i,r1,s1=>exact gen (.sl i) r1 s1
inductive Ty5 where
 | int | str | bool | list | tuple
def Ty5.nm:Ty5->String
 | .int => "int"
 | .str => "str"
 | .bool => "bool"
 | .list => "list"
 | .tuple => "tuple"
def Mm:Ty5->q_->Bool
 | .int,.int _=>true
 | .int,.bool _=>true
 | .str,.str _=>true
 | .bool,.bool _=>true
 | .list,.list _=>true
 | .tuple,.tuple _=>true
 | _,_=>false
def A0c:q_->String
 | .none => "NoneType"
 | .bool _ => "bool"
 | .int _ => "int"
 | .str _ => "str"
 | .list _ => "list"
 | .tuple _ => "tuple"
 | .dict _ => "dict"
theorem Az4 {d:q_}{v:V}(s:Same Hf H)(h:RdV Hf H d v):Ol H v=some (A0c d):=by
 cases d with
 | none=>cases (Um h);rfl
 | bool b=>cases (Qh h);rfl
 | int i=>cases (El h);rfl
 | str x=>cases (Hs h);rfl
 | list ds=>obtain⟨a,vs,rfl,e,_⟩:=G4 h;exact By6 e
 | tuple ds=>obtain⟨a,vs,rfl,e,_⟩:=Im s h;exact Bs6 e
 | dict k=>exact(show False from h).elim
theorem Ar0 {d:q_}{v:V}(h:RdV Hf H d v)(T:Ty5):Fb (A0c d) T.nm=some (Mm T d):=by
 cases d with
 | none=>cases T <;> first | exact Tw | exact Tv | exact Rm | exact Rh | exact Qv
 | bool b=>cases T <;> first | exact Al7 | exact Ag6 | exact Ze | exact Y6 | exact Xj
 | int i=>cases T <;> first | exact Ar9 | exact Ao5 | exact Al8 | exact Ae1 | exact Zf
 | str x=>cases T <;> first | exact At0 | exact Ap3 | exact Af1 | exact Ah2 | exact Ac7
 | list ds=>cases T <;> first | exact Ah3 | exact Ag4 | exact Ad1 | exact Ab7 | exact Xd
 | tuple ds=>cases T <;> first | exact Ad5 | exact Y5 | exact Xf | exact Xk | exact V8
 | dict k=>exact(show False from h).elim
def cUn (op:q_->m6)(f:n8):n8:=fun c=>(f c).bind fun p c=>match Ef c (nrm p) with
 | some d=>match op d with
  | some o=>.ok (.o o) c
  | none=>.bad
 | none=>.bad
def UnS (K:v_)(r:V->Hp->VK->Prop)(op:q_->m6):Prop:=∀(Hf H:Hp) (x:V) (d:q_) (o:O) (Q:VK),Same Hf H->RdV Hf H d x->op d=some o->New K Hf H o Q->r x H Q
theorem Ay0 {r:V->Hp->VK->Prop}{t:TE}{op:q_->m6}{f:n8}(h:ME K t f)(hr:UnS K r op):ME K (tUn r t) (cUn op f):=by
 intro β W c σ Q R s
 refine h.toV β W c σ _ R (s.bnd.mono fun p c1 s1 v W1 st1 R1 r1=>?_)
 cases ex:Ef c1 (nrm p) with
 | none=>simp only[ex]at s1;exact s1.elim
 | some d =>
  simp only[ex]at s1
  cases eo:op d with
  | none=>simp only[eo]at s1;exact s1.elim
  | some o =>
   simp only[eo]at s1
   exact hr W1.Hf W1.H v d o Q R1.sub (Gu R1 r1 ex) eo (New.of R1 fun v W' fp st R' rp=>s1 v W' fp (st1.trans st) R' rp)
theorem Ba {r:m7->Hp->VK->Prop}{t:TE}{op:q_->m6}{f:n8}(h:ME K t f)(hr:UnS K (fun x H Q=>r [x] H Q) op):ME K (tCB r (Dz t Io)) (cUn op f):=Ay0 h hr
def Ep (T:Ty5)(d:q_):m6:=some (.im (.bool (Mm T d)))
def Pb (T1 T2:Ty5)(d:q_):m6:=some (.im (.bool (Mm T1 d||Mm T2 d)))
theorem Hi {t:TE}{f:n8}(T:Ty5)(h:ME K t f):ME K (tCB (Lr K) (Dz t (Dz (tC (.ty T.nm)) Io))) (cUn (Ep T) f) :=
 Ay0 (r:=fun x H Q=>Lr K [x,.ty T.nm] H Q) h fun Hf H x d o Q s r e n=>by
  cases e
  exact⟨x,T.nm,A0c d,Mm T d,rfl,Az4 s r,Ar0 r T,n.bl s⟩
theorem Bc0 {t:String}{A B:String}{a b:Bool}(h1:Fb t A=some a)(h2:Fb t B=some b):Li t [A,B]=some (a||b):=by
 unfold Li;unfold Li;unfold Li;rw[h1,h2]
 cases a <;> cases b <;> rfl
theorem Bb4 {t:TE}{f:n8}(T1 T2:Ty5)(h:ME K t f):ME K (tCB (Jx K) (Dz t (Dz (Bd4 (Dz (tC (.ty T1.nm)) (Dz (tC (.ty T2.nm)) Io))) Io))) (cUn (Pb T1 T2) f) :=
 Ay0 (r:=fun x H Q=>2<=sizeLine/\∀p,H p=none->Jx K [x,.ref p] (upd H p (.tup [.ty T1.nm,.ty T2.nm])) Q) h fun Hf H x d o Q s r e n=>by
  cases e
  refine⟨by decide,fun p hp=>⟨x,p,[T1.nm,T2.nm],A0c d,Mm T1 d||Mm T2 d,rfl,Bb,?_,Bc0 (Ar0 r T1) (Ar0 r T2),?_⟩⟩
  ·have s2:Same Hf (upd H p (.tup [.ty T1.nm,.ty T2.nm])):=Ud s hp
   refine Az4 (Hf:=Hf) s2 ?_
   cases d with
   | list ds=>obtain⟨a,vs,e,q,t⟩:=r;exact⟨a,vs,e,Bt hp _ _ q,t⟩
   | none=>exact r
   | bool b=>exact r
   | int i=>exact r
   | str z=>exact r
   | tuple ds=>exact r
   | dict k=>exact r
  ·exact n (.bl _) Hf _ [] ((Stp.newL s hp).less fun a z=>nomatch z) (Ud s hp) ⟨rfl,rfl⟩
def boolsOf:w5->Option (List Bool)
 | []=>some []
 | .bool b::r=>(boolsOf r).map (b::·)
 | _=>none
theorem Ay9:∀{ds:w5}{bs:List Bool}{vs:m7},boolsOf ds=some bs->TrL Hf ds vs->vs=bs.map V.bl
 | [],bs,vs,e,t=>by cases (show some []=some bs from e);exact t
 | .bool b::r,bs,_,e,⟨v,vr,rfl,h,t⟩=>by
  obtain⟨l,e1,rfl⟩:=bB.mp (show (boolsOf r).map (b::·)=some bs from e)
  cases (show v=.bl b from h)
  rw[Ay9 e1 t];rfl
 | .none::r,bs,_,e,_=>nomatch e
 | .int _::r,bs,_,e,_=>nomatch e
 | .str _::r,bs,_,e,_=>nomatch e
 | .list _::r,bs,_,e,_=>nomatch e
 | .tuple _::r,bs,_,e,_=>nomatch e
 | .dict _::r,bs,_,e,_=>nomatch e
def Al4:q_->m6
 | .list ds=>(boolsOf ds).map fun bs=>.im (.bool (bs.all id))
 | _=>none
theorem Av8:UnS K (fun x H Q=>M9 K [x] H Q) Al4:=by
 intro Hf H x d o Q s r e n
 match d,r,e with
 | .list ds,r,e =>
  obtain⟨bs,e1,rfl⟩:=bB.mp (show (boolsOf ds).map _=some o from e)
  obtain⟨a,vs,rfl,h1,t⟩:=G4 r
  exact⟨a,bs,rfl,by rw[<- Ay9 e1 t];exact SqL.of h1,n.bl s⟩
def Ng:q_->m6
 | .int i=>some (.im (.int i))
 | .bool b=>some (.im (.int (if b then 1 else 0)))
 | _=>none
theorem Uq:UnS K (fun x H Q=>Nt K [x] H Q) Ng:=by
 intro Hf H x d o Q s r e n
 match d,r,e with
 | .int i,r,e=>cases e;cases (El r);exact .inl ⟨i,rfl,n.int s⟩
 | .bool b,r,e=>cases e;cases (Qh r);exact .inr ⟨b,rfl,n.int s⟩
def A0n:q_->m6
 | .int i=>some (.im (.int (if i<0 then -i else i)))
 | _=>none
theorem A0d:UnS K (fun x H Q=>O7 K [x] H Q) A0n:=by
 intro Hf H x d o Q s r e n
 match d,r,e with
 | .int i,r,e=>cases e;cases (El r);exact⟨i,rfl,n.int s⟩
def Jf:q_->m6
 | .list ds=>some (.ls false ds)
 | .tuple ds=>some (.ls false ds)
 | _=>none
theorem Mr:UnS K (fun x H Q=>Jg K [x] H Q) Jf:=by
 intro Hf H x d o Q s r e n
 match d,r,e with
 | .list ds,r,e =>
  cases e
  obtain⟨a,vs,rfl,h1,t⟩:=G4 r
  exact⟨a,vs,rfl,.inl (SqL.of h1),fun l hl=>n.lst s t hl⟩
 | .tuple ds,r,e =>
  cases e
  obtain⟨a,vs,rfl,h1,t⟩:=Im s r
  exact⟨a,vs,rfl,.inr (SqT.of h1),fun l hl=>n.lst s t hl⟩
def Bs9 (K:v_):m7->Hp->VK->Prop:=fun xs H Q=>(V1 K xs H Q\/Am1 K xs H Q)\/Tg K xs H Q
def isSeq:q_->Bool
 | .list _=>true
 | .tuple _=>true
 | _=>false
def Ou:q_->m6
 | .int i=>if i.natAbs.log2<1920 then some (.im (.str (toString i))) else none
 | .none=>some (.im (.str "None"))
 | .bool b=>some (.im (.str (if b then Str.ofString "True" else Str.ofString "False")))
 | .str x=>some (.im (.str x))
 | d=>if isSeq d&&(d.showable&&(!d.hasDict&&(decide (d.depth<=40)&&decide (d.shown.length<=sizeLine)))) then some (.im (.str d.shown)) else none
theorem Zy:UnS K (fun x H Q=>Bs9 K [x] H Q) Ou:=by
 intro Hf H x d o Q s r e n
 have sq:∀d,RdV Hf H d x->(isSeq d=true->∃a,x=.ref a)->(if isSeq d&&(d.showable&&(!d.hasDict&&(decide (d.depth<=40)&&decide (d.shown.length<=sizeLine)))) then some (O.im (.str d.shown)) else none)=some o->Bs9 K [x] H Q:=fun d r hx e=>by
  split at e
  ·rename_i l
   simp only[cL,gW,Bool.not_eq_true']at l
   cases e
   obtain⟨a,rfl⟩:=hx l.1;exact .inl (.inr ⟨a,d,rfl,r.tr s,l.2.1,l.2.2.1,l.2.2.2.1,l.2.2.2.2,n.str s⟩)
  ·cases e
 match d,r,e with
 | .int i,r,e =>
  have e:(if i.natAbs.log2<1920 then some (O.im (.str (toString i))) else none)=some o:=e
  split at e
  ·rename_i l
   cases e;cases (El r);exact .inl (.inl ⟨i,rfl,l,n.str s⟩)
  ·cases e
 | .list ds,r,e=>exact sq _ r (fun _=>by obtain⟨b,vs,e,_⟩:=G4 r;exact⟨b,e⟩) e
 | .tuple ds,r,e=>exact sq _ r (fun _=>by obtain⟨b,vs,e,_⟩:=Im s r;exact⟨b,e⟩) e
 | .none,r,e=>cases e;cases Um r;exact .inr ⟨_,_,rfl,rfl,n.str s⟩
 | .bool b,r,e=>cases e;cases Qh r;exact .inr ⟨_,_,rfl,rfl,n.str s⟩
 | .str z,r,e=>cases e;cases Hs r;exact .inr ⟨_,_,rfl,rfl,n.str s⟩
 | .dict _,r,e=>exact sq _ r (fun z=>nomatch z) e
def Aq9:q_->q_->m6
 | .int i,.int j=>some (.im (.int (if j<i then j else i)))
 | _,_=>none
theorem Bb2 {ta tb:TE}{fa fb:n8}(ha:ME K ta fa)(hb:ME K tb fb):ME K (tCB (Ju K) (Dz ta (Dz tb Io))) (cOp Aq9 fa fb) :=
 An (r:=fun x y H Q=>Ju K [x,y] H Q) ha hb fun Hf H x y dx dy o Q s rx ry e n=>by
  match dx,dy,rx,ry,e with
  | .int i,.int j,rx,ry,e=>cases e;cases (El rx);cases (El ry);exact⟨i,j,rfl,n.int s⟩
def MO (K:v_)(T:TO)(f:Ev->R (p7)):Prop:=∀(β:Nat->V) (W:Wo) (c:Ev) (σ:St) (Q:p7->Hp->Prop),Rep K β W c σ ->
 (f c).sat (fun b c'=>∀W',Stp W.S W.Hf W.H W'.S W'.Hf W'.H->Rep K β W' c' σ->Q b W'.H)->T σ W.H Q
def cON:Ev->R (p7):=fun c=>.ok none c
theorem T5:MO K Zq cON:=fun β W c σ Q R s=>s W Stp.refl R
def cOS (f:n8):Ev->R (p7):=fun c=>(f c).bind fun p c=>match Ef c (nrm p) with
 | some (.int i)=>.ok (some i) c
 | _=>.bad
theorem Ue {t:TE}{f:n8}(h:ME K t f):MO K (A4t t) (cOS f):=by
 intro β W c σ Q R s
 refine h.toV β W c σ _ R (s.bnd.mono fun p c1 s1 v W1 st1 R1 r1=>?_)
 match ex:Ef c1 (nrm p),s1 with
 | some (.int i),s1=>exact⟨i,El (Gu R1 r1 ex),s1 W1 st1 R1⟩
 | some .none,s1=>exact s1.elim
 | some (.bool _),s1=>exact s1.elim
 | some (.str _),s1=>exact s1.elim
 | some (.list _),s1=>exact s1.elim
 | some (.tuple _),s1=>exact s1.elim
 | some (.dict _),s1=>exact s1.elim
 | none,s1=>exact s1.elim
def SlS (K:v_)(r:V->p7->p7->Hp->VK->Prop)(op:q_->p7->p7->m6):Prop:=∀(Hf H:Hp) (x:V) (lo hi:p7) (d:q_) (o:O) (Q:VK),Same Hf H->RdV Hf H d x->op d lo hi=some o->New K Hf H o Q->r x lo hi H Q
def cSl (op:q_->p7->p7->m6)(f:n8)(fl fh:Ev->R (p7)):n8:=fun c=>(f c).bind fun p c=>(fl c).bind fun lo c=>(fh c).bind fun hi c=>match Ef c (nrm p) with
 | some d=>match op d lo hi with
  | some o=>.ok (.o o) c
  | none=>.bad
 | none=>.bad
theorem A0k {r:V->p7->p7->Hp->VK->Prop}{op:q_->p7->p7->m6}{te:TE}{tl th:TO}{f:n8}{fl fh:Ev->R (p7)}(h:ME K te f)(hl:MO K tl fl)(hh:MO K th fh)(hr:SlS K r op):ME K (tSl r te tl th) (cSl op f fl fh):=by
 intro β W c σ Q R s
 refine h.toV β W c σ _ R (s.bnd.mono fun p c1 s1 v W1 st1 R1 r1=>?_)
 refine hl β W1 c1 σ _ R1 (s1.bnd.mono fun lo c2 s2 W2 st2 R2=>?_)
 refine hh β W2 c2 σ _ R2 (s2.bnd.mono fun hi c3 s3 W3 st3 R3=>?_)
 cases ex:Ef c3 (nrm p) with
 | none=>simp only[ex]at s3;exact s3.elim
 | some d =>
  simp only[ex]at s3
  cases eo:op d lo hi with
  | none=>simp only[eo]at s3;exact s3.elim
  | some o =>
   simp only[eo]at s3
   exact hr W3.Hf W3.H v lo hi d o Q R3.sub (Gu R3 (RepA.same (st2.trans st3).fz r1) ex) eo (New.of R3 fun v W' fp st R' rp=>s3 v W' fp (st1.trans (st2.trans (st3.trans st))) R' rp)
end
section
variable {K:v_}{X:Cx}{Hf H:Hp}{Q:VK}{β:Nat->V}{W W':Wo}{c c':Ev}{σ:St}{v:V}
def rSL (K:v_):V->p7->p7->Hp->VK->Prop:=fun x lo hi H Q=>(B0b K x lo hi H Q\/(B0f K x lo hi H Q\/Bm4 K x lo hi H Q))\/B0s x lo hi H Q
theorem Bw6:SlR X (rSL X.K):=SlR.or (SlR.or Bk3 (SlR.or Bq7 Bl3)) Br3
def Xc:q_->p7->p7->m6
 | .list ds,lo,hi=>some (.ls false (cutD ds lo hi))
 | .tuple ds,lo,hi=>some (.im (.tuple (cutD ds lo hi)))
 | .str z,lo,hi=>if z.length<=16000000 then some (.im (.str (Txt.slice z lo hi))) else none
 | _,_,_=>none
theorem Up:SlS K (rSL K) Xc:=by
 intro Hf H x lo hi d o Q s r e n
 match d,r,e with
 | .list ds,r,e =>
  cases e
  obtain⟨a,vs,rfl,h1,t⟩:=G4 r
  exact .inl (.inl ⟨a,vs,rfl,SqL.of h1,fun p hp=>n.lst s (TrL.cut t) hp⟩)
 | .str z,r,e =>
  by_cases hz:z.length<=16000000
  ·rw[show Xc (.str z) lo hi=some (.im (.str (Txt.slice z lo hi))) by simp only[Xc];rw[if_pos hz]]at e
   cases e
   exact .inr ⟨z,r,au hz (by decide),n.same s rfl⟩
  ·rw[show Xc (.str z) lo hi=none by simp only[Xc];rw[if_neg hz]]at e;cases e
 | .tuple ds,r,e =>
  cases e
  obtain⟨a,vs,rfl,h1,t⟩:=Im s r
  by_cases w:HT.sIx vs.length 0 lo=0/\HT.sIx vs.length vs.length hi=vs.length
  ·refine .inl (.inr (.inr ⟨a,vs,rfl,SqT.of h1,w,?_⟩))
   have e:cutD ds lo hi=ds:=by
    unfold cutD;rw[t.length,w.1,w.2,gn,dU,<- t.length,gw]
   rw[e]at n;exact n.same s r
  ·exact .inl (.inr (.inl ⟨a,vs,rfl,SqT.of h1,w,fun p hp=>n.tup s (TrL.cut t) hp⟩))
def Bs (f:n8):n6:=fun c=>(f c).bind fun p c=>match Ef c (nrm p) with
 | some (.bool b)=>.ok b c
 | _=>.bad
theorem Bu {t:TE}{f:n8}(h:ME K t f):MT K (Km t) (Bs f):=by
 intro β W c σ Q R s
 refine h.toV β W c σ _ R (s.bnd.mono fun p c1 s1 v W1 st1 R1 r1=>?_)
 match ex:Ef c1 (nrm p),s1 with
 | some (.bool i),s1=>exact⟨i,Qh (Gu R1 r1 ex),s1 W1 st1 R1⟩
 | some .none,s1=>exact s1.elim
 | some (.int _),s1=>exact s1.elim
 | some (.str _),s1=>exact s1.elim
 | some (.list _),s1=>exact s1.elim
 | some (.tuple _),s1=>exact s1.elim
 | some (.dict _),s1=>exact s1.elim
 | none,s1=>exact s1.elim
theorem Zg {t:TE}{f:n8}(h:ME K t f):MT K (tB t) (Bs f):=Bu h
def Bd:n6:=fun c=>.ok true c
theorem Fi:MT K Bw4 Bd:=fun β W c σ Q R s=>s W Stp.refl R
def Bh5 (f g:n6):n6:=fun c=>(f c).bind fun b c=>if b=true then g c else .ok false c
def cOr (f g:n6):n6:=fun c=>(f c).bind fun b c=>if b=true then .ok true c else g c
def A7z (f:n6):n6:=fun c=>(f c).bind fun b c=>.ok (!b) c
theorem Bs4 {t u:TT}{f g:n6}(h1:MT K t f)(h2:MT K u g):MT K (Bs7 t u) (Bh5 f g):=fun β W c σ Q R s =>
 h1 β W c σ _ R (s.bnd.mono fun b c1 s1 W1 st1 R1=>by
  cases b with
  | true=>exact h2 β W1 c1 σ _ R1 (s1.mono fun b c2 s2 W2 st2 R2=>s2 W2 (st1.trans st2) R2)
  | false=>exact s1 W1 st1 R1)
theorem Aw6 {t u:TT}{f g:n6}(h1:MT K t f)(h2:MT K u g):MT K (tOr t u) (cOr f g):=fun β W c σ Q R s =>
 h1 β W c σ _ R (s.bnd.mono fun b c1 s1 W1 st1 R1=>by
  cases b with
  | false=>exact h2 β W1 c1 σ _ R1 (s1.mono fun b c2 s2 W2 st2 R2=>s2 W2 (st1.trans st2) R2)
  | true=>exact s1 W1 st1 R1)
theorem An8 {t:TT}{f:n6}(h1:MT K t f):MT K (Bx6 t) (A7z f):=fun β W c σ Q R s =>
 h1 β W c σ _ R (s.bnd.mono fun b c1 s1 W1 st1 R1=>s1 W1 st1 R1)
theorem Ay5 {b:Bool}{W0:Wo}(R:Rep K β W c σ)(st:Stp W0.S W0.Hf W0.H W.S W.Hf W.H)(s:∀v W' fp,Stp W0.S W0.Hf W0.H (orS W'.S fp) W'.Hf W'.H->Rep K β W' c σ->Gn K W' σ (.o (.im (.bool b))) v fp->Q v W'.H):Q (.bl b) W.H :=
 R.here (o:=.im (.bool b)) (v:=.bl b) rfl rfl fun v W' fp st2 R' r=>s v W' fp (st.trans st2) R' r
def Vr (f g:n8):n8:=fun c=>(Bs f c).bind fun b c=>if b=true then g c else .ok (.o (.im (.bool false))) c
def A6l (f:n8):n8:=fun c=>(Bs f c).bind fun b c=>.ok (.o (.im (.bool (!b)))) c
def Bz3 (ft:n6)(f g:n8):n8:=fun c=>(ft c).bind fun b c=>if b=true then f c else g c
theorem Wk {r:U.R PV}{W0:Wo}(s:r.sat fun p c'=>∀v W' fp,Stp W0.S W0.Hf W0.H (orS W'.S fp) W'.Hf W'.H->Rep K β W' c' σ->Gn K W' σ p v fp->Q v W'.H)(st:Stp W0.S W0.Hf W0.H W.S W.Hf W.H) :
 r.sat fun p c'=>∀v W' fp,Stp W.S W.Hf W.H (orS W'.S fp) W'.Hf W'.H->Rep K β W' c' σ->Gn K W' σ p v fp->Q v W'.H:=s.mono fun p c k v W' fp st2 R r=>k v W' fp (st.trans st2) R r
theorem Qj {ta tb:TE}{f g:n8}(h1:ME K ta f)(h2:ME K tb g):ME K (A5s ta tb) (Vr f g):=by
 intro β W c σ Q R s
 refine Bu h1 β W c σ (fun b H1=>if b=true then tb σ H1 Q else Q (.bl false) H1) R (s.bnd.mono fun b c1 s1 W1 st1 R1=>?_)
 cases b with
 | true=>exact h2 β W1 c1 σ _ R1 (Wk s1 st1)
 | false=>exact Ay5 R1 st1 s1
theorem Bi9 {ta:TE}{f:n8}(h1:ME K ta f):ME K (A8j ta) (A6l f):=by
 intro β W c σ Q R s
 exact Bu h1 β W c σ (fun b H1=>Q (.bl (!b)) H1) R (s.bnd.mono fun b c1 s1 W1 st1 R1=>Ay5 R1 st1 s1)
theorem Bv5 {tc:TT}{ta tb:TE}{ft:n6}{f g:n8}(ht:MT K tc ft)(h1:ME K ta f)(h2:ME K tb g):ME K (tIf tc ta tb) (Bz3 ft f g):=by
 intro β W c σ Q R s
 refine ht β W c σ _ R (s.bnd.mono fun b c1 s1 W1 st1 R1=>?_)
 cases b with
 | true=>exact h1 β W1 c1 σ _ R1 (Wk s1 st1)
 | false=>exact h2 β W1 c1 σ _ R1 (Wk s1 st1)
def Bg (f:n8):Ev->R (w5):=fun c=>(f c).bind fun p c=>(frz (nrm p) c).bind fun d c=>match d with
 | .list ds=>.ok ds c
 | .tuple ds=>.ok ds c
 | _=>.bad
theorem Bj7 {a:Addr}{vs:m7}{ds:w5}(ha:Hf a=some (.lst vs))(t:TrL Hf ds vs):A1e (Itl K a) Hf ds:=by
 intro i Hf' H s1 s2;have hH:=s2 _ _ (s1 _ _ ha)
 refine⟨fun e=>⟨vs,SqL.of hH,by rw[<- t.length];omega⟩,fun d hd=>?_⟩
 obtain⟨v,hv,tv⟩:=t.got hd
 refine⟨⟨vs,v,SqL.of hH,hv⟩,fun x H' ⟨e,q⟩=>?_⟩
 subst e;have:=q vs (SqL.of hH);rw[hv]at this
 cases this
 exact⟨Hf',Stp.refl,s2,Tr.same s1 tv⟩
theorem Bu4 {a:Addr}{vs:m7}{ds:w5}(ha:Hf a=some (.tup vs))(t:TrL Hf ds vs):A1e (Itt K a) Hf ds:=by
 intro i Hf' H s1 s2;have hH:=s2 _ _ (s1 _ _ ha)
 refine⟨fun e=>⟨vs,SqT.of hH,by rw[<- t.length];omega⟩,fun d hd=>?_⟩
 obtain⟨v,hv,tv⟩:=t.got hd
 refine⟨⟨vs,v,SqT.of hH,hv⟩,fun x H' ⟨e,q⟩=>?_⟩
 subst e;have:=q vs (SqT.of hH);rw[hv]at this
 cases this
 exact⟨Hf',Stp.refl,s2,Tr.same s1 tv⟩
theorem Et {t:TE}{f:n8}(h:ME K t f):MI K (Bp4 K t) (Bg f):=by
 intro β W c σ k R s
 refine h.toV β W c σ _ R (s.bnd.mono fun p c1 s1 v W1 st1 R1 r1=>?_)
 obtain⟨d,c2,W2,_,s2,e2,st2,R2,t2⟩:=Gp R1 r1 s1.bnd;rw[<- e2]
 match d,t2,s2 with
 | .list ds,t2,s2 =>
  obtain⟨a,vs,rfl,h1,t⟩:=t2;exact⟨a,rfl,.inl ⟨vs,R2.sub _ _ h1,s2 _ W2 (st1.trans st2) R2 (Bj7 h1 t)⟩⟩
 | .tuple ds,t2,s2 =>
  obtain⟨a,vs,rfl,h1,t⟩:=t2;exact⟨a,rfl,.inr ⟨vs,R2.sub _ _ h1,s2 _ W2 (st1.trans st2) R2 (Bu4 h1 t)⟩⟩
 | .none,t2,s2=>exact s2.elim
 | .bool _,t2,s2=>exact s2.elim
 | .int _,t2,s2=>exact s2.elim
 | .str _,t2,s2=>exact s2.elim
 | .dict _,t2,s2=>exact s2.elim
def Ka (lo:Int)(n:Nat):w5:=(List.range n).map fun k=>.int (lo+(k:Nat))
theorem Bq9 {lo:Int}{n:Nat}:A1e (Itr lo n) Hf (Ka lo n):=by
 intro i Hf' H s1 s2
 have l:(Ka lo n).length=n:=by unfold Ka;rw[ak,dq]
 refine⟨fun e=>by show n<=i;omega,fun d hd=>?_⟩
 have hi:i<n:=by
  rcases bc i n with q | q
  ·exact q
  ·rw[bU (by omega)]at hd;cases hd
 refine⟨hi,fun x H' ⟨e,q⟩=>?_⟩
 subst e;unfold Ka at hd;rw[bz,j7 hi]at hd
 cases hd
 exact⟨Hf',Stp.refl,s2,q⟩
def My (f:n8):Ev->R (w5):=fun c=>(f c).bind fun p c=>match Ef c (nrm p) with
 | some (.int j)=>if j<=16000000/\-16000000<=j then .ok (Ka 0 j.toNat) c else .bad
 | _=>.bad
theorem Qx {t:TE}{f:n8}(h:ME K t f):MI K (A6n (Dz t Io)) (My f):=by
 intro β W c σ k R s
 refine h.toV β W c σ _ R (s.bnd.mono fun p c1 s1 v W1 st1 R1 r1=>?_)
 match ex:Ef c1 (nrm p),s1 with
 | some (.int j),s1 =>
  cases (El (Gu R1 r1 ex))
  by_cases l:j<=16000000/\-16000000<=j
  ·have s1:(if j<=16000000/\-16000000<=j then U.R.ok (Ka 0 j.toNat) c1 else .bad).sat _:=s1
   rw[if_pos l]at s1
   exact⟨j,rfl,by omega,by omega,s1 _ W1 st1 R1 Bq9⟩
  ·have s1:(if j<=16000000/\-16000000<=j then U.R.ok (Ka 0 j.toNat) c1 else .bad).sat _:=s1
   rw[if_neg l]at s1;exact s1.elim
 | some .none,s1=>exact s1.elim
 | some (.bool _),s1=>exact s1.elim
 | some (.str _),s1=>exact s1.elim
 | some (.list _),s1=>exact s1.elim
 | some (.tuple _),s1=>exact s1.elim
 | some (.dict _),s1=>exact s1.elim
 | none,s1=>exact s1.elim
def Zk (d:Option q_):p7:=match d with
 | some (.int i)=>some i
 | _=>none
theorem Ab0 {d:Option q_}{i:Int}(h:Zk d=some i):d=some (.int i):=by
 unfold Zk at h
 split at h
 ·cases h;rfl
 ·cases h
def Gs:q_->Option (w5)
 | .list ds=>some ds
 | .tuple ds=>some ds
 | _=>none
theorem Vf {d:q_}{ds:w5}{v:V}(h:Gs d=some ds)(t:Tr Hf d v):∃b a vs,v=.ref a/\SqK b Hf a vs/\TrL Hf ds vs:=by
 cases d with
 | list l=>cases h;obtain⟨a,vs,e,h1,t⟩:=t;exact⟨false,a,vs,e,h1,t⟩
 | tuple l=>cases h;obtain⟨a,vs,e,h1,t⟩:=t;exact⟨true,a,vs,e,h1,t⟩
 | none=>cases h
 | bool _=>cases h
 | int _=>cases h
 | str _=>cases h
 | dict _=>cases h
theorem Gw {b:Bool}{a:Addr}{vs:m7}{Hf':Hp}(S:Same Hf Hf')(h:SqK b Hf a vs):SqK b Hf' a vs:=by
 cases b
 ·exact S _ _ h
 ·exact S _ _ h
def Hv (xs ys:w5):w5:=(xs.zip ys).map fun p=>.tuple [p.1,p.2]
theorem Bo3 {t1 t2:Bool}{a b:Addr}{vs us:m7}{xs ys:w5}(ha:SqK t1 Hf a vs)(hb:SqK t2 Hf b us)(t:TrL Hf xs vs)(u:TrL Hf ys us):A1e (Itz t1 t2 a b) Hf (Hv xs ys):=by
 intro i Hf' H s1 s2;have hA:=Gw (s1.trans s2) ha;have hB:=Gw (s1.trans s2) hb
 have l:(Hv xs ys).length=min xs.length ys.length:=by unfold Hv;rw[ak,dD]
 refine⟨fun e=>⟨vs,us,hA,hB,by rw[<- t.length,<- u.length,e,l];exact(Nat.le_total xs.length ys.length).imp (fun q=>Nat.le_min.mpr ⟨aq _,q⟩) fun q=>Nat.le_min.mpr ⟨q,aq _⟩⟩,fun d hd=>?_⟩
 unfold Hv at hd;obtain⟨p,hp,e⟩:=Du hd;obtain⟨x,y⟩:=p;rw[iI]at hp;obtain⟨v1,q1,w1⟩:=t.got hp.1;obtain⟨v2,q2,w2⟩:=u.got hp.2
 refine⟨⟨vs,us,v1,v2,hA,hB,q1,q2⟩,fun z H' hy=>?_⟩
 obtain⟨p,x',y',rfl,hp',rfl,e1,e2⟩:=hy;have:=e1 vs hA;rw[q1]at this;cases this;have:=e2 us hB;rw[q2]at this;cases this;subst e;have sf:=Bt (o:=.tup [v1,v2]) (Same.free s2 hp');exact⟨upd Hf' p (.tup [v1,v2]),Stp.newF s2 hp',Lb s2,p,[v1,v2],rfl,Bb,v1,[v2],rfl,Tr.same sf (Tr.same s1 w1),v2,[],rfl,Tr.same sf (Tr.same s1 w2),rfl⟩
def Bh4 (f g:n8):Ev->R (w5):=fun c=>(f c).bind fun p c=>(g c).bind fun q c=>(frz (nrm p) c).bind fun x c=>(frz (nrm q) c).bind fun y c=>match Gs x,Gs y with
 | some xs,some ys=>.ok (Hv xs ys) c
 | _,_=>.bad
theorem Br5 {t u:TE}{f g:n8}(h:ME K t f)(h':ME K u g):MI K (Bu6 (Dz t (Dz u Io))) (Bh4 f g):=by
 intro β W c σ k R s
 refine h.toV β W c σ _ R (s.bnd.mono fun p c1 s1 v1 W1 st1 R1 r1=>?_)
 refine h'.toV β W1 c1 σ _ R1 (s1.bnd.mono fun q c2 s2 v2 W2 st2 R2 r2=>?_)
 obtain⟨x,c3,W3,_,s3,e3,st3,R3,t3⟩:=Gp R2 (RepA.same st2.fz r1) s2.bnd;obtain⟨y,c4,W4,_,s4,e4,st4,R4,t4⟩:=Gp R3 (RepA.same st3.fz r2) s3.bnd
 cases ex:Gs x with
 | none=>simp only[ex]at s4;exact s4.elim
 | some xs =>
  cases ey:Gs y with
  | none=>simp only[ex,ey]at s4;exact s4.elim
  | some ys =>
   simp only[ex,ey]at s4;obtain⟨t1,a,vs,rfl,h1,q1⟩:=Vf ex t3;obtain⟨t2,b,us,rfl,h2,q2⟩:=Vf ey t4;rw[<- e3,<- e4];have z:=Gw st4.fz h1;exact⟨a,b,rfl,t1,t2,vs,us,Gw R4.sub z,Gw R4.sub h2,s4 _ W4 (st1.trans (st2.trans (st3.trans st4))) R4 (Bo3 z h2 (TrL.same st4.fz q1) q2)⟩
def Ov (xs:w5):w5:=(List.range xs.length).map fun k=>.tuple [.int (k:Nat),xs.getD k .none]
theorem Bc7 {t:Bool}{a:Addr}{vs:m7}{xs:w5}(ha:SqK t Hf a vs)(u:TrL Hf xs vs):A1e (Ite t a) Hf (Ov xs):=by
 intro i Hf' H s1 s2;have hA:=Gw (s1.trans s2) ha
 have l:(Ov xs).length=xs.length:=by unfold Ov;rw[ak,dq]
 refine⟨fun e=>⟨vs,hA,by rw[<- u.length];omega⟩,fun d hd=>?_⟩
 have hi:i<xs.length:=by
  rcases bc i xs.length with q | q
  ·exact q
  ·rw[bU (by omega)]at hd;cases hd
 unfold Ov at hd;rw[bz,j7 hi]at hd
 cases hd
 have hx:xs[i]?=some (xs.getD i .none):=by rw[dF,bj hi];rfl
 obtain⟨v1,q1,w1⟩:=u.got hx
 refine⟨⟨vs,v1,hA,q1⟩,fun z H' hy=>?_⟩
 obtain⟨p,x',rfl,hp',rfl,e1⟩:=hy;have:=e1 vs hA;rw[q1]at this;cases this;have sf:=Bt (o:=.tup [.int i,v1]) (Same.free s2 hp');exact⟨upd Hf' p (.tup [.int i,v1]),Stp.newF s2 hp',Lb s2,p,[.int i,v1],rfl,Bb,.int i,[v1],rfl,rfl,v1,[],rfl,Tr.same sf (Tr.same s1 w1),rfl⟩
def Az3 (f:n8):Ev->R (w5):=fun c=>(f c).bind fun p c=>(frz (nrm p) c).bind fun x c=>match Gs x with
 | some xs=>.ok (Ov xs) c
 | _=>.bad
theorem Bb5 {t:TE}{f:n8}(h:ME K t f):MI K (A7b (Dz t Io)) (Az3 f):=by
 intro β W c σ k R s
 refine h.toV β W c σ _ R (s.bnd.mono fun p c1 s1 v1 W1 st1 R1 r1=>?_)
 obtain⟨x,c3,W3,_,s3,e3,st3,R3,t3⟩:=Gp R1 r1 s1.bnd
 cases ex:Gs x with
 | none=>simp only[ex]at s3;exact s3.elim
 | some xs =>
  simp only[ex]at s3;obtain⟨t1,a,vs,rfl,h1,q1⟩:=Vf ex t3;rw[<- e3];exact⟨a,rfl,t1,vs,Gw R3.sub h1,s3 _ W3 (st1.trans st3) R3 (Bc7 h1 q1)⟩
end
section
variable {K:v_}{X:Cx}{Hf H:Hp}{Q:VK}{β:Nat->V}{W W':Wo}{c c':Ev}{σ:St}{v:V}{p:PV}{fp:v5}{i:Nat}{b:Bool}{ds ds':w5}
theorem By9 (R:Rep K β W c σ)(r:Gn K W σ p v fp):∃W',W'.H=W.H/\Stp (orS W.S fp) W.Hf W.H W'.S W'.Hf W'.H/\Rep K β W' c σ/\RepA K W'.Hf σ (nrm p) v:=by
 have st0:Stp (orS W.S fp) W.Hf W.H W.S W.Hf W.H:=Stp.refl.up fun a z=>.inl z
 cases p with
 | sl i=>exact⟨W,rfl,st0,R,r.2⟩
 | o o =>
  cases o with
  | im d=>exact⟨W,rfl,st0,R,r.1.2⟩
  | sc d=>exact⟨W,rfl,st0,R,r.1.2⟩
  | ty d=>exact⟨W,rfl,st0,R,r.1.2⟩
  | ls b ds =>
   obtain⟨⟨a,vs,rfl,rfl,hf,hH,t⟩,hn⟩:=r;have hn:=hn a (.head _)
   refine⟨⟨upd W.Hf a (.lst vs),W.H,W.fps⟩,rfl,⟨Bt hf,fun b o e _=>e,fun b o e mu n q=>?_,fun b z=>.inl (.inl z)⟩,Z1 R hf hH hn,a,vs,rfl,Bb,TrL.same (Bt hf) t⟩
   have nb:b≠a:=fun z=>n (.inr (by rw[z];exact .head _))
   show upd W.Hf a (.lst vs) b=none
   rw[Ak nb];exact q
theorem Rep.mut (R:Rep K β W c σ)(hc:c[i]?=some (some (.ls b ds)))(hv:σ[i]?=some (some v)):∃a vs,v=.ref a/\W.H a=some (.lst vs)/\TrL W.Hf ds vs /\
 ∀ds' vs',TrL W.Hf ds' vs'->Rep K β ⟨W.Hf,upd W.H a (.lst vs'),W.fps⟩ (c.set i (some (.ls b ds'))) σ/\Stp W.S W.Hf W.H W.S W.Hf (upd W.H a (.lst vs')):=by
 obtain⟨v',e1,⟨a,vs,rfl,ef,hf,hH,t⟩,bb⟩:=R.get i _ hc
 cases (show some (some (V.ref a))=some (some v) from e1.symm.trans hv)
 have hi:i<c.length:=by
  rcases bc i c.length with q | q
  ·exact q
  ·rw[bU q]at hc;cases hc
 have ha:a∈W.fps i:=by rw[ef];exact .head _
 refine⟨a,vs,rfl,hH,t,fun ds' vs' t'=>⟨⟨fun b u e=>?_,by rw[bG];exact R.len,fun j o e=>?_,R.dis,fun j x hx=>?_⟩,⟨Same.refl _,fun x o e n=>?_,fun x o e mu n q=>q,fun x z=>.inl z⟩⟩⟩
 ·have nb:b≠a:=fun z=>by rw[z,hf]at e;cases e
  show upd W.H a _ b=_
  rw[Ak nb];exact R.sub b u e
 ·by_cases z:j=i
  ·subst z
   rw[bZ hi]at e
   cases e
   exact⟨.ref a,e1,⟨a,vs',rfl,ef,hf,Bb,t'⟩,bb⟩
  ·rw[bM (fun y=>z y.symm)]at e
   obtain⟨v',e1',r',bb'⟩:=R.get j o e
   refine⟨v',e1',r'.mono (Same.refl _) fun x hx=>⟨(R.own j x hx).1,?_⟩,bb'⟩
   show upd W.H a _ x=_
   rw[Ak];intro q;rw[q]at hx;exact z (R.dis j i a hx ha)
 ·obtain⟨q1,o,q2,mu⟩:=R.own j x hx
  refine⟨q1,?_⟩
  by_cases z:x=a
  ·exact⟨.lst vs',by rw[z];exact Bb,trivial⟩
  ·exact⟨o,by show upd W.H a _ x=_;rw[Ak z];exact q2,mu⟩
 ·show upd W.H a _ x=_
  rw[Ak]
  ·exact e
  ·intro z;exact n ⟨i,by rw[z];exact ha⟩
def slL (c:Ev)(p:PV):Option (Nat×Bool×w5):=match p with
 | .sl i=>match c[i]? with
  | some (some (.ls b ds))=>some (i,b,ds)
  | _=>none
 | _=>none
theorem Zt {x:Nat×Bool×w5}(h:slL c p=some x):p=.sl x.1/\c[x.1]?=some (some (.ls x.2.1 x.2.2)):=by
 unfold slL at h
 split at h
 ·split at h
  ·cases h;rename_i e;exact⟨rfl,e⟩
  ·cases h
 ·cases h
def T3 (fo fe:n8):n8:=fun c=>(fo c).bind fun p c=>if (slL c (nrm p)).isSome=true then (fe c).bind fun q c=>(frz (nrm q) c).bind fun d c=>match slL c (nrm p) with
 | some (i,b,ds)=>if ds.length<16000000 then .ok (.o (.im .none)) (c.set i (some (.ls b (ds++[d])))) else .bad
 | none=>.bad
 else .bad
theorem A9h {W0:Wo}(R:Rep K β W c σ)(st:Stp W0.S W0.Hf W0.H W.S W.Hf W.H)(s:∀v W' fp,Stp W0.S W0.Hf W0.H (orS W'.S fp) W'.Hf W'.H->Rep K β W' c σ->Gn K W' σ (.o (.im .none)) v fp->Q v W'.H):Q .non W.H :=
 R.here (o:=.im .none) (v:=.non) rfl rfl fun v W' fp st2 R' r=>s v W' fp (st.trans st2) R' r
theorem ty_list (R:Rep K β W c σ)(h:(slL c p).isSome=true)(r:RepA K W.Hf σ p v):tyV K "list" v W.H:=by
 obtain⟨x,hx⟩:=iy.mp h;obtain⟨rfl,hc⟩:=Zt hx;obtain⟨a,vs,rfl,hH,_⟩:=R.mut hc r;exact .inl ⟨rfl,vs,SqL.of hH⟩
theorem Aa0 {to te:TE}{fo fe:n8}(ho:ME K to fo)(he:ME K te fe):ME K (tBM K "list" rAppF to (Dz te Io)) (T3 fo fe):=by
 intro β W c σ Q R s
 refine ho.toV β W c σ _ R (s.bnd.mono fun p c1 s1 v1 W1 st1 R1 r1=>?_)
 by_cases hs:(slL c1 (nrm p)).isSome=true
 ·rw[if_pos hs]at s1
  refine⟨ty_list R1 hs r1,he.toV β W1 c1 σ _ R1 (s1.bnd.mono fun q c2 s2 v2 W2 st2 R2 r2=>?_)⟩
  obtain⟨d,c3,W3,_,s3,e3,st3,R3,t3⟩:=Gp R2 r2 s2.bnd
  cases ex:slL c3 (nrm p) with
  | none=>simp only[ex]at s3;exact s3.elim
  | some x =>
   simp only[ex]at s3;obtain⟨i,b,ds⟩:=x;obtain⟨ep,hc⟩:=Zt ex;rw[ep]at r1;obtain⟨a,vs,rfl,hH,t,k⟩:=R3.mut hc r1
   have s3:(if ds.length<16000000 then U.R.ok (PV.o (.im .none)) (c3.set i (some (.ls b (ds++[d])))) else .bad).sat _:=s3
   by_cases l:ds.length<16000000
   ·rw[if_pos l]at s3
    obtain⟨R4,st4⟩:=k (ds++[d]) (vs++[v2]) (t.app (TrL.one t3));rw[<- e3]
    refine⟨a,v2,vs,rfl,rfl,hH,by rw[<- t.length];exact Nat.lt_trans l (by decide),?_⟩
    exact A9h R4 (st1.trans (st2.trans (st3.trans st4))) s3
   ·rw[if_neg l]at s3;exact s3.elim
 ·rw[if_neg hs]at s1;exact s1.elim
def Oz (fo fe:n8):n8:=fun c=>(fo c).bind fun p c=>if (slL c (nrm p)).isSome=true then (fe c).bind fun q c=>match slL c (nrm p),Zk (Ef c (nrm q)) with
 | some (i,b,ds),some k=>if ds.length<=16000000 then match ixN ds.length k with
  | some j=>match ds[j]? with
   | some d=>.ok (.o (.im d)) (c.set i (some (.ls b (ds.eraseIdx j))))
   | none=>.bad
  | none=>.bad
  else .bad
 | _,_=>.bad
 else .bad
theorem TrL.erase:∀{ds:w5}{vs:m7}(n:Nat),TrL Hf ds vs->TrL Hf (ds.eraseIdx n) (vs.eraseIdx n)
 | [],_,n,h=>by cases (show _=[] from h);exact rfl
 | d::ds,_,0,⟨v,r,rfl,_,t⟩=>t
 | d::ds,_,n+1,⟨v,r,rfl,q,t⟩=>⟨v,r.eraseIdx n,rfl,q,TrL.erase n t⟩
theorem TrL.setAt:∀{ds:w5}{vs:m7}(n:Nat) {d:q_}{v:V},TrL Hf ds vs->Tr Hf d v->TrL Hf (ds.set n d) (vs.set n v)
 | [],_,n,d,v,h,_=>by cases (show _=[] from h);exact rfl
 | e::ds,_,0,d,v,⟨u,r,rfl,_,t⟩,q=>⟨v,r,rfl,q,t⟩
 | e::ds,_,n+1,d,v,⟨u,r,rfl,h,t⟩,q=>⟨u,r.set n v,rfl,h,TrL.setAt n t q⟩
theorem Ag7 {to te:TE}{fo fe:n8}(ho:ME K to fo)(he:ME K te fe):ME K (tBM K "list" rPopAt to (Dz te Io)) (Oz fo fe):=by
 intro β W c σ Q R s
 refine ho.toV β W c σ _ R (s.bnd.mono fun p c1 s1 v1 W1 st1 R1 r1=>?_)
 by_cases hs:(slL c1 (nrm p)).isSome=true
 ·rw[if_pos hs]at s1
  refine⟨ty_list R1 hs r1,he.toV β W1 c1 σ _ R1 (s1.bnd.mono fun q c2 s2 v2 W2 st2 R2 r2=>?_)⟩
  cases ex:slL c2 (nrm p) with
  | none=>simp only[ex]at s2;exact s2.elim
  | some x =>
   obtain⟨i,b,ds⟩:=x
   cases ey:Zk (Ef c2 (nrm q)) with
   | none=>simp only[ex,ey]at s2;exact s2.elim
   | some k =>
    simp only[ex,ey]at s2
    by_cases hl:ds.length<=16000000
    case neg=>rw[if_neg hl]at s2;exact s2.elim
    rw[if_pos hl]at s2
    cases ej:ixN ds.length k with
    | none=>simp only[ej]at s2;exact s2.elim
    | some j =>
     simp only[ej]at s2
     cases ed:ds[j]? with
     | none=>simp only[ed]at s2;exact s2.elim
     | some d =>
      simp only[ed]at s2;obtain⟨ep,hc⟩:=Zt ex;rw[ep]at r1
      cases (El (Gu R2 r2 (Ab0 ey)))
      obtain⟨a,vs,rfl,hH,t,kk⟩:=R2.mut hc r1;obtain⟨y,hy,ty⟩:=t.got ed;obtain⟨q1,q2,q3,q4⟩:=Ab4 ej;obtain⟨R4,st4⟩:=kk (ds.eraseIdx j) (vs.eraseIdx j) (TrL.erase j t)
      have q1':seqIndex? k vs.length=some j:=by rw[<- t.length];exact q1
      have bnd:-(2 ^ 63)<=k/\k<2 ^ 63:=by omega
      refine⟨a,vs,k,j,y,rfl,rfl,hH,bnd.1,bnd.2,q1',hy,?_⟩
      exact R4.here (o:=.im d) (v:=y) ty rfl fun v W' fp st R' r=>s2 v W' fp (st1.trans (st2.trans (st4.trans st))) R' r
 ·rw[if_neg hs]at s1;exact s1.elim
def Au5 (fo fi:n8):o8:=fun p c=>(frz (nrm p) c).bind fun d c=>(fo c).bind fun o c=>(fi c).bind fun q c=>match slL c (nrm o),Zk (Ef c (nrm q)) with
 | some (i,b,ds),some k=>match ixN ds.length k with
  | some j=>.ok () (c.set i (some (.ls b (ds.set j d))))
  | none=>.bad
 | _,_=>.bad
theorem A8w {to ti:TE}{fo fi:n8}(ho:ME K to fo)(hi:ME K ti fi):MG K (Bz6 to ti Bl9) (Au5 fo fi):=by
 intro β W c σ p v fp k R r s;obtain⟨W0,e0,st0,R0,r0⟩:=By9 R r;obtain⟨d,c1,W1,_,s1,e1,st1,R1,t1⟩:=Gp R0 r0 s.bnd;rw[<- e0,<- e1]
 refine ho.toV β W1 c1 σ _ R1 (s1.bnd.mono fun o c2 s2 v2 W2 st2 R2 r2=>?_)
 refine hi.toV β W2 c2 σ _ R2 (s2.bnd.mono fun q c3 s3 v3 W3 st3 R3 r3=>?_)
 have r2:=RepA.same st3.fz r2
 cases ex:slL c3 (nrm o) with
 | none=>simp only[ex]at s3;exact s3.elim
 | some x =>
  obtain⟨i,b,ds⟩:=x
  cases ey:Zk (Ef c3 (nrm q)) with
  | none=>simp only[ex,ey]at s3;exact s3.elim
  | some m =>
   simp only[ex,ey]at s3
   cases ej:ixN ds.length m with
   | none=>simp only[ej]at s3;exact s3.elim
   | some j =>
    simp only[ej]at s3;obtain⟨ep,hc⟩:=Zt ex;rw[ep]at r2
    cases (El (Gu R3 r3 (Ab0 ey)))
    obtain⟨a,vs,rfl,hH,t,kk⟩:=R3.mut hc r2;obtain⟨R4,st4⟩:=kk (ds.set j d) (vs.set j v) (TrL.setAt j t (Tr.same (st2.trans st3).fz t1))
    refine⟨a,vs,m,j,rfl,rfl,hH,by rw[<- t.length];exact ej,?_⟩
    exact s3 σ _ (st0.trans (st1.trans (st2.trans (st3.trans st4)))) R4
theorem B0k {i:Nat}{a:Addr}{W:Wo}(h:Wo.S ⟨W.Hf,W.H,clr W.fps i⟩ a):W.S a:=Bs5 h
end
end U
set_option autoImplicit true
namespace L2
open PySem U
theorem Fo (ha:QE X a ta)(hb:QE X b tb):QE X (.BinOp a .Add b pos) (tOp By8 ta tb):=⟨Vq Bt0 ha.get hb.get⟩
theorem Wc (hu:X.A.units+64<cLine)(ha:QE X a ta)(hb:QE X b tb):QE X (.Compare a [.Eq] [b] pos) (tOp rEQ ta tb):=⟨Za (Bn2 hu) ha.get hb.get (O1 _)⟩
theorem V7 (hu:X.A.units+64<cLine)(ha:QE X a ta)(hb:QE X b tb):QT X (.Compare a [.Eq] [b] pos) (Km (tOp rEQ ta tb)):=⟨Mh (Bn2 hu) ha.get hb.get (O1 _)⟩
theorem Ys (hu:X.A.units+64<cLine)(ha:QE X a ta)(hb:QE X b tb):QT X (.Compare a [.NotEq] [b] pos) (Km (tOp rNE ta tb)):=⟨Mh (B1i hu) ha.get hb.get (O1 _)⟩
theorem Hh {Kq:v_}(hKq:X.K=Kq)(hgl:Gl X "len") (hm:X.mg "len" = none) (ha:QA X (e::es) t) (hns:noStar (e::es)=true:=by rfl):QE X (.Call (.Name "len" p) (e::es) [] pos) (tCB (Bd1 Kq) t):=by
 subst hKq
 exact⟨Jc A8p hgl hm Bo4 ha.get (by decide) (by decide) hns⟩
theorem An6 {Kq:v_}(hKq:X.K=Kq)(hu:X.A.units+64<cLine)(hg:X.A.guards=some [])(hgl:Gl X "str") (hm:X.mg "str" = none) (ha:QA X (e::es) t) (hns:noStar (e::es)=true:=by rfl):QE X (.Call (.Name "str" p) (e::es) [] pos) (tCB (Bs9 Kq) t):=by
 subst hKq
 exact⟨Lx (U.CallR.or (U.CallR.or Zc (A2n hu hg)) A3h) hgl hm Ra ha.get (by decide) (by decide) hns⟩
theorem Au3 {Kq:v_}(hKq:X.K=Kq)(he:QE X e te)(hl:QO X low tl)(hu:QO X hi th):QE X (.Subscript e (.Slice low hi none p2) pos) (tSl (rSL Kq) te tl th):=by
 subst hKq;exact A5i Bw6 he hl hu
end L2
namespace U
open PySem L2
def Def (P:t6)(w:World)(K:v_)(mg:x_)(base:Heap)(x:Str)(k:Nat)(ps:v4)(sp:Sp):Prop :=
 ∃(f:Addr) (fd:u_),FnOk P w K mg base CX0 k f fd ps sp/\Binds K fd ps []/\PySem.W.keepIn K (.ref f)=true/\mg x=some (.ref f)
def At9 (K:v_):Sp:=fun vs H Q _=>∃(a:Addr) (ns:List Int),vs=[.ref a]/\SqL K H a (ns.map V.int)/\ns.length<=63/\∀H',Q (.bl true) H'
theorem Bu5 {K:v_}{F:n_}(hF:∀ns:List Int,ns.length<=63->F [.sc ns]=.ret (.im (.bool true)) [.sc ns]){vs:m7}{H:Hp}{Q:VK}{E:XK}(h:At9 K vs H Q E):spP K F vs H Q E:=by
 obtain⟨a,ns,rfl,hs,hl,q⟩:=h
 refine⟨fun _=>.non,⟨H,H,fun _=>[]⟩,[.sc ns],rfl,rfl,⟨Same.refl _,rfl,fun i o e=>?_,(fun i j a h=>by cases h),fun i a h=>by cases h⟩,?_⟩
 ·cases i with
  | zero =>
   cases (show some (some (O.sc ns))=some (some o) from e)
   exact⟨.ref a,rfl,⟨rfl,a,rfl,hs⟩,fun z=>nomatch z⟩
  | succ i=>simp at e
 ·rw[hF ns hl]
  intro v W' fp st R r n
  cases (show v=.bl true from r.2)
  exact q _
theorem A4o {P:t6}{w:World}{K:v_}{mg:x_}{base:Heap}{f:Addr}{fd:u_}{ps:v4}{n:Nat}:FnOk P w K mg base CX0 n f fd ps (spP K fun _=>.bad) :=
 ⟨fun vs H Q E h=>by obtain⟨_,_,_,_,_,_,h⟩:=h;exact h.elim,fun A outer s H args us vs Q E _ _ _ _ h=>by obtain⟨_,_,_,_,_,_,h⟩:=h;exact h.elim⟩
def A0f (i j:Int):Bool:=decide (0<j)&&decide (j<1073741824)
theorem A9j (i j:Int)(h:A0f i j=true):A5o i j:=by
 obtain⟨h1,h2⟩:=aB.mp h;exact⟨aX h1,aX h2⟩
def A5v (i j:Int):Bool:=decide (0<j)
theorem A6k (i j:Int)(h:A5v i j=true):0<j:=aX h
def Ak2 (i j:Int):Bool:=decide (0<=j)&&(decide (j<=1000000)&&decide (i.natAbs<2 ^ 64))
theorem A8e (i j:Int)(h:Ak2 i j=true):A8g i j:=by
 obtain⟨h1,h2⟩:=aB.mp h;obtain⟨h2,h3⟩:=aB.mp h2;exact⟨aX h1,aX h2,aX h3⟩
section
variable {K:v_}
abbrev Mq:q_->q_->m6:=Xn fun i j=>.int (i-j)
abbrev Ar4:q_->q_->m6:=Xn fun i j=>.bool (decide (j<i))
abbrev Bs8:q_->q_->m6:=Xn fun i j=>.bool (decide (j<=i))
theorem Og:OpS K (rI0 fun i j=>.int (i-j)) Mq:=Zi fun _ _ _=>rfl
theorem Aq7:OpS K (rI0 fun i j=>.bl (decide (j<i))) Ar4:=Zi fun _ _ _=>rfl
theorem By0:OpS K (rI0 fun i j=>.bl (decide (j<=i))) Bs8:=Zi fun _ _ _=>rfl
abbrev Ac4:q_->q_->m6:=opI A0f fun i j=>i / j
abbrev Jp:q_->q_->m6:=opI A5v fun i j=>i % j
abbrev Ae8:q_->q_->m6:=opI Ak2 fun i j=>i ^ j.toNat
theorem Al2:OpS K (rI A5o fun i j=>.int (i / j)) Ac4:=Ay1 A9j
theorem J1:OpS K (rI (fun _ j=>0<j) fun i j=>.int (i % j)) Jp:=Ay1 A6k
theorem Z6:OpS K (rI A8g fun i j=>.int (i ^ j.toNat)) Ae8:=Ay1 A8e
def Bz4 (fa fb:n8):n8:=fun c=>(fa c).bind fun p c=>(fb c).bind fun q c=>match nrm p,Zk (Ef c (nrm q)) with
 | .o (.sc ns),some k=>match atI ns k with
  | some i=>.ok (.o (.im (.int i))) c
  | none=>.bad
 | _,_=>.bad
theorem Bi1 {ns:List Int}{k i:Int}(h:atI ns k=some i):atI (ns.map V.int) k=some (V.int i):=by
 unfold atI at h ⊢;rw[ak];obtain⟨j,h1,h2⟩:=cZ.mp h;rw[h1]
 show (ns.map V.int)[j]?=_
 rw[bz,h2];rfl
theorem Bw0 {ta tb:TE}{fa fb:n8}(ha:ME K ta fa)(hb:ME K tb fb):ME K (tOp (rIx K) ta tb) (Bz4 fa fb):=by
 intro β W c σ Q R s
 refine ha.toV β W c σ _ R (s.bnd.mono fun p c1 s1 v1 W1 st1 R1 r1=>?_)
 refine hb.toV β W1 c1 σ _ R1 (s1.bnd.mono fun q c2 s2 v2 W2 st2 R2 r2=>?_)
 have r1:=RepA.same st2.fz r1
 cases ey:Zk (Ef c2 (nrm q)) with
 | none =>
  simp only[ey]at s2;generalize nrm p=np at s2
  cases np with
  | sl i=>exact s2.elim
  | o o=>cases o <;> exact s2.elim
 | some k =>
  simp only[ey]at s2;generalize nrm p=np at s2 r1
  match np,r1,s2 with
  | .o (.sc ns),r1,s2 =>
   have s2:(match atI ns k with
    | some i=>U.R.ok (PV.o (.im (.int i))) c2
    | none=>.bad).sat _:=s2
   cases ei:atI ns k with
   | none=>rw[ei]at s2;exact s2.elim
   | some i =>
    rw[ei]at s2;obtain⟨a,rfl,hs⟩:=r1
    cases (El (Gu R2 r2 (Ab0 ey)))
    exact .inl ⟨a,_,k,.int i,rfl,rfl,Same.seq R2.sub hs,Bi1 ei,R2.here (o:=.im (.int i)) (v:=.int i) rfl rfl fun v W' fp st R' r=>s2 v W' fp (st1.trans (st2.trans st)) R' r⟩
  | .o (.im _),r1,s2=>exact s2.elim
  | .o (.ls _ _),r1,s2=>exact s2.elim
  | .o (.ty _),r1,s2=>exact s2.elim
  | .sl _,r1,s2=>exact s2.elim
end
section
variable {P:t6}{w:World}{K:v_}{X:Cx}{Hf H:Hp}{Q:VK}{β:Nat->V}{W W':Wo}{c c':Ev}{σ:St}{v:V}
def cMt (isT:q_->Bool)(op:q_->q_->m6)(fa fb:n8):n8:=fun c=>(fa c).bind fun p c=>match Ef c (nrm p) with
 | some d=>if isT d=true then (fb c).bind fun q c=>match Ef c (nrm p),Ef c (nrm q) with
  | some x,some y=>match op x y with
   | some o=>.ok (.o o) c
   | none=>.bad
  | _,_=>.bad
  else .bad
 | none=>.bad
theorem A6q {T:String}{isT:q_->Bool}{r:V->m7->Hp->VK->Prop}{op:q_->q_->m6}{ta tb:TE}{fa fb:n8}(ha:ME K ta fa)(hb:ME K tb fb)
 (hT:∀(Hf H:Hp) (d:q_) (v:V),isT d=true->Same Hf H->RdV Hf H d v->tyV K T v H) (hr:OpS K (fun x y H Q=>r x [y] H Q) op):ME K (tBM K T r ta (Dz tb Io)) (cMt isT op fa fb):=by
 intro β W c σ Q R s
 refine ha.toV β W c σ _ R ((s.bnd).mono fun p c1 s1 v1 W1 st1 R1 r1=>?_)
 cases ed:Ef c1 (nrm p) with
 | none=>simp only[ed]at s1;exact s1.elim
 | some d =>
  simp only[ed]at s1
  by_cases it:isT d=true
  case neg=>rw[if_neg it]at s1;exact s1.elim
  rw[if_pos it]at s1
  refine⟨hT _ _ d v1 it R1.sub (Gu R1 r1 ed),?_⟩
  refine hb.toV β W1 c1 σ _ R1 ((s1.bnd).mono fun q c2 s2 v2 W2 st2 R2 r2=>?_)
  have r1:=RepA.same st2.fz r1
  cases ex:Ef c2 (nrm p) with
  | none=>simp only[ex]at s2;exact s2.elim
  | some x =>
   cases ey:Ef c2 (nrm q) with
   | none=>simp only[ex,ey]at s2;exact s2.elim
   | some y =>
    simp only[ex,ey]at s2
    cases eo:op x y with
    | none=>simp only[eo]at s2;exact s2.elim
    | some o =>
     simp only[eo]at s2
     exact hr W2.Hf W2.H v1 v2 x y o Q R2.sub (Gu R2 r1 ex) (Gu R2 r2 ey) eo (New.of R2 fun v W' fp st R' rp=>s2 v W' fp (st1.trans (st2.trans st)) R' rp)
def O4:q_->Bool
 | .tuple _=>true
 | _=>false
theorem A5k (Hf H:Hp)(d:q_)(v:V)(h:O4 d=true)(s:Same Hf H)(r:RdV Hf H d v):tyV K "tuple" v H:=by
 cases d with
 | tuple ds =>
  obtain⟨a,vs,rfl,h1,t⟩:=Im s r;exact .inr (.inr (.inr (.inr ⟨rfl,vs,h1⟩)))
 | _=>cases h
def strsOf:w5->Option (v4)
 | []=>some []
 | .str z::ds=>(strsOf ds).map (z::·)
 | _=>none
theorem Ar6:∀{ds:w5}{ss:v4}{vs:m7},strsOf ds=some ss->TrL Hf ds vs->vs=ss.map V.str
 | [],ss,vs,h,t=>by cases h;exact t
 | d::ds,ss,_,h,⟨v,r,rfl,h1,h2⟩=>by
  cases d with
  | str z =>
   have h:(strsOf ds).map (z::·)=some ss:=h
   cases e:strsOf ds with
   | none=>rw[e]at h;cases h
   | some ts =>
    rw[e]at h;cases h
    rw[Ar6 e h2,show v=V.str z from h1];rfl
  | _=>cases h
def Tq (y:Str):v4->Option Nat
 | []=>none
 | x::xs=>if x==y then some 0 else (Tq y xs).map (·+1)
theorem Aw9 {y:Str}:∀{xs:v4}{j:Nat},Tq y xs=some j->xs[j]?=some y/\∀m<j,xs[m]?≠some y
 | [],j,h=>by cases h
 | x::xs,j,h=>by
  unfold Tq at h
  by_cases q:(x==y)=true
  ·rw[if_pos q]at h;cases h
   exact⟨by simpa using q,fun m hm=>absurd hm (Nat.not_lt_zero _)⟩
  ·rw[if_neg q]at h
   cases e:Tq y xs with
   | none=>rw[e]at h;cases h
   | some k =>
    rw[e]at h;cases h;obtain⟨h1,h2⟩:=Aw9 e
    refine⟨by simpa using h1,fun m hm=>?_⟩
    cases m with
    | zero=>simpa using q
    | succ m=>simpa using h2 m (Nat.lt_of_succ_lt_succ hm)
def Lg:q_->q_->m6
 | .tuple ds,.str y=>(strsOf ds).bind fun ss=>(Tq y ss).map fun j=>.im (.int (j:Nat))
 | _,_=>none
theorem Xr:OpS K (fun x y H Q=>Ac3 K x [y] H Q) Lg:=by
 intro Hf H x y dx dy o Q s rx ry e n;unfold Lg at e
 split at e
 ·rename_i ds z
  have e:((strsOf ds).bind fun ss=>(Tq z ss).map fun j=>O.im (.int (j:Nat)))=some o:=e
  obtain⟨a,vs,rfl,h1,t⟩:=Im s rx
  cases es:strsOf ds with
  | none=>rw[es]at e;cases e
  | some ss =>
   rw[es]at e
   have e:((Tq z ss).map fun j=>O.im (.int (j:Nat)))=some o:=e
   cases ei:Tq z ss with
   | none=>rw[ei]at e;cases e
   | some j =>
    rw[ei]at e;cases e
    cases Hs ry
    cases Ar6 es t
    obtain⟨h2,h3⟩:=Aw9 ei;exact⟨a,ss,z,j,rfl,rfl,SqT.of h1,h2,h3,n.int s⟩
 ·cases e
end
section
variable {P:t6}{w:World}{K:v_}{X:Cx}{Hf H:Hp}{Q:VK}{β:Nat->V}{W W':Wo}{c c':Ev}{σ:St}{v:V}
def Bm8 (neg:Bool)(ss:v4):q_->m6
 | .str y=>some (.im (.bool (if neg then !inV (.str y) (ss.map V.str) else inV (.str y) (ss.map V.str))))
 | _=>none
theorem A3l (ss:v4):(ss.map V.str).all Qs=true:=by
 induction ss with
 | nil=>rfl
 | cons a r ih=>rw[aD,List.all_cons,ih];rfl
theorem Bq4 {neg:Bool}{te:TE}{fe:n8}{p:Addr}{ss:v4}(he:ME K te fe)(hp:∀H,SqT K H p (ss.map V.str)):ME K (tOp (rIn K neg) te (tC (.ref p))) (cUn (Bm8 neg ss) fe) :=
 Ay0 (r:=fun x H Q=>rIn K neg x (.ref p) H Q) he fun Hf H x d o Q s r e n=>by
  match d,r,e with
  | .str y,r,e =>
   cases e
   cases Hs r
   exact⟨p,_,rfl,.inr (hp H),rfl,A3l ss,n.bl s⟩
end
end U
namespace L2
open PySem U
theorem A2p {X:Cx}{Kq:v_}(hKq:X.K=Kq){a b:Expr}{ta tb:TE}{pos:Pos}(ha:QE X a ta)(hb:QE X b tb)(hm:behindInMarks .NotIn b=false):QT X (.Compare a [.NotIn] [b] pos) (Km (tOp (rIn Kq true) ta tb)):=by
 subst hKq;exact⟨Mh Aa7 ha.get hb.get hm⟩
end L2
namespace U
open PySem L2 PySem.W
def By5:O->Option q_
 | .im k=>some k
 | .ls false xs=>some (.list xs)
 | _=>none
def W8 (F:n_)(d:q_):Option q_:=match F [.im d] with
 | .ret o _=>By5 o
 | .bad=>none
def Nb (F:n_):w5->Option (w5)
 | []=>some []
 | d::ds=>(W8 F d).bind fun k=>(Nb F ds).map (k::·)
def kdOf:w5->Kd
 | .tuple (.tuple _::_)::_=>.tt
 | .tuple (.list _::_)::_=>.tl
 | .int _::_=>.ii
 | .list _::_=>.ll
 | _=>.ti
def Ao4 (ds ks:w5):Option (w5):=if ds.length<2 then some ds else if ds.length<64&&(ks.all (Mw (kdOf ks))&&ks.all Dj) then (kEv (A1b (kdOf ks) ks) (kas_sort ds.length)).map fun p=>p.toList.map fun i=>ds.getD i .none else none
def Aj8 (F:n_)(fa:n8):n8:=fun c=>(fa c).bind fun p c=>match (Ef c (nrm p)).bind Gs with
 | none=>.bad
 | some ds=>match (Nb F ds).bind (Ao4 ds) with
  | none=>.bad
  | some out=>.ok (.o (.ls false out)) c
section
variable {K:v_}{β:Nat->V}{W W':Wo}{c c':Ev}{σ:St}{Hf H:Hp}
theorem TrL.at_:∀{ds:w5}{vs:m7},TrL Hf ds vs->∀i,Tr Hf (ds.getD i .none) (vs.getD i .non)
 | [],_,h,i=>by cases (show _=[] from h);exact rfl
 | d::ds,_,⟨v,r,e,t,ts⟩,0=>by subst e;exact t
 | d::ds,_,⟨v,r,e,t,ts⟩,i+1=>by subst e;exact TrL.at_ ts i
theorem TrL.pick {ds:w5}{vs:m7}(t:TrL Hf ds vs):∀l:List Nat,TrL Hf (l.map fun i=>ds.getD i .none) (l.map fun i=>vs.getD i .non)
 | []=>rfl
 | i::l=>⟨_,_,rfl,TrL.at_ t i,TrL.pick t l⟩
theorem TrL.len':∀{ds:w5}{vs:m7},TrL Hf ds vs->ds.length=vs.length
 | [],_,h=>by cases (show _=[] from h);rfl
 | d::ds,_,⟨v,r,e,t,ts⟩=>by subst e;rw[aQ,aQ,TrL.len' ts]
theorem A6s {F:n_}{d k:q_}{v:V}{Q:VK}(R:Rep K β W c σ)(t:Tr W.Hf d v)(e1:W8 F d=some k)(h:∀v' W',Stp W.S W.Hf W.H W'.S W'.Hf W'.H->Rep K β W' c σ->Tr W'.Hf k v'->Q v' W'.H):spP K F [v] W.H Q E0:=by
 have ef:∃o as',F [.im d]=.ret o as'/\By5 o=some k:=by
  unfold W8 at e1
  cases q:F [.im d] with
  | bad=>rw[q]at e1;cases e1
  | ret o as'=>rw[q]at e1;exact⟨o,as',rfl,e1⟩
 obtain⟨o,as',ef,eo⟩:=ef
 have en:nrm (.o o)=.o (.im k):=by
  unfold By5 at eo
  split at eo
  ·cases eo;rfl
  ·cases eo;rfl
  ·cases eo
 have ec:S5 F [.o (.im d)] c=.ok (.o o) c:=by
  unfold S5;simp only[Zr,gU,slots,pairsOf,cN,ndB,bV,ef]
  rfl
 refine (Q9 (ps:=[.o (.im d)]) (vs:=[v]) R ⟨v,[],rfl,t,rfl⟩ ?_:spP K F [v] W.H _ E0)
 rw[ec]
 exact fun v1 W1 fp1 st1 R1 rp1=>Bm7 (W:=W) (c':=c) (p:=.o o) (fun v' W' st R' tv=>h v' W' st R' (by rw[en]at tv;exact tv)) v1 W1 fp1 st1 R1 rp1
theorem Ak5 {F:n_}{Q:m7->Hp->Prop}:∀(ds:w5) (vs:m7) (ks kd:w5) (kv:m7) (W:Wo),Rep K β W c σ->TrL W.Hf ds vs->Nb F ds=some ks->TrL W.Hf kd kv ->
 (∀W' kv',Stp W.S W.Hf W.H W'.S W'.Hf W'.H->Rep K β W' c σ->TrL W'.Hf (kd++ks) kv'->Q kv' W'.H)->Av2 (spP K F) vs kv W.H Q
 | [],vs,ks,kd,kv,W,R,t,e,tk,h=>by
  cases (show vs=[] from t)
  cases (show some []=some ks from e)
  exact h W kv Stp.refl R (by rw[cH];exact tk)
 | d::ds,vs,ks,kd,kv,W,R,⟨v,r,ev,t,ts⟩,e,tk,h=>by
  subst ev
  obtain⟨k,e1,e2⟩:=cZ.mp (show (W8 F d).bind (fun k=>(Nb F ds).map (k::·))=some ks from e)
  obtain⟨ks',e3,rfl⟩:=bB.mp e2
  show spP K F [v] W.H (fun kv1 H1=>Av2 (spP K F) r (kv++[kv1]) H1 Q) E0
  refine A6s R t e1 fun v' W' st R' tv=>?_
  refine Ak5 ds r ks' (kd++[k]) (kv++[v']) W' R' (TrL.same st.fz ts) e3 ((TrL.same st.fz tk).app (TrL.one tv)) fun W2 kv' st2 R2 t2=>?_
  exact h W2 kv' (st.trans st2) R2 (by rw[fY]at t2;exact t2)
theorem A8s {F:n_}{f:Addr}{ta:TE}{fa:n8}(ha:ME K ta fa):ME K (Bz0 K f (spP K F) (Dz ta Io) (Dz (tC (.ref f)) Io)) (Aj8 F fa):=by
 intro β W c σ Q R s
 refine ha.toV β W c σ _ R (s.bnd.mono fun p c1 s1 v1 W1 st1 R1 r1=>?_)
 cases ed:(Ef c1 (nrm p)).bind Gs with
 | none=>simp only[ed]at s1;exact s1.elim
 | some ds =>
  simp only[ed]at s1
  cases ek:(Nb F ds).bind (Ao4 ds) with
  | none=>simp only[ek]at s1;exact s1.elim
  | some out =>
   simp only[ek]at s1;obtain⟨d,e1,e2⟩:=cZ.mp ed;obtain⟨ks,k1,k2⟩:=cZ.mp ek;have rv:=Gu R1 r1 e1
   obtain⟨a,vs,rfl,sq,t⟩:∃a vs,v1=.ref a/\(SqL K W1.H a vs\/SqT K W1.H a vs)/\TrL W1.Hf ds vs:=by
    cases d with
    | list xs =>
     cases e2
     obtain⟨a,vs,e,h,t⟩:=G4 rv;exact⟨a,vs,e,.inl (SqL.of h),t⟩
    | tuple xs =>
     cases e2
     obtain⟨a,vs,e,h,t⟩:=Im R1.sub rv;exact⟨a,vs,e,.inr (SqT.of h),t⟩
    | _=>cases e2
   refine⟨a,vs,rfl,rfl,sq,?_⟩
   refine Ak5 ds vs ks [] [] W1 R1 t k1 rfl fun W2 kv st2 R2 t2=>?_
   have t:=TrL.same st2.fz t;have hl:=TrL.len' t
   have fin:∀(ys:w5) (zs:m7),ys=out->TrL W2.Hf ys zs->∀q,W2.H q=none->Q (.ref q) (upd W2.H q (.lst zs)):=fun ys zs e tz q hq=>by
    subst e
    exact New.lst (New.of R2 fun v W' fp st R' rp=>s1 v W' fp (st1.trans (st2.trans st)) R' rp) R2.sub tz hq
   unfold Ao4 at k2
   by_cases h2:ds.length<2
   ·rw[if_pos h2]at k2
    cases k2
    exact .inl ⟨by omega,fin _ _ rfl t⟩
   ·rw[if_neg h2]at k2
    by_cases hb:(decide (ds.length<64)&&(ks.all (Mw (kdOf ks))&&ks.all Dj))=true
    ·rw[if_pos hb]at k2
     obtain⟨b1,b2⟩:=aB.mp hb;obtain⟨b2,b3⟩:=aB.mp b2;have b1:=aX b1;obtain⟨pm,q1,q2⟩:=bB.mp k2
     refine .inr ⟨by omega,by omega,ks,kdOf ks,pm,TrL.same R2.sub t2,b2,fun d hd=>Mg (bN.mp b3 d hd),by rw[<- hl];exact q1,fin _ _ q2 (TrL.pick t _)⟩
    ·rw[if_neg hb]at k2;cases k2
end
end U
namespace U
open PySem L2
section
variable {K:v_}{Hf H:Hp}
def Wq:q_->Bool
 | .list _=>true
 | _=>false
theorem Bq1 (Hf H:Hp)(d:q_)(v:V)(h:Wq d=true)(s:Same Hf H)(r:RdV Hf H d v):tyV K "list" v H:=by
 cases d with
 | list ds =>
  obtain⟨a,vs,rfl,h1,t⟩:=G4 r;exact .inl ⟨rfl,vs,SqL.of h1⟩
 | _=>cases h
end
end U
set_option autoImplicit true
namespace U
open PySem L2
end U
set_option autoImplicit true
namespace L2
open PySem PySem.Spec PyProof.Rows PySem.W
end L2
namespace U
open PySem L2
end U
set_option autoImplicit true
namespace U
open PySem L2
def Qz:q_->q_->m6:=Xn fun i j=>.bool (decide (i<j))
theorem Aw1 {K:v_}:OpS K (rI0 fun i j=>.bl (decide (i<j))) Qz:=Zi fun _ _ _=>rfl
theorem B0h {i j:Int}(l:V0 i j=true):CMul i j:=by
 unfold V0 at l;rw[Bool.or_eq_true_iff,aB,aB]at l
 rcases l with ⟨l1,l2⟩ | ⟨l1,l2⟩
 ·exact .inl ⟨aX l1,aX l2⟩
 ·exact .inr ⟨aX l1,aX l2⟩
def Em:q_->q_->m6:=opI V0 fun i j=>i*j
theorem Hw {K:v_}:OpS K (rI CMul fun i j=>.int (i*j)) Em:=Ay1 fun _ _=>B0h
def Az:q_->m6
 | .list ds=>some (.im (.tuple ds))
 | .tuple ds=>some (.im (.tuple ds))
 | _=>none
theorem Ci {K:v_}:UnS K (fun x H Q=>Ih K [x] H Q) Az:=by
 intro Hf H x d o Q s r e n;unfold Az at e
 split at e
 ·cases e
  obtain⟨a,vs,rfl,h1,t⟩:=G4 r
  exact⟨a,vs,rfl,.inl ⟨SqL.of h1,fun l hl=>n.tup s t hl⟩⟩
 ·cases e
  obtain⟨a,vs,rfl,h1,t⟩:=Im s r;exact⟨a,vs,rfl,.inr ⟨SqT.of h1,n.same s r⟩⟩
 ·cases e
def B1a (K:v_):R2:=fun x y H Q=>Bs0 K x y H Q\/Br1 K x y H Q
def Ay:q_->q_->m6
 | .list ds,.int i=>(atI ds i).map O.im
 | .tuple ds,.int i=>(atI ds i).map O.im
 | _,_=>none
theorem Bp {K:v_}:OpS K (B1a K) Ay:=by
 intro Hf H x y dx dy o Q s rx ry e n;unfold Ay at e
 split at e
 ·obtain⟨d,e1,rfl⟩:=bB.mp e
  obtain⟨a,vs,rfl,h1,t⟩:=G4 rx;obtain⟨v,h2,h3⟩:=A4h t e1;exact .inl ⟨a,vs,_,v,rfl,El ry,SqL.of h1,h2,n.same s h3⟩
 ·obtain⟨d,e1,rfl⟩:=bB.mp e
  obtain⟨a,vs,rfl,h1,t⟩:=Im s rx;obtain⟨v,h2,h3⟩:=A4h t e1;exact .inr ⟨a,vs,_,v,rfl,El ry,SqT.of h1,h2,n.same s h3⟩
 ·cases e
end U
namespace L2
open PySem
section
variable {X:Cx}{a b:Expr}{ta tb:TE}{pos:Pos}
theorem Ce {Kq:v_}(hKq:X.K=Kq)(ha:QE X a ta)(hb:QE X b tb)(hs:Ln b):QE X (.Subscript a b pos) (tOp (U.B1a Kq) ta tb):=by
 subst hKq;exact Bm6 (IxR.or ix_list ix_tup) ha hb hs
end
end L2
namespace U
open PySem L2 PySem.W
section
variable {K:v_}{β:Nat->V}{W W':Wo}{c c':Ev}{σ:St}{Hf H:Hp}
def cFz (f:n8):n8:=fun c=>(f c).bind fun p c=>(frz (nrm p) c).bind fun d c=>.ok (.o (.im d)) c
theorem A7s {t:TE}{f:n8}(h:ME K t f):ME K t (cFz f):=by
 intro β W c σ Q R s
 refine h.toV β W c σ Q R (s.bnd.mono fun p c1 s1 v W1 st1 R1 r1=>?_)
 obtain⟨d,c2,W2,_,s2,e2,st2,R2,t2⟩:=Gp R1 r1 s1.bnd
 have q:=s2 v W2 [] ((st1.trans st2).less fun a z=>z.elim id fun z=>nomatch z) R2 ⟨⟨rfl,t2⟩,fun a z=>nomatch z⟩
 rw[e2]at q;exact q
end
def Ip:q_->Bool
 | .tuple ds=>Fz ds&&PyData.canLayAll0 ds&&decide (PyData.depthAll ds<=6)
 | _=>false
def Oo:w5->w5->q_->Option q_
 | k::ks,d::ds,z=>if PyData.eqv k z=true then some d else Oo ks ds z
 | _,_,_=>none
theorem Gy {k:q_}(h:Ip k=true):Bm9 k/\∃ds,k=.tuple ds:=by
 cases k with
 | tuple ds =>
  obtain⟨h1,h2⟩:=aB.mp (show (Fz ds&&PyData.canLayAll0 ds&&decide (PyData.depthAll ds<=6))=true from h)
  obtain⟨h3,h4⟩:=aB.mp h1;exact⟨⟨h3,h4,jj (aX h2)⟩,ds,rfl⟩
 | _=>cases h
mutual
theorem A9f {H:Hp}:∀{d:q_}{v:V},keyB d=true->Tr H d v->KTr H d v
 | .none,_,_,h=>h
 | .int _,_,_,h=>h
 | .str _,_,_,h=>h
 | .tuple ds,_,k,⟨a,vs,e,ha,t⟩=>⟨a,vs,e,ha,Ay8 k t⟩
theorem Ay8 {H:Hp}:∀{ds:w5}{vs:m7},Fz ds=true->TrL H ds vs->KTrL H ds vs
 | [],_,_,h=>h
 | d::ds,_,k,⟨v,r,e,h,t⟩=>by
  obtain⟨k1,k2⟩:=aB.mp (show (keyB d&&Fz ds)=true from k)
  exact⟨v,r,e,A9f k1 h,Ay8 k2 t⟩
end
theorem An7 {H:Hp}{k:q_}{v:V}(h:Ip k=true)(t:Tr H k v):∃b,v=.ref b/\KAt H k b:=by
 obtain⟨ok,ds,rfl⟩:=Gy h;obtain⟨a,vs,rfl,ha,tl⟩:=t;exact⟨a,rfl,ok,A9f ok.1 ⟨a,vs,rfl,ha,tl⟩⟩
section
variable {K:v_}{β:Nat->V}{W W':Wo}{c c':Ev}{σ:St}{Hf H:Hp}
theorem Ay6:∀{ks ds:w5}{xs:m7}{z d:q_},(∀k∈ks,Ip k=true)->Ip z=true->TrL Hf ds xs->Oo ks ds z=some d->∃v,Js (ks.zip xs) z=some v/\Tr Hf d v
 | [],_,_,_,_,_,_,_,e=>nomatch e
 | _::_,[],_,_,_,_,_,_,e=>nomatch e
 | k::ks,d0::ds,_,z,d,hk,hz,⟨v,r,ev,t,ts⟩,e=>by
  subst ev;have b:=(Gy (hk k bD)).1.1;have b2:=(Gy hz).1.1
  have e:(if PyData.eqv k z=true then some d0 else Oo ks ds z)=some d:=e
  by_cases h:PyData.eqv k z=true
  ·rw[if_pos h]at e
   cases e
   exact⟨v,Mt ((Jw k z b b2).mp h),t⟩
  ·rw[if_neg h]at e
   obtain⟨v',h1,h2⟩:=Ay6 (fun k m=>hk k (bx _ m)) hz ts e
   refine⟨v',?_,h2⟩
   rw[bR,Ji (fun q=>h ((Jw k z b b2).mpr q))];exact h1
end
inductive DE where
 | d (x:q_)
 | l (xs:w5)
def DE.dat:DE->q_
 | .d x=>x
 | .l xs=>.list xs
inductive BR where
 | nx (c:Ev) (ks:w5) (es:List DE)
 | bad
abbrev BF:=Ev->w5->List DE->BR
def Oj (k:q_):w5->Option Nat
 | []=>none
 | x::r=>if PyData.eqv x k=true then some 0 else (Oj k r).map (·+1)
def Cw (d:Nat)(c:Ev):Bool:=match c[d]? with
 | some none=>true
 | _=>false
theorem G7 {d:Nat}{c:Ev}(h:Cw d c=true):c[d]?=some none:=by
 unfold Cw at h
 split at h
 ·assumption
 ·cases h
def R.toB {α:Type}(r:R α)(k:α->Ev->BR):BR:=match r with
 | .ok a c=>k a c
 | .bad=>.bad
def DE1 (Hf H:Hp):DE->V->v5->Prop
 | .d x,v,fp=>fp=[]/\Tr Hf x v
 | .l xs,v,fp=>∃b us,v=.ref b/\fp=[b]/\H b=some (.lst us)/\TrL Hf xs us
def DX (a:Addr)(X:Nat->v5)(b:Addr):Prop:=b=a\/∃j,b∈X j
structure DB (W:Wo) (a:Addr) (ks:w5) (es:List DE) (X:Nat->v5):Prop where
 at_:∃vs,W.H a=some (.dT (ks.zip vs))/\ks.length=vs.length/\es.length=vs.length/\∀j e,es[j]?=some e->∃v,vs[j]?=some v/\DE1 W.Hf W.H e v (X j)
 fr:∀b,DX a X b->W.Hf b=none/\¬ W.S b
 dis:∀i j b,b∈X i->b∈X j->i=j
 na:∀j,a∉X j
 mu:∀b,DX a X b->∃o,W.H b=some o/\Mut (some o)
 out:∀j,es.length<=j->X j=[]
 ky:∀k∈ks,Ip k=true
 nd:ks.Nodup
abbrev orX (S:Addr->Prop)(a:Addr)(X:Nat->v5):Addr->Prop:=fun b=>S b\/DX a X b
def zR (K:v_)(β:Nat->V)(W:Wo)(D:Ends)(d:Nat)(a:Addr)(X:Nat->v5):BR->Prop
 | .nx c' ks' es'=>∀σ' W' X',Stp (orX W.S a X) W.Hf W.H (orX W'.S a X') W'.Hf W'.H->Rep K β W' c' σ'->c'[d]?=some none->σ'[d]?=some (some (.ref a))->DB W' a ks' es' X'->D.nx σ' W'.H
 | .bad=>False
def MB (K:v_)(d:Nat)(T:TS)(F:BF):Prop:=∀(β:Nat->V) (W:Wo) (c:Ev) (σ:St) (D:Ends) (a:Addr) (ks:w5) (es:List DE) (X:Nat->v5),Rep K β W c σ->c[d]?=some none->σ[d]?=some (some (.ref a))->DB W a ks es X ->
 zR K β W D d a X (F c ks es)->T D σ W.H
section
variable {K:v_}{β:Nat->V}{W W' W1:Wo}{c c':Ev}{σ σ':St}{Hf H:Hp}{a:Addr}{ks:w5}{es:List DE}{X X':Nat->v5}{d:Nat}{D:Ends}{fp:v5}
theorem DE1.step {e:DE}{v:V}{fp:v5}{Hf' H':Hp}(h:DE1 Hf H e v fp)(s:Same Hf Hf')(k:∀b∈fp,H' b=H b):DE1 Hf' H' e v fp:=by
 cases e with
 | d x=>exact⟨h.1,Tr.same s h.2⟩
 | l xs =>
  obtain⟨b,us,e1,e2,e3,t⟩:=h
  exact⟨b,us,e1,e2,by rw[k b (by rw[e2];exact .head _)];exact e3,TrL.same s t⟩
theorem DB.step {S2:Addr->Prop}(h:DB W a ks es X)(st:Stp W.S W.Hf W.H S2 W1.Hf W1.H)(hS:∀b,W1.S b->S2 b):DB W1 a ks es X:=by
 have kp:∀b,DX a X b->W1.H b=W.H b:=fun b hb=>by
  obtain⟨o,e,_⟩:=h.mu b hb;rw[e];exact st.kp b o e (h.fr b hb).2
 obtain⟨vs,e1,e2,e3,e4⟩:=h.at_
 refine⟨⟨vs,by rw[kp a (.inl rfl)];exact e1,e2,e3,fun j e ej=>?_⟩,fun b hb=>⟨?_,fun z=>?_⟩,h.dis,h.na,fun b hb=>?_,h.out,h.ky,h.nd⟩
 ·obtain⟨v,f1,f2⟩:=e4 j e ej
  exact⟨v,f1,f2.step st.fz fun b hb=>kp b (.inr ⟨j,hb⟩)⟩
 ·obtain⟨o,e,mu⟩:=h.mu b hb
  exact st.nf b o e mu (h.fr b hb).2 (h.fr b hb).1
 ·obtain⟨o,e,_⟩:=h.mu b hb
  rcases st.fr b (hS b z) with q | q
  ·exact(h.fr b hb).2 q
  ·rw[e]at q;cases q
 ·obtain⟨o,e,mu⟩:=h.mu b hb
  exact⟨o,by rw[kp b hb];exact e,mu⟩
theorem Stp.moreX {S S':Addr->Prop}{Hf' H':Hp}(x:Stp S Hf H S' Hf' H'):Stp (orX S a X) Hf H (orX S' a X) Hf' H':=Stp.more (F:=DX a X) x
theorem zR.step {r:BR}(h:zR K β W D d a X r)(st:Stp (orX W.S a X) W.Hf W.H (orX W1.S a X') W1.Hf W1.H):zR K β W1 D d a X' r:=by
 cases r with
 | nx c ks es=>exact fun σ' W' X2 st2 R hc hs hd=>h σ' W' X2 (st.trans st2) R hc hs hd
 | bad=>exact h
theorem Fq {α:Type}{r:R α}{k:α->Ev->BR}(h:zR K β W D d a X (r.toB k)):r.sat fun x c=>zR K β W D d a X (k x c):=by
 cases r with
 | ok x c=>exact h
 | bad=>exact h
def Ae3 (F G:BF):BF:=fun c ks es=>match F c ks es with
 | .nx c ks es=>G c ks es
 | .bad=>.bad
theorem Ad4 {t u:TS}{F G:BF}(h1:MB K d t F)(h2:MB K d u G):MB K d (A7v t u) (Ae3 F G):=by
 intro β W c σ D a ks es X R hc hs hd l
 refine h1 β W c σ _ a ks es X R hc hs hd ?_
 unfold Ae3 at l
 cases e:F c ks es with
 | bad=>rw[e]at l;exact l.elim
 | nx c1 k1 e1 =>
  rw[e]at l
  exact fun σ1 W1 X1 st R1 hc1 hs1 hd1=>h2 β W1 c1 σ1 D a k1 e1 X1 R1 hc1 hs1 hd1 (zR.step l st)
def GFr (d:Nat)(g:TG):Prop:=∀v σ H k,g v σ H (fun σ' H'=>σ'[d]?=σ[d]?->k σ' H')->g v σ H k
def Bf7 (d:Nat)(g:TGs):Prop:=∀vs σ H k,g vs σ H (fun σ' H'=>σ'[d]?=σ[d]?->k σ' H')->g vs σ H k
theorem Hd {i:Nat}(h:i≠d):GFr d (Mp i):=fun v σ H k q=>q (bM h)
theorem Au0:Bf7 d A3v:=fun vs σ H k q=>⟨q.1,q.2 rfl⟩
def A7m (g:TG):Prop:=∀v σ H k k',g v σ H k->(∀σ' H',k σ' H'->k' σ' H')->g v σ H k'
def Y9 (g:TGs):Prop:=∀vs σ H k k',g vs σ H k->(∀σ' H',k σ' H'->k' σ' H')->g vs σ H k'
theorem Hq {i:Nat}:A7m (Mp i):=fun v σ H k k' h f=>f _ _ h
theorem N7:Y9 A3v:=fun vs σ H k k' h f=>⟨h.1,f _ _ h.2⟩
theorem Vx {t:TG}{u:TGs}(h1:A7m t)(h2:Y9 u):Y9 (Wg t u):=fun vs σ H k k' ⟨v,r,e,q⟩ f=>⟨v,r,e,h1 _ _ _ _ _ q fun σ' H' q=>h2 _ _ _ _ _ q f⟩
theorem Q6 {t:TG}{u:TGs}(h1:GFr d t)(m1:A7m t)(h2:Bf7 d u)(m2:Y9 u):Bf7 d (Wg t u):=fun vs σ H k ⟨v,r,e,q⟩ =>
 ⟨v,r,e,h1 v σ H _ (m1 _ _ _ _ _ q fun σ' H' q e1=>h2 r σ' H' k (m2 _ _ _ _ _ q fun σ2 H2 q e2=>q (e2.trans e1)))⟩
theorem Az8 {n:Nat}{u:TGs}(h:Bf7 d u):GFr d (Ba3 K n u):=fun v σ H k ⟨p,vs,e,s,l,q⟩=>⟨p,vs,e,s,l,h vs σ H k q⟩
def Tp (f:n8)(g:o8):BF:=fun c ks es=>(f c).toB fun p c=>(g p c).toB fun _ c=>if Cw d c=true then .nx c ks es else .bad
theorem As9 {te:TE}{t:TG}{f:n8}{g:o8}(h:ME K te f)(hg:MG K t g)(hf:GFr d t):MB K d (Yz te t) (Tp (d:=d) f g):=by
 intro β W c σ D a ks es X R hc hs hd l
 refine h β W c σ _ R ((Fq l).mono fun p c1 l1 v W1 fp st R1 r1=>hf _ _ _ _ (hg β W1 c1 σ p v fp _ R1 r1 ((Fq l1).mono fun _ c2 l2 σ2 W2 st2 R2 e2=>?_)))
 by_cases z:Cw d c2=true
 ·rw[if_pos z]at l2
  have st3:=st.trans st2
  exact l2 σ2 W2 X st3.moreX R2 (G7 z) (e2.trans hs) (hd.step st3 fun _ z=>z)
 ·rw[if_neg z]at l2;exact l2.elim
def Uu (g:o8)(F:BF):w5->BF
 | [],c,ks,es=>.nx c ks es
 | x::xs,c,ks,es=>(g (.o (.im x)) c).toB fun _ c=>if Cw d c=true then match F c ks es with
  | .nx c ks es=>Uu g F xs c ks es
  | .bad=>.bad
  else .bad
def Xi (fi:Ev->R (w5))(g:o8)(F:BF):BF:=fun c ks es=>(fi c).toB fun ds c=>if Cw d c=true then Uu (d:=d) g F ds c ks es else .bad
theorem Zn {wi:TI}{t:TG}{tb:TS}{fi:Ev->R (w5)}{g:o8}{F:BF}(hi:MI K wi fi)(hg:MG K t g)(hf:GFr d t)(hb:MB K d tb F):MB K d (Bl5 wi t tb) (Xi (d:=d) fi g F):=by
 intro β W c σ D a ks es X R hc hs hd l
 refine hi β W c σ _ R ((Fq l).mono fun ds c1 l1 J W1 st1 R1 it=>?_)
 by_cases z1:Cw d c1=true
 ·rw[if_pos z1]at l1
  have hd1:=hd.step st1 fun _ z=>z
  refine⟨fun i m σ H=>∃W2 c2 k2 e2 X2,W2.H=H/\Rep K β W2 c2 σ/\m=ds.length-i/\i<=ds.length/\Same W1.Hf W2.Hf/\c2[d]?=some none/\σ[d]?=some (some (.ref a))/\DB W2 a k2 e2 X2/\zR K β W2 D d a X2 (Uu (d:=d) g F (ds.drop i) c2 k2 e2),
   ⟨_,W1,c1,ks,es,X,rfl,R1,rfl,aW _,Same.refl _,G7 z1,hs,hd1,zR.step l1 st1.moreX⟩,?_⟩
  rintro i m σ H ⟨W2,c2,k2,e2,X2,rfl,R2,rfl,hle,sm,hc2,hs2,hd2,l2⟩
  obtain⟨hstop,hgo⟩:=it i W2.Hf W2.H sm R2.sub
  by_cases lt:i<ds.length
  ·obtain⟨q1,q2⟩:=hgo ds[i] (bj lt)
   refine .inr ⟨q1,fun σ' H'=>∃W2 c2 k2 e2 X2,W2.H=H'/\Rep K β W2 c2 σ'/\Same W1.Hf W2.Hf/\c2[d]?=some none/\σ'[d]?=some (some (.ref a))/\DB W2 a k2 e2 X2/\zR K β W2 D d a X2 (Uu (d:=d) g F (ds.drop (i+1)) c2 k2 e2),
    fun σ' H' ⟨W3,c3,k3,e3,X3,y1,R3,s3,y2,y3,y4,l3⟩=>⟨ds.length-(i+1),by omega,W3,c3,k3,e3,X3,y1,R3,rfl,by omega,s3,y2,y3,y4,l3⟩,fun x H' hy=>?_⟩
   obtain⟨Hf2,st2,sub2,tx⟩:=q2 x H' hy;have R3:=st2.rep R2 sub2
   have stx:Stp W2.S W2.Hf W2.H (Wo.S ⟨Hf2,H',W2.fps⟩) Hf2 H':=⟨st2.fz,fun a o e _=>st2.kp a o e fun z=>z,fun a o e mu _ q=>st2.nf a o e mu (fun z=>z) q,fun a z=>.inl z⟩
   rw[Ru lt]at l2
   have l2:zR K β W2 D d a X2 ((g (.o (.im ds[i])) c2).toB fun _ c=>if Cw d c=true then match F c k2 e2 with
    | .nx c ks es=>Uu (d:=d) g F (ds.drop (i+1)) c ks es
    | .bad=>.bad
    else .bad):=l2
   refine hf _ _ _ _ (hg β ⟨Hf2,H',W2.fps⟩ c2 σ (.o (.im ds[i])) x [] _ R3 ⟨⟨rfl,tx⟩,fun a z=>nomatch z⟩ ((Fq l2).mono fun _ c3 l3 σ3 W3 st3 R3' es3=>?_))
   have st3:=st3.up (S2:=W2.S) fun a z=>by
    rcases z with z | z
    ·exact z
    ·cases z
   have st23:=stx.trans st3
   by_cases z3:Cw d c3=true
   ·rw[if_pos z3]at l3
    refine hb β W3 c3 σ3 _ a k2 e2 X2 R3' (G7 z3) (es3.trans hs2) (hd2.step st23 fun _ z=>z) ?_
    cases eb:F c3 k2 e2 with
    | bad=>rw[eb]at l3;exact l3.elim
    | nx c4 k4 e4 =>
     rw[eb]at l3
     exact fun σ4 W4 X4 st4 R4 hc4 hs4 hd4=>⟨W4,c4,k4,e4,X4,rfl,R4,sm.trans (st23.fz.trans st4.fz),hc4,hs4,hd4,zR.step l3 (st23.moreX.trans st4)⟩
   ·rw[if_neg z3]at l3;exact l3.elim
  ·have e:i=ds.length:=by omega
   subst e;rw[j6]at l2;exact .inl ⟨hstop rfl,l2 σ W2 X2 Stp.refl R2 hc2 hs2 hd2⟩
 ·rw[if_neg z1]at l1;exact l1.elim
end
theorem Oc {k:q_}(hk:Ip k=true):∀{ks:w5}{vs:m7}{j:Nat},(∀x∈ks,Ip x=true)->ks.length=vs.length->Oj k ks=some j->ks[j]?=some k/\Js (ks.zip vs) k=vs[j]?
 | [],_,_,_,_,e=>nomatch e
 | x::ks,[],_,_,l,_=>nomatch l
 | x::ks,v::vs,j,hx,l,e=>by
  have b:=(Gy (hx x bD)).1.1;have b2:=(Gy hk).1.1
  have e:(if PyData.eqv x k=true then some 0 else (Oj k ks).map (·+1))=some j:=e
  by_cases h:PyData.eqv x k=true
  ·rw[if_pos h]at e;cases e
   have:=(Jw x k b b2).mp h;subst this;exact⟨rfl,Mt rfl⟩
  ·rw[if_neg h]at e
   obtain⟨i,e1,rfl⟩:=bB.mp e
   obtain⟨q1,q2⟩:=Oc hk (vs:=vs) (fun y hy=>hx y (bx _ hy)) (gA l) e1
   refine⟨by simpa using q1,?_⟩
   rw[bR,Ji (fun q=>h ((Jw x k b b2).mpr q)),q2];rfl
theorem Kw {k:q_}(hk:Ip k=true):∀{ks:w5}{vs:m7},(∀x∈ks,Ip x=true)->Oj k ks=none->k∉ks/\Js (ks.zip vs) k=none
 | [],vs,_,_=>⟨(fun h=>nomatch h),rfl⟩
 | x::ks,vs,hx,e=>by
  have b:=(Gy (hx x bD)).1.1;have b2:=(Gy hk).1.1
  have e:(if PyData.eqv x k=true then some 0 else (Oj k ks).map (·+1))=none:=e
  by_cases h:PyData.eqv x k=true
  ·rw[if_pos h]at e;cases e
  ·rw[if_neg h]at e
   have e1:Oj k ks=none:=by
    cases q:Oj k ks with
    | none=>rfl
    | some i=>rw[q]at e;cases e
   have ne:x≠k:=fun q=>h ((Jw x k b b2).mpr q)
   refine⟨fun m=>?_,?_⟩
   ·rcases az.mp m with m | m
    ·exact ne m.symm
    ·exact(Kw (vs:=[]) hk (fun y hy=>hx y (bx _ hy)) e1).1 m
   ·cases vs with
    | nil=>rfl
    | cons v vs =>
     rw[bR,Ji ne]
     exact(Kw hk (fun y hy=>hx y (bx _ hy)) e1).2
theorem Az9 {k:q_}{v:V}:∀{ks:w5}{vs:m7},k∉ks->(ks.zip vs).map (fun kv=>if kv.1=k then (kv.1,v) else kv)=ks.zip vs
 | [],_,_=>rfl
 | _::_,[],_=>rfl
 | x::ks,u::vs,h=>by
  have ne:x≠k:=fun q=>h (q▸bD)
  rw[bR,aD,Az9 fun m=>h (bx _ m)]
  simp[ne]
theorem A5n {k:q_}{v:V}:∀{ks:w5}{vs:m7}{j:Nat},ks.Nodup->ks[j]?=some k->(ks.zip vs).map (fun kv=>if kv.1=k then (kv.1,v) else kv)=ks.zip (vs.set j v)
 | [],_,_,_,e=>by simp at e
 | _::_,[],_,_,_=>rfl
 | x::ks,u::vs,0,nd,e=>by
  cases (show some x=some k from e)
  rw[bR,aD,Az9 (bQ.mp nd).1]
  simp
 | x::ks,u::vs,j+1,nd,e=>by
  have e:ks[j]?=some k:=by simpa using e
  have ne:x≠k:=fun q=>(bQ.mp nd).1 (q▸bH e)
  rw[bR,aD,A5n (bQ.mp nd).2 e]
  simp[ne]
theorem Bc1 {ks:w5}{vs:m7}{j:Nat}{k:q_}{v u:V}(nd:ks.Nodup)(e:ks[j]?=some k)(hv:Js (ks.zip vs) k=some u):putK (ks.zip vs) k v=ks.zip (vs.set j v):=by
 unfold putK
 rw[Q7,hv,if_pos (by rfl),A5n nd e]
theorem A4l {ks:w5}{vs:m7}{k:q_}{v:V}(hl:ks.length=vs.length)(hv:Js (ks.zip vs) k=none):putK (ks.zip vs) k v=(ks++[k]).zip (vs++[v]):=by
 unfold putK
 rw[Q7,hv,if_neg (by intro q;cases q),List.zip_append hl];rfl
section
variable {K:v_}{β:Nat->V}{W W' W1:Wo}{c c':Ev}{σ σ':St}{Hf H:Hp}{a:Addr}{ks:w5}{es:List DE}{X X':Nat->v5}{d:Nat}{D:Ends}{fp:v5}
theorem Wb (R:Rep K β W c σ)(hd:DB W a ks es X){H':Hp}(hH:∀b,H' b=W.H b\/DX a X b\/W.H b=none)(hX:∀b,DX a X' b->DX a X b\/W.H b=none) :
 Rep K β ⟨W.Hf,H',W.fps⟩ c σ/\Stp (orX W.S a X) W.Hf W.H (orX (Wo.S ⟨W.Hf,H',W.fps⟩) a X') W.Hf H':=by
 refine⟨R.frame (Same.refl _) (fun b u e=>?_) fun b hb=>?_,⟨Same.refl _,fun b o e n=>?_,fun b o _ _ _ q=>q,fun b z=>?_⟩⟩
 ·rcases hH b with q | q | q
  ·rw[q];exact R.sub b u e
  ·rw[(hd.fr b q).1]at e;cases e
  ·rw[R.notF q]at e;cases e
 ·obtain⟨i,hi⟩:=hb
  obtain⟨z,o,e,_⟩:=R.own i b hi
  refine⟨z,?_⟩
  rcases hH b with q | q | q
  ·exact q
  ·exact absurd ⟨i,hi⟩ (hd.fr b q).2
  ·rw[q]at e;cases e
 ·rcases hH b with q | q | q
  ·rw[q];exact e
  ·exact absurd (.inr q) n
  ·rw[q]at e;cases e
 ·rcases z with z | z
  ·exact .inl (.inl z)
  ·rcases hX b z with q | q
   ·exact .inl (.inr q)
   ·exact .inr q
theorem A4m {j i:Nat}{b:Addr}(h:b∈(fun i=>if i=j then [] else X i) i):b∈X i/\i≠j:=by
 have h:b∈if i=j then [] else X i:=h
 split at h
 ·cases h
 ·rename_i n;exact⟨h,n⟩
def A1g (ks:w5)(es:List DE)(k x:q_):List PyData×List DE:=match Oj k ks with
 | some j=>(ks,es.set j (.d x))
 | none=>(ks++[k],es++[.d x])
def MVB (K:v_)(d:Nat)(T:TE)(f:w5->List DE->Ev->R PV):Prop:=∀(β:Nat->V) (W:Wo) (c:Ev) (σ:St) (Q:VK) (a:Addr) (ks:w5) (es:List DE) (X:Nat->v5),Rep K β W c σ->σ[d]?=some (some (.ref a))->DB W a ks es X ->
 (f ks es c).sat (fun p c'=>∀v W',Stp W.S W.Hf W.H W'.S W'.Hf W'.H->Rep K β W' c' σ->RepA K W'.Hf σ (nrm p) v->Q v W'.H)->T σ W.H Q
theorem As4 {tv:TE}{f:n8}(h:ME K tv f):MVB K d tv (fun _ _=>f):=fun β W c σ Q a ks es X R hs hd s=>h.toV β W c σ Q R s
def Ad8 (fk:n8)(fv:w5->List DE->Ev->R PV):BF:=fun c ks es=>(fv ks es c).toB fun q c=>(frz (nrm q) c).toB fun x c=>(fk c).toB fun p c=>match Ef c (nrm p) with
 | some k=>if (Ip k&&decide (ks.length<16000000)&&Cw d c)=true then .nx c (A1g ks es k x).1 (A1g ks es k x).2 else .bad
 | none=>.bad
theorem As6 {ty tv:TE}{fk:n8}{fv:w5->List DE->Ev->R PV}(hk:ME K ty fk)(hv:MVB K d tv fv):MB K d (A5d (A3a d) ty tv) (Ad8 (d:=d) fk fv):=by
 intro β W c σ D a ks es X R hc hs hd l
 refine hv β W c σ _ a ks es X R hs hd ((Fq l).mono fun q c1 l1 v W1 st1 R1 r1=>⟨_,hs,?_⟩)
 obtain⟨x,c2,W2,_,l2,e2,st2,R2,t2⟩:=Gp R1 r1 (Fq l1);rw[<- e2]
 refine hk.toV β W2 c2 σ _ R2 ((Fq l2).mono fun p c3 l3 y W3 st3 R3 r3=>?_)
 have t3:Tr W3.Hf x v:=Tr.same st3.fz t2;have st:=st1.trans (st2.trans st3)
 have hd3:=hd.step st fun _ z=>z
 cases ek:Ef c3 (nrm p) with
 | none=>simp only[ek]at l3;exact l3.elim
 | some k =>
  simp only[ek]at l3
  by_cases hb:(Ip k&&decide (ks.length<16000000)&&Cw d c3)=true
  ·rw[if_pos hb]at l3
   obtain⟨hb,hb3⟩:=aB.mp hb;obtain⟨hb1,hb2⟩:=aB.mp hb;have hb2:=aX hb2;obtain⟨_,kd,ekd⟩:=Gy hb1
   have tk:Tr W3.Hf k y:=by rw[ekd]at ek ⊢;exact Gu R3 r3 ek
   obtain⟨b,rfl,kb⟩:=An7 hb1 tk;obtain⟨vs,q1,q2,q3,q4⟩:=hd3.at_
   have zl:(ks.zip vs).length<sizeLine:=by rw[dD,<- q2,dC];exact aP hb2 (by decide)
   have kb':KAt W3.H k b:=kb.stay fun b xs q=>R3.sub _ _ q
   refine⟨a,_,rfl,DPut.t q1 kb' zl,?_⟩
   cases ei:Oj k ks with
   | some j =>
    have l3:zR K β W D d a X (.nx c3 ks (es.set j (.d x))):=by unfold A1g at l3;simp only[ei]at l3;exact l3
    obtain⟨i1,i2⟩:=Oc hb1 hd3.ky q2 ei;have hj:j<ks.length:=(bL.mp i1).1
    have hjv:j<vs.length:=by omega
    rw[Bc1 hd3.nd i1 (i2.trans (bj hjv))]
    have chg:=Wb (X':=fun i=>if i=j then [] else X i) R3 hd3 (H':=upd W3.H a (.dT (ks.zip (vs.set j v)))) (fun b=>by
     by_cases z:b=a
     ·exact .inr (.inl (.inl z))
     ·exact .inl (Ak z)) (fun b z=>by
     rcases z with z | ⟨i,z⟩
     ·exact .inl (.inl z)
     ·have z:=A4m z
      exact .inl (.inr ⟨i,z.1⟩))
    have sub:∀b,DX a (fun i=>if i=j then [] else X i) b->DX a X b:=fun b z=>by
     rcases z with z | ⟨i,z⟩
     ·exact .inl z
     ·exact .inr ⟨i,(A4m z).1⟩
    refine l3 σ ⟨W3.Hf,_,W3.fps⟩ _ (st.moreX.trans chg.2) chg.1 (G7 hb3) hs ⟨⟨vs.set j v,Bb,by rw[bG];exact q2,by rw[bG,bG];exact q3,fun i e ei'=>?_⟩,fun b z=>hd3.fr b (sub b z),fun i i' b z z'=>?_,fun i z=>?_,fun b z=>?_,fun i hi=>?_,hd3.ky,hd3.nd⟩
    ·by_cases z:i=j
     ·subst z
      rw[bZ (by omega)]at ei'
      cases ei'
      exact⟨v,bZ hjv,by rw[if_pos rfl],t3⟩
     ·rw[bM (aJ z)]at ei'
      obtain⟨u,f1,f2⟩:=q4 i e ei'
      refine⟨u,by rw[bM (aJ z)];exact f1,?_⟩
      rw[if_neg z]
      exact f2.step (Same.refl _) fun b hb=>Ak (fun q=>hd3.na i (q▸hb))
    ·exact hd3.dis i i' b (A4m z).1 (A4m z').1
    ·exact hd3.na i (A4m z).1
    ·by_cases q:b=a
     ·rw[q];exact⟨_,Bb,trivial⟩
     ·obtain⟨o,e,mu⟩:=hd3.mu b (sub b z)
      exact⟨o,by show upd W3.H a _ b=_;rw[Ak q];exact e,mu⟩
    ·rw[bG]at hi
     show (if i=j then [] else X i)=[]
     split
     ·rfl
     ·exact hd3.out i hi
   | none =>
    have l3:zR K β W D d a X (.nx c3 (ks++[k]) (es++[.d x])):=by unfold A1g at l3;simp only[ei]at l3;exact l3
    obtain⟨i1,i2⟩:=Kw (vs:=vs) hb1 hd3.ky ei;rw[A4l q2 i2]
    have chg:=Wb (X':=X) R3 hd3 (H':=upd W3.H a (.dT ((ks++[k]).zip (vs++[v])))) (fun b=>by
     by_cases z:b=a
     ·exact .inr (.inl (.inl z))
     ·exact .inl (Ak z)) (fun b z=>.inl z)
    refine l3 σ ⟨W3.Hf,_,W3.fps⟩ X (st.moreX.trans chg.2) chg.1 (G7 hb3) hs ⟨⟨vs++[v],Bb,by rw[aK,aK,q2];rfl,by rw[aK,aK,q3];rfl,fun i e ei'=>?_⟩,hd3.fr,hd3.dis,hd3.na,fun b z=>?_,fun i hi=>hd3.out i (by rw[aK]at hi;exact fc hi),fun x hx=>?_,?_⟩
    ·by_cases z:i<es.length
     ·rw[cW z]at ei'
      obtain⟨u,f1,f2⟩:=q4 i e ei'
      refine⟨u,by rw[cW (by omega)];exact f1,?_⟩
      exact f2.step (Same.refl _) fun b hb=>Ak (fun q=>hd3.na i (q▸hb))
     ·rw[cV (by omega)]at ei'
      have hi:i=es.length:=by
       rcases bc (i-es.length) 1 with q | q
       ·omega
       ·rw[bU (by simpa using q)]at ei';cases ei'
      subst hi;rw[cR]at ei'
      cases ei'
      refine⟨v,by rw[q3,cV (aq _),cR];rfl,hd3.out _ (aq _),t3⟩
    ·by_cases q:b=a
     ·rw[q];exact⟨_,Bb,trivial⟩
     ·obtain⟨o,e,mu⟩:=hd3.mu b z
      exact⟨o,by show upd W3.H a _ b=_;rw[Ak q];exact e,mu⟩
    ·rcases bY.mp hx with hx | hx
     ·exact hd3.ky x hx
     ·rw[aY.mp hx];exact hb1
    ·rw[dZ]
     refine⟨hd3.nd,by simp,fun x hx y hy e=>?_⟩
     rw[aY.mp hy]at e;exact i1 (e▸hx)
  ·rw[if_neg hb]at l3;exact l3.elim
end
section
variable {K:v_}{β:Nat->V}{W W' W1:Wo}{c c':Ev}{σ σ':St}{Hf H:Hp}{a:Addr}{ks:w5}{es:List DE}{X X':Nat->v5}{d:Nat}{D:Ends}{fp:v5}
def B0m:Option DE->Option (w5)
 | some (.l xs)=>some xs
 | _=>none
def Rg (ks:w5)(es:List DE)(k:q_):List PyData×List DE×Nat:=match Oj k ks with
 | some j=>(ks,es,j)
 | none=>(ks++[k],es++[.l []],ks.length)
def A5e (fk fv:n8):BF:=fun c ks es=>(fk c).toB fun p c=>match Ef c (nrm p) with
 | some k=>if (Ip k&&decide (ks.length<16000000))=true then match B0m ((Rg ks es k).2.1[(Rg ks es k).2.2]?) with
  | some xs=>(fv c).toB fun q c=>(frz (nrm q) c).toB fun x c=>if (decide (xs.length<16000000)&&Cw d c)=true then .nx c (Rg ks es k).1 ((Rg ks es k).2.1.set (Rg ks es k).2.2 (.l (xs++[x]))) else .bad
  | none=>.bad
  else .bad
 | none=>.bad
theorem Am3 {te:TE}{fe:n8}{l:Addr}{j:Nat}{xs:w5}(he:ME K te fe)(R:Rep K β W c σ)(hs:σ[d]?=some (some (.ref a)))(hd:DB W a ks es X)(ej:es[j]?=some (.l xs))(hl:X j=[l])
 (L:zR K β W D d a X ((fe c).toB fun q c=>(frz (nrm q) c).toB fun x c=>if (decide (xs.length<16000000)&&Cw d c)=true then .nx c ks (es.set j (.l (xs++[x]))) else .bad)) :
 tyV K "list" (.ref l) W.H/\Dz te Io σ W.H fun xs H2=>rAppF (.ref l) xs H2 fun _ H3=>D.nx σ H3:=by
 have here:∀{W:Wo},DB W a ks es X->∃us,W.H l=some (.lst us)/\TrL W.Hf xs us:=fun {W} hd=>by
  obtain⟨vs,q1,q2,q3,q4⟩:=hd.at_;obtain⟨v,f1,b,us,rfl,f2,f3,f4⟩:=q4 j _ ej;rw[hl]at f2
  cases f2
  exact⟨us,f3,f4⟩
 obtain⟨us0,h0,_⟩:=here hd
 refine⟨.inl ⟨rfl,us0,SqL.of h0⟩,?_⟩
 refine he.toV β W c σ _ R ((Fq L).mono fun q c1 l1 v W1 st1 R1 r1=>?_)
 obtain⟨x,c2,W2,_,l2,e2,st2,R2,t2⟩:=Gp R1 r1 (Fq l1);have st:=st1.trans st2
 have hd2:=hd.step st fun _ z=>z
 obtain⟨us,h2,t⟩:=here hd2
 by_cases hb:(decide (xs.length<16000000)&&Cw d c2)=true
 ·rw[if_pos hb]at l2
  obtain⟨hb1,hb3⟩:=aB.mp hb;have hb1:=aX hb1
  show rAppF (.ref l) [v] W1.H fun _ H3=>D.nx σ H3
  rw[<- e2]
  refine⟨l,v,us,rfl,rfl,h2,by rw[<- t.length];exact aP hb1 (by decide),?_⟩
  have lX:DX a X l:=.inr ⟨j,by rw[hl];exact .head _⟩
  have la:l≠a:=fun z=>hd2.na j (by rw[hl,<- z];exact .head _)
  have chg:=Wb (X':=X) R2 hd2 (H':=upd W2.H l (.lst (us++[v]))) (fun b=>by
   by_cases z:b=l
   ·rw[z];exact .inr (.inl lX)
   ·exact .inl (Ak z)) (fun b z=>.inl z)
  obtain⟨vs,q1,q2,q3,q4⟩:=hd2.at_;have hj:j<es.length:=(bL.mp ej).1
  refine l2 σ ⟨W2.Hf,_,W2.fps⟩ X (st.moreX.trans chg.2) chg.1 (G7 hb3) hs ⟨⟨vs,by show upd W2.H l _ a=_;rw[Ak (aJ la)];exact q1,q2,by rw[bG];exact q3,fun i e ei=>?_⟩,hd2.fr,hd2.dis,hd2.na,fun b z=>?_,fun i hi=>hd2.out i (by rw[bG]at hi;exact hi),hd2.ky,hd2.nd⟩
  ·by_cases z:i=j
   ·subst z
    rw[bZ hj]at ei
    cases ei
    obtain⟨v0,f1,b,us1,rfl,f2,f3,f4⟩:=q4 i _ ej;rw[hl]at f2
    cases f2
    exact⟨_,f1,l,us++[v],rfl,hl,Bb,t.app (TrL.one t2)⟩
   ·rw[bM (aJ z)]at ei
    obtain⟨u,f1,f2⟩:=q4 i e ei
    exact⟨u,f1,f2.step (Same.refl _) fun b hb=>Ak (fun q=>z (hd2.dis i j b hb (by rw[hl,q];exact .head _)))⟩
  ·by_cases q:b=l
   ·rw[q];exact⟨_,Bb,trivial⟩
   ·obtain⟨o,e,mu⟩:=hd2.mu b z
    exact⟨o,by show upd W2.H l _ b=_;rw[Ak q];exact e,mu⟩
 ·rw[if_neg hb]at l2;exact l2.elim
theorem Bt9 {ty te:TE}{fk fe:n8}(hk:ME K ty fk)(he:ME K te fe):MB K d (A0g (tBM K "list" rAppF (A6m (A3a d) ty (Bj8 Io)) (Dz te Io))) (A5e (d:=d) fk fe):=by
 intro β W c σ D a ks es X R hc hs hd l
 refine⟨_,hs,a,rfl,.inr (let ⟨vs,q,_⟩:=hd.at_; ⟨_,.inl q⟩),?_⟩
 refine hk.toV β W c σ _ R ((Fq l).mono fun p c1 l1 y W1 st1 R1 r1=>?_)
 refine⟨show 0<=sizeLine from aW _,fun pn hpn=>?_⟩
 have hd1:=hd.step st1 fun _ z=>z
 cases ek:Ef c1 (nrm p) with
 | none=>simp only[ek]at l1;exact l1.elim
 | some k =>
  simp only[ek]at l1
  by_cases hb:(Ip k&&decide (ks.length<16000000))=true
  ·rw[if_pos hb]at l1
   obtain⟨hb1,hb2⟩:=aB.mp hb;have hb2:=aX hb2;obtain⟨_,kd,ekd⟩:=Gy hb1
   have tk:Tr W1.Hf k y:=by rw[ekd]at ek ⊢;exact Gu R1 r1 ek
   obtain⟨b,rfl,kb⟩:=An7 hb1 tk;obtain⟨vs,q1,q2,q3,q4⟩:=hd1.at_
   have zl:(ks.zip vs).length<sizeLine:=by rw[dD,<- q2,dC];exact aP hb2 (by decide)
   have pa:a≠pn:=fun z=>by rw[<- z,q1]at hpn;cases hpn
   have npX:∀b,DX a X b->b≠pn:=fun b z q=>by
    obtain⟨o,e,_⟩:=hd1.mu b z;rw[q,hpn]at e;cases e
   have chg1:=Wb (X':=X) R1 hd1 (H':=upd W1.H pn (.lst [])) (fun b=>by
    by_cases z:b=pn
    ·rw[z];exact .inr (.inr hpn)
    ·exact .inl (Ak z)) (fun b z=>.inl z)
   have hd2:DB ⟨W1.Hf,upd W1.H pn (.lst []),W1.fps⟩ a ks es X :=
    ⟨⟨
     vs,by show upd W1.H pn _ a=_;rw[Ak pa];exact q1,q2,q3,fun i e ei=>by
     obtain⟨u,f1,f2⟩:=q4 i e ei
     exact⟨u,f1,f2.step (Same.refl _) fun b hb=>Ak (npX b (.inr ⟨i,hb⟩))⟩⟩,hd1.fr,hd1.dis,hd1.na,fun b z=>by
     obtain⟨o,e,mu⟩:=hd1.mu b z
     exact⟨o,by show upd W1.H pn _ b=_;rw[Ak (npX b z)];exact e,mu⟩,hd1.out,hd1.ky,hd1.nd⟩
   have kb':KAt (upd W1.H pn (.lst [])) k b:=kb.stay fun b xs q=>by
    have:=R1.sub _ _ q;rw[Ak];exact this;intro z;rw[z,hpn]at this;cases this
   refine⟨ks.zip vs,k,b,rfl,by rw[Ak pa];exact q1,kb',zl,fun v hv=>?_,fun hv=>?_⟩
   ·-- there
    cases ei:Oj k ks with
    | none=>rw[(Kw (vs:=vs) hb1 hd1.ky ei).2]at hv;cases hv
    | some j =>
     unfold Rg at l1;simp only[ei]at l1;obtain⟨i1,i2⟩:=Oc hb1 hd1.ky q2 ei
     cases eE:es[j]? with
     | none=>rw[eE]at l1;exact l1.elim
     | some en =>
      rw[eE]at l1
      cases en with
      | d x=>exact l1.elim
      | l xs =>
       obtain⟨u,f1,lb,us,rfl,f2,f3,f4⟩:=q4 j _ eE;rw[i2,f1]at hv
       cases hv
       exact Am3 he chg1.1 hs hd2 eE f2 (zR.step l1 (st1.moreX.trans chg1.2))
   ·-- not there
    cases ei:Oj k ks with
    | some j =>
     obtain⟨i1,i2⟩:=Oc hb1 hd1.ky q2 ei;have hj:j<ks.length:=(bL.mp i1).1
     rw[i2,bj (by omega)]at hv;cases hv
    | none =>
     unfold Rg at l1;simp only[ei]at l1;obtain⟨i1,i2⟩:=Kw (vs:=vs) hb1 hd1.ky ei;have lks:ks.length=es.length:=q2.trans q3.symm
     have ej:(es++[DE.l []])[ks.length]?=some (.l []):=by rw[lks,cV (aq _),cR];rfl
     rw[ej]at l1
     have mX:∀i b,b∈(fun i=>if i=ks.length then [pn] else X i) i->(i=ks.length/\b=pn)\/(i≠ks.length/\b∈X i):=fun i b h=>by
      have h:b∈if i=ks.length then [pn] else X i:=h
      split at h
      ·rename_i q;exact .inl ⟨q,aY.mp h⟩
      ·rename_i q;exact .inr ⟨q,h⟩
     have chg2:=Wb (X':=fun i=>if i=ks.length then [pn] else X i) R1 hd1 (H':=upd (upd W1.H pn (.lst [])) a (.dT (ks.zip vs++[(k,.ref pn)]))) (fun b=>by
      by_cases z:b=a
      ·exact .inr (.inl (.inl z))
      ·by_cases z2:b=pn
       ·rw[z2];exact .inr (.inr hpn)
       ·exact .inl (by rw[Ak z,Ak z2])) (fun b z=>by
      rcases z with z | ⟨i,z⟩
      ·exact .inl (.inl z)
      ·rcases mX i b z with ⟨_,q⟩ | ⟨_,q⟩
       ·rw[q];exact .inr hpn
       ·exact .inl (.inr ⟨i,q⟩))
     have hd3:DB ⟨W1.Hf,upd (upd W1.H pn (.lst [])) a (.dT (ks.zip vs++[(k,.ref pn)])),W1.fps⟩ a (ks++[k]) (es++[.l []]) (fun i=>if i=ks.length then [pn] else X i):=by
      refine⟨⟨vs++[.ref pn],?_,by rw[aK,aK,q2];rfl,by rw[aK,aK,q3];rfl,fun i e ei'=>?_⟩,fun b z=>?_,fun i i' b z z'=>?_,fun i z=>?_,fun b z=>?_,fun i hi=>?_,fun x hx=>?_,?_⟩
      ·show upd _ a _ a=_
       rw[Bb,List.zip_append q2];rfl
      ·by_cases z:i<es.length
       ·rw[cW z]at ei'
        obtain⟨u,f1,f2⟩:=q4 i e ei'
        refine⟨u,by rw[cW (by omega)];exact f1,?_⟩
        rw[if_neg (by omega)]
        exact f2.step (Same.refl _) fun b hb=>by
         show upd (upd W1.H pn _) a _ b=_
         have na:b≠a:=fun q=>hd1.na i (q▸hb)
         rw[Ak na,Ak (npX b (.inr ⟨i,hb⟩))]
       ·rw[cV (by omega)]at ei'
        have hi:i=es.length:=by
         rcases bc (i-es.length) 1 with q | q
         ·omega
         ·rw[bU (by simpa using q)]at ei';cases ei'
        subst hi;rw[cR]at ei'
        cases ei'
        refine⟨.ref pn,by rw[q3,cV (aq _),cR];rfl,pn,[],rfl,by rw[if_pos lks.symm],?_,rfl⟩
        show upd (upd W1.H pn _) a _ pn=_
        rw[Ak (aJ pa),Bb]
      ·rcases z with z | ⟨i,z⟩
       ·exact hd1.fr b (.inl z)
       ·rcases mX i b z with ⟨_,q⟩ | ⟨_,q⟩
        ·rw[q];exact⟨R1.notF hpn,R1.notS hpn⟩
        ·exact hd1.fr b (.inr ⟨i,q⟩)
      ·rcases mX i b z with ⟨q,p1⟩ | ⟨q,p1⟩
       ·rcases mX i' b z' with ⟨q',p2⟩ | ⟨q',p2⟩
        ·rw[q,q']
        ·exact absurd p1 (npX b (.inr ⟨i',p2⟩))
       ·rcases mX i' b z' with ⟨q',p2⟩ | ⟨q',p2⟩
        ·exact absurd p2 (npX b (.inr ⟨i,p1⟩))
        ·exact hd1.dis i i' b p1 p2
      ·rcases mX i a z with ⟨_,q⟩ | ⟨_,q⟩
       ·exact pa q
       ·exact hd1.na i q
      ·by_cases q:b=a
       ·rw[q];exact⟨_,Bb,trivial⟩
       ·by_cases q2:b=pn
        ·rw[q2];exact⟨.lst [],by show upd (upd W1.H pn _) a _ pn=_;rw[Ak (aJ pa),Bb],trivial⟩
        ·have zX:DX a X b:=by
          rcases z with z | ⟨i,z⟩
          ·exact .inl z
          ·rcases mX i b z with ⟨_,q⟩ | ⟨_,q⟩
           ·exact absurd q q2
           ·exact .inr ⟨i,q⟩
         obtain⟨o,e,mu⟩:=hd1.mu b zX
         exact⟨o,by show upd (upd W1.H pn _) a _ b=_;rw[Ak q,Ak q2];exact e,mu⟩
      ·rw[aK]at hi
       show (if i=ks.length then [pn] else X i)=[]
       have:es.length+1<=i:=hi
       rw[if_neg (by omega)]
       exact hd1.out i (by omega)
      ·rcases bY.mp hx with hx | hx
       ·exact hd1.ky x hx
       ·rw[aY.mp hx];exact hb1
      ·rw[dZ]
       refine⟨hd1.nd,by simp,fun x hx y hy e=>?_⟩
       rw[aY.mp hy]at e;exact i1 (e▸hx)
     exact Am3 he chg2.1 hs hd3 ej (by show (if ks.length=ks.length then [pn] else _)=_;rw[if_pos rfl]) (zR.step l1 (st1.moreX.trans chg2.2))
  ·rw[if_neg hb]at l1;exact l1.elim
end
theorem A0q {H:Hp}:∀{ds:w5}{vs:m7},ds.length=vs.length->(∀(j:Nat) (x:q_) (v:V),ds[j]?=some x->vs[j]?=some v->Tr H x v)->TrL H ds vs
 | [],[],_,_=>rfl
 | [],_::_,l,_=>nomatch l
 | _::_,[],l,_=>nomatch l
 | x::ds,v::vs,l,h=>⟨v,vs,rfl,h 0 x v rfl rfl,A0q (gA l) fun j y u e1 e2=>h (j+1) y u (by simpa using e1) (by simpa using e2)⟩
section
variable {K:v_}{β:Nat->V}{W W' W1:Wo}{c c':Ev}{σ σ':St}{Hf H:Hp}{a:Addr}{ks:w5}{es:List DE}{X X':Nat->v5}{d:Nat}{D:Ends}{fp:v5}
open Classical in
def Ro (W:Wo)(a:Addr)(u:HO)(X:Nat->v5):Hp:=fun b=>if b=a then some u else if ∃j,b∈X j then W.H b else W.Hf b
theorem A6w {u:HO}:Ro W a u X a=some u:=by unfold Ro;rw[if_pos rfl]
theorem A0e {u:HO}{b:Addr}{j:Nat}(n:b≠a)(h:b∈X j):Ro W a u X b=W.H b:=by unfold Ro;rw[if_neg n,if_pos ⟨j,h⟩]
theorem Qo {u:HO}{b:Addr}(h:¬ DX a X b):Ro W a u X b=W.Hf b:=by unfold Ro;rw[if_neg (fun z=>h (.inl z)),if_neg (fun z=>h (.inr z))]
theorem DB.same {u:HO}(hd:DB W a ks es X):Same W.Hf (Ro W a u X):=fun b u e=>by
 rw[Qo];exact e;intro z;rw[(hd.fr b z).1]at e;cases e
theorem DB.sub {u:HO}(hd:DB W a ks es X)(R:Rep K β W c σ):Same (Ro W a u X) (upd W.H a u):=fun b v e=>by
 by_cases z0:b=a
 ·subst z0;rw[A6w]at e;rw[Bb];exact e
 ·rw[Ak z0]
  by_cases z:DX a X b
  ·rcases z with z | ⟨j,z⟩
   ·exact absurd z z0
   ·rw[A0e z0 z]at e;exact e
  ·rw[Qo z]at e;exact R.sub b v e
theorem DB.done {vs:m7}{o:Obj}(hd:DB W a ks es X)(hv:W.H a=some (.dT (ks.zip vs)))(hl:ks.length=vs.length):RepT K (Ro W a (.frz o (.dT (ks.zip vs))) X) (.ds ks (es.map DE.dat)) (.ref a):=by
 obtain⟨vs',q1,q2,q3,q4⟩:=hd.at_
 have ev:vs'=vs:=by
  rw[hv]at q1
  have e:=cJ (fun x:List (PyData×V)=>x.map (·.2)) (show ks.zip vs=ks.zip vs' from by injection bK q1)
  simp only[jx (fZ hl.symm),jx (fZ q2.symm)]at e;exact e.symm
 subst ev
 refine⟨a,o,vs',rfl,A6w,A0q (by rw[ak];exact q3) fun j x v e1 e2=>?_,q2⟩
 rw[bz]at e1;obtain⟨e,e3,rfl⟩:=bB.mp e1;obtain⟨u,f1,f2⟩:=q4 j e e3;rw[e2]at f1
 cases f1
 cases e with
 | d x=>exact Tr.same hd.same f2.2
 | l xs =>
  obtain⟨b,us,rfl,g1,g2,g3⟩:=f2
  have hb:b∈X j:=by rw[g1];exact .head _
  have nb:b≠a:=fun z=>hd.na j (z▸hb)
  exact⟨b,us,rfl,by rw[A0e nb hb];exact g2,TrL.same hd.same g3⟩
theorem Rep.hide (R:Rep K β W c σ){p:Addr}{v:V}{o:HO}(hp:W.H p=none):Rep K β ⟨W.Hf,upd W.H p o,clr W.fps d⟩ (c.set d none) (σ.set d (some v)):=by
 refine⟨Ud R.sub hp,by rw[bG,bG];exact R.len,fun j o' e=>?_,fun j k a h1 h2=>R.dis j k a (Fj h1).1 (Fj h2).1,fun j a h=>?_⟩
 ·have z:j≠d:=fun z=>by
   subst z
   by_cases l:j<c.length
   ·rw[bZ l]at e;cases e
   ·rw[bU (by rw[bG];omega)]at e;cases e
  rw[bM (fun y=>z y.symm)]at e
  obtain⟨v',e1,r,b⟩:=R.get j o' e
  refine⟨v',by rw[bM (fun y=>z y.symm)];exact e1,?_,b⟩
  show RepO K W.Hf (upd W.H p o) o' v' (clr W.fps d j)
  have ec:clr W.fps d j=W.fps j:=by unfold clr;rw[if_neg z]
  rw[ec]
  exact r.mono (Same.refl _) fun a ha=>⟨(R.own j a ha).1,Ak (fun q=>by obtain⟨_,o,e,_⟩:=R.own j a ha;rw[q,hp]at e;cases e)⟩
 ·obtain⟨q1,o',q2,mu⟩:=R.own j a (Fj h).1
  exact⟨q1,o',by show upd W.H p o a=_;rw[Ak (fun q=>by rw[q,hp]at q2;cases q2)];exact q2,mu⟩
def Nm (d:Nat)(F:BF)(g:Ev->SR):Ev->SR:=fun c=>if Cw d (c.set d none)=true then match F (c.set d none) [] [] with
 | .nx c ks es=>g (c.set d (some (.ty (.ds ks (es.map DE.dat)))))
 | .bad=>.bad
 else .bad
theorem Qw {T u:TS}{F:BF}{g:Ev->SR}(h1:MB K d T F)(h2:MS K u g):MS K (A7v (Yz As1 (Mp d)) (tFz d T u)) (Nm d F g):=by
 intro β W c σ D R l
 show ∀p,W.H p=none->T { D with nx:=fun σ' H'=>∃a kvs,σ'[d]?=some (some (.ref a))/\H' a=some (.dT kvs)/\∀o,u D σ' (upd H' a (.frz o (.dT kvs))) } (σ.set d (some (.ref p))) (upd W.H p (.dT []))
 intro p hp;unfold Nm at l
 by_cases z:Cw d (c.set d none)=true
 ·rw[if_pos z]at l
  have hc:=G7 z
  have hdl:d<c.length:=by
   rcases bc d c.length with q | q
   ·exact q
   ·rw[bU (by rw[bG];exact q)]at hc;cases hc
  have hs:(σ.set d (some (.ref p)))[d]?=some (some (V.ref p)):=bZ (by rw[<- R.len];exact hdl)
  have R1:Rep K β ⟨W.Hf,upd W.H p (.dT []),clr W.fps d⟩ (c.set d none) (σ.set d (some (.ref p))):=R.hide hp
  have dx0:∀b,DX p (fun _=>[]) b->b=p:=fun b z=>by
   rcases z with z | ⟨_,z⟩
   ·exact z
   ·cases z
  have s1:∀b,Wo.S ⟨W.Hf,upd W.H p (.dT []),clr W.fps d⟩ b->W.S b:=fun b ⟨j,h⟩=>⟨j,(Fj h).1⟩
  have hd:DB ⟨W.Hf,upd W.H p (.dT []),clr W.fps d⟩ p [] [] (fun _=>[]) :=
   ⟨⟨[],Bb,rfl,rfl,fun j e ej=>by simp at ej⟩,fun b z=>by rw[dx0 b z];exact⟨R.notF hp,fun q=>R.notS hp (s1 p q)⟩,fun i j b z=>(by cases z),fun j z=>(by cases z),fun b z=>by rw[dx0 b z];exact⟨_,Bb,trivial⟩,fun _ _=>rfl,fun k hk=>(by cases hk),eY⟩
  have st0:Stp W.S W.Hf W.H (orX (Wo.S ⟨W.Hf,upd W.H p (.dT []),clr W.fps d⟩) p (fun _=>[])) W.Hf (upd W.H p (.dT [])) :=
   ⟨Same.refl _,fun b o e _=>by rw[Ak (fun q=>by rw[q,hp]at e;cases e)];exact e,fun _ _ _ _ _ q=>q,fun b z=>by
    rcases z with z | z
    ·exact .inl (s1 b z)
    ·rw[dx0 b z];exact .inr hp⟩
  refine h1 β _ _ _ _ p [] [] _ R1 hc hs hd ?_
  cases eF:F (c.set d none) [] [] with
  | bad=>rw[eF]at l;exact l.elim
  | nx c2 ks es =>
   rw[eF]at l;intro σ2 W2 X2 st R2 hc2 hs2 hd2;obtain⟨vs,q1,q2,_,_⟩:=hd2.at_
   refine⟨p,ks.zip vs,hs2,q1,fun o=>?_⟩
   have R3:Rep K β ⟨Ro W2 p (.frz o (.dT (ks.zip vs))) X2,upd W2.H p (.frz o (.dT (ks.zip vs))),W2.fps⟩ c2 σ2:=R2.frame hd2.same (hd2.sub R2) fun b hb=>by
    have nb:¬ DX p X2 b:=fun z=>(hd2.fr b z).2 hb
    obtain⟨i,hi⟩:=hb
    exact⟨by rw[Qo nb];exact(R2.own i b hi).1,Ak (fun z=>nb (.inl z))⟩
   have R4:=R3.setN (i:=d) (o:=.ty (.ds ks (es.map DE.dat))) (v:=.ref p) (hd2.done (K:=K) q1 q2) rfl
   have es2:σ2.set d (some (.ref p))=σ2:=by
    apply List.ext_getElem?;intro i
    by_cases q:i=d
    ·subst q
     rw[bZ (by rcases bc i σ2.length with q | q;exact q;rw[bU q]at hs2;cases hs2),hs2]
    ·rw[bM (fun y=>q y.symm)]
   rw[es2]at R4
   have st3:Stp (orX W2.S p X2) W2.Hf W2.H (Wo.S ⟨Ro W2 p (.frz o (.dT (ks.zip vs))) X2,upd W2.H p (.frz o (.dT (ks.zip vs))),clr W2.fps d⟩) (Ro W2 p (.frz o (.dT (ks.zip vs))) X2) (upd W2.H p (.frz o (.dT (ks.zip vs)))) :=
    ⟨hd2.same,fun b o e n=>by rw[Ak (fun z=>n (.inr (.inl z)))];exact e,fun b o _ _ n q=>by rw[Qo (fun z=>n (.inr z))];exact q,fun b ⟨j,h⟩=>.inl (.inl ⟨j,(Fj h).1⟩)⟩
   exact h2 β ⟨Ro W2 p (.frz o (.dT (ks.zip vs))) X2,upd W2.H p (.frz o (.dT (ks.zip vs))),clr W2.fps d⟩ _ σ2 D R4 (zV.step l (st0.trans (st.trans st3)))
 ·rw[if_neg z]at l;exact l.elim
def Ik (fa fw fx:n8):n8:=fun c=>(fa c).bind fun p c=>match p with
 | .o (.ty (.ds ks ds))=>(fw c).bind fun q c=>(fx c).bind fun r c=>(frz (nrm r) c).bind fun x c=>match Ef c (nrm q) with
  | some k=>if (Ip k&&ks.all Ip)=true then .ok (.o (.im ((Oo ks ds k).getD x))) c else .bad
  | none=>.bad
 | _=>.bad
theorem Uw:∀{ks ds:w5}{xs:m7}{z:q_},(∀k∈ks,Ip k=true)->Ip z=true->ds.length=xs.length->ks.length=xs.length->Oo ks ds z=none->Js (ks.zip xs) z=none
 | [],_,_,_,_,_,_,_,_=>rfl
 | _::_,[],[],_,_,_,_,h,_=>nomatch h
 | _::_,[],_::_,_,_,_,h,_,_=>nomatch h
 | _::_,_::_,[],_,_,_,h,_,_=>nomatch h
 | k::ks,d0::ds,v::xs,z,hk,hz,l1,l2,e=>by
  have b:=(Gy (hk k bD)).1.1;have b2:=(Gy hz).1.1
  have e:(if PyData.eqv k z=true then some d0 else Oo ks ds z)=none:=e
  by_cases h:PyData.eqv k z=true
  ·rw[if_pos h]at e;cases e
  ·rw[if_neg h]at e
   rw[bR,Ji (fun q=>h ((Jw k z b b2).mpr q))]
   exact Uw (fun k m=>hk k (bx _ m)) hz (gA l1) (gA l2) e
theorem Ag8 {ta tw tx:TE}{fa fw fx:n8}(ha:ME K ta fa)(hw:ME K tw fw)(hx:ME K tx fx):ME K (Zv ta tw tx) (Ik fa fw fx):=by
 intro β W c σ Q R s
 refine ha β W c σ _ R ((s.bnd).mono fun p c1 s1 v1 W1 fp1 st1 R1 r1=>?_)
 match p,r1,s1 with
 | .o (.ty (.ds ks ds)),r1,s1 =>
  obtain⟨⟨rfl,a,oo,xs,rfl,h1,t1,l1⟩,_⟩:=r1
  have st1:Stp W.S W.Hf W.H W1.S W1.Hf W1.H:=st1.less fun a z=>.inl z
  refine⟨a,rfl,.inr ⟨_,.inr ⟨oo,R1.sub _ _ h1⟩⟩,?_⟩
  refine hw.toV β W1 c1 σ _ R1 ((s1.bnd).mono fun q c2 s2 v2 W2 st2 R2 r2=>?_)
  refine hx.toV β W2 c2 σ _ R2 ((s2.bnd).mono fun r c3 s3 v3 W3 st3 R3 r3=>?_)
  obtain⟨x,c4,W4,_,s4,e4,st4,R4,t4⟩:=Gp R3 r3 s3.bnd;have st:=st2.trans (st3.trans st4);have r2:=RepA.same (st3.fz.trans st4.fz) r2;rw[<- e4]
  cases ed:Ef c4 (nrm q) with
  | none=>simp only[ed]at s4;exact s4.elim
  | some k =>
   simp only[ed]at s4
   by_cases hb:(Ip k&&ks.all Ip)=true
   ·rw[if_pos hb]at s4
    obtain⟨hk,hks⟩:=aB.mp hb
    have hks:∀k∈ks,Ip k=true:=fun k m=>bN.mp hks k m
    obtain⟨_,kd,ekd⟩:=Gy hk
    have tz:Tr W4.Hf k v2:=by rw[ekd]at ed ⊢;exact Gu R4 r2 ed
    obtain⟨b,rfl,kb⟩:=An7 hk tz;have e2:Rd W4.H a (.dT (ks.zip xs)):=.inr ⟨oo,R4.sub _ _ (st.fz _ _ h1)⟩
    have fin:∀d v,Tr W4.Hf d v->(Oo ks ds k).getD x=d->Q v W4.H:=fun d v t e=>by
     rw[e]at s4
     exact s4 v W4 [] ((st1.trans st).less fun a h=>by
      rcases h with h | h
      ·exact h
      ·cases h) R4 ⟨⟨rfl,t⟩,fun a h=>nomatch h⟩
    refine⟨_,.inr ⟨_,_,b,e2,rfl,kb.stay fun b xs q=>R4.sub _ _ q,rfl⟩,?_⟩
    cases el:Oo ks ds k with
    | some d =>
     obtain⟨v,q1,q2⟩:=Ay6 hks hk (TrL.same st.fz t1) el;rw[q1]
     exact fin d v q2 (by rw[el];rfl)
    | none =>
     rw[Uw hks hk t1.length l1 el]
     exact fin x v3 t4 (by rw[el];rfl)
   ·rw[if_neg hb]at s4;exact s4.elim
 | .o (.ty (.nm _)),r1,s1=>exact s1.elim
 | .o (.ty (.xc _)),r1,s1=>exact s1.elim
 | .o (.ty (.dc _ _)),r1,s1=>exact s1.elim
 | .o (.ty (.dt _ _)),r1,s1=>exact s1.elim
 | .o (.ty (.td _ _ _)),r1,s1=>exact s1.elim
 | .o (.im _),r1,s1=>exact s1.elim
 | .o (.ls _ _),r1,s1=>exact s1.elim
 | .o (.sc _),r1,s1=>exact s1.elim
 | .sl _,r1,s1=>exact s1.elim
end
section
variable {K:v_}{β:Nat->V}{W W':Wo}{c c':Ev}{σ:St}{Hf H:Hp}
def Tz (Hf H:Hp):Hp:=fun b=>match H b with
 | some (.tup xs)=>some (.tup xs)
 | _=>Hf b
theorem Qk {b:Addr}{xs:m7}(e:H b=some (.tup xs)):Tz Hf H b=some (.tup xs):=by unfold Tz;rw[e]
theorem Vu {b:Addr}(h:∀xs,H b≠some (.tup xs)):Tz Hf H b=Hf b:=by
 unfold Tz
 split
 ·rename_i xs e;exact absurd e (h xs)
 ·rfl
theorem X7 (s:Same Hf H):Same Hf (Tz Hf H):=fun b u e=>by
 by_cases h:∃xs,H b=some (.tup xs)
 ·obtain⟨xs,e1⟩:=h
  rw[Qk e1,<- e1];exact s b u e
 ·rw[Vu fun xs q=>h ⟨xs,q⟩];exact e
theorem Wj (s:Same Hf H):Same (Tz Hf H) H:=fun b u e=>by
 by_cases h:∃xs,H b=some (.tup xs)
 ·obtain⟨xs,e1⟩:=h
  rw[Qk e1]at e;rw[e1];exact e
 ·rw[Vu fun xs q=>h ⟨xs,q⟩]at e;exact s b u e
theorem Vj (s:Same Hf H):Stp (fun _=>False) Hf H (fun _=>False) (Tz Hf H) H :=
 ⟨X7 s,fun _ _ e _=>e,fun b o e mu _ q=>by
  rw[Vu (fun xs z=>by rw[e]at z;cases z;exact mu)];exact q,fun _ z=>z.elim⟩
mutual
theorem Ad0 {H':Hp}(h:∀b xs,H b=some (.tup xs)->H' b=some (.tup xs)):∀{d:q_}{v:V},KTr H d v->Tr H' d v
 | .none,_,e=>e
 | .int _,_,e=>e
 | .str _,_,e=>e
 | .tuple _,_,⟨a,vs,e,ha,t⟩=>⟨a,vs,e,h _ _ ha,Az2 h t⟩
theorem Az2 {H':Hp}(h:∀b xs,H b=some (.tup xs)->H' b=some (.tup xs)):∀{ds:w5}{vs:m7},KTrL H ds vs->TrL H' ds vs
 | [],_,e=>e
 | _::_,_,⟨v,r,e,a,t⟩=>⟨v,r,e,Ad0 h a,Az2 h t⟩
end
theorem Aq4 {ks:w5}{xs:m7}{i:Nat}{k:q_}{v:V}(e:(ks.zip xs)[i]?=some (k,v)):ks[i]?=some k/\xs[i]?=some v:=by
 rw[iI]at e;exact e
def Vc (fa:n8):Ev->R (w5):=fun c=>(fa c).bind fun p c=>match p with
 | .o (.ty (.ds ks _))=>.ok ks c
 | _=>.bad
theorem Af5 {td:TE}{fa:n8}(ha:ME K td fa):MI K (iDK td) (Vc fa):=by
 intro β W c σ k R s
 refine ha β W c σ _ R ((s.bnd).mono fun p c1 s1 v1 W1 fp1 st1 R1 r1=>?_)
 match p,r1,s1 with
 | .o (.ty (.ds ks ds)),r1,s1 =>
  obtain⟨⟨rfl,a,o,xs,rfl,h1,t1,l1⟩,_⟩:=r1
  have st1:Stp W.S W.Hf W.H W1.S W1.Hf W1.H:=st1.less fun a z=>.inl z
  have lz:(ks.zip xs).length=ks.length:=by rw[dD,<- l1,dC]
  refine⟨a,o,ks.zip xs,rfl,R1.sub _ _ h1,s1 (Itk a o) W1 st1 R1 fun i Hf' H sa sb=>⟨fun e=>⟨ks.zip xs,sb _ _ (sa _ _ h1),by rw[lz,e];exact aq _⟩,fun d hd=>⟨⟨ks.zip xs,sb _ _ (sa _ _ h1),by rw[lz];exact(bL.mp hd).1⟩,fun x H' hy=>?_⟩⟩⟩
  obtain⟨rfl,kvs,k',v,b,e1,e2,rfl,kb⟩:=hy
  cases (e1.symm.trans (sb _ _ (sa _ _ h1)))
  obtain⟨q1,_⟩:=Aq4 e2
  cases (hd.symm.trans q1)
  exact⟨Tz Hf' H',Vj sb,Wj sb,Ad0 (fun b xs e=>Qk e) kb.2⟩
 | .o (.ty (.nm _)),r1,s1=>exact s1.elim
 | .o (.ty (.xc _)),r1,s1=>exact s1.elim
 | .o (.ty (.dc _ _)),r1,s1=>exact s1.elim
 | .o (.ty (.dt _ _)),r1,s1=>exact s1.elim
 | .o (.ty (.td _ _ _)),r1,s1=>exact s1.elim
 | .o (.im _),r1,s1=>exact s1.elim
 | .o (.ls _ _),r1,s1=>exact s1.elim
 | .o (.sc _),r1,s1=>exact s1.elim
 | .sl _,r1,s1=>exact s1.elim
def Ij:w5->w5->w5
 | k::ks,d::ds=>.tuple [k,d]::Ij ks ds
 | _,_=>[]
theorem Pg:∀{ks ds:w5},ks.length=ds.length->(Ij ks ds).length=ks.length
 | [],[],_=>rfl
 | [],_::_,h=>nomatch h
 | _::_,[],h=>nomatch h
 | _::ks,_::ds,h=>by
  show (Ij ks ds).length+1=_
  rw[Pg (gA h)];rfl
theorem Ye:∀{ks ds:w5}{i:Nat}{x:q_},(Ij ks ds)[i]?=some x->∃k d,ks[i]?=some k/\ds[i]?=some d/\x=.tuple [k,d]
 | [],_,_,_,e=>by simp[Ij]at e
 | _::_,[],_,_,e=>by simp[Ij]at e
 | k::ks,d::ds,0,x,e=>by
  cases (show some (PyData.tuple [k,d])=some x from e)
  exact⟨k,d,rfl,rfl,rfl⟩
 | k::ks,d::ds,i+1,x,e=>by
  obtain⟨k',d',h1,h2,h3⟩:=Ye (show (Ij ks ds)[i]?=some x by simpa[Ij] using e)
  exact⟨k',d',by simpa using h1,by simpa using h2,h3⟩
theorem TrL.at {H:Hp}:∀{ds:w5}{vs:m7}{i:Nat}{d:q_}{v:V},TrL H ds vs->ds[i]?=some d->vs[i]?=some v->Tr H d v
 | [],_,_,_,_,_,e,_=>by simp at e
 | x::ds,_,0,d,v,⟨u,r,e0,t,_⟩,e1,e2=>by
  subst e0
  cases (show some x=some d from e1)
  cases (show some u=some v from e2)
  exact t
 | x::ds,_,i+1,d,v,⟨u,r,e0,_,ts⟩,e1,e2=>by
  subst e0
  exact TrL.at ts (by simpa using e1) (by simpa using e2)
def Qa (fa:n8):Ev->R (w5):=fun c=>(fa c).bind fun p c=>match p with
 | .o (.ty (.ds ks ds))=>if ks.length=ds.length then .ok (Ij ks ds) c else .bad
 | _=>.bad
theorem A0t {td:TE}{fa:n8}(ha:ME K td fa):MI K (iDI td) (Qa fa):=by
 intro β W c σ k R s
 refine ha β W c σ _ R ((s.bnd).mono fun p c1 s1 v1 W1 fp1 st1 R1 r1=>?_)
 match p,r1,s1 with
 | .o (.ty (.ds ks ds)),r1,s1 =>
  obtain⟨⟨rfl,a,o,xs,rfl,h1,t1,l1⟩,_⟩:=r1
  have st1:Stp W.S W.Hf W.H W1.S W1.Hf W1.H:=st1.less fun a z=>.inl z
  have lz:(ks.zip xs).length=ks.length:=by rw[dD,<- l1,dC]
  have ld:ks.length=ds.length:=l1.trans t1.length.symm
  have s1:(if ks.length=ds.length then U.R.ok (Ij ks ds) c1 else .bad:U.R (w5)).sat _:=s1
  rw[if_pos ld]at s1
  refine⟨a,o,ks.zip xs,rfl,R1.sub _ _ h1,s1 (Iti a o) W1 st1 R1 fun i Hf' H sa sb=>⟨fun e=>⟨ks.zip xs,sb _ _ (sa _ _ h1),by rw[lz,e,Pg ld];exact aq _⟩,fun d hd=>⟨⟨ks.zip xs,sb _ _ (sa _ _ h1),by rw[lz,<- Pg ld];exact(bL.mp hd).1⟩,fun x H' hy=>?_⟩⟩⟩
  obtain⟨p,kvs,k',v,b,rfl,hp,rfl,e1,e2,kb⟩:=hy
  cases (e1.symm.trans (sb _ _ (sa _ _ h1)))
  obtain⟨q1,q2⟩:=Aq4 e2;obtain⟨k2,d2,w1,w2,rfl⟩:=Ye hd
  cases (w1.symm.trans q1)
  have sF:=Wj (Hf:=Hf') sb;have fr:Tz Hf' H p=none:=Same.free sF hp;have new:=Stp.newF (o:=.tup [.ref b,v]) sF hp
  refine⟨upd (Tz Hf' H) p (.tup [.ref b,v]),(Vj sb).trans new,Lb sF,p,_,rfl,Bb,.ref b,_,rfl,Tr.same (Bt fr) (Ad0 (fun b xs e=>Qk e) kb.2),v,[],rfl,Tr.same (Bt fr) (Tr.same (X7 sb) (Tr.same sa (TrL.at t1 w2 q2))),rfl⟩
 | .o (.ty (.nm _)),r1,s1=>exact s1.elim
 | .o (.ty (.xc _)),r1,s1=>exact s1.elim
 | .o (.ty (.dc _ _)),r1,s1=>exact s1.elim
 | .o (.ty (.dt _ _)),r1,s1=>exact s1.elim
 | .o (.ty (.td _ _ _)),r1,s1=>exact s1.elim
 | .o (.im _),r1,s1=>exact s1.elim
 | .o (.ls _ _),r1,s1=>exact s1.elim
 | .o (.sc _),r1,s1=>exact s1.elim
 | .sl _,r1,s1=>exact s1.elim
def Ax1 (fa:n8):n8:=fun c=>(fa c).bind fun p c=>match p with
 | .o (.ty (.ds ks _))=>.ok (.o (.im (.tuple ks))) c
 | _=>.bad
theorem A5r {H':Hp}(h:∀b xs,H b=some (.tup xs)->H' b=some (.tup xs)):∀{ks:w5}{vs:m7},Bf1 H ks vs->TrL H' ks vs
 | [],_,e=>e
 | k::ks,_,⟨b,r,e,kb,t⟩=>⟨.ref b,r,e,Ad0 h kb.2,A5r h t⟩
theorem Bf2 {td:TE}{fa:n8}(ha:ME K td fa):ME K (A9p td) (Ax1 fa):=by
 intro β W c σ Q R s
 refine ha β W c σ _ R ((s.bnd).mono fun p c1 s1 v1 W1 fp1 st1 R1 r1=>?_)
 match p,r1,s1 with
 | .o (.ty (.ds ks ds)),r1,s1 =>
  obtain⟨⟨rfl,a,o,xs,rfl,h1,t1,l1⟩,_⟩:=r1
  have st1:Stp W.S W.Hf W.H W1.S W1.Hf W1.H:=st1.less fun a z=>.inl z
  refine⟨a,o,ks.zip xs,rfl,R1.sub _ _ h1,fun vs p kv hp=>?_⟩
  rw[List.map_fst_zip (fZ l1)]at kv;have sF:=Wj (Hf:=W1.Hf) R1.sub;have fr:Tz W1.Hf W1.H p=none:=Same.free sF hp;have new:=(Vj R1.sub).trans (Stp.newF (o:=.tup vs) sF hp)
  exact New.of (o:=.im (.tuple ks)) R1 (fun v W' fp st R' rp=>s1 v W' fp (st1.trans st) R' rp) (.ref p) (upd (Tz W1.Hf W1.H) p (.tup vs)) _ [] (new.less fun a z=>nomatch z) (Lb sF) ⟨rfl,p,vs,rfl,Bb,TrL.same (Bt fr) (A5r (fun b xs e=>Qk e) kv)⟩
 | .o (.ty (.nm _)),r1,s1=>exact s1.elim
 | .o (.ty (.xc _)),r1,s1=>exact s1.elim
 | .o (.ty (.dc _ _)),r1,s1=>exact s1.elim
 | .o (.ty (.dt _ _)),r1,s1=>exact s1.elim
 | .o (.ty (.td _ _ _)),r1,s1=>exact s1.elim
 | .o (.im _),r1,s1=>exact s1.elim
 | .o (.ls _ _),r1,s1=>exact s1.elim
 | .o (.sc _),r1,s1=>exact s1.elim
 | .sl _,r1,s1=>exact s1.elim
end
section
variable {K:v_}{β:Nat->V}{W W' W1:Wo}{c c':Ev}{σ σ':St}{Hf H:Hp}{a:Addr}{ks:w5}{es:List DE}{X X':Nat->v5}{d:Nat}{D:Ends}{fp:v5}
def Bk0 (i j:Nat)(f:o_):BF:=fun c ks es=>(f c).toB fun ps c=>(frzs ps c).toB fun ds c=>match ds with
 | [x,y]=>if Cw d ((c.set i (some (.im x))).set j (some (.im y)))=true then .nx ((c.set i (some (.im x))).set j (some (.im y))) ks es else .bad
 | _=>.bad
theorem Bt4 {i j:Nat}{ta:TA}{f:o_}(h:MA K ta f)(hi:i≠d)(hj:j≠d):MB K d (Bw8 i j ta) (Bk0 (d:=d) i j f):=by
 intro β W c σ D a ks es X R hc hs hd l
 refine h β W c σ _ R ((Fq l).mono fun ps c1 l1 vs W1 st1 R1 r1=>?_)
 obtain⟨ds,c2,W2,l2,e2,st2,R2,t2⟩:=T7 R1 r1 (Fq l1)
 split at l2
 ·rename_i x y
  obtain⟨v,r,rfl,tx,u,r',rfl,ty,e⟩:=t2
  cases (show r'=[] from e)
  refine⟨v,u,rfl,?_⟩
  have R3:=R2.setN (i:=i) (o:=.im x) tx rfl;have R4:=R3.setN (i:=j) (o:=.im y) (v:=u) ty rfl
  by_cases z:Cw d ((c2.set i (some (.im x))).set j (some (.im y)))=true
  ·rw[if_pos z]at l2
   rw[<- e2]
   have st:Stp W.S W.Hf W.H (Wo.S ⟨W2.Hf,W2.H,clr (clr W2.fps i) j⟩) W2.Hf W2.H:=(st1.trans st2).less fun a z=>B0k (B0k (W:=⟨W2.Hf,W2.H,clr W2.fps i⟩) z)
   exact l2 _ ⟨W2.Hf,W2.H,clr (clr W2.fps i) j⟩ X st.moreX R4 (G7 z) (by rw[bM hj,bM hi];exact hs) (hd.step st fun _ z=>z)
  ·rw[if_neg z]at l2;exact l2.elim
 ·exact l2.elim
end
variable {K:v_}
def Kr:q_->q_->m6
 | .list ds,.str y=>(strsOf ds).map fun ss=>.im (.int ((ss.countP fun z=>z==y:Nat)))
 | _,_=>none
theorem As0:OpS K (fun x y H Q=>Au1 K x [y] H Q) Kr:=by
 intro Hf H x y dx dy o Q s rx ry e n;unfold Kr at e
 split at e
 ·rename_i ds z
  obtain⟨a,vs,rfl,h1,t⟩:=G4 rx
  cases es:strsOf ds with
  | none=>rw[es]at e;cases e
  | some ss =>
   rw[es]at e;cases e
   cases Hs ry
   cases Ar6 es t
   exact⟨a,ss,z,rfl,rfl,SqL.of h1,n.int s⟩
 ·cases e
def Np:q_->q_->m6
 | .list a,.int k=>if a.length*k.toNat<=16000000&&(decide (-16000000<=k)&&decide (k<=16000000)) then some (.ls false (B0l a k.toNat)) else none
 | _,_=>none
theorem Ae9:OpS K Bb8 Np:=by
 intro Hf H x y dx dy o Q s rx ry e n;unfold Np at e
 split at e
 ·split at e
  ·rename_i l
   cases e
   simp only[cL,gW]at l;obtain⟨p,vs,e1,h1,t1⟩:=G4 rx
   exact⟨p,_,vs,e1,El ry,h1,by omega,by omega,by rw[<- t1.length];exact lim l.1,fun r hr=>n.lst s (Av5 t1 _) hr⟩
  ·cases e
 ·cases e
theorem Bh {X:Cx}{x:Str}{k k':Nat}{ps:v4}{sp:Sp}{e:Expr}{es:u5}{t:TA}{p pos:Pos}(D:Def X.prog X.w X.K X.mg X.base x k ps sp)(hr:Room k' X.A)(ha:QA X (e::es) t)(h:k<=k':=by omega)(hg:Gl X x:=by rfl)
 (hdb:(x==("__debug__" : Str))=false:=by decide) (hn:noStar (e::es)=true:=by rfl):QE X (.Call (.Name x p) (e::es) [] pos) (Xz sp [] E0 t):=by
 obtain⟨f,fd,G,b,kp,m⟩:=D;exact A5j G (hr.mono h) hg m kp b .nil B0c ha hdb hn
variable {K:v_}{β:Nat->V}{W W':Wo}{c c':Ev}{σ:St}{Hf H:Hp}
theorem Av4 {vs us:m7}{xs ys:w5}(s:Same Hf H)(q1:TrL Hf xs vs)(q2:TrL Hf ys us):∀{i:Nat}{ps:m7}{H2:Hp},LaidS H vs us i ps H2->∃Hf2,Stp (fun _=>False) Hf H (fun _=>False) Hf2 H2/\Same Hf2 H2/\TrL Hf2 ((Hv xs ys).take i) ps
 | 0,_,_,⟨e1,e2⟩=>by subst e1 e2;exact⟨Hf,.refl,s,rfl⟩
 | i+1,_,_,⟨r,H',p,x,y,l,hx,hy,hp,e1,e2⟩=>by
  subst e1 e2;obtain⟨Hf',st,s',t⟩:=Av4 s q1 q2 l;obtain⟨dx,ex,tx⟩:=q1.get hx;obtain⟨dy,ey,ty⟩:=q2.get hy;have fr:Hf' p=none:=s'.free hp
  have e:(Hv xs ys)[i]?=some (.tuple [dx,dy]):=by
   unfold Hv;rw[bz,(iI (l₁:=xs) (l₂:=ys) (z:=(dx,dy))).mpr ⟨ex,ey⟩];rfl
  refine⟨upd Hf' p (.tup [x,y]),st.trans (Stp.newF s' hp),Lb s',?_⟩
  rw[List.take_succ,e]
  have up:=fun {d:q_} {v:V} (t:Tr Hf d v)=>Tr.same (Bt (o:=.tup [x,y]) fr) (Tr.same st.fz t)
  exact TrL.app (TrL.same (Bt fr) t) (TrL.one ⟨p,_,rfl,Bb,x,_,rfl,up tx,y,[],rfl,up ty,rfl⟩)
def A9d (f g:n8):n8:=fun c=>(f c).bind fun p c=>(g c).bind fun q c=>(frz (nrm p) c).bind fun x c=>(frz (nrm q) c).bind fun y c=>match Gs x,Gs y with
 | some xs,some ys=>if xs.length=ys.length then .ok (.o (.im (.tuple (Hv xs ys)))) c else .bad
 | _,_=>.bad
theorem Bh2 {t u:TE}{f g:n8}(h:ME K t f)(h':ME K u g):ME K (A6r (Dz t (Dz u Io))) (A9d f g):=by
 intro β W c σ Q R s
 refine h.toV β W c σ _ R (s.bnd.mono fun p c1 s1 v1 W1 st1 R1 r1=>?_)
 refine h'.toV β W1 c1 σ _ R1 (s1.bnd.mono fun q c2 s2 v2 W2 st2 R2 r2=>?_)
 obtain⟨x,c3,W3,_,s3,e3,st3,R3,t3⟩:=Gp R2 (RepA.same st2.fz r1) s2.bnd;obtain⟨y,c4,W4,_,s4,e4,st4,R4,t4⟩:=Gp R3 (RepA.same st3.fz r2) s3.bnd
 cases ex:Gs x with
 | none=>simp only[ex]at s4;exact s4.elim
 | some xs =>
  cases ey:Gs y with
  | none=>simp only[ex,ey]at s4;exact s4.elim
  | some ys =>
   simp only[ex,ey]at s4
   by_cases hl:xs.length=ys.length
   ·rw[if_pos hl]at s4
    obtain⟨t1,a,vs,rfl,h1,q1⟩:=Vf ex t3;obtain⟨t2,b,us,rfl,h2,q2⟩:=Vf ey t4;rw[<- e3,<- e4];have z:=Gw st4.fz h1;have q1':=TrL.same st4.fz q1
    refine⟨a,b,rfl,t1,t2,vs,us,Gw R4.sub z,Gw R4.sub h2,by rw[<- q1'.length,<- q2.length];exact hl,fun ps p H2 L hp=>?_⟩
    obtain⟨Hf2,st5,s5,t5⟩:=Av4 R4.sub q1' q2 L
    have lz:(Hv xs ys).length=vs.length:=by unfold Hv;rw[ak,dD,<- hl,dC,q1'.length]
    rw[jB (fZ lz)]at t5;have fr:Hf2 p=none:=s5.free hp;have new:=st5.trans (Stp.newF (o:=.tup ps) s5 hp)
    exact New.of (o:=.im (.tuple (Hv xs ys))) R4 (fun v W' fp st R' rp=>s4 v W' fp ((st1.trans (st2.trans (st3.trans st4))).trans st) R' rp) (.ref p) (upd Hf2 p (.tup ps)) _ [] (new.less fun a z=>nomatch z) (Lb s5) ⟨rfl,p,ps,rfl,Bb,TrL.same (Bt fr) t5⟩
   ·rw[if_neg hl]at s4;exact s4.elim
def A0x (j:Nat)(fi:Ev->R (w5)):Ev->R (w5):=fun c=>(Ad j c).bind fun p c=>(frz (nrm p) c).bind fun _ c=>fi c
theorem Bq0 {j:Nat}{wi:TI}{fi:Ev->R (w5)}(h:MI K wi fi):MI K wi (A0x j fi):=by
 intro β W c σ k R s
 obtain⟨_,_,q⟩:=(Aa (K:=K) (i:=j)).toV β W c σ (fun _ H'=>H'=W.H->wi σ W.H k) R (s.bnd.mono fun p c1 s1 v W1 st1 R1 r1 e1=>by
  obtain⟨d,c2,W2,_,s2,e2,st2,R2,t2⟩:=Gp R1 r1 s1.bnd
  have q:=h β W2 c2 σ k R2 (s2.mono fun ds c3 s3 J W' st' R' it=>s3 J W' (st1.trans (st2.trans st')) R' it)
  rw[e2,e1]at q
  exact q)
 exact q rfl
def Z0 (fa:n8):Ev->R (w5):=fun c=>(fa c).bind fun p c=>match p with
 | .o (.ty (.ds ks ds))=>if ks.length=ds.length then .ok ds c else .bad
 | _=>.bad
theorem A5z {td:TE}{fa:n8}(ha:ME K td fa):MI K (iDV td) (Z0 fa):=by
 intro β W c σ k R s
 refine ha β W c σ _ R ((s.bnd).mono fun p c1 s1 v1 W1 fp1 st1 R1 r1=>?_)
 match p,r1,s1 with
 | .o (.ty (.ds ks ds)),r1,s1 =>
  obtain⟨⟨rfl,a,o,xs,rfl,h1,t1,l1⟩,_⟩:=r1
  have st1:Stp W.S W.Hf W.H W1.S W1.Hf W1.H:=st1.less fun a z=>.inl z
  have lz:(ks.zip xs).length=ks.length:=by rw[dD,<- l1,dC]
  have ld:ks.length=ds.length:=l1.trans t1.length.symm
  have s1:(if ks.length=ds.length then U.R.ok ds c1 else .bad:U.R (w5)).sat _:=s1
  rw[if_pos ld]at s1
  refine⟨a,o,ks.zip xs,rfl,R1.sub _ _ h1,s1 (Itv a o) W1 st1 R1 fun i Hf' H sa sb=>⟨fun e=>⟨ks.zip xs,sb _ _ (sa _ _ h1),by rw[lz,e,ld];exact aq _⟩,fun d hd=>⟨⟨ks.zip xs,sb _ _ (sa _ _ h1),by rw[lz,ld];exact(bL.mp hd).1⟩,fun x H' hy=>?_⟩⟩⟩
  obtain⟨rfl,kvs,k',e1,e2⟩:=hy
  cases (e1.symm.trans (sb _ _ (sa _ _ h1)))
  obtain⟨_,q2⟩:=Aq4 e2;exact⟨Hf',.refl,sb,Tr.same sa (TrL.at t1 hd q2)⟩
 | .o (.ty (.nm _)),r1,s1=>exact s1.elim
 | .o (.ty (.xc _)),r1,s1=>exact s1.elim
 | .o (.ty (.dc _ _)),r1,s1=>exact s1.elim
 | .o (.ty (.dt _ _)),r1,s1=>exact s1.elim
 | .o (.ty (.td _ _ _)),r1,s1=>exact s1.elim
 | .o (.im _),r1,s1=>exact s1.elim
 | .o (.ls _ _),r1,s1=>exact s1.elim
 | .o (.sc _),r1,s1=>exact s1.elim
 | .sl _,r1,s1=>exact s1.elim
end U
namespace PS
open PySem PySem.W PyProof.Rows L2
theorem Kl {α β:Type}{B:Nat->Nat->Option Bool}{f:α->KasT β}:∀t:KasT α,kEv B (t.bind f)=(kEv B t).bind fun a=>kEv B (f a)
 | .ret a=>rfl
 | .ask i j k=>by
  show (B i j).bind (fun b=>kEv B ((k b).bind f))=((B i j).bind fun b=>kEv B (k b)).bind fun a=>kEv B (f a)
  rw[Option.bind_assoc]
  congr 1;funext b
  exact Kl (k b)
structure Ord (lt:Nat->Nat->Bool):Prop where
 irr:∀a,lt a a=false
 tr:∀a b c,lt a b=true->lt b c=true->lt a c=true
 neg:∀a b c,lt a c=true->lt a b=true\/lt b c=true
def Rr (lt:Nat->Nat->Bool)(x y:Nat):Prop:=lt x y=true\/(lt y x=false/\x<y)
section
variable {lt:Nat->Nat->Bool}{B:Nat->Nat->Option Bool}{n:Nat}{p:Array Nat}
theorem Ord.no (O:Ord lt){a b:Nat}(h:lt a b=true):lt b a=false:=by
 cases e:lt b a with
 | false=>rfl
 | true=>have:=O.tr _ _ _ h e;rw[O.irr]at this;cases this
theorem Rr.trans (O:Ord lt){a b c:Nat}(h:Rr lt a b)(k:Rr lt b c):Rr lt a c:=by
 rcases h with h | ⟨h,h'⟩
 ·rcases k with k | ⟨k,k'⟩
  ·exact .inl (O.tr _ _ _ h k)
  ·rcases O.neg _ c _ h with z | z
   ·exact .inl z
   ·rw[k]at z;cases z
 ·rcases k with k | ⟨k,k'⟩
  ·rcases O.neg _ a _ k with z | z
   ·rw[h]at z;cases z
   ·exact .inl z
  ·refine .inr ⟨?_,by omega⟩
   cases e:lt c a with
   | false=>rfl
   | true =>
    rcases O.neg _ b _ e with z | z
    ·rw[k]at z;cases z
    ·rw[h]at z;cases z
def Eq' (lt:Nat->Nat->Bool)(x y:Nat):Prop:=lt x y=false/\lt y x=false
theorem Eq'.lt_of (O:Ord lt){a b c:Nat}(h:Eq' lt a b)(k:lt b c=true):lt a c=true:=by
 rcases O.neg _ a _ k with z | z
 ·rw[h.2]at z;cases z
 ·exact z
theorem Eq'.lt_to (O:Ord lt){a b c:Nat}(h:Eq' lt a b)(k:lt c b=true):lt c a=true:=by
 rcases O.neg _ a _ k with z | z
 ·exact z
 ·rw[h.1]at z;cases z
theorem Eq'.trans (O:Ord lt){a b c:Nat}(h:Eq' lt a b)(k:Eq' lt b c):Eq' lt a c:=by
 refine⟨?_,?_⟩
 ·cases e:lt a c with
  | false=>rfl
  | true=>
   rcases O.neg _ b _ e with z | z
   ·rw[h.1]at z;cases z
   ·rw[k.1]at z;cases z
 ·cases e:lt c a with
  | false=>rfl
  | true=>
   rcases O.neg _ b _ e with z | z
   ·rw[k.2]at z;cases z
   ·rw[h.2]at z;cases z
theorem gD (p:Array Nat)(k:Nat):p.getD k 0=(p[k]?).getD 0:=by
 rw[Array.getD_eq_getD_getElem?]
theorem Kc {i j:Nat}(hj:j<=p.size)(k:Nat):(kas_rev p i j).getD k 0=if i<=k/\k<j then p.getD (i+j-1-k) 0 else p.getD k 0:=by
 rw[gD,gD,gD,kas_rev,getElem?_mirror_all hj]
 split <;> rfl
theorem Bv8 {src d:Nat}(hs:src<p.size)(hd:d<=src)(k:Nat):(bubble p src d).getD k 0=if k=src-d then p.getD src 0 else if src-d<k/\k<=src then p.getD (k-1) 0 else p.getD k 0:=by
 rw[gD,gD,gD,gD,getElem?_bubble hs d hd]
 split
 ·rfl
 ·split <;> rfl
structure Fx (n:Nat) (p:Array Nat) (k:Nat):Prop where
 sz:p.size=n
 lo:∀i,i<k->p.getD i 0<k
 hi:∀i,k<=i->i<n->p.getD i 0=i
theorem Fx.rev {k i j:Nat}(F:Fx n p k)(hj:j<=k)(hk:k<=n):Fx n (kas_rev p i j) k:=by
 have hs:j<=p.size:=by rw[F.sz];omega
 refine⟨(mirror_size _ _ _ _).trans F.sz,fun a ha=>?_,fun a h1 h2=>?_⟩
 ·rw[Kc hs]
  split
  ·exact F.lo _ (by omega)
  ·exact F.lo _ ha
 ·rw[Kc hs,if_neg (by omega)]
  exact F.hi a h1 h2
theorem Fx.up {k:Nat}(F:Fx n p k)(hk:k<n):Fx n p (k+1):=by
 refine⟨F.sz,fun i hi=>?_,fun i h1 h2=>F.hi i (by omega) h2⟩
 rcases bc i k with h | h
 ·have:=F.lo i h;omega
 ·rw[show i=k by omega,F.hi k (aq _) hk];omega
theorem Fx.bound {k i:Nat}(F:Fx n p k)(hk:k<=n)(hi:i<n):p.getD i 0<n:=by
 rcases bc i k with h | h
 ·have:=F.lo i h;omega
 ·rw[F.hi i h hi];exact hi
def So (lt:Nat->Nat->Bool)(p:Array Nat)(k:Nat):Prop:=∀i j,i<j->j<k->Rr lt (p.getD i 0) (p.getD j 0)
theorem So.up (O:Ord lt){k:Nat}(S:So lt p k)(F:Fx n p k)(hk:k<n)(h0:0<k)(h:lt (p.getD k 0) (p.getD (k-1) 0)=false):So lt p (k+1):=by
 have last:Rr lt (p.getD (k-1) 0) (p.getD k 0):=.inr ⟨h,by rw[F.hi k (aq _) hk];exact F.lo _ (by omega)⟩
 intro i j hij hj
 rcases bc j k with z | z
 ·exact S i j hij z
 ·have e:j=k:=by omega
  subst e
  rcases bc i (j-1) with y | y
  ·exact(S i (j-1) y (by omega)).trans O last
  ·rw[show i=j-1 by omega];exact last
theorem Aq3 (O:Ord lt)(hB:∀i j,i<n->j<n->B i j=some (lt i j)):∀(f k:Nat),0<k->k+f=n->Fx n p k->So lt p k->∃m,kEv B (kas_asc p f k)=some m/\k<=m/\m<=n/\Fx n p m/\So lt p m/\(m<n->lt (p.getD m 0) (p.getD (m-1) 0)=true)
 | 0,k,h0,hk,F,S=>⟨k,rfl,aq _,by omega,F,S,fun z=>by omega⟩
 | f+1,k,h0,hk,F,S=>by
  have e:kEv B (kas_asc p (f+1) k)=kEv B (if lt (p.getD k 0) (p.getD (k-1) 0)=true then .ret k else kas_asc p f (k+1)):=by
   show (B _ _).bind _=_
   rw[hB _ _ (F.bound (by omega) (by omega)) (F.bound (by omega) (by omega))];rfl
  rw[e]
  cases c:lt (p.getD k 0) (p.getD (k-1) 0) with
  | true=>exact⟨k,rfl,aq _,by omega,F,S,fun _=>c⟩
  | false =>
   obtain⟨m,h1,h2,h3⟩:=Aq3 O hB f (k+1) (by omega) (by omega) (F.up (by omega)) (S.up O F (by omega) h0 c)
   exact⟨m,h1,by omega,h3⟩
structure De (lt:Nat->Nat->Bool) (p:Array Nat) (k q:Nat):Prop where
 hq:q<k
 al:∀i,k-(q+1)<=i->i<k->Eq' lt (p.getD i 0) (p.getD (k-1) 0)
 asc:∀i j,k-(q+1)<=i->i<j->j<k->p.getD i 0<p.getD j 0
 dec:∀i j,i<j->j<k->i<k-(q+1)->Rr lt (p.getD j 0) (p.getD i 0)
 str:∀i j,i<k-(q+1)->k-(q+1)<=j->j<k->lt (p.getD j 0) (p.getD i 0)=true
def Dn (lt:Nat->Nat->Bool)(p:Array Nat)(k:Nat):Prop:=∀i j,i<j->j<k->Rr lt (p.getD j 0) (p.getD i 0)
theorem De.flat {k:Nat}(D:De lt p k 0):Dn lt p k:=fun i j hij hj=>D.dec i j hij hj (by omega)
theorem Eq'.symm {a b:Nat}(h:Eq' lt a b):Eq' lt b a:=⟨h.2,h.1⟩
theorem Eq'.refl (O:Ord lt)(a:Nat):Eq' lt a a:=⟨O.irr a,O.irr a⟩
theorem Rr.not (O:Ord lt){a b:Nat}(h:Rr lt a b):lt b a=false:=by
 rcases h with h | h
 ·exact O.no h
 ·exact h.1
theorem De.flush (O:Ord lt){k q:Nat}(D:De lt p k q)(hs:k<=p.size):Dn lt (kas_rev p (k-(q+1)) k) k:=by
 have hq:=D.hq;intro i j hij hj;have gi:=Kc (i:=k-(q+1)) hs i;have gj:=Kc (i:=k-(q+1)) hs j;rw[gi,gj]
 by_cases hi:k-(q+1)<=i
 ·rw[if_pos (⟨by omega,by omega⟩:k-(q+1)<=i/\i<k),if_pos (⟨by omega,by omega⟩:k-(q+1)<=j/\j<k)]
  have a1:=D.al (k-(q+1)+k-1-i) (by omega) (by omega)
  have a2:=D.al (k-(q+1)+k-1-j) (by omega) (by omega)
  exact .inr ⟨(a1.trans O a2.symm).1,D.asc _ _ (by omega) (by omega) (by omega)⟩
 ·rw[if_neg (by omega:¬ (k-(q+1)<=i/\i<k))]
  by_cases hj':k-(q+1)<=j
  ·rw[if_pos (⟨hj',hj⟩:k-(q+1)<=j/\j<k)]
   exact .inl (D.str i _ (by omega) (by omega) (by omega))
  ·rw[if_neg (by omega:¬ (k-(q+1)<=j/\j<k))]
   exact D.dec i j hij hj (by omega)
theorem Dn.next (O:Ord lt){k:Nat}(D:Dn lt p k)(h0:0<k)(h:lt (p.getD k 0) (p.getD (k-1) 0)=true):De lt p (k+1) 0:=by
 have all:∀i,i<k->lt (p.getD k 0) (p.getD i 0)=true:=fun i hi=>by
  rcases bc i (k-1) with y | y
  ·rcases D i (k-1) y (by omega) with z | ⟨z,_⟩
   ·exact O.tr _ _ _ h z
   ·rcases O.neg _ (p.getD i 0) _ h with x | x
    ·exact x
    ·rw[z]at x;cases x
  ·rw[show i=k-1 by omega];exact h
 refine⟨by omega,fun i h1 h2=>?_,fun i j h1 h2 h3=>by omega,fun i j h1 h2 h3=>?_,fun i j h1 h2 h3=>?_⟩
 ·rw[show i=k+1-1 by omega];exact Eq'.refl O _
 ·rcases bc j k with z | z
  ·exact D i j h1 z
  ·rw[show j=k by omega];exact .inl (all i (by omega))
 ·rw[show j=k by omega];exact all i (by omega)
theorem De.more (O:Ord lt){k q:Nat}(D:De lt p k q)(F:Fx n p k)(hk:k<n)(h1:lt (p.getD k 0) (p.getD (k-1) 0)=false)(h2:lt (p.getD (k-1) 0) (p.getD k 0)=false):De lt p (k+1) (q+1):=by
 have hq:=D.hq;have e:Eq' lt (p.getD (k-1) 0) (p.getD k 0):=⟨h2,h1⟩
 refine⟨by omega,fun i a1 a2=>?_,fun i j a1 a2 a3=>?_,fun i j a1 a2 a3=>?_,fun i j a1 a2 a3=>?_⟩
 ·show Eq' lt (p.getD i 0) (p.getD k 0)
  rcases bc i k with z | z
  ·exact(D.al i (by omega) z).trans O e
  ·rw[show i=k by omega];exact Eq'.refl O _
 ·rcases bc j k with z | z
  ·exact D.asc i j (by omega) a2 z
  ·rw[show j=k by omega,F.hi k (aq _) hk];exact F.lo i (by omega)
 ·rcases bc j k with z | z
  ·exact D.dec i j a1 z (by omega)
  ·rw[show j=k by omega]
   exact .inl (e.symm.lt_of O (D.str i (k-1) (by omega) (by omega) (by omega)))
 ·rcases bc j k with z | z
  ·exact D.str i j (by omega) (by omega) z
  ·rw[show j=k by omega]
   exact e.symm.lt_of O (D.str i (k-1) (by omega) (by omega) (by omega))
theorem T9 (O:Ord lt)(hB:∀i j,i<n->j<n->B i j=some (lt i j)):∀(f:Nat) (p:Array Nat) (k q:Nat),k+f=n->Fx n p k->De lt p k q ->
 ∃p' m q',kEv B (kas_desc f p k q)=some (p',m,q')/\0<m/\m<=n/\Fx n p' m/\De lt p' m q'/\p'.Perm p
 | 0,p,k,q,hk,F,D=>⟨p,k,q,rfl,by have:=D.hq;omega,by omega,F,D,ie _⟩
 | f+1,p,k,q,hk,F,D=>by
  have hq:=D.hq
  have hkn:k<n:=by omega
  have b1:=F.bound (i:=k) (by omega) (by omega)
  have b2:=F.bound (i:=k-1) (by omega) (by omega)
  have e:kEv B (kas_desc (f+1) p k q)=kEv B (if lt (p.getD k 0) (p.getD (k-1) 0)=true then (if q>0 then kas_desc f (kas_rev p (k-(q+1)) k) (k+1) 0 else kas_desc f p (k+1) 0)
   else .ask (p.getD (k-1) 0) (p.getD k 0) fun d=>if d=true then .ret (p,k,q) else kas_desc f p (k+1) (q+1)):=by
   show (B _ _).bind _=_
   rw[hB _ _ b1 b2];rfl
  rw[e]
  cases c:lt (p.getD k 0) (p.getD (k-1) 0) with
  | true =>
   rw[if_pos rfl]
   by_cases h0:q>0
   ·rw[if_pos h0]
    have hs:k<=p.size:=by rw[F.sz];omega
    have g1:(kas_rev p (k-(q+1)) k).getD k 0=p.getD k 0:=by rw[Kc hs,if_neg (by omega)]
    have g2:(kas_rev p (k-(q+1)) k).getD (k-1) 0=p.getD (k-(q+1)) 0:=by rw[Kc hs,if_pos (by omega)];congr 1;omega
    have D2:=(D.flush O hs).next O (by omega) (by rw[g1,g2];exact(D.al (k-(q+1)) (by omega) (by omega)).lt_to O c)
    obtain⟨p',m,q',a1,a2,a3,a4,a5,a6⟩:=T9 O hB f _ (k+1) 0 (by omega) ((F.rev (by omega) (by omega)).up hkn) D2
    exact⟨p',m,q',a1,a2,a3,a4,a5,a6.trans (mirror_perm _ _ _ _)⟩
   ·rw[if_neg h0]
    have hq0:q=0:=by omega
    subst hq0
    exact T9 O hB f p (k+1) 0 (by omega) (F.up hkn) (D.flat.next O (by omega) c)
  | false =>
   rw[if_neg (by decide)]
   have e2:kEv B (.ask (p.getD (k-1) 0) (p.getD k 0) fun d=>if d=true then .ret (p,k,q) else kas_desc f p (k+1) (q+1))=kEv B (if lt (p.getD (k-1) 0) (p.getD k 0)=true then .ret (p,k,q) else kas_desc f p (k+1) (q+1)):=by
    show (B _ _).bind _=_
    rw[hB _ _ b2 b1];rfl
   rw[e2]
   cases d:lt (p.getD (k-1) 0) (p.getD k 0) with
   | true=>exact⟨p,k,q,rfl,by omega,by omega,F,D,ie _⟩
   | false=>exact T9 O hB f p (k+1) (q+1) (by omega) (F.up hkn) (D.more O F hkn c d)
theorem Ak4 (O:Ord lt)(hB:∀i j,i<n->j<n->B i j=some (lt i j)){k:Nat}(h0:0<k)(hk:k<=n)(F:Fx n p k)(D:Dn lt p k):∃m p',kEv B (kas_tail3 k n p)=some (m,p')/\0<m/\m<=n/\Fx n p' m/\So lt p' m/\p'.Perm p:=by
 have hs:k<=p.size:=by rw[F.sz];omega
 have S:So lt (kas_rev p 0 k) k:=fun i j hij hj=>by
  rw[Kc hs i,Kc hs j,if_pos (⟨by omega,by omega⟩:0<=i/\i<k),if_pos (⟨by omega,by omega⟩:0<=j/\j<k)]
  exact D _ _ (by omega) (by omega)
 obtain⟨m,a1,a2,a3,a4,a5,_⟩:=Aq3 O hB (n-k) k h0 (by omega) (F.rev (i:=0) (aq _) hk) S
 refine⟨m,kas_rev p 0 k,?_,by omega,a3,a4,a5,mirror_perm _ _ _ _⟩
 rw[kas_tail3,Kl,a1];rfl
theorem Tf (O:Ord lt)(hB:∀i j,i<n->j<n->B i j=some (lt i j)){k:Nat}(hk:k<n)(F:Fx n p (k+1))(D:De lt p (k+1) 0):∃m p',kEv B (kas_descPart k n p)=some (m,p')/\0<m/\m<=n/\Fx n p' m/\So lt p' m/\p'.Perm p:=by
 obtain⟨p1,m,q,a1,a2,a3,a4,a5,a6⟩:=T9 O hB (n-(k+1)) p (k+1) 0 (by omega) F D
 have e:kEv B (kas_descPart k n p)=kEv B (if q>0 then kas_tail3 m n (kas_rev p1 (m-(q+1)) m) else kas_tail3 m n p1):=by
  rw[kas_descPart,Kl,a1];rfl
 rw[e]
 by_cases h0:q>0
 ·rw[if_pos h0]
  obtain⟨m',p',b1,b2,b3,b4,b5,b6⟩:=Ak4 O hB a2 a3 (a4.rev (aq _) a3) (a5.flush O (by rw[a4.sz];exact a3))
  exact⟨m',p',b1,b2,b3,b4,b5,(b6.trans (mirror_perm _ _ _ _)).trans a6⟩
 ·rw[if_neg h0]
  have hq0:q=0:=by omega
  subst hq0;obtain⟨m',p',b1,b2,b3,b4,b5,b6⟩:=Ak4 O hB a2 a3 a4 a5.flat;exact⟨m',p',b1,b2,b3,b4,b5,b6.trans a6⟩
theorem A4p (O:Ord lt)(hB:∀i j,i<n->j<n->B i j=some (lt i j))(h1:1<=n)(F:Fx n p 1):∃m p',kEv B (kas_count n p)=some (m,p')/\0<m/\m<=n/\Fx n p' m/\So lt p' m/\p'.Perm p:=by
 obtain⟨m,a1,a2,a3,a4,a5,a6⟩:=Aq3 O hB (n-1) 1 (by omega) (by omega) F (fun i j hij hj=>by omega)
 have e:kEv B (kas_count n p)=kEv B (if (m==n)=true then .ret (m,p) else if m>1 then .ask (p.getD 0 0) (p.getD (m-1) 0) fun c=>if c=true then .ret (m,p) else kas_descPart m n (kas_rev p 0 m) else kas_descPart m n p):=by
  rw[kas_count,Kl,a1];rfl
 rw[e]
 by_cases hmn:m=n
 ·rw[if_pos (by simp[hmn])];exact⟨m,p,rfl,by omega,a3,a4,a5,ie _⟩
 ·rw[if_neg (by simp[hmn])]
  have hlt:m<n:=by omega
  have c:=a6 hlt
  by_cases hm:m>1
  ·rw[if_pos hm]
   have e2:kEv B (.ask (p.getD 0 0) (p.getD (m-1) 0) fun c=>if c=true then .ret (m,p) else kas_descPart m n (kas_rev p 0 m))=kEv B (if lt (p.getD 0 0) (p.getD (m-1) 0)=true then .ret (m,p) else kas_descPart m n (kas_rev p 0 m)):=by
    show (B _ _).bind _=_
    rw[hB _ _ (a4.bound a3 (by omega)) (a4.bound a3 (by omega))];rfl
   rw[e2]
   cases d:lt (p.getD 0 0) (p.getD (m-1) 0) with
   | true=>exact⟨m,p,rfl,by omega,a3,a4,a5,ie _⟩
   | false =>
    rw[if_neg (by decide)]
    have hs:m<=p.size:=by rw[a4.sz];omega
    have g:∀i,i<m->(kas_rev p 0 m).getD i 0=p.getD (m-1-i) 0:=fun i hi=>by
     rw[Kc hs,if_pos (⟨by omega,hi⟩:0<=i/\i<m)];congr 1;omega
    have gm:(kas_rev p 0 m).getD m 0=p.getD m 0:=by rw[Kc hs,if_neg (by omega)]
    have al:∀i,i<m->Eq' lt (p.getD i 0) (p.getD (m-1) 0):=fun i hi=>by
     refine⟨?_,?_⟩
     ·cases x:lt (p.getD i 0) (p.getD (m-1) 0) with
      | false=>rfl
      | true =>
       rcases O.neg _ (p.getD 0 0) _ x with z | z
       ·rcases Nat.eq_zero_or_pos i with y | y
        ·rw[y,O.irr]at z;cases z
        ·rw[(a5 0 i y hi).not O]at z;cases z
       ·rw[d]at z;cases z
     ·rcases bc i (m-1) with y | y
      ·exact(a5 i (m-1) y (by omega)).not O
      ·rw[show i=m-1 by omega];exact O.irr _
    have D1:Dn lt (kas_rev p 0 m) m:=fun i j hij hj=>by
     rw[g i (by omega),g j hj];exact a5 _ _ (by omega) (by omega)
    have D2:=D1.next O (by omega) (by rw[gm,g (m-1) (by omega)];exact(al _ (by omega)).lt_to O c)
    obtain⟨m',p',b1,b2,b3,b4,b5,b6⟩:=Tf O hB hlt ((a4.rev (i:=0) (aq _) a3).up hlt) D2;exact⟨m',p',b1,b2,b3,b4,b5,b6.trans (mirror_perm _ _ _ _)⟩
  ·rw[if_neg hm]
   have D1:Dn lt p m:=fun i j hij hj=>by omega
   exact Tf O hB hlt (a4.up hlt) (D1.next O (by omega) c)
theorem Nz (O:Ord lt)(hB:∀i j,i<n->j<n->B i j=some (lt i j)){k:Nat}(hk:k<n)(F:Fx n p k)(S:So lt p k):∀(f l r:Nat),l<=r->r<=k->r-l<=f->(∀i,i<l->lt (p.getD k 0) (p.getD i 0)=false)->(∀i,r<=i->i<k->lt (p.getD k 0) (p.getD i 0)=true) ->
 ∃m,kEv B (kas_place p k f l r)=some m/\m<=k/\(∀i,i<m->lt (p.getD k 0) (p.getD i 0)=false)/\(∀i,m<=i->i<k->lt (p.getD k 0) (p.getD i 0)=true)
 | 0,l,r,h1,h2,h3,a,b=>⟨l,rfl,by omega,a,fun i x y=>b i (by omega) y⟩
 | f+1,l,r,h1,h2,h3,a,b=>by
  by_cases h:l≥r
  ·refine⟨l,?_,by omega,a,fun i x y=>b i (by omega) y⟩
   rw[kas_place,if_pos h];rfl
  ·have e:kEv B (kas_place p k (f+1) l r)=kEv B (if lt (p.getD k 0) (p.getD ((l+r) / 2) 0)=true then kas_place p k f l ((l+r) / 2) else kas_place p k f ((l+r) / 2+1) r):=by
    rw[kas_place,if_neg h]
    show (B _ _).bind _=_
    rw[hB _ _ (F.bound (by omega) (by omega)) (F.bound (by omega) (by omega))];rfl
   rw[e]
   cases c:lt (p.getD k 0) (p.getD ((l+r) / 2) 0) with
   | true =>
    rw[if_pos rfl]
    refine Nz O hB hk F S f l _ (by omega) (by omega) (by omega) a fun i x y=>?_
    rcases bc ((l+r) / 2) i with z | z
    ·rcases S _ i z y with q | ⟨q,_⟩
     ·exact O.tr _ _ _ c q
     ·rcases O.neg _ (p.getD i 0) _ c with w | w
      ·exact w
      ·rw[q]at w;cases w
    ·rw[show i=(l+r) / 2 by omega];exact c
   | false =>
    rw[if_neg (by decide)]
    refine Nz O hB hk F S f _ r (by omega) h2 (by omega) (fun i x=>?_) b
    rcases bc i ((l+r) / 2) with z | z
    ·have q:=S i _ z (by omega)
     cases w:lt (p.getD k 0) (p.getD i 0) with
     | false=>rfl
     | true =>
      rcases O.neg _ (p.getD ((l+r) / 2) 0) _ w with y | y
      ·rw[c]at y;cases y
      ·rw[q.not O]at y;cases y
    ·rw[show i=(l+r) / 2 by omega];exact c
theorem A7x (O:Ord lt)(hB:∀i j,i<n->j<n->B i j=some (lt i j)):∀(f:Nat) (p:Array Nat) (k:Nat),k+f=n->Fx n p k->So lt p k->∃p',kEv B (kas_bin f p k)=some p'/\Fx n p' n/\So lt p' n/\p'.Perm p
 | 0,p,k,hk,F,S=>by
  have e:k=n:=by omega
  subst e;exact⟨p,rfl,F,S,ie _⟩
 | f+1,p,k,hk,F,S=>by
  have hkn:k<n:=by omega
  obtain⟨l,a1,a2,a3,a4⟩:=Nz O hB hkn F S k 0 k (by omega) (aq _) (by omega) (fun i x=>by omega) (fun i x y=>by omega)
  have hs:k<p.size:=by rw[F.sz];exact hkn
  have g:=fun i=>Bv8 (p:=p) (src:=k) (d:=k-l) hs (by omega) i
  have kl:k-(k-l)=l:=by omega
  rw[kl]at g
  have e:kEv B (kas_bin (f+1) p k)=kEv B (kas_bin f (bubble p k (k-l)) (k+1)):=by
   rw[kas_bin,Kl,a1];rfl
  have F2:Fx n (bubble p k (k-l)) (k+1):=by
   have U:=F.up hkn
   refine⟨(bubble_size _ _ _).trans F.sz,fun i hi=>?_,fun i h1 h2=>?_⟩
   ·rw[g i]
    by_cases c1:i=l
    ·rw[if_pos c1];exact U.lo _ (by omega)
    ·rw[if_neg c1]
     by_cases c2:l<i/\i<=k
     ·rw[if_pos c2];exact U.lo _ (by omega)
     ·rw[if_neg c2];exact U.lo _ hi
   ·rw[g i,if_neg (by omega),if_neg (by omega)]
    exact F.hi i (by omega) h2
  have new:∀i,i<l->Rr lt (p.getD i 0) (p.getD k 0):=fun i hi=>.inr ⟨a3 i hi,by rw[F.hi k (aq _) hkn];exact F.lo i (by omega)⟩
  have S2:So lt (bubble p k (k-l)) (k+1):=fun i j hij hj=>by
   rw[g i,g j]
   by_cases c1:j=l
   ·rw[if_pos c1,if_neg (by omega),if_neg (by omega)]
    exact new i (by omega)
   ·rw[if_neg c1]
    by_cases c2:l<j/\j<=k
    ·rw[if_pos c2]
     by_cases c3:i=l
     ·rw[if_pos c3];exact .inl (a4 _ (by omega) (by omega))
     ·rw[if_neg c3]
      by_cases c4:l<i/\i<=k
      ·rw[if_pos c4];exact S _ _ (by omega) (by omega)
      ·rw[if_neg c4];exact S _ _ (by omega) (by omega)
    ·rw[if_neg c2,if_neg (by omega),if_neg (by omega)];exact S _ _ hij (by omega)
  rw[e]
  obtain⟨p',b1,b2,b3,b4⟩:=A7x O hB f _ (k+1) (by omega) F2 S2
  exact⟨p',b1,b2,b3,b4.trans (bubble_perm _ _ _)⟩
theorem Bj2 (O:Ord lt)(hB:∀i j,i<n->j<n->B i j=some (lt i j))(h1:1<=n):∃p,kEv B (kas_sort n)=some p/\p.size=n/\So lt p n/\p.toList.Perm (List.range n):=by
 have F:Fx n (List.toArray (List.range n)) 1:=by
  have q:∀i,i<n->(List.toArray (List.range n)).getD i 0=i:=fun i hi=>by
   rw[gD];simp[hi]
  exact⟨by simp,fun i hi=>by rw[q i (by omega)];exact hi,fun i _ hi=>q i hi⟩
 obtain⟨m,p,a1,a2,a3,a4,a5,a6⟩:=A4p O hB h1 F
 have e:kEv B (kas_sort n)=kEv B (if m<n then kas_bin (n-max m 1) p (max m 1) else .ret p):=by
  rw[kas_sort,Kl,a1];rfl
 rw[e]
 have pl:∀q:Array Nat,q.Perm (List.toArray (List.range n))->q.toList.Perm (List.range n):=fun q h=>by
  have:=Array.perm_iff_toList_perm.mp h
  simpa using this
 by_cases h:m<n
 ·rw[if_pos h,show max m 1=m by omega]
  obtain⟨p',b1,b2,b3,b4⟩:=A7x O hB (n-m) p m (by omega) a4 a5
  exact⟨p',b1,b2.sz,b3,pl _ (b4.trans a6)⟩
 ·rw[if_neg h]
  have e:m=n:=by omega
  subst e;exact⟨p,rfl,a4.sz,a5,pl _ a6⟩
end
end PS
namespace U
open PySem L2
theorem R.bind_ok {α β:Type}{a:α}{c:Ev}{k:α->Ev->R β}:(R.ok a c).bind k=k a c:=rfl
theorem R.toS_ok {α:Type}{a:α}{c:Ev}{k:α->Ev->SR}:(R.ok a c).toS k=k a c:=rfl
theorem A1t {α:Type}{x:Option α}:(some x).join=x:=rfl
theorem B2a {α:Type}(x:α)(r:List α):atI (x::r) 0=some x:=Iz (j:=0) rfl
theorem B1q {α:Type}(x y:α)(r:List α):atI (x::y::r) 1=some y:=Iz (j:=1) rfl
theorem B1k {α:Type}(x y z:α)(r:List α):atI (x::y::z::r) 2=some z:=Iz (j:=2) rfl
theorem B1x {α:Type}(x y z u:α)(r:List α):atI (x::y::z::u::r) 3=some u:=Iz (j:=3) rfl
theorem B0u {α:Type}(x y z u w:α)(r:List α):atI (x::y::z::u::w::r) 4=some w:=Iz (j:=4) rfl
theorem Bt8:ixN 3 0=some 0:=rfl
theorem Bp0:ixN 3 1=some 1:=rfl
theorem Bv1:ixN 3 2=some 2:=rfl
def Ny (g:o8)(body:Ev->SR)(d:q_)(c:Ev):SR:=(g (.o (.im d)) c).toS fun _ c=>body c
theorem G8 {g:o8}{body:Ev->SR}{d:q_}{ds:w5}{c c':Ev}(h:Ny g body d c=.nx c'\/Ny g body d c=.ct c'):forL g body (d::ds) c=forL g body ds c':=by
 unfold Ny at h;rw[forL]
 cases e:g (.o (.im d)) c with
 | bad=>rw[e]at h;rcases h with h | h <;> cases h
 | ok u c1 =>
  rw[e]at h;have h:body c1=.nx c'\/body c1=.ct c':=h
  rcases h with h | h
  ·simp only[h]
  ·simp only[h]
theorem U5 {g:o8}{body:Ev->SR}{c:Ev}:forL g body [] c=.nx c:=rfl
theorem Ni {g:o8}{body:Ev->SR}{P:Nat->Ev->Prop}:∀{items:w5}{n:Nat}{c:Ev},P n c ->
 (∀k d c,items[k]?=some d->P (n+k) c->∃c',(Ny g body d c=.nx c'\/Ny g body d c=.ct c')/\P (n+k+1) c')->∃c',forL g body items c=.nx c'/\P (n+items.length) c'
 | [],n,c,h0,_=>⟨c,rfl,h0⟩
 | d::ds,n,c,h0,hs=>by
  obtain⟨c1,e,h1⟩:=hs 0 d c rfl h0;rw[G8 e]
  obtain⟨c2,e2,h2⟩:=Ni (P:=P) (items:=ds) (n:=n+1) (c:=c1) h1 (fun k d c hk hp=>by
   have:=hs (k+1) d c (by simpa using hk) (by rw[show n+(k+1)=n+1+k by omega];exact hp)
   rw[show n+(k+1)+1=n+1+k+1 by omega]at this
   exact this)
  exact⟨c2,e2,by rw[aQ,show n+(ds.length+1)=n+1+ds.length by omega];exact h2⟩
def K5 (g:o8)(ft:n6)(fe:n8)(d:q_)(c:Ev):R (Option q_) :=
 (g (.o (.im d)) c).bind fun _ c=>(ft c).bind fun b c=>if b=true then (fe c).bind fun p c=>(frz (nrm p) c).bind fun y c=>.ok (some y) c else .ok none c
theorem Hu {g:o8}{ft:n6}{fe:n8}{d:q_}{ds acc:w5}{c:Ev}:Ed g ft fe (d::ds) acc c=(K5 g ft fe d c).bind fun o c=>Ed g ft fe ds (acc++o.toList) c:=by
 unfold K5;rw[Ed]
 cases e:g (.o (.im d)) c with
 | bad=>rfl
 | ok u c1 =>
  simp only[R.bind_ok]
  cases e2:ft c1 with
  | bad=>rfl
  | ok b c2 =>
   simp only[R.bind_ok]
   cases b with
   | false=>simp[R.bind_ok]
   | true =>
    simp only[bV]
    cases e3:fe c2 with
    | bad=>rfl
    | ok p c3 =>
     simp only[R.bind_ok]
     cases e4:frz (nrm p) c3 with
     | bad=>rfl
     | ok y c4=>rfl
theorem K6 {g:o8}{ft:n6}{fe:n8}{P:Nat->w5->Ev->Prop}:∀{items acc:w5}{n:Nat}{c:Ev},P n acc c ->
 (∀k d acc c,items[k]?=some d->P (n+k) acc c->∃o c',K5 g ft fe d c=.ok o c'/\P (n+k+1) (acc++o.toList) c')->∃acc' c',Ed g ft fe items acc c=.ok acc' c'/\P (n+items.length) acc' c'
 | [],acc,n,c,h0,_=>⟨acc,c,rfl,h0⟩
 | d::ds,acc,n,c,h0,hs=>by
  obtain⟨o,c1,e,h1⟩:=hs 0 d acc c rfl h0;rw[Hu,e,R.bind_ok]
  obtain⟨acc2,c2,e2,h2⟩:=K6 (P:=P) (items:=ds) (n:=n+1) (c:=c1) h1 (fun k d acc c hk hp=>by
   have:=hs (k+1) d acc c (by simpa using hk) (by rw[show n+(k+1)=n+1+k by omega];exact hp)
   rw[show n+(k+1)+1=n+1+k+1 by omega]at this
   exact this)
  exact⟨acc2,c2,e2,by rw[aQ,show n+(ds.length+1)=n+1+ds.length by omega];exact h2⟩
theorem Aj3 {g:o8}{ft:n6}{fe:n8}{I:Ev->Prop}{F:q_->Option q_}:∀{items acc:w5}{c:Ev},I c ->
 (∀d c,d∈items->I c->∃c',K5 g ft fe d c=.ok (F d) c'/\I c')->∃c',Ed g ft fe items acc c=.ok (acc++items.filterMap F) c'/\I c'
 | [],acc,c,h0,_=>⟨c,by simp[Ed],h0⟩
 | d::ds,acc,c,h0,hs=>by
  obtain⟨c1,e,h1⟩:=hs d c (.head _) h0;rw[Hu,e,R.bind_ok]
  obtain⟨c2,e2,h2⟩:=Aj3 (I:=I) (F:=F) (items:=ds) (acc:=acc++(F d).toList) h1 (fun d c hd hi=>hs d c (.tail _ hd) hi)
  refine⟨c2,?_,h2⟩
  rw[e2,fY];rw[eG]
  cases F d <;> rfl
theorem A3i {g:o8}{ft:n6}{fe:n8}{I:Ev->Prop}{F:q_->q_}{items acc:w5}{c:Ev}(h0:I c)
 (hs:∀d c,d∈items->I c->∃c',K5 g ft fe d c=.ok (some (F d)) c'/\I c'):∃c',Ed g ft fe items acc c=.ok (acc++items.map F) c'/\I c':=by
 obtain⟨c',e,h⟩:=Aj3 (F:=fun d=>some (F d)) (acc:=acc) h0 hs
 refine⟨c',?_,h⟩
 rw[e]
 congr 2
 simp[List.filterMap_eq_map']
theorem Rc {α:Type}{g:o8}{ft:n6}{fe:n8}{I:Ev->Prop}{f:α->q_}{G:α->Option q_}:∀{xs:List α}{acc:w5}{c:Ev},I c ->
 (∀x c,x∈xs->I c->∃c',K5 g ft fe (f x) c=.ok (G x) c'/\I c')->∃c',Ed g ft fe (xs.map f) acc c=.ok (acc++xs.filterMap G) c'/\I c'
 | [],acc,c,h0,_=>⟨c,by simp[Ed],h0⟩
 | x::xs,acc,c,h0,hs=>by
  obtain⟨c1,e,h1⟩:=hs x c (.head _) h0;rw[aD,Hu,e,R.bind_ok]
  obtain⟨c2,e2,h2⟩:=Rc (I:=I) (f:=f) (G:=G) (xs:=xs) (acc:=acc++(G x).toList) h1 (fun d c hd hi=>hs d c (.tail _ hd) hi)
  refine⟨c2,?_,h2⟩
  rw[e2,fY];rw[eG]
  cases G x <;> rfl
theorem Dt {α:Type}{g:o8}{ft:n6}{fe:n8}{I:Ev->Prop}{f:α->q_}{G:α->q_}{xs:List α}{acc:w5}{c:Ev}(h0:I c)
 (hs:∀x c,x∈xs->I c->∃c',K5 g ft fe (f x) c=.ok (some (G x)) c'/\I c'):∃c',Ed g ft fe (xs.map f) acc c=.ok (acc++xs.map G) c'/\I c':=by
 obtain⟨c',e,h⟩:=Rc (G:=fun d=>some (G d)) (acc:=acc) h0 hs
 refine⟨c',?_,h⟩
 rw[e]
 congr 2
 simp[List.filterMap_eq_map']
theorem Fl {idx:p_}{fi:Ev->R (w5)}{g:o8}{ft:n6}{fe:n8}{c c1 cI c2:Ev}{ds acc:w5}(h1:fi c=.ok ds c1)(hl:ds.length<=16000000)(h2:Ed g ft fe ds [] (cIn idx c1)=.ok acc cI)(h3:Hm cI (pairsOf 0 idx) c1=some c2) :
 cLC idx fi g ft fe c=.ok (.o (.ls false acc)) c2:=by
 unfold cLC;rw[h1,R.bind_ok];simp only[if_pos hl,h2,h3]
theorem Od {fi:Ev->R (w5)}{g:o8}{body:Ev->SR}{c c1:Ev}{ds:w5}(h1:fi c=.ok ds c1):Vz fi g body c=forL g body ds c1:=by
 unfold Vz;rw[h1];rfl
theorem Df {f g:Ev->SR}{c c':Ev}(h:f c=.nx c'):Bm f g c=g c':=by unfold Bm;rw[h]
theorem Y7 {n N:Nat}{body:Ev->SR}{as:List O}{p:PV}{c:Ev}{r:FR}(h:body (as.map some++List.replicate (N-n) none)=.rt p c)(hl:as.length=n)(hf:A1h as p c=r):En n N body as=r:=by
 unfold En;rw[if_pos hl,h];exact hf
theorem Au2 {f:n8}{g:o8}{c c1 c2:Ev}{p:PV}(h:f c=.ok p c1)(h2:g p c1=.ok () c2):Cp f g c=.nx c2:=by
 unfold Cp;rw[h,R.toS_ok,h2,R.toS_ok]
theorem By7 {op:q_->m6}{f:n8}{c c1:Ev}{p:PV}{d:q_}{o:O}(h:f c=.ok p c1)(h2:Ef c1 (nrm p)=some d)(h3:op d=some o):cUn op f c=.ok (.o o) c1:=by
 unfold cUn;rw[h,R.bind_ok];simp only[h2,h3]
end U
namespace K
open PySem L2 U
structure Good (d:q_) (n w:Nat):Prop where
 lay:d.canLay0=true
 shw:d.showable=true
 dct:d.hasDict=false
 dep:d.depth<=n
 wgt:wt d<=w
structure Goods (ds:w5) (n w:Nat):Prop where
 lay:PyData.canLayAll0 ds=true
 shw:PyData.showableAll ds=true
 dct:PyData.hasDictAll ds=false
 dep:PyData.depthAll ds<=n
 wgt:Jt ds<=w*ds.length
theorem Goods.of {n w:Nat}:∀{ds:w5},(∀d∈ds,Good d n w)->Goods ds n (w+2)
 | [],_=>⟨rfl,rfl,rfl,aW _,aW _⟩
 | d::r,h=>by
  have a:=h d (.head _)
  have b:=Goods.of fun e he=>h e (.tail _ he)
  refine⟨?_,?_,?_,?_,?_⟩
  ·show (d.canLay0&&PyData.canLayAll0 r)=true;rw[a.lay,b.lay];rfl
  ·show (d.showable&&PyData.showableAll r)=true;rw[a.shw,b.shw];rfl
  ·show (d.hasDict||PyData.hasDictAll r)=false;rw[a.dct,b.dct];rfl
  ·show max d.depth (PyData.depthAll r)<=n;have:=a.dep;have:=b.dep;omega
  ·show wt d+2+Jt r<=(w+2)*(r.length+1)
   have:=a.wgt;have:=b.wgt;rw[Nat.mul_succ];omega
theorem Good.tup {ds:w5}{n w k:Nat}(h:∀d∈ds,Good d n w)(hk:ds.length<=k):Good (.tuple ds) (n+1) ((w+2)*k+4):=by
 have g:=Goods.of h;have m:(w+2)*ds.length<=(w+2)*k:=jC _ hk
 refine⟨g.lay,g.shw,g.dct,?_,?_⟩
 ·show PyData.depthAll ds+1<=n+1;have:=g.dep;omega
 ·show Jt ds+4<=(w+2)*k+4;have:=g.wgt;omega
theorem Good.lst {ds:w5}{n w k:Nat}(h:∀d∈ds,Good d n w)(hk:ds.length<=k):Good (.list ds) (n+1) ((w+2)*k+4):=by
 have g:=Goods.of h;have m:(w+2)*ds.length<=(w+2)*k:=jC _ hk
 refine⟨g.lay,g.shw,g.dct,?_,?_⟩
 ·show PyData.depthAll ds+1<=n+1;have:=g.dep;omega
 ·show Jt ds+4<=(w+2)*k+4;have:=g.wgt;omega
theorem Good.mono {d:q_}{n w n' w':Nat}(h:Good d n w)(a:n<=n')(b:w<=w'):Good d n' w':=⟨h.lay,h.shw,h.dct,au h.dep a,au h.wgt b⟩
theorem Good.flatB {d:q_}{n w:Nat}(h:Good d n w)(hn:n<=40):Dj d=true:=by
 unfold U.Dj;rw[h.lay,aF (au h.dep hn)];rfl
theorem Yb {a b:q_}{n w n' w':Nat}{neg:Bool}(ha:Good a n w)(hb:Good b n' w')(hn:n<=40)(hn':n'<=40):Cy neg a b=some (.im (.bool (if neg then !PyData.eqv a b else PyData.eqv a b))):=by
 unfold Cy;rw[ha.flatB hn,hb.flatB hn'];rfl
theorem Vt {d:q_}{n w:Nat}(h:Good d n w)(hn:n<=40)(hw:w<=16000000)(hs:isSeq d=true):Ou d=some (.im (.str d.shown)):=by
 have l:d.shown.length<=sizeLine:=au (An0 d h.lay h.shw) (au h.wgt (au hw (by decide)))
 cases d with
 | int i=>cases hs
 | none=>cases hs
 | bool b=>cases hs
 | str x=>cases hs
 | dict k=>cases hs
 | list ds =>
  show (if isSeq (.list ds)&&_ then _ else _)=_
  rw[hs,h.shw,h.dct,aF (au h.dep hn),aF l];rfl
 | tuple ds =>
  show (if isSeq (.tuple ds)&&_ then _ else _)=_
  rw[hs,h.shw,h.dct,aF (au h.dep hn),aF l];rfl
theorem Py {ds:w5}(h:∀d∈ds,d.canLay0=true):PyData.canLayAll0 ds=true:=by
 induction ds with
 | nil=>rfl
 | cons d r ih=>show (d.canLay0&&PyData.canLayAll0 r)=true;rw[h d (.head _),ih fun e he=>h e (.tail _ he)];rfl
theorem Ae2 {neg:Bool}{a b:Str}:Cy neg (.str a) (.str b)=some (.im (.bool (if neg then !decide (a=b) else decide (a=b)))):=by
 unfold Cy
 rw[show Ug (.str a) (.str b)=true from rfl,Bool.or_true]
 rw[V6]
 simp
inductive Vl where
 | non
 | int (i:Int)
 | str (x:Str)
 deriving DecidableEq
abbrev m9:=List Vl
abbrev m8:=List (m9)
@[simp] theorem Vl.int.injEq (a b:Int):(Vl.int a=Vl.int b)=(a=b):=propext ⟨fun h=>by cases h;rfl,fun h=>by rw[h]⟩
@[simp] theorem Vl.str.injEq (a b:Str):(Vl.str a=Vl.str b)=(a=b):=propext ⟨fun h=>by cases h;rfl,fun h=>by rw[h]⟩
def Vl.d:Vl->q_
 | .non=>.none
 | .int i=>.int i
 | .str x=>.str x
def vb:Vl->Bool
 | .non=>true
 | .int i=>decide (-1000000000000<=i)&&decide (i<=1000000000000)
 | .str x=>decide (x.length<=40)&&x.cps.toList.all fun c=>decide (32<=c)&&decide (c<=126)
abbrev VB (v:Vl):Prop:=vb v=true
abbrev VBs (vs:m9):Prop:=∀v∈vs,VB v
def tD (vs:m9):q_:=.tuple (vs.map Vl.d)
theorem Ay3 (x y:Str):PyData.eqv (.str x) (.str y)=decide (x=y):=by
 show (x==y)=_
 by_cases h:x=y
 ·rw[h];simp
 ·rw[cD.mpr h,aL h]
theorem Bn1 (a b:Vl):PyData.eqv a.d b.d=decide (a=b):=by
 cases a with
 | non=>cases b <;> simp[Vl.d,PyData.eqv]
 | int i=>
  cases b with
   | int j =>
    show (i==j)=_
    by_cases h:i=j
    ·rw[h];simp
    ·rw[cD.mpr h];exact(aL fun z=>h (by cases z;rfl)).symm
   | non=>simp[Vl.d,PyData.eqv]
   | str y=>simp[Vl.d,PyData.eqv]
 | str x=>
  cases b with
   | str y=>rw[show PyData.eqv (Vl.d (.str x)) (Vl.d (.str y))=_ from Ay3 x y];exact decide_eq_decide.mpr ⟨fun z=>z▸rfl,fun z=>by cases z;rfl⟩
   | non=>simp[Vl.d,PyData.eqv]
   | int y=>simp[Vl.d,PyData.eqv]
theorem Am8:∀as bs:m9,PyData.eqvAll (as.map Vl.d) (bs.map Vl.d)=decide (as=bs)
 | [],[]=>by simp[PyData.eqvAll]
 | [],b::bs=>by simp[PyData.eqvAll]
 | a::as,[]=>by simp[PyData.eqvAll]
 | a::as,b::bs=>by
  show (PyData.eqv a.d b.d&&PyData.eqvAll (as.map Vl.d) (bs.map Vl.d))=_
  rw[Bn1,Am8 as bs]
  simp
theorem Ai7 (as bs:m9):PyData.eqv (tD as) (tD bs)=decide (as=bs):=by
 unfold tD
 show PyData.eqvAll _ _=_
 exact Am8 as bs
theorem Gx {v:Vl}(h:VB v):Good v.d 0 1921:=by
 cases v with
 | non=>exact⟨rfl,rfl,rfl,aq _,by decide⟩
 | int i =>
  obtain⟨h0,h1⟩:=aB.mp (show (decide (-1000000000000<=i)&&decide (i<=1000000000000))=true from h)
  have h0:=aX h0;have h1:=aX h1
  refine⟨rfl,?_,rfl,aq _,aq _⟩
  have hb:i.natAbs<2 ^ 41:=by omega
  have:i.natAbs.log2<1920:=by
   by_cases hz:i.natAbs=0
   ·rw[hz];decide
   ·exact aP ((Nat.log2_lt hz).mpr hb) (by decide)
  simpa[Vl.d,PyData.showable] using this
 | str x =>
  obtain⟨h0,h1⟩:=aB.mp (show (decide (x.length<=40)&&x.cps.toList.all fun c=>decide (32<=c)&&decide (c<=126))=true from h)
  have h0:=aX h0
  refine⟨?_,rfl,rfl,aq _,?_⟩
  ·show x.cps.all (·<0x110000)=true
   rw[Array.all_eq_true_iff_forall_mem];intro c hc;have:=bN.mp h1 c (Array.mem_toList_iff.mpr hc);simp only[cL,gW]at this
   exact aF (by omega)
  ·show 10*x.length+2<=1921
   omega
theorem Jz {vs:m9}{k:Nat}(h:VBs vs)(hk:vs.length<=k):Good (tD vs) 1 (1923*k+4) :=
 Good.tup (fun d hd=>by obtain⟨v,hv,rfl⟩:=aC.mp hd;exact Gx (h v hv)) (by simpa using hk)
theorem VBs.app {a b:m9}(h:VBs a)(k:VBs b):VBs (a++b):=fun v hv=>by
 rcases bY.mp hv with hv | hv
 ·exact h v hv
 ·exact k v hv
theorem B1b (v:Vl)(vs:m9):((vs.map Vl.d).any fun e=>PyData.eqv e v.d)=decide (v∈vs):=by
 induction vs with
 | nil=>simp
 | cons a r ih =>
  rw[aD,eQ,ih,Bn1]
  by_cases h:a=v
  ·simp[h]
  ·simp[h];exact fun z=>absurd z.symm h
theorem B1h (v:m9)(vs:m8):((vs.map tD).any fun e=>PyData.eqv e (tD v))=decide (v∈vs):=by
 induction vs with
 | nil=>simp
 | cons a r ih =>
  rw[aD,eQ,ih,Ai7]
  by_cases h:a=v
  ·simp[h]
  ·simp[h];exact fun z=>absurd z.symm h
theorem A8a {neg:Bool}{v:Vl}{vs:m9}(h:VB v)(hs:VBs vs):M4 neg v.d (.list (vs.map Vl.d))=some (.im (.bool (if neg then !decide (v∈vs) else decide (v∈vs)))):=by
 have e:M4 neg v.d (.list (vs.map Vl.d))=if Dj v.d&&PyData.canLayAll0 (vs.map Vl.d) then some (.im (.bool (if neg then !((vs.map Vl.d).any fun e=>PyData.eqv e v.d) else (vs.map Vl.d).any fun e=>PyData.eqv e v.d))) else none:=by cases v <;> rfl
 rw[e,(Gx h).flatB (by decide),Py (fun d hd=>by obtain⟨u,hu,rfl⟩:=aC.mp hd;exact(Gx (hs u hu)).lay),B1b];rfl
theorem A4i {neg:Bool}{v:m9}{vs:m8}(h:VBs v)(hs:∀u∈vs,VBs u):M4 neg (tD v) (.list (vs.map tD))=some (.im (.bool (if neg then !decide (v∈vs) else decide (v∈vs)))):=by
 show (if Dj (tD v)&&PyData.canLayAll0 (vs.map tD) then some (O.im (.bool (if neg then !((vs.map tD).any fun e=>PyData.eqv e (tD v)) else (vs.map tD).any fun e=>PyData.eqv e (tD v)))) else none)=_
 rw[(Jz h (aq _)).flatB (by decide),Py (fun d hd=>by obtain⟨u,hu,rfl⟩:=aC.mp hd;exact(Jz (hs u hu) (aq _)).lay),B1h];rfl
theorem We {α:Type}{l:List α}{r:Int}(h0:0<=r)(h1:r<l.length):∃d,atI l r=some d/\d∈l/\l[r.toNat]?=some d:=by
 obtain⟨k,rfl⟩:=gB h0
 have hk:k<l.length:=by omega
 exact⟨l[k],Iz (bj hk),jm hk,by simp[hk]⟩
def Ob (pr:n_):Ev->SR :=
 (Bm
  (cIf (Bs (cOp (Jh false) (Ad 0) (cC (.none)))) (Dc (Dq (Ac (cC (.int 0)) (Ac (cC (.int 0)) Al)))) Dd)
  (Bm (cIf (Bs (cUn (Ep .int) (Ad 0))) (Dc (Dq (Ac (cC (.int 1)) (Ac (Ad 0) Al)))) Dd)
  (Bm (cIf (Bs (cUn (Ep .str) (Ad 0))) (Dc (Dq (Ac (cC (.int 2)) (Ac (Ad 0) Al)))) Dd)
  (Dc (Dq (Ac (cC (.int 3)) (Ac (cUn Az (cLC [none] (Bg (Ad 0)) (cgN 0) Bd (cF pr (Ac (Ad 0) Al)))) Al)))))))
def Dl:Nat->List O->FR
 | 0=>fun _=>.bad
 | k+1=>En 1 1 (Ob (Dl k))
def Ah4:Ev->SR :=
 (Dc (Aj8 (Dl 2) (Ad 0)))
def M6:n_:=En 1 1 Ah4
def S7:Ev->SR :=
 (Bm
  (Cp (cOp Ay (Ad 0) (cC (.int 0))) (cgN 2))
  (Bm (cIf (Bs (cOp (M4 true) (Ad 1) (Ad 2))) Nf Dd)
  (Dc (cMt O4 Lg (Ad 2) (Ad 1)))))
def Gd:n_:=En 2 3 S7
def Pz:Ev->SR :=
 (Dc (cLC [none,some 0] (Bg (Ad 1)) (cgN 0) Bd (cF Gd (Ac (Ad 1) (Ac (Ad 0) Al)))))
def Ej:n_:=En 2 2 Pz
def Qu:Ev->SR :=
 (Dc (cUn Az (cLC [none,some 0] (Bg (Ad 1)) (cgN 0) Bd (cOp Ay (Ad 1) (Ad 0)))))
def Cr:n_:=En 2 2 Qu
def Hy:Ev->SR :=
 (Bm
  (Cp (cOp Dm (cOp Dm (cUn Jf (Ad 1)) (cUn Jf (Ad 2))) (cUn Jf (Ad 3))) (cgN 4))
  (Bm (cIf (cOr (Bs (cOp (Cy true) (Ia (Ad 4)) (Ia (Ad 0)))) (A7z (Bs (cUn Al4 (cLC [none,some 4] (Bg (Ad 0)) (cgN 0) Bd (cOp (Cy false) (cMt Wq Kr (Ad 1) (Ad 0)) (cC (.int 1)))))))) Nf Dd)
  (cIf (Bs (cOp (Cy false) (Ia (Ad 3)) (cC (.int 0)))) Nf Dd)))
def Di:n_:=En 4 5 Hy
def Vn:Ev->SR :=
 (cIf (Bs (cUn (Bm8 true [Str.ofString "seen",Str.ofString "rising"]) (Ad 0))) Nf Dd)
def Hc:n_:=En 1 1 Vn
def G3:BF :=
 (Ae3 (Tp (d:=5) (Dq (Ac (cF Cr (Ac (Ad 7) (Ac (cFz (Ad 3)) Al))) (Ac (cF Cr (Ac (Ad 7) (Ac (cFz (Ad 4)) Al))) Al))) (cgN 8))
  (A5e (d:=5) (Ad 8) (Ad 6)))
def K7:Ev->SR :=
 (Bm
  (Cp (cF Ej (Ac (Ad 0) (Ac (Ad 1) Al))) (cgN 3))
  (Bm (Cp (cF Ej (Ac (Ad 0) (Ac (Ad 2) Al))) (cgN 4))
  (Nm 5 (Xi (d:=5) (Az3 (cOp Ay (Ad 0) (cC (.int 1)))) (cgT 2 (Bo (cgN 6) (Bo (cgN 7) Gm))) G3)
  (Dc (Ad 5)))))
def Es:n_:=En 3 9 K7
def Gz:BF :=
 (Ad8 (d:=1) (Ad 2) (fun _ _=>(cC (.bool true))))
def Ow:Ev->SR :=
 (Nm
  1 (Xi (d:=1) (Bg (Ad 0)) (cgN 2) Gz)
  (Dc (Ax1 (Ad 1))))
def Ek:n_:=En 1 3 Ow
def Ot:Ev->SR :=
 (Dc (cF Ek (Ac (cLC [none,none] (Vc (Ad 0)) (cgT 2 (Bo (cgN 0) (Bo (cgN 1) Gm))) Bd (Ad 0)) Al)))
def Gv:n_:=En 1 1 Ot
def Kf:Ev->SR :=
 (Bm
  (Cp (cF Ek (Ac (cLC [none,none] (Vc (Ad 0)) (cgT 2 (Bo (cgN 0) (Bo (cgN 1) Gm))) Bd (Ad 1)) Al)) (cgN 2))
  (Dc (Bz3 (Bs (cOp (Cy false) (Ad 1) (cC (.str "rising")))) (cUn Az (cF M6 (Ac (Ad 2) Al))) (Ad 2))))
def Fv:n_:=En 2 3 Kf
def Sy:Ev->SR :=
 (Dc (cUn Az (cLC [none,some 3,some 2,some 0] (Bg (Ad 1)) (cgN 0) Bd (Ik (Ad 2) (Dq (Ac (Ad 3) (Ac (Ad 0) Al))) (Ad 1)))))
def Gb:n_:=En 4 4 Sy
def S8:Ev->SR :=
 (Dc (cUn Az (cLC [none,some 1,some 2,some 3] (Bg (Ad 0)) (cgN 0) Bd (cF Gb (Ac (Ad 0) (Ac (Ad 1) (Ac (Ad 2) (Ac (Ad 3) Al))))))))
def H9:n_:=En 4 4 S8
def Kv:Ev->SR :=
 (Dc (A9d (Ad 0) (cF H9 (Ac (Ad 0) (Ac (Ad 1) (Ac (Ad 2) (Ac (cC (.none)) Al)))))))
def Ey:n_:=En 3 3 Kv
def Kp:Ev->SR :=
 (Bm
  (Cp (cLC [none] (Z0 (Ad 0)) (cgN 0) (Bs (cOp Ar4 (Ia (Ad 0)) (cC (.int 1)))) (Dq (Ac (cOp Ay (Ad 0) (cC (.int 1))) (Ac (cOp Ay (Ad 0) (cC (.int 0))) Al)))) (cgN 1))
  (cIf (Bs (cOp Ar4 (Ia (Ad 1)) (cC (.int 0)))) (Bm Nf
  Nf) Dd))
def Eu:n_:=En 1 3 Kp
def J4:BF :=
 (Ad8 (d:=7) (Ad 8) (fun _ _=>(cF Cr (Ac (cOp Ay (cOp Ay (Ad 0) (cC (.int 1))) (cOp Ay (Ad 9) (cC (.int 0)))) (Ac (cFz (Ad 6)) Al)))))
def Yc:Ev->SR :=
 (Bm
  (Jm (cF Di (Ac (cOp Ay (Ad 0) (cC (.int 0))) (Ac (Ad 1) (Ac (Ad 2) (Ac (Ad 3) Al))))))
  (Bm (Jm (cF Hc (Ac (Ad 4) Al)))
  (Bm (Cp (cF Es (Ac (Ad 0) (Ac (Ad 1) (Ac (Ad 2) Al)))) (cgN 5))
  (Bm (Jm (cF Eu (Ac (Ad 5) Al)))
  (Bm (Cp (cF Ej (Ac (Ad 0) (Ac (Ad 3) Al))) (cgN 6))
  (Nm 7 (Xi (d:=7) (Qa (Ad 5)) (cgT 2 (Bo (cgN 8) (Bo (cgN 9) Gm))) J4)
  (Bm (Cp (cF Fv (Ac (Ad 5) (Ac (Ad 4) Al))) (cgN 10))
  (Bm (Cp (cF Ey (Ac (cF Gv (Ac (Ad 5) Al)) (Ac (Ad 10) (Ac (Ad 7) Al)))) (cgN 11))
  (Dc (Dq (Ac (cUn Az (Ad 1)) (Ac (cUn Az (Ad 2)) (Ac (cUn Az (Ad 3)) (Ac (Ad 10) (Ac (Ad 11) Al)))))))))))))))
def Ft:n_:=En 5 12 Yc
def Lq:Ev->SR :=
 (Bm
  (cIf (Bs (cOp Qz (Ad 1) (Ia (Ad 0)))) (Dc (Bz4 (Ad 0) (Ad 1))) Dd)
  (Dc (cC (.int 0))))
def Gh:n_:=En 2 2 Lq
def Ak8:Ev->SR :=
 (Bm
  (Cp (cF Gh (Ac (Ad 0) (Ac (Ad 1) Al))) (cgN 2))
  (Dc (Fy (Ac (cOp Em (cUn A0n (Ad 2)) (cUn Ng (cOp Bs8 (cUn A0n (Ad 2)) (cOp Ae8 (cC (.int 10)) (cC (.int 18)))))) (Ac (cOp Dm (cOp Dm (cOp Jp (Ad 2) (cC (.int 2305843009213693951))) (cOp Em (cC (.int 39373)) (Ad 1))) (cC (.int 17))) (Ac (cC (.int 0)) Al))))))
def Jk:n_:=En 2 3 Ak8
def R8:Ev->SR :=
 (Bm
  (cIf (Bs (cOp Ar4 (cOp Ay (Ad 0) (cC (.int 0))) (cC (.int 0)))) (Bm (Cp (cOp Jp (cOp Ay (Ad 0) (cC (.int 0))) (Ad 1)) (cgN 2))
  (Bm (Cp (cOp Ac4 (cOp Ay (Ad 0) (cC (.int 0))) (Ad 1)) (Au5 (Ad 0) (cC (.int 0))))
  (Dc (Ad 2)))) Dd)
  (Bm (Cp (cOp Dm (cOp Ay (Ad 0) (cC (.int 2))) (cC (.int 1))) (Au5 (Ad 0) (cC (.int 2))))
  (Bm (Cp (cOp Jp (cOp Em (cOp Dm (cOp Ay (Ad 0) (cC (.int 1))) (cOp Em (cC (.int 48271)) (cOp Ay (Ad 0) (cC (.int 2))))) (cOp Dm (cC (.int 39373)) (cOp Ay (Ad 0) (cC (.int 2))))) (cC (.int 2147483647))) (cgN 3))
  (Bm (Cp (cOp Jp (cOp Em (cOp Dm (Ad 3) (cOp Ay (Ad 0) (cC (.int 2)))) (cOp Dm (cOp Jp (Ad 3) (cC (.int 40009))) (cC (.int 7)))) (cC (.int 2147483629))) (cgN 4))
  (Dc (cOp Jp (cOp Ac4 (cOp Jp (cOp Dm (cOp Em (Ad 4) (cC (.int 48271))) (Ad 3)) (cC (.int 2147483587))) (cC (.int 64))) (Ad 1)))))))
def Av:n_:=En 2 5 R8
def Rk:Ev->SR :=
 (Bm
  (cIf (Bs (cOp (Cy false) (cF Av (Ac (Ad 0) (Ac (cC (.int 8)) Al))) (cC (.int 0)))) (Dc (cOp Dm (cC (.int 7)) (cF Av (Ac (Ad 0) (Ac (cOp Mq (Ad 3) (cC (.int 6))) Al))))) Dd)
  (Dc (cOp Dm (Ad 1) (cF Av (Ac (Ad 0) (Ac (cOp Dm (cOp Mq (Ad 2) (Ad 1)) (cC (.int 1))) Al))))))
def Ho:n_:=En 4 4 Rk
def Vg:Ev->SR :=
 (Bm
  (Cp (Fy (cK [.str "b",.str "a",.str "year",.str "z",.str "ab",.str "month",.str "aa",.str "quantity",.str "c",.str "town",.str "zz",.str "ba"])) (cgN 2))
  (Dc (cLC [none,some 2,some 0] (My (Ad 1)) (cgN 0) Bd (Oz (Ad 1) (cF Av (Ac (Ad 2) (Ac (Ia (Ad 1)) Al)))))))
def Je:n_:=En 2 3 Vg
def Jd:Ev->SR :=
 (Bm
  (Cp (cF Av (Ac (Ad 0) (Ac (cC (.int 9)) Al))) (cgN 1))
  (Bm (cIf (Bs (cOp Qz (Ad 1) (cC (.int 4)))) (Dc (cOp Mq (cF Av (Ac (Ad 0) (Ac (cC (.int 13)) Al))) (cC (.int 3)))) Dd)
  (Bm (cIf (Bs (cOp (Cy false) (Ad 1) (cC (.int 4)))) (Dc (cOp Ay (Fy (Ac (cOp Mq (cOp Ae8 (cC (.int 10)) (cC (.int 12))) (cC (.int 1))) (Ac (cOp Mq (cC (.int 0)) (cOp Ae8 (cC (.int 10)) (cC (.int 11)))) (Ac (cC (.int 100)) (Ac (cC (.int 10)) Al))))) (cF Av (Ac (Ad 0) (Ac (cC (.int 4)) Al))))) Dd)
  (Bm (cIf (Bs (cOp (Cy false) (Ad 1) (cC (.int 5)))) (Dc (cC (.none))) Dd)
  (Dc (cOp Ay (Fy (cK [.str "",.str "a",.str "b",.str "B",.str "10",.str "9",.str "-",.str "a b",.str "it's",.str "\\",.str "/",.str "_",.str ":",.str "None",.str "ab"])) (cF Av (Ac (Ad 0) (Ac (cC (.int 15)) Al)))))))))
def Fe:n_:=En 1 2 Jd
def Yj:Ev->SR :=
 (Bm
  (Cp (Fy Al) (cgN 2))
  (Bm (Vz (My (Ad 1)) (cgN 3) (Bm (Cp (cF Fe (Ac (Ad 0) Al)) (cgN 4))
  (cIf (Bs (cOp (M4 true) (Ad 4) (Ad 2))) (Jm (T3 (Ad 2) (Ad 4))) Dd)))
  (Dc (Ad 2))))
def G5:n_:=En 2 5 Yj
def O5:Ev->SR :=
 (Bm
  (Cp (cF Je (Ac (Ad 0) (Ac (Ad 1) Al))) (cgN 3))
  (Bm (Cp (cLC [none,some 0] (Bg (Ad 3)) (cgN 0) Bd (cF G5 (Ac (Ad 1) (Ac (cOp Ay (Fy (cK [.int 2,.int 3,.int 3,.int 5,.int 12])) (cF Av (Ac (Ad 1) (Ac (cC (.int 5)) Al)))) Al)))) (cgN 4))
  (Bm (Cp (Fy Al) (cgN 5))
  (Bm (Vz (My (Ad 2)) (cgN 6) (Bm (Cp (cUn Az (cLC [none,some 0] (Bg (Ad 4)) (cgN 0) Bd (cOp Ay (Ad 0) (cF Av (Ac (Ad 1) (Ac (Ia (Ad 0)) Al)))))) (cgN 7))
  (Bm (cIf (Bh5 (Bs (cOp (Cy true) (Ad 5) (Fy Al))) (Bs (cOp (Cy false) (cF Av (Ac (Ad 0) (Ac (cC (.int 9)) Al))) (cC (.int 0))))) (Cp (cOp Ay (Ad 5) (cF Av (Ac (Ad 0) (Ac (Ia (Ad 5)) Al)))) (cgN 7)) Dd)
  (Jm (T3 (Ad 5) (Ad 7))))))
  (Dc (Dq (Ac (cUn Az (Ad 3)) (Ac (cUn Az (Ad 5)) Al))))))))
def Ml:n_:=En 3 8 O5
def Nh:Ev->SR :=
 (Dc (cF Ml (Ac (Ad 0) (Ac (cF Ho (Ac (Ad 0) (Ac (cC (.int 2)) (Ac (cC (.int 5)) (Ac (cC (.int 12)) Al))))) (Ac (cF Ho (Ac (Ad 0) (Ac (cC (.int 0)) (Ac (cC (.int 8)) (Ac (cC (.int 24)) Al))))) Al)))))
def Ge:n_:=En 1 1 Nh
def Sw:Ev->SR :=
 (Bm
  (Cp (cUn Jf (Ad 1)) (cgN 2))
  (Bm (Cp (cLC [none,some 2,some 0] (Bg (Ad 1)) (cgN 0) Bd (Oz (Ad 1) (cF Av (Ac (Ad 2) (Ac (Ia (Ad 1)) Al))))) (cgN 3))
  (Bm (Cp (cOp Dm (cC (.int 1)) (cF Av (Ac (Ad 0) (Ac (cOp Aq9 (cOp Ay (Fy (Ac (cC (.int 3)) (Ac (cC (.int 9)) Al))) (cUn Ng (cOp (Cy false) (cF Av (Ac (Ad 0) (Ac (cC (.int 8)) Al))) (cC (.int 0))))) (Ia (Ad 3))) Al)))) (cgN 4))
  (Bm (Cp (cSl Xc (Ad 3) (cOS (Ad 4)) cON) (cgN 5))
  (Bm (Cp (cF Av (Ac (Ad 0) (Ac (cOp Dm (Ia (Ad 5)) (cC (.int 1))) Al))) (cgN 6))
  (Dc (Dq (Ac (cSl Xc (Ad 5) cON (cOS (Ad 6))) (Ac (cSl Xc (Ad 5) (cOS (Ad 6)) cON) (Ac (cSl Xc (Ad 3) cON (cOS (Ad 4))) Al))))))))))
def Ib:n_:=En 2 7 Sw
def Au8:Ev->SR :=
 (Dc (cUn Az (cLC [none,some 1,some 0] (Bg (Ad 2)) (cgN 0) Bd (cOp Ay (Ad 1) (cMt O4 Lg (cOp Ay (Ad 2) (cC (.int 0))) (Ad 0))))))
def Ei:n_:=En 3 3 Au8
def Ie:Ev->SR :=
 (Bm
  (Cp (Fy Al) (cgN 2))
  (Bm (Cp (Fy Al) (cgN 3))
  (Bm (Vz (Bg (cOp Ay (Ad 0) (cC (.int 1)))) (cgN 4) (cIf (Bs (cOp (M4 true) (cF Ei (Ac (Ad 0) (Ac (Ad 4) (Ac (Ad 1) Al)))) (Ad 2))) (Bm (Jm (T3 (Ad 2) (cF Ei (Ac (Ad 0) (Ac (Ad 4) (Ac (Ad 1) Al))))))
  (Jm (T3 (Ad 3) (Ad 4)))) Dd))
  (Dc (Dq (Ac (cOp Ay (Ad 0) (cC (.int 0))) (Ac (cUn Az (Ad 3)) Al)))))))
def Dk:n_:=En 2 5 Ie
def N8:Ev->SR :=
 (Bm
  (cIf (Bs (cOp (Jh false) (Ad 0) (cC (.none)))) (Dc (Dq (Ac (cC (.int 0)) (Ac (cC (.int 0)) (Ac (cC (.str "")) Al))))) Dd)
  (Bm (cIf (Bs (cUn (Ep .str) (Ad 0))) (Dc (Dq (Ac (cC (.int 2)) (Ac (cC (.int 0)) (Ac (Ad 0) Al))))) Dd)
  (Dc (Dq (Ac (cC (.int 1)) (Ac (Ad 0) (Ac (cC (.str "")) Al)))))))
def Gi:n_:=En 1 1 N8
def Us:Ev->SR :=
 (Dc (cLC [none] (Bg (Ad 0)) (cgN 0) Bd (cF Gi (Ac (Ad 0) Al))))
def Cz:n_:=En 1 1 Us
def Hn (pr:n_):Ev->SR :=
 (Bm
  (cIf (Bs (cUn (Pb .list .tuple) (Ad 1))) (Bm (cIf (cOr (Bs (cOp (Cy true) (cUn (Ep .list) (Ad 0)) (cUn (Ep .list) (Ad 1)))) (Bs (cOp (Cy true) (cUn (Ep .tuple) (Ad 0)) (cUn (Ep .tuple) (Ad 1))))) (Dc (cC (.bool false))) Dd)
  (Dc (Vr (cOp (Cy false) (Ia (Ad 0)) (Ia (Ad 1))) (cUn Al4 (cLC [none,none] (Bh4 (Ad 0) (Ad 1)) (cgT 2 (Bo (cgN 0) (Bo (cgN 1) Gm))) Bd (cF pr (Ac (Ad 0) (Ac (Ad 1) Al)))))))) Dd)
  (Bm (cIf (cOr (Bs (cOp (Jh false) (Ad 1) (cC (.none)))) (Bs (cUn (Ep .str) (Ad 1)))) (Dc (Vr (cOp (Cy false) (Ad 0) (Ad 1)) (cOp (Cy false) (cUn (Ep .str) (Ad 0)) (cUn (Ep .str) (Ad 1))))) Dd)
  (Bm (cIf (Bs (cUn (Ep .bool) (Ad 1))) (Dc (Vr (cUn (Ep .bool) (Ad 0)) (cOp (Cy false) (Ad 0) (Ad 1)))) Dd)
  (Dc (Vr (cUn (Ep .int) (Ad 0)) (Vr (A6l (cUn (Ep .bool) (Ad 0))) (cOp (Cy false) (Ad 0) (Ad 1))))))))
def Cu:Nat->List O->FR
 | 0=>fun _=>.bad
 | k+1=>En 2 2 (Hn (Cu k))
def Ea:BF :=
 (Ae3 (Bk0 (d:=7) 9 10 (Ac (cF Ei (Ac (Ad 0) (Ac (Ad 8) (Ac (Ad 1) Al)))) (Ac (cF Ei (Ac (Ad 0) (Ac (Ad 8) (Ac (Ad 2) Al)))) Al)))
  (Ae3 (Tp (d:=7) (cOp Dm (Ad 5) (cOp Np (Fy (Ac (Ad 9) Al)) (cUn Ng (cOp (M4 true) (Ad 9) (Ad 5))))) (cgN 5))
  (Ae3 (Tp (d:=7) (cOp Dm (Ad 6) (cOp Np (Fy (Ac (Ad 10) Al)) (cUn Ng (cOp (M4 true) (Ad 10) (Ad 6))))) (cgN 6))
  (Ad8 (d:=7) (Dq (Ac (Ad 9) (Ac (Ad 10) Al))) (fun _ _=>(cF Ei (Ac (Ad 0) (Ac (Ad 8) (Ac (Ad 3) Al)))))))))
def Nx:Ev->SR :=
 (Bm
  (Cp (Dq (Ac (Fy Al) (Ac (Fy Al) Al))) (cgT 2 (Bo (cgN 5) (Bo (cgN 6) Gm))))
  (Nm 7 (Xi (d:=7) (Bg (cOp Ay (Ad 0) (cC (.int 1)))) (cgN 8) Ea)
  (Bm (cIf (Bs (cOp (Cy false) (Ad 4) (cC (.str "rising")))) (Cp (Aj8 Cz (Ad 6)) (cgN 6)) Dd)
  (Bm (Cp (cLC [none,some 6,some 7] (A0x 6 (Bg (Ad 5))) (cgN 0) Bd (Dq (Ac (Ad 0) (Ac (cUn Az (cLC [none,some 2,some 0] (Bg (Ad 1)) (cgN 0) Bd (Ik (Ad 1) (Dq (Ac (Ad 2) (Ac (Ad 0) Al))) (cC .none)))) Al)))) (cgN 11))
  (Dc (Dq (Ac (cUn Az (Ad 1)) (Ac (cUn Az (Ad 2)) (Ac (cUn Az (Ad 3)) (Ac (cUn Az (Ad 6)) (Ac (cUn Az (Ad 11)) Al)))))))))))
def Fd:n_:=En 5 12 Nx
def Vw:Ev->SR :=
 (Bm
  (Cp (cOp Dm (cC (.int 1)) (cF Av (Ac (Ad 0) (Ac (cC (.int 59)) Al)))) (cgN 1))
  (Dc (Dq (Ac (Dq (Ac (cC (.str "a")) (Ac (cC (.str "b")) (Ac (cC (.str "c")) Al)))) (Ac (cUn Az (cLC [none,some 1] (My (cC (.int 60))) (cgN 0) Bd (Dq (Ac (cOp Mq (Ad 0) (cC (.int 7))) (Ac (cUn Ou (cOp Jp (cOp Em (Ad 0) (cC (.int 7))) (cC (.int 60)))) (Ac (cOp Em (Ad 0) (Ad 1)) Al)))))) Al)))))
def Jj:n_:=En 1 2 Vw
def Qm:Ev->SR :=
 (Bm
  (Cp (cF Fd (Ac (Ad 3) (Ac (Ad 4) (Ac (Ad 5) (Ac (Ad 6) (Ac (Ad 8) Al)))))) (cgN 9))
  (Bm (Cp (cF Ft (Ac (Ad 3) (Ac (Ad 4) (Ac (Ad 5) (Ac (Ad 6) (Ac (Ad 8) Al)))))) (cgN 10))
  (Bm (cIf (A7z (Bs (cF (Cu 8) (Ac (Ad 10) (Ac (Ad 9) Al))))) (Dc (cC (.bool false))) Dd)
  (Bm (Cp (cLC [none,some 2] (Bg (Dq (Ac (Ad 4) (Ac (Ad 5) (Ac (Ad 6) Al))))) (cgN 0) Bd (cOp Ay (Fy (Ac (cUn Jf (Ad 0)) (Ac (cUn Az (Ad 0)) Al))) (cF Av (Ac (Ad 1) (Ac (cC (.int 2)) Al))))) (cgN 11))
  (Bm (Cp (cF Ft (Ac (Ad 3) (Ac (cOp Ay (Ad 11) (cC (.int 0))) (Ac (cOp Ay (Ad 11) (cC (.int 1))) (Ac (cOp Ay (Ad 11) (cC (.int 2))) (Ac (Ad 8) Al)))))) (cgN 12))
  (cIf (cOr (Bs (cOp (Cy true) (Ad 12) (Ad 9))) (Bs (cOp (Cy true) (cUn Ou (Ad 3)) (Ad 7)))) (Dc (cC (.bool false))) Dd))))))
def Q4:Ev->SR :=
 (Bm
  (Cp (cF Jk (Ac (Ad 0) (Ac (Ad 1) Al))) (cgN 2))
  (Bm (Cp (cF Ge (Ac (Ad 2) Al)) (cgN 3))
  (Bm (Cp (cF Ib (Ac (Ad 2) (Ac (cOp Ay (Ad 3) (cC (.int 0))) Al))) (cgT 3 (Bo (cgN 4) (Bo (cgN 5) (Bo (cgN 6) Gm)))))
  (Bm (Cp (cF Dk (Ac (Ad 3) (Ac (cOp Dm (Ad 4) (Ad 5)) Al))) (cgN 3))
  (Bm (Cp (cUn Ou (Ad 3)) (cgN 7))
  (Vz (Bg (Dq (Ac (cC (.str "seen")) (Ac (cC (.str "rising")) Al)))) (cgN 8) Qm))))))
def M8:Ev->SR :=
 (Bm
  (Cp (cF Fd (Ac (Ad 3) (Ac (Ad 4) (Ac (Ad 5) (Ac (Fy (Ac (cC (.str "c")) Al)) (Ac (Ad 8) Al)))))) (cgN 9))
  (cIf (A7z (Bs (cF (Cu 8) (Ac (cF Ft (Ac (Ad 3) (Ac (Ad 4) (Ac (Ad 5) (Ac (Fy (Ac (cC (.str "c")) Al)) (Ac (Ad 8) Al)))))) (Ac (Ad 9) Al))))) (Dc (cC (.bool false))) Dd))
def Q5:Ev->SR :=
 (Vz (Bg (Dq (Ac (cC (.str "seen")) (Ac (cC (.str "rising")) Al)))) (cgN 8) M8)
def As8:Ev->SR :=
 (Bm
  (Vz (My (cC (.int 7))) (cgN 1) Q4)
  (Bm (Cp (cFO Jj (cF Jk (Ac (Ad 0) (Ac (cC (.int 7)) Al))) Al) (cgN 3))
  (Bm (Vz (Bg (Dq (Ac (Dq (Ac (Fy (Ac (cC (.str "a")) Al)) (Ac (Fy (Ac (cC (.str "b")) Al)) Al))) (Ac (Dq (Ac (Fy Al) (Ac (Fy (Ac (cC (.str "b")) (Ac (cC (.str "a")) Al))) Al))) (Ac (Dq (Ac (Fy (Ac (cC (.str "b")) (Ac (cC (.str "a")) Al))) (Ac (Fy Al) Al))) Al))))) (cgT 2 (Bo (cgN 4) (Bo (cgN 5) Gm))) Q5)
  (Dc (cC (.bool true))))))
def At2:n_:=En 1 13 As8
local macro_rules | `(tactic| wp_walk using $ts,*)=>`(tactic| simp only [Bm,Cp,cgN,cgT,Bo,Gm,Ad,cC,cOp,cUn,Ia,cF,cFO,cFz,List.contains_cons,S5,Zr,slots,pairsOf,ndB,Hm,Al,Ac,cK,nrm,Ef,rdP,O.dat,O.flag,O.bor,frz,frzs,Dq,Fy,cIf,Bs,Bd,Bh5,cOr,A7z,Vr,A6l,Bz3,Dc,Jm,Dd,Nf,T3,slL,Oz,Au5,cSl,cON,cOS,My,cIn,R.bind_ok,R.toS_ok,En,A1h,resolve,Hz,Zk,U.opI,U.Xn,Ar4,Bs8,Mq,Ac4,Jp,Ae8,Ny,K5,Bz4,List.getElem?_cons_zero,fJ,List.set_cons_zero,List.set_cons_succ,aD,cN,aQ,cY,List.replicate,List.cons_append,cX,cH,List.contains_nil,gU,Option.map_none,dY,Option.join_some,jk,bV,aZ,Bool.not_true,Bool.not_false,Bool.and_true,iY,Bool.and_false,Bool.false_and,Bool.or_true,iB,Bool.true_or,Bool.false_or,cR,List.dropLast,List.any_nil,List.flatMap_nil,ite_true,ite_false,decide_true,decide_false,reduceCtorEq,B2a,B1q,B1k,B1x,B0u,Bt8,Bp0,Bv1,U.A1t,bf,Nat.reduceAdd,Nat.reduceSub,Nat.reduceLeDiff,Nat.reduceLT,Nat.reduceEqDiff,Int.reduceAdd,Int.reduceSub,Int.reduceNeg,Int.reduceLT,Int.reduceLE,Int.reducePow,Int.reduceToNat,Int.reduceMul,and_self,and_true,bC,bO,Option.some.injEq,$[$ts:term],*])
def Bx (n:Nat)(ds:w5):Prop:=∃x y z:Int,ds=[.int x,.int y,.int z]/\0<=x/\0<=y/\y<2 ^ 62/\0<=z/\z<=n
theorem Bx.mono {n m:Nat}{ds:w5}(h:Bx n ds)(l:n<=m):Bx m ds:=by
 obtain⟨x,y,z,e,h1,h2,h3,h4,h5⟩:=h
 exact⟨x,y,z,e,h1,h2,h3,h4,by omega⟩
theorem mod_lt {x m:Int}(h:0<m):0<=x % m/\x % m<m:=⟨Int.emod_nonneg _ (by omega),Int.emod_lt_of_pos _ h⟩
theorem A6h {i j:Int}(h:-(2 ^ 64)<i/\i<2 ^ 64):V0 i j=true:=by
 unfold V0;rw[aF h.1,aF h.2];rfl
theorem Ac1 {i j:Int}(h:-(2 ^ 64)<j/\j<2 ^ 64):V0 i j=true:=by
 unfold V0;rw[aF h.1,aF h.2];simp
theorem At8 {i j:Int}(h:0<j):A5v i j=true:=aF h
theorem B0w {i j:Int}(h:0<j/\j<1073741824):A0f i j=true:=by
 unfold A0f;rw[aF h.1,aF h.2];rfl
theorem B0j:Ak2 10 18=true:=by decide
theorem B0q:Ak2 10 12=true:=by decide
theorem B1n:Ak2 10 11=true:=by decide
theorem Ec {n:Nat}{ds:w5}{m:Int}(hb:Bx n ds)(hn:n<2 ^ 40)(h0:0<m)(h1:m<16000000) :
 ∃r ds',Bx (n+1) ds'/\0<=r/\r<m/\Av [.ls true ds,.im (.int m)]=.ret (.im (.int r)) [.ls true ds',.im (.int m)]:=by
 obtain⟨x,y,z,rfl,x0,y0,y1,z0,z1⟩:=hb
 by_cases c:0<x
 ·refine⟨x % m,[.int (x / m),.int y,.int z],⟨_,_,_,rfl,Int.ediv_nonneg x0 (by omega),y0,y1,z0,by omega⟩,(mod_lt h0).1,(mod_lt h0).2,?_⟩
  wp_walk using Av,R8,Ay,aF c,At8 h0,B0w ⟨h0,(by omega:m<1073741824)⟩
 ·have g1:=mod_lt (x:=(y+48271*(z+1))*(39373+(z+1))) (m:=2147483647) (by decide)
  generalize e1:(y+48271*(z+1))*(39373+(z+1)) % 2147483647=once at g1
  have g2:=mod_lt (x:=once) (m:=40009) (by decide)
  have g3:=mod_lt (x:=(once+(z+1))*(once % 40009+7)) (m:=2147483629) (by decide)
  generalize e2:(once+(z+1))*(once % 40009+7) % 2147483629=twice at g3
  refine⟨(twice*48271+once) % 2147483587 / 64 % m,[.int x,.int y,.int (z+1)],⟨_,_,_,rfl,x0,y0,y1,by omega,by omega⟩,(mod_lt h0).1,(mod_lt h0).2,?_⟩
  wp_walk using Av,R8,Ay,Em,Dm,aL c,At8 h0,B0w (i:=(twice*48271+once) % 2147483587) (j:=64) ⟨by decide,by decide⟩,A6h (i:=48271) (j:=z+1) ⟨by decide,by decide⟩,Ac1 (i:=y+48271*(z+1)) (j:=39373+(z+1)) ⟨by omega,by omega⟩,At8 (i:=(y+48271*(z+1))*(39373+(z+1))) (j:=2147483647) (by decide),e1,At8 (i:=once) (j:=40009) (by decide),Ac1 (i:=once+(z+1)) (j:=once % 40009+7) ⟨by omega,by omega⟩,At8 (i:=(once+(z+1))*(once % 40009+7)) (j:=2147483629) (by decide),e2,Ac1 (i:=twice) (j:=48271) ⟨by decide,by decide⟩,At8 (i:=twice*48271+once) (j:=2147483587) (by decide)
theorem Ap8 {ns:List Int}{k:Nat}:∃i:Int,Gh [.sc ns,.im (.int k)]=.ret (.im (.int i)) [.sc ns,.im (.int k)]:=by
 by_cases c:k<ns.length
 ·refine⟨ns[k],?_⟩
  have e:atI ns (k:Int)=some ns[k]:=Iz (bj c)
  wp_walk using Gh,Lq,Qz,Dj,PyData.canLay0,PyData.depth,Ls,aF (show (k:Int)<(ns.length:Int) by omega),e,aW
 ·refine⟨0,?_⟩
  wp_walk using Gh,Lq,Qz,Dj,PyData.canLay0,PyData.depth,Ls,aL (show ¬ (k:Int)<(ns.length:Int) by omega),aW
theorem A5h {ns:List Int}{k:Nat}(hk:k<=63):∃ds,Bx 0 ds/\Jk [.sc ns,.im (.int k)]=.ret (.ls false ds) [.sc ns,.im (.int k)]:=by
 obtain⟨i,e⟩:=Ap8 (ns:=ns) (k:=k)
 have habs:(0:Int)<=(if i<0 then -i else i):=by split <;> omega
 have hm:=mod_lt (x:=i) (m:=2305843009213693951) (by decide)
 generalize ea:(if i<0 then -i else i)=ab at habs
 have h1:(0:Int)<=(if decide ((1000000000000000000:Int)<=ab)=true then 1 else 0)/\(if decide ((1000000000000000000:Int)<=ab)=true then (1:Int) else 0)<=1:=by split <;> omega
 generalize eo:(if decide ((1000000000000000000:Int)<=ab)=true then (1:Int) else 0)=on at h1
 refine⟨[.int (ab*on),.int (i % 2305843009213693951+39373*(k:Int)+17),.int 0],⟨_,_,_,rfl,Int.mul_nonneg habs h1.1,by omega,by omega,by omega,by omega⟩,?_⟩
 wp_walk using Jk,Ak8,e,A0n,ea,Ng,Em,Dm,eo,B0j,At8 (i:=i) (j:=2305843009213693951) (by decide),Ac1 (i:=ab) (j:=on) ⟨by omega,by omega⟩,A6h (i:=39373) (j:=(k:Int)) ⟨by decide,by decide⟩
theorem Aw8 {n:Nat}{ds:w5}{l f m:Int}(hb:Bx n ds)(hn:n<2 ^ 39)(h0:0<=l)(h1:l<=7)(h2:l<=f)(h3:f<=m)(h4:7<=m)(h5:m<1000) :
 ∃r ds',Bx (n+2) ds'/\l<=r/\r<=m/\Ho [.ls true ds,.im (.int l),.im (.int f),.im (.int m)]=.ret (.im (.int r)) [.ls true ds',.im (.int l),.im (.int f),.im (.int m)]:=by
 obtain⟨r,d1,b1,r0,r1,e1⟩:=Ec (m:=8) hb (by omega) (by decide) (by decide)
 by_cases c:r=0
 ·subst c
  obtain⟨q,d2,b2,q0,q1,e2⟩:=Ec (m:=m-6) b1 (by omega) (by omega) (by omega)
  refine⟨7+q,d2,b2,by omega,by omega,?_⟩
  wp_walk using Ho,Rk,e1,e2,Cy,Dj,PyData.canLay0,PyData.depth,PyData.eqv,Dm,aW,dG
 ·obtain⟨q,d2,b2,q0,q1,e2⟩:=Ec (m:=f-l+1) b1 (by omega) (by omega) (by omega)
  refine⟨l+q,d2,b2,by omega,by omega,?_⟩
  wp_walk using Ho,Rk,e1,e2,Cy,Dj,PyData.canLay0,PyData.depth,PyData.eqv,Dm,aW,cD.mpr c
theorem Ba4 {n:Nat}{ds:w5}(hb:Bx n ds)(hn:n<2 ^ 39):∃(v:Vl) (ds':w5),Bx (n+2) ds'/\VB v/\Fe [.ls true ds]=.ret (.im v.d) [.ls true ds']:=by
 obtain⟨r,d1,b1,r0,r1,e1⟩:=Ec (m:=9) hb (by omega) (by decide) (by decide)
 by_cases c4:r<4
 ·obtain⟨q,d2,b2,q0,q1,e2⟩:=Ec (m:=13) b1 (by omega) (by decide) (by decide)
  refine⟨.int (q-3),d2,b2,?_,?_⟩
  ·show (decide (-1000000000000<=q-3)&&decide (q-3<=1000000000000))=true
   rw[aF (by omega),aF (by omega)];rfl
  wp_walk using Fe,Jd,e1,e2,Qz,Ls,Dj,PyData.canLay0,PyData.depth,aW,aF c4,Vl.d
 by_cases c5:r=4
 ·subst c5
  obtain⟨q,d2,b2,q0,q1,e2⟩:=Ec (m:=4) b1 (by omega) (by decide) (by decide)
  obtain⟨d,hd,hm,_⟩:=We (l:=[PyData.int 999999999999,.int (-100000000000),.int 100,.int 10]) (r:=q) q0 q1
  have hv:∃v:Vl,d=v.d/\VB v:=by
   simp only[az,aM,aN]at hm
   rcases hm with rfl | rfl | rfl | rfl <;> exact⟨.int _,rfl,by decide⟩
  obtain⟨v,rfl,hi⟩:=hv
  refine⟨v,d2,b2,hi,?_⟩
  wp_walk using Fe,Jd,e1,e2,Qz,Ls,Cy,Dj,PyData.canLay0,PyData.depth,PyData.eqv,aW,aL c4,dG,B0q,B1n,Ay,hd
 by_cases c6:r=5
 ·subst c6
  refine⟨.non,d1,b1.mono (by omega),rfl,?_⟩
  wp_walk using Fe,Jd,e1,Qz,Ls,Cy,Dj,PyData.canLay0,PyData.depth,PyData.eqv,aW,aL c4,dG,cD.mpr c5,Vl.d
 ·obtain⟨q,d2,b2,q0,q1,e2⟩:=Ec (m:=15) b1 (by omega) (by decide) (by decide)
  obtain⟨d,hd,hm,_⟩:=We (l:=[PyData.str "",.str "a",.str "b",.str "B",.str "10",.str "9",.str "-",.str "a b",.str "it's",.str "\\",.str "/",.str "_",.str ":",.str "None",.str "ab"]) (r:=q) q0 q1
  have hv:∃v:Vl,d=v.d/\VB v:=by
   simp only[az,aM,aN]at hm
   rcases hm with rfl | rfl | rfl | rfl | rfl | rfl | rfl | rfl | rfl | rfl | rfl | rfl | rfl | rfl | rfl <;> exact⟨.str _,rfl,by decide⟩
  obtain⟨v,rfl,hi⟩:=hv
  refine⟨v,d2,b2,hi,?_⟩
  wp_walk using Fe,Jd,e1,e2,Qz,Ls,Cy,Dj,PyData.canLay0,PyData.depth,PyData.eqv,aW,aL c4,cD.mpr c5,cD.mpr c6,Ay,hd
def names12:v4:=[Str.ofString "b",Str.ofString "a",Str.ofString "year",Str.ofString "z",Str.ofString "ab",Str.ofString "month",Str.ofString "aa",Str.ofString "quantity",Str.ofString "c",Str.ofString "town",Str.ofString "zz",Str.ofString "ba"]
theorem B1c {m:Nat}(h:m<=1000):(m:Int)<=16000000/\-16000000<=(m:Int):=by omega
theorem upN {n k a b c:Nat}(hn:n<a)(hk:k<=b)(h:a+b<=c):n+k<c:=aP (Nat.add_lt_add_of_lt_of_le hn hk) h
theorem Az0 {n:Nat}{r:Int}(h0:0<=r)(h1:r<n):ixN n r=some r.toNat:=by
 unfold ixN;rw[if_pos h0,if_pos h1]
theorem Ua {lo:Int}{n:Nat}:(Ka lo n).length=n:=by unfold Ka;rw[ak,dq]
theorem Uj {lo:Int}{n k:Nat}{d:q_}(h:(Ka lo n)[k]?=some d):d=.int (lo+k)/\k<n:=by
 unfold Ka at h;obtain⟨x,h1,h2⟩:=Du h
 have hk:k<n:=by
  rcases bc k n with q | q
  ·exact q
  ·rw[bU (by rw[dq];exact q)]at h1;cases h1
 rw[j7 hk]at h1
 cases h1
 exact⟨h2.symm,hk⟩
theorem Q8 {α β:Type}(f:α->β):∀(l:List α) (j:Nat),(l.map f).eraseIdx j=(l.eraseIdx j).map f
 | [],j=>rfl
 | a::l,0=>rfl
 | a::l,j+1=>by rw[aD,jD,jD,aD,Q8 f l j]
theorem O6 {α:Type}:∀(l:List α) {j:Nat}(h:j<l.length),(l[j]::l.eraseIdx j).Perm l
 | a::l,0,h=>j8 _
 | a::l,j+1,h=>by
  rw[jD,List.getElem_cons_succ]
  exact(List.Perm.swap a _ _).trans (List.Perm.cons a (O6 l (by simpa using h)))
structure Names (ns:v4):Prop where
 nd:ns.Nodup
 sub:∀x∈ns,x∈names12
theorem A5y {n:Nat}{ds:w5}{m:Nat}(hb:Bx n ds)(hn:n<2 ^ 38)(hm:m<=12) :
 ∃ns ds',ns.length=m/\Names ns/\Bx (n+m) ds'/\Je [.ls true ds,.im (.int m)]=.ret (.ls false (ns.map PyData.str)) [.ls true ds',.im (.int m)]:=by
 have loop:=K6 (g:=cgN 0) (ft:=Bd) (fe:=Oz (Ad 1) (cF Av (Ac (Ad 2) (Ac (Ia (Ad 1)) Al)))) (items:=Ka 0 m) (acc:=[]) (n:=0) (c:=[none,some (.ls true (names12.map PyData.str)),some (.ls true ds)])
  (P:=fun k acc c=>∃left d1 t ns,c=[t,some (.ls true (left.map PyData.str)),some (.ls true d1)]/\Bx (n+k) d1/\acc=ns.map PyData.str/\(ns++left).Perm names12/\ns.length=k)
  ⟨names12,ds,none,[],rfl,hb,rfl,j8 _,rfl⟩ (fun k d acc c hd hP=>by
   rw[bf]at hP ⊢;obtain⟨left,d1,t,ns,rfl,b1,rfl,pm,hl⟩:=hP;obtain⟨rfl,hk⟩:=Uj hd
   have ll:left.length+k=12:=by have:=pm.length_eq;rw[aK,hl]at this;have e:names12.length=12:=rfl;omega
   obtain⟨r,d2,b2,r0,r1,e1⟩:=Ec (m:=(left.length:Int)) b1 (by omega) (by omega) (by omega)
   have hr:r.toNat<left.length:=by omega
   have hx:(left.map PyData.str)[r.toNat]?=some (.str left[r.toNat]):=by simp[hr]
   have hix:ixN left.length r=some r.toNat:=Az0 r0 r1
   refine⟨some (.str left[r.toNat]),[some (.im (.int (0+(k:Int)))),some (.ls true ((left.eraseIdx r.toNat).map PyData.str)),some (.ls true d2)],?_,left.eraseIdx r.toNat,d2,_,ns++[left[r.toNat]],rfl,b2.mono (by omega),by simp,?_,by simp[hl]⟩
   ·wp_walk using Jl,ak,e1,hix,hx,Q8,show left.length<=16000000 by omega
   ·rw[fY]
    exact(List.Perm.append_left ns (O6 left hr)).trans pm)
 obtain⟨acc,cI,e,left,d1,t,ns,rfl,b1,rfl,pm,hl⟩:=loop;rw[bf,Ua]at b1 hl
 have nd:(ns++left).Nodup:=pm.nodup_iff.mpr (by decide)
 refine⟨ns,d1,hl,⟨(dZ.mp nd).1,fun x hx=>pm.mem_iff.mp (dh _ hx)⟩,b1,?_⟩
 have e2:cLC [none,some 2,some 0] (My (Ad 1)) (cgN 0) Bd (Oz (Ad 1) (cF Av (Ac (Ad 2) (Ac (Ia (Ad 1)) Al)))) [some (.ls true ds),some (.im (.int m)),some (.ls false (names12.map PyData.str))]=.ok (.o (.ls false (ns.map PyData.str))) [some (.ls true d1),some (.im (.int m)),some (.ls false (left.map PyData.str))] :=
  Fl (ds:=Ka 0 m) (c1:=[some (.ls true ds),some (.im (.int m)),some (.ls false (names12.map PyData.str))]) (by wp_walk using B1c (m:=m) (au hm (by decide)),fU) (by rw[Ua];exact au hm (by decide)) e (by wp_walk using bC)
 unfold Je Vg;simp only[names12,aD,cN]at e2
 wp_walk using e2
theorem A1p {k:Nat}{vs:m9}{v:Vl}(h:v∉vs)(nd:vs.Nodup):(vs++[v]).Nodup:=by
 rw[dZ]
 exact⟨nd,by simp,fun a ha b hb e=>by rw[aY.mp hb]at e;exact h (e▸ha)⟩
theorem Bh3 {n:Nat}{ds:w5}{m:Nat}(hb:Bx n ds)(hn:n<2 ^ 38)(hm:m<=1000) :
 ∃vs ds',VBs vs/\vs.Nodup/\vs.length<=m/\(0<m->vs≠[])/\Bx (n+2*m) ds'/\G5 [.ls true ds,.im (.int m)]=.ret (.ls false (vs.map Vl.d)) [.ls true ds',.im (.int m)]:=by
 have loop:=Ni (g:=cgN 3) (body:=Bm (Cp (cF Fe (Ac (Ad 0) Al)) (cgN 4)) (cIf (Bs (cOp (M4 true) (Ad 4) (Ad 2))) (Jm (T3 (Ad 2) (Ad 4))) Dd)) (items:=Ka 0 m) (n:=0) (c:=[some (.ls true ds),some (.im (.int m)),some (.ls false []),none,none])
  (P:=fun k c=>∃d1 vs x y,c=[some (.ls true d1),some (.im (.int m)),some (.ls false (vs.map Vl.d)),x,y]/\Bx (n+2*k) d1/\VBs vs/\vs.Nodup/\vs.length<=k/\(0<k->vs≠[]))
  ⟨ds,[],none,none,rfl,hb,(fun v hv=>by cases hv),eY,aq _,fun h=>absurd h (by decide)⟩ (fun k d c hd hP=>by
   rw[bf]at hP ⊢;obtain⟨d1,vs,x,y,rfl,b1,hv,nd,hl,hne⟩:=hP;obtain⟨rfl,hk⟩:=Uj hd
   obtain⟨v,d2,b2,vv,e1⟩:=Ba4 b1 (upN hn (jC 2 (au (ir hk) hm)) (by decide))
   by_cases c:v∈vs
   ·refine⟨[some (.ls true d2),some (.im (.int m)),some (.ls false (vs.map Vl.d)),some (.im (.int (0+(k:Int)))),some (.im v.d)],.inl ?_,d2,vs,_,_,rfl,b2,hv,nd,Nat.le_succ_of_le hl,fun _ z=>by rw[z]at c;cases c⟩
    wp_walk using e1,A8a vv hv,aF c
   ·refine⟨[some (.ls true d2),some (.im (.int m)),some (.ls false ((vs++[v]).map Vl.d)),some (.im (.int (0+(k:Int)))),some (.im v.d)],.inl ?_,d2,vs++[v],_,_,rfl,b2,VBs.app hv (fun u hu=>by rw[aY.mp hu];exact vv),A1p (k:=k) c nd,by rw[aK,eU];omega,fun _=>by simp⟩
    wp_walk using e1,A8a vv hv,aL c,ak,show vs.length<16000000 from bW hl (aP hk (au hm (by decide))),bI)
 obtain⟨c',e,d1,vs,x,y,rfl,b1,hv,nd,hl,hne⟩:=loop;rw[bf,Ua]at b1 hl hne
 refine⟨vs,d1,hv,nd,hl,hne,b1,?_⟩
 unfold G5 Yj
 wp_walk using Vz,B1c hm,fU,e
structure Tb where
 cols:v4
 rows:m8
def Tb.d (t:Tb):q_:=.tuple [.tuple (t.cols.map PyData.str),.tuple (t.rows.map tD)]
structure Tb.Ok (t:Tb):Prop where
 nms:Names t.cols
 cpos:2<=t.cols.length
 clen:t.cols.length<=12
 rows:∀r∈t.rows,r.length=t.cols.length/\VBs r
 rlen:t.rows.length<=60
def plD (vs:m9):q_:=.list (vs.map Vl.d)
structure Aw3 (n:Nat) (ps:m8):Prop where
 len:ps.length=n
 each:∀p∈ps,VBs p/\p≠[]/\p.length<=12
theorem A6i {n:Nat}{ds:w5}{items:w5}(hb:Bx n ds)(hn:n<2 ^ 37)(hl:items.length<=100) :
 ∃
  ps d1 t,Aw3 items.length ps/\Bx (n+25*items.length) d1 /\
  Ed (cgN 0) Bd (cF G5 (Ac (Ad 1) (Ac (cOp Ay (Fy (cK [.int 2,.int 3,.int 3,.int 5,.int 12])) (cF Av (Ac (Ad 1) (Ac (cC (.int 5)) Al)))) Al))) items [] [none,some (.ls true ds)]=.ok (ps.map plD) [t,some (.ls true d1)]:=by
 have loop:=K6 (g:=cgN 0) (ft:=Bd) (fe:=cF G5 (Ac (Ad 1) (Ac (cOp Ay (Fy (cK [.int 2,.int 3,.int 3,.int 5,.int 12])) (cF Av (Ac (Ad 1) (Ac (cC (.int 5)) Al)))) Al))) (items:=items) (acc:=[]) (n:=0) (c:=[none,some (.ls true ds)])
  (P:=fun k acc c=>∃d1 t ps,c=[t,some (.ls true d1)]/\k<=items.length/\Bx (n+25*k) d1/\acc=ps.map plD/\Aw3 k ps)
  ⟨ds,none,[],rfl,aW _,hb,rfl,rfl,fun p hp=>nomatch hp⟩ (fun k d acc c hd hP=>by
   rw[bf]at hP ⊢;obtain⟨d1,t,ps,rfl,hk0,b1,rfl,hp⟩:=hP;have hk':k<items.length:=(bL.mp hd).1
   obtain⟨r,d2,b2,r0,r1,e1⟩:=Ec (m:=5) b1 (by omega) (by decide) (by decide)
   obtain⟨x,hx,hm,_⟩:=We (l:=[PyData.int 2,.int 3,.int 3,.int 5,.int 12]) (r:=r) r0 r1
   have hv:∃m:Nat,x=.int m/\0<m/\m<=12:=by
    simp only[az,aM,aN]at hm
    rcases hm with rfl | rfl | rfl | rfl | rfl
    ·exact⟨2,rfl,by decide,by decide⟩
    ·exact⟨3,rfl,by decide,by decide⟩
    ·exact⟨3,rfl,by decide,by decide⟩
    ·exact⟨5,rfl,by decide,by decide⟩
    ·exact⟨12,rfl,by decide,by decide⟩
   obtain⟨m,rfl,m0,m1⟩:=hv
   obtain⟨vs,d3,hv,nd,hl',hne,b3,e2⟩:=Bh3 (m:=m) b2 (by omega) (by omega)
   refine⟨some (plD vs),[some (.im d),some (.ls true d3)],?_,d3,_,ps++[vs],rfl,hk',b3.mono (by omega),by simp,by simp[hp.len],fun p h=>by
    rcases bY.mp h with h | h
    ·exact hp.each p h
    ·rw[aY.mp h];exact⟨hv,hne m0,by omega⟩⟩
   wp_walk using e1,Ay,hx,e2,plD)
 obtain⟨acc,cI,e,d1,t,ps,rfl,_,b1,rfl,hp⟩:=loop;rw[bf]at b1 hp;exact⟨ps,d1,t,hp,b1,e⟩
theorem A3g {n:Nat}{ds:w5}{ps:m8}{w:Nat}(hb:Bx n ds)(hn:n<2 ^ 37)(hp:Aw3 w ps)(hw:w<=100) :
 ∃
  us d1 t,us.length=w/\VBs us/\Bx (n+w) d1 /\
  Ed (cgN 0) Bd (cOp Ay (Ad 0) (cF Av (Ac (Ad 1) (Ac (Ia (Ad 0)) Al)))) (ps.map plD) [] [none,some (.ls true ds)]=.ok (us.map Vl.d) [t,some (.ls true d1)]:=by
 have loop:=K6 (g:=cgN 0) (ft:=Bd) (fe:=cOp Ay (Ad 0) (cF Av (Ac (Ad 1) (Ac (Ia (Ad 0)) Al)))) (items:=ps.map plD) (acc:=[]) (n:=0) (c:=[none,some (.ls true ds)])
  (P:=fun k acc c=>∃d1 t us,c=[t,some (.ls true d1)]/\k<=w/\Bx (n+k) d1/\acc=us.map Vl.d/\us.length=k/\VBs us)
  ⟨ds,none,[],rfl,aW _,hb,rfl,rfl,fun v hv=>by cases hv⟩ (fun k d acc c hd hP=>by
   rw[bf]at hP ⊢;obtain⟨d1,t,us,rfl,hk0,b1,rfl,hk,hu⟩:=hP;obtain⟨p,hp',e⟩:=Du hd;subst e;have hk':k<ps.length:=(bL.mp hp').1;rw[hp.len]at hk';obtain⟨pv,pne,pl⟩:=hp.each p (bH hp');have lp:0<p.length:=List.length_pos_iff.mpr pne
   obtain⟨r,d2,b2,r0,r1,e1⟩:=Ec (m:=(p.length:Int)) b1 (by omega) (by omega) (by omega)
   obtain⟨x,hx,hm,_⟩:=We (l:=p.map Vl.d) (r:=r) r0 (by rw[ak];exact r1)
   obtain⟨v,hv',rfl⟩:=aC.mp hm
   refine⟨some v.d,[some (.im (plD p)),some (.ls true d2)],?_,d2,_,us++[v],rfl,hk',b2.mono (by omega),by simp,by simp[hk],VBs.app hu (fun u h=>by rw[aY.mp h];exact pv v hv')⟩
   wp_walk using plD,Jl,ak,e1,Ay,hx)
 obtain⟨acc,cI,e,d1,t,us,rfl,_,b1,rfl,hk,hu⟩:=loop;rw[bf,ak,hp.len]at b1 hk;exact⟨us,d1,t,hk,hu,b1,e⟩
abbrev Qc:Ev->SR:=Bm (Cp (cUn Az (cLC [none,some 0] (Bg (Ad 4)) (cgN 0) Bd (cOp Ay (Ad 0) (cF Av (Ac (Ad 1) (Ac (Ia (Ad 0)) Al)))))) (cgN 7))
 (Bm (cIf (Bh5 (Bs (cOp (Cy true) (Ad 5) (Fy Al))) (Bs (cOp (Cy false) (cF Av (Ac (Ad 0) (Ac (cC (.int 9)) Al))) (cC (.int 0))))) (Cp (cOp Ay (Ad 5) (cF Av (Ac (Ad 0) (Ac (Ia (Ad 5)) Al)))) (cgN 7)) Dd)
 (Jm (T3 (Ad 5) (Ad 7))))
theorem A3d {rows:m8}{w:Nat}(h:∀r∈rows,r.length=w/\VBs r)(hw:w<=12)(hl:rows.length<=100):Good (.list (rows.map tD)) 2 2400000:=by
 refine (Good.lst (n:=1) (w:=1923*12+4) (k:=100) (fun d hd=>?_) (by rw[ak];exact hl)).mono (by decide) (by decide)
 obtain⟨r,hr,rfl⟩:=aC.mp hd
 exact Jz (h r hr).2 (by rw[(h r hr).1];exact hw)
theorem A7u {rows:m8}{w:Nat}(h:∀r∈rows,r.length=w/\VBs r)(hw:w<=12)(hl:rows.length<=100):Cy true (.list (rows.map tD)) (.list [])=some (.im (.bool (decide (rows≠[])))):=by
 rw[Yb (A3d h hw hl) (n':=1) (w':=4) ⟨rfl,rfl,rfl,by decide,by decide⟩ (by decide) (by decide)]
 cases rows with
 | nil=>rfl
 | cons a r=>rfl
def Tu (o:O)(ds:w5):Prop:=o=.ls false ds\/o=.im (.list ds)
theorem An3 {n:Nat}{ds:w5}{ps:m8}{w:Nat}{s1 s2 s3 s7:m6}{o4:O}{rows:m8}{i:q_}{s6:m6}(hb:Bx n ds)(hn:n<2 ^ 36)(hp:Aw3 w ps)(hw:w<=12)(h4:Tu o4 (ps.map plD))(hr:∀r∈rows,r.length=w/\VBs r)(hl:rows.length<=50) :
 ∃row d1,row.length=w/\VBs row/\Bx (n+14) d1/\Ny (cgN 6) Qc i [some (.ls true ds),s1,s2,s3,some o4,some (.ls false (rows.map tD)),s6,s7]=.nx [some (.ls true d1),s1,s2,s3,some (.im (.list (ps.map plD))),some (.ls false ((rows++[row]).map tD)),some (.im i),some (.im (tD row))]:=by
 obtain⟨us,d1,t,ul,uv,b1,e1⟩:=A3g hb (by omega) hp (by omega)
 have e2:∀o4,Tu o4 (ps.map plD)->cLC [none,some 0] (Bg (Ad 4)) (cgN 0) Bd (cOp Ay (Ad 0) (cF Av (Ac (Ad 1) (Ac (Ia (Ad 0)) Al)))) [some (.ls true ds),s1,s2,s3,some o4,some (.ls false (rows.map tD)),some (.im i),s7]=.ok (.o (.ls false (us.map Vl.d))) [some (.ls true d1),s1,s2,s3,some (.im (.list (ps.map plD))),some (.ls false (rows.map tD)),some (.im i),s7]:=fun o4 h4=>by
  refine Fl (ds:=ps.map plD) (c1:=[some (.ls true ds),s1,s2,s3,some (.im (.list (ps.map plD))),some (.ls false (rows.map tD)),some (.im i),s7]) ?_ (by rw[ak,hp.len];omega) e1 (by wp_walk using bC)
  rcases h4 with rfl | rfl <;> wp_walk using Bg
 have e2:=e2 o4 h4;have et:PyData.tuple (us.map Vl.d)=tD us:=rfl
 have en:(rows.map tD).length<16000000:=by rw[ak];omega
 have eq:=A7u hr hw (by omega)
 by_cases hne:rows=[]
 ·subst hne
  refine⟨us,d1,ul,uv,b1.mono (by omega),?_⟩
  simp only[cN]at e2 eq en
  wp_walk using Qc,e2,Az,et,eq,ne_eq,not_true_eq_false
 ·obtain⟨r,d2,b2,r0,r1,e3⟩:=Ec (m:=9) b1 (by omega) (by decide) (by decide)
  have eq:Cy true (.list (rows.map tD)) (.list [])=some (.im (.bool true)):=by rw[eq,aF hne]
  by_cases c:r=0
  ·subst c
   have lp:0<rows.length:=List.length_pos_iff.mpr hne
   obtain⟨k,d3,b3,k0,k1,e4⟩:=Ec (m:=(rows.length:Int)) b2 (by omega) (by omega) (by omega)
   obtain⟨x,hx,hm,_⟩:=We (l:=rows.map tD) (r:=k) k0 (by rw[ak];exact k1)
   obtain⟨row,hrow,rfl⟩:=aC.mp hm
   refine⟨row,d3,(hr row hrow).1,(hr row hrow).2,b3.mono (by omega),?_⟩
   have e5:Cy false (.int 0) (.int 0)=some (.im (.bool true)):=rfl
   wp_walk using Qc,e2,Az,et,eq,e3,e5,Jl,ak,e4,Ay,hx,en,bI,show rows.length<16000000 by omega
  ·refine⟨us,d2,ul,uv,b2.mono (by omega),?_⟩
   have e5:Cy false (.int r) (.int 0)=some (.im (.bool false)):=by
    wp_walk using Cy,Dj,PyData.canLay0,PyData.depth,PyData.eqv,aW,cD.mpr c
   wp_walk using Qc,e2,Az,et,eq,e3,e5,ak,bI,show rows.length<16000000 by omega
theorem A9o {n:Nat}{ds:w5}{m k:Nat}(hb:Bx n ds)(hn:n<2 ^ 35)(h2:2<=m)(hm:m<=12)(hk:k<=24) :
 ∃t d1,Tb.Ok t/\t.cols.length=m/\t.rows.length=k/\Bx (n+1000) d1/\Ml [.ls true ds,.im (.int m),.im (.int k)]=.ret (.im t.d) [.ls true d1,.im (.int m),.im (.int k)]:=by
 obtain⟨ns,d1,nl,nms,b1,e1⟩:=A5y (m:=m) hb (by omega) hm
 obtain⟨ps,d2,t,hp,b2,e2⟩:=A6i (items:=ns.map PyData.str) b1 (by omega) (by rw[ak];omega)
 rw[ak,nl]at hp b2
 have e3:cLC [none,some 0] (Bg (Ad 3)) (cgN 0) Bd (cF G5 (Ac (Ad 1) (Ac (cOp Ay (Fy (cK [.int 2,.int 3,.int 3,.int 5,.int 12])) (cF Av (Ac (Ad 1) (Ac (cC (.int 5)) Al)))) Al))) [some (.ls true d1),some (.im (.int m)),some (.im (.int k)),some (.ls false (ns.map PyData.str)),none,none,none,none]=.ok (.o (.ls false (ps.map plD))) [some (.ls true d2),some (.im (.int m)),some (.im (.int k)),some (.im (.list (ns.map PyData.str))),none,none,none,none] :=
  Fl (ds:=ns.map PyData.str) (c1:=[some (.ls true d1),some (.im (.int m)),some (.im (.int k)),some (.im (.list (ns.map PyData.str))),none,none,none,none]) (by wp_walk using Bg) (by rw[ak];omega) e2 (by wp_walk using bC)
 have loop:=Ni (g:=cgN 6) (body:=Qc) (items:=Ka 0 k) (n:=0) (c:=[some (.ls true d2),some (.im (.int m)),some (.im (.int k)),some (.im (.list (ns.map PyData.str))),some (.ls false (ps.map plD)),some (.ls false []),none,none])
  (P:=fun j c=>∃d3 o4 rows x y,c=[some (.ls true d3),some (.im (.int m)),some (.im (.int k)),some (.im (.list (ns.map PyData.str))),some o4,some (.ls false (rows.map tD)),x,y]/\j<=k/\Bx (n+m+25*m+14*j) d3/\Tu o4 (ps.map plD)/\(∀r∈rows,r.length=m/\VBs r)/\rows.length=j)
  ⟨d2,_,[],none,none,rfl,aW _,b2,.inl rfl,(fun r hr=>nomatch hr),rfl⟩ (fun j d c hd hP=>by
   rw[bf]at hP ⊢;obtain⟨d3,o4,rows,x,y,rfl,hj0,b3,h4,hr,hl⟩:=hP;obtain⟨rfl,hj⟩:=Uj hd
   obtain⟨row,d4,rl,rv,b4,e4⟩:=An3 (s1:=some (.im (.int m))) (s2:=some (.im (.int k))) (s3:=some (.im (.list (ns.map PyData.str)))) (s6:=x) (s7:=y) (i:=.int (0+(j:Int))) b3 (by omega) hp hm h4 hr (by omega)
   exact⟨_,.inl e4,d4,_,rows++[row],_,_,rfl,hj,b4.mono (by omega),.inr rfl,fun r h=>by
    rcases bY.mp h with h | h
    ·exact hr r h
    ·rw[aY.mp h];exact⟨rl,rv⟩,by simp[hl]⟩)
 obtain⟨c',e5,d3,o4,rows,x,y,rfl,_,b3,h4,hr,hl⟩:=loop;rw[bf,Ua]at b3 hl
 refine⟨⟨ns,rows⟩,d3,⟨nms,by show 2<=ns.length;omega,by show ns.length<=12;omega,fun r h=>by show r.length=ns.length/\_;rw[nl];exact hr r h,by show rows.length<=60;omega⟩,nl,hl,b3.mono (by omega),?_⟩
 refine Y7 (p:=.o (.im (Tb.d ⟨ns,rows⟩))) (c:=[some (.ls true d3),some (.im (.int m)),some (.im (.int k)),some (.im (.list (ns.map PyData.str))),some o4,some (.ls false (rows.map tD)),x,y]) ?_ rfl (by wp_walk using bC)
 show O5 [some (.ls true ds),some (.im (.int m)),some (.im (.int k)),none,none,none,none,none]=_
 unfold O5
 refine (Df (c':=[some (.ls true d1),some (.im (.int m)),some (.im (.int k)),some (.ls false (ns.map PyData.str)),none,none,none,none]) (by wp_walk using e1)).trans ?_
 refine (Df (c':=[some (.ls true d2),some (.im (.int m)),some (.im (.int k)),some (.im (.list (ns.map PyData.str))),some (.ls false (ps.map plD)),none,none,none]) (by wp_walk using e3)).trans ?_
 refine (Df (c':=[some (.ls true d2),some (.im (.int m)),some (.im (.int k)),some (.im (.list (ns.map PyData.str))),some (.ls false (ps.map plD)),some (.ls false []),none,none]) (by wp_walk using bC)).trans ?_
 refine (Df ((Od (ds:=Ka 0 k) (c1:=[some (.ls true d2),some (.im (.int m)),some (.im (.int k)),some (.im (.list (ns.map PyData.str))),some (.ls false (ps.map plD)),some (.ls false []),none,none]) (by wp_walk using show (k:Int)<=16000000/\-16000000<=(k:Int) by omega,fU)).trans e5)).trans ?_
 wp_walk using Az,Tb.d
theorem Z9 {n:Nat}{ds:w5}(hb:Bx n ds)(hn:n<2 ^ 34) :
 ∃t d1,Tb.Ok t/\Bx (n+1004) d1/\Ge [.ls true ds]=.ret (.im t.d) [.ls true d1]:=by
 obtain⟨a,d1,b1,a0,a1,e1⟩:=Aw8 (l:=2) (f:=5) (m:=12) hb (by omega) (by decide) (by decide) (by decide) (by decide) (by decide) (by decide)
 obtain⟨b,d2,b2,c0,c1,e2⟩:=Aw8 (l:=0) (f:=8) (m:=24) b1 (by omega) (by decide) (by decide) (by decide) (by decide) (by decide) (by decide)
 obtain⟨a',rfl⟩:=gB (show 0<=a by omega)
 obtain⟨b',rfl⟩:=gB c0
 obtain⟨t,d3,ht,_,_,b3,e3⟩:=A9o (m:=a') (k:=b') b2 (by omega) (by omega) (by omega) (by omega)
 refine⟨t,d3,ht,b3.mono (by omega),?_⟩
 wp_walk using Ge,Nh,e1,e2,e3
mutual
theorem Ay2:∀d:q_,d.canLay0=true->PyData.eqv d d=true
 | .none,_=>rfl
 | .bool b,_=>by show (b==b)=true;simp
 | .int i,_=>by show (i==i)=true;simp
 | .str x,_=>by show (x==x)=true;simp
 | .tuple ds,h=>Vs ds h
 | .list ds,h=>Vs ds h
 | .dict kv,h=>nomatch h
theorem Vs:∀ds:w5,PyData.canLayAll0 ds=true->PyData.eqvAll ds ds=true
 | [],_=>rfl
 | d::r,h=>by
  obtain⟨n1,n2⟩:=aB.mp (show (d.canLay0&&PyData.canLayAll0 r)=true from h)
  show (PyData.eqv d d&&PyData.eqvAll r r)=true
  rw[Ay2 d n1,Vs r n2]
  rfl
end
theorem Bg8 (i:Int):PyData.eqv (.int i) (.int i)=true:=by show (i==i)=true;simp
theorem Af8 {n:Nat}:(List.replicate n true).all id=true:=by simp
theorem N5:∀n:Nat,boolsOf (List.replicate n (PyData.bool true))=some (List.replicate n true)
 | 0=>rfl
 | n+1=>by rw[dB,dB];show (boolsOf (List.replicate n (PyData.bool true))).map (true::·)=_;rw[N5 n];rfl
theorem Ks {neg:Bool}{a b:q_}(ha:Dj a=true)(hb:Dj b=true):Cy neg a b=some (.im (.bool (if neg then !PyData.eqv a b else PyData.eqv a b))):=by unfold Cy;rw[ha,hb];rfl
theorem Be5 {ds:w5}{x:q_}(h:x∈Hv ds ds):∃d∈ds,x=.tuple [d,d]:=by
 unfold Hv at h;obtain⟨⟨a,b⟩,h1,rfl⟩:=aC.mp h;obtain⟨i,hi,e⟩:=List.getElem_of_mem h1;rw[List.getElem_zip]at e
 cases e
 exact⟨_,jm _,rfl⟩
theorem Av9 {d:q_}:∀{ds:w5},d∈ds->d.depth<=PyData.depthAll ds
 | a::r,h=>by
  show d.depth<=max a.depth (PyData.depthAll r)
  rcases az.mp h with rfl | h
  ·exact Nat.le_max_left _ _
  ·exact au (Av9 h) (Nat.le_max_right _ _)
theorem Ax4 {d:q_}:∀{ds:w5},d∈ds->PyData.canLayAll0 ds=true->d.canLay0=true
 | a::r,h,l=>by
  obtain⟨l1,l2⟩:=aB.mp (show (a.canLay0&&PyData.canLayAll0 r)=true from l)
  rcases az.mp h with rfl | h
  ·exact l1
  ·exact Ax4 h l2
def Short:Nat->q_->Prop
 | 0,_=>True
 | _+1,.list _=>False
 | n+1,.tuple ds=>ds.length<=16000000/\∀d∈ds,Short n d
 | _+1,_=>True
theorem A7a:∀ds:w5,2*ds.length<=Jt ds
 | []=>aq _
 | d::r=>by have:=A7a r;show 2*(r.length+1)<=wt d+2+Jt r;omega
theorem Ba6 {d:q_}:∀{ds:w5},d∈ds->wt d<=Jt ds
 | a::r,h=>by
  show wt d<=wt a+2+Jt r
  rcases az.mp h with rfl | h
  ·exact au (gC _ 2) (gC _ _)
  ·exact au (Ba6 h) (Nat.le_add_left _ _)
theorem Ac5:∀vs:m9,Rb (vs.map Vl.d)=true
 | []=>rfl
 | v::vs=>by
  show (noL v.d&&Rb (vs.map Vl.d))=true
  rw[Ac5 vs]
  cases v <;> rfl
theorem Ak6:∀a:v4,Rb (a.map PyData.str)=true
 | []=>rfl
 | x::a=>by show (true&&Rb (a.map PyData.str))=true;rw[Ak6 a];rfl
theorem Aa3 {ds:w5}(h:∀d∈ds,noL d=true):Rb ds=true:=by
 induction ds with
 | nil=>rfl
 | cons d r ih=>show (noL d&&Rb r)=true;rw[h d (.head _),ih fun e he=>h e (.tail _ he)];rfl
theorem A0j {d:q_}:∀{ds:w5},d∈ds->Rb ds=true->noL d=true
 | a::r,h,l=>by
  obtain⟨l1,l2⟩:=aB.mp (show (noL a&&Rb r)=true from l)
  rcases az.mp h with rfl | h
  ·exact l1
  ·exact A0j h l2
theorem U6 (n:Nat):∀(d:q_),wt d<=16000000->noL d=true->Short n d:=by
 induction n with
 | zero=>intro d _ _;trivial
 | succ n ih =>
  intro d h hl
  cases d with
  | tuple ds =>
   have h:Jt ds<=16000000:=au (gC _ 4) h
   exact⟨au (au (Nat.le_mul_of_pos_left _ (by decide)) (A7a ds)) h,fun d hd=>ih d (au (Ba6 hd) h) (A0j hd hl)⟩
  | list ds=>cases hl
  | _=>trivial
theorem A0l:∀(n:Nat) (d:q_),d.depth<n->n<=40->d.canLay0=true->Short n d->Cu n [.im d,.im d]=.ret (.im (.bool true)) [.im d,.im d]
 | 0,d,h,_,_,_=>absurd h (Nat.not_lt_zero _)
 | n+1,d,h,hn,hl,hs=>by
  have fb:∀b:Bool,Dj (.bool b)=true:=fun b=>rfl
  have fl:Dj d=true:=by unfold Dj;rw[hl,aF (show d.depth<=40 from au (Nat.le_of_lt_succ h) (fc hn))];rfl
  have fi:∀k:Nat,Dj (.int (k:Int))=true:=fun k=>rfl
  have loop:∀ds:w5,(∀e∈ds,Cu n [.im e,.im e]=.ret (.im (.bool true)) [.im e,.im e])->∃c',Ed (cgT 2 (Bo (cgN 0) (Bo (cgN 1) Gm))) Bd (cF (Cu n) (Ac (Ad 0) (Ac (Ad 1) Al))) (Hv ds ds) [] [none,none]=.ok ((Hv ds ds).map fun _=>.bool true) c'/\∃a b,c'=[a,b]:=fun ds hds=>by
   have:=A3i (g:=cgT 2 (Bo (cgN 0) (Bo (cgN 1) Gm))) (ft:=Bd) (fe:=cF (Cu n) (Ac (Ad 0) (Ac (Ad 1) Al))) (I:=fun c=>∃a b,c=[a,b]) (F:=fun _=>.bool true) (items:=Hv ds ds) (acc:=[]) (c:=[none,none]) ⟨none,none,rfl⟩ (fun x c hx ⟨a,b,hc⟩=>by
    subst hc;obtain⟨e,he,rfl⟩:=Be5 hx
    refine⟨[some (.im e),some (.im e)],?_,_,_,rfl⟩
    wp_walk using hds e he)
   simpa using this
  have fin:∀ds:w5,(Hv ds ds).map (fun _=>PyData.bool true)=List.replicate ds.length (.bool true):=fun ds=>by
   rw[List.map_const'];unfold Hv;rw[ak,dD,dC]
  show En 2 2 (Hn (Cu n)) _=_
  cases d with
  | none=>wp_walk using Hn,Pb,Ep,Mm,Jh,Ks fl fl,Ks (fb _) (fb _),PyData.eqv,dG
  | bool b=>wp_walk using Hn,Pb,Ep,Mm,Jh,Ks fl fl,Ks (fb _) (fb _),PyData.eqv,dG
  | int i=>wp_walk using Hn,Pb,Ep,Mm,Jh,Ks fl fl,Ks (fb _) (fb _),PyData.eqv,dG
  | str x=>wp_walk using Hn,Pb,Ep,Mm,Jh,Ks fl fl,Ks (fb _) (fb _),PyData.eqv,dG
  | dict k=>cases hl
  | list ds=>exact hs.elim
  | tuple ds =>
   have hd:∀e∈ds,Cu n [.im e,.im e]=.ret (.im (.bool true)) [.im e,.im e]:=fun e he=>A0l n e (bW (Av9 he) (Nat.lt_of_succ_lt_succ h)) (fc hn) (Ax4 he hl) (hs.2 e he)
   obtain⟨c',e1,a,b,rfl⟩:=loop ds hd;rw[fin]at e1
   have e2:cLC [none,none] (Bh4 (Ad 0) (Ad 1)) (cgT 2 (Bo (cgN 0) (Bo (cgN 1) Gm))) Bd (cF (Cu n) (Ac (Ad 0) (Ac (Ad 1) Al))) [some (.im (.tuple ds)),some (.im (.tuple ds))]=.ok (.o (.ls false (List.replicate ds.length (.bool true)))) [some (.im (.tuple ds)),some (.im (.tuple ds))] :=
    Fl (ds:=Hv ds ds) (c1:=[some (.im (.tuple ds)),some (.im (.tuple ds))]) (by wp_walk using Bh4,Gs) (by unfold Hv;rw[ak,dD,dC];exact hs.1) e1 rfl
   wp_walk using Hn,Pb,Ep,Mm,Ks (fb _) (fb _),Jl,Ks (fi _) (fi _),PyData.eqv,dG,e2,Al4,N5,Af8
theorem A5q:∀d:q_,d.canLay0=true->PyData.eqv d d=true:=Ay2
def vlt:Vl->Vl->Bool
 | .non,.non=>false
 | .non,_=>true
 | .int i,.int j=>decide (i<j)
 | .int _,.str _=>true
 | .str x,.str y=>decide (x.cps.toList<y.cps.toList)
 | _,_=>false
def Eb:Vl->q_
 | .non=>.tuple [.int 0,.int 0]
 | .int i=>.tuple [.int 1,.int i]
 | .str x=>.tuple [.int 2,.str x]
def Ds:Vl->q_
 | .non=>.tuple [.int 0,.int 0,.str ""]
 | .int i=>.tuple [.int 1,.int i,.str ""]
 | .str x=>.tuple [.int 2,.int 0,.str x]
theorem Bb9 {v:Vl}{k:Nat}:Dl (k+1) [.im v.d]=.ret (.im (Eb v)) [.im v.d]:=by
 cases v with
 | non=>wp_walk using Dl,Ob,Vl.d,Jh,Ep,Mm,Eb
 | int i=>wp_walk using Dl,Ob,Vl.d,Jh,Ep,Mm,Eb
 | str x=>wp_walk using Dl,Ob,Vl.d,Jh,Ep,Mm,Eb
theorem A4y {v:Vl}:Gi [.im v.d]=.ret (.im (Ds v)) [.im v.d]:=by
 cases v with
 | non=>wp_walk using Gi,N8,Vl.d,Jh,Ep,Mm,Ds
 | int i=>wp_walk using Gi,N8,Vl.d,Jh,Ep,Mm,Ds
 | str x=>wp_walk using Gi,N8,Vl.d,Jh,Ep,Mm,Ds
theorem A7j (l:List Nat):¬ l<l:=List.lt_irrefl l
theorem Ba2 (a b:Vl):Ls false (Eb a) (Eb b)=some (vlt a b):=by
 cases a with
 | non=>cases b <;> rfl
 | int i=>
  cases b with
   | non=>rfl
   | int j =>
    show (if (i==j)=true then some false else some (decide (i<j)))=some (decide (i<j))
    by_cases h:i=j
    ·subst h;simp
    ·rw[if_neg (by simpa using h)]
   | str y=>rfl
 | str x=>
  cases b with
   | non=>rfl
   | int j=>rfl
   | str y =>
    show (if (x==y)=true then some false else some (decide (x.cps.toList<y.cps.toList)))=some (decide (x.cps.toList<y.cps.toList))
    by_cases h:x=y
    ·subst h;rw[if_pos (by simp),aL (A7j _)]
    ·rw[if_neg (by simpa using h)]
theorem A1l (gt:Bool)(a b:Vl):Ls gt (Ds a) (Ds b)=some (if gt then vlt b a else vlt a b):=by
 have e0:PyData.eqv (.str "") (.str "")=true:=by decide +kernel
 cases a with
 | non=>
  cases b with
   | non =>
    show (if PyData.eqv (.str "") (.str "")=true then some false else Ls gt (.str "") (.str ""))=_
    rw[if_pos e0];cases gt <;> rfl
   | int j=>cases gt <;> rfl
   | str y=>cases gt <;> rfl
 | int i=>
  cases b with
   | non=>cases gt <;> rfl
   | int j =>
    show (if (i==j)=true then (if PyData.eqv (.str "") (.str "")=true then some false else Ls gt (.str "") (.str "")) else some (if gt then decide (j<i) else decide (i<j)))=_
    by_cases h:i=j
    ·subst h;rw[if_pos (by simp),if_pos e0];cases gt <;> simp[vlt]
    ·rw[if_neg (by simpa using h)];cases gt <;> rfl
   | str y=>cases gt <;> rfl
 | str x=>
  cases b with
   | non=>cases gt <;> rfl
   | int j=>cases gt <;> rfl
   | str y =>
    show (if (x==y)=true then some false else some (if gt then decide (y.cps.toList<x.cps.toList) else decide (x.cps.toList<y.cps.toList)))=_
    by_cases h:x=y
    ·subst h;rw[if_pos (by simp)];cases gt <;> simp[vlt]
    ·rw[if_neg (by simpa using h)];cases gt <;> rfl
theorem A1m (a b:Vl):PyData.eqv (Ds a) (Ds b)=decide (a=b):=by
 have e0:PyData.eqv (.str "") (.str "")=true:=by decide +kernel
 cases a with
 | non=>
  cases b with
   | non=>decide +kernel
   | int j=>simp[Ds,PyData.eqv,PyData.eqvAll]
   | str y=>simp[Ds,PyData.eqv,PyData.eqvAll]
 | int i=>
  cases b with
   | non=>simp[Ds,PyData.eqv,PyData.eqvAll]
   | int j =>
    show (true&&((i==j)&&(PyData.eqv (.str "") (.str "")&&true)))=_
    rw[e0]
    by_cases h:i=j
    ·subst h;simp
    ·simp[h]
   | str y=>simp[Ds,PyData.eqv,PyData.eqvAll]
 | str x=>
  cases b with
   | non=>simp[Ds,PyData.eqv,PyData.eqvAll]
   | int j=>simp[Ds,PyData.eqv,PyData.eqvAll]
   | str y =>
    show (true&&(true&&((x==y)&&true)))=_
    by_cases h:x=y
    ·subst h;simp
    ·simp[h]
theorem Ba9 {x y:Str}(h:x.cps.toList=y.cps.toList):x=y:=by
 obtain⟨a⟩:=x;obtain⟨b⟩:=y;have:a=b:=Array.ext' h;subst this;rfl
theorem Bf8 (a:Vl):vlt a a=false:=by
 cases a with
 | non=>rfl
 | int i=>exact aL (by omega)
 | str x=>exact aL (A7j _)
theorem Br2 {a b c:Vl}(h:vlt a b=true)(k:vlt b c=true):vlt a c=true:=by
 cases a with
 | non=>
  cases b with
   | non=>exact k
   | int j=>
    cases c with
     | non=>cases k
     | int l=>rfl
     | str z=>rfl
   | str y=>
    cases c with
     | non=>cases k
     | int l=>cases k
     | str z=>rfl
 | int i=>
  cases b with
   | non=>cases h
   | int j=>
    cases c with
     | non=>cases k
     | int l=>exact aF (Int.lt_trans (aX h) (aX k))
     | str z=>rfl
   | str y=>
    cases c with
     | non=>cases k
     | int l=>cases k
     | str z=>rfl
 | str x=>
  cases b with
   | non=>cases h
   | int j=>cases h
   | str y=>
    cases c with
     | non=>cases k
     | int l=>cases k
     | str z=>exact aF (List.lt_trans (aX h) (aX k))
theorem Bi7 (a b:Vl):vlt a b=true\/a=b\/vlt b a=true:=by
 cases a with
 | non=>
  cases b with
   | non=>exact .inr (.inl rfl)
   | int j=>exact .inl rfl
   | str y=>exact .inl rfl
 | int i=>
  cases b with
   | non=>exact .inr (.inr rfl)
   | int j =>
    rcases Int.lt_trichotomy i j with h | h | h
    ·exact .inl (aF h)
    ·exact .inr (.inl (by rw[h]))
    ·exact .inr (.inr (aF h))
   | str y=>exact .inl rfl
 | str x=>
  cases b with
   | non=>exact .inr (.inr rfl)
   | int j=>exact .inr (.inr rfl)
   | str y =>
    by_cases h1:x.cps.toList<y.cps.toList
    ·exact .inl (aF h1)
    ·by_cases h2:y.cps.toList<x.cps.toList
     ·exact .inr (.inr (aF h2))
     ·exact .inr (.inl (by rw[Ba9 (List.le_antisymm (List.not_lt.mp h2) (List.not_lt.mp h1))]))
theorem A8d {neg:Bool}{a b:Int}:Cy neg (.int a) (.int b)=some (.im (.bool (if neg then !decide (a=b) else decide (a=b)))):=by
 have e:PyData.eqv (.int a) (.int b)=decide (a=b):=by
  show (a==b)=_
  by_cases h:a=b
  ·rw[h];simp
  ·rw[cD.mpr h,aL h]
 unfold Cy
 rw[show Dj (.int a)=true from rfl,show Dj (.int b)=true from rfl,e]
 simp
abbrev VG (v:Vl):Prop:=Good v.d 0 1921
abbrev VGs (vs:m9):Prop:=∀v∈vs,VG v
theorem A6x {vs:m9}{k:Nat}(h:VGs vs)(hk:vs.length<=k):Good (tD vs) 1 (1923*k+4) :=
 Good.tup (fun d hd=>by
  obtain⟨v,hv,rfl⟩:=aC.mp hd
  exact h v hv) (by rw[ak];exact hk)
def rlt:m9->m9->Bool
 | [],[]=>false
 | [],_::_=>true
 | _::_,[]=>false
 | x::xs,y::ys=>if x=y then rlt xs ys else vlt x y
theorem Z5:∀a:m9,rlt a a=false
 | []=>rfl
 | x::xs=>by rw[rlt,if_pos rfl];exact Z5 xs
theorem As2:∀{a b c:m9},rlt a b=true->rlt b c=true->rlt a c=true
 | [],[],c,h,k=>nomatch h
 | [],_::_,[],h,k=>nomatch k
 | [],_::_,_::_,h,k=>rfl
 | _::_,[],c,h,k=>nomatch h
 | _::_,_::_,[],h,k=>nomatch k
 | x::xs,y::ys,z::zs,h,k=>by
  rw[rlt]at h k ⊢
  by_cases e1:x=y
  ·subst e1
   rw[if_pos rfl]at h
   by_cases e2:x=z
   ·rw[if_pos e2]at k ⊢;exact As2 h k
   ·rw[if_neg e2]at k ⊢;exact k
  ·rw[if_neg e1]at h
   by_cases e2:y=z
   ·subst e2;rw[if_neg e1];exact h
   ·rw[if_neg e2]at k
    have q:=Br2 h k
    rw[if_neg (fun e=>by subst e;rw[Bf8]at q;cases q)]
    exact q
theorem Ax9:∀a b:m9,rlt a b=true\/a=b\/rlt b a=true
 | [],[]=>.inr (.inl rfl)
 | [],_::_=>.inl rfl
 | _::_,[]=>.inr (.inr rfl)
 | x::xs,y::ys=>by
  rw[rlt,rlt]
  by_cases e:x=y
  ·subst e
   rw[if_pos rfl,if_pos rfl]
   rcases Ax9 xs ys with h | h | h
   ·exact .inl h
   ·exact .inr (.inl (by rw[h]))
   ·exact .inr (.inr h)
  ·rw[if_neg e,if_neg (fun z=>e z.symm)]
   rcases Bi7 x y with h | h | h
   ·exact .inl h
   ·exact absurd h e
   ·exact .inr (.inr h)
def Oq (r:m9):q_:=.tuple [.int 3,.tuple (r.map Eb)]
theorem A2o {v:Vl}(h:VG v):Good (Eb v) 1 3850:=by
 have q:∀a b:Vl,VG a->VG b->Good (tD [a,b]) 1 3850:=fun a b ha hb=>A6x (k:=2) (fun v hv=>by
  simp only[az,aM,aN]at hv
  rcases hv with rfl | rfl
  ·exact ha
  ·exact hb) (by simp)
 cases v with
 | non=>exact q (.int 0) (.int 0) (Gx (by decide)) (Gx (by decide))
 | int i=>exact q (.int 1) (.int i) (Gx (by decide)) h
 | str x=>exact q (.int 2) (.str x) (Gx (by decide)) h
theorem At5 {r:m9}(h:VGs r)(hl:r.length<=30):Good (Oq r) 3 300000:=by
 have g1:Good (.tuple (r.map Eb)) 2 (3852*30+4):=Good.tup (k:=30) (fun d hd=>by
  obtain⟨v,hv,rfl⟩:=aC.mp hd
  exact A2o (h v hv)) (by rw[ak];exact hl)
 refine (Good.tup (n:=2) (w:=3852*30+4) (k:=2) (fun d hd=>?_) (by simp)).mono (by decide) (by decide)
 simp only[az,aM,aN]at hd
 rcases hd with rfl | rfl
 ·exact(Gx (v:=.int 3) (by decide)).mono (by decide) (by decide)
 ·exact g1
theorem Aj7 (a b:Vl):PyData.eqv (Eb a) (Eb b)=decide (a=b):=by
 have key:∀p q p' q':Vl,PyData.eqv (tD [p,q]) (tD [p',q'])=decide ([p,q]=[p',q']):=fun p q p' q'=>Ai7 _ _
 cases a with
 | non=>
  cases b with
   | non=>exact(key (.int 0) (.int 0) (.int 0) (.int 0)).trans (by simp)
   | int j=>exact(key (.int 0) (.int 0) (.int 1) (.int j)).trans (by simp)
   | str y=>exact(key (.int 0) (.int 0) (.int 2) (.str y)).trans (by simp)
 | int i=>
  cases b with
   | non=>exact(key (.int 1) (.int i) (.int 0) (.int 0)).trans (by simp)
   | int j=>exact(key (.int 1) (.int i) (.int 1) (.int j)).trans (by simp)
   | str y=>exact(key (.int 1) (.int i) (.int 2) (.str y)).trans (by simp)
 | str x=>
  cases b with
   | non=>exact(key (.int 2) (.str x) (.int 0) (.int 0)).trans (by simp)
   | int j=>exact(key (.int 2) (.str x) (.int 1) (.int j)).trans (by simp)
   | str y=>exact(key (.int 2) (.str x) (.int 2) (.str y)).trans (by simp)
theorem Xp:∀a b:m9,PyData.eqvAll (a.map Eb) (b.map Eb)=decide (a=b)
 | [],[]=>rfl
 | [],_::_=>rfl
 | _::_,[]=>rfl
 | x::xs,y::ys=>by
  show (PyData.eqv (Eb x) (Eb y)&&PyData.eqvAll (xs.map Eb) (ys.map Eb))=_
  rw[Aj7,Xp xs ys]
  by_cases h:x=y <;> by_cases k:xs=ys <;> simp[h,k]
theorem Ah6:∀a b:m9,Nq false (a.map Eb) (b.map Eb)=some (rlt a b)
 | [],[]=>rfl
 | [],_::_=>rfl
 | _::_,[]=>rfl
 | x::xs,y::ys=>by
  show (if PyData.eqv (Eb x) (Eb y)=true then Nq false (xs.map Eb) (ys.map Eb) else Ls false (Eb x) (Eb y))=some (if x=y then rlt xs ys else vlt x y)
  rw[Aj7,Ah6 xs ys,Ba2]
  by_cases h:x=y
  ·rw[if_pos (aF h),if_pos h]
  ·rw[if_neg (by simp[h]),if_neg h]
theorem Bh9 (a b:m9):Ls false (Oq a) (Oq b)=some (rlt a b):=by
 show (if PyData.eqvAll (a.map Eb) (b.map Eb)=true then some false else Nq false (a.map Eb) (b.map Eb))=_
 rw[Xp,Ah6]
 by_cases h:a=b
 ·subst h;rw[if_pos (by simp),Z5]
 ·rw[if_neg (by simp[h])]
theorem A6t {r:m9}(hl:r.length<=30):Dl 2 [.im (tD r)]=.ret (.im (Oq r)) [.im (tD r)]:=by
 obtain⟨cI,eL,u,rfl⟩:=Dt (g:=cgN 0) (ft:=Bd) (fe:=cF (Dl 1) (Ac (Ad 0) Al)) (I:=fun c=>∃u,c=[u]) (f:=Vl.d) (G:=Eb) (xs:=r) (acc:=[]) (c:=[none]) ⟨none,rfl⟩
  (fun v c hv hI=>by
   obtain⟨u,rfl⟩:=hI
   refine⟨[some (.im v.d)],?_,_,rfl⟩
   wp_walk using Bb9 (v:=v) (k:=0))
 have eC:cLC [none] (Bg (Ad 0)) (cgN 0) Bd (cF (Dl 1) (Ac (Ad 0) Al)) [some (.im (tD r))]=.ok (.o (.ls false (r.map Eb))) [some (.im (tD r))]:=by
  refine Fl (ds:=r.map Vl.d) (c1:=[some (.im (tD r))]) (cI:=[u]) ?_ (by rw[ak];omega) (by simpa[cIn] using eL) (by wp_walk using bC)
  wp_walk using Bg,tD
 show En 1 1 (Ob (Dl 1)) [.im (tD r)]=_
 unfold tD at eC ⊢
 wp_walk using Ob,Jh,Ep,Mm,eC,Az,Oq
section
variable {α:Type}[DecidableEq α]
def fnd (x:α):List α->Nat
 | []=>0
 | y::l=>if y=x then 0 else fnd x l+1
theorem N6 {x:α}:∀{l:List α},x∈l->l[fnd x l]?=some x
 | y::l,h=>by
  unfold fnd
  by_cases e:y=x
  ·rw[if_pos e,e];rfl
  ·rw[if_neg e]
   rcases az.mp h with h | h
   ·exact absurd h.symm e
   ·rw[fJ];exact N6 h
theorem A9z {x:α}{l:List α}(h:x∈l):fnd x l<l.length:=(bL.mp (N6 h)).1
theorem Aa1 {x:α}:∀{l:List α}{i:Nat},l.Nodup->l[i]?=some x->fnd x l=i
 | y::l,0,_,h=>by
  have e:y=x:=bK h;unfold fnd;rw[if_pos e]
 | y::l,i+1,nd,h=>by
  rw[fJ]at h
  have e:y≠x:=fun z=>(bQ.mp nd).1 (z▸bH h)
  unfold fnd;rw[if_neg e,Aa1 (bQ.mp nd).2 h]
def atP (d:α)(l:List α)(p:List Nat):List α:=p.map fun i=>l.getD i d
theorem Bl8 {d:α}{l:List α}{p:List Nat}(h:∀i∈p,i<l.length){x:α}(hx:x∈atP d l p):x∈l:=by
 obtain⟨i,hi,rfl⟩:=aC.mp (show x∈p.map fun i=>l.getD i d from hx)
 have:=h i hi
 simp[this]
theorem Ad3 {p:List Nat}{n:Nat}(h:p.Perm (List.range n)):∀i∈p,i<n:=fun i hi=>dz.mp (h.mem_iff.mp hi)
end
theorem Af7 {R:Nat->Nat->Prop}(anti:∀a b,R a b->R b a->False):∀{p q:List Nat},p.Perm q->p.Pairwise R->q.Pairwise R->p=q
 | [],q,h,_,_=>(List.Perm.eq_nil h.symm).symm
 | a::p,[],h,_,_=>absurd h.length_eq (by simp)
 | a::p,b::q,h,wp,wq=>by
  have e:a=b:=by
   by_cases e:a=b
   ·exact e
   ·have ha:a∈q:=(az.mp (h.mem_iff.mp (.head _))).resolve_left e
    have hb:b∈p:=(az.mp (h.symm.mem_iff.mp (.head _))).resolve_left (aJ e);exact(anti a b ((j9.mp wp).1 b hb) ((j9.mp wq).1 a ha)).elim
  subst e;rw[Af7 anti (List.Perm.cons_inv h) (j9.mp wp).2 (j9.mp wq).2]
def klt (ks:m8)(i j:Nat):Bool:=rlt (ks.getD i []) (ks.getD j [])
theorem Ad7 (ks:m8):PS.Ord (klt ks):=⟨fun a=>Z5 _,fun a b c h k=>As2 h k,fun a b c h=>by
 rcases Ax9 (ks.getD a []) (ks.getD b []) with q | q | q
 ·exact .inl q
 ·exact .inr (by unfold klt at h ⊢;rw[<- q];exact h)
 ·exact .inr (As2 q h)⟩
theorem Bg6 {lt:Nat->Nat->Bool}(O:PS.Ord lt)(a b:Nat)(h:PS.Rr lt a b)(k:PS.Rr lt b a):False:=by
 rcases h with h | ⟨h,h'⟩
 ·rcases k with k | ⟨k,k'⟩
  ·have:=O.tr _ _ _ h k;rw[O.irr]at this;cases this
  ·rw[h]at k;cases k
 ·rcases k with k | ⟨k,k'⟩
  ·rw[h]at k;cases k
  ·omega
theorem range_getD (ds:w5):((List.range ds.length).map fun i=>ds.getD i .none)=ds:=by
 apply List.ext_getElem
 ·simp
 ·intro i h1 h2
  simp at h1 ⊢
  simp[h1]
theorem Ax3 {ds ks:w5}{lt:Nat->Nat->Bool}{kd:Kd}(O:PS.Ord lt)(hk:ks.length=ds.length)(h64:ds.length<64)(hkd:0<ks.length->kdOf ks=kd)(hf:∀k∈ks,Mw kd k=true/\Dj k=true)
 (hB:∀i j x y,ks[i]?=some x->ks[j]?=some y->Bg1 kd x y=some (lt i j)) :
 ∃p:List Nat,p.Perm (List.range ds.length)/\p.Pairwise (PS.Rr lt)/\Ao4 ds ks=some (p.map fun i=>ds.getD i .none):=by
 unfold Ao4
 by_cases h2:ds.length<2
 ·rw[if_pos h2]
  refine⟨List.range ds.length,.refl _,?_,?_⟩
  ·rw[List.pairwise_iff_getElem]
   intro i j hi hj hij;rw[dq]at hj;omega
  ·rw[range_getD]
 ·rw[if_neg h2,hkd (by omega)]
  have eb:(decide (ds.length<64)&&(ks.all (Mw kd)&&ks.all Dj))=true:=by
   rw[aF h64];simp only[iY,cL,bN]
   exact⟨fun v h=>(hf v h).1,fun v h=>(hf v h).2⟩
  rw[if_pos eb]
  obtain⟨p,e,hs,so,pm⟩:=PS.Bj2 (B:=A1b kd ks) O (n:=ds.length) (fun i j hi hj=>by
   unfold A1b
   rw[bj (show i<ks.length by omega),bj (show j<ks.length by omega)]
   exact hB i j _ _ (bj _) (bj _)) (by omega)
  rw[e]
  refine⟨p.toList,pm,?_,rfl⟩
  rw[List.pairwise_iff_getElem];intro i j hi hj hij
  have hj':j<ds.length:=by rw[eN,hs]at hj;exact hj
  have q:=so i j hij hj'
  have ei:p.getD i 0=p.toList[i]:=by rw[PS.gD];simp[gZ (show i<p.size by omega)]
  have ej:p.getD j 0=p.toList[j]:=by rw[PS.gD];simp[gZ (show j<p.size by omega)]
  rw[ei,ej]at q;exact q
theorem Ak7 {α:Type}[DecidableEq α](f:α->q_)(d:α)(l:List α){p:List Nat}(h:∀i∈p,i<l.length):(p.map fun i=>(l.map f).getD i .none)=(atP d l p).map f:=by
 unfold atP;rw[cQ]
 refine jE fun i hi=>?_
 have:=h i hi
 show (l.map f).getD i .none=f (l.getD i d)
 simp[this]
structure HK (hs:m8):Prop where
 nd:hs.Nodup
 vb:∀h∈hs,VBs h/\h.length<=12
 len:hs.length<=60
theorem Be9 {vs:m9}(h:VBs vs):VGs vs:=fun v hv=>Gx (h v hv)
theorem A2w {hs:m8}:(∀h∈hs,h.length<=12)->Nb (Dl 2) (hs.map tD)=some (hs.map Oq):=by
 induction hs with
 | nil=>intro _;rfl
 | cons h hs ih =>
  intro hl
  have e:=A6t (r:=h) (au (hl h (.head _)) (by decide))
  have e1:W8 (Dl 2) (tD h)=some (Oq h):=by unfold W8;rw[e];rfl
  show (W8 (Dl 2) (tD h)).bind _=_
  rw[e1]
  show (Nb (Dl 2) (hs.map tD)).map _=_
  rw[ih fun x hx=>hl x (.tail _ hx)];rfl
theorem A4z {hs:m8}(H:HK hs):∃p:List Nat,p.Perm (List.range hs.length)/\p.Pairwise (PS.Rr (klt hs))/\M6 [.im (.tuple (hs.map tD))]=.ret (.ls false ((atP [] hs p).map tD)) [.im (.tuple (hs.map tD))]:=by
 have l:=H.len
 obtain⟨p,pm,pw,e⟩:=Ax3 (ds:=hs.map tD) (ks:=hs.map Oq) (kd:=.ti) (Ad7 hs) (by rw[ak,ak]) (by rw[ak];omega) (fun h0=>by
  cases hs with
  | nil=>simp at h0
  | cons h hs=>rfl) (fun k hk=>by
  obtain⟨h,hh,rfl⟩:=aC.mp hk
  exact⟨rfl,(At5 (Be9 (H.vb h hh).1) (au (H.vb h hh).2 (by decide))).flatB (by decide)⟩) (fun i j x y hx hy=>by
  obtain⟨a,ha,rfl⟩:=Du hx;obtain⟨b,hb,rfl⟩:=Du hy
  show Ls false (Oq a) (Oq b)=_
  unfold klt
  rw[Bh9,dF,dF,ha,hb];rfl)
 rw[ak]at pm;rw[Ak7 tD [] hs (Ad3 pm)]at e
 refine⟨p,pm,pw,?_⟩
 have ek:=A2w fun h hh=>(H.vb h hh).2
 have e2:(Nb (Dl 2) (hs.map tD)).bind (Ao4 (hs.map tD))=some ((atP [] hs p).map tD):=by rw[ek];exact e
 wp_walk using M6,Ah4,Aj8,U.Gs,e2
theorem Yr:∀a b:m9,Nq false (a.map Ds) (b.map Ds)=some (rlt a b)
 | [],[]=>rfl
 | [],_::_=>rfl
 | _::_,[]=>rfl
 | x::xs,y::ys=>by
  rw[aD,aD,Nq,rlt,A1m]
  by_cases e:x=y
  ·rw[aF e,if_pos rfl,if_pos e];exact Yr xs ys
  ·rw[aL e,if_neg (by decide),if_neg e,A1l];rfl
theorem Ap5 {v:Vl}(h:VB v):Good (Ds v) 1 5800:=by
 have g:=Gx h
 cases v with
 | non=>exact⟨by decide +kernel,rfl,rfl,by decide,by decide +kernel⟩
 | int i=>
  exact(Good.tup (ds:=[PyData.int 1,.int i,.str ""]) (n:=0) (w:=1921) (k:=3) (fun d hd=>by
   simp only[az,aM,aN]at hd
   rcases hd with rfl | rfl | rfl
   ·exact⟨rfl,rfl,rfl,by decide,by decide +kernel⟩
   ·exact g
   ·exact⟨by decide +kernel,rfl,rfl,by decide,by decide +kernel⟩) (aq _)).mono (by decide) (by decide)
 | str x=>
  exact(Good.tup (ds:=[PyData.int 2,.int 0,.str x]) (n:=0) (w:=1921) (k:=3) (fun d hd=>by
   simp only[az,aM,aN]at hd
   rcases hd with rfl | rfl | rfl
   ·exact⟨rfl,rfl,rfl,by decide,by decide +kernel⟩
   ·exact⟨rfl,rfl,rfl,by decide,by decide +kernel⟩
   ·exact g) (aq _)).mono (by decide) (by decide)
theorem Ba7 {h:m9}(hl:h.length<=12):Cz [.im (tD h)]=.ret (.ls false (h.map Ds)) [.im (tD h)]:=by
 obtain⟨cI,e,u,rfl⟩:=Dt (g:=cgN 0) (ft:=Bd) (fe:=cF Gi (Ac (Ad 0) Al)) (I:=fun c=>∃u,c=[u]) (f:=Vl.d) (G:=Ds) (xs:=h) (acc:=[]) (c:=[none]) ⟨none,rfl⟩
  (fun x c hx hI=>by
   obtain⟨u,rfl⟩:=hI
   refine⟨[some (.im x.d)],?_,_,rfl⟩
   wp_walk using A4y)
 have e2:cLC [none] (Bg (Ad 0)) (cgN 0) Bd (cF Gi (Ac (Ad 0) Al)) [some (.im (tD h))]=.ok (.o (.ls false (h.map Ds))) [some (.im (tD h))] :=
  Fl (ds:=h.map Vl.d) (c1:=[some (.im (tD h))]) (by wp_walk using Bg,tD) (by rw[ak];omega) (by simpa[cIn] using e) rfl
 wp_walk using Cz,Us,e2
section
variable {α β:Type}[DecidableEq α]
def ins (qs:List α)(q:α):List α:=if q∈qs then qs else qs++[q]
def fs (l:List α):List α:=l.foldl ins []
def upF (g:α->β)(q:α)(v:β):α->β:=fun x=>if x=q then v else g x
theorem Pr {qs:List α}{q:α}(h:q∈qs):ins qs q=qs:=if_pos h
theorem J5 {qs:List α}{q:α}(h:q∉qs):ins qs q=qs++[q]:=if_neg h
theorem Be4 {qs:List α}{q x:α}:x∈ins qs q↔x∈qs\/x=q:=by
 by_cases h:q∈qs
 ·rw[Pr h]
  exact⟨.inl,fun z=>z.elim id fun z=>z▸h⟩
 ·rw[J5 h,bY,aY]
theorem Rw {l:List α}{x:α}:fs (l++[x])=ins (fs l) x:=by unfold fs;rw[List.foldl_append];rfl
theorem Uo {P:List α->Prop}(h0:P [])(h1:∀l x,P l->P (l++[x]))(l:List α):P l:=by
 rw[<- l.reverse_reverse];generalize l.reverse=m
 induction m with
 | nil=>exact h0
 | cons x m ih=>rw[List.reverse_cons];exact h1 _ _ ih
theorem zW {l:List α}{x:α}:x∈fs l↔x∈l:=by
 revert x
 refine Uo (P:=fun l=>∀{x},x∈fs l↔x∈l) Iff.rfl (fun l y ih x=>?_) l
 rw[Rw,Be4,ih,bY,aY]
theorem Yo (l:List α):(fs l).Nodup:=by
 refine Uo (P:=fun l=>(fs l).Nodup) eY (fun l y ih=>?_) l
 rw[Rw]
 by_cases h:y∈fs l
 ·rw[Pr h];exact ih
 ·rw[J5 h,dZ]
  exact⟨ih,by simp,fun a ha b hb e=>h (by rw[aY.mp hb]at e;rw[<- e];exact ha)⟩
theorem Kg (l:List α):(fs l).length<=l.length:=by
 refine Uo (P:=fun l=>(fs l).length<=l.length) (aq _) (fun l y ih=>?_) l
 rw[Rw]
 by_cases h:y∈fs l
 ·rw[Pr h,aK];exact au ih (gC _ _)
 ·rw[J5 h,aK,aK];exact ju ih _
theorem T4 {l:List α}{k:Nat}{x:α}(h:l[k]?=some x):fs (l.take (k+1))=ins (fs (l.take k)) x:=by
 rw[List.take_succ,h];exact Rw
theorem Au9 {g:α->β}{q:α}{v:β}:upF g q v q=v:=if_pos rfl
theorem At1 {g:α->β}{q x:α}{v:β}(h:x≠q):upF g q v x=g x:=if_neg h
theorem Pu {g:α->β}{q:α}{v:β}{qs:List α}(h:q∉qs):qs.map (upF g q v)=qs.map g:=jE fun x hx=>At1 fun e=>h (e▸hx)
theorem Ul {g:α->β}{q:α}{v:β}:∀{qs:List α},qs.Nodup->q∈qs->(qs.map g).set (fnd q qs) v=qs.map (upF g q v)
 | x::qs,nd,h=>by
  obtain⟨n1,n2⟩:=bQ.mp nd;unfold fnd
  by_cases e:x=q
  ·rw[if_pos e,aD,List.set_cons_zero,aD,Pu (e▸n1),e,Au9]
  ·rw[if_neg e,aD,List.set_cons_succ,aD,At1 e,Ul n2 ((az.mp h).resolve_left fun z=>e z.symm)]
variable {key:α->q_}(he:∀a b,PyData.eqv (key a) (key b)=decide (a=b))
include he
theorem Ap7 {q:α}:∀{qs:List α},q∈qs->Oj (key q) (qs.map key)=some (fnd q qs)
 | x::qs,h=>by
  rw[aD];unfold Oj fnd;rw[he]
  by_cases e:x=q
  ·rw[aF e,if_pos rfl,if_pos e]
  ·rw[aL e,if_neg (by decide),if_neg e,Ap7 ((az.mp h).resolve_left fun z=>e z.symm)];rfl
theorem Ad6 {q:α}:∀{qs:List α},q∉qs->Oj (key q) (qs.map key)=none
 | [],_=>rfl
 | x::qs,h=>by
  have e:x≠q:=fun z=>h (z▸bD)
  rw[aD];unfold Oj
  rw[he,aL e,if_neg (by decide),Ad6 fun z=>h (bx _ z)];rfl
theorem Aw4 {g:α->DE}{q:α}{x:q_}{qs:List α}(nd:qs.Nodup):A1g (qs.map key) (qs.map g) (key q) x=((ins qs q).map key,(ins qs q).map (upF g q (.d x))):=by
 unfold A1g
 by_cases h:q∈qs
 ·simp only[Ap7 he h];rw[Pr h,Ul nd h]
 ·simp only[Ad6 he h];rw[J5 h,bI,bI,aD,cN,aD,cN,Pu h,Au9]
theorem Bb0 {g:α->w5}{q:α}{x:q_}{qs:List α}(nd:qs.Nodup)(h0:q∉qs->g q=[]) :
 B0m ((Rg (qs.map key) (qs.map fun a=>DE.l (g a)) (key q)).2.1[(Rg (qs.map key) (qs.map fun a=>DE.l (g a)) (key q)).2.2]?)=some (g q) /\
 (Rg (qs.map key) (qs.map fun a=>DE.l (g a)) (key q)).1=(ins qs q).map key /\
 (Rg (qs.map key) (qs.map fun a=>DE.l (g a)) (key q)).2.1.set (Rg (qs.map key) (qs.map fun a=>DE.l (g a)) (key q)).2.2 (.l (g q++[x]))=(ins qs q).map fun a=>DE.l (upF g q (g q++[x]) a):=by
 have eu:(fun a=>DE.l (upF g q (g q++[x]) a))=upF (fun a=>DE.l (g a)) q (.l (g q++[x])):=funext fun a=>by unfold upF;split <;> rfl
 unfold Rg
 by_cases h:q∈qs
 ·simp only[Ap7 he h]
  refine⟨?_,by rw[Pr h],by rw[Pr h,eu,Ul nd h]⟩
  rw[bz,N6 h];rfl
 ·simp only[Ad6 he h]
  refine⟨?_,by rw[J5 h,bI];rfl,?_⟩
  ·rw[cV (by simp),ak,ak,cR,h0 h];rfl
  ·rw[J5 h,eu,bI,Pu h,aD,Au9,cN,List.set_append_right _ _ (by simp),ak,ak,cR];rfl
theorem Ag0 {g:α->q_}{q:α}:∀{qs:List α},Oo (qs.map key) (qs.map g) (key q)=if q∈qs then some (g q) else none
 | []=>rfl
 | x::qs=>by
  rw[aD,aD];unfold Oo;rw[he]
  by_cases e:x=q
  ·rw[aF e,if_pos rfl,if_pos (by rw[e];exact bD),e]
  ·rw[aL e,if_neg (by decide),Ag0]
   have:q∈x::qs↔q∈qs:=by rw[az];exact⟨fun z=>z.resolve_left fun z=>e z.symm,.inr⟩
   by_cases m:q∈qs
   ·rw[if_pos m,if_pos (this.mpr m)]
   ·rw[if_neg m,if_neg fun z=>m (this.mp z)]
omit he
theorem Xx {g:α->q_}:∀{qs:List α},Ij (qs.map key) (qs.map g)=qs.map fun a=>.tuple [key a,g a]
 | []=>rfl
 | x::qs=>by rw[aD,aD,Ij,Xx];rfl
def nmK (l:List α)(k:Nat)(q:α):w5:=((List.range k).filter fun i=>decide (l[i]?=some q)).map fun i=>PyData.int (i:Nat)
theorem A6u {l:List α}{k:Nat}{x:α}(h:l[k]?=some x):nmK l (k+1)=upF (nmK l k) x (nmK l k x++[.int (k:Nat)]):=funext fun q=>by
 have e:nmK l (k+1) q=nmK l k q++if l[k]?=some q then [.int (k:Nat)] else []:=by
  unfold nmK;rw[List.range_succ,List.filter_append,bI]
  congr 1
  by_cases z:l[k]?=some q
  ·rw[if_pos z];simp[z]
  ·rw[if_neg z];simp[z]
 rw[e]
 by_cases z:q=x
 ·subst z;rw[if_pos h,Au9]
 ·rw[if_neg (fun y=>z (bK (y.symm.trans h))),cH,At1 z]
theorem Bk4 {l:List α}{k:Nat}{q:α}(h:q∉l.take k):nmK l k q=[]:=by
 unfold nmK;rw[List.filter_eq_nil_iff.mpr,cN];intro i hi e;have hi:=dz.mp hi;have e:=aX e
 exact h (bH (i:=i) (by rw[List.getElem?_take,if_pos hi];exact e))
theorem Bh7 (l:List α)(k:Nat)(q:α):(nmK l k q).length<=k:=by
 unfold nmK;rw[ak]
 exact au (List.length_filter_le _ _) (by simp)
end
theorem K3 {d:Nat}{g:o8}{F:BF}{P:Nat->Ev->w5->List DE->Prop}:∀{items:w5}{n:Nat}{c:Ev}{ks:w5}{es:List DE},P n c ks es ->
 (∀k x c ks es,items[k]?=some x->P (n+k) c ks es->∃c1 c' ks' es',g (.o (.im x)) c=.ok () c1/\Cw d c1=true/\F c1 ks es=.nx c' ks' es'/\P (n+k+1) c' ks' es')->∃c' ks' es',Uu (d:=d) g F items c ks es=.nx c' ks' es'/\P (n+items.length) c' ks' es'
 | [],n,c,ks,es,h0,_=>⟨c,ks,es,rfl,h0⟩
 | x::xs,n,c,ks,es,h0,hs=>by
  obtain⟨c1,c2,ks2,es2,e1,e2,e3,h1⟩:=hs 0 x c ks es rfl h0
  obtain⟨c3,ks3,es3,e4,h2⟩:=K3 (d:=d) (g:=g) (F:=F) (P:=P) (items:=xs) (n:=n+1) h1 (fun k d c ks es hk hp=>by
   have:=hs (k+1) d c ks es (by simpa using hk) (by rw[show n+(k+1)=n+1+k by omega];exact hp)
   rw[show n+(k+1)+1=n+1+k+1 by omega]at this
   exact this)
  refine⟨c3,ks3,es3,?_,by rw[aQ,show n+(xs.length+1)=n+1+xs.length by omega];exact h2⟩
  show (g (.o (.im x)) c).toB _=_
  rw[e1]
  show (if Cw d c1=true then _ else _)=_
  rw[if_pos e2,e3];exact e4
theorem Ub {d:Nat}{fi:Ev->R (w5)}{g:o8}{F:BF}{c c1:Ev}{ds ks:w5}{es:List DE}(h1:fi c=.ok ds c1)(h2:Cw d c1=true):Xi (d:=d) fi g F c ks es=Uu (d:=d) g F ds c1 ks es:=by
 unfold Xi;rw[h1]
 show (if Cw d c1=true then _ else _)=_
 rw[if_pos h2]
theorem Oe {d:Nat}{F:BF}{g:Ev->SR}{c c':Ev}{ks:w5}{es:List DE}(h1:Cw d (c.set d none)=true)(h2:F (c.set d none) [] []=.nx c' ks es):Nm d F g c=g (c'.set d (some (.ty (.ds ks (es.map DE.dat))))):=by
 unfold Nm;rw[if_pos h1,h2]
theorem Ad2:∀vs:m9,Fz (vs.map Vl.d)=true
 | []=>rfl
 | v::vs=>by
  rw[aD,Fz,Ad2 vs]
  cases v <;> rfl
theorem A8n (vs:m9):keyB (tD vs)=true:=Ad2 vs
theorem Y0:∀vs:m9,PyData.depthAll (vs.map Vl.d)=0
 | []=>rfl
 | v::vs=>by
  show max v.d.depth (PyData.depthAll (vs.map Vl.d))=0
  rw[Y0 vs]
  cases v <;> rfl
theorem An4 {vs:m9}(h:VBs vs):PyData.canLayAll0 (vs.map Vl.d)=true:=Py fun d hd=>by
 obtain⟨v,hv,rfl⟩:=aC.mp hd;exact(Gx (h v hv)).lay
theorem Bt2 {vs:m9}(h:VBs vs):Ip (tD vs)=true:=by
 show (Fz (vs.map Vl.d)&&PyData.canLayAll0 (vs.map Vl.d)&&decide (PyData.depthAll (vs.map Vl.d)<=6))=true
 rw[Ad2,An4 h,Y0];rfl
abbrev PH:=List Vl×m9
def kD (q:PH):q_:=.tuple [tD q.1,tD q.2]
theorem Aw2 (a b:PH):PyData.eqv (kD a) (kD b)=decide (a=b):=by
 show (PyData.eqv (tD a.1) (tD b.1)&&(PyData.eqv (tD a.2) (tD b.2)&&true))=_
 rw[Ai7,Ai7,Bool.and_true,<- Bool.decide_and]
 exact decide_eq_decide.mpr ⟨fun h=>Prod.ext h.1 h.2,fun h=>by rw[h];exact⟨rfl,rfl⟩⟩
theorem Wx {q:PH}(h1:VBs q.1)(h2:VBs q.2):Ip (kD q)=true:=by
 show (Fz [tD q.1,tD q.2]&&PyData.canLayAll0 [tD q.1,tD q.2]&&decide (PyData.depthAll [tD q.1,tD q.2]<=6))=true
 have e1:Fz [tD q.1,tD q.2]=true:=by
  show (keyB (tD q.1)&&(keyB (tD q.2)&&true))=true
  rw[A8n,A8n];rfl
 have e2:PyData.canLayAll0 [tD q.1,tD q.2]=true:=Py fun d hd=>by
  simp only[az,aM,aN]at hd
  rcases hd with rfl | rfl
  ·exact An4 h1
  ·exact An4 h2
 have e3:PyData.depthAll [tD q.1,tD q.2]=1:=by
  show max (PyData.depthAll (q.1.map Vl.d)+1) (max (PyData.depthAll (q.2.map Vl.d)+1) 0)=1
  rw[Y0,Y0];rfl
 rw[e1,e2,e3];rfl
theorem Av7:∀{cols:v4}{i:Nat}{x:Str},cols.Nodup->cols[i]?=some x->Tq x cols=some i
 | [],i,x,_,h=>by simp at h
 | y::r,0,x,_,h=>by
  have e:y=x:=by simpa using h
  unfold Tq;rw[if_pos (by simpa using e)]
 | y::r,i+1,x,nd,h=>by
  have h':r[i]?=some x:=by simpa using h
  obtain⟨n1,n2⟩:=bQ.mp nd
  have ne:¬ y=x:=fun e=>n1 (by rw[e];exact bH h')
  unfold Tq;rw[if_neg (by simpa using ne),Av7 n2 h'];rfl
theorem Ak3:∀x∈names12,(PyData.str x).canLay0=true:=fun x hx=>bN.mp (show names12.all (fun x=>(PyData.str x).canLay0)=true by decide +kernel) x hx
theorem Nj:∀ss:v4,strsOf (ss.map PyData.str)=some ss
 | []=>rfl
 | x::ss=>by show (strsOf (ss.map PyData.str)).map (x::·)=_;rw[Nj ss];rfl
theorem Be0 {x:Str}{cols:v4}(hx:x∈cols)(hs:∀y∈cols,y∈names12):M4 true (.str x) (.tuple (cols.map PyData.str))=some (.im (.bool false)):=by
 show (if Dj (.str x)&&PyData.canLayAll0 (cols.map PyData.str) then some (O.im (.bool (!((cols.map PyData.str).any fun e=>PyData.eqv e (.str x))))) else none)=_
 have f1:Dj (.str x)=true:=by unfold Dj;rw[Ak3 x (hs x hx)];rfl
 rw[f1,Py (fun d hd=>by obtain⟨u,hu,rfl⟩:=aC.mp hd;exact Ak3 u (hs u hu)),List.any_eq_true.mpr ⟨.str x,aC.mpr ⟨x,hx,rfl⟩,by rw[Ay3];simp⟩]
 rfl
theorem Wv {x:Str}{cols:v4}{i:Nat}(nd:cols.Nodup)(h:cols[i]?=some x):Lg (.tuple (cols.map PyData.str)) (.str x)=some (.im (.int i)):=by
 show ((strsOf (cols.map PyData.str)).bind fun ss=>(Tq x ss).map fun j=>O.im (.int (j:Nat)))=_
 rw[Nj,dY,Av7 nd h];rfl
def sqD (b:Bool)(l:w5):q_:=if b then .tuple l else .list l
theorem Bg2 {c:Ev}{i:Nat}{b:Bool}{l:w5}(h:c[i]?=some (some (.im (sqD b l)))):Bg (Ad i) c=.ok l c:=by
 unfold Bg Ad;simp only[h,R.bind_ok,nrm,frz]
 cases b <;> rfl
theorem R.toB_ok {α:Type}{a:α}{c:Ev}{k:α->Ev->BR}:(U.R.ok a c).toB k=k a c:=rfl
def vAt (cols:v4)(r:m9)(x:Str):Vl:=r.getD (fnd x cols) .non
def pick (cols:v4)(r:m9)(ns:v4):m9:=ns.map (vAt cols r)
theorem Iu {cols:v4}{r:m9}{ns:v4}(h:VBs r):VBs (pick cols r ns):=fun v hv=>by
 obtain⟨x,_,rfl⟩:=aC.mp hv;unfold vAt;rw[dF]
 cases e:r[fnd x cols]? with
 | none=>rfl
 | some v=>exact h v (bH e)
theorem A6y {cols:v4}{r:m9}{x:Str}(hx:x∈cols)(hr:r.length=cols.length):Ay (tD r) (.int (fnd x cols:Nat))=some (.im (vAt cols r x).d):=by
 have l:=A9z hx
 have e:(r.map Vl.d)[fnd x cols]?=some (vAt cols r x).d:=by
  unfold vAt
  rw[bz,dF,bj (by omega)];rfl
 show (atI (r.map Vl.d) (fnd x cols:Nat)).map O.im=_
 rw[Iz e];rfl
theorem Nz {t:Tb}(ht:Tb.Ok t){x:Str}(hx:x∈t.cols):Gd [.im t.d,.im (.str x)]=.ret (.im (.int (fnd x t.cols:Nat))) [.im t.d,.im (.str x)]:=by
 have h1:=Be0 hx ht.nms.sub;have h2:=Wv ht.nms.nd (N6 hx)
 wp_walk using Gd,S7,Tb.d,Ay,h1,cMt,O4,h2
abbrev Ht (cols ns:v4):w5:=ns.map fun x=>PyData.int (fnd x cols:Nat)
theorem Ri {t:Tb}(ht:Tb.Ok t){b:Bool}{ns:v4}(hn:∀x∈ns,x∈t.cols)(hl:ns.length<=12):Ej [.im t.d,.im (sqD b (ns.map PyData.str))]=.ret (.ls false (Ht t.cols ns)) [.im t.d,.im (sqD b (ns.map PyData.str))]:=by
 obtain⟨cI,e,u,rfl⟩:=Dt (g:=cgN 0) (ft:=Bd) (fe:=cF Gd (Ac (Ad 1) (Ac (Ad 0) Al))) (I:=fun c=>∃u,c=[u,some (.im t.d)]) (f:=PyData.str) (G:=fun x=>PyData.int (fnd x t.cols:Nat)) (xs:=ns) (acc:=[]) (c:=[none,some (.im t.d)]) ⟨none,rfl⟩
  (fun x c hx hI=>by
   obtain⟨u,rfl⟩:=hI
   refine⟨[some (.im (.str x)),some (.im t.d)],?_,_,rfl⟩
   wp_walk using Nz ht (hn x hx))
 have e2:cLC [none,some 0] (Bg (Ad 1)) (cgN 0) Bd (cF Gd (Ac (Ad 1) (Ac (Ad 0) Al))) [some (.im t.d),some (.im (sqD b (ns.map PyData.str)))]=.ok (.o (.ls false (Ht t.cols ns))) [some (.im t.d),some (.im (sqD b (ns.map PyData.str)))] :=
  Fl (ds:=ns.map PyData.str) (c1:=[some (.im t.d),some (.im (sqD b (ns.map PyData.str)))]) (Bg2 rfl) (by rw[ak];omega) (by simpa[cIn,O.flag] using e) rfl
 wp_walk using Ej,Pz,e2
theorem Rp {cols:v4}{r:m9}{ns:v4}(hn:∀x∈ns,x∈cols)(hr:r.length=cols.length)(hl:ns.length<=12):Cr [.im (tD r),.im (.list (Ht cols ns))]=.ret (.im (tD (pick cols r ns))) [.im (tD r),.im (.list (Ht cols ns))]:=by
 obtain⟨cI,e,u,rfl⟩:=Dt (g:=cgN 0) (ft:=Bd) (fe:=cOp Ay (Ad 1) (Ad 0)) (I:=fun c=>∃u,c=[u,some (.im (tD r))]) (f:=fun x=>PyData.int (fnd x cols:Nat)) (G:=fun x=>(vAt cols r x).d) (xs:=ns) (acc:=[]) (c:=[none,some (.im (tD r))]) ⟨none,rfl⟩
  (fun x c hx hI=>by
   obtain⟨u,rfl⟩:=hI
   refine⟨[some (.im (.int (fnd x cols:Nat))),some (.im (tD r))],?_,_,rfl⟩
   wp_walk using A6y (hn x hx) hr)
 have e2:cLC [none,some 0] (Bg (Ad 1)) (cgN 0) Bd (cOp Ay (Ad 1) (Ad 0)) [some (.im (tD r)),some (.im (.list (Ht cols ns)))]=.ok (.o (.ls false (ns.map fun x=>(vAt cols r x).d))) [some (.im (tD r)),some (.im (.list (Ht cols ns)))] :=
  Fl (ds:=Ht cols ns) (c1:=[some (.im (tD r)),some (.im (.list (Ht cols ns)))]) (by wp_walk using Bg,Gs) (by rw[ak];omega) (by simpa[cIn,O.flag] using e) rfl
 have e3:PyData.tuple (ns.map fun x=>(vAt cols r x).d)=tD (pick cols r ns):=by unfold tD pick;rw[cQ];rfl
 wp_walk using Cr,Qu,e2,Az,e3
section
variable {α:Type}[DecidableEq α]{key:α->q_}(he:∀a b,PyData.eqv (key a) (key b)=decide (a=b)){d:Nat}{c:Ev}{qs:List α}{q:α}
include he
theorem Ae7 {fk:n8}{fv:w5->List DE->Ev->R PV}{g:α->DE}{x:q_}(h1:fv (qs.map key) (qs.map g) c=.ok (.o (.im x)) c)(h2:fk c=.ok (.o (.im (key q))) c)(nd:qs.Nodup)(hk:Ip (key q)=true)(hl:qs.length<=1000)(hn:Cw d c=true) :
 Ad8 (d:=d) fk fv c (qs.map key) (qs.map g)=.nx c ((ins qs q).map key) ((ins qs q).map (upF g q (.d x))):=by
 unfold Ad8;simp only[h1,R.toB_ok,nrm,frz,h2,Ef,rdP,dY,O.dat]
 rw[if_pos (by rw[hk,hn,aF (by rw[ak];omega)];rfl),Aw4 he nd]
theorem A7f {fk fv:n8}{g:α->w5}{x:q_}(h1:fk c=.ok (.o (.im (key q))) c)(h2:fv c=.ok (.o (.im x)) c)(nd:qs.Nodup)(hk:Ip (key q)=true)(hl:qs.length<=1000)(hg:(g q).length<=1000)(h0:q∉qs->g q=[])(hn:Cw d c=true) :
 A5e (d:=d) fk fv c (qs.map key) (qs.map fun a=>.l (g a))=.nx c ((ins qs q).map key) ((ins qs q).map fun a=>.l (upF g q (g q++[x]) a)):=by
 obtain⟨e1,e2,e3⟩:=Bb0 (x:=x) he nd h0;unfold A5e;simp only[h1,R.toB_ok,nrm,Ef,rdP,dY,O.dat]
 rw[if_pos (by rw[hk,aF (by rw[ak];omega)];rfl)]
 simp only[e1,h2,R.toB_ok,nrm,frz]
 rw[if_pos (by rw[hn,aF (by omega)];rfl),e2,e3]
end
theorem Ac0 {α β:Type}[DecidableEq α]{g:α->β}{q:α}:upF g q (g q)=g:=funext fun x=>by
 unfold upF
 split
 ·rename_i e;rw[e]
 ·rfl
theorem A9m {α:Type}{f:α->q_}{xs:List α}{k:Nat}{x:q_}(h:(Ov (xs.map f))[k]?=some x):∃a,xs[k]?=some a/\x=.tuple [.int (k:Nat),f a]:=by
 unfold Ov at h;obtain⟨j,hj,rfl⟩:=Du h
 have hk:k<xs.length:=by
  rcases bc k xs.length with q | q
  ·exact q
  ·rw[bU (by rw[dq,ak];exact q)]at hj;cases hj
 rw[j7 (by rw[ak];exact hk)]at hj
 cases hj
 exact⟨xs[k],bj hk,by simp[hk]⟩
def prs (t:Tb)(ks ns:v4):List PH:=t.rows.map fun r=>(pick t.cols r ks,pick t.cols r ns)
structure Cs (t:Tb) (ns:v4):Prop where
 sub:∀x∈ns,x∈t.cols
 len:ns.length<=12
theorem O8 {t:Tb}(ht:Tb.Ok t){ks ns:v4}{q:PH}(h:q∈prs t ks ns):VBs q.1/\VBs q.2:=by
 obtain⟨r,hr,rfl⟩:=aC.mp h;exact⟨Iu (ht.rows r hr).2,Iu (ht.rows r hr).2⟩
theorem Qg {t:Tb}(ht:Tb.Ok t){ks ns:v4}:(prs t ks ns).length<=60:=by unfold prs;rw[ak];exact ht.rlen
abbrev grD (l:List PH):O:=.ty (.ds ((fs l).map kD) ((fs l).map fun q=>PyData.list (nmK l l.length q)))
theorem Am4 {α:Type}{l:List α}{k:Nat}{x:α}(h:x∈l.take k):x∈l:=(List.take_sublist k l).subset h
theorem Lf {α:Type}[DecidableEq α]{l:List α}{k n:Nat}(h:l.length<=n):(fs (l.take k)).length<=n:=au (Kg _) (au (by rw[fQ];exact gO _ _) h)
abbrev rev (t:Tb)(x y:q_)(rest:m5):Ev:=some (.im t.d)::some (.im x)::some (.im y)::rest
theorem Bj5 {t:Tb}(ht:Tb.Ok t){a b:Bool}{ks ns:v4}(hk:Cs t ks)(hn:Cs t ns) :
 Es [.im t.d,.im (sqD a (ks.map PyData.str)),.im (sqD b (ns.map PyData.str))]=.ret (grD (prs t ks ns)) [.im t.d,.im (sqD a (ks.map PyData.str)),.im (sqD b (ns.map PyData.str))]:=by
 have e1:=Ri ht (b:=a) hk.sub hk.len;have e2:=Ri ht (b:=b) hn.sub hn.len;have hl:=Qg ht (ks:=ks) (ns:=ns)
 have hz2:(prs t ks ns).length=t.rows.length:=by unfold prs;rw[ak]
 have hp:∀{k:Nat} {r:m9},t.rows[k]?=some r->(prs t ks ns)[k]?=some (pick t.cols r ks,pick t.cols r ns):=fun {k r} hr=>by unfold prs;rw[bz,hr];rfl
 generalize sqD a (ks.map PyData.str)=x at *
 generalize sqD b (ns.map PyData.str)=y at *
 generalize prs t ks ns=l at *
 obtain⟨c',ks',es',e3,o3,o4,u6,u7,u8,rfl,_,_,rfl,rfl⟩:=K3 (d:=5) (g:=cgT 2 (Bo (cgN 6) (Bo (cgN 7) Gm))) (F:=G3) (items:=Ov (t.rows.map tD)) (n:=0) (ks:=[]) (es:=[])
  (c:=rev t x y [some (.ls false (Ht t.cols ks)),some (.ls false (Ht t.cols ns)),none,none,none,none])
  (P:=fun k c K' E'=>∃o3 o4 u6 u7 u8,c=rev t x y [some o3,some o4,none,u6,u7,u8]/\Tu o3 (Ht t.cols ks)/\Tu o4 (Ht t.cols ns) /\
   K'=(fs (l.take k)).map kD/\E'=(fs (l.take k)).map fun q=>DE.l (nmK l k q)) ⟨_,_,none,none,none,rfl,.inl rfl,.inl rfl,rfl,rfl⟩
  (fun k z c K' E' hx hP=>by
   rw[bf]at hP ⊢;obtain⟨o3,o4,u6,u7,u8,rfl,h3,h4,rfl,rfl⟩:=hP;obtain⟨r,hr,rfl⟩:=A9m hx;have mr:=ht.rows r (bH hr);have hp:=hp hr;have v1:=Rp (r:=r) hk.sub mr.1 hk.len;have v2:=Rp (r:=r) hn.sub mr.1 hn.len;have w1:VBs (pick t.cols r ks):=Iu mr.2;have w2:VBs (pick t.cols r ns):=Iu mr.2
   generalize pick t.cols r ks=p at *
   generalize pick t.cols r ns=h at *
   have ea:∀K1 E1,Tp (d:=5) (Dq (Ac (cF Cr (Ac (Ad 7) (Ac (cFz (Ad 3)) Al))) (Ac (cF Cr (Ac (Ad 7) (Ac (cFz (Ad 4)) Al))) Al))) (cgN 8) (rev t x y [some o3,some o4,none,some (.im (.int (k:Nat))),some (.im (tD r)),u8]) K1 E1 =
    .nx (rev t x y [some (.im (.list (Ht t.cols ks))),some (.im (.list (Ht t.cols ns))),none,some (.im (.int (k:Nat))),some (.im (tD r)),some (.im (kD (p,h)))]) K1 E1:=fun K1 E1=>by
    rcases h3 with rfl | rfl <;> rcases h4 with rfl | rfl <;> wp_walk using rev,Tp,R.toB_ok,v1,v2,Cw,kD
   refine⟨rev t x y [some o3,some o4,none,some (.im (.int (k:Nat))),some (.im (tD r)),u8],rev t x y [some (.im (.list (Ht t.cols ks))),some (.im (.list (Ht t.cols ns))),none,some (.im (.int (k:Nat))),some (.im (tD r)),some (.im (kD (p,h)))],_,_,(by wp_walk using rev),rfl,?_,_,_,_,_,_,rfl,.inr rfl,.inr rfl,rfl,rfl⟩
   unfold G3 Ae3;rw[ea]
   show A5e (d:=5) (Ad 8) (Ad 6) _ _ _=_
   rw[A7f (x:=.int (k:Nat)) (q:=(p,h)) Aw2 (by wp_walk using bC) (by wp_walk using bC) (Yo _) (Wx w1 w2) (Lf (au hl (by decide))) (au (Bh7 _ _ _) (by have:=(bL.mp hp).1;omega)) (fun z=>Bk4 fun y=>z (zW.mpr y)) rfl]
   rw[<- T4 hp,<- A6u hp])
 have hz:(Ov (t.rows.map tD)).length=t.rows.length:=by unfold Ov;rw[ak,dq,ak]
 rw[hz,bf,<- hz2,gw]at e3
 have e5:=Oe (d:=5) (g:=Dc (Ad 5)) (c:=rev t x y [some (.ls false (Ht t.cols ks)),some (.ls false (Ht t.cols ns)),none,none,none,none]) rfl ((Ub (fi:=Az3 (cOp Ay (Ad 0) (cC (.int 1)))) (c1:=rev t x y [some (.ls false (Ht t.cols ks)),some (.ls false (Ht t.cols ns)),none,none,none,none]) (by wp_walk using rev,Az3,Ay,Tb.d,Gs) rfl).trans e3)
 rw[cQ]at e5
 have e6:(DE.dat ∘ fun q=>DE.l (nmK l l.length q))=fun q=>PyData.list (nmK l l.length q):=rfl
 rw[e6]at e5
 wp_walk using Es,K7,e1,e2,e5
def nD (ns:v4):q_:=.tuple (ns.map PyData.str)
theorem Ai2 {α β:Type}(f:α->q_)(g:β->q_):∀(as:List α) (bs:List β),Hv (as.map f) (bs.map g)=(as.zip bs).map fun q=>.tuple [f q.1,g q.2]
 | [],bs=>by simp[Hv]
 | a::as,[]=>by simp[Hv]
 | a::as,b::bs=>by
  have:=Ai2 f g as bs;unfold Hv at this ⊢;rw[aD,aD,bR,aD,this,bR,aD]
theorem Aj0 {l:m8}(hv:∀x∈l,VBs x)(hl:l.length<=200):Ek [.im (.list (l.map tD))]=.ret (.im (.tuple ((fs l).map tD))) [.im (.list (l.map tD))]:=by
 obtain⟨c',ks',es',e3,u,rfl,rfl,rfl⟩:=K3 (d:=1) (g:=cgN 2) (F:=Gz) (items:=l.map tD) (n:=0) (ks:=[]) (es:=[]) (c:=[some (.im (.list (l.map tD))),none,none])
  (P:=fun k c K' E'=>∃u,c=[some (.im (.list (l.map tD))),none,u]/\K'=(fs (l.take k)).map tD/\E'=(fs (l.take k)).map fun _=>DE.d (.bool true)) ⟨none,rfl,rfl,rfl⟩
  (fun k x c K' E' hx hP=>by
   rw[bf]at hP ⊢;obtain⟨u,rfl,rfl,rfl⟩:=hP;obtain⟨r,hr,rfl⟩:=Du hx
   refine⟨[some (.im (.list (l.map tD))),none,some (.im (tD r))],[some (.im (.list (l.map tD))),none,some (.im (tD r))],_,_,(by wp_walk using bC),rfl,?_,_,rfl,rfl,rfl⟩
   have:=Ae7 (d:=1) (c:=[some (.im (.list (l.map tD))),none,some (.im (tD r))]) (fk:=Ad 2) (fv:=fun _ _=>cC (.bool true)) (g:=fun _=>DE.d (.bool true)) (q:=r) (x:=.bool true) Ai7 (by wp_walk using bC) (by wp_walk using bC) (Yo (l.take k)) (Bt2 (hv r (bH hr))) (Lf (au hl (by decide))) rfl
   rw[Ac0 (g:=fun _:m9=>DE.d (.bool true)),<- T4 hr]at this
   exact this)
 rw[ak,bf,gw]at e3
 have e4:=Ub (d:=1) (fi:=Bg (Ad 0)) (g:=cgN 2) (F:=Gz) (ds:=l.map tD) (ks:=[]) (es:=[]) (c:=[some (.im (.list (l.map tD))),none,none]) (c1:=[some (.im (.list (l.map tD))),none,none]) (by wp_walk using Bg,Gs) rfl
 have e5:=Oe (d:=1) (g:=Dc (Ax1 (Ad 1))) (F:=Xi (d:=1) (Bg (Ad 0)) (cgN 2) Gz) (c:=[some (.im (.list (l.map tD))),none,none]) rfl (e4.trans e3)
 wp_walk using Ek,Ow,e5,Ax1
theorem Av1 {qs:List PH}{ds:w5}{rest:m5}{sel:n8}{f:PH->m9}(hs:∀q:PH,sel [some (.im (tD q.1)),some (.im (tD q.2))]=.ok (.o (.im (tD (f q)))) [some (.im (tD q.1)),some (.im (tD q.2))])(hl:qs.length<=200) :
 cLC [none,none] (Vc (Ad 0)) (cgT 2 (Bo (cgN 0) (Bo (cgN 1) Gm))) Bd sel (some (.ty (.ds (qs.map kD) ds))::rest)=.ok (.o (.ls false ((qs.map f).map tD))) (some (.ty (.ds (qs.map kD) ds))::rest):=by
 obtain⟨cI,e,u,v,rfl⟩:=Dt (g:=cgT 2 (Bo (cgN 0) (Bo (cgN 1) Gm))) (ft:=Bd) (fe:=sel) (I:=fun c=>∃u v,c=[u,v]) (f:=kD) (G:=fun q=>tD (f q)) (xs:=qs) (acc:=[]) (c:=[none,none]) ⟨none,none,rfl⟩
  (fun q c hx hI=>by
   obtain⟨u,v,rfl⟩:=hI
   refine⟨[some (.im (tD q.1)),some (.im (tD q.2))],?_,_,_,rfl⟩
   unfold kD
   wp_walk using hs q)
 refine Fl (ds:=qs.map kD) (c1:=some (.ty (.ds (qs.map kD) ds))::rest) (by wp_walk using Vc) (by rw[ak];omega) (by rw[cX]at e;rw[cQ];exact e) rfl
theorem A8l {qs:List PH}{ds:w5}(hv:∀q∈qs,VBs q.1/\VBs q.2)(hl:qs.length<=200):Gv [.ty (.ds (qs.map kD) ds)]=.ret (.im (.tuple ((fs (qs.map (·.1))).map tD))) [.ty (.ds (qs.map kD) ds)]:=by
 have e1:=Av1 (qs:=qs) (ds:=ds) (rest:=[]) (sel:=Ad 0) (f:=(·.1)) (fun q=>by wp_walk using bC) hl
 have e2:=Aj0 (l:=qs.map (·.1)) (fun x hx=>by obtain⟨q,hq,rfl⟩:=aC.mp hx;exact(hv q hq).1) (by rw[ak];exact hl)
 wp_walk using Gv,Ot,e1,e2
def Dp (b:Bool):Str:=if b then "rising" else "seen"
def Srt (b:Bool)(hs out:m8):Prop:=if b=true then ∃p:List Nat,p.Perm (List.range hs.length)/\p.Pairwise (PS.Rr (klt hs))/\out=atP [] hs p else out=hs
theorem Srt.one {b:Bool}{hs x y:m8}(h1:Srt b hs x)(h2:Srt b hs y):x=y:=by
 cases b with
 | false=>exact(show x=hs from h1).trans (show y=hs from h2).symm
 | true =>
  obtain⟨p,p1,p2,rfl⟩:=h1;obtain⟨q,q1,q2,rfl⟩:=h2;rw[Af7 (Bg6 (Ad7 hs)) (p1.trans q1.symm) p2 q2]
theorem Srt.sub {b:Bool}{hs x:m8}(h:Srt b hs x):(∀a∈x,a∈hs)/\x.length=hs.length:=by
 cases b with
 | false=>rw[show x=hs from h];exact⟨fun _ z=>z,rfl⟩
 | true =>
  obtain⟨p,p1,p2,rfl⟩:=h
  refine⟨fun a ha=>Bl8 (Ad3 p1) ha,?_⟩
  unfold atP;rw[ak,p1.length_eq,dq]
theorem Yt (b:Bool):Cy false (.str (Dp b)) (.str "rising")=some (.im (.bool b)):=by
 rw[Ae2]
 cases b
 ·rw[if_neg (by decide),aL (by decide +kernel)]
 ·rw[if_neg (by decide),aF (by decide +kernel)]
theorem A7l {qs:List PH}{ds:w5}{b:Bool}(hv:∀q∈qs,VBs q.1/\VBs q.2)(hl:qs.length<=60)(hw:∀q∈qs,q.2.length<=12):∃out,Srt b (fs (qs.map (·.2))) out /\
 Fv [.ty (.ds (qs.map kD) ds),.im (.str (Dp b))]=.ret (.im (.tuple (out.map tD))) [.ty (.ds (qs.map kD) ds),.im (.str (Dp b))]:=by
 have e1:=Av1 (qs:=qs) (ds:=ds) (rest:=[some (.im (.str (Dp b))),none]) (sel:=Ad 1) (f:=(·.2)) (fun q=>by wp_walk using bC) (au hl (by decide))
 have e2:=Aj0 (l:=qs.map (·.2)) (fun x hx=>by obtain⟨q,hq,rfl⟩:=aC.mp hx;exact(hv q hq).2) (by rw[ak];omega)
 have e3:=Yt b
 have H:HK (fs (qs.map (·.2))):=⟨Yo _,fun h hh=>by
  obtain⟨q,hq,rfl⟩:=aC.mp (zW.mp hh)
  exact⟨(hv q hq).2,hw q hq⟩,au (Kg _) (by rw[ak];exact hl)⟩
 cases b with
 | false =>
  refine⟨_,rfl,?_⟩
  wp_walk using Fv,Kf,e1,e2,e3
 | true =>
  obtain⟨p,p1,p2,e4⟩:=A4z H
  refine⟨_,⟨p,p1,p2,rfl⟩,?_⟩
  wp_walk using Fv,Kf,e1,e2,e3,e4,Az
theorem A9x {qs:List PH}{g:PH->q_}{p h:m9}{x:q_}(hv:∀q∈qs,VBs q.1/\VBs q.2)(hp:VBs p)(hh:VBs h){c:Ev}{fa fw fx:n8}(ha:fa c=.ok (.o (.ty (.ds (qs.map kD) (qs.map g)))) c)(hw:fw c=.ok (.o (.im (kD (p,h)))) c)(hx:fx c=.ok (.o (.im x)) c) :
 Ik fa fw fx c=.ok (.o (.im (if (p,h)∈qs then g (p,h) else x))) c:=by
 unfold Ik;simp only[ha,R.bind_ok,hw,hx,nrm,frz,Ef,rdP,dY,O.dat]
 rw[if_pos (by
  rw[Wx (q:=(p,h)) hp hh,iY,bN];intro k hk;obtain⟨q,hq,rfl⟩:=aC.mp hk
  exact Wx (hv q hq).1 (hv q hq).2),Ag0 Aw2]
 by_cases m:(p,h)∈qs
 ·rw[if_pos m,if_pos m];rfl
 ·rw[if_neg m,if_neg m];rfl
abbrev Mf (qs:List PH)(g:PH->q_)(x:q_)(hs:m8)(p:m9):q_:=.tuple (hs.map fun h=>if (p,h)∈qs then g (p,h) else x)
theorem Bf5 {qs:List PH}{g:PH->q_}{p:m9}{x:q_}{hs:m8}(hv:∀q∈qs,VBs q.1/\VBs q.2)(hp:VBs p)(hh:∀h∈hs,VBs h)(hl:hs.length<=200) :
 Gb [.im (tD p),.im (.tuple (hs.map tD)),.ty (.ds (qs.map kD) (qs.map g)),.im x]=.ret (.im (Mf qs g x hs p)) [.im (tD p),.im (.tuple (hs.map tD)),.ty (.ds (qs.map kD) (qs.map g)),.im x]:=by
 obtain⟨cI,e,u,rfl⟩:=Dt (g:=cgN 0) (ft:=Bd) (fe:=Ik (Ad 2) (Dq (Ac (Ad 3) (Ac (Ad 0) Al))) (Ad 1)) (I:=fun c=>∃u,c=[u,some (.im x),some (.ty (.ds (qs.map kD) (qs.map g))),some (.im (tD p))]) (f:=tD) (G:=fun h=>if (p,h)∈qs then g (p,h) else x) (xs:=hs) (acc:=[]) (c:=[none,some (.im x),some (.ty (.ds (qs.map kD) (qs.map g))),some (.im (tD p))]) ⟨none,rfl⟩
  (fun h c hm hI=>by
   obtain⟨u,rfl⟩:=hI
   refine⟨[some (.im (tD h)),some (.im x),some (.ty (.ds (qs.map kD) (qs.map g))),some (.im (tD p))],?_,_,rfl⟩
   have e:=A9x (x:=x) (g:=g) hv hp (hh h hm) (c:=[some (.im (tD h)),some (.im x),some (.ty (.ds (qs.map kD) (qs.map g))),some (.im (tD p))]) (fa:=Ad 2) (fw:=Dq (Ac (Ad 3) (Ac (Ad 0) Al))) (fx:=Ad 1) (by wp_walk using bC) (by wp_walk using kD) (by wp_walk using bC)
   unfold K5
   rw[show cgN 0 (.o (.im (tD h))) [u,some (.im x),some (.ty (.ds (qs.map kD) (qs.map g))),some (.im (tD p))]=.ok () [some (.im (tD h)),some (.im x),some (.ty (.ds (qs.map kD) (qs.map g))),some (.im (tD p))] from rfl]
   show ((Ik _ _ _ _).bind _)=_
   rw[e];rfl)
 have e2:cLC [none,some 3,some 2,some 0] (Bg (Ad 1)) (cgN 0) Bd (Ik (Ad 2) (Dq (Ac (Ad 3) (Ac (Ad 0) Al))) (Ad 1)) [some (.im (tD p)),some (.im (.tuple (hs.map tD))),some (.ty (.ds (qs.map kD) (qs.map g))),some (.im x)]=.ok (.o (.ls false (hs.map fun h=>if (p,h)∈qs then g (p,h) else x))) [some (.im (tD p)),some (.im (.tuple (hs.map tD))),some (.ty (.ds (qs.map kD) (qs.map g))),some (.im x)] :=
  Fl (ds:=hs.map tD) (c1:=[some (.im (tD p)),some (.im (.tuple (hs.map tD))),some (.ty (.ds (qs.map kD) (qs.map g))),some (.im x)]) (by wp_walk using Bg,Gs) (by rw[ak];omega) (by rw[cX]at e;exact e) rfl
 wp_walk using Gb,Sy,e2,Az
theorem Bl1 {qs:List PH}{g:PH->q_}{x:q_}{ps hs:m8}(hv:∀q∈qs,VBs q.1/\VBs q.2)(hp:∀p∈ps,VBs p)(hh:∀h∈hs,VBs h)(hl:hs.length<=200)(hl2:ps.length<=200) :
 H9 [.im (.tuple (ps.map tD)),.im (.tuple (hs.map tD)),.ty (.ds (qs.map kD) (qs.map g)),.im x]=.ret (.im (.tuple (ps.map (Mf qs g x hs)))) [.im (.tuple (ps.map tD)),.im (.tuple (hs.map tD)),.ty (.ds (qs.map kD) (qs.map g)),.im x]:=by
 obtain⟨cI,e,u,rfl⟩:=Dt (g:=cgN 0) (ft:=Bd) (fe:=cF Gb (Ac (Ad 0) (Ac (Ad 1) (Ac (Ad 2) (Ac (Ad 3) Al))))) (I:=fun c=>∃u,c=[u,some (.im (.tuple (hs.map tD))),some (.ty (.ds (qs.map kD) (qs.map g))),some (.im x)]) (f:=tD) (G:=Mf qs g x hs) (xs:=ps) (acc:=[]) (c:=[none,some (.im (.tuple (hs.map tD))),some (.ty (.ds (qs.map kD) (qs.map g))),some (.im x)]) ⟨none,rfl⟩
  (fun p c hm hI=>by
   obtain⟨u,rfl⟩:=hI
   refine⟨[some (.im (tD p)),some (.im (.tuple (hs.map tD))),some (.ty (.ds (qs.map kD) (qs.map g))),some (.im x)],?_,_,rfl⟩
   wp_walk using Bf5 (g:=g) (x:=x) hv (hp p hm) hh hl)
 have e2:cLC [none,some 1,some 2,some 3] (Bg (Ad 0)) (cgN 0) Bd (cF Gb (Ac (Ad 0) (Ac (Ad 1) (Ac (Ad 2) (Ac (Ad 3) Al))))) [some (.im (.tuple (ps.map tD))),some (.im (.tuple (hs.map tD))),some (.ty (.ds (qs.map kD) (qs.map g))),some (.im x)]=.ok (.o (.ls false (ps.map (Mf qs g x hs)))) [some (.im (.tuple (ps.map tD))),some (.im (.tuple (hs.map tD))),some (.ty (.ds (qs.map kD) (qs.map g))),some (.im x)] :=
  Fl (ds:=ps.map tD) (c1:=[some (.im (.tuple (ps.map tD))),some (.im (.tuple (hs.map tD))),some (.ty (.ds (qs.map kD) (qs.map g))),some (.im x)]) (by wp_walk using Bg,Gs) (by rw[ak];omega) (by rw[cX]at e;exact e) rfl
 wp_walk using H9,S8,e2,Az
theorem A8c (b:Bool):Hc [.im (.str (Dp b))]=.ret (.im .none) [.im (.str (Dp b))]:=by cases b <;> rfl
theorem B0r {x:Str}:∀{ns:v4},ns.Nodup->x∈ns->ns.countP (fun z=>z==x)=1
 | y::ns,nd,h=>by
  obtain⟨n1,n2⟩:=bQ.mp nd;rw[jw]
  by_cases e:y=x
  ·have:ns.countP (fun z=>z==x)=0:=List.countP_eq_zero.mpr fun z hz q=>n1 (by rw[e,<- dm q];exact hz)
   rw[this,if_pos (by rw[e];exact dG x)]
  ·rw[if_neg (by rw[cD.mpr e];decide),B0r n2 ((az.mp h).resolve_left fun z=>e z.symm)]
theorem A3c {x:Str}{ns:v4}(nd:ns.Nodup)(hx:x∈ns):Kr (.list (ns.map PyData.str)) (.str x)=some (.im (.int 1)):=by
 show (strsOf (ns.map PyData.str)).map _=_
 rw[Nj,gU,B0r nd hx];rfl
theorem Ad9 {b:Bool}{l:w5}(h:l.length<=16000000):Jf (sqD b l)=some (.ls false l):=by
 cases b <;> simp[sqD,Jf,h]
theorem Br7 {b:Bool}{l:w5}:Jl [sqD b l]=some (.im (.int l.length)):=by cases b <;> rfl
theorem Bq3 {t:Tb}(ht:Tb.Ok t){a b c:Bool}{ks ns vs:v4}(pm:(ks++ns++vs).Perm t.cols)(hv:1<=vs.length) :
 Di [.im (.tuple (t.cols.map PyData.str)),.im (sqD a (ks.map PyData.str)),.im (sqD b (ns.map PyData.str)),.im (sqD c (vs.map PyData.str))]=.ret (.im .none) [.im (.tuple (t.cols.map PyData.str)),.im (sqD a (ks.map PyData.str)),.im (sqD b (ns.map PyData.str)),.im (sqD c (vs.map PyData.str))]:=by
 have hl:=pm.length_eq;have cl:=ht.clen;rw[aK,aK]at hl
 have c1:=Ad9 (b:=a) (l:=ks.map PyData.str) (by rw[ak];omega)
 have c2:=Ad9 (b:=b) (l:=ns.map PyData.str) (by rw[ak];omega)
 have c3:=Ad9 (b:=c) (l:=vs.map PyData.str) (by rw[ak];omega)
 have c4:Dm (.list (ks.map PyData.str)) (.list (ns.map PyData.str))=some (.ls false ((ks++ns).map PyData.str)):=by
  show (if _ then _ else _)=_
  rw[if_pos (by rw[ak,ak];omega),bI]
 have c5:Dm (.list ((ks++ns).map PyData.str)) (.list (vs.map PyData.str))=some (.ls false ((ks++ns++vs).map PyData.str)):=by
  show (if _ then _ else _)=_
  rw[if_pos (by rw[ak,ak,aK];omega),<- bI]
 have nd:=pm.nodup_iff.mpr ht.nms.nd
 have z0:Cy false (.int 1) (.int 1)=some (.im (.bool true)):=by rw[Ks rfl rfl];rfl
 obtain⟨cI,e,u,rfl⟩:=Dt (g:=cgN 0) (ft:=Bd) (fe:=cOp (Cy false) (cMt Wq Kr (Ad 1) (Ad 0)) (cC (.int 1))) (I:=fun c=>∃u,c=[u,some (.ls true ((ks++ns++vs).map PyData.str))]) (f:=PyData.str) (G:=fun _=>PyData.bool true) (xs:=t.cols) (acc:=[]) (c:=[none,some (.ls true ((ks++ns++vs).map PyData.str))]) ⟨none,rfl⟩
  (fun x c hx hI=>by
   obtain⟨u,rfl⟩:=hI
   refine⟨[some (.im (.str x)),some (.ls true ((ks++ns++vs).map PyData.str))],?_,_,rfl⟩
   wp_walk using cMt,Wq,A3c nd (pm.mem_iff.mpr hx),z0)
 rw[cX,List.map_const']at e
 have hL:((ks++ns++vs).map PyData.str).length=(t.cols.map PyData.str).length:=by rw[ak,ak];exact pm.length_eq
 have z1:Cy true (.int ((t.cols.map PyData.str).length:Nat)) (.int ((t.cols.map PyData.str).length:Nat))=some (.im (.bool false)):=by
  rw[Ks rfl rfl,Bg8];rfl
 have z2:Cy false (.int ((vs.map PyData.str).length:Nat)) (.int 0)=some (.im (.bool false)):=by
  rw[Ks rfl rfl]
  show some (O.im (.bool (((vs.map PyData.str).length:Int)==0)))=_
  rw[cD.mpr (by rw[ak];omega)]
 generalize hA:sqD a (ks.map PyData.str)=A at *
 generalize hB:sqD b (ns.map PyData.str)=B at *
 have len_c:=Br7 (b:=c) (l:=vs.map PyData.str)
 generalize hC:sqD c (vs.map PyData.str)=C at *
 generalize (ks++ns++vs).map PyData.str=L at *
 have l0:Jl [.tuple (t.cols.map PyData.str)]=some (.im (.int (t.cols.map PyData.str).length)):=rfl;have l1:Jl [.list L]=some (.im (.int L.length)):=rfl
 have e2:cLC [none,some 4] (Bg (Ad 0)) (cgN 0) Bd (cOp (Cy false) (cMt Wq Kr (Ad 1) (Ad 0)) (cC (.int 1))) [some (.im (.tuple (t.cols.map PyData.str))),some (.im A),some (.im B),some (.im C),some (.ls false L)]=.ok (.o (.ls false (List.replicate t.cols.length (.bool true)))) [some (.im (.tuple (t.cols.map PyData.str))),some (.im A),some (.im B),some (.im C),some (.ls false L)] :=
  Fl (ds:=t.cols.map PyData.str) (c1:=[some (.im (.tuple (t.cols.map PyData.str))),some (.im A),some (.im B),some (.im C),some (.ls false L)]) (by wp_walk using Bg,Gs) (by rw[ak];omega) e rfl
 wp_walk using Di,Hy,c1,c2,c3,c4,c5,e2,Al4,N5,Af8,l0,l1,hL,z1,len_c,z2
theorem An1 {p:Nat->Bool}{j:Nat}:∀{n:Nat},(∀i,i<n->(p i=true↔i=j))->(List.range n).filter p=if j<n then [j] else []
 | 0,_=>by simp
 | n+1,h=>by
  rw[List.range_succ,List.filter_append,An1 fun i hi=>h i (fu hi)]
  have hn:=h n (dN n)
  by_cases e:n=j
  ·subst e
   rw[if_neg (bh _),if_pos (dN _),List.filter_cons,if_pos (hn.mpr rfl)];rfl
  ·rw[List.filter_cons,if_neg fun z=>e (hn.mp z),List.filter_nil,cH]
   by_cases l:j<n
   ·rw[if_pos l,if_pos (fu l)]
   ·rw[if_neg l,if_neg (by omega)]
theorem A9e {α:Type}[DecidableEq α]{l:List α}(nd:l.Nodup){q:α}(hq:q∈l):nmK l l.length q=[.int (fnd q l:Nat)]:=by
 unfold nmK
 rw[An1 (j:=fnd q l) fun i _=>⟨fun z=>(Aa1 nd (aX z)).symm,fun z=>aF (by rw[z];exact N6 hq)⟩,if_pos (A9z hq)];rfl
theorem Aw7 {α:Type}[DecidableEq α]{l:List α}(nd:l.Nodup):fs l=l:=by
 refine Uo (P:=fun l=>l.Nodup->fs l=l) (fun _=>rfl) (fun l x ih nd=>?_) l nd
 obtain⟨n1,_,n3⟩:=dZ.mp nd
 rw[Rw,ih n1,J5 fun z=>n3 x z x (by simp) rfl]
theorem A4g {l:List PH}(nd:l.Nodup)(hl:l.length<=200):Eu [grD l]=.ret (.im .none) [grD l]:=by
 obtain⟨cI,e,u,rfl⟩:=Rc (g:=cgN 0) (ft:=Bs (cOp Ar4 (Ia (Ad 0)) (cC (.int 1)))) (fe:=Dq (Ac (cOp Ay (Ad 0) (cC (.int 1))) (Ac (cOp Ay (Ad 0) (cC (.int 0))) Al))) (I:=fun c=>∃u,c=[u]) (f:=fun q=>PyData.list (nmK l l.length q)) (G:=fun _=>none) (xs:=fs l) (acc:=[]) (c:=[none]) ⟨none,rfl⟩
  (fun q c hq hI=>by
   obtain⟨u,rfl⟩:=hI;rw[A9e nd (zW.mp hq)]
   refine⟨[some (.im (.list [.int (fnd q l:Nat)]))],?_,_,rfl⟩
   rfl)
 have ez:(fs l).filterMap (fun _=>(none:Option q_))=[]:=by simp
 rw[cX,ez]at e
 have e2:cLC [none] (Z0 (Ad 0)) (cgN 0) (Bs (cOp Ar4 (Ia (Ad 0)) (cC (.int 1)))) (Dq (Ac (cOp Ay (Ad 0) (cC (.int 1))) (Ac (cOp Ay (Ad 0) (cC (.int 0))) Al))) [some (grD l),none,none]=.ok (.o (.ls false [])) [some (grD l),none,none] :=
  Fl (ds:=(fs l).map fun q=>PyData.list (nmK l l.length q)) (c1:=[some (grD l),none,none]) (by wp_walk using Z0,ak) (by rw[ak];exact au (Kg _) (by omega)) e rfl
 have l0:Jl [.list []]=some (.im (.int 0)):=rfl
 wp_walk using Eu,Kp,e2,l0
theorem Aj2 {α:Type}:∀ps:List α,ps.zip ps=ps.map fun p=>(p,p)
 | []=>rfl
 | p::ps=>by rw[bR,aD,Aj2 ps]
theorem Bn8 {qs:List PH}{g:PH->q_}{ps hs:m8}(hv:∀q∈qs,VBs q.1/\VBs q.2)(hp:∀p∈ps,VBs p)(hh:∀h∈hs,VBs h)(hl:hs.length<=200)(hl2:ps.length<=200) :
 Ey [.im (.tuple (ps.map tD)),.im (.tuple (hs.map tD)),.ty (.ds (qs.map kD) (qs.map g))]=.ret (.im (.tuple (ps.map fun p=>.tuple [tD p,Mf qs g .none hs p]))) [.im (.tuple (ps.map tD)),.im (.tuple (hs.map tD)),.ty (.ds (qs.map kD) (qs.map g))]:=by
 have e:=Bl1 (g:=g) (x:=.none) hv hp hh hl hl2
 have ez:Hv (ps.map tD) (ps.map (Mf qs g .none hs))=ps.map fun p=>.tuple [tD p,Mf qs g .none hs p]:=by
  rw[Ai2,Aj2,cQ];rfl
 have lz:(ps.map tD).length=(ps.map (Mf qs g .none hs)).length:=by rw[ak,ak]
 generalize ps.map (Mf qs g .none hs)=R at *
 wp_walk using Ey,Kv,e,A9d,Gs,lz,ez
theorem A3r {α:Type}[DecidableEq α]{key:α->q_}(he:∀a b,PyData.eqv (key a) (key b)=decide (a=b)){d:Nat}{c c1:Ev}{qs:List α}{q:α}{fk:n8}{fv:w5->List DE->Ev->R PV}{g:α->DE}{x:q_}(h1:fv (qs.map key) (qs.map g) c=.ok (.o (.im x)) c1)(h2:fk c1=.ok (.o (.im (key q))) c1)(nd:qs.Nodup)(hk:Ip (key q)=true)(hl:qs.length<=1000)(hn:Cw d c1=true) :
 Ad8 (d:=d) fk fv c (qs.map key) (qs.map g)=.nx c1 ((ins qs q).map key) ((ins qs q).map (upF g q (.d x))):=by
 unfold Ad8;simp only[h1,R.toB_ok,nrm,frz,h2,Ef,rdP,dY,O.dat]
 rw[if_pos (by rw[hk,hn,aF (by rw[ak];omega)];rfl),Aw4 he nd]
def cellOf (t:Tb)(ks ns vs:v4)(q:PH):m9:=pick t.cols (t.rows.getD (fnd q (prs t ks ns)) []) vs
def fdD (t:Tb)(ks ns vs:v4)(hs:m8):q_:=.tuple [nD ks,nD ns,nD vs,.tuple (hs.map tD),.tuple ((fs ((prs t ks ns).map (·.1))).map fun p=>.tuple [tD p,Mf (prs t ks ns) (fun q=>tD (cellOf t ks ns vs q)) .none hs p])]
abbrev fev (t:Tb)(a b c:q_)(r:Bool)(gr:O)(rest:m5):Ev:=some (.im t.d)::some (.im a)::some (.im b)::some (.im c)::some (.im (.str (Dp r)))::some gr::rest
theorem Rj {b:Bool}{ns:v4}:Az (sqD b (ns.map PyData.str))=some (.im (nD ns)):=by
 cases b <;> simp[sqD,Az,nD]
structure Cv (t:Tb) (ks ns vs:v4):Prop where
 pm:(ks++ns++vs).Perm t.cols
 pos:1<=vs.length
theorem Cv.cs {t:Tb}{ks ns vs:v4}(h:Cv t ks ns vs)(ht:Tb.Ok t):Cs t ks/\Cs t ns/\Cs t vs:=by
 have hlen:=h.pm.length_eq;have cl:=ht.clen;rw[aK,aK]at hlen
 exact⟨⟨fun x hx=>h.pm.mem_iff.mp (dh _ (dh _ hx)),by omega⟩,⟨fun x hx=>h.pm.mem_iff.mp (dh _ (aU _ hx)),by omega⟩,⟨fun x hx=>h.pm.mem_iff.mp (aU _ hx),by omega⟩⟩
theorem Ay4 {t:Tb}{ks ns vs:v4}{k:Nat}{q:PH}(nd:(prs t ks ns).Nodup)(hq:(prs t ks ns)[k]?=some q):∃r,t.rows[k]?=some r/\cellOf t ks ns vs q=pick t.cols r vs/\q=(pick t.cols r ks,pick t.cols r ns):=by
 have fq:=Aa1 nd hq;unfold prs at hq;obtain⟨r,hr,e⟩:=Du hq
 refine⟨r,hr,?_,e.symm⟩
 unfold cellOf;rw[fq,dF,hr];rfl
theorem A3k {t:Tb}(ht:Tb.Ok t){a b c r:Bool}{ks ns vs:v4}(cv:Cv t ks ns vs)(nd:(prs t ks ns).Nodup):∃hs,Srt r (fs ((prs t ks ns).map (·.2))) hs /\
 Ft [.im t.d,.im (sqD a (ks.map PyData.str)),.im (sqD b (ns.map PyData.str)),.im (sqD c (vs.map PyData.str)),.im (.str (Dp r))]=.ret (.im (fdD t ks ns vs hs)) [.im t.d,.im (sqD a (ks.map PyData.str)),.im (sqD b (ns.map PyData.str)),.im (sqD c (vs.map PyData.str)),.im (.str (Dp r))]:=by
 obtain⟨hk,hn,hw⟩:=cv.cs ht;have e1:=Bq3 ht (a:=a) (b:=b) (c:=c) cv.pm cv.pos;have e3:=Bj5 ht (a:=a) (b:=b) hk hn;have e4:=Ri ht (b:=c) hw.sub hw.len;have hl:=Qg ht (ks:=ks) (ns:=ns)
 have hv:∀q∈prs t ks ns,VBs q.1/\VBs q.2:=fun q hq=>O8 ht hq
 have h12:∀q∈prs t ks ns,q.2.length<=12:=fun q hq=>by
  obtain⟨x,_,rfl⟩:=aC.mp hq
  show (pick _ _ _).length<=12
  unfold pick;rw[ak];exact hn.len
 have hp:=fun {k:Nat} {q:PH} (h:(prs t ks ns)[k]?=some q)=>Ay4 (vs:=vs) nd h
 have t1:=Rj (b:=a) (ns:=ks);have t2:=Rj (b:=b) (ns:=ns);have t3:=Rj (b:=c) (ns:=vs);unfold fdD
 generalize cellOf t ks ns vs=G at *
 generalize sqD a (ks.map PyData.str)=A at *
 generalize sqD b (ns.map PyData.str)=B at *
 generalize sqD c (vs.map PyData.str)=C at *
 generalize prs t ks ns=l at *
 have e5:=A4g nd (au hl (by decide))
 obtain⟨hs,sr,e6⟩:=A7l (b:=r) (ds:=l.map fun q=>PyData.list (nmK l l.length q)) hv hl h12
 obtain⟨s1,s2⟩:=sr.sub
 refine⟨hs,sr,?_⟩
 have e7:=A8l (ds:=l.map fun q=>PyData.list (nmK l l.length q)) hv (au hl (by decide))
 have e8:=Bn8 (g:=fun q=>tD (G q)) (ps:=fs (l.map (·.1))) (hs:=hs) hv (fun p hp=>by obtain⟨q,hq,rfl⟩:=aC.mp (zW.mp hp);exact(hv q hq).1) (fun p hp=>by obtain⟨q,hq,rfl⟩:=aC.mp (zW.mp (s1 p hp));exact(hv q hq).2) (by rw[s2];exact au (Kg _) (by rw[ak];omega)) (au (Kg _) (by rw[ak];omega))
 have fsl:=Aw7 nd;unfold grD at e3 e5;rw[fsl]at e3 e5
 generalize hgr:O.ty (.ds (l.map kD) (l.map fun q=>PyData.list (nmK l l.length q)))=gr at *
 obtain⟨c',ks',es',e9,o6,u8,u9,rfl,h6,rfl,rfl⟩:=K3 (d:=7) (g:=cgT 2 (Bo (cgN 8) (Bo (cgN 9) Gm))) (F:=J4) (items:=l.map fun q=>PyData.tuple [kD q,.list (nmK l l.length q)]) (n:=0) (ks:=[]) (es:=[]) (c:=fev t A B C r gr [some (.ls false (Ht t.cols vs)),none,none,none,none,none])
  (P:=fun k c K' E'=>∃o6 u8 u9,c=fev t A B C r gr [some o6,none,u8,u9,none,none]/\Tu o6 (Ht t.cols vs)/\K'=(fs (l.take k)).map kD/\E'=(fs (l.take k)).map fun q=>DE.d (tD (G q))) ⟨_,none,none,rfl,.inl rfl,rfl,rfl⟩
  (fun k x c K' E' hx hP=>by
   rw[bf]at hP ⊢;obtain⟨o6,u8,u9,rfl,h6,rfl,rfl⟩:=hP;obtain⟨q,hq,rfl⟩:=Du hx;have mq:=bH hq;have m:=hv q mq;obtain⟨row,hr,gq,_⟩:=hp hq;have mr:=ht.rows row (bH hr);have v1:=Rp (r:=row) hw.sub mr.1 hw.len;rw[A9e nd mq,Aa1 nd hq];rw[<- gq]at v1
   have z:Ay (.tuple (t.rows.map tD)) (.int (k:Nat))=some (.im (tD row)):=by
    show (atI (t.rows.map tD) (k:Nat)).map O.im=_
    rw[Iz (by rw[bz,hr];rfl)];rfl
   refine⟨fev t A B C r gr [some o6,none,some (.im (kD q)),some (.im (.list [.int (k:Nat)])),none,none],fev t A B C r gr [some (.im (.list (Ht t.cols vs))),none,some (.im (kD q)),some (.im (.list [.int (k:Nat)])),none,none],_,_,(by wp_walk using fev),rfl,?_,_,_,_,rfl,.inr rfl,rfl,rfl⟩
   have:=A3r (d:=7) (c:=fev t A B C r gr [some o6,none,some (.im (kD q)),some (.im (.list [.int (k:Nat)])),none,none]) (c1:=fev t A B C r gr [some (.im (.list (Ht t.cols vs))),none,some (.im (kD q)),some (.im (.list [.int (k:Nat)])),none,none]) (fk:=Ad 8) (fv:=fun _ _=>cF Cr (Ac (cOp Ay (cOp Ay (Ad 0) (cC (.int 1))) (cOp Ay (Ad 9) (cC (.int 0)))) (Ac (cFz (Ad 6)) Al))) (g:=fun q=>DE.d (tD (G q))) (q:=q) (x:=tD (G q)) Aw2 (by
    have z1:Ay t.d (.int 1)=some (.im (.tuple (t.rows.map tD))):=rfl;have z2:Ay (.list [.int (k:Nat)]) (.int 0)=some (.im (.int (k:Nat))):=rfl
    rcases h6 with rfl | rfl <;> wp_walk using fev,z1,z2,z,v1) (by wp_walk using fev) (Yo (l.take k)) (Wx m.1 m.2) (Lf (au hl (by decide))) rfl
   rw[Ac0 (g:=fun q:PH=>DE.d (tD (G q))),<- T4 hq]at this
   exact this)
 rw[ak,bf,gw,fsl]at e9
 have e10:=Ub (d:=7) (fi:=Qa (Ad 5)) (g:=cgT 2 (Bo (cgN 8) (Bo (cgN 9) Gm))) (F:=J4) (ds:=l.map fun q=>PyData.tuple [kD q,.list (nmK l l.length q)]) (ks:=[]) (es:=[]) (c:=fev t A B C r gr [some (.ls false (Ht t.cols vs)),none,none,none,none,none]) (c1:=fev t A B C r gr [some (.ls false (Ht t.cols vs)),none,none,none,none,none]) (by
  subst hgr
  wp_walk using fev,Qa,ak,Xx) rfl
 have e11:=fun g=>Oe (d:=7) (g:=g) (F:=Xi (d:=7) (Qa (Ad 5)) (cgT 2 (Bo (cgN 8) (Bo (cgN 9) Gm))) J4) (c:=fev t A B C r gr [some (.ls false (Ht t.cols vs)),none,none,none,none,none]) rfl (e10.trans e9)
 rw[cQ]at e11
 have e12:(DE.dat ∘ fun q=>DE.d (tD (G q)))=fun q=>tD (G q):=rfl
 rw[e12]at e11;have c4:Ay t.d (.int 0)=some (.im (.tuple (t.cols.map PyData.str))):=rfl;have c5:=A8c r;subst hgr
 rcases h6 with rfl | rfl <;> wp_walk using Ft,Yc,c4,e1,c5,e3,e5,e4,e11,e6,e7,e8,t1,t2,t3
theorem A0h {t:Tb}{ns:v4}{r:m9}(ht:Tb.Ok t)(hn:∀x∈ns,x∈t.cols)(hr:r.length=t.cols.length)(hl:ns.length<=12) :
 Ei [.im t.d,.im (tD r),.im (.list (ns.map PyData.str))]=.ret (.im (tD (pick t.cols r ns))) [.im t.d,.im (tD r),.im (.list (ns.map PyData.str))]:=by
 have c4:Ay t.d (.int 0)=some (.im (.tuple (t.cols.map PyData.str))):=rfl
 obtain⟨cI,e,u,rfl⟩:=Dt (g:=cgN 0) (ft:=Bd) (fe:=cOp Ay (Ad 1) (cMt O4 Lg (cOp Ay (Ad 2) (cC (.int 0))) (Ad 0))) (I:=fun c=>∃u,c=[u,some (.im (tD r)),some (.im t.d)]) (f:=PyData.str) (G:=fun x=>(vAt t.cols r x).d) (xs:=ns) (acc:=[]) (c:=[none,some (.im (tD r)),some (.im t.d)]) ⟨none,rfl⟩
  (fun x c hx hI=>by
   obtain⟨u,rfl⟩:=hI
   refine⟨[some (.im (.str x)),some (.im (tD r)),some (.im t.d)],?_,_,rfl⟩
   wp_walk using c4,cMt,O4,Wv ht.nms.nd (N6 (hn x hx)),A6y (hn x hx) hr)
 have e2:cLC [none,some 1,some 0] (Bg (Ad 2)) (cgN 0) Bd (cOp Ay (Ad 1) (cMt O4 Lg (cOp Ay (Ad 2) (cC (.int 0))) (Ad 0))) [some (.im t.d),some (.im (tD r)),some (.im (.list (ns.map PyData.str)))]=.ok (.o (.ls false (ns.map fun x=>(vAt t.cols r x).d))) [some (.im t.d),some (.im (tD r)),some (.im (.list (ns.map PyData.str)))] :=
  Fl (ds:=ns.map PyData.str) (c1:=[some (.im t.d),some (.im (tD r)),some (.im (.list (ns.map PyData.str)))]) (by wp_walk using Bg,Gs) (by rw[ak];omega) (by simpa[cIn,O.flag] using e) rfl
 have e3:PyData.tuple (ns.map fun x=>(vAt t.cols r x).d)=tD (pick t.cols r ns):=by unfold tD pick;rw[cQ];rfl
 wp_walk using Ei,Au8,e2,Az,e3
theorem A0a {c:Ev}{i j:Nat}{o:O}{v:m9}{vs:m8}(ho:Tu o (vs.map tD))(hi:c[i]?=some (some o))(hj:c[j]?=some (some (.im (tD v))))(hv:VBs v)(hs:∀u∈vs,VBs u)(hl:vs.length<=100) :
 cOp Dm (Ad i) (cOp Np (Fy (Ac (Ad j) Al)) (cUn Ng (cOp (M4 true) (Ad j) (Ad i)))) c=.ok (.o (.ls false ((ins vs v).map tD))) c:=by
 have e1:=A4i (neg:=true) hv hs
 have e2:∃k:Int,Ng (.bool (!decide (v∈vs)))=some (.im (.int k))/\Np (.list [tD v]) (.int k)=some (.ls false (if v∈vs then [] else [tD v])):=by
  by_cases m:v∈vs
  ·rw[if_pos m,aF m]
   exact⟨0,rfl,rfl⟩
  ·rw[if_neg m,aL m]
   exact⟨1,rfl,rfl⟩
 obtain⟨k,e2,e3⟩:=e2
 have e4:Dm (.list (vs.map tD)) (.list (if v∈vs then [] else [tD v]))=some (.ls false ((ins vs v).map tD)):=by
  show (if _ then _ else _)=_
  by_cases m:v∈vs
  ·rw[if_pos m,Pr m,if_pos (by rw[ak];simp;omega),cH]
  ·rw[if_neg m,J5 m,if_pos (by rw[ak];simp;omega),bI];rfl
 rcases ho with rfl | rfl <;> wp_walk using hi,hj,e1,e2,e3,e4
theorem A4k {hs:m8}(H:HK hs):∃p:List Nat,p.Perm (List.range hs.length)/\p.Pairwise (PS.Rr (klt hs))/\(Nb Cz (hs.map tD)).bind (Ao4 (hs.map tD))=some ((atP [] hs p).map tD):=by
 have l:=H.len
 obtain⟨p,pm,pw,e⟩:=Ax3 (ds:=hs.map tD) (ks:=hs.map fun h=>PyData.list (h.map Ds)) (kd:=.ll) (Ad7 hs) (by rw[ak,ak]) (by rw[ak];omega) (fun h0=>by
  cases hs with
  | nil=>simp at h0
  | cons h hs=>rfl) (fun k hk=>by
  obtain⟨h,hh,rfl⟩:=aC.mp hk
  exact⟨rfl,(Good.lst (n:=1) (w:=5800) (k:=12) (fun d hd=>by obtain⟨v,hv,rfl⟩:=aC.mp hd;exact Ap5 ((H.vb _ hh).1 v hv)) (by rw[ak];exact(H.vb _ hh).2)).flatB (by decide)⟩) (fun i j x y hx hy=>by
  obtain⟨a,ha,rfl⟩:=Du hx;obtain⟨b,hb,rfl⟩:=Du hy
  show Nq false (a.map Ds) (b.map Ds)=_
  unfold klt
  rw[Yr,dF,dF,ha,hb];rfl)
 rw[ak]at pm;rw[Ak7 tD [] hs (Ad3 pm)]at e
 refine⟨p,pm,pw,?_⟩
 have ek:Nb Cz (hs.map tD)=some (hs.map fun h=>PyData.list (h.map Ds)):=by
  have hl:=fun h hh=>(H.vb h hh).2
  clear e pw pm H l
  induction hs with
  | nil=>rfl
  | cons h hs ih =>
   have e:=Ba7 (h:=h) (hl h (.head _))
   have e1:W8 Cz (tD h)=some (.list (h.map Ds)):=by unfold W8;rw[e];rfl
   show (W8 Cz (tD h)).bind _=_
   rw[e1]
   show (Nb Cz (hs.map tD)).map _=_
   rw[ih fun x hx=>hl x (.tail _ hx)];rfl
 rw[ek];exact e
theorem Ae6 {l:List PH}{f:PH->m9}{k:Nat}{x:PH}(h:l[k]?=some x):fs ((l.take (k+1)).map f)=ins (fs ((l.take k).map f)) (f x):=by
 rw[List.take_succ,h,bI];exact Rw
abbrev gev (t:Tb)(ks ns vs:v4)(r:Bool)(rest:m5):Ev:=some (.im t.d)::some (.im (.list (ks.map PyData.str)))::some (.im (.list (ns.map PyData.str)))::some (.im (.list (vs.map PyData.str)))::some (.im (.str (Dp r)))::rest
theorem A5u {t:Tb}(ht:Tb.Ok t){ks ns vs:v4}(hk:Cs t ks)(hn:Cs t ns)(hw:Cs t vs)(nd:(prs t ks ns).Nodup){r:Bool}{k:Nat}{row:m9}(hr:t.rows[k]?=some row){o4 o5:O}{u9 u10:m6}
 (h4:Tu o4 ((fs (((prs t ks ns).take k).map (·.1))).map tD)) (h5:Tu o5 ((fs (((prs t ks ns).take k).map (·.2))).map tD)) :
 Ea (gev t ks ns vs r [some o4,some o5,none,some (.im (tD row)),u9,u10,none]) ((fs ((prs t ks ns).take k)).map kD) ((fs ((prs t ks ns).take k)).map fun q=>DE.d (tD (cellOf t ks ns vs q))) =
 .nx (gev t ks ns vs r [some (.ls false ((fs (((prs t ks ns).take (k+1)).map (·.1))).map tD)),some (.ls false ((fs (((prs t ks ns).take (k+1)).map (·.2))).map tD)),none,some (.im (tD row)),some (.im (tD (pick t.cols row ks))),some (.im (tD (pick t.cols row ns))),none])
  ((fs ((prs t ks ns).take (k+1))).map kD) ((fs ((prs t ks ns).take (k+1))).map fun q=>DE.d (tD (cellOf t ks ns vs q))):=by
 have mr:=ht.rows row (bH hr)
 have hp:(prs t ks ns)[k]?=some (pick t.cols row ks,pick t.cols row ns):=by unfold prs;rw[bz,hr];rfl
 obtain⟨row',hr',gq,_⟩:=Ay4 (vs:=vs) nd hp
 cases hr.symm.trans hr'
 have hl:=Qg ht (ks:=ks) (ns:=ns);have i1:=A0h ht hk.sub mr.1 hk.len;have i2:=A0h ht hn.sub mr.1 hn.len;have i3:=A0h ht hw.sub mr.1 hw.len;rw[<- gq]at i3;have v1:VBs (pick t.cols row ks):=Iu mr.2;have v2:VBs (pick t.cols row ns):=Iu mr.2
 have w1:∀u∈fs (((prs t ks ns).take k).map (·.1)),VBs u:=fun u hu=>by
  obtain⟨q,hq,rfl⟩:=aC.mp (zW.mp hu);exact(O8 ht (Am4 hq)).1
 have w2:∀u∈fs (((prs t ks ns).take k).map (·.2)),VBs u:=fun u hu=>by
  obtain⟨q,hq,rfl⟩:=aC.mp (zW.mp hu);exact(O8 ht (Am4 hq)).2
 have l1:∀f:PH->m9,(fs (((prs t ks ns).take k).map f)).length<=100:=fun f=>au (Kg _) (by rw[ak,fQ];exact au (gO _ _) (by omega))
 rw[Ae6 (f:=(·.1)) hp,Ae6 (f:=(·.2)) hp,T4 hp]
 generalize hA:fs (((prs t ks ns).take k).map (·.1))=A at *
 generalize hB:fs (((prs t ks ns).take k).map (·.2))=B at *
 have l2:=hA▸l1 (·.1)
 have l3:=hB▸l1 (·.2)
 generalize cellOf t ks ns vs=G at *
 generalize hl':prs t ks ns=l at *
 generalize pick t.cols row ks=p at *
 generalize pick t.cols row ns=h at *
 have s1:∀K1 E1,Bk0 (d:=7) 9 10 (Ac (cF Ei (Ac (Ad 0) (Ac (Ad 8) (Ac (Ad 1) Al)))) (Ac (cF Ei (Ac (Ad 0) (Ac (Ad 8) (Ac (Ad 2) Al)))) Al)) (gev t ks ns vs r [some o4,some o5,none,some (.im (tD row)),u9,u10,none]) K1 E1 =
  .nx (gev t ks ns vs r [some o4,some o5,none,some (.im (tD row)),some (.im (tD p)),some (.im (tD h)),none]) K1 E1:=fun K1 E1=>by
  wp_walk using Bk0,R.toB_ok,gev,i1,i2,Cw
 have s2:=A0a (c:=gev t ks ns vs r [some o4,some o5,none,some (.im (tD row)),some (.im (tD p)),some (.im (tD h)),none]) (i:=5) (j:=9) h4 rfl rfl v1 w1 l2;have s3:=A0a (c:=gev t ks ns vs r [some (.ls false ((ins A p).map tD)),some o5,none,some (.im (tD row)),some (.im (tD p)),some (.im (tD h)),none]) (i:=6) (j:=10) h5 rfl rfl v2 w2 l3;unfold Ea Ae3;rw[s1]
 show (match Tp (d:=7) _ _ _ _ _ with | .nx c ks es=>_ | .bad=>_)=_
 have s4:∀K1 E1,Tp (d:=7) (cOp Dm (Ad 5) (cOp Np (Fy (Ac (Ad 9) Al)) (cUn Ng (cOp (M4 true) (Ad 9) (Ad 5))))) (cgN 5) (gev t ks ns vs r [some o4,some o5,none,some (.im (tD row)),some (.im (tD p)),some (.im (tD h)),none]) K1 E1 =
  .nx (gev t ks ns vs r [some (.ls false ((ins A p).map tD)),some o5,none,some (.im (tD row)),some (.im (tD p)),some (.im (tD h)),none]) K1 E1:=fun K1 E1=>by
  unfold Tp;rw[s2];rfl
 rw[s4]
 show (match Tp (d:=7) _ _ _ _ _ with | .nx c ks es=>_ | .bad=>_)=_
 have s5:∀K1 E1,Tp (d:=7) (cOp Dm (Ad 6) (cOp Np (Fy (Ac (Ad 10) Al)) (cUn Ng (cOp (M4 true) (Ad 10) (Ad 6))))) (cgN 6) (gev t ks ns vs r [some (.ls false ((ins A p).map tD)),some o5,none,some (.im (tD row)),some (.im (tD p)),some (.im (tD h)),none]) K1 E1 =
  .nx (gev t ks ns vs r [some (.ls false ((ins A p).map tD)),some (.ls false ((ins B h).map tD)),none,some (.im (tD row)),some (.im (tD p)),some (.im (tD h)),none]) K1 E1:=fun K1 E1=>by
  unfold Tp;rw[s3];rfl
 rw[s5]
 show Ad8 (d:=7) _ _ _ _ _=_
 have:=Ae7 (d:=7) (c:=gev t ks ns vs r [some (.ls false ((ins A p).map tD)),some (.ls false ((ins B h).map tD)),none,some (.im (tD row)),some (.im (tD p)),some (.im (tD h)),none]) (fk:=Dq (Ac (Ad 9) (Ac (Ad 10) Al))) (fv:=fun _ _=>cF Ei (Ac (Ad 0) (Ac (Ad 8) (Ac (Ad 3) Al)))) (g:=fun q=>DE.d (tD (G q))) (q:=(p,h)) (x:=tD (G (p,h))) Aw2 (by wp_walk using gev,i3) (by wp_walk using gev,kD) (Yo (l.take k)) (Wx v1 v2) (Lf (au hl (by decide))) rfl
 rw[Ac0 (g:=fun q:PH=>DE.d (tD (G q)))]at this
 exact this
abbrev A1v:n8:=Dq (Ac (Ad 0) (Ac (cUn Az (cLC [none,some 2,some 0] (Bg (Ad 1)) (cgN 0) Bd (Ik (Ad 1) (Dq (Ac (Ad 2) (Ac (Ad 0) Al))) (cC .none)))) Al))
theorem A9q {qs:List PH}{g:PH->q_}{P hs:m8}(hv:∀q∈qs,VBs q.1/\VBs q.2)(hp:∀p∈P,VBs p)(hh:∀h∈hs,VBs h)(hl:hs.length<=200):∃u,Ed (cgN 0) Bd A1v (P.map tD) [] [none,some (.im (.list (hs.map tD))),some (.ty (.ds (qs.map kD) (qs.map g)))]=.ok (P.map fun p=>.tuple [tD p,Mf qs g .none hs p]) [u,some (.im (.list (hs.map tD))),some (.ty (.ds (qs.map kD) (qs.map g)))]:=by
 have inner:∀p∈P,cLC [none,some 2,some 0] (Bg (Ad 1)) (cgN 0) Bd (Ik (Ad 1) (Dq (Ac (Ad 2) (Ac (Ad 0) Al))) (cC .none)) [some (.im (tD p)),some (.im (.list (hs.map tD))),some (.ty (.ds (qs.map kD) (qs.map g)))]=.ok (.o (.ls false (hs.map fun h=>if (p,h)∈qs then g (p,h) else .none))) [some (.im (tD p)),some (.im (.list (hs.map tD))),some (.ty (.ds (qs.map kD) (qs.map g)))]:=fun p pm=>by
  obtain⟨cI,e,u,rfl⟩:=Dt (g:=cgN 0) (ft:=Bd) (fe:=Ik (Ad 1) (Dq (Ac (Ad 2) (Ac (Ad 0) Al))) (cC .none)) (I:=fun c=>∃u,c=[u,some (.ty (.ds (qs.map kD) (qs.map g))),some (.im (tD p))]) (f:=tD) (G:=fun h=>if (p,h)∈qs then g (p,h) else .none) (xs:=hs) (acc:=[]) (c:=[none,some (.ty (.ds (qs.map kD) (qs.map g))),some (.im (tD p))]) ⟨none,rfl⟩
   (fun h c hm hI=>by
    obtain⟨u,rfl⟩:=hI
    refine⟨[some (.im (tD h)),some (.ty (.ds (qs.map kD) (qs.map g))),some (.im (tD p))],?_,_,rfl⟩
    have e:=A9x (x:=.none) (g:=g) hv (hp p pm) (hh h hm) (c:=[some (.im (tD h)),some (.ty (.ds (qs.map kD) (qs.map g))),some (.im (tD p))]) (fa:=Ad 1) (fw:=Dq (Ac (Ad 2) (Ac (Ad 0) Al))) (fx:=cC .none) (by wp_walk using bC) (by wp_walk using kD) (by wp_walk using bC)
    unfold K5
    rw[show cgN 0 (.o (.im (tD h))) [u,some (.ty (.ds (qs.map kD) (qs.map g))),some (.im (tD p))]=.ok () [some (.im (tD h)),some (.ty (.ds (qs.map kD) (qs.map g))),some (.im (tD p))] from rfl]
    show ((Ik _ _ _ _).bind _)=_
    rw[e];rfl)
  exact Fl (ds:=hs.map tD) (c1:=[some (.im (tD p)),some (.im (.list (hs.map tD))),some (.ty (.ds (qs.map kD) (qs.map g)))]) (by wp_walk using Bg,Gs) (by rw[ak];omega) (by rw[cX]at e;exact e) rfl
 obtain⟨cI,e,u,rfl⟩:=Dt (g:=cgN 0) (ft:=Bd) (fe:=A1v) (I:=fun c=>∃u,c=[u,some (.im (.list (hs.map tD))),some (.ty (.ds (qs.map kD) (qs.map g)))]) (f:=tD) (G:=fun p=>PyData.tuple [tD p,Mf qs g .none hs p]) (xs:=P) (acc:=[]) (c:=[none,some (.im (.list (hs.map tD))),some (.ty (.ds (qs.map kD) (qs.map g)))]) ⟨none,rfl⟩
  (fun p c hm hI=>by
   obtain⟨u,rfl⟩:=hI
   refine⟨[some (.im (tD p)),some (.im (.list (hs.map tD))),some (.ty (.ds (qs.map kD) (qs.map g)))],?_,_,rfl⟩
   wp_walk using A1v,inner p hm,Az)
 rw[cX]at e;exact⟨u,e⟩
theorem A8t {t:Tb}(ht:Tb.Ok t){r:Bool}{ks ns vs:v4}(cv:Cv t ks ns vs)(nd:(prs t ks ns).Nodup):∃hs,Srt r (fs ((prs t ks ns).map (·.2))) hs /\
 Fd (.im t.d::.im (.list (ks.map PyData.str))::.im (.list (ns.map PyData.str))::.im (.list (vs.map PyData.str))::[.im (.str (Dp r))])=.ret (.im (fdD t ks ns vs hs)) [.im t.d,.im (.list (ks.map PyData.str)),.im (.list (ns.map PyData.str)),.im (.list (vs.map PyData.str)),.im (.str (Dp r))]:=by
 obtain⟨hk,hn,hw⟩:=cv.cs ht
 obtain⟨c',ks',es',e3,o4,o5,u8,u9,u10,rfl,h4,h5,rfl,rfl⟩:=K3 (d:=7) (g:=cgN 8) (F:=Ea) (items:=t.rows.map tD) (n:=0) (ks:=[]) (es:=[])
  (c:=gev t ks ns vs r [some (.im (.list [])),some (.im (.list [])),none,none,none,none,none])
  (P:=fun k c K' E'=>∃o4 o5 u8 u9 u10,c=gev t ks ns vs r [some o4,some o5,none,u8,u9,u10,none]/\Tu o4 ((fs (((prs t ks ns).take k).map (·.1))).map tD)/\Tu o5 ((fs (((prs t ks ns).take k).map (·.2))).map tD) /\
   K'=(fs ((prs t ks ns).take k)).map kD/\E'=(fs ((prs t ks ns).take k)).map fun q=>DE.d (tD (cellOf t ks ns vs q))) ⟨_,_,none,none,none,rfl,.inr rfl,.inr rfl,rfl,rfl⟩
  (fun k x c K' E' hx hP=>by
   rw[bf]at hP ⊢;obtain⟨o4,o5,u8,u9,u10,rfl,h4,h5,rfl,rfl⟩:=hP;obtain⟨row,hr,rfl⟩:=Du hx
   exact⟨gev t ks ns vs r [some o4,some o5,none,some (.im (tD row)),u9,u10,none],_,_,_,(by wp_walk using gev),rfl,A5u ht hk hn hw nd hr h4 h5,_,_,_,_,_,rfl,.inl rfl,.inl rfl,rfl,rfl⟩)
 have hz2:(prs t ks ns).length=t.rows.length:=by unfold prs;rw[ak]
 rw[ak,bf,<- hz2,gw]at e3 h4 h5
 have e4:=Ub (d:=7) (fi:=Bg (cOp Ay (Ad 0) (cC (.int 1)))) (g:=cgN 8) (F:=Ea) (ds:=t.rows.map tD) (ks:=[]) (es:=[])
  (c:=gev t ks ns vs r [some (.im (.list [])),some (.im (.list [])),none,none,none,none,none]) (c1:=gev t ks ns vs r [some (.im (.list [])),some (.im (.list [])),none,none,none,none,none]) (by wp_walk using gev,Bg,Ay,Tb.d,Gs) rfl
 have e5:=fun g=>Oe (d:=7) (F:=Xi (d:=7) (Bg (cOp Ay (Ad 0) (cC (.int 1)))) (cgN 8) Ea) (g:=g) (c:=gev t ks ns vs r [some (.im (.list [])),some (.im (.list [])),none,none,none,none,none]) rfl (e4.trans e3)
 have fsl:=Aw7 nd;rw[cQ,fsl]at e5
 have e6:(DE.dat ∘ fun q=>DE.d (tD (cellOf t ks ns vs q)))=fun q=>tD (cellOf t ks ns vs q):=rfl
 rw[e6]at e5;have er:=Yt r;have hl:=Qg ht (ks:=ks) (ns:=ns)
 have hv:∀q∈prs t ks ns,VBs q.1/\VBs q.2:=fun q hq=>O8 ht hq
 have H:HK (fs ((prs t ks ns).map (·.2))):=⟨Yo _,fun h hh=>by
  obtain⟨q,hq,rfl⟩:=aC.mp (zW.mp hh)
  refine⟨(O8 ht hq).2,?_⟩
  obtain⟨x,_,rfl⟩:=aC.mp hq
  show (pick _ _ _).length<=12
  unfold pick
  rw[ak];exact hn.len,au (Kg _) (by rw[ak];exact hl)⟩
 have t1:=Rj (b:=false) (ns:=ks);have t2:=Rj (b:=false) (ns:=ns);have t3:=Rj (b:=false) (ns:=vs)
 have lP:(fs ((prs t ks ns).map (·.1))).length<=60:=au (Kg _) (by rw[ak];exact hl)
 have hP:∀p∈fs ((prs t ks ns).map (·.1)),VBs p:=fun p hp=>by
  obtain⟨q,hq,rfl⟩:=aC.mp (zW.mp hp);exact(hv q hq).1
 generalize hD:Th.ds ((prs t ks ns).map kD) ((prs t ks ns).map fun q=>tD (cellOf t ks ns vs q))=D at *
 have fin:∀(ob:O) (hs:m8),Tu ob (hs.map tD)->Srt r (fs ((prs t ks ns).map (·.2))) hs->∃c,Bm (Cp (cLC [none,some 6,some 7] (A0x 6 (Bg (Ad 5))) (cgN 0) Bd A1v) (cgN 11))
  (Dc (Dq (Ac (cUn Az (Ad 1)) (Ac (cUn Az (Ad 2)) (Ac (cUn Az (Ad 3)) (Ac (cUn Az (Ad 6)) (Ac (cUn Az (Ad 11)) Al))))))) (gev t ks ns vs r [some o4,some ob,some (.ty D),u8,u9,u10,none])=.rt (.o (.im (fdD t ks ns vs hs))) (gev t ks ns vs r c):=fun ob hs hob sr=>by
  subst hD;obtain⟨s1,s2⟩:=sr.sub
  obtain⟨u,e⟩:=A9q (g:=fun q=>tD (cellOf t ks ns vs q)) (P:=fs ((prs t ks ns).map (·.1))) (hs:=hs) hv hP (fun h hh=>by
   obtain⟨q,hq,rfl⟩:=aC.mp (zW.mp (s1 h hh))
   exact(hv q hq).2) (by rw[s2];exact au H.len (by decide))
  unfold fdD
  generalize (fun q=>tD (cellOf t ks ns vs q))=G at *
  generalize hA:fs ((prs t ks ns).map (·.1))=A at *
  generalize prs t ks ns=l at *
  have t4:Az (.list (hs.map tD))=some (.im (.tuple (hs.map tD))):=rfl
  have c1:cLC [none,some 6,some 7] (A0x 6 (Bg (Ad 5))) (cgN 0) Bd A1v (gev t ks ns vs r [some o4,some ob,some (.ty (.ds (l.map kD) (l.map G))),u8,u9,u10,none])=.ok (.o (.ls false (A.map fun p=>.tuple [tD p,Mf l G .none hs p]))) (gev t ks ns vs r [some (.im (.list (A.map tD))),some (.im (.list (hs.map tD))),some (.ty (.ds (l.map kD) (l.map G))),u8,u9,u10,none]) :=
   Fl (ds:=A.map tD) (c1:=gev t ks ns vs r [some (.im (.list (A.map tD))),some (.im (.list (hs.map tD))),some (.ty (.ds (l.map kD) (l.map G))),u8,u9,u10,none]) (by rcases h4 with rfl | rfl <;> rcases hob with rfl | rfl <;> wp_walk using gev,A0x,Bg,Gs) (by rw[ak];omega) e rfl
  have t5:∀ds:w5,Az (.list ds)=some (.im (.tuple ds)):=fun _=>rfl
  generalize (A.map fun p=>PyData.tuple [tD p,Mf l G .none hs p])=R at *
  refine⟨[some (.im (.list (A.map tD))),some (.im (.list (hs.map tD))),some (.ty (.ds (l.map kD) (l.map G))),u8,u9,u10,some (.ls false R)],?_⟩
  refine (Df (c':=gev t ks ns vs r [some (.im (.list (A.map tD))),some (.im (.list (hs.map tD))),some (.ty (.ds (l.map kD) (l.map G))),u8,u9,u10,some (.ls false R)]) (Au2 c1 rfl)).trans ?_
  have q1:Az (.list (ks.map PyData.str))=some (.im (nD ks)):=t1;have q2:Az (.list (ns.map PyData.str))=some (.im (nD ns)):=t2;have q3:Az (.list (vs.map PyData.str))=some (.im (nD vs)):=t3
  wp_walk using gev,q1,q2,q3,t5
 have e7:Cp (Dq (Ac (Fy Al) (Ac (Fy Al) Al))) (cgT 2 (Bo (cgN 5) (Bo (cgN 6) Gm))) (gev t ks ns vs r [none,none,none,none,none,none,none])=.nx (gev t ks ns vs r [some (.im (.list [])),some (.im (.list [])),none,none,none,none,none]):=by wp_walk using gev
 have run:∀{hs:m8} {c:m5},Bm (cIf (Bs (cOp (Cy false) (Ad 4) (cC (.str "rising")))) (Cp (Aj8 Cz (Ad 6)) (cgN 6)) Dd) (Bm (Cp (cLC [none,some 6,some 7] (A0x 6 (Bg (Ad 5))) (cgN 0) Bd A1v) (cgN 11))
  (Dc (Dq (Ac (cUn Az (Ad 1)) (Ac (cUn Az (Ad 2)) (Ac (cUn Az (Ad 3)) (Ac (cUn Az (Ad 6)) (Ac (cUn Az (Ad 11)) Al)))))))) (gev t ks ns vs r [some o4,some o5,some (.ty D),u8,u9,u10,none])=.rt (.o (.im (fdD t ks ns vs hs))) (gev t ks ns vs r c) ->
  Fd [.im t.d,.im (.list (ks.map PyData.str)),.im (.list (ns.map PyData.str)),.im (.list (vs.map PyData.str)),.im (.str (Dp r))]=.ret (.im (fdD t ks ns vs hs)) [.im t.d,.im (.list (ks.map PyData.str)),.im (.list (ns.map PyData.str)),.im (.list (vs.map PyData.str)),.im (.str (Dp r))]:=fun {hs c} h=>by
  refine Y7 (p:=.o (.im (fdD t ks ns vs hs))) (c:=gev t ks ns vs r c) ?_ rfl (by wp_walk using gev)
  show Nx (gev t ks ns vs r [none,none,none,none,none,none,none])=_
  unfold Nx;exact(Df e7).trans ((e5 _).trans h)
 cases r with
 | false =>
  have sF:∀x,Srt false x x:=fun _=>rfl
  obtain⟨c,e8⟩:=fin o5 _ h5 (sF _)
  have s:cIf (Bs (cOp (Cy false) (Ad 4) (cC (.str "rising")))) (Cp (Aj8 Cz (Ad 6)) (cgN 6)) Dd (gev t ks ns vs false [some o4,some o5,some (.ty D),u8,u9,u10,none])=.nx (gev t ks ns vs false [some o4,some o5,some (.ty D),u8,u9,u10,none]):=by wp_walk using gev,er
  exact⟨_,sF _,run (c:=c) ((Df s).trans e8)⟩
 | true =>
  obtain⟨p,p1,p2,ek⟩:=A4k H
  have sr:Srt true (fs ((prs t ks ns).map (·.2))) (atP [] (fs ((prs t ks ns).map (·.2))) p):=⟨p,p1,p2,rfl⟩
  generalize hB:(atP [] (fs ((prs t ks ns).map (·.2))) p)=B at *
  obtain⟨c,e8⟩:=fin (.ls false (B.map tD)) B (.inl rfl) sr
  have s:cIf (Bs (cOp (Cy false) (Ad 4) (cC (.str "rising")))) (Cp (Aj8 Cz (Ad 6)) (cgN 6)) Dd (gev t ks ns vs true [some o4,some o5,some (.ty D),u8,u9,u10,none])=.nx (gev t ks ns vs true [some o4,some (.ls false (B.map tD)),some (.ty D),u8,u9,u10,none]):=by
   rcases h5 with rfl | rfl <;> wp_walk using gev,er,Aj8,U.Gs,ek
  exact⟨B,sr,run (c:=c) ((Df s).trans e8)⟩
theorem A4w {ds:w5}{b:Nat}:cutD ds none (some (b:Int))=ds.take b:=by
 unfold cutD;rw[HT.Af9,HT.Az7,gn,dU]
 rcases Nat.le_total b ds.length with q | q
 ·rw[Nat.min_eq_left q]
 ·rw[Nat.min_eq_right q,gw,jB q]
theorem Ak0 {ds:w5}{a:Nat}:cutD ds (some (a:Int)) none=ds.drop a:=by
 unfold cutD;rw[HT.Af9,HT.Az7]
 rcases Nat.le_total a ds.length with q | q
 ·rw[Nat.min_eq_left q,jB (by rw[iz];exact aq _)]
 ·rw[Nat.min_eq_right q,j6,List.drop_of_length_le q,List.take_nil]
abbrev B0g:n8:=Oz (Ad 1) (cF Av (Ac (Ad 2) (Ac (Ia (Ad 1)) Al)))
theorem Ae4 {n:Nat}{ds:w5}{cols:v4}(hb:Bx n ds)(hn:n<2 ^ 38)(h12:cols.length<=12) :
 ∃(os:v4) (d1:w5),os.Perm cols/\Bx (n+12) d1/\∀s3 s4 s5 s6:m6,cLC [none,some 2,some 0] (Bg (Ad 1)) (cgN 0) Bd B0g [some (.ls true ds),some (.im (.tuple (cols.map PyData.str))),some (.ls false (cols.map PyData.str)),s3,s4,s5,s6]=.ok (.o (.ls false (os.map PyData.str))) [some (.ls true d1),some (.im (.tuple (cols.map PyData.str))),some (.ls false []),s3,s4,s5,s6]:=by
 have loop:=K6 (g:=cgN 0) (ft:=Bd) (fe:=B0g) (items:=cols.map PyData.str) (acc:=[]) (n:=0) (c:=[none,some (.ls true (cols.map PyData.str)),some (.ls true ds)])
  (P:=fun k acc c=>∃left d1 t ns,c=[t,some (.ls true (left.map PyData.str)),some (.ls true d1)]/\Bx (n+k) d1/\acc=ns.map PyData.str/\(ns++left).Perm cols/\ns.length=k)
  ⟨cols,ds,none,[],rfl,hb,rfl,j8 _,rfl⟩ (fun k d acc c hd hP=>by
   rw[bf]at hP ⊢;obtain⟨left,d1,t,ns,rfl,b1,rfl,pm,hl⟩:=hP;obtain⟨z,hz,rfl⟩:=Du hd;have hk:k<cols.length:=(bL.mp hz).1
   have ll:left.length+k=cols.length:=by have:=pm.length_eq;rw[aK,hl]at this;omega
   obtain⟨r,d2,b2,r0,r1,e1⟩:=Ec (m:=(left.length:Int)) b1 (by omega) (by omega) (by omega)
   have hr:r.toNat<left.length:=by omega
   have hx:(left.map PyData.str)[r.toNat]?=some (.str left[r.toNat]):=by simp[hr]
   have hix:ixN left.length r=some r.toNat:=Az0 r0 r1
   refine⟨some (.str left[r.toNat]),[some (.im (.str z)),some (.ls true ((left.eraseIdx r.toNat).map PyData.str)),some (.ls true d2)],?_,left.eraseIdx r.toNat,d2,_,ns++[left[r.toNat]],rfl,b2.mono (by omega),by simp,?_,by simp[hl]⟩
   ·wp_walk using Jl,ak,e1,hix,hx,Q8,show left.length<=16000000 by omega
   ·rw[fY]
    exact(List.Perm.append_left ns (O6 left hr)).trans pm)
 obtain⟨acc,cI,e,left,d1,t,ns,rfl,b1,rfl,pm,hl⟩:=loop;rw[bf,ak]at b1 hl
 have l0:left=[]:=by
  have:=pm.length_eq;rw[aK,hl]at this
  exact List.length_eq_zero_iff.mp (by omega)
 subst l0;rw[cH]at pm
 refine⟨ns,d1,pm,b1.mono (by omega),fun s3 s4 s5 s6=>?_⟩
 exact Fl (ds:=cols.map PyData.str) (c1:=[some (.ls true ds),some (.im (.tuple (cols.map PyData.str))),some (.ls false (cols.map PyData.str)),s3,s4,s5,s6]) (by wp_walk using Bg,Gs) (by rw[ak];omega) e (by wp_walk using bC)
theorem A2g {n:Nat}{ds:w5}{cols:v4}(hb:Bx n ds)(hn:n<2 ^ 37)(h2:2<=cols.length)(h12:cols.length<=12) :
 ∃(v a b:v4) (d1:w5),(v++(a++b)).Perm cols/\1<=v.length/\Bx (n+15) d1/\Ib [.ls true ds,.im (.tuple (cols.map PyData.str))]=.ret (.im (.tuple [.list (a.map PyData.str),.list (b.map PyData.str),.list (v.map PyData.str)])) [.ls true d1,.im (.tuple (cols.map PyData.str))]:=by
 obtain⟨os,d1,pm,b1,e1⟩:=Ae4 hb (by omega) h12
 have ol:=pm.length_eq
 obtain⟨q,d2,b2,q0,q1,e2⟩:=Ec (m:=8) b1 (by omega) (by decide) (by decide)
 have hw:∃w:Int,(w=3\/w=9)/\∃k:Int,Ng (.bool (decide (q=0)))=some (.im (.int k))/\Ay (.list [.int 3,.int 9]) (.int k)=some (.im (.int w)):=by
  by_cases c:q=0
  ·rw[aF c];exact⟨9,.inr rfl,1,rfl,rfl⟩
  ·rw[aL c];exact⟨3,.inl rfl,0,rfl,rfl⟩
 obtain⟨w,hw,k,ek,ew⟩:=hw
 have eq:Cy false (.int q) (.int 0)=some (.im (.bool (decide (q=0)))):=by rw[A8d];rfl
 obtain⟨m,hm⟩:∃m:Int,m=if (os.length:Int)<w then (os.length:Int) else w:=⟨_,rfl⟩
 have m0:0<m/\m<=os.length:=by rcases hw with rfl | rfl <;> (rw[hm];split <;> omega)
 obtain⟨f,d3,b3,f0,f1,e3⟩:=Ec (m:=m) b2 (by omega) m0.1 (by omega)
 obtain⟨f,rfl⟩:=gB f0
 have c1:cutD (os.map PyData.str) (some (1+(f:Int))) none=(os.drop (1+f)).map PyData.str:=by rw[show (1:Int)+(f:Int)=((1+f:Nat):Int) by omega,Ak0,List.map_drop]
 have c2:cutD (os.map PyData.str) none (some (1+(f:Int)))=(os.take (1+f)).map PyData.str:=by rw[show (1:Int)+(f:Int)=((1+f:Nat):Int) by omega,A4w,List.map_take]
 generalize hR:os.drop (1+f)=rs at *
 have rl:rs.length<=12:=by rw[<- hR,iz];omega
 obtain⟨g,d4,b4,g0,g1,e4⟩:=Ec (m:=(rs.length:Int)+1) b3 (by omega) (by omega) (by omega)
 obtain⟨g,rfl⟩:=gB g0
 have c3:cutD (rs.map PyData.str) (some (g:Int)) none=(rs.drop g).map PyData.str:=by rw[Ak0,List.map_drop]
 have c4:cutD (rs.map PyData.str) none (some (g:Int))=(rs.take g).map PyData.str:=by rw[A4w,List.map_take]
 refine⟨os.take (1+f),rs.take g,rs.drop g,d4,?_,by rw[fQ];omega,b4.mono (by omega),?_⟩
 ·rw[List.take_append_drop,<- hR,List.take_append_drop];exact pm
 have p1:(os.map PyData.str).length=os.length:=ak _;have p2:(rs.map PyData.str).length=rs.length:=ak _
 have p3:os.length<=16000000:=by omega
 have p4:rs.length<=16000000:=by omega
 have em:Aq9 (.int w) (.int (os.length:Nat))=some (.im (.int m)):=by rw[hm];rfl
 wp_walk using Ib,Sw,Jf,e1,e2,eq,ek,ew,Jl,p1,p2,p3,p4,em,e3,Dm,Xc,c1,c2,e4,c3,c4
theorem Ax8:∀x∈names12,VB (.str x):=fun x hx=>bN.mp (show names12.all (fun x=>vb (.str x))=true by decide +kernel) x hx
theorem Az6 {t:Tb}(ht:Tb.Ok t):Good t.d 3 3000000:=by
 have h12:=ht.clen;have h24:=ht.rlen
 have g1:Good (.tuple (t.cols.map PyData.str)) 2 1400000:=by
  have h:Good (tD (t.cols.map Vl.str)) 1 (1923*12+4):=Jz (fun v hv=>by
   obtain⟨x,hx,rfl⟩:=aC.mp hv
   exact Ax8 x (ht.nms.sub x hx)) (by rw[ak];exact h12)
  have e:tD (t.cols.map Vl.str)=.tuple (t.cols.map PyData.str):=by show PyData.tuple ((t.cols.map Vl.str).map Vl.d)=_;rw[cQ];rfl
  rw[e]at h
  exact h.mono (by decide) (by decide)
 have g2:Good (.tuple (t.rows.map tD)) 2 1400000:=by
  refine (Good.tup (n:=1) (w:=1923*12+4) (k:=60) (fun d hd=>?_) (by rw[ak];exact h24)).mono (by decide) (by decide)
  obtain⟨r,hr,rfl⟩:=aC.mp hd;have h:=ht.rows r hr;have hl:=h.1
  exact Jz h.2 (by omega)
 have:Good (.tuple [.tuple (t.cols.map PyData.str),.tuple (t.rows.map tD)]) 3 ((1400000+2)*2+4):=Good.tup (fun d hd=>by
  simp only[az,aM,aN]at hd
  rcases hd with rfl | rfl
  ·exact g1
  ·exact g2) (by simp)
 exact this.mono (by decide) (by decide)
abbrev lD (p:v4):q_:=.list (p.map PyData.str)
abbrev A8k:n8:=cOp Ay (Fy (Ac (cUn Jf (Ad 0)) (Ac (cUn Az (Ad 0)) Al))) (cF Av (Ac (Ad 1) (Ac (cC (.int 2)) Al)))
theorem Z4 {n:Nat}{ds:w5}{l:w5}{u:m6}(hb:Bx n ds)(hn:n<2 ^ 38)(hl:l.length<=100):∃b d1,Bx (n+1) d1/\K5 (cgN 0) Bd A8k (.list l) [u,some (.ls true ds)]=.ok (some (sqD b l)) [some (.im (.list l)),some (.ls true d1)]:=by
 obtain⟨r,d1,b1,r0,r1,e1⟩:=Ec (m:=2) hb (by omega) (by decide) (by decide)
 have:∃b,Ay (.list [.list l,.tuple l]) (.int r)=some (.im (sqD b l)):=by
  rcases (show r=0\/r=1 by omega) with rfl | rfl
  ·exact⟨false,rfl⟩
  ·exact⟨true,rfl⟩
 obtain⟨b,e2⟩:=this
 refine⟨b,d1,b1,?_⟩
 wp_walk using Jf,Az,e1,e2
theorem Tb.Ok.part {t:Tb}{rows:m8}(h:Tb.Ok t)(hr:∀r∈rows,r∈t.rows)(hl:rows.length<=t.rows.length):Tb.Ok ⟨t.cols,rows⟩:=⟨h.nms,h.cpos,h.clen,fun r m=>h.rows r (hr r m),au hl h.rlen⟩
theorem A3f {t:Tb}(ht:Tb.Ok t){ks:v4}(hk:Cs t ks):∃rows:m8,(∀r∈rows,r∈t.rows)/\rows.length<=t.rows.length/\(rows.map fun r=>pick t.cols r ks).Nodup /\
 Dk [.im t.d,.im (lD ks)]=.ret (.im (Tb.d ⟨t.cols,rows⟩)) [.im t.d,.im (lD ks)]:=by
 have rl:=ht.rlen
 obtain⟨c',e,rows,u,rfl,h1,h2,h3⟩:=Ni (g:=cgN 4) (body:=cIf (Bs (cOp (M4 true) (cF Ei (Ac (Ad 0) (Ac (Ad 4) (Ac (Ad 1) Al)))) (Ad 2))) (Bm (Jm (T3 (Ad 2) (cF Ei (Ac (Ad 0) (Ac (Ad 4) (Ac (Ad 1) Al))))))
  (Jm (T3 (Ad 3) (Ad 4)))) Dd) (items:=t.rows.map tD) (n:=0) (c:=[some (.im t.d),some (.im (lD ks)),some (.ls false []),some (.ls false []),none])
  (P:=fun k c=>∃rows u,c=[some (.im t.d),some (.im (lD ks)),some (.ls false ((rows.map fun r=>pick t.cols r ks).map tD)),some (.ls false (rows.map tD)),u]/\(∀r∈rows,r∈t.rows)/\rows.length<=k/\(rows.map fun r=>pick t.cols r ks).Nodup) ⟨[],none,rfl,(fun r h=>nomatch h),aq _,eY⟩ (fun k d c hd hP=>by
   rw[bf]at hP ⊢;obtain⟨rows,u,rfl,h1,h2,h3⟩:=hP;obtain⟨r,hr,rfl⟩:=Du hd;have kl:=(bL.mp hr).1;have mr:=bH hr;have i:=A0h ht hk.sub (ht.rows r mr).1 hk.len
   have q:=A4i (neg:=true) (v:=pick t.cols r ks) (vs:=rows.map fun r=>pick t.cols r ks) (Iu (ht.rows r mr).2) (fun u hu=>by
    obtain⟨s,hs,rfl⟩:=aC.mp hu
    exact Iu (ht.rows s (h1 s hs)).2)
   by_cases m:pick t.cols r ks∈rows.map fun r=>pick t.cols r ks
   ·rw[aF m]at q
    refine⟨[some (.im t.d),some (.im (lD ks)),some (.ls false ((rows.map fun r=>pick t.cols r ks).map tD)),some (.ls false (rows.map tD)),some (.im (tD r))],.inl ?_,rows,_,rfl,h1,Nat.le_succ_of_le h2,h3⟩
    generalize (rows.map fun r=>pick t.cols r ks).map tD=M at *
    wp_walk using i,q
   ·rw[aL m]at q
    refine⟨[some (.im t.d),some (.im (lD ks)),some (.ls false (((rows++[r]).map fun r=>pick t.cols r ks).map tD)),some (.ls false ((rows++[r]).map tD)),some (.im (tD r))],.inl ?_,rows++[r],_,rfl,fun s hs=>?_,by rw[aK];exact jj h2,?_⟩
    ·have e1:((rows++[r]).map fun r=>pick t.cols r ks).map tD=(rows.map fun r=>pick t.cols r ks).map tD++[tD (pick t.cols r ks)]:=by rw[bI,bI];rfl
     have e2:(rows++[r]).map tD=rows.map tD++[tD r]:=bI
     have l1:((rows.map fun r=>pick t.cols r ks).map tD).length<16000000:=by rw[ak,ak];omega
     have l2:(rows.map tD).length<16000000:=by rw[ak];omega
     rw[e1,e2]
     generalize (rows.map fun r=>pick t.cols r ks).map tD=M at *
     generalize rows.map tD=N at *
     generalize pick t.cols r ks=p at *
     wp_walk using i,q,l1,l2
    ·rcases bY.mp hs with hs | hs
     ·exact h1 s hs
     ·rw[aY.mp hs];exact mr
    ·rw[bI,dZ]
     exact⟨h3,by simp,fun a ha b hb e=>by rw[aD,cN,aY]at hb;rw[hb]at e;exact m (e▸ha)⟩)
 rw[ak,bf]at h2
 refine⟨rows,h1,h2,h3,?_⟩
 have e2:=(Od (fi:=Bg (cOp Ay (Ad 0) (cC (.int 1)))) (g:=cgN 4) (body:=cIf (Bs (cOp (M4 true) (cF Ei (Ac (Ad 0) (Ac (Ad 4) (Ac (Ad 1) Al)))) (Ad 2))) (Bm (Jm (T3 (Ad 2) (cF Ei (Ac (Ad 0) (Ac (Ad 4) (Ac (Ad 1) Al))))))
  (Jm (T3 (Ad 3) (Ad 4)))) Dd) (ds:=t.rows.map tD) (c:=[some (.im t.d),some (.im (lD ks)),some (.ls false []),some (.ls false []),none]) (c1:=[some (.im t.d),some (.im (lD ks)),some (.ls false []),some (.ls false []),none]) (by wp_walk using Bg,Ay,Tb.d,Gs)).trans e
 have z0:Ay t.d (.int 0)=some (.im (.tuple (t.cols.map PyData.str))):=rfl;have z1:Tb.d ⟨t.cols,rows⟩=.tuple [.tuple (t.cols.map PyData.str),.tuple (rows.map tD)]:=rfl;rw[z1]
 wp_walk using Dk,Ie,e2,z0,Az
theorem Bq6 {t:Tb}{a b:v4}(h:(t.rows.map fun r=>pick t.cols r (a++b)).Nodup):(prs t a b).Nodup:=by
 unfold prs;unfold List.Nodup at h ⊢;rw[List.pairwise_map]at h ⊢
 refine h.imp fun {r s} ne e=>ne ?_
 obtain⟨e1,e2⟩:=Prod.mk.inj e;unfold pick at e1 e2 ⊢;rw[bI,bI,e1,e2]
theorem Bh1 {t:Tb}(ht:Tb.Ok t){ks ns vs:v4}(cv:Cv t ks ns vs){r:Bool}{hs:m8}(sr:Srt r (fs ((prs t ks ns).map (·.2))) hs):∃w,Good (fdD t ks ns vs hs) 5 w/\Short 8 (fdD t ks ns vs hs):=by
 obtain⟨hk,hn,hw⟩:=cv.cs ht;obtain⟨s1,s2⟩:=sr.sub;have hl:=Qg ht (ks:=ks) (ns:=ns)
 have lh:hs.length<=60:=by rw[s2];exact au (Kg _) (by rw[ak];exact hl)
 have nm:∀ss:v4,Cs t ss->Good (nD ss) 4 200000000/\Short 7 (nD ss):=fun ss h=>by
  have g:Good (nD ss) 1 (1923*12+4):=Good.tup (fun d hd=>by obtain⟨x,hx,rfl⟩:=aC.mp hd;exact Gx (v:=.str x) (Ax8 x (ht.nms.sub x (h.sub x hx)))) (by rw[ak];exact h.len)
  exact⟨g.mono (by decide) (by decide),U6 7 _ (au g.wgt (by decide)) (Ak6 _)⟩
 have pk:∀{q:PH},q∈prs t ks ns->VBs q.1/\q.1.length<=12/\VBs q.2/\q.2.length<=12:=fun {q} hq=>by
  refine⟨(O8 ht hq).1,?_,(O8 ht hq).2,?_⟩
  all_goals
   obtain⟨x,_,rfl⟩:=aC.mp hq
   show (pick _ _ _).length<=12
   unfold pick;rw[ak]
  ·exact hk.len
  ·exact hn.len
 have hh:∀d∈hs.map tD,Good d 1 (1923*12+4)/\noL d=true:=fun d hd=>by
  obtain⟨h,hm,rfl⟩:=aC.mp hd;obtain⟨q,hq,rfl⟩:=aC.mp (zW.mp (s1 h hm));exact⟨Jz (pk hq).2.2.1 (pk hq).2.2.2,Ac5 _⟩
 have gh:=Good.tup (fun d hd=>(hh d hd).1) (show (hs.map tD).length<=60 by rw[ak];exact lh)
 have rw':∀p∈fs ((prs t ks ns).map (·.1)),Good (.tuple [tD p,Mf (prs t ks ns) (fun q=>tD (cellOf t ks ns vs q)) .none hs p]) 3 3000000/\noL (.tuple [tD p,Mf (prs t ks ns) (fun q=>tD (cellOf t ks ns vs q)) .none hs p])=true:=fun p hp=>by
  obtain⟨q,hq,rfl⟩:=aC.mp (zW.mp hp)
  have c:∀d∈hs.map (fun h=>if (q.1,h)∈prs t ks ns then tD (cellOf t ks ns vs (q.1,h)) else .none),Good d 1 (1923*12+4)/\noL d=true:=fun d hd=>by
   obtain⟨h,_,rfl⟩:=aC.mp hd
   by_cases m:(q.1,h)∈prs t ks ns
   ·rw[if_pos m]
    refine⟨Jz (Iu ?_) (show (pick _ _ _).length<=12 by unfold pick;rw[ak];exact hw.len),Ac5 _⟩
    rw[dF]
    cases e:t.rows[fnd (q.1,h) (prs t ks ns)]? with
    | none=>exact fun v hv=>nomatch hv
    | some r=>exact(ht.rows r (bH e)).2
   ·rw[if_neg m];exact⟨⟨rfl,rfl,rfl,by decide,by decide⟩,rfl⟩
  have g2:=Good.tup (fun d hd=>(c d hd).1) (show (hs.map _).length<=60 by rw[ak];exact lh)
  have n2:=Aa3 fun d hd=>(c d hd).2
  have g1:=(Jz (pk hq).1 (pk hq).2.1).mono (show 1<=2 by decide) (show 1923*12+4<=1400000 by decide)
  refine⟨(Good.tup (n:=2) (w:=1400000) (k:=2) (fun d hd=>?_) (aq _)).mono (by decide) (by decide),?_⟩
  ·simp only[az,aM,aN]at hd
   rcases hd with rfl | rfl
   ·exact g1
   ·exact g2.mono (by decide) (by decide)
  ·show (noL (tD q.1)&&(Rb _&&true))=true
   rw[n2,show noL (tD q.1)=true from Ac5 _];rfl
 have lr:((fs ((prs t ks ns).map (·.1))).map fun p=>PyData.tuple [tD p,Mf (prs t ks ns) (fun q=>tD (cellOf t ks ns vs q)) .none hs p]).length<=60:=by rw[ak];exact au (Kg _) (by rw[ak];exact hl)
 have rr:∀d∈(fs ((prs t ks ns).map (·.1))).map (fun p=>PyData.tuple [tD p,Mf (prs t ks ns) (fun q=>tD (cellOf t ks ns vs q)) .none hs p]),Good d 3 3000000/\noL d=true:=fun d hd=>by
  obtain⟨p,hp,rfl⟩:=aC.mp hd;exact rw' p hp
 have gr:=Good.tup (fun d hd=>(rr d hd).1) lr
 have all:∀d∈[nD ks,nD ns,nD vs,.tuple (hs.map tD),.tuple ((fs ((prs t ks ns).map (·.1))).map fun p=>PyData.tuple [tD p,Mf (prs t ks ns) (fun q=>tD (cellOf t ks ns vs q)) .none hs p])],Good d 4 200000000/\Short 7 d:=fun d hd=>by
  simp only[az,aM,aN]at hd
  rcases hd with rfl | rfl | rfl | rfl | rfl
  ·exact nm ks hk
  ·exact nm ns hn
  ·exact nm vs hw
  ·exact⟨gh.mono (by decide) (by decide),U6 7 _ (au gh.wgt (by decide)) (Aa3 fun d hd=>(hh d hd).2)⟩
  ·exact⟨gr.mono (by decide) (by decide),⟨au lr (by decide),fun d hd=>U6 6 d (au (rr d hd).1.wgt (by decide)) (rr d hd).2⟩⟩
 exact⟨_,Good.tup (n:=4) (k:=5) (fun d hd=>(all d hd).1) (aq _),⟨by show (5:Nat)<=16000000;decide,fun d hd=>(all d hd).2⟩⟩
theorem fold_same {t:Tb}(ht:Tb.Ok t){ks ns vs:v4}(cv:Cv t ks ns vs)(nd:(prs t ks ns).Nodup)(r:Bool):∃D:q_,Cy true D D=some (.im (.bool false))/\Cu 8 [.im D,.im D]=.ret (.im (.bool true)) [.im D,.im D] /\
 Fd [.im t.d,.im (lD ks),.im (lD ns),.im (lD vs),.im (.str (Dp r))]=.ret (.im D) [.im t.d,.im (lD ks),.im (lD ns),.im (lD vs),.im (.str (Dp r))] /\
 ∀a b c,Ft [.im t.d,.im (sqD a (ks.map PyData.str)),.im (sqD b (ns.map PyData.str)),.im (sqD c (vs.map PyData.str)),.im (.str (Dp r))]=.ret (.im D) [.im t.d,.im (sqD a (ks.map PyData.str)),.im (sqD b (ns.map PyData.str)),.im (sqD c (vs.map PyData.str)),.im (.str (Dp r))]:=by
 obtain⟨hs,sr,e1⟩:=A8t ht (r:=r) cv nd;obtain⟨w,g,sh⟩:=Bh1 ht cv sr
 refine⟨fdD t ks ns vs hs,by rw[Yb g g (by decide) (by decide),A5q _ g.lay];rfl,A0l 8 _ (bW g.dep (by decide)) (by decide) g.lay sh,e1,fun a b c=>?_⟩
 obtain⟨h2,s2,e2⟩:=A3k ht (a:=a) (b:=b) (c:=c) (r:=r) cv nd;rw[s2.one sr]at e2;exact e2
abbrev lev (s0 s1 s2:m6)(t:Tb)(p q v:v4)(rest:m5):Ev:=s0::s1::s2::some (.im t.d)::some (.im (lD p))::some (.im (lD q))::some (.im (lD v))::rest
theorem Wu {n:Nat}{ds:w5}{t:Tb}(ht:Tb.Ok t){p q v:v4}(cv:Cv t p q v)(nd:(prs t p q).Nodup)(hb:Bx n ds)(hn:n<2 ^ 37){r:Bool}{s0 s1 s8 s9 s10 s11 s12:m6}:∃d1 u9 u10 u11 u12,Bx (n+3) d1 /\
 Ny (cgN 8) Qm (.str (Dp r)) (lev s0 s1 (some (.ls false ds)) t p q v [some (.im (.str t.d.shown)),s8,s9,s10,s11,s12])=.nx (lev s0 s1 (some (.ls false d1)) t p q v [some (.im (.str t.d.shown)),some (.im (.str (Dp r))),u9,u10,u11,u12]):=by
 obtain⟨hk,hm,hw⟩:=cv.cs ht
 have l1:(p.map PyData.str).length<=100:=by rw[ak];have:=hk.len;omega
 have l2:(q.map PyData.str).length<=100:=by rw[ak];have:=hm.len;omega
 have l3:(v.map PyData.str).length<=100:=by rw[ak];have:=hw.len;omega
 obtain⟨a,d1,b1,e1⟩:=Z4 (u:=none) hb (by omega) l1
 obtain⟨b,d2,b2,e2⟩:=Z4 (u:=some (.im (lD p))) b1 (by omega) l2
 obtain⟨c,d3,b3,e3⟩:=Z4 (u:=some (.im (lD q))) b2 (by omega) l3
 obtain⟨D,f1,f2,f3,f4⟩:=fold_same ht cv nd r;have f5:=f4 false false false;have f6:=f4 a b c
 have eL:Ed (cgN 0) Bd A8k [lD p,lD q,lD v] [] [none,some (.ls true ds)]=.ok [sqD a (p.map PyData.str),sqD b (q.map PyData.str),sqD c (v.map PyData.str)] [some (.im (lD v)),some (.ls true d3)]:=by
  rw[Hu,e1,R.bind_ok,Hu,e2,R.bind_ok,Hu,e3,R.bind_ok];rfl
 have es:=Vt (Az6 ht) (by decide) (by decide) rfl
 have f7:Cy true (.str t.d.shown) (.str t.d.shown)=some (.im (.bool false)):=by rw[Ae2];simp
 have f5:Ft [.im t.d,.im (lD p),.im (lD q),.im (lD v),.im (.str (Dp r))]=.ret (.im D) [.im t.d,.im (lD p),.im (lD q),.im (lD v),.im (.str (Dp r))]:=f5
 generalize sqD a (p.map PyData.str)=A at *
 generalize sqD b (q.map PyData.str)=B at *
 generalize sqD c (v.map PyData.str)=C at *
 have e4:cLC [none,some 2] (Bg (Dq (Ac (Ad 4) (Ac (Ad 5) (Ac (Ad 6) Al))))) (cgN 0) Bd A8k (lev s0 s1 (some (.ls false ds)) t p q v [some (.im (.str t.d.shown)),some (.im (.str (Dp r))),some (.im D),some (.im D),s11,s12])=.ok (.o (.ls false [A,B,C])) (lev s0 s1 (some (.ls false d3)) t p q v [some (.im (.str t.d.shown)),some (.im (.str (Dp r))),some (.im D),some (.im D),s11,s12]) :=
  Fl (ds:=[lD p,lD q,lD v]) (c1:=lev s0 s1 (some (.ls false ds)) t p q v [some (.im (.str t.d.shown)),some (.im (.str (Dp r))),some (.im D),some (.im D),s11,s12]) (by wp_walk using lev,lD,Bg,Gs) (show (3:Nat)<=16000000 by decide) eL (by wp_walk using lev,lD)
 refine⟨d3,some (.im D),some (.im D),some (.ls false [A,B,C]),some (.im D),b3,?_⟩
 show Qm (lev s0 s1 (some (.ls false ds)) t p q v [some (.im (.str t.d.shown)),some (.im (.str (Dp r))),s9,s10,s11,s12])=_
 unfold Qm
 refine (Df (c':=lev s0 s1 (some (.ls false ds)) t p q v [some (.im (.str t.d.shown)),some (.im (.str (Dp r))),some (.im D),s10,s11,s12]) (by wp_walk using lev,f3)).trans ?_
 refine (Df (c':=lev s0 s1 (some (.ls false ds)) t p q v [some (.im (.str t.d.shown)),some (.im (.str (Dp r))),some (.im D),some (.im D),s11,s12]) (by wp_walk using lev,f5)).trans ?_
 refine (Df (c':=lev s0 s1 (some (.ls false ds)) t p q v [some (.im (.str t.d.shown)),some (.im (.str (Dp r))),some (.im D),some (.im D),s11,s12]) (by wp_walk using lev,f2)).trans ?_
 refine (Df (c':=lev s0 s1 (some (.ls false d3)) t p q v [some (.im (.str t.d.shown)),some (.im (.str (Dp r))),some (.im D),some (.im D),some (.ls false [A,B,C]),s12]) (Au2 e4 rfl)).trans ?_
 have x0:Ay (.list [A,B,C]) (.int 0)=some (.im A):=rfl;have x1:Ay (.list [A,B,C]) (.int 1)=some (.im B):=rfl;have x2:Ay (.list [A,B,C]) (.int 2)=some (.im C):=rfl
 refine (Df (c':=lev s0 s1 (some (.ls false d3)) t p q v [some (.im (.str t.d.shown)),some (.im (.str (Dp r))),some (.im D),some (.im D),some (.ls false [A,B,C]),some (.im D)]) (by wp_walk using lev,x0,x1,x2,f6)).trans ?_
 wp_walk using lev,f1,es,f7
theorem Z2 {op:q_->q_->m6}{fa fb:n8}{c:Ev}{x y:q_}{o:O}(ha:fa c=.ok (.o (.im x)) c)(hb:fb c=.ok (.o (.im y)) c)(h:op x y=some o):cOp op fa fb c=.ok (.o o) c:=by
 unfold cOp;rw[ha,R.bind_ok,hb,R.bind_ok];simp only[nrm,Ef,rdP,dY,O.dat,h]
theorem B2m {f1 f2 f3:n8}{c:Ev}{d1 d2 d3:q_}(h1:f1 c=.ok (.o (.im d1)) c)(h2:f2 c=.ok (.o (.im d2)) c)(h3:f3 c=.ok (.o (.im d3)) c):Dq (Ac f1 (Ac f2 (Ac f3 Al))) c=.ok (.o (.im (.tuple [d1,d2,d3]))) c:=by
 wp_walk using h1,h2,h3
def imD:O->Option q_
 | .im d=>some d
 | _=>none
def Bt1:q_->Option Str
 | .str s=>if vb (.str s)=true then some s else none
 | _=>none
def Bt3:q_->p7
 | .int s=>if vb (.int s)=true then some s else none
 | _=>none
theorem Bv0 {a:O}{x:q_}(h:imD a=some x):a=.im x:=by
 unfold imD at h
 split at h
 ·exact cJ O.im (bK h)
 ·cases h
theorem Bg0 {a:q_}{s:Str}(h:Bt1 a=some s):a=.str s/\VB (.str s):=by
 unfold Bt1 at h
 split at h
 ·rename_i x
  by_cases z:vb (.str x)=true
  ·rw[if_pos z]at h;cases h;exact⟨rfl,z⟩
  ·rw[if_neg z]at h;cases h
 ·cases h
theorem Bi3 {a:q_}{s:Int}(h:Bt3 a=some s):a=.int s/\VB (.int s):=by
 unfold Bt3 at h
 split at h
 ·rename_i x
  by_cases z:vb (.int x)=true
  ·rw[if_pos z]at h;cases h;exact⟨rfl,z⟩
  ·rw[if_neg z]at h;cases h
 ·cases h
def via (o:m6){α:Type}(f:q_->Option α):Option α:=o.bind fun a=>(imD a).bind f
theorem Aa2 {o:m6}{α:Type}{f:q_->Option α}{z:α}(h:via o f=some z):∃x,o=some (.im x)/\f x=some z:=by
 obtain⟨a,h1,h2⟩:=cZ.mp h;obtain⟨x,h3,h4⟩:=cZ.mp h2
 exact⟨x,by rw[h1,Bv0 h3],h4⟩
def s60 (i:Nat):Option Str:=via (Em (.int (i:Int)) (.int 7)) fun x=>via (Jp x (.int 60)) fun y=>via (Ou y) Bt1
def x60 (i m:Nat):p7:=via (Em (.int (i:Int)) (.int (m:Int))) Bt3
theorem A0b:(List.range 60).all (fun i=>(s60 i).isSome&&(List.range 60).all fun m=>(x60 i m).isSome)=true:=by decide +kernel
theorem A7w {i:Nat}(h:i<60):∃s x y,s60 i=some s/\Em (.int (i:Int)) (.int 7)=some (.im x)/\Jp x (.int 60)=some (.im y)/\Ou y=some (.im (.str s))/\VB (.str s):=by
 have a:=(aB.mp (bN.mp A0b i (dz.mpr h))).1;obtain⟨s,e⟩:=iy.mp a;obtain⟨x,h1,h2⟩:=Aa2 e;obtain⟨y,h3,h4⟩:=Aa2 h2;obtain⟨z,h5,h6⟩:=Aa2 h4;obtain⟨h7,h8⟩:=Bg0 h6
 exact⟨s,x,y,e,h1,h3,by rw[h5,h7],h8⟩
theorem A5b {i m:Nat}(h:i<60)(hm:m<60):∃x,x60 i m=some x/\Em (.int (i:Int)) (.int (m:Int))=some (.im (.int x))/\VB (.int x):=by
 have a:=bN.mp (aB.mp (bN.mp A0b i (dz.mpr h))).2 m (dz.mpr hm);obtain⟨x,e⟩:=iy.mp a;obtain⟨z,h5,h6⟩:=Aa2 e;obtain⟨h7,h8⟩:=Bi3 h6
 exact⟨x,e,by rw[h5,h7],h8⟩
def r60 (m i:Nat):m9:=[.int ((i:Int)-7),.str ((s60 i).getD "a"),.int ((x60 i m).getD 0)]
def t60 (m:Nat):Tb:=⟨["a", "b", "c"],(List.range 60).map (r60 m)⟩
theorem Bn4 {m:Nat}(hm:m<60):Tb.Ok (t60 m) where
 nms:=⟨(show (["a", "b", "c"]:v4).Nodup by decide +kernel),fun x hx=>bN.mp (show (["a", "b", "c"]:v4).all (fun x=>names12.contains x)=true by decide +kernel) x hx |> List.contains_iff_mem.mp⟩
 cpos:=(by decide:2<=3)
 clen:=(by decide:3<=12)
 rows:=fun r hr=>by
  obtain⟨i,hi,rfl⟩:=aC.mp hr;have hi:=dz.mp hi;obtain⟨s,_,_,e1,_,_,_,v1⟩:=A7w hi;obtain⟨x,e2,_,v2⟩:=A5b hi hm
  refine⟨rfl,fun u hu=>?_⟩
  unfold r60 at hu;rw[e1,e2]at hu;simp only[az,aM,aN]at hu
  rcases hu with rfl | rfl | rfl
  ·show vb _=true
   unfold vb
   simp
   omega
  ·exact v1
  ·exact v2
 rlen:=by show ((List.range 60).map _).length<=60;rw[ak,dq];exact aq _
abbrev Bw5:n8:=Dq (Ac (cOp Mq (Ad 0) (cC (.int 7))) (Ac (cUn Ou (cOp Jp (cOp Em (Ad 0) (cC (.int 7))) (cC (.int 60)))) (Ac (cOp Em (Ad 0) (Ad 1)) Al)))
theorem Bb7 (i:Int):Mq (.int i) (.int 7)=some (.im (.int (i-7))):=rfl
theorem Bh8 {m i:Nat}(hi:i<60)(hm:m<60):Bw5 [some (.im (.int (i:Int))),some (.im (.int (m:Int)))]=.ok (.o (.im (tD (r60 m i)))) [some (.im (.int (i:Int))),some (.im (.int (m:Int)))]:=by
 obtain⟨s,x,y,g1,g2,g3,g4,_⟩:=A7w hi;obtain⟨z,g5,g6,_⟩:=A5b hi hm
 have gR:tD (r60 m i)=.tuple [.int ((i:Int)-7),.str s,.int z]:=by unfold r60;rw[g1,g5];rfl
 rw[gR];have v0:Ad 0 [some (.im (.int (i:Int))),some (.im (.int (m:Int)))]=.ok (.o (.im (.int (i:Int)))) [some (.im (.int (i:Int))),some (.im (.int (m:Int)))]:=rfl;have v1:Ad 1 [some (.im (.int (i:Int))),some (.im (.int (m:Int)))]=.ok (.o (.im (.int (m:Int)))) [some (.im (.int (i:Int))),some (.im (.int (m:Int)))]:=rfl;exact B2m (Z2 v0 rfl (Bb7 _)) (By7 (Z2 (Z2 v0 (fb:=cC (.int 7)) rfl g2) (fb:=cC (.int 60)) rfl g3) rfl g4) (Z2 v0 v1 g6)
theorem Bg5 {fe:n8}{u v:m6}{d x:q_}(h:fe [some (.im d),v]=.ok (.o (.im x)) [some (.im d),v]):K5 (cgN 0) Bd fe d [u,v]=.ok (some x) [some (.im d),v]:=by
 unfold K5
 rw[show cgN 0 (.o (.im d)) [u,v]=.ok () [some (.im d),v] from rfl]
 simp only[Bd,R.bind_ok,bV,h,nrm,frz]
theorem Bh6:Ka 0 60=(List.range 60).map fun i:Nat=>PyData.int (i:Int):=by
 unfold Ka
 exact jE fun i _=>by rw[Int.zero_add]
theorem A4u {m:Nat}(hm:m<60)(s0:m6):cLC [none,some 1] (My (cC (.int 60))) (cgN 0) Bd Bw5 [s0,some (.im (.int (m:Int)))]=.ok (.o (.ls false ((List.range 60).map fun i=>tD (r60 m i)))) [s0,some (.im (.int (m:Int)))]:=by
 obtain⟨cI,e,u,rfl⟩:=Dt (g:=cgN 0) (ft:=Bd) (fe:=Bw5) (I:=fun c=>∃u,c=[u,some (.im (.int (m:Int)))]) (f:=fun i:Nat=>PyData.int (i:Int)) (G:=fun i=>tD (r60 m i)) (xs:=List.range 60) (acc:=[]) (c:=[none,some (.im (.int (m:Int)))]) ⟨none,rfl⟩
  (fun i c hi hI=>by
   obtain⟨u,rfl⟩:=hI
   exact⟨_,Bg5 (Bh8 (dz.mp hi) hm),_,rfl⟩)
 rw[cX]at e
 have h1:My (cC (.int 60)) [s0,some (.im (.int (m:Int)))]=.ok (Ka 0 60) [s0,some (.im (.int (m:Int)))]:=by wp_walk using bC
 rw[Bh6]at h1
 exact Fl h1 (by rw[ak,dq];decide) e rfl
theorem B1d (m:Nat):(t60 m).d=.tuple [.tuple [.str "a",.str "b",.str "c"],.tuple ((List.range 60).map fun i=>tD (r60 m i))]:=by
 unfold t60 Tb.d;simp only[cQ,aD,cN]
 rfl
theorem A7n {n:Nat}{ds:w5}(hb:Bx n ds)(hn:n<2 ^ 38):∃(m:Nat) (d1:w5),m<60/\Jj [.ls true ds]=.ret (.im (t60 m).d) [.ls true d1]:=by
 obtain⟨q,d1,b1,q0,q1,e1⟩:=Ec (m:=59) hb (by omega) (by decide) (by decide)
 obtain⟨f,rfl⟩:=gB q0
 obtain⟨m,hm0⟩:∃m:Nat,(m:Int)=1+(f:Int):=⟨1+f,by omega⟩
 have hm:m<60:=by omega
 refine⟨m,d1,hm,?_⟩
 have e0:Dm (.int 1) (.int (f:Int))=some (.im (.int (m:Int))):=by rw[hm0];rfl
 have e2:=A4u hm;rw[B1d];unfold Jj Vw
 change ∀s0,cLC _ _ _ _ (Dq (Ac (cOp Mq (Ad 0) (cC (.int 7))) (Ac (cUn Ou (cOp Jp (cOp Em (Ad 0) (cC (.int 7))) (cC (.int 60)))) (Ac (cOp Em (Ad 0) (Ad 1)) Al)))) _=_ at e2
 generalize cLC [none,some 1] (My (cC (.int 60))) (cgN 0) Bd (Dq (Ac (cOp Mq (Ad 0) (cC (.int 7))) (Ac (cUn Ou (cOp Jp (cOp Em (Ad 0) (cC (.int 7))) (cC (.int 60)))) (Ac (cOp Em (Ad 0) (Ad 1)) Al))))=L at *
 generalize (List.range 60).map (fun i=>tD (r60 m i))=R at *
 wp_walk using e1,e0,e2,Az
theorem A0i {cols:v4}{r s:m9}{ns:v4}{x:Str}(h:pick cols r ns=pick cols s ns)(hx:x∈ns):vAt cols r x=vAt cols s x:=List.map_inj_left.mp h x hx
theorem Bo2 {m:Nat}{p q:v4}(h:(("a" : Str)∈p)\/(("a" : Str)∈q)):(prs (t60 m) p q).Nodup:=by
 unfold prs
 show (((List.range 60).map (r60 m)).map fun r=>(pick ["a", "b", "c"] r p,pick ["a", "b", "c"] r q)).Nodup
 rw[cQ];unfold List.Nodup;rw[List.pairwise_map]
 refine List.nodup_range.imp fun {i j} ne e=>ne ?_
 obtain⟨e1,e2⟩:=Prod.mk.inj e;have f:vAt ["a", "b", "c"] (r60 m i) "a" = vAt ["a", "b", "c"] (r60 m j) "a" := h.elim (A0i e1) (A0i e2);have f:Vl.int ((i:Int)-7)=Vl.int ((j:Int)-7):=f
 injection f with f
 omega
structure Sx (m:Nat) (p q:v4):Prop where
 cv:Cv (t60 m) p q ["c"]
 nd:(prs (t60 m) p q).Nodup
theorem sx1 {m:Nat}:Sx m ["a"] ["b"]:=⟨⟨j8 _,aq _⟩,Bo2 (.inl (by simp))⟩
theorem sx2 {m:Nat}:Sx m [] ["b", "a"]:=⟨⟨List.Perm.swap (Str.ofString "a") (Str.ofString "b") [Str.ofString "c"],aq _⟩,Bo2 (.inr (by simp))⟩
theorem sx3 {m:Nat}:Sx m ["b", "a"] []:=⟨⟨List.Perm.swap (Str.ofString "a") (Str.ofString "b") [Str.ofString "c"],aq _⟩,Bo2 (.inl (by simp))⟩
abbrev kev (s0 s1 s2:m6)(m:Nat)(p q:v4)(rest:m5):Ev:=s0::s1::s2::some (.im (t60 m).d)::some (.im (lD p))::some (.im (lD q))::rest
theorem Va {m:Nat}(hm:m<60){p q:v4}(h:Sx m p q)(r:Bool){s0 s1 s2 s6 s7 s8 s9 s10 s11 s12:m6}:∃u9,Ny (cgN 8) M8 (.str (Dp r)) (kev s0 s1 s2 m p q [s6,s7,s8,s9,s10,s11,s12])=.nx (kev s0 s1 s2 m p q [s6,s7,some (.im (.str (Dp r))),u9,s10,s11,s12]):=by
 obtain⟨D,_,f2,f3,f4⟩:=fold_same (Bn4 hm) h.cv h.nd r;have f5:=f4 false false false;have f5:Ft [.im (t60 m).d,.im (lD p),.im (lD q),.im (.list [.str "c"]),.im (.str (Dp r))]=.ret (.im D) [.im (t60 m).d,.im (lD p),.im (lD q),.im (.list [.str "c"]),.im (.str (Dp r))]:=f5;have f3:Fd [.im (t60 m).d,.im (lD p),.im (lD q),.im (.list [.str "c"]),.im (.str (Dp r))]=.ret (.im D) [.im (t60 m).d,.im (lD p),.im (lD q),.im (.list [.str "c"]),.im (.str (Dp r))]:=f3
 refine⟨some (.im D),?_⟩
 show M8 (kev s0 s1 s2 m p q [s6,s7,some (.im (.str (Dp r))),s9,s10,s11,s12])=_
 unfold M8
 wp_walk using kev,f3,f5,f2
theorem Ph {m:Nat}(hm:m<60){p q:v4}(h:Sx m p q){s0 s1 s2 s4 s5 s6 s7 s8 s9 s10 s11 s12:m6}:∃u8 u9,Ny (cgT 2 (Bo (cgN 4) (Bo (cgN 5) Gm))) Q5 (.tuple [lD p,lD q]) [s0,s1,s2,some (.im (t60 m).d),s4,s5,s6,s7,s8,s9,s10,s11,s12]=.nx (kev s0 s1 s2 m p q [s6,s7,u8,u9,s10,s11,s12]):=by
 obtain⟨a9,f1⟩:=Va hm h false (s0:=s0) (s1:=s1) (s2:=s2) (s6:=s6) (s7:=s7) (s8:=s8) (s9:=s9) (s10:=s10) (s11:=s11) (s12:=s12);obtain⟨b9,f2⟩:=Va hm h true (s0:=s0) (s1:=s1) (s2:=s2) (s6:=s6) (s7:=s7) (s8:=some (.im (.str (Dp false)))) (s9:=a9) (s10:=s10) (s11:=s11) (s12:=s12)
 refine⟨some (.im (.str (Dp true))),b9,?_⟩
 have F:forL (cgN 8) M8 [.str (Dp false),.str (Dp true)] (kev s0 s1 s2 m p q [s6,s7,s8,s9,s10,s11,s12])=.nx (kev s0 s1 s2 m p q [s6,s7,some (.im (.str (Dp true))),b9,s10,s11,s12]):=(G8 (.inl f1)).trans ((G8 (.inl f2)).trans U5)
 have g:cgT 2 (Bo (cgN 4) (Bo (cgN 5) Gm)) (.o (.im (.tuple [lD p,lD q]))) [s0,s1,s2,some (.im (t60 m).d),s4,s5,s6,s7,s8,s9,s10,s11,s12]=.ok () (kev s0 s1 s2 m p q [s6,s7,s8,s9,s10,s11,s12]):=by wp_walk using kev
 unfold Ny;rw[g]
 show Q5 _=_
 unfold Q5
 exact(Od (ds:=[.str (Dp false),.str (Dp true)]) (c1:=kev s0 s1 s2 m p q [s6,s7,s8,s9,s10,s11,s12]) (by wp_walk using kev,Bg,Gs,Dp)).trans F
theorem A7g:∀ns:List Int,ns.length<=63->At2 [.sc ns]=.ret (.im (.bool true)) [.sc ns]:=by
 intro ns hns
 have loop:=Ni (g:=cgN 1) (body:=Q4) (items:=Ka 0 7) (n:=0) (c:=[some (.sc ns),none,none,none,none,none,none,none,none,none,none,none,none])
  (P:=fun _ c=>∃a1 a2 a3 a4 a5 a6 a7 a8 a9 a10 a11 a12,c=[some (.sc ns),a1,a2,a3,a4,a5,a6,a7,a8,a9,a10,a11,a12]) ⟨_,_,_,_,_,_,_,_,_,_,_,_,rfl⟩ (fun k d c hd hP=>by
   obtain⟨a1,a2,a3,a4,a5,a6,a7,a8,a9,a10,a11,a12,rfl⟩:=hP;obtain⟨rfl,hk⟩:=Uj hd
   obtain⟨db,bb,e1⟩:=A5h (ns:=ns) (k:=k) (by omega)
   obtain⟨t,d2,ht,b2,e2⟩:=Z9 bb (by decide)
   obtain⟨v,a,b,d3,pm,vp,b3,e3⟩:=A2g b2 (by decide) ht.cpos ht.clen
   have cv:Cv t a b v:=⟨List.perm_append_comm.trans pm,vp⟩;obtain⟨ca,cb,_⟩:=cv.cs ht
   have cab:Cs t (a++b):=⟨fun x hx=>(bY.mp hx).elim (ca.sub x) (cb.sub x),by
    have h1:=cv.pm.length_eq;have:=ht.clen;rw[aK,aK]at h1;rw[aK]
    omega⟩
   obtain⟨rows,r1,r2,r3,e4⟩:=A3f ht cab;have hu:Tb.Ok ⟨t.cols,rows⟩:=ht.part r1 r2;have cu:Cv ⟨t.cols,rows⟩ a b v:=⟨cv.pm,cv.pos⟩;have nd:(prs ⟨t.cols,rows⟩ a b).Nodup:=Bq6 r3;have c4:Ay t.d (.int 0)=some (.im (.tuple (t.cols.map PyData.str))):=rfl
   have c5:Dm (lD a) (lD b)=some (.ls false ((a++b).map PyData.str)):=by
    show (if _ then _ else _)=_
    rw[if_pos (by rw[ak,ak];have:=ca.len;have:=cb.len;omega),bI]
   generalize hT:(⟨t.cols,rows⟩:Tb)=T at *
   have es:=Vt (Az6 hu) (by decide) (by decide) rfl
   obtain⟨d4,y9,y10,y11,y12,b4,f1⟩:=Wu hu cu nd b3 (by decide) (r:=false) (s0:=some (.sc ns)) (s1:=some (.im (.int (0+(k:Int))))) (s8:=a8) (s9:=a9) (s10:=a10) (s11:=a11) (s12:=a12)
   obtain⟨d5,z9,z10,z11,z12,b5,f2⟩:=Wu hu cu nd b4 (by decide) (r:=true) (s0:=some (.sc ns)) (s1:=some (.im (.int (0+(k:Int))))) (s8:=some (.im (.str (Dp false)))) (s9:=y9) (s10:=y10) (s11:=y11) (s12:=y12)
   have F:=(G8 (.inl f1)).trans ((G8 (.inl f2)).trans U5)
   refine⟨lev (some (.sc ns)) (some (.im (.int (0+(k:Int))))) (some (.ls false d5)) T a b v [some (.im (.str T.d.shown)),some (.im (.str (Dp true))),z9,z10,z11,z12],.inl ?_,_,_,_,_,_,_,_,_,_,_,_,_,rfl⟩
   show Q4 [some (.sc ns),some (.im (.int (0+(k:Int)))),a2,a3,a4,a5,a6,a7,a8,a9,a10,a11,a12]=_
   unfold Q4
   refine (Df (c':=[some (.sc ns),some (.im (.int (0+(k:Int)))),some (.ls false db),a3,a4,a5,a6,a7,a8,a9,a10,a11,a12]) (by wp_walk using show (0:Int)+(k:Int)=(k:Int) by omega,e1)).trans ?_
   refine (Df (c':=[some (.sc ns),some (.im (.int (0+(k:Int)))),some (.ls false d2),some (.im t.d),a4,a5,a6,a7,a8,a9,a10,a11,a12]) (by wp_walk using e2)).trans ?_
   refine (Df (c':=[some (.sc ns),some (.im (.int (0+(k:Int)))),some (.ls false d3),some (.im t.d),some (.im (lD a)),some (.im (lD b)),some (.im (lD v)),a7,a8,a9,a10,a11,a12]) (by wp_walk using c4,e3)).trans ?_
   refine (Df (c':=[some (.sc ns),some (.im (.int (0+(k:Int)))),some (.ls false d3),some (.im T.d),some (.im (lD a)),some (.im (lD b)),some (.im (lD v)),a7,a8,a9,a10,a11,a12]) (by wp_walk using c5,e4)).trans ?_
   refine (Df (c':=lev (some (.sc ns)) (some (.im (.int (0+(k:Int))))) (some (.ls false d3)) T a b v [some (.im (.str T.d.shown)),a8,a9,a10,a11,a12]) (by wp_walk using es)).trans ?_
   exact(Od (ds:=[.str (Dp false),.str (Dp true)]) (c1:=lev (some (.sc ns)) (some (.im (.int (0+(k:Int))))) (some (.ls false d3)) T a b v [some (.im (.str T.d.shown)),a8,a9,a10,a11,a12]) (by wp_walk using lev,Bg,Gs,Dp)).trans F)
 obtain⟨c',e,a1,a2,a3,a4,a5,a6,a7,a8,a9,a10,a11,a12,rfl⟩:=loop
 obtain⟨db,bb,g1⟩:=A5h (ns:=ns) (k:=7) (by decide)
 have g1:Jk [.sc ns,.im (.int 7)]=.ret (.ls false db) [.sc ns,.im (.int 7)]:=g1
 obtain⟨m,d1,hm,g2⟩:=A7n bb (by decide)
 obtain⟨u8,u9,f1⟩:=Ph hm sx1 (s0:=some (.sc ns)) (s1:=a1) (s2:=a2) (s4:=a4) (s5:=a5) (s6:=a6) (s7:=a7) (s8:=a8) (s9:=a9) (s10:=a10) (s11:=a11) (s12:=a12);obtain⟨v8,v9,f2⟩:=Ph hm sx2 (s0:=some (.sc ns)) (s1:=a1) (s2:=a2) (s4:=some (.im (lD ["a"]))) (s5:=some (.im (lD ["b"]))) (s6:=a6) (s7:=a7) (s8:=u8) (s9:=u9) (s10:=a10) (s11:=a11) (s12:=a12);obtain⟨w8,w9,f3⟩:=Ph hm sx3 (s0:=some (.sc ns)) (s1:=a1) (s2:=a2) (s4:=some (.im (lD []))) (s5:=some (.im (lD ["b", "a"]))) (s6:=a6) (s7:=a7) (s8:=v8) (s9:=v9) (s10:=a10) (s11:=a11) (s12:=a12);have F:=(G8 (.inl f1)).trans ((G8 (.inl f2)).trans ((G8 (.inl f3)).trans U5))
 refine Y7 (p:=.o (.im (.bool true))) (c:=kev (some (.sc ns)) a1 a2 m ["b", "a"] [] [a6,a7,w8,w9,a10,a11,a12]) ?_ rfl (by wp_walk using kev)
 show As8 [some (.sc ns),none,none,none,none,none,none,none,none,none,none,none,none]=_
 unfold As8
 refine (Df ((Od (ds:=Ka 0 7) (c1:=[some (.sc ns),none,none,none,none,none,none,none,none,none,none,none,none]) (by wp_walk using bC)).trans e)).trans ?_
 refine (Df (c':=[some (.sc ns),a1,a2,some (.im (t60 m).d),a4,a5,a6,a7,a8,a9,a10,a11,a12]) (by wp_walk using g1,g2)).trans ?_
 refine (Df ((Od (c1:=[some (.sc ns),a1,a2,some (.im (t60 m).d),a4,a5,a6,a7,a8,a9,a10,a11,a12]) (by wp_walk using Bg,Gs;rfl)).trans F)).trans ?_
 wp_walk using bC
def top (i:Nat):Stmt:=PySem.Challenge.pw_pivotfold_k10_tables_folded.main.body.getD i (.Pass ⟨0,0,0,0⟩)
abbrev Zm:Stmt:=top 7
theorem Bd6:Bk ["value"] ["value"] (Aw Zm):=⟨rfl,rfl,rfl,by decide +kernel,rfl,by decide +kernel,by decide +kernel⟩
abbrev Z7:Stmt:=top 8
theorem A6j:Bk ["values"] ["values"] (Aw Z7):=⟨rfl,rfl,rfl,by decide +kernel,rfl,by decide +kernel,by decide +kernel⟩
abbrev Pq:Stmt:=top 10
theorem yN:Bk ["table", "name", "columns"] ["table", "name"] (Aw Pq):=⟨rfl,rfl,rfl,by decide +kernel,rfl,by decide +kernel,by decide +kernel⟩
abbrev Nu:Stmt:=top 11
theorem Z3:Bk ["table", "names"] ["table", "names"] (Aw Nu):=⟨rfl,rfl,rfl,by decide +kernel,rfl,by decide +kernel,by decide +kernel⟩
abbrev M3:Stmt:=top 12
theorem Ab3:Bk ["row", "places"] ["row", "places"] (Aw M3):=⟨rfl,rfl,rfl,by decide +kernel,rfl,by decide +kernel,by decide +kernel⟩
abbrev Gq:Stmt:=top 15
theorem yC:Bk ["columns", "key", "names", "values", "together"] ["columns", "key", "names", "values"] (Aw Gq):=⟨rfl,rfl,rfl,by decide +kernel,rfl,by decide +kernel,by decide +kernel⟩
abbrev J7:Stmt:=top 16
theorem Ux:Bk ["order"] ["order"] (Aw J7):=⟨rfl,rfl,rfl,by decide +kernel,rfl,by decide +kernel,by decide +kernel⟩
abbrev Ii:Stmt:=top 17
theorem zH:Bk ["table", "key", "names", "key_places", "name_places", "groups", "number", "row", "place"] ["table", "key", "names"] (Aw Ii):=⟨rfl,rfl,rfl,by decide +kernel,rfl,by decide +kernel,by decide +kernel⟩
abbrev Lz:Stmt:=top 18
theorem yF:Bk ["things", "seen", "thing"] ["things"] (Aw Lz):=⟨rfl,rfl,rfl,by decide +kernel,rfl,by decide +kernel,by decide +kernel⟩
abbrev Ld:Stmt:=top 19
theorem Xh:Bk ["groups"] ["groups"] (Aw Ld):=⟨rfl,rfl,rfl,by decide +kernel,rfl,by decide +kernel,by decide +kernel⟩
abbrev Lk:Stmt:=top 20
theorem yM:Bk ["groups", "order", "heads"] ["groups", "order"] (Aw Lk):=⟨rfl,rfl,rfl,by decide +kernel,rfl,by decide +kernel,by decide +kernel⟩
abbrev Pn:Stmt:=top 21
theorem Aj9:Bk ["part", "heads", "things", "gap"] ["part", "heads", "things", "gap"] (Aw Pn):=⟨rfl,rfl,rfl,by decide +kernel,rfl,by decide +kernel,by decide +kernel⟩
abbrev Pj:Stmt:=top 22
theorem Ai6:Bk ["parts", "heads", "things", "gap"] ["parts", "heads", "things", "gap"] (Aw Pj):=⟨rfl,rfl,rfl,by decide +kernel,rfl,by decide +kernel,by decide +kernel⟩
abbrev Ig:Stmt:=top 23
theorem Rq:Bk ["parts", "heads", "cells"] ["parts", "heads", "cells"] (Aw Ig):=⟨rfl,rfl,rfl,by decide +kernel,rfl,by decide +kernel,by decide +kernel⟩
abbrev Il:Stmt:=top 24
theorem yI:Bk ["groups", "doubles", "first"] ["groups"] (Aw Il):=⟨rfl,rfl,rfl,by decide +kernel,rfl,by decide +kernel,by decide +kernel⟩
abbrev V3:Stmt:=top 25
theorem zT:Bk ["table", "key", "names", "values", "order", "groups", "value_places", "cells", "place", "numbers", "heads", "rows"] ["table", "key", "names", "values", "order"] (Aw V3):=⟨rfl,rfl,rfl,by decide +kernel,rfl,by decide +kernel,by decide +kernel⟩
abbrev M7:Stmt:=top 27
theorem Zh:Bk ["_law_script", "_law_k"] ["_law_script", "_law_k"] (Aw M7):=⟨rfl,rfl,rfl,by decide +kernel,rfl,by decide +kernel,by decide +kernel⟩
abbrev Ab5:Stmt:=top 28
theorem yU:Bk ["_law_script", "_law_k", "_law_number"] ["_law_script", "_law_k"] (Aw Ab5):=⟨rfl,rfl,rfl,by decide +kernel,rfl,by decide +kernel,by decide +kernel⟩
abbrev Ww:Stmt:=top 29
theorem yJ:Bk ["_law_box_here", "_law_many_here", "_law_found", "_law_once", "_law_twice"] ["_law_box_here", "_law_many_here"] (Aw Ww):=⟨rfl,rfl,rfl,by decide +kernel,rfl,by decide +kernel,by decide +kernel⟩
abbrev Wm:Stmt:=top 30
theorem A2v:Bk ["_law_box_here", "_law_least", "_law_few", "_law_most"] ["_law_box_here", "_law_least", "_law_few", "_law_most"] (Aw Wm):=⟨rfl,rfl,rfl,by decide +kernel,rfl,by decide +kernel,by decide +kernel⟩
abbrev Ry:Stmt:=top 31
theorem yP:Bk ["_law_box_here", "_law_many_here", "_law_some"] ["_law_box_here", "_law_many_here"] (Aw Ry):=⟨rfl,rfl,rfl,by decide +kernel,rfl,by decide +kernel,by decide +kernel⟩
abbrev Sg:Stmt:=top 32
theorem yQ:Bk ["_law_box_here", "_law_way"] ["_law_box_here"] (Aw Sg):=⟨rfl,rfl,rfl,by decide +kernel,rfl,by decide +kernel,by decide +kernel⟩
abbrev Uv:Stmt:=top 33
theorem yK:Bk ["_law_box_here", "_law_many_here", "_law_found", "_law_turn", "_law_value_here"] ["_law_box_here", "_law_many_here"] (Aw Uv):=⟨rfl,rfl,rfl,by decide +kernel,rfl,by decide +kernel,by decide +kernel⟩
abbrev Sv:Stmt:=top 34
theorem zU:Bk ["_law_box_here", "_law_many_here", "_law_rows", "_law_names_here", "_law_pools", "_law_found", "_law_turn", "_law_row"] ["_law_box_here", "_law_many_here", "_law_rows"] (Aw Sv):=⟨rfl,rfl,rfl,by decide +kernel,rfl,by decide +kernel,by decide +kernel⟩
abbrev J8:Stmt:=top 35
theorem Vv:Bk ["_law_box_here"] ["_law_box_here"] (Aw J8):=⟨rfl,rfl,rfl,by decide +kernel,rfl,by decide +kernel,by decide +kernel⟩
abbrev O2:Stmt:=top 36
theorem zY:Bk ["_law_box_here", "_law_columns", "_law_left", "_law_order", "_law_values", "_law_rest", "_law_cut"] ["_law_box_here", "_law_columns"] (Aw O2):=⟨rfl,rfl,rfl,by decide +kernel,rfl,by decide +kernel,by decide +kernel⟩
abbrev Ao0:Stmt:=top 37
theorem Be8:Bk ["_law_table_here", "_law_row", "_law_names_here"] ["_law_table_here", "_law_row", "_law_names_here"] (Aw Ao0):=⟨rfl,rfl,rfl,by decide +kernel,rfl,by decide +kernel,by decide +kernel⟩
abbrev Gr:Stmt:=top 38
theorem zQ:Bk ["_law_table_here", "_law_names_here", "_law_met", "_law_rows", "_law_row"] ["_law_table_here", "_law_names_here"] (Aw Gr):=⟨rfl,rfl,rfl,by decide +kernel,rfl,by decide +kernel,by decide +kernel⟩
abbrev Vk:Stmt:=top 39
theorem A0y:Bk ["_law_value_here"] ["_law_value_here"] (Aw Vk):=⟨rfl,rfl,rfl,by decide +kernel,rfl,by decide +kernel,by decide +kernel⟩
abbrev Su:Stmt:=top 40
theorem Ao1:Bk ["_law_values"] ["_law_values"] (Aw Su):=⟨rfl,rfl,rfl,by decide +kernel,rfl,by decide +kernel,by decide +kernel⟩
abbrev Qe:Stmt:=top 41
theorem A1x:Bk ["_law_found", "_law_due"] ["_law_found", "_law_due"] (Aw Qe):=⟨rfl,rfl,rfl,by decide +kernel,rfl,by decide +kernel,by decide +kernel⟩
abbrev Pa:Stmt:=top 42
theorem zK:Bk ["_law_table_here", "_law_stem", "_law_names_here", "_law_values", "_law_order", "_law_parts", "_law_heads", "_law_cells", "_law_row", "_law_part", "_law_head", "_law_rows"] ["_law_table_here", "_law_stem", "_law_names_here", "_law_values", "_law_order"] (Aw Pa):=⟨rfl,rfl,rfl,by decide +kernel,rfl,by decide +kernel,by decide +kernel⟩
abbrev Rz:Stmt:=top 43
theorem yR:Bk ["_law_box_here", "_law_more"] ["_law_box_here"] (Aw Rz):=⟨rfl,rfl,rfl,by decide +kernel,rfl,by decide +kernel,by decide +kernel⟩
abbrev A4d:Stmt:=top 44
theorem zL:Bk ["_law_script", "_law_k", "_law_box_here", "_law_table_here", "_law_stem", "_law_names_here", "_law_values", "_law_before", "_law_order", "_law_due", "_law_found", "_law_handed", "_law_again"] ["_law_script"] (Aw A4d):=⟨rfl,rfl,rfl,by decide +kernel,rfl,by decide +kernel,by decide +kernel⟩
section
variable {P:t6}{w:World}{K:v_}{mg:x_}{base:Heap}
theorem Bc5 {n:Nat}{f:Addr}{fd:u_}(F:Fun K "rank" "rank" Zm f fd) (d0:Def P w K mg base "rank" (n) ["value"] (spP K (Dl n))) (zN:mg "int" = none) (zB:mg "isinstance" = none) (zJ:mg "str" = none) (zA:mg "tuple" = none):FnOk P w K mg base CX0 (n+1) f fd ["value"] (spP K (Dl (n+1))):=by
 refine F.ok Bd6 (fun vs H Q E h=>Bw h) (fun cdv A outer s H vs Q E hr h=>?_)
 have hu:=hr.units;have hgd:=hr.gd
 refine Gk (Ag (Er (Sq (qv 0) Vm) (Am (Be (Cm (Af Aj (Af Aj Ae))))) By)
  (Ag (Er (Mj (Cg (Kq:=K) rfl rfl zB (Af (qv 0) (Af (Eo (v:=.ty "int") rfl zN Ap1 rfl) Ae)))) (Am (Be (Cm (Af Aj (Af (qv 0) Ae))))) By)
  (Ag (Er (Mj (Cg (Kq:=K) rfl rfl zB (Af (qv 0) (Af (Eo (v:=.ty "str") rfl zJ Ra rfl) Ae)))) (Am (Be (Cm (Af Aj (Af (qv 0) Ae))))) By)
  (Am (Be (Cm (Af Aj (Af (Aq (Kq:=K) rfl rfl zA (Af (by exact(Jq (N':=["each"]) (idx:=[none]) (Ex rfl rfl (by decide +kernel) rfl rfl rfl) rfl (Ew (Kq:=K) rfl (qv 0)) (fun _ _ _ _ _=>by exact(Bc (i:=0) (by show (["each"]:v4).Nodup;decide +kernel) rfl (Or.inl rfl))) (fun _ _ _ _ _=>by exact Dv) (fun _ _ _ _ _=>by exact(Bh d0 hr (Af (qv 0) Ae))))) Ae)) Ae)))))))) ?_
 exact Ca (Ar (Ez (Bu (An Aa (Ax rfl) Ac6)) (Bf (Cq (Ab (Ax rfl) (Ab (Ax rfl) Ah)))) Cd)
  (Ar (Ez (Zg (Hi .int Aa)) (Bf (Cq (Ab (Ax rfl) (Ab Aa Ah)))) Cd)
  (Ar (Ez (Zg (Hi .str Aa)) (Bf (Cq (Ab (Ax rfl) (Ab Aa Ah)))) Cd)
  (Bf (Cq (Ab (Ax rfl) (Ab (Ba (G6 (by decide) (Et Aa) Ai Fi (Ao (Ab Aa Ah))) Ci) Ah))))))) h
theorem Af4 {f:Addr}{fd:u_}(F:Fun K "rank" "rank" Zm f fd) (bF:Binds K fd ["value"] []) (mF:mg "rank" = some (.ref f)) (zN:mg "int" = none) (zB:mg "isinstance" = none) (zJ:mg "str" = none) (zA:mg "tuple" = none):∀n:Nat,FnOk P w K mg base CX0 (n) f fd ["value"] (spP K (Dl n))
 | 0=>A4o
 | n+1=>Bc5 F ⟨f,fd,Af4 F bF mF zN zB zJ zA n,bF,F.kp,mF⟩ zN zB zJ zA
theorem A7q {f:Addr}{fd:u_}(F:Fun K "risen" "risen" Z7 f fd) (d0:Def P w K mg base "rank" 2 ["value"] (spP K (Dl 2))) (yD:mg "sorted" = none):FnOk P w K mg base CX0 5 f fd ["values"] (spP K M6):=by
 obtain⟨f_rank,fd_rank,G_rank,b_rank,kp_rank,m_rank⟩:=d0
 refine F.ok A6j (fun vs H Q E h=>Bw h) (fun cdv A outer s H vs Q E hr h=>?_)
 have hu:=hr.units;have hgd:=hr.gd
 refine Gk (Am (Be (Al6 (Kq:=K) rfl G_rank (hr.mono (by omega)) b_rank rfl yD (Af (qv 0) Ae) (Ax0 (Ab2 (v:=.ref f_rank) rfl m_rank rfl) A5t)))) ?_
 exact Ca (Bf (A8s Aa)) h
theorem Aj5 {f:Addr}{fd:u_}(F:Fun K "place_of" "place_of" Pq f fd):FnOk P w K mg base CX0 1 f fd ["table", "name"] (spP K Gd):=by
 refine F.ok yN (fun vs H Q E h=>Bw h) (fun cdv A outer s H vs Q E hr h=>?_)
 have hu:=hr.units;have hgd:=hr.gd
 refine Gk (Ag (Bl (i:=2) yN.nd rfl (Or.inl rfl) (Ce (Kq:=K) rfl (qv 0) Aj Bq))
  (Ag (Er (Lp hu (qv 1) (qv 2) (by with_unfolding_all rfl)) (Am K4) By)
  (Am (Be (Am5 (Kq:=K) rfl PySem.F.plainAttrs_tuple PySem.F.slot_tuple_index PySem.F.type_tuple_index (U9 rfl) (qv 2) (Af (qv 1) Ae)))))) ?_
 exact Ca (Ar (Bj (An Aa (Ax rfl) Bp) Ai)
  (Ar (Ez (Bu (An Aa Aa Kh)) Ku Cd)
  (Bf (A6q Aa Aa A5k Xr)))) h
theorem Ab9 {f:Addr}{fd:u_}(F:Fun K "places_of" "places_of" Nu f fd) (d2:Def P w K mg base "place_of" 1 ["table", "name"] (spP K Gd)):FnOk P w K mg base CX0 2 f fd ["table", "names"] (spP K Ej):=by
 refine F.ok Z3 (fun vs H Q E h=>Bw h) (fun cdv A outer s H vs Q E hr h=>?_)
 have hu:=hr.units;have hgd:=hr.gd
 refine Gk (Am (Be (by exact(Jq (N':=["name", "table"]) (idx:=[none,some 0]) (Ex rfl rfl (by decide +kernel) rfl rfl rfl) rfl (Ew (Kq:=K) rfl (qv 1)) (fun _ _ _ _ _=>by exact(Bc (i:=0) (by show (["name", "table"]:v4).Nodup;decide +kernel) rfl (Or.inl rfl))) (fun _ _ _ _ _=>by exact Dv) (fun _ _ _ _ _=>by exact(Bh d2 hr (Af (qv 1) (Af (qv 0) Ae)))))))) ?_
 exact Ca (Bf (G6 (by decide) (Et Aa) Ai Fi (Ao (Ab Aa (Ab Aa Ah))))) h
theorem Ab1 {f:Addr}{fd:u_}(F:Fun K "values_at" "values_at" M3 f fd) (zA:mg "tuple" = none):FnOk P w K mg base CX0 1 f fd ["row", "places"] (spP K Cr):=by
 refine F.ok Ab3 (fun vs H Q E h=>Bw h) (fun cdv A outer s H vs Q E hr h=>?_)
 have hu:=hr.units;have hgd:=hr.gd
 refine Gk (Am (Be (Aq (Kq:=K) rfl rfl zA (Af (by exact(Jq (N':=["place", "row"]) (idx:=[none,some 0]) (Ex rfl rfl (by decide +kernel) rfl rfl rfl) rfl (Ew (Kq:=K) rfl (qv 1)) (fun _ _ _ _ _=>by exact(Bc (i:=0) (by show (["place", "row"]:v4).Nodup;decide +kernel) rfl (Or.inl rfl))) (fun _ _ _ _ _=>by exact Dv) (fun _ _ _ _ _=>by exact(Ce (Kq:=K) rfl (qv 1) (qv 0) V5)))) Ae)))) ?_
 exact Ca (Bf (Ba (G6 (by decide) (Et Aa) Ai Fi (An Aa Aa Bp)) Ci)) h
theorem Nv {f:Addr}{fd:u_}(F:Fun K "check_all_columns" "check_all_columns" Gq f fd) (yG:mg "all" = none) (zF:mg "len" = none) (zM:mg "list" = none):FnOk P w K mg base CX0 1 f fd ["columns", "key", "names", "values"] (spP K Di):=by
 refine F.ok yC (fun vs H Q E h=>Bw h) (fun cdv A outer s H vs Q E hr h=>?_)
 have hu:=hr.units;have hgd:=hr.gd
 refine Gk (Ag (Bl (i:=4) yC.nd rfl (Or.inr rfl) (Fo (Fo (Fp (Kq:=K) rfl rfl zM (Af (qv 1) Ae)) (Fp (Kq:=K) rfl rfl zM (Af (qv 2) Ae))) (Fp (Kq:=K) rfl rfl zM (Af (qv 3) Ae))))
  (Ag (Er (QW.qt (Ax7 (Ys hu (Hh (Kq:=K) rfl rfl zF (Af (qv 4) Ae)) (Hh (Kq:=K) rfl rfl zF (Af (qv 0) Ae))) (Y8 (Ao8 (Mj (Qn (Kq:=K) rfl rfl rfl yG (Af (by exact(Jq (N':=["name", "together"]) (idx:=[none,some 4]) (Ex rfl rfl (by decide +kernel) rfl rfl rfl) rfl (Ew (Kq:=K) rfl (qv 0)) (fun _ _ _ _ _=>by exact(Bc (i:=0) (by show (["name", "together"]:v4).Nodup;decide +kernel) rfl (Or.inl rfl))) (fun _ _ _ _ _=>by exact Dv) (fun _ _ _ _ _=>by exact(Wc hu (Am5 (Kq:=K) rfl iJ PySem.F.slot_list_count PySem.F.type_list_count (A2t rfl) (qv 1) (Af (qv 0) Ae)) Aj)))) Ae))))))) (Am K4) By)
  (Am (Er (V7 hu (Hh (Kq:=K) rfl rfl zF (Af (qv 3) Ae)) Aj) (Am K4) By)))) ?_
 exact Ca (Ar (Bj (An (An (Ba Aa Mr) (Ba Aa Mr) Dy) (Ba Aa Mr) Dy) Ai)
  (Ar (Ez (Aw6 (Bu (An (Hk Aa) (Hk Aa) Rn)) (An8 (Zg (Ba (G6 (by decide) (Et Aa) Ai Fi (An (A6q Aa Aa Bq1 As0) (Ax rfl) Hg)) Av8)))) Ku Cd)
  (Ez (Bu (An (Hk Aa) (Ax rfl) Hg)) Ku Cd))) h
theorem U4 {f:Addr}{fd:u_}(F:Fun K "check_order" "check_order" J7 f fd) (yO:∃p,mg "ORDERS" = some (.ref p)/\∀H,SqT K H p ([Str.ofString "seen",Str.ofString "rising"].map V.str)):FnOk P w K mg base CX0 1 f fd ["order"] (spP K Hc):=by
 obtain⟨p_ORDERS,m_ORDERS,sq_ORDERS⟩:=yO
 refine F.ok Ux (fun vs H Q E h=>Bw h) (fun cdv A outer s H vs Q E hr h=>?_)
 have hu:=hr.units;have hgd:=hr.gd
 refine Gk (Am (Er (A2p (Kq:=K) rfl (qv 0) (Ab2 (v:=.ref p_ORDERS) rfl m_ORDERS rfl) (by with_unfolding_all rfl)) (Am K4) By)) ?_
 exact Ca (Ez (Bu (Bq4 Aa sq_ORDERS)) Ku Cd) h
theorem Rt {f:Addr}{fd:u_}(F:Fun K "rows_by_place" "rows_by_place" Ii f fd) (d3:Def P w K mg base "places_of" 2 ["table", "names"] (spP K Ej)) (d4:Def P w K mg base "values_at" 1 ["row", "places"] (spP K Cr)) (yL:mg "enumerate" = none):FnOk P w K mg base CX0 3 f fd ["table", "key", "names"] (spP K Es):=by
 refine F.ok zH (fun vs H Q E h=>Bw h) (fun cdv A outer s H vs Q E hr h=>?_)
 have hu:=hr.units;have hgd:=hr.gd
 refine Gk (Ag (Bl (i:=3) zH.nd rfl (Or.inl rfl) (Bh d3 hr (Af (qv 0) (Af (qv 1) Ae))))
  (Ag (Bl (i:=4) zH.nd rfl (Or.inl rfl) (Bh d3 hr (Af (qv 0) (Af (qv 2) Ae))))
  (Ag (Bl (i:=5) zH.nd rfl (Or.inl rfl) Ql) (Zw (d:=5) (Jr dg rfl (Bc6 rfl yL (Af (Ce (Kq:=K) rfl (qv 0) Aj Bq) Ae)) (M5 (Kq:=K) rfl (n:=2) rfl (Dh (Bc (i:=6) zH.nd rfl (Or.inl rfl)) (Dh (Bc (i:=7) zH.nd rfl (Or.inl rfl)) Jy))) (Ag (Bl (i:=8) zH.nd rfl (Or.inl rfl) (Cm (Af (Bh d4 hr (Af (qv 7) (Af (qv 3) Ae))) (Af (Bh d4 hr (Af (qv 7) (Af (qv 4) Ae))) Ae))))
  (Am (Jv (K9 (Kq:=K) rfl (Bd9 hu (qv 5) (qv 8) (Dr Ae) ⟨rfl,rfl,rfl,rfl⟩) (qv 6))))))
  (Am (Be (qv 5))))))) ?_
 exact Ca (Ar (Bj (Ao (Ab Aa (Ab Aa Ah))) Ai)
  (Ar (Bj (Ao (Ab Aa (Ab Aa Ah))) Ai)
  (Qw (Zn (Bb5 (An Aa (Ax rfl) Bp)) (Mx (Dg Ai (Dg Ai J6))) (Az8 (Q6 (Hd (by decide)) Hq (Q6 (Hd (by decide)) Hq Au0 N7) (Vx Hq N7))) (Ad4 (As9 (Cq (Ab (Ao (Ab Aa (Ab (A7s Aa) Ah))) (Ab (Ao (Ab Aa (Ab (A7s Aa) Ah))) Ah))) Ai (Hd (by decide)))
  (Bt9 Aa Aa)))
  (Bf Aa)))) h
theorem Xg {f:Addr}{fd:u_}(F:Fun K "first_seen" "first_seen" Lz f fd) (zA:mg "tuple" = none):FnOk P w K mg base CX0 1 f fd ["things"] (spP K Ek):=by
 refine F.ok yF (fun vs H Q E h=>Bw h) (fun cdv A outer s H vs Q E hr h=>?_)
 have hu:=hr.units;have hgd:=hr.gd
 refine Gk (Ag (Bl (i:=1) yF.nd rfl (Or.inl rfl) Ql) (Zw (d:=1) (Jr dg rfl (Ew (Kq:=K) rfl (qv 0)) (Bc (i:=2) yF.nd rfl (Or.inl rfl)) (Am (Aa6 hu (qv 1) (qv 2) Xw)))
  (Am (Be (Bg3 rfl rfl zA (qv 1)))))) ?_
 exact Ca (Qw (Zn (Et Aa) Ai (Hd (by decide)) (As6 Aa (As4 (Ax rfl))))
  (Bf (Bf2 Aa))) h
theorem Xe {f:Addr}{fd:u_}(F:Fun K "parts_seen" "parts_seen" Ld f fd) (d8:Def P w K mg base "first_seen" 1 ["things"] (spP K Ek)):FnOk P w K mg base CX0 2 f fd ["groups"] (spP K Gv):=by
 refine F.ok Xh (fun vs H Q E h=>Bw h) (fun cdv A outer s H vs Q E hr h=>?_)
 have hu:=hr.units;have hgd:=hr.gd
 refine Gk (Am (Be (Bh d8 hr (Af (by exact(Jq (N':=["part", "head"]) (idx:=[none,none]) (Ex rfl rfl (by decide +kernel) rfl rfl rfl) rfl (Am9 (qv 0)) (fun _ _ _ _ _=>by exact(M5 (Kq:=K) rfl (n:=2) rfl (Dh (Bc (i:=0) (by show (["part", "head"]:v4).Nodup;decide +kernel) rfl (Or.inl rfl)) (Dh (Bc (i:=1) (by show (["part", "head"]:v4).Nodup;decide +kernel) rfl (Or.inl rfl)) Jy)))) (fun _ _ _ _ _=>by exact Dv) (fun _ _ _ _ _=>by exact(qv 0)))) Ae)))) ?_
 exact Ca (Bf (Ao (Ab (G6 (by decide) (Af5 Aa) (Mx (Dg Ai (Dg Ai J6))) Fi Aa) Ah))) h
theorem Xb {f:Addr}{fd:u_}(F:Fun K "heads_seen" "heads_seen" Lk f fd) (d1:Def P w K mg base "risen" 5 ["values"] (spP K M6)) (d8:Def P w K mg base "first_seen" 1 ["things"] (spP K Ek)) (zA:mg "tuple" = none):FnOk P w K mg base CX0 6 f fd ["groups", "order"] (spP K Fv):=by
 refine F.ok yM (fun vs H Q E h=>Bw h) (fun cdv A outer s H vs Q E hr h=>?_)
 have hu:=hr.units;have hgd:=hr.gd
 refine Gk (Ag (Bl (i:=2) yM.nd rfl (Or.inl rfl) (Bh d8 hr (Af (by exact(Jq (N':=["part", "head"]) (idx:=[none,none]) (Ex rfl rfl (by decide +kernel) rfl rfl rfl) rfl (Am9 (qv 0)) (fun _ _ _ _ _=>by exact(M5 (Kq:=K) rfl (n:=2) rfl (Dh (Bc (i:=0) (by show (["part", "head"]:v4).Nodup;decide +kernel) rfl (Or.inl rfl)) (Dh (Bc (i:=1) (by show (["part", "head"]:v4).Nodup;decide +kernel) rfl (Or.inl rfl)) Jy)))) (fun _ _ _ _ _=>by exact Dv) (fun _ _ _ _ _=>by exact(qv 1)))) Ae)))
  (Am (Be (A4v (V7 hu (qv 1) Fg) (Aq (Kq:=K) rfl rfl zA (Af (Bh d1 hr (Af (qv 2) Ae)) Ae)) (qv 2))))) ?_
 exact Ca (Ar (Bj (Ao (Ab (G6 (by decide) (Af5 Aa) (Mx (Dg Ai (Dg Ai J6))) Fi Aa) Ah)) Ai)
  (Bf (Bv5 (Bu (An Aa (Ax rfl) Hg)) (Ba (Ao (Ab Aa Ah)) Ci) Aa))) h
theorem Al0 {f:Addr}{fd:u_}(F:Fun K "laid_row" "laid_row" Pn f fd) (zA:mg "tuple" = none):FnOk P w K mg base CX0 1 f fd ["part", "heads", "things", "gap"] (spP K Gb):=by
 refine F.ok Aj9 (fun vs H Q E h=>Bw h) (fun cdv A outer s H vs Q E hr h=>?_)
 have hu:=hr.units;have hgd:=hr.gd
 refine Gk (Am (Be (Aq (Kq:=K) rfl rfl zA (Af (by exact(Jq (N':=["head", "gap", "things", "part"]) (idx:=[none,some 3,some 2,some 0]) (Ex rfl rfl (by decide +kernel) rfl rfl rfl) rfl (Ew (Kq:=K) rfl (qv 1)) (fun _ _ _ _ _=>by exact(Bc (i:=0) (by show (["head", "gap", "things", "part"]:v4).Nodup;decide +kernel) rfl (Or.inl rfl))) (fun _ _ _ _ _=>by exact Dv) (fun _ _ _ _ _=>by exact(A4j hu (qv 2) (Cm (Af (qv 3) (Af (qv 0) Ae))) (qv 1) ⟨rfl,rfl,rfl,rfl⟩)))) Ae)))) ?_
 exact Ca (Bf (Ba (G6 (by decide) (Et Aa) Ai Fi (Ag8 Aa (Cq (Ab Aa (Ab Aa Ah))) Aa)) Ci)) h
theorem Ai9 {f:Addr}{fd:u_}(F:Fun K "laid_out" "laid_out" Pj f fd) (d11:Def P w K mg base "laid_row" 1 ["part", "heads", "things", "gap"] (spP K Gb)) (zA:mg "tuple" = none):FnOk P w K mg base CX0 2 f fd ["parts", "heads", "things", "gap"] (spP K H9):=by
 refine F.ok Ai6 (fun vs H Q E h=>Bw h) (fun cdv A outer s H vs Q E hr h=>?_)
 have hu:=hr.units;have hgd:=hr.gd
 refine Gk (Am (Be (Aq (Kq:=K) rfl rfl zA (Af (by exact(Jq (N':=["part", "heads", "things", "gap"]) (idx:=[none,some 1,some 2,some 3]) (Ex rfl rfl (by decide +kernel) rfl rfl rfl) rfl (Ew (Kq:=K) rfl (qv 0)) (fun _ _ _ _ _=>by exact(Bc (i:=0) (by show (["part", "heads", "things", "gap"]:v4).Nodup;decide +kernel) rfl (Or.inl rfl))) (fun _ _ _ _ _=>by exact Dv) (fun _ _ _ _ _=>by exact(Bh d11 hr (Af (qv 0) (Af (qv 1) (Af (qv 2) (Af (qv 3) Ae)))))))) Ae)))) ?_
 exact Ca (Bf (Ba (G6 (by decide) (Et Aa) Ai Fi (Ao (Ab Aa (Ab Aa (Ab Aa (Ab Aa Ah)))))) Ci)) h
theorem R9 {f:Addr}{fd:u_}(F:Fun K "rows_laid_out" "rows_laid_out" Ig f fd) (d12:Def P w K mg base "laid_out" 2 ["parts", "heads", "things", "gap"] (spP K H9)) (zA:mg "tuple" = none) (yH:mg "zip" = none):FnOk P w K mg base CX0 3 f fd ["parts", "heads", "cells"] (spP K Ey):=by
 refine F.ok Rq (fun vs H Q E h=>Bw h) (fun cdv A outer s H vs Q E hr h=>?_)
 have hu:=hr.units;have hgd:=hr.gd
 refine Gk (Am (Be (Bd2 rfl rfl zA rfl yH (Af (qv 0) (Af (Bh d12 hr (Af (qv 0) (Af (qv 1) (Af (qv 2) (Af Vm Ae))))) Ae))))) ?_
 exact Ca (Bf (Bh2 Aa (Ao (Ab Aa (Ab Aa (Ab Aa (Ab (Ax rfl) Ah))))))) h
theorem Sd {f:Addr}{fd:u_}(F:Fun K "check_doubles" "check_doubles" Il f fd) (zF:mg "len" = none):FnOk P w K mg base CX0 1 f fd ["groups"] (spP K Eu):=by
 refine F.ok yI (fun vs H Q E h=>Bw h) (fun cdv A outer s H vs Q E hr h=>?_)
 have hu:=hr.units;have hgd:=hr.gd
 refine Gk (Ag (by exact(Ms (i:=1) yI.nd rfl (Or.inl rfl) (N':=["numbers"]) (idx:=[none]) (Ex rfl rfl (by decide +kernel) rfl rfl rfl) rfl (A7i (qv 0)) (fun _ _ _ _ _=>by exact(Bc (i:=0) (by show (["numbers"]:v4).Nodup;decide +kernel) rfl (Or.inl rfl))) (fun _ _ _ _ _=>by exact(Bg9 (Ve (Hh (Kq:=K) rfl rfl zF (Af (qv 0) Ae)) Aj))) (fun _ _ _ _ _=>by exact(Cm (Af (Ce (Kq:=K) rfl (qv 0) Aj Bq) (Af (Ce (Kq:=K) rfl (qv 0) Aj Bq) Ae))))))
  (Am (Er (Ve (Hh (Kq:=K) rfl rfl zF (Af (qv 1) Ae)) Aj) (Ag K4
  (Am K4)) By))) ?_
 exact Ca (Ar (Bj (G6 (by decide) (A5z Aa) Ai (Bu (An (Hk Aa) (Ax rfl) Aq7)) (Cq (Ab (An Aa (Ax rfl) Bp) (Ab (An Aa (Ax rfl) Bp) Ah)))) Ai)
  (Ez (Bu (An (Hk Aa) (Ax rfl) Aq7)) (Ar Ku
  Ku) Cd)) h
theorem A1f {f:Addr}{fd:u_}(F:Fun K "folded" "folded" V3 f fd) (d3:Def P w K mg base "places_of" 2 ["table", "names"] (spP K Ej)) (d4:Def P w K mg base "values_at" 1 ["row", "places"] (spP K Cr)) (d5:Def P w K mg base "check_all_columns" 1 ["columns", "key", "names", "values"] (spP K Di)) (d6:Def P w K mg base "check_order" 1 ["order"] (spP K Hc)) (d7:Def P w K mg base "rows_by_place" 3 ["table", "key", "names"] (spP K Es)) (d9:Def P w K mg base "parts_seen" 2 ["groups"] (spP K Gv)) (d10:Def P w K mg base "heads_seen" 6 ["groups", "order"] (spP K Fv)) (d13:Def P w K mg base "rows_laid_out" 3 ["parts", "heads", "cells"] (spP K Ey)) (d14:Def P w K mg base "check_doubles" 1 ["groups"] (spP K Eu)) (zA:mg "tuple" = none):FnOk P w K mg base CX0 7 f fd ["table", "key", "names", "values", "order"] (spP K Ft):=by
 refine F.ok zT (fun vs H Q E h=>Bw h) (fun cdv A outer s H vs Q E hr h=>?_)
 have hu:=hr.units;have hgd:=hr.gd
 refine Gk (Ag (Jv (Bh d5 hr (Af (Ce (Kq:=K) rfl (qv 0) Aj Bq) (Af (qv 1) (Af (qv 2) (Af (qv 3) Ae))))))
  (Ag (Jv (Bh d6 hr (Af (qv 4) Ae)))
  (Ag (Bl (i:=5) zT.nd rfl (Or.inl rfl) (Bh d7 hr (Af (qv 0) (Af (qv 1) (Af (qv 2) Ae)))))
  (Ag (Jv (Bh d14 hr (Af (qv 5) Ae)))
  (Ag (Bl (i:=6) zT.nd rfl (Or.inl rfl) (Bh d3 hr (Af (qv 0) (Af (qv 3) Ae))))
  (Ag (Bl (i:=7) zT.nd rfl (Or.inl rfl) Ql) (Zw (d:=7) (Jr dg rfl (A2s (qv 5)) (M5 (Kq:=K) rfl (n:=2) rfl (Dh (Bc (i:=8) zT.nd rfl (Or.inl rfl)) (Dh (Bc (i:=9) zT.nd rfl (Or.inl rfl)) Jy))) (Am (Aa6 hu (qv 7) (qv 8) (Bh d4 hr (Af (Ce (Kq:=K) rfl (Ce (Kq:=K) rfl (qv 0) Aj Bq) (Ce (Kq:=K) rfl (qv 9) Aj Bq) A1a) (Af (qv 6) Ae))))))
  (Ag (Bl (i:=10) zT.nd rfl (Or.inl rfl) (Bh d10 hr (Af (qv 5) (Af (qv 4) Ae))))
  (Ag (Bl (i:=11) zT.nd rfl (Or.inl rfl) (Bh d13 hr (Af (Bh d9 hr (Af (qv 5) Ae)) (Af (qv 10) (Af (qv 7) Ae)))))
  (Am (Be (Cm (Af (Aq (Kq:=K) rfl rfl zA (Af (qv 1) Ae)) (Af (Aq (Kq:=K) rfl rfl zA (Af (qv 2) Ae)) (Af (Aq (Kq:=K) rfl rfl zA (Af (qv 3) Ae)) (Af (qv 10) (Af (qv 11) Ae))))))))))))))))) ?_
 exact Ca (Ar (Mi (Ao (Ab (An Aa (Ax rfl) Bp) (Ab Aa (Ab Aa (Ab Aa Ah))))))
  (Ar (Mi (Ao (Ab Aa Ah)))
  (Ar (Bj (Ao (Ab Aa (Ab Aa (Ab Aa Ah)))) Ai)
  (Ar (Mi (Ao (Ab Aa Ah)))
  (Ar (Bj (Ao (Ab Aa (Ab Aa Ah))) Ai)
  (Qw (Zn (A0t Aa) (Mx (Dg Ai (Dg Ai J6))) (Az8 (Q6 (Hd (by decide)) Hq (Q6 (Hd (by decide)) Hq Au0 N7) (Vx Hq N7))) (As6 Aa (As4 (Ao (Ab (An (An Aa (Ax rfl) Bp) (An Aa (Ax rfl) Bp) Bp) (Ab (A7s Aa) Ah))))))
  (Ar (Bj (Ao (Ab Aa (Ab Aa Ah))) Ai)
  (Ar (Bj (Ao (Ab (Ao (Ab Aa Ah)) (Ab Aa (Ab Aa Ah)))) Ai)
  (Bf (Cq (Ab (Ba Aa Ci) (Ab (Ba Aa Ci) (Ab (Ba Aa Ci) (Ab Aa (Ab Aa Ah))))))))))))))) h
theorem Ab6 {f:Addr}{fd:u_}(F:Fun K "_law_cell_at" "_law_cell_at" M7 f fd) (zF:mg "len" = none):FnOk P w K mg base CX0 1 f fd ["_law_script", "_law_k"] (spP K Gh):=by
 refine F.ok Zh (fun vs H Q E h=>Bw h) (fun cdv A outer s H vs Q E hr h=>?_)
 have hu:=hr.units;have hgd:=hr.gd
 refine Gk (Ag (Er (Af6 (qv 1) (Hh (Kq:=K) rfl rfl zF (Af (qv 0) Ae))) (Am (Be (Bm6 (show IxR _ (rIx K) from Bp5) (qv 0) (qv 1) V5))) By)
  (Am (Be Aj))) ?_
 exact Ca (Ar (Ez (Bu (An Aa (Hk Aa) Aw1)) (Bf (Bw0 Aa Aa)) Cd)
  (Bf (Ax rfl))) h
theorem A4n {f:Addr}{fd:u_}(F:Fun K "_law_box" "_law_box" Ab5 f fd) (d16:Def P w K mg base "_law_cell_at" 1 ["_law_script", "_law_k"] (spP K Gh)) (yS:mg "abs" = none) (zN:mg "int" = none):FnOk P w K mg base CX0 2 f fd ["_law_script", "_law_k"] (spP K Jk):=by
 refine F.ok yU (fun vs H Q E h=>Bw h) (fun cdv A outer s H vs Q E hr h=>?_)
 have hu:=hr.units;have hgd:=hr.gd
 refine Gk (Ag (Bl (i:=2) yU.nd rfl (Or.inl rfl) (Bh d16 hr (Af (qv 0) (Af (qv 1) Ae))))
  (Am (Be (Dr (Af (Ha (Tc (Kq:=K) rfl rfl yS (Af (qv 2) Ae)) (Iw (Kq:=K) rfl rfl zN (Af (A9l (Tc (Kq:=K) rfl rfl yS (Af (qv 2) Ae)) (Rf Aj Aj)) Ae))) (Af (Fo (Fo (Hb (qv 2) Aj) (Ha Aj (qv 1))) Aj) (Af Aj Ae))))))) ?_
 exact Ca (Ar (Bj (Ao (Ab Aa (Ab Aa Ah))) Ai)
  (Bf (Dw (Ab (An (Ba Aa A0d) (Ba (An (Ba Aa A0d) (An (Ax rfl) (Ax rfl) Z6) By0) Uq) Hw) (Ab (An (An (An Aa (Ax rfl) J1) (An (Ax rfl) Aa Hw) Dy) (Ax rfl) Dy) (Ab (Ax rfl) Ah)))))) h
theorem A3z {f:Addr}{fd:u_}(F:Fun K "_law_take" "_law_take" Ww f fd):FnOk P w K mg base CX0 1 f fd ["_law_box_here", "_law_many_here"] (spP K Av):=by
 refine F.ok yJ (fun vs H Q E h=>Bw h) (fun cdv A outer s H vs Q E hr h=>?_)
 have hu:=hr.units;have hgd:=hr.gd
 refine Gk (Ag (Er (Ve (Ce (Kq:=K) rfl (qv 0) Aj Bq) Aj) (Ag (Bl (i:=2) yJ.nd rfl (Or.inl rfl) (Hb (Ce (Kq:=K) rfl (qv 0) Aj Bq) (qv 1)))
  (Ag (Ac8 (Wr (Ce (Kq:=K) rfl (qv 0) Aj Bq) (qv 1)) (A6c (qv 0) Aj set_list))
  (Am (Be (qv 2))))) By)
  (Ag (Ac8 (Fo (Ce (Kq:=K) rfl (qv 0) Aj Bq) Aj) (A6c (qv 0) Aj set_list))
  (Ag (Bl (i:=3) yJ.nd rfl (Or.inl rfl) (Hb (Ha (Fo (Ce (Kq:=K) rfl (qv 0) Aj Bq) (Ha Aj (Ce (Kq:=K) rfl (qv 0) Aj Bq))) (Fo Aj (Ce (Kq:=K) rfl (qv 0) Aj Bq))) Aj))
  (Ag (Bl (i:=4) yJ.nd rfl (Or.inl rfl) (Hb (Ha (Fo (qv 3) (Ce (Kq:=K) rfl (qv 0) Aj Bq)) (Fo (Hb (qv 3) Aj) Aj)) Aj))
  (Am (Be (Hb (Wr (Hb (Fo (Ha (qv 4) Aj) (qv 3)) Aj) Aj) (qv 1)))))))) ?_
 exact Ca (Ar (Ez (Bu (An (An Aa (Ax rfl) Bp) (Ax rfl) Aq7)) (Ar (Bj (An (An Aa (Ax rfl) Bp) Aa J1) Ai)
  (Ar (Bj (An (An Aa (Ax rfl) Bp) Aa Al2) (A8w Aa (Ax rfl)))
  (Bf Aa))) Cd)
  (Ar (Bj (An (An Aa (Ax rfl) Bp) (Ax rfl) Dy) (A8w Aa (Ax rfl)))
  (Ar (Bj (An (An (An (An Aa (Ax rfl) Bp) (An (Ax rfl) (An Aa (Ax rfl) Bp) Hw) Dy) (An (Ax rfl) (An Aa (Ax rfl) Bp) Dy) Hw) (Ax rfl) J1) Ai)
  (Ar (Bj (An (An (An Aa (An Aa (Ax rfl) Bp) Dy) (An (An Aa (Ax rfl) J1) (Ax rfl) Dy) Hw) (Ax rfl) J1) Ai)
  (Bf (An (An (An (An (An Aa (Ax rfl) Hw) Aa Dy) (Ax rfl) J1) (Ax rfl) Al2) Aa J1)))))) h
theorem A3y {f:Addr}{fd:u_}(F:Fun K "_law_many" "_law_many" Wm f fd) (d18:Def P w K mg base "_law_take" 1 ["_law_box_here", "_law_many_here"] (spP K Av)):FnOk P w K mg base CX0 2 f fd ["_law_box_here", "_law_least", "_law_few", "_law_most"] (spP K Ho):=by
 refine F.ok A2v (fun vs H Q E h=>Bw h) (fun cdv A outer s H vs Q E hr h=>?_)
 have hu:=hr.units;have hgd:=hr.gd
 refine Gk (Ag (Er (V7 hu (Bh d18 hr (Af (qv 0) (Af Aj Ae))) Aj) (Am (Be (Fo Aj (Bh d18 hr (Af (qv 0) (Af (Jb (qv 3) Aj) Ae)))))) By)
  (Am (Be (Fo (qv 1) (Bh d18 hr (Af (qv 0) (Af (Fo (Jb (qv 2) (qv 1)) Aj) Ae))))))) ?_
 exact Ca (Ar (Ez (Bu (An (Ao (Ab Aa (Ab (Ax rfl) Ah))) (Ax rfl) Hg)) (Bf (An (Ax rfl) (Ao (Ab Aa (Ab (An Aa (Ax rfl) Og) Ah))) Dy)) Cd)
  (Bf (An Aa (Ao (Ab Aa (Ab (An (An Aa Aa Og) (Ax rfl) Dy) Ah))) Dy))) h
theorem Ao9 {f:Addr}{fd:u_}(F:Fun K "_law_names" "_law_names" Ry f fd) (d18:Def P w K mg base "_law_take" 1 ["_law_box_here", "_law_many_here"] (spP K Av)) (zF:mg "len" = none) (zO:mg "range" = none):FnOk P w K mg base CX0 2 f fd ["_law_box_here", "_law_many_here"] (spP K Je):=by
 refine F.ok yP (fun vs H Q E h=>Bw h) (fun cdv A outer s H vs Q E hr h=>?_)
 have hu:=hr.units;have hgd:=hr.gd
 refine Gk (Ag (Bl (i:=2) yP.nd rfl (Or.inr rfl) (Dr (Rx (vs:=[.str "b",.str "a",.str "year",.str "z",.str "ab",.str "month",.str "aa",.str "quantity",.str "c",.str "town",.str "zz",.str "ba"]) rfl)))
  (Am (Be (by exact(Jq (N':=["_law_turn", "_law_some", "_law_box_here"]) (idx:=[none,some 2,some 0]) (Ex rfl rfl (by decide +kernel) rfl rfl rfl) rfl (Kz rfl zO (Af (qv 1) Ae)) (fun _ _ _ _ _=>by exact(Bc (i:=0) (by show (["_law_turn", "_law_some", "_law_box_here"]:v4).Nodup;decide +kernel) rfl (Or.inl rfl))) (fun _ _ _ _ _=>by exact Dv) (fun _ _ _ _ _=>by exact(Am5 (Kq:=K) rfl iJ PySem.F.slot_list_pop PySem.F.type_list_pop Ah7 (qv 1) (Af (Bh d18 hr (Af (qv 2) (Af (Hh (Kq:=K) rfl rfl zF (Af (qv 1) Ae)) Ae))) Ae)))))))) ?_
 exact Ca (Ar (Bj (Dw (Br6 rfl)) Ai)
  (Bf (G6 (by decide) (Qx Aa) Ai Fi (Ag7 Aa (Ao (Ab Aa (Ab (Hk Aa) Ah))))))) h
theorem Aq6 {f:Addr}{fd:u_}(F:Fun K "_law_value" "_law_value" Sg f fd) (d18:Def P w K mg base "_law_take" 1 ["_law_box_here", "_law_many_here"] (spP K Av)):FnOk P w K mg base CX0 2 f fd ["_law_box_here"] (spP K Fe):=by
 refine F.ok yQ (fun vs H Q E h=>Bw h) (fun cdv A outer s H vs Q E hr h=>?_)
 have hu:=hr.units;have hgd:=hr.gd
 refine Gk (Ag (Bl (i:=1) yQ.nd rfl (Or.inl rfl) (Bh d18 hr (Af (qv 0) (Af Aj Ae))))
  (Ag (Er (Af6 (qv 1) Aj) (Am (Be (Jb (Bh d18 hr (Af (qv 0) (Af Aj Ae))) Aj))) By)
  (Ag (Er (V7 hu (qv 1) Aj) (Am (Be (Ce (Kq:=K) rfl (Dr (Af (Jb (Rf Aj Aj) Aj) (Af (Jb Aj (Rf Aj Aj)) (Af Aj (Af Aj Ae))))) (Bh d18 hr (Af (qv 0) (Af Aj Ae))) Ga))) By)
  (Ag (Er (V7 hu (qv 1) Aj) (Am (Be Vm)) By)
  (Am (Be (Ce (Kq:=K) rfl (Dr (Rx (vs:=[.str "",.str "a",.str "b",.str "B",.str "10",.str "9",.str "-",.str "a b",.str "it's",.str "\\",.str "/",.str "_",.str ":",.str "None",.str "ab"]) rfl)) (Bh d18 hr (Af (qv 0) (Af Aj Ae))) Ga))))))) ?_
 exact Ca (Ar (Bj (Ao (Ab Aa (Ab (Ax rfl) Ah))) Ai)
  (Ar (Ez (Bu (An Aa (Ax rfl) Aw1)) (Bf (An (Ao (Ab Aa (Ab (Ax rfl) Ah))) (Ax rfl) Og)) Cd)
  (Ar (Ez (Bu (An Aa (Ax rfl) Hg)) (Bf (An (Dw (Ab (An (An (Ax rfl) (Ax rfl) Z6) (Ax rfl) Og) (Ab (An (Ax rfl) (An (Ax rfl) (Ax rfl) Z6) Og) (Ab (Ax rfl) (Ab (Ax rfl) Ah))))) (Ao (Ab Aa (Ab (Ax rfl) Ah))) Bp)) Cd)
  (Ar (Ez (Bu (An Aa (Ax rfl) Hg)) (Bf (Ax rfl)) Cd)
  (Bf (An (Dw (Br6 rfl)) (Ao (Ab Aa (Ab (Ax rfl) Ah))) Bp)))))) h
theorem A1d {f:Addr}{fd:u_}(F:Fun K "_law_pool" "_law_pool" Uv f fd) (d21:Def P w K mg base "_law_value" 2 ["_law_box_here"] (spP K Fe)) (zO:mg "range" = none):FnOk P w K mg base CX0 3 f fd ["_law_box_here", "_law_many_here"] (spP K G5):=by
 refine F.ok yK (fun vs H Q E h=>Bw h) (fun cdv A outer s H vs Q E hr h=>?_)
 have hu:=hr.units;have hgd:=hr.gd
 refine Gk (Ag (Bl (i:=2) yK.nd rfl (Or.inl rfl) (Dr Ae))
  (Ag (Jr dg rfl (Kz rfl zO (Af (qv 1) Ae)) (Bc (i:=3) yK.nd rfl (Or.inl rfl)) (Ag (Bl (i:=4) yK.nd rfl (Or.inl rfl) (Bh d21 hr (Af (qv 0) Ae)))
  (Am (Er (Lp hu (qv 4) (qv 2) (by with_unfolding_all rfl)) (Am (Jv (K9 (Kq:=K) rfl (qv 2) (qv 4)))) By))))
  (Am (Be (qv 2))))) ?_
 exact Ca (Ar (Bj (Dw Ah) Ai)
  (Ar (Ox (Qx Aa) Ai (Ar (Bj (Ao (Ab Aa Ah)) Ai)
  (Ez (Bu (An Aa Aa Kh)) (Mi (Aa0 Aa Aa)) Cd)))
  (Bf Aa))) h
theorem Ap6 {f:Addr}{fd:u_}(F:Fun K "_law_table" "_law_table" Sv f fd) (d18:Def P w K mg base "_law_take" 1 ["_law_box_here", "_law_many_here"] (spP K Av)) (d20:Def P w K mg base "_law_names" 2 ["_law_box_here", "_law_many_here"] (spP K Je)) (d22:Def P w K mg base "_law_pool" 3 ["_law_box_here", "_law_many_here"] (spP K G5)) (zF:mg "len" = none) (zO:mg "range" = none) (zA:mg "tuple" = none):FnOk P w K mg base CX0 4 f fd ["_law_box_here", "_law_many_here", "_law_rows"] (spP K Ml):=by
 refine F.ok zU (fun vs H Q E h=>Bw h) (fun cdv A outer s H vs Q E hr h=>?_)
 have hu:=hr.units;have hgd:=hr.gd
 refine Gk (Ag (Bl (i:=3) zU.nd rfl (Or.inl rfl) (Bh d20 hr (Af (qv 0) (Af (qv 1) Ae))))
  (Ag (by exact(Ms (i:=4) zU.nd rfl (Or.inl rfl) (N':=["_law_name", "_law_box_here"]) (idx:=[none,some 0]) (Ex rfl rfl (by decide +kernel) rfl rfl rfl) rfl (Ew (Kq:=K) rfl (qv 3)) (fun _ _ _ _ _=>by exact(Bc (i:=0) (by show (["_law_name", "_law_box_here"]:v4).Nodup;decide +kernel) rfl (Or.inl rfl))) (fun _ _ _ _ _=>by exact Dv) (fun _ _ _ _ _=>by exact(Bh d22 hr (Af (qv 1) (Af (Ce (Kq:=K) rfl (Dr (Rx (vs:=[.int 2,.int 3,.int 3,.int 5,.int 12]) rfl)) (Bh d18 hr (Af (qv 1) (Af Aj Ae))) Ga) Ae))))))
  (Ag (Bl (i:=5) zU.nd rfl (Or.inl rfl) (Dr Ae))
  (Ag (Jr dg rfl (Kz rfl zO (Af (qv 2) Ae)) (Bc (i:=6) zU.nd rfl (Or.inl rfl)) (Ag (Bl (i:=7) zU.nd rfl (Or.inl rfl) (Aq (Kq:=K) rfl rfl zA (Af (by exact(Jq (N':=["_law_pool_here", "_law_box_here"]) (idx:=[none,some 0]) (Ex rfl rfl (by decide +kernel) rfl rfl rfl) rfl (Ew (Kq:=K) rfl (qv 4)) (fun _ _ _ _ _=>by exact(Bc (i:=0) (by show (["_law_pool_here", "_law_box_here"]:v4).Nodup;decide +kernel) rfl (Or.inl rfl))) (fun _ _ _ _ _=>by exact Dv) (fun _ _ _ _ _=>by exact(Ce (Kq:=K) rfl (qv 0) (Bh d18 hr (Af (qv 1) (Af (Hh (Kq:=K) rfl rfl zF (Af (qv 0) Ae)) Ae))) Ga)))) Ae)))
  (Ag (Er (QW.qt (Bv3 (Ys hu (qv 5) (Dr Ae)) (Be6 (V7 hu (Bh d18 hr (Af (qv 0) (Af Aj Ae))) Aj)))) (Am (Bl (i:=7) zU.nd rfl (Or.inl rfl) (Ce (Kq:=K) rfl (qv 5) (Bh d18 hr (Af (qv 0) (Af (Hh (Kq:=K) rfl rfl zF (Af (qv 5) Ae)) Ae))) Ga))) By)
  (Am (Jv (K9 (Kq:=K) rfl (qv 5) (qv 7)))))))
  (Am (Be (Cm (Af (Aq (Kq:=K) rfl rfl zA (Af (qv 3) Ae)) (Af (Aq (Kq:=K) rfl rfl zA (Af (qv 5) Ae)) Ae))))))))) ?_
 exact Ca (Ar (Bj (Ao (Ab Aa (Ab Aa Ah))) Ai)
  (Ar (Bj (G6 (by decide) (Et Aa) Ai Fi (Ao (Ab Aa (Ab (An (Dw (Br6 rfl)) (Ao (Ab Aa (Ab (Ax rfl) Ah))) Bp) Ah)))) Ai)
  (Ar (Bj (Dw Ah) Ai)
  (Ar (Ox (Qx Aa) Ai (Ar (Bj (Ba (G6 (by decide) (Et Aa) Ai Fi (An Aa (Ao (Ab Aa (Ab (Hk Aa) Ah))) Bp)) Ci) Ai)
  (Ar (Ez (Bs4 (Bu (An Aa (Dw Ah) Rn)) (Bu (An (Ao (Ab Aa (Ab (Ax rfl) Ah))) (Ax rfl) Hg))) (Bj (An Aa (Ao (Ab Aa (Ab (Hk Aa) Ah))) Bp) Ai) Cd)
  (Mi (Aa0 Aa Aa)))))
  (Bf (Cq (Ab (Ba Aa Ci) (Ab (Ba Aa Ci) Ah)))))))) h
theorem Ws {f:Addr}{fd:u_}(F:Fun K "_law_any_table" "_law_any_table" J8 f fd) (d19:Def P w K mg base "_law_many" 2 ["_law_box_here", "_law_least", "_law_few", "_law_most"] (spP K Ho)) (d23:Def P w K mg base "_law_table" 4 ["_law_box_here", "_law_many_here", "_law_rows"] (spP K Ml)):FnOk P w K mg base CX0 5 f fd ["_law_box_here"] (spP K Ge):=by
 refine F.ok Vv (fun vs H Q E h=>Bw h) (fun cdv A outer s H vs Q E hr h=>?_)
 have hu:=hr.units;have hgd:=hr.gd
 refine Gk (Am (Be (Bh d23 hr (Af (qv 0) (Af (Bh d19 hr (Af (qv 0) (Af Aj (Af Aj (Af Aj Ae))))) (Af (Bh d19 hr (Af (qv 0) (Af Aj (Af Aj (Af Aj Ae))))) Ae)))))) ?_
 exact Ca (Bf (Ao (Ab Aa (Ab (Ao (Ab Aa (Ab (Ax rfl) (Ab (Ax rfl) (Ab (Ax rfl) Ah))))) (Ab (Ao (Ab Aa (Ab (Ax rfl) (Ab (Ax rfl) (Ab (Ax rfl) Ah))))) Ah))))) h
theorem Ai8 {f:Addr}{fd:u_}(F:Fun K "_law_parted" "_law_parted" O2 f fd) (d18:Def P w K mg base "_law_take" 1 ["_law_box_here", "_law_many_here"] (spP K Av)) (zN:mg "int" = none) (zF:mg "len" = none) (zM:mg "list" = none) (yV:mg "min" = none):FnOk P w K mg base CX0 2 f fd ["_law_box_here", "_law_columns"] (spP K Ib):=by
 refine F.ok zY (fun vs H Q E h=>Bw h) (fun cdv A outer s H vs Q E hr h=>?_)
 have hu:=hr.units;have hgd:=hr.gd
 refine Gk (Ag (Bl (i:=2) zY.nd rfl (Or.inr rfl) (Fp (Kq:=K) rfl rfl zM (Af (qv 1) Ae)))
  (Ag (by exact(Ms (i:=3) zY.nd rfl (Or.inl rfl) (N':=["_law_one", "_law_left", "_law_box_here"]) (idx:=[none,some 2,some 0]) (Ex rfl rfl (by decide +kernel) rfl rfl rfl) rfl (Ew (Kq:=K) rfl (qv 1)) (fun _ _ _ _ _=>by exact(Bc (i:=0) (by show (["_law_one", "_law_left", "_law_box_here"]:v4).Nodup;decide +kernel) rfl (Or.inl rfl))) (fun _ _ _ _ _=>by exact Dv) (fun _ _ _ _ _=>by exact(Am5 (Kq:=K) rfl iJ PySem.F.slot_list_pop PySem.F.type_list_pop Ah7 (qv 1) (Af (Bh d18 hr (Af (qv 2) (Af (Hh (Kq:=K) rfl rfl zF (Af (qv 1) Ae)) Ae))) Ae)))))
  (Ag (Bl (i:=4) zY.nd rfl (Or.inl rfl) (Fo Aj (Bh d18 hr (Af (qv 0) (Af (Zb (Kq:=K) rfl rfl rfl yV (Af (Ce (Kq:=K) rfl (Dr (Af Aj (Af Aj Ae))) (Iw (Kq:=K) rfl rfl zN (Af (Wc hu (Bh d18 hr (Af (qv 0) (Af Aj Ae))) Aj) Ae)) Ga) (Af (Hh (Kq:=K) rfl rfl zF (Af (qv 3) Ae)) Ae))) Ae)))))
  (Ag (Bl (i:=5) zY.nd rfl (Or.inl rfl) (Au3 (Kq:=K) rfl (qv 3) (T8 (qv 4)) T6))
  (Ag (Bl (i:=6) zY.nd rfl (Or.inl rfl) (Bh d18 hr (Af (qv 0) (Af (Fo (Hh (Kq:=K) rfl rfl zF (Af (qv 5) Ae)) Aj) Ae))))
  (Am (Be (Cm (Af (Au3 (Kq:=K) rfl (qv 5) T6 (T8 (qv 6))) (Af (Au3 (Kq:=K) rfl (qv 5) (T8 (qv 6)) T6) (Af (Au3 (Kq:=K) rfl (qv 3) T6 (T8 (qv 4))) Ae))))))))))) ?_
 exact Ca (Ar (Bj (Ba Aa Mr) Ai)
  (Ar (Bj (G6 (by decide) (Et Aa) Ai Fi (Ag7 Aa (Ao (Ab Aa (Ab (Hk Aa) Ah))))) Ai)
  (Ar (Bj (An (Ax rfl) (Ao (Ab Aa (Ab (Bb2 (An (Dw (Ab (Ax rfl) (Ab (Ax rfl) Ah))) (Ba (An (Ao (Ab Aa (Ab (Ax rfl) Ah))) (Ax rfl) Hg) Uq) Bp) (Hk Aa)) Ah))) Dy) Ai)
  (Ar (Bj (A0k Aa (Ue Aa) T5 Up) Ai)
  (Ar (Bj (Ao (Ab Aa (Ab (An (Hk Aa) (Ax rfl) Dy) Ah))) Ai)
  (Bf (Cq (Ab (A0k Aa T5 (Ue Aa) Up) (Ab (A0k Aa (Ue Aa) T5 Up) (Ab (A0k Aa T5 (Ue Aa) Up) Ah)))))))))) h
theorem Bl4 {f:Addr}{fd:u_}(F:Fun K "_law_in" "_law_in" Ao0 f fd) (zA:mg "tuple" = none):FnOk P w K mg base CX0 1 f fd ["_law_table_here", "_law_row", "_law_names_here"] (spP K Ei):=by
 refine F.ok Be8 (fun vs H Q E h=>Bw h) (fun cdv A outer s H vs Q E hr h=>?_)
 have hu:=hr.units;have hgd:=hr.gd
 refine Gk (Am (Be (Aq (Kq:=K) rfl rfl zA (Af (by exact(Jq (N':=["_law_name", "_law_row", "_law_table_here"]) (idx:=[none,some 1,some 0]) (Ex rfl rfl (by decide +kernel) rfl rfl rfl) rfl (Ew (Kq:=K) rfl (qv 2)) (fun _ _ _ _ _=>by exact(Bc (i:=0) (by show (["_law_name", "_law_row", "_law_table_here"]:v4).Nodup;decide +kernel) rfl (Or.inl rfl))) (fun _ _ _ _ _=>by exact Dv) (fun _ _ _ _ _=>by exact(Ce (Kq:=K) rfl (qv 1) (Am5 (Kq:=K) rfl PySem.F.plainAttrs_tuple PySem.F.slot_tuple_index PySem.F.type_tuple_index (U9 rfl) (Ce (Kq:=K) rfl (qv 2) Aj Bq) (Af (qv 0) Ae)) Ga)))) Ae)))) ?_
 exact Ca (Bf (Ba (G6 (by decide) (Et Aa) Ai Fi (An Aa (A6q (An Aa (Ax rfl) Bp) Aa A5k Xr) Bp)) Ci)) h
theorem Nr {f:Addr}{fd:u_}(F:Fun K "_law_without_doubles" "_law_without_doubles" Gr f fd) (d26:Def P w K mg base "_law_in" 1 ["_law_table_here", "_law_row", "_law_names_here"] (spP K Ei)) (zA:mg "tuple" = none):FnOk P w K mg base CX0 2 f fd ["_law_table_here", "_law_names_here"] (spP K Dk):=by
 refine F.ok zQ (fun vs H Q E h=>Bw h) (fun cdv A outer s H vs Q E hr h=>?_)
 have hu:=hr.units;have hgd:=hr.gd
 refine Gk (Ag (Bl (i:=2) zQ.nd rfl (Or.inl rfl) (Dr Ae))
  (Ag (Bl (i:=3) zQ.nd rfl (Or.inl rfl) (Dr Ae))
  (Ag (Jr dg rfl (Ew (Kq:=K) rfl (Ce (Kq:=K) rfl (qv 0) Aj Bq)) (Bc (i:=4) zQ.nd rfl (Or.inl rfl)) (Am (Er (Lp hu (Bh d26 hr (Af (qv 0) (Af (qv 4) (Af (qv 1) Ae)))) (qv 2) (by with_unfolding_all rfl)) (Ag (Jv (K9 (Kq:=K) rfl (qv 2) (Bh d26 hr (Af (qv 0) (Af (qv 4) (Af (qv 1) Ae))))))
  (Am (Jv (K9 (Kq:=K) rfl (qv 3) (qv 4))))) By)))
  (Am (Be (Cm (Af (Ce (Kq:=K) rfl (qv 0) Aj Bq) (Af (Aq (Kq:=K) rfl rfl zA (Af (qv 3) Ae)) Ae)))))))) ?_
 exact Ca (Ar (Bj (Dw Ah) Ai)
  (Ar (Bj (Dw Ah) Ai)
  (Ar (Ox (Et (An Aa (Ax rfl) Bp)) Ai (Ez (Bu (An (Ao (Ab Aa (Ab Aa (Ab Aa Ah)))) Aa Kh)) (Ar (Mi (Aa0 Aa (Ao (Ab Aa (Ab Aa (Ab Aa Ah))))))
  (Mi (Aa0 Aa Aa))) Cd))
  (Bf (Cq (Ab (An Aa (Ax rfl) Bp) (Ab (Ba Aa Ci) Ah))))))) h
theorem A2u {f:Addr}{fd:u_}(F:Fun K "_law_rank" "_law_rank" Vk f fd) (zB:mg "isinstance" = none) (zJ:mg "str" = none):FnOk P w K mg base CX0 1 f fd ["_law_value_here"] (spP K Gi):=by
 refine F.ok A0y (fun vs H Q E h=>Bw h) (fun cdv A outer s H vs Q E hr h=>?_)
 have hu:=hr.units;have hgd:=hr.gd
 refine Gk (Ag (Er (Sq (qv 0) Vm) (Am (Be (Cm (Af Aj (Af Aj (Af Fg Ae)))))) By)
  (Ag (Er (Mj (Cg (Kq:=K) rfl rfl zB (Af (qv 0) (Af (Eo (v:=.ty "str") rfl zJ Ra rfl) Ae)))) (Am (Be (Cm (Af Aj (Af Aj (Af (qv 0) Ae)))))) By)
  (Am (Be (Cm (Af Aj (Af (qv 0) (Af Fg Ae)))))))) ?_
 exact Ca (Ar (Ez (Bu (An Aa (Ax rfl) Ac6)) (Bf (Cq (Ab (Ax rfl) (Ab (Ax rfl) (Ab (Ax rfl) Ah))))) Cd)
  (Ar (Ez (Zg (Hi .str Aa)) (Bf (Cq (Ab (Ax rfl) (Ab (Ax rfl) (Ab Aa Ah))))) Cd)
  (Bf (Cq (Ab (Ax rfl) (Ab Aa (Ab (Ax rfl) Ah))))))) h
theorem Ar5 {f:Addr}{fd:u_}(F:Fun K "_law_ranks" "_law_ranks" Su f fd) (d28:Def P w K mg base "_law_rank" 1 ["_law_value_here"] (spP K Gi)):FnOk P w K mg base CX0 2 f fd ["_law_values"] (spP K Cz):=by
 refine F.ok Ao1 (fun vs H Q E h=>Bw h) (fun cdv A outer s H vs Q E hr h=>?_)
 have hu:=hr.units;have hgd:=hr.gd
 refine Gk (Am (Be (by exact(Jq (N':=["_law_value_here"]) (idx:=[none]) (Ex rfl rfl (by decide +kernel) rfl rfl rfl) rfl (Ew (Kq:=K) rfl (qv 0)) (fun _ _ _ _ _=>by exact(Bc (i:=0) (by show (["_law_value_here"]:v4).Nodup;decide +kernel) rfl (Or.inl rfl))) (fun _ _ _ _ _=>by exact Dv) (fun _ _ _ _ _=>by exact(Bh d28 hr (Af (qv 0) Ae))))))) ?_
 exact Ca (Bf (G6 (by decide) (Et Aa) Ai Fi (Ao (Ab Aa Ah)))) h
theorem A2e {n:Nat}{f:Addr}{fd:u_}(F:Fun K "_law_same" "_law_same" Qe f fd) (d30:Def P w K mg base "_law_same" (n) ["_law_found", "_law_due"] (spP K (Cu n))) (yG:mg "all" = none) (yE:mg "bool" = none) (zN:mg "int" = none) (zB:mg "isinstance" = none) (zF:mg "len" = none) (zM:mg "list" = none) (zJ:mg "str" = none) (zA:mg "tuple" = none) (yH:mg "zip" = none):FnOk P w K mg base CX0 (n+1) f fd ["_law_found", "_law_due"] (spP K (Cu (n+1))):=by
 refine F.ok A1x (fun vs H Q E h=>Bw h) (fun cdv A outer s H vs Q E hr h=>?_)
 have hu:=hr.units;have hgd:=hr.gd
 refine Gk (Ag (Er (Mj (Y4 (Kq:=K) rfl rfl zB (Af (qv 1) (Af (Cm (Af (Eo (v:=.ty "list") rfl zM Ur rfl) (Af (Eo (v:=.ty "tuple") rfl zA Ko rfl) Ae))) Ae)))) (Ag (Er (QW.qt (Ax7 (Ys hu (Cg (Kq:=K) rfl rfl zB (Af (qv 0) (Af (Eo (v:=.ty "list") rfl zM Ur rfl) Ae))) (Cg (Kq:=K) rfl rfl zB (Af (qv 1) (Af (Eo (v:=.ty "list") rfl zM Ur rfl) Ae)))) (Y8 (Ys hu (Cg (Kq:=K) rfl rfl zB (Af (qv 0) (Af (Eo (v:=.ty "tuple") rfl zA Ko rfl) Ae))) (Cg (Kq:=K) rfl rfl zB (Af (qv 1) (Af (Eo (v:=.ty "tuple") rfl zA Ko rfl) Ae))))))) (Am (Be Xw)) By)
  (Am (Be (Vi (Wc hu (Hh (Kq:=K) rfl rfl zF (Af (qv 0) Ae)) (Hh (Kq:=K) rfl rfl zF (Af (qv 1) Ae))) (Zj (Qn (Kq:=K) rfl rfl rfl yG (Af (by exact(Jq (N':=["_law_one", "_law_other"]) (idx:=[none,none]) (Ex rfl rfl (by decide +kernel) rfl rfl rfl) rfl (Bu8 rfl yH (Af (qv 0) (Af (qv 1) Ae))) (fun _ _ _ _ _=>by exact(M5 (Kq:=K) rfl (n:=2) rfl (Dh (Bc (i:=0) (by show (["_law_one", "_law_other"]:v4).Nodup;decide +kernel) rfl (Or.inl rfl)) (Dh (Bc (i:=1) (by show (["_law_one", "_law_other"]:v4).Nodup;decide +kernel) rfl (Or.inl rfl)) Jy)))) (fun _ _ _ _ _=>by exact Dv) (fun _ _ _ _ _=>by exact(Bh d30 hr (Af (qv 0) (Af (qv 1) Ae)))))) Ae))))))) By)
  (Ag (Er (QW.qt (Ax7 (Sq (qv 1) Vm) (Y8 (Mj (Cg (Kq:=K) rfl rfl zB (Af (qv 1) (Af (Eo (v:=.ty "str") rfl zJ Ra rfl) Ae))))))) (Am (Be (Vi (Wc hu (qv 0) (qv 1)) (Zj (Wc hu (Cg (Kq:=K) rfl rfl zB (Af (qv 0) (Af (Eo (v:=.ty "str") rfl zJ Ra rfl) Ae))) (Cg (Kq:=K) rfl rfl zB (Af (qv 1) (Af (Eo (v:=.ty "str") rfl zJ Ra rfl) Ae)))))))) By)
  (Ag (Er (Mj (Cg (Kq:=K) rfl rfl zB (Af (qv 1) (Af (Eo (v:=.ty "bool") rfl yE Z8 rfl) Ae)))) (Am (Be (Vi (Cg (Kq:=K) rfl rfl zB (Af (qv 0) (Af (Eo (v:=.ty "bool") rfl yE Z8 rfl) Ae))) (Zj (Wc hu (qv 0) (qv 1)))))) By)
  (Am (Be (Vi (Cg (Kq:=K) rfl rfl zB (Af (qv 0) (Af (Eo (v:=.ty "int") rfl zN Ap1 rfl) Ae))) (Vi (Bo6 (Cg (Kq:=K) rfl rfl zB (Af (qv 0) (Af (Eo (v:=.ty "bool") rfl yE Z8 rfl) Ae)))) (Zj (Wc hu (qv 0) (qv 1)))))))))) ?_
 exact Ca (Ar (Ez (Zg (Bb4 .list .tuple Aa)) (Ar (Ez (Aw6 (Bu (An (Hi .list Aa) (Hi .list Aa) Rn)) (Bu (An (Hi .tuple Aa) (Hi .tuple Aa) Rn))) (Bf (Ax rfl)) Cd)
  (Bf (Qj (An (Hk Aa) (Hk Aa) Hg) (Ba (G6 (by decide) (Br5 Aa Aa) (Mx (Dg Ai (Dg Ai J6))) Fi (Ao (Ab Aa (Ab Aa Ah)))) Av8)))) Cd)
  (Ar (Ez (Aw6 (Bu (An Aa (Ax rfl) Ac6)) (Zg (Hi .str Aa))) (Bf (Qj (An Aa Aa Hg) (An (Hi .str Aa) (Hi .str Aa) Hg))) Cd)
  (Ar (Ez (Zg (Hi .bool Aa)) (Bf (Qj (Hi .bool Aa) (An Aa Aa Hg))) Cd)
  (Bf (Qj (Hi .int Aa) (Qj (Bi9 (Hi .bool Aa)) (An Aa Aa Hg))))))) h
theorem Wn {f:Addr}{fd:u_}(F:Fun K "_law_same" "_law_same" Qe f fd) (bF:Binds K fd ["_law_found", "_law_due"] []) (mF:mg "_law_same" = some (.ref f)) (yG:mg "all" = none) (yE:mg "bool" = none) (zN:mg "int" = none) (zB:mg "isinstance" = none) (zF:mg "len" = none) (zM:mg "list" = none) (zJ:mg "str" = none) (zA:mg "tuple" = none) (yH:mg "zip" = none):∀n:Nat,FnOk P w K mg base CX0 (n) f fd ["_law_found", "_law_due"] (spP K (Cu n))
 | 0=>A4o
 | n+1=>A2e F ⟨f,fd,Wn F bF mF yG yE zN zB zF zM zJ zA yH n,bF,F.kp,mF⟩ yG yE zN zB zF zM zJ zA yH
theorem Ag1 {f:Addr}{fd:u_}(F:Fun K "_law_folded" "_law_folded" Pa f fd) (d26:Def P w K mg base "_law_in" 1 ["_law_table_here", "_law_row", "_law_names_here"] (spP K Ei)) (d29:Def P w K mg base "_law_ranks" 2 ["_law_values"] (spP K Cz)) (zN:mg "int" = none) (yD:mg "sorted" = none) (zA:mg "tuple" = none):FnOk P w K mg base CX0 5 f fd ["_law_table_here", "_law_stem", "_law_names_here", "_law_values", "_law_order"] (spP K Fd):=by
 obtain⟨f_l_ranks,fd_l_ranks,G_l_ranks,b_l_ranks,kp_l_ranks,m_l_ranks⟩:=d29
 refine F.ok zK (fun vs H Q E h=>Bw h) (fun cdv A outer s H vs Q E hr h=>?_)
 have hu:=hr.units;have hgd:=hr.gd
 refine Gk (Ag (Ac8 (Cm (Af (Dr Ae) (Af (Dr Ae) Ae))) (M5 (Kq:=K) rfl (n:=2) rfl (Dh (Bc (i:=5) zK.nd rfl (Or.inl rfl)) (Dh (Bc (i:=6) zK.nd rfl (Or.inr rfl)) Jy))))
  (Ag (Bl (i:=7) zK.nd rfl (Or.inr rfl) Ql) (Zw (d:=7) (Jr dg rfl (Ew (Kq:=K) rfl (Ce (Kq:=K) rfl (qv 0) Aj Bq)) (Bc (i:=8) zK.nd rfl (Or.inl rfl)) (Ag (Bx1 (i:=9) (j:=10) rfl zK.nd rfl rfl (by decide) rfl rfl (Af (Bh d26 hr (Af (qv 0) (Af (qv 8) (Af (qv 1) Ae)))) (Af (Bh d26 hr (Af (qv 0) (Af (qv 8) (Af (qv 2) Ae)))) Ae)) rfl)
  (Ag (Bl (i:=5) zK.nd rfl (Or.inl rfl) (Fo (qv 5) (Xu (Dr (Af (qv 9) Ae)) (Iw (Kq:=K) rfl rfl zN (Af (Qd hu (qv 9) (qv 5) (by with_unfolding_all rfl)) Ae)))))
  (Ag (Bl (i:=6) zK.nd rfl (Or.inr rfl) (Fo (qv 6) (Xu (Dr (Af (qv 10) Ae)) (Iw (Kq:=K) rfl rfl zN (Af (Qd hu (qv 10) (qv 6) (by with_unfolding_all rfl)) Ae)))))
  (Am (Aa6 hu (qv 7) (Cm (Af (qv 9) (Af (qv 10) Ae))) (Bh d26 hr (Af (qv 0) (Af (qv 8) (Af (qv 3) Ae))))))))))
  (Ag (Er (V7 hu (qv 4) Fg) (Am (Bl (i:=6) zK.nd rfl (Or.inr rfl) (Al6 (Kq:=K) rfl G_l_ranks (hr.mono (by omega)) b_l_ranks rfl yD (Af (qv 6) Ae) (Ax0 (Ab2 (v:=.ref f_l_ranks) rfl m_l_ranks rfl) A5t)))) By)
  (Ag (by exact(Ms (i:=11) zK.nd rfl (Or.inl rfl) (N':=["_law_part", "_law_heads", "_law_cells"]) (idx:=[none,some 6,some 7]) (Ex rfl rfl (by decide +kernel) rfl rfl rfl) rfl (Ew (Kq:=K) rfl (qv 5)) (fun _ _ _ _ _=>by exact(Bc (i:=0) (by show (["_law_part", "_law_heads", "_law_cells"]:v4).Nodup;decide +kernel) rfl (Or.inr rfl))) (fun _ _ _ _ _=>by exact Dv) (fun _ _ _ _ _=>by exact(Cm (Af (qv 0) (Af (Aq (Kq:=K) rfl rfl zA (Af (by exact(Jq (N':=["_law_head", "_law_cells", "_law_part"]) (idx:=[none,some 2,some 0]) (Ex rfl rfl (by decide +kernel) rfl rfl rfl) rfl (Ew (Kq:=K) rfl (qv 1)) (fun _ _ _ _ _=>by exact(Bc (i:=0) (by show (["_law_head", "_law_cells", "_law_part"]:v4).Nodup;decide +kernel) rfl (Or.inl rfl))) (fun _ _ _ _ _=>by exact Dv) (fun _ _ _ _ _=>by exact(A5x hu (qv 1) (Cm (Af (qv 2) (Af (qv 0) Ae))) ⟨rfl,rfl,rfl,rfl⟩)))) Ae)) Ae))))))
  (Am (Be (Cm (Af (Aq (Kq:=K) rfl rfl zA (Af (qv 1) Ae)) (Af (Aq (Kq:=K) rfl rfl zA (Af (qv 2) Ae)) (Af (Aq (Kq:=K) rfl rfl zA (Af (qv 3) Ae)) (Af (Aq (Kq:=K) rfl rfl zA (Af (qv 6) Ae)) (Af (Aq (Kq:=K) rfl rfl zA (Af (qv 11) Ae)) Ae))))))))))))) ?_
 exact Ca (Ar (Bj (Cq (Ab (Dw Ah) (Ab (Dw Ah) Ah))) (Mx (Dg Ai (Dg Ai J6))))
  (Qw (Zn (Et (An Aa (Ax rfl) Bp)) Ai (Hd (by decide)) (Ad4 (Bt4 (Ab (Ao (Ab Aa (Ab Aa (Ab Aa Ah)))) (Ab (Ao (Ab Aa (Ab Aa (Ab Aa Ah)))) Ah)) (by decide) (by decide))
  (Ad4 (As9 (An Aa (An (Dw (Ab Aa Ah)) (Ba (An Aa Aa Kh) Uq) Ae9) Dy) Ai (Hd (by decide)))
  (Ad4 (As9 (An Aa (An (Dw (Ab Aa Ah)) (Ba (An Aa Aa Kh) Uq) Ae9) Dy) Ai (Hd (by decide)))
  (As6 (Cq (Ab Aa (Ab Aa Ah))) (As4 (Ao (Ab Aa (Ab Aa (Ab Aa Ah))))))))))
  (Ar (Ez (Bu (An Aa (Ax rfl) Hg)) (Bj (A8s Aa) Ai) Cd)
  (Ar (Bj (G6 (by decide) (Bq0 (Et Aa)) Ai Fi (Cq (Ab Aa (Ab (Ba (G6 (by decide) (Et Aa) Ai Fi (Ag8 Aa (Cq (Ab Aa (Ab Aa Ah))) (Ax rfl))) Ci) Ah)))) Ai)
  (Bf (Cq (Ab (Ba Aa Ci) (Ab (Ba Aa Ci) (Ab (Ba Aa Ci) (Ab (Ba Aa Ci) (Ab (Ba Aa Ci) Ah))))))))))) h
theorem At4 {f:Addr}{fd:u_}(F:Fun K "_law_sixty" "_law_sixty" Rz f fd) (d18:Def P w K mg base "_law_take" 1 ["_law_box_here", "_law_many_here"] (spP K Av)) (zO:mg "range" = none) (zJ:mg "str" = none) (zA:mg "tuple" = none):FnOk P w K mg base CX0 2 f fd ["_law_box_here"] (spP K Jj):=by
 refine F.ok yR (fun vs H Q E h=>Bw h) (fun cdv A outer s H vs Q E hr h=>?_)
 have hu:=hr.units;have hgd:=hr.gd
 refine Gk (Ag (Bl (i:=1) yR.nd rfl (Or.inr rfl) (Fo Aj (Bh d18 hr (Af (qv 0) (Af Aj Ae)))))
  (Am (Be (Cm (Af (Cm (Af Fg (Af Fg (Af Fg Ae)))) (Af (Aq (Kq:=K) rfl rfl zA (Af (by exact(Jq (N':=["_law_number", "_law_more"]) (idx:=[none,some 1]) (Ex rfl rfl (by decide +kernel) rfl rfl rfl) rfl (Kz rfl zO (Af Aj Ae)) (fun _ _ _ _ _=>by exact(Bc (i:=0) (by show (["_law_number", "_law_more"]:v4).Nodup;decide +kernel) rfl (Or.inl rfl))) (fun _ _ _ _ _=>by exact Dv) (fun _ _ _ _ _=>by exact(Cm (Af (Jb (qv 0) Aj) (Af (An6 (Kq:=K) rfl hu hgd rfl zJ (Af (Hb (Ha (qv 0) Aj) Aj) Ae)) (Af (Ha (qv 0) (qv 1)) Ae))))))) Ae)) Ae)))))) ?_
 exact Ca (Ar (Bj (An (Ax rfl) (Ao (Ab Aa (Ab (Ax rfl) Ah))) Dy) Ai)
  (Bf (Cq (Ab (Cq (Ab (Ax rfl) (Ab (Ax rfl) (Ab (Ax rfl) Ah)))) (Ab (Ba (G6 (by decide) (Qx (Ax rfl)) Ai Fi (Cq (Ab (An Aa (Ax rfl) Og) (Ab (Ba (An (An Aa (Ax rfl) Hw) (Ax rfl) J1) Zy) (Ab (An Aa Aa Hw) Ah))))) Ci) Ah))))) h
theorem Bq8 {f:Addr}{fd:u_}(F:Fun K "law" "law" A4d f fd) (d15:Def P w K mg base "folded" 7 ["table", "key", "names", "values", "order"] (spP K Ft)) (d17:Def P w K mg base "_law_box" 2 ["_law_script", "_law_k"] (spP K Jk)) (d18:Def P w K mg base "_law_take" 1 ["_law_box_here", "_law_many_here"] (spP K Av)) (d24:Def P w K mg base "_law_any_table" 5 ["_law_box_here"] (spP K Ge)) (d25:Def P w K mg base "_law_parted" 2 ["_law_box_here", "_law_columns"] (spP K Ib)) (d27:Def P w K mg base "_law_without_doubles" 2 ["_law_table_here", "_law_names_here"] (spP K Dk)) (d30:Def P w K mg base "_law_same" 8 ["_law_found", "_law_due"] (spP K (Cu 8))) (d31:Def P w K mg base "_law_folded" 5 ["_law_table_here", "_law_stem", "_law_names_here", "_law_values", "_law_order"] (spP K Fd)) (d32:Def P w K mg base "_law_sixty" 2 ["_law_box_here"] (spP K Jj)) (zM:mg "list" = none) (zO:mg "range" = none) (zJ:mg "str" = none) (zA:mg "tuple" = none):FnOk P w K mg base CX0 9 f fd ["_law_script"] (spP K At2):=by
 refine F.ok zL (fun vs H Q E h=>Bw h) (fun cdv A outer s H vs Q E hr h=>?_)
 have hu:=hr.units;have hgd:=hr.gd
 refine Gk (Ag (Jr dg rfl (Kz rfl zO (Af Aj Ae)) (Bc (i:=1) zL.nd rfl (Or.inl rfl)) (Ag (Bl (i:=2) zL.nd rfl (Or.inr rfl) (Bh d17 hr (Af (qv 0) (Af (qv 1) Ae))))
  (Ag (Bl (i:=3) zL.nd rfl (Or.inl rfl) (Bh d24 hr (Af (qv 2) Ae)))
  (Ag (Ac8 (Bh d25 hr (Af (qv 2) (Af (Ce (Kq:=K) rfl (qv 3) Aj Bq) Ae))) (M5 (Kq:=K) rfl (n:=3) rfl (Dh (Bc (i:=4) zL.nd rfl (Or.inl rfl)) (Dh (Bc (i:=5) zL.nd rfl (Or.inl rfl)) (Dh (Bc (i:=6) zL.nd rfl (Or.inl rfl)) Jy)))))
  (Ag (Bl (i:=3) zL.nd rfl (Or.inl rfl) (Bh d27 hr (Af (qv 3) (Af (Fo (qv 4) (qv 5)) Ae))))
  (Ag (Bl (i:=7) zL.nd rfl (Or.inl rfl) (An6 (Kq:=K) rfl hu hgd rfl zJ (Af (qv 3) Ae)))
  (Am (Jr dg rfl (Ew (Kq:=K) rfl (Cm (Af Fg (Af Fg Ae)))) (Bc (i:=8) zL.nd rfl (Or.inl rfl)) (Ag (Bl (i:=9) zL.nd rfl (Or.inl rfl) (Bh d31 hr (Af (qv 3) (Af (qv 4) (Af (qv 5) (Af (qv 6) (Af (qv 8) Ae)))))))
  (Ag (Bl (i:=10) zL.nd rfl (Or.inl rfl) (Bh d15 hr (Af (qv 3) (Af (qv 4) (Af (qv 5) (Af (qv 6) (Af (qv 8) Ae)))))))
  (Ag (Er (Ao8 (Mj (Bh d30 hr (Af (qv 10) (Af (qv 9) Ae))))) (Am (Be Xw)) By)
  (Ag (by exact(Ms (i:=11) zL.nd rfl (Or.inl rfl) (N':=["_law_some", "_law_box_here"]) (idx:=[none,some 2]) (Ex rfl rfl (by decide +kernel) rfl rfl rfl) rfl (Ew (Kq:=K) rfl (Cm (Af (qv 4) (Af (qv 5) (Af (qv 6) Ae))))) (fun _ _ _ _ _=>by exact(Bc (i:=0) (by show (["_law_some", "_law_box_here"]:v4).Nodup;decide +kernel) rfl (Or.inl rfl))) (fun _ _ _ _ _=>by exact Dv) (fun _ _ _ _ _=>by exact(Ce (Kq:=K) rfl (Dr (Af (Fp (Kq:=K) rfl rfl zM (Af (qv 0) Ae)) (Af (Aq (Kq:=K) rfl rfl zA (Af (qv 0) Ae)) Ae))) (Bh d18 hr (Af (qv 1) (Af Aj Ae))) Ga))))
  (Ag (Bl (i:=12) zL.nd rfl (Or.inl rfl) (Bh d15 hr (Af (qv 3) (Af (Ce (Kq:=K) rfl (qv 11) Aj Bq) (Af (Ce (Kq:=K) rfl (qv 11) Aj Bq) (Af (Ce (Kq:=K) rfl (qv 11) Aj Bq) (Af (qv 8) Ae)))))))
  (Am (Er (QW.qt (Ax7 (Ys hu (qv 12) (qv 9)) (Y8 (Ys hu (An6 (Kq:=K) rfl hu hgd rfl zJ (Af (qv 3) Ae)) (qv 7))))) (Am (Be Xw)) By)))))))))))))))
  (Ag (Bl (i:=3) zL.nd rfl (Or.inl rfl) (Bh d32 hr (Af (Bh d17 hr (Af (qv 0) (Af Aj Ae))) Ae)))
  (Ag (Jr dg rfl (Ew (Kq:=K) rfl (Cm (Af (Cm (Af (Dr (Af Fg Ae)) (Af (Dr (Af Fg Ae)) Ae))) (Af (Cm (Af (Dr Ae) (Af (Dr (Af Fg (Af Fg Ae))) Ae))) (Af (Cm (Af (Dr (Af Fg (Af Fg Ae))) (Af (Dr Ae) Ae))) Ae))))) (M5 (Kq:=K) rfl (n:=2) rfl (Dh (Bc (i:=4) zL.nd rfl (Or.inl rfl)) (Dh (Bc (i:=5) zL.nd rfl (Or.inl rfl)) Jy))) (Am (Jr dg rfl (Ew (Kq:=K) rfl (Cm (Af Fg (Af Fg Ae)))) (Bc (i:=8) zL.nd rfl (Or.inl rfl)) (Ag (Bl (i:=9) zL.nd rfl (Or.inl rfl) (Bh d31 hr (Af (qv 3) (Af (qv 4) (Af (qv 5) (Af (Dr (Af Fg Ae)) (Af (qv 8) Ae)))))))
  (Am (Er (Ao8 (Mj (Bh d30 hr (Af (Bh d15 hr (Af (qv 3) (Af (qv 4) (Af (qv 5) (Af (Dr (Af Fg Ae)) (Af (qv 8) Ae)))))) (Af (qv 9) Ae))))) (Am (Be Xw)) By))))))
  (Am (Be Xw))))) ?_
 exact Ca (Ar (Ox (Qx (Ax rfl)) Ai (Ar (Bj (Ao (Ab Aa (Ab Aa Ah))) Ai)
  (Ar (Bj (Ao (Ab Aa Ah)) Ai)
  (Ar (Bj (Ao (Ab Aa (Ab (An Aa (Ax rfl) Bp) Ah))) (Mx (Dg Ai (Dg Ai (Dg Ai J6)))))
  (Ar (Bj (Ao (Ab Aa (Ab (An Aa Aa Dy) Ah))) Ai)
  (Ar (Bj (Ba Aa Zy) Ai)
  (Ox (Et (Cq (Ab (Ax rfl) (Ab (Ax rfl) Ah)))) Ai (Ar (Bj (Ao (Ab Aa (Ab Aa (Ab Aa (Ab Aa (Ab Aa Ah)))))) Ai)
  (Ar (Bj (Ao (Ab Aa (Ab Aa (Ab Aa (Ab Aa (Ab Aa Ah)))))) Ai)
  (Ar (Ez (An8 (Zg (Ao (Ab Aa (Ab Aa Ah))))) (Bf (Ax rfl)) Cd)
  (Ar (Bj (G6 (by decide) (Et (Cq (Ab Aa (Ab Aa (Ab Aa Ah))))) Ai Fi (An (Dw (Ab (Ba Aa Mr) (Ab (Ba Aa Ci) Ah))) (Ao (Ab Aa (Ab (Ax rfl) Ah))) Bp)) Ai)
  (Ar (Bj (Ao (Ab Aa (Ab (An Aa (Ax rfl) Bp) (Ab (An Aa (Ax rfl) Bp) (Ab (An Aa (Ax rfl) Bp) (Ab Aa Ah)))))) Ai)
  (Ez (Aw6 (Bu (An Aa Aa Rn)) (Bu (An (Ba Aa Zy) Aa Rn))) (Bf (Ax rfl)) Cd)))))))))))))
  (Ar (Bj (A9k (Ao (Ab Aa (Ab (Ax rfl) Ah))) Ah) Ai)
  (Ar (Ox (Et (Cq (Ab (Cq (Ab (Dw (Ab (Ax rfl) Ah)) (Ab (Dw (Ab (Ax rfl) Ah)) Ah))) (Ab (Cq (Ab (Dw Ah) (Ab (Dw (Ab (Ax rfl) (Ab (Ax rfl) Ah))) Ah))) (Ab (Cq (Ab (Dw (Ab (Ax rfl) (Ab (Ax rfl) Ah))) (Ab (Dw Ah) Ah))) Ah))))) (Mx (Dg Ai (Dg Ai J6))) (Ox (Et (Cq (Ab (Ax rfl) (Ab (Ax rfl) Ah)))) Ai (Ar (Bj (Ao (Ab Aa (Ab Aa (Ab Aa (Ab (Dw (Ab (Ax rfl) Ah)) (Ab Aa Ah)))))) Ai)
  (Ez (An8 (Zg (Ao (Ab (Ao (Ab Aa (Ab Aa (Ab Aa (Ab (Dw (Ab (Ax rfl) Ah)) (Ab Aa Ah)))))) (Ab Aa Ah))))) (Bf (Ax rfl)) Cd))))
  (Bf (Ax rfl))))) h
end
theorem lnS {n:Nat}{us:w6}(h:us.length=n+1):∃x r,us=x::r/\r.length=n:=by
 cases us with
 | nil=>cases h
 | cons x r=>exact⟨x,r,rfl,gA h⟩
theorem ln1 {us:w6}(h:us.length=1):∃x0,us=[x0]:=by
 obtain⟨x,r,rfl,h2⟩:=lnS h
 cases r with
 | nil=>exact⟨x,rfl⟩
 | cons y r=>cases h2
theorem ln2 {us:w6}(h:us.length=2):∃x0 x1,us=[x0,x1]:=by
 obtain⟨x0,r,rfl,h2⟩:=lnS h;obtain⟨x1,rfl⟩:=ln1 h2;exact⟨x0,x1,rfl⟩
theorem ln3 {us:w6}(h:us.length=3):∃x0 x1 x2,us=[x0,x1,x2]:=by
 obtain⟨x0,r,rfl,h2⟩:=lnS h;obtain⟨x1,x2,rfl⟩:=ln2 h2;exact⟨x0,x1,x2,rfl⟩
theorem ln4 {us:w6}(h:us.length=4):∃x0 x1 x2 x3,us=[x0,x1,x2,x3]:=by
 obtain⟨x0,r,rfl,h2⟩:=lnS h;obtain⟨x1,x2,x3,rfl⟩:=ln3 h2;exact⟨x0,x1,x2,x3,rfl⟩
theorem ln5 {us:w6}(h:us.length=5):∃x0 x1 x2 x3 x4,us=[x0,x1,x2,x3,x4]:=by
 obtain⟨x0,r,rfl,h2⟩:=lnS h;obtain⟨x1,x2,x3,x4,rfl⟩:=ln4 h2;exact⟨x0,x1,x2,x3,x4,rfl⟩
theorem mkD {P:t6}{w:World}{K:v_}{mg:x_}{base:Heap}{k:Nat}{f:Addr}{fd:u_}{x:Str}{ps:v4}{sp:Sp}(a:FnOk P w K mg base CX0 k f fd ps sp)(b:Binds K fd ps [])(c:PySem.W.keepIn K (.ref f)=true)(g:mg x=some (.ref f)):Def P w K mg base x k ps sp:=⟨f,fd,a,b,c,g⟩
theorem Bv {K:v_}{q:t6}{loose:v4}{mean:ExcName->t_}{mg mb:x_}{h:Heap}(T:PyProof.Rows.Top q loose mean mg mb h)(hK:∀a o,h.get? a=some o->Hj o=true->o.data≠.fields #[]->K.lookup a=some o){L:List (Str×Arguments×List Stmt×Scope)}(hR:(PyProof.Rows.recsOf q).map (fun d=>(d.name,d.params,d.body,d.scope))=L){i:Nat}{x:Str}{st:Stmt}(e:L[i]?=some (x,Lw st,J0 st,Aw st)):∃f fd,Fun K x x st f fd/\mg x=some (.ref f):=by
 obtain⟨d,m,rfl,a,b,c⟩:=A8o hR e;exact Bf3 T hK m a b c
abbrev rr (x:Str)(i:Nat):Str×Arguments×List Stmt×Scope:=(x,Lw (top i),J0 (top i),Aw (top i))
theorem By2 {l:PySem.W.OpenLaw}{w:World}{q:t6}{loose:v4}{mean:ExcName->t_}{mg mb:x_}{h:Heap}{fa:Addr}(T:PyProof.Rows.Top q loose mean mg mb h)(hfa:mg "law" = some (.ref fa))
 (hlaw:∀ns:List Int,ns.length<=63->At2 [.sc ns]=.ret (.im (.bool true)) [.sc ns])
 (hR:(PyProof.Rows.recsOf q).map (fun d=>(d.name,d.params,d.body,d.scope))=[rr "rank" 7,rr "risen" 8,rr "place_of" 10,rr "places_of" 11,rr "values_at" 12,rr "check_all_columns" 15,rr "check_order" 16,rr "rows_by_place" 17,rr "first_seen" 18,rr "parts_seen" 19,rr "heads_seen" 20,rr "laid_row" 21,rr "laid_out" 22,rr "rows_laid_out" 23,rr "check_doubles" 24,rr "folded" 25,rr "_law_cell_at" 27,rr "_law_box" 28,rr "_law_take" 29,rr "_law_many" 30,rr "_law_names" 31,rr "_law_value" 32,rr "_law_pool" 33,rr "_law_table" 34,rr "_law_any_table" 35,rr "_law_parted" 36,rr "_law_in" 37,rr "_law_without_doubles" 38,rr "_law_rank" 39,rr "_law_ranks" 40,rr "_law_same" 41,rr "_law_folded" 42,rr "_law_sixty" 43,rr "law" 44])
 (hB:(["abs", "all", "bool", "enumerate", "int", "isinstance", "len", "list", "min", "range", "sorted", "str", "tuple", "zip"]:v4).all (A9s q loose [("rank" : Str),("risen" : Str),("place_of" : Str),("places_of" : Str),("values_at" : Str),("check_all_columns" : Str),("check_order" : Str),("rows_by_place" : Str),("first_seen" : Str),("parts_seen" : Str),("heads_seen" : Str),("laid_row" : Str),("laid_out" : Str),("rows_laid_out" : Str),("check_doubles" : Str),("folded" : Str),("_law_cell_at" : Str),("_law_box" : Str),("_law_take" : Str),("_law_many" : Str),("_law_names" : Str),("_law_value" : Str),("_law_pool" : Str),("_law_table" : Str),("_law_any_table" : Str),("_law_parted" : Str),("_law_in" : Str),("_law_without_doubles" : Str),("_law_rank" : Str),("_law_ranks" : Str),("_law_same" : Str),("_law_folded" : Str),("_law_sixty" : Str),("law" : Str)])=true)
 (hX:A3j tcT mg h) :
 ∃(K:v_) (fd:u_),K.In h/\TabAt K h/\(∀(s:q9) (v:Value),BindsTo s fd ⟨[v],[]⟩ [("_law_script",v)])/\∀base:Heap,K.In base->base.Ns mainGlobals mg->FnOk l.prog w K mg base CX0 9 fa fd ["_law_script"] (At9 K):=by
 obtain⟨kin,tab,_,hK⟩:=B1l (h:=h) (tabs:=[]) (fun t m=>nomatch m) (fun t m=>nomatch m)
 generalize Qp h []=K at *
 obtain⟨f1,fd1,F1,g1⟩:=Bv T hK hR (st:=Zm) (i:=0) rfl
 have b1:=F1.binds (ps:=["value"]) fun _ _ _ _ _ _ us hl=>by obtain⟨_,rfl⟩:=ln1 hl;rfl
 obtain⟨f2,fd2,F2,g2⟩:=Bv T hK hR (st:=Z7) (i:=1) rfl
 have b2:=F2.binds (ps:=["values"]) fun _ _ _ _ _ _ us hl=>by obtain⟨_,rfl⟩:=ln1 hl;rfl
 obtain⟨f3,fd3,F3,g3⟩:=Bv T hK hR (st:=Pq) (i:=2) rfl
 have b3:=F3.binds (ps:=["table", "name"]) fun _ _ _ _ _ _ us hl=>by obtain⟨_,_,rfl⟩:=ln2 hl;rfl
 obtain⟨f4,fd4,F4,g4⟩:=Bv T hK hR (st:=Nu) (i:=3) rfl
 have b4:=F4.binds (ps:=["table", "names"]) fun _ _ _ _ _ _ us hl=>by obtain⟨_,_,rfl⟩:=ln2 hl;rfl
 obtain⟨f5,fd5,F5,g5⟩:=Bv T hK hR (st:=M3) (i:=4) rfl
 have b5:=F5.binds (ps:=["row", "places"]) fun _ _ _ _ _ _ us hl=>by obtain⟨_,_,rfl⟩:=ln2 hl;rfl
 obtain⟨f6,fd6,F6,g6⟩:=Bv T hK hR (st:=Gq) (i:=5) rfl
 have b6:=F6.binds (ps:=["columns", "key", "names", "values"]) fun _ _ _ _ _ _ us hl=>by obtain⟨_,_,_,_,rfl⟩:=ln4 hl;rfl
 obtain⟨f7,fd7,F7,g7⟩:=Bv T hK hR (st:=J7) (i:=6) rfl
 have b7:=F7.binds (ps:=["order"]) fun _ _ _ _ _ _ us hl=>by obtain⟨_,rfl⟩:=ln1 hl;rfl
 obtain⟨f8,fd8,F8,g8⟩:=Bv T hK hR (st:=Ii) (i:=7) rfl
 have b8:=F8.binds (ps:=["table", "key", "names"]) fun _ _ _ _ _ _ us hl=>by obtain⟨_,_,_,rfl⟩:=ln3 hl;rfl
 obtain⟨f9,fd9,F9,g9⟩:=Bv T hK hR (st:=Lz) (i:=8) rfl
 have b9:=F9.binds (ps:=["things"]) fun _ _ _ _ _ _ us hl=>by obtain⟨_,rfl⟩:=ln1 hl;rfl
 obtain⟨f10,fd10,F10,g10⟩:=Bv T hK hR (st:=Ld) (i:=9) rfl
 have b10:=F10.binds (ps:=["groups"]) fun _ _ _ _ _ _ us hl=>by obtain⟨_,rfl⟩:=ln1 hl;rfl
 obtain⟨f11,fd11,F11,g11⟩:=Bv T hK hR (st:=Lk) (i:=10) rfl
 have b11:=F11.binds (ps:=["groups", "order"]) fun _ _ _ _ _ _ us hl=>by obtain⟨_,_,rfl⟩:=ln2 hl;rfl
 obtain⟨f12,fd12,F12,g12⟩:=Bv T hK hR (st:=Pn) (i:=11) rfl
 have b12:=F12.binds (ps:=["part", "heads", "things", "gap"]) fun _ _ _ _ _ _ us hl=>by obtain⟨_,_,_,_,rfl⟩:=ln4 hl;rfl
 obtain⟨f13,fd13,F13,g13⟩:=Bv T hK hR (st:=Pj) (i:=12) rfl
 have b13:=F13.binds (ps:=["parts", "heads", "things", "gap"]) fun _ _ _ _ _ _ us hl=>by obtain⟨_,_,_,_,rfl⟩:=ln4 hl;rfl
 obtain⟨f14,fd14,F14,g14⟩:=Bv T hK hR (st:=Ig) (i:=13) rfl
 have b14:=F14.binds (ps:=["parts", "heads", "cells"]) fun _ _ _ _ _ _ us hl=>by obtain⟨_,_,_,rfl⟩:=ln3 hl;rfl
 obtain⟨f15,fd15,F15,g15⟩:=Bv T hK hR (st:=Il) (i:=14) rfl
 have b15:=F15.binds (ps:=["groups"]) fun _ _ _ _ _ _ us hl=>by obtain⟨_,rfl⟩:=ln1 hl;rfl
 obtain⟨f16,fd16,F16,g16⟩:=Bv T hK hR (st:=V3) (i:=15) rfl
 have b16:=F16.binds (ps:=["table", "key", "names", "values", "order"]) fun _ _ _ _ _ _ us hl=>by obtain⟨_,_,_,_,_,rfl⟩:=ln5 hl;rfl
 obtain⟨f17,fd17,F17,g17⟩:=Bv T hK hR (st:=M7) (i:=16) rfl
 have b17:=F17.binds (ps:=["_law_script", "_law_k"]) fun _ _ _ _ _ _ us hl=>by obtain⟨_,_,rfl⟩:=ln2 hl;rfl
 obtain⟨f18,fd18,F18,g18⟩:=Bv T hK hR (st:=Ab5) (i:=17) rfl
 have b18:=F18.binds (ps:=["_law_script", "_law_k"]) fun _ _ _ _ _ _ us hl=>by obtain⟨_,_,rfl⟩:=ln2 hl;rfl
 obtain⟨f19,fd19,F19,g19⟩:=Bv T hK hR (st:=Ww) (i:=18) rfl
 have b19:=F19.binds (ps:=["_law_box_here", "_law_many_here"]) fun _ _ _ _ _ _ us hl=>by obtain⟨_,_,rfl⟩:=ln2 hl;rfl
 obtain⟨f20,fd20,F20,g20⟩:=Bv T hK hR (st:=Wm) (i:=19) rfl
 have b20:=F20.binds (ps:=["_law_box_here", "_law_least", "_law_few", "_law_most"]) fun _ _ _ _ _ _ us hl=>by obtain⟨_,_,_,_,rfl⟩:=ln4 hl;rfl
 obtain⟨f21,fd21,F21,g21⟩:=Bv T hK hR (st:=Ry) (i:=20) rfl
 have b21:=F21.binds (ps:=["_law_box_here", "_law_many_here"]) fun _ _ _ _ _ _ us hl=>by obtain⟨_,_,rfl⟩:=ln2 hl;rfl
 obtain⟨f22,fd22,F22,g22⟩:=Bv T hK hR (st:=Sg) (i:=21) rfl
 have b22:=F22.binds (ps:=["_law_box_here"]) fun _ _ _ _ _ _ us hl=>by obtain⟨_,rfl⟩:=ln1 hl;rfl
 obtain⟨f23,fd23,F23,g23⟩:=Bv T hK hR (st:=Uv) (i:=22) rfl
 have b23:=F23.binds (ps:=["_law_box_here", "_law_many_here"]) fun _ _ _ _ _ _ us hl=>by obtain⟨_,_,rfl⟩:=ln2 hl;rfl
 obtain⟨f24,fd24,F24,g24⟩:=Bv T hK hR (st:=Sv) (i:=23) rfl
 have b24:=F24.binds (ps:=["_law_box_here", "_law_many_here", "_law_rows"]) fun _ _ _ _ _ _ us hl=>by obtain⟨_,_,_,rfl⟩:=ln3 hl;rfl
 obtain⟨f25,fd25,F25,g25⟩:=Bv T hK hR (st:=J8) (i:=24) rfl
 have b25:=F25.binds (ps:=["_law_box_here"]) fun _ _ _ _ _ _ us hl=>by obtain⟨_,rfl⟩:=ln1 hl;rfl
 obtain⟨f26,fd26,F26,g26⟩:=Bv T hK hR (st:=O2) (i:=25) rfl
 have b26:=F26.binds (ps:=["_law_box_here", "_law_columns"]) fun _ _ _ _ _ _ us hl=>by obtain⟨_,_,rfl⟩:=ln2 hl;rfl
 obtain⟨f27,fd27,F27,g27⟩:=Bv T hK hR (st:=Ao0) (i:=26) rfl
 have b27:=F27.binds (ps:=["_law_table_here", "_law_row", "_law_names_here"]) fun _ _ _ _ _ _ us hl=>by obtain⟨_,_,_,rfl⟩:=ln3 hl;rfl
 obtain⟨f28,fd28,F28,g28⟩:=Bv T hK hR (st:=Gr) (i:=27) rfl
 have b28:=F28.binds (ps:=["_law_table_here", "_law_names_here"]) fun _ _ _ _ _ _ us hl=>by obtain⟨_,_,rfl⟩:=ln2 hl;rfl
 obtain⟨f29,fd29,F29,g29⟩:=Bv T hK hR (st:=Vk) (i:=28) rfl
 have b29:=F29.binds (ps:=["_law_value_here"]) fun _ _ _ _ _ _ us hl=>by obtain⟨_,rfl⟩:=ln1 hl;rfl
 obtain⟨f30,fd30,F30,g30⟩:=Bv T hK hR (st:=Su) (i:=29) rfl
 have b30:=F30.binds (ps:=["_law_values"]) fun _ _ _ _ _ _ us hl=>by obtain⟨_,rfl⟩:=ln1 hl;rfl
 obtain⟨f31,fd31,F31,g31⟩:=Bv T hK hR (st:=Qe) (i:=30) rfl
 have b31:=F31.binds (ps:=["_law_found", "_law_due"]) fun _ _ _ _ _ _ us hl=>by obtain⟨_,_,rfl⟩:=ln2 hl;rfl
 obtain⟨f32,fd32,F32,g32⟩:=Bv T hK hR (st:=Pa) (i:=31) rfl
 have b32:=F32.binds (ps:=["_law_table_here", "_law_stem", "_law_names_here", "_law_values", "_law_order"]) fun _ _ _ _ _ _ us hl=>by obtain⟨_,_,_,_,_,rfl⟩:=ln5 hl;rfl
 obtain⟨f33,fd33,F33,g33⟩:=Bv T hK hR (st:=Rz) (i:=32) rfl
 have b33:=F33.binds (ps:=["_law_box_here"]) fun _ _ _ _ _ _ us hl=>by obtain⟨_,rfl⟩:=ln1 hl;rfl
 obtain⟨f34,fd34,F34,g34⟩:=Bv T hK hR (st:=A4d) (i:=33) rfl
 have b34:=F34.binds (ps:=["_law_script"]) fun _ _ _ _ _ _ us hl=>by obtain⟨_,rfl⟩:=ln1 hl;rfl
 have yS:=Eh (x := "abs") T (Do hR) hB (by simp)
 have yG:=Eh (x := "all") T (Do hR) hB (by simp)
 have yE:=Eh (x := "bool") T (Do hR) hB (by simp)
 have yL:=Eh (x := "enumerate") T (Do hR) hB (by simp)
 have zN:=Eh (x := "int") T (Do hR) hB (by simp)
 have zB:=Eh (x := "isinstance") T (Do hR) hB (by simp)
 have zF:=Eh (x := "len") T (Do hR) hB (by simp)
 have zM:=Eh (x := "list") T (Do hR) hB (by simp)
 have yV:=Eh (x := "min") T (Do hR) hB (by simp)
 have zO:=Eh (x := "range") T (Do hR) hB (by simp)
 have yD:=Eh (x := "sorted") T (Do hR) hB (by simp)
 have zJ:=Eh (x := "str") T (Do hR) hB (by simp)
 have zA:=Eh (x := "tuple") T (Do hR) hB (by simp)
 have yH:=Eh (x := "zip") T (Do hR) hB (by simp)
 have yO:=Bl6 hX hK (i:=0) (y := "ORDERS") (ss:=[Str.ofString "seen",Str.ofString "rising"]) rfl;have e:=hfa.symm.trans g34
 cases e
 refine⟨K,fd34,kin,tab,A9t F34 (fun kV dc pm an cd ct s v=>.of_eq rfl),fun base _ _=>?_⟩
 have d0:Def l.prog w K mg base "rank" 2 ["value"] (spP K (Dl 2)):=mkD (Af4 F1 b1 g1 zN zB zJ zA 2) b1 F1.kp g1;have d1:=mkD (A7q (P:=l.prog) (w:=w) (mg:=mg) (base:=base) F2 d0 yD) b2 F2.kp g2;have d2:=mkD (Aj5 (P:=l.prog) (w:=w) (mg:=mg) (base:=base) F3 ) b3 F3.kp g3;have d3:=mkD (Ab9 (P:=l.prog) (w:=w) (mg:=mg) (base:=base) F4 d2) b4 F4.kp g4;have d4:=mkD (Ab1 (P:=l.prog) (w:=w) (mg:=mg) (base:=base) F5 zA) b5 F5.kp g5;have d5:=mkD (Nv (P:=l.prog) (w:=w) (mg:=mg) (base:=base) F6 yG zF zM) b6 F6.kp g6;have d6:=mkD (U4 (P:=l.prog) (w:=w) (mg:=mg) (base:=base) F7 yO) b7 F7.kp g7;have d7:=mkD (Rt (P:=l.prog) (w:=w) (mg:=mg) (base:=base) F8 d3 d4 yL) b8 F8.kp g8;have d8:=mkD (Xg (P:=l.prog) (w:=w) (mg:=mg) (base:=base) F9 zA) b9 F9.kp g9;have d9:=mkD (Xe (P:=l.prog) (w:=w) (mg:=mg) (base:=base) F10 d8) b10 F10.kp g10;have d10:=mkD (Xb (P:=l.prog) (w:=w) (mg:=mg) (base:=base) F11 d1 d8 zA) b11 F11.kp g11;have d11:=mkD (Al0 (P:=l.prog) (w:=w) (mg:=mg) (base:=base) F12 zA) b12 F12.kp g12;have d12:=mkD (Ai9 (P:=l.prog) (w:=w) (mg:=mg) (base:=base) F13 d11 zA) b13 F13.kp g13;have d13:=mkD (R9 (P:=l.prog) (w:=w) (mg:=mg) (base:=base) F14 d12 zA yH) b14 F14.kp g14;have d14:=mkD (Sd (P:=l.prog) (w:=w) (mg:=mg) (base:=base) F15 zF) b15 F15.kp g15;have d15:=mkD (A1f (P:=l.prog) (w:=w) (mg:=mg) (base:=base) F16 d3 d4 d5 d6 d7 d9 d10 d13 d14 zA) b16 F16.kp g16;have d16:=mkD (Ab6 (P:=l.prog) (w:=w) (mg:=mg) (base:=base) F17 zF) b17 F17.kp g17;have d17:=mkD (A4n (P:=l.prog) (w:=w) (mg:=mg) (base:=base) F18 d16 yS zN) b18 F18.kp g18;have d18:=mkD (A3z (P:=l.prog) (w:=w) (mg:=mg) (base:=base) F19 ) b19 F19.kp g19;have d19:=mkD (A3y (P:=l.prog) (w:=w) (mg:=mg) (base:=base) F20 d18) b20 F20.kp g20;have d20:=mkD (Ao9 (P:=l.prog) (w:=w) (mg:=mg) (base:=base) F21 d18 zF zO) b21 F21.kp g21;have d21:=mkD (Aq6 (P:=l.prog) (w:=w) (mg:=mg) (base:=base) F22 d18) b22 F22.kp g22;have d22:=mkD (A1d (P:=l.prog) (w:=w) (mg:=mg) (base:=base) F23 d21 zO) b23 F23.kp g23;have d23:=mkD (Ap6 (P:=l.prog) (w:=w) (mg:=mg) (base:=base) F24 d18 d20 d22 zF zO zA) b24 F24.kp g24;have d24:=mkD (Ws (P:=l.prog) (w:=w) (mg:=mg) (base:=base) F25 d19 d23) b25 F25.kp g25;have d25:=mkD (Ai8 (P:=l.prog) (w:=w) (mg:=mg) (base:=base) F26 d18 zN zF zM yV) b26 F26.kp g26;have d26:=mkD (Bl4 (P:=l.prog) (w:=w) (mg:=mg) (base:=base) F27 zA) b27 F27.kp g27;have d27:=mkD (Nr (P:=l.prog) (w:=w) (mg:=mg) (base:=base) F28 d26 zA) b28 F28.kp g28;have d28:=mkD (A2u (P:=l.prog) (w:=w) (mg:=mg) (base:=base) F29 zB zJ) b29 F29.kp g29;have d29:=mkD (Ar5 (P:=l.prog) (w:=w) (mg:=mg) (base:=base) F30 d28) b30 F30.kp g30;have d30:Def l.prog w K mg base "_law_same" 8 ["_law_found", "_law_due"] (spP K (Cu 8)):=mkD (Wn F31 b31 g31 yG yE zN zB zF zM zJ zA yH 8) b31 F31.kp g31;have d31:=mkD (Ag1 (P:=l.prog) (w:=w) (mg:=mg) (base:=base) F32 d26 d29 zN yD zA) b32 F32.kp g32;have d32:=mkD (At4 (P:=l.prog) (w:=w) (mg:=mg) (base:=base) F33 d18 zO zJ zA) b33 F33.kp g33
 exact(Bq8 F34 d15 d17 d18 d24 d25 d27 d30 d31 d32 zM zO zJ zA).imp fun vs H Q E h=>Bu5 hlaw h
theorem walk {l:PySem.W.OpenLaw}{q:t6}{loose:v4}{XP:(x_)->Heap->Prop}{YP:World->Heap->Prop}{d:DefRec}(hn:l.most=some 63)(hdf:d.params.defaults=[])
 (F:∀(w:World) (mean:ExcName->t_) (mg mb:x_) (fa:Addr) (h:Heap),PyProof.Rows.Top q (PySem.W.looseW q loose) mean mg mb h->XP mg h->mg d.name=some (.ref fa) ->
  ∃(K:v_) (fd:u_),K.In h/\TabAt K h/\(∀(s:q9) (u:Value),BindsTo s fd ⟨[u],[]⟩ [("_law_script",u)])/\∀base:Heap,K.In base->base.Ns mainGlobals mg->FnOk l.prog w K mg base CX0 9 fa fd ["_law_script"] (At9 K)) :
 PySem.W.WalkO q loose XP YP l.row.toRowW d [] (fun f vs=>PySem.call f vs) :=
 L2.walk_ofX (n:=63) (k:=9) (x := "_law_script") (sp:=At9) hn (by decide) hdf ⟨rfl,by decide,by decide,rfl⟩ F fun _ _ a ns hl hS=>⟨a,ns,rfl,hS,hl,fun _=>rfl⟩
end K
open PySem PySem.W PyProof.Rows
set_option maxHeartbeats 0
namespace K
def dOf:Stmt->DefRec
 | .FunctionDef _ a b _ _ _ s _ _ p=>⟨"law",a,b,s,p⟩
 | _=>⟨"law",⟨[],[],none,[],[],none,[]⟩,[],default,default⟩
def dL:DefRec:=⟨"law",(dOf (top 44)).params,(dOf (top 44)).body,(dOf (top 44)).scope,(dOf (top 44)).pos⟩
theorem B1f:rwT.wellSaid=true:=by kernel_rfl
theorem B2h:defOf qT rwT.row.name=some (dL,[]):=by kernel_rfl
theorem B2i:rwT.row.prog.theDef rwT.row.name=some (dL.params,dL.body,dL.scope):=by kernel_rfl
theorem kwT:kwWritten? dL.params.kwonlyargs dL.params.kw_defaults=some []:=by kernel_rfl
theorem okT:(chainsOk qT&&opensWell rwT.row.prog&&(frees rwT.row.toRowW&&rwT.row.within.isEmpty))=true:=by kernel_rfl
theorem dfT:dL.params.defaults=[]:=by kernel_rfl
theorem B1y:rwT.row.prog.bare:=⟨rfl,rfl,rfl,rfl,rfl,by decide +kernel⟩
theorem B1v:rwT.row.toRowW.promised:=by w_witness2
end K
theorem PySem.Challenge.cw_pivotfold_k10_tables_folded_holds : PySem.Challenge.rw_pivotfold_k10_tables_folded.Holds := by
 refine holds_law K.B1f fun said=>?_
 refine holds_open (q:=K.qT) (loose:=["ORDERS"]) (Xt:=K.xtT) (XP:=L2.A3j K.tcT) (Yf:=Hook.none.obs) (Ya:=Hook.none.val) (YP:=Hook.none.says) (N:=20000) K.B0a Hook.none.of Hook.none.keeps (fun s e=>L2.B0x (aB.mp e).2) L2.A7t K.B2h K.B2i K.kwT (fun s e=>recFacts_of (aB.mp (aB.mp e).1).2) rfl said K.okT K.B1y K.B1v ?_
 refine K.walk (l:=PySem.Challenge.rw_pivotfold_k10_tables_folded) rfl K.dfT ?F
 case F =>
  intro w mean mg mb fa h T X hmg
  refine K.By2 T hmg K.A7g ?R ?B X
  (case R=>kernel_rfl); (case B=>kernel_rfl)
end
