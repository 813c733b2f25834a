import PyProof.Rows.All
import PySem.Challenge.RW_pivotfold_k37_columns_turned
import KE.KSortTup
import KE.KDictOf
import KE.KNestM
import KE.KFromBytes
import KE.KTryMore
import KE.KLam
import KE.KPairComp
import KE.KUnpack
import KE.KRevIter
import KE.KMinKey
set_option genInjectivity false
set_option genSizeOf false
set_option Elab.async false
set_option linter.all false
set_option maxRecDepth 100000
set_option compiler.extract_closed false
noncomputable section
open PySem renaming wpAny_bind→aj,wpAny_pure→ak,wpAny_mono→aU,wpAny_field→aY,wpAny_call_entry→bB,wpAny_newObj_type→bO,wpAny_holding→bZ,wpAny_callSpecial?_slot→cj,wpAny_rule→cL,wpAny_seqItems→cM,wpAny_attempt→cN,wpAny_isInstance→cY,call_meets→dm,wpAny_specialOf→dD,wpAny_typeOf→dF,wpAny_pyIter_tuple→dH,call_meetsIn→eG,wpAny_setField_rec→eX,isSubtype_stop→eY,codeAny_builtin→fc,eqIsQuiet_byValue→fJ,wpAny_execs_cons→fK,wpAny_standAt→fM,wpAny_pyIter_list→fW,wpAny_truthy_bool→gj,wpAny_execs_nil→gk,wpAny_bindName→gw,wpAny_passesOwn→gA,codeAny_mono→gB,wpAny_Call_Name_kw→gC,mem_of_lookup→gF,wpAny_setField→gQ,strLen_append→gR,wpAny_loadPart_at→gU,plainId_quiet→gW,wpAny_updateSeq→gY,pushCells_keeps→iC,wpAny_onRaise→iJ,wpAny_notOrdered_dict→iT,wpAny_forIn_list→j7,noFill_tuple_add→jb,wpAny_Call_method→jh,wpAny_updateSeq_pair→jl,wpAny_pyIter_zip→jm,wpAny_raiseNew_none→jw,wpAny_pyIter_slot→jx,wpAny_callSpecialIfBoundUnlessNone?_slot→jF
open List renaming length_map→ao,mem_cons→aB,map_cons→aF,mem_map→aG,length_append→aH,mem_append_right→aN,mem_singleton→aQ,mem_append_left→aX,lookup_cons→aZ,not_mem_nil→a_,getElem?_eq_getElem→bu,mem_append→bx,mem_of_getElem?→bz,map_append→bA,getElem?_eq_some_iff→bG,nodup_cons→bH,mem_cons_of_mem→bI,getElem?_map→bJ,all_eq_true→bL,length_cons→bM,mem_cons_self→bR,length_set→bT,size_toArray→b_,append_nil→cA,getElem?_set_ne→cB,getElem?_set_self→cG,map_nil→cQ,map_map→cV,zip_cons_cons→cW,length_take→dg,getElem?_cons_succ→dw,getElem?_append_left→dB,nil_append→dC,replicate_succ→dG,getElem?_append_right→dM,take_length→dN,length_zip→dO,filterMap_cons→dW,mem_filterMap→dY,nodup_nil→d_,getD_eq_getElem?_getD→fC,append_assoc→fG,forIn_cons→fU,nodup_append→fX,take_succ→fZ,any_cons→gH,flatten_cons→gK,drop_zero→gV,mem_filter→ir,set_comm→iu,of_mem_zip→iw,length_drop→iy,length_singleton→iD,getElem_mem→iG,forIn_nil→iI,getElem?_eq_none→i_,length_replicate→j0,pairwise_map→j5,pairwise_cons→j6,take_sublist→j9,filterMap_map→jf,getElem?_zip_eq_some→jk,countP_cons→jo,contains_cons→jr,map_snd_zip→jt,ext_getElem→jy,ext_getElem?→jz,drop_length→jA,eraseIdx_cons_succ→jC,filter_cons→jE
open Nat renaming le_trans→aq,le_refl→au,lt_of_lt_of_le→aK,zero_le→aM,zero_add→aO,ne_of_lt→aP,lt_irrefl→bh,lt_of_le_of_lt→bD,lt_or_ge→bN,ne_of_gt→bQ,add_le_add_left→bW,le_of_lt→cR,mul_le_mul_left→cX,le_of_eq→dq,sub_self→dz,add_assoc→dR,le_of_succ_le→eN,lt_succ_self→eO,sub_zero→eZ,min_self→e_,min_eq_left→fB,le_add_right→fH,lt_succ_of_lt→fV,mul_le_mul→gf,le_succ→gM,lt_trans→gO,add_lt_add_of_lt_of_le→ie,succ_le_succ→iz,le_of_not_lt→ji
open PySem.Heap renaming lt_size→az,get?_push_of_some→aC,get?_push_size→aJ,get?_update_self→cu,size_push→cz,get?_update_other→cH
open Bool renaming and_eq_true_iff→aA,false_ne_true→bf,false_eq_true→bV,and_eq_true→dh,or_eq_true_iff→jB
open Ne renaming symm→aD
open Option renaming map_eq_some_iff→aW,bind_eq_some_iff→cP,bind_some→gb,map_some→gh
open PySem.Heap.SameBut renaming update→bK
open Option.some renaming inj→bY,injEq→jj
open PySem.PassesOwn renaming never→cJ
open LawfulBEq renaming eq_of_beq→cT
open PySem.Calls renaming spliced_cons→cZ,spliced_nil→dZ,callWith_builtin→fP,evalArgs_plain→gJ
open PySem.Obj renaming data_mapFields→du,isFreed_of_fields→eV,cls_mapFields→iH
open PySem.F renaming slot_zip_next→dI,plainAttrs_list→eQ,slot_dict_get→fQ,plainAttrs_dict→gP,plain_extend_loop→gZ,slot_NoneType_hash→ig,slot_tuple_hash→ik,entry_dict_get→iB,entry_zip_next→iK,args_zip_next_1→iM,slot_dict_keyiterator_next→iU,slot_dict_itemiterator_next→iV,plain_list_iadd→iY,slot_dict_valueiterator_next→iZ,slot_tuple_add→jc,entry_tuple_add→jd,args_tuple_add_2→je,args_object_init_2→jn,typeOf_object_class→jq,entry_dict_keyiterator_next→jG,args_dict_keyiterator_next_1→jH,entry_dict_itemiterator_next→jJ,args_dict_itemiterator_next_1→jK,entry_dict_valueiterator_next→jL,args_dict_valueiterator_next_1→jM
open PySem.Paired renaming length→dU
open PyProof.Rows renaming callWith_type1→dX,assignInOrder_cons→fL,slot_tuple_getitem→fO,assignInOrder_nil→j8
open Int renaming toNat_natCast→eU,eq_ofNat_of_zero_le→fu,ofNat_le→j4
open PySem.Around renaming under_plainId→fY
open Array renaming length_toList→gG,forIn_toList→il,getElem?_eq_some_iff→iR,getElem?_eq_getElem→iW,getElem?_toList→ju
open Nat.succ renaming inj→g_
open Array.Perm renaming refl→h_
open PySem.AutoSeq1 renaming wpAny_loadPart'→iQ
open PySem.SeqAt.EqAt renaming str_str→jg
section
open PySem
abbrev u_:=Shared
abbrev t6:=PyData
abbrev t_:=Around
abbrev u6:=Program
abbrev v4:=List Str
abbrev u5:=FuncData
abbrev v6:=List Addr
abbrev v_:=List Expr
abbrev w6:=List Value
abbrev q9:=Option Int
abbrev w5:=List t6
abbrev v7:=Array Value
abbrev v9:=PySem.W.Frag
abbrev u9:=Option Value
abbrev q_:=List (Nat×Nat)
abbrev p7:=Nat->v6
abbrev y_:=List (Addr×Obj)
abbrev v8:=Array DictEntry
abbrev x_:=Str->u9
abbrev p6:=List (Option Nat)
abbrev z_:=Value->u_->Prop
end
section
open PySem PySem.Spec PyProof.Rows PySem.W PySem.Calls PySem.MeetsSeq PySem.MeetsSeq2 PySem.MeetsSeq3 PySem.SeqAt
abbrev aR:=@decide_eq_true
abbrev aV:=@of_decide_eq_true
abbrev bc:=@or_false
abbrev bj:=@if_false
abbrev bw:=@decide_eq_false
abbrev bC:=@true_and
abbrev bU:=@congrArg
abbrev c7:=@if_true
abbrev cD:=@beq_self_eq_true
abbrev cU:=@beq_eq_false_iff_ne
abbrev dJ:=@beq_iff_eq
abbrev jD:=@decide_eq_decide
end
namespace L2
open PySem PySem.Spec PyProof.Rows PySem.W
noncomputable abbrev bmV:w6:=[.type "ValueError",.type "Exception",.type "BaseException",.type "object"]
def Am6 (K:v9)(C:Addr):Bool:=match K.lookup C with
 | some ⟨.type "type",_,.cls cd,sl⟩=>cd.hasDict&&!cd.hasDel&&(match cd.mro with
  | .ref A::bm=>A==C&&tailIn K bmV bm
  | _=>false)&&(match sl.toList with
  | [_,_,_,_,some (.builtin n),_]=>n == "ValueError.__new__"
  | _=>false)
 | _=>false
noncomputable def noI (K:v9) (C:Addr):Bool:=match K.lookup C with
 | some o=>(match o.data with
  | .cls cd=>nsOkIn K cd.ns&&nsIn K cd.ns "__init__" == some none
  | _=>false)
 | none=>false
def exP (K:v9)(C:Addr):Bool:=Am6 K C&&noI K C
noncomputable def Vn:v4->w6->Bool
 | [],[]=>true
 | s::ss,.str z _::us=>s==z&&Vn ss us
 | _,_=>false
def A9j (h:Heap)(q:Str×v4):Bool:=match h.nsMap mainGlobals q.1 with
 | some (.ref a)=>match h.get? a with
  | some o=>match o.cls,o.data with
   | .type c,.seq its _=>c == "tuple" && decide (its.size<=sizeLine)&&Vn q.2 its.toList
   | _,_=>false
  | none=>false
 | _=>false
def xcB (K:Frag)(C:Addr):Bool:=Am6 K C&&(findIn K (.ref C) "__getattribute__" == some (some (.builtin "BaseException.__getattribute__"))&&(findIn K (.ref C) "__getattr__" == some none&&findIn K (.ref C) "__class__" == some (some (.builtin "object.__class__"))))
noncomputable def clB (K:Frag) (x:Str) (p:Addr->Bool):Bool:=match nsIn K mainGlobals x with
 | some (some (.ref C))=>p C
 | _=>false
def tbB (K:Frag)(z:Value)(tbl:List (Str×Bool)):Bool:=tbl.all λp=>clB K p.1 λC=>xcB K C&&kitOne K (.ref C) z==some p.2
def exB (K:Frag)(F:Addr)(NS:v4):Bool:=NS.all λx=>clB K x λC=>exmOne K (.ref C) (.ref F)==some true
noncomputable def By5 (o:Obj):Bool:=match o.data with
 | .cls _=>true
 | .dict _ _=>true
 | _=>false
def Bl5 (l:List Nat)(h:Heap):Frag:=l.filterMap λa=>((h.get? a).bind λo=>if By5 o=true then some o else none).map λo=>(a,o)
def cfB (R:v4)(T:List (Str×List (Str×Bool)))(V:List (Str×Bool))(F:v4)(K:Frag):Bool :=
 (R.all λx=>clB K x λC=>exP K C)&&((T.all λq=>clB K q.1 λC=>tbB K (.ref C) q.2)&&(tbB K (.type "ValueError") V&&F.all λx=>clB K x λC=>exB K C R))
noncomputable def Bl0 (tb:String->Option Builtin) (p:u6) (w:World) (n₀:Nat) (ann:u9):Nat->SharedT->Thread->Option SharedT
 | 0,_,_=>none
 | n+1,s,t=>match through t with
  | true=>some s
  | false=>match stepOk n₀ ann t with
   | false=>none
   | true=>match stepT (denote tb) p w s t with
    | some (s',t')=>Bl0 tb p w n₀ ann n s' t'
    | none=>none
theorem A0e {tb:String->Option Builtin}{p:u6}{w:World}{n₀:Nat}{ann:u9}:∀{n:Nat}{s s':SharedT}{t:Thread},Bl0 tb p w n₀ ann n s t=some s'->topRun tb p w n₀ ann n s.abs t=some s'.abs
 | 0,_,_,_,h=>nomatch h
 | n+1,s,s',t,h=>by
  unfold Bl0 at h;unfold topRun
  cases he:through t with
  | true=>rw[he]at h;cases h;rfl
  | false =>
   rw[he]at h
   cases hk:stepOk n₀ ann t with
   | false=>rw[hk]at h;cases h
   | true =>
    rw[hk]at h
    cases hs:stepT (denote tb) p w s t with
    | none=>rw[hs]at h;cases h
    | some r=>obtain⟨s₂,t₂⟩:=r;rw[hs]at h;dsimp only;rw[stepT_spec hs];exact A0e h
noncomputable def A4f:List Obj->BT->Nat->Option (BT×Nat)
 | [],t,n=>some (t,n)
 | o::os,t,n=>match ((t.ins n o).get n).isSome with
  | true=>A4f os (t.ins n o) (n+1)
  | false=>none
theorem A2o {life:Life}:∀{os:List Obj}{t t':BT}{n n':Nat},A4f os t n=some (t',n')->(absHeap t' n' life).objs.toList=(absHeap t n life).objs.toList++os
 | [],_,_,_,_,h=>by cases h;exact(cA _).symm
 | o::os,t,t',n,n',h=>by
  unfold A4f at h
  cases g:((t.ins n o).get n).isSome with
  | false=>rw[g]at h;cases h
  | true =>
   rw[g]at h;rw[A2o h,absHeap_ins g]
   show ((absHeap t n life).objs.push o).toList++os=_
   rw[Array.toList_push,fG];rfl
theorem A4a {h:Heap}{t:BT}{n:Nat}(e:A4f h.objs.toList .nil 0=some (t,n)):absHeap t n h.life=h:=by
 have:=A2o (life:=h.life) e;obtain⟨os,l⟩:=h
 show Heap.mk _ _=_
 exact bU (Heap.mk · l) (Array.toList_inj.mp (this.trans (dC _)))
def B2o (p:u6)(w:World)(N:Nat)(os:OsState):Option u_ :=
 match (boot_heap w.params).isNs mainGlobals with
 | false=>none
 | true=>match A4f (boot_heap w.params).objs.toList .nil 0 with
  | none=>none
  | some (T,n)=>match Bl0 treeTable p w (boot_heap w.params).objs.size ((boot_heap w.params).nsMap mainGlobals "__annotations__") N ⟨T,n,(boot_heap w.params).life,#[],boot_drawn,boot_toks,os⟩ (topStub p) with
   | none=>none
   | some s=>match staticsOk (importedModules p.main.body) (boot_heap w.params) s.abs.heap&&namesBound p s.abs.heap&&gensDone s.abs&&laidKept (boot_heap w.params) s.abs.heap with
    | true=>some s.abs
    | false=>none
theorem Bq0 {p:u6}{w:World}{N:Nat}{os:OsState}{s:u_}(h:B2o p w N os=some s):topFrom treeTable p w N ⟨boot_heap w.params,#[],boot_drawn,boot_toks,os⟩=some s:=by
 unfold B2o at h;unfold topFrom
 cases a:(boot_heap w.params).isNs mainGlobals with
 | false=>rw[a]at h;cases h
 | true =>
  rw[a]at h
  cases b:A4f (boot_heap w.params).objs.toList .nil 0 with
  | none=>rw[b]at h;cases h
  | some r =>
   obtain⟨T,n⟩:=r;rw[b]at h
   dsimp only at h
   split at h
   ·cases h
   ·rename_i s₁ c
    have d:=A0e c
    have e:(⟨T,n,(boot_heap w.params).life,#[],boot_drawn,boot_toks,os⟩:SharedT).abs=⟨boot_heap w.params,#[],boot_drawn,boot_toks,os⟩:=by
     show Shared.mk _ _ _ _ _=_
     rw[A4a b]
    rw[e]at d
    show (match true&&true with | true=>_ | false=>none)=_
    dsimp only[Bool.and_self]
    rw[d];exact h
theorem A5v {p q:u6}{loose:v4}{Xt:u_->Bool}{α:Type}{Yf:u_->α}{Ya:World->α}{N:Nat}{g0:Bool}
 (ho:opening p=plainProg p.main.scope.names) (hN:Nat.ble 600 N=true) (hf:∀s,fenceModules? p s=some s)
 (h:∀w os,(B2o p w N os).map (λs=>(openSeen q loose (importedModules p.main.body) Xt g0 s,Yf s))=some (openGood q loose,Ya w)):LeftO p q loose Xt Yf Ya N g0:=λw=>by
 obtain⟨s₀,a,b⟩:=aW.mp (boot_open ho hN hf w);obtain⟨hp,gn,dr,tk,os⟩:=s₀;obtain⟨b1,b⟩:=Prod.mk.inj b;obtain⟨b2,b⟩:=Prod.mk.inj b;obtain⟨b3,b4⟩:=Prod.mk.inj b
 cases b1;cases b2;cases b3;cases b4
 obtain⟨s,c,d⟩:=aW.mp (h w os);unfold openEnds;rw[a]
 show (topFrom treeTable p w N ⟨boot_heap w.params,#[],boot_drawn,boot_toks,os⟩).map _=_
 rw[Bq0 c,gh,d]
end L2
namespace K
open PySem PySem.W PyProof.Rows
noncomputable def tcT:List (Str×v4):=[("ORDERS",[Str.ofString "seen",Str.ofString "rising"])]
noncomputable def xcR:v4:=["BadColumns"]
noncomputable def xcT:List (Str×List (Str×Bool)):=[("BadColumns",[("BadColumns",true)]),("BadOrder",[("BadColumns",false)]),("BadRow",[("BadColumns",false)]),("BadWay",[("BadColumns",false)]),("Double",[("BadColumns",false)]),("NoColumn",[("BadColumns",false)]),("NoHead",[("BadColumns",false)]),("NoNumber",[("BadColumns",false)]),("NoPart",[("BadColumns",false)]),("NoRow",[("BadColumns",false)])]
noncomputable def xcV:List (Str×Bool):=[("BadColumns",true)]
noncomputable def xcF:v4:=["FoldError"]
abbrev pwT:=PySem.Challenge.pw_pivotfold_k37_columns_turned
abbrev rwT:=PySem.Challenge.rw_pivotfold_k37_columns_turned
noncomputable def B3m:Stmt->Bool
 | .Assign [.Name n _] _ _=>!(["__name__", "ORDERS"]:v4).contains n
 | _=>true
def qT:u6:={ pwT with main:={ pwT.main with body:=pwT.main.body.filter B3m } }
abbrev xtT:u_->Bool:=λs=>xlAt qT [] s&&recOk (RowW.records rwT.row.toRowW) s&&tcT.all (L2.A9j s.heap)&&L2.cfB xcR xcT xcV xcF (L2.Bl5 [3,37,36,24,23,49,166,61,147,128,97,73,85,109] s.heap)
theorem hoT:opening rwT.row.prog=plainProg rwT.row.prog.main.scope.names:=by kernel_rfl
theorem hfT:∀s,fenceModules? rwT.row.prog s=some s:=λs=>by kernel_rfl
set_option maxHeartbeats 0 in
theorem B4l:LeftO rwT.row.prog qT ["ORDERS"] xtT Hook.none.obs Hook.none.val 20000:=L2.A5v hoT rfl hfT λw os=>by kernel_rfl
end K
namespace L2
open PySem PySem.Spec PyProof.Rows
abbrev Key:=Sum Int Str
noncomputable def Aa4:Key->Value->Bool
 | .inl k,v=>Value.isInt k v
 | .inr x,v=>Value.isStrOf x v
noncomputable def Bw4 (w:World):Key->Int
 | .inl k=>hashInt k
 | .inr x=>hashStr w x
theorem Dr:∀{k:Key}{v:Value},Aa4 k v=true->(∃i t,k=Sum.inl i/\v=Value.int i t)\/(∃x t,k=Sum.inr x/\v=Value.str x t)
 | .inl i,v,h=>by
  obtain⟨t,e⟩:=Value.isInt_shape (k:=i) (v:=v) h;exact .inl ⟨i,t,rfl,e⟩
 | .inr x,v,h=>by
  obtain⟨t,e⟩:=Value.isStrOf_shape (x:=x) (v:=v) h;exact .inr ⟨x,t,rfl,e⟩
theorem A4r (i:Int)(t:Tok):Aa4 (.inl i) (.int i t)=true:=by simp[Aa4,Value.isInt]
theorem A6i (x:Str)(t:Tok):Aa4 (.inr x) (.str x t)=true:=by simp[Aa4,Value.isStrOf]
theorem B2i (a b:Int):decide ((Sum.inl a:Key)=Sum.inl b)=(a==b):=by
 grind
theorem Bw2 (a b:Str):decide ((Sum.inr a:Key)=Sum.inr b)=decide (a=b):=by
 grind
theorem B0o (a:Int)(b:Str):decide ((Sum.inl a:Key)=Sum.inr b)=false:=bw λq=>nomatch q
theorem B0u (a:Str)(b:Int):decide ((Sum.inr a:Key)=Sum.inl b)=false:=bw λq=>nomatch q
def Fe (prog:u6)(w:World):PySem.KeyKind prog w Key where
 is:=Aa4
 hash:=Bw4 w
 inj:=λv a b ha hb=>by
  rcases Dr ha with ⟨i,t,rfl,rfl⟩ | ⟨x,t,rfl,rfl⟩
  ·rcases Dr hb with ⟨j,u,rfl,e⟩ | ⟨y,u,rfl,e⟩
   ·injection e with e1 _;rw[e1]
   ·exact nomatch e
  ·rcases Dr hb with ⟨j,u,rfl,e⟩ | ⟨y,u,rfl,e⟩
   ·exact nomatch e
   ·injection e with e1 _;rw[e1]
 byValue:=λk v h=>by
  rcases Dr h with ⟨i,t,rfl,rfl⟩ | ⟨x,t,rfl,rfl⟩ <;> rfl
 pyHash:=λhv h=>by
  rcases Dr hv with ⟨i,t,rfl,rfl⟩ | ⟨x,t,rfl,rfl⟩
  ·exact wpAny_pyHash_int h
  ·exact wpAny_pyHash_str h
 eqBool:=λhu hv h=>by
  rcases Dr hu with ⟨i,t,rfl,rfl⟩ | ⟨x,t,rfl,rfl⟩
  ·rcases Dr hv with ⟨j,u,rfl,rfl⟩ | ⟨y,u,rfl,rfl⟩
   ·rw[B2i]at h;exact wpAny_eqBool_int h
   ·rw[B0o]at h;exact SeqAt.EqAt.int_str i t y u _ _ _ _ h
  ·rcases Dr hv with ⟨j,u,rfl,rfl⟩ | ⟨y,u,rfl,rfl⟩
   ·rw[B0u]at h;exact SeqAt.EqAt.str_int x t j u _ _ _ _ h
   ·rw[Bw2]at h;exact wpAny_eqBool_str h
 «strs»:=λk x t v h=>by
  rcases Dr h with ⟨i,u,rfl,e⟩ | ⟨y,u,rfl,e⟩
  ·exact nomatch e
  ·injection e with e1 _
   subst e1
   cases v <;> rfl
theorem Nh (prog:u6)(w:World)(i:Int)(t:Tok):(Fe prog w).is (.inl i) (.int i t)=true:=A4r i t
theorem N6 (prog:u6)(w:World)(x:Str)(t:Tok):(Fe prog w).is (.inr x) (.str x t)=true:=A6i x t
noncomputable instance B5t:DecidableEq t6:=λa b=>Classical.propDecidable (a=b)
mutual
noncomputable def keyB:t6->Bool
 | .none=>true
 | .int _=>true
 | .str _=>true
 | .tuple ds=>Ff ds
 | _=>false
noncomputable def Ff:w5->Bool
 | []=>true
 | d::ds=>keyB d&&Ff ds
end
mutual
theorem Jr:∀(x y:t6),keyB x=true->keyB y=true->(PyData.eqv x y=true↔x=y)
 | .none,y,_,hy=>by cases y <;> simp_all [PyData.eqv,keyB]
 | .int _,y,_,hy=>by cases y <;> simp_all [PyData.eqv,keyB]
 | .str _,y,_,hy=>by cases y <;> simp_all [PyData.eqv,keyB]
 | .tuple xs,.tuple ys,hx,hy=>by
  have:=Ai6 xs ys hx hy
  show PyData.eqvAll xs ys=true↔_
  rw[this]
  exact⟨λe=>by rw[e],λe=>by cases e;rfl⟩
 | .tuple xs,.none,hx,hy=>⟨(λe=>nomatch e),λe=>nomatch e⟩
 | .tuple xs,.int _,hx,hy=>⟨(λe=>nomatch e),λe=>nomatch e⟩
 | .tuple xs,.str _,hx,hy=>⟨(λe=>nomatch e),λe=>nomatch e⟩
theorem Ai6:∀(xs ys:w5),Ff xs=true->Ff ys=true->(PyData.eqvAll xs ys=true↔xs=ys)
 | [],[],_,_=>⟨λ_=>rfl,λ_=>rfl⟩
 | [],_::_,_,_=>⟨(λe=>nomatch e),λe=>nomatch e⟩
 | _::_,[],_,_=>⟨(λe=>nomatch e),λe=>nomatch e⟩
 | x::xs,y::ys,hx,hy=>by
  obtain⟨a,b⟩:=aA.mp (show (keyB x&&Ff xs)=true from hx)
  obtain⟨c,d⟩:=aA.mp (show (keyB y&&Ff ys)=true from hy)
  show (PyData.eqv x y&&PyData.eqvAll xs ys)=true↔_
  rw[aA,Jr x y a c,Ai6 xs ys b d,List.cons.injEq]
end
mutual
theorem V5 {h h':Heap}{d:Addr}{o:Obj}{es:v8}{ep:Nat}(ho:h.get? d=some o)(hd:o.data=.dict es ep)(hs:Heap.SameBut d h h'):∀(k:t6),keyB k=true->∀(v:Value) (as:v6),Reads h v k as->Reads h' v k as
 | .none,_,_,_,r=>by cases r;exact .none
 | .int i,_,_,_,r=>by cases r;exact .int _ _
 | .str x,_,_,_,r=>by cases r;exact .str _ _
 | .tuple ds,hk,_,_,r=>by
  cases r with
  | @tuple a o' vs n xs as h1 h2 h3 h4 =>
   refine .tuple ((hs.2 a ?_).trans h1) h2 h3 (Ug ho hd hs ds hk _ _ h4)
   intro e;rw[e,ho]at h1;cases h1;rw[hd]at h3;cases h3
theorem Ug {h h':Heap}{d:Addr}{o:Obj}{es:v8}{ep:Nat}(ho:h.get? d=some o)(hd:o.data=.dict es ep)(hs:Heap.SameBut d h h'):∀(ks:w5),Ff ks=true->∀(vs:w6) (as:v6),ReadsAll h vs ks as->ReadsAll h' vs ks as
 | [],_,_,_,r=>by cases r;exact .nil
 | k::ks,hk,_,_,r=>by
  obtain⟨a,b⟩:=aA.mp (show (keyB k&&Ff ks)=true from hk)
  cases r with
  | cons r1 r2=>exact .cons (V5 ho hd hs k a _ _ r1) (Ug ho hd hs ks b _ _ r2)
end
mutual
def Ap4 (w:World):t6->Int
 | .none=>hashInt 0xFCA86420
 | .int i=>Bw4 w (.inl i)
 | .str x=>Bw4 w (.inr x)
 | .tuple ds=>reduceHash (Builtin.Tuple.tupleHashOf (Lg w ds))
 | _=>0
def Lg (w:World):w5->List Int
 | []=>[]
 | d::ds=>Ap4 w d::Lg w ds
end
mutual
noncomputable def Xw:t6->Nat
 | .tuple ds=>M9 ds+1
 | _=>1
noncomputable def M9:w5->Nat
 | []=>0
 | d::ds=>Xw d+M9 ds
end
section
variable {prog:u6}{w:World}
theorem Zz (h:Q (hashInt 0xFCA86420) { s with toks:=s.toks+1 }):wpAny (model prog w) A (pyHash .none) Q E s:=by
 have a:s.TypeIs Value.none "NoneType" := rfl;unfold pyHash
 first | unfold pyHashByItsType | skip
 have b:[Value.none].any Value.onHeap=false:=rfl
 refine aj ?_
 rw[cRoomFor,if_neg (by rw[b];exact bf)];refine ak ?_
 refine aj (dD a ig.lookup ?_)
 show wpAny _ _ (if (some (Value.builtin "NoneType.__hash__")==some Value.none)=true then _ else _) Q E s
 rw[if_neg (by rw[beq_builtin_none];exact bf)]
 refine aj (dD a ig.lookup ?_)
 show wpAny _ _ (callSpecialIfBoundUnlessNone? .none "__hash__" _ >>= _) Q E s
 refine aj (jF a ig
  (bB ig a F.entry_NoneType_hash
   (show wpAny _ _ (do ret (<- mkInt _)) _ _ s from wpAny_ret_mkInt ?_) (F.args_NoneType_hash_1 _)))
 exact ak h
theorem A3o:∀(n:Nat) (d:t6),d.depth<=n->keyB d=true->∀(A:t_) (E:z_) (s:u_) (v:Value) (y:v6) (Q:Int->u_->Prop),A.units+n<cLine->Reads s.heap v d y ->
 Q (Ap4 w d) { s with toks:=s.toks+Xw d }->wpAny (model prog w) A (pyHash v) Q E s:=by
 intro n
 induction n with
 | zero =>
  intro d M j A E s v y Q C r h
  cases r with
  | none=>exact Zz h
  | int i t=>exact(Fe prog w).pyHash (k:=.inl i) (v:=.int i t) (Nh prog w i t) h
  | str x t=>exact(Fe prog w).pyHash (k:=.inr x) (v:=.str x t) (N6 prog w x t) h
  | tuple=>exact absurd M (by simp[PyData.depth])
  | bool b=>cases j
  | list=>cases j
  | dict=>cases j
 | succ n Y =>
  intro d M j A E s v y Q C r h
  cases r with
  | none=>exact Zz h
  | int i t=>exact(Fe prog w).pyHash (k:=.inl i) (v:=.int i t) (Nh prog w i t) h
  | str x t=>exact(Fe prog w).pyHash (k:=.inr x) (v:=.str x t) (N6 prog w x t) h
  | bool b=>cases j
  | list=>cases j
  | dict=>cases j
  | @tuple a o N n' g y R hc J U =>
   have G:s.TypeIs (.ref a) "tuple" := ⟨o,R,hc⟩
   have H:PyData.depthAll g<=n:=Nat.le_of_succ_le_succ (show PyData.depthAll g+1<=n+1 from M)
   have I:Ff g=true:=j;unfold pyHash
   first | unfold pyHashByItsType | skip
   first | refine aj (wpAny_cRoomFor_or (.inr (bD (fH _ _) C)) ?_) | skip
   refine aj (dD G ik.lookup ?_)
   show wpAny _ _ (if (some (Value.builtin "tuple.__hash__")==some Value.none)=true then _ else _) Q E s
   rw[if_neg (by rw[beq_builtin_none];exact bf)]
   refine aj (dD G ik.lookup ?_)
   show wpAny _ _ (callSpecialIfBoundUnlessNone? (.ref a) "__hash__" _ >>= _) Q E s
   refine aj (jF G ik (bB ik G F.entry_tuple_hash ?_ (F.args_tuple_hash_1 _)))
   show wpAny _ _ (Builtin.Tuple.tupleItemsOf (.ref a) >>= _) _ _ s
   refine aj (wpAny_tupleItemsOf R J ?_)
   refine aj ?_
   rw[<- il]
   refine j7 _
    (λm (b:Array Int) O=>∃c e K,Lg w g=c++Lg w e/\ReadsAll s.heap m e K/\Ff e=true/\PyData.depthAll e<=n/\b.toList=c/\∃k,k+M9 e=M9 g/\O={ s with toks:=s.toks+k })
    _ ?_ ?_ _ _ ⟨[],g,_,rfl,U,I,H,rfl,0,aO _,rfl⟩
   ·rintro x m b O ⟨c,e,K,z,L,q,p,B,k,D,rfl⟩
    cases L with
    | @cons _ _ l f V W X u =>
     obtain⟨Z,S⟩:=aA.mp (show (keyB l&&Ff f)=true from q)
     have P:l.depth<=n/\PyData.depthAll f<=n:=by
      have:max l.depth (PyData.depthAll f)<=n:=p;lia
     refine aj (Y l P.1 Z _ _ _ _ _ _ (by first | exact bD (by simp;lia) C | (have:=C;simp at *;lia)) X ?_)
     first
      | exact ak ⟨c++[Ap4 w l],f,_,by rw[z];simp[Lg],u,S,P.2,by simp[B],k+Xw l,by rw[<- D];simp[M9,dR],by simp[dR]⟩
      | exact aj (ak (ak ⟨c++[Ap4 w l],f,_,by rw[z];simp[Lg],u,S,P.2,by simp[B],k+Xw l,by rw[<- D];simp[M9,dR],by simp[dR]⟩))
   ·rintro b O ⟨c,e,K,z,L,q,p,B,k,D,rfl⟩
    cases L
    have e2:Lg w g=c:=by rw[z];simp[Lg]
    have T:k=M9 g:=D
    have h:Q (reduceHash (Builtin.Tuple.tupleHashOf (Lg w g))) { s with toks:=s.toks+(M9 g+1) }:=h
    rw[e2]at h;subst T
    show wpAny _ _ (retInt (Builtin.Tuple.tupleHashOf b.toList)) _ _ _
    rw[B]
    refine wpAny_ret_mkInt ?_
    show wpAny _ _ (if (decide (-(2:Int) ^ 63<=Builtin.Tuple.tupleHashOf c)&&decide (Builtin.Tuple.tupleHashOf c<2 ^ 63))=true then _ else _) Q E _
    unfold reduceHash at h
    by_cases hr:(decide (-(2:Int) ^ 63<=Builtin.Tuple.tupleHashOf c)&&decide (Builtin.Tuple.tupleHashOf c<2 ^ 63))=true
    ·rw[if_pos hr]
     rw[if_pos hr]at h
     exact ak (by simpa[dR] using h)
    ·rw[if_neg hr]
     rw[if_neg hr]at h
     exact aj (cL (ak (by simpa[dR] using h)))
theorem Aw9:∀(m:Nat) (d:t6),d.depth<=m->keyB d=true->∀(A:t_) (E:z_) (s:u_) (v:Value) (j:v6) (Q:Bool->u_->Prop),Reads s.heap v d j->Q true s->wpAny (model prog w) A (eqIsQuiet (m+1) v) Q E s:=by
 intro m
 induction m with
 | zero =>
  intro d q f A E s v j Q r h
  cases r with
  | none=>rw[fJ _ rfl];exact ak h
  | int i t=>rw[fJ _ rfl];exact ak h
  | str x t=>rw[fJ _ rfl];exact ak h
  | tuple=>exact absurd q (by simp[PyData.depth])
  | bool b=>cases f
  | list=>cases f
  | dict=>cases f
 | succ n O =>
  intro d q f A E s v j Q r h
  cases r with
  | none=>rw[fJ _ rfl];exact ak h
  | int i t=>rw[fJ _ rfl];exact ak h
  | str x t=>rw[fJ _ rfl];exact ak h
  | bool b=>cases f
  | list=>cases f
  | dict=>cases f
  | @tuple a o y n' M j G L l U =>
   have D:s.TypeIs (.ref a) _:=⟨o,G,L⟩
   have p := Nat.le_of_succ_le_succ (show PyData.depthAll _+1<=n+1 from q)
   unfold eqIsQuiet
   refine aj (dD D F.slot_tuple_eq.lookup ?_)
   refine aj (cY D isSubtype_tuple_tuple ?_)
   refine aj (cM G l ?_)
   refine aj ?_
   rw[<- il]
   refine j7 _ (λe r u=>r.1=none/\u=s/\∃c H,ReadsAll _ e c H/\Ff c=true/\PyData.depthAll c<=n) _ ?_ ?_ _ _ ⟨rfl,rfl,M,_,U,f,p⟩
   ·rintro v e r u ⟨C,rfl,c,H,J,k,z⟩
    cases J with
    | @cons _ _ N g P R K B =>
     obtain⟨S,T⟩:=aA.mp (show (keyB _&&Ff _)=true from k)
     have I:N.depth<=n/\PyData.depthAll g<=n:=by
      have:max _ _<=n:=z;lia
     refine aj (O _ I.1 S _ _ _ _ _ _ K ?_)
     exact ak ⟨rfl,rfl,g,_,B,T,I.2⟩
   ·rintro⟨r1,r2⟩ u ⟨C,rfl,_⟩
    subst C;exact ak h
def B0k (h:Heap)(k:t6)(a:Addr):Prop:=(keyB k=true/\k.canLay0=true/\k.depth<=7)/\∃as,Reads h (.ref a) k as
def Dk (prog:u6)(w:World):HeapKind prog w t6 where
 is:=B0k
 hash:=Ap4 w
 draws:=Xw
 room:=λA=>A.units+8<cLine
 inj:=λhx hy=>let ⟨⟨_,l,_⟩,_,r⟩:=hx;let ⟨_,_,r'⟩:=hy; SeqAt.Reads.unique _ _ _ _ _ l r r'
 keeps:=λx ho hd hs=>let ⟨c,_,r⟩:=x; ⟨c,_,V5 ho hd hs _ c.1 _ _ r⟩
 pyHash:=λhu hk h=>let ⟨c,_,r⟩:=hk; A3o 7 _ c.2.2 c.1 _ _ _ _ _ _ (bD (bW (by decide) _) hu) r h
 eqBool:=λ{A E s x y a b Q} hu hx hy h=>by
  obtain⟨c,_,r⟩:=hx;obtain⟨d,_,r'⟩:=hy
  refine SeqAt.eqAt_reads x y A s _ _ _ _ r r' c.2.1 d.2.1 (bD (bW (aq (Nat.min_le_left _ _) (aq c.2.2 (by decide))) _) hu) prog w E Q ?_
  have e:PyData.eqv x y=decide (x=y):=by
   have:=Jr x y c.1 d.1
   by_cases z:x=y
   ·rw[aR z];exact this.mpr z
   ·rw[bw z]
    cases q:PyData.eqv x y with
    | false=>rfl
    | true=>exact absurd (this.mp q) z
  rw[e];exact h
 quiet:=λhk h=>let ⟨c,_,r⟩:=hk; Aw9 7 _ c.2.2 c.1 _ _ _ _ _ _ r h
end
inductive V where
 | non | bl (b:Bool) | int (i:Int) | str (x:Str) | byt (b:Array UInt8) | flt (b:UInt64) | ref (a:Addr) | ty (n:String)
 deriving DecidableEq
abbrev n_:=List V
@[simp] theorem V.bl.injEq (a b:Bool):(V.bl a=V.bl b)=(a=b):=propext ⟨λh=>by cases h;rfl,λh=>by rw[h]⟩
@[simp] theorem V.int.injEq (a b:Int):(V.int a=V.int b)=(a=b):=propext ⟨λh=>by cases h;rfl,λh=>by rw[h]⟩
@[simp] theorem V.str.injEq (a b:Str):(V.str a=V.str b)=(a=b):=propext ⟨λh=>by cases h;rfl,λh=>by rw[h]⟩
@[simp] theorem V.byt.injEq (a b:Array UInt8):(V.byt a=V.byt b)=(a=b):=propext ⟨λh=>by cases h;rfl,λh=>by rw[h]⟩
@[simp] theorem V.ref.injEq (a b:Addr):(V.ref a=V.ref b)=(a=b):=propext ⟨λh=>by cases h;rfl,λh=>by rw[h]⟩
def RelV:V->Value->Prop
 | .non,u=>u=Value.none
 | .bl b,u=>u=Value.bool b
 | .int i,u=>∃t,u=Value.int i t
 | .str x,u=>∃t,u=Value.str x t
 | .byt b,u=>∃t,u=Value.bytes b t
 | .flt b,u=>∃t,u=Value.float b t
 | .ref a,u=>u=Value.ref a
 | .ty n,u=>u=Value.type n
abbrev Vals:n_->w6->Prop:=Paired RelV
theorem Vals.length (r:Vals xs us):xs.length=us.length:=dU r
theorem Vals.get:∀{xs:n_}{us:w6}{i:Nat}{x:V},Vals xs us->xs[i]?=some x->∃u,us[i]?=some u/\RelV x u
 | _,_,_,_,.nil,e=>by simp at e
 | _,_,0,_,.cons r _,e=>by simp at e;subst e;exact⟨_,rfl,r⟩
 | _,_,i+1,x,.cons _ t,e=>by
  obtain⟨u,h1,h2⟩:=Vals.get (i:=i) (x:=x) t (by simpa using e)
  exact⟨u,by simpa using h1,h2⟩
theorem Vals.set {x:V}{u:Value}(r:RelV x u):∀{xs:n_}{us:w6}(i:Nat),Vals xs us->Vals (xs.set i x) (us.set i u)
 | _,_,_,.nil=>.nil
 | _,_,0,.cons _ t=>.cons r t
 | _,_,i+1,.cons q t=>.cons q (Vals.set r i t)
theorem Vals.append:∀{xs ys:n_}{us ws:w6},Vals xs us->Vals ys ws->Vals (xs++ys) (us++ws)
 | _,_,_,_,.nil,s=>s
 | _,_,_,_,.cons r t,s=>.cons r (Vals.append t s)
theorem Vals.take:∀{xs:n_}{us:w6}(n:Nat),Vals xs us->Vals (xs.take n) (us.take n)
 | _,_,0,_=>.nil
 | _,_,_+1,.nil=>.nil
 | _,_,n+1,.cons r t=>.cons r (Vals.take n t)
theorem Vals.drop:∀{xs:n_}{us:w6}(n:Nat),Vals xs us->Vals (xs.drop n) (us.drop n)
 | _,_,0,r=>r
 | _,_,_+1,.nil=>.nil
 | _,_,n+1,.cons _ t=>Vals.drop n t
def RelO:Option V->u9->Prop
 | some v,some u=>RelV v u
 | none,none=>True
 | _,_=>False
def KV {κ:Type}:List (κ×V)->List (κ×Value)->Prop:=Paired λ(p:κ×V) (q:κ×Value)=>p.1=q.1/\RelV p.2 q.2
noncomputable def kV:Key->V
 | .inl i=>.int i
 | .inr x=>.str x
inductive HO where
 | lst (xs:n_)
 | tup (xs:n_)
 | dK (kvs:List (Key×V)) | dT (kvs:List (PyData×V))
 | set (S:Int->Bool) (n:Nat)
 | ins (C dx:Addr) (fs:List (Str×V))
 | own (x:Addr)
 | xd (fs:List (Str×V))
 | met (f x:Addr)
 | rng (lo hi:Int)
 | frz (o:Obj) (u:HO)
 | tbl (q:Str)
 | ext (φ:Heap->Prop)
abbrev Hp:=Addr->Option HO
noncomputable def upd (H:Hp) (a:Addr) (o:HO):Hp:=λb=>if b=a then some o else H b
theorem Ax : upd H a o a=some o:=by unfold upd;simp_all
theorem Ag (h:b≠a):upd H a o b=H b:=by unfold upd;simp_all
theorem Bc2 {H:Hp} (h:H a=some o) (h':H b=some u) (d:o≠u):a≠b:=by
 grind
theorem Bb {H:Hp} (h:H a=some o) (h':H b=none):a≠b:=by
 grind
mutual
def KTr (H:Hp):t6->V->Prop
 | .none,v=>v=.non
 | .int i,v=>v=.int i
 | .str x,v=>v=.str x
 | .tuple ds,v=>∃a vs,v=.ref a/\H a=some (.tup vs)/\KTrL H ds vs
 | _,_=>False
def KTrL (H:Hp):w5->n_->Prop
 | [],vs=>vs=[]
 | d::ds,vs=>∃v r,vs=v::r/\KTr H d v/\KTrL H ds r
end
mutual
theorem KTr.stay {H H':Hp}(ht:∀b xs,H b=some (.tup xs)->H' b=some (.tup xs)):∀{d:t6}{v:V},KTr H d v->KTr H' d v
 | .none,_,h=>h
 | .int _,_,h=>h
 | .str _,_,h=>h
 | .tuple _,_,⟨a,vs,e,ha,t⟩=>⟨a,vs,e,ht _ _ ha,KTrL.stay ht t⟩
theorem KTrL.stay {H H':Hp}(ht:∀b xs,H b=some (.tup xs)->H' b=some (.tup xs)):∀{ds:w5}{vs:n_},KTrL H ds vs->KTrL H' ds vs
 | [],_,h=>h
 | _::_,_,⟨v,r,e,h,t⟩=>⟨v,r,e,KTr.stay ht h,KTrL.stay ht t⟩
end
def Bv4 (k:t6):Prop:=keyB k=true/\k.canLay0=true/\k.depth<=7
def KAt (H:Hp)(k:t6)(a:Addr):Prop:=Bv4 k/\KTr H k (.ref a)
theorem KAt.stay (ht:∀b xs,H b=some (.tup xs)->H' b=some (.tup xs)) (h:KAt H k a):KAt H' k a:=⟨h.1,KTr.stay ht h.2⟩
def zY (h:Heap)(a:Addr)(items:v7):Prop:=∃o,h.get? a=some o/\o.cls=.type "tuple" /\ (∃n,o.data=.seq items n)/\o.dict=none
theorem zY.tup (x:zY h a items):IsTup h a items:=let ⟨o,h1,h2,h3,_⟩:=x; ⟨o,h1,h2,h3⟩
theorem zY.lt (x:zY h a items):a<h.objs.size:=x.tup.lt
theorem zY.new (h:Heap)(items:v7):zY (h.push { cls:=.type "tuple",data:=.seq items }) h.objs.size items:=⟨_,aJ _ rfl,rfl,⟨_,rfl⟩,rfl⟩
section
variable (P:u6)(w:World)
def zB (H:Hp)(h:Heap)(a:Addr):HO->Prop
 | .lst xs=>xs.length<=sizeLine/\∃(its:w6) (n:Nat),Vals xs its/\h.get? a=some { cls:=.type "list",data:=.seq its.toArray n }
 | .tup xs=>xs.length<=sizeLine/\∃its:w6,Vals xs its/\zY h a its.toArray
 | .dK kvs=>kvs.length<=sizeLine/\(a==sysModules)=false/\∃vs,KV kvs vs/\h.DictOf (Fe P w) a vs
 | .dT kvs=>kvs.length<=sizeLine/\(a==sysModules)=false/\∃xs:List (PyData×Addr×Value),
  Paired (λ(p:PyData×V) (q:PyData×Addr×Value)=>p.1=q.1/\KAt H p.1 q.2.1/\RelV p.2 q.2.2) kvs xs /\
  ∃o es ep,h.get? a=some o/\o.ExactDict/\o.data=.dict es ep/\es.toList=xs.map (entryOfKey (Dk P w))/\(xs.map (·.1)).Nodup
 | .set S n=>h.SetOf (intKind P w) a S n
 | .ins C dx fs=>H dx=some (.own a)/\fs.length<=1000/\dx≠a/\h.get? a=some (PySem.W.instObj C dx) /\
  ∃mA,h.Ns1 dx mA/\(∀f,RelO (fs.lookup f) (mA f))/\PySem.Within mA (fs.map (·.1))
 | .own _=>∃o,h.get? a=some o
 | .xd fs=>∃mA,h.Ns1 a mA/\∀f,RelO (fs.lookup f) (mA f)
 | .rng lo hi=>∃t u v,h.get? a=some { cls:=.type "range",data:=.fields #[.int lo t,.int hi u,.int 1 v] }
 | .frz o u=>h.get? a=some o/\zB H h a u
 | .tbl q=>∃ps:v7,h.get? a=some { cls:=.none,data:=.fields ps }/\TriplesOk ps.toList/\∀pos cv,codeAmong pos ps.toList=some cv->∃c o vs t,cv=.ref c/\H c=some (.frz o (.own 0))/\o.data=.fields vs/\vs[1]?=some (.str q t)
 | .met f x=>h.get? a=some (PySem.W.methodObj (.ref f) (.ref x))
 | .ext φ=>φ h/\(∃o,h.get? a=some o)/\∀h1 h2:Heap,φ h1->(∀o,h1.get? a=some o->h2.get? a=some o)->φ h2
def HOk (H:Hp)(h:Heap):Prop:=∀a o,H a=some o->zB P w H h a o
end
section
variable {P:u6}{w:World}{H H':Hp}{h h':Heap}{a:Addr}{o:HO}
theorem zB.lt (x:zB P w H h a o):a<h.objs.size:=by
 cases o with
 | lst d=>obtain⟨_,_,_,_,e⟩:=x;exact az e
 | tup d=>obtain⟨_,_,_,p⟩:=x;exact p.lt
 | dK b=>obtain⟨_,_,_,_,o,_,_,e,_⟩:=x;exact az e
 | dT b=>obtain⟨_,_,_,_,o,_,_,e,_⟩:=x;exact az e
 | set S n=>obtain⟨o,_,_,_,e,_⟩:=x;exact az e
 | ins C g c=>obtain⟨_,_,_,e,_⟩:=x;exact az e
 | own y=>obtain⟨_,e⟩:=x;exact az e
 | xd c=>obtain⟨_,⟨_,_,_,e,_⟩,_⟩:=x;exact az e
 | rng j k=>obtain⟨_,_,_,e⟩:=x;exact az e
 | frz l u=>obtain⟨e,_⟩:=x;exact az e
 | tbl q=>obtain⟨_,e,_⟩:=x;exact az e
 | met f y=>exact az (x)
 | ext i=>obtain⟨_,⟨_,e⟩,_⟩:=x;exact az e
theorem Paired.mapP {α β:Type}{F G:α->β->Prop}:∀{l₁:List α}{l₂:List β},Paired F l₁ l₂->(∀a b,F a b->G a b)->Paired G l₁ l₂
 | _,_,.nil,_=>.nil
 | _,_,.cons r t,f=>.cons (f _ _ r) (Paired.mapP t f)
theorem zB.stay (x:zB P w H h a o)(k:∀b u,(b=a\/H b=some (.own a))->h.get? b=some u->h'.get? b=some u)
 (ho:∀b,H b=some (.own a)->H' b=some (.own a)) (ht:∀b m,H b=some (.tup m)->H' b=some (.tup m)) (hz:∀b o u,H b=some (.frz o u)->H' b=some (.frz o u):=by exact λ_ _ _ q=>q):zB P w H' h' a o:=by
 induction o with
 | lst m=>obtain⟨z,l,n,r,e⟩:=x;exact⟨z,l,n,r,k _ _ (.inl rfl) e⟩
 | tup m=>obtain⟨z,l,r,g,e,c⟩:=x;exact⟨z,l,r,g,k _ _ (.inl rfl) e,c⟩
 | dK A=>obtain⟨z,y,D,r,g,i,j,e,c⟩:=x;exact⟨z,y,D,r,g,i,j,k _ _ (.inl rfl) e,c⟩
 | dT A =>
  obtain⟨z,y,m,r,g,i,j,e,c⟩:=x
  exact⟨z,y,m,Paired.mapP r λp q z=>⟨z.1,z.2.1.stay ht,z.2.2⟩,g,i,j,k _ _ (.inl rfl) e,c⟩
 | set S n=>obtain⟨g,i,j,t,e,c⟩:=x;exact⟨g,i,j,t,k _ _ (.inl rfl) e,c⟩
 | ins C M J =>
  obtain⟨d,z,G,e,s,⟨B,i,j,E,c⟩,r⟩:=x;exact⟨ho _ d,z,G,k _ _ (.inl rfl) e,s,⟨B,i,j,k _ _ (.inr d) E,c⟩,r⟩
 | own y=>obtain⟨g,e⟩:=x;exact⟨g,k _ _ (.inl rfl) e⟩
 | xd J=>obtain⟨s,⟨B,i,j,e,c⟩,r⟩:=x;exact⟨s,⟨B,i,j,k _ _ (.inl rfl) e,c⟩,r⟩
 | rng O N=>obtain⟨t,u,v,e⟩:=x;exact⟨t,u,v,k _ _ (.inl rfl) e⟩
 | frz g u K=>obtain⟨e,q⟩:=x;exact⟨k _ _ (.inl rfl) e,K q⟩
 | tbl q =>
  obtain⟨I,e,t,f⟩:=x
  exact⟨I,k a _ (.inl rfl) e,t,λL Q z=>let ⟨c,g,D,tk,e1,E,e3⟩:=f _ _ z; ⟨c,g,D,tk,e1,hz _ _ _ E,e3⟩⟩
 | met f y =>
  have e:h.get? a=some _:=x
  show h'.get? a=some _
  grind
 | ext R=>obtain⟨p,⟨o,e⟩,F⟩:=x;exact⟨F _ _ p λo q=>k _ _ (.inl rfl) q,⟨o,k _ _ (.inl rfl) e⟩,F⟩
theorem HOk.lt (x:HOk P w H h)(e:H a=some o):a<h.objs.size:=(x a o e).lt
theorem HOk.fresh (x:HOk P w H h)(e:h.objs.size<=a):H a=none:=by
 cases q:H a with
 | none=>rfl
 | some u=>exact absurd (aK (x.lt q) e) (bh _)
theorem HOk.kept (x:HOk P w H h)(k:∀b u,h.get? b=some u->h'.get? b=some u):HOk P w H h':=λa o e =>
 (x a o e).stay (λb u _ q=>k b u q) (λ_ q=>q) λ_ _ q=>q
theorem HOk.laid (x:HOk P w H h)(k:∀b u,h.get? b=some u->h'.get? b=some u)(hp:h.objs.size<=a)(f:zB P w (upd H a o) h' a o):HOk P w (upd H a o) h':=λb u e=>by
 have d:=x.fresh hp
 by_cases hb:b=a
 ·subst hb;rw[Ax]at e;simp_all
 ·rw[Ag hb]at e
  exact(x b u e).stay (λc v _ q=>k c v q) λc q=>by rw[Ag (Bb q d)];grind λc g q=>by rw[Ag (Bb q d)];grind λc i g q=>by rw[Ag (Bb q d)];grind
end
def Rd (H:Hp)(a:Addr)(u:HO):Prop:=H a=some u\/∃o,H a=some (.frz o u)
theorem Rd.ok (r:Rd H a u) (x:HOk P w H h):zB P w H h a u:=by
 rcases r with r | ⟨o,r⟩
 ·exact x a u r
 ·obtain⟨_,q⟩:=x a _ r
  lia
def Mut:Option HO->Prop
 | some (.lst _)=>True
 | some (.dK _)=>True
 | some (.dT _)=>True
 | some (.set _ _)=>True
 | some (.ins _ _ _)=>True
 | some (.ext _)=>True
 | _=>False
section
variable {P:u6}{w:World}{H:Hp}{h h':Heap}{x e:Addr}{o':HO}
theorem HOk.write (s:HOk P w H h)(f:Mut (H x))(he:e=x\/H e=some (.own x))(k:∀b u,b≠e->h.get? b=some u->h'.get? b=some u)(m:∃u,h'.get? e=some u)
 (l:zB P w (upd H x o') h' x o'):HOk P w (upd H x o') h':=λb u q=>by
 have a:∀c y,H c=some (.own y)->c≠x:=λc y r z=>by subst z;rw[r]at f;exact f
 have i:∀c d,H c=some (.tup d)->c≠x:=λc d r z=>by subst z;rw[r]at f;exact f
 have g:∀c n d,H c=some (.frz n d)->c≠x:=λc n d r z=>by subst z;rw[r]at f;exact f
 by_cases hb:b=x
 ·subst hb;rw[Ax]at q;cases q;exact l
 ·rw[Ag hb]at q
  by_cases hbe:b=e
  ·have o:H b=some (.own x):=by
    simp_all
   rw[q]at o;cases o;obtain⟨v,p⟩:=m
   exact⟨v,by rw[hbe];exact p⟩
  ·refine (s b u q).stay (λc v j r=>k c v ?_ r) (λc r=>by rw[Ag (a c b r)];exact r) (λc d r=>by rw[Ag (i c _ r)];exact r) λc n d r=>by rw[Ag (g c _ _ r)];exact r
   rcases j with rfl | j
   ·exact hbe
   ·rintro rfl
    rcases he with z | z
    ·exact a c b j z
    ·rw[j]at z;cases z;exact hb rfl
end
structure Un (fs ex:v6) (H H':Hp) (h h':Heap):Prop where
 keep:∀b o,h.get? b=some o->H b=none->b∉fs->b∉ex->h'.get? b=some o
 slot:∀b o,h.get? b=some o->H b=none->b∈fs->b∉ex->∃sl,h'.get? b=some { o with slots:=sl }
 free:∀b o,h.get? b=some o->H b=none->b∉ex->H' b=none
 there:∀b o,h.get? b=some o->b∉ex->∃o',h'.get? b=some o'
 tups:∀b xs,H b=some (.tup xs)->H' b=some (.tup xs)
 frzs:∀b o u,H b=some (.frz o u)->H' b=some (.frz o u)
 tbls:∀b q,H b=some (.tbl q)->H' b=some (.tbl q)
section
variable {fs ex:v6}{H H1:Hp}{h h1 h':Heap}{a x e:Addr}{o:HO}
theorem Un.any (u:Un fs ex H H1 h h1) (q:h.get? b=some ob) (n:H b=none) (hx:b∉ex):∃sl,h1.get? b=some { ob with slots:=sl }:=by
 by_cases hb:b∈fs
 ·exact u.slot b _ q n hb hx
 ·exact⟨ob.slots,u.keep b _ q n hb hx⟩
theorem Un.kept (k:∀b u,h.get? b=some u->h'.get? b=some u):Un fs ex H H h h' :=
 ⟨λb a q _ _ _=>k b _ q,λb a q _ _ _=>⟨a.slots,k b a q⟩,λ_ _ _ n _=>n,λb a q _=>⟨a,k b _ q⟩,λ_ _ q=>q,λ_ _ _ q=>q,λ_ _ q=>q⟩
theorem Un.refl:Un fs ex H H h h:=Un.kept λ_ _ q=>q
theorem Un.laid (k:∀b u,h.get? b=some u->h'.get? b=some u)(hp:h.objs.size<=a)(hn:H a=none):Un fs ex H (upd H a o) h h' where
 keep:=λb u q _ _ _=>k b u q
 slot:=λb u q _ _ _=>⟨u.slots,k b u q⟩
 free:=λb u q n _=>by rw[Ag (aP (aK (az q) hp))];exact n
 there:=λb u q _=>⟨u,k b u q⟩
 tups:=λb xs q=>by rw[Ag (Bb q hn)];exact q
 frzs:=λb u xs q=>by rw[Ag (Bb q hn)];exact q
 tbls:=λb ps q=>by rw[Ag (Bb q hn)];exact q
theorem Un.write (d:Mut (H x))(he:e=x\/H e=some (.own x))(k:∀b u,b≠e->h.get? b=some u->h'.get? b=some u)(f:∃u,h'.get? e=some u):Un fs ex H (upd H x o) h h':=by
 have i:∀b,H b=none->b≠x:=λb n z=>by subst z;rw[n]at d;exact d
 have c:∀b,H b=none->b≠e:=λb n z=>by
  grind
 have a:∀b u,H b=some u->¬ Mut (some u)->b≠x:=λb u q l z=>by simp_all
 refine⟨λb u q n _ _=>k b u (c b n) q,λb u q n _ _=>⟨u.slots,k b u (c b n) q⟩,λb u q n _=>by rw[Ag (i b n)];grind,λb u q _=>?_,
  λb g q=>by rw[Ag (a b _ q λz=>z)];grind,λb u g q=>by rw[Ag (a b _ q λz=>z)];grind,λb j q=>by rw[Ag (a b _ q λz=>z)];grind⟩
 grind
end
noncomputable def trk (h:Heap) (H:Hp):v6:=(List.range h.objs.size).filter λa=>(H a).isSome
def Yr (h:Heap)(H:Hp):Heap:=PySem.W.hideAll h (trk h H)
theorem A6g (h:Heap)(H:Hp):(Yr h H).objs.size=h.objs.size:=PySem.W.hideAll_size _ _
theorem A9o (e:h.get? b=some o) (n:H b=none):(Yr h H).get? b=some o :=
 PySem.W.hideAll_get _ e λa=>by
  have q := (ir.mp a).2
  grind
theorem Bj5 (e:(Yr h H).get? b=some o):h.get? b=some o/\H b=none:=by
 have a := PySem.W.of_hideAll _ e
 refine⟨a,?_⟩
 cases q:H b with
 | none=>rfl
 | some x =>
  have c:b∈trk h H:=ir.mpr ⟨List.mem_range.mpr (az a),by grind⟩
  have z:(Yr h H).get? b=none:=PySem.W.hideAll_none _ c
  simp_all
noncomputable def Bh3 (g h:Heap) (L:Addr):y_:=(List.range h.objs.size).filterMap λa=>if a=L\/(g.get? a).isSome=true then none else (h.get? a).map λo=>(a,o)
def rest (g h:Heap)(L d:Addr):y_:=(Bh3 g h L).filter λp=>decide (p.1≠d)
noncomputable def A0p (T:Addr) (q:Str):Obj:={ cls:=.str q 0,data:=.cell (some (.ref T)) }
noncomputable def Yc (o:Obj):Option (Addr×Str):=match o.data with
 | .cell (some (.ref T))=>(match o.cls with
  | .str q _=>some (T,q)
  | _=>none)
 | _=>none
def Dq (K:v9):List (Addr×Str):=K.filterMap λp=>Yc p.2
structure Mod (K:v9) (mg:x_) (base:Heap):Prop where
 kin:K.In base
 glob:base.Ns mainGlobals mg
 blt:∃mb,base.Ns builtinsNs mb/\∀x:Str,x ≠ "__name__" -> mb x=bootBuiltins x
 nolimit:base.NoLimit
 bmod:∃bm o,mg "__builtins__" = some (.ref bm)/\bm≠builtinsNs/\bm≠mainGlobals/\base.get? bm=some o/\o.cls=.type "module" /\ o.dict=some builtinsNs/\o.data=.plain
structure Cx where
 prog:u6
 w:World
 K:v9
 mg:x_
 base:Heap
 A:t_
 N:v4
 s₀:u_
 H₀:Hp
 env:Env
 outer:List Env
 stack:List Env
 ex:v6
 fn:Str->Bool
 calm:Bool
 pn:y_
 xe:z_
noncomputable def frs (l:List Env):v6:=l.filterMap (·.frame)
abbrev Cx.fs (X:Cx):v6:=frs X.outer
def Vis (sc:Scope)(x:Str):Prop:=sc.names.lookup x=some .local\/sc.names.lookup x=some .cell\/sc.names.lookup x=some .free
def Loc (sc:Scope)(x:Str):Prop:=sc.names.lookup x=some .local\/sc.names.lookup x=some .cell
def Look (env:Env)(h:Heap)(m:x_)(x:Str)(u:Value):Prop :=
 (env.kindOf x=some .local/\m x=some u)\/((env.kindOf x=some .cell\/env.kindOf x=some .free)/\∃c,env.cells.lookup x=some c/\h.IsCell c (some u))
structure Cx.Ok (X:Cx):Prop where
 mod:Mod X.K X.mg X.base
 kind:X.env.scope.kind=.function
 glob:X.env.globals=mainGlobals
 blt:X.env.builtins=builtinsNs
 above:X.s₀.heap.objs.size<=X.env.locals
 inj:∀x y c,X.env.cells.lookup x=some c->X.env.cells.lookup y=some c->x=y
 has:∀x,(X.env.kindOf x=some .cell\/X.env.kindOf x=some .free)->∃c,X.env.cells.lookup x=some c
 cab:∀x c,X.fn x=true->X.env.cells.lookup x=some c->X.s₀.heap.objs.size<=c
 hd:X.calm=true->X.A.handled=none
 frames:X.A.frames=some X.stack
 stk:X.stack=X.outer\/(X.stack=X.env::X.outer/\X.env.frame=some X.env.locals)
 exf:∀b∈X.ex,b≠X.env.locals/\∀x c,X.env.cells.lookup x=some c->c≠b
 bs:∀b o,X.base.get? b=some o->X.s₀.heap.get? b=some o/\X.H₀ b=none
 bsz:X.base.objs.size<=X.s₀.heap.objs.size
 noex:∀b o,X.base.get? b=some o->b∉X.ex
 exfs:∀b∈X.ex,b∉X.fs
 funs:X.s₀.heap.FunFrames X.base X.outer
 frf:∀b∈X.fs,X.H₀ b=none
 tab:∀p∈Dq X.K,X.H₀ p.1=some (.tbl p.2)
structure Inv (X:Cx) (pins:y_) (σ:List (Option V)) (H:Hp) (s:u_):Prop where
 ok:X.Ok
 os:s.os=X.s₀.os
 bare:AllBare s.gens
 base:Un X.fs X.ex X.H₀ H X.s₀.heap s.heap
 loc:∃m,s.heap.Ns X.env.locals m/\∀(i:Nat) (x:Str) (v:V),X.N[i]?=some x->σ[i]?=some (some v)->Vis X.env.scope x->∃u,RelV v u/\Look X.env s.heap m x u
 cell:∀x c,X.env.cells.lookup x=some c->∃v,s.heap.IsCell c v
 free:H X.env.locals=none
 freeC:∀x c,X.env.cells.lookup x=some c->H c=none
 pin:∀p∈X.pn++pins,s.heap.get? p.1=some p.2/\H p.1=none/\p.1≠X.env.locals/\p.1∉X.fs/\∀v,p.2.data≠.cell v
 hok:HOk X.prog X.w H s.heap
 len:σ.length=X.N.length
section
variable {X:Cx}{pins:y_}{σ:List (Option V)}{H H':Hp}{s:u_}{h':Heap}
theorem Cx.Ok.nofr (c:X.Ok) (e:X.base.get? b=some o):b∉X.fs:=λa=>by
 have:=(c.funs.mem a).1
 simp_all
theorem Inv.bs (I:Inv X pins σ H s):∀b o,X.base.get? b=some o->s.heap.get? b=some o/\H b=none:=λb o e =>
 ⟨I.base.keep b o (I.ok.bs b o e).1 (I.ok.bs b o e).2 (I.ok.nofr e) (I.ok.noex b o e),I.base.free b o (I.ok.bs b o e).1 (I.ok.bs b o e).2 (I.ok.noex b o e)⟩
theorem Inv.bk (I:Inv X pins σ H s):∀b o,X.base.get? b=some o->s.heap.get? b=some o:=λb o e=>(I.bs b o e).1
theorem Inv.mod (I:Inv X pins σ H s):Mod X.K X.mg X.base:=I.ok.mod
theorem Inv.kIn (I:Inv X pins σ H s):X.K.In s.heap:=I.ok.mod.kin.keeps I.bk
theorem Inv.fr (I:Inv X pins σ H s):∃m,Fr X.base X.env.locals s.heap m :=
 let ⟨m,hn,_⟩:=I.loc
 ⟨m,hn,I.bk,aq I.ok.bsz I.ok.above⟩
theorem Inv.lt (I:Inv X pins σ H s):X.env.locals<s.heap.objs.size:=let ⟨_,hn,_⟩:=I.loc;hn.lt
theorem Inv.sz (I:Inv X pins σ H s):X.s₀.heap.objs.size<=s.heap.objs.size:=aq I.ok.above (cR I.lt)
theorem Inv.nofs (I:Inv X pins σ H s) (h:s.heap.objs.size<=a):a∉X.fs:=λc=>by
 obtain⟨_,o,b,_⟩:=I.ok.funs.mem c;exact absurd (aK (az b) (aq I.sz h)) (bh _)
theorem Inv.cne (I:Inv X pins σ H s):∀x c,X.env.cells.lookup x=some c->c≠X.env.locals:=λx c e z=>by
 obtain⟨v,o,d,i⟩:=I.cell x c e;obtain⟨m,⟨f,g,h,a,b,_⟩,_⟩:=I.loc
 simp_all
theorem Inv.funs (I:Inv X pins σ H s):s.heap.FunFrames X.base X.outer:=by
 have d:∀(l:List _),(∀b∈frs l,b∈X.fs)->X.s₀.heap.FunFrames X.base l->s.heap.FunFrames X.base l:=by
  intro l
  induction l with
  | nil=>intro _ _;trivial
  | cons h r j =>
   intro g q;obtain⟨i,⟨L,o,f,k,m,n⟩,p⟩:=q
   have c := g L (by unfold frs;simp_all)
   obtain⟨t,e⟩:=I.base.slot L o m (I.ok.frf L c) c λz=>I.ok.exfs L z c
   exact⟨i,⟨L,_,f,k,e,n⟩,j (λb a=>g b (by unfold frs;rw[dW,f];exact bI _ a)) p⟩
 exact d _ (λ_ a=>a) I.ok.funs
theorem Inv.stack (I:Inv X pins σ H s):s.heap.FunFrames X.base X.stack:=by
 rcases I.ok.stk with e | ⟨e,b⟩
 ·rw[e];exact I.funs
 ·rw[e]
  obtain⟨m,a,_⟩:=I.loc
  refine .cons (by rw[I.ok.kind];decide) b a ?_ I.funs
  exact Heap.get?_none_of_le (aq I.ok.bsz I.ok.above)
theorem Inv.stkSub (I:Inv X pins σ H s):∀b∈frs X.stack,b∈X.env.locals::X.fs:=λb a=>by
 rcases I.ok.stk with e | ⟨e,c⟩
 ·simp_all
 ·rw[e]at a
  unfold frs at a;rw[dW,c]at a;exact a
theorem Inv.stkFree (I:Inv X pins σ H s):∀b∈frs X.stack,H b=none:=λb a=>by
 rcases aB.mp (I.stkSub b a) with e | a
 ·rw[e];exact I.free
 ·obtain⟨_,o,c,_⟩:=I.ok.funs.mem a
  exact I.base.free b o c (I.ok.frf b a) λz=>I.ok.exfs b z a
theorem Inv.step {ch:v6}(I:Inv X pins σ H s)
 (j:∀b∈ch,(b∈X.ex\/X.s₀.heap.objs.size<=b)/\b≠X.env.locals/\(∀x c,X.env.cells.lookup x=some c->c≠b)/\∀p∈X.pn++pins,p.1≠b)
 (t:∀b o,b≠X.env.locals->b∉X.fs->b∉ch->s.heap.get? b=some o->H b=none->h'.get? b=some o)
 (slot:∀b o,b≠X.env.locals->b∈X.fs->b∉ch->s.heap.get? b=some o->H b=none->∃L,h'.get? b=some { o with slots:=L }) (f:∀b o,b∉ch->s.heap.get? b=some o->H b=none->H' b=none)
 (w:∀b o,b∉ch->s.heap.get? b=some o->∃O,h'.get? b=some O)
 (D:∀b J,H b=some (.tup J)->H' b=some (.tup J)) (F:∀b o u,H b=some (.frz o u)->H' b=some (.frz o u)) (C:∀b q,H b=some (.tbl q)->H' b=some (.tbl q))
 (ns:∀m,s.heap.Ns X.env.locals m->h'.Ns X.env.locals m) (N:HOk X.prog X.w H' h') (hg:AllBare g') :
 Inv X pins σ H' { s with heap:=h',gens:=g',drawn:=d',toks:=t' }:=by
 have G:∀b o,X.s₀.heap.get? b=some o->b≠X.env.locals:=λb o e=>aP (aK (az e) I.ok.above)
 have h:∀b o,X.s₀.heap.get? b=some o->b∉X.ex->b∉ch:=λb o e a A=>by
  rcases (j b A).1 with z | z
  ·exact a z
  ·exact absurd (aK (az e) z) (bh _)
 have g:∀x c,X.env.cells.lookup x=some c->∀v,s.heap.IsCell c v->h'.IsCell c v:=λx c e v ⟨o,B,K⟩=>by
  have E:c∉ch:=λz=>(j c z).2.2.1 x c e rfl
  by_cases hc:c∈X.fs
  ·obtain⟨L,q⟩:=slot c o (I.cne x c e) hc E B (I.freeC x c e)
   exact⟨_,q,K⟩
  ·exact⟨o,t c o (I.cne x c e) hc E B (I.freeC x c e),K⟩
 refine⟨I.ok,I.os,hg,⟨λb o e n A a=>?_,λb o e n A a=>?_,λb o e n a=>?_,λb o e a=>?_,λb J e=>D b _ (I.base.tups b _ e),λb o J e=>F b o _ (I.base.frzs b o _ e),λb V e=>?_⟩,?_,λx c e=>?_,?_,λx c e=>?_,λp Q=>?_,N,I.len⟩
 ·exact t b o (G b o e) A (h b o e a) (I.base.keep b o e n A a) (I.base.free b o e n a)
 ·obtain⟨L,y⟩:=I.base.slot b o e n A a
  obtain⟨P,M⟩:=slot b _ (G b o e) A (h b o e a) y (I.base.free b o e n a);exact⟨P,M⟩
 ·obtain⟨O,y⟩:=I.base.there b o e a
  exact f b _ (h b o e a) y (I.base.free b o e n a)
 ·obtain⟨O,y⟩:=I.base.there b o e a
  exact w b _ (h b o e a) y
 ·exact C b _ (I.base.tbls b _ e)
 ·obtain⟨m,R,S⟩:=I.loc
  refine⟨m,ns m R,λi x v y M T=>?_⟩
  obtain⟨u,r,l⟩:=S i x v y M T
  refine⟨u,r,?_⟩
  rcases l with l | ⟨k,c,e,z⟩
  ·exact .inl l
  ·exact .inr ⟨k,c,e,g x c e _ z⟩
 ·obtain⟨v,z⟩:=I.cell x c e
  exact⟨v,g x c e v z⟩
 ·obtain⟨m,⟨o,_,_,B,_⟩,_⟩:=I.loc
  exact f _ o (λz=>(j _ z).2.1 rfl) B I.free
 ·obtain⟨v,o,B,K⟩:=I.cell x c e
  exact f c o (λz=>(j c z).2.2.1 x c e rfl) B (I.freeC x c e)
 ·obtain⟨e,n,W,U,d⟩:=I.pin p Q
  grind
theorem Inv.un (I:Inv X pins σ H s) (u:Un X.fs [] H H' s.heap h') (g:HOk X.prog X.w H' h'):Inv X pins σ H' { s with heap:=h',toks:=t' }:=by
 obtain⟨m,⟨o,l,v,h,r⟩,_⟩:=id I.loc
 obtain⟨q,j⟩:=u.any h I.free (by simp)
 exact I.step (ch:=[]) (λ_ z=>nomatch z) (λb o _ c _ e n=>u.keep b o e n c (by simp)) (λb o _ c _ e n=>u.slot b o e n c (by simp)) (λb o _ e n=>u.free b o e n (by simp)) (λb o _ e=>u.there b o e (by simp)) u.tups u.frzs u.tbls (λt i=>by
  obtain⟨p,d,f,a,k⟩:=i;rw[h]at a;cases a
  exact⟨_,d,f,j,k⟩) g I.bare
theorem Inv.call (I:Inv X pins σ H s) (u:Un (frs X.stack) ch H H' s.heap h') (g:HOk X.prog X.w H' h') (hg:AllBare g')
 (d:∀b∈ch,(b∈X.ex\/X.s₀.heap.objs.size<=b)/\b≠X.env.locals/\(∀x c,X.env.cells.lookup x=some c->c≠b)/\∀p∈X.pn++pins,p.1≠b) :
 Inv X pins σ H' { s with heap:=h',gens:=g',drawn:=d',toks:=t' }:=by
 obtain⟨m,⟨o,v,A,k,r⟩,_⟩:=id I.loc
 obtain⟨y,h⟩:=u.any k I.free λz=>(d _ z).2.1 rfl
 exact I.step d (λb o h q a e n=>u.keep b o e n (λz=>(aB.mp (I.stkSub b z)).elim h q) a) (λb o _ _ a e n=>u.any e n a) (λb o a e n=>u.free b o e n a) (λb o a e=>u.there b o e a) u.tups u.frzs u.tbls (λB t=>by
  obtain⟨w,j,i,f,l⟩:=t;rw[k]at f;cases f
  exact⟨_,j,i,h,l⟩) g hg
theorem Inv.turned (I:Inv X pins σ H s) (k:∀b o,b≠it->s.heap.get? b=some o->h'.get? b=some o) (hn:H it=none) (h:it≠X.env.locals)
 (h1:it∈X.ex\/X.s₀.heap.objs.size<=it) (h2:∀x c,X.env.cells.lookup x=some c->c≠it) (j:∀p∈X.pn++pins,p.1≠it):Inv X pins σ H { s with heap:=h',toks:=t' }:=by
 refine I.step (ch:=[it]) (λb t=>?_) (λb o _ _ a e _=>k b o (λz=>a (by grind)) e) (λb o _ _ a e _=>⟨o.slots,k b o (λz=>a (by grind)) e⟩) (λ_ _ _ _ n=>n)
  (λb o a e=>⟨o,k b o (λz=>a (by grind)) e⟩) (λ_ _ e=>e) (λ_ _ _ e=>e) (λb l e=>e) (λm g=>?_) (λb u e=>?_) I.bare
 ·grind
 ·obtain⟨o,f,i,d,r⟩:=g
  exact⟨o,f,i,k _ o (aD h) d,r⟩
 ·refine (I.hok b u e).stay (λc v a q=>k c v ?_ q) (λ_ q=>q) λ_ _ q=>q
  grind
theorem Inv.tok (I:Inv X pins σ H s)(t:Nat):Inv X pins σ H { s with toks:=t }:=I.un Un.refl I.hok
theorem Inv.kept (I:Inv X pins σ H s) (k:∀b u,s.heap.get? b=some u->h'.get? b=some u):Inv X pins σ H { s with heap:=h',toks:=t' }:=I.un (Un.kept k) (I.hok.kept k)
theorem Inv.laid (I:Inv X pins σ H s) (k:∀b u,s.heap.get? b=some u->h'.get? b=some u) (hp:s.heap.objs.size<=a) (c:zB X.prog X.w (upd H a o) h' a o) :
 Inv X pins σ (upd H a o) { s with heap:=h',toks:=t' }:=I.un (Un.laid k hp (I.hok.fresh hp)) (I.hok.laid k hp c)
theorem Inv.write (I:Inv X pins σ H s) (d:Mut (H x)) (he:e=x\/H e=some (.own x)) (k:∀b u,b≠e->s.heap.get? b=some u->h'.get? b=some u) (a:∃u,h'.get? e=some u)
 (c:zB X.prog X.w (upd H x o) h' x o):Inv X pins σ (upd H x o) { s with heap:=h',toks:=t' }:=I.un (Un.write d he k a) (I.hok.write d he k a c)
theorem Inv.pins_of (I:Inv X pins σ H s) (h:∀p∈a,s.heap.get? p.1=some p.2/\H p.1=none/\p.1≠X.env.locals/\p.1∉X.fs/\∀v,p.2.data≠.cell v):Inv X a σ H s :=
 ⟨I.ok,I.os,I.bare,I.base,I.loc,I.cell,I.free,I.freeC,λp b=>(bx.mp b).elim (λz=>I.pin p (aX _ z)) (h p),I.hok,I.len⟩
theorem Aq9 {N:v4}(hN:N.Nodup){i j:Nat} (a:N[i]?=some x) (b:N[j]?=some x):i=j:=by
 obtain⟨e,d⟩:=bG.mp a;obtain⟨f,c⟩:=bG.mp b;exact(List.getElem_inj hN).mp (d.trans c.symm)
theorem Zm (I:Inv X pins σ H s) (hN:X.N.Nodup) (hi:X.N[i]?=some x) (hx:Loc X.env.scope x) (r:RelV v u)
 (h:∀s',Inv X pins (σ.set i (some v)) H s'->(∃a,Heap.SameBut a s.heap s'.heap/\(a=X.env.locals\/X.env.cells.lookup x=some a))->Q () s') (hf:X.fn x=true\/X.env.scope.names.lookup x=some .local:=by first | exact .inl rfl | exact .inr rfl | assumption):wpAny M A (storeName X.env x u) Q E s:=by
 obtain⟨m,S,hl⟩:=id I.loc
 have K:(X.env.scope.kind==.class||(X.env.scope.kind==.module&&X.env.locals != X.env.globals))=false:=by rw[I.ok.kind];rfl
 have C:i<σ.length:=by rw[I.len];exact(bG.mp hi).1
 have J:=I.cne
 have g:∀{a:Addr} {L:Heap},(∃o,s.heap.get? a=some o/\H a=none)->Heap.SameBut a s.heap L->HOk X.prog X.w H L:=λ{a L} ha f b ob e=>by
  obtain⟨_,_,w⟩:=ha
  refine (I.hok b ob e).stay (λc w' t q=>(f.2 c ?_).trans q) (λ_ q=>q) λ_ _ q=>q
  rintro rfl
  rcases t with rfl | t
  ·rw[w]at e;cases e
  ·rw[w]at t;cases t
 rcases hx with D | D
 ·refine wpAny_storeName_local D S (λL hn' f=>?_) K
  obtain⟨oL,_,_,hoL,_⟩:=id S
  refine h _ ⟨I.ok,I.os,I.bare,⟨λb o e n F hx=>?_,λb o e n F hx=>?_,I.base.free,λb o e hx=>?_,I.base.tups,I.base.frzs,I.base.tbls⟩,⟨_,hn',λj y v' l B T=>?_⟩,λy c e=>?_,I.free,I.freeC,λp U=>?_,g ⟨oL,hoL,I.free⟩ f,by simpa using I.len⟩ ⟨_,f,.inl rfl⟩
  ·exact(f.2 b (aP (aK (az e) I.ok.above))).trans (I.base.keep b o e n F hx)
  ·obtain⟨W,l⟩:=I.base.slot b o e n F hx
   exact⟨W,(f.2 b (aP (aK (az e) I.ok.above))).trans l⟩
  ·obtain⟨Y,l⟩:=I.base.there b o e hx
   exact⟨Y,(f.2 b (aP (aK (az e) I.ok.above))).trans l⟩
  ·by_cases hj:j=i
   ·subst hj
    rw[hi]at l;cases l;rw[cG C]at B
    cases B
    exact⟨u,r,.inl ⟨D,by simp⟩⟩
   ·rw[cB (aD hj)]at B
    obtain⟨Z,r',q⟩:=hl j y _ l B T
    refine⟨Z,r',?_⟩
    rcases q with ⟨k,e⟩ | ⟨k,c,e,z⟩
    ·refine .inl ⟨k,?_⟩
     have:y≠x:=λe=>hj (Aq9 hN l (e▸hi))
     simp[this,e]
    ·exact .inr ⟨k,c,e,z.sameBut f (J y c e)⟩
  ·obtain⟨w',z⟩:=I.cell y c e
   exact⟨w',z.sameBut f (J y c e)⟩
  ·obtain⟨e,n,R,nf,d⟩:=I.pin p U
   exact⟨(f.2 _ R).trans e,n,R,nf,d⟩
 ·have G:X.fn x=true:=by
   rcases hf with z | z
   ·exact z
   ·rw[z]at D;cases D
  obtain⟨c,t⟩:=I.ok.has x (.inl D);obtain⟨w',z⟩:=I.cell x c t
  refine wpAny_storeName_cell I.ok.kind D t z λL N f=>?_
  obtain⟨oc,P,O⟩:=id z
  refine h _ ⟨I.ok,I.os,I.bare,⟨λb o e n F hx=>?_,λb o e n F hx=>?_,I.base.free,λb o e hx=>?_,I.base.tups,I.base.frzs,I.base.tbls⟩,⟨m,S.sameBut f (aD (J x c t)),λj y v' l B T=>?_⟩,λy c' e=>?_,I.free,I.freeC,λp U=>?_,g ⟨oc,P,I.freeC x c t⟩ f,by simpa using I.len⟩ ⟨c,f,.inr t⟩
  ·exact(f.2 b (aP (aK (az e) (I.ok.cab x c G t)))).trans (I.base.keep b o e n F hx)
  ·obtain⟨W,l⟩:=I.base.slot b o e n F hx
   exact⟨W,(f.2 b (aP (aK (az e) (I.ok.cab x c G t)))).trans l⟩
  ·obtain⟨Y,l⟩:=I.base.there b o e hx
   exact⟨Y,(f.2 b (aP (aK (az e) (I.ok.cab x c G t)))).trans l⟩
  ·by_cases hj:j=i
   ·subst hj
    rw[hi]at l;cases l;rw[cG C]at B
    cases B
    exact⟨u,r,.inr ⟨.inl D,c,t,N⟩⟩
   ·rw[cB (aD hj)]at B
    obtain⟨Z,r',q⟩:=hl j y _ l B T
    refine⟨Z,r',?_⟩
    rcases q with q | ⟨k,c',e,z'⟩
    ·exact .inl q
    ·refine .inr ⟨k,c',e,z'.sameBut f ?_⟩
     rintro rfl
     exact hj (Aq9 hN l (I.ok.inj _ _ _ e t▸hi))
  ·by_cases hcc:c'=c
   ·subst hcc;exact⟨_,N⟩
   ·obtain⟨w2,z2⟩:=I.cell y _ e
    exact⟨w2,z2.sameBut f hcc⟩
  ·obtain⟨e,n,R,nf,d⟩:=I.pin p U
   refine⟨(f.2 _ ?_).trans e,n,R,nf,d⟩
   intro q;rw[q,P]at e
   exact d _ (by rw[<- (bY e)];exact O)
theorem Gx (I:Inv X pins σ H s) (hN:X.N.Nodup) (hi:X.N[i]?=some x) (hx:Loc X.env.scope x) (r:RelV v u)
 (h:∀a,Inv X pins (σ.set i (some v)) H a->Q () a) (hf:X.fn x=true\/X.env.scope.names.lookup x=some .local:=by first | exact .inl rfl | exact .inr rfl | assumption):wpAny M A (storeName X.env x u) Q E s :=
 Zm I hN hi hx r (λa b _=>h _ b) hf
theorem Inv.call' (I:Inv X pins σ H s) (ho:s'.os=s.os) (u:Un (frs X.stack) ch H H' s.heap s'.heap) (d:HOk X.prog X.w H' s'.heap) (hg:AllBare s'.gens)
 (a:∀b∈ch,(b∈X.ex\/X.s₀.heap.objs.size<=b)/\b≠X.env.locals/\(∀x c,X.env.cells.lookup x=some c->c≠b)/\∀p∈X.pn++pins,p.1≠b):Inv X pins σ H' s':=by
 obtain⟨f,g,h,i,e⟩:=s';subst ho;exact I.call u d hg a
end
abbrev XK:=Value->Option Addr->Hp->Prop
abbrev St:=List (Option V)
abbrev VK:=V->Hp->Prop
abbrev TE:=St->Hp->VK->Prop
abbrev TT:=St->Hp->(Bool->Hp->Prop)->Prop
abbrev TA:=St->Hp->(n_->Hp->Prop)->Prop
structure Ends where
 nx:St->Hp->Prop
 rt:VK
 bk:St->Hp->Prop:=λ_ _=>False
 ct:St->Hp->Prop:=λ_ _=>False
abbrev TS:=Ends->St->Hp->Prop
def EP (X:Cx)(pins:y_)(σ:St)(Q:VK)(u:Value)(s':u_):Prop:=∃v H',Inv X pins σ H' s'/\RelV v u/\Q v H'
def TP (X:Cx)(pins:y_)(σ:St)(Q:Bool->Hp->Prop)(b:Bool)(s':u_):Prop:=∃H',Inv X pins σ H' s'/\Q b H'
def AP (X:Cx)(pins:y_)(σ:St)(Q:n_->Hp->Prop)(us:w6)(s':u_):Prop:=∃vs H',Inv X pins σ H' s'/\Vals vs us/\Q vs H'
def SP (X:Cx)(pins:y_)(D:Ends)(f:Flow)(s':u_):Prop :=
 match f with
 | .next=>∃σ' H',Inv X pins σ' H' s'/\D.nx σ' H'
 | .brk=>∃σ' H',Inv X pins σ' H' s'/\D.bk σ' H'
 | .cont=>∃σ' H',Inv X pins σ' H' s'/\D.ct σ' H'
 | .ret u=>∃v σ' H',Inv X pins σ' H' s'/\RelV v u/\D.rt v H'
def PE (X:Cx)(e:Expr)(t:TE):Prop :=
 ∀(pins:y_) (s:u_) (σ:St) (H:Hp) (Q:VK),Inv X pins σ H s->t σ H Q->wpAny (model X.prog X.w) X.A (eval e X.env) (EP X pins σ Q) X.xe s
structure QE (X:Cx) (e:Expr) (t:TE):Prop where
 get:PE X e t
def PT (X:Cx)(e:Expr)(t:TT):Prop :=
 ∀(pins:y_) (s:u_) (σ:St) (H:Hp) (Q:Bool->Hp->Prop),Inv X pins σ H s->t σ H Q->wpAny (model X.prog X.w) X.A (isTrue e X.env (eval e X.env)) (TP X pins σ Q) X.xe s
structure QT (X:Cx) (e:Expr) (t:TT):Prop where
 get:PT X e t
def PW (X:Cx)(e:Expr)(t:TT):Prop :=
 ∀(whole:Sem Value) (pins:y_) (s:u_) (σ:St) (H:Hp) (Q:Bool->Hp->Prop),Inv X pins σ H s->t σ H Q->wpAny (model X.prog X.w) X.A (isTrue e X.env whole) (TP X pins σ Q) X.xe s
structure QW (X:Cx) (e:Expr) (t:TT):Prop where
 get:PW X e t
theorem PW.pt (h:PW X e t):PT X e t:=h _
def PA (X:Cx)(es:v_)(t:TA):Prop :=
 ∀(pos:Pos) (pins:y_) (s:u_) (σ:St) (H:Hp) (Q:n_->Hp->Prop),Inv X pins σ H s->t σ H Q->wpAny (model X.prog X.w) X.A (spliced (backTo pos (starEach es X.env))) (AP X pins σ Q) X.xe s
structure QA (X:Cx) (e:(v_)) (t:TA):Prop where
 get:PA X e t
def PS (X:Cx)(st:Stmt)(t:TS):Prop :=
 ∀(pins:y_) (s:u_) (σ:St) (H:Hp) (D:Ends),Inv X pins σ H s->t D σ H->wpAny (model X.prog X.w) X.A (exec st X.env) (SP X pins D) X.xe s
structure QS (X:Cx) (st:Stmt) (t:TS):Prop where
 get:PS X st t
def PSs (X:Cx)(st:List Stmt)(t:TS):Prop :=
 ∀(pins:y_) (s:u_) (σ:St) (H:Hp) (D:Ends),Inv X pins σ H s->t D σ H->wpAny (model X.prog X.w) X.A (execs st X.env) (SP X pins D) X.xe s
structure QSs (X:Cx) (st:(List Stmt)) (t:TS):Prop where
 get:PSs X st t
theorem thn {t:Sem c}{Q b:c->u_->Prop} (h:wpAny M A t Q E s) (d:∀a s,Q a s->b a s):wpAny M A t b E s:=aU h d λ_ _ x=>x
section
variable {X:Cx}
def Al3 (i:Nat):TE:=λσ H Q=>∃v,σ[i]?=some (some v)/\Q v H
def tC (v:V):TE:=λ_ H Q=>Q v H
theorem At0 {f:Pos}(hN:X.N[i]?=some x) (hv:Vis X.env.scope x) (hd:(x==("__debug__" : Str))=false:=by decide) (hcd:(x==("__classdict__" : Str))=false:=by decide):PE X (.Name x f) (Al3 i):=by
 intro j s p H Q I h;obtain⟨v,e,h⟩:=h;obtain⟨m,k,n⟩:=I.loc;obtain⟨u,r,l⟩:=n i x v hN e hv;have b:EP X _ _ Q u s:=⟨v,H,I,r,h⟩
 rcases l with ⟨d,o⟩ | ⟨d,c,g,a⟩
 ·exact wpAny_Name (wpAny_loadName_local I.ok.kind d k o b) hd
 ·rcases d with d | d
  ·exact wpAny_Name (wpAny_loadName_cell I.ok.kind d g a b) hd
  ·exact wpAny_Name (wpAny_loadName_free I.ok.kind d g a b hcd) hd
theorem Bc5 : PE X (.Constant (.int i) j a) (tC (.int i)):=λ_ _ _ H _ I h=>wpAny_Constant_int ⟨.int i,H,I.tok _,⟨_,rfl⟩,h⟩
theorem Bu4 : PE X (.Constant (.bool b) j a) (tC (.bl b)):=λ_ _ _ H _ I h=>Constant_bool ⟨.bl b,H,I,rfl,h⟩
theorem Ba8 : PE X (.Constant .none j a) (tC .non):=λ_ _ _ H _ I h=>Constant_none ⟨.non,H,I,rfl,h⟩
theorem Bd8 : PE X (.Constant (.str x) j a) (tC (.str x)):=λ_ _ _ H _ I h=>Calls.Constant_str ⟨.str x,H,I.tok _,⟨_,rfl⟩,h⟩
def Gl (X:Cx)(x:Str):Prop:=X.env.kindOf x=some .globalImplicit
theorem Od (I:Inv X pins b H s) (hg:Gl X x) (hm:X.mg x=some u) (h:Q u s)
 (hd:(x==("__debug__" : Str))=false:=by decide):wpAny (model X.prog X.w) X.A (eval (.Name x a) X.env) Q E s :=
 Calls.Name_function_global I.ok.kind hg (Calls.loadGlobal_global (by rw[I.ok.glob];exact I.mod.glob.keeps I.bk) hm h) hd
theorem Ld {E:z_} {a:Pos} (I:Inv X pins c H s) (hg:Gl X x) (hm:X.mg x=none) (hv:bootBuiltins x=some u) (h:Q u s)
 (hn:x ≠ "__name__" := by decide) (hd:(x==("__debug__" : Str))=false:=by decide):wpAny (model X.prog X.w) X.A (eval (.Name x a) X.env) Q E s:=by
 obtain⟨e,d,b⟩:=I.mod.blt
 exact Calls.Name_function_global I.ok.kind hg (Calls.loadGlobal_builtin (by rw[I.ok.glob];exact I.mod.glob.keeps I.bk) hm (by rw[I.ok.blt];exact d.keeps I.bk) ((b x hn).trans hv) h) hd
theorem Bi7 (hg:Gl X x) (hm:X.mg x=some u) (r:RelV v u) (hd:(x==("__debug__" : Str))=false:=by decide):PE X (.Name x a) (tC v) :=
 λ_ _ _ H _ I h=>Od I hg hm ⟨v,H,I,r,h⟩ hd
theorem Bo2 {a:Pos}(hg:Gl X x) (hm:X.mg x=none) (hv:bootBuiltins x=some u) (r:RelV v u) (hn:x ≠ "__name__" := by decide) (hd:(x==("__debug__" : Str))=false:=by decide):PE X (.Name x a) (tC v) :=
 λ_ _ _ H _ I h=>Ld I hg hm hv ⟨v,H,I,r,h⟩ hn hd
variable {a b:Expr}{ta tb:TE}{pos:Pos}
def tB (t:TE):TT:=λσ H Q=>t σ H λx H1=>∃c,x=.bl c/\Q c H1
theorem Je (h:QE X e t) (he:∀whole,isTrue e X.env whole=(do let v <- whole;standAt e.pos;holding [v] (truthy v)):=by intro _;rfl):QT X e (tB t):=by
 refine⟨?_⟩
 intro a s σ H Q I f
 refine isTrue_plain (thn (h.1 _ s _ H _ I f) λv s1 ⟨x,g,b,c,i⟩=>?_) (he _)
 obtain⟨d,rfl,q⟩:=i
 cases c
 exact gj ⟨g,b,q⟩
variable {tA tB':TT}{rest:v_}
def tOr (t u:TT):TT:=λσ H Q=>t σ H λc H1=>if c=true then Q true H1 else u σ H1 Q
def B3w (t:TT):TT:=λσ H Q=>t σ H λc H1=>Q (!c) H1
theorem V6 (ha:QT X a tA):QW X (.BoolOp .Or [a] pos) tA:=by
 refine⟨?_⟩
 intro f b s g H Q I h
 refine isTrue_or (thn (ha.1 _ s _ H Q I h) λc d e=>?_)
 cases c with
 | false=>exact isTrue_or_nil e
 | true=>exact e
theorem Zq (ha:QT X a tA)(hb:QW X (.BoolOp .Or (b::rest) pos) tB'):QW X (.BoolOp .Or (a::b::rest) pos) (tOr tA tB'):=by
 obtain⟨hb⟩:=hb
 refine⟨?_⟩
 intro g d s k H Q I h
 refine isTrue_or (thn (ha.1 _ s _ H _ I h) λc i ⟨j,f,e⟩=>?_)
 cases c with
 | true=>assumption
 | false=>exact hb _ _ _ _ _ Q f e
theorem Aa8 (ha:QT X a tA):QT X (.UnaryOp .Not a pos) (B3w tA):=by
 refine⟨?_⟩
 intro b s c H Q I h;exact isTrue_not (ha.1 _ s _ H _ I h)
def Bv0 (ta tb:TE):TE:=λσ H Q=>ta σ H λx H1=>∃c,x=.bl c/\if c=true then tb σ H1 Q else Q (.bl false) H1
def Bv1 (ta:TE):TE:=λσ H Q=>ta σ H λx H1=>∃c,x=.bl c/\Q (.bl (!c)) H1
theorem B2t (h:PE X a t):PE X (.BoolOp op [a] pos) t:=λb s d H Q I c=>BoolOp_one (h _ s _ H Q I c)
theorem Xu (ha:QE X a ta)(hb:QE X (.BoolOp .And (b::rest) pos) tb):QE X (.BoolOp .And (a::b::rest) pos) (Bv0 ta tb):=by
 obtain⟨hb⟩:=hb
 refine⟨?_⟩
 intro e s σ H Q I h
 refine BoolOp_and (thn (ha.1 _ s _ H _ I h) λv s1 ⟨x,i,f,g,d⟩=>?_)
 obtain⟨c,rfl,d⟩:=d
 cases g
 refine gj ?_
 cases c with
 | true=>exact hb _ _ _ _ Q f d
 | false=>exact⟨.bl _,i,f,rfl,d⟩
theorem Bv8 (ha:QE X a ta):QE X (.UnaryOp .Not a pos) (Bv1 ta):=by
 refine⟨?_⟩
 intro d s σ H Q I h
 refine UnaryOp_ (thn (ha.1 _ s _ H _ I h) λv s1 ⟨x,f,g,e,b⟩=>?_)
 obtain⟨c,rfl,b⟩:=b
 cases e
 exact not_of (gj ⟨.bl _,f,g,rfl,b⟩)
def tIf (t:TT)(ta tb:TE):TE:=λσ H Q=>t σ H λc H1=>if c=true then ta σ H1 Q else tb σ H1 Q
theorem Rb (hc:QT X c tA) (ha:QE X a ta) (hb:QE X b tb):QE X (.IfExp c a b pos) (tIf tA ta tb):=by
 obtain⟨ha⟩:=ha;obtain⟨hb⟩:=hb
 refine⟨?_⟩
 intro g s i H Q I h
 refine wpAny_IfExp (thn (hc.1 _ s _ H _ I h) λd k ⟨j,f,e⟩=>?_)
 cases d with
 | true=>exact ha _ _ _ _ Q f e
 | false=>exact hb _ _ _ _ Q f e
end
def SqL (K:v9)(H:Hp)(a:Addr)(xs:n_):Prop :=
 Rd H a (.lst xs) \/
  ∃(o:Obj) (its:v7) (n:Nat),K.lookup a=some o/\o.cls=.type "list" /\ o.dict=none/\o.data=.seq its n/\its.size<=sizeLine/\Vals xs its.toList
def SqT (K:v9)(H:Hp)(a:Addr)(xs:n_):Prop :=
 Rd H a (.tup xs) \/
  ∃(o:Obj) (its:v7) (n:Nat),K.lookup a=some o/\o.cls=.type "tuple" /\ o.data=.seq its n/\its.size<=sizeLine/\Vals xs its.toList
noncomputable def B5q:Value->Option V
 | .none=>some .non
 | .bool b=>some (.bl b)
 | .int i _=>some (.int i)
 | .str x _=>some (.str x)
 | .bytes b _=>some (.byt b)
 | .float b _=>some (.flt b)
 | .ref a=>some (.ref a)
 | .type n=>some (.ty n)
 | _=>none
theorem RelV.abs (r:RelV x u):B5q u=some x:=by
 cases x with
 | non=>cases r;rfl
 | bl _=>cases r;rfl
 | int _=>obtain⟨t,rfl⟩:=r;rfl
 | str _=>obtain⟨t,rfl⟩:=r;rfl
 | byt _=>obtain⟨t,rfl⟩:=r;rfl
 | flt _=>obtain⟨t,rfl⟩:=r;rfl
 | ref _=>cases r;rfl
 | ty _=>cases r;rfl
theorem RelV.inj (r:RelV x u) (q:RelV y u):x=y:=bY (r.abs.symm.trans q.abs)
theorem Vals.inj:∀{xs ys:n_}{us:w6},Vals xs us->Vals ys us->xs=ys
 | _,_,_,.nil,.nil=>rfl
 | _,_,_,.cons r t,.cons r' t'=>by rw[r.inj r',Vals.inj t t']
section
variable {X:Cx}{pins:y_}{σ:St}{H:Hp}{s:u_}{a:Addr}{xs ys:n_}
theorem SqL.of {K:v9}(h:H a=some (.lst xs)):SqL K H a xs:=.inl (.inl h)
theorem SqT.of {K:v9}(h:H a=some (.tup xs)):SqT K H a xs:=.inl (.inl h)
theorem Inv.list (I:Inv X pins σ H s)(h:SqL X.K H a xs):∃b:w6,Vals xs b/\PlainL s.heap a b.toArray/\xs.length<=sizeLine:=by
 rcases h with h | ⟨o,b,n,d,c,f,i,g,r⟩
 ·obtain⟨z,b,n,r,e⟩:=h.ok I.hok
  exact⟨b,r,⟨_,n,e,rfl,rfl,rfl⟩,z⟩
 ·refine⟨b.toList,r,⟨o,n,I.kIn a o d,c,f,by trivial⟩,?_⟩
  have e:=r.length
  simp_all
theorem Inv.tuple (I:Inv X pins σ H s)(h:SqT X.K H a xs):∃b:w6,Vals xs b/\IsTup s.heap a b.toArray/\xs.length<=sizeLine:=by
 rcases h with h | ⟨o,b,n,d,c,g,f,r⟩
 ·obtain⟨z,b,r,p⟩:=h.ok I.hok
  exact⟨b,r,p.tup,z⟩
 ·refine⟨b.toList,r,⟨o,I.kIn a o d,c,n,by trivial⟩,?_⟩
  have e:=r.length
  simp_all
theorem Inv.list_inj (I:Inv X pins σ H s)(h:SqL X.K H a xs)(h':SqL X.K H a ys):xs=ys:=by
 obtain⟨c,r,⟨o,n,e,_,_,d⟩,_⟩:=I.list h;obtain⟨b,f,⟨i,j,k,_,_,g⟩,_⟩:=I.list h'
 have:c=b:=by simp_all
 subst this;exact r.inj f
theorem Inv.tuple_inj (I:Inv X pins σ H s)(h:SqT X.K H a xs)(h':SqT X.K H a ys):xs=ys:=by
 obtain⟨c,r,⟨o,e,_,n,d⟩,_⟩:=I.tuple h;obtain⟨b,f,⟨i,j,_,k,g⟩,_⟩:=I.tuple h'
 have:c=b:=by simp_all
 subst this;exact r.inj f
end
noncomputable abbrev Cx.wish (X:Cx) (E:z_):Cx:={ X with xe:=E }
abbrev Cx.nox (X:Cx):Cx:=X.wish λ_ _=>False
theorem Cx.Ok.wish {X:Cx}(a:X.Ok)(E:z_):(X.wish E).Ok :=
 ⟨a.mod,a.kind,a.glob,a.blt,a.above,a.inj,a.has,a.cab,a.hd,a.frames,a.stk,a.exf,a.bs,a.bsz,a.noex,a.exfs,a.funs,a.frf,a.tab⟩
theorem Cx.Ok.unwish {X:Cx} (a:(X.wish E).Ok):X.Ok :=
 ⟨a.mod,a.kind,a.glob,a.blt,a.above,a.inj,a.has,a.cab,a.hd,a.frames,a.stk,a.exf,a.bs,a.bsz,a.noex,a.exfs,a.funs,a.frf,a.tab⟩
section
variable {X:Cx}{pins:y_}{σ:St}{H:Hp}{s:u_}{E:z_}
theorem Inv.wish (I:Inv X pins σ H s)(E:z_):Inv (X.wish E) pins σ H s:=⟨I.ok.wish E,I.os,I.bare,I.base,I.loc,I.cell,I.free,I.freeC,I.pin,I.hok,I.len⟩
theorem Inv.unwish (I:Inv (X.wish E) pins σ H s):Inv X pins σ H s:=⟨I.ok.unwish,I.os,I.bare,I.base,I.loc,I.cell,I.free,I.freeC,I.pin,I.hok,I.len⟩
theorem SP.unwish (h:SP (X.wish E) pins D f s'):SP X pins D f s':=by
 cases f with
 | next=>obtain⟨a,b,I,q⟩:=h;exact⟨a,b,I.unwish,q⟩
 | brk=>obtain⟨a,b,I,q⟩:=h;exact⟨a,b,I.unwish,q⟩
 | cont=>obtain⟨a,b,I,q⟩:=h;exact⟨a,b,I.unwish,q⟩
 | ret u=>obtain⟨v,a,b,I,r,q⟩:=h;exact⟨v,a,b,I.unwish,r,q⟩
theorem PSs.nox {st:List Stmt} (h:PSs X.nox st t):PSs X st t:=λa s c H D I b =>
 aU (h _ s _ H D (I.wish _) b) (λ_ _ q=>q.unwish) λ_ _ z=>False.elim z
end
section
variable {X:Cx}{st:Stmt}{rest:List Stmt}{t u:TS}{e:Expr}{te:TE}{pos:Pos}
def Bf5:TS:=λD σ H=>D.nx σ H
def A3i (t u:TS):TS:=λD σ H=>t { D with nx:=u D } σ H
theorem Bq4:PSs X [] Bf5:=λ_ _ a H _ I h=>gk ⟨a,H,I,h⟩
theorem Af (h1:QS X st t)(h2:QSs X rest u):QSs X (st::rest) (A3i t u):=by
 obtain⟨h2⟩:=h2
 refine⟨?_⟩
 intro a s d H D I h
 refine fK (thn (h1.1 _ s _ H _ I h) λf e q=>?_)
 cases f with
 | next =>
  obtain⟨c,g,b,q⟩:=q;exact h2 _ _ _ _ D b q
 | ret v=>exact q
 | brk=>exact q
 | cont=>exact q
theorem A0n (h1:PS X st t):PSs X [st] t:=by
 intro a s c H D I h
 refine fK (thn (h1 _ s _ H D I h) λf b q=>?_)
 cases f with
 | next=>exact gk q
 | ret v=>grind
 | brk=>grind
 | cont=>grind
theorem Inv.quiet (I:Inv X pins a H s):interactive X.env=false:=by simp[interactive,I.ok.kind]
def A1f (te:TE):TS:=λD σ H=>te σ H λ_ H1=>D.nx σ H1
theorem Gd (he:QE X e te)(hs:swapsWith e none pos.line X.env=pure false:=by rfl):QS X (.Expr e pos) (A1f te):=by
 refine⟨?_⟩
 intro a s c H D I h
 exact wpAny_Expr_any (thn (he.1 _ s _ H _ I h) λv g ⟨x,f,d,i,b⟩=>⟨c,f,d,b⟩) I.quiet hs
def Bx6 (te:TE):TS:=λD σ H=>te σ H D.rt
theorem Bk (he:QE X e te):QS X (.Return (some e) pos) (Bx6 te):=by
 refine⟨?_⟩
 intro a s c H D I h
 exact wpAny_Return_some (thn (he.1 _ s _ H _ I h) λv i ⟨x,f,d,g,b⟩=>⟨x,c,f,d,g,b⟩)
def Bw9 (c:TT)(t u:TS):TS:=λD σ H=>c σ H λb H1=>if b=true then t D σ H1 else u D σ H1
theorem Em (hc:QT X c f) (ha:QSs X a t) (hb:QSs X b u):QS X (.If c a b pos) (Bw9 f t u):=by
 obtain⟨ha⟩:=ha;obtain⟨hb⟩:=hb
 refine⟨?_⟩
 intro i s j H D I h
 refine wpAny_If (thn (hc.1 _ s _ H _ I h) λd l ⟨k,g,e⟩=>?_)
 cases d with
 | true=>exact ha _ _ _ _ D g e
 | false=>exact hb _ _ _ _ D g e
def Az0:TS:=λ_ _ _=>False
theorem A7j:PS X st Az0:=λ_ _ _ _ _ _ h=>h.elim
end
abbrev TG:=V->St->Hp->(St->Hp->Prop)->Prop
abbrev TGs:=n_->St->Hp->(St->Hp->Prop)->Prop
def PG (X:Cx)(target:Expr)(t:TG):Prop :=
 ∀
  (pins:y_) (s:u_) (σ:St) (H:Hp) (v:V) (u:Value) (Q:St->Hp->Prop),Inv X pins σ H s->RelV v u->t v σ H Q ->
  wpAny (model X.prog X.w) X.A (assign target X.env u) (λ_ s'=>∃σ' H',Inv X pins σ' H' s'/\Q σ' H') X.xe s
structure QG (X:Cx) (e:Expr) (t:TG):Prop where
 get:PG X e t
def PGs (X:Cx)(ts:v_)(t:TGs):Prop :=
 ∀
  (pins:y_) (s:u_) (σ:St) (H:Hp) (vs:n_) (us:w6) (Q:St->Hp->Prop),Inv X pins σ H s->Vals vs us->t vs σ H Q ->
  wpAny (model X.prog X.w) X.A (assignInOrder ((assignEach ts X.env).map (·.2)) us) (λ_ s'=>∃σ' H',Inv X pins σ' H' s'/\Q σ' H') X.xe s
structure QGs (X:Cx) (e:(v_)) (t:TGs):Prop where
 get:PGs X e t
abbrev B4e:=V->V->V->Hp->(Hp->Prop)->Prop
def B5e (X:Cx)(t:B4e):Prop :=
 ∀
  (pins:y_) (s:u_) (σ:St) (H:Hp) (o i v:V) (ov iv u:Value) (Q:Hp->Prop),Inv X pins σ H s->RelV o ov->RelV i iv->RelV v u->t o i v H Q ->
  wpAny (model X.prog X.w) X.A (setItem ov iv u) (λ_ s'=>∃H',Inv X pins σ H' s'/\Q H') X.xe s
section
variable {X:Cx}{pos:Pos}
def Hx (i:Nat):TG:=λv σ H Q=>Q (σ.set i (some v)) H
theorem Ao (hN:X.N.Nodup) (hi:X.N[i]?=some x:=by exact rfl) (hx:Loc X.env.scope x:=by first | exact Or.inl rfl | exact Or.inr rfl) (hf:X.fn x=true\/X.env.scope.names.lookup x=some .local:=by first | exact .inl rfl | exact .inr rfl | assumption):QG X (.Name x pos) (Hx i):=by
 refine⟨?_⟩
 intro a s c H v u Q I r h
 exact wpAny_assign_Name (Gx I hN hi hx r (λd b=>⟨_,H,b,h⟩) hf)
noncomputable def Ax4:TGs:=λvs σ H Q=>vs=[]/\Q σ H
noncomputable def My (t:TG) (u:TGs):TGs:=λvs σ H Q=>∃v r,vs=v::r/\t v σ H λσ' H'=>u r σ' H' Q
theorem Ej:QGs X [] Ax4:=by
 refine⟨?_⟩
 intro a s b H d c Q I r h;obtain⟨e,h⟩:=h;exact j8 ⟨b,H,I,h⟩
theorem Bd (h1:QG X e t) (h2:QGs X es u)
 (hs:(assignEach (e::es) X.env).map (·.2)=assign e X.env::(assignEach es X.env).map (·.2):=by rfl):QGs X (e::es) (My t u):=by
 obtain⟨h2⟩:=h2
 refine⟨?_⟩
 intro a s i H j n Q I r h;obtain⟨v,l,f,h⟩:=h;subst f
 cases r with
 | cons r d =>
  rw[hs]
  refine fL (thn (h1.1 _ s _ H _ _ _ I r h) λ_ k ⟨c,m,g,b⟩=>?_)
  exact h2 _ _ _ _ _ _ Q g d b
def At1 (K:v9)(n:Nat)(t:TGs):TG:=λv σ H Q=>∃a xs,v=.ref a/\SqT K H a xs/\xs.length=n/\t xs σ H Q
theorem Bw5 {k:Nat} (hc:X.calm=true) (h:PGs X es t)
 (hn:(assignEach es X.env).length=n:=by rfl) (hst:(assignEach es X.env).findIdx? (·.1)=none:=by rfl):PG X (.Tuple es k pos) (At1 X.K n t):=by
 intro d s x H v u Q I r c;obtain⟨a,y,j,l,m,c⟩:=c;subst j
 cases r
 obtain⟨g,i,q,z⟩:=I.tuple l
 refine assign_Tuple_tuple (I.ok.hd hc) q (by simp[hn,<- m,i.length]) hst λp w=>?_
 have f:Inv X _ _ H { s with heap:=p }:=I.kept λb o e=>w b o (aP (az e)) e
 exact h _ _ _ H _ _ Q f (by trivial) c
def B3y (to ti:TE)(t:B4e):TG:=λv σ H Q=>to σ H λo H1=>ti σ H1 λi H2=>t o i v H2 λH3=>Q σ H3
theorem A8u (ho:QE X o e) (hi:QE X i d) (hs:B5e X t)
 (ha:∀v,assign (.Subscript o i pos) X.env v=(do
  let a <- holding [v] (eval o X.env)
  let b <- holding [v,a] (eval i X.env)
  standAt pos
  holding [v,a,b] (setItem a b v)
  release [v,a,b] []):=by intro _;rfl):QG X (.Subscript o i pos) (B3y e d t):=by
 refine⟨?_⟩
 intro c s m H v u Q I r h;rw[ha]
 refine aj (bZ (thn (ho.1 _ s _ H _ I h) λa z ⟨x,C,j,k,l⟩=>?_))
 refine aj (bZ (thn (hi.1 _ _ _ _ _ j l) λb D ⟨y,A,g,p,n⟩=>?_))
 refine aj (fM (aj (bZ (thn (hs _ _ _ _ x y v _ _ u _ g k p r n) λ_ B ⟨q,w,f⟩=>?_))))
 exact wpAny_release ⟨m,q,w,f⟩
def Vr (te:TE)(g:TG):TS:=λD σ H=>te σ H λx H1=>g x σ H1 D.nx
theorem Qh (he:QE X e b) (hg:QG X a g) (hs:swapsWithSole [a] e pos.line X.env=pure false:=by rfl) (hw:swappedStores [a] e X.env=pure none:=by rfl)
 (h1:(assignEach [a] X.env).map (·.2)=[assign a X.env]:=by rfl):QS X (.Assign [a] e pos) (Vr b g):=by
 refine⟨?_⟩
 intro c s k H D I h
 refine wpAny_Assign_stores (thn (he.1 _ s _ H _ I h) λv l ⟨x,m,d,i,f⟩=>?_) hs hw
 rw[h1]
 exact thn (hg.1 _ _ _ _ x v _ d i f) λ_ j q=>q
theorem A9p (hN:X.N.Nodup) (hi:X.N[i]?=some x) (hx:Loc X.env.scope x) (he:PE X e b) (hs:swapsWith e (some (.Name x a)) pos.line X.env=pure false:=by rfl) (hf:X.fn x=true\/X.env.scope.names.lookup x=some .local:=by first | exact .inl rfl | exact .inr rfl | assumption) :
 PS X (.Assign [.Name x a] e pos) (Vr b (Hx i)):=by
 intro c s l H D I h
 refine wpAny_Assign_Name (thn (he _ s _ H _ I h) λv m ⟨y,j,f,g,k⟩=>?_) hs
 exact Gx f hN hi hx g (λn d=>⟨_,j,d,k⟩) hf
def B2y (i j:Nat)(ta:TA):TS:=λD σ H=>ta σ H λvs H1=>∃v w,vs=[v,w]/\D.nx ((σ.set i (some v)).set j (some w)) H1
theorem Bz8 (hc:X.calm=true) (hN:X.N.Nodup) (hi:X.N[i]?=some x) (hj:X.N[j]?=some y) (hij:i≠j)
 (hx:X.env.scope.names.lookup x=some .local) (hy:X.env.scope.names.lookup y=some .local) (ha:QA X [a,b] C)
 (hw:swappedStores [.Tuple [.Name x m,.Name y r] n t] (.Tuple [a,b] k2 d) X.env=pure (some [x,y]))
 (hs:swapsWithSole [.Tuple [.Name x m,.Name y r] n t] (.Tuple [a,b] k2 d) pos.line X.env=pure false:=by rfl) :
 QS X (.Assign [.Tuple [.Name x m,.Name y r] n t] (.Tuple [a,b] k2 d) pos) (B2y i j C):=by
 refine⟨?_⟩
 intro c s B H D I h;rw[exec_Assign_arm]
 refine aj (fM ?_)
 rw[hs]
 refine aj (ak ?_)
 rw[if_neg (by decide)]
 refine aj (Tuple_ (thn (ha.1 _ c s B H _ I h) λL f ⟨vs,E,M,F,l⟩=>?_))
 obtain⟨v,w,G,l⟩:=l;subst G
 obtain⟨k,g,rfl,K,u⟩:∃k g,L=[k,g]/\RelV v k/\RelV w g:=by
  cases F with
  | cons p q =>
   cases q with
   | cons p' O =>
    cases O
    grind
 refine bO ?_ (by show 2<=sizeLine;decide)
 have J:Inv X c B E { f with heap:=f.heap.push { cls:=.type "tuple",data:=.seq [k,g].toArray } }:=M.kept (t':=f.toks) λb o e=>aC _ e
 rw[hw]
 refine aj (ak ?_)
 show wpAny (model X.prog X.w) X.A (do rule "assign.swapped-stores";let items <- unpackItems (.ref f.heap.objs.size) 2 none;assignInOrder [λv=>bindName X.env y v,λv=>bindName X.env x v] items.reverse;pure Flow.next) _ _ _
 refine aj (cL (aj (unpackItems_tuple (items:=#[k,g]) (I.ok.hd hc) (IsTup.new _ _) λh' z=>?_)))
 refine aj (fL (gw (Gx (J.kept (t':=f.toks) λb o e=>z b o (aP (az e)) e) hN hj (.inl hy) u (λs2 N=>?_) (.inr hy))))
 refine fL (gw (Gx N hN hi (.inl hx) K (λs3 A=>j8 (ak ?_)) (.inr hx)))
 rw[iu _ _ (aD hij)]at A;exact⟨_,E,A,l⟩
end
structure It where
 go:Nat->Hp->Prop
 yld:Nat->Hp->V->Hp->Prop
 stop:Nat->Hp->Prop
def Lh (X:Cx)(pins:y_)(H:Hp)(b:Addr):Prop :=
 H b=none/\b≠X.env.locals/\b∉X.fs/\(b∈X.ex\/X.s₀.heap.objs.size<=b)/\(∀x c,X.env.cells.lookup x=some c->c≠b)/\∀p∈X.pn++pins,p.1≠b
theorem Inv.fpOk (I:Inv X pins d H s) (hb:s.heap.objs.size<=b) (hn:H' b=none):Lh X pins H' b:=by
 refine⟨hn,bQ (aK I.lt hb),I.nofs hb,.inr (aq I.sz hb),λx c e z=>?_,λp a z=>?_⟩
 ·obtain⟨v,q⟩:=I.cell x c e
  exact absurd (aK q.lt (by simp_all)) (bh _)
 ·exact absurd (aK (az (I.pin p a).1) (by simp_all)) (bh _)
structure Turn (P:u6) (w:World) (K:v9) (tg:Expr) (J:It) (fp:v6) (it:Addr) (tn:Nat->Heap->Prop):Prop where
 mem:it∈fp
 obj:∀i h,tn i h->∀b∈fp,∃o,h.get? b=some o/\∀v,o.data≠.cell v
 keep:∀i h h',tn i h->(∀b∈fp,∀o,h.get? b=some o->h'.get? b=some o)->tn i h'
 item:∀(X:Cx),X.prog=P->X.w=w->X.K=K->X.calm=true->∀(i:Nat) (pins:y_) (s:u_) (σ:St) (H:Hp) (E:z_),Inv X pins σ H s->(∀b∈fp,Lh X pins H b)->tn i s.heap->J.go i H ->
  wpAny (model P w) X.A (pyNext (.ref it)) (λr s1=>∃u,r=some u /\
   wpAny (model P w) X.A (letOwnedTupleGo tg (.ref it) u) (λ_ s2=>∃x H',Inv X pins σ H' s2/\RelV x u/\J.yld i H x H'/\tn (i+1) s2.heap/\∀b∈fp,H' b=none) E s1) E s
 done:∀(X:Cx),X.prog=P->X.w=w->X.K=K->X.calm=true->∀(i:Nat) (pins:y_) (s:u_) (σ:St) (H:Hp) (E:z_),Inv X pins σ H s->(∀b∈fp,Lh X pins H b)->tn i s.heap->J.stop i H ->
  wpAny (model P w) X.A (pyNext (.ref it)) (λr s1=>r=none/\Inv X pins σ H s1) E s
 self:∀(A:t_) (i:Nat) (s:u_) (Q:z_) (E:z_),tn i s.heap->Q (.ref it) s->wpAny (model P w) A (pyIter (.ref it)) Q E s
abbrev TI:=St->Hp->(It->Hp->Prop)->Prop
def PIE (X:Cx)(pins:y_)(σ:St)(tg:Expr)(R:It->Hp->Prop)(itv:Value)(s2:u_):Prop :=
 ∃(it:Addr) (fp:v6) (tn:Nat->Heap->Prop) (J:It) (H':Hp),itv=.ref it/\Inv X pins σ H' s2/\Turn X.prog X.w X.K tg J fp it tn/\tn 0 s2.heap/\(∀b∈fp,Lh X pins H' b)/\R J H'
def PI (X:Cx)(tg iter:Expr)(wi:TI):Prop :=
 ∀
  (pins:y_) (s:u_) (σ:St) (H:Hp) (R:It->Hp->Prop),Inv X pins σ H s->wi σ H R ->
  wpAny (model X.prog X.w) X.A (eval iter X.env) (λv s1=>wpAny (model X.prog X.w) X.A (pyIter v) (PIE X pins σ tg R) X.xe s1) X.xe s
structure QI (X:Cx) (tg iter:Expr) (wi:TI):Prop where
 get:PI X tg iter wi
theorem Aj1 (ho:s.heap.get? it=some o) (hc:o.cls=.type n) (hd:o.data=.fields vs)
 (hn:["enumerate", "zip", "dict_itemiterator", "dict_reverseitemiterator", "odict_iterator", "itertools.zip_longest", "itertools.pairwise"].contains n=false) (a:Q () s):wpAny M A (letOwnedTupleGo b (.ref it) u) Q E s:=by
 cases b <;> first
  | exact ak a
  | (cases u <;> first
   | exact ak a
   | (
    refine aj (wpAny_load ho ?_)
    rw[hc,hd]
    show wpAny M A (if (["enumerate", "zip", "dict_itemiterator", "dict_reverseitemiterator", "odict_iterator", "itertools.zip_longest", "itertools.pairwise"].contains n&&vs[0]?==some _)=true then _ else _) Q E s
    rw[if_neg (by intro h;rw[hn]at h;cases h)]
    exact ak a))
noncomputable def Itl (K:v9) (a:Addr):It :=
 ⟨λi H=>∃xs x,SqL K H a xs/\xs[i]?=some x,λi H x H'=>H'=H/\∀xs,SqL K H a xs->xs[i]?=some x,λi H=>∃xs,SqL K H a xs/\xs.length<=i⟩
noncomputable def Itt (K:v9) (a:Addr):It :=
 ⟨λi H=>∃xs x,SqT K H a xs/\xs[i]?=some x,λi H x H'=>H'=H/\∀xs,SqT K H a xs->xs[i]?=some x,λi H=>∃xs,SqT K H a xs/\xs.length<=i⟩
noncomputable def Itr (lo:Int) (n:Nat):It:=⟨λi _=>i<n,λi H x H'=>H'=H/\x=.int (lo+i),λi _=>n<=i⟩
theorem A5y {P:u6}{w:World}{K:v9}{tg:Expr}(a it:Addr):Turn P w K tg (Itl K a) [it] it (λi h=>h.IsListIter it a i) where
 mem:=by simp
 obj:=λi h st b hb=>by
  have e:b=it:=by simpa using hb
  subst e;obtain⟨o,e,c,d⟩:=st
  exact⟨o,e,λv z=>by rw[d]at z;cases z⟩
 keep:=λi h h' st k=>st.at λo e=>k it (by simp) o e
 item:=by
  intro X hP hw hK hc i pins s σ H E I hf st hg;subst hP hw hK;obtain⟨xs,x,hq,hx⟩:=hg;obtain⟨its,rv,p,hz⟩:=I.list hq;obtain⟨u,hu,ru⟩:=rv.get hx
  obtain⟨f0,f1,f2,f3,f4,f5⟩:=hf it (by simp)
  refine wpAny_pyNext_list_item st p.isList (x:=u) (by simpa using hu) λh' st' sb=>?_
  have I1:Inv X pins σ H { s with heap:=h' }:=I.turned (t':=s.toks) (λb o hb e=>(sb.2 b hb).trans e) f0 f1 f3 f4 f5
  obtain⟨o,e,c,d⟩:=id st'
  exact⟨u,rfl,Aj1 (s:={ s with heap:=h' }) e c d (by decide) ⟨x,H,I1,ru,⟨rfl,λys hy=>by rw[I.list_inj hy hq];exact hx⟩,st',λb hb=>(hf b hb).1⟩⟩
 done:=by
  intro X hP hw hK hc i pins s σ H E I hf st hg;subst hP hw hK;obtain⟨xs,hq,hx⟩:=hg;obtain⟨its,rv,p,hz⟩:=I.list hq
  obtain⟨f0,f1,f2,f3,f4,f5⟩:=hf it (by simp)
  have hl:=rv.length
  exact wpAny_pyNext_list_end (I.ok.hd hc) st p.isList (by simp;lia) λh' eb=>⟨rfl,I.turned (t':=s.toks) (λb o hb e=>eb b o hb e) f0 f1 f3 f4 f5⟩
 self:=λ_ _ _ _ _ st h=>wpAny_pyIter_listiter st h
theorem Ay6 {P:u6}{w:World}{K:v9}{tg:Expr}(a it:Addr):Turn P w K tg (Itt K a) [it] it (λi h=>h.IsTupleIter it a i) where
 mem:=by simp
 obj:=λi h st b hb=>by
  have e:b=it:=by simpa using hb
  subst e;obtain⟨o,e,c,d⟩:=st
  exact⟨o,e,λv z=>by rw[d]at z;cases z⟩
 keep:=λi h h' st k=>st.at λo e=>k it (by simp) o e
 item:=by
  intro X hP hw hK hc i pins s σ H E I hf st hg;subst hP hw hK;obtain⟨xs,x,hq,hx⟩:=hg;obtain⟨its,rv,p,hz⟩:=I.tuple hq;obtain⟨u,hu,ru⟩:=rv.get hx
  obtain⟨f0,f1,f2,f3,f4,f5⟩:=hf it (by simp)
  refine wpAny_pyNext_tuple_item st (show s.heap.IsTuple a its.toArray from p) (x:=u) (by simpa using hu) λh' st' sb=>?_
  have I1:Inv X pins σ H { s with heap:=h' }:=I.turned (t':=s.toks) (λb o hb e=>(sb.2 b hb).trans e) f0 f1 f3 f4 f5
  obtain⟨o,e,c,d⟩:=id st'
  exact⟨u,rfl,Aj1 (s:={ s with heap:=h' }) e c d (by decide) ⟨x,H,I1,ru,⟨rfl,λys hy=>by rw[I.tuple_inj hy hq];exact hx⟩,st',λb hb=>(hf b hb).1⟩⟩
 done:=by
  intro X hP hw hK hc i pins s σ H E I hf st hg;subst hP hw hK;obtain⟨xs,hq,hx⟩:=hg;obtain⟨its,rv,p,hz⟩:=I.tuple hq
  obtain⟨f0,f1,f2,f3,f4,f5⟩:=hf it (by simp)
  have hl:=rv.length
  exact wpAny_pyNext_tuple_end (I.ok.hd hc) st (show s.heap.IsTuple a its.toArray from p) (by simp;lia) λh' eb=>⟨rfl,I.turned (t':=s.toks) (λb o hb e=>eb b o hb e) f0 f1 f3 f4 f5⟩
 self:=λ_ _ _ _ _ st h=>wpAny_pyIter_tupleiter st h
theorem Ay1 {P:u6}{w:World}{K:v9}{tg:Expr}(it:Addr)(lo:Int)(n:Nat):Turn P w K tg (Itr lo n) [it] it (λi h=>IsRangeIter h it (lo+(i:Nat)*1) ((n:Int)-(i:Nat)) 1) where
 mem:=by simp
 obj:=λi h st b hb=>by
  have e:b=it:=by simpa using hb
  subst e
  exact⟨_,st,λv z=>by
   have z':Data.fields _=Data.cell v:=z
   cases z'⟩
 keep:=λi h h' st k=>k it (by simp) _ st
 item:=by
  intro X hP hw hK hc i pins s σ H E I hf st hg;subst hP hw hK
  obtain⟨f0,f1,f2,f3,f4,f5⟩:=hf it (by simp)
  have W:=Walks.range (prog:=X.prog) (w:=X.w) (I.ok.hd hc) it lo 1 n
  refine W.item i s _ _ hg st λv h' tk hv st' kk=>?_
  obtain⟨t,rfl⟩:=hv
  have I1:Inv X pins σ H { s with heap:=h',toks:=tk }:=I.turned (λb o hb e=>kk b o (by simpa using hb) e) f0 f1 f3 f4 f5
  refine⟨_,rfl,Aj1 (s:={ s with heap:=h',toks:=tk }) (n := "range_iterator") st' rfl rfl (by decide) ⟨.int (lo+i),H,I1,⟨t,?_⟩,⟨rfl,rfl⟩,st',λb hb=>(hf b hb).1⟩⟩
  rw[Int.mul_one]
 done:=by
  intro X hP hw hK hc i pins s σ H E I hf st hg;subst hP hw hK
  obtain⟨f0,f1,f2,f3,f4,f5⟩:=hf it (by simp)
  exact wpAny_pyNext_range_end (I.ok.hd hc) st (by have:n<=i:=hg;lia) λh' eb=>⟨rfl,I.turned (t':=s.toks) (λb o hb e=>eb b o hb e) f0 f1 f3 f4 f5⟩
 self:=λ_ _ _ _ _ st h=>wpAny_pyIter_rangeiter st h
section
variable {X:Cx}{tg:Expr}
theorem A7l {lo hi:Int} (I:Inv X pins c H s) (h1:-(2 ^ 62)<=lo) (h2:lo<2 ^ 62) (d:-(2 ^ 62)<=hi) (f:hi<2 ^ 62)
 (q:R (Itr lo (hi-lo).toNat) H):wpAny (model X.prog X.w) X.A (pyIter (.ref s.heap.objs.size)) (PIE X pins c tg R) E { s with heap:=s.heap.push { cls:=.type "range",data:=.fields #[.int lo t,.int hi u,.int 1 v] },toks:=tk }:=by
 refine wpAny_pyIter_range (IsRange.new ..) (small_one h1 h2 d f) ?_
 have a:Inv X _ _ H { s with heap:=s.heap.push { cls:=.type "range",data:=.fields #[.int lo t,.int hi u,.int 1 v] },toks:=tk }:=I.kept λb o e=>aC _ e
 refine⟨(s.heap.push _).objs.size,[(s.heap.push _).objs.size],_,_,H,rfl,
  a.kept λb o e=>aC _ e,Ay1 _ _ _,?_,λb i=>?_,q⟩
 ·have h:lo+((0:Nat))*1=lo:=by simp
  have g:(((hi-lo).toNat):Int)-((0:Nat))=Builtin.Range.rangeSize lo hi 1:=by rw[rangeSize_one];grind
  rw[h,g];exact aJ _ rfl
 ·have e:b=(s.heap.push { cls:=.type "range",data:=.fields #[.int lo t,.int hi u,.int 1 v] }).objs.size:=by grind
  subst e;exact a.fpOk (au _) (a.hok.fresh (au _))
def Bu7 (ta:TA):TI:=λσ H R=>ta σ H λvs H1=>∃j:Int,vs=[.int j]/\-(2 ^ 62)<=j/\j<2 ^ 62/\R (Itr 0 j.toNat) H1
theorem Hh (hg:Gl X "range") (hm:X.mg "range" = none) (ha:QA X [a] d) (hs:starEach [a] X.env=[(false,eval a X.env)]:=by rfl):QI X tg (.Call (.Name "range" p) [a] [] b) (Bu7 d):=by
 refine⟨?_⟩
 intro f s σ H R I h
 refine Call_ (Ld I hg hm boot_range (dX (thn (ha.1 _ _ s _ H _ I h) λus s1 ⟨vs,H1,g,i,c⟩=>?_) hs rfl))
 obtain⟨j,e,c,k,q⟩:=c;subst e
 cases i with
 | cons r l =>
  cases l
  obtain⟨t,rfl⟩:=r
  exact call_range_1 (A7l g (by lia) (by lia) c k (by grind))
def Bz1 (wi:TI)(g:TG)(tb:TS):TS:=λD σ H=>wi σ H λJ H1=>∃W:Nat->Nat->St->Hp->Prop,(∃m,W 0 m σ H1)/\∀i m σ H,W i m σ H ->
 (J.stop i H/\D.nx σ H)\/(J.go i H/\∃N:St->Hp->Prop,(∀σ' H',N σ' H'->∃m',m'<m/\W (i+1) m' σ' H')/\∀x H',J.yld i H x H'->g x σ H' λσ2 H2=>tb { D with nx:=N,ct:=N,bk:=D.nx } σ2 H2)
noncomputable def Vs (fp:v6) (h:Heap):y_:=fp.filterMap λb=>(h.get? b).map λo=>(b,o)
theorem Ma (hb:b∈fp) (e:h.get? b=some o):(b,o)∈Vs fp h:=dY.mpr ⟨b,hb,by grind⟩
theorem A3z (hp:p∈Vs fp h):p.1∈fp/\h.get? p.1=some p.2:=by
 obtain⟨b,a,e⟩:=dY.mp hp
 cases q:h.get? b with
 | none=>simp_all
 | some o =>
  grind
theorem Inv.pinned (I:Inv X pins a H s) (hf:∀b∈fp,Lh X pins H b) (ho:∀b∈fp,∃o,s.heap.get? b=some o/\∀v,o.data≠.cell v):Inv X (pins++Vs fp s.heap) a H s :=
 I.pins_of λp d=>(bx.mp d).elim (λz=>I.pin p (aN _ z)) λz=>by
  obtain⟨c,e⟩:=A3z z;obtain⟨g,h,f,_⟩:=hf _ c
  grind
theorem Inv.unpinned (I:Inv X (pins++pl) a H s):Inv X pins a H s:=I.pins_of λp b=>I.pin p (aN _ (aX _ b))
theorem Hc (hp:PassesOwn (model X.prog X.w) X.A X.env X.xe) (hc:X.calm=true) (hi:QI X tg p Z) (hg:QG X tg g) (hb:QSs X body tb)
 (hs:∀x,foldedSetIterable p X.env x=pure x:=by intro _;rfl):QS X (.For tg p body [] P) (Bz1 Z g tb):=by
 obtain⟨hb⟩:=hb
 refine⟨?_⟩
 intro a s σ H D I h
 refine wpAny_For (thn (hi.1 a s σ H _ I h) λv s1 h1=>thn h1 λitv s2 h2=>?_) hs
 obtain⟨it,C,tn,J,H2,e,I2,T,Q,Y,W,⟨m0,w0⟩,E⟩:=h2;subst e
 have k:∀{t:Hp},(∀b∈C,t b=none)->∀b∈C,Lh X a t b:=λhn b hb=>⟨hn b hb,(Y b hb).2⟩
 refine codeAny_forLoop_any (λn U=>∃i σ' t,Inv X a σ' t U/\tn i U.heap/\(∀b∈C,t b=none)/\W i n σ' t) ?_ m0 ⟨0,σ,H2,I2,Q,λb hb=>(Y b hb).1,w0⟩
 rintro n V ⟨i,j,L,I3,B,F,w3⟩
 rcases E i n j L w3 with ⟨A,qn⟩ | ⟨go,N,hN,K⟩
 ·refine gA hp (thn (T.done X rfl rfl rfl hc i a V j L X.xe I3 (k F) B A) λr s4 ⟨M,I4⟩=>?_)
  subst M;exact gk ⟨j,L,I4,qn⟩
 ·refine gA hp (thn (T.item X rfl rfl rfl hc i a V j L X.xe I3 (k F) B go) λr s4 ⟨u,M,h4⟩=>?_)
  subst M
  refine gA hp (thn h4 λ_ s5 ⟨x,S,I5,r5,y5,z,O⟩=>?_)
  refine gA hp (thn (hg.1 _ s5 j S x u _ (I5.pinned (k O) (T.obj _ _ z)) r5 (K x S y5)) λ_ s6 ⟨R,H6,I6,q6⟩=>?_)
  refine gA hp (thn (hb _ s6 R H6 _ I6 q6) λf s7 y=>?_)
  have l:∀{c:St} {w:Hp},Inv X (a++Vs C s5.heap) c w s7->N c w->∃m,m<n/\∃i σ' t,Inv X a σ' t _/\tn i _/\(∀b∈C,t b=none)/\W i m σ' t:=λ{c w} q G=>by
   obtain⟨m',hm,w7⟩:=hN _ _ G
   refine⟨m',hm,i+1,c,w,q.unpinned,T.keep _ _ _ z λb hb o e=>(q.pin _ (aN _ (aN _ (Ma hb e)))).1,λb hb=>?_,w7⟩
   obtain⟨o,e,d⟩:=T.obj _ _ z b hb;exact(q.pin _ (aN _ (aN _ (Ma hb e)))).2.1
  cases f with
  | next=>obtain⟨c,w,q,G⟩:=y;exact l q G
  | cont=>obtain⟨c,w,q,G⟩:=y;exact l q G
  | brk=>obtain⟨c,w,q,y⟩:=y;exact⟨c,w,q.unpinned,y⟩
  | ret v=>obtain⟨x7,c,w,q,r7,y⟩:=y;exact⟨x7,c,w,q.unpinned,r7,y⟩
end
abbrev R2:=V->V->Hp->VK->Prop
def OpR (X:Cx)(f:Value->Value->Sem Value)(r:R2):Prop :=
 ∀
  (pins:y_) (s:u_) (σ:St) (H:Hp) (x y:V) (v u:Value) (Q:VK),Inv X pins σ H s->RelV x v->RelV y u->r x y H Q ->
  wpAny (model X.prog X.w) X.A (f v u) (EP X pins σ Q) X.xe s
def UnR (X:Cx)(f:Value->Sem Value)(r:V->Hp->VK->Prop):Prop :=
 ∀
  (pins:y_) (s:u_) (σ:St) (H:Hp) (x:V) (v:Value) (Q:VK),Inv X pins σ H s->RelV x v->r x H Q ->
  wpAny (model X.prog X.w) X.A (f v) (EP X pins σ Q) X.xe s
def CallR (X:Cx)(f:Value)(r:n_->Hp->VK->Prop):Prop :=
 ∀
  (pins:y_) (s:u_) (σ:St) (H:Hp) (xs:n_) (us:w6) (Q:VK),Inv X pins σ H s->Vals xs us->r xs H Q ->
  wpAny (model X.prog X.w) X.A (call f us) (EP X pins σ Q) X.xe s
def tOp (r:R2)(ta tb:TE):TE:=λσ H Q=>ta σ H λx H1=>tb σ H1 λy H2=>r x y H2 Q
def tUn (r:V->Hp->VK->Prop)(ta:TE):TE:=λσ H Q=>ta σ H λx H1=>r x H1 Q
def rI (C:Int->Int->Prop)(g:Int->Int->V):R2:=λx y H Q=>∃i j,x=.int i/\y=.int j/\C i j/\Q (g i j) H
def rI0 (g:Int->Int->V):R2:=λx y H Q=>∃i j,x=.int i/\y=.int j/\Q (g i j) H
def rU (g:Int->V):V->Hp->VK->Prop:=λx H Q=>∃i,x=.int i/\Q (g i) H
section
variable {X:Cx}{a b c:Expr}{ta tb:TE}{pos:Pos}
theorem B1d (ha:PE X a ta)(hb:PE X b tb) {R:V->V->Hp->Prop}(I:Inv X pins g H s)
 (h:ta g H λx j=>tb g j λy c=>R x y c) {f:Value->Value->Sem Value}
 (hf:∀v u i x y c,Inv X pins g c i->RelV x v->RelV y u->R x y c->wpAny (model X.prog X.w) X.A (f v u) Q X.xe i) :
 wpAny (model X.prog X.w) X.A (eval a X.env) (λv d=>wpAny (model X.prog X.w) X.A (eval b X.env) (λu e=>wpAny (model X.prog X.w) X.A (f v u) Q X.xe e) X.xe d) X.xe s:=by
 refine thn (ha _ s _ H _ I h) λv o ⟨x,j,k,n,l⟩=>?_
 refine thn (hb _ _ _ _ _ k l) λu i ⟨y,c,p,q,m⟩=>?_
 grind
theorem X8 (ho:OpR X (binaryOp op) r) (ha:PE X a ta) (hb:PE X b tb):PE X (.BinOp a op b pos) (tOp r ta tb):=by
 intro c s g H Q I h
 exact wpAny_BinOp (B1d ha hb I h λv u i x y j f e d q=>ho _ _ _ _ x y v u Q f e d q)
theorem B2x (ho:UnR X (unaryOp op) r) (ha:PE X a ta):PE X (.UnaryOp op a pos) (tUn r ta):=by
 intro b s f H Q I h
 exact UnaryOp_ (thn (ha _ s _ H _ I h) λv g ⟨x,i,e,d,c⟩=>ho _ _ _ _ x v Q e d c)
theorem opI {g:Int->Int->Int}
 (a:∀(i j:Int) (t u:Tok) (s:u_) (Q:z_) (E:z_),C i j->Q (.int (g i j) s.toks) { s with toks:=s.toks+1 }->wpAny (model X.prog X.w) X.A (f (.int i t) (.int j u)) Q E s) :
 OpR X f (rI C λi j=>.int (g i j)):=by
 intro b s σ H x y v u Q I c e h;obtain⟨i,j,rfl,rfl,d,q⟩:=h;obtain⟨t,rfl⟩:=c;obtain⟨t',rfl⟩:=e;exact a i j t _ s _ _ d ⟨.int _,H,I.tok _,⟨_,rfl⟩,q⟩
theorem Yl {g:Int->Int->Int}
 (a:∀(i j:Int) (t u:Tok) (s:u_) (Q:z_) (E:z_),Q (.int (g i j) s.toks) { s with toks:=s.toks+1 }->wpAny (model X.prog X.w) X.A (f (.int i t) (.int j u)) Q E s) :
 OpR X f (rI0 λi j=>.int (g i j)):=by
 intro b s σ H x y v u Q I c d h;obtain⟨i,j,rfl,rfl,q⟩:=h;obtain⟨t,rfl⟩:=c;obtain⟨t',rfl⟩:=d;exact a i j t _ s _ _ ⟨.int _,H,I.tok _,⟨_,rfl⟩,q⟩
theorem B1t {g:Int->Int->Bool}
 (a:∀(i j:Int) (t u:Tok) (s:u_) (Q:z_) (E:z_),Q (.bool (g i j)) s->wpAny (model X.prog X.w) X.A (f (.int i t) (.int j u)) Q E s) :
 OpR X f (rI0 λi j=>.bl (g i j)):=by
 intro b s σ H x y v u Q I c d h;obtain⟨i,j,rfl,rfl,q⟩:=h;obtain⟨t,rfl⟩:=c;obtain⟨t',rfl⟩:=d;exact a i j t _ s _ _ ⟨.bl _,H,I,rfl,q⟩
def Bl9 (i j:Int):Prop:=0<j/\j<1073741824
def Bm9 (i j:Int):Prop:=0<=j/\j<=1000000/\i.natAbs<2 ^ 64
def CMul (i j:Int):Prop:=(-(2 ^ 64)<i/\i<2 ^ 64)\/(-(2 ^ 64)<j/\j<2 ^ 64)
theorem CMul.ok (h:CMul i j):IntMulOk i j:=by
 rcases h with ⟨b,a⟩ | ⟨b,a⟩
 ·exact .of_left (intBits_le_64 b a)
 ·exact .of_right (intBits_le_64 b a)
theorem B0v:OpR X (binaryOp .Add) (rI0 λi j=>.int (i+j)):=Yl λ_ _ _ _ _ _ _ q=>add_int q
theorem By6:OpR X (binaryOp .Sub) (rI0 λi j=>.int (i-j)):=Yl λ_ _ _ _ _ _ _ q=>sub_int q
theorem Bx8:OpR X (binaryOp .Mult) (rI CMul λi j=>.int (i*j)):=opI λ_ _ _ _ _ _ _ a q=>mul_int q a.ok
theorem Bs0:OpR X (binaryOp .FloorDiv) (rI Bl9 λi j=>.int (i / j)):=opI λi j _ _ _ _ _ a q=>by
 have c:(0:Int)<j:=a.1;have b:j<1073741824:=a.2
 exact floordiv_int (by lia) (by rw[Int.fdiv_eq_ediv_of_nonneg i (by lia)];exact q) (.inl (PyProof.noPylong_small (by lia)))
theorem B0s:OpR X (binaryOp .Mod) (rI (λ_ j=>0<j) λi j=>.int (i % j)):=opI λi j _ _ _ _ _ a q=>by
 have b:(0:Int)<j:=a
 exact mod_int' (by lia) (by rw[Int.fmod_eq_emod_of_nonneg i (by lia)];exact q)
theorem B2p:OpR X (binaryOp .Pow) (rI Bm9 λi j=>.int (i ^ j.toNat)):=opI λ_ _ _ _ _ _ _ a q=>pow_int_small a.1 a.2.1 a.2.2 q
theorem unI {g:Int->Int}
 (a:∀(i:Int) (t:Tok) (s:u_) (Q:z_) (E:z_),Q (.int (g i) s.toks) { s with toks:=s.toks+1 }->wpAny (model X.prog X.w) X.A (f (.int i t)) Q E s) :
 UnR X f (rU λi=>.int (g i)):=by
 intro b s σ H x v Q I c h;obtain⟨i,rfl,q⟩:=h;obtain⟨t,rfl⟩:=c;exact a i t s _ _ ⟨.int _,H,I.tok _,⟨_,rfl⟩,q⟩
theorem Bx1:UnR X (unaryOp .USub) (rU λi=>.int (-i)):=unI λ_ _ _ _ _ q=>neg_int q
end
noncomputable def B5h:V->V->Bool
 | .non,.non=>true | .non,.int _=>true | .int _,.non=>true | .non,.bl _=>true | .bl _,.non=>true | .non,.str _=>true | .str _,.non=>true
 | .int _,.int _=>true | .bl _,.bl _=>true | .str _,.str _=>true | .byt _,.byt _=>true
 | .int _,.str _=>true | .str _,.int _=>true | .bl _,.str _=>true | .str _,.bl _=>true
 | _,_=>false
def rEq:R2:=λx y H Q=>B5h x y=true/\Q (.bl (decide (x=y))) H
def rNe:R2:=λx y H Q=>B5h x y=true/\Q (.bl (!decide (x=y))) H
theorem A2v : decide (V.int i=V.int j)=(i==j):=by
 grind
theorem Bd2 : decide (V.bl i=V.bl j)=(i==j):=by
 grind
theorem A2l : decide (V.str i=V.str j)=(i==j):=by
 grind
theorem A1q : decide (V.byt i=V.byt j)=(i.toList==j.toList):=by
 rw[Bool.eq_iff_iff]
 simp_all
section
variable {X:Cx}{a b c:Expr}{ta tb:TE}{pos:Pos}
theorem Bw {b:St} {k a:Bool}(I:Inv X pins b H s) (q:Q (.bl k) H) (e:k=a):EP X pins b Q (.bool a) s:=by
 subst e;exact⟨.bl k,H,I,rfl,q⟩
theorem B5f:OpR X (compareOp .Eq) rEq:=by
 intro e s σ H x y v u Q I d a h;obtain⟨c,q⟩:=h
 cases x with
 | non =>
  cases d
  cases y with
  | non=>cases a;exact PySem.EqNone.eq_none_none (Bw I q (by simp))
  | bl j=>cases a;exact PySem.EqNone.eq_none_bool (Bw I q (by simp))
  | int j=>obtain⟨b,rfl⟩:=a;exact PySem.EqNone.eq_none_int (Bw I q (by simp))
  | str j=>obtain⟨b,rfl⟩:=a;exact PySem.EqNone.eq_none_str (Bw I q (by simp))
  | _=>exact absurd (show false=true from c) bf
 | bl i =>
  cases d
  cases y with
  | non=>cases a;exact PySem.EqNone.eq_bool_none (Bw I q (by simp))
  | bl j=>cases a;exact eq_bool (Bw I q Bd2)
  | str j=>obtain⟨b,rfl⟩:=a;exact PySem.EqMixed.eq_bool_str (Bw I q (by simp))
  | _=>exact absurd (show false=true from c) bf
 | int i =>
  obtain⟨t,rfl⟩:=d
  cases y with
  | non=>cases a;exact PySem.EqNone.eq_int_none (Bw I q (by simp))
  | int j=>obtain⟨b,rfl⟩:=a;exact eq_int (Bw I q A2v)
  | str j=>obtain⟨b,rfl⟩:=a;exact PySem.EqMixed.eq_int_str (Bw I q (by simp))
  | _=>exact absurd (show false=true from c) bf
 | str i =>
  obtain⟨t,rfl⟩:=d
  cases y with
  | non=>cases a;exact PySem.EqNone.eq_str_none (Bw I q (by simp))
  | bl j=>cases a;exact PySem.EqMixed.eq_str_bool (Bw I q (by simp))
  | int j=>obtain⟨b,rfl⟩:=a;exact PySem.EqMixed.eq_str_int (Bw I q (by simp))
  | str j=>obtain⟨b,rfl⟩:=a;exact eq_str (Bw I q A2l)
  | _=>exact absurd (show false=true from c) bf
 | byt i =>
  obtain⟨t,rfl⟩:=d
  cases y with
  | byt j=>obtain⟨b,rfl⟩:=a;exact PySem.W.eq_bytes (Bw I q A1q)
  | _=>exact absurd (c) bf
 | _=>cases y <;> exact absurd (show false=true from c) bf
theorem B3v:OpR X (compareOp .NotEq) rNe:=by
 intro e s σ H x y v u Q I d a h;obtain⟨c,q⟩:=h
 cases x with
 | non =>
  cases d
  cases y with
  | non=>cases a;exact PySem.EqNone.ne_none_none (Bw I q (by simp))
  | bl j=>cases a;exact PySem.EqNone.ne_none_bool (Bw I q (by simp))
  | int j=>obtain⟨b,rfl⟩:=a;exact PySem.EqNone.ne_none_int (Bw I q (by simp))
  | str j=>obtain⟨b,rfl⟩:=a;exact PySem.EqNone.ne_none_str (Bw I q (by simp))
  | _=>exact absurd (show false=true from c) bf
 | bl i =>
  cases d
  cases y with
  | non=>cases a;exact PySem.EqNone.ne_bool_none (Bw I q (by simp))
  | bl j=>cases a;exact ne_bool (Bw I q (bU not Bd2))
  | str j=>obtain⟨b,rfl⟩:=a;exact PySem.EqMixed.ne_bool_str (Bw I q (by simp))
  | _=>exact absurd (show false=true from c) bf
 | int i =>
  obtain⟨t,rfl⟩:=d
  cases y with
  | non=>cases a;exact PySem.EqNone.ne_int_none (Bw I q (by simp))
  | int j=>obtain⟨b,rfl⟩:=a;exact ne_int (Bw I q (bU not A2v))
  | str j=>obtain⟨b,rfl⟩:=a;exact PySem.EqMixed.ne_int_str (Bw I q (by simp))
  | _=>exact absurd (show false=true from c) bf
 | str i =>
  obtain⟨t,rfl⟩:=d
  cases y with
  | non=>cases a;exact PySem.EqNone.ne_str_none (Bw I q (by simp))
  | bl j=>cases a;exact PySem.EqMixed.ne_str_bool (Bw I q (by simp))
  | int j=>obtain⟨b,rfl⟩:=a;exact PySem.EqMixed.ne_str_int (Bw I q (by simp))
  | str j=>obtain⟨b,rfl⟩:=a;exact ne_str (Bw I q (bU not A2l))
  | _=>exact absurd (show false=true from c) bf
 | byt i =>
  obtain⟨t,rfl⟩:=d
  cases y with
  | byt j=>obtain⟨b,rfl⟩:=a;exact PySem.W.ne_bytes (Bw I q (bU not A1q))
  | _=>exact absurd (c) bf
 | _=>cases y <;> exact absurd (show false=true from c) bf
theorem B3q:OpR X (compareOp .Lt) (rI0 λi j=>.bl (decide (i<j))):=B1t λ_ _ _ _ _ _ _ q=>lt_int q
theorem B3r:OpR X (compareOp .Gt) (rI0 λi j=>.bl (decide (j<i))):=B1t λ_ _ _ _ _ _ _ q=>gt_int q
theorem B4q:OpR X (compareOp .GtE) (rI0 λi j=>.bl (decide (j<=i))):=B1t λ_ _ _ _ _ _ _ q=>ge_int q
theorem B0n:OpR X (compareOp .Is) (λx y H Q=>y=.non/\Q (.bl (decide (x=.non))) H):=by
 intro a s σ H x y v u Q I c b h;obtain⟨rfl,q⟩:=h
 cases b
 refine is_none_gen (Bw I q ?_)
 cases x <;> first
  | lia
  | (obtain⟨t,rfl⟩:=c;rfl)
theorem Bh1:OpR X (compareOp .IsNot) (λx y H Q=>y=.non/\Q (.bl (!decide (x=.non))) H):=by
 intro a s σ H x y v u Q I c b h;obtain⟨rfl,q⟩:=h
 cases b
 refine isnot_none_gen (Bw I q ?_)
 cases x <;> first
  | rfl
  | (obtain⟨t,rfl⟩:=c;rfl)
theorem OpR.or {r b:R2}(h:OpR X f r) (h':OpR X f b):OpR X f (λx y H Q=>r x y H Q\/b x y H Q):=by
 intro c s e H x y v u Q I d a q
 rcases q with q | q
 ·exact h _ s _ H x y v u Q I d a q
 ·exact h' _ s _ H x y v u Q I d a q
theorem M3 (b:Expr) (h:op≠.In:=by decide) (h2:op≠.NotIn:=by decide):behindInMarks op b=false:=by
 have c:(op==CmpOp.In)=false:=by grind
 have a:(op==CmpOp.NotIn)=false:=by grind
 cases b <;> simp[behindInMarks,c,a]
theorem Ab7 (ho:OpR X (compareOp op) r) (ha:PE X a ta) (hb:PE X b tb) (hm:behindInMarks op b=false):PE X (.Compare a [op] [b] pos) (tOp r ta tb):=by
 intro c s g H Q I h
 exact wpAny_Compare1 (B1d ha hb I h λv u i x y j f e d q=>ho _ _ _ _ x y v u Q f e d q) hm
def O7 (t:TE):TT:=λσ H Q=>t σ H λx H'=>∃k,x=.bl k/\Q k H'
theorem Jt (ho:OpR X (compareOp op) r) (ha:PE X a ta) (hb:PE X b tb) (hm:behindInMarks op b=false):PT X (.Compare a [op] [b] pos) (O7 (tOp r ta tb)):=by
 intro d s t H Q I h
 refine wpAny_isTrue_Compare1 (thn (ha _ s _ H _ I h) λv C ⟨x,D,j,l,m⟩=>thn (hb _ _ _ _ _ j m) λu w ⟨y,B,i,g,o⟩ =>
  thn (ho _ _ _ _ x y v u _ i l g o) λc A ⟨z,n,p,q,k,e,f⟩=>?_) hm
 subst e
 cases q
 exact gj ⟨n,p,f⟩
theorem Xp:(sizeLine:Nat)<2 ^ 63:=by decide
theorem Aw8:OpR X (binaryOp .Add) (λx y H Q=>∃i j,x=.str i/\y=.str j/\i.length+j.length<=sizeLine/\Q (.str (i++j)) H):=by
 intro a s σ H x y v u Q I c b h;obtain⟨i,j,rfl,rfl,e,q⟩:=h;obtain⟨t,rfl⟩:=c;obtain⟨d,rfl⟩:=b
 exact add_str (λd tk=>⟨.str _,H,I.tok _,⟨_,rfl⟩,q⟩) e
theorem vals1 (r:Vals [x] us):∃u,us=[u]/\RelV x u:=by
 cases r with
 | cons b a=>cases a;grind
theorem vals2 (r:Vals [x,y] us):∃u w',us=[u,w']/\RelV x u/\RelV y w':=by
 cases r with
 | cons c b =>
  cases b with
  | cons d a=>cases a;grind
theorem Bb6:CallR X (.builtin "abs") (λxs H Q=>∃i,xs=[.int i]/\Q (.int (if i<0 then -i else i)) H):=by
 intro a s σ H xs us Q I r h;obtain⟨i,rfl,q⟩:=h;obtain⟨u,rfl,t,rfl⟩:=vals1 r
 exact call_abs_int λu tk=>⟨.int _,H,I.tok _,⟨_,rfl⟩,q⟩
theorem A4h (hc:X.calm=true):CallR X (.builtin "min") (λxs H Q=>∃i j,xs=[.int i,.int j]/\Q (.int (if j<i then j else i)) H):=by
 intro a s σ H xs us Q I r h;obtain⟨i,j,rfl,q⟩:=h;obtain⟨u,w',rfl,⟨t,rfl⟩,⟨t',rfl⟩⟩:=vals2 r
 refine min_two_ints (I.ok.hd hc) λh' tk k=>⟨_,H,I.kept k,?_,q⟩
 by_cases hj:j<i
 ·rw[if_pos hj,if_pos hj];exact⟨_,rfl⟩
 ·rw[if_neg hj,if_neg hj];exact⟨_,rfl⟩
theorem A3k:CallR X (.type "int") (λxs H Q=>(∃i,xs=[.int i]/\Q (.int i) H)\/∃k,xs=[.bl k]/\Q (.int (if k then 1 else 0)) H):=by
 intro a s σ H xs us Q I r h
 rcases h with ⟨i,rfl,q⟩ | ⟨k,rfl,q⟩
 ·obtain⟨u,rfl,t,rfl⟩:=vals1 r
  exact call_int_int ⟨.int i,H,I,⟨_,rfl⟩,q⟩
 ·obtain⟨u,rfl,b⟩:=vals1 r
  cases b
  exact call_int_bool ⟨.int _,H,I.tok _,⟨_,rfl⟩,q⟩
theorem Aa9:CallR X (.type "str") (λxs H Q=>∃i,xs=[.int i]/\i.natAbs.log2<1920/\Q (.str (toString i)) H):=by
 intro a s σ H xs us Q I r h;obtain⟨i,rfl,b,q⟩:=h;obtain⟨u,rfl,t,rfl⟩:=vals1 r;exact PySem.P.str_of_int b ⟨.str _,H,I.tok _,⟨_,rfl⟩,q⟩
def B4s (K:v9)(x:V)(H:Hp)(n:Nat):Prop :=
 match x with
 | .str y=>y.length<=sizeLine/\n=y.length
 | .byt y=>y.size<=sizeLine/\n=y.size
 | .ref p=>(∃xs,SqL K H p xs/\n=xs.length)\/∃xs,SqT K H p xs/\n=xs.length
 | _=>False
theorem An7:CallR X (.builtin "len") (λxs H Q=>∃x n,xs=[x]/\B4s X.K x H n/\Q (.int n) H):=by
 intro j s σ H xs us Q I r h;obtain⟨x,n,rfl,e,q⟩:=h;obtain⟨u,rfl,d⟩:=vals1 r;have hl:=Xp;have hs:sizeLine=16777216:=sizeLine_eq
 cases x with
 | str y =>
  obtain⟨t,rfl⟩:=d;obtain⟨l,b⟩:y.length<=sizeLine/\n=y.length:=e;subst b
  exact len_str (by lia) ⟨.int _,H,I.tok _,⟨_,rfl⟩,q⟩
 | byt y =>
  obtain⟨t,rfl⟩:=d;obtain⟨l,b⟩:y.size<=sizeLine/\n=y.size:=e;subst b
  exact PySem.W.len_bytes (by lia) ⟨.int _,H,I.tok _,⟨_,rfl⟩,q⟩
 | ref p =>
  cases d
  have b := e
  rcases b with ⟨xs,c,b⟩ | ⟨xs,c,b⟩
  ·subst b
   obtain⟨g,f,i,k⟩:=I.list c;have a:=f.length
   exact Calls.call_len_list i.isList (by grind) ⟨.int _,H,I.tok _,⟨_,by simp only[b_];rw[a]⟩,q⟩
  ·subst b
   obtain⟨g,f,i,k⟩:=I.tuple c;have a:=f.length
   exact len_tuple i (by grind) ⟨.int _,H,I.tok _,⟨_,by simp only[b_];rw[a]⟩,q⟩
 | _=>trivial
end
structure ObjM (h:Heap) (x dx C:Addr) (mA:x_):Prop where
 obj:h.get? x=some (PySem.W.instObj C dx)
 ns:h.Ns1 dx mA
 ne:dx≠x
theorem A6j {h:Heap} (n:h.Ns1 d f):∃od,h.get? d=some od/\∀b,PySem.W.lookIn b od=some (f b):=by
 obtain⟨o,g,p,i,j,k,_,l⟩:=n
 refine⟨o,i,λb=>?_⟩
 have e:=l b;unfold nsFind findBy at e;unfold PySem.W.lookIn;rw[j]
 dsimp only
 split
 ·grind
 ·have a:g.toList.any (·.refKey)=false:=by
   rw[List.any_eq_false];intro y m;obtain⟨z,t,c⟩:=k y (Array.mem_toList_iff.mp m)
   simp[DictEntry.refKey,c]
  grind
theorem ObjM.look (I:ObjM h x b C a):∃od,PySem.W.InstAt h x (PySem.W.instObj C b) C (some od)/\∀name,PySem.W.lookIn name od=some (a name) :=
 let ⟨od,ho,hl⟩:=A6j I.ns
 ⟨od,⟨I.obj,rfl,rfl,ho⟩,hl⟩
section
variable {prog:u6}{w:World}{A:t_}{E:z_}{s:u_}{K:v9}{x dx C f:Addr}{mA:x_}{name:Str}{v:Value}
theorem Vh (X:K.In s.heap) (I:ObjM s.heap x dx C mA)
 (hs:PySem.W.findIn K (.ref C) "__setattr__" = some (some (.builtin "object.__setattr__"))) (hp:PySem.W.plainOver K C=true) (ht:PySem.W.takerIn K C name=some none) (k:PySem.W.hasDictIn K C=true)
 (hw:PySem.Within mA ns) (hsz:ns.length<=sizeLine)
 (h:∀d,ObjM d x dx C (λy=>if y=name then some v else mA y)->Heap.SameBut dx s.heap d->Q () { s with heap:=d,toks:=s.toks+2 }) :
 wpAny (model prog w) A (setAttr (.ref x) name v) Q E s:=by
 obtain⟨r,J,p⟩:=I.look
 refine PySem.W.set_plain X J hs (PySem.W.osa_open X J hp ht λb=>?_)
 obtain⟨o,l,g⟩:=PySem.W.any_some k;have n := I.obj
 refine aj (ak (aj (aj (wpAny_loadPart n (aj (PySem.W.Looks.here (PySem.W.looks_clsIn X l) ?_))))))
 rw[g]
 refine ak (aj (ak (aj ?_)))
 refine wpAny_nsSet1 I.ns λd c a=>?_
 obtain⟨q,j,m,f,i,e⟩:=c.count (PySem.Within.cons _ v hw)
 refine aj (wpAny_lookBehind f (by rw[i];exact pastItsLine_dict (aq e (by simp_all))) ?_)
 exact ak (h _ ⟨(a.2 _ (aD I.ne)).trans I.obj,c,I.ne⟩ a)
end
structure Room (k:Nat) (A:t_):Prop where
 hd:A.handled=none
 dp:A.depth+3*k+5<recursionLimit
 un:A.units+16*k+200<cLine
 gd:A.guards=some []
theorem Room.mono (r:Room k A) (h:j<=k):Room j A:=⟨r.hd,by have:=r.dp;lia,by have:=r.un;lia,r.gd⟩
theorem Room.deeper (r:Room (k+1) A) (env:Env):Room k (A.deeper env) :=
 ⟨r.hd,by have:=r.dp;show A.depth+1+3*k+5<_;lia,by have:=r.un;show A.units+3+16*k+200<_;lia,r.gd⟩
theorem Room.depth (r:Room k A):A.depth<recursionLimit:=by have:=r.dp;lia
theorem Room.units (r:Room k A):A.units+64<cLine:=by have:=r.un;lia
def Gs:TA:=λ_ H Q=>Q [] H
def Cg (ta:TE)(tr:TA):TA:=λσ H Q=>ta σ H λx H1=>tr σ H1 λxs H2=>Q (x::xs) H2
section
variable {X:Cx}{e:Expr}{es:v_}{te:TE}{t:TA}{pos:Pos}
theorem Az1:PA X [] Gs:=λ_ _ _ _ H Q I h=>dZ ⟨[],H,I,.nil,h⟩
theorem A1u (ha:PE X e te)(hr:PA X es t)(hs:starEach (e::es) X.env=(false,eval e X.env)::starEach es X.env:=by rfl):PA X (e::es) (Cg te t):=by
 intro d a s m H Q I h;rw[hs]
 refine cZ (thn (ha _ s _ H _ I h) λu o ⟨x,n,f,g,i⟩=>?_)
 exact thn (hr _ _ _ _ _ _ f i) λp q ⟨c,k,j,l,b⟩=>⟨x::c,k,j,.cons g l,b⟩
def A4g (t:TA):TE:=λσ H Q=>t σ H λxs H1=>xs.length<=sizeLine/\∀p,H1 p=none->Q (.ref p) (upd H1 p (.tup xs))
def A9n (t:TA):TE:=λσ H Q=>t σ H λxs H1=>xs.length<=sizeLine/\∀p,H1 p=none->Q (.ref p) (upd H1 p (.lst xs))
theorem Bs (h:QA X es t):QE X (.Tuple es d pos) (A4g t):=by
 refine⟨?_⟩
 intro a s i H Q I g
 refine wpAny_Tuple_spliced (thn (h.1 _ _ s _ H _ I g) λf j ⟨k,l,c,r,z,q⟩=>⟨by rw[<- r.length];grind,?_⟩)
 refine⟨.ref _,upd _ _ _,c.laid (λb u e=>aC _ e) (au _) ?_,rfl,q _ (c.hok.fresh (au _))⟩
 exact⟨z,f,r,⟨_,aJ _ rfl,rfl,⟨_,rfl⟩,rfl⟩⟩
theorem Ce (h:QA X es t):QE X (.List es pos) (A9n t):=by
 refine⟨?_⟩
 intro c s g H Q I d
 refine wpAny_List_spliced (thn (h.1 _ _ s _ H _ I d) λf i ⟨j,k,a,r,z,q⟩=>⟨by rw[<- r.length];grind,?_⟩)
 refine⟨.ref _,upd _ _ _,a.laid (λb u e=>aC _ e) (au _) ?_,rfl,q _ (a.hok.fresh (au _))⟩
 exact⟨z,f,0,r,aJ _ rfl⟩
end
abbrev Sp:=n_->Hp->VK->XK->Prop
abbrev CXT:=List Env->Hp->u_->XK->Value->u_->Prop
structure Al2 (P:u6) (w:World) (K:v9) (mg:x_) (base:Heap) (A:t_) (outer:List Env) (s:u_) (H:Hp):Prop where
 frames:A.frames=some outer
 mod:Mod K mg base
 bs:∀b o,base.get? b=some o->s.heap.get? b=some o/\H b=none
 bsz:base.objs.size<=s.heap.objs.size
 funs:s.heap.FunFrames base outer
 frf:∀b∈frs outer,H b=none
 tab:∀p∈Dq K,H p.1=some (.tbl p.2)
 hok:HOk P w H s.heap
 bare:AllBare s.gens
def CE (outer:List Env)(P:u6)(w:World)(H:Hp)(s:u_)(Q:VK)(u:Value)(s':u_):Prop :=
 ∃v H',s'.os=s.os/\AllBare s'.gens/\Un (frs outer) [] H H' s.heap s'.heap/\HOk P w H' s'.heap/\RelV v u/\Q v H'
def CR (CX:CXT)(outer:List Env)(P:u6)(w:World)(H:Hp)(s:u_)(Q:VK)(E:XK)(r:Result)(s':u_):Prop :=
 match r with
 | .ok (.ret u)=>CE outer P w H s Q u s'
 | .ok _=>False
 | .error e=>CX outer H s E e s'
structure FnOk (P:u6) (w:World) (K:v9) (mg:x_) (base:Heap) (CX:CXT) (k:Nat) (f:Addr) (fd:u5) (ps:v4) (sp:Sp):Prop where
 len:∀vs H Q E,sp vs H Q E->vs.length=ps.length
 run:∀(A:t_) (outer:List Env) (s:u_) (H:Hp) (args:Args) (us:w6) (vs:n_) (Q:VK) (E:XK),Room k A->Al2 P w K mg base A outer s H->BindsTo s fd args (ps.zip us)->Vals vs us->sp vs H Q E ->
  codeAny (model P w) A (.call (.ref f) args) (CR CX outer P w H s Q E) s
theorem FnOk.imp {K:v9} (F:FnOk P w K mg base CX k f d ps sp)
 (h:∀b H Q E,a b H Q E->sp b H Q E):FnOk P w K mg base CX k f d ps a :=
 ⟨λb H Q E q=>F.len _ H Q E (h _ _ _ _ q),λA c s H e n b Q E j l i m g=>F.run A _ s H _ _ _ Q E j l i m (h _ _ _ _ g)⟩
section
variable {X:Cx}{pins:y_}{σ:St}{H:Hp}{s s':u_}
theorem Inv.env0 (I:Inv X pins σ H s):Al2 X.prog X.w X.K X.mg X.base X.A X.stack s H :=
 ⟨I.ok.frames,I.ok.mod,I.bs,aq I.ok.bsz I.sz,I.stack,I.stkFree,λp a=>I.base.tbls _ _ (I.ok.tab p a),I.hok,I.bare⟩
theorem Inv.after (I:Inv X pins σ H s) (h:CE X.stack X.prog X.w H s Q u s'):EP X pins σ Q u s':=by
 obtain⟨v,j,i,a,f,c,r,q⟩:=h;obtain⟨hh,g,d,t,e⟩:=s';obtain rfl:e=s.os:=i
 exact⟨v,j,I.call f c a λb z=>absurd z (by simp),r,q⟩
end
def M6 (sp:Sp)(dvs:n_)(E:XK)(t:TA):TE:=λσ H Q=>t σ H λvs H1=>sp (vs++dvs) H1 Q E
def Binds (K:v9)(fd:u5)(ps:v4)(ds:w6):Prop :=
 ∀(s:u_) (us:w6),K.In s.heap->(us++ds).length=ps.length->BindsTo s fd ⟨us,[]⟩ (ps.zip (us++ds))
theorem Binds.all {K:v9} (h:∀a:w6,a.length=ps.length->bindArgs c ⟨a,[]⟩=pure (ps.zip a)):Binds K c ps []:=λs a _ b=>by
 rw[cA]at b ⊢;exact .of_eq (h _ b)
def Lj (CX:CXT)(X:Cx)(E:XK):Prop:=∀(pins:y_) (σ:St) (H:Hp) (s:u_) (e:Value) (s':u_),Inv X pins σ H s->CX X.stack H s E e s'->X.xe e s'
section
variable {X:Cx}{CX:CXT}{k:Nat}{f:Addr}{fd:u5}{ps:v4}{sp:Sp}{dvs:n_}{ds:w6}{E:XK}{x:Str}{p pos:Pos}{e:Expr}{es:v_}{t:TA}
theorem B1w (F:FnOk X.prog X.w X.K X.mg X.base CX k f fd ps sp) (hr:Room k X.A) (hb:Binds X.K fd ps ds) (hd:Vals dvs ds) (hx:Lj CX X E)
 (I:Inv X pins b H s) (r:Vals vs us) (h:sp (vs++dvs) H Q E):wpAny (model X.prog X.w) X.A (call (.ref f) us) (EP X pins b Q) X.xe s:=by
 have a := r.append hd
 have g:(us++ds).length=ps.length:=by rw[<- a.length];exact F.len _ _ _ _ h
 refine wpAny_call (gB (F.run _ _ s H _ _ _ Q E hr I.env0 (hb s _ I.kIn g) a h) λr i c=>?_)
 cases r with
 | error e=>exact hx _ _ H s e _ I c
 | ok d =>
  cases d with
  | ret u=>exact I.after c
  | next=>assumption
  | brk=>assumption
  | cont=>trivial
theorem Bo4 (F:FnOk X.prog X.w X.K X.mg X.base CX k f fd ps sp)(hr:Room k X.A)(hg:Gl X x)(hm:X.mg x=some (.ref f))(hk:PySem.W.keepIn X.K (.ref f)=true)(hb:Binds X.K fd ps ds)(hd:Vals dvs ds)(hx:Lj CX X E)
 (ha:PA X (e::es) t) (hdb:(x==("__debug__" : Str))=false:=by decide) (he:starEach (e::es) X.env=(false,eval e X.env)::starEach es X.env:=by rfl) (hpl:(backTo pos (starEach es X.env)).any (·.1)=false:=by rfl) :
 PE X (.Call (.Name x p) (e::es) [] pos) (M6 sp dvs E t):=by
 intro b s c H Q I h
 refine gC (Od I hg hm ?_ hdb)
 refine PySem.W.callWith_K I.ok.mod.kin hk (thn (ha _ _ s _ H _ I h) λd g ⟨i,j,a,r,q⟩=>⟨a.kIn,?_⟩) he hpl
 exact B1w F hr hb hd hx a r q
end
structure Ba (N P:v4) (sc:Scope):Prop where
 kind:sc.kind=.function:=by rfl
 co:sc.isCoroutine=false:=by rfl
 gen:sc.isGenerator=false:=by rfl
 nd:N.Nodup:=by decide +kernel
 pre:N.take P.length=P:=by rfl
 par:∀x∈P,sc.names.lookup x=some .local\/sc.names.lookup x=some .cell:=by decide +kernel
 nofree:∀y∈sc.names,y.2≠.free:=by decide +kernel
theorem Zj {kindOf:Str->Option NameKind}{x:Str}:∀{binds:List (Str×Value)}{m:x_},(∀v,(x,v)∉binds)->bindL kindOf binds m x=m x
 | [],_,_=>rfl
 | (n,v)::r,m,h=>by
  unfold bindL
  rw[Zj λw hw=>h w (bI _ hw)]
  split
  ·have:x≠n:=by rintro rfl;exact h v bR
   simp[this]
  ·rfl
theorem Zx {kindOf:Str->Option NameKind}{x:Str}:∀{binds:List (Str×Value)}{m:x_},(∀v,(x,v)∉binds)->bindC kindOf binds m x=m x
 | [],_,_=>rfl
 | (n,v)::r,m,h=>by
  unfold bindC
  rw[Zx λw hw=>h w (bI _ hw)]
  split
  ·rfl
  ·have:x≠n:=by rintro rfl;exact h v bR
   simp[this]
theorem Z0 {kindOf:Str->Option NameKind}{x:Str}{v:Value}:∀{P:v4}{vs:w6}{i:Nat}{m:x_},P.Nodup->P[i]?=some x->vs[i]?=some v->kindOf x=some .local ->
 bindL kindOf (P.zip vs) m x=some v
 | [],_,_,_,_,h,_,_=>by simp at h
 | _::_,[],_,_,_,_,h,_=>by simp at h
 | p::P,w::vs,0,m,nd,h1,h2,hk=>by
  simp at h1 h2;subst h1;subst h2
  show bindL kindOf ((p,w)::P.zip vs) m p=_
  unfold bindL
  rw[Zj λv hv=>(bH.mp nd).1 (iw hv).1,if_pos hk]
  simp
 | p::P,w::vs,i+1,m,nd,h1,h2,hk=>by
  show bindL kindOf ((p,w)::P.zip vs) m x=_
  unfold bindL
  exact Z0 (i:=i) (bH.mp nd).2 (by simpa using h1) (by simpa using h2) hk
theorem Z7 {kindOf:Str->Option NameKind}{x:Str}{v:Value}:∀{P:v4}{vs:w6}{i:Nat}{m:x_},P.Nodup->P[i]?=some x->vs[i]?=some v->kindOf x≠some .local ->
 bindC kindOf (P.zip vs) m x=some v
 | [],_,_,_,_,h,_,_=>by simp at h
 | _::_,[],_,_,_,_,h,_=>by simp at h
 | p::P,w::vs,0,m,nd,h1,h2,hk=>by
  simp at h1 h2;subst h1;subst h2
  show bindC kindOf ((p,w)::P.zip vs) m p=_
  unfold bindC
  rw[Zx λv hv=>(bH.mp nd).1 (iw hv).1,if_neg hk]
  simp
 | p::P,w::vs,i+1,m,nd,h1,h2,hk=>by
  show bindC kindOf ((p,w)::P.zip vs) m x=_
  unfold bindC
  exact Z7 (i:=i) (bH.mp nd).2 (by simpa using h1) (by simpa using h2) hk
noncomputable def start (N:v4) (vs:n_):St:=vs.map some++List.replicate (N.length-vs.length) none
noncomputable def Jm (CX:CXT) (P:u6) (w:World) (K:v9) (mg:x_) (base:Heap) (N:v4) (qual:Str) (scope:Scope) (f:Addr) (cd:Value) (A:t_) (outer:List Env) (s:u_) (H:Hp) (E:XK):Cx where
 prog:=P
 w:=w
 K:=K
 mg:=mg
 base:=base
 A:=A.deeper (envOfC qual scope s.heap.objs.size f cd)
 N:=N
 s₀:=s
 H₀:=H
 env:=envOfC qual scope s.heap.objs.size f cd
 outer:=outer
 stack:=envOfC qual scope s.heap.objs.size f cd::outer
 ex:=[]
 calm:=true
 fn:=λ_=>true
 pn:=[]
 xe:=λe s'=>wpAny (model P w) (A.deeper (envOfC qual scope s.heap.objs.size f cd)) (leaving (envOfC qual scope s.heap.objs.size f cd) e) (λ_ s''=>CX outer H s E e s'') (λe' s''=>CX outer H s E e' s'') s'
theorem Al9 {a:Scope} (h:a.names.lookup x=some .cell):∃c,(cellsFrom n a.names []).lookup x=some c:=by
 exact Option.isSome_iff_exists.mp (PySem.W.cellsFrom_some _ n [] (.inl h))
theorem Y8 {K:v9}
 (S:Ba N ps scope) (hd:A.handled=none) (d:Al2 P w K mg base A a s H) (hl:vs.length=ps.length) (r:Vals vs us)
 (x:InCallC s s.heap.objs.size (bindL (envOfC qual scope s.heap.objs.size f t).kindOf (ps.zip us) λ_=>none) (cellsFrom (s.heap.objs.size+1) scope.names []) (bindC (envOfC qual scope s.heap.objs.size f t).kindOf (ps.zip us) λ_=>none) s1) :
 Inv (Jm CX P w K mg base N qual scope f t A a s H E) [] (start N vs) H s1:=by
 have D:ps.length<=N.length:=by have:=bU List.length S.pre;rw[dg]at this;lia
 obtain⟨o,tk,rfl,B⟩:=x.done
 have g:∀b:Addr,b∉(Jm CX P w K mg base N qual scope f t A a s H E).ex:=λb z=>absurd (show b∈([]:v6) from z) (by simp)
 refine⟨⟨d.mod,S.kind,rfl,rfl,au _,λy z c o n=>?_,λy j=>?_,λy c _ h=>?_,λ_=>hd,Around.frames_deeper d.frames,.inr ⟨rfl,rfl⟩,λb z=>absurd z (g b),d.bs,d.bsz,λb _ _=>g b,λb z=>absurd z (g b),d.funs,d.frf,d.tab⟩,
  rfl,d.bare,Un.kept B,⟨_,x.toInCall.ns,λi y v o n h3=>?_⟩,λy c h=>⟨_,x.cell y c h⟩,d.hok.fresh (au _),λy c h=>?_,λp m=>absurd (show p∈([]:y_) from m) (by simp),d.hok.kept B,?_⟩
 ·exact name_of_addr x.apart (gF o) (gF n)
 ·have j:scope.names.lookup y=some .cell\/scope.names.lookup y=some .free:=j
  rcases j with j | j
  ·exact Al9 j
  ·exact absurd rfl (S.nofree _ (gF j))
 ·exact cR (x.above y c (gF h))
 ·have hi:i<vs.length:=by
   unfold start at n
   grind
  have F:vs[i]?=some v:=by
   unfold start at n
   grind
  obtain⟨u,C,G⟩:=r.get F
  have m:ps[i]?=some y:=by
   rw[<- S.pre,List.getElem?_take_of_lt (by lia)];exact o
  have l:ps.Nodup:=by rw[<- S.pre];exact S.nd.sublist (j9 _ _)
  refine⟨u,G,?_⟩
  rcases S.par y (bz m) with k | k
  ·exact .inl ⟨k,Z0 l m C k⟩
  ·obtain⟨c,e⟩:=Al9 k
   refine .inr ⟨.inl k,c,e,?_⟩
   have q:=x.cell y c e
   rw[Z7 l m C (by show scope.names.lookup y≠_;rw[k];decide)]at q
   exact q
 ·exact d.hok.fresh (cR (x.above y c (gF h)))
 ·unfold start
  show _=N.length
  simp_all
theorem A7n {K:v9}
 (lk:K.lookup f=some ⟨oc,od,.func (PySem.W.fnOf name qual d body scope U O z R M a W),F⟩) (hcd:PySem.W.codeIn K a qual=true) (S:Ba N ps scope)
 (p:∀vs H Q E,sp vs H Q E->vs.length=ps.length)
 (i:∀(A:t_) (c:List Env) (s:u_) (H:Hp) (vs:n_) (Q:VK) (E:XK),Room k (A.deeper (envOfC qual scope s.heap.objs.size f a))->sp vs H Q E ->
  ∃t,PSs (Jm CX P w K mg base N qual scope f a A c s H E) body t/\t { nx:=λ_ H'=>Q .non H',rt:=Q } (start N vs) H) :
 FnOk P w K mg base CX (k+1) f (PySem.W.fnOf name qual d body scope U O z R M a W) ps sp:=by
 refine⟨p,λA c s H T X vs Q E C l hb r m=>?_⟩
 have hl:=p _ _ _ _ m
 have G := l.mod.kin.keeps λb o e=>(l.bs b o e).1
 have h:∀y∈ps.zip X,scope.names.lookup y.1=some .local\/(scope.names.lookup y.1=some _/\((cellsFrom (s.heap.objs.size+1) _ []).lookup y.1).isSome=true):=λ⟨n,v⟩ Y=>by
  rcases S.par n (iw Y).1 with q | q
  ·grind
  ·exact .inr ⟨q,PySem.W.cellsFrom_some _ _ _ (.inl q)⟩
 refine codeAny_call_function C.depth (G _ _ lk) rfl S.co S.gen rfl (PySem.W.codeRec_of G hcd) (hb _ _ _ _ ?_)
 refine wpAny_newFunctionEnv_cells S.kind h λZ he s1 x=>?_
 subst he
 refine⟨(l.mod.nolimit.keeps λb o e=>(l.bs b o e).1).keeps x.toInCall.keep,codeAny_func ?_⟩
 obtain⟨t,ht,hq⟩:=i A _ s H _ Q E (C.deeper _) m;have I:Inv (Jm CX P w K _ _ N qual _ f a A _ s H E) _ _ H _:=Y8 S C.hd l hl r x
 refine aU (ht _ _ _ H _ I hq) (λfl L j=>?_) λe L j=>j
 have B:∀{g:St} {H':Hp} {v:V} {u:Value},Inv (Jm CX P w K mg base N qual scope f a A c s H E) [] g _ L->RelV v u->Q v _->CE _ P w H s Q u _ :=
  λ{g H' v u} J D q=>⟨v,H',J.os,J.bare,J.base,J.hok,D,q⟩
 cases fl with
 | ret u =>
  obtain⟨v,g,H',J,D,q⟩:=j;exact B J D q
 | next =>
  obtain⟨g,H',J,q⟩:=j;exact B (v:=V.non) J rfl q
 | brk =>
  obtain⟨_,_,_,q⟩:=j
  trivial
 | cont =>
  obtain⟨_,_,_,q⟩:=j
  trivial
section
variable {X:Cx}{x:Str}{p pos:Pos}{e:Expr}{es:v_}{t:TA}{id T:String}{r:n_->Hp->VK->Prop}
def tCB (r:n_->Hp->VK->Prop)(t:TA):TE:=λσ H Q=>t σ H λvs H1=>r vs H1 Q
theorem Bg1 (hc:CallR X (.builtin id) r)(hg:Gl X x)(hm:X.mg x=none)(hv:bootBuiltins x=some (.builtin id))(ha:PA X (e::es) t)(hn:x ≠ "__name__" := by decide) (hdb:(x==("__debug__" : Str))=false:=by decide)
 (he:starEach (e::es) X.env=(false,eval e X.env)::starEach es X.env:=by rfl) (hpl:(backTo pos (starEach es X.env)).any (·.1)=false:=by rfl):PE X (.Call (.Name x p) (e::es) [] pos) (tCB r t):=by
 intro a s f H Q I h
 refine gC (Ld I hg hm hv ?_ hn hdb)
 exact PyProof.Rows.callWith_builtin1 (thn (ha _ _ s _ H _ I h) λj k ⟨g,i,d,c,b⟩=>hc _ _ _ _ _ _ Q d c b) he hpl
theorem A5a (hc:CallR X (.type T) r)(hg:Gl X x)(hm:X.mg x=none)(hv:bootBuiltins x=some (.type T))(ha:PA X (e::es) t)(hn:x ≠ "__name__" := by decide) (hdb:(x==("__debug__" : Str))=false:=by decide)
 (he:starEach (e::es) X.env=(false,eval e X.env)::starEach es X.env:=by rfl) (hpl:(backTo pos (starEach es X.env)).any (·.1)=false:=by rfl):PE X (.Call (.Name x p) (e::es) [] pos) (tCB r t):=by
 intro a s f H Q I h
 refine gC (Ld I hg hm hv ?_ hn hdb)
 exact dX (thn (ha _ _ s _ H _ I h) λj k ⟨g,i,d,c,b⟩=>hc _ _ _ _ _ _ Q d c b) he hpl
end
end L2
namespace HT
open PySem PyProof.Rows
section
variable {prog:u6}{w:World}{A:t_}{E:z_}{s:u_}
theorem Bp8 (ht:IsTup s.heap t vs.toArray) (hb:IsTup s.heap b c.toArray) (hv:vs≠[])
 (h1:c=[]->Q (.ref t) s) (h2:c≠[]->Q (.ref s.heap.objs.size) { s with heap:=s.heap.push { cls:=.type "tuple",data:=.seq (vs++c).toArray } })
 (hsz:vs.length+c.length<=sizeLine):wpAny (model prog w) A (binaryOp .Add (.ref t) (.ref b)) Q E s:=by
 obtain⟨⟨g,q,d,p⟩,e,o,n,l⟩:=id ht;obtain⟨⟨j,k,i,m⟩,a,h,r,f⟩:=id hb;subst o l h f
 by_cases hw:c=[]
 ·exact concat_meets ⟨_,e,rfl⟩ ⟨_,a,rfl⟩ jb seq_tuple_add jc jd (je _ _)
   (tuple_addW1 t b _ _ n _ _ _ _ _ (by simp_all) (by grind)) ⟨e,a,h1 hw⟩
 ·refine concat_meets ⟨_,e,rfl⟩ ⟨_,a,rfl⟩ jb seq_tuple_add jc jd (je _ _)
   (tuple_addW2 t b _ _ n _ _ _ _ _ (by grind) (by simp_all) (by simp_all)) ⟨e,a,?_⟩
  grind
noncomputable def sIx (n d:Nat):q9->Nat
 | none=>d
 | some v=>if v<0 then (v+(n:Int)).toNat else min v.toNat n
theorem Ap7 (n d:Nat):sIx n d none=d:=rfl
theorem Vm (n d k:Nat):sIx n d (some (k:Int))=min k n:=by
 show (if k<0 then ((k:Int)+n).toNat else min _ n)=min k n
 grind
theorem B1h (n d:Nat)(hd:d<=n)(o:q9):sIx n d o<=n:=by
 cases o with
 | none=>exact hd
 | some v =>
  show (if v<0 then (v+n).toNat else min _ n)<=n
  grind
theorem A0z (v:Int)(n d:Nat):(if v<0 then max (v+(n:Int)) 0 else min v (n:Int))=((sIx n d (some v):Nat):Int):=by
 show (if v<0 then max _ 0 else min v _)=(((if v<0 then (v+n).toNat else min _ n):Nat):Int)
 grind
theorem At3 (lo hi:q9)(n:Nat):Builtin.Slice.sliceAdjust lo hi 1 (n:Int)=(((sIx n 0 lo:Nat):Int),((sIx n n hi:Nat):Int)):=by
 refine Prod.ext ?_ ?_
 ·cases lo with
  | none=>rfl
  | some v=>exact A0z v n 0
 ·cases hi with
  | none=>rfl
  | some v=>exact A0z v n n
theorem Ax1 (i j:Nat):Builtin.Slice.slicePlaces (i:Int) (j:Int) 1=j-i:=by
 unfold Builtin.Slice.slicePlaces
 have h1:(1:Int)>0:=by lia
 simp only[h1,c7,Int.ediv_one]
 split <;> lia
theorem Vx (p:IsPart v o) (h:Q o s):wpAny (model prog w) A (Builtin.Slice.slicePartIndex v) Q E s:=by
 cases p with
 | none=>exact slicePart_none h
 | int i t=>exact slicePart_int h
theorem Kl {lo hi:q9}{n:Nat} (hs:s.heap.IsSliceOf e d c .none) (pl:IsPart d lo) (g:IsPart c hi)
 (h:Q (((sIx n 0 lo:Nat):Int),1,sIx n n hi-sIx n 0 lo) s):wpAny (model prog w) A (Builtin.Slice.sliceApplied (.ref e) (pure (n:Int))) Q E s:=by
 obtain⟨i,a,f,b⟩:=id hs
 refine aj (aj (aY a b (x:=d) rfl (aj (aY a b (x:=c) rfl (aj (aY a b rfl (ak ?_)))))))
 refine aj (slicePart_none ?_)
 refine aj (Vx pl (aj (Vx g (aj (ak ?_)))))
 show wpAny _ _ (match Builtin.Slice.sliceAdjust _ _ 1 _ with | (lo,hi)=>pure (lo,(1:Int),Builtin.Slice.slicePlaces lo hi 1)) _ _ s
 rw[At3 _ _ n]
 show wpAny _ _ (pure _) _ _ s
 rw[Ax1];exact ak h
theorem A9k (xs:v7)(i k:Nat):((List.range k).filterMap λ(m:Nat)=>xs[((i:Int)+(m:Int)*1).toNat]?).toArray=((xs.toList.drop i).take k).toArray:=by
 have e:(λ(m:Nat)=>xs[((i:Int)+m*1).toNat]?)=λm=>xs[i+m]?:=by
  funext m
  have:((i:Int)+m*1).toNat=i+m:=by lia
  rw[this]
 rw[e];have:=pick_run xs i k;rw[jf]at this
 have a:((λx=>xs[x]?) ∘ λx=>i+x)=λm=>xs[i+m]?:=rfl
 rw[a]at this;rw[this]
theorem Qz {lo hi:q9} (ht:IsTup s.heap t items) (hs:s.heap.IsSliceOf sl vl vu .none) (pl:IsPart vl lo) (pu:IsPart vu hi)
 (hw:¬ (sIx items.size 0 lo=0/\sIx items.size items.size hi=items.size))
 (h:Q (.ref s.heap.objs.size) { s with heap:=s.heap.push { cls:=.type "tuple",data:=.seq ((items.toList.drop (sIx items.size 0 lo)).take (sIx items.size items.size hi-sIx items.size 0 lo)).toArray } })
 (hsz:items.size<=sizeLine):wpAny (model prog w) A (getItem (.ref t) (.ref sl)) Q E s:=by
 have htake:sizeOk (.seq ((items.toList.drop (sIx items.size 0 lo)).take (sIx items.size items.size hi-sIx items.size 0 lo)).toArray):=by
  show ((items.toList.drop (sIx items.size 0 lo)).take (sIx items.size items.size hi-sIx items.size 0 lo)).toArray.size<=sizeLine
  rw[b_,dg,iy,gG];lia
 have hj:sIx items.size items.size hi<=items.size:=B1h _ _ (au _) hi;obtain⟨os,hos,hcs,hds⟩:=id hs;have hTs:s.TypeIs (.ref sl) "slice" := ⟨os,hos,hcs⟩;unfold getItem
 try with_reducible refine bZ ?_
 first | refine aj (ak ?_) | skip
 refine aj (wpAny_sequenceKey ht.typeIs (by decide) ?_)
 refine aj (cj (name:="__getitem__") ht.typeIs fO
  (bB fO ht.typeIs entry_tuple_getitem ?_ (args_tuple_getitem _ _)))
 show wpAny _ _ (Builtin.Tuple.tupleItemsOf (.ref t) >>= _) _ _ s
 refine aj (tupleItemsOf_ ht ?_)
 refine aj (dF hTs ?_)
 rw[if_pos (by decide)]
 refine aj (Kl hs pl pu ?_)
 have hno:¬ ((((sIx items.size 0 lo:Nat):Int)==0&&(1:Int)==1&&(sIx items.size items.size hi-sIx items.size 0 lo)==items.size)=true):=by
  intro q;rw[dh,dh]at q;have q1:((sIx items.size 0 lo:Nat):Int)=0:=cT q.1.1;have q2:sIx items.size items.size hi-sIx items.size 0 lo=items.size:=cT q.2
  exact hw ⟨by lia,by lia⟩
 show wpAny _ _ (if (((sIx items.size 0 lo:Nat):Int)==0&&(1:Int)==1&&(sIx items.size items.size hi-sIx items.size 0 lo)==items.size)=true then _ else _) _ _ s
 rw[if_neg hno,A9k]
 first
  | exact aj (m:=Builtin.Tuple.tupleExact _) (bO (ak ⟨_,rfl,ak h⟩) htake)
  | exact aj (m:=Builtin.Tuple.tupleExact _) (bO (aj (ak (ak ⟨_,rfl,ak h⟩))) htake)
  | exact aj (aj (m:=Builtin.Tuple.tupleExact _) (bO (ak (ak ⟨_,rfl,ak h⟩)) htake))
  | exact aj (aj (m:=Builtin.Tuple.tupleExact _) (bO (ak ⟨_,rfl,ak h⟩) htake))
end
end HT
namespace L2
open PySem PySem.Spec PyProof.Rows
abbrev TO:=St->Hp->(q9->Hp->Prop)->Prop
def PO (X:Cx)(e:Option Expr)(t:TO):Prop :=
 ∀
  (pins:y_) (s:u_) (σ:St) (H:Hp) (Q:q9->Hp->Prop),Inv X pins σ H s->t σ H Q ->
  wpAny (model X.prog X.w) X.A (evalPart e X.env) (λu s'=>∃o H',Inv X pins σ H' s'/\IsPart u o/\Q o H') X.xe s
structure QO (X:Cx) (e:(Option Expr)) (t:TO):Prop where
 get:PO X e t
noncomputable def A2i:TO:=λ_ H Q=>Q none H
noncomputable def Bv2 (t:TE):TO:=λσ H Q=>t σ H λx H1=>∃i,x=.int i/\Q (some i) H1
section
variable {X:Cx}{e:Expr}{te:TE}{lo hi:Option Expr}{tl th:TO}{pos p2:Pos}
theorem Ho:QO X none A2i:=by
 refine⟨?_⟩
 intro a s b H Q I h;exact ak ⟨none,H,I,.none,h⟩
theorem En (h:QE X e te):QO X (some e) (Bv2 te):=by
 refine⟨?_⟩
 intro a s σ H Q I d
 refine thn (h.1 _ s _ H _ I d) λu s1 ⟨x,f,b,c,g⟩=>?_
 obtain⟨i,rfl,q⟩:=g;obtain⟨t,rfl⟩:=c;exact⟨some i,f,b,.int i t,q⟩
def SlR (X:Cx)(r:V->q9->q9->Hp->VK->Prop):Prop :=
 ∀
  (pins:y_) (s:u_) (σ:St) (H:Hp) (x:V) (v vl vu:Value) (lo hi:q9) (sl:Addr) (Q:VK),Inv X pins σ H s->RelV x v->s.heap.IsSliceOf sl vl vu .none->IsPart vl lo->IsPart vu hi->r x lo hi H Q ->
  ∃T id,typeLookup (.type T) "__getitem__" = pure (some (.builtin id))/\s.TypeIs v T/\wpAny (model X.prog X.w) X.A (getItem v (.ref sl)) (EP X pins σ Q) X.xe s
theorem SlR.or (h:SlR X r) (h':SlR X b):SlR X (λx lo hi H Q=>r x lo hi H Q\/b x lo hi H Q):=by
 intro d s g H x v i j lo hi k Q I e c f a q
 rcases q with q | q
 ·exact h _ s _ H x v _ _ _ _ _ Q I e c f a q
 ·exact h' _ s _ H x v _ _ _ _ _ Q I e c f a q
def tSl (r:V->q9->q9->Hp->VK->Prop)(te:TE)(tl th:TO):TE:=λσ H Q=>te σ H λx H1=>tl σ H1 λl H2=>th σ H2 λu H3=>r x l u H3 Q
theorem Bf3 (hr:SlR X r) (he:QE X e te) (hl:QO X lo tl) (hu:QO X hi th):QE X (.Subscript e (.Slice lo hi none p2) pos) (tSl r te tl th):=by
 refine⟨?_⟩
 intro c s E H Q I h
 refine Subscript_ (thn (he.1 _ s _ H _ I h) λv B ⟨x,D,i,j,k⟩=>?_)
 refine wpAny_Slice (thn (hl.1 _ _ _ _ _ i k) λm C ⟨l,K,n,o,f⟩=>thn (hu.1 _ _ _ _ _ n f) λg a ⟨u,J,t,w,p⟩=>?_)
 refine ak ?_
 have z:Inv X _ _ _ { a with heap:=a.heap.push { cls:=.type "slice",data:=.fields #[m,g,.none] } }:=t.kept λb F q=>aC _ q
 obtain⟨T,G,y,A,d⟩:=hr _ _ _ _ x v _ _ l u _ Q z j (Heap.IsSliceOf.new ..) o w p
 exact tail_any A y d (by trivial)
def A4c (xs:n_)(lo hi:q9):n_:=(xs.drop (HT.sIx xs.length 0 lo)).take (HT.sIx xs.length xs.length hi-HT.sIx xs.length 0 lo)
theorem Uh (xs:n_)(lo hi:q9):(A4c xs lo hi).length<=xs.length:=by
 unfold A4c;rw[dg,iy];lia
def B4v (K:v9):V->q9->q9->Hp->VK->Prop:=λx lo hi H Q=>∃a xs,x=.ref a/\SqT K H a xs /\
 ¬ (HT.sIx xs.length 0 lo=0/\HT.sIx xs.length xs.length hi=xs.length)/\∀p,H p=none->Q (.ref p) (upd H p (.tup (A4c xs lo hi)))
theorem B0c:SlR X (B4v X.K):=by
 intro e s σ H x v vl vu lo hi sl Q I j k g l h;obtain⟨a,i,rfl,m,hw,q⟩:=h
 cases j
 obtain⟨d,r,f,n⟩:=I.tuple m
 have c:d.toArray.size=i.length:=by exact r.length.symm
 refine⟨"tuple",_,fO.lookup,f.typeIs,?_⟩
 refine HT.Qz f k g l (by grind) ?_ (by simp_all)
 rw[c]
 refine⟨.ref _,_,I.laid (λb ob q=>aC _ q) (au _) ?_,rfl,q _ (I.hok.fresh (au _))⟩
 exact⟨aq (Uh _ _ _) n,_,(r.drop _).take _,zY.new _ _⟩
def B4n (K:v9):R2:=λx y H Q=>∃a b xs ys,x=.ref a/\y=.ref b/\SqT K H a xs/\SqT K H b ys/\xs≠[]/\xs.length+ys.length<=sizeLine /\
 (ys=[]->Q (.ref a) H)/\(ys≠[]->∀p,H p=none->Q (.ref p) (upd H p (.tup (xs++ys))))
theorem Vals.nil_iff (r:Vals xs us):us=[]↔xs=[]:=by
 cases r with
 | nil=>simp
 | cons _ _=>simp
theorem Br2:OpR X (binaryOp .Add) (B4n X.K):=by
 intro e s σ H x y v u Q I o p h;obtain⟨a,b,xs,ys,rfl,rfl,k,l,g,hz,m,j⟩:=h
 cases o
 cases p
 obtain⟨i,d,n,_⟩:=I.tuple k;obtain⟨f,c,r,_⟩:=I.tuple l
 refine HT.Bp8 n r (λz=>g (d.nil_iff.mp z)) (λz=>⟨.ref a,H,I,rfl,m (c.nil_iff.mp z)⟩) (λz=>?_) (by rw[<- d.length,<- c.length];grind)
 refine⟨.ref _,_,I.laid (λb ob q=>aC _ q) (au _) ?_,rfl,j (λw=>z (c.nil_iff.mpr w)) _ (I.hok.fresh (au _))⟩
 exact⟨by simp_all,_,d.append c,zY.new _ _⟩
end
noncomputable def ixN (n:Nat) (i:Int):Option Nat:=if 0<=i then (if i<n then some i.toNat else none) else if -(n:Int)<=i then some (i+n).toNat else none
def atI {α:Type}(xs:List α)(i:Int):Option α:=(ixN xs.length i).bind λj=>xs[j]?
theorem Ae2 (h:ixN n i=some j):seqIndex? i n=some j/\j<n/\-(n:Int)<=i/\i<n:=by
 unfold ixN at h
 by_cases h0:0<=i
 ·rw[if_pos h0]at h
  by_cases h1:i<n
  ·rw[if_pos h1]at h
   have e := bY h
   exact⟨by rw[seqIndex_of h0 h1,e],by lia,by lia,h1⟩
  simp_all
 ·rw[if_neg h0]at h
  by_cases h1:-n<=i
  ·rw[if_pos h1]at h
   have e := bY h
   exact⟨by rw[seqIndex_neg (by lia) h1,e],by lia,h1,by lia⟩
  simp_all
theorem Af4 {xs:List a} {v:a}(h:atI xs i=some v):∃j,seqIndex? i xs.length=some j/\xs[j]?=some v/\j<xs.length/\-(xs.length:Int)<=i/\i<xs.length:=by
 unfold atI at h
 cases e:ixN xs.length i with
 | none=>simp_all
 | some j =>
  obtain⟨c,d,f,b⟩:=Ae2 e
  grind
theorem Gz {xs:List a}{j:Nat}{v:a}(h:xs[j]?=some v):atI xs (j:Int)=some v:=by
 have b := (bG.mp h).1
 have e:ixN xs.length j=some j:=by
  unfold ixN
  simp_all
 unfold atI;grind
def Om (b:Expr):Prop:=∀o i,subscripted b false o i=operate [o,i] (getItem o i)
def IxR (X:Cx)(r:R2):Prop :=
 ∀
  (value slice:Expr) (pins:y_) (s:u_) (σ:St) (H:Hp) (x y:V) (v u:Value) (Q:VK),Inv X pins σ H s->RelV x v->RelV y u->r x y H Q ->
  subscripted slice false v u=operate [v,u] (getItem v u)->wpAny (model X.prog X.w) X.A (subscriptTail value slice v u) (EP X pins σ Q) X.xe s
def MtR (X:Cx)(id:String)(r:V->n_->Hp->VK->Prop):Prop :=
 ∀
  (pins:y_) (s:u_) (σ:St) (H:Hp) (x:V) (xs:n_) (v:Value) (us:w6) (Q:VK),Inv X pins σ H s->RelV x v->Vals xs us->r x xs H Q ->
  wpAny (model X.prog X.w) X.A (call (.builtin id) (v::us)) (EP X pins σ Q) X.xe s
section
variable {X:Cx}{a b:Expr}{ta tb:TE}{pos:Pos}
theorem IxR.or (h:IxR X r) (h':IxR X d):IxR X (λx y H Q=>r x y H Q\/d x y H Q):=by
 intro b a e s i H x y v u Q I f g q c
 rcases q with q | q
 ·exact h _ _ _ s _ H x y v u Q I f g q c
 ·exact h' _ _ _ s _ H x y v u Q I f g q c
theorem Bs8 (hr:IxR X r) (ha:QE X a ta) (hb:QE X b tb) (hs:Om b):QE X (.Subscript a b pos) (tOp r ta tb):=by
 obtain⟨ha⟩:=ha;obtain⟨hb⟩:=hb
 refine⟨?_⟩
 intro c s g H Q I h
 exact Subscript_ (B1d ha hb I h λv u i x y j f e d q=>hr a b _ _ _ _ x y v u Q f e d q (hs _ _))
def Bx2 (K:v9):R2:=λx y H Q=>∃p xs i v,x=.ref p/\y=.int i/\SqL K H p xs/\atI xs i=some v/\Q v H
def B0d (K:v9):R2:=λx y H Q=>∃p xs i v,x=.ref p/\y=.int i/\SqT K H p xs/\atI xs i=some v/\Q v H
def B5a:R2:=λx y H Q=>∃z i c,x=.str z/\y=.int i/\z.length<=sizeLine/\atI z.cps.toList i=some c/\Q (.str ⟨#[c]⟩) H
theorem ix_list:IxR X (Bx2 X.K):=by
 intro g f a s m H x y v u Q I C F h l;obtain⟨p,xs,i,z,rfl,rfl,E,n,q⟩:=h
 cases C
 obtain⟨t,rfl⟩:=F;obtain⟨e,r,c,hz⟩:=I.list E;obtain⟨j,k,D,h3,o,B⟩:=Af4 n;obtain⟨w,ew,d⟩:=r.get D;have hl:=r.length;have hn:=Xp;have b:EP X a m Q w s:=⟨z,H,I,d,q⟩
 by_cases h0:0<=i
 ·have A:i.toNat=j:=by
   rw[seqIndex_of h0 B]at k
   simp_all
  exact item_listR c.isList h0 (by lia) (by grind) b l
 ·have A:(i+e.toArray.size).toNat=j:=by
   rw[seqIndex_neg (by lia) o]at k
   simp_all
  exact subscriptTail_builtinR c.isList.typeIs slot_list_getitem.lookup
   (wpAny_getItem_list_neg c.isList (by lia) (by simp_all) (by lia) (by grind) ⟨rfl,b⟩) l
theorem ix_tup:IxR X (B0d X.K):=by
 intro b c e s σ H x y v u Q I A g h o;obtain⟨p,xs,i,z,rfl,rfl,m,n,q⟩:=h
 cases A
 obtain⟨t,rfl⟩:=g;obtain⟨k,r,f,hz⟩:=I.tuple m;obtain⟨j,h1,l,h3,h4,h5⟩:=Af4 n;obtain⟨w,ew,d⟩:=r.get l;have hl:=r.length;have hn:=Xp;have a:EP X _ _ Q w s:=⟨z,H,I,d,q⟩
 exact subscriptTail_builtinR f.typeIs slot_tuple_getitem.lookup
  (getItem_tuple (j:=j) f (by lia) (by lia) (by simp_all) (by grind) ⟨rfl,a⟩) o
theorem B2c:IxR X B5a:=by
 intro a b d s σ H x y v u Q I f m h g;obtain⟨z,i,c,rfl,rfl,hz,l,q⟩:=h;obtain⟨t,rfl⟩:=f;obtain⟨t',rfl⟩:=m;obtain⟨j,e,k,h3,o,n⟩:=Af4 l
 have p:z.cps.toList.length=z.length:=by simp[Str.length]
 rw[p]at e o n;have hn:=Xp
 exact tail_any (typeIs_str s z t) slot_str_getitem.lookup (getItem_str (by
  grind) (by rw[e];simpa using k) ⟨.str _,H,I.tok _,⟨_,rfl⟩,q⟩) g
def rIx (K:v9):R2:=λx y H Q=>Bx2 K x y H Q\/B0d K x y H Q\/B5a x y H Q
theorem Bw6:IxR X (rIx X.K):=ix_list.or (ix_tup.or B2c)
theorem As9 (a:w6)(n j:Nat)(u:Value):Obj.mapSeq (·.setIfInBounds j u) { cls:=.type "list",data:=.seq a.toArray n }={ cls:=.type "list",data:=.seq (a.set j u).toArray n }:=by
 simp[Obj.mapSeq]
theorem Inv.lst {b:St} (I:Inv X pins b H s) (h:H p=some (.lst xs)) :
 ∃(a:w6) (n:Nat),Vals xs a/\s.heap.get? p=some { cls:=.type "list",data:=.seq a.toArray n }/\xs.length<=sizeLine:=by
 obtain⟨z,a,n,r,e⟩:=I.hok p _ h
 grind
theorem Inv.lstUpd {a its':w6} (I:Inv X pins c H s) (h:H p=some (.lst xs))
 (ho:s.heap.get? p=some { cls:=.type "list",data:=.seq a.toArray n }) (hf:f { cls:=.type "list",data:=.seq a.toArray n }={ cls:=.type "list",data:=.seq its'.toArray n' }) (r:Vals ys its') (hz:ys.length<=sizeLine) (t:Nat) :
 Inv X pins c (upd H p (.lst ys)) { s with heap:=s.heap.update p f,toks:=t }:=by
 have e:(s.heap.update p f).get? p=some { cls:=.type "list",data:=.seq its'.toArray n' }:=by
  rw[cu f ho (by rw[hf] <;> rfl),hf]
 refine I.write (by rw[h];trivial) (.inl rfl) (λb u d q=>(cH _ _ (aD d)).trans q) ⟨_,e⟩ ?_
 exact⟨hz,its',n',r,e⟩
def Bt0:V->V->V->Hp->(Hp->Prop)->Prop:=λo i v H Q=>∃p xs k j,o=.ref p/\i=.int k/\H p=some (.lst xs)/\ixN xs.length k=some j/\Q (upd H p (.lst (xs.set j v)))
theorem set_list:B5e X Bt0:=by
 intro a s w H o i v ov iv u Q I y m g h;obtain⟨p,l,k,j,rfl,rfl,d,x,q⟩:=h
 cases y
 obtain⟨t,rfl⟩:=m;obtain⟨b,n,r,c,hz⟩:=I.lst d;obtain⟨e,h2,z,A⟩:=Ae2 x;have hl:=r.length;have hn:=Xp
 have I':Inv X a w (upd H p (.lst (l.set j v))) { s with heap:=s.heap.update p (Obj.mapSeq (·.setIfInBounds j u)) } :=
  I.lstUpd d c (As9 _ n j u) (r.set g j) (by grind) _
 by_cases h0:0<=k
 ·have f:k.toNat=j:=by
   rw[seqIndex_of h0 A]at e
   grind
  exact PySem.W.ki_setAt c h0 (by lia) (by grind) (by grind)
 ·have f:(k+b.toArray.size).toNat=j:=by
   rw[seqIndex_neg (by lia) z]at e
   simp_all
  exact PySem.W.ki_setBack c (by lia) (by simp_all) (by lia) (by grind)
theorem Ac3 (lo hi:q9)(n:Nat):(sliceBounds lo hi none n).1=((HT.sIx n 0 lo:Nat):Int)/\(sliceBounds lo hi none n).2.1=((HT.sIx n n hi:Nat):Int)/\(sliceBounds lo hi none n).2.2=1:=by
 refine⟨?_,?_,rfl⟩
 ·cases lo with
  | none=>simp[sliceBounds,HT.sIx]
  | some i =>
   simp only[sliceBounds,HT.sIx,Option.getD_none,show (1:Int)>0 by decide,c7]
   by_cases h:i<0
   ·simp only[h,c7] <;> lia
   ·simp only[h,bj] <;> lia
 ·cases hi with
  | none=>simp[sliceBounds,HT.sIx]
  | some i =>
   simp only[sliceBounds,HT.sIx,Option.getD_none,show (1:Int)>0 by decide,c7]
   by_cases h:i<0
   ·simp only[h,c7] <;> lia
   ·simp only[h,bj] <;> lia
theorem Yt (a:w6)(lo hi:q9):slicePick a.toArray lo hi none=((a.drop (HT.sIx a.length 0 lo)).take (HT.sIx a.length a.length hi-HT.sIx a.length 0 lo)).toArray:=by
 obtain⟨c,d,b⟩:=Ac3 _ _ _;unfold slicePick;rw[c,d,b]
 simp only[sliceRange_one,pick_run] <;> rfl
def B4r (K:v9):V->q9->q9->Hp->VK->Prop:=λx lo hi H Q=>∃a xs,x=.ref a/\SqL K H a xs/\∀p,H p=none->Q (.ref p) (upd H p (.lst (A4c xs lo hi)))
theorem Br0:SlR X (B4r X.K):=by
 intro e s σ H x v vl vu lo hi sl Q I i j f k h;obtain⟨a,xs,rfl,g,q⟩:=h
 cases i
 obtain⟨l,r,d,m⟩:=I.list g;have c:=r.length
 refine⟨"list",_,slot_list_getitem.lookup,d.isList.typeIs,?_⟩
 refine wpAny_getItem_list_slice d.isList j f k .none (by simp) ?_ (by simp_all)
 rw[Yt,<- c]
 refine⟨.ref _,_,I.laid (λb ob q=>aC _ q) (au _) ?_,rfl,q _ (I.hok.fresh (au _))⟩
 exact⟨aq (Uh _ _ _) m,_,0,(r.drop _).take _,aJ _ rfl⟩
noncomputable def R8:V->Bool
 | .non=>true
 | .bl _=>true
 | .int _=>true
 | .str _=>true
 | _=>false
noncomputable def eqV:V->V->Bool
 | .non,.non=>true
 | .bl a,.bl b=>a==b
 | .bl a,.int b=>(if a then 1 else 0)==b
 | .int a,.bl b=>a==(if b then 1 else 0)
 | .int a,.int b=>a==b
 | .str a,.str b=>a==b
 | _,_=>false
theorem By3 (e:RelV y u) (c:RelV x v) (f:R8 y=true) (fx:R8 x=true):SeqAt.EqAt A s u v (eqV y x):=by
 cases y with
 | non =>
  cases e
  cases x with
  | non=>cases c;exact SeqAt.EqAt.same _
  | bl b=>cases c;exact SeqAt.EqAt.none_bool b
  | int b=>obtain⟨t,rfl⟩:=c;exact SeqAt.EqAt.none_int b t
  | str b=>obtain⟨t,rfl⟩:=c;exact SeqAt.EqAt.none_str b t
  | _=>exact absurd (show false=true from fx) bf
 | bl a =>
  cases e
  cases x with
  | non=>cases c;exact SeqAt.EqAt.bool_none a
  | bl b=>cases c;exact SeqAt.EqAt.bool_bool a b
  | int b=>obtain⟨t,rfl⟩:=c;exact SeqAt.EqAt.bool_int a b t
  | str b=>obtain⟨t,rfl⟩:=c;exact SeqAt.EqAt.bool_str a b t
  | _=>exact absurd (show false=true from fx) bf
 | int a =>
  obtain⟨d,rfl⟩:=e
  cases x with
  | non=>cases c;exact SeqAt.EqAt.int_none a d
  | bl b=>cases c;exact SeqAt.EqAt.int_bool a d b
  | int b=>obtain⟨t,rfl⟩:=c;exact SeqAt.EqAt.int_int a d b t
  | str b=>obtain⟨t,rfl⟩:=c;exact SeqAt.EqAt.int_str a d b t
  | _=>exact absurd (show false=true from fx) bf
 | str a =>
  obtain⟨d,rfl⟩:=e
  cases x with
  | non=>cases c;exact SeqAt.EqAt.str_none a d
  | bl b=>cases c;exact SeqAt.EqAt.str_bool a d b
  | int b=>obtain⟨t,rfl⟩:=c;exact SeqAt.EqAt.str_int a d b t
  | str b=>obtain⟨t,rfl⟩:=c;exact jg a _ b t
  | _=>exact absurd (fx) bf
 | _=>exact absurd f bf
def eqU (x:V)(u:Value):Bool:=match u with
 | .none=>eqV .non x
 | .bool b=>eqV (.bl b) x
 | .int i _=>eqV (.int i) x
 | .str z _=>eqV (.str z) x
 | _=>false
theorem Bf7 (r:RelV y u) (f:R8 y=true):eqU x u=eqV y x:=by
 cases y with
 | non=>cases r;rfl
 | bl b=>cases r;rfl
 | int i=>obtain⟨t,rfl⟩:=r;rfl
 | str z=>obtain⟨t,rfl⟩:=r;rfl
 | _=>trivial
theorem Ah6 {x:V}:∀{xs:n_}{us:w6},Vals xs us->xs.all R8=true->us.any (eqU x)=xs.any λy=>eqV y x
 | _,_,.nil,_=>rfl
 | y::xs,u::us,.cons r t,f=>by
  rw[List.all_cons,dh]at f;rw[gH,gH,Bf7 r f.1,Ah6 t f.2]
theorem Wf {A:t_}{s:u_}{x:V}{v:Value}(rx:RelV x v)(fx:R8 x=true):∀{xs:n_}{us:w6},Vals xs us->xs.all R8=true->∀u∈us,SeqAt.EqAt A s u v (eqU x u)
 | _,_,.nil,_=>λu hu=>by cases hu
 | y::xs,u::us,.cons r t,f=>λu' hu=>by
  rw[List.all_cons,dh]at f
  rcases aB.mp hu with rfl | hu
  ·rw[Bf7 r f.1];exact By3 r rx f.1 fx
  ·exact Wf rx fx t f.2 u' hu
def inV (x:V)(xs:n_):Bool:=xs.any λy=>eqV y x
def rIn (K:v9)(neg:Bool):R2:=λx y H Q=>∃p xs,y=.ref p/\(SqL K H p xs\/SqT K H p xs)/\R8 x=true/\xs.all R8=true/\Q (.bl (if neg then !inV x xs else inV x xs)) H
theorem Ag5:OpR X (compareOp .NotIn) (rIn X.K true):=by
 intro e s σ H x y v u Q I f i h;obtain⟨p,xs,rfl,b,g,c,q⟩:=h
 cases i
 rcases b with b | b
 ·obtain⟨a,r,d,j⟩:=I.list b
  refine SeqAt.notIn_listAt _ d.isList (λw k=>Wf f g r c w (by grind)) ⟨.bl _,H,I,rfl,?_⟩
  rw[show a.toArray.any _=a.any (eqU x) by simp,Ah6 r c]
  exact q
 ·obtain⟨a,r,d,j⟩:=I.tuple b
  refine SeqAt.notIn_tupleAt _ d (λw k=>Wf f g r c w (by grind)) ⟨.bl _,H,I,rfl,?_⟩
  rw[show a.toArray.any _=a.any (eqU x) by simp,Ah6 r c]
  exact q
theorem CallR.or {r b:n_->Hp->VK->Prop}(h:CallR X f r) (h':CallR X f b):CallR X f (λxs H Q=>r xs H Q\/b xs H Q):=by
 intro c s d H xs e Q I a q
 rcases q with q | q
 ·exact h _ s _ H _ _ Q I a q
 ·exact h' _ s _ H _ _ Q I a q
theorem Ag0:CallR X (.type "list") (λxs H Q=>∃p k,xs=[.ref p]/\(SqL X.K H p k\/SqT X.K H p k)/\∀l,H l=none->Q (.ref l) (upd H l (.lst k))):=by
 intro z s σ H xs us Q I r h;obtain⟨p,k,rfl,f,q⟩:=h;obtain⟨u,rfl,A⟩:=vals1 r
 cases A
 have g:∀(a:List _),Vals _ _->k.length<=sizeLine->∀(d:Heap) (t:Nat),(∀b o',s.heap.get? b=some _->d.get? b=some _) ->
  d.get? _=some _->EP X _ _ Q _ { s with heap:=d }:=λa c j d t i e =>
  ⟨.ref _,_,I.laid i (au _) (show zB _ _ _ _ _ (.lst _) from ⟨j,a,t,c,e⟩),rfl,q _ (I.hok.fresh (au _))⟩
 rcases f with f | f
 ·obtain⟨a,c,y,j⟩:=I.list f
  have m:=c.length;obtain⟨o,w,x,n,v⟩:=y.isList
  exact call_list_seq p (.inl rfl) w x v (λd t i e=>g _ c j _ _ i e) (by simp_all)
 ·obtain⟨a,c,y,j⟩:=I.tuple f
  have m:=c.length;obtain⟨o,w,x,n,v⟩:=y
  exact call_list_seq p (.inr rfl) w x v (λd t i e=>g _ c j _ _ i e) (by simp_all)
theorem Ym:CallR X (.type "tuple") (λxs H Q=>∃p c,xs=[.ref p]/\((SqL X.K H p c/\∀l,H l=none->Q (.ref l) (upd H l (.tup c)))\/(SqT X.K H p c/\Q (.ref p) H))):=by
 intro i s σ H xs us Q I r h;obtain⟨p,c,rfl,h⟩:=h;obtain⟨u,rfl,w⟩:=vals1 r
 cases w
 rcases h with ⟨d,q⟩ | ⟨d,q⟩
 ·obtain⟨a,g,f,m⟩:=I.list d
  have k:=g.length
  refine call_tuple_list f.isList (λj v=>?_) (by simp_all)
  have n:Inv X _ _ H { s with heap:=j }:=I.kept v
  have t:Inv X _ _ (upd H _ (.tup _)) { s with heap:=j.push _ } :=
   n.laid (λb o e=>aC _ e) (au _) (show zB _ _ _ _ _ _ from ⟨m,a,g,zY.new _ _⟩)
  exact⟨.ref _,_,t,rfl,q _ (n.hok.fresh (au _))⟩
 ·obtain⟨a,g,f,m⟩:=I.tuple d
  exact call_tuple_same f ⟨.ref p,H,I,rfl,q⟩
def tyV (K:v9)(T:String)(x:V)(H:Hp):Prop:=match x with
 | .str _=>T = "str"
 | .int _=>T = "int"
 | .ref p=>(T = "list" /\ ∃xs,SqL K H p xs)\/(T = "tuple" /\ ∃o,K.lookup p=some o/\o.cls=.type "tuple" /\ o.dict=none) \/
  (T = "dict" /\ ((∃kvs,H p=some (.dK kvs))\/∃kvs,H p=some (.dT kvs)))\/(T = "set" /\ ∃S n,H p=some (.set S n))\/(T = "tuple" /\ ∃xs,H p=some (.tup xs))
 | _=>False
theorem B2u (I:Inv X pins l H s) (r:RelV x v) (ty:tyV X.K T x H) :
 s.TypeIs v T/\∀a,v=.ref a->∃ob,s.heap.get? a=some ob/\ob.dict=none:=by
 cases x with
 | str z =>
  obtain⟨t,rfl⟩:=r
  cases (ty)
  exact⟨typeIs_str s z t,λ_ e=>nomatch e⟩
 | int i =>
  obtain⟨t,rfl⟩:=r
  cases (ty)
  exact⟨typeIs_int s i t,λ_ e=>nomatch e⟩
 | ref p =>
  cases r
  rcases ty with ⟨rfl,m,u⟩ | ⟨rfl,o,b,q,k⟩ | ⟨rfl,b⟩ | ⟨rfl,S,n,b⟩ | ⟨rfl,m,b⟩
  ·obtain⟨h,_,j,_⟩:=I.list u
   refine⟨j.isList.typeIs,λa e=>?_⟩
   obtain⟨o,n,e,c,k,_⟩:=j
   grind
  ·refine⟨⟨o,I.kIn p o b,q⟩,λa e=>?_⟩
   cases e
   exact⟨o,I.kIn _ o b,k⟩
  ·have z:∃o,s.heap.get? p=some o/\o.ExactDict:=by
    rcases b with ⟨g,b⟩ | ⟨g,b⟩
    ·obtain⟨_,_,_,_,o,_,_,e,d,_⟩:=I.hok p _ b
     grind
    ·obtain⟨_,_,_,_,o,_,_,e,d,_⟩:=I.hok p _ b
     grind
   obtain⟨o,e,d⟩:=z
   refine⟨⟨o,e,d.1⟩,λa f=>?_⟩
   cases f
   exact⟨o,e,d.2.1⟩
  ·obtain⟨o,_,_,_,e,d,_⟩:=I.hok p _ b
   refine⟨⟨o,e,d.1⟩,λa f=>?_⟩
   cases f
   exact⟨o,e,d.2.1⟩
  ·obtain⟨_,h,_,o,e,c,_,dn⟩:=I.hok p _ b
   refine⟨⟨o,e,c⟩,λa f=>?_⟩
   grind
 | _=>exact False.elim ty
def tBM (K:v9)(T:String)(r:V->n_->Hp->VK->Prop)(to:TE)(t:TA):TE:=λσ H Q=>to σ H λx H1=>tyV K T x H1/\t σ H1 λxs H2=>r x xs H2 Q
variable {o e:Expr}{es:v_}{to:TE}{t:TA}{name:Str}{apos cpos:Pos}{T id:String}{r:V->n_->Hp->VK->Prop}
theorem Bt1 (pa:PlainAttrs T)(slot:Slot T name id)(hty:typeOf (.builtin id)=pure (.type "method_descriptor")) (hm:MtR X id r) (ho:PE X o to) (ha:PA X (e::es) t)
 (hbase:attributeBase o name X.env (eval o X.env)=eval o X.env:=by rfl)
 (hfew:((backTo cpos (starEach (e::es) X.env)).all (λx=>!x.1)&&(backToKw cpos (keywordEach [] X.env)).all (λx=>x.1.isSome)
  && decide ((e::es).length+([]:List Keyword).length+(if ([]:List Keyword).isEmpty then 0 else 1)<30))=true:=by rfl)
 (hline:(apos.endLine==cpos.line)=true:=by rfl) (hs:starEach (e::es) X.env=(false,eval e X.env)::starEach es X.env:=by rfl) (hplain:(backTo cpos (starEach es X.env)).any (·.1)=false:=by rfl) :
 PE X (.Call (.Attribute o name apos) (e::es) [] cpos) (tBM X.K T r to t):=by
 intro b s p H Q I h
 refine wpAny_Call_method_late hbase hfew hline rfl (thn (ho _ s _ H _ I h) λv z ⟨x,y,c,a,j,k⟩=>?_)
 obtain⟨g,m⟩:=B2u c a j
 refine⟨T,id,pa,slot,hty,g,m,?_⟩
 have d:=ha cpos _ _ _ _ _ c k;rw[hs]at d ⊢
 refine fP (by grind) (gJ ?_)
 exact thn d λi q ⟨u,w,l,n,f⟩=>hm _ _ _ _ x _ v i Q l a n f
end
def MtM (X:Cx)(id:String)(r:V->n_->Hp->VK->Prop):Prop :=
 ∀
  (pins:y_) (s:u_) (σ:St) (H:Hp) (x:V) (xs:n_) (v:Value) (us:w6) (Q:VK),Inv X pins σ H s->RelV x v->Vals xs us->r x xs H Q ->
  wpAny (model X.prog X.w) X.A (call (.builtin id) (v::us)) (EP X pins σ Q) X.xe s
theorem Vals.one:∀{x:V}{us:w6},Vals [x] us->∃u,us=[u]/\RelV x u
 | _,_,h=>by
  cases h with
  | cons r t=>cases t;exact⟨_,rfl,r⟩
theorem Vals.two:∀{x y:V}{us:w6},Vals [x,y] us->∃u v,us=[u,v]/\RelV x u/\RelV y v
 | _,_,_,h=>by
  cases h with
  | cons r t =>
   cases t with
   | cons q t=>cases t;exact⟨_,_,rfl,r,q⟩
theorem Vals.eraseIdx:∀{xs:n_}{us:w6}(i:Nat),Vals xs us->Vals (xs.eraseIdx i) (us.eraseIdx i)
 | _,_,_,.nil=>.nil
 | _,_,0,.cons _ t=>t
 | _,_,i+1,.cons r t=>.cons r (Vals.eraseIdx i t)
theorem Vals.rep {xs:n_}{us:w6}(h:Vals xs us):∀k:Nat,Vals (List.replicate k xs).flatten (List.replicate k us).flatten
 | 0=>.nil
 | k+1=>by
  rw[dG,dG,gK,gK];exact Vals.append h (Vals.rep h k)
theorem A5u {α:Type}:∀(l:List α) (i:Nat),(l.eraseIdx i).length<=l.length
 | [],_=>au _
 | _::_,0=>gM _
 | _::r,i+1=>iz (A5u r i)
theorem foldl_rep (its:w6):∀(k:Nat) (acc:w6),
 List.foldl (λx1 x2=>x1++x2) acc.toArray (List.replicate k its.toArray)=(acc++(List.replicate k its).flatten).toArray
 | 0,acc=>by simp
 | k+1,acc=>by
  have e:acc.toArray++its.toArray=(acc++its).toArray:=by simp
  have e2:(acc++its)++(List.replicate k its).flatten=acc++(List.replicate (k+1) its).flatten:=by
   rw[dG,gK,fG]
  rw[<- e2,<- foldl_rep its k (acc++its),<- e,dG,List.foldl_cons]
section
variable {X:Cx}{pins:y_}{σ:St}{H:Hp}{s:u_}{l b:Addr}{xs ys:n_}
theorem Inv.lset {a its':w6} (I:Inv X pins σ H s) (c:H l=some (.lst xs))
 (e:s.heap.get? l=some { cls:=.type "list",data:=.seq a.toArray n }) (hf:f a.toArray=its'.toArray) (hv:Vals ys its') (hz:ys.length<=sizeLine) :
 Inv X pins σ (upd H l (.lst ys)) { s with heap:=s.heap.update l (Obj.mapSeq f),toks:=t' }:=by
 have q:=PySem.IsL.update e f;rw[hf]at q
 refine I.write (by rw[c];trivial) (.inl rfl) (λg u d b=>(cH _ _ (aD d)).trans b) ⟨_,q⟩ ?_
 exact⟨hz,its',_,hv,q⟩
theorem Inv.lnew (I:Inv X pins σ H s) (hv:Vals ys a) (hz:ys.length<=sizeLine) :
 Inv X pins σ (upd H s.heap.objs.size (.lst ys)) { s with heap:=s.heap.push { cls:=.type "list",data:=.seq a.toArray },toks:=t' } :=
 I.laid (λ_ _ q=>aC _ q) (au _) ⟨hz,a,0,hv,aJ _ rfl⟩
theorem Inv.fresh (I:Inv X pins σ H s):H s.heap.objs.size=none:=I.hok.fresh (au _)
theorem Inv.lstM (I:Inv X pins σ H s)(b:H l=some (.lst xs)):xs.length<=sizeLine/\∃(a:w6) (n:Nat),Vals xs a/\xs.length=a.length/\s.heap.get? l=some { cls:=.type "list",data:=.seq a.toArray n }:=by
 obtain⟨z,a,n,r,e⟩:=I.hok l _ b;exact⟨z,a,n,r,r.length,e⟩
theorem Am3 (h:n<=sizeLine):Builtin.List.listTooLong n=false:=by
 unfold Builtin.List.listTooLong
 grind
end
section
variable {X:Cx}
def rAppend:V->n_->Hp->VK->Prop:=λx vs H Q=>∃l xs y,x=.ref l/\vs=[y]/\H l=some (.lst xs)/\xs.length<sizeLine/\Q .non (upd H l (.lst (xs++[y])))
theorem A6c:MtM X "list.append" rAppend:=by
 intro a s σ H x vs v us Q I c f h;obtain⟨l,xs,y,rfl,rfl,b,hz,q⟩:=h
 cases c
 obtain⟨u,rfl,d⟩:=f.one;obtain⟨z,g,n,r,hl,e⟩:=I.lstM b
 refine dm F.slot_list_append ⟨_,e,rfl⟩ F.entry_list_append (F.args_list_append_2 _ _) (PySem.list_append l _ n u (by simp_all)) ⟨e,?_⟩
 refine⟨.non,_,I.lset b e (by simp) (r.append (.cons d .nil)) ?_,rfl,q⟩
 grind
def rExtend:V->n_->Hp->VK->Prop:=λx vs H Q=>∃l b xs zs,x=.ref l/\vs=[.ref b]/\H l=some (.lst xs)/\H b=some (.lst zs)/\xs.length+zs.length<=sizeLine/\Q .non (upd H l (.lst (xs++zs)))
theorem Z1:MtM X "list.extend" rExtend:=by
 intro pins s σ H x vs v us Q I rx rv h;obtain⟨l,b,xs,zs,rfl,rfl,hH,hB,hz,q⟩:=h
 cases rx
 obtain⟨u,rfl,ru⟩:=rv.one
 cases ru
 obtain⟨z,its,n,r,hl,e⟩:=I.lstM hH;obtain⟨z2,its2,n2,r2,hl2,e2⟩:=I.lstM hB
 have hsz:its.toArray.size+its2.toArray.size<=sizeLine:=by rw[b_,b_];lia
 have hlong:¬ (!its.toArray.isEmpty&&Builtin.List.listTooLong (its.toArray.size+its2.toArray.size))=true:=by
  rw[Am3 hsz,Bool.and_false];exact bf
 refine dm F.slot_list_extend ⟨_,e,rfl⟩ F.entry_list_extend (F.args_list_extend_2 _ _)
  (AutoSeq1.list_extend_list_list_0 l its.toArray n b its2.toArray n2 hlong (by rw[b_];lia) (by lia)) ⟨e,e2,?_⟩
 refine⟨.non,_,I.lset (its':=its++its2) hH e (by simp) (r.append r2) ?_,rfl,q⟩
 rw[aH];lia
def rPopAt:V->n_->Hp->VK->Prop:=λx vs H Q=>∃l xs i k y,x=.ref l/\vs=[.int i]/\H l=some (.lst xs)/\-(2 ^ 63)<=i/\i<2 ^ 63/\seqIndex? i xs.length=some k/\xs[k]?=some y/\Q y (upd H l (.lst (xs.eraseIdx k)))
theorem Ai7:MtM X "list.pop" rPopAt:=by
 intro b s σ H x vs v us Q I f g h;obtain⟨l,xs,i,k,y,rfl,rfl,c,d,j,hk,o,q⟩:=h
 cases f
 obtain⟨u,rfl,m⟩:=g.one;obtain⟨t,rfl⟩:=m;obtain⟨z,p,n,r,hl,e⟩:=I.lstM c;obtain⟨w,hw,a⟩:=r.get o
 refine dm F.slot_list_pop ⟨_,e,rfl⟩ F.entry_list_pop (F.args_list_pop_2 _ _)
  (MeetsSeq.list_pop_at l _ n i t k w (fitsIndex_both d j) (by simp_all) (by simp_all) (by simp_all)) ⟨e,?_⟩
 refine⟨y,_,I.lset c e ?_ (r.eraseIdx k) ?_,a,q⟩
 ·simp_all
 grind
def B4i:R2:=λx y H Q=>∃l b xs zs,x=.ref l/\y=.ref b/\H l=some (.lst xs)/\H b=some (.lst zs)/\xs.length+zs.length<=sizeLine/\∀p,H p=none->Q (.ref p) (upd H p (.lst (xs++zs)))
theorem B0w:OpR X (binaryOp .Add) B4i:=by
 intro d s σ H x y v u Q I k g h;obtain⟨l,b,xs,zs,rfl,rfl,i,j,hz,q⟩:=h
 cases k
 cases g
 obtain⟨z,c,n,r,hl,e⟩:=I.lstM i;obtain⟨z2,a,n2,o,m,p⟩:=I.lstM j
 refine PySem.P.add_list e p ?_ (by grind)
 have f:c.toArray++a.toArray=(c++a).toArray:=by simp
 rw[f]
 exact⟨.ref _,_,I.lnew (r.append o) (by simp_all),rfl,q _ I.fresh⟩
def Bw1:R2:=λx y H Q=>∃l k xs,x=.ref l/\y=.int k/\H l=some (.lst xs)/\-(2 ^ 63)<=k/\k<2 ^ 63/\xs.length*k.toNat<=sizeLine /\
 ∀p,H p=none->Q (.ref p) (upd H p (.lst (List.replicate k.toNat xs).flatten))
theorem len_rep {a:Type}(xs:List a)(k:Nat):(List.replicate k xs).flatten.length=k*xs.length:=by
 simp_all
theorem B0p:OpR X (binaryOp .Mult) Bw1:=by
 intro p s σ H x y v u Q I A B h;obtain⟨l,k,xs,rfl,rfl,C,w,D,hz,q⟩:=h
 cases A
 obtain⟨t,rfl⟩:=B;obtain⟨z,b,n,r,hl,e⟩:=I.lstM C
 have i:b.toArray.size*k.toNat<=sizeLine:=by simp_all
 have f:¬ b.toArray.size*k.toNat>(2 ^ 63-1) / 8:=by
  have:(sizeLine:Nat)<=(2 ^ 63-1) / 8:=by decide
  lia
 have d:¬ (!Builtin.List.listFitsIndex k)=true:=by
  rw[fitsIndex_both w D]
  grind
 have c:¬ Builtin.List.listTooLong (b.toArray.size*k.toNat)=true:=by
  rw[Am3 i]
  trivial
 have g:List.foldl (λj o=>j++o) #[] (List.replicate (if b.toArray.isEmpty=true then 0 else k.toNat) b.toArray)=(List.replicate k.toNat b).flatten.toArray:=by
  have E:∀m:Nat,List.foldl (λj o=>j++o) #[] (List.replicate m b.toArray)=(List.replicate m b).flatten.toArray:=λm=>by
   have:=foldl_rep b m []
   simp_all
  rw[E]
  cases b with
  | nil=>simp
  | cons a r'=>rfl
 refine wpAny_binaryOp_repeat_ref (by rfl) ⟨_,e,rfl⟩ (λs'=>typeIs_int _ k t) noFill_list_mul F.fills_int_mul F.slot_int_rmul repeat_list F.slot_int_index.lookup
  (dm F.slot_int_rmul (typeIs_int s k t) F.entry_int_rmul (F.args_int_rmul_2 _ _) (int___rmul___int_list k t l _ n)
   ⟨e,rfl,⟨_,e,rfl⟩,dm F.slot_list_mul ⟨_,e,rfl⟩ F.entry_list_mul (F.args_list_mul_2 _ _) (AutoListH.list___mul___list_int_3 l _ n k t d f c) ⟨e,?_⟩⟩)
 rw[g]
 exact⟨.ref _,_,I.lnew (r.rep _) (by rw[len_rep];grind),rfl,q _ I.fresh⟩
end
section
variable {κ:Type}[DecidableEq κ]
noncomputable def Jp (kvs:List (κ×V)) (k:κ):Option V:=(kvs.find? λkv=>decide (kv.1=k)).map (·.2)
noncomputable def putK (kvs:List (κ×V)) (k:κ) (v:V):List (κ×V) :=
 if (kvs.any λkv=>decide (kv.1=k))=true then kvs.map (λkv=>if kv.1=k then (kv.1,v) else kv) else kvs++[(k,v)]
theorem Ms {p:κ×V} (e:p.1=k):Jp (p::r) k=some p.2:=by simp[Jp,e]
theorem Jf {p:κ×V} (e:¬ p.1=k):Jp (p::r) k=Jp r k:=by simp[Jp,e]
theorem Q6 (k:κ):∀kvs:List (κ×V),(kvs.any λkv=>decide (kv.1=k))=(Jp kvs k).isSome
 | []=>rfl
 | p::r=>by
  rw[gH]
  by_cases e:p.1=k
  ·simp only[Ms e,aR e,Bool.true_or,Option.isSome_some]
  ·rw[Jf e,bw e,Bool.false_or];exact Q6 k r
theorem Up (a:List (κ×V))(k:κ)(v:V):(putK a k v).length<=a.length+1:=by
 unfold putK
 grind
theorem RelO.isSome_eq (r:RelO o u):o.isSome=u.isSome:=by
 cases o with
 | none=>
  cases u with
   | none=>rfl
   | some _=>trivial
 | some _=>
  cases u with
   | none=>trivial
   | some _=>rfl
theorem RelO.getD (r:RelO o u) (a:RelV d d'):RelV (o.getD d) (u.getD d'):=by
 cases o with
 | none=>
  cases u with
   | none=>grind
   | some _=>trivial
 | some _=>
  cases u with
   | none=>trivial
   | some _=>exact r
theorem KV.val (r:KV a vs) (k:κ):RelO (Jp a k) (valueAt vs k):=by
 induction r with
 | nil=>trivial
 | @cons p q j c h t i =>
  obtain⟨d,g⟩:=h
  by_cases e:p.1=k
  ·have b:valueAt (q::c) k=some q.2:=by simp[valueAt,(d.symm.trans e)]
   rw[Ms e,b];exact g
  ·have f:¬ q.1=k:=λz=>e (d.trans z)
   have b:valueAt (q::c) k=valueAt c k:=by simp[valueAt,f]
   rw[Jf e];grind
theorem KV.any (r:KV a vs) (k:κ):(a.any λb=>decide (b.1=k))=vs.any λb=>decide (b.1=k):=by
 induction r with
 | nil=>rfl
 | cons h t c=>simp_all
theorem KV.repl (r:KV b vs) (k:κ) (d:RelV y u) :
 KV (b.map λa=>if a.1=k then (a.1,y) else a) (vs.map λa=>if a.1=k then (a.1,u) else a):=by
 induction r with
 | nil=>exact .nil
 | @cons p q e f h t c =>
  refine .cons ?_ c
  grind
theorem KV.put (r:KV a vs) (k:κ) (b:RelV y u):KV (putK a k y) (stored vs k u):=by
 unfold putK stored;rw[r.any k]
 by_cases e:(vs.any λc=>decide (c.1=k))=true
 ·rw[if_pos e,if_pos e];exact r.repl k b
 ·rw[if_neg e,if_neg e];exact Paired.snoc r ⟨rfl,b⟩
theorem KV.length {a:List (κ×V)} (r:KV a vs):a.length=vs.length:=dU r
end
theorem Bf6 (r:RelV (kV k) u):(Fe P w).is k u=true:=by
 cases k with
 | inl i=>obtain⟨t,e⟩:=(r);subst e;exact Nh P w i t
 | inr x=>obtain⟨t,e⟩:=(r);subst e;exact N6 P w x t
theorem A2d {A:t_}(hu:A.units+9<cLine):A.in1.units+8<cLine:=bD (dq (rfl)) hu
abbrev KT (H:Hp):List (PyData×V)->List (PyData×Addr×Value)->Prop:=Paired λp q=>p.1=q.1/\KAt H p.1 q.2.1/\RelV p.2 q.2.2
theorem KT.val (r:KT H a xs) (k:t6):RelO (Jp a k) ((atKey xs k).map (·.2)):=by
 induction r with
 | nil=>trivial
 | @cons p q j c h t i =>
  obtain⟨d,_,g⟩:=h
  by_cases e:p.1=k
  ·have b:atKey (q::c) k=some q.2:=by simp[atKey,(d.symm.trans e)]
   rw[Ms e,b];exact g
  ·have f:¬ q.1=k:=λz=>e (d.trans z)
   have b:atKey (q::c) k=atKey c k:=by simp[atKey,f]
   rw[Jf e];grind
theorem KT.repl (r:KT H a xs) (k:t6) (d:RelV y u) :
 KT H (a.map λb=>if b.1=k then (b.1,y) else b) (xs.map (putAt k u)):=by
 induction r with
 | nil=>exact .nil
 | @cons p q e f h t c =>
  refine .cons ?_ c
  unfold putAt
  grind
theorem KT.put (r:KT H a xs) (k:t6) (hb:KAt H k b) (c:RelV y u) :
 KT H (putK a k y) (storedH xs k b u):=by
 have e:(a.any λd=>decide (d.1=k))=(atKey xs k).isSome:=by
  rw[Q6,(r.val k).isSome_eq,Option.isSome_map]
 unfold putK storedH;rw[e]
 by_cases q:(atKey xs k).isSome=true
 ·rw[if_pos q,if_pos q];exact r.repl k c
 ·rw[if_neg q,if_neg q];exact Paired.snoc r ⟨rfl,hb,c⟩
theorem KT.keeps (r:KT H a xs) (ht:∀b ys,H b=some (.tup ys)->H' b=some (.tup ys)):KT H' a xs :=
 Paired.mapP r λ_ _ z=>⟨z.1,z.2.1.stay ht,z.2.2⟩
section
variable {P:u6}{w:World}{H:Hp}{h:Heap}{a:Addr}
theorem Gi (b:HOk P w H h) (e:Rd H a u):zB P w H h a u:=e.ok b
theorem A0d (c:HOk P w H h) (e:Rd H a (.dK b)):b.length<=sizeLine/\(a==sysModules)=false/\∃vs,KV b vs/\h.DictOf (Fe P w) a vs :=
 show zB P w H h a _ from Gi c e
theorem B3i (c:HOk P w H h) (e:H a=some (.dK b)):b.length<=sizeLine/\(a==sysModules)=false/\∃vs,KV b vs/\h.DictOf (Fe P w) a vs:=A0d c (.inl e)
mutual
theorem Zk (ok:HOk P w H h):∀{d:t6}{v:V}{u:Value},KTr H d v->RelV v u->∃as,Reads h u d as
 | .none,_,u=>λe r=>by
  cases (show _=V.non from e)
  cases (show u=Value.none from r)
  exact⟨_,.none⟩
 | .int i,_,u=>λe r=>by
  cases (show _=V.int i from e)
  obtain⟨t,rfl⟩:=r;exact⟨_,.int i t⟩
 | .str x,_,u=>λe r=>by
  cases (show _=V.str x from e)
  obtain⟨t,rfl⟩:=r;exact⟨_,.str x t⟩
 | .tuple ds,_,u=>λe r=>by
  obtain⟨a,vs,rfl,ha,t⟩:=e
  cases (show u=Value.ref a from r)
  obtain⟨z,its,rv,o,e,c,⟨n,dt⟩,_⟩:=ok a _ ha;obtain⟨as,q⟩:=Xq ok t rv
  exact⟨_,.tuple e c dt (by simpa using q)⟩
 | .bool _,_,_=>λe _=>False.elim e
 | .list _,_,_=>λe _=>False.elim e
 | .dict _,_,_=>λe _=>False.elim e
theorem Xq (ok:HOk P w H h):∀{ds:w5}{vs:n_}{us:w6},KTrL H ds vs->Vals vs us->∃as,ReadsAll h us ds as
 | [],_,us=>λe r=>by
  cases (show _=[] from e)
  cases r
  exact⟨_,.nil⟩
 | d::ds,_,us=>λe r=>by
  obtain⟨v,vs,rfl,hv,t⟩:=e
  cases r with
  | cons r1 r2 =>
   obtain⟨as,q⟩:=Zk ok hv r1;obtain⟨bs,p⟩:=Xq ok t r2;exact⟨_,.cons q p⟩
end
theorem Xf (b:HOk P w H h) (e:KAt H k a):(Dk P w).is h k a:=⟨e.1,Zk b e.2 (show RelV _ _ from rfl)⟩
theorem A2k (f:HOk P w H h) (e:Rd H a (.dT b)):b.length<=sizeLine/\(a==sysModules)=false /\
 ∃c,KT H b c/\h.DictOfH (Dk P w) a c:=by
 obtain⟨z,y,c,r,o,v,i,j,k,g,s,u⟩:=(show zB P w H h a _ from Gi f e)
 refine⟨z,y,c,r,o,v,i,j,k,g,s,λx d=>?_,u⟩
 have n:∀{l:List _} {m:List _},KT H l m->∀x∈m,(Dk P w).is h x.1 x.2.1:=by
  intro l m q
  induction q with
  | nil=>simp_all
  | @cons p q B C D t A =>
   intro x d
   rcases aB.mp d with e | d
   ·exact Xf f (by grind)
   grind
 grind
theorem Bu8 (c:HOk P w H h) (e:H a=some (.dT b)):b.length<=sizeLine/\(a==sysModules)=false /\
 ∃xs,KT H b xs/\h.DictOfH (Dk P w) a xs:=A2k c (.inl e)
end
def Bg8 (H:Hp)(a:Addr)(y:V)(r:Option V):Prop :=
 (∃kvs k,Rd H a (.dK kvs)/\y=kV k/\r=Jp kvs k)\/∃kvs k b,Rd H a (.dT kvs)/\y=.ref b/\KAt H k b/\r=Jp kvs k
def DPut (H:Hp)(a:Addr)(y v:V)(H':Hp):Prop :=
 (∃kvs k,H a=some (.dK kvs)/\y=kV k/\kvs.length<sizeLine/\H'=upd H a (.dK (putK kvs k v))) \/
 ∃kvs k b,H a=some (.dT kvs)/\y=.ref b/\KAt H k b/\kvs.length<sizeLine/\H'=upd H a (.dT (putK kvs k v))
theorem DPut.t (e:H a=some (.dT c)) (d:KAt H k b) (hl:c.length<sizeLine) :
 DPut H a (.ref b) v (upd H a (.dT (putK c k v))):=.inr ⟨c,k,b,e,rfl,d,hl,rfl⟩
section
variable {X:Cx}{pins:y_}{σ:St}{H:Hp}{s:u_}{a:Addr}{y v:V}{u r:Value}{o:Option V}{A:t_}{E:z_}
theorem Inv.big (I:Inv X pins σ H s):sysModules<s.heap.objs.size:=by
 exact gO (by decide) ((I.mod.glob.keeps I.bk).lt)
theorem U8 (I:Inv X pins σ H s) (e:Mut (H a)) (hs:Heap.SameBut a s.heap h') (he:∃q,h'.get? a=some q) (c:zB X.prog X.w (upd H a ob) h' a ob) :
 Inv X pins σ (upd H a ob) { s with heap:=h',toks:=t' } :=
 I.write e (.inl rfl) (λb q d z=>(hs.2 b d).trans z) he c
theorem B1q (z:b.length<=sizeLine) (hd:(a==sysModules)=false) (c:KV b vs) (dd:h'.DictOf (Fe P w) a vs) :
 zB P w H' h' a (.dK b):=⟨z,hd,vs,c,dd⟩
theorem A4s (hu:A.units+9<cLine) (I:Inv X pins σ H s) (g:DPut H a y v H') (C:RelV y u) (D:RelV v r) (h:∀s',Inv X pins σ H' s'->Q () s') :
 wpAny (model X.prog X.w) A (setItem (.ref a) u r) Q E s:=by
 rcases g with ⟨f,k,e,n,l,o⟩ | ⟨f,k,b,e,n,F,l,o⟩
 ·subst n o
  obtain⟨z,w,N,d,m⟩:=B3i I.hok e
  have B:N.length<=sizeLine:=by rw[<- d.length];lia
  have p:(putK f k v).length<=sizeLine:=by have:=Up f k v;lia
  refine wpAny_setItem_pairs (hsz:=B) (Bf6 C) m λx i t=>h _ ?_
  have J:∃q,x.get? a=some q:=let ⟨q,_,_,j,_⟩:=i; ⟨q,j⟩
  exact U8 I (by rw[e];trivial) t J (B1q p w (d.put k D) i)
 ·subst n o
  cases (show u=Value.ref b from C)
  obtain⟨z,w,K,d,m⟩:=Bu8 I.hok e
  have B:K.length<=sizeLine:=by rw[<- dU d];grind
  have p:(putK f k v).length<=sizeLine:=by have:=Up f k v;lia
  refine wpAny_setItem_heap ((A2d hu)) (Xf I.hok F) m λx i t=>h _ ?_
  obtain⟨q,L,M,j,O,P,R,_,S⟩:=i
  refine U8 I (by rw[e];trivial) t ⟨q,j⟩ ⟨p,w,_,(d.put k F D).keeps λc T G=>?_,q,L,M,j,O,P,R,S⟩
  rw[Ag (Bc2 G e λz=>nomatch z)]
  grind
end
def Be8 (td ty tv:TE):TS:=λD σ H=>tv σ H λv H1=>td σ H1 λx H2=>ty σ H2 λy H3=>∃a H4,x=.ref a/\DPut H3 a y v H4/\D.nx σ H4
section
variable {X:Cx}{o i e value:Expr}{pos pos':Pos}{td ty tv:TE}
theorem Bi6 (hu:X.A.units+9<cLine)(ho:PE X o td)(hi:PE X i ty)(hv:PE X value tv)(hs:swapsWith value (some (.Subscript o i pos')) pos.line X.env=pure false) :
 PS X (.Assign [.Subscript o i pos'] value pos) (Be8 td ty tv):=by
 intro b s e H D I h
 refine wpAny_Assign_Subscript (thn (hv _ s _ H _ I h) λr s1 ⟨v,H1,f,j,k⟩=>thn (ho _ _ _ _ _ f k) λu s2 ⟨x,H2,l,m,d⟩=>thn (hi _ _ _ _ _ l d) λiv s3 ⟨y,H3,p,q,a,n,w,g,t⟩=>?_) hs
 subst w;obtain rfl:u=Value.ref a:=m
 exact A4s hu p g q j λs4 c=>⟨e,n,c,t⟩
end
theorem A6p (h:Heap) (hb:sysModules<h.objs.size):zB P w H (h.push { cls:=.type "dict",data:=.dict #[] }) h.objs.size (.dT []) :=
 ⟨aM _,cU.mpr (aD (aP hb)),[],.nil,_,#[],0,aJ _ rfl,⟨rfl,rfl,rfl⟩,rfl,rfl,d_⟩
def Ab4:TE:=λ_ H Q=>∀p,H p=none->Q (.ref p) (upd H p (.dT []))
section
variable {X:Cx}{pos:Pos}
theorem A7q:PE X (.Dict [] [] pos) Ab4:=λa s b H Q I h =>
 wpAny_Dict_empty ⟨.ref _,_,I.laid (λ_ _ q=>aC _ q) (au _) (A6p _ I.big),rfl,h _ (I.hok.fresh (au _))⟩
end
structure M1 (X:Cx) (o:Expr) (m:Str) (apos:Pos) (e:Expr) (cpos:Pos):Prop where
 base:attributeBase o m X.env (eval o X.env)=eval o X.env
 few:((backTo cpos (starEach [e] X.env)).all (λx=>!x.1)&&(backToKw cpos (keywordEach [] X.env)).all (λx=>x.1.isSome)
  && decide (([e]:v_).length+([]:List Keyword).length+(if ([]:List Keyword).isEmpty then 0 else 1)<30))=true
 line:(apos.endLine==cpos.line)=true
 trees:backTo cpos (starEach [e] X.env)=[(false,eval e X.env)]
structure M2 (X:Cx) (o:Expr) (m:Str) (apos:Pos) (e f:Expr) (cpos:Pos):Prop where
 base:attributeBase o m X.env (eval o X.env)=eval o X.env
 few:((backTo cpos (starEach [e,f] X.env)).all (λx=>!x.1)&&(backToKw cpos (keywordEach [] X.env)).all (λx=>x.1.isSome)
  && decide (([e,f]:v_).length+([]:List Keyword).length+(if ([]:List Keyword).isEmpty then 0 else 1)<30))=true
 line:(apos.endLine==cpos.line)=true
 trees:backTo cpos (starEach [e,f] X.env)=[(false,eval e X.env),(false,eval f X.env)]
def IsD (H:Hp)(a:Addr):Prop:=(∃kvs,Rd H a (.dK kvs))\/∃kvs,Rd H a (.dT kvs)
theorem Xi (I:Inv X pins k H s) (d:IsD H a) :
 s.TypeIs (.ref a) "dict" /\ (∀b,Value.ref a=.ref b->∃c,s.heap.get? b=some c/\c.dict=none)/\(a==sysModules)=false:=by
 rcases d with ⟨g,e⟩ | ⟨g,e⟩
 ·obtain⟨_,h,m,_,f⟩:=A0d I.hok e
  refine⟨f.typeIs,λb q=>?_,h⟩
  cases q
  obtain⟨c,_,_,i,j,_⟩:=f;exact⟨c,i,j.2.1⟩
 ·obtain⟨_,h,l,_,f⟩:=A2k I.hok e
  refine⟨f.typeIs,λb q=>?_,h⟩
  cases q
  obtain⟨c,_,_,i,j,_⟩:=f;exact⟨c,i,j.2.1⟩
section
variable {X:Cx}{pins:y_}{σ:St}{H:Hp}{s:u_}{a:Addr}{y d:V}{u r:Value}{o:Option V}{A:t_}{E:z_}
theorem B1o {Q:z_}(hu:A.units+9<cLine)(I:Inv X pins σ H s)(g:Bg8 H a y o)(ry:RelV y u)(h:∀w' s',Inv X pins σ H s'->RelV (o.getD .non) w'->Q w' s') :
 wpAny (model X.prog X.w) A (call (.builtin "dict.get") [.ref a,u]) Q E s:=by
 rcases g with ⟨kvs,k,e,ey,l⟩ | ⟨kvs,k,b,e,ey,eb,l⟩
 ·subst ey
  obtain⟨z,hd,vs,rel,dd⟩:=A0d I.hok e
  refine eG fQ dd.typeIs iB (PySem.F.args_dict_get_2 _ _) (meets_dict_get (Fe X.prog X.w) a (Bf6 ry) hd) ⟨_,dd.mapOf,h _ _ (I.tok _) ?_⟩
  rw[l];exact(rel.val k).getD rfl
 ·subst ey
  cases (show u=Value.ref b from ry)
  obtain⟨z,hd,xs,rel,dd⟩:=A2k I.hok e
  refine eG fQ dd.typeIs iB (PySem.F.args_dict_get_2 _ _) (meetsH_dict_get (Dk X.prog X.w) a b hd) ⟨(show (Dk _ _).room _ from A2d hu),k,xs,Xf I.hok eb,dd,h _ _ (I.tok _) ?_⟩
  rw[l];exact(rel.val k).getD rfl
theorem B1j (hu:A.units+9<cLine) (I:Inv X pins σ H s) (g:Bg8 H a y o) (n:RelV y u) (p:RelV d r) (h:∀w' s',Inv X pins σ H s'->RelV (o.getD d) w'->Q w' s') :
 wpAny (model X.prog X.w) A (call (.builtin "dict.get") [.ref a,u,r]) Q E s:=by
 rcases g with ⟨j,k,e,m,l⟩ | ⟨j,k,b,e,m,t,l⟩
 ·subst m
  obtain⟨z,i,v,c,f⟩:=A0d I.hok e
  refine eG fQ f.typeIs iB (PySem.F.args_dict_get_3 _ _ _) (meets_dict_get_default (Fe X.prog X.w) a (Bf6 n) i r) ⟨_,f.mapOf,h _ _ (I.tok _) ?_⟩
  rw[l];exact(c.val k).getD p
 ·subst m
  cases n
  obtain⟨z,i,q,c,f⟩:=A2k I.hok e
  refine eG fQ f.typeIs iB (PySem.F.args_dict_get_3 _ _ _) (meetsH_dict_get_default _ a b i r) ⟨A2d hu,k,q,Xf I.hok t,f,h _ _ (I.tok _) ?_⟩
  rw[l];exact(c.val k).getD p
end
def Bv7 (td ty:TE):TE:=λσ H Q=>td σ H λx H1=>∃a,x=.ref a/\IsD H1 a/\ty σ H1 λy H2=>∃o,Bg8 H2 a y o/\Q (o.getD .non) H2
def Ad1 (td ty tx:TE):TE:=λσ H Q=>td σ H λx H1=>∃a,x=.ref a/\IsD H1 a/\ty σ H1 λy H2=>tx σ H2 λz H3=>∃o,Bg8 H3 a y o/\Q (o.getD z) H3
section
variable {X:Cx}{o e f:Expr}{apos cpos:Pos}{td ty tx:TE}
theorem Bg3 (hu:X.A.units+9<cLine)(ho:PE X o td)(he:PE X e ty)(m:M1 X o "get" apos e cpos):PE X (.Call (.Attribute o "get" apos) [e] [] cpos) (Bv7 td ty):=by
 intro pins s σ H Q I h
 refine jh m.base m.few m.line gP fQ PySem.F.type_dict_get (thn (ho pins s σ H _ I h) λu s1 ⟨x,H1,I1,rx,a,ex,d,q1⟩=>?_)
 subst ex;obtain rfl:u=Value.ref a:=rx;obtain⟨t1,t2,_⟩:=Xi I1 d
 refine⟨t1,t2,?_⟩
 rw[m.trees]
 refine fP rfl (gJ (cZ (thn (he pins s1 σ H1 _ I1 q1) λiv s2 ⟨y,H2,I2,ry,ov,g,q2⟩=>dZ ?_)))
 exact B1o hu I2 g ry λw' s3 I3 rw'=>⟨_,H2,I3,rw',q2⟩
theorem A7e (hu:X.A.units+9<cLine)(ho:PE X o td)(he:PE X e ty)(hf:PE X f tx)(m:M2 X o "get" apos e f cpos):PE X (.Call (.Attribute o "get" apos) [e,f] [] cpos) (Ad1 td ty tx):=by
 intro c s σ H Q I h
 refine jh m.base m.few m.line gP fQ PySem.F.type_dict_get (thn (ho _ s _ H _ I h) λu s1 ⟨x,H1,i,l,a,n,d,p⟩=>?_)
 subst n;obtain rfl:u=Value.ref a:=l;obtain⟨q,r,_⟩:=Xi i d
 refine⟨q,r,?_⟩
 rw[m.trees]
 refine fP rfl (gJ (cZ (thn (he _ _ _ _ _ i p) λiv s2 ⟨y,H2,j,k,v⟩ =>
  cZ (thn (hf _ _ _ _ _ j v) λfv s3 ⟨z,w,t,B,ov,g,A⟩=>dZ ?_))))
 exact B1j hu t g k B λw' s4 C b=>⟨_,w,C,b,A⟩
end
end L2
namespace Att
open PySem PySem.W PySem.Calls PyProof.Rows
theorem Uz : ∀(ns:List Int) (vs:w6),WellAll P h vs (ns.map WData.int)->IntsAre vs ns:=by
 intro ns
 induction ns with
 | nil =>
  intro vs w
  cases w
  exact .nil
 | cons n ns c =>
  intro vs w
  cases w with
  | cons a b =>
   cases a
   exact .cons _ _ (c _ b)
theorem A3f {l:OpenLaw} (hn:l.most=some n)
 (hpre:l.row.toRowW.claim.pre args=true) (hwl:WellAll P h vals args) :
 ∃a vs ns,vals=[Value.ref a]/\args=[WData.list (ns.map WData.int)]/\h.get? a=some { cls:=.type "list",data:=.seq vs.toArray }/\IntsAre vs ns/\ns.length<=n:=by
 have hsh:WShape.hasAll [] args [.list .int]=true:=(pre_splitW hpre).1;have hc:l.pre.holds [] { args:=args }=true:=(pre_splitW hpre).2;obtain⟨d,r,rfl,h1,h2⟩:=hasAllW_cons hsh;obtain rfl:=hasAllW_nil h2;obtain⟨xs,rfl,h3⟩:=hasW_list h1;obtain⟨ns,rfl⟩:=items_int h3
 have hlen:ns.length<=n:=by
  unfold OpenLaw.pre at hc
  have h4:(WTm.not (.lt (.lit (.int (n:Int))) (.len (.arg 0)))).holds [] { args:=[.list (ns.map .int)] }=true:=by
   have h4:=(holds_andW hc).1;rw[hn]at h4;exact h4
  have h5:=condW_of h4 (w_not (w_lt w_lit (w_len_list (w_arg rfl))));rw[ao]at h5
  refine ji λq=>?_
  have q':(n:Int)<((ns.length:Nat):Int):=by lia
  first
   | (rw[aR q']at h5;exact absurd h5 (by decide))
   | (simp at h5;lia)
 cases hwl with
 | cons w1 w2 =>
  cases w2
  cases w1 with
  | list ho hall=>exact⟨_,_,ns,rfl,rfl,ho,Uz ns _ hall,hlen⟩
theorem A5n (l:OpenLaw)(args:List WData):l.row.toRowW.claim.post args (.bool true) args=true :=
 postW_of
  (show WShape.has _ _ _=true by rfl)
  (show (WTm.eq _ _).value _ _=some _ from w_eq_bool (w_res rfl) w_lit) rfl
theorem An2 {l:OpenLaw}
 (hn:l.most=some n) (t:d.params.defaults=[])
 (i:∀(w:World) (c b:u_) (mg B:x_) (fa:Addr) (o:Obj) (z v h:Value) (a:Addr) (vs:w6) (ns:List Int),
  Ground q loose [] XP w c mg B b.heap->YP w b.heap ->
  b.heap.get? fa=some o->o.data=.func (docDef d.name d.params d.body d.scope z v h)->b.heap.CodeRec v d.name->mg d.name=some (.ref fa) ->
  b.heap.get? a=some { cls:=.type "list",data:=.seq vs.toArray }->IntsAre vs ns->ns.length<=n->b.gens=#[] ->
  codeAny (model l.prog w) callerA (.call (.ref fa) ⟨[.ref a],[]⟩) (λr s'=>r=.ok (.ret (.bool true))/\OldK b.heap s'.heap/\s'.os=b.os/\AllBare s'.gens) b) :
 WalkO q loose XP YP l.row.toRowW d [] (λf vs=>PySem.call f vs):=by
 intro w c b mg B G Y fa o z v h M H J K u C m D x A as g y F p I;obtain rfl:M=.none:=Dflts.none C t;obtain rfl:H=.none:=Dflts.noKw C;obtain⟨a,vs,ns,rfl,rfl,j,e,k⟩:=A3f hn g p
 refine enter_call (gB (i w _ _ _ _ _ o _ _ _ a _ _ G Y J (fd_plain K) u m j e k D) λr s' N=>?_)
 obtain⟨rfl,L,O,P⟩:=N
 exact⟨.inl ⟨.bool _,.bool _,[],rfl,λ_=>rfl,.bool _,A5n l _,λ_=>⟨List.Pairwise.nil,λ_ E=>nomatch E⟩⟩,L,O,P⟩
end Att
namespace L2
open PySem PySem.Spec PyProof.Rows
theorem Aa0:∀{vs:w6}{ns:List Int},IntsAre vs ns->Vals (ns.map V.int) vs
 | _,_,.nil=>.nil
 | _,_,.cons n t h=>.cons ⟨t,rfl⟩ (Aa0 h)
noncomputable def J3 (s:Stmt):Arguments:=match s with
 | .FunctionDef _ a _ _ _ _ _ _ _ _=>a
 | _=>{ posonlyargs:=[],args:=[],vararg:=none,kwonlyargs:=[],kw_defaults:=[],kwarg:=none,defaults:=[] }
noncomputable def Cy (s:Stmt):List Stmt:=match s with
 | .FunctionDef _ _ b _ _ _ _ _ _ _=>b
 | _=>[]
noncomputable def Ah (s:Stmt):Scope:=match s with
 | .FunctionDef _ _ _ _ _ _ sc _ _ _=>sc
 | _=>{ kind:=.function,names:=[],isGenerator:=false,isCoroutine:=false }
noncomputable abbrev CX0:CXT:=λ_ _ _ _ _ _=>False
abbrev E0:XK:=λ_ _ _=>False
theorem B4g : Lj CX0 X E0:=λ_ _ _ _ _ _ _ h=>h.elim
structure Fun (K:v9) (x qual:Str) (st:Stmt) (f:Addr) (fd:u5):Prop where
 ex:∃(oc:Value) (od:Option Addr) (kV doc pm:Value) (an:Option Addr) (cdv ct:Value) (osl:Array (u9)),
  fd=PySem.W.fnOf x qual (J3 st) (Cy st) (Ah st) .none kV doc pm an cdv ct/\K.lookup f=some ⟨oc,od,.func fd,osl⟩/\PySem.W.codeIn K cdv qual=true
 kp:PySem.W.keepIn K (.ref f)=true
section
variable {P:u6}{w:World}{K:v9}{mg:x_}{base:Heap}
theorem Fun.ok {st:Stmt} (F:Fun K x qual st f i) (S:Ba N ps (Ah st)) (g:∀vs H Q E,sp vs H Q E->vs.length=ps.length)
 (b:∀(c:Value) (A:t_) (a:List Env) (s:u_) (H:Hp) (vs:n_) (Q:VK) (E:XK),Room k (A.deeper (envOfC qual (Ah st) s.heap.objs.size f c))->sp vs H Q E ->
  ∃t,PSs (Jm CX0 P w K mg base N qual (Ah st) f c A a s H E).nox (Cy st) t/\t { nx:=λ_ H'=>Q .non H',rt:=Q } (start N vs) H):FnOk P w K mg base CX0 (k+1) f i ps sp:=by
 obtain⟨oc,od,kV,l,pm,an,c,ct,j,rfl,m,e⟩:=F.ex
 refine A7n m e S g λA a s H vs Q E n d=>?_
 obtain⟨t,h,q⟩:=b _ A _ s H _ Q E n d;exact⟨t,h.nox,q⟩
theorem Fun.binds {st:Stmt} (F:Fun K x qual st f d)
 (h:∀(i b e:Value) (g:Option Addr) (a c:Value) (us:w6),us.length=ps.length->bindArgs (PySem.W.fnOf x qual (J3 st) (Cy st) (Ah st) .none i b e g a c) ⟨us,[]⟩=pure (ps.zip us)):Binds K d ps []:=by
 obtain⟨oc,od,i,b,e,g,a,c,k,rfl,lk,j⟩:=F.ex;exact .all (h _ _ _ _ _ _)
end
def Same (H H':Hp):Prop:=∀b o,H b=some o->H' b=some o
theorem Same.refl (H:Hp):Same H H:=λ_ _ h=>h
theorem Same.trans (a:Same H e) (b:Same e d):Same H d:=λc o h=>b c o (a c o h)
theorem Same.free (e:Same H H') (h:H' l=Option.none):H l=Option.none:=by
 cases q:H l with
 | none=>rfl
 | some o =>
  rw[e l o q]at h
  grind
theorem Same.seq {K:v9} (e:Same H H') (h:SqL K H a xs):SqL K H' a xs:=by
 rcases h with (h | ⟨o,h⟩) | h
 ·exact .inl (.inl (e _ _ h))
 ·exact .inl (.inr ⟨o,e _ _ h⟩)
 ·exact .inr h
end L2
set_option maxHeartbeats 4000000
namespace L2
open PySem PySem.Spec PyProof.Rows
noncomputable abbrev Ek (X:Cx) (N':v4) (scope:Scope) (cl:List (Str×Addr)) (C:Addr) (s₀:u_) (H₀:Hp) (ex:v6):Cx :=
 { X with N:=N',env:=compEnvC scope cl C X.env,s₀:=s₀,H₀:=H₀,outer:=X.stack,stack:=X.stack,ex:=ex,fn:=λx=>decide (scope.names.lookup x=some .local\/scope.names.lookup x=some .cell),pn:=[],xe:=λ_ _=>False }
noncomputable def cst (idx:p6) (σ:St):St:=idx.map λo=>o.bind λi=>(σ[i]?).join
structure Iv (X:Cx) (N':v4) (idx:p6) (scope:Scope):Prop where
 kind:scope.kind=.function
 nod:(scope.names.map (·.1)).Nodup
 free:∀y∈scope.names,y.2=.free->X.env.kindOf y.1=some .cell\/X.env.kindOf y.1=some .free
 len:idx.length=N'.length
 at':∀(j i:Nat) (x:Str),N'[j]?=some x->idx[j]?=some (some i)->X.N[i]?=some x/\scope.names.lookup x=some .free
structure Xa (X:Cx) (N':v4) (idx:p6) (scope:Scope):Prop extends Iv X N' idx scope where
 cell:∀y∈scope.names,y.2≠.cell
theorem Kh (env:Env):∀(names:List (Str×NameKind)) (acc:List (Str×Addr)),(∀y∈names,y.2=.free->∃c,env.cells.lookup y.1=some c) ->
 ∃
  cl,(forIn names acc λ(p:Str×NameKind) (r:List (Str×Addr))=>(if (p.2==NameKind.free)=true then (do let c <- cellOf env p.1;pure (ForInStep.yield ((p.1,c)::r))) else pure (ForInStep.yield r):Sem (ForInStep (List (Str×Addr)))))=(pure cl:Sem (List (Str×Addr))) /\
  (∀x c,cl.lookup x=some c->acc.lookup x=some c\/(env.cells.lookup x=some c/\(x,NameKind.free)∈names))/\(∀x,((∃c,acc.lookup x=some c)\/(x,NameKind.free)∈names)->∃c,cl.lookup x=some c)
 | [],acc,_=>⟨acc,rfl,λx c e=>.inl e,λx h=>by
  rcases h with h | h
  ·exact h
  ·simp at h⟩
 | (n,k)::r,acc,h=>by
  by_cases hk:k=NameKind.free
  ·subst hk
   obtain⟨c,hc⟩:=h (n,.free) (by simp) rfl
   obtain⟨cl,e,a,b⟩:=Kh env r ((n,c)::acc) λy hy=>h y (bI _ hy)
   refine⟨cl,?_,λx c' e'=>?_,λx hx=>?_⟩
   ·rw[fU]
    simp only[cellOf,hc];exact e
   ·rcases a x c' e' with z | ⟨z1,z2⟩
    ·rw[aZ]at z
     split at z
     ·rename_i hxe
      have:x=n:=by simpa using hxe
      subst this
      cases z
      exact .inr ⟨hc,by simp⟩
     ·exact .inl z
    ·exact .inr ⟨z1,bI _ z2⟩
   ·refine b x ?_
    rcases hx with ⟨c',z⟩ | z
    ·left
     rw[aZ]
     split
     ·exact⟨_,rfl⟩
     ·exact⟨_,z⟩
    ·rcases aB.mp z with z | z
     ·left
      cases z
      exact⟨c,by simp⟩
     ·exact .inr z
  ·obtain⟨cl,e,a,b⟩:=Kh env r acc λy hy=>h y (bI _ hy)
   refine⟨cl,?_,λx c' e'=>?_,λx hx=>?_⟩
   ·rw[fU]
    have:(k==NameKind.free)=false:=by cases k <;> first | rfl | exact absurd rfl hk
    simp only[this];exact e
   ·rcases a x c' e' with z | ⟨z1,z2⟩
    ·exact .inl z
    ·exact .inr ⟨z1,bI _ z2⟩
   ·refine b x ?_
    rcases hx with z | z
    ·exact .inl z
    ·rcases aB.mp z with z | z
     ·cases z;exact absurd rfl hk
     ·exact .inr z
theorem P0 (h:∀y∈scope.names,y.2=.free->∃c,env.cells.lookup y.1=some c) :
 ∃d,closureFor scope env=pure d/\(∀x c,d.lookup x=some c->env.cells.lookup x=some c/\(x,NameKind.free)∈scope.names)/\(∀x,(x,NameKind.free)∈scope.names->∃c,d.lookup x=some c):=by
 obtain⟨d,e,a,b⟩:=Kh _ _ [] h
 refine⟨d,?_,λx c g=>?_,λx f=>b x (.inr f)⟩
 ·unfold closureFor
  grind
 simp_all
noncomputable abbrev Bs7 (ifs:v_) (env:Env):Sem Bool:=forIn ifs true λc r=>if r=true then do let ok <- isTrue c env (eval c env);pure (ForInStep.yield ok) else pure (ForInStep.yield r)
def B2a (M:Model)(A:t_)(E:z_)(tg elt:Expr)(ifs:v_)(env:Env)(it acc v:Value)(Z:u_->Prop)(s:u_):Prop :=
 wpAny M A (letOwnedTupleGo tg it v) (λ_ a=>wpAny M A (assign tg env v) (λ_ b=>wpAny M A (Bs7 ifs env) (λok c=>match ok with
  | true=>wpAny M A (eval elt env) (λx d=>wpAny M A (call (.builtin "list.append") [acc,x]) (λ_ z=>Z z) E d) E c
  | false=>Z c) E b) E a) E s
theorem Bj8 (C:E=notedBy (model P w) A env λx z=>R (.error x) z) (Wd:Nat->u_->Prop)
 (step:∀n z,Wd n z->wpAny (model P w) A (pyNext it) (λr a=>match r with
  | none=>R (.ok .next) a
  | some v=>B2a (model P w) A E o i j env it acc v (λy=>∃m,m<n/\Wd m y) a) E z) (n:Nat) (h:Wd n s) :
 codeAny (model P w) A (.compLoop (.ListComp i [⟨o,f,j,0⟩] p l) 0 it acc env) R s:=by
 subst C
 refine codeAny_loop (I:=Wd) rfl (turn:=?_) n h
 intro k z G
 show wpAny (model P w) A (Sem.onRaise (compTurn (.ListComp i [⟨o,f,j,0⟩] p l) 0 it acc env) λx=>do noteFrame x env;theTreesLotGoes x) _ _ z
 apply wpAny_noted;rw[compTurn_list];apply aj;apply fM;apply aj
 refine aU (step k z G) ?_ λ_ _ q=>q
 rintro (_ | v) a u
 ·exact ak u
 apply aj
 refine aU u ?_ λ_ _ q=>q
 intro _ b D;apply aj
 refine aU D ?_ λ_ _ q=>q
 intro _ c F;apply aj
 refine aU F ?_ λ_ _ q=>q
 rintro (_ | _) d t
 ·exact ak (And.intro rfl t)
 apply aj;apply aj
 refine aU t ?_ λ_ _ q=>q
 intro y e H;apply aj
 refine aU H ?_ λ_ _ q=>q
 intro _ g B;exact ak (ak (And.intro rfl B))
def PTs (X:Cx)(ifs:v_)(t:TT):Prop :=
 ∀
  (pins:y_) (s:u_) (σ:St) (H:Hp) (Q:Bool->Hp->Prop),Inv X pins σ H s->t σ H Q ->
  wpAny (model X.prog X.w) X.A (forIn ifs true λc r=>if r=true then do let ok <- isTrue c X.env (eval c X.env);pure (ForInStep.yield ok) else pure (ForInStep.yield r)) (TP X pins σ Q) X.xe s
structure QTs (X:Cx) (e:(v_)) (t:TT):Prop where
 get:PTs X e t
def Bl6:TT:=λ_ H Q=>Q true H
theorem Bh0 : PTs X [] Bl6:=λ_ _ _ H _ I h=>wpAny_tests_nil ⟨H,I,h⟩
theorem Bh9 (h:PT X c t):PTs X [c] t:=λa s b H Q I q=>wpAny_tests_one (h _ s _ H Q I q)
def tLC (idx:p6)(wi:TI)(g:TG)(tc:TT)(te:TE):TE:=λσ H Q=>wi σ H λJ H1 =>
 ∃
  W:Nat->Nat->St->n_->Hp->Prop,(∃m,W 0 m (cst idx σ) [] H1)/\∀i m σ' acc H,W i m σ' acc H ->
  (J.stop i H/\∀p,H p=none->Q (.ref p) (upd H p (.lst acc))) \/
  (J.go i H/\acc.length<sizeLine/\∃N:St->n_->Hp->Prop,(∀σ' acc' H',N σ' acc' H'->∃m',m'<m/\W (i+1) m' σ' acc' H')/\∀x H',J.yld i H x H'->g x σ' H' λσ2 H2=>tc σ2 H2 λb H3 =>
   if b=true then te σ2 H3 λy H4=>N σ2 (acc++[y]) H4 else N σ2 acc H3)
theorem HOk.track (x:HOk P w H h) (hn:H a=none) (f:zB P w (upd H a o) h a o):HOk P w (upd H a o) h:=λb u e=>by
 by_cases hb:b=a
 ·subst hb;rw[Ax]at e;simp_all
 ·rw[Ag hb]at e
  exact(x b u e).stay (λc v _ q=>q) λc q=>by rw[Ag (Bb q hn)];grind λc d q=>by rw[Ag (Bb q hn)];grind λc g d q=>by rw[Ag (Bb q hn)];grind
theorem Ip {env:Env}:∀{names:List (Str×NameKind)}{x:Str},names.lookup x=some .free ->
 (names.map λ(n,k)=>if (k==NameKind.free&&env.scope.kind==.function&&env.kindOf n==some .cell) then (n,NameKind.cell) else (n,k)).lookup x=some .free \/
 (names.map λ(n,k)=>if (k==NameKind.free&&env.scope.kind==.function&&env.kindOf n==some .cell) then (n,NameKind.cell) else (n,k)).lookup x=some .cell
 | [],_,h=>by simp at h
 | (n,k)::r,x,h=>by
  have ih:=@Ip env r x;simp only[aF]
  cases hx:x==n with
  | true =>
   simp only[aZ,hx]at h
   cases h
   split
   ·right;simp[aZ,hx]
   ·left;simp[aZ,hx]
  | false =>
   simp only[aZ,hx]at h
   split
   ·simp only[aZ,hx];exact ih h
   ·simp only[aZ,hx];exact ih h
theorem Lq {env:Env}:∀{names:List (Str×NameKind)}{x:Str}{k:NameKind},
 (names.map λ(n,k)=>if (k==NameKind.free&&env.scope.kind==.function&&env.kindOf n==some .cell) then (n,NameKind.cell) else (n,k)).lookup x=some k ->
 names.lookup x=some k\/(k=.cell/\names.lookup x=some .free)
 | [],_,_,h=>by simp at h
 | (n,k')::r,x,k,h=>by
  have ih:=@Lq env r x k;simp only[aF]at h
  cases hx:x==n with
  | true =>
   by_cases hc:(k'==NameKind.free&&env.scope.kind==.function&&env.kindOf n==some .cell)=true
   ·rw[if_pos hc]at h
    simp only[aZ,hx]at h
    cases h
    right
    refine⟨rfl,?_⟩
    simp only[aZ,hx]
    have:k'=.free:=by
     simp only[dh]at hc;exact cT hc.1.1
    rw[this]
   ·rw[if_neg hc]at h
    simp only[aZ,hx]at h ⊢;exact .inl h
  | false =>
   simp only[aZ,hx]
   refine ih ?_
   by_cases hc:(k'==NameKind.free&&env.scope.kind==.function&&env.kindOf n==some .cell)=true
   ·rw[if_pos hc]at h;simpa only[aZ,hx] using h
   ·rw[if_neg hc]at h;simpa only[aZ,hx] using h
theorem lookup_mem {α:Type}:∀{l:List (Str×α)}{x:Str}{k:α},l.lookup x=some k->(x,k)∈l
 | [],_,_,h=>by simp at h
 | (n,k')::r,x,k,h=>by
  rw[aZ]at h
  split at h
  ·rename_i e
   have:x=n:=by simpa using e
   subst this
   cases h
   simp
  ·exact bI _ (lookup_mem h)
theorem mem_lookup {α:Type}:∀{l:List (Str×α)}{x:Str}{k:α},(l.map (·.1)).Nodup->(x,k)∈l->l.lookup x=some k
 | [],_,_,_,h=>by simp at h
 | (n,k')::r,x,k,hn,h=>by
  have hn:(n::r.map (·.1)).Nodup:=hn
  obtain⟨h1,h2⟩:=bH.mp hn
  rcases aB.mp h with h | hr
  ·cases h;simp
  ·rw[aZ]
   split
   ·rename_i e
    have:x=n:=by simpa using e
    subst this
    exact absurd (show x∈r.map (·.1) from aG.mpr ⟨(x,k),hr,rfl⟩) h1
   ·exact mem_lookup h2 hr
section
variable {X:Cx}{N':v4}{idx:p6}{scope:Scope}
theorem Bp2 {pins:y_}{σ:St}{H:Hp}{s:u_}{fp:v6}{cl:List (Str×Addr)}{C:Addr}(L:Iv X N' idx scope)(I:Inv X pins σ H s)(hf:∀b∈fp,Lh X pins H b)(hfs:∀b∈fp,b<s.heap.objs.size)
 (hC:s.heap.objs.size<=C) (c1:∀x c,cl.lookup x=some c->(X.env.cells.lookup x=some c/\(x,NameKind.free)∈scope.names)\/(s.heap.objs.size<=c/\(x,NameKind.cell)∈scope.names)) (c2:∀x,((x,NameKind.free)∈scope.names\/(x,NameKind.cell)∈scope.names)->∃c,cl.lookup x=some c) (c3:∀x y c,cl.lookup x=some c->cl.lookup y=some c->x=y) :
 (Ek X N' scope cl C s H fp).Ok where
 mod:=I.ok.mod
 kind:=L.kind
 glob:=I.ok.glob
 blt:=I.ok.blt
 above:=hC
 inj:=c3
 has:=λx h=>by
  refine c2 x ?_
  have h':(relabel scope X.env).names.lookup x=some .cell\/(relabel scope X.env).names.lookup x=some .free:=h
  rcases h' with h | h
  ·rcases Lq h with z | ⟨_,z⟩
   ·exact .inr (lookup_mem z)
   ·exact .inl (lookup_mem z)
  ·rcases Lq h with z | ⟨z,_⟩
   ·exact .inl (lookup_mem z)
   ·cases z
 cab:=λx c hx hc=>by
  have hx':scope.names.lookup x=some .local\/scope.names.lookup x=some .cell:=aV hx
  rcases c1 x c hc with ⟨_,z⟩ | ⟨z,_⟩
  ·have z:=mem_lookup L.nod z
   rw[z]at hx'
   rcases hx' with hx' | hx' <;> cases hx'
  ·exact z
 hd:=I.ok.hd
 frames:=I.ok.frames
 stk:=.inl rfl
 exf
  := λb hb=>⟨aP (aK (hfs b hb) hC),λx c e=>by
  rcases c1 x c e with ⟨z,_⟩ | ⟨z,_⟩
  ·exact(hf b hb).2.2.2.2.1 x c z
  ·exact bQ (aK (hfs b hb) z)⟩
 bs:=I.bs
 bsz:=aq I.ok.bsz I.sz
 noex:=λb o e hb=>by
  rcases (hf b hb).2.2.2.1 with z | z
  ·exact I.ok.noex b o e z
  ·exact absurd (aK (az e) (aq I.ok.bsz z)) (bh _)
 exfs:=λb hb z=>by
  rcases aB.mp (I.stkSub b z) with q | q
  ·exact(hf b hb).2.1 q
  ·exact(hf b hb).2.2.1 q
 funs:=I.stack
 frf:=I.stkFree
 tab:=λp hp=>I.base.tbls p.1 p.2 (I.ok.tab p hp)
theorem Bf2 {pins:y_}{σ:St}{H:Hp}{s s':u_}{fp:v6}{cl:List (Str×Addr)}{C:Addr}{m:x_}(L:Iv X N' idx scope)(I:Inv X pins σ H s)(hf:∀b∈fp,Lh X pins H b)(hfs:∀b∈fp,b<s.heap.objs.size)
 (hC:s.heap.objs.size<=C) (c1:∀x c,cl.lookup x=some c->(X.env.cells.lookup x=some c/\(x,NameKind.free)∈scope.names)\/(s.heap.objs.size<=c/\(x,NameKind.cell)∈scope.names)) (c2:∀x,((x,NameKind.free)∈scope.names\/(x,NameKind.cell)∈scope.names)->∃c,cl.lookup x=some c) (c3:∀x y c,cl.lookup x=some c->cl.lookup y=some c->x=y) (c4:∀x c,cl.lookup x=some c->(x,NameKind.cell)∈scope.names->s'.heap.IsCell c none)
 (ho:s'.os=s.os) (hg:s'.gens=s.gens) (k:∀b o,s.heap.get? b=some o->s'.heap.get? b=some o) (hn:s'.heap.Ns C m):Inv (Ek X N' scope cl C s H fp) [] (cst idx σ) H s' where
 ok:=Bp2 L I hf hfs hC c1 c2 c3
 os:=ho
 bare:=by rw[hg];exact I.bare
 base:=Un.kept k
 loc:=by
  refine⟨m,hn,λj x v e1 e2 e3=>?_⟩
  obtain⟨m0,hn0,hl⟩:=I.loc
  have e2':(idx.map λo=>o.bind λi=>(σ[i]?).join)[j]?=some (some v):=e2
  rw[bJ]at e2'
  cases ei:idx[j]? with
  | none=>rw[ei]at e2';cases e2'
  | some o =>
   rw[ei]at e2';simp only[gh,jj]at e2'
   cases o with
   | none=>cases e2'
   | some i =>
    have e2'':(σ[i]?).join=some v:=e2';obtain⟨hNi,hfr⟩:=L.at' j i x e1 ei
    have hσ:σ[i]?=some (some v):=by
     cases q:σ[i]? with
     | none=>rw[q]at e2'';cases e2''
     | some z=>rw[q]at e2'';rw[show z=some v from e2'']
    have hk:=L.free _ (lookup_mem hfr) rfl
    have hvis:Vis X.env.scope x:=by
     rcases hk with z | z
     ·exact .inr (.inl z)
     ·exact .inr (.inr z)
    obtain⟨u,r,lk⟩:=hl i x v hNi hσ hvis
    refine⟨u,r,.inr ?_⟩
    rcases lk with ⟨z,_⟩ | ⟨_,c,hc,hcl⟩
    ·exfalso
     have z':X.env.kindOf x=some .local:=z
     rcases hk with q | q
     ·rw[show X.env.kindOf x=_ from q]at z';cases z'
     ·rw[show X.env.kindOf x=_ from q]at z';cases z'
    ·obtain⟨c',hc'⟩:=c2 x (.inl (lookup_mem hfr))
     have:c'=c:=by
      rcases c1 x c' hc' with ⟨q,_⟩ | ⟨_,q⟩
      ·rw[hc]at q;exact(bY q).symm
      ·rw[mem_lookup L.nod q]at hfr;cases hfr
     subst this
     refine⟨?_,c',hc',let ⟨o,e,d⟩:=hcl; ⟨o,k _ o e,d⟩⟩
     rcases Ip (env:=X.env) hfr with q | q
     ·exact .inr q
     ·exact .inl q
 cell:=λx c e=>by
  rcases c1 x c e with ⟨q,_⟩ | ⟨_,q⟩
  ·obtain⟨v,z⟩:=I.cell x c q
   exact⟨v,let ⟨o,e,d⟩:=z; ⟨o,k _ o e,d⟩⟩
  ·exact⟨none,c4 x c e q⟩
 free:=I.hok.fresh hC
 freeC:=λx c e=>by
  rcases c1 x c e with ⟨q,_⟩ | ⟨q,_⟩
  ·exact I.freeC x c q
  ·exact I.hok.fresh q
 pin:=λp hp=>by simp at hp
 hok:=I.hok.kept k
 len:=by
  show (idx.map _).length=N'.length
  rw[ao];exact L.len
end
section
variable {X:Cx}{N':v4}{idx:p6}{scope:Scope}{elt tg iter:Expr}{ifs:v_}{pos:Pos}{wi:TI}{g:TG}{tc:TT}{te:TE}
theorem Pj:∀(names:List (Str×NameKind)) (h:Heap) (acc:List (Str×Addr)),(∀x y c,acc.lookup x=some c->acc.lookup y=some c->x=y)->(∀x c,acc.lookup x=some c->c<h.objs.size) ->
 (∀x c,(cellsFrom h.objs.size names acc).lookup x=some c->acc.lookup x=some c\/(h.objs.size<=c/\(x,NameKind.cell)∈names/\(pushCells h names).IsCell c none)) /\
 (∀x,((∃c,acc.lookup x=some c)\/(x,NameKind.cell)∈names)->∃c,(cellsFrom h.objs.size names acc).lookup x=some c) /\
 (∀x y c,(cellsFrom h.objs.size names acc).lookup x=some c->(cellsFrom h.objs.size names acc).lookup y=some c->x=y)
 | [],h,acc,hi,hl=>by
  refine⟨λx c e=>.inl e,λx z=>?_,hi⟩
  rcases z with z | z
  ·exact z
  ·exact nomatch z
 | (n,k)::r,h,acc,hi,hl=>by
  unfold cellsFrom pushCells
  by_cases hk:(k==NameKind.cell)=true
  ·rw[if_pos hk,if_pos hk]
   have hk':k=.cell:=cT hk;subst hk';have sz:(h.push { cls:=.type "cell",data:=.cell none }).objs.size=h.objs.size+1:=cz ..
   have ih:=Pj r (h.push { cls:=.type "cell",data:=.cell none }) ((n,h.objs.size)::acc) (λx y c e1 e2=>?_) (λx c e=>?_)
   ·rw[sz]at ih
    obtain⟨i1,i2,i3⟩:=ih
    refine⟨λx c e=>?_,λx z=>?_,i3⟩
    ·rcases i1 x c e with q | ⟨q1,q2,q3⟩
     ·rw[aZ]at q
      split at q
      ·rename_i hb
       cases q
       have:x=n:=cT hb;subst this;exact .inr ⟨au _,bR,_,iC _ _ _ _ (aJ _ rfl),rfl⟩
      ·exact .inl q
     ·exact .inr ⟨eN q1,bI _ q2,q3⟩
    ·refine i2 x ?_
     by_cases hx:x=n
     ·subst hx;exact .inl ⟨h.objs.size,by simp⟩
     ·rcases z with ⟨c,z⟩ | z
      ·exact .inl ⟨c,by rw[aZ,beq_false_of_ne hx];exact z⟩
      ·rcases aB.mp z with z | z
       ·cases z;exact absurd rfl hx
       ·exact .inr z
   ·rw[aZ]at e1 e2
    split at e1
    ·rename_i hb1
     cases e1
     split at e2
     ·rename_i hb2
      exact(cT hb1).trans (cT hb2).symm
     ·exact absurd (hl _ _ e2) (bh _)
    ·split at e2
     ·cases e2
      exact absurd (hl _ _ e1) (bh _)
     ·exact hi x y c e1 e2
   ·rw[sz]
    rw[aZ]at e
    split at e
    ·cases e;exact eO _
    ·exact fV (hl x c e)
  ·rw[if_neg hk,if_neg hk]
   have ih:=Pj r h acc hi hl;obtain⟨i1,i2,i3⟩:=ih
   refine⟨λx c e=>?_,λx z=>i2 x ?_,i3⟩
   ·rcases i1 x c e with q | ⟨q1,q2,q3⟩
    ·exact .inl q
    ·exact .inr ⟨q1,bI _ q2,q3⟩
   ·rcases z with z | z
    ·exact .inl z
    ·rcases aB.mp z with z | z
     ·cases z;exact absurd rfl hk
     ·exact .inr z
theorem Bl1
 (h:Q (newEnv scope s.heap.objs.size a (cellsFrom (s.heap.objs.size+1) scope.names d) qual none .none (some b) builtinsNs) { s with heap:=pushCells (s.heap.push { cls:=.type "dict",data:=.dict #[] }) scope.names }) :
 wpAny M A (newFunctionEnv scope a d [] qual none .none (some b)) Q E s:=by
 refine aj (wpAny_alloc ?_)
 refine aj (wpAny_layCells _ λe f c=>by trivial _ _ _ _ ?_)
 rw[show ({ s with heap:=s.heap.push _ }:u_).heap.objs.size=s.heap.objs.size+1 from cz ..]
 exact aj (ak (ak h))
theorem As6 {K:List (Str×Addr)} {RR:Value->Addr->Result->u_->Prop}{F:n_->Hp->Prop}
 (L:Iv X N' idx scope) (hc:X.calm=true)
 (hg:∀K C s₀ H₀ ex,PG (Ek X N' scope K C s₀ H₀ ex) tg g) (ht:∀K C s₀ H₀ ex,PTs (Ek X N' scope K C s₀ H₀ ex) ifs tc) (he:∀K C s₀ H₀ ex,PE (Ek X N' scope K C s₀ H₀ ex) elt te)
 (c1:∀x c,K.lookup x=some c->X.env.cells.lookup x=some c/\(x,NameKind.free)∈scope.names) (c2:∀x,(x,NameKind.free)∈scope.names->∃c,K.lookup x=some c)
 (I2:Inv X pins σ R s2) (T:Turn X.prog X.w X.K tg J fp it tn) (st2:tn 0 s2.heap) (f2:∀b∈fp,Lh X pins R b) (W:Nat->Nat->St->n_->Hp->Prop) (w0:∃m,W 0 m (cst idx σ) [] R)
 (turn:∀i m t acc H,W i m t acc H->(J.stop i H/\F acc H) \/
  (J.go i H/\acc.length<sizeLine/\∃N:St->n_->Hp->Prop,(∀t acc' H',N t acc' H'->∃m',m'<m/\W (i+1) m' t acc' H')/\∀x H',J.yld i H x H'->g x t H' λZ R=>tc Z R λb H3 =>
   if b=true then te Z H3 λy H4=>N Z (acc++[y]) H4 else N Z acc H3))
 (hR:∀(D C:Addr) (s':u_) (acc:n_) (a:w6) (n:Nat) (H':Hp) (m:x_),s2.heap.objs.size<=D->s2.heap.objs.size<=C->D≠C->s'.heap.Ns C m->s'.heap.get? D=some { cls:=.type "list",data:=.seq a.toArray n }->Vals acc a->acc.length<=sizeLine ->
  H' D=none->H' C=none->s'.os=s2.os->AllBare s'.gens->Un (frs X.stack) fp R H' s2.heap s'.heap->HOk X.prog X.w H' s'.heap->F acc H'->RR (.ref D) C (.ok .next) s') :
 wpAny (model X.prog X.w) X.A (newList []) (λacc B=>wpAny (model X.prog X.w) X.A (newFunctionEnv scope X.env.globals K [] X.env.qual none .none (some X.env)) (λcenv s₄ =>
  codeAny (model X.prog X.w) X.A (.compStart (.ListComp elt [⟨tg,iter,ifs,0⟩] scope pos) 0 (.ref it) acc { cenv with scope:=relabel scope X.env }) (RR acc cenv.locals) s₄) E B) E s2:=by
 have U:∀b∈fp,b<s2.heap.objs.size:=λb w=>let ⟨o,e,_⟩:=T.obj _ _ st2 b w; az e
 refine bO (Bl1 ?_)
 dsimp only
 generalize hH2:s2.heap.push { cls:=.type "list",dict:=none,data:=.seq ([]:w6).toArray }=G
 have hC:G.objs.size=s2.heap.objs.size+1:=by rw[<- hH2,cz]
 have hDC:s2.heap.objs.size≠G.objs.size:=by rw[hC];exact aP (eO _)
 have A:s2.heap.objs.size<=G.objs.size:=by rw[hC];exact gM _
 obtain⟨j,l⟩:∃j,j=pushCells (G.push { cls:=.type "dict",data:=.dict #[] }) scope.names:=⟨_,rfl⟩;rw[<- l]
 have S:j.Ns G.objs.size (λ_=>none):=by rw[l];exact(Heap.Ns.new G (.type "dict")).keeps (iC _ _)
 have old:∀b o,s2.heap.get? b=some o->j.get? b=some o:=λb o e=>by rw[l];exact iC _ _ b o (aC _ (hH2▸aC _ e))
 have hacc:j.get? s2.heap.objs.size=some { cls:=.type "list",dict:=none,data:=.seq ([]:w6).toArray }:=by rw[l];exact iC _ _ _ _ (aC _ (hH2▸aJ _ rfl))
 have szD:(G.push { cls:=.type "dict",data:=.dict #[] }).objs.size=G.objs.size+1:=cz ..
 obtain⟨k1,k2,k3⟩:=Pj scope.names (G.push { cls:=.type "dict",data:=.dict #[] }) K (λx y c e1 e2=>I2.ok.inj x y c (c1 x c e1).1 (c1 y c e2).1) (λx c e=>by
  obtain⟨v,o,ho,_⟩:=I2.cell x c (c1 x c e).1
  rw[szD];exact fV (aK (az ho) A))
 rw[szD,<- l]at k1;rw[szD]at k2 k3;obtain⟨cl0,hcl0⟩:∃cl0,cl0=K:=⟨_,rfl⟩;have c1o:=c1;have c2o:=c2;rw[<- hcl0]at k1 k2 k3 c1o c2o;rw[<- hcl0]
 clear c1 c2
 generalize cellsFrom (G.objs.size+1) scope.names cl0=K at k1 k2 k3 ⊢
 have c1:∀x c,K.lookup x=some c->(X.env.cells.lookup x=some c/\(x,NameKind.free)∈scope.names)\/(s2.heap.objs.size<=c/\(x,NameKind.cell)∈scope.names):=λx c e=>by
  rcases k1 x c e with q | ⟨q1,q2,_⟩
  ·exact .inl (c1o x c q)
  ·exact .inr ⟨aq A (eN q1),q2⟩
 have c2:∀x,((x,NameKind.free)∈scope.names\/(x,NameKind.cell)∈scope.names)->∃c,K.lookup x=some c:=λx z=>k2 x (z.imp (λz=>c2o x z) id)
 have c4:∀x c,K.lookup x=some c->(x,NameKind.cell)∈scope.names->j.IsCell c none:=λx c e z=>by
  rcases k1 x c e with q | ⟨_,_,q⟩
  ·have:=mem_lookup L.nod (c1o x c q).2
   rw[mem_lookup L.nod z]at this;cases this
  ·exact q
 let X':Cx:=Ek X N' scope K G.objs.size s2 R fp
 have I1:Inv X' [] (cst idx σ) R { s2 with heap:=j }:=Bf2 L I2 f2 U A c1 c2 k3 c4 rfl rfl old S
 have hD2:R s2.heap.objs.size=none:=I2.hok.fresh (au _)
 have hDfs:s2.heap.objs.size∉X'.fs:=λz=>by
  obtain⟨_,o,ho,_⟩:=I2.stack.mem z;exact absurd (az ho) (bh _)
 have hDfp:s2.heap.objs.size∉fp:=λz=>absurd (U _ z) (bh _)
 have P:∀{H':Hp} {pl:y_},(∀b∈fp,H' b=none)->(∀p∈pl,p.1∉fp)->∀b∈fp,Lh X' pl H' b:=λ{H' pl} hn M b w =>
  ⟨hn b w,aP (aK (U b w) A),λz=>by
   rcases aB.mp (I2.stkSub b z) with q | q
   ·exact(f2 b w).2.1 q
   ·exact(f2 b w).2.2.1 q,.inl w,λx c e=>by
    rcases c1 x c e with ⟨z,_⟩ | ⟨z,_⟩
    ·exact(f2 b w).2.2.2.2.1 x c z
    ·exact bQ (aK (U b w) z),λp Q z=>M p (by have hp':p∈[]++pl:=Q;simpa using hp') (z▸w)⟩
 have loop:∀B:u_,B={ s2 with heap:=j } ->
  codeAny (model X.prog X.w) X.A (.compLoop (.ListComp elt [⟨tg,iter,ifs,0⟩] scope pos) 0 (.ref it) (.ref s2.heap.objs.size) (compEnvC scope K G.objs.size X.env)) (RR (.ref s2.heap.objs.size) G.objs.size) B:=by
  rintro B rfl
  obtain⟨m0,w0⟩:=w0
  refine Bj8 rfl (Wd:=λn s'=>∃i t acc a k H',Inv X' [(s2.heap.objs.size,{ cls:=.type "list",data:=.seq a.toArray k })] t H' s'/\Vals acc a/\acc.length<=sizeLine/\tn i s'.heap/\(∀b∈fp,H' b=none)/\W i n t acc H') (step:=?_) m0
   ⟨0,cst idx σ,[],[],0,R,I1.pins_of (λp Q=>?_),.nil,aM _,T.keep _ _ _ st2 λb _ o e=>old b o e,λb w=>(f2 b w).1,w0⟩
  ·rintro n s3 ⟨i,Y,acc,a,k,H3,I3,rv,hz,st3,fr3,w3⟩
   have M:∀p∈[((s2.heap.objs.size,{ cls:=.type "list",data:=.seq a.toArray k }):Addr×Obj)],p.1∉fp:=λp Q=>by
    rcases aQ.mp Q with rfl;exact hDfp
   rcases turn i n Y acc H3 w3 with ⟨stop,q⟩ | ⟨go,hlt,N,hN,step⟩
   ·refine aU (T.done X' rfl rfl rfl hc i _ s3 Y H3 (λ_ _=>False) I3 (P fr3 M) st3 stop) (λr s4 ⟨hr,I4⟩=>?_) λ_ _ f=>f.elim
    subst hr;obtain⟨p1,p2,p3,p4,p5⟩:=I4.pin (s2.heap.objs.size,{ cls:=.type "list",data:=.seq a.toArray k }) (aN _ bR);obtain⟨m4,hn4,_⟩:=I4.loc;exact hR _ _ s4 acc a k H3 m4 (au _) A hDC hn4 p1 rv hz p2 I4.free I4.os I4.bare I4.base I4.hok q
   ·refine aU (T.item X' rfl rfl rfl hc i _ s3 Y H3 (λ_ _=>False) I3 (P fr3 M) st3 go) (λr s4 ⟨u,hr,h4⟩=>?_) λ_ _ f=>f.elim
    subst hr
    refine aU h4 (λ_ s5 ⟨x,H5,I5,r5,y5,st5,fr5⟩=>?_) λ_ _ f=>f.elim
    refine aU (hg _ _ _ _ _ _ s5 Y H5 x u _ (I5.pinned (P fr5 M) (T.obj _ _ st5)) r5 (step x H5 y5)) (λ_ s6 ⟨O,H6,I6,q6⟩=>?_) λ_ _ f=>f.elim
    refine aU (ht _ _ _ _ _ _ s6 O H6 _ I6 q6) (λok s7 ⟨H7,I7,q7⟩=>?_) λ_ _ f=>f.elim
    have tnk:∀{t:St} {H':Hp} {s':u_},Inv X' ([(s2.heap.objs.size,{ cls:=.type "list",data:=.seq a.toArray k })]++Vs fp s5.heap) t H' s'->tn (i+1) s'.heap/\∀b∈fp,H' b=none:=λ{t H' s'} I=>by
     refine⟨T.keep _ _ _ st5 λb w o e=>(I.pin (b,o) (aN _ (aN _ (Ma w e)))).1,λb w=>?_⟩
     obtain⟨o,e,d⟩:=T.obj _ _ st5 b w;exact(I.pin (b,o) (aN _ (aN _ (Ma w e)))).2.1
    cases ok with
    | false =>
     rw[if_neg (by decide)]at q7
     obtain⟨m',hm,w7⟩:=hN _ _ _ q7;exact⟨m',hm,i+1,O,acc,a,k,H7,I7.unpinned,rv,hz,(tnk I7).1,(tnk I7).2,w7⟩
    | true =>
     rw[if_pos rfl]at q7
     refine aU (he _ _ _ _ _ _ s7 O H7 _ I7 q7) (λy s8 ⟨yv,H8,I8,r8,q8⟩=>?_) λ_ _ f=>f.elim
     obtain⟨m',hm,w8⟩:=hN _ _ _ q8;obtain⟨p1,p2,p3,p4,p5⟩:=I8.pin (s2.heap.objs.size,{ cls:=.type "list",data:=.seq a.toArray k }) (aN _ bR)
     refine dm PySem.F.slot_list_append ⟨_,p1,rfl⟩ PySem.F.entry_list_append (PySem.F.args_list_append_2 _ _) (PySem.list_append s2.heap.objs.size a.toArray k y (by have:=rv.length;rw[b_];lia)) ⟨p1,?_⟩
     have hz':=rv.length;obtain⟨t8,f8⟩:=tnk I8
     have I8':Inv X' [] O H8 s8:=I8.pins_of λp Q=>nomatch Q
     have q:=PySem.IsL.update p1 (·.push y)
     have e':(a.toArray.push y)=(a++[y]).toArray:=by simp
     rw[e']at q
     obtain⟨k9,q⟩:∃k9,(s8.heap.update s2.heap.objs.size (Obj.mapSeq (·.push y))).get? _=some { cls:=.type _,data:=.seq _ k9 }:=⟨_,q⟩
     have I9:Inv _ _ _ _ { s8 with heap:=s8.heap.update _ (Obj.mapSeq (·.push y)) } :=
      I8'.turned (λb o w e=>(cH _ _ (aD w)).trans e) p2 p3 (.inr (au _)) (λx c e z=>by
       obtain⟨v,o,ho,hd⟩:=I8'.cell x c e
       rw[z,p1]at ho;cases ho;cases hd) (λp Q=>by have hp':p∈([]:List _)++[]:=Q;simp at hp')
     refine⟨m',hm,i+1,O,acc++[yv],a++[y],k9,H8,I9.pins_of λp Q=>?_,rv.append (.cons r8 .nil),by rw[aH,iD];lia,T.keep _ _ _ t8 λb w o e=>(cH _ _ (λz=>hDfp (by rw[z];exact w))).trans e,f8,w8⟩
     rcases aQ.mp Q with rfl
     exact⟨q,p2,p3,p4,λv z=>by cases z⟩
  ·rcases aQ.mp Q with rfl
   exact⟨hacc,hD2,hDC,hDfs,λv z=>by cases z⟩
 exact codeAny_compStart_list (loop _ rfl) (T.self _ 0 _ _ _ (T.keep _ _ _ st2 λb _ o e=>old b o e) (loop _ rfl))
theorem B3l (L:Iv X N' idx scope)(hc:X.calm=true)(hi:PI X tg iter wi)
 (hg:∀t C s₀ H₀ ex,PG (Ek X N' scope t C s₀ H₀ ex) tg g) (ht:∀t C s₀ H₀ ex,PTs (Ek X N' scope t C s₀ H₀ ex) ifs tc) (he:∀t C s₀ H₀ ex,PE (Ek X N' scope t C s₀ H₀ ex) elt te)
 (hs:∀x,foldedSetIterable iter X.env x=pure x:=by intro _;rfl) :
 PE X (.ListComp elt [⟨tg,iter,ifs,0⟩] scope pos) (tLC idx wi g tc te):=by
 intro j s Z H Q I h
 obtain⟨t,l,c1,c2⟩:=P0 (env:=X.env) (scope:=scope) λy hy hf=>I.ok.has y.1 (L.free y hy hf)
 rw[eval_ListComp]
 refine wpAny_comprehension_free (use:=none) rfl hs l L.kind (λy hy hl=>mem_lookup L.nod (by grind)) (aU (hi j s Z H _ I h) (λv s1 h1=>aU h1 (λitv V h2=>?_) λ_ _ e=>e) λ_ _ e=>e)
 obtain⟨it,fp,tn,J,H2,rfl,I2,T,M,z,W,w0,A⟩:=h2
 refine As6 (F:=λa H=>∀p,H p=none->Q (.ref p) (upd H p (.lst a))) (RR:=λa C=>compPost (model X.prog X.w) X.A X.xe none (EP X j Z Q) a C) L hc hg ht he c1 c2 I2 T M z W w0 A ?_
 intro D C s' a w n N m hD hC O hn P rv hz d hC' ho K i hk q
 refine⟨m,hn,λG f=>?_⟩
 have eD:G.get? D=some { cls:=.type "list",data:=.seq w.toArray n }:=f.extBut _ _ O P
 have S:HOk X.prog X.w N G:=λb u e=>by
  refine (hk b u e).stay (λc v hc q=>f.extBut c v ?_ q) (λ_ q=>q) λ_ _ q=>q
  grind
 have U:HOk X.prog X.w (upd N D (.lst a)) G:=S.track d ⟨hz,w,n,rv,eD⟩
 have k:∀b o,V.heap.get? b=some o->b≠C:=λb o e=>aP (aK (az e) hC)
 have R:∀b o,V.heap.get? b=some o->b≠D:=λb o e=>aP (aK (az e) hD)
 have u2:Un (frs X.stack) fp H2 (upd N D (.lst a)) V.heap G :=
  ⟨
   λb o e r B Y=>f.extBut b o (k b o e) (i.keep b o e r B Y),λb o e r B Y=>let ⟨sl,q⟩:=i.slot b o e r B Y; ⟨sl,f.extBut b _ (k b o e) q⟩,
   λb o e r B=>by rw[Ag (R b o e)];exact i.free b o e r B,λb o e r=>let ⟨o',q⟩:=i.there b o e r; ⟨o',f.extBut b _ (k b o e) q⟩,
   λb xs e=>by rw[Ag (Bb (i.tups b _ e) d)];exact i.tups b _ e,λb o u e=>by rw[Ag (Bb (i.frzs b o u e) d)];exact i.frzs b o u e,
   λb ps e=>by rw[Ag (Bb (i.tbls b _ e) d)];exact i.tbls b _ e⟩
 refine⟨.ref D,upd _ D _,I2.call' ho u2 U K λb E=>⟨(z b E).2.2.2.1,(z b E).2.1,(z b E).2.2.2.2.1,(z b E).2.2.2.2.2⟩,rfl,q D d⟩
end
section
variable {X:Cx}{N':v4}{idx:p6}{scope:Scope}{elt tg iter:Expr}{ifs:v_}{pos:Pos}{wi:TI}{g:TG}{tc:TT}{te:TE}
theorem A9t {K t:Pos}(hN:X.N.Nodup) (hi':X.N[i]?=some y) (hy:Loc X.env.scope y) (L:Iv X N' idx scope) (hc:X.calm=true) (hi:PI X tg iter wi)
 (hg:∀B C s₀ H₀ ex,PG (Ek X N' scope B C s₀ H₀ ex) tg g) (ht:∀B C s₀ H₀ ex,PTs (Ek X N' scope B C s₀ H₀ ex) ifs tc) (he:∀B C s₀ H₀ ex,PE (Ek X N' scope B C s₀ H₀ ex) elt te)
 (hsw:swapsWith (.ListComp elt [⟨tg,iter,ifs,0⟩] scope pos) (some (.Name y K)) t.line X.env=pure true:=by rfl)
 (hf:X.fn y=true\/X.env.scope.names.lookup y=some .local:=by first | exact .inl rfl | exact .inr rfl | assumption)
 (hs:∀x,foldedSetIterable iter X.env x=pure x:=by intro _;rfl) :
 PS X (.Assign [.Name y K] (.ListComp elt [⟨tg,iter,ifs,0⟩] scope pos) t) (Vr (tLC idx wi g tc te) (Hx i)):=by
 intro d s M H j I h
 have h:tLC idx wi g tc te M H λx H1=>j.nx (M.set i (some x)) H1:=h
 obtain⟨B,A,c1,c2⟩:=P0 (env:=X.env) (scope:=scope) λy hy hf=>I.ok.has y.1 (L.free y hy hf)
 rw[exec_Assign_Name_used _ _ _ _ hsw]
 refine aj (fM (aj ?_))
 show wpAny _ X.A (do let _ <- comprehension (.ListComp elt [⟨tg,iter,ifs,0⟩] scope pos) scope X.env _ (newList []) false (eval iter X.env) (some (assign (.Name y K) X.env))) _ _ s
 refine aj (aU (wpAny_comprehension_free (use:=some (assign (.Name y K) X.env)) (Q:=λ_ r=>SP X d j .next r) rfl hs A L.kind (λy hy hl=>mem_lookup L.nod (by rw[<- hl];exact hy))
  (aU (hi d s M H _ I h) (λv s1 h1=>aU h1 (λitv s2 h2=>?_) λ_ _ e=>e) λ_ _ e=>e)) (λ_ r hq=>ak (ak hq)) λ_ _ e=>e)
 obtain⟨it,fp,tn,J,H2,rfl,G,T,U,N,W,w0,O⟩:=h2
 refine As6 (F:=λf H=>∀p,H p=none->j.nx (M.set i (some (.ref p))) (upd H p (.lst f))) (RR:=λf C=>compPost (model X.prog X.w) X.A X.xe (some (assign (.Name y K) X.env)) (λ_ r=>SP X d j .next r) f C) L hc hg ht he c1 c2 G T U N W w0 O ?_
 intro D C r f V n Y m hD P Z hn hDo rv hz k hC' ho hg' l hk q;have S:HOk X.prog X.w (upd Y D (.lst f)) r.heap:=hk.track k ⟨hz,V,n,rv,hDo⟩
 have neD:∀b o,s2.heap.get? b=some o->b≠D:=λb o e=>aP (aK (az e) hD)
 have u2:Un (frs X.stack) fp H2 (upd Y D (.lst f)) s2.heap r.heap :=
  ⟨
   l.keep,l.slot,λb o e n1 n2=>by rw[Ag (neD b o e)];exact l.free b o e n1 n2,l.there,
   λb xs e=>by rw[Ag (Bb (l.tups b xs e) k)];exact l.tups b xs e,λb o u e=>by rw[Ag (Bb (l.frzs b o u e) k)];exact l.frzs b o u e,
   λb ps e=>by rw[Ag (Bb (l.tbls b ps e) k)];exact l.tbls b ps e⟩
 have I3:Inv X d M (upd Y D (.lst f)) r:=G.call' ho u2 S hg' (λb E=>⟨(N b E).2.2.2.1,(N b E).2.1,(N b E).2.2.2.2.1,(N b E).2.2.2.2.2⟩)
 have hCL:C≠X.env.locals:=bQ (aK G.lt P)
 have hCc:∀x c,X.env.cells.lookup x=some c->c≠C:=λx c e z=>by
  obtain⟨v,w⟩:=G.cell x c e
  exact absurd (aK w.lt (by rw[z];exact P)) (bh _)
 have hCp:∀p∈X.pn++d,p.1≠C:=λp hp z=>absurd (aK (az (G.pin p hp).1) (by rw[z];exact P)) (bh _)
 refine wpAny_assign_Name (Zm (v:=.ref D) I3 hN hi' hy rfl (λs4 I4 ⟨a,sb,ha⟩=>?_) hf)
 have hCa:C≠a:=by
  grind
 refine⟨m,hn.sameBut sb hCa,λh' R=>?_⟩
 refine⟨_,_,I4.turned (λb o E e=>R.extBut b o E e) ?_ hCL (.inr (aq G.sz P)) hCc hCp,q D k⟩
 rw[Ag (aD Z)];exact hC'
end
section
variable {X:Cx}
noncomputable def O8 (H:Hp):V->Option String
 | .non=>some "NoneType" | .bl _=>some "bool" | .int _=>some "int" | .str _=>some "str"
 | .ref a=>match H a with
  | some (.lst _)=>some "list"
  | some (.tup _)=>some "tuple"
  | some (.dK _)=>some "dict"
  | some (.dT _)=>some "dict"
  | _=>none
 | _=>none
section
variable {X:Cx}{pins:y_}{σ:St}{H:Hp}{s:u_}
theorem A9m (I:Inv X pins σ H s) (f:RelV x u) (h:O8 H x=some t):∃hp:Heap->Prop,PySem.W.KitX X.K u (.type t) hp/\hp s.heap/\u≠.builtin "__main__.__loader__#opaque" := by
 cases x with
 | non=>cases h;cases (f);exact⟨_,PySem.W.kitx_none,True.intro,λz=>nomatch z⟩
 | bl b=>cases h;cases (f);exact⟨_,PySem.W.kitx_bool,True.intro,λz=>nomatch z⟩
 | int i=>cases h;obtain⟨t,rfl⟩:=f;exact⟨_,PySem.W.kitx_int,True.intro,λz=>nomatch z⟩
 | str y=>cases h;obtain⟨t,rfl⟩:=f;exact⟨_,PySem.W.kitx_str,True.intro,λz=>nomatch z⟩
 | ref a =>
  cases (f)
  have c:∀T,PySem.W.KitX X.K (.ref a) (.type T) (PySem.W.KitAt a T)->PySem.W.KitAt a T s.heap->some T=some t->∃hp:Heap->Prop,PySem.W.KitX X.K (.ref a) (.type t) hp/\hp s.heap/\Value.ref a≠.builtin "__main__.__loader__#opaque" := λT k p q=>by grind
  have h:(match H a with | some (.lst _)=>some _ | some (.tup _)=>some _ | some (.dK _)=>some _ | some (.dT _)=>some _ | _=>none)=some t:=h
  split at h
  ·rename_i l e
   obtain⟨_,_,n,_,d⟩:=(show zB _ _ H _ a _ from I.hok a _ e)
   exact c _ PySem.W.kitx_list ⟨_,d,rfl⟩ h
  ·rename_i l e
   obtain⟨_,_,_,o,d,g,_⟩:=(show zB _ _ H _ a _ from I.hok a _ e)
   exact c _ PySem.W.kitx_tuple ⟨o,d,g⟩ h
  ·rename_i j e
   obtain⟨_,_,vs,_,o,r,m,d,g,_⟩:=(show zB _ _ H _ a _ from I.hok a _ e)
   exact c _ PySem.W.kitx_dict ⟨o,d,g.1⟩ h
  ·rename_i j e
   obtain⟨_,_,l,_,o,r,m,d,g,_⟩:=(show zB _ _ H _ a _ from I.hok a _ e)
   exact c _ PySem.W.kitx_dict ⟨o,d,g.1⟩ h
  grind
 | byt b=>cases h
 | flt b=>cases h
 | ty n=>cases h
end
noncomputable def Ed (t T:String):Option Bool:=if ["NoneType", "bool", "int", "str", "list", "tuple", "dict"].contains t&&["int", "str", "bool", "list", "tuple"].contains T then some (t==T||(t == "bool" && T == "int")) else none
theorem An6 {K:v9} (h:Ed t T=some b):PySem.W.kitOne K (.type t) (.type T)=some b:=by
 unfold Ed at h
 split at h
 ·rename_i a
  cases h
  simp only[dh,List.contains_iff_mem,aB,a_,bc]at a;obtain⟨c,d⟩:=a
  rcases c with rfl | rfl | rfl | rfl | rfl | rfl | rfl <;> rcases d with rfl | rfl | rfl | rfl | rfl <;> with_unfolding_all rfl
 ·cases h
theorem Bf8:CallR X (.builtin "isinstance") (λxs H Q=>∃x T t b,xs=[x,.ty T]/\O8 H x=some t/\Ed t T=some b/\Q (.bl b) H):=by
 intro a s σ H xs us Q I r h;obtain⟨x,T,t,b,rfl,f,c,q⟩:=h;obtain⟨u,v,rfl,e,d⟩:=Vals.two r
 cases (d)
 obtain⟨hp,z,p,g⟩:=A9m I e f
 exact PySem.W.kia_one z I.kIn p (An6 c) g λtk=>⟨.bl b,H,I.tok _,rfl,q⟩
theorem walk_seq (m:A.handled=none) (I:Inv X pins d H s) (h:SqL X.K H a xs)
 (k:∀(c:w6) (J:Addr) (s2:u_),Vals xs c->Walks X.prog X.w A J [J,a] [J] c.length (λi v=>c[i]?=some v) (λi h=>h.IsListIter J a i/\h.IsList a c.toArray)->s2.heap.IsListIter J a 0/\s2.heap.IsList a c.toArray->(∀b∈[J,a],b<s2.heap.objs.size) ->
  Inv X pins d H s2->(∀f l,(∀b o,b∉[J]->s2.heap.get? b=some o->f.get? b=some o)->Inv X pins d H { s2 with heap:=f,toks:=l })->R (.ref J) s2) :
 wpAny (model X.prog X.w) A (pyIter (.ref a)) R E s:=by
 obtain⟨c,n,p,D⟩:=I.list h
 refine fW p.isList ?_
 have u:a<s.heap.objs.size:=let ⟨_,e,_⟩:=p.isList; az e
 have g:a≠s.heap.objs.size:=aP u;have W:=Walks.list (prog:=X.prog) (w:=X.w) (A:=A) m s.heap.objs.size a g c.toArray;rw[b_]at W
 have j:Inv X pins d H { s with heap:=s.heap.push { cls:=.type "list_iterator",data:=.fields #[.ref a,.int 0 0] } }:=I.kept (t':=s.toks) λb o e=>aC _ e
 refine k c s.heap.objs.size _ n (by simp_all) ⟨⟨_,aJ _ rfl,rfl,rfl⟩,let ⟨o,e,r⟩:=p.isList; ⟨o,aC _ e,r⟩⟩ ?_ j λf l x=>?_
 ·intro b z
  have e:=cz s.heap { cls:=.type "list_iterator",data:=.fields #[.ref a,.int 0 0] }
  grind
 ·obtain⟨q,B,F,y,C,t⟩:=(I.fpOk (b:=s.heap.objs.size) (au _) (I.hok.fresh (au _)))
  exact j.turned (λb o z e=>x b o (by simp_all) e) q B y C t
theorem As0 {bs:List Bool}(r:Vals (bs.map V.bl) a):TruthOf X.prog X.w A (λi v=>a[i]?=some v) (λi=>bs.getD i false):=by
 intro i v s Q E c b;have h := (bG.mp c).1
 have g:i<bs.length:=by have:=r.length;simp_all
 obtain⟨u,d,f⟩:=r.get (i:=i) (x:=V.bl bs[i]) (by simp_all)
 rw[c]at d
 cases d
 cases (show v=Value.bool _ from f)
 have e:bs.getD i false=bs[i]:=by simp_all
 have b:Q (bs.getD i _) s:=b;rw[e]at b;exact gj b
theorem range_all (bs:List Bool):(List.range bs.length).all (λi=>bs.getD i false)=bs.all id:=by
 rw[Bool.eq_iff_iff];simp only[bL,List.mem_range]
 constructor
 ·intro h b d
  obtain⟨i,a,c⟩:=List.getElem_of_mem d
  simp_all
 ·intro h i a
  simpa[a] using h _ (iG _)
theorem A4d (hc:X.calm=true):CallR X (.builtin "all") (λxs H Q=>∃(a:Addr) (b:List Bool),xs=[.ref a]/\SqL X.K H a (b.map V.bl)/\Q (.bl (b.all id)) H):=by
 intro d s σ H xs us Q I r h;obtain⟨a,b,rfl,i,q⟩:=h;obtain⟨u,rfl,g⟩:=vals1 r
 cases (g)
 refine call_all_walk (walk_seq (I.ok.hd hc) I i λc J s2 f W l hb I2 k=>⟨J,_,_,_,_,_,_,rfl,W,l,As0 f,λh' tk j=>?_⟩)
 have e:c.length=b.length:=by rw[<- f.length,ao]
 rw[e,range_all];exact⟨.bl _,H,k _ _ j,rfl,q⟩
end
mutual
def Tr (H:Hp):t6->V->Prop
 | .none,v=>v=.non
 | .bool b,v=>v=.bl b
 | .int i,v=>v=.int i
 | .str x,v=>v=.str x
 | .list ds,v=>∃a vs,v=.ref a/\H a=some (.lst vs)/\TrL H ds vs
 | .tuple ds,v=>∃a vs,v=.ref a/\H a=some (.tup vs)/\TrL H ds vs
 | .dict _,_=>False
def TrL (H:Hp):w5->n_->Prop
 | [],vs=>vs=[]
 | d::ds,vs=>∃v r,vs=v::r/\Tr H d v/\TrL H ds r
end
theorem TrL.length {H:Hp}:∀{ds:w5}{vs:n_},TrL H ds vs->ds.length=vs.length
 | [],_,h=>by cases (show _=[] from h);rfl
 | d::ds,_,h=>by
  obtain⟨v,r,rfl,_,t⟩:=h;rw[bM,bM,TrL.length t]
mutual
theorem Tr.same {H H':Hp}(S:Same H H'):∀{d:t6}{v:V},Tr H d v->Tr H' d v
 | .none,_,h=>h
 | .bool _,_,h=>h
 | .int _,_,h=>h
 | .str _,_,h=>h
 | .list ds,_,⟨a,vs,e,ha,t⟩=>⟨a,vs,e,S _ _ ha,TrL.same S t⟩
 | .tuple ds,_,⟨a,vs,e,ha,t⟩=>⟨a,vs,e,S _ _ ha,TrL.same S t⟩
theorem TrL.same {H H':Hp}(S:Same H H'):∀{ds:w5}{vs:n_},TrL H ds vs->TrL H' ds vs
 | [],_,h=>h
 | d::ds,_,⟨v,r,e,h,t⟩=>⟨v,r,e,Tr.same S h,TrL.same S t⟩
end
section
variable {X:Cx}{pins:y_}{σ:St}{H:Hp}{s:u_}
mutual
theorem Tr.reads (I:Inv X pins σ H s):∀{d:t6}{v:V}{u:Value},Tr H d v->RelV v u->∃as,Reads s.heap u d as
 | .none,_,u=>λh r=>by
  cases (show _=V.non from h)
  cases (show u=Value.none from r)
  exact⟨_,.none⟩
 | .bool b,_,u=>λh r=>by
  cases (show _=V.bl b from h)
  cases (show u=Value.bool b from r)
  exact⟨_,.bool b⟩
 | .int i,_,u=>λh r=>by
  cases (show _=V.int i from h)
  obtain⟨t,rfl⟩:=r;exact⟨_,.int i t⟩
 | .str x,_,u=>λh r=>by
  cases (show _=V.str x from h)
  obtain⟨t,rfl⟩:=r;exact⟨_,.str x t⟩
 | .list ds,_,u=>λh r=>by
  obtain⟨a,vs,rfl,ha,t⟩:=h
  cases (show u=Value.ref a from r)
  obtain⟨z,its,n,rv,e⟩:=I.hok a _ ha;obtain⟨as,q⟩:=TrL.reads I t rv
  exact⟨_,.list e rfl rfl (by simpa using q)⟩
 | .tuple ds,_,u=>λh r=>by
  obtain⟨a,vs,rfl,ha,t⟩:=h
  cases (show u=Value.ref a from r)
  obtain⟨z,its,rv,o,e,c,⟨n,dt⟩,_⟩:=I.hok a _ ha;obtain⟨as,q⟩:=TrL.reads I t rv
  exact⟨_,.tuple e c dt (by simpa using q)⟩
 | .dict k,_,u=>λh r=>False.elim h
theorem TrL.reads (I:Inv X pins σ H s):∀{ds:w5}{vs:n_}{us:w6},TrL H ds vs->Vals vs us->∃as,ReadsAll s.heap us ds as
 | [],_,us=>λh r=>by
  cases (show _=[] from h)
  cases r
  exact⟨_,.nil⟩
 | d::ds,_,us=>λh r=>by
  obtain⟨v,vs,rfl,hv,t⟩:=h
  cases r with
  | cons r1 r2 =>
   obtain⟨as,q⟩:=Tr.reads I hv r1;obtain⟨bs,p⟩:=TrL.reads I t r2;exact⟨_,.cons q p⟩
end
end
def Flat (d:t6):Prop:=d.canLay0=true/\d.depth<=40
section
variable {X:Cx}
theorem Bu9 (hu:u+64<c) (hb:b<=40):u+min a b<c:=bD (bW (aq (Nat.min_le_right a b) (aq hb (by decide))) u) hu
theorem A6x (hu:u+64<c) (hb:b<=40):u+1+min a b<c:=bD (aq (bW (aq (Nat.min_le_right a b) hb) _) (bW (show 1+40<=64 by decide) u)) hu
theorem B1v (hu:X.A.units+64<cLine):OpR X (compareOp .Eq) (λx y H Q=>∃a b,Tr H a x/\Tr H b y/\Flat a/\Flat b/\Q (.bl (PyData.eqv a b)) H):=by
 intro c s n H x y v u Q I g f h;obtain⟨a,b,i,j,k,d,q⟩:=h;obtain⟨m,l⟩:=i.reads I g;obtain⟨o,e⟩:=j.reads I f;exact SeqAt.compareEq_reads l e k.1 d.1 (Bu9 hu d.2) ⟨.bl _,H,I,rfl,q⟩
theorem B0i (hu:X.A.units+64<cLine):OpR X (compareOp .NotEq) (λx y H Q=>∃a b,Tr H a x/\Tr H b y/\Flat a/\Flat b/\Q (.bl (!PyData.eqv a b)) H):=by
 intro c s n H x y v u Q I g f h;obtain⟨a,b,i,j,k,d,q⟩:=h;obtain⟨m,l⟩:=i.reads I g;obtain⟨o,e⟩:=j.reads I f;exact SeqAt.compareNe_reads l e k.1 d.1 (Bu9 hu d.2) ⟨.bl _,H,I,rfl,q⟩
theorem Zh (hu:X.A.units+64<cLine):OpR X (compareOp .NotIn) (λx y H Q=>∃d ds,Tr H d x/\(Tr H (.list ds) y\/Tr H (.tuple ds) y)/\Flat d/\PyData.canLayAll0 ds=true/\Q (.bl (!ds.any λe=>PyData.eqv e d)) H):=by
 intro g s σ H x y v u Q I m f h;obtain⟨d,ds,k,a,b,i,q⟩:=h;obtain⟨as,j⟩:=k.reads I m
 rcases a with a | a
 ·obtain⟨l,c⟩:=a.reads I f
  exact SeqAt.notIn_list_reads c j i b.1 (A6x hu b.2) ⟨.bl _,H,I,rfl,q⟩
 ·obtain⟨l,c⟩:=a.reads I f
  exact SeqAt.notIn_tuple_reads c j i b.1 (A6x hu b.2) ⟨.bl _,H,I,rfl,q⟩
theorem A5l (hu:X.A.units+64<cLine)(hg:X.A.guards=some []):CallR X (.type "str") (λxs H Q=>∃a d,xs=[.ref a]/\Tr H d (.ref a)/\d.showable=true/\d.hasDict=false/\d.depth<=40/\d.shown.length<=sizeLine/\Q (.str d.shown) H):=by
 intro b s σ H xs us Q I r h;obtain⟨a,d,rfl,i,j,h2,h3,g,q⟩:=h;obtain⟨u,rfl,c⟩:=vals1 r
 cases show u=Value.ref a from c
 obtain⟨as,k⟩:=i.reads I c
 exact str_of_reads k j λz=>by simp_all hg (by lia) (λ_ _ e=>e) (λh' t tk f=>⟨.str _,H,I.kept f,⟨t,rfl⟩,q⟩) g
end
mutual
noncomputable def Yw (gt:Bool):t6->t6->Option Bool
 | .int i,.int j=>some (if gt then decide (j<i) else decide (i<j))
 | .str i,.str j=>some (if gt then decide (j.cps.toList<i.cps.toList) else decide (i.cps.toList<j.cps.toList))
 | .tuple xs,.tuple ys=>B4m gt xs ys
 | _,_=>none
noncomputable def B4m (gt:Bool):w5->w5->Option Bool
 | [],[]=>some false
 | [],_::_=>some (!gt)
 | _::_,[]=>some gt
 | x::xs,y::ys=>if PyData.eqv x y=true then B4m gt xs ys else Yw gt x y
end
noncomputable def A5i (H:Hp):V->Option Nat
 | .ref p=>match H p with
  | some (.lst xs)=>some xs.length
  | some (.tup xs)=>some xs.length
  | _=>none
 | .str z=>if z.length<=sizeLine then some z.length else none
 | _=>none
def rAppF:V->n_->Hp->VK->Prop:=λx vs H Q=>∃l y xs,x=.ref l/\vs=[y]/\H l=some (.lst xs)/\xs.length<sizeLine/\Q .non (upd H l (.lst (xs++[y])))
def B2l (K:v9)(tl:TE):TI:=λσ H R=>tl σ H λx H1=>∃a,x=.ref a/\((∃xs,H1 a=some (.lst xs)/\R (Itl K a) H1)\/(∃xs,H1 a=some (.tup xs)/\R (Itt K a) H1))
section
variable {X:Cx}
theorem A5k:CallR X (.builtin "len") (λxs H Q=>∃x n,xs=[x]/\A5i H x=some n/\Q (.int (n:Nat)) H):=by
 intro a s σ H xs us Q I r h;obtain⟨x,n,rfl,e,q⟩:=h
 refine An7 _ s _ H _ _ Q I r ⟨x,n,rfl,?_,q⟩
 cases x with
 | ref p =>
  have e:(match H p with | some (.lst _)=>some _ | some (.tup _)=>some _ | _=>none)=some n:=e
  cases hp:H p with
  | none=>simp_all
  | some o =>
   rw[hp]at e
   cases o with
   | lst xs=>cases e;exact .inl ⟨xs,SqL.of hp,rfl⟩
   | tup xs=>cases e;exact .inr ⟨xs,SqT.of hp,rfl⟩
   | _=>grind
 | str z =>
  have e:(if z.length<=sizeLine then some _ else none)=some n:=e
  split at e
  ·cases e;trivial
  trivial
 | _=>cases e
theorem Bp1:MtM X "list.append" rAppF:=by
 intro a s j H x k v m Q I e f h;obtain⟨l,y,d,c,g,i,b,q⟩:=h;exact A6c _ s _ H x _ v _ Q I e f ⟨l,d,y,c,g,i,b,q⟩
theorem By7 (hl:PE X l j):PI X u l (B2l X.K j):=by
 intro k s z H R I h
 refine thn (hl _ s _ H _ I h) λv d ⟨x,m,c,r,f⟩=>?_
 obtain⟨a,e,f⟩:=f;subst e
 cases r
 rcases f with ⟨t,i,q⟩ | ⟨t,i,q⟩
 ·obtain⟨g,w,p,y⟩:=c.list (SqL.of i)
  refine fW p.isList ?_
  refine⟨d.heap.objs.size,[d.heap.objs.size],_,_,m,rfl,c.kept λb o e=>aC _ e,A5y a _,⟨_,aJ _ rfl,rfl,rfl⟩,λb n=>?_,q⟩
  have e:b=d.heap.objs.size:=by grind
  subst e;exact c.fpOk (au _) (c.hok.fresh (au _))
 ·obtain⟨g,w,p,y⟩:=c.tuple (SqT.of i)
  refine dH (show d.heap.IsTuple a _ from p) ?_
  refine⟨d.heap.objs.size,[d.heap.objs.size],_,_,m,rfl,c.kept λb o e=>aC _ e,Ay6 a _,⟨_,aJ _ rfl,rfl,rfl⟩,λb n=>?_,q⟩
  have e:b=d.heap.objs.size:=by grind
  subst e;exact c.fpOk (au _) (c.hok.fresh (au _))
def Lk (t:String):List String->Option Bool
 | []=>some false
 | T::r=>match Ed t T with
  | some true=>some true
  | some false=>Lk t r
  | none=>none
theorem Xj {K:v9}{t:String}:∀{Ts:List String}{b:Bool},Lk t Ts=some b->PySem.W.kitAny K (.type t) (Ts.map Value.type)=some b
 | [],b,h=>h
 | T::r,b,h=>by
  have h:(match Ed t T with | some true=>some true | some false=>Lk t r | none=>none)=some b:=h
  show (match PySem.W.kitOne K (.type t) (.type T) with | some true=>some true | some false=>PySem.W.kitAny K (.type t) (r.map Value.type) | none=>none)=some b
  cases e:Ed t T with
  | none=>rw[e]at h;cases h
  | some k =>
   rw[e]at h;rw[An6 e]
   cases k with
   | true=>exact h
   | false=>exact Xj h
theorem Am4:∀{Ts:List String}{us:w6},Vals (Ts.map V.ty) us->us=Ts.map Value.type
 | [],_,.nil=>rfl
 | T::r,_,.cons h t=>by
  cases (show _=Value.type T from h)
  rw[Am4 t]
  rfl
theorem A3b:CallR X (.builtin "isinstance") (λxs H Q=>∃x p a t b,xs=[x,.ref p]/\H p=some (.tup (a.map V.ty))/\O8 H x=some t/\Lk t a=some b/\Q (.bl b) H):=by
 intro e s σ H xs us Q I r h;obtain⟨x,p,a,t,b,rfl,d,E,j,q⟩:=h;obtain⟨u,v,rfl,k,l⟩:=Vals.two r
 cases (l)
 obtain⟨z,m,w,o,y,A,⟨n,B⟩,C⟩:=I.hok p _ d;have D:=Am4 w;subst D;obtain⟨F,dd,f,sl⟩:=o;subst A B
 have c:∀g,EP X _ _ Q _ { s with toks:=g }:=λg=>⟨.bl b,H,I.tok _,rfl,q⟩
 obtain⟨d,z,p,i⟩:=A9m I k E;exact PySem.W.kia_tup z I.kIn p y (Xj j) i c
end
theorem Bx0:bootBuiltins "len" = some (.builtin "len"):=by decide +kernel
theorem B0x:bootBuiltins "abs" = some (.builtin "abs"):=by decide +kernel
theorem Hr:bootBuiltins "isinstance" = some (.builtin "isinstance"):=by decide +kernel
theorem B1k:bootBuiltins "all" = some (.builtin "all"):=by decide +kernel
theorem B2f:bootBuiltins "min" = some (.builtin "min"):=by decide +kernel
theorem A7d:bootBuiltins "int" = some (.type "int"):=by decide +kernel
theorem Aa6:bootBuiltins "str" = some (.type "str"):=by decide +kernel
theorem Ah0:bootBuiltins "bool" = some (.type "bool"):=by decide +kernel
theorem Ve:bootBuiltins "list" = some (.type "list"):=by decide +kernel
theorem K1:bootBuiltins "tuple" = some (.type "tuple"):=by decide +kernel
theorem Dc {X:Cx}{N':v4}{idx:p6}{scope:Scope}(h1:scope.kind=.function:=by exact rfl)(h3:(scope.names.map (·.1)).Nodup:=by decide +kernel)
 (h4:(scope.names.all λy=>decide (y.2≠.free)||decide (X.env.kindOf y.1=some .cell)||decide (X.env.kindOf y.1=some .free))=true:=by exact rfl) (h5:idx.length=N'.length:=by exact rfl)
 (h6:((idx.zip N').all λp=>match p.1 with | none=>true | some i=>decide (X.N[i]?=some p.2)&&decide (scope.names.lookup p.2=some .free))=true:=by exact rfl):Iv X N' idx scope where
 kind:=h1
 nod:=h3
 free:=λy hy hf=>by
  have h:=bL.mp h4 y hy;simp only[Bool.or_eq_true,decide_eq_true_eq]at h
  rcases h with (h | h) | h
  ·exact absurd hf h
  ·exact .inl h
  ·exact .inr h
 len:=h5
 at':=λj i x e1 e2=>by
  have hz:(some i,x)∈idx.zip N':=by
   have:(idx.zip N')[j]?=some (some i,x):=by simp[jk,e1,e2]
   exact bz this
  have h:=bL.mp h6 _ hz;simp only[dh,decide_eq_true_eq]at h;exact h
noncomputable def V3:Expr->Option V
 | .Constant (.int i) _ _=>some (.int i)
 | .Constant (.str x) _ _=>some (.str x)
 | .Constant (.bool b) _ _=>some (.bl b)
 | .Constant .none _ _=>some .non
 | _=>none
def Rn:v_->Option (n_)
 | []=>some []
 | e::es=>match V3 e,Rn es with
  | some v,some vs=>some (v::vs)
  | _,_=>none
def tK (vs:n_):TA:=λ_ H Q=>Q vs H
theorem A9l (h:V3 e=some v):PE X e (tC v)/\∀es,starEach (e::es) X.env=(false,eval e X.env)::starEach es X.env:=by
 unfold V3 at h
 split at h <;> first
  | (cases h;exact⟨Bc5,λ_=>rfl⟩)
  | (cases h;exact⟨Bd8,λ_=>rfl⟩)
  | (cases h;exact⟨Bu4,λ_=>rfl⟩)
  | (cases h;exact⟨Ba8,λ_=>rfl⟩)
  | cases h
theorem Zy {X:Cx}:∀{es:v_}{vs:n_},Rn es=some vs->PA X es (tK vs)
 | [],vs,h=>by cases h;exact Az1
 | e::es,vs,h=>by
  have h:(match V3 e,Rn es with | some v,some vs=>some (v::vs) | _,_=>none)=some vs:=h
  cases e1:V3 e with
  | none=>rw[e1]at h;cases h
  | some v =>
   cases e2:Rn es with
   | none=>rw[e1,e2]at h;cases h
   | some r =>
    rw[e1,e2]at h
    cases h
    obtain⟨p1,p2⟩:=A9l (X:=X) e1;exact A1u p1 (Zy e2) (p2 es)
noncomputable def isStar:Expr->Bool
 | .Starred ..=>true
 | _=>false
def noStar:v_->Bool
 | []=>true
 | e::es=>!isStar e&&noStar es
theorem Fd (h:isStar e=false):starEach (e::es) env=(false,eval e env)::starEach es env:=by
 cases e <;> first | rfl | cases h
theorem La {pos:Pos}{env:Env}:∀{es:v_},noStar es=true->(backTo pos (starEach es env)).any (·.1)=false
 | [],_=>rfl
 | e::es,h=>by
  obtain⟨h1,h2⟩:=aA.mp h
  rw[Fd (by simpa using h1)]
  show (false||(backTo pos (starEach es env)).any (·.1))=false
  rw[La h2]
  rfl
theorem Gk (h:noStar (e::es)=true):isStar e=false/\noStar es=true:=by
 obtain⟨b,a⟩:=aA.mp h
 simp_all
section
variable {X:Cx}{CX:CXT}{k:Nat}{f:Addr}{fd:u5}{ps:v4}{sp:Sp}{dvs:n_}{ds:w6}{E:XK}{x:Str}{p pos:Pos}{e:Expr}{es:v_}{te:TE}{t:TA}{id T:String}{r:n_->Hp->VK->Prop}
theorem B3j (ha:PE X e te)(hr:PA X es t)(hs:isStar e=false:=by rfl):PA X (e::es) (Cg te t):=A1u ha hr (Fd hs)
theorem Bf0 (F:FnOk X.prog X.w X.K X.mg X.base CX k f fd ps sp)(hr:Room k X.A)(hg:Gl X x)(hm:X.mg x=some (.ref f))(hk:PySem.W.keepIn X.K (.ref f)=true)(hb:Binds X.K fd ps ds)(hd:Vals dvs ds)(hx:Lj CX X E)
 (ha:PA X (e::es) t) (hdb:(x==("__debug__" : Str))=false:=by decide) (hn:noStar (e::es)=true:=by rfl):PE X (.Call (.Name x p) (e::es) [] pos) (M6 sp dvs E t) :=
 Bo4 F hr hg hm hk hb hd hx ha hdb (Fd (Gk hn).1) (La (Gk hn).2)
theorem Ew (hc:CallR X (.builtin id) r)(hg:Gl X x)(hm:X.mg x=none)(hv:bootBuiltins x=some (.builtin id))(ha:PA X (e::es) t)(hn:x ≠ "__name__" := by decide) (hdb:(x==("__debug__" : Str))=false:=by decide)
 (hns:noStar (e::es)=true:=by rfl):PE X (.Call (.Name x p) (e::es) [] pos) (tCB r t):=Bg1 hc hg hm hv ha hn hdb (Fd (Gk hns).1) (La (Gk hns).2)
theorem Mf (hc:CallR X (.type T) r)(hg:Gl X x)(hm:X.mg x=none)(hv:bootBuiltins x=some (.type T))(ha:PA X (e::es) t)(hn:x ≠ "__name__" := by decide) (hdb:(x==("__debug__" : Str))=false:=by decide)
 (hns:noStar (e::es)=true:=by rfl):PE X (.Call (.Name x p) (e::es) [] pos) (tCB r t):=A5a hc hg hm hv ha hn hdb (Fd (Gk hns).1) (La (Gk hns).2)
end
section
variable {X:Cx}{a b e:Expr}{es:v_}{ta tb te:TE}{t:TA}{p pos apos cpos:Pos}
theorem Er {b:List Keyword}{a:Pos}:Om (.Call f args b a):=λ_ _=>rfl
theorem Pb {a:Pos}:Om (.Name x a):=λ_ _=>rfl
theorem Aq {a:Pos}:Om (.Constant (.int i) j a):=λ_ _=>rfl
theorem A4b : Om (.Subscript a b c):=λ_ _=>rfl
theorem Gp (ha:QE X a ta)(hb:QE X b tb):QE X (.BinOp a .Sub b pos) (tOp (rI0 λi j=>.int (i-j)) ta tb):=⟨X8 By6 ha.1 hb.1⟩
theorem Jc (ha:QE X a ta)(hb:QE X b tb):QE X (.BinOp a .Mult b pos) (tOp (rI CMul λi j=>.int (i*j)) ta tb):=⟨X8 Bx8 ha.1 hb.1⟩
theorem Xk (ha:QE X a ta)(hb:QE X b tb):QE X (.BinOp a .FloorDiv b pos) (tOp (rI Bl9 λi j=>.int (i / j)) ta tb):=⟨X8 Bs0 ha.1 hb.1⟩
theorem G9 (ha:QE X a ta)(hb:QE X b tb):QE X (.BinOp a .Mod b pos) (tOp (rI (λ_ j=>0<j) λi j=>.int (i % j)) ta tb):=⟨X8 B0s ha.1 hb.1⟩
theorem Iz (ha:QE X a ta)(hb:QE X b tb):QE X (.BinOp a .Pow b pos) (tOp (rI Bm9 λi j=>.int (i ^ j.toNat)) ta tb):=⟨X8 B2p ha.1 hb.1⟩
theorem Zo (ha:QE X a ta)(hb:QE X b tb):QE X (.BinOp a .Mult b pos) (tOp (Bw1) ta tb):=⟨X8 B0p ha.1 hb.1⟩
def B5n:R2:=λx y H Q=>∃da db,Tr H da x/\Tr H db y/\Flat da/\Flat db/\Q (.bl (PyData.eqv da db)) H
def B5j:R2:=λx y H Q=>∃da db,Tr H da x/\Tr H db y/\Flat da/\Flat db/\Q (.bl (!PyData.eqv da db)) H
theorem Ap9 (ha:QE X a ta)(hb:QE X b tb):QT X (.Compare a [.Lt] [b] pos) (O7 (tOp (rI0 λi j=>.bl (decide (i<j))) ta tb)):=⟨Jt B3q ha.1 hb.1 (M3 _)⟩
theorem Mp (ha:QE X a ta)(hb:QE X b tb):QT X (.Compare a [.Gt] [b] pos) (O7 (tOp (rI0 λi j=>.bl (decide (j<i))) ta tb)):=⟨Jt B3r ha.1 hb.1 (M3 _)⟩
theorem Bd0 (ha:QE X a ta)(hb:QE X b tb):QE X (.Compare a [.GtE] [b] pos) (tOp (rI0 λi j=>.bl (decide (j<=i))) ta tb):=⟨Ab7 B4q ha.1 hb.1 (M3 _)⟩
theorem Z5 (ha:QE X a ta)(hb:QE X b tb):QT X (.Compare a [.Is] [b] pos) (O7 (tOp (λx y H Q=>y=.non/\Q (.bl (decide (x=.non))) H) ta tb)):=⟨Jt B0n ha.1 hb.1 (M3 _)⟩
theorem Wi (ha:QE X a ta)(hb:QE X b tb):QT X (.Compare a [.IsNot] [b] pos) (O7 (tOp (λx y H Q=>y=.non/\Q (.bl (!decide (x=.non))) H) ta tb)):=⟨Jt Bh1 ha.1 hb.1 (M3 _)⟩
theorem Av3 (ha:QE X a ta):QE X (.UnaryOp .USub a pos) (tUn (rU λi=>.int (-i)) ta):=⟨B2x Bx1 ha.1⟩
def Uj (K:v9):n_->Hp->VK->Prop:=λxs H Q=>∃x n,xs=[x]/\A5i H x=some n/\Q (.int (n:Nat)) H
def At9 (K:v9):n_->Hp->VK->Prop:=λxs H Q=>∃x n,xs=[x]/\B4s K x H n/\Q (.int n) H
def Py (K:v9):n_->Hp->VK->Prop:=λxs H Q=>∃i,xs=[.int i]/\Q (.int (if i<0 then -i else i)) H
theorem Am5 (hgl:Gl X "abs") (hm:X.mg "abs" = none) (ha:PA X (e::es) t) (hns:noStar (e::es)=true:=by rfl):PE X (.Call (.Name "abs" p) (e::es) [] pos) (tCB (Py X.K) t):=Ew Bb6 hgl hm B0x ha (by decide) (by rfl) hns
def Qj (K:v9):n_->Hp->VK->Prop:=λxs H Q=>∃x T t b,xs=[x,.ty T]/\O8 H x=some t/\Ed t T=some b/\Q (.bl b) H
theorem Ai9 (hgl:Gl X "isinstance") (hm:X.mg "isinstance" = none) (ha:PA X (e::es) t) (hns:noStar (e::es)=true:=by rfl):PE X (.Call (.Name "isinstance" p) (e::es) [] pos) (tCB (Qj X.K) t):=Ew Bf8 hgl hm Hr ha (by decide) (by rfl) hns
def J0 (K:v9):n_->Hp->VK->Prop:=λxs H Q=>∃x p Ts t b,xs=[x,.ref p]/\H p=some (.tup (Ts.map V.ty))/\O8 H x=some t/\Lk t Ts=some b/\Q (.bl b) H
theorem Af7 (hgl:Gl X "isinstance") (hm:X.mg "isinstance" = none) (ha:PA X (e::es) t) (hns:noStar (e::es)=true:=by rfl):PE X (.Call (.Name "isinstance" p) (e::es) [] pos) (tCB (J0 X.K) t):=Ew A3b hgl hm Hr ha (by decide) (by rfl) hns
def Nr (K:v9):n_->Hp->VK->Prop:=λxs H Q=>∃(a:Addr) (bs:List Bool),xs=[.ref a]/\SqL K H a (bs.map V.bl)/\Q (.bl (bs.all id)) H
theorem Ab0 (hc:X.calm=true)(hgl:Gl X "all") (hm:X.mg "all" = none) (ha:PA X (e::es) t) (hns:noStar (e::es)=true:=by rfl):PE X (.Call (.Name "all" p) (e::es) [] pos) (tCB (Nr X.K) t):=Ew (A4d hc) hgl hm B1k ha (by decide) (by rfl) hns
def M7 (K:v9):n_->Hp->VK->Prop:=λxs H Q=>(∃i,xs=[.int i]/\Q (.int i) H)\/∃k,xs=[.bl k]/\Q (.int (if k then 1 else 0)) H
theorem Ai1 (hgl:Gl X "int") (hm:X.mg "int" = none) (ha:PA X (e::es) t) (hns:noStar (e::es)=true:=by rfl):PE X (.Call (.Name "int" p) (e::es) [] pos) (tCB (M7 X.K) t):=Mf A3k hgl hm A7d ha (by decide) (by rfl) hns
def V2 (K:v9):n_->Hp->VK->Prop:=λxs H Q=>∃i:Int,xs=[.int i]/\i.natAbs.log2<1920/\Q (.str (toString i)) H
def Ao5 (K:v9):n_->Hp->VK->Prop:=λxs H Q=>∃a d,xs=[.ref a]/\Tr H d (.ref a)/\d.showable=true/\d.hasDict=false/\d.depth<=40/\d.shown.length<=sizeLine/\Q (.str d.shown) H
def Ii (K:v9):n_->Hp->VK->Prop:=λxs H Q=>∃p ys,xs=[.ref p]/\((SqL K H p ys/\∀l,H l=none->Q (.ref l) (upd H l (.tup ys)))\/(SqT K H p ys/\Q (.ref p) H))
theorem Tf (hgl:Gl X "tuple") (hm:X.mg "tuple" = none) (ha:PA X (e::es) t) (hns:noStar (e::es)=true:=by rfl):PE X (.Call (.Name "tuple" p) (e::es) [] pos) (tCB (Ii X.K) t):=Mf Ym hgl hm K1 ha (by decide) (by rfl) hns
def Jg (K:v9):n_->Hp->VK->Prop:=λxs H Q=>∃p ys,xs=[.ref p]/\(SqL K H p ys\/SqT K H p ys)/\∀l,H l=none->Q (.ref l) (upd H l (.lst ys))
theorem U5 (hgl:Gl X "list") (hm:X.mg "list" = none) (ha:PA X (e::es) t) (hns:noStar (e::es)=true:=by rfl):PE X (.Call (.Name "list" p) (e::es) [] pos) (tCB (Jg X.K) t):=Mf Ag0 hgl hm Ve ha (by decide) (by rfl) hns
def Nx (K:v9):n_->Hp->VK->Prop:=λxs H Q=>∃i j,xs=[.int i,.int j]/\Q (.int (if j<i then j else i)) H
theorem Ag2 (hc:X.calm=true)(hgl:Gl X "min") (hm:X.mg "min" = none) (ha:PA X (e::es) t) (hns:noStar (e::es)=true:=by rfl):PE X (.Call (.Name "min" p) (e::es) [] pos) (tCB (Nx X.K) t):=Ew (A4h hc) hgl hm B2f ha (by decide) (by rfl) hns
theorem A4i (ho:PE X a ta)(hv:PE X e te)(hbase:attributeBase a "append" X.env (eval a X.env)=eval a X.env:=by rfl)
 (hfew:((backTo cpos (starEach [e] X.env)).all (λx=>!x.1)&&(backToKw cpos (keywordEach [] X.env)).all (λx=>x.1.isSome)
  && decide ([e].length+([]:List Keyword).length+(if ([]:List Keyword).isEmpty then 0 else 1)<30))=true:=by rfl)
 (hline:(apos.endLine==cpos.line)=true:=by rfl) (hns:isStar e=false:=by rfl) :
 PE X (.Call (.Attribute a "append" apos) [e] [] cpos) (tBM X.K "list" rAppF ta (Cg te Gs)) :=
 Bt1 eQ PySem.F.slot_list_append PySem.F.type_list_append Bp1 ho (B3j hv Az1 hns) hbase hfew hline (Fd hns) rfl
end
section
noncomputable abbrev bare (led:Bool):Obj:={ cls:=.type "set",dict:=none,data:=.set #[] 0 (.fresh 0 0 led) }
end
section
variable {P:u6}{w:World}{A:t_}{E:z_}{s:u_}
theorem Ui (a:s.heap.IsTupleIter j u k)
 (body:wpAny (model P w) A.in1 (Builtin.«tuple_iterator.__next__» ⟨[.ref j],[]⟩) (λf z=>∃v,f=.done (.ret v)/\Q v z) E s) :
 wpAny (model P w) A (Builtin.SmallTypes.nextOf (.ref j)) Q E s:=by
 apply aj
 refine cj a.typeIs F.slot_tuple_iterator_next ?_
 refine bB F.slot_tuple_iterator_next a.typeIs F.entry_tuple_iterator_next ?_ (F.args_tuple_iterator_next_1 _)
 refine aU body (λf z c=>?_) λ_ _ q=>q
 obtain⟨v,b,q⟩:=c;exact⟨v,b,ak q⟩
theorem Av6 (c:s.heap.IsTupleIter j u k) (g:s.heap.IsTuple u vs) (hx:vs[k]?=some x)
 (q:∀h',h'.IsTupleIter j u (k+1)->Heap.SameBut j s.heap h'->Q x { s with heap:=h' }):wpAny (model P w) A (Builtin.SmallTypes.nextOf (.ref j)) Q E s:=by
 refine Ui c ?_
 obtain⟨o,d,f,b⟩:=c;obtain⟨i,h,_,n,e⟩:=g;apply aj (m:=field _ 0);apply aY d b rfl;apply aj ;apply aY d b rfl;apply aj ;apply cM h e;simp only[hx,eU];apply aj
 apply gQ d b (by simp)
 apply ak
 refine⟨x,rfl,q _ ⟨_,(cu (Obj.mapFields λa=>a.setIfInBounds 1 (rawInt (k+1))) d (eV (du b _))),(iH ..).trans f,?_⟩ (bK ..)⟩
 rw[du b]
 trivial
theorem A6f (c:A.handled=none) (d:s.heap.IsTupleIter j u k) (h:s.heap.IsTuple u vs) (hx:vs[k]?=none)
 (q:∀h' e,Heap.ExtBut j s.heap h'->(∃o,h'.get? e=some o/\o.cls=.type "StopIteration")->E (.ref e) { s with heap:=h' }):wpAny (model P w) A (Builtin.SmallTypes.nextOf (.ref j)) Q E s:=by
 refine Ui d ?_
 obtain⟨o,f,r,g⟩:=d;obtain⟨t,i,_,n,l⟩:=h;apply aj (m:=field (.ref j) 0);apply aY f g (x:=.ref u) rfl;have p:¬ ((Value.ref u==Value.none)=true):=bf
 show wpAny _ _ (if (Value.ref u==.none)=true then _ else _) _ _ _
 rw[if_neg p];apply aj (m:=field (.ref j) 1);apply aY f g (x:=.int k 0) rfl;apply aj (m:=seqItems? (.ref u));apply cM i l;simp only[hx,eU];apply aj;apply cL;apply aj
 apply gQ f g (by simp)
 apply aj (m:=newExc (.type "StopIteration") []);unfold newExc newTuple;apply aj
 refine bO ?_ (by size_fits )
 apply aj (m:=firstArgMember _ _)
 refine wpAny_of_eq (a:=Value.none) (by simp only[firstArgMember];rfl) ?_
 refine bO ?_ (by size_fits )
 unfold raiseNew;apply aj;apply wpAny_handled;have b:A.in1.handled=none:=c;rw[b]
 refine aj (ak ?_)
 apply wpAny_throw;exact q _ _ (((bK ..).extBut.push _).push _) ⟨_,aJ _ rfl,rfl⟩
def ItAt (t:Bool)(h:Heap)(j u:Addr)(k:Nat):Prop:=match t with
 | true=>h.IsTupleIter j u k
 | false=>h.IsListIter j u k
def SqA (t:Bool)(h:Heap)(u:Addr)(vs:v7):Prop:=match t with
 | true=>h.IsTuple u vs
 | false=>h.IsList u vs
theorem ItAt.stay (x:ItAt t h j u k) (q:∀o,h.get? j=some o->h'.get? j=some o):ItAt t h' j u k:=by
 cases t <;> (obtain⟨o,e,r⟩:=x;exact⟨o,q o e,r⟩)
theorem ItAt.obj (x:ItAt t h j u k):∃o,h.get? j=some o/\o.data=.fields #[.ref u,.int k 0]:=by
 cases t <;> (obtain⟨o,e,_,r⟩:=x;grind)
theorem SqA.stay (x:SqA t h u vs) (q:∀o,h.get? u=some o->h'.get? u=some o):SqA t h' u vs:=by
 cases t <;> (obtain⟨o,e,r⟩:=x;exact⟨o,q o e,r⟩)
theorem next_item (a:ItAt t s.heap j u k) (b:SqA t s.heap u vs) (hx:vs[k]?=some x)
 (q:∀h',ItAt t h' j u (k+1)->Heap.SameBut j s.heap h'->Q x { s with heap:=h' }):wpAny (model P w) A (Builtin.SmallTypes.nextOf (.ref j)) Q E s:=by
 cases t
 ·exact wpAny_nextOf_list_item a b hx q
 ·exact Av6 a b hx q
theorem next_end (c:A.handled=none) (a:ItAt t s.heap j u k) (b:SqA t s.heap u vs) (hx:vs[k]?=none)
 (q:∀h' e,Heap.ExtBut j s.heap h'->(∃o,h'.get? e=some o/\o.cls=.type "StopIteration")->E (.ref e) { s with heap:=h' }):wpAny (model P w) A (Builtin.SmallTypes.nextOf (.ref j)) Q E s:=by
 cases t
 ·exact wpAny_nextOf_list_end c a b hx q
 ·exact A6f c a b hx q
structure ZipAt (h:Heap) (t1 t2:Bool) (z ti to i1 i2 a b:Addr) (f0:Value) (k:Nat):Prop where
 zip:IsZip h z ti to f0
 ins:IsPair h ti (.ref i1) (.ref i2)
 outs:∃u v,IsPair h to u v
 one:ItAt t1 h i1 a k
 two:ItAt t2 h i2 b k
structure zA (z ti to i1 i2 a b:Addr):Prop where
 nd:[z,ti,to,i1,i2].Nodup
 na:a∉[z,ti,to,i1,i2]
 nb:b∉[z,ti,to,i1,i2]
theorem zA.z_ti (x:zA z ti to i1 i2 a b):ti≠z:=by have:=x.nd;grind
theorem zA.z_to (x:zA z ti to i1 i2 a b):to≠z:=by have:=x.nd;grind
theorem zA.z_i1 (x:zA z ti to i1 i2 a b):i1≠z:=by have:=x.nd;grind
theorem zA.z_i2 (x:zA z ti to i1 i2 a b):i2≠z:=by have:=x.nd;grind
theorem zA.to_i1 (x:zA z ti to i1 i2 a b):to≠i1:=by have:=x.nd;simp_all
theorem zA.to_i2 (x:zA z ti to i1 i2 a b):to≠i2:=by have:=x.nd;simp_all
theorem zA.i1_i2 (x:zA z ti to i1 i2 a b):i1≠i2:=by have:=x.nd;simp_all
theorem zA.ti_to (x:zA z ti to i1 i2 a b):ti≠to:=by have:=x.nd;simp_all
theorem zA.ti_i1 (x:zA z ti to i1 i2 a b):ti≠i1:=by have:=x.nd;simp_all
theorem zA.ti_i2 (x:zA z ti to i1 i2 a b):ti≠i2:=by have:=x.nd;simp_all
theorem Ao7 {Q:z_}(d:zA z j h r t a b) (y:ZipAt s.heap t1 t2 z j h r t a b .none k)
 (ha:SqA t1 s.heap a xs) (hb:SqA t2 s.heap b ys) (hx:xs[k]?=some x) (O:ys[k]?=some x')
 (q:∀h',ZipAt h' t1 t2 z j h r t a b (rawInt s.heap.objs.size) (k+1)->IsPair h' s.heap.objs.size x x'->(∀c o,c∉[z,j,h,r,t]->s.heap.get? c=some o->h'.get? c=some o)->Q (.ref s.heap.objs.size) { s with heap:=h' }) :
 wpAny (model P w) A (Builtin.«zip.__next__» ⟨[.ref z],[]⟩) (λf z=>∃v,f=.done (.ret v)/\Q v z) E s:=by
 obtain⟨u0,N,o0⟩:=y.outs;have S:=d.na;have I:=d.nb;simp only[aB,a_,bc,not_or]at S I;apply aj (m:=field (.ref z) 2);apply aY y.zip rfl (x:=.bool false) rfl;apply aj (m:=field (.ref z) 3);apply aY y.zip rfl (x:=.ref j) rfl;apply aj;apply cM y.ins rfl;apply aj (m:=Builtin.SmallTypes.ownedTupleIsFree (.ref z));unfold Builtin.SmallTypes.ownedTupleIsFree;apply aj;apply aY y.zip rfl (x:=.none) rfl;apply ak;simp only[c7];apply aj;apply cL;apply aj;apply aY y.zip rfl (x:=.ref h) rfl;apply aj
 apply eX y.zip (by simp)
 intro g1 L n;have L:IsZip g1 z j h .ellipsis:=L;apply aj;simp only[List.zipIdx_cons,List.zipIdx_nil,fU,iI];apply aj;apply aj;apply iJ;apply aj (m:=Builtin.SmallTypes.nextOf (.ref r))
 refine next_item (y.one.stay λo e=>n.extBut _ _ d.z_i1 e) (ha.stay λo e=>n.extBut _ _ S.1 e) hx λg2 n1 u=>?_
 apply ak;have V:IsPair g2 h u0 N:=u.extBut _ _ d.to_i1 (n.extBut _ _ d.z_to o0);apply aj;apply cM V rfl;apply aj;apply jl V;intro g3 R B;have R:IsPair g3 h x N:=R;apply aj;apply wpAny_letGo;apply ak;apply aj;apply aj;apply iJ;apply aj (m:=Builtin.SmallTypes.nextOf (.ref t))
 refine next_item (y.two.stay λo e=>B.extBut _ _ d.to_i2.symm (u.extBut _ _ d.i1_i2.symm (n.extBut _ _ d.z_i2 e))) (hb.stay λo e=>B.extBut _ _ I.2.2.1 (u.extBut _ _ I.2.2.2.1 (n.extBut _ _ I.1 e))) O λg4 n2 D=>?_
 apply ak;have U:IsPair g4 h x N:=D.extBut _ _ d.to_i2 R;apply aj;apply cM U rfl;apply aj;apply jl U;intro i K F;have K:IsPair i h x x':=K;apply aj;apply wpAny_letGo;apply ak;apply ak;apply aj;apply cM K rfl;apply aj
 refine wpAny_newTuple ?_
 have W:i.objs.size=s.heap.objs.size:=by rw[F.1,D.1,B.1,u.1,n.1]
 have l:∀c o,c≠z->c≠h->c≠r->c≠t->s.heap.get? c=some o->i.get? c=some o:=λc o p1 T p3 p4 e=>F.extBut _ _ T (D.extBut _ _ p4 (B.extBut _ _ T (u.extBut _ _ p3 (n.extBut _ _ p1 e))))
 have Y:IsZip i z j h .ellipsis:=F.extBut _ _ d.z_to.symm (D.extBut _ _ d.z_i2.symm (B.extBut _ _ d.z_to.symm (u.extBut _ _ d.z_i1.symm L)))
 have m1:ItAt t1 i r a (k+1):=n1.stay λo e=>F.extBut _ _ d.to_i1.symm (D.extBut _ _ d.i1_i2 (B.extBut _ _ d.to_i1.symm e))
 have m2:ItAt t2 i t b (k+1):=n2.stay λo e=>F.extBut _ _ d.to_i2.symm e
 apply aj (m:=Builtin.SmallTypes.ownedTupleHandOut (.ref z) (.ref i.objs.size));unfold Builtin.SmallTypes.ownedTupleHandOut;have z6:IsZip (i.push { cls:=.type "tuple",data:=.seq #[x,x'] }) z j h .ellipsis:=aC _ Y;apply aj
 apply eX z6 (by simp)
 intro g7 M X;have M:IsZip g7 z j h (rawInt i.objs.size):=M
 apply eX M (by simp)
 intro H J Z;have J:IsZip H z j h (rawInt i.objs.size):=J
 have g:∀c o,c≠z->i.get? c=some o->H.get? c=some o:=λc o p e=>Z.extBut _ _ p (X.extBut _ _ p (aC _ e))
 have G:z<i.objs.size:=az Y;have C:IsPair H i.objs.size x x':=Z.extBut _ _ (bQ G) (X.extBut _ _ (bQ G) (aJ _ rfl));rw[W]at J C;apply ak
 refine⟨_,rfl,?_⟩
 show Q (.ref i.objs.size) _
 rw[W]
 refine q H ⟨J,g _ _ d.z_ti (l _ _ d.z_ti d.ti_to d.ti_i1 d.ti_i2 y.ins),⟨x,x',g _ _ d.z_to K⟩,m1.stay λo e=>g _ _ d.z_i1 e,m2.stay λo e=>g _ _ d.z_i2 e⟩ C λc o p e=>?_
 simp at p
 exact g c o p.1 (l c o p.1 p.2.2.1 p.2.2.2.1 p.2.2.2.2 e)
theorem Aj2 (f:A.handled=none) (d:zA z l j v C a b) (y:ZipAt s.heap t1 t2 z l j v C a b .none k)
 (ha:SqA t1 s.heap a xs) (hb:SqA t2 s.heap b ys) (hx:xs[k]?=none\/ys[k]?=none)
 (q:∀h' e,(∀c o,c∉[z,l,j,v,C]->s.heap.get? c=some o->h'.get? c=some o)->(∃o,h'.get? e=some o/\o.cls=.type "StopIteration")->E (.ref e) { s with heap:=h' }) :
 wpAny (model P w) A (Builtin.«zip.__next__» ⟨[.ref z],[]⟩) F E s:=by
 obtain⟨T,V,S⟩:=y.outs;have I:=d.na;have B:=d.nb;simp only[aB,a_,bc,not_or]at I B;apply aj (m:=field (.ref z) 2);apply aY y.zip rfl (x:=.bool false) rfl;apply aj (m:=field (.ref z) 3);apply aY y.zip rfl (x:=.ref l) rfl;apply aj;apply cM y.ins rfl;apply aj (m:=Builtin.SmallTypes.ownedTupleIsFree (.ref z));unfold Builtin.SmallTypes.ownedTupleIsFree;apply aj;apply aY y.zip rfl (x:=.none) rfl;apply ak;simp only[c7];apply aj;apply cL;apply aj;apply aY y.zip rfl (x:=.ref j) rfl;apply aj
 apply eX y.zip (by simp)
 intro U u g;have u:IsZip U z l j .ellipsis:=u;apply aj;simp only[List.zipIdx_cons,List.zipIdx_nil,fU,iI];apply aj;apply aj;apply iJ;apply aj (m:=Builtin.SmallTypes.nextOf (.ref v))
 cases e1:xs[k]? with
 | none =>
  refine next_end f (y.one.stay λo e=>g.extBut _ _ d.z_i1 e) (ha.stay λo e=>g.extBut _ _ I.1 e) e1 λH x i K=>?_
  obtain⟨D,r,t⟩:=K;have Q:IsZip H z l j .ellipsis:=i _ _ d.z_i1.symm u
  have G:x≠z:=λe=>by subst e;rw[Q]at r;cases r;simp at t
  apply eX Q (by simp)
  intro N _ n
  refine q N x (λc o p e=>?_) ⟨D,n.extBut _ _ G r,t⟩
  simp only[aB,a_,bc,not_or]at p;exact n.extBut _ _ p.1 (i _ _ p.2.2.2.1 (g.extBut _ _ p.1 e))
 | some x =>
  have Y:ys[k]?=none:=by
   rcases hx with h | h
   ·rw[e1]at h;cases h
   ·exact h
  refine next_item (y.one.stay λo e=>g.extBut _ _ d.z_i1 e) (ha.stay λo e=>g.extBut _ _ I.1 e) e1 λH n1 i=>?_
  apply ak;have O:IsPair H j T V:=i.extBut _ _ d.to_i1 (g.extBut _ _ d.z_to S);apply aj;apply cM O rfl;apply aj;apply jl O;intro N Z n;apply aj;apply wpAny_letGo;apply ak;apply aj;apply aj;apply iJ;apply aj (m:=Builtin.SmallTypes.nextOf (.ref C))
  refine next_end f (y.two.stay λo e=>n.extBut _ _ d.to_i2.symm (i.extBut _ _ d.i1_i2.symm (g.extBut _ _ d.z_i2 e))) (hb.stay λo e=>n.extBut _ _ B.2.2.1 (i.extBut _ _ B.2.2.2.1 (g.extBut _ _ B.1 e))) Y λW x M J=>?_
  obtain⟨D,r,t⟩:=J;have R:IsZip W z l j .ellipsis:=M _ _ d.z_i2.symm (n.extBut _ _ d.z_to.symm (i.extBut _ _ d.z_i1.symm u))
  have G:x≠z:=λe=>by subst e;rw[R]at r;cases r;simp at t
  apply eX R (by simp)
  intro X _ L
  refine q X x (λc o p e=>?_) ⟨D,L.extBut _ _ G r,t⟩
  simp only[aB,a_,bc,not_or]at p;exact L.extBut _ _ p.1 (M _ _ p.2.2.2.2 (n.extBut _ _ p.2.2.1 (i.extBut _ _ p.2.2.2.1 (g.extBut _ _ p.1 e))))
end
section
variable {X:Cx}{pins:y_}{σ:St}{H:Hp}{s:u_}{h':Heap}
theorem Inv.turnLay {ch:v6}{p:Addr}{o:HO}{t':Nat}(I:Inv X pins σ H s)(hf:∀b∈ch,Lh X pins H b)(k:∀b u,b∉ch->s.heap.get? b=some u->h'.get? b=some u)(hp:s.heap.objs.size<=p)(w:zB X.prog X.w (upd H p o) h' p o) :
 Inv X pins σ (upd H p o) { s with heap:=h',toks:=t' }:=by
 have g:H p=none:=I.hok.fresh hp
 have t:∀b u,H b=some u->b∉ch:=λb u e z=>by rw[(hf b z).1]at e;grind
 have d:∀b u,H b=some u->b≠p:=λb u e=>Bb e g
 have h:∀b u,s.heap.get? b=some u->b≠p:=λb u e z=>absurd (az e) (by simp_all)
 refine I.step (g':=s.gens) (d':=s.drawn) (ch:=ch) (λb f=>?_) (λb u _ _ a e _=>k b u a e) (λb u _ _ a e _=>⟨u.slots,k b u a e⟩) (λb u _ e n=>?_) (λb u a e=>⟨u,k b u a e⟩)
  (λb i e=>?_) (λb o u e=>?_) (λb B e=>?_) (λm x=>?_) (λb u e=>?_) I.bare
 ·obtain⟨F,G,J,C,D,E⟩:=hf b f
  grind
 ·rw[Ag (h b u e)];grind
 ·rw[Ag (d b _ e)];grind
 ·rw[Ag (d b _ e)];lia
 ·rw[Ag (d b _ e)];grind
 ·obtain⟨j,y,A,l,r⟩:=x
  exact⟨j,y,A,k _ _ (λz=>(hf _ z).2.1 rfl) l,r⟩
 ·by_cases f:b=p
  ·subst f;rw[Ax]at e;grind
  ·rw[Ag f]at e
   refine (I.hok b u e).stay (λc v a q=>k c v ?_ q) λc q=>by rw[Ag (d c _ q)];grind λc i q=>by rw[Ag (d c _ q)];grind λc j i q=>by rw[Ag (d c _ q)];grind
   grind
theorem Inv.turnL {ch:v6}{t':Nat}(I:Inv X pins σ H s)(hf:∀b∈ch,Lh X pins H b)(k:∀b u,b∉ch->s.heap.get? b=some u->h'.get? b=some u):Inv X pins σ H { s with heap:=h',toks:=t' }:=by
 have g:∀b u,H b=some u->b∉ch:=λb u e z=>by rw[(hf b z).1]at e;grind
 refine I.step (λb f=>?_) (λb u _ _ a e _=>k b u a e) (λb u _ _ a e _=>⟨u.slots,k b u a e⟩) (λb u _ e n=>n) (λb u a e=>⟨u,k b u a e⟩)
  (λb i e=>e) (λb o u e=>e) (λb t e=>e) (λm j=>?_) (λb u e=>?_) I.bare
 ·obtain⟨A,B,C,w,x,y⟩:=hf b f
  grind
 ·obtain⟨h,l,p,d,r⟩:=j
  exact⟨h,l,p,k _ _ (λz=>(hf _ z).2.1 rfl) d,r⟩
 ·refine (I.hok b u e).stay (λc v a q=>k c v ?_ q) (λc q=>q) λc i q=>q
  grind
end
def SqK (t:Bool)(H:Hp)(a:Addr)(xs:n_):Prop:=match t with
 | true=>H a=some (.tup xs)
 | false=>H a=some (.lst xs)
theorem SqK.one (x:SqK t H a xs) (y:SqK t H a ys):xs=ys:=by
 cases t
 ·have y:H a=some _:=y
  rw[x]at y;cases y;rfl
 ·have y:H a=some _:=y
  rw[x]at y;cases y;rfl
theorem SqK.some (x:SqK t H a xs):∃o,H a=some o:=by
 cases t
 ·exact⟨_,x⟩
 ·exact⟨_,x⟩
theorem SqK.its (I:Inv X pins d H s) (x:SqK t H a xs):∃b:w6,Vals xs b/\SqA t s.heap a b.toArray:=by
 cases t
 ·obtain⟨b,c,p,_⟩:=I.list (SqL.of x)
  exact⟨b,c,p.isList⟩
 ·obtain⟨b,c,p,_⟩:=I.tuple (SqT.of x)
  exact⟨b,c,(show s.heap.IsTuple a _ from p)⟩
def Itz (t1 t2:Bool)(a b:Addr):It :=
 ⟨
  λi H=>∃xs ys x y,SqK t1 H a xs/\SqK t2 H b ys/\xs[i]?=some x/\ys[i]?=some y,
  λi H v H'=>∃p x y,v=.ref p/\H p=none/\H'=upd H p (.tup [x,y])/\(∀xs,SqK t1 H a xs->xs[i]?=some x)/\∀ys,SqK t2 H b ys->ys[i]?=some y,
  λi H=>∃xs ys,SqK t1 H a xs/\SqK t2 H b ys/\(xs.length<=i\/ys.length<=i)⟩
theorem A9x {P:u6}{w:World}{K:v9}{t1 t2:Bool}{elts:v_}{kk:Nat}{pos:Pos}{z ti to i1 i2 a b:Addr}(nd:[z,ti,to,i1,i2].Nodup) :
 Turn P w K (.Tuple elts kk pos) (Itz t1 t2 a b) [z,ti,to,i1,i2] z (λi h=>ZipAt h t1 t2 z ti to i1 i2 a b .none i) where
 mem:=by simp
 obj:=λi h st c hc=>by
  simp only[aB,a_,bc]at hc
  rcases hc with rfl | rfl | rfl | rfl | rfl
  ·exact⟨_,st.zip,λv e=>by cases e⟩
  ·exact⟨_,st.ins,λv e=>by cases e⟩
  ·obtain⟨u,v,e⟩:=st.outs;exact⟨_,e,λv e=>by cases e⟩
  ·obtain⟨o,e,q⟩:=st.one.obj;exact⟨o,e,λv e=>by rw[q]at e;cases e⟩
  ·obtain⟨o,e,q⟩:=st.two.obj;exact⟨o,e,λv e=>by rw[q]at e;cases e⟩
 keep:=λi h h' st k=>by
  obtain⟨u,v,e⟩:=st.outs
  exact⟨k z (by simp) _ st.zip,k ti (by simp) _ st.ins,⟨u,v,k to (by simp) _ e⟩,st.one.stay λo e=>k i1 (by simp) o e,st.two.stay λo e=>k i2 (by simp) o e⟩
 item:=by
  intro X hP hw hK hc i pins s σ H E I hf st hg;subst hP hw hK;obtain⟨xs,ys,x,y,ha,hb,hx,hy⟩:=hg;obtain⟨its,rv,pa⟩:=ha.its I;obtain⟨jts,rw',pb⟩:=hb.its I;obtain⟨u,hu,ru⟩:=rv.get hx;obtain⟨v,hv,rv'⟩:=rw'.get hy
  have off:zA z ti to i1 i2 a b:=⟨nd,λm=>by (obtain⟨o,e⟩:=ha.some;rw[(hf a m).1]at e;cases e),λm=>by (obtain⟨o,e⟩:=hb.some;rw[(hf b m).1]at e;cases e)⟩
  have ty:s.TypeIs (.ref z) "zip" := ⟨_,st.zip,rfl⟩;unfold pyNext;apply aj;apply cN
  refine cj (name:="__next__") ty dI ?_
  refine bB dI ty iK ?_ (iM _)
  refine Ao7 off st pa pb (x:=u) (x':=v) (by simpa using hu) (by simpa using hv) λh1 z1 new kp=>?_
  refine ak ⟨_,rfl,?_⟩
  apply wpAny_letOwnedTupleGo_zip z1.zip;intro h2 z2 sb;have nz:s.heap.objs.size≠z:=bQ (az st.zip);have new2:IsPair h2 s.heap.objs.size u v:=sb.extBut _ _ nz new
  have ok:zB X.prog X.w (upd H s.heap.objs.size (.tup [x,y])) h2 s.heap.objs.size (.tup [x,y]):=⟨(show 2<=sizeLine by decide),[u,v],.cons ru (.cons rv' .nil),⟨_,new2,rfl,⟨_,rfl⟩,rfl⟩⟩
  have I2:=I.turnLay (t':=s.toks) hf (h':=h2) (λc o m e=>sb.extBut _ _ (λe=>m (by simp[e])) (kp c o m e)) (au _) ok
  obtain⟨u1,v1,e1⟩:=z1.outs;have zf:H s.heap.objs.size=none:=I.hok.fresh (au _)
  refine⟨.ref s.heap.objs.size,_,I2,rfl,⟨_,x,y,rfl,zf,rfl,λxs' h=>?_,λys' h=>?_⟩,?_,λc hc=>?_⟩
  ·rw[h.one ha];exact hx
  ·rw[h.one hb];exact hy
  ·exact⟨z2,sb.extBut _ _ off.z_ti z1.ins,⟨u1,v1,sb.extBut _ _ off.z_to e1⟩,z1.one.stay λo e=>sb.extBut _ _ off.z_i1 e,z1.two.stay λo e=>sb.extBut _ _ off.z_i2 e⟩
  ·have lt:c<s.heap.objs.size:=by
    simp only[aB,a_,bc]at hc
    rcases hc with rfl | rfl | rfl | rfl | rfl
    ·exact az st.zip
    ·exact az st.ins
    ·obtain⟨_,_,e⟩:=st.outs;exact az e
    ·obtain⟨o,e,q⟩:=st.one.obj;exact az e
    ·obtain⟨o,e,q⟩:=st.two.obj;exact az e
   rw[Ag (aP lt)];exact(hf c hc).1
 done:=by
  intro X hP hw hK hc i pins s σ H E I hf st hg;subst hP hw hK;obtain⟨xs,ys,ha,hb,hl⟩:=hg;obtain⟨its,rv,pa⟩:=ha.its I;obtain⟨jts,rw',pb⟩:=hb.its I
  have off:zA z ti to i1 i2 a b:=⟨nd,λm=>by (obtain⟨o,e⟩:=ha.some;rw[(hf a m).1]at e;cases e),λm=>by (obtain⟨o,e⟩:=hb.some;rw[(hf b m).1]at e;cases e)⟩
  have ty:s.TypeIs (.ref z) "zip" := ⟨_,st.zip,rfl⟩;have l1:=rv.length;have l2:=rw'.length;unfold pyNext;apply aj;apply cN
  refine cj (name:="__next__") ty dI ?_
  refine bB dI ty iK ?_ (iM _)
  refine Aj2 (I.ok.hd hc) off st pa pb (by simp;lia) λh1 e kp he=>?_
  obtain⟨o,e1,e2⟩:=he;apply aj
  refine cY (T := "StopIteration") (b:=true) ⟨o,e1,e2⟩ eY ?_
  exact ak ⟨rfl,I.turnL (t':=s.toks) hf λc o m e=>kp c o m e⟩
 self:=λ_ _ _ _ _ st h=>jm st.zip h
section
variable {P:u6}{w:World}{A:t_}{E:z_}{s:u_}
noncomputable abbrev itO (t:Bool) (u:Addr):Obj:={ cls:=.type (if t then "tuple_iterator" else "list_iterator"),data:=.fields #[.ref u,.int 0 0] }
abbrev zh1 (h:Heap)(t1:Bool)(a:Addr):Heap:=h.push (itO t1 a)
abbrev zh2 (h:Heap)(t1 t2:Bool)(a b:Addr):Heap:=(zh1 h t1 a).push (itO t2 b)
abbrev zh3 (h:Heap)(t1 t2:Bool)(a b:Addr):Heap:=(zh2 h t1 t2 a b).push { cls:=.type "tuple",data:=.seq #[.ref h.objs.size,.ref (zh1 h t1 a).objs.size] }
abbrev zh4 (h:Heap)(t1 t2:Bool)(a b:Addr):Heap:=(zh3 h t1 t2 a b).push { cls:=.type "tuple",data:=.seq #[.none,.none] }
abbrev zh5 (h:Heap)(t1 t2:Bool)(a b:Addr):Heap:=(zh4 h t1 t2 a b).push { cls:=.type "zip",data:=.fields #[.none,.bool false,.bool false,.ref (zh2 h t1 t2 a b).objs.size,.ref (zh3 h t1 t2 a b).objs.size] }
theorem A9z (t1 t2:Bool)(a b:Addr)(xs ys:v7) :
 Meets (Builtin.«zip.__new__» ⟨[.type "zip",.ref a,.ref b],[]⟩) (λ_ R s=>SqA t1 s.heap a xs/\SqA t2 s.heap b ys/\R (.ok (.ret (.ref (zh4 s.heap t1 t2 a b).objs.size))) { s with heap:=zh5 s.heap t1 t2 a b }) :=
 .of_wp λP w A R s h=>by
  obtain⟨e,g,d,c,f⟩:=s;obtain⟨k,l,h⟩:=h;have m:=sub_zip
  cases t1 <;> cases t2
  ·have j:Heap.IsList (Shared.heap ⟨e,g,d,c,f⟩) a xs:=k
   have i:Heap.IsList (Shared.heap ⟨e.push { cls:=.type "list_iterator",data:=.fields #[.ref a,.int 0 0] },g,d,c,f⟩) b ys:=Heap.IsList.push l _
   wp_walk using fW j,fW i
   exact⟨_,rfl,h⟩
  ·have j:Heap.IsList (Shared.heap ⟨e,g,d,c,f⟩) a xs:=k
   have i:Heap.IsTuple (Shared.heap ⟨e.push { cls:=.type "list_iterator",data:=.fields #[.ref a,.int 0 0] },g,d,c,f⟩) b ys:=Heap.IsTuple.push l _
   wp_walk using fW j,dH i
   exact⟨_,rfl,h⟩
  ·have j:Heap.IsTuple (Shared.heap ⟨e,g,d,c,f⟩) a xs:=k
   have i:Heap.IsList (Shared.heap ⟨e.push { cls:=.type "tuple_iterator",data:=.fields #[.ref a,.int 0 0] },g,d,c,f⟩) b ys:=Heap.IsList.push l _
   wp_walk using dH j,fW i
   exact⟨_,rfl,h⟩
  ·have j:Heap.IsTuple (Shared.heap ⟨e,g,d,c,f⟩) a xs:=k
   have i:Heap.IsTuple (Shared.heap ⟨e.push { cls:=.type "tuple_iterator",data:=.fields #[.ref a,.int 0 0] },g,d,c,f⟩) b ys:=Heap.IsTuple.push l _
   wp_walk using dH j,dH i
   exact⟨_,rfl,h⟩
theorem At4 (e:h.get? j=some (itO t u)):ItAt t h j u 0:=by
 cases t
 ·exact⟨_,e,rfl,rfl⟩
 ·exact⟨_,e,rfl,rfl⟩
theorem Wj (t:SqA t1 s.heap a xs) (u:SqA t2 s.heap b ys)
 (q:∀h',ZipAt h' t1 t2 (s.heap.objs.size+4) (s.heap.objs.size+2) (s.heap.objs.size+3) s.heap.objs.size (s.heap.objs.size+1) a b .none 0->(∀c o,s.heap.get? c=some o->h'.get? c=some o)->Q (.ref (s.heap.objs.size+4)) { s with heap:=h' }) :
 wpAny (model P w) A (call (.type "zip") [.ref a,.ref b]) Q E s:=by
 apply callType_new F.called_zip (by decide) (F.typeCall_zip_2 _ _) (F.newCall_zip_2 _ _) (λo=>F.args_object_init_3 o _ _) F.entry_zip_new (A9z t1 t2 a b xs ys)
 refine⟨t,u,?_⟩
 have i:(zh1 s.heap t1 a).objs.size=s.heap.objs.size+1:=cz ..
 have g:(zh2 s.heap t1 t2 a b).objs.size=s.heap.objs.size+2:=by rw[cz,i]
 have f:(zh3 s.heap t1 t2 a b).objs.size=s.heap.objs.size+3:=by rw[cz,g]
 have k:(zh4 s.heap t1 t2 a b).objs.size=s.heap.objs.size+4:=by rw[cz,f]
 have d:=λ{h:Heap} {c:Addr} {o:Obj} (n:Obj) (e:h.get? c=some o)=>aC n e
 have j:(zh5 s.heap t1 t2 a b).get? (zh4 s.heap t1 t2 a b).objs.size=some _:=aJ _ rfl;have m:(zh5 s.heap t1 t2 a b).get? (zh3 s.heap t1 t2 a b).objs.size=some _:=d _ (aJ _ rfl);have l:(zh5 s.heap t1 t2 a b).get? (zh2 s.heap t1 t2 a b).objs.size=some _:=d _ (d _ (aJ _ rfl));have p:(zh5 s.heap t1 t2 a b).get? (zh1 s.heap t1 a).objs.size=some _:=d _ (d _ (d _ (aJ _ rfl)));have r:(zh5 s.heap t1 t2 a b).get? s.heap.objs.size=some _:=d _ (d _ (d _ (d _ (aJ _ rfl))));rw[g,f,k]at j;rw[i,g]at l;rw[f]at m;rw[i]at p;rw[k]
 exact⟨⟨_,j,rfl⟩,q _ ⟨j,l,⟨_,_,m⟩,At4 r,At4 p⟩ λc o e=>d _ (d _ (d _ (d _ (d _ e))))⟩
end
theorem Za:bootBuiltins "zip" = some (.type "zip"):=by decide +kernel
section
variable {X:Cx}
def B3o (ta:TA):TI:=λσ H R=>ta σ H λvs H1=>∃a b,vs=[.ref a,.ref b]/\∃t1 t2 xs ys,SqK t1 H1 a xs/\SqK t2 H1 b ys/\R (Itz t1 t2 a b) H1
theorem Ay5 {p j e:Pos}{f:v_}{t:Nat}(hg:Gl X "zip") (hm:X.mg "zip" = none) (ha:QA X [a,b] m) (hs1:isStar a=false:=by rfl) (hs2:isStar b=false:=by rfl) :
 QI X (.Tuple f t e) (.Call (.Name "zip" p) [a,b] [] j) (B3o m):=by
 refine⟨?_⟩
 intro l s σ H R I h;have i:=Fd (es:=[b]) (env:=X.env) hs1
 refine Call_ (Ld I hg hm Za (dX (thn (ha.1 _ _ s _ H _ I h) λus d ⟨vs,r,g,u,v⟩=>?_) i (by rw[(Fd (es:=[]) (env:=X.env) hs2)];rfl)))
 obtain⟨a',b',rfl,t1,t2,xs,ys,y,o,q⟩:=v;obtain⟨z,A,rfl,B,x⟩:=Vals.two u
 cases (show z=Value.ref _ from B)
 cases (show A=Value.ref _ from x)
 obtain⟨C,rv,w⟩:=y.its g;obtain⟨E,F,D⟩:=o.its g
 refine Wj w D λh' n G=>?_
 apply jm n.zip
 have J:[d.heap.objs.size+4,d.heap.objs.size+2,d.heap.objs.size+3,d.heap.objs.size,d.heap.objs.size+1].Nodup:=by simp
 refine⟨_,_,_,_,r,rfl,g.kept G,A9x J,n,λc hc=>?_,q⟩
 have k:d.heap.objs.size<=c:=by
  grind
 exact g.fpOk k (g.hok.fresh k)
end
def Bu1:R2:=λx y H Q=>∃a b xs ys,x=.ref a/\y=.ref b/\H a=some (.tup xs)/\H b=some (.tup ys)/\xs.length+ys.length<=sizeLine/\∀p H',Same H H'->H' p=some (.tup (xs++ys))->Q (.ref p) H'
section
variable {X:Cx}
theorem Bp (h:H p=none) (o:HO):Same H (upd H p o):=λb u e=>by rw[Ag (Bb e h)];grind
theorem Bn7:OpR X (binaryOp .Add) Bu1:=by
 intro d s σ H x y v u Q I i f h;obtain⟨a,b,g,E,rfl,rfl,j,c,n,q⟩:=h
 by_cases e:g=[]
 ·cases i
  cases f
  subst e;obtain⟨o,r,t,_⟩:=I.tuple (SqT.of j);obtain⟨w,r2,A,_⟩:=I.tuple (SqT.of c);have C := r.nil_iff.mpr rfl;subst C;obtain⟨⟨c1,d1,D,s1⟩,k,F,n1,z⟩:=id t;obtain⟨⟨c2,d2,B,s2⟩,l,J,n2,G⟩:=id A;subst F z J G
  exact concat_meets ⟨_,k,rfl⟩ ⟨_,l,rfl⟩ jb seq_tuple_add jc jd (je _ _)
   (tuple_addW0 a b _ _ _ _ _ _ _ _ (by simp)) ⟨k,l,⟨.ref b,H,I,rfl,q b H (λ_ _ e=>e) c⟩⟩
 ·refine Br2 _ s _ H _ _ v u Q I i f ⟨a,b,g,E,rfl,rfl,SqT.of j,SqT.of c,e,n,λK=>?_,λK p m=>?_⟩
  ·exact q a H (λ_ _ e=>e) (by simp_all)
  ·exact q p _ (Bp m _) Ax
end
section
variable {P:u6}{w:World}{A:t_}{E:z_}{s:u_}
theorem B0j (quiet:A.handled=none)(t:Bool)(j u:Addr)(ne:u≠j)(vs:v7):Draws P w A j [j,u] vs.size (λi v=>vs[i]?=some v) (λi h=>ItAt t h j u i/\SqA t h u vs) where
 live:=λi h x=>let ⟨o,e,_⟩:=x.1.obj; ⟨o,e⟩
 frame:=λi h h' x k=>⟨x.1.stay λo e=>k j (by simp) o e,x.2.stay λo e=>k u (by simp) o e⟩
 item:=λi s Q E hi x q=>next_item x.1 x.2 (x:=vs[i]) (by simp[hi]) λh' a b=>q _ h' s.toks (by simp[hi]) ⟨a,x.2.stay λo e=>b.extBut _ _ ne e⟩ b
 done:=λs Q E x q=>next_end quiet x.1 x.2 (by simp) q
theorem Ax8 (u:Addr)(vs:v7)(n:Nat)(b:Option Addr)(l:Array (u9)) :
 Meets (Builtin.«enumerate.__new__» ⟨[.type "enumerate",.ref u],[]⟩) (λ_ R s=>s.heap.get? u=some { cls:=.type "tuple",dict:=b,data:=.seq vs n,slots:=l } /\
  R (.ok (.ret (.ref (s.heap.push (itO true u)).objs.size))) { s with heap:=(s.heap.push (itO true u)).push { cls:=.type "enumerate",data:=.fields #[.none,.bool false,.ref s.heap.objs.size,rawInt 0,.none,.none] } }) :=
 .of_wp λP w A R s h=>by
  obtain⟨i,g,d,f,k⟩:=s;obtain⟨e,h⟩:=h;have j:=sub_enumerate;have a:Heap.IsTuple (Shared.heap ⟨i,g,d,f,k⟩) u vs:=⟨_,e,rfl,n,rfl⟩
  wp_walk using iQ e
  refine wpAny_stack_any λm=>ak ?_
  split
  ·rename_i c _ _ _ _ _
   cases (c==Value.type "enumerate")
   ·wp_walk using iQ e,dH a
    exact⟨_,rfl,h⟩
   ·wp_walk using iQ e,dH a
    exact⟨_,rfl,h⟩
  ·wp_walk using iQ e,dH a
   exact⟨_,rfl,h⟩
theorem Ak5 (p:SqA t s.heap u vs)
 (q:∀f,IsEnum f (s.heap.objs.size+1) s.heap.objs.size 0 .none->ItAt t f s.heap.objs.size u 0->(∀c o,s.heap.get? c=some o->f.get? c=some o)->Q (.ref (s.heap.objs.size+1)) { s with heap:=f }) :
 wpAny (model P w) A (call (.type "enumerate") [.ref u]) Q E s:=by
 cases t
 ·exact call_enumerate_list p λf a b c d=>q f a b d
 ·obtain⟨⟨c,i,m,l⟩,e,k,n,g⟩:=p
  simp only at k g;subst k g
  apply callType_new F.called_enumerate (by decide) (F.typeCall_enumerate_1 _) (F.newCall_enumerate_1 _) (λo=>jn o _) F.entry_enumerate_new (Ax8 u vs n i l)
  refine⟨e,?_⟩
  have j:(s.heap.push (itO true u)).objs.size=s.heap.objs.size+1:=cz ..;have h:IsEnum ((s.heap.push (itO true u)).push { cls:=.type "enumerate",data:=.fields #[.none,.bool false,.ref s.heap.objs.size,rawInt 0,.none,.none] }) (s.heap.push (itO _ u)).objs.size _ 0 _:=aJ _ rfl;rw[j]at h;rw[j]
  exact⟨⟨_,h,rfl⟩,q _ h (At4 (aC _ (aJ _ rfl))) λc o x=>aC _ (aC _ x)⟩
end
def Ite (t:Bool)(a:Addr):It :=
 ⟨
  λi H=>∃xs x,SqK t H a xs/\xs[i]?=some x,
  λi H v H'=>∃p x,v=.ref p/\H p=none/\H'=upd H p (.tup [.int i,x])/\∀xs,SqK t H a xs->xs[i]?=some x,
  λi H=>∃xs,SqK t H a xs/\xs.length<=i⟩
theorem A5z {P:u6}{w:World}{K:v9}{t:Bool}{elts:v_}{kk:Nat}{pos:Pos}{e j a:Addr}(ne:e≠j) :
 Turn P w K (.Tuple elts kk pos) (Ite t a) [e,j] e (λi h=>(∃old,IsEnum h e j i old)/\ItAt t h j a i) where
 mem:=by simp
 obj:=λi h st c hc=>by
  simp only[aB,a_,bc]at hc
  rcases hc with rfl | rfl
  ·obtain⟨old,q⟩:=st.1;exact⟨_,q,λv e=>by cases e⟩
  ·obtain⟨o,e,q⟩:=st.2.obj;exact⟨o,e,λv e=>by rw[q]at e;cases e⟩
 keep:=λi h h' st k=>by
  obtain⟨⟨old,q⟩,r⟩:=st
  exact⟨⟨old,k e (by simp) _ q⟩,r.stay λo e=>k j (by simp) o e⟩
 item:=by
  intro X hP hw hK hc i pins s σ H E I hf st hg;subst hP hw hK;obtain⟨xs,x,ha,hx⟩:=hg;obtain⟨⟨old,en⟩,it⟩:=st;obtain⟨its,rv,pa⟩:=ha.its I;obtain⟨u,hu,ru⟩:=rv.get hx
  have off:∀c∈[e,j],a≠c:=λc m z=>by obtain⟨o,q⟩:=ha.some;rw[z,(hf c m).1]at q;cases q
  have dr:=B0j (P:=X.prog) (w:=X.w) (A:=X.A.in1) (I.ok.hd hc) t j a (off j (by simp)) its.toArray
  have li:i<its.toArray.size:=by simpa using (bG.mp hu).1
  refine wpAny_pyNext_enum_itemD dr en ⟨it,pa⟩ li ne (by simp;exact⟨ne,λz=>off e (by simp) z.symm⟩) λu' h1 tk pu ou st1 new _ kp=>?_
  have eu:u'=u:=by
   have pu:its.toArray[i]?=some u':=pu;rw[List.getElem?_toArray,hu]at pu;cases pu;rfl
  subst eu
  refine⟨_,rfl,?_⟩
  apply wpAny_letOwnedTupleGo_enum ou;intro h2 en2 sb
  have lt:∀c∈[e,j],c<s.heap.objs.size:=λc m=>by
   simp only[aB,a_,bc]at m
   rcases m with rfl | rfl
   ·exact az en
   ·obtain⟨o,e,_⟩:=it.obj;exact az e
  have new2:h2.get? s.heap.objs.size=some { cls:=.type "tuple",data:=.seq #[.int i tk,u'] }:=sb.extBut _ _ (bQ (lt e (by simp))) new
  have ok:zB X.prog X.w (upd H s.heap.objs.size (.tup [.int i,x])) h2 s.heap.objs.size (.tup [.int i,x]):=⟨(show 2<=sizeLine by decide),[.int i tk,u'],.cons ⟨tk,rfl⟩ (.cons ru .nil),⟨_,new2,rfl,⟨_,rfl⟩,rfl⟩⟩
  have I2:=I.turnLay (t':=tk+1) hf (h':=h2) (λc o m q=>sb.extBut _ _ (λz=>m (by simp[z])) (kp c o (λz=>m (by simp[z])) (λz=>m (by simp[z])) q)) (au _) ok
  refine⟨.ref s.heap.objs.size,_,I2,rfl,⟨_,x,rfl,I.hok.fresh (au _),rfl,λxs' h=>?_⟩,⟨⟨u',?_⟩,?_⟩,λc m=>?_⟩
  ·rw[h.one ha];exact hx
  ·have:IsEnum h2 e j ((i:Int)+1) u':=en2
   simpa using this
  ·exact st1.1.stay λo q=>sb.extBut _ _ (aD ne) q
  ·rw[Ag (aP (lt c m))]
   exact(hf c m).1
 done:=by
  intro X hP hw hK hc i pins s σ H E I hf st hg;subst hP hw hK;obtain⟨xs,ha,hl⟩:=hg;obtain⟨⟨old,en⟩,it⟩:=st;obtain⟨its,rv,pa⟩:=ha.its I
  have off:∀c∈[e,j],a≠c:=λc m z=>by obtain⟨o,q⟩:=ha.some;rw[z,(hf c m).1]at q;cases q
  have ty:s.TypeIs (.ref e) "enumerate" := ⟨_,en,rfl⟩;have ln:=rv.length;unfold pyNext;apply aj;apply cN
  refine cj (name:="__next__") ty F.slot_enumerate_next ?_
  refine bB F.slot_enumerate_next ty F.entry_enumerate_next ?_ (F.args_enumerate_next_1 _)
  apply aj (m:=field (.ref e) 2);apply aY en rfl (x:=.ref j) rfl;apply aj
  refine next_end (I.ok.hd hc) it pa (by simp;lia) λh1 x kp hx=>?_
  obtain⟨o,e1,e2⟩:=hx;apply aj
  refine cY (T := "StopIteration") (b:=true) ⟨o,e1,e2⟩ eY ?_
  exact ak ⟨rfl,I.turnL (t':=s.toks) hf λc o m q=>kp c o (λz=>m (by simp[z])) q⟩
 self:=λ_ _ _ _ _ st h=>let ⟨_,q⟩:=st.1;wpAny_pyIter_enum q h
theorem Ay0:bootBuiltins "enumerate" = some (.type "enumerate"):=by decide +kernel
section
variable {X:Cx}
def Bt9 (ta:TA):TI:=λσ H R=>ta σ H λvs H1=>∃a,vs=[.ref a]/\∃t xs,SqK t H1 a xs/\R (Ite t a) H1
theorem Bi3 (hg:Gl X "enumerate") (hm:X.mg "enumerate" = none) (ha:QA X [a] i) (hs1:isStar a=false:=by rfl) :
 QI X (.Tuple d v b) (.Call (.Name "enumerate" p) [a] [] f) (Bt9 i):=by
 refine⟨?_⟩
 intro j s σ H R I h
 refine Call_ (Ld I hg hm Ay0 (dX (thn (ha.1 _ _ s _ H _ I h) λus x ⟨vs,o,e,r,u⟩=>?_) (Fd (es:=[]) (env:=X.env) hs1) rfl))
 obtain⟨a',rfl,t,xs,l,q⟩:=u;obtain⟨w,rfl,m⟩:=vals1 r
 cases (show w=Value.ref _ from m)
 obtain⟨n,rv,y⟩:=l.its e
 refine Ak5 y λh' k z A=>?_
 apply wpAny_pyIter_enum k
 refine⟨_,_,_,_,o,rfl,e.kept A,A5z (bQ (eO _)),⟨⟨_,k⟩,z⟩,λc hc=>?_,q⟩
 have g:x.heap.objs.size<=c:=by
  grind
 exact e.fpOk g (e.hok.fresh g)
end
section
variable {X:Cx}
def Bt4 (i j k:Nat)(ta:TA):TS:=λD σ H=>ta σ H λvs H1=>∃v w y,vs=[v,w,y]/\D.nx (((σ.set i (some v)).set j (some w)).set k (some y)) H1
theorem Bp9 {i j k:Nat}{x y z:Str}{a b c:Expr}{M:TA}{t r B u:Pos}{C k2 f}(hc:X.calm=true)(hN:X.N.Nodup)(hi:X.N[i]?=some x)(hj:X.N[j]?=some y)(hk:X.N[k]?=some z)(hij:i≠j)(hik:i≠k)(hjk:j≠k)
 (hx:X.env.scope.names.lookup x=some .local) (hy:X.env.scope.names.lookup y=some .local) (hz:X.env.scope.names.lookup z=some .local) (ha:QA X [a,b,c] M)
 (hw:swappedStores [.Tuple [.Name x t,.Name y r,.Name z B] C u] (.Tuple [a,b,c] k2 f) X.env=pure (some [x,y,z]))
 (hs:swapsWithSole [.Tuple [.Name x t,.Name y r,.Name z B] C u] (.Tuple [a,b,c] k2 f) pos.line X.env=pure false:=by rfl) :
 QS X (.Assign [.Tuple [.Name x t,.Name y r,.Name z B] C u] (.Tuple [a,b,c] k2 f) pos) (Bt4 i j k M):=by
 refine⟨?_⟩
 intro d s N H D I h;rw[exec_Assign_arm]
 refine aj (fM ?_)
 rw[hs]
 refine aj (ak ?_)
 rw[if_neg (by decide)]
 refine aj (Tuple_ (thn (ha.1 _ d s N H _ I h) λW g ⟨vs,L,R,V,A⟩=>?_))
 obtain⟨v,w,y',P,A⟩:=A;subst P
 obtain⟨n,m,l,rfl,Q,F,S⟩:∃n m l,W=[n,m,l]/\RelV v n/\RelV w m/\RelV y' l:=by
  cases V with
  | cons p q =>
   cases q with
   | cons T U =>
    cases U with
    | cons E G =>
     cases G
     exact⟨_,_,_,rfl,p,T,E⟩
 refine bO ?_ (by show 3<=sizeLine;decide)
 have Y:Inv X d N L { g with heap:=g.heap.push { cls:=.type "tuple",data:=.seq [n,m,l].toArray } }:=R.kept (t':=g.toks) λb o e=>aC _ e
 rw[hw]
 refine aj (ak ?_)
 show wpAny (model X.prog X.w) X.A (do rule "assign.swapped-stores";let items <- unpackItems (.ref g.heap.objs.size) 3 none;assignInOrder [λv=>bindName X.env z v,λv=>bindName X.env y v,λv=>bindName X.env x v] items.reverse;pure Flow.next) _ _ _
 refine aj (cL (aj (unpackItems_tuple (items:=#[n,m,l]) (I.ok.hd hc) (IsTup.new g.heap _) λO J=>?_)))
 show wpAny _ _ (assignInOrder [λv=>bindName X.env z v,λv=>bindName X.env y v,λv=>bindName X.env x v] [l,m,n] >>= λ_=>pure Flow.next) _ _ _
 refine aj (fL (gw (Gx (Y.kept (h':=O) (t':=g.toks) λb o e=>J b o (aP (az e)) e) hN hk (.inl hz) S (λs2 Z=>?_) (.inr hz))))
 refine fL (gw (Gx Z hN hj (.inl hy) F (λs3 I5=>?_) (.inr hy)))
 refine fL (gw (Gx I5 hN hi (.inl hx) Q (λs4 K=>j8 (ak ?_)) (.inr hx)))
 rw[iu _ _ (aD hij),iu _ _ (aD hik),iu _ _ (aD hjk)]at K;exact⟨_,L,K,A⟩
end
section
variable {X:Cx}{a b:Expr}{ta tb:TE}{pos:Pos}
def Bv9 (neg:Bool):R2:=λx y H Q=>∃d ds,Tr H d x/\(Tr H (.list ds) y\/Tr H (.tuple ds) y)/\Flat d/\PyData.canLayAll0 ds=true/\Q (.bl (if neg then !ds.any (λe=>PyData.eqv e d) else ds.any λe=>PyData.eqv e d)) H
theorem Rj (hu:X.A.units+64<cLine)(ha:QE X a ta)(hb:QE X b tb)(hm:behindInMarks .NotIn b=false):QE X (.Compare a [.NotIn] [b] pos) (tOp (Bv9 true) ta tb):=⟨Ab7 (Zh hu) ha.1 hb.1 hm⟩
theorem K9 (hu:X.A.units+64<cLine)(ha:QE X a ta)(hb:QE X b tb)(hm:behindInMarks .NotIn b=false):QT X (.Compare a [.NotIn] [b] pos) (O7 (tOp (Bv9 true) ta tb)):=⟨Jt (Zh hu) ha.1 hb.1 hm⟩
end
end L2
set_option autoImplicit true
namespace L2
open PySem PySem.Spec PyProof.Rows
theorem Ae : QE X (.Constant (.int i) j a) (tC (.int i)) :=
 ⟨Bc5 ⟩
theorem Xg : QE X (.Constant (.bool b) j a) (tC (.bl b)) :=
 ⟨Bu4 ⟩
theorem Ie : QE X (.Constant .none j a) (tC .non) :=
 ⟨Ba8 ⟩
theorem J5 : QE X (.Constant (.str x) j a) (tC (.str x)) :=
 ⟨Bd8 ⟩
theorem Bm0 (hg:Gl X x) (hm:X.mg x=some u) (r:RelV v u) (hd:(x==("__debug__" : Str))=false:=by decide):QE X (.Name x a) (tC v) :=
 ⟨Bi7 (hg:=hg) (hm:=hm) (r:=r) (hd:=hd)⟩
theorem Eo {a:Pos}(hg:Gl X x) (hm:X.mg x=none) (hv:bootBuiltins x=some u) (r:RelV v u) (hn:x ≠ "__name__" := by decide) (hd:(x==("__debug__" : Str))=false:=by decide):QE X (.Name x a) (tC v) :=
 ⟨Bo2 (hg:=hg) (hm:=hm) (hv:=hv) (r:=r) (hn:=hn) (hd:=hd)⟩
theorem Ag7 (h:QE X a t):QE X (.BoolOp op [a] pos) t :=
 ⟨B2t (h:=h.get)⟩
theorem By : QSs X [] Bf5 :=
 ⟨Bq4 ⟩
theorem Ak (h1:QS X stm t):QSs X [stm] t :=
 ⟨A0n (h1:=h1.get)⟩
theorem Qy : QS X stm Az0 :=
 ⟨A7j ⟩
theorem Gu (a:X.K=Kq) {k:Nat} (hc:X.calm=true) (h:QGs X es t) (hn:(assignEach es X.env).length=n:=by rfl) (hst:(assignEach es X.env).findIdx? (·.1)=none:=by rfl):QG X (.Tuple es k pos) (At1 Kq n t):=by
 subst a;exact⟨Bw5 (hc:=hc) (h:=h.get) (hn:=hn) (hst:=hst)⟩
theorem Bc (hN:X.N.Nodup) (he:QE X e b) (hi:X.N[i]?=some x:=by exact rfl) (hx:Loc X.env.scope x:=by first | exact Or.inl rfl | exact Or.inr rfl) (hs:swapsWith e (some (.Name x a)) pos.line X.env=pure false:=by rfl) (hf:X.fn x=true\/X.env.scope.names.lookup x=some .local:=by first | exact .inl rfl | exact .inr rfl | assumption):QS X (.Assign [.Name x a] e pos) (Vr b (Hx i)) :=
 ⟨A9p (hN:=hN) (hi:=hi) (hx:=hx) (he:=he.get) (hs:=hs) ⟩
theorem Do (a:X.K=Kq) (hl:QE X l b):QI X c l (B2l Kq b):=by
 subst a;exact⟨By7 (hl:=hl.get)⟩
theorem Ac : QA X [] Gs :=
 ⟨Az1 ⟩
theorem Ad (ha:QE X e te)(hr:QA X es t)(hs:isStar e=false:=by rfl):QA X (e::es) (Cg te t) :=
 ⟨B3j (ha:=ha.get) (hr:=hr.get) (hs:=hs)⟩
theorem Nj (F:FnOk X.prog X.w X.K X.mg X.base CX k f fd ps sp)(hr:Room k X.A)(hg:Gl X x)(hm:X.mg x=some (.ref f))(hk:PySem.W.keepIn X.K (.ref f)=true)(hb:Binds X.K fd ps ds)(hd:Vals dvs ds)(hx:Lj CX X E)(ha:QA X (e::es) t)(hdb:(x==("__debug__" : Str))=false:=by decide) (hn:noStar (e::es)=true:=by rfl):QE X (.Call (.Name x p) (e::es) [] pos) (M6 sp dvs E t) :=
 ⟨Bf0 (F:=F) (hr:=hr) (hg:=hg) (hm:=hm) (hk:=hk) (hb:=hb) (hd:=hd) (hx:=hx) (ha:=ha.get) (hdb:=hdb) (hn:=hn)⟩
theorem Ub (a:X.K=Kq) (pa:PlainAttrs T) (slot:Slot T name idn) (hty:typeOf (.builtin idn)=pure (.type "method_descriptor")) (hm:MtR X idn r) (ho:QE X o to) (ha:QA X (e::es) t) (hbase:attributeBase o name X.env (eval o X.env)=eval o X.env:=by rfl) (hfew:((backTo cpos (starEach (e::es) X.env)).all (λx=>!x.1)&&(backToKw cpos (keywordEach [] X.env)).all (λx=>x.1.isSome)
 && decide ((e::es).length+([]:List Keyword).length+(if ([]:List Keyword).isEmpty then 0 else 1)<30))=true:=by rfl) (hline:(apos.endLine==cpos.line)=true:=by rfl) (hs:starEach (e::es) X.env=(false,eval e X.env)::starEach es X.env:=by rfl) (hplain:(backTo cpos (starEach es X.env)).any (·.1)=false:=by rfl):QE X (.Call (.Attribute o name apos) (e::es) [] cpos) (tBM Kq T r to t):=by
 subst a;exact⟨Bt1 (pa:=pa) (slot:=slot) (hty:=hty) (hm:=hm) (ho:=ho.get) (ha:=ha.get) (hbase:=hbase) (hfew:=hfew) (hline:=hline) (hs:=hs) (hplain:=hplain)⟩
theorem Hk (b:X.K=Kq) (ho:QE X a ta) (hv:QE X e te) (hbase:attributeBase a "append" X.env (eval a X.env)=eval a X.env:=by rfl) (hfew:((backTo cpos (starEach [e] X.env)).all (λx=>!x.1)&&(backToKw cpos (keywordEach [] X.env)).all (λx=>x.1.isSome)
 && decide ([e].length+([]:List Keyword).length+(if ([]:List Keyword).isEmpty then 0 else 1)<30))=true:=by rfl) (hline:(apos.endLine==cpos.line)=true:=by rfl) (hns:isStar e=false:=by rfl):QE X (.Call (.Attribute a "append" apos) [e] [] cpos) (tBM Kq "list" rAppF ta (Cg te Gs)):=by
 subst b;exact⟨A4i (ho:=ho.get) (hv:=hv.get) (hbase:=hbase) (hfew:=hfew) (hline:=hline) (hns:=hns)⟩
theorem Bj4 : QTs X [] Bl6 :=
 ⟨Bh0 ⟩
theorem qtN:∀a b c d e,QTs (Ek X N' scope a b c d e) [] Bl6:=λ_ _ _ _ _=>Bj4
theorem Q9 (h:QT X c t):QTs X [c] t :=
 ⟨Bh9 (h:=h.get)⟩
theorem G5 (L:Iv X N' idx scope)(hc:X.calm=true)(hi:QI X tg iter wi)(hg:∀d C b a c,QG (Ek X N' scope d C b a c) tg g)(ht:∀d C b a c,QTs (Ek X N' scope d C b a c) ifs tc)(he:∀d C b a c,QE (Ek X N' scope d C b a c) elt te)(hs:∀x,foldedSetIterable iter X.env x=pure x:=by intro _;rfl):QE X (.ListComp elt [⟨tg,iter,ifs,0⟩] scope pos) (tLC idx wi g tc te) :=
 ⟨B3l (L:=L) (hc:=hc) (hi:=hi.get) (hg:=λd C b a c=>(hg _ C _ _ _).get) (ht:=λd C b a c=>(ht _ C _ _ _).get) (he:=λd C b a c=>(he _ C _ _ _).get) (hs:=hs)⟩
theorem K4 {f d:Pos}(hN:X.N.Nodup) (hi':X.N[i]?=some y) (hy:Loc X.env.scope y) (L:Iv X N' idx scope) (hc:X.calm=true) (hi:QI X tg iter wi) (hg:∀e C b a c,QG (Ek X N' scope e C b a c) tg g) (ht:∀e C b a c,QTs (Ek X N' scope e C b a c) ifs tc) (he:∀e C b a c,QE (Ek X N' scope e C b a c) elt te) (hsw:swapsWith (.ListComp elt [⟨tg,iter,ifs,0⟩] scope pos) (some (.Name y f)) d.line X.env=pure true:=by rfl) (hf:X.fn y=true\/X.env.scope.names.lookup y=some .local:=by first | exact .inl rfl | exact .inr rfl | assumption) (hs:∀x,foldedSetIterable iter X.env x=pure x:=by intro _;rfl):QS X (.Assign [.Name y f] (.ListComp elt [⟨tg,iter,ifs,0⟩] scope pos) d) (Vr (tLC idx wi g tc te) (Hx i)) :=
 ⟨A9t (hN:=hN) (hi':=hi') (hy:=hy) (L:=L) (hc:=hc) (hi:=hi.get) (hg:=λe C b a c=>(hg _ C _ _ _).get) (ht:=λe C b a c=>(ht _ C _ _ _).get) (he:=λe C b a c=>(he _ C _ _ _).get) (hsw:=hsw) (hs:=hs)⟩
theorem Uc (a:X.K=Kq) (hgl:Gl X "abs") (hm:X.mg "abs" = none) (ha:QA X (e::es) t) (hns:noStar (e::es)=true:=by rfl):QE X (.Call (.Name "abs" p) (e::es) [] pos) (tCB (Py Kq) t):=by
 exact⟨Am5 (hgl:=hgl) (hm:=hm) (ha:=ha.get) (hns:=hns)⟩
theorem Cv (a:X.K=Kq) (hgl:Gl X "isinstance") (hm:X.mg "isinstance" = none) (ha:QA X (e::es) t) (hns:noStar (e::es)=true:=by rfl):QE X (.Call (.Name "isinstance" p) (e::es) [] pos) (tCB (Qj Kq) t):=by
 exact⟨Ai9 (hgl:=hgl) (hm:=hm) (ha:=ha.get) (hns:=hns)⟩
theorem Ae3 (a:X.K=Kq) (hgl:Gl X "isinstance") (hm:X.mg "isinstance" = none) (ha:QA X (e::es) t) (hns:noStar (e::es)=true:=by rfl):QE X (.Call (.Name "isinstance" p) (e::es) [] pos) (tCB (J0 Kq) t):=by
 exact⟨Af7 (hgl:=hgl) (hm:=hm) (ha:=ha.get) (hns:=hns)⟩
theorem Qx (a:X.K=Kq) (hc:X.calm=true) (hgl:Gl X "all") (hm:X.mg "all" = none) (ha:QA X (e::es) t) (hns:noStar (e::es)=true:=by rfl):QE X (.Call (.Name "all" p) (e::es) [] pos) (tCB (Nr Kq) t):=by
 subst a;exact⟨Ab0 (hc:=hc) (hgl:=hgl) (hm:=hm) (ha:=ha.get) (hns:=hns)⟩
theorem Lz (a:X.K=Kq) (hgl:Gl X "int") (hm:X.mg "int" = none) (ha:QA X (e::es) t) (hns:noStar (e::es)=true:=by rfl):QE X (.Call (.Name "int" p) (e::es) [] pos) (tCB (M7 Kq) t):=by
 exact⟨Ai1 (hgl:=hgl) (hm:=hm) (ha:=ha.get) (hns:=hns)⟩
theorem Am (a:X.K=Kq) (hgl:Gl X "tuple") (hm:X.mg "tuple" = none) (ha:QA X (e::es) t) (hns:noStar (e::es)=true:=by rfl):QE X (.Call (.Name "tuple" p) (e::es) [] pos) (tCB (Ii Kq) t):=by
 subst a;exact⟨Tf (hgl:=hgl) (hm:=hm) (ha:=ha.get) (hns:=hns)⟩
theorem Dp (a:X.K=Kq) (hgl:Gl X "list") (hm:X.mg "list" = none) (ha:QA X (e::es) t) (hns:noStar (e::es)=true:=by rfl):QE X (.Call (.Name "list" p) (e::es) [] pos) (tCB (Jg Kq) t):=by
 subst a;exact⟨U5 (hgl:=hgl) (hm:=hm) (ha:=ha.get) (hns:=hns)⟩
theorem Ah4 (a:X.K=Kq) (hc:X.calm=true) (hgl:Gl X "min") (hm:X.mg "min" = none) (ha:QA X (e::es) t) (hns:noStar (e::es)=true:=by rfl):QE X (.Call (.Name "min" p) (e::es) [] pos) (tCB (Nx Kq) t):=by
 exact⟨Ag2 (hc:=hc) (hgl:=hgl) (hm:=hm) (ha:=ha.get) (hns:=hns)⟩
theorem Aa5 (h:Rn es=some vs):QA X es (tK vs):=⟨Zy h⟩
theorem QW.qt (h:QW X e t):QT X e t:=⟨h.get.pt⟩
theorem qv (i:Nat) {a:Pos}(hN:X.N[i]?=some x:=by rfl) (hv:Vis X.env.scope x:=by first | exact Or.inl rfl | exact Or.inr (Or.inl rfl) | exact Or.inr (Or.inr rfl)) (hd:(x==("__debug__" : Str))=false:=by decide) (hcd:(x==("__classdict__" : Str))=false:=by decide):QE X (.Name x a) (Al3 i):=⟨At0 hN hv hd hcd⟩
end L2
namespace L2
open PySem
theorem A3g (h:QSs X st t) (k:t D a H):∃t,PSs X st t/\t D a H:=⟨t,h.get,k⟩
theorem Uv:Ed "NoneType" "int" = some false:=by trivial
theorem Ux:Ed "NoneType" "str" = some false:=by trivial
theorem Tt:Ed "NoneType" "bool" = some false:=by trivial
theorem Ua:Ed "NoneType" "list" = some false:=by trivial
theorem Q0:Ed "NoneType" "tuple" = some false:=by trivial
theorem As2:Ed "bool" "int" = some true:=by trivial
theorem Ap6:Ed "bool" "str" = some false:=by trivial
theorem Ae4:Ed "bool" "bool" = some true:=by trivial
theorem Af1:Ed "bool" "list" = some false:=by trivial
theorem Y6:Ed "bool" "tuple" = some false:=by trivial
theorem At6:Ed "int" "int" = some true:=by trivial
theorem Av2:Ed "int" "str" = some false:=by trivial
theorem Am1:Ed "int" "bool" = some false:=by trivial
theorem Ar0:Ed "int" "list" = some false:=by trivial
theorem Af0:Ed "int" "tuple" = some false:=by trivial
theorem Au4:Ed "str" "int" = some false:=by trivial
theorem At7:Ed "str" "str" = some true:=by trivial
theorem Ap1:Ed "str" "bool" = some false:=by trivial
theorem Aj9:Ed "str" "list" = some false:=by trivial
theorem Ag8:Ed "str" "tuple" = some false:=by trivial
theorem Al7:Ed "list" "int" = some false:=by trivial
theorem Am2:Ed "list" "str" = some false:=by trivial
theorem Ah3:Ed "list" "bool" = some false:=by trivial
theorem Ai0:Ed "list" "list" = some true:=by trivial
theorem Yn:Ed "list" "tuple" = some false:=by trivial
theorem Ag3:Ed "tuple" "int" = some false:=by trivial
theorem Ae6:Ed "tuple" "str" = some false:=by trivial
theorem Yz:Ed "tuple" "bool" = some false:=by trivial
theorem Yk:Ed "tuple" "list" = some false:=by trivial
theorem V1:Ed "tuple" "tuple" = some true:=by trivial
section
variable {H:Hp}{a:Addr}
theorem B2j (h:H a=some (.lst xs)):O8 H (.ref a)=some "list" := by simp only[O8,h]
theorem B2k (h:H a=some (.tup xs)):O8 H (.ref a)=some "tuple" := by simp only[O8,h]
theorem Bh7 (h:H a=some (.lst xs)):A5i H (.ref a)=some xs.length:=by simp only[A5i,h]
theorem Bj3 (h:H a=some (.tup xs)):A5i H (.ref a)=some xs.length:=by simp only[A5i,h]
end
abbrev g2 (K:v9)(i j:Nat):TG:=At1 K 2 (My (Hx i) (My (Hx j) Ax4))
theorem exc {R:Addr->Addr->n_->n_->Prop}{x y:Addr}:(∃a b xs ys,V.ref x=V.ref a/\V.ref y=V.ref b/\R a b xs ys)↔∃xs ys,R x y xs ys:=by
 constructor
 ·rintro⟨a,b,xs,ys,e1,e2,h⟩;cases e1;cases e2;exact⟨xs,ys,h⟩
 ·rintro⟨xs,ys,h⟩;exact⟨x,y,xs,ys,rfl,rfl,h⟩
mutual
noncomputable def noL:t6->Bool
 | .none=>true
 | .bool _=>true
 | .int _=>true
 | .str _=>true
 | .tuple ds=>Tw ds
 | .list _=>false
 | .dict _=>false
noncomputable def Tw:w5->Bool
 | []=>true
 | d::r=>noL d&&Tw r
end
theorem TrL.get {H:Hp}:∀{ds:w5}{vs:n_}{k:Nat}{v:V},TrL H ds vs->vs[k]?=some v->∃d,ds[k]?=some d/\Tr H d v
 | [],_,k,v,h,e=>by cases (show _=[] from h);simp at e
 | d::r,_,0,v,⟨_,_,rfl,q,_⟩,e=>by simp at e;subst e;exact⟨d,rfl,q⟩
 | d::r,_,k+1,v,⟨_,_,rfl,_,q⟩,e=>by simp at e;simpa using TrL.get q e
theorem TrL.got {H:Hp}:∀{ds:w5}{vs:n_}{k:Nat}{d:t6},TrL H ds vs->ds[k]?=some d->∃v,vs[k]?=some v/\Tr H d v
 | [],_,k,d,h,e=>by simp at e
 | d::r,_,0,_,⟨v,_,rfl,q,_⟩,e=>by simp at e;subst e;exact⟨v,rfl,q⟩
 | d::r,_,k+1,_,⟨_,_,rfl,_,q⟩,e=>by simp at e;simpa using TrL.got q e
theorem TrL.app {H:Hp}:∀{ds es:w5}{vs us:n_},TrL H ds vs->TrL H es us->TrL H (ds++es) (vs++us)
 | [],es,_,us,h,q=>by cases (show _=[] from h);exact q
 | d::r,es,_,us,⟨v,vr,rfl,q1,q2⟩,q=>⟨v,vr++us,rfl,q1,TrL.app q2 q⟩
theorem TrL.one (h:Tr H d v):TrL H [d] [v]:=⟨v,[],rfl,h,rfl⟩
theorem Ah2 (h:∀d∈ds,noL d=true):Tw ds=true:=by
 induction ds with
 | nil=>rfl
 | cons a r b=>show (noL a&&Tw r)=true;grind
mutual
noncomputable def wt:t6->Nat
 | .none=>4
 | .bool _=>5
 | .int _=>1921
 | .str x=>10*x.length+2
 | .list xs=>Ji xs+4
 | .tuple xs=>Ji xs+4
 | .dict _=>0
noncomputable def Ji:w5->Nat
 | []=>0
 | x::xs=>wt x+2+Ji xs
end
theorem Al0:∀(ts:v4) (k:Nat) (acc:Str),(textFrom k acc ts).length<=acc.length+(ts.map λt=>t.length+2).sum
 | [],k,acc=>au _
 | t::r,k,acc=>by
  have ih:=Al0 r (k+1) (acc++(if k>0 then ", " else "" : String)++t)
  have e:(acc++(if k>0 then ", " else "" : String)++t).length<=acc.length+2+t.length:=by
   rw[gR,gR]
   split
   ·exact au _
   ·show acc.length+0+t.length<=_;lia
  show (textFrom (k+1) (acc++(if k>0 then ", " else "" : String)++t) r).length<=_
  rw[aF,List.sum_cons];lia
theorem A7z (ts:v4):(listText ts).length<=(ts.map λt=>t.length+2).sum+4:=by
 unfold listText;rw[gR]
 have:=Al0 ts 0 "["
 have b:("[" : Str).length=1:=rfl
 have a:("]" : Str).length=1:=rfl
 lia
theorem Z6:∀ts:v4,piled ts=(ts.map λt=>t.length+2).sum
 | []=>rfl
 | t::r=>by rw[piled_cons,aF,List.sum_cons,Z6 r]
theorem A3w (ts:v4):(tupleText ts).length<=(ts.map λt=>t.length+2).sum+4:=by
 unfold tupleText;rw[gR,gR]
 have b:("(" : Str).length=1:=rfl
 have c:(if ts.length==1 then (",)" : Str) else (")" : Str)).length<=2:=by split <;> decide
 have a:((if ts.length==1 then ",)" else ")" : String):Str).length<=2:=by grind
 by_cases h:ts=[]
 ·subst h;show 1+0+_<=_;grind
 ·have:=join_length_add _ h
  rw[Z6]at this;lia
mutual
theorem Al8:∀d:t6,d.canLay0=true->d.showable=true->d.shown.length<=wt d
 | .none,_,_=>by decide
 | .bool b,_,_=>by cases b <;> decide
 | .int i,_,h=>PyProof.Rows.int_text_len_1921 (by simpa[PyData.showable] using h)
 | .str x,h,_=>StrLaws.reprText_len x λc hc=>by
  have h:x.cps.all (·<0x110000)=true:=h
  have:=Array.all_eq_true_iff_forall_mem.mp h c (Array.mem_toList_iff.mp hc);have:=aV this;lia
 | .list xs,h,s=>aq (A7z _) (Nat.add_le_add_right (Nf xs h s) 4)
 | .tuple xs,h,s=>aq (A3w _) (Nat.add_le_add_right (Nf xs h s) 4)
 | .dict kv,h,_=>nomatch h
theorem Nf:∀ds:w5,PyData.canLayAll0 ds=true->PyData.showableAll ds=true->((PyData.shownAll ds).map λt=>t.length+2).sum<=Ji ds
 | [],_,_=>au _
 | d::r,h,s=>by
  obtain⟨h1,h2⟩:=aA.mp (show (d.canLay0&&PyData.canLayAll0 r)=true from h)
  obtain⟨s1,s2⟩:=aA.mp (show (d.showable&&PyData.showableAll r)=true from s)
  have a:=Al8 d h1 s1;have b:=Nf r h2 s2
  show (((d.shown::PyData.shownAll r).map λt=>t.length+2).sum)<=wt d+2+Ji r
  rw[aF,List.sum_cons];lia
end
end L2
namespace HT
open PySem PySem.Spec PyProof.Rows
end HT
namespace L2
open PySem PySem.Spec PyProof.Rows
section
noncomputable def A2s (y:Str):Value->Bool
 | .str z _=>z==y
 | _=>false
theorem Ad5:∀{ss:v4}{us:w6},Vals (ss.map V.str) us->∀u∈us,∃z t,u=.str z t
 | [],_,r,u,hu=>by cases r;cases hu
 | s::ss,_,r,u,hu=>by
  cases r with
  | cons r1 r2 =>
   rcases aB.mp hu with rfl | hu
   ·obtain⟨t,rfl⟩:=r1;exact⟨s,t,rfl⟩
   ·exact Ad5 r2 u hu
theorem Z2 (y:Str):∀{ss:v4}{us:w6},Vals (ss.map V.str) us->us.countP (A2s y)=ss.countP λz=>z==y
 | [],_,r=>by cases r;rfl
 | s::ss,_,r=>by
  cases r with
  | cons r1 r2 =>
   obtain⟨t,rfl⟩:=r1;rw[jo,jo,Z2 y r2];rfl
end
end L2
namespace HT
open PySem PySem.Spec PyProof.Rows
section
variable {prog:u6}{w:World}{A:t_}{E:z_}{s:u_}
theorem O3 {lo hi:q9} (ht:IsTup s.heap t items) (hs:s.heap.IsSliceOf b g f .none) (pl:IsPart g lo) (i:IsPart f hi)
 (hw:sIx items.size 0 lo=0/\sIx items.size items.size hi=items.size) (h:Q (.ref t) s):wpAny (model prog w) A (getItem (.ref t) (.ref b)) Q E s:=by
 obtain⟨k,d,c,j⟩:=id hs;have e:s.TypeIs (.ref b) "slice" := ⟨k,d,c⟩;unfold getItem
 try with_reducible refine bZ ?_
 first | refine aj (ak ?_) | skip
 refine aj (wpAny_sequenceKey ht.typeIs (by decide) ?_)
 refine aj (cj (name:="__getitem__") ht.typeIs fO
  (bB fO ht.typeIs entry_tuple_getitem ?_ (args_tuple_getitem _ _)))
 show wpAny _ _ (Builtin.Tuple.tupleItemsOf (.ref t) >>= _) _ _ s
 refine aj (tupleItemsOf_ ht ?_)
 refine aj (dF e ?_)
 rw[if_pos (by decide)]
 refine aj (Kl hs pl i ?_)
 show wpAny _ _ (if (((sIx items.size 0 lo:Nat):Int)==0&&(1:Int)==1&&(sIx _ _ _-sIx _ 0 _)==items.size)=true then _ else _) _ _ s
 have a:(((sIx items.size 0 lo):Int)==0&&(1:Int)==1&&sIx items.size items.size hi-sIx items.size 0 lo==items.size)=true:=by
  rw[hw.1,hw.2];simp
 rw[if_pos a]
 refine aj (aj (dF ht.typeIs (ak ?_)))
 refine aj (cL ?_)
 first
  | exact ak ⟨_,rfl,ak h⟩
  | exact aj _
  | exact aj _
  | trace_state
end
end HT
namespace L2
open PySem PySem.Spec PyProof.Rows
section
variable {X:Cx}
def Bv3 (K:v9):V->q9->q9->Hp->VK->Prop:=λx lo hi H Q=>∃a xs,x=.ref a/\SqT K H a xs /\
 (HT.sIx xs.length 0 lo=0/\HT.sIx xs.length xs.length hi=xs.length)/\Q (.ref a) H
theorem Bo9:SlR X (Bv3 X.K):=by
 intro d s σ H x v vl vu lo hi sl Q I k f g e h;obtain⟨a,xs,rfl,j,hw,q⟩:=h
 cases k
 obtain⟨i,r,c,hz⟩:=I.tuple j
 have b := by exact r.length.symm
 refine⟨"tuple",_,fO.lookup,c.typeIs,?_⟩
 exact HT.O3 c f g e (by grind) ⟨.ref a,H,I,rfl,q⟩
end
theorem Y5 (l:Addr)(items:v7)(n:Nat)(dd:Option Addr)(sl:Array (u9))(x:Value)(e:Value->Bool)(j:Nat)(hj:j<items.size)
 (p:e items[j]=true) (hno:∀m (hm:m<items.size),m<j->e items[m]=false) :
 Meets (Builtin.«tuple.index» ⟨[.ref l,x],[]⟩)
  (λA R s=>s.heap.get? l=some { cls:=.type "tuple",dict:=dd,data:=.seq items n,slots:=sl }/\(∀y,y∈items->SeqAt.EqAt A.in1 s y x (e y))/\R (.ok (.ret (.int j s.toks))) { s with toks:=s.toks+1 }) :=
 .of_wp λf w A R s h=>by
  obtain⟨hp,g,d,tk,os⟩:=s;obtain⟨hl,he,h⟩:=h
  wp_walk using wpAny_loadPart' hl
  change wpAny _ _ (forIn (m:=Sem) [:min items.size items.size] ((none,()):Option Fin×Unit) _) _ _ _
  rw[Std.Legacy.Range.forIn_eq_forIn_range'];simp only[Std.Legacy.Range.size,eZ,Nat.add_sub_cancel,Nat.div_one,e_]
  refine j7 _ (λa b s'=>b.1=none/\s'=⟨hp,g,d,tk,os⟩/\∃i,i<=j/\a=List.range' i (items.size-i)) _ ?_ ?_ _ _ ⟨rfl,rfl,0,aM _,rfl⟩
  ·rintro y a b s' ⟨hb,rfl,i,c,k⟩
   have o:i<items.size:=bD c hj;have hd:items.size-i=(items.size-(i+1))+1:=(Nat.succ_pred_eq_of_pos (Nat.sub_pos_of_lt o)).symm;rw[hd,List.range'_succ]at k
   cases k
   have hg:items[y]?=some items[y]:=by simp[o]
   simp only[hg]
   refine aj (he _ (Array.getElem_mem o) f w _ _ ?_)
   rcases Nat.lt_or_eq_of_le c with lt | rfl
   ·rw[hno y o lt]
    wp_walk
    exact⟨rfl,rfl,y+1,lt,rfl⟩
   ·rw[p]
    wp_walk
    exact⟨_,rfl,h⟩
  ·rintro⟨b1,b2⟩ s' ⟨hb,rfl,i,c,k⟩
   have hz:=bU List.length k
   simp at hz
   lia
section
variable {X:Cx}
theorem Bb5 (y:Str){ss:v4} (r:Vals (ss.map V.str) us) (hm:m<us.length) (h2:m<ss.length):A2s y us[m]=(ss[m]==y):=by
 obtain⟨u,a,b⟩:=r.get (i:=m) (x:=V.str ss[m]) (by grind)
 obtain⟨t,rfl⟩:=b;rw[bu hm]at a
 injection a with a
 rw[a];rfl
def Ac6 (K:v9):V->n_->Hp->VK->Prop:=λx vs H Q=>∃(a:Addr) (ss:v4) (y:Str) (j:Nat),x=.ref a/\vs=[.str y]/\SqT K H a (ss.map V.str)/\ss[j]?=some y/\(∀m<j,ss[m]?≠some y)/\Q (.int (j:Nat)) H
theorem A2z:MtM X "tuple.index" (Ac6 X.K):=by
 intro i s σ H x vs v us Q I D A h;obtain⟨a,C,y,j,rfl,rfl,G,B,M,q⟩:=h
 cases D
 obtain⟨u,rfl,p⟩:=A.one;obtain⟨t,rfl⟩:=p;obtain⟨b,r,l,hz⟩:=I.tuple G
 obtain⟨o,e,k,n,f⟩:=(show s.heap.IsTuple a b.toArray from l)
 obtain⟨c0,dd,E,sl⟩:=o
 dsimp only at k f
 subst k f
 have c := by have:=r.length;simpa using this.symm
 obtain⟨g,ej⟩:=bG.mp B
 refine dm F.slot_tuple_index ⟨_,e,rfl⟩ F.entry_tuple_index (F.args_tuple_index_2 _ _) (Y5 a _ n _ _ _ (A2s y) j (by simpa[c] using g) ?_ ?_) ⟨e,λw K=>?_,?_⟩
 ·have:=Bb5 y r (by lia) g
  simp_all
 ·intro m J L
  have:=Bb5 y r (by simpa using J) (by lia)
  grind
 ·obtain⟨z,t',rfl⟩:=Ad5 r w (by simpa using K)
  exact jg z _ y t
 ·exact⟨.int _,H,I.tok _,⟨_,rfl⟩,q⟩
theorem Ws (a:X.K=Kq):MtM X "tuple.index" (Ac6 Kq):=by
 subst a;exact A2z
end
section
variable {X:Cx}
noncomputable def B5o:V->Option Str
 | .non=>some (Str.ofString "None")
 | .bl b=>some (if b then Str.ofString "True" else Str.ofString "False")
 | .str x=>some x
 | _=>none
def Uo (K:v9):n_->Hp->VK->Prop:=λxs H Q=>∃x z,xs=[x]/\B5o x=some z/\Q (.str z) H
theorem A5c:CallR X (.type "str") (Uo X.K):=by
 intro d s σ H xs us Q I r h;obtain⟨x,z,rfl,a,q⟩:=h;obtain⟨u,rfl,c⟩:=vals1 r
 cases x with
 | non=>cases a;cases (c);exact P.str_of_none ⟨.str _,H,I.tok _,⟨_,rfl⟩,q⟩
 | bl b=>cases a;cases (c);exact P.str_of_bool ⟨.str _,H,I.tok _,⟨_,by trivial⟩,q⟩
 | str y=>cases a;obtain⟨t,rfl⟩:=c;exact P.str_of_str ⟨.str _,H,I,⟨_,rfl⟩,q⟩
 | _=>cases a
end
section
def B5p (ks:v4)(xs:n_):List (Key×V):=(ks.zip xs).map λp=>((Sum.inr p.1:Key),p.2)
end
end L2
namespace L2
open PySem PySem.Spec PyProof.Rows PySem.W
noncomputable def kEv {α:Type} (B:Nat->Nat->Option Bool):KasT α->Option α
 | .ret a=>some a
 | .ask i j k=>(B i j).bind λb=>kEv B (k b)
theorem A7m {α:Type}{cmp:Nat->Nat->(Bool->u_->Prop)->u_->Prop}{B:Nat->Nat->Option Bool}{s:u_}(hc:∀i j b C,B i j=some b->C b s->cmp i j C s){G:α->u_->Prop} :
 ∀(t:KasT α) (a:α),kEv B t=some a->G a s->t.kasWp cmp G s
 | .ret a,a',e,g=>by cases e;exact g
 | .ask i j k,a',e,g=>by
  obtain⟨b,e1,e2⟩:=cP.mp (show (B i j).bind (λb=>kEv B (k b))=some a' from e)
  exact hc i j b _ e1 (A7m hc (k b) a' e2 g)
inductive Kd where
 | ss
noncomputable def U0:Kd->t6->Bool
 | .ss,.str _=>true
 | _,_=>false
theorem Tz {kd:Kd}{d:t6}(h:U0 kd d=true):match kd with
 | .ss=>∃x,d=.str x:=by
 unfold U0 at h
 split at h
 ·exact⟨_,rfl⟩
 ·cases h
noncomputable def kdK:Kd->SortKind
 | .ss=>oneType'
def Bi2 (kd:Kd)(x y:t6):Option Bool:=Yw false x y
def A5e (kd:Kd)(ds:w5)(i j:Nat):Option Bool:=match ds[i]?,ds[j]? with
 | some x,some y=>Bi2 kd x y
 | _,_=>none
section
variable {prog:u6}{w:World}{A:t_}{E:z_}{s:u_}{Q:Bool->u_->Prop}
theorem Bi4 {kd:Kd}{dx dy:t6}{u v:Value}{as bs:v6}{r:Bool}(ra:Reads s.heap u dx as)(rb:Reads s.heap v dy bs)(ca:dx.canLay0=true)(cb:dy.canLay0=true)
 (fa:U0 kd dx=true) (fb:U0 kd dy=true) (hu:A.units+dx.depth<cLine) (hc:Bi2 kd dx dy=some r) (h:Q r s):wpAny (model prog w) A (keyLt' (kdK kd) u v) Q E s:=by
 have sx:=Tz fa;have sy:=Tz fb
 cases kd with
 | ss =>
  obtain⟨i,rfl⟩:=sx;obtain⟨j,rfl⟩:=sy
  cases ra
  cases rb
  have hr:decide (i.cps.toList<j.cps.toList)=r:=by simpa[Bi2,Yw] using hc
  rw[<- hr]at h;exact kas_lt_str h
end
section
variable {M:Model}{A:t_}{E:z_}{s:u_}
theorem A2p {h:Heap}:∀{us:w6}{ds:w5}{as:v6},ReadsAll h us ds as->ds.all (U0 .ss)=true->∀v∈us,Looks M h (typeOf v) (.type "str")
 | _,_,_,.nil,_,v,z=>nomatch z
 | _,_,_,.cons (d:=d) r1 r2,hb,v,hv=>by
  obtain⟨h1,h2⟩:=aA.mp (show (U0 .ss d&&_)=true from hb)
  rcases aB.mp hv with rfl | hv
  ·obtain⟨_,rfl⟩:=Tz h1
   cases r1
   exact .now
  ·exact A2p r2 h2 v hv
theorem A9d {kd:Kd}{us:w6}{ds:w5}{as:v6}{Q:SortKind->u_->Prop}(r:ReadsAll s.heap us ds as)(hb:ds.all (U0 kd)=true)(h0:2<=us.length)(h:Q (kdK kd) s):wpAny M A (keyKind' us.toArray) Q E s:=by
 cases kd with
 | ss=>exact kas_kind h0 (A2p (M:=M) r hb) (by decide) (by decide) h
end
section
variable {X:Cx}{pins:y_}{σ:St}{H:Hp}{s:u_}{h':Heap}
theorem Inv.adopt (I:Inv X pins σ H s) (k:∀b u,b≠D->s.heap.get? b=some u->h'.get? b=some u) (hn:H D=none) (h:D≠X.env.locals) (h1:X.s₀.heap.objs.size<=D)
 (h2:∀x c,X.env.cells.lookup x=some c->c≠D) (A:∀p∈X.pn++pins,p.1≠D) (i:zB X.prog X.w (upd H D o) h' D o):Inv X pins σ (upd H D o) { s with heap:=h',toks:=t' }:=by
 have a:∀b u,H b=some u->b≠D:=λb u e z=>by simp_all
 refine I.step (g':=s.gens) (d':=s.drawn) (ch:=[D]) (λb f=>?_) (λb o _ _ d e _=>k b o (λz=>d (by simp[z])) e) (λb o _ _ d e _=>⟨o.slots,k b o (λz=>d (by grind)) e⟩) (λb o d e n=>by rw[Ag (λz=>d (by simp[z]))];exact n)
  (λb o d e=>⟨o,k b o (λz=>d (by grind)) e⟩) (λb g e=>by rw[Ag (a _ _ e)];exact e) (λb _ _ e=>by rw[Ag (a _ _ e)];exact e) (λb y e=>by rw[Ag (a _ _ e)];exact e) (λm j=>?_) (λb u e=>?_) I.bare
 ·grind
 ·obtain⟨o,t,l,w,r⟩:=j
  exact⟨o,t,l,k _ o (aD h) w,r⟩
 ·by_cases f:b=D
  ·subst f;rw[Ax]at e;grind
  ·rw[Ag f]at e
   refine (I.hok b u e).stay (λc v d q=>k c v ?_ q) (λc q=>by rw[Ag (a _ _ q)];exact q) (λc g q=>by rw[Ag (a _ _ q)];exact q) λc B g q=>by rw[Ag (a _ _ q)];exact q
   grind
end
def Bz6 (vs ks:n_)(H:Hp)(Q:VK):Prop :=
 (vs.length<2/\∀p,H p=none->Q (.ref p) (upd H p (.lst vs))) \/
 (2<=vs.length/\vs.length<64/\∃ds kd p,TrL H ds ks/\ds.all (U0 kd)=true/\(∀d∈ds,Flat d)/\kEv (A5e kd ds) (kas_sort vs.length)=some p/\∀l,H l=none->Q (.ref l) (upd H l (.lst (p.toList.map λi=>vs.getD i .non))))
theorem A2t:∀{vs:n_}{us:w6},Vals vs us->∀i,RelV (vs.getD i .non) (us.getD i Value.none)
 | _,_,.nil,i=>rfl
 | _,_,.cons r rs,0=>r
 | _,_,.cons r rs,i+1=>A2t rs i
theorem Zd {vs:n_}{us:w6}(r:Vals vs us):∀l:List Nat,Vals (l.map λi=>vs.getD i .non) (l.map λi=>us.getD i Value.none)
 | []=>.nil
 | i::l=>.cons (A2t r i) (Zd r l)
theorem Xo {h:Heap}:∀{us:w6}{ds:w5}{as:v6},ReadsAll h us ds as->∀{i:Nat}{d:t6},ds[i]?=some d->∃as',Reads h (us.getD i Value.none) d as'
 | _,_,_,.nil,i,d,e=>by simp at e
 | _,_,_,.cons r rs,0,d,e=>by simp at e;subst e;exact⟨_,r⟩
 | _,_,_,.cons r rs,i+1,d,e=>Xo rs (by simpa using e)
end L2
namespace L2
open PySem PySem.Spec PyProof.Rows
noncomputable def Bb9:Value->Bool
 | .bool b=>b
 | _=>false
theorem A0q:∀{bs:List Bool}{us:w6},Vals (bs.map V.bl) us->us=bs.map Value.bool
 | [],us,h=>by cases h;rfl
 | b::bs,us,h=>by
  cases h with
  | cons r rs =>
   rw[A0q rs]
   cases r;rfl
section
variable {X:Cx}
def A1c (K:v9):V->n_->Hp->VK->Prop:=λx vs H Q=>∃(a:Addr) (bs:List Bool) (j:Nat),x=.ref a/\vs=[.bl true]/\SqL K H a (bs.map V.bl)/\bs[j]?=some true/\(∀m<j,bs[m]?≠some true)/\j<1000000/\Q (.int j) H
theorem A5o {Kq:v9}(hKq:X.K=Kq)(hu:X.A.units+64<cLine):MtM X "list.index" (A1c Kq):=by
 subst hKq;intro pins s σ H x vs v us Q I rx rv h;obtain⟨a,bs,j,rfl,rfl,hq,hj,hno,hjs,q⟩:=h
 cases rx
 obtain⟨u,rfl,ru⟩:=rv.one
 cases ru
 obtain⟨its,r,pl,hz⟩:=I.list hq
 cases A0q r
 obtain⟨o,n,e,hc,hdn,hd⟩:=pl;obtain⟨c0,dd,dat,sl⟩:=o
 dsimp only at hc hd hdn
 subst hc hd hdn;obtain⟨lj,ej⟩:=bG.mp hj
 refine dm F.slot_list_index ⟨_,e,rfl⟩ F.entry_list_index (F.args_list_index_2 _ _) (SeqAt.list_indexAt a (bs.map Value.bool).toArray n none sl (.bool true) Bb9 j (by simpa using lj) (by lia) ?_ ?_) ⟨e,λw hw=>?_,?_⟩
 ·simp[Bb9,ej]
 ·intro m hm hlt
  have hm':m<bs.length:=by simpa using hm
  have h2:=hno m hlt;rw[bu hm']at h2
  simpa[Bb9] using h2
 ·obtain⟨b,hb,rfl⟩:∃b∈bs,Value.bool b=w:=by simpa using hw
  have:=SeqAt.eqAt_reads (.bool b) (.bool true) X.A.in1 s _ _ _ _ (.bool b) (.bool true) rfl rfl (by show X.A.units+1+0<_;lia)
  cases b <;> exact this
 ·exact⟨.int _,H,I.tok _,⟨_,rfl⟩,q⟩
end
section
variable {X:Cx}
def B4t:V->q9->q9->Hp->VK->Prop:=λx lo hi H Q=>∃z:Str,x=.str z/\z.length<=sizeLine/\Q (.str (Txt.slice z lo hi)) H
theorem part_of (h:IsPart v o):∃p:Option (Int×Tok),v=partValue p/\p.map (·.1)=o:=by
 cases h with
 | none=>exact⟨none,rfl,rfl⟩
 | int i t=>exact⟨some (i,t),rfl,rfl⟩
theorem Bz3:SlR X B4t:=by
 intro a s σ H x v vl vu lo hi sl Q I d c b e h;obtain⟨z,rfl,f,q⟩:=h;obtain⟨t,rfl⟩:=d;obtain⟨l,rfl,rfl⟩:=part_of b;obtain⟨u,rfl,rfl⟩:=part_of e
 refine⟨"str",_,F.slot_str_getitem.lookup,typeIs_str _ _ _,wpAny_getItem_str_slice (l:=l) (u:=u) (st:=none) c rfl ?_⟩
 exact post_val_or_str ⟨aq (Txt.slice_le z _ _) f,λt' k=>⟨.str _,H,I.tok _,⟨_,rfl⟩,q⟩⟩
end
section
variable {P:u6}{w:World}{A:t_}{E:z_}{s:u_}
structure Bm1 (h:Heap) (t1 t2:Bool) (z ti to i1 i2 a b p0:Addr) (b1:Bool) (k:Nat):Prop where
 zip:h.get? z=some { cls:=.type "zip",data:=.fields #[rawInt p0,.bool b1,.bool false,.ref ti,.ref to] }
 ins:IsPair h ti (.ref i1) (.ref i2)
 held:∃o,h.get? p0=some o
 one:ItAt t1 h i1 a k
 two:ItAt t2 h i2 b k
theorem Ap0 (e:s.heap.get? p=some o) (h:Q (some o) s):wpAny M A (loadIfAlive p) Q E s:=λb q a=>by
 show Sem.wp M _ (.loadIfAlive p _) _ _ q s
 simp_all
theorem Ai5 {z c d b:Addr} (hz:s.heap.get? z=some { cls:=.type "zip",data:=.fields #[rawInt b,.bool e,.bool false,.ref c,.ref d] }) (g:s.heap.get? b=some h)
 (q:∀a:Heap,a.get? z=some { cls:=.type "zip",data:=.fields #[rawInt b,.bool true,.bool false,.ref c,.ref d] }->Heap.SameBut z s.heap a->Q false { s with heap:=a }):wpAny (model P w) A (Builtin.SmallTypes.ownedTupleIsFree (.ref z)) Q E s:=by
 apply aj;apply aY hz rfl rfl
 refine aj (Ap0 (by simpa using g) ?_)
 refine aj ?_
 apply aY hz rfl rfl
 cases e with
 | true=>exact ak (q _ hz (Heap.SameBut.refl _ _))
 | false =>
  apply aj
  apply eX hz (by simp)
  intro a i f;exact ak (q _ i f)
theorem A2y {Q:z_}(d:zA z l t i h a b) (y:Bm1 s.heap t1 t2 z l t i h a b C L k) (hp:C∉[z,l,t,i,h])
 (ha:SqA t1 s.heap a xs) (hb:SqA t2 s.heap b ys) (hx:xs[k]?=some x) (F:ys[k]?=some x')
 (q:∀h',Bm1 h' t1 t2 z l t i h a b C true (k+1)->IsPair h' s.heap.objs.size x x'->(∀c o,c∉[z,l,t,i,h]->s.heap.get? c=some o->h'.get? c=some o)->Q (.ref s.heap.objs.size) { s with heap:=h' }) :
 wpAny (model P w) A (Builtin.«zip.__next__» ⟨[.ref z],[]⟩) (λf z=>∃v,f=.done (.ret v)/\Q v z) E s:=by
 have G:=d.na;have D:=d.nb;simp only[aB,a_,bc,not_or]at G D hp;obtain⟨M,I⟩:=y.held;apply aj (m:=field (.ref z) 2);apply aY y.zip rfl (x:=.bool false) rfl;apply aj (m:=field (.ref z) 3);apply aY y.zip rfl (x:=.ref l) rfl;apply aj;apply cM y.ins rfl;apply aj (m:=Builtin.SmallTypes.ownedTupleIsFree (.ref z))
 refine Ai5 y.zip I λU K n=>?_
 simp only[bV,bj];apply aj;rw[<- il];simp only[fU,iI];apply aj;apply aj;apply bZ;apply aj (m:=Builtin.SmallTypes.nextOf (.ref i))
 refine next_item (y.one.stay λo e=>n.extBut _ _ d.z_i1 e) (ha.stay λo e=>n.extBut _ _ G.1 e) hx λT O u=>?_
 apply ak;apply ak;apply aj;apply aj;apply bZ;apply aj (m:=Builtin.SmallTypes.nextOf (.ref h))
 refine next_item (y.two.stay λo e=>u.extBut _ _ d.i1_i2.symm (n.extBut _ _ d.z_i2 e)) (hb.stay λo e=>u.extBut _ _ D.2.2.2.1 (n.extBut _ _ D.1 e)) F λr J B=>?_
 apply ak;apply ak;apply ak;apply aj
 refine wpAny_newTuple ?_ (show 2<=sizeLine by decide)
 have H:r.objs.size=s.heap.objs.size:=by rw[B.1,u.1,n.1]
 have g:∀c o,c≠z->c≠i->c≠h->s.heap.get? c=some o->r.get? c=some o:=λc o N S R e=>B.extBut _ _ R (u.extBut _ _ S (n.extBut _ _ N e))
 refine ak ⟨_,rfl,?_⟩
 show Q (.ref r.objs.size) _
 rw[H]
 have j:∀{c:Addr} {o:Obj},r.get? c=some o->(r.push { cls:=.type "tuple",data:=.seq #[x,x'] }).get? c=some o:=λe=>aC _ e
 refine q _ ⟨j (B.extBut _ _ d.z_i2.symm (u.extBut _ _ d.z_i1.symm K)),j (g _ _ d.z_ti d.ti_i1 d.ti_i2 y.ins),⟨M,j (g _ _ hp.1 hp.2.2.2.1 hp.2.2.2.2 I)⟩,(O.stay λo e=>B.extBut _ _ d.i1_i2 e).stay λo e=>j e,J.stay λo e=>j e⟩ (by rw[<- H];exact aJ _ rfl) λc o p e=>?_
 simp at p
 exact j (g c o p.1 p.2.2.2.1 p.2.2.2.2 e)
end
section
variable {P:u6}{w:World}{A:t_}{E:z_}{s:u_}{t1 t2:Bool}{z ti to i1 i2 a b p0:Addr}{b1:Bool}{k:Nat}{xs ys:v7}
theorem A3r (f:A.handled=none) (d:zA z ti to i1 i2 a b) (y:Bm1 s.heap t1 t2 z ti to i1 i2 a b p0 b1 k) (ha:SqA t1 s.heap a xs) (hx:xs[k]?=none)
 (q:∀h' e,(∀c o,c∉[z,ti,to,i1,i2]->s.heap.get? c=some o->h'.get? c=some o)->(∃o,h'.get? e=some o/\o.cls=.type "StopIteration")->E (.ref e) { s with heap:=h' }) :
 wpAny (model P w) A (Builtin.«zip.__next__» ⟨[.ref z],[]⟩) F E s:=by
 have i:=d.na;simp only[aB,a_,bc,not_or]at i;obtain⟨n,j⟩:=y.held;apply aj (m:=field (.ref z) 2);apply aY y.zip rfl (x:=.bool false) rfl;apply aj (m:=field (.ref z) 3);apply aY y.zip rfl (x:=.ref ti) rfl;apply aj;apply cM y.ins rfl;apply aj (m:=Builtin.SmallTypes.ownedTupleIsFree (.ref z))
 refine Ai5 y.zip j λr u h=>?_
 simp only[bV,bj];apply aj;rw[<- il];simp only[fU,iI];apply aj;apply aj;apply bZ;apply aj (m:=Builtin.SmallTypes.nextOf (.ref i1))
 refine next_end f (y.one.stay λo e=>h.extBut _ _ d.z_i1 e) (ha.stay λo e=>h.extBut _ _ i.1 e) hx λt x l g=>?_
 refine q _ x (λc o p e=>?_) g
 simp at p
 exact l _ _ p.2.2.2.1 (h.extBut _ _ p.1 e)
def Zs (h:Heap)(t1 t2:Bool)(z ti to i1 i2 a b:Addr)(k:Nat):Prop:=(k=0/\ZipAt h t1 t2 z ti to i1 i2 a b .none 0)\/∃p0 b1,p0∉[z,ti,to,i1,i2]/\Bm1 h t1 t2 z ti to i1 i2 a b p0 b1 k
theorem Zs.ty (y:Zs s.heap t1 t2 z ti to i1 i2 a b k):s.TypeIs (.ref z) "zip" := by
 rcases y with ⟨_,y⟩ | ⟨_,_,_,y⟩
 ·exact⟨_,y.zip,rfl⟩
 ·exact⟨_,y.zip,rfl⟩
theorem Zs.lt (y:Zs s.heap t1 t2 z ti to i1 i2 a b k):∀c∈[z,ti,i1,i2],c<s.heap.objs.size:=by
 intro c d
 simp at d
 rcases y with ⟨_,y⟩ | ⟨_,_,_,y⟩
 ·rcases d with rfl | rfl | rfl | rfl
  ·exact az y.zip
  ·exact az y.ins
  ·obtain⟨o,e,_⟩:=y.one.obj;exact az e
  ·obtain⟨o,e,_⟩:=y.two.obj;exact az e
 ·rcases d with rfl | rfl | rfl | rfl
  ·exact az y.zip
  ·exact az y.ins
  ·obtain⟨o,e,_⟩:=y.one.obj;exact az e
  ·obtain⟨o,e,_⟩:=y.two.obj;exact az e
theorem Zs.keep (y:Zs h t1 t2 z ti to i1 i2 a b k) (hk:0<k) (d:D∉[z,ti,to,i1,i2]) (c:Heap.SameBut D h h') (j:∀o,h.get? D=some o->∃o',h'.get? D=some o'):Zs h' t1 t2 z ti to i1 i2 a b k:=by
 simp at d
 rcases y with ⟨e,_⟩ | ⟨f,i,g,y⟩
 ·lia
 ·refine .inr ⟨f,i,g,?_⟩
  obtain⟨o,e⟩:=y.held
  refine⟨c.extBut _ _ (aD d.1) y.zip,c.extBut _ _ (aD d.2.1) y.ins,?_,y.one.stay λo e=>c.extBut _ _ (aD d.2.2.2.1) e,y.two.stay λo e=>c.extBut _ _ (aD d.2.2.2.2) e⟩
  by_cases z:f=D
  ·grind
  ·exact⟨o,c.extBut _ _ z e⟩
theorem A5b (d:zA z ti to i1 i2 a b) (n:to<s.heap.objs.size) (y:Zs s.heap t1 t2 z ti to i1 i2 a b k) (ha:SqA t1 s.heap a xs) (hb:SqA t2 s.heap b ys) (hx:xs[k]?=some x) (g:ys[k]?=some x')
 (q:∀h',Zs h' t1 t2 z ti to i1 i2 a b (k+1)->IsPair h' s.heap.objs.size x x'->s.heap.objs.size<h'.objs.size->(∀c o,c∉[z,ti,to,i1,i2]->s.heap.get? c=some o->h'.get? c=some o)->Q (some (.ref s.heap.objs.size)) { s with heap:=h' }) :
 wpAny (model P w) A (pyNext (.ref z)) Q E s:=by
 have j:=y.ty;unfold pyNext;apply aj;apply cN
 refine cj (name:="__next__") j dI ?_
 refine bB dI j iK ?_ (iM _)
 have p:s.heap.objs.size∉[z,ti,to,i1,i2]:=λm=>by
  have l:=y.lt
  grind
 rcases y with ⟨rfl,y⟩ | ⟨t,b1,i,y⟩
 ·refine Ao7 d y ha hb hx g λr f e h=>?_
  exact ak (q _ (.inr ⟨s.heap.objs.size,false,p,⟨f.zip,f.ins,⟨_,e⟩,f.one,f.two⟩⟩) e (az e) h)
 ·refine A2y d y i ha hb hx g λr f e h=>?_
  exact ak (q _ (.inr ⟨t,true,i,f⟩) e (az e) h)
theorem ZipAt.kept (y:ZipAt h t1 t2 z ti to i1 i2 a b f k) (d:∀c o,h.get? c=some o->h'.get? c=some o):ZipAt h' t1 t2 z ti to i1 i2 a b f k:=by
 obtain⟨u,v,e⟩:=y.outs
 exact⟨d _ _ y.zip,d _ _ y.ins,⟨u,v,d _ _ e⟩,y.one.stay λo e=>d _ _ e,y.two.stay λo e=>d _ _ e⟩
end
end L2
namespace L2
open PySem PySem.Spec PyProof.Rows PySem.W
section
variable {P:u6}{w:World}{H H':Hp}{h h1 h2 B:Heap}{a b:Addr}{o:HO}{outer:List Env}
theorem zB.there (x:zB P w H h a o):∃u,h.get? a=some u:=by
 cases o with
 | lst d=>obtain⟨_,_,_,_,e⟩:=x;grind
 | tup d=>obtain⟨_,_,_,o,e,_⟩:=x;grind
 | dK b=>obtain⟨_,_,_,_,o,_,_,e,_⟩:=x;grind
 | dT b=>obtain⟨_,_,_,_,o,_,_,e,_⟩:=x;grind
 | set S n=>obtain⟨o,_,_,_,e,_⟩:=x;grind
 | ins C g c=>obtain⟨_,_,_,e,_⟩:=x;grind
 | own y=>exact x
 | xd c=>obtain⟨_,⟨_,_,_,e,_⟩,_⟩:=x;grind
 | rng j k=>obtain⟨_,_,_,e⟩:=x;grind
 | frz l u=>obtain⟨e,_⟩:=x;grind
 | tbl q=>obtain⟨_,e,_⟩:=x;grind
 | met f y=>exact⟨_,(x)⟩
 | ext i=>exact x.2.1
def Cov (fs:v6)(H':Hp)(h0 h B:Heap):Prop:=∀b o,h.get? b=some o->b∉fs->((∃u,h0.get? b=some u)\/H' b≠none)->B.get? b=some o
theorem B0y (u:Un (frs outer) [] H H' h h1)(hk:HOk P w H' h1)(i:Cov (frs outer) H' h h1 B)(r:h1.FunFrames B outer)(k:∀b∈frs outer,H' b=none)(st:B.StaysIn h2)(s:h1.UpToSlots h2) :
 Un (frs outer) [] H H' h h2/\HOk P w H' h2:=by
 have f:∀b:Addr,b∉([]:List _):=λb z=>nomatch z
 refine⟨⟨λb o e n c _=>st b o (i b o (u.keep b o e n c (f b)) c (.inl ⟨o,e⟩)),λb o e n c _=>?_,λb o e n _=>u.free b o e n (f b),λb o e _=>?_,u.tups,u.frzs,u.tbls⟩,λa o e=>?_⟩
 ·obtain⟨y,d⟩:=u.slot b o e n c (f b)
  obtain⟨_,p,g,l⟩:=r.mem c;rw[d]at g;cases g;obtain⟨j,v⟩:=s b _ d l
  grind
 ·obtain⟨p,d⟩:=u.there b o e (f b)
  by_cases c:b∈frs outer
  ·obtain⟨_,A,g,l⟩:=r.mem c
   obtain⟨j,v⟩:=s b _ g l
   grind
  ·exact⟨p,st b _ (i b _ d c (.inl ⟨o,e⟩))⟩
 ·have m := λb u t e=>st b u (i b u e (λz=>t (k b z)) (.inr t))
  refine (hk a o e).stay (λb u C x=>m b u ?_ x) (λ_ q=>q) λ_ _ q=>q
  grind
end
def TrD (h B:Heap)(e:Addr)(c:Value)(d:Option Addr)(fl:Value):Prop :=
 ∃oe vs T oT ts,h.get? e=some oe/\(oe.cls=c/\oe.dict=d)/\oe.data=.fields vs/\vs[1]?=some (.ref T)/\(B.get? T=none/\T≠e)/\h.get? T=some oT/\oT.data=.fields ts/\ts[3]?=some fl
structure FlyD (B:Heap) (l:List Env) (e:Addr) (c:Value) (d:Option Addr) (fl:Value) (h:Heap):Prop where
 st:B.StaysIn h
 no:B.get? e=none
 ff:h.FunFrames B l
 tr:TrD h B e c d fl
theorem Xe (o:Obj)(f:v7->v7):(o.mapFields f).dict=o.dict:=by
 obtain⟨c,d,a,b⟩:=o
 cases a <;> rfl
section
variable {M:Model}{A:t_}{E:z_}{s:u_}{B:Heap}{env:Env}{l outer:List Env}{L e:Addr}{oe:Obj}{vs:v7}{c fl:Value}{d:Option Addr}{Q:Unit->u_->Prop}
theorem FlyD.there {h:Heap}(x:FlyD B l e c d fl h):∃o,h.get? e=some o/\o.cls=c/\o.dict=d/\∃vs,o.data=.fields vs:=let ⟨oe,vs,_,_,_,he,hc,hd,_⟩:=x.tr; ⟨oe,he,hc.1,hc.2,vs,hd⟩
theorem FlyD.out {h:Heap}(x:FlyD B (env::l) e c d fl h):FlyD B l e c d fl h:=⟨x.st,x.no,x.ff.2.2,x.tr⟩
theorem V7 {h:Heap}{T:Addr}{a:Obj}{ts:v7}{f:Obj->Obj}(d:h.get? T=some a)(hd:a.data=.fields ts):(∀b,b≠T->(h.update T f).get? b=h.get? b)/\∀b o,h.get? b=some o->(∀vs,o.data≠.fields vs)->b≠T :=
 ⟨λb n=>cH _ _ (aD n),λb o q c z=>by grind⟩
theorem Al4 {c:Value}{hn:Bool}(k:A.frames=some (env::outer))(st:B.StaysIn s.heap)(y:B.get? e=none)(hl:s.heap.FunFrames B (env::outer))(G:env.frame=some L)(he:s.heap.get? e=some oe)(hd:oe.data=.fields vs)(hz:1<vs.size)
 (x:∀h',FlyD B (env::outer) e oe.cls oe.dict (rawInt L) h'->s.heap.UpToSlots h'->Q () { s with heap:=h' }) :
 wpAny M A (frameOf env >>= λa=>entryPlaceOf L hn >>= λg=>EntryCells.newEntry c a .none (rawInt L) .none g >>= λb=>setField (.ref e) 1 b) Q E s:=by
 have C:e∉(env::outer).filterMap (·.frame):=λm=>by
  obtain⟨_,o,q,D⟩:=hl.mem m
  simp_all
 refine aj (wpAny_frameOf_fun k hl G λd j=>aj (wpAny_entryPlaceOf λg F=>?_))
 unfold EntryCells.newEntry newFields
 refine aj (bO ?_ (F.sizeOk5 _ _ _ _ _))
 have r:([c,.ref L,.none,rawInt L,.none]++(if g.isEmpty then List.replicate 6 Value.none else g)).toArray[3]?=some (rawInt L):=by simp
 have u:d.get? e=some oe:=(j.2.1 e C).trans he
 have v:B.StaysIn d:=λb o q=>(j.2.1 b λm=>by rw[(hl.mem m).1]at q;cases q).trans (st b o q)
 generalize ([c,.ref L,.none,rawInt L,.none]++(if g.isEmpty then List.replicate 6 Value.none else g)).toArray=ts at r
 generalize hob:({ cls:=.type "traceback",dict:=none,data:=.fields ts }:Obj)=ob
 have h:ob.data=.fields ts:=by grind
 have l:ob.isFreed=false:=eV h;have p:=aC ob u;have t:d.objs.size≠e:=bQ (az u)
 obtain⟨i,D⟩:=V7 (f:=Obj.mapFields (·.setIfInBounds 1 (.ref d.objs.size))) p hd
 have w:=du hd (·.setIfInBounds 1 (.ref d.objs.size))
 have I:∀b o,b≠e->d.get? b=some o->((d.push _).update e _).get? b=some o:=λb o n q=>(i b n).trans (aC _ q)
 refine gQ p hd hz (x _ ⟨λb o q=>I b o λz=>by grind (v b o q),y,hl.of_keeps λb o q n=>?_,?_⟩ λb o q n=>?_)
 ·obtain⟨J,H⟩:=j.2.2 b o q
  grind
 ·exact⟨_,_,d.objs.size,ob,ts,cu _ p (eV w),⟨iH _ _,Xe _ _⟩,w,by grind,⟨v.fresh,t⟩,(i _ t).trans (aJ _ l),h,r⟩
 ·obtain⟨J,H⟩:=j.2.2 b o q
  grind
theorem Av5 (a:A.frames=some (env::outer))(st:B.StaysIn s.heap)(d:B.get? e=none)(hl:s.heap.FunFrames B (env::outer))(b:env.frame=some L)(he:s.heap.get? e=some oe)(hd:oe.data=.fields vs)(h1:vs[1]?=some .none)
 (c:∀h',FlyD B (env::outer) e oe.cls oe.dict (rawInt L) h'->s.heap.UpToSlots h'->Q () { s with heap:=h' }):wpAny M A (noteFrame (.ref e) env) Q E s:=by
 unfold noteFrame;simp only[b]
 refine aj (aY he hd h1 ?_)
 exact Al4 a st d hl b he hd (iR.mp h1).1 c
theorem A2g (h:A.frames=some (env::outer))(l:env.frame=some L)(x:FlyD B (env::outer) e c d .none s.heap)
 (D:∀g,FlyD B (env::outer) e c d (rawInt L) g->s.heap.UpToSlots g->Q () { s with heap:=g }):wpAny M A (noteFrame (.ref e) env) Q E s:=by
 obtain⟨v,y,w,oe,vs,T,oT,ts,r,⟨rfl,rfl⟩,k,m,⟨hB,C⟩,j,i,p⟩:=x
 obtain⟨a,t⟩:=V7 (f:=Obj.mapFields (·.setIfInBounds 3 .none)) j i
 unfold noteFrame;simp only[l]
 refine aj (aY r k m ?_)
 rw[if_pos (by simp)]
 refine aj (aY j i p ?_)
 refine aj (gQ j i (iR.mp p).1 ?_)
 exact Al4 h (λb o q=>(a b λz=>by simp_all).trans (v b o q)) y (w.of_keeps λb o q n=>⟨o,(a b (t b o q n)).trans q,rfl⟩) l ((a e (aD C)).trans r) k (iR.mp m).1
  λg f u=>D _ f λb o q n=>u b o ((a b (t b o q n)).trans q) n
theorem Vg (x:FlyD B l e c d fl s.heap)(v:∀h',FlyD B l e c d .none h'->s.heap.UpToSlots h'->Q () { s with heap:=h' }):wpAny M A (setFlight (.ref e) none) Q E s:=by
 obtain⟨F,D,t,H,w,T,J,I,k,u,p,m,⟨y,j⟩,h,g,C⟩:=x;obtain⟨a,r⟩:=V7 h g;have G:=(iR.mp C).1
 refine aj (aY k p m ?_)
 have i:=du g (·.setIfInBounds 3 ((none:Option _).elim Value.none λf=>rawInt f))
 refine gQ h g G (v _ ⟨λb o q=>(a b λz=>by simp_all).trans (F b o q),D,t.of_keeps λb o q n=>⟨o,(a b (r b o q n)).trans q,rfl⟩,?_⟩ λb o q n=>⟨o.slots,(a b (r b o q n)).trans q⟩)
 exact⟨H,w,T,_,_,(a e (aD j)).trans k,u,p,m,⟨y,j⟩,cu _ h (eV i),i,by grind⟩
theorem Ap5 (a:A.frames=some (env::outer))(f:env.frame=some L)(x:FlyD B (env::outer) e c d .none s.heap)(g:∀h',FlyD B outer e c d .none h'->s.heap.UpToSlots h'->Q () { s with heap:=h' }):wpAny M A (leaving env (.ref e)) Q E s :=
 aj (A2g a f x λk j h=>Vg j λl i b=>g _ i.out (h.trans b))
theorem Am7 (a:A.frames=some (env::outer))(st:B.StaysIn s.heap)(c:B.get? e=none)(hl:s.heap.FunFrames B (env::outer))(d:env.frame=some L)(he:s.heap.get? e=some oe)(hd:oe.data=.fields vs)(h1:vs[1]?=some .none)
 (f:∀h',FlyD B outer e oe.cls oe.dict .none h'->s.heap.UpToSlots h'->Q () { s with heap:=h' }):wpAny M A (leaving env (.ref e)) Q E s :=
 aj (Av5 a st c hl d he hd h1 λh1 g h=>Vg g λj i b=>f _ i.out (h.trans b))
end
structure Fly (outer:List Env) (H':Hp) (h0:Heap) (a:Addr) (cls:Value) (d:Option Addr) (h:Heap):Prop where
 fl:∃B,FlyD B outer a cls d .none h/\Cov (frs outer) H' h0 h B
 new:∀b o,h0.get? b=some o->b≠a
 free:H' a=none
def CXe (P:u6)(w:World):CXT:=λouter H s E e s'=>∃a C d H',e=.ref a/\Fly outer H' s.heap a (.ref C) d s'.heap/\s'.os=s.os/\AllBare s'.gens/\Un (frs outer) [] H H' s.heap s'.heap/\HOk P w H' s'.heap/\E (.ref C) d H'
section
variable {X:Cx}{pins:y_}{σ:St}{H H':Hp}{s s':u_}
theorem Inv.flown {h2 B:Heap}{tk:Nat}(I:Inv X pins σ H s)(u:Un (frs X.stack) [] H H' s.heap s'.heap)(hk:HOk X.prog X.w H' s'.heap)(h:s'.os=s.os)(a:AllBare s'.gens)
 (l:s'.heap.FunFrames B X.stack) (c:Cov (frs X.stack) H' s.heap s'.heap B) (st:B.StaysIn h2) (g:s'.heap.UpToSlots h2):Inv X pins σ H' { s' with heap:=h2,toks:=tk }:=by
 have d:∀b∈frs _,H' b=none:=λb e=>by
  obtain⟨_,o,i,_⟩:=I.stack.mem e
  exact u.free b o i (I.stkFree b e) λz=>nomatch z
 obtain⟨j,k⟩:=B0y u hk c l d st g
 obtain⟨v,f,I2,_,rfl⟩:=I.after (s':={ s' with heap:=h2,toks:=tk }) (Q:=λ_ f=>f=H') ⟨.non,H',h,a,j,k,rfl,rfl⟩
 grind
end
section
variable {P:u6}{w:World}{K:v9}{mg:x_}{base:Heap}{N:v4}{qual:Str}{scope:Scope}{f:Addr}{cd:Value}{A:t_}{outer:List Env}{s₀:u_}{H₀:Hp}{E:XK}
theorem Zg:Lj (CXe P w) (Jm (CXe P w) P w K mg base N qual scope f cd A outer s₀ H₀ E) E:=by
 intro t σ H s e x I h;obtain⟨a,C,d,D,rfl,⟨⟨B,y,m⟩,Q,L⟩,v,c,u,j,q⟩:=h
 refine Ap5 I.ok.frames rfl y λG g F=>?_
 have n:Inv (Jm (CXe P w) P w K mg base N qual scope f _ A _ _ _ E) _ _ _ { x with heap:=G }:=I.flown u j v c y.ff m g.1 F
 have J:∀b o,s₀.heap.get? b=some o->∃r,s.heap.get? b=some _:=λb o e=>I.base.there b o e λz=>nomatch z
 refine⟨a,C,d,D,rfl,⟨⟨B,g,λb o e hf l=>?_⟩,λb o e=>?_,L⟩,v.trans I.os,c,n.base,n.hok,q⟩
 ·have nl:b≠(envOfC qual scope s₀.heap.objs.size f cd).locals:=by
   rintro rfl
   rcases l with ⟨M,k⟩ | l
   ·exact absurd (az k) (bh _)
   ·exact l n.free
  have p:b∉frs _:=λz=>by
   rcases aB.mp (I.stkSub b z) with q | q
   ·trivial
   trivial
  have i:∃r,x.heap.get? b=some r:=by
   rcases l with ⟨M,k⟩ | l
   ·obtain⟨o1,O⟩:=J b _ k
    exact u.there b _ O λz=>nomatch z
   ·cases q':D b with
    | none=>grind
    | some ho=>exact(j b _ q').there
  obtain⟨r,k⟩:=i
  have:=m b _ k p (by
   grind)
  have e2:=g.1 b _ this
  simp_all
 grind
end
structure MadeX (h h':Heap) (e C:Addr) (d:Option Addr):Prop where
 keeps:∀b o,h.get? b=some o->h'.get? b=some o
 new:h.get? e=none
 there:∃oe vs,h'.get? e=some oe/\oe.cls=.ref C/\oe.dict=d/\oe.data=.fields vs/\vs[1]?=some .none
def Raises (X:Cx)(E:XK):Prop:=∀(pins:y_) (σ:St) (H:Hp) (s:u_) (h':Heap) (e C:Addr) (d:Option Addr),Inv X pins σ H s->MadeX s.heap h' e C d->E (.ref C) d H->X.xe (.ref e) { s with heap:=h' }
section
variable {P:u6}{w:World}{K:v9}{mg:x_}{base:Heap}{N:v4}{qual:Str}{scope:Scope}{f:Addr}{cd:Value}{A:t_}{outer:List Env}{s₀:u_}{H₀:Hp}{E:XK}
theorem Zf:Raises (Jm (CXe P w) P w K mg base N qual scope f cd A outer s₀ H₀ E) E:=by
 intro F σ H s p e C d I c q;obtain⟨oe,vs,U,mc,L,M,O⟩:=c.there
 let X:=Jm (CXe P w) P w K mg base N qual scope f cd A outer s₀ H₀ E
 have n:(hideAll s.heap (frs X.stack)).StaysIn s.heap:=λb o z=>of_hideAll _ z
 have V:s.heap.FunFrames (hideAll s.heap (frs X.stack)) X.stack:=funFrames_hide I.stack λv Y b a=>dY.mpr ⟨v,Y,a⟩
 have m:p.FunFrames (hideAll s.heap (frs X.stack)) X.stack:=V.of_keeps λb o z _=>⟨o,c.keeps b o z,rfl⟩
 have h:HOk P w H p:=I.hok.kept c.keeps
 have J:H e=none:=by
  cases z:H e with
  | none=>rfl
  | some t =>
   obtain⟨u,l⟩:=(I.hok e t z).there;rw[c.new]at l;cases l
 have k:Cov (frs X.stack) H _ _ _:=λb o z x a=>by
  have:∃u,s.heap.get? b=some u:=by
   rcases a with a | a
   ·exact a
   ·cases y:H b with
    | none=>exact absurd y a
    | some t=>exact(I.hok b _ y).there
  obtain⟨u,l⟩:=this;have:=c.keeps b u l;rw[z]at this;cases this;exact hideAll_get _ l x
 have Q:(hideAll s.heap (frs X.stack)).get? e=none:=by
  cases z:(hideAll _ _).get? e with
  | none=>rfl
  | some o =>
   have y:=n e o z;rw[c.new]at y;cases y
 refine Am7 I.ok.frames (λb o z=>c.keeps b o (n b o z)) Q m rfl U M O λR g T=>?_
 rw[mc,L]at g
 have D:Inv X _ _ H { s with heap:=R }:=I.flown (s':={ s with heap:=p }) (Un.kept c.keeps) h rfl I.bare m k g.1 T
 have G:∀b o,s₀.heap.get? b=some o->∃r,s.heap.get? b=some _:=λb o z=>I.base.there b o z λz=>nomatch z
 refine⟨e,C,d,H,rfl,⟨⟨_,g,λb o z x a=>?_⟩,λb o z y=>?_,J⟩,I.os,I.bare,D.base,D.hok,q⟩
 ·have W:b≠(envOfC qual scope s₀.heap.objs.size f cd).locals:=by
   rintro rfl
   rcases a with ⟨S,i⟩ | a
   ·exact absurd (az i) (bh _)
   ·exact a D.free
  have B:b∉frs _:=λz=>by
   rcases aB.mp (I.stkSub b z) with q | q
   ·exact W q
   ·exact x q
  have j:∃r,p.get? b=some r:=by
   rcases a with ⟨S,i⟩ | a
   ·obtain⟨o1,Z⟩:=G b _ i
    exact⟨o1,c.keeps b _ Z⟩
   ·cases q':H b with
    | none=>exact absurd q' a
    | some t=>exact(h b _ q').there
  obtain⟨r,i⟩:=j
  have:=k b _ i B (by
   grind)
  have e2:=g.1 b _ this
  simp_all
 ·obtain⟨r,i⟩:=G b o z
  rw[y,c.new]at i;cases i
end
theorem Bb3 {h h':Heap}{e C:Addr}{a:w6}(x:Heap.MadeExcOf h h' e (.ref C) a):MadeX h h' e C none:=let ⟨_,q,_⟩:=x.there; ⟨x.keeps,x.new,_,_,q,rfl,rfl,rfl,rfl⟩
theorem Nq {K:v9}{h:Heap}{C:Addr}(X:K.In h)(q:Am6 K C=true):∃c N g i m j b k a dd k0 k1 k2 k3 k5,h.get? C=some (excClassObj g i C N m c true j b k a dd k0 k1 k2 k3 k5 "ValueError.__new__")/\OwnTail h bmV c:=by
 unfold Am6 at q
 split at q
 ·rename_i d1 D v F
  have E:=X _ _ F
  simp at q
  obtain⟨⟨⟨y,B⟩,e⟩,d⟩:=q
  split at e
  ·rename_i A c x
   split at d
   ·rename_i r s t u n p o
    simp at e d
    obtain⟨H,w⟩:=e;obtain⟨g,m,z,f,i,hd,j,b,k,a,G⟩:=D;subst H x y B d
    obtain rfl:v=#[r,s,t,u,some (.builtin "ValueError.__new__"),p]:=by
     obtain⟨l⟩:=v
     dsimp only at o
     rw[o]
    exact⟨c,f,g,i,m,j,b,k,a,_,r,s,t,u,p,E,tail_of_in X w⟩
   ·cases d
  ·cases e
 ·cases q
theorem Bk4 {K:v9}{h:Heap}{C:Addr}(X:K.In h)(q:exP K C=true):∃c N e f g i a d b l m n k r p mN,h.get? C=some (excClassObj e f C N g c true i a d b l m n k r p "ValueError.__new__")/\h.Ns N mN/\mN "__init__" = none/\OwnTail h bmV c:=by
 obtain⟨v,j⟩:=aA.mp q;obtain⟨c,N,e,f,g,i,a,d,b,l,m,n,k,r,p,s,T⟩:=Nq X v;unfold noI at j
 cases hl:K.lookup C with
 | none=>grind
 | some o =>
  rw[hl]at j
  cases (X _ _ hl).symm.trans s
  obtain⟨t,u⟩:=aA.mp (show (nsOkIn K N&&nsIn K N _==some _)=true from j)
  exact⟨c,N,e,f,g,i,a,d,b,l,m,n,k,r,p,h.nsMap N,s,.of_isNs (isNs_of_in X t),nsMap_none_of_in X t (dJ.mp u),T⟩
section
variable {X:Cx}{x:Str}{C:Addr}{np cpos pos:Pos}{e:Expr}{es:v_}{t:TA}{E:XK}
def A6m (C:Addr)(E:XK)(t:TA):TS:=λ_ σ H=>t σ H λvs H1=>vs.length<=sizeLine/\E (.ref C) none H1
theorem Ao1 (M:Raises X E)(hc:X.calm=true)(hg:Gl X x)(hm:X.mg x=some (.ref C))(A:exP X.K C=true)(ha:QA X (e::es) t)(hdb:(x==("__debug__" : Str))=false:=by decide)
 (he:starEach (e::es) X.env=(false,eval e X.env)::starEach es X.env:=by rfl) (hpl:(backTo cpos (starEach es X.env)).any (·.1)=false:=by rfl) :
 QS X (.Raise (some (.Call (.Name x np) (e::es) [] cpos)) none pos) (A6m C E t):=by
 obtain⟨ha⟩:=ha
 refine⟨?_⟩
 intro k s S H D I h;obtain⟨R,J,m,B,u,w,b,j,a,l,g,n,o,i,p,O,F,G,c,T⟩:=Bk4 I.mod.kin A
 have f:(backTo cpos (starEach (e::es) X.env)).any (·.1)=false:=by
  rw[he]
  show (false||(backTo cpos (starEach es X.env)).any (·.1))=false
  grind
 refine wpAny_Raise_call_subT (C:=C) (nm:=m) (q:=B) (N:=J) (bs:=u) (hdct:=true) (sn:=w) (sub:=b) (ab:=j) (col:=a) (dd:=l) (k0:=g) (k1:=n) (k2:=o) (k3:=i) (k5:=p) PySem.F.excBase_ValueError (T.hasType PySem.F.excBase_ValueError.hasBase) (I.ok.hd hc) f c (Od I hg hm ⟨rfl,?_⟩ hdb)
 have r:=ha cpos _ s _ H _ I h;rw[he]at r ⊢
 refine gJ (aU r (λU V ⟨P,Q,v,L,z,K⟩=>?_) λ_ _ z=>z)
 have d := v.bk
 exact⟨rfl,by rw[<- L.length];grind,d _ _ F,G.keeps d,T.keeps d,λW Y y=>M _ _ _ _ _ _ C _ v (Bb3 y) K⟩
end
section
variable {X:Cx}{pins:y_}{σ:St}{H:Hp}{s:u_}{k:Nat}{f:Addr}{E:XK}{x:Str}{p:Pos}{e:Expr}{t:TA}{Q:VK}
noncomputable def Rt (a C:Addr) (d:Option Addr):HO:=.ext λh=>∃o,h.get? a=some o/\o.cls=.ref C/\o.dict=d/\∃vs,o.data=.fields vs
theorem Bn8 {P:u6}{w:World}{a C:Addr}{d:Option Addr}{h:Heap}{o:Obj}(e:h.get? a=some o)(c:o.cls=.ref C)(hd:o.dict=d/\∃vs,o.data=.fields vs):zB P w H h a (Rt a C d) :=
 ⟨⟨o,e,c,hd⟩,⟨o,e⟩,λf b ⟨o,e,c⟩ k=>⟨o,k o e,c⟩⟩
theorem Inv.track {a:Addr}{o:HO}(I:Inv X pins σ H s)(hn:H a=none)(w:X.s₀.heap.get? a=none)(l:a≠X.env.locals)(h2:∀x c,X.env.cells.lookup x=some c->c≠a)(m:∀p∈X.pn++pins,p.1≠a)
 (i:zB X.prog X.w (upd H a o) s.heap a o):Inv X pins σ (upd H a o) s:=by
 have d:∀b u,H b=some u->b≠a:=λb u e z=>by grind
 have h:∀b u,X.s₀.heap.get? b=some u->b≠a:=λb u e z=>by simp_all
 refine⟨I.ok,I.os,I.bare,⟨I.base.keep,I.base.slot,λb u e n j=>by rw[Ag (h b u e)];exact I.base.free b u e n j,I.base.there,λb f e=>by
  have:=I.base.tups b f e
  rw[Ag (d _ _ this)];exact this,λb u v e=>by
  have:=I.base.frzs b u v e
  rw[Ag (d _ _ this)];exact this,λb A e=>by
  have:=I.base.tbls b _ e
  rw[Ag (d _ _ this)];exact this⟩,I.loc,I.cell,by rw[Ag (aD l)];exact I.free,λy c e=>by rw[Ag (h2 y c e)];exact I.freeC y c e,λp g=>?_,λb u e=>?_,I.len⟩
 ·obtain⟨k,q,r⟩:=I.pin p g
  exact⟨k,by rw[Ag (m p g)];exact q,r⟩
 ·by_cases hb:b=a
  ·subst hb
   rw[Ax]at e;grind
  ·rw[Ag hb]at e
   exact(I.hok b u e).stay (λc v _ z=>z) (λc z=>by rw[Ag (d _ _ z)];exact z) (λc f z=>by rw[Ag (d _ _ z)];exact z) λc t f z=>by rw[Ag (d _ _ z)];exact z
theorem Inv.unbound {j:Nat}{n:Str}{h':Heap}{m x:x_}{tk:Nat}(I:Inv X pins σ H s)(hN:X.N.Nodup)(hj:X.N[j]?=some n)(hm:s.heap.Ns X.env.locals m)(t:h'.Ns X.env.locals x)(l:∀y,y≠n->x y=m y)(J:Heap.SameBut X.env.locals s.heap h') :
 Inv X pins (σ.set j none) H { s with heap:=h',toks:=tk }:=by
 have d:∀b u,b≠X.env.locals->s.heap.get? b=some u->h'.get? b=some u:=λb u K e=>J.extBut b u K e
 have A:∀b u,X.s₀.heap.get? b=some u->b≠X.env.locals:=λb u e z=>by
  have:=az e;rw[z]at this;exact absurd (aK this I.ok.above) (bh _)
 have B:∀{y:Str} {c:Addr} {v:u9},X.env.cells.lookup y=some c->s.heap.IsCell c v->h'.IsCell c v:=λ{y c v} e ⟨o,N,M⟩=>⟨o,d c o (I.cne y c e) N,M⟩
 refine⟨I.ok,I.os,I.bare,⟨λb u e n p g=>d b u (A b u e) (I.base.keep b u e n p g),λb u e n p g=>?_,I.base.free,λb u e g=>?_,I.base.tups,I.base.frzs,I.base.tbls⟩,⟨x,t,λi y v k D T=>?_⟩,λy c e=>?_,I.free,I.freeC,λq U=>?_,λb u e=>?_,by rw[bT];exact I.len⟩
 ·obtain⟨G,q⟩:=I.base.slot b u e n p g
  exact⟨G,d b _ (A b u e) q⟩
 ·obtain⟨C,q⟩:=I.base.there b u e g
  exact⟨C,d b C (A b u e) q⟩
 ·have E:i≠j:=λz=>by
   grind
  rw[cB (aD E)]at D;obtain⟨L,w,F⟩:=I.loc
  have O:L=m:=by
   obtain⟨o1,P,p1,g1,d1,_,f1⟩:=w;obtain⟨o2,Q,p2,Z,d2,_,f2⟩:=hm
   grind
  subst O;obtain⟨u,r,R⟩:=F i y v k D T
  refine⟨u,r,?_⟩
  rcases R with ⟨f,a⟩ | ⟨f,c,a,h⟩
  ·have S:y≠n:=λz=>E (by
    subst z
    exact(List.getElem?_inj (bG.mp k).1 hN).mp (k.trans hj.symm))
   exact .inl ⟨f,by rw[l y S];exact a⟩
  ·exact .inr ⟨f,c,a,B a h⟩
 ·obtain⟨v,z⟩:=I.cell y c e
  exact⟨v,B e z⟩
 ·obtain⟨f,a,h,V⟩:=I.pin q U
  exact⟨d _ _ h f,a,h,V⟩
 ·have W:∀b u v,H b=some u->s.heap.get? b=some v->h'.get? b=some v:=λb u v z e=>d b v (λy=>by rw[y,I.free]at z;cases z) e
  refine (I.hok b u e).stay (λc v Y z=>?_) (λ_ z=>z) λ_ _ z=>z
  grind
noncomputable def S6 (X:Cx) (a:Addr):Cx:={ X with A:=X.A.mark (some (.ref a)),calm:=false,xe:=λ_ _=>False }
theorem Inv.mark (I:Inv X pins σ H s)(a:Addr):Inv (S6 X a) pins σ H s :=
 ⟨⟨I.ok.mod,I.ok.kind,I.ok.glob,I.ok.blt,I.ok.above,I.ok.inj,I.ok.has,I.ok.cab,(λz=>nomatch z),I.ok.frames,I.ok.stk,I.ok.exf,I.ok.bs,I.ok.bsz,I.ok.noex,I.ok.exfs,I.ok.funs,I.ok.frf,I.ok.tab⟩,I.os,I.bare,I.base,I.loc,I.cell,I.free,I.freeC,I.pin,I.hok,I.len⟩
theorem Inv.unmark {a:Addr}(b:X.Ok)(I:Inv (S6 X a) pins σ H s):Inv X pins σ H s:=⟨b,I.os,I.bare,I.base,I.loc,I.cell,I.free,I.freeC,I.pin,I.hok,I.len⟩
end
section
variable {X:Cx}{pins:y_}{σ:St}{H H1:Hp}{s s1 s':u_}{E:XK}{D:Ends}{y n:Str}{Fc:Addr}{yp hpos:Pos}{b₀:Stmt}{suite:List Stmt}{th:TS}{j:Nat}{ev:Value}
theorem A3c (U:X.ex=[])(hs:X.stack=X.env::X.outer/\X.env.frame=some X.env.locals)(hN:X.N.Nodup)(hj:X.N[j]?=some n)(l:X.env.scope.names.lookup n=some .local)(hg:Gl X y)(hm:X.mg y=some (.ref Fc))(hsu:∀a,PSs (S6 X a) (b₀::suite) th)
 (I:Inv X pins σ H1 s1) (cx:CXe X.prog X.w X.stack H1 s1 E ev s') (hE:∀C d t,E (.ref C) d t->exmOne X.K (.ref C) (.ref Fc)=some true/\∀a,t a=none->th { nx:=λZ H3=>D.nx (Z.set j none) H3,rt:=D.rt } (σ.set j (some (.ref a))) (upd t a (Rt a C d)))
 (hdb:(y==("__debug__" : Str))=false:=by decide) :
 wpAny (model X.prog X.w) X.A (noteFrame ev X.env) (λ_ R=>wpAny (model X.prog X.w) X.A (setFlight ev none) (λ_ L=>wpAny (model X.prog X.w) X.A (handleBy ev X.env [.ExceptHandler (some (.Name y yp)) (some n) (b₀::suite) hpos]) (SP X pins D) X.xe L) X.xe R) X.xe s':=by
 obtain⟨a,C,d,t,rfl,⟨⟨B,fl,N⟩,k,fr⟩,os,r,u,Q,q⟩:=cx;obtain⟨hex,G⟩:=hE C d t q;have G:=G a fr;have H:=fl;rw[hs.1]at H
 refine A2g (I.ok.frames.trans (bU some hs.1)) hs.2 H λh4 J K=>?_
 refine Vg (s:={ s' with heap:=h4 }) J λS A P=>?_
 have I5:Inv X pins σ t { s' with heap:=S }:=I.flown (tk:=s'.toks) u Q os r fl.ff N A.1 (K.trans P)
 obtain⟨ob,W,Y,_⟩:=A.there;have LT:Looks (model X.prog X.w) S (typeOf (.ref a)) (.ref C):=Y▸(Looks.ld W).andThen .now;have LX:=exm_one (M:=model X.prog X.w) (h:=S) I5.kIn LT hex
 refine wpAny_handleBy_cons (codeAny_handlers_test (Od (X:=S6 X a) (I5.mark a) hg hm ?_ hdb)) (by intro z;cases z)
 refine LX.here ?_
 refine codeAny_handlers_suite_as ?_
 refine Vg (s:={ s' with heap:=S }) A λh6 O up6=>?_
 have I6:Inv X pins σ t { s' with heap:=h6 }:=I.flown (tk:=s'.toks) u Q os r fl.ff N O.1 ((K.trans P).trans up6)
 obtain⟨o6,ho6,hc6,hd6⟩:=O.there
 have n0:X.s₀.heap.get? a=none:=by
  cases z:X.s₀.heap.get? a with
  | none=>rfl
  | some o0 =>
   obtain⟨o1,e1⟩:=I.base.there a o0 z (by rw[U];simp)
   exact absurd rfl (k a o1 e1)
 have I7:Inv X pins σ (upd t a (Rt a C d)) { s' with heap:=h6 }:=I6.track fr n0 (λz=>by
  obtain⟨m,⟨o,es,ep,e,_⟩,_⟩:=I.loc
  exact k _ o e z.symm) (λy c e z=>by
  obtain⟨v,o,e1,_⟩:=I.cell y c e
  exact k c o e1 z) (λp hp z=>k _ _ (I.pin p hp).1 z) (Bn8 ho6 hc6 hd6)
 refine Gx (v:=.ref a) I7 hN hj (.inl l) rfl (λs8 I8=>?_) (.inr l)
 refine aU (hsu a _ _ _ _ _ (I8.mark a) G) (λfw s9 T=>?_) λ_ _ z=>z.elim
 have x:(X.env.scope.kind==.class||X.env.scope.kind==.module&&X.env.locals != X.env.globals)=false:=by rw[I.ok.kind];rfl
 cases fw with
 | next =>
  obtain⟨V,H9,i,F⟩:=T;have i:=i.unmark I.ok;obtain⟨m,g,_⟩:=id i.loc
  exact wpAny_nameGoes_keeps l g x λh10 v f sb=>⟨_,H9,i.unbound hN hj g f (λy hy=>if_neg hy) sb,F⟩
 | ret w =>
  obtain⟨v,V,H9,i,r9,F⟩:=T;have i:=i.unmark I.ok;obtain⟨m,g,_⟩:=id i.loc
  exact wpAny_nameGoes_keeps l g x λh10 v' f sb=>⟨v,_,H9,i.unbound hN hj g f (λy hy=>if_neg hy) sb,r9,F⟩
 | brk=>obtain⟨_,_,_,F⟩:=T;exact F.elim
 | cont=>obtain⟨_,_,_,F⟩:=T;exact F.elim
end
section
variable {prog:u6}{w:World}{A:t_}{E:z_}{h:Heap}{g:Array GenState}{d:Drawn}{t:Nat}{os:OsState}{a C:Addr}{o:Obj}{K:v9}
structure Sv (K:v9) (C:Addr):Prop where
 exc:Am6 K C=true
 ga:findIn K (.ref C) "__getattribute__" = some (some (.builtin "BaseException.__getattribute__"))
 gat:findIn K (.ref C) "__getattr__" = some none
 cls:findIn K (.ref C) "__class__" = some (some (.builtin "object.__class__"))
theorem B2d {R:Result->u_->Prop}(X:K.In h)(Z:Sv K C)(hx:h.get? a=some o)(hc:o.cls=.ref C)(q:R (.ok (.ret (.ref C))) ⟨h,g,d,t,os⟩) :
 codeAny (model prog w) A (.call (.builtin "getset_descriptor.__get__") ⟨[.builtin "object.__class__",.ref a,.ref C],[]⟩) R ⟨h,g,d,t,os⟩:=by
 obtain⟨i,l,n,z,B,m,j,p,k,r,s,u,v,x,y,f,T⟩:=Nq X Z.exc;have c:(⟨h,g,d,t,os⟩:u_).TypeIs (.builtin "object.__class__") "getset_descriptor" := jq
 have e:(Value.ref C::i).contains (.type (".".intercalate ("object.__class__".cutAt '.').dropLast))=true:=by
  rw[PySem.F.owner_object_class,jr,T.hasType (X := "object") (b:=true) rfl];rfl
 refine codeAny_call_builtin PySem.F.slot_gs_get.plain PySem.F.entry_gs_get (PySem.F.slot_gs_get.check _ _ _ _ _ _ _ _ c (PySem.F.args_gs_get _ _ _) ?_)
 repeat (any_goals (first | assumption | (with_reducible refine gU hx ?_;rw[hc]) | (with_reducible refine wpAny_isSubtype_exc f ?_;rw[e]) | wp_step))
 refine⟨Code.quiet_builtin _ (by decide +kernel),fc PySem.F.entry_object_class ?_⟩
 repeat (any_goals (first | assumption | (with_reducible refine gU hx ?_;rw[hc]) | wp_step))
theorem Bd7 {tk:Tok}{Q:Fin->u_->Prop}(X:K.In h)(Z:Sv K C)(hx:h.get? a=some o)(hc:o.cls=.ref C)(e:Q (.done (.ret (.ref C))) ⟨h,g,d,t,os⟩) :
 wpAny (model prog w) A (Builtin.«object.__getattribute__» ⟨[.ref a,.str "__class__" tk],[]⟩) Q E ⟨h,g,d,t,os⟩:=by
 have b:(⟨h,g,d,t,os⟩:u_).TypeIs (.builtin "object.__class__") "getset_descriptor" := jq;have f:=jq;have i:=PySem.F.slot_gs_get.lookup;have j:=PySem.F.slot_gs_set.lookup;have c:=looks_findIn (M:=model prog w) X Z.cls
 repeat (any_goals (first | assumption | (with_reducible refine gU hx ?_;rw[hc]) | with_reducible refine c.here ?_ | wp_step))
 refine B2d X Z hx hc ?_
 repeat (any_goals (first | assumption | wp_step))
theorem A8a {M:Model}{c:Value}{Q:Unit->u_->Prop}(X:K.In h)(Z:Sv K C)(hx:h.get? a=some o)(hc:o.cls=.ref C)(m:Q () ⟨h,g,d,t,os⟩):wpAny M A (checkBuiltinCall "BaseException.__getattribute__" ⟨[.ref a,c],[]⟩) Q E ⟨h,g,d,t,os⟩:=by
 obtain⟨j,p,F,z,B,D,k,q,f,s,u,v,w,x,y,l,T⟩:=Nq X Z.exc
 have i:builtinKind "BaseException.__getattribute__" = some .slot:=by decide +kernel
 have e:splitId "BaseException.__getattribute__" = some ("BaseException", "__getattribute__"):=by decide +kernel
 have n:(Value.ref C::j).contains (.type "BaseException")=true:=by rw[jr,T.hasType (X := "BaseException") (b:=true) rfl];rfl
 have r:=PySem.F.args_bexc_ga (.ref a) c;simp only[checkBuiltinCall,i,e]
 refine aj ?_
 unfold isInstance
 repeat (first | (with_reducible refine gU hx ?_;rw[hc]) | (with_reducible refine wpAny_isSubtype_exc l ?_;rw[n]) | wp_step)
 exact m
theorem B3s {tk:Tok}{Q:z_}(X:K.In h)(Z:Sv K C)(hx:h.get? a=some o)(hc:o.cls=.ref C)(j:Q (.ref C) ⟨h,g,d,t,os⟩):wpAny (model prog w) A (getAttrBy (.ref a) (.str "__class__" tk) false) Q E ⟨h,g,d,t,os⟩:=by
 have f:=PySem.F.excAttr_ValueError.ga.bind (.ref a)
 have e:(Value.builtin "BaseException.__getattribute__" == Value.builtin "object.__getattribute__")=false:=by decide +kernel
 have i:(onTheHeap (Value.ref C)&&Value.builtin "BaseException.__getattribute__" == Value.builtin "object.__getattribute__")=false:=by rw[e];rfl
 have c:=looks_findIn (M:=model prog w) X Z.ga;have b:=looks_findIn (M:=model prog w) X Z.gat
 repeat (any_goals (first | assumption | (with_reducible refine gU hx ?_;rw[hc]) | with_reducible refine c.here ?_ | with_reducible refine b.here ?_ | wp_step))
 refine codeAny_call_builtin PySem.F.excAttr_ValueError.ga.plain PySem.F.entry_bexc_ga (A8a X Z hx hc (Bd7 X Z hx hc ?_))
 repeat (any_goals (first | assumption | wp_step))
theorem Bl2 {Q:u9->u_->Prop}(X:K.In h)(Z:Sv K C)(hx:h.get? a=some o)(hc:o.cls=.ref C)(b:Q (some (.ref C)) ⟨h,g,d,t+1,os⟩):wpAny (model prog w) A (getAttr? (.ref a) "__class__") Q E ⟨h,g,d,t,os⟩:=by
 unfold getAttr? getAttrBy?
 repeat (any_goals (first | assumption | with_reducible apply B3s X Z _ _ | wp_step))
end
section
variable {K:v9}{a C:Addr}
theorem Aj0 {x:Option Addr}(Z:Sv K C):KitX K (.ref a) (.ref C) (λh=>∃o,h.get? a=some o/\o.cls=.ref C/\o.dict=x/\∃vs,o.data=.fields vs) where
 ty:=λM h _ ⟨o,e,c,_⟩=>c▸(Looks.ld e).andThen .now
 it:=λM h X _=>by
  obtain⟨bm,Nn,nm,qn,bs,sn,sub,ab,col,dd,k0,k1,k2,k3,k5,hC,_⟩:=Nq X Z.exc;intro A' Q' E' s' kp q;unfold isType loadHead;exact aj (wpAny_loadPart (kp _ _ hC) (ak q))
 ne:=λh tp dd its n sl X htp=>by
  obtain⟨bm,Nn,nm,qn,bs,sn,sub,ab,col,d',k0,k1,k2,k3,k5,hC,_⟩:=Nq X Z.exc
  refine Bool.eq_false_iff.mpr λq=>?_
  cases (Value.ref.inj (dJ.mp q))
  rw[hC]at htp;have z:=bU Obj.data (bY htp)
  cases z
 ca:=λ{_ _ _ _ _ s} X p q=>by
  obtain⟨hh,g,d,t,os⟩:=s;obtain⟨o,e,c,_⟩:=p;exact Bl2 X Z e c q
end
section
variable {X:Cx}
noncomputable def Bv6:V->u9
 | .ref D=>some (.ref D)
 | .ty T=>some (.type T)
 | _=>none
theorem Bb2 {c:V}{u z:Value}(e:Bv6 c=some z)(r:RelV c u):u=z:=by
 cases c with
 | ref D=>cases e;exact r
 | ty T=>cases e;exact r
 | _=>cases e
def Av0 (K:v9):n_->Hp->VK->Prop:=λxs H Q=>∃a C d c z b,xs=[.ref a,c]/\H a=some (Rt a C d)/\Sv K C/\Bv6 c=some z/\kitOne K (.ref C) z=some b/\Q (.bl b) H
theorem A4w:CallR X (.builtin "isinstance") (Av0 X.K):=by
 intro e s σ H xs us Q I r h;obtain⟨a,C,d,c,z,b,rfl,i,Z,f,j,q⟩:=h;obtain⟨u1,u2,rfl,g,k⟩:=vals2 r
 cases (g)
 cases Bb2 f k
 have l := I.hok a _ i
 exact kia_one (Aj0 Z) I.kIn l.1 j (λz=>nomatch z) λtk=>⟨.bl b,H,I.tok _,rfl,q⟩
def B5r (D:Addr):TE:=λ_ H Q=>Q (.ref D) H
theorem B2h {y:Str}{D:Addr}{p:Pos}(hg:Gl X y)(hm:X.mg y=some (.ref D))(hdb:(y==("__debug__" : Str))=false:=by decide):PE X (.Name y p) (B5r D):=λa s b H Q I h=>Od I hg hm ⟨.ref D,H,I,rfl,h⟩ hdb
end
end L2
namespace L2
open PySem PySem.Spec PyProof.Rows
def TabAt (K:v9)(h:Heap):Prop:=(∀p∈Dq K,h.get? p.1=some { cls:=.none,data:=.fields #[] }/\isCodeTable h p.1/\K.lookup p.1=none)/\∀p∈Dq K,(Dq K).lookup p.1=some p.2
theorem Jq {l:List (Addr×Str)} (h:l.lookup b=some q):(b,q)∈l:=by
 induction l with
 | nil=>grind
 | cons p r a =>
  grind
theorem A3p {K:v9}
 (KX:K.In c.heap) (hns:c.heap.Ns mainGlobals mg) (hb:c.heap.Ns builtinsNs U) (X:∀x:Str,x ≠ "__name__" -> U x=bootBuiltins x) (L:c.heap.NoLimit) (hg:c.gens=#[])
 (T:∃j o,mg "__builtins__" = some (.ref j)/\j≠builtinsNs/\c.heap.get? j=some o/\o.cls=.type "module" /\ o.dict=some builtinsNs/\o.data=.plain) (D:TabAt K c.heap)
 (ha:c.heap.get? a=some { cls:=.type "list",data:=.seq vs.toArray }) (hi:IntsAre vs ns) (hl:ns.length<=sizeLine) (hr:Room k callerA)
 (F:∀base:Heap,K.In base->base.Ns mainGlobals mg->FnOk P w K mg base CX k fa fd [x] sp) (C:∀(s:u_) (u:Value),BindsTo s fd ⟨[u],[]⟩ [(x,u)])
 (hsp:∀H:Hp,SqL K H a (ns.map V.int)->sp [.ref a] H (λv _=>v=.bl true) λ_ _ _=>False)
 (W:∀H e s',CX [] H c (λ_ _ _=>False) e s'->False) :
 codeAny (model P w) callerA (.call (.ref fa) ⟨[.ref a],[]⟩) (λr s'=>r=.ok (.ret (.bool true))/\OldK c.heap s'.heap/\s'.os=c.os/\AllBare s'.gens) c:=by
 have rv:=Aa0 hi;have E:=hi.length
 have Y:∀p∈Dq K,p.1≠a:=λp B z=>by
  have e:=(D.1 p B).1;rw[z,ha]at e;cases e
 have t:∀H:Hp,SqL K H a (ns.map V.int)->HOk P w H c.heap->(∀b u,H b=some u->(b=a/\K.lookup a=none/\∃o xs,u=.frz o (.lst xs))\/∃q,(b,q)∈Dq K/\u=.tbl q)->(∀p∈Dq K,H p.1=some (.tbl p.2)) ->
  codeAny (model P w) callerA (.call (.ref fa) ⟨[.ref a],[]⟩) (λr s'=>r=.ok (.ret (.bool true))/\OldK c.heap s'.heap/\s'.os=c.os/\AllBare s'.gens) c:=by
  intro H hS G hA hH
  have f:∀{b:Addr} {o:Obj},c.heap.get? b=some o->H b=none->(Yr c.heap H).get? b=some o:=λe n=>A9o e n
  have N:∀{b:Addr} {o:Obj},c.heap.get? b=some o->(∀x n,o.data≠.seq x n)->(∀x,o.data≠.fields x)->H b=none:=λ{b o} e d1 d2=>by
   cases q:H b with
   | none=>rfl
   | some u =>
    rcases hA b u q with ⟨z,_⟩ | ⟨y,O,_⟩
    ·rw[z,ha]at e;cases e;exact absurd rfl (d1 _ _)
    ·have g:=(D.1 _ O).1
     rw[e]at g;cases g;exact absurd rfl (d2 _)
  have l:∀{b:Addr} {m:x_},c.heap.Ns b m->(Yr c.heap H).Ns b m:=λ{b m} ⟨o,es,ep,e,d,r⟩=>⟨o,es,ep,f e (N e (λx n z=>by rw[d]at z;cases z) λx z=>by rw[d]at z;cases z),d,r⟩
  have I:K.In (Yr c.heap H):=λb o e=>f (KX b o e) (by
   cases q:H b with
   | none=>rfl
   | some u =>
    rcases hA b u q with ⟨z,z2,_⟩ | ⟨y,O,_⟩
    ·rw[z,z2]at e;cases e
    ·rw[(D.1 _ O).2.2]at e;cases e)
  have Z:∃j o,mg "__builtins__" = some (.ref j)/\j≠builtinsNs/\j≠mainGlobals/\(Yr c.heap H).get? j=some o/\o.cls=.type "module" /\ o.dict=some builtinsNs/\o.data=.plain:=by
   obtain⟨j,o,b1,b2,Q,b4,b5,M⟩:=T
   refine⟨j,o,b1,b2,λz=>?_,f Q (N Q (λx n z=>by rw[M]at z;cases z) λx z=>by rw[M]at z;cases z),b4,b5,M⟩
   obtain⟨og,es,ep,e,d,_⟩:=hns;rw[z,e]at Q;cases Q;rw[d]at M;cases M
  have hM:Mod K mg (Yr c.heap H):=⟨I,l hns,⟨U,l hb,X⟩,(let ⟨mc,h1,h2⟩:=L; ⟨mc,l h1,h2⟩),Z⟩
  have e0:Al2 P w K mg (Yr c.heap H) callerA [] c H:=⟨rfl,hM,λb o e=>Bj5 e,dq (A6g _ _),trivial,λb hb=>absurd (show b∈([]:v6) from hb) (by simp),hH,G,.of_eq hg⟩
  refine gB ((F _ I (l hns)).run callerA [] c H ⟨[.ref a],[]⟩ [.ref a] [.ref a] _ _ hr e0 (C c (.ref a)) (.cons rfl .nil) (hsp H hS)) λr s' h=>?_
  cases r with
  | error e=>exact(W H e s' h).elim
  | ok fl =>
   cases fl with
   | next=>exact False.elim h
   | brk=>exact False.elim h
   | cont=>exact False.elim h
   | ret u =>
    obtain⟨v,H',os,J,R,A,r',q⟩:=h;have q':v=.bl true:=q;subst q';obtain rfl:u=Value.bool true:=r'
    refine⟨rfl,⟨λb o e=>?_,λb o e=>R.there b o e (by simp)⟩,os,J⟩
    cases q:H b with
    | none=>exact .inl (R.keep b o e q (by intro z;exact absurd (show b∈([]:v6) from z) (by simp)) (by simp))
    | some u =>
     rcases hA b u q with ⟨_,_,ob,xs,rfl⟩ | ⟨y,O,rfl⟩
     ·obtain⟨g,_⟩:=G b _ q
      obtain⟨e2,_⟩:=A b _ (R.frzs b ob _ q);rw[e]at g;cases g;exact .inl e2
     ·obtain⟨ps,e2,_⟩:=A b _ (R.tbls b y q)
      obtain⟨t1,t2,_⟩:=D.1 _ O;rw[e]at t1;cases t1
      exact .inr (.inl ⟨t2,rfl,#[],ps,rfl,by rw[e2];simp⟩)
 have i:∀(H:Hp) (p:Addr×Str),p∈Dq K->zB P w H _ _ (.tbl p.2):=λH p B=>⟨#[],(D.1 p B).1,trivial,λpos cv z=>by cases z⟩
 cases hk:K.lookup a with
 | some o =>
  have e:=KX a o hk;rw[ha]at e
  cases e
  refine t (λb=>((Dq K).lookup b).map .tbl) (.inr ⟨_,vs.toArray,_,hk,rfl,rfl,rfl,by rw[b_,E];exact hl,by simpa using rv⟩) (λb u z=>?_) (λb u z=>?_) λp B=>?_
  ·obtain⟨q,g,rfl⟩:=aW.mp z
   exact i _ _ (Jq g)
  ·obtain⟨q,g,rfl⟩:=aW.mp z
   exact .inr ⟨q,Jq g,rfl⟩
  ·rw[D.2 p B];rfl
 | none =>
  refine t (λb=>if b=a then some (.frz { cls:=.type "list",data:=.seq vs.toArray } _) else ((Dq K).lookup b).map .tbl) (.inl (.inr ⟨{ cls:=.type _,data:=.seq _ },if_pos rfl⟩)) (λb u z=>?_) (λb u z=>?_) λp B=>?_
  ·by_cases hb:b=a
   ·have S:=(if_pos hb).symm.trans z
    cases S
    subst hb
    exact⟨ha,by rw[ao];exact hl,vs,_,rv,ha⟩
   ·obtain⟨q,g,rfl⟩:=aW.mp ((if_neg hb).symm.trans z)
    exact i _ _ (Jq g)
  ·by_cases hb:b=a
   ·have S:=(if_pos hb).symm.trans z
    cases S
    exact .inl ⟨hb,hk,_,_,rfl⟩
   ·obtain⟨q,g,rfl⟩:=aW.mp ((if_neg hb).symm.trans z)
    exact .inr ⟨q,Jq g,rfl⟩
  ·rw[if_neg (Y p B),D.2 p B];rfl
end L2
namespace L2
open PySem PySem.Spec PyProof.Rows PySem.W
theorem Ad3 {f:Pos}{c:Value}:∀(l:w6),TriplesOk l->TriplesOk (l++[rawInt f.line,rawInt f.col,c]):=λl h=>by
 fun_induction TriplesOk l with
 | case1=>trivial
 | case2 a b c d e g i=>exact i h
 | case3=>trivial
theorem Ay7 {g f:Pos}{c cv:Value}:∀(l:w6),TriplesOk l->codeAmong f (l++[rawInt g.line,rawInt g.col,c])=some cv->codeAmong f l=some cv\/cv=c:=λl h e=>by
 fun_induction TriplesOk l with
 | case1 =>
  simp only[dC,rawInt,codeAmong]at e
  grind
 | case2 a b c d k i j =>
  simp only[List.cons_append,codeAmong]at e ⊢
  grind
 | case3=>trivial
def HLam (H H':Hp):Prop:=H'=H\/∃c o,H c=none/\H'=upd H c (.frz o (.own 0))
noncomputable abbrev Az3 (qual:Str) (params:Arguments) (body:Expr) (scope:Scope) (cl:List (Str×Addr)) (pm cv ctv:Value):Obj:={ cls:=.type "function",data:=.func (kla_fn "<lambda>" qual params body scope cl pm cv ctv) }
def LamCd (qual:Str)(cv:Value)(H:Hp):Prop:=∃c o vs t,cv=.ref c/\H c=some (.frz o (.own 0))/\o.data=.fields vs/\vs[1]?=some (.str qual t)
theorem LamCd.rec {P:u6}{w:World}{qual:Str}{cv:Value}{H:Hp}{h:Heap}(x:LamCd qual cv H)(b:HOk P w H h):h.CodeRec cv qual:=by
 obtain⟨c,o,i,t,e,a,d,f⟩:=x;obtain⟨g,_⟩:=b c _ a;exact⟨c,o,i,t,e,g,d,f⟩
section
variable {X:Cx}{pins:y_}{σ:St}{H:Hp}{s:u_}
theorem Inv.grown {T c:Addr}{q:Str}{f:Obj}{h':Heap}{t':Nat}(I:Inv X pins σ H s)(w:H T=some (.tbl q))(k:∀b o,b≠T->s.heap.get? b=some o->h'.get? b=some o)(hc:s.heap.objs.size<=c)(ho:h'.get? c=some f)
 (j:zB X.prog X.w (upd H c (.frz f (.own 0))) h' T (.tbl q)):Inv X pins σ (upd H c (.frz f (.own 0))) { s with heap:=h',toks:=t' }:=by
 have p:H c=none:=I.hok.fresh hc
 have a:∀b u,H b=some u->b≠c:=λb u e=>Bb e p
 have i:∀b u,s.heap.get? b=some u->b≠c:=λb u e z=>absurd (az e) (by simp_all)
 have h:∀b,H b=none->b≠T:=λb e z=>by rw[z,w]at e;cases e
 refine I.step (g':=s.gens) (d':=s.drawn) (ch:=[]) (λ_ z=>nomatch z) (λb o _ _ _ e n=>k b o (h b n) e) (λb o _ _ _ e n=>⟨o.slots,k b o (h b n) e⟩) (λb o _ e n=>by rw[Ag (i b o e)];exact n) (λb o _ e=>?_)
  (λb l e=>by rw[Ag (a b _ e)];exact e) (λb o u e=>by rw[Ag (a b _ e)];exact e) (λb q e=>by rw[Ag (a b _ e)];exact e) (λm x=>?_) (λb u e=>?_) I.bare
 ·by_cases hb:b=T
  ·obtain⟨B,g,_⟩:=j
   simp_all
  ·exact⟨o,k b o hb e⟩
 ·obtain⟨o,t,y,e,r⟩:=x
  exact⟨o,t,y,k _ o (h _ I.free) e,r⟩
 ·by_cases hb:b=c
  ·rw[hb]at e ⊢
   rw[Ax]at e;cases e;exact⟨ho,f,ho⟩
  ·rw[Ag hb]at e
   by_cases hbT:b=T
   ·simp_all
   ·refine (I.hok b u e).stay (λd v C z=>k d v ?_ z) (λd z=>by rw[Ag (a d _ z)];exact z) (λd l z=>by rw[Ag (a d _ z)];exact z) λd A l z=>by rw[Ag (a d _ z)];exact z
    grind
theorem A7b {a:Arguments}{body:Expr}{scope:Scope}{N:Pos}{cl:List (Str×Addr)}{c T:Addr}{l:Str}{Q:z_}{A:t_}{E:z_}(I:Inv X pins σ H s)(hT:(T,l)∈Dq X.K)(hC:codeHdIn X.K c T=true)(g:X.env.code=.ref c)
 (hq:X.env.qual ++ "<lambda>" = l) (w:defaultsOf a X.env=([],[])) (x:closureFor scope X.env=pure cl)
 (h:∀(f:Addr) (s':u_) (H':Hp) (pm cv j:Value),Inv X (pins++[(f,Az3 l a body scope cl pm cv j)]) σ H' s'->HLam H H'->LamCd l cv H'->Q (.ref f) s') :
 wpAny (model X.prog X.w) A (eval (.Lambda a body scope N) X.env) Q E s:=by
 have D:H T=some (.tbl l):=I.base.tbls T l (I.ok.tab (T,l) hT);obtain⟨ps,F,K,i⟩:=I.hok T _ D;have C:=codeHd_of_K I.kIn hC;have m:s.heap.Ns mainGlobals X.mg:=I.ok.mod.glob.keeps I.bk;obtain⟨Z,ob,b1,b2,b3,b4,b5,b6,b7⟩:=I.ok.mod.bmod;have k:=I.bk _ _ b4
 have M:mainGlobals≠T:=λz=>by
  obtain⟨o,es,ep,e,d,_⟩:=m;rw[z,F]at e;cases e;cases d
 have O:Z≠T:=λz=>by rw[z,F]at k;cases k;cases b5
 have Y:s.heap.BuiltinsAt X.mg T:=⟨Z,ob,b1,b2,b3,O,k,b5,b6,b7⟩
 have q:∀{n:Heap} {H':Hp} {y:Nat} {o:Obj},Inv X _ σ H' { s with heap:=n,toks:=y }->o.isFreed=false->(∀v,o.data≠.cell v)->Inv X (pins++[(n.objs.size,o)]) _ _ _:=λ{n H' y o} J R G=>by
  have f:=J.fpOk (au _) (J.hok.fresh (au _))
  have J2:Inv X _ _ _ { s with heap:=n.push o,toks:=y }:=J.kept λb u e=>aC _ e
  refine J2.pins_of λp hp=>?_
  rcases bx.mp hp with z | z
  ·exact J2.pin p (aN _ z)
  ·rw[aQ.mp z]
   exact⟨aJ _ R,f.1,f.2.1,f.2.2.1,G⟩
 refine kla_eval w ?_
 rw[hq]
 cases hf:codeAmong _ _ with
 | none =>
  refine kla_makeFunction x I.ok.glob m g C F K hf M Y λS j n y hx r hlt B U=>?_
  obtain⟨c2,P,vs,t,L,V,G,hv⟩:=B
  cases L
  have hn := I.hok.fresh r
  refine h _ _ _ _ _ _ (q (I.grown D (λb o hb e=>hx b o hb e) r V ?_) rfl λv z=>by cases z) (.inr ⟨S,P,hn,rfl⟩) ⟨S,P,vs,t,rfl,Ax,G,hv⟩
  refine⟨_,U,by rw[Array.toList_append];exact Ad3 _ K,λpos' cv z=>?_⟩
  rw[Array.toList_append]at z
  rcases Ay7 _ K z with z | rfl
  ·obtain⟨d,o,W,t',e1,L,e3⟩:=i _ _ z
   exact⟨d,o,W,t',e1,by rw[Ag (Bb L hn)];exact L,e3⟩
  ·exact⟨S,P,vs,t,rfl,Ax,G,hv⟩
 | some cv =>
  refine kla_makeFunctionHit x I.ok.glob m g C F K hf Y λj n y hk hsz=>?_
  exact h _ _ H _ _ _ (q (I.kept hk) rfl λv z=>by cases z) (.inl rfl) (i _ _ hf)
end
theorem Fun.okL {P:u6}{w:World}{K:v9}{mg:x_}{base:Heap}{x qual:Str}{st:Stmt}{f:Addr}{i:u5}{N ps:v4}{k:Nat}{sp:Sp}(F:Fun K x qual st f i)(S:Ba N ps (Ah st))(e:∀vs H Q E,sp vs H Q E->vs.length=ps.length)
 (c:∀(b:Value) (A:t_) (a:List Env) (s:u_) (H:Hp) (vs:n_) (Q:VK) (E:XK),i.code=b->Room k (A.deeper (envOfC qual (Ah st) s.heap.objs.size f b))->sp vs H Q E ->
  ∃t,PSs (Jm CX0 P w K mg base N qual (Ah st) f b A a s H E).nox (Cy st) t/\t { nx:=λ_ H'=>Q .non H',rt:=Q } (start N vs) H):FnOk P w K mg base CX0 (k+1) f i ps sp:=by
 obtain⟨oc,od,kV,j,pm,an,b,ct,l,rfl,m,g⟩:=F.ex
 refine A7n m g S e λA a s H vs Q E n d=>?_
 obtain⟨t,h,q⟩:=c b A _ s H _ Q E rfl n d;exact⟨t,h.nox,q⟩
noncomputable def Fl (o:Obj):Bool:=match o.data with
 | .cell _=>false
 | _=>true
def sel (h:Heap)(tabs:List (Addr×Addr×Str))(a:Addr):Option Obj:=(h.get? a).bind λo=>if (Fl o&&!(tabs.any λt=>t.2.1==a))=true then some o else none
def Q8 (h:Heap)(tabs:List (Addr×Addr×Str)):Frag:=((List.range h.objs.size).filterMap λa=>(sel h tabs a).map λo=>(a,o))++tabs.map λt=>(t.1,A0p t.2.1 t.2.2)
theorem N7 {f:Nat->Option Obj}{b:Nat}:∀{l:List Nat},(l.filterMap λa=>(f a).map λo=>(a,o)).lookup b=if b∈l then f b else none
 | []=>by simp
 | a::l=>by
  rw[dW]
  by_cases e:b=a
  ·subst e
   rw[if_pos bR]
   cases q:f b with
   | none =>
    simp only[Option.map_none];rw[N7]
    split
    ·exact q
    ·rfl
   | some o=>simp
  ·have h1:(b∈a::l)=(b∈l):=by simp[e]
   simp only[h1]
   cases q:f a with
   | none=>simp only[Option.map_none];exact N7
   | some o =>
    simp only[gh];rw[aZ]
    have:(b==a)=false:=by simp[e]
    rw[this];exact N7
section
variable {h:Heap}{tabs:List (Addr×Addr×Str)}
theorem Rf (e:sel h tabs a=some o):h.get? a=some o/\Fl o=true/\∀t∈tabs,t.2.1≠a:=by
 obtain⟨c,d,b⟩:=cP.mp e
 grind
theorem By9 (e:h.get? a=some o) (hp:Fl o=true) (hn:∀t∈tabs,t.2.1≠a):sel h tabs a=some o:=by
 unfold sel
 grind
theorem Ql (e:sel h tabs a=some o):(Q8 h tabs).lookup a=some o:=by
 unfold Q8;rw[List.lookup_append,N7,if_pos (List.mem_range.mpr (az (Rf e).1)),e];rfl
theorem Ye {a:Addr}{o:Obj}:∀{tabs:List (Addr×Addr×Str)},(tabs.map λt=>(t.1,A0p t.2.1 t.2.2)).lookup a=some o->∃t∈tabs,t.1=a
 | [],e=>by cases e
 | t::r,e=>by
  rw[aF,aZ]at e
  split at e
  ·rename_i z
   exact⟨t,bR,by simpa using (eq_comm.mp (by simpa using z))⟩
  ·obtain⟨t',h1,h2⟩:=Ye e
   exact⟨t',bI _ h1,h2⟩
theorem B3g (ht:∀t∈tabs,CodeHd h t.1 t.2.1/\h.get? t.2.1=some { cls:=.none,data:=.fields #[] })(D:∀t∈tabs,(tabs.map λt=>(t.2.1,t.2.2)).lookup t.2.1=some t.2.2) :
 (Q8 h tabs).In h/\TabAt (Q8 h tabs) h/\(∀t∈tabs,codeHdIn (Q8 h tabs) t.1 t.2.1=true/\(t.2.1,t.2.2)∈Dq (Q8 h tabs))/\∀a o,h.get? a=some o->Fl o=true->o.data≠.fields #[]->(Q8 h tabs).lookup a=some o:=by
 have g:∀a o,h.get? a=some o->Fl o=true->o.data≠.fields #[]->sel h tabs a=some o:=λa o e d j=>By9 e d λt m z=>by
  have:=(ht t m).2;rw[z,e]at this;cases this;exact j rfl
 have code:∀t∈tabs,∃o i,h.get? t.1=some o/\o.cls=.type "code" /\ o.data=.fields i/\i[11]?=some (.ref t.2.1)/\sel h tabs t.1=some o:=λt m=>by
  obtain⟨o,i,_,_,_,_,_,_,_,w,v,l,u,_⟩:=(ht t m).1
  refine⟨o,i,w,v,l,u,g t.1 o w (by unfold Fl;rw[l]) λz=>?_⟩
  rw[l]at z
  injection z with z
  rw[z]at u;simp at u
 have c:∀{a:Addr} {o:Obj},(Q8 h tabs).lookup a=some o->sel h tabs a=some o:=λ{a o} e=>by
  cases q:sel h tabs a with
  | some y=>rw[Ql q]at e;exact e
  | none =>
   unfold Q8 at e;rw[List.lookup_append,N7]at e
   have F:(if a∈List.range h.objs.size then sel h tabs a else none)=none:=by
    split
    ·exact q
    ·rfl
   rw[F]at e
   obtain⟨t,m,z⟩:=Ye (show (tabs.map λt=>(t.1,A0p t.2.1 t.2.2)).lookup a=some o from e)
   obtain⟨_,_,_,_,_,_,s⟩:=code t m;rw[z,q]at s;cases s
 have k:Dq (Q8 h tabs)=tabs.map λt=>(t.2.1,t.2.2):=by
  unfold Dq Q8;rw[List.filterMap_append]
  have x:((List.range h.objs.size).filterMap λa=>(sel h tabs a).map λo=>(a,o)).filterMap (λp=>Yc p.2)=[]:=by
   rw[List.filterMap_eq_nil_iff];intro p d;obtain⟨a,_,e⟩:=dY.mp d;obtain⟨o,x,rfl⟩:=aW.mp e;have j:=(Rf x).2.1
   show Yc o=none
   unfold Yc;unfold Fl at j
   split
   ·rename_i z;rw[z]at j;cases j
   ·rfl
  have Q:(tabs.map λt=>(t.1,A0p t.2.1 t.2.2)).filterMap (λp=>Yc p.2)=tabs.map λt=>(t.2.1,t.2.2):=by
   clear g c code D ht x
   induction tabs with
   | nil=>rfl
   | cons t r S =>
    rw[aF,dW]
    show (t.2.1,t.2.2)::_=_
    rw[S];rfl
  rw[x,Q,dC]
 have B:(Q8 h tabs).In h:=λa o e=>(Rf (c e)).1
 refine⟨B,⟨λp d=>?_,λp d=>?_⟩,λt m=>⟨?_,?_⟩,λa o e d j=>Ql (g a o e d j)⟩
 ·rw[k]at d
  obtain⟨t,m,rfl⟩:=aG.mp d;obtain⟨o,i,w,v,l,u,_⟩:=code t m
  refine⟨(ht t m).2,⟨t.1,o,i,w,v,l,u⟩,?_⟩
  cases q:(Q8 h _).lookup _ with
  | none=>rfl
  | some y=>exact absurd rfl ((Rf (c q)).2.2 t m)
 ·rw[k]at d ⊢
  obtain⟨t,m,rfl⟩:=aG.mp d;exact D t m
 ·obtain⟨o,i,_,v,l,_,s⟩:=code t m
  obtain⟨y,G,f,tf,fl,tg,b,n,tt,J,K,L,M,g5,I,N,H,P,A⟩:=(ht t m).1;have O := bY (J.symm.trans (Rf s).1);subst O;obtain⟨R,od,C,E⟩:=y
  cases (show R=Value.type _ from K)
  cases (show C=Data.fields _ from L)
  unfold codeHdIn;rw[(Ql s)];simp only[M,I,N,H,P]
  simp[A]
 ·rw[k];exact aG.mpr ⟨t,m,rfl⟩
end
section
variable {q:u6}{loose:v4}{mean:ExcName->u9}{mg mb:x_}{h:Heap}{K:Frag}
theorem A3y (j:∀a o,h.get? a=some o->Fl o=true->o.data≠.fields #[]->K.lookup a=some o) (c:h.CodeRec f x):codeIn K f x=true:=by
 obtain⟨a,o,b,t,rfl,g,d,e⟩:=c
 have k:=j a o g (by unfold Fl;rw[d]) λz=>by grind
 obtain⟨oc,od,m,i⟩:=o
 show (match K.lookup a with
  | some ⟨_,_,.fields b,_⟩=>match b.toList with | _::.str n _::_=>n==x | _=>false
  | _=>false)=true
 obtain⟨l⟩:=b
 match l,e with
 | _::.str n u::_,e =>
  simp_all
theorem Bs3 (T:Top q loose mean mg mb h)(i:∀a o,h.get? a=some o->Fl o=true->o.data≠.fields #[]->K.lookup a=some o) {st:Stmt}(hd:d∈recsOf q) (w:d.params=J3 st) (l:d.body=Cy st) (m:d.scope=Ah st) :
 ∃f fd,Fun K d.name d.name st f fd/\mg d.name=some (.ref f):=by
 obtain⟨a,o,e,b,c,n,p,r,s⟩:=T.fn d hd
 have k:=i a o p (by unfold Fl;grind) λz=>by simp_all
 obtain⟨t,u,v,g⟩:=o
 cases (r)
 have j:PySem.Calls.docDef d.name d.params d.body d.scope e b c=fnOf d.name d.name (J3 st) (Cy st) (Ah st) .none .none c e none b .none:=by rw[w,l,m];rfl
 refine⟨a,_,⟨⟨t,u,.none,c,e,none,b,.none,g,j,k,A3y i s⟩,?_⟩,n⟩
 unfold keepIn
 grind
theorem Bj0 (T:Top q loose mean mg mb h){d:DefRec}(hd:d∈recsOf q):∃c P:Addr,CodeHd h c P/\h.get? P=some { cls:=.none,data:=.fields #[] }/\∀f o b,mg d.name=some (.ref f)->h.get? f=some o->o.data=.func b->b.code=.ref c:=by
 obtain⟨a,o,b,c,P,m,j,p,k,g,e⟩:=T.tab d hd
 refine⟨c,P,CodeHd.of g e,e.2,λf n i r s l=>?_⟩
 simp_all
noncomputable def A8h (q:u6) (loose:v4) (RN:v4) (x:Str):Bool:=!startupNames.contains x&&!loose.contains x&&!RN.contains x&&!((litsOf q).map (·.1)).contains x&&!((clssOf q loose).map (·.name)).contains x
theorem Di (T:Top q loose mean mg mb h){a bs:v4}(f:(recsOf q).map (·.name)=a)(hb:bs.all (A8h q loose a)=true) (hx:x∈bs):mg x=none:=by
 have:=bL.mp hb x hx;unfold A8h at this;simp only[dh,Bool.not_eq_true',List.contains_eq_mem,decide_eq_false_iff_not]at this;obtain⟨⟨⟨⟨d,c⟩,g⟩,e⟩,b⟩:=this
 exact T.free x d c (by grind) e b
end
theorem Aj5 (a:(recsOf q).map (λd=>(d.name,d.params,d.body,d.scope))=L) {i:Nat} (e:L[i]?=some x) :
 ∃d,d∈recsOf q/\d.name=x.1/\d.params=x.2.1/\d.body=x.2.2.1/\d.scope=x.2.2.2:=by
 grind
theorem Cp (a:(recsOf q).map (λd=>(d.name,d.params,d.body,d.scope))=L):(recsOf q).map (·.name)=L.map (·.1):=by
 rw[<- a,cV];rfl
theorem A6q {K:Frag}{h:Heap}{x qual:Str}{st:Stmt}{f:Addr}{a:u5}{v:Value}{mg:x_}(F:Fun K x qual st f a)(b:K.In h)(hc:∀f o a,mg x=some (.ref f)->h.get? f=some o->o.data=.func a->a.code=v)(hm:mg x=some (.ref f)):a.code=v:=by
 obtain⟨j,p,m,g,k,l,d,n,i,e,c,_⟩:=F.ex;exact hc f _ _ hm (b _ _ c) rfl
theorem A6y {K:Frag} {st:Stmt} (F:Fun K x qual st f c) (h:∀(d a e:Value) (i:Option Addr) (b g:Value) (s:u_) (u:Value),BindsTo s (fnOf x qual (J3 st) (Cy st) (Ah st) .none d a e i b g) ⟨[u],[]⟩ [(y,u)]):∀(s:u_) (u:Value),BindsTo s c ⟨[u],[]⟩ [(y,u)]:=by
 obtain⟨m,n,d,a,e,i,b,g,j,k,l,_⟩:=F.ex
 simp_all
section
variable {X:Cx}{pins:y_}{σ:St}{H:Hp}{s:u_}{D:Addr}{e1:Nat}{Q:VK}{P:PySem.Fin->u_->Prop}{E:z_}{A:t_}
theorem Xr {ous:w6}{outs:n_}{st:SortSt}(hD:X.s₀.heap.objs.size<=D)(hp:∀p∈X.pn++pins,p.1≠D)(I:Inv X (pins++[(D,seqObj "list" #[] e1)]) σ H s) (hz:outs.length<=sizeLine)
 (ho:(arrOf st).map (·.2)=List.toArray ous) (hf:failedOf st=none) (rv:Vals outs ous) (q:∀l,H l=none->Q (.ref l) (upd H l (.lst outs))) (hP:∀s',EP X pins σ Q (.ref D) s'->P (.done (.ret .none)) s') :
 wpAny (model X.prog X.w) A (do
  let sorted:=(arrOf st).map (·.2)
  let touched:=(<- seqEpoch D) != e1
  Builtin.List.listUpdate (.ref D) λ_=>sorted
  if let some e:=failedOf st then rule "list.sort.comparison-raised";throw e
  if touched then rule "list.sort.modified";raiseError "ValueError" "list modified during sort"
  ret .none) P E s:=by
 obtain⟨pd1,pd2,pd3,pd4,pd5⟩:=I.pin (D,seqObj "list" #[] e1) (aN _ (aN _ bR))
 have cel:∀x c,X.env.cells.lookup x=some c->c≠D:=λx c e z=>by
  obtain⟨v,ob,ho,hdc⟩:=I.cell x c e;rw[z,pd1]at ho;cases ho;exact pd5 v hdc
 have I0:Inv X pins σ H s:=I.pins_of λp hp=>I.pin p (aN _ (aX _ hp))
 obtain⟨n2,gD2⟩:∃n2,(s.heap.update D (Obj.mapSeq λ_=>ous.toArray)).get? D=some (seqObj "list" ous.toArray n2):=⟨_,get?_update_seq pd1 λ_=>ous.toArray⟩
 have hlen:=rv.length
 dsimp only
 rw[ho]
 refine aj (seqEpoch_at pd1 rfl ?_)
 refine aj (listUpdate_at pd1 rfl ?_ (aM _) (by rw[b_];lia))
 rw[hf];simp only[bne_self_eq_false,bV,bj]
 refine ak (hP _ ⟨.ref D,upd H D (.lst outs),?_,rfl,q D pd2⟩)
 exact I0.adopt (t':=s.toks) (λb u hb e=>(cH _ _ (aD hb)).trans e) pd2 pd3 hD cel hp ⟨hz,ous,n2,rv,gD2⟩
theorem As8 {a:Addr}{vs:n_}(hu:X.A.units+80<cLine)(I:Inv X pins σ H s)(hq:SqL X.K H a vs\/SqT X.K H a vs)(h:Bz6 vs vs H Q) :
 wpAny (model X.prog X.w) X.A (call (.builtin "sorted") [.ref a]) (EP X pins σ Q) E s:=by
 obtain⟨us,T,o,n,rv,hT,ho,hcl,hd,hz⟩:∃(us:w6) (T:String) (o:Obj) (n:Nat),Vals vs us/\(T = "list" \/ T = "tuple")/\s.heap.get? a=some o/\o.cls=.type T/\o.data=.seq us.toArray n/\vs.length<=sizeLine:=by
  rcases hq with hq | hq
  ·obtain⟨us,rv,⟨o,n,g1,g2,g3,g4⟩,hz⟩:=I.list hq
   exact⟨us, "list",o,n,rv,.inl rfl,g1,g2,by first | exact g3 | exact g4,hz⟩
  ·obtain⟨us,rv,it,hz⟩:=I.tuple hq
   obtain⟨o,g1,g2,n,g3⟩:=it;exact⟨us, "tuple",o,n,rv,.inr rfl,g1,g2,g3,hz⟩
 have hlen:=rv.length
 refine Calls.call_function_entry kind_sorted plain_sorted entry_sorted (args_sorted1 _) ?_
 unfold Builtin.«sorted»
 refine aj (m:=checkCount "sorted" 1 1 _) (ak ?_)
 refine aj (wpAny_collect_seq a hT ho hcl hd (λg kg=>?_) (by rw[b_];lia))
 refine aj (wpAny_newList ?_ (by simp;lia))
 have I1:Inv X pins σ H { s with heap:=g }:=I.kept (t':=s.toks) kg
 have lo:X.s₀.heap.objs.size<=g.objs.size:=I1.sz;generalize hg1:g.push (seqObj "list" us.toArray 0)=g1
 have e1:g1.objs.size=g.objs.size+1:=by rw[<- hg1,size_push']
 have gD:g1.get? g.objs.size=some (seqObj "list" us.toArray 0):=by rw[<- hg1];exact aJ _ rfl
 refine aj (bZ (bB slot_list_sort ⟨_,gD,rfl⟩ entry_list_sort ?_ (args_list_sort _)))
 show wpAny (model X.prog X.w) X.A.in1.in1 (Builtin.«list.sort» ⟨[.ref g.objs.size],[]⟩) _ _ _
 rw[list_sort_plain]
 refine aj (listItems_at gD rfl ?_)
 refine aj (listUpdate_at gD rfl ?_ (by rw[b_];lia) (aM _))
 generalize hg2:g1.update g.objs.size (Obj.mapSeq λ_=>(#[]:v7))=g2
 obtain⟨n1,gD1⟩:∃n1,g2.get? g.objs.size=some (seqObj "list" #[] n1):=⟨_,by rw[<- hg2];exact get?_update_seq gD λ_=>#[]⟩
 refine aj (seqEpoch_at gD1 rfl ?_)
 refine aj (wpAny_newTuple ?_ (by simp;lia))
 refine aj (wpAny_newList ?_ (aM _))
 refine bZ ?_
 generalize hg3:g2.push { cls:=.type "tuple",data:=.seq us.toArray.toList.toArray }=g3
 have keep:∀b u,g.get? b=some u->(g3.push { cls:=.type "list",data:=.seq ([]:w6).toArray }).get? b=some u:=λb u e=>by
  have hlt:b<g.objs.size:=az e
  have q1:g1.get? b=some u:=by rw[<- hg1];exact aC _ e
  have q2:g2.get? b=some u:=by rw[<- hg2];exact(cH _ _ (bQ hlt)).trans q1
  have q3:g3.get? b=some u:=by rw[<- hg3];exact aC _ q2
  exact aC _ q3
 have fD:=I1.fpOk (b:=g.objs.size) (au _) (I1.hok.fresh (au _))
 have I2:Inv X pins σ H { s with heap:=g3.push { cls:=.type "list",data:=.seq ([]:w6).toArray } }:=I1.kept (t':=s.toks) keep
 have gD2:(g3.push { cls:=.type "list",data:=.seq ([]:w6).toArray }).get? g.objs.size=some (seqObj "list" #[] n1):=aC _ (by rw[<- hg3];exact aC _ gD1)
 have I3:Inv X (pins++[(g.objs.size,seqObj "list" #[] n1)]) σ H { s with heap:=g3.push { cls:=.type "list",data:=.seq ([]:w6).toArray } }:=I2.pins_of λp hpp=>by
  rcases bx.mp hpp with z | z
  ·exact I2.pin p (aN _ z)
  ·rw[aQ.mp z]
   exact⟨gD2,fD.1,fD.2.1,fD.2.2.1,λv z=>by cases z⟩
 have hp:∀p∈X.pn++pins,p.1≠g.objs.size:=λp hpp z=>absurd (az (I1.pin p hpp).1) (by rw[z];show ¬ (g.objs.size<g.objs.size);lia)
 clear I2 gD2 keep
 dsimp only
 generalize ({ s with heap:=g3.push { cls:=.type "list",data:=.seq ([]:w6).toArray } }:u_)=s3 at I3 ⊢
 rcases h with ⟨h2,q⟩ | ⟨h2,h64,ds,kd,p,tds,hb,hfl,hpp,q⟩
 ·have h2':us.toArray.size<2:=by rw[b_];lia
  rw[if_pos h2',if_pos h2']
  refine aj (ak ?_)
  rw[StateT.run_pure]
  refine aj (ak ?_)
  refine Xr (ous:=us) lo hp I3 hz ?_ rfl rv q λs' q=>⟨_,rfl,ak ⟨_,rfl,q⟩⟩
  show (us.toArray.zip us.toArray).map (·.2)=us.toArray
  apply Array.ext';simp only[Array.toList_map,Array.toList_zip];exact jt (l₁:=us) (l₂:=us) (au _)
 ·have h2':¬ us.toArray.size<2:=by rw[b_];lia
  rw[if_neg h2',if_neg h2'];obtain⟨as,rd⟩:=tds.reads I3 rv
  have hu':X.A.in1.in1.units+64<cLine:=by show X.A.units+1+1+64<_;lia
  refine aj (A9d rd hb (by lia) ?_)
  have e64:us.length<64:=by lia
  rw[hlen]at hpp
  refine aj (aU (kat_run (ks:=us) (vs:=us) (Q:=λst' s'=>s'=s3/\arrOf st'=p.map (kas_item (us.toArray.zip us.toArray))/\failedOf st'=none/\p.size=us.length) (G:=λp' s'=>p'=p/\s'=s3) rfl (by lia) e64 (λp' st' s' a1 a2 a3 a4=>?_) (A7m (B:=A5e kd ds) (λi j r C hB hC=>?_) _ p hpp ⟨rfl,rfl⟩)) ?_ λ_ _ z=>z)
  ·obtain⟨rfl,rfl⟩:=a4
   exact⟨rfl,a2,a3,a1⟩
  ·unfold A5e at hB
   cases ei:ds[i]? with
   | none=>rw[ei]at hB;cases hB
   | some di =>
    cases ej:ds[j]? with
    | none=>rw[ei,ej]at hB;cases hB
    | some dj =>
     rw[ei,ej]at hB;obtain⟨a1,r1⟩:=Xo rd ei;obtain⟨a2,r2⟩:=Xo rd ej;have mi:di∈ds:=bz ei;have mj:dj∈ds:=bz ej;have fi:=hfl di mi;have fj:=hfl dj mj
     exact Bi4 r1 r2 fi.1 fj.1 (bL.mp hb di mi) (bL.mp hb dj mj) (by have:=fi.2;lia) hB hC
  ·rintro⟨⟨⟩,st'⟩ s' ⟨rfl,har,hf,hps⟩
   refine Xr (outs:=p.toList.map λi=>vs.getD i .non) lo hp I3 ?_ (kat_snds rfl har) hf (Zd rv _) q λs' q=>⟨_,rfl,ak ⟨_,rfl,q⟩⟩
   rw[ao,gG,hps];lia
end
theorem Room.un80 {k:Nat}{A:t_}(r:Room k A):A.units+80<cLine:=by have:=r.un;lia
section
variable {X:Cx}{p pos:Pos}{e:Expr}{es:v_}{t:TA}{Kq:v9}
def Aw4 (K:v9):n_->Hp->VK->Prop:=λxs H Q=>∃a vs,xs=[.ref a]/\(SqL K H a vs\/SqT K H a vs)/\Bz6 vs vs H Q
theorem Aq3 (hu:X.A.units+80<cLine):CallR X (.builtin "sorted") (Aw4 X.K):=by
 intro pins s σ H xs us Q I r h;obtain⟨a,vs,rfl,hq,q⟩:=h;obtain⟨u,rfl,ru⟩:=vals1 r
 cases (show u=Value.ref a from ru)
 exact As8 hu I hq q
theorem An8 (hKq:X.K=Kq)(hu:X.A.units+80<cLine)(hgl:Gl X "sorted") (hm:X.mg "sorted" = none) (ha:QA X (e::es) t) (hns:noStar (e::es)=true:=by rfl):QE X (.Call (.Name "sorted" p) (e::es) [] pos) (tCB (Aw4 Kq) t):=by
 subst hKq
 exact⟨Ew (Aq3 hu) hgl hm boot_sorted ha.get (by decide) (by decide) hns⟩
end
end L2
namespace L2
open PySem PySem.Spec PyProof.Rows
section
variable {prog:u6}{w:World}{K:Type}[DecidableEq K]{knd:HeapKind prog w K}{A:t_}{E:z_}{s:u_}
theorem A3a (hu:knd.room A) (hk:knd.is s.heap k a) (hm:s.heap.DictOfH knd d xs) (hsz:xs.length<=sizeLine)
 (l:∀p,atKey xs k=some p->Q p.2 { s with toks:=s.toks+knd.draws k })
 (m:atKey xs k=none->∀h',h'.DictOfH knd d (xs++[(k,a,v)])->Heap.SameBut d s.heap h'->Q v { s with heap:=h',toks:=s.toks+knd.draws k }) :
 wpAny (model prog w) A (dictSetDefault d (.ref a) v) Q E s:=by
 obtain⟨o,r,t,f,u,c,i,g,n⟩:=hm;unfold dictSetDefault
 refine bZ ?_
 refine aj (knd.pyHash hu hk ?_)
 refine aj (wpAny_dictFind_heap (s:={ s with toks:=s.toks+knd.draws k }) hu hk f c i g n ?_ ?_)
 ·intro h
  refine aj (cL (aj (wpAny_updateDictKeys (hz:=by have e:=size_of_entries i;lia) (s:={ s with toks:=s.toks+knd.draws k }) f c (ak (m (atKey_none_of_get h) _
   ⟨_,_,t+1,cu _ f (Obj.isFreed_of_dict (Obj.data_mapDictKeys c _)),u.mapDictKeys _,Obj.data_mapDictKeys c _,?_,?_,?_⟩ (bK ..))))))
  ·simp[i,entryOfKey]
  ·intro x b
   rcases bx.mp b with b | b
   ·exact knd.keeps (g x b) f c (bK ..)
   ·cases aQ.mp b
    exact knd.keeps hk f c (bK ..)
  ·rw[bA,fX]
   refine⟨n,by simp,λx b y z e=>?_⟩
   cases aQ.mp z
   have B:x=k:=e;exact not_mem_keys_of_get h (B▸b)
 ·intro j p q
  refine aj (wpAny_dictEntries f c ?_)
  have C:r[j]?=some (entryOfKey knd (k,p)):=by
   rw[<- ju,i,bJ,q];rfl
  rw[C];exact aj (cL (ak (l p (atKey_of_get n q))))
end
section
variable {X:Cx}{pins:y_}{σ:St}{H:Hp}{s:u_}{a b:Addr}{E:z_}{A:t_}
theorem Am9 (hd:(a==sysModules)=false) (hz:xs.length<=sizeLine) :
 MeetsIn P w (Builtin.«dict.setdefault» ⟨[.ref a,.ref b,r],[]⟩) (λA R s=>A.units+9<cLine/\s.heap.DictOfH (Dk P w) a xs/\(Dk P w).is s.heap k b/\(∀p,atKey xs k=some p->R (.ok (.ret p.2)) { s with toks:=s.toks+Xw k }) /\
  (atKey xs k=none->∀c,c.DictOfH (Dk P w) a (xs++[(k,b,r)])->Heap.SameBut a s.heap c->R (.ok (.ret r)) { s with heap:=c,toks:=s.toks+Xw k })) :=
 .of_wp λA R s ⟨l,e,m,g,h⟩=>by
  refine aj ?_
  refine aj (iT e.typeIs ?_)
  refine ak ?_
  show wpAny _ _ (if (a==sysModules)=true then _ else dictSetDefault a _ r >>= _) _ _ s
  rw[if_neg (by grind)]
  exact aj (A3a (A2d l) m e hz (λp i=>ak ⟨_,rfl,g p i⟩) λj c d f=>ak ⟨_,rfl,h j _ d f⟩)
theorem Bw8 (hu:A.units+9<cLine) (I:Inv X pins σ H s) (e:H a=some (.dT d)) (n:KAt H k b) (hl:d.length<sizeLine) (B:RelV z r)
 (i:∀v w' s',Jp d k=some v->Inv X pins σ H s'->RelV v w'->Q w' s') (g:∀s',Jp d k=none->Inv X pins σ (upd H a (.dT (d++[(k,z)]))) s'->Q r s') :
 wpAny (model X.prog X.w) A (call (.builtin "dict.setdefault") [.ref a,.ref b,r]) Q E s:=by
 obtain⟨u,m,D,f,l⟩:=Bu8 I.hok e
 have y:D.length<=sizeLine:=by rw[<- dU f];exact u
 refine eG PySem.F.slot_dict_setdefault l.typeIs PySem.F.entry_dict_setdefault (PySem.F.args_dict_setdefault_3 _ _ _) (Am9 m y) ⟨hu,l,Xf I.hok n,λp w=>?_,λx N h C=>?_⟩
 ·have q:=f.val k
  rw[w]at q
  cases ev:Jp _ k with
  | none=>rw[ev]at q;exact False.elim q
  | some v=>rw[ev]at q;exact i v _ _ ev (I.tok _) q
 ·have q:=f.val k
  rw[x]at q
  cases ev:Jp _ k with
  | some v=>rw[ev]at q;exact False.elim q
  | none =>
   refine g _ ev ?_
   obtain⟨o,F,G,t,K,L,J,_,M⟩:=h
   refine U8 I (by rw[e];exact True.intro) C ⟨o,t⟩ ⟨by grind,m,_,KT.keeps (Paired.snoc f ⟨rfl,n,B⟩) λc O j=>?_,o,F,G,t,K,L,J,M⟩
   rw[Ag (Bc2 j e λz=>nomatch z)]
   exact j
end
def Bu5 (td ty tx:TE):TE:=λσ H Q=>td σ H λx H1=>∃a,x=.ref a/\IsD H1 a/\ty σ H1 λy H2=>tx σ H2 λz H3=>∃kvs k b,y=.ref b/\H3 a=some (.dT kvs)/\KAt H3 k b/\kvs.length<sizeLine /\
 (∀v,Jp kvs k=some v->Q v H3)/\(Jp kvs k=none->Q z (upd H3 a (.dT (kvs++[(k,z)]))))
section
variable {X:Cx}{o e f:Expr}{td ty tx:TE}{apos cpos:Pos}
theorem Bl8 (hu:X.A.units+64<cLine)(ho:QE X o td)(he:QE X e ty)(hf:QE X f tx)(m:M2 X o "setdefault" apos e f cpos):QE X (.Call (.Attribute o "setdefault" apos) [e,f] [] cpos) (Bu5 td ty tx):=by
 refine⟨?_⟩
 intro c s σ H Q I h
 refine jh m.base m.few m.line gP PySem.F.slot_dict_setdefault PySem.F.type_dict_setdefault (thn (ho.1 c s _ H _ I h) λu s1 ⟨x,H1,n,O,a,D,d,N⟩=>?_)
 subst D;obtain rfl:u=Value.ref a:=O;obtain⟨q,r,_⟩:=Xi n d
 refine⟨q,r,?_⟩
 rw[m.trees]
 refine fP rfl (gJ (cZ (thn (he.1 _ _ _ _ _ n N) λiv s2 ⟨y,H2,t,w,A⟩ =>
  cZ (thn (hf.1 _ _ _ _ _ t A) λfv s3 ⟨z,B,p,l,E,k,b,F,G,J,C,L,M⟩=>dZ ?_))))
 subst F
 cases w
 exact Bw8 (bD (bW (by decide) _) hu) p G J C l (λv w' K i j g=>⟨v,B,j,g,L v i⟩) λK i j=>⟨z,_,j,l,M i⟩
theorem Bc9 (hu:X.A.units+64<cLine)(ho:QE X o td)(he:QE X e ty)(hf:QE X f tx)(m:M2 X o "get" apos e f cpos):QE X (.Call (.Attribute o "get" apos) [e,f] [] cpos) (Ad1 td ty tx):=⟨A7e (bD (bW (by decide) _) hu) ho.get he.get hf.get m⟩
theorem Sd : QE X (.Dict [] [] a) Ab4:=⟨A7q⟩
end
section
variable {P:u6}{w:World}{A:t_}{E:z_}{s:u_}
theorem Aw0:((Manifest.find? "dict_keyiterator").elim "dict_keyiterator" λx=>x.tpName) = "dict_keyiterator" := by rfl
theorem Ao9 (f:s.heap.IsKeyIter it dd i es.size e) (u:s.heap.get? dd=some od) (a:od.data=.dict es e) (hi:i<es.size)
 (q:∀h',h'.IsKeyIter it dd (i+1) es.size e->Heap.SameBut it s.heap h'->Q (some es[i].key) { s with heap:=h' }):wpAny (model P w) A (pyNext (.ref it)) Q E s:=by
 obtain⟨k,g,d,z,r⟩:=s;obtain⟨⟨c,v,x,G⟩,l,m,h⟩:=f;obtain⟨C,j,o,t⟩:=od;simp only at m h a;subst m h a;have n:(⟨k,g,d,z,r⟩:u_).TypeIs (.ref it) "dict_keyiterator" := ⟨_,l,rfl⟩;have D:=mroOf_keyiter
 have p:Builtin.Dict_items.ownsTuple "dict_keyiterator" = false:=by decide
 have y:es[(i:Int).toNat]?=some es[i]:=by simp[hi]
 unfold pyNext
 refine aj (cN (cj (name:="__next__") n iU (bB iU n jG ?_ (jH _))))
 repeat any_goals first | assumption | wp_step
 simp only[Aw0,p,bV,bj,gV,List.take]
 have B:¬ ((i:Int)<0):=by lia
 simp only[B,bj,y]
 repeat any_goals first | assumption | wp_step
 simp only[Aw0,p,bV,bj]
 have b:(k.update it (Obj.mapFields (·.setIfInBounds 1 (rawInt ((i:Int)+1))))).IsKeyIter it dd (i+1) es.size e :=
  ⟨_,cu _ l (eV (du rfl _)),iH ..,by rw[du rfl];simp[rawInt]⟩
 exact⟨_,rfl,ak (q _ b (bK ..))⟩
theorem A1i (a:A.handled=none) (f:s.heap.IsKeyIter it dd i es.size j) (u:s.heap.get? dd=some od) (e:od.data=.dict es j) (hi:es.size<=i)
 (v:∀h',Heap.ExtBut it s.heap h'->Q none { s with heap:=h' }):wpAny (model P w) A (pyNext (.ref it)) Q E s:=by
 obtain⟨z,g,d,r,x⟩:=s;obtain⟨⟨c,p,q,D⟩,t,h,l⟩:=f;obtain⟨G,k,m,B⟩:=od;simp only at h l e;subst h l e;have n:(⟨z,g,d,r,x⟩:u_).TypeIs (.ref it) "dict_keyiterator" := ⟨_,t,rfl⟩;have H:=mroOf_keyiter
 have y:Builtin.Dict_items.ownsTuple "dict_keyiterator" = false:=by decide
 have C:es[(i:Int).toNat]?=none:=by simp[hi]
 unfold pyNext
 refine aj (cN (cj (name:="__next__") n iU (bB iU n jG ?_ (jH _))))
 repeat any_goals first | assumption | wp_step
 simp only[Aw0,y,bV,bj,gV,List.take]
 have o:¬ ((i:Int)<0):=by lia
 simp only[o,bj,C]
 repeat any_goals first | assumption | wp_step
 refine jw (show A.in1.handled=none from a) ?_
 refine aj (cY (T := "StopIteration") (b:=true) ⟨_,aJ _ rfl,rfl⟩ eY ?_)
 exact ak (v _ (((bK ..).extBut.push _).push _))
theorem Aq8 (q:(dd==sysModules)=false) (b:s.heap.get? dd=some od) (hx:od.ExactDict) (a:od.data=.dict es k)
 (m:Q (.ref s.heap.objs.size) { s with heap:=s.heap.push { cls:=.type "dict_keyiterator",data:=.fields #[.ref dd,.int 0 0,.int es.size 0,.int k 0] } }):wpAny (model P w) A (pyIter (.ref dd)) Q E s:=by
 obtain⟨o,g,d,p,l⟩:=s;obtain⟨t,f,e,n⟩:=od;obtain⟨i,h,j⟩:=hx;simp only at i h j a;subst i h j a;have c:(⟨o,g,d,p,l⟩:u_).TypeIs (.ref dd) "dict" := ⟨_,b,rfl⟩
 refine jx c F.slot_dict_iter (bB F.slot_dict_iter c F.entry_dict_iter ?_ (F.args_dict_iter_1 _))
 unfold Builtin.«dict.__iter__» Builtin.Dict.dictSlotNone
 refine aj (aj (iT c (ak ?_)))
 have r:Builtin.Dict.showsAll dd=pure ():=by unfold Builtin.Dict.showsAll;rw[if_neg (by rw[q];exact bf)]
 show wpAny _ _ (Builtin.Dict.showsAll dd >>= _) _ _ _
 repeat any_goals first | assumption | wp_step
 exact⟨_,rfl, "dict_keyiterator",_,⟨_,aJ _ rfl,rfl⟩,F.slot_dict_keyiterator_next.lookup,m⟩
end
section
variable {P:u6}{w:World}{A:t_}{E:z_}{s:u_}
theorem Rk {h:Heap} (e:h.get? it=some { cls:=.type "dict_itemiterator",data:=.fields vs }):(h.update it (Obj.mapFields f)).get? it=some { cls:=.type "dict_itemiterator",data:=.fields (f vs) } :=
 cu _ e (eV (du rfl _))
theorem Av4:((Manifest.find? "dict_itemiterator").elim "dict_itemiterator" λx=>x.tpName) = "dict_itemiterator" := by rfl
theorem A7i (c:IsItemIter s.heap it dd i es.size k O G) (T:s.heap.get? dd=some od) (h:od.data=.dict es k) (hi:i<es.size)
 (W:∀h',IsItemIterOut h' it dd (i+1) es.size k es[i].key es[i].val s.heap.objs.size->h'.get? s.heap.objs.size=some { cls:=.type "tuple",data:=.seq #[es[i].key,es[i].val] }->h'.objs.size=s.heap.objs.size+1 ->
  (∀b o,b≠it->s.heap.get? b=some o->h'.get? b=some o)->Q (some (.ref s.heap.objs.size)) { s with heap:=h' }):wpAny (model P w) A (pyNext (.ref it)) Q E s:=by
 obtain⟨a,g,d,C,v⟩:=s;obtain⟨Z,H,z,U⟩:=od;simp only at h;subst h;have L:(⟨a,g,d,C,v⟩:u_).TypeIs (.ref it) "dict_itemiterator" := ⟨_,c,rfl⟩;have f1:=mroOf_itemiter
 have N:Builtin.Dict_items.ownsTuple "dict_itemiterator" = true:=by decide
 have Y:es[(i:Int).toNat]?=some es[i]:=by simp[hi]
 have S:¬ ((i:Int)<0):=by lia
 unfold pyNext
 refine aj (cN (cj (name:="__next__") L iV (bB iV L jJ ?_ (jK _))))
 repeat any_goals first | assumption | wp_step
 simp only[Av4,N,c7,List.drop,List.take]
 repeat any_goals first | assumption | wp_step
 simp only[S,bj,Y]
 repeat any_goals first | assumption | wp_step
 simp only[Av4,N,c7]
 have m:Heap.SameBut it a (a.update it (Obj.mapFields λx=>x.setIfInBounds (2+1) (rawInt ((i:Int)+1)))):=bK ..
 have y:(a.update it (Obj.mapFields λx=>x.setIfInBounds (2+1) (rawInt ((i:Int)+1)))).get? it=some { cls:=.type "dict_itemiterator",data:=.fields #[.none,.bool false,.ref dd,rawInt ((i:Int)+1),.int es.size 0,.int k 0,O,G] }:=Rk c
 refine⟨_,rfl,ak ?_⟩
 show Q (some (.ref (a.update it (Obj.mapFields λx=>x.setIfInBounds (2+1) (rawInt ((i:Int)+1)))).objs.size)) { heap:=(((((a.update it (Obj.mapFields λx=>x.setIfInBounds (2+1) (rawInt ((i:Int)+1)))).push { cls:=Value.type "tuple",data:=Data.seq #[es[i].key,es[i].val] }).update it (Obj.mapFields λx=>x.setIfInBounds 6 es[i].key)).update it (Obj.mapFields λx=>x.setIfInBounds (6+1) es[i].val)).update it (Obj.mapFields λx=>x.setIfInBounds 0 (rawInt (a.update it (Obj.mapFields λx=>x.setIfInBounds (2+1) (rawInt ((i:Int)+1)))).objs.size))).update it (Obj.mapFields λx=>x.setIfInBounds 1 (Value.bool false)),gens:=g,drawn:=d,toks:=C,os:=v }
 generalize a.update it (Obj.mapFields λx=>x.setIfInBounds (2+1) (rawInt ((i:Int)+1)))=h1 at m y ⊢
 have V:h1.objs.size=a.objs.size:=m.1;have B:=aC { cls:=Value.type "tuple",data:=Data.seq #[es[i].key,es[i].val] } y;have l:(h1.push { cls:=Value.type "tuple",data:=Data.seq #[es[i].key,es[i].val] }).get? h1.objs.size=some { cls:=.type "tuple",data:=.seq #[es[i].key,es[i].val] }:=aJ _ rfl
 have D:∀b o,b≠it->a.get? b=some o->(h1.push { cls:=Value.type "tuple",data:=Data.seq #[es[i].key,es[i].val] }).get? b=some o:=λb o n e=>aC _ ((m.2 b n).trans e)
 have q:(h1.push { cls:=Value.type "tuple",data:=Data.seq #[es[i].key,es[i].val] }).objs.size=h1.objs.size+1:=cz ..;generalize h1.push { cls:=Value.type "tuple",data:=Data.seq #[es[i].key,es[i].val] }=h2 at B l D q ⊢;rw[V]at l q ⊢;have X:a.objs.size≠it:=bQ (az c)
 have r:=bK h2 it (Obj.mapFields λx=>x.setIfInBounds 6 es[i].key)
 have I:=Rk (f:=λx=>x.setIfInBounds 6 es[i].key) B
 generalize h2.update it (Obj.mapFields λx=>x.setIfInBounds 6 es[i].key)=h3 at r I ⊢
 have p:=bK h3 it (Obj.mapFields λx=>x.setIfInBounds (6+1) es[i].val)
 have K:=Rk (f:=λx=>x.setIfInBounds (6+1) es[i].val) I
 generalize h3.update it (Obj.mapFields λx=>x.setIfInBounds (6+1) es[i].val)=h4 at p K ⊢
 have u:=bK h4 it (Obj.mapFields λx=>x.setIfInBounds 0 (rawInt a.objs.size))
 have J:=Rk (f:=λx=>x.setIfInBounds 0 (rawInt a.objs.size)) K
 generalize h4.update it (Obj.mapFields λx=>x.setIfInBounds 0 (rawInt a.objs.size))=h5 at u J ⊢
 have t:=bK h5 it (Obj.mapFields λx=>x.setIfInBounds 1 (Value.bool false))
 have M:=Rk (f:=λx=>x.setIfInBounds 1 (Value.bool false)) J
 generalize h5.update it (Obj.mapFields λx=>x.setIfInBounds 1 (Value.bool false))=h6 at t M ⊢
 have j:∀b o,b≠it->h2.get? b=some o->h6.get? b=some o:=λb o n e=>(t.2 b n).trans ((u.2 b n).trans ((p.2 b n).trans ((r.2 b n).trans e)))
 refine W h6 ?_ (j _ _ X l) (by rw[show h6.objs.size=h2.objs.size from t.1.trans (u.1.trans (p.1.trans r.1))];exact q) λb o n e=>j b o n (D b o n e)
 have R:((i+1:Nat):Int)=(i:Int)+1:=by lia
 unfold IsItemIterOut;rw[R];exact M
end
theorem KT.get {H:Hp}:∀{kvs:List (PyData×V)}{xs:List (PyData×Addr×Value)}{i:Nat}{k:t6}{v:V},KT H kvs xs->kvs[i]?=some (k,v)->∃b u,xs[i]?=some (k,b,u)/\KAt H k b/\RelV v u
 | _,_,_,_,_,.nil,e=>by simp at e
 | _,_,0,k,v,.cons (a:=p) (b:=q) h t,e=>by
  cases (show some p=some (k,v) from e)
  obtain⟨h1,h2,h3⟩:=h;obtain⟨k',b,u⟩:=q
  cases (show k=k' from h1)
  exact⟨b,u,rfl,h2,h3⟩
 | _,_,i+1,k,v,.cons h t,e=>by
  obtain⟨b,u,e1,r⟩:=KT.get t (by simpa using e)
  exact⟨b,u,by simpa using e1,r⟩
section
variable {X:Cx}{pins:y_}{σ:St}{H:Hp}{s:u_}{a:Addr}{kvs:List (PyData×V)}
theorem Inv.still (I:Inv X pins σ H s)(e:H a=some (.dT kvs)):∃o,Inv X pins σ (upd H a (.frz o (.dT kvs))) s:=by
 obtain⟨z,y,h,r,o,f,g,b,c⟩:=I.hok a _ e
 refine⟨o,U8 I (by rw[e];trivial) (Heap.SameBut.refl _ _) ⟨o,b⟩ ⟨b,z,y,h,KT.keeps r λc i d=>?_,o,f,g,b,c⟩⟩
 rw[Ag (Bc2 d e λz=>nomatch z)];grind
theorem Inv.seen (I:Inv X pins σ H s) (e:H a=some (.frz o (.dT kvs))):∃c b d,s.heap.get? a=some o/\(a==sysModules)=false/\o.ExactDict/\o.data=.dict b d/\b.toList=c.map (entryOfKey (Dk X.prog X.w))/\KT H kvs c/\kvs.length<=sizeLine:=by
 obtain⟨h,z,y,c,r,g,b,d,i,j,k,l,f⟩:=I.hok a _ e
 grind
theorem Ha {es:v8} (h:es.toList=xs.map (entryOfKey (Dk P w))) (r:KT H kvs xs):es.size=kvs.length:=by
 rw[<- gG,h,ao,dU r]
theorem Ad6 {es:v8} (h:es.toList=xs.map (entryOfKey (Dk P w))) (r:KT H kvs xs) (e:kvs[i]?=some (k,v)) (hi:i<es.size) :
 ∃b u,es[i].key=.ref b/\es[i].val=u/\KAt H k b/\RelV v u:=by
 obtain⟨b,u,g,f,d⟩:=KT.get r e
 have a:es.toList[i]?=some (entryOfKey (Dk P w) (k,b,u)):=by grind
 rw[ju,iW hi]at a;have c:=bY a
 exact⟨b,u,by rw[c];rfl,by rw[c];rfl,f,d⟩
end
noncomputable def Itk (a:Addr) (o:Obj):It :=
 ⟨λi H=>∃kvs,H a=some (.frz o (.dT kvs))/\i<kvs.length,λi H x H'=>H'=H/\∃kvs k v b,H a=some (.frz o (.dT kvs))/\kvs[i]?=some (k,v)/\x=.ref b/\KAt H k b,λi H=>∃kvs,H a=some (.frz o (.dT kvs))/\kvs.length<=i⟩
def Iti (a:Addr)(o:Obj):It :=
 ⟨λi H=>∃kvs,H a=some (.frz o (.dT kvs))/\i<kvs.length,λi H x H'=>∃p kvs k v b,x=.ref p/\H p=none/\H'=upd H p (.tup [.ref b,v])/\H a=some (.frz o (.dT kvs))/\kvs[i]?=some (k,v)/\KAt H k b,λi H=>∃kvs,H a=some (.frz o (.dT kvs))/\kvs.length<=i⟩
theorem A5t {P:u6}{w:World}{K:v9}{tg:Expr}{a it:Addr}{o:Obj}{es:v8}{ep:Nat}(hd:o.data=.dict es ep):Turn P w K tg (Itk a o) [it] it (λi h=>h.IsKeyIter it a i es.size ep) where
 mem:=by simp
 obj:=λi h st b hb=>by
  have e:b=it:=by simpa using hb
  subst e;obtain⟨o,e,c,d⟩:=st
  exact⟨o,e,λv z=>by rw[d]at z;cases z⟩
 keep:=λi h h' st k=>let ⟨o,e,r⟩:=st; ⟨o,k it (by simp) o e,r⟩
 item:=by
  intro X hP hw hK hc i pins s σ H E I hf st hg;subst hP hw hK;obtain⟨kvs,ha,hi⟩:=hg;obtain⟨xs,es',ep',g1,g2,g3,g4,g5,g6,g7⟩:=I.seen ha;rw[hd]at g4
  cases g4
  have li:i<es.size:=by rw[Ha g5 g6];exact hi
  obtain⟨⟨k,v⟩,hk⟩:∃x,kvs[i]?=some x:=⟨_,bu hi⟩;obtain⟨b,u,k1,k2,k3,k4⟩:=Ad6 g5 g6 hk li
  obtain⟨f0,f1,f2,f3,f4,f5⟩:=hf it (by simp)
  refine Ao9 st g1 hd li λh' st' sb=>?_
  have I1:Inv X pins σ H { s with heap:=h' }:=I.turned (t':=s.toks) (λb o hb e=>(sb.2 b hb).trans e) f0 f1 f3 f4 f5
  obtain⟨o',e,c,d⟩:=id st'
  exact⟨_,rfl,Aj1 (s:={ s with heap:=h' }) e c d (by decide) ⟨.ref b,H,I1,by rw[k1];rfl,⟨rfl,kvs,k,v,b,ha,hk,rfl,k3⟩,st',λb hb=>(hf b hb).1⟩⟩
 done:=by
  intro X hP hw hK hc i pins s σ H E I hf st hg;subst hP hw hK;obtain⟨kvs,ha,hi⟩:=hg;obtain⟨xs,es',ep',g1,g2,g3,g4,g5,g6,g7⟩:=I.seen ha;rw[hd]at g4
  cases g4
  obtain⟨f0,f1,f2,f3,f4,f5⟩:=hf it (by simp)
  exact A1i (I.ok.hd hc) st g1 hd (by rw[Ha g5 g6];exact hi) λh' eb=>⟨rfl,I.turned (t':=s.toks) (λb o hb e=>eb b o hb e) f0 f1 f3 f4 f5⟩
 self:=λ_ _ _ _ _ st h=>wpAny_pyIter_keyiter st h
def iDK (td:TE):TI:=λσ H R=>td σ H λx H1=>∃a o kvs,x=.ref a/\H1 a=some (.frz o (.dT kvs))/\R (Itk a o) H1
section
variable {X:Cx}
theorem Ar8 (hl:QE X l f):QI X w l (iDK f):=by
 refine⟨?_⟩
 intro i s y H R I h
 refine thn (hl.1 _ s _ H _ I h) λv d ⟨x,m,c,n,p⟩=>?_
 obtain⟨a,o,r,e,j,q⟩:=p;subst e
 cases n
 obtain⟨A,B,C,k,u,t,g,D,E,F⟩:=c.seen j
 refine Aq8 u k t g ?_
 refine⟨d.heap.objs.size,[d.heap.objs.size],_,_,m,rfl,c.kept λb o e=>aC _ e,A5t g,⟨_,aJ _ rfl,rfl,rfl⟩,λb z=>?_,q⟩
 have e:b=d.heap.objs.size:=by grind
 subst e;exact c.fpOk (au _) (c.hok.fresh (au _))
def tFz (d:Nat)(t u:TS):TS:=λD σ H=>t { D with nx:=λσ' H'=>∃a kvs,σ'[d]?=some (some (.ref a))/\H' a=some (.dT kvs)/\∀o,u D σ' (upd H' a (.frz o (.dT kvs))) } σ H
theorem Af2 {st:Stmt}{rest:List Stmt} (h1:QS X st t) (h2:QSs X rest u):QSs X (st::rest) (tFz d t u):=by
 obtain⟨h2⟩:=h2
 refine⟨?_⟩
 intro b s k H D I h
 refine fK (thn (h1.1 _ s _ H _ I h) λf n q=>?_)
 cases f with
 | next =>
  obtain⟨i,l,g,a,e,m,j,q⟩:=q;obtain⟨o,c⟩:=g.still j;exact h2 _ _ _ _ D c (q o)
 | ret v=>exact q
 | brk=>exact q
 | cont=>exact q
end
section
variable {P:u6}{w:World}{A:t_}{E:z_}{s:u_}
theorem Bp4 (a:A.handled=none) (e:IsItemIter s.heap it dd i es.size f q r) (t:s.heap.get? dd=some od) (c:od.data=.dict es f) (hi:es.size<=i)
 (m:∀h',Heap.ExtBut it s.heap h'->Q none { s with heap:=h' }):wpAny (model P w) A (pyNext (.ref it)) Q E s:=by
 obtain⟨n,g,d,o,p⟩:=s;obtain⟨z,j,h,u⟩:=od;simp only at c;subst c;have k:(⟨n,g,d,o,p⟩:u_).TypeIs (.ref it) "dict_itemiterator" := ⟨_,e,rfl⟩;have y:=mroOf_itemiter
 have x:Builtin.Dict_items.ownsTuple "dict_itemiterator" = true:=by decide
 have v:es[(i:Int).toNat]?=none:=by simp[hi]
 have l:¬ ((i:Int)<0):=by lia
 unfold pyNext
 refine aj (cN (cj (name:="__next__") k iV (bB iV k jJ ?_ (jK _))))
 repeat any_goals first | assumption | wp_step
 simp only[Av4,x,c7,List.drop,List.take]
 repeat any_goals first | assumption | wp_step
 simp only[l,bj,v]
 repeat any_goals first | assumption | wp_step
 refine jw (show A.in1.handled=none from a) ?_
 refine aj (cY (T := "StopIteration") (b:=true) ⟨_,aJ _ rfl,rfl⟩ eY ?_)
 exact ak (m _ (((bK ..).extBut.push _).push _))
theorem A4q (b:(dd==sysModules)=false):MeetsIn P w (Builtin.«dict.items» ⟨[.ref dd],[]⟩) (λ_ R s=>s.TypeIs (.ref dd) "dict" /\ R (.ok (.ret (.ref s.heap.objs.size))) { s with heap:=s.heap.push { cls:=.type "dict_items",data:=.fields #[.ref dd] } }) :=
 .of_wp λA R s ⟨t,h⟩=>by
  refine aj (aj (iT t (ak ?_)))
  have a:Builtin.Dict.showsAll dd=pure ():=by unfold Builtin.Dict.showsAll;simp_all
  rw[a]
  refine aj (ak (aj (bO (ak ⟨_,rfl,h⟩))))
theorem A7p (b:(dd==sysModules)=false) (ty:s.TypeIs (.ref dd) "dict")
 (a:Q (.ref s.heap.objs.size) { s with heap:=s.heap.push { cls:=.type "dict_items",data:=.fields #[.ref dd] } }):wpAny (model P w) A (call (.builtin "dict.items") [.ref dd]) Q E s :=
 eG PySem.F.slot_dict_items ty PySem.F.entry_dict_items (PySem.F.args_dict_items_1 _) (A4q b) ⟨ty,a⟩
theorem A6r (hv:s.heap.get? v=some { cls:=.type "dict_items",data:=.fields #[.ref dd] }) (l:s.heap.get? dd=some od) (a:od.data=.dict es c)
 (k:Q (.ref s.heap.objs.size) { s with heap:=s.heap.push { cls:=.type "dict_itemiterator",data:=.fields #[.none,.bool false,.ref dd,.int 0 0,.int es.size 0,.int c 0,.none,.none] } }):wpAny (model P w) A (pyIter (.ref v)) Q E s:=by
 obtain⟨n,g,d,i,j⟩:=s;obtain⟨o,b,e,m⟩:=od;simp only at a;subst a;have f:(⟨n,g,d,i,j⟩:u_).TypeIs (.ref v) "dict_items" := ⟨_,hv,rfl⟩
 have h:Builtin.Dict_items.ownsTuple "dict_itemiterator" = true:=by decide
 refine jx f F.slot_dict_items_iter (bB F.slot_dict_items_iter f F.entry_dict_items_iter ?_ (F.args_dict_items_iter_1 _))
 repeat any_goals first | assumption | wp_step
 simp only[h,c7];exact⟨_,rfl, "dict_itemiterator",_,⟨_,aJ _ rfl,rfl⟩,F.slot_dict_itemiterator_next.lookup,k⟩
end
theorem Aw3 {P:u6}{w:World}{K:v9}{elts:v_}{kk:Nat}{pos:Pos}{a it:Addr}{o:Obj}{es:v8}{ep:Nat}(hd:o.data=.dict es ep):Turn P w K (.Tuple elts kk pos) (Iti a o) [it] it (λi h=>∃ok ov,IsItemIter h it a i es.size ep ok ov) where
 mem:=by simp
 obj:=λi h st b hb=>by
  have e:b=it:=by simpa using hb
  subst e;obtain⟨ok,ov,e⟩:=st
  exact⟨_,e,λv z=>by cases z⟩
 keep:=λi h h' st k=>let ⟨ok,ov,e⟩:=st; ⟨ok,ov,k it (by simp) _ e⟩
 item:=by
  intro X hP hw hK hc i pins s σ H E I hf st hg;subst hP hw hK;obtain⟨kvs,ha,hi⟩:=hg;obtain⟨ok,ov,st⟩:=st;obtain⟨xs,es',ep',g1,g2,g3,g4,g5,g6,g7⟩:=I.seen ha;rw[hd]at g4
  cases g4
  have li:i<es.size:=by rw[Ha g5 g6];exact hi
  obtain⟨⟨k,v⟩,hk⟩:∃x,kvs[i]?=some x:=⟨_,bu hi⟩;obtain⟨b,u,k1,k2,k3,k4⟩:=Ad6 g5 g6 hk li
  obtain⟨f0,f1,f2,f3,f4,f5⟩:=hf it (by simp)
  refine A7i st g1 hd li λh' st' new sz kp=>?_
  refine⟨_,rfl,?_⟩
  apply wpAny_letOwnedTupleGo_items st';intro h2 st2 sb2;have ne:s.heap.objs.size≠it:=bQ (az st);have hp:H s.heap.objs.size=none:=I.hok.fresh (au _);have new2:h2.get? s.heap.objs.size=some { cls:=.type "tuple",data:=.seq #[es[i].key,es[i].val] }:=(sb2.2 _ ne).trans new
  refine⟨.ref s.heap.objs.size,upd H s.heap.objs.size (.tup [.ref b,v]),?_,rfl,⟨_,kvs,k,v,b,rfl,hp,rfl,ha,hk,k3⟩,⟨_,_,st2⟩,λc hc=>?_⟩
  ·refine I.turnLay (t':=s.toks) (h':=h2) (p:=s.heap.objs.size) (o:=.tup [.ref b,v]) (ch:=[it]) hf (λc o m e=>(sb2.2 c (by simpa using m)).trans (kp c o (by simpa using m) e)) (au _) ?_
   refine⟨show 2<=sizeLine by decide,[es[i].key,es[i].val],.cons (by rw[k1];rfl) (.cons (by rw[k2];exact k4) .nil),_,new2,rfl,⟨_,rfl⟩,rfl⟩
  ·have e:c=it:=by simpa using hc
   subst e;rw[Ag (aD ne)];exact f0
 done:=by
  intro X hP hw hK hc i pins s σ H E I hf st hg;subst hP hw hK;obtain⟨kvs,ha,hi⟩:=hg;obtain⟨ok,ov,st⟩:=st;obtain⟨xs,es',ep',g1,g2,g3,g4,g5,g6,g7⟩:=I.seen ha;rw[hd]at g4
  cases g4
  obtain⟨f0,f1,f2,f3,f4,f5⟩:=hf it (by simp)
  exact Bp4 (I.ok.hd hc) st g1 hd (by rw[Ha g5 g6];exact hi) λh' eb=>⟨rfl,I.turned (t':=s.toks) (λb o hb e=>eb b o hb e) f0 f1 f3 f4 f5⟩
 self:=λA i s Q E st h=>by
  obtain⟨ok,ov,st⟩:=st;exact PySem.W.kcp_self st h
def iDI (td:TE):TI:=λσ H R=>td σ H λx H1=>∃a o kvs,x=.ref a/\H1 a=some (.frz o (.dT kvs))/\R (Iti a o) H1
section
variable {X:Cx}
theorem A4j {d c k:Pos}{i:v_}{y:Nat}(hl:QE X l r) (hbase:attributeBase l "items" X.env (eval l X.env)=eval l X.env:=by rfl) (hline:(d.endLine==c.line)=true:=by rfl) :
 QI X (.Tuple i y k) (.Call (.Attribute l "items" d) [] [] c) (iDI r):=by
 refine⟨?_⟩
 intro g s K H R I h
 refine wpAny_Call_method0_late hbase hline (thn (hl.1 g s K H _ I h) λv f ⟨x,z,j,A,C⟩=>?_)
 obtain⟨a,o,m,e,t,q⟩:=C;subst e
 cases (show v=Value.ref a from A)
 obtain⟨p,B,_⟩:=Xi j (.inr ⟨m,.inr ⟨o,t⟩⟩);obtain⟨O,D,E,F,J,L,u,P,M,N⟩:=j.seen t
 refine⟨"dict", "dict.items",gP,PySem.F.slot_dict_items,PySem.F.type_dict_items,p,B,fP rfl (PySem.evalArgs_none (A7p J p ?_))⟩
 refine A6r (aJ _ rfl) (aC _ F) u ?_
 have G:∀b w,f.heap.get? b=some w->((f.heap.push { cls:=.type "dict_items",data:=.fields #[.ref a] }).push { cls:=.type "dict_itemiterator",data:=.fields #[.none,.bool false,.ref a,.int 0 0,.int D.size 0,.int E 0,.none,.none] }).get? b=some _:=λb w e=>aC _ (aC _ e)
 refine⟨_,[(f.heap.push _).objs.size],_,_,z,rfl,j.kept G,Aw3 u,⟨_,_,aJ _ rfl⟩,λb Q=>?_,q⟩
 have e:b=(f.heap.push { cls:=.type "dict_items",data:=.fields #[.ref a] }).objs.size:=by grind
 subst e
 have n:f.heap.objs.size<=(f.heap.push { cls:=.type "dict_items",data:=.fields #[.ref a] }).objs.size:=by simp_all
 exact j.fpOk n (j.hok.fresh n)
end
section
variable {P:u6}{w:World}{A:t_}{E:z_}{s:u_}
theorem A5g (quiet:A.handled=none){it dd:Addr}(ne:dd≠it){es:v8}{ep:Nat}{o:Obj}(hd:o.data=.dict es ep) :
 Walks P w A it [it,dd] [it] es.size (λi v=>∃h:i<es.size,v=es[i].key) (λi h=>h.IsKeyIter it dd i es.size ep/\h.get? dd=some o) where
 sub:=λb hb=>by simp at hb;simp[hb]
 frame:=λ_ _ _ st hk=>⟨let ⟨o,e,r⟩:=st.1; ⟨o,hk it (by simp) o e,r⟩,hk dd (by simp) _ st.2⟩
 item:=λi s Q E hi st hQ=>Ao9 st.1 st.2 hd hi λh' it' sb=>hQ _ h' s.toks ⟨hi,rfl⟩ ⟨it',(sb.2 _ ne).trans st.2⟩ λb o hb e=>(sb.2 b (λh=>hb (by simp[h]))).trans e
 done:=λs Q E st hQ=>A1i quiet st.1 st.2 hd (au _) λh' he=>hQ h' s.toks λb o hb e=>he b o (λh=>hb (by simp[h])) e
 self:=λ_ _ _ _ st hQ=>wpAny_pyIter_keyiter st.1 hQ
theorem Bg2:typeLookup (.type "dict") "__len__" = pure (some (.builtin "dict.__len__")):=by trivial
theorem Bc4:isSubtype (.type "dict") (.type "dict")=pure true:=by rfl
theorem Ac9 (f:A.handled=none) (T:(dd==sysModules)=false) (x:s.heap.get? dd=some o) (C:o.ExactDict) (hd:o.data=.dict es d) (hn:es.size<=sizeLine)
 (R:∀c acc,(∀b o,s.heap.get? b=some o->c.heap.get? b=some o)->c.gens=s.gens->c.drawn=s.drawn->c.os=s.os->ItemsOf (λi v=>∃h:i<es.size,v=es[i].key) acc es.size->Q acc.toList c):wpAny (model P w) A (collect (.ref dd)) Q E s:=by
 unfold collect
 refine aj (wpAny_runValue (fc F.entry_proto_collect ?_))
 rw[fY F.plain_proto_collect _]
 show wpAny _ A.in1 (newList [] >>= λl=>again (.builtin "list.__iadd__" ⟨[l,.ref dd],[]⟩)) _ _ s
 refine aj (bO ?_)
 refine ak ⟨gW iY _,fc F.entry_list_iadd ?_⟩
 rw[fY iY _];have B:s.heap.objs.size≠dd:=bQ (az x)
 have N:Builtin.List.listSameRef (.ref s.heap.objs.size) (.ref dd)=false:=by simp[Builtin.List.listSameRef,B]
 have z:=aC { cls:=.type "list",data:=.seq ([]:w6).toArray } x;have S:(s.heap.push { cls:=.type "list",data:=.seq ([]:w6).toArray }).get? s.heap.objs.size=some { cls:=.type "list",data:=.seq ([]:w6).toArray }:=aJ _ rfl
 show wpAny _ A.in1 (Builtin.List.listExtendWith (.ref s.heap.objs.size) (.ref dd) (.ref s.heap.objs.size)) _ _ _
 unfold Builtin.List.listExtendWith
 have U:({ s with heap:=s.heap.push { cls:=.type "list",data:=.seq ([]:w6).toArray } }:u_).TypeIs (.ref dd) "dict" := ⟨_,z,C.1⟩
 refine aj (dF U ?_)
 have k:(Value.type "dict" == Value.type "list")=false:=by decide
 have J:(Value.type "dict" == Value.type "tuple")=false:=by decide
 simp only[N,k,J,Bool.or_false,bV,bj]
 refine aj (Aq8 T z C hd ?_)
 have D:=aC { cls:=.type "dict_keyiterator",data:=.fields #[.ref dd,.int 0 0,.int es.size 0,.int d 0] } z;have q:=aC { cls:=.type "dict_keyiterator",data:=.fields #[.ref dd,.int 0 0,.int es.size 0,.int d 0] } S;have G:((s.heap.push { cls:=.type "list",data:=.seq ([]:w6).toArray }).push { cls:=.type "dict_keyiterator",data:=.fields #[.ref dd,.int 0 0,.int es.size 0,.int d 0] }).IsKeyIter (s.heap.push { cls:=.type "list",data:=.seq ([]:w6).toArray }).objs.size dd 0 es.size d:=⟨_,aJ _ rfl,rfl,rfl⟩;have K:(s.heap.push { cls:=.type "list",data:=.seq ([]:w6).toArray }).objs.size=s.heap.objs.size+1:=cz ..
 have O:∀b o,s.heap.get? b=some o->((s.heap.push { cls:=.type "list",data:=.seq ([]:w6).toArray }).push { cls:=.type "dict_keyiterator",data:=.fields #[.ref dd,.int 0 0,.int es.size 0,.int d 0] }).get? b=some o:=λb o e=>aC _ (aC _ e)
 rw[K]at G ⊢
 generalize ((s.heap.push { cls:=.type "list",data:=.seq ([]:w6).toArray }).push { cls:=.type "dict_keyiterator",data:=.fields #[.ref dd,.int 0 0,.int es.size 0,.int d 0] })=k at *
 have j:({ s with heap:=k }:u_).TypeIs (.ref dd) "dict" := ⟨_,D,C.1⟩
 refine aj (bZ ?_)
 unfold Builtin.List.listLengthHint
 refine aj (dD j Bg2 ?_)
 wp_delta
 refine aj (cY (b:=true) j Bc4 ?_)
 show wpAny _ A.in1 (typeOf (Value.ref dd) >>= _) _ _ _
 refine aj (dF j ?_)
 refine ak ?_
 rw[if_pos (by decide)]
 refine aj (cL ?_)
 refine aj (m:=Builtin.List.listTouch _) ?_
 unfold Builtin.List.listTouch
 refine aj (gY q rfl ?_)
 have H:=cu (Obj.mapSeq (·.push Value.none)) q rfl
 refine gY H rfl ?_
 have Y:=cu (Obj.mapSeq (·.pop)) H rfl
 have g:∀b o,b≠s.heap.objs.size->k.get? b=some o->((k.update s.heap.objs.size (Obj.mapSeq (·.push Value.none))).update s.heap.objs.size (Obj.mapSeq (·.pop))).get? b=some o:=λb o n e=>(cH _ _ (aD n)).trans ((cH _ _ (aD n)).trans e)
 have L:=az x;have M:dd≠s.heap.objs.size+1:=aP (fV L)
 have W:=A5g (P:=P) (w:=w) (A:=A.in1) (show A.in1.handled=none from f) M hd
 refine ak ⟨gW gZ _,codeAny_extend_loopS W.toS hn s.heap.objs.size (λm=>?_) _ es.size 0 _ _ _ rfl (aM _) ⟨?_,g _ _ (aD B) D⟩ Y (ItemsOf.nil _) λc r Z u y p=>?_⟩
 ·simp only[aB,a_,bc]at m
  rcases m with m | m
  ·exact absurd m (aP (eO _))
  ·exact B m
 ·obtain⟨t,X,V⟩:=G
  exact⟨t,g _ _ (bQ (eO _)) X,V⟩
 ·show wpAny _ A (load s.heap.objs.size >>= _) _ _ c
  refine aj (wpAny_load y ?_)
  refine ak (R c r (λb t e=>u.heap b t (λI=>?_) (g b t (aP (az e)) (O b t e))) u.gens u.drawn u.os p)
  have a:=az e;simp only[aB,a_,bc]at I
  rcases I with h | h
  ·rw[h]at a;exact absurd a (bh _)
  ·rw[h]at a;exact absurd a (Nat.not_lt.mpr (gM _))
theorem Vv (t:(dd==sysModules)=false) (j:o.ExactDict) (hd:o.data=.dict es m) (hn:es.size<=sizeLine) :
 Meets (Builtin.«tuple.__new__» ⟨[.type "tuple",.ref dd],[]⟩)
  (λA R s=>A.handled=none/\s.heap.get? dd=some o/\∀(s':u_) (acc:v7),(∀b o,s.heap.get? b=some o->s'.heap.get? b=some o)->s'.gens=s.gens->s'.drawn=s.drawn->s'.os=s.os->ItemsOf (λi v=>∃h:i<es.size,v=es[i].key) acc es.size ->
   R (.ok (.ret (.ref s'.heap.objs.size))) { s' with heap:=s'.heap.push { cls:=.type "tuple",data:=.seq acc } }) :=
 .of_wp λP w A R s h=>by
  obtain⟨p,k,h⟩:=h;have l:=sub_tuple_self;have c:=init_tuple_lookup;have u:=madeHere_tuple;have n:s.TypeIs (.ref dd) "dict" := ⟨_,k,j.1⟩;have f:A.in1.handled=none:=p
  wp_walk using dF n,Ac9 f t k j hd hn
  intro s' acc q r d g a
  refine aj (ak ?_)
  show wpAny _ _ (Builtin.Tuple.tupleExact acc.toList.toArray >>= λv=>ret v) _ _ _
  unfold Builtin.Tuple.tupleExact
  have e:acc.toList.toArray=acc:=by simp
  refine aj (bO ?_ (by rw[e];show acc.size<=sizeLine;rw[a.1];exact hn))
  refine ak ⟨_,rfl,?_⟩
  rw[e];exact h s' _ q r d g a
theorem Ys (a:A.handled=none) (e:(dd==sysModules)=false) (f:s.heap.get? dd=some o) (g:o.ExactDict) (hd:o.data=.dict es d) (hn:es.size<=sizeLine)
 (h:∀(h':Heap) (tk:Nat) (acc:v7),(∀b o,s.heap.get? b=some o->h'.get? b=some o)->ItemsOf (λi v=>∃h:i<es.size,v=es[i].key) acc es.size->Q (.ref h'.objs.size) { s with heap:=h'.push { cls:=.type "tuple",data:=.seq acc },toks:=tk }) :
 wpAny (model P w) A (call (.type "tuple") [.ref dd]) Q E s:=by
 refine callType_new F.called_tuple (by rfl) (F.typeCall_tuple_1 _) (F.newCall_tuple_1 _) (λk=>jn _ _) F.entry_tuple_new
  (Vv e g hd hn) ⟨a,f,λm acc n p j l c=>⟨⟨_,aJ _ rfl,rfl⟩,?_⟩⟩
 grind
end
def Bo7 (H:Hp):w5->n_->Prop
 | [],vs=>vs=[]
 | k::ks,vs=>∃b r,vs=.ref b::r/\KAt H k b/\Bo7 H ks r
def Bt8 (td:TE):TE:=λσ H Q=>td σ H λx H1=>∃a o kvs,x=.ref a/\H1 a=some (.frz o (.dT kvs))/\∀vs p,Bo7 H1 (kvs.map (·.1)) vs->H1 p=none->Q (.ref p) (upd H1 p (.tup vs))
section
variable {X:Cx}
theorem Bt7 {H:Hp}{P:u6}{w:World}:∀{kvs:List (PyData×V)}{xs:List (PyData×Addr×Value)},KT H kvs xs->∃vs,Bo7 H (kvs.map (·.1)) vs/\Vals vs (xs.map λx=>Value.ref x.2.1)
 | _,_,.nil=>⟨[],rfl,.nil⟩
 | _,_,.cons (a:=p) (b:=q) h t=>by
  obtain⟨vs,h1,h2⟩:=Bt7 (P:=P) (w:=w) t;exact⟨.ref q.2.1::vs,⟨q.2.1,vs,rfl,h.2.1,h1⟩,.cons rfl h2⟩
theorem Bk2 (hc:X.calm=true) (hg:Gl X "tuple") (hm:X.mg "tuple" = none) (he:QE X e m) (hs1:isStar e=false:=by rfl):QE X (.Call (.Name "tuple" p) [e] [] j) (Bt8 m):=by
 refine⟨?_⟩
 intro g s L H Q I h;have f:=Fd (es:=[]) (env:=X.env) hs1
 refine Call_ (Ld I hg hm K1 (dX ?_ f rfl))
 rw[f]
 show wpAny _ _ (spliced ((false,eval e X.env)::backTo j (starEach [] X.env))) _ _ s
 refine cZ ?_
 refine thn (he.1 g s L H _ I h) λu T ⟨v,H1,n,D,W⟩=>?_
 refine dZ ?_
 obtain⟨a,o,J,rfl,M,q⟩:=W
 cases (show u=Value.ref a from D)
 obtain⟨l,r,ep,K,E,F,G,t,k,y⟩:=n.seen M;have z:=Ha t k
 refine Ys (I.ok.hd hc) E K F G (by rw[z];exact y) λN O c S d=>?_
 obtain⟨vs,V,B⟩:=Bt7 (P:=X.prog) (w:=X.w) k
 have Y:c.toList=l.map λx=>Value.ref x.2.1:=by
  have Z:c.size=l.length:=d.1.trans (z.trans (dU k));apply jy
  ·rw[gG,ao];exact Z
  ·intro i R U
   have hi:i<c.size:=by simpa using R
   have hx:i<l.length:=by simpa using U
   obtain⟨hs,e1⟩:=d.2 i c[i] (iW hi)
   have A:r.toList[i]?=some (entryOfKey (Dk X.prog X.w) l[i]):=by rw[t,bJ,bu _];rfl
   rw[ju,iW hs]at A;rw[Array.getElem_toList,e1,bY A,List.getElem_map];rfl
 have C:Inv X _ _ _ { T with heap:=N,toks:=O }:=n.kept S
 refine⟨.ref _,upd _ _ _,C.laid (λb u e=>aC _ e) (au _) ?_,rfl,q _ _ V (C.hok.fresh (au _))⟩
 refine⟨by rw[B.length,ao,<- dU k];exact y,c.toList,by rw[Y];exact B,_,aJ _ rfl,rfl,⟨0,by simp⟩,rfl⟩
theorem Ag4 (hu:X.A.units+64<cLine) (ho:QE X o d) (hi:QE X i ty) (hv:QE X a e) (hs:swapsWith a (some (.Subscript o i b)) c.line X.env=pure false:=by rfl) :
 QS X (.Assign [.Subscript o i b] a c) (Be8 d ty e):=⟨Bi6 (bD (bW (by decide) _) hu) ho.get hi.get hv.get hs⟩
end
end L2
namespace L2
open PySem PySem.Spec PyProof.Rows PySem.W
section
variable {X:Cx}
def A1k (K:v9):V->n_->Hp->VK->Prop:=λx vs H Q=>∃(a:Addr) (ss:v4) (y:Str),x=.ref a/\vs=[.str y]/\SqL K H a (ss.map V.str)/\Q (.int ((ss.countP λz=>z==y):Nat)) H
theorem A4z (b:X.K=Kq):MtM X "list.count" (A1k Kq):=by
 subst b;intro d s σ H x vs v us Q I i k h;obtain⟨a,ss,y,rfl,rfl,l,q⟩:=h
 cases i
 obtain⟨u,rfl,m⟩:=k.one;obtain⟨t,rfl⟩:=m;obtain⟨j,r,A,hz⟩:=I.list l;obtain⟨o,n,e,g,c,p⟩:=A;obtain⟨c0,dd,B,sl⟩:=o;subst g p c
 refine dm F.slot_list_count ⟨_,e,rfl⟩ F.entry_list_count (F.args_list_count_2 _ _) (SeqAt.list_countAt a _ n _ _ _ (A2s y)) ⟨e,λw hw=>?_,?_⟩
 ·obtain⟨z,t',rfl⟩:=Ad5 r w (by grind)
  exact jg z _ y t
 ·rw[(Z2 y r)]
  exact⟨.int _,H,I.tok _,⟨_,rfl⟩,q⟩
end
def A5m (tc:List (Str×v4))(mg:x_)(h:Heap):Prop:=∀q∈tc,∃a o its n,mg q.1=some (.ref a)/\h.get? a=some o/\o.cls=.type "tuple" /\ o.data=.seq its n/\its.size<=sizeLine/\Vals (q.2.map V.str) its.toList
theorem Qu:∀{ss:v4}{us:w6},Vn ss us=true->Vals (ss.map V.str) us
 | [],[],_=>.nil
 | s::ss,.str z t::us,e=>by
  obtain⟨e1,e2⟩:=aA.mp (show (s==z&&Vn ss us)=true from e)
  cases cT e1
  exact .cons ⟨t,rfl⟩ (Qu e2)
theorem B3d {s:u_}(e:d.all (A9j s.heap)=true):A5m d (s.heap.nsMap mainGlobals) s.heap:=λq m=>by
 have e:=bL.mp e q m;unfold A9j at e
 split at e
 ·rename_i a h
  split at e
  ·rename_i o g
   split at e
   ·rename_i c b n i j
    obtain⟨e,k⟩:=aA.mp e;obtain⟨l,f⟩:=aA.mp e
    exact⟨a,o,b,n,h,g,by rw[i,cT l],j,aV f,Qu k⟩
   ·cases e
  ·cases e
 ·cases e
theorem Bg6 (mg:x_) (h h':Heap) (x:A5m c mg h) (hk:∀b o,h.get? b=some o->h'.get? b=some o):A5m c mg h':=λq m=>by
 obtain⟨a,o,d,n,f,e,r⟩:=x q m
 grind
theorem Bj7 {K:v9}(x:A5m c mg h) (f:∀a o,h.get? a=some o->Fl o=true->o.data≠.fields #[]->K.lookup a=some o) {i:Nat} (e:c[i]?=some (y,ss)):∃p,mg y=some (.ref p)/\∀H,SqT K H p (ss.map V.str):=by
 obtain⟨a,o,b,n,g,j,k,l,m,d⟩:=x _ (bz e)
 exact⟨a,g,λH=>.inr ⟨o,b,n,f a o j (by unfold Fl;grind) (by grind),k,l,m,d⟩⟩
theorem walk_ofX {l:OpenLaw} {sp:Frag->Sp}
 (hn:l.most=some n) (r:n<=sizeLine) (t:d.params.defaults=[]) (hr:Room k callerA)
 (F:∀(w:World) (g:ExcName->u9) (mg C:x_) (fa:Addr) (h:Heap),Top q (looseW q loose) g mg C h->XP mg h->mg d.name=some (.ref fa) ->
  ∃(K:Frag) (p:u5),K.In h/\TabAt K h/\(∀(s:u_) (u:Value),BindsTo s p ⟨[u],[]⟩ [(x,u)])/\∀base:Heap,K.In base->base.Ns mainGlobals mg->FnOk l.prog w K mg base CX0 k fa p [x] (sp K))
 (m:∀(K:Frag) (H:Hp) (a:Addr) (ns:List Int),ns.length<=n->SqL K H a (ns.map V.int)->sp K [.ref a] H (λv _=>v=.bl true) λ_ _ _=>False) :
 WalkO q loose XP YP l.row.toRowW d [] (λf vs=>PySem.call f vs):=by
 refine Att.An2 hn t λw D B mg C fa o P O J a vs ns G Y Q R E j i c b L=>?_
 obtain⟨K,p,y,A,I,M⟩:=F w _ _ _ _ _ G.T G.X j
 exact A3p y G.T.g G.T.b G.T.builtins G.T.nolimit L G.T.bmain A i c (aq b r) hr M I (λH N=>m K H a _ b N) λH e S z=>z
end L2
namespace L2
open PySem PySem.Spec PyProof.Rows
def LaidS (H0:Hp)(xs ys:n_):Nat->n_->Hp->Prop
 | 0,ps,H=>ps=[]/\H=H0
 | i+1,ps,H=>∃r H' p x y,LaidS H0 xs ys i r H'/\xs[i]?=some x/\ys[i]?=some y/\H' p=none/\ps=r++[.ref p]/\H=upd H' p (.tup [x,y])
theorem SqK.upd (x:SqK t H a xs) (h:H p=none):SqK t (upd H p o) a xs:=by
 obtain⟨u,e⟩:=x.some;have b := Bb e h
 cases t
 ·exact(Ag b).trans x
 ·exact(Ag b).trans x
theorem Aw7:typeLookup (.type "zip") "__len__" = pure none:=by rw[typeLookup_type,builtinLookup_eq_fast];trivial
theorem Aj3:typeLookup (.type "zip") "__length_hint__" = pure none:=by rw[typeLookup_type,builtinLookup_eq_fast];trivial
section
variable {X:Cx}{pins:y_}{σ:St}{A:t_}{t1 t2:Bool}{z ti to i1 i2 a b S:Addr}{xs ys:n_}
theorem Av7 (f:A.handled=none) (d:zA z ti to i1 i2 a b) (y:Zs s.heap t1 t2 z ti to i1 i2 a b k) (ha:SqA t1 s.heap a us) (hb:SqA t2 s.heap b vs) (hx:us[k]?=none)
 (q:∀h',(∀c o,c∉[z,ti,to,i1,i2]->s.heap.get? c=some o->h'.get? c=some o)->Q none { s with heap:=h' }):wpAny (model P w) A (pyNext (.ref z)) Q E s:=by
 have l:=y.ty;unfold pyNext
 refine aj (cN (cj l dI (bB dI l iK ?_ (iM _))))
 rcases y with ⟨rfl,y⟩ | ⟨p0,b1,hp,y⟩
 ·refine Aj2 f d y ha hb (.inl hx) λm e h i=>?_
  obtain⟨o,j,g⟩:=i;exact aj (cY ⟨o,j,g⟩ eY (ak (q _ h)))
 ·refine A3r f d y ha hx λm e h i=>?_
  obtain⟨o,j,g⟩:=i;exact aj (cY ⟨o,j,g⟩ eY (ak (q _ h)))
theorem Br9 (k:A.in1.handled=none) (nd:[z,ti,to,i1,i2].Nodup) (Q:S∉[z,ti,to,i1,i2]) (hl:xs.length=ys.length) (hz:xs.length<=sizeLine)
 (U:∀H acc c ps s,Inv X pins σ H s->LaidS H0 xs ys xs.length ps H->Vals ps acc.toList->s.heap.get? S=some { cls:=.type "list",dict:=none,data:=.seq acc c,slots:=#[] }->R (.ok (.ret B)) s) :
 ∀
  (r i:Nat) (H:Hp) (s:u_) (acc:v7) (c:Nat) (ps:n_),i+r=xs.length->Inv X pins σ H s->(∀b∈[z,ti,to,i1,i2],Lh X pins H b)->Lh X pins H S->to<s.heap.objs.size->SqK t1 H a xs->SqK t2 H b ys->Zs s.heap t1 t2 z ti to i1 i2 a b i ->
  s.heap.get? S=some { cls:=.type "list",dict:=none,data:=.seq acc c,slots:=#[] }->acc.size=i->Vals ps acc.toList->LaidS H0 xs ys i ps H->codeAny (model X.prog X.w) A (.builtin "list.extend.loop" ⟨[.ref S,.ref z,B],[]⟩) R s:=by
 have C:∀{H:Hp},(∀b∈[z,ti,to,i1,i2],Lh X pins H b)->SqK t1 H a xs->SqK t2 H b ys->zA z ti to i1 i2 a b:=λd h f =>
  ⟨nd,λm=>by (obtain⟨o,e⟩:=h.some;rw[(d a m).1]at e;cases e),λm=>by (obtain⟨o,e⟩:=f.some;rw[(d b m).1]at e;cases e)⟩
 intro r
 induction r with
 | zero =>
  intro i H s acc c ps e I d Z g h f y G N rv L
  have J:i=xs.length:=by lia
  subst J;obtain⟨its,M,K⟩:=h.its I;obtain⟨O,rb,P⟩:=f.its I
  refine fc F.entry_extend_loop ?_
  rw[fY gZ _]
  show wpAny _ A.in1 (pyNext (.ref z) >>= _) _ _ s
  refine aj (Av7 k (C d h f) y K P (by simp[M.length]) λh' D=>?_)
  exact ak (U H acc c ps _ (I.turnL (t':=s.toks) d λc o m e=>D c o m e) L rv (D S _ Q G))
 | succ r ih =>
  intro i H s acc c ps e I d Z g h f y G N rv L
  have J:i<xs.length:=by lia
  have hj:i<ys.length:=by lia
  obtain⟨its,M,K⟩:=h.its I;obtain⟨O,rb,P⟩:=f.its I;obtain⟨u,hu,ru⟩:=M.get (bu J);obtain⟨v,hv,T⟩:=rb.get (bu hj)
  refine fc F.entry_extend_loop ?_
  rw[fY gZ _]
  show wpAny _ A.in1 (pyNext (.ref z) >>= _) _ _ s
  refine aj (A5b (x:=u) (x':=v) (C d h f) g y K P (by simpa using hu) (by simpa using hv) λt z1 W Y D=>?_)
  have j:=D S _ Q G;have np:s.heap.objs.size≠S:=bQ (az G);have hp:H s.heap.objs.size=none:=I.hok.fresh (au _)
  have I1:=I.turnLay (t':=s.toks) (h':=t) (p:=s.heap.objs.size) (o:=.tup [xs[i],ys[i]]) d (λc o m e=>D c o m e) (au _) ⟨(show 2<=sizeLine by decide),[u,v],.cons ru (.cons T .nil),⟨_,W,rfl,⟨_,rfl⟩,rfl⟩⟩
  have lts:∀c∈[z,ti,to,i1,i2],c≠s.heap.objs.size:=λc w=>by
   have l:=y.lt;simp only[aB,a_,bc]at w
   rcases w with rfl | rfl | rfl | rfl | rfl
   ·exact aP (l _ (by simp))
   ·exact aP (l _ (by simp))
   ·exact aP g
   ·exact aP (l _ (by simp))
   ·exact aP (l _ (by simp))
  have hf1:∀c∈[z,ti,to,i1,i2],Lh X pins (upd H s.heap.objs.size (.tup [xs[i],ys[i]])) c:=λc w=>⟨(Ag (lts c w)).trans (d c w).1,(d c w).2⟩
  have E:Lh X pins (upd H s.heap.objs.size (.tup [xs[i],ys[i]])) S:=⟨(Ag (aD np)).trans Z.1,Z.2⟩
  show wpAny _ A.in1 (updateSeq S (·.push (.ref s.heap.objs.size)) >>= _) _ _ _
  have oth:∀b o,b≠S->t.get? b=some o->(t.update S (Obj.mapSeq (·.push (.ref s.heap.objs.size)))).get? b=some o:=λb o n e=>(cH _ _ (aD n)).trans e
  have sb:Heap.SameBut S t (t.update S (Obj.mapSeq (·.push (.ref s.heap.objs.size)))):=bK ..
  refine aj (gY j rfl (ak ⟨gW gZ _,ih (i+1) _ _ _ _ (ps++[.ref s.heap.objs.size]) (by lia)
   (I1.turnL (t':=s.toks) (ch:=[S]) (λb f=>by rw[aQ.mp f];exact E) λb o m e=>oth b o (λq=>m (by simp[q])) e) hf1 E ?_ (h.upd hp) (f.upd hp) (z1.keep (Nat.succ_pos _) Q sb λo e=>⟨_,cu _ j rfl⟩) (cu _ j rfl) ?_ ?_ ⟨ps,H,_,_,_,L,bu J,bu hj,hp,rfl,rfl⟩⟩)
   (by rw[N];lia) (by show (acc.push _).size<=sizeLine+1;rw[Array.size_push];lia))
  ·rw[sb.1]
   exact gO g Y
  ·rw[Array.size_push,N]
  ·rw[Array.toList_push]
   exact rv.append (.cons rfl .nil)
theorem Ao0 (g:A.handled=none) (I:Inv X pins σ H s) (G:[z,ti,to,i1,i2].Nodup) (hl:xs.length=ys.length) (hz:xs.length<=sizeLine)
 (hf:∀b∈[z,ti,to,i1,i2],Lh X pins H b) (i:to<s.heap.objs.size) (ha:SqK t1 H a xs) (hb:SqK t2 H b ys) (x:ZipAt s.heap t1 t2 z ti to i1 i2 a b .none 0)
 (N:∀k vs j p,Inv X pins σ k p->LaidS H xs ys xs.length j k->Vals j vs->Q vs p):wpAny (model X.prog X.w) A (collect (.ref z)) Q E s:=by
 unfold collect
 refine aj (wpAny_runValue (fc F.entry_proto_collect ?_))
 rw[fY F.plain_proto_collect _]
 show wpAny _ A.in1 (newList [] >>= λl=>again (.builtin "list.__iadd__" ⟨[l,.ref z],[]⟩)) _ _ s
 refine aj (bO ?_)
 refine ak ⟨gW iY _,fc F.entry_list_iadd ?_⟩
 rw[fY iY _]
 have C:∀c o,s.heap.get? c=some o->(s.heap.push { cls:=.type "list",data:=.seq ([]:w6).toArray }).get? c=some o:=λc o e=>aC _ e
 have D:(s.heap.push { cls:=.type "list",data:=.seq ([]:w6).toArray }).get? s.heap.objs.size=some { cls:=.type "list",data:=.seq ([]:w6).toArray }:=aJ _ rfl;have W:(s.heap.push { cls:=.type "list",data:=.seq ([]:w6).toArray }).objs.size=s.heap.objs.size+1:=cz ..;have y:Zs s.heap t1 t2 z ti to i1 i2 a b 0:=.inl ⟨rfl,x⟩;have h:=x.kept C
 generalize (s.heap.push { cls:=.type "list",data:=.seq ([]:w6).toArray })=h1 at *
 have T:Inv X pins σ H { s with heap:=h1 }:=I.kept (t':=s.toks) C
 have f:s.heap.objs.size∉[z,ti,to,i1,i2]:=λm=>by
  have l:=y.lt;simp only[aB,a_,bc]at m
  rcases m with m | m | m | m | m
  ·exact absurd (l z (by simp)) (by rw[<- m];exact bh _)
  ·exact absurd (l ti (by simp)) (by rw[<- m];exact bh _)
  ·exact absurd i (by rw[<- m];exact bh _)
  ·exact absurd (l i1 (by simp)) (by rw[<- m];exact bh _)
  ·exact absurd (l i2 (by simp)) (by rw[<- m];exact bh _)
 have K:s.heap.objs.size≠z:=λe=>f (by simp[e])
 have P:Builtin.List.listSameRef (.ref s.heap.objs.size) (.ref z)=false:=by simp[Builtin.List.listSameRef,K]
 show wpAny _ A.in1 (Builtin.List.listExtendWith (.ref s.heap.objs.size) (.ref z) (.ref s.heap.objs.size)) _ _ _
 unfold Builtin.List.listExtendWith
 have t:({ s with heap:=h1 }:u_).TypeIs (.ref z) "zip" := ⟨_,h.zip,rfl⟩
 refine aj (dF t ?_)
 have V:(Value.type "zip" == Value.type "list")=false:=by decide
 have J:(Value.type "zip" == Value.type "tuple")=false:=by decide
 simp only[P,V,J,Bool.or_false,bV,bj]
 refine aj (jm h.zip ?_)
 refine aj (bZ ?_)
 unfold Builtin.List.listLengthHint
 refine aj (dD t Aw7 ?_)
 show wpAny _ A.in1 (specialOf (Value.ref z) (Str.ofString "__length_hint__") >>= _) _ _ _
 refine aj (dD t Aj3 ?_)
 refine ak ?_
 show wpAny _ A.in1 (rule "list.extend.makes-room" >>= λ_=>Builtin.List.listTouch (.ref s.heap.objs.size) >>= λ_ =>
  again (.builtin "list.extend.loop" ⟨[.ref s.heap.objs.size,.ref z,.ref s.heap.objs.size],[]⟩)) _ _ _
 refine aj (cL ?_)
 refine aj ?_
 show wpAny _ A.in1 (updateSeq s.heap.objs.size (·.push .none) >>= λ_=>updateSeq s.heap.objs.size (·.pop)) _ _ _
 refine aj (gY D rfl ?_)
 have B:=cu (Obj.mapSeq (·.push Value.none)) D rfl
 refine gY B rfl ?_
 have M:=cu (Obj.mapSeq (·.pop)) B rfl
 have d:∀b o,b≠s.heap.objs.size->h1.get? b=some o->((h1.update s.heap.objs.size (Obj.mapSeq (·.push Value.none))).update s.heap.objs.size (Obj.mapSeq (·.pop))).get? b=some o:=λb o n e=>(cH _ _ (aD n)).trans ((cH _ _ (aD n)).trans e)
 have O:((h1.update s.heap.objs.size (Obj.mapSeq (·.push Value.none))).update s.heap.objs.size (Obj.mapSeq (·.pop))).objs.size=h1.objs.size:=(show Heap.SameBut s.heap.objs.size _ _ from bK ..).1.trans (show Heap.SameBut s.heap.objs.size h1 _ from bK ..).1
 have w:Lh X pins H s.heap.objs.size:=I.fpOk (au _) (I.hok.fresh (au _))
 have R:Inv X pins σ H { s with heap:=(h1.update s.heap.objs.size (Obj.mapSeq (·.push Value.none))).update s.heap.objs.size (Obj.mapSeq (·.pop)) }:=T.turnL (t':=s.toks) (ch:=[s.heap.objs.size]) (λb hb=>by rw[aQ.mp hb];exact w) λb o m e=>d b o (λq=>m (by simp[q])) e
 have S:ZipAt ((h1.update s.heap.objs.size (Obj.mapSeq (·.push Value.none))).update s.heap.objs.size (Obj.mapSeq (·.pop))) t1 t2 z ti to i1 i2 a b .none 0:=by
  simp only[aB,a_,bc,not_or]at f;obtain⟨u,v,e⟩:=h.outs
  exact⟨d _ _ (aD f.1) h.zip,d _ _ (aD f.2.1) h.ins,⟨u,v,d _ _ (aD f.2.2.1) e⟩,h.one.stay λo e=>d _ _ (aD f.2.2.2.1) e,h.two.stay λo e=>d _ _ (aD f.2.2.2.2) e⟩
 refine ak ⟨gW gZ _,Br9 (X:=X) (pins:=pins) (σ:=σ) (H0:=H) (show A.in1.handled=none from g) G f hl hz (λk U c j p Y L Z r=>?_) xs.length 0 H _ _ _ [] (aO _) R hf w ?_ ha hb (.inl ⟨rfl,S⟩) M rfl .nil ⟨rfl,rfl⟩⟩
 ·show wpAny _ A (load s.heap.objs.size >>= _) _ _ p
  exact aj (wpAny_load r (ak (N k _ j _ Y L Z)))
 ·rw[O,W]
  exact fV i
theorem LaidS.length {H0:Hp}:∀{i:Nat}{ps:n_}{H:Hp},LaidS H0 xs ys i ps H->ps.length=i
 | 0,_,_,⟨e,_⟩=>by rw[e];rfl
 | i+1,_,_,⟨r,H',p,x,y,l,_,_,_,e,_⟩=>by rw[e,aH,l.length];rfl
theorem Yp : MeetsIn P w (Builtin.«tuple.__new__» ⟨[.type "tuple",.ref z],[]⟩)
 (λA R s=>s.TypeIs (.ref z) "zip" /\ wpAny (model P w) A.in1.in1 (collect (.ref z)) (λvs s'=>vs.length<=sizeLine/\R (.ok (.ret (.ref s'.heap.objs.size))) { s' with heap:=s'.heap.push { cls:=.type "tuple",data:=.seq vs.toArray } }) (λe s'=>R (.error e) s') s) :=
 .of_wp λA R s h=>by
  obtain⟨f,i⟩:=h;have c:=sub_tuple_self;have b:=init_tuple_lookup;have g:=madeHere_tuple
  have a:∀{Q:w6->u_->Prop},(∀vs s',vs.length<=sizeLine->R (.ok (.ret (.ref s'.heap.objs.size))) { s' with heap:=s'.heap.push { cls:=.type "tuple",data:=.seq vs.toArray } }->Q vs s')->wpAny (model P w) A.in1 (collect (.ref z)) Q (λe s'=>R (.error e) s') s:=λh=>wpAny_of_in1 (aU i (λvs s' q=>h vs s' q.1 q.2) λ_ _ q=>q)
  wp_walk using dF f,a
  intro vs s' j d
  refine aj (ak ?_)
  show wpAny _ _ (Builtin.Tuple.tupleExact vs.toArray >>= λv=>ret v) _ _ _
  unfold Builtin.Tuple.tupleExact
  refine aj (bO ?_ (by show vs.toArray.size<=sizeLine;simpa using j))
  exact ak ⟨_,rfl,d⟩
def Bt2 (ta:TA):TE:=λσ H Q=>ta σ H λvs H1=>∃a b,vs=[.ref a,.ref b]/\∃t1 t2 xs ys,SqK t1 H1 a xs/\SqK t2 H1 b ys/\xs.length=ys.length/\∀ps p H2,LaidS H1 xs ys xs.length ps H2->H2 p=none->Q (.ref p) (upd H2 p (.tup ps))
theorem Br3 {p n l a:Pos}(hc:X.calm=true) (t:Gl X "tuple") (r:X.mg "tuple" = none) (hg:Gl X "zip") (hm:X.mg "zip" = none) (ha:QA X [e,f] B) (hs1:isStar e=false:=by rfl) (hs2:isStar f=false:=by rfl) :
 QE X (.Call (.Name "tuple" p) [.Call (.Name "zip" n) [e,f] [] a] [] l) (Bt2 B):=by
 refine⟨?_⟩
 intro g s D H Q I h;have v:=Fd (es:=[f]) (env:=X.env) hs1;have w:=Fd (es:=[]) (env:=X.env) hs2;have j:starEach [.Call (.Name "zip" n) [e,f] [] a] X.env=(false,eval (.Call (.Name "zip" n) [e,f] [] a) X.env)::starEach [] X.env:=Fd rfl
 refine Call_ (Ld I t r K1 (dX ?_ j rfl))
 rw[j]
 show wpAny _ _ (spliced ((false,eval (.Call (.Name "zip" n) [e,f] [] a) X.env)::backTo l (starEach [] X.env))) _ _ s
 refine cZ ?_
 refine Call_ (Ld I hg hm Za (dX (thn (ha.1 a g s D H _ I h) λus d ⟨vs,H1,i,O,P⟩=>?_) v (by rw[w];rfl)))
 obtain⟨R,S,rfl,U,t2,E,ys,m,G,Y,q⟩:=P
 have o:E.length<=sizeLine:=by
  cases U
  ·obtain⟨_,_,_,z⟩:=i.list (SqL.of m);exact z
  ·obtain⟨_,_,_,z⟩:=i.tuple (SqT.of m);exact z
 obtain⟨Z,u2,rfl,g1,g2⟩:=Vals.two O
 cases (show Z=Value.ref R from g1)
 cases (show u2=Value.ref S from g2)
 obtain⟨T,rv,pa⟩:=m.its i;obtain⟨jts,V,W⟩:=G.its i
 refine Wj pa W λJ x kp=>dZ ?_
 have I2:Inv X g D H1 { d with heap:=J }:=i.kept (t':=d.toks) kp
 have y:[d.heap.objs.size+4,d.heap.objs.size+2,d.heap.objs.size+3,d.heap.objs.size,d.heap.objs.size+1].Nodup:=by simp
 have C:∀c∈[d.heap.objs.size+4,d.heap.objs.size+2,d.heap.objs.size+3,d.heap.objs.size,d.heap.objs.size+1],d.heap.objs.size<=c:=λc hc=>by
  simp only[aB,a_,bc]at hc
  rcases hc with rfl | rfl | rfl | rfl | rfl <;> simp
 obtain⟨u0,v0,o0⟩:=x.outs
 refine callType_newIn F.called_tuple (by decide) (F.typeCall_tuple_1 _) (F.newCall_tuple_1 _) (λA=>jn A _) F.entry_tuple_new Yp ⟨⟨_,x.zip,rfl⟩,?_⟩
 refine Ao0 (s:={ d with heap:=J }) (show _=none from I.ok.hd hc) I2 y Y o (λc hc=>i.fpOk (C c hc) (i.hok.fresh (C c hc))) (az o0) m G x λH' ws ps s' K L k=>?_
 have M:ps.length=E.length:=L.length
 refine⟨by rw[<- k.length,M];exact o,⟨_,aJ _ rfl,rfl⟩,?_⟩
 have N:H' s'.heap.objs.size=none:=K.hok.fresh (au _)
 refine⟨.ref _,upd _ _ _,K.laid (λb u e=>aC _ e) (au _) ?_,rfl,q _ _ _ L N⟩
 exact⟨by rw[M];exact o,ws,k,_,aJ _ rfl,rfl,⟨0,by simp⟩,rfl⟩
def Bu2:TE:=λ_ _ _=>False
theorem A9u {o e:Expr}{td ty:TE}{apos cpos:Pos}(hu:X.A.units+64<cLine)(ho:QE X o td)(he:QE X e ty)(m:M1 X o "get" apos e cpos):QE X (.Call (.Attribute o "get" apos) [e] [] cpos) (Ad1 td ty (tC .non)):=⟨Bg3 (bD (bW (by decide) _) hu) ho.get he.get m⟩
theorem As5 {e:Expr}:QE X e Bu2:=⟨λ_ _ _ _ _ _ h=>h.elim⟩
end
section
variable {P:u6}{w:World}{A:t_}{E:z_}{s:u_}
theorem Ax2:((Manifest.find? "dict_valueiterator").elim "dict_valueiterator" λx=>x.tpName) = "dict_valueiterator" := by rw[find?_eq_fast];kernel_rfl
theorem A7v {it dd:Addr}{i ep:Nat}{es:v8}{od:Obj}{Q:u9->u_->Prop}(hit:s.heap.IsValIter it dd i es.size ep)(hod:s.heap.get? dd=some od)(hdd:od.data=.dict es ep)(hi:i<es.size)
 (hQ:∀h',h'.IsValIter it dd (i+1) es.size ep->Heap.SameBut it s.heap h'->Q (some es[i].val) { s with heap:=h' }):wpAny (model P w) A (pyNext (.ref it)) Q E s:=by
 obtain⟨hp,g,d,tk,os⟩:=s;obtain⟨⟨c,dct,dat,sl⟩,ho,hc,hd⟩:=hit;obtain⟨c2,dct2,dat2,sl2⟩:=od;simp only at hc hd hdd;subst hc hd hdd;have ty:(⟨hp,g,d,tk,os⟩:u_).TypeIs (.ref it) "dict_valueiterator" := ⟨_,ho,rfl⟩;have f1:=mroOf_valiter
 have f2:Builtin.Dict_items.ownsTuple "dict_valueiterator" = false:=by decide
 have f3:es[(i:Int).toNat]?=some es[i]:=by simp[hi]
 unfold pyNext
 refine aj (cN (cj (name:="__next__") ty iZ (bB iZ ty jL ?_ (jM _))))
 repeat any_goals first | assumption | wp_step
 simp only[Ax2,f2,bV,bj,gV,List.take]
 have f4:¬ ((i:Int)<0):=by lia
 simp only[f4,bj,f3]
 repeat any_goals first | assumption | wp_step
 simp only[Ax2,f2,bV,bj]
 have hit':(hp.update it (Obj.mapFields (·.setIfInBounds 1 (rawInt ((i:Int)+1))))).IsValIter it dd (i+1) es.size ep :=
  ⟨_,cu _ ho (eV (du rfl _)),iH ..,by rw[du rfl];simp[rawInt]⟩
 exact⟨_,rfl,ak (hQ _ hit' (bK ..))⟩
theorem Bp3 {it dd:Addr}{i ep:Nat}{es:v8}{od:Obj}{Q:u9->u_->Prop}(quiet:A.handled=none)(hit:s.heap.IsValIter it dd i es.size ep)(hod:s.heap.get? dd=some od)(hdd:od.data=.dict es ep)(hi:es.size<=i)
 (hQ:∀h',Heap.ExtBut it s.heap h'->Q none { s with heap:=h' }):wpAny (model P w) A (pyNext (.ref it)) Q E s:=by
 obtain⟨hp,g,d,tk,os⟩:=s;obtain⟨⟨c,dct,dat,sl⟩,ho,hc,hd⟩:=hit;obtain⟨c2,dct2,dat2,sl2⟩:=od;simp only at hc hd hdd;subst hc hd hdd;have ty:(⟨hp,g,d,tk,os⟩:u_).TypeIs (.ref it) "dict_valueiterator" := ⟨_,ho,rfl⟩;have f1:=mroOf_valiter
 have f2:Builtin.Dict_items.ownsTuple "dict_valueiterator" = false:=by decide
 have f3:es[(i:Int).toNat]?=none:=by simp[hi]
 unfold pyNext
 refine aj (cN (cj (name:="__next__") ty iZ (bB iZ ty jL ?_ (jM _))))
 repeat any_goals first | assumption | wp_step
 simp only[Ax2,f2,bV,bj,gV,List.take]
 have f4:¬ ((i:Int)<0):=by lia
 simp only[f4,bj,f3]
 repeat any_goals first | assumption | wp_step
 refine jw (show A.in1.handled=none from quiet) ?_
 refine aj (cY (T := "StopIteration") (b:=true) ⟨_,aJ _ rfl,rfl⟩ eY ?_)
 exact ak (hQ _ (((bK ..).extBut.push _).push _))
theorem A4l {dd:Addr}(nd:(dd==sysModules)=false):MeetsIn P w (Builtin.«dict.values» ⟨[.ref dd],[]⟩) (λ_ R s=>s.TypeIs (.ref dd) "dict" /\ R (.ok (.ret (.ref s.heap.objs.size))) { s with heap:=s.heap.push { cls:=.type "dict_values",data:=.fields #[.ref dd] } }) :=
 .of_wp λA R s ⟨t,h⟩=>by
  refine aj ?_
  unfold Builtin.Dict.noArgs
  refine aj (iT t (ak ?_))
  have e0:Builtin.Dict.showsAll dd=pure ():=by unfold Builtin.Dict.showsAll;rw[if_neg (by rw[nd];exact bf)]
  show wpAny _ _ (Builtin.Dict.showsAll dd >>= _) _ _ _
  rw[e0]
  refine aj (ak (aj (bO (ak ⟨_,rfl,h⟩))))
theorem A8n {dd:Addr}{Q:z_}(nd:(dd==sysModules)=false)(ty:s.TypeIs (.ref dd) "dict")
 (hQ:Q (.ref s.heap.objs.size) { s with heap:=s.heap.push { cls:=.type "dict_values",data:=.fields #[.ref dd] } }):wpAny (model P w) A (call (.builtin "dict.values") [.ref dd]) Q E s :=
 eG PySem.F.slot_dict_values ty PySem.F.entry_dict_values (PySem.F.args_dict_values_1 _) (A4l nd) ⟨ty,hQ⟩
theorem A8q {v dd:Addr}{es:v8}{ep:Nat}{od:Obj}{Q:z_}(hv:s.heap.get? v=some { cls:=.type "dict_values",data:=.fields #[.ref dd] }) (hod:s.heap.get? dd=some od) (hdd:od.data=.dict es ep)
 (hQ:Q (.ref s.heap.objs.size) { s with heap:=s.heap.push { cls:=.type "dict_valueiterator",data:=.fields #[.ref dd,.int 0 0,.int es.size 0,.int ep 0] } }):wpAny (model P w) A (pyIter (.ref v)) Q E s:=by
 obtain⟨hp,g,d,tk,os⟩:=s;obtain⟨c2,dct2,dat2,sl2⟩:=od;simp only at hdd;subst hdd;have ty:(⟨hp,g,d,tk,os⟩:u_).TypeIs (.ref v) "dict_values" := ⟨_,hv,rfl⟩
 have f2:Builtin.Dict_items.ownsTuple "dict_valueiterator" = false:=by decide
 refine jx ty F.slot_dict_values_iter (bB F.slot_dict_values_iter ty F.entry_dict_values_iter ?_ (F.args_dict_values_iter_1 _))
 repeat any_goals first | assumption | wp_step
 simp only[f2,bV,bj];exact⟨_,rfl, "dict_valueiterator",_,⟨_,aJ _ rfl,rfl⟩,F.slot_dict_valueiterator_next.lookup,hQ⟩
end
noncomputable def Itv (a:Addr) (o:Obj):It :=
 ⟨λi H=>∃kvs,H a=some (.frz o (.dT kvs))/\i<kvs.length,λi H x H'=>H'=H/\∃kvs k,H a=some (.frz o (.dT kvs))/\kvs[i]?=some (k,x),λi H=>∃kvs,H a=some (.frz o (.dT kvs))/\kvs.length<=i⟩
theorem A5j {P:u6}{w:World}{K:v9}{tg:Expr}{a it:Addr}{o:Obj}{es:v8}{ep:Nat}(hd:o.data=.dict es ep):Turn P w K tg (Itv a o) [it] it (λi h=>h.IsValIter it a i es.size ep) where
 mem:=by simp
 obj:=λi h st b hb=>by
  have e:b=it:=by simpa using hb
  subst e;obtain⟨o,e,c,d⟩:=st
  exact⟨o,e,λv z=>by rw[d]at z;cases z⟩
 keep:=λi h h' st k=>let ⟨o,e,r⟩:=st; ⟨o,k it (by simp) o e,r⟩
 item:=by
  intro X hP hw hK hc i pins s σ H E I hf st hg;subst hP hw hK;obtain⟨kvs,ha,hi⟩:=hg;obtain⟨xs,es',ep',g1,g2,g3,g4,g5,g6,g7⟩:=I.seen ha;rw[hd]at g4
  cases g4
  have li:i<es.size:=by rw[Ha g5 g6];exact hi
  obtain⟨⟨k,v⟩,hk⟩:∃x,kvs[i]?=some x:=⟨_,bu hi⟩;obtain⟨b,u,k1,k2,k3,k4⟩:=Ad6 g5 g6 hk li
  obtain⟨f0,f1,f2,f3,f4,f5⟩:=hf it (by simp)
  refine A7v st g1 hd li λh' st' sb=>?_
  have I1:Inv X pins σ H { s with heap:=h' }:=I.turned (t':=s.toks) (λb o hb e=>(sb.2 b hb).trans e) f0 f1 f3 f4 f5
  obtain⟨o',e,c,d⟩:=id st'
  exact⟨_,rfl,Aj1 (s:={ s with heap:=h' }) e c d (by decide) ⟨v,H,I1,by rw[k2];exact k4,⟨rfl,kvs,k,ha,hk⟩,st',λb hb=>(hf b hb).1⟩⟩
 done:=by
  intro X hP hw hK hc i pins s σ H E I hf st hg;subst hP hw hK;obtain⟨kvs,ha,hi⟩:=hg;obtain⟨xs,es',ep',g1,g2,g3,g4,g5,g6,g7⟩:=I.seen ha;rw[hd]at g4
  cases g4
  obtain⟨f0,f1,f2,f3,f4,f5⟩:=hf it (by simp)
  exact Bp3 (I.ok.hd hc) st g1 hd (by rw[Ha g5 g6];exact hi) λh' eb=>⟨rfl,I.turned (t':=s.toks) (λb o hb e=>eb b o hb e) f0 f1 f3 f4 f5⟩
 self:=λ_ _ _ _ _ st h=>wpAny_pyIter_valiter st h
def iDV (td:TE):TI:=λσ H R=>td σ H λx H1=>∃a o kvs,x=.ref a/\H1 a=some (.frz o (.dT kvs))/\R (Itv a o) H1
section
variable {X:Cx}
theorem A9y {l tg:Expr}{tl:TE}{apos cpos:Pos}(hl:QE X l tl)(hbase:attributeBase l "values" X.env (eval l X.env)=eval l X.env:=by rfl) (hline:(apos.endLine==cpos.line)=true:=by rfl) :
 QI X tg (.Call (.Attribute l "values" apos) [] [] cpos) (iDV tl):=by
 refine⟨?_⟩
 intro pins s σ H R I h
 refine wpAny_Call_method0_late hbase hline (thn (hl.1 pins s σ H _ I h) λv s1 ⟨x,H1,I1,r1,q1⟩=>?_)
 obtain⟨a,o,kvs,e,hq,q⟩:=q1;subst e
 cases (show v=Value.ref a from r1)
 obtain⟨t1,t2,_⟩:=Xi I1 (.inr ⟨kvs,.inr ⟨o,hq⟩⟩);obtain⟨xs,es,ep,g1,g2,g3,g4,g5,g6,g7⟩:=I1.seen hq
 refine⟨"dict", "dict.values",gP,PySem.F.slot_dict_values,PySem.F.type_dict_values,t1,t2,fP rfl (PySem.evalArgs_none (A8n g2 t1 ?_))⟩
 refine A8q (aJ _ rfl) (aC _ g1) g4 ?_
 have kp:∀b o',s1.heap.get? b=some o'->((s1.heap.push { cls:=.type "dict_values",data:=.fields #[.ref a] }).push { cls:=.type "dict_valueiterator",data:=.fields #[.ref a,.int 0 0,.int es.size 0,.int ep 0] }).get? b=some o':=λb o' e=>aC _ (aC _ e)
 refine⟨_,[(s1.heap.push { cls:=.type "dict_values",data:=.fields #[.ref a] }).objs.size],_,_,H1,rfl,I1.kept (t':=s1.toks) kp,A5j g4,⟨_,aJ _ rfl,rfl,rfl⟩,λb hb=>?_,q⟩
 have e:b=(s1.heap.push { cls:=.type "dict_values",data:=.fields #[.ref a] }).objs.size:=by simpa using hb
 subst e
 have le:s1.heap.objs.size<=(s1.heap.push { cls:=.type "dict_values",data:=.fields #[.ref a] }).objs.size:=by rw[cz];exact gM _
 exact I1.fpOk le (I1.hok.fresh le)
end
end L2
namespace U
open PySem L2
structure Xn where
 n:Str
 p:Option (Str×t6)
inductive Th where
 | nm (T:String)
 | dc (ks:v4) (ds:w5)
 | dt (ks ds:w5)
 | ds (ks ds:w5)
 | td (xs ks ds:w5)
 | xc (nm:Xn)
 | tc (ss:v4)
inductive O where
 | im (d:t6)
 | ls (b:Bool) (ds:w5)
 | sc (ns:List Int)
 | ty (T:Th)
abbrev n8:=Option O
abbrev n7:=List (n8)
abbrev Ev:=n7
inductive PV where
 | o (o:O)
 | sl (i:Nat)
inductive R (α:Type) where
 | ok (a:α) (c:Ev)
 | bad
abbrev o_:=Ev->R PV
abbrev o7:=Ev->R Bool
abbrev p_:=PV->Ev->R Unit
abbrev o5:=Ev->R (List PV)
abbrev o4:=Ev->R (w5)
noncomputable def R.bind {α β:Type} (r:R α) (k:α->Ev->R β):R β:=match r with
 | .ok a c=>k a c
 | .bad=>.bad
def R.sat {α:Type}(r:R α)(φ:α->Ev->Prop):Prop:=match r with
 | .ok a c=>φ a c
 | .bad=>False
theorem R.sat_bind {r:R d}{k:d->Ev->R e}{b:e->Ev->Prop}:(r.bind k).sat b↔r.sat λa c=>(k a c).sat b:=by cases r <;> exact Iff.rfl
theorem R.sat.mono {r:R d}{e b:d->Ev->Prop}(h:r.sat e) (f:∀a c,e a c->b a c):r.sat b:=by
 cases r with
 | ok a c=>exact f a c h
 | bad=>exact h
theorem R.sat.bnd {r:R d}{k:d->Ev->R e}{b:e->Ev->Prop}(h:(r.bind k).sat b):r.sat λa c=>(k a c).sat b:=R.sat_bind.mp h
noncomputable def O.bor:O->Bool
 | .ls b _=>b
 | _=>false
noncomputable def O.own:O->Bool
 | .ls _ _=>true
 | _=>false
noncomputable def O.dat:O->Option t6
 | .im d=>some d
 | .ls _ ds=>some (.list ds)
 | _=>none
noncomputable def O.flag (b:Bool):O->O
 | .ls _ ds=>.ls b ds
 | o=>o
noncomputable def nrm:PV->PV
 | .o (.ls _ ds)=>.o (.im (.list ds))
 | p=>p
noncomputable def rdP (c:Ev):PV->n8
 | .o o=>some o
 | .sl i=>(c[i]?).join
def Du (c:Ev)(p:PV):Option t6:=(rdP c p).bind O.dat
structure Wo where
 Hf:Hp
 H:Hp
 fps:Nat->v6
def Wo.S (W:Wo):Addr->Prop:=λa=>∃i,a∈W.fps i
def B3n (Hf:Hp):Option (Str×t6)->Option Addr->Prop
 | none,d=>d=none
 | some q,d=>∃a v,d=some a/\Hf a=some (.xd [(q.1,v)])/\Tr Hf q.2 v
structure XAt (K:v9) (Hf:Hp) (nm:Xn) (C:Addr) (d:Option Addr):Prop where
 ns:PySem.W.nsIn K mainGlobals nm.n=some (some (.ref C))
 pay:B3n Hf nm.p d
theorem XAt.same {K:v9}{Hf Hf':Hp}{nm:Xn}{C:Addr}{d:Option Addr}(S:Same Hf Hf')(x:XAt K Hf nm C d):XAt K Hf' nm C d:=by
 refine⟨x.ns,?_⟩
 have q:=x.pay
 cases e:nm.p with
 | none=>rw[e]at q;exact q
 | some y=>rw[e]at q;obtain⟨a,v,h1,h2,h3⟩:=q;exact⟨a,v,h1,S _ _ h2,Tr.same S h3⟩
def RepT (K:v9)(Hf:Hp):Th->V->Prop
 | .nm T,v=>v=.ty T
 | .dc ks ds,v=>∃a xs,v=.ref a/\Hf a=some (.dK (B5p ks xs))/\TrL Hf ds xs
 | .dt ks ds,v=>∃a xs,v=.ref a/\Rd Hf a (.dT (ks.zip xs))/\TrL Hf ds xs/\ks.length=xs.length
 | .ds ks ds,v=>∃a o xs,v=.ref a/\Hf a=some (.frz o (.dT (ks.zip xs)))/\TrL Hf ds xs/\ks.length=xs.length
 | .td es ks ds,v=>∃a us b o xs,v=.ref a/\Hf a=some (.tup (us++[.ref b]))/\TrL Hf es us/\Hf b=some (.frz o (.dT (ks.zip xs)))/\TrL Hf ds xs/\ks.length=xs.length
 | .xc nm,v=>∃a C d,v=.ref a/\XAt K Hf nm C d/\Hf a=some (Rt a C d)
 | .tc ss,v=>∃p,v=.ref p/\∀H,SqT K H p (ss.map V.str)
theorem Bq8 (S:Same Hf b) (h:Rd Hf a u):Rd b a u:=h.imp (λh=>S _ _ h) λ⟨o,h⟩=>⟨o,S _ _ h⟩
theorem RepT.same {K:v9}{Hf Hf':Hp}(S:Same Hf Hf'):∀{t:Th}{v:V},RepT K Hf t v->RepT K Hf' t v
 | .nm T,_,h=>h
 | .dc ks ds,_,⟨a,xs,e,h,t⟩=>⟨a,xs,e,S _ _ h,TrL.same S t⟩
 | .dt ks ds,_,⟨a,xs,e,h,t,l⟩=>⟨a,xs,e,Bq8 S h,TrL.same S t,l⟩
 | .ds ks ds,_,⟨a,o,xs,e,h,t,l⟩=>⟨a,o,xs,e,S _ _ h,TrL.same S t,l⟩
 | .td es ks ds,_,⟨a,us,b,o,xs,e,h,t,h2,t2,l⟩=>⟨a,us,b,o,xs,e,S _ _ h,TrL.same S t,S _ _ h2,TrL.same S t2,l⟩
 | .xc nm,_,⟨a,C,d,e,n,h⟩=>⟨a,C,d,e,n.same S,S _ _ h⟩
 | .tc ss,_,h=>h
def RepN (K:v9)(Hf:Hp):O->V->Prop
 | .im d,v=>Tr Hf d v
 | .sc ns,v=>∃a,v=.ref a/\SqL K Hf a (ns.map V.int)
 | .ty T,v=>RepT K Hf T v
 | .ls _ _,_=>False
def RepO (K:v9)(Hf H:Hp)(o:O)(v:V)(fp:v6):Prop:=match o with
 | .ls _ ds=>∃a vs,v=.ref a/\fp=[a]/\Hf a=none/\H a=some (.lst vs)/\TrL Hf ds vs
 | o=>fp=[]/\RepN K Hf o v
structure Stp (S:Addr->Prop) (Hf H:Hp) (S':Addr->Prop) (Hf' H':Hp):Prop where
 fz:Same Hf Hf'
 kp:∀a o,H a=some o->¬ S a->H' a=some o
 nf:∀a o,H a=some o->Mut (some o)->¬ S a->Hf a=none->Hf' a=none
 fr:∀a,S' a->S a\/H a=none
structure Rep (K:v9) (β:Nat->V) (W:Wo) (c:Ev) (σ:St):Prop where
 sub:Same W.Hf W.H
 len:c.length=σ.length
 get:∀i o,c[i]?=some (some o)->∃v,σ[i]?=some (some v)/\RepO K W.Hf W.H o v (W.fps i)/\(o.bor=true->v=β i)
 dis:∀i j a,a∈W.fps i->a∈W.fps j->i=j
 own:∀i a,a∈W.fps i->W.Hf a=none/\∃o,W.H a=some o/\Mut (some o)
def Eg (K:v9)(W:Wo)(σ:St):PV->V->v6->Prop
 | .o o,v,fp=>RepO K W.Hf W.H o v fp/\∀a∈fp,¬ W.S a
 | .sl i,v,fp=>fp=[]/\σ[i]?=some (some v)
def RepA (K:v9)(Hf:Hp)(σ:St):PV->V->Prop
 | .o o,v=>RepN K Hf o v
 | .sl i,v=>σ[i]?=some (some v)
def zQ (K:v9)(Hf:Hp)(σ:St):List PV->n_->Prop
 | [],vs=>vs=[]
 | p::ps,vs=>∃v r,vs=v::r/\RepA K Hf σ p v/\zQ K Hf σ ps r
abbrev orS (S:Addr->Prop)(fp:v6):Addr->Prop:=λa=>S a\/a∈fp
section
variable {K:v9}{β:Nat->V}{W W':Wo}{c c':Ev}{σ:St}{Hf Hf' Hf2 H H' H2:Hp}{o:O}{v:V}{fp:v6}{S S' S2:Addr->Prop}{p:PV}{a:Addr}
theorem Stp.refl:Stp S Hf H S Hf H:=⟨λ_ _ h=>h,λ_ _ h _=>h,λ_ _ _ _ _ h=>h,λ_ h=>.inl h⟩
theorem Stp.trans (x:Stp S Hf H S' Hf' H')(y:Stp S' Hf' H' S2 Hf2 H2):Stp S Hf H S2 Hf2 H2:=by
 have b:∀a o,H a=some o->¬ S a->¬ S' a:=λa o h n z=>by
  rcases x.fr a z with q | q
  ·trivial
  simp_all
 refine⟨x.fz.trans y.fz,λa o h n=>y.kp a o (x.kp a o h n) (b a o h n),λa o h c n q=>y.nf a o (x.kp a o h n) c (b a o h n) (x.nf a o h c n q),λa h=>?_⟩
 rcases y.fr a h with q | q
 ·exact x.fr a q
 ·cases e:H a with
  | none=>simp_all
  | some o =>
   by_cases n:S a
   ·grind
   ·rw[x.kp a o e n]at q;grind
theorem Stp.less (x:Stp S Hf H S' Hf' H')(h:∀a,S2 a->S' a):Stp S Hf H S2 Hf' H':=⟨x.fz,x.kp,x.nf,λa q=>x.fr a (h a q)⟩
theorem Stp.more {F:Addr->Prop}(x:Stp S Hf H S' Hf' H'):Stp (λa=>S a\/F a) Hf H (λa=>S' a\/F a) Hf' H' :=
 ⟨x.fz,λa o h n=>x.kp a o h λz=>n (.inl z),λa o h b n q=>x.nf a o h b (λz=>n (.inl z)) q,λa q=>by
  rcases q with q | q
  ·rcases x.fr a q with z | z
   ·simp_all
   grind
  simp_all⟩
theorem Stp.up (x:Stp S Hf H S' Hf' H')(h:∀a,S a->S2 a):Stp S2 Hf H S' Hf' H' :=
 ⟨x.fz,λa o e n=>x.kp a o e λz=>n (h a z),λa o e b n q=>x.nf a o e b (λz=>n (h a z)) q,λa q=>(x.fr a q).imp (h a) id⟩
theorem RepN.same (S:Same Hf Hf'):∀{o:O}{v:V},RepN K Hf o v->RepN K Hf' o v
 | .im d,_,h=>Tr.same S h
 | .sc ns,_,⟨a,e,h⟩=>⟨a,e,Same.seq S h⟩
 | .ty T,_,h=>RepT.same S h
 | .ls _ _,_,h=>h
theorem RepA.same (S:Same Hf Hf'):∀{p:PV}{v:V},RepA K Hf σ p v->RepA K Hf' σ p v
 | .o _,_,h=>RepN.same S h
 | .sl _,_,h=>h
theorem zQ.same (S:Same Hf Hf'):∀{ps:List PV}{vs:n_},zQ K Hf σ ps vs->zQ K Hf' σ ps vs
 | [],_,h=>h
 | p::ps,_,⟨v,r,e,h,t⟩=>⟨v,r,e,RepA.same S h,zQ.same S t⟩
theorem RepO.mono (h:RepO K Hf H o v fp)(S:Same Hf Hf')(h1:∀a∈fp,Hf' a=none/\H' a=H a):RepO K Hf' H' o v fp:=by
 cases o with
 | ls b ds =>
  obtain⟨a,f,rfl,rfl,q,e,t⟩:=h;obtain⟨c,g⟩:=h1 a (.head _);exact⟨a,f,rfl,rfl,c,g.trans e,TrL.same S t⟩
 | im d=>exact⟨h.1,RepN.same S h.2⟩
 | sc ns=>exact⟨h.1,RepN.same S h.2⟩
 | ty T=>exact⟨h.1,RepN.same S h.2⟩
theorem Rep.frame (R:Rep K β W c σ)(S:Same W.Hf Hf')(sub:Same Hf' H')(h:∀a,W.S a->Hf' a=none/\H' a=W.H a):Rep K β ⟨Hf',H',W.fps⟩ c σ :=
 ⟨sub,R.len,λi o e=>by
  obtain⟨v,f,r,b⟩:=R.get i o e
  exact⟨v,f,r.mono S λa d=>h a ⟨i,d⟩,b⟩,R.dis,λi a d=>by
  obtain⟨_,o,q,j⟩:=R.own i a d;obtain⟨k,g⟩:=h a ⟨i,d⟩
  grind⟩
theorem Rep.notS (R:Rep K β W c σ)(h:W.H a=none):¬ W.S a:=λ⟨i,q⟩=>by
 obtain⟨_,o,e,_⟩:=R.own i a q
 grind
theorem Rep.notF (R:Rep K β W c σ)(h:W.H a=none):W.Hf a=none:=Same.free R.sub h
theorem Stp.rep (R:Rep K β W c σ)(x:Stp (λ_=>False) W.Hf W.H S' Hf' H')(sub:Same Hf' H'):Rep K β ⟨Hf',H',W.fps⟩ c σ :=
 R.frame x.fz sub λa d=>by
  obtain⟨i,f⟩:=d;obtain⟨z,o,e,b⟩:=R.own i a f
  exact⟨x.nf a o e b (λz=>z) z,(x.kp a o e λz=>z).trans e.symm⟩
theorem Bp {p:Addr}{o:HO}(h:H p=none):Same H (upd H p o):=λb u e=>by
 rw[Ag];exact e
 grind
theorem Jz {o:HO}(s:Same Hf H):Same (upd Hf a o) (upd H a o):=λb u e=>by
 unfold upd at e ⊢
 split
 ·grind
 ·rename_i z;rw[if_neg z]at e;exact s b u e
theorem Stp.newF {o:HO}(s:Same Hf H)(h:H a=none):Stp (λ_=>False) Hf H (λ_=>False) (upd Hf a o) (upd H a o) :=
 ⟨Bp (Same.free s h),λb u e _=>Bp h b u e,λb u e _ _ q=>by rw[Ag (Bb e h)];grind,λ_ z=>z.elim⟩
theorem Stp.newL {o:HO}(s:Same Hf H)(h:H a=none):Stp (λ_=>False) Hf H (λb=>b∈[a]) Hf (upd H a o) :=
 ⟨Same.refl _,λb u e _=>Bp h b u e,λb u e _ _ q=>q,λb z=>by
  grind⟩
theorem Rm {o:HO}(s:Same Hf H)(h:H a=none):Same Hf (upd H a o):=s.trans (Bp h)
def ME (K:v9)(T:TE)(f:o_):Prop:=∀(β:Nat->V) (W:Wo) (c:Ev) (σ:St) (Q:VK),Rep K β W c σ ->
 (f c).sat (λp c'=>∀v W' fp,Stp W.S W.Hf W.H (orS W'.S fp) W'.Hf W'.H->Rep K β W' c' σ->Eg K W' σ p v fp->Q v W'.H)->T σ W.H Q
def MV (K:v9)(T:TE)(f:o_):Prop:=∀(β:Nat->V) (W:Wo) (c:Ev) (σ:St) (Q:VK),Rep K β W c σ ->
 (f c).sat (λp c'=>∀v W',Stp W.S W.Hf W.H W'.S W'.Hf W'.H->Rep K β W' c' σ->RepA K W'.Hf σ (nrm p) v->Q v W'.H)->T σ W.H Q
def MA (K:v9)(T:TA)(f:o5):Prop:=∀(β:Nat->V) (W:Wo) (c:Ev) (σ:St) (Q:n_->Hp->Prop),Rep K β W c σ ->
 (f c).sat (λps c'=>∀vs W',Stp W.S W.Hf W.H W'.S W'.Hf W'.H->Rep K β W' c' σ->zQ K W'.Hf σ ps vs->Q vs W'.H)->T σ W.H Q
def MT (K:v9)(T:TT)(f:o7):Prop:=∀(β:Nat->V) (W:Wo) (c:Ev) (σ:St) (Q:Bool->Hp->Prop),Rep K β W c σ ->
 (f c).sat (λb c'=>∀W',Stp W.S W.Hf W.H W'.S W'.Hf W'.H->Rep K β W' c' σ->Q b W'.H)->T σ W.H Q
theorem Ad4 (R:Rep K β W c σ) (hf:W.Hf a=none) (h:W.H a=some (.lst vs)) (hn:¬ W.S a):Rep K β ⟨upd W.Hf a (.lst vs),W.H,W.fps⟩ c σ :=
 R.frame (Bp hf) (λb u e=>by
  unfold upd at e
  split at e
  ·grind
  ·exact R.sub b u e) λb f=>by
   obtain⟨i,g⟩:=f
   have d:b≠a:=λz=>hn ⟨i,by simp_all⟩
   exact⟨by rw[Ag d];exact(R.own i b g).1,rfl⟩
theorem B5c {Q:VK} (k:∀v c,Stp W.S W.Hf W.H c.S c.Hf c.H->Rep K β c c' σ->RepA K c.Hf σ (nrm p) v->Q v c.H) (v:V) (c:Wo) (fp:v6) (st:Stp W.S W.Hf W.H (orS c.S fp) c.Hf c.H) (g:Rep K β c c' σ) (f:Eg K c σ p v fp):Q v c.H:=by
 cases p with
 | sl i =>
  obtain⟨rfl,e⟩:=f
  exact k v _ (st.less λa z=>.inl z) g e
 | o o =>
  cases o with
  | im d =>
   obtain⟨⟨rfl,e⟩,_⟩:=f
   exact k v _ (st.less λa z=>.inl z) g e
  | sc d =>
   obtain⟨⟨rfl,e⟩,_⟩:=f
   exact k v _ (st.less λa z=>.inl z) g e
  | ty d =>
   obtain⟨⟨rfl,e⟩,_⟩:=f
   exact k v _ (st.less λa z=>.inl z) g e
  | ls b ds =>
   obtain⟨⟨a,l,rfl,rfl,h,r,t⟩,m⟩:=f
   refine k _ ⟨upd _ a _,c.H,c.fps⟩ ⟨st.fz.trans (Bp h),st.kp,λb o e s n q=>?_,λb z=>st.fr b (.inl z)⟩ (Ad4 g h r (m a (.head _))) ?_
   ·have j:b≠a:=λz=>by
     rcases st.fr a (.inr (.head _)) with y | y
     ·grind
     simp_all
    show upd _ a _ b=none
    rw[Ag j];exact st.nf b o e s n q
   ·exact⟨a,l,rfl,Ax,TrL.same (Bp h) t⟩
theorem ME.toV (h:ME K T f):MV K T f:=λe W c j Q R s=>h _ W c _ Q R (s.mono λp l k v g i a d b=>B5c k v _ _ a d b)
end
def RdV (Hf H:Hp):t6->V->Prop
 | .list ds,v=>∃a vs,v=.ref a/\H a=some (.lst vs)/\TrL Hf ds vs
 | d,v=>Tr Hf d v
section
variable {K:v9}{β:Nat->V}{W W':Wo}{c c':Ev}{σ:St}{Hf Hf' H H':Hp}{o:O}{v:V}{fp:v6}{S:Addr->Prop}{p:PV}{a:Addr}{d:t6}
theorem RdV.of (s:Same Hf H)(h:Tr Hf d v):RdV Hf H d v:=by
 cases d with
 | list f=>obtain⟨a,c,e,q,t⟩:=h;exact⟨a,c,e,s _ _ q,t⟩
 | none=>exact h
 | bool b=>exact h
 | int i=>exact h
 | str x=>exact h
 | tuple f=>exact h
 | dict k=>exact h
theorem RdV.tr (s:Same Hf H)(h:RdV Hf H d v):Tr H d v:=by
 cases d with
 | list f=>obtain⟨a,c,e,q,t⟩:=h;exact⟨a,c,e,q,TrL.same s t⟩
 | none=>exact h
 | bool b=>exact h
 | int i=>exact h
 | str x=>exact h
 | tuple f=>exact Tr.same s h
 | dict k=>trivial
theorem Gi (R:Rep K β W c σ)(h:RepA K W.Hf σ p v)(e:Du c p=some d):RdV W.Hf W.H d v:=by
 cases p with
 | o o =>
  cases o with
  | im m=>cases e;exact .of R.sub h
  | ls b n=>trivial
  | sc k=>trivial
  | ty T=>trivial
 | sl i =>
  have l:c[i]?.join.bind _=some d:=e;obtain⟨o,g,f⟩:=cP.mp l
  have g:c[i]?=some (some o):=by
   grind
  obtain⟨u,s,r,_⟩:=R.get i o g
  cases s.symm.trans h
  cases o with
  | im m=>cases f;exact .of R.sub r.2
  | ls b n =>
   cases f
   obtain⟨a,j,e,_,_,q,t⟩:=r;exact⟨a,j,e,q,t⟩
  | sc k=>trivial
  | ty T=>trivial
def B1u (Hf H:Hp):w5->n_->Prop
 | [],vs=>vs=[]
 | d::ds,vs=>∃v r,vs=v::r/\RdV Hf H d v/\B1u Hf H ds r
def A8z (c:Ev):List PV->Option (w5)
 | []=>some []
 | p::ps=>(Du c p).bind λd=>(A8z c ps).map (d::·)
abbrev New (K:v9)(Hf H:Hp)(o:O)(Q:VK):Prop:=∀v Hf' H' fp,Stp (λ_=>False) Hf H (λa=>a∈fp) Hf' H'->Same Hf' H'->RepO K Hf' H' o v fp->Q v H'
def OpS (K:v9)(r:R2)(op:t6->t6->n8):Prop:=∀(Hf H:Hp) (x y:V) (dx dy:t6) (o:O) (Q:VK),Same Hf H->RdV Hf H dx x->RdV Hf H dy y->op dx dy=some o->New K Hf H o Q->r x y H Q
def B4k (K:v9)(r:n_->Hp->VK->Prop)(op:w5->n8):Prop:=∀(Hf H:Hp) (xs:n_) (ds:w5) (o:O) (Q:VK),Same Hf H->B1u Hf H ds xs->op ds=some o->New K Hf H o Q->r xs H Q
theorem New.same (h:New K Hf H (.im d) Q) (s:Same Hf H) (t:Tr Hf d v):Q v H:=h v _ H [] (Stp.refl.less λa z=>nomatch z) s ⟨rfl,t⟩
theorem New.tup (h:New K Hf H (.im (.tuple ds)) Q) (s:Same Hf H) (t:TrL Hf ds vs) {p:Addr}(hp:H p=none):Q (.ref p) (upd H p (.tup vs)) :=
 h _ _ _ [] ((Stp.newF s hp).less λa z=>nomatch z) (Jz s) ⟨rfl,p,vs,rfl,Ax,TrL.same (Bp (Same.free s hp)) t⟩
theorem New.lst (h:New K Hf H (.ls false ds) Q) (s:Same Hf H) (t:TrL Hf ds vs) {p:Addr}(hp:H p=none):Q (.ref p) (upd H p (.lst vs)) :=
 h _ _ _ _ (Stp.newL s hp) (Rm s hp) ⟨p,vs,rfl,rfl,Same.free s hp,Ax,t⟩
theorem New.of (R:Rep K β W c σ) (k:∀v W' d,Stp W.S W.Hf W.H (orS W'.S d) W'.Hf W'.H->Rep K β W' c σ->Eg K W' σ (.o o) v d->Q v W'.H):New K W.Hf W.H o Q:=by
 intro v h j d b f r
 refine k v _ _ ⟨b.fz,λa o e _=>b.kp a o e λz=>z,λa o e i _ q=>b.nf a o e i (λz=>z) q,λa z=>?_⟩ (b.rep R f) ⟨r,λa g z=>?_⟩
 ·rcases z with z | z
  ·exact .inl z
  ·rcases b.fr a z with y | y
   ·trivial
   grind
 ·rcases b.fr a g with y | y
  ·lia
  ·exact R.notS y z
def cOp (op:t6->t6->n8)(fa fb:o_):o_:=λc=>(fa c).bind λp c=>(fb c).bind λq c =>
 match Du c (nrm p),Du c (nrm q) with
 | some x,some y=>match op x y with
  | some o=>.ok (.o o) c
  | none=>.bad
 | _,_=>.bad
theorem Ep (ha:ME K g fa) (hb:ME K f fb) (hr:OpS K r op):ME K (tOp r g f) (cOp op fa fb):=by
 intro β W c σ Q R s
 refine ha.toV _ W c _ _ R (s.bnd.mono λp c1 l v1 W1 d i j=>?_)
 refine hb.toV _ _ _ _ _ i (l.bnd.mono λq e a v2 W2 b R2 k=>?_)
 cases ex:Du e (nrm p) with
 | none=>simp only[ex]at a;trivial
 | some x =>
  cases ey:Du e (nrm q) with
  | none=>simp only[ex,ey]at a;trivial
  | some y =>
   simp only[ex,ey]at a
   cases eo:op x y with
   | none=>simp only[eo]at a;trivial
   | some o =>
    simp only[eo]at a
    exact hr _ _ _ _ x y o Q R2.sub (Gi R2 (RepA.same b.fz j) ex) (Gi R2 k ey) eo (New.of R2 λv W' fp m n h=>a v _ _ (d.trans (b.trans m)) n h)
noncomputable def Ai:o5:=λc=>.ok [] c
def Ab (f:o_)(fr:o5):o5:=λc=>(f c).bind λp c=>(fr c).bind λps c=>.ok (nrm p::ps) c
noncomputable def cK (ds:w5):o5:=λc=>.ok (ds.map λd=>.o (.im d)) c
theorem Bv:MA K Gs Ai:=λb W c a Q R s=>s _ W Stp.refl R rfl
theorem An {d:TE} (ha:ME K d fa) (hr:MA K e f):MA K (Cg d e) (Ab fa f):=by
 intro t W c v Q R s
 refine ha.toV _ W c _ _ R (s.bnd.mono λp o i j r b h g=>?_)
 refine hr _ _ _ _ _ h (i.bnd.mono λw q m l u a n k=>?_)
 exact m _ _ (b.trans a) n ⟨j,l,rfl,RepA.same a.fz g,k⟩
noncomputable def Aa (i:Nat):o_:=λc=>match c[i]? with
 | some (some (.ls _ _))=>.ok (.sl i) c
 | some (some o)=>.ok (.o o) c
 | _=>.bad
theorem Rep.here (R:Rep K β W c σ) (h:RepN K W.Hf o v) (n:o.own=false) {Q:VK}(s:∀v W' fp,Stp W.S W.Hf W.H (orS W'.S fp) W'.Hf W'.H->Rep K β W' c σ->Eg K W' σ (.o o) v fp->Q v W'.H):Q v W.H :=
 s
  v W [] (Stp.refl.less λa z=>by
  grind) R ⟨by
   cases o with
   | ls b e=>trivial
   | im d=>trivial
   | sc d=>trivial
   | ty d=>trivial,λa z=>nomatch z⟩
theorem me_var : ME K (Al3 i) (Aa i):=by
 intro j W c h Q R s;unfold Aa at s
 cases e:c[i]? with
 | none=>simp only[e]at s;trivial
 | some x =>
  cases x with
  | none=>simp only[e]at s;trivial
  | some o =>
   obtain⟨v,f,r,_⟩:=R.get i o e
   refine⟨v,f,?_⟩
   simp only[e]at s
   cases o with
   | ls b g=>
    exact s v W _ (Stp.refl.less λa z=>by
     rcases z with z | z
     ·lia
     simp_all) R ⟨rfl,f⟩
   | im d=>exact R.here r.2 rfl s
   | sc d=>exact R.here r.2 rfl s
   | ty d=>exact R.here r.2 rfl s
noncomputable def cC (d:t6):o_:=λc=>.ok (.o (.im d)) c
noncomputable def vD:V->Option t6
 | .non=>some .none
 | .bl b=>some (.bool b)
 | .int i=>some (.int i)
 | .str x=>some (.str x)
 | _=>none
theorem Bu3:∀{v:V}{d:t6},vD v=some d->Tr H d v
 | .non,_,e=>by cases e;rfl
 | .bl b,_,e=>by cases e;rfl
 | .int i,_,e=>by cases e;rfl
 | .str x,_,e=>by cases e;rfl
 | .byt _,_,e=>nomatch e
 | .flt _,_,e=>nomatch e
 | .ref _,_,e=>nomatch e
 | .ty _,_,e=>nomatch e
theorem Gf (h:vD v=some d):ME K (tC v) (cC d):=λb W c a Q R s=>R.here (o:=.im d) (Bu3 h) rfl s
noncomputable def frz (p:PV) (c:Ev):R t6:=match p with
 | .o (.im d)=>.ok d c
 | .o _=>.bad
 | .sl i=>match c[i]? with
  | some (some (.im d))=>.ok d c
  | some (some (.ls false ds))=>.ok (.list ds) (c.set i (some (.im (.list ds))))
  | _=>.bad
noncomputable def clr (fps:Nat->v6) (i:Nat):Nat->v6:=λj=>if j=i then [] else fps j
theorem Ei (h:a∈clr b i j):a∈b j/\j≠i:=by
 unfold clr at h
 grind
theorem Rep.setN (R:Rep K β W c σ) (h:RepN K W.Hf o v) (n:o.own=false):Rep K β ⟨W.Hf,W.H,clr W.fps i⟩ (c.set i (some o)) (σ.set i (some v)):=by
 refine⟨R.sub,by rw[bT,bT];exact R.len,λj s e=>?_,λj k a m g=>R.dis j k a (Ei m).1 (Ei g).1,λj a h=>R.own j a (Ei h).1⟩
 by_cases z:j=i
 ·subst z
  by_cases l:j<c.length
  ·rw[cG l]at e
   cases e
   refine⟨v,by rw[cG (by rw[<- R.len];exact l)],?_,λb=>?_⟩
   ·show RepO K W.Hf W.H o v (clr _ j j)
    unfold clr;rw[if_pos rfl]
    cases o with
    | ls b f=>exact nomatch n
    | im d=>exact⟨rfl,h⟩
    | sc d=>trivial
    | ty d=>exact⟨rfl,h⟩
   ·cases o with
    | ls b f=>exact nomatch n
    | im d=>exact nomatch b
    | sc d=>exact nomatch b
    | ty d=>exact nomatch b
  grind
 ·rw[cB λy=>z y.symm]at e
  obtain⟨p,q,r,b⟩:=R.get j _ e
  refine⟨p,by grind,?_,b⟩
  unfold clr
  simp_all
theorem Rep.setO (R:Rep K β W c σ) (h:RepO K W.Hf W.H o v fp) (hn:∀a∈fp,¬ W.S a) (hb:o.bor=false):Rep K β ⟨W.Hf,W.H,λj=>if j=i then fp else W.fps j⟩ (c.set i (some o)) (σ.set i (some v)):=by
 refine⟨R.sub,by rw[bT,bT];exact R.len,λj o' e=>?_,λj k a f g=>?_,λj a f=>?_⟩
 ·by_cases z:j=i
  ·subst z
   by_cases l:j<c.length
   ·rw[cG l]at e
    cases e
    refine⟨v,by rw[cG (by rw[<- R.len];exact l)],?_,λb=>by rw[hb]at b;cases b⟩
    simp_all
   simp_all
  ·rw[cB λy=>z y.symm]at e
   obtain⟨v',e1,r,b⟩:=R.get j _ e
   grind
 ·have f:a∈if j=i then fp else W.fps j:=f
  have g:a∈if k=i then fp else W.fps k:=g
  split at f
  ·split at g
   ·lia
   ·exact absurd ⟨k,g⟩ (hn a f)
  ·split at g
   ·exact absurd ⟨j,f⟩ (hn a g)
   ·exact R.dis j k a f g
 ·have f:a∈if j=i then fp else W.fps j:=f
  split at f
  ·cases o with
   | ls b ds =>
    obtain⟨a',vs,_,rfl,n,m,_⟩:=h
    cases aQ.mp f
    exact⟨n,_,m,trivial⟩
   | im d=>rw[h.1]at f;cases f
   | sc d=>rw[h.1]at f;cases f
   | ty d=>rw[h.1]at f;cases f
  ·exact R.own j a f
theorem set_same {a:Type}{l:List a} {x:a}(h:l[i]?=some x):l.set i x=l:=by
 apply jz
 grind
theorem Rep.drop (R:Rep K β W c σ)(i:Nat):Rep K β ⟨W.Hf,W.H,clr W.fps i⟩ (c.set i none) σ:=by
 refine⟨R.sub,by rw[bT];exact R.len,λj m e=>?_,λj k a g f=>R.dis j k a (Ei g).1 (Ei f).1,λj a h=>R.own j a (Ei h).1⟩
 by_cases z:j=i
 ·grind
 ·rw[cB λy=>z y.symm]at e
  obtain⟨l,d,r,b⟩:=R.get j _ e
  refine⟨l,d,?_,b⟩
  unfold clr
  simp_all
theorem Eu (R:Rep K β W c σ)(h:RepA K W.Hf σ p v) (s:(frz p c).sat k) :
 ∃d c' W',frz p c=.ok d c'/\k d c'/\W'.H=W.H/\Stp W.S W.Hf W.H W'.S W'.Hf W'.H/\Rep K β W' c' σ/\Tr W'.Hf d v:=by
 cases p with
 | o o =>
  cases o with
  | im d=>exact⟨d,c,W,rfl,s,rfl,Stp.refl,R,h⟩
  | ls b w=>exact s.elim
  | sc d=>exact s.elim
  | ty d=>exact s.elim
 | sl i =>
  unfold frz at s ⊢
  cases e:c[i]? with
  | none=>simp only[e]at s;exact s.elim
  | some x =>
   cases x with
   | none=>simp only[e]at s;exact s.elim
   | some o =>
    obtain⟨v',u,r,_⟩:=R.get i o e
    cases (show some _=some _ from u.symm.trans h)
    cases o with
    | im d=>simp only[e]at s;exact⟨d,c,W,by simp only[e],s,rfl,Stp.refl,R,r.2⟩
    | sc d=>simp only[e]at s;exact s.elim
    | ty d=>simp only[e]at s;exact s.elim
    | ls b w =>
     cases b with
     | true=>simp only[e]at s;exact s.elim
     | false =>
      simp only[e]at s;obtain⟨a,m,rfl,l,f,A,t⟩:=r
      refine⟨.list _,c.set i _,⟨upd _ a _,W.H,clr W.fps i⟩,by simp only[e],s,rfl,⟨Bp f,λb o e _=>e,λb o e mu n q=>?_,λb z=>?_⟩,?_,⟨a,m,rfl,Ax,TrL.same (Bp f) t⟩⟩
      ·have C:b≠a:=λz=>n ⟨i,by rw[z,l];exact .head _⟩
       show upd _ a _ b=none
       rw[Ag C];exact q
      ·obtain⟨j,g⟩:=z
       exact .inl ⟨j,(Ei g).1⟩
      ·have B:¬ Wo.S ⟨W.Hf,W.H,clr W.fps i⟩ a:=λ⟨j,g⟩=>by
        obtain⟨E,D⟩:=Ei g
        exact D (R.dis j i a E (by rw[l];exact .head _))
       have y:=(Ad4 (R.drop i) f A B).setN (i:=i) (o:=.im (.list _)) ⟨a,m,rfl,Ax,TrL.same (Bp f) t⟩ rfl;rw[set_same h]at y
       have z:clr (clr W.fps i) i=clr W.fps i:=by funext j;unfold clr;split <;> rfl
       simp_all
def vDs:n_->Option (w5)
 | []=>some []
 | v::vs=>(vD v).bind λd=>(vDs vs).map (d::·)
theorem A0h:∀{vs:n_}{ds:w5},vDs vs=some ds->zQ K Hf σ (ds.map λd=>.o (.im d)) vs
 | [],_,e=>by cases (show some []=some _ from e);exact rfl
 | v::vs,ds,e=>by
  obtain⟨d,e1,e2⟩:=cP.mp (show ((vD v).bind λd=>(vDs vs).map (d::·))=some ds from e)
  obtain⟨ds',e3,rfl⟩:=aW.mp e2;exact⟨v,vs,rfl,Bu3 e1,A0h e3⟩
theorem B5k (h:vDs vs=some ds):MA K (tK vs) (cK ds):=λb W c a Q R s=>s _ W Stp.refl R (A0h h)
def frzs:List PV->Ev->R (w5)
 | [],c=>.ok [] c
 | p::ps,c=>(frz p c).bind λd c=>(frzs ps c).bind λds c=>.ok (d::ds) c
theorem Rz:∀{ps:List PV}{vs:n_}{W:Wo}{c:Ev}{φ:w5->Ev->Prop},Rep K β W c σ->zQ K W.Hf σ ps vs->(frzs ps c).sat φ ->
 ∃ds c' W',φ ds c'/\W'.H=W.H/\Stp W.S W.Hf W.H W'.S W'.Hf W'.H/\Rep K β W' c' σ/\TrL W'.Hf ds vs
 | [],vs,W,c,φ,R,h,s=>⟨[],c,W,s,rfl,Stp.refl,R,h⟩
 | p::ps,_,W,c,φ,R,⟨v,r,rfl,h,t⟩,s=>by
  obtain⟨d,c1,W1,_,s1,e1,st1,R1,t1⟩:=Eu R h s.bnd;obtain⟨ds,c2,W2,s2,e2,st2,R2,t2⟩:=Rz R1 (zQ.same st1.fz t) s1.bnd;exact⟨d::ds,c2,W2,s2,e2.trans e1,st1.trans st2,R2,v,r,rfl,Tr.same st2.fz t1,t2⟩
def Ci (f:o5):o_:=λc=>(f c).bind λps c=>(frzs ps c).bind λds c=>if ds.length<=1000 then .ok (.o (.im (.tuple ds))) c else .bad
def Ds (f:o5):o_:=λc=>(f c).bind λps c=>(frzs ps c).bind λds c=>if ds.length<=1000 then .ok (.o (.ls false ds)) c else .bad
theorem A0w (h:n<=1000):n<=sizeLine:=aq h (by decide)
theorem Jj (h:MA K t f):ME K (A4g t) (Ci f):=by
 intro w W c z Q R s
 refine h _ W c _ _ R (s.bnd.mono λx y k A F b o m=>?_)
 obtain⟨r,B,E,a,j,d,e,i⟩:=Rz o m k.bnd
 by_cases l:r.length<=1000
 ·rw[if_pos l]at a
  refine⟨by rw[<- i.length];exact A0w l,λp g=>?_⟩
  rw[<- j]at g ⊢
  exact New.tup (New.of e λv C D q u n=>a v _ _ (b.trans (d.trans q)) u n) e.sub i g
 ·rw[if_neg l]at a;trivial
theorem Mh (h:MA K t f):ME K (A9n t) (Ds f):=by
 intro w W c z Q R s
 refine h _ W c _ _ R (s.bnd.mono λx y k A F b o m=>?_)
 obtain⟨r,B,E,a,j,d,e,i⟩:=Rz o m k.bnd
 by_cases l:r.length<=1000
 ·rw[if_pos l]at a
  refine⟨by rw[<- i.length];exact A0w l,λp g=>?_⟩
  rw[<- j]at g ⊢
  exact New.lst (New.of e λv C D q u n=>a v _ _ (b.trans (d.trans q)) u n) e.sub i g
 ·rw[if_neg l]at a;trivial
end
noncomputable def G4 (cI:Ev):q_->Ev->Option Ev
 | [],c=>some c
 | (k,i)::m,c=>match c[i]? with
  | some (some (.ls b _))=>match cI[k]? with
   | some (some (.ls true ds))=>G4 cI m (c.set i (some (.ls b ds)))
   | _=>none
  | _=>G4 cI m c
noncomputable def inn (m:q_) (i:Nat):Option Nat:=(m.find? λp=>p.2==i).map (·.1)
noncomputable def Ax6 (m:q_) (k:Nat):Option Nat:=(m.find? λp=>p.1==k).map (·.2)
theorem Jl : inn ((k,j)::m) i=if j=i then some k else inn m i:=by
 unfold inn
 grind
theorem U9 (h:inn m i=some k):(k,i)∈m:=by
 induction m with
 | nil=>cases h
 | cons p m a =>
  rw[Jl]at h
  grind
theorem Vj (b:(m.map (·.2)).Nodup) (h:(k,i)∈m):inn m i=some k:=by
 induction m with
 | nil=>grind
 | cons p m a =>
  rw[Jl]
  grind
theorem A0a {m:q_} (b:(m.map (·.1)).Nodup) (h:(k,i)∈m) (h':(k,j)∈m):i=j:=by
 induction m with
 | nil=>grind
 | cons p m a =>
  grind
theorem S9 {cI:Ev}:∀{m:q_}{c cO:Ev},(m.map (·.2)).Nodup->G4 cI m c=some cO->cO.length=c.length/\∀i,
 (∃b ds0 k ds,c[i]?=some (some (.ls b ds0))/\inn m i=some k/\cI[k]?=some (some (.ls true ds))/\cO[i]?=some (some (.ls b ds))) \/
 (cO[i]?=c[i]?/\∀b ds,c[i]?=some (some (.ls b ds))->inn m i=none)
 | [],c,cO,nd,e=>by cases (show some c=some cO from e);exact⟨rfl,λi=>.inr ⟨rfl,λ_ _ _=>rfl⟩⟩
 | (k,j)::m,c,cO,nd,e=>by
  rw[aF,bH]at nd
  have nj:inn m j=none:=by
   cases q:inn m j with
   | none=>rfl
   | some k'=>exact absurd (aG.mpr ⟨(k',j),U9 q,rfl⟩) nd.1
  unfold G4 at e
  have other:G4 cI m c=some cO->(∀b ds,c[j]?≠some (some (.ls b ds)))->cO.length=c.length/\∀i,
   (∃b ds0 k' ds,c[i]?=some (some (.ls b ds0))/\inn ((k,j)::m) i=some k'/\cI[k']?=some (some (.ls true ds))/\cO[i]?=some (some (.ls b ds))) \/
   (cO[i]?=c[i]?/\∀b ds,c[i]?=some (some (.ls b ds))->inn ((k,j)::m) i=none):=λe hn=>by
   obtain⟨hl,hg⟩:=S9 nd.2 e
   refine⟨hl,λi=>?_⟩
   rcases hg i with ⟨b,ds0,k',ds,q1,q2,q3,q4⟩ | ⟨q1,q2⟩
   ·refine .inl ⟨b,ds0,k',ds,q1,?_,q3,q4⟩
    rw[Jl,if_neg (λz=>hn b ds0 (by rw[z];exact q1))];exact q2
   ·refine .inr ⟨q1,λb ds q=>?_⟩
    rw[Jl,if_neg (λz=>hn b ds (by rw[z];exact q))];exact q2 b ds q
  cases ec:c[j]? with
  | none=>simp only[ec]at e;exact other e λb ds z=>by rw[ec]at z;cases z
  | some x =>
   cases x with
   | none=>simp only[ec]at e;exact other e λb ds z=>by rw[ec]at z;cases z
   | some o =>
    cases o with
    | im d=>simp only[ec]at e;exact other e λb ds z=>by rw[ec]at z;cases z
    | sc d=>simp only[ec]at e;exact other e λb ds z=>by rw[ec]at z;cases z
    | ty d=>simp only[ec]at e;exact other e λb ds z=>by rw[ec]at z;cases z
    | ls b0 ds0 =>
     simp only[ec]at e
     cases ei:cI[k]? with
     | none=>simp only[ei]at e;cases e
     | some x =>
      cases x with
      | none=>simp only[ei]at e;cases e
      | some o =>
       cases o with
       | im d=>simp only[ei]at e;cases e
       | sc d=>simp only[ei]at e;cases e
       | ty d=>simp only[ei]at e;cases e
       | ls b1 ds1 =>
        cases b1 with
        | false=>simp only[ei]at e;cases e
        | true =>
         simp only[ei]at e
         have lj:j<c.length:=by
          rcases bN j c.length with q | q
          ·exact q
          ·rw[i_ q]at ec;cases ec
         obtain⟨hl,hg⟩:=S9 nd.2 e;rw[bT]at hl
         refine⟨hl,λi=>?_⟩
         by_cases z:j=i
         ·subst z
          rcases hg j with ⟨b,ds0',k',ds,q1,q2,q3,q4⟩ | ⟨q1,q2⟩
          ·rw[nj]at q2;cases q2
          ·rw[cG lj]at q1
           exact .inl ⟨b0,ds0,k,ds1,ec,by rw[Jl,if_pos rfl],ei,q1⟩
         ·have gs:(c.set j (some (.ls b0 ds1)))[i]?=c[i]?:=cB z
          rcases hg i with ⟨b,ds0',k',ds,q1,q2,q3,q4⟩ | ⟨q1,q2⟩
          ·rw[gs]at q1
           exact .inl ⟨b,ds0',k',ds,q1,by rw[Jl,if_neg z];exact q2,q3,q4⟩
          ·rw[gs]at q1 q2
           exact .inr ⟨q1,λb ds q=>by rw[Jl,if_neg z];exact q2 b ds q⟩
noncomputable def Il:Option (n8)->Bool
 | some (some (.ls _ _))=>true
 | _=>false
def U3 (m:q_)(c:Ev)(fps:Nat->v6):Nat->v6:=λk=>match Ax6 m k with
 | some i=>if Il c[i]? then fps i else []
 | none=>[]
theorem Wq (h:Ax6 m k=some i):(k,i)∈m:=by
 obtain⟨p,b,a⟩:=aW.mp h
 grind
theorem Gw (h:a∈U3 m c b k):∃i,(k,i)∈m/\Il c[i]?=true/\a∈b i:=by
 unfold U3 at h
 cases e:Ax6 m k with
 | none=>grind
 | some i =>
  rw[e]at h
  have h:a∈if Il _ then b i else []:=h
  by_cases q:Il c[i]?=true
  ·rw[if_pos q]at h;exact⟨i,Wq e,q,h⟩
  grind
theorem Br1 (a:(m.map (·.1)).Nodup) (h:(k,i)∈m):Ax6 m k=some i:=by
 cases e:Ax6 m k with
 | none =>
  unfold Ax6 at e;rw[Option.map_eq_none_iff]at e
  grind
 | some j=>rw[A0a a h (Wq e)]
def Ax7 (m:q_)(c:Ev)(fps fpsJ:Nat->v6):Nat->v6:=λi=>if Il c[i]? then (match inn m i with
 | some k=>fpsJ k
 | none=>fps i) else fps i
section
variable {K:v9}{β β':Nat->V}{W W':Wo}{c cI cI' cO:Ev}{σ σI σI':St}{m:q_}{fp:v6}
structure Lent (K:v9) (Hf:Hp) (m:q_) (c:Ev) (σ:St) (β':Nat->V) (cI:Ev) (σI:St):Prop where
 n1:(m.map (·.1)).Nodup
 n2:(m.map (·.2)).Nodup
 len:cI.length=σI.length
 at_:∀k o,cI[k]?=some (some o)->(o.own=false/\(∀i,(k,i)∈m->Il c[i]?=false)/\(∃v,σI[k]?=some (some v)/\RepN K Hf o v))\/∃i b ds v,(k,i)∈m/\c[i]?=some (some (.ls b ds))/\o=.ls true ds/\σ[i]?=some (some v)/\σI[k]?=some (some v)/\β' k=v
theorem Lent.rep (L:Lent K W.Hf m c σ β' cI σI)(R:Rep K β W c σ):Rep K β' ⟨W.Hf,W.H,U3 m c W.fps⟩ cI σI:=by
 refine⟨R.sub,L.len,λk o e=>?_,λk l a B C=>?_,λk a h=>?_⟩
 ·rcases L.at_ k o e with ⟨n,s,v,p,r⟩ | ⟨i,b,x,v,E,w,rfl,J,p,A⟩
  ·refine⟨v,p,?_,λq=>?_⟩
   ·have g:∀t ,t=[]->RepO K _ W.H o v t:=λt z=>by
     cases o with
     | ls b x=>exact nomatch n
     | im d=>exact⟨z,r⟩
     | sc d=>exact⟨z,r⟩
     | ty d=>exact⟨z,r⟩
    refine g _ ?_
    show U3 m c _ k=[]
    unfold U3
    cases q:Ax6 m k with
    | none=>rfl
    | some i =>
     show (if Il _ then W.fps i else [])=[]
     rw[s i (Wq q)]
     rfl
   ·cases o with
    | ls b x=>exact nomatch n
    | im d=>exact nomatch q
    | sc d=>exact nomatch q
    | ty d=>exact nomatch q
  ·obtain⟨v',f,r,_⟩:=R.get i _ w
   cases (show some _=some _ from f.symm.trans J)
   refine⟨v,p,?_,λ_=>A.symm⟩
   obtain⟨a,F,G,D,I⟩:=r
   refine⟨a,F,G,?_,I⟩
   show U3 m c _ k=[a]
   unfold U3;rw[Br1 L.n1 E]
   show (if Il _ then W.fps i else [])=[a]
   rw[w];exact D
 ·obtain⟨i,H,_,u⟩:=Gw B
  obtain⟨j,M,_,y⟩:=Gw C
  cases R.dis i j a u y
  have f:=Vj L.n2 M;rw[(Vj L.n2 H)]at f;exact bY f
 ·obtain⟨i,_,_,u⟩:=Gw h
  exact R.own i a u
theorem Bo8 (h:Il x=true):∃b ds,x=some (some (.ls b ds)):=by
 match x,h with
 | some (some (.ls b _)),_=>grind
theorem Lent.back (L:Lent K W.Hf m c σ β' cI σI)(R:Rep K β W c σ)(I:Rep K β' W' cI' σI')(st:Stp (Wo.S ⟨W.Hf,W.H,U3 m c W.fps⟩) W.Hf W.H (orS W'.S fp) W'.Hf W'.H)(hb:G4 cI' m c=some cO)
 (H:∀k i b J v,(k,i)∈m->c[i]?=some (some (.ls b J))->σ[i]?=some (some v)->β' k=v) (Q:∀a∈fp,¬ W'.S a) :
 ∃W2:Wo,W2.Hf=W'.Hf/\W2.H=W'.H/\Rep K β W2 cO σ/\Stp W.S W.Hf W.H (orS W2.S fp) W'.Hf W'.H/\∀a∈fp,¬ W2.S a:=by
 obtain⟨hl,hg⟩:=S9 L.n2 hb
 have t:∀k a,a∈W'.fps k->(∃i,(∃l,(l,i)∈m)/\Il c[i]?=true/\a∈W.fps i)\/W.H a=none:=λk a h=>by
  rcases st.fr a (.inl ⟨k,h⟩) with ⟨l,q⟩ | q
  ·obtain⟨i,s,x,g⟩:=Gw q
   exact .inl ⟨i,⟨l,s⟩,x,g⟩
  ·exact .inr q
 have d:∀i a,a∈W.fps i->(Il c[i]?=true->inn m i=none)->¬ Wo.S ⟨W.Hf,W.H,U3 m c W.fps⟩ a:=λi a h n ⟨k,q⟩=>by
  obtain⟨j,s,x,g⟩:=Gw q
  cases (R.dis i j a h g)
  have:=n x;rw[Vj L.n2 s]at this;cases this
 have D:∀i a,a∈Ax7 m c W.fps W'.fps i->(∃k,inn m i=some k/\Il c[i]?=true/\a∈W'.fps k)\/(a∈W.fps i/\(Il c[i]?=true->inn m i=none)):=λi a h=>by
  have h:a∈if Il c[i]? then (match inn m i with | some k=>W'.fps k | none=>W.fps i) else W.fps i:=h
  by_cases q:Il c[i]?=true
  ·rw[if_pos q]at h
   cases e:inn m i with
   | none=>rw[e]at h;exact .inr ⟨h,λ_=>rfl⟩
   | some k=>rw[e]at h;exact .inl ⟨k,rfl,q,h⟩
  ·rw[if_neg q]at h;exact .inr ⟨h,λz=>absurd z q⟩
 have p:∀i k a,a∈W.fps i->(Il c[i]?=true->inn m i=none)->a∈W'.fps k->False:=λi k a h n V=>by
  rcases t k a V with ⟨j,⟨l,s⟩,x,g⟩ | q
  ·cases (R.dis i j a h g)
   have:=n x;rw[Vj L.n2 s]at this;cases this
  ·obtain⟨_,o,e,_⟩:=R.own i a h
   rw[q]at e;cases e
 refine⟨⟨W'.Hf,W'.H,Ax7 m c W.fps W'.fps⟩,rfl,rfl,⟨I.sub,hl.trans R.len,λi o e=>?_,λi j a Z T=>?_,λi a h=>?_⟩,⟨st.fz,λa o e n=>st.kp a o e λ⟨k,q⟩=>?_,λa o e F n q=>st.nf a o e F (λzz=>?_) q,λa h=>?_⟩,λa C ⟨i,h⟩=>?_⟩
 ·rcases hg i with ⟨b,N,k,J,s,x,g,U⟩ | ⟨s,x⟩
  ·rw[U]at e;cases e
   obtain⟨v,M,r,P⟩:=R.get i _ s;obtain⟨X,e1',r',O⟩:=I.get k _ g;have S:=O rfl;rw[H k i b N v (U9 x) s M]at S;subst S
   refine⟨X,M,?_,P⟩
   obtain⟨a,Y,A,E,G⟩:=r'
   refine⟨a,Y,A,?_,G⟩
   show Ax7 m c W.fps W'.fps i=[a]
   unfold Ax7;rw[s,x];exact E
  ·rw[s]at e
   obtain⟨v,M,r,P⟩:=R.get i _ e
   refine⟨v,M,?_,P⟩
   have n:Il c[i]?=true->inn m i=none:=λz=>by
    obtain⟨b,J,z⟩:=Bo8 z;exact x b J z
   have ef:Ax7 m c W.fps W'.fps i=W.fps i:=by
    unfold Ax7
    by_cases q:Il c[i]?=true
    ·rw[if_pos q,n q]
    ·rw[if_neg q]
   show RepO K W'.Hf W'.H o v (Ax7 m c W.fps W'.fps i)
   rw[ef]
   refine r.mono st.fz λa C=>?_
   obtain⟨z,u,y,F⟩:=R.own i a C;exact⟨st.nf a u y F (d i a C n) z,(st.kp a u y (d i a C n)).trans y.symm⟩
 ·rcases D i a Z with ⟨k,f,w,B⟩ | ⟨f,w⟩
  ·rcases D j a T with ⟨l,A,E,G⟩ | ⟨A,E⟩
   ·cases I.dis k l a B G
    exact A0a L.n1 (U9 f) (U9 A)
   ·exact(p j k a A E B).elim
  ·rcases D j a T with ⟨l,A,E,G⟩ | ⟨A,E⟩
   ·exact(p i l a f w G).elim
   ·exact R.dis i j a f A
 ·rcases D i a h with ⟨k,f,w,B⟩ | ⟨f,w⟩
  ·exact I.own k a B
  ·obtain⟨z,u,y,F⟩:=R.own i a f
   exact⟨st.nf a u y F (d i a f w) z,u,st.kp a u y (d i a f w),F⟩
 ·obtain⟨i,_,_,g⟩:=Gw q
  exact n ⟨i,g⟩
 ·obtain⟨k,q'⟩:=zz
  obtain⟨i,_,_,g⟩:=Gw q';exact n ⟨i,g⟩
 ·rcases h with ⟨i,h⟩ | h
  ·rcases D i a h with ⟨k,f,w,B⟩ | ⟨f,w⟩
   ·rcases t k a B with ⟨j,_,_,q⟩ | q
    ·exact .inl ⟨j,q⟩
    ·exact .inr q
   ·exact .inl ⟨i,f⟩
  ·rcases st.fr a (.inr h) with ⟨k,q⟩ | q
   ·obtain⟨i,_,_,g⟩:=Gw q
    exact .inl ⟨i,g⟩
   ·exact .inr q
 ·rcases D i a h with ⟨k,f,w,B⟩ | ⟨f,w⟩
  ·exact Q a C ⟨k,B⟩
  ·rcases st.fr a (.inr C) with q | q
   ·exact d i a f w q
   ·obtain⟨_,u,y,_⟩:=R.own i a f
    rw[q]at y;cases y
end
inductive SR where
 | nx (c:Ev)
 | rt (p:PV) (c:Ev)
 | bk (c:Ev)
 | ct (c:Ev)
 | bad
def zK (K:v9)(β:Nat->V)(W:Wo)(D:Ends):SR->Prop
 | .nx c'=>∀σ' W',Stp W.S W.Hf W.H W'.S W'.Hf W'.H->Rep K β W' c' σ'->D.nx σ' W'.H
 | .bk c'=>∀σ' W',Stp W.S W.Hf W.H W'.S W'.Hf W'.H->Rep K β W' c' σ'->D.bk σ' W'.H
 | .ct c'=>∀σ' W',Stp W.S W.Hf W.H W'.S W'.Hf W'.H->Rep K β W' c' σ'->D.ct σ' W'.H
 | .rt p c'=>∀σ' v W' fp,Stp W.S W.Hf W.H (orS W'.S fp) W'.Hf W'.H->Rep K β W' c' σ'->Eg K W' σ' p v fp->D.rt v W'.H
 | .bad=>False
def MS (K:v9)(T:TS)(f:Ev->SR):Prop:=∀(β:Nat->V) (W:Wo) (c:Ev) (σ:St) (D:Ends),Rep K β W c σ->zK K β W D (f c)->T D σ W.H
def MG (K:v9)(g:TG)(cg:p_):Prop:=∀(β:Nat->V) (W:Wo) (c:Ev) (σ:St) (p:PV) (v:V) (fp:v6) (k:St->Hp->Prop),Rep K β W c σ->Eg K W σ p v fp ->
 (cg p c).sat (λ_ c'=>∀σ' W',Stp (orS W.S fp) W.Hf W.H W'.S W'.Hf W'.H->Rep K β W' c' σ'->k σ' W'.H)->g v σ W.H k
def MGs (K:v9)(g:TGs)(cg:w5->Ev->R Unit):Prop:=∀(β:Nat->V) (W:Wo) (c:Ev) (σ:St) (ds:w5) (vs:n_) (k:St->Hp->Prop),Rep K β W c σ->TrL W.Hf ds vs ->
 (cg ds c).sat (λ_ c'=>∀σ' W',Stp W.S W.Hf W.H W'.S W'.Hf W'.H->Rep K β W' c' σ'->k σ' W'.H)->g vs σ W.H k
noncomputable def R.toS {α:Type} (r:R α) (k:α->Ev->SR):SR:=match r with
 | .ok a c=>k a c
 | .bad=>.bad
section
variable {K:v9}{β:Nat->V}{W W':Wo}{c c' cI cO:Ev}{σ σ':St}{D:Ends}{Hf H:Hp}{o:O}{v:V}{fp:v6}
theorem Ga {r:R b}{k:b->Ev->SR}(h:zK K β W D (r.toS k)):r.sat λa c=>zK K β W D (k a c):=by
 cases r with
 | ok a c=>exact h
 | bad=>exact h
theorem zK.step (h:zK K β W D r) (st:Stp W.S W.Hf W.H W'.S W'.Hf W'.H):zK K β W' D r:=by
 cases r with
 | nx c=>exact λb d a R=>h _ _ (st.trans a) R
 | bk c=>exact λb d a R=>h _ _ (st.trans a) R
 | ct c=>exact λb d a R=>h _ _ (st.trans a) R
 | rt p c=>exact λb v d e a R r=>h _ v _ _ (st.trans a) R r
 | bad=>exact h
noncomputable def Bg (f g:Ev->SR):Ev->SR:=λc=>match f c with
 | .nx c=>g c
 | r=>r
theorem Ea (h1:MS K t f) (h2:MS K u g):MS K (A3i t u) (Bg f g):=by
 intro k W c i D R l
 refine h1 _ W c _ _ R ?_
 unfold Bg at l
 cases e:f c with
 | nx a=>rw[e]at l;exact λh j d b=>h2 _ _ _ _ D b (zK.step l d)
 | rt p a=>rw[e]at l;exact l
 | bk a=>rw[e]at l;exact l
 | ct a=>rw[e]at l;exact l
 | bad=>rw[e]at l;exact l
noncomputable def Dh:Ev->SR:=λc=>.nx c
theorem Li:MS K Bf5 Dh:=λb W c a D R l=>l _ W Stp.refl R
noncomputable def Ti:Ev->SR:=λ_=>.bad
theorem Bf4:MS K Az0 Ti:=λb W c a D R l=>l.elim
def Fq (f:o_):Ev->SR:=λc=>(f c).toS λ_ c=>.nx c
theorem A0b (h:ME K a f):MS K (A1f a) (Fq f):=λg W c i D R l =>
 h.toV _ W c _ _ R ((Ga l).mono λp k e v j d b _=>e _ _ d b)
def Df (f:o_):Ev->SR:=λc=>(f c).toS λp c=>.rt p c
theorem Mx (h:ME K a f):MS K (Bx6 a) (Df f):=λi W c n D R l =>
 h _ W c _ _ R ((Ga l).mono λp m e v j k d g b=>e _ v _ _ d g b)
def cIf (t:o7)(f g:Ev->SR):Ev->SR:=λc=>(t c).toS λb c=>if b=true then f c else g c
theorem Am8 (h:MT K d ft) (h1:MS K t f) (h2:MS K u g):MS K (Bw9 d t u) (cIf ft f g):=λk W c j D R l =>
 h
  _ W c _ _ R ((Ga l).mono λb n i m e a=>by
  cases b with
  | true=>exact h1 _ _ _ _ D a (zK.step i e)
  | false=>exact h2 _ _ _ _ D a (zK.step i e))
def cgN (i:Nat):p_:=λp c=>match p with
 | .o (.ls _ ds)=>.ok () (c.set i (some (.ls false ds)))
 | .o o=>.ok () (c.set i (some o))
 | .sl j=>(frz (.sl j) c).bind λd c=>.ok () (c.set i (some (.im d)))
theorem B2n (h:Wo.S ⟨Hf,H,clr W.fps i⟩ a):W.S a:=by
 obtain⟨j,h⟩:=h;exact⟨j,(Ei h).1⟩
theorem Bm : MG K (Hx i) (cgN i):=by
 intro w W c x p v u k R r s
 have f:∀{o:O} {g:Wo} {m:Ev},Rep K w g m x->o.own=false->RepN K g.Hf o v->Stp (orS W.S u) W.Hf W.H g.S _ g.H->g.H=W.H->(∀σ' W',Stp _ _ _ W'.S W'.Hf W'.H->Rep K _ W' _ σ'->k σ' W'.H)->k _ W.H:=λ{o g m} h n r l e s=>by
  rw[<- e]
  exact s _ ⟨g.Hf,g.H,clr _ i⟩ (l.less λa z=>B2n z) (h.setN r n)
 cases p with
 | sl j =>
  obtain⟨rfl,e⟩:=r
  obtain⟨d,m,g,e1,A,y,l,h,t⟩:=Eu R (show RepA K _ _ (.sl j) v from e) s.bnd
  exact f h (o:=.im d) rfl t (l.up λa z=>.inl z) y A
 | o o =>
  cases o with
  | im d=>exact f R rfl r.1.2 (Stp.refl.up λa z=>.inl z) rfl s
  | sc d=>exact f R rfl r.1.2 (Stp.refl.up λa z=>.inl z) rfl s
  | ty d=>exact f R rfl r.1.2 (Stp.refl.up λa z=>.inl z) rfl s
  | ls b ds =>
   refine s _ ⟨W.Hf,W.H,λj=>if j=i then u else W.fps j⟩ ⟨Same.refl _,λa o e _=>e,λa o e _ _ q=>q,λa z=>?_⟩ (R.setO r.1 r.2 rfl)
   obtain⟨j,z⟩:=z
   have z:a∈if j=i then u else W.fps j:=z
   split at z
   ·grind
   ·exact .inl (.inl ⟨j,z⟩)
noncomputable def Cu:w5->Ev->R Unit:=λds c=>match ds with
 | []=>.ok () c
 | _=>.bad
def Aw (g:p_)(gs:w5->Ev->R Unit):w5->Ev->R Unit:=λds c=>match ds with
 | d::ds=>(g (.o (.im d)) c).bind λ_ c=>gs ds c
 | []=>.bad
theorem Vp:MGs K Ax4 Cu:=λf W c e a b k R t s=>by
 cases a with
 | nil=>cases (t);exact⟨rfl,s _ W Stp.refl R⟩
 | cons d r=>trivial
theorem Hv (h1:MG K t g) (h2:MGs K u f):MGs K (My t u) (Aw g f):=λβ W c σ x vs k R j s=>by
 cases x with
 | nil=>trivial
 | cons d r =>
  obtain⟨v,l,rfl,m,n⟩:=j
  refine⟨v,l,rfl,h1 _ W c _ (.o (.im d)) v _ _ R ⟨⟨rfl,m⟩,λa z=>nomatch z⟩ (s.bnd.mono λ_ c1 o i W1 b q=>?_)⟩
  have b:=b.up (S2:=W.S) λa z=>by
   grind
  exact h2 _ _ _ _ r _ k q (TrL.same b.fz n) (o.mono λ_ c2 p w W2 e h=>p _ _ (b.trans e) h)
noncomputable def cgT (n:Nat) (gs:w5->Ev->R Unit):p_:=λp c=>match p with
 | .o (.im (.tuple ds))=>if ds.length=n then gs ds c else .bad
 | _=>.bad
theorem At5 (h:MGs K t d):MG K (At1 K n t) (cgT n d):=by
 intro u W c w p v q k R r s
 match p,r,s with
 | .o (.im (.tuple ds)),r,s =>
  obtain⟨⟨b,a,j,b,l,f⟩,_⟩:=r
  have s:(if ds.length=n then d _ c else .bad:U.R _).sat _:=s
  by_cases e:ds.length=n
  ·rw[if_pos e]at s
   refine⟨a,j,b,SqT.of (R.sub _ _ l),by rw[<- f.length];exact e,h _ W c _ _ _ k R f (s.mono λ_ y i m x o g=>i _ _ (o.up λa z=>.inl z) g)⟩
  ·rw[if_neg e]at s;trivial
 | .o (.im .none),r,s=>trivial
 | .o (.im (.bool _)),r,s=>trivial
 | .o (.im (.int _)),r,s=>trivial
 | .o (.im (.str _)),r,s=>trivial
 | .o (.im (.list _)),r,s=>trivial
 | .o (.im (.dict _)),r,s=>trivial
 | .o (.ls _ _),r,s=>exact s.elim
 | .o (.sc _),r,s=>exact s.elim
 | .o (.ty _),r,s=>exact s.elim
 | .sl _,r,s=>trivial
def Bq (f:o_)(g:p_):Ev->SR:=λc=>(f c).toS λp c=>(g p c).toS λ_ c=>.nx c
theorem Fj (h:ME K b f) (hg:MG K t g):MS K (Vr b t) (Bq f g):=λx W c o D R l =>
 h _ W c _ _ R ((Ga l).mono λp q j v s u k e i=>hg _ _ _ _ p v _ _ e i ((Ga j).mono λ_ r m n w a d=>m _ _ (k.trans a) d))
def A3h (J:It)(Hf:Hp)(ds:w5):Prop:=∀(i:Nat) (Hf' H:Hp),Same Hf Hf'->Same Hf' H->(i=ds.length->J.stop i H) /\
 ∀d,ds[i]?=some d->J.go i H/\∀x H',J.yld i H x H'->∃Hf2,Stp (λ_=>False) Hf' H (λ_=>False) Hf2 H'/\Same Hf2 H'/\Tr Hf2 d x
def MI (K:v9)(wi:TI)(fi:Ev->R (w5)):Prop:=∀(β:Nat->V) (W:Wo) (c:Ev) (σ:St) (k:It->Hp->Prop),Rep K β W c σ ->
 (fi c).sat (λds c'=>∀J W',Stp W.S W.Hf W.H W'.S W'.Hf W'.H->Rep K β W' c' σ->A3h J W'.Hf ds->k J W'.H)->wi σ W.H k
noncomputable def forL (g:p_) (body:Ev->SR):w5->Ev->SR
 | [],c=>.nx c
 | d::ds,c=>match g (.o (.im d)) c with
  | .bad=>.bad
  | .ok _ c=>match body c with
   | .nx c=>forL g body ds c
   | .ct c=>forL g body ds c
   | .bk c=>.nx c
   | .rt p c=>.rt p c
   | .bad=>.bad
def Lw (fi:Ev->R (w5))(g:p_)(body:Ev->SR):Ev->SR:=λc=>(fi c).toS λds c=>forL g body ds c
theorem Sy {a:Type}{l:List a} (h:i<l.length):l.drop i=l[i]::l.drop (i+1):=List.drop_eq_getElem_cons h
theorem Ae8 {V:TS} (hi:MI K X fi) (hg:MG K t g) (hb:MS K V body):MS K (Bz1 X t V) (Lw fi g body):=by
 intro C W c I D R l
 refine hi C W c I _ R ((Ga l).mono λk c1 l1 J T N R1 it=>?_)
 refine⟨λi m I H=>∃d y,d.H=H/\Rep K C d y I/\m=k.length-i/\i<=k.length/\Same T.Hf d.Hf/\zK K C d D (forL g body (k.drop i) y),⟨_,T,c1,rfl,R1,rfl,aM _,Same.refl _,zK.step l1 N⟩,?_⟩
 rintro i m I H ⟨d,y,rfl,O,rfl,hle,Y,h⟩
 obtain⟨A,Q⟩:=it i d.Hf d.H Y O.sub
 by_cases lt:i<k.length
 ·obtain⟨q1,q2⟩:=Q k[i] (bu lt)
  refine .inr ⟨q1,λM s=>∃d y,d.H=s/\Rep K C d y M/\Same T.Hf d.Hf/\zK K C d D (forL g body (k.drop (i+1)) y),λM s ⟨U,Z,e3,R3,s3,l3⟩=>⟨k.length-(i+1),by lia,U,Z,e3,R3,rfl,by lia,s3,l3⟩,λx s hy=>?_⟩
  obtain⟨n,j,G,tx⟩:=q2 x s hy
  have P:Stp d.S d.Hf d.H (Wo.S ⟨n,s,d.fps⟩) n s:=⟨j.fz,λa o e _=>j.kp a o e λz=>z,λa o e mu _ q=>j.nf a o e mu (λz=>z) q,λa z=>.inl z⟩
  rw[Sy lt]at h;unfold forL at h
  refine hg C ⟨n,s,d.fps⟩ y I (.o (.im _)) x _ _ (j.rep O G) ⟨⟨rfl,tx⟩,λa z=>nomatch z⟩ ?_
  cases eg:g _ _ with
  | bad=>rw[eg]at h;exact h.elim
  | ok u Z =>
   rw[eg]at h;intro σ3 U w S
   have w:=w.up λa z=>by
    rcases z with z | z
    ·exact z
    ·cases z
   have f:=P.trans w;have F := Y.trans f.fz
   refine hb _ _ _ _ _ S ?_
   cases ebd:body _ with
   | nx E=>simp only[ebd]at h;exact λr L b B=>⟨L,E,rfl,B,F.trans b.fz,zK.step h (f.trans b)⟩
   | ct E=>simp only[ebd]at h;exact λr L b B=>⟨L,E,rfl,B,F.trans b.fz,zK.step h (f.trans b)⟩
   | bk E=>simp only[ebd]at h;exact λr L b B=>h _ _ (f.trans b) B
   | rt p E=>simp only[ebd]at h;exact λr v L fp b B r4=>h _ v _ _ (f.trans b) B r4
   | bad=>simp only[ebd]at h;exact h.elim
 ·have e:i=k.length:=by lia
  subst e;rw[jA]at h;exact .inl ⟨A rfl,h _ _ Stp.refl O⟩
def Dl (g:p_)(ft:o7)(fe:o_):w5->w5->Ev->R (w5)
 | [],acc,c=>.ok acc c
 | d::ds,acc,c=>(g (.o (.im d)) c).bind λ_ c=>(ft c).bind λb c=>if b=true then (fe c).bind λp c=>(frz (nrm p) c).bind λy c=>Dl g ft fe ds (acc++[y]) c else Dl g ft fe ds acc c
def cIn (idx:p6)(c:Ev):Ev:=idx.map λo=>o.bind λi=>((c[i]?).join).map (O.flag true)
noncomputable def pairsOf:Nat->p6->q_
 | _,[]=>[]
 | k,none::r=>pairsOf (k+1) r
 | k,some i::r=>(k,i)::pairsOf (k+1) r
def cLC (idx:p6)(fi:Ev->R (w5))(g:p_)(ft:o7)(fe:o_):o_:=λc=>(fi c).bind λds c =>
 if ds.length<=16000000 then match Dl g ft fe ds [] (cIn idx c) with
 | .bad=>.bad
 | .ok acc cI=>match G4 cI (pairsOf 0 idx) c with
  | none=>.bad
  | some c=>.ok (.o (.ls false acc)) c
 else .bad
theorem A7x (h:l+1<=k):k-(l+1)+1=k-l:=by lia
theorem Ey {k i:Nat}:∀{l:Nat}{idx:p6},(k,i)∈pairsOf l idx->l<=k/\idx[k-l]?=some (some i)
 | l,[],h=>by cases h
 | l,none::r,h=>by
  obtain⟨q1,q2⟩:=Ey (l:=l+1) (idx:=r) h
  refine⟨eN q1,?_⟩
  rw[show k-l=(k-(l+1))+1 from (A7x q1).symm,dw];exact q2
 | l,some j::r,h=>by
  rcases aB.mp (show (k,i)∈(l,j)::pairsOf (l+1) r from h) with e | e
  ·cases e;exact⟨au _,by rw[dz];rfl⟩
  ·obtain⟨q1,q2⟩:=Ey (l:=l+1) (idx:=r) e
   refine⟨eN q1,?_⟩
   rw[show k-l=(k-(l+1))+1 from (A7x q1).symm,dw];exact q2
theorem Ow {k i:Nat}:∀{l:Nat}{idx:p6},idx[k]?=some (some i)->(k+l,i)∈pairsOf l idx
 | l,[],h=>by simp at h
 | l,none::r,h=>by
  cases k with
  | zero=>simp at h
  | succ k =>
   rw[dw]at h;have:=Ow (l:=l+1) (idx:=r) h
   rw[show k+1+l=k+(l+1) by lia];exact this
 | l,some j::r,h=>by
  cases k with
  | zero=>simp at h;subst h;rw[aO];exact .head _
  | succ k =>
   rw[dw]at h;have:=Ow (l:=l+1) (idx:=r) h
   rw[show k+1+l=k+(l+1) by lia];exact .tail _ this
theorem Q3:∀{l:Nat}{idx:p6},((pairsOf l idx).map (·.1)).Nodup
 | l,[]=>d_
 | l,none::r=>Q3 (l:=l+1) (idx:=r)
 | l,some j::r=>by
  show (l::(pairsOf (l+1) r).map (·.1)).Nodup
  rw[bH]
  refine⟨λh=>?_,Q3⟩
  obtain⟨⟨k,i⟩,h1,h2⟩:=aG.mp h;have:=(Ey h1).1;have h2:k=l:=h2;lia
theorem B4y (h:x.join=some o):x=some (some o):=by
 cases x with
 | none=>grind
 | some y=>simp_all
theorem Bn1 {k:Nat} (h:(cIn idx c)[k]?=some (some o)):∃i a,idx[k]?=some (some i)/\c[i]?=some (some a)/\o=a.flag true:=by
 unfold cIn at h;rw[bJ]at h;obtain⟨x,e,b⟩:=aW.mp h
 cases x with
 | none=>grind
 | some i =>
  obtain⟨a,f,d⟩:=aW.mp b
  grind
theorem A0s {k i:Nat} (h1:idx[k]?=some (some i)) (h2:a[i]?=some (some v)):(cst idx a)[k]?=some (some v):=by
 unfold cst
 grind
theorem Bp0 {idx:p6}(R:Rep K β W c σ)(hnd:((pairsOf 0 idx).map (·.2)).Nodup):Lent K W.Hf (pairsOf 0 idx) c σ (λk=>(((cst idx σ)[k]?).join).getD .non) (cIn idx c) (cst idx σ) where
 n1:=Q3
 n2:=hnd
 len:=by unfold cIn cst;rw[ao,ao]
 at_:=λk o h=>by
  obtain⟨i,o',h1,h2,rfl⟩:=Bn1 h;obtain⟨v,e,r,_⟩:=R.get i o' h2;have hs:=A0s h1 e
  have one:∀j,(k,j)∈pairsOf 0 idx->j=i:=λj hj=>by
   have:=(Ey hj).2;rw[eZ,h1]at this;cases this;rfl
  have nol:Il c[i]?=false->∀j,(k,j)∈pairsOf 0 idx->Il c[j]?=false:=λq j hj=>by rw[one j hj];exact q
  cases o' with
  | im d=>exact .inl ⟨rfl,nol (by rw[h2];rfl),v,hs,r.2⟩
  | sc d=>exact .inl ⟨rfl,nol (by rw[h2];rfl),v,hs,r.2⟩
  | ty d=>exact .inl ⟨rfl,nol (by rw[h2];rfl),v,hs,r.2⟩
  | ls b ds=>exact .inr ⟨i,b,ds,v,Ow (l:=0) h1,h2,rfl,e,hs,by rw[hs];rfl⟩
theorem Bk0 (hnd:((pairsOf 0 idx).map (·.2)).Nodup) (hg:MG K t g) (ht:MT K tc ft) (he:ME K te fe)
 (st1:Stp W.S W.Hf W.H W1.S W1.Hf W1.H) (R1:Rep K β W1 c1 σ)
 (it:∀(i:Nat) (h:Wo),Stp (Wo.S ⟨W1.Hf,W1.H,U3 (pairsOf 0 idx) c1 W1.fps⟩) W1.Hf W1.H h.S h.Hf h.H->Same h.Hf h.H->(i=ds.length->J.stop i h.H) /\
  ∀d,ds[i]?=some d->J.go i h.H/\∀x E,J.yld i h.H x E->∃s,Stp (λ_=>False) h.Hf h.H (λ_=>False) s E/\Same s E/\Tr s d x)
 (s1:(if ds.length<=16000000 then match Dl g ft fe ds [] (cIn idx c1) with
  | .bad=>.bad
  | .ok f I=>match G4 I (pairsOf 0 idx) c1 with
   | none=>.bad
   | some c=>.ok (.o (.ls false f)) c
  else .bad:R PV).sat λp c'=>∀v j w,Stp W.S W.Hf W.H (orS j.S w) j.Hf j.H->Rep K β j c' σ->Eg K j σ p v w->Q v j.H):tLC idx (λ_ H k=>k J H) t tc te σ W1.H Q:=by
 unfold tLC
 dsimp only
 by_cases hl:ds.length<=16000000
 ·rw[if_pos hl]at s1
  have L:=Bp0 (idx:=idx) R1 hnd
  let C:Nat->V:=λk=>(((cst idx σ)[k]?).join).getD .non
  let F:Wo:=⟨W1.Hf,W1.H,U3 (pairsOf 0 idx) c1 W1.fps⟩
  let B:U.R (w5)->Prop:=λr=>match r with
   | .bad=>False
   | .ok f I=>match G4 I (pairsOf 0 idx) c1 with
    | none=>False
    | some c=>∀v j w,Stp W.S W.Hf W.H (orS j.S w) j.Hf j.H->Rep K β j c σ->Eg K j σ (.o (.ls false f)) v w->Q v j.H
  have s2:B (Dl g ft fe ds [] (cIn idx c1)):=by
   show match Dl g ft fe ds [] (cIn idx c1) with
    | .bad=>False
    | .ok f I=>match G4 I (pairsOf 0 idx) c1 with
     | none=>False
     | some c=>∀v j w,Stp W.S W.Hf W.H (orS j.S w) j.Hf j.H->Rep K β j c σ->Eg K j σ (.o (.ls false f)) v w->Q v j.H
   cases e1:Dl g ft fe ds [] (cIn idx c1) with
   | bad=>rw[e1]at s1;exact s1.elim
   | ok f I =>
    simp only[e1]at s1
    show match G4 I (pairsOf 0 idx) c1 with
     | none=>False
     | some c=>∀v j w,Stp W.S W.Hf W.H (orS j.S w) j.Hf j.H->Rep K β j c σ->Eg K j σ (.o (.ls false f)) v w->Q v j.H
    cases e2:G4 I (pairsOf 0 idx) c1 with
    | none=>simp only[e2]at s1;exact s1.elim
    | some D=>simp only[e2]at s1;exact s1
  refine⟨λi m A S H=>∃h D f,h.H=H/\Rep K C h D A/\m=ds.length-i/\i<=ds.length/\S.length<=i/\Stp F.S F.Hf F.H h.S h.Hf h.H/\TrL h.Hf f S/\B (Dl g ft fe (ds.drop i) f D),
   ⟨_,F,cIn idx c1,[],rfl,(L.rep R1),rfl,aM _,au _,Stp.refl,rfl,s2⟩,?_⟩
  rintro i m A S H ⟨h,D,f,rfl,R2,rfl,hle,hvs,N,ta,l⟩
  obtain⟨P,hgo⟩:=it i h N R2.sub
  by_cases lt:i<ds.length
  ·obtain⟨q1,q2⟩:=hgo ds[i] (bu lt)
   refine .inr ⟨q1,aK (bD hvs (aK lt hl)) (by decide),λA S E=>∃h D f,h.H=E/\Rep K C h D A/\S.length<=i+1/\Stp F.S F.Hf F.H h.S h.Hf h.H/\TrL h.Hf f S/\B (Dl g ft fe (ds.drop (i+1)) f D),
    λA acc' E ⟨O,X,Y,e3,R3,h3,n,t3,f3⟩=>⟨ds.length-(i+1),by lia,O,X,Y,e3,R3,rfl,by lia,h3,n,t3,f3⟩,λx E hy=>?_⟩
   obtain⟨s,n,sub3,tx⟩:=q2 x E hy
   have stx:Stp h.S h.Hf h.H (Wo.S ⟨s,E,h.fps⟩) s E:=⟨n.fz,λa o e _=>n.kp a o e λz=>z,λa o e mu _ q=>n.nf a o e mu (λz=>z) q,λa z=>.inl z⟩
   rw[Sy lt]at l;unfold Dl at l
   refine hg C ⟨s,E,h.fps⟩ D A (.o (.im ds[i])) x [] _ (n.rep R2 sub3) ⟨⟨rfl,tx⟩,λa z=>nomatch z⟩ ?_
   cases eg:g (.o (.im ds[i])) D with
   | bad=>rw[eg]at l;exact l.elim
   | ok u X =>
    rw[eg]at l
    have l:B ((ft X).bind λb c=>if b=true then (fe c).bind λp c=>(frz (nrm p) c).bind λy c=>Dl g ft fe (ds.drop (i+1)) (f++[y]) c else Dl g ft fe (ds.drop (i+1)) f c):=l
    intro σ3 O G R4
    have G:=G.up (S2:=h.S) λa z=>by
     rcases z with z | z
     ·exact z
     ·cases z
    refine ht C O X σ3 _ R4 ?_
    cases et:ft X with
    | bad=>rw[et]at l;exact l.elim
    | ok b c4 =>
     rw[et]at l;intro T st5 R5;have M:Stp F.S F.Hf F.H T.S T.Hf T.H:=N.trans (stx.trans (G.trans st5));have Z:TrL T.Hf f S:=TrL.same (stx.trans (G.trans st5)).fz ta
     cases b with
     | false=>rw[if_neg (by decide)];exact⟨T,c4,f,rfl,R5,by lia,M,Z,l⟩
     | true =>
      rw[if_pos rfl]
      have l:B ((fe c4).bind λp c=>(frz (nrm p) c).bind λy c=>Dl g ft fe (ds.drop (i+1)) (f++[y]) c):=l
      refine he.toV C T c4 σ3 _ R5 ?_
      cases ee:fe c4 with
      | bad=>rw[ee]at l;exact l.elim
      | ok p c5 =>
       rw[ee]at l
       have l:B ((frz (nrm p) c5).bind λy c=>Dl g ft fe (ds.drop (i+1)) (f++[y]) c):=l
       intro y W5 st6 R6 r6
       have fz:(frz (nrm p) c5).sat λ_ _=>True:=by
        cases ef:frz (nrm p) c5 with
        | bad=>rw[ef]at l;exact l.elim
        | ok d c=>trivial
       obtain⟨d,c6,W6,e6,_,eH,st7,R7,t7⟩:=Eu R6 r6 fz;rw[e6]at l
       refine⟨W6,c6,f++[d],eH,R7,by rw[aH,iD];lia,M.trans (st6.trans st7),(TrL.same (st6.trans st7).fz Z).app (TrL.one t7),l⟩
  ·have e:i=ds.length:=by lia
   subst e;rw[jA]at l
   refine .inl ⟨P rfl,λp hp=>?_⟩
   have l:match G4 D (pairsOf 0 idx) c1 with
    | none=>False
    | some c=>∀v j w,Stp W.S W.Hf W.H (orS _ _) _ _->Rep K _ j c _->Eg K _ _ _ v _->Q v _:=l
   cases eb:G4 D (pairsOf 0 idx) c1 with
   | none=>simp only[eb]at l
   | some cO =>
    simp only[eb]at l
    obtain⟨O,e1,e2,R3,n,_⟩:=L.back (fp:=[]) R1 R2 (N.less λa z=>by
     rcases z with z | z
     ·exact z
     ·cases z) eb (λk i b ds v hm _ hv=>by
      have:=(Ey hm).2;rw[eZ]at this
      rw[A0s this hv];rfl) λa z=>nomatch z
    have n:Stp W1.S W1.Hf W1.H O.S O.Hf O.H:=by
     rw[e1,e2];exact n.less λa z=>.inl z
    rw[<- e2]at hp ⊢
    exact New.lst (New.of R3 λv j w st R' rp=>l v _ _ (st1.trans (n.trans st)) R' rp) R3.sub (by rw[e1];exact ta) hp
 ·rw[if_neg hl]at s1;exact s1.elim
theorem Ri (d:((pairsOf 0 idx).map (·.2)).Nodup) (hi:MI K f fi) (hg:MG K t g) (ht:MT K h ft) (he:ME K j fe) :
 ME K (tLC idx f t h j) (cLC idx fi g ft fe):=by
 intro n W c o Q R s
 refine hi _ W c _ _ R (s.bnd.mono λq p l J u a k m=>?_)
 exact Bk0 d hg ht he a k (λi r e b=>m i _ _ e.fz b) l
end
inductive FR where
 | ret (o:O) (as:List O)
 | bad
abbrev n6:=List O->FR
noncomputable def resolve (p:PV) (c:Ev):Option (O×Ev):=match p with
 | .o (.ls _ ds)=>some (.ls false ds,c)
 | .o o=>some (o,c)
 | .sl i=>match c[i]? with
  | some (some (.ls false ds))=>some (.ls false ds,c.set i none)
  | some (some (.im d))=>some (.im d,c)
  | _=>none
noncomputable def Hw:List O->Ev->Option (List O)
 | [],_=>some []
 | .ls true _::r,some (.ls true ds)::c=>(Hw r c).map (.ls true ds::·)
 | .ls _ _::_,_=>none
 | o::r,_::c=>(Hw r c).map (o::·)
 | _::_,[]=>none
def A5x (as:List O)(p:PV)(c:Ev):FR:=match resolve p c with
 | none=>.bad
 | some (o,c)=>match Hw as c with
  | none=>.bad
  | some as'=>.ret o as'
def Ef (n N:Nat)(body:Ev->SR):n6:=λas=>if as.length=n then match body (as.map some++List.replicate (N-n) none) with
 | .nx c=>A5x as (.o (.im .none)) c
 | .rt p c=>A5x as p c
 | _=>.bad
 else .bad
def spP (K:v9)(F:n6):Sp:=λvs H Q _=>∃(β:Nat->V) (W:Wo) (as:List O),W.H=H/\as.length=vs.length/\Rep K β W (as.map some) (vs.map some)/\match F as with
 | .bad=>False
 | .ret o as'=>∀v W' fp,Stp W.S W.Hf W.H (orS W'.S fp) W'.Hf W'.H->Rep K β W' (as'.map some) (vs.map some)->RepO K W'.Hf W'.H o v fp->(∀a∈fp,¬ W'.S a)->Q v W'.H
section
variable {K:v9}{β:Nat->V}{W W':Wo}{c c' cO:Ev}{σ:St}{D:Ends}{Hf H:Hp}{o:O}{v:V}{fp:v6}
theorem Qt:∀{as:List O}{c:Ev}{as':List O},Hw as c=some as'->as'.length=as.length/\∀(i:Nat) (o':O),as'[i]?=some o'->(o'.own=false/\as[i]?=some o')\/(∃ds ds',o'=.ls true ds'/\as[i]?=some (.ls true ds)/\c[i]?=some (some (.ls true ds')))
 | [],c,as',e=>by cases (show some []=some as' from e);exact⟨rfl,λi o' h=>by simp at h⟩
 | o::r,[],as',e=>by
  cases o with
  | ls b ds=>cases b <;> cases e
  | im d=>cases e
  | sc d=>cases e
  | ty d=>cases e
 | o::r,x::c,as',e=>by
  have go:∀o1:O,(Hw r c).map (o1::·)=some as'->((o1.own=false/\o1=o)\/(∃ds ds',o1=.ls true ds'/\o=.ls true ds/\x=some (.ls true ds'))) ->
   as'.length=(o::r).length/\∀(i:Nat) (o':O),as'[i]?=some o'->(o'.own=false/\(o::r)[i]?=some o')\/(∃ds ds',o'=.ls true ds'/\(o::r)[i]?=some (.ls true ds)/\(x::c)[i]?=some (some (.ls true ds'))):=λo1 e1 h1=>by
   obtain⟨t,e2,rfl⟩:=aW.mp e1;obtain⟨l,g⟩:=Qt e2
   refine⟨by rw[bM,bM,l],λi o' h=>?_⟩
   cases i with
   | zero =>
    cases (show some o1=some o' from h)
    rcases h1 with ⟨z1,z2⟩ | ⟨ds,ds',z1,z2,z3⟩
    ·exact .inl ⟨z1,by rw[z2];rfl⟩
    ·exact .inr ⟨ds,ds',z1,by rw[z2];rfl,by rw[z3];rfl⟩
   | succ i=>exact g i o' (by simpa using h)
  cases o with
  | ls b ds =>
   cases b with
   | false=>cases e
   | true =>
    match x,e with
    | some (.ls true ds'),e=>exact go (.ls true ds') e (.inr ⟨ds,ds',rfl,rfl,rfl⟩)
    | some (.ls false ds'),e=>cases e
    | some (.im _),e=>cases e
    | some (.sc _),e=>cases e
    | some (.ty _),e=>cases e
    | none,e=>cases e
  | im d=>exact go (.im d) e (.inl ⟨rfl,rfl⟩)
  | sc d=>exact go (.sc d) e (.inl ⟨rfl,rfl⟩)
  | ty d=>exact go (.ty d) e (.inl ⟨rfl,rfl⟩)
theorem Vy (R:Rep K β W c σ) (r:Eg K W σ p v fp) (e:resolve p c=some (o,c')) :
 ∃W2 fp2,W2.Hf=W.Hf/\W2.H=W.H/\Rep K β W2 c' σ/\RepO K W2.Hf W2.H o v fp2/\(∀a∈fp2,¬ W2.S a)/\∀a,orS W2.S fp2 a->orS W.S fp a:=by
 cases p with
 | o f =>
  have g:o=f.flag false/\c'=c:=by
   cases f with
   | ls b h=>cases e;exact⟨rfl,rfl⟩
   | im d=>cases e;exact⟨rfl,rfl⟩
   | sc d=>cases e;exact⟨rfl,rfl⟩
   | ty d=>cases e;exact⟨rfl,rfl⟩
  obtain⟨rfl,rfl⟩:=g
  refine⟨W,fp,rfl,rfl,R,?_,r.2,λa z=>z⟩
  cases f with
  | ls b h=>exact r.1
  | im d=>exact r.1
  | sc d=>exact r.1
  | ty d=>exact r.1
 | sl i =>
  obtain⟨rfl,n⟩:=r;unfold resolve at e
  cases ec:c[i]? with
  | none=>simp_all
  | some x =>
   cases x with
   | none=>grind
   | some f =>
    obtain⟨v',g,k,_⟩:=R.get i _ ec
    cases (show some _=some _ from g.symm.trans n)
    cases f with
    | sc d=>simp_all
    | ty d=>simp_all
    | im d =>
     simp only[ec]at e
     cases e
     exact⟨W,[],rfl,rfl,R,⟨rfl,k.2⟩,(λa z=>by cases z),λa z=>z⟩
    | ls b h =>
     cases b with
     | true=>simp_all
     | false =>
      simp only[ec]at e
      cases e
      refine⟨⟨W.Hf,W.H,clr _ i⟩,W.fps i,rfl,rfl,R.drop i,k,λa q ⟨j,m⟩=>?_,λa z=>?_⟩
      ·obtain⟨s,l⟩:=Ei m
       exact l (R.dis j i a s q)
      ·rcases z with z | z
       ·exact .inl (B2n z)
       ·exact .inl ⟨i,z⟩
theorem El {b a:Type}{l:List b}{f:b->a}{i:Nat}{y:a}(h:(l.map f)[i]?=some y):∃x,l[i]?=some x/\f x=y:=by
 grind
theorem A9g {vs:n_} (t:Rep K β z (p.map some) (vs.map some)) (R:Rep K β W c σ) (S:Same z.Hf W.Hf) (e:Hw p c=some k) :
 ∃W2:Wo,W2.Hf=W.Hf/\W2.H=W.H/\Rep K β W2 (k.map some) (vs.map some)/\∀a,W2.S a->W.S a:=by
 obtain⟨E,G⟩:=Qt e
 let f:Nat->v6:=λi=>if Il ((k.map some)[i]?) then W.fps i else []
 have g:∀i a,a∈f i->a∈W.fps i:=λi a h=>by
  grind
 have m:p.length=vs.length:=by have:=t.len;rwa [ao,ao]at this
 refine⟨⟨W.Hf,W.H,f⟩,rfl,rfl,⟨R.sub,by rw[ao,ao,E,m],λi o h=>?_,λi j a u w=>R.dis i j a (g i a u) (g j a w),λi a h=>R.own i a (g i a h)⟩,λa ⟨i,h⟩=>⟨i,g i a h⟩⟩
 obtain⟨o',u,w⟩:=El h
 cases w
 rcases G i o u with ⟨n,q⟩ | ⟨A,C,rfl,J,D⟩
 ·obtain⟨v,s,r,_⟩:=t.get i o (by rw[bJ,q];rfl)
  have x:f i=[]:=by
   show (if Il _ then W.fps i else [])=[]
   rw[h]
   cases o with
   | ls b A=>exact nomatch n
   | im d=>rfl
   | sc d=>rfl
   | ty d=>rfl
  refine⟨v,s,?_,?_⟩
  ·show RepO K W.Hf W.H o v (f i)
   rw[x]
   cases o with
   | ls b A=>exact nomatch n
   | im d=>exact⟨rfl,RepN.same S r.2⟩
   | sc d=>exact⟨rfl,RepN.same S r.2⟩
   | ty d=>exact⟨rfl,RepN.same S r.2⟩
  grind
 ·obtain⟨v,s,r,B⟩:=t.get i _ (by rw[bJ,J];rfl)
  obtain⟨H,F,I,y⟩:=R.get i _ D;have l:=y rfl;rw[<- (B rfl)]at l;subst l
  refine⟨H,s,?_,B⟩
  have x:f i=W.fps i:=by
   show (if Il _ then W.fps i else [])=_
   rw[h];rfl
  show RepO K _ _ _ _ (f i)
  rw[x];exact I
theorem Az2 (h:MS K T body) (hs:spP K (Ef n N.length body) vs H Q E):T { nx:=λ_ H'=>Q .non H',rt:=Q } (start N vs) H:=by
 obtain⟨u,W,j,rfl,B,m,b⟩:=hs;unfold Ef at b
 by_cases hn:j.length=n
 ·rw[if_pos hn]at b
  let D:Ev:=j.map some++List.replicate (N.length-n) none
  have R:Rep K u W D (start N vs):=by
   refine⟨m.sub,?_,λi o e=>?_,m.dis,m.own⟩
   ·show (j.map some++List.replicate (N.length-n) none).length=(vs.map some++List.replicate (N.length-vs.length) none).length
    rw[aH,aH,ao,ao,j0,j0,<- B,hn]
   ·have e:(j.map some++List.replicate (N.length-n) none)[i]?=some (some o):=e
    by_cases li:i<j.length
    ·rw[dB (by rw[ao];exact li)]at e
     obtain⟨v,w,r⟩:=m.get i o e
     refine⟨v,?_,r⟩
     show (vs.map some++List.replicate (N.length-vs.length) none)[i]?=_
     rw[dB (by rw[ao,<- B];exact li)];exact w
    ·rw[dM (by rw[ao];exact ji li),List.getElem?_replicate]at e
     split at e <;> cases e
  refine h u W D (start N vs) _ R ?_
  have l:∀p f c v d g,(match A5x j p f with
   | .bad=>False
   | .ret o t=>∀v W' g,Stp W.S W.Hf W.H (orS W'.S g) W'.Hf W'.H->Rep K u W' (t.map some) (vs.map some)->RepO K W'.Hf W'.H o v g->(∀a∈g,¬ W'.S a)->Q v W'.H) ->
   Stp W.S W.Hf W.H (orS d.S g) d.Hf d.H->Rep K u d f c->Eg K d c p v g->Q v d.H:=λp f c v d g b k s x=>by
   unfold A5x at b
   cases er:resolve p f with
   | none=>simp only[er]at b
   | some q =>
    obtain⟨o,U⟩:=q;simp only[er]at b
    cases ea:Hw j U with
    | none=>simp only[ea]at b
    | some t =>
     simp only[ea]at b;obtain⟨W2,S,w,C,I,J,L,M⟩:=Vy s x er
     obtain⟨O,A,y,P,F⟩:=A9g m I (by rw[w];exact k.fz) ea
     rw[show d.H=O.H by rw[y,C]]
     refine b v _ _ ?_ P (by rw[A,y];exact J) λa G z=>L a G (F a z)
     rw[A,y,w,C]
     exact k.less λa z=>M a (by
      rcases z with z | z
      ·exact .inl (F a z)
      ·exact .inr z)
  cases eb:body _ with
  | nx f =>
   rw[show body _=.nx _ from eb]at b
   exact λc d k s=>l _ _ _ _ _ _ b (k.less λa z=>by
    rcases z with z | z
    ·exact z
    ·cases z) s ⟨⟨rfl,rfl⟩,λa z=>nomatch z⟩
  | rt p f =>
   rw[show body _=.rt p _ from eb]at b
   exact λc v d g k s x=>l p _ _ v _ _ b k s x
  | bk f=>rw[show body _=.bk _ from eb]at b;exact b.elim
  | ct f=>rw[show body _=.ct _ from eb]at b;exact b.elim
  | bad=>rw[show body _=.bad from eb]at b;exact b.elim
 ·rw[if_neg hn]at b;exact b.elim
theorem A8r (hs:spP K (Ef n N body) vs H Q E):vs.length=n:=by
 obtain⟨d,W,c,b,e,f,a⟩:=hs;unfold Ef at a
 grind
def An0 (c:Ev):List PV->Option (List O)
 | []=>some []
 | .o o::r=>(An0 c r).map (o::·)
 | .sl i::r=>match c[i]? with
  | some (some o)=>(An0 c r).map (o.flag true::·)
  | _=>none
noncomputable def slots:List PV->p6
 | []=>[]
 | .o _::r=>none::slots r
 | .sl i::r=>some i::slots r
noncomputable def ndB:List Nat->Bool
 | []=>true
 | x::r=>!r.contains x&&ndB r
theorem Ba0:∀{l:List Nat},ndB l=true->l.Nodup
 | [],_=>d_
 | x::r,h=>by
  obtain⟨h1,h2⟩:=aA.mp (show (!r.contains x&&ndB r)=true from h)
  rw[bH]
  exact⟨λz=>by simp[z]at h1,Ba0 h2⟩
def Xh (F:n6)(ps:List PV)(c:Ev):R PV:=match An0 c ps with
 | none=>.bad
 | some as=>if ndB ((pairsOf 0 (slots ps)).map (·.2))=true then match F as with
  | .bad=>.bad
  | .ret o as'=>match G4 (as'.map some) (pairsOf 0 (slots ps)) c with
   | none=>.bad
   | some c=>.ok (.o o) c
  else .bad
def cF (F:n6)(fa:o5):o_:=λc=>(fa c).bind λps c=>Xh F ps c
theorem Xy {Hf:Hp}:∀{ps:List PV}{vs:n_}{as:List O},An0 c ps=some as->zQ K Hf σ ps vs->as.length=vs.length/\∀(k:Nat) (o:O),as[k]?=some o->∃v,vs[k]?=some v /\
 ((RepN K Hf o v/\(slots ps)[k]?=some none)\/∃i o',(slots ps)[k]?=some (some i)/\c[i]?=some (some o')/\o=o'.flag true/\σ[i]?=some (some v))
 | [],vs,as,e,h=>by cases (show some []=some as from e);cases (show vs=[] from h);exact⟨rfl,λk o h=>by simp at h⟩
 | .o o1::r,_,as,e,⟨v,vr,rfl,h,t⟩=>by
  obtain⟨l,e2,rfl⟩:=aW.mp (show (An0 c r).map (o1::·)=some as from e)
  obtain⟨hl,hg⟩:=Xy e2 t
  refine⟨by rw[bM,bM,hl],λk o hk=>?_⟩
  cases k with
  | zero=>cases (show some o1=some o from hk);exact⟨v,rfl,.inl ⟨h,rfl⟩⟩
  | succ k=>exact hg k o (by simpa using hk)
 | .sl i::r,_,as,e,⟨v,vr,rfl,h,t⟩=>by
  unfold An0 at e
  cases ec:c[i]? with
  | none=>simp only[ec]at e;cases e
  | some x =>
   cases x with
   | none=>simp only[ec]at e;cases e
   | some o1 =>
    simp only[ec]at e;obtain⟨l,e2,rfl⟩:=aW.mp e;obtain⟨hl,hg⟩:=Xy e2 t
    refine⟨by rw[bM,bM,hl],λk o hk=>?_⟩
    cases k with
    | zero=>cases (show some (o1.flag true)=some o from hk);exact⟨v,rfl,.inr ⟨i,o1,rfl,ec,rfl,h⟩⟩
    | succ k=>exact hg k o (by simpa using hk)
theorem Tp {Hf:Hp}:∀{ps:List PV}{vs:n_}{k i:Nat}{v:V},zQ K Hf σ ps vs->(slots ps)[k]?=some (some i)->σ[i]?=some (some v)->vs[k]?=some v
 | [],vs,k,i,v,h,e,q=>by simp[slots]at e
 | .o _::r,_,k,i,v,⟨v1,vr,rfl,h,t⟩,e,q=>by
  cases k with
  | zero=>simp[slots]at e
  | succ k=>have:=Tp (k:=k) t (by simpa[slots] using e) q;simpa using this
 | .sl j::r,_,k,i,v,⟨v1,vr,rfl,h,t⟩,e,q=>by
  cases k with
  | zero =>
   have:j=i:=by simpa[slots] using e
   subst this
   cases (show some (some v1)=some (some v) from (show σ[j]?=some (some v1) from h).symm.trans q)
   rfl
  | succ k=>have:=Tp (k:=k) t (by simpa[slots] using e) q;simpa using this
theorem At2 (g:Rep K β W1 c1 σ) (R:zQ K W1.Hf σ ps vs)
 (s1:(Xh F ps c1).sat λp c'=>∀v e y,Stp W1.S W1.Hf W1.H (orS e.S y) e.Hf e.H->Rep K β e c' σ->Eg K e σ p v y->(∀j a,a∈W1.fps j->some j∉slots ps->e.H a=W1.H a)->Q v e.H):spP K F (vs++[]) W1.H Q E:=by
 unfold Xh at s1
 cases ea:An0 c1 ps with
 | none=>simp only[ea]at s1;exact s1.elim
 | some M =>
  simp only[ea]at s1
  by_cases nd:ndB ((pairsOf 0 (slots ps)).map (·.2))=true
  ·rw[if_pos nd]at s1
   obtain⟨P,hg⟩:=Xy ea R
   let m:=pairsOf 0 (slots ps)
   let l:Nat->V:=λk=>(vs[k]?).getD .non
   have L:Lent K W1.Hf m c1 σ l (M.map some) (vs.map some):=by
    refine⟨Q3,Ba0 nd,by rw[ao,ao];exact P,λk o B=>?_⟩
    obtain⟨o1,T,h2⟩:=El B
    cases h2
    obtain⟨v,u,q⟩:=hg k o T
    have c:(vs.map some)[k]?=some (some v):=by rw[bJ,u];rfl
    rcases q with ⟨I,t⟩ | ⟨i,H,t,n,rfl,G⟩
    ·refine .inl ⟨?_,λi Z=>?_,v,c,I⟩
     ·cases o with
      | ls b D=>exact I.elim
      | im d=>rfl
      | sc d=>rfl
      | ty d=>rfl
     ·have:=(Ey Z).2
      rw[eZ,t]at this;cases this
    ·have f:Il c1[i]?=false->∀j,(k,j)∈m->Il c1[j]?=false:=λq j z=>by
      have:=(Ey z).2;rw[eZ,t]at this;cases this;exact q
     obtain⟨v',w,r,_⟩:=g.get i H n
     cases (show some _=some _ from w.symm.trans G)
     cases H with
     | im d=>exact .inl ⟨rfl,f (by rw[n];rfl),v,c,r.2⟩
     | sc d=>exact .inl ⟨rfl,f (by rw[n];rfl),v,c,r.2⟩
     | ty d=>exact .inl ⟨rfl,f (by rw[n];rfl),v,c,r.2⟩
     | ls b D=>exact .inr ⟨i,b,D,v,Ow t,n,rfl,G,c,by show vs[k]?.getD _=v;rw[u];rfl⟩
   refine⟨l,⟨W1.Hf,W1.H,U3 m _ _⟩,M,rfl,by rw[cA];exact P,by rw[cA];exact(L.rep g),?_⟩
   cases ef:F _ with
   | bad=>simp only[ef]at s1;exact s1.elim
   | ret o A =>
    simp only[ef]at s1;intro v e y J U W X
    cases eb:G4 (A.map some) m c1 with
    | none=>simp only[m]at eb;simp only[eb]at s1;exact s1.elim
    | some cO =>
     have h:=eb;simp only[m]at h;simp only[h]at s1
     obtain⟨W2,w,x,R2,C,Y⟩:=L.back g U J eb (λk i b D v hm hc u=>by
      have:=(Ey hm).2;rw[eZ]at this
      show vs[k]?.getD _=v
      rw[Tp R this u];rfl) X
     rw[<- x]
     refine s1 v _ _ (by rw[w,x];exact C) R2 ⟨by rw[w,x];exact W,Y⟩ λj a N z=>?_
     obtain⟨_,ob,s,_⟩:=g.own j a N;rw[x,s]
     refine J.kp a _ s λ⟨k,B⟩=>z ?_
     obtain⟨i,q1,_,S⟩:=Gw B
     cases g.dis i j a S N
     have:=(Ey q1).2;exact bz this
  ·rw[if_neg nd]at s1;exact s1.elim
theorem Tc (d:Rep K β W1 c1 σ) (e:zQ K W1.Hf σ ps vs)
 (s1:(Xh F ps c1).sat λp c'=>∀v a b,Stp W1.S W1.Hf W1.H (orS a.S b) a.Hf a.H->Rep K β a c' σ->Eg K a σ p v b->Q v a.H):spP K F (vs++[]) W1.H Q E :=
 At2 d e (s1.mono λp c' k v a b c R r _=>k v _ _ c R r)
theorem Hq (ha:MA K t fa):ME K (M6 (spP K F) [] E t) (cF F fa):=by
 intro j W c h Q R s
 refine ha _ W c _ _ R (s.bnd.mono λl m f u i a e d=>?_)
 exact Tc e d (f.mono λp n k v o q g b r=>k v _ _ (a.trans g) b r)
end
section
variable {K:v9}{X:Cx}{Hf H:Hp}{Q:VK}
theorem OpR.or (h:OpR X f r) (h':OpR X f b):OpR X f (λx y H Q=>r x y H Q\/b x y H Q):=by
 intro c s e H x y v u Q I d a q
 rcases q with q | q
 ·exact h _ s _ H x y v u Q I d a q
 ·exact h' _ s _ H x y v u Q I d a q
theorem CallR.or (h:CallR X f r) (h':CallR X f b):CallR X f (λxs H Q=>r xs H Q\/b xs H Q):=by
 intro c s d H xs e Q I a q
 rcases q with q | q
 ·exact h _ s _ H _ _ Q I a q
 ·exact h' _ s _ H _ _ Q I a q
theorem Dj (h:RdV Hf H (.int i) v):v=.int i:=h
theorem Hg (h:RdV Hf H (.str x) v):v=.str x:=h
theorem Q4 (h:RdV Hf H (.bool b) v):v=.bl b:=h
theorem Ry (h:RdV Hf H .none v):v=.non:=h
theorem Ia (s:Same Hf H) (h:RdV Hf H (.tuple ds) v):∃a b,v=.ref a/\H a=some (.tup b)/\TrL Hf ds b:=by
 obtain⟨a,b,e,q,t⟩:=(show Tr _ _ v from h)
 exact⟨a,b,e,s _ _ q,t⟩
theorem Fg (h:RdV Hf H (.list ds) v):∃a vs,v=.ref a/\H a=some (.lst vs)/\TrL Hf ds vs:=h
theorem New.int (h:New K Hf H (.im (.int i)) Q) (s:Same Hf H):Q (.int i) H:=h.same s rfl
theorem New.bl (h:New K Hf H (.im (.bool b)) Q) (s:Same Hf H):Q (.bl b) H:=h.same s rfl
theorem New.str (h:New K Hf H (.im (.str x)) Q) (s:Same Hf H):Q (.str x) H:=h.same s rfl
theorem New.tupS (h:New K Hf H (.im (.tuple ds)) Q) (s:Same Hf H) (t:TrL Hf ds vs) (S:Same H H') (hp:H' p=some (.tup vs)):Q (.ref p) H':=by
 have c:Same _ (upd Hf p (.tup vs)):=λb u e=>by
  unfold upd
  split
  ·have:=S b u (s b u e)
   simp_all
  grind
 refine h _ _ _ [] ⟨c,λa o e _=>S a o e,λa o e d _ q=>?_,λa z=>nomatch z⟩ (λb u e=>?_) ⟨rfl,p,vs,rfl,Ax,TrL.same c t⟩
 ·unfold upd
  split
  ·rename_i z
   have:=S a o e;rw[z,hp]at this
   cases this
   trivial
  lia
 ·unfold upd at e
  split at e
  ·simp_all
  ·exact S b u (s b u e)
def Bz0:R2:=λx y H Q=>(rI0 (λi j=>.int (i+j)) x y H Q\/(∃i j,x=.str i/\y=.str j/\i.length+j.length<=sizeLine/\Q (.str (i++j)) H))\/(B4i x y H Q\/Bu1 x y H Q)
theorem B0b:OpR X (binaryOp .Add) Bz0:=OpR.or (OpR.or B0v Aw8) (OpR.or B0w Bn7)
noncomputable def Av:t6->t6->n8
 | .int i,.int j=>some (.im (.int (i+j)))
 | .str a,.str b=>if a.length+b.length<=16000000 then some (.im (.str (a++b))) else none
 | .list a,.list b=>if a.length+b.length<=16000000 then some (.ls false (a++b)) else none
 | .tuple a,.tuple b=>if a.length+b.length<=16000000 then some (.im (.tuple (a++b))) else none
 | _,_=>none
theorem lim (h:n<=16000000):n<=sizeLine:=aq h (by decide)
theorem Oh:OpS K Bz0 Av:=by
 intro C H x y A B o Q s g f e n;unfold Av at e
 split at e
 ·rename_i i j
  cases e
  exact .inl (.inl ⟨i,j,Dj g,Dj f,n.int s⟩)
 ·rename_i a b
  split at e
  ·rename_i l
   cases e
   exact .inl (.inr ⟨a,b,Hg g,Hg f,lim l,n.str s⟩)
  ·cases e
 ·have e := e
  split at e
  ·rename_i l
   cases e
   obtain⟨p,v,k,h,d⟩:=Fg g;obtain⟨q,t,u,m,c⟩:=Fg f
   exact .inr (.inl ⟨p,q,v,t,k,u,h,m,by rw[<- d.length,<- c.length];exact lim l,λr w=>n.lst s (d.app c) w⟩)
  ·cases e
 ·have e := e
  split at e
  ·rename_i l
   cases e
   obtain⟨p,v,k,h,d⟩:=Ia s g;obtain⟨q,t,u,m,c⟩:=Ia s f
   exact .inr (.inr ⟨p,q,v,t,k,u,h,m,by rw[<- d.length,<- c.length];exact lim l,λr z S w=>n.tupS s (d.app c) S w⟩)
  ·cases e
 ·cases e
noncomputable def opI (C:Int->Int->Bool) (g:Int->Int->Int):t6->t6->n8
 | .int i,.int j=>if C i j then some (.im (.int (g i j))) else none
 | _,_=>none
theorem A1v (hc:∀i j,C i j=true->a i j):OpS K (rI a λi j=>.int (g i j)) (opI C g):=by
 intro d H x y h f o Q s c b e n;unfold opI at e
 split at e
 ·rename_i i j
  split at e
  ·rename_i l
   cases e
   exact⟨i,j,Dj c,Dj b,hc i j l,n.int s⟩
  trivial
 grind
noncomputable def Yl (g:Int->Int->t6):t6->t6->n8
 | .int i,.int j=>some (.im (g i j))
 | _,_=>none
theorem Af5 (hg:∀i j H,Tr H (g i j) (g' i j)):OpS K (rI0 g') (Yl g):=by
 intro c H x y f d o Q s a b e n;unfold Yl at e
 split at e
 ·rename_i i j
  cases e
  exact⟨i,j,Dj a,Dj b,n.same s (hg i j _)⟩
 trivial
noncomputable def W9 (i j:Int):Bool:=(decide (-(2 ^ 64)<i)&&decide (i<2 ^ 64))||(decide (-(2 ^ 64)<j)&&decide (j<2 ^ 64))
noncomputable def B3u (ds:w5) (n:Nat):w5:=(List.replicate n ds).flatten
theorem A1w {a:w5}{vs:n_}(t:TrL Hf a vs):∀n:Nat,TrL Hf (B3u a n) (List.replicate n vs).flatten
 | 0=>rfl
 | n+1=>by
  show TrL Hf (List.replicate (n+1) a).flatten (List.replicate (n+1) vs).flatten
  rw[dG,dG,gK,gK];exact t.app (A1w t n)
noncomputable def Cq (d:t6):Bool:=d.canLay0&&decide (d.depth<=40)
theorem K6 (h:Cq d=true):Flat d:=by
 obtain⟨b,a⟩:=aA.mp h;exact⟨b,aV a⟩
noncomputable def Vb:t6->t6->Bool
 | .str _,.str _=>true
 | _,_=>false
def Cr (neg:Bool)(a b:t6):n8:=if (Cq a&&Cq b)||Vb a b then some (.im (.bool (if neg then !PyData.eqv a b else PyData.eqv a b))) else none
def rEQ:R2:=λx y H Q=>B5n x y H Q\/rEq x y H Q
def rNE:R2:=λx y H Q=>B5j x y H Q\/rNe x y H Q
theorem Bs9 (hu:X.A.units+64<cLine):OpR X (compareOp .Eq) rEQ:=OpR.or (B1v hu) B5f
theorem B3t (hu:X.A.units+64<cLine):OpR X (compareOp .NotEq) rNE:=OpR.or (B0i hu) B3v
theorem Wt (x y:Str):PyData.eqv (.str x) (.str y)=decide (V.str x=V.str y):=by
 show (x==y)=_
 grind
theorem Aw2:OpS K rEQ (Cr false):=by
 intro h H x y f d o Q s b a e n;unfold Cr at e
 split at e
 ·rename_i l
  cases e
  rcases jB.mp l with l | l
  ·obtain⟨g,c⟩:=aA.mp l
   exact .inl ⟨f,d,b.tr s,a.tr s,K6 g,K6 c,n.bl s⟩
  ·unfold Vb at l
   split at l
   ·cases Hg b
    cases Hg a
    refine .inr ⟨rfl,?_⟩
    rw[<- Wt];exact n.bl s
   grind
 grind
theorem Ag6:OpS K rNE (Cr true):=by
 intro h H x y f d o Q s b a e n;unfold Cr at e
 split at e
 ·rename_i l
  cases e
  rcases jB.mp l with l | l
  ·obtain⟨g,c⟩:=aA.mp l
   exact .inl ⟨f,d,b.tr s,a.tr s,K6 g,K6 c,n.bl s⟩
  ·unfold Vb at l
   split at l
   ·cases Hg b
    cases Hg a
    refine .inr ⟨rfl,?_⟩
    rw[<- Wt];exact n.bl s
   grind
 grind
noncomputable def Io (neg:Bool) (a b:t6):n8:=match b with
 | .none=>some (.im (.bool (match a with
  | .none=>!neg
  | _=>neg)))
 | _=>none
theorem A1o (h:RdV Hf H d v):decide (v=.non)=(match d with | .none=>true | _=>false):=by
 cases d with
 | none=>cases Ry h;rfl
 | bool b=>cases Q4 h;rfl
 | int i=>cases Dj h;rfl
 | str x=>cases Hg h;rfl
 | list c=>obtain⟨a,e,rfl,_⟩:=Fg h;rfl
 | tuple c=>obtain⟨a,e,rfl,_⟩:=(show Tr _ _ v from h);rfl
 | dict k=>trivial
theorem Bq5:OpS K (λx y H Q=>y=.non/\Q (.bl (decide (x=.non))) H) (Io false):=by
 intro f H x y c b o Q s d a e n
 match b,a,e with
 | .none,a,e =>
  refine⟨Ry a,?_⟩
  rw[A1o d]
  cases e
  cases c <;> exact n.bl s
theorem A8y:OpS K (λx y H Q=>y=.non/\Q (.bl (!decide (x=.non))) H) (Io true):=by
 intro f H x y c b o Q s d a e n
 match b,a,e with
 | .none,a,e =>
  refine⟨Ry a,?_⟩
  rw[A1o d]
  cases e
  cases c <;> exact n.bl s
def Pk (neg:Bool):t6->t6->n8
 | d,.list ds=>if Cq d&&PyData.canLayAll0 ds then some (.im (.bool (if neg then !(ds.any λe=>PyData.eqv e d) else ds.any λe=>PyData.eqv e d))) else none
 | d,.tuple ds=>if Cq d&&PyData.canLayAll0 ds then some (.im (.bool (if neg then !(ds.any λe=>PyData.eqv e d) else ds.any λe=>PyData.eqv e d))) else none
 | .str i,.str j=>if neg then none else some (.im (.bool (!(Builtin.Str.occurrences j i 0 j.length 1).isEmpty)))
 | _,_=>none
theorem T5:OpS K (Bv9 true) (Pk true):=by
 intro h H x y f i o Q s d g e n;unfold Pk at e
 split at e
 ·rename_i a
  have e := e
  split at e
  ·rename_i l
   obtain⟨c,b⟩:=aA.mp l
   cases e
   exact⟨f,a,d.tr s,.inl (g.tr s),K6 c,b,n.bl s⟩
  simp_all
 ·rename_i a
  have e := e
  split at e
  ·rename_i l
   obtain⟨c,b⟩:=aA.mp l
   cases e
   exact⟨f,a,d.tr s,.inr (g.tr s),K6 c,b,n.bl s⟩
  grind
 ·simp_all
 grind
theorem A9b (t:TrL Hf ds vs) (h:atI ds i=some d):∃v,atI vs i=some v/\Tr Hf d v:=by
 unfold atI at h ⊢;rw[<- t.length];obtain⟨j,c,a⟩:=cP.mp h;obtain⟨v,e,b⟩:=t.got a
 grind
def cutD (ds:w5)(lo hi:q9):w5:=(ds.drop (HT.sIx ds.length 0 lo)).take (HT.sIx ds.length ds.length hi-HT.sIx ds.length 0 lo)
theorem TrL.drop':∀{ds:w5}{vs:n_}(n:Nat),TrL Hf ds vs->TrL Hf (ds.drop n) (vs.drop n)
 | ds,vs,0,h=>h
 | [],_,n+1,h=>by cases (show _=[] from h);exact rfl
 | d::ds,_,n+1,⟨v,r,rfl,_,t⟩=>TrL.drop' n t
theorem TrL.take':∀{ds:w5}{vs:n_}(n:Nat),TrL Hf ds vs->TrL Hf (ds.take n) (vs.take n)
 | ds,vs,0,h=>by rw[List.take_zero,List.take_zero];exact rfl
 | [],_,n+1,h=>by cases (show _=[] from h);exact rfl
 | d::ds,_,n+1,⟨v,r,rfl,q,t⟩=>⟨v,r.take n,rfl,q,TrL.take' n t⟩
theorem TrL.cut (t:TrL Hf ds vs):TrL Hf (cutD ds lo hi) (A4c vs lo hi):=by
 unfold cutD A4c;rw[<- t.length];exact TrL.take' _ (TrL.drop' _ t)
end
section
variable {K:v9}{X:Cx}{Hf H:Hp}{Q:VK}{β:Nat->V}{W W':Wo}{c c':Ev}{σ:St}{v:V}
theorem Bx3 (h:B1u Hf H [d] xs):∃x,xs=[x]/\RdV Hf H d x:=by
 obtain⟨v,r,b,c,a⟩:=h
 cases (a)
 grind
noncomputable def Hu:w5->n8
 | [.list ds]=>some (.im (.int ds.length))
 | [.tuple ds]=>some (.im (.int ds.length))
 | [.str z]=>if z.length<=16000000 then some (.im (.int z.length)) else none
 | _=>none
theorem A4o:B4k K (Uj K) Hu:=by
 intro Hf H xs ds o Q s d e n;unfold Hu at e
 split at e
 ·obtain⟨x,rfl,r⟩:=Bx3 d
  obtain⟨a,c,rfl,b,t⟩:=Fg r
  cases e
  refine⟨.ref a,c.length,rfl,Bh7 b,?_⟩
  rw[<- t.length];exact n.int s
 ·obtain⟨x,rfl,r⟩:=Bx3 d
  obtain⟨a,c,rfl,b,t⟩:=Ia s r
  cases e
  refine⟨.ref a,c.length,rfl,Bj3 b,?_⟩
  rw[<- t.length];exact n.int s
 ·rename_i z
  obtain⟨x,rfl,r⟩:=Bx3 d
  cases Hg r
  split at e
  ·rename_i l
   cases e
   refine⟨.str z,z.length,rfl,?_,n.int s⟩
   show (if z.length<=sizeLine then some _ else none)=_
   rw[if_pos (lim l)]
  trivial
 simp_all
def Bq3 (K:v9):n_->Hp->VK->Prop:=λxs H Q=>Uj K xs H Q\/At9 K xs H Q
theorem A8d:CallR X (.builtin "len") (Bq3 X.K):=CallR.or A5k An7
def Gr (f:o_):o_:=λc=>(f c).bind λp c=>match nrm p with
 | .o (.sc ns)=>.ok (.o (.im (.int ns.length))) c
 | p=>match Du c p with
  | some d=>match Hu [d] with
   | some o=>.ok (.o o) c
   | none=>.bad
  | none=>.bad
theorem Tq (h:ME K t f):ME K (tCB (Bq3 K) (Cg t Gs)) (Gr f):=by
 intro A W c u Q R s
 refine h.toV A W c u _ R (s.bnd.mono λp w e v r n k g=>?_)
 have m:∀q:PV,RepA K r.Hf u q v->((match Du w q with
  | some d=>(match Hu [d] with
   | some o=>.ok (.o o) w
   | none=>.bad)
  | none=>.bad:U.R PV)).sat (λp C=>∀v j l,Stp W.S W.Hf W.H (orS j.S l) j.Hf j.H->Rep K A j C u->Eg K j u p v l->Q v j.H)->Bq3 K [v] r.H Q:=λq g e=>by
  cases ex:Du w q with
  | none=>simp only[ex]at e;exact e.elim
  | some d =>
   simp only[ex]at e
   cases eo:Hu [d] with
   | none=>simp only[eo]at e;exact e.elim
   | some o =>
    simp only[eo]at e
    exact .inl (A4o r.Hf r.H [v] [d] o Q k.sub ⟨v,[],rfl,Gi k g ex,rfl⟩ eo (New.of k λv j l z y x=>e v j l (n.trans z) y x))
 generalize nrm p=q at e g
 match q,g,e with
 | .o (.sc ns),g,e =>
  obtain⟨a,rfl,B⟩:=g;have e:∀v j l,Stp _ _ _ _ _ _->Rep K _ j _ _->Eg K _ _ _ v _->Q v _:=e
  refine .inr ⟨.ref a,ns.length,rfl,?_,(New.of k λv j l z y x=>e v _ _ (n.trans z) y x).int k.sub⟩
  exact .inl ⟨ns.map _,Same.seq k.sub B,by simp_all⟩
 | .o (.im d),g,e=>exact m _ g e
 | .o (.ls b d),g,e=>trivial
 | .o (.ty T),g,e=>trivial
 | .sl i,g,e=>exact m _ g e
inductive Ty5 where
 | int | str | bool | list | tuple
noncomputable def Ty5.nm:Ty5->String
 | .int => "int"
 | .str => "str"
 | .bool => "bool"
 | .list => "list"
 | .tuple => "tuple"
noncomputable def Uu:Ty5->t6->Bool
 | .int,.int _=>true
 | .int,.bool _=>true
 | .str,.str _=>true
 | .bool,.bool _=>true
 | .list,.list _=>true
 | .tuple,.tuple _=>true
 | _,_=>false
noncomputable def A1e:t6->String
 | .none => "NoneType"
 | .bool _ => "bool"
 | .int _ => "int"
 | .str _ => "str"
 | .list _ => "list"
 | .tuple _ => "tuple"
 | .dict _ => "dict"
theorem A0g (s:Same Hf H) (h:RdV Hf H d v):O8 H v=some (A1e d):=by
 cases d with
 | none=>cases Ry h;rfl
 | bool b=>cases Q4 h;rfl
 | int i=>cases Dj h;rfl
 | str x=>cases Hg h;rfl
 | list c=>obtain⟨a,f,rfl,e,_⟩:=Fg h;exact B2j e
 | tuple c=>obtain⟨a,f,rfl,e,_⟩:=Ia s h;exact B2k e
 | dict k=>trivial
theorem Ax9 (h:RdV Hf H d v) (T:Ty5):Ed (A1e d) T.nm=some (Uu T d):=by
 cases d with
 | none=>cases T <;> first | exact Uv | exact Ux | exact Tt | exact Ua | exact Q0
 | bool b=>cases T <;> first | exact As2 | exact Ap6 | exact Ae4 | exact Af1 | exact Y6
 | int i=>cases T <;> first | exact At6 | exact Av2 | exact Am1 | exact Ar0 | exact Af0
 | str x=>cases T <;> first | exact Au4 | exact At7 | exact Ap1 | exact Aj9 | exact Ag8
 | list a=>cases T <;> first | exact Al7 | exact Am2 | exact Ah3 | exact Ai0 | exact Yn
 | tuple a=>cases T <;> first | exact Ag3 | exact Ae6 | exact Yz | exact Yk | exact V1
 | dict k=>exact(h).elim
def cUn (op:t6->n8)(f:o_):o_:=λc=>(f c).bind λp c=>match Du c (nrm p) with
 | some d=>match op d with
  | some o=>.ok (.o o) c
  | none=>.bad
 | none=>.bad
def UnS (K:v9)(r:V->Hp->VK->Prop)(op:t6->n8):Prop:=∀(Hf H:Hp) (x:V) (d:t6) (o:O) (Q:VK),Same Hf H->RdV Hf H d x->op d=some o->New K Hf H o Q->r x H Q
theorem Zb (h:ME K t f) (hr:UnS K r op):ME K (tUn r t) (cUn op f):=by
 intro u W c m Q R s
 refine h.toV _ W c _ _ R (s.bnd.mono λp j a v w e b k=>?_)
 cases ex:Du j (nrm p) with
 | none=>simp only[ex]at a;trivial
 | some d =>
  simp only[ex]at a
  cases eo:op d with
  | none=>simp only[eo]at a;trivial
  | some o =>
   simp only[eo]at a
   exact hr _ _ v d o Q b.sub (Gi b k ex) eo (New.of b λv n q i l g=>a v _ _ (e.trans i) l g)
theorem Ca (h:ME K t f) (hr:UnS K (λx H Q=>r [x] H Q) op):ME K (tCB r (Cg t Gs)) (cUn op f):=Zb h hr
def Hy (T:Ty5)(d:t6):n8:=some (.im (.bool (Uu T d)))
def Qm (T1 T2:Ty5)(d:t6):n8:=some (.im (.bool (Uu T1 d||Uu T2 d)))
theorem B2m (T:Ty5) (h:ME K t f):ME K (tCB (Qj K) (Cg t (Cg (tC (.ty T.nm)) Gs))) (cUn (Hy T) f) :=
 Zb h λa H x d o Q s r e n=>by
  cases e
  exact⟨x,T.nm,A1e d,Uu T d,rfl,A0g s r,Ax9 r T,n.bl s⟩
theorem Bi5 (h1:Ed t A=some a) (h2:Ed t B=some b):Lk t [A,B]=some (a||b):=by
 unfold Lk;unfold Lk;unfold Lk
 grind
theorem Bn6 (g j:Ty5) (h:ME K t f):ME K (tCB (J0 K) (Cg t (Cg (A4g (Cg (tC (.ty g.nm)) (Cg (tC (.ty j.nm)) Gs))) Gs))) (cUn (Qm g j) f) :=
 Zb (r:=λx H Q=>2<=sizeLine/\∀p,H p=none->J0 K _ _ Q) h λv H x d o Q s r e n=>by
  cases e
  refine⟨by decide,λp c=>⟨x,p,[g.nm,j.nm],A1e d,Uu _ d||Uu _ d,rfl,Ax,?_,Bi5 (Ax9 r _) (Ax9 r _),?_⟩⟩
  ·have l:Same _ (upd H p (.tup [.ty g.nm,.ty j.nm])):=Rm s c
   refine A0g l ?_
   cases d with
   | list u=>obtain⟨a,m,e,q,t⟩:=r;exact⟨a,m,e,Bp c _ _ q,t⟩
   | none=>exact r
   | bool b=>exact r
   | int i=>exact r
   | str z=>exact r
   | tuple u=>exact r
   | dict k=>exact r
  ·exact n _ _ _ [] ((Stp.newL s c).less λa z=>nomatch z) (Rm s c) ⟨rfl,rfl⟩
noncomputable def boolsOf:w5->Option (List Bool)
 | []=>some []
 | .bool b::r=>(boolsOf r).map (b::·)
 | _=>none
theorem Ai4:∀{ds:w5}{bs:List Bool}{vs:n_},boolsOf ds=some bs->TrL Hf ds vs->vs=bs.map V.bl
 | [],bs,vs,e,t=>by cases (show some []=some bs from e);exact t
 | .bool b::r,bs,_,e,⟨v,vr,rfl,h,t⟩=>by
  obtain⟨l,e1,rfl⟩:=aW.mp (show (boolsOf r).map (b::·)=some bs from e)
  cases (show v=.bl b from h)
  rw[Ai4 e1 t];rfl
 | .none::r,bs,_,e,_=>nomatch e
 | .int _::r,bs,_,e,_=>nomatch e
 | .str _::r,bs,_,e,_=>nomatch e
 | .list _::r,bs,_,e,_=>nomatch e
 | .tuple _::r,bs,_,e,_=>nomatch e
 | .dict _::r,bs,_,e,_=>nomatch e
def Aq7:t6->n8
 | .list ds=>(boolsOf ds).map λbs=>.im (.bool (bs.all id))
 | _=>none
theorem A0l:UnS K (λx H Q=>Nr K [x] H Q) Aq7:=by
 intro Hf H x d o Q s r e n
 match d,r,e with
 | .list _,r,e =>
  obtain⟨c,f,rfl⟩:=aW.mp (show (boolsOf _).map _=some o from e)
  obtain⟨a,vs,rfl,b,t⟩:=Fg r
  exact⟨a,c,rfl,by rw[<- Ai4 f t];exact SqL.of b,n.bl s⟩
noncomputable def Uq:t6->n8
 | .int i=>some (.im (.int i))
 | .bool b=>some (.im (.int (if b then 1 else 0)))
 | _=>none
theorem Ab2:UnS K (λx H Q=>M7 K [x] H Q) Uq:=by
 intro a H x d o Q s r e n
 match d,r,e with
 | .int i,r,e=>cases e;cases Dj r;exact .inl ⟨i,rfl,n.int s⟩
 | .bool b,r,e=>cases e;cases Q4 r;exact .inr ⟨b,rfl,n.int s⟩
noncomputable def A1g:t6->n8
 | .int i=>some (.im (.int (if i<0 then -i else i)))
 | _=>none
theorem Bj1:UnS K (λx H Q=>Py K [x] H Q) A1g:=by
 intro a H x d o Q s r e n
 match d,r,e with
 | .int i,r,e=>cases e;cases Dj r;exact⟨i,rfl,n.int s⟩
noncomputable def Um:t6->n8
 | .int i=>some (.im (.int (-i)))
 | _=>none
theorem A2b:UnS K (rU λi=>.int (-i)) Um:=by
 intro a H x d o Q s r e n
 match d,r,e with
 | .int i,r,e=>cases e;cases Dj r;exact⟨i,rfl,n.int s⟩
noncomputable def Hl:t6->n8
 | .list ds=>some (.ls false ds)
 | .tuple ds=>some (.ls false ds)
 | _=>none
theorem Ky:UnS K (λx H Q=>Jg K [x] H Q) Hl:=by
 intro Hf H x d o Q s r e n
 match d,r,e with
 | .list _,r,e =>
  cases e
  obtain⟨a,c,rfl,f,t⟩:=Fg r
  exact⟨a,c,rfl,.inl (SqL.of f),λl b=>n.lst s t b⟩
 | .tuple _,r,e =>
  cases e
  obtain⟨a,c,rfl,f,t⟩:=Ia s r
  exact⟨a,c,rfl,.inr (SqT.of f),λl b=>n.lst s t b⟩
def B2e (K:v9):n_->Hp->VK->Prop:=λxs H Q=>(V2 K xs H Q\/Ao5 K xs H Q)\/Uo K xs H Q
noncomputable def isSeq:t6->Bool
 | .list _=>true
 | .tuple _=>true
 | _=>false
def Y9:t6->n8
 | .int i=>if i.natAbs.log2<1920 then some (.im (.str (toString i))) else none
 | .none=>some (.im (.str "None"))
 | .bool b=>some (.im (.str (if b then Str.ofString "True" else Str.ofString "False")))
 | .str x=>some (.im (.str x))
 | d=>if isSeq d&&(d.showable&&(!d.hasDict&&(decide (d.depth<=40)&&decide (d.shown.length<=sizeLine)))) then some (.im (.str d.shown)) else none
theorem Ah1:UnS K (λx H Q=>B2e K [x] H Q) Y9:=by
 intro h H x d o Q s r e n
 have c:∀d,RdV h H d x->(isSeq d=true->∃a,x=.ref a)->(if isSeq d&&(d.showable&&(!d.hasDict&&(decide (d.depth<=40)&&decide (d.shown.length<=sizeLine)))) then some (O.im (.str d.shown)) else none)=some o->B2e K [x] H Q:=λd r g e=>by
  split at e
  ·rename_i l
   simp at l
   cases e
   obtain⟨a,rfl⟩:=g l.1;exact .inl (.inr ⟨a,d,rfl,r.tr s,l.2.1,l.2.2.1,l.2.2.2.1,l.2.2.2.2,n.str s⟩)
  ·cases e
 match d,r,e with
 | .int i,r,e =>
  have e:(if i.natAbs.log2<1920 then some _ else none)=some o:=e
  split at e
  ·rename_i l
   cases e;cases Dj r;exact .inl (.inl ⟨i,rfl,l,n.str s⟩)
  ·cases e
 | .list _,r,e=>exact c _ r (λ_=>by obtain⟨b,f,e,_⟩:=Fg r;exact⟨b,e⟩) e
 | .tuple _,r,e=>exact c _ r (λ_=>by obtain⟨b,f,e,_⟩:=Ia s r;exact⟨b,e⟩) e
 | .none,r,e=>cases e;cases Ry r;exact .inr ⟨_,_,rfl,rfl,n.str s⟩
 | .bool b,r,e=>cases e;cases Q4 r;exact .inr ⟨_,_,rfl,rfl,n.str s⟩
 | .str z,r,e=>cases e;cases Hg r;exact .inr ⟨_,_,rfl,rfl,n.str s⟩
 | .dict _,r,e=>exact c _ r (λz=>nomatch z) e
noncomputable def Au1:t6->t6->n8
 | .int i,.int j=>some (.im (.int (if j<i then j else i)))
 | _,_=>none
theorem A2q {c d:TE} (ha:ME K c fa) (hb:ME K d fb):ME K (tCB (Nx K) (Cg c (Cg d Gs))) (cOp Au1 fa fb) :=
 Ep ha hb λh H x y g f o Q s a b e n=>by
  match g,f,a,b,e with
  | .int i,.int j,a,b,e=>cases e;cases Dj a;cases Dj b;exact⟨i,j,rfl,n.int s⟩
def MO (K:v9)(T:TO)(f:Ev->R (q9)):Prop:=∀(β:Nat->V) (W:Wo) (c:Ev) (σ:St) (Q:q9->Hp->Prop),Rep K β W c σ ->
 (f c).sat (λb c'=>∀W',Stp W.S W.Hf W.H W'.S W'.Hf W'.H->Rep K β W' c' σ->Q b W'.H)->T σ W.H Q
noncomputable def cON:Ev->R (q9):=λc=>.ok none c
theorem Bg9:MO K A2i cON:=λb W c a Q R s=>s W Stp.refl R
def cOS (f:o_):Ev->R (q9):=λc=>(f c).bind λp c=>match Du c (nrm p) with
 | some (.int i)=>.ok (some i) c
 | _=>.bad
theorem Br5 (h:ME K t f):MO K (Bv2 t) (cOS f):=by
 intro g W c k Q R s
 refine h.toV _ W c _ _ R (s.bnd.mono λp l a v j b d e=>?_)
 match ex:Du _ _,a with
 | some (.int i),a=>exact⟨i,Dj (Gi d e ex),a _ b d⟩
 | some .none,a=>exact a.elim
 | some (.bool _),a=>exact a.elim
 | some (.str _),a=>exact a.elim
 | some (.list _),a=>exact a.elim
 | some (.tuple _),a=>exact a.elim
 | some (.dict _),a=>exact a.elim
 | none,a=>exact a.elim
def SlS (K:v9)(r:V->q9->q9->Hp->VK->Prop)(op:t6->q9->q9->n8):Prop:=∀(Hf H:Hp) (x:V) (lo hi:q9) (d:t6) (o:O) (Q:VK),Same Hf H->RdV Hf H d x->op d lo hi=some o->New K Hf H o Q->r x lo hi H Q
def cSl (op:t6->q9->q9->n8)(f:o_)(fl fh:Ev->R (q9)):o_:=λc=>(f c).bind λp c=>(fl c).bind λlo c=>(fh c).bind λhi c=>match Du c (nrm p) with
 | some d=>match op d lo hi with
  | some o=>.ok (.o o) c
  | none=>.bad
 | none=>.bad
theorem B4b (h:ME K j f) (hl:MO K l k) (u:MO K m n) (hr:SlS K r op):ME K (tSl r j l m) (cSl op f k n):=by
 intro P W c G Q R s
 refine h.toV _ W c _ _ R (s.bnd.mono λp I D v N g w x=>?_)
 refine hl _ _ _ _ _ w (D.bnd.mono λz F A J a B=>?_)
 refine u _ _ _ _ _ B (A.bnd.mono λt y b H e i=>?_)
 cases ex:Du y (nrm p) with
 | none=>simp only[ex]at b;trivial
 | some d =>
  simp only[ex]at b
  cases eo:op d z t with
  | none=>simp only[eo]at b;trivial
  | some o =>
   simp only[eo]at b
   exact hr _ _ v _ _ d o Q i.sub (Gi i (RepA.same (a.trans e).fz x) ex) eo (New.of i λv L M C E q=>b v _ _ (g.trans (a.trans (e.trans C))) E q)
end
section
variable {K:v9}{X:Cx}{Hf H:Hp}{Q:VK}{β:Nat->V}{W:Wo}{c c':Ev}{σ:St}{v:V}
def rSL (K:v9):V->q9->q9->Hp->VK->Prop:=λx lo hi H Q=>(B4r K x lo hi H Q\/(B4v K x lo hi H Q\/Bv3 K x lo hi H Q))\/B4t x lo hi H Q
theorem B1p:SlR X (rSL X.K):=SlR.or (SlR.or Br0 (SlR.or B0c Bo9)) Bz3
def G3:t6->q9->q9->n8
 | .list ds,lo,hi=>some (.ls false (cutD ds lo hi))
 | .tuple ds,lo,hi=>some (.im (.tuple (cutD ds lo hi)))
 | .str z,lo,hi=>if z.length<=16000000 then some (.im (.str (Txt.slice z lo hi))) else none
 | _,_,_=>none
theorem Bi1:SlS K (rSL K) G3:=by
 intro Hf H x f c d o Q s r e n
 match d,r,e with
 | .list ds,r,e =>
  cases e
  obtain⟨a,b,rfl,g,t⟩:=Fg r
  exact .inl (.inl ⟨a,b,rfl,SqL.of g,λp h=>n.lst s (TrL.cut t) h⟩)
 | .str z,r,e =>
  by_cases hz:z.length<=16000000
  ·rw[show G3 (.str z) f c=some (.im (.str (Txt.slice z f c))) by simp only[G3];rw[if_pos hz]]at e
   cases e
   exact .inr ⟨z,r,aq hz (by decide),n.same s rfl⟩
  ·rw[show G3 (.str z) f c=none by simp only[G3];rw[if_neg hz]]at e;cases e
 | .tuple ds,r,e =>
  cases e
  obtain⟨a,b,rfl,g,t⟩:=Ia s r
  by_cases w:HT.sIx b.length 0 f=0/\HT.sIx b.length b.length c=b.length
  ·refine .inl (.inr (.inr ⟨a,b,rfl,SqT.of g,w,?_⟩))
   have e:cutD ds f c=ds:=by
    unfold cutD;rw[t.length,w.1,w.2,gV,eZ,<- t.length,dN]
   rw[e]at n;exact n.same s r
  ·exact .inl (.inr (.inl ⟨a,b,rfl,SqT.of g,w,λp h=>n.tup s (TrL.cut t) h⟩))
def Bh (f:o_):o7:=λc=>(f c).bind λp c=>match Du c (nrm p) with
 | some (.bool b)=>.ok b c
 | _=>.bad
theorem Iu (h:ME K t f):MT K (O7 t) (Bh f):=by
 intro g W c k Q R s
 refine h.toV _ W c _ _ R (s.bnd.mono λp l a v j b d e=>?_)
 match ex:Du _ _,a with
 | some (.bool i),a=>exact⟨i,Q4 (Gi d e ex),a _ b d⟩
 | some .none,a=>exact a.elim
 | some (.int _),a=>exact a.elim
 | some (.str _),a=>exact a.elim
 | some (.list _),a=>exact a.elim
 | some (.tuple _),a=>exact a.elim
 | some (.dict _),a=>exact a.elim
 | none,a=>exact a.elim
theorem Am0 (h:ME K t f):MT K (tB t) (Bh f):=Iu h
noncomputable def Be:o7:=λc=>.ok true c
theorem Nt:MT K Bl6 Be:=λb W c a Q R s=>s W Stp.refl R
def cOr (f g:o7):o7:=λc=>(f c).bind λb c=>if b=true then .ok true c else g c
def A6d (f:o7):o7:=λc=>(f c).bind λb c=>.ok (!b) c
theorem Ak9 (h1:MT K t f) (h2:MT K u g):MT K (tOr t u) (cOr f g):=λn W c p Q R s =>
 h1 _ W c _ _ R (s.bnd.mono λb l h k a e=>by
  cases b with
  | false=>exact h2 _ _ _ _ _ e (h.mono λb m j o d i=>j _ (a.trans d) i)
  | true=>exact h _ a e)
theorem V9 (h1:MT K t f):MT K (B3w t) (A6d f):=λh W c g Q R s =>
 h1 _ W c _ _ R (s.bnd.mono λb j e i a d=>e _ a d)
theorem Az6 {d:Wo}(R:Rep K β W c σ) (st:Stp d.S d.Hf d.H W.S W.Hf W.H) (s:∀v a e,Stp d.S d.Hf d.H (orS a.S e) a.Hf a.H->Rep K β a c σ->Eg K a σ (.o (.im (.bool b))) v e->Q v a.H):Q (.bl b) W.H :=
 R.here (o:=.im (.bool b)) rfl rfl λv a e f g r=>s v _ _ (st.trans f) g r
def Wm (f g:o_):o_:=λc=>(Bh f c).bind λb c=>if b=true then g c else .ok (.o (.im (.bool false))) c
def Bc6 (f:o_):o_:=λc=>(Bh f c).bind λb c=>.ok (.o (.im (.bool (!b)))) c
def Qf (ft:o7)(f g:o_):o_:=λc=>(ft c).bind λb c=>if b=true then f c else g c
theorem Yg {r:U.R PV}{b:Wo}(s:r.sat λp c'=>∀v a d,Stp b.S b.Hf b.H (orS a.S d) a.Hf a.H->Rep K β a c' σ->Eg K a σ p v d->Q v a.H)(st:Stp b.S b.Hf b.H W.S W.Hf W.H) :
 r.sat λp c'=>∀v a d,Stp W.S W.Hf W.H (orS a.S d) a.Hf a.H->Rep K β a c' σ->Eg K a σ p v d->Q v a.H:=s.mono λp c k v a d e R r=>k v _ _ (st.trans e) R r
theorem Bi8 (h1:ME K h f) (h2:ME K e g):ME K (Bv0 h e) (Wm f g):=by
 intro k W c j Q R s
 refine Iu h1 _ W c _ _ R (s.bnd.mono λb m i l a d=>?_)
 cases b with
 | true=>exact h2 _ _ _ _ _ d (Yg i a)
 | false=>exact Az6 d a i
theorem Bm7 (h1:ME K d f):ME K (Bv1 d) (Bc6 f):=by
 intro k W c h Q R s
 exact Iu h1 _ W c _ _ R (s.bnd.mono λb i g j a e=>Az6 e a g)
theorem A6w (ht:MT K i ft) (h1:ME K e f) (h2:ME K h g):ME K (tIf i e h) (Qf ft f g):=by
 intro l W c k Q R s
 refine ht _ W c _ _ R (s.bnd.mono λb n j m a d=>?_)
 cases b with
 | true=>exact h1 _ _ _ _ _ d (Yg j a)
 | false=>exact h2 _ _ _ _ _ d (Yg j a)
def Bl (f:o_):Ev->R (w5):=λc=>(f c).bind λp c=>(frz (nrm p) c).bind λd c=>match d with
 | .list ds=>.ok ds c
 | .tuple ds=>.ok ds c
 | _=>.bad
theorem Bp6 (ha:Hf a=some (.lst vs)) (t:TrL Hf ds vs):A3h (Itl K a) Hf ds:=by
 intro i c H f g;have b:=g _ _ (f _ _ ha)
 refine⟨λe=>⟨vs,SqL.of b,by rw[<- t.length];lia⟩,λd j=>?_⟩
 obtain⟨v,h,k⟩:=t.got j
 refine⟨⟨vs,v,SqL.of b,h⟩,λx l ⟨e,q⟩=>?_⟩
 subst e;have:=q _ (SqL.of b);rw[h]at this
 cases this
 exact⟨c,Stp.refl,g,Tr.same f k⟩
theorem B0e (ha:Hf a=some (.tup vs)) (t:TrL Hf ds vs):A3h (Itt K a) Hf ds:=by
 intro i c H f g;have b:=g _ _ (f _ _ ha)
 refine⟨λe=>⟨vs,SqT.of b,by rw[<- t.length];lia⟩,λd j=>?_⟩
 obtain⟨v,h,k⟩:=t.got j
 refine⟨⟨vs,v,SqT.of b,h⟩,λx l ⟨e,q⟩=>?_⟩
 subst e;have:=q _ (SqT.of b);rw[h]at this
 cases this
 exact⟨c,Stp.refl,g,Tr.same f k⟩
theorem J6 (h:ME K t f):MI K (B2l K t) (Bl f):=by
 intro w W c B k R s
 refine h.toV _ W c _ _ R (s.bnd.mono λp A r v x l u q=>?_)
 obtain⟨d,y,z,_,b,o,i,m,e⟩:=Eu u q r.bnd;rw[<- o]
 match d,e,b with
 | .list _,e,b =>
  obtain⟨a,n,g,j,t⟩:=e;exact⟨a,g,.inl ⟨n,m.sub _ _ j,b _ _ (l.trans i) m (Bp6 j t)⟩⟩
 | .tuple _,e,b =>
  obtain⟨a,n,g,j,t⟩:=e;exact⟨a,g,.inr ⟨n,m.sub _ _ j,b _ _ (l.trans i) m (B0e j t)⟩⟩
 | .none,e,b=>exact b.elim
 | .bool _,e,b=>exact b.elim
 | .int _,e,b=>exact b.elim
 | .str _,e,b=>exact b.elim
 | .dict _,e,b=>trivial
noncomputable def Kw (lo:Int) (n:Nat):w5:=(List.range n).map λk=>.int (lo+(k:Nat))
theorem Bx7 : A3h (Itr lo n) Hf (Kw lo n):=by
 intro i b H g f
 have l:(Kw lo n).length=n:=by unfold Kw;simp_all
 refine⟨λe=>by show n<=i;lia,λd a=>?_⟩
 have c:i<n:=by
  grind
 refine⟨c,λx h ⟨e,q⟩=>?_⟩
 subst e;unfold Kw at a;rw[bJ,List.getElem?_range c]at a
 cases a
 exact⟨b,Stp.refl,f,q⟩
def Im (f:o_):Ev->R (w5):=λc=>(f c).bind λp c=>match Du c (nrm p) with
 | some (.int j)=>if j<=16000000/\-16000000<=j then .ok (Kw 0 j.toNat) c else .bad
 | _=>.bad
theorem Vf (h:ME K t f):MI K (Bu7 (Cg t Gs)) (Im f):=by
 intro g W c m k R s
 refine h.toV _ W c _ _ R (s.bnd.mono λp n a v i b d e=>?_)
 match ex:Du _ _,a with
 | some (.int j),a =>
  cases Dj (Gi d e ex)
  by_cases l:j<=16000000/\-16000000<=j
  ·have a:(if j<=16000000/\-16000000<=j then U.R.ok _ _ else .bad).sat _:=a
   rw[if_pos l]at a
   exact⟨j,rfl,by lia,by lia,a _ _ b d Bx7⟩
  ·have a:(if j<=16000000/\-16000000<=j then U.R.ok _ _ else .bad).sat _:=a
   rw[if_neg l]at a;trivial
 | some .none,a=>exact a.elim
 | some (.bool _),a=>exact a.elim
 | some (.str _),a=>exact a.elim
 | some (.list _),a=>exact a.elim
 | some (.tuple _),a=>exact a.elim
 | some (.dict _),a=>exact a.elim
 | none,a=>exact a.elim
noncomputable def Ab1 (d:Option t6):q9:=match d with
 | some (.int i)=>some i
 | _=>none
theorem Ah8 (h:Ab1 d=some i):d=some (.int i):=by
 unfold Ab1 at h
 grind
noncomputable def Jo:t6->Option (w5)
 | .list ds=>some ds
 | .tuple ds=>some ds
 | _=>none
theorem Wu (h:Jo d=some ds) (t:Tr Hf d v):∃b a c,v=.ref a/\SqK b Hf a c/\TrL Hf ds c:=by
 cases d with
 | list l=>cases h;obtain⟨a,c,e,f,t⟩:=t;exact⟨false,a,c,e,f,t⟩
 | tuple l=>cases h;obtain⟨a,c,e,f,t⟩:=t;exact⟨true,a,c,e,f,t⟩
 | none=>cases h
 | bool _=>cases h
 | int _=>cases h
 | str _=>cases h
 | dict _=>cases h
theorem Fw {c:Hp}(S:Same Hf c) (h:SqK b Hf a vs):SqK b c a vs:=by
 cases b
 ·exact S _ _ h
 ·exact S _ _ h
noncomputable def Gy (xs ys:w5):w5:=(xs.zip ys).map λp=>.tuple [p.1,p.2]
theorem B1a (ha:SqK t1 Hf a vs) (hb:SqK t2 Hf b us) (t:TrL Hf xs vs) (u:TrL Hf ys us):A3h (Itz t1 t2 a b) Hf (Gy xs ys):=by
 intro i B H j f;have m:=Fw (j.trans f) ha;have k:=Fw (j.trans f) hb
 have l:(Gy xs ys).length=min xs.length ys.length:=by unfold Gy;simp_all
 refine⟨λe=>⟨vs,us,m,k,by rw[<- t.length,<- u.length,e];lia⟩,λd x=>?_⟩
 obtain⟨p,n,e⟩:=El x;rw[jk]at n;obtain⟨h,r,v⟩:=t.got n.1;obtain⟨c,s,w⟩:=u.got n.2
 refine⟨⟨vs,us,h,c,m,k,r,s⟩,λz H' y=>?_⟩
 obtain⟨p,x',y',rfl,g,rfl,A,C⟩:=y;have:=A _ m;rw[r]at this;cases this;have:=C _ k;rw[s]at this;cases this;subst e;have q:=Bp (o:=.tup [h,c]) (Same.free f g);exact⟨upd _ p _,Stp.newF f g,Jz f,p,[h,c],rfl,Ax,h,[c],rfl,Tr.same q (Tr.same j v),c,[],rfl,Tr.same q (Tr.same j w),rfl⟩
def U4 (f g:o_):Ev->R (w5):=λc=>(f c).bind λp c=>(g c).bind λq c=>(frz (nrm p) c).bind λx c=>(frz (nrm q) c).bind λy c=>match Jo x,Jo y with
 | some xs,some ys=>.ok (Gy xs ys) c
 | _,_=>.bad
theorem B0m (h:ME K t f) (h':ME K u g):MI K (B3o (Cg t (Cg u Gs))) (U4 f g):=by
 intro β W c σ k R s
 refine h.toV _ W c _ _ R (s.bnd.mono λp c1 G v1 W1 l P v=>?_)
 refine h'.toV _ _ _ _ _ P (G.bnd.mono λq c2 w v2 W2 i A B=>?_)
 obtain⟨x,c3,W3,_,C,D,e,E,F⟩:=Eu A (RepA.same i.fz v) w.bnd;obtain⟨y,c4,W4,_,j,r,d,m,I⟩:=Eu E (RepA.same e.fz B) C.bnd
 cases ex:Jo x with
 | none=>simp only[ex]at j;trivial
 | some xs =>
  cases ey:Jo y with
  | none=>simp only[ex,ey]at j;trivial
  | some ys =>
   simp only[ex,ey]at j;obtain⟨J,a,L,rfl,H,N⟩:=Wu ex F;obtain⟨M,b,O,rfl,n,o⟩:=Wu ey I;rw[<- D,<- r];have z:=Fw d.fz H;exact⟨a,b,rfl,J,M,L,O,Fw m.sub z,Fw m.sub n,j _ _ (l.trans (i.trans (e.trans d))) m (B1a z n (TrL.same d.fz N) o)⟩
noncomputable def O6 (xs:w5):w5:=(List.range xs.length).map λk=>.tuple [.int (k:Nat),xs.getD k .none]
theorem Bh5 (ha:SqK t Hf a vs) (u:TrL Hf xs vs):A3h (Ite t a) Hf (O6 xs):=by
 intro i v H j f;have h:=Fw (j.trans f) ha
 have l:(O6 xs).length=xs.length:=by unfold O6;simp_all
 refine⟨λe=>⟨vs,h,by rw[<- u.length];lia⟩,λd g=>?_⟩
 have n:i<xs.length:=by
  grind
 unfold O6 at g;rw[bJ,List.getElem?_range n]at g
 cases g
 have q:xs[i]?=some (xs.getD i .none):=by grind
 obtain⟨b,k,r⟩:=u.got q
 refine⟨⟨vs,b,h,k⟩,λz H' s=>?_⟩
 obtain⟨p,x',rfl,c,rfl,m⟩:=s;have:=m _ h;rw[k]at this;cases this;exact⟨upd _ p _,Stp.newF f c,Jz f,p,[.int i,b],rfl,Ax,.int i,[b],rfl,rfl,b,[],rfl,Tr.same (Bp (o:=.tup [.int i,b]) (Same.free f c)) (Tr.same j r),rfl⟩
def A1x (f:o_):Ev->R (w5):=λc=>(f c).bind λp c=>(frz (nrm p) c).bind λx c=>match Jo x with
 | some xs=>.ok (O6 xs) c
 | _=>.bad
theorem Bh2 (h:ME K t f):MI K (Bt9 (Cg t Gs)) (A1x f):=by
 intro β W c σ k R s
 refine h.toV _ W c _ _ R (s.bnd.mono λp c1 u v1 W1 e n q=>?_)
 obtain⟨x,c3,W3,_,b,l,d,g,o⟩:=Eu n q u.bnd
 cases ex:Jo x with
 | none=>simp only[ex]at b;trivial
 | some xs =>
  simp only[ex]at b;obtain⟨m,a,r,rfl,i,j⟩:=Wu ex o;rw[<- l];exact⟨a,rfl,m,r,Fw g.sub i,b _ _ (e.trans d) g (Bh5 i j)⟩
end
section
variable {K:v9}{X:Cx}{Hf H:Hp}{Q:VK}{β:Nat->V}{W W':Wo}{c:Ev}{σ:St}{v:V}{p:PV}{fp:v6}{i:Nat}{b:Bool}{ds:w5}
theorem B0f (R:Rep K β W c σ)(r:Eg K W σ p v fp):∃W',W'.H=W.H/\Stp (orS W.S fp) W.Hf W.H W'.S W'.Hf W'.H/\Rep K β W' c σ/\RepA K W'.Hf σ (nrm p) v:=by
 have f:Stp (orS W.S fp) W.Hf W.H _ _ _:=Stp.refl.up λa z=>.inl z
 cases p with
 | sl i=>exact⟨W,rfl,f,R,r.2⟩
 | o o =>
  cases o with
  | im d=>exact⟨W,rfl,f,R,r.1.2⟩
  | sc d=>exact⟨W,rfl,f,R,r.1.2⟩
  | ty d=>exact⟨W,rfl,f,R,r.1.2⟩
  | ls b ds =>
   obtain⟨⟨a,h,rfl,rfl,g,j,t⟩,l⟩:=r
   refine⟨⟨upd _ a _,W.H,W.fps⟩,rfl,⟨Bp g,λb o e _=>e,λb o e mu n q=>?_,λb z=>.inl (.inl z)⟩,Ad4 R g j (l a (.head _)),a,h,rfl,Ax,TrL.same (Bp g) t⟩
   have k:b≠a:=λz=>n (.inr (by grind))
   show upd _ a _ b=none
   rw[Ag k];grind
theorem Rep.mut (R:Rep K β W c σ)(hc:c[i]?=some (some (.ls b ds)))(hv:σ[i]?=some (some v)):∃a h,v=.ref a/\W.H a=some (.lst h)/\TrL W.Hf ds h /\
 ∀f d,TrL W.Hf f d->Rep K β ⟨W.Hf,upd W.H a (.lst d),W.fps⟩ (c.set i (some (.ls b f))) σ/\Stp W.S W.Hf W.H W.S W.Hf (upd W.H a (.lst d)):=by
 obtain⟨m,p,⟨a,h,rfl,w,A,H,t⟩,B⟩:=R.get i _ hc
 cases (show some _=some _ from p.symm.trans hv)
 have D:i<c.length:=by
  grind
 have s:a∈W.fps i:=by rw[w];exact .head _
 refine⟨a,h,rfl,H,t,λf d F=>⟨⟨λb u e=>?_,by rw[bT];exact R.len,λj o e=>?_,R.dis,λj x g=>?_⟩,⟨Same.refl _,λx o e n=>?_,λx o e r n q=>q,λx z=>.inl z⟩⟩⟩
 ·have E:b≠a:=λz=>by rw[z,A]at e;cases e
  show upd _ a _ b=_
  rw[Ag E];exact R.sub b u e
 ·by_cases z:j=i
  ·subst z
   rw[cG D]at e
   cases e
   exact⟨.ref a,p,⟨a,d,rfl,w,A,Ax,F⟩,B⟩
  ·rw[cB λy=>z y.symm]at e
   obtain⟨m,k,G,l⟩:=R.get j o e
   refine⟨m,k,G.mono (Same.refl _) λx g=>⟨(R.own j x g).1,?_⟩,l⟩
   show upd _ a _ x=_
   rw[Ag];intro q;rw[q]at g;exact z (R.dis j i a g s)
 ·obtain⟨I,o,C,r⟩:=R.own j x g
  refine⟨I,?_⟩
  by_cases z:x=a
  ·exact⟨.lst _,by rw[z];exact Ax,trivial⟩
  ·exact⟨o,by show upd _ a _ x=_;rw[Ag z];exact C,r⟩
 ·rw[Ag]
  ·exact e
  ·intro z;exact n ⟨i,by rw[z];exact s⟩
noncomputable def slL (c:Ev) (p:PV):Option (Nat×Bool×w5):=match p with
 | .sl i=>match c[i]? with
  | some (some (.ls b ds))=>some (i,b,ds)
  | _=>none
 | _=>none
theorem Wh (h:slL c p=some x):p=.sl x.1/\c[x.1]?=some (some (.ls x.2.1 x.2.2)):=by
 unfold slL at h
 grind
def Pz (fo fe:o_):o_:=λc=>(fo c).bind λp c=>if (slL c (nrm p)).isSome=true then (fe c).bind λq c=>(frz (nrm q) c).bind λd c=>match slL c (nrm p) with
 | some (i,b,ds)=>if ds.length<16000000 then .ok (.o (.im .none)) (c.set i (some (.ls b (ds++[d])))) else .bad
 | none=>.bad
 else .bad
theorem Ar3 {b:Wo}(R:Rep K β W c σ)(st:Stp b.S b.Hf b.H W.S W.Hf W.H)(s:∀v a d,Stp b.S b.Hf b.H (orS a.S d) a.Hf a.H->Rep K β a c σ->Eg K a σ (.o (.im .none)) v d->Q v a.H):Q .non W.H :=
 R.here (o:=.im .none) rfl rfl λv a d e f r=>s v _ _ (st.trans e) f r
theorem ty_list (R:Rep K β W c σ)(h:(slL c p).isSome=true)(r:RepA K W.Hf σ p v):tyV K "list" v W.H:=by
 obtain⟨x,d⟩:=Option.isSome_iff_exists.mp h;obtain⟨rfl,e⟩:=Wh d;obtain⟨a,f,rfl,b,_⟩:=R.mut e r;exact .inl ⟨rfl,f,SqL.of b⟩
theorem A8x {v fe:o_}(ho:ME K u v) (he:ME K o fe):ME K (tBM K "list" rAppF u (Cg o Gs)) (Pz v fe):=by
 intro β W c σ Q R s
 refine ho.toV _ W c _ _ R (s.bnd.mono λp y f v1 W1 h r j=>?_)
 by_cases hs:(slL y (nrm p)).isSome=true
 ·rw[if_pos hs]at f
  refine⟨ty_list r hs j,he.toV _ _ _ _ _ r (f.bnd.mono λq c2 D H W2 m z w=>?_)⟩
  obtain⟨d,A,W3,_,e,C,n,E,F⟩:=Eu z w D.bnd
  cases ex:slL A (nrm p) with
  | none=>simp only[ex]at e;exact e.elim
  | some x =>
   simp only[ex]at e;obtain⟨i,b,G⟩:=x;obtain⟨B,I⟩:=Wh ex;rw[B]at j;obtain⟨a,J,rfl,L,t,k⟩:=E.mut I j
   by_cases l:G.length<16000000
   ·rw[if_pos l]at e
    obtain⟨M,g⟩:=k _ _ (t.app (TrL.one F));rw[<- C]
    refine⟨a,H,J,rfl,rfl,L,by rw[<- t.length];exact gO l (by decide),?_⟩
    exact Ar3 M (h.trans (m.trans (n.trans g))) e
   ·rw[if_neg l]at e;exact e.elim
 ·rw[if_neg hs]at f;exact f.elim
def Np (fo fe:o_):o_:=λc=>(fo c).bind λp c=>if (slL c (nrm p)).isSome=true then (fe c).bind λq c=>match slL c (nrm p),Ab1 (Du c (nrm q)) with
 | some (i,b,ds),some k=>if ds.length<=16000000 then match ixN ds.length k with
  | some j=>match ds[j]? with
   | some d=>.ok (.o (.im d)) (c.set i (some (.ls b (ds.eraseIdx j))))
   | none=>.bad
  | none=>.bad
  else .bad
 | _,_=>.bad
 else .bad
theorem TrL.erase:∀{ds:w5}{vs:n_}(n:Nat),TrL Hf ds vs->TrL Hf (ds.eraseIdx n) (vs.eraseIdx n)
 | [],_,n,h=>by cases (show _=[] from h);exact rfl
 | d::ds,_,0,⟨v,r,rfl,_,t⟩=>t
 | d::ds,_,n+1,⟨v,r,rfl,q,t⟩=>⟨v,r.eraseIdx n,rfl,q,TrL.erase n t⟩
theorem TrL.setAt:∀{ds:w5}{vs:n_}(n:Nat) {d:t6}{v:V},TrL Hf ds vs->Tr Hf d v->TrL Hf (ds.set n d) (vs.set n v)
 | [],_,n,d,v,h,_=>by cases (show _=[] from h);exact rfl
 | e::ds,_,0,d,v,⟨u,r,rfl,_,t⟩,q=>⟨v,r,rfl,q,t⟩
 | e::ds,_,n+1,d,v,⟨u,r,rfl,h,t⟩,q=>⟨u,r.set n v,rfl,h,TrL.setAt n t q⟩
theorem Bc3 (ho:ME K z G) (he:ME K F fe):ME K (tBM K "list" rPopAt z (Cg F Gs)) (Np G fe):=by
 intro B W c H Q R s
 refine ho.toV B W c H _ R (s.bnd.mono λp O g v1 W1 n A w=>?_)
 by_cases hs:(slL O (nrm p)).isSome=true
 ·rw[if_pos hs]at g
  refine⟨ty_list A hs w,he.toV B _ _ _ _ A (g.bnd.mono λq D e v2 W2 h E I=>?_)⟩
  cases ex:slL D (nrm p) with
  | none=>simp only[ex]at e;exact e.elim
  | some x =>
   obtain⟨i,b,l⟩:=x
   cases ey:Ab1 (Du D (nrm q)) with
   | none=>simp only[ex,ey]at e;exact e.elim
   | some k =>
    simp only[ex,ey]at e
    by_cases hl:l.length<=16000000
    case neg=>rw[if_neg hl]at e;exact e.elim
    rw[if_pos hl]at e
    cases ej:ixN l.length k with
    | none=>simp only[ej]at e;exact e.elim
    | some j =>
     simp only[ej]at e
     cases ed:l[j]? with
     | none=>simp only[ed]at e;exact e.elim
     | some d =>
      simp only[ed]at e;obtain⟨L,N⟩:=Wh ex;rw[L]at w
      cases Dj (Gi E I (Ah8 ey))
      obtain⟨a,C,rfl,P,t,S⟩:=E.mut N w;obtain⟨y,M,U⟩:=t.got ed;obtain⟨T,q2,q3,q4⟩:=Ae2 ej;obtain⟨V,m⟩:=S _ _ (TrL.erase j t)
      have u:seqIndex? k C.length=some j:=by rw[<- t.length];exact T
      have f:-2 ^ 63<=k/\k<2 ^ 63:=by lia
      refine⟨a,C,k,j,y,rfl,rfl,P,f.1,f.2,u,M,?_⟩
      exact V.here (o:=.im d) U rfl λv W' fp X J r=>e v _ _ (n.trans (h.trans (m.trans X))) J r
 ·rw[if_neg hs]at g;exact g.elim
def A3t (fo fe:o_):o_:=λc=>(fo c).bind λp c=>if (slL c (nrm p)).isSome=true then (fe c).bind λq c=>(frz (nrm q) c).bind λd c=>match slL c (nrm p),d with
 | some (i,b,ds),.list es=>if ds.length+es.length<=16000000 then .ok (.o (.im .none)) (c.set i (some (.ls b (ds++es)))) else .bad
 | _,_=>.bad
 else .bad
theorem B0l {to te:TE}{fo fe:o_}(ho:ME K to fo)(he:ME K te fe):ME K (tBM K "list" rExtend to (Cg te Gs)) (A3t fo fe):=by
 intro β W c σ Q R s
 refine ho.toV β W c σ _ R (s.bnd.mono λp c1 s1 v1 W1 st1 R1 r1=>?_)
 by_cases hs:(slL c1 (nrm p)).isSome=true
 ·rw[if_pos hs]at s1
  refine⟨ty_list R1 hs r1,he.toV β W1 c1 σ _ R1 (s1.bnd.mono λq c2 s2 v2 W2 st2 R2 r2=>?_)⟩
  obtain⟨d,c3,W3,_,s3,e3,st3,R3,t3⟩:=Eu R2 r2 s2.bnd
  cases ex:slL c3 (nrm p) with
  | none=>simp only[ex]at s3;exact s3.elim
  | some x =>
   obtain⟨i,b,ds⟩:=x;simp only[ex]at s3
   match d,t3,s3 with
   | .list es,t3,s3 =>
    obtain⟨ep,hc⟩:=Wh ex;rw[ep]at r1;obtain⟨a,vs,rfl,hH,t,k⟩:=R3.mut hc r1
    have s3:(if ds.length+es.length<=16000000 then U.R.ok (PV.o (.im .none)) (c3.set i (some (.ls b (ds++es)))) else .bad).sat _:=s3
    by_cases l:ds.length+es.length<=16000000
    ·rw[if_pos l]at s3
     obtain⟨b2,us,rfl,h2,t2⟩:=t3;obtain⟨R4,st4⟩:=k (ds++es) (vs++us) (t.app t2);rw[<- e3]
     refine⟨a,b2,vs,us,rfl,rfl,hH,R3.sub _ _ h2,by rw[<- t.length,<- t2.length];exact lim l,?_⟩
     exact Ar3 R4 (st1.trans (st2.trans (st3.trans st4))) s3
    ·rw[if_neg l]at s3;exact s3.elim
   | .none,t3,s3=>exact s3.elim
   | .bool _,t3,s3=>exact s3.elim
   | .int _,t3,s3=>exact s3.elim
   | .str _,t3,s3=>exact s3.elim
   | .tuple _,t3,s3=>exact s3.elim
   | .dict _,t3,s3=>exact s3.elim
 ·rw[if_neg hs]at s1;exact s1.elim
def A1h (fo fi:o_):p_:=λp c=>(frz (nrm p) c).bind λd c=>(fo c).bind λo c=>(fi c).bind λq c=>match slL c (nrm o),Ab1 (Du c (nrm q)) with
 | some (i,b,ds),some k=>match ixN ds.length k with
  | some j=>.ok () (c.set i (some (.ls b (ds.set j d))))
  | none=>.bad
 | _,_=>.bad
theorem Bw0 (ho:ME K u A) (hi:ME K z fi):MG K (B3y u z Bt0) (A1h A fi):=by
 intro β W c σ p v fp k R r s;obtain⟨W0,M,l,C,F⟩:=B0f R r;obtain⟨d,c1,W1,_,D,E,n,G,I⟩:=Eu C F s.bnd;rw[<- M,<- E]
 refine ho.toV _ _ _ _ _ G (D.bnd.mono λo c2 J v2 W2 g L w=>?_)
 refine hi.toV _ _ _ _ _ L (J.bnd.mono λq y e v3 W3 f B N=>?_)
 cases ex:slL y (nrm o) with
 | none=>simp only[ex]at e;exact e.elim
 | some x =>
  obtain⟨i,b,O⟩:=x
  cases ey:Ab1 (Du y (nrm q)) with
  | none=>simp only[ex,ey]at e;exact e.elim
  | some m =>
   simp only[ex,ey]at e
   cases ej:ixN O.length m with
   | none=>simp only[ej]at e;exact e.elim
   | some j =>
    simp only[ej]at e;obtain⟨H,Q⟩:=Wh ex;rw[H]at w
    cases Dj (Gi B N (Ah8 ey))
    obtain⟨a,S,rfl,P,t,T⟩:=B.mut Q w;obtain⟨U,h⟩:=T _ _ (TrL.setAt j t (Tr.same (g.trans f).fz I))
    refine⟨a,S,m,j,rfl,rfl,P,by rw[<- t.length];exact ej,?_⟩
    exact e _ _ (l.trans (n.trans (g.trans (f.trans h)))) U
def B1y (i j:Nat)(f:o5):Ev->SR:=λc=>(f c).toS λps c=>(frzs ps c).toS λds c=>match ds with
 | [x,y]=>.nx ((c.set i (some (.im x))).set j (some (.im y)))
 | _=>.bad
theorem A6n (h:Wo.S ⟨W.Hf,W.H,clr W.fps i⟩ a):W.S a:=B2n h
theorem B2q (h:MA K m f):MS K (B2y i j m) (B1y i j f):=by
 intro β W c σ D R l
 refine h _ W c _ _ R ((Ga l).mono λps c1 C vs W1 k t w=>?_)
 obtain⟨A,c2,n,b,s,g,q,d⟩:=Rz t w (Ga C)
 match A,d,b with
 | [x,y],d,b =>
  obtain⟨v,r,rfl,B,u,r',rfl,E,e⟩:=d
  cases (e)
  refine⟨v,u,rfl,?_⟩
  have p:=q.setN (i:=i) (o:=.im x) B rfl;rw[<- s]
  exact b _ ⟨n.Hf,n.H,clr _ j⟩ ((k.trans g).less λa z=>A6n (A6n z)) (p.setN (i:=j) (o:=.im y) E rfl)
 | [],d,b=>trivial
 | [_],d,b=>trivial
 | _::_::_::_,d,b=>exact b.elim
def Be2 (i j m:Nat)(f:o5):Ev->SR:=λc=>(f c).toS λps c=>(frzs ps c).toS λds c=>match ds with
 | [x,y,z]=>.nx (((c.set i (some (.im x))).set j (some (.im y))).set m (some (.im z)))
 | _=>.bad
theorem Bp5 {i j m:Nat}{n:TA}{f:o5}(h:MA K n f):MS K (Bt4 i j m n) (Be2 i j m f):=by
 intro β W c σ D R l
 refine h _ W c _ _ R ((Ga l).mono λps c1 s vs W1 k t A=>?_)
 obtain⟨B,c2,p,b,C,g,E,d⟩:=Rz t A (Ga s)
 match B,d,b with
 | [x,y,z],d,b =>
  obtain⟨v,r,rfl,G,u,r',rfl,F,w,H,rfl,I,e⟩:=d
  cases (e)
  refine⟨v,u,w,rfl,?_⟩
  have q:=(E.setN (i:=i) (o:=.im x) G rfl).setN (i:=j) (o:=.im y) F rfl;rw[<- C]
  exact b _ ⟨p.Hf,p.H,clr _ m⟩ ((k.trans g).less λa z=>A6n (A6n (A6n z))) (q.setN (i:=m) (o:=.im z) I rfl)
 | [],d,b=>trivial
 | [_],d,b=>trivial
 | [_,_],d,b=>trivial
 | _::_::_::_::_,d,b=>exact b.elim
end
end U
set_option autoImplicit true
namespace L2
open PySem U
theorem Bf (ha:QE X a ta)(hb:QE X b tb):QE X (.BinOp a .Add b pos) (tOp Bz0 ta tb):=⟨X8 B0b ha.get hb.get⟩
theorem Ze (hu:X.A.units+64<cLine)(ha:QE X a ta)(hb:QE X b tb):QE X (.Compare a [.Eq] [b] pos) (tOp rEQ ta tb):=⟨Ab7 (Bs9 hu) ha.get hb.get (M3 _)⟩
theorem Us (hu:X.A.units+64<cLine)(ha:QE X a ta)(hb:QE X b tb):QT X (.Compare a [.Eq] [b] pos) (O7 (tOp rEQ ta tb)):=⟨Jt (Bs9 hu) ha.get hb.get (M3 _)⟩
theorem Zc (hu:X.A.units+64<cLine)(ha:QE X a ta)(hb:QE X b tb):QT X (.Compare a [.NotEq] [b] pos) (O7 (tOp rNE ta tb)):=⟨Jt (B3t hu) ha.get hb.get (M3 _)⟩
theorem Et (a:X.K=Kq) (hgl:Gl X "len") (hm:X.mg "len" = none) (ha:QA X (e::es) t) (hns:noStar (e::es)=true:=by rfl):QE X (.Call (.Name "len" p) (e::es) [] pos) (tCB (Bq3 Kq) t):=by
 subst a
 exact⟨Ew A8d hgl hm Bx0 ha.get (by decide) (by rfl) hns⟩
theorem A9q (a:X.K=Kq) (hu:X.A.units+64<cLine) (hg:X.A.guards=some []) (hgl:Gl X "str") (hm:X.mg "str" = none) (ha:QA X (e::es) t) (hns:noStar (e::es)=true:=by rfl):QE X (.Call (.Name "str" p) (e::es) [] pos) (tCB (B2e Kq) t):=by
 exact⟨Mf (U.CallR.or (U.CallR.or Aa9 (A5l hu hg)) A5c) hgl hm Aa6 ha.get (by decide) (by rfl) hns⟩
theorem Mj (a:X.K=Kq) (he:QE X e te) (hl:QO X low tl) (hu:QO X hi th):QE X (.Subscript e (.Slice low hi none p2) pos) (tSl (rSL Kq) te tl th):=by
 subst a;exact Bf3 B1p he hl hu
end L2
namespace U
open PySem L2
def Def (P:u6)(w:World)(K:v9)(mg:x_)(base:Heap)(x:Str)(k:Nat)(ps:v4)(sp:Sp):Prop :=
 ∃(f:Addr) (fd:u5),FnOk P w K mg base CX0 k f fd ps sp/\Binds K fd ps []/\PySem.W.keepIn K (.ref f)=true/\mg x=some (.ref f)
def A1s (K:v9):Sp:=λvs H Q _=>∃(a:Addr) (ns:List Int),vs=[.ref a]/\SqL K H a (ns.map V.int)/\ns.length<=63/\∀H',Q (.bl true) H'
theorem B0a (f:∀b:List Int,b.length<=63->F [.sc b]=.ret (.im (.bool true)) [.sc b]) (h:A1s K vs H Q E):spP K F vs H Q E:=by
 obtain⟨a,b,rfl,c,d,q⟩:=h
 refine⟨λ_=>.non,⟨H,H,λ_=>[]⟩,[.sc b],rfl,rfl,⟨Same.refl _,rfl,λi o e=>?_,λi j a h=>by grind,λi a h=>by grind⟩,?_⟩
 ·cases i with
  | zero =>
   cases (show some _=some _ from e)
   exact⟨.ref a,rfl,⟨rfl,a,rfl,c⟩,λz=>nomatch z⟩
  | succ i=>grind
 ·rw[f _ d]
  intro v W' fp st R r n
  cases (show v=.bl _ from r.2)
  grind
theorem By8 : FnOk P w K mg base CX0 n f c ps (spP K λ_=>.bad) :=
 ⟨λd H Q E h=>by obtain⟨_,_,_,_,_,_,h⟩:=h;simp_all,λA a s H b e d Q E _ _ _ _ h=>by obtain⟨_,_,_,_,_,_,h⟩:=h;simp_all⟩
noncomputable def A2j (i j:Int):Bool:=decide (0<j)&&decide (j<1073741824)
theorem Ba3 (i j:Int)(h:A2j i j=true):Bl9 i j:=by
 obtain⟨b,a⟩:=aA.mp h;exact⟨aV b,aV a⟩
noncomputable def A8l (i j:Int):Bool:=decide (0<j)
theorem A8s (i j:Int)(h:A8l i j=true):0<j:=aV h
noncomputable def Aq4 (i j:Int):Bool:=decide (0<=j)&&(decide (j<=1000000)&&decide (i.natAbs<2 ^ 64))
theorem A9v (i j:Int)(h:Aq4 i j=true):Bm9 i j:=by
 obtain⟨c,a⟩:=aA.mp h;obtain⟨a,b⟩:=aA.mp a;exact⟨aV c,aV a,aV b⟩
section
variable {K:v9}
abbrev O9:t6->t6->n8:=Yl λi j=>.int (i-j)
abbrev Yo:t6->t6->n8:=Yl λi j=>.bool (decide (j<i))
abbrev B0r:t6->t6->n8:=Yl λi j=>.bool (decide (j<=i))
theorem Bo3:OpS K (rI0 λi j=>.int (i-j)) O9:=Af5 λ_ _ _=>rfl
theorem B1l:OpS K (rI0 λi j=>.bl (decide (j<i))) Yo:=Af5 λ_ _ _=>rfl
theorem B2b:OpS K (rI0 λi j=>.bl (decide (j<=i))) B0r:=Af5 λ_ _ _=>rfl
abbrev Ac7:t6->t6->n8:=opI A2j λi j=>i / j
abbrev Rh:t6->t6->n8:=opI A8l λi j=>i % j
abbrev Ue:t6->t6->n8:=opI Aq4 λi j=>i ^ j.toNat
theorem A7o:OpS K (rI Bl9 λi j=>.int (i / j)) Ac7:=A1v Ba3
theorem Bn4:OpS K (rI (λ_ j=>0<j) λi j=>.int (i % j)) Rh:=A1v A8s
theorem Bq2:OpS K (rI Bm9 λi j=>.int (i ^ j.toNat)) Ue:=A1v A9v
def B0t (fa fb:o_):o_:=λc=>(fa c).bind λp c=>(fb c).bind λq c=>match nrm p,Ab1 (Du c (nrm q)) with
 | .o (.sc ns),some k=>match atI ns k with
  | some i=>.ok (.o (.im (.int i))) c
  | none=>.bad
 | _,_=>.bad
theorem Bs4 (h:atI ns k=some i):atI (ns.map V.int) k=some (V.int i):=by
 unfold atI at h ⊢;obtain⟨j,b,a⟩:=cP.mp h
 simp_all
theorem B1f (ha:ME K h fa) (hb:ME K j fb):ME K (tOp (rIx K) h j) (B0t fa fb):=by
 intro β W c σ Q R s
 refine ha.toV _ W c _ _ R (s.bnd.mono λp c1 u v1 W1 f n d=>?_)
 refine hb.toV _ _ _ _ _ n (u.bnd.mono λq t b v2 W2 e g m=>?_)
 have d:=RepA.same e.fz d
 cases ey:Ab1 (Du t (nrm q)) with
 | none =>
  simp only[ey]at b;generalize nrm p=np at b
  cases np with
  | sl i=>trivial
  | o o=>cases o <;> exact b.elim
 | some k =>
  simp only[ey]at b;generalize nrm p=np at b d
  match np,d,b with
  | .o (.sc ns),d,b =>
   have b:(match atI ns k with
    | some i=>U.R.ok _ _
    | none=>.bad).sat _:=b
   cases ei:atI _ k with
   | none=>rw[ei]at b;trivial
   | some i =>
    rw[ei]at b;obtain⟨a,rfl,w⟩:=d
    cases Dj (Gi g m (Ah8 ey))
    exact .inl ⟨a,_,k,.int i,rfl,rfl,Same.seq g.sub w,Bs4 ei,g.here (o:=.im (.int i)) rfl rfl λv W' fp x l r=>b v _ _ (f.trans (e.trans x)) l r⟩
  | .o (.im _),d,b=>exact b.elim
  | .o (.ls _ _),d,b=>exact b.elim
  | .o (.ty _),d,b=>exact b.elim
  | .sl _,d,b=>trivial
end
section
variable {w:World}{K:v9}{Hf H:Hp}{Q:VK}{W:Wo}{c:Ev}{v:V}
def cMt (isT:t6->Bool)(op:t6->t6->n8)(fa fb:o_):o_:=λc=>(fa c).bind λp c=>match Du c (nrm p) with
 | some d=>if isT d=true then (fb c).bind λq c=>match Du c (nrm p),Du c (nrm q) with
  | some x,some y=>match op x y with
   | some o=>.ok (.o o) c
   | none=>.bad
  | _,_=>.bad
  else .bad
 | none=>.bad
theorem Az9 (ha:ME K l fa) (hb:ME K m fb)
 (n:∀(Hf H:Hp) (d:t6) (v:V),a d=true->Same Hf H->RdV Hf H d v->tyV K T v H) (hr:OpS K (λx y H Q=>r x [y] H Q) op):ME K (tBM K T r l (Cg m Gs)) (cMt a op fa fb):=by
 intro E W c C Q R s
 refine ha.toV _ W c _ _ R (s.bnd.mono λp w e B D i h j=>?_)
 cases ed:Du w (nrm p) with
 | none=>simp only[ed]at e;trivial
 | some d =>
  simp only[ed]at e
  by_cases it:a d=true
  case neg=>rw[if_neg it]at e;trivial
  rw[if_pos it]at e
  refine⟨n _ _ d _ it h.sub (Gi h j ed),?_⟩
  refine hb.toV _ _ _ _ _ h (e.bnd.mono λq k b I J f g u=>?_)
  cases ex:Du k (nrm p) with
  | none=>simp only[ex]at b;trivial
  | some x =>
   cases ey:Du k (nrm q) with
   | none=>simp only[ex,ey]at b;trivial
   | some y =>
    simp only[ex,ey]at b
    cases eo:op x y with
    | none=>simp only[eo]at b;trivial
    | some o =>
     simp only[eo]at b
     exact hr _ _ _ _ x y o Q g.sub (Gi g (RepA.same f.fz j) ex) (Gi g u ey) eo (New.of g λv F G z A t=>b v _ _ (i.trans (f.trans z)) A t)
noncomputable def Qc:t6->Bool
 | .tuple _=>true
 | _=>false
theorem Be6 (Hf H:Hp)(d:t6)(v:V)(h:Qc d=true)(s:Same Hf H)(r:RdV Hf H d v):tyV K "tuple" v H:=by
 cases d with
 | tuple ds =>
  obtain⟨a,c,rfl,b,t⟩:=Ia s r;exact .inr (.inr (.inr (.inr ⟨rfl,c,b⟩)))
 | _=>cases h
noncomputable def strsOf:w5->Option (v4)
 | []=>some []
 | .str z::ds=>(strsOf ds).map (z::·)
 | _=>none
theorem Ay9:∀{ds:w5}{ss:v4}{vs:n_},strsOf ds=some ss->TrL Hf ds vs->vs=ss.map V.str
 | [],ss,vs,h,t=>by cases h;exact t
 | d::ds,ss,_,h,⟨v,r,rfl,h1,h2⟩=>by
  cases d with
  | str z =>
   have h:(strsOf ds).map (z::·)=some ss:=h
   cases e:strsOf ds with
   | none=>rw[e]at h;cases h
   | some ts =>
    rw[e]at h;cases h
    rw[Ay9 e h2,show v=V.str z from h1];rfl
  | _=>cases h
noncomputable def Y0 (y:Str):v4->Option Nat
 | []=>none
 | x::xs=>if x==y then some 0 else (Y0 y xs).map (·+1)
theorem A0v {y:Str}:∀{xs:v4}{j:Nat},Y0 y xs=some j->xs[j]?=some y/\∀m<j,xs[m]?≠some y
 | [],j,h=>by cases h
 | x::xs,j,h=>by
  unfold Y0 at h
  by_cases q:(x==y)=true
  ·rw[if_pos q]at h;cases h
   exact⟨by simpa using q,λm hm=>absurd hm (Nat.not_lt_zero _)⟩
  ·rw[if_neg q]at h
   cases e:Y0 y xs with
   | none=>rw[e]at h;cases h
   | some k =>
    rw[e]at h;cases h;obtain⟨h1,h2⟩:=A0v e
    refine⟨by simpa using h1,λm hm=>?_⟩
    cases m with
    | zero=>simpa using q
    | succ m=>simpa using h2 m (Nat.lt_of_succ_lt_succ hm)
def Ls:t6->t6->n8
 | .tuple ds,.str y=>(strsOf ds).bind λss=>(Y0 y ss).map λj=>.im (.int (j:Nat))
 | _,_=>none
theorem Z4:OpS K (λx y H Q=>Ac6 K x [y] H Q) Ls:=by
 intro Hf H x y dx dy o Q s f g e n;unfold Ls at e
 split at e
 ·rename_i d z
  obtain⟨a,vs,rfl,i,t⟩:=Ia s f
  cases es:strsOf d with
  | none=>grind
  | some b =>
   rw[es]at e;have e:(Y0 z _).map _=some o:=e
   cases ei:Y0 z b with
   | none=>grind
   | some j =>
    rw[ei]at e;cases e
    cases Hg g
    cases Ay9 es t
    obtain⟨h,c⟩:=A0v ei;exact⟨a,b,z,j,rfl,rfl,SqT.of i,h,c,n.int s⟩
 grind
end
section
theorem Td (ss:v4):(ss.map V.str).all R8=true:=by
 induction ss with
 | nil=>rfl
 | cons a r b=>rw[aF,List.all_cons,b];rfl
end
end U
namespace L2
open PySem U
theorem A4n (d:X.K=Kq) (ha:QE X a e) (hb:QE X b f) (hm:behindInMarks .NotIn b=false):QT X (.Compare a [.NotIn] [b] c) (O7 (tOp (rIn Kq true) e f)):=by
 subst d;exact⟨Jt Ag5 ha.get hb.get hm⟩
end L2
namespace U
open PySem L2 PySem.W
noncomputable def kdOf:w5->Kd
 | _=>.ss
def Aq1 (ds ks:w5):Option (w5):=if ds.length<2 then some ds else if ds.length<64&&(ks.all (U0 (kdOf ks))&&ks.all Cq) then (kEv (A5e (kdOf ks) ks) (kas_sort ds.length)).map λp=>p.toList.map λi=>ds.getD i .none else none
section
variable {Hf:Hp}
theorem TrL.at_:∀{ds:w5}{vs:n_},TrL Hf ds vs->∀i,Tr Hf (ds.getD i .none) (vs.getD i .non)
 | [],_,h,i=>by cases (show _=[] from h);exact rfl
 | d::ds,_,⟨v,r,e,t,ts⟩,0=>by subst e;exact t
 | d::ds,_,⟨v,r,e,t,ts⟩,i+1=>by subst e;exact TrL.at_ ts i
theorem TrL.pick {ds:w5}{vs:n_}(t:TrL Hf ds vs):∀l:List Nat,TrL Hf (l.map λi=>ds.getD i .none) (l.map λi=>vs.getD i .non)
 | []=>rfl
 | i::l=>⟨_,_,rfl,TrL.at_ t i,TrL.pick t l⟩
theorem TrL.len':∀{ds:w5}{vs:n_},TrL Hf ds vs->ds.length=vs.length
 | [],_,h=>by cases (show _=[] from h);rfl
 | d::ds,_,⟨v,r,e,t,ts⟩=>by subst e;rw[bM,bM,TrL.len' ts]
end
end U
namespace U
open PySem L2
section
variable {K:v9}{Hf H:Hp}
noncomputable def Qk:t6->Bool
 | .list _=>true
 | _=>false
theorem Ay3 (Hf H:Hp)(d:t6)(v:V)(h:Qk d=true)(s:Same Hf H)(r:RdV Hf H d v):tyV K "list" v H:=by
 cases d with
 | list ds =>
  obtain⟨a,c,rfl,b,t⟩:=Fg r;exact .inl ⟨rfl,c,SqL.of b⟩
 | _=>cases h
noncomputable def A8o:List Bool->Option Nat
 | []=>none
 | true::_=>some 0
 | false::r=>(A8o r).map (·+1)
theorem Az8:∀{bs:List Bool}{j:Nat},A8o bs=some j->bs[j]?=some true/\∀m<j,bs[m]?≠some true
 | true::r,j,h=>by cases h;exact⟨rfl,λm hm=>by lia⟩
 | false::r,j,h=>by
  obtain⟨k,h1,rfl⟩:=aW.mp (show (A8o r).map (·+1)=some j from h)
  obtain⟨q1,q2⟩:=Az8 h1
  refine⟨by rw[dw];exact q1,λm hm=>?_⟩
  cases m with
  | zero=>simp
  | succ m=>rw[dw];exact q2 m (by lia)
def Wg:t6->t6->n8
 | .list ds,.bool true=>(boolsOf ds).bind λbs=>(A8o bs).bind λj=>if j<1000000 then some (.im (.int (j:Nat))) else none
 | _,_=>none
theorem We:OpS K (λx y H Q=>A1c K x [y] H Q) Wg:=by
 intro Hf H x y dx dy o Q s rx ry e n;unfold Wg at e
 split at e
 ·rename_i ds
  obtain⟨bs,e1,e2⟩:=cP.mp (show ((boolsOf ds).bind λbs=>(A8o bs).bind λj=>if j<1000000 then some (O.im (.int (j:Nat))) else none)=some o from e)
  obtain⟨j,e3,e4⟩:=cP.mp e2
  by_cases hb:j<1000000
  ·rw[if_pos hb]at e4
   cases e4
   obtain⟨a,vs,rfl,h1,t⟩:=Fg rx
   cases Ai4 e1 t
   cases (show y=.bl true from ry)
   obtain⟨q1,q2⟩:=Az8 e3;exact⟨a,bs,j,rfl,rfl,SqL.of h1,q1,q2,hb,n.int s⟩
  ·rw[if_neg hb]at e4;cases e4
 ·cases e
end
inductive XF where
 | ret (o:O)
 | ex (nm:Xn)
 | bad
inductive XS where
 | s (r:SR)
 | ex (nm:Xn) (c:Ev)
def spX (K:v9)(F:w5->XF):Sp:=λvs H Q E=>∃(Hf:Hp) (ds:w5),Same Hf H/\TrL Hf ds vs/\match F ds with
 | .bad=>False
 | .ret o=>∀v Hf' H' fp,Stp (λ_=>False) Hf H (λa=>a∈fp) Hf' H'->Same Hf' H'->RepO K Hf' H' o v fp->Q v H'
 | .ex nm=>∀C d Hf' H',XAt K Hf' nm C d->Stp (λ_=>False) Hf H (λ_=>False) Hf' H'->Same Hf' H'->E (.ref C) d H'
def LeadX (K:v9)(β:Nat->V)(W:Wo)(D:Ends)(E:XK):XS->Prop
 | .s r=>zK K β W D r
 | .ex nm c'=>∀C d σ' W',XAt K W'.Hf nm C d->Stp W.S W.Hf W.H W'.S W'.Hf W'.H->Rep K β W' c' σ'->E (.ref C) d W'.H
def MX (K:v9)(E:XK)(T:TS)(f:Ev->XS):Prop:=∀(β:Nat->V) (W:Wo) (c:Ev) (σ:St) (D:Ends),Rep K β W c σ->LeadX K β W D E (f c)->T D σ W.H
noncomputable def K5 (f:Ev->SR):Ev->XS:=λc=>.s (f c)
noncomputable def T9 (f g:Ev->XS):Ev->XS:=λc=>match f c with
 | .s (.nx c)=>g c
 | r=>r
noncomputable def xIf (t:o7) (f g:Ev->XS):Ev->XS:=λc=>match t c with
 | .ok b c=>if b=true then f c else g c
 | .bad=>.s .bad
def Sq (nm:Str)(fa:o5):Ev->XS:=λc=>match fa c with
 | .ok _ c=>.ex ⟨nm,none⟩ c
 | .bad=>.s .bad
noncomputable def scO:O->Bool
 | .im .none=>true
 | .im (.bool _)=>true
 | .im (.int _)=>true
 | .im (.str _)=>true
 | _=>false
def Bt6 (F:w5->XF)(fa:o5)(k:O->Ev->XS)(h:Xn->Ev->XS):Ev->XS:=λc=>match fa c with
 | .bad=>.s .bad
 | .ok ps c=>match A8z c ps with
  | none=>.s .bad
  | some ds=>match F ds with
   | .bad=>.s .bad
   | .ret o=>if scO o=true then k o c else .s .bad
   | .ex nm=>if nm.p.isNone=true then h nm c else .s .bad
def T4 (n N:Nat)(body:Ev->XS):w5->XF:=λds=>if ds.length=n then match body (ds.map (λd=>some (.im d))++List.replicate (N-n) none) with
 | .s (.nx _)=>.ret (.im .none)
 | .s (.rt p c)=>match resolve p c with
  | some (o,_)=>.ret o
  | none=>.bad
 | .ex nm _=>.ex nm
 | _=>.bad
 else .bad
section
variable {K:v9}{β:Nat->V}{W W':Wo}{c c':Ev}{D:Ends}{E:XK}{Hf H:Hp}{o:O}{v:V}
theorem LeadX.step {r:XS}(h:LeadX K β W D E r)(st:Stp W.S W.Hf W.H W'.S W'.Hf W'.H):LeadX K β W' D E r:=by
 cases r with
 | s r=>exact zK.step h st
 | ex g c=>exact λC d e i b a f=>h C d _ _ b (st.trans a) f
theorem U6 {T:TS}{f:Ev->SR}(h:MS K T f):MX K E T (K5 f):=λb W c a D R l=>h _ W c _ D R l
theorem Av1 {T U:TS}{f g:Ev->XS}(h1:MX K E T f)(h2:MX K E U g):MX K E (A3i T U) (T9 f g):=by
 intro m W c i D R l
 refine h1 _ W c _ _ R ?_
 unfold T9 at l
 cases e:f c with
 | ex j a=>rw[e]at l;exact l
 | s r =>
  rw[e]at l
  cases r with
  | nx a=>exact λh k d b=>h2 _ _ _ _ D b (LeadX.step l d)
  | rt p a=>exact l
  | bk a=>exact l
  | ct a=>exact l
  | bad=>exact l
theorem A8w {i:TT}{T U:TS}{ft:o7}{f g:Ev->XS}(h:MT K i ft)(h1:MX K E T f)(h2:MX K E U g):MX K E (Bw9 i T U) (xIf ft f g):=by
 intro j W c n D R l;unfold xIf at l
 refine h _ W c _ _ R ?_
 cases e:ft c with
 | bad=>rw[e]at l;exact l
 | ok b k =>
  rw[e]at l;intro m d a
  cases b with
  | true=>exact h1 _ _ _ _ D a (LeadX.step l d)
  | false=>exact h2 _ _ _ _ D a (LeadX.step l d)
theorem Xm {nm:Str}{C:Addr}{t:TA}{d:o5}(hn:PySem.W.nsIn K mainGlobals nm=some (some (.ref C)))(ha:MA K t d)(hl:∀c a c',d c=.ok a c'->a.length<=1000):MX K E (A6m C E t) (Sq nm d):=by
 intro β W c i D R l;unfold Sq at l
 refine ha _ W c _ _ R ?_
 cases e:d c with
 | bad=>rw[e]at l;exact l
 | ok a c1 =>
  rw[e]at l;intro b f j g k
  have:∀{a:List _} {b:n_},zQ K f.Hf i a b->b.length=a.length:=λ{a}=>by
   induction a with
   | nil=>intro b h;cases (h);rfl
   | cons p r ih=>intro b h;obtain⟨v,vr,rfl,_,t⟩:=h;simp_all
  exact⟨by rw[this k];exact aq (hl c _ _ e) (by decide),l C _ _ _ ⟨hn,rfl⟩ j g⟩
theorem N8 {S:Addr->Prop}{b:Hp}(s:Same H b):Stp S Hf H S Hf b:=⟨Same.refl _,λa o e _=>s a o e,λa o e c n q=>q,λa z=>.inl z⟩
theorem A2n (h:orS S [] a):S a:=by
 grind
theorem Ac4 {n N:Nat}{body:Ev->XS}{vs:n_}{Q:VK}(hs:spX K (T4 n N body) vs H Q E):vs.length=n:=by
 obtain⟨d,b,c,t,a⟩:=hs;unfold T4 at a
 by_cases hn:b.length=n
 ·rw[<- t.length];grind
 simp_all
theorem Ag9 {n:Nat}{N:v4}{body:Ev->XS}{T:TS}{vs:n_}{Q:VK}(h:MX K E T body)(hs:spX K (T4 n N.length body) vs H Q E):T { nx:=λ_ G=>Q .non G,rt:=Q } (start N vs) H:=by
 obtain⟨P,u,A,t,c⟩:=hs;unfold T4 at c
 by_cases l:u.length=n
 ·rw[if_pos l]at c
  have B:=t.length
  let W:Wo:=⟨P,H,λ_=>[]⟩
  have R:Rep K (λ_=>.non) W (u.map (λd=>some (.im d))++List.replicate (N.length-n) none) (start N vs):=by
   refine⟨A,?_,λi o e=>?_,(λi j a z=>nomatch z),λi a z=>nomatch z⟩
   ·show _=(vs.map some++List.replicate (N.length-vs.length) none).length
    rw[aH,aH,ao,ao,j0,j0,<- B,l]
   ·by_cases li:i<u.length
    ·rw[dB (by rw[ao];exact li),bJ]at e
     cases ed:u[i]? with
     | none=>rw[ed]at e;cases e
     | some d =>
      rw[ed]at e;cases e;obtain⟨v,J,L⟩:=t.got ed
      refine⟨v,?_,⟨rfl,L⟩,λz=>nomatch z⟩
      show (vs.map some++List.replicate (N.length-vs.length) none)[i]?=_
      rw[dB (by rw[ao,<- B];exact li),bJ,J];rfl
    ·rw[dM (by rw[ao];exact ji li),List.getElem?_replicate]at e
     split at e <;> cases e
  have b:∀a,W.S a->False:=λa ⟨i,z⟩=>nomatch z
  refine h _ W _ (start N vs) _ R ?_
  cases eb:body (u.map (λd=>some (.im d))++List.replicate (N.length-n) none) with
  | ex Y k =>
   rw[eb]at c
   exact λC d w g l f m=>c C d g.Hf g.H l ⟨f.fz,λa o e _=>f.kp a o e (b a),λa o e x _ q=>f.nf a o e x (b a) q,λa z=>z.elim⟩ m.sub
  | s r =>
   rw[eb]at c
   cases r with
   | nx k=>exact λw g f m=>c .non g.Hf g.H [] ⟨f.fz,λa o e _=>f.kp a o e (b a),λa o e x _ q=>f.nf a o e x (b a) q,λa z=>nomatch z⟩ m.sub ⟨rfl,rfl⟩
   | rt p k =>
    intro w v g X f m O
    cases er:resolve p k with
    | none=>simp only[er]at c
    | some q =>
     simp only[er]at c;obtain⟨Z,I,M,D,U,S,n2,F⟩:=Vy m O er;rw[<- D]
     refine c v _ _ _ ?_ U.sub S
     rw[M,D]
     refine⟨f.fz,λa o e _=>f.kp a o e (b a),λa o e x _ q=>f.nf a o e x (b a) q,λa z=>?_⟩
     rcases f.fr a (F a (.inr z)) with y | y
     ·exact(b a y).elim
     ·exact .inr y
   | bk k=>exact c.elim
   | ct k=>exact c.elim
   | bad=>exact c.elim
 ·rw[if_neg l]at c;exact c.elim
end
end U
set_option autoImplicit true
namespace U
open PySem L2
def R9 (tbl:List (Str×Bool))(f:o_):o_:=λc=>(f c).bind λp c=>match rdP c p with
 | some (.ty (.xc nm))=>match tbl.lookup nm.n with
  | some b=>.ok (.o (.im (.bool b))) c
  | none=>.bad
 | _=>.bad
def Bc8 (f:o_):o_:=λc=>(f c).bind λp c=>match rdP c p with
 | some (.ty (.xc _))=>.ok (.o (.im (.bool false))) c
 | some (.im .none)=>.ok (.o (.im (.bool true))) c
 | _=>.bad
section
variable {K:v9}{β:Nat->V}{W W':Wo}{c:Ev}{σ:St}{Hf H:Hp}{o:O}{v:V}{fp:v6}
theorem Bd4 {p:PV}{nm:Xn}(R:Rep K β W c σ)(r:Eg K W σ p v fp)(e:rdP c p=some (.ty (.xc nm))):RepN K W.Hf (.ty (.xc nm)) v:=by
 cases p with
 | o f=>cases e;exact r.1.2
 | sl i =>
  have e:c[i]?.join=some _:=e
  have b:c[i]?=some (some (.ty (.xc nm))):=by
   grind
  obtain⟨g,a,d,_⟩:=R.get i _ b;have h := r.2;rw[h]at a;cases a;exact d.2
theorem Oa {l:TE}{f:o_}{cv:V}{z:Value}{i:List (Str×Bool)}(hz:Bv6 cv=some z)(ht:∀nm b,i.lookup nm=some b->∀C,PySem.W.nsIn K mainGlobals nm=some (some (.ref C))->Sv K C/\PySem.W.kitOne K (.ref C) z=some b)(h:ME K l f) :
 ME K (tCB (Av0 K) (Cg l (Cg (tC cv) Gs))) (R9 i f):=by
 intro w W c x Q R s
 refine h _ W c _ _ R (s.bnd.mono λp q g y A r j k t=>?_)
 cases ed:rdP q p with
 | none=>simp only[ed]at g;trivial
 | some o =>
  simp only[ed]at g
  match o,ed,g with
  | .ty (.xc nm),ed,g =>
   cases el:i.lookup nm.n with
   | none=>simp only[el]at g;trivial
   | some b =>
    simp only[el]at g;obtain⟨a,C,d,e,n,u⟩:=Bd4 k t ed;subst e;obtain⟨v,m⟩:=ht _ b el C n.ns
    refine⟨a,C,d,cv,z,b,rfl,k.sub _ _ u,v,hz,m,?_⟩
    exact g _ _ _ (j.less λa z=>by
     grind) k ⟨⟨rfl,rfl⟩,λa z=>nomatch z⟩
  | .ty (.nm _),ed,g=>trivial
  | .ty (.tc _),ed,g=>trivial
  | .ty (.dc _ _),ed,g=>exact g.elim
  | .ty (.dt _ _),ed,g=>exact g.elim
  | .ty (.ds _ _),ed,g=>exact g.elim
  | .ty (.td _ _ _),ed,g=>exact g.elim
  | .im _,ed,g=>exact g.elim
  | .ls _ _,ed,g=>exact g.elim
  | .sc _,ed,g=>trivial
theorem B1i {p:PV}(R:Rep K β W c σ)(r:Eg K W σ p v fp)(e:rdP c p=some (.im .none)):v=.non:=by
 cases p with
 | o f=>cases e;exact r.1.2
 | sl i =>
  have e:c[i]?.join=some _:=e
  have b:c[i]?=some (some (.im .none)):=by
   grind
  obtain⟨g,a,d,_⟩:=R.get i _ b;have h := r.2;rw[h]at a;cases a;exact d.2
theorem A0t {m:TE}{f:o_}(h:ME K m f):ME K (tOp (λx y H Q=>y=.non/\Q (.bl (decide (x=.non))) H) m (tC .non)) (Bc8 f):=by
 intro u W c t Q R s
 refine h _ W c _ _ R (s.bnd.mono λp q g A w r j l n=>?_)
 refine⟨rfl,?_⟩
 have i:∀b ,(∀v W' fp,Stp _ _ _ (orS W'.S fp) W'.Hf W'.H->Rep K _ W' _ _->Eg K W' t (.o (.im (.bool b))) v fp->Q v W'.H)->Q _ _:=λb k=>k _ _ _ (j.less λa z=>by
  grind) l ⟨⟨rfl,rfl⟩,λa z=>nomatch z⟩
 cases ed:rdP q p with
 | none=>simp only[ed]at g;trivial
 | some o =>
  simp only[ed]at g
  match o,ed,g with
  | .ty (.xc _),ed,g =>
   obtain⟨a,C,d,e,_⟩:=Bd4 l n ed;subst e;exact i _ g
  | .im .none,ed,g=>cases B1i l n ed;exact i _ g
  | .im (.bool _),ed,g=>trivial
  | .im (.int _),ed,g=>trivial
  | .im (.str _),ed,g=>trivial
  | .im (.list _),ed,g=>trivial
  | .im (.tuple _),ed,g=>trivial
  | .im (.dict _),ed,g=>exact g.elim
  | .ty (.nm _),ed,g=>exact g.elim
  | .ty (.tc _),ed,g=>exact g.elim
  | .ty (.dc _ _),ed,g=>exact g.elim
  | .ty (.dt _ _),ed,g=>exact g.elim
  | .ty (.ds _ _),ed,g=>exact g.elim
  | .ty (.td _ _ _),ed,g=>exact g.elim
  | .ls _ _,ed,g=>exact g.elim
  | .sc _,ed,g=>trivial
end
end U
set_option autoImplicit true
namespace L2
open PySem PySem.Spec PyProof.Rows PySem.W
section
variable {P:u6}{w:World}{K:v9}{mg:x_}{base:Heap}
theorem Fun.okX {x qual:Str}{st:Stmt}{f:Addr}{h:u5}{N ps:v4}{k:Nat}{sp:Sp}(F:Fun K x qual st f h)(S:Ba N ps (Ah st))(g:∀vs H Q E,sp vs H Q E->vs.length=ps.length)
 (b:∀(c:Value) (A:t_) (a:List Env) (s:u_) (H:Hp) (vs:n_) (Q:VK) (E:XK),Room k (A.deeper (envOfC qual (Ah st) s.heap.objs.size f c))->sp vs H Q E ->
  ∃t,PSs (Jm (CXe P w) P w K mg base N qual (Ah st) f c A a s H E) (Cy st) t/\t { nx:=λ_ m=>Q .non m,rt:=Q } (start N vs) H):FnOk P w K mg base (CXe P w) (k+1) f h ps sp:=by
 obtain⟨oc,od,kV,j,pm,an,c,ct,l,rfl,i,e⟩:=F.ex
 exact A7n i e S g λA a s H vs Q E n d=>b _ A _ s H _ Q E n d
end
section
variable {X:Cx}{y:Str}{pos p:Pos}{e:Expr}{es:v_}{t:TA}
theorem Kc {D:Addr}(hg:Gl X y)(hm:X.mg y=some (.ref D))(hdb:(y==("__debug__" : Str))=false:=by decide):QE X (.Name y p) (tC (.ref D)):=⟨B2h hg hm hdb⟩
theorem Ra {Kq:v9}(a:X.K=Kq)(hgl:Gl X "isinstance") (hm:X.mg "isinstance" = none) (ha:QA X (e::es) t) (hn:noStar (e::es)=true:=by rfl):QE X (.Call (.Name "isinstance" p) (e::es) [] pos) (tCB (Av0 Kq) t):=by
 subst a
 exact⟨Ew A4w hgl hm Hr ha.get (by decide) (by rfl) hn⟩
theorem Yv:bootBuiltins "ValueError" = some (.type "ValueError"):=by decide +kernel
end
def TbOk (K:v9)(z:Value)(tbl:List (Str×Bool)):Prop:=∀nm b,tbl.lookup nm=some b->∀C,PySem.W.nsIn K mainGlobals nm=some (some (.ref C))->Sv K C/\PySem.W.kitOne K (.ref C) z=some b
def ExOk (K:v9)(Fc:Addr)(NS:v4):Prop:=∀nm∈NS,∀C,PySem.W.nsIn K mainGlobals nm=some (some (.ref C))->PySem.W.exmOne K (.ref C) (.ref Fc)=some true
def ClT (K:v9)(mg:x_)(tbl:List (Str×Bool))(T:Str):Prop:=∃g,mg T=some (.ref g)/\TbOk K (.ref g) tbl
def ClF (K:v9)(mg:x_)(NS:v4)(T:Str):Prop:=∃g,mg T=some (.ref g)/\ExOk K g NS
def ClR (K:v9)(mg:x_)(T:Str):Prop:=∃g,mg T=some (.ref g)/\PySem.W.nsIn K mainGlobals T=some (some (.ref g))/\exP K g=true
section
variable {K:v9}{z:Value}{tbl:List (Str×Bool)}{x:Str}{g Fc:Addr}{b:Bool}{NS:v4}
theorem TbOk.nil:TbOk K z []:=λ_ _ e=>nomatch e
theorem TbOk.cons (n:PySem.W.nsIn K mainGlobals x=some (some (.ref g)))(X:Sv K g)(k:PySem.W.kitOne K (.ref g) z=some b)(t:TbOk K z tbl):TbOk K z ((x,b)::tbl):=λc d e C a=>by
 rw[aZ]at e
 cases q:c==x with
 | true =>
  simp_all
 | false=>rw[q]at e;exact t _ _ e C a
theorem ExOk.nil:ExOk K Fc []:=λ_ z=>nomatch z
theorem ExOk.cons (n:PySem.W.nsIn K mainGlobals x=some (some (.ref g)))(k:PySem.W.exmOne K (.ref g) (.ref Fc)=some true)(t:ExOk K Fc NS):ExOk K Fc (x::NS):=λc h C b=>by
 rcases aB.mp h with a | h
 ·grind
 ·exact t _ h C b
end
end L2
namespace U
open PySem L2
def DefX (P:u6)(w:World)(K:v9)(mg:x_)(base:Heap)(x:Str)(k:Nat)(ps:v4)(sp:Sp):Prop :=
 ∃(f:Addr) (fd:u5),FnOk P w K mg base (CXe P w) k f fd ps sp/\Binds K fd ps []/\PySem.W.keepIn K (.ref f)=true/\mg x=some (.ref f)
end U
set_option autoImplicit true
namespace U
open PySem L2
noncomputable def Nm (c:Ev):List PV->Option (w5)
 | []=>some []
 | .o (.im d)::r=>(Nm c r).map (d::·)
 | .sl i::r=>match c[i]? with
  | some (some (.im d))=>(Nm c r).map (d::·)
  | _=>none
 | _=>none
def Q5 (F:w5->XF)(fa:o5)(k:O->Ev->XS)(h:Xn->Ev->XS):Ev->XS:=λc=>match fa c with
 | .bad=>.s .bad
 | .ok ps c=>match Nm c ps with
  | none=>.s .bad
  | some ds=>match F ds with
   | .ret (.im d)=>k (.im d) c
   | .ex nm=>h nm c
   | _=>.s .bad
section
variable {K:v9}{β:Nat->V}{W:Wo}{c:Ev}{σ:St}{D:Ends}{E:XK}{Hf H:Hp}{o:O}{v:V}{fp:v6}
theorem Q7 (R:Rep K β W c σ):∀{ps:List PV}{vs:n_}{ds:w5},zQ K W.Hf σ ps vs->Nm c ps=some ds->TrL W.Hf ds vs
 | [],vs,ds,h,e=>by cases (show vs=[] from h);cases e;exact rfl
 | .o (.im d)::r,_,ds,⟨v,vr,rfl,h,t⟩,e=>by
  obtain⟨l,e2,rfl⟩:=aW.mp (show (Nm c r).map (d::·)=some ds from e)
  exact⟨v,vr,rfl,h,Q7 R t e2⟩
 | .sl i::r,_,ds,⟨v,vr,rfl,h,t⟩,e=>by
  unfold Nm at e
  split at e
  ·rename_i d ec
   obtain⟨l,e2,rfl⟩:=aW.mp e;obtain⟨v',e1,r1,_⟩:=R.get i _ ec
   cases (show some (some v')=some (some v) from e1.symm.trans h)
   exact⟨v,vr,rfl,r1.2,Q7 R t e2⟩
  ·cases e
 | .o (.sc _)::r,_,ds,_,e=>by cases e
 | .o (.ls _ _)::r,_,ds,_,e=>by cases e
 | .o (.ty _)::r,_,ds,_,e=>by cases e
theorem An3 {F:w5->XF}{m:o5}{t:TA}{k:O->Ev->XS}{h:Xn->Ev->XS}{Q:VK}{E':XK}(ha:MA K t m)(R:Rep K β W c σ)(l:LeadX K β W D E (Q5 F m k h c))
 (hk:∀o i W2 v,Stp W.S W.Hf W.H W2.S W2.Hf W2.H->Rep K β W2 i σ->LeadX K β W D E (k o i)->Eg K W2 σ (.o o) v []->Q v W2.H)
 (B:∀u i W2 C d,Stp W.S W.Hf W.H W2.S W2.Hf W2.H->Rep K β W2 i σ->LeadX K β W D E (h u i)->XAt K W2.Hf u C d->E' (.ref C) d W2.H) :
 t σ W.H λvs y=>spX K F vs y Q E':=by
 unfold Q5 at l
 refine ha _ W c _ _ R ?_
 cases e:m c with
 | bad=>rw[e]at l;exact l
 | ok A i =>
  rw[e]at l;intro vs x L s I
  cases ea:Nm i A with
  | none=>simp only[ea]at l;trivial
  | some H =>
   simp only[ea]at l
   refine⟨x.Hf,H,s.sub,Q7 s I ea,?_⟩
   have w:∀{f j:Hp},Stp _ _ _ (λ_=>False) f j->Same _ _->Stp _ _ _ _ _ _/\Rep K _ _ _ _:=λ{f j} g b =>
    ⟨L.trans ⟨g.fz,λa o e _=>g.kp a o e λz=>z,λa o e G _ q=>g.nf a o e G (λz=>z) q,λa z=>.inl z⟩,Stp.rep s g b⟩
   cases ef:F _ with
   | bad=>simp only[ef]at l;trivial
   | ret o =>
    match o,ef with
    | .im d,ef =>
     simp only[ef]at l;intro v f j fp g b r;obtain⟨rfl,J⟩:=r
     obtain⟨n,p⟩:=w (g.less λa z=>nomatch z) b
     exact hk _ _ _ v n p l ⟨⟨rfl,J⟩,λa z=>nomatch z⟩
    | .sc _,ef=>simp only[ef]at l;trivial
    | .ls _ _,ef=>simp only[ef]at l;trivial
    | .ty _,ef=>simp only[ef]at l;trivial
   | ex u =>
    simp only[ef]at l;intro C d f j M g b;obtain⟨n,p⟩:=w g b;exact B _ _ _ C d n p l M
end
def Ro:t6->t6->n8:=Yl λi j=>.bool (decide (i<j))
theorem Bo1 : OpS K (rI0 λi j=>.bl (decide (i<j))) Ro:=Af5 λ_ _ _=>rfl
theorem B3x (l:W9 i j=true):CMul i j:=by
 unfold W9 at l;rw[Bool.or_eq_true_iff,aA,aA]at l
 rcases l with ⟨b,a⟩ | ⟨b,a⟩
 ·exact .inl ⟨aV b,aV a⟩
 ·exact .inr ⟨aV b,aV a⟩
def Lx:t6->t6->n8:=opI W9 λi j=>i*j
theorem Bd5 : OpS K (rI CMul λi j=>.int (i*j)) Lx:=A1v λ_ _=>B3x
noncomputable def Az:t6->n8
 | .list ds=>some (.im (.tuple ds))
 | .tuple ds=>some (.im (.tuple ds))
 | _=>none
theorem Fy : UnS K (λx H Q=>Ii K [x] H Q) Az:=by
 intro Hf H x d o Q s r e n;unfold Az at e
 split at e
 ·cases e
  obtain⟨a,b,rfl,c,t⟩:=Fg r
  exact⟨a,b,rfl,.inl ⟨SqL.of c,λl f=>n.tup s t f⟩⟩
 ·cases e
  obtain⟨a,b,rfl,c,t⟩:=Ia s r;exact⟨a,b,rfl,.inr ⟨SqT.of c,n.same s r⟩⟩
 grind
def Bb1 (K:v9):R2:=λx y H Q=>Bx2 K x y H Q\/B0d K x y H Q
def Aj:t6->t6->n8
 | .list ds,.int i=>(atI ds i).map O.im
 | .tuple ds,.int i=>(atI ds i).map O.im
 | _,_=>none
theorem Ir : OpS K (Bb1 K) Aj:=by
 intro Hf H x y dx dy o Q s i j e n;unfold Aj at e
 split at e
 ·obtain⟨d,g,rfl⟩:=aW.mp e
  obtain⟨a,c,rfl,f,t⟩:=Fg i;obtain⟨v,h,b⟩:=A9b t g;exact .inl ⟨a,c,_,v,rfl,Dj j,SqL.of f,h,n.same s b⟩
 ·obtain⟨d,g,rfl⟩:=aW.mp e
  obtain⟨a,c,rfl,f,t⟩:=Ia s i;obtain⟨v,h,b⟩:=A9b t g;exact .inr ⟨a,c,_,v,rfl,Dj j,SqT.of f,h,n.same s b⟩
 grind
end U
namespace L2
open PySem
section
variable {X:Cx}{a b:Expr}{ta tb:TE}{pos:Pos}
theorem Ay (c:X.K=Kq) (ha:QE X a ta) (hb:QE X b tb) (hs:Om b):QE X (.Subscript a b pos) (tOp (U.Bb1 Kq) ta tb):=by
 subst c;exact Bs8 (IxR.or ix_list ix_tup) ha hb hs
end
end L2
namespace U
open PySem L2 PySem.W
section
variable {K:v9}{W:Wo}{c:Ev}{Hf H:Hp}
theorem A0k {Q:VK}{ds ks out:w5}{vs kv:n_}(s:Same Hf H)(t:TrL Hf ds vs)(tk:TrL Hf ks kv)(e:Aq1 ds ks=some out)(n:New K Hf H (.ls false out) Q):Bz6 vs kv H Q:=by
 have hl:=TrL.len' t;unfold Aq1 at e
 by_cases h2:ds.length<2
 ·rw[if_pos h2]at e
  cases e
  exact .inl ⟨by lia,λq hq=>n.lst s t hq⟩
 ·rw[if_neg h2]at e
  by_cases hb:(decide (ds.length<64)&&(ks.all (U0 (kdOf ks))&&ks.all Cq))=true
  ·rw[if_pos hb]at e
   obtain⟨b1,b2⟩:=aA.mp hb;obtain⟨b2,b3⟩:=aA.mp b2;have b1:=aV b1;obtain⟨pm,q1,q2⟩:=aW.mp e;subst q2
   exact .inr ⟨by lia,by lia,ks,kdOf ks,pm,TrL.same s tk,b2,λd hd=>K6 (bL.mp b3 d hd),by rw[<- hl];exact q1,λq hq=>n.lst s (TrL.pick t _) hq⟩
  ·rw[if_neg hb]at e;cases e
def Ju (d:t6):n8:=(Jo d).bind λds=>(Aq1 ds ds).map λout=>.ls false out
theorem A4t:UnS K (λx H Q=>Aw4 K [x] H Q) Ju:=by
 intro Hf H x d o Q s r e n;unfold Ju at e;obtain⟨ds,e1,e2⟩:=cP.mp e;obtain⟨out,e3,rfl⟩:=aW.mp e2
 cases d with
 | list xs =>
  cases e1
  obtain⟨a,vs,rfl,h1,t⟩:=Fg r;exact⟨a,vs,rfl,.inl (SqL.of h1),A0k s t t e3 n⟩
 | tuple xs =>
  cases e1
  obtain⟨a,vs,rfl,h1,t⟩:=Ia s r;exact⟨a,vs,rfl,.inr (SqT.of h1),A0k s t t e3 n⟩
 | _=>cases e1
def cFz (f:o_):o_:=λc=>(f c).bind λp c=>(frz (nrm p) c).bind λd c=>.ok (.o (.im d)) c
theorem B4o (h:ME K t f):ME K t (cFz f):=by
 intro y W c x Q R s
 refine h.toV _ W c _ Q R (s.bnd.mono λp n j v u e i k=>?_)
 obtain⟨d,o,r,_,l,w,b,m,g⟩:=Eu i k j.bnd
 have q:=l v _ [] ((e.trans b).less λa z=>z.elim id λz=>nomatch z) m ⟨⟨rfl,g⟩,λa z=>nomatch z⟩
 grind
end
def Ij:t6->Bool
 | .tuple ds=>Ff ds&&PyData.canLayAll0 ds&&decide (PyData.depthAll ds<=6)
 | _=>false
noncomputable def O5:w5->w5->t6->Option t6
 | k::ks,d::ds,z=>if PyData.eqv k z=true then some d else O5 ks ds z
 | _,_,_=>none
theorem Gb (h:Ij k=true):Bv4 k/\∃a,k=.tuple a:=by
 cases k with
 | tuple a =>
  obtain⟨c,d⟩:=aA.mp (show (Ff _&&PyData.canLayAll0 _&&decide _)=true from h)
  obtain⟨e,b⟩:=aA.mp c;exact⟨⟨e,b,iz (aV d)⟩,a,rfl⟩
 | _=>cases h
mutual
theorem A8g {H:Hp}:∀{d:t6}{v:V},keyB d=true->Tr H d v->KTr H d v
 | .none,_,_,h=>h
 | .int _,_,_,h=>h
 | .str _,_,_,h=>h
 | .tuple ds,_,k,⟨a,vs,e,ha,t⟩=>⟨a,vs,e,ha,A1l k t⟩
theorem A1l {H:Hp}:∀{ds:w5}{vs:n_},Ff ds=true->TrL H ds vs->KTrL H ds vs
 | [],_,_,h=>h
 | d::ds,_,k,⟨v,r,e,h,t⟩=>by
  obtain⟨k1,k2⟩:=aA.mp (show (keyB d&&Ff ds)=true from k)
  exact⟨v,r,e,A8g k1 h,A1l k2 t⟩
end
theorem Au0 (h:Ij k=true) (t:Tr H k v):∃b,v=.ref b/\KAt H k b:=by
 obtain⟨c,ds,rfl⟩:=Gb h;obtain⟨a,d,rfl,f,e⟩:=t;exact⟨a,rfl,c,A8g c.1 ⟨a,d,rfl,f,e⟩⟩
section
variable {Hf:Hp}
theorem A2r:∀{ks ds:w5}{xs:n_}{z d:t6},(∀k∈ks,Ij k=true)->Ij z=true->TrL Hf ds xs->O5 ks ds z=some d->∃v,Jp (ks.zip xs) z=some v/\Tr Hf d v
 | [],_,_,_,_,_,_,_,e=>nomatch e
 | _::_,[],_,_,_,_,_,_,e=>nomatch e
 | k::ks,d0::ds,_,z,d,hk,hz,⟨v,r,ev,t,ts⟩,e=>by
  subst ev;have b:=(Gb (hk k bR)).1.1;have b2:=(Gb hz).1.1
  have e:(if PyData.eqv k z=true then some d0 else O5 ks ds z)=some d:=e
  by_cases h:PyData.eqv k z=true
  ·rw[if_pos h]at e
   cases e
   exact⟨v,Ms ((Jr k z b b2).mp h),t⟩
  ·rw[if_neg h]at e
   obtain⟨v',h1,h2⟩:=A2r (λk m=>hk k (bI _ m)) hz ts e
   refine⟨v',?_,h2⟩
   rw[cW,Jf (λq=>h ((Jr k z b b2).mpr q))];exact h1
end
inductive DE where
 | d (x:t6)
 | l (xs:w5)
noncomputable def DE.dat:DE->t6
 | .d x=>x
 | .l xs=>.list xs
inductive BR where
 | nx (c:Ev) (ks:w5) (es:List DE)
 | bad
abbrev BF:=Ev->w5->List DE->BR
noncomputable def O4 (k:t6):w5->Option Nat
 | []=>none
 | x::r=>if PyData.eqv x k=true then some 0 else (O4 k r).map (·+1)
noncomputable def Dd (d:Nat) (c:Ev):Bool:=match c[d]? with
 | some none=>true
 | _=>false
theorem Hn (h:Dd d c=true):c[d]?=some none:=by
 unfold Dd at h
 grind
noncomputable def R.toB {α:Type} (r:R α) (k:α->Ev->BR):BR:=match r with
 | .ok a c=>k a c
 | .bad=>.bad
def DE1 (Hf H:Hp):DE->V->v6->Prop
 | .d x,v,fp=>fp=[]/\Tr Hf x v
 | .l xs,v,fp=>∃b us,v=.ref b/\fp=[b]/\H b=some (.lst us)/\TrL Hf xs us
def DX (a:Addr)(X:Nat->v6)(b:Addr):Prop:=b=a\/∃j,b∈X j
structure DB (W:Wo) (a:Addr) (ks:w5) (es:List DE) (X:Nat->v6):Prop where
 at_:∃vs,W.H a=some (.dT (ks.zip vs))/\ks.length=vs.length/\es.length=vs.length/\∀j e,es[j]?=some e->∃v,vs[j]?=some v/\DE1 W.Hf W.H e v (X j)
 fr:∀b,DX a X b->W.Hf b=none/\¬ W.S b
 dis:∀i j b,b∈X i->b∈X j->i=j
 na:∀j,a∉X j
 mu:∀b,DX a X b->∃o,W.H b=some o/\Mut (some o)
 out:∀j,es.length<=j->X j=[]
 ky:∀k∈ks,Ij k=true
 nd:ks.Nodup
abbrev orX (S:Addr->Prop)(a:Addr)(X:Nat->v6):Addr->Prop:=λb=>S b\/DX a X b
def zM (K:v9)(β:Nat->V)(W:Wo)(D:Ends)(d:Nat)(a:Addr)(X:Nat->v6):BR->Prop
 | .nx c' ks' es'=>∀σ' W' X',Stp (orX W.S a X) W.Hf W.H (orX W'.S a X') W'.Hf W'.H->Rep K β W' c' σ'->c'[d]?=some none->σ'[d]?=some (some (.ref a))->DB W' a ks' es' X'->D.nx σ' W'.H
 | .bad=>False
def MB (K:v9)(d:Nat)(T:TS)(F:BF):Prop:=∀(β:Nat->V) (W:Wo) (c:Ev) (σ:St) (D:Ends) (a:Addr) (ks:w5) (es:List DE) (X:Nat->v6),Rep K β W c σ->c[d]?=some none->σ[d]?=some (some (.ref a))->DB W a ks es X ->
 zM K β W D d a X (F c ks es)->T D σ W.H
section
variable {K:v9}{β:Nat->V}{W W1:Wo}{c:Ev}{σ σ':St}{Hf H:Hp}{a:Addr}{ks:w5}{es:List DE}{X X':Nat->v6}{d:Nat}{D:Ends}{fp:v6}
theorem DE1.step {a H':Hp}(h:DE1 Hf H e v fp) (s:Same Hf a) (k:∀b∈fp,H' b=H b):DE1 a H' e v fp:=by
 cases e with
 | d x=>exact⟨h.1,Tr.same s h.2⟩
 | l i =>
  obtain⟨b,c,g,f,j,t⟩:=h
  exact⟨b,c,g,f,by grind,TrL.same s t⟩
theorem DB.step (h:DB W a ks es X) (st:Stp W.S W.Hf W.H S2 W1.Hf W1.H) (g:∀b,W1.S b->S2 b):DB W1 a ks es X:=by
 have d:∀b,DX a X b->W1.H b=W.H b:=λb c=>by
  obtain⟨o,e,_⟩:=h.mu b c;rw[e];exact st.kp b o e (h.fr b c).2
 obtain⟨i,s,l,m,k⟩:=h.at_
 refine⟨⟨i,by rw[d a (.inl rfl)];lia,l,m,λj e p=>?_⟩,λb c=>⟨?_,λz=>?_⟩,h.dis,h.na,λb c=>?_,h.out,h.ky,h.nd⟩
 ·obtain⟨v,n,r⟩:=k j e p
  exact⟨v,n,r.step st.fz λb c=>d b (.inr ⟨j,c⟩)⟩
 ·obtain⟨o,e,f⟩:=h.mu b c
  exact st.nf b o e f (h.fr b c).2 (h.fr b c).1
 ·obtain⟨o,e,_⟩:=h.mu b c
  rcases st.fr b (g b z) with q | q
  ·exact(h.fr b c).2 q
  simp_all
 ·obtain⟨o,e,f⟩:=h.mu b c
  simp_all
theorem Stp.moreX (x:Stp S Hf H S' b H'):Stp (orX S a X) Hf H (orX S' a X) b H':=Stp.more x
theorem zM.step (h:zM K β W D d a X r) (st:Stp (orX W.S a X) W.Hf W.H (orX W1.S a X') W1.Hf W1.H):zM K β W1 D d a X' r:=by
 cases r with
 | nx c j k=>exact λf l m b R g i e=>h _ _ _ (st.trans b) R g i e
 | bad=>exact h
theorem Ft {r:R b}{k:b->Ev->BR}(h:zM K β W D d a X (r.toB k)):r.sat λx c=>zM K β W D d a X (k x c):=by
 cases r with
 | ok x c=>exact h
 | bad=>exact h
noncomputable def Aj8 (F G:BF):BF:=λc ks es=>match F c ks es with
 | .nx c ks es=>G c ks es
 | .bad=>.bad
theorem Ac8 (h1:MB K d t F) (h2:MB K d u G):MB K d (A3i t u) (Aj8 F G):=by
 intro o W c q D a v w X R m n i l
 refine h1 _ W c _ _ a _ _ X R m n i ?_
 unfold Aj8 at l
 cases e:F c _ _ with
 | bad=>rw[e]at l;trivial
 | nx x y p =>
  rw[e]at l
  exact λh r s k j b g f=>h2 _ _ _ _ D a _ _ _ j b g f (zM.step l k)
def GFr (d:Nat)(g:TG):Prop:=∀v σ H k,g v σ H (λσ' H'=>σ'[d]?=σ[d]?->k σ' H')->g v σ H k
def Bc0 (d:Nat)(g:TGs):Prop:=∀vs σ H k,g vs σ H (λσ' H'=>σ'[d]?=σ[d]?->k σ' H')->g vs σ H k
theorem Jd (h:i≠d):GFr d (Hx i):=λv a H k q=>q (cB h)
theorem A0c:Bc0 d Ax4:=λb a H k q=>⟨q.1,q.2 rfl⟩
def Bg7 (g:TG):Prop:=∀v σ H k k',g v σ H k->(∀σ' H',k σ' H'->k' σ' H')->g v σ H k'
def Ab8 (g:TGs):Prop:=∀vs σ H k k',g vs σ H k->(∀σ' H',k σ' H'->k' σ' H')->g vs σ H k'
theorem Gg : Bg7 (Hx i):=λv b H k a h f=>f _ _ h
theorem Ov:Ab8 Ax4:=λb c H k a h f=>⟨h.1,f _ _ h.2⟩
theorem Lr (h1:Bg7 t) (h2:Ab8 u):Ab8 (My t u):=λg c H k d ⟨v,r,e,q⟩ f=>⟨v,r,e,h1 _ _ _ _ _ q λa b q=>h2 _ _ _ _ _ q f⟩
theorem Qv (h1:GFr d t) (b:Bg7 t) (h2:Bc0 d u) (f:Ab8 u):Bc0 d (My t u):=λi j H k ⟨v,r,e,q⟩ =>
 ⟨v,r,e,h1 v _ H _ (b _ _ _ _ _ q λg l q c=>h2 r _ _ k (f _ _ _ _ _ q λh m q a=>q (a.trans c)))⟩
theorem Bn5 (h:Bc0 d u):GFr d (At1 K n u):=λv b H k ⟨p,a,e,s,l,q⟩=>⟨p,a,e,s,l,h _ _ H k q⟩
def Ph (f:o_)(g:p_):BF:=λc ks es=>(f c).toB λp c=>(g p c).toB λ_ c=>if Dd d c=true then .nx c ks es else .bad
theorem Ad7 (h:ME K j f) (hg:MG K t g) (hf:GFr d t):MB K d (Vr j t) (Ph (d:=d) f g):=by
 intro C W c G D a y I X R A n o l
 refine h _ W c _ _ R ((Ft l).mono λp H q v B E r m k=>hf _ _ _ _ (hg _ _ _ _ p v _ _ m k ((Ft q).mono λ_ u e s F i w x=>?_)))
 by_cases z:Dd d u=true
 ·rw[if_pos z]at e
  have b:=r.trans i
  exact e _ _ X b.moreX w (Hn z) (x.trans n) (o.step b λ_ z=>z)
 ·rw[if_neg z]at e;trivial
def Xc (g:p_)(F:BF):w5->BF
 | [],c,ks,es=>.nx c ks es
 | x::xs,c,ks,es=>(g (.o (.im x)) c).toB λ_ c=>if Dd d c=true then match F c ks es with
  | .nx c ks es=>Xc g F xs c ks es
  | .bad=>.bad
  else .bad
def Ad9 (fi:Ev->R (w5))(g:p_)(F:BF):BF:=λc ks es=>(fi c).toB λds c=>if Dd d c=true then Xc (d:=d) g F ds c ks es else .bad
theorem A9r (hi:MI K wi fi) (hg:MG K t g) (hf:GFr d t) (hb:MB K d tb F):MB K d (Bz1 wi t tb) (Ad9 (d:=d) fi g F):=by
 intro A W c C D a ks V X R hc hs hd l
 refine hi A W c C _ R ((Ft l).mono λf c1 O J U L R1 it=>?_)
 by_cases z1:Dd d c1=true
 ·rw[if_pos z1]at O
  have Z:=hd.step L λ_ z=>z
  refine⟨λi m C H=>∃b j B r u,b.H=H/\Rep K A b j C/\m=f.length-i/\i<=f.length/\Same U.Hf b.Hf/\j[d]?=some none/\C[d]?=some (some (.ref a))/\DB b a B r u/\zM K A b D d a u (Xc (d:=d) g F (f.drop i) j B r),
   ⟨_,U,c1,ks,V,X,rfl,R1,rfl,aM _,Same.refl _,Hn z1,hs,Z,zM.step O L.moreX⟩,?_⟩
  rintro i m C H ⟨b,j,B,r,u,rfl,R2,rfl,hle,sm,T,G,I,E⟩
  obtain⟨v,Y⟩:=it i b.Hf b.H sm R2.sub
  by_cases lt:i<f.length
  ·obtain⟨q1,q2⟩:=Y f[i] (bu lt)
   refine .inr ⟨q1,λw p=>∃b j B r u,b.H=p/\Rep K A b j w/\Same U.Hf b.Hf/\j[d]?=some none/\w[d]?=some (some (.ref a))/\DB b a B r u/\zM K A b D d a u (Xc (d:=d) g F (f.drop (i+1)) j B r),
    λw p ⟨W3,c3,k3,e3,X3,y1,S,s3,y2,y3,y4,k⟩=>⟨f.length-(i+1),by lia,W3,c3,k3,e3,X3,y1,S,rfl,by lia,s3,y2,y3,y4,k⟩,λx p hy=>?_⟩
   obtain⟨s,n,M,tx⟩:=q2 x p hy;have S:=n.rep R2 M
   have Q:Stp b.S b.Hf b.H (Wo.S ⟨s,p,b.fps⟩) s p:=⟨n.fz,λa o e _=>n.kp a o e λz=>z,λa o e mu _ q=>n.nf a o e mu (λz=>z) q,λa z=>.inl z⟩
   rw[Sy lt]at E
   have E:zM K A b D d a u ((g (.o (.im f[i])) j).toB λ_ c=>if Dd d c=true then match F c B r with
    | .nx c ks V=>Xc (d:=d) g F (f.drop (i+1)) c ks V
    | .bad=>.bad
    else .bad):=E
   refine hf _ _ _ _ (hg A ⟨s,p,b.fps⟩ j C (.o (.im f[i])) x [] _ S ⟨⟨rfl,tx⟩,λa z=>nomatch z⟩ ((Ft E).mono λ_ c3 k σ3 W3 y R3' es3=>?_))
   have y:=y.up λa z=>by
    rcases z with z | z
    ·exact z
    ·cases z
   have h:=Q.trans y
   by_cases z3:Dd d c3=true
   ·rw[if_pos z3]at k
    refine hb _ _ _ _ _ a _ _ _ R3' (Hn z3) (es3.trans G) (I.step h λ_ z=>z) ?_
    cases eb:F _ _ _ with
    | bad=>rw[eb]at k;exact k.elim
    | nx c4 k4 e4 =>
     rw[eb]at k
     exact λσ4 W4 X4 N R4 hc4 hs4 P=>⟨W4,c4,k4,e4,X4,rfl,R4,sm.trans (h.fz.trans N.fz),hc4,hs4,P,zM.step k (h.moreX.trans N)⟩
   ·rw[if_neg z3]at k;exact k.elim
  ·have e:i=f.length:=by lia
   subst e;rw[jA]at E;exact .inl ⟨v rfl,E _ _ _ Stp.refl R2 T G I⟩
 ·rw[if_neg z1]at O;exact O.elim
end
theorem Oi {k:t6}(hk:Ij k=true):∀{ks:w5}{vs:n_}{j:Nat},(∀x∈ks,Ij x=true)->ks.length=vs.length->O4 k ks=some j->ks[j]?=some k/\Jp (ks.zip vs) k=vs[j]?
 | [],_,_,_,_,e=>nomatch e
 | x::ks,[],_,_,l,_=>nomatch l
 | x::ks,v::vs,j,hx,l,e=>by
  have b:=(Gb (hx x bR)).1.1;have b2:=(Gb hk).1.1
  have e:(if PyData.eqv x k=true then some 0 else (O4 k ks).map (·+1))=some j:=e
  by_cases h:PyData.eqv x k=true
  ·rw[if_pos h]at e;cases e
   have:=(Jr x k b b2).mp h;subst this;exact⟨rfl,Ms rfl⟩
  ·rw[if_neg h]at e
   obtain⟨i,e1,rfl⟩:=aW.mp e
   obtain⟨q1,q2⟩:=Oi hk (vs:=vs) (λy hy=>hx y (bI _ hy)) (g_ l) e1
   refine⟨by simpa using q1,?_⟩
   rw[cW,Jf (λq=>h ((Jr x k b b2).mpr q)),q2];rfl
theorem Kz {k:t6}(hk:Ij k=true):∀{ks:w5}{vs:n_},(∀x∈ks,Ij x=true)->O4 k ks=none->k∉ks/\Jp (ks.zip vs) k=none
 | [],vs,_,_=>⟨(λh=>nomatch h),rfl⟩
 | x::ks,vs,hx,e=>by
  have b:=(Gb (hx x bR)).1.1;have b2:=(Gb hk).1.1
  have e:(if PyData.eqv x k=true then some 0 else (O4 k ks).map (·+1))=none:=e
  by_cases h:PyData.eqv x k=true
  ·rw[if_pos h]at e;cases e
  ·rw[if_neg h]at e
   have e1:O4 k ks=none:=by
    cases q:O4 k ks with
    | none=>rfl
    | some i=>rw[q]at e;cases e
   have ne:x≠k:=λq=>h ((Jr x k b b2).mpr q)
   refine⟨λm=>?_,?_⟩
   ·rcases aB.mp m with m | m
    ·exact ne m.symm
    ·exact(Kz (vs:=[]) hk (λy hy=>hx y (bI _ hy)) e1).1 m
   ·cases vs with
    | nil=>rfl
    | cons v vs =>
     rw[cW,Jf ne]
     exact(Kz hk (λy hy=>hx y (bI _ hy)) e1).2
theorem A2c {k:t6}{v:V}:∀{ks:w5}{vs:n_},k∉ks->(ks.zip vs).map (λkv=>if kv.1=k then (kv.1,v) else kv)=ks.zip vs
 | [],_,_=>rfl
 | _::_,[],_=>rfl
 | x::ks,u::vs,h=>by
  have ne:x≠k:=λq=>h (q▸bR)
  rw[cW,aF,A2c λm=>h (bI _ m)]
  simp[ne]
theorem A7u {k:t6}{v:V}:∀{ks:w5}{vs:n_}{j:Nat},ks.Nodup->ks[j]?=some k->(ks.zip vs).map (λkv=>if kv.1=k then (kv.1,v) else kv)=ks.zip (vs.set j v)
 | [],_,_,_,e=>by simp at e
 | _::_,[],_,_,_=>rfl
 | x::ks,u::vs,0,nd,e=>by
  cases (show some x=some k from e)
  rw[cW,aF,A2c (bH.mp nd).1]
  simp
 | x::ks,u::vs,j+1,nd,e=>by
  have e:ks[j]?=some k:=by simpa using e
  have ne:x≠k:=λq=>(bH.mp nd).1 (q▸bz e)
  rw[cW,aF,A7u (bH.mp nd).2 e]
  simp[ne]
theorem Bq9 {ks:w5} (a:ks.Nodup) (e:ks[j]?=some k) (hv:Jp (ks.zip vs) k=some u):putK (ks.zip vs) k v=ks.zip (vs.set j v):=by
 unfold putK
 rw[Q6,hv,if_pos (by rfl),A7u a e]
theorem A6u {ks:w5} (hl:ks.length=vs.length) (hv:Jp (ks.zip vs) k=none):putK (ks.zip vs) k v=(ks++[k]).zip (vs++[v]):=by
 unfold putK;rw[Q6,hv,List.zip_append hl];rfl
section
variable {K:v9}{β:Nat->V}{W W' W1:Wo}{c c':Ev}{σ:St}{Hf H:Hp}{a:Addr}{ks:w5}{es:List DE}{X X':Nat->v6}{d:Nat}{D:Ends}
theorem Yi (R:Rep K β W c σ)(hd:DB W a ks es X) (f:∀b,H' b=W.H b\/DX a X b\/W.H b=none) (h:∀b,DX a X' b->DX a X b\/W.H b=none) :
 Rep K β ⟨W.Hf,H',W.fps⟩ c σ/\Stp (orX W.S a X) W.Hf W.H (orX (Wo.S ⟨W.Hf,H',W.fps⟩) a X') W.Hf H':=by
 refine⟨R.frame (Same.refl _) (λb u e=>?_) λb g=>?_,⟨Same.refl _,λb o e n=>?_,λb o _ _ _ q=>q,λb z=>?_⟩⟩
 ·rcases f b with q | q | q
  ·rw[q];exact R.sub b u e
  ·rw[(hd.fr b q).1]at e;grind
  ·rw[R.notF q]at e;grind
 ·obtain⟨i,d⟩:=g
  obtain⟨z,o,e,_⟩:=R.own i b d
  refine⟨z,?_⟩
  rcases f b with q | q | q
  ·lia
  ·exact absurd ⟨i,d⟩ (hd.fr b q).2
  grind
 ·grind
 ·rcases z with z | z
  ·exact .inl (.inl z)
  grind
theorem A9e (h:b∈(λi=>if i=j then [] else X i) i):b∈X i/\i≠j:=by
 grind
def A3u (ks:w5)(es:List DE)(k x:t6):List PyData×List DE:=match O4 k ks with
 | some j=>(ks,es.set j (.d x))
 | none=>(ks++[k],es++[.d x])
def MVB (K:v9)(d:Nat)(T:TE)(f:w5->List DE->Ev->R PV):Prop:=∀(β:Nat->V) (W:Wo) (c:Ev) (σ:St) (Q:VK) (a:Addr) (ks:w5) (es:List DE) (X:Nat->v6),Rep K β W c σ->σ[d]?=some (some (.ref a))->DB W a ks es X ->
 (f ks es c).sat (λp c'=>∀v W',Stp W.S W.Hf W.H W'.S W'.Hf W'.H->Rep K β W' c' σ->RepA K W'.Hf σ (nrm p) v->Q v W'.H)->T σ W.H Q
theorem A8v (h:ME K b f):MVB K d b (λ_ _=>f):=λg W c i Q a j k X R l e s=>h.toV _ W c _ Q R s
def Ak3 (fk:o_)(fv:w5->List DE->Ev->R PV):BF:=λc ks es=>(fv ks es c).toB λq c=>(frz (nrm q) c).toB λx c=>(fk c).toB λp c=>match Du c (nrm p) with
 | some k=>if (Ij k&&decide (ks.length<16000000)&&Dd d c)=true then .nx c (A3u ks es k x).1 (A3u ks es k x).2 else .bad
 | none=>.bad
theorem A9i (hk:ME K ty fk) (hv:MVB K d tv fv):MB K d (Be8 (Al3 d) ty tv) (Ak3 (d:=d) fk fv):=by
 intro L W c Q D a t E X R hc P hd l
 refine hv L W c Q _ a t E X R P hd ((Ft l).mono λq c1 l1 v W1 S R1 r1=>⟨_,P,?_⟩)
 obtain⟨x,c2,W2,_,l2,e2,V,R2,t2⟩:=Eu R1 r1 (Ft l1);rw[<- e2]
 refine hk.toV L W2 c2 Q _ R2 ((Ft l2).mono λp N h y r H O r3=>?_)
 have t3:Tr r.Hf x v:=Tr.same H.fz t2;have U:=S.trans (V.trans H)
 have f:=hd.step U λ_ z=>z
 cases ek:Du N (nrm p) with
 | none=>simp only[ek]at h;exact h.elim
 | some k =>
  simp only[ek]at h
  by_cases s:(Ij k&&decide (t.length<16000000)&&Dd d N)=true
  ·rw[if_pos s]at h
   obtain⟨s,J⟩:=aA.mp s;obtain⟨m,A⟩:=aA.mp s;have A:=aV A;obtain⟨_,kd,ekd⟩:=Gb m
   have tk:Tr r.Hf k y:=by rw[ekd]at ek ⊢;exact Gi O r3 ek
   obtain⟨b,rfl,kb⟩:=Au0 m tk;obtain⟨w,q1,G,Z,q4⟩:=f.at_
   have zl:(t.zip w).length<sizeLine:=by rw[dO,<- G,e_];exact aK A (by decide)
   have Y:KAt r.H k b:=kb.stay λb xs q=>O.sub _ _ q
   refine⟨a,_,rfl,DPut.t q1 Y zl,?_⟩
   cases ei:O4 k t with
   | some j =>
    have h:zM K L W D d a X (.nx N t (E.set j (.d x))):=by unfold A3u at h;simp only[ei]at h;exact h
    obtain⟨M,T⟩:=Oi m f.ky G ei;have hj:j<t.length:=(bG.mp M).1
    have F:j<w.length:=by lia
    rw[Bq9 f.nd M (T.trans (bu F))]
    have n:=Yi (X':=λi=>if i=j then [] else X i) O f (H':=upd r.H a (.dT (t.zip (w.set j v)))) (λb=>by
     by_cases z:b=a
     ·exact .inr (.inl (.inl z))
     ·exact .inl (Ag z)) (λb z=>by
     rcases z with z | ⟨i,z⟩
     ·exact .inl (.inl z)
     ·have z:=A9e z
      exact .inl (.inr ⟨i,z.1⟩))
    have I:∀b,DX a (λi=>if i=j then [] else X i) b->DX a X b:=λb z=>by
     rcases z with z | ⟨i,z⟩
     ·exact .inl z
     ·exact .inr ⟨i,(A9e z).1⟩
    refine h Q ⟨r.Hf,_,r.fps⟩ _ (U.moreX.trans n.2) n.1 (Hn J) P ⟨⟨w.set j v,Ax,by rw[bT];exact G,by rw[bT,bT];exact Z,λi e g=>?_⟩,λb z=>f.fr b (I b z),λi i' b z z'=>?_,λi z=>?_,λb z=>?_,λi C=>?_,f.ky,f.nd⟩
    ·by_cases z:i=j
     ·subst z
      rw[cG (by lia)]at g
      cases g
      exact⟨v,cG F,by rw[if_pos rfl],t3⟩
     ·rw[cB (aD z)]at g
      obtain⟨u,f1,f2⟩:=q4 i e g
      refine⟨u,by rw[cB (aD z)];exact f1,?_⟩
      rw[if_neg z]
      exact f2.step (Same.refl _) λb s=>Ag (λq=>f.na i (q▸s))
    ·exact f.dis i i' b (A9e z).1 (A9e z').1
    ·exact f.na i (A9e z).1
    ·by_cases q:b=a
     ·rw[q];exact⟨_,Ax,trivial⟩
     ·obtain⟨o,e,mu⟩:=f.mu b (I b z)
      exact⟨o,by show upd r.H a _ b=_;rw[Ag q];exact e,mu⟩
    ·rw[bT]at C
     show (if i=j then [] else X i)=[]
     split
     ·rfl
     ·exact f.out i C
   | none =>
    have h:zM K L W D d a X (.nx N (t++[k]) (E++[.d x])):=by unfold A3u at h;simp only[ei]at h;exact h
    obtain⟨M,T⟩:=Kz (vs:=w) m f.ky ei;rw[A6u G T]
    have n:=Yi (X':=X) O f (H':=upd r.H a (.dT ((t++[k]).zip (w++[v])))) (λb=>by
     by_cases z:b=a
     ·exact .inr (.inl (.inl z))
     ·exact .inl (Ag z)) (λb z=>.inl z)
    refine h Q ⟨r.Hf,_,r.fps⟩ X (U.moreX.trans n.2) n.1 (Hn J) P ⟨⟨w++[v],Ax,by rw[aH,aH,G];rfl,by rw[aH,aH,Z];rfl,λi e g=>?_⟩,f.fr,f.dis,f.na,λb z=>?_,λi C=>f.out i (by rw[aH]at C;exact eN C),λx B=>?_,?_⟩
    ·by_cases z:i<E.length
     ·rw[dB z]at g
      obtain⟨u,f1,f2⟩:=q4 i e g
      refine⟨u,by rw[dB (by lia)];exact f1,?_⟩
      exact f2.step (Same.refl _) λb s=>Ag (λq=>f.na i (q▸s))
     ·rw[dM (by lia)]at g
      have C:i=E.length:=by
       rcases bN (i-E.length) 1 with q | q
       ·lia
       ·rw[i_ (by simpa using q)]at g;cases g
      subst C;rw[dz]at g
      cases g
      refine⟨v,by rw[Z,dM (au _),dz];rfl,f.out _ (au _),t3⟩
    ·by_cases q:b=a
     ·rw[q];exact⟨_,Ax,trivial⟩
     ·obtain⟨o,e,mu⟩:=f.mu b z
      exact⟨o,by show upd _ a _ b=_;rw[Ag q];exact e,mu⟩
    ·rcases bx.mp B with B | B
     ·exact f.ky x B
     ·rw[aQ.mp B];exact m
    ·rw[fX]
     refine⟨f.nd,by simp,λx B y hy e=>?_⟩
     rw[aQ.mp hy]at e;exact M (e▸B)
  ·rw[if_neg s]at h;exact h.elim
end
section
variable {K:v9}{β:Nat->V}{W W1:Wo}{c:Ev}{σ:St}{Hf H:Hp}{a:Addr}{ks:w5}{es:List DE}{X X':Nat->v6}{d:Nat}{D:Ends}
noncomputable def B5g:Option DE->Option (w5)
 | some (.l xs)=>some xs
 | _=>none
def Tg (ks:w5)(es:List DE)(k:t6):List PyData×List DE×Nat:=match O4 k ks with
 | some j=>(ks,es,j)
 | none=>(ks++[k],es++[.l []],ks.length)
def Bd6 (fk fv:o_):BF:=λc ks es=>(fk c).toB λp c=>match Du c (nrm p) with
 | some k=>if (Ij k&&decide (ks.length<16000000))=true then match B5g ((Tg ks es k).2.1[(Tg ks es k).2.2]?) with
  | some xs=>(fv c).toB λq c=>(frz (nrm q) c).toB λx c=>if (decide (xs.length<16000000)&&Dd d c)=true then .nx c (Tg ks es k).1 ((Tg ks es k).2.1.set (Tg ks es k).2.2 (.l (xs++[x]))) else .bad
  | none=>.bad
  else .bad
 | none=>.bad
theorem An1 (he:ME K P fe) (R:Rep K β W c σ) (hs:σ[d]?=some (some (.ref a))) (hd:DB W a ks es X) (H:es[j]?=some (.l xs)) (hl:X j=[l])
 (L:zM K β W D d a X ((fe c).toB λq c=>(frz (nrm q) c).toB λx c=>if (decide (xs.length<16000000)&&Dd d c)=true then .nx c ks (es.set j (.l (xs++[x]))) else .bad)) :
 tyV K "list" (.ref l) W.H/\Cg P Gs σ W.H λxs H2=>rAppF (.ref l) xs H2 λ_ C=>D.nx σ C:=by
 have g:∀{W:Wo},DB W a ks es X->∃h,W.H l=some (.lst h)/\TrL W.Hf xs h:=λ{W} hd=>by
  obtain⟨Q,O,T,J,s⟩:=hd.at_;obtain⟨v,y,b,h,rfl,k,N,I⟩:=s j _ H;rw[hl]at k
  cases k
  exact⟨h,N,I⟩
 obtain⟨E,h0,_⟩:=g hd
 refine⟨.inl ⟨rfl,E,SqL.of h0⟩,?_⟩
 refine he.toV β W c σ _ R ((Ft L).mono λq c1 V v W1 A R1 r1=>?_)
 obtain⟨x,c2,G,_,r,e2,B,Y,Z⟩:=Eu R1 r1 (Ft V);have M:=A.trans B
 have f:=hd.step M λ_ z=>z
 obtain⟨h,h2,t⟩:=g f
 by_cases p:(decide (xs.length<16000000)&&Dd d c2)=true
 ·rw[if_pos p]at r
  obtain⟨m,F⟩:=aA.mp p;have m:=aV m
  show rAppF (.ref l) [v] W1.H λ_ C=>D.nx σ C
  rw[<- e2]
  refine⟨l,v,h,rfl,rfl,h2,by rw[<- t.length];exact aK m (by decide),?_⟩
  have lX:DX a X l:=.inr ⟨j,by rw[hl];exact .head _⟩
  have la:l≠a:=λz=>f.na j (by rw[hl,<- z];exact .head _)
  have n:=Yi (X':=X) Y f (H':=upd G.H l (.lst (h++[v]))) (λb=>by
   by_cases z:b=l
   ·rw[z];exact .inr (.inl lX)
   ·exact .inl (Ag z)) (λb z=>.inl z)
  obtain⟨Q,O,T,J,s⟩:=f.at_;have hj:j<es.length:=(bG.mp H).1
  refine r σ ⟨G.Hf,_,G.fps⟩ X (M.moreX.trans n.2) n.1 (Hn F) hs ⟨⟨Q,by show upd _ l _ a=_;rw[Ag (aD la)];exact O,T,by rw[bT];exact J,λi e w=>?_⟩,f.fr,f.dis,f.na,λb z=>?_,λi S=>f.out i (by rw[bT]at S;exact S),f.ky,f.nd⟩
  ·by_cases z:i=j
   ·subst z
    rw[cG hj]at w
    cases w
    obtain⟨v0,y,b,us1,rfl,k,N,I⟩:=s i _ H;rw[hl]at k
    cases k
    exact⟨_,y,l,h++[v],rfl,hl,Ax,t.app (TrL.one Z)⟩
   ·rw[cB (aD z)]at w
    obtain⟨u,y,k⟩:=s i e w
    exact⟨u,y,k.step (Same.refl _) λb p=>Ag λq=>z (f.dis i j b p (by rw[hl,q];exact .head _))⟩
  ·by_cases q:b=l
   ·rw[q];exact⟨_,Ax,trivial⟩
   ·obtain⟨o,e,U⟩:=f.mu b z
    exact⟨o,by show upd _ l _ b=_;rw[Ag q];exact e,U⟩
 ·rw[if_neg p]at r;exact r.elim
theorem Bw3 (hk:ME K ty fk) (he:ME K te fe):MB K d (A1f (tBM K "list" rAppF (Bu5 (Al3 d) ty (A9n Gs)) (Cg te Gs))) (Bd6 (d:=d) fk fe):=by
 intro β W c σ D a m F X R hc hs hd l
 refine⟨_,hs,a,rfl,.inr (let ⟨C,q,_⟩:=hd.at_; ⟨_,.inl q⟩),?_⟩
 refine hk.toV β W c σ _ R ((Ft l).mono λp c1 r y s J P r1=>?_)
 refine⟨show 0<=sizeLine from aM _,λg n=>?_⟩
 have f:=hd.step J λ_ z=>z
 cases ek:Du c1 (nrm p) with
 | none=>simp only[ek]at r;exact r.elim
 | some k =>
  simp only[ek]at r
  by_cases I:(Ij k&&decide (m.length<16000000))=true
  ·rw[if_pos I]at r
   obtain⟨t,N⟩:=aA.mp I;have N:=aV N;obtain⟨_,kd,ekd⟩:=Gb t
   have tk:Tr s.Hf k y:=by rw[ekd]at ek ⊢;exact Gi P r1 ek
   obtain⟨b,rfl,kb⟩:=Au0 t tk;obtain⟨C,q1,B,q3,q4⟩:=f.at_
   have zl:(m.zip C).length<sizeLine:=by rw[dO,<- B,e_];exact aK N (by decide)
   have S:a≠g:=λz=>by rw[<- z,q1]at n;cases n
   have A:∀b,DX a X b->b≠g:=λb z q=>by
    obtain⟨o,e,_⟩:=f.mu b z;rw[q,n]at e;cases e
   have G:=Yi (X':=X) P f (H':=upd s.H g (.lst [])) (λb=>by
    by_cases z:b=g
    ·rw[z];exact .inr (.inr n)
    ·exact .inl (Ag z)) (λb z=>.inl z)
   have hd2:DB ⟨s.Hf,upd s.H g (.lst []),s.fps⟩ a m F X :=
    ⟨⟨
     C,by show upd s.H g _ a=_;rw[Ag S];exact q1,B,q3,λi e E=>by
     obtain⟨u,V,U⟩:=q4 i e E
     exact⟨u,V,U.step (Same.refl _) λb I=>Ag (A b (.inr ⟨i,I⟩))⟩⟩,f.fr,f.dis,f.na,λb z=>by
     obtain⟨o,e,mu⟩:=f.mu b z
     exact⟨o,by show upd s.H g _ b=_;rw[Ag (A b z)];exact e,mu⟩,f.out,f.ky,f.nd⟩
   have kb':KAt (upd s.H g (.lst [])) k b:=kb.stay λb xs q=>by
    have:=P.sub _ _ q;rw[Ag];exact this;intro z;rw[z,n]at this;cases this
   refine⟨m.zip C,k,b,rfl,by rw[Ag S];exact q1,kb',zl,λv L=>?_,λL=>?_⟩
   ·-- there
    cases E:O4 k m with
    | none=>rw[(Kz (vs:=C) t f.ky E).2]at L;cases L
    | some j =>
     unfold Tg at r;simp only[E]at r;obtain⟨Y,i2⟩:=Oi t f.ky B E
     cases eE:F[j]? with
     | none=>rw[eE]at r;exact r.elim
     | some en =>
      rw[eE]at r
      cases en with
      | d x=>exact r.elim
      | l xs =>
       obtain⟨u,V,lb,us,rfl,U,f3,f4⟩:=q4 j _ eE;rw[i2,V]at L
       cases L
       exact An1 he G.1 hs hd2 eE U (zM.step r (J.moreX.trans G.2))
   ·-- not there
    cases E:O4 k m with
    | some j =>
     obtain⟨Y,i2⟩:=Oi t f.ky B E;have hj:j<m.length:=(bG.mp Y).1
     rw[i2,bu (by lia)]at L;cases L
    | none =>
     unfold Tg at r;simp only[E]at r;obtain⟨Y,i2⟩:=Kz (vs:=C) t f.ky E;have T:m.length=F.length:=B.trans q3.symm
     have ej:(F++[DE.l []])[m.length]?=some (.l []):=by rw[T,dM (au _),dz];rfl
     rw[ej]at r
     have M:∀i b,b∈(λi=>if i=m.length then [g] else X i) i->(i=m.length/\b=g)\/(i≠m.length/\b∈X i):=λi b h=>by
      have h:b∈if i=m.length then [g] else X i:=h
      split at h
      ·rename_i q;exact .inl ⟨q,aQ.mp h⟩
      ·rename_i q;exact .inr ⟨q,h⟩
     have H:=Yi (X':=λi=>if i=m.length then [g] else X i) P f (H':=upd (upd s.H g (.lst [])) a (.dT (m.zip C++[(k,.ref g)]))) (λb=>by
      by_cases z:b=a
      ·exact .inr (.inl (.inl z))
      ·by_cases z2:b=g
       ·rw[z2];exact .inr (.inr n)
       ·exact .inl (by rw[Ag z,Ag z2])) (λb z=>by
      rcases z with z | ⟨i,z⟩
      ·exact .inl (.inl z)
      ·rcases M i b z with ⟨_,q⟩ | ⟨_,q⟩
       ·rw[q];exact .inr n
       ·exact .inl (.inr ⟨i,q⟩))
     have hd3:DB ⟨s.Hf,upd (upd s.H g (.lst [])) a (.dT (m.zip C++[(k,.ref g)])),s.fps⟩ a (m++[k]) (F++[.l []]) (λi=>if i=m.length then [g] else X i):=by
      refine⟨⟨C++[.ref g],?_,by rw[aH,aH,B];rfl,by rw[aH,aH,q3];rfl,λi e w=>?_⟩,λb z=>?_,λi i' b z z'=>?_,λi z=>?_,λb z=>?_,λi Z=>?_,λx O=>?_,?_⟩
      ·show upd _ a _ a=_
       rw[Ax,List.zip_append B];rfl
      ·by_cases z:i<F.length
       ·rw[dB z]at w
        obtain⟨u,V,U⟩:=q4 i e w
        refine⟨u,by rw[dB (by lia)];exact V,?_⟩
        rw[if_neg (by lia)]
        exact U.step (Same.refl _) λb I=>by
         show upd (upd s.H g _) a _ b=_
         have na:b≠a:=λq=>f.na i (q▸I)
         rw[Ag na,Ag (A b (.inr ⟨i,I⟩))]
       ·rw[dM (by lia)]at w
        have Z:i=F.length:=by
         rcases bN (i-F.length) 1 with q | q
         ·lia
         ·rw[i_ (by simpa using q)]at w;cases w
        subst Z;rw[dz]at w
        cases w
        refine⟨.ref g,by rw[q3,dM (au _),dz];rfl,g,[],rfl,by rw[if_pos T.symm],?_,rfl⟩
        show upd (upd s.H g _) a _ g=_
        rw[Ag (aD S),Ax]
      ·rcases z with z | ⟨i,z⟩
       ·exact f.fr b (.inl z)
       ·rcases M i b z with ⟨_,q⟩ | ⟨_,q⟩
        ·rw[q];exact⟨P.notF n,P.notS n⟩
        ·exact f.fr b (.inr ⟨i,q⟩)
      ·rcases M i b z with ⟨q,p1⟩ | ⟨q,p1⟩
       ·rcases M i' b z' with ⟨q',Q⟩ | ⟨q',Q⟩
        ·rw[q,q']
        ·exact absurd p1 (A b (.inr ⟨i',Q⟩))
       ·rcases M i' b z' with ⟨q',Q⟩ | ⟨q',Q⟩
        ·exact absurd Q (A b (.inr ⟨i,p1⟩))
        ·exact f.dis i i' b p1 Q
      ·rcases M i a z with ⟨_,q⟩ | ⟨_,q⟩
       ·exact S q
       ·exact f.na i q
      ·by_cases q:b=a
       ·rw[q];exact⟨_,Ax,trivial⟩
       ·by_cases B:b=g
        ·rw[B];exact⟨.lst [],by show upd (upd s.H g _) a _ g=_;rw[Ag (aD S),Ax],trivial⟩
        ·have zX:DX a X b:=by
          rcases z with z | ⟨i,z⟩
          ·exact .inl z
          ·rcases M i b z with ⟨_,q⟩ | ⟨_,q⟩
           ·exact absurd q B
           ·exact .inr ⟨i,q⟩
         obtain⟨o,e,mu⟩:=f.mu b zX
         exact⟨o,by show upd (upd s.H g _) a _ b=_;rw[Ag q,Ag B];exact e,mu⟩
      ·rw[aH]at Z
       show (if i=m.length then [g] else X i)=[]
       have:F.length+1<=i:=Z
       rw[if_neg (by lia)]
       exact f.out i (by lia)
      ·rcases bx.mp O with O | O
       ·exact f.ky x O
       ·rw[aQ.mp O];exact t
      ·rw[fX]
       refine⟨f.nd,by simp,λx O y hy e=>?_⟩
       rw[aQ.mp hy]at e;exact Y (e▸O)
     exact An1 he H.1 hs hd3 ej (by rw[if_pos rfl]) (zM.step r (J.moreX.trans H.2))
  ·rw[if_neg I]at r;exact r.elim
end
theorem A1d {H:Hp}:∀{ds:w5}{vs:n_},ds.length=vs.length->(∀(j:Nat) (x:t6) (v:V),ds[j]?=some x->vs[j]?=some v->Tr H x v)->TrL H ds vs
 | [],[],_,_=>rfl
 | [],_::_,l,_=>nomatch l
 | _::_,[],l,_=>nomatch l
 | x::ds,v::vs,l,h=>⟨v,vs,rfl,h 0 x v rfl rfl,A1d (g_ l) λj y u e1 e2=>h (j+1) y u (by simpa using e1) (by simpa using e2)⟩
section
variable {K:v9}{β:Nat->V}{W:Wo}{c:Ev}{σ:St}{Hf H:Hp}{a:Addr}{ks:w5}{es:List DE}{X:Nat->v6}{d:Nat}{D:Ends}
open Classical in
noncomputable def Uy (W:Wo) (a:Addr) (u:HO) (X:Nat->v6):Hp:=λb=>if b=a then some u else if ∃j,b∈X j then W.H b else W.Hf b
theorem Bd1 : Uy W a u X a=some u:=by unfold Uy;grind
theorem A2e (n:b≠a) (h:b∈X j):Uy W a u X b=W.H b:=by unfold Uy;rw[if_neg n,if_pos ⟨j,h⟩]
theorem Sg (h:¬ DX a X b):Uy W a u X b=W.Hf b:=by unfold Uy;rw[if_neg λz=>h (.inl z),if_neg λz=>h (.inr z)]
theorem DB.same (hd:DB W a ks es X):Same W.Hf (Uy W a u X):=λb u e=>by
 rw[Sg];exact e;intro z;rw[(hd.fr b z).1]at e;grind
theorem DB.sub (hd:DB W a ks es X) (R:Rep K β W c σ):Same (Uy W a u X) (upd W.H a u):=λb v e=>by
 by_cases z0:b=a
 ·subst z0;rw[Bd1]at e;rw[Ax];lia
 ·rw[Ag z0]
  by_cases z:DX a X b
  ·rcases z with z | ⟨j,z⟩
   ·grind
   ·rw[A2e z0 z]at e;grind
  ·rw[Sg z]at e;exact R.sub b v e
theorem DB.done (hd:DB W a ks es X) (hv:W.H a=some (.dT (ks.zip vs))) (hl:ks.length=vs.length):RepT K (Uy W a (.frz o (.dT (ks.zip vs))) X) (.ds ks (es.map DE.dat)) (.ref a):=by
 obtain⟨c,f,g,q3,s⟩:=hd.at_
 have n:c=vs:=by
  rw[hv]at f
  have e:=bU (λx => x.map (·.2)) (show ks.zip _=ks.zip _ from by injection bY f)
  simp only[jt (dq hl.symm),jt (dq g.symm)]at e
  simp_all
 subst n
 refine⟨a,o,c,rfl,Bd1,A1d (by grind) λj x v i w=>?_,g⟩
 rw[bJ]at i;obtain⟨e,p,rfl⟩:=aW.mp i;obtain⟨u,h,k⟩:=s j e p;rw[w]at h
 cases h
 cases e with
 | d x=>exact Tr.same hd.same k.2
 | l xs =>
  obtain⟨b,q,rfl,g1,g2,t⟩:=k
  have m:b∈X j:=by simp_all
  have r:b≠a:=λz=>hd.na j (z▸m)
  exact⟨b,q,rfl,by rw[A2e r m];grind,TrL.same hd.same t⟩
theorem Rep.hide (R:Rep K β W c σ) (hp:W.H p=none):Rep K β ⟨W.Hf,upd W.H p o,clr W.fps d⟩ (c.set d none) (σ.set d (some v)):=by
 refine⟨Rm R.sub hp,by rw[bT,bT];exact R.len,λj f e=>?_,λj k a m n=>R.dis j k a (Ei m).1 (Ei n).1,λj a h=>?_⟩
 ·have z:j≠d:=λz=>by
   grind
  rw[cB (λy=>z y.symm)]at e
  obtain⟨g,w,r,b⟩:=R.get j f e
  refine⟨g,by grind,?_,b⟩
  show RepO K W.Hf (upd W.H p o) f g (clr W.fps d j)
  have s:clr W.fps d j=W.fps j:=by unfold clr;rw[if_neg z]
  rw[s]
  exact r.mono (Same.refl _) λa i=>⟨(R.own j a i).1,Ag λq=>by obtain⟨_,o,e,_⟩:=R.own j a i;rw[q,hp]at e;cases e⟩
 ·obtain⟨t,f,u,l⟩:=R.own j a (Ei h).1
  exact⟨t,f,by show upd _ p o a=_;rw[Ag λq=>by simp_all];exact u,l⟩
def Kg (d:Nat)(F:BF)(g:Ev->SR):Ev->SR:=λc=>if Dd d (c.set d none)=true then match F (c.set d none) [] [] with
 | .nx c ks es=>g (c.set d (some (.ty (.ds ks (es.map DE.dat)))))
 | .bad=>.bad
 else .bad
theorem Ao8 (h1:MB K d T F) (h2:MS K u g):MS K (A3i (Vr Ab4 (Hx d)) (tFz d T u)) (Kg d F g):=by
 intro C W c J D R l
 show ∀p,W.H p=none->T { D with nx:=λw M=>∃a kvs,w[d]?=some (some (.ref a))/\M a=some (.dT kvs)/\∀o,u D w (upd M a (.frz o (.dT kvs))) } (J.set d (some (.ref p))) (upd W.H p (.dT []))
 intro p A;unfold Kg at l
 by_cases z:Dd d (c.set d none)=true
 ·rw[if_pos z]at l
  have hc:=Hn z
  have H:d<c.length:=by
   grind
  have Z:(J.set d (some (.ref p)))[d]?=some (some (V.ref p)):=cG (by rw[<- R.len];exact H)
  have R1:Rep K C ⟨W.Hf,upd W.H p (.dT []),clr W.fps d⟩ (c.set d none) (J.set d (some (.ref p))):=R.hide A
  have x:∀b,DX p (λ_=>[]) b->b=p:=λb z=>by
   rcases z with z | ⟨_,z⟩
   ·exact z
   ·cases z
  have U:∀b,Wo.S ⟨W.Hf,upd W.H p (.dT []),clr W.fps d⟩ b->W.S b:=λb ⟨j,h⟩=>⟨j,(Ei h).1⟩
  have S:DB ⟨W.Hf,upd W.H p (.dT []),clr W.fps d⟩ p [] [] (λ_=>[]) :=
   ⟨⟨[],Ax,rfl,rfl,λj e ej=>by simp at ej⟩,λb z=>by rw[x b z];exact⟨R.notF A,λq=>R.notS A (U p q)⟩,λi j b z=>(by cases z),λj z=>(by cases z),λb z=>by rw[x b z];exact⟨_,Ax,trivial⟩,λ_ _=>rfl,λk Y=>(by cases Y),d_⟩
  have I:Stp W.S W.Hf W.H (orX (Wo.S ⟨W.Hf,upd W.H p (.dT []),clr W.fps d⟩) p (λ_=>[])) W.Hf (upd W.H p (.dT [])) :=
   ⟨Same.refl _,λb o e _=>by rw[Ag (λq=>by rw[q,A]at e;cases e)];exact e,λ_ _ _ _ _ q=>q,λb z=>by
    grind⟩
  refine h1 C _ _ _ _ p [] [] _ R1 hc Z S ?_
  cases eF:F (c.set d none) [] [] with
  | bad=>rw[eF]at l;exact l.elim
  | nx c2 r es =>
   rw[eF]at l;intro s m y st G X E f;obtain⟨t,N,q2,_,_⟩:=f.at_
   refine⟨p,r.zip t,E,N,λo=>?_⟩
   have R3:Rep K C ⟨Uy m p (.frz o (.dT (r.zip t))) y,upd m.H p (.frz o (.dT (r.zip t))),m.fps⟩ c2 s:=G.frame f.same (f.sub G) λb O=>by
    have P:¬ DX p y b:=λz=>(f.fr b z).2 O
    obtain⟨i,hi⟩:=O
    exact⟨by rw[Sg P];exact(G.own i b hi).1,Ag (λz=>P (.inl z))⟩
   have Q:=R3.setN (i:=d) (o:=.ty (.ds r (es.map DE.dat))) (v:=.ref p) (f.done (K:=K) N q2) rfl
   have L:s.set d (some (.ref p))=s:=by
    apply jz
    grind
   rw[L]at Q
   have B:Stp (orX m.S p y) m.Hf m.H (Wo.S ⟨Uy m p (.frz o (.dT (r.zip t))) y,upd m.H p (.frz o (.dT (r.zip t))),clr m.fps d⟩) (Uy m p (.frz o (.dT (r.zip t))) y) (upd m.H p (.frz o (.dT (r.zip t)))) :=
    ⟨f.same,λb o e n=>by rw[Ag λz=>n (.inr (.inl z))];exact e,λb o _ _ n q=>by rw[Sg λz=>n (.inr z)];exact q,λb ⟨j,h⟩=>.inl (.inl ⟨j,(Ei h).1⟩)⟩
   exact h2 _ _ _ _ D Q (zK.step l (I.trans (st.trans B)))
 ·rw[if_neg z]at l;exact l.elim
def Jh (fa fw fx:o_):o_:=λc=>(fa c).bind λp c=>match p with
 | .o (.ty (.ds ks ds))=>(fw c).bind λq c=>(fx c).bind λr c=>(frz (nrm r) c).bind λx c=>match Du c (nrm q) with
  | some k=>if (Ij k&&ks.all Ij)=true then .ok (.o (.im ((O5 ks ds k).getD x))) c else .bad
  | none=>.bad
 | _=>.bad
theorem Xx:∀{ks ds:w5}{xs:n_}{z:t6},(∀k∈ks,Ij k=true)->Ij z=true->ds.length=xs.length->ks.length=xs.length->O5 ks ds z=none->Jp (ks.zip xs) z=none
 | [],_,_,_,_,_,_,_,_=>rfl
 | _::_,[],[],_,_,_,_,h,_=>nomatch h
 | _::_,[],_::_,_,_,_,h,_,_=>nomatch h
 | _::_,_::_,[],_,_,_,h,_,_=>nomatch h
 | k::ks,d0::ds,v::xs,z,hk,hz,l1,l2,e=>by
  have b:=(Gb (hk k bR)).1.1;have b2:=(Gb hz).1.1
  have e:(if PyData.eqv k z=true then some d0 else O5 ks ds z)=none:=e
  by_cases h:PyData.eqv k z=true
  ·rw[if_pos h]at e;cases e
  ·rw[if_neg h]at e
   rw[cW,Jf (λq=>h ((Jr k z b b2).mpr q))]
   exact Xx (λk m=>hk k (bI _ m)) hz (g_ l1) (g_ l2) e
theorem Ar1 {H N L:TE} (ha:ME K H fa) (hw:ME K N fw) (hx:ME K L fx):ME K (Ad1 H N L) (Jh fa fw fx):=by
 intro G W c F Q R s
 refine ha G W c F _ R ((s.bnd).mono λp c1 f v1 A Y l M g=>?_)
 match p,g,f with
 | .o (.ty (.ds ks ds)),g,f =>
  obtain⟨⟨rfl,a,I,P,rfl,O,S,T⟩,_⟩:=g
  have l:Stp W.S W.Hf W.H A.S A.Hf A.H:=l.less λa z=>.inl z
  refine⟨a,rfl,.inr ⟨_,.inr ⟨I,M.sub _ _ O⟩⟩,?_⟩
  refine hw.toV G A c1 F _ M ((f.bnd).mono λq c2 s2 V W2 C R2 B=>?_)
  refine hx.toV G W2 c2 F _ R2 ((s2.bnd).mono λr c3 U v3 W3 n Z r3=>?_)
  obtain⟨x,c4,J,_,j,e4,u,y,X⟩:=Eu Z r3 U.bnd;have D:=C.trans (n.trans u);have B:=RepA.same (n.fz.trans u.fz) B;rw[<- e4]
  cases ed:Du c4 (nrm q) with
  | none=>simp only[ed]at j;exact j.elim
  | some k =>
   simp only[ed]at j
   by_cases hb:(Ij k&&ks.all Ij)=true
   ·rw[if_pos hb]at j
    obtain⟨w,i⟩:=aA.mp hb
    have i:∀k∈ks,Ij k=true:=λk m=>bL.mp i k m
    obtain⟨_,kd,E⟩:=Gb w
    have tz:Tr J.Hf k V:=by rw[E]at ed ⊢;exact Gi y B ed
    obtain⟨b,rfl,kb⟩:=Au0 w tz;have e2:Rd J.H a (.dT _):=.inr ⟨I,y.sub _ _ (D.fz _ _ O)⟩
    have o:∀d v,Tr _ d v->(O5 _ _ k).getD x=d->Q v _:=λd v t e=>by
     rw[e]at j
     exact j v _ _ ((l.trans D).less λa h=>by
      rcases h with h | h
      ·exact h
      ·cases h) y ⟨⟨rfl,t⟩,λa h=>nomatch h⟩
    refine⟨_,.inr ⟨_,_,b,e2,rfl,kb.stay λb P q=>y.sub _ _ q,rfl⟩,?_⟩
    cases el:O5 _ _ k with
    | some d =>
     obtain⟨v,q1,q2⟩:=A2r i w (TrL.same D.fz S) el;rw[q1]
     exact o d v q2 (by rw[el];rfl)
    | none =>
     rw[Xx i w S.length T el]
     exact o x _ X (by rw[el];rfl)
   ·rw[if_neg hb]at j;exact j.elim
 | .o (.ty (.nm _)),g,f=>exact f.elim
 | .o (.ty (.tc _)),g,f=>exact f.elim
 | .o (.ty (.xc _)),g,f=>exact f.elim
 | .o (.ty (.dc _ _)),g,f=>exact f.elim
 | .o (.ty (.dt _ _)),g,f=>exact f.elim
 | .o (.ty (.td _ _ _)),g,f=>exact f.elim
 | .o (.im _),g,f=>exact f.elim
 | .o (.ls _ _),g,f=>exact f.elim
 | .o (.sc _),g,f=>exact f.elim
 | .sl _,g,f=>exact f.elim
end
section
variable {K:v9}{W W':Wo}{c:Ev}{Hf H:Hp}
noncomputable def Yx (Hf H:Hp):Hp:=λb=>match H b with
 | some (.tup xs)=>some (.tup xs)
 | _=>Hf b
theorem Rv (e:H b=some (.tup xs)):Yx Hf H b=some (.tup xs):=by unfold Yx;rw[e]
theorem Vw (h:∀xs,H b≠some (.tup xs)):Yx Hf H b=Hf b:=by
 unfold Yx
 grind
theorem Zw (s:Same Hf H):Same Hf (Yx Hf H):=λb u e=>by
 by_cases h:∃a,H b=some (.tup a)
 ·obtain⟨a,c⟩:=h
  rw[Rv c,<- c];exact s b u e
 ·rw[Vw λa q=>h ⟨a,q⟩];grind
theorem Vz (s:Same Hf H):Same (Yx Hf H) H:=λb u e=>by
 by_cases h:∃a,H b=some (.tup a)
 ·obtain⟨a,c⟩:=h
  rw[Rv c]at e;grind
 ·rw[Vw λa q=>h ⟨a,q⟩]at e;exact s b u e
theorem W7 (s:Same Hf H):Stp (λ_=>False) Hf H (λ_=>False) (Yx Hf H) H :=
 ⟨Zw s,λ_ _ e _=>e,λb o e a _ q=>by
  rw[Vw λc z=>by rw[e]at z;cases z;exact a];grind,λ_ z=>z.elim⟩
mutual
theorem Ae0 {H':Hp}(h:∀b xs,H b=some (.tup xs)->H' b=some (.tup xs)):∀{d:t6}{v:V},KTr H d v->Tr H' d v
 | .none,_,e=>e
 | .int _,_,e=>e
 | .str _,_,e=>e
 | .tuple _,_,⟨a,vs,e,ha,t⟩=>⟨a,vs,e,h _ _ ha,A2a h t⟩
theorem A2a {H':Hp}(h:∀b xs,H b=some (.tup xs)->H' b=some (.tup xs)):∀{ds:w5}{vs:n_},KTrL H ds vs->TrL H' ds vs
 | [],_,e=>e
 | _::_,_,⟨v,r,e,a,t⟩=>⟨v,r,e,Ae0 h a,A2a h t⟩
end
theorem Ay4 {ks:w5}{xs:n_}{i:Nat} (e:(ks.zip xs)[i]?=some (k,v)):ks[i]?=some k/\xs[i]?=some v:=by
 grind
def Ag1 (fa:o_):Ev->R (w5):=λc=>(fa c).bind λp c=>match p with
 | .o (.ty (.ds ks _))=>.ok ks c
 | _=>.bad
theorem A8j (ha:ME K r fa):MI K (iDK r) (Ag1 fa):=by
 intro D W c w k R s
 refine ha D W c w _ R ((s.bnd).mono λp c1 f v1 m y h t g=>?_)
 match p,g,f with
 | .o (.ty (.ds ks ds)),g,f =>
  obtain⟨⟨rfl,a,o,j,rfl,n,t1,l1⟩,_⟩:=g
  have h:Stp W.S W.Hf W.H m.S m.Hf m.H:=h.less λa z=>.inl z
  have lz:(ks.zip j).length=ks.length:=by simp_all
  refine⟨a,o,ks.zip j,rfl,t.sub _ _ n,f (Itk a o) m h t λi C H q l=>⟨λe=>⟨ks.zip j,l _ _ (q _ _ n),by simp_all⟩,λd B=>⟨⟨ks.zip j,l _ _ (q _ _ n),by grind⟩,λx H' E=>?_⟩⟩⟩
  obtain⟨rfl,A,k',v,b,G,F,rfl,I⟩:=E
  cases (G.symm.trans (l _ _ (q _ _ n)))
  obtain⟨u,_⟩:=Ay4 F
  cases B.symm.trans u
  exact⟨Yx _ _,W7 l,Vz l,Ae0 (λb j e=>Rv e) I.2⟩
 | .o (.ty (.nm _)),g,f=>trivial
 | .o (.ty (.tc _)),g,f=>trivial
 | .o (.ty (.xc _)),g,f=>exact f.elim
 | .o (.ty (.dc _ _)),g,f=>exact f.elim
 | .o (.ty (.dt _ _)),g,f=>exact f.elim
 | .o (.ty (.td _ _ _)),g,f=>exact f.elim
 | .o (.im _),g,f=>exact f.elim
 | .o (.ls _ _),g,f=>exact f.elim
 | .o (.sc _),g,f=>exact f.elim
 | .sl _,g,f=>trivial
noncomputable def Ig:w5->w5->w5
 | k::ks,d::ds=>.tuple [k,d]::Ig ks ds
 | _,_=>[]
theorem Pn:∀{ks ds:w5},ks.length=ds.length->(Ig ks ds).length=ks.length
 | [],[],_=>rfl
 | [],_::_,h=>nomatch h
 | _::_,[],h=>nomatch h
 | _::ks,_::ds,h=>by
  show (Ig ks ds).length+1=_
  rw[Pn (g_ h)];rfl
theorem Zt:∀{ks ds:w5}{i:Nat}{x:t6},(Ig ks ds)[i]?=some x->∃k d,ks[i]?=some k/\ds[i]?=some d/\x=.tuple [k,d]
 | [],_,_,_,e=>by simp[Ig]at e
 | _::_,[],_,_,e=>by simp[Ig]at e
 | k::ks,d::ds,0,x,e=>by
  cases (show some (PyData.tuple [k,d])=some x from e)
  exact⟨k,d,rfl,rfl,rfl⟩
 | k::ks,d::ds,i+1,x,e=>by
  obtain⟨k',d',h1,h2,h3⟩:=Zt (show (Ig ks ds)[i]?=some x by simpa[Ig] using e)
  exact⟨k',d',by simpa using h1,by simpa using h2,h3⟩
theorem TrL.at {H:Hp}:∀{ds:w5}{vs:n_}{i:Nat}{d:t6}{v:V},TrL H ds vs->ds[i]?=some d->vs[i]?=some v->Tr H d v
 | [],_,_,_,_,_,e,_=>by simp at e
 | x::ds,_,0,d,v,⟨u,r,e0,t,_⟩,e1,e2=>by
  subst e0
  cases (show some x=some d from e1)
  cases (show some u=some v from e2)
  exact t
 | x::ds,_,i+1,d,v,⟨u,r,e0,_,ts⟩,e1,e2=>by
  subst e0
  exact TrL.at ts (by simpa using e1) (by simpa using e2)
def Vd (fa:o_):Ev->R (w5):=λc=>(fa c).bind λp c=>match p with
 | .o (.ty (.ds ks ds))=>if ks.length=ds.length then .ok (Ig ks ds) c else .bad
 | _=>.bad
theorem A3e (ha:ME K B fa):MI K (iDI B) (Vd fa):=by
 intro F W c P k R s
 refine ha F W c P _ R ((s.bnd).mono λp Y f v1 r X h y g=>?_)
 match p,g,f with
 | .o (.ty (.ds ks ds)),g,f =>
  obtain⟨⟨rfl,a,o,m,rfl,q,A,I⟩,_⟩:=g
  have h:Stp W.S W.Hf W.H r.S r.Hf r.H:=h.less λa z=>.inl z
  have C:(ks.zip m).length=ks.length:=by simp_all
  have w:ks.length=ds.length:=I.trans A.length.symm
  have f:(if ks.length=ds.length then U.R.ok (Ig ks ds) Y else .bad:U.R (w5)).sat _:=f
  rw[if_pos w]at f
  refine⟨a,o,ks.zip m,rfl,y.sub _ _ q,f (Iti a o) r h y λi j H n l=>⟨λe=>⟨ks.zip m,l _ _ (n _ _ q),by rw[C,e,Pn w];lia⟩,λd J=>⟨⟨ks.zip m,l _ _ (n _ _ q),by rw[C,<- Pn w];grind⟩,λx H' M=>?_⟩⟩⟩
  obtain⟨p,G,k',v,b,rfl,D,rfl,Q,S,N⟩:=M
  cases (Q.symm.trans (l _ _ (n _ _ q)))
  obtain⟨L,O⟩:=Ay4 S;obtain⟨k2,d2,V,T,rfl⟩:=Zt J
  cases (V.symm.trans L)
  have u:=Vz (Hf:=j) l;have E:Yx j H p=none:=Same.free u D;have t:=Stp.newF (o:=.tup [.ref b,v]) u D
  refine⟨upd (Yx j H) p _,(W7 l).trans t,Jz u,p,_,rfl,Ax,.ref b,_,rfl,Tr.same (Bp E) (Ae0 (λb m e=>Rv e) N.2),v,[],rfl,Tr.same (Bp E) (Tr.same (Zw l) (Tr.same n (TrL.at A T O))),rfl⟩
 | .o (.ty (.nm _)),g,f=>exact f.elim
 | .o (.ty (.tc _)),g,f=>exact f.elim
 | .o (.ty (.xc _)),g,f=>exact f.elim
 | .o (.ty (.dc _ _)),g,f=>exact f.elim
 | .o (.ty (.dt _ _)),g,f=>exact f.elim
 | .o (.ty (.td _ _ _)),g,f=>exact f.elim
 | .o (.im _),g,f=>exact f.elim
 | .o (.ls _ _),g,f=>exact f.elim
 | .o (.sc _),g,f=>exact f.elim
 | .sl _,g,f=>trivial
def A1m (fa:o_):o_:=λc=>(fa c).bind λp c=>match p with
 | .o (.ty (.ds ks _))=>.ok (.o (.im (.tuple ks))) c
 | _=>.bad
theorem A7t {H':Hp}(h:∀b xs,H b=some (.tup xs)->H' b=some (.tup xs)):∀{ks:w5}{vs:n_},Bo7 H ks vs->TrL H' ks vs
 | [],_,e=>e
 | k::ks,_,⟨b,r,e,kb,t⟩=>⟨.ref b,r,e,Ae0 h kb.2,A7t h t⟩
theorem Bl3 (ha:ME K l fa):ME K (Bt8 l) (A1m fa):=by
 intro B W c C Q R s
 refine ha B W c C _ R ((s.bnd).mono λp c1 d v1 j y g h f=>?_)
 match p,f,d with
 | .o (.ty (.ds ks ds)),f,d =>
  obtain⟨⟨rfl,a,o,r,rfl,u,t1,x⟩,_⟩:=f
  have g:Stp W.S W.Hf W.H j.S j.Hf j.H:=g.less λa z=>.inl z
  refine⟨a,o,ks.zip r,rfl,h.sub _ _ u,λm p n q=>?_⟩
  rw[List.map_fst_zip (dq x)]at n;have i:=Vz h.sub;have w := Same.free i q;have k:=(W7 h.sub).trans (Stp.newF (o:=.tup m) i q)
  exact New.of h (λv W' fp A D t=>d v _ _ (g.trans A) D t) _ _ _ [] (k.less λa z=>nomatch z) (Jz i) ⟨rfl,p,m,rfl,Ax,TrL.same (Bp w) (A7t (λb r e=>Rv e) n)⟩
 | .o (.ty (.nm _)),f,d=>trivial
 | .o (.ty (.tc _)),f,d=>trivial
 | .o (.ty (.xc _)),f,d=>trivial
 | .o (.ty (.dc _ _)),f,d=>trivial
 | .o (.ty (.dt _ _)),f,d=>trivial
 | .o (.ty (.td _ _ _)),f,d=>exact d.elim
 | .o (.im _),f,d=>exact d.elim
 | .o (.ls _ _),f,d=>exact d.elim
 | .o (.sc _),f,d=>exact d.elim
 | .sl _,f,d=>trivial
end
variable {K:v9}
def Kv:t6->t6->n8
 | .list ds,.str y=>(strsOf ds).map λss=>.im (.int ((ss.countP λz=>z==y:Nat)))
 | _,_=>none
theorem Yd:OpS K (λx y H Q=>A1k K x [y] H Q) Kv:=by
 intro Hf H x y dx dy o Q s f c e n;unfold Kv at e
 split at e
 ·rename_i d z
  obtain⟨a,vs,rfl,g,t⟩:=Fg f
  cases es:strsOf d with
  | none=>grind
  | some b =>
   rw[es]at e;cases e
   cases Hg c
   cases Ay9 es t
   exact⟨a,b,z,rfl,rfl,SqL.of g,n.int s⟩
 grind
def Qd:t6->t6->n8
 | .list a,.int k=>if a.length*k.toNat<=16000000&&(decide (-16000000<=k)&&decide (k<=16000000)) then some (.ls false (B3u a k.toNat)) else none
 | _,_=>none
theorem Vu:OpS K Bw1 Qd:=by
 intro k H x y i j o Q s f h e n;unfold Qd at e
 split at e
 ·split at e
  ·rename_i l
   cases e
   simp at l
   obtain⟨p,d,c,g,a⟩:=Fg f
   exact⟨p,_,d,c,Dj h,g,by lia,by lia,by rw[<- a.length];exact lim l.1,λr b=>n.lst s (A1w a _) b⟩
  ·cases e
 grind
theorem Bj {p a:Pos}(D:Def X.prog X.w X.K X.mg X.base x k ps sp) (hr:Room c X.A) (ha:QA X (e::es) t) (h:k<=c:=by lia) (hg:Gl X x:=by rfl)
 (hdb:(x==("__debug__" : Str))=false:=by decide) (hn:noStar (e::es)=true:=by rfl):QE X (.Call (.Name x p) (e::es) [] a) (M6 sp [] E0 t):=by
 obtain⟨f,g,G,b,d,m⟩:=D;exact Nj G (hr.mono h) hg m d b .nil B4g ha hdb hn
section
variable {K:v9}{β:Nat->V}{W:Wo}{c:Ev}{σ:St}{Hf H:Hp}
def B1s (F:w5->XF)(fa:o5):Ev->XS:=Bt6 F fa (λ_ c=>.s (.nx c)) .ex
def cFY (F:w5->XF)(fa:o5):o_:=λc=>(fa c).bind λps c=>match Nm c ps with
 | none=>.bad
 | some ds=>match F ds with
  | .ret (.im d)=>.ok (.o (.im d)) c
  | _=>.bad
theorem Al1 {F:w5->XF}{t:TA}{fa:o5}(ha:MA K t fa):ME K (M6 (spX K F) [] E0 t) (cFY F fa):=by
 intro β W c σ Q R s
 show t σ W.H λvs H1=>spX K F (vs++[]) H1 Q E0
 simp only[cA]
 refine ha β W c σ _ R (s.bnd.mono λps c1 s1 vs W1 st R1 r1=>?_)
 cases ea:Nm c1 ps with
 | none=>simp only[ea]at s1;exact s1.elim
 | some ds =>
  simp only[ea]at s1
  refine⟨W1.Hf,ds,R1.sub,Q7 R1 r1 ea,?_⟩
  split at s1
  ·rename_i d ef
   rw[ef];intro v Hf' H' fp s2 sub r;obtain⟨rfl,tv⟩:=r
   have s2:Stp (λ_=>False) W1.Hf W1.H (λ_=>False) Hf' H':=s2.less λa z=>nomatch z
   exact s1 v ⟨Hf',H',W1.fps⟩ [] ((st.trans ⟨s2.fz,λa o e _=>s2.kp a o e λz=>z,λa o e mu _ q=>s2.nf a o e mu (λz=>z) q,λa z=>.inl z⟩).less λa z=>A2n z) (Stp.rep R1 s2 sub) ⟨⟨rfl,tv⟩,λa z=>nomatch z⟩
  ·exact s1.elim
end
theorem B4z {P:u6}{w:World}{X:Cx}:Lj (CXe P w) X E0:=λ_ _ _ _ _ _ _ ⟨_,_,_,_,_,_,_,_,_,_,h⟩=>h.elim
theorem B3h {X:Cx}{x:Str}{k k':Nat}{ps:v4}{sp:Sp}{e:Expr}{es:v_}{t:TA}{p pos:Pos}(D:DefX X.prog X.w X.K X.mg X.base x k ps sp)(hr:Room k' X.A)(ha:QA X (e::es) t)(h:k<=k':=by lia)(hg:Gl X x:=by rfl)
 (hdb:(x==("__debug__" : Str))=false:=by decide) (hn:noStar (e::es)=true:=by rfl):QE X (.Call (.Name x p) (e::es) [] pos) (M6 sp [] E0 t):=by
 obtain⟨f,fd,G,b,kp,m⟩:=D;exact Nj G (hr.mono h) hg m kp b .nil B4z ha hdb hn
def A8e (neg:Bool)(ss:v4):t6->n8
 | .str y=>some (.im (.bool (if neg then !inV (.str y) (ss.map V.str) else inV (.str y) (ss.map V.str))))
 | .int y=>some (.im (.bool (if neg then !inV (.int y) (ss.map V.str) else inV (.int y) (ss.map V.str))))
 | .none=>some (.im (.bool (if neg then !inV .non (ss.map V.str) else inV .non (ss.map V.str))))
 | _=>none
theorem Bx4 {K:v9}{neg:Bool}{a:TE}{fe:o_}{p:Addr}{ss:v4}(he:ME K a fe)(hp:∀H,SqT K H p (ss.map V.str)):ME K (tOp (rIn K neg) a (tC (.ref p))) (cUn (A8e neg ss) fe) :=
 Zb he λb H x d o Q s r e n=>by
  unfold A8e at e
  split at e
  ·cases e;cases Hg r;exact⟨p,_,rfl,.inr (hp H),rfl,Td _,n.bl s⟩
  ·cases e;cases Dj r;exact⟨p,_,rfl,.inr (hp H),rfl,Td _,n.bl s⟩
  ·cases e;cases (r);exact⟨p,_,rfl,.inr (hp H),rfl,Td _,n.bl s⟩
  simp_all
end U
namespace L2
open PySem PySem.Spec PyProof.Rows PySem.W
section
variable {K K':Frag}
def M8 (K K':Frag):Prop:=∀a o,K.lookup a=some o->K'.lookup a=some o
theorem Vc (s:M8 K K'){ns:Addr}{x:Str}{r:u9}(e:nsIn K ns x=some r):nsIn K' ns x=some r:=by
 unfold nsIn at e ⊢
 split at e
 ·rename_i a;rw[s _ _ a];lia
 trivial
theorem Aq6 (s:M8 K K'){x:Str}{v:Value}{r:u9}(e:ownIn K x v=some r):ownIn K' x v=some r:=by
 cases v with
 | ref a =>
  unfold ownIn at e ⊢
  dsimp only at e ⊢
  split at e
  ·rename_i b;rw[s _ _ b];exact Vc s e
  simp_all
 | _=>exact e
theorem Wk (s:M8 K K'){x:Str}:∀{l:w6}{r:u9},alongIn K x l=some r->alongIn K' x l=some r
 | [],r,e=>e
 | v::l,r,e=>by
  unfold alongIn at e ⊢
  split at e
  ·rename_i h;rw[Aq6 s h];exact e
  ·rename_i h;rw[Aq6 s h];exact Wk s e
  ·cases e
theorem Su (s:M8 K K'){x:Str}{C:Addr}{r:u9}(e:findIn K (.ref C) x=some r):findIn K' (.ref C) x=some r:=by
 unfold findIn at e ⊢
 dsimp only at e ⊢
 split at e
 ·rename_i a;rw[s _ _ a];exact Wk s e
 trivial
theorem A6v (s:M8 K K'){C:Addr}{a:ClassData}(e:clsIn K C=some a):clsIn K' C=some a:=by
 unfold clsIn at e ⊢
 split at e
 ·rename_i b;rw[s _ _ b];grind
 trivial
theorem Wb (s:M8 K K'){t b:Value}{r:Bool}(e:subIn K t b=some r):subIn K' t b=some r:=by
 cases t with
 | ref C =>
  obtain⟨c,d,a⟩:=cP.mp (e);exact Option.bind_eq_some_iff.mpr ⟨c,A6v s d,a⟩
 | _=>exact e
theorem Zr (s:M8 K K'){t c:Value}{r:Bool}(e:kitCls K t c=some r):kitCls K' t c=some r:=by
 unfold kitCls at e ⊢
 split at e
 ·rename_i C
  split at e
  ·rename_i z
   rw[if_pos,Wb s e]
   dsimp only[clsIn,typeIn]at z ⊢
   cases ho:K.lookup C with
   | none=>simp_all
   | some o=>rw[s _ _ ho];grind
  simp_all
 ·split at e
  ·rename_i z;rw[if_pos z,Wb s e]
  grind
 trivial
theorem A6a (s:M8 K K'){t c:Value}{r:Bool}(e:kitOne K t c=some r):kitOne K' t c=some r:=by
 unfold kitOne at e ⊢
 split at e
 ·grind
 ·rename_i z;rw[if_neg z];exact Zr s e
theorem A2w (s:M8 K K'){t c:Value}{r:Bool}(e:exmOne K t c=some r):exmOne K' t c=some r:=by
 unfold exmOne at e ⊢
 split at e
 ·rename_i z
  rw[if_pos (by rw[Wb s (dJ.mp z)];rfl)];exact Zr s e
 simp_all
theorem A1r (s:M8 K K'){n:Addr}(e:nsOkIn K n=true):nsOkIn K' n=true:=by
 unfold nsOkIn at e ⊢
 split at e
 ·rename_i a;rw[s _ _ a];grind
 trivial
theorem Aa2 (s:M8 K K'){b:w6}:∀{l:w6},tailIn K b l=true->tailIn K' b l=true
 | [],e=>e
 | v::l,e=>by
  unfold tailIn at e ⊢
  rcases jB.mp e with q | q
  ·rw[q];rfl
  ·refine Bool.or_eq_true_iff.mpr (.inr ?_)
   split at q
   ·split at q
    ·rename_i ho
     rw[s _ _ ho];simp only[dh,beq_iff_eq]at q ⊢;exact⟨⟨A1r s q.1.1,Vc s q.1.2⟩,Aa2 s q.2⟩
    ·cases q
   ·cases q
theorem A1b (s:M8 K K'){C:Addr}(e:Am6 K C=true):Am6 K' C=true:=by
 unfold Am6 at e ⊢
 split at e
 ·rename_i a
  rw[s _ _ a]
  simp at e ⊢
  refine⟨⟨e.1.1,?_⟩,e.2⟩
  have q:=e.1.2
  split at q
  ·simp at q ⊢
   exact⟨q.1,Aa2 s q.2⟩
  ·cases q
 ·cases e
theorem Bv5 (s:M8 K K'){C:Addr}(e:exP K C=true):exP K' C=true:=by
 obtain⟨c,a⟩:=aA.mp e
 refine aA.mpr ⟨A1b s c,?_⟩
 unfold noI at a ⊢
 cases ho:K.lookup C with
 | none=>simp_all
 | some o =>
  rw[s _ _ ho];rw[ho]at a
  dsimp only at a ⊢
  split at a
  ·obtain⟨d,b⟩:=aA.mp a
   exact aA.mpr ⟨A1r s d,dJ.mpr (Vc s (dJ.mp b))⟩
  trivial
theorem Bz5 (s:M8 K K'){C:Addr}(e:xcB K C=true):Sv K' C:=by
 unfold xcB at e
 simp at e
 exact⟨A1b s e.1,Su s e.2.1,Su s e.2.2.1,Su s e.2.2.2⟩
theorem Xv (s:M8 K K'){x:Str}{p:Addr->Bool}(e:clB K x p=true):∃C,nsIn K' mainGlobals x=some (some (.ref C))/\p C=true:=by
 unfold clB at e
 split at e
 ·rename_i C h;exact⟨C,Vc s h,e⟩
 trivial
theorem Ay8 (s:M8 K K'){z:Value}:∀{tbl:List (Str×Bool)},tbB K z tbl=true->TbOk K' z tbl
 | [],_=>.nil
 | (x,b)::tbl,e=>by
  obtain⟨e1,e2⟩:=aA.mp e;obtain⟨C,n,q⟩:=Xv s e1;obtain⟨q1,q2⟩:=aA.mp q;exact .cons n (Bz5 s q1) (A6a s (dJ.mp q2)) (Ay8 s e2)
theorem A6l (s:M8 K K'){F:Addr}:∀{NS:v4},exB K F NS=true->ExOk K' F NS
 | [],_=>.nil
 | x::NS,e=>by
  obtain⟨e1,e2⟩:=aA.mp e;obtain⟨C,n,q⟩:=Xv s e1;exact .cons n (A2w s (dJ.mp q)) (A6l s e2)
def A3j (R:v4)(T:List (Str×List (Str×Bool)))(V:List (Str×Bool))(F:v4)(h:Heap):Prop:=∃K:Frag,cfB R T V F K=true/\∀a o,K.lookup a=some o->h.get? a=some o/\By5 o=true
variable {R:v4}{T:List (Str×List (Str×Bool))}{V:List (Str×Bool)}{F:v4}{h h':Heap}{mg:x_}
theorem B2w {l:List Nat}(e:cfB R T V F (Bl5 l h)=true):A3j R T V F h:=⟨Bl5 l h,e,λa o q=>by
 unfold Bl5 at q;rw[N7]at q
 split at q
 ·obtain⟨c,d,b⟩:=cP.mp q
  grind
 grind⟩
theorem Be0 (x:A3j R T V F h)(hk:∀b o,h.get? b=some o->h'.get? b=some o):A3j R T V F h' :=
 let ⟨K,e,q⟩:=x; ⟨K,e,λa o z=>⟨hk _ _ (q a o z).1,(q a o z).2⟩⟩
theorem Bq1 (x:A3j R T V F h)(b:K.In h)(G:h.Ns mainGlobals mg)(g:∀a o,h.get? a=some o->Fl o=true->o.data≠.fields #[]->K.lookup a=some o) :
 (∀(i:Nat) (x:Str),R[i]?=some x->ClR K mg x)/\(∀(i:Nat) (q:Str×List (Str×Bool)),T[i]?=some q->ClT K mg q.2 q.1)/\TbOk K (.type "ValueError") V/\∀(i:Nat) (x:Str),F[i]?=some x->ClF K mg R x:=by
 obtain⟨r,e,q⟩:=x
 have s := λa o z=>by
  obtain⟨l,c⟩:=q a o z;unfold By5 at c
  refine g a o l ?_ ?_
  ·unfold Fl;split at c <;> simp_all
  ·intro y;rw[y]at c;cases c
 obtain⟨k,f⟩:=aA.mp e;obtain⟨f,d⟩:=aA.mp f;obtain⟨d,j⟩:=aA.mp d
 refine⟨λi x m=>?_,λi p m=>?_,Ay8 s d,λi x m=>?_⟩
 ·obtain⟨C,n,z⟩:=Xv s (bL.mp k x (bz m))
  exact⟨C,mg_of b G n,n,Bv5 s z⟩
 ·obtain⟨C,n,z⟩:=Xv s (bL.mp f p (bz m))
  exact⟨C,mg_of b G n,Ay8 s z⟩
 ·obtain⟨C,n,z⟩:=Xv s (bL.mp j x (bz m))
  exact⟨C,mg_of b G n,A6l s z⟩
end
section
variable {X:Cx}{k:Nat}{x y n v:Str}{p pos epos yp hpos vp:Pos}{e:Expr}{t:TA}{Fc:Addr}{b₀:Stmt}{suite:List Stmt}{th:TS}{j i:Nat}
def PX (X:Cx)(e:Expr)(t:St->Hp->VK->XK->Prop):Prop :=
 ∀(pins:y_) (s:u_) (σ:St) (H:Hp) (Q:VK) (E:XK),Inv X pins σ H s->t σ H Q E->wpAny (model X.prog X.w) X.A (eval e X.env) (EP X pins σ Q) (λev s'=>∃H1 s1,Inv X pins σ H1 s1/\CXe X.prog X.w X.stack H1 s1 E ev s') s
theorem Bp7 {r:St->Hp->VK->XK->Prop}(hp:PX X e r)
 (p:X.ex=[]) (hs:X.stack=X.env::X.outer/\X.env.frame=some X.env.locals) (hN:X.N.Nodup) (hi:X.N[i]?=some v) (hv:Loc X.env.scope v) (hj:X.N[j]?=some n) (l:X.env.scope.names.lookup n=some .local) (hg:Gl X y) (hm:X.mg y=some (.ref Fc)) (m:∀a,PSs (S6 X a) (b₀::suite) th)
 (hsw:swapsWith e (some (.Name v vp)) epos.line X.env=pure false) (k:(y==("__debug__" : Str))=false) (B:X.fn v=true\/X.env.scope.names.lookup v=some .local) :
 PS X (.Try [.Assign [.Name v vp] e epos] [.ExceptHandler (some (.Name y yp)) (some n) (b₀::suite) hpos] [] [] pos) (λD g H=>r g H (λu f=>D.nx (g.set i (some u)) f)
  (λc d f=>∃C,c=.ref C/\exmOne X.K c (.ref Fc)=some true/\∀a,f a=none->th { nx:=λo x=>D.nx (o.set j none) x,rt:=D.rt } (g.set j (some (.ref a))) (upd f a (Rt a C d)))):=by
 intro t s g H D I h
 refine wpAny_Try_except (fK (wpAny_Assign_Name ?_ hsw))
 refine aU (hp _ s _ H _ _ I h) (λu z ⟨L,w,q,E,A⟩=>?_) λN K ⟨w,z,q,F⟩=>?_
 ·exact Gx q hN hi hv E (λM G=>gk (gk ⟨_,w,G,A⟩)) B
 ·exact A3c p hs hN hj l hg hm m q F λC d f ⟨O,P,Q,J⟩=>by grind k
end
end L2
namespace U
open PySem L2
end U
namespace L2
open PySem PySem.Spec PyProof.Rows PySem.W
def Ac1 (K:v9):n_->Hp->VK->Prop:=λxs H Q=>∃(a C p:Addr) (d:Option Addr) (cs:v6) (b:Bool),xs=[.ref a,.ref p]/\H a=some (Rt a C d)/\Sv K C/\H p=some (.tup (cs.map V.ref))/\kitAny K (.ref C) (cs.map Value.ref)=some b/\Q (.bl b) H
theorem Zv:∀{cs:v6}{us:w6},Vals (cs.map V.ref) us->us=cs.map Value.ref
 | [],us,h=>by cases h;rfl
 | c::cs,us,h=>by
  cases h with
  | cons r t=>rw[Zv t,show _=Value.ref c from r];rfl
section
variable {X:Cx}
theorem Au3:CallR X (.builtin "isinstance") (Ac1 X.K):=by
 intro c s σ H xs us Q I r h;obtain⟨a,C,p,d,cs,b,rfl,j,Z,k,l,q⟩:=h;obtain⟨u1,u2,rfl,f,m⟩:=vals2 r
 cases (f)
 cases (m)
 have i := I.hok a _ j;obtain⟨_,g,u,o,v,t,⟨n,w⟩,_⟩:=I.hok p _ k
 cases Zv u
 obtain⟨x,dd,e,sl⟩:=o;subst t w
 exact kia_tup (Aj0 Z) I.kIn i.1 v l (λz=>nomatch z) λtk=>⟨.bl b,H,I.tok _,rfl,q⟩
theorem A8i {e:Expr}{es:v_}{t:TA}{p b:Pos}{Kq:v9}(a:X.K=Kq)(hgl:Gl X "isinstance") (hm:X.mg "isinstance" = none) (ha:QA X (e::es) t) (hn:noStar (e::es)=true:=by rfl):QE X (.Call (.Name "isinstance" p) (e::es) [] b) (tCB (Ac1 Kq) t):=by
 subst a
 exact⟨Ew Au3 hgl hm Hr ha.get (by decide) (by rfl) hn⟩
end
def As4 (K:v9)(gs:v6)(tbl:List (Str×Bool)):Prop:=∀nm b,tbl.lookup nm=some b->∀C,PySem.W.nsIn K mainGlobals nm=some (some (.ref C))->Sv K C/\kitAny K (.ref C) (gs.map Value.ref)=some b
theorem Bl7 {K:v9}{g:Addr}{a:List (Str×Bool)}(h:TbOk K (.ref g) a):As4 K [g] a:=λd b e C c=>by
 obtain⟨x,k⟩:=h _ b e C c
 refine⟨x,?_⟩
 show (match kitOne K _ _ with
  | some true=>some _
  | some false=>some _
  | none=>none)=some b
 grind
noncomputable def orT:List (Str×Bool)->List (Str×Bool)->List (Str×Bool)
 | (n,b)::r,(_,c)::s=>(n,b||c)::orT r s
 | _,_=>[]
theorem Al6:∀{t u:List (Str×Bool)}{nm:Str}{b:Bool},t.map (·.1)=u.map (·.1)->(orT t u).lookup nm=some b->∃x y,t.lookup nm=some x/\u.lookup nm=some y/\b=(x||y)
 | [],_,nm,b,_,e=>by cases e
 | _::_,[],nm,b,_,e=>by cases e
 | (n,x)::t,(m,y)::u,nm,b,h,e=>by
  rw[aF,aF]at h;obtain⟨h1,h2⟩:=List.cons.inj h
  cases (show n=m from h1)
  rw[aZ,aZ]
  rw[show orT ((n,x)::t) ((n,y)::u)=(n,x||y)::orT t u from rfl,aZ]at e
  cases q:nm==n with
  | true=>rw[q]at e;cases e;exact⟨x,y,rfl,rfl,rfl⟩
  | false=>rw[q]at e;exact Al6 h2 e
theorem M4 {K:v9}{g:Addr}{gs:v6}{t u:List (Str×Bool)}(h:TbOk K (.ref g) t)(hs:As4 K gs u)(e:t.map (·.1)=u.map (·.1)):As4 K (g::gs) (orT t u):=λm b d C a=>by
 obtain⟨x,y,f,c,i⟩:=Al6 e d;obtain⟨j,k⟩:=h _ x f C a;obtain⟨_,l⟩:=hs _ y c C a
 refine⟨j,?_⟩
 show (match kitOne K _ _ with
  | some true=>some _
  | some false=>kitAny K _ _
  | none=>none)=_
 grind
end L2
namespace U
open PySem L2 PySem.W
variable {K:v9}
noncomputable def tCs:v6->TA
 | []=>Gs
 | g::gs=>Cg (tC (.ref g)) (tCs gs)
theorem A9f {σ:St}:∀{gs:v6}{H:Hp}{k:n_->Hp->Prop},k (gs.map V.ref) H->tCs gs σ H k
 | [],_,_,h=>h
 | g::gs,H,k,h=>A9f (gs:=gs) (k:=λvs H1=>k (V.ref g::vs) H1) h
theorem Ak7 {m:TE}{f:o_}{gs:v6}{i:List (Str×Bool)}(ht:As4 K gs i)(h:ME K m f)(hl:gs.length<=1000:=by simp) :
 ME K (tCB (Ac1 K) (Cg m (Cg (A4g (tCs gs)) Gs))) (R9 i f):=by
 intro D W c F Q R s
 refine h _ W c _ _ R (s.bnd.mono λp B g E G t l j w=>?_)
 cases ed:rdP B p with
 | none=>simp only[ed]at g;trivial
 | some o =>
  simp only[ed]at g
  match o,ed,g with
  | .ty (.xc nm),ed,g =>
   cases el:i.lookup nm.n with
   | none=>simp only[el]at g;trivial
   | some b =>
    simp only[el]at g;obtain⟨a,C,d,e,r,n⟩:=Bd4 j w ed;subst e;obtain⟨y,x⟩:=ht _ b el C r.ns
    refine A9f ⟨by rw[ao];exact aq hl (by decide),λq A=>?_⟩
    have k:Same _ (upd _ q (.tup (gs.map V.ref))):=λb u e=>Bp A b u e
    refine⟨a,C,q,d,gs,b,rfl,k _ _ (j.sub _ _ n),y,Ax,x,?_⟩
    have v := Stp.rep j (N8 k) λa o e=>k a o (j.sub a o e)
    exact g _ _ _ ((l.trans (N8 k)).less λa z=>by
     rcases z with z | z
     ·exact .inl z
     ·cases z) v ⟨⟨rfl,rfl⟩,λa z=>nomatch z⟩
  | .ty (.nm _),ed,g=>trivial
  | .ty (.tc _),ed,g=>trivial
  | .ty (.dc _ _),ed,g=>trivial
  | .ty (.dt _ _),ed,g=>trivial
  | .ty (.ds _ _),ed,g=>trivial
  | .ty (.td _ _ _),ed,g=>exact g.elim
  | .im _,ed,g=>exact g.elim
  | .ls _ _,ed,g=>exact g.elim
  | .sc _,ed,g=>trivial
theorem B3p {X:Cx}{x:Str}{k c:Nat}{ps:v4}{sp:Sp}{E:XK}{e:Expr}{es:v_}{t:TA}{p a:Pos}(hx:Lj (CXe X.prog X.w) X E)(D:DefX X.prog X.w X.K X.mg X.base x k ps sp)(hr:Room c X.A)(ha:QA X (e::es) t)(h:k<=c:=by lia)(hg:Gl X x:=by rfl)
 (hdb:(x==("__debug__" : Str))=false:=by decide) (hn:noStar (e::es)=true:=by rfl):QE X (.Call (.Name x p) (e::es) [] a) (M6 sp [] E t):=by
 obtain⟨f,g,G,b,d,m⟩:=D;exact Nj G (hr.mono h) hg m d b .nil hx ha hdb hn
end U
namespace L2
open PySem PySem.Spec PyProof.Rows PySem.W
section
variable {P:u6}{w:World}{K:v9}{mg:x_}{base:Heap}{N':v4}{scope:Scope}{cl:List (Str×Addr)}{qual:Str}{f:Addr}{cv:Value}{A1:t_}{stk:List Env}{s:u_}{H:Hp}{E:XK}
def A1n (P:u6)(w:World)(K:v9)(mg:x_)(base:Heap)(N':v4)(scope:Scope)(cl:List (Str×Addr))(qual:Str)(f:Addr)(cv:Value)(A1:t_)(stk:List Env)(s:u_)(H:Hp)(E:XK):Cx :=
 {
  prog:=P,w:=w,K:=K,mg:=mg,base:=base,A:=A1.deeper (envX qual scope s.heap.objs.size f cv cl),N:=N',s₀:=s,H₀:=H,env:=envX qual scope s.heap.objs.size f cv cl,outer:=stk,stack:=envX qual scope s.heap.objs.size f cv cl::stk,
  ex:=[],fn:=λ_=>false,calm:=true,pn:=[],xe:=λe s'=>wpAny (model P w) (A1.deeper (envX qual scope s.heap.objs.size f cv cl)) (leaving (envX qual scope s.heap.objs.size f cv cl) e) (λ_ s''=>CXe P w stk H s E e s'') (λe' s''=>CXe P w stk H s E e' s'') s' }
theorem Au9:Lj (CXe P w) (A1n P w K mg base N' scope cl qual f cv A1 stk s H E) E:=by
 intro t σ H1 D e y I h;obtain⟨a,C,d,v,rfl,⟨⟨B,A,m⟩,J,O⟩,x,c,u,j,q⟩:=h
 refine Ap5 I.ok.frames rfl A λG g F=>?_
 have n:Inv _ _ _ _ { y with heap:=G }:=I.flown u j x c A.ff m g.1 F
 have L:∀b o,s.heap.get? b=some o->∃r,D.heap.get? b=some _:=λb o e=>I.base.there b o e λz=>nomatch z
 refine⟨a,C,d,v,rfl,⟨⟨B,g,λb o e hf l=>?_⟩,λb o e=>?_,O⟩,x.trans I.os,c,n.base,n.hok,q⟩
 ·have nl:b≠s.heap.objs.size:=by
   rintro rfl
   rcases l with ⟨M,k⟩ | l
   ·exact absurd (az k) (bh _)
   ·exact l n.free
  have p:b∉frs _:=λz=>by
   rcases aB.mp (I.stkSub b z) with q | q
   ·trivial
   trivial
  have i:∃r,y.heap.get? b=some r:=by
   rcases l with ⟨M,k⟩ | l
   ·obtain⟨o1,N⟩:=L b _ k
    exact u.there b _ N λz=>nomatch z
   ·cases q':v b with
    | none=>grind
    | some ho=>exact(j b _ q').there
  obtain⟨r,k⟩:=i
  have:=m b _ k p (by
   grind)
  have e2:=g.1 b _ this
  simp_all
 grind
variable {X:Cx}{pins:y_}{σ:St}
theorem Bk1 {idx:p6}{h₁:Heap}{t':Nat}(L:Xa X N' idx scope)(hd:A1.handled=none)(I:Al2 P w K mg base A1 stk s H)(J:Inv X pins σ H s)
 (c1:∀x c,cl.lookup x=some c->X.env.cells.lookup x=some c/\(x,NameKind.free)∈scope.names) (c2:∀x,(x,NameKind.free)∈scope.names->∃c,cl.lookup x=some c)
 (k:∀b o,s.heap.get? b=some o->h₁.get? b=some o) (hn:h₁.Ns s.heap.objs.size (λy=>([]:List (Str×Value)).reverse.lookup y)) :
 Inv (A1n P w K mg base N' scope cl qual f cv A1 stk s H E) [] (cst idx σ) H { s with heap:=h₁,toks:=t' } where
 ok:={
  mod:=I.mod,kind:=L.kind,glob:=rfl,blt:=rfl,above:=au _,inj:=λy z c e1 e2=>J.ok.inj y z c (c1 y c e1).1 (c1 z c e2).1
  has:=λy h=>by
   have h':scope.names.lookup y=some .cell\/scope.names.lookup y=some .free:=h
   rcases h' with h | h
   ·exact absurd rfl (L.cell _ (lookup_mem h))
   ·exact c2 y (lookup_mem h)
  cab:=(λy c z=>nomatch z),hd:=λ_=>hd,frames:=Around.frames_deeper I.frames,stk:=.inr ⟨rfl,rfl⟩,exf:=(λb z=>nomatch z),bs:=I.bs,bsz:=I.bsz,noex:=(λ_ _ _ z=>nomatch z),exfs:=(λ_ z=>nomatch z)
  funs:=I.funs,frf:=I.frf,tab:=I.tab }
 os:=rfl
 bare:=I.bare
 base:=Un.kept k
 loc:=by
  refine⟨_,hn,λj y w e1 e2 e3=>?_⟩
  obtain⟨m0,hn0,hl⟩:=J.loc
  have e2':(idx.map λo=>o.bind λi=>(σ[i]?).join)[j]?=some (some w):=e2
  rw[bJ]at e2'
  cases ei:idx[j]? with
  | none=>rw[ei]at e2';cases e2'
  | some o =>
   rw[ei]at e2';simp only[gh,jj]at e2'
   cases o with
   | none=>cases e2'
   | some i =>
    have e2'':(σ[i]?).join=some w:=e2';obtain⟨hNi,hfr⟩:=L.at' j i y e1 ei
    have hσ:σ[i]?=some (some w):=by
     cases q:σ[i]? with
     | none=>rw[q]at e2'';cases e2''
     | some z=>rw[q]at e2'';rw[show z=some w from e2'']
    have hk:=L.free _ (lookup_mem hfr) rfl
    have hvis:Vis X.env.scope y:=by
     rcases hk with z | z
     ·exact .inr (.inl z)
     ·exact .inr (.inr z)
    obtain⟨u',r',lk⟩:=hl i y w hNi hσ hvis
    refine⟨u',r',.inr ⟨.inr hfr,?_⟩⟩
    rcases lk with ⟨z,_⟩ | ⟨_,c,hc,hcl⟩
    ·exfalso
     have z':X.env.kindOf y=some .local:=z
     rcases hk with q | q
     ·rw[show X.env.kindOf y=_ from q]at z';cases z'
     ·rw[show X.env.kindOf y=_ from q]at z';cases z'
    ·obtain⟨c',hc'⟩:=c2 y (lookup_mem hfr)
     have ec:c'=c:=bY ((c1 y c' hc').1.symm.trans hc);obtain⟨oc,g1,g2⟩:=hcl
     exact⟨c',hc',oc,by rw[ec];exact k _ _ g1,g2⟩
 cell:=λy c e=>by
  obtain⟨w,oc,g1,g2⟩:=J.cell y c (c1 y c e).1;exact⟨w,oc,k _ _ g1,g2⟩
 free:=I.hok.fresh (au _)
 freeC:=λy c e=>J.freeC y c (c1 y c e).1
 pin:=λp hp=>nomatch hp
 hok:=I.hok.kept k
 len:=by
  show (idx.map _).length=N'.length
  rw[ao];exact L.len
theorem Bi9 {k:Nat}{idx:p6}{a:Arguments}{body:Expr}{v j:Value}{u:TE}{Q:VK}(L:Xa X N' idx scope)(n:scope.isCoroutine=false)(i:scope.isGenerator=false)
 (g:bindArgs (kla_fn "<lambda>" qual a body scope cl v cv j) ⟨[],[]⟩=pure []) (hr:Room (k+1) A1)
 (hb:QE (A1n P w K mg base N' scope cl qual f cv A1 stk s H E) body u) (I:Al2 P w K mg base A1 stk s H) (J:Inv X pins σ H s) (ho:s.heap.get? f=some (Az3 qual a body scope cl v cv j)) (p:s.heap.CodeRec cv qual)
 (c1:∀x c,cl.lookup x=some c->X.env.cells.lookup x=some c/\(x,NameKind.free)∈scope.names) (c2:∀x,(x,NameKind.free)∈scope.names->∃c,cl.lookup x=some c) (h:u (cst idx σ) H Q) :
 codeAny (model P w) A1 (.call (.ref f) ⟨[],[]⟩) (CR (CXe P w) stk P w H s Q E) s:=by
 refine kla_callFunE hr.depth ho rfl n i rfl p ?_
 rw[g]
 refine ak (wpAny_newFunctionEnv L.cell (λy B=>nomatch B) (λA m r=>?_) L.kind)
 have d := λb o e=>r.extBut b o (aP (az e)) (aC _ e)
 have t := I.mod.nolimit.keeps λb o e=>(I.bs b o e).1
 refine⟨t.keeps d,?_⟩
 have C:=Bk1 (qual:=qual) (f:=f) (cv:=cv) (E:=E) (t':=s.toks+([]:List (Str×Value)).length) L hr.hd I J c1 c2 d m
 refine kla_codeExpr (aU (hb.get _ _ _ H Q C h) (λO N G=>?_) λ_ _ z=>z)
 obtain⟨F,D,l,M,q⟩:=G;exact⟨F,D,l.os,l.bare,l.base,l.hok,M,q⟩
end
def B0h (P:u6)(w:World)(K:v9)(mg:x_)(base:Heap)(A:t_)(outer:List Env)(s:u_)(H:Hp)(fl:Addr)(te:Hp->VK->XK->Prop):Prop :=
 ∀
  (env:Env) (s':u_) (H':Hp) (Q':VK) (E':XK),Al2 P w K mg base (A.deeper env) (env::outer) s' H'->Un (frs outer) [] H H' s.heap s'.heap->s'.os=s.os->te H' Q' E' ->
  FnAt fl s'.heap/\codeAny (model P w) (A.deeper env) (.call (.ref fl) ⟨[],[]⟩) (CR (CXe P w) (env::outer) P w H' s' Q' E') s'
def B4f (K:v9)(Fc:Addr)(spr:Sp)(Q:VK):XK:=λc d H3=>∃C,c=.ref C/\exmOne K c (.ref Fc)=some true/\∀a,H3 a=none->spr [.non,.ref a] (upd H3 a (Rt a C d)) Q E0
def Au8 (te:Hp->VK->XK->Prop):Prop:=∀(H:Hp) (Q Q':VK) (E E':XK),(∀v H,Q v H->Q' v H)->(∀c m H,E c m H->E' c m H)->te H Q E->te H Q' E'
def Told (P:u6)(w:World)(K:v9)(mg:x_)(base:Heap)(x:Str)(k:Nat)(Fc:Addr)(spr:Sp):Prop :=
 ∃
  f:Addr,PySem.W.keepIn K (.ref f)=true/\mg x=some (.ref f)/\∀(A:t_) (outer:List Env) (s:u_) (H:Hp) (fl:Addr) (te:Hp->VK->XK->Prop) (Q:VK),Room k A->Al2 P w K mg base A outer s H->Au8 te->B0h P w K mg base A outer s H fl te ->
  (∀H1,Same H H1->te H1 (λu H3=>spr [u,.non] H3 Q E0) (B4f K Fc spr Q))->codeAny (model P w) A (.call (.ref f) ⟨[.ref fl],[]⟩) (CR CX0 outer P w H s Q E0) s
section
variable {P:u6}{w:World}{K:v9}{mg:x_}{base:Heap}
theorem Inv.tail {X:Cx}{a:y_}{o:Option V}{b:St}{H:Hp}{s:u_}{n:Str}{N:v4}(hN:X.N=n::N)(I:Inv X a (o::b) H s):Inv { X with N:=N } a b H s:=by
 obtain⟨m,d,e⟩:=I.loc
 refine⟨⟨I.ok.mod,I.ok.kind,I.ok.glob,I.ok.blt,I.ok.above,I.ok.inj,I.ok.has,I.ok.cab,I.ok.hd,I.ok.frames,I.ok.stk,I.ok.exf,I.ok.bs,I.ok.bsz,I.ok.noex,I.ok.exfs,I.ok.funs,I.ok.frf,I.ok.tab⟩,I.os,I.bare,I.base,⟨m,d,λi x v g f c=>e (i+1) x v (by grind) f c⟩,I.cell,I.free,I.freeC,I.pin,I.hok,?_⟩
 have:=I.len
 simp_all
theorem Bs6 {k:Nat}{x l v c2 n y:Str}{M:v4}{st:Stmt}{f Fc:Addr}{fd:u5}{Z:Sp}{vp cp G L yp U T ap bp D:Pos}
 (F:Fun K x x st f fd) (S:Ba (l::v::c2::n::M) [l] (Ah st)) (hb:Binds K fd [l] []) (hm:mg x=some (.ref f)) (hy:mg y=some (.ref Fc))
 (h1:∀(g:Value) (A:t_) (d:List Env) (s:u_) (H:Hp),QS (Jm CX0 P w K mg base (l::v::c2::n::M) x (Ah st) f g A d s H E0).nox ((Cy st).headD (.Pass ⟨0,0,0,0⟩)) (Vr (A4g (Cg (tC .non) (Cg (tC .non) Gs))) (At1 K 2 (My (Hx 1) (My (Hx 2) Ax4)))))
 (N:∀(g:Value) (A:t_) (d:List Env) (s:u_) (H₀ H:Hp) (vs:n_) (Q:VK) (E:XK),Room k (A.deeper (envOfC x (Ah st) s.heap.objs.size f g))->Z vs H Q E ->
  ∃t,PSs (Jm CX0 P w K mg base (v::c2::n::M) x (Ah st) f g A d s H₀ E).nox ((Cy st).drop 2) t/\t { nx:=λ_ B=>Q .non B,rt:=Q } (start (v::c2::n::M) vs) H)
 (hst:Cy st=(Cy st).headD (.Pass ⟨0,0,0,0⟩)::.Try [.Assign [.Name v vp] (.Call (.Name l cp) [] [] G) L] [.ExceptHandler (some (.Name y yp)) (some n) [.Assign [.Name c2 ap] (.Name n bp) D] U] [] [] T::(Cy st).drop 2:=by rfl)
 (hg:(Ah st).names.lookup y=some .globalImplicit:=by rfl) (lv:(Ah st).names.lookup v=some .local:=by rfl) (l2:(Ah st).names.lookup c2=some .local:=by rfl) (ln:(Ah st).names.lookup n=some .local:=by rfl) (lc:(Ah st).names.lookup l=some .local:=by rfl)
 (hsw:∀R,swapsWith (.Call (.Name l cp) [] [] G) (some (.Name v vp)) L.line R=pure false:=by exact λ_=>rfl) (hsw2:∀R,swapsWith (.Name n bp) (some (.Name c2 ap)) D.line R=pure false:=by exact λ_=>rfl)
 (d1:(l==("__debug__" : Str))=false:=by decide) (d2:(n==("__debug__" : Str))=false:=by decide) (d3:(y==("__debug__" : Str))=false:=by decide) (d4:(l==("__classdict__" : Str))=false:=by decide) (d5:(n==("__classdict__" : Str))=false:=by decide):Told P w K mg base x (k+1) Fc Z:=by
 obtain⟨oc,od,kV,doc,pm,an,g,ct,osl,rfl,lk,hcd⟩:=F.ex
 refine⟨f,F.kp,hm,λA d s H O te Q hr e0 hmo ht q=>?_⟩
 have KX:K.In s.heap:=e0.mod.kin.keeps λb o e=>(e0.bs b o e).1
 have lim:s.heap.NoLimit:=e0.mod.nolimit.keeps λb o e=>(e0.bs b o e).1
 have W:∀y∈[l].zip [Value.ref O],(Ah st).names.lookup y.1=some .local\/((Ah st).names.lookup y.1=some .cell/\((cellsFrom (s.heap.objs.size+1) (Ah st).names []).lookup y.1).isSome=true):=λ⟨n,v⟩ hy=>by
  cases aQ.mp hy
  exact .inl lc
 refine codeAny_call_function hr.depth (KX _ _ lk) rfl S.co S.gen rfl (PySem.W.codeRec_of KX hcd) (hb s [.ref O] KX rfl _ _ _ _ ?_)
 refine wpAny_newFunctionEnv_cells S.kind W λR he Y xx=>?_
 subst he
 refine⟨lim.keeps xx.toInCall.keep,codeAny_func ?_⟩
 have I0:Inv (Jm CX0 P w K mg base (l::v::c2::n::M) x (Ah st) f g A d s H E0) [] (start (l::v::c2::n::M) [.ref O]) H Y:=Y8 S hr.hd e0 rfl (.cons rfl .nil) xx;have I:Inv (Jm CX0 P w K mg base (l::v::c2::n::M) x (Ah st) f g A d s H E0).nox [] (some (.ref O)::none::none::none::List.replicate M.length none) H Y:=I0.wish _;have hr2:=hr.deeper (envOfC x (Ah st) s.heap.objs.size f g)
 refine aU (Q:=SP (Jm CX0 P w K mg base (v::c2::n::M) x (Ah st) f g A d s H E0).nox [] { nx:=λ_ B=>Q .non B,rt:=Q }) (E:=λ_ _=>False) ?_ (λfw s' hs=>?_) λ_ _ z=>z.elim
 ·generalize hB:(Cy st).headD (.Pass ⟨0,0,0,0⟩)=s1 at hst h1
  generalize hC:(Cy st).drop 2=rest at hst N
  show wpAny _ _ (execs (Cy st) _) _ _ _
  rw[hst]
  refine fK (thn ((h1 g A d s H).get [] Y _ H { nx:=λh B=>h=some (.ref O)::some .non::some .non::none::List.replicate M.length none/\Same H B,rt:=λ_ _=>False } I ⟨by show 2<=sizeLine;decide,λp hp=>⟨p,_,rfl,SqT.of Ax,rfl,.non,_,rfl,.non,_,rfl,rfl,rfl,λb u e=>by rw[Ag (Bb e hp)];exact e⟩⟩) λfw s2 q2=>?_)
  cases fw with
  | ret _=>obtain⟨_,_,_,_,_,z⟩:=q2;exact z.elim
  | brk=>obtain⟨_,_,_,z⟩:=q2;exact z.elim
  | cont=>obtain⟨_,_,_,z⟩:=q2;exact z.elim
  | next =>
  obtain⟨σ2,X,I2,rfl,sm⟩:=q2
  have hpx:PX (Jm CX0 P w K mg base (l::v::c2::n::M) x (Ah st) f g A d s H E0).nox (.Call (.Name l cp) [] [] G) (λσ B Q' E'=>σ[0]?=some (some (.ref O))/\te B Q' E'):=by
   intro pins s' h B Q' E' I' ⟨e1,q1⟩
   refine gC ?_
   refine aU (At0 (i:=0) rfl (Or.inl lc) d1 d4 pins s' h B (λv X=>v=.ref O/\X=B) I' ⟨_,e1,rfl,rfl⟩) (λu s2 ⟨v,X,I2,r,hv,hH⟩=>?_) (λ_ _ z=>z.elim)
   subst hv hH
   cases (show u=Value.ref O from r)
   obtain⟨fa,run⟩:=ht _ s2 X Q' E' I2.env0 I2.base I2.os q1
   refine callWith_F0 fa (wpAny_call (gB run λr s3 hq=>?_))
   cases r with
   | error ev=>exact⟨X,s2,I2,hq⟩
   | ok O =>
    cases O with
    | ret u=>exact I2.after hq
    | next=>exact False.elim hq
    | brk=>exact False.elim hq
    | cont=>exact False.elim hq
  have su:∀a,PSs (S6 (Jm CX0 P w K mg base (l::v::c2::n::M) x (Ah st) f g A d s H E0).nox a) [.Assign [.Name c2 ap] (.Name n bp) D] (Vr (Al3 3) (Hx 2)):=λa=>A0n (A9p S.nd rfl (Or.inl l2) (At0 rfl (Or.inl ln) d2 d5) (hsw2 _) (.inl rfl))
  have tr:PS (Jm CX0 P w K mg base (l::v::c2::n::M) x (Ah st) f g A d s H E0).nox (.Try [.Assign [.Name v vp] (.Call (.Name l cp) [] [] G) L] [.ExceptHandler (some (.Name y yp)) (some n) [.Assign [.Name c2 ap] (.Name n bp) D] U] [] [] T) _:=Bp7 (i:=1) (j:=3) hpx rfl ⟨rfl,rfl⟩ S.nd rfl (Or.inl lv) rfl ln hg hy su (hsw _) d3 (.inl rfl)
  refine fK (thn (tr [] s2 _ X { nx:=λh B=>∃u1 u2,h=some (.ref O)::some u1::some u2::none::List.replicate M.length none/\Z [u1,u2] B Q E0,rt:=λ_ _=>False } I2
   ⟨rfl,hmo _ _ _ _ _ (λu H3 z=>⟨u,.non,rfl,z⟩) (λc m H3 ⟨C,e1,e2,e3⟩=>⟨C,e1,e2,λa ha=>⟨.ref a,rfl,.non,.ref a,rfl,e3 a ha⟩⟩) (q X sm)⟩) λfw s3 q3=>?_)
  cases fw with
  | ret _=>obtain⟨_,_,_,_,_,z⟩:=q3;exact z.elim
  | brk=>obtain⟨_,_,_,z⟩:=q3;exact z.elim
  | cont=>obtain⟨_,_,_,z⟩:=q3;exact z.elim
  | next =>
  obtain⟨σ3,H3,I3,u1,u2,rfl,qs⟩:=q3;obtain⟨t,h2,q2⟩:=N g A d s H H3 [u1,u2] Q E0 hr2 qs;exact h2 [] s3 _ H3 _ (I3.tail rfl) q2
 ·have fin:∀{h:St} {B:Hp} {v':V} {u:Value},Inv (Jm CX0 P w K mg base (v::c2::n::M) x (Ah st) f g A d s H E0).nox [] h B s'->RelV v' u->Q _ _->CE _ P w H s Q u _ :=
   λ{h B v' u} J rv q=>⟨v',B,J.os,J.bare,J.base,J.hok,rv,q⟩
  cases fw with
  | ret u =>
   obtain⟨v',h,B,J,rv,q⟩:=hs;exact fin J rv q
  | next =>
   obtain⟨h,B,J,q⟩:=hs;exact fin (v':=V.non) J rfl q
  | brk=>obtain⟨_,_,_,q⟩:=hs;exact q.elim
  | cont=>obtain⟨_,_,_,q⟩:=hs;exact q.elim
end
theorem HLam.same {H a:Hp}(h:HLam H a):Same H a:=by
 rcases h with rfl | ⟨c,o,d,rfl⟩
 ·exact Same.refl _
 ·exact λb u e=>by rw[Ag (Bb e d)];grind
end L2
namespace U
open PySem L2 PySem.W
section
variable {K:v9}
def A4k (F:w5->XF)(G:n6)(NS:v4)(fa:o5):o_:=λc=>(fa c).bind λps c=>match Nm c ps with
 | none=>.bad
 | some ds=>match F ds with
  | .ret (.im d)=>Xh G [.o (.im d),.o (.im .none)] c
  | .ex nm=>if NS.contains nm.n=true then Xh G [.o (.im .none),.o (.ty (.xc nm))] c else .bad
  | _=>.bad
theorem A7r {F:w5->XF}(vs:n_):Au8 (spX K F vs):=by
 intro H Q c E f d e h;obtain⟨a,b,s,t,m⟩:=h
 refine⟨a,b,s,t,?_⟩
 grind
def Bt3 (P:u6)(w:World)(K:v9)(mg:x_)(base:Heap)(x:Str)(k:Nat)(NS:v4)(spr:Sp):Prop:=∃Fc,Told P w K mg base x k Fc spr/\ExOk K Fc NS
end
end U
set_option autoImplicit true
namespace U
open PySem L2
end U
namespace U
open PySem L2 PySem.W
section
variable {K:v9}{E:XK}
def A1y (F:w5->XF)(fa:o5):Ev->XS:=Q5 F fa (λo c=>.s (.rt (.o o) c)) .ex
def Ae1 (F:w5->XF)(fa:o5):Ev->XS:=Q5 F fa (λ_ c=>.s (.nx c)) .ex
theorem Bk7 {F:w5->XF}{t:TA}{g:o5}(ha:MA K t g):MX K E (Bx6 (M6 (spX K F) [] E t)) (A1y F g):=by
 intro m W c k D R l
 have:=An3 ha R l (λo j i v b e f r=>f _ v _ _ (b.less λa z=>A2n z) e r)
  (λn j i C d b e f h=>f C d _ _ h b e)
 show t _ _ _
 simp_all
theorem A7k {F:w5->XF}{t:TA}{f:o5}(ha:MA K t f):MX K E (A1f (M6 (spX K F) [] E t)) (Ae1 F f):=by
 intro k W c j D R l
 have:=An3 ha R l (λo i h v a b e r=>e _ _ a b)
  (λm i h C d a b e g=>e C d _ _ g a b)
 show t _ _ _
 simp_all
end
end U
namespace L2
open PySem PySem.Spec PyProof.Rows PySem.W
inductive Ar where
 | nm (k:Nat)
 | ix (k:Nat) (i:Int)
def Ar.k:Ar->Nat
 | .nm k=>k
 | .ix k _=>k
def tAr (K:v9)(m:Nat->Nat):List Ar->TA
 | []=>Gs
 | .nm k::r=>Cg (Al3 (m k)) (tAr K m r)
 | .ix k i::r=>Cg (tOp (U.Bb1 K) (Al3 (m k)) (tC (.int i))) (tAr K m r)
def B4j (K:v9)(Fc:Addr)(spg spr:Sp)(js:List Nat)(as:List Ar):TE:=λσ H Q=>∀H1,Same H H1->tAr K (λk=>js.getD k 0) as σ H1 λvs H2=>spg vs H2 (λu H3=>spr [u,.non] H3 Q E0) (B4f K Fc spr Q)
theorem Aa3 {K:v9}{x y:V}{H:Hp}{Q Q':VK}(h:∀v H,Q v H->Q' v H)(q:U.Bb1 K x y H Q):U.Bb1 K x y H Q':=by
 rcases q with q | q
 ·obtain⟨p,xs,i,v,a,b,c,d,e⟩:=q;exact .inl ⟨p,xs,i,v,a,b,c,d,h _ _ e⟩
 ·obtain⟨p,xs,i,v,a,b,c,d,e⟩:=q;exact .inr ⟨p,xs,i,v,a,b,c,d,h _ _ e⟩
theorem Rg {K:v9}{m:Nat->Nat}{σ:St}:∀{as:List Ar}{H:Hp}{k k':n_->Hp->Prop},(∀vs H,k vs H->k' vs H)->tAr K m as σ H k->tAr K m as σ H k'
 | [],H,k,k',h,q=>h _ _ q
 | .nm j::r,H,k,k',h,⟨v,e,q⟩=>⟨v,e,Rg (λvs H2 z=>h _ _ z) q⟩
 | .ix j i::r,H,k,k',h,⟨v,e,q⟩=>⟨v,e,Aa3 (λu H2 z=>Rg (λvs H2 z=>h _ _ z) z) q⟩
theorem Bk6 {K:v9}{js:List Nat}{σ:St}:∀{as:List Ar}{H:Hp}{k:n_->Hp->Prop},(∀a∈as,a.k<js.length)->tAr K (λk=>js.getD k 0) as σ H k->tAr K id as (cst (js.map some) σ) H k:=by
 have one:∀{j:Nat} {v:V},j<js.length->σ[js.getD j 0]?=some (some v)->(cst (js.map some) σ)[id j]?=some (some v):=λ{j v} hj e=>by
  have:js.getD j 0=js[j]:=by simp[hj]
  rw[this]at e
  simp[cst,hj,e]
 intro as
 induction as with
 | nil=>exact λ_ q=>q
 | cons a r ih =>
  intro H k hl q;have hj:=hl a (.head _)
  have hr:=λb hb=>hl b (.tail _ hb)
  cases a with
  | nm j =>
   obtain⟨v,e,q⟩:=q;exact⟨v,one hj e,ih hr q⟩
  | ix j i =>
   obtain⟨v,e,q⟩:=q
   exact⟨v,one hj e,Aa3 (λu H2 z=>ih hr z) q⟩
section
variable {X:Cx}{p pos lpos:Pos}
theorem Bz7 {Kq:v9}(hKq:X.K=Kq){x qn:Str}{k kg k':Nat}{Fc c T:Addr}{spg spr:Sp}{params:Arguments}{body:Expr}{scope:Scope}{G:v4}{js:List Nat}{as:List Ar}(D:Told X.prog X.w X.K X.mg X.base x k Fc spr)(hT:(T,qn)∈Dq X.K)(hC:codeHdIn X.K c T=true)(hcode:X.env.code=.ref c)(hr:Room k' X.A)
 (hmo:∀vs,Au8 (spg vs)) (L:Xa X G (js.map some) scope) (hk:∀a∈as,a.k<js.length)
 (hb:∀f cv cl A stk s H E,Room kg (A.deeper (envX qn scope s.heap.objs.size f cv cl))->QE (A1n X.prog X.w X.K X.mg X.base G scope cl qn f cv A stk s H E) body (M6 spg [] E (tAr X.K id as))) (h:k<=k':=by lia) (h2:kg+2<=k':=by lia) (hg:Gl X x:=by rfl)
 (hco:scope.isCoroutine=false:=by rfl) (hgen:scope.isGenerator=false:=by rfl) (hq:X.env.qual ++ "<lambda>" = qn:=by rfl) (hdef:defaultsOf params X.env=([],[]):=by rfl)
 (hbind:∀cl pm cv ctv,bindArgs (kla_fn "<lambda>" qn params body scope cl pm cv ctv) ⟨[],[]⟩=pure []:=by exact λ_ _ _ _=>rfl)
 (hdb:(x==("__debug__" : Str))=false:=by decide) (he:starEach [.Lambda params body scope lpos] X.env=(false,eval (.Lambda params body scope lpos) X.env)::starEach [] X.env:=by rfl) :
 QE X (.Call (.Name x p) [.Lambda params body scope lpos] [] pos) (B4j Kq Fc spg spr js as):=by
 subst hKq
 refine⟨λpins s σ H Q I q=>?_⟩
 obtain⟨f,kp,m,run⟩:=D
 refine gC (Od I hg m ?_ hdb)
 refine PySem.W.callWith_K (h₀:=X.base) I.ok.mod.kin kp ?_ he rfl
 rw[he]
 obtain⟨cl,hclos,c1,c2⟩:=P0 (env:=X.env) (scope:=scope) λy hy hf=>I.ok.has y.1 (L.free y hy hf)
 refine cZ (A7b I hT hC hcode hq hdef hclos λfl s1 H1 pm cv ctv I1 hl hcd=>?_)
 refine dZ ⟨I1.kIn,?_⟩
 refine wpAny_call (gB (run X.A X.stack s1 H1 fl (λH Q E=>tAr X.K (λk=>js.getD k 0) as σ H λvs H'=>spg vs H' Q E) Q (hr.mono h) I1.env0 (λH Q Q' E E' hQ hE z=>Rg (λvs H' y=>hmo vs H' Q Q' E E' hQ hE y) z) ?_ λH2 sm=>q H2 (hl.same.trans sm)) λr s' hq=>?_)
 ·intro env s' H' Q' E' e0 un os qe
  obtain⟨_,_,J,_,rfl⟩:=I1.after (s':=s') (Q:=λ_ H2=>H2=H') (u:=.none) ⟨.non,H',os,e0.bare,un,e0.hok,rfl,rfl⟩
  have pin:=(J.pin (fl,Az3 qn params body scope cl pm cv ctv) (aN _ (aN _ bR))).1
  refine⟨⟨_,_,_,_,pin⟩,?_⟩
  obtain⟨c0,o,us,t0,rfl,hc,d⟩:=hcd;have hcd2:LamCd qn (.ref c0) _:=⟨c0,o,us,t0,rfl,un.frzs _ _ _ hc,d⟩;have rm:Room (kg+1) (X.A.deeper env):=(hr.mono h2).deeper env
  refine Bi9 L hco hgen (hbind cl pm _ ctv) rm (hb fl _ cl _ _ s' _ E' (rm.deeper _)) e0 J pin (hcd2.rec J.hok) c1 c2 ?_
  refine Bk6 hk (Rg (λvs H2 z=>?_) qe)
  show spg (vs++[]) _ _ _
  rw[cA];exact z
 ·cases r with
  | error ev=>exact(show False from hq).elim
  | ok fw =>
   cases fw with
   | ret u =>
    obtain⟨v',H',J',r',q⟩:=I1.after hq
    exact⟨v',H',J'.pins_of λp hp=>J'.pin p (aN _ (aX _ hp)),r',q⟩
   | next=>exact False.elim hq
   | brk=>exact False.elim hq
   | cont=>exact False.elim hq
end
end L2
namespace U
open PySem L2 PySem.W
section
variable {K:v9}
theorem Bb7 {F:w5->XF}{G:n6}{Fc:Addr}{NS:v4}{js:List Nat}{as:List Ar}{fa:o5}(hx:∀nm∈NS,∀C,PySem.W.nsIn K mainGlobals nm=some (some (.ref C))->PySem.W.exmOne K (.ref C) (.ref Fc)=some true)(ha:MA K (tAr K (λk=>js.getD k 0) as) fa) :
 ME K (B4j K Fc (spX K F) (spP K G) js as) (A4k F G NS fa):=by
 intro β W c σ Q R s H1 sm
 have R0:Rep K β ⟨W.Hf,H1,W.fps⟩ c σ:=Stp.rep (S':=λ_=>False) R (N8 sm) λa o e=>sm a o (R.sub a o e)
 refine ha β ⟨W.Hf,H1,W.fps⟩ c σ _ R0 (s.bnd.mono λps c1 s1 vs W1 st R1 r1=>?_)
 have st:Stp W.S W.Hf W.H W1.S W1.Hf W1.H:=(N8 (Hf:=W.Hf) sm).trans st
 cases ea:Nm c1 ps with
 | none=>simp only[ea]at s1;exact s1.elim
 | some ds =>
  simp only[ea]at s1
  refine⟨W1.Hf,ds,R1.sub,Q7 R1 r1 ea,?_⟩
  have go:∀{Hf' H':Hp},Stp (λ_=>False) W1.Hf W1.H (λ_=>False) Hf' H'->Stp W.S W.Hf W.H (Wo.S ⟨Hf',H',W1.fps⟩) Hf' H':=λ{Hf' H'} s2=>st.trans ⟨s2.fz,λa o e _=>s2.kp a o e λz=>z,λa o e mu _ q=>s2.nf a o e mu (λz=>z) q,λa z=>.inl z⟩
  split at s1
  ·rename_i d ef
   rw[ef];intro v Hf' H' fp s2 sub r;obtain⟨rfl,tv⟩:=r
   have s2:Stp (λ_=>False) W1.Hf W1.H (λ_=>False) Hf' H':=s2.less λa z=>nomatch z
   have R2:Rep K β ⟨Hf',H',W1.fps⟩ c1 σ:=Stp.rep R1 s2 sub
   exact Tc (W1:=⟨Hf',H',W1.fps⟩) (ps:=[.o (.im d),.o (.im .none)]) (vs:=[v,.non]) R2 ⟨v,_,rfl,tv,.non,_,rfl,rfl,rfl⟩ (s1.mono λp c' s3 v' W' fp st' R' r'=>s3 v' W' fp ((go s2).trans st') R' r')
  ·rename_i nm ef
   split at s1
   ·rename_i hc
    rw[ef];intro C d Hf' H' hn s2 sub
    refine⟨C,rfl,hx nm.n (by simpa using hc) C hn.ns,λa fa0=>?_⟩
    have s4:Stp (λ_=>False) Hf' H' (λ_=>False) (upd Hf' a (Rt a C d)) (upd H' a (Rt a C d)):=Stp.newF sub fa0
    have R2:Rep K β ⟨Hf',H',W1.fps⟩ c1 σ:=Stp.rep R1 s2 sub;have R3:Rep K β ⟨upd Hf' a (Rt a C d),upd H' a (Rt a C d),W1.fps⟩ c1 σ:=Stp.rep (W:=⟨Hf',H',W1.fps⟩) R2 s4 (Jz sub)
    exact Tc (W1:=⟨upd Hf' a (Rt a C d),upd H' a (Rt a C d),W1.fps⟩) (ps:=[.o (.im .none),.o (.ty (.xc nm))]) (vs:=[.non,.ref a]) R3 ⟨.non,_,rfl,rfl,.ref a,_,rfl,⟨a,C,d,rfl,hn.same s4.fz,Ax⟩,rfl⟩
     (s1.mono λp c' s3 v' W' fp st' R' r'=>s3 v' W' fp ((go (s2.trans s4)).trans st') R' r')
   ·exact s1.elim
  ·exact s1.elim
end
end U
namespace L2
open PySem PySem.Spec PyProof.Rows
def Bj6 (K:v9)(n:Nat)(t:TGs):TG:=λv σ H Q=>∃a xs,v=.ref a/\SqL K H a xs/\xs.length=n/\t xs σ H Q
section
variable {X:Cx}{pos:Pos}
theorem B1r {es:v_}{k:Nat}{t:TGs}{n:Nat}(hc:X.calm=true)(h:PGs X es t)
 (hn:(assignEach es X.env).length=n:=by rfl) (hst:(assignEach es X.env).findIdx? (·.1)=none:=by rfl):PG X (.Tuple es k pos) (Bj6 X.K n t):=by
 intro pins s σ H v u Q I r hw;obtain⟨a,xs,e1,hq,hl,hw⟩:=hw;subst e1
 cases r
 obtain⟨its,rv,ht,hz⟩:=I.list hq
 have e:its.toArray.size=n:=by simp[<- hl,rv.length]
 rw[arm_assign_Tuple]
 refine aj (fM ?_)
 unfold unpack;rw[hn,hst,<- e]
 refine aj (bZ (PySem.W.kun_itemsOf (I.ok.hd hc) ht.isList λh' hx=>?_))
 have I1:Inv X pins σ H { s with heap:=h' }:=I.kept (t':=s.toks) λb o e=>hx b o (aP (az e)) e
 exact h pins _ σ H xs _ Q I1 (by simpa using rv) hw
theorem B2g {Kq:v9}(hKq:X.K=Kq){es:v_}{k:Nat}{t:TGs}{n:Nat}(hc:X.calm=true)(h:QGs X es t)
 (hst:(assignEach es X.env).findIdx? (·.1)=none:=by rfl) (hn:(assignEach es X.env).length=n:=by rfl):QG X (.Tuple es k pos) (Bj6 Kq n t):=by
 subst hKq;exact⟨B1r hc h.get hn hst⟩
end
end L2
namespace U
open PySem L2
section
variable {K:v9}{d i j:Nat}
noncomputable def cgL (n:Nat) (gs:w5->Ev->R Unit):p_:=λp c=>match p with
 | .o (.im (.list ds))=>if ds.length=n then gs ds c else .bad
 | .o (.ls _ ds)=>if ds.length=n then gs ds c else .bad
 | _=>.bad
theorem A8k {n:Nat}{t:TGs}{gs:w5->Ev->R Unit}(h:MGs K t gs):MG K (Bj6 K n t) (cgL n gs):=by
 intro β W c σ p v fp k R r s
 match p,r,s with
 | .o (.im (.list ds)),r,s =>
  obtain⟨⟨rfl,a,vs,rfl,ha,t1⟩,_⟩:=r
  have s:(if ds.length=n then gs ds c else .bad:U.R Unit).sat _:=s
  by_cases e:ds.length=n
  ·rw[if_pos e]at s
   exact⟨a,vs,rfl,SqL.of (R.sub _ _ ha),by rw[<- t1.length];exact e,h β W c σ ds vs k R t1 (s.mono λ_ c1 s1 σ1 W1 st R1=>s1 σ1 W1 (st.up λa z=>.inl z) R1)⟩
  ·rw[if_neg e]at s;exact s.elim
 | .o (.ls b ds),r,s =>
  obtain⟨⟨a,vs,rfl,rfl,h1,h2,t1⟩,_⟩:=r
  have s:(if ds.length=n then gs ds c else .bad:U.R Unit).sat _:=s
  by_cases e:ds.length=n
  ·rw[if_pos e]at s
   exact⟨a,vs,rfl,SqL.of h2,by rw[<- t1.length];exact e,h β W c σ ds vs k R t1 (s.mono λ_ c1 s1 σ1 W1 st R1=>s1 σ1 W1 (st.up λa z=>.inl z) R1)⟩
  ·rw[if_neg e]at s;exact s.elim
 | .o (.im (.tuple _)),r,s=>exact s.elim
 | .o (.im .none),r,s=>exact s.elim
 | .o (.im (.bool _)),r,s=>exact s.elim
 | .o (.im (.int _)),r,s=>exact s.elim
 | .o (.im (.str _)),r,s=>exact s.elim
 | .o (.im (.dict _)),r,s=>exact s.elim
 | .o (.sc _),r,s=>exact s.elim
 | .o (.ty _),r,s=>exact s.elim
 | .sl _,r,s=>exact s.elim
theorem A0f {n:Nat}{u:TGs}(h:Bc0 d u):GFr d (Bj6 K n u):=λv σ H k ⟨p,vs,e,s,l,q⟩=>⟨p,vs,e,s,l,h vs σ H k q⟩
theorem Bb8 {H:Hp}{p q:Addr}{a b:HO}(h:p≠q):upd (upd H q b) p a=upd (upd H p a) q b:=funext λx=>by
 by_cases z:x=p
 ·subst z;rw[Ax,Ag h,Ax]
 ·by_cases y:x=q
  ·subst y;rw[Ag z,Ax,Ax]
  ·rw[Ag z,Ag y,Ag y,Ag z]
def tDG (d:Nat)(t:TS):TS:=λD σ H=>∀xs p q,H p=none->upd H p (.dT []) q=none->t D (σ.set d (some (.ref p))) (upd (upd H p (.dT [])) q (.tup xs))
theorem B4x {T u:TS}{F:BF}{g:Ev->SR}(h1:MB K d T F)(h2:MS K u g):MS K (tDG d (tFz d T u)) (Kg d F g):=by
 intro β W c σ D R l xs p q hp hq
 have n:p≠q:=λz=>by rw[<- z,Ax]at hq;cases hq
 have hq0:W.H q=none:=by rw[<- hq,Ag (aD n)]
 have R1:Rep K β ⟨W.Hf,upd W.H q (.tup xs),W.fps⟩ c σ:=R.frame (Same.refl _) (Rm R.sub hq0) λb ⟨i,hb⟩=>by
  obtain⟨z,o,w,_⟩:=R.own i b hb;exact⟨z,Ag (Bb w hq0)⟩
 have st:Stp W.S W.Hf W.H (Wo.S ⟨W.Hf,upd W.H q (.tup xs),W.fps⟩) W.Hf (upd W.H q (.tup xs)) :=
  ⟨Same.refl _,λb o e _=>(Ag (Bb e hq0)).trans e,λ_ _ _ _ _ z=>z,λb z=>.inl z⟩
 have m:=Ao8 h1 h2 β ⟨W.Hf,upd W.H q (.tup xs),W.fps⟩ c σ D R1 (zK.step l st)
 have m:=(show ∀p,upd W.H q (.tup xs) p=none->tFz d T u D (σ.set d (some (.ref p))) (upd (upd W.H q (.tup xs)) p (.dT [])) from m) p ((Ag n).trans hp)
 rw[Bb8 n]at m;exact m
theorem Xd {T u:TS}{F:BF}{g:Ev->SR}(h1:MB K d T F)(h2:MS K u g):MS K (A3i (Vr (A4g (Cg (A9n Gs) (Cg (A9n Gs) (Cg Ab4 Gs)))) (At1 K 3 (My (Hx i) (My (Hx j) (My (Hx d) Ax4))))) (tFz d T u)) (Bg (Bq (Ds Ai) (cgN i)) (Bg (Bq (Ds Ai) (cgN j)) (Kg d F g))):=by
 intro β W c σ D R l;have m:=Ea (Fj (Mh Bv) Bm) (Ea (Fj (Mh Bv) Bm) (B4x h1 h2)) β W c σ D R l
 refine⟨m.1,λp hp=>⟨(m.2 p hp).1,λp2 hp2 p3 hp3=>?_⟩⟩
 refine⟨(by decide:3<=sizeLine),λp4 hp4=>⟨p4,_,rfl,SqT.of Ax,rfl,_,_,rfl,_,_,rfl,_,_,rfl,rfl,?_⟩⟩
 exact(m.2 p hp).2 p2 hp2 _ p3 p4 hp3 hp4
end
end U
namespace U
open PySem L2 PySem.W
variable {K:v9}{β:Nat->V}{W W':Wo}{c:Ev}{σ:St}{Hf H:Hp}
theorem A2h {vs us:n_}{xs ys:w5}(s:Same Hf H)(q1:TrL Hf xs vs)(q2:TrL Hf ys us):∀{i:Nat}{ps:n_}{H2:Hp},LaidS H vs us i ps H2->∃Hf2,Stp (λ_=>False) Hf H (λ_=>False) Hf2 H2/\Same Hf2 H2/\TrL Hf2 ((Gy xs ys).take i) ps
 | 0,_,_,⟨e1,e2⟩=>by subst e1 e2;exact⟨Hf,.refl,s,rfl⟩
 | i+1,_,_,⟨r,H',p,x,y,l,hx,hy,hp,e1,e2⟩=>by
  subst e1 e2;obtain⟨Hf',st,s',t⟩:=A2h s q1 q2 l;obtain⟨dx,ex,tx⟩:=q1.get hx;obtain⟨dy,ey,ty⟩:=q2.get hy;have fr:Hf' p=none:=s'.free hp
  have e:(Gy xs ys)[i]?=some (.tuple [dx,dy]):=by
   unfold Gy;rw[bJ,(jk (l₁:=xs) (l₂:=ys) (z:=(dx,dy))).mpr ⟨ex,ey⟩];rfl
  refine⟨upd Hf' p (.tup [x,y]),st.trans (Stp.newF s' hp),Jz s',?_⟩
  rw[fZ,e]
  have up:=λ{d:t6} {v:V} (t:Tr Hf d v)=>Tr.same (Bp (o:=.tup [x,y]) fr) (Tr.same st.fz t)
  exact TrL.app (TrL.same (Bp fr) t) (TrL.one ⟨p,_,rfl,Ax,x,_,rfl,up tx,y,[],rfl,up ty,rfl⟩)
def Ba9 (f g:o_):o_:=λc=>(f c).bind λp c=>(g c).bind λq c=>(frz (nrm p) c).bind λx c=>(frz (nrm q) c).bind λy c=>match Jo x,Jo y with
 | some xs,some ys=>if xs.length=ys.length then .ok (.o (.im (.tuple (Gy xs ys)))) c else .bad
 | _,_=>.bad
theorem Br6 (h:ME K t f) (h':ME K u g):ME K (Bt2 (Cg t (Cg u Gs))) (Ba9 f g):=by
 intro A W c C Q R s
 refine h.toV A W c C _ R (s.bnd.mono λp T Y v1 O m R1 r1=>?_)
 refine h'.toV A O T C _ R1 (Y.bnd.mono λq c2 s2 v2 W2 k U X=>?_)
 obtain⟨x,c3,W3,_,s3,e3,j,R3,M⟩:=Eu U (RepA.same k.fz r1) s2.bnd;obtain⟨y,c4,W4,_,d,N,e,l,S⟩:=Eu R3 (RepA.same j.fz X) s3.bnd
 cases ex:Jo x with
 | none=>simp only[ex]at d;exact d.elim
 | some D =>
  cases ey:Jo y with
  | none=>simp only[ex,ey]at d;exact d.elim
  | some E =>
   simp only[ex,ey]at d
   by_cases hl:D.length=E.length
   ·rw[if_pos hl]at d
    obtain⟨V,a,F,rfl,J,Z⟩:=Wu ex M;obtain⟨t2,b,us,rfl,h2,B⟩:=Wu ey S;rw[<- e3,<- N];have z:=Fw e.fz J;have i:=TrL.same e.fz Z
    refine⟨a,b,rfl,V,t2,F,us,Fw l.sub z,Fw l.sub h2,by rw[<- i.length,<- B.length];exact hl,λH p H2 L G=>?_⟩
    obtain⟨Hf2,r,n,I⟩:=A2h l.sub i B L
    have lz:(Gy D E).length=F.length:=by unfold Gy;rw[ao,dO,<- hl,e_,i.length]
    rw[List.take_of_length_le (dq lz)]at I;have fr := n.free G
    exact New.of l (λv W' fp st w P=>d v _ _ ((m.trans (k.trans (j.trans e))).trans st) w P) _ _ _ [] ((r.trans (Stp.newF (o:=.tup H) n G)).less λa z=>nomatch z) (Jz n) ⟨rfl,p,H,rfl,Ax,TrL.same (Bp fr) I⟩
   ·rw[if_neg hl]at d;exact d.elim
def Bq7 (j:Nat)(fi:Ev->R (w5)):Ev->R (w5):=λc=>(Aa j c).bind λp c=>(frz (nrm p) c).bind λ_ c=>fi c
theorem A8t (h:MI K b fi):MI K b (Bq7 j fi):=by
 intro z W c i k R s
 obtain⟨_,_,q⟩:=me_var.toV _ W c _ (λ_ u=>u=W.H->b i W.H k) R (s.bnd.mono λp x l v H e m n A=>by
  obtain⟨d,E,G,_,o,y,a,t,B⟩:=Eu m n l.bnd
  have q:=h _ _ _ _ k t (o.mono λC D r J F f w g=>r J _ (e.trans (a.trans f)) w g)
  grind)
 grind
noncomputable def Ah7:o_:=λ_=>.bad
theorem Aq0:ME K Bu2 Ah7:=λ_ _ _ _ _ _ s=>s.elim
def Aa7 (fa:o_):Ev->R (w5):=λc=>(fa c).bind λp c=>match p with
 | .o (.ty (.ds ks ds))=>if ks.length=ds.length then .ok ds c else .bad
 | _=>.bad
theorem Be1 {td:TE}{fa:o_}(ha:ME K td fa):MI K (iDV td) (Aa7 fa):=by
 intro β W c σ k R s
 refine ha β W c σ _ R ((s.bnd).mono λp c1 s1 v1 W1 fp1 st1 R1 r1=>?_)
 match p,r1,s1 with
 | .o (.ty (.ds ks ds)),r1,s1 =>
  obtain⟨⟨rfl,a,o,xs,rfl,h1,t1,l1⟩,_⟩:=r1
  have st1:Stp W.S W.Hf W.H W1.S W1.Hf W1.H:=st1.less λa z=>.inl z
  have lz:(ks.zip xs).length=ks.length:=by rw[dO,<- l1,e_]
  have ld:ks.length=ds.length:=l1.trans t1.length.symm
  have s1:(if ks.length=ds.length then U.R.ok ds c1 else .bad:U.R (w5)).sat _:=s1
  rw[if_pos ld]at s1
  refine⟨a,o,ks.zip xs,rfl,R1.sub _ _ h1,s1 (Itv a o) W1 st1 R1 λi Hf' H sa sb=>⟨λe=>⟨ks.zip xs,sb _ _ (sa _ _ h1),by rw[lz,e,ld];exact au _⟩,λd hd=>⟨⟨ks.zip xs,sb _ _ (sa _ _ h1),by rw[lz,ld];exact(bG.mp hd).1⟩,λx H' hy=>?_⟩⟩⟩
  obtain⟨rfl,kvs,k',e1,e2⟩:=hy
  cases (e1.symm.trans (sb _ _ (sa _ _ h1)))
  obtain⟨_,q2⟩:=Ay4 e2;exact⟨Hf',.refl,sb,Tr.same sa (TrL.at t1 hd q2)⟩
 | .o (.ty (.nm _)),r1,s1=>exact s1.elim
 | .o (.ty (.tc _)),r1,s1=>exact s1.elim
 | .o (.ty (.xc _)),r1,s1=>exact s1.elim
 | .o (.ty (.dc _ _)),r1,s1=>exact s1.elim
 | .o (.ty (.dt _ _)),r1,s1=>exact s1.elim
 | .o (.ty (.td _ _ _)),r1,s1=>exact s1.elim
 | .o (.im _),r1,s1=>exact s1.elim
 | .o (.ls _ _),r1,s1=>exact s1.elim
 | .o (.sc _),r1,s1=>exact s1.elim
 | .sl _,r1,s1=>exact s1.elim
end U
namespace PS
open PySem PySem.W PyProof.Rows L2
theorem Kp {α β:Type}{B:Nat->Nat->Option Bool}{f:α->KasT β}:∀t:KasT α,kEv B (t.bind f)=(kEv B t).bind λa=>kEv B (f a)
 | .ret a=>rfl
 | .ask i j k=>by
  show (B i j).bind (λb=>kEv B ((k b).bind f))=((B i j).bind λb=>kEv B (k b)).bind λa=>kEv B (f a)
  rw[Option.bind_assoc]
  congr 1;funext b
  exact Kp (k b)
structure Ord (lt:Nat->Nat->Bool):Prop where
 irr:∀a,lt a a=false
 tr:∀a b c,lt a b=true->lt b c=true->lt a c=true
 neg:∀a b c,lt a c=true->lt a b=true\/lt b c=true
def Rr (lt:Nat->Nat->Bool)(x y:Nat):Prop:=lt x y=true\/(lt y x=false/\x<y)
section
variable {lt:Nat->Nat->Bool}{B:Nat->Nat->Option Bool}{n:Nat}{p:Array Nat}
theorem Ord.no (O:Ord lt) (h:lt a b=true):lt b a=false:=by
 cases e:lt b a with
 | false=>rfl
 | true=>have:=O.tr _ _ _ h e;rw[O.irr]at this;trivial
theorem Rr.trans (O:Ord lt) (h:Rr lt a b) (k:Rr lt b c):Rr lt a c:=by
 rcases h with h | ⟨h,f⟩
 ·rcases k with k | ⟨k,d⟩
  ·exact .inl (O.tr _ _ _ h k)
  ·rcases O.neg _ c _ h with z | z
   ·exact .inl z
   simp_all
 ·rcases k with k | ⟨k,d⟩
  ·rcases O.neg _ a _ k with z | z
   ·simp_all
   ·exact .inl z
  ·refine .inr ⟨?_,by lia⟩
   cases e:lt c a with
   | false=>rfl
   | true =>
    rcases O.neg _ b _ e with z | z
    ·simp_all
    simp_all
def Eq' (lt:Nat->Nat->Bool)(x y:Nat):Prop:=lt x y=false/\lt y x=false
theorem Eq'.lt_of (O:Ord lt) (h:Eq' lt a b) (k:lt b c=true):lt a c=true:=by
 rcases O.neg _ a _ k with z | z
 ·rw[h.2]at z;grind
 trivial
theorem Eq'.lt_to (O:Ord lt) (h:Eq' lt a b) (k:lt c b=true):lt c a=true:=by
 rcases O.neg _ a _ k with z | z
 ·grind
 ·rw[h.1]at z;grind
theorem Eq'.trans (O:Ord lt) (h:Eq' lt a b) (k:Eq' lt b c):Eq' lt a c:=by
 refine⟨?_,?_⟩
 ·cases e:lt a c with
  | false=>rfl
  | true=>
   rcases O.neg _ b _ e with z | z
   ·rw[h.1]at z;grind
   ·rw[k.1]at z;grind
 ·cases e:lt c a with
  | false=>rfl
  | true=>
   rcases O.neg _ b _ e with z | z
   ·rw[k.2]at z;grind
   ·rw[h.2]at z;grind
theorem gD (p:Array Nat)(k:Nat):p.getD k 0=(p[k]?).getD 0:=by
 simp_all
theorem J8 (hj:j<=p.size) (k:Nat):(kas_rev p i j).getD k 0=if i<=k/\k<j then p.getD (i+j-1-k) 0 else p.getD k 0:=by
 rw[gD,gD,gD,kas_rev,getElem?_mirror_all hj]
 grind
theorem By2 (hs:src<p.size) (hd:d<=src) (k:Nat):(bubble p src d).getD k 0=if k=src-d then p.getD src 0 else if src-d<k/\k<=src then p.getD (k-1) 0 else p.getD k 0:=by
 rw[gD,gD,gD,gD,getElem?_bubble hs d hd]
 grind
structure Fx (n:Nat) (p:Array Nat) (k:Nat):Prop where
 sz:p.size=n
 lo:∀i,i<k->p.getD i 0<k
 hi:∀i,k<=i->i<n->p.getD i 0=i
theorem Fx.rev (F:Fx n p k) (hj:j<=k) (hk:k<=n):Fx n (kas_rev p i j) k:=by
 have b:j<=p.size:=by rw[F.sz];lia
 refine⟨(mirror_size _ _ _ _).trans F.sz,λa d=>?_,λa e c=>?_⟩
 ·rw[J8 b]
  split
  ·exact F.lo _ (by lia)
  ·exact F.lo _ d
 ·rw[J8 b,if_neg (by lia)]
  exact F.hi a e c
theorem Fx.up (F:Fx n p k) (hk:k<n):Fx n p (k+1):=by
 refine⟨F.sz,λi b=>?_,λi c a=>F.hi i (by lia) a⟩
 rcases bN i k with h | h
 ·have:=F.lo i h;lia
 ·rw[show i=k by lia,F.hi k (au _) hk];lia
theorem Fx.bound (F:Fx n p k) (hk:k<=n) (hi:i<n):p.getD i 0<n:=by
 rcases bN i k with h | h
 ·have:=F.lo i h;lia
 ·rw[F.hi i h hi];lia
def So (lt:Nat->Nat->Bool)(p:Array Nat)(k:Nat):Prop:=∀i j,i<j->j<k->Rr lt (p.getD i 0) (p.getD j 0)
theorem So.up (O:Ord lt) (S:So lt p k) (F:Fx n p k) (hk:k<n) (d:0<k) (h:lt (p.getD k 0) (p.getD (k-1) 0)=false):So lt p (k+1):=by
 have a:Rr _ _ _:=.inr ⟨h,by rw[F.hi k (au _) hk];exact F.lo _ (by lia)⟩
 intro i j b c
 rcases bN j k with z | z
 ·exact S i j b z
 ·have e:j=k:=by lia
  subst e
  rcases bN i _ with y | y
  ·exact(S i _ y (by lia)).trans O a
  grind
theorem Aw1 (O:Ord lt)(hB:∀i j,i<n->j<n->B i j=some (lt i j)):∀(f k:Nat),0<k->k+f=n->Fx n p k->So lt p k->∃m,kEv B (kas_asc p f k)=some m/\k<=m/\m<=n/\Fx n p m/\So lt p m/\(m<n->lt (p.getD m 0) (p.getD (m-1) 0)=true)
 | 0,k,h0,hk,F,S=>⟨k,rfl,au _,by lia,F,S,λz=>by lia⟩
 | f+1,k,h0,hk,F,S=>by
  have e:kEv B (kas_asc p (f+1) k)=kEv B (if lt (p.getD k 0) (p.getD (k-1) 0)=true then .ret k else kas_asc p f (k+1)):=by
   show (B _ _).bind _=_
   rw[hB _ _ (F.bound (by lia) (by lia)) (F.bound (by lia) (by lia))];rfl
  rw[e]
  cases c:lt (p.getD k 0) (p.getD (k-1) 0) with
  | true=>exact⟨k,rfl,au _,by lia,F,S,λ_=>c⟩
  | false =>
   obtain⟨m,h1,h2,h3⟩:=Aw1 O hB f (k+1) (by lia) (by lia) (F.up (by lia)) (S.up O F (by lia) h0 c)
   exact⟨m,h1,by lia,h3⟩
structure De (lt:Nat->Nat->Bool) (p:Array Nat) (k q:Nat):Prop where
 hq:q<k
 al:∀i,k-(q+1)<=i->i<k->Eq' lt (p.getD i 0) (p.getD (k-1) 0)
 asc:∀i j,k-(q+1)<=i->i<j->j<k->p.getD i 0<p.getD j 0
 dec:∀i j,i<j->j<k->i<k-(q+1)->Rr lt (p.getD j 0) (p.getD i 0)
 str:∀i j,i<k-(q+1)->k-(q+1)<=j->j<k->lt (p.getD j 0) (p.getD i 0)=true
def Dn (lt:Nat->Nat->Bool)(p:Array Nat)(k:Nat):Prop:=∀i j,i<j->j<k->Rr lt (p.getD j 0) (p.getD i 0)
theorem De.flat (D:De lt p k 0):Dn lt p k:=λi j a b=>D.dec i j a b (by lia)
theorem Eq'.symm (h:Eq' lt a b):Eq' lt b a:=⟨h.2,h.1⟩
theorem Eq'.refl (O:Ord lt)(a:Nat):Eq' lt a a:=⟨O.irr a,O.irr a⟩
theorem Rr.not (O:Ord lt) (h:Rr lt a b):lt b a=false:=by
 rcases h with h | h
 ·exact O.no h
 grind
theorem De.flush (O:Ord lt) (D:De lt p k q) (hs:k<=p.size):Dn lt (kas_rev p (k-(q+1)) k) k:=by
 have e:=D.hq;intro i j a b;have d:=J8 (i:=k-(q+1)) hs i;rw[d,(J8 (i:=k-(q+1)) hs j)]
 by_cases hi:k-(q+1)<=i
 ·rw[if_pos (⟨by lia,by lia⟩:k-(q+1)<=i/\i<k),if_pos (⟨by lia,by lia⟩:k-(q+1)<=j/\j<k)]
  have c:=D.al (k-(q+1)+k-1-i) (by lia) (by lia)
  exact .inr ⟨(c.trans O (D.al (k-(q+1)+k-1-j) (by lia) (by lia)).symm).1,D.asc _ _ (by lia) (by lia) (by lia)⟩
 ·rw[if_neg (by lia:¬ (k-(q+1)<=i/\i<k))]
  by_cases hj':k-(q+1)<=j
  ·rw[if_pos (⟨hj',b⟩)]
   exact .inl (D.str i _ (by lia) (by lia) (by lia))
  ·rw[if_neg (by lia)]
   exact D.dec i j a b (by lia)
theorem Dn.next (O:Ord lt) (D:Dn lt p k) (e:0<k) (h:lt (p.getD k 0) (p.getD (k-1) 0)=true):De lt p (k+1) 0:=by
 have a:∀i,i<k->lt (p.getD k 0) (p.getD i 0)=true:=λi f=>by
  rcases bN i (k-1) with y | y
  ·rcases D i _ y (by lia) with z | ⟨z,_⟩
   ·exact O.tr _ _ _ h z
   ·rcases O.neg _ _ _ h with x | x
    ·exact x
    ·rw[z]at x;cases x
  ·rw[show i=k-1 by lia];exact h
 refine⟨by lia,λi b c=>?_,λi j b c d=>by lia,λi j b c d=>?_,λi j b c d=>?_⟩
 ·rw[show i=k+1-1 by lia];exact Eq'.refl O _
 ·rcases bN j k with z | z
  ·exact D i j b z
  ·rw[show j=k by lia];exact .inl (a i (by lia))
 ·rw[show j=k by lia];exact a i (by lia)
theorem De.more (O:Ord lt) (D:De lt p k q) (F:Fx n p k) (hk:k<n) (h1:lt (p.getD k 0) (p.getD (k-1) 0)=false) (h2:lt (p.getD (k-1) 0) (p.getD k 0)=false):De lt p (k+1) (q+1):=by
 have d:=D.hq;have e:Eq' lt (p.getD (k-1) 0) (p.getD k 0):=⟨h2,h1⟩
 refine⟨by lia,λi b a=>?_,λi j b a c=>?_,λi j b a c=>?_,λi j b a c=>?_⟩
 ·show Eq' lt (p.getD i 0) (p.getD k 0)
  rcases bN i k with z | z
  ·exact(D.al i (by lia) z).trans O e
  ·rw[show i=k by lia];exact Eq'.refl O _
 ·rcases bN j k with z | z
  ·exact D.asc i j (by lia) a z
  ·rw[show j=k by lia,F.hi k (au _) hk];exact F.lo i (by lia)
 ·rcases bN j k with z | z
  ·exact D.dec i j b z (by lia)
  ·rw[show j=k by lia]
   exact .inl (e.symm.lt_of O (D.str i _ (by lia) (by lia) (by lia)))
 ·rcases bN j k with z | z
  ·exact D.str i j (by lia) (by lia) z
  ·rw[show j=k by lia]
   exact e.symm.lt_of O (D.str i _ (by lia) (by lia) (by lia))
theorem U7 (O:Ord lt)(hB:∀i j,i<n->j<n->B i j=some (lt i j)):∀(f:Nat) (p:Array Nat) (k q:Nat),k+f=n->Fx n p k->De lt p k q ->
 ∃p' m q',kEv B (kas_desc f p k q)=some (p',m,q')/\0<m/\m<=n/\Fx n p' m/\De lt p' m q'/\p'.Perm p
 | 0,p,k,q,hk,F,D=>⟨p,k,q,rfl,by have:=D.hq;lia,by lia,F,D,h_ _⟩
 | f+1,p,k,q,hk,F,D=>by
  have hq:=D.hq
  have hkn:k<n:=by lia
  have b1:=F.bound (i:=k) (by lia) (by lia)
  have b2:=F.bound (i:=k-1) (by lia) (by lia)
  have e:kEv B (kas_desc (f+1) p k q)=kEv B (if lt (p.getD k 0) (p.getD (k-1) 0)=true then (if q>0 then kas_desc f (kas_rev p (k-(q+1)) k) (k+1) 0 else kas_desc f p (k+1) 0)
   else .ask (p.getD (k-1) 0) (p.getD k 0) λd=>if d=true then .ret (p,k,q) else kas_desc f p (k+1) (q+1)):=by
   show (B _ _).bind _=_
   rw[hB _ _ b1 b2];rfl
  rw[e]
  cases c:lt (p.getD k 0) (p.getD (k-1) 0) with
  | true =>
   rw[if_pos rfl]
   by_cases h0:q>0
   ·rw[if_pos h0]
    have hs:k<=p.size:=by rw[F.sz];lia
    have g1:(kas_rev p (k-(q+1)) k).getD k 0=p.getD k 0:=by rw[J8 hs,if_neg (by lia)]
    have g2:(kas_rev p (k-(q+1)) k).getD (k-1) 0=p.getD (k-(q+1)) 0:=by rw[J8 hs,if_pos (by lia)];congr 1;lia
    have D2:=(D.flush O hs).next O (by lia) (by rw[g1,g2];exact(D.al (k-(q+1)) (by lia) (by lia)).lt_to O c)
    obtain⟨p',m,q',a1,a2,a3,a4,a5,a6⟩:=U7 O hB f _ (k+1) 0 (by lia) ((F.rev (by lia) (by lia)).up hkn) D2
    exact⟨p',m,q',a1,a2,a3,a4,a5,a6.trans (mirror_perm _ _ _ _)⟩
   ·rw[if_neg h0]
    have hq0:q=0:=by lia
    subst hq0
    exact U7 O hB f p (k+1) 0 (by lia) (F.up hkn) (D.flat.next O (by lia) c)
  | false =>
   rw[if_neg (by decide)]
   have e2:kEv B (.ask (p.getD (k-1) 0) (p.getD k 0) λd=>if d=true then .ret (p,k,q) else kas_desc f p (k+1) (q+1))=kEv B (if lt (p.getD (k-1) 0) (p.getD k 0)=true then .ret (p,k,q) else kas_desc f p (k+1) (q+1)):=by
    show (B _ _).bind _=_
    rw[hB _ _ b2 b1];rfl
   rw[e2]
   cases d:lt (p.getD (k-1) 0) (p.getD k 0) with
   | true=>exact⟨p,k,q,rfl,by lia,by lia,F,D,h_ _⟩
   | false=>exact U7 O hB f p (k+1) (q+1) (by lia) (F.up hkn) (D.more O F hkn c d)
theorem Ak2 (O:Ord lt)(hB:∀i j,i<n->j<n->B i j=some (lt i j)) (c:0<k) (hk:k<=n) (F:Fx n p k) (D:Dn lt p k):∃m p',kEv B (kas_tail3 k n p)=some (m,p')/\0<m/\m<=n/\Fx n p' m/\So lt p' m/\p'.Perm p:=by
 have a:k<=p.size:=by rw[F.sz];lia
 have S:So _ (kas_rev p 0 k) k:=λi j e h=>by
  rw[J8 a i,J8 a j,if_pos (⟨by lia,by lia⟩),if_pos (⟨by lia,by lia⟩)]
  exact D _ _ (by lia) (by lia)
 obtain⟨m,f,l,d,g,b,_⟩:=Aw1 O hB (n-k) k c (by lia) (F.rev (au _) hk) S
 refine⟨m,kas_rev p 0 k,?_,by lia,d,g,b,mirror_perm _ _ _ _⟩
 rw[kas_tail3,Kp,f];rfl
theorem Ut (O:Ord lt)(hB:∀i j,i<n->j<n->B i j=some (lt i j)) (hk:k<n) (F:Fx n p (k+1)) (D:De lt p (k+1) 0):∃m a,kEv B (kas_descPart k n p)=some (m,a)/\0<m/\m<=n/\Fx n a m/\So lt a m/\a.Perm p:=by
 obtain⟨u,m,q,x,t,f,g,v,w⟩:=U7 O hB (n-(k+1)) p _ 0 (by lia) F D
 have e:kEv B (kas_descPart k n p)=kEv B (if q>0 then kas_tail3 m n (kas_rev u (m-(q+1)) m) else kas_tail3 m n u):=by
  rw[kas_descPart,Kp,x];rfl
 rw[e]
 by_cases h0:q>0
 ·rw[if_pos h0]
  obtain⟨d,a,h,c,o,l,r,s⟩:=Ak2 O hB t f (g.rev (au _) f) (v.flush O (by rw[g.sz];grind))
  exact⟨d,a,h,c,o,l,r,(s.trans (mirror_perm _ _ _ _)).trans w⟩
 ·have b:q=0:=by lia
  subst b;obtain⟨d,a,h,c,o,l,r,s⟩:=Ak2 O hB t f g v.flat;exact⟨d,a,h,c,o,l,r,s.trans w⟩
theorem A8m (O:Ord lt)(hB:∀i j,i<n->j<n->B i j=some (lt i j))(h1:1<=n)(F:Fx n p 1):∃m f,kEv B (kas_count n p)=some (m,f)/\0<m/\m<=n/\Fx n f m/\So lt f m/\f.Perm p:=by
 obtain⟨m,v,K,l,b,k,u⟩:=Aw1 O hB (n-1) 1 (by lia) (by lia) F (λi j h o=>by lia)
 have e:kEv B (kas_count n p)=kEv B (if (m==n)=true then .ret (m,p) else if m>1 then .ask (p.getD 0 0) (p.getD (m-1) 0) λc=>if c=true then .ret (m,p) else kas_descPart m n (kas_rev p 0 m) else kas_descPart m n p):=by
  rw[kas_count,Kp,v];rfl
 rw[e]
 by_cases hmn:m=n
 ·rw[if_pos (by simp[hmn])];exact⟨m,p,rfl,by lia,l,b,k,h_ _⟩
 ·rw[if_neg (by simp[hmn])]
  have a:m<n:=by lia
  have c:=u a
  by_cases hm:m>1
  ·rw[if_pos hm]
   have E:kEv B (.ask (p.getD 0 0) (p.getD (m-1) 0) λc=>if c=true then .ret (m,p) else kas_descPart m n (kas_rev p 0 m))=kEv B (if lt (p.getD 0 0) (p.getD (m-1) 0)=true then .ret (m,p) else kas_descPart m n (kas_rev p 0 m)):=by
    show (B _ _).bind _=_
    rw[hB _ _ (b.bound l (by lia)) (b.bound l (by lia))];rfl
   rw[E]
   cases d:lt (p.getD 0 0) (p.getD (m-1) 0) with
   | true=>exact⟨m,p,rfl,by lia,l,b,k,h_ _⟩
   | false =>
    rw[if_neg (by decide)]
    have s:m<=p.size:=by rw[b.sz];lia
    have g:∀i,i<m->(kas_rev p 0 m).getD i 0=p.getD (m-1-i) 0:=λi q=>by
     rw[J8 s,if_pos (⟨by lia,q⟩:0<=i/\i<m)];congr 1;lia
    have w:(kas_rev p 0 m).getD m 0=p.getD m 0:=by rw[J8 s,if_neg (by lia)]
    have A:∀i,i<m->Eq' lt (p.getD i 0) (p.getD (m-1) 0):=λi q=>by
     refine⟨?_,?_⟩
     ·cases x:lt (p.getD i 0) (p.getD (m-1) 0) with
      | false=>rfl
      | true =>
       rcases O.neg _ (p.getD 0 0) _ x with z | z
       ·rcases Nat.eq_zero_or_pos i with y | y
        ·rw[y,O.irr]at z;cases z
        ·rw[(k 0 i y q).not O]at z;cases z
       ·rw[d]at z;cases z
     ·rcases bN i (m-1) with y | y
      ·exact(k i (m-1) y (by lia)).not O
      ·rw[show i=m-1 by lia];exact O.irr _
    have r:Dn lt (kas_rev p 0 m) m:=λi j h o=>by
     rw[g i (by lia),g j o];exact k _ _ (by lia) (by lia)
    obtain⟨D,f,G,C,I,H,J,t⟩:=Ut O hB a ((b.rev (au _) l).up a) (r.next O (by lia) (by rw[w,g _ (by lia)];exact(A _ (by lia)).lt_to O c))
    exact⟨D,f,G,C,I,H,J,t.trans (mirror_perm _ _ _ _)⟩
  ·rw[if_neg hm]
   have r:Dn lt p m:=λi j h o=>by lia
   exact Ut O hB a (b.up a) (r.next O (by lia) c)
theorem N5 (O:Ord lt)(hB:∀i j,i<n->j<n->B i j=some (lt i j)){k:Nat}(hk:k<n)(F:Fx n p k)(S:So lt p k):∀(f l r:Nat),l<=r->r<=k->r-l<=f->(∀i,i<l->lt (p.getD k 0) (p.getD i 0)=false)->(∀i,r<=i->i<k->lt (p.getD k 0) (p.getD i 0)=true) ->
 ∃m,kEv B (kas_place p k f l r)=some m/\m<=k/\(∀i,i<m->lt (p.getD k 0) (p.getD i 0)=false)/\(∀i,m<=i->i<k->lt (p.getD k 0) (p.getD i 0)=true)
 | 0,l,r,h1,h2,h3,a,b=>⟨l,rfl,by lia,a,λi x y=>b i (by lia) y⟩
 | f+1,l,r,h1,h2,h3,a,b=>by
  by_cases h:l≥r
  ·refine⟨l,?_,by lia,a,λi x y=>b i (by lia) y⟩
   rw[kas_place,if_pos h];rfl
  ·have e:kEv B (kas_place p k (f+1) l r)=kEv B (if lt (p.getD k 0) (p.getD ((l+r) / 2) 0)=true then kas_place p k f l ((l+r) / 2) else kas_place p k f ((l+r) / 2+1) r):=by
    rw[kas_place,if_neg h]
    show (B _ _).bind _=_
    rw[hB _ _ (F.bound (by lia) (by lia)) (F.bound (by lia) (by lia))];rfl
   rw[e]
   cases c:lt (p.getD k 0) (p.getD ((l+r) / 2) 0) with
   | true =>
    rw[if_pos rfl]
    refine N5 O hB hk F S f l _ (by lia) (by lia) (by lia) a λi x y=>?_
    rcases bN ((l+r) / 2) i with z | z
    ·rcases S _ i z y with q | ⟨q,_⟩
     ·exact O.tr _ _ _ c q
     ·rcases O.neg _ (p.getD i 0) _ c with w | w
      ·exact w
      ·rw[q]at w;cases w
    ·rw[show i=(l+r) / 2 by lia];exact c
   | false =>
    rw[if_neg (by decide)]
    refine N5 O hB hk F S f _ r (by lia) h2 (by lia) (λi x=>?_) b
    rcases bN i ((l+r) / 2) with z | z
    ·have q:=S i _ z (by lia)
     cases w:lt (p.getD k 0) (p.getD i 0) with
     | false=>rfl
     | true =>
      rcases O.neg _ (p.getD ((l+r) / 2) 0) _ w with y | y
      ·rw[c]at y;cases y
      ·rw[q.not O]at y;cases y
    ·rw[show i=(l+r) / 2 by lia];exact c
theorem A7w (O:Ord lt)(hB:∀i j,i<n->j<n->B i j=some (lt i j)):∀(f:Nat) (p:Array Nat) (k:Nat),k+f=n->Fx n p k->So lt p k->∃p',kEv B (kas_bin f p k)=some p'/\Fx n p' n/\So lt p' n/\p'.Perm p
 | 0,p,k,hk,F,S=>by
  have e:k=n:=by lia
  subst e;exact⟨p,rfl,F,S,h_ _⟩
 | f+1,p,k,hk,F,S=>by
  have hkn:k<n:=by lia
  obtain⟨l,a1,a2,a3,a4⟩:=N5 O hB hkn F S k 0 k (by lia) (au _) (by lia) (λi x=>by lia) (λi x y=>by lia)
  have hs:k<p.size:=by rw[F.sz];exact hkn
  have g:=λi=>By2 (p:=p) (src:=k) (d:=k-l) hs (by lia) i
  have kl:k-(k-l)=l:=by lia
  rw[kl]at g
  have e:kEv B (kas_bin (f+1) p k)=kEv B (kas_bin f (bubble p k (k-l)) (k+1)):=by
   rw[kas_bin,Kp,a1];rfl
  have F2:Fx n (bubble p k (k-l)) (k+1):=by
   have U:=F.up hkn
   refine⟨(bubble_size _ _ _).trans F.sz,λi hi=>?_,λi h1 h2=>?_⟩
   ·rw[g i]
    by_cases c1:i=l
    ·rw[if_pos c1];exact U.lo _ (by lia)
    ·rw[if_neg c1]
     by_cases c2:l<i/\i<=k
     ·rw[if_pos c2];exact U.lo _ (by lia)
     ·rw[if_neg c2];exact U.lo _ hi
   ·rw[g i,if_neg (by lia),if_neg (by lia)]
    exact F.hi i (by lia) h2
  have new:∀i,i<l->Rr lt (p.getD i 0) (p.getD k 0):=λi hi=>.inr ⟨a3 i hi,by rw[F.hi k (au _) hkn];exact F.lo i (by lia)⟩
  have S2:So lt (bubble p k (k-l)) (k+1):=λi j hij hj=>by
   rw[g i,g j]
   by_cases c1:j=l
   ·rw[if_pos c1,if_neg (by lia),if_neg (by lia)]
    exact new i (by lia)
   ·rw[if_neg c1]
    by_cases c2:l<j/\j<=k
    ·rw[if_pos c2]
     by_cases c3:i=l
     ·rw[if_pos c3];exact .inl (a4 _ (by lia) (by lia))
     ·rw[if_neg c3]
      by_cases c4:l<i/\i<=k
      ·rw[if_pos c4];exact S _ _ (by lia) (by lia)
      ·rw[if_neg c4];exact S _ _ (by lia) (by lia)
    ·rw[if_neg c2,if_neg (by lia),if_neg (by lia)];exact S _ _ hij (by lia)
  rw[e]
  obtain⟨p',b1,b2,b3,b4⟩:=A7w O hB f _ (k+1) (by lia) F2 S2
  exact⟨p',b1,b2,b3,b4.trans (bubble_perm _ _ _)⟩
theorem Bh6 (O:Ord lt)(hB:∀i j,i<n->j<n->B i j=some (lt i j))(h1:1<=n):∃p,kEv B (kas_sort n)=some p/\p.size=n/\So lt p n/\p.toList.Perm (List.range n):=by
 have F:Fx n (List.toArray (List.range n)) 1:=by
  have q:∀i,i<n->(List.toArray (List.range n)).getD i 0=i:=λi a=>by
   rw[gD];simp[a]
  exact⟨by simp,λi a=>by rw[q i (by lia)];exact a,λi _ a=>q i a⟩
 obtain⟨m,p,g,t,u,c,f,b⟩:=A8m O hB h1 F
 have e:kEv B (kas_sort n)=kEv B (if m<n then kas_bin (n-max m 1) p (max m 1) else .ret p):=by
  rw[kas_sort,Kp,g];rfl
 rw[e]
 have d:∀q:Array _,q.Perm (List.toArray (List.range n))->q.toList.Perm _:=λq h=>by
  have:=Array.perm_iff_toList_perm.mp h
  simpa using this
 by_cases h:m<n
 ·rw[if_pos h,show max m 1=m by lia]
  obtain⟨r,k,l,s,o⟩:=A7w O hB (n-m) p m (by lia) c f
  exact⟨r,k,l.sz,s,d _ (o.trans b)⟩
 ·rw[if_neg h]
  have e:m=n:=by lia
  subst e;exact⟨p,rfl,c.sz,f,d _ b⟩
end
end PS
namespace U
open PySem L2
theorem R.bind_ok {a:b} {k:b->Ev->R d}:(R.ok a c).bind k=k a c:=rfl
theorem R.toS_ok {a:b} {k:b->Ev->SR}:(R.ok a c).toS k=k a c:=rfl
theorem A6e {a:Type}{x:Option a}:(some x).join=x:=rfl
theorem B5b (x:a) (r:List a):atI (x::r) 0=some x:=Gz rfl
theorem B3e (x y:a) (r:List a):atI (x::y::r) 1=some y:=Gz rfl
theorem B3b (x y z:a) (r:List a):atI (x::y::z::r) 2=some z:=Gz rfl
theorem B4p (x y z u:a) (r:List a):atI (x::y::z::u::r) 3=some u:=Gz rfl
theorem B3f (x y z u w:a) (r:List a):atI (x::y::z::u::w::r) 4=some w:=Gz rfl
theorem By4:ixN 3 0=some 0:=rfl
theorem B1c:ixN 3 1=some 1:=rfl
theorem B1b:ixN 3 2=some 2:=rfl
def Rw (g:p_)(body:Ev->SR)(d:t6)(c:Ev):SR:=(g (.o (.im d)) c).toS λ_ c=>body c
theorem A4v (h:Rw g body d c=.nx c'\/Rw g body d c=.ct c'):forL g body (d::ds) c=forL g body ds c':=by
 unfold Rw at h;rw[forL]
 cases e:g _ c with
 | bad=>rw[e]at h;rcases h with h | h <;> cases h
 | ok u a =>
  rw[e]at h;have h:body _=.nx _\/body _=.ct _:=h
  grind
theorem Fz {g:p_}{body:Ev->SR}{P:Nat->Ev->Prop}:∀{items:w5}{n:Nat}{c:Ev},P n c ->
 (∀k d c,items[k]?=some d->P (n+k) c->∃c',(Rw g body d c=.nx c'\/Rw g body d c=.ct c')/\P (n+k+1) c')->∃c',forL g body items c=.nx c'/\P (n+items.length) c'
 | [],n,c,h0,_=>⟨c,rfl,h0⟩
 | d::ds,n,c,h0,hs=>by
  obtain⟨c1,e,h1⟩:=hs 0 d c rfl h0;rw[A4v e]
  obtain⟨c2,e2,h2⟩:=Fz (P:=P) (items:=ds) (n:=n+1) (c:=c1) h1 (λk d c hk hp=>by
   have:=hs (k+1) d c (by simpa using hk) (by rw[show n+(k+1)=n+1+k by lia];exact hp)
   rw[show n+(k+1)+1=n+1+k+1 by lia]at this
   exact this)
  exact⟨c2,e2,by rw[bM,show n+(ds.length+1)=n+1+ds.length by lia];exact h2⟩
def Mi (g:p_)(ft:o7)(fe:o_)(d:t6)(c:Ev):R (Option t6) :=
 (g (.o (.im d)) c).bind λ_ c=>(ft c).bind λb c=>if b=true then (fe c).bind λp c=>(frz (nrm p) c).bind λy c=>.ok (some y) c else .ok none c
theorem Pu : Dl g ft fe (d::ds) acc c=(Mi g ft fe d c).bind λo c=>Dl g ft fe ds (acc++o.toList) c:=by
 unfold Mi;rw[Dl]
 cases e:g _ c with
 | bad=>rfl
 | ok u f =>
  simp only[R.bind_ok]
  cases e2:ft _ with
  | bad=>rfl
  | ok b h =>
   simp only[R.bind_ok]
   cases b with
   | false=>simp[R.bind_ok]
   | true =>
    cases e3:fe _ with
    | bad=>rfl
    | ok p i =>
     simp only[R.bind_ok]
     cases e4:frz _ _ with
     | bad=>rfl
     | ok y a=>rfl
theorem Ko {g:p_}{ft:o7}{fe:o_}{P:Nat->w5->Ev->Prop}:∀{items acc:w5}{n:Nat}{c:Ev},P n acc c ->
 (∀k d acc c,items[k]?=some d->P (n+k) acc c->∃o c',Mi g ft fe d c=.ok o c'/\P (n+k+1) (acc++o.toList) c')->∃acc' c',Dl g ft fe items acc c=.ok acc' c'/\P (n+items.length) acc' c'
 | [],acc,n,c,h0,_=>⟨acc,c,rfl,h0⟩
 | d::ds,acc,n,c,h0,hs=>by
  obtain⟨o,c1,e,h1⟩:=hs 0 d acc c rfl h0;rw[Pu,e,R.bind_ok]
  obtain⟨acc2,c2,e2,h2⟩:=Ko (P:=P) (items:=ds) (n:=n+1) (c:=c1) h1 (λk d acc c hk hp=>by
   have:=hs (k+1) d acc c (by simpa using hk) (by rw[show n+(k+1)=n+1+k by lia];exact hp)
   rw[show n+(k+1)+1=n+1+k+1 by lia]at this
   exact this)
  exact⟨acc2,c2,e2,by rw[bM,show n+(ds.length+1)=n+1+ds.length by lia];exact h2⟩
theorem Yb {g:p_}{ft:o7}{fe:o_}{I:Ev->Prop}{F:t6->Option t6}:∀{items acc:w5}{c:Ev},I c ->
 (∀d c,d∈items->I c->∃c',Mi g ft fe d c=.ok (F d) c'/\I c')->∃c',Dl g ft fe items acc c=.ok (acc++items.filterMap F) c'/\I c'
 | [],acc,c,h0,_=>⟨c,by simp[Dl],h0⟩
 | d::ds,acc,c,h0,hs=>by
  obtain⟨c1,e,h1⟩:=hs d c (.head _) h0;rw[Pu,e,R.bind_ok]
  obtain⟨c2,e2,h2⟩:=Yb (I:=I) (F:=F) (items:=ds) (acc:=acc++(F d).toList) h1 (λd c hd hi=>hs d c (.tail _ hd) hi)
  refine⟨c2,?_,h2⟩
  rw[e2,fG];rw[dW]
  cases F d <;> rfl
theorem Zn {I:Ev->Prop} (b:I c)
 (hs:∀d c,d∈items->I c->∃a,Mi g ft fe d c=.ok (some (F d)) a/\I a):∃a,Dl g ft fe items acc c=.ok (acc++items.map F) a/\I a:=by
 obtain⟨a,e,h⟩:=Yb (acc:=acc) b hs
 refine⟨a,?_,h⟩
 simp_all
theorem Ks {α:Type}{g:p_}{ft:o7}{fe:o_}{I:Ev->Prop}{f:α->t6}{G:α->Option t6}:∀{xs:List α}{acc:w5}{c:Ev},I c ->
 (∀x c,x∈xs->I c->∃c',Mi g ft fe (f x) c=.ok (G x) c'/\I c')->∃c',Dl g ft fe (xs.map f) acc c=.ok (acc++xs.filterMap G) c'/\I c'
 | [],acc,c,h0,_=>⟨c,by simp[Dl],h0⟩
 | x::xs,acc,c,h0,hs=>by
  obtain⟨c1,e,h1⟩:=hs x c (.head _) h0;rw[aF,Pu,e,R.bind_ok]
  obtain⟨c2,e2,h2⟩:=Ks (I:=I) (f:=f) (G:=G) (xs:=xs) (acc:=acc++(G x).toList) h1 (λd c hd hi=>hs d c (.tail _ hd) hi)
  refine⟨c2,?_,h2⟩
  rw[e2,fG];rw[dW]
  cases G x <;> rfl
theorem Cz {b:Type} {I:Ev->Prop}{f:b->t6}{G:b->t6}{xs:List b} (d:I c)
 (hs:∀x c,x∈xs->I c->∃a,Mi g ft fe (f x) c=.ok (some (G x)) a/\I a):∃a,Dl g ft fe (xs.map f) acc c=.ok (acc++xs.map G) a/\I a:=by
 obtain⟨a,e,h⟩:=Ks (acc:=acc) d hs
 refine⟨a,?_,h⟩
 simp_all
theorem Dm (h1:fi c=.ok ds c1) (hl:ds.length<=16000000) (h2:Dl g ft fe ds [] (cIn idx c1)=.ok acc cI) (a:G4 cI (pairsOf 0 idx) c1=some c2) :
 cLC idx fi g ft fe c=.ok (.o (.ls false acc)) c2:=by
 unfold cLC;rw[h1,R.bind_ok]
 simp_all
theorem Ox (h1:fi c=.ok ds c1):Lw fi g body c=forL g body ds c1:=by
 unfold Lw;rw[h1];rfl
theorem Bo (h:f c=.nx c'):Bg f g c=g c':=by unfold Bg;rw[h]
theorem Jy (h:body (a.map some++List.replicate (N-n) none)=.rt p c) (hl:a.length=n) (hf:A5x a p c=r):Ef n N body a=r:=by
 unfold Ef;grind
theorem Ac2 (h:f c=.ok p c1) (h2:g p c1=.ok () c2):Bq f g c=.nx c2:=by
 unfold Bq;rw[h,R.toS_ok,h2,R.toS_ok]
end U
namespace K
open PySem L2 U
structure Good (d:t6) (n w:Nat):Prop where
 lay:d.canLay0=true
 shw:d.showable=true
 dct:d.hasDict=false
 dep:d.depth<=n
 wgt:wt d<=w
structure Goods (ds:w5) (n w:Nat):Prop where
 lay:PyData.canLayAll0 ds=true
 shw:PyData.showableAll ds=true
 dct:PyData.hasDictAll ds=false
 dep:PyData.depthAll ds<=n
 wgt:Ji ds<=w*ds.length
theorem Goods.of {n w:Nat}:∀{ds:w5},(∀d∈ds,Good d n w)->Goods ds n (w+2)
 | [],_=>⟨rfl,rfl,rfl,aM _,aM _⟩
 | d::r,h=>by
  have a:=h d (.head _)
  have b:=Goods.of λe he=>h e (.tail _ he)
  refine⟨?_,?_,?_,?_,?_⟩
  ·show (d.canLay0&&PyData.canLayAll0 r)=true;rw[a.lay,b.lay];rfl
  ·show (d.showable&&PyData.showableAll r)=true;rw[a.shw,b.shw];rfl
  ·show (d.hasDict||PyData.hasDictAll r)=false;rw[a.dct,b.dct];rfl
  ·show max d.depth (PyData.depthAll r)<=n;have:=a.dep;have:=b.dep;lia
  ·show wt d+2+Ji r<=(w+2)*(r.length+1)
   have:=a.wgt;have:=b.wgt;rw[Nat.mul_succ];lia
theorem Good.tup (h:∀d∈ds,Good d n w) (hk:ds.length<=k):Good (.tuple ds) (n+1) ((w+2)*k+4):=by
 have g:=Goods.of h;have m:(w+2)*ds.length<=(w+2)*k:=cX _ hk
 refine⟨g.lay,g.shw,g.dct,?_,?_⟩
 ·show PyData.depthAll _+1<=n+1;have:=g.dep;lia
 ·show Ji _+4<=(w+2)*k+4;have:=g.wgt;lia
theorem Good.lst (h:∀d∈ds,Good d n w) (hk:ds.length<=k):Good (.list ds) (n+1) ((w+2)*k+4):=by
 have g:=Goods.of h;have m:(w+2)*ds.length<=(w+2)*k:=cX _ hk
 refine⟨g.lay,g.shw,g.dct,?_,?_⟩
 ·show PyData.depthAll _+1<=n+1;have:=g.dep;lia
 ·show Ji _+4<=(w+2)*k+4;have:=g.wgt;lia
theorem Good.mono (h:Good d n w) (a:n<=n') (b:w<=w'):Good d n' w':=⟨h.lay,h.shw,h.dct,aq h.dep a,aq h.wgt b⟩
theorem Good.flatB (h:Good d n w) (hn:n<=40):Cq d=true:=by
 unfold U.Cq;rw[h.lay,aR (aq h.dep hn)];rfl
theorem A5d (ha:Good a n w) (hb:Good b n' w') (hn:n<=40) (c:n'<=40):Cr neg a b=some (.im (.bool (if neg then !PyData.eqv a b else PyData.eqv a b))):=by
 unfold Cr;rw[ha.flatB hn,hb.flatB c];rfl
theorem Au5 (h:Good d n w) (hn:n<=40) (hw:w<=16000000) (hs:isSeq d=true):Y9 d=some (.im (.str d.shown)):=by
 have l:d.shown.length<=sizeLine:=aq (Al8 d h.lay h.shw) (aq h.wgt (aq hw (by decide)))
 cases d with
 | int i=>cases hs
 | none=>rfl
 | bool b=>rfl
 | str x=>cases hs
 | dict k=>cases hs
 | list a =>
  show (if isSeq _&&_ then _ else _)=_
  rw[h.shw,h.dct,aR (aq h.dep hn),aR l];rfl
 | tuple a =>
  show (if isSeq _&&_ then _ else _)=_
  rw[h.shw,h.dct,aR (aq h.dep hn),aR l];rfl
theorem Qw (h:∀d∈ds,d.canLay0=true):PyData.canLayAll0 ds=true:=by
 induction ds with
 | nil=>rfl
 | cons d r a=>show (d.canLay0&&PyData.canLayAll0 r)=true;grind
theorem As3 : Cr neg (.str a) (.str b)=some (.im (.bool (if neg then !decide (a=b) else decide (a=b)))):=by
 unfold Cr
 rw[show Vb _ _=true from rfl]
 rw[Wt]
 simp
inductive Vl where
 | non
 | int (i:Int)
 | str (x:Str)
 deriving DecidableEq
abbrev m6:=List Vl
abbrev m5:=List (m6)
@[simp] theorem Vl.int.injEq (a b:Int):(Vl.int a=Vl.int b)=(a=b):=propext ⟨λh=>by cases h;rfl,λh=>by rw[h]⟩
@[simp] theorem Vl.str.injEq (a b:Str):(Vl.str a=Vl.str b)=(a=b):=propext ⟨λh=>by cases h;rfl,λh=>by rw[h]⟩
noncomputable def Vl.d:Vl->t6
 | .non=>.none
 | .int i=>.int i
 | .str x=>.str x
noncomputable def vb:Vl->Bool
 | .non=>true
 | .int i=>decide (-1000000000000<=i)&&decide (i<=1000000000000)
 | .str x=>decide (x.length<=40)&&x.cps.toList.all λc=>decide (32<=c)&&decide (c<=126)
abbrev VB (v:Vl):Prop:=vb v=true
abbrev VBs (vs:m6):Prop:=∀v∈vs,VB v
def tD (vs:m6):t6:=.tuple (vs.map Vl.d)
theorem Ai3 (x y:Str):PyData.eqv (.str x) (.str y)=decide (x=y):=by
 show (x==y)=_
 grind
theorem Bt5 (a b:Vl):PyData.eqv a.d b.d=decide (a=b):=by
 cases a with
 | non=>cases b <;> simp[Vl.d,PyData.eqv]
 | int i=>
  cases b with
   | int j =>
    show (i==j)=_
    grind
   | non=>rfl
   | str y=>trivial
 | str x=>
  cases b with
   | str y=>rw[show PyData.eqv (Vl.d (.str x)) (Vl.d (.str y))=_ from Ai3 x y];simp_all
   | non=>trivial
   | int y=>trivial
theorem Aj6:∀as bs:m6,PyData.eqvAll (as.map Vl.d) (bs.map Vl.d)=decide (as=bs)
 | [],[]=>by simp[PyData.eqvAll]
 | [],b::bs=>by simp[PyData.eqvAll]
 | a::as,[]=>by simp[PyData.eqvAll]
 | a::as,b::bs=>by
  show (PyData.eqv a.d b.d&&PyData.eqvAll (as.map Vl.d) (bs.map Vl.d))=_
  rw[Bt5,Aj6 as bs]
  simp
theorem A1z (a bs:m6):PyData.eqv (tD a) (tD bs)=decide (a=bs):=by
 exact Aj6 _ _
theorem Oj (h:VB v):Good v.d 0 1921:=by
 cases v with
 | non=>exact⟨rfl,rfl,rfl,au _,by decide⟩
 | int i =>
  obtain⟨a,b⟩:=aA.mp (show (decide _&&decide _)=true from h)
  have a:=aV a;have b:=aV b
  refine⟨rfl,?_,rfl,au _,au _⟩
  have c:i.natAbs<2 ^ 41:=by lia
  have:i.natAbs.log2<1920:=by
   by_cases hz:i.natAbs=0
   ·rw[hz];decide
   ·exact aK ((Nat.log2_lt hz).mpr c) (by decide)
  simpa[Vl.d,PyData.showable] using this
 | str x =>
  obtain⟨a,b⟩:=aA.mp (show (decide _&&x.cps.toList.all _)=true from h)
  have a:=aV a
  refine⟨?_,rfl,rfl,au _,?_⟩
  ·show x.cps.all _=true
   grind
  ·show 10*x.length+2<=1921
   lia
theorem Jx (h:VBs vs) (hk:vs.length<=k):Good (tD vs) 1 (1923*k+4) :=
 Good.tup (λd a=>by obtain⟨v,b,rfl⟩:=aG.mp a;exact Oj (h v b)) (by simp_all)
theorem VBs.app (h:VBs a) (k:VBs b):VBs (a++b):=λv c=>by
 grind
theorem B4w (v:Vl)(vs:m6):((vs.map Vl.d).any λe=>PyData.eqv e v.d)=decide (v∈vs):=by
 induction vs with
 | nil=>simp
 | cons a r b =>
  rw[aF,gH,Bt5]
  grind
theorem B4u (v:m6)(vs:m5):((vs.map tD).any λe=>PyData.eqv e (tD v))=decide (v∈vs):=by
 induction vs with
 | nil=>simp
 | cons a r b =>
  rw[aF,gH,A1z]
  grind
theorem A9w (h:VB v) (hs:VBs vs):Pk neg v.d (.list (vs.map Vl.d))=some (.im (.bool (if neg then !decide (v∈vs) else decide (v∈vs)))):=by
 have e:Pk neg v.d (.list (vs.map Vl.d))=if Cq v.d&&PyData.canLayAll0 (vs.map Vl.d) then some (.im (.bool (if neg then !(vs.map Vl.d).any λe=>PyData.eqv e v.d else (vs.map Vl.d).any λe=>PyData.eqv e v.d))) else none:=by rfl
 rw[e,(Oj h).flatB (by decide),Qw λd a=>by obtain⟨u,b,rfl⟩:=aG.mp a;exact(Oj (hs u b)).lay,B4w];rfl
theorem Ax3 {vs:m5}(h:VBs v) (hs:∀u∈vs,VBs u):Pk neg (tD v) (.list (vs.map tD))=some (.im (.bool (if neg then !decide (v∈vs) else decide (v∈vs)))):=by
 show (if Cq _&&PyData.canLayAll0 _ then some _ else none)=_
 rw[(Jx h (au _)).flatB (by decide),Qw λd a=>by obtain⟨u,b,rfl⟩:=aG.mp a;exact(Jx (hs u b) (au _)).lay,B4u];rfl
theorem Xb {l:List a}{r:Int}(b:0<=r) (h1:r<l.length):∃d,atI l r=some d/\d∈l/\l[r.toNat]?=some d:=by
 obtain⟨k,rfl⟩:=fu b
 exact⟨l[k],Gz (bu _),iG _,by grind⟩
end K
namespace L2
open PySem PySem.Spec PyProof.Rows PySem.W
end L2
namespace L2
open PySem PySem.Spec PyProof.Rows PySem.W U
theorem Fun.okQ {P:u6}{w:World}{K:v9}{mg:x_}{base:Heap}{x qual:Str}{st:Stmt}{f:Addr}{fd:u5}{N ps:v4}{k:Nat}{body:Ev->SR}{T:TS}(F:Fun K x qual st f fd)(S:Ba N ps (Ah st))
 (q:∀{cdv:Value} {A:t_} {outer:List Env} {s:u_} {H:Hp} {E:XK} (hr:Room k (A.deeper (envOfC qual (Ah st) s.heap.objs.size f cdv))) (_:(A.deeper (envOfC qual (Ah st) s.heap.objs.size f cdv)).units+64<cLine) (_:(A.deeper (envOfC qual (Ah st) s.heap.objs.size f cdv)).guards=some []),
  QSs (Jm CX0 P w K mg base N qual (Ah st) f cdv A outer s H E).nox (Cy st) T) (m:MS K T body):FnOk P w K mg base CX0 (k+1) f fd ps (spP K (Ef ps.length N.length body)) :=
 F.ok S (λ_ _ _ _=>A8r) λcdv A outer s H vs Q E hr h=>A3g (q hr hr.units hr.gd) (Az2 m h)
end L2
namespace K
open PySem L2 U
def Nv:Ev->SR :=
 (Bg
  (Bq (cOp Aj (Aa 0) (cC (.int 0))) (cgN 2))
  (Bg (cIf (Bh (cOp (Pk true) (Aa 1) (Aa 2))) Ti Dh)
  (Df (cMt Qc Ls (Aa 2) (Aa 1)))))
def Gq:n6:=Ef 2 3 Nv
def Lf:Ev->SR :=
 (Df (cLC [none,some 0] (Bl (Aa 1)) (cgN 0) Be (cF Gq (Ab (Aa 1) (Ab (Aa 0) Ai)))))
def Dg:n6:=Ef 2 2 Lf
def K8:Ev->SR :=
 (Df (cUn Az (cLC [none,some 0] (Bl (Aa 1)) (cgN 0) Be (cOp Aj (Aa 1) (Aa 0)))))
def Cj:n6:=Ef 2 2 K8
def Ht:Ev->XS :=
 (T9
  (K5 (Bq (cOp Av (cOp Av (cUn Hl (Aa 1)) (cUn Hl (Aa 2))) (cUn Hl (Aa 3))) (cgN 4)))
  (T9 (xIf (cOr (Bh (cOp (Cr true) (Gr (Aa 4)) (Gr (Aa 0)))) (A6d (Bh (cUn Aq7 (cLC [none,some 4] (Bl (Aa 0)) (cgN 0) Be (cOp (Cr false) (cMt Qk Kv (Aa 1) (Aa 0)) (cC (.int 1)))))))) (Sq "BadColumns" (Ab (cC (.str "key, names and values are not all the columns, each once")) Ai)) (K5 Dh))
  (xIf (Bh (cOp (Cr false) (Gr (Aa 3)) (cC (.int 0)))) (Sq "BadColumns" (Ab (cC (.str "there is no column of values")) Ai)) (K5 Dh))))
def Cw:w5->XF:=T4 4 5 Ht
def M5:Ev->SR :=
 (cIf (Bh (cUn (A8e true [Str.ofString "seen",Str.ofString "rising"]) (Aa 0))) Ti Dh)
def Gv:n6:=Ef 1 1 M5
def Eh:BF :=
 (Aj8 (Ph (d:=5) (Ci (Ab (cF Cj (Ab (Aa 7) (Ab (cFz (Aa 3)) Ai))) (Ab (cF Cj (Ab (Aa 7) (Ab (cFz (Aa 4)) Ai))) Ai))) (cgN 8))
  (Bd6 (d:=5) (Aa 8) (Aa 6)))
def G6:Ev->SR :=
 (Bg
  (Bq (cF Dg (Ab (Aa 0) (Ab (Aa 1) Ai))) (cgN 3))
  (Bg (Bq (cF Dg (Ab (Aa 0) (Ab (Aa 2) Ai))) (cgN 4))
  (Kg 5 (Ad9 (d:=5) (A1x (cOp Aj (Aa 0) (cC (.int 1)))) (cgT 2 (Aw (cgN 6) (Aw (cgN 7) Cu))) Eh)
  (Df (Aa 5)))))
def Ec:n6:=Ef 3 9 G6
def Ge:BF :=
 (Ak3 (d:=1) (Aa 2) (λ_ _=>(cC (.bool true))))
def J9:Ev->SR :=
 (Kg
  1 (Ad9 (d:=1) (Bl (Aa 0)) (cgN 2) Ge)
  (Df (A1m (Aa 1))))
def Dt:n6:=Ef 1 3 J9
def Ka:Ev->SR :=
 (Df (cF Dt (Ab (cLC [none,none] (Ag1 (Aa 0)) (cgT 2 (Aw (cgN 0) (Aw (cgN 1) Cu))) Be (Aa 0)) Ai)))
def Fp:n6:=Ef 1 1 Ka
def Kf:Ev->SR :=
 (Bg
  (Bq (cF Dt (Ab (cLC [none,none] (Ag1 (Aa 0)) (cgT 2 (Aw (cgN 0) (Aw (cgN 1) Cu))) Be (Aa 1)) Ai)) (cgN 2))
  (Df (Qf (Bh (cOp (Cr false) (Aa 1) (cC (.str "rising")))) Ah7 (Aa 2))))
def Fv:n6:=Ef 2 3 Kf
def Nu:Ev->SR :=
 (Df (cUn Az (cLC [none,some 3,some 2,some 0] (Bl (Aa 1)) (cgN 0) Be (Jh (Aa 2) (Ci (Ab (Aa 3) (Ab (Aa 0) Ai))) (Aa 1)))))
def Gn:n6:=Ef 4 4 Nu
def Mr:Ev->SR :=
 (Df (cUn Az (cLC [none,some 1,some 2,some 3] (Bl (Aa 0)) (cgN 0) Be (cF Gn (Ab (Aa 0) (Ab (Aa 1) (Ab (Aa 2) (Ab (Aa 3) Ai))))))))
def Hs:n6:=Ef 4 4 Mr
def Hb:Ev->SR :=
 (Df (Ba9 (Aa 0) (cF Hs (Ab (Aa 0) (Ab (Aa 1) (Ab (Aa 2) (Ab (cC (.none)) Ai)))))))
def Dw:n6:=Ef 3 3 Hb
def G8:Ev->SR :=
 (Bg
  (Bq (cLC [none] (Aa7 (Aa 0)) (cgN 0) (Bh (cOp Yo (Gr (Aa 0)) (cC (.int 1)))) (Ci (Ab (cOp Aj (Aa 0) (cC (.int 1))) (Ab (cOp Aj (Aa 0) (cC (.int 0))) Ai)))) (cgN 1))
  (cIf (Bh (cOp Yo (Gr (Aa 1)) (cC (.int 0)))) (Bg Ti
  Ti) Dh))
def Eb:n6:=Ef 1 3 G8
def Js:BF :=
 (Ak3 (d:=7) (Aa 8) (λ_ _=>(cF Cj (Ab (cOp Aj (cOp Aj (Aa 0) (cC (.int 1))) (cOp Aj (Aa 9) (cC (.int 0)))) (Ab (cFz (Aa 6)) Ai)))))
def O2:Ev->XS :=
 (T9
  (Ae1 Cw (Ab (cOp Aj (Aa 0) (cC (.int 0))) (Ab (Aa 1) (Ab (Aa 2) (Ab (Aa 3) Ai)))))
  (T9 (K5 (Fq (cF Gv (Ab (Aa 4) Ai))))
  (T9 (K5 (Bq (cF Ec (Ab (Aa 0) (Ab (Aa 1) (Ab (Aa 2) Ai)))) (cgN 5)))
  (T9 (K5 (Fq (cF Eb (Ab (Aa 5) Ai))))
  (T9 (K5 (Bq (cF Dg (Ab (Aa 0) (Ab (Aa 3) Ai))) (cgN 6)))
  (K5 (Kg 7 (Ad9 (d:=7) (Vd (Aa 5)) (cgT 2 (Aw (cgN 8) (Aw (cgN 9) Cu))) Js)
  (Bg (Bq (cF Fv (Ab (Aa 5) (Ab (Aa 4) Ai))) (cgN 10))
  (Bg (Bq (cF Dw (Ab (cF Fp (Ab (Aa 5) Ai)) (Ab (Aa 10) (Ab (Aa 7) Ai)))) (cgN 11))
  (Df (Ci (Ab (cUn Az (Aa 1)) (Ab (cUn Az (Aa 2)) (Ab (cUn Az (Aa 3)) (Ab (Aa 10) (Ab (Aa 11) Ai))))))))))))))))
def Hj:w5->XF:=T4 5 12 O2
def Mv:Ev->SR :=
 (Bg
  (Bq (Ds Ai) (cgN 1))
  (Bg (Lw (Bl (cOp Aj (Aa 0) (cC (.int 4)))) (cgT 2 (Aw (cgN 2) (Aw (cgN 3) Cu))) (Fq (A3t (Aa 1) (cLC [none,none,some 2] (U4 (cOp Aj (Aa 0) (cC (.int 3))) (Aa 3)) (cgT 2 (Aw (cgN 0) (Aw (cgN 1) Cu))) Be (Ci (Ab (Aa 2) (Ab (Aa 0) (Ab (Aa 1) Ai))))))))
  (Df (Aa 1))))
def Es:n6:=Ef 1 4 Mv
def Nz:Ev->SR :=
 (Bg
  (Bq (cLC [none,none,none] (Bl (cF Es (Ab (Aa 0) Ai))) (cgT 3 (Aw (cgN 0) (Aw (cgN 1) (Aw (cgN 2) Cu)))) (Bh (cOp (Io true) (Aa 2) (cC (.none)))) (cOp Av (cOp Av (Aa 0) (Aa 1)) (Aa 2))) (cgN 1))
  (Df (Ci (Ab (cOp Av (cOp Av (cOp Aj (Aa 0) (cC (.int 0))) (cOp Aj (Aa 0) (cC (.int 1)))) (cOp Aj (Aa 0) (cC (.int 2)))) (Ab (cUn Az (Aa 1)) Ai)))))
def Gh:n6:=Ef 1 2 Nz
def Ot:Ev->XS :=
 (A1y Hj (Ab (cF Gh (Ab (Aa 0) Ai)) (Ab (Aa 1) (Ab (Aa 2) (Ab (cOp Aj (Aa 0) (cC (.int 2))) (Ab (cC (.str "seen")) Ai))))))
def Dy:w5->XF:=T4 3 3 Ot
def Iw:Ev->SR :=
 (Bg
  (cIf (Bh (cOp Ro (Aa 1) (Gr (Aa 0)))) (Df (B0t (Aa 0) (Aa 1))) Dh)
  (Df (cC (.int 0))))
def Fb:n6:=Ef 2 2 Iw
def Wr:Ev->SR :=
 (Bg
  (Bq (cF Fb (Ab (Aa 0) (Ab (Aa 1) Ai))) (cgN 2))
  (Df (Ds (Ab (cOp Lx (cUn A1g (Aa 2)) (cUn Uq (cOp B0r (cUn A1g (Aa 2)) (cOp Ue (cC (.int 10)) (cC (.int 18)))))) (Ab (cOp Av (cOp Av (cOp Rh (Aa 2) (cC (.int 2305843009213693951))) (cOp Lx (cC (.int 39373)) (Aa 1))) (cC (.int 17))) (Ab (cC (.int 0)) Ai))))))
def Mz:n6:=Ef 2 3 Wr
def Oc:Ev->SR :=
 (Bg
  (cIf (Bh (cOp Yo (cOp Aj (Aa 0) (cC (.int 0))) (cC (.int 0)))) (Bg (Bq (cOp Rh (cOp Aj (Aa 0) (cC (.int 0))) (Aa 1)) (cgN 2))
  (Bg (Bq (cOp Ac7 (cOp Aj (Aa 0) (cC (.int 0))) (Aa 1)) (A1h (Aa 0) (cC (.int 0))))
  (Df (Aa 2)))) Dh)
  (Bg (Bq (cOp Av (cOp Aj (Aa 0) (cC (.int 2))) (cC (.int 1))) (A1h (Aa 0) (cC (.int 2))))
  (Bg (Bq (cOp Rh (cOp Lx (cOp Av (cOp Aj (Aa 0) (cC (.int 1))) (cOp Lx (cC (.int 48271)) (cOp Aj (Aa 0) (cC (.int 2))))) (cOp Av (cC (.int 39373)) (cOp Aj (Aa 0) (cC (.int 2))))) (cC (.int 2147483647))) (cgN 3))
  (Bg (Bq (cOp Rh (cOp Lx (cOp Av (Aa 3) (cOp Aj (Aa 0) (cC (.int 2)))) (cOp Av (cOp Rh (Aa 3) (cC (.int 40009))) (cC (.int 7)))) (cC (.int 2147483629))) (cgN 4))
  (Df (cOp Rh (cOp Ac7 (cOp Rh (cOp Av (cOp Lx (Aa 4) (cC (.int 48271))) (Aa 3)) (cC (.int 2147483587))) (cC (.int 64))) (Aa 1)))))))
def Al:n6:=Ef 2 5 Oc
def Ob:Ev->SR :=
 (Bg
  (cIf (Bh (cOp (Cr false) (cF Al (Ab (Aa 0) (Ab (cC (.int 8)) Ai))) (cC (.int 0)))) (Df (cOp Av (cC (.int 7)) (cF Al (Ab (Aa 0) (Ab (cOp O9 (Aa 3) (cC (.int 6))) Ai))))) Dh)
  (Df (cOp Av (Aa 1) (cF Al (Ab (Aa 0) (Ab (cOp Av (cOp O9 (Aa 2) (Aa 1)) (cC (.int 1))) Ai))))))
def Hd:n6:=Ef 4 4 Ob
def Qa:Ev->SR :=
 (Bg
  (Bq (Ds (cK [.str "b",.str "a",.str "year",.str "z",.str "ab",.str "month",.str "aa",.str "quantity",.str "c",.str "town",.str "zz",.str "ba"])) (cgN 2))
  (Df (cLC [none,some 2,some 0] (Im (Aa 1)) (cgN 0) Be (Np (Aa 1) (cF Al (Ab (Aa 2) (Ab (Gr (Aa 1)) Ai)))))))
def G7:n6:=Ef 2 3 Qa
def Hi:Ev->SR :=
 (Bg
  (Bq (cF Al (Ab (Aa 0) (Ab (cC (.int 9)) Ai))) (cgN 1))
  (Bg (cIf (Bh (cOp Ro (Aa 1) (cC (.int 4)))) (Df (cOp O9 (cF Al (Ab (Aa 0) (Ab (cC (.int 13)) Ai))) (cC (.int 3)))) Dh)
  (Bg (cIf (Bh (cOp (Cr false) (Aa 1) (cC (.int 4)))) (Df (cOp Aj (Ds (Ab (cOp O9 (cOp Ue (cC (.int 10)) (cC (.int 12))) (cC (.int 1))) (Ab (cOp O9 (cC (.int 0)) (cOp Ue (cC (.int 10)) (cC (.int 11)))) (Ab (cC (.int 100)) (Ab (cC (.int 10)) Ai))))) (cF Al (Ab (Aa 0) (Ab (cC (.int 4)) Ai))))) Dh)
  (Bg (cIf (Bh (cOp (Cr false) (Aa 1) (cC (.int 5)))) (Df (cC (.none))) Dh)
  (Df (cOp Aj (Ds (cK [.str "",.str "a",.str "b",.str "B",.str "10",.str "9",.str "-",.str "a b",.str "it's",.str "\\",.str "/",.str "_",.str ":",.str "None",.str "ab"])) (cF Al (Ab (Aa 0) (Ab (cC (.int 15)) Ai)))))))))
def Br:n6:=Ef 1 2 Hi
def Jw:Ev->SR :=
 (Bg
  (cIf (Bh (cOp (Cr false) (cF Al (Ab (Aa 0) (Ab (cC (.int 9)) Ai))) (cC (.int 0)))) (Df (cOp Aj (Ds (Ab (cOp O9 (cOp Ue (cC (.int 10)) (cC (.int 12))) (cC (.int 1))) (Ab (cOp O9 (cC (.int 1)) (cOp Ue (cC (.int 10)) (cC (.int 12)))) (Ab (cOp Ue (cC (.int 10)) (cC (.int 11))) (Ab (cC (.int 0)) Ai))))) (cF Al (Ab (Aa 0) (Ab (cC (.int 4)) Ai))))) Dh)
  (Df (cOp O9 (cF Al (Ab (Aa 0) (Ab (cC (.int 25)) Ai))) (cC (.int 7)))))
def Cm:n6:=Ef 1 1 Jw
def Sw:Ev->SR :=
 (Bg
  (Bq (Ds Ai) (cgN 2))
  (Bg (Lw (Im (Aa 1)) (cgN 3) (Bg (Bq (cF Br (Ab (Aa 0) Ai)) (cgN 4))
  (cIf (Bh (cOp (Pk true) (Aa 4) (Aa 2))) (Fq (Pz (Aa 2) (Aa 4))) Dh)))
  (Df (Aa 2))))
def Ja:n6:=Ef 2 5 Sw
def Ny:Ev->SR :=
 (Bg
  (Bq (cF Ja (Ab (Aa 0) (Ab (cC (.int 6)) Ai))) (cgN 3))
  (Bg (Bq (Ds Ai) (cgN 4))
  (Bg (Lw (Im (Aa 2)) (cgN 5) (Bg (Bq (cUn Az (cLC [none,some 3,some 0] (Im (Aa 1)) (cgN 0) Be (cOp Aj (Aa 1) (cF Al (Ab (Aa 2) (Ab (Gr (Aa 1)) Ai)))))) (cgN 6))
  (cIf (Bh (cOp (Pk true) (Aa 6) (Aa 4))) (Fq (Pz (Aa 4) (Aa 6))) Dh)))
  (Df (Aa 4)))))
def Gm:n6:=Ef 3 7 Ny
def Oz:Ev->SR :=
 (Bg
  (Bq (cF G7 (Ab (Aa 0) (Ab (cC (.int 9)) Ai))) (cgN 2))
  (Bg (Be2 3 4 5 (Ab (cF Al (Ab (Aa 0) (Ab (cC (.int 3)) Ai))) (Ab (cF Al (Ab (Aa 0) (Ab (cC (.int 3)) Ai))) (Ab (cOp Av (cC (.int 1)) (cF Al (Ab (Aa 0) (Ab (cC (.int 2)) Ai)))) Ai))))
  (Bg (cIf (Bh (cOp (Cr false) (cF Al (Ab (Aa 0) (Ab (cC (.int 8)) Ai))) (cC (.int 0)))) (Bq (cOp Av (cC (.int 3)) (cF Al (Ab (Aa 0) (Ab (cC (.int 3)) Ai)))) (cgN 5)) Dh)
  (Bg (B1y 6 7 (Ab (cSl G3 (Aa 2) cON (cOS (Aa 3))) (Ab (cSl G3 (Aa 2) (cOS (Aa 3)) (cOS (cOp Av (Aa 3) (Aa 4)))) Ai)))
  (Bg (Bq (cSl G3 (Aa 2) (cOS (cOp Av (Aa 3) (Aa 4))) (cOS (cOp Av (cOp Av (Aa 3) (Aa 4)) (Aa 5)))) (cgN 8))
  (Bg (Bq (cF Gm (Ab (Aa 0) (Ab (Aa 4) (Ab (cF Hd (Ab (Aa 0) (Ab (cC (.int 0)) (Ab (cC (.int 5)) (Ab (cC (.int 12)) Ai))))) Ai)))) (cgN 9))
  (Bg (Bq (cOp Aj (Ds (Ab (cC (.int 9)) (Ab (cC (.int 2)) (Ab (cC (.int 3)) Ai)))) (cF Al (Ab (Aa 0) (Ab (cC (.int 3)) Ai)))) (cgN 10))
  (Bg (Bq (Ds Ai) (cgN 11))
  (Bg (Lw (Bl (cF Gm (Ab (Aa 0) (Ab (Aa 3) (Ab (cF Hd (Ab (Aa 0) (Ab (cC (.int 0)) (Ab (cC (.int 5)) (Ab (cC (.int 12)) Ai))))) Ai))))) (cgN 12) (Bg (Bq (Ds Ai) (cgN 13))
  (Bg (Lw (Bl (Aa 9)) (cgN 14) (Bg (Bq (cUn Az (cLC [none,some 1,some 0] (Bl (Aa 8)) (cgN 0) Be (Qf (Bh (Aa 1)) (cF Cm (Ab (Aa 2) Ai)) (cF Br (Ab (Aa 2) Ai))))) (cgN 15))
  (Fq (Pz (Aa 13) (Qf (Bh (cOp (Cr false) (cF Al (Ab (Aa 0) (Ab (Aa 10) Ai))) (cC (.int 0)))) (cC (.none)) (Aa 15))))))
  (Fq (Pz (Aa 11) (Ci (Ab (Aa 12) (Ab (cUn Az (Aa 13)) Ai))))))))
  (Df (Ci (Ab (cUn Az (Aa 6)) (Ab (cUn Az (Aa 7)) (Ab (cUn Az (Aa 8)) (Ab (cUn Az (Aa 9)) (Ab (cUn Az (Aa 11)) Ai))))))))))))))))
def Km:n6:=Ef 2 16 Oz
def Gj (pr:n6):Ev->SR :=
 (Bg
  (cIf (Bh (cUn (Qm .list .tuple) (Aa 1))) (Bg (cIf (cOr (Bh (cOp (Cr true) (cUn (Hy .list) (Aa 0)) (cUn (Hy .list) (Aa 1)))) (Bh (cOp (Cr true) (cUn (Hy .tuple) (Aa 0)) (cUn (Hy .tuple) (Aa 1))))) (Df (cC (.bool false))) Dh)
  (Df (Wm (cOp (Cr false) (Gr (Aa 0)) (Gr (Aa 1))) (cUn Aq7 (cLC [none,none] (U4 (Aa 0) (Aa 1)) (cgT 2 (Aw (cgN 0) (Aw (cgN 1) Cu))) Be (cF pr (Ab (Aa 0) (Ab (Aa 1) Ai)))))))) Dh)
  (Bg (cIf (cOr (Bh (cOp (Io false) (Aa 1) (cC (.none)))) (Bh (cUn (Hy .str) (Aa 1)))) (Df (Wm (cOp (Cr false) (Aa 0) (Aa 1)) (cOp (Cr false) (cUn (Hy .str) (Aa 0)) (cUn (Hy .str) (Aa 1))))) Dh)
  (Bg (cIf (Bh (cUn (Hy .bool) (Aa 1))) (Df (Wm (cUn (Hy .bool) (Aa 0)) (cOp (Cr false) (Aa 0) (Aa 1)))) Dh)
  (Df (Wm (cUn (Hy .int) (Aa 0)) (Wm (Bc6 (cUn (Hy .bool) (Aa 0))) (cOp (Cr false) (Aa 0) (Aa 1))))))))
def Bu:Nat->List O->FR
 | 0=>λ_=>.bad
 | k+1=>Ef 2 2 (Gj (Bu k))
def Ol:Ev->SR :=
 (Bg
  (Bq (Ds Ai) (cgN 1))
  (Bg (Lw (Bl (cOp Aj (Aa 0) (cC (.int 4)))) (cgT 2 (Aw (cgN 2) (Aw (cgN 3) Cu))) (Fq (A3t (Aa 1) (cLC [none,none,some 2] (U4 (cOp Aj (Aa 0) (cC (.int 3))) (Aa 3)) (cgT 2 (Aw (cgN 0) (Aw (cgN 1) Cu))) (Bh (cOp (Io true) (Aa 1) (cC (.none)))) (cOp Av (cOp Av (Aa 2) (Aa 0)) (Aa 1))))))
  (Df (Ci (Ab (cOp Av (cOp Av (cOp Aj (Aa 0) (cC (.int 0))) (cOp Aj (Aa 0) (cC (.int 1)))) (cOp Aj (Aa 0) (cC (.int 2)))) (Ab (Aa 1) Ai))))))
def Jb:n6:=Ef 1 4 Ol
def Dz:BF :=
 (Aj8 (Ph (d:=8) (cLC [none,some 9] (Bl (Aa 5)) (cgN 0) Be (cUn Az (cLC [none,some 1] (Bl (Aa 0)) (cgN 0) Be (cOp Aj (Aa 1) (Aa 0))))) (cgL 3 (Aw (cgN 10) (Aw (cgN 11) (Aw (cgN 12) Cu)))))
  (Aj8 (Ph (d:=8) (cOp Av (Aa 6) (cOp Qd (Ds (Ab (Aa 10) Ai)) (cUn Uq (cOp (Pk true) (Aa 10) (Aa 6))))) (cgN 6))
  (Aj8 (Ph (d:=8) (cOp Av (Aa 7) (cOp Qd (Ds (Ab (Aa 11) Ai)) (cUn Uq (cOp (Pk true) (Aa 11) (Aa 7))))) (cgN 7))
  (Ak3 (d:=8) (Ci (Ab (Aa 10) (Ab (Aa 11) Ai))) (λ_ _=>(Aa 12))))))
def A5h:Ev->SR :=
 (Bg
  (Bq (cLC [none,some 0] (Bl (Ci (Ab (Aa 2) (Ab (Aa 3) (Ab (Aa 4) Ai))))) (cgN 0) Be (cLC [none,some 1] (Bl (Aa 0)) (cgN 0) Be (cMt Qc Ls (Aa 1) (Aa 0)))) (cgN 5))
  (Bg (Bq (Ds Ai) (cgN 6)) (Bg (Bq (Ds Ai) (cgN 7)) (Kg 8 (Ad9 (d:=8) (Bl (Aa 1)) (cgN 9) Dz)
  (Bg (Bq (cLC [none,some 7,some 8] (Bq7 7 (Bl (Aa 6))) (cgN 0) Be (Ci (Ab (Aa 0) (Ab (cUn Az (cLC [none,some 2,some 0] (Bl (Aa 1)) (cgN 0) Be (Jh (Aa 1) (Ci (Ab (Aa 2) (Ab (Aa 0) Ai))) (cC .none)))) Ai)))) (cgN 1))
  (Df (Ci (Ab (cUn Az (Aa 2)) (Ab (cUn Az (Aa 3)) (Ab (cUn Az (Aa 4)) (Ab (cUn Az (Aa 7)) (Ab (cUn Az (Aa 1)) Ai))))))))))))
def K3:n6:=Ef 5 13 A5h
def A3m:Ev->SR :=
 (Bg
  (cIf (Bh (Bc8 (Aa 1))) (Df (Aa 0)) Dh)
  (Bg (Bq (Ds (Ab (R9 [("BadColumns",true)] (Aa 1)) (Ab (R9 [("BadColumns",false)] (Aa 1)) (Ab (R9 [("BadColumns",false)] (Aa 1)) Ai)))) (cgN 3))
  (Bg (Fq (Pz (Aa 3) (R9 [("BadColumns",false)] (Aa 1))))
  (Bg (Bq (R9 [("BadColumns",false)] (Aa 1)) (cgN 4))
  (Bg (cIf (cOr (Bh (Aa 4)) (cOr (A6d (Bh (R9 [("BadColumns",true)] (Aa 1)))) (Bh (cOp (Cr true) (Gr (cLC [none] (Bl (Aa 3)) (cgN 0) (Bh (Aa 0)) (Aa 0))) (cC (.int 1)))))) (Df (Ci (Ab (cC (.str "refused")) (Ab (cUn Um (cC (.int 1))) (Ab (cC (.none)) Ai))))) Dh)
  (Df (Ci (Ab (cC (.str "refused")) (Ab (cMt Qk Wg (Aa 3) (cC (.bool true))) (Ab (Qf (Bh (cOp Aj (Aa 3) (cC (.int 1)))) Ah7 (cC (.none))) Ai))))))))))
def Hm:n6:=Ef 2 5 A3m
def Ez:Ev->SR :=
 (Bg
  (Bq (cUn Hl (cOp Av (cOp Aj (Aa 1) (cC (.int 0))) (cOp Aj (Aa 1) (cC (.int 1))))) (cgN 2))
  (Bg (Bq (cLC [none,some 2,some 0] (Bl (cOp Av (cOp Aj (Aa 1) (cC (.int 0))) (cOp Aj (Aa 1) (cC (.int 1))))) (cgN 0) Be (Np (Aa 1) (cF Al (Ab (Aa 2) (Ab (Gr (Aa 1)) Ai))))) (cgN 3))
  (Bg (Bq (cF Al (Ab (Aa 0) (Ab (cOp Av (Gr (Aa 3)) (cC (.int 1))) Ai))) (cgN 4))
  (Df (Ci (Ab (cSl G3 (Aa 3) cON (cOS (Aa 4))) (Ab (cSl G3 (Aa 3) (cOS (Aa 4)) cON) Ai)))))))
def Ex:n6:=Ef 2 5 Ez
def J4:Ev->SR :=
 (Bg
  (Bq (cOp Aj (Ds (Ab (cOp Aj (cOp Aj (Aa 1) (cC (.int 2))) (cC (.int 0))) (Ab (cC (.str "no")) (Ab (cC (.str "")) (Ab (cC (.str "A")) Ai))))) (cF Al (Ab (Aa 0) (Ab (cC (.int 4)) Ai)))) (cgN 4))
  (Bg (Bq (Ds (Ab (Ci (Ab (cOp Av (Aa 2) (Ds (Ab (Aa 4) Ai))) (Ab (Aa 3) Ai))) (Ab (Ci (Ab (Aa 2) (Ab (cOp Av (Ds (Ab (Aa 4) Ai)) (Aa 3)) Ai))) (Ab (Ci (Ab (cOp Av (cOp Av (Aa 2) (Aa 2)) (Aa 3)) (Ab (Aa 3) Ai))) (Ab (Ci (Ab (Aa 2) (Ab (cOp Av (cOp Av (Aa 3) (Aa 2)) (Aa 3)) Ai))) Ai))))) (cgN 5))
  (Bg (cIf (Bh (cOp Yo (Gr (Aa 2)) (cC (.int 0)))) (Bg (Bq (cOp Av (Aa 5) (Ds (Ab (Ci (Ab (cSl G3 (Aa 2) (cOS (cC (.int 1))) cON) (Ab (Aa 3) Ai))) (Ab (Ci (Ab (Aa 2) (Ab (cOp Av (Aa 3) (cSl G3 (Aa 2) cON (cOS (cC (.int 1))))) Ai))) (Ab (Ci (Ab (cOp Av (Ds (Ab (Aa 4) Ai)) (cSl G3 (Aa 2) (cOS (cC (.int 1))) cON)) (Ab (Aa 3) Ai))) Ai))))) (cgN 5))
  (Fq (Pz (Aa 5) (Ci (Ab (cOp Av (cSl G3 (Aa 2) cON (cOS (cUn Um (cC (.int 1))))) (Ds (Ab (Aa 4) Ai))) (Ab (Aa 3) Ai)))))) Dh)
  (Bg (cIf (Bh (cOp Yo (Gr (Aa 3)) (cC (.int 0)))) (Bq (cOp Av (Aa 5) (Ds (Ab (Ci (Ab (Aa 2) (Ab (cSl G3 (Aa 3) (cOS (cC (.int 1))) cON) Ai))) (Ab (Ci (Ab (cOp Av (Aa 2) (cSl G3 (Aa 3) cON (cOS (cC (.int 1))))) (Ab (Aa 3) Ai))) (Ab (Ci (Ab (Aa 2) (Ab (cOp Av (cSl G3 (Aa 3) cON (cOS (cUn Um (cC (.int 1))))) (Ds (Ab (Aa 4) Ai))) Ai))) Ai))))) (cgN 5)) Dh)
  (Bg (Bq (cLC [none,some 1] (Bl (Aa 5)) (cgN 0) (Bh (cOp (Cr true) (cUn Ju (cOp Av (cOp Aj (Aa 0) (cC (.int 0))) (cOp Aj (Aa 0) (cC (.int 1))))) (cUn Ju (cOp Av (cOp Aj (Aa 1) (cC (.int 0))) (cOp Aj (Aa 1) (cC (.int 1))))))) (Aa 0)) (cgN 5))
  (Df (cOp Aj (Aa 5) (cF Al (Ab (Aa 0) (Ab (Gr (Aa 5)) Ai))))))))))
def J1:n6:=Ef 4 6 J4
def Jk:Ev->SR :=
 (cIf (cOr (A6d (Bh (cF (Bu 9) (Ab (cFY Dy (Ab (Aa 3) (Ab (cOp Aj (Aa 10) (cC (.int 0))) (Ab (cOp Aj (Aa 10) (cC (.int 1))) Ai)))) (Ab (Aa 9) Ai))))) (Bh (cOp (Cr true) (cUn Y9 (Ds (Ab (Aa 3) (Ab (Aa 10) Ai)))) (Aa 11)))) (Df (cC (.bool false))) Dh)
def Kr:Ev->SR :=
 (Bg
  (Bq (cF Ex (Ab (Aa 2) (Ab (Aa 3) Ai))) (cgT 2 (Aw (cgN 7) (Aw (cgN 8) Cu))))
  (Bg (Bq (cF K3 (Ab (Aa 4) (Ab (Aa 5) (Ab (Aa 7) (Ab (Aa 8) (Ab (cOp Aj (Aa 3) (cC (.int 2))) Ai)))))) (cgN 9))
  (Bg (Bq (cOp Aj (Ds (Ab (Ci (Ab (cUn Hl (Aa 7)) (Ab (cUn Hl (Aa 8)) Ai))) (Ab (Ci (Ab (cUn Az (Aa 7)) (Ab (cUn Az (Aa 8)) Ai))) Ai))) (cF Al (Ab (Aa 2) (Ab (cC (.int 2)) Ai)))) (cgN 10))
  (Bg (Bq (cUn Y9 (Ds (Ab (Aa 3) (Ab (Aa 10) Ai)))) (cgN 11))
  (Bg (Lw (Im (cC (.int 2))) (cgN 12) Jk)
  (Bg (Bq (cF J1 (Ab (Aa 2) (Ab (Aa 3) (Ab (Aa 7) (Ab (Aa 8) Ai))))) (cgN 13))
  (cIf (A6d (Bh (cF (Bu 9) (Ab (A4k Dy Hm ["BadColumns"] (Ab (Aa 3) (Ab (cOp Aj (Aa 13) (cC (.int 0))) (Ab (cOp Aj (Aa 13) (cC (.int 1))) Ai)))) (Ab (Ci (Ab (cC (.str "refused")) (Ab (cC (.int 0)) (Ab (cC (.none)) Ai)))) Ai))))) (Df (cC (.bool false))) Dh)))))))
def Rq:Ev->SR :=
 (Bg
  (Bq (cF Mz (Ab (Aa 0) (Ab (Aa 1) Ai))) (cgN 2))
  (Bg (Bq (cF Km (Ab (Aa 2) (Ab (cC (.bool false)) Ai))) (cgN 3))
  (Bg (Bq (cF Jb (Ab (Aa 3) Ai)) (cgT 2 (Aw (cgN 4) (Aw (cgN 5) Cu))))
  (Lw (Im (cC (.int 3))) (cgN 6) Kr))))
def B1x:Ev->SR :=
 (Bg
  (Lw (Im (cOp Av (cC (.int 1)) (cOp Au1 (cC (.int 3)) (Gr (Aa 0))))) (cgN 1) Rq)
  (Df (cC (.bool true))))
def Ax5:n6:=Ef 1 14 B1x
abbrev sI (x:PyData):Option O:=some (.im x)
abbrev sT (x:List PyData):Option O:=some (.ls true x)
abbrev sF (x:List PyData):Option O:=some (.ls false x)
local macro_rules | `(tactic| wp_walk using $ts,*)=>`(tactic| simp only [sI,sT,sF,Bg,Bq,cgN,cgT,Aw,Cu,Aa,cC,cOp,cUn,Gr,cF,cFz,jr,Xh,An0,slots,pairsOf,ndB,G4,Ai,Ab,cK,nrm,Du,A8z,rdP,O.dat,O.flag,O.bor,frz,frzs,Ci,Ds,cIf,Bh,Be,cOr,A6d,Wm,Bc6,Qf,Df,Fq,Dh,Ti,Pz,slL,Np,A3t,A1h,B1y,Be2,cSl,cON,cOS,Im,cIn,R.bind_ok,R.toS_ok,Ef,A5x,resolve,Hw,Ab1,U.opI,U.Yl,Yo,B0r,O9,Ac7,Rh,Ue,Rw,Mi,B0t,List.getElem?_cons_zero,dw,List.set_cons_zero,List.set_cons_succ,aF,cQ,bM,List.length_nil,List.replicate,List.cons_append,dC,cA,List.contains_nil,gh,Option.map_none,gb,Option.join_some,Option.isSome_some,c7,bj,Bool.not_true,Bool.not_false,Bool.and_true,Bool.true_and,Bool.and_false,Bool.false_and,Bool.or_true,Bool.or_false,Bool.true_or,Bool.false_or,dz,List.dropLast,List.any_nil,List.flatMap_nil,ite_true,ite_false,decide_true,decide_false,reduceCtorEq,B5b,B3e,B3b,B4p,B3f,By4,B1c,B1b,U.A6e,aO,Nat.reduceAdd,Nat.reduceSub,Nat.reduceLeDiff,Nat.reduceLT,Nat.reduceEqDiff,Int.reduceAdd,Int.reduceSub,Int.reduceNeg,Int.reduceLT,Int.reduceLE,Int.reducePow,Int.reduceToNat,Int.reduceMul,and_self,and_true,bC,bV,jj,K5,T9,xIf,Sq,B1s,Bt6,Q5,Nm,T4,R9,Bc8,A4k,cMt,Qk,$[$ts:term],*])
def Bx (n:Nat)(ds:w5):Prop:=∃x y z:Int,ds=[.int x,.int y,.int z]/\0<=x/\0<=y/\y<2 ^ 62/\0<=z/\z<=n
theorem Bx.mono (h:Bx n ds) (l:n<=m):Bx m ds:=by
 obtain⟨x,y,z,e,b,c,a,d,f⟩:=h
 exact⟨x,y,z,e,b,c,a,d,by lia⟩
theorem mod_lt {x m:Int}(h:0<m):0<=x % m/\x % m<m:=⟨Int.emod_nonneg _ (by lia),Int.emod_lt_of_pos _ h⟩
theorem A8c (h:-(2 ^ 64)<i/\i<2 ^ 64):W9 i j=true:=by
 unfold W9;grind
theorem Ac0 (h:-(2 ^ 64)<j/\j<2 ^ 64):W9 i j=true:=by
 unfold W9;grind
theorem Ay2 (h:0<j):A8l i j=true:=aR h
theorem B2z (h:0<j/\j<1073741824):A2j i j=true:=by
 unfold A2j;grind
theorem B4c:Aq4 10 18=true:=by rfl
theorem Bu0:Aq4 10 12=true:=by rfl
theorem Bu6:Aq4 10 11=true:=by rfl
theorem Cd (hb:Bx n ds) (hn:n<2 ^ 40) (a:0<m) (h1:m<16000000) :
 ∃r ds',Bx (n+1) ds'/\0<=r/\r<m/\Al [.ls true ds,.im (.int m)]=.ret (.im (.int r)) [.ls true ds',.im (.int m)]:=by
 obtain⟨x,y,z,rfl,d,e,b,g,z1⟩:=hb
 by_cases c:0<x
 ·refine⟨x % m,[.int (x / m),.int y,.int z],⟨_,_,_,rfl,Int.ediv_nonneg d (by lia),e,b,g,by lia⟩,(mod_lt a).1,(mod_lt a).2,?_⟩
  wp_walk using Al,Oc,Aj,aR c,Ay2 a,B2z ⟨a,(by lia:m<1073741824)⟩
 ·have h:=mod_lt (x:=(y+48271*(z+1))*(39373+(z+1))) (m:=2147483647) (by decide)
  generalize e1:(y+48271*(z+1))*(39373+(z+1)) % 2147483647=once at h
  have g2:=mod_lt (x:=once) (m:=40009) (by decide)
  have f:=mod_lt (x:=(once+(z+1))*(once % 40009+7)) (m:=2147483629) (by decide)
  generalize e2:(once+(z+1))*(once % 40009+7) % 2147483629=twice at f
  refine⟨(twice*48271+once) % 2147483587 / 64 % m,[.int x,.int y,.int (z+1)],⟨_,_,_,rfl,d,e,b,by lia,by lia⟩,(mod_lt a).1,(mod_lt a).2,?_⟩
  wp_walk using Al,Oc,Aj,Lx,Av,bw c,Ay2 a,B2z (i:=(twice*48271+once) % 2147483587) (j:=64) ⟨by decide,by decide⟩,A8c (i:=48271) (j:=z+1) ⟨by decide,by decide⟩,Ac0 (i:=y+48271*(z+1)) (j:=39373+(z+1)) ⟨by lia,by lia⟩,Ay2 (i:=(y+48271*(z+1))*(39373+(z+1))) (j:=2147483647) (by decide),e1,Ay2 (i:=once) (j:=40009) (by decide),Ac0 (i:=once+(z+1)) (j:=once % 40009+7) ⟨by lia,by lia⟩,Ay2 (i:=(once+(z+1))*(once % 40009+7)) (j:=2147483629) (by decide),e2,Ac0 _,Ay2 (j:=2147483587) (by decide)
theorem Ax0 {k:Nat}:∃i:Int,Fb [.sc ns,.im (.int k)]=.ret (.im (.int i)) [.sc ns,.im (.int k)]:=by
 by_cases c:k<ns.length
 ·refine⟨ns[k],?_⟩
  have e:atI ns (k:Int)=some ns[k]:=Gz (bu c)
  wp_walk using Fb,Iw,Ro,Cq,PyData.canLay0,PyData.depth,Yw,aR (show (k:Int)<ns.length by lia),e,aM
 ·refine⟨0,?_⟩
  wp_walk using Fb,Iw,Ro,Cq,PyData.canLay0,PyData.depth,Yw,bw (show ¬ (k:Int)<ns.length by lia),aM
theorem B0g {k:Nat}(hk:k<=63):∃ds,Bx 0 ds/\Mz [.sc ns,.im (.int k)]=.ret (.ls false ds) [.sc ns,.im (.int k)]:=by
 obtain⟨i,e⟩:=Ax0 (ns:=ns) (k:=k)
 have a:(0:Int)<=(if i<0 then -i else i):=by grind
 have c:=mod_lt (x:=i) (m:=2305843009213693951) (by decide)
 generalize ea:(if i<0 then -i else i)=ab at a
 have b:(0:Int)<=(if decide ((1000000000000000000:Int)<=ab)=true then 1 else 0)/\(if decide ((1000000000000000000:Int)<=ab)=true then (1:Int) else 0)<=1:=by lia
 generalize eo:(if decide ((1000000000000000000:Int)<=ab)=true then (1:Int) else 0)=on at b
 refine⟨[.int _,.int (i % 2305843009213693951+39373*k+17),.int 0],⟨_,_,_,rfl,Int.mul_nonneg a b.1,by lia,by lia,by lia,by lia⟩,?_⟩
 wp_walk using Mz,Wr,e,A1g,ea,Uq,Lx,Av,eo,B4c,Ay2 (j:=2305843009213693951) (by decide),Ac0 (j:=on) ⟨by lia,by lia⟩,A8c _
theorem A0j (hb:Bx n ds) (hn:n<2 ^ 39) (j:0<=l) (h1:l<=7) (h2:l<=f) (t:f<=m) (o:7<=m) (p:m<1000) :
 ∃r ds',Bx (n+2) ds'/\l<=r/\r<=m/\Hd [.ls true ds,.im (.int l),.im (.int f),.im (.int m)]=.ret (.im (.int r)) [.ls true ds',.im (.int l),.im (.int f),.im (.int m)]:=by
 obtain⟨r,s,g,u,k,e⟩:=Cd (m:=8) hb (by lia) (by decide) (by decide)
 by_cases c:r=0
 ·subst c
  obtain⟨q,a,d,h,i,b⟩:=Cd (m:=m-6) g (by lia) (by lia) (by lia)
  refine⟨7+q,a,d,by lia,by lia,?_⟩
  wp_walk using Hd,Ob,e,b,Cr,Cq,PyData.canLay0,PyData.depth,PyData.eqv,Av,aM,cD
 ·obtain⟨q,a,d,h,i,b⟩:=Cd (m:=f-l+1) g (by lia) (by lia) (by lia)
  refine⟨l+q,a,d,by lia,by lia,?_⟩
  wp_walk using Hd,Ob,e,b,Cr,Cq,PyData.canLay0,PyData.depth,PyData.eqv,Av,aM,cU.mpr c
theorem A3v (hb:Bx n ds) (hn:n<2 ^ 39):∃(i:Int) (ds':w5),Bx (n+2) ds'/\VB (.int i)/\Cm [.ls true ds]=.ret (.im (.int i)) [.ls true ds']:=by
 obtain⟨r,d1,k,r0,r1,j⟩:=Cd (m:=9) hb (by lia) (by decide) (by decide)
 by_cases c:r=0
 ·subst c
  obtain⟨q,b,e,f,h,a⟩:=Cd (m:=4) k (by lia) (by decide) (by decide)
  obtain⟨d,s,g,_⟩:=Xb (l:=[PyData.int 999999999999,.int (-999999999999),.int 100000000000,.int 0]) (r:=q) f h
  have p:∃i:Int,d=.int i/\VB (.int i):=by
   simp only[aB,a_,bc]at g
   rcases g with rfl | rfl | rfl | rfl <;> exact⟨_,rfl,by decide⟩
  obtain⟨i,rfl,o⟩:=p
  refine⟨i,b,e,o,?_⟩
  wp_walk using Cm,Jw,j,a,Cr,Cq,PyData.canLay0,PyData.depth,PyData.eqv,Av,aM,cD,Bu0,Bu6,Aj,s
 ·obtain⟨q,b,e,f,h,a⟩:=Cd (m:=25) k (by lia) (by decide) (by decide)
  refine⟨q-7,b,e,?_,?_⟩
  ·show (decide (-1000000000000<=q-7)&&decide _)=true
   rw[aR (by lia),aR (by lia)];rfl
  wp_walk using Cm,Jw,j,a,Cr,Cq,PyData.canLay0,PyData.depth,PyData.eqv,Av,aM,cU.mpr c
theorem Ak0 (hb:Bx n ds) (hn:n<2 ^ 39):∃(v:Vl) (ds':w5),Bx (n+2) ds'/\VB v/\Br [.ls true ds]=.ret (.im v.d) [.ls true ds']:=by
 obtain⟨r,t,k,r0,r1,j⟩:=Cd (m:=9) hb (by lia) (by decide) (by decide)
 by_cases c4:r<4
 ·obtain⟨q,e,g,h,i,c⟩:=Cd (m:=13) k (by lia) (by decide) (by decide)
  refine⟨.int (q-3),e,g,?_,?_⟩
  ·show (decide (-1000000000000<=q-3)&&decide (q-3<=1000000000000))=true
   rw[aR (by lia),aR (by lia)];rfl
  wp_walk using Br,Hi,j,c,Ro,Yw,Cq,PyData.canLay0,PyData.depth,aM,aR c4,Vl.d
 by_cases c5:r=4
 ·subst c5
  obtain⟨q,e,g,h,i,c⟩:=Cd (m:=4) k (by lia) (by decide) (by decide)
  obtain⟨d,s,f,_⟩:=Xb (l:=[PyData.int 999999999999,.int (-100000000000),.int 100,.int 10]) (r:=q) h i
  have p:∃v:Vl,d=v.d/\VB v:=by
   simp only[aB,a_,bc]at f
   rcases f with rfl | rfl | rfl | rfl <;> exact⟨.int _,rfl,by decide⟩
  obtain⟨v,rfl,o⟩:=p
  refine⟨v,e,g,o,?_⟩
  wp_walk using Br,Hi,j,c,Ro,Yw,Cr,Cq,PyData.canLay0,PyData.depth,PyData.eqv,aM,bw c4,cD,Bu0,Bu6,Aj,s
 by_cases c6:r=5
 ·subst c6
  refine⟨.non,t,k.mono (by lia),rfl,?_⟩
  wp_walk using Br,Hi,j,Ro,Yw,Cr,Cq,PyData.canLay0,PyData.depth,PyData.eqv,aM,bw c4,cD,cU.mpr c5,Vl.d
 ·obtain⟨q,e,g,h,i,c⟩:=Cd (m:=15) k (by lia) (by decide) (by decide)
  obtain⟨d,s,f,_⟩:=Xb (l:=[PyData.str "",.str "a",.str "b",.str "B",.str "10",.str "9",.str "-",.str "a b",.str "it's",.str "\\",.str "/",.str "_",.str ":",.str "None",.str "ab"]) (r:=q) h i
  have p:∃v:Vl,d=v.d/\VB v:=by
   simp only[aB,a_,bc]at f
   rcases f with rfl | rfl | rfl | rfl | rfl | rfl | rfl | rfl | rfl | rfl | rfl | rfl | rfl | rfl | rfl <;> exact⟨.str _,rfl,by decide⟩
  obtain⟨v,rfl,o⟩:=p
  refine⟨v,e,g,o,?_⟩
  wp_walk using Br,Hi,j,c,Ro,Yw,Cr,Cq,PyData.canLay0,PyData.depth,PyData.eqv,aM,bw c4,cU.mpr c5,cU.mpr c6,Aj,s
noncomputable def names12:v4:=["b","a","year","z","ab","month","aa","quantity","c","town","zz","ba"]
theorem Br8 {m:Nat}(h:m<=1000):(m:Int)<=16000000/\-16000000<=(m:Int):=by lia
theorem upN {n k a b c:Nat}(hn:n<a)(hk:k<=b)(h:a+b<=c):n+k<c:=aK (ie hn hk) h
theorem A0r {n:Nat}{r:Int}(a:0<=r)(h1:r<n):ixN n r=some r.toNat:=by
 unfold ixN;grind
theorem Oo : (Kw lo n).length=n:=by unfold Kw;grind
theorem Ou (h:(Kw lo n)[k]?=some d):d=.int (lo+k)/\k<n:=by
 unfold Kw at h
 grind
theorem Tu {α β:Type}(f:α->β):∀(l:List α) (j:Nat),(l.map f).eraseIdx j=(l.eraseIdx j).map f
 | [],j=>rfl
 | a::l,0=>rfl
 | a::l,j+1=>by rw[aF,jC,jC,aF,Tu f l j]
theorem Qi {α:Type}:∀(l:List α) {j:Nat}(h:j<l.length),(l[j]::l.eraseIdx j).Perm l
 | a::l,0,h=>List.Perm.refl _
 | a::l,j+1,h=>by
  rw[jC,List.getElem_cons_succ]
  exact(List.Perm.swap a _ _).trans (List.Perm.cons a (Qi l (by simpa using h)))
structure Names (ns:v4):Prop where
 nd:ns.Nodup
 sub:∀x∈ns,x∈names12
theorem Be5 (hb:Bx n ds) (hn:n<2 ^ 38) (hm:m<=12) :
 ∃b ds',b.length=m/\Names b/\Bx (n+m) ds'/\G7 [.ls true ds,.im (.int m)]=.ret (.ls false (b.map PyData.str)) [.ls true ds',.im (.int m)]:=by
 have i:=Ko (g:=cgN 0) (ft:=Be) (fe:=Np (Aa 1) (cF Al (Ab (Aa 2) (Ab (Gr (Aa 1)) Ai)))) (items:=Kw 0 m) (acc:=[]) (n:=0) (c:=[none,sT (names12.map PyData.str),sT ds])
  (P:=λk f c=>∃a h t b,c=[t,sT (a.map PyData.str),sT h]/\Bx (n+k) h/\f=b.map PyData.str/\(b++a).Perm names12/\b.length=k)
  ⟨names12,ds,none,[],rfl,hb,rfl,List.Perm.refl _,rfl⟩ (λk d f c C w=>by
   rw[aO]at w ⊢;obtain⟨a,h,t,b,rfl,o,rfl,j,l⟩:=w;obtain⟨rfl,hk⟩:=Ou C
   have ll:a.length+k=12:=by have:=j.length_eq;rw[aH,l]at this;have e:names12.length=12:=rfl;lia
   obtain⟨r,v,A,z,y,B⟩:=Cd (m:=(a.length:Int)) o (by lia) (by lia) (by lia)
   have u:r.toNat<a.length:=by lia
   have q:(a.map PyData.str)[r.toNat]?=some (.str a[r.toNat]):=by simp[u]
   have p:ixN a.length r=some r.toNat:=A0r z y
   refine⟨some (.str a[r.toNat]),[sI (.int (0+(k:Int))),sT ((a.eraseIdx r.toNat).map PyData.str),sT v],?_,a.eraseIdx r.toNat,v,_,b++[a[r.toNat]],rfl,A.mono (by lia),by simp,?_,by simp[l]⟩
   ·wp_walk using Hu,ao,B,p,q,Tu,show a.length<=16000000 by lia
   ·rw[fG]
    exact(List.Perm.append_left b (Qi a u)).trans j)
 obtain⟨f,cI,e,a,h,t,b,rfl,o,rfl,j,l⟩:=i;rw[aO,Oo]at o l
 have D:(b++a).Nodup:=j.nodup_iff.mpr (by decide)
 refine⟨b,h,l,⟨(fX.mp D).1,λx q=>j.mem_iff.mp (aX _ q)⟩,o,?_⟩
 have s:cLC [none,some 2,some 0] (Im (Aa 1)) (cgN 0) Be (Np (Aa 1) (cF Al (Ab (Aa 2) (Ab (Gr (Aa 1)) Ai)))) [sT ds,sI (.int m),sF (names12.map PyData.str)]=.ok (.o (.ls false (b.map PyData.str))) [sT h,sI (.int m),sF (a.map PyData.str)] :=
  Dm (ds:=Kw 0 m) (c1:=[sT ds,sI (.int m),sF _]) (by wp_walk using Br8 (aq hm (by decide)),eU) (by rw[Oo];exact aq hm (by decide)) e (by wp_walk using bC)
 unfold G7 Qa;simp only[names12,aF,cQ]at s
 wp_walk using s
theorem A4x {k:Nat}{vs:m6} (h:v∉vs) (a:vs.Nodup):(vs++[v]).Nodup:=by
 grind
theorem Bi0 (hb:Bx n ds) (hn:n<2 ^ 38) (hm:m<=1000) :
 ∃a ds',VBs a/\a.Nodup/\a.length<=m/\(0<m->a≠[])/\Bx (n+2*m) ds'/\Ja [.ls true ds,.im (.int m)]=.ret (.ls false (a.map Vl.d)) [.ls true ds',.im (.int m)]:=by
 have i:=Fz (g:=cgN 3) (body:=Bg (Bq (cF Br (Ab (Aa 0) Ai)) (cgN 4)) (cIf (Bh (cOp (Pk true) (Aa 4) (Aa 2))) (Fq (Pz (Aa 2) (Aa 4))) Dh)) (items:=Kw 0 m) (n:=0) (c:=[sT ds,sI (.int m),sF [],none,none])
  (P:=λk c=>∃j a x y,c=[sT j,sI (.int m),sF (a.map Vl.d),x,y]/\Bx (n+2*k) j/\VBs a/\a.Nodup/\a.length<=k/\(0<k->a≠[]))
  ⟨ds,[],none,none,rfl,hb,(λv b=>by cases b),d_,au _,λh=>absurd h (by decide)⟩ (λk d c B s=>by
   rw[aO]at s ⊢;obtain⟨j,a,x,y,rfl,p,b,o,l,f⟩:=s;obtain⟨rfl,w⟩:=Ou B
   obtain⟨v,q,t,r,A⟩:=Ak0 p (upN hn (cX 2 (aq (cR w) hm)) (by decide))
   by_cases c:v∈a
   ·refine⟨[sT q,sI (.int m),sF (a.map Vl.d),sI (.int (0+(k:Int))),sI v.d],.inl ?_,q,a,_,_,rfl,t,b,o,Nat.le_succ_of_le l,λ_ z=>by rw[z]at c;cases c⟩
    wp_walk using A,A9w r b,aR c
   ·refine⟨[sT q,sI (.int m),sF ((a++[v]).map Vl.d),sI (.int (0+(k:Int))),sI v.d],.inl ?_,q,a++[v],_,_,rfl,t,VBs.app b (λu C=>by rw[aQ.mp C];exact r),A4x (k:=k) c o,by rw[aH,iD];lia,λ_=>by simp⟩
    wp_walk using A,A9w r b,bw c,ao,show a.length<16000000 from bD l (aK w (aq hm (by decide))),bA)
 obtain⟨c',e,j,a,x,y,rfl,p,b,o,l,f⟩:=i;rw[aO,Oo]at p l f
 refine⟨a,j,b,o,l,f,p,?_⟩
 unfold Ja Sw
 wp_walk using Lw,Br8 hm,eU,e
theorem Be7 {n:Nat}{ds:w5}{vs:m6}{w:Nat}(hb:Bx n ds)(hn:n<2 ^ 38)(hw:w<=1000)(hv:VBs vs)(j:vs≠[])(hl:vs.length<=1000) :
 ∃
  a f t,a.length=w/\VBs a/\(∀u∈a,u∈vs)/\Bx (n+w) f /\
  Dl (cgN 0) Be (cOp Aj (Aa 1) (cF Al (Ab (Aa 2) (Ab (Gr (Aa 1)) Ai)))) (Kw 0 w) [] [none,sT (vs.map Vl.d),sT ds]=.ok (a.map Vl.d) [t,sT (vs.map Vl.d),sT f]:=by
 have i:=Ko (g:=cgN 0) (ft:=Be) (fe:=cOp Aj (Aa 1) (cF Al (Ab (Aa 2) (Ab (Gr (Aa 1)) Ai)))) (items:=Kw 0 w) (acc:=[]) (n:=0) (c:=[none,sT (vs.map Vl.d),sT ds])
  (P:=λk b c=>∃f t a,c=[t,sT (vs.map Vl.d),sT f]/\Bx (n+k) f/\b=a.map Vl.d/\a.length=k/\VBs a/\∀u∈a,u∈vs)
  ⟨ds,none,[],rfl,hb,rfl,rfl,(λv hv=>by cases hv),λv hv=>by cases hv⟩ (λk d b c B s=>by
   rw[aO]at s ⊢;obtain⟨f,t,a,rfl,p,rfl,q,y,z⟩:=s;obtain⟨rfl,o⟩:=Ou B;have C:0<vs.length:=List.length_pos_iff.mpr j
   obtain⟨r,D,E,A,r1,G⟩:=Cd (m:=(vs.length:Int)) p (upN hn (aq (cR o) hw) (by decide)) (Int.natCast_pos.mpr C) (Int.ofNat_lt.mpr (bD hl (by decide)))
   obtain⟨x,F,H,_⟩:=Xb (l:=vs.map Vl.d) (r:=r) A (by simp_all)
   obtain⟨v,I,rfl⟩:=aG.mp H
   refine⟨some v.d,[sI (.int (0+k)),some _,some _],?_,D,_,a++[v],rfl,E,by simp,by grind,VBs.app y λu h=>by grind,λu h=>by
    grind⟩
   wp_walk using Hu,ao,G,Aj,F)
 obtain⟨b,cI,e,f,t,a,rfl,p,rfl,q,y,z⟩:=i;rw[Oo]at p q
 grind
theorem Z3 {n:Nat}{ds:w5}{w m:Nat}(hb:Bx n ds)(hn:n<2 ^ 37)(hw:w<=100)(hm:m<=1000) :
 ∃(f:m5) (ds':w5),f.Nodup/\(∀t∈f,t.length=w/\VBs t)/\f.length<=m/\Bx (n+12+w*m) ds'/\Gm [.ls true ds,.im (.int w),.im (.int m)]=.ret (.ls false (f.map tD)) [.ls true ds',.im (.int w),.im (.int m)]:=by
 obtain⟨i,E,F,s,H,C,Q,D⟩:=Bi0 (m:=6) hb (gO hn (by decide)) (by decide)
 have D:Ja [.ls true ds,.im (.int 6)]=.ret (.ls false (i.map Vl.d)) [.ls true E,.im (.int 6)]:=D
 have z:=Fz (g:=cgN 5) (body:=Bg (Bq (cUn Az (cLC [none,some 3,some 0] (Im (Aa 1)) (cgN 0) Be (cOp Aj (Aa 1) (cF Al (Ab (Aa 2) (Ab (Gr (Aa 1)) Ai)))))) (cgN 6)) (cIf (Bh (cOp (Pk true) (Aa 6) (Aa 4))) (Fq (Pz (Aa 4) (Aa 6))) Dh)) (items:=Kw 0 m) (n:=0)
  (c:=[sT E,sI (.int w),sI (.int m),sF (i.map Vl.d),sF [],none,none])
  (P:=λk c=>∃l f x y,c=[sT l,sI (.int w),sI (.int m),sF (i.map Vl.d),sF (f.map tD),x,y]/\Bx (n+12+w*k) l/\f.Nodup/\(∀t∈f,t.length=w/\VBs t)/\f.length<=k)
  ⟨E,[],none,none,rfl,Q,d_,(λv F=>by cases F),au _⟩ (λk d c N J=>by
   rw[aO]at J ⊢;obtain⟨l,f,x,y,rfl,B,s,o,q⟩:=J;obtain⟨rfl,L⟩:=Ou N;have r:w*k<=100*1000:=gf hw (cR (aK L hm))
   obtain⟨j,p,t,R,G,_,S,O⟩:=Be7 (w:=w) (vs:=i) B (upN (upN hn (au 12) (show 2 ^ 37+12<=2 ^ 37+100 by decide)) r (by decide)) (aq hw (by decide)) F (C (by decide)) (aq H (by decide))
   have K:cLC [none,some 3,some 0] (Im (Aa 1)) (cgN 0) Be (cOp Aj (Aa 1) (cF Al (Ab (Aa 2) (Ab (Gr (Aa 1)) Ai)))) [sT l,sI (.int w),sI (.int m),sF (i.map Vl.d),sF (f.map tD),sI (.int (0+(k:Int))),y]=.ok (.o (.ls false (j.map Vl.d))) [sT p,sI (.int w),sI (.int m),sF (i.map Vl.d),sF (f.map tD),sI (.int (0+(k:Int))),y] :=
    Dm (ds:=Kw 0 w) (c1:=[sT l,sI (.int w),sI (.int m),sF (i.map Vl.d),sF (f.map tD),sI (.int (0+(k:Int))),y]) (by wp_walk using Br8 (m:=w) (aq hw (by decide)),eU) (by rw[Oo];lia) O (by wp_walk using bC)
   have A:Bx (n+12+w*(k+1)) p:=S.mono (dq (dR _ _ _));have M:PyData.tuple (j.map Vl.d)=tD j:=rfl
   by_cases c:j∈f
   ·refine⟨[sT p,sI (.int w),sI (.int m),sF (i.map Vl.d),sF (f.map tD),sI (.int (0+(k:Int))),sI (tD j)],.inl ?_,p,f,_,_,rfl,A,s,o,Nat.le_succ_of_le q⟩
    wp_walk using K,Az,M,Ax3 G (λu I=>(o u I).2),aR c
   ·refine⟨[sT p,sI (.int w),sI (.int m),sF (i.map Vl.d),sF ((f++[j]).map tD),sI (.int (0+(k:Int))),sI (tD j)],.inl ?_,p,f++[j],_,_,rfl,A,?_,λt h=>?_,by rw[aH,iD];exact iz q⟩
    ·wp_walk using K,Az,M,Ax3 G (λu I=>(o u I).2),bw c,ao,show f.length<16000000 from bD q (aK L (aq hm (by decide))),bA
    ·rw[fX]
     exact⟨s,by simp,λa T b hb e=>by rw[aQ.mp hb]at e;exact c (e▸T)⟩
    ·rcases bx.mp h with h | h
     ·exact o t h
     ·rw[aQ.mp h];exact⟨R,G⟩)
 obtain⟨c',e,l,f,x,y,rfl,B,s,o,q⟩:=z;rw[aO,Oo]at B q
 refine⟨f,l,s,o,q,B,?_⟩
 unfold Gm Ny
 wp_walk using D,Lw,Br8 hm,eU,e
structure Wd where
 key:v4
 names:v4
 vals:v4
 heads:m5
 rows:List (List Vl×List (Option (m6)))
noncomputable def nD (ns:v4):t6:=.tuple (ns.map PyData.str)
def Ck:Option (m6)->t6
 | none=>.none
 | some c=>tD c
def Qe (r:List Vl×List (Option (m6))):t6:=.tuple [tD r.1,.tuple (r.2.map Ck)]
def Wd.ps (w:Wd):w5:=[nD w.key,nD w.names,nD w.vals,.tuple (w.heads.map tD),.tuple (w.rows.map Qe)]
def Wd.d (w:Wd):t6:=.tuple w.ps
def Wx (n:Nat)(c:Option (m6)):Prop:=∀vs,c=some vs->vs.length=n/\VBs vs
structure Ak4 (k h v:Nat) (r:List Vl×List (Option (m6))):Prop where
 plen:r.1.length=k
 part:VBs r.1
 clen:r.2.length=h
 cells:∀c∈r.2,Wx v c
structure Wd.Ok (w:Wd):Prop where
 nms:Names (w.key++w.names++w.vals)
 klen:w.key.length<=2
 nlen:w.names.length<=2
 vlen:w.vals.length<=5
 vpos:1<=w.vals.length
 heads:∀h∈w.heads,h.length=w.names.length/\VBs h
 hnd:w.heads.Nodup
 hlen:w.heads.length<=12
 rows:∀r∈w.rows,Ak4 w.key.length w.heads.length w.vals.length r
 rnd:(w.rows.map (·.1)).Nodup
 rlen:w.rows.length<=12
def Wd.Num (w:Wd):Prop:=∀r∈w.rows,∀c∈r.2,∀vs,c=some vs->∀v∈vs,∃i,v=Vl.int i
theorem A8f {b:Nat}:cutD ds none (some (b:Int))=ds.take b:=by
 unfold cutD;rw[HT.Ap7,HT.Vm]
 grind
theorem A6t {ds:w5}{a b:Nat}(h:a<=b)(hb:b<=ds.length):cutD ds (some (a:Int)) (some (b:Int))=(ds.drop a).take (b-a):=by
 unfold cutD;rw[HT.Vm,HT.Vm,fB hb,fB (aq h hb)]
theorem Bm3 {n:Nat}{ds:w5}{items:w5}{num:Bool}(hb:Bx n ds)(hn:n<2 ^ 38)(hl:items.length<=1000) :
 ∃
  a f t,a.length=items.length/\VBs a/\(num=true->∀u∈a,∃i,u=Vl.int i)/\Bx (n+2*items.length) f /\
  Dl (cgN 0) Be (Qf (Bh (Aa 1)) (cF Cm (Ab (Aa 2) Ai)) (cF Br (Ab (Aa 2) Ai))) items [] [none,sI (.bool num),sT ds]=.ok (a.map Vl.d) [t,sI (.bool num),sT f]:=by
 have p:=Ko (g:=cgN 0) (ft:=Be) (fe:=Qf (Bh (Aa 1)) (cF Cm (Ab (Aa 2) Ai)) (cF Br (Ab (Aa 2) Ai))) (items:=items) (acc:=[]) (n:=0) (c:=[none,sI (.bool num),sT ds])
  (P:=λk e c=>∃f t a,c=[t,sI (.bool num),sT f]/\k<=items.length/\Bx (n+2*k) f/\e=a.map Vl.d/\a.length=k/\VBs a/\(num=true->∀u∈a,∃i,u=Vl.int i))
  ⟨ds,none,[],rfl,aM _,hb,rfl,rfl,(λv o=>by cases o),λ_ v o=>by cases o⟩ (λk d e c hd s=>by
   rw[aO]at s ⊢;obtain⟨f,t,a,rfl,x,q,rfl,r,w,hs⟩:=s
   have b:k<items.length:=by
    grind
   cases num with
   | true =>
    obtain⟨i,j,m,y,l⟩:=A3v q (upN hn (cX 2 (aq (cR b) hl)) (by decide))
    refine⟨some (.int i),[sI d,sI (.bool true),sT j],?_,j,_,a++[.int i],rfl,b,m,by simp[Vl.d],by simp[r],VBs.app w λu h=>by grind,λ_ u h=>by
     grind⟩
    wp_walk using l
   | false =>
    obtain⟨v,j,m,y,l⟩:=Ak0 q (upN hn (cX 2 (aq (cR b) hl)) (by decide))
    refine⟨some v.d,[sI d,some _,some _],?_,j,_,a++[v],rfl,b,m,by simp,by simp[r],VBs.app w λu h=>by grind,λz=>nomatch z⟩
    wp_walk using l)
 grind
def isL (o:O)(ds:w5):Prop:=o=.ls false ds\/o=.im (.list ds)
theorem Bn0 {n:Nat}{ds:w5}{num:Bool}{s2 s3 s4 s5 s6 s7 o8 o9 s11 s12:n8}{often:Int}{vals:w5}{heads:m5}(hb:Bx n ds)(hn:n<2 ^ 37)(L:0<often)(h1:often<1000)(hv:vals.length<=5)(E:heads.length<=12){x14 x15:n8}
 (Q:∃o,o8=some o/\isL o vals) :
 ∃
  (a:List (Option (m6))) (l:w5) (o8' j b:n8),a.length=heads.length/\(∀c∈a,Wx vals.length c)/\(num=true->∀c∈a,∀p,c=some p->∀v∈p,∃i,v=Vl.int i)/\Bx (n+11*heads.length) l/\(∃o,o8'=some o/\isL o vals) /\
  forL (cgN 14) (Bg (Bq (cUn Az (cLC [none,some 1,some 0] (Bl (Aa 8)) (cgN 0) Be (Qf (Bh (Aa 1)) (cF Cm (Ab (Aa 2) Ai)) (cF Br (Ab (Aa 2) Ai))))) (cgN 15))
   (Fq (Pz (Aa 13) (Qf (Bh (cOp (Cr false) (cF Al (Ab (Aa 0) (Ab (Aa 10) Ai))) (cC (.int 0)))) (cC (.none)) (Aa 15))))) (heads.map tD)
   [sT ds,sI (.bool num),s2,s3,s4,s5,s6,s7,o8,o9,sI (.int often),s11,s12,sF [],x14,x15] =
  .nx [sT l,sI (.bool num),s2,s3,s4,s5,s6,s7,o8',o9,sI (.int often),s11,s12,sF (a.map Ck),j,b]:=by
 have y:=Fz (g:=cgN 14) (body:=Bg (Bq (cUn Az (cLC [none,some 1,some 0] (Bl (Aa 8)) (cgN 0) Be (Qf (Bh (Aa 1)) (cF Cm (Ab (Aa 2) Ai)) (cF Br (Ab (Aa 2) Ai))))) (cgN 15))
  (Fq (Pz (Aa 13) (Qf (Bh (cOp (Cr false) (cF Al (Ab (Aa 0) (Ab (Aa 10) Ai))) (cC (.int 0)))) (cC (.none)) (Aa 15))))) (items:=heads.map tD) (n:=0)
  (c:=[sT ds,sI (.bool num),s2,s3,s4,s5,s6,s7,o8,o9,sI (.int often),s11,s12,sF [],x14,x15])
  (P:=λk c=>∃l C j b a,c=[sT l,sI (.bool num),s2,s3,s4,s5,s6,s7,C,o9,sI (.int often),s11,s12,sF (a.map Ck),j,b]/\k<=heads.length/\Bx (n+11*k) l/\(∃o,C=some o/\isL o vals) /\
   a.length=k/\(∀c∈a,Wx vals.length c)/\(num=true->∀c∈a,∀p,c=some p->∀v∈p,∃i,v=Vl.int i))
  ⟨ds,o8,_,_,[],rfl,aM _,hb,Q,rfl,(λc s=>by cases s),λ_ c s=>by cases s⟩ (λk d c K J=>by
   rw[aO]at J ⊢;obtain⟨l,C,j,b,a,rfl,S,D,⟨o,rfl,F⟩,u,s,f⟩:=J
   have x:k<heads.length:=by
    rcases bN k heads.length with q | q
    ·exact q
    ·rw[i_ (by rw[ao];exact q)]at K;cases K
   obtain⟨w,V,t,U,W,M,N,R⟩:=Bm3 (items:=vals) (num:=num) D (upN hn (cX 11 (aq (cR x) E)) (by decide)) (aq hv (by decide))
   have G:cLC [none,some 1,some 0] (Bl (Aa 8)) (cgN 0) Be (Qf (Bh (Aa 1)) (cF Cm (Ab (Aa 2) Ai)) (cF Br (Ab (Aa 2) Ai)))
    [sT l,sI (.bool num),s2,s3,s4,s5,s6,s7,some o,o9,sI (.int often),s11,s12,sF (a.map Ck),sI d,b] =
    .ok (.o (.ls false (w.map Vl.d))) [sT V,sI (.bool num),s2,s3,s4,s5,s6,s7,sI (.list vals),o9,sI (.int often),s11,s12,sF (a.map Ck),sI d,b]:=by
    refine Dm (ds:=vals) (c1:=[sT l,sI (.bool num),s2,s3,s4,s5,s6,s7,sI (.list vals),o9,sI (.int often),s11,s12,sF (a.map Ck),sI d,b]) ?_ (aq hv (by decide)) R (by wp_walk using bC)
    rcases F with rfl | rfl <;> wp_walk using Bl
   obtain⟨r,A,T,r0,r1,I⟩:=Cd (m:=often) N (upN (upN hn (cX 11 (aq (cR x) E)) (show 2 ^ 37+11*12<=2 ^ 38 by decide)) (cX 2 hv) (by decide)) L (Int.lt_trans h1 (by decide))
   have H:PyData.tuple (w.map Vl.d)=tD w:=rfl;have B:Bx (n+11*(k+1)) A:=T.mono (bW (iz (cX 2 hv)) (n+11*k))
   by_cases c:r=0
   ·subst c
    refine⟨[sT A,sI (.bool num),s2,s3,s4,s5,s6,s7,sI (.list vals),o9,sI (.int often),s11,s12,sF ((a++[none]).map Ck),sI d,sI (tD w)],.inl ?_,A,_,_,_,a++[none],rfl,x,B,⟨_,rfl,.inr rfl⟩,by simp[u],λc h=>?_,λz c h p e=>?_⟩
    ·wp_walk using G,Az,H,I,Cr,Cq,PyData.canLay0,PyData.depth,PyData.eqv,aM,cD,ao,show a.length<16000000 from u▸aK x (aq E (by decide)),bA,Ck
    ·rcases bx.mp h with h | h
     ·exact s c h
     ·rw[aQ.mp h];exact λp e=>nomatch e
    ·rcases bx.mp h with h | h
     ·exact f z c h p e
     ·rw[aQ.mp h]at e;cases e
   ·refine⟨[sT A,sI (.bool num),s2,s3,s4,s5,s6,s7,sI (.list vals),o9,sI (.int often),s11,s12,sF ((a++[some w]).map Ck),sI d,sI (tD w)],.inl ?_,A,_,_,_,a++[some _],rfl,x,B,⟨_,rfl,.inr rfl⟩,by simp[u],λc h=>?_,λz c h p e=>?_⟩
    ·wp_walk using G,Az,H,I,Cr,Cq,PyData.canLay0,PyData.depth,PyData.eqv,aM,cU.mpr c,ao,show a.length<16000000 from u▸aK x (aq E (by decide)),bA,Ck
    ·rcases bx.mp h with h | h
     ·exact s c h
     ·rw[aQ.mp h];exact λp e=>by cases e;exact⟨U,W⟩
    ·rcases bx.mp h with h | h
     ·exact f z c h _ e
     ·rw[aQ.mp h]at e;cases e;exact M z)
 obtain⟨c',e,l,C,j,b,a,rfl,_,D,F,u,s,f⟩:=y;rw[aO,ao]at D u;exact⟨a,l,C,j,b,u,s,f,D,F,e⟩
abbrev Ba4:Ev->SR:=Bg (Bq (cUn Az (cLC [none,some 1,some 0] (Bl (Aa 8)) (cgN 0) Be (Qf (Bh (Aa 1)) (cF Cm (Ab (Aa 2) Ai)) (cF Br (Ab (Aa 2) Ai))))) (cgN 15))
 (Fq (Pz (Aa 13) (Qf (Bh (cOp (Cr false) (cF Al (Ab (Aa 0) (Ab (Aa 10) Ai))) (cC (.int 0)))) (cC (.none)) (Aa 15))))
abbrev Wa:Ev->SR:=Bg (Bq (Ds Ai) (cgN 13)) (Bg (Lw (Bl (Aa 9)) (cgN 14) Ba4) (Fq (Pz (Aa 11) (Ci (Ab (Aa 12) (Ab (cUn Az (Aa 13)) Ai))))))
theorem A6s {n:Nat}{ds:w5}{num:Bool}{s2 s3 s4 s5 s6 s7 o8 o9:n8}{often:Int}{vals:w5}{heads parts:m5}(hb:Bx n ds)(hn:n<2 ^ 36)(h0:0<often)(h1:often<1000)(hv:vals.length<=5)(hh:heads.length<=12)(hp:parts.length<=12)
 (h8:∃o,o8=some o/\isL o vals) (h9:∃o,o9=some o/\isL o (heads.map tD)) {x12 x13 x14 x15:n8} {kl:Nat} (hpk:∀t∈parts,t.length=kl/\VBs t) :
 ∃
  (rows:List (List Vl×List (Option (m6)))) (d1:w5) (p8 p9 y12 y13 y14 y15:n8),rows.map (·.1)=parts/\(∀r∈rows,Ak4 kl heads.length vals.length r)/\(num=true->∀r∈rows,∀c∈r.2,∀vs,c=some vs->∀v∈vs,∃i,v=Vl.int i)/\Bx (n+132*parts.length) d1/\(∃o,p8=some o/\isL o vals)/\(∃o,p9=some o/\isL o (heads.map tD)) /\
  forL (cgN 12) Wa (parts.map tD) [sT ds,sI (.bool num),s2,s3,s4,s5,s6,s7,o8,o9,sI (.int often),sF [],x12,x13,x14,x15] =
  .nx [sT d1,sI (.bool num),s2,s3,s4,s5,s6,s7,p8,p9,sI (.int often),sF (rows.map Qe),y12,y13,y14,y15]:=by
 have loop:=Fz (g:=cgN 12) (body:=Wa) (items:=parts.map tD) (n:=0) (c:=[sT ds,sI (.bool num),s2,s3,s4,s5,s6,s7,o8,o9,sI (.int often),sF [],x12,x13,x14,x15])
  (P:=λk c=>∃d1 p8 p9 y12 y13 y14 y15 rows,c=[sT d1,sI (.bool num),s2,s3,s4,s5,s6,s7,p8,p9,sI (.int often),sF (rows.map Qe),y12,y13,y14,y15]/\k<=parts.length/\Bx (n+132*k) d1/\(∃o,p8=some o/\isL o vals)/\(∃o,p9=some o/\isL o (heads.map tD)) /\
   rows.map (·.1)=parts.take k/\(∀r∈rows,Ak4 kl heads.length vals.length r)/\(num=true->∀r∈rows,∀c∈r.2,∀vs,c=some vs->∀v∈vs,∃i,v=Vl.int i))
  ⟨ds,o8,o9,_,_,_,_,[],rfl,aM _,hb,h8,h9,rfl,(λr hr=>by cases hr),λ_ r hr=>by cases hr⟩ (λk d c hd hP=>by
   rw[aO]at hP ⊢;obtain⟨d1,p8,p9,y12,y13,y14,y15,rows,rfl,hk0,b1,h8,⟨o,rfl,ho⟩,hr,hro,hnum⟩:=hP;obtain⟨t,ht,e⟩:=El hd;subst e;have hk:k<parts.length:=(bG.mp ht).1
   obtain⟨cells,d2,q8,z14,z15,cl,cc,cn,b2,g8,e2⟩:=Bn0 (num:=num) (s2:=s2) (s3:=s3) (s4:=s4) (s5:=s5) (s6:=s6) (s7:=s7) (o8:=p8) (o9:=sI (.list (heads.map tD))) (s11:=sF (rows.map Qe)) (s12:=sI (tD t)) (x14:=y14) (x15:=y15) (heads:=heads) b1 (by lia) h0 h1 hv hh h8
   have rl:rows.length=k:=by have:=bU List.length hr;rw[ao,dg]at this;exact this.trans (fB hk0)
   refine⟨[sT d2,sI (.bool num),s2,s3,s4,s5,s6,s7,q8,sI (.list (heads.map tD)),sI (.int often),sF ((rows++[(t,cells)]).map Qe),sI (tD t),sF (cells.map Ck),z14,z15],.inl ?_,d2,q8,_,_,_,_,_,rows++[(t,cells)],rfl,hk,b2.mono (by lia),g8,⟨_,rfl,.inr rfl⟩,?_,λr h=>?_,λz r h=>?_⟩
   ·have en:(rows.map Qe).length<16000000:=by rw[ao,rl];exact aK hk (aq hp (by decide))
    rcases ho with rfl | rfl <;> wp_walk using Wa,Lw,Bl,e2,Az,en,bA,Qe
   ·rw[bA,hr,aF,cQ,fZ,ht];rfl
   ·rcases bx.mp h with h | h
    ·exact hro r h
    ·rw[aQ.mp h]
     have:=hpk t (bz ht);exact⟨this.1,this.2,cl,cc⟩
   ·rcases bx.mp h with h | h
    ·exact hnum z r h
    ·rw[aQ.mp h];exact cn z)
 obtain⟨c',e,d1,p8,p9,y12,y13,y14,y15,rows,rfl,_,b1,h8,h9,hr,hro,hnum⟩:=loop;rw[aO,ao]at b1 hr;rw[dN]at hr;exact⟨rows,d1,p8,p9,y12,y13,y14,y15,hr,hro,hnum,b1,h8,h9,e⟩
theorem Ln {ns:v4}{a:Nat}:(ns.map PyData.str).take a=(ns.take a).map PyData.str:=List.map_take.symm
theorem Rc {ns:v4}{a:Nat}:(ns.map PyData.str).drop a=(ns.drop a).map PyData.str:=List.map_drop.symm
theorem Names.sublist {a b:v4}(h:Names b)(s:a.Sublist b):Names a:=⟨h.nd.sublist s,λx c=>h.sub x (s.subset c)⟩
theorem A7h {o:O}{ds:w5}{i:Nat}{c:Ev}(h:isL o ds)(hc:c[i]?=some (some o)):cUn Az (Aa i) c=.ok (.o (.im (.tuple ds))) c:=by
 rcases h with rfl | rfl <;> wp_walk using hc,Az
theorem B5l {b d e f g:o_}{c:Ev}{h a j k i:t6}(h1:b c=.ok (.o (.im h)) c)(h2:d c=.ok (.o (.im a)) c)(m:e c=.ok (.o (.im j)) c)(n:f c=.ok (.o (.im k)) c)(l:g c=.ok (.o (.im i)) c) :
 Df (Ci (Ab b (Ab d (Ab e (Ab f (Ab g Ai)))))) c=.rt (.o (.im (.tuple [h,a,j,k,i]))) c:=by
 wp_walk using h1,h2,m,n,l
theorem Bh8 {n:Nat}{ds:w5}{num:Bool}(hb:Bx n ds)(hn:n<2 ^ 35) :
 ∃(W:Wd) (ds':w5),W.Ok/\(num=true->W.Num)/\Bx (n+3000) ds'/\Km [.ls true ds,.im (.bool num)]=.ret (.im W.d) [.ls true ds',.im (.bool num)]:=by
 have u:∀k,k<=5000->n+k<2 ^ 40:=λk F=>aK (ie hn F) (by decide)
 have K:∀k,k<=5000->n+k<2 ^ 39:=λk F=>aK (ie hn F) (by decide)
 have J:∀k,k<=5000->n+k<2 ^ 37:=λk F=>aK (ie hn F) (by decide)
 have V:∀k,k<=5000->n+k<2 ^ 36:=λk F=>aK (ie hn F) (by decide)
 obtain⟨o,d1,L,nms,b1,X⟩:=Be5 (m:=9) hb (gO hn (by decide)) (by decide)
 have X:G7 [.ls true ds,.im (.int 9)]=.ret (.ls false (o.map PyData.str)) [.ls true d1,.im (.int 9)]:=X
 obtain⟨a,d2,b2,a0,a1,e2⟩:=Cd (m:=3) b1 (u 9 (by decide)) (by decide) (by decide)
 obtain⟨b,d3,b3,bb0,T,e3⟩:=Cd (m:=3) b2 (u 10 (by decide)) (by decide) (by decide)
 obtain⟨c,d4,b4,c0,c1,e4⟩:=Cd (m:=2) b3 (u 11 (by decide)) (by decide) (by decide)
 obtain⟨q,d5,b5,q0,q1,e5⟩:=Cd (m:=8) b4 (u 12 (by decide)) (by decide) (by decide)
 obtain⟨a,rfl⟩:=fu a0;obtain⟨b,rfl⟩:=fu bb0;have G:a<=2:=j4.mp (Int.le_of_lt_add_one a1);have y:b<=2:=j4.mp (Int.le_of_lt_add_one T)
 have hc:∃(v:Nat) (E:w5),1<=v/\v<=5/\Bx (n+14) E /\
  cIf (Bh (cOp (Cr false) (cF Al (Ab (Aa 0) (Ab (cC (.int 8)) Ai))) (cC (.int 0)))) (Bq (cOp Av (cC (.int 3)) (cF Al (Ab (Aa 0) (Ab (cC (.int 3)) Ai)))) (cgN 5)) Dh
   [sT d4,sI (.bool num),sF (o.map PyData.str),sI (.int a),sI (.int b),sI (.int (1+c)),none,none,none,none,none,none,none,none,none,none] =
  .nx [sT E,sI (.bool num),sF (o.map PyData.str),sI (.int a),sI (.int b),sI (.int (v:Int)),none,none,none,none,none,none,none,none,none,none]:=by
  by_cases z:q=0
  ·subst z
   obtain⟨k,E,Z,k0,k1,e6⟩:=Cd (m:=3) b5 (u 13 (by decide)) (by decide) (by decide)
   refine⟨(3+k).toNat,E,by lia,by lia,Z.mono (au _),?_⟩
   wp_walk using e5,e6,Cr,Cq,PyData.canLay0,PyData.depth,PyData.eqv,aM,cD,Av,Int.toNat_of_nonneg (show 0<=3+k by lia)
  ·refine⟨(1+c).toNat,d5,by lia,by lia,b5.mono (gM _),?_⟩
   wp_walk using e5,Cr,Cq,PyData.canLay0,PyData.depth,PyData.eqv,aM,cU.mpr z,Int.toNat_of_nonneg (show 0<=1+c by lia)
 obtain⟨v,E,v1,v5,Z,e6⟩:=hc
 obtain⟨S,d7,b7,m10,m11,e7⟩:=A0j (l:=0) (f:=5) (m:=12) Z (K 14 (by decide)) (by decide) (by decide) (by decide) (by decide) (by decide) (by decide)
 obtain⟨S,rfl⟩:=fu m10;have D:S<=12:=j4.mp m11
 obtain⟨d,d8,hnd,hh,hl,b8,e8⟩:=Z3 (w:=b) (m:=S) b7 (J 16 (by decide)) (aq y (by decide)) (aq D (by decide))
 obtain⟨f,d9,b9,f0,f1,e9⟩:=Cd (m:=3) (b8.mono (m:=n+52) (bW (show b*S<=24 from gf y D) (n+28))) (u 52 (by decide)) (by decide) (by decide)
 obtain⟨fo,hfo,M,_⟩:=Xb (l:=[PyData.int 9,.int 2,.int 3]) (r:=f) f0 f1
 have hof:∃i:Int,fo=.int i/\0<i/\i<1000:=by
  simp only[aB,a_,bc]at M
  rcases M with rfl | rfl | rfl <;> exact⟨_,rfl,by decide,by decide⟩
 obtain⟨i,rfl,U,of1⟩:=hof
 obtain⟨R,d10,b10,m20,m21,Y⟩:=A0j (l:=0) (f:=5) (m:=12) b9 (K 53 (by decide)) (by decide) (by decide) (by decide) (by decide) (by decide) (by decide)
 obtain⟨R,rfl⟩:=fu m20;have B:R<=12:=j4.mp m21
 obtain⟨s,d11,pnd,hp,pl,b11,e11⟩:=Z3 (w:=a) (m:=R) b10 (J 55 (by decide)) (aq G (by decide)) (aq B (by decide))
 have x:s.length<=12:=aq pl B;have A:d.length<=12:=aq hl D;have I:a+b<=4:=Nat.add_le_add G y;have O:a+b+v<=9:=Nat.add_le_add I v5
 let j:=o.take a
 let g:=(o.drop a).take b
 let e:=(o.drop (a+b)).take v
 have kl:j.length=a:=by show (o.take a).length=a;rw[dg,L];exact fB (aq G (by decide))
 have ol:g.length=b:=by show ((o.drop a).take b).length=b;rw[dg,iy,L];exact fB (Nat.le_sub_of_add_le (aq (Nat.add_le_add y G) (by decide)))
 have vl:e.length=v:=by show ((o.drop (a+b)).take v).length=v;rw[dg,iy,L];exact fB (Nat.le_sub_of_add_le (Nat.add_comm v (a+b)▸O))
 have C:j++g++e=o.take (a+b+v):=by
  show o.take a++(o.drop a).take b++(o.drop (a+b)).take v=_
  rw[<- List.take_add,<- List.take_add]
 have c1:cutD (o.map PyData.str) none (some (a:Int))=j.map PyData.str:=by rw[A8f,Ln]
 have c2:cutD (o.map PyData.str) (some (a:Int)) (some ((a:Int)+(b:Int)))=g.map PyData.str:=by
  rw[<- Int.natCast_add,A6t (fH _ _) (by rw[ao,L];exact aq I (by decide)),Rc,Ln,Nat.add_sub_cancel_left]
 have c3:cutD (o.map PyData.str) (some ((a:Int)+(b:Int))) (some ((a:Int)+(b:Int)+(v:Int)))=e.map PyData.str:=by
  rw[<- Int.natCast_add,<- Int.natCast_add,A6t (fH _ _) (by rw[ao,L];exact O),Rc,Ln,Nat.add_sub_cancel_left]
 obtain⟨t,N,p8,p9,y12,y13,y14,y15,hr,hro,P,b12,⟨o8,rfl,g8⟩,⟨o9,rfl,g9⟩,e12⟩:=A6s (num:=num) (s2:=sF (o.map PyData.str)) (s3:=sI (.int a)) (s4:=sI (.int b)) (s5:=sI (.int v)) (s6:=sI (.list (j.map PyData.str))) (s7:=sI (.list (g.map PyData.str))) (o8:=sF (e.map PyData.str)) (o9:=sF (d.map tD)) (often:=i) (vals:=e.map PyData.str) (heads:=d) (parts:=s) (b11.mono (m:=n+91) (bW (show a*R<=24 from gf G B) (n+67))) (V 91 (by decide)) U of1 (by rw[ao,vl];exact v5) A x ⟨_,rfl,.inl rfl⟩ ⟨_,rfl,.inl rfl⟩ (x12:=none) (x13:=none) (x14:=none) (x15:=none) (kl:=a) hp
 have Q:Names (j++g++e):=by rw[C];exact nms.sublist (j9 _ _)
 refine⟨⟨j,g,e,d,t⟩,N,⟨Q,by rw[kl];exact G,by rw[ol];exact y,by rw[vl];exact v5,by rw[vl];exact v1,λh H=>⟨by rw[ol];exact(hh h H).1,(hh h H).2⟩,hnd,A,λr h=>?_,by show (t.map (·.1)).Nodup;rw[hr];exact pnd,?_⟩,P,b12.mono (aq (bW (cX 132 x) (n+91)) (bW (show 91+132*12<=3000 by decide) n)),?_⟩
 ·have:=hro r h
  rw[ao]at this
  show Ak4 j.length d.length e.length r
  rw[kl];exact this
 ·show t.length<=12
  have:=bU List.length hr;rw[ao]at this;exact aq (dq this) x
 refine Jy (p:=.o (.im (Wd.d ⟨j,g,e,d,t⟩))) (c:=[sT N,sI (.bool num),sF (o.map PyData.str),sI (.int a),sI (.int b),sI (.int v),sI (.list (j.map PyData.str)),sI (.list (g.map PyData.str)),some o8,some o9,sI (.int i),sF (t.map Qe),y12,y13,y14,y15]) ?_ rfl (by wp_walk using bC)
 show Oz [sT ds,sI (.bool num),none,none,none,none,none,none,none,none,none,none,none,none,none,none]=_
 unfold Oz
 refine (Bo (c':=[sT d1,sI (.bool num),sF (o.map PyData.str),none,none,none,none,none,none,none,none,none,none,none,none,none]) (by wp_walk using X)).trans ?_
 refine (Bo (c':=[sT d4,sI (.bool num),sF (o.map PyData.str),sI (.int a),sI (.int b),sI (.int (1+c)),none,none,none,none,none,none,none,none,none,none]) (by wp_walk using e2,e3,e4,Av)).trans ?_
 refine (Bo e6).trans ?_
 refine (Bo (c':=[sT E,sI (.bool num),sF (o.map PyData.str),sI (.int a),sI (.int b),sI (.int v),sI (.list (j.map PyData.str)),sI (.list (g.map PyData.str)),none,none,none,none,none,none,none,none]) (by wp_walk using G3,Av,c1,c2)).trans ?_
 refine (Bo (c':=[sT E,sI (.bool num),sF (o.map PyData.str),sI (.int a),sI (.int b),sI (.int v),sI (.list (j.map PyData.str)),sI (.list (g.map PyData.str)),sF (e.map PyData.str),none,none,none,none,none,none,none]) (by wp_walk using G3,Av,c3)).trans ?_
 refine (Bo (c':=[sT d8,sI (.bool num),sF (o.map PyData.str),sI (.int a),sI (.int b),sI (.int v),sI (.list (j.map PyData.str)),sI (.list (g.map PyData.str)),sF (e.map PyData.str),sF (d.map tD),none,none,none,none,none,none]) (by wp_walk using e7,e8)).trans ?_
 refine (Bo (c':=[sT d9,sI (.bool num),sF (o.map PyData.str),sI (.int a),sI (.int b),sI (.int v),sI (.list (j.map PyData.str)),sI (.list (g.map PyData.str)),sF (e.map PyData.str),sF (d.map tD),sI (.int i),none,none,none,none,none]) (by wp_walk using e9,Aj,hfo)).trans ?_
 refine (Bo (c':=[sT d9,sI (.bool num),sF (o.map PyData.str),sI (.int a),sI (.int b),sI (.int v),sI (.list (j.map PyData.str)),sI (.list (g.map PyData.str)),sF (e.map PyData.str),sF (d.map tD),sI (.int i),sF [],none,none,none,none]) (by wp_walk using bC)).trans ?_
 refine (Bo ((Ox (ds:=s.map tD) (c1:=[sT d11,sI (.bool num),sF (o.map PyData.str),sI (.int a),sI (.int b),sI (.int v),sI (.list (j.map PyData.str)),sI (.list (g.map PyData.str)),sF (e.map PyData.str),sF (d.map tD),sI (.int i),sF [],none,none,none,none]) (by wp_walk using Bl,Y,e11)).trans e12)).trans ?_
 exact B5l (A7h (.inr rfl) rfl) (A7h (.inr rfl) rfl) (A7h g8 rfl) (A7h g9 rfl) (A7h (.inl rfl) rfl)
theorem A8b : (List.replicate n true).all id=true:=by simp
theorem Ud:∀n:Nat,boolsOf (List.replicate n (PyData.bool true))=some (List.replicate n true)
 | 0=>rfl
 | n+1=>by rw[dG,dG];show (boolsOf (List.replicate n (PyData.bool true))).map (true::·)=_;rw[Ud n];rfl
theorem Ni (ha:Cq a=true) (hb:Cq b=true):Cr neg a b=sI (.bool (if neg then !PyData.eqv a b else PyData.eqv a b)):=by unfold Cr;grind
theorem Bo0 (h:x∈Gy ds ds):∃d∈ds,x=.tuple [d,d]:=by
 obtain⟨⟨a,b⟩,f,c⟩:=aG.mp h;obtain⟨i,g,e⟩:=List.getElem_of_mem f
 grind
theorem A0i {d:t6}:∀{ds:w5},d∈ds->d.depth<=PyData.depthAll ds
 | a::r,h=>by
  show d.depth<=max a.depth (PyData.depthAll r)
  rcases aB.mp h with rfl | h
  ·exact Nat.le_max_left _ _
  ·exact aq (A0i h) (Nat.le_max_right _ _)
theorem Az7 {d:t6}:∀{ds:w5},d∈ds->PyData.canLayAll0 ds=true->d.canLay0=true
 | a::r,h,l=>by
  obtain⟨l1,l2⟩:=aA.mp (show (a.canLay0&&PyData.canLayAll0 r)=true from l)
  rcases aB.mp h with rfl | h
  ·exact l1
  ·exact Az7 h l2
def Short:Nat->t6->Prop
 | 0,_=>True
 | _+1,.list _=>False
 | n+1,.tuple ds=>ds.length<=16000000/\∀d∈ds,Short n d
 | _+1,_=>True
theorem Bg5:∀ds:w5,2*ds.length<=Ji ds
 | []=>au _
 | d::r=>by have:=Bg5 r;show 2*(r.length+1)<=wt d+2+Ji r;lia
theorem A7c {d:t6}:∀{ds:w5},d∈ds->wt d<=Ji ds
 | a::r,h=>by
  show wt d<=wt a+2+Ji r
  rcases aB.mp h with rfl | h
  ·exact aq (fH _ 2) (fH _ _)
  ·exact aq (A7c h) (Nat.le_add_left _ _)
theorem Ad0:∀vs:m6,Tw (vs.map Vl.d)=true
 | []=>rfl
 | v::vs=>by
  show (noL v.d&&Tw (vs.map Vl.d))=true
  rw[Ad0 vs]
  cases v <;> rfl
theorem Ar2:∀a:v4,Tw (a.map PyData.str)=true
 | []=>rfl
 | x::a=>by show (true&&Tw (a.map PyData.str))=true;rw[Ar2 a];rfl
theorem Ah2 (h:∀d∈ds,noL d=true):Tw ds=true:=by
 induction ds with
 | nil=>rfl
 | cons d r a=>show (noL d&&Tw r)=true;grind
theorem A2f {d:t6}:∀{ds:w5},d∈ds->Tw ds=true->noL d=true
 | a::r,h,l=>by
  obtain⟨l1,l2⟩:=aA.mp (show (noL a&&Tw r)=true from l)
  rcases aB.mp h with rfl | h
  ·exact l1
  ·exact A2f h l2
theorem Rx (n:Nat):∀(d:t6),wt d<=16000000->noL d=true->Short n d:=by
 induction n with
 | zero=>intro d _ _;trivial
 | succ n c =>
  intro d h b
  cases d with
  | tuple e =>
   have h := aq (fH _ 4) h
   exact⟨aq (aq (Nat.le_mul_of_pos_left _ (by decide)) (Bg5 _)) h,λd a=>c d (aq (A7c a) h) (A2f a b)⟩
  | list e=>cases b
  | _=>trivial
theorem Ah9:∀(n:Nat) (d:t6),d.depth<n->n<=40->d.canLay0=true->Short n d->Bu n [.im d,.im d]=.ret (.im (.bool true)) [.im d,.im d]
 | 0,d,h,_,_,_=>absurd h (Nat.not_lt_zero _)
 | n+1,d,h,hn,hl,hs=>by
  have fb:∀b:Bool,Cq (.bool b)=true:=λb=>rfl
  have fl:Cq d=true:=by unfold Cq;rw[hl,aR (show d.depth<=40 from aq (Nat.le_of_lt_succ h) (eN hn))];rfl
  have fi:∀k:Nat,Cq (.int (k:Int))=true:=λk=>rfl
  have loop:∀ds:w5,(∀e∈ds,Bu n [.im e,.im e]=.ret (.im (.bool true)) [.im e,.im e])->∃c',Dl (cgT 2 (Aw (cgN 0) (Aw (cgN 1) Cu))) Be (cF (Bu n) (Ab (Aa 0) (Ab (Aa 1) Ai))) (Gy ds ds) [] [none,none]=.ok ((Gy ds ds).map λ_=>.bool true) c'/\∃a b,c'=[a,b]:=λds hds=>by
   have:=Zn (g:=cgT 2 (Aw (cgN 0) (Aw (cgN 1) Cu))) (ft:=Be) (fe:=cF (Bu n) (Ab (Aa 0) (Ab (Aa 1) Ai))) (I:=λc=>∃a b,c=[a,b]) (F:=λ_=>.bool true) (items:=Gy ds ds) (acc:=[]) (c:=[none,none]) ⟨none,none,rfl⟩ (λx c hx ⟨a,b,hc⟩=>by
    subst hc;obtain⟨e,he,rfl⟩:=Bo0 hx
    refine⟨[sI e,sI e],?_,_,_,rfl⟩
    wp_walk using hds e he)
   simpa using this
  have fin:∀ds:w5,(Gy ds ds).map (λ_=>PyData.bool true)=List.replicate ds.length (.bool true):=λds=>by
   rw[List.map_const'];unfold Gy;rw[ao,dO,e_]
  show Ef 2 2 (Gj (Bu n)) _=_
  cases d with
  | none=>wp_walk using Gj,Qm,Hy,Uu,Io,Ni fl fl,Ni (fb _) (fb _),PyData.eqv,cD
  | bool b=>wp_walk using Gj,Qm,Hy,Uu,Io,Ni fl fl,Ni (fb _) (fb _),PyData.eqv,cD
  | int i=>wp_walk using Gj,Qm,Hy,Uu,Io,Ni fl fl,Ni (fb _) (fb _),PyData.eqv,cD
  | str x=>wp_walk using Gj,Qm,Hy,Uu,Io,Ni fl fl,Ni (fb _) (fb _),PyData.eqv,cD
  | dict k=>cases hl
  | list ds=>exact hs.elim
  | tuple ds =>
   have hd:∀e∈ds,Bu n [.im e,.im e]=.ret (.im (.bool true)) [.im e,.im e]:=λe he=>Ah9 n e (bD (A0i he) (Nat.lt_of_succ_lt_succ h)) (eN hn) (Az7 he hl) (hs.2 e he)
   obtain⟨c',e1,a,b,rfl⟩:=loop ds hd;rw[fin]at e1
   have e2:cLC [none,none] (U4 (Aa 0) (Aa 1)) (cgT 2 (Aw (cgN 0) (Aw (cgN 1) Cu))) Be (cF (Bu n) (Ab (Aa 0) (Ab (Aa 1) Ai))) [sI (.tuple ds),sI (.tuple ds)]=.ok (.o (.ls false (List.replicate ds.length (.bool true)))) [sI (.tuple ds),sI (.tuple ds)] :=
    Dm (ds:=Gy ds ds) (c1:=[sI (.tuple ds),sI (.tuple ds)]) (by wp_walk using U4,Jo) (by unfold Gy;rw[ao,dO,e_];exact hs.1) e1 rfl
   wp_walk using Gj,Qm,Hy,Uu,Ni (fb _) (fb _),Hu,Ni (fi _) (fi _),PyData.eqv,cD,e2,Aq7,Ud,A8b
theorem A4p {n:Nat}{d:t6}{k w:Nat}(h:Good d k w)(hk:k<n)(hn:n<=40)(hw:w<=16000000)(hl:noL d=true):Bu n [.im d,.im d]=.ret (.im (.bool true)) [.im d,.im d] :=
 Ah9 n d (bD h.dep hk) hn h.lay (Rx n d (aq h.wgt hw) hl)
theorem Zi {x:Str}(h:x∈names12):Good (.str x) 0 1921:=by
 have:VB (.str x):=by
  simp only[names12,aB,a_,bc]at h
  rcases h with rfl | rfl | rfl | rfl | rfl | rfl | rfl | rfl | rfl | rfl | rfl | rfl <;> decide
 exact Oj this
theorem Ab6 {ns:v4}{k:Nat}(h:∀x∈ns,x∈names12)(hk:ns.length<=k):Good (nD ns) 1 (1923*k+4) :=
 Good.tup (λd a=>by obtain⟨v,b,rfl⟩:=aG.mp a;exact Zi (h v b)) (by simp_all)
theorem Az5 {c:Option (m6)}{v:Nat}(h:Wx v c)(hv:v<=5):Good (Ck c) 1 9619:=by
 cases c with
 | none=>exact⟨rfl,rfl,rfl,aM _,by decide⟩
 | some a=>exact(Jx (h _ rfl).2 (show a.length<=5 by rw[(h _ rfl).1];grind)).mono (au _) (by decide)
theorem A5q {k n v:Nat}{r:List Vl×List (Option (m6))}(h:Ak4 k n v r)(hk:k<=2)(hn:n<=12)(hv:v<=5):Good (Qe r) 3 250000:=by
 have a:Good _ 2 115460:=(Jx h.part (by rw[h.plen];omega)).mono (by decide) (by decide)
 have b:Good _ 2 115460:=(Good.tup (λd e=>by obtain⟨c,f,rfl⟩:=aG.mp e;exact Az5 (h.cells c f) hv) (by rw[ao,h.clen];omega)).mono (by decide) (by decide)
 have t:=Good.tup (ds:=[tD r.1,.tuple (r.2.map Ck)]) (n:=2) (w:=115460) (k:=2) λd e=>by
  grind (au _)
 exact t.mono (by decide) (by decide)
noncomputable def Dv (heads:m5) (r:List Vl×List (Option (m6))):List (List Vl×List Vl×Option (m6)):=(heads.zip r.2).map λq=>(r.1,q.1,q.2)
def Wd.along (w:Wd):List (List Vl×List Vl×Option (m6)):=w.rows.flatMap (Dv w.heads)
def Mw (t:List Vl×List Vl×Option (m6)):t6:=.tuple [tD t.1,tD t.2.1,Ck t.2.2]
theorem Nk {α β:Type}(f:α->t6)(g:β->t6):∀(as:List α) (bs:List β),Gy (as.map f) (bs.map g)=(as.zip bs).map λq=>.tuple [f q.1,g q.2]
 | [],bs=>by simp[Gy]
 | a::as,[]=>by simp[Gy]
 | a::as,b::bs=>by
  have:=Nk f g as bs;unfold Gy at this ⊢;rw[aF,aF,cW,aF,this,cW,aF]
theorem Qo (heads:m5)(r:List Vl×List (Option (m6))):(Dv heads r).length<=heads.length:=by
 unfold Dv;grind
theorem S7 (heads:m5):∀rows:List (List Vl×List (Option (m6))),(rows.flatMap (Dv heads)).length<=heads.length*rows.length
 | []=>by simp
 | r::rs=>by
  have:=S7 heads rs;have:=Qo heads r;rw[List.flatMap_cons,aH,bM,Nat.mul_succ];lia
theorem Wz {w:Wd}(h1:w.heads.length<=1000)(h2:w.rows.length<=1000):Es [.im w.d]=.ret (.ls false (w.along.map Mw)) [.im w.d]:=by
 have f:=Fz (g:=cgT 2 (Aw (cgN 2) (Aw (cgN 3) Cu))) (body:=Fq (A3t (Aa 1) (cLC [none,none,some 2] (U4 (cOp Aj (Aa 0) (cC (.int 3))) (Aa 3)) (cgT 2 (Aw (cgN 0) (Aw (cgN 1) Cu))) Be (Ci (Ab (Aa 2) (Ab (Aa 0) (Ab (Aa 1) Ai))))))) (items:=w.rows.map Qe) (n:=0)
  (c:=[sI w.d,sF [],none,none])
  (P:=λk c=>∃x y,c=[sI w.d,sF (((w.rows.take k).flatMap (Dv w.heads)).map Mw),x,y])
  ⟨none,none,rfl⟩ (λk d c t i=>by
   rw[aO]at i ⊢;obtain⟨x,y,rfl⟩:=i;obtain⟨r,m,rfl⟩:=El t;have hk:k<w.rows.length:=(bG.mp m).1
   obtain⟨s,l,a,b,rfl⟩:=Zn (g:=cgT 2 (Aw (cgN 0) (Aw (cgN 1) Cu))) (ft:=Be) (fe:=Ci (Ab (Aa 2) (Ab (Aa 0) (Ab (Aa 1) Ai)))) (I:=λc=>∃a b,c=[a,b,sI (tD r.1)]) (F:=λd=>match d with
    | .tuple [x,y]=>.tuple [tD r.1,x,y]
    | d=>d) (items:=Gy (w.heads.map tD) (r.2.map Ck)) (acc:=[]) (c:=[none,none,sI (tD r.1)]) ⟨none,none,rfl⟩ (λx c j ⟨a,b,o⟩=>by
    subst o;rw[Nk]at j;obtain⟨q,hq,rfl⟩:=aG.mp j
    refine⟨[sI (tD q.1),sI (Ck q.2),sI (tD r.1)],?_,_,_,rfl⟩
    wp_walk using bC)
   have u:(Gy (w.heads.map tD) (r.2.map Ck)).map (λd=>match d with
    | .tuple [x,y]=>.tuple [tD r.1,x,y]
    | d=>d)=(Dv w.heads r).map Mw:=by
    rw[Nk,cV];unfold Dv;rw[cV]
    rfl
   rw[dC,u]at l
   have z:cLC [none,none,some 2] (U4 (cOp Aj (Aa 0) (cC (.int 3))) (Aa 3)) (cgT 2 (Aw (cgN 0) (Aw (cgN 1) Cu))) Be (Ci (Ab (Aa 2) (Ab (Aa 0) (Ab (Aa 1) Ai)))) [sI w.d,sF (((w.rows.take k).flatMap (Dv w.heads)).map Mw),sI (tD r.1),sI (.tuple (r.2.map Ck))] =
    .ok (.o (.ls false ((Dv w.heads r).map Mw))) [sI w.d,sF (((w.rows.take k).flatMap (Dv w.heads)).map Mw),sI (tD r.1),sI (.tuple (r.2.map Ck))] :=
    Dm (ds:=Gy (w.heads.map tD) (r.2.map Ck)) (c1:=[sI w.d,sF (((w.rows.take k).flatMap (Dv w.heads)).map Mw),sI (tD r.1),sI (.tuple (r.2.map Ck))]) (by wp_walk using U4,Aj,Wd.d,Wd.ps,Jo) (by unfold Gy;rw[ao,dO,ao];lia) l (by wp_walk using bC)
   refine⟨[sI w.d,sF (((w.rows.take (k+1)).flatMap (Dv w.heads)).map Mw),sI (tD r.1),sI (.tuple (r.2.map Ck))],.inl ?_,_,_,rfl⟩
   have v:(w.rows.take (k+1)).flatMap (Dv w.heads)=(w.rows.take k).flatMap (Dv w.heads)++Dv w.heads r:=by
    rw[fZ,m];simp
   have h:(((w.rows.take k).flatMap (Dv w.heads)).map Mw).length+((Dv w.heads r).map Mw).length<=16000000:=by
    rw[ao,ao];have a:=S7 w.heads (w.rows.take k);have b:=Qo w.heads r
    have:w.heads.length*(w.rows.take k).length<=1000*1000:=gf h1 (by rw[dg];lia)
    lia
   wp_walk using Qe,z,h,v,bA)
 obtain⟨s,e,x,y,rfl⟩:=f;rw[aO,ao,dN]at e
 refine Jy (p:=.sl 1) (c:=[sI w.d,sF (w.along.map Mw),x,y]) ?_ rfl (by wp_walk using bC)
 refine (Bo ((Ox (by wp_walk using Bl,Aj,Wd.d,Wd.ps)).trans e)).trans ?_
 wp_walk using Wd.along
theorem Bm5 {neg:Bool}:Io neg .none .none=sI (.bool (!neg)):=rfl
theorem B3z {neg:Bool}{vs:m6}:Io neg (tD vs) .none=sI (.bool neg):=rfl
noncomputable def Ah5 (t:List Vl×List Vl×Option (m6)):Option (m6):=t.2.2.map λc=>t.1++t.2.1++c
def Wd.out (w:Wd):m5:=w.along.filterMap Ah5
def Wd.outD (w:Wd):t6:=.tuple [nD (w.key++w.names++w.vals),.tuple (w.out.map tD)]
theorem A5f {w:Wd}{t:List Vl×List Vl×Option (m6)}(h:t∈w.along):∃r∈w.rows,t.1=r.1/\t.2.1∈w.heads/\t.2.2∈r.2:=by
 obtain⟨r,d,b⟩:=List.mem_flatMap.mp h;obtain⟨q,c,a⟩:=aG.mp b;have:=iw c
 grind
theorem Va {w:Wd}(h:w.Ok){t:List Vl×List Vl×Option (m6)}(ht:t∈w.along):VBs t.1/\t.1.length=w.key.length/\VBs t.2.1/\t.2.1.length=w.names.length/\Wx w.vals.length t.2.2:=by
 obtain⟨r,hr,e,hh,hc⟩:=A5f ht;have ok:=h.rows r hr;rw[e];exact⟨ok.part,ok.plen,(h.heads _ hh).2,(h.heads _ hh).1,ok.cells _ hc⟩
theorem Af8 {w:Wd}(h:w.Ok):∀o∈w.out,VBs o/\o.length=w.key.length+w.names.length+w.vals.length:=by
 intro o ho;obtain⟨t,ht,e⟩:=dY.mp ho;obtain⟨a1,a2,a3,a4,a5⟩:=Va h ht;unfold Ah5 at e;obtain⟨c,hc,rfl⟩:=aW.mp e;obtain⟨l,v⟩:=a5 c hc
 exact⟨VBs.app (VBs.app a1 a3) v,by rw[aH,aH,a2,a4,l]⟩
theorem Uk {w:Wd}(h:w.Ok):w.along.length<=144:=by
 have:=S7 w.heads w.rows;have := gf h.hlen h.rlen
 show (w.rows.flatMap _).length<=144
 lia
theorem Bj9 {w:Wd}(h:w.Ok):w.out.length<=144:=aq (List.length_filterMap_le _ _) (Uk h)
theorem A2u {a b:m6}(h:a.length+b.length<=16000000):Av (tD a) (tD b)=sI (tD (a++b)):=by
 unfold tD
 show (if (a.map _).length+(b.map _).length<=16000000 then some _ else none)=_
 simp_all
theorem add_n {a b:v4}(h:a.length+b.length<=16000000):Av (nD a) (nD b)=sI (nD (a++b)):=by
 unfold nD
 show (if (a.map _).length+(b.map _).length<=16000000 then some _ else none)=_
 simp_all
theorem Ul {w:Wd}(h:w.Ok):Gh [.im w.d]=.ret (.im w.outD) [.im w.d]:=by
 have l1:=h.klen;have l2:=h.nlen;have l3:=h.vlen
 have s:=Wz (w:=w) (by have:=h.hlen;lia) (by have:=h.rlen;lia)
 obtain⟨v,e,a,b,x,rfl⟩:=Yb (g:=cgT 3 (Aw (cgN 0) (Aw (cgN 1) (Aw (cgN 2) Cu)))) (ft:=Bh (cOp (Io true) (Aa 2) (cC (.none)))) (fe:=cOp Av (cOp Av (Aa 0) (Aa 1)) (Aa 2)) (I:=λc=>∃a b x,c=[a,b,x]) (F:=λd=>match d with
  | .tuple [.tuple p,.tuple q,.tuple r]=>some (.tuple (p++q++r))
  | _=>none) (items:=w.along.map Mw) (acc:=[]) (c:=[none,none,none]) ⟨none,none,none,rfl⟩ (λx c n ⟨a,b,z,o⟩=>by
  subst o;obtain⟨t,m,rfl⟩:=aG.mp n;obtain⟨a1,i,a3,j,l⟩:=Va h m;obtain⟨p,q,r⟩:=t;have i:p.length=w.key.length:=i;have j:q.length=w.names.length:=j
  cases r with
  | none =>
   refine⟨[sI (tD p),sI (tD q),sI .none],?_,_,_,_,rfl⟩
   wp_walk using Mw,Ck,Bm5
   rfl
  | some r =>
   have lr:=(l r rfl).1
   have e:=A2u (a:=p) (b:=q) (by lia)
   have f:=A2u (a:=p++q) (b:=r) (by rw[aH];lia)
   refine⟨[sI (tD p),sI (tD q),sI (tD r)],?_,_,_,_,rfl⟩
   wp_walk using Mw,Ck,B3z,e,f
   unfold tD
   rw[bA,bA])
 have u:(w.along.map Mw).filterMap (λd=>match d with
  | .tuple [.tuple p,.tuple q,.tuple r]=>some (.tuple (p++q++r))
  | _=>none)=w.out.map tD:=by
  unfold Wd.out;rw[jf,List.map_filterMap]
  congr 1
  funext t
  obtain⟨p,q,r⟩:=t
  cases r with
  | none=>rfl
  | some r=>simp[Mw,Ck,tD,Ah5]
 rw[dC,u]at e
 have f:cLC [none,none,none] (Bl (cF Es (Ab (Aa 0) Ai))) (cgT 3 (Aw (cgN 0) (Aw (cgN 1) (Aw (cgN 2) Cu)))) (Bh (cOp (Io true) (Aa 2) (cC (.none)))) (cOp Av (cOp Av (Aa 0) (Aa 1)) (Aa 2)) [sI w.d,none]=.ok (.o (.ls false (w.out.map tD))) [sI w.d,none] :=
  Dm (ds:=w.along.map Mw) (c1:=[sI w.d,none]) (by wp_walk using Bl,s) (by rw[ao];have:=Uk h;lia) e rfl
 have y:=add_n (a:=w.key) (b:=w.names) (by lia)
 have k:=add_n (a:=w.key++w.names) (b:=w.vals) (by rw[aH];lia)
 refine Jy (p:=.o (.im w.outD)) (c:=[sI w.d,sF (w.out.map tD)]) ?_ rfl (by wp_walk using bC)
 show Nz [sI _,none]=_
 refine (Bo (c':=[sI w.d,sF (w.out.map tD)]) (by wp_walk using f)).trans ?_
 wp_walk using Aj,Wd.d,Wd.ps,y,k,Az,Wd.outD
def Ml (heads:m5)(r:List Vl×List (Option (m6))):m5:=(Dv heads r).filterMap Ah5
theorem Ba2 (w:Wd):w.out=w.rows.flatMap (Ml w.heads):=by
 unfold Wd.out Wd.along Ml;rw[List.filterMap_flatMap]
theorem As1 (heads:m5)(r:List Vl×List (Option (m6))):(Ml heads r).length<=heads.length:=aq (List.length_filterMap_le _ _) (Qo heads r)
theorem Ao4 (heads:m5):∀rows:List (List Vl×List (Option (m6))),(rows.flatMap (Ml heads)).length<=heads.length*rows.length
 | []=>by simp
 | r::rs=>by
  have:=Ao4 heads rs;have:=As1 heads r;rw[List.flatMap_cons,aH,bM,Nat.mul_succ];lia
abbrev As7:o_:=cOp Av (cOp Av (Aa 2) (Aa 0)) (Aa 1)
abbrev Ar7:o7:=Bh (cOp (Io true) (Aa 1) (cC (.none)))
theorem Bk8 {w:Wd}(h:w.Ok):Jb [.im w.d]=.ret (.im (.tuple [nD (w.key++w.names++w.vals),.list (w.out.map tD)])) [.im w.d]:=by
 have hk:=h.klen;have hn:=h.nlen;have hv:=h.vlen;have hh:=h.hlen;have hr':=h.rlen;have i0:Aj w.d (.int 0)=sI (nD w.key):=rfl;have i1:Aj w.d (.int 1)=sI (nD w.names):=rfl;have i2:Aj w.d (.int 2)=sI (nD w.vals):=rfl;have i3:Aj w.d (.int 3)=sI (.tuple (w.heads.map tD)):=rfl;have i4:Aj w.d (.int 4)=sI (.tuple (w.rows.map Qe)):=rfl
 have loop:=Fz (g:=cgT 2 (Aw (cgN 2) (Aw (cgN 3) Cu))) (body:=Fq (A3t (Aa 1) (cLC [none,none,some 2] (U4 (cOp Aj (Aa 0) (cC (.int 3))) (Aa 3)) (cgT 2 (Aw (cgN 0) (Aw (cgN 1) Cu))) Ar7 As7))) (items:=w.rows.map Qe) (n:=0)
  (c:=[sI w.d,sF [],none,none])
  (P:=λk c=>∃x y,c=[sI w.d,sF (((w.rows.take k).flatMap (Ml w.heads)).map tD),x,y])
  ⟨none,none,rfl⟩ (λk d c hd hP=>by
   rw[aO]at hP ⊢;obtain⟨x,y,rfl⟩:=hP;obtain⟨r,hr,rfl⟩:=El hd;have mr:=bz hr;have hk:k<w.rows.length:=(bG.mp hr).1
   obtain⟨c',e1,a,b,rfl⟩:=Ks (g:=cgT 2 (Aw (cgN 0) (Aw (cgN 1) Cu))) (ft:=Ar7) (fe:=As7) (I:=λc=>∃a b,c=[a,b,sI (tD r.1)]) (f:=λq:List Vl×Option (m6)=>PyData.tuple [tD q.1,Ck q.2]) (G:=λq=>(Ah5 (r.1,q.1,q.2)).map tD) (xs:=w.heads.zip r.2) (acc:=[]) (c:=[none,none,sI (tD r.1)]) ⟨none,none,rfl⟩ (λq c hq ⟨a,b,hc⟩=>by
    subst hc;have ok:=Va h (t:=(r.1,q.1,q.2)) (List.mem_flatMap.mpr ⟨r,mr,aG.mpr ⟨q,hq,rfl⟩⟩)
    refine⟨[sI (tD q.1),sI (Ck q.2),sI (tD r.1)],?_,_,_,rfl⟩
    obtain⟨q1,q2⟩:=q
    cases q2 with
    | none =>
     have n0:Io true (Ck none) .none=sI (.bool false):=rfl;have g0:(Ah5 (r.1,q1,none)).map tD=none:=rfl;rw[g0]
     show Mi _ _ _ (.tuple [tD q1,Ck none]) _=_
     generalize Ck none=C at *
     generalize tD q1=Q at *
     generalize tD r.1=T at *
     wp_walk using Ar7,As7,n0
    | some vs =>
     have n0:Io true (Ck (some vs)) .none=sI (.bool true):=rfl;have l1:r.1.length=w.key.length:=ok.2.1;have l2:q1.length=w.names.length:=ok.2.2.2.1;have l3:vs.length=w.vals.length:=(ok.2.2.2.2 vs rfl).1
     have a1:=A2u (a:=r.1) (b:=q1) (by lia)
     have a2:=A2u (a:=r.1++q1) (b:=vs) (by rw[aH];lia)
     have a2:Av (tD (r.1++q1)) (Ck (some vs))=sI (tD (r.1++q1++vs)):=a2;have g0:(Ah5 (r.1,q1,some vs)).map tD=some (tD (r.1++q1++vs)):=rfl;rw[g0]
     show Mi _ _ _ (.tuple [tD q1,Ck (some vs)]) _=_
     generalize Ck (some vs)=C at *
     generalize tD (r.1++q1++vs)=X3 at *
     generalize tD (r.1++q1)=X2 at *
     generalize tD q1=Q at *
     generalize tD r.1=T at *
     wp_walk using Ar7,As7,n0,a1,a2)
   have ez:(w.heads.zip r.2).filterMap (λq=>(Ah5 (r.1,q.1,q.2)).map tD)=(Ml w.heads r).map tD:=by
    unfold Ml Dv;rw[jf,List.map_filterMap];rfl
   rw[dC,ez]at e1;rw[<- Nk]at e1
   have e2:cLC [none,none,some 2] (U4 (cOp Aj (Aa 0) (cC (.int 3))) (Aa 3)) (cgT 2 (Aw (cgN 0) (Aw (cgN 1) Cu))) Ar7 As7 [sI w.d,sF (((w.rows.take k).flatMap (Ml w.heads)).map tD),sI (tD r.1),sI (.tuple (r.2.map Ck))] =
    .ok (.o (.ls false ((Ml w.heads r).map tD))) [sI w.d,sF (((w.rows.take k).flatMap (Ml w.heads)).map tD),sI (tD r.1),sI (.tuple (r.2.map Ck))]:=by
    refine Dm (ds:=Gy (w.heads.map tD) (r.2.map Ck)) (c1:=[sI w.d,sF (((w.rows.take k).flatMap (Ml w.heads)).map tD),sI (tD r.1),sI (.tuple (r.2.map Ck))]) ?_ (by unfold Gy;rw[ao,dO,ao];lia) e1 (by wp_walk using bC)
    generalize w.d=D at *
    wp_walk using U4,i3,Jo
   refine⟨[sI w.d,sF (((w.rows.take (k+1)).flatMap (Ml w.heads)).map tD),sI (tD r.1),sI (.tuple (r.2.map Ck))],.inl ?_,_,_,rfl⟩
   have et:(w.rows.take (k+1)).flatMap (Ml w.heads)=(w.rows.take k).flatMap (Ml w.heads)++Ml w.heads r:=by
    rw[fZ,hr];simp
   have len:(((w.rows.take k).flatMap (Ml w.heads)).map tD).length+((Ml w.heads r).map tD).length<=16000000:=by
    rw[ao,ao];have a:=Ao4 w.heads (w.rows.take k);have b:=As1 w.heads r
    have:w.heads.length*(w.rows.take k).length<=1000*1000:=gf (by lia) (by rw[dg];lia)
    lia
   wp_walk using Qe,e2,len,et,bA)
 obtain⟨c',e,x,y,rfl⟩:=loop;rw[aO,ao,dN,<- Ba2]at e
 have a1:=add_n (a:=w.key) (b:=w.names) (by lia)
 have a2:=add_n (a:=w.key++w.names) (b:=w.vals) (by rw[aH];lia)
 refine Jy (p:=.o (.im (.tuple [nD (w.key++w.names++w.vals),.list (w.out.map tD)]))) (c:=[sI w.d,sI (.list (w.out.map tD)),x,y]) ?_ rfl (by wp_walk using bC)
 show Ol [sI w.d,none,none,none]=_
 unfold Ol
 refine (Bo (c':=[sI w.d,sF [],none,none]) (by wp_walk using (rfl:True=True))).trans ?_
 refine (Bo ((Ox (ds:=w.rows.map Qe) (c1:=[sI w.d,sF [],none,none]) ?_).trans e)).trans ?_
 ·generalize w.d=D at *
  wp_walk using Bl,i4,U.Jo
 ·generalize w.out.map tD=O1 at *
  generalize w.d=D at *
  wp_walk using i0,i1,i2,a1,a2
abbrev B2r:o_:=Np (Aa 1) (cF Al (Ab (Aa 2) (Ab (Gr (Aa 1)) Ai)))
theorem Bf9 {n:Nat}{ds:w5}{cols:v4}(hb:Bx n ds)(hn:n<2 ^ 38)(hl:cols.length<=12) :
 ∃(mx left:v4) (d1:w5) (t:n8),(mx++left).Perm cols/\mx.length=cols.length/\Bx (n+12) d1/\Dl (cgN 0) Be B2r (cols.map PyData.str) [] [none,sT (cols.map PyData.str),sT ds]=.ok (mx.map PyData.str) [t,sT (left.map PyData.str),sT d1]:=by
 obtain⟨acc,cI,e,left,d1,t,mx,rfl,b1,rfl,pm,hk⟩:=Ko (g:=cgN 0) (ft:=Be) (fe:=B2r) (items:=cols.map PyData.str) (acc:=[]) (n:=0) (c:=[none,sT (cols.map PyData.str),sT ds])
  (P:=λk acc c=>∃(left:v4) (d1:w5) (t:n8) (mx:v4),c=[t,sT (left.map PyData.str),sT d1]/\Bx (n+k) d1/\acc=mx.map PyData.str/\(mx++left).Perm cols/\mx.length=k)
  ⟨cols,ds,none,[],rfl,hb,rfl,List.Perm.refl _,rfl⟩ (λk d acc c hd hP=>by
   rw[aO]at hP ⊢;obtain⟨left,d1,t,mx,rfl,b1,rfl,pm,hl'⟩:=hP
   have hk:k<cols.length:=by have:=(bG.mp hd).1;rw[ao]at this;exact this
   have ll:left.length+k=cols.length:=by have:=pm.length_eq;rw[aH,hl']at this;lia
   obtain⟨r,d2,b2,r0,r1,e1⟩:=Cd (m:=(left.length:Int)) b1 (by lia) (by lia) (by lia)
   have hr:r.toNat<left.length:=by lia
   have hx:(left.map PyData.str)[r.toNat]?=some (.str left[r.toNat]):=by simp[hr]
   have hix:ixN left.length r=some r.toNat:=A0r r0 r1
   refine⟨some (.str left[r.toNat]),[sI d,sT ((left.eraseIdx r.toNat).map PyData.str),sT d2],?_,left.eraseIdx r.toNat,d2,_,mx++[left[r.toNat]],rfl,b2.mono (by lia),by simp,?_,by simp[hl']⟩
   ·wp_walk using Hu,ao,e1,hix,hx,Tu,show left.length<=16000000 by lia
   ·rw[fG]
    exact(List.Perm.append_left mx (Qi left hr)).trans pm)
 rw[aO,ao]at b1 hk
 exact⟨mx,left,d1,t,pm,hk,b1.mono (by lia),e⟩
theorem Ba6 {a:Nat}:cutD ds (some (a:Int)) none=ds.drop a:=by
 unfold cutD;rw[HT.Ap7,HT.Vm]
 rcases Nat.le_total a _ with q | q
 ·rw[fB q,List.take_of_length_le (by grind)]
 simp_all
theorem A4m {n:Nat}{ds:w5}{w:Wd}(hb:Bx n ds)(hn:n<2 ^ 36)(h:w.Ok) :
 ∃(ks ns:v4) (d1:w5),(ks++ns).Perm (w.key++w.names)/\Bx (n+13) d1/\Ex [.ls true ds,.im w.d]=.ret (.im (.tuple [.list (ks.map PyData.str),.list (ns.map PyData.str)])) [.ls true d1,.im w.d]:=by
 have hk:=h.klen;have hn':=h.nlen
 have hl:(w.key++w.names).length<=12:=by rw[aH];lia
 obtain⟨mx,left,d1,u,pm,ml,b1,eL⟩:=Bf9 hb (by lia) hl
 obtain⟨q,d2,b2,q0,q1,e2⟩:=Cd (m:=((mx.length:Int)+1)) b1 (by lia) (by lia) (by lia)
 obtain⟨m,rfl⟩:=fu q0
 have hleft:left=[]:=by
  have:=pm.length_eq;rw[aH]at this
  exact List.length_eq_zero_iff.mp (by lia)
 subst hleft;rw[cA]at pm;have i0:Aj w.d (.int 0)=sI (nD w.key):=rfl;have i1:Aj w.d (.int 1)=sI (nD w.names):=rfl
 have a1:=add_n (a:=w.key) (b:=w.names) (by lia)
 have li:Hl (nD (w.key++w.names))=sF ((w.key++w.names).map PyData.str):=rfl
 have lr:Hu [.list (mx.map PyData.str)]=sI (.int mx.length):=by show some (O.im (.int ((mx.map PyData.str).length:Nat)))=_;rw[ao]
 have ai:∀i j:Int,Av (.int i) (.int j)=sI (.int (i+j)):=λi j=>rfl
 have s1:G3 (.list (mx.map PyData.str)) none (some (m:Int))=sF ((mx.take m).map PyData.str):=by
  show some (O.ls false (cutD (mx.map PyData.str) none (some (m:Int))))=_
  rw[A8f,List.map_take]
 have s2:G3 (.list (mx.map PyData.str)) (some (m:Int)) none=sF ((mx.drop m).map PyData.str):=by
  show some (O.ls false (cutD (mx.map PyData.str) (some (m:Int)) none))=_
  rw[Ba6,List.map_drop]
 have e4:cLC [none,some 2,some 0] (Bl (cOp Av (cOp Aj (Aa 1) (cC (.int 0))) (cOp Aj (Aa 1) (cC (.int 1))))) (cgN 0) Be B2r [sT ds,sI w.d,sF ((w.key++w.names).map PyData.str),none,none]=.ok (.o (.ls false (mx.map PyData.str))) [sT d1,sI w.d,sF [],none,none]:=by
  refine Dm (ds:=(w.key++w.names).map PyData.str) (c1:=[sT ds,sI w.d,sF ((w.key++w.names).map PyData.str),none,none]) (cI:=[u,sT ([].map PyData.str),sT d1]) ?_ (by rw[ao];lia) (by simpa[cIn,O.flag] using eL) (by wp_walk using bC)
  have a1:Av (nD w.key) (nD w.names)=sI (.tuple ((w.key++w.names).map PyData.str)):=a1
  generalize w.d=D at *
  wp_walk using Bl,i0,i1,a1
 refine⟨mx.take m,mx.drop m,d2,by rw[List.take_append_drop];exact pm,b2.mono (by lia),?_⟩
 refine Jy (p:=.o (.im (.tuple [.list ((mx.take m).map PyData.str),.list ((mx.drop m).map PyData.str)]))) (c:=[sT d2,sI w.d,sF [],sF (mx.map PyData.str),sI (.int (m:Nat))]) ?_ rfl (by wp_walk using bC)
 show Ez [sT ds,sI w.d,none,none,none]=_
 unfold Ez
 generalize hT:cLC [none,some 2,some 0] (Bl (cOp Av (cOp Aj (Aa 1) (cC (.int 0))) (cOp Aj (Aa 1) (cC (.int 1))))) (cgN 0) Be (Np (Aa 1) (cF Al (Ab (Aa 2) (Ab (Gr (Aa 1)) Ai))))=T at *
 generalize (w.key++w.names).map PyData.str=L at *
 generalize nD (w.key++w.names)=N3 at *
 generalize nD w.key=N1 at *
 generalize nD w.names=N2 at *
 generalize w.d=D at *
 refine (Bo (c':=[sT ds,sI D,sF L,none,none]) (by wp_walk using i0,i1,a1,li)).trans ?_
 refine (Bo (c':=[sT d1,sI D,sF [],sF (mx.map PyData.str),none]) (by wp_walk using e4)).trans ?_
 refine (Bo (c':=[sT d2,sI D,sF [],sF (mx.map PyData.str),sI (.int (m:Nat))]) (by wp_walk using lr,ai,e2)).trans ?_
 wp_walk using s1,s2
noncomputable def Uw (x:Str) (l:v4):Nat:=l.countP (λz=>z==x)
theorem Xl:∀l:v4,strsOf (l.map PyData.str)=some l
 | []=>rfl
 | x::l=>by
  show (strsOf (l.map PyData.str)).map (x::·)=_
  rw[Xl l];rfl
theorem count_is (x:Str)(l:v4):Kv (.list (l.map PyData.str)) (.str x)=sI (.int (Uw x l:Nat)):=by
 show (strsOf (l.map PyData.str)).map _=_
 rw[Xl];rfl
noncomputable def sqD (b:Bool) (l:w5):t6:=if b then .tuple l else .list l
theorem Ab9 (h:l.length<=16000000):Hl (sqD b l)=sF l:=by
 cases b <;> simp[sqD,Hl]
theorem Ur {α:Type}(p:α->Bool):∀l:List α,boolsOf (l.map λa=>PyData.bool (p a))=some (l.map p)
 | []=>rfl
 | x::l=>by
  show (boolsOf (l.map λa=>PyData.bool (p a))).map (p x::·)=_
  rw[Ur p l];rfl
def okC (cols L:v4):Bool:=decide (L.length=cols.length)&&(cols.map λx=>decide (Uw x L=1)).all id
theorem eqi (neg:Bool)(a b:Int):Cr neg (.int a) (.int b)=sI (.bool (if neg then !decide (a=b) else decide (a=b))):=by
 rw[Ni rfl rfl]
 have:PyData.eqv (.int a) (.int b)=decide (a=b):=by
  show (a==b)=_
  by_cases z:a=b
  ·rw[aR z];exact dJ.mpr z
  ·rw[bw z];exact cU.mpr z
 rw[this]
theorem A7s {cols ks ns vs:v4}{a b:Bool}(hc:cols.length<=60)(h1:ks.length<=60)(h2:ns.length<=60)(h3:vs.length<=60)(hv:1<=vs.length) :
 Cw [.tuple (cols.map PyData.str),sqD a (ks.map PyData.str),sqD b (ns.map PyData.str),.tuple (vs.map PyData.str)]=if okC cols (ks++ns++vs)=true then .ret (.im .none) else .ex ⟨Str.ofString "BadColumns",none⟩:=by
 have c1:=Ab9 (b:=a) (l:=ks.map PyData.str) (by rw[ao];lia)
 have c2:=Ab9 (b:=b) (l:=ns.map PyData.str) (by rw[ao];lia)
 have c3:Hl (.tuple (vs.map PyData.str))=sF (vs.map PyData.str):=Ab9 (b:=true) (by rw[ao];lia)
 have c4:Av (.list (ks.map PyData.str)) (.list (ns.map PyData.str))=sF ((ks++ns).map PyData.str):=by
  show (if _ then _ else _)=_
  rw[if_pos (by rw[ao,ao];lia),bA]
 have c5:Av (.list ((ks++ns).map PyData.str)) (.list (vs.map PyData.str))=sF ((ks++ns++vs).map PyData.str):=by
  show (if _ then _ else _)=_
  rw[if_pos (by rw[ao,ao,aH];lia),<- bA]
 have l0:Hu [.tuple (cols.map PyData.str)]=sI (.int cols.length):=by show some (O.im (.int ((cols.map PyData.str).length:Nat)))=_;rw[ao]
 have l1:Hu [.list ((ks++ns++vs).map PyData.str)]=sI (.int (ks++ns++vs).length):=by show some (O.im (.int (((ks++ns++vs).map PyData.str).length:Nat)))=_;rw[ao]
 have l2:Hu [.tuple (vs.map PyData.str)]=sI (.int vs.length):=by show some (O.im (.int ((vs.map PyData.str).length:Nat)))=_;rw[ao]
 have z1:=eqi true ((ks++ns++vs).length:Nat) (cols.length:Nat)
 have z2:Cr false (.int (vs.length:Nat)) (.int 0)=sI (.bool false):=by rw[eqi,bw (by lia)];rfl
 obtain⟨cI,e,u,rfl⟩:=Cz (g:=cgN 0) (ft:=Be) (fe:=cOp (Cr false) (cMt Qk Kv (Aa 1) (Aa 0)) (cC (.int 1))) (I:=λc=>∃u,c=[u,sT ((ks++ns++vs).map PyData.str)]) (f:=PyData.str) (G:=λx=>PyData.bool (decide (Uw x (ks++ns++vs)=1))) (xs:=cols) (acc:=[]) (c:=[none,sT ((ks++ns++vs).map PyData.str)]) ⟨none,rfl⟩
  (λx c hx hI=>by
   obtain⟨u,rfl⟩:=hI
   refine⟨[sI (.str x),sT ((ks++ns++vs).map PyData.str)],?_,_,rfl⟩
   have k1:=count_is x (ks++ns++vs)
   have k2:Cr false (.int (Uw x (ks++ns++vs):Nat)) (.int 1)=sI (.bool (decide (Uw x (ks++ns++vs)=1))):=by
    rw[eqi];exact bU (λb:Bool=>some (O.im (PyData.bool b))) (jD.mpr ⟨λh=>by lia,λh=>by lia⟩)
   generalize (ks++ns++vs).map PyData.str=L at *
   generalize Uw x (ks++ns++vs)=m at *
   wp_walk using cMt,Qk,k1,k2)
 have al:Aq7 (.list (cols.map λx=>PyData.bool (decide (Uw x (ks++ns++vs)=1))))=sI (.bool ((cols.map λx=>decide (Uw x (ks++ns++vs)=1)).all id)):=by
  show (boolsOf _).map _=_
  rw[Ur];rfl
 have hz:(if true=true then !decide (((ks++ns++vs).length:Int)=(cols.length:Int)) else decide (((ks++ns++vs).length:Int)=(cols.length:Int)))=!decide ((ks++ns++vs).length=cols.length):=by
  rw[if_pos rfl];exact bU Bool.not (jD.mpr ⟨λh=>by lia,λh=>by lia⟩)
 rw[hz]at z1
 have ho:okC cols (ks++ns++vs)=(decide ((ks++ns++vs).length=cols.length)&&(cols.map λx=>decide (Uw x (ks++ns++vs)=1)).all id):=rfl
 rw[ho]
 generalize decide ((ks++ns++vs).length=cols.length)=B1 at *
 generalize (cols.map λx=>decide (Uw x (ks++ns++vs)=1)).all id=B2 at *
 generalize (cols.map λx=>PyData.bool (decide (Uw x (ks++ns++vs)=1)))=BL at *
 have e2:∀A1 A2 A3:n8,cLC [none,some 4] (Bl (Aa 0)) (cgN 0) Be (cOp (Cr false) (cMt Qk Kv (Aa 1) (Aa 0)) (cC (.int 1))) [sI (.tuple (cols.map PyData.str)),A1,A2,A3,sF ((ks++ns++vs).map PyData.str)]=.ok (.o (.ls false BL)) [sI (.tuple (cols.map PyData.str)),A1,A2,A3,sF ((ks++ns++vs).map PyData.str)]:=λA1 A2 A3 =>
  Dm (ds:=cols.map PyData.str) (c1:=[sI (.tuple (cols.map PyData.str)),A1,A2,A3,sF ((ks++ns++vs).map PyData.str)]) (by wp_walk using Bl,Jo) (by rw[ao];lia) (by rw[dC]at e;exact e) rfl
 generalize (ks++ns++vs).map PyData.str=L at *
 generalize (ks++ns++vs).length=m1 at *
 generalize sqD a (ks.map PyData.str)=A at *
 generalize sqD b (ns.map PyData.str)=B at *
 cases B1 <;> cases B2 <;> wp_walk using Cw,Ht,K5,T9,xIf,Sq,T4,c1,c2,c3,c4,c5,e2,al,l0,l1,l2,z1,z2
theorem B2v:∃o,Hm [.im .none,.ty (.xc ⟨Str.ofString "BadColumns",none⟩)]=.ret (.im (.tuple [.str "refused",.int 0,.none])) o:=⟨_,rfl⟩
structure Tb where
 cols:v4
 rows:m5
def Tb.d (t:Tb):t6:=.tuple [.tuple (t.cols.map PyData.str),.tuple (t.rows.map tD)]
structure Tb.Ok (t:Tb):Prop where
 nms:Names t.cols
 cpos:1<=t.cols.length
 clen:t.cols.length<=12
 rows:∀r∈t.rows,r.length=t.cols.length/\VBs r
 rlen:t.rows.length<=144
def Y7 (o:O)(ds:w5):Prop:=o=.ls false ds\/o=.im (.list ds)
section
variable {α:Type}[DecidableEq α]
noncomputable def fnd (x:α):List α->Nat
 | []=>0
 | y::l=>if y=x then 0 else fnd x l+1
theorem Og {x:α}:∀{l:List α},x∈l->l[fnd x l]?=some x
 | y::l,h=>by
  unfold fnd
  by_cases e:y=x
  ·rw[if_pos e,e];rfl
  ·rw[if_neg e]
   rcases aB.mp h with h | h
   ·exact absurd h.symm e
   ·rw[dw];exact Og h
theorem A7f {x:α} (h:x∈l):fnd x l<l.length:=(bG.mp (Og h)).1
theorem Vt {x:α}:∀{l:List α}{i:Nat},l.Nodup->l[i]?=some x->fnd x l=i
 | y::l,0,_,h=>by
  have e:y=x:=bY h;unfold fnd;rw[if_pos e]
 | y::l,i+1,nd,h=>by
  rw[dw]at h
  have e:y≠x:=λz=>(bH.mp nd).1 (z▸bz h)
  unfold fnd;rw[if_neg e,Vt (bH.mp nd).2 h]
end
section
variable {α β:Type}[DecidableEq α]
noncomputable def ins (qs:List α) (q:α):List α:=if q∈qs then qs else qs++[q]
def fs (l:List α):List α:=l.foldl ins []
noncomputable def upF (g:α->β) (q:α) (v:β):α->β:=λx=>if x=q then v else g x
theorem Px {qs:List α} (h:q∈qs):ins qs q=qs:=if_pos h
theorem Jv {qs:List α} (h:q∉qs):ins qs q=qs++[q]:=if_neg h
theorem Bn9 {qs:List α} : x∈ins qs q↔x∈qs\/x=q:=by
 by_cases h:q∈qs
 ·rw[Px h]
  grind
 ·rw[Jv h,bx,aQ]
theorem Te {l:List α} : fs (l++[x])=ins (fs l) x:=by unfold fs;grind
theorem Vk {P:List α->Prop}(b:P [])(h1:∀l x,P l->P (l++[x]))(l:List α):P l:=by
 rw[<- l.reverse_reverse];generalize l.reverse=m
 induction m with
 | nil=>grind
 | cons x m a=>grind
theorem zW {l:List α} : x∈fs l↔x∈l:=by
 refine Vk (P:=λl=>∀{x},x∈fs l↔x∈l) Iff.rfl (λl y a x=>?_) l
 rw[Te,Bn9,a,bx,aQ]
theorem A0x (l:List α):(fs l).Nodup:=by
 refine Vk (P:=λl=>(fs l).Nodup) d_ (λl y a=>?_) l
 rw[Te]
 by_cases h:y∈fs l
 ·rw[Px h];grind
 ·rw[Jv h]
  grind
theorem Mg (l:List α):(fs l).length<=l.length:=by
 refine Vk (P:=λl=>(fs l).length<=l.length) (au _) (λl y a=>?_) l
 rw[Te]
 by_cases h:y∈fs l
 ·rw[Px h,aH];lia
 ·rw[Jv h];grind
theorem Vo {l:List α} (h:l[k]?=some x):fs (l.take (k+1))=ins (fs (l.take k)) x:=by
 rw[fZ,h];exact Te
theorem A0y {g:α->β} : upF g q v q=v:=if_pos rfl
theorem Au2 {g:α->β} (h:x≠q):upF g q v x=g x:=if_neg h
theorem Qp {g:α->β} {qs:List α}(h:q∉qs):qs.map (upF g q v)=qs.map g:=List.map_congr_left λx a=>Au2 λe=>h (e▸a)
theorem Vh {g:α->β}{q:α}{v:β}:∀{qs:List α},qs.Nodup->q∈qs->(qs.map g).set (fnd q qs) v=qs.map (upF g q v)
 | x::qs,nd,h=>by
  obtain⟨n1,n2⟩:=bH.mp nd;unfold fnd
  by_cases e:x=q
  ·rw[if_pos e,aF,List.set_cons_zero,aF,Qp (e▸n1),e,A0y]
  ·rw[if_neg e,aF,List.set_cons_succ,aF,Au2 e,Vh n2 ((aB.mp h).resolve_left λz=>e z.symm)]
variable {key:α->t6}(he:∀a b,PyData.eqv (key a) (key b)=decide (a=b))
include he
theorem Au7 {q:α}:∀{qs:List α},q∈qs->O4 (key q) (qs.map key)=some (fnd q qs)
 | x::qs,h=>by
  rw[aF];unfold O4 fnd;rw[he]
  by_cases e:x=q
  ·rw[aR e,if_pos rfl,if_pos e]
  ·rw[bw e,if_neg (by decide),if_neg e,Au7 ((aB.mp h).resolve_left λz=>e z.symm)];rfl
theorem Ac5 {q:α}:∀{qs:List α},q∉qs->O4 (key q) (qs.map key)=none
 | [],_=>rfl
 | x::qs,h=>by
  have e:x≠q:=λz=>h (z▸bR)
  rw[aF];unfold O4
  rw[he,bw e,if_neg (by decide),Ac5 λz=>h (bI _ z)];rfl
theorem A1j (a:qs.Nodup):A3u (qs.map key) (qs.map g) (key q) x=((ins qs q).map key,(ins qs q).map (upF g q (.d x))):=by
 unfold A3u
 by_cases h:q∈qs
 ·simp only[Au7 he h];rw[Px h,Vh a h]
 ·simp only[Ac5 he h];rw[Jv h,bA,bA,aF,cQ,aF,cQ,Qp h,A0y]
theorem Bn3 (c:qs.Nodup) (d:q∉qs->g q=[]) :
 B5g ((Tg (qs.map key) (qs.map λa=>DE.l (g a)) (key q)).2.1[(Tg (qs.map key) (qs.map λa=>DE.l (g a)) (key q)).2.2]?)=some (g q) /\
 (Tg (qs.map key) (qs.map λa=>DE.l (g a)) (key q)).1=(ins qs q).map key /\
 (Tg (qs.map key) (qs.map λa=>DE.l (g a)) (key q)).2.1.set (Tg (qs.map key) (qs.map λa=>DE.l (g a)) (key q)).2.2 (.l (g q++[x]))=(ins qs q).map λa=>DE.l (upF g q (g q++[x]) a):=by
 have b:(λa=>DE.l (upF g q (g q++[x]) a))=upF _ q _:=funext λa=>by unfold upF;split <;> rfl
 unfold Tg
 by_cases h:q∈qs
 ·simp only[Au7 he h]
  refine⟨?_,by rw[Px h],by rw[Px h,b,Vh c h]⟩
  rw[bJ,Og h];rfl
 ·simp only[Ac5 he h]
  refine⟨?_,by rw[Jv h,bA];rfl,?_⟩
  ·rw[dM (by simp),ao,ao,dz,d h];rfl
  ·rw[Jv h,b,bA,Qp h,aF,A0y,List.set_append_right _ _ (by simp),ao,ao,dz];rfl
theorem Ao3 {g:α->t6}{q:α}:∀{qs:List α},O5 (qs.map key) (qs.map g) (key q)=if q∈qs then some (g q) else none
 | []=>rfl
 | x::qs=>by
  rw[aF,aF];unfold O5;rw[he]
  by_cases e:x=q
  ·rw[aR e,if_pos rfl,if_pos (by rw[e];exact bR),e]
  ·rw[bw e,if_neg (by decide),Ao3]
   have:q∈x::qs↔q∈qs:=by rw[aB];exact⟨λz=>z.resolve_left λz=>e z.symm,.inr⟩
   by_cases m:q∈qs
   ·rw[if_pos m,if_pos (this.mpr m)]
   ·rw[if_neg m,if_neg λz=>m (this.mp z)]
omit he
theorem Z8 {g:α->t6}:∀{qs:List α},Ig (qs.map key) (qs.map g)=qs.map λa=>.tuple [key a,g a]
 | []=>rfl
 | x::qs=>by rw[aF,aF,Ig,Z8];rfl
def nmK (l:List α)(k:Nat)(q:α):w5:=((List.range k).filter λi=>decide (l[i]?=some q)).map λi=>PyData.int (i:Nat)
theorem Be4 {l:List α} (h:l[k]?=some x):nmK l (k+1)=upF (nmK l k) x (nmK l k x++[.int (k:Nat)]):=funext λq=>by
 have e:nmK l (k+1) q=nmK l k q++if l[k]?=some q then [.int (k:Nat)] else []:=by
  unfold nmK;rw[List.range_succ,List.filter_append,bA]
  grind
 rw[e]
 by_cases z:q=x
 ·subst z;rw[if_pos h,A0y]
 ·rw[if_neg λy=>z (bY (y.symm.trans h)),cA,Au2 z]
theorem Bk9 {l:List α} (h:q∉l.take k):nmK l k q=[]:=by
 unfold nmK;rw[List.filter_eq_nil_iff.mpr,cQ];intro i a e
 exact h (bz (i:=i) (by grind))
theorem Bm2 (l:List α)(k:Nat)(q:α):(nmK l k q).length<=k:=by
 unfold nmK
 grind
end
theorem Ku {d:Nat}{g:p_}{F:BF}{P:Nat->Ev->w5->List DE->Prop}:∀{items:w5}{n:Nat}{c:Ev}{ks:w5}{es:List DE},P n c ks es ->
 (∀k x c ks es,items[k]?=some x->P (n+k) c ks es->∃c1 c' ks' es',g (.o (.im x)) c=.ok () c1/\Dd d c1=true/\F c1 ks es=.nx c' ks' es'/\P (n+k+1) c' ks' es')->∃c' ks' es',Xc (d:=d) g F items c ks es=.nx c' ks' es'/\P (n+items.length) c' ks' es'
 | [],n,c,ks,es,h0,_=>⟨c,ks,es,rfl,h0⟩
 | x::xs,n,c,ks,es,h0,hs=>by
  obtain⟨c1,c2,ks2,es2,e1,e2,e3,h1⟩:=hs 0 x c ks es rfl h0
  obtain⟨c3,ks3,es3,e4,h2⟩:=Ku (d:=d) (g:=g) (F:=F) (P:=P) (items:=xs) (n:=n+1) h1 (λk d c ks es hk hp=>by
   have:=hs (k+1) d c ks es (by simpa using hk) (by rw[show n+(k+1)=n+1+k by lia];exact hp)
   rw[show n+(k+1)+1=n+1+k+1 by lia]at this
   exact this)
  refine⟨c3,ks3,es3,?_,by rw[bM,show n+(xs.length+1)=n+1+xs.length by lia];exact h2⟩
  show (g (.o (.im x)) c).toB _=_
  rw[e1]
  show (if Dd d c1=true then _ else _)=_
  rw[if_pos e2,e3];exact e4
theorem Vi (h1:fi c=.ok ds c1) (h2:Dd d c1=true):Ad9 (d:=d) fi g F c ks es=Xc (d:=d) g F ds c1 ks es:=by
 unfold Ad9;rw[h1]
 show (if Dd d _=true then _ else _)=_
 grind
theorem Oq (h1:Dd d (c.set d none)=true) (h2:F (c.set d none) [] []=.nx c' ks es):Kg d F g c=g (c'.set d (some (.ty (.ds ks (es.map DE.dat))))):=by
 unfold Kg
 grind
theorem Af6:∀vs:m6,Ff (vs.map Vl.d)=true
 | []=>rfl
 | v::vs=>by
  rw[aF,Ff,Af6 vs]
  cases v <;> rfl
theorem Bd3 (vs:m6):keyB (tD vs)=true:=Af6 _
theorem Af9:∀vs:m6,PyData.depthAll (vs.map Vl.d)=0
 | []=>rfl
 | v::vs=>by
  show max v.d.depth (PyData.depthAll (vs.map Vl.d))=0
  rw[Af9 vs]
  cases v <;> rfl
theorem At8 (h:VBs vs):PyData.canLayAll0 (vs.map Vl.d)=true:=Qw λd a=>by
 obtain⟨v,b,rfl⟩:=aG.mp a;exact(Oj (h v b)).lay
theorem Bw7 (h:VBs vs):Ij (tD vs)=true:=by
 show (Ff _&&PyData.canLayAll0 _&&decide _)=true
 rw[Af6,At8 h,Af9];rfl
abbrev PH:=List Vl×m6
def kD (q:PH):t6:=.tuple [tD q.1,tD q.2]
theorem A0o (a b:PH):PyData.eqv (kD a) (kD b)=decide (a=b):=by
 show (PyData.eqv _ _&&(PyData.eqv _ _&&true))=_
 rw[A1z,A1z]
 grind
theorem Yh (h1:VBs q.1) (h2:VBs q.2):Ij (kD q)=true:=by
 show (Ff _&&PyData.canLayAll0 _&&decide _)=true
 have e1:Ff [tD q.1,tD q.2]=true:=by
  show (keyB _&&(keyB _&&true))=true
  rw[Bd3,Bd3];rfl
 have e2:PyData.canLayAll0 [tD _,tD _]=true:=Qw λd a=>by
  simp at a
  rcases a with rfl | rfl
  ·exact At8 h1
  ·exact At8 h2
 have e3:PyData.depthAll [tD q.1,tD q.2]=1:=by
  show max (PyData.depthAll _+1) (max (PyData.depthAll _+1) 0)=1
  rw[Af9,Af9];rfl
 grind
theorem A0u:∀{cols:v4}{i:Nat}{x:Str},cols.Nodup->cols[i]?=some x->Y0 x cols=some i
 | [],i,x,_,h=>by simp at h
 | y::r,0,x,_,h=>by
  have e:y=x:=by simpa using h
  unfold Y0;rw[if_pos (by simpa using e)]
 | y::r,i+1,x,nd,h=>by
  have h':r[i]?=some x:=by simpa using h
  obtain⟨n1,n2⟩:=bH.mp nd
  have ne:¬ y=x:=λe=>n1 (by rw[e];exact bz h')
  unfold Y0;rw[if_neg (by simpa using ne),A0u n2 h'];rfl
theorem Al5:∀x∈names12,(PyData.str x).canLay0=true:=λx a=>bL.mp (show names12.all (λx=>(PyData.str x).canLay0)=true by decide +kernel) x a
theorem Bo5 {cols:v4}(hx:x∈cols) (hs:∀y∈cols,y∈names12):Pk true (.str x) (.tuple (cols.map PyData.str))=sI (.bool false):=by
 show (if Cq _&&PyData.canLayAll0 _ then some _ else none)=_
 have a:Cq (.str x)=true:=by unfold Cq;rw[Al5 x (hs x hx)];rfl
 rw[a,Qw λd b=>by obtain⟨u,c,rfl⟩:=aG.mp b;exact Al5 u (hs u c),List.any_eq_true.mpr ⟨.str x,aG.mpr ⟨x,hx,rfl⟩,by rw[Ai3];simp⟩]
 rfl
theorem Yj {x:Str}{cols:v4}{i:Nat}(a:cols.Nodup)(h:cols[i]?=some x):Ls (.tuple (cols.map PyData.str)) (.str x)=sI (.int i):=by
 show ((strsOf _).bind _)=_
 rw[Xl,gb,A0u a h];rfl
theorem A1p (h:c[i]?=some (sI (sqD b l))):Bl (Aa i) c=.ok l c:=by
 unfold Bl Aa;simp only[h]
 cases b <;> rfl
theorem R.toB_ok {a:b} {k:b->Ev->BR}:(U.R.ok a c).toB k=k a c:=rfl
def vAt (cols:v4)(r:m6)(x:Str):Vl:=r.getD (fnd x cols) .non
def pick (cols:v4)(r:m6)(ns:v4):m6:=ns.map (vAt cols r)
theorem Lp (h:VBs r):VBs (pick cols r ns):=λv a=>by
 obtain⟨x,_,rfl⟩:=aG.mp a;unfold vAt;rw[fC]
 cases e:r[fnd x _]? with
 | none=>rfl
 | some v=>grind
theorem Be3 (hx:x∈cols) (hr:r.length=cols.length):Aj (tD r) (.int (fnd x cols:Nat))=sI (vAt cols r x).d:=by
 have l:=A7f hx
 have e:(r.map Vl.d)[fnd x cols]?=some (vAt cols r x).d:=by
  unfold vAt
  grind
 show (atI _ _).map _=_
 rw[Gz e];rfl
theorem N5 (ht:Tb.Ok t) (hx:x∈t.cols):Gq [.im t.d,.im (.str x)]=.ret (.im (.int (fnd x t.cols:Nat))) [.im t.d,.im (.str x)]:=by
 wp_walk using Gq,Nv,Tb.d,Aj,Bo5 hx ht.nms.sub,cMt,Qc,Yj ht.nms.nd (Og hx)
abbrev Fi (cols ns:v4):w5:=ns.map λx=>PyData.int (fnd x cols:Nat)
theorem Tn (ht:Tb.Ok t) (hn:∀x∈ns,x∈t.cols) (hl:ns.length<=12):Dg [.im t.d,.im (sqD b (ns.map PyData.str))]=.ret (.ls false (Fi t.cols ns)) [.im t.d,.im (sqD b (ns.map PyData.str))]:=by
 obtain⟨cI,e,u,rfl⟩:=Cz (g:=cgN 0) (ft:=Be) (fe:=cF Gq (Ab (Aa 1) (Ab (Aa 0) Ai))) (I:=λc=>∃u,c=[u,sI t.d]) (f:=PyData.str) (G:=λx=>PyData.int (fnd x t.cols)) ⟨none,rfl⟩
  (λx c d h=>by
   obtain⟨u,rfl⟩:=h
   refine⟨[sI (.str x),some _],?_,_,rfl⟩
   wp_walk using N5 ht (hn x d))
 have a:cLC [none,some 0] (Bl (Aa 1)) _ _ _ [sI _,sI (sqD b (ns.map _))]=.ok _ _ :=
  Dm (A1p rfl) (by grind) (by trivial) rfl
 wp_walk using Dg,Lf,a
theorem T6 (hn:∀x∈ns,x∈cols) (hr:r.length=cols.length) (hl:ns.length<=12):Cj [.im (tD r),.im (.list (Fi cols ns))]=.ret (.im (tD (pick cols r ns))) [.im (tD r),.im (.list (Fi cols ns))]:=by
 obtain⟨cI,e,u,rfl⟩:=Cz (g:=cgN 0) (ft:=Be) (fe:=cOp Aj (Aa 1) (Aa 0)) (I:=λc=>∃u,c=[u,sI (tD r)]) (f:=λx=>PyData.int (fnd x cols)) (G:=λx=>(vAt cols r x).d) ⟨none,rfl⟩
  (λx c b d=>by
   obtain⟨u,rfl⟩:=d
   refine⟨[sI (.int (fnd x cols)),some _],?_,_,rfl⟩
   wp_walk using Be3 (hn x b) hr)
 have h:cLC [none,some 0] (Bl (Aa 1)) _ _ _ [sI _,sI (.list (Fi _ ns))]=.ok _ _ :=
  Dm (by rfl) (by grind) (by assumption) rfl
 have a:PyData.tuple (ns.map λx=>(vAt cols r x).d)=tD (pick cols r ns):=by unfold tD pick;rw[cV];rfl
 wp_walk using Cj,K8,h,Az,a
section
variable {α:Type}[DecidableEq α]{key:α->t6}(he:∀a b,PyData.eqv (key a) (key b)=decide (a=b)){d:Nat}{c:Ev}{qs:List α}{q:α}
include he
theorem Ak6 (h1:fv (qs.map key) (qs.map g) c=.ok (.o (.im x)) c) (h2:fk c=.ok (.o (.im (key q))) c) (a:qs.Nodup) (hk:Ij (key q)=true) (hl:qs.length<=1000) (hn:Dd d c=true) :
 Ak3 (d:=d) fk fv c (qs.map key) (qs.map g)=.nx c ((ins qs q).map key) ((ins qs q).map (upF g q (.d x))):=by
 unfold Ak3;simp only[h1,R.toB_ok,nrm,frz,h2,Du,rdP,gb,O.dat]
 rw[if_pos (by grind),A1j he a]
theorem Bg4 (h1:fk c=.ok (.o (.im (key q))) c) (h2:fv c=.ok (.o (.im x)) c) (e:qs.Nodup) (hk:Ij (key q)=true) (hl:qs.length<=1000) (hg:(g q).length<=1000) (b:q∉qs->g q=[]) (hn:Dd d c=true) :
 Bd6 (d:=d) fk fv c (qs.map key) (qs.map λa=>.l (g a))=.nx c ((ins qs q).map key) ((ins qs q).map λa=>.l (upF g q (g q++[x]) a)):=by
 obtain⟨h,i,f⟩:=Bn3 (x:=x) he e b;unfold Bd6;simp only[h1,R.toB_ok,nrm,Du,rdP,gb,O.dat];simp only[h2,R.toB_ok,frz]
 grind
end
theorem Ad2 [DecidableEq a] {g:a->b}{q:a}:upF g q (g q)=g:=funext λx=>by
 unfold upF
 grind
theorem Bb0 {b:Type}{f:b->t6}{xs:List b}{k:Nat} (h:(O6 (xs.map f))[k]?=some x):∃a,xs[k]?=some a/\x=.tuple [.int (k:Nat),f a]:=by
 unfold O6 at h
 grind
def prs (t:Tb)(ks ns:v4):List PH:=t.rows.map λr=>(pick t.cols r ks,pick t.cols r ns)
structure Cs (t:Tb) (ns:v4):Prop where
 sub:∀x∈ns,x∈t.cols
 len:ns.length<=12
theorem S5 (ht:Tb.Ok t) (h:q∈prs t ks ns):VBs q.1/\VBs q.2:=by
 obtain⟨r,a,rfl⟩:=aG.mp h;exact⟨Lp (ht.rows r a).2,Lp (ht.rows r a).2⟩
theorem Oe {t:Tb}(ht:Tb.Ok t){ks ns:v4}:(prs t ks ns).length<=144:=by unfold prs;rw[ao];exact ht.rlen
abbrev grD (l:List PH):O:=.ty (.ds ((fs l).map kD) ((fs l).map λq=>PyData.list (nmK l l.length q)))
theorem Ap2 {a:Type}{l:List a} {x:a}(h:x∈l.take k):x∈l:=(j9 k l).subset h
theorem Ly [DecidableEq a] {l:List a} (h:l.length<=n):(fs (l.take k)).length<=n:=aq (Mg _) (aq (by grind) h)
abbrev rev (t:Tb)(x y:t6)(rest:n7):Ev:=sI t.d::some (.im x)::some (.im y)::rest
theorem Bk5 (ht:Tb.Ok t) (hk:Cs t ks) (hn:Cs t ns) :
 Ec [.im t.d,.im (sqD a (ks.map PyData.str)),.im (sqD b (ns.map PyData.str))]=.ret (grD (prs t ks ns)) [.im t.d,.im (sqD a (ks.map PyData.str)),.im (sqD b (ns.map PyData.str))]:=by
 have X:=Tn ht (b:=a) hk.sub hk.len;have W:=Tn ht (b:=b) hn.sub hn.len;have S:=Oe ht (ks:=ks) (ns:=ns)
 have v:(prs t ks ns).length=t.rows.length:=by unfold prs;rw[ao]
 have i:∀{k:Nat} {r:m6},t.rows[k]?=some r->(prs t ks ns)[k]?=some (pick t.cols r ks,pick t.cols r ns):=λ{k r} m=>by unfold prs;rw[bJ,m];rfl
 generalize sqD a (ks.map PyData.str)=x at *
 generalize sqD b (ns.map PyData.str)=y at *
 generalize prs t ks ns=l at *
 obtain⟨c',K,N,D,e,f,s,u,j,rfl,_,_,rfl,rfl⟩:=Ku (d:=5) (g:=cgT 2 (Aw (cgN 6) (Aw (cgN 7) Cu))) (F:=Eh) (items:=O6 (t.rows.map tD)) (n:=0) (ks:=[]) (es:=[])
  (c:=rev t x y [sF (Fi t.cols ks),sF (Fi t.cols ns),none,none,none,none])
  (P:=λk c C E=>∃e f s u j,c=rev t x y [some e,some f,none,s,u,j]/\Y7 e (Fi t.cols ks)/\Y7 f (Fi t.cols ns) /\
   C=(fs (l.take k)).map kD/\E=(fs (l.take k)).map λq=>DE.l (nmK l k q)) ⟨_,_,none,none,none,rfl,.inl rfl,.inl rfl,rfl,rfl⟩
  (λk z c C E J G=>by
   rw[aO]at G ⊢;obtain⟨e,f,s,u,j,rfl,L,M,rfl,rfl⟩:=G;obtain⟨r,m,rfl⟩:=Bb0 J;have o:=ht.rows r (bz m);have i:=i m;have O:=T6 (r:=r) hk.sub o.1 hk.len;have Q:=T6 (r:=r) hn.sub o.1 hn.len;have I:VBs (pick t.cols r ks):=Lp o.2;have T:VBs (pick t.cols r ns):=Lp o.2
   generalize pick t.cols r ks=p at *
   generalize pick t.cols r ns=h at *
   have U:∀A w,Ph (d:=5) (Ci (Ab (cF Cj (Ab (Aa 7) (Ab (cFz (Aa 3)) Ai))) (Ab (cF Cj (Ab (Aa 7) (Ab (cFz (Aa 4)) Ai))) Ai))) (cgN 8) (rev t x y [some e,some f,none,sI (.int (k:Nat)),sI (tD r),j]) A w =
    .nx (rev t x y [sI (.list (Fi t.cols ks)),sI (.list (Fi t.cols ns)),none,sI (.int (k:Nat)),sI (tD r),sI (kD (p,h))]) A w:=λA w=>by
    rcases L with rfl | rfl <;> rcases M with rfl | rfl <;> wp_walk using rev,Ph,R.toB_ok,O,Q,Dd,kD
   refine⟨rev t x y [some e,some f,none,sI (.int (k:Nat)),sI (tD r),j],rev t x y [sI (.list (Fi t.cols ks)),sI (.list (Fi t.cols ns)),none,sI (.int (k:Nat)),sI (tD r),sI (kD (p,h))],_,_,(by wp_walk using rev),rfl,?_,_,_,_,_,_,rfl,.inr rfl,.inr rfl,rfl,rfl⟩
   unfold Eh Aj8;rw[U]
   show Bd6 (d:=5) (Aa 8) (Aa 6) _ _ _=_
   rw[Bg4 (x:=.int (k:Nat)) (q:=(p,h)) A0o (by wp_walk using bC) (by wp_walk using bC) (A0x _) (Yh I T) (Ly (aq S (by decide))) (aq (Bm2 _ _ _) (by have:=(bG.mp i).1;lia)) (λz=>Bk9 λy=>z (zW.mpr y)) rfl]
   rw[<- Vo i,<- Be4 i])
 have V:(O6 (t.rows.map tD)).length=t.rows.length:=by unfold O6;rw[ao,List.length_range,ao]
 rw[V,aO,<- v,dN]at D
 have B:=Oq (d:=5) (g:=Df (Aa 5)) (c:=rev t x y [sF (Fi t.cols ks),sF (Fi t.cols ns),none,none,none,none]) rfl ((Vi (fi:=A1x (cOp Aj (Aa 0) (cC (.int 1)))) (by wp_walk using rev,A1x,Aj,Tb.d,Jo) rfl).trans D)
 rw[cV]at B
 have H:(DE.dat ∘ λq=>DE.l (nmK l l.length q))=λq=>PyData.list _:=rfl
 rw[H]at B
 wp_walk using Ec,G6,X,W,B
theorem Ai8 {l:m5}(hv:∀x∈l,VBs x)(hl:l.length<=200):Dt [.im (.list (l.map tD))]=.ret (.im (.tuple ((fs l).map tD))) [.im (.list (l.map tD))]:=by
 obtain⟨c',j,n,b,u,rfl,rfl,rfl⟩:=Ku (d:=1) (g:=cgN 2) (F:=Ge) (c:=[sI _,none,none])
  (P:=λk c e a=>∃u,c=[some _,none,u]/\e=(fs (l.take k)).map tD/\a=(fs (l.take k)).map λ_=>DE.d (.bool true)) ⟨none,rfl,rfl,rfl⟩
  (λk x c e a m f=>by
   rw[aO]at f ⊢;obtain⟨u,rfl,rfl,rfl⟩:=f;obtain⟨r,h,rfl⟩:=El m
   refine⟨[some _,none,some _],[some _,none,sI (tD r)],_,_,by trivial,rfl,?_,_,rfl,rfl,rfl⟩
   have:=Ak6 (d:=1) (c:=[sI (.list (l.map tD)),none,sI (tD r)]) (fv:=λ_ _=>cC (.bool true)) (g:=λ_=>DE.d (.bool true)) A1z (by trivial) (by trivial) (A0x (l.take k)) (Bw7 (hv r (bz h))) (Ly (aq hl (by decide))) rfl
   rw[Ad2 ,<- Vo h]at this
   trivial)
 rw[ao,aO,dN]at b
 have o:=Vi (d:=1) (fi:=Bl (Aa 0)) (g:=cgN 2) (F:=Ge) (ds:=l.map tD) (ks:=[]) (es:=[]) (c:=[sI (.list _),none,none]) (by trivial) rfl
 have i:=Oq (d:=1) (g:=Df (A1m (Aa 1))) (c:=[some _,none,none]) rfl (o.trans b)
 wp_walk using Dt,J9,i,A1m
theorem A1t {qs:List PH}{ds:w5}{rest:n7}{sel:o_}{f:PH->m6}(hs:∀q:PH,sel [sI (tD q.1),sI (tD q.2)]=.ok (.o (.im (tD (f q)))) [sI (tD q.1),sI (tD q.2)])(hl:qs.length<=200) :
 cLC [none,none] (Ag1 (Aa 0)) (cgT 2 (Aw (cgN 0) (Aw (cgN 1) Cu))) Be sel (some (.ty (.ds (qs.map kD) ds))::rest)=.ok (.o (.ls false ((qs.map f).map tD))) (some (.ty (.ds (qs.map kD) ds))::rest):=by
 obtain⟨cI,e,u,v,rfl⟩:=Cz (g:=cgT 2 (Aw (cgN 0) (Aw (cgN 1) Cu))) (ft:=Be) (fe:=sel) (I:=λc=>∃u v,c=[u,v]) (f:=kD) (G:=λq=>tD (f q)) ⟨none,none,rfl⟩
  λq c hx a=>by
   obtain⟨u,v,rfl⟩:=a
   refine⟨[sI (tD q.1),sI (tD q.2)],?_,_,_,rfl⟩
   unfold kD
   wp_walk using hs q
 refine Dm (by rfl) (by grind) (by rw[cV];exact e) rfl
theorem A7a {qs:List PH}{ds:w5}(hv:∀q∈qs,VBs q.1/\VBs q.2)(hl:qs.length<=200):Fp [.ty (.ds (qs.map kD) ds)]=.ret (.im (.tuple ((fs (qs.map (·.1))).map tD))) [.ty (.ds (qs.map kD) ds)]:=by
 have b:=A1t (ds:=ds) (rest:=[]) (sel:=Aa 0) λq=>by trivial hl
 have c:=Ai8 (l:=qs.map (·.1)) λx d=>by obtain⟨q,e,a⟩:=aG.mp d;grind (by simp_all)
 wp_walk using Fp,Ka,b,c
theorem Bd9 {qs:List PH} (hv:∀q∈qs,VBs q.1/\VBs q.2) (hp:VBs p) (d:VBs h) (ha:fa c=.ok (.o (.ty (.ds (qs.map kD) (qs.map g)))) c) (hw:fw c=.ok (.o (.im (kD (p,h)))) c) (hx:fx c=.ok (.o (.im x)) c) :
 Jh fa fw fx c=.ok (.o (.im (if (p,h)∈qs then g (p,h) else x))) c:=by
 unfold Jh;simp only[ha,R.bind_ok,hw,hx,nrm,frz,Du,rdP,gb,O.dat]
 rw[if_pos (by
  rw[Yh hp d,Bool.true_and,bL];intro k b;obtain⟨q,a,rfl⟩:=aG.mp b
  exact Yh (hv q a).1 (hv q a).2),Ao3 A0o]
 grind
abbrev Ng (qs:List PH) (g:PH->t6) (x:t6) (hs:m5) (p:m6):t6:=.tuple (hs.map λh=>if (p,h)∈qs then g (p,h) else x)
theorem Br4 {qs:List PH}{g:PH->t6}{p:m6}{x:t6}{hs:m5}(hv:∀q∈qs,VBs q.1/\VBs q.2)(hp:VBs p)(d:∀h∈hs,VBs h)(hl:hs.length<=200) :
 Gn [.im (tD p),.im (.tuple (hs.map tD)),.ty (.ds (qs.map kD) (qs.map g)),.im x]=.ret (.im (Ng qs g x hs p)) [.im (tD p),.im (.tuple (hs.map tD)),.ty (.ds (qs.map kD) (qs.map g)),.im x]:=by
 obtain⟨cI,e,u,rfl⟩:=Cz (g:=cgN 0) (ft:=Be) (fe:=Jh (Aa 2) (Ci (Ab (Aa 3) (Ab (Aa 0) Ai))) (Aa 1)) (I:=λc=>∃u,c=[u,sI x,some (.ty (.ds (qs.map kD) (qs.map g))),sI (tD p)]) (f:=tD) (G:=λh=>if (p,h)∈qs then g (p,h) else x) (xs:=hs) (acc:=[]) (c:=[none,sI x,some (.ty (.ds (qs.map kD) (qs.map g))),sI (tD p)]) ⟨none,rfl⟩
  (λh c b i=>by
   obtain⟨u,rfl⟩:=i
   refine⟨[sI (tD h),some _,some _,some _],?_,_,rfl⟩
   have e:=Bd9 (g:=g) hv hp (d h b) (c:=[sI _,sI x,some (.ty _),sI _]) (fa:=Aa 2) (fw:=Ci (Ab (Aa 3) (Ab (Aa 0) Ai))) (fx:=Aa 1) (by rfl) (by rfl) (by rfl)
   unfold Mi
   rw[show cgN 0 _ _=.ok _ [some _,some _,some _,some _] from rfl]
   show (Jh _ _ _ _).bind _=_
   rw[e];rfl)
 have a:cLC [none,some 3,some 2,some 0] (Bl (Aa 1)) _ _ _ [sI _,sI (.tuple (hs.map _)),some (.ty _),sI x]=.ok _ _ :=
  Dm (by trivial) (by grind) (by exact e) rfl
 wp_walk using Gn,Nu,a,Az
theorem Bm8 {qs:List PH}{g:PH->t6}{x:t6}{ps hs:m5}(hv:∀q∈qs,VBs q.1/\VBs q.2)(hp:∀p∈ps,VBs p)(i:∀h∈hs,VBs h)(hl:hs.length<=200)(b:ps.length<=200) :
 Hs [.im (.tuple (ps.map tD)),.im (.tuple (hs.map tD)),.ty (.ds (qs.map kD) (qs.map g)),.im x]=.ret (.im (.tuple (ps.map (Ng qs g x hs)))) [.im (.tuple (ps.map tD)),.im (.tuple (hs.map tD)),.ty (.ds (qs.map kD) (qs.map g)),.im x]:=by
 obtain⟨cI,e,u,rfl⟩:=Cz (g:=cgN 0) (ft:=Be) (fe:=cF Gn (Ab (Aa 0) (Ab (Aa 1) (Ab (Aa 2) (Ab (Aa 3) Ai))))) (I:=λc=>∃u,c=[u,sI (.tuple (hs.map tD)),some (.ty (.ds (qs.map kD) (qs.map g))),sI x]) (f:=tD) (G:=Ng qs g x hs) (xs:=ps) (acc:=[]) (c:=[none,sI (.tuple (hs.map tD)),some (.ty (.ds (qs.map kD) (qs.map g))),sI x]) ⟨none,rfl⟩
  (λp c d j=>by
   obtain⟨u,rfl⟩:=j
   refine⟨[sI (tD p),sI (.tuple (hs.map tD)),some _,some _],?_,_,rfl⟩
   wp_walk using Br4 hv (hp p d) i hl)
 have a:cLC [none,some 1,some 2,some 3] (Bl (Aa 0)) _ _ _ [sI (.tuple (ps.map _)),sI _,some (.ty _),sI x]=.ok _ _ :=
  Dm (by trivial) (by grind) (by exact e) rfl
 wp_walk using Hs,Mr,a,Az
theorem B3k {x:Str}:∀{ns:v4},ns.Nodup->x∈ns->ns.countP (λz=>z==x)=1
 | y::ns,nd,h=>by
  obtain⟨n1,n2⟩:=bH.mp nd;rw[jo]
  by_cases e:y=x
  ·have:ns.countP (λz=>z==x)=0:=List.countP_eq_zero.mpr λz hz q=>n1 (by rw[e,<- cT q];exact hz)
   rw[this,if_pos (by rw[e];exact cD x)]
  ·rw[if_neg (by rw[cU.mpr e];decide),B3k n2 ((aB.mp h).resolve_left λz=>e z.symm)]
theorem Be9 {cols L:v4}(a:L.Perm cols)(c:cols.Nodup):okC cols L=true:=by
 unfold okC;rw[aR a.length_eq,Bool.true_and,bL];intro b d;obtain⟨x,e,rfl⟩:=aG.mp d;exact aR (B3k (a.nodup_iff.mpr c) (a.mem_iff.mpr e))
theorem A7y {qs:List PH}{ds:w5}(hv:∀q∈qs,VBs q.1/\VBs q.2)(hl:qs.length<=200) :
 Fv [.ty (.ds (qs.map kD) ds),.im (.str "seen")]=.ret (.im (.tuple ((fs (qs.map (·.2))).map tD))) [.ty (.ds (qs.map kD) ds),.im (.str "seen")]:=by
 have b:=A1t (ds:=ds) (rest:=[sI (.str "seen"),none]) (sel:=Aa 1) λq=>by trivial hl
 have c:=Ai8 (l:=qs.map (·.2)) λx d=>by obtain⟨q,f,e⟩:=aG.mp d;grind (by simp_all)
 have a:Cr false (.str "seen") (.str "rising")=sI (.bool false):=by rw[As3,if_neg (by decide),bw (by trivial)]
 wp_walk using Fv,Kf,b,c,a
theorem A9s:Gv [.im (.str "seen")]=.ret (.im .none) [.im (.str "seen")]:=rfl
theorem Aq5 {p:Nat->Bool}{j:Nat}:∀{n:Nat},(∀i,i<n->(p i=true↔i=j))->(List.range n).filter p=if j<n then [j] else []
 | 0,_=>by simp
 | n+1,h=>by
  rw[List.range_succ,List.filter_append,Aq5 λi hi=>h i (fV hi)]
  have hn:=h n (eO n)
  by_cases e:n=j
  ·subst e
   rw[if_neg (bh _),if_pos (eO _),jE,if_pos (hn.mpr rfl)];rfl
  ·rw[jE,if_neg λz=>e (hn.mp z),List.filter_nil,cA]
   by_cases l:j<n
   ·rw[if_pos l,if_pos (fV l)]
   ·rw[if_neg l,if_neg (by lia)]
theorem Bc7 {a:Type}[DecidableEq a]{l:List a}(c:l.Nodup){q:a}(b:q∈l):nmK l l.length q=[.int (fnd q l:Nat)]:=by
 unfold nmK
 rw[Aq5 λi _=>⟨λz=>(Vt c (aV z)).symm,λz=>aR (by rw[z];exact Og b)⟩,if_pos (A7f b)];rfl
theorem A2m {b:Type}[DecidableEq b]{l:List b}(a:l.Nodup):fs l=l:=by
 refine Vk (P:=λl=>l.Nodup->fs l=l) (λ_=>rfl) (λl x d a=>?_) l a
 obtain⟨e,_,c⟩:=fX.mp a
 rw[Te,d e,Jv λz=>c x z x (by simp) rfl]
theorem A6z {l:List PH}(d:l.Nodup)(hl:l.length<=200):Eb [grD l]=.ret (.im .none) [grD l]:=by
 obtain⟨cI,e,u,rfl⟩:=Ks (g:=cgN 0) (ft:=Bh (cOp Yo (Gr (Aa 0)) (cC (.int 1)))) (fe:=Ci (Ab (cOp Aj (Aa 0) (cC (.int 1))) (Ab (cOp Aj (Aa 0) (cC (.int 0))) Ai))) (I:=λc=>∃u,c=[u]) (f:=λq=>PyData.list (nmK l _ q)) ⟨none,rfl⟩
  (λq c h b=>by
   obtain⟨u,rfl⟩:=b;rw[Bc7 d (zW.mp h)]
   refine⟨[sI (.list [.int (fnd q l)])],?_,_,rfl⟩
   rfl)
 have i:(fs l).filterMap (λ_=>(none:Option t6))=[]:=by simp
 rw[i]at e
 have j:cLC [none] (Aa7 (Aa 0)) _ _ _ [some (grD l),none,none]=.ok _ [some (grD l),none,none] :=
  Dm (by wp_walk using Aa7,ao) (by rw[ao];exact aq (Mg _) (by lia)) e rfl
 have a:Hu [.list []]=sI (.int 0):=rfl
 wp_walk using Eb,G8,j,a
theorem Ap8 {α:Type}:∀ps:List α,ps.zip ps=ps.map λp=>(p,p)
 | []=>rfl
 | p::ps=>by rw[cW,aF,Ap8 ps]
theorem B1e {qs:List PH}{g:PH->t6}{ps hs:m5}(hv:∀q∈qs,VBs q.1/\VBs q.2)(hp:∀p∈ps,VBs p)(c:∀h∈hs,VBs h)(hl:hs.length<=200)(a:ps.length<=200) :
 Dw [.im (.tuple (ps.map tD)),.im (.tuple (hs.map tD)),.ty (.ds (qs.map kD) (qs.map g))]=.ret (.im (.tuple (ps.map λp=>.tuple [tD p,Ng qs g .none hs p]))) [.im (.tuple (ps.map tD)),.im (.tuple (hs.map tD)),.ty (.ds (qs.map kD) (qs.map g))]:=by
 have e:=Bm8 (g:=g) (x:=.none) hv hp c hl a
 have d:Gy (ps.map tD) (ps.map (Ng qs g .none hs))=ps.map λp=>.tuple [tD p,Ng qs g .none hs p]:=by
  rw[Nk,Ap8,cV];rfl
 have b:(ps.map tD).length=(ps.map (Ng qs g .none hs)).length:=by simp_all
 wp_walk using Dw,Hb,e,Ba9,Jo,b,d
theorem A3x [DecidableEq f] {e:f->t6}(he:∀a b,PyData.eqv (e a) (e b)=decide (a=b)) {qs:List f}{q:f} {g:f->DE} (h1:fv (qs.map e) (qs.map g) c=.ok (.o (.im x)) c1) (h2:fk c1=.ok (.o (.im (e q))) c1) (h:qs.Nodup) (hk:Ij (e q)=true) (hl:qs.length<=1000) (hn:Dd d c1=true) :
 Ak3 (d:=d) fk fv c (qs.map e) (qs.map g)=.nx c1 ((ins qs q).map e) ((ins qs q).map (upF g q (.d x))):=by
 unfold Ak3;simp only[h1,R.toB_ok,nrm,frz,h2,Du,rdP,gb,O.dat]
 rw[if_pos (by grind),A1j he h]
def cellOf (t:Tb)(ks ns vs:v4)(q:PH):m6:=pick t.cols (t.rows.getD (fnd q (prs t ks ns)) []) vs
def Ak1 (t:Tb)(ks ns:v4):m5:=fs ((prs t ks ns).map (·.2))
def A0m (t:Tb)(ks ns:v4):m5:=fs ((prs t ks ns).map (·.1))
def fdD (t:Tb)(ks ns vs:v4):t6:=.tuple [nD ks,nD ns,nD vs,.tuple ((Ak1 t ks ns).map tD),.tuple ((A0m t ks ns).map λp=>.tuple [tD p,Ng (prs t ks ns) (λq=>tD (cellOf t ks ns vs q)) .none (Ak1 t ks ns) p])]
abbrev fev (t:Tb)(a b c:t6)(gr:O)(rest:n7):Ev:=sI t.d::some (.im a)::some (.im b)::some (.im c)::some (.im (.str "seen"))::some gr::rest
theorem T3 {b:Bool}{ns:v4}(h:ns.length<=12):Az (sqD b (ns.map PyData.str))=sI (nD ns):=by
 cases b <;> simp[sqD,Az,nD]
theorem A6k {t:Tb}(ht:Tb.Ok t){a b:Bool}{ks ns vs:v4}(u:(ks++ns++vs).Perm t.cols)(Q:1<=vs.length)(E:(prs t ks ns).Nodup) :
 Hj [t.d,sqD a (ks.map PyData.str),sqD b (ns.map PyData.str),.tuple (vs.map PyData.str),.str "seen"]=.ret (.im (fdD t ks ns vs)):=by
 have D:=u.length_eq;have cl:=ht.clen;rw[aH,aH]at D
 have hk:Cs t ks:=⟨λx f=>u.mem_iff.mp (aX _ (aX _ f)),by lia⟩
 have hn:Cs t ns:=⟨λx f=>u.mem_iff.mp (aX _ (aN _ f)),by lia⟩
 have w:Cs t vs:=⟨λx f=>u.mem_iff.mp (aN _ f),by lia⟩
 have V:=A7s (cols:=t.cols) (ks:=ks) (ns:=ns) (vs:=vs) (a:=a) (b:=b) (by lia) (by lia) (by lia) (by lia) Q
 rw[if_pos (Be9 u ht.nms.nd)]at V;have K:=Bk5 ht (a:=a) (b:=b) hk hn;have N:=Tn ht (b:=true) w.sub w.len;have H:=Oe ht (ks:=ks) (ns:=ns)
 have o:∀q∈prs t ks ns,VBs q.1/\VBs q.2:=λq e=>S5 ht e
 have y:∀{k:Nat} {q:PH},(prs t ks ns)[k]?=some q->∃r,t.rows[k]?=some r:=λ{k q} j=>by
  unfold prs at j;obtain⟨r,h,_⟩:=El j;exact⟨r,h⟩
 have t1:=T3 (b:=a) hk.len;have t2:=T3 (b:=b) hn.len;have M:=T3 (b:=true) w.len
 have ec:∀q,cellOf t ks ns vs q=pick t.cols (t.rows.getD (fnd q (prs t ks ns)) []) vs:=λ_=>rfl
 unfold fdD Ak1 A0m
 generalize cellOf t ks ns vs=G at *
 generalize sqD a (ks.map PyData.str)=A at *
 generalize sqD b (ns.map PyData.str)=B at *
 have N:Dg [.im t.d,.im (.tuple (vs.map PyData.str))]=.ret (.ls false (Fi t.cols vs)) [.im t.d,.im (.tuple (vs.map PyData.str))]:=N;have M:Az (.tuple (vs.map PyData.str))=sI (nD vs):=M
 generalize PyData.tuple (vs.map PyData.str)=C at *
 generalize prs t ks ns=l at *
 have I:=A6z E (aq H (by decide))
 have e6:=A7y (ds:=l.map λq=>PyData.list (nmK l l.length q)) o (aq H (by decide))
 have e7:=A7a (ds:=l.map λq=>PyData.list (nmK l l.length q)) o (aq H (by decide))
 have e8:=B1e (g:=λq=>tD (G q)) (ps:=fs (l.map (·.1))) (hs:=fs (l.map (·.2))) o (λp y=>by obtain⟨q,e,rfl⟩:=aG.mp (zW.mp y);exact(o q e).1) (λp y=>by obtain⟨q,e,rfl⟩:=aG.mp (zW.mp y);exact(o q e).2) (aq (Mg _) (by rw[ao];lia)) (aq (Mg _) (by rw[ao];lia))
 have v:=A2m E;unfold grD at K I;rw[v]at K I
 generalize hgr:O.ty (.ds (l.map kD) (l.map λq=>PyData.list (nmK l l.length q)))=gr at *
 obtain⟨c',ks',es',e9,s,L,S,rfl,J,rfl,rfl⟩:=Ku (d:=7) (g:=cgT 2 (Aw (cgN 8) (Aw (cgN 9) Cu))) (F:=Js) (items:=l.map λq=>PyData.tuple [kD q,.list (nmK l l.length q)]) (n:=0) (ks:=[]) (es:=[]) (c:=fev t A B C gr [sF (Fi t.cols vs),none,none,none,none,none])
  (P:=λk c U X=>∃s L S,c=fev t A B C gr [some s,none,L,S,none,none]/\Y7 s (Fi t.cols vs)/\U=(fs (l.take k)).map kD/\X=(fs (l.take k)).map λq=>DE.d (tD (G q))) ⟨_,none,none,rfl,.inl rfl,rfl,rfl⟩
  (λk x c U X f Y=>by
   rw[aO]at Y ⊢;obtain⟨s,L,S,rfl,J,rfl,rfl⟩:=Y;obtain⟨q,e,rfl⟩:=El f;have Z:=bz e;have m:=o q Z;obtain⟨r,j⟩:=y e;have W:=Vt E e;have mr:=ht.rows r (bz j);have v1:=T6 (r:=r) w.sub mr.1 w.len
   have gq:G q=pick t.cols r vs:=by rw[ec,W,fC,j];rfl
   rw[Bc7 E Z,W];rw[<- gq]at v1
   have z:Aj (.tuple (t.rows.map tD)) (.int (k:Nat))=sI (tD r):=by
    show (atI (t.rows.map tD) (k:Nat)).map O.im=_
    rw[Gz (by rw[bJ,j];rfl)];rfl
   refine⟨fev t A B C gr [some s,none,sI (kD q),sI (.list [.int (k:Nat)]),none,none],fev t A B C gr [sI (.list (Fi t.cols vs)),none,sI (kD q),sI (.list [.int (k:Nat)]),none,none],_,_,(by wp_walk using fev),rfl,?_,_,_,_,rfl,.inr rfl,rfl,rfl⟩
   have:=A3x (d:=7) (c:=fev t A B C gr [some s,none,sI (kD q),sI (.list [.int (k:Nat)]),none,none]) (c1:=fev t A B C gr [sI (.list (Fi t.cols vs)),none,sI (kD q),sI (.list [.int (k:Nat)]),none,none]) (fk:=Aa 8) (fv:=λ_ _=>cF Cj (Ab (cOp Aj (cOp Aj (Aa 0) (cC (.int 1))) (cOp Aj (Aa 9) (cC (.int 0)))) (Ab (cFz (Aa 6)) Ai))) (g:=λq=>DE.d (tD (G q))) (q:=q) (x:=tD (G q)) A0o (by
    have z1:Aj t.d (.int 1)=sI (.tuple (t.rows.map tD)):=rfl;have z2:Aj (.list [.int (k:Nat)]) (.int 0)=sI (.int (k:Nat)):=rfl
    rcases J with rfl | rfl <;> wp_walk using fev,z1,z2,z,v1) (by wp_walk using fev) (A0x (l.take k)) (Yh m.1 m.2) (Ly (aq H (by decide))) rfl
   rw[Ad2 (g:=λq:PH=>DE.d (tD (G q))),<- Vo e]at this
   exact this)
 rw[ao,aO,dN,v]at e9
 have R:=Vi (d:=7) (fi:=Vd (Aa 5)) (g:=cgT 2 (Aw (cgN 8) (Aw (cgN 9) Cu))) (F:=Js) (ds:=l.map λq=>PyData.tuple [kD q,.list (nmK l l.length q)]) (ks:=[]) (es:=[]) (c:=fev t A B C gr [sF (Fi t.cols vs),none,none,none,none,none]) (c1:=fev t A B C gr [sF (Fi t.cols vs),none,none,none,none,none]) (by
  subst hgr
  wp_walk using fev,Vd,ao,Z8) rfl
 have i:=λg=>Oq (d:=7) (g:=g) (F:=Ad9 (d:=7) _ _ _) (c:=fev t A B C _ [some _,none,none,none,none,none]) rfl (R.trans e9)
 rw[cV]at i
 have T:(DE.dat ∘ λq=>DE.d (tD (G q)))=λq=>tD _:=rfl
 rw[T]at i;have c4:Aj t.d (.int 0)=some _:=rfl;subst hgr
 rcases J with rfl | rfl <;> wp_walk using Hj,O2,T9,K5,Ae1,Q5,Nm,T4,c4,V,A9s,K,I,N,i,e6,e7,e8,t1,t2,M
theorem Rp {w:Wd}(h:w.Ok){r:List Vl×List (Option (m6))}(hr:r∈w.rows){q:List Vl×Option (m6)}(a:q∈w.heads.zip r.2){x:m6}(e:Ah5 (r.1,q.1,q.2)=some x):x.take (w.key.length+w.names.length)=r.1++q.1/\r.1.length=w.key.length:=by
 have ok:=Va h (List.mem_flatMap.mpr ⟨r,hr,aG.mpr ⟨q,a,rfl⟩⟩)
 obtain⟨c,hc,rfl⟩:=aW.mp (show q.2.map _=some x from e)
 grind
theorem Bz4 {w:Wd}(h:w.Ok):w.out.Pairwise λx y=>x.take (w.key.length+w.names.length)≠y.take (w.key.length+w.names.length):=by
 rw[Ba2,List.pairwise_flatMap]
 refine⟨λr d=>?_,?_⟩
 ·unfold Ml Dv
  rw[List.pairwise_filterMap,j5]
  have s:((w.heads.zip r.2).map Prod.fst).Nodup:=by
   rw[List.map_fst_zip (by rw[(h.rows r d).clen];exact au _)];exact h.hnd
  refine (j5.mp s).imp_of_mem λ{a b} f g i x c y k e=>i ?_
  obtain⟨j,_⟩:=Rp h d f c;obtain⟨l,_⟩:=Rp h d g k;rw[j,l]at e;exact List.append_cancel_left e
 ·refine (j5.mp h.rnd).imp_of_mem λ{a b} f g i x c y k e=>i ?_
  obtain⟨t1,o,p⟩:=dY.mp c;obtain⟨q1,q,rfl⟩:=aG.mp o;obtain⟨t2,n,u⟩:=dY.mp k;obtain⟨q2,t,rfl⟩:=aG.mp n;obtain⟨j,v⟩:=Rp h f q p;obtain⟨l,m⟩:=Rp h g t u;rw[j,l]at e
  exact(List.append_inj e (by rw[v,m])).1
def Wd.tb (w:Wd):Tb:=⟨w.key++w.names++w.vals,w.out⟩
theorem A9a {w:Wd}(h:w.Ok):Tb.Ok w.tb:=by
 have b:=h.klen;have c:=h.nlen;have d:=h.vlen;have f:=h.vpos
 have e:(w.key++w.names++w.vals).length=w.key.length+w.names.length+w.vals.length:=by grind
 exact⟨h.nms,by show 1<=(w.key++w.names++w.vals).length;lia,by show (w.key++w.names++w.vals).length<=12;lia,λr a=>⟨(Af8 h r a).2.trans e.symm,(Af8 h r a).1⟩,Bj9 h⟩
theorem A8p {w:Wd}(h:w.Ok){ks ns:v4}(m:(ks++ns).Perm (w.key++w.names)):(prs w.tb ks ns).Nodup:=by
 refine List.pairwise_map.mpr ((Bz4 h).imp_of_mem λ{x y} c d f e=>f ?_)
 obtain⟨g,j⟩:=Prod.mk.inj e;have o := (Af8 h x c).2;have p := (Af8 h y d).2
 have k:∀z∈w.key++w.names,vAt _ x z=vAt _ y z:=λz n=>by
  rcases bx.mp (m.mem_iff.mpr n) with q | q
  ·exact List.map_inj_left.mp g z q
  ·exact List.map_inj_left.mp j z q
 apply jz;intro i;rw[List.getElem?_take,List.getElem?_take]
 by_cases hi:i<w.key.length+w.names.length
 ·rw[if_pos hi,if_pos hi]
  have a:i<(w.key++w.names).length:=by rw[aH];exact hi
  have b:w.tb.cols[i]?=some (w.key++w.names)[i]:=by
   show (w.key++w.names++w.vals)[i]?=_
   rw[dB a,bu _]
  have:=k _ (iG a);unfold vAt at this;rw[(Vt (l:=w.tb.cols) h.nms.nd b)]at this
  rw[bu (by lia),bu (by lia)]
  rw[fC,fC,bu (by lia),bu (by lia)]at this
  exact bU _ this
 ·rw[if_neg hi,if_neg hi]
theorem A6h {w:Wd}(h:w.Ok){ks ns:v4}{a b:Bool}(d:(ks++ns).Perm (w.key++w.names)):Dy [w.d,sqD a (ks.map PyData.str),sqD b (ns.map PyData.str)]=.ret (.im (fdD w.tb ks ns w.vals)):=by
 have c:=Ul h;have f:=A6k (A9a h) (a:=a) (b:=b) (d.append_right _) h.vpos (A8p h d);have c:Gh _=.ret (.im w.tb.d) _:=c;have e:Aj w.d (.int 2)=sI (.tuple _):=rfl
 wp_walk using Dy,Ot,A1y,Q5,Nm,T4,c,f,e
theorem Az4 {w:Wd}(h:w.Ok){ks ns:v4}{a b:Bool}(h1:ks.length<=60)(h2:ns.length<=60)(hc:okC w.tb.cols (ks++ns++w.vals)=false):Dy [w.d,sqD a (ks.map PyData.str),sqD b (ns.map PyData.str)]=.ex ⟨Str.ofString "BadColumns",none⟩:=by
 have c:=Ul h;have i:=(A9a h).clen;have j:=h.vlen
 have d:=A7s (cols:=w.tb.cols) (a:=a) (b:=b) (by lia) h1 h2 (by lia) h.vpos
 rw[hc]at d;have c:Gh _=.ret (.im w.tb.d) _:=c;have f:Aj w.d (.int 2)=sI (.tuple _):=rfl;have g:Aj w.tb.d (.int 0)=some _:=rfl
 generalize w.tb.d=T at *
 generalize sqD a _=A at *
 generalize sqD b _=B at *
 generalize PyData.tuple _=C at *
 have e:Hj [T,A,B,C,.str "seen"]=.ex ⟨Str.ofString "BadColumns",none⟩:=by
  wp_walk using Hj,O2,T9,K5,Ae1,Q5,Nm,T4,g,d
 wp_walk using Dy,Ot,A1y,Q5,Nm,T4,c,f,e
theorem A1a {c:Ev}{i:Nat}{fe:o_}{o:O}{v:m6}{vs:m5}(ho:isL o (vs.map tD))(hi:c[i]?=some (some o))(hj:fe c=.ok (.o (.im (tD v))) c)(hv:VBs v)(hs:∀u∈vs,VBs u)(hl:vs.length<=200) :
 cOp Av (Aa i) (cOp Qd (Ds (Ab fe Ai)) (cUn Uq (cOp (Pk true) fe (Aa i)))) c=.ok (.o (.ls false ((ins vs v).map tD))) c:=by
 have b:=Ax3 (neg:=true) hv hs
 have a:∃k:Int,Uq (.bool (!decide (v∈vs)))=sI (.int k)/\Qd (.list [tD v]) (.int k)=sF (if v∈vs then [] else [tD v]):=by
  by_cases m:v∈vs
  ·rw[if_pos m,aR m]
   exact⟨0,rfl,rfl⟩
  ·rw[if_neg m,bw m]
   exact⟨1,rfl,rfl⟩
 obtain⟨k,a,d⟩:=a
 have e:Av (.list (vs.map tD)) (.list (if v∈vs then [] else [tD v]))=sF ((ins vs v).map tD):=by
  show (if _ then _ else _)=_
  by_cases m:v∈vs
  ·rw[if_pos m,Px m,if_pos (by simp;lia),cA]
  ·rw[if_neg m,Jv m,if_pos (by simp;lia),bA];rfl
 rcases ho with rfl | rfl <;> wp_walk using hi,hj,b,a,d,e
theorem Ar6 {l:List PH}{f:PH->m6} (h:l[k]?=some x):fs ((l.take (k+1)).map f)=ins (fs ((l.take k).map f)) (f x):=by
 rw[fZ,h,bA];exact Te
theorem Bm4 {t:Tb}{ks ns vs:v4}{k:Nat}{q:PH}(b:(prs t ks ns).Nodup)(a:(prs t ks ns)[k]?=some q):∃r,t.rows[k]?=some r/\cellOf t ks ns vs q=pick t.cols r vs/\q=(pick t.cols r ks,pick t.cols r ns):=by
 have c:=Vt b a;unfold prs at a;unfold cellOf
 grind
abbrev atE:o_:=cLC [none,some 1] (Bl (Aa 0)) (cgN 0) Be (cMt Qc Ls (Aa 1) (Aa 0))
theorem Av9 {cols L:v4}{b:Bool}(h:cols.Nodup)(hs:∀x∈L,x∈cols)(hl:L.length<=60):atE [sI (sqD b (L.map PyData.str)),sI (.tuple (cols.map PyData.str))]=.ok (.o (.ls false (Fi cols L))) [sI (sqD b (L.map PyData.str)),sI (.tuple (cols.map PyData.str))]:=by
 obtain⟨cI,e,u,rfl⟩:=Cz (g:=cgN 0) (ft:=Be) (fe:=cMt Qc Ls (Aa 1) (Aa 0)) (I:=λc=>∃u,c=[u,sI (.tuple (cols.map PyData.str))]) (f:=PyData.str) (G:=λx=>PyData.int (fnd x cols)) ⟨none,rfl⟩
  (λx c d i=>by
   obtain⟨u,rfl⟩:=i;have a:=Yj h (Og (hs x d))
   refine⟨[sI (.str x),some _],?_,_,rfl⟩
   wp_walk using cMt,Qc,a)
 exact Dm (A1p rfl) (by grind) e rfl
abbrev lfv (C R A B V:t6)(rest:n7):Ev:=sI C::some (.im R)::some (.im A)::some (.im B)::some (.im V)::rest
abbrev atD (cols ks ns vs:v4):w5:=[.list (Fi cols ks),.list (Fi cols ns),.list (Fi cols vs)]
theorem B4h {t:Tb}(ht:Tb.Ok t){a b c:Bool}{ks ns vs:v4}(hk:Cs t ks)(hn:Cs t ns)(hw:Cs t vs){R:t6}{rest:n7} :
 cLC [none,some 0] (Bl (Ci (Ab (Aa 2) (Ab (Aa 3) (Ab (Aa 4) Ai))))) (cgN 0) Be atE (lfv (.tuple (t.cols.map PyData.str)) R (sqD a (ks.map PyData.str)) (sqD b (ns.map PyData.str)) (sqD c (vs.map PyData.str)) rest)=.ok (.o (.ls false (atD t.cols ks ns vs))) (lfv (.tuple (t.cols.map PyData.str)) R (sqD a (ks.map PyData.str)) (sqD b (ns.map PyData.str)) (sqD c (vs.map PyData.str)) rest):=by
 have j:=Av9 (b:=a) ht.nms.nd hk.sub (by have:=hk.len;lia)
 have k:=Av9 (b:=b) ht.nms.nd hn.sub (by have:=hn.len;lia)
 have i:=Av9 (b:=c) ht.nms.nd hw.sub (by have:=hw.len;lia)
 obtain⟨cI,e,u,rfl⟩:=Cz (g:=cgN 0) (ft:=Be) (fe:=atE) (I:=λz=>∃u,z=[u,sI (.tuple (t.cols.map PyData.str))]) (f:=λp => p.1) (G:=λp=>p.2) (xs:=[(sqD a (ks.map PyData.str),.list (Fi t.cols ks)),(sqD b (ns.map PyData.str),.list (Fi t.cols ns)),(sqD c (vs.map PyData.str),.list (Fi t.cols vs))]) ⟨none,rfl⟩
  (λp z d h=>by
   obtain⟨u,rfl⟩:=h
   refine⟨[sI p.1,some _],?_,_,rfl⟩
   simp at d
   rcases d with rfl | rfl | rfl
   ·wp_walk using j
   ·wp_walk using k
   ·wp_walk using i)
 refine Dm (c1:=lfv _ R _ _ _ _) ?_ (by simp_all) e rfl
 rfl
abbrev ptI:o_:=cLC [none,some 1] (Bl (Aa 0)) (cgN 0) Be (cOp Aj (Aa 1) (Aa 0))
theorem Aw5 {cols:v4}{r:m6}{ns:v4}(hn:∀x∈ns,x∈cols)(hr:r.length=cols.length)(hl:ns.length<=12):ptI [sI (.list (Fi cols ns)),sI (tD r)]=.ok (.o (.ls false (ns.map λx=>(vAt cols r x).d))) [sI (.list (Fi cols ns)),sI (tD r)]:=by
 obtain⟨cI,e,u,rfl⟩:=Cz (g:=cgN 0) (ft:=Be) (fe:=cOp Aj (Aa 1) (Aa 0)) (I:=λc=>∃u,c=[u,sI (tD r)]) (f:=λx=>PyData.int (fnd x cols)) (G:=λx=>(vAt cols r x).d) ⟨none,rfl⟩
  (λx c b a=>by
   obtain⟨u,rfl⟩:=a
   refine⟨[sI (.int (fnd x cols)),some _],?_,_,rfl⟩
   wp_walk using Be3 (hn x b) hr)
 exact Dm (c1:=[some _,sI _]) (by rfl) (by grind) e rfl
abbrev ptE:o_:=cLC [none,some 9] (Bl (Aa 5)) (cgN 0) Be (cUn Az ptI)
theorem B5d {t:Tb}{ks ns vs:v4}(hk:Cs t ks)(hn:Cs t ns)(hw:Cs t vs){r:m6}(hr:r.length=t.cols.length){c:O}(j:Y7 c (atD t.cols ks ns vs)){C R A B V:t6}{x6 x7 x8:n8}{rest:n7} :
 ptE (lfv C R A B V (some c::x6::x7::x8::some (.im (tD r))::rest))=.ok (.o (.ls false [tD (pick t.cols r ks),tD (pick t.cols r ns),tD (pick t.cols r vs)])) (lfv C R A B V (sI (.list (atD t.cols ks ns vs))::x6::x7::x8::some (.im (tD r))::rest)):=by
 have k:=Aw5 hk.sub hr hk.len;have h:=Aw5 hn.sub hr hn.len;have m:=Aw5 hw.sub hr hw.len
 have b:∀L:v4,PyData.tuple (L.map λx=>(vAt t.cols r x).d)=tD (pick t.cols r L):=λL=>by unfold tD pick;rw[cV];rfl
 have a:∀l:w5,Az (.list l)=sI (.tuple l):=λ_=>rfl
 obtain⟨cI,e,u,rfl⟩:=Cz (g:=cgN 0) (ft:=Be) (fe:=cUn Az ptI) (I:=λz=>∃u,z=[u,sI (tD r)]) (f:=λp:PyData×t6=>p.1) (G:=λp=>p.2) (xs:=[(.list (Fi t.cols ks),tD (pick t.cols r ks)),(.list (Fi t.cols ns),tD (pick t.cols r ns)),(.list (Fi t.cols vs),tD (pick t.cols r vs))]) ⟨none,rfl⟩
  (λp z d i=>by
   obtain⟨u,rfl⟩:=i
   refine⟨[sI p.1,some _],?_,_,rfl⟩
   simp at d
   rcases d with rfl | rfl | rfl
   ·wp_walk using k,b,a
   ·wp_walk using h,b,a
   ·wp_walk using m,b,a)
 exact Dm (ds:=atD _ _ _ _) (c1:=lfv C R A B V (some _::x6::x7::x8::some (.im _)::rest)) (by
  rcases j with rfl | rfl <;> wp_walk using lfv,Bl,Jo) (by simp_all) e rfl
theorem A7g {t:Tb}(ht:Tb.Ok t){ks ns vs:v4}(hk:Cs t ks)(hn:Cs t ns)(hw:Cs t vs)(S:(prs t ks ns).Nodup){k:Nat}{a:m6}(hr:t.rows[k]?=some a){C R A B V:t6}{y n b:O}{o r m:n8}
 (M:Y7 y (atD t.cols ks ns vs)) (X:Y7 n ((fs (((prs t ks ns).take k).map (·.1))).map tD)) (Y:Y7 b ((fs (((prs t ks ns).take k).map (·.2))).map tD)) :
 Dz (lfv C R A B V [some y,some n,some b,none,sI (tD a),o,r,m]) ((fs ((prs t ks ns).take k)).map kD) ((fs ((prs t ks ns).take k)).map λq=>DE.d (tD (cellOf t ks ns vs q))) =
 .nx (lfv C R A B V [sI (.list (atD t.cols ks ns vs)),sF ((fs (((prs t ks ns).take (k+1)).map (·.1))).map tD),sF ((fs (((prs t ks ns).take (k+1)).map (·.2))).map tD),none,sI (tD a),sI (tD (pick t.cols a ks)),sI (tD (pick t.cols a ns)),sI (tD (pick t.cols a vs))])
  ((fs ((prs t ks ns).take (k+1))).map kD) ((fs ((prs t ks ns).take (k+1))).map λq=>DE.d (tD (cellOf t ks ns vs q))):=by
 have v:=ht.rows a (bz hr)
 have s:(prs t ks ns)[k]?=some (pick t.cols a ks,pick t.cols a ns):=by unfold prs;simp_all
 obtain⟨D,z,N,_⟩:=Bm4 (vs:=vs) S s
 cases hr.symm.trans z
 have P:=Oe ht (ks:=ks) (ns:=ns);have E:=B5d hk hn hw v.1 M (C:=C) (R:=R) (A:=A) (B:=B) (V:=V) (x6:=some n) (x7:=some b) (x8:=none) (rest:=[o,r,m]);rw[<- N]at E ⊢;have F:VBs (pick t.cols a ks):=Lp v.2;have I:VBs (pick t.cols a ns):=Lp v.2
 have L:∀u∈fs (((prs t ks ns).take k).map (·.1)),VBs u:=λu w=>by
  obtain⟨q,x,rfl⟩:=aG.mp (zW.mp w);exact(S5 ht (Ap2 x)).1
 have Q:∀u∈fs (((prs t ks ns).take k).map (·.2)),VBs u:=λu w=>by
  obtain⟨q,x,rfl⟩:=aG.mp (zW.mp w);exact(S5 ht (Ap2 x)).2
 have H:∀f:PH->m6,(fs (((prs t ks ns).take k).map f)).length<=200:=λf=>aq (Mg _) (by grind)
 rw[Ar6 (f:=(·.1)) s,Ar6 (f:=(·.2)) s,Vo s]
 generalize hA:fs (((prs t ks ns).take k).map (·.1))=A1 at *
 generalize hB:fs (((prs t ks ns).take k).map (·.2))=B1 at *
 have T:=hA▸H (·.1)
 have U:=hB▸H (·.2)
 generalize atD t.cols ks ns vs=AT at *
 generalize cellOf t ks ns vs=G at *
 generalize hl':prs t ks ns=l at *
 generalize pick t.cols a ks=p at *
 generalize pick t.cols a ns=h at *
 have W:∀e j,Ph (d:=8) ptE (cgL 3 (Aw (cgN 10) (Aw (cgN 11) (Aw (cgN 12) Cu)))) (lfv C R A B V [some y,some n,some b,none,sI (tD a),o,r,m]) e j =
  .nx (lfv C R A B V [sI (.list AT),some n,some b,none,sI (tD a),sI (tD p),sI (tD h),sI (tD (G (p,h)))]) e j:=λe j=>by
  unfold Ph;rw[E,K.R.toB_ok]
  rfl
 have Z:=A1a (c:=lfv C R A B V [sI (.list AT),some n,some b,none,sI (tD a),sI (tD p),sI (tD h),sI (tD (G (p,h)))]) (i:=6) (fe:=Aa 10) X rfl rfl F L T;have s3:=A1a (c:=lfv C R A B V [sI (.list AT),sF ((ins A1 p).map tD),some b,none,sI (tD a),sI (tD p),sI (tD h),sI (tD (G (p,h)))]) (i:=7) (fe:=Aa 11) Y rfl rfl I Q U;unfold Dz Aj8;rw[W]
 show (match Ph (d:=8) _ _ _ _ _ with | .nx c ks es=>_ | .bad=>_)=_
 have s4:∀e j,Ph (d:=8) (cOp Av (Aa 6) (cOp Qd (Ds (Ab (Aa 10) Ai)) (cUn Uq (cOp (Pk true) (Aa 10) (Aa 6))))) (cgN 6) (lfv C R A B V [sI (.list AT),some n,some b,none,sI (tD a),sI (tD p),sI (tD h),sI (tD (G (p,h)))]) e j =
  .nx (lfv C R A B V [sI (.list AT),sF ((ins A1 p).map tD),some b,none,sI (tD a),sI (tD p),sI (tD h),some _]) _ _:=λe j=>by
  unfold Ph;rw[Z];rfl
 rw[s4]
 show (match Ph _ _ _ _ _ with | .nx c _ _=>_ | .bad=>_)=_
 have J:∀e j,Ph (d:=8) (cOp _ _ _) (cgN 7) _ e j =
  .nx _ _ _:=λe j=>by
  unfold Ph;rw[s3];rfl
 rw[J]
 have:=Ak6 (d:=8) (c:=lfv C R A B V [sI (.list AT),sF ((ins A1 p).map tD),sF ((ins B1 h).map tD),none,sI (tD a),sI (tD p),sI (tD h),sI (tD (G (p,h)))]) (fv:=λ_ _=>Aa 12) (g:=λq=>DE.d (tD (G q))) (q:=(p,h)) A0o rfl rfl (A0x (l.take k)) (Yh F I) (Ly (aq P (by decide))) rfl
 rw[Ad2 ]at this
 trivial
abbrev Bk3:o_:=Ci (Ab (Aa 0) (Ab (cUn Az (cLC [none,some 2,some 0] (Bl (Aa 1)) (cgN 0) Be (Jh (Aa 1) (Ci (Ab (Aa 2) (Ab (Aa 0) Ai))) (cC .none)))) Ai))
theorem Bg0 {qs:List PH}{g:PH->t6}{P hs:m5}(hv:∀q∈qs,VBs q.1/\VBs q.2)(hp:∀p∈P,VBs p)(i:∀h∈hs,VBs h)(hl:hs.length<=200):∃u,Dl (cgN 0) Be Bk3 (P.map tD) [] [none,sI (.list (hs.map tD)),some (.ty (.ds (qs.map kD) (qs.map g)))]=.ok (P.map λp=>.tuple [tD p,Ng qs g .none hs p]) [u,sI (.list (hs.map tD)),some (.ty (.ds (qs.map kD) (qs.map g)))]:=by
 have a:∀p∈P,cLC [none,some 2,some 0] (Bl (Aa 1)) (cgN 0) Be (Jh (Aa 1) (Ci (Ab (Aa 2) (Ab (Aa 0) Ai))) (cC .none)) [sI (tD p),sI (.list (hs.map tD)),some (.ty (.ds (qs.map kD) (qs.map g)))]=.ok (.o (.ls false (hs.map λh=>if (p,h)∈qs then g (p,h) else .none))) [sI (tD p),sI (.list (hs.map tD)),some (.ty (.ds (qs.map kD) (qs.map g)))]:=λp j=>by
  obtain⟨k,e,u,rfl⟩:=Cz (g:=cgN 0) (ft:=Be) (fe:=Jh (Aa 1) (Ci (Ab (Aa 2) (Ab (Aa 0) Ai))) (cC .none)) (I:=λc=>∃u,c=[u,some (.ty (.ds (qs.map kD) (qs.map g))),sI (tD p)]) (f:=tD) (G:=λh=>if (p,h)∈qs then g (p,h) else .none) (xs:=hs) (acc:=[]) (c:=[none,some (.ty (.ds (qs.map kD) (qs.map g))),sI (tD p)]) ⟨none,rfl⟩
   (λh c d b=>by
    obtain⟨u,rfl⟩:=b
    refine⟨[sI (tD h),some (.ty (.ds (qs.map kD) (qs.map g))),sI (tD p)],?_,_,rfl⟩
    have e:=Bd9 (x:=.none) (g:=g) hv (hp p j) (i h d) (c:=[sI (tD h),some (.ty (.ds (qs.map kD) (qs.map g))),sI (tD p)]) (fa:=Aa 1) (fw:=Ci (Ab (Aa 2) (Ab (Aa 0) Ai))) (fx:=cC .none) (by trivial) (by rfl) (by trivial)
    unfold Mi
    rw[show cgN 0 _ _=.ok _ [some _,some _,some _] from rfl]
    show (Jh _ _ _ _).bind _=_
    rw[e];rfl)
  exact Dm (by rfl) (by grind) (by exact e) rfl
 obtain⟨k,e,u,rfl⟩:=Cz (g:=cgN 0) (ft:=Be) (fe:=Bk3) (I:=λc=>∃u,c=[u,sI (.list (hs.map tD)),some (.ty (.ds (qs.map kD) (qs.map g)))]) (f:=tD) (G:=λp=>PyData.tuple [tD p,Ng qs g .none hs p]) (xs:=P) (acc:=[]) ⟨none,rfl⟩
  (λp c d b=>by
   obtain⟨u,rfl⟩:=b
   refine⟨[sI (tD p),some _,some _],?_,_,rfl⟩
   wp_walk using Bk3,a p d,Az)
 grind
theorem Bs5 {t:Tb}(ht:Tb.Ok t){a b c:Bool}{ks ns vs:v4}(z:(ks++ns++vs).Perm t.cols)(Z:(prs t ks ns).Nodup):K3 [.im (.tuple (t.cols.map PyData.str)),.im (.list (t.rows.map tD)),.im (sqD a (ks.map PyData.str)),.im (sqD b (ns.map PyData.str)),.im (sqD c (vs.map PyData.str))]=.ret (.im (fdD t ks ns vs)) [.im (.tuple (t.cols.map PyData.str)),.im (.list (t.rows.map tD)),.im (sqD a (ks.map PyData.str)),.im (sqD b (ns.map PyData.str)),.im (sqD c (vs.map PyData.str))]:=by
 have w:=z.length_eq;have cl:=ht.clen;rw[aH,aH]at w
 have K:Cs t ks:=⟨λx r=>z.mem_iff.mp (aX _ (aX _ r)),by lia⟩
 have L:Cs t ns:=⟨λx r=>z.mem_iff.mp (aX _ (aN _ r)),by lia⟩
 have I:Cs t vs:=⟨λx r=>z.mem_iff.mp (aN _ r),by lia⟩
 have J:=λm=>B4h ht (a:=a) (b:=b) (c:=c) K L I (R:=.list (t.rows.map tD)) (rest:=m)
 have t1:=T3 (b:=a) K.len;have t2:=T3 (b:=b) L.len;have t3:=T3 (b:=c) I.len
 generalize sqD a (ks.map PyData.str)=A at *
 generalize sqD b (ns.map PyData.str)=B at *
 generalize sqD c (vs.map PyData.str)=V at *
 have hrl:=ht.rlen
 obtain⟨c',ks',es',Y,j,v,s,o,f,h,i,rfl,W,C,D,rfl,rfl⟩:=Ku (d:=8) (g:=cgN 9) (F:=Dz) (items:=t.rows.map tD) (n:=0) (ks:=[]) (es:=[])
  (c:=lfv (.tuple (t.cols.map PyData.str)) (.list (t.rows.map tD)) A B V [sF (atD t.cols ks ns vs),sF [],sF [],none,none,none,none,none])
  (P:=λk c X U=>∃j v s o f h i,c=lfv (.tuple (t.cols.map PyData.str)) (.list (t.rows.map tD)) A B V [some j,some v,some s,none,o,f,h,i]/\Y7 j (atD t.cols ks ns vs)/\Y7 v ((fs (((prs t ks ns).take k).map (·.1))).map tD)/\Y7 s ((fs (((prs t ks ns).take k).map (·.2))).map tD) /\
   X=(fs ((prs t ks ns).take k)).map kD/\U=(fs ((prs t ks ns).take k)).map λq=>DE.d (tD (cellOf t ks ns vs q))) ⟨_,_,_,none,none,none,none,rfl,.inl rfl,.inl rfl,.inl rfl,rfl,rfl⟩
  (λk x c X U r E=>by
   rw[aO]at E ⊢;obtain⟨j,v,s,o,f,h,i,rfl,W,C,D,rfl,rfl⟩:=E;obtain⟨H,hr,rfl⟩:=El r
   exact⟨lfv (.tuple (t.cols.map PyData.str)) (.list (t.rows.map tD)) A B V [some j,some v,some s,none,sI (tD H),f,h,i],_,_,_,rfl,rfl,A7g ht K L I Z hr W C D,_,_,_,_,_,_,_,rfl,.inr rfl,.inl rfl,.inl rfl,rfl,rfl⟩)
 have N:(prs t ks ns).length=t.rows.length:=by unfold prs;rw[ao]
 rw[ao,aO,<- N,dN]at Y C D;have O:=A2m Z;have hl:=Oe ht (ks:=ks) (ns:=ns)
 have M:∀q∈prs t ks ns,VBs q.1/\VBs q.2:=λq y=>S5 ht y
 have e4:=Vi (d:=8) (fi:=Bl (Aa 1)) (g:=cgN 9) (F:=Dz) (ds:=t.rows.map tD) (ks:=[]) (es:=[])
  (c:=lfv (.tuple (t.cols.map PyData.str)) (.list (t.rows.map tD)) A B V [sF (atD t.cols ks ns vs),sF [],sF [],none,none,none,none,none]) (c1:=lfv (.tuple (t.cols.map PyData.str)) (.list (t.rows.map tD)) A B V [sF (atD t.cols ks ns vs),sF [],sF [],none,none,none,none,none]) rfl rfl
 have S:=λg=>Oq (d:=8) (F:=Ad9 (d:=8) (Bl (Aa 1)) (cgN 9) Dz) (g:=g) (c:=lfv (.tuple (t.cols.map PyData.str)) (.list (t.rows.map tD)) A B V [sF (atD t.cols ks ns vs),sF [],sF [],none,none,none,none,none]) rfl (e4.trans Y)
 rw[cV,O]at S
 have e6:(DE.dat ∘ λq=>DE.d (tD (cellOf t ks ns vs q)))=λq=>tD (cellOf t ks ns vs q):=rfl
 rw[e6]at S
 have lP:(fs ((prs t ks ns).map (·.1))).length<=200:=aq (Mg _) (by rw[ao];lia)
 have lH:(fs ((prs t ks ns).map (·.2))).length<=200:=aq (Mg _) (by rw[ao];lia)
 have E:∀p∈fs ((prs t ks ns).map (·.1)),VBs p:=λp Q=>by
  obtain⟨q,y,rfl⟩:=aG.mp (zW.mp Q);exact(M q y).1
 have hH:∀p∈fs ((prs t ks ns).map (·.2)),VBs p:=λp Q=>by
  obtain⟨q,y,rfl⟩:=aG.mp (zW.mp Q);exact(M q y).2
 obtain⟨u,e⟩:=Bg0 (g:=λq=>tD (cellOf t ks ns vs q)) M E hH lH
 unfold fdD Ak1 A0m
 generalize (λq=>tD (cellOf t ks ns vs q))=G at *
 generalize hA:fs ((prs t ks ns).map (·.1))=A1 at *
 generalize hB:fs ((prs t ks ns).map (·.2))=B1 at *
 generalize prs t ks ns=l at *
 generalize PyData.tuple (t.cols.map PyData.str)=TC at *
 generalize PyData.list (t.rows.map tD)=TR at *
 have J:=J [none,none,none,none,none,none,none,none]
 generalize atD t.cols ks ns vs=AT at *
 have T:cLC [none,some 7,some 8] (Bq7 7 (Bl (Aa 6))) (cgN 0) Be Bk3 (lfv TC TR A B V [some j,some v,some s,some (.ty (.ds (l.map kD) (l.map G))),o,f,h,i])=.ok (.o (.ls false (A1.map λp=>.tuple [tD p,Ng l G .none B1 p]))) (lfv TC TR A B V [some j,sI (.list (A1.map tD)),sI (.list (B1.map tD)),some (.ty (.ds (l.map kD) (l.map G))),o,f,h,i]) :=
  Dm (ds:=A1.map tD) (c1:=lfv TC TR A B V [some j,sI (.list (A1.map tD)),sI (.list (B1.map tD)),some (.ty (.ds (l.map kD) (l.map G))),o,f,h,i]) (by rcases C with rfl | rfl <;> rcases D with rfl | rfl <;> wp_walk using lfv,Bq7,Bl,Jo) (by rw[ao];lia) e rfl
 have t5:∀ds:w5,Az (.list ds)=sI (.tuple ds):=λ_=>rfl
 generalize (A1.map λp=>PyData.tuple [tD p,Ng l G .none B1 p])=R at *
 refine Jy (p:=.o (.im (.tuple [nD ks,nD ns,nD vs,.tuple (B1.map tD),.tuple R]))) (c:=[sI TC,sF R,sI A,sI B,sI V,some j,sI (.list (A1.map tD)),sI (.list (B1.map tD)),some (.ty (.ds (l.map kD) (l.map G))),o,f,h,i]) ?_ rfl rfl
 refine (Bo (Ac2 J rfl)).trans ?_
 refine (S _).trans ?_
 refine (Bo (Ac2 T rfl)).trans ?_
 wp_walk using t1,t2,t3,t5
theorem range_getD (ds:w5):((List.range ds.length).map λi=>ds.getD i .none)=ds:=by
 apply jy
 ·simp
 grind
theorem Bl4 (O:PS.Ord lt) (hk:ks.length=ds.length) (h:ds.length<64) (b:0<ks.length->kdOf ks=kd) (t:∀k∈ks,U0 kd k=true/\Cq k=true)
 (s:∀i j x y,ks[i]?=some x->ks[j]?=some y->Bi2 kd x y=some (lt i j)) :
 ∃p:List Nat,p.Perm (List.range ds.length)/\p.Pairwise (PS.Rr lt)/\Aq1 ds ks=some (p.map λi=>ds.getD i .none):=by
 unfold Aq1
 by_cases h2:ds.length<2
 ·rw[if_pos h2]
  refine⟨List.range _,.refl _,?_,?_⟩
  ·rw[List.pairwise_iff_getElem]
   grind
  ·rw[range_getD]
 ·rw[if_neg h2]
  have m:(decide (ds.length<64)&&(ks.all (U0 kd)&&ks.all Cq))=true:=by
   simp_all
  rw[if_pos m]
  obtain⟨p,e,o,g,f⟩:=PS.Bh6 (B:=A5e _ ks) O (n:=ds.length) λi j l c=>by
   unfold A5e
   grind (by lia)
  rw[e]
  refine⟨p.toList,f,?_,rfl⟩
  rw[List.pairwise_iff_getElem];intro i j l c a
  have d := by rw[gG,o]at c;exact c
  have q:=g i j a d
  have r:p.getD i 0=p.toList[i]:=by simp[iW (show i<p.size by lia)]
  simp_all
noncomputable def q3:v4:=["no","","A"]
def nm15:v4:=names12++q3
theorem Bx9:nm15.all (λx=>decide (VB (.str x)))=true:=by rfl
theorem Bx5 {x:Str}(h:x∈nm15):Good (.str x) 0 1921:=Oj (aV (bL.mp Bx9 x h))
theorem Aa1 {x:Str}(h:x∈names12):x∈nm15:=aX _ h
theorem By0 {x:Str}(h:x∈q3):x∈nm15:=aN _ h
theorem Ae7 {ns:v4}{k:Nat}(h:∀x∈ns,x∈nm15)(hk:ns.length<=k):Good (.list (ns.map PyData.str)) 1 (1923*k+4) :=
 Good.lst (λd a=>by obtain⟨v,b,rfl⟩:=aG.mp a;exact Bx5 (h v b)) (by simp_all)
theorem Bs2 {l:v4}{a b:q9}:∃l':v4,cutD (l.map PyData.str) a b=l'.map PyData.str/\(∀x∈l',x∈l)/\l'.length<=l.length :=
 ⟨_,by unfold cutD;rw[<- List.map_drop,<- List.map_take],λx c=>List.mem_of_mem_drop (List.mem_of_mem_take c),by grind⟩
theorem Bb4 {a b:v4}(h:a.length+b.length<=1000):Av (.list (a.map PyData.str)) (.list (b.map PyData.str))=sF ((a++b).map PyData.str):=by
 show (if (a.map _).length+(b.map _).length<=16000000 then some _ else none)=_
 grind
abbrev slt (a b:Str):Bool:=decide (a.cps.toList<b.cps.toList)
theorem Bj2 {x y:Str}(h:x.cps.toList=y.cps.toList):x=y:=by
 obtain⟨a⟩:=x
 simp_all
theorem Bs1 (a:Str):slt a a=false:=bw (List.lt_irrefl _)
theorem B0z {a b c:Str}(h:slt a b=true)(k:slt b c=true):slt a c=true:=aR (List.lt_trans (aV h) (aV k))
theorem Bo6 (x y:Str):slt x y=true\/x=y\/slt y x=true:=by
 by_cases h1:x.cps.toList<y.cps.toList
 ·grind
 ·by_cases h2:y.cps.toList<x.cps.toList
  ·grind
  ·exact .inr (.inl (Bj2 (List.le_antisymm (List.not_lt.mp h2) (List.not_lt.mp h1))))
theorem Br7 {a b c:Str}(h:slt a c=true):slt a b=true\/slt b c=true:=by
 grind
theorem B5i (x y:Str):Yw false (.str x) (.str y)=some (slt x y):=rfl
theorem Aj4 {L:v4}(hm:∀x∈L,x∈nm15)(hl:L.length<64):∃out:v4,out.Perm L/\out.Pairwise (λa b=>slt b a=false)/\Aq1 (L.map PyData.str) (L.map PyData.str)=some (out.map PyData.str):=by
 obtain⟨p,d,m,e⟩:=Bl4 (ds:=L.map _) (kd:=.ss) (lt:=λi j=>slt (L.getD i (Str.ofString "")) (L.getD j _)) ⟨λa=>Bs1 _,λa b c=>B0z,λa b c=>Br7⟩ rfl (by simp_all)
  λh=>by
   grind
  λk g=>by
   obtain⟨v,l,rfl⟩:=aG.mp g
   exact⟨rfl,(Bx5 (hm v l)).flatB (by decide)⟩
  (λi j x y f o=>by
   obtain⟨a,q,rfl⟩:=El f;obtain⟨b,n,rfl⟩:=El o
   rw[fC,fC,q,n];rfl)
 rw[ao]at d
 have r:∀i∈p,i<L.length:=λi s=>List.mem_range.mp (d.mem_iff.mp s)
 refine⟨p.map λi=>L.getD i (Str.ofString ""),?_,?_,?_⟩
 ·have:=d.map λi=>L.getD i (Str.ofString "")
  have e2:((List.range L.length).map λi=>L.getD i (Str.ofString ""))=L:=by
   apply jy
   ·simp
   grind
  simp_all
 ·rw[j5]
  refine m.imp λ{i j} h=>?_
  rcases h with h | ⟨h,_⟩
  ·grind
  grind
 simp_all
theorem A6o {α:Type}[DecidableEq α]{R:α->α->Prop}(anti:∀a b,R a b->R b a->a=b):∀{p q:List α},p.Perm q->p.Pairwise R->q.Pairwise R->p=q
 | [],q,h,_,_=>(List.Perm.eq_nil h.symm).symm
 | a::p,[],h,_,_=>absurd h.length_eq (by simp)
 | a::p,b::q,h,wp,wq=>by
  have e:a=b:=by
   by_cases e:a=b
   ·exact e
   ·have ha:a∈q:=(aB.mp (h.mem_iff.mp (.head _))).resolve_left e
    have hb:b∈p:=(aB.mp (h.symm.mem_iff.mp (.head _))).resolve_left (aD e);exact anti a b ((j6.mp wp).1 b hb) ((j6.mp wq).1 a ha)
  subst e;rw[A6o anti (List.Perm.cons_inv h) (j6.mp wp).2 (j6.mp wq).2]
theorem A9c (a b:Str)(h:slt b a=false)(k:slt a b=false):a=b:=by
 rcases Bo6 a b with q | q | q
 ·simp_all
 ·grind
 simp_all
theorem Ap3:∀as bs:v4,PyData.eqvAll (as.map PyData.str) (bs.map PyData.str)=decide (as=bs)
 | [],[]=>rfl
 | [],b::bs=>rfl
 | a::as,[]=>rfl
 | a::as,b::bs=>by
  show (PyData.eqv (.str a) (.str b)&&PyData.eqvAll (as.map PyData.str) (bs.map PyData.str))=_
  rw[Ai3,Ap3 as bs]
  simp
structure Pr (p:List Str×v4):Prop where
 s1:∀x∈p.1,x∈nm15
 s2:∀x∈p.2,x∈nm15
 l1:p.1.length<=20
 l2:p.2.length<=20
noncomputable def prD (p:List Str×v4):t6:=.tuple [.list (p.1.map PyData.str),.list (p.2.map PyData.str)]
abbrev B1z:o7:=Bh (cOp (Cr true) (cUn Ju (cOp Av (cOp Aj (Aa 0) (cC (.int 0))) (cOp Aj (Aa 0) (cC (.int 1))))) (cUn Ju (cOp Av (cOp Aj (Aa 1) (cC (.int 0))) (cOp Aj (Aa 1) (cC (.int 1))))))
abbrev Tj (w:Wd) (p:List Str×v4):Bool:=decide ((p.1++p.2).Perm (w.key++w.names))
theorem Ba5 {w:Wd}(h:w.Ok){p:List Str×v4}(hp:Pr p):∃d1 d2:w5,Ju (.list ((p.1++p.2).map PyData.str))=sF d1/\Ju (nD (w.key++w.names))=sF d2/\Cr true (.list d1) (.list d2)=sI (.bool (!Tj w p)):=by
 have t:=h.klen;have o:=h.nlen;have r:=hp.l1;have s:=hp.l2
 have i:∀x∈p.1++p.2,x∈nm15:=λx a=>by
  rcases bx.mp a with q | q
  ·exact hp.s1 x q
  ·exact hp.s2 x q
 have d:∀x∈w.key++w.names,x∈nm15:=λx a=>Aa1 (h.nms.sub x (aX _ a))
 obtain⟨g,b,m,v⟩:=Aj4 i (by grind)
 obtain⟨f,c,l,u⟩:=Aj4 d (by grind)
 refine⟨g.map PyData.str,f.map PyData.str,?_,?_,?_⟩
 ·show (Aq1 _ _).map _=_
  grind
 ·show (Aq1 _ _).map _=_
  grind
 ·have n:=Ae7 (k:=60) (λx a=>i x (b.mem_iff.mp a)) (by rw[b.length_eq,aH];lia)
  have j:=Ae7 (k:=60) (λx a=>d x (c.mem_iff.mp a)) (by rw[c.length_eq,aH];lia)
  rw[A5d n j (by decide) (by decide)]
  have:PyData.eqv (.list (g.map PyData.str)) (.list (f.map PyData.str))=Tj w p:=by
   show PyData.eqvAll _ _=_
   rw[Ap3]
   exact jD.mpr ⟨λe=>b.symm.trans (e▸c),λe=>A6o A9c (b.trans (e.trans c.symm)) m l⟩
  grind
theorem Zu {α β:Type}(q:α->Bool)(f:α->β):∀l:List α,l.filterMap (λx=>if q x=true then none else some (f x))=(l.filter λx=>!q x).map f
 | []=>rfl
 | x::l=>by
  have:=Zu q f l;rw[dW,jE]
  cases hz:q x
  ·simp only[bV,bj,Bool.not_false,c7,aF,this]
  ·simp only[c7,Bool.not_true,bV,bj,this]
theorem Bn2 {w:Wd}(h:w.Ok){ps:List (List Str×v4)}(hp:∀p∈ps,Pr p)(hl:ps.length<=100){x0 x2 x3 x4:n8} :
 cLC [none,some 1] (Bl (Aa 5)) (cgN 0) B1z (Aa 0) [x0,sI w.d,x2,x3,x4,sF (ps.map prD)]=.ok (.o (.ls false ((ps.filter λp=>!Tj w p).map prD))) [x0,sI w.d,x2,x3,x4,sI (.list (ps.map prD))]:=by
 have o:Aj w.d (.int 0)=sI (nD w.key):=rfl;have l:Aj w.d (.int 1)=sI (nD w.names):=rfl
 have m:=add_n (a:=w.key) (b:=w.names) (by have:=h.klen;have:=h.nlen;lia)
 obtain⟨cI,e,u,rfl⟩:=Ks (g:=cgN 0) (ft:=B1z) (fe:=Aa 0) (I:=λc=>∃u,c=[u,sI w.d]) (f:=prD) (G:=λp=>if Tj w p=true then none else some (prD p)) (xs:=ps) (acc:=[]) (c:=[none,sI w.d]) ⟨none,rfl⟩
  (λp c i n=>by
   obtain⟨u,rfl⟩:=n
   refine⟨[sI (prD p),sI w.d],?_,_,rfl⟩
   have d:=hp p i;obtain⟨d1,d2,k,r,q⟩:=Ba5 h d;have s:Aj (prD p) (.int 0)=sI (.list (p.1.map PyData.str)):=rfl;have t:Aj (prD p) (.int 1)=sI (.list (p.2.map PyData.str)):=rfl
   have j:=Bb4 (a:=p.1) (b:=p.2) (by have:=d.l1;have:=d.l2;lia)
   generalize (p.1++p.2).map PyData.str=L at *
   generalize p.1.map PyData.str=L1 at *
   generalize p.2.map PyData.str=L2 at *
   generalize prD p=P at *
   generalize Tj w p=bb at *
   cases bb <;> wp_walk using B1z,s,t,o,l,j,m,k,r,q)
 rw[(Zu (Tj w) prD ps)]at e
 exact Dm (c1:=[x0,sI _,x2,x3,x4,some _]) (by wp_walk using Bl,Jo) (by rw[ao];lia) e rfl
theorem Z9 {l:v4}{a b:q9}:∃c:v4,G3 (.list (l.map PyData.str)) a b=sF (c.map PyData.str)/\(∀x∈c,x∈l)/\c.length<=l.length:=by
 obtain⟨c,e,m,n⟩:=Bs2
 exact⟨c,by show some _=_;rw[e],m,n⟩
theorem A5w {n:Nat}{ds:w5}{w:Wd}(hb:Bx n ds)(hn:n<2 ^ 36)(h:w.Ok){ks ns:v4}(pm:(ks++ns).Perm (w.key++w.names)) :
 ∃(p:List Str×v4) (y:w5),Pr p/\Tj w p=false/\Bx (n+2) y/\J1 [.ls true ds,.im w.d,.im (.list (ks.map PyData.str)),.im (.list (ns.map PyData.str))]=.ret (.im (prD p)) [.ls true y,.im w.d,.im (.list (ks.map PyData.str)),.im (.list (ns.map PyData.str))]:=by
 have kl:=h.klen;have nl:=h.nlen;have U:=pm.length_eq;rw[aH,aH]at U
 have f:∀x∈ks,x∈nm15:=λx k=>Aa1 (h.nms.sub x (aX _ (pm.mem_iff.mp (aX _ k))))
 have d:∀x∈ns,x∈nm15:=λx k=>Aa1 (h.nms.sub x (aX _ (pm.mem_iff.mp (aN _ k))))
 obtain⟨r,y,b1,r0,r1,e1⟩:=Cd (m:=4) hb (by lia) (by decide) (by decide)
 have j2:Aj w.d (.int 2)=sI (nD w.vals):=rfl
 obtain⟨G,vr,hv⟩:∃G vr,w.vals=G::vr:=by
  have:=h.vpos
  cases hw:w.vals with
  | nil=>rw[hw]at this;cases this
  | cons a b=>exact⟨a,b,rfl⟩
 have j3:Aj (nD w.vals) (.int 0)=sI (.str G):=by
  rw[hv]
  show (atI ((G::vr).map PyData.str) ((0:Nat):Int)).map O.im=_
  rw[Gz (show ((G::vr).map PyData.str)[0]?=some (.str G) from rfl)];rfl
 have hv0:G∈nm15:=Aa1 (h.nms.sub G (aN _ (by rw[hv];exact .head _)))
 obtain⟨o,ho,e2⟩:∃o∈nm15,Aj (.list [.str G,.str "no",.str "",.str "A"]) (.int r)=sI (.str o):=by
  have:r=0\/r=1\/r=2\/r=3:=by lia
  rcases this with rfl | rfl | rfl | rfl
  ·exact⟨G,hv0,rfl⟩
  ·exact⟨_,By0 (.head _),rfl⟩
  ·exact⟨_,By0 (.tail _ (.head _)),rfl⟩
  ·exact⟨_,By0 (.tail _ (.tail _ (.head _))),rfl⟩
 have E:∀x∈[o],x∈nm15:=λx k=>by rw[aQ.mp k];exact ho
 have C:∀{A B:v4},(∀x∈A,x∈nm15)->(∀x∈B,x∈nm15)->∀x∈A++B,x∈nm15:=λa b x k=>by
  rcases bx.mp k with q | q
  ·exact a x q
  ·exact b x q
 have v:∀{A B:v4},A.length+B.length<=1000->Av (.list (A.map PyData.str)) (.list (B.map PyData.str))=sF ((A++B).map PyData.str):=λh=>Bb4 h
 have aL:∀{P Q:List (List Str×v4)},P.length+Q.length<=1000->Av (.list (P.map prD)) (.list (Q.map prD))=sF ((P++Q).map prD):=λ{P Q} h=>by
  show (if (P.map prD).length+(Q.map prD).length<=16000000 then some (O.ls false (P.map prD++Q.map prD)) else none)=_
  rw[ao,ao,if_pos (by lia),bA]
 let e:List (List Str×v4):=[(ks++[o],ns),(ks,[o]++ns),(ks++ks++ns,ns),(ks,ns++ks++ns)]
 have hP1:∀p∈e,Pr p:=λp i=>by
  simp only[e,aB,a_,bc]at i
  rcases i with rfl | rfl | rfl | rfl
  ·exact⟨C f E,d,by simp;lia,by show ns.length<=20;lia⟩
  ·exact⟨f,C E d,by show ks.length<=20;lia,by simp;lia⟩
  ·exact⟨C (C f f) d,d,by simp;lia,by show ns.length<=20;lia⟩
  ·exact⟨f,C (C d f) d,by show ks.length<=20;lia,by simp;lia⟩
 have f1:=v (A:=ks) (B:=[o]) (by simp;lia)
 have f2:=v (A:=[o]) (B:=ns) (by simp;lia)
 have f3:=v (A:=ks) (B:=ks) (by lia)
 have f4:=v (A:=ks++ks) (B:=ns) (by simp;lia)
 have f5:=v (A:=ns) (B:=ks) (by lia)
 have f6:=v (A:=ns++ks) (B:=ns) (by simp;lia)
 have st2:Bq (Ds (Ab (Ci (Ab (cOp Av (Aa 2) (Ds (Ab (Aa 4) Ai))) (Ab (Aa 3) Ai))) (Ab (Ci (Ab (Aa 2) (Ab (cOp Av (Ds (Ab (Aa 4) Ai)) (Aa 3)) Ai))) (Ab (Ci (Ab (cOp Av (cOp Av (Aa 2) (Aa 2)) (Aa 3)) (Ab (Aa 3) Ai))) (Ab (Ci (Ab (Aa 2) (Ab (cOp Av (cOp Av (Aa 3) (Aa 2)) (Aa 3)) Ai))) Ai))))) (cgN 5) [sT y,sI w.d,sI (.list (ks.map PyData.str)),sI (.list (ns.map PyData.str)),sI (.str o),none]=.nx [sT y,sI w.d,sI (.list (ks.map PyData.str)),sI (.list (ns.map PyData.str)),sI (.str o),sF (e.map prD)]:=by
  show _=SR.nx [_,_,_,_,_,sF [prD (ks++[o],ns),prD (ks,[o]++ns),prD (ks++ks++ns,ns),prD (ks,ns++ks++ns)]]
  unfold prD;simp only[aF,cQ]at f1 f2
  generalize (ks++[o]).map PyData.str=X1 at *
  generalize ([o]++ns).map PyData.str=X2 at *
  generalize (ks++ks++ns).map PyData.str=X3 at *
  generalize (ns++ks++ns).map PyData.str=X4 at *
  generalize (ks++ks).map PyData.str=X5 at *
  generalize (ns++ks).map PyData.str=X6 at *
  generalize ks.map PyData.str=K at *
  generalize ns.map PyData.str=N at *
  generalize w.d=D at *
  wp_walk using f1,f2,f3,f4,f5,f6
 have L:∃u:List (List Str×v4),(∀p∈u,Pr p)/\u.length<=4/\cIf (Bh (cOp Yo (Gr (Aa 2)) (cC (.int 0)))) (Bg (Bq (cOp Av (Aa 5) (Ds (Ab (Ci (Ab (cSl G3 (Aa 2) (cOS (cC (.int 1))) cON) (Ab (Aa 3) Ai))) (Ab (Ci (Ab (Aa 2) (Ab (cOp Av (Aa 3) (cSl G3 (Aa 2) cON (cOS (cC (.int 1))))) Ai))) (Ab (Ci (Ab (cOp Av (Ds (Ab (Aa 4) Ai)) (cSl G3 (Aa 2) (cOS (cC (.int 1))) cON)) (Ab (Aa 3) Ai))) Ai))))) (cgN 5))
  (Fq (Pz (Aa 5) (Ci (Ab (cOp Av (cSl G3 (Aa 2) cON (cOS (cUn Um (cC (.int 1))))) (Ds (Ab (Aa 4) Ai))) (Ab (Aa 3) Ai)))))) Dh [sT y,sI w.d,sI (.list (ks.map PyData.str)),sI (.list (ns.map PyData.str)),sI (.str o),sF (e.map prD)]=.nx [sT y,sI w.d,sI (.list (ks.map PyData.str)),sI (.list (ns.map PyData.str)),sI (.str o),sF ((e++u).map prD)]:=by
  have lk:Hu [.list (ks.map PyData.str)]=sI (.int (ks.length:Nat)):=by show some (O.im (.int ((ks.map PyData.str).length:Nat)))=_;rw[ao]
  by_cases k0:0<ks.length
  ·obtain⟨g,g1,m1,n1⟩:=Z9 (l:=ks) (a:=some 1) (b:=none)
   obtain⟨s,g2,m2,n2⟩:=Z9 (l:=ks) (a:=none) (b:=some 1);obtain⟨t,g3,m3,n3⟩:=Z9 (l:=ks) (a:=none) (b:=some (-1))
   have H:∀x∈g,x∈nm15:=λx k=>f x (m1 x k)
   have M:∀x∈s,x∈nm15:=λx k=>f x (m2 x k)
   have R:∀x∈t,x∈nm15:=λx k=>f x (m3 x k)
   have q1:=v (A:=ns) (B:=s) (by lia)
   have q2:=v (A:=[o]) (B:=g) (by simp;lia)
   have Z:=v (A:=t) (B:=[o]) (by simp;lia)
   have I:=aL (P:=e) (Q:=[(g,ns),(ks,ns++s),([o]++g,ns)]) (by simp[e])
   have ng:Um (.int 1)=sI (.int (-1)):=rfl
   refine⟨[(g,ns),(ks,ns++s),([o]++g,ns),(t++[o],ns)],?_,au 4,?_⟩
   ·intro p i
    simp only[aB,a_,bc]at i
    rcases i with rfl | rfl | rfl | rfl
    ·exact⟨H,d,by show g.length<=20;lia,by show ns.length<=20;lia⟩
    ·exact⟨f,C d M,by show ks.length<=20;lia,by simp;lia⟩
    ·exact⟨C E H,d,by simp;lia,by show ns.length<=20;lia⟩
    ·exact⟨C R E,d,by simp;lia,by show ns.length<=20;lia⟩
   ·have e9:(e++[(g,ns),(ks,ns++s),([o]++g,ns),(t++[o],ns)]).map prD=(e++[(g,ns),(ks,ns++s),([o]++g,ns)]).map prD++[prD (t++[o],ns)]:=by simp
    have l9:((e++[(g,ns),(ks,ns++s),([o]++g,ns)]).map prD).length<=100:=by simp[e]
    rw[e9]
    generalize hX:(e++[(g,ns),(ks,ns++s),([o]++g,ns)]).map prD=X at *
    generalize hY:e.map prD=Y at *
    clear_value e
    simp only[aF,cQ]at q2 Z I;unfold prD at I ⊢;simp only[aF,cQ]at I
    generalize (ns++s).map PyData.str=X1 at *
    generalize ([o]++g).map PyData.str=X2 at *
    generalize (t++[o]).map PyData.str=X3 at *
    generalize ks.map PyData.str=K at *
    generalize ns.map PyData.str=N at *
    generalize w.d=D at *
    generalize g.map PyData.str=AA1 at *
    generalize s.map PyData.str=AA2 at *
    generalize t.map PyData.str=AA3 at *
    wp_walk using lk,aR (show (0:Int)<(ks.length:Nat) by lia),g1,g2,g3,q1,q2,Z,I,ng,show X.length<16000000 by lia
  ·refine⟨[],λp i=>(nomatch i),aM _,?_⟩
   rw[cA]
   generalize e.map prD=Y at *
   generalize ks.map PyData.str=K at *
   generalize ns.map PyData.str=N at *
   generalize w.d=D at *
   wp_walk using lk,bw (show ¬ (0:Int)<(ks.length:Nat) by lia)
 obtain⟨u,hP2,lP2,L⟩:=L
 have S:∃J:List (List Str×v4),(∀p∈J,Pr p)/\J.length<=3/\cIf (Bh (cOp Yo (Gr (Aa 3)) (cC (.int 0)))) (Bq (cOp Av (Aa 5) (Ds (Ab (Ci (Ab (Aa 2) (Ab (cSl G3 (Aa 3) (cOS (cC (.int 1))) cON) Ai))) (Ab (Ci (Ab (cOp Av (Aa 2) (cSl G3 (Aa 3) cON (cOS (cC (.int 1))))) (Ab (Aa 3) Ai))) (Ab (Ci (Ab (Aa 2) (Ab (cOp Av (cSl G3 (Aa 3) cON (cOS (cUn Um (cC (.int 1))))) (Ds (Ab (Aa 4) Ai))) Ai))) Ai))))) (cgN 5)) Dh [sT y,sI w.d,sI (.list (ks.map PyData.str)),sI (.list (ns.map PyData.str)),sI (.str o),sF ((e++u).map prD)]=.nx [sT y,sI w.d,sI (.list (ks.map PyData.str)),sI (.list (ns.map PyData.str)),sI (.str o),sF ((e++u++J).map prD)]:=by
  have lk:Hu [.list (ns.map PyData.str)]=sI (.int (ns.length:Nat)):=by show some (O.im (.int ((ns.map PyData.str).length:Nat)))=_;rw[ao]
  by_cases k0:0<ns.length
  ·obtain⟨g,g1,m1,n1⟩:=Z9 (l:=ns) (a:=some 1) (b:=none)
   obtain⟨s,g2,m2,n2⟩:=Z9 (l:=ns) (a:=none) (b:=some 1);obtain⟨t,g3,m3,n3⟩:=Z9 (l:=ns) (a:=none) (b:=some (-1))
   have H:∀x∈g,x∈nm15:=λx k=>d x (m1 x k)
   have M:∀x∈s,x∈nm15:=λx k=>d x (m2 x k)
   have R:∀x∈t,x∈nm15:=λx k=>d x (m3 x k)
   have q1:=v (A:=ks) (B:=s) (by lia)
   have Z:=v (A:=t) (B:=[o]) (by simp;lia)
   have I:=aL (P:=e++u) (Q:=[(ks,g),(ks++s,ns),(ks,t++[o])]) (by simp[e];lia)
   have ng:Um (.int 1)=sI (.int (-1)):=rfl
   refine⟨[(ks,g),(ks++s,ns),(ks,t++[o])],?_,au 3,?_⟩
   ·intro p i
    simp only[aB,a_,bc]at i
    rcases i with rfl | rfl | rfl
    ·exact⟨f,H,by show ks.length<=20;lia,by show g.length<=20;lia⟩
    ·exact⟨C f M,d,by simp;lia,by show ns.length<=20;lia⟩
    ·exact⟨f,C R E,by show ks.length<=20;lia,by simp;lia⟩
   ·clear_value e
    generalize hX:(e++u++[(ks,g),(ks++s,ns),(ks,t++[o])]).map prD=X at *
    generalize hY:(e++u).map prD=Y at *
    simp only[aF,cQ]at Z I;unfold prD at I;simp only[aF,cQ]at I
    generalize (ks++s).map PyData.str=X1 at *
    generalize (t++[o]).map PyData.str=X3 at *
    generalize ks.map PyData.str=K at *
    generalize ns.map PyData.str=N at *
    generalize w.d=D at *
    generalize g.map PyData.str=AA1 at *
    generalize s.map PyData.str=AA2 at *
    generalize t.map PyData.str=AA3 at *
    wp_walk using lk,aR (show (0:Int)<(ns.length:Nat) by lia),g1,g2,g3,q1,Z,I,ng
  ·refine⟨[],λp i=>(nomatch i),aM _,?_⟩
   rw[cA]
   generalize (e++u).map prD=Y at *
   generalize ks.map PyData.str=K at *
   generalize ns.map PyData.str=N at *
   generalize w.d=D at *
   wp_walk using lk,bw (show ¬ (0:Int)<(ns.length:Nat) by lia)
 obtain⟨J,hP3,lP3,S⟩:=S
 have W:∀p∈e++u++J,Pr p:=λp i=>by
  rcases bx.mp i with i | i
  ·rcases bx.mp i with i | i
   ·exact hP1 p i
   ·exact hP2 p i
  ·exact hP3 p i
 have lPs:(e++u++J).length<=100:=by simp[e];lia
 have st5:=Bn2 h W lPs (x0:=sT y) (x2:=sI (.list (ks.map PyData.str))) (x3:=sI (.list (ns.map PyData.str))) (x4:=sI (.str o))
 have T:(ks++[o],ns)∈(e++u++J).filter λp=>!Tj w p:=by
  refine ir.mpr ⟨aX _ (aX _ (.head _)),?_⟩
  have:Tj w (ks++[o],ns)=false:=bw λz=>by
   have:=z.length_eq
   simp at this;lia
  rw[this];rfl
 generalize hF:(e++u++J).filter (λp=>!Tj w p)=F at *
 have lF:0<F.length:=List.length_pos_of_mem T
 have lF2:F.length<=100:=by rw[<- hF];exact aq (List.length_filter_le _ _) lPs
 obtain⟨q,d2,b2,q0,q1,e5⟩:=Cd (m:=(F.length:Nat)) b1 (by lia) (by lia) (by lia)
 obtain⟨j,rfl⟩:=fu q0
 have hj:j<F.length:=by lia
 have mj:∀q∈F,Pr q/\Tj w q=false:=λq hq=>by
  rw[<- hF]at hq;obtain⟨m1,m2⟩:=ir.mp hq
  exact⟨W q m1,by simpa using m2⟩
 obtain⟨mj1,mj2⟩:=mj _ (iG hj)
 have ix:Aj (.list (F.map prD)) (.int (j:Nat))=sI (prD F[j]):=by
  show (atI (F.map prD) (j:Nat)).map O.im=_
  rw[Gz (by rw[bJ,bu hj];rfl)];rfl
 have lf:Hu [.list (F.map prD)]=sI (.int (F.length:Nat)):=by show some (O.im (.int ((F.map prD).length:Nat)))=_;rw[ao]
 refine⟨F[j],d2,mj1,mj2,b2,?_⟩
 refine Jy (p:=.o (.im (prD F[j]))) (c:=[sT d2,sI w.d,sI (.list (ks.map PyData.str)),sI (.list (ns.map PyData.str)),sI (.str o),sF (F.map prD)]) ?_ rfl (by wp_walk using bC)
 show J4 [sT ds,sI w.d,sI (.list (ks.map PyData.str)),sI (.list (ns.map PyData.str)),none,none]=_
 unfold J4
 refine (Bo (c':=[sT y,sI w.d,sI (.list (ks.map PyData.str)),sI (.list (ns.map PyData.str)),sI (.str o),none]) ?_).trans ?_
 ·generalize w.d=D at *
  generalize nD w.vals=V at *
  generalize ks.map PyData.str=K at *
  generalize ns.map PyData.str=N at *
  wp_walk using j2,j3,e1,e2
 refine (Bo st2).trans ?_
 refine (Bo L).trans ?_
 refine (Bo S).trans ?_
 refine (Bo (Ac2 st5 rfl)).trans ?_
 wp_walk using lf,e5,ix
theorem Ar5 {α:Type}[DecidableEq α]:∀{a b:List α},a.Nodup->(∀x∈a,x∈b)->b.length<=a.length->b.Perm a
 | [],b,_,_,h=>by rw[List.length_eq_zero_iff.mp (Nat.le_zero.mp h)]
 | x::a,b,nd,hs,h=>by
  obtain⟨n1,n2⟩:=bH.mp nd;have hx:=hs x (.head _)
  refine (List.perm_cons_erase hx).trans ((Ar5 n2 (λy hy=>?_) ?_).cons x)
  ·exact(List.mem_erase_of_ne (λe=>n1 (by rw[<- e];exact hy))).mpr (hs y (.tail _ hy))
  ·rw[List.length_erase_of_mem hx];rw[bM]at h;lia
theorem Bm6 {w:Wd}(h:w.Ok){p:List Str×v4}(hp:Tj w p=false):okC w.tb.cols (p.1++p.2++w.vals)=false:=by
 cases hc:okC _ _ with
 | false=>rfl
 | true =>
  unfold okC at hc;rw[aA,bL]at hc;obtain⟨a,c⟩:=hc;have a:=aV a
  have := Ar5 h.nms.nd (λx b=>by
   have:=c _ (aG.mpr ⟨x,b,rfl⟩);have d := aV this;unfold Uw at d
   obtain⟨z,f,e⟩:=List.countP_pos_iff.mp (show 0<List.countP (λz=>z==x) (p.1++p.2++w.vals) by lia)
   grind) (dq a)
  have:=(List.perm_append_right_iff _).mp this
  simp_all
structure GL (ds:w5) (n w:Nat):Prop where
 lay:PyData.canLayAll0 ds=true
 g:Good (.tuple ds) (n+1) (w+4)
theorem GL.nil {n:Nat}:GL [] n 0:=⟨rfl,⟨rfl,rfl,rfl,by show 0+1<=n+1;lia,by decide⟩⟩
theorem GL.cons {d:t6}{ds:w5}{n w c:Nat}(h:Good d n w)(hs:GL ds n c):GL (d::ds) n (w+2+c):=by
 obtain⟨l,g⟩:=hs
 have e:PyData.canLayAll0 (d::ds)=true:=by show (d.canLay0&&PyData.canLayAll0 _)=true;rw[h.lay,l];rfl
 refine⟨e,⟨e,?_,?_,?_,?_⟩⟩
 ·have a:=h.shw
  have b:PyData.showableAll _=true:=g.shw
  show (d.showable&&PyData.showableAll _)=true
  simp_all
 ·have a:=h.dct
  have b:PyData.hasDictAll _=false:=g.dct
  show (d.hasDict||PyData.hasDictAll _)=false
  simp_all
 ·have a:=h.dep
  have b:PyData.depthAll _+1<=n+1:=g.dep
  show max _ _+1<=n+1
  lia
 ·have a:=h.wgt
  have b:Ji _+4<=c+4:=g.wgt
  show wt d+2+Ji _+4<=w+2+c+4
  lia
theorem Bq6 {t:Tb}(ht:Tb.Ok t){ks ns vs:v4}(hk:Cs t ks)(hn:Cs t ns)(hw:Cs t vs):∃w,Good (fdD t ks ns vs) 5 w/\Short 9 (fdD t ks ns vs):=by
 unfold fdD Ak1 A0m
 obtain⟨b,i⟩:∃b,fs ((prs t ks ns).map (·.2))=b:=⟨_,rfl⟩
 rw[i]
 have L:∀h∈b,h∈fs ((prs t ks ns).map (·.2)):=λh z=>i▸z
 have C:b.length<=144:=by rw[<- i];exact aq (Mg _) (by rw[ao];exact Oe ht)
 have E:=Oe ht (ks:=ks) (ns:=ns)
 have s:∀l:v4,Cs t l->Good (nD l) 4 2000000000/\Short 8 (nD l):=λl h=>by
  have g:Good (nD l) 1 (1923*12+4):=Good.tup (λd a=>by obtain⟨x,D,rfl⟩:=aG.mp a;exact Zi (ht.nms.sub x (h.sub x D))) (by rw[ao];exact h.len)
  exact⟨g.mono (by decide) (by decide),Rx 8 _ (aq g.wgt (by decide)) (Ar2 _)⟩
 have o:∀{q:PH},q∈prs t ks ns->VBs q.1/\q.1.length<=12/\VBs q.2/\q.2.length<=12:=λ{q} f=>by
  refine⟨(S5 ht f).1,?_,(S5 ht f).2,?_⟩
  all_goals
   obtain⟨x,_,rfl⟩:=aG.mp f
   show (pick _ _ _).length<=12
   unfold pick;rw[ao]
  ·exact hk.len
  ·exact hn.len
 have A:∀d∈b.map tD,Good d 1 (1923*12+4)/\noL d=true:=λd a=>by
  obtain⟨h,M,rfl⟩:=aG.mp a;obtain⟨q,f,rfl⟩:=aG.mp (zW.mp (L h M));exact⟨Jx (o f).2.2.1 (o f).2.2.2,Ad0 _⟩
 have y:=Good.tup (λd a=>(A d a).1) (show (b.map tD).length<=144 by rw[ao];exact C)
 have F:∀p∈fs ((prs t ks ns).map (·.1)),Good (.tuple [tD p,Ng (prs t ks ns) (λq=>tD (cellOf t ks ns vs q)) .none b p]) 3 7100000/\noL (.tuple [tD p,Ng (prs t ks ns) (λq=>tD (cellOf t ks ns vs q)) .none b p])=true:=λp G=>by
  obtain⟨q,f,rfl⟩:=aG.mp (zW.mp G)
  have c:∀d∈b.map (λh=>if (q.1,h)∈prs t ks ns then tD (cellOf t ks ns vs (q.1,h)) else .none),Good d 1 (1923*12+4)/\noL d=true:=λd a=>by
   obtain⟨h,_,rfl⟩:=aG.mp a
   by_cases m:(q.1,h)∈prs t ks ns
   ·rw[if_pos m]
    refine⟨Jx (Lp ?_) (show (pick _ _ _).length<=12 by unfold pick;rw[ao];exact hw.len),Ad0 _⟩
    rw[fC]
    cases e:t.rows[fnd (q.1,h) (prs t ks ns)]? with
    | none=>exact λv H=>nomatch H
    | some r=>exact(ht.rows r (bz e)).2
   ·rw[if_neg m];exact⟨⟨rfl,rfl,rfl,by decide,by decide⟩,rfl⟩
  have I:=Good.tup (λd a=>(c d a).1) (show (b.map _).length<=144 by rw[ao];exact C)
  have J:=Ah2 λd a=>(c d a).2
  have K:=(Jx (o f).1 (o f).2.1).mono (show 1<=2 by decide) (show 1923*12+4<=3500000 by decide)
  refine⟨(Good.tup (n:=2) (w:=3500000) (k:=2) (λd a=>?_) (au _)).mono (by decide) (by decide),?_⟩
  ·simp only[aB,a_,bc]at a
   rcases a with rfl | rfl
   ·exact K
   ·exact I.mono (by decide) (by decide)
  ·show (noL (tD q.1)&&(Tw _&&true))=true
   rw[J,show noL (tD q.1)=true from Ad0 _];rfl
 have B:((fs ((prs t ks ns).map (·.1))).map λp=>PyData.tuple [tD p,Ng (prs t ks ns) (λq=>tD (cellOf t ks ns vs q)) .none b p]).length<=144:=by rw[ao];exact aq (Mg _) (by rw[ao];exact E)
 have u:∀d∈(fs ((prs t ks ns).map (·.1))).map (λp=>PyData.tuple [tD p,Ng (prs t ks ns) (λq=>tD (cellOf t ks ns vs q)) .none b p]),Good d 3 7100000/\noL d=true:=λd a=>by
  grind
 have N:=Good.tup (λd a=>(u d a).1) B
 have j:∀d∈[nD ks,nD ns,nD vs,.tuple (b.map tD),.tuple ((fs ((prs t ks ns).map (·.1))).map λp=>PyData.tuple [tD p,Ng (prs t ks ns) (λq=>tD (cellOf t ks ns vs q)) .none b p])],Good d 4 _/\Short 8 d:=λd a=>by
  simp at a
  rcases a with rfl | rfl | rfl | rfl | rfl
  ·exact s _ hk
  ·exact s _ hn
  ·exact s _ hw
  ·exact⟨y.mono (by decide) (by decide),Rx 8 _ (aq y.wgt (by decide)) (Ah2 λd a=>(A d a).2)⟩
  ·exact⟨N.mono (by decide) (by decide),⟨aq B (by decide),λd a=>Rx 7 d (aq (u d a).1.wgt (by decide)) (u d a).2⟩⟩
 exact⟨_,Good.tup (λd a=>(j d a).1) (au _),⟨by show 5<=16000000;decide,λd a=>(j d a).2⟩⟩
theorem Bh4 {w:Wd}(h:w.Ok):Good w.d 5 4000000:=by
 have l := λx a=>h.nms.sub x (aX _ (aX _ a))
 have m := λx a=>h.nms.sub x (aX _ (aN _ a))
 have n := λx a=>h.nms.sub x (aN _ a)
 have g:=(Ab6 l h.klen).mono (show 1<=4 by decide) (au _)
 have i:=(Ab6 m h.nlen).mono (show 1<=4 by decide) (au _)
 have j:=(Ab6 n h.vlen).mono (show 1<=4 by decide) (au _)
 have k:Good _ 4 100000:=(Good.tup (λd e=>by obtain⟨c,b,rfl⟩:=aG.mp e;exact Jx (h.heads c b).2 (by rw[(h.heads c b).1];exact h.nlen)) (by simpa using h.hlen)).mono (by decide) (by decide)
 have f:Good _ 4 3100000:=(Good.tup (λd e=>by obtain⟨c,b,rfl⟩:=aG.mp e;exact A5q (h.rows c b) h.klen h.hlen h.vlen) (by simpa using h.rlen)).mono (by decide) (by decide)
 exact(GL.cons g (GL.cons i (GL.cons j (GL.cons k (GL.cons f GL.nil))))).g.mono (by decide) (by decide)
def hD (b:Bool)(ks ns:v4):t6:=.tuple [sqD b (ks.map PyData.str),sqD b (ns.map PyData.str)]
theorem B1n {w:Wd}(h:w.Ok){b:Bool}{ks ns:v4}(hk:∀x∈ks,x∈nm15)(hn:∀x∈ns,x∈nm15)(i:ks.length<=20)(j:ns.length<=20):∃x,Y9 (.list [w.d,hD b ks ns])=sI (.str x):=by
 have e:∀{a:List _},(∀x∈a,x∈nm15)->a.length<=20->Good (sqD b (a.map _)) 4 100000:=λ{a} h f=>by
  cases b
  ·exact(Ae7 h f).mono (by decide) (by decide)
  ·exact(Good.tup (k:=20) (λd c=>by obtain⟨v,g,rfl⟩:=aG.mp c;exact Bx5 (h v g)) (by grind)).mono (by decide) (by decide)
 have g2:Good (hD b _ _) 5 4000000:=(GL.cons (e hk i) (GL.cons (e hn j) GL.nil)).g.mono (by decide) (by decide)
 exact⟨_,Au5 (Good.lst (k:=2) (λd c=>by
  simp at c
  rcases c with rfl | rfl
  ·exact Bh4 h
  grind) (au _)) (by decide) (by decide) rfl⟩
abbrev Av8:t6:=.tuple [.str "refused",.int 0,.none]
theorem Ba1:Bu 9 [.im Av8,.im Av8]=.ret (.im (.bool true)) [.im Av8,.im Av8] :=
 A4p (k:=1) (w:=9000) ⟨by decide +kernel,by rfl,by rfl,by trivial,by trivial⟩ (by decide) (by decide) (by decide) (by trivial)
theorem By1 {w:Wd}(h:w.Ok){p:List Str×v4}(hp:Pr p)(hm:Tj w p=false){c:Ev}(g:c[3]?=some (sI w.d))(d:c[13]?=some (sI (prD p))) :
 A4k Dy Hm ["BadColumns"] (Ab (Aa 3) (Ab (cOp Aj (Aa 13) (cC (.int 0))) (Ab (cOp Aj (Aa 13) (cC (.int 1))) Ai))) c=.ok (.o (.im Av8)) c:=by
 have e:=Az4 h (a:=false) (b:=false) (ks:=p.1) (ns:=p.2) (aq hp.l1 (by decide)) (aq hp.l2 (by decide)) (Bm6 h hm)
 obtain⟨o,i⟩:=B2v;have j:Aj (prD p) (.int 0)=sI (sqD false (p.1.map PyData.str)):=rfl;have f:Aj (prD p) (.int 1)=sI (sqD false _):=rfl
 wp_walk using g,d,j,f,e,i,cD
abbrev Mm (s0 s1:n8)(ds:w5)(w:Wd)(r:n7):Ev:=s0::s1::some (.ls false ds)::some (.im w.d)::some (.im (.tuple (w.tb.cols.map PyData.str)))::some (.im (.list (w.tb.rows.map tD)))::r
theorem A9h {w:Wd}(h:w.Ok){ks ns:v4}{b:Bool}(d:(ks++ns).Perm (w.key++w.names)){x:Str}(hx:Y9 (.list [w.d,hD b ks ns])=sI (.str x))(hs:Bu 9 [.im (fdD w.tb ks ns w.vals),.im (fdD w.tb ks ns w.vals)]=.ret (.im (.bool true)) [.im (fdD w.tb ks ns w.vals),.im (fdD w.tb ks ns w.vals)]){s0 s1 s6 s7 s8 s12 s13:n8}{ds:w5} :
 Jk (Mm s0 s1 ds w [s6,s7,s8,sI (fdD w.tb ks ns w.vals),sI (hD b ks ns),sI (.str x),s12,s13])=.nx (Mm s0 s1 ds w [s6,s7,s8,sI (fdD w.tb ks ns w.vals),sI (hD b ks ns),sI (.str x),s12,s13]):=by
 have e:=A6h h (a:=b) (b:=b) d;have f:Aj (hD b ks ns) (.int 0)=some _:=rfl;have g:Aj (hD b ks ns) (.int 1)=some _:=rfl
 have c:Cr true (.str x) (.str x)=sI (.bool false):=by rw[As3];simp
 unfold Mm Jk
 wp_walk using cFY,Nm,f,g,e,hs,hx,c
theorem Bz9 {B:Ev->SR}{d:t6}{s0 s1 s6 s7 s8 s9 s10 s11 s12 s13:n8}{ds:w5}{w:Wd}:Rw (cgN 12) B d (Mm s0 s1 ds w [s6,s7,s8,s9,s10,s11,s12,s13])=B (Mm s0 s1 ds w [s6,s7,s8,s9,s10,s11,sI d,s13]):=rfl
theorem B0q {w:Wd}(h:w.Ok){n:Nat}{ds:w5}(hb:Bx n ds)(hn:n<2 ^ 35){s0 s1 s6 s7 s8 s9 s10 s11 s12 s13:n8}:∃t y7 y8 y9 y10 y11 y12 y13,Bx (n+20) t /\
 Kr (Mm s0 s1 ds w [s6,s7,s8,s9,s10,s11,s12,s13])=.nx (Mm s0 s1 t w [s6,y7,y8,y9,y10,y11,y12,y13]):=by
 obtain⟨f,e,t,o,b1,Y⟩:=A4m hb (by lia) h
 have H:=A9a h;have kl:=h.klen;have nl:=h.nlen;have s:=o.length_eq;rw[aH,aH]at s
 have G:∀x∈f,x∈nm15:=λx k=>Aa1 (h.nms.sub x (aX _ (o.mem_iff.mp (aX _ k))))
 have A:∀x∈e,x∈nm15:=λx k=>Aa1 (h.nms.sub x (aX _ (o.mem_iff.mp (aN _ k))))
 have l:(f++e++w.vals).Perm w.tb.cols:=o.append_right w.vals;have C:=Bs5 H (a:=false) (b:=false) (c:=true) l (A8p h o);have S:Aj w.d (.int 2)=sI (sqD true (w.vals.map PyData.str)):=rfl
 obtain⟨r,q,b2,r0,r1,L⟩:=Cd (m:=2) b1 (by lia) (by decide) (by decide)
 obtain⟨b,M⟩:∃b,Aj (.list [.tuple [.list (f.map PyData.str),.list (e.map PyData.str)],.tuple [.tuple (f.map PyData.str),.tuple (e.map PyData.str)]]) (.int r)=sI (hD b f e):=by
  have:r=0\/r=1:=by lia
  rcases this with rfl | rfl
  ·exact⟨false,rfl⟩
  ·exact⟨true,rfl⟩
 obtain⟨x,k⟩:=B1n h (b:=b) G A (by lia) (by lia)
 have Q:Cs w.tb f:=⟨λx k=>l.mem_iff.mp (aX _ (aX _ k)),by lia⟩
 have z:Cs w.tb e:=⟨λx k=>l.mem_iff.mp (aX _ (aN _ k)),by lia⟩
 have T:Cs w.tb w.vals:=⟨λx k=>l.mem_iff.mp (aN _ k),by have:=h.vlen;lia⟩
 obtain⟨_,I,W⟩:=Bq6 H Q z T
 have X:=Ah9 9 _ (bD I.dep (by decide)) (by decide) I.lay W
 obtain⟨p,y,Z,E,U,J⟩:=A5w b2 (by lia) h o
 have e5:=Ba1
 obtain⟨u,e6,i,rfl⟩:=Fz (g:=cgN 12) (body:=Jk) (items:=Kw 0 2) (n:=0) (c:=Mm s0 s1 q w [s6,sI (.list (f.map PyData.str)),sI (.list (e.map PyData.str)),sI (fdD w.tb f e w.vals),sI (hD b f e),sI (.str x),s12,s13])
  (P:=λ_ c=>∃i,c=Mm s0 s1 q w [s6,sI (.list (f.map PyData.str)),sI (.list (e.map PyData.str)),sI (fdD w.tb f e w.vals),sI (hD b f e),sI (.str x),i,s13]) ⟨_,rfl⟩ (λj d c hd hP=>by
   obtain⟨i,rfl⟩:=hP
   exact⟨_,.inl ((Bz9 (B:=Jk)).trans (A9h h o k X)),_,rfl⟩)
 have e7:Lw (Im (cC (.int 2))) (cgN 12) Jk (Mm s0 s1 q w [s6,sI (.list (f.map PyData.str)),sI (.list (e.map PyData.str)),sI (fdD w.tb f e w.vals),sI (hD b f e),sI (.str x),s12,s13])=.nx (Mm s0 s1 q w [s6,sI (.list (f.map PyData.str)),sI (.list (e.map PyData.str)),sI (fdD w.tb f e w.vals),sI (hD b f e),sI (.str x),i,s13]) :=
  (Ox (ds:=Kw 0 2) (by wp_walk using bC)).trans e6
 have e8:A4k Dy Hm ["BadColumns"] (Ab (Aa 3) (Ab (cOp Aj (Aa 13) (cC (.int 0))) (Ab (cOp Aj (Aa 13) (cC (.int 1))) Ai))) (Mm s0 s1 y w [s6,sI (.list (f.map PyData.str)),sI (.list (e.map PyData.str)),sI (fdD w.tb f e w.vals),sI (hD b f e),sI (.str x),i,sI (prD p)])=.ok (.o (.im Av8)) _:=By1 h Z E rfl rfl
 refine⟨y,sI (.list (f.map PyData.str)),sI (.list (e.map PyData.str)),sI (fdD w.tb f e w.vals),sI (hD b f e),sI (.str x),i,sI (prD p),U.mono (by lia),?_⟩
 unfold Kr;have l1:Hl (.list (f.map PyData.str))=sF (f.map PyData.str):=rfl;have l2:Az (.list (f.map PyData.str))=sI (.tuple (f.map PyData.str)):=rfl;have l3:Hl (.list (e.map PyData.str))=sF (e.map PyData.str):=rfl;have l4:Az (.list (e.map PyData.str))=sI (.tuple (e.map PyData.str)):=rfl;have C:K3 [.im (.tuple (w.tb.cols.map PyData.str)),.im (.list (w.tb.rows.map tD)),.im (.list (f.map PyData.str)),.im (.list (e.map PyData.str)),.im (sqD true (w.vals.map PyData.str))]=.ret (.im (fdD w.tb f e w.vals)) [.im (.tuple (w.tb.cols.map PyData.str)),.im (.list (w.tb.rows.map tD)),.im (.list (f.map PyData.str)),.im (.list (e.map PyData.str)),.im (sqD true (w.vals.map PyData.str))]:=C
 generalize A4k Dy Hm ["BadColumns"] (Ab (Aa 3) (Ab (cOp Aj (Aa 13) (cC (.int 0))) (Ab (cOp Aj (Aa 13) (cC (.int 1))) Ai)))=TH at *
 generalize hFor:Lw (Im (cC (.int 2))) (cgN 12) Jk=FO at *
 unfold Mm at *
 generalize fdD w.tb f e w.vals=F at *
 generalize hD b f e=HD at *
 generalize prD p=PP at *
 generalize sqD true (w.vals.map PyData.str)=V at *
 generalize PyData.tuple (w.tb.cols.map PyData.str)=TC at *
 generalize PyData.list (w.tb.rows.map tD)=TR at *
 generalize f.map PyData.str=K at *
 generalize e.map PyData.str=N at *
 generalize w.d=D at *
 generalize v:Av8=R at *
 have v:PyData.tuple [.str "refused",.int 0,.none]=R:=v
 refine (Bo (c':=[s0,s1,sF t,sI D,sI TC,sI TR,s6,sI (.list K),sI (.list N),s9,s10,s11,s12,s13]) (by wp_walk using Y)).trans ?_
 refine (Bo (c':=[s0,s1,sF t,sI D,sI TC,sI TR,s6,sI (.list K),sI (.list N),sI F,s10,s11,s12,s13]) (by wp_walk using S,C)).trans ?_
 refine (Bo (c':=[s0,s1,sF q,sI D,sI TC,sI TR,s6,sI (.list K),sI (.list N),sI F,sI HD,s11,s12,s13]) (by wp_walk using l1,l2,l3,l4,L,M)).trans ?_
 refine (Bo (c':=[s0,s1,sF q,sI D,sI TC,sI TR,s6,sI (.list K),sI (.list N),sI F,sI HD,sI (.str x),s12,s13]) (by wp_walk using k)).trans ?_
 refine (Bo e7).trans ?_
 refine (Bo (c':=[s0,s1,sF y,sI D,sI TC,sI TR,s6,sI (.list K),sI (.list N),sI F,sI HD,sI (.str x),i,sI PP]) (by wp_walk using J)).trans ?_
 wp_walk using e8,v,e5
theorem B4d {B:Ev->SR}{d:t6}{s0 s1 s6 s7 s8 s9 s10 s11 s12 s13:n8}{ds:w5}{w:Wd}:Rw (cgN 6) B d (Mm s0 s1 ds w [s6,s7,s8,s9,s10,s11,s12,s13])=B (Mm s0 s1 ds w [sI d,s7,s8,s9,s10,s11,s12,s13]):=rfl
theorem step1 {B:Ev->SR}{d:t6}{a x:n8}{r:Ev}:Rw (cgN 1) B d (a::x::r)=B (a::some (.im d)::r):=rfl
theorem B2s {n:Nat}{ds:w5}(hb:Bx n ds)(hn:n<2 ^ 34){s0 s1 s3 s4 s5 s6 s7 s8 s9 s10 s11 s12 s13:n8}{G:Ev->SR}
 (I:G=Bg (Bq (cF Km (Ab (Aa 2) (Ab (cC (.bool false)) Ai))) (cgN 3)) (Bg (Bq (cF Jb (Ab (Aa 3) Ai)) (cgT 2 (Aw (cgN 4) (Aw (cgN 5) Cu)))) (Lw (Im (cC (.int 3))) (cgN 6) Kr))) :
 ∃y2 y3 y4 y5 y6 C x y p m q r,G [s0,s1,sF ds,s3,s4,s5,s6,s7,s8,s9,s10,s11,s12,s13]=.nx [s0,s1,y2,y3,y4,y5,y6,C,x,y,p,m,q,r]:=by
 obtain⟨w,s,z,_,H,K⟩:=Bh8 (num:=false) hb (by lia)
 have u:=Bk8 z;have u:Jb [.im w.d]=.ret (.im (.tuple [.tuple (w.tb.cols.map PyData.str),.list (w.tb.rows.map tD)])) [.im w.d]:=u
 obtain⟨v,e,i,t,l,o,k,f,a,b,h,rfl,_,_⟩:=Fz (g:=cgN 6) (body:=Kr) (items:=Kw 0 3) (n:=0) (c:=Mm s0 s1 s w [s6,s7,s8,s9,s10,s11,s12,s13])
  (P:=λj c=>∃i t l o k f a b h,c=Mm s0 s1 i w [t,l,o,k,f,a,b,h]/\j<=3/\Bx (n+4000+20*j) i) ⟨s,_,_,_,_,_,_,_,_,rfl,aM _,H.mono (by lia)⟩ (λj d c J A=>by
   rw[aO]at A ⊢;obtain⟨i,t,l,o,k,f,a,b,h,rfl,hj,M⟩:=A;obtain⟨rfl,L⟩:=Ou J
   obtain⟨F,C,x,y,p,m,q,r,N,Q⟩:=B0q z M (by lia) (s0:=s0) (s1:=s1) (s6:=sI (.int (0+(j:Int)))) (s7:=l) (s8:=o) (s9:=k) (s10:=f) (s11:=a) (s12:=b) (s13:=h)
   exact⟨_,.inl ((B4d (B:=Kr)).trans Q),F,_,_,_,_,_,_,_,_,rfl,by lia,N.mono (by lia)⟩)
 refine⟨some (.ls false i),sI w.d,sI (.tuple (w.tb.cols.map PyData.str)),sI (.list (w.tb.rows.map tD)),t,l,o,k,f,a,b,h,?_⟩
 rw[I]
 have E:=(Ox (fi:=Im (cC (.int 3))) (by rfl)).trans e
 unfold Mm at E
 generalize PyData.tuple (w.tb.cols.map _)=TC at *
 generalize PyData.list (w.tb.rows.map _)=TR at *
 generalize w.d=D at *
 refine (Bo (c':=[s0,s1,sF s,sI D,s4,s5,s6,s7,s8,s9,s10,s11,s12,s13]) (by wp_walk using K)).trans ?_
 refine (Bo (c':=[s0,s1,sF s,sI D,sI TC,sI TR,s6,s7,s8,s9,s10,s11,s12,s13]) (by wp_walk using u)).trans ?_
 lia
theorem Bf1 (ns:List Int)(hns:ns.length<=63):Ax5 [.sc ns]=.ret (.im (.bool true)) [.sc ns]:=by
 obtain⟨m,hm,N⟩:∃m:Nat,m<=4/\(1:Int)+(if (ns.length:Int)<3 then (ns.length:Int) else 3)=(m:Int):=by
  split
  ·exact⟨ns.length+1,by lia,by lia⟩
  ·exact⟨4,by lia,by lia⟩
 have t:=Fz (g:=cgN 1) (body:=Rq) (items:=Kw 0 m) (n:=0) (c:=[some (.sc ns),none,none,none,none,none,none,none,none,none,none,none,none,none])
  (P:=λ_ c=>∃u v r j l o q i s b a f h,c=[some (.sc ns),u,v,r,j,l,o,q,i,s,b,a,f,h]) ⟨_,_,_,_,_,_,_,_,_,_,_,_,_,rfl⟩ (λk d c K O=>by
   obtain⟨u,v,r,j,l,o,q,i,s,b,a,f,h,rfl⟩:=O;obtain⟨rfl,hk⟩:=Ou K
   obtain⟨db,E,F⟩:=B0g (ns:=ns) (k:=k) (by lia)
   obtain⟨G,H,I,J,C,D,L,M,x,w,y,z,Q⟩:=B2s E (by lia) (s0:=some (.sc ns)) (s1:=sI (.int (0+(k:Int)))) (s3:=r) (s4:=j) (s5:=l) (s6:=o) (s7:=q) (s8:=i) (s9:=s) (s10:=b) (s11:=a) (s12:=f) (s13:=h) rfl
   refine⟨[some (.sc ns),sI (.int (0+(k:Int))),G,H,I,J,C,D,L,M,x,w,y,z],.inl ?_,_,_,_,_,_,_,_,_,_,_,_,_,_,rfl⟩
   refine (step1 (B:=Rq)).trans ?_
   unfold Rq
   exact(Bo (c':=[some (.sc ns),some _,some _,r,j,l,o,q,i,s,b,a,f,h]) (by wp_walk using show (0:Int)+k=k by lia,F)).trans Q)
 obtain⟨A,e,u,v,r,j,l,o,q,i,s,b,a,f,h,rfl⟩:=t
 refine Jy (p:=.o (.im (.bool true))) (c:=[some (.sc ns),u,v,r,j,l,o,q,i,s,b,a,f,h]) ?_ rfl (by wp_walk using bC)
 refine (Bo ((Ox ?_).trans e)).trans ?_
 ·wp_walk using Au1,Av,N,show (m:Int)<=16000000/\-16000000<=(m:Int) by lia,eU
 ·wp_walk using bC
local macro_rules | `(tactic| walk_at "m")=>`(tactic| repeat' first | rfl | (with_reducible first | apply me_var | apply An | apply Ep | apply Gf | apply Bv | apply Bm | apply Ea | apply Hq | apply Fj | apply Ir | apply Oh | apply Mx | apply Ca | apply Jj) | apply B2m | apply Bn6 | apply Oa | apply Z4 | apply We | apply Yd | (with_reducible first | apply Iu | apply Hv | apply Mh | apply Li | apply Fy | apply Ri | apply Am8 | apply J6 | apply Nt | apply Tq | apply Aw2 | apply Br5 | apply Vp | apply B4b | apply Bi1 | apply Jd | apply At5 | apply Gg | apply Am0 | apply Bg9 | apply A0b | apply Ae8 | apply U6 | apply Bo3 | apply Bn4 | apply Ov | apply Qv | apply Av1 | apply Vf | apply Ak9 | apply A8x | apply Ag6 | apply Ky | apply Bd5 | apply Bq2 | apply B1l | apply Lr | apply Bi8 | apply T5 | apply V9 | apply Ad7 | apply Ac8 | apply Bf4 | apply A9r | apply A6w | apply Az9 | apply A9i | apply A2b | apply A8v | apply B4o | apply B0m | apply A0c | apply Zb | apply Ao8 | apply Ab2 | apply A4t | apply Vu | apply Ay3 | apply Ah1 | apply Bc3 | apply Aq0 | apply A8j | apply Bj1 | apply Ar1 | apply Bo1 | apply B0l | apply A0l | apply A8w | apply Bw0 | apply B5k | apply Be6 | apply A8y | apply Xm | apply A7o | apply Bn5 | apply Al1 | apply A8k | apply Bm7 | apply Bp5 | apply A3e | apply Bq5 | apply A2q | apply A7k | apply Be1 | apply Br6 | apply A0t | apply A0f | apply Bk7 | apply B2q | apply Bh2 | apply Bl3 | apply Bx4 | apply B1f | apply Ak7 | apply Bb7 | apply B2b | apply Xd | apply A8t | apply Bw3) | decide | assumption)
noncomputable def top (i:Nat):Stmt:=PySem.Challenge.pw_pivotfold_k37_columns_turned.main.body.getD i (.Pass ⟨0,0,0,0⟩)
abbrev Pg:Stmt:=top 16
abbrev lJ:Str:="_law_box_here"
abbrev lK:Str:="_law_wide_here"
abbrev lL:Str:="_law_many_here"
abbrev lM:Str:="_law_script"
abbrev lN:Str:="_law_names_here"
abbrev lQ:Str:="_law_found"
abbrev lR:Str:="_law_columns"
abbrev lS:Str:="_law_k"
abbrev lT:Str:="_law_part"
abbrev lU:Str:="_law_key"
abbrev lV:Str:="_law_same"
theorem yP:Ba ["table", "name", "columns"] ["table", "name"] (Ah Pg):={}
abbrev Nb:Stmt:=top 17
theorem Ab3:Ba ["table", "names"] ["table", "names"] (Ah Nb):={}
abbrev Mq:Stmt:=top 18
theorem Ae5:Ba ["row", "places"] ["row", "places"] (Ah Mq):={}
abbrev Fo:Stmt:=top 21
theorem yC:Ba ["columns", "key", "names", "values", "together"] ["columns", "key", "names", "values"] (Ah Fo):={}
abbrev Ke:Stmt:=top 22
theorem Xz:Ba ["order"] ["order"] (Ah Ke):={}
abbrev Hz:Stmt:=top 23
theorem zE:Ba ["table", "key", "names", "key_places", "name_places", "groups", "number", "row", "place"] ["table", "key", "names"] (Ah Hz):={}
abbrev Lb:Stmt:=top 24
theorem yF:Ba ["things", "seen", "thing"] ["things"] (Ah Lb):={}
abbrev Le:Stmt:=top 25
theorem Yu:Ba ["groups"] ["groups"] (Ah Le):={}
abbrev K7:Stmt:=top 26
theorem yO:Ba ["groups", "order", "heads"] ["groups", "order"] (Ah K7):={}
abbrev Pq:Stmt:=top 27
theorem Ao6:Ba ["part", "heads", "things", "gap"] ["part", "heads", "things", "gap"] (Ah Pq):={}
abbrev Qs:Stmt:=top 28
theorem Aj7:Ba ["parts", "heads", "things", "gap"] ["parts", "heads", "things", "gap"] (Ah Qs):={}
abbrev Ib:Stmt:=top 29
theorem Tv:Ba ["parts", "heads", "cells"] ["parts", "heads", "cells"] (Ah Ib):={}
abbrev Ik:Stmt:=top 30
theorem yH:Ba ["groups", "doubles", "first"] ["groups"] (Ah Ik):={}
abbrev Wv:Stmt:=top 31
theorem zN:Ba ["table", "key", "names", "values", "order", "groups", "value_places", "cells", "place", "numbers", "heads", "rows"] ["table", "key", "names", "values", "order"] (Ah Wv):={}
abbrev J7:Stmt:=top 32
theorem zT:Ba ["wide", "told", "part", "cells"] ["wide"] (Ah J7):={}
abbrev Qq:Stmt:=top 33
theorem yQ:Ba ["wide", "rows"] ["wide"] (Ah Qq):={}
abbrev Wy:Stmt:=top 35
theorem A2x:Ba ["wide", "key", "names"] ["wide", "key", "names"] (Ah Wy):={}
abbrev Mt:Stmt:=top 37
theorem Ab5:Ba [lM, lS] [lM, lS] (Ah Mt):={}
abbrev Ad8:Stmt:=top 38
theorem yW:Ba [lM, lS, "_law_number_here"] [lM, lS] (Ah Ad8):={}
abbrev X7:Stmt:=top 39
theorem yJ:Ba [lJ, lL, lQ, "_law_once", "_law_twice"] [lJ, lL] (Ah X7):={}
abbrev Wl:Stmt:=top 40
theorem A5p:Ba [lJ, "_law_least", "_law_few", "_law_most"] [lJ, "_law_least", "_law_few", "_law_most"] (Ah Wl):={}
abbrev Sx:Stmt:=top 41
theorem yS:Ba [lJ, lL, "_law_some"] [lJ, lL] (Ah Sx):={}
abbrev T8:Stmt:=top 42
theorem yU:Ba [lJ, "_law_way"] [lJ] (Ah T8):={}
abbrev Pa:Stmt:=top 43
theorem Ao2:Ba [lJ] [lJ] (Ah Pa):={}
abbrev Vq:Stmt:=top 44
theorem yK:Ba [lJ, lL, lQ, "_law_turn", "_law_value_here"] [lJ, lL] (Ah Vq):={}
abbrev Qg:Stmt:=top 45
theorem zV:Ba [lJ, lK, lL, "_law_pool_here", lQ, "_law_turn", "_law_one"] [lJ, lK, lL] (Ah Qg):={}
abbrev V4:Stmt:=top 46
theorem zF:Ba [lJ, "_law_numbers", lN, "_law_a", "_law_b", "_law_c", "_law_stem", "_law_over", "_law_values", "_law_heads", "_law_often", "_law_rows", lT, "_law_cells", "_law_head", "_law_one"] [lJ, "_law_numbers"] (Ah V4):={}
abbrev Ru:Stmt:=top 47
theorem A4u:Ba [lQ, "_law_due"] [lQ, "_law_due"] (Ah Ru):={}
abbrev W8:Stmt:=top 48
theorem yL:Ba [lK, "_law_rows", lT, "_law_cells"] [lK] (Ah W8):={}
abbrev Wn:Stmt:=top 49
theorem zH:Ba [lR, "_law_rows", lU, lN, "_law_values", "_law_at", "_law_parts", "_law_heads", "_law_there", "_law_row", lT, "_law_head", "_law_told_here"] [lR, "_law_rows", lU, lN, "_law_values"] (Ah Wn):={}
abbrev V0:Stmt:=top 50
theorem yD:Ba ["_law_call", lQ, "_law_caught", "error", "_law_marks", "_law_others"] ["_law_call"] (Ah V0):={}
abbrev Ih:Stmt:=top 51
theorem zO:Ba [lJ, lK, "_law_left", "_law_order", "_law_cut"] [lJ, lK] (Ah Ih):={}
abbrev Qn:Stmt:=top 52
theorem zR:Ba [lJ, lK, lU, lN, "_law_other", "_law_some"] [lJ, lK, lU, lN] (Ah Qn):={}
abbrev Ba7:Stmt:=top 53
theorem zL:Ba [lM, lS, lJ, lK, lR, "_law_rows", "_law_turn", lU, lN, "_law_due", "_law_handed", "_law_before", "_law_again", "_law_bad"] [lM] (Ah Ba7):={}
section
variable {P:u6}{w:World}{K:v9}{mg:x_}{base:Heap}
theorem Aq2 (F:Fun K "place_of" "place_of" Pg f fd):FnOk P w K mg base CX0 3 f fd ["table", "name"] (spP K Gq):=by
 exact F.okQ yP (λ_ hu _=>Af (Bc (i:=2) yP.nd (Ay (Kq:=K) rfl (qv 0) Ae Aq))
  (Af (Em (K9 hu (qv 1) (qv 2) (by with_unfolding_all rfl)) (Ak Qy) By)
  (Ak (Bk (Ub (Kq:=K) rfl PySem.F.plainAttrs_tuple PySem.F.slot_tuple_index PySem.F.type_tuple_index (Ws rfl) (qv 2) (Ad (qv 1) Ac)))))) (by unfold Nv;walk_at "m")
theorem Ai2 (F:Fun K "places_of" "places_of" Nb f fd) (l6:Def P w K mg base "place_of" 3 ["table", "name"] (spP K Gq)):FnOk P w K mg base CX0 4 f fd ["table", "names"] (spP K Dg):=by
 exact F.okQ Ab3 (λhr _ _=>Ak (Bk (by exact(G5 (N':=["name", "table"]) (idx:=[none,some 0]) Dc rfl (Do (Kq:=K) rfl (qv 1)) (λ_ _ _ _ _=>by exact(Ao (i:=0) (by show (["name", "table"]:v4).Nodup;decide +kernel))) qtN (λ_ _ _ _ _=>by exact(Bj l6 hr (Ad (qv 1) (Ad (qv 0) Ac)))))))) (by unfold Lf;walk_at "m")
theorem Ae9 (F:Fun K "values_at" "values_at" Mq f fd) (z7:mg "tuple" = none):FnOk P w K mg base CX0 1 f fd ["row", "places"] (spP K Cj):=by
 exact F.okQ Ae5 (λ_ _ _=>Ak (Bk (Am (Kq:=K) rfl rfl z7 (Ad (by exact(G5 (N':=["place", "row"]) (idx:=[none,some 0]) Dc rfl (Do (Kq:=K) rfl (qv 1)) (λ_ _ _ _ _=>by exact(Ao (i:=0) (by show (["place", "row"]:v4).Nodup;decide +kernel))) qtN (λ_ _ _ _ _=>by exact(Ay (Kq:=K) rfl (qv 1) (qv 0) Pb)))) Ac)))) (by unfold K8;walk_at "m")
theorem Mu (F:Fun K "check_all_columns" "check_all_columns" Fo f fd) (yG:mg "all" = none) (z9:mg "len" = none) (zG:mg "list" = none) (x9:ClR K mg "BadColumns"):FnOk P w K mg base (CXe P w) 1 f fd ["columns", "key", "names", "values"] (spX K Cw):=by
 obtain⟨aE6,aA5,aA6,aA7⟩:=x9
 refine F.okX yC (λvs H Q E h=>Ac4 h) (λcdv A outer s H vs Q E hr h=>?_)
 have hu:=hr.units;have hgd:=hr.gd
 refine A3g (Af (Bc (i:=4) yC.nd (Bf (Bf (Dp (Kq:=K) rfl rfl zG (Ad (qv 1) Ac)) (Dp (Kq:=K) rfl rfl zG (Ad (qv 2) Ac))) (Dp (Kq:=K) rfl rfl zG (Ad (qv 3) Ac))))
  (Af (Em (QW.qt (Zq (Zc hu (Et (Kq:=K) rfl rfl z9 (Ad (qv 4) Ac)) (Et (Kq:=K) rfl rfl z9 (Ad (qv 0) Ac))) (V6 (Aa8 (Je (Qx (Kq:=K) rfl rfl rfl yG (Ad (by exact(G5 (N':=["name", "together"]) (idx:=[none,some 4]) Dc rfl (Do (Kq:=K) rfl (qv 0)) (λ_ _ _ _ _=>by exact(Ao (i:=0) (by show (["name", "together"]:v4).Nodup;decide +kernel))) qtN (λ_ _ _ _ _=>by exact(Ze hu (Ub (Kq:=K) rfl eQ PySem.F.slot_list_count PySem.F.type_list_count (A4z rfl) (qv 1) (Ad (qv 0) Ac)) Ae)))) Ac))))))) (Ak (Ao1 Zf rfl rfl aA5 aA7 (Ad J5 Ac))) By)
  (Ak (Em (Us hu (Et (Kq:=K) rfl rfl z9 (Ad (qv 3) Ac)) Ae) (Ak (Ao1 Zf rfl rfl aA5 aA7 (Ad J5 Ac))) By)))) ?_
 exact Ag9 (Av1 (U6 (Fj (Ep (Ep (Ca me_var Ky) (Ca me_var Ky) Oh) (Ca me_var Ky) Oh) Bm))
  (Av1 (A8w (Ak9 (Iu (Ep (Tq me_var) (Tq me_var) Ag6)) (V9 (Am0 (Ca (Ri (by decide) (J6 me_var) Bm Nt (Ep (Az9 me_var me_var Ay3 Yd) (Gf rfl) Aw2)) A0l)))) (Xm aA6 (An (Gf rfl) Bv) (λ_ _ _ e=>by cases e;decide)) (U6 Li))
  (A8w (Iu (Ep (Tq me_var) (Gf rfl) Aw2)) (Xm aA6 (An (Gf rfl) Bv) (λ_ _ _ e=>by cases e;decide)) (U6 Li)))) h
theorem Wc (F:Fun K "check_order" "check_order" Ke f fd) (yR:∃p,mg "ORDERS" = some (.ref p)/\∀H,SqT K H p ([Str.ofString "seen",Str.ofString "rising"].map V.str)):FnOk P w K mg base CX0 1 f fd ["order"] (spP K Gv):=by
 obtain⟨p_ORDERS,aD5,sq_ORDERS⟩:=yR
 exact F.okQ Xz (λ_ _ _=>Ak (Em (A4n (Kq:=K) rfl (qv 0) (Bm0 (v:=.ref p_ORDERS) rfl aD5 rfl) (by with_unfolding_all rfl)) (Ak Qy) By)) (by unfold M5;walk_at "m")
abbrev yT1 (P w K mg base):=Def P w K mg base "places_of" 4 ["table", "names"] (spP K Dg)
abbrev yT2 (P w K mg base):=Def P w K mg base "values_at" 1 ["row", "places"] (spP K Cj)
theorem S8 (F:Fun K "rows_by_place" "rows_by_place" Hz f fd) (a8:yT1 P w K mg base) (a9:yT2 P w K mg base) (yM:mg "enumerate" = none):FnOk P w K mg base CX0 5 f fd ["table", "key", "names"] (spP K Ec):=by
 exact F.okQ zE (λhr hu _=>Af (Bc (i:=3) zE.nd (Bj a8 hr (Ad (qv 0) (Ad (qv 1) Ac))))
  (Af (Bc (i:=4) zE.nd (Bj a8 hr (Ad (qv 0) (Ad (qv 2) Ac))))
  (Af (Bc (i:=5) zE.nd Sd) (Af2 (d:=5) (Hc cJ rfl (Bi3 rfl yM (Ad (Ay (Kq:=K) rfl (qv 0) Ae Aq) Ac)) (Gu (Kq:=K) rfl (n:=2) rfl (Bd (Ao (i:=6) zE.nd) (Bd (Ao (i:=7) zE.nd) Ej))) (Af (Bc (i:=8) zE.nd (Bs (Ad (Bj a9 hr (Ad (qv 7) (Ad (qv 3) Ac))) (Ad (Bj a9 hr (Ad (qv 7) (Ad (qv 4) Ac))) Ac))))
  (Ak (Gd (Hk (Kq:=K) rfl (Bl8 hu (qv 5) (qv 8) (Ce Ac) ⟨rfl,rfl,rfl,rfl⟩) (qv 6))))))
  (Ak (Bk (qv 5))))))) (by unfold G6;unfold Eh;walk_at "m")
theorem Yq (F:Fun K "first_seen" "first_seen" Lb f fd) (z7:mg "tuple" = none):FnOk P w K mg base CX0 1 f fd ["things"] (spP K Dt):=by
 exact F.okQ yF (λ_ hu _=>Af (Bc (i:=1) yF.nd Sd) (Af2 (d:=1) (Hc cJ rfl (Do (Kq:=K) rfl (qv 0)) (Ao (i:=2) yF.nd) (Ak (Ag4 hu (qv 1) (qv 2) Xg)))
  (Ak (Bk (Bk2 rfl rfl z7 (qv 1)))))) (by unfold J9;unfold Ge;walk_at "m")
abbrev yT3 (P w K mg base):=Def P w K mg base "first_seen" 1 ["things"] (spP K Dt)
theorem Y4 (F:Fun K "parts_seen" "parts_seen" Le f fd) (c9:yT3 P w K mg base):FnOk P w K mg base CX0 2 f fd ["groups"] (spP K Fp):=by
 exact F.okQ Yu (λhr _ _=>Ak (Bk (Bj c9 hr (Ad (by exact(G5 (N':=["part", "head"]) (idx:=[none,none]) Dc rfl (Ar8 (qv 0)) (λ_ _ _ _ _=>by exact(Gu (Kq:=K) rfl (n:=2) rfl (Bd (Ao (i:=0) (by show (["part", "head"]:v4).Nodup;decide +kernel)) (Bd (Ao (i:=1) (by show (["part", "head"]:v4).Nodup;decide +kernel)) Ej)))) qtN (λ_ _ _ _ _=>by exact(qv 0)))) Ac)))) (by unfold Ka;walk_at "m")
theorem Yy (F:Fun K "heads_seen" "heads_seen" K7 f fd) (c9:yT3 P w K mg base):FnOk P w K mg base CX0 5 f fd ["groups", "order"] (spP K Fv):=by
 exact F.okQ yO (λhr hu _=>Af (Bc (i:=2) yO.nd (Bj c9 hr (Ad (by exact(G5 (N':=["part", "head"]) (idx:=[none,none]) Dc rfl (Ar8 (qv 0)) (λ_ _ _ _ _=>by exact(Gu (Kq:=K) rfl (n:=2) rfl (Bd (Ao (i:=0) (by show (["part", "head"]:v4).Nodup;decide +kernel)) (Bd (Ao (i:=1) (by show (["part", "head"]:v4).Nodup;decide +kernel)) Ej)))) qtN (λ_ _ _ _ _=>by exact(qv 1)))) Ac)))
  (Ak (Bk (Rb (Us hu (qv 1) J5) As5 (qv 2))))) (by unfold Kf;walk_at "m")
theorem An9 (F:Fun K "laid_row" "laid_row" Pq f fd) (z7:mg "tuple" = none):FnOk P w K mg base CX0 1 f fd ["part", "heads", "things", "gap"] (spP K Gn):=by
 exact F.okQ Ao6 (λ_ hu _=>Ak (Bk (Am (Kq:=K) rfl rfl z7 (Ad (by exact(G5 (N':=["head", "gap", "things", "part"]) (idx:=[none,some 3,some 2,some 0]) Dc rfl (Do (Kq:=K) rfl (qv 1)) (λ_ _ _ _ _=>by exact(Ao (i:=0) (by show (["head", "gap", "things", "part"]:v4).Nodup;decide +kernel))) qtN (λ_ _ _ _ _=>by exact(Bc9 hu (qv 2) (Bs (Ad (qv 3) (Ad (qv 0) Ac))) (qv 1) ⟨rfl,rfl,rfl,rfl⟩)))) Ac)))) (by unfold Nu;walk_at "m")
theorem An5 (F:Fun K "laid_out" "laid_out" Qs f fd) (k7:Def P w K mg base "laid_row" 1 ["part", "heads", "things", "gap"] (spP K Gn)) (z7:mg "tuple" = none):FnOk P w K mg base CX0 2 f fd ["parts", "heads", "things", "gap"] (spP K Hs):=by
 exact F.okQ Aj7 (λhr _ _=>Ak (Bk (Am (Kq:=K) rfl rfl z7 (Ad (by exact(G5 (N':=["part", "heads", "things", "gap"]) (idx:=[none,some 1,some 2,some 3]) Dc rfl (Do (Kq:=K) rfl (qv 0)) (λ_ _ _ _ _=>by exact(Ao (i:=0) (by show (["part", "heads", "things", "gap"]:v4).Nodup;decide +kernel))) qtN (λ_ _ _ _ _=>by exact(Bj k7 hr (Ad (qv 0) (Ad (qv 1) (Ad (qv 2) (Ad (qv 3) Ac)))))))) Ac)))) (by unfold Mr;walk_at "m")
theorem Ss (F:Fun K "rows_laid_out" "rows_laid_out" Ib f fd) (m8:Def P w K mg base "laid_out" 2 ["parts", "heads", "things", "gap"] (spP K Hs)) (z7:mg "tuple" = none) (zP:mg "zip" = none):FnOk P w K mg base CX0 3 f fd ["parts", "heads", "cells"] (spP K Dw):=by
 exact F.okQ Tv (λhr _ _=>Ak (Bk (Br3 rfl rfl z7 rfl zP (Ad (qv 0) (Ad (Bj m8 hr (Ad (qv 0) (Ad (qv 1) (Ad (qv 2) (Ad Ie Ac))))) Ac))))) (by unfold Hb;walk_at "m")
theorem Sh (F:Fun K "check_doubles" "check_doubles" Ik f fd) (z9:mg "len" = none):FnOk P w K mg base CX0 3 f fd ["groups"] (spP K Eb):=by
 exact F.okQ yH (λ_ _ _=>Af (by exact(K4 (i:=1) yH.nd rfl (Or.inl rfl) (N':=["numbers"]) (idx:=[none]) Dc rfl (A9y (qv 0)) (λ_ _ _ _ _=>by exact(Ao (i:=0) (by show (["numbers"]:v4).Nodup;decide +kernel))) (λ_ _ _ _ _=>by exact(Q9 (Mp (Et (Kq:=K) rfl rfl z9 (Ad (qv 0) Ac)) Ae))) (λ_ _ _ _ _=>by exact(Bs (Ad (Ay (Kq:=K) rfl (qv 0) Ae Aq) (Ad (Ay (Kq:=K) rfl (qv 0) Ae Aq) Ac))))))
  (Ak (Em (Mp (Et (Kq:=K) rfl rfl z9 (Ad (qv 1) Ac)) Ae) (Af Qy
  (Ak Qy)) By))) (by unfold G8;walk_at "m")
theorem A3q (F:Fun K "folded" "folded" Wv f fd) (a8:yT1 P w K mg base) (a9:yT2 P w K mg base) (u8:DefX P w K mg base "check_all_columns" 1 ["columns", "key", "names", "values"] (spX K Cw)) (aA0:Def P w K mg base "check_order" 1 ["order"] (spP K Gv)) (n5:Def P w K mg base "rows_by_place" 5 ["table", "key", "names"] (spP K Ec)) (n9:Def P w K mg base "parts_seen" 2 ["groups"] (spP K Fp)) (aA4:Def P w K mg base "heads_seen" 5 ["groups", "order"] (spP K Fv)) (z4:Def P w K mg base "rows_laid_out" 3 ["parts", "heads", "cells"] (spP K Dw)) (l5:Def P w K mg base "check_doubles" 3 ["groups"] (spP K Eb)) (z7:mg "tuple" = none):FnOk P w K mg base (CXe P w) 6 f fd ["table", "key", "names", "values", "order"] (spX K Hj):=by
 obtain⟨aF5,aE9,aB0,aD7,aD3,aC0⟩:=u8
 refine F.okX zN (λvs H Q E h=>Ac4 h) (λcdv A outer s H vs Q E hr h=>?_)
 have hu:=hr.units;have hgd:=hr.gd
 refine A3g (Af (Gd (Nj aB0 (hr.mono (by lia)) rfl aC0 aD3 aD7 .nil Zg (Ad (Ay (Kq:=K) rfl (qv 0) Ae Aq) (Ad (qv 1) (Ad (qv 2) (Ad (qv 3) Ac))))))
  (Af (Gd (Bj aA0 hr (Ad (qv 4) Ac)))
  (Af (Bc (i:=5) zN.nd (Bj n5 hr (Ad (qv 0) (Ad (qv 1) (Ad (qv 2) Ac)))))
  (Af (Gd (Bj l5 hr (Ad (qv 5) Ac)))
  (Af (Bc (i:=6) zN.nd (Bj a8 hr (Ad (qv 0) (Ad (qv 3) Ac))))
  (Af (Bc (i:=7) zN.nd Sd) (Af2 (d:=7) (Hc PassesOwn.leaving rfl (A4j (qv 5)) (Gu (Kq:=K) rfl (n:=2) rfl (Bd (Ao (i:=8) zN.nd) (Bd (Ao (i:=9) zN.nd) Ej))) (Ak (Ag4 hu (qv 7) (qv 8) (Bj a9 hr (Ad (Ay (Kq:=K) rfl (Ay (Kq:=K) rfl (qv 0) Ae Aq) (Ay (Kq:=K) rfl (qv 9) Ae Aq) A4b) (Ad (qv 6) Ac))))))
  (Af (Bc (i:=10) zN.nd (Bj aA4 hr (Ad (qv 5) (Ad (qv 4) Ac))))
  (Af (Bc (i:=11) zN.nd (Bj z4 hr (Ad (Bj n9 hr (Ad (qv 5) Ac)) (Ad (qv 10) (Ad (qv 7) Ac)))))
  (Ak (Bk (Bs (Ad (Am (Kq:=K) rfl rfl z7 (Ad (qv 1) Ac)) (Ad (Am (Kq:=K) rfl rfl z7 (Ad (qv 2) Ac)) (Ad (Am (Kq:=K) rfl rfl z7 (Ad (qv 3) Ac)) (Ad (qv 10) (Ad (qv 11) Ac))))))))))))))))) ?_
 exact Ag9 (by unfold O2;unfold Js;walk_at "m") h
theorem Ww (F:Fun K "cells_along" "cells_along" J7 f fd) (zP:mg "zip" = none):FnOk P w K mg base CX0 1 f fd ["wide"] (spP K Es):=by
 exact F.okQ zT (λ_ _ _=>Af (Bc (i:=1) zT.nd (Ce Ac))
  (Af (Hc cJ rfl (Do (Kq:=K) rfl (Ay (Kq:=K) rfl (qv 0) Ae Aq)) (Gu (Kq:=K) rfl (n:=2) rfl (Bd (Ao (i:=2) zT.nd) (Bd (Ao (i:=3) zT.nd) Ej))) (Ak (Gd (Ub (Kq:=K) rfl eQ PySem.F.slot_list_extend PySem.F.type_list_extend Z1 (qv 1) (Ad (by exact(G5 (N':=["head", "each", "part"]) (idx:=[none,none,some 2]) Dc rfl (Ay5 rfl zP (Ad (Ay (Kq:=K) rfl (qv 0) Ae Aq) (Ad (qv 3) Ac))) (λ_ _ _ _ _=>by exact(Gu (Kq:=K) rfl (n:=2) rfl (Bd (Ao (i:=0) (by show (["head", "each", "part"]:v4).Nodup;decide +kernel)) (Bd (Ao (i:=1) (by show (["head", "each", "part"]:v4).Nodup;decide +kernel)) Ej)))) qtN (λ_ _ _ _ _=>by exact(Bs (Ad (qv 2) (Ad (qv 0) (Ad (qv 1) Ac))))))) Ac)))))
  (Ak (Bk (qv 1))))) (by unfold Mv;walk_at "m")
theorem An4 (F:Fun K "unfolded" "unfolded" Qq f fd) (i8:Def P w K mg base "cells_along" 1 ["wide"] (spP K Es)) (z7:mg "tuple" = none):FnOk P w K mg base CX0 2 f fd ["wide"] (spP K Gh):=by
 exact F.okQ yQ (λhr _ _=>Af (by exact(K4 (i:=1) yQ.nd rfl (Or.inl rfl) (N':=["part", "head", "each"]) (idx:=[none,none,none]) Dc rfl (Do (Kq:=K) rfl (Bj i8 hr (Ad (qv 0) Ac))) (λ_ _ _ _ _=>by exact(Gu (Kq:=K) rfl (n:=3) rfl (Bd (Ao (i:=0) (by show (["part", "head", "each"]:v4).Nodup;decide +kernel)) (Bd (Ao (i:=1) (by show (["part", "head", "each"]:v4).Nodup;decide +kernel)) (Bd (Ao (i:=2) (by show (["part", "head", "each"]:v4).Nodup;decide +kernel)) Ej))))) (λ_ _ _ _ _=>by exact(Q9 (Wi (qv 2) Ie))) (λ_ _ _ _ _=>by exact(Bf (Bf (qv 0) (qv 1)) (qv 2)))))
  (Ak (Bk (Bs (Ad (Bf (Bf (Ay (Kq:=K) rfl (qv 0) Ae Aq) (Ay (Kq:=K) rfl (qv 0) Ae Aq)) (Ay (Kq:=K) rfl (qv 0) Ae Aq)) (Ad (Am (Kq:=K) rfl rfl z7 (Ad (qv 1) Ac)) Ac)))))) (by unfold Nz;walk_at "m")
theorem A5r (F:Fun K "turned" "turned" Wy f fd) (i7:DefX P w K mg base "folded" 6 ["table", "key", "names", "values", "order"] (spX K Hj)) (m9:Def P w K mg base "unfolded" 2 ["wide"] (spP K Gh)):FnOk P w K mg base (CXe P w) 7 f fd ["wide", "key", "names"] (spX K Dy):=by
 obtain⟨aF3,aF0,aD0,aA9,aD1,aB4⟩:=i7
 refine F.okX A2x (λvs H Q E h=>Ac4 h) (λcdv A outer s H vs Q E hr h=>?_)
 have hu:=hr.units;have hgd:=hr.gd
 refine A3g (Ak (Bk (Nj aD0 (hr.mono (by lia)) rfl aB4 aD1 aA9 .nil Zg (Ad (Bj m9 hr (Ad (qv 0) Ac)) (Ad (qv 1) (Ad (qv 2) (Ad (Ay (Kq:=K) rfl (qv 0) Ae Aq) (Ad J5 Ac)))))))) ?_
 exact Ag9 (by unfold Ot;walk_at "m") h
theorem Af3 (F:Fun K "_law_cell_at" "_law_cell_at" Mt f fd) (z9:mg "len" = none):FnOk P w K mg base CX0 1 f fd [lM, lS] (spP K Fb):=by
 exact F.okQ Ab5 (λ_ _ _=>Af (Em (Ap9 (qv 1) (Et (Kq:=K) rfl rfl z9 (Ad (qv 0) Ac))) (Ak (Bk (Bs8 (show IxR _ (rIx K) from Bw6) (qv 0) (qv 1) Pb))) By)
  (Ak (Bk Ae))) (by unfold Iw;walk_at "m")
theorem Bc1 (F:Fun K "_law_box" "_law_box" Ad8 f fd) (l8:Def P w K mg base "_law_cell_at" 1 [lM, lS] (spP K Fb)) (yV:mg "abs" = none) (zU:mg "int" = none):FnOk P w K mg base CX0 2 f fd [lM, lS] (spP K Mz):=by
 exact F.okQ yW (λhr _ _=>Af (Bc (i:=2) yW.nd (Bj l8 hr (Ad (qv 0) (Ad (qv 1) Ac))))
  (Ak (Bk (Ce (Ad (Jc (Uc (Kq:=K) rfl rfl yV (Ad (qv 2) Ac)) (Lz (Kq:=K) rfl rfl zU (Ad (Bd0 (Uc (Kq:=K) rfl rfl yV (Ad (qv 2) Ac)) (Iz Ae Ae)) Ac))) (Ad (Bf (Bf (G9 (qv 2) Ae) (Jc Ae (qv 1))) Ae) (Ad Ae Ac))))))) (by unfold Wr;walk_at "m")
theorem A5s (F:Fun K "_law_take" "_law_take" X7 f fd):FnOk P w K mg base CX0 1 f fd [lJ, lL] (spP K Al):=by
 exact F.okQ yJ (λ_ _ _=>Af (Em (Mp (Ay (Kq:=K) rfl (qv 0) Ae Aq) Ae) (Af (Bc (i:=2) yJ.nd (G9 (Ay (Kq:=K) rfl (qv 0) Ae Aq) (qv 1)))
  (Af (Qh (Xk (Ay (Kq:=K) rfl (qv 0) Ae Aq) (qv 1)) (A8u (qv 0) Ae set_list))
  (Ak (Bk (qv 2))))) By)
  (Af (Qh (Bf (Ay (Kq:=K) rfl (qv 0) Ae Aq) Ae) (A8u (qv 0) Ae set_list))
  (Af (Bc (i:=3) yJ.nd (G9 (Jc (Bf (Ay (Kq:=K) rfl (qv 0) Ae Aq) (Jc Ae (Ay (Kq:=K) rfl (qv 0) Ae Aq))) (Bf Ae (Ay (Kq:=K) rfl (qv 0) Ae Aq))) Ae))
  (Af (Bc (i:=4) yJ.nd (G9 (Jc (Bf (qv 3) (Ay (Kq:=K) rfl (qv 0) Ae Aq)) (Bf (G9 (qv 3) Ae) Ae)) Ae))
  (Ak (Bk (G9 (Xk (G9 (Bf (Jc (qv 4) Ae) (qv 3)) Ae) Ae) (qv 1)))))))) (by unfold Oc;walk_at "m")
abbrev yT0 (P w K mg base):=Def P w K mg base "_law_take" 1 [lJ, lL] (spP K Al)
theorem A3n (F:Fun K "_law_many" "_law_many" Wl f fd) (a7:yT0 P w K mg base):FnOk P w K mg base CX0 2 f fd [lJ, "_law_least", "_law_few", "_law_most"] (spP K Hd):=by
 exact F.okQ A5p (λhr hu _=>Af (Em (Us hu (Bj a7 hr (Ad (qv 0) (Ad Ae Ac))) Ae) (Ak (Bk (Bf Ae (Bj a7 hr (Ad (qv 0) (Ad (Gp (qv 3) Ae) Ac)))))) By)
  (Ak (Bk (Bf (qv 1) (Bj a7 hr (Ad (qv 0) (Ad (Bf (Gp (qv 2) (qv 1)) Ae) Ac))))))) (by unfold Ob;walk_at "m")
theorem Au6 (F:Fun K "_law_names" "_law_names" Sx f fd) (a7:yT0 P w K mg base) (z9:mg "len" = none) (zJ:mg "range" = none):FnOk P w K mg base CX0 2 f fd [lJ, lL] (spP K G7):=by
 exact F.okQ yS (λhr _ _=>Af (Bc (i:=2) yS.nd (Ce (Aa5 (vs:=[.str "b",.str "a",.str "year",.str "z",.str "ab",.str "month",.str "aa",.str "quantity",.str "c",.str "town",.str "zz",.str "ba"]) rfl)))
  (Ak (Bk (by exact(G5 (N':=["_law_turn", "_law_some", lJ]) (idx:=[none,some 2,some 0]) Dc rfl (Hh rfl zJ (Ad (qv 1) Ac)) (λ_ _ _ _ _=>by exact(Ao (i:=0) (by show (["_law_turn", "_law_some", lJ]:v4).Nodup;decide +kernel))) qtN (λ_ _ _ _ _=>by exact(Ub (Kq:=K) rfl eQ PySem.F.slot_list_pop PySem.F.type_list_pop Ai7 (qv 1) (Ad (Bj a7 hr (Ad (qv 2) (Ad (Et (Kq:=K) rfl rfl z9 (Ad (qv 1) Ac)) Ac))) Ac)))))))) (by unfold Qa;walk_at "m")
theorem Aw6 (F:Fun K "_law_value" "_law_value" T8 f fd) (a7:yT0 P w K mg base):FnOk P w K mg base CX0 2 f fd [lJ] (spP K Br):=by
 exact F.okQ yU (λhr hu _=>Af (Bc (i:=1) yU.nd (Bj a7 hr (Ad (qv 0) (Ad Ae Ac))))
  (Af (Em (Ap9 (qv 1) Ae) (Ak (Bk (Gp (Bj a7 hr (Ad (qv 0) (Ad Ae Ac))) Ae))) By)
  (Af (Em (Us hu (qv 1) Ae) (Ak (Bk (Ay (Kq:=K) rfl (Ce (Ad (Gp (Iz Ae Ae) Ae) (Ad (Gp Ae (Iz Ae Ae)) (Ad Ae (Ad Ae Ac))))) (Bj a7 hr (Ad (qv 0) (Ad Ae Ac))) Er))) By)
  (Af (Em (Us hu (qv 1) Ae) (Ak (Bk Ie)) By)
  (Ak (Bk (Ay (Kq:=K) rfl (Ce (Aa5 (vs:=[.str "",.str "a",.str "b",.str "B",.str "10",.str "9",.str "-",.str "a b",.str "it's",.str "\\",.str "/",.str "_",.str ":",.str "None",.str "ab"]) rfl)) (Bj a7 hr (Ad (qv 0) (Ad Ae Ac))) Er))))))) (by unfold Hi;walk_at "m")
theorem Ak8 (F:Fun K "_law_number" "_law_number" Pa f fd) (a7:yT0 P w K mg base):FnOk P w K mg base CX0 2 f fd [lJ] (spP K Cm):=by
 exact F.okQ Ao2 (λhr hu _=>Af (Em (Us hu (Bj a7 hr (Ad (qv 0) (Ad Ae Ac))) Ae) (Ak (Bk (Ay (Kq:=K) rfl (Ce (Ad (Gp (Iz Ae Ae) Ae) (Ad (Gp Ae (Iz Ae Ae)) (Ad (Iz Ae Ae) (Ad Ae Ac))))) (Bj a7 hr (Ad (qv 0) (Ad Ae Ac))) Er))) By)
  (Ak (Bk (Gp (Bj a7 hr (Ad (qv 0) (Ad Ae Ac))) Ae)))) (by unfold Jw;walk_at "m")
abbrev yT4 (P w K mg base):=Def P w K mg base "_law_value" 2 [lJ] (spP K Br)
theorem A3d (F:Fun K "_law_pool" "_law_pool" Vq f fd) (c8:yT4 P w K mg base) (zJ:mg "range" = none):FnOk P w K mg base CX0 3 f fd [lJ, lL] (spP K Ja):=by
 exact F.okQ yK (λhr hu _=>Af (Bc (i:=2) yK.nd (Ce Ac))
  (Af (Hc cJ rfl (Hh rfl zJ (Ad (qv 1) Ac)) (Ao (i:=3) yK.nd) (Af (Bc (i:=4) yK.nd (Bj c8 hr (Ad (qv 0) Ac)))
  (Ak (Em (K9 hu (qv 4) (qv 2) (by with_unfolding_all rfl)) (Ak (Gd (Hk (Kq:=K) rfl (qv 2) (qv 4)))) By))))
  (Ak (Bk (qv 2))))) (by unfold Sw;walk_at "m")
theorem Ar4 (F:Fun K "_law_tuples" "_law_tuples" Qg f fd) (a7:yT0 P w K mg base) (t9:Def P w K mg base "_law_pool" 3 [lJ, lL] (spP K Ja)) (z9:mg "len" = none) (zJ:mg "range" = none) (z7:mg "tuple" = none):FnOk P w K mg base CX0 4 f fd [lJ, lK, lL] (spP K Gm):=by
 exact F.okQ zV (λhr hu _=>Af (Bc (i:=3) zV.nd (Bj t9 hr (Ad (qv 0) (Ad Ae Ac))))
  (Af (Bc (i:=4) zV.nd (Ce Ac))
  (Af (Hc cJ rfl (Hh rfl zJ (Ad (qv 2) Ac)) (Ao (i:=5) zV.nd) (Af (Bc (i:=6) zV.nd (Am (Kq:=K) rfl rfl z7 (Ad (by exact(G5 (N':=[lS, "_law_pool_here", lJ]) (idx:=[none,some 3,some 0]) Dc rfl (Hh rfl zJ (Ad (qv 1) Ac)) (λ_ _ _ _ _=>by exact(Ao (i:=0) (by show ([lS, "_law_pool_here", lJ]:v4).Nodup;decide +kernel))) qtN (λ_ _ _ _ _=>by exact(Ay (Kq:=K) rfl (qv 1) (Bj a7 hr (Ad (qv 2) (Ad (Et (Kq:=K) rfl rfl z9 (Ad (qv 1) Ac)) Ac))) Er)))) Ac)))
  (Ak (Em (K9 hu (qv 6) (qv 4) (by with_unfolding_all rfl)) (Ak (Gd (Hk (Kq:=K) rfl (qv 4) (qv 6)))) By))))
  (Ak (Bk (qv 4)))))) (by unfold Ny;walk_at "m")
theorem A6b (F:Fun K "_law_wide" "_law_wide" V4 f fd) (a7:yT0 P w K mg base) (h7:Def P w K mg base "_law_many" 2 [lJ, "_law_least", "_law_few", "_law_most"] (spP K Hd)) (aA1:Def P w K mg base "_law_names" 2 [lJ, lL] (spP K G7)) (c8:yT4 P w K mg base) (m7:Def P w K mg base "_law_number" 2 [lJ] (spP K Cm)) (i6:Def P w K mg base "_law_tuples" 4 [lJ, lK, lL] (spP K Gm)) (z7:mg "tuple" = none):FnOk P w K mg base CX0 5 f fd [lJ, "_law_numbers"] (spP K Km):=by
 exact F.okQ zF (λhr hu _=>Af (Bc (i:=2) zF.nd (Bj aA1 hr (Ad (qv 0) (Ad Ae Ac))))
  (Af (Bp9 (i:=3) (j:=4) (k:=5) rfl zF.nd rfl rfl rfl (by decide) (by decide) (by decide) rfl rfl rfl (Ad (Bj a7 hr (Ad (qv 0) (Ad Ae Ac))) (Ad (Bj a7 hr (Ad (qv 0) (Ad Ae Ac))) (Ad (Bf Ae (Bj a7 hr (Ad (qv 0) (Ad Ae Ac)))) Ac))) rfl)
  (Af (Em (Us hu (Bj a7 hr (Ad (qv 0) (Ad Ae Ac))) Ae) (Ak (Bc (i:=5) zF.nd (Bf Ae (Bj a7 hr (Ad (qv 0) (Ad Ae Ac)))))) By)
  (Af (Bz8 (i:=6) (j:=7) rfl zF.nd rfl rfl (by decide) rfl rfl (Ad (Mj (Kq:=K) rfl (qv 2) Ho (En (qv 3))) (Ad (Mj (Kq:=K) rfl (qv 2) (En (qv 3)) (En (Bf (qv 3) (qv 4)))) Ac)) rfl)
  (Af (Bc (i:=8) zF.nd (Mj (Kq:=K) rfl (qv 2) (En (Bf (qv 3) (qv 4))) (En (Bf (Bf (qv 3) (qv 4)) (qv 5)))))
  (Af (Bc (i:=9) zF.nd (Bj i6 hr (Ad (qv 0) (Ad (qv 4) (Ad (Bj h7 hr (Ad (qv 0) (Ad Ae (Ad Ae (Ad Ae Ac))))) Ac)))))
  (Af (Bc (i:=10) zF.nd (Ay (Kq:=K) rfl (Ce (Ad Ae (Ad Ae (Ad Ae Ac)))) (Bj a7 hr (Ad (qv 0) (Ad Ae Ac))) Er))
  (Af (Bc (i:=11) zF.nd (Ce Ac))
  (Af (Hc cJ rfl (Do (Kq:=K) rfl (Bj i6 hr (Ad (qv 0) (Ad (qv 3) (Ad (Bj h7 hr (Ad (qv 0) (Ad Ae (Ad Ae (Ad Ae Ac))))) Ac))))) (Ao (i:=12) zF.nd) (Af (Bc (i:=13) zF.nd (Ce Ac))
  (Af (Hc cJ rfl (Do (Kq:=K) rfl (qv 9)) (Ao (i:=14) zF.nd) (Af (Bc (i:=15) zF.nd (Am (Kq:=K) rfl rfl z7 (Ad (by exact(G5 (N':=["_law_name", "_law_numbers", lJ]) (idx:=[none,some 1,some 0]) Dc rfl (Do (Kq:=K) rfl (qv 8)) (λ_ _ _ _ _=>by exact(Ao (i:=0) (by show (["_law_name", "_law_numbers", lJ]:v4).Nodup;decide +kernel))) qtN (λ_ _ _ _ _=>by exact(Rb (Je (qv 1)) (Bj m7 hr (Ad (qv 2) Ac)) (Bj c8 hr (Ad (qv 2) Ac)))))) Ac)))
  (Ak (Gd (Hk (Kq:=K) rfl (qv 13) (Rb (Us hu (Bj a7 hr (Ad (qv 0) (Ad (qv 10) Ac))) Ae) Ie (qv 15)))))))
  (Ak (Gd (Hk (Kq:=K) rfl (qv 11) (Bs (Ad (qv 12) (Ad (Am (Kq:=K) rfl rfl z7 (Ad (qv 13) Ac)) Ac)))))))))
  (Ak (Bk (Bs (Ad (Am (Kq:=K) rfl rfl z7 (Ad (qv 6) Ac)) (Ad (Am (Kq:=K) rfl rfl z7 (Ad (qv 7) Ac)) (Ad (Am (Kq:=K) rfl rfl z7 (Ad (qv 8) Ac)) (Ad (Am (Kq:=K) rfl rfl z7 (Ad (qv 9) Ac)) (Ad (Am (Kq:=K) rfl rfl z7 (Ad (qv 11) Ac)) Ac))))))))))))))))) (by unfold Oz;walk_at "m")
theorem A4e {n:Nat}(F:Fun K "_law_same" "_law_same" Ru f fd) (d6:Def P w K mg base "_law_same" (n) [lQ, "_law_due"] (spP K (Bu n))) (yG:mg "all" = none) (yE:mg "bool" = none) (zU:mg "int" = none) (z8:mg "isinstance" = none) (z9:mg "len" = none) (zG:mg "list" = none) (zZ:mg "str" = none) (z7:mg "tuple" = none) (zP:mg "zip" = none):FnOk P w K mg base CX0 (n+1) f fd [lQ, "_law_due"] (spP K (Bu (n+1))):=by
 exact F.okQ A4u (λhr hu _=>Af (Em (Je (Ae3 (Kq:=K) rfl rfl z8 (Ad (qv 1) (Ad (Bs (Ad (Eo (v:=.ty "list") rfl zG Ve rfl) (Ad (Eo (v:=.ty "tuple") rfl z7 K1 rfl) Ac))) Ac)))) (Af (Em (QW.qt (Zq (Zc hu (Cv (Kq:=K) rfl rfl z8 (Ad (qv 0) (Ad (Eo (v:=.ty "list") rfl zG Ve rfl) Ac))) (Cv (Kq:=K) rfl rfl z8 (Ad (qv 1) (Ad (Eo (v:=.ty "list") rfl zG Ve rfl) Ac)))) (V6 (Zc hu (Cv (Kq:=K) rfl rfl z8 (Ad (qv 0) (Ad (Eo (v:=.ty "tuple") rfl z7 K1 rfl) Ac))) (Cv (Kq:=K) rfl rfl z8 (Ad (qv 1) (Ad (Eo (v:=.ty "tuple") rfl z7 K1 rfl) Ac))))))) (Ak (Bk Xg)) By)
  (Ak (Bk (Xu (Ze hu (Et (Kq:=K) rfl rfl z9 (Ad (qv 0) Ac)) (Et (Kq:=K) rfl rfl z9 (Ad (qv 1) Ac))) (Ag7 (Qx (Kq:=K) rfl rfl rfl yG (Ad (by exact(G5 (N':=["_law_one", "_law_other"]) (idx:=[none,none]) Dc rfl (Ay5 rfl zP (Ad (qv 0) (Ad (qv 1) Ac))) (λ_ _ _ _ _=>by exact(Gu (Kq:=K) rfl (n:=2) rfl (Bd (Ao (i:=0) (by show (["_law_one", "_law_other"]:v4).Nodup;decide +kernel)) (Bd (Ao (i:=1) (by show (["_law_one", "_law_other"]:v4).Nodup;decide +kernel)) Ej)))) qtN (λ_ _ _ _ _=>by exact(Bj d6 hr (Ad (qv 0) (Ad (qv 1) Ac)))))) Ac))))))) By)
  (Af (Em (QW.qt (Zq (Z5 (qv 1) Ie) (V6 (Je (Cv (Kq:=K) rfl rfl z8 (Ad (qv 1) (Ad (Eo (v:=.ty "str") rfl zZ Aa6 rfl) Ac))))))) (Ak (Bk (Xu (Ze hu (qv 0) (qv 1)) (Ag7 (Ze hu (Cv (Kq:=K) rfl rfl z8 (Ad (qv 0) (Ad (Eo (v:=.ty "str") rfl zZ Aa6 rfl) Ac))) (Cv (Kq:=K) rfl rfl z8 (Ad (qv 1) (Ad (Eo (v:=.ty "str") rfl zZ Aa6 rfl) Ac)))))))) By)
  (Af (Em (Je (Cv (Kq:=K) rfl rfl z8 (Ad (qv 1) (Ad (Eo (v:=.ty "bool") rfl yE Ah0 rfl) Ac)))) (Ak (Bk (Xu (Cv (Kq:=K) rfl rfl z8 (Ad (qv 0) (Ad (Eo (v:=.ty "bool") rfl yE Ah0 rfl) Ac))) (Ag7 (Ze hu (qv 0) (qv 1)))))) By)
  (Ak (Bk (Xu (Cv (Kq:=K) rfl rfl z8 (Ad (qv 0) (Ad (Eo (v:=.ty "int") rfl zU A7d rfl) Ac))) (Xu (Bv8 (Cv (Kq:=K) rfl rfl z8 (Ad (qv 0) (Ad (Eo (v:=.ty "bool") rfl yE Ah0 rfl) Ac)))) (Ag7 (Ze hu (qv 0) (qv 1)))))))))) (by unfold Gj;walk_at "m")
theorem V8 (F:Fun K "_law_same" "_law_same" Ru f fd) (bF:Binds K fd [lQ, "_law_due"] []) (mF:mg "_law_same" = some (.ref f)) (yG:mg "all" = none) (yE:mg "bool" = none) (zU:mg "int" = none) (z8:mg "isinstance" = none) (z9:mg "len" = none) (zG:mg "list" = none) (zZ:mg "str" = none) (z7:mg "tuple" = none) (zP:mg "zip" = none):∀n:Nat,FnOk P w K mg base CX0 (n) f fd [lQ, "_law_due"] (spP K (Bu n))
 | 0=>By8
 | n+1=>A4e F ⟨f,fd,V8 F bF mF yG yE zU z8 z9 zG zZ z7 zP n,bF,F.kp,mF⟩ yG yE zU z8 z9 zG zZ z7 zP
theorem A3s (F:Fun K "_law_long" "_law_long" W8 f fd) (zP:mg "zip" = none):FnOk P w K mg base CX0 1 f fd [lK] (spP K Jb):=by
 exact F.okQ yL (λ_ _ _=>Af (Bc (i:=1) yL.nd (Ce Ac))
  (Af (Hc cJ rfl (Do (Kq:=K) rfl (Ay (Kq:=K) rfl (qv 0) Ae Aq)) (Gu (Kq:=K) rfl (n:=2) rfl (Bd (Ao (i:=2) yL.nd) (Bd (Ao (i:=3) yL.nd) Ej))) (Ak (Gd (Ub (Kq:=K) rfl eQ PySem.F.slot_list_extend PySem.F.type_list_extend Z1 (qv 1) (Ad (by exact(G5 (N':=["_law_head", "_law_told_here", lT]) (idx:=[none,none,some 2]) Dc rfl (Ay5 rfl zP (Ad (Ay (Kq:=K) rfl (qv 0) Ae Aq) (Ad (qv 3) Ac))) (λ_ _ _ _ _=>by exact(Gu (Kq:=K) rfl (n:=2) rfl (Bd (Ao (i:=0) (by show (["_law_head", "_law_told_here", lT]:v4).Nodup;decide +kernel)) (Bd (Ao (i:=1) (by show (["_law_head", "_law_told_here", lT]:v4).Nodup;decide +kernel)) Ej)))) (λ_ _ _ _ _=>by exact(Q9 (Wi (qv 1) Ie))) (λ_ _ _ _ _=>by exact(Bf (Bf (qv 2) (qv 0)) (qv 1))))) Ac)))))
  (Ak (Bk (Bs (Ad (Bf (Bf (Ay (Kq:=K) rfl (qv 0) Ae Aq) (Ay (Kq:=K) rfl (qv 0) Ae Aq)) (Ay (Kq:=K) rfl (qv 0) Ae Aq)) (Ad (qv 1) Ac))))))) (by unfold Ol;walk_at "m")
theorem A4y (F:Fun K "_law_fold" "_law_fold" Wn f fd) (zU:mg "int" = none) (z7:mg "tuple" = none):FnOk P w K mg base CX0 1 f fd [lR, "_law_rows", lU, lN, "_law_values"] (spP K K3):=by
 exact F.okQ zH (λ_ hu _=>Af (by exact(K4 (i:=5) zH.nd rfl (Or.inl rfl) (N':=["_law_some", lR]) (idx:=[none,some 0]) Dc rfl (Do (Kq:=K) rfl (Bs (Ad (qv 2) (Ad (qv 3) (Ad (qv 4) Ac))))) (λ_ _ _ _ _=>by exact(Ao (i:=0) (by show (["_law_some", lR]:v4).Nodup;decide +kernel))) qtN (λ_ _ _ _ _=>by exact(by exact(G5 (N':=["_law_name", lR]) (idx:=[none,some 1]) Dc rfl (Do (Kq:=K) rfl (qv 0)) (λ_ _ _ _ _=>by exact(Ao (i:=0) (by show (["_law_name", lR]:v4).Nodup;decide +kernel))) qtN (λ_ _ _ _ _=>by exact(Ub (Kq:=K) rfl PySem.F.plainAttrs_tuple PySem.F.slot_tuple_index PySem.F.type_tuple_index (Ws rfl) (qv 1) (Ad (qv 0) Ac))))))))
  (Af (Qh (Bs (Ad (Ce Ac) (Ad (Ce Ac) (Ad Sd Ac)))) (Gu (Kq:=K) rfl (n:=3) rfl (Bd (Ao (i:=6) zH.nd) (Bd (Ao (i:=7) zH.nd) (Bd (Ao (i:=8) zH.nd) Ej))))) (Af2 (d:=8) (Hc cJ rfl (Do (Kq:=K) rfl (qv 1)) (Ao (i:=9) zH.nd) (Af (Qh (by exact(G5 (N':=["_law_some", "_law_row"]) (idx:=[none,some 9]) Dc rfl (Do (Kq:=K) rfl (qv 5)) (λ_ _ _ _ _=>by exact(Ao (i:=0) (by show (["_law_some", "_law_row"]:v4).Nodup;decide +kernel))) qtN (λ_ _ _ _ _=>by exact(Am (Kq:=K) rfl rfl z7 (Ad (by exact(G5 (N':=[lS, "_law_row"]) (idx:=[none,some 1]) Dc rfl (Do (Kq:=K) rfl (qv 0)) (λ_ _ _ _ _=>by exact(Ao (i:=0) (by show ([lS, "_law_row"]:v4).Nodup;decide +kernel))) qtN (λ_ _ _ _ _=>by exact(Ay (Kq:=K) rfl (qv 1) (qv 0) Pb)))) Ac))))) (B2g (Kq:=K) rfl (n:=3) rfl (Bd (Ao (i:=10) zH.nd) (Bd (Ao (i:=11) zH.nd) (Bd (Ao (i:=12) zH.nd) Ej)))))
  (Af (Bc (i:=6) zH.nd (Bf (qv 6) (Zo (Ce (Ad (qv 10) Ac)) (Lz (Kq:=K) rfl rfl zU (Ad (Rj hu (qv 10) (qv 6) (by with_unfolding_all rfl)) Ac)))))
  (Af (Bc (i:=7) zH.nd (Bf (qv 7) (Zo (Ce (Ad (qv 11) Ac)) (Lz (Kq:=K) rfl rfl zU (Ad (Rj hu (qv 11) (qv 7) (by with_unfolding_all rfl)) Ac)))))
  (Ak (Ag4 hu (qv 8) (Bs (Ad (qv 10) (Ad (qv 11) Ac))) (qv 12)))))))
  (Af (by exact(K4 (i:=1) zH.nd rfl (Or.inl rfl) (N':=[lT, "_law_heads", "_law_there"]) (idx:=[none,some 7,some 8]) Dc rfl (Do (Kq:=K) rfl (qv 6)) (λ_ _ _ _ _=>by exact(Ao (i:=0) (by show ([lT, "_law_heads", "_law_there"]:v4).Nodup;decide +kernel))) qtN (λ_ _ _ _ _=>by exact(Bs (Ad (qv 0) (Ad (Am (Kq:=K) rfl rfl z7 (Ad (by exact(G5 (N':=["_law_head", "_law_there", lT]) (idx:=[none,some 2,some 0]) Dc rfl (Do (Kq:=K) rfl (qv 1)) (λ_ _ _ _ _=>by exact(Ao (i:=0) (by show (["_law_head", "_law_there", lT]:v4).Nodup;decide +kernel))) qtN (λ_ _ _ _ _=>by exact(A9u hu (qv 1) (Bs (Ad (qv 2) (Ad (qv 0) Ac))) ⟨rfl,rfl,rfl,rfl⟩)))) Ac)) Ac))))))
  (Ak (Bk (Bs (Ad (Am (Kq:=K) rfl rfl z7 (Ad (qv 2) Ac)) (Ad (Am (Kq:=K) rfl rfl z7 (Ad (qv 3) Ac)) (Ad (Am (Kq:=K) rfl rfl z7 (Ad (qv 4) Ac)) (Ad (Am (Kq:=K) rfl rfl z7 (Ad (qv 7) Ac)) (Ad (Am (Kq:=K) rfl rfl z7 (Ad (qv 1) Ac)) Ac)))))))))))) (Ea (Fj (Ri (by decide) (J6 (Jj (An me_var (An me_var (An me_var Bv))))) Bm Nt (Ri (by decide) (J6 me_var) Bm Nt (Az9 me_var me_var Be6 Z4))) Bm)
  (Xd (A9r (J6 me_var) Bm (Jd (by decide)) (Ac8 (Ad7 (Ri (by decide) (J6 me_var) Bm Nt (Ca (Ri (by decide) (J6 me_var) Bm Nt (Ep me_var me_var Ir)) Fy)) (A8k (Hv Bm (Hv Bm (Hv Bm Vp)))) (A0f (Qv (Jd (by decide)) Gg (Qv (Jd (by decide)) Gg (Qv (Jd (by decide)) Gg A0c Ov) (Lr Gg Ov)) (Lr Gg (Lr Gg Ov)))))
  (Ac8 (Ad7 (Ep me_var (Ep (Mh (An me_var Bv)) (Ca (Ep me_var me_var T5) Ab2) Vu) Oh) Bm (Jd (by decide)))
  (Ac8 (Ad7 (Ep me_var (Ep (Mh (An me_var Bv)) (Ca (Ep me_var me_var T5) Ab2) Vu) Oh) Bm (Jd (by decide)))
  (A9i (Jj (An me_var (An me_var Bv))) (A8v me_var))))))
  (Ea (Fj (Ri (by decide) (A8t (J6 me_var)) Bm Nt (Jj (An me_var (An (Ca (Ri (by decide) (J6 me_var) Bm Nt (Ar1 me_var (Jj (An me_var (An me_var Bv))) (Gf rfl))) Fy) Bv)))) Bm)
  (Mx (Jj (An (Ca me_var Fy) (An (Ca me_var Fy) (An (Ca me_var Fy) (An (Ca me_var Fy) (An (Ca me_var Fy) Bv))))))))))
abbrev yT5 (P w K mg base):=Bt3 P w K mg base "_law_told" 1 ["BadColumns"] (spP K Hm)
theorem A3l (F:Fun K "_law_told" "_law_told" V0 f fd) (hb:Binds K fd ["_law_call"] []) (gm:mg "_law_told" = some (.ref f)) (yI:mg "ValueError" = none) (z8:mg "isinstance" = none) (z9:mg "len" = none) (i9:ClT K mg [("BadColumns",true)] "BadColumns") (aA3:ClT K mg [("BadColumns",false)] "BadOrder") (j1:ClT K mg [("BadColumns",false)] "BadRow") (aA2:ClT K mg [("BadColumns",false)] "BadWay") (u3:ClT K mg [("BadColumns",false)] "Double") (y0:ClT K mg [("BadColumns",false)] "NoColumn") (z5:ClT K mg [("BadColumns",false)] "NoHead") (o3:ClT K mg [("BadColumns",false)] "NoNumber") (k8:ClT K mg [("BadColumns",false)] "NoPart") (q5:ClT K mg [("BadColumns",false)] "NoRow") (w4:TbOk K (.type "ValueError") [("BadColumns",true)]) (l7:ClF K mg ["BadColumns"] "FoldError"):yT5 P w K mg base:=by
 obtain⟨aF4,aC3,aB5⟩:=i9;obtain⟨aE3,aB2,aB8⟩:=aA3;obtain⟨aE4,aC9,aD2⟩:=j1;obtain⟨aE5,aD8,aC4⟩:=aA2;obtain⟨aE1,aB6,aC6⟩:=u3;obtain⟨aF1,aE0,aC7⟩:=y0;obtain⟨aE7,aC2,aC8⟩:=z5;obtain⟨aE2,aA8,aD4⟩:=o3;obtain⟨aE8,aB7,aC1⟩:=k8;obtain⟨aF2,aB3,aD6⟩:=q5;have aB1:=w4;obtain⟨aC5,aB9,aD9⟩:=l7
 refine⟨aC5,Bs6 F yD hb gm aB9 (λcdv A outer s H=>by exact(Qh (Bs (Ad Ie (Ad Ie Ac))) (Gu (Kq:=K) rfl (n:=2) rfl (Bd (Ao (i:=1) yD.nd) (Bd (Ao (i:=2) yD.nd) Ej))))) (λcdv A outer s H0 H vs Q E hr h=>?_),aD9⟩
 have hu:=hr.units;have hgd:=hr.gd
 refine A3g (Af (Em (Z5 (qv 1) Ie) (Ak (Bk (qv 0))) By)
  (Af (Bc (i:=3) (bH.mp yD.nd).2 (Ce (Ad (Ra (Kq:=K) rfl rfl z8 (Ad (qv 1) (Ad (Kc rfl aC3) Ac))) (Ad (Ra (Kq:=K) rfl rfl z8 (Ad (qv 1) (Ad (Kc rfl aE0) Ac))) (Ad (Ra (Kq:=K) rfl rfl z8 (Ad (qv 1) (Ad (Kc rfl aD8) Ac))) Ac)))))
  (Af (Gd (Hk (Kq:=K) rfl (qv 3) (Ra (Kq:=K) rfl rfl z8 (Ad (qv 1) (Ad (Kc rfl aA8) Ac)))))
  (Af (Bc (i:=4) (bH.mp yD.nd).2 (A8i (Kq:=K) rfl rfl z8 (Ad (qv 1) (Ad (Bs (Ad (Kc rfl aB2) (Ad (Kc rfl aC9) (Ad (Kc rfl aB6) (Ad (Kc rfl aC2) (Ad (Kc rfl aB7) (Ad (Kc rfl aB3) Ac))))))) Ac))))
  (Af (Em (QW.qt (Zq (Je (qv 4)) (Zq (Aa8 (Je (Ra (Kq:=K) rfl rfl z8 (Ad (qv 1) (Ad (Eo (v:=.ty "ValueError") rfl yI Yv rfl) Ac))))) (V6 (Zc hu (Et (Kq:=K) rfl rfl z9 (Ad (by exact(G5 (N':=["_law_mark"]) (idx:=[none]) Dc rfl (Do (Kq:=K) rfl (qv 3)) (λ_ _ _ _ _=>by exact(Ao (i:=0) (by show (["_law_mark"]:v4).Nodup;decide +kernel))) (λ_ _ _ _ _=>by exact(Q9 (Je (qv 0)))) (λ_ _ _ _ _=>by exact(qv 0)))) Ac)) Ae))))) (Ak (Bk (Bs (Ad J5 (Ad (Av3 Ae) (Ad Ie Ac)))))) By)
  (Ak (Bk (Bs (Ad J5 (Ad (Ub (Kq:=K) rfl eQ PySem.F.slot_list_index PySem.F.type_list_index (A5o rfl hu) (qv 3) (Ad Xg Ac)) (Ad (Rb (Je (Ay (Kq:=K) rfl (qv 3) Ae Aq)) As5 Ie) Ac))))))))))) ?_
 exact Az2 (Ea (Am8 (Iu (A0t me_var)) (Mx me_var) Li)
  (Ea (Fj (Mh (An (Oa rfl aB5 me_var) (An (Oa rfl aC7 me_var) (An (Oa rfl aC4 me_var) Bv)))) Bm)
  (Ea (A0b (A8x me_var (Oa rfl aD4 me_var)))
  (Ea (Fj (Ak7 (show As4 K _ [("BadColumns",false)] from (M4 aB8 (M4 aD2 (M4 aC6 (M4 aC8 (M4 aC1 (Bl7 aD6) rfl) rfl) rfl) rfl) rfl)) me_var) Bm)
  (Ea (Am8 (Ak9 (Am0 me_var) (Ak9 (V9 (Am0 (Oa rfl aB1 me_var))) (Iu (Ep (Tq (Ri (by decide) (J6 me_var) Bm (Am0 me_var) me_var)) (Gf rfl) Ag6)))) (Mx (Jj (An (Gf rfl) (An (Zb (Gf rfl) A2b) (An (Gf rfl) Bv))))) Li)
  (Mx (Jj (An (Gf rfl) (An (Az9 me_var (Gf rfl) Ay3 We) (An (A6w (Am0 (Ep me_var (Gf rfl) Ir)) Aq0 (Gf rfl)) Bv)))))))))) h
theorem T7 (F:Fun K "_law_parted_anew" "_law_parted_anew" Ih f fd) (a7:yT0 P w K mg base) (z9:mg "len" = none) (zG:mg "list" = none):FnOk P w K mg base CX0 2 f fd [lJ, lK] (spP K Ex):=by
 exact F.okQ zO (λhr _ _=>Af (Bc (i:=2) zO.nd (Dp (Kq:=K) rfl rfl zG (Ad (Bf (Ay (Kq:=K) rfl (qv 1) Ae Aq) (Ay (Kq:=K) rfl (qv 1) Ae Aq)) Ac)))
  (Af (by exact(K4 (i:=3) zO.nd rfl (Or.inl rfl) (N':=["_law_name", "_law_left", lJ]) (idx:=[none,some 2,some 0]) Dc rfl (Do (Kq:=K) rfl (Bf (Ay (Kq:=K) rfl (qv 1) Ae Aq) (Ay (Kq:=K) rfl (qv 1) Ae Aq))) (λ_ _ _ _ _=>by exact(Ao (i:=0) (by show (["_law_name", "_law_left", lJ]:v4).Nodup;decide +kernel))) qtN (λ_ _ _ _ _=>by exact(Ub (Kq:=K) rfl eQ PySem.F.slot_list_pop PySem.F.type_list_pop Ai7 (qv 1) (Ad (Bj a7 hr (Ad (qv 2) (Ad (Et (Kq:=K) rfl rfl z9 (Ad (qv 1) Ac)) Ac))) Ac)))))
  (Af (Bc (i:=4) zO.nd (Bj a7 hr (Ad (qv 0) (Ad (Bf (Et (Kq:=K) rfl rfl z9 (Ad (qv 3) Ac)) Ae) Ac))))
  (Ak (Bk (Bs (Ad (Mj (Kq:=K) rfl (qv 3) Ho (En (qv 4))) (Ad (Mj (Kq:=K) rfl (qv 3) (En (qv 4)) Ho) Ac)))))))) (by unfold Ez;walk_at "m")
theorem Ar9 (F:Fun K "_law_spoilt" "_law_spoilt" Qn f fd) (a7:yT0 P w K mg base) (z9:mg "len" = none) (yN:mg "sorted" = none):FnOk P w K mg base CX0 2 f fd [lJ, lK, lU, lN] (spP K J1):=by
 exact F.okQ zR (λhr hu _=>Af (Bc (i:=4) zR.nd (Ay (Kq:=K) rfl (Ce (Ad (Ay (Kq:=K) rfl (Ay (Kq:=K) rfl (qv 1) Ae Aq) Ae Aq) (Ad J5 (Ad J5 (Ad J5 Ac))))) (Bj a7 hr (Ad (qv 0) (Ad Ae Ac))) Er))
  (Af (Bc (i:=5) zR.nd (Ce (Ad (Bs (Ad (Bf (qv 2) (Ce (Ad (qv 4) Ac))) (Ad (qv 3) Ac))) (Ad (Bs (Ad (qv 2) (Ad (Bf (Ce (Ad (qv 4) Ac)) (qv 3)) Ac))) (Ad (Bs (Ad (Bf (Bf (qv 2) (qv 2)) (qv 3)) (Ad (qv 3) Ac))) (Ad (Bs (Ad (qv 2) (Ad (Bf (Bf (qv 3) (qv 2)) (qv 3)) Ac))) Ac))))))
  (Af (Em (Mp (Et (Kq:=K) rfl rfl z9 (Ad (qv 2) Ac)) Ae) (Af (Bc (i:=5) zR.nd (Bf (qv 5) (Ce (Ad (Bs (Ad (Mj (Kq:=K) rfl (qv 2) (En Ae) Ho) (Ad (qv 3) Ac))) (Ad (Bs (Ad (qv 2) (Ad (Bf (qv 3) (Mj (Kq:=K) rfl (qv 2) Ho (En Ae))) Ac))) (Ad (Bs (Ad (Bf (Ce (Ad (qv 4) Ac)) (Mj (Kq:=K) rfl (qv 2) (En Ae) Ho)) (Ad (qv 3) Ac))) Ac))))))
  (Ak (Gd (Hk (Kq:=K) rfl (qv 5) (Bs (Ad (Bf (Mj (Kq:=K) rfl (qv 2) Ho (En (Av3 Ae))) (Ce (Ad (qv 4) Ac))) (Ad (qv 3) Ac))))))) By)
  (Af (Em (Mp (Et (Kq:=K) rfl rfl z9 (Ad (qv 3) Ac)) Ae) (Ak (Bc (i:=5) zR.nd (Bf (qv 5) (Ce (Ad (Bs (Ad (qv 2) (Ad (Mj (Kq:=K) rfl (qv 3) (En Ae) Ho) Ac))) (Ad (Bs (Ad (Bf (qv 2) (Mj (Kq:=K) rfl (qv 3) Ho (En Ae))) (Ad (qv 3) Ac))) (Ad (Bs (Ad (qv 2) (Ad (Bf (Mj (Kq:=K) rfl (qv 3) Ho (En (Av3 Ae))) (Ce (Ad (qv 4) Ac))) Ac))) Ac))))))) By)
  (Af (by exact(K4 (i:=5) zR.nd rfl (Or.inl rfl) (N':=["_law_lists", lK]) (idx:=[none,some 1]) Dc rfl (Do (Kq:=K) rfl (qv 5)) (λ_ _ _ _ _=>by exact(Ao (i:=0) (by show (["_law_lists", lK]:v4).Nodup;decide +kernel))) (λ_ _ _ _ _=>by exact(Q9 (Zc hu (An8 (Kq:=K) rfl hr.un80 rfl yN (Ad (Bf (Ay (Kq:=K) rfl (qv 0) Ae Aq) (Ay (Kq:=K) rfl (qv 0) Ae Aq)) Ac)) (An8 (Kq:=K) rfl hr.un80 rfl yN (Ad (Bf (Ay (Kq:=K) rfl (qv 1) Ae Aq) (Ay (Kq:=K) rfl (qv 1) Ae Aq)) Ac))))) (λ_ _ _ _ _=>by exact(qv 0))))
  (Ak (Bk (Ay (Kq:=K) rfl (qv 5) (Bj a7 hr (Ad (qv 0) (Ad (Et (Kq:=K) rfl rfl z9 (Ad (qv 5) Ac)) Ac))) Er)))))))) (by unfold J4;walk_at "m")
theorem B1m (F:Fun K "law" "law" Ba7 f fd) {c_ T_:Addr} (hT_:(T_,("law" : Str) ++ ".<locals>." ++ "<lambda>")∈Dq K) (hC_:PySem.W.codeHdIn K c_ T_=true) (hD_:fd.code=.ref c_) (i5:DefX P w K mg base "turned" 7 ["wide", "key", "names"] (spX K Dy)) (w9:Def P w K mg base "_law_box" 2 [lM, lS] (spP K Mz)) (a7:yT0 P w K mg base) (t4:Def P w K mg base "_law_wide" 5 [lJ, "_law_numbers"] (spP K Km)) (d6:Def P w K mg base "_law_same" 9 [lQ, "_law_due"] (spP K (Bu 9))) (x5:Def P w K mg base "_law_long" 1 [lK] (spP K Jb)) (k6:Def P w K mg base "_law_fold" 1 [lR, "_law_rows", lU, lN, "_law_values"] (spP K K3)) (u4:yT5 P w K mg base) (n4:Def P w K mg base "_law_parted_anew" 2 [lJ, lK] (spP K Ex)) (u7:Def P w K mg base "_law_spoilt" 2 [lJ, lK, lU, lN] (spP K J1)) (z9:mg "len" = none) (zG:mg "list" = none) (yX:mg "min" = none) (zJ:mg "range" = none) (zZ:mg "str" = none) (z7:mg "tuple" = none):FnOk P w K mg base CX0 11 f fd [lM] (spP K Ax5):=by
 obtain⟨fc__law_told,T__law_told,xt__law_told⟩:=u4
 refine F.okL zL (λ_ _ _ _=>A8r) (λcdv A outer s H vs Q E hcd_ hr h=>?_)
 have hu:=hr.units;have hgd:=hr.gd
 refine A3g (Af (Hc cJ rfl (Hh rfl zJ (Ad (Bf Ae (Ah4 (Kq:=K) rfl rfl rfl yX (Ad Ae (Ad (Et (Kq:=K) rfl rfl z9 (Ad (qv 0) Ac)) Ac)))) Ac)) (Ao (i:=1) zL.nd) (Af (Bc (i:=2) zL.nd (Bj w9 hr (Ad (qv 0) (Ad (qv 1) Ac))))
  (Af (Bc (i:=3) zL.nd (Bj t4 hr (Ad (qv 2) (Ad Xg Ac))))
  (Af (Qh (Bj x5 hr (Ad (qv 3) Ac)) (Gu (Kq:=K) rfl (n:=2) rfl (Bd (Ao (i:=4) zL.nd) (Bd (Ao (i:=5) zL.nd) Ej))))
  (Ak (Hc cJ rfl (Hh rfl zJ (Ad Ae Ac)) (Ao (i:=6) zL.nd) (Af (Qh (Bj n4 hr (Ad (qv 2) (Ad (qv 3) Ac))) (Gu (Kq:=K) rfl (n:=2) rfl (Bd (Ao (i:=7) zL.nd) (Bd (Ao (i:=8) zL.nd) Ej))))
  (Af (Bc (i:=9) zL.nd (Bj k6 hr (Ad (qv 4) (Ad (qv 5) (Ad (qv 7) (Ad (qv 8) (Ad (Ay (Kq:=K) rfl (qv 3) Ae Aq) Ac)))))))
  (Af (Bc (i:=10) zL.nd (Ay (Kq:=K) rfl (Ce (Ad (Bs (Ad (Dp (Kq:=K) rfl rfl zG (Ad (qv 7) Ac)) (Ad (Dp (Kq:=K) rfl rfl zG (Ad (qv 8) Ac)) Ac))) (Ad (Bs (Ad (Am (Kq:=K) rfl rfl z7 (Ad (qv 7) Ac)) (Ad (Am (Kq:=K) rfl rfl z7 (Ad (qv 8) Ac)) Ac))) Ac))) (Bj a7 hr (Ad (qv 2) (Ad Ae Ac))) Er))
  (Af (Bc (i:=11) zL.nd (A9q (Kq:=K) rfl hu hgd rfl zZ (Ad (Ce (Ad (qv 3) (Ad (qv 10) Ac))) Ac)))
  (Af (Hc cJ rfl (Hh rfl zJ (Ad Ae Ac)) (Ao (i:=12) zL.nd) (Ak (Em (QW.qt (Zq (Aa8 (Je (Bj d6 hr (Ad (B3h i5 hr (Ad (qv 3) (Ad (Ay (Kq:=K) rfl (qv 10) Ae Aq) (Ad (Ay (Kq:=K) rfl (qv 10) Ae Aq) Ac)))) (Ad (qv 9) Ac))))) (V6 (Zc hu (A9q (Kq:=K) rfl hu hgd rfl zZ (Ad (Ce (Ad (qv 3) (Ad (qv 10) Ac))) Ac)) (qv 11))))) (Ak (Bk Xg)) By)))
  (Af (Bc (i:=13) zL.nd (Bj u7 hr (Ad (qv 2) (Ad (qv 3) (Ad (qv 7) (Ad (qv 8) Ac))))))
  (Ak (Em (Aa8 (Je (Bj d6 hr (Ad (Bz7 (Kq:=K) rfl (kg:=7) (G:=[lK, "_law_bad"]) (js:=[3,13]) (as:=[.nm 0,.ix 1 0,.ix 1 1]) T__law_told hT_ hC_ (hcd_.symm.trans hD_) hr (λ_=>A7r _) ⟨Dc,by decide +kernel⟩ (by decide) (λ_ _ _ _ _ _ _ _ hr=>by exact(B3p Au9 i5 hr (Ad (qv 0) (Ad (Ay (Kq:=K) rfl (qv 1) Ae Aq) (Ad (Ay (Kq:=K) rfl (qv 1) Ae Aq) Ac)))))) (Ad (Bs (Ad J5 (Ad Ae (Ad Ie Ac)))) Ac))))) (Ak (Bk Xg)) By))))))))))))))
  (Ak (Bk Xg))) ?_
 exact Az2 (Ea (Ae8 (Vf (Ep (Gf rfl) (A2q (Gf rfl) (Tq me_var)) Oh)) Bm (Ea (Fj (Hq (An me_var (An me_var Bv))) Bm)
  (Ea (Fj (Hq (An me_var (An (Gf rfl) Bv))) Bm)
  (Ea (Fj (Hq (An me_var Bv)) (At5 (Hv Bm (Hv Bm Vp))))
  (Ae8 (Vf (Gf rfl)) Bm (Ea (Fj (Hq (An me_var (An me_var Bv))) (At5 (Hv Bm (Hv Bm Vp))))
  (Ea (Fj (Hq (An me_var (An me_var (An me_var (An me_var (An (Ep me_var (Gf rfl) Ir) Bv)))))) Bm)
  (Ea (Fj (Ep (Mh (An (Jj (An (Ca me_var Ky) (An (Ca me_var Ky) Bv))) (An (Jj (An (Ca me_var Fy) (An (Ca me_var Fy) Bv))) Bv))) (Hq (An me_var (An (Gf rfl) Bv))) Ir) Bm)
  (Ea (Fj (Ca (Mh (An me_var (An me_var Bv))) Ah1) Bm)
  (Ea (Ae8 (Vf (Gf rfl)) Bm (Am8 (Ak9 (V9 (Am0 (Hq (An (Al1 (An me_var (An (Ep me_var (Gf rfl) Ir) (An (Ep me_var (Gf rfl) Ir) Bv)))) (An me_var Bv))))) (Iu (Ep (Ca (Mh (An me_var (An me_var Bv))) Ah1) me_var Ag6))) (Mx (Gf rfl)) Li))
  (Ea (Fj (Hq (An me_var (An me_var (An me_var (An me_var Bv))))) Bm)
  (Am8 (V9 (Am0 (Hq (An (Bb7 (js:=[3,13]) (as:=[.nm 0,.ix 1 0,.ix 1 1]) xt__law_told (show MA K (tAr K (λk=>List.getD [3,13] k 0) [.nm 0,.ix 1 0,.ix 1 1]) _ from (An me_var (An (Ep me_var (Gf rfl) Ir) (An (Ep me_var (Gf rfl) Ir) Bv))))) (An (Jj (An (Gf rfl) (An (Gf rfl) (An (Gf rfl) Bv)))) Bv))))) (Mx (Gf rfl)) Li))))))))))))
  (Mx (Gf rfl))) h
end
theorem lnS {us:w6}(h:us.length=n+1):∃x r,us=x::r/\r.length=n:=by
 cases us with
 | nil=>grind
 | cons x r=>grind
theorem ln1 {us:w6}(h:us.length=1):∃x0,us=[x0]:=by
 obtain⟨x,r,a,b⟩:=lnS h
 simp_all
theorem ln2 {us:w6}(h:us.length=2):∃c b,us=[c,b]:=by
 obtain⟨c,r,a,d⟩:=lnS h;obtain⟨b,a⟩:=ln1 d
 grind
theorem ln3 {us:w6}(h:us.length=3):∃c d b,us=[c,d,b]:=by
 obtain⟨c,r,a,e⟩:=lnS h;obtain⟨d,b,a⟩:=ln2 e
 grind
theorem ln4 {us:w6}(h:us.length=4):∃c d e b,us=[c,d,e,b]:=by
 obtain⟨c,r,a,f⟩:=lnS h;obtain⟨d,e,b,a⟩:=ln3 f
 grind
theorem ln5 {us:w6}(h:us.length=5):∃c e d f b,us=[c,e,d,f,b]:=by
 obtain⟨c,r,a,g⟩:=lnS h;obtain⟨e,d,f,b,a⟩:=ln4 g
 grind
theorem _root_.bi {st:Stmt}(F:L2.Fun K x qual st f d)(ps:v4)(h:∀(i b e:Value) (g:Option Addr) (a c:Value) (us:w6),us.length=ps.length->bindArgs (PySem.W.fnOf x qual (J3 st) (Cy st) (Ah st) .none i b e g a c) ⟨us,[]⟩=pure (ps.zip us):=by intro _ _ _ _ _ _ us hl;first | (obtain⟨_,rfl⟩:=ln1 hl;rfl) | (obtain⟨_,_,rfl⟩:=ln2 hl;rfl) | (obtain⟨_,_,_,rfl⟩:=ln3 hl;rfl) | (obtain⟨_,_,_,_,rfl⟩:=ln4 hl;rfl) | (obtain⟨_,_,_,_,_,rfl⟩:=ln5 hl;rfl)):L2.Binds K d ps []:=F.binds h
theorem mkD (a:FnOk P w K mg base CX0 k f d ps sp) (b:Binds K d ps []) (c:PySem.W.keepIn K (.ref f)=true) (g:mg x=some (.ref f)):Def P w K mg base x k ps sp:=⟨f,d,a,b,c,g⟩
theorem mkX {P:u6}{w:World}{K:v9}{mg:x_}{base:Heap}{k:Nat}{f:Addr}{fd:u5}{x:Str}{ps:v4}{sp:Sp}(a:FnOk P w K mg base (CXe P w) k f fd ps sp)(b:Binds K fd ps [])(c:PySem.W.keepIn K (.ref f)=true)(g:mg x=some (.ref f)):DefX P w K mg base x k ps sp:=⟨f,fd,a,b,c,g⟩
theorem Bt (T:PyProof.Rows.Top q loose g mg j h) (k:∀a o,h.get? a=some o->Fl o=true->o.data≠.fields #[]->K.lookup a=some o) (l:(PyProof.Rows.recsOf q).map (λd=>(d.name,d.params,d.body,d.scope))=L) {i:Nat} (e:L[i]?=some (x,J3 st,Cy st,Ah st)):∃f fd,Fun K x x st f fd/\mg x=some (.ref f):=by
 obtain⟨d,m,rfl,a,b,c⟩:=Aj5 l e;exact Bs3 T k m a b c
abbrev rr (x:Str)(i:Nat):Str×Arguments×List Stmt×Scope:=(x,J3 (top i),Cy (top i),Ah (top i))
theorem B1g {l:PySem.W.OpenLaw}{w:World}{q:u6}{loose:v4}{mean:ExcName->u9}{mg mb:x_}{h:Heap}{fa:Addr}(T:PyProof.Rows.Top q loose mean mg mb h)(hfa:mg "law" = some (.ref fa))
 (hlaw:∀ns:List Int,ns.length<=63->Ax5 [.sc ns]=.ret (.im (.bool true)) [.sc ns])
 (hR:(PyProof.Rows.recsOf q).map (λd=>(d.name,d.params,d.body,d.scope))=[rr "rank" 13,rr "risen" 14,rr "place_of" 16,rr "places_of" 17,rr "values_at" 18,rr "check_all_columns" 21,rr "check_order" 22,rr "rows_by_place" 23,rr "first_seen" 24,rr "parts_seen" 25,rr "heads_seen" 26,rr "laid_row" 27,rr "laid_out" 28,rr "rows_laid_out" 29,rr "check_doubles" 30,rr "folded" 31,rr "cells_along" 32,rr "unfolded" 33,rr "turned" 35,rr "_law_cell_at" 37,rr "_law_box" 38,rr "_law_take" 39,rr "_law_many" 40,rr "_law_names" 41,rr "_law_value" 42,rr "_law_number" 43,rr "_law_pool" 44,rr "_law_tuples" 45,rr "_law_wide" 46,rr "_law_same" 47,rr "_law_long" 48,rr "_law_fold" 49,rr "_law_told" 50,rr "_law_parted_anew" 51,rr "_law_spoilt" 52,rr "law" 53])
 (hB:(["ValueError", "abs", "all", "bool", "enumerate", "int", "isinstance", "len", "list", "min", "range", "sorted", "str", "tuple", "zip"]:v4).all (A8h q loose [("rank" : Str),("risen" : Str),("place_of" : Str),("places_of" : Str),("values_at" : Str),("check_all_columns" : Str),("check_order" : Str),("rows_by_place" : Str),("first_seen" : Str),("parts_seen" : Str),("heads_seen" : Str),("laid_row" : Str),("laid_out" : Str),("rows_laid_out" : Str),("check_doubles" : Str),("folded" : Str),("cells_along" : Str),("unfolded" : Str),("turned" : Str),("_law_cell_at" : Str),("_law_box" : Str),("_law_take" : Str),("_law_many" : Str),("_law_names" : Str),("_law_value" : Str),("_law_number" : Str),("_law_pool" : Str),("_law_tuples" : Str),("_law_wide" : Str),("_law_same" : Str),("_law_long" : Str),("_law_fold" : Str),("_law_told" : Str),("_law_parted_anew" : Str),("_law_spoilt" : Str),("law" : Str)])=true)
 (hX:A5m tcT mg h)
 (hF:A3j xcR xcT xcV xcF h) :
 ∃(K:v9) (fd:u5),K.In h/\TabAt K h/\(∀(s:u_) (v:Value),BindsTo s fd ⟨[v],[]⟩ [("_law_script",v)])/\∀base:Heap,K.In base->base.Ns mainGlobals mg->FnOk l.prog w K mg base CX0 11 fa fd [lM] (A1s K):=by
 obtain⟨d34,m34,n34,p34⟩:=Aj5 hR (i:=35) rfl;obtain⟨yZ,T_law,hd_law,ht_law,hc_law⟩:=Bj0 T m34
 obtain⟨kin,tab,hcd,hK⟩:=B3g (h:=h) (tabs:=[(yZ,T_law,(("law" : Str) ++ ".<locals>." ++ "<lambda>"))]) (λt m=>by cases aQ.mp m;exact⟨hd_law,ht_law⟩) (λt m=>by cases aQ.mp m;simp)
 obtain⟨lc_law,lt_law⟩:=hcd _ (List.mem_singleton.mpr rfl)
 generalize Q8 h [(yZ,T_law,(("law" : Str) ++ ".<locals>." ++ "<lambda>"))]=K at *
 obtain⟨f1,fd1,F1,g1⟩:=Bt T hK hR (st:=Pg) (i:=2) rfl;have b1:=bi F1 ["table", "name"];obtain⟨f2,fd2,F2,g2⟩:=Bt T hK hR (st:=Nb) (i:=3) rfl;have b2:=bi F2 ["table", "names"];obtain⟨f3,fd3,F3,g3⟩:=Bt T hK hR (st:=Mq) (i:=4) rfl;have b3:=bi F3 ["row", "places"];obtain⟨f4,fd4,F4,g4⟩:=Bt T hK hR (st:=Fo) (i:=5) rfl;have b4:=bi F4 ["columns", "key", "names", "values"];obtain⟨f5,fd5,F5,g5⟩:=Bt T hK hR (st:=Ke) (i:=6) rfl;have b5:=bi F5 ["order"];obtain⟨f6,fd6,F6,g6⟩:=Bt T hK hR (st:=Hz) (i:=7) rfl;have b6:=bi F6 ["table", "key", "names"];obtain⟨f7,fd7,F7,g7⟩:=Bt T hK hR (st:=Lb) (i:=8) rfl;have b7:=bi F7 ["things"];obtain⟨f8,fd8,F8,g8⟩:=Bt T hK hR (st:=Le) (i:=9) rfl;have b8:=bi F8 ["groups"];obtain⟨f9,fd9,F9,g9⟩:=Bt T hK hR (st:=K7) (i:=10) rfl;have b9:=bi F9 ["groups", "order"];obtain⟨f10,fd10,F10,g10⟩:=Bt T hK hR (st:=Pq) (i:=11) rfl;have b10:=bi F10 ["part", "heads", "things", "gap"];obtain⟨f11,fd11,F11,g11⟩:=Bt T hK hR (st:=Qs) (i:=12) rfl;have b11:=bi F11 ["parts", "heads", "things", "gap"];obtain⟨f12,fd12,F12,g12⟩:=Bt T hK hR (st:=Ib) (i:=13) rfl;have b12:=bi F12 ["parts", "heads", "cells"];obtain⟨f13,fd13,F13,g13⟩:=Bt T hK hR (st:=Ik) (i:=14) rfl;have b13:=bi F13 ["groups"];obtain⟨f14,fd14,F14,g14⟩:=Bt T hK hR (st:=Wv) (i:=15) rfl;have b14:=bi F14 ["table", "key", "names", "values", "order"];obtain⟨f15,fd15,F15,g15⟩:=Bt T hK hR (st:=J7) (i:=16) rfl;have b15:=bi F15 ["wide"];obtain⟨f16,fd16,F16,g16⟩:=Bt T hK hR (st:=Qq) (i:=17) rfl;have b16:=bi F16 ["wide"];obtain⟨f17,fd17,F17,g17⟩:=Bt T hK hR (st:=Wy) (i:=18) rfl;have b17:=bi F17 ["wide", "key", "names"];obtain⟨f18,fd18,F18,g18⟩:=Bt T hK hR (st:=Mt) (i:=19) rfl;have b18:=bi F18 [lM, lS];obtain⟨f19,fd19,F19,g19⟩:=Bt T hK hR (st:=Ad8) (i:=20) rfl;have b19:=bi F19 [lM, lS];obtain⟨f20,fd20,F20,g20⟩:=Bt T hK hR (st:=X7) (i:=21) rfl;have b20:=bi F20 [lJ, lL];obtain⟨f21,fd21,F21,g21⟩:=Bt T hK hR (st:=Wl) (i:=22) rfl;have b21:=bi F21 [lJ, "_law_least", "_law_few", "_law_most"];obtain⟨f22,fd22,F22,g22⟩:=Bt T hK hR (st:=Sx) (i:=23) rfl;have b22:=bi F22 [lJ, lL];obtain⟨f23,fd23,F23,g23⟩:=Bt T hK hR (st:=T8) (i:=24) rfl;have b23:=bi F23 [lJ];obtain⟨f24,fd24,F24,g24⟩:=Bt T hK hR (st:=Pa) (i:=25) rfl;have b24:=bi F24 [lJ];obtain⟨f25,fd25,F25,g25⟩:=Bt T hK hR (st:=Vq) (i:=26) rfl;have b25:=bi F25 [lJ, lL];obtain⟨f26,fd26,F26,g26⟩:=Bt T hK hR (st:=Qg) (i:=27) rfl;have b26:=bi F26 [lJ, lK, lL];obtain⟨f27,fd27,F27,g27⟩:=Bt T hK hR (st:=V4) (i:=28) rfl;have b27:=bi F27 [lJ, "_law_numbers"];obtain⟨f28,fd28,F28,g28⟩:=Bt T hK hR (st:=Ru) (i:=29) rfl;have b28:=bi F28 [lQ, "_law_due"];obtain⟨f29,fd29,F29,g29⟩:=Bt T hK hR (st:=W8) (i:=30) rfl;have b29:=bi F29 [lK];obtain⟨f30,fd30,F30,g30⟩:=Bt T hK hR (st:=Wn) (i:=31) rfl;have b30:=bi F30 [lR, "_law_rows", lU, lN, "_law_values"];obtain⟨f31,fd31,F31,g31⟩:=Bt T hK hR (st:=V0) (i:=32) rfl;have b31:=bi F31 ["_law_call"];obtain⟨f32,fd32,F32,g32⟩:=Bt T hK hR (st:=Ih) (i:=33) rfl;have b32:=bi F32 [lJ, lK];obtain⟨f33,fd33,F33,g33⟩:=Bt T hK hR (st:=Qn) (i:=34) rfl;have b33:=bi F33 [lJ, lK, lU, lN];obtain⟨f34,fd34,F34,g34⟩:=Bt T hK hR (st:=Ba7) (i:=35) rfl;have b34:=bi F34 [lM]
 have ld_law:fd34.code=.ref yZ:=A6q F34 kin (by have z:d34.name = "law" := n34;rw[<- z];exact hc_law) g34
 have yI:=Di (x := "ValueError") T (Cp hR) hB (by simp)
 have yV:=Di (x := "abs") T (Cp hR) hB (by simp)
 have yG:=Di (x := "all") T (Cp hR) hB (by simp)
 have yE:=Di (x := "bool") T (Cp hR) hB (by simp)
 have yM:=Di (x := "enumerate") T (Cp hR) hB (by simp)
 have zU:=Di (x := "int") T (Cp hR) hB (by simp)
 have z8:=Di (x := "isinstance") T (Cp hR) hB (by simp)
 have z9:=Di (x := "len") T (Cp hR) hB (by simp)
 have zG:=Di (x := "list") T (Cp hR) hB (by simp)
 have yX:=Di (x := "min") T (Cp hR) hB (by simp)
 have zJ:=Di (x := "range") T (Cp hR) hB (by simp)
 have yN:=Di (x := "sorted") T (Cp hR) hB (by simp)
 have zZ:=Di (x := "str") T (Cp hR) hB (by simp)
 have z7:=Di (x := "tuple") T (Cp hR) hB (by simp)
 have zP:=Di (x := "zip") T (Cp hR) hB (by simp)
 have yR:=Bj7 hX hK (i:=0) (y := "ORDERS") (ss:=[Str.ofString "seen",Str.ofString "rising"]) rfl;obtain⟨qR,qT,w4,qF⟩:=Bq1 hF kin T.g hK;have x9:ClR K mg "BadColumns" := qR 0 _ rfl;have i9:ClT K mg [("BadColumns",true)] "BadColumns" := qT 0 _ rfl;have aA3:ClT K mg [("BadColumns",false)] "BadOrder" := qT 1 _ rfl;have j1:ClT K mg [("BadColumns",false)] "BadRow" := qT 2 _ rfl;have aA2:ClT K mg [("BadColumns",false)] "BadWay" := qT 3 _ rfl;have u3:ClT K mg [("BadColumns",false)] "Double" := qT 4 _ rfl;have y0:ClT K mg [("BadColumns",false)] "NoColumn" := qT 5 _ rfl;have z5:ClT K mg [("BadColumns",false)] "NoHead" := qT 6 _ rfl;have o3:ClT K mg [("BadColumns",false)] "NoNumber" := qT 7 _ rfl;have k8:ClT K mg [("BadColumns",false)] "NoPart" := qT 8 _ rfl;have q5:ClT K mg [("BadColumns",false)] "NoRow" := qT 9 _ rfl;have l7:ClF K mg ["BadColumns"] "FoldError" := qF 0 _ rfl;have e:=hfa.symm.trans g34
 cases e
 refine⟨K,fd34,kin,tab,A6y F34 (λkV dc pm an cd ct s v=>.of_eq rfl),λbase _ _=>?_⟩
 have M:∀{k f fd x ps sp},FnOk l.prog w K mg base CX0 k f fd ps sp->Binds K fd ps []->PySem.W.keepIn K (.ref f)=true->mg x=some (.ref f)->Def l.prog w K mg base x k ps sp:=mkD;have l6:=M (Aq2 F1 ) b1 F1.kp g1;have a8:=M (Ai2 F2 l6) b2 F2.kp g2;have a9:=M (Ae9 F3 z7) b3 F3.kp g3;have u8:=mkX (Mu (P:=l.prog) (w:=w) (mg:=mg) (base:=base) F4 yG z9 zG x9) b4 F4.kp g4;have aA0:=M (Wc F5 yR) b5 F5.kp g5;have n5:=M (S8 F6 a8 a9 yM) b6 F6.kp g6;have c9:=M (Yq F7 z7) b7 F7.kp g7;have n9:=M (Y4 F8 c9) b8 F8.kp g8;have aA4:=M (Yy F9 c9) b9 F9.kp g9;have k7:=M (An9 F10 z7) b10 F10.kp g10;have m8:=M (An5 F11 k7 z7) b11 F11.kp g11;have z4:=M (Ss F12 m8 z7 zP) b12 F12.kp g12;have l5:=M (Sh F13 z9) b13 F13.kp g13;have i7:=mkX (A3q (P:=l.prog) (w:=w) (mg:=mg) (base:=base) F14 a8 a9 u8 aA0 n5 n9 aA4 z4 l5 z7) b14 F14.kp g14;have i8:=M (Ww F15 zP) b15 F15.kp g15;have m9:=M (An4 F16 i8 z7) b16 F16.kp g16;have i5:=mkX (A5r (P:=l.prog) (w:=w) (mg:=mg) (base:=base) F17 i7 m9) b17 F17.kp g17;have l8:=M (Af3 F18 z9) b18 F18.kp g18;have w9:=M (Bc1 F19 l8 yV zU) b19 F19.kp g19;have a7:=M (A5s F20 ) b20 F20.kp g20;have h7:=M (A3n F21 a7) b21 F21.kp g21;have aA1:=M (Au6 F22 a7 z9 zJ) b22 F22.kp g22;have c8:=M (Aw6 F23 a7) b23 F23.kp g23;have m7:=M (Ak8 F24 a7) b24 F24.kp g24;have t9:=M (A3d F25 c8 zJ) b25 F25.kp g25;have i6:=M (Ar4 F26 a7 t9 z9 zJ z7) b26 F26.kp g26;have t4:=M (A6b F27 a7 h7 aA1 c8 m7 i6 z7) b27 F27.kp g27;have d6:Def l.prog w K mg base "_law_same" 9 [lQ, "_law_due"] (spP K (Bu 9)):=mkD (V8 F28 b28 g28 yG yE zU z8 z9 zG zZ z7 zP 9) b28 F28.kp g28;have x5:=M (A3s F29 zP) b29 F29.kp g29;have k6:=M (A4y F30 zU z7) b30 F30.kp g30;have u4:=A3l (P:=l.prog) (w:=w) (mg:=mg) (base:=base) F31 b31 g31 yI z8 z9 i9 aA3 j1 aA2 u3 y0 z5 o3 k8 q5 w4 l7;have n4:=M (T7 F32 a7 z9 zG) b32 F32.kp g32;have u7:=M (Ar9 F33 a7 z9 yN) b33 F33.kp g33
 exact(B1m F34 lt_law lc_law ld_law i5 w9 a7 t4 d6 x5 k6 u4 n4 u7 z9 zG yX zJ zZ z7).imp λvs H Q E h=>B0a hlaw h
theorem walk {l:PySem.W.OpenLaw}{q:u6}{loose:v4}{XP:(x_)->Heap->Prop}{YP:World->Heap->Prop}{d:DefRec}(hn:l.most=some 63)(hdf:d.params.defaults=[])
 (F:∀(w:World) (mean:ExcName->u9) (mg mb:x_) (fa:Addr) (h:Heap),PyProof.Rows.Top q (PySem.W.looseW q loose) mean mg mb h->XP mg h->mg d.name=some (.ref fa) ->
  ∃(K:v9) (fd:u5),K.In h/\TabAt K h/\(∀(s:u_) (u:Value),BindsTo s fd ⟨[u],[]⟩ [("_law_script",u)])/\∀base:Heap,K.In base->base.Ns mainGlobals mg->FnOk l.prog w K mg base CX0 11 fa fd [lM] (A1s K)) :
 PySem.W.WalkO q loose XP YP l.row.toRowW d [] (λf vs=>PySem.call f vs) :=
 L2.walk_ofX (n:=63) (k:=11) (x := "_law_script") (sp:=A1s) hn (by decide) hdf ⟨rfl,by decide,by decide,rfl⟩ F λ_ _ a ns hl hS=>⟨a,ns,rfl,hS,hl,λ_=>rfl⟩
end K
open PySem PySem.W PyProof.Rows
set_option maxHeartbeats 0
namespace K
noncomputable def dOf:Stmt->DefRec
 | .FunctionDef _ a b _ _ _ s _ _ p=>⟨"law",a,b,s,p⟩
 | _=>⟨"law",⟨[],[],none,[],[],none,[]⟩,[],default,default⟩
def dL:DefRec:=⟨"law",(dOf (top 53)).params,(dOf (top 53)).body,(dOf (top 53)).scope,(dOf (top 53)).pos⟩
theorem B3c:rwT.wellSaid=true:=by kernel_rfl
theorem B5m:defOf qT rwT.row.name=some (dL,[]):=by kernel_rfl
theorem B5s:rwT.row.prog.theDef rwT.row.name=some (dL.params,dL.body,dL.scope):=by trivial
theorem kwT:kwWritten? dL.params.kwonlyargs dL.params.kw_defaults=some []:=by trivial
theorem okT:(chainsOk qT&&opensWell rwT.row.prog&&(frees rwT.row.toRowW&&rwT.row.within.isEmpty))=true:=by trivial
theorem dfT:dL.params.defaults=[]:=by rfl
theorem B3a:rwT.row.prog.bare:=⟨rfl,rfl,rfl,rfl,rfl,by decide +kernel⟩
theorem B4a:rwT.row.toRowW.promised:=by w_witness2
end K
theorem PySem.Challenge.cw_pivotfold_k37_columns_turned_holds : PySem.Challenge.rw_pivotfold_k37_columns_turned.Holds := by
 refine holds_law K.B3c λsaid=>?_
 refine holds_open (q:=K.qT) (loose:=["ORDERS"]) (Xt:=K.xtT) (XP:=(λmg h=>L2.A5m K.tcT mg h/\L2.A3j K.xcR K.xcT K.xcV K.xcF h)) (Yf:=Hook.none.obs) (Ya:=Hook.none.val) (YP:=Hook.none.says) (N:=20000) K.B4l Hook.none.of Hook.none.keeps (λs e=>⟨L2.B3d (aA.mp (aA.mp e).1).2,L2.B2w (aA.mp e).2⟩) (λmg h h' x hk=>⟨L2.Bg6 mg h h' x.1 hk,L2.Be0 x.2 hk⟩) K.B5m K.B5s K.kwT (λs e=>recFacts_of (aA.mp (aA.mp (aA.mp e).1).1).2) rfl said K.okT K.B3a K.B4a ?_
 refine K.walk (l:=PySem.Challenge.rw_pivotfold_k37_columns_turned) rfl K.dfT ?F
 case F =>
  intro w mean mg mb fa h T X hmg
  refine K.B1g T hmg K.Bf1 ?R ?B X.1 X.2
  (case R=>kernel_rfl); (case B=>kernel_rfl)
end
