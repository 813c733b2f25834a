import PyProof.Rows.All
import PySem.Challenge.RW_pivotfold_k11_doubles_columns_and_orders
import KE.KSortTup
import KE.KDictOf
import KE.KIntText
import KE.KNestM
import KE.KFromBytes
import KE.KTryMore
import KE.KLam
import KE.KPairComp
import KE.KUnpack
import KE.KRevIter
import KE.KMinKey
set_option genInjectivity false
set_option genSizeOf false
set_option Elab.async false
set_option linter.all false
set_option maxRecDepth 100000
set_option compiler.extract_closed false
noncomputable section
open PySem renaming wpAny_bind→aj,wpAny_pure→ak,wpAny_mono→aH,wpAny_field→aW,wpAny_holding→bA,wpAny_call_entry→bO,wpAny_loadPart_at→bZ,wpAny_newObj_type→c7,wpAny_seqItems→cJ,wpAny_callSpecial?_slot→cM,wpAny_rule→cP,codeAny_builtin→cR,wpAny_standAt→cV,call_meets→cW,plainId_quiet→dg,wpAny_attempt→dh,wpAny_typeOf→dB,strLen_append→dF,wpAny_specialOf→dM,wpAny_isInstance→dN,wpAny_loadPart'→dW,wpAny_pyIter_tuple→dX,wpAny_letGo→dZ,wpAny_updateSeq→d_,wpAny_pyIter_list→eY,wpAny_setField_rec→e_,eqIsQuiet_byValue→fC,wpAny_call→fH,codeAny_mono→fK,isSubtype_stop→fU,wpAny_forIn_list→gf,wpAny_execs_nil→gm,wpAny_passesOwn→gw,wpAny_Call_Name_kw→gB,mem_of_lookup→gD,call_meetsIn→gF,wpAny_setField→gO,codeAny_call_builtin→gU,wpAny_isSubtype_exc→gV,wpAny_truthy_bool→iw,wpAny_execs_cons→iy,pushCells_keeps→iC,wpAny_onRaise→iI,wpAny_notOrdered_dict→iT,wpAny_raiseNew_none→iV,noFill_tuple_add→jb,wpAny_Call_method0_late→jg,evalArgs_none→jh,wpAny_updateSeq_pair→jn,wpAny_pyIter_slot→jB,wpAny_callSpecialIfBoundUnlessNone?_slot→jM
open List renaming length_map→ao,mem_cons→aD,mem_append_right→aF,map_cons→aJ,mem_singleton→aK,mem_map→aL,length_append→aM,length_cons→aR,mem_append→aY,all_eq_true→aZ,mem_cons_self→a_,lookup_cons→bc,mem_of_getElem?→bf,mem_cons_of_mem→bw,getElem?_eq_getElem→bC,length_set→bD,mem_append_left→bG,getElem?_eq_some_iff→bH,not_mem_nil→bI,zip_cons_cons→bM,getElem?_set_ne→bQ,nodup_cons→bR,getElem?_map→bV,getElem?_set_self→b_,map_append→cj,size_toArray→cA,append_nil→cG,nodup_nil→cX,length_nil→cY,nodup_append→dm,getElem?_append_left→dw,getElem?_append_right→dz,map_map→dH,getElem?_cons_succ→dI,append_assoc→dJ,nil_append→eG,forIn_cons→eV,mem_filterMap→fG,map_nil→fW,filterMap_cons→gj,length_take→gC,length_singleton→gH,take_length→gK,forIn_nil→gP,contains_cons→gR,drop_zero→gW,getElem?_eq_none→gZ,mem_range→ir,eraseIdx_cons_succ→iz,getElem_mem→iD,zip_nil_left→iG,drop_length→i_,length_replicate→j0,length_zip→j4,map_take→j6,length_drop→jf,countP_cons→jq,map_snd_zip→jr,getElem_map→jD,dropLast_eq_take→jF,filter_append→jJ
open Nat renaming le_trans→aq,le_refl→au,lt_of_lt_of_le→aP,ne_of_lt→aQ,zero_le→aU,zero_add→bh,lt_irrefl→bj,ne_of_gt→bT,lt_of_le_of_lt→cH,sub_self→dq,le_succ→dC,add_le_add_left→dO,lt_succ_self→dU,lt_succ_of_lt→eX,sub_zero→fc,add_assoc→fB,le_of_eq→fP,le_add_right→fY,le_of_succ_le→gG,min_self→gQ,le_of_lt→iu,le_of_not_lt→jl,lt_of_succ_lt_succ→jG,mul_le_mul_left→jH
open Bool renaming and_eq_true_iff→az,false_ne_true→bL,false_eq_true→cD,and_eq_true→cN,true_and→j5,not_eq_true'→jx,or_eq_true_iff→jE
open PySem.Heap renaming lt_size→aA,get?_push_of_some→aB,get?_push_size→aG,get?_update_other→bK,get?_update_self→bU,size_push→bW,get?_none_of_le→gk
open Ne renaming symm→aC
open Option renaming map_eq_some_iff→aO,bind_eq_some_iff→bY,map_some→fu,bind_some→fX,isSome_iff_exists→j9
open PySem.Heap.SameBut renaming update→bN
open Option.some renaming inj→cz
open LawfulBEq renaming eq_of_beq→cQ
open PySem.Around renaming under_plainId→cZ
open PySem.Obj renaming data_mapFields→dD,isFreed_of_fields→eZ,cls_mapFields→iH
open PySem.W renaming looks_findIn→dG
open PySem.Calls renaming callWith_builtin→dR,spliced_cons→eO,evalArgs_plain→eQ,spliced_nil→gA
open PySem.F renaming plainAttrs_list→dY,plain_min_loop→fV,plain_extend_loop→gY,slot_NoneType_hash→ig,slot_tuple_hash→il,plainAttrs_dict→iB,slot_zip_next→iM,excAttr_ValueError→iR,slot_dict_keyiterator_next→iU,slot_dict_itemiterator_next→iW,plain_list_iadd→iY,slot_dict_valueiterator_next→iZ,slot_tuple_add→jc,entry_tuple_add→jd,args_tuple_add_2→je,slot_dict_get→jk,args_object_init_2→jo,excBase_ValueError→jt,typeOf_object_class→ju,plainAttrs_tuple→jy,slot_tuple_index→jz,type_tuple_index→jA,slot_list_pop→jK,type_list_pop→jL,entry_dict_keyiterator_next→jP,args_dict_keyiterator_next_1→jQ,entry_dict_itemiterator_next→jR,args_dict_itemiterator_next_1→jT,entry_dict_valueiterator_next→jU,args_dict_valueiterator_next_1→jV
open PySem.Paired renaming length→eN
open PySem.PassesOwn renaming never→fj
open PyProof.Rows renaming callWith_type1→fD,slot_tuple_getitem→fM,listUpdate_at→iK,assignInOrder_cons→j7,callWith_builtin1→jN
open Array renaming length_toList→fL,getElem?_toList→fO,forIn_toList→fZ,getElem?_eq_some_iff→iQ,mem_toList_iff→j8,getElem?_eq_getElem→jC
open PySem.SeqAt renaming eqAt_reads→gh
open Int renaming toNat_natCast→gM,eq_ofNat_of_zero_le→h_
open Nat.succ renaming inj→g_
open PySem.AutoSeq1 renaming wpAny_loadPart'→iJ
open PySem.IsL renaming update→ji
open PyProof.Rows.F renaming plain_set_update_loop→jm,entry_set_update_loop→jO
open PySem.Code renaming quiet_builtin→jw
section
open PySem
abbrev t6:=Shared
abbrev t_:=PyData
abbrev q9:=Around
abbrev u9:=Program
abbrev v4:=List Str
abbrev u6:=FuncData
abbrev v6:=List Addr
abbrev v_:=List Expr
abbrev w6:=List Value
abbrev q_:=Option Int
abbrev w5:=List t_
abbrev v7:=Array Value
abbrev v9:=PySem.W.Frag
abbrev u_:=Option Value
abbrev p_:=List (Nat×Nat)
abbrev o5:=Nat->v6
abbrev y_:=List (Addr×Obj)
abbrev v8:=Array DictEntry
abbrev x_:=Str->u_
abbrev o4:=List (Option Nat)
abbrev z_:=Value->t6->Prop
end
section
open PySem PySem.Spec PyProof.Rows PySem.W PySem.Calls PySem.MeetsSeq PySem.MeetsSeq2 PySem.MeetsSeq3 PySem.SeqAt
abbrev aN:=@decide_eq_true
abbrev aV:=@decide_eq_false
abbrev aX:=@of_decide_eq_true
abbrev bB:=@if_false
abbrev bJ:=@or_false
abbrev cu:=@congrArg
abbrev cB:=@if_true
abbrev cL:=@beq_iff_eq
abbrev cT:=@true_and
abbrev cU:=@not_false_eq_true
abbrev eU:=@beq_eq_false_iff_ne
abbrev fQ:=@decide_eq_true_eq
abbrev ie:=@beq_self_eq_true
end
namespace L2
open PySem PySem.Spec PyProof.Rows PySem.W
noncomputable abbrev bmV:w6:=[.type "ValueError",.type "Exception",.type "BaseException",.type "object"]
def Wj (K:v9)(C:Addr):Bool:=match K.lookup C with
 | some ⟨.type "type",_,.cls cd,sl⟩=>cd.hasDict&&!cd.hasDel&&(match cd.mro with
  | .ref A::bm=>A==C&&tailIn K bmV bm
  | _=>false)&&(match sl.toList with
  | [_,_,_,_,some (.builtin n),_]=>n == "ValueError.__new__"
  | _=>false)
 | _=>false
noncomputable def noI (K:v9) (C:Addr):Bool:=match K.lookup C with
 | some o=>(match o.data with
  | .cls cd=>nsOkIn K cd.ns&&nsIn K cd.ns "__init__" == some none
  | _=>false)
 | none=>false
def exP (K:v9)(C:Addr):Bool:=Wj K C&&noI K C
noncomputable def Sd:v4->w6->Bool
 | [],[]=>true
 | s::ss,.str z _::us=>s==z&&Sd ss us
 | _,_=>false
def A6i (h:Heap)(q:Str×v4):Bool:=match h.nsMap mainGlobals q.1 with
 | some (.ref a)=>match h.get? a with
  | some o=>match o.cls,o.data with
   | .type c,.seq its _=>c == "tuple" && decide (its.size<=sizeLine)&&Sd q.2 its.toList
   | _,_=>false
  | none=>false
 | _=>false
def xcB (K:Frag)(C:Addr):Bool:=Wj K C&&(findIn K (.ref C) "__getattribute__" == some (some (.builtin "BaseException.__getattribute__"))&&(findIn K (.ref C) "__getattr__" == some none&&findIn K (.ref C) "__class__" == some (some (.builtin "object.__class__"))))
noncomputable def clB (K:Frag) (x:Str) (p:Addr->Bool):Bool:=match nsIn K mainGlobals x with
 | some (some (.ref C))=>p C
 | _=>false
def tbB (K:Frag)(z:Value)(tbl:List (Str×Bool)):Bool:=tbl.all λp=>clB K p.1 λC=>xcB K C&&kitOne K (.ref C) z==some p.2
def exB (K:Frag)(F:Addr)(NS:v4):Bool:=NS.all λx=>clB K x λC=>exmOne K (.ref C) (.ref F)==some true
noncomputable def Bv2 (o:Obj):Bool:=match o.data with
 | .cls _=>true
 | .dict _ _=>true
 | _=>false
def Bo2 (l:List Nat)(h:Heap):Frag:=l.filterMap λa=>((h.get? a).bind λo=>if Bv2 o=true then some o else none).map λo=>(a,o)
def cfB (R:v4)(T:List (Str×List (Str×Bool)))(V:List (Str×Bool))(F:v4)(K:Frag):Bool :=
 (R.all λx=>clB K x λC=>exP K C)&&((T.all λq=>clB K q.1 λC=>tbB K (.ref C) q.2)&&(tbB K (.type "ValueError") V&&F.all λx=>clB K x λC=>exB K C R))
noncomputable def isNm (x:Str):Expr->Bool
 | .Name y _=>y==x
 | _=>false
def isAt (x f:Str):Expr->Bool
 | .Attribute e g _=>isNm x e&&g==f
 | _=>false
noncomputable def Ba7 (x:Str):Expr->Bool
 | .Constant c _ _=>c==.str x
 | _=>false
def Bg1 (x:Str):Expr->Bool
 | .FormattedValue e c none _=>isNm x e&&c==114
 | _=>false
def Bb0 (x y z:Str):Expr->Bool
 | .JoinedStr [a,b] _=>Ba7 y a&&Bg1 x b
 | .JoinedStr [a,b,c] _=>Ba7 y a&&Bg1 x b&&Ba7 z c
 | _=>false
noncomputable def stE:Stmt->Option (Expr×v_)
 | .Expr (.Call (.Attribute g m q) as [] p) _=>if (m == "__init__" && q.endLine==p.line)=true then some (g,as) else none
 | _=>none
noncomputable def stA:Stmt->Option (Expr×Expr)
 | .Assign [g] v _=>some (g,v)
 | _=>none
def B1y (F p f y z:Str):List Stmt->Bool
 | [s,u]=>(match stE s with
  | some (g,[a,j])=>isNm F g&&(isNm "self" a&&Bb0 p y z j)
  | _=>false)&&(match stA u with
  | some (g,v)=>isAt "self" f g&&isNm p v
  | _=>false)
 | _=>false
noncomputable def B1s (p:Str):Arguments->Bool
 | ⟨[],[a,b],none,[],[],none,[]⟩=>a.arg == "self" && b.arg==p
 | _=>false
structure Iw where
 q:Str
 F:Str
 p:Str
 f:Str
 y:Str
 z:Str
noncomputable def B4k (D:Iw) (sc:Scope):Bool:=decide (sc.kind=.function)&&(!sc.isCoroutine&&(!sc.isGenerator&&(sc.names.lookup ("self" : Str)==some .local&&(sc.names.lookup D.p==some .local&&(sc.names.lookup D.F==some .globalImplicit&&sc.names.all λy=>y.2 != .free)))))
def fnB (K:Frag)(D:Iw)(fd:u6):Bool:=fd.qualname==D.q&&(fd.globals==mainGlobals&&(fd.closure.isEmpty&&(fd.builtins==builtinsNs&&(fd.defaults==.none&&(codeIn K fd.code D.q&&(B1s D.p fd.params&&(B4k D fd.scope&&(match fd.body with
 | .stmts b=>B1y D.F D.p D.f D.y D.z b
 | _=>false))))))))
def Xq (K:Frag)(D:Iw)(a:Addr):Bool:=match K.lookup a with
 | some ⟨.type "function",_,.func fd,_⟩=>fnB K D fd
 | _=>false
noncomputable def Ak2 (D:Iw):Bool:=decide (D.y.length<=1000)&&(decide (D.z.length<=1000)&&(D.p != "self" && ((D.p==("__debug__" : Str))==false&&((D.p==("__classdict__" : Str))==false&&(D.F==("__debug__" : Str))==false))))
def ikB (K:Frag)(C F:Addr)(f:Str):Bool:=Wj K C&&(findIn K (.ref C) "__setattr__" == some (some (.builtin "object.__setattr__"))&&(findIn K (.ref C) f==some none&&(typeIn K (.ref F)==some (.type "type")&&(nsIn K cStatics "thirdparty.any" == some none&&findIn K (.ref F) "__init__" == some (some (.builtin "ValueError.__init__"))))))
def ciB (K:Frag)(x:Str)(D:Iw):Bool:=Ak2 D&&clB K x λC=>clB K D.F λF=>xcB K C&&ikB K C F D.f&&(match findIn K (.ref C) "__init__" with
 | some (some (.ref a))=>Xq K D a
 | _=>false)
def exN (K:Frag)(F:Addr)(NS:v4):Bool:=NS.all λx=>clB K x λC=>exmOne K (.ref C) (.ref F)==some false
noncomputable def B0b (o:Obj):Bool:=match o.data with
 | .cell _=>false
 | .fields vs=>vs.size != 0
 | _=>true
def Bm8 (l:List Nat)(h:Heap):Frag:=l.filterMap λa=>((h.get? a).bind λo=>if B0b o=true then some o else none).map λo=>(a,o)
def ciA (J:List (Str×Iw))(Y:List (Str×List Str×v4))(K:Frag):Bool:=(J.all λq=>ciB K q.1 q.2)&&Y.all λq=>clB K q.1 λF=>exB K F q.2.1&&exN K F q.2.2
noncomputable def Bf4 (tb:String->Option Builtin) (p:u9) (w:World) (n₀:Nat) (ann:u_):Nat->SharedT->Thread->Option SharedT
 | 0,_,_=>none
 | n+1,s,t=>match through t with
  | true=>some s
  | false=>match stepOk n₀ ann t with
   | false=>none
   | true=>match stepT (denote tb) p w s t with
    | some (s',t')=>Bf4 tb p w n₀ ann n s' t'
    | none=>none
theorem Av3 {tb:String->Option Builtin}{p:u9}{w:World}{n₀:Nat}{ann:u_}:∀{n:Nat}{s s':SharedT}{t:Thread},Bf4 tb p w n₀ ann n s t=some s'->topRun tb p w n₀ ann n s.abs t=some s'.abs
 | 0,_,_,_,h=>nomatch h
 | n+1,s,s',t,h=>by
  unfold Bf4 at h;unfold topRun
  cases he:through t with
  | true=>rw[he]at h;cases h;rfl
  | false =>
   rw[he]at h
   cases hk:stepOk n₀ ann t with
   | false=>rw[hk]at h;cases h
   | true =>
    rw[hk]at h
    cases hs:stepT (denote tb) p w s t with
    | none=>rw[hs]at h;cases h
    | some r=>obtain⟨s₂,t₂⟩:=r;rw[hs]at h;dsimp only;rw[stepT_spec hs];exact Av3 h
noncomputable def A1t:List Obj->BT->Nat->Option (BT×Nat)
 | [],t,n=>some (t,n)
 | o::os,t,n=>match ((t.ins n o).get n).isSome with
  | true=>A1t os (t.ins n o) (n+1)
  | false=>none
theorem Av0 {life:Life}:∀{os:List Obj}{t t':BT}{n n':Nat},A1t os t n=some (t',n')->(absHeap t' n' life).objs.toList=(absHeap t n life).objs.toList++os
 | [],_,_,_,_,h=>by cases h;exact(cG _).symm
 | o::os,t,t',n,n',h=>by
  unfold A1t at h
  cases g:((t.ins n o).get n).isSome with
  | false=>rw[g]at h;cases h
  | true =>
   rw[g]at h;rw[Av0 h,absHeap_ins g]
   show ((absHeap t n life).objs.push o).toList++os=_
   rw[Array.toList_push,dJ];rfl
theorem A1i {h:Heap}{t:BT}{n:Nat}(e:A1t h.objs.toList .nil 0=some (t,n)):absHeap t n h.life=h:=by
 have:=Av0 (life:=h.life) e;obtain⟨os,l⟩:=h
 show Heap.mk _ _=_
 exact cu (Heap.mk · l) (Array.toList_inj.mp (this.trans (eG _)))
def Bx5 (p:u9)(w:World)(N:Nat)(os:OsState):Option t6 :=
 match (boot_heap w.params).isNs mainGlobals with
 | false=>none
 | true=>match A1t (boot_heap w.params).objs.toList .nil 0 with
  | none=>none
  | some (T,n)=>match Bf4 treeTable p w (boot_heap w.params).objs.size ((boot_heap w.params).nsMap mainGlobals "__annotations__") N ⟨T,n,(boot_heap w.params).life,#[],boot_drawn,boot_toks,os⟩ (topStub p) with
   | none=>none
   | some s=>match staticsOk (importedModules p.main.body) (boot_heap w.params) s.abs.heap&&namesBound p s.abs.heap&&gensDone s.abs&&laidKept (boot_heap w.params) s.abs.heap with
    | true=>some s.abs
    | false=>none
theorem Bf0 {p:u9}{w:World}{N:Nat}{os:OsState}{s:t6}(h:Bx5 p w N os=some s):topFrom treeTable p w N ⟨boot_heap w.params,#[],boot_drawn,boot_toks,os⟩=some s:=by
 unfold Bx5 at h;unfold topFrom
 cases a:(boot_heap w.params).isNs mainGlobals with
 | false=>rw[a]at h;cases h
 | true =>
  rw[a]at h
  cases b:A1t (boot_heap w.params).objs.toList .nil 0 with
  | none=>rw[b]at h;cases h
  | some r =>
   obtain⟨T,n⟩:=r;rw[b]at h
   dsimp only at h
   split at h
   ·cases h
   ·rename_i s₁ c
    have d:=Av3 c
    have e:(⟨T,n,(boot_heap w.params).life,#[],boot_drawn,boot_toks,os⟩:SharedT).abs=⟨boot_heap w.params,#[],boot_drawn,boot_toks,os⟩:=by
     show Shared.mk _ _ _ _ _=_
     rw[A1i b]
    rw[e]at d
    show (match true&&true with | true=>_ | false=>none)=_
    dsimp only[Bool.and_self]
    rw[d];exact h
theorem A2n {p q:u9}{loose:v4}{Xt:t6->Bool}{α:Type}{Yf:t6->α}{Ya:World->α}{N:Nat}{g0:Bool}
 (ho:opening p=plainProg p.main.scope.names) (hN:Nat.ble 600 N=true) (hf:∀s,fenceModules? p s=some s)
 (h:∀w os,(Bx5 p w N os).map (λs=>(openSeen q loose (importedModules p.main.body) Xt g0 s,Yf s))=some (openGood q loose,Ya w)):LeftO p q loose Xt Yf Ya N g0:=λw=>by
 obtain⟨s₀,a,b⟩:=aO.mp (boot_open ho hN hf w);obtain⟨hp,gn,dr,tk,os⟩:=s₀;obtain⟨b1,b⟩:=Prod.mk.inj b;obtain⟨b2,b⟩:=Prod.mk.inj b;obtain⟨b3,b4⟩:=Prod.mk.inj b
 cases b1;cases b2;cases b3;cases b4
 obtain⟨s,c,d⟩:=aO.mp (h w os);unfold openEnds;rw[a]
 show (topFrom treeTable p w N ⟨boot_heap w.params,#[],boot_drawn,boot_toks,os⟩).map _=_
 rw[Bf0 c,fu,d]
end L2
namespace K
open PySem PySem.W PyProof.Rows
noncomputable def tcT:List (Str×v4):=[("ORDERS",[Str.ofString "seen",Str.ofString "rising"])]
noncomputable def xcR:v4:=["BadColumns", "BadOrder"]
abbrev xT0:List (Str×Bool):=[("BadColumns",false),("BadOrder",false),("Double",false)]
abbrev xT1:List (Str×Bool):=[("BadColumns",true),("BadOrder",false),("Double",false)]
abbrev xT2:List (Str×Bool):=[("BadColumns",false),("BadOrder",true),("Double",false)]
abbrev xT3:List (Str×Bool):=[("BadColumns",false),("BadOrder",false),("Double",true)]
abbrev xT4:List (Str×Bool):=[("BadColumns",true),("BadOrder",true),("Double",true)]
noncomputable def xcT:List (Str×List (Str×Bool)):=[("BadColumns",xT1),("BadOrder",xT2),("BadRow",xT0),("BadWay",xT0),("Double",xT3),("NoColumn",xT0),("NoHead",xT0),("NoNumber",xT0),("NoPart",xT0),("NoRow",xT0)]
noncomputable def xcV:List (Str×Bool):=xT4
noncomputable def xcF:v4:=[]
noncomputable def xcJ:List (Str×L2.Iw):=[("Double",⟨"Double.__init__", "FoldError", "rows", "rows", "rows ", " agree in key and names"⟩)]
noncomputable def xcY:List (Str×List Str×v4):=[("FoldError",["BadColumns", "BadOrder", "Double"],[])]
abbrev pwT:=PySem.Challenge.pw_pivotfold_k11_doubles_columns_and_orders
abbrev rwT:=PySem.Challenge.rw_pivotfold_k11_doubles_columns_and_orders
noncomputable def B4i:Stmt->Bool
 | .Assign [.Name n _] _ _=>!(["__name__", "ORDERS"]:v4).contains n
 | _=>true
def qT:u9:={ pwT with main:={ pwT.main with body:=pwT.main.body.filter B4i } }
abbrev xtT:t6->Bool:=λs=>xlAt qT [] s&&recOk (RowW.records rwT.row.toRowW) s&&tcT.all (L2.A6i s.heap)&&L2.cfB xcR xcT xcV xcF (L2.Bo2 [3,37,36,24,23,49,48,147,146,166,61,128,97,73,85,109] s.heap)&&L2.ciA xcJ xcY (L2.Bm8 [2,3,147,146,24,23,37,36,49,48,144,143] s.heap)
theorem hoT:opening rwT.row.prog=plainProg rwT.row.prog.main.scope.names:=by kernel_rfl
theorem hfT:∀s,fenceModules? rwT.row.prog s=some s:=λs=>by kernel_rfl
set_option maxHeartbeats 0 in
theorem B4s:LeftO rwT.row.prog qT ["ORDERS"] xtT Hook.none.obs Hook.none.val 20000:=L2.A2n hoT rfl hfT λw os=>by kernel_rfl
end K
namespace L2
open PySem PySem.Spec PyProof.Rows
abbrev Key:=Sum Int Str
noncomputable def Uw:Key->Value->Bool
 | .inl k,v=>Value.isInt k v
 | .inr x,v=>Value.isStrOf x v
noncomputable def By4 (w:World):Key->Int
 | .inl k=>hashInt k
 | .inr x=>hashStr w x
theorem Df:∀{k:Key}{v:Value},Uw k v=true->(∃i t,k=Sum.inl i/\v=Value.int i t)\/(∃x t,k=Sum.inr x/\v=Value.str x t)
 | .inl i,v,h=>by
  obtain⟨t,e⟩:=Value.isInt_shape (k:=i) (v:=v) h;exact .inl ⟨i,t,rfl,e⟩
 | .inr x,v,h=>by
  obtain⟨t,e⟩:=Value.isStrOf_shape (x:=x) (v:=v) h;exact .inr ⟨x,t,rfl,e⟩
theorem A2k (i:Int)(t:Tok):Uw (.inl i) (.int i t)=true:=by simp[Uw,Value.isInt]
theorem A3m (x:Str)(t:Tok):Uw (.inr x) (.str x t)=true:=by simp[Uw,Value.isStrOf]
theorem B0h (a b:Int):decide ((Sum.inl a:Key)=Sum.inl b)=(a==b):=by
 grind
theorem B1z (a b:Str):decide ((Sum.inr a:Key)=Sum.inr b)=decide (a=b):=by
 grind
theorem B1n (a:Int)(b:Str):decide ((Sum.inl a:Key)=Sum.inr b)=false:=aV λq=>nomatch q
theorem B0l (a:Str)(b:Int):decide ((Sum.inr a:Key)=Sum.inl b)=false:=aV λq=>nomatch q
def Dg (prog:u9)(w:World):PySem.KeyKind prog w Key where
 is:=Uw
 hash:=By4 w
 inj:=λv a b ha hb=>by
  rcases Df ha with ⟨i,t,rfl,rfl⟩ | ⟨x,t,rfl,rfl⟩
  ·rcases Df hb with ⟨j,u,rfl,e⟩ | ⟨y,u,rfl,e⟩
   ·injection e with e1 _;rw[e1]
   ·exact nomatch e
  ·rcases Df hb with ⟨j,u,rfl,e⟩ | ⟨y,u,rfl,e⟩
   ·exact nomatch e
   ·injection e with e1 _;rw[e1]
 byValue:=λk v h=>by
  rcases Df h with ⟨i,t,rfl,rfl⟩ | ⟨x,t,rfl,rfl⟩ <;> rfl
 pyHash:=λhv h=>by
  rcases Df hv with ⟨i,t,rfl,rfl⟩ | ⟨x,t,rfl,rfl⟩
  ·exact wpAny_pyHash_int h
  ·exact wpAny_pyHash_str h
 eqBool:=λhu hv h=>by
  rcases Df hu with ⟨i,t,rfl,rfl⟩ | ⟨x,t,rfl,rfl⟩
  ·rcases Df hv with ⟨j,u,rfl,rfl⟩ | ⟨y,u,rfl,rfl⟩
   ·rw[B0h]at h;exact wpAny_eqBool_int h
   ·rw[B1n]at h;exact SeqAt.EqAt.int_str i t y u _ _ _ _ h
  ·rcases Df hv with ⟨j,u,rfl,rfl⟩ | ⟨y,u,rfl,rfl⟩
   ·rw[B0l]at h;exact SeqAt.EqAt.str_int x t j u _ _ _ _ h
   ·rw[B1z]at h;exact wpAny_eqBool_str h
 «strs»:=λk x t v h=>by
  rcases Df h with ⟨i,u,rfl,e⟩ | ⟨y,u,rfl,e⟩
  ·exact nomatch e
  ·injection e with e1 _
   subst e1
   cases v <;> rfl
theorem Ln (prog:u9)(w:World)(i:Int)(t:Tok):(Dg prog w).is (.inl i) (.int i t)=true:=A2k i t
theorem Lb (prog:u9)(w:World)(x:Str)(t:Tok):(Dg prog w).is (.inr x) (.str x t)=true:=A3m x t
noncomputable instance B6t:DecidableEq t_:=λa b=>Classical.propDecidable (a=b)
mutual
noncomputable def keyB:t_->Bool
 | .none=>true
 | .int _=>true
 | .str _=>true
 | .tuple ds=>Ew ds
 | _=>false
noncomputable def Ew:w5->Bool
 | []=>true
 | d::ds=>keyB d&&Ew ds
end
mutual
theorem Ir:∀(x y:t_),keyB x=true->keyB y=true->(PyData.eqv x y=true↔x=y)
 | .none,y,_,hy=>by cases y <;> simp_all [PyData.eqv,keyB]
 | .int _,y,_,hy=>by cases y <;> simp_all [PyData.eqv,keyB]
 | .str _,y,_,hy=>by cases y <;> simp_all [PyData.eqv,keyB]
 | .tuple xs,.tuple ys,hx,hy=>by
  have:=Ae7 xs ys hx hy
  show PyData.eqvAll xs ys=true↔_
  rw[this]
  exact⟨λe=>by rw[e],λe=>by cases e;rfl⟩
 | .tuple xs,.none,hx,hy=>⟨(λe=>nomatch e),λe=>nomatch e⟩
 | .tuple xs,.int _,hx,hy=>⟨(λe=>nomatch e),λe=>nomatch e⟩
 | .tuple xs,.str _,hx,hy=>⟨(λe=>nomatch e),λe=>nomatch e⟩
theorem Ae7:∀(xs ys:w5),Ew xs=true->Ew ys=true->(PyData.eqvAll xs ys=true↔xs=ys)
 | [],[],_,_=>⟨λ_=>rfl,λ_=>rfl⟩
 | [],_::_,_,_=>⟨(λe=>nomatch e),λe=>nomatch e⟩
 | _::_,[],_,_=>⟨(λe=>nomatch e),λe=>nomatch e⟩
 | x::xs,y::ys,hx,hy=>by
  obtain⟨a,b⟩:=az.mp (show (keyB x&&Ew xs)=true from hx)
  obtain⟨c,d⟩:=az.mp (show (keyB y&&Ew ys)=true from hy)
  show (PyData.eqv x y&&PyData.eqvAll xs ys)=true↔_
  rw[az,Ir x y a c,Ae7 xs ys b d,List.cons.injEq]
end
mutual
theorem Vu {h h':Heap}{d:Addr}{o:Obj}{es:v8}{ep:Nat}(ho:h.get? d=some o)(hd:o.data=.dict es ep)(hs:Heap.SameBut d h h'):∀(k:t_),keyB k=true->∀(v:Value) (as:v6),Reads h v k as->Reads h' v k as
 | .none,_,_,_,r=>by cases r;exact .none
 | .int i,_,_,_,r=>by cases r;exact .int _ _
 | .str x,_,_,_,r=>by cases r;exact .str _ _
 | .tuple ds,hk,_,_,r=>by
  cases r with
  | @tuple a o' vs n xs as h1 h2 h3 h4 =>
   refine .tuple ((hs.2 a ?_).trans h1) h2 h3 (Ro ho hd hs ds hk _ _ h4)
   intro e;rw[e,ho]at h1;cases h1;rw[hd]at h3;cases h3
theorem Ro {h h':Heap}{d:Addr}{o:Obj}{es:v8}{ep:Nat}(ho:h.get? d=some o)(hd:o.data=.dict es ep)(hs:Heap.SameBut d h h'):∀(ks:w5),Ew ks=true->∀(vs:w6) (as:v6),ReadsAll h vs ks as->ReadsAll h' vs ks as
 | [],_,_,_,r=>by cases r;exact .nil
 | k::ks,hk,_,_,r=>by
  obtain⟨a,b⟩:=az.mp (show (keyB k&&Ew ks)=true from hk)
  cases r with
  | cons r1 r2=>exact .cons (Vu ho hd hs k a _ _ r1) (Ro ho hd hs ks b _ _ r2)
end
mutual
def Ag4 (w:World):t_->Int
 | .none=>hashInt 0xFCA86420
 | .int i=>By4 w (.inl i)
 | .str x=>By4 w (.inr x)
 | .tuple ds=>reduceHash (Builtin.Tuple.tupleHashOf (Km w ds))
 | _=>0
def Km (w:World):w5->List Int
 | []=>[]
 | d::ds=>Ag4 w d::Km w ds
end
mutual
noncomputable def Vk:t_->Nat
 | .tuple ds=>K8 ds+1
 | _=>1
noncomputable def K8:w5->Nat
 | []=>0
 | d::ds=>Vk d+K8 ds
end
section
variable {prog:u9}{w:World}
theorem Xg (h:Q (hashInt 0xFCA86420) { s with toks:=s.toks+1 }):wpAny (model prog w) A (pyHash .none) Q E s:=by
 have a:s.TypeIs Value.none "NoneType" := rfl;unfold pyHash
 first | unfold pyHashByItsType | skip
 have b:[Value.none].any Value.onHeap=false:=rfl
 refine aj ?_
 rw[cRoomFor,if_neg (by rw[b];exact bL)];refine ak ?_
 refine aj (dM a ig.lookup ?_)
 show wpAny _ _ (if (some (Value.builtin "NoneType.__hash__")==some Value.none)=true then _ else _) Q E s
 rw[if_neg (by rw[beq_builtin_none];exact bL)]
 refine aj (dM a ig.lookup ?_)
 show wpAny _ _ (callSpecialIfBoundUnlessNone? .none "__hash__" _ >>= _) Q E s
 refine aj (jM a ig
  (bO ig a F.entry_NoneType_hash
   (show wpAny _ _ (do ret (<- mkInt _)) _ _ s from wpAny_ret_mkInt ?_) (F.args_NoneType_hash_1 _)))
 exact ak h
theorem Az5:∀(n:Nat) (d:t_),d.depth<=n->keyB d=true->∀(A:q9) (E:z_) (s:t6) (v:Value) (y:v6) (Q:Int->t6->Prop),A.units+n<cLine->Reads s.heap v d y ->
 Q (Ag4 w d) { s with toks:=s.toks+Vk d }->wpAny (model prog w) A (pyHash v) Q E s:=by
 intro n
 induction n with
 | zero =>
  intro d M j A E s v y Q C r h
  cases r with
  | none=>exact Xg h
  | int i t=>exact(Dg prog w).pyHash (k:=.inl i) (v:=.int i t) (Ln prog w i t) h
  | str x t=>exact(Dg prog w).pyHash (k:=.inr x) (v:=.str x t) (Lb prog w x t) h
  | tuple=>exact absurd M (by simp[PyData.depth])
  | bool b=>cases j
  | list=>cases j
  | dict=>cases j
 | succ n Y =>
  intro d M j A E s v y Q C r h
  cases r with
  | none=>exact Xg h
  | int i t=>exact(Dg prog w).pyHash (k:=.inl i) (v:=.int i t) (Ln prog w i t) h
  | str x t=>exact(Dg prog w).pyHash (k:=.inr x) (v:=.str x t) (Lb prog w x t) h
  | bool b=>cases j
  | list=>cases j
  | dict=>cases j
  | @tuple a o N n' g y R hc J U =>
   have G:s.TypeIs (.ref a) "tuple" := ⟨o,R,hc⟩
   have H:PyData.depthAll g<=n:=Nat.le_of_succ_le_succ (show PyData.depthAll g+1<=n+1 from M)
   have I:Ew g=true:=j;unfold pyHash
   first | unfold pyHashByItsType | skip
   first | refine aj (wpAny_cRoomFor_or (.inr (cH (fY _ _) C)) ?_) | skip
   refine aj (dM G il.lookup ?_)
   show wpAny _ _ (if (some (Value.builtin "tuple.__hash__")==some Value.none)=true then _ else _) Q E s
   rw[if_neg (by rw[beq_builtin_none];exact bL)]
   refine aj (dM G il.lookup ?_)
   show wpAny _ _ (callSpecialIfBoundUnlessNone? (.ref a) "__hash__" _ >>= _) Q E s
   refine aj (jM G il (bO il G F.entry_tuple_hash ?_ (F.args_tuple_hash_1 _)))
   show wpAny _ _ (Builtin.Tuple.tupleItemsOf (.ref a) >>= _) _ _ s
   refine aj (wpAny_tupleItemsOf R J ?_)
   refine aj ?_
   rw[<- fZ]
   refine gf _
    (λm (b:Array Int) O=>∃c e K,Km w g=c++Km w e/\ReadsAll s.heap m e K/\Ew e=true/\PyData.depthAll e<=n/\b.toList=c/\∃k,k+K8 e=K8 g/\O={ s with toks:=s.toks+k })
    _ ?_ ?_ _ _ ⟨[],g,_,rfl,U,I,H,rfl,0,bh _,rfl⟩
   ·rintro x m b O ⟨c,e,K,z,L,q,p,B,k,D,rfl⟩
    cases L with
    | @cons _ _ l f V W X u =>
     obtain⟨Z,S⟩:=az.mp (show (keyB l&&Ew f)=true from q)
     have P:l.depth<=n/\PyData.depthAll f<=n:=by
      have:max l.depth (PyData.depthAll f)<=n:=p;lia
     refine aj (Y l P.1 Z _ _ _ _ _ _ (by first | exact cH (by simp;lia) C | (have:=C;simp at *;lia)) X ?_)
     first
      | exact ak ⟨c++[Ag4 w l],f,_,by rw[z];simp[Km],u,S,P.2,by simp[B],k+Vk l,by rw[<- D];simp[K8,fB],by simp[fB]⟩
      | exact aj (ak (ak ⟨c++[Ag4 w l],f,_,by rw[z];simp[Km],u,S,P.2,by simp[B],k+Vk l,by rw[<- D];simp[K8,fB],by simp[fB]⟩))
   ·rintro b O ⟨c,e,K,z,L,q,p,B,k,D,rfl⟩
    cases L
    have e2:Km w g=c:=by rw[z];simp[Km]
    have T:k=K8 g:=D
    have h:Q (reduceHash (Builtin.Tuple.tupleHashOf (Km w g))) { s with toks:=s.toks+(K8 g+1) }:=h
    rw[e2]at h;subst T
    show wpAny _ _ (retInt (Builtin.Tuple.tupleHashOf b.toList)) _ _ _
    rw[B]
    refine wpAny_ret_mkInt ?_
    show wpAny _ _ (if (decide (-(2:Int) ^ 63<=Builtin.Tuple.tupleHashOf c)&&decide (Builtin.Tuple.tupleHashOf c<2 ^ 63))=true then _ else _) Q E _
    unfold reduceHash at h
    by_cases hr:(decide (-(2:Int) ^ 63<=Builtin.Tuple.tupleHashOf c)&&decide (Builtin.Tuple.tupleHashOf c<2 ^ 63))=true
    ·rw[if_pos hr]
     rw[if_pos hr]at h
     exact ak (by simpa[fB] using h)
    ·rw[if_neg hr]
     rw[if_neg hr]at h
     exact aj (cP (ak (by simpa[fB] using h)))
theorem Aj6:∀(m:Nat) (d:t_),d.depth<=m->keyB d=true->∀(A:q9) (E:z_) (s:t6) (v:Value) (j:v6) (Q:Bool->t6->Prop),Reads s.heap v d j->Q true s->wpAny (model prog w) A (eqIsQuiet (m+1) v) Q E s:=by
 intro m
 induction m with
 | zero =>
  intro d q f A E s v j Q r h
  cases r with
  | none=>rw[fC _ rfl];exact ak h
  | int i t=>rw[fC _ rfl];exact ak h
  | str x t=>rw[fC _ rfl];exact ak h
  | tuple=>exact absurd q (by simp[PyData.depth])
  | bool b=>cases f
  | list=>cases f
  | dict=>cases f
 | succ n O =>
  intro d q f A E s v j Q r h
  cases r with
  | none=>rw[fC _ rfl];exact ak h
  | int i t=>rw[fC _ rfl];exact ak h
  | str x t=>rw[fC _ rfl];exact ak h
  | bool b=>cases f
  | list=>cases f
  | dict=>cases f
  | @tuple a o y n' M j G L l U =>
   have D:s.TypeIs (.ref a) _:=⟨o,G,L⟩
   have p := Nat.le_of_succ_le_succ (show PyData.depthAll _+1<=n+1 from q)
   unfold eqIsQuiet
   refine aj (dM D F.slot_tuple_eq.lookup ?_)
   refine aj (dN D isSubtype_tuple_tuple ?_)
   refine aj (cJ G l ?_)
   refine aj ?_
   rw[<- fZ]
   refine gf _ (λe r u=>r.1=none/\u=s/\∃c H,ReadsAll _ e c H/\Ew c=true/\PyData.depthAll c<=n) _ ?_ ?_ _ _ ⟨rfl,rfl,M,_,U,f,p⟩
   ·rintro v e r u ⟨C,rfl,c,H,J,k,z⟩
    cases J with
    | @cons _ _ N g P R K B =>
     obtain⟨S,T⟩:=az.mp (show (keyB _&&Ew _)=true from k)
     have I:N.depth<=n/\PyData.depthAll g<=n:=by
      have:max _ _<=n:=z;lia
     refine aj (O _ I.1 S _ _ _ _ _ _ K ?_)
     exact ak ⟨rfl,rfl,g,_,B,T,I.2⟩
   ·rintro⟨r1,r2⟩ u ⟨C,rfl,_⟩
    subst C;exact ak h
def By8 (h:Heap)(k:t_)(a:Addr):Prop:=(keyB k=true/\k.canLay0=true/\k.depth<=7)/\∃as,Reads h (.ref a) k as
def Dn (prog:u9)(w:World):HeapKind prog w t_ where
 is:=By8
 hash:=Ag4 w
 draws:=Vk
 room:=λA=>A.units+8<cLine
 inj:=λhx hy=>let ⟨⟨_,l,_⟩,_,r⟩:=hx;let ⟨_,_,r'⟩:=hy; SeqAt.Reads.unique _ _ _ _ _ l r r'
 keeps:=λx ho hd hs=>let ⟨c,_,r⟩:=x; ⟨c,_,Vu ho hd hs _ c.1 _ _ r⟩
 pyHash:=λhu hk h=>let ⟨c,_,r⟩:=hk; Az5 7 _ c.2.2 c.1 _ _ _ _ _ _ (cH (dO (by decide) _) hu) r h
 eqBool:=λ{A E s x y a b Q} hu hx hy h=>by
  obtain⟨c,_,r⟩:=hx;obtain⟨d,_,r'⟩:=hy
  refine gh x y A s _ _ _ _ r r' c.2.1 d.2.1 (cH (dO (aq (Nat.min_le_left _ _) (aq c.2.2 (by decide))) _) hu) prog w E Q ?_
  have e:PyData.eqv x y=decide (x=y):=by
   have:=Ir x y c.1 d.1
   by_cases z:x=y
   ·rw[aN z];exact this.mpr z
   ·rw[aV z]
    cases q:PyData.eqv x y with
    | false=>rfl
    | true=>exact absurd (this.mp q) z
  rw[e];exact h
 quiet:=λhk h=>let ⟨c,_,r⟩:=hk; Aj6 7 _ c.2.2 c.1 _ _ _ _ _ _ r h
end
inductive V where
 | non | bl (b:Bool) | int (i:Int) | str (x:Str) | byt (b:Array UInt8) | flt (b:UInt64) | ref (a:Addr) | ty (n:String)
 deriving DecidableEq
abbrev m7:=List V
@[simp] theorem V.bl.injEq (a b:Bool):(V.bl a=V.bl b)=(a=b):=propext ⟨λh=>by cases h;rfl,λh=>by rw[h]⟩
@[simp] theorem V.int.injEq (a b:Int):(V.int a=V.int b)=(a=b):=propext ⟨λh=>by cases h;rfl,λh=>by rw[h]⟩
@[simp] theorem V.str.injEq (a b:Str):(V.str a=V.str b)=(a=b):=propext ⟨λh=>by cases h;rfl,λh=>by rw[h]⟩
@[simp] theorem V.byt.injEq (a b:Array UInt8):(V.byt a=V.byt b)=(a=b):=propext ⟨λh=>by cases h;rfl,λh=>by rw[h]⟩
@[simp] theorem V.ref.injEq (a b:Addr):(V.ref a=V.ref b)=(a=b):=propext ⟨λh=>by cases h;rfl,λh=>by rw[h]⟩
def RelV:V->Value->Prop
 | .non,u=>u=Value.none
 | .bl b,u=>u=Value.bool b
 | .int i,u=>∃t,u=Value.int i t
 | .str x,u=>∃t,u=Value.str x t
 | .byt b,u=>∃t,u=Value.bytes b t
 | .flt b,u=>∃t,u=Value.float b t
 | .ref a,u=>u=Value.ref a
 | .ty n,u=>u=Value.type n
abbrev Vals:m7->w6->Prop:=Paired RelV
theorem Vals.length (r:Vals xs us):xs.length=us.length:=eN r
theorem Vals.get:∀{xs:m7}{us:w6}{i:Nat}{x:V},Vals xs us->xs[i]?=some x->∃u,us[i]?=some u/\RelV x u
 | _,_,_,_,.nil,e=>by simp at e
 | _,_,0,_,.cons r _,e=>by simp at e;subst e;exact⟨_,rfl,r⟩
 | _,_,i+1,x,.cons _ t,e=>by
  obtain⟨u,h1,h2⟩:=Vals.get (i:=i) (x:=x) t (by simpa using e)
  exact⟨u,by simpa using h1,h2⟩
theorem Vals.set {x:V}{u:Value}(r:RelV x u):∀{xs:m7}{us:w6}(i:Nat),Vals xs us->Vals (xs.set i x) (us.set i u)
 | _,_,_,.nil=>.nil
 | _,_,0,.cons _ t=>.cons r t
 | _,_,i+1,.cons q t=>.cons q (Vals.set r i t)
theorem Vals.append:∀{xs ys:m7}{us ws:w6},Vals xs us->Vals ys ws->Vals (xs++ys) (us++ws)
 | _,_,_,_,.nil,s=>s
 | _,_,_,_,.cons r t,s=>.cons r (Vals.append t s)
theorem Vals.take:∀{xs:m7}{us:w6}(n:Nat),Vals xs us->Vals (xs.take n) (us.take n)
 | _,_,0,_=>.nil
 | _,_,_+1,.nil=>.nil
 | _,_,n+1,.cons r t=>.cons r (Vals.take n t)
theorem Vals.drop:∀{xs:m7}{us:w6}(n:Nat),Vals xs us->Vals (xs.drop n) (us.drop n)
 | _,_,0,r=>r
 | _,_,_+1,.nil=>.nil
 | _,_,n+1,.cons _ t=>Vals.drop n t
def RelO:Option V->u_->Prop
 | some v,some u=>RelV v u
 | none,none=>True
 | _,_=>False
def KV {κ:Type}:List (κ×V)->List (κ×Value)->Prop:=Paired λ(p:κ×V) (q:κ×Value)=>p.1=q.1/\RelV p.2 q.2
noncomputable def kV:Key->V
 | .inl i=>.int i
 | .inr x=>.str x
inductive HO where
 | lst (xs:m7)
 | tup (xs:m7)
 | dK (kvs:List (Key×V)) | dT (kvs:List (PyData×V))
 | set (S:Int->Bool) (n:Nat)
 | ins (C dx:Addr) (fs:List (Str×V))
 | own (x:Addr)
 | xd (fs:List (Str×V))
 | met (f x:Addr)
 | rng (lo hi:Int)
 | frz (o:Obj) (u:HO)
 | tbl (q:Str)
 | ext (φ:Heap->Prop)
abbrev Hp:=Addr->Option HO
noncomputable def upd (H:Hp) (a:Addr) (o:HO):Hp:=λb=>if b=a then some o else H b
theorem Am : upd H a o a=some o:=by unfold upd;simp_all
theorem Af (h:b≠a):upd H a o b=H b:=by unfold upd;simp_all
theorem Bl4 {H:Hp}{a:Addr}{o u:HO}:upd (upd H a o) a u=upd H a u:=by
 funext b;unfold upd;split <;> rfl
theorem A8x {H:Hp} (h:H a=some o) (h':H b=some u) (d:o≠u):a≠b:=by
 grind
theorem Ba {H:Hp} (h:H a=some o) (h':H b=none):a≠b:=by
 grind
mutual
def KTr (H:Hp):t_->V->Prop
 | .none,v=>v=.non
 | .int i,v=>v=.int i
 | .str x,v=>v=.str x
 | .tuple ds,v=>∃a vs,v=.ref a/\H a=some (.tup vs)/\KTrL H ds vs
 | _,_=>False
def KTrL (H:Hp):w5->m7->Prop
 | [],vs=>vs=[]
 | d::ds,vs=>∃v r,vs=v::r/\KTr H d v/\KTrL H ds r
end
mutual
theorem KTr.stay {H H':Hp}(ht:∀b xs,H b=some (.tup xs)->H' b=some (.tup xs)):∀{d:t_}{v:V},KTr H d v->KTr H' d v
 | .none,_,h=>h
 | .int _,_,h=>h
 | .str _,_,h=>h
 | .tuple _,_,⟨a,vs,e,ha,t⟩=>⟨a,vs,e,ht _ _ ha,KTrL.stay ht t⟩
theorem KTrL.stay {H H':Hp}(ht:∀b xs,H b=some (.tup xs)->H' b=some (.tup xs)):∀{ds:w5}{vs:m7},KTrL H ds vs->KTrL H' ds vs
 | [],_,h=>h
 | _::_,_,⟨v,r,e,h,t⟩=>⟨v,r,e,KTr.stay ht h,KTrL.stay ht t⟩
end
def Bs1 (k:t_):Prop:=keyB k=true/\k.canLay0=true/\k.depth<=7
def KAt (H:Hp)(k:t_)(a:Addr):Prop:=Bs1 k/\KTr H k (.ref a)
theorem KAt.stay (ht:∀b xs,H b=some (.tup xs)->H' b=some (.tup xs)) (h:KAt H k a):KAt H' k a:=⟨h.1,KTr.stay ht h.2⟩
def zR (h:Heap)(a:Addr)(items:v7):Prop:=∃o,h.get? a=some o/\o.cls=.type "tuple" /\ (∃n,o.data=.seq items n)/\o.dict=none
theorem zR.tup (x:zR h a items):IsTup h a items:=let ⟨o,h1,h2,h3,_⟩:=x; ⟨o,h1,h2,h3⟩
theorem zR.lt (x:zR h a items):a<h.objs.size:=x.tup.lt
theorem zR.new (h:Heap)(items:v7):zR (h.push { cls:=.type "tuple",data:=.seq items }) h.objs.size items:=⟨_,aG _ rfl,rfl,⟨_,rfl⟩,rfl⟩
section
variable (P:u9)(w:World)
def z9 (H:Hp)(h:Heap)(a:Addr):HO->Prop
 | .lst xs=>xs.length<=sizeLine/\∃(its:w6) (n:Nat),Vals xs its/\h.get? a=some { cls:=.type "list",data:=.seq its.toArray n }
 | .tup xs=>xs.length<=sizeLine/\∃its:w6,Vals xs its/\zR h a its.toArray
 | .dK kvs=>kvs.length<=sizeLine/\(a==sysModules)=false/\∃vs,KV kvs vs/\h.DictOf (Dg P w) a vs
 | .dT kvs=>kvs.length<=sizeLine/\(a==sysModules)=false/\∃xs:List (PyData×Addr×Value),
  Paired (λ(p:PyData×V) (q:PyData×Addr×Value)=>p.1=q.1/\KAt H p.1 q.2.1/\RelV p.2 q.2.2) kvs xs /\
  ∃o es ep,h.get? a=some o/\o.ExactDict/\o.data=.dict es ep/\es.toList=xs.map (entryOfKey (Dn P w))/\(xs.map (·.1)).Nodup
 | .set S n=>h.SetOf (intKind P w) a S n
 | .ins C dx fs=>H dx=some (.own a)/\fs.length<=1000/\dx≠a/\h.get? a=some (PySem.W.instObj C dx) /\
  ∃mA,h.Ns1 dx mA/\(∀f,RelO (fs.lookup f) (mA f))/\PySem.Within mA (fs.map (·.1))
 | .own _=>∃o,h.get? a=some o
 | .xd fs=>∃mA,h.Ns1 a mA/\∀f,RelO (fs.lookup f) (mA f)
 | .rng lo hi=>∃t u v,h.get? a=some { cls:=.type "range",data:=.fields #[.int lo t,.int hi u,.int 1 v] }
 | .frz o u=>h.get? a=some o/\z9 H h a u
 | .tbl q=>∃ps:v7,h.get? a=some { cls:=.none,data:=.fields ps }/\TriplesOk ps.toList/\∀pos cv,codeAmong pos ps.toList=some cv->∃c o vs t,cv=.ref c/\H c=some (.frz o (.own 0))/\o.data=.fields vs/\vs[1]?=some (.str q t)
 | .met f x=>h.get? a=some (PySem.W.methodObj (.ref f) (.ref x))
 | .ext φ=>φ h/\(∃o,h.get? a=some o)/\∀h1 h2:Heap,φ h1->(∀o,h1.get? a=some o->h2.get? a=some o)->φ h2
def HOk (H:Hp)(h:Heap):Prop:=∀a o,H a=some o->z9 P w H h a o
end
section
variable {P:u9}{w:World}{H H':Hp}{h h':Heap}{a:Addr}{o:HO}
theorem z9.lt (x:z9 P w H h a o):a<h.objs.size:=by
 cases o with
 | lst d=>obtain⟨_,_,_,_,e⟩:=x;exact aA e
 | tup d=>obtain⟨_,_,_,p⟩:=x;exact p.lt
 | dK b=>obtain⟨_,_,_,_,o,_,_,e,_⟩:=x;exact aA e
 | dT b=>obtain⟨_,_,_,_,o,_,_,e,_⟩:=x;exact aA e
 | set S n=>obtain⟨o,_,_,_,e,_⟩:=x;exact aA e
 | ins C g c=>obtain⟨_,_,_,e,_⟩:=x;exact aA e
 | own y=>obtain⟨_,e⟩:=x;exact aA e
 | xd c=>obtain⟨_,⟨_,_,_,e,_⟩,_⟩:=x;exact aA e
 | rng j k=>obtain⟨_,_,_,e⟩:=x;exact aA e
 | frz l u=>obtain⟨e,_⟩:=x;exact aA e
 | tbl q=>obtain⟨_,e,_⟩:=x;exact aA e
 | met f y=>exact aA (x)
 | ext i=>obtain⟨_,⟨_,e⟩,_⟩:=x;exact aA e
theorem Paired.mapP {α β:Type}{F G:α->β->Prop}:∀{l₁:List α}{l₂:List β},Paired F l₁ l₂->(∀a b,F a b->G a b)->Paired G l₁ l₂
 | _,_,.nil,_=>.nil
 | _,_,.cons r t,f=>.cons (f _ _ r) (Paired.mapP t f)
theorem z9.stay (x:z9 P w H h a o)(k:∀b u,(b=a\/H b=some (.own a))->h.get? b=some u->h'.get? b=some u)
 (ho:∀b,H b=some (.own a)->H' b=some (.own a)) (ht:∀b m,H b=some (.tup m)->H' b=some (.tup m)) (hz:∀b o u,H b=some (.frz o u)->H' b=some (.frz o u):=by exact λ_ _ _ q=>q):z9 P w H' h' a o:=by
 induction o with
 | lst m=>obtain⟨z,l,n,r,e⟩:=x;exact⟨z,l,n,r,k _ _ (.inl rfl) e⟩
 | tup m=>obtain⟨z,l,r,g,e,c⟩:=x;exact⟨z,l,r,g,k _ _ (.inl rfl) e,c⟩
 | dK A=>obtain⟨z,y,D,r,g,i,j,e,c⟩:=x;exact⟨z,y,D,r,g,i,j,k _ _ (.inl rfl) e,c⟩
 | dT A =>
  obtain⟨z,y,m,r,g,i,j,e,c⟩:=x
  exact⟨z,y,m,Paired.mapP r λp q z=>⟨z.1,z.2.1.stay ht,z.2.2⟩,g,i,j,k _ _ (.inl rfl) e,c⟩
 | set S n=>obtain⟨g,i,j,t,e,c⟩:=x;exact⟨g,i,j,t,k _ _ (.inl rfl) e,c⟩
 | ins C M J =>
  obtain⟨d,z,G,e,s,⟨B,i,j,E,c⟩,r⟩:=x;exact⟨ho _ d,z,G,k _ _ (.inl rfl) e,s,⟨B,i,j,k _ _ (.inr d) E,c⟩,r⟩
 | own y=>obtain⟨g,e⟩:=x;exact⟨g,k _ _ (.inl rfl) e⟩
 | xd J=>obtain⟨s,⟨B,i,j,e,c⟩,r⟩:=x;exact⟨s,⟨B,i,j,k _ _ (.inl rfl) e,c⟩,r⟩
 | rng O N=>obtain⟨t,u,v,e⟩:=x;exact⟨t,u,v,k _ _ (.inl rfl) e⟩
 | frz g u K=>obtain⟨e,q⟩:=x;exact⟨k _ _ (.inl rfl) e,K q⟩
 | tbl q =>
  obtain⟨I,e,t,f⟩:=x
  exact⟨I,k a _ (.inl rfl) e,t,λL Q z=>let ⟨c,g,D,tk,e1,E,e3⟩:=f _ _ z; ⟨c,g,D,tk,e1,hz _ _ _ E,e3⟩⟩
 | met f y =>
  have e:h.get? a=some _:=x
  show h'.get? a=some _
  grind
 | ext R=>obtain⟨p,⟨o,e⟩,F⟩:=x;exact⟨F _ _ p λo q=>k _ _ (.inl rfl) q,⟨o,k _ _ (.inl rfl) e⟩,F⟩
theorem HOk.lt (x:HOk P w H h)(e:H a=some o):a<h.objs.size:=(x a o e).lt
theorem HOk.fresh (x:HOk P w H h)(e:h.objs.size<=a):H a=none:=by
 cases q:H a with
 | none=>rfl
 | some u=>exact absurd (aP (x.lt q) e) (bj _)
theorem HOk.kept (x:HOk P w H h)(k:∀b u,h.get? b=some u->h'.get? b=some u):HOk P w H h':=λa o e =>
 (x a o e).stay (λb u _ q=>k b u q) (λ_ q=>q) λ_ _ q=>q
theorem HOk.laid (x:HOk P w H h)(k:∀b u,h.get? b=some u->h'.get? b=some u)(hp:h.objs.size<=a)(f:z9 P w (upd H a o) h' a o):HOk P w (upd H a o) h':=λb u e=>by
 have d:=x.fresh hp
 by_cases hb:b=a
 ·subst hb;rw[Am]at e;simp_all
 ·rw[Af hb]at e
  exact(x b u e).stay (λc v _ q=>k c v q) λc q=>by rw[Af (Ba q d)];grind λc g q=>by rw[Af (Ba q d)];grind λc i g q=>by rw[Af (Ba q d)];grind
end
def Rd (H:Hp)(a:Addr)(u:HO):Prop:=H a=some u\/∃o,H a=some (.frz o u)
theorem Rd.ok (r:Rd H a u) (x:HOk P w H h):z9 P w H h a u:=by
 rcases r with r | ⟨o,r⟩
 ·exact x a u r
 ·obtain⟨_,q⟩:=x a _ r
  lia
def Mut:Option HO->Prop
 | some (.lst _)=>True
 | some (.dK _)=>True
 | some (.dT _)=>True
 | some (.set _ _)=>True
 | some (.ins _ _ _)=>True
 | some (.ext _)=>True
 | _=>False
section
variable {P:u9}{w:World}{H:Hp}{h h':Heap}{x e:Addr}{o':HO}
theorem HOk.write (s:HOk P w H h)(f:Mut (H x))(he:e=x\/H e=some (.own x))(k:∀b u,b≠e->h.get? b=some u->h'.get? b=some u)(m:∃u,h'.get? e=some u)
 (l:z9 P w (upd H x o') h' x o'):HOk P w (upd H x o') h':=λb u q=>by
 have a:∀c y,H c=some (.own y)->c≠x:=λc y r z=>by subst z;rw[r]at f;exact f
 have i:∀c d,H c=some (.tup d)->c≠x:=λc d r z=>by subst z;rw[r]at f;exact f
 have g:∀c n d,H c=some (.frz n d)->c≠x:=λc n d r z=>by subst z;rw[r]at f;exact f
 by_cases hb:b=x
 ·subst hb;rw[Am]at q;cases q;exact l
 ·rw[Af hb]at q
  by_cases hbe:b=e
  ·have o:H b=some (.own x):=by
    simp_all
   rw[q]at o;cases o;obtain⟨v,p⟩:=m
   exact⟨v,by rw[hbe];exact p⟩
  ·refine (s b u q).stay (λc v j r=>k c v ?_ r) (λc r=>by rw[Af (a c b r)];exact r) (λc d r=>by rw[Af (i c _ r)];exact r) λc n d r=>by rw[Af (g c _ _ r)];exact r
   rcases j with rfl | j
   ·exact hbe
   ·rintro rfl
    rcases he with z | z
    ·exact a c b j z
    ·rw[j]at z;cases z;exact hb rfl
end
structure Un (fs ex:v6) (H H':Hp) (h h':Heap):Prop where
 keep:∀b o,h.get? b=some o->H b=none->b∉fs->b∉ex->h'.get? b=some o
 slot:∀b o,h.get? b=some o->H b=none->b∈fs->b∉ex->∃sl,h'.get? b=some { o with slots:=sl }
 free:∀b o,h.get? b=some o->H b=none->b∉ex->H' b=none
 there:∀b o,h.get? b=some o->b∉ex->∃o',h'.get? b=some o'
 tups:∀b xs,H b=some (.tup xs)->H' b=some (.tup xs)
 frzs:∀b o u,H b=some (.frz o u)->H' b=some (.frz o u)
 tbls:∀b q,H b=some (.tbl q)->H' b=some (.tbl q)
section
variable {fs ex:v6}{H H1:Hp}{h h1 h':Heap}{a x e:Addr}{o:HO}
theorem Un.any (u:Un fs ex H H1 h h1) (q:h.get? b=some ob) (n:H b=none) (hx:b∉ex):∃sl,h1.get? b=some { ob with slots:=sl }:=by
 by_cases hb:b∈fs
 ·exact u.slot b _ q n hb hx
 ·exact⟨ob.slots,u.keep b _ q n hb hx⟩
theorem Un.kept (k:∀b u,h.get? b=some u->h'.get? b=some u):Un fs ex H H h h' :=
 ⟨λb a q _ _ _=>k b _ q,λb a q _ _ _=>⟨a.slots,k b a q⟩,λ_ _ _ n _=>n,λb a q _=>⟨a,k b _ q⟩,λ_ _ q=>q,λ_ _ _ q=>q,λ_ _ q=>q⟩
theorem Un.refl:Un fs ex H H h h:=Un.kept λ_ _ q=>q
theorem Un.laid (k:∀b u,h.get? b=some u->h'.get? b=some u)(hp:h.objs.size<=a)(hn:H a=none):Un fs ex H (upd H a o) h h' where
 keep:=λb u q _ _ _=>k b u q
 slot:=λb u q _ _ _=>⟨u.slots,k b u q⟩
 free:=λb u q n _=>by rw[Af (aQ (aP (aA q) hp))];exact n
 there:=λb u q _=>⟨u,k b u q⟩
 tups:=λb xs q=>by rw[Af (Ba q hn)];exact q
 frzs:=λb u xs q=>by rw[Af (Ba q hn)];exact q
 tbls:=λb ps q=>by rw[Af (Ba q hn)];exact q
theorem Un.write (d:Mut (H x))(he:e=x\/H e=some (.own x))(k:∀b u,b≠e->h.get? b=some u->h'.get? b=some u)(f:∃u,h'.get? e=some u):Un fs ex H (upd H x o) h h':=by
 have i:∀b,H b=none->b≠x:=λb n z=>by subst z;rw[n]at d;exact d
 have c:∀b,H b=none->b≠e:=λb n z=>by
  grind
 have a:∀b u,H b=some u->¬ Mut (some u)->b≠x:=λb u q l z=>by simp_all
 refine⟨λb u q n _ _=>k b u (c b n) q,λb u q n _ _=>⟨u.slots,k b u (c b n) q⟩,λb u q n _=>by rw[Af (i b n)];grind,λb u q _=>?_,
  λb g q=>by rw[Af (a b _ q λz=>z)];grind,λb u g q=>by rw[Af (a b _ q λz=>z)];grind,λb j q=>by rw[Af (a b _ q λz=>z)];grind⟩
 grind
end
noncomputable def trk (h:Heap) (H:Hp):v6:=(List.range h.objs.size).filter λa=>(H a).isSome
def Wk (h:Heap)(H:Hp):Heap:=PySem.W.hideAll h (trk h H)
theorem A0c (h:Heap)(H:Hp):(Wk h H).objs.size=h.objs.size:=PySem.W.hideAll_size _ _
theorem A7n (e:h.get? b=some o) (n:H b=none):(Wk h H).get? b=some o :=
 PySem.W.hideAll_get _ e λa=>by
  have q := (List.mem_filter.mp a).2
  grind
theorem Bh4 (e:(Wk h H).get? b=some o):h.get? b=some o/\H b=none:=by
 have a := PySem.W.of_hideAll _ e
 refine⟨a,?_⟩
 cases q:H b with
 | none=>rfl
 | some x =>
  have c:b∈trk h H:=List.mem_filter.mpr ⟨ir.mpr (aA a),by grind⟩
  have z:(Wk h H).get? b=none:=PySem.W.hideAll_none _ c
  simp_all
noncomputable def Bk8 (g h:Heap) (L:Addr):y_:=(List.range h.objs.size).filterMap λa=>if a=L\/(g.get? a).isSome=true then none else (h.get? a).map λo=>(a,o)
def rest (g h:Heap)(L d:Addr):y_:=(Bk8 g h L).filter λp=>decide (p.1≠d)
noncomputable def Ax3 (T:Addr) (q:Str):Obj:={ cls:=.str q 0,data:=.cell (some (.ref T)) }
noncomputable def Uz (o:Obj):Option (Addr×Str):=match o.data with
 | .cell (some (.ref T))=>(match o.cls with
  | .str q _=>some (T,q)
  | _=>none)
 | _=>none
def Ei (K:v9):List (Addr×Str):=K.filterMap λp=>Uz p.2
structure Mod (K:v9) (mg:x_) (base:Heap):Prop where
 kin:K.In base
 glob:base.Ns mainGlobals mg
 blt:∃mb,base.Ns builtinsNs mb/\∀x:Str,x ≠ "__name__" -> mb x=bootBuiltins x
 nolimit:base.NoLimit
 bmod:∃bm o,mg "__builtins__" = some (.ref bm)/\bm≠builtinsNs/\bm≠mainGlobals/\base.get? bm=some o/\o.cls=.type "module" /\ o.dict=some builtinsNs/\o.data=.plain
structure Cx where
 prog:u9
 w:World
 K:v9
 mg:x_
 base:Heap
 A:q9
 N:v4
 s₀:t6
 H₀:Hp
 env:Env
 outer:List Env
 stack:List Env
 ex:v6
 fn:Str->Bool
 calm:Bool
 pn:y_
 xe:z_
noncomputable def frs (l:List Env):v6:=l.filterMap (·.frame)
abbrev Cx.fs (X:Cx):v6:=frs X.outer
def Vis (sc:Scope)(x:Str):Prop:=sc.names.lookup x=some .local\/sc.names.lookup x=some .cell\/sc.names.lookup x=some .free
def Loc (sc:Scope)(x:Str):Prop:=sc.names.lookup x=some .local\/sc.names.lookup x=some .cell
def Look (env:Env)(h:Heap)(m:x_)(x:Str)(u:Value):Prop :=
 (env.kindOf x=some .local/\m x=some u)\/((env.kindOf x=some .cell\/env.kindOf x=some .free)/\∃c,env.cells.lookup x=some c/\h.IsCell c (some u))
structure Cx.Ok (X:Cx):Prop where
 mod:Mod X.K X.mg X.base
 kind:X.env.scope.kind=.function
 glob:X.env.globals=mainGlobals
 blt:X.env.builtins=builtinsNs
 above:X.s₀.heap.objs.size<=X.env.locals
 inj:∀x y c,X.env.cells.lookup x=some c->X.env.cells.lookup y=some c->x=y
 has:∀x,(X.env.kindOf x=some .cell\/X.env.kindOf x=some .free)->∃c,X.env.cells.lookup x=some c
 cab:∀x c,X.fn x=true->X.env.cells.lookup x=some c->X.s₀.heap.objs.size<=c
 hd:X.calm=true->X.A.handled=none
 frames:X.A.frames=some X.stack
 stk:X.stack=X.outer\/(X.stack=X.env::X.outer/\X.env.frame=some X.env.locals)
 exf:∀b∈X.ex,b≠X.env.locals/\∀x c,X.env.cells.lookup x=some c->c≠b
 bs:∀b o,X.base.get? b=some o->X.s₀.heap.get? b=some o/\X.H₀ b=none
 bsz:X.base.objs.size<=X.s₀.heap.objs.size
 noex:∀b o,X.base.get? b=some o->b∉X.ex
 exfs:∀b∈X.ex,b∉X.fs
 funs:X.s₀.heap.FunFrames X.base X.outer
 frf:∀b∈X.fs,X.H₀ b=none
 tab:∀p∈Ei X.K,X.H₀ p.1=some (.tbl p.2)
structure Inv (X:Cx) (pins:y_) (σ:List (Option V)) (H:Hp) (s:t6):Prop where
 ok:X.Ok
 os:s.os=X.s₀.os
 bare:AllBare s.gens
 base:Un X.fs X.ex X.H₀ H X.s₀.heap s.heap
 loc:∃m,s.heap.Ns X.env.locals m/\∀(i:Nat) (x:Str) (v:V),X.N[i]?=some x->σ[i]?=some (some v)->Vis X.env.scope x->∃u,RelV v u/\Look X.env s.heap m x u
 cell:∀x c,X.env.cells.lookup x=some c->∃v,s.heap.IsCell c v
 free:H X.env.locals=none
 freeC:∀x c,X.env.cells.lookup x=some c->H c=none
 pin:∀p∈X.pn++pins,s.heap.get? p.1=some p.2/\H p.1=none/\p.1≠X.env.locals/\p.1∉X.fs/\∀v,p.2.data≠.cell v
 hok:HOk X.prog X.w H s.heap
 len:σ.length=X.N.length
section
variable {X:Cx}{pins:y_}{σ:List (Option V)}{H H':Hp}{s:t6}{h':Heap}
theorem Cx.Ok.nofr (c:X.Ok) (e:X.base.get? b=some o):b∉X.fs:=λa=>by
 have:=(c.funs.mem a).1
 simp_all
theorem Inv.bs (I:Inv X pins σ H s):∀b o,X.base.get? b=some o->s.heap.get? b=some o/\H b=none:=λb o e =>
 ⟨I.base.keep b o (I.ok.bs b o e).1 (I.ok.bs b o e).2 (I.ok.nofr e) (I.ok.noex b o e),I.base.free b o (I.ok.bs b o e).1 (I.ok.bs b o e).2 (I.ok.noex b o e)⟩
theorem Inv.bk (I:Inv X pins σ H s):∀b o,X.base.get? b=some o->s.heap.get? b=some o:=λb o e=>(I.bs b o e).1
theorem Inv.mod (I:Inv X pins σ H s):Mod X.K X.mg X.base:=I.ok.mod
theorem Inv.kIn (I:Inv X pins σ H s):X.K.In s.heap:=I.ok.mod.kin.keeps I.bk
theorem Inv.fr (I:Inv X pins σ H s):∃m,Fr X.base X.env.locals s.heap m :=
 let ⟨m,hn,_⟩:=I.loc
 ⟨m,hn,I.bk,aq I.ok.bsz I.ok.above⟩
theorem Inv.lt (I:Inv X pins σ H s):X.env.locals<s.heap.objs.size:=let ⟨_,hn,_⟩:=I.loc;hn.lt
theorem Inv.sz (I:Inv X pins σ H s):X.s₀.heap.objs.size<=s.heap.objs.size:=aq I.ok.above (iu I.lt)
theorem Inv.nofs (I:Inv X pins σ H s) (h:s.heap.objs.size<=a):a∉X.fs:=λc=>by
 obtain⟨_,o,b,_⟩:=I.ok.funs.mem c;exact absurd (aP (aA b) (aq I.sz h)) (bj _)
theorem Inv.cne (I:Inv X pins σ H s):∀x c,X.env.cells.lookup x=some c->c≠X.env.locals:=λx c e z=>by
 obtain⟨v,o,d,i⟩:=I.cell x c e;obtain⟨m,⟨f,g,h,a,b,_⟩,_⟩:=I.loc
 simp_all
theorem Inv.funs (I:Inv X pins σ H s):s.heap.FunFrames X.base X.outer:=by
 have d:∀(l:List _),(∀b∈frs l,b∈X.fs)->X.s₀.heap.FunFrames X.base l->s.heap.FunFrames X.base l:=by
  intro l
  induction l with
  | nil=>intro _ _;trivial
  | cons h r j =>
   intro g q;obtain⟨i,⟨L,o,f,k,m,n⟩,p⟩:=q
   have c := g L (by unfold frs;simp_all)
   obtain⟨t,e⟩:=I.base.slot L o m (I.ok.frf L c) c λz=>I.ok.exfs L z c
   exact⟨i,⟨L,_,f,k,e,n⟩,j (λb a=>g b (by unfold frs;rw[gj,f];exact bw _ a)) p⟩
 exact d _ (λ_ a=>a) I.ok.funs
theorem Inv.stack (I:Inv X pins σ H s):s.heap.FunFrames X.base X.stack:=by
 rcases I.ok.stk with e | ⟨e,b⟩
 ·rw[e];exact I.funs
 ·rw[e]
  obtain⟨m,a,_⟩:=I.loc
  refine .cons (by rw[I.ok.kind];decide) b a ?_ I.funs
  exact gk (aq I.ok.bsz I.ok.above)
theorem Inv.stkSub (I:Inv X pins σ H s):∀b∈frs X.stack,b∈X.env.locals::X.fs:=λb a=>by
 rcases I.ok.stk with e | ⟨e,c⟩
 ·simp_all
 ·rw[e]at a
  unfold frs at a;rw[gj,c]at a;exact a
theorem Inv.stkFree (I:Inv X pins σ H s):∀b∈frs X.stack,H b=none:=λb a=>by
 rcases aD.mp (I.stkSub b a) with e | a
 ·rw[e];exact I.free
 ·obtain⟨_,o,c,_⟩:=I.ok.funs.mem a
  exact I.base.free b o c (I.ok.frf b a) λz=>I.ok.exfs b z a
theorem Inv.step {ch:v6}(I:Inv X pins σ H s)
 (j:∀b∈ch,(b∈X.ex\/X.s₀.heap.objs.size<=b)/\b≠X.env.locals/\(∀x c,X.env.cells.lookup x=some c->c≠b)/\∀p∈X.pn++pins,p.1≠b)
 (t:∀b o,b≠X.env.locals->b∉X.fs->b∉ch->s.heap.get? b=some o->H b=none->h'.get? b=some o)
 (slot:∀b o,b≠X.env.locals->b∈X.fs->b∉ch->s.heap.get? b=some o->H b=none->∃L,h'.get? b=some { o with slots:=L }) (f:∀b o,b∉ch->s.heap.get? b=some o->H b=none->H' b=none)
 (w:∀b o,b∉ch->s.heap.get? b=some o->∃O,h'.get? b=some O)
 (D:∀b J,H b=some (.tup J)->H' b=some (.tup J)) (F:∀b o u,H b=some (.frz o u)->H' b=some (.frz o u)) (C:∀b q,H b=some (.tbl q)->H' b=some (.tbl q))
 (ns:∀m,s.heap.Ns X.env.locals m->h'.Ns X.env.locals m) (N:HOk X.prog X.w H' h') (hg:AllBare g') :
 Inv X pins σ H' { s with heap:=h',gens:=g',drawn:=d',toks:=t' }:=by
 have G:∀b o,X.s₀.heap.get? b=some o->b≠X.env.locals:=λb o e=>aQ (aP (aA e) I.ok.above)
 have h:∀b o,X.s₀.heap.get? b=some o->b∉X.ex->b∉ch:=λb o e a A=>by
  rcases (j b A).1 with z | z
  ·exact a z
  ·exact absurd (aP (aA e) z) (bj _)
 have g:∀x c,X.env.cells.lookup x=some c->∀v,s.heap.IsCell c v->h'.IsCell c v:=λx c e v ⟨o,B,K⟩=>by
  have E:c∉ch:=λz=>(j c z).2.2.1 x c e rfl
  by_cases hc:c∈X.fs
  ·obtain⟨L,q⟩:=slot c o (I.cne x c e) hc E B (I.freeC x c e)
   exact⟨_,q,K⟩
  ·exact⟨o,t c o (I.cne x c e) hc E B (I.freeC x c e),K⟩
 refine⟨I.ok,I.os,hg,⟨λb o e n A a=>?_,λb o e n A a=>?_,λb o e n a=>?_,λb o e a=>?_,λb J e=>D b _ (I.base.tups b _ e),λb o J e=>F b o _ (I.base.frzs b o _ e),λb V e=>?_⟩,?_,λx c e=>?_,?_,λx c e=>?_,λp Q=>?_,N,I.len⟩
 ·exact t b o (G b o e) A (h b o e a) (I.base.keep b o e n A a) (I.base.free b o e n a)
 ·obtain⟨L,y⟩:=I.base.slot b o e n A a
  obtain⟨P,M⟩:=slot b _ (G b o e) A (h b o e a) y (I.base.free b o e n a);exact⟨P,M⟩
 ·obtain⟨O,y⟩:=I.base.there b o e a
  exact f b _ (h b o e a) y (I.base.free b o e n a)
 ·obtain⟨O,y⟩:=I.base.there b o e a
  exact w b _ (h b o e a) y
 ·exact C b _ (I.base.tbls b _ e)
 ·obtain⟨m,R,S⟩:=I.loc
  refine⟨m,ns m R,λi x v y M T=>?_⟩
  obtain⟨u,r,l⟩:=S i x v y M T
  refine⟨u,r,?_⟩
  rcases l with l | ⟨k,c,e,z⟩
  ·exact .inl l
  ·exact .inr ⟨k,c,e,g x c e _ z⟩
 ·obtain⟨v,z⟩:=I.cell x c e
  exact⟨v,g x c e v z⟩
 ·obtain⟨m,⟨o,_,_,B,_⟩,_⟩:=I.loc
  exact f _ o (λz=>(j _ z).2.1 rfl) B I.free
 ·obtain⟨v,o,B,K⟩:=I.cell x c e
  exact f c o (λz=>(j c z).2.2.1 x c e rfl) B (I.freeC x c e)
 ·obtain⟨e,n,W,U,d⟩:=I.pin p Q
  grind
theorem Inv.un (I:Inv X pins σ H s) (u:Un X.fs [] H H' s.heap h') (g:HOk X.prog X.w H' h'):Inv X pins σ H' { s with heap:=h',toks:=t' }:=by
 obtain⟨m,⟨o,l,v,h,r⟩,_⟩:=id I.loc
 obtain⟨q,j⟩:=u.any h I.free (by simp)
 exact I.step (ch:=[]) (λ_ z=>nomatch z) (λb o _ c _ e n=>u.keep b o e n c (by simp)) (λb o _ c _ e n=>u.slot b o e n c (by simp)) (λb o _ e n=>u.free b o e n (by simp)) (λb o _ e=>u.there b o e (by simp)) u.tups u.frzs u.tbls (λt i=>by
  obtain⟨p,d,f,a,k⟩:=i;rw[h]at a;cases a
  exact⟨_,d,f,j,k⟩) g I.bare
theorem Inv.call (I:Inv X pins σ H s) (u:Un (frs X.stack) ch H H' s.heap h') (g:HOk X.prog X.w H' h') (hg:AllBare g')
 (d:∀b∈ch,(b∈X.ex\/X.s₀.heap.objs.size<=b)/\b≠X.env.locals/\(∀x c,X.env.cells.lookup x=some c->c≠b)/\∀p∈X.pn++pins,p.1≠b) :
 Inv X pins σ H' { s with heap:=h',gens:=g',drawn:=d',toks:=t' }:=by
 obtain⟨m,⟨o,v,A,k,r⟩,_⟩:=id I.loc
 obtain⟨y,h⟩:=u.any k I.free λz=>(d _ z).2.1 rfl
 exact I.step d (λb o h q a e n=>u.keep b o e n (λz=>(aD.mp (I.stkSub b z)).elim h q) a) (λb o _ _ a e n=>u.any e n a) (λb o a e n=>u.free b o e n a) (λb o a e=>u.there b o e a) u.tups u.frzs u.tbls (λB t=>by
  obtain⟨w,j,i,f,l⟩:=t;rw[k]at f;cases f
  exact⟨_,j,i,h,l⟩) g hg
theorem Inv.turned (I:Inv X pins σ H s) (k:∀b o,b≠it->s.heap.get? b=some o->h'.get? b=some o) (hn:H it=none) (h:it≠X.env.locals)
 (h1:it∈X.ex\/X.s₀.heap.objs.size<=it) (h2:∀x c,X.env.cells.lookup x=some c->c≠it) (j:∀p∈X.pn++pins,p.1≠it):Inv X pins σ H { s with heap:=h',toks:=t' }:=by
 refine I.step (ch:=[it]) (λb t=>?_) (λb o _ _ a e _=>k b o (λz=>a (by grind)) e) (λb o _ _ a e _=>⟨o.slots,k b o (λz=>a (by grind)) e⟩) (λ_ _ _ _ n=>n)
  (λb o a e=>⟨o,k b o (λz=>a (by grind)) e⟩) (λ_ _ e=>e) (λ_ _ _ e=>e) (λb l e=>e) (λm g=>?_) (λb u e=>?_) I.bare
 ·grind
 ·obtain⟨o,f,i,d,r⟩:=g
  exact⟨o,f,i,k _ o (aC h) d,r⟩
 ·refine (I.hok b u e).stay (λc v a q=>k c v ?_ q) (λ_ q=>q) λ_ _ q=>q
  grind
theorem Inv.tok (I:Inv X pins σ H s)(t:Nat):Inv X pins σ H { s with toks:=t }:=I.un Un.refl I.hok
theorem Inv.kept (I:Inv X pins σ H s) (k:∀b u,s.heap.get? b=some u->h'.get? b=some u):Inv X pins σ H { s with heap:=h',toks:=t' }:=I.un (Un.kept k) (I.hok.kept k)
theorem Inv.laid (I:Inv X pins σ H s) (k:∀b u,s.heap.get? b=some u->h'.get? b=some u) (hp:s.heap.objs.size<=a) (c:z9 X.prog X.w (upd H a o) h' a o) :
 Inv X pins σ (upd H a o) { s with heap:=h',toks:=t' }:=I.un (Un.laid k hp (I.hok.fresh hp)) (I.hok.laid k hp c)
theorem Inv.write (I:Inv X pins σ H s) (d:Mut (H x)) (he:e=x\/H e=some (.own x)) (k:∀b u,b≠e->s.heap.get? b=some u->h'.get? b=some u) (a:∃u,h'.get? e=some u)
 (c:z9 X.prog X.w (upd H x o) h' x o):Inv X pins σ (upd H x o) { s with heap:=h',toks:=t' }:=I.un (Un.write d he k a) (I.hok.write d he k a c)
theorem Inv.pins_of (I:Inv X pins σ H s) (h:∀p∈a,s.heap.get? p.1=some p.2/\H p.1=none/\p.1≠X.env.locals/\p.1∉X.fs/\∀v,p.2.data≠.cell v):Inv X a σ H s :=
 ⟨I.ok,I.os,I.bare,I.base,I.loc,I.cell,I.free,I.freeC,λp b=>(aY.mp b).elim (λz=>I.pin p (bG _ z)) (h p),I.hok,I.len⟩
theorem Ad6 {N:v4}(hN:N.Nodup){i j:Nat} (a:N[i]?=some x) (b:N[j]?=some x):i=j:=by
 obtain⟨e,d⟩:=bH.mp a;obtain⟨f,c⟩:=bH.mp b;exact(List.getElem_inj hN).mp (d.trans c.symm)
theorem W8 (I:Inv X pins σ H s) (hN:X.N.Nodup) (hi:X.N[i]?=some x) (hx:Loc X.env.scope x) (r:RelV v u)
 (h:∀s',Inv X pins (σ.set i (some v)) H s'->(∃a,Heap.SameBut a s.heap s'.heap/\(a=X.env.locals\/X.env.cells.lookup x=some a))->Q () s') (hf:X.fn x=true\/X.env.scope.names.lookup x=some .local:=by first | exact .inl rfl | exact .inr rfl | assumption):wpAny M A (storeName X.env x u) Q E s:=by
 obtain⟨m,S,hl⟩:=id I.loc
 have K:(X.env.scope.kind==.class||(X.env.scope.kind==.module&&X.env.locals != X.env.globals))=false:=by rw[I.ok.kind];rfl
 have C:i<σ.length:=by rw[I.len];exact(bH.mp hi).1
 have J:=I.cne
 have g:∀{a:Addr} {L:Heap},(∃o,s.heap.get? a=some o/\H a=none)->Heap.SameBut a s.heap L->HOk X.prog X.w H L:=λ{a L} ha f b ob e=>by
  obtain⟨_,_,w⟩:=ha
  refine (I.hok b ob e).stay (λc w' t q=>(f.2 c ?_).trans q) (λ_ q=>q) λ_ _ q=>q
  rintro rfl
  rcases t with rfl | t
  ·rw[w]at e;cases e
  ·rw[w]at t;cases t
 rcases hx with D | D
 ·refine wpAny_storeName_local D S (λL hn' f=>?_) K
  obtain⟨oL,_,_,hoL,_⟩:=id S
  refine h _ ⟨I.ok,I.os,I.bare,⟨λb o e n F hx=>?_,λb o e n F hx=>?_,I.base.free,λb o e hx=>?_,I.base.tups,I.base.frzs,I.base.tbls⟩,⟨_,hn',λj y v' l B T=>?_⟩,λy c e=>?_,I.free,I.freeC,λp U=>?_,g ⟨oL,hoL,I.free⟩ f,by simpa using I.len⟩ ⟨_,f,.inl rfl⟩
  ·exact(f.2 b (aQ (aP (aA e) I.ok.above))).trans (I.base.keep b o e n F hx)
  ·obtain⟨W,l⟩:=I.base.slot b o e n F hx
   exact⟨W,(f.2 b (aQ (aP (aA e) I.ok.above))).trans l⟩
  ·obtain⟨Y,l⟩:=I.base.there b o e hx
   exact⟨Y,(f.2 b (aQ (aP (aA e) I.ok.above))).trans l⟩
  ·by_cases hj:j=i
   ·subst hj
    rw[hi]at l;cases l;rw[b_ C]at B
    cases B
    exact⟨u,r,.inl ⟨D,by simp⟩⟩
   ·rw[bQ (aC hj)]at B
    obtain⟨Z,r',q⟩:=hl j y _ l B T
    refine⟨Z,r',?_⟩
    rcases q with ⟨k,e⟩ | ⟨k,c,e,z⟩
    ·refine .inl ⟨k,?_⟩
     have:y≠x:=λe=>hj (Ad6 hN l (e▸hi))
     simp[this,e]
    ·exact .inr ⟨k,c,e,z.sameBut f (J y c e)⟩
  ·obtain⟨w',z⟩:=I.cell y c e
   exact⟨w',z.sameBut f (J y c e)⟩
  ·obtain⟨e,n,R,nf,d⟩:=I.pin p U
   exact⟨(f.2 _ R).trans e,n,R,nf,d⟩
 ·have G:X.fn x=true:=by
   rcases hf with z | z
   ·exact z
   ·rw[z]at D;cases D
  obtain⟨c,t⟩:=I.ok.has x (.inl D);obtain⟨w',z⟩:=I.cell x c t
  refine wpAny_storeName_cell I.ok.kind D t z λL N f=>?_
  obtain⟨oc,P,O⟩:=id z
  refine h _ ⟨I.ok,I.os,I.bare,⟨λb o e n F hx=>?_,λb o e n F hx=>?_,I.base.free,λb o e hx=>?_,I.base.tups,I.base.frzs,I.base.tbls⟩,⟨m,S.sameBut f (aC (J x c t)),λj y v' l B T=>?_⟩,λy c' e=>?_,I.free,I.freeC,λp U=>?_,g ⟨oc,P,I.freeC x c t⟩ f,by simpa using I.len⟩ ⟨c,f,.inr t⟩
  ·exact(f.2 b (aQ (aP (aA e) (I.ok.cab x c G t)))).trans (I.base.keep b o e n F hx)
  ·obtain⟨W,l⟩:=I.base.slot b o e n F hx
   exact⟨W,(f.2 b (aQ (aP (aA e) (I.ok.cab x c G t)))).trans l⟩
  ·obtain⟨Y,l⟩:=I.base.there b o e hx
   exact⟨Y,(f.2 b (aQ (aP (aA e) (I.ok.cab x c G t)))).trans l⟩
  ·by_cases hj:j=i
   ·subst hj
    rw[hi]at l;cases l;rw[b_ C]at B
    cases B
    exact⟨u,r,.inr ⟨.inl D,c,t,N⟩⟩
   ·rw[bQ (aC hj)]at B
    obtain⟨Z,r',q⟩:=hl j y _ l B T
    refine⟨Z,r',?_⟩
    rcases q with q | ⟨k,c',e,z'⟩
    ·exact .inl q
    ·refine .inr ⟨k,c',e,z'.sameBut f ?_⟩
     rintro rfl
     exact hj (Ad6 hN l (I.ok.inj _ _ _ e t▸hi))
  ·by_cases hcc:c'=c
   ·subst hcc;exact⟨_,N⟩
   ·obtain⟨w2,z2⟩:=I.cell y _ e
    exact⟨w2,z2.sameBut f hcc⟩
  ·obtain⟨e,n,R,nf,d⟩:=I.pin p U
   refine⟨(f.2 _ ?_).trans e,n,R,nf,d⟩
   intro q;rw[q,P]at e
   exact d _ (by rw[<- (cz e)];exact O)
theorem La (I:Inv X pins σ H s) (hN:X.N.Nodup) (hi:X.N[i]?=some x) (hx:Loc X.env.scope x) (r:RelV v u)
 (h:∀a,Inv X pins (σ.set i (some v)) H a->Q () a) (hf:X.fn x=true\/X.env.scope.names.lookup x=some .local:=by first | exact .inl rfl | exact .inr rfl | assumption):wpAny M A (storeName X.env x u) Q E s :=
 W8 I hN hi hx r (λa b _=>h _ b) hf
theorem Inv.call' (I:Inv X pins σ H s) (ho:s'.os=s.os) (u:Un (frs X.stack) ch H H' s.heap s'.heap) (d:HOk X.prog X.w H' s'.heap) (hg:AllBare s'.gens)
 (a:∀b∈ch,(b∈X.ex\/X.s₀.heap.objs.size<=b)/\b≠X.env.locals/\(∀x c,X.env.cells.lookup x=some c->c≠b)/\∀p∈X.pn++pins,p.1≠b):Inv X pins σ H' s':=by
 obtain⟨f,g,h,i,e⟩:=s';subst ho;exact I.call u d hg a
end
abbrev XK:=Value->Option Addr->Hp->Prop
abbrev St:=List (Option V)
abbrev VK:=V->Hp->Prop
abbrev TE:=St->Hp->VK->Prop
abbrev TT:=St->Hp->(Bool->Hp->Prop)->Prop
abbrev TA:=St->Hp->(m7->Hp->Prop)->Prop
structure Ends where
 nx:St->Hp->Prop
 rt:VK
 bk:St->Hp->Prop:=λ_ _=>False
 ct:St->Hp->Prop:=λ_ _=>False
abbrev TS:=Ends->St->Hp->Prop
def EP (X:Cx)(pins:y_)(σ:St)(Q:VK)(u:Value)(s':t6):Prop:=∃v H',Inv X pins σ H' s'/\RelV v u/\Q v H'
def TP (X:Cx)(pins:y_)(σ:St)(Q:Bool->Hp->Prop)(b:Bool)(s':t6):Prop:=∃H',Inv X pins σ H' s'/\Q b H'
def AP (X:Cx)(pins:y_)(σ:St)(Q:m7->Hp->Prop)(us:w6)(s':t6):Prop:=∃vs H',Inv X pins σ H' s'/\Vals vs us/\Q vs H'
def SP (X:Cx)(pins:y_)(D:Ends)(f:Flow)(s':t6):Prop :=
 match f with
 | .next=>∃σ' H',Inv X pins σ' H' s'/\D.nx σ' H'
 | .brk=>∃σ' H',Inv X pins σ' H' s'/\D.bk σ' H'
 | .cont=>∃σ' H',Inv X pins σ' H' s'/\D.ct σ' H'
 | .ret u=>∃v σ' H',Inv X pins σ' H' s'/\RelV v u/\D.rt v H'
def PE (X:Cx)(e:Expr)(t:TE):Prop :=
 ∀(pins:y_) (s:t6) (σ:St) (H:Hp) (Q:VK),Inv X pins σ H s->t σ H Q->wpAny (model X.prog X.w) X.A (eval e X.env) (EP X pins σ Q) X.xe s
structure QE (X:Cx) (e:Expr) (t:TE):Prop where
 get:PE X e t
def PT (X:Cx)(e:Expr)(t:TT):Prop :=
 ∀(pins:y_) (s:t6) (σ:St) (H:Hp) (Q:Bool->Hp->Prop),Inv X pins σ H s->t σ H Q->wpAny (model X.prog X.w) X.A (isTrue e X.env (eval e X.env)) (TP X pins σ Q) X.xe s
structure QT (X:Cx) (e:Expr) (t:TT):Prop where
 get:PT X e t
def PW (X:Cx)(e:Expr)(t:TT):Prop :=
 ∀(whole:Sem Value) (pins:y_) (s:t6) (σ:St) (H:Hp) (Q:Bool->Hp->Prop),Inv X pins σ H s->t σ H Q->wpAny (model X.prog X.w) X.A (isTrue e X.env whole) (TP X pins σ Q) X.xe s
structure QW (X:Cx) (e:Expr) (t:TT):Prop where
 get:PW X e t
theorem PW.pt (h:PW X e t):PT X e t:=h _
def PA (X:Cx)(es:v_)(t:TA):Prop :=
 ∀(pos:Pos) (pins:y_) (s:t6) (σ:St) (H:Hp) (Q:m7->Hp->Prop),Inv X pins σ H s->t σ H Q->wpAny (model X.prog X.w) X.A (spliced (backTo pos (starEach es X.env))) (AP X pins σ Q) X.xe s
structure QA (X:Cx) (e:(v_)) (t:TA):Prop where
 get:PA X e t
def PS (X:Cx)(st:Stmt)(t:TS):Prop :=
 ∀(pins:y_) (s:t6) (σ:St) (H:Hp) (D:Ends),Inv X pins σ H s->t D σ H->wpAny (model X.prog X.w) X.A (exec st X.env) (SP X pins D) X.xe s
structure QS (X:Cx) (st:Stmt) (t:TS):Prop where
 get:PS X st t
def PSs (X:Cx)(st:List Stmt)(t:TS):Prop :=
 ∀(pins:y_) (s:t6) (σ:St) (H:Hp) (D:Ends),Inv X pins σ H s->t D σ H->wpAny (model X.prog X.w) X.A (execs st X.env) (SP X pins D) X.xe s
structure QSs (X:Cx) (st:(List Stmt)) (t:TS):Prop where
 get:PSs X st t
theorem thn {t:Sem c}{Q b:c->t6->Prop} (h:wpAny M A t Q E s) (d:∀a s,Q a s->b a s):wpAny M A t b E s:=aH h d λ_ _ x=>x
section
variable {X:Cx}
def Hb (i:Nat):TE:=λσ H Q=>∃v,σ[i]?=some (some v)/\Q v H
def tC (v:V):TE:=λ_ H Q=>Q v H
theorem A8z {f:Pos}(hN:X.N[i]?=some x) (hv:Vis X.env.scope x) (hd:(x==("__debug__" : Str))=false:=by decide) (hcd:(x==("__classdict__" : Str))=false:=by decide):PE X (.Name x f) (Hb i):=by
 intro j s p H Q I h;obtain⟨v,e,h⟩:=h;obtain⟨m,k,n⟩:=I.loc;obtain⟨u,r,l⟩:=n i x v hN e hv;have b:EP X _ _ Q u s:=⟨v,H,I,r,h⟩
 rcases l with ⟨d,o⟩ | ⟨d,c,g,a⟩
 ·exact wpAny_Name (wpAny_loadName_local I.ok.kind d k o b) hd
 ·rcases d with d | d
  ·exact wpAny_Name (wpAny_loadName_cell I.ok.kind d g a b) hd
  ·exact wpAny_Name (wpAny_loadName_free I.ok.kind d g a b hcd) hd
theorem A7z : PE X (.Constant (.int i) j a) (tC (.int i)):=λ_ _ _ H _ I h=>wpAny_Constant_int ⟨.int i,H,I.tok _,⟨_,rfl⟩,h⟩
theorem Bt8 : PE X (.Constant (.bool b) j a) (tC (.bl b)):=λ_ _ _ H _ I h=>Constant_bool ⟨.bl b,H,I,rfl,h⟩
theorem Bb3 : PE X (.Constant .none j a) (tC .non):=λ_ _ _ H _ I h=>Constant_none ⟨.non,H,I,rfl,h⟩
theorem A7c : PE X (.Constant (.str x) j a) (tC (.str x)):=λ_ _ _ H _ I h=>Calls.Constant_str ⟨.str x,H,I.tok _,⟨_,rfl⟩,h⟩
def Gl (X:Cx)(x:Str):Prop:=X.env.kindOf x=some .globalImplicit
theorem Io (I:Inv X pins b H s) (hg:Gl X x) (hm:X.mg x=some u) (h:Q u s)
 (hd:(x==("__debug__" : Str))=false:=by decide):wpAny (model X.prog X.w) X.A (eval (.Name x a) X.env) Q E s :=
 Calls.Name_function_global I.ok.kind hg (Calls.loadGlobal_global (by rw[I.ok.glob];exact I.mod.glob.keeps I.bk) hm h) hd
theorem J9 {E:z_} {a:Pos} (I:Inv X pins c H s) (hg:Gl X x) (hm:X.mg x=none) (hv:bootBuiltins x=some u) (h:Q u s)
 (hn:x ≠ "__name__" := by decide) (hd:(x==("__debug__" : Str))=false:=by decide):wpAny (model X.prog X.w) X.A (eval (.Name x a) X.env) Q E s:=by
 obtain⟨e,d,b⟩:=I.mod.blt
 exact Calls.Name_function_global I.ok.kind hg (Calls.loadGlobal_builtin (by rw[I.ok.glob];exact I.mod.glob.keeps I.bk) hm (by rw[I.ok.blt];exact d.keeps I.bk) ((b x hn).trans hv) h) hd
theorem Bj1 (hg:Gl X x) (hm:X.mg x=some u) (r:RelV v u) (hd:(x==("__debug__" : Str))=false:=by decide):PE X (.Name x a) (tC v) :=
 λ_ _ _ H _ I h=>Io I hg hm ⟨v,H,I,r,h⟩ hd
theorem Bd7 {a:Pos}(hg:Gl X x) (hm:X.mg x=none) (hv:bootBuiltins x=some u) (r:RelV v u) (hn:x ≠ "__name__" := by decide) (hd:(x==("__debug__" : Str))=false:=by decide):PE X (.Name x a) (tC v) :=
 λ_ _ _ H _ I h=>J9 I hg hm hv ⟨v,H,I,r,h⟩ hn hd
variable {a b:Expr}{ta tb:TE}{pos:Pos}
def tB (t:TE):TT:=λσ H Q=>t σ H λx H1=>∃c,x=.bl c/\Q c H1
theorem Tt (h:QE X e t) (he:∀whole,isTrue e X.env whole=(do let v <- whole;standAt e.pos;holding [v] (truthy v)):=by intro _;rfl):QT X e (tB t):=by
 refine⟨?_⟩
 intro a s σ H Q I f
 refine isTrue_plain (thn (h.1 _ s _ H _ I f) λv s1 ⟨x,g,b,c,i⟩=>?_) (he _)
 obtain⟨d,rfl,q⟩:=i
 cases c
 exact iw ⟨g,b,q⟩
variable {tA tB':TT}{rest:v_}
def B4u (t u:TT):TT:=λσ H Q=>t σ H λc H1=>if c=true then u σ H1 Q else Q false H1
def tOr (t u:TT):TT:=λσ H Q=>t σ H λc H1=>if c=true then Q true H1 else u σ H1 Q
def B3v (t:TT):TT:=λσ H Q=>t σ H λc H1=>Q (!c) H1
theorem Bm4 (ha:QT X a tA):QW X (.BoolOp .And [a] pos) tA:=by
 refine⟨?_⟩
 intro f b s g H Q I h
 refine isTrue_and (thn (ha.1 _ s _ H Q I h) λc d e=>?_)
 cases c with
 | true=>exact isTrue_and_nil e
 | false=>exact e
theorem A9n (ha:QT X a tA):QW X (.BoolOp .Or [a] pos) tA:=by
 refine⟨?_⟩
 intro f b s g H Q I h
 refine isTrue_or (thn (ha.1 _ s _ H Q I h) λc d e=>?_)
 cases c with
 | false=>exact isTrue_or_nil e
 | true=>exact e
theorem B0p (ha:QT X a tA)(hb:QW X (.BoolOp .And (b::rest) pos) tB'):QW X (.BoolOp .And (a::b::rest) pos) (B4u tA tB'):=by
 obtain⟨hb⟩:=hb
 refine⟨?_⟩
 intro g d s k H Q I h
 refine isTrue_and (thn (ha.1 _ s _ H _ I h) λc i ⟨j,f,e⟩=>?_)
 cases c with
 | true=>exact hb _ _ _ _ _ Q f e
 | false=>trivial
theorem Bc1 (ha:QT X a tA)(hb:QW X (.BoolOp .Or (b::rest) pos) tB'):QW X (.BoolOp .Or (a::b::rest) pos) (tOr tA tB'):=by
 obtain⟨hb⟩:=hb
 refine⟨?_⟩
 intro g d s k H Q I h
 refine isTrue_or (thn (ha.1 _ s _ H _ I h) λc i ⟨j,f,e⟩=>?_)
 cases c with
 | true=>assumption
 | false=>exact hb _ _ _ _ _ Q f e
theorem A6z (ha:QT X a tA):QT X (.UnaryOp .Not a pos) (B3v tA):=by
 refine⟨?_⟩
 intro b s c H Q I h;exact isTrue_not (ha.1 _ s _ H _ I h)
def tIf (t:TT)(ta tb:TE):TE:=λσ H Q=>t σ H λc H1=>if c=true then ta σ H1 Q else tb σ H1 Q
theorem Um (hc:QT X c tA) (ha:QE X a ta) (hb:QE X b tb):QE X (.IfExp c a b pos) (tIf tA ta tb):=by
 obtain⟨ha⟩:=ha;obtain⟨hb⟩:=hb
 refine⟨?_⟩
 intro g s i H Q I h
 refine wpAny_IfExp (thn (hc.1 _ s _ H _ I h) λd k ⟨j,f,e⟩=>?_)
 cases d with
 | true=>exact ha _ _ _ _ Q f e
 | false=>exact hb _ _ _ _ Q f e
end
def SqL (K:v9)(H:Hp)(a:Addr)(xs:m7):Prop :=
 Rd H a (.lst xs) \/
  ∃(o:Obj) (its:v7) (n:Nat),K.lookup a=some o/\o.cls=.type "list" /\ o.dict=none/\o.data=.seq its n/\its.size<=sizeLine/\Vals xs its.toList
def SqT (K:v9)(H:Hp)(a:Addr)(xs:m7):Prop :=
 Rd H a (.tup xs) \/
  ∃(o:Obj) (its:v7) (n:Nat),K.lookup a=some o/\o.cls=.type "tuple" /\ o.data=.seq its n/\its.size<=sizeLine/\Vals xs its.toList
noncomputable def B6h:Value->Option V
 | .none=>some .non
 | .bool b=>some (.bl b)
 | .int i _=>some (.int i)
 | .str x _=>some (.str x)
 | .bytes b _=>some (.byt b)
 | .float b _=>some (.flt b)
 | .ref a=>some (.ref a)
 | .type n=>some (.ty n)
 | _=>none
theorem RelV.abs (r:RelV x u):B6h u=some x:=by
 cases x with
 | non=>cases r;rfl
 | bl _=>cases r;rfl
 | int _=>obtain⟨t,rfl⟩:=r;rfl
 | str _=>obtain⟨t,rfl⟩:=r;rfl
 | byt _=>obtain⟨t,rfl⟩:=r;rfl
 | flt _=>obtain⟨t,rfl⟩:=r;rfl
 | ref _=>cases r;rfl
 | ty _=>cases r;rfl
theorem RelV.inj (r:RelV x u) (q:RelV y u):x=y:=cz (r.abs.symm.trans q.abs)
theorem Vals.inj:∀{xs ys:m7}{us:w6},Vals xs us->Vals ys us->xs=ys
 | _,_,_,.nil,.nil=>rfl
 | _,_,_,.cons r t,.cons r' t'=>by rw[r.inj r',Vals.inj t t']
section
variable {X:Cx}{pins:y_}{σ:St}{H:Hp}{s:t6}{a:Addr}{xs ys:m7}
theorem SqL.of {K:v9}(h:H a=some (.lst xs)):SqL K H a xs:=.inl (.inl h)
theorem SqT.of {K:v9}(h:H a=some (.tup xs)):SqT K H a xs:=.inl (.inl h)
theorem Inv.list (I:Inv X pins σ H s)(h:SqL X.K H a xs):∃b:w6,Vals xs b/\PlainL s.heap a b.toArray/\xs.length<=sizeLine:=by
 rcases h with h | ⟨o,b,n,d,c,f,i,g,r⟩
 ·obtain⟨z,b,n,r,e⟩:=h.ok I.hok
  exact⟨b,r,⟨_,n,e,rfl,rfl,rfl⟩,z⟩
 ·refine⟨b.toList,r,⟨o,n,I.kIn a o d,c,f,by trivial⟩,?_⟩
  have e:=r.length
  simp_all
theorem Inv.tuple (I:Inv X pins σ H s)(h:SqT X.K H a xs):∃b:w6,Vals xs b/\IsTup s.heap a b.toArray/\xs.length<=sizeLine:=by
 rcases h with h | ⟨o,b,n,d,c,g,f,r⟩
 ·obtain⟨z,b,r,p⟩:=h.ok I.hok
  exact⟨b,r,p.tup,z⟩
 ·refine⟨b.toList,r,⟨o,I.kIn a o d,c,n,by trivial⟩,?_⟩
  have e:=r.length
  simp_all
theorem Inv.list_inj (I:Inv X pins σ H s)(h:SqL X.K H a xs)(h':SqL X.K H a ys):xs=ys:=by
 obtain⟨c,r,⟨o,n,e,_,_,d⟩,_⟩:=I.list h;obtain⟨b,f,⟨i,j,k,_,_,g⟩,_⟩:=I.list h'
 have:c=b:=by simp_all
 subst this;exact r.inj f
theorem Inv.tuple_inj (I:Inv X pins σ H s)(h:SqT X.K H a xs)(h':SqT X.K H a ys):xs=ys:=by
 obtain⟨c,r,⟨o,e,_,n,d⟩,_⟩:=I.tuple h;obtain⟨b,f,⟨i,j,_,k,g⟩,_⟩:=I.tuple h'
 have:c=b:=by simp_all
 subst this;exact r.inj f
end
noncomputable abbrev Cx.wish (X:Cx) (E:z_):Cx:={ X with xe:=E }
abbrev Cx.nox (X:Cx):Cx:=X.wish λ_ _=>False
theorem Cx.Ok.wish {X:Cx}(a:X.Ok)(E:z_):(X.wish E).Ok :=
 ⟨a.mod,a.kind,a.glob,a.blt,a.above,a.inj,a.has,a.cab,a.hd,a.frames,a.stk,a.exf,a.bs,a.bsz,a.noex,a.exfs,a.funs,a.frf,a.tab⟩
theorem Cx.Ok.unwish {X:Cx} (a:(X.wish E).Ok):X.Ok :=
 ⟨a.mod,a.kind,a.glob,a.blt,a.above,a.inj,a.has,a.cab,a.hd,a.frames,a.stk,a.exf,a.bs,a.bsz,a.noex,a.exfs,a.funs,a.frf,a.tab⟩
section
variable {X:Cx}{pins:y_}{σ:St}{H:Hp}{s:t6}{E:z_}
theorem Inv.wish (I:Inv X pins σ H s)(E:z_):Inv (X.wish E) pins σ H s:=⟨I.ok.wish E,I.os,I.bare,I.base,I.loc,I.cell,I.free,I.freeC,I.pin,I.hok,I.len⟩
theorem Inv.unwish (I:Inv (X.wish E) pins σ H s):Inv X pins σ H s:=⟨I.ok.unwish,I.os,I.bare,I.base,I.loc,I.cell,I.free,I.freeC,I.pin,I.hok,I.len⟩
theorem SP.unwish (h:SP (X.wish E) pins D f s'):SP X pins D f s':=by
 cases f with
 | next=>obtain⟨a,b,I,q⟩:=h;exact⟨a,b,I.unwish,q⟩
 | brk=>obtain⟨a,b,I,q⟩:=h;exact⟨a,b,I.unwish,q⟩
 | cont=>obtain⟨a,b,I,q⟩:=h;exact⟨a,b,I.unwish,q⟩
 | ret u=>obtain⟨v,a,b,I,r,q⟩:=h;exact⟨v,a,b,I.unwish,r,q⟩
theorem PSs.nox {st:List Stmt} (h:PSs X.nox st t):PSs X st t:=λa s c H D I b =>
 aH (h _ s _ H D (I.wish _) b) (λ_ _ q=>q.unwish) λ_ _ z=>False.elim z
end
section
variable {X:Cx}{st:Stmt}{rest:List Stmt}{t u:TS}{e:Expr}{te:TE}{pos:Pos}
def Wu:TS:=λD σ H=>D.nx σ H
def V6 (t u:TS):TS:=λD σ H=>t { D with nx:=u D } σ H
theorem Bk0:PSs X [] Wu:=λ_ _ a H _ I h=>gm ⟨a,H,I,h⟩
theorem Ae (h1:QS X st t)(h2:QSs X rest u):QSs X (st::rest) (V6 t u):=by
 obtain⟨h2⟩:=h2
 refine⟨?_⟩
 intro a s d H D I h
 refine iy (thn (h1.1 _ s _ H _ I h) λf e q=>?_)
 cases f with
 | next =>
  obtain⟨c,g,b,q⟩:=q;exact h2 _ _ _ _ D b q
 | ret v=>exact q
 | brk=>exact q
 | cont=>exact q
theorem Ah (h1:QS X st t):QSs X [st] t:=by
 refine⟨?_⟩
 intro a s c H D I h
 refine iy (thn (h1.1 _ s _ H D I h) λf b q=>?_)
 cases f with
 | next=>exact gm q
 | ret v=>grind
 | brk=>grind
 | cont=>grind
theorem Inv.quiet (I:Inv X pins a H s):interactive X.env=false:=by simp[interactive,I.ok.kind]
def Rf (te:TE):TS:=λD σ H=>te σ H λ_ H1=>D.nx σ H1
theorem G5 (he:QE X e te)(hs:swapsWith e none pos.line X.env=pure false:=by rfl):QS X (.Expr e pos) (Rf te):=by
 refine⟨?_⟩
 intro a s c H D I h
 exact wpAny_Expr_any (thn (he.1 _ s _ H _ I h) λv g ⟨x,f,d,i,b⟩=>⟨c,f,d,b⟩) I.quiet hs
def B4h (te:TE):TS:=λD σ H=>te σ H D.rt
theorem Ar (he:QE X e te):QS X (.Return (some e) pos) (B4h te):=by
 refine⟨?_⟩
 intro a s c H D I h
 exact wpAny_Return_some (thn (he.1 _ s _ H _ I h) λv i ⟨x,f,d,g,b⟩=>⟨x,c,f,d,g,b⟩)
def A2h (c:TT)(t u:TS):TS:=λD σ H=>c σ H λb H1=>if b=true then t D σ H1 else u D σ H1
theorem Cu (hc:QT X c f) (ha:QSs X a t) (hb:QSs X b u):QS X (.If c a b pos) (A2h f t u):=by
 obtain⟨ha⟩:=ha;obtain⟨hb⟩:=hb
 refine⟨?_⟩
 intro i s j H D I h
 refine wpAny_If (thn (hc.1 _ s _ H _ I h) λd l ⟨k,g,e⟩=>?_)
 cases d with
 | true=>exact ha _ _ _ _ D g e
 | false=>exact hb _ _ _ _ D g e
def Am7:TS:=λ_ _ _=>False
theorem A4h:PS X st Am7:=λ_ _ _ _ _ _ h=>h.elim
end
abbrev TG:=V->St->Hp->(St->Hp->Prop)->Prop
abbrev TGs:=m7->St->Hp->(St->Hp->Prop)->Prop
def PG (X:Cx)(target:Expr)(t:TG):Prop :=
 ∀
  (pins:y_) (s:t6) (σ:St) (H:Hp) (v:V) (u:Value) (Q:St->Hp->Prop),Inv X pins σ H s->RelV v u->t v σ H Q ->
  wpAny (model X.prog X.w) X.A (assign target X.env u) (λ_ s'=>∃σ' H',Inv X pins σ' H' s'/\Q σ' H') X.xe s
structure QG (X:Cx) (e:Expr) (t:TG):Prop where
 get:PG X e t
def PGs (X:Cx)(ts:v_)(t:TGs):Prop :=
 ∀
  (pins:y_) (s:t6) (σ:St) (H:Hp) (vs:m7) (us:w6) (Q:St->Hp->Prop),Inv X pins σ H s->Vals vs us->t vs σ H Q ->
  wpAny (model X.prog X.w) X.A (assignInOrder ((assignEach ts X.env).map (·.2)) us) (λ_ s'=>∃σ' H',Inv X pins σ' H' s'/\Q σ' H') X.xe s
structure QGs (X:Cx) (e:(v_)) (t:TGs):Prop where
 get:PGs X e t
abbrev B4v:=V->V->V->Hp->(Hp->Prop)->Prop
def B4q (X:Cx)(t:B4v):Prop :=
 ∀
  (pins:y_) (s:t6) (σ:St) (H:Hp) (o i v:V) (ov iv u:Value) (Q:Hp->Prop),Inv X pins σ H s->RelV o ov->RelV i iv->RelV v u->t o i v H Q ->
  wpAny (model X.prog X.w) X.A (setItem ov iv u) (λ_ s'=>∃H',Inv X pins σ H' s'/\Q H') X.xe s
section
variable {X:Cx}{pos:Pos}
def Ez (i:Nat):TG:=λv σ H Q=>Q (σ.set i (some v)) H
theorem Be (hN:X.N.Nodup) (hi:X.N[i]?=some x:=by exact rfl) (hx:Loc X.env.scope x:=by first | exact Or.inl rfl | exact Or.inr rfl) (hf:X.fn x=true\/X.env.scope.names.lookup x=some .local:=by first | exact .inl rfl | exact .inr rfl | assumption):QG X (.Name x pos) (Ez i):=by
 refine⟨?_⟩
 intro a s c H v u Q I r h
 exact wpAny_assign_Name (La I hN hi hx r (λd b=>⟨_,H,b,h⟩) hf)
noncomputable def Ao6:TGs:=λvs σ H Q=>vs=[]/\Q σ H
noncomputable def K3 (t:TG) (u:TGs):TGs:=λvs σ H Q=>∃v r,vs=v::r/\t v σ H λσ' H'=>u r σ' H' Q
theorem O5:QGs X [] Ao6:=by
 refine⟨?_⟩
 intro a s b H d c Q I r h;obtain⟨e,h⟩:=h;exact assignInOrder_nil ⟨b,H,I,h⟩
theorem Ep (h1:QG X e t) (h2:QGs X es u)
 (hs:(assignEach (e::es) X.env).map (·.2)=assign e X.env::(assignEach es X.env).map (·.2):=by rfl):QGs X (e::es) (K3 t u):=by
 obtain⟨h2⟩:=h2
 refine⟨?_⟩
 intro a s i H j n Q I r h;obtain⟨v,l,f,h⟩:=h;subst f
 cases r with
 | cons r d =>
  rw[hs]
  refine j7 (thn (h1.1 _ s _ H _ _ _ I r h) λ_ k ⟨c,m,g,b⟩=>?_)
  exact h2 _ _ _ _ _ _ Q g d b
def Ba2 (K:v9)(n:Nat)(t:TGs):TG:=λv σ H Q=>∃a xs,v=.ref a/\SqT K H a xs/\xs.length=n/\t xs σ H Q
theorem B3b {k:Nat} (hc:X.calm=true) (h:PGs X es t)
 (hn:(assignEach es X.env).length=n:=by rfl) (hst:(assignEach es X.env).findIdx? (·.1)=none:=by rfl):PG X (.Tuple es k pos) (Ba2 X.K n t):=by
 intro d s x H v u Q I r c;obtain⟨a,y,j,l,m,c⟩:=c;subst j
 cases r
 obtain⟨g,i,q,z⟩:=I.tuple l
 refine assign_Tuple_tuple (I.ok.hd hc) q (by simp[hn,<- m,i.length]) hst λp w=>?_
 have f:Inv X _ _ H { s with heap:=p }:=I.kept λb o e=>w b o (aQ (aA e)) e
 exact h _ _ _ H _ _ Q f (by trivial) c
def B3y (to ti:TE)(t:B4v):TG:=λv σ H Q=>to σ H λo H1=>ti σ H1 λi H2=>t o i v H2 λH3=>Q σ H3
theorem Ao4 (ho:QE X o e) (hi:QE X i d) (hs:B4q X t)
 (ha:∀v,assign (.Subscript o i pos) X.env v=(do
  let a <- holding [v] (eval o X.env)
  let b <- holding [v,a] (eval i X.env)
  standAt pos
  holding [v,a,b] (setItem a b v)
  release [v,a,b] []):=by intro _;rfl):QG X (.Subscript o i pos) (B3y e d t):=by
 refine⟨?_⟩
 intro c s m H v u Q I r h;rw[ha]
 refine aj (bA (thn (ho.1 _ s _ H _ I h) λa z ⟨x,C,j,k,l⟩=>?_))
 refine aj (bA (thn (hi.1 _ _ _ _ _ j l) λb D ⟨y,A,g,p,n⟩=>?_))
 refine aj (cV (aj (bA (thn (hs _ _ _ _ x y v _ _ u _ g k p r n) λ_ B ⟨q,w,f⟩=>?_))))
 exact wpAny_release ⟨m,q,w,f⟩
def Zx (te:TE)(g:TG):TS:=λD σ H=>te σ H λx H1=>g x σ H1 D.nx
theorem X7 (he:QE X e b) (hg:QG X a g) (hs:swapsWithSole [a] e pos.line X.env=pure false:=by rfl) (hw:swappedStores [a] e X.env=pure none:=by rfl)
 (h1:(assignEach [a] X.env).map (·.2)=[assign a X.env]:=by rfl):QS X (.Assign [a] e pos) (Zx b g):=by
 refine⟨?_⟩
 intro c s k H D I h
 refine wpAny_Assign_stores (thn (he.1 _ s _ H _ I h) λv l ⟨x,m,d,i,f⟩=>?_) hs hw
 rw[h1]
 exact thn (hg.1 _ _ _ _ x v _ d i f) λ_ j q=>q
theorem An (hN:X.N.Nodup) (he:QE X e b) (hi:X.N[i]?=some x:=by exact rfl) (hx:Loc X.env.scope x:=by first | exact Or.inl rfl | exact Or.inr rfl) (hs:swapsWith e (some (.Name x a)) pos.line X.env=pure false:=by rfl) (hf:X.fn x=true\/X.env.scope.names.lookup x=some .local:=by first | exact .inl rfl | exact .inr rfl | assumption) :
 QS X (.Assign [.Name x a] e pos) (Zx b (Ez i)):=by
 refine⟨?_⟩
 intro c s l H D I h
 refine wpAny_Assign_Name (thn (he.1 _ s _ H _ I h) λv m ⟨y,j,f,g,k⟩=>?_) hs
 exact La f hN hi hx g (λn d=>⟨_,j,d,k⟩) hf
def B4f (i j:Nat)(ta:TA):TS:=λD σ H=>ta σ H λvs H1=>∃v w,vs=[v,w]/\D.nx ((σ.set i (some v)).set j (some w)) H1
theorem B0w (hc:X.calm=true) (hN:X.N.Nodup) (hi:X.N[i]?=some x) (hj:X.N[j]?=some y) (hij:i≠j)
 (hx:X.env.scope.names.lookup x=some .local) (hy:X.env.scope.names.lookup y=some .local) (ha:QA X [a,b] C)
 (hw:swappedStores [.Tuple [.Name x m,.Name y r] n t] (.Tuple [a,b] k2 d) X.env=pure (some [x,y]))
 (hs:swapsWithSole [.Tuple [.Name x m,.Name y r] n t] (.Tuple [a,b] k2 d) pos.line X.env=pure false:=by rfl) :
 QS X (.Assign [.Tuple [.Name x m,.Name y r] n t] (.Tuple [a,b] k2 d) pos) (B4f i j C):=by
 refine⟨?_⟩
 intro c s B H D I h;rw[exec_Assign_arm]
 refine aj (cV ?_)
 rw[hs]
 refine aj (ak ?_)
 rw[if_neg (by decide)]
 refine aj (Tuple_ (thn (ha.1 _ c s B H _ I h) λL f ⟨vs,E,M,F,l⟩=>?_))
 obtain⟨v,w,G,l⟩:=l;subst G
 obtain⟨k,g,rfl,K,u⟩:∃k g,L=[k,g]/\RelV v k/\RelV w g:=by
  cases F with
  | cons p q =>
   cases q with
   | cons p' O =>
    cases O
    grind
 refine c7 ?_ (by show 2<=sizeLine;decide)
 have J:Inv X c B E { f with heap:=f.heap.push { cls:=.type "tuple",data:=.seq [k,g].toArray } }:=M.kept (t':=f.toks) λb o e=>aB _ e
 rw[hw]
 refine aj (ak ?_)
 show wpAny (model X.prog X.w) X.A (do rule "assign.swapped-stores";let items <- unpackItems (.ref f.heap.objs.size) 2 none;assignInOrder [λv=>bindName X.env y v,λv=>bindName X.env x v] items.reverse;pure Flow.next) _ _ _
 refine aj (cP (aj (unpackItems_tuple (items:=#[k,g]) (I.ok.hd hc) (IsTup.new _ _) λh' z=>?_)))
 refine aj (j7 (wpAny_bindName (La (J.kept (t':=f.toks) λb o e=>z b o (aQ (aA e)) e) hN hj (.inl hy) u (λs2 N=>?_) (.inr hy))))
 refine j7 (wpAny_bindName (La N hN hi (.inl hx) K (λs3 A=>assignInOrder_nil (ak ?_)) (.inr hx)))
 rw[List.set_comm _ _ (aC hij)]at A;exact⟨_,E,A,l⟩
end
structure It where
 go:Nat->Hp->Prop
 yld:Nat->Hp->V->Hp->Prop
 stop:Nat->Hp->Prop
def Ij (X:Cx)(pins:y_)(H:Hp)(b:Addr):Prop :=
 H b=none/\b≠X.env.locals/\b∉X.fs/\(b∈X.ex\/X.s₀.heap.objs.size<=b)/\(∀x c,X.env.cells.lookup x=some c->c≠b)/\∀p∈X.pn++pins,p.1≠b
theorem Inv.fpOk (I:Inv X pins d H s) (hb:s.heap.objs.size<=b) (hn:H' b=none):Ij X pins H' b:=by
 refine⟨hn,bT (aP I.lt hb),I.nofs hb,.inr (aq I.sz hb),λx c e z=>?_,λp a z=>?_⟩
 ·obtain⟨v,q⟩:=I.cell x c e
  exact absurd (aP q.lt (by simp_all)) (bj _)
 ·exact absurd (aP (aA (I.pin p a).1) (by simp_all)) (bj _)
structure Turn (P:u9) (w:World) (K:v9) (tg:Expr) (J:It) (fp:v6) (it:Addr) (tn:Nat->Heap->Prop):Prop where
 mem:it∈fp
 obj:∀i h,tn i h->∀b∈fp,∃o,h.get? b=some o/\∀v,o.data≠.cell v
 keep:∀i h h',tn i h->(∀b∈fp,∀o,h.get? b=some o->h'.get? b=some o)->tn i h'
 item:∀(X:Cx),X.prog=P->X.w=w->X.K=K->X.calm=true->∀(i:Nat) (pins:y_) (s:t6) (σ:St) (H:Hp) (E:z_),Inv X pins σ H s->(∀b∈fp,Ij X pins H b)->tn i s.heap->J.go i H ->
  wpAny (model P w) X.A (pyNext (.ref it)) (λr s1=>∃u,r=some u /\
   wpAny (model P w) X.A (letOwnedTupleGo tg (.ref it) u) (λ_ s2=>∃x H',Inv X pins σ H' s2/\RelV x u/\J.yld i H x H'/\tn (i+1) s2.heap/\∀b∈fp,H' b=none) E s1) E s
 done:∀(X:Cx),X.prog=P->X.w=w->X.K=K->X.calm=true->∀(i:Nat) (pins:y_) (s:t6) (σ:St) (H:Hp) (E:z_),Inv X pins σ H s->(∀b∈fp,Ij X pins H b)->tn i s.heap->J.stop i H ->
  wpAny (model P w) X.A (pyNext (.ref it)) (λr s1=>r=none/\Inv X pins σ H s1) E s
 self:∀(A:q9) (i:Nat) (s:t6) (Q:z_) (E:z_),tn i s.heap->Q (.ref it) s->wpAny (model P w) A (pyIter (.ref it)) Q E s
abbrev TI:=St->Hp->(It->Hp->Prop)->Prop
def PIE (X:Cx)(pins:y_)(σ:St)(tg:Expr)(R:It->Hp->Prop)(itv:Value)(s2:t6):Prop :=
 ∃(it:Addr) (fp:v6) (tn:Nat->Heap->Prop) (J:It) (H':Hp),itv=.ref it/\Inv X pins σ H' s2/\Turn X.prog X.w X.K tg J fp it tn/\tn 0 s2.heap/\(∀b∈fp,Ij X pins H' b)/\R J H'
def PI (X:Cx)(tg iter:Expr)(wi:TI):Prop :=
 ∀
  (pins:y_) (s:t6) (σ:St) (H:Hp) (R:It->Hp->Prop),Inv X pins σ H s->wi σ H R ->
  wpAny (model X.prog X.w) X.A (eval iter X.env) (λv s1=>wpAny (model X.prog X.w) X.A (pyIter v) (PIE X pins σ tg R) X.xe s1) X.xe s
structure QI (X:Cx) (tg iter:Expr) (wi:TI):Prop where
 get:PI X tg iter wi
theorem Ae0 (ho:s.heap.get? it=some o) (hc:o.cls=.type n) (hd:o.data=.fields vs)
 (hn:["enumerate", "zip", "dict_itemiterator", "dict_reverseitemiterator", "odict_iterator", "itertools.zip_longest", "itertools.pairwise"].contains n=false) (a:Q () s):wpAny M A (letOwnedTupleGo b (.ref it) u) Q E s:=by
 cases b <;> first
  | exact ak a
  | (cases u <;> first
   | exact ak a
   | (
    refine aj (wpAny_load ho ?_)
    rw[hc,hd]
    show wpAny M A (if (["enumerate", "zip", "dict_itemiterator", "dict_reverseitemiterator", "odict_iterator", "itertools.zip_longest", "itertools.pairwise"].contains n&&vs[0]?==some _)=true then _ else _) Q E s
    rw[if_neg (by intro h;rw[hn]at h;cases h)]
    exact ak a))
noncomputable def Itl (K:v9) (a:Addr):It :=
 ⟨λi H=>∃xs x,SqL K H a xs/\xs[i]?=some x,λi H x H'=>H'=H/\∀xs,SqL K H a xs->xs[i]?=some x,λi H=>∃xs,SqL K H a xs/\xs.length<=i⟩
noncomputable def Itt (K:v9) (a:Addr):It :=
 ⟨λi H=>∃xs x,SqT K H a xs/\xs[i]?=some x,λi H x H'=>H'=H/\∀xs,SqT K H a xs->xs[i]?=some x,λi H=>∃xs,SqT K H a xs/\xs.length<=i⟩
noncomputable def Itr (lo:Int) (n:Nat):It:=⟨λi _=>i<n,λi H x H'=>H'=H/\x=.int (lo+i),λi _=>n<=i⟩
theorem A2a {P:u9}{w:World}{K:v9}{tg:Expr}(a it:Addr):Turn P w K tg (Itl K a) [it] it (λi h=>h.IsListIter it a i) where
 mem:=by simp
 obj:=λi h st b hb=>by
  have e:b=it:=by simpa using hb
  subst e;obtain⟨o,e,c,d⟩:=st
  exact⟨o,e,λv z=>by rw[d]at z;cases z⟩
 keep:=λi h h' st k=>st.at λo e=>k it (by simp) o e
 item:=by
  intro X hP hw hK hc i pins s σ H E I hf st hg;subst hP hw hK;obtain⟨xs,x,hq,hx⟩:=hg;obtain⟨its,rv,p,hz⟩:=I.list hq;obtain⟨u,hu,ru⟩:=rv.get hx
  obtain⟨f0,f1,f2,f3,f4,f5⟩:=hf it (by simp)
  refine wpAny_pyNext_list_item st p.isList (x:=u) (by simpa using hu) λh' st' sb=>?_
  have I1:Inv X pins σ H { s with heap:=h' }:=I.turned (t':=s.toks) (λb o hb e=>(sb.2 b hb).trans e) f0 f1 f3 f4 f5
  obtain⟨o,e,c,d⟩:=id st'
  exact⟨u,rfl,Ae0 (s:={ s with heap:=h' }) e c d (by decide) ⟨x,H,I1,ru,⟨rfl,λys hy=>by rw[I.list_inj hy hq];exact hx⟩,st',λb hb=>(hf b hb).1⟩⟩
 done:=by
  intro X hP hw hK hc i pins s σ H E I hf st hg;subst hP hw hK;obtain⟨xs,hq,hx⟩:=hg;obtain⟨its,rv,p,hz⟩:=I.list hq
  obtain⟨f0,f1,f2,f3,f4,f5⟩:=hf it (by simp)
  have hl:=rv.length
  exact wpAny_pyNext_list_end (I.ok.hd hc) st p.isList (by simp;lia) λh' eb=>⟨rfl,I.turned (t':=s.toks) (λb o hb e=>eb b o hb e) f0 f1 f3 f4 f5⟩
 self:=λ_ _ _ _ _ st h=>wpAny_pyIter_listiter st h
theorem Aj3 {P:u9}{w:World}{K:v9}{tg:Expr}(a it:Addr):Turn P w K tg (Itt K a) [it] it (λi h=>h.IsTupleIter it a i) where
 mem:=by simp
 obj:=λi h st b hb=>by
  have e:b=it:=by simpa using hb
  subst e;obtain⟨o,e,c,d⟩:=st
  exact⟨o,e,λv z=>by rw[d]at z;cases z⟩
 keep:=λi h h' st k=>st.at λo e=>k it (by simp) o e
 item:=by
  intro X hP hw hK hc i pins s σ H E I hf st hg;subst hP hw hK;obtain⟨xs,x,hq,hx⟩:=hg;obtain⟨its,rv,p,hz⟩:=I.tuple hq;obtain⟨u,hu,ru⟩:=rv.get hx
  obtain⟨f0,f1,f2,f3,f4,f5⟩:=hf it (by simp)
  refine wpAny_pyNext_tuple_item st (show s.heap.IsTuple a its.toArray from p) (x:=u) (by simpa using hu) λh' st' sb=>?_
  have I1:Inv X pins σ H { s with heap:=h' }:=I.turned (t':=s.toks) (λb o hb e=>(sb.2 b hb).trans e) f0 f1 f3 f4 f5
  obtain⟨o,e,c,d⟩:=id st'
  exact⟨u,rfl,Ae0 (s:={ s with heap:=h' }) e c d (by decide) ⟨x,H,I1,ru,⟨rfl,λys hy=>by rw[I.tuple_inj hy hq];exact hx⟩,st',λb hb=>(hf b hb).1⟩⟩
 done:=by
  intro X hP hw hK hc i pins s σ H E I hf st hg;subst hP hw hK;obtain⟨xs,hq,hx⟩:=hg;obtain⟨its,rv,p,hz⟩:=I.tuple hq
  obtain⟨f0,f1,f2,f3,f4,f5⟩:=hf it (by simp)
  have hl:=rv.length
  exact wpAny_pyNext_tuple_end (I.ok.hd hc) st (show s.heap.IsTuple a its.toArray from p) (by simp;lia) λh' eb=>⟨rfl,I.turned (t':=s.toks) (λb o hb e=>eb b o hb e) f0 f1 f3 f4 f5⟩
 self:=λ_ _ _ _ _ st h=>wpAny_pyIter_tupleiter st h
theorem Ar5 {P:u9}{w:World}{K:v9}{tg:Expr}(it:Addr)(lo:Int)(n:Nat):Turn P w K tg (Itr lo n) [it] it (λi h=>IsRangeIter h it (lo+(i:Nat)*1) ((n:Int)-(i:Nat)) 1) where
 mem:=by simp
 obj:=λi h st b hb=>by
  have e:b=it:=by simpa using hb
  subst e
  exact⟨_,st,λv z=>by
   have z':Data.fields _=Data.cell v:=z
   cases z'⟩
 keep:=λi h h' st k=>k it (by simp) _ st
 item:=by
  intro X hP hw hK hc i pins s σ H E I hf st hg;subst hP hw hK
  obtain⟨f0,f1,f2,f3,f4,f5⟩:=hf it (by simp)
  have W:=Walks.range (prog:=X.prog) (w:=X.w) (I.ok.hd hc) it lo 1 n
  refine W.item i s _ _ hg st λv h' tk hv st' kk=>?_
  obtain⟨t,rfl⟩:=hv
  have I1:Inv X pins σ H { s with heap:=h',toks:=tk }:=I.turned (λb o hb e=>kk b o (by simpa using hb) e) f0 f1 f3 f4 f5
  refine⟨_,rfl,Ae0 (s:={ s with heap:=h',toks:=tk }) (n := "range_iterator") st' rfl rfl (by decide) ⟨.int (lo+i),H,I1,⟨t,?_⟩,⟨rfl,rfl⟩,st',λb hb=>(hf b hb).1⟩⟩
  rw[Int.mul_one]
 done:=by
  intro X hP hw hK hc i pins s σ H E I hf st hg;subst hP hw hK
  obtain⟨f0,f1,f2,f3,f4,f5⟩:=hf it (by simp)
  exact wpAny_pyNext_range_end (I.ok.hd hc) st (by have:n<=i:=hg;lia) λh' eb=>⟨rfl,I.turned (t':=s.toks) (λb o hb e=>eb b o hb e) f0 f1 f3 f4 f5⟩
 self:=λ_ _ _ _ _ st h=>wpAny_pyIter_rangeiter st h
section
variable {X:Cx}{tg:Expr}
theorem A6u {lo hi:Int} (I:Inv X pins c H s) (h1:-(2 ^ 62)<=lo) (h2:lo<2 ^ 62) (d:-(2 ^ 62)<=hi) (f:hi<2 ^ 62)
 (q:R (Itr lo (hi-lo).toNat) H):wpAny (model X.prog X.w) X.A (pyIter (.ref s.heap.objs.size)) (PIE X pins c tg R) E { s with heap:=s.heap.push { cls:=.type "range",data:=.fields #[.int lo t,.int hi u,.int 1 v] },toks:=tk }:=by
 refine wpAny_pyIter_range (IsRange.new ..) (small_one h1 h2 d f) ?_
 have a:Inv X _ _ H { s with heap:=s.heap.push { cls:=.type "range",data:=.fields #[.int lo t,.int hi u,.int 1 v] },toks:=tk }:=I.kept λb o e=>aB _ e
 refine⟨(s.heap.push _).objs.size,[(s.heap.push _).objs.size],_,_,H,rfl,
  a.kept λb o e=>aB _ e,Ar5 _ _ _,?_,λb i=>?_,q⟩
 ·have h:lo+((0:Nat))*1=lo:=by simp
  have g:(((hi-lo).toNat):Int)-((0:Nat))=Builtin.Range.rangeSize lo hi 1:=by rw[rangeSize_one];grind
  rw[h,g];exact aG _ rfl
 ·have e:b=(s.heap.push { cls:=.type "range",data:=.fields #[.int lo t,.int hi u,.int 1 v] }).objs.size:=by grind
  subst e;exact a.fpOk (au _) (a.hok.fresh (au _))
def Br6 (ta:TA):TI:=λσ H R=>ta σ H λvs H1=>∃j:Int,vs=[.int j]/\-(2 ^ 62)<=j/\j<2 ^ 62/\R (Itr 0 j.toNat) H1
theorem Mp (hg:Gl X "range") (hm:X.mg "range" = none) (ha:QA X [a] d) (hs:starEach [a] X.env=[(false,eval a X.env)]:=by rfl):QI X tg (.Call (.Name "range" p) [a] [] b) (Br6 d):=by
 refine⟨?_⟩
 intro f s σ H R I h
 refine Call_ (J9 I hg hm boot_range (fD (thn (ha.1 _ _ s _ H _ I h) λus s1 ⟨vs,H1,g,i,c⟩=>?_) hs rfl))
 obtain⟨j,e,c,k,q⟩:=c;subst e
 cases i with
 | cons r l =>
  cases l
  obtain⟨t,rfl⟩:=r
  exact call_range_1 (A6u g (by lia) (by lia) c k (by grind))
def B2r (wi:TI)(g:TG)(tb:TS):TS:=λD σ H=>wi σ H λJ H1=>∃W:Nat->Nat->St->Hp->Prop,(∃m,W 0 m σ H1)/\∀i m σ H,W i m σ H ->
 (J.stop i H/\D.nx σ H)\/(J.go i H/\∃N:St->Hp->Prop,(∀σ' H',N σ' H'->∃m',m'<m/\W (i+1) m' σ' H')/\∀x H',J.yld i H x H'->g x σ H' λσ2 H2=>tb { D with nx:=N,ct:=N,bk:=D.nx } σ2 H2)
noncomputable def Va (fp:v6) (h:Heap):y_:=fp.filterMap λb=>(h.get? b).map λo=>(b,o)
theorem Ke (hb:b∈fp) (e:h.get? b=some o):(b,o)∈Va fp h:=fG.mpr ⟨b,hb,by grind⟩
theorem A3p (hp:p∈Va fp h):p.1∈fp/\h.get? p.1=some p.2:=by
 obtain⟨b,a,e⟩:=fG.mp hp
 cases q:h.get? b with
 | none=>simp_all
 | some o =>
  grind
theorem Inv.pinned (I:Inv X pins a H s) (hf:∀b∈fp,Ij X pins H b) (ho:∀b∈fp,∃o,s.heap.get? b=some o/\∀v,o.data≠.cell v):Inv X (pins++Va fp s.heap) a H s :=
 I.pins_of λp d=>(aY.mp d).elim (λz=>I.pin p (aF _ z)) λz=>by
  obtain⟨c,e⟩:=A3p z;obtain⟨g,h,f,_⟩:=hf _ c
  grind
theorem Inv.unpinned (I:Inv X (pins++pl) a H s):Inv X pins a H s:=I.pins_of λp b=>I.pin p (aF _ (bG _ b))
theorem Ls (hp:PassesOwn (model X.prog X.w) X.A X.env X.xe) (hc:X.calm=true) (hi:QI X tg p Z) (hg:QG X tg g) (hb:QSs X body tb)
 (hs:∀x,foldedSetIterable p X.env x=pure x:=by intro _;rfl):QS X (.For tg p body [] P) (B2r Z g tb):=by
 obtain⟨hb⟩:=hb
 refine⟨?_⟩
 intro a s σ H D I h
 refine wpAny_For (thn (hi.1 a s σ H _ I h) λv s1 h1=>thn h1 λitv s2 h2=>?_) hs
 obtain⟨it,C,tn,J,H2,e,I2,T,Q,Y,W,⟨m0,w0⟩,E⟩:=h2;subst e
 have k:∀{t:Hp},(∀b∈C,t b=none)->∀b∈C,Ij X a t b:=λhn b hb=>⟨hn b hb,(Y b hb).2⟩
 refine codeAny_forLoop_any (λn U=>∃i σ' t,Inv X a σ' t U/\tn i U.heap/\(∀b∈C,t b=none)/\W i n σ' t) ?_ m0 ⟨0,σ,H2,I2,Q,λb hb=>(Y b hb).1,w0⟩
 rintro n V ⟨i,j,L,I3,B,F,w3⟩
 rcases E i n j L w3 with ⟨A,qn⟩ | ⟨go,N,hN,K⟩
 ·refine gw hp (thn (T.done X rfl rfl rfl hc i a V j L X.xe I3 (k F) B A) λr s4 ⟨M,I4⟩=>?_)
  subst M;exact gm ⟨j,L,I4,qn⟩
 ·refine gw hp (thn (T.item X rfl rfl rfl hc i a V j L X.xe I3 (k F) B go) λr s4 ⟨u,M,h4⟩=>?_)
  subst M
  refine gw hp (thn h4 λ_ s5 ⟨x,S,I5,r5,y5,z,O⟩=>?_)
  refine gw hp (thn (hg.1 _ s5 j S x u _ (I5.pinned (k O) (T.obj _ _ z)) r5 (K x S y5)) λ_ s6 ⟨R,H6,I6,q6⟩=>?_)
  refine gw hp (thn (hb _ s6 R H6 _ I6 q6) λf s7 y=>?_)
  have l:∀{c:St} {w:Hp},Inv X (a++Va C s5.heap) c w s7->N c w->∃m,m<n/\∃i σ' t,Inv X a σ' t _/\tn i _/\(∀b∈C,t b=none)/\W i m σ' t:=λ{c w} q G=>by
   obtain⟨m',hm,w7⟩:=hN _ _ G
   refine⟨m',hm,i+1,c,w,q.unpinned,T.keep _ _ _ z λb hb o e=>(q.pin _ (aF _ (aF _ (Ke hb e)))).1,λb hb=>?_,w7⟩
   obtain⟨o,e,d⟩:=T.obj _ _ z b hb;exact(q.pin _ (aF _ (aF _ (Ke hb e)))).2.1
  cases f with
  | next=>obtain⟨c,w,q,G⟩:=y;exact l q G
  | cont=>obtain⟨c,w,q,G⟩:=y;exact l q G
  | brk=>obtain⟨c,w,q,y⟩:=y;exact⟨c,w,q.unpinned,y⟩
  | ret v=>obtain⟨x7,c,w,q,r7,y⟩:=y;exact⟨x7,c,w,q.unpinned,r7,y⟩
end
abbrev R2:=V->V->Hp->VK->Prop
def OpR (X:Cx)(f:Value->Value->Sem Value)(r:R2):Prop :=
 ∀
  (pins:y_) (s:t6) (σ:St) (H:Hp) (x y:V) (v u:Value) (Q:VK),Inv X pins σ H s->RelV x v->RelV y u->r x y H Q ->
  wpAny (model X.prog X.w) X.A (f v u) (EP X pins σ Q) X.xe s
def CallR (X:Cx)(f:Value)(r:m7->Hp->VK->Prop):Prop :=
 ∀
  (pins:y_) (s:t6) (σ:St) (H:Hp) (xs:m7) (us:w6) (Q:VK),Inv X pins σ H s->Vals xs us->r xs H Q ->
  wpAny (model X.prog X.w) X.A (call f us) (EP X pins σ Q) X.xe s
def tOp (r:R2)(ta tb:TE):TE:=λσ H Q=>ta σ H λx H1=>tb σ H1 λy H2=>r x y H2 Q
def tUn (r:V->Hp->VK->Prop)(ta:TE):TE:=λσ H Q=>ta σ H λx H1=>r x H1 Q
def rI (C:Int->Int->Prop)(g:Int->Int->V):R2:=λx y H Q=>∃i j,x=.int i/\y=.int j/\C i j/\Q (g i j) H
def rI0 (g:Int->Int->V):R2:=λx y H Q=>∃i j,x=.int i/\y=.int j/\Q (g i j) H
section
variable {X:Cx}{a b c:Expr}{ta tb:TE}{pos:Pos}
theorem B1w (ha:PE X a ta)(hb:PE X b tb) {R:V->V->Hp->Prop}(I:Inv X pins g H s)
 (h:ta g H λx j=>tb g j λy c=>R x y c) {f:Value->Value->Sem Value}
 (hf:∀v u i x y c,Inv X pins g c i->RelV x v->RelV y u->R x y c->wpAny (model X.prog X.w) X.A (f v u) Q X.xe i) :
 wpAny (model X.prog X.w) X.A (eval a X.env) (λv d=>wpAny (model X.prog X.w) X.A (eval b X.env) (λu e=>wpAny (model X.prog X.w) X.A (f v u) Q X.xe e) X.xe d) X.xe s:=by
 refine thn (ha _ s _ H _ I h) λv o ⟨x,j,k,n,l⟩=>?_
 refine thn (hb _ _ _ _ _ k l) λu i ⟨y,c,p,q,m⟩=>?_
 grind
theorem Wr (ho:OpR X (binaryOp op) r) (ha:PE X a ta) (hb:PE X b tb):PE X (.BinOp a op b pos) (tOp r ta tb):=by
 intro c s g H Q I h
 exact wpAny_BinOp (B1w ha hb I h λv u i x y j f e d q=>ho _ _ _ _ x y v u Q f e d q)
theorem opI {g:Int->Int->Int}
 (a:∀(i j:Int) (t u:Tok) (s:t6) (Q:z_) (E:z_),C i j->Q (.int (g i j) s.toks) { s with toks:=s.toks+1 }->wpAny (model X.prog X.w) X.A (f (.int i t) (.int j u)) Q E s) :
 OpR X f (rI C λi j=>.int (g i j)):=by
 intro b s σ H x y v u Q I c e h;obtain⟨i,j,rfl,rfl,d,q⟩:=h;obtain⟨t,rfl⟩:=c;obtain⟨t',rfl⟩:=e;exact a i j t _ s _ _ d ⟨.int _,H,I.tok _,⟨_,rfl⟩,q⟩
theorem V9 {g:Int->Int->Int}
 (a:∀(i j:Int) (t u:Tok) (s:t6) (Q:z_) (E:z_),Q (.int (g i j) s.toks) { s with toks:=s.toks+1 }->wpAny (model X.prog X.w) X.A (f (.int i t) (.int j u)) Q E s) :
 OpR X f (rI0 λi j=>.int (g i j)):=by
 intro b s σ H x y v u Q I c d h;obtain⟨i,j,rfl,rfl,q⟩:=h;obtain⟨t,rfl⟩:=c;obtain⟨t',rfl⟩:=d;exact a i j t _ s _ _ ⟨.int _,H,I.tok _,⟨_,rfl⟩,q⟩
theorem Bu7 {g:Int->Int->Bool}
 (a:∀(i j:Int) (t u:Tok) (s:t6) (Q:z_) (E:z_),Q (.bool (g i j)) s->wpAny (model X.prog X.w) X.A (f (.int i t) (.int j u)) Q E s) :
 OpR X f (rI0 λi j=>.bl (g i j)):=by
 intro b s σ H x y v u Q I c d h;obtain⟨i,j,rfl,rfl,q⟩:=h;obtain⟨t,rfl⟩:=c;obtain⟨t',rfl⟩:=d;exact a i j t _ s _ _ ⟨.bl _,H,I,rfl,q⟩
def Bf2 (i j:Int):Prop:=0<j/\j<1073741824
def Bh5 (i j:Int):Prop:=0<=j/\j<=1000000/\i.natAbs<2 ^ 64
def CMul (i j:Int):Prop:=(-(2 ^ 64)<i/\i<2 ^ 64)\/(-(2 ^ 64)<j/\j<2 ^ 64)
theorem CMul.ok (h:CMul i j):IntMulOk i j:=by
 rcases h with ⟨b,a⟩ | ⟨b,a⟩
 ·exact .of_left (intBits_le_64 b a)
 ·exact .of_right (intBits_le_64 b a)
theorem Bx9:OpR X (binaryOp .Add) (rI0 λi j=>.int (i+j)):=V9 λ_ _ _ _ _ _ _ q=>add_int q
theorem B1g:OpR X (binaryOp .Sub) (rI0 λi j=>.int (i-j)):=V9 λ_ _ _ _ _ _ _ q=>sub_int q
theorem Bx6:OpR X (binaryOp .Mult) (rI CMul λi j=>.int (i*j)):=opI λ_ _ _ _ _ _ _ a q=>mul_int q a.ok
theorem Bk2:OpR X (binaryOp .FloorDiv) (rI Bf2 λi j=>.int (i / j)):=opI λi j _ _ _ _ _ a q=>by
 have c:(0:Int)<j:=a.1;have b:j<1073741824:=a.2
 exact floordiv_int (by lia) (by rw[Int.fdiv_eq_ediv_of_nonneg i (by lia)];exact q) (.inl (PyProof.noPylong_small (by lia)))
theorem Bu4:OpR X (binaryOp .Mod) (rI (λ_ j=>0<j) λi j=>.int (i % j)):=opI λi j _ _ _ _ _ a q=>by
 have b:(0:Int)<j:=a
 exact mod_int' (by lia) (by rw[Int.fmod_eq_emod_of_nonneg i (by lia)];exact q)
theorem B2o:OpR X (binaryOp .Pow) (rI Bh5 λi j=>.int (i ^ j.toNat)):=opI λ_ _ _ _ _ _ _ a q=>pow_int_small a.1 a.2.1 a.2.2 q
end
noncomputable def B3s:V->V->Bool
 | .non,.non=>true | .non,.int _=>true | .int _,.non=>true | .non,.bl _=>true | .bl _,.non=>true | .non,.str _=>true | .str _,.non=>true
 | .int _,.int _=>true | .bl _,.bl _=>true | .str _,.str _=>true | .byt _,.byt _=>true
 | .int _,.str _=>true | .str _,.int _=>true | .bl _,.str _=>true | .str _,.bl _=>true
 | _,_=>false
def rEq:R2:=λx y H Q=>B3s x y=true/\Q (.bl (decide (x=y))) H
def rNe:R2:=λx y H Q=>B3s x y=true/\Q (.bl (!decide (x=y))) H
theorem At3 : decide (V.int i=V.int j)=(i==j):=by
 grind
theorem A9r : decide (V.bl i=V.bl j)=(i==j):=by
 grind
theorem Ax8 : decide (V.str i=V.str j)=(i==j):=by
 grind
theorem Ay2 : decide (V.byt i=V.byt j)=(i.toList==j.toList):=by
 rw[Bool.eq_iff_iff]
 simp_all
section
variable {X:Cx}{a b c:Expr}{ta tb:TE}{pos:Pos}
theorem Bj {b:St} {k a:Bool}(I:Inv X pins b H s) (q:Q (.bl k) H) (e:k=a):EP X pins b Q (.bool a) s:=by
 subst e;exact⟨.bl k,H,I,rfl,q⟩
theorem B5d:OpR X (compareOp .Eq) rEq:=by
 intro e s σ H x y v u Q I d a h;obtain⟨c,q⟩:=h
 cases x with
 | non =>
  cases d
  cases y with
  | non=>cases a;exact PySem.EqNone.eq_none_none (Bj I q (by simp))
  | bl j=>cases a;exact PySem.EqNone.eq_none_bool (Bj I q (by simp))
  | int j=>obtain⟨b,rfl⟩:=a;exact PySem.EqNone.eq_none_int (Bj I q (by simp))
  | str j=>obtain⟨b,rfl⟩:=a;exact PySem.EqNone.eq_none_str (Bj I q (by simp))
  | _=>exact absurd (show false=true from c) bL
 | bl i =>
  cases d
  cases y with
  | non=>cases a;exact PySem.EqNone.eq_bool_none (Bj I q (by simp))
  | bl j=>cases a;exact eq_bool (Bj I q A9r)
  | str j=>obtain⟨b,rfl⟩:=a;exact PySem.EqMixed.eq_bool_str (Bj I q (by simp))
  | _=>exact absurd (show false=true from c) bL
 | int i =>
  obtain⟨t,rfl⟩:=d
  cases y with
  | non=>cases a;exact PySem.EqNone.eq_int_none (Bj I q (by simp))
  | int j=>obtain⟨b,rfl⟩:=a;exact eq_int (Bj I q At3)
  | str j=>obtain⟨b,rfl⟩:=a;exact PySem.EqMixed.eq_int_str (Bj I q (by simp))
  | _=>exact absurd (show false=true from c) bL
 | str i =>
  obtain⟨t,rfl⟩:=d
  cases y with
  | non=>cases a;exact PySem.EqNone.eq_str_none (Bj I q (by simp))
  | bl j=>cases a;exact PySem.EqMixed.eq_str_bool (Bj I q (by simp))
  | int j=>obtain⟨b,rfl⟩:=a;exact PySem.EqMixed.eq_str_int (Bj I q (by simp))
  | str j=>obtain⟨b,rfl⟩:=a;exact eq_str (Bj I q Ax8)
  | _=>exact absurd (show false=true from c) bL
 | byt i =>
  obtain⟨t,rfl⟩:=d
  cases y with
  | byt j=>obtain⟨b,rfl⟩:=a;exact PySem.W.eq_bytes (Bj I q Ay2)
  | _=>exact absurd (c) bL
 | _=>cases y <;> exact absurd (show false=true from c) bL
theorem B4c:OpR X (compareOp .NotEq) rNe:=by
 intro e s σ H x y v u Q I d a h;obtain⟨c,q⟩:=h
 cases x with
 | non =>
  cases d
  cases y with
  | non=>cases a;exact PySem.EqNone.ne_none_none (Bj I q (by simp))
  | bl j=>cases a;exact PySem.EqNone.ne_none_bool (Bj I q (by simp))
  | int j=>obtain⟨b,rfl⟩:=a;exact PySem.EqNone.ne_none_int (Bj I q (by simp))
  | str j=>obtain⟨b,rfl⟩:=a;exact PySem.EqNone.ne_none_str (Bj I q (by simp))
  | _=>exact absurd (show false=true from c) bL
 | bl i =>
  cases d
  cases y with
  | non=>cases a;exact PySem.EqNone.ne_bool_none (Bj I q (by simp))
  | bl j=>cases a;exact ne_bool (Bj I q (cu not A9r))
  | str j=>obtain⟨b,rfl⟩:=a;exact PySem.EqMixed.ne_bool_str (Bj I q (by simp))
  | _=>exact absurd (show false=true from c) bL
 | int i =>
  obtain⟨t,rfl⟩:=d
  cases y with
  | non=>cases a;exact PySem.EqNone.ne_int_none (Bj I q (by simp))
  | int j=>obtain⟨b,rfl⟩:=a;exact ne_int (Bj I q (cu not At3))
  | str j=>obtain⟨b,rfl⟩:=a;exact PySem.EqMixed.ne_int_str (Bj I q (by simp))
  | _=>exact absurd (show false=true from c) bL
 | str i =>
  obtain⟨t,rfl⟩:=d
  cases y with
  | non=>cases a;exact PySem.EqNone.ne_str_none (Bj I q (by simp))
  | bl j=>cases a;exact PySem.EqMixed.ne_str_bool (Bj I q (by simp))
  | int j=>obtain⟨b,rfl⟩:=a;exact PySem.EqMixed.ne_str_int (Bj I q (by simp))
  | str j=>obtain⟨b,rfl⟩:=a;exact ne_str (Bj I q (cu not Ax8))
  | _=>exact absurd (show false=true from c) bL
 | byt i =>
  obtain⟨t,rfl⟩:=d
  cases y with
  | byt j=>obtain⟨b,rfl⟩:=a;exact PySem.W.ne_bytes (Bj I q (cu not Ay2))
  | _=>exact absurd (c) bL
 | _=>cases y <;> exact absurd (show false=true from c) bL
theorem B4y:OpR X (compareOp .Lt) (rI0 λi j=>.bl (decide (i<j))):=Bu7 λ_ _ _ _ _ _ _ q=>lt_int q
theorem B5j:OpR X (compareOp .Gt) (rI0 λi j=>.bl (decide (j<i))):=Bu7 λ_ _ _ _ _ _ _ q=>gt_int q
theorem B5z:OpR X (compareOp .GtE) (rI0 λi j=>.bl (decide (j<=i))):=Bu7 λ_ _ _ _ _ _ _ q=>ge_int q
theorem A0m:OpR X (compareOp .In) (λx y H Q=>∃i j,x=.str i/\y=.str j/\Q (.bl (!(Builtin.Str.occurrences j i 0 j.length 1).isEmpty)) H):=by
 intro a s σ H x y v u Q I b c h;obtain⟨i,j,rfl,rfl,q⟩:=h;obtain⟨t,rfl⟩:=b;obtain⟨t',rfl⟩:=c;exact in_str (Bj I q rfl)
theorem B1l:OpR X (compareOp .Is) (λx y H Q=>y=.non/\Q (.bl (decide (x=.non))) H):=by
 intro a s σ H x y v u Q I c b h;obtain⟨rfl,q⟩:=h
 cases b
 refine is_none_gen (Bj I q ?_)
 cases x <;> first
  | lia
  | (obtain⟨t,rfl⟩:=c;rfl)
theorem Be1:OpR X (compareOp .IsNot) (λx y H Q=>y=.non/\Q (.bl (!decide (x=.non))) H):=by
 intro a s σ H x y v u Q I c b h;obtain⟨rfl,q⟩:=h
 cases b
 refine isnot_none_gen (Bj I q ?_)
 cases x <;> first
  | rfl
  | (obtain⟨t,rfl⟩:=c;rfl)
theorem OpR.or {r b:R2}(h:OpR X f r) (h':OpR X f b):OpR X f (λx y H Q=>r x y H Q\/b x y H Q):=by
 intro c s e H x y v u Q I d a q
 rcases q with q | q
 ·exact h _ s _ H x y v u Q I d a q
 ·exact h' _ s _ H x y v u Q I d a q
theorem K7 (b:Expr) (h:op≠.In:=by decide) (h2:op≠.NotIn:=by decide):behindInMarks op b=false:=by
 have c:(op==CmpOp.In)=false:=by grind
 have a:(op==CmpOp.NotIn)=false:=by grind
 cases b <;> simp[behindInMarks,c,a]
theorem Ax5 (ho:OpR X (compareOp op) r) (ha:PE X a ta) (hb:PE X b tb) (hm:behindInMarks op b=false):PE X (.Compare a [op] [b] pos) (tOp r ta tb):=by
 intro c s g H Q I h
 exact wpAny_Compare1 (B1w ha hb I h λv u i x y j f e d q=>ho _ _ _ _ x y v u Q f e d q) hm
def Ld (t:TE):TT:=λσ H Q=>t σ H λx H'=>∃k,x=.bl k/\Q k H'
theorem Hr (ho:OpR X (compareOp op) r) (ha:PE X a ta) (hb:PE X b tb) (hm:behindInMarks op b=false):PT X (.Compare a [op] [b] pos) (Ld (tOp r ta tb)):=by
 intro d s t H Q I h
 refine wpAny_isTrue_Compare1 (thn (ha _ s _ H _ I h) λv C ⟨x,D,j,l,m⟩=>thn (hb _ _ _ _ _ j m) λu w ⟨y,B,i,g,o⟩ =>
  thn (ho _ _ _ _ x y v u _ i l g o) λc A ⟨z,n,p,q,k,e,f⟩=>?_) hm
 subst e
 cases q
 exact iw ⟨n,p,f⟩
theorem Uy:(sizeLine:Nat)<2 ^ 63:=by decide
theorem Ak7:OpR X (binaryOp .Add) (λx y H Q=>∃i j,x=.str i/\y=.str j/\i.length+j.length<=sizeLine/\Q (.str (i++j)) H):=by
 intro a s σ H x y v u Q I c b h;obtain⟨i,j,rfl,rfl,e,q⟩:=h;obtain⟨t,rfl⟩:=c;obtain⟨d,rfl⟩:=b
 exact add_str (λd tk=>⟨.str _,H,I.tok _,⟨_,rfl⟩,q⟩) e
theorem vals1 (r:Vals [x] us):∃u,us=[u]/\RelV x u:=by
 cases r with
 | cons b a=>cases a;grind
theorem vals2 (r:Vals [x,y] us):∃u w',us=[u,w']/\RelV x u/\RelV y w':=by
 cases r with
 | cons c b =>
  cases b with
  | cons d a=>cases a;grind
theorem A4q:CallR X (.builtin "abs") (λxs H Q=>∃i,xs=[.int i]/\Q (.int (if i<0 then -i else i)) H):=by
 intro a s σ H xs us Q I r h;obtain⟨i,rfl,q⟩:=h;obtain⟨u,rfl,t,rfl⟩:=vals1 r
 exact call_abs_int λu tk=>⟨.int _,H,I.tok _,⟨_,rfl⟩,q⟩
theorem A3y (hc:X.calm=true):CallR X (.builtin "min") (λxs H Q=>∃i j,xs=[.int i,.int j]/\Q (.int (if j<i then j else i)) H):=by
 intro a s σ H xs us Q I r h;obtain⟨i,j,rfl,q⟩:=h;obtain⟨u,w',rfl,⟨t,rfl⟩,⟨t',rfl⟩⟩:=vals2 r
 refine min_two_ints (I.ok.hd hc) λh' tk k=>⟨_,H,I.kept k,?_,q⟩
 by_cases hj:j<i
 ·rw[if_pos hj,if_pos hj];exact⟨_,rfl⟩
 ·rw[if_neg hj,if_neg hj];exact⟨_,rfl⟩
theorem A2g:CallR X (.type "int") (λxs H Q=>(∃i,xs=[.int i]/\Q (.int i) H)\/∃k,xs=[.bl k]/\Q (.int (if k then 1 else 0)) H):=by
 intro a s σ H xs us Q I r h
 rcases h with ⟨i,rfl,q⟩ | ⟨k,rfl,q⟩
 ·obtain⟨u,rfl,t,rfl⟩:=vals1 r
  exact call_int_int ⟨.int i,H,I,⟨_,rfl⟩,q⟩
 ·obtain⟨u,rfl,b⟩:=vals1 r
  cases b
  exact call_int_bool ⟨.int _,H,I.tok _,⟨_,rfl⟩,q⟩
theorem Z4:CallR X (.type "str") (λxs H Q=>∃i,xs=[.int i]/\i.natAbs.log2<1920/\Q (.str (toString i)) H):=by
 intro a s σ H xs us Q I r h;obtain⟨i,rfl,b,q⟩:=h;obtain⟨u,rfl,t,rfl⟩:=vals1 r;exact PySem.P.str_of_int b ⟨.str _,H,I.tok _,⟨_,rfl⟩,q⟩
def B6f (K:v9)(x:V)(H:Hp)(n:Nat):Prop :=
 match x with
 | .str y=>y.length<=sizeLine/\n=y.length
 | .byt y=>y.size<=sizeLine/\n=y.size
 | .ref p=>(∃xs,SqL K H p xs/\n=xs.length)\/∃xs,SqT K H p xs/\n=xs.length
 | _=>False
theorem Ac6:CallR X (.builtin "len") (λxs H Q=>∃x n,xs=[x]/\B6f X.K x H n/\Q (.int n) H):=by
 intro j s σ H xs us Q I r h;obtain⟨x,n,rfl,e,q⟩:=h;obtain⟨u,rfl,d⟩:=vals1 r;have hl:=Uy;have hs:sizeLine=16777216:=sizeLine_eq
 cases x with
 | str y =>
  obtain⟨t,rfl⟩:=d;obtain⟨l,b⟩:y.length<=sizeLine/\n=y.length:=e;subst b
  exact len_str (by lia) ⟨.int _,H,I.tok _,⟨_,rfl⟩,q⟩
 | byt y =>
  obtain⟨t,rfl⟩:=d;obtain⟨l,b⟩:y.size<=sizeLine/\n=y.size:=e;subst b
  exact PySem.W.len_bytes (by lia) ⟨.int _,H,I.tok _,⟨_,rfl⟩,q⟩
 | ref p =>
  cases d
  have b := e
  rcases b with ⟨xs,c,b⟩ | ⟨xs,c,b⟩
  ·subst b
   obtain⟨g,f,i,k⟩:=I.list c;have a:=f.length
   exact Calls.call_len_list i.isList (by grind) ⟨.int _,H,I.tok _,⟨_,by simp only[cA];rw[a]⟩,q⟩
  ·subst b
   obtain⟨g,f,i,k⟩:=I.tuple c;have a:=f.length
   exact len_tuple i (by grind) ⟨.int _,H,I.tok _,⟨_,by simp only[cA];rw[a]⟩,q⟩
 | _=>trivial
end
structure ObjM (h:Heap) (x dx C:Addr) (mA:x_):Prop where
 obj:h.get? x=some (PySem.W.instObj C dx)
 ns:h.Ns1 dx mA
 ne:dx≠x
theorem A2i {h:Heap} (n:h.Ns1 d f):∃od,h.get? d=some od/\∀b,PySem.W.lookIn b od=some (f b):=by
 obtain⟨o,g,p,i,j,k,_,l⟩:=n
 refine⟨o,i,λb=>?_⟩
 have e:=l b;unfold nsFind findBy at e;unfold PySem.W.lookIn;rw[j]
 dsimp only
 split
 ·grind
 ·have a:g.toList.any (·.refKey)=false:=by
   rw[List.any_eq_false];intro y m;obtain⟨z,t,c⟩:=k y (j8.mp m)
   simp[DictEntry.refKey,c]
  grind
theorem ObjM.look (I:ObjM h x b C a):∃od,PySem.W.InstAt h x (PySem.W.instObj C b) C (some od)/\∀name,PySem.W.lookIn name od=some (a name) :=
 let ⟨od,ho,hl⟩:=A2i I.ns
 ⟨od,⟨I.obj,rfl,rfl,ho⟩,hl⟩
section
variable {prog:u9}{w:World}{A:q9}{E:z_}{s:t6}{K:v9}{x dx C f:Addr}{mA:x_}{name:Str}{v:Value}
theorem Sh (X:K.In s.heap) (I:ObjM s.heap x dx C mA)
 (hs:PySem.W.findIn K (.ref C) "__setattr__" = some (some (.builtin "object.__setattr__"))) (hp:PySem.W.plainOver K C=true) (ht:PySem.W.takerIn K C name=some none) (k:PySem.W.hasDictIn K C=true)
 (hw:PySem.Within mA ns) (hsz:ns.length<=sizeLine)
 (h:∀d,ObjM d x dx C (λy=>if y=name then some v else mA y)->Heap.SameBut dx s.heap d->Q () { s with heap:=d,toks:=s.toks+2 }) :
 wpAny (model prog w) A (setAttr (.ref x) name v) Q E s:=by
 obtain⟨r,J,p⟩:=I.look
 refine PySem.W.set_plain X J hs (PySem.W.osa_open X J hp ht λb=>?_)
 obtain⟨o,l,g⟩:=PySem.W.any_some k;have n := I.obj
 refine aj (ak (aj (aj (wpAny_loadPart n (aj (PySem.W.Looks.here (PySem.W.looks_clsIn X l) ?_))))))
 rw[g]
 refine ak (aj (ak (aj ?_)))
 refine wpAny_nsSet1 I.ns λd c a=>?_
 obtain⟨q,j,m,f,i,e⟩:=c.count (PySem.Within.cons _ v hw)
 refine aj (wpAny_lookBehind f (by rw[i];exact pastItsLine_dict (aq e (by simp_all))) ?_)
 exact ak (h _ ⟨(a.2 _ (aC I.ne)).trans I.obj,c,I.ne⟩ a)
end
section
variable {s:t6}{f:Str}{A:q9}{E:z_}
theorem Bj4 {prog:u9}{w:World}{env:Env}{e:Expr}{f:Str}{pos:Pos}{s:t6}{Q:z_}(hb:attributeBase e f env (eval e env)=eval e env)
 (h:wpAny (model prog w) A (eval e env) (λo s₁=>wpAny (model prog w) A (getAttr o f true) Q E s₁) E s):wpAny (model prog w) A (eval (.Attribute e f pos) env) Q E s :=
 Attribute_any_ h (by rw[arm_eval_Attribute,hb])
end
structure Room (k:Nat) (A:q9):Prop where
 hd:A.handled=none
 dp:A.depth+3*k+5<recursionLimit
 un:A.units+16*k+200<cLine
 gd:A.guards=some []
theorem Room.mono (r:Room k A) (h:j<=k):Room j A:=⟨r.hd,by have:=r.dp;lia,by have:=r.un;lia,r.gd⟩
theorem Room.deeper (r:Room (k+1) A) (env:Env):Room k (A.deeper env) :=
 ⟨r.hd,by have:=r.dp;show A.depth+1+3*k+5<_;lia,by have:=r.un;show A.units+3+16*k+200<_;lia,r.gd⟩
theorem Room.in1 (r:Room (k+1) A):Room k A.in1 :=
 ⟨r.hd,by have:=r.dp;grind,by have:=r.un;grind,r.gd⟩
theorem Al1 {A:q9}{C:Addr}{us:w6}{kw:List (Str×Value)}:(A.under (.builtin "type.__call__" ⟨.ref C::us,kw⟩)).depth=A.depth+1:=by
 first | rfl | simp[Around.under,Code.weight,Code.isCreation,Code.isGuard,Code.isCaller,Code.frames,Code.isFrame,guardIds]
theorem Aj8 {A:q9}{C:Addr}{us:w6}{kw:List (Str×Value)}:(A.under (.builtin "type.__call__" ⟨.ref C::us,kw⟩)).units=A.units+1:=by
 first | rfl | simp[Around.under,Code.cUnits,Code.frames,Code.isFrame]
theorem Room.make {k:Nat}{A:q9}(r:Room (k+1) A)(C:Addr)(us:w6)(kw:List (Str×Value)):Room k (A.under (.builtin "type.__call__" ⟨.ref C::us,kw⟩)) :=
 ⟨r.hd,by have:=r.dp;rw[Al1];lia,by have:=r.un;rw[Aj8];lia,by first | exact r.gd | (show (A.under _).guards=some [];rw[<- r.gd];rfl) | simp[Around.under,Code.guards,Code.isGuard,guardIds,r.gd]⟩
theorem Room.depth (r:Room k A):A.depth<recursionLimit:=by have:=r.dp;lia
theorem Room.units (r:Room k A):A.units+64<cLine:=by have:=r.un;lia
def Er:TA:=λ_ H Q=>Q [] H
def Bp (ta:TE)(tr:TA):TA:=λσ H Q=>ta σ H λx H1=>tr σ H1 λxs H2=>Q (x::xs) H2
section
variable {X:Cx}{e:Expr}{es:v_}{te:TE}{t:TA}{pos:Pos}
theorem Y9:PA X [] Er:=λ_ _ _ _ H Q I h=>gA ⟨[],H,I,.nil,h⟩
theorem At8 (ha:PE X e te)(hr:PA X es t)(hs:starEach (e::es) X.env=(false,eval e X.env)::starEach es X.env:=by rfl):PA X (e::es) (Bp te t):=by
 intro d a s m H Q I h;rw[hs]
 refine eO (thn (ha _ s _ H _ I h) λu o ⟨x,n,f,g,i⟩=>?_)
 exact thn (hr _ _ _ _ _ _ f i) λp q ⟨c,k,j,l,b⟩=>⟨x::c,k,j,.cons g l,b⟩
def B5e (t:TA):TE:=λσ H Q=>t σ H λxs H1=>xs.length<=sizeLine/\∀p,H1 p=none->Q (.ref p) (upd H1 p (.tup xs))
def Bo5 (t:TA):TE:=λσ H Q=>t σ H λxs H1=>xs.length<=sizeLine/\∀p,H1 p=none->Q (.ref p) (upd H1 p (.lst xs))
theorem Cr (h:QA X es t):QE X (.Tuple es d pos) (B5e t):=by
 refine⟨?_⟩
 intro a s i H Q I g
 refine wpAny_Tuple_spliced (thn (h.1 _ _ s _ H _ I g) λf j ⟨k,l,c,r,z,q⟩=>⟨by rw[<- r.length];grind,?_⟩)
 refine⟨.ref _,upd _ _ _,c.laid (λb u e=>aB _ e) (au _) ?_,rfl,q _ (c.hok.fresh (au _))⟩
 exact⟨z,f,r,⟨_,aG _ rfl,rfl,⟨_,rfl⟩,rfl⟩⟩
theorem Di (h:QA X es t):QE X (.List es pos) (Bo5 t):=by
 refine⟨?_⟩
 intro c s g H Q I d
 refine wpAny_List_spliced (thn (h.1 _ _ s _ H _ I d) λf i ⟨j,k,a,r,z,q⟩=>⟨by rw[<- r.length];grind,?_⟩)
 refine⟨.ref _,upd _ _ _,a.laid (λb u e=>aB _ e) (au _) ?_,rfl,q _ (a.hok.fresh (au _))⟩
 exact⟨z,f,0,r,aG _ rfl⟩
end
abbrev Sp:=m7->Hp->VK->XK->Prop
abbrev CXT:=List Env->Hp->t6->XK->Value->t6->Prop
structure Env0 (P:u9) (w:World) (K:v9) (mg:x_) (base:Heap) (A:q9) (outer:List Env) (s:t6) (H:Hp):Prop where
 frames:A.frames=some outer
 mod:Mod K mg base
 bs:∀b o,base.get? b=some o->s.heap.get? b=some o/\H b=none
 bsz:base.objs.size<=s.heap.objs.size
 funs:s.heap.FunFrames base outer
 frf:∀b∈frs outer,H b=none
 tab:∀p∈Ei K,H p.1=some (.tbl p.2)
 hok:HOk P w H s.heap
 bare:AllBare s.gens
def CE (outer:List Env)(P:u9)(w:World)(H:Hp)(s:t6)(Q:VK)(u:Value)(s':t6):Prop :=
 ∃v H',s'.os=s.os/\AllBare s'.gens/\Un (frs outer) [] H H' s.heap s'.heap/\HOk P w H' s'.heap/\RelV v u/\Q v H'
def CR (CX:CXT)(outer:List Env)(P:u9)(w:World)(H:Hp)(s:t6)(Q:VK)(E:XK)(r:Result)(s':t6):Prop :=
 match r with
 | .ok (.ret u)=>CE outer P w H s Q u s'
 | .ok _=>False
 | .error e=>CX outer H s E e s'
structure FnOk (P:u9) (w:World) (K:v9) (mg:x_) (base:Heap) (CX:CXT) (k:Nat) (f:Addr) (fd:u6) (ps:v4) (sp:Sp):Prop where
 len:∀vs H Q E,sp vs H Q E->vs.length=ps.length
 run:∀(A:q9) (outer:List Env) (s:t6) (H:Hp) (args:Args) (us:w6) (vs:m7) (Q:VK) (E:XK),Room k A->Env0 P w K mg base A outer s H->BindsTo s fd args (ps.zip us)->Vals vs us->sp vs H Q E ->
  codeAny (model P w) A (.call (.ref f) args) (CR CX outer P w H s Q E) s
theorem FnOk.imp {K:v9} (F:FnOk P w K mg base CX k f d ps sp)
 (h:∀b H Q E,a b H Q E->sp b H Q E):FnOk P w K mg base CX k f d ps a :=
 ⟨λb H Q E q=>F.len _ H Q E (h _ _ _ _ q),λA c s H e n b Q E j l i m g=>F.run A _ s H _ _ _ Q E j l i m (h _ _ _ _ g)⟩
theorem Env0.make {P:u9}{w:World}{K:v9}{mg:x_}{base:Heap}{A:q9}{outer:List Env}{s:t6}{H:Hp}(e:Env0 P w K mg base A outer s H)(C:Addr)(us:w6)(kw:List (Str×Value)) :
 Env0 P w K mg base (A.under (.builtin "type.__call__" ⟨.ref C::us,kw⟩)) outer s H:=⟨by first | exact e.frames | (simpa[Around.under,Code.envs,Code.isFrame,pushEnvs] using e.frames),e.mod,e.bs,e.bsz,e.funs,e.frf,e.tab,e.hok,e.bare⟩
theorem Env0.in1 {K:v9} (e:Env0 P w K mg base A a s H) :
 Env0 P w K mg base A.in1 a s H:=⟨e.frames,e.mod,e.bs,e.bsz,e.funs,e.frf,e.tab,e.hok,e.bare⟩
section
variable {X:Cx}{pins:y_}{σ:St}{H:Hp}{s s':t6}
theorem Inv.env0 (I:Inv X pins σ H s):Env0 X.prog X.w X.K X.mg X.base X.A X.stack s H :=
 ⟨I.ok.frames,I.ok.mod,I.bs,aq I.ok.bsz I.sz,I.stack,I.stkFree,λp a=>I.base.tbls _ _ (I.ok.tab p a),I.hok,I.bare⟩
theorem Inv.after (I:Inv X pins σ H s) (h:CE X.stack X.prog X.w H s Q u s'):EP X pins σ Q u s':=by
 obtain⟨v,j,i,a,f,c,r,q⟩:=h;obtain⟨hh,g,d,t,e⟩:=s';obtain rfl:e=s.os:=i
 exact⟨v,j,I.call f c a λb z=>absurd z (by simp),r,q⟩
end
def Us (sp:Sp)(dvs:m7)(E:XK)(t:TA):TE:=λσ H Q=>t σ H λvs H1=>sp (vs++dvs) H1 Q E
def Binds (K:v9)(fd:u6)(ps:v4)(ds:w6):Prop :=
 ∀(s:t6) (us:w6),K.In s.heap->(us++ds).length=ps.length->BindsTo s fd ⟨us,[]⟩ (ps.zip (us++ds))
theorem Binds.all {K:v9} (h:∀a:w6,a.length=ps.length->bindArgs c ⟨a,[]⟩=pure (ps.zip a)):Binds K c ps []:=λs a _ b=>by
 rw[cG]at b ⊢;exact .of_eq (h _ b)
def Ql (CX:CXT)(X:Cx)(E:XK):Prop:=∀(pins:y_) (σ:St) (H:Hp) (s:t6) (e:Value) (s':t6),Inv X pins σ H s->CX X.stack H s E e s'->X.xe e s'
section
variable {X:Cx}{CX:CXT}{k:Nat}{f:Addr}{fd:u6}{ps:v4}{sp:Sp}{dvs:m7}{ds:w6}{E:XK}{x:Str}{p pos:Pos}{e:Expr}{es:v_}{t:TA}
theorem B1t (F:FnOk X.prog X.w X.K X.mg X.base CX k f fd ps sp) (hr:Room k X.A) (hb:Binds X.K fd ps ds) (hd:Vals dvs ds) (hx:Ql CX X E)
 (I:Inv X pins b H s) (r:Vals vs us) (h:sp (vs++dvs) H Q E):wpAny (model X.prog X.w) X.A (call (.ref f) us) (EP X pins b Q) X.xe s:=by
 have a := r.append hd
 have g:(us++ds).length=ps.length:=by rw[<- a.length];exact F.len _ _ _ _ h
 refine fH (fK (F.run _ _ s H _ _ _ Q E hr I.env0 (hb s _ I.kIn g) a h) λr i c=>?_)
 cases r with
 | error e=>exact hx _ _ H s e _ I c
 | ok d =>
  cases d with
  | ret u=>exact I.after c
  | next=>assumption
  | brk=>assumption
  | cont=>trivial
theorem Bm7 (F:FnOk X.prog X.w X.K X.mg X.base CX k f fd ps sp)(hr:Room k X.A)(hg:Gl X x)(hm:X.mg x=some (.ref f))(hk:PySem.W.keepIn X.K (.ref f)=true)(hb:Binds X.K fd ps ds)(hd:Vals dvs ds)(hx:Ql CX X E)
 (ha:PA X (e::es) t) (hdb:(x==("__debug__" : Str))=false:=by decide) (he:starEach (e::es) X.env=(false,eval e X.env)::starEach es X.env:=by rfl) (hpl:(backTo pos (starEach es X.env)).any (·.1)=false:=by rfl) :
 PE X (.Call (.Name x p) (e::es) [] pos) (Us sp dvs E t):=by
 intro b s c H Q I h
 refine gB (Io I hg hm ?_ hdb)
 refine PySem.W.callWith_K I.ok.mod.kin hk (thn (ha _ _ s _ H _ I h) λd g ⟨i,j,a,r,q⟩=>⟨a.kIn,?_⟩) he hpl
 exact B1t F hr hb hd hx a r q
end
def PK (X:Cx)(kws:List Keyword)(t:TA):Prop :=
 ∀(pos:Pos) (pins:y_) (s:t6) (σ:St) (H:Hp) (Q:m7->Hp->Prop),Inv X pins σ H s->t σ H Q->wpAny (model X.prog X.w) X.A (evalAll ((backToKw pos (keywordEach kws X.env)).map (·.2))) (AP X pins σ Q) X.xe s
structure QK (X:Cx) (e:(List Keyword)) (t:TA):Prop where
 get:PK X e t
section
variable {X:Cx}{k:Nat}{f:Addr}{x m:Str}{p kpos:Pos}{e o:Expr}{kws:List Keyword}{te:TE}{t:TA}{nm:Option Str}
theorem B1v:PK X [] Er:=λ_ _ _ _ H Q I h=>wpAny_evalAll_nil ⟨[],H,I,.nil,h⟩
theorem Bl2 (ha:QE X e te)(hr:QK X kws t):QK X (⟨nm,e,kpos⟩::kws) (Bp te t):=by
 refine⟨?_⟩
 intro d a s m H Q I h
 refine wpAny_evalAll_cons (aj (thn (ha.1 _ s _ H _ I h) λu o ⟨x,n,f,g,i⟩=>aj (cV (ak ?_))))
 exact thn (hr.1 _ _ _ _ _ _ f i) λp q ⟨c,k,j,l,b⟩=>⟨x::c,k,j,.cons g l,b⟩
end
structure Aq (N P:v4) (sc:Scope):Prop where
 kind:sc.kind=.function:=by rfl
 co:sc.isCoroutine=false:=by rfl
 gen:sc.isGenerator=false:=by rfl
 nd:N.Nodup:=by decide +kernel
 pre:N.take P.length=P:=by rfl
 par:∀x∈P,sc.names.lookup x=some .local\/sc.names.lookup x=some .cell:=by decide +kernel
 nofree:∀y∈sc.names,y.2≠.free:=by decide +kernel
theorem Xk {kindOf:Str->Option NameKind}{x:Str}:∀{binds:List (Str×Value)}{m:x_},(∀v,(x,v)∉binds)->bindL kindOf binds m x=m x
 | [],_,_=>rfl
 | (n,v)::r,m,h=>by
  unfold bindL
  rw[Xk λw hw=>h w (bw _ hw)]
  split
  ·have:x≠n:=by rintro rfl;exact h v a_
   simp[this]
  ·rfl
theorem Ww {kindOf:Str->Option NameKind}{x:Str}:∀{binds:List (Str×Value)}{m:x_},(∀v,(x,v)∉binds)->bindC kindOf binds m x=m x
 | [],_,_=>rfl
 | (n,v)::r,m,h=>by
  unfold bindC
  rw[Ww λw hw=>h w (bw _ hw)]
  split
  ·rfl
  ·have:x≠n:=by rintro rfl;exact h v a_
   simp[this]
theorem Xj {kindOf:Str->Option NameKind}{x:Str}{v:Value}:∀{P:v4}{vs:w6}{i:Nat}{m:x_},P.Nodup->P[i]?=some x->vs[i]?=some v->kindOf x=some .local ->
 bindL kindOf (P.zip vs) m x=some v
 | [],_,_,_,_,h,_,_=>by simp at h
 | _::_,[],_,_,_,_,h,_=>by simp at h
 | p::P,w::vs,0,m,nd,h1,h2,hk=>by
  simp at h1 h2;subst h1;subst h2
  show bindL kindOf ((p,w)::P.zip vs) m p=_
  unfold bindL
  rw[Xk λv hv=>(bR.mp nd).1 (List.of_mem_zip hv).1,if_pos hk]
  simp
 | p::P,w::vs,i+1,m,nd,h1,h2,hk=>by
  show bindL kindOf ((p,w)::P.zip vs) m x=_
  unfold bindL
  exact Xj (i:=i) (bR.mp nd).2 (by simpa using h1) (by simpa using h2) hk
theorem Xa {kindOf:Str->Option NameKind}{x:Str}{v:Value}:∀{P:v4}{vs:w6}{i:Nat}{m:x_},P.Nodup->P[i]?=some x->vs[i]?=some v->kindOf x≠some .local ->
 bindC kindOf (P.zip vs) m x=some v
 | [],_,_,_,_,h,_,_=>by simp at h
 | _::_,[],_,_,_,_,h,_=>by simp at h
 | p::P,w::vs,0,m,nd,h1,h2,hk=>by
  simp at h1 h2;subst h1;subst h2
  show bindC kindOf ((p,w)::P.zip vs) m p=_
  unfold bindC
  rw[Ww λv hv=>(bR.mp nd).1 (List.of_mem_zip hv).1,if_neg hk]
  simp
 | p::P,w::vs,i+1,m,nd,h1,h2,hk=>by
  show bindC kindOf ((p,w)::P.zip vs) m x=_
  unfold bindC
  exact Xa (i:=i) (bR.mp nd).2 (by simpa using h1) (by simpa using h2) hk
noncomputable def start (N:v4) (vs:m7):St:=vs.map some++List.replicate (N.length-vs.length) none
noncomputable def Rw (CX:CXT) (P:u9) (w:World) (K:v9) (mg:x_) (base:Heap) (N:v4) (qual:Str) (scope:Scope) (f:Addr) (cd:Value) (A:q9) (outer:List Env) (s:t6) (H:Hp) (E:XK):Cx where
 prog:=P
 w:=w
 K:=K
 mg:=mg
 base:=base
 A:=A.deeper (envOfC qual scope s.heap.objs.size f cd)
 N:=N
 s₀:=s
 H₀:=H
 env:=envOfC qual scope s.heap.objs.size f cd
 outer:=outer
 stack:=envOfC qual scope s.heap.objs.size f cd::outer
 ex:=[]
 calm:=true
 fn:=λ_=>true
 pn:=[]
 xe:=λe s'=>wpAny (model P w) (A.deeper (envOfC qual scope s.heap.objs.size f cd)) (leaving (envOfC qual scope s.heap.objs.size f cd) e) (λ_ s''=>CX outer H s E e s'') (λe' s''=>CX outer H s E e' s'') s'
theorem Ai5 {a:Scope} (h:a.names.lookup x=some .cell):∃c,(cellsFrom n a.names []).lookup x=some c:=by
 exact j9.mp (PySem.W.cellsFrom_some _ n [] (.inl h))
theorem A3c {K:v9}
 (S:Aq N ps scope) (hd:A.handled=none) (d:Env0 P w K mg base A a s H) (hl:vs.length=ps.length) (r:Vals vs us)
 (x:InCallC s s.heap.objs.size (bindL (envOfC qual scope s.heap.objs.size f t).kindOf (ps.zip us) λ_=>none) (cellsFrom (s.heap.objs.size+1) scope.names []) (bindC (envOfC qual scope s.heap.objs.size f t).kindOf (ps.zip us) λ_=>none) s1) :
 Inv (Rw CX P w K mg base N qual scope f t A a s H E) [] (start N vs) H s1:=by
 have D:ps.length<=N.length:=by have:=cu List.length S.pre;rw[gC]at this;lia
 obtain⟨o,tk,rfl,B⟩:=x.done
 have g:∀b:Addr,b∉(Rw CX P w K mg base N qual scope f t A a s H E).ex:=λb z=>absurd (show b∈([]:v6) from z) (by simp)
 refine⟨⟨d.mod,S.kind,rfl,rfl,au _,λy z c o n=>?_,λy j=>?_,λy c _ h=>?_,λ_=>hd,Around.frames_deeper d.frames,.inr ⟨rfl,rfl⟩,λb z=>absurd z (g b),d.bs,d.bsz,λb _ _=>g b,λb z=>absurd z (g b),d.funs,d.frf,d.tab⟩,
  rfl,d.bare,Un.kept B,⟨_,x.toInCall.ns,λi y v o n h3=>?_⟩,λy c h=>⟨_,x.cell y c h⟩,d.hok.fresh (au _),λy c h=>?_,λp m=>absurd (show p∈([]:y_) from m) (by simp),d.hok.kept B,?_⟩
 ·exact name_of_addr x.apart (gD o) (gD n)
 ·have j:scope.names.lookup y=some .cell\/scope.names.lookup y=some .free:=j
  rcases j with j | j
  ·exact Ai5 j
  ·exact absurd rfl (S.nofree _ (gD j))
 ·exact iu (x.above y c (gD h))
 ·have hi:i<vs.length:=by
   unfold start at n
   grind
  have F:vs[i]?=some v:=by
   unfold start at n
   grind
  obtain⟨u,C,G⟩:=r.get F
  have m:ps[i]?=some y:=by
   rw[<- S.pre,List.getElem?_take_of_lt (by lia)];exact o
  have l:ps.Nodup:=by rw[<- S.pre];exact S.nd.sublist (List.take_sublist _ _)
  refine⟨u,G,?_⟩
  rcases S.par y (bf m) with k | k
  ·exact .inl ⟨k,Xj l m C k⟩
  ·obtain⟨c,e⟩:=Ai5 k
   refine .inr ⟨.inl k,c,e,?_⟩
   have q:=x.cell y c e
   rw[Xa l m C (by show scope.names.lookup y≠_;rw[k];decide)]at q
   exact q
 ·exact d.hok.fresh (iu (x.above y c (gD h)))
 ·unfold start
  show _=N.length
  simp_all
theorem A5x {K:v9}
 (lk:K.lookup f=some ⟨oc,od,.func (PySem.W.fnOf name qual d body scope U O z R M a W),F⟩) (hcd:PySem.W.codeIn K a qual=true) (S:Aq N ps scope)
 (p:∀vs H Q E,sp vs H Q E->vs.length=ps.length)
 (i:∀(A:q9) (c:List Env) (s:t6) (H:Hp) (vs:m7) (Q:VK) (E:XK),Room k (A.deeper (envOfC qual scope s.heap.objs.size f a))->sp vs H Q E ->
  ∃t,PSs (Rw CX P w K mg base N qual scope f a A c s H E) body t/\t { nx:=λ_ H'=>Q .non H',rt:=Q } (start N vs) H) :
 FnOk P w K mg base CX (k+1) f (PySem.W.fnOf name qual d body scope U O z R M a W) ps sp:=by
 refine⟨p,λA c s H T X vs Q E C l hb r m=>?_⟩
 have hl:=p _ _ _ _ m
 have G := l.mod.kin.keeps λb o e=>(l.bs b o e).1
 have h:∀y∈ps.zip X,scope.names.lookup y.1=some .local\/(scope.names.lookup y.1=some _/\((cellsFrom (s.heap.objs.size+1) _ []).lookup y.1).isSome=true):=λ⟨n,v⟩ Y=>by
  rcases S.par n (List.of_mem_zip Y).1 with q | q
  ·grind
  ·exact .inr ⟨q,PySem.W.cellsFrom_some _ _ _ (.inl q)⟩
 refine codeAny_call_function C.depth (G _ _ lk) rfl S.co S.gen rfl (PySem.W.codeRec_of G hcd) (hb _ _ _ _ ?_)
 refine wpAny_newFunctionEnv_cells S.kind h λZ he s1 x=>?_
 subst he
 refine⟨(l.mod.nolimit.keeps λb o e=>(l.bs b o e).1).keeps x.toInCall.keep,codeAny_func ?_⟩
 obtain⟨t,ht,hq⟩:=i A _ s H _ Q E (C.deeper _) m;have I:Inv (Rw CX P w K _ _ N qual _ f a A _ s H E) _ _ H _:=A3c S C.hd l hl r x
 refine aH (ht _ _ _ H _ I hq) (λfl L j=>?_) λe L j=>j
 have B:∀{g:St} {H':Hp} {v:V} {u:Value},Inv (Rw CX P w K mg base N qual scope f a A c s H E) [] g _ L->RelV v u->Q v _->CE _ P w H s Q u _ :=
  λ{g H' v u} J D q=>⟨v,H',J.os,J.bare,J.base,J.hok,D,q⟩
 cases fl with
 | ret u =>
  obtain⟨v,g,H',J,D,q⟩:=j;exact B J D q
 | next =>
  obtain⟨g,H',J,q⟩:=j;exact B (v:=V.non) J rfl q
 | brk =>
  obtain⟨_,_,_,q⟩:=j
  trivial
 | cont =>
  obtain⟨_,_,_,q⟩:=j
  trivial
section
variable {X:Cx}{x:Str}{p pos:Pos}{e:Expr}{es:v_}{t:TA}{id T:String}{r:m7->Hp->VK->Prop}
def tCB (r:m7->Hp->VK->Prop)(t:TA):TE:=λσ H Q=>t σ H λvs H1=>r vs H1 Q
theorem A9o (hc:CallR X (.builtin id) r)(hg:Gl X x)(hm:X.mg x=none)(hv:bootBuiltins x=some (.builtin id))(ha:PA X (e::es) t)(hn:x ≠ "__name__" := by decide) (hdb:(x==("__debug__" : Str))=false:=by decide)
 (he:starEach (e::es) X.env=(false,eval e X.env)::starEach es X.env:=by rfl) (hpl:(backTo pos (starEach es X.env)).any (·.1)=false:=by rfl):PE X (.Call (.Name x p) (e::es) [] pos) (tCB r t):=by
 intro a s f H Q I h
 refine gB (J9 I hg hm hv ?_ hn hdb)
 exact jN (thn (ha _ _ s _ H _ I h) λj k ⟨g,i,d,c,b⟩=>hc _ _ _ _ _ _ Q d c b) he hpl
theorem A0j (hc:CallR X (.type T) r)(hg:Gl X x)(hm:X.mg x=none)(hv:bootBuiltins x=some (.type T))(ha:PA X (e::es) t)(hn:x ≠ "__name__" := by decide) (hdb:(x==("__debug__" : Str))=false:=by decide)
 (he:starEach (e::es) X.env=(false,eval e X.env)::starEach es X.env:=by rfl) (hpl:(backTo pos (starEach es X.env)).any (·.1)=false:=by rfl):PE X (.Call (.Name x p) (e::es) [] pos) (tCB r t):=by
 intro a s f H Q I h
 refine gB (J9 I hg hm hv ?_ hn hdb)
 exact fD (thn (ha _ _ s _ H _ I h) λj k ⟨g,i,d,c,b⟩=>hc _ _ _ _ _ _ Q d c b) he hpl
end
end L2
namespace HT
open PySem PyProof.Rows
section
variable {prog:u9}{w:World}{A:q9}{E:z_}{s:t6}
theorem Bo1 (ht:IsTup s.heap t vs.toArray) (hb:IsTup s.heap b c.toArray) (hv:vs≠[])
 (h1:c=[]->Q (.ref t) s) (h2:c≠[]->Q (.ref s.heap.objs.size) { s with heap:=s.heap.push { cls:=.type "tuple",data:=.seq (vs++c).toArray } })
 (hsz:vs.length+c.length<=sizeLine):wpAny (model prog w) A (binaryOp .Add (.ref t) (.ref b)) Q E s:=by
 obtain⟨⟨g,q,d,p⟩,e,o,n,l⟩:=id ht;obtain⟨⟨j,k,i,m⟩,a,h,r,f⟩:=id hb;subst o l h f
 by_cases hw:c=[]
 ·exact concat_meets ⟨_,e,rfl⟩ ⟨_,a,rfl⟩ jb seq_tuple_add jc jd (je _ _)
   (tuple_addW1 t b _ _ n _ _ _ _ _ (by simp_all) (by grind)) ⟨e,a,h1 hw⟩
 ·refine concat_meets ⟨_,e,rfl⟩ ⟨_,a,rfl⟩ jb seq_tuple_add jc jd (je _ _)
   (tuple_addW2 t b _ _ n _ _ _ _ _ (by grind) (by simp_all) (by simp_all)) ⟨e,a,?_⟩
  grind
noncomputable def sIx (n d:Nat):q_->Nat
 | none=>d
 | some v=>if v<0 then (v+(n:Int)).toNat else min v.toNat n
theorem Aa8 (n d:Nat):sIx n d none=d:=rfl
theorem At0 (n d k:Nat):sIx n d (some (k:Int))=min k n:=by
 show (if k<0 then ((k:Int)+n).toNat else min _ n)=min k n
 grind
theorem Bv7 (n d:Nat)(hd:d<=n)(o:q_):sIx n d o<=n:=by
 cases o with
 | none=>exact hd
 | some v =>
  show (if v<0 then (v+n).toNat else min _ n)<=n
  grind
theorem Aw9 (v:Int)(n d:Nat):(if v<0 then max (v+(n:Int)) 0 else min v (n:Int))=((sIx n d (some v):Nat):Int):=by
 show (if v<0 then max _ 0 else min v _)=(((if v<0 then (v+n).toNat else min _ n):Nat):Int)
 grind
theorem Aq6 (lo hi:q_)(n:Nat):Builtin.Slice.sliceAdjust lo hi 1 (n:Int)=(((sIx n 0 lo:Nat):Int),((sIx n n hi:Nat):Int)):=by
 refine Prod.ext ?_ ?_
 ·cases lo with
  | none=>rfl
  | some v=>exact Aw9 v n 0
 ·cases hi with
  | none=>rfl
  | some v=>exact Aw9 v n n
theorem Al5 (i j:Nat):Builtin.Slice.slicePlaces (i:Int) (j:Int) 1=j-i:=by
 unfold Builtin.Slice.slicePlaces
 have h1:(1:Int)>0:=by lia
 simp only[h1,cB,Int.ediv_one]
 split <;> lia
theorem T9 (p:IsPart v o) (h:Q o s):wpAny (model prog w) A (Builtin.Slice.slicePartIndex v) Q E s:=by
 cases p with
 | none=>exact slicePart_none h
 | int i t=>exact slicePart_int h
theorem Jw {lo hi:q_}{n:Nat} (hs:s.heap.IsSliceOf e d c .none) (pl:IsPart d lo) (g:IsPart c hi)
 (h:Q (((sIx n 0 lo:Nat):Int),1,sIx n n hi-sIx n 0 lo) s):wpAny (model prog w) A (Builtin.Slice.sliceApplied (.ref e) (pure (n:Int))) Q E s:=by
 obtain⟨i,a,f,b⟩:=id hs
 refine aj (aj (aW a b (x:=d) rfl (aj (aW a b (x:=c) rfl (aj (aW a b rfl (ak ?_)))))))
 refine aj (slicePart_none ?_)
 refine aj (T9 pl (aj (T9 g (aj (ak ?_)))))
 show wpAny _ _ (match Builtin.Slice.sliceAdjust _ _ 1 _ with | (lo,hi)=>pure (lo,(1:Int),Builtin.Slice.slicePlaces lo hi 1)) _ _ s
 rw[Aq6 _ _ n]
 show wpAny _ _ (pure _) _ _ s
 rw[Al5];exact ak h
theorem A7m (xs:v7)(i k:Nat):((List.range k).filterMap λ(m:Nat)=>xs[((i:Int)+(m:Int)*1).toNat]?).toArray=((xs.toList.drop i).take k).toArray:=by
 have e:(λ(m:Nat)=>xs[((i:Int)+m*1).toNat]?)=λm=>xs[i+m]?:=by
  funext m
  have:((i:Int)+m*1).toNat=i+m:=by lia
  rw[this]
 rw[e];have:=pick_run xs i k;rw[List.filterMap_map]at this
 have a:((λx=>xs[x]?) ∘ λx=>i+x)=λm=>xs[i+m]?:=rfl
 rw[a]at this;rw[this]
theorem Ow {lo hi:q_} (ht:IsTup s.heap t items) (hs:s.heap.IsSliceOf sl vl vu .none) (pl:IsPart vl lo) (pu:IsPart vu hi)
 (hw:¬ (sIx items.size 0 lo=0/\sIx items.size items.size hi=items.size))
 (h:Q (.ref s.heap.objs.size) { s with heap:=s.heap.push { cls:=.type "tuple",data:=.seq ((items.toList.drop (sIx items.size 0 lo)).take (sIx items.size items.size hi-sIx items.size 0 lo)).toArray } })
 (hsz:items.size<=sizeLine):wpAny (model prog w) A (getItem (.ref t) (.ref sl)) Q E s:=by
 have htake:sizeOk (.seq ((items.toList.drop (sIx items.size 0 lo)).take (sIx items.size items.size hi-sIx items.size 0 lo)).toArray):=by
  show ((items.toList.drop (sIx items.size 0 lo)).take (sIx items.size items.size hi-sIx items.size 0 lo)).toArray.size<=sizeLine
  rw[cA,gC,jf,fL];lia
 have hj:sIx items.size items.size hi<=items.size:=Bv7 _ _ (au _) hi;obtain⟨os,hos,hcs,hds⟩:=id hs;have hTs:s.TypeIs (.ref sl) "slice" := ⟨os,hos,hcs⟩;unfold getItem
 try with_reducible refine bA ?_
 first | refine aj (ak ?_) | skip
 refine aj (wpAny_sequenceKey ht.typeIs (by decide) ?_)
 refine aj (cM (name:="__getitem__") ht.typeIs fM
  (bO fM ht.typeIs entry_tuple_getitem ?_ (args_tuple_getitem _ _)))
 show wpAny _ _ (Builtin.Tuple.tupleItemsOf (.ref t) >>= _) _ _ s
 refine aj (tupleItemsOf_ ht ?_)
 refine aj (dB hTs ?_)
 rw[if_pos (by decide)]
 refine aj (Jw hs pl pu ?_)
 have hno:¬ ((((sIx items.size 0 lo:Nat):Int)==0&&(1:Int)==1&&(sIx items.size items.size hi-sIx items.size 0 lo)==items.size)=true):=by
  intro q;rw[cN,cN]at q;have q1:((sIx items.size 0 lo:Nat):Int)=0:=cQ q.1.1;have q2:sIx items.size items.size hi-sIx items.size 0 lo=items.size:=cQ q.2
  exact hw ⟨by lia,by lia⟩
 show wpAny _ _ (if (((sIx items.size 0 lo:Nat):Int)==0&&(1:Int)==1&&(sIx items.size items.size hi-sIx items.size 0 lo)==items.size)=true then _ else _) _ _ s
 rw[if_neg hno,A7m]
 first
  | exact aj (m:=Builtin.Tuple.tupleExact _) (c7 (ak ⟨_,rfl,ak h⟩) htake)
  | exact aj (m:=Builtin.Tuple.tupleExact _) (c7 (aj (ak (ak ⟨_,rfl,ak h⟩))) htake)
  | exact aj (aj (m:=Builtin.Tuple.tupleExact _) (c7 (ak (ak ⟨_,rfl,ak h⟩)) htake))
  | exact aj (aj (m:=Builtin.Tuple.tupleExact _) (c7 (ak ⟨_,rfl,ak h⟩) htake))
end
end HT
namespace L2
open PySem PySem.Spec PyProof.Rows
abbrev TO:=St->Hp->(q_->Hp->Prop)->Prop
def PO (X:Cx)(e:Option Expr)(t:TO):Prop :=
 ∀
  (pins:y_) (s:t6) (σ:St) (H:Hp) (Q:q_->Hp->Prop),Inv X pins σ H s->t σ H Q ->
  wpAny (model X.prog X.w) X.A (evalPart e X.env) (λu s'=>∃o H',Inv X pins σ H' s'/\IsPart u o/\Q o H') X.xe s
structure QO (X:Cx) (e:(Option Expr)) (t:TO):Prop where
 get:PO X e t
noncomputable def Ax7:TO:=λ_ H Q=>Q none H
noncomputable def Bs4 (t:TE):TO:=λσ H Q=>t σ H λx H1=>∃i,x=.int i/\Q (some i) H1
section
variable {X:Cx}{e:Expr}{te:TE}{lo hi:Option Expr}{tl th:TO}{pos p2:Pos}
theorem Mr:QO X none Ax7:=by
 refine⟨?_⟩
 intro a s b H Q I h;exact ak ⟨none,H,I,.none,h⟩
theorem Mw (h:QE X e te):QO X (some e) (Bs4 te):=by
 refine⟨?_⟩
 intro a s σ H Q I d
 refine thn (h.1 _ s _ H _ I d) λu s1 ⟨x,f,b,c,g⟩=>?_
 obtain⟨i,rfl,q⟩:=g;obtain⟨t,rfl⟩:=c;exact⟨some i,f,b,.int i t,q⟩
def SlR (X:Cx)(r:V->q_->q_->Hp->VK->Prop):Prop :=
 ∀
  (pins:y_) (s:t6) (σ:St) (H:Hp) (x:V) (v vl vu:Value) (lo hi:q_) (sl:Addr) (Q:VK),Inv X pins σ H s->RelV x v->s.heap.IsSliceOf sl vl vu .none->IsPart vl lo->IsPart vu hi->r x lo hi H Q ->
  ∃T id,typeLookup (.type T) "__getitem__" = pure (some (.builtin id))/\s.TypeIs v T/\wpAny (model X.prog X.w) X.A (getItem v (.ref sl)) (EP X pins σ Q) X.xe s
theorem SlR.or (h:SlR X r) (h':SlR X b):SlR X (λx lo hi H Q=>r x lo hi H Q\/b x lo hi H Q):=by
 intro d s g H x v i j lo hi k Q I e c f a q
 rcases q with q | q
 ·exact h _ s _ H x v _ _ _ _ _ Q I e c f a q
 ·exact h' _ s _ H x v _ _ _ _ _ Q I e c f a q
def tSl (r:V->q_->q_->Hp->VK->Prop)(te:TE)(tl th:TO):TE:=λσ H Q=>te σ H λx H1=>tl σ H1 λl H2=>th σ H2 λu H3=>r x l u H3 Q
theorem A8b (hr:SlR X r) (he:QE X e te) (hl:QO X lo tl) (hu:QO X hi th):QE X (.Subscript e (.Slice lo hi none p2) pos) (tSl r te tl th):=by
 refine⟨?_⟩
 intro c s E H Q I h
 refine Subscript_ (thn (he.1 _ s _ H _ I h) λv B ⟨x,D,i,j,k⟩=>?_)
 refine wpAny_Slice (thn (hl.1 _ _ _ _ _ i k) λm C ⟨l,K,n,o,f⟩=>thn (hu.1 _ _ _ _ _ n f) λg a ⟨u,J,t,w,p⟩=>?_)
 refine ak ?_
 have z:Inv X _ _ _ { a with heap:=a.heap.push { cls:=.type "slice",data:=.fields #[m,g,.none] } }:=t.kept λb F q=>aB _ q
 obtain⟨T,G,y,A,d⟩:=hr _ _ _ _ x v _ _ l u _ Q z j (Heap.IsSliceOf.new ..) o w p
 exact tail_any A y d (by trivial)
def A0k (xs:m7)(lo hi:q_):m7:=(xs.drop (HT.sIx xs.length 0 lo)).take (HT.sIx xs.length xs.length hi-HT.sIx xs.length 0 lo)
theorem Rg (xs:m7)(lo hi:q_):(A0k xs lo hi).length<=xs.length:=by
 unfold A0k;rw[gC,jf];lia
def B6g (K:v9):V->q_->q_->Hp->VK->Prop:=λx lo hi H Q=>∃a xs,x=.ref a/\SqT K H a xs /\
 ¬ (HT.sIx xs.length 0 lo=0/\HT.sIx xs.length xs.length hi=xs.length)/\∀p,H p=none->Q (.ref p) (upd H p (.tup (A0k xs lo hi)))
theorem B3d:SlR X (B6g X.K):=by
 intro e s σ H x v vl vu lo hi sl Q I j k g l h;obtain⟨a,i,rfl,m,hw,q⟩:=h
 cases j
 obtain⟨d,r,f,n⟩:=I.tuple m
 have c:d.toArray.size=i.length:=by exact r.length.symm
 refine⟨"tuple",_,fM.lookup,f.typeIs,?_⟩
 refine HT.Ow f k g l (by grind) ?_ (by simp_all)
 rw[c]
 refine⟨.ref _,_,I.laid (λb ob q=>aB _ q) (au _) ?_,rfl,q _ (I.hok.fresh (au _))⟩
 exact⟨aq (Rg _ _ _) n,_,(r.drop _).take _,zR.new _ _⟩
def B4w (K:v9):R2:=λx y H Q=>∃a b xs ys,x=.ref a/\y=.ref b/\SqT K H a xs/\SqT K H b ys/\xs≠[]/\xs.length+ys.length<=sizeLine /\
 (ys=[]->Q (.ref a) H)/\(ys≠[]->∀p,H p=none->Q (.ref p) (upd H p (.tup (xs++ys))))
theorem Vals.nil_iff (r:Vals xs us):us=[]↔xs=[]:=by
 cases r with
 | nil=>simp
 | cons _ _=>simp
theorem Bq9:OpR X (binaryOp .Add) (B4w X.K):=by
 intro e s σ H x y v u Q I o p h;obtain⟨a,b,xs,ys,rfl,rfl,k,l,g,hz,m,j⟩:=h
 cases o
 cases p
 obtain⟨i,d,n,_⟩:=I.tuple k;obtain⟨f,c,r,_⟩:=I.tuple l
 refine HT.Bo1 n r (λz=>g (d.nil_iff.mp z)) (λz=>⟨.ref a,H,I,rfl,m (c.nil_iff.mp z)⟩) (λz=>?_) (by rw[<- d.length,<- c.length];grind)
 refine⟨.ref _,_,I.laid (λb ob q=>aB _ q) (au _) ?_,rfl,j (λw=>z (c.nil_iff.mpr w)) _ (I.hok.fresh (au _))⟩
 exact⟨by simp_all,_,d.append c,zR.new _ _⟩
end
noncomputable def ixN (n:Nat) (i:Int):Option Nat:=if 0<=i then (if i<n then some i.toNat else none) else if -(n:Int)<=i then some (i+n).toNat else none
def atI {α:Type}(xs:List α)(i:Int):Option α:=(ixN xs.length i).bind λj=>xs[j]?
theorem Yx (h:ixN n i=some j):seqIndex? i n=some j/\j<n/\-(n:Int)<=i/\i<n:=by
 unfold ixN at h
 by_cases h0:0<=i
 ·rw[if_pos h0]at h
  by_cases h1:i<n
  ·rw[if_pos h1]at h
   have e := cz h
   exact⟨by rw[seqIndex_of h0 h1,e],by lia,by lia,h1⟩
  simp_all
 ·rw[if_neg h0]at h
  by_cases h1:-n<=i
  ·rw[if_pos h1]at h
   have e := cz h
   exact⟨by rw[seqIndex_neg (by lia) h1,e],by lia,h1,by lia⟩
  simp_all
theorem Y8 {xs:List a} {v:a}(h:atI xs i=some v):∃j,seqIndex? i xs.length=some j/\xs[j]?=some v/\j<xs.length/\-(xs.length:Int)<=i/\i<xs.length:=by
 unfold atI at h
 cases e:ixN xs.length i with
 | none=>simp_all
 | some j =>
  obtain⟨c,d,f,b⟩:=Yx e
  grind
theorem Dt {xs:List a}{j:Nat}{v:a}(h:xs[j]?=some v):atI xs (j:Int)=some v:=by
 have b := (bH.mp h).1
 have e:ixN xs.length j=some j:=by
  unfold ixN
  simp_all
 unfold atI;grind
def Ml (b:Expr):Prop:=∀o i,subscripted b false o i=operate [o,i] (getItem o i)
def IxR (X:Cx)(r:R2):Prop :=
 ∀
  (value slice:Expr) (pins:y_) (s:t6) (σ:St) (H:Hp) (x y:V) (v u:Value) (Q:VK),Inv X pins σ H s->RelV x v->RelV y u->r x y H Q ->
  subscripted slice false v u=operate [v,u] (getItem v u)->wpAny (model X.prog X.w) X.A (subscriptTail value slice v u) (EP X pins σ Q) X.xe s
def MtR (X:Cx)(id:String)(r:V->m7->Hp->VK->Prop):Prop :=
 ∀
  (pins:y_) (s:t6) (σ:St) (H:Hp) (x:V) (xs:m7) (v:Value) (us:w6) (Q:VK),Inv X pins σ H s->RelV x v->Vals xs us->r x xs H Q ->
  wpAny (model X.prog X.w) X.A (call (.builtin id) (v::us)) (EP X pins σ Q) X.xe s
section
variable {X:Cx}{a b:Expr}{ta tb:TE}{pos:Pos}
theorem IxR.or (h:IxR X r) (h':IxR X d):IxR X (λx y H Q=>r x y H Q\/d x y H Q):=by
 intro b a e s i H x y v u Q I f g q c
 rcases q with q | q
 ·exact h _ _ _ s _ H x y v u Q I f g q c
 ·exact h' _ _ _ s _ H x y v u Q I f g q c
theorem Bs9 (hr:IxR X r) (ha:QE X a ta) (hb:QE X b tb) (hs:Ml b):QE X (.Subscript a b pos) (tOp r ta tb):=by
 obtain⟨ha⟩:=ha;obtain⟨hb⟩:=hb
 refine⟨?_⟩
 intro c s g H Q I h
 exact Subscript_ (B1w ha hb I h λv u i x y j f e d q=>hr a b _ _ _ _ x y v u Q f e d q (hs _ _))
def B2h (K:v9):R2:=λx y H Q=>∃p xs i v,x=.ref p/\y=.int i/\SqL K H p xs/\atI xs i=some v/\Q v H
def Bx2 (K:v9):R2:=λx y H Q=>∃p xs i v,x=.ref p/\y=.int i/\SqT K H p xs/\atI xs i=some v/\Q v H
def B3j:R2:=λx y H Q=>∃z i c,x=.str z/\y=.int i/\z.length<=sizeLine/\atI z.cps.toList i=some c/\Q (.str ⟨#[c]⟩) H
theorem ix_list:IxR X (B2h X.K):=by
 intro g f a s m H x y v u Q I C F h l;obtain⟨p,xs,i,z,rfl,rfl,E,n,q⟩:=h
 cases C
 obtain⟨t,rfl⟩:=F;obtain⟨e,r,c,hz⟩:=I.list E;obtain⟨j,k,D,h3,o,B⟩:=Y8 n;obtain⟨w,ew,d⟩:=r.get D;have hl:=r.length;have hn:=Uy;have b:EP X a m Q w s:=⟨z,H,I,d,q⟩
 by_cases h0:0<=i
 ·have A:i.toNat=j:=by
   rw[seqIndex_of h0 B]at k
   simp_all
  exact item_listR c.isList h0 (by lia) (by grind) b l
 ·have A:(i+e.toArray.size).toNat=j:=by
   rw[seqIndex_neg (by lia) o]at k
   simp_all
  exact subscriptTail_builtinR c.isList.typeIs slot_list_getitem.lookup
   (wpAny_getItem_list_neg c.isList (by lia) (by simp_all) (by lia) (by grind) ⟨rfl,b⟩) l
theorem ix_tup:IxR X (Bx2 X.K):=by
 intro b c e s σ H x y v u Q I A g h o;obtain⟨p,xs,i,z,rfl,rfl,m,n,q⟩:=h
 cases A
 obtain⟨t,rfl⟩:=g;obtain⟨k,r,f,hz⟩:=I.tuple m;obtain⟨j,h1,l,h3,h4,h5⟩:=Y8 n;obtain⟨w,ew,d⟩:=r.get l;have hl:=r.length;have hn:=Uy;have a:EP X _ _ Q w s:=⟨z,H,I,d,q⟩
 exact subscriptTail_builtinR f.typeIs slot_tuple_getitem.lookup
  (getItem_tuple (j:=j) f (by lia) (by lia) (by simp_all) (by grind) ⟨rfl,a⟩) o
theorem B1p:IxR X B3j:=by
 intro a b d s σ H x y v u Q I f m h g;obtain⟨z,i,c,rfl,rfl,hz,l,q⟩:=h;obtain⟨t,rfl⟩:=f;obtain⟨t',rfl⟩:=m;obtain⟨j,e,k,h3,o,n⟩:=Y8 l
 have p:z.cps.toList.length=z.length:=by simp[Str.length]
 rw[p]at e o n;have hn:=Uy
 exact tail_any (typeIs_str s z t) slot_str_getitem.lookup (getItem_str (by
  grind) (by rw[e];simpa using k) ⟨.str _,H,I.tok _,⟨_,rfl⟩,q⟩) g
def rIx (K:v9):R2:=λx y H Q=>B2h K x y H Q\/Bx2 K x y H Q\/B3j x y H Q
theorem B2c:IxR X (rIx X.K):=ix_list.or (ix_tup.or B1p)
theorem Ak0 (a:w6)(n j:Nat)(u:Value):Obj.mapSeq (·.setIfInBounds j u) { cls:=.type "list",data:=.seq a.toArray n }={ cls:=.type "list",data:=.seq (a.set j u).toArray n }:=by
 simp[Obj.mapSeq]
theorem Inv.lst {b:St} (I:Inv X pins b H s) (h:H p=some (.lst xs)) :
 ∃(a:w6) (n:Nat),Vals xs a/\s.heap.get? p=some { cls:=.type "list",data:=.seq a.toArray n }/\xs.length<=sizeLine:=by
 obtain⟨z,a,n,r,e⟩:=I.hok p _ h
 grind
theorem Inv.lstUpd {a its':w6} (I:Inv X pins c H s) (h:H p=some (.lst xs))
 (ho:s.heap.get? p=some { cls:=.type "list",data:=.seq a.toArray n }) (hf:f { cls:=.type "list",data:=.seq a.toArray n }={ cls:=.type "list",data:=.seq its'.toArray n' }) (r:Vals ys its') (hz:ys.length<=sizeLine) (t:Nat) :
 Inv X pins c (upd H p (.lst ys)) { s with heap:=s.heap.update p f,toks:=t }:=by
 have e:(s.heap.update p f).get? p=some { cls:=.type "list",data:=.seq its'.toArray n' }:=by
  rw[bU f ho (by rw[hf] <;> rfl),hf]
 refine I.write (by rw[h];trivial) (.inl rfl) (λb u d q=>(bK _ _ (aC d)).trans q) ⟨_,e⟩ ?_
 exact⟨hz,its',n',r,e⟩
def Br7:V->V->V->Hp->(Hp->Prop)->Prop:=λo i v H Q=>∃p xs k j,o=.ref p/\i=.int k/\H p=some (.lst xs)/\ixN xs.length k=some j/\Q (upd H p (.lst (xs.set j v)))
theorem set_list:B4q X Br7:=by
 intro a s w H o i v ov iv u Q I y m g h;obtain⟨p,l,k,j,rfl,rfl,d,x,q⟩:=h
 cases y
 obtain⟨t,rfl⟩:=m;obtain⟨b,n,r,c,hz⟩:=I.lst d;obtain⟨e,h2,z,A⟩:=Yx x;have hl:=r.length;have hn:=Uy
 have I':Inv X a w (upd H p (.lst (l.set j v))) { s with heap:=s.heap.update p (Obj.mapSeq (·.setIfInBounds j u)) } :=
  I.lstUpd d c (Ak0 _ n j u) (r.set g j) (by grind) _
 by_cases h0:0<=k
 ·have f:k.toNat=j:=by
   rw[seqIndex_of h0 A]at e
   grind
  exact PySem.W.ki_setAt c h0 (by lia) (by grind) (by grind)
 ·have f:(k+b.toArray.size).toNat=j:=by
   rw[seqIndex_neg (by lia) z]at e
   simp_all
  exact PySem.W.ki_setBack c (by lia) (by simp_all) (by lia) (by grind)
theorem Aa5 (lo hi:q_)(n:Nat):(sliceBounds lo hi none n).1=((HT.sIx n 0 lo:Nat):Int)/\(sliceBounds lo hi none n).2.1=((HT.sIx n n hi:Nat):Int)/\(sliceBounds lo hi none n).2.2=1:=by
 refine⟨?_,?_,rfl⟩
 ·cases lo with
  | none=>simp[sliceBounds,HT.sIx]
  | some i =>
   simp only[sliceBounds,HT.sIx,Option.getD_none,show (1:Int)>0 by decide,cB]
   by_cases h:i<0
   ·simp only[h,cB] <;> lia
   ·simp only[h,bB] <;> lia
 ·cases hi with
  | none=>simp[sliceBounds,HT.sIx]
  | some i =>
   simp only[sliceBounds,HT.sIx,Option.getD_none,show (1:Int)>0 by decide,cB]
   by_cases h:i<0
   ·simp only[h,cB] <;> lia
   ·simp only[h,bB] <;> lia
theorem Wg (a:w6)(lo hi:q_):slicePick a.toArray lo hi none=((a.drop (HT.sIx a.length 0 lo)).take (HT.sIx a.length a.length hi-HT.sIx a.length 0 lo)).toArray:=by
 obtain⟨c,d,b⟩:=Aa5 _ _ _;unfold slicePick;rw[c,d,b]
 simp only[sliceRange_one,pick_run] <;> rfl
def B5g (K:v9):V->q_->q_->Hp->VK->Prop:=λx lo hi H Q=>∃a xs,x=.ref a/\SqL K H a xs/\∀p,H p=none->Q (.ref p) (upd H p (.lst (A0k xs lo hi)))
theorem Bf6:SlR X (B5g X.K):=by
 intro e s σ H x v vl vu lo hi sl Q I i j f k h;obtain⟨a,xs,rfl,g,q⟩:=h
 cases i
 obtain⟨l,r,d,m⟩:=I.list g;have c:=r.length
 refine⟨"list",_,slot_list_getitem.lookup,d.isList.typeIs,?_⟩
 refine wpAny_getItem_list_slice d.isList j f k .none (by simp) ?_ (by simp_all)
 rw[Wg,<- c]
 refine⟨.ref _,_,I.laid (λb ob q=>aB _ q) (au _) ?_,rfl,q _ (I.hok.fresh (au _))⟩
 exact⟨aq (Rg _ _ _) m,_,0,(r.drop _).take _,aG _ rfl⟩
noncomputable def eqV:V->V->Bool
 | .non,.non=>true
 | .bl a,.bl b=>a==b
 | .bl a,.int b=>(if a then 1 else 0)==b
 | .int a,.bl b=>a==(if b then 1 else 0)
 | .int a,.int b=>a==b
 | .str a,.str b=>a==b
 | _,_=>false
def inV (x:V)(xs:m7):Bool:=xs.any λy=>eqV y x
theorem CallR.or {r b:m7->Hp->VK->Prop}(h:CallR X f r) (h':CallR X f b):CallR X f (λxs H Q=>r xs H Q\/b xs H Q):=by
 intro c s d H xs e Q I a q
 rcases q with q | q
 ·exact h _ s _ H _ _ Q I a q
 ·exact h' _ s _ H _ _ Q I a q
theorem Yy:CallR X (.type "list") (λxs H Q=>∃p k,xs=[.ref p]/\(SqL X.K H p k\/SqT X.K H p k)/\∀l,H l=none->Q (.ref l) (upd H l (.lst k))):=by
 intro z s σ H xs us Q I r h;obtain⟨p,k,rfl,f,q⟩:=h;obtain⟨u,rfl,A⟩:=vals1 r
 cases A
 have g:∀(a:List _),Vals _ _->k.length<=sizeLine->∀(d:Heap) (t:Nat),(∀b o',s.heap.get? b=some _->d.get? b=some _) ->
  d.get? _=some _->EP X _ _ Q _ { s with heap:=d }:=λa c j d t i e =>
  ⟨.ref _,_,I.laid i (au _) (show z9 _ _ _ _ _ (.lst _) from ⟨j,a,t,c,e⟩),rfl,q _ (I.hok.fresh (au _))⟩
 rcases f with f | f
 ·obtain⟨a,c,y,j⟩:=I.list f
  have m:=c.length;obtain⟨o,w,x,n,v⟩:=y.isList
  exact call_list_seq p (.inl rfl) w x v (λd t i e=>g _ c j _ _ i e) (by simp_all)
 ·obtain⟨a,c,y,j⟩:=I.tuple f
  have m:=c.length;obtain⟨o,w,x,n,v⟩:=y
  exact call_list_seq p (.inr rfl) w x v (λd t i e=>g _ c j _ _ i e) (by simp_all)
theorem V1:CallR X (.type "tuple") (λxs H Q=>∃p c,xs=[.ref p]/\((SqL X.K H p c/\∀l,H l=none->Q (.ref l) (upd H l (.tup c)))\/(SqT X.K H p c/\Q (.ref p) H))):=by
 intro i s σ H xs us Q I r h;obtain⟨p,c,rfl,h⟩:=h;obtain⟨u,rfl,w⟩:=vals1 r
 cases w
 rcases h with ⟨d,q⟩ | ⟨d,q⟩
 ·obtain⟨a,g,f,m⟩:=I.list d
  have k:=g.length
  refine call_tuple_list f.isList (λj v=>?_) (by simp_all)
  have n:Inv X _ _ H { s with heap:=j }:=I.kept v
  have t:Inv X _ _ (upd H _ (.tup _)) { s with heap:=j.push _ } :=
   n.laid (λb o e=>aB _ e) (au _) (show z9 _ _ _ _ _ _ from ⟨m,a,g,zR.new _ _⟩)
  exact⟨.ref _,_,t,rfl,q _ (n.hok.fresh (au _))⟩
 ·obtain⟨a,g,f,m⟩:=I.tuple d
  exact call_tuple_same f ⟨.ref p,H,I,rfl,q⟩
def tyV (K:v9)(T:String)(x:V)(H:Hp):Prop:=match x with
 | .str _=>T = "str"
 | .int _=>T = "int"
 | .ref p=>(T = "list" /\ ∃xs,SqL K H p xs)\/(T = "tuple" /\ ∃o,K.lookup p=some o/\o.cls=.type "tuple" /\ o.dict=none) \/
  (T = "dict" /\ ((∃kvs,H p=some (.dK kvs))\/∃kvs,H p=some (.dT kvs)))\/(T = "set" /\ ∃S n,H p=some (.set S n))\/(T = "tuple" /\ ∃xs,H p=some (.tup xs))
 | _=>False
theorem Xv (I:Inv X pins l H s) (r:RelV x v) (ty:tyV X.K T x H) :
 s.TypeIs v T/\∀a,v=.ref a->∃ob,s.heap.get? a=some ob/\ob.dict=none:=by
 cases x with
 | str z =>
  obtain⟨t,rfl⟩:=r
  cases (ty)
  exact⟨typeIs_str s z t,λ_ e=>nomatch e⟩
 | int i =>
  obtain⟨t,rfl⟩:=r
  cases (ty)
  exact⟨typeIs_int s i t,λ_ e=>nomatch e⟩
 | ref p =>
  cases r
  rcases ty with ⟨rfl,m,u⟩ | ⟨rfl,o,b,q,k⟩ | ⟨rfl,b⟩ | ⟨rfl,S,n,b⟩ | ⟨rfl,m,b⟩
  ·obtain⟨h,_,j,_⟩:=I.list u
   refine⟨j.isList.typeIs,λa e=>?_⟩
   obtain⟨o,n,e,c,k,_⟩:=j
   grind
  ·refine⟨⟨o,I.kIn p o b,q⟩,λa e=>?_⟩
   cases e
   exact⟨o,I.kIn _ o b,k⟩
  ·have z:∃o,s.heap.get? p=some o/\o.ExactDict:=by
    rcases b with ⟨g,b⟩ | ⟨g,b⟩
    ·obtain⟨_,_,_,_,o,_,_,e,d,_⟩:=I.hok p _ b
     grind
    ·obtain⟨_,_,_,_,o,_,_,e,d,_⟩:=I.hok p _ b
     grind
   obtain⟨o,e,d⟩:=z
   refine⟨⟨o,e,d.1⟩,λa f=>?_⟩
   cases f
   exact⟨o,e,d.2.1⟩
  ·obtain⟨o,_,_,_,e,d,_⟩:=I.hok p _ b
   refine⟨⟨o,e,d.1⟩,λa f=>?_⟩
   cases f
   exact⟨o,e,d.2.1⟩
  ·obtain⟨_,h,_,o,e,c,_,dn⟩:=I.hok p _ b
   refine⟨⟨o,e,c⟩,λa f=>?_⟩
   grind
 | _=>exact False.elim ty
def Bz1 (K:v9)(T:String)(r:V->m7->Hp->VK->Prop)(to:TE):TE:=λσ H Q=>to σ H λx H1=>tyV K T x H1/\r x [] H1 Q
def tBM (K:v9)(T:String)(r:V->m7->Hp->VK->Prop)(to:TE)(t:TA):TE:=λσ H Q=>to σ H λx H1=>tyV K T x H1/\t σ H1 λxs H2=>r x xs H2 Q
variable {o e:Expr}{es:v_}{to:TE}{t:TA}{name:Str}{apos cpos:Pos}{T id:String}{r:V->m7->Hp->VK->Prop}
theorem B0f (pa:PlainAttrs T)(slot:Slot T name id)(hty:typeOf (.builtin id)=pure (.type "method_descriptor")) (hm:MtR X id r) (ho:PE X o to)
 (hbase:attributeBase o name X.env (eval o X.env)=eval o X.env:=by rfl) (hline:(apos.endLine==cpos.line)=true:=by rfl):PE X (.Call (.Attribute o name apos) [] [] cpos) (Bz1 X.K T r to):=by
 intro pins s σ H Q I h
 refine jg hbase hline (thn (ho pins s σ H _ I h) λv s1 ⟨x,H1,I1,r1,ty,q1⟩=>?_)
 obtain⟨h1,h2⟩:=Xv I1 r1 ty;exact⟨T,id,pa,slot,hty,h1,h2,dR rfl (jh (hm pins s1 σ H1 x [] v [] Q I1 r1 .nil q1))⟩
theorem Bt3 (pa:PlainAttrs T)(slot:Slot T name id)(hty:typeOf (.builtin id)=pure (.type "method_descriptor")) (hm:MtR X id r) (ho:PE X o to) (ha:PA X (e::es) t)
 (hbase:attributeBase o name X.env (eval o X.env)=eval o X.env:=by rfl)
 (hfew:((backTo cpos (starEach (e::es) X.env)).all (λx=>!x.1)&&(backToKw cpos (keywordEach [] X.env)).all (λx=>x.1.isSome)
  && decide ((e::es).length+([]:List Keyword).length+(if ([]:List Keyword).isEmpty then 0 else 1)<30))=true:=by rfl)
 (hline:(apos.endLine==cpos.line)=true:=by rfl) (hs:starEach (e::es) X.env=(false,eval e X.env)::starEach es X.env:=by rfl) (hplain:(backTo cpos (starEach es X.env)).any (·.1)=false:=by rfl) :
 PE X (.Call (.Attribute o name apos) (e::es) [] cpos) (tBM X.K T r to t):=by
 intro b s p H Q I h
 refine wpAny_Call_method_late hbase hfew hline rfl (thn (ho _ s _ H _ I h) λv z ⟨x,y,c,a,j,k⟩=>?_)
 obtain⟨g,m⟩:=Xv c a j
 refine⟨T,id,pa,slot,hty,g,m,?_⟩
 have d:=ha cpos _ _ _ _ _ c k;rw[hs]at d ⊢
 refine dR (by grind) (eQ ?_)
 exact thn d λi q ⟨u,w,l,n,f⟩=>hm _ _ _ _ x _ v i Q l a n f
end
def MtM (X:Cx)(id:String)(r:V->m7->Hp->VK->Prop):Prop :=
 ∀
  (pins:y_) (s:t6) (σ:St) (H:Hp) (x:V) (xs:m7) (v:Value) (us:w6) (Q:VK),Inv X pins σ H s->RelV x v->Vals xs us->r x xs H Q ->
  wpAny (model X.prog X.w) X.A (call (.builtin id) (v::us)) (EP X pins σ Q) X.xe s
theorem Vals.one:∀{x:V}{us:w6},Vals [x] us->∃u,us=[u]/\RelV x u
 | _,_,h=>by
  cases h with
  | cons r t=>cases t;exact⟨_,rfl,r⟩
theorem Vals.two:∀{x y:V}{us:w6},Vals [x,y] us->∃u v,us=[u,v]/\RelV x u/\RelV y v
 | _,_,_,h=>by
  cases h with
  | cons r t =>
   cases t with
   | cons q t=>cases t;exact⟨_,_,rfl,r,q⟩
theorem Vals.zero:∀{us:w6},Vals [] us->us=[]
 | _,.nil=>rfl
theorem Vals.dropLast {xs:m7}{us:w6}(h:Vals xs us):Vals xs.dropLast us.dropLast:=by
 induction h with
 | nil=>exact .nil
 | cons r t ih =>
  cases t with
  | nil=>exact .nil
  | cons q t'=>exact .cons r ih
theorem Vals.eraseIdx:∀{xs:m7}{us:w6}(i:Nat),Vals xs us->Vals (xs.eraseIdx i) (us.eraseIdx i)
 | _,_,_,.nil=>.nil
 | _,_,0,.cons _ t=>t
 | _,_,i+1,.cons r t=>.cons r (Vals.eraseIdx i t)
theorem An9 {α:Type}(l:List α):l.eraseIdx (l.length-1)=l.dropLast:=by
 induction l with
 | nil=>rfl
 | cons a r ih =>
  cases r with
  | nil=>rfl
  | cons b r =>
   have e:(a::b::r).length-1=((b::r).length-1)+1:=by
    have h1:(a::b::r).length=r.length+2:=rfl;have h2:(b::r).length=r.length+1:=rfl;lia
   rw[e,iz,ih]
   all_goals rfl
theorem A1d {α:Type}:∀(l:List α) (i:Nat),(l.eraseIdx i).length<=l.length
 | [],_=>au _
 | _::_,0=>dC _
 | _::r,i+1=>Nat.succ_le_succ (A1d r i)
section
variable {X:Cx}{pins:y_}{σ:St}{H:Hp}{s:t6}{l b:Addr}{xs ys:m7}
theorem Inv.lset {a its':w6} (I:Inv X pins σ H s) (c:H l=some (.lst xs))
 (e:s.heap.get? l=some { cls:=.type "list",data:=.seq a.toArray n }) (hf:f a.toArray=its'.toArray) (hv:Vals ys its') (hz:ys.length<=sizeLine) :
 Inv X pins σ (upd H l (.lst ys)) { s with heap:=s.heap.update l (Obj.mapSeq f),toks:=t' }:=by
 have q:=ji e f;rw[hf]at q
 refine I.write (by rw[c];trivial) (.inl rfl) (λg u d b=>(bK _ _ (aC d)).trans b) ⟨_,q⟩ ?_
 exact⟨hz,its',_,hv,q⟩
theorem Inv.lnew (I:Inv X pins σ H s) (hv:Vals ys a) (hz:ys.length<=sizeLine) :
 Inv X pins σ (upd H s.heap.objs.size (.lst ys)) { s with heap:=s.heap.push { cls:=.type "list",data:=.seq a.toArray },toks:=t' } :=
 I.laid (λ_ _ q=>aB _ q) (au _) ⟨hz,a,0,hv,aG _ rfl⟩
theorem Inv.fresh (I:Inv X pins σ H s):H s.heap.objs.size=none:=I.hok.fresh (au _)
theorem Inv.lstM (I:Inv X pins σ H s)(b:H l=some (.lst xs)):xs.length<=sizeLine/\∃(a:w6) (n:Nat),Vals xs a/\xs.length=a.length/\s.heap.get? l=some { cls:=.type "list",data:=.seq a.toArray n }:=by
 obtain⟨z,a,n,r,e⟩:=I.hok l _ b;exact⟨z,a,n,r,r.length,e⟩
end
section
variable {X:Cx}
def rAppend:V->m7->Hp->VK->Prop:=λx vs H Q=>∃l xs y,x=.ref l/\vs=[y]/\H l=some (.lst xs)/\xs.length<sizeLine/\Q .non (upd H l (.lst (xs++[y])))
theorem A2p:MtM X "list.append" rAppend:=by
 intro a s σ H x vs v us Q I c f h;obtain⟨l,xs,y,rfl,rfl,b,hz,q⟩:=h
 cases c
 obtain⟨u,rfl,d⟩:=f.one;obtain⟨z,g,n,r,hl,e⟩:=I.lstM b
 refine cW F.slot_list_append ⟨_,e,rfl⟩ F.entry_list_append (F.args_list_append_2 _ _) (PySem.list_append l _ n u (by simp_all)) ⟨e,?_⟩
 refine⟨.non,_,I.lset b e (by simp) (r.append (.cons d .nil)) ?_,rfl,q⟩
 grind
def rPop:V->m7->Hp->VK->Prop:=λx vs H Q=>∃l xs y,x=.ref l/\vs=[]/\H l=some (.lst xs)/\xs[xs.length-1]?=some y/\Q y (upd H l (.lst xs.dropLast))
theorem B2j:MtM X "list.pop" rPop:=by
 intro pins s σ H x vs v us Q I rx rv h;obtain⟨l,xs,y,rfl,rfl,hH,hy,q⟩:=h
 cases rx
 have hus:=rv.zero;subst hus;obtain⟨z,its,n,r,hl,e⟩:=I.lstM hH;obtain⟨u,hu,ru⟩:=r.get hy
 have hy':its.toArray[its.toArray.size-1]?=some u:=by
  show its.toArray[its.length-1]?=some u
  rw[<- fO,<- hl];exact hu
 refine cW F.slot_list_pop ⟨_,e,rfl⟩ F.entry_list_pop (F.args_list_pop_1 _) (MeetsSeq.list_pop_last l its.toArray n u hy' (by rw[cA];lia)) ⟨e,?_⟩
 refine⟨y,_,I.lset (its':=its.dropLast) hH e ?_ r.dropLast ?_,ru,q⟩
 ·show its.toArray.eraseIdxIfInBounds (its.toArray.size-1)=its.dropLast.toArray
  rw[cA,List.eraseIdxIfInBounds_toArray,An9]
 ·rw[List.length_dropLast]
  lia
def rPopAt:V->m7->Hp->VK->Prop:=λx vs H Q=>∃l xs i k y,x=.ref l/\vs=[.int i]/\H l=some (.lst xs)/\-(2 ^ 63)<=i/\i<2 ^ 63/\seqIndex? i xs.length=some k/\xs[k]?=some y/\Q y (upd H l (.lst (xs.eraseIdx k)))
theorem Af9:MtM X "list.pop" rPopAt:=by
 intro b s σ H x vs v us Q I f g h;obtain⟨l,xs,i,k,y,rfl,rfl,c,d,j,hk,o,q⟩:=h
 cases f
 obtain⟨u,rfl,m⟩:=g.one;obtain⟨t,rfl⟩:=m;obtain⟨z,p,n,r,hl,e⟩:=I.lstM c;obtain⟨w,hw,a⟩:=r.get o
 refine cW F.slot_list_pop ⟨_,e,rfl⟩ F.entry_list_pop (F.args_list_pop_2 _ _)
  (MeetsSeq.list_pop_at l _ n i t k w (fitsIndex_both d j) (by simp_all) (by simp_all) (by simp_all)) ⟨e,?_⟩
 refine⟨y,_,I.lset c e ?_ (r.eraseIdx k) ?_,a,q⟩
 ·simp_all
 grind
def B3t:R2:=λx y H Q=>∃l b xs zs,x=.ref l/\y=.ref b/\H l=some (.lst xs)/\H b=some (.lst zs)/\xs.length+zs.length<=sizeLine/\∀p,H p=none->Q (.ref p) (upd H p (.lst (xs++zs)))
theorem B2u:OpR X (binaryOp .Add) B3t:=by
 intro d s σ H x y v u Q I k g h;obtain⟨l,b,xs,zs,rfl,rfl,i,j,hz,q⟩:=h
 cases k
 cases g
 obtain⟨z,c,n,r,hl,e⟩:=I.lstM i;obtain⟨z2,a,n2,o,m,p⟩:=I.lstM j
 refine PySem.P.add_list e p ?_ (by grind)
 have f:c.toArray++a.toArray=(c++a).toArray:=by simp
 rw[f]
 exact⟨.ref _,_,I.lnew (r.append o) (by simp_all),rfl,q _ I.fresh⟩
end
section
variable {κ:Type}[DecidableEq κ]
noncomputable def Ii (kvs:List (κ×V)) (k:κ):Option V:=(kvs.find? λkv=>decide (kv.1=k)).map (·.2)
noncomputable def putK (kvs:List (κ×V)) (k:κ) (v:V):List (κ×V) :=
 if (kvs.any λkv=>decide (kv.1=k))=true then kvs.map (λkv=>if kv.1=k then (kv.1,v) else kv) else kvs++[(k,v)]
theorem Mg {p:κ×V} (e:p.1=k):Ii (p::r) k=some p.2:=by simp[Ii,e]
theorem Hw {p:κ×V} (e:¬ p.1=k):Ii (p::r) k=Ii r k:=by simp[Ii,e]
theorem Oh (k:κ):∀kvs:List (κ×V),(kvs.any λkv=>decide (kv.1=k))=(Ii kvs k).isSome
 | []=>rfl
 | p::r=>by
  rw[List.any_cons]
  by_cases e:p.1=k
  ·simp only[Mg e,aN e,Bool.true_or,Option.isSome_some]
  ·rw[Hw e,aV e,Bool.false_or];exact Oh k r
theorem Ra (a:List (κ×V))(k:κ)(v:V):(putK a k v).length<=a.length+1:=by
 unfold putK
 grind
theorem RelO.isSome_eq (r:RelO o u):o.isSome=u.isSome:=by
 cases o with
 | none=>
  cases u with
   | none=>rfl
   | some _=>trivial
 | some _=>
  cases u with
   | none=>trivial
   | some _=>rfl
theorem RelO.getD (r:RelO o u) (a:RelV d d'):RelV (o.getD d) (u.getD d'):=by
 cases o with
 | none=>
  cases u with
   | none=>grind
   | some _=>trivial
 | some _=>
  cases u with
   | none=>trivial
   | some _=>exact r
theorem KV.val (r:KV a vs) (k:κ):RelO (Ii a k) (valueAt vs k):=by
 induction r with
 | nil=>trivial
 | @cons p q j c h t i =>
  obtain⟨d,g⟩:=h
  by_cases e:p.1=k
  ·have b:valueAt (q::c) k=some q.2:=by simp[valueAt,(d.symm.trans e)]
   rw[Mg e,b];exact g
  ·have f:¬ q.1=k:=λz=>e (d.trans z)
   have b:valueAt (q::c) k=valueAt c k:=by simp[valueAt,f]
   rw[Hw e];grind
theorem KV.any (r:KV a vs) (k:κ):(a.any λb=>decide (b.1=k))=vs.any λb=>decide (b.1=k):=by
 induction r with
 | nil=>rfl
 | cons h t c=>simp_all
theorem KV.repl (r:KV b vs) (k:κ) (d:RelV y u) :
 KV (b.map λa=>if a.1=k then (a.1,y) else a) (vs.map λa=>if a.1=k then (a.1,u) else a):=by
 induction r with
 | nil=>exact .nil
 | @cons p q e f h t c =>
  refine .cons ?_ c
  grind
theorem KV.put (r:KV a vs) (k:κ) (b:RelV y u):KV (putK a k y) (stored vs k u):=by
 unfold putK stored;rw[r.any k]
 by_cases e:(vs.any λc=>decide (c.1=k))=true
 ·rw[if_pos e,if_pos e];exact r.repl k b
 ·rw[if_neg e,if_neg e];exact Paired.snoc r ⟨rfl,b⟩
theorem KV.length {a:List (κ×V)} (r:KV a vs):a.length=vs.length:=eN r
end
theorem Br9 (r:RelV (kV k) u):(Dg P w).is k u=true:=by
 cases k with
 | inl i=>obtain⟨t,e⟩:=(r);subst e;exact Ln P w i t
 | inr x=>obtain⟨t,e⟩:=(r);subst e;exact Lb P w x t
theorem A5q {A:q9}(hu:A.units+9<cLine):A.in1.units+8<cLine:=cH (fP (rfl)) hu
abbrev KT (H:Hp):List (PyData×V)->List (PyData×Addr×Value)->Prop:=Paired λp q=>p.1=q.1/\KAt H p.1 q.2.1/\RelV p.2 q.2.2
theorem KT.val (r:KT H a xs) (k:t_):RelO (Ii a k) ((atKey xs k).map (·.2)):=by
 induction r with
 | nil=>trivial
 | @cons p q j c h t i =>
  obtain⟨d,_,g⟩:=h
  by_cases e:p.1=k
  ·have b:atKey (q::c) k=some q.2:=by simp[atKey,(d.symm.trans e)]
   rw[Mg e,b];exact g
  ·have f:¬ q.1=k:=λz=>e (d.trans z)
   have b:atKey (q::c) k=atKey c k:=by simp[atKey,f]
   rw[Hw e];grind
theorem KT.repl (r:KT H a xs) (k:t_) (d:RelV y u) :
 KT H (a.map λb=>if b.1=k then (b.1,y) else b) (xs.map (putAt k u)):=by
 induction r with
 | nil=>exact .nil
 | @cons p q e f h t c =>
  refine .cons ?_ c
  unfold putAt
  grind
theorem KT.put (r:KT H a xs) (k:t_) (hb:KAt H k b) (c:RelV y u) :
 KT H (putK a k y) (storedH xs k b u):=by
 have e:(a.any λd=>decide (d.1=k))=(atKey xs k).isSome:=by
  rw[Oh,(r.val k).isSome_eq,Option.isSome_map]
 unfold putK storedH;rw[e]
 by_cases q:(atKey xs k).isSome=true
 ·rw[if_pos q,if_pos q];exact r.repl k c
 ·rw[if_neg q,if_neg q];exact Paired.snoc r ⟨rfl,hb,c⟩
theorem KT.keeps (r:KT H a xs) (ht:∀b ys,H b=some (.tup ys)->H' b=some (.tup ys)):KT H' a xs :=
 Paired.mapP r λ_ _ z=>⟨z.1,z.2.1.stay ht,z.2.2⟩
section
variable {P:u9}{w:World}{H:Hp}{h:Heap}{a:Addr}
theorem Dz (b:HOk P w H h) (e:Rd H a u):z9 P w H h a u:=e.ok b
theorem Bb5 (c:HOk P w H h) (e:Rd H a (.dK b)):b.length<=sizeLine/\(a==sysModules)=false/\∃vs,KV b vs/\h.DictOf (Dg P w) a vs :=
 show z9 P w H h a _ from Dz c e
theorem B4m (c:HOk P w H h) (e:H a=some (.dK b)):b.length<=sizeLine/\(a==sysModules)=false/\∃vs,KV b vs/\h.DictOf (Dg P w) a vs:=Bb5 c (.inl e)
mutual
theorem Wv (ok:HOk P w H h):∀{d:t_}{v:V}{u:Value},KTr H d v->RelV v u->∃as,Reads h u d as
 | .none,_,u=>λe r=>by
  cases (show _=V.non from e)
  cases (show u=Value.none from r)
  exact⟨_,.none⟩
 | .int i,_,u=>λe r=>by
  cases (show _=V.int i from e)
  obtain⟨t,rfl⟩:=r;exact⟨_,.int i t⟩
 | .str x,_,u=>λe r=>by
  cases (show _=V.str x from e)
  obtain⟨t,rfl⟩:=r;exact⟨_,.str x t⟩
 | .tuple ds,_,u=>λe r=>by
  obtain⟨a,vs,rfl,ha,t⟩:=e
  cases (show u=Value.ref a from r)
  obtain⟨z,its,rv,o,e,c,⟨n,dt⟩,_⟩:=ok a _ ha;obtain⟨as,q⟩:=Vm ok t rv
  exact⟨_,.tuple e c dt (by simpa using q)⟩
 | .bool _,_,_=>λe _=>False.elim e
 | .list _,_,_=>λe _=>False.elim e
 | .dict _,_,_=>λe _=>False.elim e
theorem Vm (ok:HOk P w H h):∀{ds:w5}{vs:m7}{us:w6},KTrL H ds vs->Vals vs us->∃as,ReadsAll h us ds as
 | [],_,us=>λe r=>by
  cases (show _=[] from e)
  cases r
  exact⟨_,.nil⟩
 | d::ds,_,us=>λe r=>by
  obtain⟨v,vs,rfl,hv,t⟩:=e
  cases r with
  | cons r1 r2 =>
   obtain⟨as,q⟩:=Wv ok hv r1;obtain⟨bs,p⟩:=Vm ok t r2;exact⟨_,.cons q p⟩
end
theorem Yn (b:HOk P w H h) (e:KAt H k a):(Dn P w).is h k a:=⟨e.1,Wv b e.2 (show RelV _ _ from rfl)⟩
theorem A5y (f:HOk P w H h) (e:Rd H a (.dT b)):b.length<=sizeLine/\(a==sysModules)=false /\
 ∃c,KT H b c/\h.DictOfH (Dn P w) a c:=by
 obtain⟨z,y,c,r,o,v,i,j,k,g,s,u⟩:=(show z9 P w H h a _ from Dz f e)
 refine⟨z,y,c,r,o,v,i,j,k,g,s,λx d=>?_,u⟩
 have n:∀{l:List _} {m:List _},KT H l m->∀x∈m,(Dn P w).is h x.1 x.2.1:=by
  intro l m q
  induction q with
  | nil=>simp_all
  | @cons p q B C D t A =>
   intro x d
   rcases aD.mp d with e | d
   ·exact Yn f (by grind)
   grind
 grind
theorem Bs8 (c:HOk P w H h) (e:H a=some (.dT b)):b.length<=sizeLine/\(a==sysModules)=false /\
 ∃xs,KT H b xs/\h.DictOfH (Dn P w) a xs:=A5y c (.inl e)
end
def B4b (H:Hp)(a:Addr)(y:V)(r:Option V):Prop :=
 (∃kvs k,Rd H a (.dK kvs)/\y=kV k/\r=Ii kvs k)\/∃kvs k b,Rd H a (.dT kvs)/\y=.ref b/\KAt H k b/\r=Ii kvs k
def DPut (H:Hp)(a:Addr)(y v:V)(H':Hp):Prop :=
 (∃kvs k,H a=some (.dK kvs)/\y=kV k/\kvs.length<sizeLine/\H'=upd H a (.dK (putK kvs k v))) \/
 ∃kvs k b,H a=some (.dT kvs)/\y=.ref b/\KAt H k b/\kvs.length<sizeLine/\H'=upd H a (.dT (putK kvs k v))
theorem DPut.t (e:H a=some (.dT c)) (d:KAt H k b) (hl:c.length<sizeLine) :
 DPut H a (.ref b) v (upd H a (.dT (putK c k v))):=.inr ⟨c,k,b,e,rfl,d,hl,rfl⟩
section
variable {X:Cx}{pins:y_}{σ:St}{H:Hp}{s:t6}{a:Addr}{y v:V}{u r:Value}{o:Option V}{A:q9}{E:z_}
theorem Inv.big (I:Inv X pins σ H s):sysModules<s.heap.objs.size:=by
 exact Nat.lt_trans (by decide) ((I.mod.glob.keeps I.bk).lt)
theorem S6 (I:Inv X pins σ H s) (e:Mut (H a)) (hs:Heap.SameBut a s.heap h') (he:∃q,h'.get? a=some q) (c:z9 X.prog X.w (upd H a ob) h' a ob) :
 Inv X pins σ (upd H a ob) { s with heap:=h',toks:=t' } :=
 I.write e (.inl rfl) (λb q d z=>(hs.2 b d).trans z) he c
theorem Bw3 (z:b.length<=sizeLine) (hd:(a==sysModules)=false) (c:KV b vs) (dd:h'.DictOf (Dg P w) a vs) :
 z9 P w H' h' a (.dK b):=⟨z,hd,vs,c,dd⟩
theorem A2m (hu:A.units+9<cLine) (I:Inv X pins σ H s) (g:DPut H a y v H') (C:RelV y u) (D:RelV v r) (h:∀s',Inv X pins σ H' s'->Q () s') :
 wpAny (model X.prog X.w) A (setItem (.ref a) u r) Q E s:=by
 rcases g with ⟨f,k,e,n,l,o⟩ | ⟨f,k,b,e,n,F,l,o⟩
 ·subst n o
  obtain⟨z,w,N,d,m⟩:=B4m I.hok e
  have B:N.length<=sizeLine:=by rw[<- d.length];lia
  have p:(putK f k v).length<=sizeLine:=by have:=Ra f k v;lia
  refine wpAny_setItem_pairs (hsz:=B) (Br9 C) m λx i t=>h _ ?_
  have J:∃q,x.get? a=some q:=let ⟨q,_,_,j,_⟩:=i; ⟨q,j⟩
  exact S6 I (by rw[e];trivial) t J (Bw3 p w (d.put k D) i)
 ·subst n o
  cases (show u=Value.ref b from C)
  obtain⟨z,w,K,d,m⟩:=Bs8 I.hok e
  have B:K.length<=sizeLine:=by rw[<- eN d];grind
  have p:(putK f k v).length<=sizeLine:=by have:=Ra f k v;lia
  refine wpAny_setItem_heap ((A5q hu)) (Yn I.hok F) m λx i t=>h _ ?_
  obtain⟨q,L,M,j,O,P,R,_,S⟩:=i
  refine S6 I (by rw[e];trivial) t ⟨q,j⟩ ⟨p,w,_,(d.put k F D).keeps λc T G=>?_,q,L,M,j,O,P,R,S⟩
  rw[Af (A8x G e λz=>nomatch z)]
  grind
end
def Ad0 (td ty tv:TE):TS:=λD σ H=>tv σ H λv H1=>td σ H1 λx H2=>ty σ H2 λy H3=>∃a H4,x=.ref a/\DPut H3 a y v H4/\D.nx σ H4
section
variable {X:Cx}{o i e value:Expr}{pos pos':Pos}{td ty tv:TE}
theorem Bp8 (hu:X.A.units+9<cLine)(ho:PE X o td)(hi:PE X i ty)(hv:PE X value tv)(hs:swapsWith value (some (.Subscript o i pos')) pos.line X.env=pure false) :
 PS X (.Assign [.Subscript o i pos'] value pos) (Ad0 td ty tv):=by
 intro b s e H D I h
 refine wpAny_Assign_Subscript (thn (hv _ s _ H _ I h) λr s1 ⟨v,H1,f,j,k⟩=>thn (ho _ _ _ _ _ f k) λu s2 ⟨x,H2,l,m,d⟩=>thn (hi _ _ _ _ _ l d) λiv s3 ⟨y,H3,p,q,a,n,w,g,t⟩=>?_) hs
 subst w;obtain rfl:u=Value.ref a:=m
 exact A2m hu p g q j λs4 c=>⟨e,n,c,t⟩
end
theorem A9m (h:Heap) (hb:sysModules<h.objs.size):z9 P w H (h.push { cls:=.type "dict",data:=.dict #[] }) h.objs.size (.dT []) :=
 ⟨aU _,eU.mpr (aC (aQ hb)),[],.nil,_,#[],0,aG _ rfl,⟨rfl,rfl,rfl⟩,rfl,rfl,cX⟩
def Ap3:TE:=λ_ H Q=>∀p,H p=none->Q (.ref p) (upd H p (.dT []))
section
variable {X:Cx}{pos:Pos}
theorem A5c:PE X (.Dict [] [] pos) Ap3:=λa s b H Q I h =>
 wpAny_Dict_empty ⟨.ref _,_,I.laid (λ_ _ q=>aB _ q) (au _) (A9m _ I.big),rfl,h _ (I.hok.fresh (au _))⟩
end
structure M2 (X:Cx) (o:Expr) (m:Str) (apos:Pos) (e f:Expr) (cpos:Pos):Prop where
 base:attributeBase o m X.env (eval o X.env)=eval o X.env
 few:((backTo cpos (starEach [e,f] X.env)).all (λx=>!x.1)&&(backToKw cpos (keywordEach [] X.env)).all (λx=>x.1.isSome)
  && decide (([e,f]:v_).length+([]:List Keyword).length+(if ([]:List Keyword).isEmpty then 0 else 1)<30))=true
 line:(apos.endLine==cpos.line)=true
 trees:backTo cpos (starEach [e,f] X.env)=[(false,eval e X.env),(false,eval f X.env)]
def IsD (H:Hp)(a:Addr):Prop:=(∃kvs,Rd H a (.dK kvs))\/∃kvs,Rd H a (.dT kvs)
theorem Yu (I:Inv X pins k H s) (d:IsD H a) :
 s.TypeIs (.ref a) "dict" /\ (∀b,Value.ref a=.ref b->∃c,s.heap.get? b=some c/\c.dict=none)/\(a==sysModules)=false:=by
 rcases d with ⟨g,e⟩ | ⟨g,e⟩
 ·obtain⟨_,h,m,_,f⟩:=Bb5 I.hok e
  refine⟨f.typeIs,λb q=>?_,h⟩
  cases q
  obtain⟨c,_,_,i,j,_⟩:=f;exact⟨c,i,j.2.1⟩
 ·obtain⟨_,h,l,_,f⟩:=A5y I.hok e
  refine⟨f.typeIs,λb q=>?_,h⟩
  cases q
  obtain⟨c,_,_,i,j,_⟩:=f;exact⟨c,i,j.2.1⟩
section
variable {X:Cx}{pins:y_}{σ:St}{H:Hp}{s:t6}{a:Addr}{y d:V}{u r:Value}{o:Option V}{A:q9}{E:z_}
theorem B0z (hu:A.units+9<cLine) (I:Inv X pins σ H s) (g:B4b H a y o) (n:RelV y u) (p:RelV d r) (h:∀w' s',Inv X pins σ H s'->RelV (o.getD d) w'->Q w' s') :
 wpAny (model X.prog X.w) A (call (.builtin "dict.get") [.ref a,u,r]) Q E s:=by
 rcases g with ⟨j,k,e,m,l⟩ | ⟨j,k,b,e,m,t,l⟩
 ·subst m
  obtain⟨z,i,v,c,f⟩:=Bb5 I.hok e
  refine gF jk f.typeIs PySem.F.entry_dict_get (PySem.F.args_dict_get_3 _ _ _) (meets_dict_get_default (Dg X.prog X.w) a (Br9 n) i r) ⟨_,f.mapOf,h _ _ (I.tok _) ?_⟩
  rw[l];exact(c.val k).getD p
 ·subst m
  cases n
  obtain⟨z,i,q,c,f⟩:=A5y I.hok e
  refine gF jk f.typeIs PySem.F.entry_dict_get (PySem.F.args_dict_get_3 _ _ _) (meetsH_dict_get_default _ a b i r) ⟨A5q hu,k,q,Yn I.hok t,f,h _ _ (I.tok _) ?_⟩
  rw[l];exact(c.val k).getD p
end
def An2 (td ty tx:TE):TE:=λσ H Q=>td σ H λx H1=>∃a,x=.ref a/\IsD H1 a/\ty σ H1 λy H2=>tx σ H2 λz H3=>∃o,B4b H3 a y o/\Q (o.getD z) H3
section
variable {X:Cx}{o e f:Expr}{apos cpos:Pos}{td ty tx:TE}
theorem A8s (hu:X.A.units+9<cLine)(ho:PE X o td)(he:PE X e ty)(hf:PE X f tx)(m:M2 X o "get" apos e f cpos):PE X (.Call (.Attribute o "get" apos) [e,f] [] cpos) (An2 td ty tx):=by
 intro c s σ H Q I h
 refine wpAny_Call_method m.base m.few m.line iB jk PySem.F.type_dict_get (thn (ho _ s _ H _ I h) λu s1 ⟨x,H1,i,l,a,n,d,p⟩=>?_)
 subst n;obtain rfl:u=Value.ref a:=l;obtain⟨q,r,_⟩:=Yu i d
 refine⟨q,r,?_⟩
 rw[m.trees]
 refine dR rfl (eQ (eO (thn (he _ _ _ _ _ i p) λiv s2 ⟨y,H2,j,k,v⟩ =>
  eO (thn (hf _ _ _ _ _ j v) λfv s3 ⟨z,w,t,B,ov,g,A⟩=>gA ?_))))
 exact B0z hu t g k B λw' s4 C b=>⟨_,w,C,b,A⟩
end
end L2
namespace Att
open PySem PySem.W PySem.Calls PyProof.Rows
theorem Rq : ∀(ns:List Int) (vs:w6),WellAll P h vs (ns.map WData.int)->IntsAre vs ns:=by
 intro ns
 induction ns with
 | nil =>
  intro vs w
  cases w
  exact .nil
 | cons n ns c =>
  intro vs w
  cases w with
  | cons a b =>
   cases a
   exact .cons _ _ (c _ b)
theorem Az8 {l:OpenLaw} (hn:l.most=some n)
 (hpre:l.row.toRowW.claim.pre args=true) (hwl:WellAll P h vals args) :
 ∃a vs ns,vals=[Value.ref a]/\args=[WData.list (ns.map WData.int)]/\h.get? a=some { cls:=.type "list",data:=.seq vs.toArray }/\IntsAre vs ns/\ns.length<=n:=by
 have hsh:WShape.hasAll [] args [.list .int]=true:=(pre_splitW hpre).1;have hc:l.pre.holds [] { args:=args }=true:=(pre_splitW hpre).2;obtain⟨d,r,rfl,h1,h2⟩:=hasAllW_cons hsh;obtain rfl:=hasAllW_nil h2;obtain⟨xs,rfl,h3⟩:=hasW_list h1;obtain⟨ns,rfl⟩:=items_int h3
 have hlen:ns.length<=n:=by
  unfold OpenLaw.pre at hc
  have h4:(WTm.not (.lt (.lit (.int (n:Int))) (.len (.arg 0)))).holds [] { args:=[.list (ns.map .int)] }=true:=by
   have h4:=(holds_andW hc).1;rw[hn]at h4;exact h4
  have h5:=condW_of h4 (w_not (w_lt w_lit (w_len_list (w_arg rfl))));rw[ao]at h5
  refine jl λq=>?_
  have q':(n:Int)<((ns.length:Nat):Int):=by lia
  first
   | (rw[aN q']at h5;exact absurd h5 (by decide))
   | (simp at h5;lia)
 cases hwl with
 | cons w1 w2 =>
  cases w2
  cases w1 with
  | list ho hall=>exact⟨_,_,ns,rfl,rfl,ho,Rq ns _ hall,hlen⟩
theorem A0d (l:OpenLaw)(args:List WData):l.row.toRowW.claim.post args (.bool true) args=true :=
 postW_of
  (show WShape.has _ _ _=true by rfl)
  (show (WTm.eq _ _).value _ _=some _ from w_eq_bool (w_res rfl) w_lit) rfl
theorem Ae2 {l:OpenLaw}
 (hn:l.most=some n) (t:d.params.defaults=[])
 (i:∀(w:World) (c b:t6) (mg B:x_) (fa:Addr) (o:Obj) (z v h:Value) (a:Addr) (vs:w6) (ns:List Int),
  Ground q loose [] XP w c mg B b.heap->YP w b.heap ->
  b.heap.get? fa=some o->o.data=.func (docDef d.name d.params d.body d.scope z v h)->b.heap.CodeRec v d.name->mg d.name=some (.ref fa) ->
  b.heap.get? a=some { cls:=.type "list",data:=.seq vs.toArray }->IntsAre vs ns->ns.length<=n->b.gens=#[] ->
  codeAny (model l.prog w) callerA (.call (.ref fa) ⟨[.ref a],[]⟩) (λr s'=>r=.ok (.ret (.bool true))/\OldK b.heap s'.heap/\s'.os=b.os/\AllBare s'.gens) b) :
 WalkO q loose XP YP l.row.toRowW d [] (λf vs=>PySem.call f vs):=by
 intro w c b mg B G Y fa o z v h M H J K u C m D x A as g y F p I;obtain rfl:M=.none:=Dflts.none C t;obtain rfl:H=.none:=Dflts.noKw C;obtain⟨a,vs,ns,rfl,rfl,j,e,k⟩:=Az8 hn g p
 refine enter_call (fK (i w _ _ _ _ _ o _ _ _ a _ _ G Y J (fd_plain K) u m j e k D) λr s' N=>?_)
 obtain⟨rfl,L,O,P⟩:=N
 exact⟨.inl ⟨.bool _,.bool _,[],rfl,λ_=>rfl,.bool _,A0d l _,λ_=>⟨List.Pairwise.nil,λ_ E=>nomatch E⟩⟩,L,O,P⟩
end Att
namespace L2
open PySem PySem.Spec PyProof.Rows
theorem Ws:∀{vs:w6}{ns:List Int},IntsAre vs ns->Vals (ns.map V.int) vs
 | _,_,.nil=>.nil
 | _,_,.cons n t h=>.cons ⟨t,rfl⟩ (Ws h)
noncomputable def Im (s:Stmt):Arguments:=match s with
 | .FunctionDef _ a _ _ _ _ _ _ _ _=>a
 | _=>{ posonlyargs:=[],args:=[],vararg:=none,kwonlyargs:=[],kw_defaults:=[],kwarg:=none,defaults:=[] }
noncomputable def Gh (s:Stmt):List Stmt:=match s with
 | .FunctionDef _ _ b _ _ _ _ _ _ _=>b
 | _=>[]
noncomputable def Ak (s:Stmt):Scope:=match s with
 | .FunctionDef _ _ _ _ _ _ sc _ _ _=>sc
 | _=>{ kind:=.function,names:=[],isGenerator:=false,isCoroutine:=false }
noncomputable abbrev CX0:CXT:=λ_ _ _ _ _ _=>False
abbrev E0:XK:=λ_ _ _=>False
theorem B4z : Ql CX0 X E0:=λ_ _ _ _ _ _ _ h=>h.elim
structure Fun (K:v9) (x qual:Str) (st:Stmt) (f:Addr) (fd:u6):Prop where
 ex:∃(oc:Value) (od:Option Addr) (kV doc pm:Value) (an:Option Addr) (cdv ct:Value) (osl:Array (u_)),
  fd=PySem.W.fnOf x qual (Im st) (Gh st) (Ak st) .none kV doc pm an cdv ct/\K.lookup f=some ⟨oc,od,.func fd,osl⟩/\PySem.W.codeIn K cdv qual=true
 kp:PySem.W.keepIn K (.ref f)=true
section
variable {P:u9}{w:World}{K:v9}{mg:x_}{base:Heap}
theorem Fun.ok {st:Stmt} (F:Fun K x qual st f i) (S:Aq N ps (Ak st)) (g:∀vs H Q E,sp vs H Q E->vs.length=ps.length)
 (b:∀(c:Value) (A:q9) (a:List Env) (s:t6) (H:Hp) (vs:m7) (Q:VK) (E:XK),Room k (A.deeper (envOfC qual (Ak st) s.heap.objs.size f c))->sp vs H Q E ->
  ∃t,PSs (Rw CX0 P w K mg base N qual (Ak st) f c A a s H E).nox (Gh st) t/\t { nx:=λ_ H'=>Q .non H',rt:=Q } (start N vs) H):FnOk P w K mg base CX0 (k+1) f i ps sp:=by
 obtain⟨oc,od,kV,l,pm,an,c,ct,j,rfl,m,e⟩:=F.ex
 refine A5x m e S g λA a s H vs Q E n d=>?_
 obtain⟨t,h,q⟩:=b _ A _ s H _ Q E n d;exact⟨t,h.nox,q⟩
theorem Fun.binds {st:Stmt} (F:Fun K x qual st f d)
 (h:∀(i b e:Value) (g:Option Addr) (a c:Value) (us:w6),us.length=ps.length->bindArgs (PySem.W.fnOf x qual (Im st) (Gh st) (Ak st) .none i b e g a c) ⟨us,[]⟩=pure (ps.zip us)):Binds K d ps []:=by
 obtain⟨oc,od,i,b,e,g,a,c,k,rfl,lk,j⟩:=F.ex;exact .all (h _ _ _ _ _ _)
end
section
variable {X:Cx}
theorem pv (i:Nat) {a:Pos}(hN:X.N[i]?=some x:=by rfl) (hv:Vis X.env.scope x:=by first | exact Or.inl rfl | exact Or.inr (Or.inl rfl) | exact Or.inr (Or.inr rfl)) (hd:(x==("__debug__" : Str))=false:=by decide)
 (hcd:(x==("__classdict__" : Str))=false:=by decide):PE X (.Name x a) (Hb i):=A8z hN hv hd hcd
end
def Same (H H':Hp):Prop:=∀b o,H b=some o->H' b=some o
theorem Same.refl (H:Hp):Same H H:=λ_ _ h=>h
theorem Same.trans (a:Same H e) (b:Same e d):Same H d:=λc o h=>b c o (a c o h)
theorem Same.free (e:Same H H') (h:H' l=Option.none):H l=Option.none:=by
 cases q:H l with
 | none=>rfl
 | some o =>
  rw[e l o q]at h
  grind
theorem Same.seq {K:v9} (e:Same H H') (h:SqL K H a xs):SqL K H' a xs:=by
 rcases h with (h | ⟨o,h⟩) | h
 ·exact .inl (.inl (e _ _ h))
 ·exact .inl (.inr ⟨o,e _ _ h⟩)
 ·exact .inr h
end L2
set_option maxHeartbeats 4000000
namespace L2
open PySem PySem.Spec PyProof.Rows
noncomputable abbrev Dr (X:Cx) (N':v4) (scope:Scope) (cl:List (Str×Addr)) (C:Addr) (s₀:t6) (H₀:Hp) (ex:v6):Cx :=
 { X with N:=N',env:=compEnvC scope cl C X.env,s₀:=s₀,H₀:=H₀,outer:=X.stack,stack:=X.stack,ex:=ex,fn:=λx=>decide (scope.names.lookup x=some .local\/scope.names.lookup x=some .cell),pn:=[],xe:=λ_ _=>False }
noncomputable def cst (idx:o4) (σ:St):St:=idx.map λo=>o.bind λi=>(σ[i]?).join
structure Ip (X:Cx) (N':v4) (idx:o4) (scope:Scope):Prop where
 kind:scope.kind=.function
 nod:(scope.names.map (·.1)).Nodup
 free:∀y∈scope.names,y.2=.free->X.env.kindOf y.1=some .cell\/X.env.kindOf y.1=some .free
 len:idx.length=N'.length
 at':∀(j i:Nat) (x:Str),N'[j]?=some x->idx[j]?=some (some i)->X.N[i]?=some x/\scope.names.lookup x=some .free
theorem Ji (env:Env):∀(names:List (Str×NameKind)) (acc:List (Str×Addr)),(∀y∈names,y.2=.free->∃c,env.cells.lookup y.1=some c) ->
 ∃
  cl,(forIn names acc λ(p:Str×NameKind) (r:List (Str×Addr))=>(if (p.2==NameKind.free)=true then (do let c <- cellOf env p.1;pure (ForInStep.yield ((p.1,c)::r))) else pure (ForInStep.yield r):Sem (ForInStep (List (Str×Addr)))))=(pure cl:Sem (List (Str×Addr))) /\
  (∀x c,cl.lookup x=some c->acc.lookup x=some c\/(env.cells.lookup x=some c/\(x,NameKind.free)∈names))/\(∀x,((∃c,acc.lookup x=some c)\/(x,NameKind.free)∈names)->∃c,cl.lookup x=some c)
 | [],acc,_=>⟨acc,rfl,λx c e=>.inl e,λx h=>by
  rcases h with h | h
  ·exact h
  ·simp at h⟩
 | (n,k)::r,acc,h=>by
  by_cases hk:k=NameKind.free
  ·subst hk
   obtain⟨c,hc⟩:=h (n,.free) (by simp) rfl
   obtain⟨cl,e,a,b⟩:=Ji env r ((n,c)::acc) λy hy=>h y (bw _ hy)
   refine⟨cl,?_,λx c' e'=>?_,λx hx=>?_⟩
   ·rw[eV]
    simp only[cellOf,hc];exact e
   ·rcases a x c' e' with z | ⟨z1,z2⟩
    ·rw[bc]at z
     split at z
     ·rename_i hxe
      have:x=n:=by simpa using hxe
      subst this
      cases z
      exact .inr ⟨hc,by simp⟩
     ·exact .inl z
    ·exact .inr ⟨z1,bw _ z2⟩
   ·refine b x ?_
    rcases hx with ⟨c',z⟩ | z
    ·left
     rw[bc]
     split
     ·exact⟨_,rfl⟩
     ·exact⟨_,z⟩
    ·rcases aD.mp z with z | z
     ·left
      cases z
      exact⟨c,by simp⟩
     ·exact .inr z
  ·obtain⟨cl,e,a,b⟩:=Ji env r acc λy hy=>h y (bw _ hy)
   refine⟨cl,?_,λx c' e'=>?_,λx hx=>?_⟩
   ·rw[eV]
    have:(k==NameKind.free)=false:=by cases k <;> first | rfl | exact absurd rfl hk
    simp only[this];exact e
   ·rcases a x c' e' with z | ⟨z1,z2⟩
    ·exact .inl z
    ·exact .inr ⟨z1,bw _ z2⟩
   ·refine b x ?_
    rcases hx with z | z
    ·exact .inl z
    ·rcases aD.mp z with z | z
     ·cases z;exact absurd rfl hk
     ·exact .inr z
theorem U7 (h:∀y∈scope.names,y.2=.free->∃c,env.cells.lookup y.1=some c) :
 ∃d,closureFor scope env=pure d/\(∀x c,d.lookup x=some c->env.cells.lookup x=some c/\(x,NameKind.free)∈scope.names)/\(∀x,(x,NameKind.free)∈scope.names->∃c,d.lookup x=some c):=by
 obtain⟨d,e,a,b⟩:=Ji _ _ [] h
 refine⟨d,?_,λx c g=>?_,λx f=>b x (.inr f)⟩
 ·unfold closureFor
  grind
 simp_all
noncomputable abbrev Bq6 (ifs:v_) (env:Env):Sem Bool:=forIn ifs true λc r=>if r=true then do let ok <- isTrue c env (eval c env);pure (ForInStep.yield ok) else pure (ForInStep.yield r)
def B1q (M:Model)(A:q9)(E:z_)(tg elt:Expr)(ifs:v_)(env:Env)(it acc v:Value)(Z:t6->Prop)(s:t6):Prop :=
 wpAny M A (letOwnedTupleGo tg it v) (λ_ a=>wpAny M A (assign tg env v) (λ_ b=>wpAny M A (Bq6 ifs env) (λok c=>match ok with
  | true=>wpAny M A (eval elt env) (λx d=>wpAny M A (call (.builtin "list.append") [acc,x]) (λ_ z=>Z z) E d) E c
  | false=>Z c) E b) E a) E s
theorem Bl7 (C:E=notedBy (model P w) A env λx z=>R (.error x) z) (Wd:Nat->t6->Prop)
 (step:∀n z,Wd n z->wpAny (model P w) A (pyNext it) (λr a=>match r with
  | none=>R (.ok .next) a
  | some v=>B1q (model P w) A E o i j env it acc v (λy=>∃m,m<n/\Wd m y) a) E z) (n:Nat) (h:Wd n s) :
 codeAny (model P w) A (.compLoop (.ListComp i [⟨o,f,j,0⟩] p l) 0 it acc env) R s:=by
 subst C
 refine codeAny_loop (I:=Wd) rfl (turn:=?_) n h
 intro k z G
 show wpAny (model P w) A (Sem.onRaise (compTurn (.ListComp i [⟨o,f,j,0⟩] p l) 0 it acc env) λx=>do noteFrame x env;theTreesLotGoes x) _ _ z
 apply wpAny_noted;rw[compTurn_list];apply aj;apply cV;apply aj
 refine aH (step k z G) ?_ λ_ _ q=>q
 rintro (_ | v) a u
 ·exact ak u
 apply aj
 refine aH u ?_ λ_ _ q=>q
 intro _ b D;apply aj
 refine aH D ?_ λ_ _ q=>q
 intro _ c F;apply aj
 refine aH F ?_ λ_ _ q=>q
 rintro (_ | _) d t
 ·exact ak (And.intro rfl t)
 apply aj;apply aj
 refine aH t ?_ λ_ _ q=>q
 intro y e H;apply aj
 refine aH H ?_ λ_ _ q=>q
 intro _ g B;exact ak (ak (And.intro rfl B))
def PTs (X:Cx)(ifs:v_)(t:TT):Prop :=
 ∀
  (pins:y_) (s:t6) (σ:St) (H:Hp) (Q:Bool->Hp->Prop),Inv X pins σ H s->t σ H Q ->
  wpAny (model X.prog X.w) X.A (forIn ifs true λc r=>if r=true then do let ok <- isTrue c X.env (eval c X.env);pure (ForInStep.yield ok) else pure (ForInStep.yield r)) (TP X pins σ Q) X.xe s
structure QTs (X:Cx) (e:(v_)) (t:TT):Prop where
 get:PTs X e t
def Aj4:TT:=λ_ H Q=>Q true H
theorem Bi1 : PTs X [] Aj4:=λ_ _ _ H _ I h=>wpAny_tests_nil ⟨H,I,h⟩
theorem Bk5 (h:PT X c t):PTs X [c] t:=λa s b H Q I q=>wpAny_tests_one (h _ s _ H Q I q)
def tLC (idx:o4)(wi:TI)(g:TG)(tc:TT)(te:TE):TE:=λσ H Q=>wi σ H λJ H1 =>
 ∃
  W:Nat->Nat->St->m7->Hp->Prop,(∃m,W 0 m (cst idx σ) [] H1)/\∀i m σ' acc H,W i m σ' acc H ->
  (J.stop i H/\∀p,H p=none->Q (.ref p) (upd H p (.lst acc))) \/
  (J.go i H/\acc.length<sizeLine/\∃N:St->m7->Hp->Prop,(∀σ' acc' H',N σ' acc' H'->∃m',m'<m/\W (i+1) m' σ' acc' H')/\∀x H',J.yld i H x H'->g x σ' H' λσ2 H2=>tc σ2 H2 λb H3 =>
   if b=true then te σ2 H3 λy H4=>N σ2 (acc++[y]) H4 else N σ2 acc H3)
theorem HOk.track (x:HOk P w H h) (hn:H a=none) (f:z9 P w (upd H a o) h a o):HOk P w (upd H a o) h:=λb u e=>by
 by_cases hb:b=a
 ·subst hb;rw[Am]at e;simp_all
 ·rw[Af hb]at e
  exact(x b u e).stay (λc v _ q=>q) λc q=>by rw[Af (Ba q hn)];grind λc d q=>by rw[Af (Ba q hn)];grind λc g d q=>by rw[Af (Ba q hn)];grind
theorem Hq {env:Env}:∀{names:List (Str×NameKind)}{x:Str},names.lookup x=some .free ->
 (names.map λ(n,k)=>if (k==NameKind.free&&env.scope.kind==.function&&env.kindOf n==some .cell) then (n,NameKind.cell) else (n,k)).lookup x=some .free \/
 (names.map λ(n,k)=>if (k==NameKind.free&&env.scope.kind==.function&&env.kindOf n==some .cell) then (n,NameKind.cell) else (n,k)).lookup x=some .cell
 | [],_,h=>by simp at h
 | (n,k)::r,x,h=>by
  have ih:=@Hq env r x;simp only[aJ]
  cases hx:x==n with
  | true =>
   simp only[bc,hx]at h
   cases h
   split
   ·right;simp[bc,hx]
   ·left;simp[bc,hx]
  | false =>
   simp only[bc,hx]at h
   split
   ·simp only[bc,hx];exact ih h
   ·simp only[bc,hx];exact ih h
theorem Kl {env:Env}:∀{names:List (Str×NameKind)}{x:Str}{k:NameKind},
 (names.map λ(n,k)=>if (k==NameKind.free&&env.scope.kind==.function&&env.kindOf n==some .cell) then (n,NameKind.cell) else (n,k)).lookup x=some k ->
 names.lookup x=some k\/(k=.cell/\names.lookup x=some .free)
 | [],_,_,h=>by simp at h
 | (n,k')::r,x,k,h=>by
  have ih:=@Kl env r x k;simp only[aJ]at h
  cases hx:x==n with
  | true =>
   by_cases hc:(k'==NameKind.free&&env.scope.kind==.function&&env.kindOf n==some .cell)=true
   ·rw[if_pos hc]at h
    simp only[bc,hx]at h
    cases h
    right
    refine⟨rfl,?_⟩
    simp only[bc,hx]
    have:k'=.free:=by
     simp only[cN]at hc;exact cQ hc.1.1
    rw[this]
   ·rw[if_neg hc]at h
    simp only[bc,hx]at h ⊢;exact .inl h
  | false =>
   simp only[bc,hx]
   refine ih ?_
   by_cases hc:(k'==NameKind.free&&env.scope.kind==.function&&env.kindOf n==some .cell)=true
   ·rw[if_pos hc]at h;simpa only[bc,hx] using h
   ·rw[if_neg hc]at h;simpa only[bc,hx] using h
theorem lookup_mem {α:Type}:∀{l:List (Str×α)}{x:Str}{k:α},l.lookup x=some k->(x,k)∈l
 | [],_,_,h=>by simp at h
 | (n,k')::r,x,k,h=>by
  rw[bc]at h
  split at h
  ·rename_i e
   have:x=n:=by simpa using e
   subst this
   cases h
   simp
  ·exact bw _ (lookup_mem h)
theorem mem_lookup {α:Type}:∀{l:List (Str×α)}{x:Str}{k:α},(l.map (·.1)).Nodup->(x,k)∈l->l.lookup x=some k
 | [],_,_,_,h=>by simp at h
 | (n,k')::r,x,k,hn,h=>by
  have hn:(n::r.map (·.1)).Nodup:=hn
  obtain⟨h1,h2⟩:=bR.mp hn
  rcases aD.mp h with h | hr
  ·cases h;simp
  ·rw[bc]
   split
   ·rename_i e
    have:x=n:=by simpa using e
    subst this
    exact absurd (show x∈r.map (·.1) from aL.mpr ⟨(x,k),hr,rfl⟩) h1
   ·exact mem_lookup h2 hr
section
variable {X:Cx}{N':v4}{idx:o4}{scope:Scope}
theorem Bo7 {pins:y_}{σ:St}{H:Hp}{s:t6}{fp:v6}{cl:List (Str×Addr)}{C:Addr}(L:Ip X N' idx scope)(I:Inv X pins σ H s)(hf:∀b∈fp,Ij X pins H b)(hfs:∀b∈fp,b<s.heap.objs.size)
 (hC:s.heap.objs.size<=C) (c1:∀x c,cl.lookup x=some c->(X.env.cells.lookup x=some c/\(x,NameKind.free)∈scope.names)\/(s.heap.objs.size<=c/\(x,NameKind.cell)∈scope.names)) (c2:∀x,((x,NameKind.free)∈scope.names\/(x,NameKind.cell)∈scope.names)->∃c,cl.lookup x=some c) (c3:∀x y c,cl.lookup x=some c->cl.lookup y=some c->x=y) :
 (Dr X N' scope cl C s H fp).Ok where
 mod:=I.ok.mod
 kind:=L.kind
 glob:=I.ok.glob
 blt:=I.ok.blt
 above:=hC
 inj:=c3
 has:=λx h=>by
  refine c2 x ?_
  have h':(relabel scope X.env).names.lookup x=some .cell\/(relabel scope X.env).names.lookup x=some .free:=h
  rcases h' with h | h
  ·rcases Kl h with z | ⟨_,z⟩
   ·exact .inr (lookup_mem z)
   ·exact .inl (lookup_mem z)
  ·rcases Kl h with z | ⟨z,_⟩
   ·exact .inl (lookup_mem z)
   ·cases z
 cab:=λx c hx hc=>by
  have hx':scope.names.lookup x=some .local\/scope.names.lookup x=some .cell:=aX hx
  rcases c1 x c hc with ⟨_,z⟩ | ⟨z,_⟩
  ·have z:=mem_lookup L.nod z
   rw[z]at hx'
   rcases hx' with hx' | hx' <;> cases hx'
  ·exact z
 hd:=I.ok.hd
 frames:=I.ok.frames
 stk:=.inl rfl
 exf
  := λb hb=>⟨aQ (aP (hfs b hb) hC),λx c e=>by
  rcases c1 x c e with ⟨z,_⟩ | ⟨z,_⟩
  ·exact(hf b hb).2.2.2.2.1 x c z
  ·exact bT (aP (hfs b hb) z)⟩
 bs:=I.bs
 bsz:=aq I.ok.bsz I.sz
 noex:=λb o e hb=>by
  rcases (hf b hb).2.2.2.1 with z | z
  ·exact I.ok.noex b o e z
  ·exact absurd (aP (aA e) (aq I.ok.bsz z)) (bj _)
 exfs:=λb hb z=>by
  rcases aD.mp (I.stkSub b z) with q | q
  ·exact(hf b hb).2.1 q
  ·exact(hf b hb).2.2.1 q
 funs:=I.stack
 frf:=I.stkFree
 tab:=λp hp=>I.base.tbls p.1 p.2 (I.ok.tab p hp)
theorem A8k {pins:y_}{σ:St}{H:Hp}{s s':t6}{fp:v6}{cl:List (Str×Addr)}{C:Addr}{m:x_}(L:Ip X N' idx scope)(I:Inv X pins σ H s)(hf:∀b∈fp,Ij X pins H b)(hfs:∀b∈fp,b<s.heap.objs.size)
 (hC:s.heap.objs.size<=C) (c1:∀x c,cl.lookup x=some c->(X.env.cells.lookup x=some c/\(x,NameKind.free)∈scope.names)\/(s.heap.objs.size<=c/\(x,NameKind.cell)∈scope.names)) (c2:∀x,((x,NameKind.free)∈scope.names\/(x,NameKind.cell)∈scope.names)->∃c,cl.lookup x=some c) (c3:∀x y c,cl.lookup x=some c->cl.lookup y=some c->x=y) (c4:∀x c,cl.lookup x=some c->(x,NameKind.cell)∈scope.names->s'.heap.IsCell c none)
 (ho:s'.os=s.os) (hg:s'.gens=s.gens) (k:∀b o,s.heap.get? b=some o->s'.heap.get? b=some o) (hn:s'.heap.Ns C m):Inv (Dr X N' scope cl C s H fp) [] (cst idx σ) H s' where
 ok:=Bo7 L I hf hfs hC c1 c2 c3
 os:=ho
 bare:=by rw[hg];exact I.bare
 base:=Un.kept k
 loc:=by
  refine⟨m,hn,λj x v e1 e2 e3=>?_⟩
  obtain⟨m0,hn0,hl⟩:=I.loc
  have e2':(idx.map λo=>o.bind λi=>(σ[i]?).join)[j]?=some (some v):=e2
  rw[bV]at e2'
  cases ei:idx[j]? with
  | none=>rw[ei]at e2';cases e2'
  | some o =>
   rw[ei]at e2';simp only[fu,Option.some.injEq]at e2'
   cases o with
   | none=>cases e2'
   | some i =>
    have e2'':(σ[i]?).join=some v:=e2';obtain⟨hNi,hfr⟩:=L.at' j i x e1 ei
    have hσ:σ[i]?=some (some v):=by
     cases q:σ[i]? with
     | none=>rw[q]at e2'';cases e2''
     | some z=>rw[q]at e2'';rw[show z=some v from e2'']
    have hk:=L.free _ (lookup_mem hfr) rfl
    have hvis:Vis X.env.scope x:=by
     rcases hk with z | z
     ·exact .inr (.inl z)
     ·exact .inr (.inr z)
    obtain⟨u,r,lk⟩:=hl i x v hNi hσ hvis
    refine⟨u,r,.inr ?_⟩
    rcases lk with ⟨z,_⟩ | ⟨_,c,hc,hcl⟩
    ·exfalso
     have z':X.env.kindOf x=some .local:=z
     rcases hk with q | q
     ·rw[show X.env.kindOf x=_ from q]at z';cases z'
     ·rw[show X.env.kindOf x=_ from q]at z';cases z'
    ·obtain⟨c',hc'⟩:=c2 x (.inl (lookup_mem hfr))
     have:c'=c:=by
      rcases c1 x c' hc' with ⟨q,_⟩ | ⟨_,q⟩
      ·rw[hc]at q;exact(cz q).symm
      ·rw[mem_lookup L.nod q]at hfr;cases hfr
     subst this
     refine⟨?_,c',hc',let ⟨o,e,d⟩:=hcl; ⟨o,k _ o e,d⟩⟩
     rcases Hq (env:=X.env) hfr with q | q
     ·exact .inr q
     ·exact .inl q
 cell:=λx c e=>by
  rcases c1 x c e with ⟨q,_⟩ | ⟨_,q⟩
  ·obtain⟨v,z⟩:=I.cell x c q
   exact⟨v,let ⟨o,e,d⟩:=z; ⟨o,k _ o e,d⟩⟩
  ·exact⟨none,c4 x c e q⟩
 free:=I.hok.fresh hC
 freeC:=λx c e=>by
  rcases c1 x c e with ⟨q,_⟩ | ⟨q,_⟩
  ·exact I.freeC x c q
  ·exact I.hok.fresh q
 pin:=λp hp=>by simp at hp
 hok:=I.hok.kept k
 len:=by
  show (idx.map _).length=N'.length
  rw[ao];exact L.len
end
section
variable {X:Cx}{N':v4}{idx:o4}{scope:Scope}{elt tg iter:Expr}{ifs:v_}{pos:Pos}{wi:TI}{g:TG}{tc:TT}{te:TE}
theorem Nk:∀(names:List (Str×NameKind)) (h:Heap) (acc:List (Str×Addr)),(∀x y c,acc.lookup x=some c->acc.lookup y=some c->x=y)->(∀x c,acc.lookup x=some c->c<h.objs.size) ->
 (∀x c,(cellsFrom h.objs.size names acc).lookup x=some c->acc.lookup x=some c\/(h.objs.size<=c/\(x,NameKind.cell)∈names/\(pushCells h names).IsCell c none)) /\
 (∀x,((∃c,acc.lookup x=some c)\/(x,NameKind.cell)∈names)->∃c,(cellsFrom h.objs.size names acc).lookup x=some c) /\
 (∀x y c,(cellsFrom h.objs.size names acc).lookup x=some c->(cellsFrom h.objs.size names acc).lookup y=some c->x=y)
 | [],h,acc,hi,hl=>by
  refine⟨λx c e=>.inl e,λx z=>?_,hi⟩
  rcases z with z | z
  ·exact z
  ·exact nomatch z
 | (n,k)::r,h,acc,hi,hl=>by
  unfold cellsFrom pushCells
  by_cases hk:(k==NameKind.cell)=true
  ·rw[if_pos hk,if_pos hk]
   have hk':k=.cell:=cQ hk;subst hk';have sz:(h.push { cls:=.type "cell",data:=.cell none }).objs.size=h.objs.size+1:=bW ..
   have ih:=Nk r (h.push { cls:=.type "cell",data:=.cell none }) ((n,h.objs.size)::acc) (λx y c e1 e2=>?_) (λx c e=>?_)
   ·rw[sz]at ih
    obtain⟨i1,i2,i3⟩:=ih
    refine⟨λx c e=>?_,λx z=>?_,i3⟩
    ·rcases i1 x c e with q | ⟨q1,q2,q3⟩
     ·rw[bc]at q
      split at q
      ·rename_i hb
       cases q
       have:x=n:=cQ hb;subst this;exact .inr ⟨au _,a_,_,iC _ _ _ _ (aG _ rfl),rfl⟩
      ·exact .inl q
     ·exact .inr ⟨gG q1,bw _ q2,q3⟩
    ·refine i2 x ?_
     by_cases hx:x=n
     ·subst hx;exact .inl ⟨h.objs.size,by simp⟩
     ·rcases z with ⟨c,z⟩ | z
      ·exact .inl ⟨c,by rw[bc,beq_false_of_ne hx];exact z⟩
      ·rcases aD.mp z with z | z
       ·cases z;exact absurd rfl hx
       ·exact .inr z
   ·rw[bc]at e1 e2
    split at e1
    ·rename_i hb1
     cases e1
     split at e2
     ·rename_i hb2
      exact(cQ hb1).trans (cQ hb2).symm
     ·exact absurd (hl _ _ e2) (bj _)
    ·split at e2
     ·cases e2
      exact absurd (hl _ _ e1) (bj _)
     ·exact hi x y c e1 e2
   ·rw[sz]
    rw[bc]at e
    split at e
    ·cases e;exact dU _
    ·exact eX (hl x c e)
  ·rw[if_neg hk,if_neg hk]
   have ih:=Nk r h acc hi hl;obtain⟨i1,i2,i3⟩:=ih
   refine⟨λx c e=>?_,λx z=>i2 x ?_,i3⟩
   ·rcases i1 x c e with q | ⟨q1,q2,q3⟩
    ·exact .inl q
    ·exact .inr ⟨q1,bw _ q2,q3⟩
   ·rcases z with z | z
    ·exact .inl z
    ·rcases aD.mp z with z | z
     ·cases z;exact absurd rfl hk
     ·exact .inr z
theorem Bq4
 (h:Q (newEnv scope s.heap.objs.size a (cellsFrom (s.heap.objs.size+1) scope.names d) qual none .none (some b) builtinsNs) { s with heap:=pushCells (s.heap.push { cls:=.type "dict",data:=.dict #[] }) scope.names }) :
 wpAny M A (newFunctionEnv scope a d [] qual none .none (some b)) Q E s:=by
 refine aj (wpAny_alloc ?_)
 refine aj (wpAny_layCells _ λe f c=>by trivial _ _ _ _ ?_)
 rw[show ({ s with heap:=s.heap.push _ }:t6).heap.objs.size=s.heap.objs.size+1 from bW ..]
 exact aj (ak (ak h))
theorem Af2 {K:List (Str×Addr)} {RR:Value->Addr->Result->t6->Prop}{F:m7->Hp->Prop}
 (L:Ip X N' idx scope) (hc:X.calm=true)
 (hg:∀K C s₀ H₀ ex,PG (Dr X N' scope K C s₀ H₀ ex) tg g) (ht:∀K C s₀ H₀ ex,PTs (Dr X N' scope K C s₀ H₀ ex) ifs tc) (he:∀K C s₀ H₀ ex,PE (Dr X N' scope K C s₀ H₀ ex) elt te)
 (c1:∀x c,K.lookup x=some c->X.env.cells.lookup x=some c/\(x,NameKind.free)∈scope.names) (c2:∀x,(x,NameKind.free)∈scope.names->∃c,K.lookup x=some c)
 (I2:Inv X pins σ R s2) (T:Turn X.prog X.w X.K tg J fp it tn) (st2:tn 0 s2.heap) (f2:∀b∈fp,Ij X pins R b) (W:Nat->Nat->St->m7->Hp->Prop) (w0:∃m,W 0 m (cst idx σ) [] R)
 (turn:∀i m t acc H,W i m t acc H->(J.stop i H/\F acc H) \/
  (J.go i H/\acc.length<sizeLine/\∃N:St->m7->Hp->Prop,(∀t acc' H',N t acc' H'->∃m',m'<m/\W (i+1) m' t acc' H')/\∀x H',J.yld i H x H'->g x t H' λZ R=>tc Z R λb H3 =>
   if b=true then te Z H3 λy H4=>N Z (acc++[y]) H4 else N Z acc H3))
 (hR:∀(D C:Addr) (s':t6) (acc:m7) (a:w6) (n:Nat) (H':Hp) (m:x_),s2.heap.objs.size<=D->s2.heap.objs.size<=C->D≠C->s'.heap.Ns C m->s'.heap.get? D=some { cls:=.type "list",data:=.seq a.toArray n }->Vals acc a->acc.length<=sizeLine ->
  H' D=none->H' C=none->s'.os=s2.os->AllBare s'.gens->Un (frs X.stack) fp R H' s2.heap s'.heap->HOk X.prog X.w H' s'.heap->F acc H'->RR (.ref D) C (.ok .next) s') :
 wpAny (model X.prog X.w) X.A (newList []) (λacc B=>wpAny (model X.prog X.w) X.A (newFunctionEnv scope X.env.globals K [] X.env.qual none .none (some X.env)) (λcenv s₄ =>
  codeAny (model X.prog X.w) X.A (.compStart (.ListComp elt [⟨tg,iter,ifs,0⟩] scope pos) 0 (.ref it) acc { cenv with scope:=relabel scope X.env }) (RR acc cenv.locals) s₄) E B) E s2:=by
 have U:∀b∈fp,b<s2.heap.objs.size:=λb w=>let ⟨o,e,_⟩:=T.obj _ _ st2 b w; aA e
 refine c7 (Bq4 ?_)
 dsimp only
 generalize hH2:s2.heap.push { cls:=.type "list",dict:=none,data:=.seq ([]:w6).toArray }=G
 have hC:G.objs.size=s2.heap.objs.size+1:=by rw[<- hH2,bW]
 have hDC:s2.heap.objs.size≠G.objs.size:=by rw[hC];exact aQ (dU _)
 have A:s2.heap.objs.size<=G.objs.size:=by rw[hC];exact dC _
 obtain⟨j,l⟩:∃j,j=pushCells (G.push { cls:=.type "dict",data:=.dict #[] }) scope.names:=⟨_,rfl⟩;rw[<- l]
 have S:j.Ns G.objs.size (λ_=>none):=by rw[l];exact(Heap.Ns.new G (.type "dict")).keeps (iC _ _)
 have old:∀b o,s2.heap.get? b=some o->j.get? b=some o:=λb o e=>by rw[l];exact iC _ _ b o (aB _ (hH2▸aB _ e))
 have hacc:j.get? s2.heap.objs.size=some { cls:=.type "list",dict:=none,data:=.seq ([]:w6).toArray }:=by rw[l];exact iC _ _ _ _ (aB _ (hH2▸aG _ rfl))
 have szD:(G.push { cls:=.type "dict",data:=.dict #[] }).objs.size=G.objs.size+1:=bW ..
 obtain⟨k1,k2,k3⟩:=Nk scope.names (G.push { cls:=.type "dict",data:=.dict #[] }) K (λx y c e1 e2=>I2.ok.inj x y c (c1 x c e1).1 (c1 y c e2).1) (λx c e=>by
  obtain⟨v,o,ho,_⟩:=I2.cell x c (c1 x c e).1
  rw[szD];exact eX (aP (aA ho) A))
 rw[szD,<- l]at k1;rw[szD]at k2 k3;obtain⟨cl0,hcl0⟩:∃cl0,cl0=K:=⟨_,rfl⟩;have c1o:=c1;have c2o:=c2;rw[<- hcl0]at k1 k2 k3 c1o c2o;rw[<- hcl0]
 clear c1 c2
 generalize cellsFrom (G.objs.size+1) scope.names cl0=K at k1 k2 k3 ⊢
 have c1:∀x c,K.lookup x=some c->(X.env.cells.lookup x=some c/\(x,NameKind.free)∈scope.names)\/(s2.heap.objs.size<=c/\(x,NameKind.cell)∈scope.names):=λx c e=>by
  rcases k1 x c e with q | ⟨q1,q2,_⟩
  ·exact .inl (c1o x c q)
  ·exact .inr ⟨aq A (gG q1),q2⟩
 have c2:∀x,((x,NameKind.free)∈scope.names\/(x,NameKind.cell)∈scope.names)->∃c,K.lookup x=some c:=λx z=>k2 x (z.imp (λz=>c2o x z) id)
 have c4:∀x c,K.lookup x=some c->(x,NameKind.cell)∈scope.names->j.IsCell c none:=λx c e z=>by
  rcases k1 x c e with q | ⟨_,_,q⟩
  ·have:=mem_lookup L.nod (c1o x c q).2
   rw[mem_lookup L.nod z]at this;cases this
  ·exact q
 let X':Cx:=Dr X N' scope K G.objs.size s2 R fp
 have I1:Inv X' [] (cst idx σ) R { s2 with heap:=j }:=A8k L I2 f2 U A c1 c2 k3 c4 rfl rfl old S
 have hD2:R s2.heap.objs.size=none:=I2.hok.fresh (au _)
 have hDfs:s2.heap.objs.size∉X'.fs:=λz=>by
  obtain⟨_,o,ho,_⟩:=I2.stack.mem z;exact absurd (aA ho) (bj _)
 have hDfp:s2.heap.objs.size∉fp:=λz=>absurd (U _ z) (bj _)
 have P:∀{H':Hp} {pl:y_},(∀b∈fp,H' b=none)->(∀p∈pl,p.1∉fp)->∀b∈fp,Ij X' pl H' b:=λ{H' pl} hn M b w =>
  ⟨hn b w,aQ (aP (U b w) A),λz=>by
   rcases aD.mp (I2.stkSub b z) with q | q
   ·exact(f2 b w).2.1 q
   ·exact(f2 b w).2.2.1 q,.inl w,λx c e=>by
    rcases c1 x c e with ⟨z,_⟩ | ⟨z,_⟩
    ·exact(f2 b w).2.2.2.2.1 x c z
    ·exact bT (aP (U b w) z),λp Q z=>M p (by have hp':p∈[]++pl:=Q;simpa using hp') (z▸w)⟩
 have loop:∀B:t6,B={ s2 with heap:=j } ->
  codeAny (model X.prog X.w) X.A (.compLoop (.ListComp elt [⟨tg,iter,ifs,0⟩] scope pos) 0 (.ref it) (.ref s2.heap.objs.size) (compEnvC scope K G.objs.size X.env)) (RR (.ref s2.heap.objs.size) G.objs.size) B:=by
  rintro B rfl
  obtain⟨m0,w0⟩:=w0
  refine Bl7 rfl (Wd:=λn s'=>∃i t acc a k H',Inv X' [(s2.heap.objs.size,{ cls:=.type "list",data:=.seq a.toArray k })] t H' s'/\Vals acc a/\acc.length<=sizeLine/\tn i s'.heap/\(∀b∈fp,H' b=none)/\W i n t acc H') (step:=?_) m0
   ⟨0,cst idx σ,[],[],0,R,I1.pins_of (λp Q=>?_),.nil,aU _,T.keep _ _ _ st2 λb _ o e=>old b o e,λb w=>(f2 b w).1,w0⟩
  ·rintro n s3 ⟨i,Y,acc,a,k,H3,I3,rv,hz,st3,fr3,w3⟩
   have M:∀p∈[((s2.heap.objs.size,{ cls:=.type "list",data:=.seq a.toArray k }):Addr×Obj)],p.1∉fp:=λp Q=>by
    rcases aK.mp Q with rfl;exact hDfp
   rcases turn i n Y acc H3 w3 with ⟨stop,q⟩ | ⟨go,hlt,N,hN,step⟩
   ·refine aH (T.done X' rfl rfl rfl hc i _ s3 Y H3 (λ_ _=>False) I3 (P fr3 M) st3 stop) (λr s4 ⟨hr,I4⟩=>?_) λ_ _ f=>f.elim
    subst hr;obtain⟨p1,p2,p3,p4,p5⟩:=I4.pin (s2.heap.objs.size,{ cls:=.type "list",data:=.seq a.toArray k }) (aF _ a_);obtain⟨m4,hn4,_⟩:=I4.loc;exact hR _ _ s4 acc a k H3 m4 (au _) A hDC hn4 p1 rv hz p2 I4.free I4.os I4.bare I4.base I4.hok q
   ·refine aH (T.item X' rfl rfl rfl hc i _ s3 Y H3 (λ_ _=>False) I3 (P fr3 M) st3 go) (λr s4 ⟨u,hr,h4⟩=>?_) λ_ _ f=>f.elim
    subst hr
    refine aH h4 (λ_ s5 ⟨x,H5,I5,r5,y5,st5,fr5⟩=>?_) λ_ _ f=>f.elim
    refine aH (hg _ _ _ _ _ _ s5 Y H5 x u _ (I5.pinned (P fr5 M) (T.obj _ _ st5)) r5 (step x H5 y5)) (λ_ s6 ⟨O,H6,I6,q6⟩=>?_) λ_ _ f=>f.elim
    refine aH (ht _ _ _ _ _ _ s6 O H6 _ I6 q6) (λok s7 ⟨H7,I7,q7⟩=>?_) λ_ _ f=>f.elim
    have tnk:∀{t:St} {H':Hp} {s':t6},Inv X' ([(s2.heap.objs.size,{ cls:=.type "list",data:=.seq a.toArray k })]++Va fp s5.heap) t H' s'->tn (i+1) s'.heap/\∀b∈fp,H' b=none:=λ{t H' s'} I=>by
     refine⟨T.keep _ _ _ st5 λb w o e=>(I.pin (b,o) (aF _ (aF _ (Ke w e)))).1,λb w=>?_⟩
     obtain⟨o,e,d⟩:=T.obj _ _ st5 b w;exact(I.pin (b,o) (aF _ (aF _ (Ke w e)))).2.1
    cases ok with
    | false =>
     rw[if_neg (by decide)]at q7
     obtain⟨m',hm,w7⟩:=hN _ _ _ q7;exact⟨m',hm,i+1,O,acc,a,k,H7,I7.unpinned,rv,hz,(tnk I7).1,(tnk I7).2,w7⟩
    | true =>
     rw[if_pos rfl]at q7
     refine aH (he _ _ _ _ _ _ s7 O H7 _ I7 q7) (λy s8 ⟨yv,H8,I8,r8,q8⟩=>?_) λ_ _ f=>f.elim
     obtain⟨m',hm,w8⟩:=hN _ _ _ q8;obtain⟨p1,p2,p3,p4,p5⟩:=I8.pin (s2.heap.objs.size,{ cls:=.type "list",data:=.seq a.toArray k }) (aF _ a_)
     refine cW PySem.F.slot_list_append ⟨_,p1,rfl⟩ PySem.F.entry_list_append (PySem.F.args_list_append_2 _ _) (PySem.list_append s2.heap.objs.size a.toArray k y (by have:=rv.length;rw[cA];lia)) ⟨p1,?_⟩
     have hz':=rv.length;obtain⟨t8,f8⟩:=tnk I8
     have I8':Inv X' [] O H8 s8:=I8.pins_of λp Q=>nomatch Q
     have q:=ji p1 (·.push y)
     have e':(a.toArray.push y)=(a++[y]).toArray:=by simp
     rw[e']at q
     obtain⟨k9,q⟩:∃k9,(s8.heap.update s2.heap.objs.size (Obj.mapSeq (·.push y))).get? _=some { cls:=.type _,data:=.seq _ k9 }:=⟨_,q⟩
     have I9:Inv _ _ _ _ { s8 with heap:=s8.heap.update _ (Obj.mapSeq (·.push y)) } :=
      I8'.turned (λb o w e=>(bK _ _ (aC w)).trans e) p2 p3 (.inr (au _)) (λx c e z=>by
       obtain⟨v,o,ho,hd⟩:=I8'.cell x c e
       rw[z,p1]at ho;cases ho;cases hd) (λp Q=>by have hp':p∈([]:List _)++[]:=Q;simp at hp')
     refine⟨m',hm,i+1,O,acc++[yv],a++[y],k9,H8,I9.pins_of λp Q=>?_,rv.append (.cons r8 .nil),by rw[aM,gH];lia,T.keep _ _ _ t8 λb w o e=>(bK _ _ (λz=>hDfp (by rw[z];exact w))).trans e,f8,w8⟩
     rcases aK.mp Q with rfl
     exact⟨q,p2,p3,p4,λv z=>by cases z⟩
  ·rcases aK.mp Q with rfl
   exact⟨hacc,hD2,hDC,hDfs,λv z=>by cases z⟩
 exact codeAny_compStart_list (loop _ rfl) (T.self _ 0 _ _ _ (T.keep _ _ _ st2 λb _ o e=>old b o e) (loop _ rfl))
theorem B4o (L:Ip X N' idx scope)(hc:X.calm=true)(hi:PI X tg iter wi)
 (hg:∀t C s₀ H₀ ex,PG (Dr X N' scope t C s₀ H₀ ex) tg g) (ht:∀t C s₀ H₀ ex,PTs (Dr X N' scope t C s₀ H₀ ex) ifs tc) (he:∀t C s₀ H₀ ex,PE (Dr X N' scope t C s₀ H₀ ex) elt te)
 (hs:∀x,foldedSetIterable iter X.env x=pure x:=by intro _;rfl) :
 PE X (.ListComp elt [⟨tg,iter,ifs,0⟩] scope pos) (tLC idx wi g tc te):=by
 intro j s Z H Q I h
 obtain⟨t,l,c1,c2⟩:=U7 (env:=X.env) (scope:=scope) λy hy hf=>I.ok.has y.1 (L.free y hy hf)
 rw[eval_ListComp]
 refine wpAny_comprehension_free (use:=none) rfl hs l L.kind (λy hy hl=>mem_lookup L.nod (by grind)) (aH (hi j s Z H _ I h) (λv s1 h1=>aH h1 (λitv V h2=>?_) λ_ _ e=>e) λ_ _ e=>e)
 obtain⟨it,fp,tn,J,H2,rfl,I2,T,M,z,W,w0,A⟩:=h2
 refine Af2 (F:=λa H=>∀p,H p=none->Q (.ref p) (upd H p (.lst a))) (RR:=λa C=>compPost (model X.prog X.w) X.A X.xe none (EP X j Z Q) a C) L hc hg ht he c1 c2 I2 T M z W w0 A ?_
 intro D C s' a w n N m hD hC O hn P rv hz d hC' ho K i hk q
 refine⟨m,hn,λG f=>?_⟩
 have eD:G.get? D=some { cls:=.type "list",data:=.seq w.toArray n }:=f.extBut _ _ O P
 have S:HOk X.prog X.w N G:=λb u e=>by
  refine (hk b u e).stay (λc v hc q=>f.extBut c v ?_ q) (λ_ q=>q) λ_ _ q=>q
  grind
 have U:HOk X.prog X.w (upd N D (.lst a)) G:=S.track d ⟨hz,w,n,rv,eD⟩
 have k:∀b o,V.heap.get? b=some o->b≠C:=λb o e=>aQ (aP (aA e) hC)
 have R:∀b o,V.heap.get? b=some o->b≠D:=λb o e=>aQ (aP (aA e) hD)
 have u2:Un (frs X.stack) fp H2 (upd N D (.lst a)) V.heap G :=
  ⟨
   λb o e r B Y=>f.extBut b o (k b o e) (i.keep b o e r B Y),λb o e r B Y=>let ⟨sl,q⟩:=i.slot b o e r B Y; ⟨sl,f.extBut b _ (k b o e) q⟩,
   λb o e r B=>by rw[Af (R b o e)];exact i.free b o e r B,λb o e r=>let ⟨o',q⟩:=i.there b o e r; ⟨o',f.extBut b _ (k b o e) q⟩,
   λb xs e=>by rw[Af (Ba (i.tups b _ e) d)];exact i.tups b _ e,λb o u e=>by rw[Af (Ba (i.frzs b o u e) d)];exact i.frzs b o u e,
   λb ps e=>by rw[Af (Ba (i.tbls b _ e) d)];exact i.tbls b _ e⟩
 refine⟨.ref D,upd _ D _,I2.call' ho u2 U K λb E=>⟨(z b E).2.2.2.1,(z b E).2.1,(z b E).2.2.2.2.1,(z b E).2.2.2.2.2⟩,rfl,q D d⟩
end
section
variable {X:Cx}{N':v4}{idx:o4}{scope:Scope}{elt tg iter:Expr}{ifs:v_}{pos:Pos}{wi:TI}{g:TG}{tc:TT}{te:TE}
theorem A4r {K t:Pos}(hN:X.N.Nodup) (hi':X.N[i]?=some y) (hy:Loc X.env.scope y) (L:Ip X N' idx scope) (hc:X.calm=true) (hi:PI X tg iter wi)
 (hg:∀B C s₀ H₀ ex,PG (Dr X N' scope B C s₀ H₀ ex) tg g) (ht:∀B C s₀ H₀ ex,PTs (Dr X N' scope B C s₀ H₀ ex) ifs tc) (he:∀B C s₀ H₀ ex,PE (Dr X N' scope B C s₀ H₀ ex) elt te)
 (hsw:swapsWith (.ListComp elt [⟨tg,iter,ifs,0⟩] scope pos) (some (.Name y K)) t.line X.env=pure true:=by rfl)
 (hf:X.fn y=true\/X.env.scope.names.lookup y=some .local:=by first | exact .inl rfl | exact .inr rfl | assumption)
 (hs:∀x,foldedSetIterable iter X.env x=pure x:=by intro _;rfl) :
 PS X (.Assign [.Name y K] (.ListComp elt [⟨tg,iter,ifs,0⟩] scope pos) t) (Zx (tLC idx wi g tc te) (Ez i)):=by
 intro d s M H j I h
 have h:tLC idx wi g tc te M H λx H1=>j.nx (M.set i (some x)) H1:=h
 obtain⟨B,A,c1,c2⟩:=U7 (env:=X.env) (scope:=scope) λy hy hf=>I.ok.has y.1 (L.free y hy hf)
 rw[exec_Assign_Name_used _ _ _ _ hsw]
 refine aj (cV (aj ?_))
 show wpAny _ X.A (do let _ <- comprehension (.ListComp elt [⟨tg,iter,ifs,0⟩] scope pos) scope X.env _ (newList []) false (eval iter X.env) (some (assign (.Name y K) X.env))) _ _ s
 refine aj (aH (wpAny_comprehension_free (use:=some (assign (.Name y K) X.env)) (Q:=λ_ r=>SP X d j .next r) rfl hs A L.kind (λy hy hl=>mem_lookup L.nod (by rw[<- hl];exact hy))
  (aH (hi d s M H _ I h) (λv s1 h1=>aH h1 (λitv s2 h2=>?_) λ_ _ e=>e) λ_ _ e=>e)) (λ_ r hq=>ak (ak hq)) λ_ _ e=>e)
 obtain⟨it,fp,tn,J,H2,rfl,G,T,U,N,W,w0,O⟩:=h2
 refine Af2 (F:=λf H=>∀p,H p=none->j.nx (M.set i (some (.ref p))) (upd H p (.lst f))) (RR:=λf C=>compPost (model X.prog X.w) X.A X.xe (some (assign (.Name y K) X.env)) (λ_ r=>SP X d j .next r) f C) L hc hg ht he c1 c2 G T U N W w0 O ?_
 intro D C r f V n Y m hD P Z hn hDo rv hz k hC' ho hg' l hk q;have S:HOk X.prog X.w (upd Y D (.lst f)) r.heap:=hk.track k ⟨hz,V,n,rv,hDo⟩
 have neD:∀b o,s2.heap.get? b=some o->b≠D:=λb o e=>aQ (aP (aA e) hD)
 have u2:Un (frs X.stack) fp H2 (upd Y D (.lst f)) s2.heap r.heap :=
  ⟨
   l.keep,l.slot,λb o e n1 n2=>by rw[Af (neD b o e)];exact l.free b o e n1 n2,l.there,
   λb xs e=>by rw[Af (Ba (l.tups b xs e) k)];exact l.tups b xs e,λb o u e=>by rw[Af (Ba (l.frzs b o u e) k)];exact l.frzs b o u e,
   λb ps e=>by rw[Af (Ba (l.tbls b ps e) k)];exact l.tbls b ps e⟩
 have I3:Inv X d M (upd Y D (.lst f)) r:=G.call' ho u2 S hg' (λb E=>⟨(N b E).2.2.2.1,(N b E).2.1,(N b E).2.2.2.2.1,(N b E).2.2.2.2.2⟩)
 have hCL:C≠X.env.locals:=bT (aP G.lt P)
 have hCc:∀x c,X.env.cells.lookup x=some c->c≠C:=λx c e z=>by
  obtain⟨v,w⟩:=G.cell x c e
  exact absurd (aP w.lt (by rw[z];exact P)) (bj _)
 have hCp:∀p∈X.pn++d,p.1≠C:=λp hp z=>absurd (aP (aA (G.pin p hp).1) (by rw[z];exact P)) (bj _)
 refine wpAny_assign_Name (W8 (v:=.ref D) I3 hN hi' hy rfl (λs4 I4 ⟨a,sb,ha⟩=>?_) hf)
 have hCa:C≠a:=by
  grind
 refine⟨m,hn.sameBut sb hCa,λh' R=>?_⟩
 refine⟨_,_,I4.turned (λb o E e=>R.extBut b o E e) ?_ hCL (.inr (aq G.sz P)) hCc hCp,q D k⟩
 rw[Af (aC Z)];exact hC'
end
def LcW (J:It)(g:TG)(tc:TT)(te:TE)(Q:VK)(σ0:St)(H:Hp):Prop :=
 ∃
  W:Nat->Nat->St->m7->Hp->Prop,(∃m,W 0 m σ0 [] H)/\∀i m σ' acc H,W i m σ' acc H ->
  (J.stop i H/\∀p,H p=none->Q (.ref p) (upd H p (.lst acc))) \/
  (J.go i H/\acc.length<sizeLine/\∃N:St->m7->Hp->Prop,(∀σ' acc' H',N σ' acc' H'->∃m',m'<m/\W (i+1) m' σ' acc' H')/\∀x H',J.yld i H x H'->g x σ' H' λσ2 H2=>tc σ2 H2 λb H3 =>
   if b=true then te σ2 H3 λy H4=>N σ2 (acc++[y]) H4 else N σ2 acc H3)
theorem Bw0 {K:v9}{a:Addr}{xs:m7}{g:TG}{tc:TT}{te:TE}{σ0:St}{H:Hp}{Q:VK}(Pv:Nat->St->m7->Hp->Prop)(h0:Pv 0 σ0 [] H)(hl:∀i σ acc H,i<=xs.length->Pv i σ acc H->SqT K H a xs/\acc.length<=i)(hz:xs.length<=sizeLine)
 (hs:∀i x σ acc H,xs[i]?=some x->Pv i σ acc H->g x σ H λσ2 H2=>tc σ2 H2 λb H3=>if b=true then te σ2 H3 λy H4=>Pv (i+1) σ2 (acc++[y]) H4 else Pv (i+1) σ2 acc H3)
 (hd:∀σ acc H,Pv xs.length σ acc H->∀p,H p=none->Q (.ref p) (upd H p (.lst acc))):LcW (Itt K a) g tc te Q σ0 H:=by
 refine⟨λi m σ acc H=>m=xs.length-i/\i<=xs.length/\Pv i σ acc H,⟨xs.length,by simp,aU _,h0⟩,?_⟩
 rintro i m σ acc H ⟨rfl,hi,p⟩
 obtain⟨q,ql⟩:=hl i σ acc H hi p
 by_cases hlt:i<xs.length
 ·refine .inr ⟨⟨xs,xs[i],q,by simp[hlt]⟩,by lia,Pv (i+1),λσ acc H w=>⟨xs.length-(i+1),by lia,rfl,hlt,w⟩,λx H' y=>?_⟩
  obtain⟨e,y⟩:=y;subst e;exact hs i x σ acc _ (y xs q) p
 ·have e:i=xs.length:=by lia
  subst e;exact .inl ⟨⟨xs,q,au _⟩,hd σ acc H p⟩
section
variable {X:Cx}
noncomputable def Rc (H:Hp):V->Option String
 | .non=>some "NoneType" | .bl _=>some "bool" | .int _=>some "int" | .str _=>some "str"
 | .ref a=>match H a with
  | some (.lst _)=>some "list"
  | some (.tup _)=>some "tuple"
  | some (.dK _)=>some "dict"
  | some (.dT _)=>some "dict"
  | _=>none
 | _=>none
section
variable {X:Cx}{pins:y_}{σ:St}{H:Hp}{s:t6}
theorem B2p (I:Inv X pins σ H s) (f:RelV x u) (h:Rc H x=some t):∃hp:Heap->Prop,PySem.W.KitX X.K u (.type t) hp/\hp s.heap/\u≠.builtin "__main__.__loader__#opaque" := by
 cases x with
 | non=>cases h;cases (f);exact⟨_,PySem.W.kitx_none,True.intro,λz=>nomatch z⟩
 | bl b=>cases h;cases (f);exact⟨_,PySem.W.kitx_bool,True.intro,λz=>nomatch z⟩
 | int i=>cases h;obtain⟨t,rfl⟩:=f;exact⟨_,PySem.W.kitx_int,True.intro,λz=>nomatch z⟩
 | str y=>cases h;obtain⟨t,rfl⟩:=f;exact⟨_,PySem.W.kitx_str,True.intro,λz=>nomatch z⟩
 | ref a =>
  cases (f)
  have c:∀T,PySem.W.KitX X.K (.ref a) (.type T) (PySem.W.KitAt a T)->PySem.W.KitAt a T s.heap->some T=some t->∃hp:Heap->Prop,PySem.W.KitX X.K (.ref a) (.type t) hp/\hp s.heap/\Value.ref a≠.builtin "__main__.__loader__#opaque" := λT k p q=>by grind
  have h:(match H a with | some (.lst _)=>some _ | some (.tup _)=>some _ | some (.dK _)=>some _ | some (.dT _)=>some _ | _=>none)=some t:=h
  split at h
  ·rename_i l e
   obtain⟨_,_,n,_,d⟩:=(show z9 _ _ H _ a _ from I.hok a _ e)
   exact c _ PySem.W.kitx_list ⟨_,d,rfl⟩ h
  ·rename_i l e
   obtain⟨_,_,_,o,d,g,_⟩:=(show z9 _ _ H _ a _ from I.hok a _ e)
   exact c _ PySem.W.kitx_tuple ⟨o,d,g⟩ h
  ·rename_i j e
   obtain⟨_,_,vs,_,o,r,m,d,g,_⟩:=(show z9 _ _ H _ a _ from I.hok a _ e)
   exact c _ PySem.W.kitx_dict ⟨o,d,g.1⟩ h
  ·rename_i j e
   obtain⟨_,_,l,_,o,r,m,d,g,_⟩:=(show z9 _ _ H _ a _ from I.hok a _ e)
   exact c _ PySem.W.kitx_dict ⟨o,d,g.1⟩ h
  grind
 | byt b=>cases h
 | flt b=>cases h
 | ty n=>cases h
end
noncomputable def Eo (t T:String):Option Bool:=if ["NoneType", "bool", "int", "str", "list", "tuple", "dict"].contains t&&["int", "str", "bool", "list", "tuple"].contains T then some (t==T||(t == "bool" && T == "int")) else none
theorem A5k {K:v9} (h:Eo t T=some b):PySem.W.kitOne K (.type t) (.type T)=some b:=by
 unfold Eo at h
 split at h
 ·rename_i a
  cases h
  simp only[cN,List.contains_iff_mem,aD,bI,bJ]at a;obtain⟨c,d⟩:=a
  rcases c with rfl | rfl | rfl | rfl | rfl | rfl | rfl <;> rcases d with rfl | rfl | rfl | rfl | rfl <;> with_unfolding_all rfl
 ·cases h
theorem A9b:CallR X (.builtin "isinstance") (λxs H Q=>∃x T t b,xs=[x,.ty T]/\Rc H x=some t/\Eo t T=some b/\Q (.bl b) H):=by
 intro a s σ H xs us Q I r h;obtain⟨x,T,t,b,rfl,f,c,q⟩:=h;obtain⟨u,v,rfl,e,d⟩:=Vals.two r
 cases (d)
 obtain⟨hp,z,p,g⟩:=B2p I e f
 exact PySem.W.kia_one z I.kIn p (A5k c) g λtk=>⟨.bl b,H,I.tok _,rfl,q⟩
theorem walk_seq (m:A.handled=none) (I:Inv X pins d H s) (h:SqL X.K H a xs)
 (k:∀(c:w6) (J:Addr) (s2:t6),Vals xs c->Walks X.prog X.w A J [J,a] [J] c.length (λi v=>c[i]?=some v) (λi h=>h.IsListIter J a i/\h.IsList a c.toArray)->s2.heap.IsListIter J a 0/\s2.heap.IsList a c.toArray->(∀b∈[J,a],b<s2.heap.objs.size) ->
  Inv X pins d H s2->(∀f l,(∀b o,b∉[J]->s2.heap.get? b=some o->f.get? b=some o)->Inv X pins d H { s2 with heap:=f,toks:=l })->R (.ref J) s2) :
 wpAny (model X.prog X.w) A (pyIter (.ref a)) R E s:=by
 obtain⟨c,n,p,D⟩:=I.list h
 refine eY p.isList ?_
 have u:a<s.heap.objs.size:=let ⟨_,e,_⟩:=p.isList; aA e
 have g:a≠s.heap.objs.size:=aQ u;have W:=Walks.list (prog:=X.prog) (w:=X.w) (A:=A) m s.heap.objs.size a g c.toArray;rw[cA]at W
 have j:Inv X pins d H { s with heap:=s.heap.push { cls:=.type "list_iterator",data:=.fields #[.ref a,.int 0 0] } }:=I.kept (t':=s.toks) λb o e=>aB _ e
 refine k c s.heap.objs.size _ n (by simp_all) ⟨⟨_,aG _ rfl,rfl,rfl⟩,let ⟨o,e,r⟩:=p.isList; ⟨o,aB _ e,r⟩⟩ ?_ j λf l x=>?_
 ·intro b z
  have e:=bW s.heap { cls:=.type "list_iterator",data:=.fields #[.ref a,.int 0 0] }
  grind
 ·obtain⟨q,B,F,y,C,t⟩:=(I.fpOk (b:=s.heap.objs.size) (au _) (I.hok.fresh (au _)))
  exact j.turned (λb o z e=>x b o (by simp_all) e) q B y C t
theorem Aj0 {bs:List Bool}(r:Vals (bs.map V.bl) a):TruthOf X.prog X.w A (λi v=>a[i]?=some v) (λi=>bs.getD i false):=by
 intro i v s Q E c b;have h := (bH.mp c).1
 have g:i<bs.length:=by have:=r.length;simp_all
 obtain⟨u,d,f⟩:=r.get (i:=i) (x:=V.bl bs[i]) (by simp_all)
 rw[c]at d
 cases d
 cases (show v=Value.bool _ from f)
 have e:bs.getD i false=bs[i]:=by simp_all
 have b:Q (bs.getD i _) s:=b;rw[e]at b;exact iw b
theorem range_all (bs:List Bool):(List.range bs.length).all (λi=>bs.getD i false)=bs.all id:=by
 rw[Bool.eq_iff_iff];simp only[aZ,List.mem_range]
 constructor
 ·intro h b d
  obtain⟨i,a,c⟩:=List.getElem_of_mem d
  simp_all
 ·intro h i a
  simpa[a] using h _ (iD _)
theorem A2u (hc:X.calm=true):CallR X (.builtin "all") (λxs H Q=>∃(a:Addr) (b:List Bool),xs=[.ref a]/\SqL X.K H a (b.map V.bl)/\Q (.bl (b.all id)) H):=by
 intro d s σ H xs us Q I r h;obtain⟨a,b,rfl,i,q⟩:=h;obtain⟨u,rfl,g⟩:=vals1 r
 cases (g)
 refine call_all_walk (walk_seq (I.ok.hd hc) I i λc J s2 f W l hb I2 k=>⟨J,_,_,_,_,_,_,rfl,W,l,Aj0 f,λh' tk j=>?_⟩)
 have e:c.length=b.length:=by rw[<- f.length,ao]
 rw[e,range_all];exact⟨.bl _,H,k _ _ j,rfl,q⟩
end
mutual
def Tr (H:Hp):t_->V->Prop
 | .none,v=>v=.non
 | .bool b,v=>v=.bl b
 | .int i,v=>v=.int i
 | .str x,v=>v=.str x
 | .list ds,v=>∃a vs,v=.ref a/\H a=some (.lst vs)/\TrL H ds vs
 | .tuple ds,v=>∃a vs,v=.ref a/\H a=some (.tup vs)/\TrL H ds vs
 | .dict _,_=>False
def TrL (H:Hp):w5->m7->Prop
 | [],vs=>vs=[]
 | d::ds,vs=>∃v r,vs=v::r/\Tr H d v/\TrL H ds r
end
theorem TrL.length {H:Hp}:∀{ds:w5}{vs:m7},TrL H ds vs->ds.length=vs.length
 | [],_,h=>by cases (show _=[] from h);rfl
 | d::ds,_,h=>by
  obtain⟨v,r,rfl,_,t⟩:=h;rw[aR,aR,TrL.length t]
mutual
theorem Tr.same {H H':Hp}(S:Same H H'):∀{d:t_}{v:V},Tr H d v->Tr H' d v
 | .none,_,h=>h
 | .bool _,_,h=>h
 | .int _,_,h=>h
 | .str _,_,h=>h
 | .list ds,_,⟨a,vs,e,ha,t⟩=>⟨a,vs,e,S _ _ ha,TrL.same S t⟩
 | .tuple ds,_,⟨a,vs,e,ha,t⟩=>⟨a,vs,e,S _ _ ha,TrL.same S t⟩
theorem TrL.same {H H':Hp}(S:Same H H'):∀{ds:w5}{vs:m7},TrL H ds vs->TrL H' ds vs
 | [],_,h=>h
 | d::ds,_,⟨v,r,e,h,t⟩=>⟨v,r,e,Tr.same S h,TrL.same S t⟩
end
section
variable {X:Cx}{pins:y_}{σ:St}{H:Hp}{s:t6}
mutual
theorem Tr.reads (I:Inv X pins σ H s):∀{d:t_}{v:V}{u:Value},Tr H d v->RelV v u->∃as,Reads s.heap u d as
 | .none,_,u=>λh r=>by
  cases (show _=V.non from h)
  cases (show u=Value.none from r)
  exact⟨_,.none⟩
 | .bool b,_,u=>λh r=>by
  cases (show _=V.bl b from h)
  cases (show u=Value.bool b from r)
  exact⟨_,.bool b⟩
 | .int i,_,u=>λh r=>by
  cases (show _=V.int i from h)
  obtain⟨t,rfl⟩:=r;exact⟨_,.int i t⟩
 | .str x,_,u=>λh r=>by
  cases (show _=V.str x from h)
  obtain⟨t,rfl⟩:=r;exact⟨_,.str x t⟩
 | .list ds,_,u=>λh r=>by
  obtain⟨a,vs,rfl,ha,t⟩:=h
  cases (show u=Value.ref a from r)
  obtain⟨z,its,n,rv,e⟩:=I.hok a _ ha;obtain⟨as,q⟩:=TrL.reads I t rv
  exact⟨_,.list e rfl rfl (by simpa using q)⟩
 | .tuple ds,_,u=>λh r=>by
  obtain⟨a,vs,rfl,ha,t⟩:=h
  cases (show u=Value.ref a from r)
  obtain⟨z,its,rv,o,e,c,⟨n,dt⟩,_⟩:=I.hok a _ ha;obtain⟨as,q⟩:=TrL.reads I t rv
  exact⟨_,.tuple e c dt (by simpa using q)⟩
 | .dict k,_,u=>λh r=>False.elim h
theorem TrL.reads (I:Inv X pins σ H s):∀{ds:w5}{vs:m7}{us:w6},TrL H ds vs->Vals vs us->∃as,ReadsAll s.heap us ds as
 | [],_,us=>λh r=>by
  cases (show _=[] from h)
  cases r
  exact⟨_,.nil⟩
 | d::ds,_,us=>λh r=>by
  obtain⟨v,vs,rfl,hv,t⟩:=h
  cases r with
  | cons r1 r2 =>
   obtain⟨as,q⟩:=Tr.reads I hv r1;obtain⟨bs,p⟩:=TrL.reads I t r2;exact⟨_,.cons q p⟩
end
end
def Flat (d:t_):Prop:=d.canLay0=true/\d.depth<=40
section
variable {X:Cx}
theorem Br8 (hu:u+64<c) (hb:b<=40):u+min a b<c:=cH (dO (aq (Nat.min_le_right a b) (aq hb (by decide))) u) hu
theorem Nr (hu:u+64<c) (hb:b<=40):u+1+min a b<c:=cH (aq (dO (aq (Nat.min_le_right a b) hb) _) (dO (show 1+40<=64 by decide) u)) hu
theorem B2y (hu:X.A.units+64<cLine):OpR X (compareOp .Eq) (λx y H Q=>∃a b,Tr H a x/\Tr H b y/\Flat a/\Flat b/\Q (.bl (PyData.eqv a b)) H):=by
 intro c s n H x y v u Q I g f h;obtain⟨a,b,i,j,k,d,q⟩:=h;obtain⟨m,l⟩:=i.reads I g;obtain⟨o,e⟩:=j.reads I f;exact SeqAt.compareEq_reads l e k.1 d.1 (Br8 hu d.2) ⟨.bl _,H,I,rfl,q⟩
theorem By9 (hu:X.A.units+64<cLine):OpR X (compareOp .NotEq) (λx y H Q=>∃a b,Tr H a x/\Tr H b y/\Flat a/\Flat b/\Q (.bl (!PyData.eqv a b)) H):=by
 intro c s n H x y v u Q I g f h;obtain⟨a,b,i,j,k,d,q⟩:=h;obtain⟨m,l⟩:=i.reads I g;obtain⟨o,e⟩:=j.reads I f;exact SeqAt.compareNe_reads l e k.1 d.1 (Br8 hu d.2) ⟨.bl _,H,I,rfl,q⟩
theorem Bx8 (hu:X.A.units+64<cLine):OpR X (compareOp .In) (λx y H Q=>∃d a,Tr H d x/\(Tr H (.list a) y\/Tr H (.tuple a) y)/\Flat d/\PyData.canLayAll0 a=true/\Q (.bl (a.any λe=>PyData.eqv e d)) H):=by
 intro i s o H x y v u Q I n g h;obtain⟨d,a,l,b,c,j,q⟩:=h;obtain⟨p,k⟩:=l.reads I n
 rcases b with b | b
 ·obtain⟨m,f⟩:=b.reads I g
  exact SeqAt.in_list_reads f k j c.1 (Nr hu c.2) ⟨.bl _,H,I,rfl,q⟩
 ·obtain⟨m,f⟩:=b.reads I g
  exact SeqAt.in_tuple_reads f k j c.1 (Nr hu c.2) ⟨.bl _,H,I,rfl,q⟩
theorem A1j (hu:X.A.units+64<cLine):OpR X (compareOp .NotIn) (λx y H Q=>∃d ds,Tr H d x/\(Tr H (.list ds) y\/Tr H (.tuple ds) y)/\Flat d/\PyData.canLayAll0 ds=true/\Q (.bl (!ds.any λe=>PyData.eqv e d)) H):=by
 intro g s σ H x y v u Q I m f h;obtain⟨d,ds,k,a,b,i,q⟩:=h;obtain⟨as,j⟩:=k.reads I m
 rcases a with a | a
 ·obtain⟨l,c⟩:=a.reads I f
  exact SeqAt.notIn_list_reads c j i b.1 (Nr hu b.2) ⟨.bl _,H,I,rfl,q⟩
 ·obtain⟨l,c⟩:=a.reads I f
  exact SeqAt.notIn_tuple_reads c j i b.1 (Nr hu b.2) ⟨.bl _,H,I,rfl,q⟩
theorem A2j (hu:X.A.units+64<cLine)(hg:X.A.guards=some []):CallR X (.type "str") (λxs H Q=>∃a d,xs=[.ref a]/\Tr H d (.ref a)/\d.showable=true/\d.hasDict=false/\d.depth<=40/\d.shown.length<=sizeLine/\Q (.str d.shown) H):=by
 intro b s σ H xs us Q I r h;obtain⟨a,d,rfl,i,j,h2,h3,g,q⟩:=h;obtain⟨u,rfl,c⟩:=vals1 r
 cases show u=Value.ref a from c
 obtain⟨as,k⟩:=i.reads I c
 exact str_of_reads k j λz=>by simp_all hg (by lia) (λ_ _ e=>e) (λh' t tk f=>⟨.str _,H,I.kept f,⟨t,rfl⟩,q⟩) g
end
mutual
noncomputable def Ih (gt:Bool):t_->t_->Option Bool
 | .int i,.int j=>some (if gt then decide (j<i) else decide (i<j))
 | .str i,.str j=>some (if gt then decide (j.cps.toList<i.cps.toList) else decide (i.cps.toList<j.cps.toList))
 | .tuple xs,.tuple ys=>Yl gt xs ys
 | _,_=>none
noncomputable def Yl (gt:Bool):w5->w5->Option Bool
 | [],[]=>some false
 | [],_::_=>some (!gt)
 | _::_,[]=>some gt
 | x::xs,y::ys=>if PyData.eqv x y=true then Yl gt xs ys else Ih gt x y
end
noncomputable abbrev opG (gt:Bool):CmpOp:=if gt then .Gt else .Lt
def Bz8 (gt:Bool)(A:q9)(s:t6)(a b:Value)(r:Bool):Prop :=
 ∀(prog:u9) (w:World) (E:z_) (Q:z_),Q (.bool r) s->wpAny (model prog w) A (richCompare (opG gt) a b) Q E s
inductive Qs (gt:Bool) (A:q9) (s:t6):w6->w6->Bool->Prop
 | nn:Qs gt A s [] [] false
 | nc {y ys}:Qs gt A s [] (y::ys) (!gt)
 | cn {x xs}:Qs gt A s (x::xs) [] gt
 | eq {x xs y ys r}:SeqAt.EqAt A s x y true->Qs gt A s xs ys r->Qs gt A s (x::xs) (y::ys) r
 | ne {x xs y ys r}:SeqAt.EqAt A s x y false->Bz8 gt A s x y r->Qs gt A s (x::xs) (y::ys) r
section
open PySem.SeqAt
open PySem.AutoSeq1 (wpAny_loadPart')
open PySem.MeetsSeq PySem.MeetsSeq2 PySem.MeetsSeq3
theorem Xz (l b:Addr)(items a:v7)(n n2:Nat)(dd dd2:Option Addr)(sl sl2:Array (u_))(r:Bool) :
 Meets (Builtin.«tuple.__lt__» ⟨[.ref l,.ref b],[]⟩)
  (λA R s=>s.heap.get? l=some { cls:=.type "tuple",dict:=dd,data:=.seq items n,slots:=sl }/\s.heap.get? b=some { cls:=.type "tuple",dict:=dd2,data:=.seq a n2,slots:=sl2 } /\
   Qs false A.in1 s items.toList a.toList r/\R (.ok (.ret (.bool r))) s) :=
 .of_wp λf w A R s h=>by
  obtain⟨hp,g,d,tk,os⟩:=s;obtain⟨hl,hb,hx,h⟩:=h;have f2:=AutoSeq1.sub_tuple_tuple
  wp_walk using dW hl,dW hb,gf _ (λrest b s'=>b.1=none/\s'=⟨hp,g,d,tk,os⟩/\∃(vs ws:w6),rest=vs.zip ws /\
   vs.length+a.size=ws.length+items.size/\Qs false A.in1 ⟨hp,g,d,tk,os⟩ vs ws r) _
  case turn =>
   rintro⟨y,x⟩ rest b s' ⟨hb',rfl,vs,ws,e,c,hR⟩
   cases hR with
   | nn=>rw[iG]at e;cases e
   | nc=>rw[iG]at e;cases e
   | cn=>rw[List.zip_nil_right]at e;cases e
   | eq he hr =>
    rw[bM]at e
    injection e with hyx hrest
    injection hyx with hy hx
    subst hy hx;simp only[aR]at c
    refine aj (he f w _ _ ?_)
    wp_walk
    exact⟨rfl,rfl,_,_,hrest,by lia,hr⟩
   | ne he hr =>
    rw[bM]at e
    injection e with hyx hrest
    injection hyx with hy hx
    subst hy hx
    refine aj (he f w _ _ ?_)
    have hri:∀(E:z_) (Q:z_),Q (.bool r) ⟨hp,g,d,tk,os⟩->wpAny (model f w) A.in1 (richCompare .Lt y x) Q E ⟨hp,g,d,tk,os⟩:=hr f w
    wp_walk using hri
    exact⟨_,rfl,by simpa using h⟩
  case fin =>
   rintro⟨b1,b2⟩ s' ⟨hb',rfl,vs,ws,e,c,hR⟩
   simp only at hb';subst hb'
   have hv:r=decide (items.size<a.size):=by
    cases hR with
    | nn=>exact(aV (by simp only[cY]at c;lia)).symm
    | nc=>simp only[cY,aR]at c;exact(aN (by lia)).symm
    | cn=>simp only[cY,aR]at c;exact(aV (by lia)).symm
    | eq=>rw[bM]at e;cases e
    | ne=>rw[bM]at e;cases e
   rw[hv]at h
   wp_walk
   exact⟨_,rfl,by simpa[Builtin.Tuple.tupleCompareSizes] using h⟩
  case h =>
   exact⟨rfl,rfl,items.toList,a.toList,rfl,by simp;lia,hx⟩
theorem Zk (l b:Addr)(items a:v7)(n n2:Nat)(dd dd2:Option Addr)(sl sl2:Array (u_))(r:Bool) :
 Meets (Builtin.«tuple.__gt__» ⟨[.ref l,.ref b],[]⟩)
  (λA R s=>s.heap.get? l=some { cls:=.type "tuple",dict:=dd,data:=.seq items n,slots:=sl }/\s.heap.get? b=some { cls:=.type "tuple",dict:=dd2,data:=.seq a n2,slots:=sl2 } /\
   Qs true A.in1 s items.toList a.toList r/\R (.ok (.ret (.bool r))) s) :=
 .of_wp λf w A R s h=>by
  obtain⟨hp,g,d,tk,os⟩:=s;obtain⟨hl,hb,hx,h⟩:=h;have f2:=AutoSeq1.sub_tuple_tuple
  wp_walk using dW hl,dW hb,gf _ (λrest b s'=>b.1=none/\s'=⟨hp,g,d,tk,os⟩/\∃(vs ws:w6),rest=vs.zip ws /\
   vs.length+a.size=ws.length+items.size/\Qs true A.in1 ⟨hp,g,d,tk,os⟩ vs ws r) _
  case turn =>
   rintro⟨y,x⟩ rest b s' ⟨hb',rfl,vs,ws,e,c,hR⟩
   cases hR with
   | nn=>rw[iG]at e;cases e
   | nc=>rw[iG]at e;cases e
   | cn=>rw[List.zip_nil_right]at e;cases e
   | eq he hr =>
    rw[bM]at e
    injection e with hyx hrest
    injection hyx with hy hx
    subst hy hx;simp only[aR]at c
    refine aj (he f w _ _ ?_)
    wp_walk
    exact⟨rfl,rfl,_,_,hrest,by lia,hr⟩
   | ne he hr =>
    rw[bM]at e
    injection e with hyx hrest
    injection hyx with hy hx
    subst hy hx
    refine aj (he f w _ _ ?_)
    have hri:∀(E:z_) (Q:z_),Q (.bool r) ⟨hp,g,d,tk,os⟩->wpAny (model f w) A.in1 (richCompare .Gt y x) Q E ⟨hp,g,d,tk,os⟩:=hr f w
    wp_walk using hri
    exact⟨_,rfl,by simpa using h⟩
  case fin =>
   rintro⟨b1,b2⟩ s' ⟨hb',rfl,vs,ws,e,c,hR⟩
   simp only at hb';subst hb'
   have hv:r=decide (a.size<items.size):=by
    cases hR with
    | nn=>exact(aV (by simp only[cY]at c;lia)).symm
    | nc=>simp only[cY,aR]at c;exact(aV (by lia)).symm
    | cn=>simp only[cY,aR]at c;exact(aN (by lia)).symm
    | eq=>rw[bM]at e;cases e
    | ne=>rw[bM]at e;cases e
   rw[hv]at h
   wp_walk
   exact⟨_,rfl,by simpa[Builtin.Tuple.tupleCompareSizes] using h⟩
  case h =>
   exact⟨rfl,rfl,items.toList,a.toList,rfl,by simp;lia,hx⟩
end
theorem B2g (hl:s.heap.IsTuple l items) (hb:s.heap.IsTuple b a) (hx:Qs f A.in1 s items.toList a.toList r) (hu:A.units<cLine):Bz8 f A s (.ref l) (.ref b) r:=by
 intro m w E Q h;obtain⟨⟨o,y,k,v⟩,d,p,n,u⟩:=id hl;obtain⟨⟨j,t,g,q⟩,c,i,z,e⟩:=id hb;subst p u i e
 cases f with
 | false =>
  exact richCompare_meets_room ⟨_,d,rfl⟩ ⟨_,c,rfl⟩ PySem.F.slot_tuple_lt PySem.F.entry_tuple_lt (PySem.F.args_tuple_lt_2 _ _) (Xz l b _ _ n _ _ _ _ _ r)
   ⟨d,c,hx,show Value.bool r≠Value.notImplemented/\Q _ s from ⟨(λx=>nomatch x),h⟩⟩ hu
 | true =>
  exact richCompare_meets_room ⟨_,d,rfl⟩ ⟨_,c,rfl⟩ PySem.F.slot_tuple_gt PySem.F.entry_tuple_gt (PySem.F.args_tuple_gt_2 _ _) (Zk l b _ _ n _ _ _ _ _ r)
   ⟨d,c,hx,show Value.bool r≠Value.notImplemented/\Q _ s from ⟨(λx=>nomatch x),h⟩⟩ hu
mutual
theorem Ab5 (gt:Bool):∀(da db:t_) (A:q9) (s:t6) (a b:Value) (as bs:v6) (r:Bool),Reads s.heap a da as->Reads s.heap b db bs->da.canLay0=true->db.canLay0=true->A.units+da.depth<cLine->Ih gt da db=some r->Bz8 gt A s a b r
 | .int i,db,A,s,a,b,as,bs,r,ra,rb,ca,cb,hu,h=>by
  cases db with
  | int j =>
   cases ra
   cases rb
   cases h
   intro prog w E Q q
   cases gt with
   | false=>exact(PyProof.Rows.lt_int q:wpAny (model prog w) A (compareOp .Lt _ _) Q E s)
   | true=>exact(PyProof.Rows.gt_int q:wpAny (model prog w) A (compareOp .Gt _ _) Q E s)
  | _=>cases h
 | .str i,db,A,s,a,b,as,bs,r,ra,rb,ca,cb,hu,h=>by
  cases db with
  | str j =>
   cases ra
   cases rb
   cases h
   intro prog w E Q q
   cases gt with
   | false=>exact(PyProof.Rows.lt_str q:wpAny (model prog w) A (compareOp .Lt _ _) Q E s)
   | true=>exact(PySem.P.gt_str q:wpAny (model prog w) A (compareOp .Gt _ _) Q E s)
  | _=>cases h
 | .tuple xs,db,A,s,a,b,as,bs,r,ra,rb,ca,cb,hu,h=>by
  cases db with
  | tuple ys =>
   cases ra with
   | tuple h1 h2 h3 h4 =>
    cases rb with
    | tuple g1 g2 g3 g4 =>
     have hu':A.units+(PyData.depthAll xs+1)<cLine:=hu
     exact B2g ⟨_,h1,h2,_,h3⟩ ⟨_,g1,g2,_,g3⟩ (Xw gt xs ys A.in1 s _ _ _ _ r h4 g4 ca cb (by show A.units+1+PyData.depthAll xs<cLine;lia) h) (by lia)
  | _=>cases h
 | .none,db,A,s,a,b,as,bs,r,ra,rb,ca,cb,hu,h=>by cases db <;> cases h
 | .bool _,db,A,s,a,b,as,bs,r,ra,rb,ca,cb,hu,h=>by cases db <;> cases h
 | .list _,db,A,s,a,b,as,bs,r,ra,rb,ca,cb,hu,h=>by cases db <;> cases h
 | .dict _,db,A,s,a,b,as,bs,r,ra,rb,ca,cb,hu,h=>by cases db <;> cases h
theorem Xw (gt:Bool):∀(xs ys:w5) (A:q9) (s:t6) (vs ws:w6) (as bs:v6) (r:Bool),ReadsAll s.heap vs xs as->ReadsAll s.heap ws ys bs->PyData.canLayAll0 xs=true->PyData.canLayAll0 ys=true->A.units+PyData.depthAll xs<cLine->Yl gt xs ys=some r->Qs gt A s vs ws r
 | [],[],A,s,vs,ws,as,bs,r,ra,rb,ca,cb,hu,h=>by cases ra;cases rb;cases h;exact .nn
 | [],y::ys,A,s,vs,ws,as,bs,r,ra,rb,ca,cb,hu,h=>by cases ra;cases rb;cases h;exact .nc
 | x::xs,[],A,s,vs,ws,as,bs,r,ra,rb,ca,cb,hu,h=>by cases ra;cases rb;cases h;exact .cn
 | x::xs,y::ys,A,s,vs,ws,as,bs,r,ra,rb,ca,cb,hu,h=>by
  cases ra with
  | cons r1 r2 =>
   cases rb with
   | cons q1 q2 =>
    have ca':=az.mp ca;have cb':=az.mp cb;have hu':A.units+max x.depth (PyData.depthAll xs)<cLine:=hu
    have e:=gh x y A s _ _ _ _ r1 q1 ca'.1 cb'.1 (by lia)
    rw[Yl]at h
    by_cases he:PyData.eqv x y=true
    ·rw[if_pos he]at h
     rw[he]at e
     exact .eq e (Xw gt xs ys A s _ _ _ _ r r2 q2 ca'.2 cb'.2 (by lia) h)
    ·rw[if_neg he]at h
     rw[Bool.not_eq_true _ |>.mp he]at e
     exact .ne e (Ab5 gt x y A s _ _ _ _ r r1 q1 ca'.1 cb'.1 (by lia) h)
end
section
variable {X:Cx}{pins:y_}{σ:St}{H:Hp}{s:t6}
theorem Inv.recS (I:Inv X (pins++(S,o)::pl) σ H s) (hS:X.s₀.heap.objs.size<=S) (hp:∀p∈pins++pl,p.1≠S) (hpn:∀p∈X.pn,p.1≠S)
 (hu:(s.heap.update S f).get? S=some o') (hd:∀v,o'.data≠.cell v):Inv X (pins++(S,o')::pl) σ H { s with heap:=s.heap.update S f }:=by
 obtain⟨p1,p2,p3,p4,p5⟩:=I.pin (S,o) (aF _ (aF _ a_))
 have I0:Inv X [] σ H s:=I.pins_of λp hp=>nomatch hp
 have I1:Inv X [] σ H { s with heap:=s.heap.update S f }:=I0.turned (t':=s.toks) (λb u hb e=>(bK s.heap f (aC hb)).trans e) p2 p3 (.inr hS) (λx c e z=>by
  obtain⟨v,ob,ho,hdc⟩:=I.cell x c e
  rw[z,p1]at ho;cases ho;exact p5 v hdc) (λp hp' z=>by
   have hp':p∈X.pn++[]:=hp';rw[cG]at hp'
   exact hpn p hp' z)
 refine I1.pins_of λp hpp=>?_
 have keep:∀p∈pins++pl,(s.heap.update S f).get? p.1=some p.2/\H p.1=none/\p.1≠X.env.locals/\p.1∉X.fs/\∀v,p.2.data≠.cell v:=λp hpm=>by
  have hpm':p∈X.pn++(pins++(S,o)::pl):=aF _ (by
   rcases aY.mp hpm with z | z
   ·exact bG _ z
   ·exact aF _ (bw _ z))
  obtain⟨q1,q2,q3,q4,q5⟩:=I.pin p hpm';exact⟨(bK s.heap f (aC (hp p hpm))).trans q1,q2,q3,q4,q5⟩
 rcases aY.mp hpp with z | z
 ·exact keep p (bG _ z)
 ·rcases aD.mp z with rfl | z
  ·exact⟨hu,p2,p3,p4,hd⟩
  ·exact keep p (aF _ z)
end
noncomputable def A2t (H:Hp):V->Option Nat
 | .ref p=>match H p with
  | some (.lst xs)=>some xs.length
  | some (.tup xs)=>some xs.length
  | _=>none
 | .str z=>if z.length<=sizeLine then some z.length else none
 | _=>none
def rAppF:V->m7->Hp->VK->Prop:=λx vs H Q=>∃l y xs,x=.ref l/\vs=[y]/\H l=some (.lst xs)/\xs.length<sizeLine/\Q .non (upd H l (.lst (xs++[y])))
def A1r (K:v9)(tl:TE):TI:=λσ H R=>tl σ H λx H1=>∃a,x=.ref a/\((∃xs,H1 a=some (.lst xs)/\R (Itl K a) H1)\/(∃xs,H1 a=some (.tup xs)/\R (Itt K a) H1))
section
variable {X:Cx}
theorem A3h:CallR X (.builtin "len") (λxs H Q=>∃x n,xs=[x]/\A2t H x=some n/\Q (.int (n:Nat)) H):=by
 intro a s σ H xs us Q I r h;obtain⟨x,n,rfl,e,q⟩:=h
 refine Ac6 _ s _ H _ _ Q I r ⟨x,n,rfl,?_,q⟩
 cases x with
 | ref p =>
  have e:(match H p with | some (.lst _)=>some _ | some (.tup _)=>some _ | _=>none)=some n:=e
  cases hp:H p with
  | none=>simp_all
  | some o =>
   rw[hp]at e
   cases o with
   | lst xs=>cases e;exact .inl ⟨xs,SqL.of hp,rfl⟩
   | tup xs=>cases e;exact .inr ⟨xs,SqT.of hp,rfl⟩
   | _=>grind
 | str z =>
  have e:(if z.length<=sizeLine then some _ else none)=some n:=e
  split at e
  ·cases e;trivial
  trivial
 | _=>cases e
theorem Br0:MtM X "list.append" rAppF:=by
 intro a s j H x k v m Q I e f h;obtain⟨l,y,d,c,g,i,b,q⟩:=h;exact A2p _ s _ H x _ v _ Q I e f ⟨l,d,y,c,g,i,b,q⟩
theorem B2e (hl:PE X l j):PI X u l (A1r X.K j):=by
 intro k s z H R I h
 refine thn (hl _ s _ H _ I h) λv d ⟨x,m,c,r,f⟩=>?_
 obtain⟨a,e,f⟩:=f;subst e
 cases r
 rcases f with ⟨t,i,q⟩ | ⟨t,i,q⟩
 ·obtain⟨g,w,p,y⟩:=c.list (SqL.of i)
  refine eY p.isList ?_
  refine⟨d.heap.objs.size,[d.heap.objs.size],_,_,m,rfl,c.kept λb o e=>aB _ e,A2a a _,⟨_,aG _ rfl,rfl,rfl⟩,λb n=>?_,q⟩
  have e:b=d.heap.objs.size:=by grind
  subst e;exact c.fpOk (au _) (c.hok.fresh (au _))
 ·obtain⟨g,w,p,y⟩:=c.tuple (SqT.of i)
  refine dX (show d.heap.IsTuple a _ from p) ?_
  refine⟨d.heap.objs.size,[d.heap.objs.size],_,_,m,rfl,c.kept λb o e=>aB _ e,Aj3 a _,⟨_,aG _ rfl,rfl,rfl⟩,λb n=>?_,q⟩
  have e:b=d.heap.objs.size:=by grind
  subst e;exact c.fpOk (au _) (c.hok.fresh (au _))
end
theorem B1a:bootBuiltins "len" = some (.builtin "len"):=by decide +kernel
theorem B3h:bootBuiltins "abs" = some (.builtin "abs"):=by decide +kernel
theorem M8:bootBuiltins "isinstance" = some (.builtin "isinstance"):=by decide +kernel
theorem B0n:bootBuiltins "all" = some (.builtin "all"):=by decide +kernel
theorem A7h:bootBuiltins "min" = some (.builtin "min"):=by decide +kernel
theorem A9u:bootBuiltins "int" = some (.type "int"):=by decide +kernel
theorem A5a:bootBuiltins "str" = some (.type "str"):=by decide +kernel
theorem Bl5:bootBuiltins "list" = some (.type "list"):=by decide +kernel
theorem U4:bootBuiltins "tuple" = some (.type "tuple"):=by decide +kernel
theorem Fl {X:Cx}{N':v4}{idx:o4}{scope:Scope}(h1:scope.kind=.function:=by exact rfl)(h3:(scope.names.map (·.1)).Nodup:=by decide +kernel)
 (h4:(scope.names.all λy=>decide (y.2≠.free)||decide (X.env.kindOf y.1=some .cell)||decide (X.env.kindOf y.1=some .free))=true:=by exact rfl) (h5:idx.length=N'.length:=by exact rfl)
 (h6:((idx.zip N').all λp=>match p.1 with | none=>true | some i=>decide (X.N[i]?=some p.2)&&decide (scope.names.lookup p.2=some .free))=true:=by exact rfl):Ip X N' idx scope where
 kind:=h1
 nod:=h3
 free:=λy hy hf=>by
  have h:=aZ.mp h4 y hy;simp only[Bool.or_eq_true,fQ]at h
  rcases h with (h | h) | h
  ·exact absurd hf h
  ·exact .inl h
  ·exact .inr h
 len:=h5
 at':=λj i x e1 e2=>by
  have hz:(some i,x)∈idx.zip N':=by
   have:(idx.zip N')[j]?=some (some i,x):=by simp[List.getElem?_zip_eq_some,e1,e2]
   exact bf this
  have h:=aZ.mp h6 _ hz;simp only[cN,fQ]at h;exact h
noncomputable def Vb:Expr->Option V
 | .Constant (.int i) _ _=>some (.int i)
 | .Constant (.str x) _ _=>some (.str x)
 | .Constant (.bool b) _ _=>some (.bl b)
 | .Constant .none _ _=>some .non
 | _=>none
def Ov:v_->Option (m7)
 | []=>some []
 | e::es=>match Vb e,Ov es with
  | some v,some vs=>some (v::vs)
  | _,_=>none
def tK (vs:m7):TA:=λ_ H Q=>Q vs H
theorem A9y (h:Vb e=some v):PE X e (tC v)/\∀es,starEach (e::es) X.env=(false,eval e X.env)::starEach es X.env:=by
 unfold Vb at h
 split at h <;> first
  | (cases h;exact⟨A7z,λ_=>rfl⟩)
  | (cases h;exact⟨A7c,λ_=>rfl⟩)
  | (cases h;exact⟨Bt8,λ_=>rfl⟩)
  | (cases h;exact⟨Bb3,λ_=>rfl⟩)
  | cases h
theorem Wq {X:Cx}:∀{es:v_}{vs:m7},Ov es=some vs->PA X es (tK vs)
 | [],vs,h=>by cases h;exact Y9
 | e::es,vs,h=>by
  have h:(match Vb e,Ov es with | some v,some vs=>some (v::vs) | _,_=>none)=some vs:=h
  cases e1:Vb e with
  | none=>rw[e1]at h;cases h
  | some v =>
   cases e2:Ov es with
   | none=>rw[e1,e2]at h;cases h
   | some r =>
    rw[e1,e2]at h
    cases h
    obtain⟨p1,p2⟩:=A9y (X:=X) e1;exact At8 p1 (Wq e2) (p2 es)
noncomputable def isStar:Expr->Bool
 | .Starred ..=>true
 | _=>false
def noStar:v_->Bool
 | []=>true
 | e::es=>!isStar e&&noStar es
theorem Ga (h:isStar e=false):starEach (e::es) env=(false,eval e env)::starEach es env:=by
 cases e <;> first | rfl | cases h
theorem Kf {pos:Pos}{env:Env}:∀{es:v_},noStar es=true->(backTo pos (starEach es env)).any (·.1)=false
 | [],_=>rfl
 | e::es,h=>by
  obtain⟨h1,h2⟩:=az.mp h
  rw[Ga (by simpa using h1)]
  show (false||(backTo pos (starEach es env)).any (·.1))=false
  rw[Kf h2]
  rfl
theorem Fq (h:noStar (e::es)=true):isStar e=false/\noStar es=true:=by
 obtain⟨b,a⟩:=az.mp h
 simp_all
section
variable {X:Cx}{CX:CXT}{k:Nat}{f:Addr}{fd:u6}{ps:v4}{sp:Sp}{dvs:m7}{ds:w6}{E:XK}{x:Str}{p pos:Pos}{e:Expr}{es:v_}{te:TE}{t:TA}{id T:String}{r:m7->Hp->VK->Prop}
theorem B3e (ha:PE X e te)(hr:PA X es t)(hs:isStar e=false:=by rfl):PA X (e::es) (Bp te t):=At8 ha hr (Ga hs)
theorem A8v (F:FnOk X.prog X.w X.K X.mg X.base CX k f fd ps sp)(hr:Room k X.A)(hg:Gl X x)(hm:X.mg x=some (.ref f))(hk:PySem.W.keepIn X.K (.ref f)=true)(hb:Binds X.K fd ps ds)(hd:Vals dvs ds)(hx:Ql CX X E)
 (ha:PA X (e::es) t) (hdb:(x==("__debug__" : Str))=false:=by decide) (hn:noStar (e::es)=true:=by rfl):PE X (.Call (.Name x p) (e::es) [] pos) (Us sp dvs E t) :=
 Bm7 F hr hg hm hk hb hd hx ha hdb (Ga (Fq hn).1) (Kf (Fq hn).2)
theorem Gx (hc:CallR X (.builtin id) r)(hg:Gl X x)(hm:X.mg x=none)(hv:bootBuiltins x=some (.builtin id))(ha:PA X (e::es) t)(hn:x ≠ "__name__" := by decide) (hdb:(x==("__debug__" : Str))=false:=by decide)
 (hns:noStar (e::es)=true:=by rfl):PE X (.Call (.Name x p) (e::es) [] pos) (tCB r t):=A9o hc hg hm hv ha hn hdb (Ga (Fq hns).1) (Kf (Fq hns).2)
theorem Ku (hc:CallR X (.type T) r)(hg:Gl X x)(hm:X.mg x=none)(hv:bootBuiltins x=some (.type T))(ha:PA X (e::es) t)(hn:x ≠ "__name__" := by decide) (hdb:(x==("__debug__" : Str))=false:=by decide)
 (hns:noStar (e::es)=true:=by rfl):PE X (.Call (.Name x p) (e::es) [] pos) (tCB r t):=A0j hc hg hm hv ha hn hdb (Ga (Fq hns).1) (Kf (Fq hns).2)
end
section
variable {X:Cx}{a b e:Expr}{es:v_}{ta tb te:TE}{t:TA}{p pos apos cpos:Pos}
theorem Cw {b:List Keyword}{a:Pos}:Ml (.Call f args b a):=λ_ _=>rfl
theorem Vf {a:Pos}:Ml (.Name x a):=λ_ _=>rfl
theorem Ao {a:Pos}:Ml (.Constant (.int i) j a):=λ_ _=>rfl
theorem A3w : Ml (.Subscript a b c):=λ_ _=>rfl
theorem Jr (ha:QE X a ta)(hb:QE X b tb):QE X (.BinOp a .Sub b pos) (tOp (rI0 λi j=>.int (i-j)) ta tb):=⟨Wr B1g ha.1 hb.1⟩
theorem Hu (ha:QE X a ta)(hb:QE X b tb):QE X (.BinOp a .Mult b pos) (tOp (rI CMul λi j=>.int (i*j)) ta tb):=⟨Wr Bx6 ha.1 hb.1⟩
theorem Vi (ha:QE X a ta)(hb:QE X b tb):QE X (.BinOp a .FloorDiv b pos) (tOp (rI Bf2 λi j=>.int (i / j)) ta tb):=⟨Wr Bk2 ha.1 hb.1⟩
theorem Gm (ha:QE X a ta)(hb:QE X b tb):QE X (.BinOp a .Mod b pos) (tOp (rI (λ_ j=>0<j) λi j=>.int (i % j)) ta tb):=⟨Wr Bu4 ha.1 hb.1⟩
theorem Qz (ha:QE X a ta)(hb:QE X b tb):QE X (.BinOp a .Pow b pos) (tOp (rI Bh5 λi j=>.int (i ^ j.toNat)) ta tb):=⟨Wr B2o ha.1 hb.1⟩
def B6m:R2:=λx y H Q=>∃da db,Tr H da x/\Tr H db y/\Flat da/\Flat db/\Q (.bl (PyData.eqv da db)) H
def B6k:R2:=λx y H Q=>∃da db,Tr H da x/\Tr H db y/\Flat da/\Flat db/\Q (.bl (!PyData.eqv da db)) H
theorem Ai4 (ha:QE X a ta)(hb:QE X b tb):QT X (.Compare a [.Lt] [b] pos) (Ld (tOp (rI0 λi j=>.bl (decide (i<j))) ta tb)):=⟨Hr B4y ha.1 hb.1 (K7 _)⟩
theorem Uv (ha:QE X a ta)(hb:QE X b tb):QT X (.Compare a [.Gt] [b] pos) (Ld (tOp (rI0 λi j=>.bl (decide (j<i))) ta tb)):=⟨Hr B5j ha.1 hb.1 (K7 _)⟩
theorem A7t (ha:QE X a ta)(hb:QE X b tb):QE X (.Compare a [.GtE] [b] pos) (tOp (rI0 λi j=>.bl (decide (j<=i))) ta tb):=⟨Ax5 B5z ha.1 hb.1 (K7 _)⟩
theorem Qh (ha:QE X a ta)(hb:QE X b tb):QT X (.Compare a [.Is] [b] pos) (Ld (tOp (λx y H Q=>y=.non/\Q (.bl (decide (x=.non))) H) ta tb)):=⟨Hr B1l ha.1 hb.1 (K7 _)⟩
theorem Ar6 (ha:QE X a ta)(hb:QE X b tb):QT X (.Compare a [.IsNot] [b] pos) (Ld (tOp (λx y H Q=>y=.non/\Q (.bl (!decide (x=.non))) H) ta tb)):=⟨Hr Be1 ha.1 hb.1 (K7 _)⟩
def Rp (K:v9):m7->Hp->VK->Prop:=λxs H Q=>∃x n,xs=[x]/\A2t H x=some n/\Q (.int (n:Nat)) H
def Ap5 (K:v9):m7->Hp->VK->Prop:=λxs H Q=>∃x n,xs=[x]/\B6f K x H n/\Q (.int n) H
def Nh (K:v9):m7->Hp->VK->Prop:=λxs H Q=>∃i,xs=[.int i]/\Q (.int (if i<0 then -i else i)) H
theorem Ag3 (hgl:Gl X "abs") (hm:X.mg "abs" = none) (ha:PA X (e::es) t) (hns:noStar (e::es)=true:=by rfl):PE X (.Call (.Name "abs" p) (e::es) [] pos) (tCB (Nh X.K) t):=Gx A4q hgl hm B3h ha (by decide) (by rfl) hns
def Ni (K:v9):m7->Hp->VK->Prop:=λxs H Q=>∃x T t b,xs=[x,.ty T]/\Rc H x=some t/\Eo t T=some b/\Q (.bl b) H
theorem Ad3 (hgl:Gl X "isinstance") (hm:X.mg "isinstance" = none) (ha:PA X (e::es) t) (hns:noStar (e::es)=true:=by rfl):PE X (.Call (.Name "isinstance" p) (e::es) [] pos) (tCB (Ni X.K) t):=Gx A9b hgl hm M8 ha (by decide) (by rfl) hns
def Li (K:v9):m7->Hp->VK->Prop:=λxs H Q=>∃(a:Addr) (bs:List Bool),xs=[.ref a]/\SqL K H a (bs.map V.bl)/\Q (.bl (bs.all id)) H
theorem Y4 (hc:X.calm=true)(hgl:Gl X "all") (hm:X.mg "all" = none) (ha:PA X (e::es) t) (hns:noStar (e::es)=true:=by rfl):PE X (.Call (.Name "all" p) (e::es) [] pos) (tCB (Li X.K) t):=Gx (A2u hc) hgl hm B0n ha (by decide) (by rfl) hns
def Lz (K:v9):m7->Hp->VK->Prop:=λxs H Q=>(∃i,xs=[.int i]/\Q (.int i) H)\/∃k,xs=[.bl k]/\Q (.int (if k then 1 else 0)) H
theorem X8 (hgl:Gl X "int") (hm:X.mg "int" = none) (ha:PA X (e::es) t) (hns:noStar (e::es)=true:=by rfl):PE X (.Call (.Name "int" p) (e::es) [] pos) (tCB (Lz X.K) t):=Ku A2g hgl hm A9u ha (by decide) (by rfl) hns
def Ue (K:v9):m7->Hp->VK->Prop:=λxs H Q=>∃i:Int,xs=[.int i]/\i.natAbs.log2<1920/\Q (.str (toString i)) H
def Af0 (K:v9):m7->Hp->VK->Prop:=λxs H Q=>∃a d,xs=[.ref a]/\Tr H d (.ref a)/\d.showable=true/\d.hasDict=false/\d.depth<=40/\d.shown.length<=sizeLine/\Q (.str d.shown) H
def Hi (K:v9):m7->Hp->VK->Prop:=λxs H Q=>∃p ys,xs=[.ref p]/\((SqL K H p ys/\∀l,H l=none->Q (.ref l) (upd H l (.tup ys)))\/(SqT K H p ys/\Q (.ref p) H))
theorem Qu (hgl:Gl X "tuple") (hm:X.mg "tuple" = none) (ha:PA X (e::es) t) (hns:noStar (e::es)=true:=by rfl):PE X (.Call (.Name "tuple" p) (e::es) [] pos) (tCB (Hi X.K) t):=Ku V1 hgl hm U4 ha (by decide) (by rfl) hns
def Ek (K:v9):m7->Hp->VK->Prop:=λxs H Q=>∃p ys,xs=[.ref p]/\(SqL K H p ys\/SqT K H p ys)/\∀l,H l=none->Q (.ref l) (upd H l (.lst ys))
theorem Ry (hgl:Gl X "list") (hm:X.mg "list" = none) (ha:PA X (e::es) t) (hns:noStar (e::es)=true:=by rfl):PE X (.Call (.Name "list" p) (e::es) [] pos) (tCB (Ek X.K) t):=Ku Yy hgl hm Bl5 ha (by decide) (by rfl) hns
def Lx (K:v9):m7->Hp->VK->Prop:=λxs H Q=>∃i j,xs=[.int i,.int j]/\Q (.int (if j<i then j else i)) H
theorem Y5 (hc:X.calm=true)(hgl:Gl X "min") (hm:X.mg "min" = none) (ha:PA X (e::es) t) (hns:noStar (e::es)=true:=by rfl):PE X (.Call (.Name "min" p) (e::es) [] pos) (tCB (Lx X.K) t):=Gx (A3y hc) hgl hm A7h ha (by decide) (by rfl) hns
theorem A3s (ho:PE X a ta)(hv:PE X e te)(hbase:attributeBase a "append" X.env (eval a X.env)=eval a X.env:=by rfl)
 (hfew:((backTo cpos (starEach [e] X.env)).all (λx=>!x.1)&&(backToKw cpos (keywordEach [] X.env)).all (λx=>x.1.isSome)
  && decide ([e].length+([]:List Keyword).length+(if ([]:List Keyword).isEmpty then 0 else 1)<30))=true:=by rfl)
 (hline:(apos.endLine==cpos.line)=true:=by rfl) (hns:isStar e=false:=by rfl) :
 PE X (.Call (.Attribute a "append" apos) [e] [] cpos) (tBM X.K "list" rAppF ta (Bp te Er)) :=
 Bt3 dY PySem.F.slot_list_append PySem.F.type_list_append Br0 ho (B3e hv Y9 hns) hbase hfew hline (Ga hns) rfl
end
noncomputable def Ru {α:Type} [DecidableEq α] (ks:List α) (k:α):Bool:=ks.any λx=>decide (x=k)
theorem memB_snoc [DecidableEq b] {ks:List b}{k a:b}:Ru (ks++[k]) a=(Ru ks a||decide (a=k)):=by
 unfold Ru
 grind
def Ag0 {α:Type}[DecidableEq α](acc:List α)(x:α):List α:=if Ru acc x=true then acc else acc++[x]
def dst {α:Type}[DecidableEq α](xs:List α):List α:=xs.foldl Ag0 []
theorem Ad5 [DecidableEq a] (xs:List a) (x:a):dst (xs++[x])=Ag0 (dst xs) x:=by
 unfold dst;grind
theorem Aw5 {α:Type}[DecidableEq α]:∀(n:Nat) (xs:List α),xs.length=n->(dst xs).length<=n
 | 0,xs,h=>by cases xs with | nil=>exact au _ | cons a r=>cases h
 | n+1,xs,h=>by
  rcases List.eq_nil_or_concat xs with rfl | ⟨ys,y,rfl⟩
  ·cases h
  ·rw[List.concat_eq_append]at h ⊢
   have hy:ys.length=n:=by simpa using h
   have ih:=Aw5 n ys hy;rw[Ad5];unfold Ag0;split
   ·lia
   ·simp;lia
def An7 (P:u9)(w:World)(a:Addr)(ks:List Key)(h:Heap):Prop:=h.SetOf (Dg P w) a (Ru ks) ks.length
theorem Xl (hs:An7 P w a ks h) (k:∀o,h.get? a=some o->h'.get? a=some o):An7 P w a ks h':=by
 obtain⟨o,c,d,t,e,b⟩:=hs;exact⟨o,c,d,t,k o e,b⟩
theorem A3v
 (x:h.SetOf (Dg P w) a (λb=>Ru ks b||decide (b=k)) (if Ru ks k then ks.length else ks.length+1)):An7 P w a (Ag0 ks k) h:=by
 unfold An7 Ag0
 by_cases hk:Ru ks k=true
 ·have e:(λb=>Ru ks b||decide (b=k))=Ru ks:=by
   grind
  simp_all
 ·have e:(λb=>Ru ks b||decide (b=k))=Ru (ks++[k]):=by
   funext b
   exact memB_snoc.symm
  simp_all
section
variable {P:u9}{w:World}{A:q9}
theorem fill (W:WalksS P w A.in1 J fp h j n Pv E) (p:S∉fp)
 (ks:List Key) (g:ks.length=n) (is:∀i v,Pv i v->∃k,ks[i]?=some k/\Uw k v=true/\v.scannable=true) (Q:n+1<scanBound) (z:t6)
 (G:∀s,Moved (S::h) j z s->An7 P w S (dst ks) s.heap->R (.ok (.ret .none)) s) :
 ∀(m i:Nat) (s:t6),i+m=n->E i s->Moved (S::h) j z s->An7 P w S (dst (ks.take i)) s.heap->codeAny (model P w) A (.builtin "set.update.loop" ⟨[.ref S,.ref J],[]⟩) R s:=by
 have c:S∉h:=λq=>p (W.sub S q)
 have f:∀b,b∈h->b∈S::h:=λb q=>.tail _ q
 intro m
 induction m with
 | zero =>
  intro i s e K D r;have e:i=n:=e;subst e;apply cR jO;rw[cZ jm _];apply aj (m:=pyNext (.ref J));apply W.done s _ _ K;intro d a;apply ak
  refine G d (Moved.trans W.gtrans D (a.mono f)) ?_
  have t:ks.take i=ks:=by rw[<- g];exact gK
  rw[t]at r
  exact Xl r λo q=>a.heap S o c q
 | succ m ih =>
  intro i s e K D r
  have V:i<n:=by lia
  apply cR jO;rw[cZ jm _];apply aj (m:=pyNext (.ref J));apply W.item i s _ _ V K;intro v d Z F a;obtain⟨k,U,O,X⟩:=is i v Z;have H:Moved (S::h) j z d:=Moved.trans W.gtrans D (a.mono f)
  show wpAny _ A.in1 (holding [v] (setAdd S v) >>= _) _ _ d
  apply aj;apply bA;unfold setAdd;apply bA;apply aj
  refine (Dg P w).pyHash (k:=k) O ?_
  have l:(dst (ks.take i)).length+1<scanBound:=by
   have:=Aw5 _ (ks.take i) rfl
   have:(ks.take i).length<=n:=by rw[<- g];exact List.length_take_le' _ _
   lia
  have tk:ks.take (i+1)=ks.take i++[k]:=by rw[List.take_add_one,U];rfl
  have T:∀(B:Nat),d.toks<=B->wpAny (model P w) A.in1 (setAddHashed S v ((Dg P w).hash k)) (λ_ u=>Moved (S::h) j z u/\An7 P w S (dst (ks.take (i+1))) u.heap/\E (i+1) u) (λ_ _=>False) { d with toks:=B }:=by
   intro B N
   refine wpAny_setAddHashed_of (knd:=Dg P w) (s:={ d with toks:=B }) O X (Xl r λo q=>a.heap S o c q) l λY M so=>?_
   refine⟨Moved.then_heap H N λb o q x=>?_,?_,W.frame (i+1) d Y _ F N λb q o x=>?_⟩
   ·rw[M.2 b λy=>q (y▸.head _)];exact x
   ·rw[tk,Ad5];exact A3v so
   ·rw[M.2 b λy=>p (y▸q)];exact x
  refine aH (T _ (dC _)) (λb u y=>?_) λ_ _ q=>q.elim
  obtain⟨I,L,C⟩:=y
  exact ak ⟨dg jm _,ih _ _ (by lia) C I L⟩
noncomputable abbrev bare (led:Bool):Obj:={ cls:=.type "set",dict:=none,data:=.set #[] 0 (.fresh 0 0 led) }
end
section
variable {P:u9}{w:World}{A:q9}{E:z_}{s:t6}
theorem Rj (a:s.heap.IsTupleIter j u k)
 (body:wpAny (model P w) A.in1 (Builtin.«tuple_iterator.__next__» ⟨[.ref j],[]⟩) (λf z=>∃v,f=.done (.ret v)/\Q v z) E s) :
 wpAny (model P w) A (Builtin.SmallTypes.nextOf (.ref j)) Q E s:=by
 apply aj
 refine cM a.typeIs F.slot_tuple_iterator_next ?_
 refine bO F.slot_tuple_iterator_next a.typeIs F.entry_tuple_iterator_next ?_ (F.args_tuple_iterator_next_1 _)
 refine aH body (λf z c=>?_) λ_ _ q=>q
 obtain⟨v,b,q⟩:=c;exact⟨v,b,ak q⟩
theorem Al7 (c:s.heap.IsTupleIter j u k) (g:s.heap.IsTuple u vs) (hx:vs[k]?=some x)
 (q:∀h',h'.IsTupleIter j u (k+1)->Heap.SameBut j s.heap h'->Q x { s with heap:=h' }):wpAny (model P w) A (Builtin.SmallTypes.nextOf (.ref j)) Q E s:=by
 refine Rj c ?_
 obtain⟨o,d,f,b⟩:=c;obtain⟨i,h,_,n,e⟩:=g;apply aj (m:=field _ 0);apply aW d b rfl;apply aj ;apply aW d b rfl;apply aj ;apply cJ h e;simp only[hx,gM];apply aj
 apply gO d b (by simp)
 apply ak
 refine⟨x,rfl,q _ ⟨_,(bU (Obj.mapFields λa=>a.setIfInBounds 1 (rawInt (k+1))) d (eZ (dD b _))),(iH ..).trans f,?_⟩ (bN ..)⟩
 rw[dD b]
 trivial
theorem A2f (c:A.handled=none) (d:s.heap.IsTupleIter j u k) (h:s.heap.IsTuple u vs) (hx:vs[k]?=none)
 (q:∀h' e,Heap.ExtBut j s.heap h'->(∃o,h'.get? e=some o/\o.cls=.type "StopIteration")->E (.ref e) { s with heap:=h' }):wpAny (model P w) A (Builtin.SmallTypes.nextOf (.ref j)) Q E s:=by
 refine Rj d ?_
 obtain⟨o,f,r,g⟩:=d;obtain⟨t,i,_,n,l⟩:=h;apply aj (m:=field (.ref j) 0);apply aW f g (x:=.ref u) rfl;have p:¬ ((Value.ref u==Value.none)=true):=bL
 show wpAny _ _ (if (Value.ref u==.none)=true then _ else _) _ _ _
 rw[if_neg p];apply aj (m:=field (.ref j) 1);apply aW f g (x:=.int k 0) rfl;apply aj (m:=seqItems? (.ref u));apply cJ i l;simp only[hx,gM];apply aj;apply cP;apply aj
 apply gO f g (by simp)
 apply aj (m:=newExc (.type "StopIteration") []);unfold newExc newTuple;apply aj
 refine c7 ?_ (by size_fits )
 apply aj (m:=firstArgMember _ _)
 refine wpAny_of_eq (a:=Value.none) (by simp only[firstArgMember];rfl) ?_
 refine c7 ?_ (by size_fits )
 unfold raiseNew;apply aj;apply wpAny_handled;have b:A.in1.handled=none:=c;rw[b]
 refine aj (ak ?_)
 apply wpAny_throw;exact q _ _ (((bN ..).extBut.push _).push _) ⟨_,aG _ rfl,rfl⟩
def ItAt (t:Bool)(h:Heap)(j u:Addr)(k:Nat):Prop:=match t with
 | true=>h.IsTupleIter j u k
 | false=>h.IsListIter j u k
def SqA (t:Bool)(h:Heap)(u:Addr)(vs:v7):Prop:=match t with
 | true=>h.IsTuple u vs
 | false=>h.IsList u vs
theorem ItAt.stay (x:ItAt t h j u k) (q:∀o,h.get? j=some o->h'.get? j=some o):ItAt t h' j u k:=by
 cases t <;> (obtain⟨o,e,r⟩:=x;exact⟨o,q o e,r⟩)
theorem ItAt.obj (x:ItAt t h j u k):∃o,h.get? j=some o/\o.data=.fields #[.ref u,.int k 0]:=by
 cases t <;> (obtain⟨o,e,_,r⟩:=x;grind)
theorem SqA.stay (x:SqA t h u vs) (q:∀o,h.get? u=some o->h'.get? u=some o):SqA t h' u vs:=by
 cases t <;> (obtain⟨o,e,r⟩:=x;exact⟨o,q o e,r⟩)
theorem next_item (a:ItAt t s.heap j u k) (b:SqA t s.heap u vs) (hx:vs[k]?=some x)
 (q:∀h',ItAt t h' j u (k+1)->Heap.SameBut j s.heap h'->Q x { s with heap:=h' }):wpAny (model P w) A (Builtin.SmallTypes.nextOf (.ref j)) Q E s:=by
 cases t
 ·exact wpAny_nextOf_list_item a b hx q
 ·exact Al7 a b hx q
theorem next_end (c:A.handled=none) (a:ItAt t s.heap j u k) (b:SqA t s.heap u vs) (hx:vs[k]?=none)
 (q:∀h' e,Heap.ExtBut j s.heap h'->(∃o,h'.get? e=some o/\o.cls=.type "StopIteration")->E (.ref e) { s with heap:=h' }):wpAny (model P w) A (Builtin.SmallTypes.nextOf (.ref j)) Q E s:=by
 cases t
 ·exact wpAny_nextOf_list_end c a b hx q
 ·exact A2f c a b hx q
structure ZipAt (h:Heap) (t1 t2:Bool) (z ti to i1 i2 a b:Addr) (f0:Value) (k:Nat):Prop where
 zip:IsZip h z ti to f0
 ins:IsPair h ti (.ref i1) (.ref i2)
 outs:∃u v,IsPair h to u v
 one:ItAt t1 h i1 a k
 two:ItAt t2 h i2 b k
structure zA (z ti to i1 i2 a b:Addr):Prop where
 nd:[z,ti,to,i1,i2].Nodup
 na:a∉[z,ti,to,i1,i2]
 nb:b∉[z,ti,to,i1,i2]
theorem zA.z_ti (x:zA z ti to i1 i2 a b):ti≠z:=by have:=x.nd;grind
theorem zA.z_to (x:zA z ti to i1 i2 a b):to≠z:=by have:=x.nd;grind
theorem zA.z_i1 (x:zA z ti to i1 i2 a b):i1≠z:=by have:=x.nd;grind
theorem zA.z_i2 (x:zA z ti to i1 i2 a b):i2≠z:=by have:=x.nd;grind
theorem zA.to_i1 (x:zA z ti to i1 i2 a b):to≠i1:=by have:=x.nd;simp_all
theorem zA.to_i2 (x:zA z ti to i1 i2 a b):to≠i2:=by have:=x.nd;simp_all
theorem zA.i1_i2 (x:zA z ti to i1 i2 a b):i1≠i2:=by have:=x.nd;simp_all
theorem zA.ti_to (x:zA z ti to i1 i2 a b):ti≠to:=by have:=x.nd;simp_all
theorem zA.ti_i1 (x:zA z ti to i1 i2 a b):ti≠i1:=by have:=x.nd;simp_all
theorem zA.ti_i2 (x:zA z ti to i1 i2 a b):ti≠i2:=by have:=x.nd;simp_all
theorem Bb9 {Q:z_}(d:zA z j h r t a b) (y:ZipAt s.heap t1 t2 z j h r t a b .none k)
 (ha:SqA t1 s.heap a xs) (hb:SqA t2 s.heap b ys) (hx:xs[k]?=some x) (O:ys[k]?=some x')
 (q:∀h',ZipAt h' t1 t2 z j h r t a b (rawInt s.heap.objs.size) (k+1)->IsPair h' s.heap.objs.size x x'->(∀c o,c∉[z,j,h,r,t]->s.heap.get? c=some o->h'.get? c=some o)->Q (.ref s.heap.objs.size) { s with heap:=h' }) :
 wpAny (model P w) A (Builtin.«zip.__next__» ⟨[.ref z],[]⟩) (λf z=>∃v,f=.done (.ret v)/\Q v z) E s:=by
 obtain⟨u0,N,o0⟩:=y.outs;have S:=d.na;have I:=d.nb;simp only[aD,bI,bJ,not_or]at S I;apply aj (m:=field (.ref z) 2);apply aW y.zip rfl (x:=.bool false) rfl;apply aj (m:=field (.ref z) 3);apply aW y.zip rfl (x:=.ref j) rfl;apply aj;apply cJ y.ins rfl;apply aj (m:=Builtin.SmallTypes.ownedTupleIsFree (.ref z));unfold Builtin.SmallTypes.ownedTupleIsFree;apply aj;apply aW y.zip rfl (x:=.none) rfl;apply ak;simp only[cB];apply aj;apply cP;apply aj;apply aW y.zip rfl (x:=.ref h) rfl;apply aj
 apply e_ y.zip (by simp)
 intro g1 L n;have L:IsZip g1 z j h .ellipsis:=L;apply aj;simp only[List.zipIdx_cons,List.zipIdx_nil,eV,gP];apply aj;apply aj;apply iI;apply aj (m:=Builtin.SmallTypes.nextOf (.ref r))
 refine next_item (y.one.stay λo e=>n.extBut _ _ d.z_i1 e) (ha.stay λo e=>n.extBut _ _ S.1 e) hx λg2 n1 u=>?_
 apply ak;have V:IsPair g2 h u0 N:=u.extBut _ _ d.to_i1 (n.extBut _ _ d.z_to o0);apply aj;apply cJ V rfl;apply aj;apply jn V;intro g3 R B;have R:IsPair g3 h x N:=R;apply aj;apply dZ;apply ak;apply aj;apply aj;apply iI;apply aj (m:=Builtin.SmallTypes.nextOf (.ref t))
 refine next_item (y.two.stay λo e=>B.extBut _ _ d.to_i2.symm (u.extBut _ _ d.i1_i2.symm (n.extBut _ _ d.z_i2 e))) (hb.stay λo e=>B.extBut _ _ I.2.2.1 (u.extBut _ _ I.2.2.2.1 (n.extBut _ _ I.1 e))) O λg4 n2 D=>?_
 apply ak;have U:IsPair g4 h x N:=D.extBut _ _ d.to_i2 R;apply aj;apply cJ U rfl;apply aj;apply jn U;intro i K F;have K:IsPair i h x x':=K;apply aj;apply dZ;apply ak;apply ak;apply aj;apply cJ K rfl;apply aj
 refine wpAny_newTuple ?_
 have W:i.objs.size=s.heap.objs.size:=by rw[F.1,D.1,B.1,u.1,n.1]
 have l:∀c o,c≠z->c≠h->c≠r->c≠t->s.heap.get? c=some o->i.get? c=some o:=λc o p1 T p3 p4 e=>F.extBut _ _ T (D.extBut _ _ p4 (B.extBut _ _ T (u.extBut _ _ p3 (n.extBut _ _ p1 e))))
 have Y:IsZip i z j h .ellipsis:=F.extBut _ _ d.z_to.symm (D.extBut _ _ d.z_i2.symm (B.extBut _ _ d.z_to.symm (u.extBut _ _ d.z_i1.symm L)))
 have m1:ItAt t1 i r a (k+1):=n1.stay λo e=>F.extBut _ _ d.to_i1.symm (D.extBut _ _ d.i1_i2 (B.extBut _ _ d.to_i1.symm e))
 have m2:ItAt t2 i t b (k+1):=n2.stay λo e=>F.extBut _ _ d.to_i2.symm e
 apply aj (m:=Builtin.SmallTypes.ownedTupleHandOut (.ref z) (.ref i.objs.size));unfold Builtin.SmallTypes.ownedTupleHandOut;have z6:IsZip (i.push { cls:=.type "tuple",data:=.seq #[x,x'] }) z j h .ellipsis:=aB _ Y;apply aj
 apply e_ z6 (by simp)
 intro g7 M X;have M:IsZip g7 z j h (rawInt i.objs.size):=M
 apply e_ M (by simp)
 intro H J Z;have J:IsZip H z j h (rawInt i.objs.size):=J
 have g:∀c o,c≠z->i.get? c=some o->H.get? c=some o:=λc o p e=>Z.extBut _ _ p (X.extBut _ _ p (aB _ e))
 have G:z<i.objs.size:=aA Y;have C:IsPair H i.objs.size x x':=Z.extBut _ _ (bT G) (X.extBut _ _ (bT G) (aG _ rfl));rw[W]at J C;apply ak
 refine⟨_,rfl,?_⟩
 show Q (.ref i.objs.size) _
 rw[W]
 refine q H ⟨J,g _ _ d.z_ti (l _ _ d.z_ti d.ti_to d.ti_i1 d.ti_i2 y.ins),⟨x,x',g _ _ d.z_to K⟩,m1.stay λo e=>g _ _ d.z_i1 e,m2.stay λo e=>g _ _ d.z_i2 e⟩ C λc o p e=>?_
 simp at p
 exact g c o p.1 (l c o p.1 p.2.2.1 p.2.2.2.1 p.2.2.2.2 e)
theorem A9s (f:A.handled=none) (d:zA z l j v C a b) (y:ZipAt s.heap t1 t2 z l j v C a b .none k)
 (ha:SqA t1 s.heap a xs) (hb:SqA t2 s.heap b ys) (hx:xs[k]?=none\/ys[k]?=none)
 (q:∀h' e,(∀c o,c∉[z,l,j,v,C]->s.heap.get? c=some o->h'.get? c=some o)->(∃o,h'.get? e=some o/\o.cls=.type "StopIteration")->E (.ref e) { s with heap:=h' }) :
 wpAny (model P w) A (Builtin.«zip.__next__» ⟨[.ref z],[]⟩) F E s:=by
 obtain⟨T,V,S⟩:=y.outs;have I:=d.na;have B:=d.nb;simp only[aD,bI,bJ,not_or]at I B;apply aj (m:=field (.ref z) 2);apply aW y.zip rfl (x:=.bool false) rfl;apply aj (m:=field (.ref z) 3);apply aW y.zip rfl (x:=.ref l) rfl;apply aj;apply cJ y.ins rfl;apply aj (m:=Builtin.SmallTypes.ownedTupleIsFree (.ref z));unfold Builtin.SmallTypes.ownedTupleIsFree;apply aj;apply aW y.zip rfl (x:=.none) rfl;apply ak;simp only[cB];apply aj;apply cP;apply aj;apply aW y.zip rfl (x:=.ref j) rfl;apply aj
 apply e_ y.zip (by simp)
 intro U u g;have u:IsZip U z l j .ellipsis:=u;apply aj;simp only[List.zipIdx_cons,List.zipIdx_nil,eV,gP];apply aj;apply aj;apply iI;apply aj (m:=Builtin.SmallTypes.nextOf (.ref v))
 cases e1:xs[k]? with
 | none =>
  refine next_end f (y.one.stay λo e=>g.extBut _ _ d.z_i1 e) (ha.stay λo e=>g.extBut _ _ I.1 e) e1 λH x i K=>?_
  obtain⟨D,r,t⟩:=K;have Q:IsZip H z l j .ellipsis:=i _ _ d.z_i1.symm u
  have G:x≠z:=λe=>by subst e;rw[Q]at r;cases r;simp at t
  apply e_ Q (by simp)
  intro N _ n
  refine q N x (λc o p e=>?_) ⟨D,n.extBut _ _ G r,t⟩
  simp only[aD,bI,bJ,not_or]at p;exact n.extBut _ _ p.1 (i _ _ p.2.2.2.1 (g.extBut _ _ p.1 e))
 | some x =>
  have Y:ys[k]?=none:=by
   rcases hx with h | h
   ·rw[e1]at h;cases h
   ·exact h
  refine next_item (y.one.stay λo e=>g.extBut _ _ d.z_i1 e) (ha.stay λo e=>g.extBut _ _ I.1 e) e1 λH n1 i=>?_
  apply ak;have O:IsPair H j T V:=i.extBut _ _ d.to_i1 (g.extBut _ _ d.z_to S);apply aj;apply cJ O rfl;apply aj;apply jn O;intro N Z n;apply aj;apply dZ;apply ak;apply aj;apply aj;apply iI;apply aj (m:=Builtin.SmallTypes.nextOf (.ref C))
  refine next_end f (y.two.stay λo e=>n.extBut _ _ d.to_i2.symm (i.extBut _ _ d.i1_i2.symm (g.extBut _ _ d.z_i2 e))) (hb.stay λo e=>n.extBut _ _ B.2.2.1 (i.extBut _ _ B.2.2.2.1 (g.extBut _ _ B.1 e))) Y λW x M J=>?_
  obtain⟨D,r,t⟩:=J;have R:IsZip W z l j .ellipsis:=M _ _ d.z_i2.symm (n.extBut _ _ d.z_to.symm (i.extBut _ _ d.z_i1.symm u))
  have G:x≠z:=λe=>by subst e;rw[R]at r;cases r;simp at t
  apply e_ R (by simp)
  intro X _ L
  refine q X x (λc o p e=>?_) ⟨D,L.extBut _ _ G r,t⟩
  simp only[aD,bI,bJ,not_or]at p;exact L.extBut _ _ p.1 (M _ _ p.2.2.2.2 (n.extBut _ _ p.2.2.1 (i.extBut _ _ p.2.2.2.1 (g.extBut _ _ p.1 e))))
end
section
variable {X:Cx}{pins:y_}{σ:St}{H:Hp}{s:t6}{h':Heap}
theorem Inv.turnLay {ch:v6}{p:Addr}{o:HO}{t':Nat}(I:Inv X pins σ H s)(hf:∀b∈ch,Ij X pins H b)(k:∀b u,b∉ch->s.heap.get? b=some u->h'.get? b=some u)(hp:s.heap.objs.size<=p)(w:z9 X.prog X.w (upd H p o) h' p o) :
 Inv X pins σ (upd H p o) { s with heap:=h',toks:=t' }:=by
 have g:H p=none:=I.hok.fresh hp
 have t:∀b u,H b=some u->b∉ch:=λb u e z=>by rw[(hf b z).1]at e;grind
 have d:∀b u,H b=some u->b≠p:=λb u e=>Ba e g
 have h:∀b u,s.heap.get? b=some u->b≠p:=λb u e z=>absurd (aA e) (by simp_all)
 refine I.step (g':=s.gens) (d':=s.drawn) (ch:=ch) (λb f=>?_) (λb u _ _ a e _=>k b u a e) (λb u _ _ a e _=>⟨u.slots,k b u a e⟩) (λb u _ e n=>?_) (λb u a e=>⟨u,k b u a e⟩)
  (λb i e=>?_) (λb o u e=>?_) (λb B e=>?_) (λm x=>?_) (λb u e=>?_) I.bare
 ·obtain⟨F,G,J,C,D,E⟩:=hf b f
  grind
 ·rw[Af (h b u e)];grind
 ·rw[Af (d b _ e)];grind
 ·rw[Af (d b _ e)];lia
 ·rw[Af (d b _ e)];grind
 ·obtain⟨j,y,A,l,r⟩:=x
  exact⟨j,y,A,k _ _ (λz=>(hf _ z).2.1 rfl) l,r⟩
 ·by_cases f:b=p
  ·subst f;rw[Am]at e;grind
  ·rw[Af f]at e
   refine (I.hok b u e).stay (λc v a q=>k c v ?_ q) λc q=>by rw[Af (d c _ q)];grind λc i q=>by rw[Af (d c _ q)];grind λc j i q=>by rw[Af (d c _ q)];grind
   grind
theorem Inv.turnL {ch:v6}{t':Nat}(I:Inv X pins σ H s)(hf:∀b∈ch,Ij X pins H b)(k:∀b u,b∉ch->s.heap.get? b=some u->h'.get? b=some u):Inv X pins σ H { s with heap:=h',toks:=t' }:=by
 have g:∀b u,H b=some u->b∉ch:=λb u e z=>by rw[(hf b z).1]at e;grind
 refine I.step (λb f=>?_) (λb u _ _ a e _=>k b u a e) (λb u _ _ a e _=>⟨u.slots,k b u a e⟩) (λb u _ e n=>n) (λb u a e=>⟨u,k b u a e⟩)
  (λb i e=>e) (λb o u e=>e) (λb t e=>e) (λm j=>?_) (λb u e=>?_) I.bare
 ·obtain⟨A,B,C,w,x,y⟩:=hf b f
  grind
 ·obtain⟨h,l,p,d,r⟩:=j
  exact⟨h,l,p,k _ _ (λz=>(hf _ z).2.1 rfl) d,r⟩
 ·refine (I.hok b u e).stay (λc v a q=>k c v ?_ q) (λc q=>q) λc i q=>q
  grind
end
def SqK (t:Bool)(H:Hp)(a:Addr)(xs:m7):Prop:=match t with
 | true=>H a=some (.tup xs)
 | false=>H a=some (.lst xs)
theorem SqK.one (x:SqK t H a xs) (y:SqK t H a ys):xs=ys:=by
 cases t
 ·have y:H a=some _:=y
  rw[x]at y;cases y;rfl
 ·have y:H a=some _:=y
  rw[x]at y;cases y;rfl
theorem SqK.some (x:SqK t H a xs):∃o,H a=some o:=by
 cases t
 ·exact⟨_,x⟩
 ·exact⟨_,x⟩
theorem SqK.its (I:Inv X pins d H s) (x:SqK t H a xs):∃b:w6,Vals xs b/\SqA t s.heap a b.toArray:=by
 cases t
 ·obtain⟨b,c,p,_⟩:=I.list (SqL.of x)
  exact⟨b,c,p.isList⟩
 ·obtain⟨b,c,p,_⟩:=I.tuple (SqT.of x)
  exact⟨b,c,(show s.heap.IsTuple a _ from p)⟩
section
variable {P:u9}{w:World}{A:q9}{E:z_}{s:t6}
noncomputable abbrev itO (t:Bool) (u:Addr):Obj:={ cls:=.type (if t then "tuple_iterator" else "list_iterator"),data:=.fields #[.ref u,.int 0 0] }
abbrev zh1 (h:Heap)(t1:Bool)(a:Addr):Heap:=h.push (itO t1 a)
abbrev zh2 (h:Heap)(t1 t2:Bool)(a b:Addr):Heap:=(zh1 h t1 a).push (itO t2 b)
abbrev zh3 (h:Heap)(t1 t2:Bool)(a b:Addr):Heap:=(zh2 h t1 t2 a b).push { cls:=.type "tuple",data:=.seq #[.ref h.objs.size,.ref (zh1 h t1 a).objs.size] }
abbrev zh4 (h:Heap)(t1 t2:Bool)(a b:Addr):Heap:=(zh3 h t1 t2 a b).push { cls:=.type "tuple",data:=.seq #[.none,.none] }
abbrev zh5 (h:Heap)(t1 t2:Bool)(a b:Addr):Heap:=(zh4 h t1 t2 a b).push { cls:=.type "zip",data:=.fields #[.none,.bool false,.bool false,.ref (zh2 h t1 t2 a b).objs.size,.ref (zh3 h t1 t2 a b).objs.size] }
theorem A5n (t1 t2:Bool)(a b:Addr)(xs ys:v7) :
 Meets (Builtin.«zip.__new__» ⟨[.type "zip",.ref a,.ref b],[]⟩) (λ_ R s=>SqA t1 s.heap a xs/\SqA t2 s.heap b ys/\R (.ok (.ret (.ref (zh4 s.heap t1 t2 a b).objs.size))) { s with heap:=zh5 s.heap t1 t2 a b }) :=
 .of_wp λP w A R s h=>by
  obtain⟨e,g,d,c,f⟩:=s;obtain⟨k,l,h⟩:=h;have m:=sub_zip
  cases t1 <;> cases t2
  ·have j:Heap.IsList (Shared.heap ⟨e,g,d,c,f⟩) a xs:=k
   have i:Heap.IsList (Shared.heap ⟨e.push { cls:=.type "list_iterator",data:=.fields #[.ref a,.int 0 0] },g,d,c,f⟩) b ys:=Heap.IsList.push l _
   wp_walk using eY j,eY i
   exact⟨_,rfl,h⟩
  ·have j:Heap.IsList (Shared.heap ⟨e,g,d,c,f⟩) a xs:=k
   have i:Heap.IsTuple (Shared.heap ⟨e.push { cls:=.type "list_iterator",data:=.fields #[.ref a,.int 0 0] },g,d,c,f⟩) b ys:=Heap.IsTuple.push l _
   wp_walk using eY j,dX i
   exact⟨_,rfl,h⟩
  ·have j:Heap.IsTuple (Shared.heap ⟨e,g,d,c,f⟩) a xs:=k
   have i:Heap.IsList (Shared.heap ⟨e.push { cls:=.type "tuple_iterator",data:=.fields #[.ref a,.int 0 0] },g,d,c,f⟩) b ys:=Heap.IsList.push l _
   wp_walk using dX j,eY i
   exact⟨_,rfl,h⟩
  ·have j:Heap.IsTuple (Shared.heap ⟨e,g,d,c,f⟩) a xs:=k
   have i:Heap.IsTuple (Shared.heap ⟨e.push { cls:=.type "tuple_iterator",data:=.fields #[.ref a,.int 0 0] },g,d,c,f⟩) b ys:=Heap.IsTuple.push l _
   wp_walk using dX j,dX i
   exact⟨_,rfl,h⟩
theorem Aj2 (e:h.get? j=some (itO t u)):ItAt t h j u 0:=by
 cases t
 ·exact⟨_,e,rfl,rfl⟩
 ·exact⟨_,e,rfl,rfl⟩
theorem Ar8 (t:SqA t1 s.heap a xs) (u:SqA t2 s.heap b ys)
 (q:∀h',ZipAt h' t1 t2 (s.heap.objs.size+4) (s.heap.objs.size+2) (s.heap.objs.size+3) s.heap.objs.size (s.heap.objs.size+1) a b .none 0->(∀c o,s.heap.get? c=some o->h'.get? c=some o)->Q (.ref (s.heap.objs.size+4)) { s with heap:=h' }) :
 wpAny (model P w) A (call (.type "zip") [.ref a,.ref b]) Q E s:=by
 apply callType_new F.called_zip (by decide) (F.typeCall_zip_2 _ _) (F.newCall_zip_2 _ _) (λo=>F.args_object_init_3 o _ _) F.entry_zip_new (A5n t1 t2 a b xs ys)
 refine⟨t,u,?_⟩
 have i:(zh1 s.heap t1 a).objs.size=s.heap.objs.size+1:=bW ..
 have g:(zh2 s.heap t1 t2 a b).objs.size=s.heap.objs.size+2:=by rw[bW,i]
 have f:(zh3 s.heap t1 t2 a b).objs.size=s.heap.objs.size+3:=by rw[bW,g]
 have k:(zh4 s.heap t1 t2 a b).objs.size=s.heap.objs.size+4:=by rw[bW,f]
 have d:=λ{h:Heap} {c:Addr} {o:Obj} (n:Obj) (e:h.get? c=some o)=>aB n e
 have j:(zh5 s.heap t1 t2 a b).get? (zh4 s.heap t1 t2 a b).objs.size=some _:=aG _ rfl;have m:(zh5 s.heap t1 t2 a b).get? (zh3 s.heap t1 t2 a b).objs.size=some _:=d _ (aG _ rfl);have l:(zh5 s.heap t1 t2 a b).get? (zh2 s.heap t1 t2 a b).objs.size=some _:=d _ (d _ (aG _ rfl));have p:(zh5 s.heap t1 t2 a b).get? (zh1 s.heap t1 a).objs.size=some _:=d _ (d _ (d _ (aG _ rfl)));have r:(zh5 s.heap t1 t2 a b).get? s.heap.objs.size=some _:=d _ (d _ (d _ (d _ (aG _ rfl))));rw[g,f,k]at j;rw[i,g]at l;rw[f]at m;rw[i]at p;rw[k]
 exact⟨⟨_,j,rfl⟩,q _ ⟨j,l,⟨_,_,m⟩,Aj2 r,Aj2 p⟩ λc o e=>d _ (d _ (d _ (d _ (d _ e))))⟩
end
theorem A2w:bootBuiltins "zip" = some (.type "zip"):=by decide +kernel
def Bt2:R2:=λx y H Q=>∃a b xs ys,x=.ref a/\y=.ref b/\H a=some (.tup xs)/\H b=some (.tup ys)/\xs.length+ys.length<=sizeLine/\∀p H',Same H H'->H' p=some (.tup (xs++ys))->Q (.ref p) H'
section
variable {X:Cx}
theorem Bd (h:H p=none) (o:HO):Same H (upd H p o):=λb u e=>by rw[Af (Ba e h)];grind
theorem Bg2:OpR X (binaryOp .Add) Bt2:=by
 intro d s σ H x y v u Q I i f h;obtain⟨a,b,g,E,rfl,rfl,j,c,n,q⟩:=h
 by_cases e:g=[]
 ·cases i
  cases f
  subst e;obtain⟨o,r,t,_⟩:=I.tuple (SqT.of j);obtain⟨w,r2,A,_⟩:=I.tuple (SqT.of c);have C := r.nil_iff.mpr rfl;subst C;obtain⟨⟨c1,d1,D,s1⟩,k,F,n1,z⟩:=id t;obtain⟨⟨c2,d2,B,s2⟩,l,J,n2,G⟩:=id A;subst F z J G
  exact concat_meets ⟨_,k,rfl⟩ ⟨_,l,rfl⟩ jb seq_tuple_add jc jd (je _ _)
   (tuple_addW0 a b _ _ _ _ _ _ _ _ (by simp)) ⟨k,l,⟨.ref b,H,I,rfl,q b H (λ_ _ e=>e) c⟩⟩
 ·refine Bq9 _ s _ H _ _ v u Q I i f ⟨a,b,g,E,rfl,rfl,SqT.of j,SqT.of c,e,n,λK=>?_,λK p m=>?_⟩
  ·exact q a H (λ_ _ e=>e) (by simp_all)
  ·exact q p _ (Bd m _) Am
end
section
variable {P:u9}{w:World}{A:q9}{E:z_}{s:t6}
theorem Bu5 (quiet:A.handled=none)(t:Bool)(j u:Addr)(ne:u≠j)(vs:v7):Draws P w A j [j,u] vs.size (λi v=>vs[i]?=some v) (λi h=>ItAt t h j u i/\SqA t h u vs) where
 live:=λi h x=>let ⟨o,e,_⟩:=x.1.obj; ⟨o,e⟩
 frame:=λi h h' x k=>⟨x.1.stay λo e=>k j (by simp) o e,x.2.stay λo e=>k u (by simp) o e⟩
 item:=λi s Q E hi x q=>next_item x.1 x.2 (x:=vs[i]) (by simp[hi]) λh' a b=>q _ h' s.toks (by simp[hi]) ⟨a,x.2.stay λo e=>b.extBut _ _ ne e⟩ b
 done:=λs Q E x q=>next_end quiet x.1 x.2 (by simp) q
theorem Ao5 (u:Addr)(vs:v7)(n:Nat)(b:Option Addr)(l:Array (u_)) :
 Meets (Builtin.«enumerate.__new__» ⟨[.type "enumerate",.ref u],[]⟩) (λ_ R s=>s.heap.get? u=some { cls:=.type "tuple",dict:=b,data:=.seq vs n,slots:=l } /\
  R (.ok (.ret (.ref (s.heap.push (itO true u)).objs.size))) { s with heap:=(s.heap.push (itO true u)).push { cls:=.type "enumerate",data:=.fields #[.none,.bool false,.ref s.heap.objs.size,rawInt 0,.none,.none] } }) :=
 .of_wp λP w A R s h=>by
  obtain⟨i,g,d,f,k⟩:=s;obtain⟨e,h⟩:=h;have j:=sub_enumerate;have a:Heap.IsTuple (Shared.heap ⟨i,g,d,f,k⟩) u vs:=⟨_,e,rfl,n,rfl⟩
  wp_walk using iJ e
  refine wpAny_stack_any λm=>ak ?_
  split
  ·rename_i c _ _ _ _ _
   cases (c==Value.type "enumerate")
   ·wp_walk using iJ e,dX a
    exact⟨_,rfl,h⟩
   ·wp_walk using iJ e,dX a
    exact⟨_,rfl,h⟩
  ·wp_walk using iJ e,dX a
   exact⟨_,rfl,h⟩
theorem Ab2 (p:SqA t s.heap u vs)
 (q:∀f,IsEnum f (s.heap.objs.size+1) s.heap.objs.size 0 .none->ItAt t f s.heap.objs.size u 0->(∀c o,s.heap.get? c=some o->f.get? c=some o)->Q (.ref (s.heap.objs.size+1)) { s with heap:=f }) :
 wpAny (model P w) A (call (.type "enumerate") [.ref u]) Q E s:=by
 cases t
 ·exact call_enumerate_list p λf a b c d=>q f a b d
 ·obtain⟨⟨c,i,m,l⟩,e,k,n,g⟩:=p
  simp only at k g;subst k g
  apply callType_new F.called_enumerate (by decide) (F.typeCall_enumerate_1 _) (F.newCall_enumerate_1 _) (λo=>jo o _) F.entry_enumerate_new (Ao5 u vs n i l)
  refine⟨e,?_⟩
  have j:(s.heap.push (itO true u)).objs.size=s.heap.objs.size+1:=bW ..;have h:IsEnum ((s.heap.push (itO true u)).push { cls:=.type "enumerate",data:=.fields #[.none,.bool false,.ref s.heap.objs.size,rawInt 0,.none,.none] }) (s.heap.push (itO _ u)).objs.size _ 0 _:=aG _ rfl;rw[j]at h;rw[j]
  exact⟨⟨_,h,rfl⟩,q _ h (Aj2 (aB _ (aG _ rfl))) λc o x=>aB _ (aB _ x)⟩
end
def Ite (t:Bool)(a:Addr):It :=
 ⟨
  λi H=>∃xs x,SqK t H a xs/\xs[i]?=some x,
  λi H v H'=>∃p x,v=.ref p/\H p=none/\H'=upd H p (.tup [.int i,x])/\∀xs,SqK t H a xs->xs[i]?=some x,
  λi H=>∃xs,SqK t H a xs/\xs.length<=i⟩
theorem A2e {P:u9}{w:World}{K:v9}{t:Bool}{elts:v_}{kk:Nat}{pos:Pos}{e j a:Addr}(ne:e≠j) :
 Turn P w K (.Tuple elts kk pos) (Ite t a) [e,j] e (λi h=>(∃old,IsEnum h e j i old)/\ItAt t h j a i) where
 mem:=by simp
 obj:=λi h st c hc=>by
  simp only[aD,bI,bJ]at hc
  rcases hc with rfl | rfl
  ·obtain⟨old,q⟩:=st.1;exact⟨_,q,λv e=>by cases e⟩
  ·obtain⟨o,e,q⟩:=st.2.obj;exact⟨o,e,λv e=>by rw[q]at e;cases e⟩
 keep:=λi h h' st k=>by
  obtain⟨⟨old,q⟩,r⟩:=st
  exact⟨⟨old,k e (by simp) _ q⟩,r.stay λo e=>k j (by simp) o e⟩
 item:=by
  intro X hP hw hK hc i pins s σ H E I hf st hg;subst hP hw hK;obtain⟨xs,x,ha,hx⟩:=hg;obtain⟨⟨old,en⟩,it⟩:=st;obtain⟨its,rv,pa⟩:=ha.its I;obtain⟨u,hu,ru⟩:=rv.get hx
  have off:∀c∈[e,j],a≠c:=λc m z=>by obtain⟨o,q⟩:=ha.some;rw[z,(hf c m).1]at q;cases q
  have dr:=Bu5 (P:=X.prog) (w:=X.w) (A:=X.A.in1) (I.ok.hd hc) t j a (off j (by simp)) its.toArray
  have li:i<its.toArray.size:=by simpa using (bH.mp hu).1
  refine wpAny_pyNext_enum_itemD dr en ⟨it,pa⟩ li ne (by simp;exact⟨ne,λz=>off e (by simp) z.symm⟩) λu' h1 tk pu ou st1 new _ kp=>?_
  have eu:u'=u:=by
   have pu:its.toArray[i]?=some u':=pu;rw[List.getElem?_toArray,hu]at pu;cases pu;rfl
  subst eu
  refine⟨_,rfl,?_⟩
  apply wpAny_letOwnedTupleGo_enum ou;intro h2 en2 sb
  have lt:∀c∈[e,j],c<s.heap.objs.size:=λc m=>by
   simp only[aD,bI,bJ]at m
   rcases m with rfl | rfl
   ·exact aA en
   ·obtain⟨o,e,_⟩:=it.obj;exact aA e
  have new2:h2.get? s.heap.objs.size=some { cls:=.type "tuple",data:=.seq #[.int i tk,u'] }:=sb.extBut _ _ (bT (lt e (by simp))) new
  have ok:z9 X.prog X.w (upd H s.heap.objs.size (.tup [.int i,x])) h2 s.heap.objs.size (.tup [.int i,x]):=⟨(show 2<=sizeLine by decide),[.int i tk,u'],.cons ⟨tk,rfl⟩ (.cons ru .nil),⟨_,new2,rfl,⟨_,rfl⟩,rfl⟩⟩
  have I2:=I.turnLay (t':=tk+1) hf (h':=h2) (λc o m q=>sb.extBut _ _ (λz=>m (by simp[z])) (kp c o (λz=>m (by simp[z])) (λz=>m (by simp[z])) q)) (au _) ok
  refine⟨.ref s.heap.objs.size,_,I2,rfl,⟨_,x,rfl,I.hok.fresh (au _),rfl,λxs' h=>?_⟩,⟨⟨u',?_⟩,?_⟩,λc m=>?_⟩
  ·rw[h.one ha];exact hx
  ·have:IsEnum h2 e j ((i:Int)+1) u':=en2
   simpa using this
  ·exact st1.1.stay λo q=>sb.extBut _ _ (aC ne) q
  ·rw[Af (aQ (lt c m))]
   exact(hf c m).1
 done:=by
  intro X hP hw hK hc i pins s σ H E I hf st hg;subst hP hw hK;obtain⟨xs,ha,hl⟩:=hg;obtain⟨⟨old,en⟩,it⟩:=st;obtain⟨its,rv,pa⟩:=ha.its I
  have off:∀c∈[e,j],a≠c:=λc m z=>by obtain⟨o,q⟩:=ha.some;rw[z,(hf c m).1]at q;cases q
  have ty:s.TypeIs (.ref e) "enumerate" := ⟨_,en,rfl⟩;have ln:=rv.length;unfold pyNext;apply aj;apply dh
  refine cM (name:="__next__") ty F.slot_enumerate_next ?_
  refine bO F.slot_enumerate_next ty F.entry_enumerate_next ?_ (F.args_enumerate_next_1 _)
  apply aj (m:=field (.ref e) 2);apply aW en rfl (x:=.ref j) rfl;apply aj
  refine next_end (I.ok.hd hc) it pa (by simp;lia) λh1 x kp hx=>?_
  obtain⟨o,e1,e2⟩:=hx;apply aj
  refine dN (T := "StopIteration") (b:=true) ⟨o,e1,e2⟩ fU ?_
  exact ak ⟨rfl,I.turnL (t':=s.toks) hf λc o m q=>kp c o (λz=>m (by simp[z])) q⟩
 self:=λ_ _ _ _ _ st h=>let ⟨_,q⟩:=st.1;wpAny_pyIter_enum q h
theorem An6:bootBuiltins "enumerate" = some (.type "enumerate"):=by decide +kernel
section
variable {X:Cx}
def Bu1 (ta:TA):TI:=λσ H R=>ta σ H λvs H1=>∃a,vs=[.ref a]/\∃t xs,SqK t H1 a xs/\R (Ite t a) H1
theorem Bj8 (hg:Gl X "enumerate") (hm:X.mg "enumerate" = none) (ha:QA X [a] i) (hs1:isStar a=false:=by rfl) :
 QI X (.Tuple d v b) (.Call (.Name "enumerate" p) [a] [] f) (Bu1 i):=by
 refine⟨?_⟩
 intro j s σ H R I h
 refine Call_ (J9 I hg hm An6 (fD (thn (ha.1 _ _ s _ H _ I h) λus x ⟨vs,o,e,r,u⟩=>?_) (Ga (es:=[]) (env:=X.env) hs1) rfl))
 obtain⟨a',rfl,t,xs,l,q⟩:=u;obtain⟨w,rfl,m⟩:=vals1 r
 cases (show w=Value.ref _ from m)
 obtain⟨n,rv,y⟩:=l.its e
 refine Ab2 y λh' k z A=>?_
 apply wpAny_pyIter_enum k
 refine⟨_,_,_,_,o,rfl,e.kept A,A2e (bT (dU _)),⟨⟨_,k⟩,z⟩,λc hc=>?_,q⟩
 have g:x.heap.objs.size<=c:=by
  grind
 exact e.fpOk g (e.hok.fresh g)
end
section
variable {X:Cx}{a b:Expr}{ta tb:TE}{pos:Pos}
def By1 (neg:Bool):R2:=λx y H Q=>∃d ds,Tr H d x/\(Tr H (.list ds) y\/Tr H (.tuple ds) y)/\Flat d/\PyData.canLayAll0 ds=true/\Q (.bl (if neg then !ds.any (λe=>PyData.eqv e d) else ds.any λe=>PyData.eqv e d)) H
theorem Oz (hu:X.A.units+64<cLine)(ha:QE X a ta)(hb:QE X b tb)(hm:behindInMarks .NotIn b=false):QT X (.Compare a [.NotIn] [b] pos) (Ld (tOp (By1 true) ta tb)):=⟨Hr (A1j hu) ha.1 hb.1 hm⟩
end
end L2
set_option autoImplicit true
namespace L2
open PySem PySem.Spec PyProof.Rows
theorem Ag : QE X (.Constant (.int i) j a) (tC (.int i)) :=
 ⟨A7z ⟩
theorem Ph : QE X (.Constant (.bool b) j a) (tC (.bl b)) :=
 ⟨Bt8 ⟩
theorem Fj : QE X (.Constant .none j a) (tC .non) :=
 ⟨Bb3 ⟩
theorem Cm : QE X (.Constant (.str x) j a) (tC (.str x)) :=
 ⟨A7c ⟩
theorem At2 (hg:Gl X x) (hm:X.mg x=some u) (r:RelV v u) (hd:(x==("__debug__" : Str))=false:=by decide):QE X (.Name x a) (tC v) :=
 ⟨Bj1 (hg:=hg) (hm:=hm) (r:=r) (hd:=hd)⟩
theorem X6 {a:Pos}(hg:Gl X x) (hm:X.mg x=none) (hv:bootBuiltins x=some u) (r:RelV v u) (hn:x ≠ "__name__" := by decide) (hd:(x==("__debug__" : Str))=false:=by decide):QE X (.Name x a) (tC v) :=
 ⟨Bd7 (hg:=hg) (hm:=hm) (hv:=hv) (r:=r) (hn:=hn) (hd:=hd)⟩
theorem Bb : QSs X [] Wu :=
 ⟨Bk0 ⟩
theorem Bd0 : QS X stm Am7 :=
 ⟨A4h ⟩
theorem Yg (a:X.K=Kq) {k:Nat} (hc:X.calm=true) (h:QGs X es t) (hn:(assignEach es X.env).length=n:=by rfl) (hst:(assignEach es X.env).findIdx? (·.1)=none:=by rfl):QG X (.Tuple es k pos) (Ba2 Kq n t):=by
 subst a;exact⟨B3b (hc:=hc) (h:=h.get) (hn:=hn) (hst:=hst)⟩
theorem Fx (a:X.K=Kq) (hl:QE X l b):QI X c l (A1r Kq b):=by
 subst a;exact⟨B2e (hl:=hl.get)⟩
theorem Ac : QA X [] Er :=
 ⟨Y9 ⟩
theorem Ad (ha:QE X e te)(hr:QA X es t)(hs:isStar e=false:=by rfl):QA X (e::es) (Bp te t) :=
 ⟨B3e (ha:=ha.get) (hr:=hr.get) (hs:=hs)⟩
theorem Pb (F:FnOk X.prog X.w X.K X.mg X.base CX k f fd ps sp)(hr:Room k X.A)(hg:Gl X x)(hm:X.mg x=some (.ref f))(hk:PySem.W.keepIn X.K (.ref f)=true)(hb:Binds X.K fd ps ds)(hd:Vals dvs ds)(hx:Ql CX X E)(ha:QA X (e::es) t)(hdb:(x==("__debug__" : Str))=false:=by decide) (hn:noStar (e::es)=true:=by rfl):QE X (.Call (.Name x p) (e::es) [] pos) (Us sp dvs E t) :=
 ⟨A8v (F:=F) (hr:=hr) (hg:=hg) (hm:=hm) (hk:=hk) (hb:=hb) (hd:=hd) (hx:=hx) (ha:=ha.get) (hdb:=hdb) (hn:=hn)⟩
theorem B2d : QK X [] Er :=
 ⟨B1v ⟩
theorem B2x {Kq:v9}(hKq:X.K=Kq)(pa:PlainAttrs T)(slot:Slot T name idn)(hty:typeOf (.builtin idn)=pure (.type "method_descriptor")) (hm:MtR X idn r) (ho:QE X o to) (hbase:attributeBase o name X.env (eval o X.env)=eval o X.env:=by rfl) (hline:(apos.endLine==cpos.line)=true:=by rfl):QE X (.Call (.Attribute o name apos) [] [] cpos) (Bz1 Kq T r to):=by
 subst hKq;exact⟨B0f (pa:=pa) (slot:=slot) (hty:=hty) (hm:=hm) (ho:=ho.get) (hbase:=hbase) (hline:=hline)⟩
theorem Ve (a:X.K=Kq) (pa:PlainAttrs T) (slot:Slot T name idn) (hty:typeOf (.builtin idn)=pure (.type "method_descriptor")) (hm:MtR X idn r) (ho:QE X o to) (ha:QA X (e::es) t) (hbase:attributeBase o name X.env (eval o X.env)=eval o X.env:=by rfl) (hfew:((backTo cpos (starEach (e::es) X.env)).all (λx=>!x.1)&&(backToKw cpos (keywordEach [] X.env)).all (λx=>x.1.isSome)
 && decide ((e::es).length+([]:List Keyword).length+(if ([]:List Keyword).isEmpty then 0 else 1)<30))=true:=by rfl) (hline:(apos.endLine==cpos.line)=true:=by rfl) (hs:starEach (e::es) X.env=(false,eval e X.env)::starEach es X.env:=by rfl) (hplain:(backTo cpos (starEach es X.env)).any (·.1)=false:=by rfl):QE X (.Call (.Attribute o name apos) (e::es) [] cpos) (tBM Kq T r to t):=by
 subst a;exact⟨Bt3 (pa:=pa) (slot:=slot) (hty:=hty) (hm:=hm) (ho:=ho.get) (ha:=ha.get) (hbase:=hbase) (hfew:=hfew) (hline:=hline) (hs:=hs) (hplain:=hplain)⟩
theorem Hv (b:X.K=Kq) (ho:QE X a ta) (hv:QE X e te) (hbase:attributeBase a "append" X.env (eval a X.env)=eval a X.env:=by rfl) (hfew:((backTo cpos (starEach [e] X.env)).all (λx=>!x.1)&&(backToKw cpos (keywordEach [] X.env)).all (λx=>x.1.isSome)
 && decide ([e].length+([]:List Keyword).length+(if ([]:List Keyword).isEmpty then 0 else 1)<30))=true:=by rfl) (hline:(apos.endLine==cpos.line)=true:=by rfl) (hns:isStar e=false:=by rfl):QE X (.Call (.Attribute a "append" apos) [e] [] cpos) (tBM Kq "list" rAppF ta (Bp te Er)):=by
 subst b;exact⟨A3s (ho:=ho.get) (hv:=hv.get) (hbase:=hbase) (hfew:=hfew) (hline:=hline) (hns:=hns)⟩
theorem Bn0 : QTs X [] Aj4 :=
 ⟨Bi1 ⟩
theorem qtN:∀a b c d e,QTs (Dr X N' scope a b c d e) [] Aj4:=λ_ _ _ _ _=>Bn0
theorem Bp6 (h:QT X c t):QTs X [c] t :=
 ⟨Bk5 (h:=h.get)⟩
theorem Kz (L:Ip X N' idx scope)(hc:X.calm=true)(hi:QI X tg iter wi)(hg:∀d C b a c,QG (Dr X N' scope d C b a c) tg g)(ht:∀d C b a c,QTs (Dr X N' scope d C b a c) ifs tc)(he:∀d C b a c,QE (Dr X N' scope d C b a c) elt te)(hs:∀x,foldedSetIterable iter X.env x=pure x:=by intro _;rfl):QE X (.ListComp elt [⟨tg,iter,ifs,0⟩] scope pos) (tLC idx wi g tc te) :=
 ⟨B4o (L:=L) (hc:=hc) (hi:=hi.get) (hg:=λd C b a c=>(hg _ C _ _ _).get) (ht:=λd C b a c=>(ht _ C _ _ _).get) (he:=λd C b a c=>(he _ C _ _ _).get) (hs:=hs)⟩
theorem Vw {f d:Pos}(hN:X.N.Nodup) (hi':X.N[i]?=some y) (hy:Loc X.env.scope y) (L:Ip X N' idx scope) (hc:X.calm=true) (hi:QI X tg iter wi) (hg:∀e C b a c,QG (Dr X N' scope e C b a c) tg g) (ht:∀e C b a c,QTs (Dr X N' scope e C b a c) ifs tc) (he:∀e C b a c,QE (Dr X N' scope e C b a c) elt te) (hsw:swapsWith (.ListComp elt [⟨tg,iter,ifs,0⟩] scope pos) (some (.Name y f)) d.line X.env=pure true:=by rfl) (hf:X.fn y=true\/X.env.scope.names.lookup y=some .local:=by first | exact .inl rfl | exact .inr rfl | assumption) (hs:∀x,foldedSetIterable iter X.env x=pure x:=by intro _;rfl):QS X (.Assign [.Name y f] (.ListComp elt [⟨tg,iter,ifs,0⟩] scope pos) d) (Zx (tLC idx wi g tc te) (Ez i)) :=
 ⟨A4r (hN:=hN) (hi':=hi') (hy:=hy) (L:=L) (hc:=hc) (hi:=hi.get) (hg:=λe C b a c=>(hg _ C _ _ _).get) (ht:=λe C b a c=>(ht _ C _ _ _).get) (he:=λe C b a c=>(he _ C _ _ _).get) (hsw:=hsw) (hs:=hs)⟩
theorem Rm (a:X.K=Kq) (hgl:Gl X "abs") (hm:X.mg "abs" = none) (ha:QA X (e::es) t) (hns:noStar (e::es)=true:=by rfl):QE X (.Call (.Name "abs" p) (e::es) [] pos) (tCB (Nh Kq) t):=by
 exact⟨Ag3 (hgl:=hgl) (hm:=hm) (ha:=ha.get) (hns:=hns)⟩
theorem Rb (a:X.K=Kq) (hgl:Gl X "isinstance") (hm:X.mg "isinstance" = none) (ha:QA X (e::es) t) (hns:noStar (e::es)=true:=by rfl):QE X (.Call (.Name "isinstance" p) (e::es) [] pos) (tCB (Ni Kq) t):=by
 exact⟨Ad3 (hgl:=hgl) (hm:=hm) (ha:=ha.get) (hns:=hns)⟩
theorem Z8 (a:X.K=Kq) (hc:X.calm=true) (hgl:Gl X "all") (hm:X.mg "all" = none) (ha:QA X (e::es) t) (hns:noStar (e::es)=true:=by rfl):QE X (.Call (.Name "all" p) (e::es) [] pos) (tCB (Li Kq) t):=by
 subst a;exact⟨Y4 (hc:=hc) (hgl:=hgl) (hm:=hm) (ha:=ha.get) (hns:=hns)⟩
theorem Pq (a:X.K=Kq) (hgl:Gl X "int") (hm:X.mg "int" = none) (ha:QA X (e::es) t) (hns:noStar (e::es)=true:=by rfl):QE X (.Call (.Name "int" p) (e::es) [] pos) (tCB (Lz Kq) t):=by
 exact⟨X8 (hgl:=hgl) (hm:=hm) (ha:=ha.get) (hns:=hns)⟩
theorem Aw (a:X.K=Kq) (hgl:Gl X "tuple") (hm:X.mg "tuple" = none) (ha:QA X (e::es) t) (hns:noStar (e::es)=true:=by rfl):QE X (.Call (.Name "tuple" p) (e::es) [] pos) (tCB (Hi Kq) t):=by
 subst a;exact⟨Qu (hgl:=hgl) (hm:=hm) (ha:=ha.get) (hns:=hns)⟩
theorem Dy (a:X.K=Kq) (hgl:Gl X "list") (hm:X.mg "list" = none) (ha:QA X (e::es) t) (hns:noStar (e::es)=true:=by rfl):QE X (.Call (.Name "list" p) (e::es) [] pos) (tCB (Ek Kq) t):=by
 subst a;exact⟨Ry (hgl:=hgl) (hm:=hm) (ha:=ha.get) (hns:=hns)⟩
theorem Ze (a:X.K=Kq) (hc:X.calm=true) (hgl:Gl X "min") (hm:X.mg "min" = none) (ha:QA X (e::es) t) (hns:noStar (e::es)=true:=by rfl):QE X (.Call (.Name "min" p) (e::es) [] pos) (tCB (Lx Kq) t):=by
 exact⟨Y5 (hc:=hc) (hgl:=hgl) (hm:=hm) (ha:=ha.get) (hns:=hns)⟩
theorem Mi (h:Ov es=some vs):QA X es (tK vs):=⟨Wq h⟩
theorem QW.qt (h:QW X e t):QT X e t:=⟨h.get.pt⟩
theorem qv (i:Nat) {a:Pos}(hN:X.N[i]?=some x:=by rfl) (hv:Vis X.env.scope x:=by first | exact Or.inl rfl | exact Or.inr (Or.inl rfl) | exact Or.inr (Or.inr rfl)) (hd:(x==("__debug__" : Str))=false:=by decide) (hcd:(x==("__classdict__" : Str))=false:=by decide):QE X (.Name x a) (Hb i):=⟨A8z hN hv hd hcd⟩
end L2
namespace L2
open PySem
theorem Az9 (h:QSs X st t) (k:t D a H):∃t,PSs X st t/\t D a H:=⟨t,h.get,k⟩
theorem Rz:Eo "NoneType" "int" = some false:=by trivial
theorem Rt:Eo "NoneType" "str" = some false:=by trivial
theorem Qx:Eo "NoneType" "bool" = some false:=by trivial
theorem Qk:Eo "NoneType" "list" = some false:=by trivial
theorem Pa:Eo "NoneType" "tuple" = some false:=by trivial
theorem Ab8:Eo "bool" "int" = some true:=by trivial
theorem Ai7:Eo "bool" "str" = some false:=by trivial
theorem Zf:Eo "bool" "bool" = some true:=by trivial
theorem Yb:Eo "bool" "list" = some false:=by trivial
theorem Wi:Eo "bool" "tuple" = some false:=by trivial
theorem Ap6:Eo "int" "int" = some true:=by trivial
theorem Ap1:Eo "int" "str" = some false:=by trivial
theorem Ae5:Eo "int" "bool" = some false:=by trivial
theorem Af4:Eo "int" "list" = some false:=by trivial
theorem Yo:Eo "int" "tuple" = some false:=by trivial
theorem Ap9:Eo "str" "int" = some false:=by trivial
theorem Am2:Eo "str" "str" = some true:=by trivial
theorem Ac8:Eo "str" "bool" = some false:=by trivial
theorem Ad1:Eo "str" "list" = some false:=by trivial
theorem Z2:Eo "str" "tuple" = some false:=by trivial
theorem Ad4:Eo "list" "int" = some false:=by trivial
theorem Af8:Eo "list" "str" = some false:=by trivial
theorem Yp:Eo "list" "bool" = some false:=by trivial
theorem Aa3:Eo "list" "list" = some true:=by trivial
theorem V3:Eo "list" "tuple" = some false:=by trivial
theorem Yz:Eo "tuple" "int" = some false:=by trivial
theorem Y0:Eo "tuple" "str" = some false:=by trivial
theorem Wm:Eo "tuple" "bool" = some false:=by trivial
theorem Wf:Eo "tuple" "list" = some false:=by trivial
theorem Ui:Eo "tuple" "tuple" = some true:=by trivial
section
variable {H:Hp}{a:Addr}
theorem Bv8 (h:H a=some (.lst xs)):Rc H (.ref a)=some "list" := by simp only[Rc,h]
theorem Bw2 (h:H a=some (.tup xs)):Rc H (.ref a)=some "tuple" := by simp only[Rc,h]
theorem Bp1 (h:H a=some (.lst xs)):A2t H (.ref a)=some xs.length:=by simp only[A2t,h]
theorem Bg6 (h:H a=some (.tup xs)):A2t H (.ref a)=some xs.length:=by simp only[A2t,h]
end
section
variable {K:v9}{idx:o4}{tl:TE}{g:TG}{tc:TT}{te:TE}{σ σ0:St}{H:Hp}{Q:VK}{a:Addr}{xs:m7}
theorem lw_seq:tLC idx (A1r K tl) g tc te σ H Q↔(tl σ H λx H1=>∃a,x=.ref a/\((∃xs,H1 a=some (.lst xs)/\LcW (Itl K a) g tc te Q (cst idx σ) H1)\/(∃xs,H1 a=some (.tup xs)/\LcW (Itt K a) g tc te Q (cst idx σ) H1))):=Iff.rfl
theorem Bl0 (Pv:Nat->St->m7->Hp->Prop)(h0:Pv 0 σ0 [] H)(hl:∀i σ acc H,i<=xs.length->Pv i σ acc H->H a=some (.tup xs)/\acc.length<=i)(hz:xs.length<=sizeLine)
 (hs:∀i x σ acc H,xs[i]?=some x->Pv i σ acc H->g x σ H λσ2 H2=>tc σ2 H2 λb H3=>if b=true then te σ2 H3 λy H4=>Pv (i+1) σ2 (acc++[y]) H4 else Pv (i+1) σ2 acc H3)
 (hd:∀σ acc H,Pv xs.length σ acc H->∀p,H p=none->Q (.ref p) (upd H p (.lst acc))):LcW (Itt K a) g tc te Q σ0 H :=
 Bw0 Pv h0 (λi σ acc H hi p=>⟨SqT.of (hl i σ acc H hi p).1,(hl i σ acc H hi p).2⟩) hz hs hd
end
abbrev g2 (K:v9)(i j:Nat):TG:=Ba2 K 2 (K3 (Ez i) (K3 (Ez j) Ao6))
theorem exc {R:Addr->Addr->m7->m7->Prop}{x y:Addr}:(∃a b xs ys,V.ref x=V.ref a/\V.ref y=V.ref b/\R a b xs ys)↔∃xs ys,R x y xs ys:=by
 constructor
 ·rintro⟨a,b,xs,ys,e1,e2,h⟩;cases e1;cases e2;exact⟨xs,ys,h⟩
 ·rintro⟨xs,ys,h⟩;exact⟨x,y,xs,ys,rfl,rfl,h⟩
theorem TrL.get {H:Hp}:∀{ds:w5}{vs:m7}{k:Nat}{v:V},TrL H ds vs->vs[k]?=some v->∃d,ds[k]?=some d/\Tr H d v
 | [],_,k,v,h,e=>by cases (show _=[] from h);simp at e
 | d::r,_,0,v,⟨_,_,rfl,q,_⟩,e=>by simp at e;subst e;exact⟨d,rfl,q⟩
 | d::r,_,k+1,v,⟨_,_,rfl,_,q⟩,e=>by simp at e;simpa using TrL.get q e
theorem TrL.got {H:Hp}:∀{ds:w5}{vs:m7}{k:Nat}{d:t_},TrL H ds vs->ds[k]?=some d->∃v,vs[k]?=some v/\Tr H d v
 | [],_,k,d,h,e=>by simp at e
 | d::r,_,0,_,⟨v,_,rfl,q,_⟩,e=>by simp at e;subst e;exact⟨v,rfl,q⟩
 | d::r,_,k+1,_,⟨_,_,rfl,_,q⟩,e=>by simp at e;simpa using TrL.got q e
theorem TrL.app {H:Hp}:∀{ds es:w5}{vs us:m7},TrL H ds vs->TrL H es us->TrL H (ds++es) (vs++us)
 | [],es,_,us,h,q=>by cases (show _=[] from h);exact q
 | d::r,es,_,us,⟨v,vr,rfl,q1,q2⟩,q=>⟨v,vr++us,rfl,q1,TrL.app q2 q⟩
theorem TrL.one (h:Tr H d v):TrL H [d] [v]:=⟨v,[],rfl,h,rfl⟩
mutual
noncomputable def wt:t_->Nat
 | .none=>4
 | .bool _=>5
 | .int _=>1921
 | .str x=>10*x.length+2
 | .list xs=>O4 xs+4
 | .tuple xs=>O4 xs+4
 | .dict _=>0
noncomputable def O4:w5->Nat
 | []=>0
 | x::xs=>wt x+2+O4 xs
end
theorem Ab1:∀(ts:v4) (k:Nat) (acc:Str),(textFrom k acc ts).length<=acc.length+(ts.map λt=>t.length+2).sum
 | [],k,acc=>au _
 | t::r,k,acc=>by
  have ih:=Ab1 r (k+1) (acc++(if k>0 then ", " else "" : String)++t)
  have e:(acc++(if k>0 then ", " else "" : String)++t).length<=acc.length+2+t.length:=by
   rw[dF,dF]
   split
   ·exact au _
   ·show acc.length+0+t.length<=_;lia
  show (textFrom (k+1) (acc++(if k>0 then ", " else "" : String)++t) r).length<=_
  rw[aJ,List.sum_cons];lia
theorem A5e (ts:v4):(listText ts).length<=(ts.map λt=>t.length+2).sum+4:=by
 unfold listText;rw[dF]
 have:=Ab1 ts 0 "["
 have b:("[" : Str).length=1:=rfl
 have a:("]" : Str).length=1:=rfl
 lia
theorem Xb:∀ts:v4,piled ts=(ts.map λt=>t.length+2).sum
 | []=>rfl
 | t::r=>by rw[piled_cons,aJ,List.sum_cons,Xb r]
theorem A1p (ts:v4):(tupleText ts).length<=(ts.map λt=>t.length+2).sum+4:=by
 unfold tupleText;rw[dF,dF]
 have b:("(" : Str).length=1:=rfl
 have c:(if ts.length==1 then (",)" : Str) else (")" : Str)).length<=2:=by split <;> decide
 have a:((if ts.length==1 then ",)" else ")" : String):Str).length<=2:=by grind
 by_cases h:ts=[]
 ·subst h;show 1+0+_<=_;grind
 ·have:=join_length_add _ h
  rw[Xb]at this;lia
mutual
theorem Ae6:∀d:t_,d.canLay0=true->d.showable=true->d.shown.length<=wt d
 | .none,_,_=>by decide
 | .bool b,_,_=>by cases b <;> decide
 | .int i,_,h=>PyProof.Rows.int_text_len_1921 (by simpa[PyData.showable] using h)
 | .str x,h,_=>StrLaws.reprText_len x λc hc=>by
  have h:x.cps.all (·<0x110000)=true:=h
  have:=Array.all_eq_true_iff_forall_mem.mp h c (j8.mp hc);have:=aX this;lia
 | .list xs,h,s=>aq (A5e _) (Nat.add_le_add_right (Lf xs h s) 4)
 | .tuple xs,h,s=>aq (A1p _) (Nat.add_le_add_right (Lf xs h s) 4)
 | .dict kv,h,_=>nomatch h
theorem Lf:∀ds:w5,PyData.canLayAll0 ds=true->PyData.showableAll ds=true->((PyData.shownAll ds).map λt=>t.length+2).sum<=O4 ds
 | [],_,_=>au _
 | d::r,h,s=>by
  obtain⟨h1,h2⟩:=az.mp (show (d.canLay0&&PyData.canLayAll0 r)=true from h)
  obtain⟨s1,s2⟩:=az.mp (show (d.showable&&PyData.showableAll r)=true from s)
  have a:=Ae6 d h1 s1;have b:=Lf r h2 s2
  show (((d.shown::PyData.shownAll r).map λt=>t.length+2).sum)<=wt d+2+O4 r
  rw[aJ,List.sum_cons];lia
end
end L2
namespace HT
open PySem PySem.Spec PyProof.Rows
end HT
namespace L2
open PySem PySem.Spec PyProof.Rows
section
def B6r:R2:=λx y H Q=>∃i j,x=.str i/\y=.str j/\Q (.bl (!(Builtin.Str.occurrences j i 0 j.length 1).isEmpty)) H
end
section
noncomputable def At5 (y:Str):Value->Bool
 | .str z _=>z==y
 | _=>false
theorem Yr:∀{ss:v4}{us:w6},Vals (ss.map V.str) us->∀u∈us,∃z t,u=.str z t
 | [],_,r,u,hu=>by cases r;cases hu
 | s::ss,_,r,u,hu=>by
  cases r with
  | cons r1 r2 =>
   rcases aD.mp hu with rfl | hu
   ·obtain⟨t,rfl⟩:=r1;exact⟨s,t,rfl⟩
   ·exact Yr r2 u hu
theorem Xf (y:Str):∀{ss:v4}{us:w6},Vals (ss.map V.str) us->us.countP (At5 y)=ss.countP λz=>z==y
 | [],_,r=>by cases r;rfl
 | s::ss,_,r=>by
  cases r with
  | cons r1 r2 =>
   obtain⟨t,rfl⟩:=r1;rw[jq,jq,Xf y r2];rfl
end
end L2
namespace HT
open PySem PySem.Spec PyProof.Rows
section
variable {prog:u9}{w:World}{A:q9}{E:z_}{s:t6}
theorem Mz {lo hi:q_} (ht:IsTup s.heap t items) (hs:s.heap.IsSliceOf b g f .none) (pl:IsPart g lo) (i:IsPart f hi)
 (hw:sIx items.size 0 lo=0/\sIx items.size items.size hi=items.size) (h:Q (.ref t) s):wpAny (model prog w) A (getItem (.ref t) (.ref b)) Q E s:=by
 obtain⟨k,d,c,j⟩:=id hs;have e:s.TypeIs (.ref b) "slice" := ⟨k,d,c⟩;unfold getItem
 try with_reducible refine bA ?_
 first | refine aj (ak ?_) | skip
 refine aj (wpAny_sequenceKey ht.typeIs (by decide) ?_)
 refine aj (cM (name:="__getitem__") ht.typeIs fM
  (bO fM ht.typeIs entry_tuple_getitem ?_ (args_tuple_getitem _ _)))
 show wpAny _ _ (Builtin.Tuple.tupleItemsOf (.ref t) >>= _) _ _ s
 refine aj (tupleItemsOf_ ht ?_)
 refine aj (dB e ?_)
 rw[if_pos (by decide)]
 refine aj (Jw hs pl i ?_)
 show wpAny _ _ (if (((sIx items.size 0 lo:Nat):Int)==0&&(1:Int)==1&&(sIx _ _ _-sIx _ 0 _)==items.size)=true then _ else _) _ _ s
 have a:(((sIx items.size 0 lo):Int)==0&&(1:Int)==1&&sIx items.size items.size hi-sIx items.size 0 lo==items.size)=true:=by
  rw[hw.1,hw.2];simp
 rw[if_pos a]
 refine aj (aj (dB ht.typeIs (ak ?_)))
 refine aj (cP ?_)
 first
  | exact ak ⟨_,rfl,ak h⟩
  | exact aj _
  | exact aj _
  | trace_state
end
end HT
namespace L2
open PySem PySem.Spec PyProof.Rows
section
variable {X:Cx}
def Bs6 (K:v9):V->q_->q_->Hp->VK->Prop:=λx lo hi H Q=>∃a xs,x=.ref a/\SqT K H a xs /\
 (HT.sIx xs.length 0 lo=0/\HT.sIx xs.length xs.length hi=xs.length)/\Q (.ref a) H
theorem Bi7:SlR X (Bs6 X.K):=by
 intro d s σ H x v vl vu lo hi sl Q I k f g e h;obtain⟨a,xs,rfl,j,hw,q⟩:=h
 cases k
 obtain⟨i,r,c,hz⟩:=I.tuple j
 have b := by exact r.length.symm
 refine⟨"tuple",_,fM.lookup,c.typeIs,?_⟩
 exact HT.Mz c f g e (by grind) ⟨.ref a,H,I,rfl,q⟩
end
theorem M9 (l:Addr)(items:v7)(n:Nat)(dd:Option Addr)(sl:Array (u_))(x:Value)(e:Value->Bool)(j:Nat)(hj:j<items.size)
 (p:e items[j]=true) (hno:∀m (hm:m<items.size),m<j->e items[m]=false) :
 Meets (Builtin.«tuple.index» ⟨[.ref l,x],[]⟩)
  (λA R s=>s.heap.get? l=some { cls:=.type "tuple",dict:=dd,data:=.seq items n,slots:=sl }/\(∀y,y∈items->SeqAt.EqAt A.in1 s y x (e y))/\R (.ok (.ret (.int j s.toks))) { s with toks:=s.toks+1 }) :=
 .of_wp λf w A R s h=>by
  obtain⟨hp,g,d,tk,os⟩:=s;obtain⟨hl,he,h⟩:=h
  wp_walk using dW hl
  change wpAny _ _ (forIn (m:=Sem) [:min items.size items.size] ((none,()):Option Fin×Unit) _) _ _ _
  rw[Std.Legacy.Range.forIn_eq_forIn_range'];simp only[Std.Legacy.Range.size,fc,Nat.add_sub_cancel,Nat.div_one,gQ]
  refine gf _ (λa b s'=>b.1=none/\s'=⟨hp,g,d,tk,os⟩/\∃i,i<=j/\a=List.range' i (items.size-i)) _ ?_ ?_ _ _ ⟨rfl,rfl,0,aU _,rfl⟩
  ·rintro y a b s' ⟨hb,rfl,i,c,k⟩
   have o:i<items.size:=cH c hj;have hd:items.size-i=(items.size-(i+1))+1:=(Nat.succ_pred_eq_of_pos (Nat.sub_pos_of_lt o)).symm;rw[hd,List.range'_succ]at k
   cases k
   have hg:items[y]?=some items[y]:=by simp[o]
   simp only[hg]
   refine aj (he _ (Array.getElem_mem o) f w _ _ ?_)
   rcases Nat.lt_or_eq_of_le c with lt | rfl
   ·rw[hno y o lt]
    wp_walk
    exact⟨rfl,rfl,y+1,lt,rfl⟩
   ·rw[p]
    wp_walk
    exact⟨_,rfl,h⟩
  ·rintro⟨b1,b2⟩ s' ⟨hb,rfl,i,c,k⟩
   have hz:=cu List.length k
   simp at hz
   lia
section
variable {X:Cx}
theorem A9w (y:Str){ss:v4} (r:Vals (ss.map V.str) us) (hm:m<us.length) (h2:m<ss.length):At5 y us[m]=(ss[m]==y):=by
 obtain⟨u,a,b⟩:=r.get (i:=m) (x:=V.str ss[m]) (by grind)
 obtain⟨t,rfl⟩:=b;rw[bC hm]at a
 injection a with a
 rw[a];rfl
def Zi (K:v9):V->m7->Hp->VK->Prop:=λx vs H Q=>∃(a:Addr) (ss:v4) (y:Str) (j:Nat),x=.ref a/\vs=[.str y]/\SqT K H a (ss.map V.str)/\ss[j]?=some y/\(∀m<j,ss[m]?≠some y)/\Q (.int (j:Nat)) H
theorem A2q:MtM X "tuple.index" (Zi X.K):=by
 intro i s σ H x vs v us Q I D A h;obtain⟨a,C,y,j,rfl,rfl,G,B,M,q⟩:=h
 cases D
 obtain⟨u,rfl,p⟩:=A.one;obtain⟨t,rfl⟩:=p;obtain⟨b,r,l,hz⟩:=I.tuple G
 obtain⟨o,e,k,n,f⟩:=(show s.heap.IsTuple a b.toArray from l)
 obtain⟨c0,dd,E,sl⟩:=o
 dsimp only at k f
 subst k f
 have c := by have:=r.length;simpa using this.symm
 obtain⟨g,ej⟩:=bH.mp B
 refine cW F.slot_tuple_index ⟨_,e,rfl⟩ F.entry_tuple_index (F.args_tuple_index_2 _ _) (M9 a _ n _ _ _ (At5 y) j (by simpa[c] using g) ?_ ?_) ⟨e,λw K=>?_,?_⟩
 ·have:=A9w y r (by lia) g
  simp_all
 ·intro m J L
  have:=A9w y r (by simpa using J) (by lia)
  grind
 ·obtain⟨z,t',rfl⟩:=Yr r w (by simpa using K)
  exact SeqAt.EqAt.str_str z _ y t
 ·exact⟨.int _,H,I.tok _,⟨_,rfl⟩,q⟩
theorem Tp (a:X.K=Kq):MtM X "tuple.index" (Zi Kq):=by
 subst a;exact A2q
end
section
variable {X:Cx}
noncomputable def B6j:V->Option Str
 | .non=>some (Str.ofString "None")
 | .bl b=>some (if b then Str.ofString "True" else Str.ofString "False")
 | .str x=>some x
 | _=>none
def Q9 (K:v9):m7->Hp->VK->Prop:=λxs H Q=>∃x z,xs=[x]/\B6j x=some z/\Q (.str z) H
theorem A1g:CallR X (.type "str") (Q9 X.K):=by
 intro d s σ H xs us Q I r h;obtain⟨x,z,rfl,a,q⟩:=h;obtain⟨u,rfl,c⟩:=vals1 r
 cases x with
 | non=>cases a;cases (c);exact P.str_of_none ⟨.str _,H,I.tok _,⟨_,rfl⟩,q⟩
 | bl b=>cases a;cases (c);exact P.str_of_bool ⟨.str _,H,I.tok _,⟨_,by trivial⟩,q⟩
 | str y=>cases a;obtain⟨t,rfl⟩:=c;exact P.str_of_str ⟨.str _,H,I,⟨_,rfl⟩,q⟩
 | _=>cases a
end
section
def B6o (ks:v4)(xs:m7):List (Key×V):=(ks.zip xs).map λp=>((Sum.inr p.1:Key),p.2)
end
end L2
namespace L2
open PySem PySem.Spec PyProof.Rows PySem.W
noncomputable def kEv {α:Type} (B:Nat->Nat->Option Bool):KasT α->Option α
 | .ret a=>some a
 | .ask i j k=>(B i j).bind λb=>kEv B (k b)
theorem A5u {α:Type}{cmp:Nat->Nat->(Bool->t6->Prop)->t6->Prop}{B:Nat->Nat->Option Bool}{s:t6}(hc:∀i j b C,B i j=some b->C b s->cmp i j C s){G:α->t6->Prop} :
 ∀(t:KasT α) (a:α),kEv B t=some a->G a s->t.kasWp cmp G s
 | .ret a,a',e,g=>by cases e;exact g
 | .ask i j k,a',e,g=>by
  obtain⟨b,e1,e2⟩:=bY.mp (show (B i j).bind (λb=>kEv B (k b))=some a' from e)
  exact hc i j b _ e1 (A5u hc (k b) a' e2 g)
noncomputable def Am5 (b:Bool):t_->Bool
 | .tuple (.int _::_)=>b
 | .tuple (.tuple _::_)=>!b
 | _=>false
section
variable {prog:u9}{w:World}{A:q9}{E:z_}{s:t6}{b fin:Bool}{Q:Bool->t6->Prop}
theorem Ak4:∀{vs ws:w6}{r:Bool},Qs false A s vs ws r->∀i,(b&&i==0)=false->fin=decide (vs.length<ws.length)->Q r s->KatLex prog w A b fin Q (vs.zip ws) i s
 | _,_,_,.nn,i,_,hf,h=>by
  have e:fin=false:=hf;subst e;exact kat_nil h
 | _,_,_,.nc (y:=y) (ys:=ys),i,_,hf,h=>by
  have e:fin=true:=hf.trans (aN (by rw[cY,aR];lia))
  subst e;exact kat_nil h
 | _,_,_,.cn (x:=x) (xs:=xs),i,_,hf,h=>by
  have e:fin=false:=hf.trans (aV (by rw[cY,aR];lia))
  subst e;exact kat_nil h
 | _,_,_,.eq he hr,i,hi,hf,h=>kat_cons (he prog w _ _ (kat_yes (Ak4 hr (i+1) (by simp) (hf.trans (by simp)) h)))
 | _,_,_,.ne he hr,i,hi,hf,h=>kat_cons (he prog w _ _ (kat_no (by rw[hi];exact kat_one _ _ (hr prog w _ _ h))))
theorem B6s (m:ReadsAll s.heap us (.int i::xs) k) (o:ReadsAll s.heap vs (.int j::ys) bs) (p:PyData.canLayAll0 (.int i::xs)=true) (g:PyData.canLayAll0 (.int j::ys)=true)
 (hu:A.units+PyData.depthAll (.int i::xs)<cLine) (hc:Yl false (.int i::xs) (.int j::ys)=some r) (hf:fin=decide (us.length<vs.length)) (h:Q r s):KatLex prog w A true fin Q (us.zip vs) 0 s:=by
 cases m with
 | cons c l =>
  cases o with
  | cons d n =>
   have b:=az.mp p;have a:=az.mp g;have q:A.units+max (PyData.int i).depth (PyData.depthAll xs)<cLine:=hu
   have e:=gh (.int i) (.int j) A s _ _ _ _ c d b.1 a.1 (by lia)
   rw[Yl]at hc
   by_cases he:PyData.eqv (.int i) (.int j)=true
   ·rw[if_pos he]at hc
    rw[he]at e
    exact kat_cons (e prog w _ _ (kat_yes (Ak4 (Xw false xs ys A s _ _ _ _ r l n b.2 a.2 (by lia) hc) 1 (by simp) (hf.trans (by simp)) h)))
   ·rw[if_neg he]at hc
    rw[Bool.not_eq_true _ |>.mp he]at e
    refine kat_cons (e _ w _ _ (kat_no ?_))
    cases c
    cases d
    have f := by simpa[Ih] using hc
    rw[<- f]at h;exact(kat_lt_int h:wpAny _ A _ Q _ s)
theorem A9x (t:Reads s.heap u a n) (x:Reads s.heap v d bs) (f:a.canLay0=true) (e:d.canLay0=true)
 (fa:Am5 b a=true) (fb:Am5 b d=true) (hu:A.units+a.depth<cLine) (hc:Ih false a d=some r) (h:Q r s):wpAny (model prog w) A (keyLt' (tuples' b) u v) Q E s:=by
 cases a with
 | tuple l =>
  cases d with
  | tuple m =>
   cases t with
   | tuple o B q g =>
    cases x with
    | tuple p z y k =>
     have c:A.units+(PyData.depthAll _+1)<cLine:=hu
     refine kat_lt o q p y ?_
     cases b with
     | false=>exact Ak4 (Xw _ _ _ A s _ _ _ _ r g k f e (by lia) hc) 0 rfl (by simp) h
     | true =>
      match l,m,fa,fb,g,k,f,e,c,hc with
      | .int i::l,.int j::m,_,_,g,k,f,e,c,hc=>exact B6s g k f e (by lia) hc (by simp) h
  | _=>cases fb
 | _=>cases fa
end
inductive Kd where
 | ti | tt
noncomputable def Wa:Kd->t_->Bool
 | .ti,.tuple (.int _::_)=>true
 | .tt,.tuple (.tuple _::_)=>true
 | _,_=>false
theorem Qf {kd:Kd}{d:t_}(h:Wa kd d=true):match kd with
 | .ti=>∃i xs,d=.tuple (.int i::xs)
 | .tt=>∃ys xs,d=.tuple (.tuple ys::xs):=by
 unfold Wa at h
 split at h
 ·exact⟨_,_,rfl⟩
 ·exact⟨_,_,rfl⟩
 ·cases h
noncomputable def kdK:Kd->SortKind
 | .ti=>tuples' true
 | .tt=>tuples' false
def B5k (kd:Kd)(x y:t_):Option Bool:=Ih false x y
def A0v (kd:Kd)(ds:w5)(i j:Nat):Option Bool:=match ds[i]?,ds[j]? with
 | some x,some y=>B5k kd x y
 | _,_=>none
section
variable {prog:u9}{w:World}{A:q9}{E:z_}{s:t6}{Q:Bool->t6->Prop}
theorem Bl3 {kd:Kd}{dx dy:t_}{u v:Value}{as bs:v6}{r:Bool}(ra:Reads s.heap u dx as)(rb:Reads s.heap v dy bs)(ca:dx.canLay0=true)(cb:dy.canLay0=true)
 (fa:Wa kd dx=true) (fb:Wa kd dy=true) (hu:A.units+dx.depth<cLine) (hc:B5k kd dx dy=some r) (h:Q r s):wpAny (model prog w) A (keyLt' (kdK kd) u v) Q E s:=by
 have sx:=Qf fa;have sy:=Qf fb
 cases kd with
 | ti =>
  obtain⟨i,xs,rfl⟩:=sx;obtain⟨j,ys,rfl⟩:=sy;exact A9x (b:=true) ra rb ca cb rfl rfl hu hc h
 | tt =>
  obtain⟨i,xs,rfl⟩:=sx;obtain⟨j,ys,rfl⟩:=sy;exact A9x (b:=false) ra rb ca cb rfl rfl hu hc h
end
section
variable {M:Model}{A:q9}{E:z_}{s:t6}
noncomputable def tyK (b:Bool):Value:=if b then .type "int" else .type "tuple"
theorem Ai6 (r:ReadsAll h vs (d::ds) a):∃v as',vs[0]?=some v/\Reads h v d as':=by
 cases r with
 | cons c b=>grind
theorem Ux {h:Heap}{b:Bool}:∀{us:w6}{ds:w5}{as:v6},ReadsAll h us ds as->ds.all (Am5 b)=true->∃fs,KatTups h us fs/\fs.length=us.length/\∀v∈fs,Looks M h (typeOf v) (tyK b)
 | _,_,_,.nil,_=>⟨[],trivial,rfl,λv z=>nomatch z⟩
 | _,_,_,.cons (d:=d) r1 r2,hb=>by
  obtain⟨h1,h2⟩:=az.mp (show (Am5 b d&&_)=true from hb)
  obtain⟨fs,t,l,k⟩:=Ux r2 h2
  cases d with
  | tuple xs =>
   cases r1 with
   | tuple e1 e2 e3 e4 =>
    match xs,h1,e4 with
    | .int i::xs,h1,e4 =>
     obtain⟨v,as',f1,f2⟩:=Ai6 e4;have hb':b=true:=h1;subst hb'
     cases f2 with
     | int i t0=>
      exact⟨.int i t0::fs,KatTups.cons e1 e2 e3 (by rw[<- fO];exact f1) t,by rw[aR,aR,l],λv hv=>by
       rcases aD.mp hv with rfl | hv
       ·exact Looks.now
       ·exact k v hv⟩
    | .tuple ys::xs,h1,e4 =>
     obtain⟨v,as',f1,f2⟩:=Ai6 e4
     have hb':b=false:=by simpa[Am5] using h1
     subst hb'
     cases f2 with
     | tuple g1 g2 g3 g4=>
      exact⟨_::fs,KatTups.cons e1 e2 e3 (by rw[<- fO];exact f1) t,by rw[aR,aR,l],λv hv=>by
       rcases aD.mp hv with rfl | hv
       ·have q:=(Looks.ld (M:=M) (part:=none) g1).andThen (f:=λo=>pure o.cls) .now
        rw[g2]at q;exact q
       ·exact k v hv⟩
  | _=>cases h1
theorem Af6 (r:ReadsAll s.heap us ds a) (hb:ds.all (Am5 b)=true) (d:0<us.length) (h:Q (tuples' b) s):wpAny M A (keyKind' us.toArray) Q E s:=by
 obtain⟨c,t,l,k⟩:=Ux r hb
 refine kat_kind t (by lia) k (by simp_all) ?_
 cases b <;> exact h
theorem Aw1 : ∀{ds:w5},ds.all (Wa (if b then .ti else .tt))=true->ds.all (Am5 b)=true:=λ{ds} h=>by
 rw[aZ]at h ⊢;intro d a;have:=Qf (h d a)
 cases b
 ·obtain⟨_,_,rfl⟩:=this;rfl
 ·obtain⟨_,_,rfl⟩:=this;rfl
theorem A9t {kd:Kd}{us:w6}{ds:w5}{as:v6}{Q:SortKind->t6->Prop}(r:ReadsAll s.heap us ds as)(hb:ds.all (Wa kd)=true)(h0:2<=us.length)(h:Q (kdK kd) s):wpAny M A (keyKind' us.toArray) Q E s:=by
 cases kd with
 | ti=>exact Af6 (b:=true) r (Aw1 (b:=true) hb) (by lia) h
 | tt=>exact Af6 (b:=false) r (Aw1 (b:=false) hb) (by lia) h
theorem Wt {body:Value->PUnit->Sem (ForInStep PUnit)}{Iv:w6->t6->Prop}(step:∀x rest s,Iv (x::rest) s->wpAny M A (body x ⟨⟩) (λr s'=>r=.yield ⟨⟩/\Iv rest s') E s) :
 ∀(l:w6) (s:t6),Iv l s->wpAny M A (forIn l PUnit.unit body) (λ_ s'=>Iv [] s') E s
 | [],s,h=>by rw[gP];exact ak h
 | x::l,s,h=>by
  rw[eV]
  refine aj (aH (step x l s h) (λq s' hq=>?_) λ_ _ z=>z)
  obtain⟨rfl,h'⟩:=hq;exact Wt step l s' h'
end
section
variable {X:Cx}{pins:y_}{σ:St}{H:Hp}{s:t6}{h':Heap}
theorem Inv.adopt (I:Inv X pins σ H s) (k:∀b u,b≠D->s.heap.get? b=some u->h'.get? b=some u) (hn:H D=none) (h:D≠X.env.locals) (h1:X.s₀.heap.objs.size<=D)
 (h2:∀x c,X.env.cells.lookup x=some c->c≠D) (A:∀p∈X.pn++pins,p.1≠D) (i:z9 X.prog X.w (upd H D o) h' D o):Inv X pins σ (upd H D o) { s with heap:=h',toks:=t' }:=by
 have a:∀b u,H b=some u->b≠D:=λb u e z=>by simp_all
 refine I.step (g':=s.gens) (d':=s.drawn) (ch:=[D]) (λb f=>?_) (λb o _ _ d e _=>k b o (λz=>d (by simp[z])) e) (λb o _ _ d e _=>⟨o.slots,k b o (λz=>d (by grind)) e⟩) (λb o d e n=>by rw[Af (λz=>d (by simp[z]))];exact n)
  (λb o d e=>⟨o,k b o (λz=>d (by grind)) e⟩) (λb g e=>by rw[Af (a _ _ e)];exact e) (λb _ _ e=>by rw[Af (a _ _ e)];exact e) (λb y e=>by rw[Af (a _ _ e)];exact e) (λm j=>?_) (λb u e=>?_) I.bare
 ·grind
 ·obtain⟨o,t,l,w,r⟩:=j
  exact⟨o,t,l,k _ o (aC h) w,r⟩
 ·by_cases f:b=D
  ·subst f;rw[Am]at e;grind
  ·rw[Af f]at e
   refine (I.hok b u e).stay (λc v d q=>k c v ?_ q) (λc q=>by rw[Af (a _ _ q)];exact q) (λc g q=>by rw[Af (a _ _ q)];exact q) λc B g q=>by rw[Af (a _ _ q)];exact q
   grind
theorem Bn7 (F:FnOk X.prog X.w X.K X.mg X.base CX0 k f a ps sp) (hr:Room (k+2) X.A) (hb:Binds X.K a ps [])
 (I:Inv X pins σ H s) (r:Vals vs us) (h:sp vs H Q E0):wpAny (model X.prog X.w) X.A.in1.in1 (call (.ref f) us) (EP X pins σ Q) E s:=by
 have c:(us++[]).length=ps.length:=by rw[cG,<- r.length];exact F.len _ _ _ _ h
 refine fH (fK (F.run _ _ s H _ _ _ Q _ hr.in1.in1 I.env0.in1.in1 (hb s _ I.kIn c) (by grind) h) λr g d=>?_)
 cases r with
 | error e=>trivial
 | ok b =>
  cases b with
  | ret u=>exact I.after d
  | next=>assumption
  | brk=>assumption
  | cont=>trivial
end
def Ae8 (Ky:V->Hp->VK->Prop):m7->m7->Hp->(m7->Hp->Prop)->Prop
 | [],ks,H,k=>k ks H
 | x::xs,ks,H,k=>Ky x H (λkv H1=>Ae8 Ky xs (ks++[kv]) H1 k)
abbrev Aw2 (sp:Sp):m7->m7->Hp->(m7->Hp->Prop)->Prop:=Ae8 λx H Q=>sp [x] H Q E0
def A3n (vs ks:m7)(H:Hp)(Q:VK):Prop :=
 (vs.length<2/\∀p,H p=none->Q (.ref p) (upd H p (.lst vs))) \/
 (2<=vs.length/\vs.length<64/\∃ds kd p,TrL H ds ks/\ds.all (Wa kd)=true/\(∀d∈ds,Flat d)/\kEv (A0v kd ds) (kas_sort vs.length)=some p/\∀l,H l=none->Q (.ref l) (upd H l (.lst (p.toList.map λi=>vs.getD i .non))))
theorem Az3:∀{vs:m7}{us:w6},Vals vs us->∀i,RelV (vs.getD i .non) (us.getD i Value.none)
 | _,_,.nil,i=>rfl
 | _,_,.cons r rs,0=>r
 | _,_,.cons r rs,i+1=>Az3 rs i
theorem Xe {vs:m7}{us:w6}(r:Vals vs us):∀l:List Nat,Vals (l.map λi=>vs.getD i .non) (l.map λi=>us.getD i Value.none)
 | []=>.nil
 | i::l=>.cons (Az3 r i) (Xe r l)
theorem Wx {v:V}{u:Value}(h:RelV v u):∀{vs:m7}{us:w6},Vals vs us->Vals (vs++[v]) (us++[u])
 | _,_,.nil=>.cons h .nil
 | _,_,.cons r rs=>.cons r (Wx h rs)
theorem V0 {h:Heap}:∀{us:w6}{ds:w5}{as:v6},ReadsAll h us ds as->∀{i:Nat}{d:t_},ds[i]?=some d->∃as',Reads h (us.getD i Value.none) d as'
 | _,_,_,.nil,i,d,e=>by simp at e
 | _,_,_,.cons r rs,0,d,e=>by simp at e;subst e;exact⟨_,r⟩
 | _,_,_,.cons r rs,i+1,d,e=>V0 rs (by simpa using e)
section
variable {X:Cx}{pins:y_}{σ:St}{H:Hp}{s:t6}{D S:Addr}{e1 n:Nat}{Q:VK}{P:PySem.Fin->t6->Prop}{E:z_}{A:q9}
theorem Xr {d ous:w6} {st:SortSt}(O:X.s₀.heap.objs.size<=D) (G:X.s₀.heap.objs.size<=S) (w:D≠S) (hp:∀p∈X.pn++pins,p.1≠S/\p.1≠D)
 (I:Inv X (pins++[(S,seqObj "list" d.toArray n),(D,seqObj "list" #[] e1)]) σ H s) (hz:outs.length<=sizeLine) (hk:d.length<=sizeLine)
 (ho:(arrOf st).map (·.2)=List.toArray ous) (hf:failedOf st=none) (B:Vals outs ous) (q:∀l,H l=none->Q (.ref l) (upd H l (.lst outs)))
 (F:∀s',EP X pins σ Q (.ref D) s'->P (.done (.ret .none)) s'):wpAny (model X.prog X.w) A (ksk_tail D false e1 (.ref S) st) P E s:=by
 obtain⟨j,k,m,J,N⟩:=I.pin (S,seqObj "list" d.toArray n) (aF _ (aF _ a_));obtain⟨r,g,h,R,T⟩:=I.pin (D,seqObj "list" #[] e1) (aF _ (aF _ (bw _ a_)))
 have f:∀x c,X.env.cells.lookup x=some c->c≠S/\c≠D:=λx c e=>by
  obtain⟨v,U,ho,K⟩:=I.cell x c e
  grind
 have L:Inv X pins σ H s:=I.pins_of λp hp=>I.pin p (aF _ (bG _ hp))
 have M:Inv X pins σ H { s with heap:=s.heap.update S (Obj.mapSeq λ_=>#[]) }:=L.turned (t':=s.toks) (λb o i e=>(bK s.heap _ (aC i)).trans e) k m (.inr G) (λx c e=>(f x c e).1) (λp a=>(hp p a).1)
 have t:(s.heap.update S (Obj.mapSeq λ_=>(#[]:v7))).get? D=some (seqObj "list" #[] e1):=(bK s.heap _ (aC w)).trans r
 obtain⟨C,y⟩:∃C,((s.heap.update S (Obj.mapSeq _)).update D (Obj.mapSeq λ_=>ous.toArray)).get? D=some _:=⟨_,get?_update_seq t _⟩
 have z:=B.length;unfold ksk_tail;rw[ho]
 refine aj (iK j rfl ?_ (by simp_all) (aU _))
 refine aj (dZ ?_)
 refine aj (seqEpoch_at t rfl ?_)
 refine aj (iK t rfl ?_ (aU _) (by grind))
 rw[hf]
 simp
 refine ak (F _ ⟨.ref D,upd H D _,?_,rfl,q D g⟩)
 exact M.adopt (λb u i e=>(bK _ _ (aC i)).trans e) g h O (λx c e=>(f x c e).2) (λp a=>(hp p a).2) ⟨hz,ous,C,B,y⟩
theorem A6s (hu:A.units+64<cLine) (R:X.s₀.heap.objs.size<=D) (M:X.s₀.heap.objs.size<=S) (h:D≠S) (hp:∀p∈X.pn++pins,p.1≠S/\p.1≠D)
 (I:Inv X (pins++[(S,seqObj "list" a.toArray n),(D,seqObj "list" #[] e1)]) σ H s) (hz:vs.length<=sizeLine) (m:Vals vs us) (rk:Vals ks a) (hl:a.length=us.length) (hw:A3n vs ks H Q)
 (L:∀d,EP X pins σ Q (.ref D) d->P (.done (.ret .none)) d):wpAny (model X.prog X.w) A (ksk_end D false us.toArray e1 (.ref S) a.toArray) P E s:=by
 have k:=m.length;unfold ksk_end;simp only[cD,bB]
 rcases hw with ⟨Z,q⟩ | ⟨Z,U,w,T,p,t,u,g,f,q⟩
 ·have b:us.toArray.size<2:=by rw[cA];lia
  rw[if_pos b,if_pos b]
  refine aj (ak ?_)
  rw[StateT.run_pure]
  refine aj (ak ?_)
  refine Xr R M h hp I hz (by lia) ?_ rfl m q L
  show (a.toArray.zip us.toArray).map (·.2)=us.toArray
  apply Array.ext';simp only[Array.toList_map,Array.toList_zip]
  exact jr (l₁:=a) (l₂:=us) (by lia)
 ·have b:¬ us.toArray.size<2:=by rw[cA];lia
  rw[if_neg b,if_neg b];obtain⟨as,v⟩:=t.reads I rk
  refine aj (A9t v u (by lia) ?_)
  have o:us.length<64:=by lia
  rw[k]at f
  refine aj (aH (kat_run (Q:=λc d=>d=s/\arrOf c=p.map (kas_item (a.toArray.zip us.toArray))/\failedOf c=none/\p.size=us.length) (G:=λF d=>F=p/\d=s) hl (by lia) o (λF c d y K a3 a4=>?_) (A5u (B:=A0v T w) (λi j r C e W=>?_) _ p f ⟨rfl,rfl⟩)) ?_ λ_ _ z=>z)
  ·obtain⟨rfl,rfl⟩:=a4
   exact⟨rfl,K,a3,y⟩
  ·unfold A0v at e
   cases ei:w[i]? with
   | none=>rw[ei]at e;cases e
   | some di =>
    cases ej:w[j]? with
    | none=>rw[ei,ej]at e;cases e
    | some dj =>
     rw[ei,ej]at e;obtain⟨y,r1⟩:=V0 v ei;obtain⟨K,r2⟩:=V0 v ej;have J := bf ei;have O := bf ej;have N:=g _ J
     exact Bl3 r1 r2 N.1 (g _ O).1 (aZ.mp u _ J) (aZ.mp u _ O) (by have:=N.2;lia) e W
  ·rintro⟨⟨⟩,c⟩ d ⟨rfl,x,hf,Y⟩
   refine Xr R M h hp I ?_ (by lia) (kat_snds hl x) hf (Xe m _) q L
   rw[ao,fL];lia
def B5h (X:Cx)(pins:y_)(σ:St)(f:Addr)(Z:Hp->Prop)(Ky:V->Hp->VK->Prop):Prop :=
 ∀(pins':y_) (s:t6) (H:Hp) (x:V) (u:Value) (Q':VK),Inv X (pins++pins') σ H s->Z H->RelV x u->Ky x H Q'->wpAny (model X.prog X.w) X.A.in1.in1 (call (.ref f) [u]) (EP X (pins++pins') σ λv H'=>Z H'/\Q' v H') (λ_ _=>False) s
theorem A1e (q:B5h X pins σ f Z C) (hr:Room (k+2) X.A)
 (U:X.s₀.heap.objs.size<=D) (J:X.s₀.heap.objs.size<=S) (t:D≠S) (hp:∀p∈X.pn++pins,p.1≠S/\p.1≠D)
 (I:Inv X (pins++[(S,seqObj "list" #[] 0),(D,seqObj "list" #[] e1)]) σ H s) (hZ:Z H) (hz:vs.length<=sizeLine) (o:Vals vs us) (h:Ae8 C vs [] H (λks c=>A3n vs ks c Q))
 (hP:∀r,EP X pins σ Q (.ref D) r->P (.done (.ret .none)) r):wpAny (model X.prog X.w) X.A.in1.in1 (ksk_rest D (.ref f) false us.toArray e1 (.ref S)) P E s:=by
 have G:=o.length;unfold ksk_rest
 refine aj (cP ?_)
 rw[<- fZ]
 refine aj (aH (Wt (Iv:=λb s=>∃ks a n c i,Inv X (pins++[(S,seqObj "list" (List.toArray a) n),(D,seqObj "list" #[] e1)]) σ c s/\Vals ks a/\Vals i b/\a.length+b.length=us.length/\Z c/\Ae8 C i ks c (λks c=>A3n vs ks c Q)) ?_ us s ⟨[],[],0,H,vs,I,.nil,o,by simp,hZ,h⟩) (λ_ r T=>?_) λ_ _ z=>z)
 ·rintro x b s ⟨ks,a,n,c,i,g,u,w,K,e,m⟩
  rw[aR]at K
  cases w with
  | cons N Y =>
   refine aj (dh (aH (q _ s c _ x _ g e N m) (λj s2 h2=>?_) λ_ _ z=>z.elim))
   obtain⟨O,R,L,A,B,y⟩:=h2;obtain⟨l,t2,t3,W,t5⟩:=L.pin (S,seqObj "list" a.toArray n) (aF _ (aF _ a_))
   have ea:(List.toArray a).push j=List.toArray (a++[j]):=by simp
   dsimp only
   refine aj (iK l rfl ?_ (by rw[cA];lia) (by rw[Array.size_push,cA];lia))
   have M:=get?_update_seq l (·.push j)
   rw[ea]at M
   refine ak ⟨rfl,ks++[O],a++[j],_,R,_,L.recS J (λp d=>?_) (λp d=>(hp p (bG _ d)).1) M (λv z=>by cases z),Wx A u,Y,?_,B,y⟩
   ·grind
   ·rw[aM,gH];lia
 ·obtain⟨ks,a,n,c,i,g,u,F,K,e,m⟩:=T
  cases F
  obtain⟨l,t2,t3,W,t5⟩:=g.pin _ (aF _ (aF _ a_))
  refine aj (listItems_at l rfl ?_)
  have hu:X.A.in1.in1.units+64<cLine:=by have:=hr.un;show X.A.units+1+1+64<_;lia
  exact A6s hu U J t hp g hz o u (by omega) m hP
theorem Aq4 (F:B5h X pins σ f Z N) (hr:Room (k+2) X.A)
 (I:Inv X pins σ H s) (hZ:Z H) (A:SqL X.K H a vs\/SqT X.K H a vs) (h:Ae8 N vs [] H (λks H1=>A3n vs ks H1 Q)) :
 wpAny (model X.prog X.w) X.A (call (.builtin "sorted") [.ref a] [(Str.ofString "key",.ref f)]) (EP X pins σ Q) E s:=by
 obtain⟨d,T,o,n,t,hT,ho,J,hd,w⟩:∃(d:w6) (T:String) (o:Obj) (n:Nat),Vals vs d/\(T = "list" \/ T = "tuple")/\s.heap.get? a=some o/\o.cls=.type T/\o.data=.seq d.toArray n/\vs.length<=sizeLine:=by
  rcases A with A | A
  ·obtain⟨d,t,⟨o,n,r,j,c,g4⟩,w⟩:=I.list A
   exact⟨d, "list",o,n,t,.inl rfl,r,j,by first | exact c | exact g4,w⟩
  ·obtain⟨d,t,it,w⟩:=I.tuple A
   obtain⟨o,r,j,n,c⟩:=it;exact⟨d, "tuple",o,n,t,.inr rfl,r,j,c,w⟩
 have O:=t.length
 refine call_function_entry_kw kind_sorted plain_sorted entry_sorted (ksk_s1 _ _) ?_
 unfold Builtin.«sorted»
 refine aj (m:=checkCount "sorted" 1 1 _) (ak ?_)
 refine aj (wpAny_collect_seq a hT ho J hd (λg U=>?_) (by rw[cA];lia))
 refine aj (wpAny_newList ?_ (by simp;lia))
 have l:Inv X pins σ H { s with heap:=g }:=I.kept (t':=s.toks) U
 have le:∀b o,s.heap.get? b=some o->b<g.objs.size:=λb o e=>aA (U b o e)
 have P:X.s₀.heap.objs.size<=g.objs.size:=l.sz;generalize hg1:g.push (seqObj "list" d.toArray 0)=r
 have W:r.objs.size=g.objs.size+1:=by rw[<- hg1,size_push']
 have B:r.get? g.objs.size=some (seqObj "list" d.toArray 0):=by rw[<- hg1];exact aG _ rfl
 refine aj (bA (wpAny_call_entry_kw slot_list_sort ⟨_,B,rfl⟩ entry_list_sort ?_ (ksk_l1 _ _)))
 show wpAny (model X.prog X.w) X.A.in1.in1 (Builtin.«list.sort» ⟨[.ref g.objs.size],[(Str.ofString "key",.ref f)]⟩) _ _ _
 rw[ksk_t1];unfold ksk_tree
 refine aj (listItems_at B rfl ?_)
 refine aj (iK B rfl ?_ (by rw[cA];lia) (aU _))
 generalize hg2:r.update g.objs.size (Obj.mapSeq λ_=>(#[]:v7))=j
 obtain⟨C,x⟩:∃C,j.get? g.objs.size=some (seqObj "list" #[] C):=⟨_,by rw[<- hg2];exact get?_update_seq B λ_=>#[]⟩
 have Y:j.objs.size=g.objs.size+1:=by rw[<- hg2,Heap.size_update,W]
 refine aj (seqEpoch_at x rfl ?_)
 refine aj (wpAny_newTuple ?_ (by simp;lia))
 refine aj (wpAny_newList ?_ (aU _))
 refine bA ?_
 generalize hg3:j.push { cls:=.type "tuple",data:=.seq d.toArray.toList.toArray }=c
 have e3:c.objs.size=g.objs.size+2:=by rw[<- hg3,bW,Y]
 have M:=l.fpOk (b:=g.objs.size) (au _) (l.hok.fresh (au _))
 have G:=l.fpOk (b:=c.objs.size) (by show g.objs.size<=_;lia) (l.hok.fresh (by show g.objs.size<=_;lia))
 have y:∀b u,g.get? b=some u->(c.push { cls:=.type "list",data:=.seq ([]:w6).toArray }).get? b=some u:=λb u e=>by
  have K:b<g.objs.size:=aA e
  have q1:r.get? b=some u:=by rw[<- hg1];exact aB _ e
  have q2:j.get? b=some u:=by rw[<- hg2];exact(bK _ _ (bT K)).trans q1
  have q3:c.get? b=some u:=by rw[<- hg3];exact aB _ q2
  exact aB _ q3
 have R:Inv X pins σ H { s with heap:=c.push { cls:=.type "list",data:=.seq ([]:w6).toArray } }:=l.kept (t':=s.toks) y
 have gS:(c.push { cls:=.type "list",data:=.seq ([]:w6).toArray }).get? c.objs.size=some (seqObj "list" #[] 0):=aG _ rfl
 have L:(c.push { cls:=.type "list",data:=.seq ([]:w6).toArray }).get? g.objs.size=some (seqObj "list" #[] C):=aB _ (by rw[<- hg3];exact aB _ x)
 have I3:Inv X (pins++[(c.objs.size,seqObj "list" #[] 0),(g.objs.size,seqObj "list" #[] C)]) σ H { s with heap:=c.push { cls:=.type "list",data:=.seq ([]:w6).toArray } }:=R.pins_of λp i=>by
  rcases aY.mp i with z | z
  ·exact R.pin p (aF _ z)
  ·rcases aD.mp z with rfl | z
   ·exact⟨gS,G.1,G.2.1,G.2.2.1,λv z=>by cases z⟩
   ·rw[aK.mp z]
    exact⟨L,M.1,M.2.1,M.2.2.1,λv z=>by cases z⟩
 refine A1e (us:=d) (D:=g.objs.size) (S:=c.objs.size) F hr P (aq P (by lia)) (λz=>by have z:g.objs.size=c.objs.size:=z;lia) (λp i=>⟨λz=>?_,λz=>?_⟩) I3 hZ w t h λs' q=>⟨_,rfl,ak ⟨_,rfl,q⟩⟩
 ·exact absurd (aA (l.pin p i).1) (by rw[z];show ¬ c.objs.size<g.objs.size;lia)
 ·exact absurd (aA (l.pin p i).1) (by rw[z];show ¬ g.objs.size<g.objs.size;lia)
theorem Ak8 (F:FnOk X.prog X.w X.K X.mg X.base CX0 k f c ps sp) (hr:Room (k+2) X.A) (hb:Binds X.K c ps [])
 (I:Inv X pins σ H s) (g:SqL X.K H a vs\/SqT X.K H a vs) (h:Aw2 sp vs [] H (λks e=>A3n vs ks e Q)) :
 wpAny (model X.prog X.w) X.A (call (.builtin "sorted") [.ref a] [(Str.ofString "key",.ref f)]) (EP X pins σ Q) E s :=
 Aq4 (λb s H x u m I _ r j=>aH (Bn7 F hr hb I (.cons r .nil) j) (λ_ _ ⟨v,i,l,d,q⟩=>⟨v,i,l,d,trivial,q⟩) λ_ _ z=>z) hr I trivial g h
end
section
variable {X:Cx}{p pos:Pos}{e:Expr}{t tk:TA}{kws:List Keyword}
def B2q (K:v9)(f:Addr)(sp:Sp)(t tk:TA):TE:=λσ H Q=>t σ H λvs H1=>tk σ H1 λzs H2=>∃a xs,vs=[.ref a]/\zs=[.ref f]/\(SqL K H2 a xs\/SqT K H2 a xs)/\Aw2 sp xs [] H2 (λks H3=>A3n xs ks H3 Q)
theorem A7b (F:FnOk X.prog X.w X.K X.mg X.base CX0 k f c ps sp) (hr:Room (k+2) X.A) (hb:Binds X.K c ps []) (hg:Gl X "sorted") (hm:X.mg "sorted" = none)
 (ha:PA X [e] t) (hkw:PK X kws tk) (hall:(backToKw pos (keywordEach kws X.env)).all (·.1.isSome)=true:=by rfl) (hks:(backToKw pos (keywordEach kws X.env)).filterMap (·.1)=[Str.ofString "key"]:=by rfl)
 (he:backTo pos (starEach [e] X.env)=(false,eval e X.env)::backTo pos (starEach [] X.env):=by rfl) (hpl:(backTo pos (starEach [e] X.env)).any (·.1)=false:=by rfl) (hno:(backToKw pos (keywordEach kws X.env)).any (·.1.isNone)=false:=by rfl) :
 PE X (.Call (.Name "sorted" p) [e] kws pos) (B2q X.K f sp t tk):=by
 intro b s σ H Q I h
 refine gB (J9 I hg hm boot_sorted ?_ (by decide) (by rfl))
 refine PyProof.Rows.callWith_kw (thn (ha _ _ s _ H _ I h) λus s1 ⟨vs,H1,j,r,q⟩=>?_) he hpl hall hno
 refine thn (hkw _ _ _ _ _ _ j q) λws s2 ⟨zs,H2,i,l,g⟩=>?_
 obtain⟨a,xs,rfl,rfl,n,m⟩:=g;obtain⟨u,rfl,o⟩:=vals1 r
 cases (o)
 obtain⟨uf,rfl,d⟩:=vals1 l
 cases (d)
 rw[hks];exact Ak8 F hr hb i n m
theorem A6a (a:X.K=Kq) (F:FnOk X.prog X.w X.K X.mg X.base CX0 k f b ps sp) (hr:Room (k+2) X.A) (hb:Binds X.K b ps []) (hg:Gl X "sorted") (hm:X.mg "sorted" = none)
 (ha:QA X [e] t) (hkw:QK X kws tk) (hall:(backToKw pos (keywordEach kws X.env)).all (·.1.isSome)=true:=by rfl) (hks:(backToKw pos (keywordEach kws X.env)).filterMap (·.1)=[Str.ofString "key"]:=by rfl)
 (he:backTo pos (starEach [e] X.env)=(false,eval e X.env)::backTo pos (starEach [] X.env):=by rfl) (hpl:(backTo pos (starEach [e] X.env)).any (·.1)=false:=by rfl) (hno:(backToKw pos (keywordEach kws X.env)).any (·.1.isNone)=false:=by rfl) :
 QE X (.Call (.Name "sorted" p) [e] kws pos) (B2q Kq f sp t tk):=by
 subst a;exact⟨A7b F hr hb hg hm ha.get hkw.get hall hks he hpl hno⟩
end
end L2
namespace L2
open PySem PySem.Spec PyProof.Rows
noncomputable def Ah9:Value->Bool
 | .bool b=>b
 | _=>false
theorem Aa2:∀{bs:List Bool}{us:w6},Vals (bs.map V.bl) us->us=bs.map Value.bool
 | [],us,h=>by cases h;rfl
 | b::bs,us,h=>by
  cases h with
  | cons r rs =>
   rw[Aa2 rs]
   cases r;rfl
section
variable {X:Cx}
def At1 (K:v9):V->m7->Hp->VK->Prop:=λx vs H Q=>∃(a:Addr) (bs:List Bool) (j:Nat),x=.ref a/\vs=[.bl true]/\SqL K H a (bs.map V.bl)/\bs[j]?=some true/\(∀m<j,bs[m]?≠some true)/\j<1000000/\Q (.int j) H
theorem A3f {Kq:v9}(hKq:X.K=Kq)(hu:X.A.units+64<cLine):MtM X "list.index" (At1 Kq):=by
 subst hKq;intro pins s σ H x vs v us Q I rx rv h;obtain⟨a,bs,j,rfl,rfl,hq,hj,hno,hjs,q⟩:=h
 cases rx
 obtain⟨u,rfl,ru⟩:=rv.one
 cases ru
 obtain⟨its,r,pl,hz⟩:=I.list hq
 cases Aa2 r
 obtain⟨o,n,e,hc,hdn,hd⟩:=pl;obtain⟨c0,dd,dat,sl⟩:=o
 dsimp only at hc hd hdn
 subst hc hd hdn;obtain⟨lj,ej⟩:=bH.mp hj
 refine cW F.slot_list_index ⟨_,e,rfl⟩ F.entry_list_index (F.args_list_index_2 _ _) (SeqAt.list_indexAt a (bs.map Value.bool).toArray n none sl (.bool true) Ah9 j (by simpa using lj) (by lia) ?_ ?_) ⟨e,λw hw=>?_,?_⟩
 ·simp[Ah9,ej]
 ·intro m hm hlt
  have hm':m<bs.length:=by simpa using hm
  have h2:=hno m hlt;rw[bC hm']at h2
  simpa[Ah9] using h2
 ·obtain⟨b,hb,rfl⟩:∃b∈bs,Value.bool b=w:=by simpa using hw
  have:=gh (.bool b) (.bool true) X.A.in1 s _ _ _ _ (.bool b) (.bool true) rfl rfl (by show X.A.units+1+0<_;lia)
  cases b <;> exact this
 ·exact⟨.int _,H,I.tok _,⟨_,rfl⟩,q⟩
end
section
variable {X:Cx}
def B3i:V->q_->q_->Hp->VK->Prop:=λx lo hi H Q=>∃z:Str,x=.str z/\z.length<=sizeLine/\Q (.str (Txt.slice z lo hi)) H
theorem part_of (h:IsPart v o):∃p:Option (Int×Tok),v=partValue p/\p.map (·.1)=o:=by
 cases h with
 | none=>exact⟨none,rfl,rfl⟩
 | int i t=>exact⟨some (i,t),rfl,rfl⟩
theorem B1b:SlR X B3i:=by
 intro a s σ H x v vl vu lo hi sl Q I d c b e h;obtain⟨z,rfl,f,q⟩:=h;obtain⟨t,rfl⟩:=d;obtain⟨l,rfl,rfl⟩:=part_of b;obtain⟨u,rfl,rfl⟩:=part_of e
 refine⟨"str",_,F.slot_str_getitem.lookup,typeIs_str _ _ _,wpAny_getItem_str_slice (l:=l) (u:=u) (st:=none) c rfl ?_⟩
 exact post_val_or_str ⟨aq (Txt.slice_le z _ _) f,λt' k=>⟨.str _,H,I.tok _,⟨_,rfl⟩,q⟩⟩
end
section
variable {P:u9}{w:World}{A:q9}{E:z_}{s:t6}
structure Bp4 (h:Heap) (t1 t2:Bool) (z ti to i1 i2 a b p0:Addr) (b1:Bool) (k:Nat):Prop where
 zip:h.get? z=some { cls:=.type "zip",data:=.fields #[rawInt p0,.bool b1,.bool false,.ref ti,.ref to] }
 ins:IsPair h ti (.ref i1) (.ref i2)
 held:∃o,h.get? p0=some o
 one:ItAt t1 h i1 a k
 two:ItAt t2 h i2 b k
theorem Ah0 (e:s.heap.get? p=some o) (h:Q (some o) s):wpAny M A (loadIfAlive p) Q E s:=λb q a=>by
 show Sem.wp M _ (.loadIfAlive p _) _ _ q s
 simp_all
theorem Ac4 {z c d b:Addr} (hz:s.heap.get? z=some { cls:=.type "zip",data:=.fields #[rawInt b,.bool e,.bool false,.ref c,.ref d] }) (g:s.heap.get? b=some h)
 (q:∀a:Heap,a.get? z=some { cls:=.type "zip",data:=.fields #[rawInt b,.bool true,.bool false,.ref c,.ref d] }->Heap.SameBut z s.heap a->Q false { s with heap:=a }):wpAny (model P w) A (Builtin.SmallTypes.ownedTupleIsFree (.ref z)) Q E s:=by
 apply aj;apply aW hz rfl rfl
 refine aj (Ah0 (by simpa using g) ?_)
 refine aj ?_
 apply aW hz rfl rfl
 cases e with
 | true=>exact ak (q _ hz (Heap.SameBut.refl _ _))
 | false =>
  apply aj
  apply e_ hz (by simp)
  intro a i f;exact ak (q _ i f)
theorem A2l {Q:z_}(d:zA z l t i h a b) (y:Bp4 s.heap t1 t2 z l t i h a b C L k) (hp:C∉[z,l,t,i,h])
 (ha:SqA t1 s.heap a xs) (hb:SqA t2 s.heap b ys) (hx:xs[k]?=some x) (F:ys[k]?=some x')
 (q:∀h',Bp4 h' t1 t2 z l t i h a b C true (k+1)->IsPair h' s.heap.objs.size x x'->(∀c o,c∉[z,l,t,i,h]->s.heap.get? c=some o->h'.get? c=some o)->Q (.ref s.heap.objs.size) { s with heap:=h' }) :
 wpAny (model P w) A (Builtin.«zip.__next__» ⟨[.ref z],[]⟩) (λf z=>∃v,f=.done (.ret v)/\Q v z) E s:=by
 have G:=d.na;have D:=d.nb;simp only[aD,bI,bJ,not_or]at G D hp;obtain⟨M,I⟩:=y.held;apply aj (m:=field (.ref z) 2);apply aW y.zip rfl (x:=.bool false) rfl;apply aj (m:=field (.ref z) 3);apply aW y.zip rfl (x:=.ref l) rfl;apply aj;apply cJ y.ins rfl;apply aj (m:=Builtin.SmallTypes.ownedTupleIsFree (.ref z))
 refine Ac4 y.zip I λU K n=>?_
 simp only[cD,bB];apply aj;rw[<- fZ];simp only[eV,gP];apply aj;apply aj;apply bA;apply aj (m:=Builtin.SmallTypes.nextOf (.ref i))
 refine next_item (y.one.stay λo e=>n.extBut _ _ d.z_i1 e) (ha.stay λo e=>n.extBut _ _ G.1 e) hx λT O u=>?_
 apply ak;apply ak;apply aj;apply aj;apply bA;apply aj (m:=Builtin.SmallTypes.nextOf (.ref h))
 refine next_item (y.two.stay λo e=>u.extBut _ _ d.i1_i2.symm (n.extBut _ _ d.z_i2 e)) (hb.stay λo e=>u.extBut _ _ D.2.2.2.1 (n.extBut _ _ D.1 e)) F λr J B=>?_
 apply ak;apply ak;apply ak;apply aj
 refine wpAny_newTuple ?_ (show 2<=sizeLine by decide)
 have H:r.objs.size=s.heap.objs.size:=by rw[B.1,u.1,n.1]
 have g:∀c o,c≠z->c≠i->c≠h->s.heap.get? c=some o->r.get? c=some o:=λc o N S R e=>B.extBut _ _ R (u.extBut _ _ S (n.extBut _ _ N e))
 refine ak ⟨_,rfl,?_⟩
 show Q (.ref r.objs.size) _
 rw[H]
 have j:∀{c:Addr} {o:Obj},r.get? c=some o->(r.push { cls:=.type "tuple",data:=.seq #[x,x'] }).get? c=some o:=λe=>aB _ e
 refine q _ ⟨j (B.extBut _ _ d.z_i2.symm (u.extBut _ _ d.z_i1.symm K)),j (g _ _ d.z_ti d.ti_i1 d.ti_i2 y.ins),⟨M,j (g _ _ hp.1 hp.2.2.2.1 hp.2.2.2.2 I)⟩,(O.stay λo e=>B.extBut _ _ d.i1_i2 e).stay λo e=>j e,J.stay λo e=>j e⟩ (by rw[<- H];exact aG _ rfl) λc o p e=>?_
 simp at p
 exact j (g c o p.1 p.2.2.2.1 p.2.2.2.2 e)
end
section
variable {P:u9}{w:World}{A:q9}{E:z_}{s:t6}{t1 t2:Bool}{z ti to i1 i2 a b p0:Addr}{b1:Bool}{k:Nat}{xs ys:v7}
theorem A0n (f:A.handled=none) (d:zA z ti to i1 i2 a b) (y:Bp4 s.heap t1 t2 z ti to i1 i2 a b p0 b1 k) (ha:SqA t1 s.heap a xs) (hx:xs[k]?=none)
 (q:∀h' e,(∀c o,c∉[z,ti,to,i1,i2]->s.heap.get? c=some o->h'.get? c=some o)->(∃o,h'.get? e=some o/\o.cls=.type "StopIteration")->E (.ref e) { s with heap:=h' }) :
 wpAny (model P w) A (Builtin.«zip.__next__» ⟨[.ref z],[]⟩) F E s:=by
 have i:=d.na;simp only[aD,bI,bJ,not_or]at i;obtain⟨n,j⟩:=y.held;apply aj (m:=field (.ref z) 2);apply aW y.zip rfl (x:=.bool false) rfl;apply aj (m:=field (.ref z) 3);apply aW y.zip rfl (x:=.ref ti) rfl;apply aj;apply cJ y.ins rfl;apply aj (m:=Builtin.SmallTypes.ownedTupleIsFree (.ref z))
 refine Ac4 y.zip j λr u h=>?_
 simp only[cD,bB];apply aj;rw[<- fZ];simp only[eV,gP];apply aj;apply aj;apply bA;apply aj (m:=Builtin.SmallTypes.nextOf (.ref i1))
 refine next_end f (y.one.stay λo e=>h.extBut _ _ d.z_i1 e) (ha.stay λo e=>h.extBut _ _ i.1 e) hx λt x l g=>?_
 refine q _ x (λc o p e=>?_) g
 simp at p
 exact l _ _ p.2.2.2.1 (h.extBut _ _ p.1 e)
def Zs (h:Heap)(t1 t2:Bool)(z ti to i1 i2 a b:Addr)(k:Nat):Prop:=(k=0/\ZipAt h t1 t2 z ti to i1 i2 a b .none 0)\/∃p0 b1,p0∉[z,ti,to,i1,i2]/\Bp4 h t1 t2 z ti to i1 i2 a b p0 b1 k
theorem Zs.ty (y:Zs s.heap t1 t2 z ti to i1 i2 a b k):s.TypeIs (.ref z) "zip" := by
 rcases y with ⟨_,y⟩ | ⟨_,_,_,y⟩
 ·exact⟨_,y.zip,rfl⟩
 ·exact⟨_,y.zip,rfl⟩
theorem Zs.lt (y:Zs s.heap t1 t2 z ti to i1 i2 a b k):∀c∈[z,ti,i1,i2],c<s.heap.objs.size:=by
 intro c d
 simp at d
 rcases y with ⟨_,y⟩ | ⟨_,_,_,y⟩
 ·rcases d with rfl | rfl | rfl | rfl
  ·exact aA y.zip
  ·exact aA y.ins
  ·obtain⟨o,e,_⟩:=y.one.obj;exact aA e
  ·obtain⟨o,e,_⟩:=y.two.obj;exact aA e
 ·rcases d with rfl | rfl | rfl | rfl
  ·exact aA y.zip
  ·exact aA y.ins
  ·obtain⟨o,e,_⟩:=y.one.obj;exact aA e
  ·obtain⟨o,e,_⟩:=y.two.obj;exact aA e
theorem Zs.keep (y:Zs h t1 t2 z ti to i1 i2 a b k) (hk:0<k) (d:D∉[z,ti,to,i1,i2]) (c:Heap.SameBut D h h') (j:∀o,h.get? D=some o->∃o',h'.get? D=some o'):Zs h' t1 t2 z ti to i1 i2 a b k:=by
 simp at d
 rcases y with ⟨e,_⟩ | ⟨f,i,g,y⟩
 ·lia
 ·refine .inr ⟨f,i,g,?_⟩
  obtain⟨o,e⟩:=y.held
  refine⟨c.extBut _ _ (aC d.1) y.zip,c.extBut _ _ (aC d.2.1) y.ins,?_,y.one.stay λo e=>c.extBut _ _ (aC d.2.2.2.1) e,y.two.stay λo e=>c.extBut _ _ (aC d.2.2.2.2) e⟩
  by_cases z:f=D
  ·grind
  ·exact⟨o,c.extBut _ _ z e⟩
theorem A3a (d:zA z ti to i1 i2 a b) (n:to<s.heap.objs.size) (y:Zs s.heap t1 t2 z ti to i1 i2 a b k) (ha:SqA t1 s.heap a xs) (hb:SqA t2 s.heap b ys) (hx:xs[k]?=some x) (g:ys[k]?=some x')
 (q:∀h',Zs h' t1 t2 z ti to i1 i2 a b (k+1)->IsPair h' s.heap.objs.size x x'->s.heap.objs.size<h'.objs.size->(∀c o,c∉[z,ti,to,i1,i2]->s.heap.get? c=some o->h'.get? c=some o)->Q (some (.ref s.heap.objs.size)) { s with heap:=h' }) :
 wpAny (model P w) A (pyNext (.ref z)) Q E s:=by
 have j:=y.ty;unfold pyNext;apply aj;apply dh
 refine cM (name:="__next__") j iM ?_
 refine bO iM j F.entry_zip_next ?_ (F.args_zip_next_1 _)
 have p:s.heap.objs.size∉[z,ti,to,i1,i2]:=λm=>by
  have l:=y.lt
  grind
 rcases y with ⟨rfl,y⟩ | ⟨t,b1,i,y⟩
 ·refine Bb9 d y ha hb hx g λr f e h=>?_
  exact ak (q _ (.inr ⟨s.heap.objs.size,false,p,⟨f.zip,f.ins,⟨_,e⟩,f.one,f.two⟩⟩) e (aA e) h)
 ·refine A2l d y i ha hb hx g λr f e h=>?_
  exact ak (q _ (.inr ⟨t,true,i,f⟩) e (aA e) h)
theorem ZipAt.kept (y:ZipAt h t1 t2 z ti to i1 i2 a b f k) (d:∀c o,h.get? c=some o->h'.get? c=some o):ZipAt h' t1 t2 z ti to i1 i2 a b f k:=by
 obtain⟨u,v,e⟩:=y.outs
 exact⟨d _ _ y.zip,d _ _ y.ins,⟨u,v,d _ _ e⟩,y.one.stay λo e=>d _ _ e,y.two.stay λo e=>d _ _ e⟩
end
end L2
namespace L2
open PySem PySem.Spec PyProof.Rows PySem.W
section
variable {P:u9}{w:World}{H H':Hp}{h h1 h2 B:Heap}{a b:Addr}{o:HO}{outer:List Env}
theorem z9.there (x:z9 P w H h a o):∃u,h.get? a=some u:=by
 cases o with
 | lst d=>obtain⟨_,_,_,_,e⟩:=x;grind
 | tup d=>obtain⟨_,_,_,o,e,_⟩:=x;grind
 | dK b=>obtain⟨_,_,_,_,o,_,_,e,_⟩:=x;grind
 | dT b=>obtain⟨_,_,_,_,o,_,_,e,_⟩:=x;grind
 | set S n=>obtain⟨o,_,_,_,e,_⟩:=x;grind
 | ins C g c=>obtain⟨_,_,_,e,_⟩:=x;grind
 | own y=>exact x
 | xd c=>obtain⟨_,⟨_,_,_,e,_⟩,_⟩:=x;grind
 | rng j k=>obtain⟨_,_,_,e⟩:=x;grind
 | frz l u=>obtain⟨e,_⟩:=x;grind
 | tbl q=>obtain⟨_,e,_⟩:=x;grind
 | met f y=>exact⟨_,(x)⟩
 | ext i=>exact x.2.1
def Cov (fs:v6)(H':Hp)(h0 h B:Heap):Prop:=∀b o,h.get? b=some o->b∉fs->((∃u,h0.get? b=some u)\/H' b≠none)->B.get? b=some o
theorem Bz5 (u:Un (frs outer) [] H H' h h1)(hk:HOk P w H' h1)(i:Cov (frs outer) H' h h1 B)(r:h1.FunFrames B outer)(k:∀b∈frs outer,H' b=none)(st:B.StaysIn h2)(s:h1.UpToSlots h2) :
 Un (frs outer) [] H H' h h2/\HOk P w H' h2:=by
 have f:∀b:Addr,b∉([]:List _):=λb z=>nomatch z
 refine⟨⟨λb o e n c _=>st b o (i b o (u.keep b o e n c (f b)) c (.inl ⟨o,e⟩)),λb o e n c _=>?_,λb o e n _=>u.free b o e n (f b),λb o e _=>?_,u.tups,u.frzs,u.tbls⟩,λa o e=>?_⟩
 ·obtain⟨y,d⟩:=u.slot b o e n c (f b)
  obtain⟨_,p,g,l⟩:=r.mem c;rw[d]at g;cases g;obtain⟨j,v⟩:=s b _ d l
  grind
 ·obtain⟨p,d⟩:=u.there b o e (f b)
  by_cases c:b∈frs outer
  ·obtain⟨_,A,g,l⟩:=r.mem c
   obtain⟨j,v⟩:=s b _ g l
   grind
  ·exact⟨p,st b _ (i b _ d c (.inl ⟨o,e⟩))⟩
 ·have m := λb u t e=>st b u (i b u e (λz=>t (k b z)) (.inr t))
  refine (hk a o e).stay (λb u C x=>m b u ?_ x) (λ_ q=>q) λ_ _ q=>q
  grind
end
def TrD (h B:Heap)(e:Addr)(c:Value)(d:Option Addr)(fl:Value):Prop :=
 ∃oe vs T oT ts,h.get? e=some oe/\(oe.cls=c/\oe.dict=d)/\oe.data=.fields vs/\vs[1]?=some (.ref T)/\(B.get? T=none/\T≠e)/\h.get? T=some oT/\oT.data=.fields ts/\ts[3]?=some fl
structure FlyD (B:Heap) (l:List Env) (e:Addr) (c:Value) (d:Option Addr) (fl:Value) (h:Heap):Prop where
 st:B.StaysIn h
 no:B.get? e=none
 ff:h.FunFrames B l
 tr:TrD h B e c d fl
theorem Uk (o:Obj)(f:v7->v7):(o.mapFields f).dict=o.dict:=by
 obtain⟨c,d,a,b⟩:=o
 cases a <;> rfl
section
variable {M:Model}{A:q9}{E:z_}{s:t6}{B:Heap}{env:Env}{l outer:List Env}{L e:Addr}{oe:Obj}{vs:v7}{c fl:Value}{d:Option Addr}{Q:Unit->t6->Prop}
theorem FlyD.there {h:Heap}(x:FlyD B l e c d fl h):∃o,h.get? e=some o/\o.cls=c/\o.dict=d/\∃vs,o.data=.fields vs:=let ⟨oe,vs,_,_,_,he,hc,hd,_⟩:=x.tr; ⟨oe,he,hc.1,hc.2,vs,hd⟩
theorem FlyD.out {h:Heap}(x:FlyD B (env::l) e c d fl h):FlyD B l e c d fl h:=⟨x.st,x.no,x.ff.2.2,x.tr⟩
theorem Tj {h:Heap}{T:Addr}{a:Obj}{ts:v7}{f:Obj->Obj}(d:h.get? T=some a)(hd:a.data=.fields ts):(∀b,b≠T->(h.update T f).get? b=h.get? b)/\∀b o,h.get? b=some o->(∀vs,o.data≠.fields vs)->b≠T :=
 ⟨λb n=>bK _ _ (aC n),λb o q c z=>by grind⟩
theorem Ab6 {c:Value}{hn:Bool}(k:A.frames=some (env::outer))(st:B.StaysIn s.heap)(y:B.get? e=none)(hl:s.heap.FunFrames B (env::outer))(G:env.frame=some L)(he:s.heap.get? e=some oe)(hd:oe.data=.fields vs)(hz:1<vs.size)
 (x:∀h',FlyD B (env::outer) e oe.cls oe.dict (rawInt L) h'->s.heap.UpToSlots h'->Q () { s with heap:=h' }) :
 wpAny M A (frameOf env >>= λa=>entryPlaceOf L hn >>= λg=>EntryCells.newEntry c a .none (rawInt L) .none g >>= λb=>setField (.ref e) 1 b) Q E s:=by
 have C:e∉(env::outer).filterMap (·.frame):=λm=>by
  obtain⟨_,o,q,D⟩:=hl.mem m
  simp_all
 refine aj (wpAny_frameOf_fun k hl G λd j=>aj (wpAny_entryPlaceOf λg F=>?_))
 unfold EntryCells.newEntry newFields
 refine aj (c7 ?_ (F.sizeOk5 _ _ _ _ _))
 have r:([c,.ref L,.none,rawInt L,.none]++(if g.isEmpty then List.replicate 6 Value.none else g)).toArray[3]?=some (rawInt L):=by simp
 have u:d.get? e=some oe:=(j.2.1 e C).trans he
 have v:B.StaysIn d:=λb o q=>(j.2.1 b λm=>by rw[(hl.mem m).1]at q;cases q).trans (st b o q)
 generalize ([c,.ref L,.none,rawInt L,.none]++(if g.isEmpty then List.replicate 6 Value.none else g)).toArray=ts at r
 generalize hob:({ cls:=.type "traceback",dict:=none,data:=.fields ts }:Obj)=ob
 have h:ob.data=.fields ts:=by grind
 have l:ob.isFreed=false:=eZ h;have p:=aB ob u;have t:d.objs.size≠e:=bT (aA u)
 obtain⟨i,D⟩:=Tj (f:=Obj.mapFields (·.setIfInBounds 1 (.ref d.objs.size))) p hd
 have w:=dD hd (·.setIfInBounds 1 (.ref d.objs.size))
 have I:∀b o,b≠e->d.get? b=some o->((d.push _).update e _).get? b=some o:=λb o n q=>(i b n).trans (aB _ q)
 refine gO p hd hz (x _ ⟨λb o q=>I b o λz=>by grind (v b o q),y,hl.of_keeps λb o q n=>?_,?_⟩ λb o q n=>?_)
 ·obtain⟨J,H⟩:=j.2.2 b o q
  grind
 ·exact⟨_,_,d.objs.size,ob,ts,bU _ p (eZ w),⟨iH _ _,Uk _ _⟩,w,by grind,⟨v.fresh,t⟩,(i _ t).trans (aG _ l),h,r⟩
 ·obtain⟨J,H⟩:=j.2.2 b o q
  grind
theorem Ao2 (a:A.frames=some (env::outer))(st:B.StaysIn s.heap)(d:B.get? e=none)(hl:s.heap.FunFrames B (env::outer))(b:env.frame=some L)(he:s.heap.get? e=some oe)(hd:oe.data=.fields vs)(h1:vs[1]?=some .none)
 (c:∀h',FlyD B (env::outer) e oe.cls oe.dict (rawInt L) h'->s.heap.UpToSlots h'->Q () { s with heap:=h' }):wpAny M A (noteFrame (.ref e) env) Q E s:=by
 unfold noteFrame;simp only[b]
 refine aj (aW he hd h1 ?_)
 exact Ab6 a st d hl b he hd (iQ.mp h1).1 c
theorem Av1 (h:A.frames=some (env::outer))(l:env.frame=some L)(x:FlyD B (env::outer) e c d .none s.heap)
 (D:∀g,FlyD B (env::outer) e c d (rawInt L) g->s.heap.UpToSlots g->Q () { s with heap:=g }):wpAny M A (noteFrame (.ref e) env) Q E s:=by
 obtain⟨v,y,w,oe,vs,T,oT,ts,r,⟨rfl,rfl⟩,k,m,⟨hB,C⟩,j,i,p⟩:=x
 obtain⟨a,t⟩:=Tj (f:=Obj.mapFields (·.setIfInBounds 3 .none)) j i
 unfold noteFrame;simp only[l]
 refine aj (aW r k m ?_)
 rw[if_pos (by simp)]
 refine aj (aW j i p ?_)
 refine aj (gO j i (iQ.mp p).1 ?_)
 exact Ab6 h (λb o q=>(a b λz=>by simp_all).trans (v b o q)) y (w.of_keeps λb o q n=>⟨o,(a b (t b o q n)).trans q,rfl⟩) l ((a e (aC C)).trans r) k (iQ.mp m).1
  λg f u=>D _ f λb o q n=>u b o ((a b (t b o q n)).trans q) n
theorem Sx (x:FlyD B l e c d fl s.heap)(v:∀h',FlyD B l e c d .none h'->s.heap.UpToSlots h'->Q () { s with heap:=h' }):wpAny M A (setFlight (.ref e) none) Q E s:=by
 obtain⟨F,D,t,H,w,T,J,I,k,u,p,m,⟨y,j⟩,h,g,C⟩:=x;obtain⟨a,r⟩:=Tj h g;have G:=(iQ.mp C).1
 refine aj (aW k p m ?_)
 have i:=dD g (·.setIfInBounds 3 ((none:Option _).elim Value.none λf=>rawInt f))
 refine gO h g G (v _ ⟨λb o q=>(a b λz=>by simp_all).trans (F b o q),D,t.of_keeps λb o q n=>⟨o,(a b (r b o q n)).trans q,rfl⟩,?_⟩ λb o q n=>⟨o.slots,(a b (r b o q n)).trans q⟩)
 exact⟨H,w,T,_,_,(a e (aC j)).trans k,u,p,m,⟨y,j⟩,bU _ h (eZ i),i,by grind⟩
theorem A6k (a:A.frames=some (env::outer))(f:env.frame=some L)(x:FlyD B (env::outer) e c d .none s.heap)(g:∀h',FlyD B outer e c d .none h'->s.heap.UpToSlots h'->Q () { s with heap:=h' }):wpAny M A (leaving env (.ref e)) Q E s :=
 aj (Av1 a f x λk j h=>Sx j λl i b=>g _ i.out (h.trans b))
theorem Ac0 (a:A.frames=some (env::outer))(st:B.StaysIn s.heap)(c:B.get? e=none)(hl:s.heap.FunFrames B (env::outer))(d:env.frame=some L)(he:s.heap.get? e=some oe)(hd:oe.data=.fields vs)(h1:vs[1]?=some .none)
 (f:∀h',FlyD B outer e oe.cls oe.dict .none h'->s.heap.UpToSlots h'->Q () { s with heap:=h' }):wpAny M A (leaving env (.ref e)) Q E s :=
 aj (Ao2 a st c hl d he hd h1 λh1 g h=>Sx g λj i b=>f _ i.out (h.trans b))
end
structure Fly (outer:List Env) (H':Hp) (h0:Heap) (a:Addr) (cls:Value) (d:Option Addr) (h:Heap):Prop where
 fl:∃B,FlyD B outer a cls d .none h/\Cov (frs outer) H' h0 h B
 new:∀b o,h0.get? b=some o->b≠a
 free:H' a=none
def CXe (P:u9)(w:World):CXT:=λouter H s E e s'=>∃a C d H',e=.ref a/\Fly outer H' s.heap a (.ref C) d s'.heap/\s'.os=s.os/\AllBare s'.gens/\Un (frs outer) [] H H' s.heap s'.heap/\HOk P w H' s'.heap/\E (.ref C) d H'
section
variable {X:Cx}{pins:y_}{σ:St}{H H':Hp}{s s':t6}
theorem Inv.flown {h2 B:Heap}{tk:Nat}(I:Inv X pins σ H s)(u:Un (frs X.stack) [] H H' s.heap s'.heap)(hk:HOk X.prog X.w H' s'.heap)(h:s'.os=s.os)(a:AllBare s'.gens)
 (l:s'.heap.FunFrames B X.stack) (c:Cov (frs X.stack) H' s.heap s'.heap B) (st:B.StaysIn h2) (g:s'.heap.UpToSlots h2):Inv X pins σ H' { s' with heap:=h2,toks:=tk }:=by
 have d:∀b∈frs _,H' b=none:=λb e=>by
  obtain⟨_,o,i,_⟩:=I.stack.mem e
  exact u.free b o i (I.stkFree b e) λz=>nomatch z
 obtain⟨j,k⟩:=Bz5 u hk c l d st g
 obtain⟨v,f,I2,_,rfl⟩:=I.after (s':={ s' with heap:=h2,toks:=tk }) (Q:=λ_ f=>f=H') ⟨.non,H',h,a,j,k,rfl,rfl⟩
 grind
end
section
variable {P:u9}{w:World}{K:v9}{mg:x_}{base:Heap}{N:v4}{qual:Str}{scope:Scope}{f:Addr}{cd:Value}{A:q9}{outer:List Env}{s₀:t6}{H₀:Hp}{E:XK}
theorem Qd:Ql (CXe P w) (Rw (CXe P w) P w K mg base N qual scope f cd A outer s₀ H₀ E) E:=by
 intro t σ H s e x I h;obtain⟨a,C,d,D,rfl,⟨⟨B,y,m⟩,Q,L⟩,v,c,u,j,q⟩:=h
 refine A6k I.ok.frames rfl y λG g F=>?_
 have n:Inv (Rw (CXe P w) P w K mg base N qual scope f _ A _ _ _ E) _ _ _ { x with heap:=G }:=I.flown u j v c y.ff m g.1 F
 have J:∀b o,s₀.heap.get? b=some o->∃r,s.heap.get? b=some _:=λb o e=>I.base.there b o e λz=>nomatch z
 refine⟨a,C,d,D,rfl,⟨⟨B,g,λb o e hf l=>?_⟩,λb o e=>?_,L⟩,v.trans I.os,c,n.base,n.hok,q⟩
 ·have nl:b≠(envOfC qual scope s₀.heap.objs.size f cd).locals:=by
   rintro rfl
   rcases l with ⟨M,k⟩ | l
   ·exact absurd (aA k) (bj _)
   ·exact l n.free
  have p:b∉frs _:=λz=>by
   rcases aD.mp (I.stkSub b z) with q | q
   ·trivial
   trivial
  have i:∃r,x.heap.get? b=some r:=by
   rcases l with ⟨M,k⟩ | l
   ·obtain⟨o1,O⟩:=J b _ k
    exact u.there b _ O λz=>nomatch z
   ·cases q':D b with
    | none=>grind
    | some ho=>exact(j b _ q').there
  obtain⟨r,k⟩:=i
  have:=m b _ k p (by
   grind)
  have e2:=g.1 b _ this
  simp_all
 grind
end
structure MadeX (h h':Heap) (e C:Addr) (d:Option Addr):Prop where
 keeps:∀b o,h.get? b=some o->h'.get? b=some o
 new:h.get? e=none
 there:∃oe vs,h'.get? e=some oe/\oe.cls=.ref C/\oe.dict=d/\oe.data=.fields vs/\vs[1]?=some .none
def Raises (X:Cx)(E:XK):Prop:=∀(pins:y_) (σ:St) (H:Hp) (s:t6) (h':Heap) (e C:Addr) (d:Option Addr),Inv X pins σ H s->MadeX s.heap h' e C d->E (.ref C) d H->X.xe (.ref e) { s with heap:=h' }
section
variable {P:u9}{w:World}{K:v9}{mg:x_}{base:Heap}{N:v4}{qual:Str}{scope:Scope}{f:Addr}{cd:Value}{A:q9}{outer:List Env}{s₀:t6}{H₀:Hp}{E:XK}
theorem Mv:Raises (Rw (CXe P w) P w K mg base N qual scope f cd A outer s₀ H₀ E) E:=by
 intro F σ H s p e C d I c q;obtain⟨oe,vs,U,mc,L,M,O⟩:=c.there
 let X:=Rw (CXe P w) P w K mg base N qual scope f cd A outer s₀ H₀ E
 have n:(hideAll s.heap (frs X.stack)).StaysIn s.heap:=λb o z=>of_hideAll _ z
 have V:s.heap.FunFrames (hideAll s.heap (frs X.stack)) X.stack:=funFrames_hide I.stack λv Y b a=>fG.mpr ⟨v,Y,a⟩
 have m:p.FunFrames (hideAll s.heap (frs X.stack)) X.stack:=V.of_keeps λb o z _=>⟨o,c.keeps b o z,rfl⟩
 have h:HOk P w H p:=I.hok.kept c.keeps
 have J:H e=none:=by
  cases z:H e with
  | none=>rfl
  | some t =>
   obtain⟨u,l⟩:=(I.hok e t z).there;rw[c.new]at l;cases l
 have k:Cov (frs X.stack) H _ _ _:=λb o z x a=>by
  have:∃u,s.heap.get? b=some u:=by
   rcases a with a | a
   ·exact a
   ·cases y:H b with
    | none=>exact absurd y a
    | some t=>exact(I.hok b _ y).there
  obtain⟨u,l⟩:=this;have:=c.keeps b u l;rw[z]at this;cases this;exact hideAll_get _ l x
 have Q:(hideAll s.heap (frs X.stack)).get? e=none:=by
  cases z:(hideAll _ _).get? e with
  | none=>rfl
  | some o =>
   have y:=n e o z;rw[c.new]at y;cases y
 refine Ac0 I.ok.frames (λb o z=>c.keeps b o (n b o z)) Q m rfl U M O λR g T=>?_
 rw[mc,L]at g
 have D:Inv X _ _ H { s with heap:=R }:=I.flown (s':={ s with heap:=p }) (Un.kept c.keeps) h rfl I.bare m k g.1 T
 have G:∀b o,s₀.heap.get? b=some o->∃r,s.heap.get? b=some _:=λb o z=>I.base.there b o z λz=>nomatch z
 refine⟨e,C,d,H,rfl,⟨⟨_,g,λb o z x a=>?_⟩,λb o z y=>?_,J⟩,I.os,I.bare,D.base,D.hok,q⟩
 ·have W:b≠(envOfC qual scope s₀.heap.objs.size f cd).locals:=by
   rintro rfl
   rcases a with ⟨S,i⟩ | a
   ·exact absurd (aA i) (bj _)
   ·exact a D.free
  have B:b∉frs _:=λz=>by
   rcases aD.mp (I.stkSub b z) with q | q
   ·exact W q
   ·exact x q
  have j:∃r,p.get? b=some r:=by
   rcases a with ⟨S,i⟩ | a
   ·obtain⟨o1,Z⟩:=G b _ i
    exact⟨o1,c.keeps b _ Z⟩
   ·cases q':H b with
    | none=>exact absurd q' a
    | some t=>exact(h b _ q').there
  obtain⟨r,i⟩:=j
  have:=k b _ i B (by
   grind)
  have e2:=g.1 b _ this
  simp_all
 ·obtain⟨r,i⟩:=G b o z
  rw[y,c.new]at i;cases i
end
theorem A9i {h h':Heap}{e C:Addr}{a:w6}(x:Heap.MadeExcOf h h' e (.ref C) a):MadeX h h' e C none:=let ⟨_,q,_⟩:=x.there; ⟨x.keeps,x.new,_,_,q,rfl,rfl,rfl,rfl⟩
theorem Gi {K:v9}{h:Heap}{C:Addr}(X:K.In h)(q:Wj K C=true):∃c N g i m j b k a dd k0 k1 k2 k3 k5,h.get? C=some (excClassObj g i C N m c true j b k a dd k0 k1 k2 k3 k5 "ValueError.__new__")/\OwnTail h bmV c:=by
 unfold Wj at q
 split at q
 ·rename_i d1 D v F
  have E:=X _ _ F
  simp at q
  obtain⟨⟨⟨y,B⟩,e⟩,d⟩:=q
  split at e
  ·rename_i A c x
   split at d
   ·rename_i r s t u n p o
    simp at e d
    obtain⟨H,w⟩:=e;obtain⟨g,m,z,f,i,hd,j,b,k,a,G⟩:=D;subst H x y B d
    obtain rfl:v=#[r,s,t,u,some (.builtin "ValueError.__new__"),p]:=by
     obtain⟨l⟩:=v
     dsimp only at o
     rw[o]
    exact⟨c,f,g,i,m,j,b,k,a,_,r,s,t,u,p,E,tail_of_in X w⟩
   ·cases d
  ·cases e
 ·cases q
theorem Bi2 {K:v9}{h:Heap}{C:Addr}(X:K.In h)(q:exP K C=true):∃c N e f g i a d b l m n k r p mN,h.get? C=some (excClassObj e f C N g c true i a d b l m n k r p "ValueError.__new__")/\h.Ns N mN/\mN "__init__" = none/\OwnTail h bmV c:=by
 obtain⟨v,j⟩:=az.mp q;obtain⟨c,N,e,f,g,i,a,d,b,l,m,n,k,r,p,s,T⟩:=Gi X v;unfold noI at j
 cases hl:K.lookup C with
 | none=>grind
 | some o =>
  rw[hl]at j
  cases (X _ _ hl).symm.trans s
  obtain⟨t,u⟩:=az.mp (show (nsOkIn K N&&nsIn K N _==some _)=true from j)
  exact⟨c,N,e,f,g,i,a,d,b,l,m,n,k,r,p,h.nsMap N,s,.of_isNs (isNs_of_in X t),nsMap_none_of_in X t (cL.mp u),T⟩
section
variable {X:Cx}{x:Str}{C:Addr}{np cpos pos:Pos}{e:Expr}{es:v_}{t:TA}{E:XK}
def A8c (C:Addr)(E:XK)(t:TA):TS:=λ_ σ H=>t σ H λvs H1=>vs.length<=sizeLine/\E (.ref C) none H1
theorem Up (M:Raises X E)(hc:X.calm=true)(hg:Gl X x)(hm:X.mg x=some (.ref C))(A:exP X.K C=true)(ha:QA X (e::es) t)(hdb:(x==("__debug__" : Str))=false:=by decide)
 (he:starEach (e::es) X.env=(false,eval e X.env)::starEach es X.env:=by rfl) (hpl:(backTo cpos (starEach es X.env)).any (·.1)=false:=by rfl) :
 QS X (.Raise (some (.Call (.Name x np) (e::es) [] cpos)) none pos) (A8c C E t):=by
 obtain⟨ha⟩:=ha
 refine⟨?_⟩
 intro k s S H D I h;obtain⟨R,J,m,B,u,w,b,j,a,l,g,n,o,i,p,O,F,G,c,T⟩:=Bi2 I.mod.kin A
 have f:(backTo cpos (starEach (e::es) X.env)).any (·.1)=false:=by
  rw[he]
  show (false||(backTo cpos (starEach es X.env)).any (·.1))=false
  grind
 refine wpAny_Raise_call_subT (C:=C) (nm:=m) (q:=B) (N:=J) (bs:=u) (hdct:=true) (sn:=w) (sub:=b) (ab:=j) (col:=a) (dd:=l) (k0:=g) (k1:=n) (k2:=o) (k3:=i) (k5:=p) jt (T.hasType PySem.F.excBase_ValueError.hasBase) (I.ok.hd hc) f c (Io I hg hm ⟨rfl,?_⟩ hdb)
 have r:=ha cpos _ s _ H _ I h;rw[he]at r ⊢
 refine eQ (aH r (λU V ⟨P,Q,v,L,z,K⟩=>?_) λ_ _ z=>z)
 have d := v.bk
 exact⟨rfl,by rw[<- L.length];grind,d _ _ F,G.keeps d,T.keeps d,λW Y y=>M _ _ _ _ _ _ C _ v (A9i y) K⟩
end
section
variable {X:Cx}{pins:y_}{σ:St}{H:Hp}{s s':t6}{CX:CXT}{k:Nat}{f:Addr}{fd:u6}{ps:v4}{sp:Sp}{dvs:m7}{ds:w6}{E:XK}{x:Str}{p pos:Pos}{e:Expr}{es:v_}{t:TA}{Q:VK}
theorem A9e (F:FnOk X.prog X.w X.K X.mg X.base CX k f fd ps sp)(hr:Room k X.A)(hg:Gl X x)(hm:X.mg x=some (.ref f))(hk:PySem.W.keepIn X.K (.ref f)=true)(hb:Binds X.K fd ps ds)(hd:Vals dvs ds)(hx0:∀e s,¬ X.xe e s)
 (ha:PA X (e::es) t) (I:Inv X pins σ H s) (h:t σ H λvs H1=>sp (vs++dvs) H1 Q E) (hdb:(x==("__debug__" : Str))=false:=by decide) (he:starEach (e::es) X.env=(false,eval e X.env)::starEach es X.env:=by rfl) (hpl:(backTo pos (starEach es X.env)).any (·.1)=false:=by rfl) :
 wpAny (model X.prog X.w) X.A (eval (.Call (.Name x p) (e::es) [] pos) X.env) (EP X pins σ Q) (λev s'=>∃H1 s1,Inv X pins σ H1 s1/\CX X.stack H1 s1 E ev s') s:=by
 have arg:=aH (E':=λev s'=>∃H1 s1,Inv X pins σ H1 s1/\CX X.stack H1 s1 E ev s') (ha pos pins s σ H _ I h) (λ_ _ z=>z) (λev s2 z=>absurd z (hx0 ev s2))
 refine gB (Io I hg hm ?_ hdb)
 refine PySem.W.callWith_K (h₀:=X.base) I.ok.mod.kin hk (thn arg λus s1 ⟨vs,H1,I1,r,q⟩=>⟨I1.kIn,?_⟩) he hpl
 have r2:Vals (vs++dvs) (us++ds):=r.append hd
 have hl:(us++ds).length=ps.length:=by rw[<- r2.length];exact F.len _ _ _ _ q
 refine fH (fK (F.run X.A X.stack s1 H1 ⟨us,[]⟩ (us++ds) (vs++dvs) Q E hr I1.env0 (hb s1 us I1.kIn hl) r2 q) λr s' hq=>?_)
 cases r with
 | error ev=>exact⟨H1,s1,I1,hq⟩
 | ok fl =>
  cases fl with
  | ret u=>exact I1.after hq
  | next=>exact False.elim hq
  | brk=>exact False.elim hq
  | cont=>exact False.elim hq
noncomputable def K6 (a C:Addr) (d:Option Addr):HO:=.ext λh=>∃o,h.get? a=some o/\o.cls=.ref C/\o.dict=d/\∃vs,o.data=.fields vs
theorem Bg4 {P:u9}{w:World}{a C:Addr}{d:Option Addr}{h:Heap}{o:Obj}(e:h.get? a=some o)(c:o.cls=.ref C)(hd:o.dict=d/\∃vs,o.data=.fields vs):z9 P w H h a (K6 a C d) :=
 ⟨⟨o,e,c,hd⟩,⟨o,e⟩,λf b ⟨o,e,c⟩ k=>⟨o,k o e,c⟩⟩
theorem Inv.track {a:Addr}{o:HO}(I:Inv X pins σ H s)(hn:H a=none)(w:X.s₀.heap.get? a=none)(l:a≠X.env.locals)(h2:∀x c,X.env.cells.lookup x=some c->c≠a)(m:∀p∈X.pn++pins,p.1≠a)
 (i:z9 X.prog X.w (upd H a o) s.heap a o):Inv X pins σ (upd H a o) s:=by
 have d:∀b u,H b=some u->b≠a:=λb u e z=>by grind
 have h:∀b u,X.s₀.heap.get? b=some u->b≠a:=λb u e z=>by simp_all
 refine⟨I.ok,I.os,I.bare,⟨I.base.keep,I.base.slot,λb u e n j=>by rw[Af (h b u e)];exact I.base.free b u e n j,I.base.there,λb f e=>by
  have:=I.base.tups b f e
  rw[Af (d _ _ this)];exact this,λb u v e=>by
  have:=I.base.frzs b u v e
  rw[Af (d _ _ this)];exact this,λb A e=>by
  have:=I.base.tbls b _ e
  rw[Af (d _ _ this)];exact this⟩,I.loc,I.cell,by rw[Af (aC l)];exact I.free,λy c e=>by rw[Af (h2 y c e)];exact I.freeC y c e,λp g=>?_,λb u e=>?_,I.len⟩
 ·obtain⟨k,q,r⟩:=I.pin p g
  exact⟨k,by rw[Af (m p g)];exact q,r⟩
 ·by_cases hb:b=a
  ·subst hb
   rw[Am]at e;grind
  ·rw[Af hb]at e
   exact(I.hok b u e).stay (λc v _ z=>z) (λc z=>by rw[Af (d _ _ z)];exact z) (λc f z=>by rw[Af (d _ _ z)];exact z) λc t f z=>by rw[Af (d _ _ z)];exact z
theorem Inv.unbound {j:Nat}{n:Str}{h':Heap}{m x:x_}{tk:Nat}(I:Inv X pins σ H s)(hN:X.N.Nodup)(hj:X.N[j]?=some n)(hm:s.heap.Ns X.env.locals m)(t:h'.Ns X.env.locals x)(l:∀y,y≠n->x y=m y)(J:Heap.SameBut X.env.locals s.heap h') :
 Inv X pins (σ.set j none) H { s with heap:=h',toks:=tk }:=by
 have d:∀b u,b≠X.env.locals->s.heap.get? b=some u->h'.get? b=some u:=λb u K e=>J.extBut b u K e
 have A:∀b u,X.s₀.heap.get? b=some u->b≠X.env.locals:=λb u e z=>by
  have:=aA e;rw[z]at this;exact absurd (aP this I.ok.above) (bj _)
 have B:∀{y:Str} {c:Addr} {v:u_},X.env.cells.lookup y=some c->s.heap.IsCell c v->h'.IsCell c v:=λ{y c v} e ⟨o,N,M⟩=>⟨o,d c o (I.cne y c e) N,M⟩
 refine⟨I.ok,I.os,I.bare,⟨λb u e n p g=>d b u (A b u e) (I.base.keep b u e n p g),λb u e n p g=>?_,I.base.free,λb u e g=>?_,I.base.tups,I.base.frzs,I.base.tbls⟩,⟨x,t,λi y v k D T=>?_⟩,λy c e=>?_,I.free,I.freeC,λq U=>?_,λb u e=>?_,by rw[bD];exact I.len⟩
 ·obtain⟨G,q⟩:=I.base.slot b u e n p g
  exact⟨G,d b _ (A b u e) q⟩
 ·obtain⟨C,q⟩:=I.base.there b u e g
  exact⟨C,d b C (A b u e) q⟩
 ·have E:i≠j:=λz=>by
   grind
  rw[bQ (aC E)]at D;obtain⟨L,w,F⟩:=I.loc
  have O:L=m:=by
   obtain⟨o1,P,p1,g1,d1,_,f1⟩:=w;obtain⟨o2,Q,p2,Z,d2,_,f2⟩:=hm
   grind
  subst O;obtain⟨u,r,R⟩:=F i y v k D T
  refine⟨u,r,?_⟩
  rcases R with ⟨f,a⟩ | ⟨f,c,a,h⟩
  ·have S:y≠n:=λz=>E (by
    subst z
    exact(List.getElem?_inj (bH.mp k).1 hN).mp (k.trans hj.symm))
   exact .inl ⟨f,by rw[l y S];exact a⟩
  ·exact .inr ⟨f,c,a,B a h⟩
 ·obtain⟨v,z⟩:=I.cell y c e
  exact⟨v,B e z⟩
 ·obtain⟨f,a,h,V⟩:=I.pin q U
  exact⟨d _ _ h f,a,h,V⟩
 ·have W:∀b u v,H b=some u->s.heap.get? b=some v->h'.get? b=some v:=λb u v z e=>d b v (λy=>by rw[y,I.free]at z;cases z) e
  refine (I.hok b u e).stay (λc v Y z=>?_) (λ_ z=>z) λ_ _ z=>z
  grind
noncomputable def Q6 (X:Cx) (a:Addr):Cx:={ X with A:=X.A.mark (some (.ref a)),calm:=false,xe:=λ_ _=>False }
theorem Inv.mark (I:Inv X pins σ H s)(a:Addr):Inv (Q6 X a) pins σ H s :=
 ⟨⟨I.ok.mod,I.ok.kind,I.ok.glob,I.ok.blt,I.ok.above,I.ok.inj,I.ok.has,I.ok.cab,(λz=>nomatch z),I.ok.frames,I.ok.stk,I.ok.exf,I.ok.bs,I.ok.bsz,I.ok.noex,I.ok.exfs,I.ok.funs,I.ok.frf,I.ok.tab⟩,I.os,I.bare,I.base,I.loc,I.cell,I.free,I.freeC,I.pin,I.hok,I.len⟩
theorem Inv.unmark {a:Addr}(b:X.Ok)(I:Inv (Q6 X a) pins σ H s):Inv X pins σ H s:=⟨b,I.os,I.bare,I.base,I.loc,I.cell,I.free,I.freeC,I.pin,I.hok,I.len⟩
end
section
variable {X:Cx}{pins:y_}{σ:St}{H H1:Hp}{s s1 s':t6}{E:XK}{D:Ends}{y n:Str}{Fc:Addr}{yp hpos:Pos}{b₀:Stmt}{suite:List Stmt}{th:TS}{j:Nat}{ev:Value}
theorem A2d (U:X.ex=[])(hs:X.stack=X.env::X.outer/\X.env.frame=some X.env.locals)(hN:X.N.Nodup)(hj:X.N[j]?=some n)(l:X.env.scope.names.lookup n=some .local)(hg:Gl X y)(hm:X.mg y=some (.ref Fc))(hsu:∀a,PSs (Q6 X a) (b₀::suite) th)
 (I:Inv X pins σ H1 s1) (cx:CXe X.prog X.w X.stack H1 s1 E ev s') (hE:∀C d t,E (.ref C) d t->exmOne X.K (.ref C) (.ref Fc)=some true/\∀a,t a=none->th { nx:=λZ H3=>D.nx (Z.set j none) H3,rt:=D.rt } (σ.set j (some (.ref a))) (upd t a (K6 a C d)))
 (hdb:(y==("__debug__" : Str))=false:=by decide) :
 wpAny (model X.prog X.w) X.A (noteFrame ev X.env) (λ_ R=>wpAny (model X.prog X.w) X.A (setFlight ev none) (λ_ L=>wpAny (model X.prog X.w) X.A (handleBy ev X.env [.ExceptHandler (some (.Name y yp)) (some n) (b₀::suite) hpos]) (SP X pins D) X.xe L) X.xe R) X.xe s':=by
 obtain⟨a,C,d,t,rfl,⟨⟨B,fl,N⟩,k,fr⟩,os,r,u,Q,q⟩:=cx;obtain⟨hex,G⟩:=hE C d t q;have G:=G a fr;have H:=fl;rw[hs.1]at H
 refine Av1 (I.ok.frames.trans (cu some hs.1)) hs.2 H λh4 J K=>?_
 refine Sx (s:={ s' with heap:=h4 }) J λS A P=>?_
 have I5:Inv X pins σ t { s' with heap:=S }:=I.flown (tk:=s'.toks) u Q os r fl.ff N A.1 (K.trans P)
 obtain⟨ob,W,Y,_⟩:=A.there;have LT:Looks (model X.prog X.w) S (typeOf (.ref a)) (.ref C):=Y▸(Looks.ld W).andThen .now;have LX:=exm_one (M:=model X.prog X.w) (h:=S) I5.kIn LT hex
 refine wpAny_handleBy_cons (codeAny_handlers_test (Io (X:=Q6 X a) (I5.mark a) hg hm ?_ hdb)) (by intro z;cases z)
 refine LX.here ?_
 refine codeAny_handlers_suite_as ?_
 refine Sx (s:={ s' with heap:=S }) A λh6 O up6=>?_
 have I6:Inv X pins σ t { s' with heap:=h6 }:=I.flown (tk:=s'.toks) u Q os r fl.ff N O.1 ((K.trans P).trans up6)
 obtain⟨o6,ho6,hc6,hd6⟩:=O.there
 have n0:X.s₀.heap.get? a=none:=by
  cases z:X.s₀.heap.get? a with
  | none=>rfl
  | some o0 =>
   obtain⟨o1,e1⟩:=I.base.there a o0 z (by rw[U];simp)
   exact absurd rfl (k a o1 e1)
 have I7:Inv X pins σ (upd t a (K6 a C d)) { s' with heap:=h6 }:=I6.track fr n0 (λz=>by
  obtain⟨m,⟨o,es,ep,e,_⟩,_⟩:=I.loc
  exact k _ o e z.symm) (λy c e z=>by
  obtain⟨v,o,e1,_⟩:=I.cell y c e
  exact k c o e1 z) (λp hp z=>k _ _ (I.pin p hp).1 z) (Bg4 ho6 hc6 hd6)
 refine La (v:=.ref a) I7 hN hj (.inl l) rfl (λs8 I8=>?_) (.inr l)
 refine aH (hsu a _ _ _ _ _ (I8.mark a) G) (λfw s9 T=>?_) λ_ _ z=>z.elim
 have x:(X.env.scope.kind==.class||X.env.scope.kind==.module&&X.env.locals != X.env.globals)=false:=by rw[I.ok.kind];rfl
 cases fw with
 | next =>
  obtain⟨V,H9,i,F⟩:=T;have i:=i.unmark I.ok;obtain⟨m,g,_⟩:=id i.loc
  exact wpAny_nameGoes_keeps l g x λh10 v f sb=>⟨_,H9,i.unbound hN hj g f (λy hy=>if_neg hy) sb,F⟩
 | ret w =>
  obtain⟨v,V,H9,i,r9,F⟩:=T;have i:=i.unmark I.ok;obtain⟨m,g,_⟩:=id i.loc
  exact wpAny_nameGoes_keeps l g x λh10 v' f sb=>⟨v,_,H9,i.unbound hN hj g f (λy hy=>if_neg hy) sb,r9,F⟩
 | brk=>obtain⟨_,_,_,F⟩:=T;exact F.elim
 | cont=>obtain⟨_,_,_,F⟩:=T;exact F.elim
end
section
variable {X:Cx}{k:Nat}{f:Addr}{fd:u6}{ps:v4}{sp:Sp}{x y n:Str}{p pos epos cpos yp hpos:Pos}{e:Expr}{es:v_}{t:TA}{Fc:Addr}{b₀:Stmt}{suite:List Stmt}{th:TS}{j i:Nat}
def B2z (K:v9)(Fc:Addr)(j:Nat)(sp:Sp)(t:TA)(i:Option Nat)(th:TS):TS:=λD σ H=>t σ H λvs H1=>sp vs H1 (λu H2=>D.nx (match i with | some i=>σ.set i (some u) | none=>σ) H2)
 (λc d H2=>∃C,c=.ref C/\exmOne K c (.ref Fc)=some true/\∀a,H2 a=none->th { nx:=λσ2 H3=>D.nx (σ2.set j none) H3,rt:=D.rt } (σ.set j (some (.ref a))) (upd H2 a (K6 a C d)))
theorem Bn9 (F:FnOk X.prog X.w X.K X.mg X.base (CXe X.prog X.w) k f fd ps sp)(hr:Room k X.A)(hgf:Gl X x)(hmf:X.mg x=some (.ref f))(hk:PySem.W.keepIn X.K (.ref f)=true)(hb:Binds X.K fd ps [])(hxe:∀e s,¬ X.xe e s)(ha:PA X (e::es) t)
 (hx0:X.ex=[]) (hs:X.stack=X.env::X.outer/\X.env.frame=some X.env.locals) (hN:X.N.Nodup) (hj:X.N[j]?=some n) (hlo:X.env.scope.names.lookup n=some .local) (hg:Gl X y) (hm:X.mg y=some (.ref Fc)) (hsu:∀a,PSs (Q6 X a) (b₀::suite) th)
 (hd1:(x==("__debug__" : Str))=false:=by decide) (hd2:(y==("__debug__" : Str))=false:=by decide) (he:starEach (e::es) X.env=(false,eval e X.env)::starEach es X.env:=by rfl) (hpl:(backTo cpos (starEach es X.env)).any (·.1)=false:=by rfl)
 (hsw:swapsWith (.Call (.Name x p) (e::es) [] cpos) none epos.line X.env=pure false:=by rfl) :
 PS X (.Try [.Expr (.Call (.Name x p) (e::es) [] cpos) epos] [.ExceptHandler (some (.Name y yp)) (some n) (b₀::suite) hpos] [] [] pos) (B2z X.K Fc j sp t none th):=by
 intro pins s σ H D I h
 have h0:t σ H λvs H1=>sp (vs++[]) H1 (λu H2=>D.nx σ H2) (λc d H2=>∃C,c=.ref C/\exmOne X.K c (.ref Fc)=some true/\∀a,H2 a=none->th { nx:=λσ2 H3=>D.nx (σ2.set j none) H3,rt:=D.rt } (σ.set j (some (.ref a))) (upd H2 a (K6 a C d))):=by
  simp only[cG];exact h
 refine wpAny_Try_except (iy (wpAny_Expr_any ?_ I.quiet hsw))
 refine aH (A9e F hr hgf hmf hk hb .nil hxe ha I h0 hd1 he hpl) (λu s1 ⟨v1,H1,I1,r1,q1⟩=>?_) (λev s' ⟨H1,s1,I1,cx⟩=>?_)
 ·exact gm (gm ⟨σ,H1,I1,q1⟩)
 ·exact A2d hx0 hs hN hj hlo hg hm hsu I1 cx (λC d H2 ⟨C',e1,e2,e3⟩=>by cases e1;exact⟨e2,e3⟩) hd2
end
section
variable {prog:u9}{w:World}{A:q9}{E:z_}{h:Heap}{g:Array GenState}{d:Drawn}{t:Nat}{os:OsState}{a C:Addr}{o:Obj}{K:v9}
structure K5 (K:v9) (C:Addr):Prop where
 exc:Wj K C=true
 ga:findIn K (.ref C) "__getattribute__" = some (some (.builtin "BaseException.__getattribute__"))
 gat:findIn K (.ref C) "__getattr__" = some none
 cls:findIn K (.ref C) "__class__" = some (some (.builtin "object.__class__"))
theorem Bz4 {R:Result->t6->Prop}(X:K.In h)(Z:K5 K C)(hx:h.get? a=some o)(hc:o.cls=.ref C)(q:R (.ok (.ret (.ref C))) ⟨h,g,d,t,os⟩) :
 codeAny (model prog w) A (.call (.builtin "getset_descriptor.__get__") ⟨[.builtin "object.__class__",.ref a,.ref C],[]⟩) R ⟨h,g,d,t,os⟩:=by
 obtain⟨i,l,n,z,B,m,j,p,k,r,s,u,v,x,y,f,T⟩:=Gi X Z.exc;have c:(⟨h,g,d,t,os⟩:t6).TypeIs (.builtin "object.__class__") "getset_descriptor" := ju
 have e:(Value.ref C::i).contains (.type (".".intercalate ("object.__class__".cutAt '.').dropLast))=true:=by
  rw[PySem.F.owner_object_class,gR,T.hasType (X := "object") (b:=true) rfl];rfl
 refine gU PySem.F.slot_gs_get.plain PySem.F.entry_gs_get (PySem.F.slot_gs_get.check _ _ _ _ _ _ _ _ c (PySem.F.args_gs_get _ _ _) ?_)
 repeat (any_goals (first | assumption | (with_reducible refine bZ hx ?_;rw[hc]) | (with_reducible refine gV f ?_;rw[e]) | wp_step))
 refine⟨jw _ (by decide +kernel),cR PySem.F.entry_object_class ?_⟩
 repeat (any_goals (first | assumption | (with_reducible refine bZ hx ?_;rw[hc]) | wp_step))
theorem A8n {tk:Tok}{Q:Fin->t6->Prop}(X:K.In h)(Z:K5 K C)(hx:h.get? a=some o)(hc:o.cls=.ref C)(e:Q (.done (.ret (.ref C))) ⟨h,g,d,t,os⟩) :
 wpAny (model prog w) A (Builtin.«object.__getattribute__» ⟨[.ref a,.str "__class__" tk],[]⟩) Q E ⟨h,g,d,t,os⟩:=by
 have b:(⟨h,g,d,t,os⟩:t6).TypeIs (.builtin "object.__class__") "getset_descriptor" := ju;have f:=ju;have i:=PySem.F.slot_gs_get.lookup;have j:=PySem.F.slot_gs_set.lookup;have c:=dG (M:=model prog w) X Z.cls
 repeat (any_goals (first | assumption | (with_reducible refine bZ hx ?_;rw[hc]) | with_reducible refine c.here ?_ | wp_step))
 refine Bz4 X Z hx hc ?_
 repeat (any_goals (first | assumption | wp_step))
theorem Ad2 {M:Model}{c:Value}{Q:Unit->t6->Prop}(X:K.In h)(Z:K5 K C)(hx:h.get? a=some o)(hc:o.cls=.ref C)(m:Q () ⟨h,g,d,t,os⟩):wpAny M A (checkBuiltinCall "BaseException.__getattribute__" ⟨[.ref a,c],[]⟩) Q E ⟨h,g,d,t,os⟩:=by
 obtain⟨j,p,F,z,B,D,k,q,f,s,u,v,w,x,y,l,T⟩:=Gi X Z.exc
 have i:builtinKind "BaseException.__getattribute__" = some .slot:=by decide +kernel
 have e:splitId "BaseException.__getattribute__" = some ("BaseException", "__getattribute__"):=by decide +kernel
 have n:(Value.ref C::j).contains (.type "BaseException")=true:=by rw[gR,T.hasType (X := "BaseException") (b:=true) rfl];rfl
 have r:=PySem.F.args_bexc_ga (.ref a) c;simp only[checkBuiltinCall,i,e]
 refine aj ?_
 unfold isInstance
 repeat (first | (with_reducible refine bZ hx ?_;rw[hc]) | (with_reducible refine gV l ?_;rw[n]) | wp_step)
 exact m
theorem B5o {tk:Tok}{Q:z_}(X:K.In h)(Z:K5 K C)(hx:h.get? a=some o)(hc:o.cls=.ref C)(j:Q (.ref C) ⟨h,g,d,t,os⟩):wpAny (model prog w) A (getAttrBy (.ref a) (.str "__class__" tk) false) Q E ⟨h,g,d,t,os⟩:=by
 have f:=iR.ga.bind (.ref a)
 have e:(Value.builtin "BaseException.__getattribute__" == Value.builtin "object.__getattribute__")=false:=by decide +kernel
 have i:(onTheHeap (Value.ref C)&&Value.builtin "BaseException.__getattribute__" == Value.builtin "object.__getattribute__")=false:=by rw[e];rfl
 have c:=dG (M:=model prog w) X Z.ga;have b:=dG (M:=model prog w) X Z.gat
 repeat (any_goals (first | assumption | (with_reducible refine bZ hx ?_;rw[hc]) | with_reducible refine c.here ?_ | with_reducible refine b.here ?_ | wp_step))
 refine gU iR.ga.plain PySem.F.entry_bexc_ga (Ad2 X Z hx hc (A8n X Z hx hc ?_))
 repeat (any_goals (first | assumption | wp_step))
theorem Bl9 {Q:u_->t6->Prop}(X:K.In h)(Z:K5 K C)(hx:h.get? a=some o)(hc:o.cls=.ref C)(b:Q (some (.ref C)) ⟨h,g,d,t+1,os⟩):wpAny (model prog w) A (getAttr? (.ref a) "__class__") Q E ⟨h,g,d,t,os⟩:=by
 unfold getAttr? getAttrBy?
 repeat (any_goals (first | assumption | with_reducible apply B5o X Z _ _ | wp_step))
end
section
variable {K:v9}{a C:Addr}
theorem Bc8 {x:Option Addr}(Z:K5 K C):KitX K (.ref a) (.ref C) (λh=>∃o,h.get? a=some o/\o.cls=.ref C/\o.dict=x/\∃vs,o.data=.fields vs) where
 ty:=λM h _ ⟨o,e,c,_⟩=>c▸(Looks.ld e).andThen .now
 it:=λM h X _=>by
  obtain⟨bm,Nn,nm,qn,bs,sn,sub,ab,col,dd,k0,k1,k2,k3,k5,hC,_⟩:=Gi X Z.exc;intro A' Q' E' s' kp q;unfold isType loadHead;exact aj (wpAny_loadPart (kp _ _ hC) (ak q))
 ne:=λh tp dd its n sl X htp=>by
  obtain⟨bm,Nn,nm,qn,bs,sn,sub,ab,col,d',k0,k1,k2,k3,k5,hC,_⟩:=Gi X Z.exc
  refine Bool.eq_false_iff.mpr λq=>?_
  cases (Value.ref.inj (cL.mp q))
  rw[hC]at htp;have z:=cu Obj.data (cz htp)
  cases z
 ca:=λ{_ _ _ _ _ s} X p q=>by
  obtain⟨hh,g,d,t,os⟩:=s;obtain⟨o,e,c,_⟩:=p;exact Bl9 X Z e c q
end
section
variable {X:Cx}
noncomputable def Bv0:V->u_
 | .ref D=>some (.ref D)
 | .ty T=>some (.type T)
 | _=>none
theorem A7g {c:V}{u z:Value}(e:Bv0 c=some z)(r:RelV c u):u=z:=by
 cases c with
 | ref D=>cases e;exact r
 | ty T=>cases e;exact r
 | _=>cases e
def Am3 (K:v9):m7->Hp->VK->Prop:=λxs H Q=>∃a C d c z b,xs=[.ref a,c]/\H a=some (K6 a C d)/\K5 K C/\Bv0 c=some z/\kitOne K (.ref C) z=some b/\Q (.bl b) H
theorem A0y:CallR X (.builtin "isinstance") (Am3 X.K):=by
 intro e s σ H xs us Q I r h;obtain⟨a,C,d,c,z,b,rfl,i,Z,f,j,q⟩:=h;obtain⟨u1,u2,rfl,g,k⟩:=vals2 r
 cases (g)
 cases A7g f k
 have l := I.hok a _ i
 exact kia_one (Bc8 Z) I.kIn l.1 j (λz=>nomatch z) λtk=>⟨.bl b,H,I.tok _,rfl,q⟩
def B6n (D:Addr):TE:=λ_ H Q=>Q (.ref D) H
theorem B1u {y:Str}{D:Addr}{p:Pos}(hg:Gl X y)(hm:X.mg y=some (.ref D))(hdb:(y==("__debug__" : Str))=false:=by decide):PE X (.Name y p) (B6n D):=λa s b H Q I h=>Io I hg hm ⟨.ref D,H,I,rfl,h⟩ hdb
noncomputable def Ar9 (n:Nat):t_->Bool
 | .none=>true
 | .bool _=>true
 | .int i=>decide (i.natAbs.log2<1920)
 | .str x=>decide ((reprText x).length+n<=16000000)
 | d=>d.showable&&!d.hasDict&&decide (d.depth<=40)&&decide (d.shown.length+n<=16000000)
theorem A7a {x:Str}{tk:Tok}{a:y_}{b:St}{H:Hp}{s:t6}{n:Nat}{Q:z_}{E:z_}(I:Inv X a b H s)(h:(reprText x).length+n<=16000000)(q:∀z t s2,z.length+n<=16000000->Inv X a b H s2->Q (.str z t) s2):wpAny (model X.prog X.w) X.A (pyReprObj (.str x tk)) Q E s :=
 wpAny_pyReprObj_str (q _ _ _ h (I.tok _)) (aq (fY _ _) (aq h (by decide)))
theorem Be8 {d:t_}{v:V}{u:Value}{f:y_}{l:St}{H:Hp}{s:t6}{n:Nat}{Q:z_}{E:z_}(hu:X.A.units+64<cLine)(hg:X.A.guards=some [])(I:Inv X f l H s)(c:Tr H d v)(r:RelV v u)(hn:n<=1000)(h:Ar9 n d=true)
 (q:∀z t s2,z.length+n<=16000000->Inv X f l H s2->Q (.str z t) s2):wpAny (model X.prog X.w) X.A (pyReprObj u) Q E s:=by
 have g:∀(a:Addr) (d:t_),Tr H d (.ref a)->(d.showable&&!d.hasDict&&decide (d.depth<=40)&&decide (d.shown.length+n<=16000000))=true->wpAny (model X.prog X.w) X.A (pyReprObj (.ref a)) Q E s:=λa d c h=>by
  simp only[cN,jx,fQ]at h;obtain⟨⟨⟨m,o⟩,G⟩,j⟩:=h
  obtain⟨F,p⟩:=c.reads I (show RelV (.ref a) (.ref a) from rfl)
  exact pyReprObj_of_reads p m (λz=>by rw[o]at z;cases z) hg (by lia) (λ_ _ e=>e) (λD t w y=>q _ _ _ j (I.kept (t':=w) y)) (aq (aq (fY _ _) j) (by decide))
 cases d with
 | none=>cases (show v=.non from c);cases (show u=Value.none from r);exact pyReprObj_none (q _ _ _ (by show 4+n<=_;lia) (I.tok _))
 | bool b=>cases (show v=.bl b from c);cases (show u=Value.bool b from r);exact pyReprObj_bool (q _ _ _ (by cases b <;> (first | (show 4+n<=_;lia) | (show 5+n<=_;lia))) (I.tok _))
 | int i =>
  cases (show v=.int i from c)
  obtain⟨t,e⟩:=(show ∃t,u=Value.int i t from r);cases e
  have k:i.natAbs.log2<1920:=aX h
  exact pyReprObj_int k (q _ _ _ (by have:=int_text_len_1921 k;lia) (I.tok _))
 | str x =>
  cases (show v=.str x from c)
  obtain⟨t,e⟩:=(show ∃t,u=Value.str x t from r);cases e
  exact A7a I (aX h) q
 | list A=>obtain⟨a,B,e,_⟩:=id c;cases e;cases (show u=Value.ref a from r);exact g a _ c h
 | tuple A=>obtain⟨a,B,e,_⟩:=id c;cases e;cases (r);exact g a _ c h
 | dict C=>exact(c).elim
def tFs (n:Nat)(te:TE):TE:=λσ H Q=>te σ H λv H1=>∃d,Tr H1 d v/\Ar9 n d=true/\∀z,Q (.str z) H1
end
end L2
namespace L2
open PySem PySem.Spec PyProof.Rows
section
variable {X:Cx}
def Ay6 (K:v9):V->m7->Hp->VK->Prop:=λx vs H Q=>∃(a:Addr) (bs:List Bool),x=.ref a/\vs=[.bl true]/\SqL K H a (bs.map V.bl)/\Q (.int ((bs.countP id:Nat):Int)) H
theorem A0q {Kq:v9}(hKq:X.K=Kq)(hu:X.A.units+64<cLine):MtM X "list.count" (Ay6 Kq):=by
 subst hKq;intro pins s σ H x vs v us Q I rx rv h;obtain⟨a,bs,rfl,rfl,hq,q⟩:=h
 cases rx
 obtain⟨u,rfl,ru⟩:=rv.one
 cases ru
 obtain⟨its,r,pl,hz⟩:=I.list hq
 cases Aa2 r
 obtain⟨o,n,e,hc,hdn,hd⟩:=pl;obtain⟨c0,dd,dat,sl⟩:=o
 dsimp only at hc hd hdn
 subst hc hd hdn
 have hcnt:(bs.map Value.bool).toArray.toList.countP Ah9=bs.countP id:=by
  rw[List.countP_map]
  congr 1
 refine cW F.slot_list_count ⟨_,e,rfl⟩ F.entry_list_count (F.args_list_count_2 _ _) (SeqAt.list_countAt a (bs.map Value.bool).toArray n none sl (.bool true) Ah9) ⟨e,λw hw=>?_,?_⟩
 ·obtain⟨b,hb,rfl⟩:∃b∈bs,Value.bool b=w:=by simpa using hw
  have:=gh (.bool b) (.bool true) X.A.in1 s _ _ _ _ (.bool b) (.bool true) rfl rfl (by show X.A.units+1+0<_;lia)
  cases b <;> exact this
 ·exact⟨.int _,H,I.tok _,⟨_,by rw[hcnt]⟩,q⟩
end
section
variable {X:Cx}
def rIndexD:V->m7->Hp->VK->Prop:=λx vs H Q=>∃(y:V) (d:t_) (ds:w5) (j:Nat),vs=[y]/\Tr H d y/\Tr H (.tuple ds) x/\Flat d/\PyData.canLayAll0 ds=true /\
 (∃e,ds[j]?=some e/\PyData.eqv e d=true)/\(∀m e,m<j->ds[m]?=some e->PyData.eqv e d=false)/\Q (.int (j:Nat)) H
theorem A3t (hu:X.A.units+64<cLine):MtM X "tuple.index" rIndexD:=by
 intro l s σ H x vs v us Q I P L h;obtain⟨y,d,c,j,rfl,A,E,w,i,⟨ej,B,C⟩,D,q⟩:=h;obtain⟨u,rfl,G⟩:=L.one;obtain⟨as,J⟩:=A.reads I G;obtain⟨bs,K⟩:=E.reads I P
 cases K with
 | tuple k g p r =>
  rename_i a o b n;obtain⟨c0,dd,N,sl⟩:=o
  dsimp only at g p
  subst g p;have t:=SeqAt.readsAll_map c _ _ i r
  have M:∀m (O:m<b.size) e,c[m]?=some e->SeqAt.readOf s.heap b[m]=e:=λm O e he=>by
   grind
  have f:b.size=c.length:=by grind
  obtain⟨z,_⟩:=bH.mp B
  refine cW F.slot_tuple_index ⟨_,k,rfl⟩ F.entry_tuple_index (F.args_tuple_index_2 _ _) (M9 a _ n _ _ _ (λy=>PyData.eqv (SeqAt.readOf s.heap y) d) j (f▸z) ?_ ?_) ⟨k,?_,?_⟩
  ·simp_all
  ·grind
  ·exact SeqAt.items_eqAt r J i w.1 (Nr hu w.2)
  ·exact⟨.int _,H,I.tok _,⟨_,rfl⟩,q⟩
end
def TabAt (K:v9)(h:Heap):Prop:=(∀p∈Ei K,h.get? p.1=some { cls:=.none,data:=.fields #[] }/\isCodeTable h p.1/\K.lookup p.1=none)/\∀p∈Ei K,(Ei K).lookup p.1=some p.2
theorem Il {l:List (Addr×Str)} (h:l.lookup b=some q):(b,q)∈l:=by
 induction l with
 | nil=>grind
 | cons p r a =>
  grind
theorem A1z {K:v9}
 (KX:K.In c.heap) (hns:c.heap.Ns mainGlobals mg) (hb:c.heap.Ns builtinsNs U) (X:∀x:Str,x ≠ "__name__" -> U x=bootBuiltins x) (L:c.heap.NoLimit) (hg:c.gens=#[])
 (T:∃j o,mg "__builtins__" = some (.ref j)/\j≠builtinsNs/\c.heap.get? j=some o/\o.cls=.type "module" /\ o.dict=some builtinsNs/\o.data=.plain) (D:TabAt K c.heap)
 (ha:c.heap.get? a=some { cls:=.type "list",data:=.seq vs.toArray }) (hi:IntsAre vs ns) (hl:ns.length<=sizeLine) (hr:Room k callerA)
 (F:∀base:Heap,K.In base->base.Ns mainGlobals mg->FnOk P w K mg base CX k fa fd [x] sp) (C:∀(s:t6) (u:Value),BindsTo s fd ⟨[u],[]⟩ [(x,u)])
 (hsp:∀H:Hp,SqL K H a (ns.map V.int)->sp [.ref a] H (λv _=>v=.bl true) λ_ _ _=>False)
 (W:∀H e s',CX [] H c (λ_ _ _=>False) e s'->False) :
 codeAny (model P w) callerA (.call (.ref fa) ⟨[.ref a],[]⟩) (λr s'=>r=.ok (.ret (.bool true))/\OldK c.heap s'.heap/\s'.os=c.os/\AllBare s'.gens) c:=by
 have rv:=Ws hi;have E:=hi.length
 have Y:∀p∈Ei K,p.1≠a:=λp B z=>by
  have e:=(D.1 p B).1;rw[z,ha]at e;cases e
 have t:∀H:Hp,SqL K H a (ns.map V.int)->HOk P w H c.heap->(∀b u,H b=some u->(b=a/\K.lookup a=none/\∃o xs,u=.frz o (.lst xs))\/∃q,(b,q)∈Ei K/\u=.tbl q)->(∀p∈Ei K,H p.1=some (.tbl p.2)) ->
  codeAny (model P w) callerA (.call (.ref fa) ⟨[.ref a],[]⟩) (λr s'=>r=.ok (.ret (.bool true))/\OldK c.heap s'.heap/\s'.os=c.os/\AllBare s'.gens) c:=by
  intro H hS G hA hH
  have f:∀{b:Addr} {o:Obj},c.heap.get? b=some o->H b=none->(Wk c.heap H).get? b=some o:=λe n=>A7n e n
  have N:∀{b:Addr} {o:Obj},c.heap.get? b=some o->(∀x n,o.data≠.seq x n)->(∀x,o.data≠.fields x)->H b=none:=λ{b o} e d1 d2=>by
   cases q:H b with
   | none=>rfl
   | some u =>
    rcases hA b u q with ⟨z,_⟩ | ⟨y,O,_⟩
    ·rw[z,ha]at e;cases e;exact absurd rfl (d1 _ _)
    ·have g:=(D.1 _ O).1
     rw[e]at g;cases g;exact absurd rfl (d2 _)
  have l:∀{b:Addr} {m:x_},c.heap.Ns b m->(Wk c.heap H).Ns b m:=λ{b m} ⟨o,es,ep,e,d,r⟩=>⟨o,es,ep,f e (N e (λx n z=>by rw[d]at z;cases z) λx z=>by rw[d]at z;cases z),d,r⟩
  have I:K.In (Wk c.heap H):=λb o e=>f (KX b o e) (by
   cases q:H b with
   | none=>rfl
   | some u =>
    rcases hA b u q with ⟨z,z2,_⟩ | ⟨y,O,_⟩
    ·rw[z,z2]at e;cases e
    ·rw[(D.1 _ O).2.2]at e;cases e)
  have Z:∃j o,mg "__builtins__" = some (.ref j)/\j≠builtinsNs/\j≠mainGlobals/\(Wk c.heap H).get? j=some o/\o.cls=.type "module" /\ o.dict=some builtinsNs/\o.data=.plain:=by
   obtain⟨j,o,b1,b2,Q,b4,b5,M⟩:=T
   refine⟨j,o,b1,b2,λz=>?_,f Q (N Q (λx n z=>by rw[M]at z;cases z) λx z=>by rw[M]at z;cases z),b4,b5,M⟩
   obtain⟨og,es,ep,e,d,_⟩:=hns;rw[z,e]at Q;cases Q;rw[d]at M;cases M
  have hM:Mod K mg (Wk c.heap H):=⟨I,l hns,⟨U,l hb,X⟩,(let ⟨mc,h1,h2⟩:=L; ⟨mc,l h1,h2⟩),Z⟩
  have e0:Env0 P w K mg (Wk c.heap H) callerA [] c H:=⟨rfl,hM,λb o e=>Bh4 e,fP (A0c _ _),trivial,λb hb=>absurd (show b∈([]:v6) from hb) (by simp),hH,G,.of_eq hg⟩
  refine fK ((F _ I (l hns)).run callerA [] c H ⟨[.ref a],[]⟩ [.ref a] [.ref a] _ _ hr e0 (C c (.ref a)) (.cons rfl .nil) (hsp H hS)) λr s' h=>?_
  cases r with
  | error e=>exact(W H e s' h).elim
  | ok fl =>
   cases fl with
   | next=>exact False.elim h
   | brk=>exact False.elim h
   | cont=>exact False.elim h
   | ret u =>
    obtain⟨v,H',os,J,R,A,r',q⟩:=h;have q':v=.bl true:=q;subst q';obtain rfl:u=Value.bool true:=r'
    refine⟨rfl,⟨λb o e=>?_,λb o e=>R.there b o e (by simp)⟩,os,J⟩
    cases q:H b with
    | none=>exact .inl (R.keep b o e q (by intro z;exact absurd (show b∈([]:v6) from z) (by simp)) (by simp))
    | some u =>
     rcases hA b u q with ⟨_,_,ob,xs,rfl⟩ | ⟨y,O,rfl⟩
     ·obtain⟨g,_⟩:=G b _ q
      obtain⟨e2,_⟩:=A b _ (R.frzs b ob _ q);rw[e]at g;cases g;exact .inl e2
     ·obtain⟨ps,e2,_⟩:=A b _ (R.tbls b y q)
      obtain⟨t1,t2,_⟩:=D.1 _ O;rw[e]at t1;cases t1
      exact .inr (.inl ⟨t2,rfl,#[],ps,rfl,by rw[e2];simp⟩)
 have i:∀(H:Hp) (p:Addr×Str),p∈Ei K->z9 P w H _ _ (.tbl p.2):=λH p B=>⟨#[],(D.1 p B).1,trivial,λpos cv z=>by cases z⟩
 cases hk:K.lookup a with
 | some o =>
  have e:=KX a o hk;rw[ha]at e
  cases e
  refine t (λb=>((Ei K).lookup b).map .tbl) (.inr ⟨_,vs.toArray,_,hk,rfl,rfl,rfl,by rw[cA,E];exact hl,by simpa using rv⟩) (λb u z=>?_) (λb u z=>?_) λp B=>?_
  ·obtain⟨q,g,rfl⟩:=aO.mp z
   exact i _ _ (Il g)
  ·obtain⟨q,g,rfl⟩:=aO.mp z
   exact .inr ⟨q,Il g,rfl⟩
  ·rw[D.2 p B];rfl
 | none =>
  refine t (λb=>if b=a then some (.frz { cls:=.type "list",data:=.seq vs.toArray } _) else ((Ei K).lookup b).map .tbl) (.inl (.inr ⟨{ cls:=.type _,data:=.seq _ },if_pos rfl⟩)) (λb u z=>?_) (λb u z=>?_) λp B=>?_
  ·by_cases hb:b=a
   ·have S:=(if_pos hb).symm.trans z
    cases S
    subst hb
    exact⟨ha,by rw[ao];exact hl,vs,_,rv,ha⟩
   ·obtain⟨q,g,rfl⟩:=aO.mp ((if_neg hb).symm.trans z)
    exact i _ _ (Il g)
  ·by_cases hb:b=a
   ·have S:=(if_pos hb).symm.trans z
    cases S
    exact .inl ⟨hb,hk,_,_,rfl⟩
   ·obtain⟨q,g,rfl⟩:=aO.mp ((if_neg hb).symm.trans z)
    exact .inr ⟨q,Il g,rfl⟩
  ·rw[if_neg (Y p B),D.2 p B];rfl
end L2
namespace L2
open PySem PySem.Spec PyProof.Rows PySem.W
noncomputable def Eb (o:Obj):Bool:=match o.data with
 | .cell _=>false
 | _=>true
def sel (h:Heap)(tabs:List (Addr×Addr×Str))(a:Addr):Option Obj:=(h.get? a).bind λo=>if (Eb o&&!(tabs.any λt=>t.2.1==a))=true then some o else none
def Oj (h:Heap)(tabs:List (Addr×Addr×Str)):Frag:=((List.range h.objs.size).filterMap λa=>(sel h tabs a).map λo=>(a,o))++tabs.map λt=>(t.1,Ax3 t.2.1 t.2.2)
theorem J3 {f:Nat->Option Obj}{b:Nat}:∀{l:List Nat},(l.filterMap λa=>(f a).map λo=>(a,o)).lookup b=if b∈l then f b else none
 | []=>by simp
 | a::l=>by
  rw[gj]
  by_cases e:b=a
  ·subst e
   rw[if_pos a_]
   cases q:f b with
   | none =>
    simp only[Option.map_none];rw[J3]
    split
    ·exact q
    ·rfl
   | some o=>simp
  ·have h1:(b∈a::l)=(b∈l):=by simp[e]
   simp only[h1]
   cases q:f a with
   | none=>simp only[Option.map_none];exact J3
   | some o =>
    simp only[fu];rw[bc]
    have:(b==a)=false:=by simp[e]
    rw[this];exact J3
section
variable {h:Heap}{tabs:List (Addr×Addr×Str)}
theorem Oi (e:sel h tabs a=some o):h.get? a=some o/\Eb o=true/\∀t∈tabs,t.2.1≠a:=by
 obtain⟨c,d,b⟩:=bY.mp e
 grind
theorem B3g (e:h.get? a=some o) (hp:Eb o=true) (hn:∀t∈tabs,t.2.1≠a):sel h tabs a=some o:=by
 unfold sel
 grind
theorem N7 (e:sel h tabs a=some o):(Oj h tabs).lookup a=some o:=by
 unfold Oj;rw[List.lookup_append,J3,if_pos (ir.mpr (aA (Oi e).1)),e];rfl
theorem Vg {a:Addr}{o:Obj}:∀{tabs:List (Addr×Addr×Str)},(tabs.map λt=>(t.1,Ax3 t.2.1 t.2.2)).lookup a=some o->∃t∈tabs,t.1=a
 | [],e=>by cases e
 | t::r,e=>by
  rw[aJ,bc]at e
  split at e
  ·rename_i z
   exact⟨t,a_,by simpa using (eq_comm.mp (by simpa using z))⟩
  ·obtain⟨t',h1,h2⟩:=Vg e
   exact⟨t',bw _ h1,h2⟩
theorem B4j (ht:∀t∈tabs,CodeHd h t.1 t.2.1/\h.get? t.2.1=some { cls:=.none,data:=.fields #[] })(D:∀t∈tabs,(tabs.map λt=>(t.2.1,t.2.2)).lookup t.2.1=some t.2.2) :
 (Oj h tabs).In h/\TabAt (Oj h tabs) h/\(∀t∈tabs,codeHdIn (Oj h tabs) t.1 t.2.1=true/\(t.2.1,t.2.2)∈Ei (Oj h tabs))/\∀a o,h.get? a=some o->Eb o=true->o.data≠.fields #[]->(Oj h tabs).lookup a=some o:=by
 have g:∀a o,h.get? a=some o->Eb o=true->o.data≠.fields #[]->sel h tabs a=some o:=λa o e d j=>B3g e d λt m z=>by
  have:=(ht t m).2;rw[z,e]at this;cases this;exact j rfl
 have code:∀t∈tabs,∃o i,h.get? t.1=some o/\o.cls=.type "code" /\ o.data=.fields i/\i[11]?=some (.ref t.2.1)/\sel h tabs t.1=some o:=λt m=>by
  obtain⟨o,i,_,_,_,_,_,_,_,w,v,l,u,_⟩:=(ht t m).1
  refine⟨o,i,w,v,l,u,g t.1 o w (by unfold Eb;rw[l]) λz=>?_⟩
  rw[l]at z
  injection z with z
  rw[z]at u;simp at u
 have c:∀{a:Addr} {o:Obj},(Oj h tabs).lookup a=some o->sel h tabs a=some o:=λ{a o} e=>by
  cases q:sel h tabs a with
  | some y=>rw[N7 q]at e;exact e
  | none =>
   unfold Oj at e;rw[List.lookup_append,J3]at e
   have F:(if a∈List.range h.objs.size then sel h tabs a else none)=none:=by
    split
    ·exact q
    ·rfl
   rw[F]at e
   obtain⟨t,m,z⟩:=Vg (show (tabs.map λt=>(t.1,Ax3 t.2.1 t.2.2)).lookup a=some o from e)
   obtain⟨_,_,_,_,_,_,s⟩:=code t m;rw[z,q]at s;cases s
 have k:Ei (Oj h tabs)=tabs.map λt=>(t.2.1,t.2.2):=by
  unfold Ei Oj;rw[List.filterMap_append]
  have x:((List.range h.objs.size).filterMap λa=>(sel h tabs a).map λo=>(a,o)).filterMap (λp=>Uz p.2)=[]:=by
   rw[List.filterMap_eq_nil_iff];intro p d;obtain⟨a,_,e⟩:=fG.mp d;obtain⟨o,x,rfl⟩:=aO.mp e;have j:=(Oi x).2.1
   show Uz o=none
   unfold Uz;unfold Eb at j
   split
   ·rename_i z;rw[z]at j;cases j
   ·rfl
  have Q:(tabs.map λt=>(t.1,Ax3 t.2.1 t.2.2)).filterMap (λp=>Uz p.2)=tabs.map λt=>(t.2.1,t.2.2):=by
   clear g c code D ht x
   induction tabs with
   | nil=>rfl
   | cons t r S =>
    rw[aJ,gj]
    show (t.2.1,t.2.2)::_=_
    rw[S];rfl
  rw[x,Q,eG]
 have B:(Oj h tabs).In h:=λa o e=>(Oi (c e)).1
 refine⟨B,⟨λp d=>?_,λp d=>?_⟩,λt m=>⟨?_,?_⟩,λa o e d j=>N7 (g a o e d j)⟩
 ·rw[k]at d
  obtain⟨t,m,rfl⟩:=aL.mp d;obtain⟨o,i,w,v,l,u,_⟩:=code t m
  refine⟨(ht t m).2,⟨t.1,o,i,w,v,l,u⟩,?_⟩
  cases q:(Oj h _).lookup _ with
  | none=>rfl
  | some y=>exact absurd rfl ((Oi (c q)).2.2 t m)
 ·rw[k]at d ⊢
  obtain⟨t,m,rfl⟩:=aL.mp d;exact D t m
 ·obtain⟨o,i,_,v,l,_,s⟩:=code t m
  obtain⟨y,G,f,tf,fl,tg,b,n,tt,J,K,L,M,g5,I,N,H,P,A⟩:=(ht t m).1;have O := cz (J.symm.trans (Oi s).1);subst O;obtain⟨R,od,C,E⟩:=y
  cases (show R=Value.type _ from K)
  cases (show C=Data.fields _ from L)
  unfold codeHdIn;rw[(N7 s)];simp only[M,I,N,H,P]
  simp[A]
 ·rw[k];exact aL.mpr ⟨t,m,rfl⟩
end
section
variable {q:u9}{loose:v4}{mean:ExcName->u_}{mg mb:x_}{h:Heap}{K:Frag}
theorem A1o (j:∀a o,h.get? a=some o->Eb o=true->o.data≠.fields #[]->K.lookup a=some o) (c:h.CodeRec f x):codeIn K f x=true:=by
 obtain⟨a,o,b,t,rfl,g,d,e⟩:=c
 have k:=j a o g (by unfold Eb;rw[d]) λz=>by grind
 obtain⟨oc,od,m,i⟩:=o
 show (match K.lookup a with
  | some ⟨_,_,.fields b,_⟩=>match b.toList with | _::.str n _::_=>n==x | _=>false
  | _=>false)=true
 obtain⟨l⟩:=b
 match l,e with
 | _::.str n u::_,e =>
  simp_all
theorem Bd2 (T:Top q loose mean mg mb h)(i:∀a o,h.get? a=some o->Eb o=true->o.data≠.fields #[]->K.lookup a=some o) {st:Stmt}(hd:d∈recsOf q) (w:d.params=Im st) (l:d.body=Gh st) (m:d.scope=Ak st) :
 ∃f fd,Fun K d.name d.name st f fd/\mg d.name=some (.ref f):=by
 obtain⟨a,o,e,b,c,n,p,r,s⟩:=T.fn d hd
 have k:=i a o p (by unfold Eb;grind) λz=>by simp_all
 obtain⟨t,u,v,g⟩:=o
 cases (r)
 have j:PySem.Calls.docDef d.name d.params d.body d.scope e b c=fnOf d.name d.name (Im st) (Gh st) (Ak st) .none .none c e none b .none:=by rw[w,l,m];rfl
 refine⟨a,_,⟨⟨t,u,.none,c,e,none,b,.none,g,j,k,A1o i s⟩,?_⟩,n⟩
 unfold keepIn
 grind
noncomputable def A9c (q:u9) (loose:v4) (RN:v4) (x:Str):Bool:=!startupNames.contains x&&!loose.contains x&&!RN.contains x&&!((litsOf q).map (·.1)).contains x&&!((clssOf q loose).map (·.name)).contains x
theorem De (T:Top q loose mean mg mb h){a bs:v4}(f:(recsOf q).map (·.name)=a)(hb:bs.all (A9c q loose a)=true) (hx:x∈bs):mg x=none:=by
 have:=aZ.mp hb x hx;unfold A9c at this;simp only[cN,jx,List.contains_eq_mem,decide_eq_false_iff_not]at this;obtain⟨⟨⟨⟨d,c⟩,g⟩,e⟩,b⟩:=this
 exact T.free x d c (by grind) e b
end
theorem A8l (a:(recsOf q).map (λd=>(d.name,d.params,d.body,d.scope))=L) {i:Nat} (e:L[i]?=some x) :
 ∃d,d∈recsOf q/\d.name=x.1/\d.params=x.2.1/\d.body=x.2.2.1/\d.scope=x.2.2.2:=by
 grind
theorem Ci (a:(recsOf q).map (λd=>(d.name,d.params,d.body,d.scope))=L):(recsOf q).map (·.name)=L.map (·.1):=by
 rw[<- a,dH];rfl
theorem A4g {K:Frag} {st:Stmt} (F:Fun K x qual st f c) (h:∀(d a e:Value) (i:Option Addr) (b g:Value) (s:t6) (u:Value),BindsTo s (fnOf x qual (Im st) (Gh st) (Ak st) .none d a e i b g) ⟨[u],[]⟩ [(y,u)]):∀(s:t6) (u:Value),BindsTo s c ⟨[u],[]⟩ [(y,u)]:=by
 obtain⟨m,n,d,a,e,i,b,g,j,k,l,_⟩:=F.ex
 simp_all
section
variable {X:Cx}{p:Pos}{e:Expr}{es:v_}{t:TA}{Kq:v9}
def rIndexL:V->m7->Hp->VK->Prop:=λx vs H Q=>∃(y:V) (d:t_) (ds:w5) (j:Nat),vs=[y]/\Tr H d y/\Tr H (.list ds) x/\Flat d/\PyData.canLayAll0 ds=true/\j<1000000 /\
 (∃e,ds[j]?=some e/\PyData.eqv e d=true)/\(∀m e,m<j->ds[m]?=some e->PyData.eqv e d=false)/\Q (.int (j:Nat)) H
theorem A1h (hu:X.A.units+64<cLine):MtM X "list.index" rIndexL:=by
 intro l s σ H x vs v us Q I S N h;obtain⟨y,d,f,j,rfl,B,O,t,w,A,⟨ej,C,D⟩,E,q⟩:=h;obtain⟨u,rfl,G⟩:=N.one;obtain⟨as,L⟩:=B.reads I G;obtain⟨bs,M⟩:=O.reads I S
 cases M with
 | list k i p r =>
  rename_i a o b n J;obtain⟨c0,dd,K,sl⟩:=o
  dsimp only at i p
  subst i p;have c:=SeqAt.readsAll_map f _ _ w r
  have R:∀m (P:m<b.size) e,f[m]?=some e->SeqAt.readOf s.heap b[m]=e:=λm P e he=>by
   grind
  have g:b.size=f.length:=by rw[<- c,ao,fL]
  obtain⟨z,_⟩:=bH.mp C
  refine cW F.slot_list_index ⟨_,k,rfl⟩ F.entry_list_index (F.args_list_index_2 _ _) (SeqAt.list_indexAt a b n _ _ _ (λy=>PyData.eqv (SeqAt.readOf s.heap y) d) j (g▸z) (by lia) ?_ ?_) ⟨k,?_,?_⟩
  ·simp_all
  ·grind
  ·exact SeqAt.items_eqAt r L w t.1 (Nr hu t.2)
  ·exact⟨.int _,H,I.tok _,⟨_,rfl⟩,q⟩
def B0v (K:v9)(to:TE)(t:TA):TE:=λσ H Q=>to σ H λx H1=>(tyV K "list" x H1/\t σ H1 λxs H2=>rIndexL x xs H2 Q)\/(tyV K "tuple" x H1/\t σ H1 λxs H2=>rIndexD x xs H2 Q)
variable {o:Expr}{to:TE}{apos cpos:Pos}
theorem Bw5 (hu:X.A.units+64<cLine)(ho:PE X o to)(ha:PA X (e::es) t)
 (hbase:attributeBase o "index" X.env (eval o X.env)=eval o X.env:=by rfl)
 (hfew:((backTo cpos (starEach (e::es) X.env)).all (λx=>!x.1)&&(backToKw cpos (keywordEach [] X.env)).all (λx=>x.1.isSome)
  && decide ((e::es).length+([]:List Keyword).length+(if ([]:List Keyword).isEmpty then 0 else 1)<30))=true:=by rfl)
 (hline:(apos.endLine==cpos.line)=true:=by rfl) (hs:starEach (e::es) X.env=(false,eval e X.env)::starEach es X.env:=by rfl) (hplain:(backTo cpos (starEach es X.env)).any (·.1)=false:=by rfl) :
 PE X (.Call (.Attribute o "index" apos) (e::es) [] cpos) (B0v X.K to t):=by
 intro b s p H Q I h
 refine wpAny_Call_method_late hbase hfew hline rfl (thn (ho b s p H _ I h) λv y ⟨x,z,d,c,w⟩=>?_)
 rcases w with ⟨j,k⟩ | ⟨j,k⟩
 ·obtain⟨g,m⟩:=Xv d c j
  refine⟨"list", "list.index",dY,PySem.F.slot_list_index,PySem.F.type_list_index,g,m,?_⟩
  have a:=ha cpos _ _ _ _ _ d k;rw[hs]at a ⊢
  refine dR (by grind) (eQ ?_)
  exact thn a λi q ⟨r,u,l,n,f⟩=>A1h hu _ _ _ _ x _ v i Q l c n f
 ·obtain⟨g,m⟩:=Xv d c j
  refine⟨"tuple", "tuple.index",jy,jz,jA,g,m,?_⟩
  have a:=ha cpos _ _ _ _ _ d k;rw[hs]at a ⊢
  refine dR (by grind) (eQ ?_)
  exact thn a λi q ⟨r,u,l,n,f⟩=>A3t hu _ _ _ _ x _ v i Q l c n f
theorem By6 {Kq:v9}(a:X.K=Kq)(hu:X.A.units+64<cLine)(ho:QE X o to)(ha:QA X (e::es) t)
 (hbase:attributeBase o "index" X.env (eval o X.env)=eval o X.env:=by rfl)
 (hfew:((backTo cpos (starEach (e::es) X.env)).all (λx=>!x.1)&&(backToKw cpos (keywordEach [] X.env)).all (λx=>x.1.isSome)
  && decide ((e::es).length+([]:List Keyword).length+(if ([]:List Keyword).isEmpty then 0 else 1)<30))=true:=by rfl)
 (hline:(apos.endLine==cpos.line)=true:=by rfl) (hs:starEach (e::es) X.env=(false,eval e X.env)::starEach es X.env:=by rfl) (hplain:(backTo cpos (starEach es X.env)).any (·.1)=false:=by rfl) :
 QE X (.Call (.Attribute o "index" apos) (e::es) [] cpos) (B0v Kq to t):=by
 subst a;exact⟨Bw5 hu ho.get ha.get hbase hfew hline hs hplain⟩
end
end L2
namespace L2
open PySem PySem.Spec PyProof.Rows
section
variable {prog:u9}{w:World}{K:Type}[DecidableEq K]{knd:HeapKind prog w K}{A:q9}{E:z_}{s:t6}
theorem A1m (hu:knd.room A) (hk:knd.is s.heap k a) (hm:s.heap.DictOfH knd d xs) (hsz:xs.length<=sizeLine)
 (l:∀p,atKey xs k=some p->Q p.2 { s with toks:=s.toks+knd.draws k })
 (m:atKey xs k=none->∀h',h'.DictOfH knd d (xs++[(k,a,v)])->Heap.SameBut d s.heap h'->Q v { s with heap:=h',toks:=s.toks+knd.draws k }) :
 wpAny (model prog w) A (dictSetDefault d (.ref a) v) Q E s:=by
 obtain⟨o,r,t,f,u,c,i,g,n⟩:=hm;unfold dictSetDefault
 refine bA ?_
 refine aj (knd.pyHash hu hk ?_)
 refine aj (wpAny_dictFind_heap (s:={ s with toks:=s.toks+knd.draws k }) hu hk f c i g n ?_ ?_)
 ·intro h
  refine aj (cP (aj (wpAny_updateDictKeys (hz:=by have e:=size_of_entries i;lia) (s:={ s with toks:=s.toks+knd.draws k }) f c (ak (m (atKey_none_of_get h) _
   ⟨_,_,t+1,bU _ f (Obj.isFreed_of_dict (Obj.data_mapDictKeys c _)),u.mapDictKeys _,Obj.data_mapDictKeys c _,?_,?_,?_⟩ (bN ..))))))
  ·simp[i,entryOfKey]
  ·intro x b
   rcases aY.mp b with b | b
   ·exact knd.keeps (g x b) f c (bN ..)
   ·cases aK.mp b
    exact knd.keeps hk f c (bN ..)
  ·rw[cj,dm]
   refine⟨n,by simp,λx b y z e=>?_⟩
   cases aK.mp z
   have B:x=k:=e;exact not_mem_keys_of_get h (B▸b)
 ·intro j p q
  refine aj (wpAny_dictEntries f c ?_)
  have C:r[j]?=some (entryOfKey knd (k,p)):=by
   rw[<- fO,i,bV,q];rfl
  rw[C];exact aj (cP (ak (l p (atKey_of_get n q))))
end
section
variable {X:Cx}{pins:y_}{σ:St}{H:Hp}{s:t6}{a b:Addr}{E:z_}{A:q9}
theorem Ah2 (hd:(a==sysModules)=false) (hz:xs.length<=sizeLine) :
 MeetsIn P w (Builtin.«dict.setdefault» ⟨[.ref a,.ref b,r],[]⟩) (λA R s=>A.units+9<cLine/\s.heap.DictOfH (Dn P w) a xs/\(Dn P w).is s.heap k b/\(∀p,atKey xs k=some p->R (.ok (.ret p.2)) { s with toks:=s.toks+Vk k }) /\
  (atKey xs k=none->∀c,c.DictOfH (Dn P w) a (xs++[(k,b,r)])->Heap.SameBut a s.heap c->R (.ok (.ret r)) { s with heap:=c,toks:=s.toks+Vk k })) :=
 .of_wp λA R s ⟨l,e,m,g,h⟩=>by
  refine aj ?_
  refine aj (iT e.typeIs ?_)
  refine ak ?_
  show wpAny _ _ (if (a==sysModules)=true then _ else dictSetDefault a _ r >>= _) _ _ s
  rw[if_neg (by grind)]
  exact aj (A1m (A5q l) m e hz (λp i=>ak ⟨_,rfl,g p i⟩) λj c d f=>ak ⟨_,rfl,h j _ d f⟩)
theorem B0m (hu:A.units+9<cLine) (I:Inv X pins σ H s) (e:H a=some (.dT d)) (n:KAt H k b) (hl:d.length<sizeLine) (B:RelV z r)
 (i:∀v w' s',Ii d k=some v->Inv X pins σ H s'->RelV v w'->Q w' s') (g:∀s',Ii d k=none->Inv X pins σ (upd H a (.dT (d++[(k,z)]))) s'->Q r s') :
 wpAny (model X.prog X.w) A (call (.builtin "dict.setdefault") [.ref a,.ref b,r]) Q E s:=by
 obtain⟨u,m,D,f,l⟩:=Bs8 I.hok e
 have y:D.length<=sizeLine:=by rw[<- eN f];exact u
 refine gF PySem.F.slot_dict_setdefault l.typeIs PySem.F.entry_dict_setdefault (PySem.F.args_dict_setdefault_3 _ _ _) (Ah2 m y) ⟨hu,l,Yn I.hok n,λp w=>?_,λx N h C=>?_⟩
 ·have q:=f.val k
  rw[w]at q
  cases ev:Ii _ k with
  | none=>rw[ev]at q;exact False.elim q
  | some v=>rw[ev]at q;exact i v _ _ ev (I.tok _) q
 ·have q:=f.val k
  rw[x]at q
  cases ev:Ii _ k with
  | some v=>rw[ev]at q;exact False.elim q
  | none =>
   refine g _ ev ?_
   obtain⟨o,F,G,t,K,L,J,_,M⟩:=h
   refine S6 I (by rw[e];exact True.intro) C ⟨o,t⟩ ⟨by grind,m,_,KT.keeps (Paired.snoc f ⟨rfl,n,B⟩) λc O j=>?_,o,F,G,t,K,L,J,M⟩
   rw[Af (A8x j e λz=>nomatch z)]
   exact j
end
def Bs2 (td ty tx:TE):TE:=λσ H Q=>td σ H λx H1=>∃a,x=.ref a/\IsD H1 a/\ty σ H1 λy H2=>tx σ H2 λz H3=>∃kvs k b,y=.ref b/\H3 a=some (.dT kvs)/\KAt H3 k b/\kvs.length<sizeLine /\
 (∀v,Ii kvs k=some v->Q v H3)/\(Ii kvs k=none->Q z (upd H3 a (.dT (kvs++[(k,z)]))))
section
variable {X:Cx}{o e f:Expr}{td ty tx:TE}{apos cpos:Pos}
theorem Bj6 (hu:X.A.units+64<cLine)(ho:QE X o td)(he:QE X e ty)(hf:QE X f tx)(m:M2 X o "setdefault" apos e f cpos):QE X (.Call (.Attribute o "setdefault" apos) [e,f] [] cpos) (Bs2 td ty tx):=by
 refine⟨?_⟩
 intro c s σ H Q I h
 refine wpAny_Call_method m.base m.few m.line iB PySem.F.slot_dict_setdefault PySem.F.type_dict_setdefault (thn (ho.1 c s _ H _ I h) λu s1 ⟨x,H1,n,O,a,D,d,N⟩=>?_)
 subst D;obtain rfl:u=Value.ref a:=O;obtain⟨q,r,_⟩:=Yu n d
 refine⟨q,r,?_⟩
 rw[m.trees]
 refine dR rfl (eQ (eO (thn (he.1 _ _ _ _ _ n N) λiv s2 ⟨y,H2,t,w,A⟩ =>
  eO (thn (hf.1 _ _ _ _ _ t A) λfv s3 ⟨z,B,p,l,E,k,b,F,G,J,C,L,M⟩=>gA ?_))))
 subst F
 cases w
 exact B0m (cH (dO (by decide) _) hu) p G J C l (λv w' K i j g=>⟨v,B,j,g,L v i⟩) λK i j=>⟨z,_,j,l,M i⟩
theorem Ba8 (hu:X.A.units+64<cLine)(ho:QE X o td)(he:QE X e ty)(hf:QE X f tx)(m:M2 X o "get" apos e f cpos):QE X (.Call (.Attribute o "get" apos) [e,f] [] cpos) (An2 td ty tx):=⟨A8s (cH (dO (by decide) _) hu) ho.get he.get hf.get m⟩
theorem U3 : QE X (.Dict [] [] a) Ap3:=⟨A5c⟩
end
section
variable {P:u9}{w:World}{A:q9}{E:z_}{s:t6}
theorem Aq3:((Manifest.find? "dict_keyiterator").elim "dict_keyiterator" λx=>x.tpName) = "dict_keyiterator" := by rfl
theorem Af7 (f:s.heap.IsKeyIter it dd i es.size e) (u:s.heap.get? dd=some od) (a:od.data=.dict es e) (hi:i<es.size)
 (q:∀h',h'.IsKeyIter it dd (i+1) es.size e->Heap.SameBut it s.heap h'->Q (some es[i].key) { s with heap:=h' }):wpAny (model P w) A (pyNext (.ref it)) Q E s:=by
 obtain⟨k,g,d,z,r⟩:=s;obtain⟨⟨c,v,x,G⟩,l,m,h⟩:=f;obtain⟨C,j,o,t⟩:=od;simp only at m h a;subst m h a;have n:(⟨k,g,d,z,r⟩:t6).TypeIs (.ref it) "dict_keyiterator" := ⟨_,l,rfl⟩;have D:=mroOf_keyiter
 have p:Builtin.Dict_items.ownsTuple "dict_keyiterator" = false:=by decide
 have y:es[(i:Int).toNat]?=some es[i]:=by simp[hi]
 unfold pyNext
 refine aj (dh (cM (name:="__next__") n iU (bO iU n jP ?_ (jQ _))))
 repeat any_goals first | assumption | wp_step
 simp only[Aq3,p,cD,bB,gW,List.take]
 have B:¬ ((i:Int)<0):=by lia
 simp only[B,bB,y]
 repeat any_goals first | assumption | wp_step
 simp only[Aq3,p,cD,bB]
 have b:(k.update it (Obj.mapFields (·.setIfInBounds 1 (rawInt ((i:Int)+1))))).IsKeyIter it dd (i+1) es.size e :=
  ⟨_,bU _ l (eZ (dD rfl _)),iH ..,by rw[dD rfl];simp[rawInt]⟩
 exact⟨_,rfl,ak (q _ b (bN ..))⟩
theorem Ay4 (a:A.handled=none) (f:s.heap.IsKeyIter it dd i es.size j) (u:s.heap.get? dd=some od) (e:od.data=.dict es j) (hi:es.size<=i)
 (v:∀h',Heap.ExtBut it s.heap h'->Q none { s with heap:=h' }):wpAny (model P w) A (pyNext (.ref it)) Q E s:=by
 obtain⟨z,g,d,r,x⟩:=s;obtain⟨⟨c,p,q,D⟩,t,h,l⟩:=f;obtain⟨G,k,m,B⟩:=od;simp only at h l e;subst h l e;have n:(⟨z,g,d,r,x⟩:t6).TypeIs (.ref it) "dict_keyiterator" := ⟨_,t,rfl⟩;have H:=mroOf_keyiter
 have y:Builtin.Dict_items.ownsTuple "dict_keyiterator" = false:=by decide
 have C:es[(i:Int).toNat]?=none:=by simp[hi]
 unfold pyNext
 refine aj (dh (cM (name:="__next__") n iU (bO iU n jP ?_ (jQ _))))
 repeat any_goals first | assumption | wp_step
 simp only[Aq3,y,cD,bB,gW,List.take]
 have o:¬ ((i:Int)<0):=by lia
 simp only[o,bB,C]
 repeat any_goals first | assumption | wp_step
 refine iV (show A.in1.handled=none from a) ?_
 refine aj (dN (T := "StopIteration") (b:=true) ⟨_,aG _ rfl,rfl⟩ fU ?_)
 exact ak (v _ (((bN ..).extBut.push _).push _))
theorem Ai2 (q:(dd==sysModules)=false) (b:s.heap.get? dd=some od) (hx:od.ExactDict) (a:od.data=.dict es k)
 (m:Q (.ref s.heap.objs.size) { s with heap:=s.heap.push { cls:=.type "dict_keyiterator",data:=.fields #[.ref dd,.int 0 0,.int es.size 0,.int k 0] } }):wpAny (model P w) A (pyIter (.ref dd)) Q E s:=by
 obtain⟨o,g,d,p,l⟩:=s;obtain⟨t,f,e,n⟩:=od;obtain⟨i,h,j⟩:=hx;simp only at i h j a;subst i h j a;have c:(⟨o,g,d,p,l⟩:t6).TypeIs (.ref dd) "dict" := ⟨_,b,rfl⟩
 refine jB c F.slot_dict_iter (bO F.slot_dict_iter c F.entry_dict_iter ?_ (F.args_dict_iter_1 _))
 unfold Builtin.«dict.__iter__» Builtin.Dict.dictSlotNone
 refine aj (aj (iT c (ak ?_)))
 have r:Builtin.Dict.showsAll dd=pure ():=by unfold Builtin.Dict.showsAll;rw[if_neg (by rw[q];exact bL)]
 show wpAny _ _ (Builtin.Dict.showsAll dd >>= _) _ _ _
 repeat any_goals first | assumption | wp_step
 exact⟨_,rfl, "dict_keyiterator",_,⟨_,aG _ rfl,rfl⟩,F.slot_dict_keyiterator_next.lookup,m⟩
end
section
variable {P:u9}{w:World}{A:q9}{E:z_}{s:t6}
theorem Ot {h:Heap} (e:h.get? it=some { cls:=.type "dict_itemiterator",data:=.fields vs }):(h.update it (Obj.mapFields f)).get? it=some { cls:=.type "dict_itemiterator",data:=.fields (f vs) } :=
 bU _ e (eZ (dD rfl _))
theorem Aj5:((Manifest.find? "dict_itemiterator").elim "dict_itemiterator" λx=>x.tpName) = "dict_itemiterator" := by rfl
theorem A5o (c:IsItemIter s.heap it dd i es.size k O G) (T:s.heap.get? dd=some od) (h:od.data=.dict es k) (hi:i<es.size)
 (W:∀h',IsItemIterOut h' it dd (i+1) es.size k es[i].key es[i].val s.heap.objs.size->h'.get? s.heap.objs.size=some { cls:=.type "tuple",data:=.seq #[es[i].key,es[i].val] }->h'.objs.size=s.heap.objs.size+1 ->
  (∀b o,b≠it->s.heap.get? b=some o->h'.get? b=some o)->Q (some (.ref s.heap.objs.size)) { s with heap:=h' }):wpAny (model P w) A (pyNext (.ref it)) Q E s:=by
 obtain⟨a,g,d,C,v⟩:=s;obtain⟨Z,H,z,U⟩:=od;simp only at h;subst h;have L:(⟨a,g,d,C,v⟩:t6).TypeIs (.ref it) "dict_itemiterator" := ⟨_,c,rfl⟩;have f1:=mroOf_itemiter
 have N:Builtin.Dict_items.ownsTuple "dict_itemiterator" = true:=by decide
 have Y:es[(i:Int).toNat]?=some es[i]:=by simp[hi]
 have S:¬ ((i:Int)<0):=by lia
 unfold pyNext
 refine aj (dh (cM (name:="__next__") L iW (bO iW L jR ?_ (jT _))))
 repeat any_goals first | assumption | wp_step
 simp only[Aj5,N,cB,List.drop,List.take]
 repeat any_goals first | assumption | wp_step
 simp only[S,bB,Y]
 repeat any_goals first | assumption | wp_step
 simp only[Aj5,N,cB]
 have m:Heap.SameBut it a (a.update it (Obj.mapFields λx=>x.setIfInBounds (2+1) (rawInt ((i:Int)+1)))):=bN ..
 have y:(a.update it (Obj.mapFields λx=>x.setIfInBounds (2+1) (rawInt ((i:Int)+1)))).get? it=some { cls:=.type "dict_itemiterator",data:=.fields #[.none,.bool false,.ref dd,rawInt ((i:Int)+1),.int es.size 0,.int k 0,O,G] }:=Ot c
 refine⟨_,rfl,ak ?_⟩
 show Q (some (.ref (a.update it (Obj.mapFields λx=>x.setIfInBounds (2+1) (rawInt ((i:Int)+1)))).objs.size)) { heap:=(((((a.update it (Obj.mapFields λx=>x.setIfInBounds (2+1) (rawInt ((i:Int)+1)))).push { cls:=Value.type "tuple",data:=Data.seq #[es[i].key,es[i].val] }).update it (Obj.mapFields λx=>x.setIfInBounds 6 es[i].key)).update it (Obj.mapFields λx=>x.setIfInBounds (6+1) es[i].val)).update it (Obj.mapFields λx=>x.setIfInBounds 0 (rawInt (a.update it (Obj.mapFields λx=>x.setIfInBounds (2+1) (rawInt ((i:Int)+1)))).objs.size))).update it (Obj.mapFields λx=>x.setIfInBounds 1 (Value.bool false)),gens:=g,drawn:=d,toks:=C,os:=v }
 generalize a.update it (Obj.mapFields λx=>x.setIfInBounds (2+1) (rawInt ((i:Int)+1)))=h1 at m y ⊢
 have V:h1.objs.size=a.objs.size:=m.1;have B:=aB { cls:=Value.type "tuple",data:=Data.seq #[es[i].key,es[i].val] } y;have l:(h1.push { cls:=Value.type "tuple",data:=Data.seq #[es[i].key,es[i].val] }).get? h1.objs.size=some { cls:=.type "tuple",data:=.seq #[es[i].key,es[i].val] }:=aG _ rfl
 have D:∀b o,b≠it->a.get? b=some o->(h1.push { cls:=Value.type "tuple",data:=Data.seq #[es[i].key,es[i].val] }).get? b=some o:=λb o n e=>aB _ ((m.2 b n).trans e)
 have q:(h1.push { cls:=Value.type "tuple",data:=Data.seq #[es[i].key,es[i].val] }).objs.size=h1.objs.size+1:=bW ..;generalize h1.push { cls:=Value.type "tuple",data:=Data.seq #[es[i].key,es[i].val] }=h2 at B l D q ⊢;rw[V]at l q ⊢;have X:a.objs.size≠it:=bT (aA c)
 have r:=bN h2 it (Obj.mapFields λx=>x.setIfInBounds 6 es[i].key)
 have I:=Ot (f:=λx=>x.setIfInBounds 6 es[i].key) B
 generalize h2.update it (Obj.mapFields λx=>x.setIfInBounds 6 es[i].key)=h3 at r I ⊢
 have p:=bN h3 it (Obj.mapFields λx=>x.setIfInBounds (6+1) es[i].val)
 have K:=Ot (f:=λx=>x.setIfInBounds (6+1) es[i].val) I
 generalize h3.update it (Obj.mapFields λx=>x.setIfInBounds (6+1) es[i].val)=h4 at p K ⊢
 have u:=bN h4 it (Obj.mapFields λx=>x.setIfInBounds 0 (rawInt a.objs.size))
 have J:=Ot (f:=λx=>x.setIfInBounds 0 (rawInt a.objs.size)) K
 generalize h4.update it (Obj.mapFields λx=>x.setIfInBounds 0 (rawInt a.objs.size))=h5 at u J ⊢
 have t:=bN h5 it (Obj.mapFields λx=>x.setIfInBounds 1 (Value.bool false))
 have M:=Ot (f:=λx=>x.setIfInBounds 1 (Value.bool false)) J
 generalize h5.update it (Obj.mapFields λx=>x.setIfInBounds 1 (Value.bool false))=h6 at t M ⊢
 have j:∀b o,b≠it->h2.get? b=some o->h6.get? b=some o:=λb o n e=>(t.2 b n).trans ((u.2 b n).trans ((p.2 b n).trans ((r.2 b n).trans e)))
 refine W h6 ?_ (j _ _ X l) (by rw[show h6.objs.size=h2.objs.size from t.1.trans (u.1.trans (p.1.trans r.1))];exact q) λb o n e=>j b o n (D b o n e)
 have R:((i+1:Nat):Int)=(i:Int)+1:=by lia
 unfold IsItemIterOut;rw[R];exact M
end
theorem KT.get {H:Hp}:∀{kvs:List (PyData×V)}{xs:List (PyData×Addr×Value)}{i:Nat}{k:t_}{v:V},KT H kvs xs->kvs[i]?=some (k,v)->∃b u,xs[i]?=some (k,b,u)/\KAt H k b/\RelV v u
 | _,_,_,_,_,.nil,e=>by simp at e
 | _,_,0,k,v,.cons (a:=p) (b:=q) h t,e=>by
  cases (show some p=some (k,v) from e)
  obtain⟨h1,h2,h3⟩:=h;obtain⟨k',b,u⟩:=q
  cases (show k=k' from h1)
  exact⟨b,u,rfl,h2,h3⟩
 | _,_,i+1,k,v,.cons h t,e=>by
  obtain⟨b,u,e1,r⟩:=KT.get t (by simpa using e)
  exact⟨b,u,by simpa using e1,r⟩
section
variable {X:Cx}{pins:y_}{σ:St}{H:Hp}{s:t6}{a:Addr}{kvs:List (PyData×V)}
theorem Inv.still (I:Inv X pins σ H s)(e:H a=some (.dT kvs)):∃o,Inv X pins σ (upd H a (.frz o (.dT kvs))) s:=by
 obtain⟨z,y,h,r,o,f,g,b,c⟩:=I.hok a _ e
 refine⟨o,S6 I (by rw[e];trivial) (Heap.SameBut.refl _ _) ⟨o,b⟩ ⟨b,z,y,h,KT.keeps r λc i d=>?_,o,f,g,b,c⟩⟩
 rw[Af (A8x d e λz=>nomatch z)];grind
theorem Inv.seen (I:Inv X pins σ H s) (e:H a=some (.frz o (.dT kvs))):∃c b d,s.heap.get? a=some o/\(a==sysModules)=false/\o.ExactDict/\o.data=.dict b d/\b.toList=c.map (entryOfKey (Dn X.prog X.w))/\KT H kvs c/\kvs.length<=sizeLine:=by
 obtain⟨h,z,y,c,r,g,b,d,i,j,k,l,f⟩:=I.hok a _ e
 grind
theorem Gy {es:v8} (h:es.toList=xs.map (entryOfKey (Dn P w))) (r:KT H kvs xs):es.size=kvs.length:=by
 rw[<- fL,h,ao,eN r]
theorem Yv {es:v8} (h:es.toList=xs.map (entryOfKey (Dn P w))) (r:KT H kvs xs) (e:kvs[i]?=some (k,v)) (hi:i<es.size) :
 ∃b u,es[i].key=.ref b/\es[i].val=u/\KAt H k b/\RelV v u:=by
 obtain⟨b,u,g,f,d⟩:=KT.get r e
 have a:es.toList[i]?=some (entryOfKey (Dn P w) (k,b,u)):=by grind
 rw[fO,jC hi]at a;have c:=cz a
 exact⟨b,u,by rw[c];rfl,by rw[c];rfl,f,d⟩
end
noncomputable def Itk (a:Addr) (o:Obj):It :=
 ⟨λi H=>∃kvs,H a=some (.frz o (.dT kvs))/\i<kvs.length,λi H x H'=>H'=H/\∃kvs k v b,H a=some (.frz o (.dT kvs))/\kvs[i]?=some (k,v)/\x=.ref b/\KAt H k b,λi H=>∃kvs,H a=some (.frz o (.dT kvs))/\kvs.length<=i⟩
def Iti (a:Addr)(o:Obj):It :=
 ⟨λi H=>∃kvs,H a=some (.frz o (.dT kvs))/\i<kvs.length,λi H x H'=>∃p kvs k v b,x=.ref p/\H p=none/\H'=upd H p (.tup [.ref b,v])/\H a=some (.frz o (.dT kvs))/\kvs[i]?=some (k,v)/\KAt H k b,λi H=>∃kvs,H a=some (.frz o (.dT kvs))/\kvs.length<=i⟩
theorem A1c {P:u9}{w:World}{K:v9}{tg:Expr}{a it:Addr}{o:Obj}{es:v8}{ep:Nat}(hd:o.data=.dict es ep):Turn P w K tg (Itk a o) [it] it (λi h=>h.IsKeyIter it a i es.size ep) where
 mem:=by simp
 obj:=λi h st b hb=>by
  have e:b=it:=by simpa using hb
  subst e;obtain⟨o,e,c,d⟩:=st
  exact⟨o,e,λv z=>by rw[d]at z;cases z⟩
 keep:=λi h h' st k=>let ⟨o,e,r⟩:=st; ⟨o,k it (by simp) o e,r⟩
 item:=by
  intro X hP hw hK hc i pins s σ H E I hf st hg;subst hP hw hK;obtain⟨kvs,ha,hi⟩:=hg;obtain⟨xs,es',ep',g1,g2,g3,g4,g5,g6,g7⟩:=I.seen ha;rw[hd]at g4
  cases g4
  have li:i<es.size:=by rw[Gy g5 g6];exact hi
  obtain⟨⟨k,v⟩,hk⟩:∃x,kvs[i]?=some x:=⟨_,bC hi⟩;obtain⟨b,u,k1,k2,k3,k4⟩:=Yv g5 g6 hk li
  obtain⟨f0,f1,f2,f3,f4,f5⟩:=hf it (by simp)
  refine Af7 st g1 hd li λh' st' sb=>?_
  have I1:Inv X pins σ H { s with heap:=h' }:=I.turned (t':=s.toks) (λb o hb e=>(sb.2 b hb).trans e) f0 f1 f3 f4 f5
  obtain⟨o',e,c,d⟩:=id st'
  exact⟨_,rfl,Ae0 (s:={ s with heap:=h' }) e c d (by decide) ⟨.ref b,H,I1,by rw[k1];rfl,⟨rfl,kvs,k,v,b,ha,hk,rfl,k3⟩,st',λb hb=>(hf b hb).1⟩⟩
 done:=by
  intro X hP hw hK hc i pins s σ H E I hf st hg;subst hP hw hK;obtain⟨kvs,ha,hi⟩:=hg;obtain⟨xs,es',ep',g1,g2,g3,g4,g5,g6,g7⟩:=I.seen ha;rw[hd]at g4
  cases g4
  obtain⟨f0,f1,f2,f3,f4,f5⟩:=hf it (by simp)
  exact Ay4 (I.ok.hd hc) st g1 hd (by rw[Gy g5 g6];exact hi) λh' eb=>⟨rfl,I.turned (t':=s.toks) (λb o hb e=>eb b o hb e) f0 f1 f3 f4 f5⟩
 self:=λ_ _ _ _ _ st h=>wpAny_pyIter_keyiter st h
def iDK (td:TE):TI:=λσ H R=>td σ H λx H1=>∃a o kvs,x=.ref a/\H1 a=some (.frz o (.dT kvs))/\R (Itk a o) H1
section
variable {X:Cx}
theorem Ac1 (hl:QE X l f):QI X w l (iDK f):=by
 refine⟨?_⟩
 intro i s y H R I h
 refine thn (hl.1 _ s _ H _ I h) λv d ⟨x,m,c,n,p⟩=>?_
 obtain⟨a,o,r,e,j,q⟩:=p;subst e
 cases n
 obtain⟨A,B,C,k,u,t,g,D,E,F⟩:=c.seen j
 refine Ai2 u k t g ?_
 refine⟨d.heap.objs.size,[d.heap.objs.size],_,_,m,rfl,c.kept λb o e=>aB _ e,A1c g,⟨_,aG _ rfl,rfl,rfl⟩,λb z=>?_,q⟩
 have e:b=d.heap.objs.size:=by grind
 subst e;exact c.fpOk (au _) (c.hok.fresh (au _))
def tFz (d:Nat)(t u:TS):TS:=λD σ H=>t { D with nx:=λσ' H'=>∃a kvs,σ'[d]?=some (some (.ref a))/\H' a=some (.dT kvs)/\∀o,u D σ' (upd H' a (.frz o (.dT kvs))) } σ H
theorem Ao1 {st:Stmt}{rest:List Stmt} (h1:QS X st t) (h2:QSs X rest u):QSs X (st::rest) (tFz d t u):=by
 obtain⟨h2⟩:=h2
 refine⟨?_⟩
 intro b s k H D I h
 refine iy (thn (h1.1 _ s _ H _ I h) λf n q=>?_)
 cases f with
 | next =>
  obtain⟨i,l,g,a,e,m,j,q⟩:=q;obtain⟨o,c⟩:=g.still j;exact h2 _ _ _ _ D c (q o)
 | ret v=>exact q
 | brk=>exact q
 | cont=>exact q
end
section
variable {P:u9}{w:World}{A:q9}{E:z_}{s:t6}
theorem Bp3 (a:A.handled=none) (e:IsItemIter s.heap it dd i es.size f q r) (t:s.heap.get? dd=some od) (c:od.data=.dict es f) (hi:es.size<=i)
 (m:∀h',Heap.ExtBut it s.heap h'->Q none { s with heap:=h' }):wpAny (model P w) A (pyNext (.ref it)) Q E s:=by
 obtain⟨n,g,d,o,p⟩:=s;obtain⟨z,j,h,u⟩:=od;simp only at c;subst c;have k:(⟨n,g,d,o,p⟩:t6).TypeIs (.ref it) "dict_itemiterator" := ⟨_,e,rfl⟩;have y:=mroOf_itemiter
 have x:Builtin.Dict_items.ownsTuple "dict_itemiterator" = true:=by decide
 have v:es[(i:Int).toNat]?=none:=by simp[hi]
 have l:¬ ((i:Int)<0):=by lia
 unfold pyNext
 refine aj (dh (cM (name:="__next__") k iW (bO iW k jR ?_ (jT _))))
 repeat any_goals first | assumption | wp_step
 simp only[Aj5,x,cB,List.drop,List.take]
 repeat any_goals first | assumption | wp_step
 simp only[l,bB,v]
 repeat any_goals first | assumption | wp_step
 refine iV (show A.in1.handled=none from a) ?_
 refine aj (dN (T := "StopIteration") (b:=true) ⟨_,aG _ rfl,rfl⟩ fU ?_)
 exact ak (m _ (((bN ..).extBut.push _).push _))
theorem A2b (b:(dd==sysModules)=false):MeetsIn P w (Builtin.«dict.items» ⟨[.ref dd],[]⟩) (λ_ R s=>s.TypeIs (.ref dd) "dict" /\ R (.ok (.ret (.ref s.heap.objs.size))) { s with heap:=s.heap.push { cls:=.type "dict_items",data:=.fields #[.ref dd] } }) :=
 .of_wp λA R s ⟨t,h⟩=>by
  refine aj (aj (iT t (ak ?_)))
  have a:Builtin.Dict.showsAll dd=pure ():=by unfold Builtin.Dict.showsAll;simp_all
  rw[a]
  refine aj (ak (aj (c7 (ak ⟨_,rfl,h⟩))))
theorem A9f (b:(dd==sysModules)=false) (ty:s.TypeIs (.ref dd) "dict")
 (a:Q (.ref s.heap.objs.size) { s with heap:=s.heap.push { cls:=.type "dict_items",data:=.fields #[.ref dd] } }):wpAny (model P w) A (call (.builtin "dict.items") [.ref dd]) Q E s :=
 gF PySem.F.slot_dict_items ty PySem.F.entry_dict_items (PySem.F.args_dict_items_1 _) (A2b b) ⟨ty,a⟩
theorem A6j (hv:s.heap.get? v=some { cls:=.type "dict_items",data:=.fields #[.ref dd] }) (l:s.heap.get? dd=some od) (a:od.data=.dict es c)
 (k:Q (.ref s.heap.objs.size) { s with heap:=s.heap.push { cls:=.type "dict_itemiterator",data:=.fields #[.none,.bool false,.ref dd,.int 0 0,.int es.size 0,.int c 0,.none,.none] } }):wpAny (model P w) A (pyIter (.ref v)) Q E s:=by
 obtain⟨n,g,d,i,j⟩:=s;obtain⟨o,b,e,m⟩:=od;simp only at a;subst a;have f:(⟨n,g,d,i,j⟩:t6).TypeIs (.ref v) "dict_items" := ⟨_,hv,rfl⟩
 have h:Builtin.Dict_items.ownsTuple "dict_itemiterator" = true:=by decide
 refine jB f F.slot_dict_items_iter (bO F.slot_dict_items_iter f F.entry_dict_items_iter ?_ (F.args_dict_items_iter_1 _))
 repeat any_goals first | assumption | wp_step
 simp only[h,cB];exact⟨_,rfl, "dict_itemiterator",_,⟨_,aG _ rfl,rfl⟩,F.slot_dict_itemiterator_next.lookup,k⟩
end
theorem Ao9 {P:u9}{w:World}{K:v9}{elts:v_}{kk:Nat}{pos:Pos}{a it:Addr}{o:Obj}{es:v8}{ep:Nat}(hd:o.data=.dict es ep):Turn P w K (.Tuple elts kk pos) (Iti a o) [it] it (λi h=>∃ok ov,IsItemIter h it a i es.size ep ok ov) where
 mem:=by simp
 obj:=λi h st b hb=>by
  have e:b=it:=by simpa using hb
  subst e;obtain⟨ok,ov,e⟩:=st
  exact⟨_,e,λv z=>by cases z⟩
 keep:=λi h h' st k=>let ⟨ok,ov,e⟩:=st; ⟨ok,ov,k it (by simp) _ e⟩
 item:=by
  intro X hP hw hK hc i pins s σ H E I hf st hg;subst hP hw hK;obtain⟨kvs,ha,hi⟩:=hg;obtain⟨ok,ov,st⟩:=st;obtain⟨xs,es',ep',g1,g2,g3,g4,g5,g6,g7⟩:=I.seen ha;rw[hd]at g4
  cases g4
  have li:i<es.size:=by rw[Gy g5 g6];exact hi
  obtain⟨⟨k,v⟩,hk⟩:∃x,kvs[i]?=some x:=⟨_,bC hi⟩;obtain⟨b,u,k1,k2,k3,k4⟩:=Yv g5 g6 hk li
  obtain⟨f0,f1,f2,f3,f4,f5⟩:=hf it (by simp)
  refine A5o st g1 hd li λh' st' new sz kp=>?_
  refine⟨_,rfl,?_⟩
  apply wpAny_letOwnedTupleGo_items st';intro h2 st2 sb2;have ne:s.heap.objs.size≠it:=bT (aA st);have hp:H s.heap.objs.size=none:=I.hok.fresh (au _);have new2:h2.get? s.heap.objs.size=some { cls:=.type "tuple",data:=.seq #[es[i].key,es[i].val] }:=(sb2.2 _ ne).trans new
  refine⟨.ref s.heap.objs.size,upd H s.heap.objs.size (.tup [.ref b,v]),?_,rfl,⟨_,kvs,k,v,b,rfl,hp,rfl,ha,hk,k3⟩,⟨_,_,st2⟩,λc hc=>?_⟩
  ·refine I.turnLay (t':=s.toks) (h':=h2) (p:=s.heap.objs.size) (o:=.tup [.ref b,v]) (ch:=[it]) hf (λc o m e=>(sb2.2 c (by simpa using m)).trans (kp c o (by simpa using m) e)) (au _) ?_
   refine⟨show 2<=sizeLine by decide,[es[i].key,es[i].val],.cons (by rw[k1];rfl) (.cons (by rw[k2];exact k4) .nil),_,new2,rfl,⟨_,rfl⟩,rfl⟩
  ·have e:c=it:=by simpa using hc
   subst e;rw[Af (aC ne)];exact f0
 done:=by
  intro X hP hw hK hc i pins s σ H E I hf st hg;subst hP hw hK;obtain⟨kvs,ha,hi⟩:=hg;obtain⟨ok,ov,st⟩:=st;obtain⟨xs,es',ep',g1,g2,g3,g4,g5,g6,g7⟩:=I.seen ha;rw[hd]at g4
  cases g4
  obtain⟨f0,f1,f2,f3,f4,f5⟩:=hf it (by simp)
  exact Bp3 (I.ok.hd hc) st g1 hd (by rw[Gy g5 g6];exact hi) λh' eb=>⟨rfl,I.turned (t':=s.toks) (λb o hb e=>eb b o hb e) f0 f1 f3 f4 f5⟩
 self:=λA i s Q E st h=>by
  obtain⟨ok,ov,st⟩:=st;exact PySem.W.kcp_self st h
def iDI (td:TE):TI:=λσ H R=>td σ H λx H1=>∃a o kvs,x=.ref a/\H1 a=some (.frz o (.dT kvs))/\R (Iti a o) H1
section
variable {X:Cx}
theorem A0g {d c k:Pos}{i:v_}{y:Nat}(hl:QE X l r) (hbase:attributeBase l "items" X.env (eval l X.env)=eval l X.env:=by rfl) (hline:(d.endLine==c.line)=true:=by rfl) :
 QI X (.Tuple i y k) (.Call (.Attribute l "items" d) [] [] c) (iDI r):=by
 refine⟨?_⟩
 intro g s K H R I h
 refine jg hbase hline (thn (hl.1 g s K H _ I h) λv f ⟨x,z,j,A,C⟩=>?_)
 obtain⟨a,o,m,e,t,q⟩:=C;subst e
 cases (show v=Value.ref a from A)
 obtain⟨p,B,_⟩:=Yu j (.inr ⟨m,.inr ⟨o,t⟩⟩);obtain⟨O,D,E,F,J,L,u,P,M,N⟩:=j.seen t
 refine⟨"dict", "dict.items",iB,PySem.F.slot_dict_items,PySem.F.type_dict_items,p,B,dR rfl (jh (A9f J p ?_))⟩
 refine A6j (aG _ rfl) (aB _ F) u ?_
 have G:∀b w,f.heap.get? b=some w->((f.heap.push { cls:=.type "dict_items",data:=.fields #[.ref a] }).push { cls:=.type "dict_itemiterator",data:=.fields #[.none,.bool false,.ref a,.int 0 0,.int D.size 0,.int E 0,.none,.none] }).get? b=some _:=λb w e=>aB _ (aB _ e)
 refine⟨_,[(f.heap.push _).objs.size],_,_,z,rfl,j.kept G,Ao9 u,⟨_,_,aG _ rfl⟩,λb Q=>?_,q⟩
 have e:b=(f.heap.push { cls:=.type "dict_items",data:=.fields #[.ref a] }).objs.size:=by grind
 subst e
 have n:f.heap.objs.size<=(f.heap.push { cls:=.type "dict_items",data:=.fields #[.ref a] }).objs.size:=by simp_all
 exact j.fpOk n (j.hok.fresh n)
end
section
variable {P:u9}{w:World}{A:q9}{E:z_}{s:t6}
theorem A0i (quiet:A.handled=none){it dd:Addr}(ne:dd≠it){es:v8}{ep:Nat}{o:Obj}(hd:o.data=.dict es ep) :
 Walks P w A it [it,dd] [it] es.size (λi v=>∃h:i<es.size,v=es[i].key) (λi h=>h.IsKeyIter it dd i es.size ep/\h.get? dd=some o) where
 sub:=λb hb=>by simp at hb;simp[hb]
 frame:=λ_ _ _ st hk=>⟨let ⟨o,e,r⟩:=st.1; ⟨o,hk it (by simp) o e,r⟩,hk dd (by simp) _ st.2⟩
 item:=λi s Q E hi st hQ=>Af7 st.1 st.2 hd hi λh' it' sb=>hQ _ h' s.toks ⟨hi,rfl⟩ ⟨it',(sb.2 _ ne).trans st.2⟩ λb o hb e=>(sb.2 b (λh=>hb (by simp[h]))).trans e
 done:=λs Q E st hQ=>Ay4 quiet st.1 st.2 hd (au _) λh' he=>hQ h' s.toks λb o hb e=>he b o (λh=>hb (by simp[h])) e
 self:=λ_ _ _ _ st hQ=>wpAny_pyIter_keyiter st.1 hQ
theorem A6n:typeLookup (.type "dict") "__len__" = pure (some (.builtin "dict.__len__")):=by trivial
theorem A5h:isSubtype (.type "dict") (.type "dict")=pure true:=by rfl
theorem Z1 (f:A.handled=none) (T:(dd==sysModules)=false) (x:s.heap.get? dd=some o) (C:o.ExactDict) (hd:o.data=.dict es d) (hn:es.size<=sizeLine)
 (R:∀c acc,(∀b o,s.heap.get? b=some o->c.heap.get? b=some o)->c.gens=s.gens->c.drawn=s.drawn->c.os=s.os->ItemsOf (λi v=>∃h:i<es.size,v=es[i].key) acc es.size->Q acc.toList c):wpAny (model P w) A (collect (.ref dd)) Q E s:=by
 unfold collect
 refine aj (wpAny_runValue (cR F.entry_proto_collect ?_))
 rw[cZ F.plain_proto_collect _]
 show wpAny _ A.in1 (newList [] >>= λl=>again (.builtin "list.__iadd__" ⟨[l,.ref dd],[]⟩)) _ _ s
 refine aj (c7 ?_)
 refine ak ⟨dg iY _,cR F.entry_list_iadd ?_⟩
 rw[cZ iY _];have B:s.heap.objs.size≠dd:=bT (aA x)
 have N:Builtin.List.listSameRef (.ref s.heap.objs.size) (.ref dd)=false:=by simp[Builtin.List.listSameRef,B]
 have z:=aB { cls:=.type "list",data:=.seq ([]:w6).toArray } x;have S:(s.heap.push { cls:=.type "list",data:=.seq ([]:w6).toArray }).get? s.heap.objs.size=some { cls:=.type "list",data:=.seq ([]:w6).toArray }:=aG _ rfl
 show wpAny _ A.in1 (Builtin.List.listExtendWith (.ref s.heap.objs.size) (.ref dd) (.ref s.heap.objs.size)) _ _ _
 unfold Builtin.List.listExtendWith
 have U:({ s with heap:=s.heap.push { cls:=.type "list",data:=.seq ([]:w6).toArray } }:t6).TypeIs (.ref dd) "dict" := ⟨_,z,C.1⟩
 refine aj (dB U ?_)
 have k:(Value.type "dict" == Value.type "list")=false:=by decide
 have J:(Value.type "dict" == Value.type "tuple")=false:=by decide
 simp only[N,k,J,Bool.or_false,cD,bB]
 refine aj (Ai2 T z C hd ?_)
 have D:=aB { cls:=.type "dict_keyiterator",data:=.fields #[.ref dd,.int 0 0,.int es.size 0,.int d 0] } z;have q:=aB { cls:=.type "dict_keyiterator",data:=.fields #[.ref dd,.int 0 0,.int es.size 0,.int d 0] } S;have G:((s.heap.push { cls:=.type "list",data:=.seq ([]:w6).toArray }).push { cls:=.type "dict_keyiterator",data:=.fields #[.ref dd,.int 0 0,.int es.size 0,.int d 0] }).IsKeyIter (s.heap.push { cls:=.type "list",data:=.seq ([]:w6).toArray }).objs.size dd 0 es.size d:=⟨_,aG _ rfl,rfl,rfl⟩;have K:(s.heap.push { cls:=.type "list",data:=.seq ([]:w6).toArray }).objs.size=s.heap.objs.size+1:=bW ..
 have O:∀b o,s.heap.get? b=some o->((s.heap.push { cls:=.type "list",data:=.seq ([]:w6).toArray }).push { cls:=.type "dict_keyiterator",data:=.fields #[.ref dd,.int 0 0,.int es.size 0,.int d 0] }).get? b=some o:=λb o e=>aB _ (aB _ e)
 rw[K]at G ⊢
 generalize ((s.heap.push { cls:=.type "list",data:=.seq ([]:w6).toArray }).push { cls:=.type "dict_keyiterator",data:=.fields #[.ref dd,.int 0 0,.int es.size 0,.int d 0] })=k at *
 have j:({ s with heap:=k }:t6).TypeIs (.ref dd) "dict" := ⟨_,D,C.1⟩
 refine aj (bA ?_)
 unfold Builtin.List.listLengthHint
 refine aj (dM j A6n ?_)
 wp_delta
 refine aj (dN (b:=true) j A5h ?_)
 show wpAny _ A.in1 (typeOf (Value.ref dd) >>= _) _ _ _
 refine aj (dB j ?_)
 refine ak ?_
 rw[if_pos (by decide)]
 refine aj (cP ?_)
 refine aj (m:=Builtin.List.listTouch _) ?_
 unfold Builtin.List.listTouch
 refine aj (d_ q rfl ?_)
 have H:=bU (Obj.mapSeq (·.push Value.none)) q rfl
 refine d_ H rfl ?_
 have Y:=bU (Obj.mapSeq (·.pop)) H rfl
 have g:∀b o,b≠s.heap.objs.size->k.get? b=some o->((k.update s.heap.objs.size (Obj.mapSeq (·.push Value.none))).update s.heap.objs.size (Obj.mapSeq (·.pop))).get? b=some o:=λb o n e=>(bK _ _ (aC n)).trans ((bK _ _ (aC n)).trans e)
 have L:=aA x;have M:dd≠s.heap.objs.size+1:=aQ (eX L)
 have W:=A0i (P:=P) (w:=w) (A:=A.in1) (show A.in1.handled=none from f) M hd
 refine ak ⟨dg gY _,codeAny_extend_loopS W.toS hn s.heap.objs.size (λm=>?_) _ es.size 0 _ _ _ rfl (aU _) ⟨?_,g _ _ (aC B) D⟩ Y (ItemsOf.nil _) λc r Z u y p=>?_⟩
 ·simp only[aD,bI,bJ]at m
  rcases m with m | m
  ·exact absurd m (aQ (dU _))
  ·exact B m
 ·obtain⟨t,X,V⟩:=G
  exact⟨t,g _ _ (bT (dU _)) X,V⟩
 ·show wpAny _ A (load s.heap.objs.size >>= _) _ _ c
  refine aj (wpAny_load y ?_)
  refine ak (R c r (λb t e=>u.heap b t (λI=>?_) (g b t (aQ (aA e)) (O b t e))) u.gens u.drawn u.os p)
  have a:=aA e;simp only[aD,bI,bJ]at I
  rcases I with h | h
  ·rw[h]at a;exact absurd a (bj _)
  ·rw[h]at a;exact absurd a (Nat.not_lt.mpr (dC _))
theorem Vn (t:(dd==sysModules)=false) (j:o.ExactDict) (hd:o.data=.dict es m) (hn:es.size<=sizeLine) :
 Meets (Builtin.«tuple.__new__» ⟨[.type "tuple",.ref dd],[]⟩)
  (λA R s=>A.handled=none/\s.heap.get? dd=some o/\∀(s':t6) (acc:v7),(∀b o,s.heap.get? b=some o->s'.heap.get? b=some o)->s'.gens=s.gens->s'.drawn=s.drawn->s'.os=s.os->ItemsOf (λi v=>∃h:i<es.size,v=es[i].key) acc es.size ->
   R (.ok (.ret (.ref s'.heap.objs.size))) { s' with heap:=s'.heap.push { cls:=.type "tuple",data:=.seq acc } }) :=
 .of_wp λP w A R s h=>by
  obtain⟨p,k,h⟩:=h;have l:=sub_tuple_self;have c:=init_tuple_lookup;have u:=madeHere_tuple;have n:s.TypeIs (.ref dd) "dict" := ⟨_,k,j.1⟩;have f:A.in1.handled=none:=p
  wp_walk using dB n,Z1 f t k j hd hn
  intro s' acc q r d g a
  refine aj (ak ?_)
  show wpAny _ _ (Builtin.Tuple.tupleExact acc.toList.toArray >>= λv=>ret v) _ _ _
  unfold Builtin.Tuple.tupleExact
  have e:acc.toList.toArray=acc:=by simp
  refine aj (c7 ?_ (by rw[e];show acc.size<=sizeLine;rw[a.1];exact hn))
  refine ak ⟨_,rfl,?_⟩
  rw[e];exact h s' _ q r d g a
theorem V4 (a:A.handled=none) (e:(dd==sysModules)=false) (f:s.heap.get? dd=some o) (g:o.ExactDict) (hd:o.data=.dict es d) (hn:es.size<=sizeLine)
 (h:∀(h':Heap) (tk:Nat) (acc:v7),(∀b o,s.heap.get? b=some o->h'.get? b=some o)->ItemsOf (λi v=>∃h:i<es.size,v=es[i].key) acc es.size->Q (.ref h'.objs.size) { s with heap:=h'.push { cls:=.type "tuple",data:=.seq acc },toks:=tk }) :
 wpAny (model P w) A (call (.type "tuple") [.ref dd]) Q E s:=by
 refine callType_new F.called_tuple (by rfl) (F.typeCall_tuple_1 _) (F.newCall_tuple_1 _) (λk=>jo _ _) F.entry_tuple_new
  (Vn e g hd hn) ⟨a,f,λm acc n p j l c=>⟨⟨_,aG _ rfl,rfl⟩,?_⟩⟩
 grind
end
def Bi6 (H:Hp):w5->m7->Prop
 | [],vs=>vs=[]
 | k::ks,vs=>∃b r,vs=.ref b::r/\KAt H k b/\Bi6 H ks r
def Bu0 (td:TE):TE:=λσ H Q=>td σ H λx H1=>∃a o kvs,x=.ref a/\H1 a=some (.frz o (.dT kvs))/\∀vs p,Bi6 H1 (kvs.map (·.1)) vs->H1 p=none->Q (.ref p) (upd H1 p (.tup vs))
section
variable {X:Cx}
theorem Bt5 {H:Hp}{P:u9}{w:World}:∀{kvs:List (PyData×V)}{xs:List (PyData×Addr×Value)},KT H kvs xs->∃vs,Bi6 H (kvs.map (·.1)) vs/\Vals vs (xs.map λx=>Value.ref x.2.1)
 | _,_,.nil=>⟨[],rfl,.nil⟩
 | _,_,.cons (a:=p) (b:=q) h t=>by
  obtain⟨vs,h1,h2⟩:=Bt5 (P:=P) (w:=w) t;exact⟨.ref q.2.1::vs,⟨q.2.1,vs,rfl,h.2.1,h1⟩,.cons rfl h2⟩
theorem Bo3 (hc:X.calm=true) (hg:Gl X "tuple") (hm:X.mg "tuple" = none) (he:QE X e m) (hs1:isStar e=false:=by rfl):QE X (.Call (.Name "tuple" p) [e] [] j) (Bu0 m):=by
 refine⟨?_⟩
 intro g s L H Q I h;have f:=Ga (es:=[]) (env:=X.env) hs1
 refine Call_ (J9 I hg hm U4 (fD ?_ f rfl))
 rw[f]
 show wpAny _ _ (spliced ((false,eval e X.env)::backTo j (starEach [] X.env))) _ _ s
 refine eO ?_
 refine thn (he.1 g s L H _ I h) λu T ⟨v,H1,n,D,W⟩=>?_
 refine gA ?_
 obtain⟨a,o,J,rfl,M,q⟩:=W
 cases (show u=Value.ref a from D)
 obtain⟨l,r,ep,K,E,F,G,t,k,y⟩:=n.seen M;have z:=Gy t k
 refine V4 (I.ok.hd hc) E K F G (by rw[z];exact y) λN O c S d=>?_
 obtain⟨vs,V,B⟩:=Bt5 (P:=X.prog) (w:=X.w) k
 have Y:c.toList=l.map λx=>Value.ref x.2.1:=by
  have Z:c.size=l.length:=d.1.trans (z.trans (eN k));apply List.ext_getElem
  ·rw[fL,ao];exact Z
  ·intro i R U
   have hi:i<c.size:=by simpa using R
   have hx:i<l.length:=by simpa using U
   obtain⟨hs,e1⟩:=d.2 i c[i] (jC hi)
   have A:r.toList[i]?=some (entryOfKey (Dn X.prog X.w) l[i]):=by rw[t,bV,bC _];rfl
   rw[fO,jC hs]at A;rw[Array.getElem_toList,e1,cz A,jD];rfl
 have C:Inv X _ _ _ { T with heap:=N,toks:=O }:=n.kept S
 refine⟨.ref _,upd _ _ _,C.laid (λb u e=>aB _ e) (au _) ?_,rfl,q _ _ V (C.hok.fresh (au _))⟩
 refine⟨by rw[B.length,ao,<- eN k];exact y,c.toList,by rw[Y];exact B,_,aG _ rfl,rfl,⟨0,by simp⟩,rfl⟩
theorem Aw6 (hu:X.A.units+64<cLine) (ho:QE X o d) (hi:QE X i ty) (hv:QE X a e) (hs:swapsWith a (some (.Subscript o i b)) c.line X.env=pure false:=by rfl) :
 QS X (.Assign [.Subscript o i b] a c) (Ad0 d ty e):=⟨Bp8 (cH (dO (by decide) _) hu) ho.get hi.get hv.get hs⟩
end
end L2
namespace L2
open PySem PySem.Spec PyProof.Rows PySem.W
section
variable {X:Cx}
def Aw7 (K:v9):V->m7->Hp->VK->Prop:=λx vs H Q=>∃(a:Addr) (ss:v4) (y:Str),x=.ref a/\vs=[.str y]/\SqL K H a (ss.map V.str)/\Q (.int ((ss.countP λz=>z==y):Nat)) H
theorem A2v (b:X.K=Kq):MtM X "list.count" (Aw7 Kq):=by
 subst b;intro d s σ H x vs v us Q I i k h;obtain⟨a,ss,y,rfl,rfl,l,q⟩:=h
 cases i
 obtain⟨u,rfl,m⟩:=k.one;obtain⟨t,rfl⟩:=m;obtain⟨j,r,A,hz⟩:=I.list l;obtain⟨o,n,e,g,c,p⟩:=A;obtain⟨c0,dd,B,sl⟩:=o;subst g p c
 refine cW F.slot_list_count ⟨_,e,rfl⟩ F.entry_list_count (F.args_list_count_2 _ _) (SeqAt.list_countAt a _ n _ _ _ (At5 y)) ⟨e,λw hw=>?_,?_⟩
 ·obtain⟨z,t',rfl⟩:=Yr r w (by grind)
  exact SeqAt.EqAt.str_str z _ y t
 ·rw[(Xf y r)]
  exact⟨.int _,H,I.tok _,⟨_,rfl⟩,q⟩
end
def A2z (tc:List (Str×v4))(mg:x_)(h:Heap):Prop:=∀q∈tc,∃a o its n,mg q.1=some (.ref a)/\h.get? a=some o/\o.cls=.type "tuple" /\ o.data=.seq its n/\its.size<=sizeLine/\Vals (q.2.map V.str) its.toList
theorem Pu:∀{ss:v4}{us:w6},Sd ss us=true->Vals (ss.map V.str) us
 | [],[],_=>.nil
 | s::ss,.str z t::us,e=>by
  obtain⟨e1,e2⟩:=az.mp (show (s==z&&Sd ss us)=true from e)
  cases cQ e1
  exact .cons ⟨t,rfl⟩ (Pu e2)
theorem B5l {s:t6}(e:d.all (A6i s.heap)=true):A2z d (s.heap.nsMap mainGlobals) s.heap:=λq m=>by
 have e:=aZ.mp e q m;unfold A6i at e
 split at e
 ·rename_i a h
  split at e
  ·rename_i o g
   split at e
   ·rename_i c b n i j
    obtain⟨e,k⟩:=az.mp e;obtain⟨l,f⟩:=az.mp e
    exact⟨a,o,b,n,h,g,by rw[i,cQ l],j,aX f,Pu k⟩
   ·cases e
  ·cases e
 ·cases e
theorem A6y (mg:x_) (h h':Heap) (x:A2z c mg h) (hk:∀b o,h.get? b=some o->h'.get? b=some o):A2z c mg h':=λq m=>by
 obtain⟨a,o,d,n,f,e,r⟩:=x q m
 grind
theorem Br3 {K:v9}(x:A2z c mg h) (f:∀a o,h.get? a=some o->Eb o=true->o.data≠.fields #[]->K.lookup a=some o) {i:Nat} (e:c[i]?=some (y,ss)):∃p,mg y=some (.ref p)/\∀H,SqT K H p (ss.map V.str):=by
 obtain⟨a,o,b,n,g,j,k,l,m,d⟩:=x _ (bf e)
 exact⟨a,g,λH=>.inr ⟨o,b,n,f a o j (by unfold Eb;grind) (by grind),k,l,m,d⟩⟩
theorem walk_ofX {l:OpenLaw} {sp:Frag->Sp}
 (hn:l.most=some n) (r:n<=sizeLine) (t:d.params.defaults=[]) (hr:Room k callerA)
 (F:∀(w:World) (g:ExcName->u_) (mg C:x_) (fa:Addr) (h:Heap),Top q (looseW q loose) g mg C h->XP mg h->mg d.name=some (.ref fa) ->
  ∃(K:Frag) (p:u6),K.In h/\TabAt K h/\(∀(s:t6) (u:Value),BindsTo s p ⟨[u],[]⟩ [(x,u)])/\∀base:Heap,K.In base->base.Ns mainGlobals mg->FnOk l.prog w K mg base CX0 k fa p [x] (sp K))
 (m:∀(K:Frag) (H:Hp) (a:Addr) (ns:List Int),ns.length<=n->SqL K H a (ns.map V.int)->sp K [.ref a] H (λv _=>v=.bl true) λ_ _ _=>False) :
 WalkO q loose XP YP l.row.toRowW d [] (λf vs=>PySem.call f vs):=by
 refine Att.Ae2 hn t λw D B mg C fa o P O J a vs ns G Y Q R E j i c b L=>?_
 obtain⟨K,p,y,A,I,M⟩:=F w _ _ _ _ _ G.T G.X j
 exact A1z y G.T.g G.T.b G.T.builtins G.T.nolimit L G.T.bmain A i c (aq b r) hr M I (λH N=>m K H a _ b N) λH e S z=>z
end L2
namespace L2
open PySem PySem.Spec PyProof.Rows
def LaidS (H0:Hp)(xs ys:m7):Nat->m7->Hp->Prop
 | 0,ps,H=>ps=[]/\H=H0
 | i+1,ps,H=>∃r H' p x y,LaidS H0 xs ys i r H'/\xs[i]?=some x/\ys[i]?=some y/\H' p=none/\ps=r++[.ref p]/\H=upd H' p (.tup [x,y])
theorem SqK.upd (x:SqK t H a xs) (h:H p=none):SqK t (upd H p o) a xs:=by
 obtain⟨u,e⟩:=x.some;have b := Ba e h
 cases t
 ·exact(Af b).trans x
 ·exact(Af b).trans x
theorem Al8:typeLookup (.type "zip") "__len__" = pure none:=by rw[typeLookup_type,builtinLookup_eq_fast];trivial
theorem Ad7:typeLookup (.type "zip") "__length_hint__" = pure none:=by rw[typeLookup_type,builtinLookup_eq_fast];trivial
section
variable {X:Cx}{pins:y_}{σ:St}{A:q9}{t1 t2:Bool}{z ti to i1 i2 a b S:Addr}{xs ys:m7}
theorem Ao3 (f:A.handled=none) (d:zA z ti to i1 i2 a b) (y:Zs s.heap t1 t2 z ti to i1 i2 a b k) (ha:SqA t1 s.heap a us) (hb:SqA t2 s.heap b vs) (hx:us[k]?=none)
 (q:∀h',(∀c o,c∉[z,ti,to,i1,i2]->s.heap.get? c=some o->h'.get? c=some o)->Q none { s with heap:=h' }):wpAny (model P w) A (pyNext (.ref z)) Q E s:=by
 have l:=y.ty;unfold pyNext
 refine aj (dh (cM l iM (bO iM l F.entry_zip_next ?_ (F.args_zip_next_1 _))))
 rcases y with ⟨rfl,y⟩ | ⟨p0,b1,hp,y⟩
 ·refine A9s f d y ha hb (.inl hx) λm e h i=>?_
  obtain⟨o,j,g⟩:=i;exact aj (dN ⟨o,j,g⟩ fU (ak (q _ h)))
 ·refine A0n f d y ha hx λm e h i=>?_
  obtain⟨o,j,g⟩:=i;exact aj (dN ⟨o,j,g⟩ fU (ak (q _ h)))
theorem Bj9 (k:A.in1.handled=none) (nd:[z,ti,to,i1,i2].Nodup) (Q:S∉[z,ti,to,i1,i2]) (hl:xs.length=ys.length) (hz:xs.length<=sizeLine)
 (U:∀H acc c ps s,Inv X pins σ H s->LaidS H0 xs ys xs.length ps H->Vals ps acc.toList->s.heap.get? S=some { cls:=.type "list",dict:=none,data:=.seq acc c,slots:=#[] }->R (.ok (.ret B)) s) :
 ∀
  (r i:Nat) (H:Hp) (s:t6) (acc:v7) (c:Nat) (ps:m7),i+r=xs.length->Inv X pins σ H s->(∀b∈[z,ti,to,i1,i2],Ij X pins H b)->Ij X pins H S->to<s.heap.objs.size->SqK t1 H a xs->SqK t2 H b ys->Zs s.heap t1 t2 z ti to i1 i2 a b i ->
  s.heap.get? S=some { cls:=.type "list",dict:=none,data:=.seq acc c,slots:=#[] }->acc.size=i->Vals ps acc.toList->LaidS H0 xs ys i ps H->codeAny (model X.prog X.w) A (.builtin "list.extend.loop" ⟨[.ref S,.ref z,B],[]⟩) R s:=by
 have C:∀{H:Hp},(∀b∈[z,ti,to,i1,i2],Ij X pins H b)->SqK t1 H a xs->SqK t2 H b ys->zA z ti to i1 i2 a b:=λd h f =>
  ⟨nd,λm=>by (obtain⟨o,e⟩:=h.some;rw[(d a m).1]at e;cases e),λm=>by (obtain⟨o,e⟩:=f.some;rw[(d b m).1]at e;cases e)⟩
 intro r
 induction r with
 | zero =>
  intro i H s acc c ps e I d Z g h f y G N rv L
  have J:i=xs.length:=by lia
  subst J;obtain⟨its,M,K⟩:=h.its I;obtain⟨O,rb,P⟩:=f.its I
  refine cR F.entry_extend_loop ?_
  rw[cZ gY _]
  show wpAny _ A.in1 (pyNext (.ref z) >>= _) _ _ s
  refine aj (Ao3 k (C d h f) y K P (by simp[M.length]) λh' D=>?_)
  exact ak (U H acc c ps _ (I.turnL (t':=s.toks) d λc o m e=>D c o m e) L rv (D S _ Q G))
 | succ r ih =>
  intro i H s acc c ps e I d Z g h f y G N rv L
  have J:i<xs.length:=by lia
  have hj:i<ys.length:=by lia
  obtain⟨its,M,K⟩:=h.its I;obtain⟨O,rb,P⟩:=f.its I;obtain⟨u,hu,ru⟩:=M.get (bC J);obtain⟨v,hv,T⟩:=rb.get (bC hj)
  refine cR F.entry_extend_loop ?_
  rw[cZ gY _]
  show wpAny _ A.in1 (pyNext (.ref z) >>= _) _ _ s
  refine aj (A3a (x:=u) (x':=v) (C d h f) g y K P (by simpa using hu) (by simpa using hv) λt z1 W Y D=>?_)
  have j:=D S _ Q G;have np:s.heap.objs.size≠S:=bT (aA G);have hp:H s.heap.objs.size=none:=I.hok.fresh (au _)
  have I1:=I.turnLay (t':=s.toks) (h':=t) (p:=s.heap.objs.size) (o:=.tup [xs[i],ys[i]]) d (λc o m e=>D c o m e) (au _) ⟨(show 2<=sizeLine by decide),[u,v],.cons ru (.cons T .nil),⟨_,W,rfl,⟨_,rfl⟩,rfl⟩⟩
  have lts:∀c∈[z,ti,to,i1,i2],c≠s.heap.objs.size:=λc w=>by
   have l:=y.lt;simp only[aD,bI,bJ]at w
   rcases w with rfl | rfl | rfl | rfl | rfl
   ·exact aQ (l _ (by simp))
   ·exact aQ (l _ (by simp))
   ·exact aQ g
   ·exact aQ (l _ (by simp))
   ·exact aQ (l _ (by simp))
  have hf1:∀c∈[z,ti,to,i1,i2],Ij X pins (upd H s.heap.objs.size (.tup [xs[i],ys[i]])) c:=λc w=>⟨(Af (lts c w)).trans (d c w).1,(d c w).2⟩
  have E:Ij X pins (upd H s.heap.objs.size (.tup [xs[i],ys[i]])) S:=⟨(Af (aC np)).trans Z.1,Z.2⟩
  show wpAny _ A.in1 (updateSeq S (·.push (.ref s.heap.objs.size)) >>= _) _ _ _
  have oth:∀b o,b≠S->t.get? b=some o->(t.update S (Obj.mapSeq (·.push (.ref s.heap.objs.size)))).get? b=some o:=λb o n e=>(bK _ _ (aC n)).trans e
  have sb:Heap.SameBut S t (t.update S (Obj.mapSeq (·.push (.ref s.heap.objs.size)))):=bN ..
  refine aj (d_ j rfl (ak ⟨dg gY _,ih (i+1) _ _ _ _ (ps++[.ref s.heap.objs.size]) (by lia)
   (I1.turnL (t':=s.toks) (ch:=[S]) (λb f=>by rw[aK.mp f];exact E) λb o m e=>oth b o (λq=>m (by simp[q])) e) hf1 E ?_ (h.upd hp) (f.upd hp) (z1.keep (Nat.succ_pos _) Q sb λo e=>⟨_,bU _ j rfl⟩) (bU _ j rfl) ?_ ?_ ⟨ps,H,_,_,_,L,bC J,bC hj,hp,rfl,rfl⟩⟩)
   (by rw[N];lia) (by show (acc.push _).size<=sizeLine+1;rw[Array.size_push];lia))
  ·rw[sb.1]
   exact Nat.lt_trans g Y
  ·rw[Array.size_push,N]
  ·rw[Array.toList_push]
   exact rv.append (.cons rfl .nil)
theorem Ag2 (g:A.handled=none) (I:Inv X pins σ H s) (G:[z,ti,to,i1,i2].Nodup) (hl:xs.length=ys.length) (hz:xs.length<=sizeLine)
 (hf:∀b∈[z,ti,to,i1,i2],Ij X pins H b) (i:to<s.heap.objs.size) (ha:SqK t1 H a xs) (hb:SqK t2 H b ys) (x:ZipAt s.heap t1 t2 z ti to i1 i2 a b .none 0)
 (N:∀k vs j p,Inv X pins σ k p->LaidS H xs ys xs.length j k->Vals j vs->Q vs p):wpAny (model X.prog X.w) A (collect (.ref z)) Q E s:=by
 unfold collect
 refine aj (wpAny_runValue (cR F.entry_proto_collect ?_))
 rw[cZ F.plain_proto_collect _]
 show wpAny _ A.in1 (newList [] >>= λl=>again (.builtin "list.__iadd__" ⟨[l,.ref z],[]⟩)) _ _ s
 refine aj (c7 ?_)
 refine ak ⟨dg iY _,cR F.entry_list_iadd ?_⟩
 rw[cZ iY _]
 have C:∀c o,s.heap.get? c=some o->(s.heap.push { cls:=.type "list",data:=.seq ([]:w6).toArray }).get? c=some o:=λc o e=>aB _ e
 have D:(s.heap.push { cls:=.type "list",data:=.seq ([]:w6).toArray }).get? s.heap.objs.size=some { cls:=.type "list",data:=.seq ([]:w6).toArray }:=aG _ rfl;have W:(s.heap.push { cls:=.type "list",data:=.seq ([]:w6).toArray }).objs.size=s.heap.objs.size+1:=bW ..;have y:Zs s.heap t1 t2 z ti to i1 i2 a b 0:=.inl ⟨rfl,x⟩;have h:=x.kept C
 generalize (s.heap.push { cls:=.type "list",data:=.seq ([]:w6).toArray })=h1 at *
 have T:Inv X pins σ H { s with heap:=h1 }:=I.kept (t':=s.toks) C
 have f:s.heap.objs.size∉[z,ti,to,i1,i2]:=λm=>by
  have l:=y.lt;simp only[aD,bI,bJ]at m
  rcases m with m | m | m | m | m
  ·exact absurd (l z (by simp)) (by rw[<- m];exact bj _)
  ·exact absurd (l ti (by simp)) (by rw[<- m];exact bj _)
  ·exact absurd i (by rw[<- m];exact bj _)
  ·exact absurd (l i1 (by simp)) (by rw[<- m];exact bj _)
  ·exact absurd (l i2 (by simp)) (by rw[<- m];exact bj _)
 have K:s.heap.objs.size≠z:=λe=>f (by simp[e])
 have P:Builtin.List.listSameRef (.ref s.heap.objs.size) (.ref z)=false:=by simp[Builtin.List.listSameRef,K]
 show wpAny _ A.in1 (Builtin.List.listExtendWith (.ref s.heap.objs.size) (.ref z) (.ref s.heap.objs.size)) _ _ _
 unfold Builtin.List.listExtendWith
 have t:({ s with heap:=h1 }:t6).TypeIs (.ref z) "zip" := ⟨_,h.zip,rfl⟩
 refine aj (dB t ?_)
 have V:(Value.type "zip" == Value.type "list")=false:=by decide
 have J:(Value.type "zip" == Value.type "tuple")=false:=by decide
 simp only[P,V,J,Bool.or_false,cD,bB]
 refine aj (wpAny_pyIter_zip h.zip ?_)
 refine aj (bA ?_)
 unfold Builtin.List.listLengthHint
 refine aj (dM t Al8 ?_)
 show wpAny _ A.in1 (specialOf (Value.ref z) (Str.ofString "__length_hint__") >>= _) _ _ _
 refine aj (dM t Ad7 ?_)
 refine ak ?_
 show wpAny _ A.in1 (rule "list.extend.makes-room" >>= λ_=>Builtin.List.listTouch (.ref s.heap.objs.size) >>= λ_ =>
  again (.builtin "list.extend.loop" ⟨[.ref s.heap.objs.size,.ref z,.ref s.heap.objs.size],[]⟩)) _ _ _
 refine aj (cP ?_)
 refine aj ?_
 show wpAny _ A.in1 (updateSeq s.heap.objs.size (·.push .none) >>= λ_=>updateSeq s.heap.objs.size (·.pop)) _ _ _
 refine aj (d_ D rfl ?_)
 have B:=bU (Obj.mapSeq (·.push Value.none)) D rfl
 refine d_ B rfl ?_
 have M:=bU (Obj.mapSeq (·.pop)) B rfl
 have d:∀b o,b≠s.heap.objs.size->h1.get? b=some o->((h1.update s.heap.objs.size (Obj.mapSeq (·.push Value.none))).update s.heap.objs.size (Obj.mapSeq (·.pop))).get? b=some o:=λb o n e=>(bK _ _ (aC n)).trans ((bK _ _ (aC n)).trans e)
 have O:((h1.update s.heap.objs.size (Obj.mapSeq (·.push Value.none))).update s.heap.objs.size (Obj.mapSeq (·.pop))).objs.size=h1.objs.size:=(show Heap.SameBut s.heap.objs.size _ _ from bN ..).1.trans (show Heap.SameBut s.heap.objs.size h1 _ from bN ..).1
 have w:Ij X pins H s.heap.objs.size:=I.fpOk (au _) (I.hok.fresh (au _))
 have R:Inv X pins σ H { s with heap:=(h1.update s.heap.objs.size (Obj.mapSeq (·.push Value.none))).update s.heap.objs.size (Obj.mapSeq (·.pop)) }:=T.turnL (t':=s.toks) (ch:=[s.heap.objs.size]) (λb hb=>by rw[aK.mp hb];exact w) λb o m e=>d b o (λq=>m (by simp[q])) e
 have S:ZipAt ((h1.update s.heap.objs.size (Obj.mapSeq (·.push Value.none))).update s.heap.objs.size (Obj.mapSeq (·.pop))) t1 t2 z ti to i1 i2 a b .none 0:=by
  simp only[aD,bI,bJ,not_or]at f;obtain⟨u,v,e⟩:=h.outs
  exact⟨d _ _ (aC f.1) h.zip,d _ _ (aC f.2.1) h.ins,⟨u,v,d _ _ (aC f.2.2.1) e⟩,h.one.stay λo e=>d _ _ (aC f.2.2.2.1) e,h.two.stay λo e=>d _ _ (aC f.2.2.2.2) e⟩
 refine ak ⟨dg gY _,Bj9 (X:=X) (pins:=pins) (σ:=σ) (H0:=H) (show A.in1.handled=none from g) G f hl hz (λk U c j p Y L Z r=>?_) xs.length 0 H _ _ _ [] (bh _) R hf w ?_ ha hb (.inl ⟨rfl,S⟩) M rfl .nil ⟨rfl,rfl⟩⟩
 ·show wpAny _ A (load s.heap.objs.size >>= _) _ _ p
  exact aj (wpAny_load r (ak (N k _ j _ Y L Z)))
 ·rw[O,W]
  exact eX i
theorem LaidS.length {H0:Hp}:∀{i:Nat}{ps:m7}{H:Hp},LaidS H0 xs ys i ps H->ps.length=i
 | 0,_,_,⟨e,_⟩=>by rw[e];rfl
 | i+1,_,_,⟨r,H',p,x,y,l,_,_,_,e,_⟩=>by rw[e,aM,l.length];rfl
theorem Wb : MeetsIn P w (Builtin.«tuple.__new__» ⟨[.type "tuple",.ref z],[]⟩)
 (λA R s=>s.TypeIs (.ref z) "zip" /\ wpAny (model P w) A.in1.in1 (collect (.ref z)) (λvs s'=>vs.length<=sizeLine/\R (.ok (.ret (.ref s'.heap.objs.size))) { s' with heap:=s'.heap.push { cls:=.type "tuple",data:=.seq vs.toArray } }) (λe s'=>R (.error e) s') s) :=
 .of_wp λA R s h=>by
  obtain⟨f,i⟩:=h;have c:=sub_tuple_self;have b:=init_tuple_lookup;have g:=madeHere_tuple
  have a:∀{Q:w6->t6->Prop},(∀vs s',vs.length<=sizeLine->R (.ok (.ret (.ref s'.heap.objs.size))) { s' with heap:=s'.heap.push { cls:=.type "tuple",data:=.seq vs.toArray } }->Q vs s')->wpAny (model P w) A.in1 (collect (.ref z)) Q (λe s'=>R (.error e) s') s:=λh=>wpAny_of_in1 (aH i (λvs s' q=>h vs s' q.1 q.2) λ_ _ q=>q)
  wp_walk using dB f,a
  intro vs s' j d
  refine aj (ak ?_)
  show wpAny _ _ (Builtin.Tuple.tupleExact vs.toArray >>= λv=>ret v) _ _ _
  unfold Builtin.Tuple.tupleExact
  refine aj (c7 ?_ (by show vs.toArray.size<=sizeLine;simpa using j))
  exact ak ⟨_,rfl,d⟩
def Bs0 (ta:TA):TE:=λσ H Q=>ta σ H λvs H1=>∃a b,vs=[.ref a,.ref b]/\∃t1 t2 xs ys,SqK t1 H1 a xs/\SqK t2 H1 b ys/\xs.length=ys.length/\∀ps p H2,LaidS H1 xs ys xs.length ps H2->H2 p=none->Q (.ref p) (upd H2 p (.tup ps))
theorem Bh2 {p n l a:Pos}(hc:X.calm=true) (t:Gl X "tuple") (r:X.mg "tuple" = none) (hg:Gl X "zip") (hm:X.mg "zip" = none) (ha:QA X [e,f] B) (hs1:isStar e=false:=by rfl) (hs2:isStar f=false:=by rfl) :
 QE X (.Call (.Name "tuple" p) [.Call (.Name "zip" n) [e,f] [] a] [] l) (Bs0 B):=by
 refine⟨?_⟩
 intro g s D H Q I h;have v:=Ga (es:=[f]) (env:=X.env) hs1;have w:=Ga (es:=[]) (env:=X.env) hs2;have j:starEach [.Call (.Name "zip" n) [e,f] [] a] X.env=(false,eval (.Call (.Name "zip" n) [e,f] [] a) X.env)::starEach [] X.env:=Ga rfl
 refine Call_ (J9 I t r U4 (fD ?_ j rfl))
 rw[j]
 show wpAny _ _ (spliced ((false,eval (.Call (.Name "zip" n) [e,f] [] a) X.env)::backTo l (starEach [] X.env))) _ _ s
 refine eO ?_
 refine Call_ (J9 I hg hm A2w (fD (thn (ha.1 a g s D H _ I h) λus d ⟨vs,H1,i,O,P⟩=>?_) v (by rw[w];rfl)))
 obtain⟨R,S,rfl,U,t2,E,ys,m,G,Y,q⟩:=P
 have o:E.length<=sizeLine:=by
  cases U
  ·obtain⟨_,_,_,z⟩:=i.list (SqL.of m);exact z
  ·obtain⟨_,_,_,z⟩:=i.tuple (SqT.of m);exact z
 obtain⟨Z,u2,rfl,g1,g2⟩:=Vals.two O
 cases (show Z=Value.ref R from g1)
 cases (show u2=Value.ref S from g2)
 obtain⟨T,rv,pa⟩:=m.its i;obtain⟨jts,V,W⟩:=G.its i
 refine Ar8 pa W λJ x kp=>gA ?_
 have I2:Inv X g D H1 { d with heap:=J }:=i.kept (t':=d.toks) kp
 have y:[d.heap.objs.size+4,d.heap.objs.size+2,d.heap.objs.size+3,d.heap.objs.size,d.heap.objs.size+1].Nodup:=by simp
 have C:∀c∈[d.heap.objs.size+4,d.heap.objs.size+2,d.heap.objs.size+3,d.heap.objs.size,d.heap.objs.size+1],d.heap.objs.size<=c:=λc hc=>by
  simp only[aD,bI,bJ]at hc
  rcases hc with rfl | rfl | rfl | rfl | rfl <;> simp
 obtain⟨u0,v0,o0⟩:=x.outs
 refine callType_newIn F.called_tuple (by decide) (F.typeCall_tuple_1 _) (F.newCall_tuple_1 _) (λA=>jo A _) F.entry_tuple_new Wb ⟨⟨_,x.zip,rfl⟩,?_⟩
 refine Ag2 (s:={ d with heap:=J }) (show _=none from I.ok.hd hc) I2 y Y o (λc hc=>i.fpOk (C c hc) (i.hok.fresh (C c hc))) (aA o0) m G x λH' ws ps s' K L k=>?_
 have M:ps.length=E.length:=L.length
 refine⟨by rw[<- k.length,M];exact o,⟨_,aG _ rfl,rfl⟩,?_⟩
 have N:H' s'.heap.objs.size=none:=K.hok.fresh (au _)
 refine⟨.ref _,upd _ _ _,K.laid (λb u e=>aB _ e) (au _) ?_,rfl,q _ _ _ L N⟩
 exact⟨by rw[M];exact o,ws,k,_,aG _ rfl,rfl,⟨0,by simp⟩,rfl⟩
end
section
variable {P:u9}{w:World}{A:q9}{E:z_}{s:t6}
theorem An4:((Manifest.find? "dict_valueiterator").elim "dict_valueiterator" λx=>x.tpName) = "dict_valueiterator" := by rw[find?_eq_fast];kernel_rfl
theorem A4p {it dd:Addr}{i ep:Nat}{es:v8}{od:Obj}{Q:u_->t6->Prop}(hit:s.heap.IsValIter it dd i es.size ep)(hod:s.heap.get? dd=some od)(hdd:od.data=.dict es ep)(hi:i<es.size)
 (hQ:∀h',h'.IsValIter it dd (i+1) es.size ep->Heap.SameBut it s.heap h'->Q (some es[i].val) { s with heap:=h' }):wpAny (model P w) A (pyNext (.ref it)) Q E s:=by
 obtain⟨hp,g,d,tk,os⟩:=s;obtain⟨⟨c,dct,dat,sl⟩,ho,hc,hd⟩:=hit;obtain⟨c2,dct2,dat2,sl2⟩:=od;simp only at hc hd hdd;subst hc hd hdd;have ty:(⟨hp,g,d,tk,os⟩:t6).TypeIs (.ref it) "dict_valueiterator" := ⟨_,ho,rfl⟩;have f1:=mroOf_valiter
 have f2:Builtin.Dict_items.ownsTuple "dict_valueiterator" = false:=by decide
 have f3:es[(i:Int).toNat]?=some es[i]:=by simp[hi]
 unfold pyNext
 refine aj (dh (cM (name:="__next__") ty iZ (bO iZ ty jU ?_ (jV _))))
 repeat any_goals first | assumption | wp_step
 simp only[An4,f2,cD,bB,gW,List.take]
 have f4:¬ ((i:Int)<0):=by lia
 simp only[f4,bB,f3]
 repeat any_goals first | assumption | wp_step
 simp only[An4,f2,cD,bB]
 have hit':(hp.update it (Obj.mapFields (·.setIfInBounds 1 (rawInt ((i:Int)+1))))).IsValIter it dd (i+1) es.size ep :=
  ⟨_,bU _ ho (eZ (dD rfl _)),iH ..,by rw[dD rfl];simp[rawInt]⟩
 exact⟨_,rfl,ak (hQ _ hit' (bN ..))⟩
theorem Bg7 {it dd:Addr}{i ep:Nat}{es:v8}{od:Obj}{Q:u_->t6->Prop}(quiet:A.handled=none)(hit:s.heap.IsValIter it dd i es.size ep)(hod:s.heap.get? dd=some od)(hdd:od.data=.dict es ep)(hi:es.size<=i)
 (hQ:∀h',Heap.ExtBut it s.heap h'->Q none { s with heap:=h' }):wpAny (model P w) A (pyNext (.ref it)) Q E s:=by
 obtain⟨hp,g,d,tk,os⟩:=s;obtain⟨⟨c,dct,dat,sl⟩,ho,hc,hd⟩:=hit;obtain⟨c2,dct2,dat2,sl2⟩:=od;simp only at hc hd hdd;subst hc hd hdd;have ty:(⟨hp,g,d,tk,os⟩:t6).TypeIs (.ref it) "dict_valueiterator" := ⟨_,ho,rfl⟩;have f1:=mroOf_valiter
 have f2:Builtin.Dict_items.ownsTuple "dict_valueiterator" = false:=by decide
 have f3:es[(i:Int).toNat]?=none:=by simp[hi]
 unfold pyNext
 refine aj (dh (cM (name:="__next__") ty iZ (bO iZ ty jU ?_ (jV _))))
 repeat any_goals first | assumption | wp_step
 simp only[An4,f2,cD,bB,gW,List.take]
 have f4:¬ ((i:Int)<0):=by lia
 simp only[f4,bB,f3]
 repeat any_goals first | assumption | wp_step
 refine iV (show A.in1.handled=none from quiet) ?_
 refine aj (dN (T := "StopIteration") (b:=true) ⟨_,aG _ rfl,rfl⟩ fU ?_)
 exact ak (hQ _ (((bN ..).extBut.push _).push _))
theorem A3q {dd:Addr}(nd:(dd==sysModules)=false):MeetsIn P w (Builtin.«dict.values» ⟨[.ref dd],[]⟩) (λ_ R s=>s.TypeIs (.ref dd) "dict" /\ R (.ok (.ret (.ref s.heap.objs.size))) { s with heap:=s.heap.push { cls:=.type "dict_values",data:=.fields #[.ref dd] } }) :=
 .of_wp λA R s ⟨t,h⟩=>by
  refine aj ?_
  unfold Builtin.Dict.noArgs
  refine aj (iT t (ak ?_))
  have e0:Builtin.Dict.showsAll dd=pure ():=by unfold Builtin.Dict.showsAll;rw[if_neg (by rw[nd];exact bL)]
  show wpAny _ _ (Builtin.Dict.showsAll dd >>= _) _ _ _
  rw[e0]
  refine aj (ak (aj (c7 (ak ⟨_,rfl,h⟩))))
theorem A8o {dd:Addr}{Q:z_}(nd:(dd==sysModules)=false)(ty:s.TypeIs (.ref dd) "dict")
 (hQ:Q (.ref s.heap.objs.size) { s with heap:=s.heap.push { cls:=.type "dict_values",data:=.fields #[.ref dd] } }):wpAny (model P w) A (call (.builtin "dict.values") [.ref dd]) Q E s :=
 gF PySem.F.slot_dict_values ty PySem.F.entry_dict_values (PySem.F.args_dict_values_1 _) (A3q nd) ⟨ty,hQ⟩
theorem A5p {v dd:Addr}{es:v8}{ep:Nat}{od:Obj}{Q:z_}(hv:s.heap.get? v=some { cls:=.type "dict_values",data:=.fields #[.ref dd] }) (hod:s.heap.get? dd=some od) (hdd:od.data=.dict es ep)
 (hQ:Q (.ref s.heap.objs.size) { s with heap:=s.heap.push { cls:=.type "dict_valueiterator",data:=.fields #[.ref dd,.int 0 0,.int es.size 0,.int ep 0] } }):wpAny (model P w) A (pyIter (.ref v)) Q E s:=by
 obtain⟨hp,g,d,tk,os⟩:=s;obtain⟨c2,dct2,dat2,sl2⟩:=od;simp only at hdd;subst hdd;have ty:(⟨hp,g,d,tk,os⟩:t6).TypeIs (.ref v) "dict_values" := ⟨_,hv,rfl⟩
 have f2:Builtin.Dict_items.ownsTuple "dict_valueiterator" = false:=by decide
 refine jB ty F.slot_dict_values_iter (bO F.slot_dict_values_iter ty F.entry_dict_values_iter ?_ (F.args_dict_values_iter_1 _))
 repeat any_goals first | assumption | wp_step
 simp only[f2,cD,bB];exact⟨_,rfl, "dict_valueiterator",_,⟨_,aG _ rfl,rfl⟩,F.slot_dict_valueiterator_next.lookup,hQ⟩
end
noncomputable def Itv (a:Addr) (o:Obj):It :=
 ⟨λi H=>∃kvs,H a=some (.frz o (.dT kvs))/\i<kvs.length,λi H x H'=>H'=H/\∃kvs k,H a=some (.frz o (.dT kvs))/\kvs[i]?=some (k,x),λi H=>∃kvs,H a=some (.frz o (.dT kvs))/\kvs.length<=i⟩
theorem A0l {P:u9}{w:World}{K:v9}{tg:Expr}{a it:Addr}{o:Obj}{es:v8}{ep:Nat}(hd:o.data=.dict es ep):Turn P w K tg (Itv a o) [it] it (λi h=>h.IsValIter it a i es.size ep) where
 mem:=by simp
 obj:=λi h st b hb=>by
  have e:b=it:=by simpa using hb
  subst e;obtain⟨o,e,c,d⟩:=st
  exact⟨o,e,λv z=>by rw[d]at z;cases z⟩
 keep:=λi h h' st k=>let ⟨o,e,r⟩:=st; ⟨o,k it (by simp) o e,r⟩
 item:=by
  intro X hP hw hK hc i pins s σ H E I hf st hg;subst hP hw hK;obtain⟨kvs,ha,hi⟩:=hg;obtain⟨xs,es',ep',g1,g2,g3,g4,g5,g6,g7⟩:=I.seen ha;rw[hd]at g4
  cases g4
  have li:i<es.size:=by rw[Gy g5 g6];exact hi
  obtain⟨⟨k,v⟩,hk⟩:∃x,kvs[i]?=some x:=⟨_,bC hi⟩;obtain⟨b,u,k1,k2,k3,k4⟩:=Yv g5 g6 hk li
  obtain⟨f0,f1,f2,f3,f4,f5⟩:=hf it (by simp)
  refine A4p st g1 hd li λh' st' sb=>?_
  have I1:Inv X pins σ H { s with heap:=h' }:=I.turned (t':=s.toks) (λb o hb e=>(sb.2 b hb).trans e) f0 f1 f3 f4 f5
  obtain⟨o',e,c,d⟩:=id st'
  exact⟨_,rfl,Ae0 (s:={ s with heap:=h' }) e c d (by decide) ⟨v,H,I1,by rw[k2];exact k4,⟨rfl,kvs,k,ha,hk⟩,st',λb hb=>(hf b hb).1⟩⟩
 done:=by
  intro X hP hw hK hc i pins s σ H E I hf st hg;subst hP hw hK;obtain⟨kvs,ha,hi⟩:=hg;obtain⟨xs,es',ep',g1,g2,g3,g4,g5,g6,g7⟩:=I.seen ha;rw[hd]at g4
  cases g4
  obtain⟨f0,f1,f2,f3,f4,f5⟩:=hf it (by simp)
  exact Bg7 (I.ok.hd hc) st g1 hd (by rw[Gy g5 g6];exact hi) λh' eb=>⟨rfl,I.turned (t':=s.toks) (λb o hb e=>eb b o hb e) f0 f1 f3 f4 f5⟩
 self:=λ_ _ _ _ _ st h=>wpAny_pyIter_valiter st h
def iDV (td:TE):TI:=λσ H R=>td σ H λx H1=>∃a o kvs,x=.ref a/\H1 a=some (.frz o (.dT kvs))/\R (Itv a o) H1
section
variable {X:Cx}
theorem A4d {l tg:Expr}{tl:TE}{apos cpos:Pos}(hl:QE X l tl)(hbase:attributeBase l "values" X.env (eval l X.env)=eval l X.env:=by rfl) (hline:(apos.endLine==cpos.line)=true:=by rfl) :
 QI X tg (.Call (.Attribute l "values" apos) [] [] cpos) (iDV tl):=by
 refine⟨?_⟩
 intro pins s σ H R I h
 refine jg hbase hline (thn (hl.1 pins s σ H _ I h) λv s1 ⟨x,H1,I1,r1,q1⟩=>?_)
 obtain⟨a,o,kvs,e,hq,q⟩:=q1;subst e
 cases (show v=Value.ref a from r1)
 obtain⟨t1,t2,_⟩:=Yu I1 (.inr ⟨kvs,.inr ⟨o,hq⟩⟩);obtain⟨xs,es,ep,g1,g2,g3,g4,g5,g6,g7⟩:=I1.seen hq
 refine⟨"dict", "dict.values",iB,PySem.F.slot_dict_values,PySem.F.type_dict_values,t1,t2,dR rfl (jh (A8o g2 t1 ?_))⟩
 refine A5p (aG _ rfl) (aB _ g1) g4 ?_
 have kp:∀b o',s1.heap.get? b=some o'->((s1.heap.push { cls:=.type "dict_values",data:=.fields #[.ref a] }).push { cls:=.type "dict_valueiterator",data:=.fields #[.ref a,.int 0 0,.int es.size 0,.int ep 0] }).get? b=some o':=λb o' e=>aB _ (aB _ e)
 refine⟨_,[(s1.heap.push { cls:=.type "dict_values",data:=.fields #[.ref a] }).objs.size],_,_,H1,rfl,I1.kept (t':=s1.toks) kp,A0l g4,⟨_,aG _ rfl,rfl,rfl⟩,λb hb=>?_,q⟩
 have e:b=(s1.heap.push { cls:=.type "dict_values",data:=.fields #[.ref a] }).objs.size:=by simpa using hb
 subst e
 have le:s1.heap.objs.size<=(s1.heap.push { cls:=.type "dict_values",data:=.fields #[.ref a] }).objs.size:=by rw[bW];exact dC _
 exact I1.fpOk le (I1.hok.fresh le)
end
end L2
namespace U
open PySem L2
structure Xn where
 n:Str
 p:Option (Str×t_)
inductive Th where
 | nm (T:String)
 | dc (ks:v4) (ds:w5)
 | dt (ks ds:w5)
 | ds (ks ds:w5)
 | td (xs ks ds:w5)
 | xc (nm:Xn)
 | tc (ss:v4)
inductive O where
 | im (d:t_)
 | ls (b:Bool) (ds:w5)
 | sc (ns:List Int)
 | ty (T:Th)
abbrev m6:=Option O
abbrev m5:=List (m6)
abbrev Ev:=m5
inductive PV where
 | o (o:O)
 | sl (i:Nat)
inductive R (α:Type) where
 | ok (a:α) (c:Ev)
 | bad
abbrev n6:=Ev->R PV
abbrev o_:=Ev->R Bool
abbrev o7:=PV->Ev->R Unit
abbrev o9:=Ev->R (List PV)
abbrev o8:=Ev->R (w5)
noncomputable def R.bind {α β:Type} (r:R α) (k:α->Ev->R β):R β:=match r with
 | .ok a c=>k a c
 | .bad=>.bad
def R.sat {α:Type}(r:R α)(φ:α->Ev->Prop):Prop:=match r with
 | .ok a c=>φ a c
 | .bad=>False
theorem R.sat_bind {r:R d}{k:d->Ev->R e}{b:e->Ev->Prop}:(r.bind k).sat b↔r.sat λa c=>(k a c).sat b:=by cases r <;> exact Iff.rfl
theorem R.sat.mono {r:R d}{e b:d->Ev->Prop}(h:r.sat e) (f:∀a c,e a c->b a c):r.sat b:=by
 cases r with
 | ok a c=>exact f a c h
 | bad=>exact h
theorem R.sat.bnd {r:R d}{k:d->Ev->R e}{b:e->Ev->Prop}(h:(r.bind k).sat b):r.sat λa c=>(k a c).sat b:=R.sat_bind.mp h
noncomputable def O.bor:O->Bool
 | .ls b _=>b
 | _=>false
noncomputable def O.own:O->Bool
 | .ls _ _=>true
 | _=>false
noncomputable def O.dat:O->Option t_
 | .im d=>some d
 | .ls _ ds=>some (.list ds)
 | _=>none
noncomputable def O.flag (b:Bool):O->O
 | .ls _ ds=>.ls b ds
 | o=>o
noncomputable def nrm:PV->PV
 | .o (.ls _ ds)=>.o (.im (.list ds))
 | p=>p
noncomputable def rdP (c:Ev):PV->m6
 | .o o=>some o
 | .sl i=>(c[i]?).join
def Cq (c:Ev)(p:PV):Option t_:=(rdP c p).bind O.dat
structure Wo where
 Hf:Hp
 H:Hp
 fps:Nat->v6
def Wo.S (W:Wo):Addr->Prop:=λa=>∃i,a∈W.fps i
def B5y (Hf:Hp):Option (Str×t_)->Option Addr->Prop
 | none,d=>d=none
 | some q,d=>∃a v,d=some a/\Hf a=some (.xd [(q.1,v)])/\Tr Hf q.2 v
structure XAt (K:v9) (Hf:Hp) (nm:Xn) (C:Addr) (d:Option Addr):Prop where
 ns:PySem.W.nsIn K mainGlobals nm.n=some (some (.ref C))
 pay:B5y Hf nm.p d
theorem XAt.same {K:v9}{Hf Hf':Hp}{nm:Xn}{C:Addr}{d:Option Addr}(S:Same Hf Hf')(x:XAt K Hf nm C d):XAt K Hf' nm C d:=by
 refine⟨x.ns,?_⟩
 have q:=x.pay
 cases e:nm.p with
 | none=>rw[e]at q;exact q
 | some y=>rw[e]at q;obtain⟨a,v,h1,h2,h3⟩:=q;exact⟨a,v,h1,S _ _ h2,Tr.same S h3⟩
def RepT (K:v9)(Hf:Hp):Th->V->Prop
 | .nm T,v=>v=.ty T
 | .dc ks ds,v=>∃a xs,v=.ref a/\Hf a=some (.dK (B6o ks xs))/\TrL Hf ds xs
 | .dt ks ds,v=>∃a xs,v=.ref a/\Rd Hf a (.dT (ks.zip xs))/\TrL Hf ds xs/\ks.length=xs.length
 | .ds ks ds,v=>∃a o xs,v=.ref a/\Hf a=some (.frz o (.dT (ks.zip xs)))/\TrL Hf ds xs/\ks.length=xs.length
 | .td es ks ds,v=>∃a us b o xs,v=.ref a/\Hf a=some (.tup (us++[.ref b]))/\TrL Hf es us/\Hf b=some (.frz o (.dT (ks.zip xs)))/\TrL Hf ds xs/\ks.length=xs.length
 | .xc nm,v=>∃a C d,v=.ref a/\XAt K Hf nm C d/\Hf a=some (K6 a C d)
 | .tc ss,v=>∃p,v=.ref p/\∀H,SqT K H p (ss.map V.str)
theorem Bn3 (S:Same Hf b) (h:Rd Hf a u):Rd b a u:=h.imp (λh=>S _ _ h) λ⟨o,h⟩=>⟨o,S _ _ h⟩
theorem RepT.same {K:v9}{Hf Hf':Hp}(S:Same Hf Hf'):∀{t:Th}{v:V},RepT K Hf t v->RepT K Hf' t v
 | .nm T,_,h=>h
 | .dc ks ds,_,⟨a,xs,e,h,t⟩=>⟨a,xs,e,S _ _ h,TrL.same S t⟩
 | .dt ks ds,_,⟨a,xs,e,h,t,l⟩=>⟨a,xs,e,Bn3 S h,TrL.same S t,l⟩
 | .ds ks ds,_,⟨a,o,xs,e,h,t,l⟩=>⟨a,o,xs,e,S _ _ h,TrL.same S t,l⟩
 | .td es ks ds,_,⟨a,us,b,o,xs,e,h,t,h2,t2,l⟩=>⟨a,us,b,o,xs,e,S _ _ h,TrL.same S t,S _ _ h2,TrL.same S t2,l⟩
 | .xc nm,_,⟨a,C,d,e,n,h⟩=>⟨a,C,d,e,n.same S,S _ _ h⟩
 | .tc ss,_,h=>h
def RepN (K:v9)(Hf:Hp):O->V->Prop
 | .im d,v=>Tr Hf d v
 | .sc ns,v=>∃a,v=.ref a/\SqL K Hf a (ns.map V.int)
 | .ty T,v=>RepT K Hf T v
 | .ls _ _,_=>False
def RepO (K:v9)(Hf H:Hp)(o:O)(v:V)(fp:v6):Prop:=match o with
 | .ls _ ds=>∃a vs,v=.ref a/\fp=[a]/\Hf a=none/\H a=some (.lst vs)/\TrL Hf ds vs
 | o=>fp=[]/\RepN K Hf o v
structure Stp (S:Addr->Prop) (Hf H:Hp) (S':Addr->Prop) (Hf' H':Hp):Prop where
 fz:Same Hf Hf'
 kp:∀a o,H a=some o->¬ S a->H' a=some o
 nf:∀a o,H a=some o->Mut (some o)->¬ S a->Hf a=none->Hf' a=none
 fr:∀a,S' a->S a\/H a=none
structure Rep (K:v9) (β:Nat->V) (W:Wo) (c:Ev) (σ:St):Prop where
 sub:Same W.Hf W.H
 len:c.length=σ.length
 get:∀i o,c[i]?=some (some o)->∃v,σ[i]?=some (some v)/\RepO K W.Hf W.H o v (W.fps i)/\(o.bor=true->v=β i)
 dis:∀i j a,a∈W.fps i->a∈W.fps j->i=j
 own:∀i a,a∈W.fps i->W.Hf a=none/\∃o,W.H a=some o/\Mut (some o)
def Dh (K:v9)(W:Wo)(σ:St):PV->V->v6->Prop
 | .o o,v,fp=>RepO K W.Hf W.H o v fp/\∀a∈fp,¬ W.S a
 | .sl i,v,fp=>fp=[]/\σ[i]?=some (some v)
def RepA (K:v9)(Hf:Hp)(σ:St):PV->V->Prop
 | .o o,v=>RepN K Hf o v
 | .sl i,v=>σ[i]?=some (some v)
def zL (K:v9)(Hf:Hp)(σ:St):List PV->m7->Prop
 | [],vs=>vs=[]
 | p::ps,vs=>∃v r,vs=v::r/\RepA K Hf σ p v/\zL K Hf σ ps r
abbrev orS (S:Addr->Prop)(fp:v6):Addr->Prop:=λa=>S a\/a∈fp
section
variable {K:v9}{β:Nat->V}{W W':Wo}{c c':Ev}{σ:St}{Hf Hf' Hf2 H H' H2:Hp}{o:O}{v:V}{fp:v6}{S S' S2:Addr->Prop}{p:PV}{a:Addr}
theorem Stp.refl:Stp S Hf H S Hf H:=⟨λ_ _ h=>h,λ_ _ h _=>h,λ_ _ _ _ _ h=>h,λ_ h=>.inl h⟩
theorem Stp.trans (x:Stp S Hf H S' Hf' H')(y:Stp S' Hf' H' S2 Hf2 H2):Stp S Hf H S2 Hf2 H2:=by
 have b:∀a o,H a=some o->¬ S a->¬ S' a:=λa o h n z=>by
  rcases x.fr a z with q | q
  ·trivial
  simp_all
 refine⟨x.fz.trans y.fz,λa o h n=>y.kp a o (x.kp a o h n) (b a o h n),λa o h c n q=>y.nf a o (x.kp a o h n) c (b a o h n) (x.nf a o h c n q),λa h=>?_⟩
 rcases y.fr a h with q | q
 ·exact x.fr a q
 ·cases e:H a with
  | none=>simp_all
  | some o =>
   by_cases n:S a
   ·grind
   ·rw[x.kp a o e n]at q;grind
theorem Stp.less (x:Stp S Hf H S' Hf' H')(h:∀a,S2 a->S' a):Stp S Hf H S2 Hf' H':=⟨x.fz,x.kp,x.nf,λa q=>x.fr a (h a q)⟩
theorem Stp.more {F:Addr->Prop}(x:Stp S Hf H S' Hf' H'):Stp (λa=>S a\/F a) Hf H (λa=>S' a\/F a) Hf' H' :=
 ⟨x.fz,λa o h n=>x.kp a o h λz=>n (.inl z),λa o h b n q=>x.nf a o h b (λz=>n (.inl z)) q,λa q=>by
  rcases q with q | q
  ·rcases x.fr a q with z | z
   ·simp_all
   grind
  simp_all⟩
theorem Stp.up (x:Stp S Hf H S' Hf' H')(h:∀a,S a->S2 a):Stp S2 Hf H S' Hf' H' :=
 ⟨x.fz,λa o e n=>x.kp a o e λz=>n (h a z),λa o e b n q=>x.nf a o e b (λz=>n (h a z)) q,λa q=>(x.fr a q).imp (h a) id⟩
theorem RepN.same (S:Same Hf Hf'):∀{o:O}{v:V},RepN K Hf o v->RepN K Hf' o v
 | .im d,_,h=>Tr.same S h
 | .sc ns,_,⟨a,e,h⟩=>⟨a,e,Same.seq S h⟩
 | .ty T,_,h=>RepT.same S h
 | .ls _ _,_,h=>h
theorem RepA.same (S:Same Hf Hf'):∀{p:PV}{v:V},RepA K Hf σ p v->RepA K Hf' σ p v
 | .o _,_,h=>RepN.same S h
 | .sl _,_,h=>h
theorem zL.same (S:Same Hf Hf'):∀{ps:List PV}{vs:m7},zL K Hf σ ps vs->zL K Hf' σ ps vs
 | [],_,h=>h
 | p::ps,_,⟨v,r,e,h,t⟩=>⟨v,r,e,RepA.same S h,zL.same S t⟩
theorem RepO.mono (h:RepO K Hf H o v fp)(S:Same Hf Hf')(h1:∀a∈fp,Hf' a=none/\H' a=H a):RepO K Hf' H' o v fp:=by
 cases o with
 | ls b ds =>
  obtain⟨a,f,rfl,rfl,q,e,t⟩:=h;obtain⟨c,g⟩:=h1 a (.head _);exact⟨a,f,rfl,rfl,c,g.trans e,TrL.same S t⟩
 | im d=>exact⟨h.1,RepN.same S h.2⟩
 | sc ns=>exact⟨h.1,RepN.same S h.2⟩
 | ty T=>exact⟨h.1,RepN.same S h.2⟩
theorem Rep.frame (R:Rep K β W c σ)(S:Same W.Hf Hf')(sub:Same Hf' H')(h:∀a,W.S a->Hf' a=none/\H' a=W.H a):Rep K β ⟨Hf',H',W.fps⟩ c σ :=
 ⟨sub,R.len,λi o e=>by
  obtain⟨v,f,r,b⟩:=R.get i o e
  exact⟨v,f,r.mono S λa d=>h a ⟨i,d⟩,b⟩,R.dis,λi a d=>by
  obtain⟨_,o,q,j⟩:=R.own i a d;obtain⟨k,g⟩:=h a ⟨i,d⟩
  grind⟩
theorem Rep.notS (R:Rep K β W c σ)(h:W.H a=none):¬ W.S a:=λ⟨i,q⟩=>by
 obtain⟨_,o,e,_⟩:=R.own i a q
 grind
theorem Rep.notF (R:Rep K β W c σ)(h:W.H a=none):W.Hf a=none:=Same.free R.sub h
theorem Stp.rep (R:Rep K β W c σ)(x:Stp (λ_=>False) W.Hf W.H S' Hf' H')(sub:Same Hf' H'):Rep K β ⟨Hf',H',W.fps⟩ c σ :=
 R.frame x.fz sub λa d=>by
  obtain⟨i,f⟩:=d;obtain⟨z,o,e,b⟩:=R.own i a f
  exact⟨x.nf a o e b (λz=>z) z,(x.kp a o e λz=>z).trans e.symm⟩
theorem Bd {p:Addr}{o:HO}(h:H p=none):Same H (upd H p o):=λb u e=>by
 rw[Af];exact e
 grind
theorem Iu {o:HO}(s:Same Hf H):Same (upd Hf a o) (upd H a o):=λb u e=>by
 unfold upd at e ⊢
 split
 ·grind
 ·rename_i z;rw[if_neg z]at e;exact s b u e
theorem Stp.newF {o:HO}(s:Same Hf H)(h:H a=none):Stp (λ_=>False) Hf H (λ_=>False) (upd Hf a o) (upd H a o) :=
 ⟨Bd (Same.free s h),λb u e _=>Bd h b u e,λb u e _ _ q=>by rw[Af (Ba e h)];grind,λ_ z=>z.elim⟩
theorem Stp.newL {o:HO}(s:Same Hf H)(h:H a=none):Stp (λ_=>False) Hf H (λb=>b∈[a]) Hf (upd H a o) :=
 ⟨Same.refl _,λb u e _=>Bd h b u e,λb u e _ _ q=>q,λb z=>by
  grind⟩
theorem At4 {o:HO}(s:Same Hf H)(h:H a=none):Same Hf (upd H a o):=s.trans (Bd h)
def ME (K:v9)(T:TE)(f:n6):Prop:=∀(β:Nat->V) (W:Wo) (c:Ev) (σ:St) (Q:VK),Rep K β W c σ ->
 (f c).sat (λp c'=>∀v W' fp,Stp W.S W.Hf W.H (orS W'.S fp) W'.Hf W'.H->Rep K β W' c' σ->Dh K W' σ p v fp->Q v W'.H)->T σ W.H Q
def MV (K:v9)(T:TE)(f:n6):Prop:=∀(β:Nat->V) (W:Wo) (c:Ev) (σ:St) (Q:VK),Rep K β W c σ ->
 (f c).sat (λp c'=>∀v W',Stp W.S W.Hf W.H W'.S W'.Hf W'.H->Rep K β W' c' σ->RepA K W'.Hf σ (nrm p) v->Q v W'.H)->T σ W.H Q
def MA (K:v9)(T:TA)(f:o9):Prop:=∀(β:Nat->V) (W:Wo) (c:Ev) (σ:St) (Q:m7->Hp->Prop),Rep K β W c σ ->
 (f c).sat (λps c'=>∀vs W',Stp W.S W.Hf W.H W'.S W'.Hf W'.H->Rep K β W' c' σ->zL K W'.Hf σ ps vs->Q vs W'.H)->T σ W.H Q
def MT (K:v9)(T:TT)(f:o_):Prop:=∀(β:Nat->V) (W:Wo) (c:Ev) (σ:St) (Q:Bool->Hp->Prop),Rep K β W c σ ->
 (f c).sat (λb c'=>∀W',Stp W.S W.Hf W.H W'.S W'.Hf W'.H->Rep K β W' c' σ->Q b W'.H)->T σ W.H Q
theorem Yj (R:Rep K β W c σ) (hf:W.Hf a=none) (h:W.H a=some (.lst vs)) (hn:¬ W.S a):Rep K β ⟨upd W.Hf a (.lst vs),W.H,W.fps⟩ c σ :=
 R.frame (Bd hf) (λb u e=>by
  unfold upd at e
  split at e
  ·grind
  ·exact R.sub b u e) λb f=>by
   obtain⟨i,g⟩:=f
   have d:b≠a:=λz=>hn ⟨i,by simp_all⟩
   exact⟨by rw[Af d];exact(R.own i b g).1,rfl⟩
theorem Bt1 {Q:VK} (k:∀v c,Stp W.S W.Hf W.H c.S c.Hf c.H->Rep K β c c' σ->RepA K c.Hf σ (nrm p) v->Q v c.H) (v:V) (c:Wo) (fp:v6) (st:Stp W.S W.Hf W.H (orS c.S fp) c.Hf c.H) (g:Rep K β c c' σ) (f:Dh K c σ p v fp):Q v c.H:=by
 cases p with
 | sl i =>
  obtain⟨rfl,e⟩:=f
  exact k v _ (st.less λa z=>.inl z) g e
 | o o =>
  cases o with
  | im d =>
   obtain⟨⟨rfl,e⟩,_⟩:=f
   exact k v _ (st.less λa z=>.inl z) g e
  | sc d =>
   obtain⟨⟨rfl,e⟩,_⟩:=f
   exact k v _ (st.less λa z=>.inl z) g e
  | ty d =>
   obtain⟨⟨rfl,e⟩,_⟩:=f
   exact k v _ (st.less λa z=>.inl z) g e
  | ls b ds =>
   obtain⟨⟨a,l,rfl,rfl,h,r,t⟩,m⟩:=f
   refine k _ ⟨upd _ a _,c.H,c.fps⟩ ⟨st.fz.trans (Bd h),st.kp,λb o e s n q=>?_,λb z=>st.fr b (.inl z)⟩ (Yj g h r (m a (.head _))) ?_
   ·have j:b≠a:=λz=>by
     rcases st.fr a (.inr (.head _)) with y | y
     ·grind
     simp_all
    show upd _ a _ b=none
    rw[Af j];exact st.nf b o e s n q
   ·exact⟨a,l,rfl,Am,TrL.same (Bd h) t⟩
theorem ME.toV (h:ME K T f):MV K T f:=λe W c j Q R s=>h _ W c _ Q R (s.mono λp l k v g i a d b=>Bt1 k v _ _ a d b)
end
def RdV (Hf H:Hp):t_->V->Prop
 | .list ds,v=>∃a vs,v=.ref a/\H a=some (.lst vs)/\TrL Hf ds vs
 | d,v=>Tr Hf d v
section
variable {K:v9}{β:Nat->V}{W W':Wo}{c c':Ev}{σ:St}{Hf Hf' H H':Hp}{o:O}{v:V}{fp:v6}{S:Addr->Prop}{p:PV}{a:Addr}{d:t_}
theorem RdV.of (s:Same Hf H)(h:Tr Hf d v):RdV Hf H d v:=by
 cases d with
 | list f=>obtain⟨a,c,e,q,t⟩:=h;exact⟨a,c,e,s _ _ q,t⟩
 | none=>exact h
 | bool b=>exact h
 | int i=>exact h
 | str x=>exact h
 | tuple f=>exact h
 | dict k=>exact h
theorem RdV.tr (s:Same Hf H)(h:RdV Hf H d v):Tr H d v:=by
 cases d with
 | list f=>obtain⟨a,c,e,q,t⟩:=h;exact⟨a,c,e,q,TrL.same s t⟩
 | none=>exact h
 | bool b=>exact h
 | int i=>exact h
 | str x=>exact h
 | tuple f=>exact Tr.same s h
 | dict k=>trivial
theorem Dz (R:Rep K β W c σ)(h:RepA K W.Hf σ p v)(e:Cq c p=some d):RdV W.Hf W.H d v:=by
 cases p with
 | o o =>
  cases o with
  | im m=>cases e;exact .of R.sub h
  | ls b n=>trivial
  | sc k=>trivial
  | ty T=>trivial
 | sl i =>
  have l:c[i]?.join.bind _=some d:=e;obtain⟨o,g,f⟩:=bY.mp l
  have g:c[i]?=some (some o):=by
   grind
  obtain⟨u,s,r,_⟩:=R.get i o g
  cases s.symm.trans h
  cases o with
  | im m=>cases f;exact .of R.sub r.2
  | ls b n =>
   cases f
   obtain⟨a,j,e,_,_,q,t⟩:=r;exact⟨a,j,e,q,t⟩
  | sc k=>trivial
  | ty T=>trivial
def B2m (Hf H:Hp):w5->m7->Prop
 | [],vs=>vs=[]
 | d::ds,vs=>∃v r,vs=v::r/\RdV Hf H d v/\B2m Hf H ds r
def A8w (c:Ev):List PV->Option (w5)
 | []=>some []
 | p::ps=>(Cq c p).bind λd=>(A8w c ps).map (d::·)
abbrev New (K:v9)(Hf H:Hp)(o:O)(Q:VK):Prop:=∀v Hf' H' fp,Stp (λ_=>False) Hf H (λa=>a∈fp) Hf' H'->Same Hf' H'->RepO K Hf' H' o v fp->Q v H'
def OpS (K:v9)(r:R2)(op:t_->t_->m6):Prop:=∀(Hf H:Hp) (x y:V) (dx dy:t_) (o:O) (Q:VK),Same Hf H->RdV Hf H dx x->RdV Hf H dy y->op dx dy=some o->New K Hf H o Q->r x y H Q
def B3u (K:v9)(r:m7->Hp->VK->Prop)(op:w5->m6):Prop:=∀(Hf H:Hp) (xs:m7) (ds:w5) (o:O) (Q:VK),Same Hf H->B2m Hf H ds xs->op ds=some o->New K Hf H o Q->r xs H Q
theorem New.same (h:New K Hf H (.im d) Q) (s:Same Hf H) (t:Tr Hf d v):Q v H:=h v _ H [] (Stp.refl.less λa z=>nomatch z) s ⟨rfl,t⟩
theorem New.tup (h:New K Hf H (.im (.tuple ds)) Q) (s:Same Hf H) (t:TrL Hf ds vs) {p:Addr}(hp:H p=none):Q (.ref p) (upd H p (.tup vs)) :=
 h _ _ _ [] ((Stp.newF s hp).less λa z=>nomatch z) (Iu s) ⟨rfl,p,vs,rfl,Am,TrL.same (Bd (Same.free s hp)) t⟩
theorem New.lst (h:New K Hf H (.ls false ds) Q) (s:Same Hf H) (t:TrL Hf ds vs) {p:Addr}(hp:H p=none):Q (.ref p) (upd H p (.lst vs)) :=
 h _ _ _ _ (Stp.newL s hp) (At4 s hp) ⟨p,vs,rfl,rfl,Same.free s hp,Am,t⟩
theorem New.of (R:Rep K β W c σ) (k:∀v W' d,Stp W.S W.Hf W.H (orS W'.S d) W'.Hf W'.H->Rep K β W' c σ->Dh K W' σ (.o o) v d->Q v W'.H):New K W.Hf W.H o Q:=by
 intro v h j d b f r
 refine k v _ _ ⟨b.fz,λa o e _=>b.kp a o e λz=>z,λa o e i _ q=>b.nf a o e i (λz=>z) q,λa z=>?_⟩ (b.rep R f) ⟨r,λa g z=>?_⟩
 ·rcases z with z | z
  ·exact .inl z
  ·rcases b.fr a z with y | y
   ·trivial
   grind
 ·rcases b.fr a g with y | y
  ·lia
  ·exact R.notS y z
def cOp (op:t_->t_->m6)(fa fb:n6):n6:=λc=>(fa c).bind λp c=>(fb c).bind λq c =>
 match Cq c (nrm p),Cq c (nrm q) with
 | some x,some y=>match op x y with
  | some o=>.ok (.o o) c
  | none=>.bad
 | _,_=>.bad
theorem Dw (ha:ME K g fa) (hb:ME K f fb) (hr:OpS K r op):ME K (tOp r g f) (cOp op fa fb):=by
 intro β W c σ Q R s
 refine ha.toV _ W c _ _ R (s.bnd.mono λp c1 l v1 W1 d i j=>?_)
 refine hb.toV _ _ _ _ _ i (l.bnd.mono λq e a v2 W2 b R2 k=>?_)
 cases ex:Cq e (nrm p) with
 | none=>simp only[ex]at a;trivial
 | some x =>
  cases ey:Cq e (nrm q) with
  | none=>simp only[ex,ey]at a;trivial
  | some y =>
   simp only[ex,ey]at a
   cases eo:op x y with
   | none=>simp only[eo]at a;trivial
   | some o =>
    simp only[eo]at a
    exact hr _ _ _ _ x y o Q R2.sub (Dz R2 (RepA.same b.fz j) ex) (Dz R2 k ey) eo (New.of R2 λv W' fp m n h=>a v _ _ (d.trans (b.trans m)) n h)
noncomputable def Al:o9:=λc=>.ok [] c
def Aa (f:n6)(fr:o9):o9:=λc=>(f c).bind λp c=>(fr c).bind λps c=>.ok (nrm p::ps) c
noncomputable def cK (ds:w5):o9:=λc=>.ok (ds.map λd=>.o (.im d)) c
theorem Gf:MA K Er Al:=λb W c a Q R s=>s _ W Stp.refl R rfl
theorem Bs {d:TE} (ha:ME K d fa) (hr:MA K e f):MA K (Bp d e) (Aa fa f):=by
 intro t W c v Q R s
 refine ha.toV _ W c _ _ R (s.bnd.mono λp o i j r b h g=>?_)
 refine hr _ _ _ _ _ h (i.bnd.mono λw q m l u a n k=>?_)
 exact m _ _ (b.trans a) n ⟨j,l,rfl,RepA.same a.fz g,k⟩
noncomputable def Ab (i:Nat):n6:=λc=>match c[i]? with
 | some (some (.ls _ _))=>.ok (.sl i) c
 | some (some o)=>.ok (.o o) c
 | _=>.bad
theorem Rep.here (R:Rep K β W c σ) (h:RepN K W.Hf o v) (n:o.own=false) {Q:VK}(s:∀v W' fp,Stp W.S W.Hf W.H (orS W'.S fp) W'.Hf W'.H->Rep K β W' c σ->Dh K W' σ (.o o) v fp->Q v W'.H):Q v W.H :=
 s
  v W [] (Stp.refl.less λa z=>by
  grind) R ⟨by
   cases o with
   | ls b e=>trivial
   | im d=>trivial
   | sc d=>trivial
   | ty d=>trivial,λa z=>nomatch z⟩
theorem Av : ME K (Hb i) (Ab i):=by
 intro j W c h Q R s;unfold Ab at s
 cases e:c[i]? with
 | none=>simp only[e]at s;trivial
 | some x =>
  cases x with
  | none=>simp only[e]at s;trivial
  | some o =>
   obtain⟨v,f,r,_⟩:=R.get i o e
   refine⟨v,f,?_⟩
   simp only[e]at s
   cases o with
   | ls b g=>
    exact s v W _ (Stp.refl.less λa z=>by
     rcases z with z | z
     ·lia
     simp_all) R ⟨rfl,f⟩
   | im d=>exact R.here r.2 rfl s
   | sc d=>exact R.here r.2 rfl s
   | ty d=>exact R.here r.2 rfl s
noncomputable def cC (d:t_):n6:=λc=>.ok (.o (.im d)) c
noncomputable def vD:V->Option t_
 | .non=>some .none
 | .bl b=>some (.bool b)
 | .int i=>some (.int i)
 | .str x=>some (.str x)
 | _=>none
theorem Bt4:∀{v:V}{d:t_},vD v=some d->Tr H d v
 | .non,_,e=>by cases e;rfl
 | .bl b,_,e=>by cases e;rfl
 | .int i,_,e=>by cases e;rfl
 | .str x,_,e=>by cases e;rfl
 | .byt _,_,e=>nomatch e
 | .flt _,_,e=>nomatch e
 | .ref _,_,e=>nomatch e
 | .ty _,_,e=>nomatch e
theorem G8 (h:vD v=some d):ME K (tC v) (cC d):=λb W c a Q R s=>R.here (o:=.im d) (Bt4 h) rfl s
noncomputable def frz (p:PV) (c:Ev):R t_:=match p with
 | .o (.im d)=>.ok d c
 | .o _=>.bad
 | .sl i=>match c[i]? with
  | some (some (.im d))=>.ok d c
  | some (some (.ls false ds))=>.ok (.list ds) (c.set i (some (.im (.list ds))))
  | _=>.bad
noncomputable def clr (fps:Nat->v6) (i:Nat):Nat->v6:=λj=>if j=i then [] else fps j
theorem Dk (h:a∈clr b i j):a∈b j/\j≠i:=by
 unfold clr at h
 grind
theorem Rep.setN (R:Rep K β W c σ) (h:RepN K W.Hf o v) (n:o.own=false):Rep K β ⟨W.Hf,W.H,clr W.fps i⟩ (c.set i (some o)) (σ.set i (some v)):=by
 refine⟨R.sub,by rw[bD,bD];exact R.len,λj s e=>?_,λj k a m g=>R.dis j k a (Dk m).1 (Dk g).1,λj a h=>R.own j a (Dk h).1⟩
 by_cases z:j=i
 ·subst z
  by_cases l:j<c.length
  ·rw[b_ l]at e
   cases e
   refine⟨v,by rw[b_ (by rw[<- R.len];exact l)],?_,λb=>?_⟩
   ·show RepO K W.Hf W.H o v (clr _ j j)
    unfold clr;rw[if_pos rfl]
    cases o with
    | ls b f=>exact nomatch n
    | im d=>exact⟨rfl,h⟩
    | sc d=>trivial
    | ty d=>exact⟨rfl,h⟩
   ·cases o with
    | ls b f=>exact nomatch n
    | im d=>exact nomatch b
    | sc d=>exact nomatch b
    | ty d=>exact nomatch b
  grind
 ·rw[bQ λy=>z y.symm]at e
  obtain⟨p,q,r,b⟩:=R.get j _ e
  refine⟨p,by grind,?_,b⟩
  unfold clr
  simp_all
theorem Rep.setO (R:Rep K β W c σ) (h:RepO K W.Hf W.H o v fp) (hn:∀a∈fp,¬ W.S a) (hb:o.bor=false):Rep K β ⟨W.Hf,W.H,λj=>if j=i then fp else W.fps j⟩ (c.set i (some o)) (σ.set i (some v)):=by
 refine⟨R.sub,by rw[bD,bD];exact R.len,λj o' e=>?_,λj k a f g=>?_,λj a f=>?_⟩
 ·by_cases z:j=i
  ·subst z
   by_cases l:j<c.length
   ·rw[b_ l]at e
    cases e
    refine⟨v,by rw[b_ (by rw[<- R.len];exact l)],?_,λb=>by rw[hb]at b;cases b⟩
    simp_all
   simp_all
  ·rw[bQ λy=>z y.symm]at e
   obtain⟨v',e1,r,b⟩:=R.get j _ e
   grind
 ·have f:a∈if j=i then fp else W.fps j:=f
  have g:a∈if k=i then fp else W.fps k:=g
  split at f
  ·split at g
   ·lia
   ·exact absurd ⟨k,g⟩ (hn a f)
  ·split at g
   ·exact absurd ⟨j,f⟩ (hn a g)
   ·exact R.dis j k a f g
 ·have f:a∈if j=i then fp else W.fps j:=f
  split at f
  ·cases o with
   | ls b ds =>
    obtain⟨a',vs,_,rfl,n,m,_⟩:=h
    cases aK.mp f
    exact⟨n,_,m,trivial⟩
   | im d=>rw[h.1]at f;cases f
   | sc d=>rw[h.1]at f;cases f
   | ty d=>rw[h.1]at f;cases f
  ·exact R.own j a f
theorem set_same {a:Type}{l:List a} {x:a}(h:l[i]?=some x):l.set i x=l:=by
 apply List.ext_getElem?
 grind
theorem Rep.drop (R:Rep K β W c σ)(i:Nat):Rep K β ⟨W.Hf,W.H,clr W.fps i⟩ (c.set i none) σ:=by
 refine⟨R.sub,by rw[bD];exact R.len,λj m e=>?_,λj k a g f=>R.dis j k a (Dk g).1 (Dk f).1,λj a h=>R.own j a (Dk h).1⟩
 by_cases z:j=i
 ·grind
 ·rw[bQ λy=>z y.symm]at e
  obtain⟨l,d,r,b⟩:=R.get j _ e
  refine⟨l,d,?_,b⟩
  unfold clr
  simp_all
theorem Gz (R:Rep K β W c σ)(h:RepA K W.Hf σ p v) (s:(frz p c).sat k) :
 ∃d c' W',frz p c=.ok d c'/\k d c'/\W'.H=W.H/\Stp W.S W.Hf W.H W'.S W'.Hf W'.H/\Rep K β W' c' σ/\Tr W'.Hf d v:=by
 cases p with
 | o o =>
  cases o with
  | im d=>exact⟨d,c,W,rfl,s,rfl,Stp.refl,R,h⟩
  | ls b w=>exact s.elim
  | sc d=>exact s.elim
  | ty d=>exact s.elim
 | sl i =>
  unfold frz at s ⊢
  cases e:c[i]? with
  | none=>simp only[e]at s;exact s.elim
  | some x =>
   cases x with
   | none=>simp only[e]at s;exact s.elim
   | some o =>
    obtain⟨v',u,r,_⟩:=R.get i o e
    cases (show some _=some _ from u.symm.trans h)
    cases o with
    | im d=>simp only[e]at s;exact⟨d,c,W,by simp only[e],s,rfl,Stp.refl,R,r.2⟩
    | sc d=>simp only[e]at s;exact s.elim
    | ty d=>simp only[e]at s;exact s.elim
    | ls b w =>
     cases b with
     | true=>simp only[e]at s;exact s.elim
     | false =>
      simp only[e]at s;obtain⟨a,m,rfl,l,f,A,t⟩:=r
      refine⟨.list _,c.set i _,⟨upd _ a _,W.H,clr W.fps i⟩,by simp only[e],s,rfl,⟨Bd f,λb o e _=>e,λb o e mu n q=>?_,λb z=>?_⟩,?_,⟨a,m,rfl,Am,TrL.same (Bd f) t⟩⟩
      ·have C:b≠a:=λz=>n ⟨i,by rw[z,l];exact .head _⟩
       show upd _ a _ b=none
       rw[Af C];exact q
      ·obtain⟨j,g⟩:=z
       exact .inl ⟨j,(Dk g).1⟩
      ·have B:¬ Wo.S ⟨W.Hf,W.H,clr W.fps i⟩ a:=λ⟨j,g⟩=>by
        obtain⟨E,D⟩:=Dk g
        exact D (R.dis j i a E (by rw[l];exact .head _))
       have y:=(Yj (R.drop i) f A B).setN (i:=i) (o:=.im (.list _)) ⟨a,m,rfl,Am,TrL.same (Bd f) t⟩ rfl;rw[set_same h]at y
       have z:clr (clr W.fps i) i=clr W.fps i:=by funext j;unfold clr;split <;> rfl
       simp_all
def vDs:m7->Option (w5)
 | []=>some []
 | v::vs=>(vD v).bind λd=>(vDs vs).map (d::·)
theorem As8:∀{vs:m7}{ds:w5},vDs vs=some ds->zL K Hf σ (ds.map λd=>.o (.im d)) vs
 | [],_,e=>by cases (show some []=some _ from e);exact rfl
 | v::vs,ds,e=>by
  obtain⟨d,e1,e2⟩:=bY.mp (show ((vD v).bind λd=>(vDs vs).map (d::·))=some ds from e)
  obtain⟨ds',e3,rfl⟩:=aO.mp e2;exact⟨v,vs,rfl,Bt4 e1,As8 e3⟩
theorem B6q (h:vDs vs=some ds):MA K (tK vs) (cK ds):=λb W c a Q R s=>s _ W Stp.refl R (As8 h)
def frzs:List PV->Ev->R (w5)
 | [],c=>.ok [] c
 | p::ps,c=>(frz p c).bind λd c=>(frzs ps c).bind λds c=>.ok (d::ds) c
theorem Td:∀{ps:List PV}{vs:m7}{W:Wo}{c:Ev}{φ:w5->Ev->Prop},Rep K β W c σ->zL K W.Hf σ ps vs->(frzs ps c).sat φ ->
 ∃ds c' W',φ ds c'/\W'.H=W.H/\Stp W.S W.Hf W.H W'.S W'.Hf W'.H/\Rep K β W' c' σ/\TrL W'.Hf ds vs
 | [],vs,W,c,φ,R,h,s=>⟨[],c,W,s,rfl,Stp.refl,R,h⟩
 | p::ps,_,W,c,φ,R,⟨v,r,rfl,h,t⟩,s=>by
  obtain⟨d,c1,W1,_,s1,e1,st1,R1,t1⟩:=Gz R h s.bnd;obtain⟨ds,c2,W2,s2,e2,st2,R2,t2⟩:=Td R1 (zL.same st1.fz t) s1.bnd;exact⟨d::ds,c2,W2,s2,e2.trans e1,st1.trans st2,R2,v,r,rfl,Tr.same st2.fz t1,t2⟩
def Ej (f:o9):n6:=λc=>(f c).bind λps c=>(frzs ps c).bind λds c=>if ds.length<=1000 then .ok (.o (.im (.tuple ds))) c else .bad
def Ho (f:o9):n6:=λc=>(f c).bind λps c=>(frzs ps c).bind λds c=>if ds.length<=1000 then .ok (.o (.ls false ds)) c else .bad
theorem As9 (h:n<=1000):n<=sizeLine:=aq h (by decide)
theorem Tv (h:MA K t f):ME K (B5e t) (Ej f):=by
 intro w W c z Q R s
 refine h _ W c _ _ R (s.bnd.mono λx y k A F b o m=>?_)
 obtain⟨r,B,E,a,j,d,e,i⟩:=Td o m k.bnd
 by_cases l:r.length<=1000
 ·rw[if_pos l]at a
  refine⟨by rw[<- i.length];exact As9 l,λp g=>?_⟩
  rw[<- j]at g ⊢
  exact New.tup (New.of e λv C D q u n=>a v _ _ (b.trans (d.trans q)) u n) e.sub i g
 ·rw[if_neg l]at a;trivial
theorem As1 (h:MA K t f):ME K (Bo5 t) (Ho f):=by
 intro w W c z Q R s
 refine h _ W c _ _ R (s.bnd.mono λx y k A F b o m=>?_)
 obtain⟨r,B,E,a,j,d,e,i⟩:=Td o m k.bnd
 by_cases l:r.length<=1000
 ·rw[if_pos l]at a
  refine⟨by rw[<- i.length];exact As9 l,λp g=>?_⟩
  rw[<- j]at g ⊢
  exact New.lst (New.of e λv C D q u n=>a v _ _ (b.trans (d.trans q)) u n) e.sub i g
 ·rw[if_neg l]at a;trivial
end
noncomputable def Gj (cI:Ev):p_->Ev->Option Ev
 | [],c=>some c
 | (k,i)::m,c=>match c[i]? with
  | some (some (.ls b _))=>match cI[k]? with
   | some (some (.ls true ds))=>Gj cI m (c.set i (some (.ls b ds)))
   | _=>none
  | _=>Gj cI m c
noncomputable def inn (m:p_) (i:Nat):Option Nat:=(m.find? λp=>p.2==i).map (·.1)
noncomputable def Ap8 (m:p_) (k:Nat):Option Nat:=(m.find? λp=>p.1==k).map (·.2)
theorem Ig : inn ((k,j)::m) i=if j=i then some k else inn m i:=by
 unfold inn
 grind
theorem Su (h:inn m i=some k):(k,i)∈m:=by
 induction m with
 | nil=>cases h
 | cons p m a =>
  rw[Ig]at h
  grind
theorem S9 (b:(m.map (·.2)).Nodup) (h:(k,i)∈m):inn m i=some k:=by
 induction m with
 | nil=>grind
 | cons p m a =>
  rw[Ig]
  grind
theorem Ay0 {m:p_} (b:(m.map (·.1)).Nodup) (h:(k,i)∈m) (h':(k,j)∈m):i=j:=by
 induction m with
 | nil=>grind
 | cons p m a =>
  grind
theorem Q0 {cI:Ev}:∀{m:p_}{c cO:Ev},(m.map (·.2)).Nodup->Gj cI m c=some cO->cO.length=c.length/\∀i,
 (∃b ds0 k ds,c[i]?=some (some (.ls b ds0))/\inn m i=some k/\cI[k]?=some (some (.ls true ds))/\cO[i]?=some (some (.ls b ds))) \/
 (cO[i]?=c[i]?/\∀b ds,c[i]?=some (some (.ls b ds))->inn m i=none)
 | [],c,cO,nd,e=>by cases (show some c=some cO from e);exact⟨rfl,λi=>.inr ⟨rfl,λ_ _ _=>rfl⟩⟩
 | (k,j)::m,c,cO,nd,e=>by
  rw[aJ,bR]at nd
  have nj:inn m j=none:=by
   cases q:inn m j with
   | none=>rfl
   | some k'=>exact absurd (aL.mpr ⟨(k',j),Su q,rfl⟩) nd.1
  unfold Gj at e
  have other:Gj cI m c=some cO->(∀b ds,c[j]?≠some (some (.ls b ds)))->cO.length=c.length/\∀i,
   (∃b ds0 k' ds,c[i]?=some (some (.ls b ds0))/\inn ((k,j)::m) i=some k'/\cI[k']?=some (some (.ls true ds))/\cO[i]?=some (some (.ls b ds))) \/
   (cO[i]?=c[i]?/\∀b ds,c[i]?=some (some (.ls b ds))->inn ((k,j)::m) i=none):=λe hn=>by
   obtain⟨hl,hg⟩:=Q0 nd.2 e
   refine⟨hl,λi=>?_⟩
   rcases hg i with ⟨b,ds0,k',ds,q1,q2,q3,q4⟩ | ⟨q1,q2⟩
   ·refine .inl ⟨b,ds0,k',ds,q1,?_,q3,q4⟩
    rw[Ig,if_neg (λz=>hn b ds0 (by rw[z];exact q1))];exact q2
   ·refine .inr ⟨q1,λb ds q=>?_⟩
    rw[Ig,if_neg (λz=>hn b ds (by rw[z];exact q))];exact q2 b ds q
  cases ec:c[j]? with
  | none=>simp only[ec]at e;exact other e λb ds z=>by rw[ec]at z;cases z
  | some x =>
   cases x with
   | none=>simp only[ec]at e;exact other e λb ds z=>by rw[ec]at z;cases z
   | some o =>
    cases o with
    | im d=>simp only[ec]at e;exact other e λb ds z=>by rw[ec]at z;cases z
    | sc d=>simp only[ec]at e;exact other e λb ds z=>by rw[ec]at z;cases z
    | ty d=>simp only[ec]at e;exact other e λb ds z=>by rw[ec]at z;cases z
    | ls b0 ds0 =>
     simp only[ec]at e
     cases ei:cI[k]? with
     | none=>simp only[ei]at e;cases e
     | some x =>
      cases x with
      | none=>simp only[ei]at e;cases e
      | some o =>
       cases o with
       | im d=>simp only[ei]at e;cases e
       | sc d=>simp only[ei]at e;cases e
       | ty d=>simp only[ei]at e;cases e
       | ls b1 ds1 =>
        cases b1 with
        | false=>simp only[ei]at e;cases e
        | true =>
         simp only[ei]at e
         have lj:j<c.length:=by
          rcases Nat.lt_or_ge j c.length with q | q
          ·exact q
          ·rw[gZ q]at ec;cases ec
         obtain⟨hl,hg⟩:=Q0 nd.2 e;rw[bD]at hl
         refine⟨hl,λi=>?_⟩
         by_cases z:j=i
         ·subst z
          rcases hg j with ⟨b,ds0',k',ds,q1,q2,q3,q4⟩ | ⟨q1,q2⟩
          ·rw[nj]at q2;cases q2
          ·rw[b_ lj]at q1
           exact .inl ⟨b0,ds0,k,ds1,ec,by rw[Ig,if_pos rfl],ei,q1⟩
         ·have gs:(c.set j (some (.ls b0 ds1)))[i]?=c[i]?:=bQ z
          rcases hg i with ⟨b,ds0',k',ds,q1,q2,q3,q4⟩ | ⟨q1,q2⟩
          ·rw[gs]at q1
           exact .inl ⟨b,ds0',k',ds,q1,by rw[Ig,if_neg z];exact q2,q3,q4⟩
          ·rw[gs]at q1 q2
           exact .inr ⟨q1,λb ds q=>by rw[Ig,if_neg z];exact q2 b ds q⟩
noncomputable def Hk:Option (m6)->Bool
 | some (some (.ls _ _))=>true
 | _=>false
def Rr (m:p_)(c:Ev)(fps:Nat->v6):Nat->v6:=λk=>match Ap8 m k with
 | some i=>if Hk c[i]? then fps i else []
 | none=>[]
theorem Uu (h:Ap8 m k=some i):(k,i)∈m:=by
 obtain⟨p,b,a⟩:=aO.mp h
 grind
theorem Gd (h:a∈Rr m c b k):∃i,(k,i)∈m/\Hk c[i]?=true/\a∈b i:=by
 unfold Rr at h
 cases e:Ap8 m k with
 | none=>grind
 | some i =>
  rw[e]at h
  have h:a∈if Hk _ then b i else []:=h
  by_cases q:Hk c[i]?=true
  ·rw[if_pos q]at h;exact⟨i,Uu e,q,h⟩
  grind
theorem Bh1 (a:(m.map (·.1)).Nodup) (h:(k,i)∈m):Ap8 m k=some i:=by
 cases e:Ap8 m k with
 | none =>
  unfold Ap8 at e;rw[Option.map_eq_none_iff]at e
  grind
 | some j=>rw[Ay0 a h (Uu e)]
def Al2 (m:p_)(c:Ev)(fps fpsJ:Nat->v6):Nat->v6:=λi=>if Hk c[i]? then (match inn m i with
 | some k=>fpsJ k
 | none=>fps i) else fps i
section
variable {K:v9}{β β':Nat->V}{W W':Wo}{c cI cI' cO:Ev}{σ σI σI':St}{m:p_}{fp:v6}
structure Lent (K:v9) (Hf:Hp) (m:p_) (c:Ev) (σ:St) (β':Nat->V) (cI:Ev) (σI:St):Prop where
 n1:(m.map (·.1)).Nodup
 n2:(m.map (·.2)).Nodup
 len:cI.length=σI.length
 at_:∀k o,cI[k]?=some (some o)->(o.own=false/\(∀i,(k,i)∈m->Hk c[i]?=false)/\(∃v,σI[k]?=some (some v)/\RepN K Hf o v))\/∃i b ds v,(k,i)∈m/\c[i]?=some (some (.ls b ds))/\o=.ls true ds/\σ[i]?=some (some v)/\σI[k]?=some (some v)/\β' k=v
theorem Lent.rep (L:Lent K W.Hf m c σ β' cI σI)(R:Rep K β W c σ):Rep K β' ⟨W.Hf,W.H,Rr m c W.fps⟩ cI σI:=by
 refine⟨R.sub,L.len,λk o e=>?_,λk l a B C=>?_,λk a h=>?_⟩
 ·rcases L.at_ k o e with ⟨n,s,v,p,r⟩ | ⟨i,b,x,v,E,w,rfl,J,p,A⟩
  ·refine⟨v,p,?_,λq=>?_⟩
   ·have g:∀t ,t=[]->RepO K _ W.H o v t:=λt z=>by
     cases o with
     | ls b x=>exact nomatch n
     | im d=>exact⟨z,r⟩
     | sc d=>exact⟨z,r⟩
     | ty d=>exact⟨z,r⟩
    refine g _ ?_
    show Rr m c _ k=[]
    unfold Rr
    cases q:Ap8 m k with
    | none=>rfl
    | some i =>
     show (if Hk _ then W.fps i else [])=[]
     rw[s i (Uu q)]
     rfl
   ·cases o with
    | ls b x=>exact nomatch n
    | im d=>exact nomatch q
    | sc d=>exact nomatch q
    | ty d=>exact nomatch q
  ·obtain⟨v',f,r,_⟩:=R.get i _ w
   cases (show some _=some _ from f.symm.trans J)
   refine⟨v,p,?_,λ_=>A.symm⟩
   obtain⟨a,F,G,D,I⟩:=r
   refine⟨a,F,G,?_,I⟩
   show Rr m c _ k=[a]
   unfold Rr;rw[Bh1 L.n1 E]
   show (if Hk _ then W.fps i else [])=[a]
   rw[w];exact D
 ·obtain⟨i,H,_,u⟩:=Gd B
  obtain⟨j,M,_,y⟩:=Gd C
  cases R.dis i j a u y
  have f:=S9 L.n2 M;rw[(S9 L.n2 H)]at f;exact cz f
 ·obtain⟨i,_,_,u⟩:=Gd h
  exact R.own i a u
theorem Bh3 (h:Hk x=true):∃b ds,x=some (some (.ls b ds)):=by
 match x,h with
 | some (some (.ls b _)),_=>grind
theorem Lent.back (L:Lent K W.Hf m c σ β' cI σI)(R:Rep K β W c σ)(I:Rep K β' W' cI' σI')(st:Stp (Wo.S ⟨W.Hf,W.H,Rr m c W.fps⟩) W.Hf W.H (orS W'.S fp) W'.Hf W'.H)(hb:Gj cI' m c=some cO)
 (H:∀k i b J v,(k,i)∈m->c[i]?=some (some (.ls b J))->σ[i]?=some (some v)->β' k=v) (Q:∀a∈fp,¬ W'.S a) :
 ∃W2:Wo,W2.Hf=W'.Hf/\W2.H=W'.H/\Rep K β W2 cO σ/\Stp W.S W.Hf W.H (orS W2.S fp) W'.Hf W'.H/\∀a∈fp,¬ W2.S a:=by
 obtain⟨hl,hg⟩:=Q0 L.n2 hb
 have t:∀k a,a∈W'.fps k->(∃i,(∃l,(l,i)∈m)/\Hk c[i]?=true/\a∈W.fps i)\/W.H a=none:=λk a h=>by
  rcases st.fr a (.inl ⟨k,h⟩) with ⟨l,q⟩ | q
  ·obtain⟨i,s,x,g⟩:=Gd q
   exact .inl ⟨i,⟨l,s⟩,x,g⟩
  ·exact .inr q
 have d:∀i a,a∈W.fps i->(Hk c[i]?=true->inn m i=none)->¬ Wo.S ⟨W.Hf,W.H,Rr m c W.fps⟩ a:=λi a h n ⟨k,q⟩=>by
  obtain⟨j,s,x,g⟩:=Gd q
  cases (R.dis i j a h g)
  have:=n x;rw[S9 L.n2 s]at this;cases this
 have D:∀i a,a∈Al2 m c W.fps W'.fps i->(∃k,inn m i=some k/\Hk c[i]?=true/\a∈W'.fps k)\/(a∈W.fps i/\(Hk c[i]?=true->inn m i=none)):=λi a h=>by
  have h:a∈if Hk c[i]? then (match inn m i with | some k=>W'.fps k | none=>W.fps i) else W.fps i:=h
  by_cases q:Hk c[i]?=true
  ·rw[if_pos q]at h
   cases e:inn m i with
   | none=>rw[e]at h;exact .inr ⟨h,λ_=>rfl⟩
   | some k=>rw[e]at h;exact .inl ⟨k,rfl,q,h⟩
  ·rw[if_neg q]at h;exact .inr ⟨h,λz=>absurd z q⟩
 have p:∀i k a,a∈W.fps i->(Hk c[i]?=true->inn m i=none)->a∈W'.fps k->False:=λi k a h n V=>by
  rcases t k a V with ⟨j,⟨l,s⟩,x,g⟩ | q
  ·cases (R.dis i j a h g)
   have:=n x;rw[S9 L.n2 s]at this;cases this
  ·obtain⟨_,o,e,_⟩:=R.own i a h
   rw[q]at e;cases e
 refine⟨⟨W'.Hf,W'.H,Al2 m c W.fps W'.fps⟩,rfl,rfl,⟨I.sub,hl.trans R.len,λi o e=>?_,λi j a Z T=>?_,λi a h=>?_⟩,⟨st.fz,λa o e n=>st.kp a o e λ⟨k,q⟩=>?_,λa o e F n q=>st.nf a o e F (λzz=>?_) q,λa h=>?_⟩,λa C ⟨i,h⟩=>?_⟩
 ·rcases hg i with ⟨b,N,k,J,s,x,g,U⟩ | ⟨s,x⟩
  ·rw[U]at e;cases e
   obtain⟨v,M,r,P⟩:=R.get i _ s;obtain⟨X,e1',r',O⟩:=I.get k _ g;have S:=O rfl;rw[H k i b N v (Su x) s M]at S;subst S
   refine⟨X,M,?_,P⟩
   obtain⟨a,Y,A,E,G⟩:=r'
   refine⟨a,Y,A,?_,G⟩
   show Al2 m c W.fps W'.fps i=[a]
   unfold Al2;rw[s,x];exact E
  ·rw[s]at e
   obtain⟨v,M,r,P⟩:=R.get i _ e
   refine⟨v,M,?_,P⟩
   have n:Hk c[i]?=true->inn m i=none:=λz=>by
    obtain⟨b,J,z⟩:=Bh3 z;exact x b J z
   have ef:Al2 m c W.fps W'.fps i=W.fps i:=by
    unfold Al2
    by_cases q:Hk c[i]?=true
    ·rw[if_pos q,n q]
    ·rw[if_neg q]
   show RepO K W'.Hf W'.H o v (Al2 m c W.fps W'.fps i)
   rw[ef]
   refine r.mono st.fz λa C=>?_
   obtain⟨z,u,y,F⟩:=R.own i a C;exact⟨st.nf a u y F (d i a C n) z,(st.kp a u y (d i a C n)).trans y.symm⟩
 ·rcases D i a Z with ⟨k,f,w,B⟩ | ⟨f,w⟩
  ·rcases D j a T with ⟨l,A,E,G⟩ | ⟨A,E⟩
   ·cases I.dis k l a B G
    exact Ay0 L.n1 (Su f) (Su A)
   ·exact(p j k a A E B).elim
  ·rcases D j a T with ⟨l,A,E,G⟩ | ⟨A,E⟩
   ·exact(p i l a f w G).elim
   ·exact R.dis i j a f A
 ·rcases D i a h with ⟨k,f,w,B⟩ | ⟨f,w⟩
  ·exact I.own k a B
  ·obtain⟨z,u,y,F⟩:=R.own i a f
   exact⟨st.nf a u y F (d i a f w) z,u,st.kp a u y (d i a f w),F⟩
 ·obtain⟨i,_,_,g⟩:=Gd q
  exact n ⟨i,g⟩
 ·obtain⟨k,q'⟩:=zz
  obtain⟨i,_,_,g⟩:=Gd q';exact n ⟨i,g⟩
 ·rcases h with ⟨i,h⟩ | h
  ·rcases D i a h with ⟨k,f,w,B⟩ | ⟨f,w⟩
   ·rcases t k a B with ⟨j,_,_,q⟩ | q
    ·exact .inl ⟨j,q⟩
    ·exact .inr q
   ·exact .inl ⟨i,f⟩
  ·rcases st.fr a (.inr h) with ⟨k,q⟩ | q
   ·obtain⟨i,_,_,g⟩:=Gd q
    exact .inl ⟨i,g⟩
   ·exact .inr q
 ·rcases D i a h with ⟨k,f,w,B⟩ | ⟨f,w⟩
  ·exact Q a C ⟨k,B⟩
  ·rcases st.fr a (.inr C) with q | q
   ·exact d i a f w q
   ·obtain⟨_,u,y,_⟩:=R.own i a f
    rw[q]at y;cases y
end
inductive SR where
 | nx (c:Ev)
 | rt (p:PV) (c:Ev)
 | bk (c:Ev)
 | ct (c:Ev)
 | bad
def zF (K:v9)(β:Nat->V)(W:Wo)(D:Ends):SR->Prop
 | .nx c'=>∀σ' W',Stp W.S W.Hf W.H W'.S W'.Hf W'.H->Rep K β W' c' σ'->D.nx σ' W'.H
 | .bk c'=>∀σ' W',Stp W.S W.Hf W.H W'.S W'.Hf W'.H->Rep K β W' c' σ'->D.bk σ' W'.H
 | .ct c'=>∀σ' W',Stp W.S W.Hf W.H W'.S W'.Hf W'.H->Rep K β W' c' σ'->D.ct σ' W'.H
 | .rt p c'=>∀σ' v W' fp,Stp W.S W.Hf W.H (orS W'.S fp) W'.Hf W'.H->Rep K β W' c' σ'->Dh K W' σ' p v fp->D.rt v W'.H
 | .bad=>False
def MS (K:v9)(T:TS)(f:Ev->SR):Prop:=∀(β:Nat->V) (W:Wo) (c:Ev) (σ:St) (D:Ends),Rep K β W c σ->zF K β W D (f c)->T D σ W.H
def MG (K:v9)(g:TG)(cg:o7):Prop:=∀(β:Nat->V) (W:Wo) (c:Ev) (σ:St) (p:PV) (v:V) (fp:v6) (k:St->Hp->Prop),Rep K β W c σ->Dh K W σ p v fp ->
 (cg p c).sat (λ_ c'=>∀σ' W',Stp (orS W.S fp) W.Hf W.H W'.S W'.Hf W'.H->Rep K β W' c' σ'->k σ' W'.H)->g v σ W.H k
def MGs (K:v9)(g:TGs)(cg:w5->Ev->R Unit):Prop:=∀(β:Nat->V) (W:Wo) (c:Ev) (σ:St) (ds:w5) (vs:m7) (k:St->Hp->Prop),Rep K β W c σ->TrL W.Hf ds vs ->
 (cg ds c).sat (λ_ c'=>∀σ' W',Stp W.S W.Hf W.H W'.S W'.Hf W'.H->Rep K β W' c' σ'->k σ' W'.H)->g vs σ W.H k
noncomputable def R.toS {α:Type} (r:R α) (k:α->Ev->SR):SR:=match r with
 | .ok a c=>k a c
 | .bad=>.bad
section
variable {K:v9}{β:Nat->V}{W W':Wo}{c c' cI cO:Ev}{σ σ':St}{D:Ends}{Hf H:Hp}{o:O}{v:V}{fp:v6}
theorem Fe {r:R b}{k:b->Ev->SR}(h:zF K β W D (r.toS k)):r.sat λa c=>zF K β W D (k a c):=by
 cases r with
 | ok a c=>exact h
 | bad=>exact h
theorem zF.step (h:zF K β W D r) (st:Stp W.S W.Hf W.H W'.S W'.Hf W'.H):zF K β W' D r:=by
 cases r with
 | nx c=>exact λb d a R=>h _ _ (st.trans a) R
 | bk c=>exact λb d a R=>h _ _ (st.trans a) R
 | ct c=>exact λb d a R=>h _ _ (st.trans a) R
 | rt p c=>exact λb v d e a R r=>h _ v _ _ (st.trans a) R r
 | bad=>exact h
noncomputable def Az (f g:Ev->SR):Ev->SR:=λc=>match f c with
 | .nx c=>g c
 | r=>r
theorem Jc (h1:MS K t f) (h2:MS K u g):MS K (V6 t u) (Az f g):=by
 intro k W c i D R l
 refine h1 _ W c _ _ R ?_
 unfold Az at l
 cases e:f c with
 | nx a=>rw[e]at l;exact λh j d b=>h2 _ _ _ _ D b (zF.step l d)
 | rt p a=>rw[e]at l;exact l
 | bk a=>rw[e]at l;exact l
 | ct a=>rw[e]at l;exact l
 | bad=>rw[e]at l;exact l
noncomputable def Bv:Ev->SR:=λc=>.nx c
theorem Fi:MS K Wu Bv:=λb W c a D R l=>l _ W Stp.refl R
noncomputable def Ap2:Ev->SR:=λ_=>.bad
theorem Bb8:MS K Am7 Ap2:=λb W c a D R l=>l.elim
def M6 (f:n6):Ev->SR:=λc=>(f c).toS λ_ c=>.nx c
theorem S5 (h:ME K a f):MS K (Rf a) (M6 f):=λg W c i D R l =>
 h.toV _ W c _ _ R ((Fe l).mono λp k e v j d b _=>e _ _ d b)
def Cg (f:n6):Ev->SR:=λc=>(f c).toS λp c=>.rt p c
theorem Aq0 (h:ME K a f):MS K (B4h a) (Cg f):=λi W c n D R l =>
 h _ W c _ _ R ((Fe l).mono λp m e v j k d g b=>e _ v _ _ d g b)
def cIf (t:o_)(f g:Ev->SR):Ev->SR:=λc=>(t c).toS λb c=>if b=true then f c else g c
theorem Rn (h:MT K d ft) (h1:MS K t f) (h2:MS K u g):MS K (A2h d t u) (cIf ft f g):=λk W c j D R l =>
 h
  _ W c _ _ R ((Fe l).mono λb n i m e a=>by
  cases b with
  | true=>exact h1 _ _ _ _ D a (zF.step i e)
  | false=>exact h2 _ _ _ _ D a (zF.step i e))
def cgN (i:Nat):o7:=λp c=>match p with
 | .o (.ls _ ds)=>.ok () (c.set i (some (.ls false ds)))
 | .o o=>.ok () (c.set i (some o))
 | .sl j=>(frz (.sl j) c).bind λd c=>.ok () (c.set i (some (.im d)))
theorem B2i (h:Wo.S ⟨Hf,H,clr W.fps i⟩ a):W.S a:=by
 obtain⟨j,h⟩:=h;exact⟨j,(Dk h).1⟩
theorem G4 : MG K (Ez i) (cgN i):=by
 intro w W c x p v u k R r s
 have f:∀{o:O} {g:Wo} {m:Ev},Rep K w g m x->o.own=false->RepN K g.Hf o v->Stp (orS W.S u) W.Hf W.H g.S _ g.H->g.H=W.H->(∀σ' W',Stp _ _ _ W'.S W'.Hf W'.H->Rep K _ W' _ σ'->k σ' W'.H)->k _ W.H:=λ{o g m} h n r l e s=>by
  rw[<- e]
  exact s _ ⟨g.Hf,g.H,clr _ i⟩ (l.less λa z=>B2i z) (h.setN r n)
 cases p with
 | sl j =>
  obtain⟨rfl,e⟩:=r
  obtain⟨d,m,g,e1,A,y,l,h,t⟩:=Gz R (show RepA K _ _ (.sl j) v from e) s.bnd
  exact f h (o:=.im d) rfl t (l.up λa z=>.inl z) y A
 | o o =>
  cases o with
  | im d=>exact f R rfl r.1.2 (Stp.refl.up λa z=>.inl z) rfl s
  | sc d=>exact f R rfl r.1.2 (Stp.refl.up λa z=>.inl z) rfl s
  | ty d=>exact f R rfl r.1.2 (Stp.refl.up λa z=>.inl z) rfl s
  | ls b ds =>
   refine s _ ⟨W.Hf,W.H,λj=>if j=i then u else W.fps j⟩ ⟨Same.refl _,λa o e _=>e,λa o e _ _ q=>q,λa z=>?_⟩ (R.setO r.1 r.2 rfl)
   obtain⟨j,z⟩:=z
   have z:a∈if j=i then u else W.fps j:=z
   split at z
   ·grind
   ·exact .inl (.inl ⟨j,z⟩)
noncomputable def Lw:w5->Ev->R Unit:=λds c=>match ds with
 | []=>.ok () c
 | _=>.bad
def Do (g:o7)(gs:w5->Ev->R Unit):w5->Ev->R Unit:=λds c=>match ds with
 | d::ds=>(g (.o (.im d)) c).bind λ_ c=>gs ds c
 | []=>.bad
theorem Bo9:MGs K Ao6 Lw:=λf W c e a b k R t s=>by
 cases a with
 | nil=>cases (t);exact⟨rfl,s _ W Stp.refl R⟩
 | cons d r=>trivial
theorem A7j (h1:MG K t g) (h2:MGs K u f):MGs K (K3 t u) (Do g f):=λβ W c σ x vs k R j s=>by
 cases x with
 | nil=>trivial
 | cons d r =>
  obtain⟨v,l,rfl,m,n⟩:=j
  refine⟨v,l,rfl,h1 _ W c _ (.o (.im d)) v _ _ R ⟨⟨rfl,m⟩,λa z=>nomatch z⟩ (s.bnd.mono λ_ c1 o i W1 b q=>?_)⟩
  have b:=b.up (S2:=W.S) λa z=>by
   grind
  exact h2 _ _ _ _ r _ k q (TrL.same b.fz n) (o.mono λ_ c2 p w W2 e h=>p _ _ (b.trans e) h)
noncomputable def cgT (n:Nat) (gs:w5->Ev->R Unit):o7:=λp c=>match p with
 | .o (.im (.tuple ds))=>if ds.length=n then gs ds c else .bad
 | _=>.bad
theorem B1f (h:MGs K t d):MG K (Ba2 K n t) (cgT n d):=by
 intro u W c w p v q k R r s
 match p,r,s with
 | .o (.im (.tuple ds)),r,s =>
  obtain⟨⟨b,a,j,b,l,f⟩,_⟩:=r
  have s:(if ds.length=n then d _ c else .bad:U.R _).sat _:=s
  by_cases e:ds.length=n
  ·rw[if_pos e]at s
   refine⟨a,j,b,SqT.of (R.sub _ _ l),by rw[<- f.length];exact e,h _ W c _ _ _ k R f (s.mono λ_ y i m x o g=>i _ _ (o.up λa z=>.inl z) g)⟩
  ·rw[if_neg e]at s;trivial
 | .o (.im .none),r,s=>trivial
 | .o (.im (.bool _)),r,s=>trivial
 | .o (.im (.int _)),r,s=>trivial
 | .o (.im (.str _)),r,s=>trivial
 | .o (.im (.list _)),r,s=>trivial
 | .o (.im (.dict _)),r,s=>trivial
 | .o (.ls _ _),r,s=>exact s.elim
 | .o (.sc _),r,s=>exact s.elim
 | .o (.ty _),r,s=>exact s.elim
 | .sl _,r,s=>trivial
def Bo (f:n6)(g:o7):Ev->SR:=λc=>(f c).toS λp c=>(g p c).toS λ_ c=>.nx c
theorem Nm (h:ME K b f) (hg:MG K t g):MS K (Zx b t) (Bo f g):=λx W c o D R l =>
 h _ W c _ _ R ((Fe l).mono λp q j v s u k e i=>hg _ _ _ _ p v _ _ e i ((Fe j).mono λ_ r m n w a d=>m _ _ (k.trans a) d))
def Bc7 (J:It)(Hf:Hp)(ds:w5):Prop:=∀(i:Nat) (Hf' H:Hp),Same Hf Hf'->Same Hf' H->(i=ds.length->J.stop i H) /\
 ∀d,ds[i]?=some d->J.go i H/\∀x H',J.yld i H x H'->∃Hf2,Stp (λ_=>False) Hf' H (λ_=>False) Hf2 H'/\Same Hf2 H'/\Tr Hf2 d x
def MI (K:v9)(wi:TI)(fi:Ev->R (w5)):Prop:=∀(β:Nat->V) (W:Wo) (c:Ev) (σ:St) (k:It->Hp->Prop),Rep K β W c σ ->
 (fi c).sat (λds c'=>∀J W',Stp W.S W.Hf W.H W'.S W'.Hf W'.H->Rep K β W' c' σ->Bc7 J W'.Hf ds->k J W'.H)->wi σ W.H k
noncomputable def forL (g:o7) (body:Ev->SR):w5->Ev->SR
 | [],c=>.nx c
 | d::ds,c=>match g (.o (.im d)) c with
  | .bad=>.bad
  | .ok _ c=>match body c with
   | .nx c=>forL g body ds c
   | .ct c=>forL g body ds c
   | .bk c=>.nx c
   | .rt p c=>.rt p c
   | .bad=>.bad
def Wl (fi:Ev->R (w5))(g:o7)(body:Ev->SR):Ev->SR:=λc=>(fi c).toS λds c=>forL g body ds c
theorem Qe {a:Type}{l:List a} (h:i<l.length):l.drop i=l[i]::l.drop (i+1):=List.drop_eq_getElem_cons h
theorem B1e {V:TS} (hi:MI K X fi) (hg:MG K t g) (hb:MS K V body):MS K (B2r X t V) (Wl fi g body):=by
 intro C W c I D R l
 refine hi C W c I _ R ((Fe l).mono λk c1 l1 J T N R1 it=>?_)
 refine⟨λi m I H=>∃d y,d.H=H/\Rep K C d y I/\m=k.length-i/\i<=k.length/\Same T.Hf d.Hf/\zF K C d D (forL g body (k.drop i) y),⟨_,T,c1,rfl,R1,rfl,aU _,Same.refl _,zF.step l1 N⟩,?_⟩
 rintro i m I H ⟨d,y,rfl,O,rfl,hle,Y,h⟩
 obtain⟨A,Q⟩:=it i d.Hf d.H Y O.sub
 by_cases lt:i<k.length
 ·obtain⟨q1,q2⟩:=Q k[i] (bC lt)
  refine .inr ⟨q1,λM s=>∃d y,d.H=s/\Rep K C d y M/\Same T.Hf d.Hf/\zF K C d D (forL g body (k.drop (i+1)) y),λM s ⟨U,Z,e3,R3,s3,l3⟩=>⟨k.length-(i+1),by lia,U,Z,e3,R3,rfl,by lia,s3,l3⟩,λx s hy=>?_⟩
  obtain⟨n,j,G,tx⟩:=q2 x s hy
  have P:Stp d.S d.Hf d.H (Wo.S ⟨n,s,d.fps⟩) n s:=⟨j.fz,λa o e _=>j.kp a o e λz=>z,λa o e mu _ q=>j.nf a o e mu (λz=>z) q,λa z=>.inl z⟩
  rw[Qe lt]at h;unfold forL at h
  refine hg C ⟨n,s,d.fps⟩ y I (.o (.im _)) x _ _ (j.rep O G) ⟨⟨rfl,tx⟩,λa z=>nomatch z⟩ ?_
  cases eg:g _ _ with
  | bad=>rw[eg]at h;exact h.elim
  | ok u Z =>
   rw[eg]at h;intro σ3 U w S
   have w:=w.up λa z=>by
    rcases z with z | z
    ·exact z
    ·cases z
   have f:=P.trans w;have F := Y.trans f.fz
   refine hb _ _ _ _ _ S ?_
   cases ebd:body _ with
   | nx E=>simp only[ebd]at h;exact λr L b B=>⟨L,E,rfl,B,F.trans b.fz,zF.step h (f.trans b)⟩
   | ct E=>simp only[ebd]at h;exact λr L b B=>⟨L,E,rfl,B,F.trans b.fz,zF.step h (f.trans b)⟩
   | bk E=>simp only[ebd]at h;exact λr L b B=>h _ _ (f.trans b) B
   | rt p E=>simp only[ebd]at h;exact λr v L fp b B r4=>h _ v _ _ (f.trans b) B r4
   | bad=>simp only[ebd]at h;exact h.elim
 ·have e:i=k.length:=by lia
  subst e;rw[i_]at h;exact .inl ⟨A rfl,h _ _ Stp.refl O⟩
def Eg (g:o7)(ft:o_)(fe:n6):w5->w5->Ev->R (w5)
 | [],acc,c=>.ok acc c
 | d::ds,acc,c=>(g (.o (.im d)) c).bind λ_ c=>(ft c).bind λb c=>if b=true then (fe c).bind λp c=>(frz (nrm p) c).bind λy c=>Eg g ft fe ds (acc++[y]) c else Eg g ft fe ds acc c
def cIn (idx:o4)(c:Ev):Ev:=idx.map λo=>o.bind λi=>((c[i]?).join).map (O.flag true)
noncomputable def pairsOf:Nat->o4->p_
 | _,[]=>[]
 | k,none::r=>pairsOf (k+1) r
 | k,some i::r=>(k,i)::pairsOf (k+1) r
def cLC (idx:o4)(fi:Ev->R (w5))(g:o7)(ft:o_)(fe:n6):n6:=λc=>(fi c).bind λds c =>
 if ds.length<=16000000 then match Eg g ft fe ds [] (cIn idx c) with
 | .bad=>.bad
 | .ok acc cI=>match Gj cI (pairsOf 0 idx) c with
  | none=>.bad
  | some c=>.ok (.o (.ls false acc)) c
 else .bad
theorem A9g (h:l+1<=k):k-(l+1)+1=k-l:=by lia
theorem Es {k i:Nat}:∀{l:Nat}{idx:o4},(k,i)∈pairsOf l idx->l<=k/\idx[k-l]?=some (some i)
 | l,[],h=>by cases h
 | l,none::r,h=>by
  obtain⟨q1,q2⟩:=Es (l:=l+1) (idx:=r) h
  refine⟨gG q1,?_⟩
  rw[show k-l=(k-(l+1))+1 from (A9g q1).symm,dI];exact q2
 | l,some j::r,h=>by
  rcases aD.mp (show (k,i)∈(l,j)::pairsOf (l+1) r from h) with e | e
  ·cases e;exact⟨au _,by rw[dq];rfl⟩
  ·obtain⟨q1,q2⟩:=Es (l:=l+1) (idx:=r) e
   refine⟨gG q1,?_⟩
   rw[show k-l=(k-(l+1))+1 from (A9g q1).symm,dI];exact q2
theorem My {k i:Nat}:∀{l:Nat}{idx:o4},idx[k]?=some (some i)->(k+l,i)∈pairsOf l idx
 | l,[],h=>by simp at h
 | l,none::r,h=>by
  cases k with
  | zero=>simp at h
  | succ k =>
   rw[dI]at h;have:=My (l:=l+1) (idx:=r) h
   rw[show k+1+l=k+(l+1) by lia];exact this
 | l,some j::r,h=>by
  cases k with
  | zero=>simp at h;subst h;rw[bh];exact .head _
  | succ k =>
   rw[dI]at h;have:=My (l:=l+1) (idx:=r) h
   rw[show k+1+l=k+(l+1) by lia];exact .tail _ this
theorem Ox:∀{l:Nat}{idx:o4},((pairsOf l idx).map (·.1)).Nodup
 | l,[]=>cX
 | l,none::r=>Ox (l:=l+1) (idx:=r)
 | l,some j::r=>by
  show (l::(pairsOf (l+1) r).map (·.1)).Nodup
  rw[bR]
  refine⟨λh=>?_,Ox⟩
  obtain⟨⟨k,i⟩,h1,h2⟩:=aL.mp h;have:=(Es h1).1;have h2:k=l:=h2;lia
theorem B5i (h:x.join=some o):x=some (some o):=by
 cases x with
 | none=>grind
 | some y=>simp_all
theorem Bi9 {k:Nat} (h:(cIn idx c)[k]?=some (some o)):∃i a,idx[k]?=some (some i)/\c[i]?=some (some a)/\o=a.flag true:=by
 unfold cIn at h;rw[bV]at h;obtain⟨x,e,b⟩:=aO.mp h
 cases x with
 | none=>grind
 | some i =>
  obtain⟨a,f,d⟩:=aO.mp b
  grind
theorem Az0 {k i:Nat} (h1:idx[k]?=some (some i)) (h2:a[i]?=some (some v)):(cst idx a)[k]?=some (some v):=by
 unfold cst
 grind
theorem Bf3 {idx:o4}(R:Rep K β W c σ)(hnd:((pairsOf 0 idx).map (·.2)).Nodup):Lent K W.Hf (pairsOf 0 idx) c σ (λk=>(((cst idx σ)[k]?).join).getD .non) (cIn idx c) (cst idx σ) where
 n1:=Ox
 n2:=hnd
 len:=by unfold cIn cst;rw[ao,ao]
 at_:=λk o h=>by
  obtain⟨i,o',h1,h2,rfl⟩:=Bi9 h;obtain⟨v,e,r,_⟩:=R.get i o' h2;have hs:=Az0 h1 e
  have one:∀j,(k,j)∈pairsOf 0 idx->j=i:=λj hj=>by
   have:=(Es hj).2;rw[fc,h1]at this;cases this;rfl
  have nol:Hk c[i]?=false->∀j,(k,j)∈pairsOf 0 idx->Hk c[j]?=false:=λq j hj=>by rw[one j hj];exact q
  cases o' with
  | im d=>exact .inl ⟨rfl,nol (by rw[h2];rfl),v,hs,r.2⟩
  | sc d=>exact .inl ⟨rfl,nol (by rw[h2];rfl),v,hs,r.2⟩
  | ty d=>exact .inl ⟨rfl,nol (by rw[h2];rfl),v,hs,r.2⟩
  | ls b ds=>exact .inr ⟨i,b,ds,v,My (l:=0) h1,h2,rfl,e,hs,by rw[hs];rfl⟩
theorem Bq8 (hnd:((pairsOf 0 idx).map (·.2)).Nodup) (hg:MG K t g) (ht:MT K tc ft) (he:ME K te fe)
 (st1:Stp W.S W.Hf W.H W1.S W1.Hf W1.H) (R1:Rep K β W1 c1 σ)
 (it:∀(i:Nat) (h:Wo),Stp (Wo.S ⟨W1.Hf,W1.H,Rr (pairsOf 0 idx) c1 W1.fps⟩) W1.Hf W1.H h.S h.Hf h.H->Same h.Hf h.H->(i=ds.length->J.stop i h.H) /\
  ∀d,ds[i]?=some d->J.go i h.H/\∀x E,J.yld i h.H x E->∃s,Stp (λ_=>False) h.Hf h.H (λ_=>False) s E/\Same s E/\Tr s d x)
 (s1:(if ds.length<=16000000 then match Eg g ft fe ds [] (cIn idx c1) with
  | .bad=>.bad
  | .ok f I=>match Gj I (pairsOf 0 idx) c1 with
   | none=>.bad
   | some c=>.ok (.o (.ls false f)) c
  else .bad:R PV).sat λp c'=>∀v j w,Stp W.S W.Hf W.H (orS j.S w) j.Hf j.H->Rep K β j c' σ->Dh K j σ p v w->Q v j.H):tLC idx (λ_ H k=>k J H) t tc te σ W1.H Q:=by
 unfold tLC
 dsimp only
 by_cases hl:ds.length<=16000000
 ·rw[if_pos hl]at s1
  have L:=Bf3 (idx:=idx) R1 hnd
  let C:Nat->V:=λk=>(((cst idx σ)[k]?).join).getD .non
  let F:Wo:=⟨W1.Hf,W1.H,Rr (pairsOf 0 idx) c1 W1.fps⟩
  let B:U.R (w5)->Prop:=λr=>match r with
   | .bad=>False
   | .ok f I=>match Gj I (pairsOf 0 idx) c1 with
    | none=>False
    | some c=>∀v j w,Stp W.S W.Hf W.H (orS j.S w) j.Hf j.H->Rep K β j c σ->Dh K j σ (.o (.ls false f)) v w->Q v j.H
  have s2:B (Eg g ft fe ds [] (cIn idx c1)):=by
   show match Eg g ft fe ds [] (cIn idx c1) with
    | .bad=>False
    | .ok f I=>match Gj I (pairsOf 0 idx) c1 with
     | none=>False
     | some c=>∀v j w,Stp W.S W.Hf W.H (orS j.S w) j.Hf j.H->Rep K β j c σ->Dh K j σ (.o (.ls false f)) v w->Q v j.H
   cases e1:Eg g ft fe ds [] (cIn idx c1) with
   | bad=>rw[e1]at s1;exact s1.elim
   | ok f I =>
    simp only[e1]at s1
    show match Gj I (pairsOf 0 idx) c1 with
     | none=>False
     | some c=>∀v j w,Stp W.S W.Hf W.H (orS j.S w) j.Hf j.H->Rep K β j c σ->Dh K j σ (.o (.ls false f)) v w->Q v j.H
    cases e2:Gj I (pairsOf 0 idx) c1 with
    | none=>simp only[e2]at s1;exact s1.elim
    | some D=>simp only[e2]at s1;exact s1
  refine⟨λi m A S H=>∃h D f,h.H=H/\Rep K C h D A/\m=ds.length-i/\i<=ds.length/\S.length<=i/\Stp F.S F.Hf F.H h.S h.Hf h.H/\TrL h.Hf f S/\B (Eg g ft fe (ds.drop i) f D),
   ⟨_,F,cIn idx c1,[],rfl,(L.rep R1),rfl,aU _,au _,Stp.refl,rfl,s2⟩,?_⟩
  rintro i m A S H ⟨h,D,f,rfl,R2,rfl,hle,hvs,N,ta,l⟩
  obtain⟨P,hgo⟩:=it i h N R2.sub
  by_cases lt:i<ds.length
  ·obtain⟨q1,q2⟩:=hgo ds[i] (bC lt)
   refine .inr ⟨q1,aP (cH hvs (aP lt hl)) (by decide),λA S E=>∃h D f,h.H=E/\Rep K C h D A/\S.length<=i+1/\Stp F.S F.Hf F.H h.S h.Hf h.H/\TrL h.Hf f S/\B (Eg g ft fe (ds.drop (i+1)) f D),
    λA acc' E ⟨O,X,Y,e3,R3,h3,n,t3,f3⟩=>⟨ds.length-(i+1),by lia,O,X,Y,e3,R3,rfl,by lia,h3,n,t3,f3⟩,λx E hy=>?_⟩
   obtain⟨s,n,sub3,tx⟩:=q2 x E hy
   have stx:Stp h.S h.Hf h.H (Wo.S ⟨s,E,h.fps⟩) s E:=⟨n.fz,λa o e _=>n.kp a o e λz=>z,λa o e mu _ q=>n.nf a o e mu (λz=>z) q,λa z=>.inl z⟩
   rw[Qe lt]at l;unfold Eg at l
   refine hg C ⟨s,E,h.fps⟩ D A (.o (.im ds[i])) x [] _ (n.rep R2 sub3) ⟨⟨rfl,tx⟩,λa z=>nomatch z⟩ ?_
   cases eg:g (.o (.im ds[i])) D with
   | bad=>rw[eg]at l;exact l.elim
   | ok u X =>
    rw[eg]at l
    have l:B ((ft X).bind λb c=>if b=true then (fe c).bind λp c=>(frz (nrm p) c).bind λy c=>Eg g ft fe (ds.drop (i+1)) (f++[y]) c else Eg g ft fe (ds.drop (i+1)) f c):=l
    intro σ3 O G R4
    have G:=G.up (S2:=h.S) λa z=>by
     rcases z with z | z
     ·exact z
     ·cases z
    refine ht C O X σ3 _ R4 ?_
    cases et:ft X with
    | bad=>rw[et]at l;exact l.elim
    | ok b c4 =>
     rw[et]at l;intro T st5 R5;have M:Stp F.S F.Hf F.H T.S T.Hf T.H:=N.trans (stx.trans (G.trans st5));have Z:TrL T.Hf f S:=TrL.same (stx.trans (G.trans st5)).fz ta
     cases b with
     | false=>rw[if_neg (by decide)];exact⟨T,c4,f,rfl,R5,by lia,M,Z,l⟩
     | true =>
      rw[if_pos rfl]
      have l:B ((fe c4).bind λp c=>(frz (nrm p) c).bind λy c=>Eg g ft fe (ds.drop (i+1)) (f++[y]) c):=l
      refine he.toV C T c4 σ3 _ R5 ?_
      cases ee:fe c4 with
      | bad=>rw[ee]at l;exact l.elim
      | ok p c5 =>
       rw[ee]at l
       have l:B ((frz (nrm p) c5).bind λy c=>Eg g ft fe (ds.drop (i+1)) (f++[y]) c):=l
       intro y W5 st6 R6 r6
       have fz:(frz (nrm p) c5).sat λ_ _=>True:=by
        cases ef:frz (nrm p) c5 with
        | bad=>rw[ef]at l;exact l.elim
        | ok d c=>trivial
       obtain⟨d,c6,W6,e6,_,eH,st7,R7,t7⟩:=Gz R6 r6 fz;rw[e6]at l
       refine⟨W6,c6,f++[d],eH,R7,by rw[aM,gH];lia,M.trans (st6.trans st7),(TrL.same (st6.trans st7).fz Z).app (TrL.one t7),l⟩
  ·have e:i=ds.length:=by lia
   subst e;rw[i_]at l
   refine .inl ⟨P rfl,λp hp=>?_⟩
   have l:match Gj D (pairsOf 0 idx) c1 with
    | none=>False
    | some c=>∀v j w,Stp W.S W.Hf W.H (orS _ _) _ _->Rep K _ j c _->Dh K _ _ _ v _->Q v _:=l
   cases eb:Gj D (pairsOf 0 idx) c1 with
   | none=>simp only[eb]at l
   | some cO =>
    simp only[eb]at l
    obtain⟨O,e1,e2,R3,n,_⟩:=L.back (fp:=[]) R1 R2 (N.less λa z=>by
     rcases z with z | z
     ·exact z
     ·cases z) eb (λk i b ds v hm _ hv=>by
      have:=(Es hm).2;rw[fc]at this
      rw[Az0 this hv];rfl) λa z=>nomatch z
    have n:Stp W1.S W1.Hf W1.H O.S O.Hf O.H:=by
     rw[e1,e2];exact n.less λa z=>.inl z
    rw[<- e2]at hp ⊢
    exact New.lst (New.of R3 λv j w st R' rp=>l v _ _ (st1.trans (n.trans st)) R' rp) R3.sub (by rw[e1];exact ta) hp
 ·rw[if_neg hl]at s1;exact s1.elim
theorem A9p (d:((pairsOf 0 idx).map (·.2)).Nodup) (hi:MI K f fi) (hg:MG K t g) (ht:MT K h ft) (he:ME K j fe) :
 ME K (tLC idx f t h j) (cLC idx fi g ft fe):=by
 intro n W c o Q R s
 refine hi _ W c _ _ R (s.bnd.mono λq p l J u a k m=>?_)
 exact Bq8 d hg ht he a k (λi r e b=>m i _ _ e.fz b) l
end
inductive FR where
 | ret (o:O) (as:List O)
 | bad
abbrev n_:=List O->FR
noncomputable def resolve (p:PV) (c:Ev):Option (O×Ev):=match p with
 | .o (.ls _ ds)=>some (.ls false ds,c)
 | .o o=>some (o,c)
 | .sl i=>match c[i]? with
  | some (some (.ls false ds))=>some (.ls false ds,c.set i none)
  | some (some (.im d))=>some (.im d,c)
  | _=>none
noncomputable def Hd:List O->Ev->Option (List O)
 | [],_=>some []
 | .ls true _::r,some (.ls true ds)::c=>(Hd r c).map (.ls true ds::·)
 | .ls _ _::_,_=>none
 | o::r,_::c=>(Hd r c).map (o::·)
 | _::_,[]=>none
def A1w (as:List O)(p:PV)(c:Ev):FR:=match resolve p c with
 | none=>.bad
 | some (o,c)=>match Hd as c with
  | none=>.bad
  | some as'=>.ret o as'
def Ec (n N:Nat)(body:Ev->SR):n_:=λas=>if as.length=n then match body (as.map some++List.replicate (N-n) none) with
 | .nx c=>A1w as (.o (.im .none)) c
 | .rt p c=>A1w as p c
 | _=>.bad
 else .bad
def spP (K:v9)(F:n_):Sp:=λvs H Q _=>∃(β:Nat->V) (W:Wo) (as:List O),W.H=H/\as.length=vs.length/\Rep K β W (as.map some) (vs.map some)/\match F as with
 | .bad=>False
 | .ret o as'=>∀v W' fp,Stp W.S W.Hf W.H (orS W'.S fp) W'.Hf W'.H->Rep K β W' (as'.map some) (vs.map some)->RepO K W'.Hf W'.H o v fp->(∀a∈fp,¬ W'.S a)->Q v W'.H
section
variable {K:v9}{β:Nat->V}{W W':Wo}{c c' cO:Ev}{σ:St}{D:Ends}{Hf H:Hp}{o:O}{v:V}{fp:v6}
theorem Og:∀{as:List O}{c:Ev}{as':List O},Hd as c=some as'->as'.length=as.length/\∀(i:Nat) (o':O),as'[i]?=some o'->(o'.own=false/\as[i]?=some o')\/(∃ds ds',o'=.ls true ds'/\as[i]?=some (.ls true ds)/\c[i]?=some (some (.ls true ds')))
 | [],c,as',e=>by cases (show some []=some as' from e);exact⟨rfl,λi o' h=>by simp at h⟩
 | o::r,[],as',e=>by
  cases o with
  | ls b ds=>cases b <;> cases e
  | im d=>cases e
  | sc d=>cases e
  | ty d=>cases e
 | o::r,x::c,as',e=>by
  have go:∀o1:O,(Hd r c).map (o1::·)=some as'->((o1.own=false/\o1=o)\/(∃ds ds',o1=.ls true ds'/\o=.ls true ds/\x=some (.ls true ds'))) ->
   as'.length=(o::r).length/\∀(i:Nat) (o':O),as'[i]?=some o'->(o'.own=false/\(o::r)[i]?=some o')\/(∃ds ds',o'=.ls true ds'/\(o::r)[i]?=some (.ls true ds)/\(x::c)[i]?=some (some (.ls true ds'))):=λo1 e1 h1=>by
   obtain⟨t,e2,rfl⟩:=aO.mp e1;obtain⟨l,g⟩:=Og e2
   refine⟨by rw[aR,aR,l],λi o' h=>?_⟩
   cases i with
   | zero =>
    cases (show some o1=some o' from h)
    rcases h1 with ⟨z1,z2⟩ | ⟨ds,ds',z1,z2,z3⟩
    ·exact .inl ⟨z1,by rw[z2];rfl⟩
    ·exact .inr ⟨ds,ds',z1,by rw[z2];rfl,by rw[z3];rfl⟩
   | succ i=>exact g i o' (by simpa using h)
  cases o with
  | ls b ds =>
   cases b with
   | false=>cases e
   | true =>
    match x,e with
    | some (.ls true ds'),e=>exact go (.ls true ds') e (.inr ⟨ds,ds',rfl,rfl,rfl⟩)
    | some (.ls false ds'),e=>cases e
    | some (.im _),e=>cases e
    | some (.sc _),e=>cases e
    | some (.ty _),e=>cases e
    | none,e=>cases e
  | im d=>exact go (.im d) e (.inl ⟨rfl,rfl⟩)
  | sc d=>exact go (.sc d) e (.inl ⟨rfl,rfl⟩)
  | ty d=>exact go (.ty d) e (.inl ⟨rfl,rfl⟩)
theorem Nq (R:Rep K β W c σ) (r:Dh K W σ p v fp) (e:resolve p c=some (o,c')) :
 ∃W2 fp2,W2.Hf=W.Hf/\W2.H=W.H/\Rep K β W2 c' σ/\RepO K W2.Hf W2.H o v fp2/\(∀a∈fp2,¬ W2.S a)/\∀a,orS W2.S fp2 a->orS W.S fp a:=by
 cases p with
 | o f =>
  have g:o=f.flag false/\c'=c:=by
   cases f with
   | ls b h=>cases e;exact⟨rfl,rfl⟩
   | im d=>cases e;exact⟨rfl,rfl⟩
   | sc d=>cases e;exact⟨rfl,rfl⟩
   | ty d=>cases e;exact⟨rfl,rfl⟩
  obtain⟨rfl,rfl⟩:=g
  refine⟨W,fp,rfl,rfl,R,?_,r.2,λa z=>z⟩
  cases f with
  | ls b h=>exact r.1
  | im d=>exact r.1
  | sc d=>exact r.1
  | ty d=>exact r.1
 | sl i =>
  obtain⟨rfl,n⟩:=r;unfold resolve at e
  cases ec:c[i]? with
  | none=>simp_all
  | some x =>
   cases x with
   | none=>grind
   | some f =>
    obtain⟨v',g,k,_⟩:=R.get i _ ec
    cases (show some _=some _ from g.symm.trans n)
    cases f with
    | sc d=>simp_all
    | ty d=>simp_all
    | im d =>
     simp only[ec]at e
     cases e
     exact⟨W,[],rfl,rfl,R,⟨rfl,k.2⟩,(λa z=>by cases z),λa z=>z⟩
    | ls b h =>
     cases b with
     | true=>simp_all
     | false =>
      simp only[ec]at e
      cases e
      refine⟨⟨W.Hf,W.H,clr _ i⟩,W.fps i,rfl,rfl,R.drop i,k,λa q ⟨j,m⟩=>?_,λa z=>?_⟩
      ·obtain⟨s,l⟩:=Dk m
       exact l (R.dis j i a s q)
      ·rcases z with z | z
       ·exact .inl (B2i z)
       ·exact .inl ⟨i,z⟩
theorem Ia {b a:Type}{l:List b}{f:b->a}{i:Nat}{y:a}(h:(l.map f)[i]?=some y):∃x,l[i]?=some x/\f x=y:=by
 grind
theorem A4k {vs:m7} (t:Rep K β z (p.map some) (vs.map some)) (R:Rep K β W c σ) (S:Same z.Hf W.Hf) (e:Hd p c=some k) :
 ∃W2:Wo,W2.Hf=W.Hf/\W2.H=W.H/\Rep K β W2 (k.map some) (vs.map some)/\∀a,W2.S a->W.S a:=by
 obtain⟨E,G⟩:=Og e
 let f:Nat->v6:=λi=>if Hk ((k.map some)[i]?) then W.fps i else []
 have g:∀i a,a∈f i->a∈W.fps i:=λi a h=>by
  grind
 have m:p.length=vs.length:=by have:=t.len;rwa [ao,ao]at this
 refine⟨⟨W.Hf,W.H,f⟩,rfl,rfl,⟨R.sub,by rw[ao,ao,E,m],λi o h=>?_,λi j a u w=>R.dis i j a (g i a u) (g j a w),λi a h=>R.own i a (g i a h)⟩,λa ⟨i,h⟩=>⟨i,g i a h⟩⟩
 obtain⟨o',u,w⟩:=Ia h
 cases w
 rcases G i o u with ⟨n,q⟩ | ⟨A,C,rfl,J,D⟩
 ·obtain⟨v,s,r,_⟩:=t.get i o (by rw[bV,q];rfl)
  have x:f i=[]:=by
   show (if Hk _ then W.fps i else [])=[]
   rw[h]
   cases o with
   | ls b A=>exact nomatch n
   | im d=>rfl
   | sc d=>rfl
   | ty d=>rfl
  refine⟨v,s,?_,?_⟩
  ·show RepO K W.Hf W.H o v (f i)
   rw[x]
   cases o with
   | ls b A=>exact nomatch n
   | im d=>exact⟨rfl,RepN.same S r.2⟩
   | sc d=>exact⟨rfl,RepN.same S r.2⟩
   | ty d=>exact⟨rfl,RepN.same S r.2⟩
  grind
 ·obtain⟨v,s,r,B⟩:=t.get i _ (by rw[bV,J];rfl)
  obtain⟨H,F,I,y⟩:=R.get i _ D;have l:=y rfl;rw[<- (B rfl)]at l;subst l
  refine⟨H,s,?_,B⟩
  have x:f i=W.fps i:=by
   show (if Hk _ then W.fps i else [])=_
   rw[h];rfl
  show RepO K _ _ _ _ (f i)
  rw[x];exact I
theorem Bx7 (h:MS K T body) (hs:spP K (Ec n N.length body) vs H Q E):T { nx:=λ_ H'=>Q .non H',rt:=Q } (start N vs) H:=by
 obtain⟨u,W,j,rfl,B,m,b⟩:=hs;unfold Ec at b
 by_cases hn:j.length=n
 ·rw[if_pos hn]at b
  let D:Ev:=j.map some++List.replicate (N.length-n) none
  have R:Rep K u W D (start N vs):=by
   refine⟨m.sub,?_,λi o e=>?_,m.dis,m.own⟩
   ·show (j.map some++List.replicate (N.length-n) none).length=(vs.map some++List.replicate (N.length-vs.length) none).length
    rw[aM,aM,ao,ao,j0,j0,<- B,hn]
   ·have e:(j.map some++List.replicate (N.length-n) none)[i]?=some (some o):=e
    by_cases li:i<j.length
    ·rw[dw (by rw[ao];exact li)]at e
     obtain⟨v,w,r⟩:=m.get i o e
     refine⟨v,?_,r⟩
     show (vs.map some++List.replicate (N.length-vs.length) none)[i]?=_
     rw[dw (by rw[ao,<- B];exact li)];exact w
    ·rw[dz (by rw[ao];exact jl li),List.getElem?_replicate]at e
     split at e <;> cases e
  refine h u W D (start N vs) _ R ?_
  have l:∀p f c v d g,(match A1w j p f with
   | .bad=>False
   | .ret o t=>∀v W' g,Stp W.S W.Hf W.H (orS W'.S g) W'.Hf W'.H->Rep K u W' (t.map some) (vs.map some)->RepO K W'.Hf W'.H o v g->(∀a∈g,¬ W'.S a)->Q v W'.H) ->
   Stp W.S W.Hf W.H (orS d.S g) d.Hf d.H->Rep K u d f c->Dh K d c p v g->Q v d.H:=λp f c v d g b k s x=>by
   unfold A1w at b
   cases er:resolve p f with
   | none=>simp only[er]at b
   | some q =>
    obtain⟨o,U⟩:=q;simp only[er]at b
    cases ea:Hd j U with
    | none=>simp only[ea]at b
    | some t =>
     simp only[ea]at b;obtain⟨W2,S,w,C,I,J,L,M⟩:=Nq s x er
     obtain⟨O,A,y,P,F⟩:=A4k m I (by rw[w];exact k.fz) ea
     rw[show d.H=O.H by rw[y,C]]
     refine b v _ _ ?_ P (by rw[A,y];exact J) λa G z=>L a G (F a z)
     rw[A,y,w,C]
     exact k.less λa z=>M a (by
      rcases z with z | z
      ·exact .inl (F a z)
      ·exact .inr z)
  cases eb:body _ with
  | nx f =>
   rw[show body _=.nx _ from eb]at b
   exact λc d k s=>l _ _ _ _ _ _ b (k.less λa z=>by
    rcases z with z | z
    ·exact z
    ·cases z) s ⟨⟨rfl,rfl⟩,λa z=>nomatch z⟩
  | rt p f =>
   rw[show body _=.rt p _ from eb]at b
   exact λc v d g k s x=>l p _ _ v _ _ b k s x
  | bk f=>rw[show body _=.bk _ from eb]at b;exact b.elim
  | ct f=>rw[show body _=.ct _ from eb]at b;exact b.elim
  | bad=>rw[show body _=.bad from eb]at b;exact b.elim
 ·rw[if_neg hn]at b;exact b.elim
theorem Bz0 (hs:spP K (Ec n N body) vs H Q E):vs.length=n:=by
 obtain⟨d,W,c,b,e,f,a⟩:=hs;unfold Ec at a
 grind
def Xx (c:Ev):List PV->Option (List O)
 | []=>some []
 | .o o::r=>(Xx c r).map (o::·)
 | .sl i::r=>match c[i]? with
  | some (some o)=>(Xx c r).map (o.flag true::·)
  | _=>none
noncomputable def slots:List PV->o4
 | []=>[]
 | .o _::r=>none::slots r
 | .sl i::r=>some i::slots r
noncomputable def ndB:List Nat->Bool
 | []=>true
 | x::r=>!r.contains x&&ndB r
theorem A4n:∀{l:List Nat},ndB l=true->l.Nodup
 | [],_=>cX
 | x::r,h=>by
  obtain⟨h1,h2⟩:=az.mp (show (!r.contains x&&ndB r)=true from h)
  rw[bR]
  exact⟨λz=>by simp[z]at h1,A4n h2⟩
def Ti (F:n_)(ps:List PV)(c:Ev):R PV:=match Xx c ps with
 | none=>.bad
 | some as=>if ndB ((pairsOf 0 (slots ps)).map (·.2))=true then match F as with
  | .bad=>.bad
  | .ret o as'=>match Gj (as'.map some) (pairsOf 0 (slots ps)) c with
   | none=>.bad
   | some c=>.ok (.o o) c
  else .bad
def cF (F:n_)(fa:o9):n6:=λc=>(fa c).bind λps c=>Ti F ps c
theorem Vr {Hf:Hp}:∀{ps:List PV}{vs:m7}{as:List O},Xx c ps=some as->zL K Hf σ ps vs->as.length=vs.length/\∀(k:Nat) (o:O),as[k]?=some o->∃v,vs[k]?=some v /\
 ((RepN K Hf o v/\(slots ps)[k]?=some none)\/∃i o',(slots ps)[k]?=some (some i)/\c[i]?=some (some o')/\o=o'.flag true/\σ[i]?=some (some v))
 | [],vs,as,e,h=>by cases (show some []=some as from e);cases (show vs=[] from h);exact⟨rfl,λk o h=>by simp at h⟩
 | .o o1::r,_,as,e,⟨v,vr,rfl,h,t⟩=>by
  obtain⟨l,e2,rfl⟩:=aO.mp (show (Xx c r).map (o1::·)=some as from e)
  obtain⟨hl,hg⟩:=Vr e2 t
  refine⟨by rw[aR,aR,hl],λk o hk=>?_⟩
  cases k with
  | zero=>cases (show some o1=some o from hk);exact⟨v,rfl,.inl ⟨h,rfl⟩⟩
  | succ k=>exact hg k o (by simpa using hk)
 | .sl i::r,_,as,e,⟨v,vr,rfl,h,t⟩=>by
  unfold Xx at e
  cases ec:c[i]? with
  | none=>simp only[ec]at e;cases e
  | some x =>
   cases x with
   | none=>simp only[ec]at e;cases e
   | some o1 =>
    simp only[ec]at e;obtain⟨l,e2,rfl⟩:=aO.mp e;obtain⟨hl,hg⟩:=Vr e2 t
    refine⟨by rw[aR,aR,hl],λk o hk=>?_⟩
    cases k with
    | zero=>cases (show some (o1.flag true)=some o from hk);exact⟨v,rfl,.inr ⟨i,o1,rfl,ec,rfl,h⟩⟩
    | succ k=>exact hg k o (by simpa using hk)
theorem Qt {Hf:Hp}:∀{ps:List PV}{vs:m7}{k i:Nat}{v:V},zL K Hf σ ps vs->(slots ps)[k]?=some (some i)->σ[i]?=some (some v)->vs[k]?=some v
 | [],vs,k,i,v,h,e,q=>by simp[slots]at e
 | .o _::r,_,k,i,v,⟨v1,vr,rfl,h,t⟩,e,q=>by
  cases k with
  | zero=>simp[slots]at e
  | succ k=>have:=Qt (k:=k) t (by simpa[slots] using e) q;simpa using this
 | .sl j::r,_,k,i,v,⟨v1,vr,rfl,h,t⟩,e,q=>by
  cases k with
  | zero =>
   have:j=i:=by simpa[slots] using e
   subst this
   cases (show some (some v1)=some (some v) from (show σ[j]?=some (some v1) from h).symm.trans q)
   rfl
  | succ k=>have:=Qt (k:=k) t (by simpa[slots] using e) q;simpa using this
theorem As2 (g:Rep K β W1 c1 σ) (R:zL K W1.Hf σ ps vs)
 (s1:(Ti F ps c1).sat λp c'=>∀v e y,Stp W1.S W1.Hf W1.H (orS e.S y) e.Hf e.H->Rep K β e c' σ->Dh K e σ p v y->(∀j a,a∈W1.fps j->some j∉slots ps->e.H a=W1.H a)->Q v e.H):spP K F (vs++[]) W1.H Q E:=by
 unfold Ti at s1
 cases ea:Xx c1 ps with
 | none=>simp only[ea]at s1;exact s1.elim
 | some M =>
  simp only[ea]at s1
  by_cases nd:ndB ((pairsOf 0 (slots ps)).map (·.2))=true
  ·rw[if_pos nd]at s1
   obtain⟨P,hg⟩:=Vr ea R
   let m:=pairsOf 0 (slots ps)
   let l:Nat->V:=λk=>(vs[k]?).getD .non
   have L:Lent K W1.Hf m c1 σ l (M.map some) (vs.map some):=by
    refine⟨Ox,A4n nd,by rw[ao,ao];exact P,λk o B=>?_⟩
    obtain⟨o1,T,h2⟩:=Ia B
    cases h2
    obtain⟨v,u,q⟩:=hg k o T
    have c:(vs.map some)[k]?=some (some v):=by rw[bV,u];rfl
    rcases q with ⟨I,t⟩ | ⟨i,H,t,n,rfl,G⟩
    ·refine .inl ⟨?_,λi Z=>?_,v,c,I⟩
     ·cases o with
      | ls b D=>exact I.elim
      | im d=>rfl
      | sc d=>rfl
      | ty d=>rfl
     ·have:=(Es Z).2
      rw[fc,t]at this;cases this
    ·have f:Hk c1[i]?=false->∀j,(k,j)∈m->Hk c1[j]?=false:=λq j z=>by
      have:=(Es z).2;rw[fc,t]at this;cases this;exact q
     obtain⟨v',w,r,_⟩:=g.get i H n
     cases (show some _=some _ from w.symm.trans G)
     cases H with
     | im d=>exact .inl ⟨rfl,f (by rw[n];rfl),v,c,r.2⟩
     | sc d=>exact .inl ⟨rfl,f (by rw[n];rfl),v,c,r.2⟩
     | ty d=>exact .inl ⟨rfl,f (by rw[n];rfl),v,c,r.2⟩
     | ls b D=>exact .inr ⟨i,b,D,v,My t,n,rfl,G,c,by show vs[k]?.getD _=v;rw[u];rfl⟩
   refine⟨l,⟨W1.Hf,W1.H,Rr m _ _⟩,M,rfl,by rw[cG];exact P,by rw[cG];exact(L.rep g),?_⟩
   cases ef:F _ with
   | bad=>simp only[ef]at s1;exact s1.elim
   | ret o A =>
    simp only[ef]at s1;intro v e y J U W X
    cases eb:Gj (A.map some) m c1 with
    | none=>simp only[m]at eb;simp only[eb]at s1;exact s1.elim
    | some cO =>
     have h:=eb;simp only[m]at h;simp only[h]at s1
     obtain⟨W2,w,x,R2,C,Y⟩:=L.back g U J eb (λk i b D v hm hc u=>by
      have:=(Es hm).2;rw[fc]at this
      show vs[k]?.getD _=v
      rw[Qt R this u];rfl) X
     rw[<- x]
     refine s1 v _ _ (by rw[w,x];exact C) R2 ⟨by rw[w,x];exact W,Y⟩ λj a N z=>?_
     obtain⟨_,ob,s,_⟩:=g.own j a N;rw[x,s]
     refine J.kp a _ s λ⟨k,B⟩=>z ?_
     obtain⟨i,q1,_,S⟩:=Gd B
     cases g.dis i j a S N
     have:=(Es q1).2;exact bf this
  ·rw[if_neg nd]at s1;exact s1.elim
theorem Xi (d:Rep K β W1 c1 σ) (e:zL K W1.Hf σ ps vs)
 (s1:(Ti F ps c1).sat λp c'=>∀v a b,Stp W1.S W1.Hf W1.H (orS a.S b) a.Hf a.H->Rep K β a c' σ->Dh K a σ p v b->Q v a.H):spP K F (vs++[]) W1.H Q E :=
 As2 d e (s1.mono λp c' k v a b c R r _=>k v _ _ c R r)
theorem Sw (ha:MA K t fa):ME K (Us (spP K F) [] E t) (cF F fa):=by
 intro j W c h Q R s
 refine ha _ W c _ _ R (s.bnd.mono λl m f u i a e d=>?_)
 exact Xi e d (f.mono λp n k v o q g b r=>k v _ _ (a.trans g) b r)
end
section
variable {K:v9}{X:Cx}{Hf H:Hp}{Q:VK}
theorem OpR.or (h:OpR X f r) (h':OpR X f b):OpR X f (λx y H Q=>r x y H Q\/b x y H Q):=by
 intro c s e H x y v u Q I d a q
 rcases q with q | q
 ·exact h _ s _ H x y v u Q I d a q
 ·exact h' _ s _ H x y v u Q I d a q
theorem CallR.or (h:CallR X f r) (h':CallR X f b):CallR X f (λxs H Q=>r xs H Q\/b xs H Q):=by
 intro c s d H xs e Q I a q
 rcases q with q | q
 ·exact h _ s _ H _ _ Q I a q
 ·exact h' _ s _ H _ _ Q I a q
theorem Dm (h:RdV Hf H (.int i) v):v=.int i:=h
theorem Fy (h:RdV Hf H (.str x) v):v=.str x:=h
theorem O9 (h:RdV Hf H (.bool b) v):v=.bl b:=h
theorem Ou (h:RdV Hf H .none v):v=.non:=h
theorem Hh (s:Same Hf H) (h:RdV Hf H (.tuple ds) v):∃a b,v=.ref a/\H a=some (.tup b)/\TrL Hf ds b:=by
 obtain⟨a,b,e,q,t⟩:=(show Tr _ _ v from h)
 exact⟨a,b,e,s _ _ q,t⟩
theorem El (h:RdV Hf H (.list ds) v):∃a vs,v=.ref a/\H a=some (.lst vs)/\TrL Hf ds vs:=h
theorem New.int (h:New K Hf H (.im (.int i)) Q) (s:Same Hf H):Q (.int i) H:=h.same s rfl
theorem New.bl (h:New K Hf H (.im (.bool b)) Q) (s:Same Hf H):Q (.bl b) H:=h.same s rfl
theorem New.str (h:New K Hf H (.im (.str x)) Q) (s:Same Hf H):Q (.str x) H:=h.same s rfl
theorem New.tupS (h:New K Hf H (.im (.tuple ds)) Q) (s:Same Hf H) (t:TrL Hf ds vs) (S:Same H H') (hp:H' p=some (.tup vs)):Q (.ref p) H':=by
 have c:Same _ (upd Hf p (.tup vs)):=λb u e=>by
  unfold upd
  split
  ·have:=S b u (s b u e)
   simp_all
  grind
 refine h _ _ _ [] ⟨c,λa o e _=>S a o e,λa o e d _ q=>?_,λa z=>nomatch z⟩ (λb u e=>?_) ⟨rfl,p,vs,rfl,Am,TrL.same c t⟩
 ·unfold upd
  split
  ·rename_i z
   have:=S a o e;rw[z,hp]at this
   cases this
   trivial
  lia
 ·unfold upd at e
  split at e
  ·simp_all
  ·exact S b u (s b u e)
def Bu2:R2:=λx y H Q=>(rI0 (λi j=>.int (i+j)) x y H Q\/(∃i j,x=.str i/\y=.str j/\i.length+j.length<=sizeLine/\Q (.str (i++j)) H))\/(B3t x y H Q\/Bt2 x y H Q)
theorem Bv5:OpR X (binaryOp .Add) Bu2:=OpR.or (OpR.or Bx9 Ak7) (OpR.or B2u Bg2)
noncomputable def Ck:t_->t_->m6
 | .int i,.int j=>some (.im (.int (i+j)))
 | .str a,.str b=>if a.length+b.length<=16000000 then some (.im (.str (a++b))) else none
 | .list a,.list b=>if a.length+b.length<=16000000 then some (.ls false (a++b)) else none
 | .tuple a,.tuple b=>if a.length+b.length<=16000000 then some (.im (.tuple (a++b))) else none
 | _,_=>none
theorem lim (h:n<=16000000):n<=sizeLine:=aq h (by decide)
theorem J8:OpS K Bu2 Ck:=by
 intro C H x y A B o Q s g f e n;unfold Ck at e
 split at e
 ·rename_i i j
  cases e
  exact .inl (.inl ⟨i,j,Dm g,Dm f,n.int s⟩)
 ·rename_i a b
  split at e
  ·rename_i l
   cases e
   exact .inl (.inr ⟨a,b,Fy g,Fy f,lim l,n.str s⟩)
  ·cases e
 ·have e := e
  split at e
  ·rename_i l
   cases e
   obtain⟨p,v,k,h,d⟩:=El g;obtain⟨q,t,u,m,c⟩:=El f
   exact .inr (.inl ⟨p,q,v,t,k,u,h,m,by rw[<- d.length,<- c.length];exact lim l,λr w=>n.lst s (d.app c) w⟩)
  ·cases e
 ·have e := e
  split at e
  ·rename_i l
   cases e
   obtain⟨p,v,k,h,d⟩:=Hh s g;obtain⟨q,t,u,m,c⟩:=Hh s f
   exact .inr (.inr ⟨p,q,v,t,k,u,h,m,by rw[<- d.length,<- c.length];exact lim l,λr z S w=>n.tupS s (d.app c) S w⟩)
  ·cases e
 ·cases e
noncomputable def opI (C:Int->Int->Bool) (g:Int->Int->Int):t_->t_->m6
 | .int i,.int j=>if C i j then some (.im (.int (g i j))) else none
 | _,_=>none
theorem Av4 (hc:∀i j,C i j=true->a i j):OpS K (rI a λi j=>.int (g i j)) (opI C g):=by
 intro d H x y h f o Q s c b e n;unfold opI at e
 split at e
 ·rename_i i j
  split at e
  ·rename_i l
   cases e
   exact⟨i,j,Dm c,Dm b,hc i j l,n.int s⟩
  trivial
 grind
noncomputable def V9 (g:Int->Int->t_):t_->t_->m6
 | .int i,.int j=>some (.im (g i j))
 | _,_=>none
theorem Aa0 (hg:∀i j H,Tr H (g i j) (g' i j)):OpS K (rI0 g') (V9 g):=by
 intro c H x y f d o Q s a b e n;unfold V9 at e
 split at e
 ·rename_i i j
  cases e
  exact⟨i,j,Dm a,Dm b,n.same s (hg i j _)⟩
 trivial
noncomputable def Vq (i j:Int):Bool:=(decide (-(2 ^ 64)<i)&&decide (i<2 ^ 64))||(decide (-(2 ^ 64)<j)&&decide (j<2 ^ 64))
noncomputable def Bu (d:t_):Bool:=d.canLay0&&decide (d.depth<=40)
theorem Eu (h:Bu d=true):Flat d:=by
 obtain⟨b,a⟩:=az.mp h;exact⟨b,aX a⟩
noncomputable def Ss:t_->t_->Bool
 | .str _,.str _=>true
 | _,_=>false
def Bk (neg:Bool)(a b:t_):m6:=if (Bu a&&Bu b)||Ss a b then some (.im (.bool (if neg then !PyData.eqv a b else PyData.eqv a b))) else none
def rEQ:R2:=λx y H Q=>B6m x y H Q\/rEq x y H Q
def rNE:R2:=λx y H Q=>B6k x y H Q\/rNe x y H Q
theorem Bs5 (hu:X.A.units+64<cLine):OpR X (compareOp .Eq) rEQ:=OpR.or (B2y hu) B5d
theorem B5n (hu:X.A.units+64<cLine):OpR X (compareOp .NotEq) rNE:=OpR.or (By9 hu) B4c
theorem T8 (x y:Str):PyData.eqv (.str x) (.str y)=decide (V.str x=V.str y):=by
 show (x==y)=_
 grind
theorem Je:OpS K rEQ (Bk false):=by
 intro h H x y f d o Q s b a e n;unfold Bk at e
 split at e
 ·rename_i l
  cases e
  rcases jE.mp l with l | l
  ·obtain⟨g,c⟩:=az.mp l
   exact .inl ⟨f,d,b.tr s,a.tr s,Eu g,Eu c,n.bl s⟩
  ·unfold Ss at l
   split at l
   ·cases Fy b
    cases Fy a
    refine .inr ⟨rfl,?_⟩
    rw[<- T8];exact n.bl s
   grind
 grind
theorem A7d:OpS K rNE (Bk true):=by
 intro h H x y f d o Q s b a e n;unfold Bk at e
 split at e
 ·rename_i l
  cases e
  rcases jE.mp l with l | l
  ·obtain⟨g,c⟩:=az.mp l
   exact .inl ⟨f,d,b.tr s,a.tr s,Eu g,Eu c,n.bl s⟩
  ·unfold Ss at l
   split at l
   ·cases Fy b
    cases Fy a
    refine .inr ⟨rfl,?_⟩
    rw[<- T8];exact n.bl s
   grind
 grind
noncomputable def Kw (neg:Bool) (a b:t_):m6:=match b with
 | .none=>some (.im (.bool (match a with
  | .none=>!neg
  | _=>neg)))
 | _=>none
theorem Ax2 (h:RdV Hf H d v):decide (v=.non)=(match d with | .none=>true | _=>false):=by
 cases d with
 | none=>cases Ou h;rfl
 | bool b=>cases O9 h;rfl
 | int i=>cases Dm h;rfl
 | str x=>cases Fy h;rfl
 | list c=>obtain⟨a,e,rfl,_⟩:=El h;rfl
 | tuple c=>obtain⟨a,e,rfl,_⟩:=(show Tr _ _ v from h);rfl
 | dict k=>trivial
theorem Bk4:OpS K (λx y H Q=>y=.non/\Q (.bl (decide (x=.non))) H) (Kw false):=by
 intro f H x y c b o Q s d a e n
 match b,a,e with
 | .none,a,e =>
  refine⟨Ou a,?_⟩
  rw[Ax2 d]
  cases e
  cases c <;> exact n.bl s
theorem A9v:OpS K (λx y H Q=>y=.non/\Q (.bl (!decide (x=.non))) H) (Kw true):=by
 intro f H x y c b o Q s d a e n
 match b,a,e with
 | .none,a,e =>
  refine⟨Ou a,?_⟩
  rw[Ax2 d]
  cases e
  cases c <;> exact n.bl s
def rIN:R2:=λx y H Q=>By1 false x y H Q\/B6r x y H Q
theorem B3w (hu:X.A.units+64<cLine):OpR X (compareOp .In) rIN:=OpR.or (Bx8 hu) A0m
def Rv (neg:Bool):t_->t_->m6
 | d,.list ds=>if Bu d&&PyData.canLayAll0 ds then some (.im (.bool (if neg then !(ds.any λe=>PyData.eqv e d) else ds.any λe=>PyData.eqv e d))) else none
 | d,.tuple ds=>if Bu d&&PyData.canLayAll0 ds then some (.im (.bool (if neg then !(ds.any λe=>PyData.eqv e d) else ds.any λe=>PyData.eqv e d))) else none
 | .str i,.str j=>if neg then none else some (.im (.bool (!(Builtin.Str.occurrences j i 0 j.length 1).isEmpty)))
 | _,_=>none
theorem B3a:OpS K rIN (Rv false):=by
 intro h H x y g k o Q s b d e n;unfold Rv at e
 split at e
 ·rename_i c
  have e := e
  split at e
  ·rename_i l
   obtain⟨f,a⟩:=az.mp l
   cases e
   exact .inl ⟨g,c,b.tr s,.inl (d.tr s),Eu f,a,n.bl s⟩
  grind
 ·rename_i c
  have e := e
  split at e
  ·rename_i l
   obtain⟨f,a⟩:=az.mp l
   cases e
   exact .inl ⟨g,c,b.tr s,.inr (d.tr s),Eu f,a,n.bl s⟩
  simp_all
 ·rename_i i j
  cases e
  exact .inr ⟨i,j,Fy b,Fy d,n.bl s⟩
 trivial
theorem A1n:OpS K (By1 true) (Rv true):=by
 intro h H x y f i o Q s d g e n;unfold Rv at e
 split at e
 ·rename_i a
  have e := e
  split at e
  ·rename_i l
   obtain⟨c,b⟩:=az.mp l
   cases e
   exact⟨f,a,d.tr s,.inl (g.tr s),Eu c,b,n.bl s⟩
  simp_all
 ·rename_i a
  have e := e
  split at e
  ·rename_i l
   obtain⟨c,b⟩:=az.mp l
   cases e
   exact⟨f,a,d.tr s,.inr (g.tr s),Eu c,b,n.bl s⟩
  grind
 ·simp_all
 grind
theorem A7v (t:TrL Hf ds vs) (h:atI ds i=some d):∃v,atI vs i=some v/\Tr Hf d v:=by
 unfold atI at h ⊢;rw[<- t.length];obtain⟨j,c,a⟩:=bY.mp h;obtain⟨v,e,b⟩:=t.got a
 grind
def cutD (ds:w5)(lo hi:q_):w5:=(ds.drop (HT.sIx ds.length 0 lo)).take (HT.sIx ds.length ds.length hi-HT.sIx ds.length 0 lo)
theorem TrL.drop':∀{ds:w5}{vs:m7}(n:Nat),TrL Hf ds vs->TrL Hf (ds.drop n) (vs.drop n)
 | ds,vs,0,h=>h
 | [],_,n+1,h=>by cases (show _=[] from h);exact rfl
 | d::ds,_,n+1,⟨v,r,rfl,_,t⟩=>TrL.drop' n t
theorem TrL.take':∀{ds:w5}{vs:m7}(n:Nat),TrL Hf ds vs->TrL Hf (ds.take n) (vs.take n)
 | ds,vs,0,h=>by rw[List.take_zero,List.take_zero];exact rfl
 | [],_,n+1,h=>by cases (show _=[] from h);exact rfl
 | d::ds,_,n+1,⟨v,r,rfl,q,t⟩=>⟨v,r.take n,rfl,q,TrL.take' n t⟩
theorem TrL.cut (t:TrL Hf ds vs):TrL Hf (cutD ds lo hi) (A0k vs lo hi):=by
 unfold cutD A0k;rw[<- t.length];exact TrL.take' _ (TrL.drop' _ t)
end
section
variable {K:v9}{X:Cx}{Hf H:Hp}{Q:VK}{β:Nat->V}{W W':Wo}{c c':Ev}{σ:St}{v:V}
theorem B0j (h:B2m Hf H [d] xs):∃x,xs=[x]/\RdV Hf H d x:=by
 obtain⟨v,r,b,c,a⟩:=h
 cases (a)
 grind
noncomputable def Fw:w5->m6
 | [.list ds]=>some (.im (.int ds.length))
 | [.tuple ds]=>some (.im (.int ds.length))
 | [.str z]=>if z.length<=16000000 then some (.im (.int z.length)) else none
 | _=>none
theorem A2r:B3u K (Rp K) Fw:=by
 intro Hf H xs ds o Q s d e n;unfold Fw at e
 split at e
 ·obtain⟨x,rfl,r⟩:=B0j d
  obtain⟨a,c,rfl,b,t⟩:=El r
  cases e
  refine⟨.ref a,c.length,rfl,Bp1 b,?_⟩
  rw[<- t.length];exact n.int s
 ·obtain⟨x,rfl,r⟩:=B0j d
  obtain⟨a,c,rfl,b,t⟩:=Hh s r
  cases e
  refine⟨.ref a,c.length,rfl,Bg6 b,?_⟩
  rw[<- t.length];exact n.int s
 ·rename_i z
  obtain⟨x,rfl,r⟩:=B0j d
  cases Fy r
  split at e
  ·rename_i l
   cases e
   refine⟨.str z,z.length,rfl,?_,n.int s⟩
   show (if z.length<=sizeLine then some _ else none)=_
   rw[if_pos (lim l)]
  trivial
 simp_all
def Bk1 (K:v9):m7->Hp->VK->Prop:=λxs H Q=>Rp K xs H Q\/Ap5 K xs H Q
theorem A8i:CallR X (.builtin "len") (Bk1 X.K):=CallR.or A3h Ac6
def Gw (f:n6):n6:=λc=>(f c).bind λp c=>match nrm p with
 | .o (.sc ns)=>.ok (.o (.im (.int ns.length))) c
 | p=>match Cq c p with
  | some d=>match Fw [d] with
   | some o=>.ok (.o o) c
   | none=>.bad
  | none=>.bad
theorem N5 (h:ME K t f):ME K (tCB (Bk1 K) (Bp t Er)) (Gw f):=by
 intro A W c u Q R s
 refine h.toV A W c u _ R (s.bnd.mono λp w e v r n k g=>?_)
 have m:∀q:PV,RepA K r.Hf u q v->((match Cq w q with
  | some d=>(match Fw [d] with
   | some o=>.ok (.o o) w
   | none=>.bad)
  | none=>.bad:U.R PV)).sat (λp C=>∀v j l,Stp W.S W.Hf W.H (orS j.S l) j.Hf j.H->Rep K A j C u->Dh K j u p v l->Q v j.H)->Bk1 K [v] r.H Q:=λq g e=>by
  cases ex:Cq w q with
  | none=>simp only[ex]at e;exact e.elim
  | some d =>
   simp only[ex]at e
   cases eo:Fw [d] with
   | none=>simp only[eo]at e;exact e.elim
   | some o =>
    simp only[eo]at e
    exact .inl (A2r r.Hf r.H [v] [d] o Q k.sub ⟨v,[],rfl,Dz k g ex,rfl⟩ eo (New.of k λv j l z y x=>e v j l (n.trans z) y x))
 generalize nrm p=q at e g
 match q,g,e with
 | .o (.sc ns),g,e =>
  obtain⟨a,rfl,B⟩:=g;have e:∀v j l,Stp _ _ _ _ _ _->Rep K _ j _ _->Dh K _ _ _ v _->Q v _:=e
  refine .inr ⟨.ref a,ns.length,rfl,?_,(New.of k λv j l z y x=>e v _ _ (n.trans z) y x).int k.sub⟩
  exact .inl ⟨ns.map _,Same.seq k.sub B,by simp_all⟩
 | .o (.im d),g,e=>exact m _ g e
 | .o (.ls b d),g,e=>trivial
 | .o (.ty T),g,e=>trivial
 | .sl i,g,e=>exact m _ g e
inductive Ty5 where
 | int | str | bool | list | tuple
noncomputable def Ty5.nm:Ty5->String
 | .int => "int"
 | .str => "str"
 | .bool => "bool"
 | .list => "list"
 | .tuple => "tuple"
noncomputable def Bh7:Ty5->t_->Bool
 | .int,.int _=>true
 | .int,.bool _=>true
 | .str,.str _=>true
 | .bool,.bool _=>true
 | .list,.list _=>true
 | .tuple,.tuple _=>true
 | _,_=>false
noncomputable def A4t:t_->String
 | .none => "NoneType"
 | .bool _ => "bool"
 | .int _ => "int"
 | .str _ => "str"
 | .list _ => "list"
 | .tuple _ => "tuple"
 | .dict _ => "dict"
theorem Bo6 (s:Same Hf H) (h:RdV Hf H d v):Rc H v=some (A4t d):=by
 cases d with
 | none=>cases Ou h;rfl
 | bool b=>cases O9 h;rfl
 | int i=>cases Dm h;rfl
 | str x=>cases Fy h;rfl
 | list c=>obtain⟨a,f,rfl,e,_⟩:=El h;exact Bv8 e
 | tuple c=>obtain⟨a,f,rfl,e,_⟩:=Hh s h;exact Bw2 e
 | dict k=>trivial
theorem B1m (h:RdV Hf H d v) (T:Ty5):Eo (A4t d) T.nm=some (Bh7 T d):=by
 cases d with
 | none=>cases T <;> first | exact Rz | exact Rt | exact Qx | exact Qk | exact Pa
 | bool b=>cases T <;> first | exact Ab8 | exact Ai7 | exact Zf | exact Yb | exact Wi
 | int i=>cases T <;> first | exact Ap6 | exact Ap1 | exact Ae5 | exact Af4 | exact Yo
 | str x=>cases T <;> first | exact Ap9 | exact Am2 | exact Ac8 | exact Ad1 | exact Z2
 | list a=>cases T <;> first | exact Ad4 | exact Af8 | exact Yp | exact Aa3 | exact V3
 | tuple a=>cases T <;> first | exact Yz | exact Y0 | exact Wm | exact Wf | exact Ui
 | dict k=>exact(h).elim
def cUn (op:t_->m6)(f:n6):n6:=λc=>(f c).bind λp c=>match Cq c (nrm p) with
 | some d=>match op d with
  | some o=>.ok (.o o) c
  | none=>.bad
 | none=>.bad
def UnS (K:v9)(r:V->Hp->VK->Prop)(op:t_->m6):Prop:=∀(Hf H:Hp) (x:V) (d:t_) (o:O) (Q:VK),Same Hf H->RdV Hf H d x->op d=some o->New K Hf H o Q->r x H Q
theorem Ba1 (h:ME K t f) (hr:UnS K r op):ME K (tUn r t) (cUn op f):=by
 intro u W c m Q R s
 refine h.toV _ W c _ _ R (s.bnd.mono λp j a v w e b k=>?_)
 cases ex:Cq j (nrm p) with
 | none=>simp only[ex]at a;trivial
 | some d =>
  simp only[ex]at a
  cases eo:op d with
  | none=>simp only[eo]at a;trivial
  | some o =>
   simp only[eo]at a
   exact hr _ _ v d o Q b.sub (Dz b k ex) eo (New.of b λv n q i l g=>a v _ _ (e.trans i) l g)
theorem Jp (h:ME K t f) (hr:UnS K (λx H Q=>r [x] H Q) op):ME K (tCB r (Bp t Er)) (cUn op f):=Ba1 h hr
def Aw8 (T:Ty5)(d:t_):m6:=some (.im (.bool (Bh7 T d)))
theorem Bu8 (T:Ty5) (h:ME K t f):ME K (tCB (Ni K) (Bp t (Bp (tC (.ty T.nm)) Er))) (cUn (Aw8 T) f) :=
 Ba1 h λa H x d o Q s r e n=>by
  cases e
  exact⟨x,T.nm,A4t d,Bh7 T d,rfl,Bo6 s r,B1m r T,n.bl s⟩
noncomputable def boolsOf:w5->Option (List Bool)
 | []=>some []
 | .bool b::r=>(boolsOf r).map (b::·)
 | _=>none
theorem Sq:∀{ds:w5}{bs:List Bool}{vs:m7},boolsOf ds=some bs->TrL Hf ds vs->vs=bs.map V.bl
 | [],bs,vs,e,t=>by cases (show some []=some bs from e);exact t
 | .bool b::r,bs,_,e,⟨v,vr,rfl,h,t⟩=>by
  obtain⟨l,e1,rfl⟩:=aO.mp (show (boolsOf r).map (b::·)=some bs from e)
  cases (show v=.bl b from h)
  rw[Sq e1 t];rfl
 | .none::r,bs,_,e,_=>nomatch e
 | .int _::r,bs,_,e,_=>nomatch e
 | .str _::r,bs,_,e,_=>nomatch e
 | .list _::r,bs,_,e,_=>nomatch e
 | .tuple _::r,bs,_,e,_=>nomatch e
 | .dict _::r,bs,_,e,_=>nomatch e
def A7x:t_->m6
 | .list ds=>(boolsOf ds).map λbs=>.im (.bool (bs.all id))
 | _=>none
theorem Au9:UnS K (λx H Q=>Li K [x] H Q) A7x:=by
 intro Hf H x d o Q s r e n
 match d,r,e with
 | .list _,r,e =>
  obtain⟨c,f,rfl⟩:=aO.mp (show (boolsOf _).map _=some o from e)
  obtain⟨a,vs,rfl,b,t⟩:=El r
  exact⟨a,c,rfl,by rw[<- Sq f t];exact SqL.of b,n.bl s⟩
noncomputable def Ah3:t_->m6
 | .int i=>some (.im (.int i))
 | .bool b=>some (.im (.int (if b then 1 else 0)))
 | _=>none
theorem Bn8:UnS K (λx H Q=>Lz K [x] H Q) Ah3:=by
 intro a H x d o Q s r e n
 match d,r,e with
 | .int i,r,e=>cases e;cases Dm r;exact .inl ⟨i,rfl,n.int s⟩
 | .bool b,r,e=>cases e;cases O9 r;exact .inr ⟨b,rfl,n.int s⟩
noncomputable def Ay1:t_->m6
 | .int i=>some (.im (.int (if i<0 then -i else i)))
 | _=>none
theorem Bl8:UnS K (λx H Q=>Nh K [x] H Q) Ay1:=by
 intro a H x d o Q s r e n
 match d,r,e with
 | .int i,r,e=>cases e;cases Dm r;exact⟨i,rfl,n.int s⟩
noncomputable def Le:t_->m6
 | .list ds=>some (.ls false ds)
 | .tuple ds=>some (.ls false ds)
 | _=>none
theorem O1:UnS K (λx H Q=>Ek K [x] H Q) Le:=by
 intro Hf H x d o Q s r e n
 match d,r,e with
 | .list _,r,e =>
  cases e
  obtain⟨a,c,rfl,f,t⟩:=El r
  exact⟨a,c,rfl,.inl (SqL.of f),λl b=>n.lst s t b⟩
 | .tuple _,r,e =>
  cases e
  obtain⟨a,c,rfl,f,t⟩:=Hh s r
  exact⟨a,c,rfl,.inr (SqT.of f),λl b=>n.lst s t b⟩
def Bx1 (K:v9):m7->Hp->VK->Prop:=λxs H Q=>(Ue K xs H Q\/Af0 K xs H Q)\/Q9 K xs H Q
noncomputable def isSeq:t_->Bool
 | .list _=>true
 | .tuple _=>true
 | _=>false
def Ac3:t_->m6
 | .int i=>if i.natAbs.log2<1920 then some (.im (.str (toString i))) else none
 | .none=>some (.im (.str "None"))
 | .bool b=>some (.im (.str (if b then Str.ofString "True" else Str.ofString "False")))
 | .str x=>some (.im (.str x))
 | d=>if isSeq d&&(d.showable&&(!d.hasDict&&(decide (d.depth<=40)&&decide (d.shown.length<=sizeLine)))) then some (.im (.str d.shown)) else none
theorem Bq3:UnS K (λx H Q=>Bx1 K [x] H Q) Ac3:=by
 intro h H x d o Q s r e n
 have c:∀d,RdV h H d x->(isSeq d=true->∃a,x=.ref a)->(if isSeq d&&(d.showable&&(!d.hasDict&&(decide (d.depth<=40)&&decide (d.shown.length<=sizeLine)))) then some (O.im (.str d.shown)) else none)=some o->Bx1 K [x] H Q:=λd r g e=>by
  split at e
  ·rename_i l
   simp at l
   cases e
   obtain⟨a,rfl⟩:=g l.1;exact .inl (.inr ⟨a,d,rfl,r.tr s,l.2.1,l.2.2.1,l.2.2.2.1,l.2.2.2.2,n.str s⟩)
  ·cases e
 match d,r,e with
 | .int i,r,e =>
  have e:(if i.natAbs.log2<1920 then some _ else none)=some o:=e
  split at e
  ·rename_i l
   cases e;cases Dm r;exact .inl (.inl ⟨i,rfl,l,n.str s⟩)
  ·cases e
 | .list _,r,e=>exact c _ r (λ_=>by obtain⟨b,f,e,_⟩:=El r;exact⟨b,e⟩) e
 | .tuple _,r,e=>exact c _ r (λ_=>by obtain⟨b,f,e,_⟩:=Hh s r;exact⟨b,e⟩) e
 | .none,r,e=>cases e;cases Ou r;exact .inr ⟨_,_,rfl,rfl,n.str s⟩
 | .bool b,r,e=>cases e;cases O9 r;exact .inr ⟨_,_,rfl,rfl,n.str s⟩
 | .str z,r,e=>cases e;cases Fy r;exact .inr ⟨_,_,rfl,rfl,n.str s⟩
 | .dict _,r,e=>exact c _ r (λz=>nomatch z) e
noncomputable def Ao8:t_->t_->m6
 | .int i,.int j=>some (.im (.int (if j<i then j else i)))
 | _,_=>none
theorem Be9 {c d:TE} (ha:ME K c fa) (hb:ME K d fb):ME K (tCB (Lx K) (Bp c (Bp d Er))) (cOp Ao8 fa fb) :=
 Dw ha hb λh H x y g f o Q s a b e n=>by
  match g,f,a,b,e with
  | .int i,.int j,a,b,e=>cases e;cases Dm a;cases Dm b;exact⟨i,j,rfl,n.int s⟩
def MO (K:v9)(T:TO)(f:Ev->R (q_)):Prop:=∀(β:Nat->V) (W:Wo) (c:Ev) (σ:St) (Q:q_->Hp->Prop),Rep K β W c σ ->
 (f c).sat (λb c'=>∀W',Stp W.S W.Hf W.H W'.S W'.Hf W'.H->Rep K β W' c' σ->Q b W'.H)->T σ W.H Q
noncomputable def cON:Ev->R (q_):=λc=>.ok none c
theorem Ax1:MO K Ax7 cON:=λb W c a Q R s=>s W Stp.refl R
def cOS (f:n6):Ev->R (q_):=λc=>(f c).bind λp c=>match Cq c (nrm p) with
 | some (.int i)=>.ok (some i) c
 | _=>.bad
theorem Ay8 (h:ME K t f):MO K (Bs4 t) (cOS f):=by
 intro g W c k Q R s
 refine h.toV _ W c _ _ R (s.bnd.mono λp l a v j b d e=>?_)
 match ex:Cq _ _,a with
 | some (.int i),a=>exact⟨i,Dm (Dz d e ex),a _ b d⟩
 | some .none,a=>exact a.elim
 | some (.bool _),a=>exact a.elim
 | some (.str _),a=>exact a.elim
 | some (.list _),a=>exact a.elim
 | some (.tuple _),a=>exact a.elim
 | some (.dict _),a=>exact a.elim
 | none,a=>exact a.elim
def SlS (K:v9)(r:V->q_->q_->Hp->VK->Prop)(op:t_->q_->q_->m6):Prop:=∀(Hf H:Hp) (x:V) (lo hi:q_) (d:t_) (o:O) (Q:VK),Same Hf H->RdV Hf H d x->op d lo hi=some o->New K Hf H o Q->r x lo hi H Q
def cSl (op:t_->q_->q_->m6)(f:n6)(fl fh:Ev->R (q_)):n6:=λc=>(f c).bind λp c=>(fl c).bind λlo c=>(fh c).bind λhi c=>match Cq c (nrm p) with
 | some d=>match op d lo hi with
  | some o=>.ok (.o o) c
  | none=>.bad
 | none=>.bad
theorem Bt7 (h:ME K j f) (hl:MO K l k) (u:MO K m n) (hr:SlS K r op):ME K (tSl r j l m) (cSl op f k n):=by
 intro P W c G Q R s
 refine h.toV _ W c _ _ R (s.bnd.mono λp I D v N g w x=>?_)
 refine hl _ _ _ _ _ w (D.bnd.mono λz F A J a B=>?_)
 refine u _ _ _ _ _ B (A.bnd.mono λt y b H e i=>?_)
 cases ex:Cq y (nrm p) with
 | none=>simp only[ex]at b;trivial
 | some d =>
  simp only[ex]at b
  cases eo:op d z t with
  | none=>simp only[eo]at b;trivial
  | some o =>
   simp only[eo]at b
   exact hr _ _ v _ _ d o Q i.sub (Dz i (RepA.same (a.trans e).fz x) ex) eo (New.of i λv L M C E q=>b v _ _ (g.trans (a.trans (e.trans C))) E q)
end
section
variable {K:v9}{X:Cx}{Hf H:Hp}{Q:VK}{β:Nat->V}{W:Wo}{c c':Ev}{σ:St}{v:V}
def rSL (K:v9):V->q_->q_->Hp->VK->Prop:=λx lo hi H Q=>(B5g K x lo hi H Q\/(B6g K x lo hi H Q\/Bs6 K x lo hi H Q))\/B3i x lo hi H Q
theorem By3:SlR X (rSL X.K):=SlR.or (SlR.or Bf6 (SlR.or B3d Bi7)) B1b
def Nx:t_->q_->q_->m6
 | .list ds,lo,hi=>some (.ls false (cutD ds lo hi))
 | .tuple ds,lo,hi=>some (.im (.tuple (cutD ds lo hi)))
 | .str z,lo,hi=>if z.length<=16000000 then some (.im (.str (Txt.slice z lo hi))) else none
 | _,_,_=>none
theorem Au5:SlS K (rSL K) Nx:=by
 intro Hf H x f c d o Q s r e n
 match d,r,e with
 | .list ds,r,e =>
  cases e
  obtain⟨a,b,rfl,g,t⟩:=El r
  exact .inl (.inl ⟨a,b,rfl,SqL.of g,λp h=>n.lst s (TrL.cut t) h⟩)
 | .str z,r,e =>
  by_cases hz:z.length<=16000000
  ·rw[show Nx (.str z) f c=some (.im (.str (Txt.slice z f c))) by simp only[Nx];rw[if_pos hz]]at e
   cases e
   exact .inr ⟨z,r,aq hz (by decide),n.same s rfl⟩
  ·rw[show Nx (.str z) f c=none by simp only[Nx];rw[if_neg hz]]at e;cases e
 | .tuple ds,r,e =>
  cases e
  obtain⟨a,b,rfl,g,t⟩:=Hh s r
  by_cases w:HT.sIx b.length 0 f=0/\HT.sIx b.length b.length c=b.length
  ·refine .inl (.inr (.inr ⟨a,b,rfl,SqT.of g,w,?_⟩))
   have e:cutD ds f c=ds:=by
    unfold cutD;rw[t.length,w.1,w.2,gW,fc,<- t.length,gK]
   rw[e]at n;exact n.same s r
  ·exact .inl (.inr (.inl ⟨a,b,rfl,SqT.of g,w,λp h=>n.tup s (TrL.cut t) h⟩))
def Bc (f:n6):o_:=λc=>(f c).bind λp c=>match Cq c (nrm p) with
 | some (.bool b)=>.ok b c
 | _=>.bad
theorem Eh (h:ME K t f):MT K (Ld t) (Bc f):=by
 intro g W c k Q R s
 refine h.toV _ W c _ _ R (s.bnd.mono λp l a v j b d e=>?_)
 match ex:Cq _ _,a with
 | some (.bool i),a=>exact⟨i,O9 (Dz d e ex),a _ b d⟩
 | some .none,a=>exact a.elim
 | some (.int _),a=>exact a.elim
 | some (.str _),a=>exact a.elim
 | some (.list _),a=>exact a.elim
 | some (.tuple _),a=>exact a.elim
 | some (.dict _),a=>exact a.elim
 | none,a=>exact a.elim
theorem B3x (h:ME K t f):MT K (tB t) (Bc f):=Eh h
noncomputable def Bq:o_:=λc=>.ok true c
theorem A5f:MT K Aj4 Bq:=λb W c a Q R s=>s W Stp.refl R
def Bq7 (f g:o_):o_:=λc=>(f c).bind λb c=>if b=true then g c else .ok false c
def cOr (f g:o_):o_:=λc=>(f c).bind λb c=>if b=true then .ok true c else g c
def Bd4 (f:o_):o_:=λc=>(f c).bind λb c=>.ok (!b) c
theorem B1c (h1:MT K t f) (h2:MT K u g):MT K (B4u t u) (Bq7 f g):=λn W c p Q R s =>
 h1 _ W c _ _ R (s.bnd.mono λb l h k a e=>by
  cases b with
  | true=>exact h2 _ _ _ _ _ e (h.mono λb m j o d i=>j _ (a.trans d) i)
  | false=>exact h _ a e)
theorem Bs3 (h1:MT K t f) (h2:MT K u g):MT K (tOr t u) (cOr f g):=λn W c p Q R s =>
 h1 _ W c _ _ R (s.bnd.mono λb l h k a e=>by
  cases b with
  | false=>exact h2 _ _ _ _ _ e (h.mono λb m j o d i=>j _ (a.trans d) i)
  | true=>exact h _ a e)
theorem A6h (h1:MT K t f):MT K (B3v t) (Bd4 f):=λh W c g Q R s =>
 h1 _ W c _ _ R (s.bnd.mono λb j e i a d=>e _ a d)
def A0z (ft:o_)(f g:n6):n6:=λc=>(ft c).bind λb c=>if b=true then f c else g c
theorem Ab7 {r:U.R PV}{b:Wo}(s:r.sat λp c'=>∀v a d,Stp b.S b.Hf b.H (orS a.S d) a.Hf a.H->Rep K β a c' σ->Dh K a σ p v d->Q v a.H)(st:Stp b.S b.Hf b.H W.S W.Hf W.H) :
 r.sat λp c'=>∀v a d,Stp W.S W.Hf W.H (orS a.S d) a.Hf a.H->Rep K β a c' σ->Dh K a σ p v d->Q v a.H:=s.mono λp c k v a d e R r=>k v _ _ (st.trans e) R r
theorem Bz3 (ht:MT K i ft) (h1:ME K e f) (h2:ME K h g):ME K (tIf i e h) (A0z ft f g):=by
 intro l W c k Q R s
 refine ht _ W c _ _ R (s.bnd.mono λb n j m a d=>?_)
 cases b with
 | true=>exact h1 _ _ _ _ _ d (Ab7 j a)
 | false=>exact h2 _ _ _ _ _ d (Ab7 j a)
def Ce (f:n6):Ev->R (w5):=λc=>(f c).bind λp c=>(frz (nrm p) c).bind λd c=>match d with
 | .list ds=>.ok ds c
 | .tuple ds=>.ok ds c
 | _=>.bad
theorem Bn4 (ha:Hf a=some (.lst vs)) (t:TrL Hf ds vs):Bc7 (Itl K a) Hf ds:=by
 intro i c H f g;have b:=g _ _ (f _ _ ha)
 refine⟨λe=>⟨vs,SqL.of b,by rw[<- t.length];lia⟩,λd j=>?_⟩
 obtain⟨v,h,k⟩:=t.got j
 refine⟨⟨vs,v,SqL.of b,h⟩,λx l ⟨e,q⟩=>?_⟩
 subst e;have:=q _ (SqL.of b);rw[h]at this
 cases this
 exact⟨c,Stp.refl,g,Tr.same f k⟩
theorem B3c (ha:Hf a=some (.tup vs)) (t:TrL Hf ds vs):Bc7 (Itt K a) Hf ds:=by
 intro i c H f g;have b:=g _ _ (f _ _ ha)
 refine⟨λe=>⟨vs,SqT.of b,by rw[<- t.length];lia⟩,λd j=>?_⟩
 obtain⟨v,h,k⟩:=t.got j
 refine⟨⟨vs,v,SqT.of b,h⟩,λx l ⟨e,q⟩=>?_⟩
 subst e;have:=q _ (SqT.of b);rw[h]at this
 cases this
 exact⟨c,Stp.refl,g,Tr.same f k⟩
theorem Bd1 (h:ME K t f):MI K (A1r K t) (Ce f):=by
 intro w W c B k R s
 refine h.toV _ W c _ _ R (s.bnd.mono λp A r v x l u q=>?_)
 obtain⟨d,y,z,_,b,o,i,m,e⟩:=Gz u q r.bnd;rw[<- o]
 match d,e,b with
 | .list _,e,b =>
  obtain⟨a,n,g,j,t⟩:=e;exact⟨a,g,.inl ⟨n,m.sub _ _ j,b _ _ (l.trans i) m (Bn4 j t)⟩⟩
 | .tuple _,e,b =>
  obtain⟨a,n,g,j,t⟩:=e;exact⟨a,g,.inr ⟨n,m.sub _ _ j,b _ _ (l.trans i) m (B3c j t)⟩⟩
 | .none,e,b=>exact b.elim
 | .bool _,e,b=>exact b.elim
 | .int _,e,b=>exact b.elim
 | .str _,e,b=>exact b.elim
 | .dict _,e,b=>trivial
noncomputable def Pr (lo:Int) (n:Nat):w5:=(List.range n).map λk=>.int (lo+(k:Nat))
theorem By5 : Bc7 (Itr lo n) Hf (Pr lo n):=by
 intro i b H g f
 have l:(Pr lo n).length=n:=by unfold Pr;simp_all
 refine⟨λe=>by show n<=i;lia,λd a=>?_⟩
 have c:i<n:=by
  grind
 refine⟨c,λx h ⟨e,q⟩=>?_⟩
 subst e;unfold Pr at a;rw[bV,List.getElem?_range c]at a
 cases a
 exact⟨b,Stp.refl,f,q⟩
def Ul (f:n6):Ev->R (w5):=λc=>(f c).bind λp c=>match Cq c (nrm p) with
 | some (.int j)=>if j<=16000000/\-16000000<=j then .ok (Pr 0 j.toNat) c else .bad
 | _=>.bad
theorem Bn2 (h:ME K t f):MI K (Br6 (Bp t Er)) (Ul f):=by
 intro g W c m k R s
 refine h.toV _ W c _ _ R (s.bnd.mono λp n a v i b d e=>?_)
 match ex:Cq _ _,a with
 | some (.int j),a =>
  cases Dm (Dz d e ex)
  by_cases l:j<=16000000/\-16000000<=j
  ·have a:(if j<=16000000/\-16000000<=j then U.R.ok _ _ else .bad).sat _:=a
   rw[if_pos l]at a
   exact⟨j,rfl,by lia,by lia,a _ _ b d By5⟩
  ·have a:(if j<=16000000/\-16000000<=j then U.R.ok _ _ else .bad).sat _:=a
   rw[if_neg l]at a;trivial
 | some .none,a=>exact a.elim
 | some (.bool _),a=>exact a.elim
 | some (.str _),a=>exact a.elim
 | some (.list _),a=>exact a.elim
 | some (.tuple _),a=>exact a.elim
 | some (.dict _),a=>exact a.elim
 | none,a=>exact a.elim
noncomputable def Z3 (d:Option t_):q_:=match d with
 | some (.int i)=>some i
 | _=>none
theorem Zm (h:Z3 d=some i):d=some (.int i):=by
 unfold Z3 at h
 grind
noncomputable def Nz:t_->Option (w5)
 | .list ds=>some ds
 | .tuple ds=>some ds
 | _=>none
theorem Ak6 (h:Nz d=some ds) (t:Tr Hf d v):∃b a c,v=.ref a/\SqK b Hf a c/\TrL Hf ds c:=by
 cases d with
 | list l=>cases h;obtain⟨a,c,e,f,t⟩:=t;exact⟨false,a,c,e,f,t⟩
 | tuple l=>cases h;obtain⟨a,c,e,f,t⟩:=t;exact⟨true,a,c,e,f,t⟩
 | none=>cases h
 | bool _=>cases h
 | int _=>cases h
 | str _=>cases h
 | dict _=>cases h
theorem Ly {c:Hp}(S:Same Hf c) (h:SqK b Hf a vs):SqK b c a vs:=by
 cases b
 ·exact S _ _ h
 ·exact S _ _ h
noncomputable def Vv (xs ys:w5):w5:=(xs.zip ys).map λp=>.tuple [p.1,p.2]
noncomputable def M7 (xs:w5):w5:=(List.range xs.length).map λk=>.tuple [.int (k:Nat),xs.getD k .none]
theorem Bo4 (ha:SqK t Hf a vs) (u:TrL Hf xs vs):Bc7 (Ite t a) Hf (M7 xs):=by
 intro i v H j f;have h:=Ly (j.trans f) ha
 have l:(M7 xs).length=xs.length:=by unfold M7;simp_all
 refine⟨λe=>⟨vs,h,by rw[<- u.length];lia⟩,λd g=>?_⟩
 have n:i<xs.length:=by
  grind
 unfold M7 at g;rw[bV,List.getElem?_range n]at g
 cases g
 have q:xs[i]?=some (xs.getD i .none):=by grind
 obtain⟨b,k,r⟩:=u.got q
 refine⟨⟨vs,b,h,k⟩,λz H' s=>?_⟩
 obtain⟨p,x',rfl,c,rfl,m⟩:=s;have:=m _ h;rw[k]at this;cases this;exact⟨upd _ p _,Stp.newF f c,Iu f,p,[.int i,b],rfl,Am,.int i,[b],rfl,rfl,b,[],rfl,Tr.same (Bd (o:=.tup [.int i,b]) (Same.free f c)) (Tr.same j r),rfl⟩
def Av2 (f:n6):Ev->R (w5):=λc=>(f c).bind λp c=>(frz (nrm p) c).bind λx c=>match Nz x with
 | some xs=>.ok (M7 xs) c
 | _=>.bad
theorem Bm1 (h:ME K t f):MI K (Bu1 (Bp t Er)) (Av2 f):=by
 intro β W c σ k R s
 refine h.toV _ W c _ _ R (s.bnd.mono λp c1 u v1 W1 e n q=>?_)
 obtain⟨x,c3,W3,_,b,l,d,g,o⟩:=Gz n q u.bnd
 cases ex:Nz x with
 | none=>simp only[ex]at b;trivial
 | some xs =>
  simp only[ex]at b;obtain⟨m,a,r,rfl,i,j⟩:=Ak6 ex o;rw[<- l];exact⟨a,rfl,m,r,Ly g.sub i,b _ _ (e.trans d) g (Bo4 i j)⟩
end
section
variable {K:v9}{X:Cx}{Hf H:Hp}{Q:VK}{β:Nat->V}{W W':Wo}{c:Ev}{σ:St}{v:V}{p:PV}{fp:v6}{i:Nat}{b:Bool}{ds:w5}
theorem Bz7 (R:Rep K β W c σ)(r:Dh K W σ p v fp):∃W',W'.H=W.H/\Stp (orS W.S fp) W.Hf W.H W'.S W'.Hf W'.H/\Rep K β W' c σ/\RepA K W'.Hf σ (nrm p) v:=by
 have f:Stp (orS W.S fp) W.Hf W.H _ _ _:=Stp.refl.up λa z=>.inl z
 cases p with
 | sl i=>exact⟨W,rfl,f,R,r.2⟩
 | o o =>
  cases o with
  | im d=>exact⟨W,rfl,f,R,r.1.2⟩
  | sc d=>exact⟨W,rfl,f,R,r.1.2⟩
  | ty d=>exact⟨W,rfl,f,R,r.1.2⟩
  | ls b ds =>
   obtain⟨⟨a,h,rfl,rfl,g,j,t⟩,l⟩:=r
   refine⟨⟨upd _ a _,W.H,W.fps⟩,rfl,⟨Bd g,λb o e _=>e,λb o e mu n q=>?_,λb z=>.inl (.inl z)⟩,Yj R g j (l a (.head _)),a,h,rfl,Am,TrL.same (Bd g) t⟩
   have k:b≠a:=λz=>n (.inr (by grind))
   show upd _ a _ b=none
   rw[Af k];grind
theorem Rep.mut (R:Rep K β W c σ)(hc:c[i]?=some (some (.ls b ds)))(hv:σ[i]?=some (some v)):∃a h,v=.ref a/\W.H a=some (.lst h)/\TrL W.Hf ds h /\
 ∀f d,TrL W.Hf f d->Rep K β ⟨W.Hf,upd W.H a (.lst d),W.fps⟩ (c.set i (some (.ls b f))) σ/\Stp W.S W.Hf W.H W.S W.Hf (upd W.H a (.lst d)):=by
 obtain⟨m,p,⟨a,h,rfl,w,A,H,t⟩,B⟩:=R.get i _ hc
 cases (show some _=some _ from p.symm.trans hv)
 have D:i<c.length:=by
  grind
 have s:a∈W.fps i:=by rw[w];exact .head _
 refine⟨a,h,rfl,H,t,λf d F=>⟨⟨λb u e=>?_,by rw[bD];exact R.len,λj o e=>?_,R.dis,λj x g=>?_⟩,⟨Same.refl _,λx o e n=>?_,λx o e r n q=>q,λx z=>.inl z⟩⟩⟩
 ·have E:b≠a:=λz=>by rw[z,A]at e;cases e
  show upd _ a _ b=_
  rw[Af E];exact R.sub b u e
 ·by_cases z:j=i
  ·subst z
   rw[b_ D]at e
   cases e
   exact⟨.ref a,p,⟨a,d,rfl,w,A,Am,F⟩,B⟩
  ·rw[bQ λy=>z y.symm]at e
   obtain⟨m,k,G,l⟩:=R.get j o e
   refine⟨m,k,G.mono (Same.refl _) λx g=>⟨(R.own j x g).1,?_⟩,l⟩
   show upd _ a _ x=_
   rw[Af];intro q;rw[q]at g;exact z (R.dis j i a g s)
 ·obtain⟨I,o,C,r⟩:=R.own j x g
  refine⟨I,?_⟩
  by_cases z:x=a
  ·exact⟨.lst _,by rw[z];exact Am,trivial⟩
  ·exact⟨o,by show upd _ a _ x=_;rw[Af z];exact C,r⟩
 ·rw[Af]
  ·exact e
  ·intro z;exact n ⟨i,by rw[z];exact s⟩
noncomputable def slL (c:Ev) (p:PV):Option (Nat×Bool×w5):=match p with
 | .sl i=>match c[i]? with
  | some (some (.ls b ds))=>some (i,b,ds)
  | _=>none
 | _=>none
theorem Tg (h:slL c p=some x):p=.sl x.1/\c[x.1]?=some (some (.ls x.2.1 x.2.2)):=by
 unfold slL at h
 grind
def Z6 (fo fe:n6):n6:=λc=>(fo c).bind λp c=>if (slL c (nrm p)).isSome=true then (fe c).bind λq c=>(frz (nrm q) c).bind λd c=>match slL c (nrm p) with
 | some (i,b,ds)=>if ds.length<16000000 then .ok (.o (.im .none)) (c.set i (some (.ls b (ds++[d])))) else .bad
 | none=>.bad
 else .bad
theorem A4v {b:Wo}(R:Rep K β W c σ)(st:Stp b.S b.Hf b.H W.S W.Hf W.H)(s:∀v a d,Stp b.S b.Hf b.H (orS a.S d) a.Hf a.H->Rep K β a c σ->Dh K a σ (.o (.im .none)) v d->Q v a.H):Q .non W.H :=
 R.here (o:=.im .none) rfl rfl λv a d e f r=>s v _ _ (st.trans e) f r
theorem ty_list (R:Rep K β W c σ)(h:(slL c p).isSome=true)(r:RepA K W.Hf σ p v):tyV K "list" v W.H:=by
 obtain⟨x,d⟩:=j9.mp h;obtain⟨rfl,e⟩:=Tg d;obtain⟨a,f,rfl,b,_⟩:=R.mut e r;exact .inl ⟨rfl,f,SqL.of b⟩
theorem Ar1 {v fe:n6}(ho:ME K u v) (he:ME K o fe):ME K (tBM K "list" rAppF u (Bp o Er)) (Z6 v fe):=by
 intro β W c σ Q R s
 refine ho.toV _ W c _ _ R (s.bnd.mono λp y f v1 W1 h r j=>?_)
 by_cases hs:(slL y (nrm p)).isSome=true
 ·rw[if_pos hs]at f
  refine⟨ty_list r hs j,he.toV _ _ _ _ _ r (f.bnd.mono λq c2 D H W2 m z w=>?_)⟩
  obtain⟨d,A,W3,_,e,C,n,E,F⟩:=Gz z w D.bnd
  cases ex:slL A (nrm p) with
  | none=>simp only[ex]at e;exact e.elim
  | some x =>
   simp only[ex]at e;obtain⟨i,b,G⟩:=x;obtain⟨B,I⟩:=Tg ex;rw[B]at j;obtain⟨a,J,rfl,L,t,k⟩:=E.mut I j
   by_cases l:G.length<16000000
   ·rw[if_pos l]at e
    obtain⟨M,g⟩:=k _ _ (t.app (TrL.one F));rw[<- C]
    refine⟨a,H,J,rfl,rfl,L,by rw[<- t.length];exact Nat.lt_trans l (by decide),?_⟩
    exact A4v M (h.trans (m.trans (n.trans g))) e
   ·rw[if_neg l]at e;exact e.elim
 ·rw[if_neg hs]at f;exact f.elim
def Nv (fo fe:n6):n6:=λc=>(fo c).bind λp c=>if (slL c (nrm p)).isSome=true then (fe c).bind λq c=>match slL c (nrm p),Z3 (Cq c (nrm q)) with
 | some (i,b,ds),some k=>if ds.length<=16000000 then match ixN ds.length k with
  | some j=>match ds[j]? with
   | some d=>.ok (.o (.im d)) (c.set i (some (.ls b (ds.eraseIdx j))))
   | none=>.bad
  | none=>.bad
  else .bad
 | _,_=>.bad
 else .bad
theorem TrL.erase:∀{ds:w5}{vs:m7}(n:Nat),TrL Hf ds vs->TrL Hf (ds.eraseIdx n) (vs.eraseIdx n)
 | [],_,n,h=>by cases (show _=[] from h);exact rfl
 | d::ds,_,0,⟨v,r,rfl,_,t⟩=>t
 | d::ds,_,n+1,⟨v,r,rfl,q,t⟩=>⟨v,r.eraseIdx n,rfl,q,TrL.erase n t⟩
theorem TrL.setAt:∀{ds:w5}{vs:m7}(n:Nat) {d:t_}{v:V},TrL Hf ds vs->Tr Hf d v->TrL Hf (ds.set n d) (vs.set n v)
 | [],_,n,d,v,h,_=>by cases (show _=[] from h);exact rfl
 | e::ds,_,0,d,v,⟨u,r,rfl,_,t⟩,q=>⟨v,r,rfl,q,t⟩
 | e::ds,_,n+1,d,v,⟨u,r,rfl,h,t⟩,q=>⟨u,r.set n v,rfl,h,TrL.setAt n t q⟩
theorem A7o (ho:ME K z G) (he:ME K F fe):ME K (tBM K "list" rPopAt z (Bp F Er)) (Nv G fe):=by
 intro B W c H Q R s
 refine ho.toV B W c H _ R (s.bnd.mono λp O g v1 W1 n A w=>?_)
 by_cases hs:(slL O (nrm p)).isSome=true
 ·rw[if_pos hs]at g
  refine⟨ty_list A hs w,he.toV B _ _ _ _ A (g.bnd.mono λq D e v2 W2 h E I=>?_)⟩
  cases ex:slL D (nrm p) with
  | none=>simp only[ex]at e;exact e.elim
  | some x =>
   obtain⟨i,b,l⟩:=x
   cases ey:Z3 (Cq D (nrm q)) with
   | none=>simp only[ex,ey]at e;exact e.elim
   | some k =>
    simp only[ex,ey]at e
    by_cases hl:l.length<=16000000
    case neg=>rw[if_neg hl]at e;exact e.elim
    rw[if_pos hl]at e
    cases ej:ixN l.length k with
    | none=>simp only[ej]at e;exact e.elim
    | some j =>
     simp only[ej]at e
     cases ed:l[j]? with
     | none=>simp only[ed]at e;exact e.elim
     | some d =>
      simp only[ed]at e;obtain⟨L,N⟩:=Tg ex;rw[L]at w
      cases Dm (Dz E I (Zm ey))
      obtain⟨a,C,rfl,P,t,S⟩:=E.mut N w;obtain⟨y,M,U⟩:=t.got ed;obtain⟨T,q2,q3,q4⟩:=Yx ej;obtain⟨V,m⟩:=S _ _ (TrL.erase j t)
      have u:seqIndex? k C.length=some j:=by rw[<- t.length];exact T
      have f:-2 ^ 63<=k/\k<2 ^ 63:=by lia
      refine⟨a,C,k,j,y,rfl,rfl,P,f.1,f.2,u,M,?_⟩
      exact V.here (o:=.im d) U rfl λv W' fp X J r=>e v _ _ (n.trans (h.trans (m.trans X))) J r
 ·rw[if_neg hs]at g;exact g.elim
def Bu6 (fo:n6):n6:=λc=>(fo c).bind λp c=>match slL c (nrm p) with
 | some (i,b,ds)=>match ds[ds.length-1]? with
  | some d=>.ok (.o (.im d)) (c.set i (some (.ls b ds.dropLast)))
  | none=>.bad
 | none=>.bad
theorem TrL.dropL {ds:w5}{vs:m7}(t:TrL Hf ds vs):TrL Hf ds.dropLast vs.dropLast:=by
 rw[jF,jF,t.length];exact TrL.take' _ t
theorem A5s {to:TE}{fo:n6}(ho:ME K to fo):ME K (Bz1 K "list" rPop to) (Bu6 fo):=by
 intro β W c σ Q R s
 refine ho.toV β W c σ _ R (s.bnd.mono λp c1 s1 v1 W1 st1 R1 r1=>?_)
 cases ex:slL c1 (nrm p) with
 | none=>simp only[ex]at s1;exact s1.elim
 | some x =>
  obtain⟨i,b,ds⟩:=x;simp only[ex]at s1
  cases ed:ds[ds.length-1]? with
  | none=>simp only[ed]at s1;exact s1.elim
  | some d =>
   simp only[ed]at s1;obtain⟨ep,hc⟩:=Tg ex
   have ty:=ty_list R1 (by rw[ex];rfl) r1
   rw[ep]at r1;obtain⟨a,vs,rfl,hH,t,kk⟩:=R1.mut hc r1;obtain⟨y,hy,tyy⟩:=t.got ed;obtain⟨R4,st4⟩:=kk ds.dropLast vs.dropLast (TrL.dropL t)
   refine⟨ty,a,vs,y,rfl,rfl,hH,by rw[<- t.length];exact hy,?_⟩
   exact R4.here (o:=.im d) (v:=y) tyy rfl λv W' fp st R' r=>s1 v W' fp (st1.trans (st4.trans st)) R' r
def Ae9 (fo fi:n6):o7:=λp c=>(frz (nrm p) c).bind λd c=>(fo c).bind λo c=>(fi c).bind λq c=>match slL c (nrm o),Z3 (Cq c (nrm q)) with
 | some (i,b,ds),some k=>match ixN ds.length k with
  | some j=>.ok () (c.set i (some (.ls b (ds.set j d))))
  | none=>.bad
 | _,_=>.bad
theorem A5i (ho:ME K u A) (hi:ME K z fi):MG K (B3y u z Br7) (Ae9 A fi):=by
 intro β W c σ p v fp k R r s;obtain⟨W0,M,l,C,F⟩:=Bz7 R r;obtain⟨d,c1,W1,_,D,E,n,G,I⟩:=Gz C F s.bnd;rw[<- M,<- E]
 refine ho.toV _ _ _ _ _ G (D.bnd.mono λo c2 J v2 W2 g L w=>?_)
 refine hi.toV _ _ _ _ _ L (J.bnd.mono λq y e v3 W3 f B N=>?_)
 cases ex:slL y (nrm o) with
 | none=>simp only[ex]at e;exact e.elim
 | some x =>
  obtain⟨i,b,O⟩:=x
  cases ey:Z3 (Cq y (nrm q)) with
  | none=>simp only[ex,ey]at e;exact e.elim
  | some m =>
   simp only[ex,ey]at e
   cases ej:ixN O.length m with
   | none=>simp only[ej]at e;exact e.elim
   | some j =>
    simp only[ej]at e;obtain⟨H,Q⟩:=Tg ex;rw[H]at w
    cases Dm (Dz B N (Zm ey))
    obtain⟨a,S,rfl,P,t,T⟩:=B.mut Q w;obtain⟨U,h⟩:=T _ _ (TrL.setAt j t (Tr.same (g.trans f).fz I))
    refine⟨a,S,m,j,rfl,rfl,P,by rw[<- t.length];exact ej,?_⟩
    exact e _ _ (l.trans (n.trans (g.trans (f.trans h)))) U
def B2s (i j:Nat)(f:o9):Ev->SR:=λc=>(f c).toS λps c=>(frzs ps c).toS λds c=>match ds with
 | [x,y]=>.nx ((c.set i (some (.im x))).set j (some (.im y)))
 | _=>.bad
theorem B4d (h:Wo.S ⟨W.Hf,W.H,clr W.fps i⟩ a):W.S a:=B2i h
theorem A9z (h:MA K m f):MS K (B4f i j m) (B2s i j f):=by
 intro β W c σ D R l
 refine h _ W c _ _ R ((Fe l).mono λps c1 C vs W1 k t w=>?_)
 obtain⟨A,c2,n,b,s,g,q,d⟩:=Td t w (Fe C)
 match A,d,b with
 | [x,y],d,b =>
  obtain⟨v,r,rfl,B,u,r',rfl,E,e⟩:=d
  cases (e)
  refine⟨v,u,rfl,?_⟩
  have p:=q.setN (i:=i) (o:=.im x) B rfl;rw[<- s]
  exact b _ ⟨n.Hf,n.H,clr _ j⟩ ((k.trans g).less λa z=>B4d (B4d z)) (p.setN (i:=j) (o:=.im y) E rfl)
 | [],d,b=>trivial
 | [_],d,b=>trivial
 | _::_::_::_,d,b=>exact b.elim
end
end U
set_option autoImplicit true
namespace L2
open PySem U
theorem Dc (ha:QE X a ta)(hb:QE X b tb):QE X (.BinOp a .Add b pos) (tOp Bu2 ta tb):=⟨Wr Bv5 ha.get hb.get⟩
theorem Bs7 (hu:X.A.units+64<cLine)(ha:QE X a ta)(hb:QE X b tb):QE X (.Compare a [.Eq] [b] pos) (tOp rEQ ta tb):=⟨Ax5 (Bs5 hu) ha.get hb.get (K7 _)⟩
theorem Ja (hu:X.A.units+64<cLine)(ha:QE X a ta)(hb:QE X b tb):QT X (.Compare a [.Eq] [b] pos) (Ld (tOp rEQ ta tb)):=⟨Hr (Bs5 hu) ha.get hb.get (K7 _)⟩
theorem Rh (hu:X.A.units+64<cLine)(ha:QE X a ta)(hb:QE X b tb):QT X (.Compare a [.NotEq] [b] pos) (Ld (tOp rNE ta tb)):=⟨Hr (B5n hu) ha.get hb.get (K7 _)⟩
theorem B3r (hu:X.A.units+64<cLine)(ha:QE X a ta)(hb:QE X b tb)(hm:behindInMarks .In b=false):QT X (.Compare a [.In] [b] pos) (Ld (tOp rIN ta tb)):=⟨Hr (B3w hu) ha.get hb.get hm⟩
theorem Ge (a:X.K=Kq) (hgl:Gl X "len") (hm:X.mg "len" = none) (ha:QA X (e::es) t) (hns:noStar (e::es)=true:=by rfl):QE X (.Call (.Name "len" p) (e::es) [] pos) (tCB (Bk1 Kq) t):=by
 subst a
 exact⟨Gx A8i hgl hm B1a ha.get (by decide) (by rfl) hns⟩
theorem A6x (a:X.K=Kq) (hu:X.A.units+64<cLine) (hg:X.A.guards=some []) (hgl:Gl X "str") (hm:X.mg "str" = none) (ha:QA X (e::es) t) (hns:noStar (e::es)=true:=by rfl):QE X (.Call (.Name "str" p) (e::es) [] pos) (tCB (Bx1 Kq) t):=by
 exact⟨Ku (U.CallR.or (U.CallR.or Z4 (A2j hu hg)) A1g) hgl hm A5a ha.get (by decide) (by rfl) hns⟩
theorem Wy (a:X.K=Kq) (he:QE X e te) (hl:QO X low tl) (hu:QO X hi th):QE X (.Subscript e (.Slice low hi none p2) pos) (tSl (rSL Kq) te tl th):=by
 subst a;exact A8b By3 he hl hu
end L2
namespace U
open PySem L2
def Def (P:u9)(w:World)(K:v9)(mg:x_)(base:Heap)(x:Str)(k:Nat)(ps:v4)(sp:Sp):Prop :=
 ∃(f:Addr) (fd:u6),FnOk P w K mg base CX0 k f fd ps sp/\Binds K fd ps []/\PySem.W.keepIn K (.ref f)=true/\mg x=some (.ref f)
def Ay3 (K:v9):Sp:=λvs H Q _=>∃(a:Addr) (ns:List Int),vs=[.ref a]/\SqL K H a (ns.map V.int)/\ns.length<=63/\∀H',Q (.bl true) H'
theorem Bu9 (f:∀b:List Int,b.length<=63->F [.sc b]=.ret (.im (.bool true)) [.sc b]) (h:Ay3 K vs H Q E):spP K F vs H Q E:=by
 obtain⟨a,b,rfl,c,d,q⟩:=h
 refine⟨λ_=>.non,⟨H,H,λ_=>[]⟩,[.sc b],rfl,rfl,⟨Same.refl _,rfl,λi o e=>?_,λi j a h=>by grind,λi a h=>by grind⟩,?_⟩
 ·cases i with
  | zero =>
   cases (show some _=some _ from e)
   exact⟨.ref a,rfl,⟨rfl,a,rfl,c⟩,λz=>nomatch z⟩
  | succ i=>grind
 ·rw[f _ d]
  intro v W' fp st R r n
  cases (show v=.bl _ from r.2)
  grind
theorem B0u : FnOk P w K mg base CX0 n f c ps (spP K λ_=>.bad) :=
 ⟨λd H Q E h=>by obtain⟨_,_,_,_,_,_,h⟩:=h;simp_all,λA a s H b e d Q E _ _ _ _ h=>by obtain⟨_,_,_,_,_,_,h⟩:=h;simp_all⟩
noncomputable def Au7 (i j:Int):Bool:=decide (0<j)&&decide (j<1073741824)
theorem A4j (i j:Int)(h:Au7 i j=true):Bf2 i j:=by
 obtain⟨b,a⟩:=az.mp h;exact⟨aX b,aX a⟩
noncomputable def A8h (i j:Int):Bool:=decide (0<j)
theorem A4e (i j:Int)(h:A8h i j=true):0<j:=aX h
noncomputable def Ah4 (i j:Int):Bool:=decide (0<=j)&&(decide (j<=1000000)&&decide (i.natAbs<2 ^ 64))
theorem Bc9 (i j:Int)(h:Ah4 i j=true):Bh5 i j:=by
 obtain⟨c,a⟩:=az.mp h;obtain⟨a,b⟩:=az.mp a;exact⟨aX c,aX a,aX b⟩
section
variable {K:v9}
abbrev T6:t_->t_->m6:=V9 λi j=>.int (i-j)
abbrev Ai9:t_->t_->m6:=V9 λi j=>.bool (decide (j<i))
abbrev B0x:t_->t_->m6:=V9 λi j=>.bool (decide (j<=i))
theorem Bq0:OpS K (rI0 λi j=>.int (i-j)) T6:=Aa0 λ_ _ _=>rfl
theorem Ap7:OpS K (rI0 λi j=>.bl (decide (j<i))) Ai9:=Aa0 λ_ _ _=>rfl
theorem Bz6:OpS K (rI0 λi j=>.bl (decide (j<=i))) B0x:=Aa0 λ_ _ _=>rfl
abbrev Ym:t_->t_->m6:=opI Au7 λi j=>i / j
abbrev Ol:t_->t_->m6:=opI A8h λi j=>i % j
abbrev Ag7:t_->t_->m6:=opI Ah4 λi j=>i ^ j.toNat
theorem Bb2:OpS K (rI Bf2 λi j=>.int (i / j)) Ym:=Av4 A4j
theorem Bk9:OpS K (rI (λ_ j=>0<j) λi j=>.int (i % j)) Ol:=Av4 A4e
theorem Br2:OpS K (rI Bh5 λi j=>.int (i ^ j.toNat)) Ag7:=Av4 Bc9
def Bv3 (fa fb:n6):n6:=λc=>(fa c).bind λp c=>(fb c).bind λq c=>match nrm p,Z3 (Cq c (nrm q)) with
 | .o (.sc ns),some k=>match atI ns k with
  | some i=>.ok (.o (.im (.int i))) c
  | none=>.bad
 | _,_=>.bad
theorem Bd9 (h:atI ns k=some i):atI (ns.map V.int) k=some (V.int i):=by
 unfold atI at h ⊢;obtain⟨j,b,a⟩:=bY.mp h
 simp_all
theorem B2v (ha:ME K h fa) (hb:ME K j fb):ME K (tOp (rIx K) h j) (Bv3 fa fb):=by
 intro β W c σ Q R s
 refine ha.toV _ W c _ _ R (s.bnd.mono λp c1 u v1 W1 f n d=>?_)
 refine hb.toV _ _ _ _ _ n (u.bnd.mono λq t b v2 W2 e g m=>?_)
 have d:=RepA.same e.fz d
 cases ey:Z3 (Cq t (nrm q)) with
 | none =>
  simp only[ey]at b;generalize nrm p=np at b
  cases np with
  | sl i=>trivial
  | o o=>cases o <;> exact b.elim
 | some k =>
  simp only[ey]at b;generalize nrm p=np at b d
  match np,d,b with
  | .o (.sc ns),d,b =>
   have b:(match atI ns k with
    | some i=>U.R.ok _ _
    | none=>.bad).sat _:=b
   cases ei:atI _ k with
   | none=>rw[ei]at b;trivial
   | some i =>
    rw[ei]at b;obtain⟨a,rfl,w⟩:=d
    cases Dm (Dz g m (Zm ey))
    exact .inl ⟨a,_,k,.int i,rfl,rfl,Same.seq g.sub w,Bd9 ei,g.here (o:=.im (.int i)) rfl rfl λv W' fp x l r=>b v _ _ (f.trans (e.trans x)) l r⟩
  | .o (.im _),d,b=>exact b.elim
  | .o (.ls _ _),d,b=>exact b.elim
  | .o (.ty _),d,b=>exact b.elim
  | .sl _,d,b=>trivial
end
section
variable {w:World}{K:v9}{Hf H:Hp}{Q:VK}{W:Wo}{c:Ev}{v:V}
def cMt (isT:t_->Bool)(op:t_->t_->m6)(fa fb:n6):n6:=λc=>(fa c).bind λp c=>match Cq c (nrm p) with
 | some d=>if isT d=true then (fb c).bind λq c=>match Cq c (nrm p),Cq c (nrm q) with
  | some x,some y=>match op x y with
   | some o=>.ok (.o o) c
   | none=>.bad
  | _,_=>.bad
  else .bad
 | none=>.bad
theorem Bt6 (ha:ME K l fa) (hb:ME K m fb)
 (n:∀(Hf H:Hp) (d:t_) (v:V),a d=true->Same Hf H->RdV Hf H d v->tyV K T v H) (hr:OpS K (λx y H Q=>r x [y] H Q) op):ME K (tBM K T r l (Bp m Er)) (cMt a op fa fb):=by
 intro E W c C Q R s
 refine ha.toV _ W c _ _ R (s.bnd.mono λp w e B D i h j=>?_)
 cases ed:Cq w (nrm p) with
 | none=>simp only[ed]at e;trivial
 | some d =>
  simp only[ed]at e
  by_cases it:a d=true
  case neg=>rw[if_neg it]at e;trivial
  rw[if_pos it]at e
  refine⟨n _ _ d _ it h.sub (Dz h j ed),?_⟩
  refine hb.toV _ _ _ _ _ h (e.bnd.mono λq k b I J f g u=>?_)
  cases ex:Cq k (nrm p) with
  | none=>simp only[ex]at b;trivial
  | some x =>
   cases ey:Cq k (nrm q) with
   | none=>simp only[ex,ey]at b;trivial
   | some y =>
    simp only[ex,ey]at b
    cases eo:op x y with
    | none=>simp only[eo]at b;trivial
    | some o =>
     simp only[eo]at b
     exact hr _ _ _ _ x y o Q g.sub (Dz g (RepA.same f.fz j) ex) (Dz g u ey) eo (New.of g λv F G z A t=>b v _ _ (i.trans (f.trans z)) A t)
noncomputable def Kg:t_->Bool
 | .tuple _=>true
 | _=>false
theorem A7w (Hf H:Hp)(d:t_)(v:V)(h:Kg d=true)(s:Same Hf H)(r:RdV Hf H d v):tyV K "tuple" v H:=by
 cases d with
 | tuple ds =>
  obtain⟨a,c,rfl,b,t⟩:=Hh s r;exact .inr (.inr (.inr (.inr ⟨rfl,c,b⟩)))
 | _=>cases h
noncomputable def strsOf:w5->Option (v4)
 | []=>some []
 | .str z::ds=>(strsOf ds).map (z::·)
 | _=>none
theorem As0:∀{ds:w5}{ss:v4}{vs:m7},strsOf ds=some ss->TrL Hf ds vs->vs=ss.map V.str
 | [],ss,vs,h,t=>by cases h;exact t
 | d::ds,ss,_,h,⟨v,r,rfl,h1,h2⟩=>by
  cases d with
  | str z =>
   have h:(strsOf ds).map (z::·)=some ss:=h
   cases e:strsOf ds with
   | none=>rw[e]at h;cases h
   | some ts =>
    rw[e]at h;cases h
    rw[As0 e h2,show v=V.str z from h1];rfl
  | _=>cases h
noncomputable def Wc (y:Str):v4->Option Nat
 | []=>none
 | x::xs=>if x==y then some 0 else (Wc y xs).map (·+1)
theorem Au0 {y:Str}:∀{xs:v4}{j:Nat},Wc y xs=some j->xs[j]?=some y/\∀m<j,xs[m]?≠some y
 | [],j,h=>by cases h
 | x::xs,j,h=>by
  unfold Wc at h
  by_cases q:(x==y)=true
  ·rw[if_pos q]at h;cases h
   exact⟨by simpa using q,λm hm=>absurd hm (Nat.not_lt_zero _)⟩
  ·rw[if_neg q]at h
   cases e:Wc y xs with
   | none=>rw[e]at h;cases h
   | some k =>
    rw[e]at h;cases h;obtain⟨h1,h2⟩:=Au0 e
    refine⟨by simpa using h1,λm hm=>?_⟩
    cases m with
    | zero=>simpa using q
    | succ m=>simpa using h2 m (jG hm)
def J0:t_->t_->m6
 | .tuple ds,.str y=>(strsOf ds).bind λss=>(Wc y ss).map λj=>.im (.int (j:Nat))
 | _,_=>none
theorem A2x:OpS K (λx y H Q=>Zi K x [y] H Q) J0:=by
 intro Hf H x y dx dy o Q s f g e n;unfold J0 at e
 split at e
 ·rename_i d z
  obtain⟨a,vs,rfl,i,t⟩:=Hh s f
  cases es:strsOf d with
  | none=>grind
  | some b =>
   rw[es]at e;have e:(Wc z _).map _=some o:=e
   cases ei:Wc z b with
   | none=>grind
   | some j =>
    rw[ei]at e;cases e
    cases Fy g
    cases As0 es t
    obtain⟨h,c⟩:=Au0 ei;exact⟨a,b,z,j,rfl,rfl,SqT.of i,h,c,n.int s⟩
 grind
end
end U
namespace U
open PySem L2 PySem.W
noncomputable def Bv1:O->Option t_
 | .im k=>some k
 | .ls false xs=>some (.list xs)
 | _=>none
def An3 (F:n_)(d:t_):Option t_:=match F [.im d] with
 | .ret o _=>Bv1 o
 | .bad=>none
def Uj (F:n_):w5->Option (w5)
 | []=>some []
 | d::ds=>(An3 F d).bind λk=>(Uj F ds).map (k::·)
noncomputable def kdOf:w5->Kd
 | .tuple (.tuple _::_)::_=>.tt
 | _=>.ti
def A3i (ds ks:w5):Option (w5):=if ds.length<2 then some ds else if ds.length<64&&(ks.all (Wa (kdOf ks))&&ks.all Bu) then (kEv (A0v (kdOf ks) ks) (kas_sort ds.length)).map λp=>p.toList.map λi=>ds.getD i .none else none
def B1h (F:n_)(fa:n6):n6:=λc=>(fa c).bind λp c=>match (Cq c (nrm p)).bind Nz with
 | none=>.bad
 | some ds=>match (Uj F ds).bind (A3i ds) with
  | none=>.bad
  | some out=>.ok (.o (.ls false out)) c
section
variable {K:v9}{β:Nat->V}{W W':Wo}{c:Ev}{σ:St}{Hf H:Hp}
theorem TrL.at_:∀{ds:w5}{vs:m7},TrL Hf ds vs->∀i,Tr Hf (ds.getD i .none) (vs.getD i .non)
 | [],_,h,i=>by cases (show _=[] from h);exact rfl
 | d::ds,_,⟨v,r,e,t,ts⟩,0=>by subst e;exact t
 | d::ds,_,⟨v,r,e,t,ts⟩,i+1=>by subst e;exact TrL.at_ ts i
theorem TrL.pick {ds:w5}{vs:m7}(t:TrL Hf ds vs):∀l:List Nat,TrL Hf (l.map λi=>ds.getD i .none) (l.map λi=>vs.getD i .non)
 | []=>rfl
 | i::l=>⟨_,_,rfl,TrL.at_ t i,TrL.pick t l⟩
theorem TrL.len':∀{ds:w5}{vs:m7},TrL Hf ds vs->ds.length=vs.length
 | [],_,h=>by cases (show _=[] from h);rfl
 | d::ds,_,⟨v,r,e,t,ts⟩=>by subst e;rw[aR,aR,TrL.len' ts]
theorem A7y (R:Rep K β W c σ) (t:Tr W.Hf d v) (m:An3 F d=some k) (h:∀e a,Stp W.S W.Hf W.H a.S a.Hf a.H->Rep K β a c σ->Tr a.Hf k e->Q e a.H):spP K F [v] W.H Q E0:=by
 have j:∃o b,F [.im d]=.ret o b/\Bv1 o=some k:=by
  unfold An3 at m
  grind
 obtain⟨o,b,j,f⟩:=j
 have p:nrm (.o o)=.o (.im k):=by
  unfold Bv1 at f
  split at f
  ·cases f;rfl
  ·cases f;rfl
  trivial
 have r:Ti F [.o (.im d)] c=.ok (.o o) c:=by
  unfold Ti;simp only[Xx,fu,j]
  rfl
 refine (Xi (ps:=[.o (.im d)]) R ⟨v,[],rfl,t,rfl⟩ ?_:spP K F _ _ _ _)
 rw[r]
 exact λx w n g q i=>Bt1 (λe a u s l=>h e _ u s (by rw[p]at l;exact l)) _ _ _ g q i
theorem Ab0 {F:n_}{Q:m7->Hp->Prop}:∀(ds:w5) (vs:m7) (ks kd:w5) (kv:m7) (W:Wo),Rep K β W c σ->TrL W.Hf ds vs->Uj F ds=some ks->TrL W.Hf kd kv ->
 (∀W' kv',Stp W.S W.Hf W.H W'.S W'.Hf W'.H->Rep K β W' c σ->TrL W'.Hf (kd++ks) kv'->Q kv' W'.H)->Aw2 (spP K F) vs kv W.H Q
 | [],vs,ks,kd,kv,W,R,t,e,tk,h=>by
  cases (show vs=[] from t)
  cases (show some []=some ks from e)
  exact h W kv Stp.refl R (by rw[cG];exact tk)
 | d::ds,vs,ks,kd,kv,W,R,⟨v,r,ev,t,ts⟩,e,tk,h=>by
  subst ev
  obtain⟨k,e1,e2⟩:=bY.mp (show (An3 F d).bind (λk=>(Uj F ds).map (k::·))=some ks from e)
  obtain⟨ks',e3,rfl⟩:=aO.mp e2
  show spP K F [v] W.H (λkv1 H1=>Aw2 (spP K F) r (kv++[kv1]) H1 Q) E0
  refine A7y R t e1 λv' W' st R' tv=>?_
  refine Ab0 ds r ks' (kd++[k]) (kv++[v']) W' R' (TrL.same st.fz ts) e3 ((TrL.same st.fz tk).app (TrL.one tv)) λW2 kv' st2 R2 t2=>?_
  exact h W2 kv' (st.trans st2) R2 (by rw[dJ]at t2;exact t2)
theorem Bw8 (ha:ME K C fa):ME K (B2q K f (spP K F) (Bp C Er) (Bp (tC (.ref f)) Er)) (B1h F fa):=by
 intro M W c σ Q R s
 refine ha.toV M W c σ _ R (s.bnd.mono λp L i U r u n T=>?_)
 cases ed:(Cq L (nrm p)).bind Nz with
 | none=>simp only[ed]at i;exact i.elim
 | some l =>
  simp only[ed]at i
  cases ek:(Uj F l).bind (A3i l) with
  | none=>simp only[ek]at i;exact i.elim
  | some o =>
   simp only[ek]at i;obtain⟨d,Y,w⟩:=bY.mp ed;obtain⟨m,S,g⟩:=bY.mp ek;have B:=Dz n T Y
   obtain⟨a,b,rfl,G,t⟩:∃a b,U=.ref a/\(SqL K r.H a b\/SqT K r.H a b)/\TrL r.Hf l b:=by
    cases d with
    | list H =>
     cases w
     obtain⟨a,b,e,h,t⟩:=El B;exact⟨a,b,e,.inl (SqL.of h),t⟩
    | tuple H =>
     cases w
     obtain⟨a,b,e,h,t⟩:=Hh n.sub B;exact⟨a,b,e,.inr (SqT.of h),t⟩
    | _=>cases w
   refine⟨a,b,rfl,rfl,G,?_⟩
   refine Ab0 _ _ _ [] _ _ n t S rfl λJ kv j x N=>?_
   have t:=TrL.same j.fz t;have P:=TrL.len' t
   have k:∀(z:List _) (y:m7),z=o->TrL _ z y->∀q,J.H q=none->Q (.ref q) (upd _ q (.lst y)):=λz y e X q I=>by
    subst e
    exact New.lst (New.of x λv W' fp Z R' rp=>i v _ _ (u.trans (j.trans Z)) R' rp) x.sub X I
   unfold A3i at g
   by_cases h2:l.length<2
   ·rw[if_pos h2]at g
    cases g
    exact .inl ⟨by lia,k _ _ rfl t⟩
   ·rw[if_neg h2]at g
    by_cases hb:(decide (l.length<64)&&(m.all (Wa (kdOf m))&&m.all Bu))=true
    ·rw[if_pos hb]at g
     obtain⟨D,A⟩:=az.mp hb;obtain⟨A,b3⟩:=az.mp A;have D:=aX D;obtain⟨pm,q1,q2⟩:=aO.mp g
     refine .inr ⟨by lia,by lia,m,kdOf _,pm,TrL.same x.sub N,A,λd E=>Eu (aZ.mp b3 d E),by rw[<- P];exact q1,k _ _ q2 (TrL.pick t _)⟩
    ·rw[if_neg hb]at g;cases g
end
end U
namespace U
open PySem L2
section
variable {K:v9}{Hf H:Hp}
noncomputable def Jh:t_->Bool
 | .list _=>true
 | _=>false
theorem Ap0 (Hf H:Hp)(d:t_)(v:V)(h:Jh d=true)(s:Same Hf H)(r:RdV Hf H d v):tyV K "list" v H:=by
 cases d with
 | list ds =>
  obtain⟨a,c,rfl,b,t⟩:=El r;exact .inl ⟨rfl,c,SqL.of b⟩
 | _=>cases h
noncomputable def Bb6:List Bool->Option Nat
 | []=>none
 | true::_=>some 0
 | false::r=>(Bb6 r).map (·+1)
theorem At7:∀{bs:List Bool}{j:Nat},Bb6 bs=some j->bs[j]?=some true/\∀m<j,bs[m]?≠some true
 | true::r,j,h=>by cases h;exact⟨rfl,λm hm=>by lia⟩
 | false::r,j,h=>by
  obtain⟨k,h1,rfl⟩:=aO.mp (show (Bb6 r).map (·+1)=some j from h)
  obtain⟨q1,q2⟩:=At7 h1
  refine⟨by rw[dI];exact q1,λm hm=>?_⟩
  cases m with
  | zero=>simp
  | succ m=>rw[dI];exact q2 m (by lia)
def T5:t_->t_->m6
 | .list ds,.bool true=>(boolsOf ds).bind λbs=>(Bb6 bs).bind λj=>if j<1000000 then some (.im (.int (j:Nat))) else none
 | _,_=>none
theorem An0:OpS K (λx y H Q=>At1 K x [y] H Q) T5:=by
 intro Hf H x y dx dy o Q s rx ry e n;unfold T5 at e
 split at e
 ·rename_i ds
  obtain⟨bs,e1,e2⟩:=bY.mp (show ((boolsOf ds).bind λbs=>(Bb6 bs).bind λj=>if j<1000000 then some (O.im (.int (j:Nat))) else none)=some o from e)
  obtain⟨j,e3,e4⟩:=bY.mp e2
  by_cases hb:j<1000000
  ·rw[if_pos hb]at e4
   cases e4
   obtain⟨a,vs,rfl,h1,t⟩:=El rx
   cases Sq e1 t
   cases (show y=.bl true from ry)
   obtain⟨q1,q2⟩:=At7 e3;exact⟨a,bs,j,rfl,rfl,SqL.of h1,q1,q2,hb,n.int s⟩
  ·rw[if_neg hb]at e4;cases e4
 ·cases e
end
inductive XF where
 | ret (o:O)
 | ex (nm:Xn)
 | bad
inductive XS where
 | s (r:SR)
 | ex (nm:Xn) (c:Ev)
def spX (K:v9)(F:w5->XF):Sp:=λvs H Q E=>∃(Hf:Hp) (ds:w5),Same Hf H/\TrL Hf ds vs/\match F ds with
 | .bad=>False
 | .ret o=>∀v Hf' H' fp,Stp (λ_=>False) Hf H (λa=>a∈fp) Hf' H'->Same Hf' H'->RepO K Hf' H' o v fp->Q v H'
 | .ex nm=>∀C d Hf' H',XAt K Hf' nm C d->Stp (λ_=>False) Hf H (λ_=>False) Hf' H'->Same Hf' H'->E (.ref C) d H'
def LeadX (K:v9)(β:Nat->V)(W:Wo)(D:Ends)(E:XK):XS->Prop
 | .s r=>zF K β W D r
 | .ex nm c'=>∀C d σ' W',XAt K W'.Hf nm C d->Stp W.S W.Hf W.H W'.S W'.Hf W'.H->Rep K β W' c' σ'->E (.ref C) d W'.H
def MX (K:v9)(E:XK)(T:TS)(f:Ev->XS):Prop:=∀(β:Nat->V) (W:Wo) (c:Ev) (σ:St) (D:Ends),Rep K β W c σ->LeadX K β W D E (f c)->T D σ W.H
noncomputable def Fd (f:Ev->SR):Ev->XS:=λc=>.s (f c)
noncomputable def Jk (f g:Ev->XS):Ev->XS:=λc=>match f c with
 | .s (.nx c)=>g c
 | r=>r
noncomputable def xIf (t:o_) (f g:Ev->XS):Ev->XS:=λc=>match t c with
 | .ok b c=>if b=true then f c else g c
 | .bad=>.s .bad
def J1 (nm:Str)(fa:o9):Ev->XS:=λc=>match fa c with
 | .ok _ c=>.ex ⟨nm,none⟩ c
 | .bad=>.s .bad
noncomputable def scO:O->Bool
 | .im .none=>true
 | .im (.bool _)=>true
 | .im (.int _)=>true
 | .im (.str _)=>true
 | _=>false
def B5w (F:w5->XF)(fa:o9)(k:O->Ev->XS)(h:Xn->Ev->XS):Ev->XS:=λc=>match fa c with
 | .bad=>.s .bad
 | .ok ps c=>match A8w c ps with
  | none=>.s .bad
  | some ds=>match F ds with
   | .bad=>.s .bad
   | .ret o=>if scO o=true then k o c else .s .bad
   | .ex nm=>if nm.p.isNone=true then h nm c else .s .bad
def M3 (n N:Nat)(body:Ev->XS):w5->XF:=λds=>if ds.length=n then match body (ds.map (λd=>some (.im d))++List.replicate (N-n) none) with
 | .s (.nx _)=>.ret (.im .none)
 | .s (.rt p c)=>match resolve p c with
  | some (o,_)=>.ret o
  | none=>.bad
 | .ex nm _=>.ex nm
 | _=>.bad
 else .bad
section
variable {K:v9}{β:Nat->V}{W W':Wo}{c c':Ev}{D:Ends}{E:XK}{Hf H:Hp}{o:O}{v:V}
theorem LeadX.step {r:XS}(h:LeadX K β W D E r)(st:Stp W.S W.Hf W.H W'.S W'.Hf W'.H):LeadX K β W' D E r:=by
 cases r with
 | s r=>exact zF.step h st
 | ex g c=>exact λC d e i b a f=>h C d _ _ b (st.trans a) f
theorem Ik {T:TS}{f:Ev->SR}(h:MS K T f):MX K E T (Fd f):=λb W c a D R l=>h _ W c _ D R l
theorem Tw {T U:TS}{f g:Ev->XS}(h1:MX K E T f)(h2:MX K E U g):MX K E (V6 T U) (Jk f g):=by
 intro m W c i D R l
 refine h1 _ W c _ _ R ?_
 unfold Jk at l
 cases e:f c with
 | ex j a=>rw[e]at l;exact l
 | s r =>
  rw[e]at l
  cases r with
  | nx a=>exact λh k d b=>h2 _ _ _ _ D b (LeadX.step l d)
  | rt p a=>exact l
  | bk a=>exact l
  | ct a=>exact l
  | bad=>exact l
theorem Ad9 {i:TT}{T U:TS}{ft:o_}{f g:Ev->XS}(h:MT K i ft)(h1:MX K E T f)(h2:MX K E U g):MX K E (A2h i T U) (xIf ft f g):=by
 intro j W c n D R l;unfold xIf at l
 refine h _ W c _ _ R ?_
 cases e:ft c with
 | bad=>rw[e]at l;exact l
 | ok b k =>
  rw[e]at l;intro m d a
  cases b with
  | true=>exact h1 _ _ _ _ D a (LeadX.step l d)
  | false=>exact h2 _ _ _ _ D a (LeadX.step l d)
theorem Oe {nm:Str}{C:Addr}{t:TA}{d:o9}(hn:PySem.W.nsIn K mainGlobals nm=some (some (.ref C)))(ha:MA K t d)(hl:∀c a c',d c=.ok a c'->a.length<=1000):MX K E (A8c C E t) (J1 nm d):=by
 intro β W c i D R l;unfold J1 at l
 refine ha _ W c _ _ R ?_
 cases e:d c with
 | bad=>rw[e]at l;exact l
 | ok a c1 =>
  rw[e]at l;intro b f j g k
  have:∀{a:List _} {b:m7},zL K f.Hf i a b->b.length=a.length:=λ{a}=>by
   induction a with
   | nil=>intro b h;cases (h);rfl
   | cons p r ih=>intro b h;obtain⟨v,vr,rfl,_,t⟩:=h;simp_all
  exact⟨by rw[this k];exact aq (hl c _ _ e) (by decide),l C _ _ _ ⟨hn,rfl⟩ j g⟩
theorem Be0 (h:orS S [] a):S a:=by
 grind
theorem Yk {n N:Nat}{body:Ev->XS}{vs:m7}{Q:VK}(hs:spX K (M3 n N body) vs H Q E):vs.length=n:=by
 obtain⟨d,b,c,t,a⟩:=hs;unfold M3 at a
 by_cases hn:b.length=n
 ·rw[<- t.length];grind
 simp_all
theorem Zj {n:Nat}{N:v4}{body:Ev->XS}{T:TS}{vs:m7}{Q:VK}(h:MX K E T body)(hs:spX K (M3 n N.length body) vs H Q E):T { nx:=λ_ G=>Q .non G,rt:=Q } (start N vs) H:=by
 obtain⟨P,u,A,t,c⟩:=hs;unfold M3 at c
 by_cases l:u.length=n
 ·rw[if_pos l]at c
  have B:=t.length
  let W:Wo:=⟨P,H,λ_=>[]⟩
  have R:Rep K (λ_=>.non) W (u.map (λd=>some (.im d))++List.replicate (N.length-n) none) (start N vs):=by
   refine⟨A,?_,λi o e=>?_,(λi j a z=>nomatch z),λi a z=>nomatch z⟩
   ·show _=(vs.map some++List.replicate (N.length-vs.length) none).length
    rw[aM,aM,ao,ao,j0,j0,<- B,l]
   ·by_cases li:i<u.length
    ·rw[dw (by rw[ao];exact li),bV]at e
     cases ed:u[i]? with
     | none=>rw[ed]at e;cases e
     | some d =>
      rw[ed]at e;cases e;obtain⟨v,J,L⟩:=t.got ed
      refine⟨v,?_,⟨rfl,L⟩,λz=>nomatch z⟩
      show (vs.map some++List.replicate (N.length-vs.length) none)[i]?=_
      rw[dw (by rw[ao,<- B];exact li),bV,J];rfl
    ·rw[dz (by rw[ao];exact jl li),List.getElem?_replicate]at e
     split at e <;> cases e
  have b:∀a,W.S a->False:=λa ⟨i,z⟩=>nomatch z
  refine h _ W _ (start N vs) _ R ?_
  cases eb:body (u.map (λd=>some (.im d))++List.replicate (N.length-n) none) with
  | ex Y k =>
   rw[eb]at c
   exact λC d w g l f m=>c C d g.Hf g.H l ⟨f.fz,λa o e _=>f.kp a o e (b a),λa o e x _ q=>f.nf a o e x (b a) q,λa z=>z.elim⟩ m.sub
  | s r =>
   rw[eb]at c
   cases r with
   | nx k=>exact λw g f m=>c .non g.Hf g.H [] ⟨f.fz,λa o e _=>f.kp a o e (b a),λa o e x _ q=>f.nf a o e x (b a) q,λa z=>nomatch z⟩ m.sub ⟨rfl,rfl⟩
   | rt p k =>
    intro w v g X f m O
    cases er:resolve p k with
    | none=>simp only[er]at c
    | some q =>
     simp only[er]at c;obtain⟨Z,I,M,D,U,S,n2,F⟩:=Nq m O er;rw[<- D]
     refine c v _ _ _ ?_ U.sub S
     rw[M,D]
     refine⟨f.fz,λa o e _=>f.kp a o e (b a),λa o e x _ q=>f.nf a o e x (b a) q,λa z=>?_⟩
     rcases f.fr a (F a (.inr z)) with y | y
     ·exact(b a y).elim
     ·exact .inr y
   | bk k=>exact c.elim
   | ct k=>exact c.elim
   | bad=>exact c.elim
 ·rw[if_neg l]at c;exact c.elim
end
end U
set_option autoImplicit true
namespace U
open PySem L2
def Bm5 (i:Option Nat)(o:O)(c:Ev):XS:=.s (match i with
 | some i=>(cgN i (.o o) c).toS λ_ c=>.nx c
 | none=>.nx c)
def
 tryH (j:Nat) (NS:v4) (fh:Ev->SR) (nm:Xn) (c:Ev):XS:=.s (if NS.contains nm.n then match fh (c.set j (some (.ty (.xc nm)))) with
 | .nx c2=>.nx (c2.set j none)
 | _=>.bad
 else .bad)
noncomputable def unX:XS->SR
 | .s r=>r
 | .ex _ _=>.bad
def Ju (tbl:List (Str×Bool))(f:n6):n6:=λc=>(f c).bind λp c=>match rdP c p with
 | some (.ty (.xc nm))=>match tbl.lookup nm.n with
  | some b=>.ok (.o (.im (.bool b))) c
  | none=>.bad
 | _=>.bad
def A8q (f:n6):n6:=λc=>(f c).bind λp c=>match rdP c p with
 | some (.ty (.xc _))=>.ok (.o (.im (.bool false))) c
 | some (.im .none)=>.ok (.o (.im (.bool true))) c
 | _=>.bad
section
variable {K:v9}{β:Nat->V}{W W':Wo}{c:Ev}{σ:St}{Hf H:Hp}{o:O}{v:V}{fp:v6}
theorem Rep.setU {j:Nat}(R:Rep K β W (c.set j none) σ):Rep K β W (c.set j none) (σ.set j none):=by
 refine⟨R.sub,by rw[R.len,bD],λi o e=>?_,R.dis,R.own⟩
 by_cases ij:i=j
 ·subst ij
  rw[List.getElem?_set]at e
  simp at e
 ·obtain⟨v,e1,r⟩:=R.get i o e
  exact⟨v,by rw[bQ (aC ij)];exact e1,r⟩
theorem A7f {p:PV}{nm:Xn}(R:Rep K β W c σ)(r:Dh K W σ p v fp)(e:rdP c p=some (.ty (.xc nm))):RepN K W.Hf (.ty (.xc nm)) v:=by
 cases p with
 | o f=>cases e;exact r.1.2
 | sl i =>
  have e:c[i]?.join=some _:=e
  have b:c[i]?=some (some (.ty (.xc nm))):=by
   grind
  obtain⟨g,a,d,_⟩:=R.get i _ b;have h := r.2;rw[h]at a;cases a;exact d.2
theorem Bf5 {l:TE}{f:n6}{cv:V}{z:Value}{i:List (Str×Bool)}(hz:Bv0 cv=some z)(ht:∀nm b,i.lookup nm=some b->∀C,PySem.W.nsIn K mainGlobals nm=some (some (.ref C))->K5 K C/\PySem.W.kitOne K (.ref C) z=some b)(h:ME K l f) :
 ME K (tCB (Am3 K) (Bp l (Bp (tC cv) Er))) (Ju i f):=by
 intro w W c x Q R s
 refine h _ W c _ _ R (s.bnd.mono λp q g y A r j k t=>?_)
 cases ed:rdP q p with
 | none=>simp only[ed]at g;trivial
 | some o =>
  simp only[ed]at g
  match o,ed,g with
  | .ty (.xc nm),ed,g =>
   cases el:i.lookup nm.n with
   | none=>simp only[el]at g;trivial
   | some b =>
    simp only[el]at g;obtain⟨a,C,d,e,n,u⟩:=A7f k t ed;subst e;obtain⟨v,m⟩:=ht _ b el C n.ns
    refine⟨a,C,d,cv,z,b,rfl,k.sub _ _ u,v,hz,m,?_⟩
    exact g _ _ _ (j.less λa z=>by
     grind) k ⟨⟨rfl,rfl⟩,λa z=>nomatch z⟩
  | .ty (.nm _),ed,g=>trivial
  | .ty (.tc _),ed,g=>trivial
  | .ty (.dc _ _),ed,g=>exact g.elim
  | .ty (.dt _ _),ed,g=>exact g.elim
  | .ty (.ds _ _),ed,g=>exact g.elim
  | .ty (.td _ _ _),ed,g=>exact g.elim
  | .im _,ed,g=>exact g.elim
  | .ls _ _,ed,g=>exact g.elim
  | .sc _,ed,g=>trivial
theorem B0d {p:PV}(R:Rep K β W c σ)(r:Dh K W σ p v fp)(e:rdP c p=some (.im .none)):v=.non:=by
 cases p with
 | o f=>cases e;exact r.1.2
 | sl i =>
  have e:c[i]?.join=some _:=e
  have b:c[i]?=some (some (.im .none)):=by
   grind
  obtain⟨g,a,d,_⟩:=R.get i _ b;have h := r.2;rw[h]at a;cases a;exact d.2
theorem Bo8 {m:TE}{f:n6}(h:ME K m f):ME K (tOp (λx y H Q=>y=.non/\Q (.bl (decide (x=.non))) H) m (tC .non)) (A8q f):=by
 intro u W c t Q R s
 refine h _ W c _ _ R (s.bnd.mono λp q g A w r j l n=>?_)
 refine⟨rfl,?_⟩
 have i:∀b ,(∀v W' fp,Stp _ _ _ (orS W'.S fp) W'.Hf W'.H->Rep K _ W' _ _->Dh K W' t (.o (.im (.bool b))) v fp->Q v W'.H)->Q _ _:=λb k=>k _ _ _ (j.less λa z=>by
  grind) l ⟨⟨rfl,rfl⟩,λa z=>nomatch z⟩
 cases ed:rdP q p with
 | none=>simp only[ed]at g;trivial
 | some o =>
  simp only[ed]at g
  match o,ed,g with
  | .ty (.xc _),ed,g =>
   obtain⟨a,C,d,e,_⟩:=A7f l n ed;subst e;exact i _ g
  | .im .none,ed,g=>cases B0d l n ed;exact i _ g
  | .im (.bool _),ed,g=>trivial
  | .im (.int _),ed,g=>trivial
  | .im (.str _),ed,g=>trivial
  | .im (.list _),ed,g=>trivial
  | .im (.tuple _),ed,g=>trivial
  | .im (.dict _),ed,g=>exact g.elim
  | .ty (.nm _),ed,g=>exact g.elim
  | .ty (.tc _),ed,g=>exact g.elim
  | .ty (.dc _ _),ed,g=>exact g.elim
  | .ty (.dt _ _),ed,g=>exact g.elim
  | .ty (.ds _ _),ed,g=>exact g.elim
  | .ty (.td _ _ _),ed,g=>exact g.elim
  | .ls _ _,ed,g=>exact g.elim
  | .sc _,ed,g=>trivial
end
end U
set_option autoImplicit true
namespace L2
open PySem PySem.Spec PyProof.Rows PySem.W
section
variable {P:u9}{w:World}{K:v9}{mg:x_}{base:Heap}
theorem Fun.okX {x qual:Str}{st:Stmt}{f:Addr}{h:u6}{N ps:v4}{k:Nat}{sp:Sp}(F:Fun K x qual st f h)(S:Aq N ps (Ak st))(g:∀vs H Q E,sp vs H Q E->vs.length=ps.length)
 (b:∀(c:Value) (A:q9) (a:List Env) (s:t6) (H:Hp) (vs:m7) (Q:VK) (E:XK),Room k (A.deeper (envOfC qual (Ak st) s.heap.objs.size f c))->sp vs H Q E ->
  ∃t,PSs (Rw (CXe P w) P w K mg base N qual (Ak st) f c A a s H E) (Gh st) t/\t { nx:=λ_ m=>Q .non m,rt:=Q } (start N vs) H):FnOk P w K mg base (CXe P w) (k+1) f h ps sp:=by
 obtain⟨oc,od,kV,j,pm,an,c,ct,l,rfl,i,e⟩:=F.ex
 exact A5x i e S g λA a s H vs Q E n d=>b _ A _ s H _ Q E n d
end
section
variable {X:Cx}{x y n:Str}{Fc f:Addr}{cpos pos p epos yp hpos:Pos}{e:Expr}{es:v_}{t:TA}{k j:Nat}{fd:u6}{ps:v4}{sp:Sp}{b₀:Stmt}{suite:List Stmt}{th:TS}
theorem Bp2 {Kq:v9}(hKq:X.K=Kq)(F:FnOk X.prog X.w X.K X.mg X.base (CXe X.prog X.w) k f fd ps sp)(hr:Room k X.A)(hgf:Gl X x)(hmf:X.mg x=some (.ref f))(hk:PySem.W.keepIn X.K (.ref f)=true)(hb:Binds X.K fd ps [])(hxe:∀e s,¬ X.xe e s)(ha:QA X (e::es) t)
 (hx0:X.ex=[]) (hs:X.stack=X.env::X.outer/\X.env.frame=some X.env.locals) (hN:X.N.Nodup) (hj:X.N[j]?=some n) (hlo:X.env.scope.names.lookup n=some .local) (hg:Gl X y) (hm:X.mg y=some (.ref Fc)) (hsu:∀a,QSs (Q6 X a) (b₀::suite) th)
 (hd1:(x==("__debug__" : Str))=false:=by decide) (hd2:(y==("__debug__" : Str))=false:=by decide) (he:starEach (e::es) X.env=(false,eval e X.env)::starEach es X.env:=by rfl) (hpl:(backTo cpos (starEach es X.env)).any (·.1)=false:=by rfl)
 (hsw:swapsWith (.Call (.Name x p) (e::es) [] cpos) none epos.line X.env=pure false:=by rfl) :
 QS X (.Try [.Expr (.Call (.Name x p) (e::es) [] cpos) epos] [.ExceptHandler (some (.Name y yp)) (some n) (b₀::suite) hpos] [] [] pos) (B2z Kq Fc j sp t none th):=by
 subst hKq
 exact⟨Bn9 F hr hgf hmf hk hb hxe ha.get hx0 hs hN hj hlo hg hm (λa=>(hsu a).get) hd1 hd2 he hpl hsw⟩
theorem Jl {D:Addr}(hg:Gl X y)(hm:X.mg y=some (.ref D))(hdb:(y==("__debug__" : Str))=false:=by decide):QE X (.Name y p) (tC (.ref D)):=⟨B1u hg hm hdb⟩
theorem Gg {Kq:v9}(a:X.K=Kq)(hgl:Gl X "isinstance") (hm:X.mg "isinstance" = none) (ha:QA X (e::es) t) (hn:noStar (e::es)=true:=by rfl):QE X (.Call (.Name "isinstance" p) (e::es) [] pos) (tCB (Am3 Kq) t):=by
 subst a
 exact⟨Gx A0y hgl hm M8 ha.get (by decide) (by rfl) hn⟩
theorem V2:bootBuiltins "ValueError" = some (.type "ValueError"):=by decide +kernel
end
def TbOk (K:v9)(z:Value)(tbl:List (Str×Bool)):Prop:=∀nm b,tbl.lookup nm=some b->∀C,PySem.W.nsIn K mainGlobals nm=some (some (.ref C))->K5 K C/\PySem.W.kitOne K (.ref C) z=some b
def ExOk (K:v9)(Fc:Addr)(NS:v4):Prop:=∀nm∈NS,∀C,PySem.W.nsIn K mainGlobals nm=some (some (.ref C))->PySem.W.exmOne K (.ref C) (.ref Fc)=some true
def ClT (K:v9)(mg:x_)(tbl:List (Str×Bool))(T:Str):Prop:=∃g,mg T=some (.ref g)/\TbOk K (.ref g) tbl
def ClF (K:v9)(mg:x_)(NS:v4)(T:Str):Prop:=∃g,mg T=some (.ref g)/\ExOk K g NS
def ClR (K:v9)(mg:x_)(T:Str):Prop:=∃g,mg T=some (.ref g)/\PySem.W.nsIn K mainGlobals T=some (some (.ref g))/\exP K g=true
section
variable {K:v9}{z:Value}{tbl:List (Str×Bool)}{x:Str}{g Fc:Addr}{b:Bool}{NS:v4}
theorem TbOk.nil:TbOk K z []:=λ_ _ e=>nomatch e
theorem TbOk.cons (n:PySem.W.nsIn K mainGlobals x=some (some (.ref g)))(X:K5 K g)(k:PySem.W.kitOne K (.ref g) z=some b)(t:TbOk K z tbl):TbOk K z ((x,b)::tbl):=λc d e C a=>by
 rw[bc]at e
 cases q:c==x with
 | true =>
  simp_all
 | false=>rw[q]at e;exact t _ _ e C a
theorem ExOk.nil:ExOk K Fc []:=λ_ z=>nomatch z
theorem ExOk.cons (n:PySem.W.nsIn K mainGlobals x=some (some (.ref g)))(k:PySem.W.exmOne K (.ref g) (.ref Fc)=some true)(t:ExOk K Fc NS):ExOk K Fc (x::NS):=λc h C b=>by
 rcases aD.mp h with a | h
 ·grind
 ·exact t _ h C b
end
end L2
namespace U
open PySem L2
def DefX (P:u9)(w:World)(K:v9)(mg:x_)(base:Heap)(x:Str)(k:Nat)(ps:v4)(sp:Sp):Prop :=
 ∃(f:Addr) (fd:u6),FnOk P w K mg base (CXe P w) k f fd ps sp/\Binds K fd ps []/\PySem.W.keepIn K (.ref f)=true/\mg x=some (.ref f)
section
variable {K:v9}{Hf H:Hp}
def Uh:t_->t_->m6
 | .list ds,.bool true=>(boolsOf ds).map λbs=>.im (.int ((bs.countP id:Nat):Int))
 | _,_=>none
theorem Aq9:OpS K (λx y H Q=>Ay6 K x [y] H Q) Uh:=by
 intro Hf H x y dx dy o Q s rx ry e n;unfold Uh at e
 split at e
 ·rename_i ds
  obtain⟨bs,e1,e2⟩:=aO.mp e;subst e2;obtain⟨a,vs,rfl,h1,t⟩:=El rx
  cases Sq e1 t
  cases (show y=.bl true from ry)
  exact⟨a,bs,rfl,rfl,SqL.of h1,n.int s⟩
 ·cases e
end
end U
set_option autoImplicit true
namespace U
open PySem L2
noncomputable def Qj (c:Ev):List PV->Option (w5)
 | []=>some []
 | .o (.im d)::r=>(Qj c r).map (d::·)
 | .sl i::r=>match c[i]? with
  | some (some (.im d))=>(Qj c r).map (d::·)
  | _=>none
 | _=>none
def K1 (F:w5->XF)(fa:o9)(k:O->Ev->XS)(h:Xn->Ev->XS):Ev->XS:=λc=>match fa c with
 | .bad=>.s .bad
 | .ok ps c=>match Qj c ps with
  | none=>.s .bad
  | some ds=>match F ds with
   | .ret (.im d)=>k (.im d) c
   | .ex nm=>h nm c
   | _=>.s .bad
def Aw4 (F:w5->XF)(fa:o9)(j:Nat)(i:Option Nat)(NS:v4)(fh:Ev->SR):Ev->SR:=λc=>unX (K1 F fa (Bm5 i) (tryH j NS fh) c)
section
variable {K:v9}{β:Nat->V}{W W':Wo}{c:Ev}{σ σ':St}{D:Ends}{E:XK}{Hf H:Hp}{o:O}{v:V}{fp:v6}
theorem Z9 (R:Rep K β W c σ):∀{ps:List PV}{vs:m7}{ds:w5},zL K W.Hf σ ps vs->Qj c ps=some ds->TrL W.Hf ds vs
 | [],vs,ds,h,e=>by cases (show vs=[] from h);cases e;exact rfl
 | .o (.im d)::r,_,ds,⟨v,vr,rfl,h,t⟩,e=>by
  obtain⟨l,e2,rfl⟩:=aO.mp (show (Qj c r).map (d::·)=some ds from e)
  exact⟨v,vr,rfl,h,Z9 R t e2⟩
 | .sl i::r,_,ds,⟨v,vr,rfl,h,t⟩,e=>by
  unfold Qj at e
  split at e
  ·rename_i d ec
   obtain⟨l,e2,rfl⟩:=aO.mp e;obtain⟨v',e1,r1,_⟩:=R.get i _ ec
   cases (show some (some v')=some (some v) from e1.symm.trans h)
   exact⟨v,vr,rfl,r1.2,Z9 R t e2⟩
  ·cases e
 | .o (.sc _)::r,_,ds,_,e=>by cases e
 | .o (.ls _ _)::r,_,ds,_,e=>by cases e
 | .o (.ty _)::r,_,ds,_,e=>by cases e
theorem Ah6 {F:w5->XF}{m:o9}{t:TA}{k:O->Ev->XS}{h:Xn->Ev->XS}{Q:VK}{E':XK}(ha:MA K t m)(R:Rep K β W c σ)(l:LeadX K β W D E (K1 F m k h c))
 (hk:∀o i W2 v,Stp W.S W.Hf W.H W2.S W2.Hf W2.H->Rep K β W2 i σ->LeadX K β W D E (k o i)->Dh K W2 σ (.o o) v []->Q v W2.H)
 (B:∀u i W2 C d,Stp W.S W.Hf W.H W2.S W2.Hf W2.H->Rep K β W2 i σ->LeadX K β W D E (h u i)->XAt K W2.Hf u C d->E' (.ref C) d W2.H) :
 t σ W.H λvs y=>spX K F vs y Q E':=by
 unfold K1 at l
 refine ha _ W c _ _ R ?_
 cases e:m c with
 | bad=>rw[e]at l;exact l
 | ok A i =>
  rw[e]at l;intro vs x L s I
  cases ea:Qj i A with
  | none=>simp only[ea]at l;trivial
  | some H =>
   simp only[ea]at l
   refine⟨x.Hf,H,s.sub,Z9 s I ea,?_⟩
   have w:∀{f j:Hp},Stp _ _ _ (λ_=>False) f j->Same _ _->Stp _ _ _ _ _ _/\Rep K _ _ _ _:=λ{f j} g b =>
    ⟨L.trans ⟨g.fz,λa o e _=>g.kp a o e λz=>z,λa o e G _ q=>g.nf a o e G (λz=>z) q,λa z=>.inl z⟩,Stp.rep s g b⟩
   cases ef:F _ with
   | bad=>simp only[ef]at l;trivial
   | ret o =>
    match o,ef with
    | .im d,ef =>
     simp only[ef]at l;intro v f j fp g b r;obtain⟨rfl,J⟩:=r
     obtain⟨n,p⟩:=w (g.less λa z=>nomatch z) b
     exact hk _ _ _ v n p l ⟨⟨rfl,J⟩,λa z=>nomatch z⟩
    | .sc _,ef=>simp only[ef]at l;trivial
    | .ls _ _,ef=>simp only[ef]at l;trivial
    | .ty _,ef=>simp only[ef]at l;trivial
   | ex u =>
    simp only[ef]at l;intro C d f j M g b;obtain⟨n,p⟩:=w g b;exact B _ _ _ C d n p l M
theorem Bj5 {F:w5->XF}{Fc:Addr}{fa:o9}{t:TA}{th:TS}{fh:Ev->SR}{j:Nat}{i:Option Nat}{NS:v4}
 (hx:∀nm∈NS,∀C,PySem.W.nsIn K mainGlobals nm=some (some (.ref C))->PySem.W.exmOne K (.ref C) (.ref Fc)=some true) (ha:MA K t fa) (hh:MS K th fh):MS K (B2z K Fc j (spX K F) t i th) (Aw4 F fa j i NS fh):=by
 intro β W c σ D R l
 have l':LeadX K β W D (λ_ _ _=>False) (K1 F fa (Bm5 i) (tryH j NS fh) c):=by
  unfold Aw4 at l
  cases e:K1 F fa (Bm5 i) (tryH j NS fh) c with
  | s r=>rw[e]at l;exact l
  | ex nm c1=>rw[e]at l;exact l.elim
 refine Ah6 ha R l' (λo c1 W1 v st R3 lk r=>?_) (λnm c1 W1 C d st R3 lk hn=>?_)
 ·cases i with
  | none =>
   exact lk σ W1 st R3
  | some i =>
   refine G4 β W1 c1 σ (.o o) v [] D.nx R3 r ((Fe (show zF K β W D _ from lk)).mono λ_ c2 l2 σ2 W2 st2 R2=>?_)
   exact l2 σ2 W2 (st.trans (st2.up λa z=>Be0 z)) R2
 ·have lk:zF K β W D (if NS.contains nm.n then match fh (c1.set j (some (.ty (.xc nm)))) with
   | .nx c2=>.nx (c2.set j none)
   | _=>.bad
   else .bad):=lk
  by_cases hc:NS.contains nm.n=true
  ·rw[if_pos hc]at lk
   refine⟨C,rfl,hx nm.n (by simpa using hc) C hn.ns,λa fa0=>?_⟩
   have s4:Stp (λ_=>False) W1.Hf W1.H (λ_=>False) (upd W1.Hf a (K6 a C d)) (upd W1.H a (K6 a C d)):=Stp.newF R3.sub fa0
   have s5:Stp W1.S W1.Hf W1.H (Wo.S ⟨upd W1.Hf a (K6 a C d),upd W1.H a (K6 a C d),W1.fps⟩) (upd W1.Hf a (K6 a C d)) (upd W1.H a (K6 a C d)):=⟨s4.fz,λa o e n=>s4.kp a o e (λz=>z),λa o e mu n q=>s4.nf a o e mu (λz=>z) q,λa z=>.inl z⟩
   have R5:Rep K β ⟨upd W1.Hf a (K6 a C d),upd W1.H a (K6 a C d),W1.fps⟩ c1 σ:=Stp.rep R3 s4 (Iu R3.sub)
   have rn:Dh K ⟨upd W1.Hf a (K6 a C d),upd W1.H a (K6 a C d),W1.fps⟩ σ (.o (.ty (.xc nm))) (.ref a) []:=⟨⟨rfl,a,C,d,rfl,hn.same s4.fz,Am⟩,λa z=>nomatch z⟩
   refine G4 β _ c1 σ (.o (.ty (.xc nm))) (.ref a) [] (λσ2 H3=>th { nx:=λσ2 H3=>D.nx (σ2.set j none) H3,rt:=D.rt } σ2 H3) R5 rn ?_
   show ∀σ' W',_->_->_
   intro σ6 W6 st6 R6
   refine hh β W6 _ σ6 _ R6 ?_
   cases ef:fh (c1.set j (some (.ty (.xc nm)))) with
   | nx c2 =>
    rw[ef]at lk;intro σ7 W7 st7 R7;have R8:=Rep.setU (Rep.drop R7 j)
    refine lk _ ⟨W7.Hf,W7.H,clr W7.fps j⟩ ?_ R8
    refine ((st.trans s5).trans ((st6.up λa z=>by
     rcases z with z | z
     ·exact z
     ·cases z).trans st7)).less λa z=>?_
    obtain⟨k,z⟩:=z;exact⟨k,(Dk z).1⟩
   | rt p c2=>rw[ef]at lk;exact lk.elim
   | bk c2=>rw[ef]at lk;exact lk.elim
   | ct c2=>rw[ef]at lk;exact lk.elim
   | bad=>rw[ef]at lk;exact lk.elim
  ·rw[if_neg hc]at lk;exact lk.elim
noncomputable def Aa7 (d:t_):w5->Option Nat
 | []=>none
 | x::xs=>if PyData.eqv x d=true then some 0 else (Aa7 d xs).map (·+1)
theorem Yd {d:t_}:∀{xs:w5}{j:Nat},Aa7 d xs=some j->(∃e,xs[j]?=some e/\PyData.eqv e d=true)/\∀m e,m<j->xs[m]?=some e->PyData.eqv e d=false
 | [],j,h=>by cases h
 | x::xs,j,h=>by
  unfold Aa7 at h
  by_cases q:PyData.eqv x d=true
  ·rw[if_pos q]at h;cases h
   exact⟨⟨x,rfl,q⟩,λm e hm=>absurd hm (Nat.not_lt_zero _)⟩
  ·rw[if_neg q]at h
   obtain⟨k,e1,rfl⟩:=aO.mp h;obtain⟨⟨e2,h1,h2⟩,h3⟩:=Yd e1
   refine⟨⟨e2,h1,h2⟩,λm e hm he=>?_⟩
   cases m with
   | zero=>cases (show some x=some e from he);exact Bool.eq_false_iff.mpr q
   | succ m=>exact h3 m e (jG hm) he
def Vd:t_->t_->m6
 | .tuple ds,d=>if Bu d&&PyData.canLayAll0 ds then (Aa7 d ds).map λj=>.im (.int (j:Nat)) else none
 | _,_=>none
theorem Al6:OpS K (λx y H Q=>rIndexD x [y] H Q) Vd:=by
 intro Hf H x y dx c o Q s d f e n;unfold Vd at e
 split at e
 ·split at e
  ·rename_i l
   obtain⟨i,b⟩:=az.mp l;obtain⟨j,g,rfl⟩:=aO.mp e;obtain⟨h,a⟩:=Yd g;exact⟨y,c,_,j,rfl,f.tr s,d.tr s,Eu i,b,h,a,n.int s⟩
  simp_all
 trivial
end
def Pk:t_->t_->m6:=V9 λi j=>.bool (decide (i<j))
theorem Bi4 : OpS K (rI0 λi j=>.bl (decide (i<j))) Pk:=Aa0 λ_ _ _=>rfl
theorem B4r (l:Vq i j=true):CMul i j:=by
 unfold Vq at l;rw[Bool.or_eq_true_iff,az,az]at l
 rcases l with ⟨b,a⟩ | ⟨b,a⟩
 ·exact .inl ⟨aX b,aX a⟩
 ·exact .inr ⟨aX b,aX a⟩
def Kr:t_->t_->m6:=opI Vq λi j=>i*j
theorem Bc4 : OpS K (rI CMul λi j=>.int (i*j)) Kr:=Av4 λ_ _=>B4r
noncomputable def By:t_->m6
 | .list ds=>some (.im (.tuple ds))
 | .tuple ds=>some (.im (.tuple ds))
 | _=>none
theorem A6l : UnS K (λx H Q=>Hi K [x] H Q) By:=by
 intro Hf H x d o Q s r e n;unfold By at e
 split at e
 ·cases e
  obtain⟨a,b,rfl,c,t⟩:=El r
  exact⟨a,b,rfl,.inl ⟨SqL.of c,λl f=>n.tup s t f⟩⟩
 ·cases e
  obtain⟨a,b,rfl,c,t⟩:=Hh s r;exact⟨a,b,rfl,.inr ⟨SqT.of c,n.same s r⟩⟩
 grind
def Bf9 (K:v9):R2:=λx y H Q=>B2h K x y H Q\/Bx2 K x y H Q
def Ai:t_->t_->m6
 | .list ds,.int i=>(atI ds i).map O.im
 | .tuple ds,.int i=>(atI ds i).map O.im
 | _,_=>none
theorem Mt : OpS K (Bf9 K) Ai:=by
 intro Hf H x y dx dy o Q s i j e n;unfold Ai at e
 split at e
 ·obtain⟨d,g,rfl⟩:=aO.mp e
  obtain⟨a,c,rfl,f,t⟩:=El i;obtain⟨v,h,b⟩:=A7v t g;exact .inl ⟨a,c,_,v,rfl,Dm j,SqL.of f,h,n.same s b⟩
 ·obtain⟨d,g,rfl⟩:=aO.mp e
  obtain⟨a,c,rfl,f,t⟩:=Hh s i;obtain⟨v,h,b⟩:=A7v t g;exact .inr ⟨a,c,_,v,rfl,Dm j,SqT.of f,h,n.same s b⟩
 grind
end U
namespace L2
open PySem
section
variable {X:Cx}{a b:Expr}{ta tb:TE}{pos:Pos}
theorem Ax (c:X.K=Kq) (ha:QE X a ta) (hb:QE X b tb) (hs:Ml b):QE X (.Subscript a b pos) (tOp (U.Bf9 Kq) ta tb):=by
 subst c;exact Bs9 (IxR.or ix_list ix_tup) ha hb hs
end
end L2
namespace U
open PySem L2 PySem.W
section
variable {K:v9}{W:Wo}{c:Ev}{Hf H:Hp}
def Ys:t_->t_->m6
 | .list ds,d=>if Bu d&&(PyData.canLayAll0 ds&&decide (ds.length<1000000)) then (Aa7 d ds).map λj=>.im (.int (j:Nat)) else none
 | _,_=>none
theorem Ar3:OpS K (λx y H Q=>rIndexL x [y] H Q) Ys:=by
 intro Hf H x y dx g o Q s i p e n;unfold Ys at e
 split at e
 ·split at e
  ·rename_i l
   obtain⟨f,b⟩:=az.mp l;obtain⟨b,l3⟩:=az.mp b;obtain⟨j,d,rfl⟩:=aO.mp e;obtain⟨k,h⟩:=Yd d;obtain⟨m,c,a⟩:=k
   exact⟨y,g,_,j,rfl,p.tr s,i.tr s,Eu f,b,by grind,⟨m,c,a⟩,h,n.int s⟩
  simp_all
 grind
def mtR (op:t_->t_->m6)(fb:n6)(p:PV):n6:=λc=>(fb c).bind λq c=>match Cq c (nrm p),Cq c (nrm q) with
 | some x,some y=>match op x y with
  | some o=>.ok (.o o) c
  | none=>.bad
 | _,_=>.bad
def B1i (fa fb:n6):n6:=λc=>(fa c).bind λp c=>match Cq c (nrm p) with
 | some d=>if Jh d=true then mtR Ys fb p c else if Kg d=true then mtR Vd fb p c else .bad
 | none=>.bad
theorem B1j {z u:TE}{fa fb:n6}(ha:ME K z fa)(hb:ME K u fb):ME K (B0v K z (Bp u Er)) (B1i fa fb):=by
 intro n W c h Q R s
 refine ha.toV n W c h _ R ((s.bnd).mono λp m a D B t i l=>?_)
 have f:∀(r:V->m7->Hp->VK->Prop) (j:t_->t_->m6),OpS K (λx y H Q=>r x [y] H Q) j->((mtR j fb p m).sat λE I=>∀v b w,Stp W.S W.Hf W.H (orS b.S w) b.Hf b.H->Rep K n b I h->Dh K b h E v w->Q v b.H)->Bp u Er h B.H λJ G=>r D J G Q:=by
  intro r j L a
  refine hb.toV n B m h _ i ((a.bnd).mono λq A e P S g k F=>?_)
  cases ex:Cq A (nrm p) with
  | none=>simp only[ex]at e;trivial
  | some x =>
   cases ey:Cq A (nrm q) with
   | none=>simp only[ex,ey]at e;trivial
   | some y =>
    simp only[ex,ey]at e
    cases eo:j x y with
    | none=>simp only[eo]at e;trivial
    | some o =>
     simp only[eo]at e
     exact L _ _ _ _ x y o Q k.sub (Dz k (RepA.same g.fz l) ex) (Dz k F ey) eo (New.of k λv b w N M C=>e v _ _ (t.trans (g.trans N)) M C)
 cases ed:Cq m (nrm p) with
 | none=>simp only[ed]at a;trivial
 | some d =>
  simp only[ed]at a
  by_cases it:Jh d=true
  ·rw[if_pos it]at a
   exact .inl ⟨Ap0 _ _ d _ it i.sub (Dz i l ed),f _ _ Ar3 a⟩
  ·rw[if_neg it]at a
   by_cases it:Kg d=true
   ·rw[if_pos it]at a
    exact .inr ⟨A7w _ _ d _ it i.sub (Dz i l ed),f _ _ Al6 a⟩
   ·rw[if_neg it]at a;trivial
def cFz (f:n6):n6:=λc=>(f c).bind λp c=>(frz (nrm p) c).bind λd c=>.ok (.o (.im d)) c
theorem B4t (h:ME K t f):ME K t (cFz f):=by
 intro y W c x Q R s
 refine h.toV _ W c _ Q R (s.bnd.mono λp n j v u e i k=>?_)
 obtain⟨d,o,r,_,l,w,b,m,g⟩:=Gz i k j.bnd
 have q:=l v _ [] ((e.trans b).less λa z=>z.elim id λz=>nomatch z) m ⟨⟨rfl,g⟩,λa z=>nomatch z⟩
 grind
end
def G9:t_->Bool
 | .tuple ds=>Ew ds&&PyData.canLayAll0 ds&&decide (PyData.depthAll ds<=6)
 | _=>false
noncomputable def M5:w5->w5->t_->Option t_
 | k::ks,d::ds,z=>if PyData.eqv k z=true then some d else M5 ks ds z
 | _,_,_=>none
theorem Fg (h:G9 k=true):Bs1 k/\∃a,k=.tuple a:=by
 cases k with
 | tuple a =>
  obtain⟨c,d⟩:=az.mp (show (Ew _&&PyData.canLayAll0 _&&decide _)=true from h)
  obtain⟨e,b⟩:=az.mp c;exact⟨⟨e,b,Nat.succ_le_succ (aX d)⟩,a,rfl⟩
 | _=>cases h
mutual
theorem A7r {H:Hp}:∀{d:t_}{v:V},keyB d=true->Tr H d v->KTr H d v
 | .none,_,_,h=>h
 | .int _,_,_,h=>h
 | .str _,_,_,h=>h
 | .tuple ds,_,k,⟨a,vs,e,ha,t⟩=>⟨a,vs,e,ha,Av5 k t⟩
theorem Av5 {H:Hp}:∀{ds:w5}{vs:m7},Ew ds=true->TrL H ds vs->KTrL H ds vs
 | [],_,_,h=>h
 | d::ds,_,k,⟨v,r,e,h,t⟩=>by
  obtain⟨k1,k2⟩:=az.mp (show (keyB d&&Ew ds)=true from k)
  exact⟨v,r,e,A7r k1 h,Av5 k2 t⟩
end
theorem Ap4 (h:G9 k=true) (t:Tr H k v):∃b,v=.ref b/\KAt H k b:=by
 obtain⟨c,ds,rfl⟩:=Fg h;obtain⟨a,d,rfl,f,e⟩:=t;exact⟨a,rfl,c,A7r c.1 ⟨a,d,rfl,f,e⟩⟩
section
variable {Hf:Hp}
theorem Ax6:∀{ks ds:w5}{xs:m7}{z d:t_},(∀k∈ks,G9 k=true)->G9 z=true->TrL Hf ds xs->M5 ks ds z=some d->∃v,Ii (ks.zip xs) z=some v/\Tr Hf d v
 | [],_,_,_,_,_,_,_,e=>nomatch e
 | _::_,[],_,_,_,_,_,_,e=>nomatch e
 | k::ks,d0::ds,_,z,d,hk,hz,⟨v,r,ev,t,ts⟩,e=>by
  subst ev;have b:=(Fg (hk k a_)).1.1;have b2:=(Fg hz).1.1
  have e:(if PyData.eqv k z=true then some d0 else M5 ks ds z)=some d:=e
  by_cases h:PyData.eqv k z=true
  ·rw[if_pos h]at e
   cases e
   exact⟨v,Mg ((Ir k z b b2).mp h),t⟩
  ·rw[if_neg h]at e
   obtain⟨v',h1,h2⟩:=Ax6 (λk m=>hk k (bw _ m)) hz ts e
   refine⟨v',?_,h2⟩
   rw[bM,Hw (λq=>h ((Ir k z b b2).mpr q))];exact h1
end
inductive DE where
 | d (x:t_)
 | l (xs:w5)
noncomputable def DE.dat:DE->t_
 | .d x=>x
 | .l xs=>.list xs
inductive BR where
 | nx (c:Ev) (ks:w5) (es:List DE)
 | bad
abbrev BF:=Ev->w5->List DE->BR
noncomputable def M4 (k:t_):w5->Option Nat
 | []=>none
 | x::r=>if PyData.eqv x k=true then some 0 else (M4 k r).map (·+1)
noncomputable def Cd (d:Nat) (c:Ev):Bool:=match c[d]? with
 | some none=>true
 | _=>false
theorem Gs (h:Cd d c=true):c[d]?=some none:=by
 unfold Cd at h
 grind
noncomputable def R.toB {α:Type} (r:R α) (k:α->Ev->BR):BR:=match r with
 | .ok a c=>k a c
 | .bad=>.bad
def DE1 (Hf H:Hp):DE->V->v6->Prop
 | .d x,v,fp=>fp=[]/\Tr Hf x v
 | .l xs,v,fp=>∃b us,v=.ref b/\fp=[b]/\H b=some (.lst us)/\TrL Hf xs us
def DX (a:Addr)(X:Nat->v6)(b:Addr):Prop:=b=a\/∃j,b∈X j
structure DB (W:Wo) (a:Addr) (ks:w5) (es:List DE) (X:Nat->v6):Prop where
 at_:∃vs,W.H a=some (.dT (ks.zip vs))/\ks.length=vs.length/\es.length=vs.length/\∀j e,es[j]?=some e->∃v,vs[j]?=some v/\DE1 W.Hf W.H e v (X j)
 fr:∀b,DX a X b->W.Hf b=none/\¬ W.S b
 dis:∀i j b,b∈X i->b∈X j->i=j
 na:∀j,a∉X j
 mu:∀b,DX a X b->∃o,W.H b=some o/\Mut (some o)
 out:∀j,es.length<=j->X j=[]
 ky:∀k∈ks,G9 k=true
 nd:ks.Nodup
abbrev orX (S:Addr->Prop)(a:Addr)(X:Nat->v6):Addr->Prop:=λb=>S b\/DX a X b
def zG (K:v9)(β:Nat->V)(W:Wo)(D:Ends)(d:Nat)(a:Addr)(X:Nat->v6):BR->Prop
 | .nx c' ks' es'=>∀σ' W' X',Stp (orX W.S a X) W.Hf W.H (orX W'.S a X') W'.Hf W'.H->Rep K β W' c' σ'->c'[d]?=some none->σ'[d]?=some (some (.ref a))->DB W' a ks' es' X'->D.nx σ' W'.H
 | .bad=>False
def MB (K:v9)(d:Nat)(T:TS)(F:BF):Prop:=∀(β:Nat->V) (W:Wo) (c:Ev) (σ:St) (D:Ends) (a:Addr) (ks:w5) (es:List DE) (X:Nat->v6),Rep K β W c σ->c[d]?=some none->σ[d]?=some (some (.ref a))->DB W a ks es X ->
 zG K β W D d a X (F c ks es)->T D σ W.H
section
variable {K:v9}{β:Nat->V}{W W1:Wo}{c:Ev}{σ σ':St}{Hf H:Hp}{a:Addr}{ks:w5}{es:List DE}{X X':Nat->v6}{d:Nat}{D:Ends}{fp:v6}
theorem DE1.step {a H':Hp}(h:DE1 Hf H e v fp) (s:Same Hf a) (k:∀b∈fp,H' b=H b):DE1 a H' e v fp:=by
 cases e with
 | d x=>exact⟨h.1,Tr.same s h.2⟩
 | l i =>
  obtain⟨b,c,g,f,j,t⟩:=h
  exact⟨b,c,g,f,by grind,TrL.same s t⟩
theorem DB.step (h:DB W a ks es X) (st:Stp W.S W.Hf W.H S2 W1.Hf W1.H) (g:∀b,W1.S b->S2 b):DB W1 a ks es X:=by
 have d:∀b,DX a X b->W1.H b=W.H b:=λb c=>by
  obtain⟨o,e,_⟩:=h.mu b c;rw[e];exact st.kp b o e (h.fr b c).2
 obtain⟨i,s,l,m,k⟩:=h.at_
 refine⟨⟨i,by rw[d a (.inl rfl)];lia,l,m,λj e p=>?_⟩,λb c=>⟨?_,λz=>?_⟩,h.dis,h.na,λb c=>?_,h.out,h.ky,h.nd⟩
 ·obtain⟨v,n,r⟩:=k j e p
  exact⟨v,n,r.step st.fz λb c=>d b (.inr ⟨j,c⟩)⟩
 ·obtain⟨o,e,f⟩:=h.mu b c
  exact st.nf b o e f (h.fr b c).2 (h.fr b c).1
 ·obtain⟨o,e,_⟩:=h.mu b c
  rcases st.fr b (g b z) with q | q
  ·exact(h.fr b c).2 q
  simp_all
 ·obtain⟨o,e,f⟩:=h.mu b c
  simp_all
theorem Stp.moreX (x:Stp S Hf H S' b H'):Stp (orX S a X) Hf H (orX S' a X) b H':=Stp.more x
theorem zG.step (h:zG K β W D d a X r) (st:Stp (orX W.S a X) W.Hf W.H (orX W1.S a X') W1.Hf W1.H):zG K β W1 D d a X' r:=by
 cases r with
 | nx c j k=>exact λf l m b R g i e=>h _ _ _ (st.trans b) R g i e
 | bad=>exact h
theorem Ey {r:R b}{k:b->Ev->BR}(h:zG K β W D d a X (r.toB k)):r.sat λx c=>zG K β W D d a X (k x c):=by
 cases r with
 | ok x c=>exact h
 | bad=>exact h
noncomputable def Bg0 (F G:BF):BF:=λc ks es=>match F c ks es with
 | .nx c ks es=>G c ks es
 | .bad=>.bad
theorem Bu3 (h1:MB K d t F) (h2:MB K d u G):MB K d (V6 t u) (Bg0 F G):=by
 intro o W c q D a v w X R m n i l
 refine h1 _ W c _ _ a _ _ X R m n i ?_
 unfold Bg0 at l
 cases e:F c _ _ with
 | bad=>rw[e]at l;trivial
 | nx x y p =>
  rw[e]at l
  exact λh r s k j b g f=>h2 _ _ _ _ D a _ _ _ j b g f (zG.step l k)
def GFr (d:Nat)(g:TG):Prop:=∀v σ H k,g v σ H (λσ' H'=>σ'[d]?=σ[d]?->k σ' H')->g v σ H k
def Bp7 (d:Nat)(g:TGs):Prop:=∀vs σ H k,g vs σ H (λσ' H'=>σ'[d]?=σ[d]?->k σ' H')->g vs σ H k
theorem A6r (h:i≠d):GFr d (Ez i):=λv a H k q=>q (bQ h)
theorem Bk6:Bp7 d Ao6:=λb a H k q=>⟨q.1,q.2 rfl⟩
def A6c (g:TG):Prop:=∀v σ H k k',g v σ H k->(∀σ' H',k σ' H'->k' σ' H')->g v σ H k'
def Zb (g:TGs):Prop:=∀vs σ H k k',g vs σ H k->(∀σ' H',k σ' H'->k' σ' H')->g vs σ H k'
theorem Aq5 : A6c (Ez i):=λv b H k a h f=>f _ _ h
theorem A3o:Zb Ao6:=λb c H k a h f=>⟨h.1,f _ _ h.2⟩
theorem Am9 (h1:A6c t) (h2:Zb u):Zb (K3 t u):=λg c H k d ⟨v,r,e,q⟩ f=>⟨v,r,e,h1 _ _ _ _ _ q λa b q=>h2 _ _ _ _ _ q f⟩
theorem A7l (h1:GFr d t) (b:A6c t) (h2:Bp7 d u) (f:Zb u):Bp7 d (K3 t u):=λi j H k ⟨v,r,e,q⟩ =>
 ⟨v,r,e,h1 v _ H _ (b _ _ _ _ _ q λg l q c=>h2 r _ _ k (f _ _ _ _ _ q λh m q a=>q (a.trans c)))⟩
theorem Bl6 (h:Bp7 d u):GFr d (Ba2 K n u):=λv b H k ⟨p,a,e,s,l,q⟩=>⟨p,a,e,s,l,h _ _ H k q⟩
def Bk7 (f:n6)(g:o7):BF:=λc ks es=>(f c).toB λp c=>(g p c).toB λ_ c=>if Cd d c=true then .nx c ks es else .bad
theorem B2n (h:ME K j f) (hg:MG K t g) (hf:GFr d t):MB K d (Zx j t) (Bk7 (d:=d) f g):=by
 intro C W c G D a y I X R A n o l
 refine h _ W c _ _ R ((Ey l).mono λp H q v B E r m k=>hf _ _ _ _ (hg _ _ _ _ p v _ _ m k ((Ey q).mono λ_ u e s F i w x=>?_)))
 by_cases z:Cd d u=true
 ·rw[if_pos z]at e
  have b:=r.trans i
  exact e _ _ X b.moreX w (Gs z) (x.trans n) (o.step b λ_ z=>z)
 ·rw[if_neg z]at e;trivial
def Ud (g:o7)(F:BF):w5->BF
 | [],c,ks,es=>.nx c ks es
 | x::xs,c,ks,es=>(g (.o (.im x)) c).toB λ_ c=>if Cd d c=true then match F c ks es with
  | .nx c ks es=>Ud g F xs c ks es
  | .bad=>.bad
  else .bad
def A1b (fi:Ev->R (w5))(g:o7)(F:BF):BF:=λc ks es=>(fi c).toB λds c=>if Cd d c=true then Ud (d:=d) g F ds c ks es else .bad
theorem Bx4 (hi:MI K wi fi) (hg:MG K t g) (hf:GFr d t) (hb:MB K d tb F):MB K d (B2r wi t tb) (A1b (d:=d) fi g F):=by
 intro A W c C D a ks V X R hc hs hd l
 refine hi A W c C _ R ((Ey l).mono λf c1 O J U L R1 it=>?_)
 by_cases z1:Cd d c1=true
 ·rw[if_pos z1]at O
  have Z:=hd.step L λ_ z=>z
  refine⟨λi m C H=>∃b j B r u,b.H=H/\Rep K A b j C/\m=f.length-i/\i<=f.length/\Same U.Hf b.Hf/\j[d]?=some none/\C[d]?=some (some (.ref a))/\DB b a B r u/\zG K A b D d a u (Ud (d:=d) g F (f.drop i) j B r),
   ⟨_,U,c1,ks,V,X,rfl,R1,rfl,aU _,Same.refl _,Gs z1,hs,Z,zG.step O L.moreX⟩,?_⟩
  rintro i m C H ⟨b,j,B,r,u,rfl,R2,rfl,hle,sm,T,G,I,E⟩
  obtain⟨v,Y⟩:=it i b.Hf b.H sm R2.sub
  by_cases lt:i<f.length
  ·obtain⟨q1,q2⟩:=Y f[i] (bC lt)
   refine .inr ⟨q1,λw p=>∃b j B r u,b.H=p/\Rep K A b j w/\Same U.Hf b.Hf/\j[d]?=some none/\w[d]?=some (some (.ref a))/\DB b a B r u/\zG K A b D d a u (Ud (d:=d) g F (f.drop (i+1)) j B r),
    λw p ⟨W3,c3,k3,e3,X3,y1,S,s3,y2,y3,y4,k⟩=>⟨f.length-(i+1),by lia,W3,c3,k3,e3,X3,y1,S,rfl,by lia,s3,y2,y3,y4,k⟩,λx p hy=>?_⟩
   obtain⟨s,n,M,tx⟩:=q2 x p hy;have S:=n.rep R2 M
   have Q:Stp b.S b.Hf b.H (Wo.S ⟨s,p,b.fps⟩) s p:=⟨n.fz,λa o e _=>n.kp a o e λz=>z,λa o e mu _ q=>n.nf a o e mu (λz=>z) q,λa z=>.inl z⟩
   rw[Qe lt]at E
   have E:zG K A b D d a u ((g (.o (.im f[i])) j).toB λ_ c=>if Cd d c=true then match F c B r with
    | .nx c ks V=>Ud (d:=d) g F (f.drop (i+1)) c ks V
    | .bad=>.bad
    else .bad):=E
   refine hf _ _ _ _ (hg A ⟨s,p,b.fps⟩ j C (.o (.im f[i])) x [] _ S ⟨⟨rfl,tx⟩,λa z=>nomatch z⟩ ((Ey E).mono λ_ c3 k σ3 W3 y R3' es3=>?_))
   have y:=y.up λa z=>by
    rcases z with z | z
    ·exact z
    ·cases z
   have h:=Q.trans y
   by_cases z3:Cd d c3=true
   ·rw[if_pos z3]at k
    refine hb _ _ _ _ _ a _ _ _ R3' (Gs z3) (es3.trans G) (I.step h λ_ z=>z) ?_
    cases eb:F _ _ _ with
    | bad=>rw[eb]at k;exact k.elim
    | nx c4 k4 e4 =>
     rw[eb]at k
     exact λσ4 W4 X4 N R4 hc4 hs4 P=>⟨W4,c4,k4,e4,X4,rfl,R4,sm.trans (h.fz.trans N.fz),hc4,hs4,P,zG.step k (h.moreX.trans N)⟩
   ·rw[if_neg z3]at k;exact k.elim
  ·have e:i=f.length:=by lia
   subst e;rw[i_]at E;exact .inl ⟨v rfl,E _ _ _ Stp.refl R2 T G I⟩
 ·rw[if_neg z1]at O;exact O.elim
end
theorem Mj {k:t_}(hk:G9 k=true):∀{ks:w5}{vs:m7}{j:Nat},(∀x∈ks,G9 x=true)->ks.length=vs.length->M4 k ks=some j->ks[j]?=some k/\Ii (ks.zip vs) k=vs[j]?
 | [],_,_,_,_,e=>nomatch e
 | x::ks,[],_,_,l,_=>nomatch l
 | x::ks,v::vs,j,hx,l,e=>by
  have b:=(Fg (hx x a_)).1.1;have b2:=(Fg hk).1.1
  have e:(if PyData.eqv x k=true then some 0 else (M4 k ks).map (·+1))=some j:=e
  by_cases h:PyData.eqv x k=true
  ·rw[if_pos h]at e;cases e
   have:=(Ir x k b b2).mp h;subst this;exact⟨rfl,Mg rfl⟩
  ·rw[if_neg h]at e
   obtain⟨i,e1,rfl⟩:=aO.mp e
   obtain⟨q1,q2⟩:=Mj hk (vs:=vs) (λy hy=>hx y (bw _ hy)) (g_ l) e1
   refine⟨by simpa using q1,?_⟩
   rw[bM,Hw (λq=>h ((Ir x k b b2).mpr q)),q2];rfl
theorem Jt {k:t_}(hk:G9 k=true):∀{ks:w5}{vs:m7},(∀x∈ks,G9 x=true)->M4 k ks=none->k∉ks/\Ii (ks.zip vs) k=none
 | [],vs,_,_=>⟨(λh=>nomatch h),rfl⟩
 | x::ks,vs,hx,e=>by
  have b:=(Fg (hx x a_)).1.1;have b2:=(Fg hk).1.1
  have e:(if PyData.eqv x k=true then some 0 else (M4 k ks).map (·+1))=none:=e
  by_cases h:PyData.eqv x k=true
  ·rw[if_pos h]at e;cases e
  ·rw[if_neg h]at e
   have e1:M4 k ks=none:=by
    cases q:M4 k ks with
    | none=>rfl
    | some i=>rw[q]at e;cases e
   have ne:x≠k:=λq=>h ((Ir x k b b2).mpr q)
   refine⟨λm=>?_,?_⟩
   ·rcases aD.mp m with m | m
    ·exact ne m.symm
    ·exact(Jt (vs:=[]) hk (λy hy=>hx y (bw _ hy)) e1).1 m
   ·cases vs with
    | nil=>rfl
    | cons v vs =>
     rw[bM,Hw ne]
     exact(Jt hk (λy hy=>hx y (bw _ hy)) e1).2
theorem As7 {k:t_}{v:V}:∀{ks:w5}{vs:m7},k∉ks->(ks.zip vs).map (λkv=>if kv.1=k then (kv.1,v) else kv)=ks.zip vs
 | [],_,_=>rfl
 | _::_,[],_=>rfl
 | x::ks,u::vs,h=>by
  have ne:x≠k:=λq=>h (q▸a_)
  rw[bM,aJ,As7 λm=>h (bw _ m)]
  simp[ne]
theorem A6m {k:t_}{v:V}:∀{ks:w5}{vs:m7}{j:Nat},ks.Nodup->ks[j]?=some k->(ks.zip vs).map (λkv=>if kv.1=k then (kv.1,v) else kv)=ks.zip (vs.set j v)
 | [],_,_,_,e=>by simp at e
 | _::_,[],_,_,_=>rfl
 | x::ks,u::vs,0,nd,e=>by
  cases (show some x=some k from e)
  rw[bM,aJ,As7 (bR.mp nd).1]
  simp
 | x::ks,u::vs,j+1,nd,e=>by
  have e:ks[j]?=some k:=by simpa using e
  have ne:x≠k:=λq=>(bR.mp nd).1 (q▸bf e)
  rw[bM,aJ,A6m (bR.mp nd).2 e]
  simp[ne]
theorem Bp9 {ks:w5} (a:ks.Nodup) (e:ks[j]?=some k) (hv:Ii (ks.zip vs) k=some u):putK (ks.zip vs) k v=ks.zip (vs.set j v):=by
 unfold putK
 rw[Oh,hv,if_pos (by rfl),A6m a e]
theorem Bc2 {ks:w5} (hl:ks.length=vs.length) (hv:Ii (ks.zip vs) k=none):putK (ks.zip vs) k v=(ks++[k]).zip (vs++[v]):=by
 unfold putK;rw[Oh,hv,List.zip_append hl];rfl
section
variable {K:v9}{β:Nat->V}{W W' W1:Wo}{c c':Ev}{σ:St}{Hf H:Hp}{a:Addr}{ks:w5}{es:List DE}{X X':Nat->v6}{d:Nat}{D:Ends}
theorem U6 (R:Rep K β W c σ)(hd:DB W a ks es X) (f:∀b,H' b=W.H b\/DX a X b\/W.H b=none) (h:∀b,DX a X' b->DX a X b\/W.H b=none) :
 Rep K β ⟨W.Hf,H',W.fps⟩ c σ/\Stp (orX W.S a X) W.Hf W.H (orX (Wo.S ⟨W.Hf,H',W.fps⟩) a X') W.Hf H':=by
 refine⟨R.frame (Same.refl _) (λb u e=>?_) λb g=>?_,⟨Same.refl _,λb o e n=>?_,λb o _ _ _ q=>q,λb z=>?_⟩⟩
 ·rcases f b with q | q | q
  ·rw[q];exact R.sub b u e
  ·rw[(hd.fr b q).1]at e;grind
  ·rw[R.notF q]at e;grind
 ·obtain⟨i,d⟩:=g
  obtain⟨z,o,e,_⟩:=R.own i b d
  refine⟨z,?_⟩
  rcases f b with q | q | q
  ·lia
  ·exact absurd ⟨i,d⟩ (hd.fr b q).2
  grind
 ·grind
 ·rcases z with z | z
  ·exact .inl (.inl z)
  grind
theorem A8t (h:b∈(λi=>if i=j then [] else X i) i):b∈X i/\i≠j:=by
 grind
def Ac9 (ks:w5)(es:List DE)(k x:t_):List PyData×List DE:=match M4 k ks with
 | some j=>(ks,es.set j (.d x))
 | none=>(ks++[k],es++[.d x])
def MVB (K:v9)(d:Nat)(T:TE)(f:w5->List DE->Ev->R PV):Prop:=∀(β:Nat->V) (W:Wo) (c:Ev) (σ:St) (Q:VK) (a:Addr) (ks:w5) (es:List DE) (X:Nat->v6),Rep K β W c σ->σ[d]?=some (some (.ref a))->DB W a ks es X ->
 (f ks es c).sat (λp c'=>∀v W',Stp W.S W.Hf W.H W'.S W'.Hf W'.H->Rep K β W' c' σ->RepA K W'.Hf σ (nrm p) v->Q v W'.H)->T σ W.H Q
theorem B2l (h:ME K b f):MVB K d b (λ_ _=>f):=λg W c i Q a j k X R l e s=>h.toV _ W c _ Q R s
def Ak5 (fk:n6)(fv:w5->List DE->Ev->R PV):BF:=λc ks es=>(fv ks es c).toB λq c=>(frz (nrm q) c).toB λx c=>(fk c).toB λp c=>match Cq c (nrm p) with
 | some k=>if (G9 k&&decide (ks.length<16000000)&&Cd d c)=true then .nx c (Ac9 ks es k x).1 (Ac9 ks es k x).2 else .bad
 | none=>.bad
abbrev B4x (d:Nat)(fk:n6)(x:t_):BF:=λc ks es=>(fk c).toB λp c=>match Cq c (nrm p) with
 | some k=>if (G9 k&&decide (ks.length<16000000)&&Cd d c)=true then .nx c (Ac9 ks es k x).1 (Ac9 ks es k x).2 else .bad
 | none=>.bad
theorem B2f {ty:TE}{fk:n6}(hk:ME K ty fk){W2:Wo}{c2:Ev}{v:V}{x:t_}(st0:Stp W.S W.Hf W.H W2.S W2.Hf W2.H)(R2:Rep K β W2 c2 σ)(hs:σ[d]?=some (some (.ref a)))(hd:DB W a ks es X)(t2:Tr W2.Hf x v)
 (l2:zG K β W D d a X (B4x d fk x c2 ks es)):Ad0 (Hb d) ty (λ_ H Q=>Q v H) D σ W2.H:=by
 refine⟨_,hs,?_⟩
 refine hk.toV β W2 c2 σ _ R2 ((Ey l2).mono λp c3 l3 y W3 st3 R3 r3=>?_)
 have t3:Tr W3.Hf x v:=Tr.same st3.fz t2;have st:=st0.trans st3
 have hd3:=hd.step st λ_ z=>z
 cases ek:Cq c3 (nrm p) with
 | none=>simp only[ek]at l3;exact l3.elim
 | some k =>
  simp only[ek]at l3
  by_cases hb:(G9 k&&decide (ks.length<16000000)&&Cd d c3)=true
  ·rw[if_pos hb]at l3
   obtain⟨hb,hb3⟩:=az.mp hb;obtain⟨hb1,hb2⟩:=az.mp hb;have hb2:=aX hb2;obtain⟨_,kd,ekd⟩:=Fg hb1
   have tk:Tr W3.Hf k y:=by rw[ekd]at ek ⊢;exact Dz R3 r3 ek
   obtain⟨b,rfl,kb⟩:=Ap4 hb1 tk;obtain⟨vs,q1,q2,q3,q4⟩:=hd3.at_
   have zl:(ks.zip vs).length<sizeLine:=by rw[j4,<- q2,gQ];exact aP hb2 (by decide)
   have kb':KAt W3.H k b:=kb.stay λb xs q=>R3.sub _ _ q
   refine⟨a,_,rfl,DPut.t q1 kb' zl,?_⟩
   cases ei:M4 k ks with
   | some j =>
    have l3:zG K β W D d a X (.nx c3 ks (es.set j (.d x))):=by unfold Ac9 at l3;simp only[ei]at l3;exact l3
    obtain⟨i1,i2⟩:=Mj hb1 hd3.ky q2 ei;have hj:j<ks.length:=(bH.mp i1).1
    have hjv:j<vs.length:=by lia
    rw[Bp9 hd3.nd i1 (i2.trans (bC hjv))]
    have chg:=U6 (X':=λi=>if i=j then [] else X i) R3 hd3 (H':=upd W3.H a (.dT (ks.zip (vs.set j v)))) (λb=>by
     by_cases z:b=a
     ·exact .inr (.inl (.inl z))
     ·exact .inl (Af z)) (λb z=>by
     rcases z with z | ⟨i,z⟩
     ·exact .inl (.inl z)
     ·have z:=A8t z
      exact .inl (.inr ⟨i,z.1⟩))
    have sub:∀b,DX a (λi=>if i=j then [] else X i) b->DX a X b:=λb z=>by
     rcases z with z | ⟨i,z⟩
     ·exact .inl z
     ·exact .inr ⟨i,(A8t z).1⟩
    refine l3 σ ⟨W3.Hf,_,W3.fps⟩ _ (st.moreX.trans chg.2) chg.1 (Gs hb3) hs ⟨⟨vs.set j v,Am,by rw[bD];exact q2,by rw[bD,bD];exact q3,λi e ei'=>?_⟩,λb z=>hd3.fr b (sub b z),λi i' b z z'=>?_,λi z=>?_,λb z=>?_,λi hi=>?_,hd3.ky,hd3.nd⟩
    ·by_cases z:i=j
     ·subst z
      rw[b_ (by lia)]at ei'
      cases ei'
      exact⟨v,b_ hjv,by rw[if_pos rfl],t3⟩
     ·rw[bQ (aC z)]at ei'
      obtain⟨u,f1,f2⟩:=q4 i e ei'
      refine⟨u,by rw[bQ (aC z)];exact f1,?_⟩
      rw[if_neg z]
      exact f2.step (Same.refl _) λb hb=>Af (λq=>hd3.na i (q▸hb))
    ·exact hd3.dis i i' b (A8t z).1 (A8t z').1
    ·exact hd3.na i (A8t z).1
    ·by_cases q:b=a
     ·rw[q];exact⟨_,Am,trivial⟩
     ·obtain⟨o,e,mu⟩:=hd3.mu b (sub b z)
      exact⟨o,by show upd W3.H a _ b=_;rw[Af q];exact e,mu⟩
    ·rw[bD]at hi
     show (if i=j then [] else X i)=[]
     split
     ·rfl
     ·exact hd3.out i hi
   | none =>
    have l3:zG K β W D d a X (.nx c3 (ks++[k]) (es++[.d x])):=by unfold Ac9 at l3;simp only[ei]at l3;exact l3
    obtain⟨i1,i2⟩:=Jt (vs:=vs) hb1 hd3.ky ei;rw[Bc2 q2 i2]
    have chg:=U6 (X':=X) R3 hd3 (H':=upd W3.H a (.dT ((ks++[k]).zip (vs++[v])))) (λb=>by
     by_cases z:b=a
     ·exact .inr (.inl (.inl z))
     ·exact .inl (Af z)) (λb z=>.inl z)
    refine l3 σ ⟨W3.Hf,_,W3.fps⟩ X (st.moreX.trans chg.2) chg.1 (Gs hb3) hs ⟨⟨vs++[v],Am,by rw[aM,aM,q2];rfl,by rw[aM,aM,q3];rfl,λi e ei'=>?_⟩,hd3.fr,hd3.dis,hd3.na,λb z=>?_,λi hi=>hd3.out i (by rw[aM]at hi;exact gG hi),λx hx=>?_,?_⟩
    ·by_cases z:i<es.length
     ·rw[dw z]at ei'
      obtain⟨u,f1,f2⟩:=q4 i e ei'
      refine⟨u,by rw[dw (by lia)];exact f1,?_⟩
      exact f2.step (Same.refl _) λb hb=>Af (λq=>hd3.na i (q▸hb))
     ·rw[dz (by lia)]at ei'
      have hi:i=es.length:=by
       rcases Nat.lt_or_ge (i-es.length) 1 with q | q
       ·lia
       ·rw[gZ (by simpa using q)]at ei';cases ei'
      subst hi;rw[dq]at ei'
      cases ei'
      refine⟨v,by rw[q3,dz (au _),dq];rfl,hd3.out _ (au _),t3⟩
    ·by_cases q:b=a
     ·rw[q];exact⟨_,Am,trivial⟩
     ·obtain⟨o,e,mu⟩:=hd3.mu b z
      exact⟨o,by show upd W3.H a _ b=_;rw[Af q];exact e,mu⟩
    ·rcases aY.mp hx with hx | hx
     ·exact hd3.ky x hx
     ·rw[aK.mp hx];exact hb1
    ·rw[dm]
     refine⟨hd3.nd,by simp,λx hx y hy e=>?_⟩
     rw[aK.mp hy]at e;exact i1 (e▸hx)
  ·rw[if_neg hb]at l3;exact l3.elim
theorem B0o {ty tv:TE}{fk:n6}{fv:w5->List DE->Ev->R PV}(hk:ME K ty fk)(hv:MVB K d tv fv):MB K d (Ad0 (Hb d) ty tv) (Ak5 (d:=d) fk fv):=by
 intro β W c σ D a ks es X R hc hs hd l
 refine hv β W c σ _ a ks es X R hs hd ((Ey l).mono λq c1 l1 v W1 st1 R1 r1=>?_)
 obtain⟨x,c2,W2,_,l2,e2,st2,R2,t2⟩:=Gz R1 r1 (Ey l1)
 show Ad0 (Hb d) ty (λ_ H Q=>Q v H) D σ W1.H
 rw[<- e2];exact B2f hk (st1.trans st2) R2 hs hd t2 l2
end
section
variable {K:v9}{β:Nat->V}{W W1:Wo}{c:Ev}{σ:St}{Hf H:Hp}{a:Addr}{ks:w5}{es:List DE}{X X':Nat->v6}{d:Nat}{D:Ends}
noncomputable def B5q:Option DE->Option (w5)
 | some (.l xs)=>some xs
 | _=>none
def Py (ks:w5)(es:List DE)(k:t_):List PyData×List DE×Nat:=match M4 k ks with
 | some j=>(ks,es,j)
 | none=>(ks++[k],es++[.l []],ks.length)
def A6g (fk fv:n6):BF:=λc ks es=>(fk c).toB λp c=>match Cq c (nrm p) with
 | some k=>if (G9 k&&decide (ks.length<16000000))=true then match B5q ((Py ks es k).2.1[(Py ks es k).2.2]?) with
  | some xs=>(fv c).toB λq c=>(frz (nrm q) c).toB λx c=>if (decide (xs.length<16000000)&&Cd d c)=true then .nx c (Py ks es k).1 ((Py ks es k).2.1.set (Py ks es k).2.2 (.l (xs++[x]))) else .bad
  | none=>.bad
  else .bad
 | none=>.bad
theorem Ae3 (he:ME K P fe) (R:Rep K β W c σ) (hs:σ[d]?=some (some (.ref a))) (hd:DB W a ks es X) (H:es[j]?=some (.l xs)) (hl:X j=[l])
 (L:zG K β W D d a X ((fe c).toB λq c=>(frz (nrm q) c).toB λx c=>if (decide (xs.length<16000000)&&Cd d c)=true then .nx c ks (es.set j (.l (xs++[x]))) else .bad)) :
 tyV K "list" (.ref l) W.H/\Bp P Er σ W.H λxs H2=>rAppF (.ref l) xs H2 λ_ C=>D.nx σ C:=by
 have g:∀{W:Wo},DB W a ks es X->∃h,W.H l=some (.lst h)/\TrL W.Hf xs h:=λ{W} hd=>by
  obtain⟨Q,O,T,J,s⟩:=hd.at_;obtain⟨v,y,b,h,rfl,k,N,I⟩:=s j _ H;rw[hl]at k
  cases k
  exact⟨h,N,I⟩
 obtain⟨E,h0,_⟩:=g hd
 refine⟨.inl ⟨rfl,E,SqL.of h0⟩,?_⟩
 refine he.toV β W c σ _ R ((Ey L).mono λq c1 V v W1 A R1 r1=>?_)
 obtain⟨x,c2,G,_,r,e2,B,Y,Z⟩:=Gz R1 r1 (Ey V);have M:=A.trans B
 have f:=hd.step M λ_ z=>z
 obtain⟨h,h2,t⟩:=g f
 by_cases p:(decide (xs.length<16000000)&&Cd d c2)=true
 ·rw[if_pos p]at r
  obtain⟨m,F⟩:=az.mp p;have m:=aX m
  show rAppF (.ref l) [v] W1.H λ_ C=>D.nx σ C
  rw[<- e2]
  refine⟨l,v,h,rfl,rfl,h2,by rw[<- t.length];exact aP m (by decide),?_⟩
  have lX:DX a X l:=.inr ⟨j,by rw[hl];exact .head _⟩
  have la:l≠a:=λz=>f.na j (by rw[hl,<- z];exact .head _)
  have n:=U6 (X':=X) Y f (H':=upd G.H l (.lst (h++[v]))) (λb=>by
   by_cases z:b=l
   ·rw[z];exact .inr (.inl lX)
   ·exact .inl (Af z)) (λb z=>.inl z)
  obtain⟨Q,O,T,J,s⟩:=f.at_;have hj:j<es.length:=(bH.mp H).1
  refine r σ ⟨G.Hf,_,G.fps⟩ X (M.moreX.trans n.2) n.1 (Gs F) hs ⟨⟨Q,by show upd _ l _ a=_;rw[Af (aC la)];exact O,T,by rw[bD];exact J,λi e w=>?_⟩,f.fr,f.dis,f.na,λb z=>?_,λi S=>f.out i (by rw[bD]at S;exact S),f.ky,f.nd⟩
  ·by_cases z:i=j
   ·subst z
    rw[b_ hj]at w
    cases w
    obtain⟨v0,y,b,us1,rfl,k,N,I⟩:=s i _ H;rw[hl]at k
    cases k
    exact⟨_,y,l,h++[v],rfl,hl,Am,t.app (TrL.one Z)⟩
   ·rw[bQ (aC z)]at w
    obtain⟨u,y,k⟩:=s i e w
    exact⟨u,y,k.step (Same.refl _) λb p=>Af λq=>z (f.dis i j b p (by rw[hl,q];exact .head _))⟩
  ·by_cases q:b=l
   ·rw[q];exact⟨_,Am,trivial⟩
   ·obtain⟨o,e,U⟩:=f.mu b z
    exact⟨o,by show upd _ l _ b=_;rw[Af q];exact e,U⟩
 ·rw[if_neg p]at r;exact r.elim
theorem B2t (hk:ME K ty fk) (he:ME K te fe):MB K d (Rf (tBM K "list" rAppF (Bs2 (Hb d) ty (Bo5 Er)) (Bp te Er))) (A6g (d:=d) fk fe):=by
 intro β W c σ D a m F X R hc hs hd l
 refine⟨_,hs,a,rfl,.inr (let ⟨C,q,_⟩:=hd.at_; ⟨_,.inl q⟩),?_⟩
 refine hk.toV β W c σ _ R ((Ey l).mono λp c1 r y s J P r1=>?_)
 refine⟨show 0<=sizeLine from aU _,λg n=>?_⟩
 have f:=hd.step J λ_ z=>z
 cases ek:Cq c1 (nrm p) with
 | none=>simp only[ek]at r;exact r.elim
 | some k =>
  simp only[ek]at r
  by_cases I:(G9 k&&decide (m.length<16000000))=true
  ·rw[if_pos I]at r
   obtain⟨t,N⟩:=az.mp I;have N:=aX N;obtain⟨_,kd,ekd⟩:=Fg t
   have tk:Tr s.Hf k y:=by rw[ekd]at ek ⊢;exact Dz P r1 ek
   obtain⟨b,rfl,kb⟩:=Ap4 t tk;obtain⟨C,q1,B,q3,q4⟩:=f.at_
   have zl:(m.zip C).length<sizeLine:=by rw[j4,<- B,gQ];exact aP N (by decide)
   have S:a≠g:=λz=>by rw[<- z,q1]at n;cases n
   have A:∀b,DX a X b->b≠g:=λb z q=>by
    obtain⟨o,e,_⟩:=f.mu b z;rw[q,n]at e;cases e
   have G:=U6 (X':=X) P f (H':=upd s.H g (.lst [])) (λb=>by
    by_cases z:b=g
    ·rw[z];exact .inr (.inr n)
    ·exact .inl (Af z)) (λb z=>.inl z)
   have hd2:DB ⟨s.Hf,upd s.H g (.lst []),s.fps⟩ a m F X :=
    ⟨⟨
     C,by show upd s.H g _ a=_;rw[Af S];exact q1,B,q3,λi e E=>by
     obtain⟨u,V,U⟩:=q4 i e E
     exact⟨u,V,U.step (Same.refl _) λb I=>Af (A b (.inr ⟨i,I⟩))⟩⟩,f.fr,f.dis,f.na,λb z=>by
     obtain⟨o,e,mu⟩:=f.mu b z
     exact⟨o,by show upd s.H g _ b=_;rw[Af (A b z)];exact e,mu⟩,f.out,f.ky,f.nd⟩
   have kb':KAt (upd s.H g (.lst [])) k b:=kb.stay λb xs q=>by
    have:=P.sub _ _ q;rw[Af];exact this;intro z;rw[z,n]at this;cases this
   refine⟨m.zip C,k,b,rfl,by rw[Af S];exact q1,kb',zl,λv L=>?_,λL=>?_⟩
   ·-- there
    cases E:M4 k m with
    | none=>rw[(Jt (vs:=C) t f.ky E).2]at L;cases L
    | some j =>
     unfold Py at r;simp only[E]at r;obtain⟨Y,i2⟩:=Mj t f.ky B E
     cases eE:F[j]? with
     | none=>rw[eE]at r;exact r.elim
     | some en =>
      rw[eE]at r
      cases en with
      | d x=>exact r.elim
      | l xs =>
       obtain⟨u,V,lb,us,rfl,U,f3,f4⟩:=q4 j _ eE;rw[i2,V]at L
       cases L
       exact Ae3 he G.1 hs hd2 eE U (zG.step r (J.moreX.trans G.2))
   ·-- not there
    cases E:M4 k m with
    | some j =>
     obtain⟨Y,i2⟩:=Mj t f.ky B E;have hj:j<m.length:=(bH.mp Y).1
     rw[i2,bC (by lia)]at L;cases L
    | none =>
     unfold Py at r;simp only[E]at r;obtain⟨Y,i2⟩:=Jt (vs:=C) t f.ky E;have T:m.length=F.length:=B.trans q3.symm
     have ej:(F++[DE.l []])[m.length]?=some (.l []):=by rw[T,dz (au _),dq];rfl
     rw[ej]at r
     have M:∀i b,b∈(λi=>if i=m.length then [g] else X i) i->(i=m.length/\b=g)\/(i≠m.length/\b∈X i):=λi b h=>by
      have h:b∈if i=m.length then [g] else X i:=h
      split at h
      ·rename_i q;exact .inl ⟨q,aK.mp h⟩
      ·rename_i q;exact .inr ⟨q,h⟩
     have H:=U6 (X':=λi=>if i=m.length then [g] else X i) P f (H':=upd (upd s.H g (.lst [])) a (.dT (m.zip C++[(k,.ref g)]))) (λb=>by
      by_cases z:b=a
      ·exact .inr (.inl (.inl z))
      ·by_cases z2:b=g
       ·rw[z2];exact .inr (.inr n)
       ·exact .inl (by rw[Af z,Af z2])) (λb z=>by
      rcases z with z | ⟨i,z⟩
      ·exact .inl (.inl z)
      ·rcases M i b z with ⟨_,q⟩ | ⟨_,q⟩
       ·rw[q];exact .inr n
       ·exact .inl (.inr ⟨i,q⟩))
     have hd3:DB ⟨s.Hf,upd (upd s.H g (.lst [])) a (.dT (m.zip C++[(k,.ref g)])),s.fps⟩ a (m++[k]) (F++[.l []]) (λi=>if i=m.length then [g] else X i):=by
      refine⟨⟨C++[.ref g],?_,by rw[aM,aM,B];rfl,by rw[aM,aM,q3];rfl,λi e w=>?_⟩,λb z=>?_,λi i' b z z'=>?_,λi z=>?_,λb z=>?_,λi Z=>?_,λx O=>?_,?_⟩
      ·show upd _ a _ a=_
       rw[Am,List.zip_append B];rfl
      ·by_cases z:i<F.length
       ·rw[dw z]at w
        obtain⟨u,V,U⟩:=q4 i e w
        refine⟨u,by rw[dw (by lia)];exact V,?_⟩
        rw[if_neg (by lia)]
        exact U.step (Same.refl _) λb I=>by
         show upd (upd s.H g _) a _ b=_
         have na:b≠a:=λq=>f.na i (q▸I)
         rw[Af na,Af (A b (.inr ⟨i,I⟩))]
       ·rw[dz (by lia)]at w
        have Z:i=F.length:=by
         rcases Nat.lt_or_ge (i-F.length) 1 with q | q
         ·lia
         ·rw[gZ (by simpa using q)]at w;cases w
        subst Z;rw[dq]at w
        cases w
        refine⟨.ref g,by rw[q3,dz (au _),dq];rfl,g,[],rfl,by rw[if_pos T.symm],?_,rfl⟩
        show upd (upd s.H g _) a _ g=_
        rw[Af (aC S),Am]
      ·rcases z with z | ⟨i,z⟩
       ·exact f.fr b (.inl z)
       ·rcases M i b z with ⟨_,q⟩ | ⟨_,q⟩
        ·rw[q];exact⟨P.notF n,P.notS n⟩
        ·exact f.fr b (.inr ⟨i,q⟩)
      ·rcases M i b z with ⟨q,p1⟩ | ⟨q,p1⟩
       ·rcases M i' b z' with ⟨q',Q⟩ | ⟨q',Q⟩
        ·rw[q,q']
        ·exact absurd p1 (A b (.inr ⟨i',Q⟩))
       ·rcases M i' b z' with ⟨q',Q⟩ | ⟨q',Q⟩
        ·exact absurd Q (A b (.inr ⟨i,p1⟩))
        ·exact f.dis i i' b p1 Q
      ·rcases M i a z with ⟨_,q⟩ | ⟨_,q⟩
       ·exact S q
       ·exact f.na i q
      ·by_cases q:b=a
       ·rw[q];exact⟨_,Am,trivial⟩
       ·by_cases B:b=g
        ·rw[B];exact⟨.lst [],by show upd (upd s.H g _) a _ g=_;rw[Af (aC S),Am],trivial⟩
        ·have zX:DX a X b:=by
          rcases z with z | ⟨i,z⟩
          ·exact .inl z
          ·rcases M i b z with ⟨_,q⟩ | ⟨_,q⟩
           ·exact absurd q B
           ·exact .inr ⟨i,q⟩
         obtain⟨o,e,mu⟩:=f.mu b zX
         exact⟨o,by show upd (upd s.H g _) a _ b=_;rw[Af q,Af B];exact e,mu⟩
      ·rw[aM]at Z
       show (if i=m.length then [g] else X i)=[]
       have:F.length+1<=i:=Z
       rw[if_neg (by lia)]
       exact f.out i (by lia)
      ·rcases aY.mp O with O | O
       ·exact f.ky x O
       ·rw[aK.mp O];exact t
      ·rw[dm]
       refine⟨f.nd,by simp,λx O y hy e=>?_⟩
       rw[aK.mp hy]at e;exact Y (e▸O)
     exact Ae3 he H.1 hs hd3 ej (by rw[if_pos rfl]) (zG.step r (J.moreX.trans H.2))
  ·rw[if_neg I]at r;exact r.elim
end
theorem Az2 {H:Hp}:∀{ds:w5}{vs:m7},ds.length=vs.length->(∀(j:Nat) (x:t_) (v:V),ds[j]?=some x->vs[j]?=some v->Tr H x v)->TrL H ds vs
 | [],[],_,_=>rfl
 | [],_::_,l,_=>nomatch l
 | _::_,[],l,_=>nomatch l
 | x::ds,v::vs,l,h=>⟨v,vs,rfl,h 0 x v rfl rfl,Az2 (g_ l) λj y u e1 e2=>h (j+1) y u (by simpa using e1) (by simpa using e2)⟩
section
variable {K:v9}{β:Nat->V}{W:Wo}{c:Ev}{σ:St}{Hf H:Hp}{a:Addr}{ks:w5}{es:List DE}{X:Nat->v6}{d:Nat}{D:Ends}
open Classical in
noncomputable def R0 (W:Wo) (a:Addr) (u:HO) (X:Nat->v6):Hp:=λb=>if b=a then some u else if ∃j,b∈X j then W.H b else W.Hf b
theorem A9d : R0 W a u X a=some u:=by unfold R0;grind
theorem Au3 (n:b≠a) (h:b∈X j):R0 W a u X b=W.H b:=by unfold R0;rw[if_neg n,if_pos ⟨j,h⟩]
theorem Od (h:¬ DX a X b):R0 W a u X b=W.Hf b:=by unfold R0;rw[if_neg λz=>h (.inl z),if_neg λz=>h (.inr z)]
theorem DB.same (hd:DB W a ks es X):Same W.Hf (R0 W a u X):=λb u e=>by
 rw[Od];exact e;intro z;rw[(hd.fr b z).1]at e;grind
theorem DB.sub (hd:DB W a ks es X) (R:Rep K β W c σ):Same (R0 W a u X) (upd W.H a u):=λb v e=>by
 by_cases z0:b=a
 ·subst z0;rw[A9d]at e;rw[Am];lia
 ·rw[Af z0]
  by_cases z:DX a X b
  ·rcases z with z | ⟨j,z⟩
   ·grind
   ·rw[Au3 z0 z]at e;grind
  ·rw[Od z]at e;exact R.sub b v e
theorem DB.done (hd:DB W a ks es X) (hv:W.H a=some (.dT (ks.zip vs))) (hl:ks.length=vs.length):RepT K (R0 W a (.frz o (.dT (ks.zip vs))) X) (.ds ks (es.map DE.dat)) (.ref a):=by
 obtain⟨c,f,g,q3,s⟩:=hd.at_
 have n:c=vs:=by
  rw[hv]at f
  have e:=cu (λx => x.map (·.2)) (show ks.zip _=ks.zip _ from by injection cz f)
  simp only[jr (fP hl.symm),jr (fP g.symm)]at e
  simp_all
 subst n
 refine⟨a,o,c,rfl,A9d,Az2 (by grind) λj x v i w=>?_,g⟩
 rw[bV]at i;obtain⟨e,p,rfl⟩:=aO.mp i;obtain⟨u,h,k⟩:=s j e p;rw[w]at h
 cases h
 cases e with
 | d x=>exact Tr.same hd.same k.2
 | l xs =>
  obtain⟨b,q,rfl,g1,g2,t⟩:=k
  have m:b∈X j:=by simp_all
  have r:b≠a:=λz=>hd.na j (z▸m)
  exact⟨b,q,rfl,by rw[Au3 r m];grind,TrL.same hd.same t⟩
theorem Rep.hide (R:Rep K β W c σ) (hp:W.H p=none):Rep K β ⟨W.Hf,upd W.H p o,clr W.fps d⟩ (c.set d none) (σ.set d (some v)):=by
 refine⟨At4 R.sub hp,by rw[bD,bD];exact R.len,λj f e=>?_,λj k a m n=>R.dis j k a (Dk m).1 (Dk n).1,λj a h=>?_⟩
 ·have z:j≠d:=λz=>by
   grind
  rw[bQ (λy=>z y.symm)]at e
  obtain⟨g,w,r,b⟩:=R.get j f e
  refine⟨g,by grind,?_,b⟩
  show RepO K W.Hf (upd W.H p o) f g (clr W.fps d j)
  have s:clr W.fps d j=W.fps j:=by unfold clr;rw[if_neg z]
  rw[s]
  exact r.mono (Same.refl _) λa i=>⟨(R.own j a i).1,Af λq=>by obtain⟨_,o,e,_⟩:=R.own j a i;rw[q,hp]at e;cases e⟩
 ·obtain⟨t,f,u,l⟩:=R.own j a (Dk h).1
  exact⟨t,f,by show upd _ p o a=_;rw[Af λq=>by simp_all];exact u,l⟩
def Nf (d:Nat)(F:BF)(g:Ev->SR):Ev->SR:=λc=>if Cd d (c.set d none)=true then match F (c.set d none) [] [] with
 | .nx c ks es=>g (c.set d (some (.ty (.ds ks (es.map DE.dat)))))
 | .bad=>.bad
 else .bad
theorem A7k (h1:MB K d T F) (h2:MS K u g):MS K (V6 (Zx Ap3 (Ez d)) (tFz d T u)) (Nf d F g):=by
 intro C W c J D R l
 show ∀p,W.H p=none->T { D with nx:=λw M=>∃a kvs,w[d]?=some (some (.ref a))/\M a=some (.dT kvs)/\∀o,u D w (upd M a (.frz o (.dT kvs))) } (J.set d (some (.ref p))) (upd W.H p (.dT []))
 intro p A;unfold Nf at l
 by_cases z:Cd d (c.set d none)=true
 ·rw[if_pos z]at l
  have hc:=Gs z
  have H:d<c.length:=by
   grind
  have Z:(J.set d (some (.ref p)))[d]?=some (some (V.ref p)):=b_ (by rw[<- R.len];exact H)
  have R1:Rep K C ⟨W.Hf,upd W.H p (.dT []),clr W.fps d⟩ (c.set d none) (J.set d (some (.ref p))):=R.hide A
  have x:∀b,DX p (λ_=>[]) b->b=p:=λb z=>by
   rcases z with z | ⟨_,z⟩
   ·exact z
   ·cases z
  have U:∀b,Wo.S ⟨W.Hf,upd W.H p (.dT []),clr W.fps d⟩ b->W.S b:=λb ⟨j,h⟩=>⟨j,(Dk h).1⟩
  have S:DB ⟨W.Hf,upd W.H p (.dT []),clr W.fps d⟩ p [] [] (λ_=>[]) :=
   ⟨⟨[],Am,rfl,rfl,λj e ej=>by simp at ej⟩,λb z=>by rw[x b z];exact⟨R.notF A,λq=>R.notS A (U p q)⟩,λi j b z=>(by cases z),λj z=>(by cases z),λb z=>by rw[x b z];exact⟨_,Am,trivial⟩,λ_ _=>rfl,λk Y=>(by cases Y),cX⟩
  have I:Stp W.S W.Hf W.H (orX (Wo.S ⟨W.Hf,upd W.H p (.dT []),clr W.fps d⟩) p (λ_=>[])) W.Hf (upd W.H p (.dT [])) :=
   ⟨Same.refl _,λb o e _=>by rw[Af (λq=>by rw[q,A]at e;cases e)];exact e,λ_ _ _ _ _ q=>q,λb z=>by
    grind⟩
  refine h1 C _ _ _ _ p [] [] _ R1 hc Z S ?_
  cases eF:F (c.set d none) [] [] with
  | bad=>rw[eF]at l;exact l.elim
  | nx c2 r es =>
   rw[eF]at l;intro s m y st G X E f;obtain⟨t,N,q2,_,_⟩:=f.at_
   refine⟨p,r.zip t,E,N,λo=>?_⟩
   have R3:Rep K C ⟨R0 m p (.frz o (.dT (r.zip t))) y,upd m.H p (.frz o (.dT (r.zip t))),m.fps⟩ c2 s:=G.frame f.same (f.sub G) λb O=>by
    have P:¬ DX p y b:=λz=>(f.fr b z).2 O
    obtain⟨i,hi⟩:=O
    exact⟨by rw[Od P];exact(G.own i b hi).1,Af (λz=>P (.inl z))⟩
   have Q:=R3.setN (i:=d) (o:=.ty (.ds r (es.map DE.dat))) (v:=.ref p) (f.done (K:=K) N q2) rfl
   have L:s.set d (some (.ref p))=s:=by
    apply List.ext_getElem?
    grind
   rw[L]at Q
   have B:Stp (orX m.S p y) m.Hf m.H (Wo.S ⟨R0 m p (.frz o (.dT (r.zip t))) y,upd m.H p (.frz o (.dT (r.zip t))),clr m.fps d⟩) (R0 m p (.frz o (.dT (r.zip t))) y) (upd m.H p (.frz o (.dT (r.zip t)))) :=
    ⟨f.same,λb o e n=>by rw[Af λz=>n (.inr (.inl z))];exact e,λb o _ _ n q=>by rw[Od λz=>n (.inr z)];exact q,λb ⟨j,h⟩=>.inl (.inl ⟨j,(Dk h).1⟩)⟩
   exact h2 _ _ _ _ D Q (zF.step l (I.trans (st.trans B)))
 ·rw[if_neg z]at l;exact l.elim
def Qg (fa fw fx:n6):n6:=λc=>(fa c).bind λp c=>match p with
 | .o (.ty (.ds ks ds))=>(fw c).bind λq c=>(fx c).bind λr c=>(frz (nrm r) c).bind λx c=>match Cq c (nrm q) with
  | some k=>if (G9 k&&ks.all G9)=true then .ok (.o (.im ((M5 ks ds k).getD x))) c else .bad
  | none=>.bad
 | _=>.bad
theorem U5:∀{ks ds:w5}{xs:m7}{z:t_},(∀k∈ks,G9 k=true)->G9 z=true->ds.length=xs.length->ks.length=xs.length->M5 ks ds z=none->Ii (ks.zip xs) z=none
 | [],_,_,_,_,_,_,_,_=>rfl
 | _::_,[],[],_,_,_,_,h,_=>nomatch h
 | _::_,[],_::_,_,_,_,h,_,_=>nomatch h
 | _::_,_::_,[],_,_,_,h,_,_=>nomatch h
 | k::ks,d0::ds,v::xs,z,hk,hz,l1,l2,e=>by
  have b:=(Fg (hk k a_)).1.1;have b2:=(Fg hz).1.1
  have e:(if PyData.eqv k z=true then some d0 else M5 ks ds z)=none:=e
  by_cases h:PyData.eqv k z=true
  ·rw[if_pos h]at e;cases e
  ·rw[if_neg h]at e
   rw[bM,Hw (λq=>h ((Ir k z b b2).mpr q))]
   exact U5 (λk m=>hk k (bw _ m)) hz (g_ l1) (g_ l2) e
theorem A6b {H N L:TE} (ha:ME K H fa) (hw:ME K N fw) (hx:ME K L fx):ME K (An2 H N L) (Qg fa fw fx):=by
 intro G W c F Q R s
 refine ha G W c F _ R ((s.bnd).mono λp c1 f v1 A Y l M g=>?_)
 match p,g,f with
 | .o (.ty (.ds ks ds)),g,f =>
  obtain⟨⟨rfl,a,I,P,rfl,O,S,T⟩,_⟩:=g
  have l:Stp W.S W.Hf W.H A.S A.Hf A.H:=l.less λa z=>.inl z
  refine⟨a,rfl,.inr ⟨_,.inr ⟨I,M.sub _ _ O⟩⟩,?_⟩
  refine hw.toV G A c1 F _ M ((f.bnd).mono λq c2 s2 V W2 C R2 B=>?_)
  refine hx.toV G W2 c2 F _ R2 ((s2.bnd).mono λr c3 U v3 W3 n Z r3=>?_)
  obtain⟨x,c4,J,_,j,e4,u,y,X⟩:=Gz Z r3 U.bnd;have D:=C.trans (n.trans u);have B:=RepA.same (n.fz.trans u.fz) B;rw[<- e4]
  cases ed:Cq c4 (nrm q) with
  | none=>simp only[ed]at j;exact j.elim
  | some k =>
   simp only[ed]at j
   by_cases hb:(G9 k&&ks.all G9)=true
   ·rw[if_pos hb]at j
    obtain⟨w,i⟩:=az.mp hb
    have i:∀k∈ks,G9 k=true:=λk m=>aZ.mp i k m
    obtain⟨_,kd,E⟩:=Fg w
    have tz:Tr J.Hf k V:=by rw[E]at ed ⊢;exact Dz y B ed
    obtain⟨b,rfl,kb⟩:=Ap4 w tz;have e2:Rd J.H a (.dT _):=.inr ⟨I,y.sub _ _ (D.fz _ _ O)⟩
    have o:∀d v,Tr _ d v->(M5 _ _ k).getD x=d->Q v _:=λd v t e=>by
     rw[e]at j
     exact j v _ _ ((l.trans D).less λa h=>by
      rcases h with h | h
      ·exact h
      ·cases h) y ⟨⟨rfl,t⟩,λa h=>nomatch h⟩
    refine⟨_,.inr ⟨_,_,b,e2,rfl,kb.stay λb P q=>y.sub _ _ q,rfl⟩,?_⟩
    cases el:M5 _ _ k with
    | some d =>
     obtain⟨v,q1,q2⟩:=Ax6 i w (TrL.same D.fz S) el;rw[q1]
     exact o d v q2 (by rw[el];rfl)
    | none =>
     rw[U5 i w S.length T el]
     exact o x _ X (by rw[el];rfl)
   ·rw[if_neg hb]at j;exact j.elim
 | .o (.ty (.nm _)),g,f=>exact f.elim
 | .o (.ty (.tc _)),g,f=>exact f.elim
 | .o (.ty (.xc _)),g,f=>exact f.elim
 | .o (.ty (.dc _ _)),g,f=>exact f.elim
 | .o (.ty (.dt _ _)),g,f=>exact f.elim
 | .o (.ty (.td _ _ _)),g,f=>exact f.elim
 | .o (.im _),g,f=>exact f.elim
 | .o (.ls _ _),g,f=>exact f.elim
 | .o (.sc _),g,f=>exact f.elim
 | .sl _,g,f=>exact f.elim
end
section
variable {K:v9}{W W':Wo}{c:Ev}{Hf H:Hp}
noncomputable def We (Hf H:Hp):Hp:=λb=>match H b with
 | some (.tup xs)=>some (.tup xs)
 | _=>Hf b
theorem Oc (e:H b=some (.tup xs)):We Hf H b=some (.tup xs):=by unfold We;rw[e]
theorem Tq (h:∀xs,H b≠some (.tup xs)):We Hf H b=Hf b:=by
 unfold We
 grind
theorem W9 (s:Same Hf H):Same Hf (We Hf H):=λb u e=>by
 by_cases h:∃a,H b=some (.tup a)
 ·obtain⟨a,c⟩:=h
  rw[Oc c,<- c];exact s b u e
 ·rw[Tq λa q=>h ⟨a,q⟩];grind
theorem T7 (s:Same Hf H):Same (We Hf H) H:=λb u e=>by
 by_cases h:∃a,H b=some (.tup a)
 ·obtain⟨a,c⟩:=h
  rw[Oc c]at e;grind
 ·rw[Tq λa q=>h ⟨a,q⟩]at e;exact s b u e
theorem Vp (s:Same Hf H):Stp (λ_=>False) Hf H (λ_=>False) (We Hf H) H :=
 ⟨W9 s,λ_ _ e _=>e,λb o e a _ q=>by
  rw[Tq λc z=>by rw[e]at z;cases z;exact a];grind,λ_ z=>z.elim⟩
mutual
theorem Za {H':Hp}(h:∀b xs,H b=some (.tup xs)->H' b=some (.tup xs)):∀{d:t_}{v:V},KTr H d v->Tr H' d v
 | .none,_,e=>e
 | .int _,_,e=>e
 | .str _,_,e=>e
 | .tuple _,_,⟨a,vs,e,ha,t⟩=>⟨a,vs,e,h _ _ ha,Ax4 h t⟩
theorem Ax4 {H':Hp}(h:∀b xs,H b=some (.tup xs)->H' b=some (.tup xs)):∀{ds:w5}{vs:m7},KTrL H ds vs->TrL H' ds vs
 | [],_,e=>e
 | _::_,_,⟨v,r,e,a,t⟩=>⟨v,r,e,Za h a,Ax4 h t⟩
end
theorem Ao0 {ks:w5}{xs:m7}{i:Nat} (e:(ks.zip xs)[i]?=some (k,v)):ks[i]?=some k/\xs[i]?=some v:=by
 grind
def Zc (fa:n6):Ev->R (w5):=λc=>(fa c).bind λp c=>match p with
 | .o (.ty (.ds ks _))=>.ok ks c
 | _=>.bad
theorem A9a (ha:ME K r fa):MI K (iDK r) (Zc fa):=by
 intro D W c w k R s
 refine ha D W c w _ R ((s.bnd).mono λp c1 f v1 m y h t g=>?_)
 match p,g,f with
 | .o (.ty (.ds ks ds)),g,f =>
  obtain⟨⟨rfl,a,o,j,rfl,n,t1,l1⟩,_⟩:=g
  have h:Stp W.S W.Hf W.H m.S m.Hf m.H:=h.less λa z=>.inl z
  have lz:(ks.zip j).length=ks.length:=by simp_all
  refine⟨a,o,ks.zip j,rfl,t.sub _ _ n,f (Itk a o) m h t λi C H q l=>⟨λe=>⟨ks.zip j,l _ _ (q _ _ n),by simp_all⟩,λd B=>⟨⟨ks.zip j,l _ _ (q _ _ n),by grind⟩,λx H' E=>?_⟩⟩⟩
  obtain⟨rfl,A,k',v,b,G,F,rfl,I⟩:=E
  cases (G.symm.trans (l _ _ (q _ _ n)))
  obtain⟨u,_⟩:=Ao0 F
  cases B.symm.trans u
  exact⟨We _ _,Vp l,T7 l,Za (λb j e=>Oc e) I.2⟩
 | .o (.ty (.nm _)),g,f=>trivial
 | .o (.ty (.tc _)),g,f=>trivial
 | .o (.ty (.xc _)),g,f=>exact f.elim
 | .o (.ty (.dc _ _)),g,f=>exact f.elim
 | .o (.ty (.dt _ _)),g,f=>exact f.elim
 | .o (.ty (.td _ _ _)),g,f=>exact f.elim
 | .o (.im _),g,f=>exact f.elim
 | .o (.ls _ _),g,f=>exact f.elim
 | .o (.sc _),g,f=>exact f.elim
 | .sl _,g,f=>trivial
noncomputable def Hj:w5->w5->w5
 | k::ks,d::ds=>.tuple [k,d]::Hj ks ds
 | _,_=>[]
theorem Oa:∀{ks ds:w5},ks.length=ds.length->(Hj ks ds).length=ks.length
 | [],[],_=>rfl
 | [],_::_,h=>nomatch h
 | _::_,[],h=>nomatch h
 | _::ks,_::ds,h=>by
  show (Hj ks ds).length+1=_
  rw[Oa (g_ h)];rfl
theorem Xp:∀{ks ds:w5}{i:Nat}{x:t_},(Hj ks ds)[i]?=some x->∃k d,ks[i]?=some k/\ds[i]?=some d/\x=.tuple [k,d]
 | [],_,_,_,e=>by simp[Hj]at e
 | _::_,[],_,_,e=>by simp[Hj]at e
 | k::ks,d::ds,0,x,e=>by
  cases (show some (PyData.tuple [k,d])=some x from e)
  exact⟨k,d,rfl,rfl,rfl⟩
 | k::ks,d::ds,i+1,x,e=>by
  obtain⟨k',d',h1,h2,h3⟩:=Xp (show (Hj ks ds)[i]?=some x by simpa[Hj] using e)
  exact⟨k',d',by simpa using h1,by simpa using h2,h3⟩
theorem TrL.at {H:Hp}:∀{ds:w5}{vs:m7}{i:Nat}{d:t_}{v:V},TrL H ds vs->ds[i]?=some d->vs[i]?=some v->Tr H d v
 | [],_,_,_,_,_,e,_=>by simp at e
 | x::ds,_,0,d,v,⟨u,r,e0,t,_⟩,e1,e2=>by
  subst e0
  cases (show some x=some d from e1)
  cases (show some u=some v from e2)
  exact t
 | x::ds,_,i+1,d,v,⟨u,r,e0,_,ts⟩,e1,e2=>by
  subst e0
  exact TrL.at ts (by simpa using e1) (by simpa using e2)
def S7 (fa:n6):Ev->R (w5):=λc=>(fa c).bind λp c=>match p with
 | .o (.ty (.ds ks ds))=>if ks.length=ds.length then .ok (Hj ks ds) c else .bad
 | _=>.bad
theorem Az6 (ha:ME K B fa):MI K (iDI B) (S7 fa):=by
 intro F W c P k R s
 refine ha F W c P _ R ((s.bnd).mono λp Y f v1 r X h y g=>?_)
 match p,g,f with
 | .o (.ty (.ds ks ds)),g,f =>
  obtain⟨⟨rfl,a,o,m,rfl,q,A,I⟩,_⟩:=g
  have h:Stp W.S W.Hf W.H r.S r.Hf r.H:=h.less λa z=>.inl z
  have C:(ks.zip m).length=ks.length:=by simp_all
  have w:ks.length=ds.length:=I.trans A.length.symm
  have f:(if ks.length=ds.length then U.R.ok (Hj ks ds) Y else .bad:U.R (w5)).sat _:=f
  rw[if_pos w]at f
  refine⟨a,o,ks.zip m,rfl,y.sub _ _ q,f (Iti a o) r h y λi j H n l=>⟨λe=>⟨ks.zip m,l _ _ (n _ _ q),by rw[C,e,Oa w];lia⟩,λd J=>⟨⟨ks.zip m,l _ _ (n _ _ q),by rw[C,<- Oa w];grind⟩,λx H' M=>?_⟩⟩⟩
  obtain⟨p,G,k',v,b,rfl,D,rfl,Q,S,N⟩:=M
  cases (Q.symm.trans (l _ _ (n _ _ q)))
  obtain⟨L,O⟩:=Ao0 S;obtain⟨k2,d2,V,T,rfl⟩:=Xp J
  cases (V.symm.trans L)
  have u:=T7 (Hf:=j) l;have E:We j H p=none:=Same.free u D;have t:=Stp.newF (o:=.tup [.ref b,v]) u D
  refine⟨upd (We j H) p _,(Vp l).trans t,Iu u,p,_,rfl,Am,.ref b,_,rfl,Tr.same (Bd E) (Za (λb m e=>Oc e) N.2),v,[],rfl,Tr.same (Bd E) (Tr.same (W9 l) (Tr.same n (TrL.at A T O))),rfl⟩
 | .o (.ty (.nm _)),g,f=>exact f.elim
 | .o (.ty (.tc _)),g,f=>exact f.elim
 | .o (.ty (.xc _)),g,f=>exact f.elim
 | .o (.ty (.dc _ _)),g,f=>exact f.elim
 | .o (.ty (.dt _ _)),g,f=>exact f.elim
 | .o (.ty (.td _ _ _)),g,f=>exact f.elim
 | .o (.im _),g,f=>exact f.elim
 | .o (.ls _ _),g,f=>exact f.elim
 | .o (.sc _),g,f=>exact f.elim
 | .sl _,g,f=>trivial
def Ay9 (fa:n6):n6:=λc=>(fa c).bind λp c=>match p with
 | .o (.ty (.ds ks _))=>.ok (.o (.im (.tuple ks))) c
 | _=>.bad
theorem A8g {H':Hp}(h:∀b xs,H b=some (.tup xs)->H' b=some (.tup xs)):∀{ks:w5}{vs:m7},Bi6 H ks vs->TrL H' ks vs
 | [],_,e=>e
 | k::ks,_,⟨b,r,e,kb,t⟩=>⟨.ref b,r,e,Za h kb.2,A8g h t⟩
theorem Bl1 (ha:ME K l fa):ME K (Bu0 l) (Ay9 fa):=by
 intro B W c C Q R s
 refine ha B W c C _ R ((s.bnd).mono λp c1 d v1 j y g h f=>?_)
 match p,f,d with
 | .o (.ty (.ds ks ds)),f,d =>
  obtain⟨⟨rfl,a,o,r,rfl,u,t1,x⟩,_⟩:=f
  have g:Stp W.S W.Hf W.H j.S j.Hf j.H:=g.less λa z=>.inl z
  refine⟨a,o,ks.zip r,rfl,h.sub _ _ u,λm p n q=>?_⟩
  rw[List.map_fst_zip (fP x)]at n;have i:=T7 h.sub;have w := Same.free i q;have k:=(Vp h.sub).trans (Stp.newF (o:=.tup m) i q)
  exact New.of h (λv W' fp A D t=>d v _ _ (g.trans A) D t) _ _ _ [] (k.less λa z=>nomatch z) (Iu i) ⟨rfl,p,m,rfl,Am,TrL.same (Bd w) (A8g (λb r e=>Oc e) n)⟩
 | .o (.ty (.nm _)),f,d=>trivial
 | .o (.ty (.tc _)),f,d=>trivial
 | .o (.ty (.xc _)),f,d=>trivial
 | .o (.ty (.dc _ _)),f,d=>trivial
 | .o (.ty (.dt _ _)),f,d=>trivial
 | .o (.ty (.td _ _ _)),f,d=>exact d.elim
 | .o (.im _),f,d=>exact d.elim
 | .o (.ls _ _),f,d=>exact d.elim
 | .o (.sc _),f,d=>exact d.elim
 | .sl _,f,d=>trivial
end
variable {K:v9}
def Jo:t_->t_->m6
 | .list ds,.str y=>(strsOf ds).map λss=>.im (.int ((ss.countP λz=>z==y:Nat)))
 | _,_=>none
theorem Uq:OpS K (λx y H Q=>Aw7 K x [y] H Q) Jo:=by
 intro Hf H x y dx dy o Q s f c e n;unfold Jo at e
 split at e
 ·rename_i d z
  obtain⟨a,vs,rfl,g,t⟩:=El f
  cases es:strsOf d with
  | none=>grind
  | some b =>
   rw[es]at e;cases e
   cases Fy c
   cases As0 es t
   exact⟨a,b,z,rfl,rfl,SqL.of g,n.int s⟩
 grind
theorem Ay {p a:Pos}(D:Def X.prog X.w X.K X.mg X.base x k ps sp) (hr:Room c X.A) (ha:QA X (e::es) t) (h:k<=c:=by lia) (hg:Gl X x:=by rfl)
 (hdb:(x==("__debug__" : Str))=false:=by decide) (hn:noStar (e::es)=true:=by rfl):QE X (.Call (.Name x p) (e::es) [] a) (Us sp [] E0 t):=by
 obtain⟨f,g,G,b,d,m⟩:=D;exact Pb G (hr.mono h) hg m d b .nil B4z ha hdb hn
end U
namespace L2
open PySem PySem.Spec PyProof.Rows PySem.W
section
variable {X:Cx}
def JT (X:Cx)(vs:v_)(m:Nat):Prop:=∀(pins:y_) (σ:St) (H:Hp) (s:t6) (acc:Str) (Q:Str->t6->Prop),Inv X pins σ H s->acc.length+m<=16001000->(∀out s',out.length<=sizeLine->Inv X pins σ H s'->Q out s')->Joins (model X.prog X.w) X.A X.xe (evalEach vs X.env) acc Q s
theorem B2w:JT X [] 0:=λa c H s b Q I h q=>q _ s (aq h (by decide)) I
theorem Bx0 {v:Expr}{y:Str}(h:QE X v (tC (.str y))):JT X [v] y.length:=by
 intro b j H s a Q I f q
 refine aH (h.get _ s _ H (λv g=>v=.str y/\g=H) I ⟨rfl,rfl⟩) (λu k ⟨v,l,d,r,i,c⟩=>?_) λ_ _ z=>z
 subst i c;obtain⟨t,e⟩:=(r)
 have:(a++y).length<=sizeLine:=by rw[dF];exact aq f (by decide)
 exact⟨y,t,e,this,q _ _ this d⟩
theorem Bb4 {l j:Expr}{vs:v_}{s1:Str}{m:Nat}{o:TE}{f c:Pos}(hu:X.A.units+64<cLine)(hg:X.A.guards=some [])(h1:QE X l (tC (.str s1)))(hn:s1.length<=1000)(h2:QE X j o)(B:JT X vs m)(hm:m<=1000):QE X (.JoinedStr (l::.FormattedValue j 114 none f::vs) c) (tFs s1.length o):=by
 refine⟨λg s C H Q I h=>?_⟩
 refine wpAny_JoinedStr ?_
 refine aH (h1.get _ s _ H (λv M=>v=.str _/\M=H) I ⟨rfl,rfl⟩) (λu W ⟨v,Z,N,r,L,P⟩=>?_) λ_ _ z=>z
 subst L P
 obtain⟨t,e⟩:=(show ∃t,u=Value.str _ t from r)
 refine⟨s1,t,e,?_,?_⟩
 ·rw[dF]
  exact aq (by show 0+s1.length<=1000;lia) (by decide)
 ·refine wpAny_FormattedValue_repr (thn (h2.get _ _ _ _ _ N h) λS U ⟨v,D,E,F,d,G,J,q⟩=>?_)
  refine Be8 hu hg E G F hn J λz V T K x=>?_
  have k:z.length<=sizeLine:=aq (aq (fY _ _) K) (by decide)
  have n:(Str.empty++s1++z).length+m<=16001000:=by
   rw[dF,dF]
   show 0+s1.length+z.length+m<=_;lia
  have i:∀(p:Tok) (w:t6),Inv X g C _ w->∃y t,Value.str z _=.str y t/\(Str.empty++s1++y).length<=sizeLine/\Joins _ _ _ _ (Str.empty++s1++y) (λb a=>b.length<=sizeLine/\EP X _ _ Q (.str b a.toks) { a with toks:=a.toks+1 }) _:=λp w O =>
   ⟨z,p,rfl,aq (fY _ _) (aq n (by decide)),B _ _ _ _ _ _ O n λb Y R A=>⟨R,.str _,D,A.tok _,⟨_,rfl⟩,q _⟩⟩
  exact wpAny_formatField_str (i _ _ x) (i _ _ (x.tok _)) k
end
end L2
namespace U
open PySem L2 PySem.W
end U
namespace L2
open PySem PySem.Spec PyProof.Rows PySem.W
section
variable {K K':Frag}
def Jb (K K':Frag):Prop:=∀a o,K.lookup a=some o->K'.lookup a=some o
theorem Pg (s:Jb K K'){ns:Addr}{x:Str}{r:u_}(e:nsIn K ns x=some r):nsIn K' ns x=some r:=by
 unfold nsIn at e ⊢
 split at e
 ·rename_i a;rw[s _ _ a];lia
 trivial
theorem Ag6 (s:Jb K K'){x:Str}{v:Value}{r:u_}(e:ownIn K x v=some r):ownIn K' x v=some r:=by
 cases v with
 | ref a =>
  unfold ownIn at e ⊢
  dsimp only at e ⊢
  split at e
  ·rename_i b;rw[s _ _ b];exact Pg s e
  simp_all
 | _=>exact e
theorem Tu (s:Jb K K'){x:Str}:∀{l:w6}{r:u_},alongIn K x l=some r->alongIn K' x l=some r
 | [],r,e=>e
 | v::l,r,e=>by
  unfold alongIn at e ⊢
  split at e
  ·rename_i h;rw[Ag6 s h];exact e
  ·rename_i h;rw[Ag6 s h];exact Tu s e
  ·cases e
theorem Gq (s:Jb K K'){x:Str}{C:Addr}{r:u_}(e:findIn K (.ref C) x=some r):findIn K' (.ref C) x=some r:=by
 unfold findIn at e ⊢
 dsimp only at e ⊢
 split at e
 ·rename_i a;rw[s _ _ a];exact Tu s e
 trivial
theorem A9j (s:Jb K K'){C:Addr}{a:ClassData}(e:clsIn K C=some a):clsIn K' C=some a:=by
 unfold clsIn at e ⊢
 split at e
 ·rename_i b;rw[s _ _ b];grind
 trivial
theorem Ub (s:Jb K K'){t b:Value}{r:Bool}(e:subIn K t b=some r):subIn K' t b=some r:=by
 cases t with
 | ref C =>
  obtain⟨c,d,a⟩:=bY.mp (e);exact Option.bind_eq_some_iff.mpr ⟨c,A9j s d,a⟩
 | _=>exact e
theorem Wn (s:Jb K K'){t c:Value}{r:Bool}(e:kitCls K t c=some r):kitCls K' t c=some r:=by
 unfold kitCls at e ⊢
 split at e
 ·rename_i C
  split at e
  ·rename_i z
   rw[if_pos,Ub s e]
   dsimp only[clsIn,typeIn]at z ⊢
   cases ho:K.lookup C with
   | none=>simp_all
   | some o=>rw[s _ _ ho];grind
  simp_all
 ·split at e
  ·rename_i z;rw[if_pos z,Ub s e]
  grind
 trivial
theorem A3r (s:Jb K K'){t c:Value}{r:Bool}(e:kitOne K t c=some r):kitOne K' t c=some r:=by
 unfold kitOne at e ⊢
 split at e
 ·grind
 ·rename_i z;rw[if_neg z];exact Wn s e
theorem Xd (s:Jb K K'){t c:Value}{r:Bool}(e:exmOne K t c=some r):exmOne K' t c=some r:=by
 unfold exmOne at e ⊢
 split at e
 ·rename_i z
  rw[if_pos (by rw[Ub s (cL.mp z)];rfl)];exact Wn s e
 simp_all
theorem Az1 (s:Jb K K'){n:Addr}(e:nsOkIn K n=true):nsOkIn K' n=true:=by
 unfold nsOkIn at e ⊢
 split at e
 ·rename_i a;rw[s _ _ a];grind
 trivial
theorem Xh (s:Jb K K'){b:w6}:∀{l:w6},tailIn K b l=true->tailIn K' b l=true
 | [],e=>e
 | v::l,e=>by
  unfold tailIn at e ⊢
  rcases jE.mp e with q | q
  ·rw[q];rfl
  ·refine Bool.or_eq_true_iff.mpr (.inr ?_)
   split at q
   ·split at q
    ·rename_i ho
     rw[s _ _ ho];simp only[cN,cL]at q ⊢;exact⟨⟨Az1 s q.1.1,Pg s q.1.2⟩,Xh s q.2⟩
    ·cases q
   ·cases q
theorem Yw (s:Jb K K'){C:Addr}(e:Wj K C=true):Wj K' C=true:=by
 unfold Wj at e ⊢
 split at e
 ·rename_i a
  rw[s _ _ a]
  simp at e ⊢
  refine⟨⟨e.1.1,?_⟩,e.2⟩
  have q:=e.1.2
  split at q
  ·simp at q ⊢
   exact⟨q.1,Xh s q.2⟩
  ·cases q
 ·cases e
theorem Bv4 (s:Jb K K'){C:Addr}(e:exP K C=true):exP K' C=true:=by
 obtain⟨c,a⟩:=az.mp e
 refine az.mpr ⟨Yw s c,?_⟩
 unfold noI at a ⊢
 cases ho:K.lookup C with
 | none=>simp_all
 | some o =>
  rw[s _ _ ho];rw[ho]at a
  dsimp only at a ⊢
  split at a
  ·obtain⟨d,b⟩:=az.mp a
   exact az.mpr ⟨Az1 s d,beq_iff_eq.mpr (Pg s (cL.mp b))⟩
  trivial
theorem A7e (s:Jb K K'){C:Addr}(e:xcB K C=true):K5 K' C:=by
 unfold xcB at e
 simp at e
 exact⟨Yw s e.1,Gq s e.2.1,Gq s e.2.2.1,Gq s e.2.2.2⟩
theorem Kh (s:Jb K K'){x:Str}{p:Addr->Bool}(e:clB K x p=true):∃C,nsIn K' mainGlobals x=some (some (.ref C))/\p C=true:=by
 unfold clB at e
 split at e
 ·rename_i C h;exact⟨C,Pg s h,e⟩
 trivial
theorem Am0 (s:Jb K K'){z:Value}:∀{tbl:List (Str×Bool)},tbB K z tbl=true->TbOk K' z tbl
 | [],_=>.nil
 | (x,b)::tbl,e=>by
  obtain⟨e1,e2⟩:=az.mp e;obtain⟨C,n,q⟩:=Kh s e1;obtain⟨q1,q2⟩:=az.mp q;exact .cons n (A7e s q1) (A3r s (cL.mp q2)) (Am0 s e2)
theorem Aq1 (s:Jb K K'){F:Addr}:∀{NS:v4},exB K F NS=true->ExOk K' F NS
 | [],_=>.nil
 | x::NS,e=>by
  obtain⟨e1,e2⟩:=az.mp e;obtain⟨C,n,q⟩:=Kh s e1;exact .cons n (Xd s (cL.mp q)) (Aq1 s e2)
def A0s (R:v4)(T:List (Str×List (Str×Bool)))(V:List (Str×Bool))(F:v4)(h:Heap):Prop:=∃K:Frag,cfB R T V F K=true/\∀a o,K.lookup a=some o->h.get? a=some o/\Bv2 o=true
variable {R:v4}{T:List (Str×List (Str×Bool))}{V:List (Str×Bool)}{F:v4}{h h':Heap}{mg:x_}
theorem B5f {l:List Nat}(e:cfB R T V F (Bo2 l h)=true):A0s R T V F h:=⟨Bo2 l h,e,λa o q=>by
 unfold Bo2 at q;rw[J3]at q
 split at q
 ·obtain⟨c,d,b⟩:=bY.mp q
  grind
 grind⟩
theorem A8a (x:A0s R T V F h)(hk:∀b o,h.get? b=some o->h'.get? b=some o):A0s R T V F h' :=
 let ⟨K,e,q⟩:=x; ⟨K,e,λa o z=>⟨hk _ _ (q a o z).1,(q a o z).2⟩⟩
theorem Bm2 (x:A0s R T V F h)(b:K.In h)(G:h.Ns mainGlobals mg)(g:∀a o,h.get? a=some o->Eb o=true->o.data≠.fields #[]->K.lookup a=some o) :
 (∀(i:Nat) (x:Str),R[i]?=some x->ClR K mg x)/\(∀(i:Nat) (q:Str×List (Str×Bool)),T[i]?=some q->ClT K mg q.2 q.1)/\TbOk K (.type "ValueError") V/\∀(i:Nat) (x:Str),F[i]?=some x->ClF K mg R x:=by
 obtain⟨r,e,q⟩:=x
 have s := λa o z=>by
  obtain⟨l,c⟩:=q a o z;unfold Bv2 at c
  refine g a o l ?_ ?_
  ·unfold Eb;split at c <;> simp_all
  ·intro y;rw[y]at c;cases c
 obtain⟨k,f⟩:=az.mp e;obtain⟨f,d⟩:=az.mp f;obtain⟨d,j⟩:=az.mp d
 refine⟨λi x m=>?_,λi p m=>?_,Am0 s d,λi x m=>?_⟩
 ·obtain⟨C,n,z⟩:=Kh s (aZ.mp k x (bf m))
  exact⟨C,mg_of b G n,n,Bv4 s z⟩
 ·obtain⟨C,n,z⟩:=Kh s (aZ.mp f p (bf m))
  exact⟨C,mg_of b G n,Am0 s z⟩
 ·obtain⟨C,n,z⟩:=Kh s (aZ.mp j x (bf m))
  exact⟨C,mg_of b G n,Aq1 s z⟩
end
end L2
namespace U
open PySem L2
end U
namespace U
open PySem L2 PySem.W
end U
namespace L2
open PySem PySem.Spec PyProof.Rows PySem.W
section
variable {prog:u9}{w:World}{A:q9}{E:z_}{h:Heap}{g:Array GenState}{d:Drawn}{t:Nat}{os:OsState}{K:Frag}
variable {nm q:Str}{C N:Addr}{bs bm:w6}{hdct:Bool}{sn:v4}{sub:w6}{ab:Bool}{col:Option Bool}{dd:Option Addr}{k0 k1 k2 k3 k5:u_}
theorem Br5 {a:w6}{i:Addr}{oI:Obj}{Q:Fin->t6->Prop}(X:K.In h)(T:OwnTail h bmV bm)(f:h.get? C=some (excClassObj nm q C N bs bm hdct sn sub ab col dd k0 k1 k2 k3 k5 "ValueError.__new__")) (hi:findIn K (.ref C) "__init__" = some (some (.ref i)))
 (hf:h.get? i=some oI) (hc:oI.cls=.type "function") (hr:a.length<=sizeLine)
 (hq:∀h' e,Heap.MadeExcOf h h' e (.ref C) a->h.objs.size<=e->wpAny (model prog w) A (call (.ref i) (.ref e::a)) (λr s'=>r=.none/\Q (.done (.ret (.ref e))) s') E ⟨h',g,d,t,os⟩) :
 wpAny (model prog w) A (Builtin.«type.__call__» ⟨.ref C::a,[]⟩) Q E ⟨h,g,d,t,os⟩:=by
 have F:=jt
 repeat (first | with_reducible refine bZ f ?_ | with_reducible refine wpAny_madeBy_exc f ?_ | wp_step)
 refine codeAny_call_builtin_code (jw _ F.quiet) (wpAny_check_new_subT F T f ?_)
 refine codeAny_exc_new_subT F T f ?_ hr
 show wpAny _ _ _ _ _ _
 have M:Heap.MadeExcOf h ((h.push { cls:=.type "tuple",data:=.seq a.toArray }).push { cls:=.ref C,data:=.fields #[.ref h.objs.size,.none,.none,.none,.bool false,.none] }) (h.objs.size+1) (.ref C) a :=
  ⟨λb o z=>aB _ (aB _ z),gk (dC _),h.objs.size,by heap_get,gk (au _),aB _ (Heap.get?_push_at rfl rfl)⟩
 generalize (h.push { cls:=.type "tuple",data:=.seq a.toArray }).push { cls:=.ref C,data:=.fields #[.ref h.objs.size,.none,.none,.none,.bool false,.none] }=h1 at M ⊢;have le:h.objs.size<=h.objs.size+1:=dC _;generalize h.objs.size+1=e at M le ⊢;obtain⟨t0,c,_⟩:=M.there
 have j:(Value.ref C::bm).contains (.ref C)=true:=by simp
 unfold isInstance
 repeat (first | with_reducible refine bZ c ?_ | (with_reducible refine gV (M.keeps _ _ f) ?_;rw[j]) | wp_step)
 show wpAny _ _ (typeLookup (.ref C) _) _ _ _
 refine (dG (X.keeps M.keeps) hi).here ?_
 refine bA (aj ?_)
 unfold bindSpecial
 refine aj (dB (T := "function") ⟨_,M.keeps _ _ hf,hc⟩ ?_)
 rw[if_pos (by decide)]
 refine ak (aj (aH (hq _ _ M le) (λr s' z=>?_) λ_ _ x=>x))
 obtain⟨rfl,hQ⟩:=z
 wp_walk
 exact hQ
theorem A0t {a:w6}{f:Addr}{i:Obj}{Q:z_}(X:K.In h)(T:OwnTail h bmV bm)(b:h.get? C=some (excClassObj nm q C N bs bm hdct sn sub ab col dd k0 k1 k2 k3 k5 "ValueError.__new__")) (hi:findIn K (.ref C) "__init__" = some (some (.ref f)))
 (j:h.get? f=some i) (hc:i.cls=.type "function") (hr:a.length<=sizeLine)
 (k:∀c e,Heap.MadeExcOf h c e (.ref C) a->h.objs.size<=e->wpAny (model prog w) (A.under (.builtin "type.__call__" ⟨.ref C::a,[]⟩)) (call (.ref f) (.ref e::a)) (λr s'=>r=.none/\Q (.ref e) s') E ⟨c,g,d,t,os⟩) :
 wpAny (model prog w) A (call (.ref C) a) Q E ⟨h,g,d,t,os⟩:=by
 have n:=tc_lookup;have o:=tc_bind (.ref C);have p:(⟨h,g,d,t,os⟩:t6).TypeIs (.ref C) "type" := ⟨_,b,rfl⟩
 refine fH (codeAny_of_tree ?_)
 show wpAny _ _ (callAny (.ref C) _) _ _ _
 repeat (any_goals (first | assumption | with_reducible refine bZ b ?_ | wp_step))
 refine⟨rfl,codeAny_call_builtin_at (jw _ (by decide +kernel)) entry_typeCall (wpAny_check_type_call_sub b (Br5 X T b hi j hc hr λc e m l=>?_))⟩
 exact k _ e m l
end
section
variable {prog:u9}{w:World}{M:Model}{A:q9}{E:z_}{s:t6}{env:Env}
variable {nm q:Str}{C N:Addr}{bs bm:w6}{hdct:Bool}{sn:v4}{sub:w6}{ab:Bool}{col:Option Bool}{dd:Option Addr}{k0 k1 k2 k3 k5:u_}{newId:String}
noncomputable abbrev K4 (C:Addr) (d:Option Addr) (t:Addr):Obj:={ cls:=.ref C,dict:=d,data:=.fields #[.ref t,.none,.none,.none,.bool false,.none] }
theorem A8f {x:Sem Value}{Q:Flow->t6->Prop}(hb:bm.contains (.type "BaseException")=true) (b:A.handled=none)
 (h:wpAny M A x (λv s1=>∃e d t,v=.ref e/\s1.heap.get? C=some (excClassObj nm q C N bs bm hdct sn sub ab col dd k0 k1 k2 k3 k5 newId)/\s1.heap.get? e=some (K4 C d t)/\E (.ref e) s1) E s) :
 wpAny M A (raiseStmt env (some x) none) Q E s:=by
 have c:(Value.ref C::bm).contains (.type "BaseException")=true:=by rw[gR,hb,Bool.or_true]
 unfold raiseStmt
 refine aj (aH h (λv s1 z=>?_) λ_ _ x=>x)
 obtain⟨e,d0,t0,rfl,a,he,hE⟩:=z;obtain⟨hp,g,d,tk,os⟩:=s1
 repeat (first | with_reducible refine bZ he ?_ | with_reducible refine bZ a ?_ | (with_reducible refine gV a ?_;rw[c]) | wp_step)
 exact iV b hE
theorem Am1 {x:Str}{k b g:Pos}{c:v_}{Q:Flow->t6->Prop}(hb:bm.contains (.type "BaseException")=true) (n:A.handled=none) (hpl:(backTo b (starEach c env)).any (·.1)=false)
 (h:wpAny (model prog w) A (eval (.Name x k) env) (λf s1=>f=.ref C/\wpAny (model prog w) A (evalArgs (.ref C) true (backTo b (starEach c env)) [])
  (λa s2=>a.kw=[]/\s2.heap.get? C=some (excClassObj nm q C N bs bm hdct sn sub ab col dd k0 k1 k2 k3 k5 newId)/\wpAny (model prog w) A (call (.ref C) a.pos) (λv s3=>∃e d t,v=.ref e/\s3.heap.get? C=some (excClassObj nm q C N bs bm hdct sn sub ab col dd k0 k1 k2 k3 k5 newId)/\s3.heap.get? e=some (K4 C d t)/\E (.ref e) s3) E s2) E s1) E s) :
 wpAny (model prog w) A (exec (.Raise (some (.Call (.Name x k) c [] b)) none g) env) Q E s:=by
 refine aj (cV (A8f (C:=C) (nm:=nm) (q:=q) (N:=N) (bs:=bs) (hdct:=hdct) (sn:=sn) (sub:=sub) (ab:=ab) (col:=col) (dd:=dd) (k0:=k0) (k1:=k1) (k2:=k2) (k3:=k3) (k5:=k5) (newId:=newId) hb n ?_))
 refine aj (aH (wpAny_Call_ofName (aH h (λf s1 z=>?_) λ_ _ x=>x)) (λv s3 z=>aj (cV (ak z))) λ_ _ x=>x)
 obtain⟨rfl,z⟩:=z
 refine aj (bA (aH z (λa s2 y=>aj (cV ?_)) λ_ _ x=>x))
 obtain⟨l,i⟩:=a;obtain⟨j,m,y⟩:=y;obtain rfl:i=[]:=j;simp only[hpl]
 refine aj (wpAny_keeperOf_exc m ?_)
 exact aj (aH y (λv s3 z=>aj (bA (wpAny_point (ak z)))) λ_ _ x=>x)
end
end L2
namespace L2
open PySem PySem.Spec PyProof.Rows PySem.W Builtin Builtin.ObjectAttr
section
variable {prog:u9}{w:World}{A:q9}{E:z_}{h:Heap}{g:Array GenState}{d:Drawn}{t:Nat}{os:OsState}{K:Frag}{s:t6}
variable {nm q f:Str}{C N F e t0:Addr}{bs bm:w6}{sn:v4}{sub:w6}{ab:Bool}{col:Option Bool}{dd:Option Addr}{k0 k1 k2 k3 k5:u_}{v:Value}
theorem A5g {b:Sem Bool}{Q:Value×w6->t6->Prop}(X:K.In s.heap)(hm:typeIn K (.ref F)=some (.type "type")) (hs:nsIn K cStatics "thirdparty.any" = some none) (c:findIn K (.ref F) "__init__" = some (some (.builtin "ValueError.__init__")))
 (d:Q (.builtin "ValueError.__init__",[]) { s with toks:=s.toks+1 }):wpAny (model prog w) A (getMethod (.ref F) "__init__" b) Q E s:=by
 have a:findIn K (.type "type") "__getattribute__" = some (some (.builtin "type.__getattribute__")):=type_tga
 refine method_cls X (by unfold specialIn;rw[hm];exact a) (cls_value (mc:=.type "type") (v:=.builtin "ValueError.__init__") X ?_ ?_ (by decide +kernel) d)
 ·unfold readsIn
  rw[hs,hm]
  rfl
 ·unfold findCls
  rw[c]
  rfl
theorem Bh6 {u:Value}{Q:z_}(T:OwnTail h bmV bm)(c:h.get? C=some (excClassObj nm q C N bs bm true sn sub ab col dd k0 k1 k2 k3 k5 "ValueError.__new__")) (he:h.get? e=some (K4 C none t0))
 (a:∀h' t1,(∀b o,b≠e->h.get? b=some o->h'.get? b=some o)->h'.get? e=some (K4 C none t1)->Q .none ⟨h',g,d,t,os⟩):wpAny (model prog w) A (call (.builtin "ValueError.__init__") [.ref e,u]) Q E ⟨h,g,d,t,os⟩:=by
 have F:=jt
 refine fH (gU F.init.plain F.initEntry (wpAny_check_init_subT F T c he rfl ?_))
 wp_walk
 refine a _ h.objs.size (λb o n z=>?_) ?_
 ·rw[bK _ _ (aC n)]
  exact aB _ z
 ·rw[bU _ (aB _ he) rfl]
  rfl
theorem Ab4 (T:OwnTail h bmV bm)(a:Value):refuseLoop a "__setattr__" bm=pure ():=by
 induction T with
 | base=>exact PySem.F.store_ValueError.passes _
 | own _ _ _ _ b=>rw[refuseLoop_ref];exact b
theorem A3b {M:Model}{c:Value}{Q:Unit->t6->Prop}(T:OwnTail h bmV bm)(j:h.get? C=some (excClassObj nm q C N bs bm true sn sub ab col dd k0 k1 k2 k3 k5 "ValueError.__new__")) (he:h.get? e=some (K4 C none t0)) (f:Q () ⟨h,g,d,t,os⟩) :
 wpAny M A (checkBuiltinCall "object.__setattr__" ⟨[.ref e,c,v],[]⟩) Q E ⟨h,g,d,t,os⟩:=by
 have a:=PySem.F.store_ValueError
 have i:(Value.ref C::bm).contains (.type "object")=true:=by rw[gR,T.hasType (X := "object") (b:=true) rfl];rfl
 have k:=a.args (.ref e) c v;simp only[checkBuiltinCall,a.kind,a.split]
 refine aj ?_
 unfold isInstance
 repeat (first | with_reducible refine bZ he ?_ | (with_reducible refine gV j ?_;rw[i]) | wp_step)
 exact f
theorem A0h {tk:Tok}{Q:Fin->t6->Prop}(X:K.In h)(T:OwnTail h bmV bm)(hC:h.get? C=some (excClassObj nm q C N bs bm true sn sub ab col dd k0 k1 k2 k3 k5 "ValueError.__new__")) (hf:findIn K (.ref C) f=some none) (he:h.get? e=some (K4 C none t0))
 (hq:∀a tk,(∀b o,b≠e->h.get? b=some o->a.get? b=some o)->a.get? e=some (K4 C (some h.objs.size) t0)->a.Ns1 h.objs.size (λy=>if y=f then some v else none)->Q (.done (.ret .none)) ⟨a,g,d,tk,os⟩) :
 wpAny (model prog w) A (Builtin.«object.__setattr__» ⟨[.ref e,.str f tk,v],[]⟩) Q E ⟨h,g,d,t,os⟩:=by
 have l2:=dG (M:=model prog w) X hf;have c:=Ab4 T (.ref e);have ne:e≠h.objs.size:=aQ (aA he)
 generalize h1d:((h.push { cls:=.type "dict",data:=.dict #[] }).update e λo=>{ cls:=o.cls,dict:=some h.objs.size,data:=o.data,slots:=o.slots })=h1
 have x1:h1.get? e=some (K4 C (some h.objs.size) t0):=by rw[<- h1d];exact bU _ (aB _ he) rfl
 have k1:∀b o,b≠e->h.get? b=some o->h1.get? b=some o:=λb o n z=>by rw[<- h1d];exact(Heap.get?_update_ne _ _ _ _ n).trans (aB _ z)
 have n1:h1.Ns1 h.objs.size (λ_=>none):=Heap.Ns1.of_empty ⟨_,#[],_,by rw[<- h1d];exact(Heap.get?_update_ne _ _ _ _ ne.symm).trans (Heap.get?_push_at rfl rfl),rfl,λe he=>absurd he (by simp),λ_=>rfl⟩
 unfold Builtin.«object.__setattr__»
 repeat (first | rw[h1d] | rw[refuse_eq] | rw[refuseLoop_ref,c] | with_reducible refine bZ he ?_ | with_reducible refine wpAny_mroOf_exc hC ?_ | with_reducible refine l2.here ?_ | with_reducible refine wpAny_nsSet1 n1 λa hn hs=>?_ | wp_step)
 obtain⟨oD,eD,pD,hoD,hdD,i⟩:=hn.count (Within.cons f v Within.nil)
 refine wpAny_loadPart hoD ?_
 rw[hdD,pastItsLine_dict (aq i (by rw[aR,cY,sizeLine_eq];lia))]
 refine ak (ak (hq a _ (λb o n z=>?_) ((hs.2 e ne).trans x1) hn))
 exact(hs.2 b (aQ (aA z))).trans (k1 b o n z)
theorem A1x {Q:Unit->t6->Prop}(X:K.In h)(T:OwnTail h bmV bm)(hC:h.get? C=some (excClassObj nm q C N bs bm true sn sub ab col dd k0 k1 k2 k3 k5 "ValueError.__new__")) (hs:findIn K (.ref C) "__setattr__" = some (some (.builtin "object.__setattr__"))) (hf:findIn K (.ref C) f=some none)
 (he:h.get? e=some (K4 C none t0))
 (hq:∀h' tk,(∀b o,b≠e->h.get? b=some o->h'.get? b=some o)->h'.get? e=some (K4 C (some h.objs.size) t0)->h'.Ns1 h.objs.size (λy=>if y=f then some v else none)->Q () ⟨h',g,d,tk,os⟩) :
 wpAny (model prog w) A (setAttr (.ref e) f v) Q E ⟨h,g,d,t,os⟩:=by
 have SF:=PySem.F.store_ValueError;have f3:=SF.slot.bind (.ref e);have l1:=dG (M:=model prog w) X hs;unfold setAttr callSpecial? specialOf
 repeat (any_goals (first | assumption | with_reducible refine bZ he ?_ | with_reducible refine l1.here ?_ | wp_step))
 refine gU SF.slot.plain SF.entry (A3b T hC he (A0h X T hC hf he λh' tk k1 k2 k3=>?_))
 repeat (any_goals (first | assumption | wp_step))
 exact hq h' tk k1 k2 k3
end
section
variable {prog:u9}{w:World}{A:q9}{E:z_}{h:Heap}{g:Array GenState}{d:Drawn}{t:Nat}{os:OsState}{a C dx:Addr}{o:Obj}{K:v9}{f:Str}{v:Value}{m:x_}
theorem Bb1 {tk:Tok}{vs:v7}{Q:Fin->t6->Prop}(X:K.In h)(Z:K5 K C)(c:findIn K (.ref C) f=some none)(hx:h.get? a=some o)(hc:o.cls=.ref C)(hd:o.dict=some dx)(ho:o.data=.fields vs)(hn:h.Ns1 dx m)(hm:m f=some v)(q:Q (.done (.ret v)) ⟨h,g,d,t,os⟩) :
 wpAny (model prog w) A (Builtin.«object.__getattribute__» ⟨[.ref a,.str f tk],[]⟩) Q E ⟨h,g,d,t,os⟩:=by
 obtain⟨s,F,G,H,n,p,e,r,i,u,x,y,z,B,D,b,T⟩:=Gi X Z.exc;have j:=dG (M:=model prog w) X c;have k:=hn.ns;obtain⟨I,J,L,l⟩:=o
 cases hc;cases hd;cases ho
 unfold Builtin.«object.__getattribute__»
 repeat (any_goals (first | assumption | with_reducible refine bZ hx ?_ | with_reducible refine bZ b ?_ | with_reducible refine j.here ?_ | (with_reducible refine wpAny_nsGet k ?_;rw[hm]) | wp_step))
theorem B5t {tk:Tok}{c b:Bool}{vs:v7}{Q:z_}(X:K.In h)(Z:K5 K C)(i:findIn K (.ref C) f=some none)(hx:h.get? a=some o)(hc:o.cls=.ref C)(hd:o.dict=some dx)(ho:o.data=.fields vs)(hn:h.Ns1 dx m)(hm:m f=some v)(j:handedOut v=pure v)(p:Q v ⟨h,g,d,t,os⟩) :
 wpAny (model prog w) A (getAttrBy (.ref a) (.str f tk) c b) Q E ⟨h,g,d,t,os⟩:=by
 have n:=iR.ga.bind (.ref a)
 have r:(b&&onTheHeap (Value.builtin "BaseException.__getattribute__"))=false:=by cases b <;> rfl
 have l:(Value.builtin "BaseException.__getattribute__" == Value.builtin "object.__getattribute__")=false:=by decide +kernel
 have q:(onTheHeap (Value.ref C)&&Value.builtin "BaseException.__getattribute__" == Value.builtin "object.__getattribute__")=false:=by rw[l];rfl
 have k:=dG (M:=model prog w) X Z.ga;have e:=dG (M:=model prog w) X Z.gat
 repeat (any_goals (first | assumption | (with_reducible refine bZ hx ?_;rw[hc]) | with_reducible refine k.here ?_ | with_reducible refine e.here ?_ | wp_step))
 refine gU iR.ga.plain PySem.F.entry_bexc_ga (Ad2 X Z hx hc (Bb1 X Z i hx hc hd ho hn hm ?_))
 repeat (any_goals (first | assumption | rw[j] | wp_step))
theorem Bd5 {b:Bool}{vs:v7}{Q:z_}(X:K.In h)(Z:K5 K C)(c:findIn K (.ref C) f=some none)(hx:h.get? a=some o)(hc:o.cls=.ref C)(hd:o.dict=some dx)(ho:o.data=.fields vs)(hn:h.Ns1 dx m)(hm:m f=some v)(i:handedOut v=pure v)(e:Q v ⟨h,g,d,t+1,os⟩) :
 wpAny (model prog w) A (getAttr (.ref a) f b) Q E ⟨h,g,d,t,os⟩:=by
 unfold getAttr
 repeat (any_goals (first | assumption | with_reducible apply B5t X Z c _ _ _ _ _ _ _ | wp_step))
end
theorem Al4 {x:V}{u:Value}(r:RelV x u):handedOut u=pure u:=by
 cases u with
 | builtin i=>cases x <;> first | (obtain⟨_,e⟩:=r;grind) | cases r
 | _=>rfl
section
variable {X:Cx}{e:Expr}{f:Str}{pos:Pos}{ta:TE}
def tXF (K:v9)(ta:TE)(f:Str):TE:=λσ H Q=>ta σ H λx H1=>∃a C dx v,x=.ref a/\H1 a=some (K6 a C (some dx))/\H1 dx=some (.xd [(f,v)])/\K5 K C/\findIn K (.ref C) f=some none/\Q v H1
theorem B3m (he:PE X e ta)(hb:attributeBase e f X.env (eval e X.env)=eval e X.env):PE X (.Attribute e f pos) (tXF X.K ta f):=by
 intro d s σ H Q I h
 refine Bj4 hb (thn (he _ s _ H _ I h) λu s1 ⟨x,j,c,k,a,C,dx,v,l,m,p,Z,n,q⟩=>?_)
 subst l;obtain rfl:u=Value.ref a:=k;obtain⟨⟨o,g,i,t,vs,w⟩,_⟩:=c.hok a _ m;obtain⟨r,y,A⟩:=c.hok _ _ p;have b:=A f;rw[List.lookup_cons_self]at b
 cases em:r f with
 | none=>rw[em]at b;trivial
 | some z =>
  rw[em]at b;exact Bd5 c.kIn Z n g i t w y em (Al4 b) ⟨v,j,c.tok _,b,q⟩
theorem B5m {Kq:v9}(a:X.K=Kq)(he:QE X e ta)(hb:attributeBase e f X.env (eval e X.env)=eval e X.env:=by rfl):QE X (.Attribute e f pos) (tXF Kq ta f):=by
 subst a;exact⟨B3m he.get hb⟩
end
end L2
namespace L2
open PySem PySem.Spec PyProof.Rows PySem.W
def exI (e C:Addr)(d:Option Addr):HO:=.ext λh=>∃t,h.get? e=some (K4 C d t)
theorem Aq7 {P:u9}{w:World}{H:Hp}{h:Heap}{e C t:Addr}{d:Option Addr}(z:h.get? e=some (K4 C d t)):z9 P w H h e (exI e C d):=⟨⟨t,z⟩,⟨_,z⟩,λb a ⟨t,z⟩ k=>⟨t,k _ z⟩⟩
structure Ri (K:Frag) (C F:Addr) (f:Str):Prop where
 exc:Wj K C=true
 sa:findIn K (.ref C) "__setattr__" = some (some (.builtin "object.__setattr__"))
 fld:findIn K (.ref C) f=some none
 ty:typeIn K (.ref F)=some (.type "type")
 third:nsIn K cStatics "thirdparty.any" = some none
 base:findIn K (.ref F) "__init__" = some (some (.builtin "ValueError.__init__"))
theorem A8j {H:Hp}{a:Addr}{o:HO}(h:H a=some o):upd H a o=H:=by
 funext b
 by_cases e:b=a
 ·subst e;rw[Am,h]
 ·rw[Af e]
section
variable {X:Cx}{C F:Addr}{f x:Str}{p ap cp ep tp pos:Pos}{e o value:Expr}{es:v_}{t:TA}{ta tv:TE}
def B5s (C:Addr)(t:TA):TS:=λD σ H=>t σ H λvs H1=>∃e u,vs=[.ref e,u]/\H1 e=some (exI e C none)/\D.nx σ H1
theorem B0y (Z:Ri X.K C F f)(hg:Gl X x)(hm:X.mg x=some (.ref F))(ha:QA X (e::es) t)(hdb:(x==("__debug__" : Str))=false) (he:starEach (e::es) X.env=(false,eval e X.env)::starEach es X.env) (hpl:(backTo cp (starEach es X.env)).any (·.1)=false)
 (hsw:swapsWith (.Call (.Attribute (.Name x p) "__init__" ap) (e::es) [] cp) none ep.line X.env=pure false) (hl:(ap.endLine==cp.line)=true) (hfew:methodCallForm ((e::es).length+([]:List Keyword).length) (backTo cp (starEach (e::es) X.env)) (backToKw cp (keywordEach [] X.env))=true) :
 QS X (.Expr (.Call (.Attribute (.Name x p) "__init__" ap) (e::es) [] cp) ep) (B5s C t):=by
 obtain⟨ha⟩:=ha
 refine⟨?_⟩
 intro m s o H D I h
 refine wpAny_Expr_any ?_ I.quiet hsw
 have b:methodCallPos true (.Name x p) X.env ap cp=pure cp:=by unfold methodCallPos;grind
 rw[arm_eval_Call,show attributeBase (.Name x p) "__init__" X.env (eval (.Name x p) X.env)=eval (.Name x p) X.env from rfl]
 refine aj (Io I hg hm ?_ hdb)
 refine aj (cV ?_)
 unfold methodCall;rw[hfew]
 refine aj (bA (A5g I.kIn Z.ty Z.third Z.base ?_))
 refine aj (wpAny_of_eq b ?_)
 refine jN (thn (ha _ _ _ _ H _ (I.tok _) h) λus w ⟨vs,E,i,r,a,u,v,c,q⟩=>?_) he hpl
 subst v;obtain⟨u1,u2,rfl,n,r3⟩:=vals2 r
 cases (n)
 obtain⟨⟨t0,ha⟩,_⟩:=i.hok a _ c;obtain⟨bm,Nn,nm,qn,bs,sn,z,ab,A,dd,k0,k1,k2,k3,k5,y,T⟩:=Gi i.kIn Z.exc;obtain⟨hp,g,d,B,os⟩:=w
 refine Bh6 T y ha λh' t1 k l=>?_
 have j:=i.write (t':=B) (by rw[c];trivial) (.inl rfl) k ⟨_,l⟩ (Aq7 l)
 rw[A8j c]at j;exact⟨o,E,j,q⟩
def B6a (C:Addr)(f:Str)(ta tv:TE):TS:=λD σ H=>tv σ H λy H1=>ta σ H1 λx H2=>∃e,x=.ref e/\H2 e=some (exI e C none)/\∀dx,H2 dx=none->D.nx σ (upd (upd H2 e (exI e C (some dx))) dx (.xd [(f,y)]))
theorem By7 (Z:Ri X.K C F f)(ha:QE X o ta)(hv:QE X value tv)(hs:swapsWith value (some (.Attribute o f tp)) pos.line X.env=pure false):QS X (.Assign [.Attribute o f tp] value pos) (B6a C f ta tv):=by
 obtain⟨ha⟩:=ha
 refine⟨?_⟩
 intro b s m H D I h
 refine plainObj_wpAny_Assign_Attribute (thn (hv.1 b s m H _ I h) λu O ⟨y,P,S,E,q⟩=>thn (ha b O m P _ S q) λK j ⟨x,r,i,Q,a,U,v,G⟩=>?_) hs
 subst U;obtain rfl:K=Value.ref a:=Q;obtain⟨⟨t0,ha⟩,_⟩:=i.hok a _ v;obtain⟨bm,Nn,nm,qn,bs,sn,L,ab,M,dd,k0,k1,k2,k3,k5,N,T⟩:=Gi i.kIn Z.exc;have t:r j.heap.objs.size=none:=i.hok.fresh (au _);have l:Ij X b r j.heap.objs.size:=i.fpOk (au _) t
 have J:j.heap.objs.size≠a:=λz=>by simp_all
 have R:X.s₀.heap.get? j.heap.objs.size=none:=gk i.sz;obtain⟨w,g,d,tk,os⟩:=j
 refine A1x i.kIn T N Z.sa Z.fld ha λh' n k A V=>?_
 have B:=i.write (x:=a) (e:=a) (t':=n) (by rw[v];trivial) (.inl rfl) k ⟨_,A⟩ (Aq7 A)
 refine⟨m,_,B.track (o:=.xd _) (by rw[Af J];grind) R l.2.1 (λx c e=>l.2.2.2.2.1 x c e) (λp w=>l.2.2.2.2.2 p w) ⟨_,V,λz=>?_⟩,G _ t⟩
 by_cases hz:z=f
 ·subst hz;rw[List.lookup_cons_self,if_pos rfl];exact E
 ·rw[if_neg hz,bc,beq_false_of_ne hz];trivial
end
theorem O2 {x:Str}{e:Expr}(h:isNm x e=true):∃p,e=.Name x p:=by
 unfold isNm at h
 grind
theorem Bd8 {x f:Str}{e:Expr}(h:isAt x f e=true):∃p q,e=.Attribute (.Name x p) f q:=by
 unfold isAt at h
 split at h
 ·obtain⟨a,b⟩:=az.mp h
  obtain⟨p,rfl⟩:=O2 a
  exact⟨p,_,by rw[cL.mp b]⟩
 trivial
theorem Zo {x:Str}{e:Expr}(h:Ba7 x e=true):∃k p,e=.Constant (.str x) k p:=by
 unfold Ba7 at h
 grind
theorem Ax0 {x:Str}{e:Expr}(h:Bg1 x e=true):∃p q,e=.FormattedValue (.Name x p) 114 none q:=by
 unfold Bg1 at h
 split at h
 ·obtain⟨a,b⟩:=az.mp h
  obtain⟨p,rfl⟩:=O2 a
  exact⟨p,_,by rw[cL.mp b]⟩
 trivial
theorem B0q {s:Stmt}{g:Expr}{a:v_}(h:stE s=some (g,a)):∃q p r,s=.Expr (.Call (.Attribute g "__init__" q) a [] p) r/\(q.endLine==p.line)=true:=by
 unfold stE at h
 grind
theorem B2k {s:Stmt}{g v:Expr}(h:stA s=some (g,v)):∃p,s=.Assign [g] v p:=by
 unfold stA at h
 grind
theorem Bf7 {F p f y z:Str}{b:List Stmt}(h:B1y F p f y z b=true):∃s u o e l i n j q r k m,b=[s,u]/\s=.Expr (.Call (.Attribute (.Name F o) "__init__" e) [.Name "self" l,j] [] i) n/\Bb0 p y z j=true/\(e.endLine==i.line)=true/\u=.Assign [.Attribute (.Name "self" q) f r] (.Name p k) m:=by
 unfold B1y at h
 split at h
 ·obtain⟨c,d⟩:=az.mp h
  split at c
  ·rename_i g a j t
   split at d
   ·rename_i g2 v x
    simp at c d
    obtain⟨e,i,n,rfl,w⟩:=B0q t;obtain⟨m,rfl⟩:=B2k x;obtain⟨o,rfl⟩:=O2 c.1;obtain⟨l,rfl⟩:=O2 c.2.1;obtain⟨q,r,rfl⟩:=Bd8 d.1;obtain⟨k,rfl⟩:=O2 d.2;exact⟨_,_,o,e,l,i,n,j,q,r,k,m,rfl,rfl,c.2.2,w,rfl⟩
   ·cases d
  ·cases c
 ·cases h
theorem Bg8 {p:Str}{a:Arguments}(h:B1s p a=true):∃x y d c,a=⟨[],[⟨"self",x,d⟩,⟨p,y,c⟩],none,[],[],none,[]⟩:=by
 unfold B1s at h
 split at h
 ·rename_i a b
  obtain⟨e,x,d⟩:=a;obtain⟨f,y,c⟩:=b
  simp_all
 trivial
def spI (C:Addr)(n:Nat)(f:Str):Sp:=λvs H Q _=>∃e v d,vs=[.ref e,v]/\H e=some (exI e C none)/\Tr H d v/\Ar9 n d=true/\∀dx,H dx=none->Q .non (upd (upd H e (exI e C (some dx))) dx (.xd [(f,v)]))
section
end
theorem B5v {X:Cx}{p y z:Str}{j:Expr}(hu:X.A.units+64<cLine)(a:X.A.guards=some [])(b:y.length<=1000)(d:z.length<=1000)(c:∀ps,QE X (.Name p ps) (Hb 1))(hj:Bb0 p y z j=true):QE X j (tFs y.length (Hb 1))/\∃l ps,j=.JoinedStr l ps:=by
 unfold Bb0 at hj
 split at hj
 ·simp at hj
  obtain⟨_,_,rfl⟩:=Zo hj.1;obtain⟨_,_,rfl⟩:=Ax0 hj.2;exact⟨Bb4 hu a Cm b (c _) B2w (aU _),_,_,rfl⟩
 ·simp at hj
  obtain⟨_,_,rfl⟩:=Zo hj.1.1;obtain⟨_,_,rfl⟩:=Ax0 hj.1.2;obtain⟨_,_,rfl⟩:=Zo hj.2;exact⟨Bb4 hu a Cm b (c _) (Bx0 Cm) d,_,_,rfl⟩
 trivial
theorem Bi5 {X:Cx}{C b:Addr}{F p f y z:Str}{j:Expr}{w d h e v x i k m:Pos}(Z:Ri X.K C b f)(n:X.N[0]?=some ("self" : Str)) (h1:X.N[1]?=some p) (s0:Vis X.env.scope "self") (s1:Vis X.env.scope p) (hg:Gl X F) (hm:X.mg F=some (.ref b)) (hu:X.A.units+64<cLine) (o:X.A.guards=some [])
 (q:y.length<=1000) (r:z.length<=1000) (s:(p==("__debug__" : Str))=false) (t:(p==("__classdict__" : Str))=false) (u:(F==("__debug__" : Str))=false) (hj:Bb0 p y z j=true) (hl:(d.endLine==e.line)=true) :
 QSs X [.Expr (.Call (.Attribute (.Name F w) "__init__" d) [.Name "self" h,j] [] e) v,.Assign [.Attribute (.Name "self" x) f i] (.Name p k) m] (V6 (B5s C (Bp (Hb 0) (Bp (tFs y.length (Hb 1)) Er))) (B6a C f (Hb 0) (Hb 1))):=by
 have c:∀a,QE X (.Name _ a) _:=λa=>qv 0 n s0
 have g:∀a,QE X (.Name p a) _:=λa=>qv 1 h1 s1 s t
 obtain⟨A,l,a,rfl⟩:=B5v hu o q r g hj;exact Ae (B0y Z hg hm (Ad (c _) (Ad A Ac)) u rfl rfl rfl hl rfl) (Ah (By7 Z (c _) (g _) rfl))
def As4 (p:Str):Prop:=∀(fd:u6) (x y:Option Expr) (a1 a2:Pos) (u1 u2:Value),fd.params=⟨[],[⟨"self",x,a1⟩,⟨p,y,a2⟩],none,[],[],none,[]⟩->fd.defaults=.none->bindArgs fd ⟨[u1,u2],[]⟩=pure [(("self" : Str),u1),(p,u2)]
theorem Bn1 {K:Frag}{D:Iw}{a:Addr}(hB:As4 D.p)(h:Xq K D a=true)(L:Ak2 D=true):∃g k c,K.lookup a=some ⟨.type "function",k,.func g,c⟩/\Binds K g ["self",D.p] [] /\
 ∀{P:u9} {w:World} {mg:x_} {base:Heap} {C o:Addr},Ri K C o D.f->mg D.F=some (.ref o)->FnOk P w K mg base CX0 1 a g ["self",D.p] (spI C D.y.length D.f):=by
 obtain⟨q,F,p,f,y,z⟩:=D;simp only[Ak2,cN,fQ,bne_iff_ne,cL]at L;obtain⟨ly,lz,np,n1,n2,nd⟩:=L;unfold Xq at h
 split at h
 ·rename_i k g c M
  unfold fnB at h;simp only[cN,cL,List.isEmpty_iff,fQ]at h;obtain⟨O,R,V,W,G,I,B,l,i⟩:=h
  split at i
  ·rename_i b N
   obtain⟨nm,qn,par,bd,sc,gl,cl,df,kd,dc,pm,an,co,ct,bu⟩:=g
   dsimp only at O R V W G I B l N
   subst O R V W G N;obtain⟨x1,x2,a1,a2,rfl⟩:=Bg8 B;obtain⟨s,u,p1,p2,p3,p4,p5,j,p6,p7,p8,p9,rfl,rfl,hj,n,rfl⟩:=Bf7 i;simp only[B4k,cN,fQ,jx,cL,aZ,bne_iff_ne]at l;obtain⟨s1,s2,s3,J,U,s6,s7⟩:=l
   refine⟨_,k,c,M,.all λus n=>?_,λ{P w mg base C o} Z hm=>?_⟩
   ·match us,n with
    | [_,_],_=>exact hB _ _ _ _ _ _ _ rfl rfl
   ·have S:Aq ["self",p] ["self",p] sc:=⟨s1,s2,s3,by simp[aC np],rfl,λx m=>.inl (by
     rcases aD.mp m with rfl | m
     ·exact J
     ·cases aK.mp m;exact U),s7⟩
    refine A5x M I S λvs H Q E ⟨_,_,_,e,_⟩=>by rw[e];rfl λA r s H vs Q E T t=>?_
    obtain⟨e,v,d,rfl,X,td,hs,Y⟩:=t
    refine Az9 (Bi5 Z rfl rfl (.inl J) (.inl U) s6 hm T.units T.gd ly lz n1 n2 nd hj n) ?_
    exact⟨.ref e,rfl,v,rfl,d,td,hs,λz=>⟨e,.str z,rfl,X,v,rfl,.ref e,rfl,e,rfl,X,Y⟩⟩
  ·cases i
 ·cases h
theorem As6 {p:Str}(h:∀(nm q:Str) (l:FuncBody) (d:Scope) (e:Addr) (f:List (Str×Addr)) (kd g i:Value) (j:Option Addr) (k c:Value) (m:Addr) (x y:Option Expr) (n o:Pos) (b a:Value),bindArgs ⟨nm,q,⟨[],[⟨"self",x,n⟩,⟨p,y,o⟩],none,[],[],none,[]⟩,l,d,e,f,.none,kd,g,i,j,k,c,m⟩ ⟨[b,a],[]⟩=pure [(("self" : Str),b),(p,a)]):As4 p:=by
 intro r x y n o b a v u;obtain⟨nm,q,s,l,d,e,f,t,kd,g,i,j,k,c,m⟩:=r
 simp_all
example:As4 "name" := As6 λ_ _ _ _ _ _ _ _ _ _ _ _ _ _ _ _ _ _ _=>rfl
section
variable {X:Cx}{pins:y_}{σ:St}{H:Hp}{s:t6}
theorem Inv.drop {e:Addr}{h:Heap->Prop}(I:Inv X pins σ H s)(j:H e=some (.ext h))(f:Ij X pins (λb=>if b=e then none else H b) e):Inv X pins σ (λb=>if b=e then none else H b) { s with heap:=s.heap.hide e }:=by
 have d:∀b,b≠e->(s.heap.hide e).get? b=s.heap.get? b:=λb n=>Heap.hide_ne s.heap n
 have x:∀b u,H b=some u->(∀h,u≠.ext h)->b≠e:=λb u q n z=>by rw[z,j]at q;exact n h (cz q).symm
 have D:∀b,H b=none->b≠e:=λb q z=>by rw[z,j]at q;cases q
 obtain⟨_,i,E,t,l,w⟩:=f
 refine I.step (g':=s.gens) (d':=s.drawn) (t':=s.toks) (ch:=[e]) (λb g=>?_) (λb o _ _ a q _=>(d b λz=>a (by simp[z])).trans q) (λb o _ _ a q _=>⟨o.slots,(d b λz=>a (by simp[z])).trans q⟩) (λb o a q n=>by show (if b=e then none else H b)=none;rw[if_neg (λz=>a (by simp[z]))];exact n)
  (λb o a q=>⟨o,(d b λz=>a (by simp[z])).trans q⟩) (λb k q=>?_) (λb o u q=>?_) (λb q z=>?_) (λm p=>?_) (λb u q=>?_) I.bare
 ·cases aK.mp g
  exact⟨t,i,l,w⟩
 ·simp_all
 ·simp_all
 ·show (if b=e then none else H b)=_;rw[if_neg (x b _ z λ_ z=>nomatch z)];exact z
 ·obtain⟨o,A,y,B,r⟩:=p
  exact⟨o,A,y,(d _ (aC i)).trans B,r⟩
 ·by_cases g:b=e
  ·rw[if_pos g]at q;cases q
  ·rw[if_neg g]at q
   refine (I.hok b u q).stay (λc v a z=>(d c ?_).trans z) (λc z=>?_) (λc k z=>?_) λc C k z=>?_
   ·grind
   ·grind
   ·simp_all
   simp_all
end
section
variable {X:Cx}{x f p:Str}{C Fa fI:Addr}{n:Nat}{np cpos pos:Pos}{e:Expr}{te:TE}{E:XK}{od:Option Addr}{osl:Array (u_)}{fd:u6}
def Zh (C:Addr)(n:Nat)(f:Str)(E:XK)(t:TA):TS:=λ_ σ H=>t σ H λvs H1=>∃v d,vs=[v]/\Tr H1 d v/\Ar9 n d=true/\∀dx,H1 dx=none->E (.ref C) (some dx) (upd H1 dx (.xd [(f,v)]))
theorem A3k (hR:Raises X E)(hc:X.calm=true)(hg:Gl X x)(hm:X.mg x=some (.ref C))(Z:Ri X.K C Fa f)(hi:findIn X.K (.ref C) "__init__" = some (some (.ref fI))) (lk:X.K.lookup fI=some ⟨.type "function",od,.func fd,osl⟩) (hb:Binds X.K fd ["self",p] [])
 (F:FnOk X.prog X.w X.K X.mg X.base CX0 1 fI fd ["self",p] (spI C n f)) (hr:Room 2 X.A) (ha:PE X e te) (hst:isStar e=false) (hdb:(x==("__debug__" : Str))=false:=by decide) (he:starEach [e] X.env=(false,eval e X.env)::starEach [] X.env:=by rfl) :
 PS X (.Raise (some (.Call (.Name x np) [e] [] cpos)) none pos) (Zh C n f E (Bp te Er)):=by
 intro k s σ H D I h;obtain⟨bm,Nn,S,qn,U,Y,w,ab,A,dd,V,k1,k2,k3,k5,M,T⟩:=Gi I.mod.kin Z.exc
 refine Am1 (C:=C) (nm:=S) (q:=qn) (N:=Nn) (bs:=U) (bm:=bm) (hdct:=true) (sn:=Y) (sub:=w) (ab:=ab) (col:=A) (dd:=dd) (k0:=V) (k1:=k1) (k2:=k2) (k3:=k3) (k5:=k5) (newId := "ValueError.__new__") (T.hasType (X := "BaseException") (b:=true) rfl) (I.ok.hd hc) (by rw[he];rfl) (Io I hg hm ⟨rfl,?_⟩ hdb)
 have hs:=B3e ha (Y9 (X:=X)) hst cpos k s σ H _ I h;rw[he]at hs ⊢
 refine eQ (aH hs (λus s2 ⟨vs,l,m,R,v,d,W,td,sh,q⟩=>?_) λ_ _ z=>z)
 subst W;have P:∀b o,X.base.get? b=some o->s2.heap.get? b=some o:=m.bk;obtain⟨u,rfl,ru⟩:=vals1 R
 refine⟨rfl,P _ _ M,?_⟩
 obtain⟨hp,g,d0,tk,os⟩:=s2
 refine A0t m.kIn (T.keeps P) (P _ _ M) hi (m.kIn _ _ lk) rfl (by show 1<=sizeLine;decide) λh' i hM K=>?_
 obtain⟨t0,O,_⟩:=hM.there;have G:l i=none:=m.hok.fresh K;have J:Ij X k l i:=m.fpOk K G;have h0:X.s₀.heap.get? i=none:=gk (aq m.sz K);have I3:Inv X k σ l ⟨h',g,d0,tk,os⟩:=m.kept (t':=tk) hM.keeps
 have L:=I3.track (a:=i) (o:=exI i C none) G h0 J.2.1 (λx c e=>J.2.2.2.2.1 x c e) (λp hp=>J.2.2.2.2.2 p hp) (Aq7 O)
 have r4:Vals [.ref i,v] [.ref i,u]:=.cons rfl R
 have sp:spI C n f [.ref i,v] (upd l i (exI i C none)) (λr H3=>∃j,l j=none/\j≠i/\r=.non/\H3=upd (upd l i (exI i C (some j))) j (.xd [(f,v)])) E0 :=
  ⟨i,v,d,rfl,Am,Tr.same (λb o z=>by rw[Af (Ba z G)];exact z) td,sh,λj t=>by
   have y:j≠i:=λz=>by rw[z,Am]at t;cases t
   rw[Af y]at t
   exact⟨j,t,y,rfl,by rw[Bl4]⟩⟩
 refine fH (fK (F.run _ X.stack _ _ ⟨[.ref i,u],[]⟩ [.ref i,u] [.ref i,v] _ E0 (hr.make C [u] []) (L.env0.make C [u] []) (hb _ [.ref i,u] L.kIn rfl) r4 sp) λr s' B=>?_)
 cases r with
 | error W=>exact False.elim B
 | ok fl =>
  cases fl with
  | next=>exact False.elim B
  | brk=>exact False.elim B
  | cont=>exact False.elim B
  | ret z =>
   obtain⟨v5,H5,Q,r5,j,t,y,rfl,rfl⟩:=L.after B;obtain rfl:z=Value.none:=r5
   have e5:upd (upd l i (exI i C (some j))) j (.xd [(f,v)]) i=some (exI i C (some j)):=by rw[Af (aC y),Am]
   obtain⟨⟨t1,x1⟩,_⟩:=Q.hok i _ e5
   have eH:(λb=>if b=i then none else upd (upd l i (exI i C (some j))) j (.xd [(f,v)]) b)=upd l j (.xd [(f,v)]):=by
    funext b
    by_cases hb:b=i
    ·subst hb;rw[if_pos rfl,Af (aC y)];exact G.symm
    ·rw[if_neg hb];unfold upd;split
     ·rfl
     ·first | rfl | rw[if_neg _]
   have I6:=Q.drop e5 ⟨by simp,J.2⟩
   rw[eH]at I6
   refine⟨rfl,i,some _,t1,rfl,Q.bk _ _ M,x1,?_⟩
   exact hR _ _ _ { s' with heap:=s'.heap.hide _ } _ _ C _ I6 ⟨λb o z=>Heap.of_hide z,Heap.hide_self ..,_,_,x1,rfl,rfl,rfl,rfl⟩ (q _ t)
theorem A1l (b:Raises X E)(hc:X.calm=true)(hg:Gl X x)(hm:X.mg x=some (.ref C))(Z:Ri X.K C Fa f)(hi:findIn X.K (.ref C) "__init__" = some (some (.ref fI))) (a:X.K.lookup fI=some ⟨.type "function",od,.func fd,osl⟩) (hb:Binds X.K fd ["self",p] [])
 (F:FnOk X.prog X.w X.K X.mg X.base CX0 1 fI fd ["self",p] (spI C n f)) (hr:Room 2 X.A) (ha:QE X e te) (hst:isStar e=false:=by rfl) (hdb:(x==("__debug__" : Str))=false:=by decide) (he:starEach [e] X.env=(false,eval e X.env)::starEach [] X.env:=by rfl) :
 QS X (.Raise (some (.Call (.Name x np) [e] [] cpos)) none pos) (Zh C n f E (Bp te Er)):=⟨A3k b hc hg hm Z hi a hb F hr ha.get hst hdb he⟩
end
section
variable {K K':Frag}
theorem A1v (s:Jb K K'){c:Value}{q:Str}(e:codeIn K c q=true):codeIn K' c q=true:=by
 unfold codeIn at e ⊢
 split at e
 ·split at e
  ·rename_i a;rw[s _ _ a];grind
  grind
 trivial
theorem A4s (s:Jb K K'){D:Iw}{a:Addr}(e:Xq K D a=true):Xq K' D a=true:=by
 unfold Xq at e ⊢
 split at e
 ·rename_i c
  rw[s _ _ c];unfold fnB at e ⊢
  simp at e ⊢
  obtain⟨d,f,g,h,i,j,b⟩:=e;exact⟨d,f,g,h,i,A1v s j,b⟩
 trivial
theorem B1r (s:Jb K K'){C F:Addr}{f:Str}(e:ikB K C F f=true):Ri K' C F f:=by
 unfold ikB at e
 simp at e
 obtain⟨b,c,d,a,h,g⟩:=e
 refine⟨Yw s b,Gq s c,Gq s d,?_,Pg s h,Gq s g⟩
 obtain⟨o,i,j⟩:=aO.mp (show (K.lookup F).map _=_ from a)
 show (K'.lookup F).map _=_
 rw[s _ _ i]
 simp_all
def ClI (K:Frag)(mg:x_)(D:Iw)(x:Str):Prop:=∃C F a fd od osl,mg x=some (.ref C)/\nsIn K mainGlobals x=some (some (.ref C))/\(K5 K C/\Ri K C F D.f)/\findIn K (.ref C) "__init__" = some (some (.ref a))/\K.lookup a=some ⟨.type "function",od,.func fd,osl⟩/\Binds K fd ["self",D.p] [] /\
 ∀(P:u9) (w:World) (base:Heap),FnOk P w K mg base CX0 1 a fd ["self",D.p] (spI C D.y.length D.f)
def B5x (K:Frag)(F:Addr)(NS:v4):Prop:=∀nm∈NS,∀C,nsIn K mainGlobals nm=some (some (.ref C))->exmOne K (.ref C) (.ref F)=some false
theorem Bz9 (s:Jb K K'){F:Addr}{b:v4}(e:exN K F b=true):B5x K' F b:=λd m C a=>by
 obtain⟨c,n,q⟩:=Kh s (aZ.mp e _ m);rw[n]at a;cases a;exact Xd s (cL.mp q)
def ClH (K:Frag)(mg:x_)(yes no:v4)(T:Str):Prop:=∃g,mg T=some (.ref g)/\ExOk K g yes/\B5x K g no
def A3z (J:List (Str×Iw))(Y:List (Str×List Str×v4))(h:Heap):Prop:=∃K:Frag,ciA J Y K=true/\∀a o,K.lookup a=some o->h.get? a=some o/\B0b o=true
variable {J:List (Str×Iw)}{Y:List (Str×List Str×v4)}{h h':Heap}{mg:x_}
theorem B5p {l:List Nat}(e:ciA J Y (Bm8 l h)=true):A3z J Y h:=⟨Bm8 l h,e,λa o q=>by
 unfold Bm8 at q;rw[J3]at q
 split at q
 ·obtain⟨c,d,b⟩:=bY.mp q
  grind
 grind⟩
theorem A9k (x:A3z J Y h)(hk:∀b o,h.get? b=some o->h'.get? b=some o):A3z J Y h' :=
 let ⟨K,e,q⟩:=x; ⟨K,e,λa o z=>⟨hk _ _ (q a o z).1,(q a o z).2⟩⟩
theorem Bj2 (x:A3z J Y h)(b:K.In h)(G:h.Ns mainGlobals mg)(H:∀a o,h.get? a=some o->Eb o=true->o.data≠.fields #[]->K.lookup a=some o) :
 (∀(i:Nat) (q:Str×Iw),J[i]?=some q->As4 q.2.p->ClI K mg q.2 q.1)/\∀(i:Nat) (q:Str×List Str×v4),Y[i]?=some q->ClH K mg q.2.1 q.2.2 q.1:=by
 obtain⟨N,e,q⟩:=x
 have s := λa o z=>by
  obtain⟨B,g⟩:=q a o z;unfold B0b at g
  refine H a o B ?_ ?_
  ·unfold Eb;split at g <;> simp_all
  ·intro y;rw[y]at g;simp at g
 obtain⟨l,r⟩:=az.mp e
 refine⟨λi p m t=>?_,λi p m=>?_⟩
 ·obtain⟨u,z⟩:=az.mp (aZ.mp l p (bf m))
  obtain⟨C,n,z⟩:=Kh s z;obtain⟨F,v,z⟩:=Kh s z;obtain⟨c,d⟩:=az.mp z
  split at d
  ·rename_i a D
   obtain⟨E,c⟩:=az.mp c;have Z:=B1r s c;obtain⟨A,I,j,L,M,f⟩:=Bn1 t (A4s s d) u
   exact⟨C,F,a,A,I,j,mg_of b G n,n,⟨A7e s E,Z⟩,Gq s D,L,M,λP w k=>f Z (mg_of b G v)⟩
  ·cases d
 ·obtain⟨F,n,z⟩:=Kh s (aZ.mp r p (bf m))
  obtain⟨c,d⟩:=az.mp z;exact⟨F,mg_of b G n,Aq1 s c,Bz9 s d⟩
end
end L2
set_option autoImplicit true
namespace U
open PySem L2
def Tc (nm:Str)(n:Nat)(f:Str)(fe:n6):Ev->XS:=λc=>match fe c with
 | .bad=>.s .bad
 | .ok p c=>match rdP c p with
  | some (.im d)=>if Ar9 n d=true then .ex ⟨nm,some (f,d)⟩ c else .s .bad
  | _=>.s .bad
def cXF (NS:v4)(f:Str)(fe:n6):n6:=λc=>(fe c).bind λp c=>match rdP c p with
 | some (.ty (.xc nm))=>if NS.contains nm.n=true then match nm.p with
  | some q=>if q.1=f then .ok (.o (.im q.2)) c else .bad
  | none=>.bad
  else .bad
 | _=>.bad
section
variable {K:v9}{β:Nat->V}{W:Wo}{c:Ev}{σ:St}{D:Ends}{E:XK}{Hf H:Hp}{o:O}{v:V}{fp:v6}
theorem B4g {p:PV}{d:t_}(R:Rep K β W c σ)(r:Dh K W σ p v fp)(e:rdP c p=some (.im d)):Tr W.Hf d v:=by
 cases p with
 | o g=>cases e;exact r.1.2
 | sl i =>
  have e:c[i]?.join=some _:=e
  have b:c[i]?=some (some (.im d)):=by
   grind
  obtain⟨j,a,f,_⟩:=R.get i _ b;have h := r.2;rw[h]at a;cases a;exact f.2
theorem A0u {nm f:Str}{n:Nat}{C:Addr}{j:TE}{fe:n6}(hn:PySem.W.nsIn K mainGlobals nm=some (some (.ref C)))(h:ME K j fe):MX K E (Zh C n f E (Bp j Er)) (Tc nm n f fe):=by
 intro H W c G D R l;unfold Tc at l
 refine h _ W c _ _ R ?_
 cases e:fe c with
 | bad=>rw[e]at l;exact l
 | ok p x =>
  rw[e]at l;intro v r F s g t
  cases ed:rdP x p with
  | none=>simp only[ed]at l;trivial
  | some o =>
   simp only[ed]at l
   split at l
   ·rename_i d u
    cases u
    split at l
    ·rename_i w
     have i:=B4g g t ed
     refine⟨v,d,rfl,Tr.same g.sub i,w,λm y=>?_⟩
     have b:Stp _ _ _ _ (upd _ _ (.xd [(f,v)])) _:=Stp.newF g.sub y
     have A:Stp r.S _ _ _ _ _:=⟨b.fz,λa o e n=>b.kp a o e λz=>z,λa o e B n q=>b.nf a o e B (λz=>z) q,λa z=>.inl z⟩
     have k := Stp.rep g b (Iu g.sub)
     exact l C _ _ _ ⟨hn,m,v,rfl,Am,Tr.same b.fz i⟩ ((s.less λa z=>.inl z).trans A) k
    trivial
   trivial
theorem B5a {l:TE}{fe:n6}{f:Str}{m:v4}(hz:∀j∈m,∀C,PySem.W.nsIn K mainGlobals j=some (some (.ref C))->K5 K C/\PySem.W.findIn K (.ref C) f=some none)(h:ME K l fe):ME K (tXF K l f) (cXF m f fe):=by
 intro β W c σ Q R s
 refine h _ W c _ _ R (s.bnd.mono λp t b v1 W1 A k i F=>?_)
 cases ed:rdP t p with
 | none=>simp only[ed]at b;exact b.elim
 | some o =>
  simp only[ed]at b
  split at b
  ·rename_i j w
   cases w
   split at b
   ·rename_i x
    obtain⟨a,C,d,e,n,y⟩:=A7f i F ed;subst e;have g:=n.pay
    cases ep:j.p with
    | none=>rw[ep]at b;exact b.elim
    | some q =>
     rw[ep]at b g
     dsimp only at b
     split at b
     ·rename_i B
      obtain⟨D,v,rfl,r,E⟩:=g
      obtain⟨G,u⟩:=hz _ (by simpa using x) C n.ns
      rw[B]at r
      refine⟨a,C,D,v,rfl,i.sub _ _ y,i.sub _ _ r,G,u,?_⟩
      exact b v _ _ (k.less λa z=>by
       grind) i ⟨⟨rfl,E⟩,λa z=>nomatch z⟩
     ·exact b.elim
   ·exact b.elim
  trivial
theorem A4i {mg:x_}{D:Iw}{x:Str}(h:ClI K mg D x):∀c∈[x],∀C,PySem.W.nsIn K mainGlobals c=some (some (.ref C))->K5 K C/\PySem.W.findIn K (.ref C) D.f=some none:=λc e C b=>by
 obtain⟨f,F,a,g,i,d,m,n,Z,_⟩:=h
 cases aK.mp e
 rw[n]at b
 cases b
 exact⟨Z.1,Z.2.fld⟩
end
end U
namespace U
open PySem L2 PySem.W
section
variable {K:v9}{E:XK}
def Kc (F:w5->XF)(fa:o9):Ev->XS:=K1 F fa (λ_ c=>.s (.nx c)) .ex
theorem A7s {F:w5->XF}{t:TA}{f:o9}(ha:MA K t f):MX K E (Rf (Us (spX K F) [] E t)) (Kc F f):=by
 intro k W c j D R l
 have:=Ah6 ha R l (λo i h v a b e r=>e _ _ a b)
  (λm i h C d a b e g=>e C d _ _ g a b)
 show t _ _ _
 simp_all
end
end U
namespace L2
open PySem PySem.Spec PyProof.Rows
def Be5 (K:v9)(n:Nat)(t:TGs):TG:=λv σ H Q=>∃a xs,v=.ref a/\SqL K H a xs/\xs.length=n/\t xs σ H Q
section
variable {X:Cx}{pos:Pos}
theorem B0i {es:v_}{k:Nat}{t:TGs}{n:Nat}(hc:X.calm=true)(h:PGs X es t)
 (hn:(assignEach es X.env).length=n:=by rfl) (hst:(assignEach es X.env).findIdx? (·.1)=none:=by rfl):PG X (.Tuple es k pos) (Be5 X.K n t):=by
 intro pins s σ H v u Q I r hw;obtain⟨a,xs,e1,hq,hl,hw⟩:=hw;subst e1
 cases r
 obtain⟨its,rv,ht,hz⟩:=I.list hq
 have e:its.toArray.size=n:=by simp[<- hl,rv.length]
 rw[arm_assign_Tuple]
 refine aj (cV ?_)
 unfold unpack;rw[hn,hst,<- e]
 refine aj (bA (PySem.W.kun_itemsOf (I.ok.hd hc) ht.isList λh' hx=>?_))
 have I1:Inv X pins σ H { s with heap:=h' }:=I.kept (t':=s.toks) λb o e=>hx b o (aQ (aA e)) e
 exact h pins _ σ H xs _ Q I1 (by simpa using rv) hw
theorem Bx3 {Kq:v9}(hKq:X.K=Kq){es:v_}{k:Nat}{t:TGs}{n:Nat}(hc:X.calm=true)(h:QGs X es t)
 (hst:(assignEach es X.env).findIdx? (·.1)=none:=by rfl) (hn:(assignEach es X.env).length=n:=by rfl):QG X (.Tuple es k pos) (Be5 Kq n t):=by
 subst hKq;exact⟨B0i hc h.get hn hst⟩
end
end L2
namespace U
open PySem L2
end U
namespace L2
open PySem PySem.Spec PyProof.Rows
open PySem.AutoSeq1 (wpAny_loadPart')
end L2
namespace L2
open PySem PySem.Spec PyProof.Rows PySem.Calls
open PySem.AutoSeq1 (wpAny_loadPart')
end L2
namespace U
open PySem L2
end U
namespace U
open PySem L2 PySem.W
variable {K:v9}{β:Nat->V}{W W':Wo}{c:Ev}{σ:St}{Hf H:Hp}
theorem Av8 {vs us:m7}{xs ys:w5}(s:Same Hf H)(q1:TrL Hf xs vs)(q2:TrL Hf ys us):∀{i:Nat}{ps:m7}{H2:Hp},LaidS H vs us i ps H2->∃Hf2,Stp (λ_=>False) Hf H (λ_=>False) Hf2 H2/\Same Hf2 H2/\TrL Hf2 ((Vv xs ys).take i) ps
 | 0,_,_,⟨e1,e2⟩=>by subst e1 e2;exact⟨Hf,.refl,s,rfl⟩
 | i+1,_,_,⟨r,H',p,x,y,l,hx,hy,hp,e1,e2⟩=>by
  subst e1 e2;obtain⟨Hf',st,s',t⟩:=Av8 s q1 q2 l;obtain⟨dx,ex,tx⟩:=q1.get hx;obtain⟨dy,ey,ty⟩:=q2.get hy;have fr:Hf' p=none:=s'.free hp
  have e:(Vv xs ys)[i]?=some (.tuple [dx,dy]):=by
   unfold Vv;rw[bV,(List.getElem?_zip_eq_some (l₁:=xs) (l₂:=ys) (z:=(dx,dy))).mpr ⟨ex,ey⟩];rfl
  refine⟨upd Hf' p (.tup [x,y]),st.trans (Stp.newF s' hp),Iu s',?_⟩
  rw[List.take_succ,e]
  have up:=λ{d:t_} {v:V} (t:Tr Hf d v)=>Tr.same (Bd (o:=.tup [x,y]) fr) (Tr.same st.fz t)
  exact TrL.app (TrL.same (Bd fr) t) (TrL.one ⟨p,_,rfl,Am,x,_,rfl,up tx,y,[],rfl,up ty,rfl⟩)
def A4y (f g:n6):n6:=λc=>(f c).bind λp c=>(g c).bind λq c=>(frz (nrm p) c).bind λx c=>(frz (nrm q) c).bind λy c=>match Nz x,Nz y with
 | some xs,some ys=>if xs.length=ys.length then .ok (.o (.im (.tuple (Vv xs ys)))) c else .bad
 | _,_=>.bad
theorem Be3 (h:ME K t f) (h':ME K u g):ME K (Bs0 (Bp t (Bp u Er))) (A4y f g):=by
 intro A W c C Q R s
 refine h.toV A W c C _ R (s.bnd.mono λp T Y v1 O m R1 r1=>?_)
 refine h'.toV A O T C _ R1 (Y.bnd.mono λq c2 s2 v2 W2 k U X=>?_)
 obtain⟨x,c3,W3,_,s3,e3,j,R3,M⟩:=Gz U (RepA.same k.fz r1) s2.bnd;obtain⟨y,c4,W4,_,d,N,e,l,S⟩:=Gz R3 (RepA.same j.fz X) s3.bnd
 cases ex:Nz x with
 | none=>simp only[ex]at d;exact d.elim
 | some D =>
  cases ey:Nz y with
  | none=>simp only[ex,ey]at d;exact d.elim
  | some E =>
   simp only[ex,ey]at d
   by_cases hl:D.length=E.length
   ·rw[if_pos hl]at d
    obtain⟨V,a,F,rfl,J,Z⟩:=Ak6 ex M;obtain⟨t2,b,us,rfl,h2,B⟩:=Ak6 ey S;rw[<- e3,<- N];have z:=Ly e.fz J;have i:=TrL.same e.fz Z
    refine⟨a,b,rfl,V,t2,F,us,Ly l.sub z,Ly l.sub h2,by rw[<- i.length,<- B.length];exact hl,λH p H2 L G=>?_⟩
    obtain⟨Hf2,r,n,I⟩:=Av8 l.sub i B L
    have lz:(Vv D E).length=F.length:=by unfold Vv;rw[ao,j4,<- hl,gQ,i.length]
    rw[List.take_of_length_le (fP lz)]at I;have fr := n.free G
    exact New.of l (λv W' fp st w P=>d v _ _ ((m.trans (k.trans (j.trans e))).trans st) w P) _ _ _ [] ((r.trans (Stp.newF (o:=.tup H) n G)).less λa z=>nomatch z) (Iu n) ⟨rfl,p,H,rfl,Am,TrL.same (Bd fr) I⟩
   ·rw[if_neg hl]at d;exact d.elim
def Q3 (fa:n6):Ev->R (w5):=λc=>(fa c).bind λp c=>match p with
 | .o (.ty (.ds ks ds))=>if ks.length=ds.length then .ok ds c else .bad
 | _=>.bad
theorem Bc0 {td:TE}{fa:n6}(ha:ME K td fa):MI K (iDV td) (Q3 fa):=by
 intro β W c σ k R s
 refine ha β W c σ _ R ((s.bnd).mono λp c1 s1 v1 W1 fp1 st1 R1 r1=>?_)
 match p,r1,s1 with
 | .o (.ty (.ds ks ds)),r1,s1 =>
  obtain⟨⟨rfl,a,o,xs,rfl,h1,t1,l1⟩,_⟩:=r1
  have st1:Stp W.S W.Hf W.H W1.S W1.Hf W1.H:=st1.less λa z=>.inl z
  have lz:(ks.zip xs).length=ks.length:=by rw[j4,<- l1,gQ]
  have ld:ks.length=ds.length:=l1.trans t1.length.symm
  have s1:(if ks.length=ds.length then U.R.ok ds c1 else .bad:U.R (w5)).sat _:=s1
  rw[if_pos ld]at s1
  refine⟨a,o,ks.zip xs,rfl,R1.sub _ _ h1,s1 (Itv a o) W1 st1 R1 λi Hf' H sa sb=>⟨λe=>⟨ks.zip xs,sb _ _ (sa _ _ h1),by rw[lz,e,ld];exact au _⟩,λd hd=>⟨⟨ks.zip xs,sb _ _ (sa _ _ h1),by rw[lz,ld];exact(bH.mp hd).1⟩,λx H' hy=>?_⟩⟩⟩
  obtain⟨rfl,kvs,k',e1,e2⟩:=hy
  cases (e1.symm.trans (sb _ _ (sa _ _ h1)))
  obtain⟨_,q2⟩:=Ao0 e2;exact⟨Hf',.refl,sb,Tr.same sa (TrL.at t1 hd q2)⟩
 | .o (.ty (.nm _)),r1,s1=>exact s1.elim
 | .o (.ty (.tc _)),r1,s1=>exact s1.elim
 | .o (.ty (.xc _)),r1,s1=>exact s1.elim
 | .o (.ty (.dc _ _)),r1,s1=>exact s1.elim
 | .o (.ty (.dt _ _)),r1,s1=>exact s1.elim
 | .o (.ty (.td _ _ _)),r1,s1=>exact s1.elim
 | .o (.im _),r1,s1=>exact s1.elim
 | .o (.ls _ _),r1,s1=>exact s1.elim
 | .o (.sc _),r1,s1=>exact s1.elim
 | .sl _,r1,s1=>exact s1.elim
end U
namespace U
open PySem L2
section
theorem B3f {α:Type}{l:List α}{x:α}(h:x∈l):∃j:Nat,l[j]?=some x:=List.getElem?_of_mem h
end
section
variable {K:v9}{β:Nat->V}{W:Wo}{c:Ev}{σ:St}{i:Nat}
theorem Rep.goneS (R:Rep K β W c σ){x:Option V}:Rep K β W (c.set i none) (σ.set i x):=by
 refine⟨R.sub,by rw[bD,bD];exact R.len,λj o' q=>?_,R.dis,R.own⟩
 have z:i≠j:=λz=>by
  subst z
  by_cases l:i<c.length
  ·rw[b_ l]at q;cases q
  ·rw[gZ (by rw[bD];lia)]at q;cases q
 rw[bQ z]at q ⊢;exact R.get j o' q
end
end U
namespace L2
open PySem PySem.Spec PyProof.Rows
def mnF:w5->m7->Option (PyData×V)->Option (PyData×V)
 | d::ds,v::vs,some (b,x)=>(Ih false d b).bind λr=>mnF ds vs (some (if r=true then (d,v) else (b,x)))
 | d::ds,v::vs,none=>mnF ds vs (some (d,v))
 | _,_,best=>best
def B5c (H:Hp):Option (PyData×V)->w6->Prop
 | none,us=>us=[]
 | some (d,x),us=>∃u,us=[u,u]/\RelV x u/\Tr H d x/\Flat d
def A6p (K:v9):m7->Hp->VK->Prop:=λxs H Q=>∃a vs ds b x,xs=[.ref a]/\SqL K H a vs/\TrL H ds vs/\(∀d∈ds,Flat d)/\mnF ds vs none=some (b,x)/\Q x H
theorem Bc3 {H:Hp}:∀{ds:w5}{vs:m7}{i:Nat},TrL H ds vs->i<vs.length->∃d v,ds.drop i=d::ds.drop (i+1)/\vs.drop i=v::vs.drop (i+1)/\vs[i]?=some v/\Tr H d v/\d∈ds
 | [],vs,i,h,l=>by cases (show vs=[] from h);cases l
 | d::ds,_,i,⟨v,r,e,t,ts⟩,l=>by
  subst e
  cases i with
  | zero=>exact⟨d,v,rfl,rfl,rfl,t,.head _⟩
  | succ i =>
   obtain⟨d',v',h1,h2,h3,h4,h5⟩:=Bc3 (i:=i) ts (jG l);exact⟨d',v',h1,h2,h3,h4,.tail _ h5⟩
theorem Room.un100 {k:Nat}{A:q9}(r:Room k A):A.units+100<cLine:=by have:=r.un;lia
section
variable {X:Cx}
theorem A0o {pins:y_}{σ:St}{E:z_}{a S J:Addr}{vs:m7}{ds:w5}{H:Hp}{b0:t_}{x0:V}{Q:VK}(hc:X.calm=true)
 (hS:X.s₀.heap.objs.size<=S) (hJ:X.s₀.heap.objs.size<=J) (hSJ:S≠J) (haJ:a≠J) (hp:∀p∈X.pn++pins,p.1≠S/\p.1≠J)
 (hq:SqL X.K H a vs) (t:TrL H ds vs) (fl:∀d∈ds,Flat d) (q:Q x0 H) (hu:X.A.units+100<cLine) :
 ∀
  (r i:Nat) (best:Option (PyData×V)) (its:w6) (n:Nat) (oJ:Obj) (s:t6),vs.length-i=r->i<=vs.length->B5c H best its->mnF (ds.drop i) (vs.drop i) best=some (b0,x0) ->
  Inv X (pins++[(S,{ cls:=.type "list",data:=.seq its.toArray n }),(J,oJ)]) σ H s->s.heap.IsListIter J a i ->
  codeAny (model X.prog X.w) X.A (.builtin "min.loop" ⟨[.ref J,.none,.ref S],[]⟩) (λr s'=>match r with | .ok (.ret v)=>EP X pins σ Q v s' | .ok _=>False | .error e=>E e s') s:=by
 have hname:(toString "min" ++ toString ".loop" : String) = "min.loop" := by decide
 intro r
 induction r with
 | zero =>
  intro i best its n oJ s hri hi hbest hw I hit
  have e:i=vs.length:=by lia
  subst e;obtain⟨ps1,ps2,ps3,ps4,ps5⟩:=I.pin (S,{ cls:=.type "list",data:=.seq its.toArray n }) (aF _ (aF _ a_));obtain⟨pj1,pj2,pj3,pj4,pj5⟩:=I.pin (J,oJ) (aF _ (aF _ (bw _ a_)));obtain⟨us,rv,pl,hz⟩:=I.list hq;have hlen:=rv.length
  have I0:Inv X pins σ H s:=I.pins_of λp hp=>I.pin p (aF _ (bG _ hp))
  refine cR PySem.F.entry_min_loop ?_
  rw[cZ fV _]
  show wpAny _ X.A.in1 (seqItems? (.ref S) >>= _) _ _ _
  refine aj (cJ ps1 rfl ?_)
  show wpAny _ X.A.in1 (tryCatch (pyNext (.ref J)) _ >>= _) _ _ _
  refine aj (wpAny_tryCatch (wpAny_pyNext_list_end (A:=X.A.in1) (I.ok.hd hc) hit pl.isList (by simp;lia) λh' eb=>?_))
  have I1:Inv X pins σ H { s with heap:=h' }:=I0.turned (t':=s.toks) (λb o hb e=>eb b o hb e) pj2 pj3 (.inr hJ) (λx c e z=>by
   obtain⟨v,ob,ho,hdc⟩:=I.cell x c e
   rw[z,pj1]at ho;cases ho;exact pj5 v hdc) (λp hp'=>(hp p hp').2)
  have hd:ds.drop vs.length=[]:=by rw[<- t.length];exact i_
  rw[hd]at hw
  cases best with
  | none=>cases hw
  | some b =>
   cases hw
   obtain⟨u,rfl,ru,td,fd⟩:=hbest;have ps1':=eb S _ hSJ ps1
   show wpAny _ X.A.in1 (updateSeq S (λ_=>#[]) >>= _) _ _ _
   refine aj (d_ ps1' rfl (aj (dZ (ak ?_))))
   refine⟨x0,H,I1.turned (t':=s.toks) (λb o hb e=>(bK h' _ (aC hb)).trans e) ps2 ps3 (.inr hS) (λx c e z=>?_) (λp hp'=>(hp p hp').1),ru,q⟩
   obtain⟨v,ob,ho,hdc⟩:=I.cell x c e;rw[z,ps1]at ho;cases ho;exact ps5 v hdc
 | succ r ih =>
  intro i best its n oJ s hri hi hbest hw I hit
  have hlt:i<vs.length:=by lia
  obtain⟨ps1,ps2,ps3,ps4,ps5⟩:=I.pin (S,{ cls:=.type "list",data:=.seq its.toArray n }) (aF _ (aF _ a_));obtain⟨pj1,pj2,pj3,pj4,pj5⟩:=I.pin (J,oJ) (aF _ (aF _ (bw _ a_)));obtain⟨us,rv,pl,hz⟩:=I.list hq;have hlen:=rv.length;obtain⟨d,v,hd1,hd2,hd3,td,md⟩:=Bc3 t hlt;obtain⟨u,hu1,ru⟩:=rv.get hd3
  have I0:Inv X pins σ H s:=I.pins_of λp hp=>I.pin p (aF _ (bG _ hp))
  rw[hd1,hd2]at hw
  refine cR PySem.F.entry_min_loop ?_
  rw[cZ fV _]
  show wpAny _ X.A.in1 (seqItems? (.ref S) >>= _) _ _ _
  refine aj (cJ ps1 rfl ?_)
  show wpAny _ X.A.in1 (tryCatch (pyNext (.ref J)) _ >>= _) _ _ _
  refine aj (wpAny_tryCatch (wpAny_pyNext_list_item (A:=X.A.in1) hit pl.isList (x:=u) (by simpa using hu1) λh' hit' sb=>?_))
  have I1:Inv X pins σ H { s with heap:=h' }:=I0.turned (t':=s.toks) (λb o hb e=>(sb.2 b hb).trans e) pj2 pj3 (.inr hJ) (λx c e z=>by
   obtain⟨v,ob,ho,hdc⟩:=I.cell x c e
   rw[z,pj1]at ho;cases ho;exact pj5 v hdc) (λp hp'=>(hp p hp').2)
  obtain⟨oJ',hoJ',hoc,hod⟩:=id hit'
  have I2:Inv X (pins++[(S,{ cls:=.type "list",data:=.seq its.toArray n }),(J,oJ')]) σ H { s with heap:=h' }:=I1.pins_of λp hpp=>by
   rcases aY.mp hpp with z | z
   ·exact I1.pin p (aF _ z)
   ·rcases aD.mp z with rfl | z
    ·exact⟨(sb.2 S hSJ).trans ps1,ps2,ps3,ps4,ps5⟩
    ·rw[aK.mp z]
     exact⟨hoJ',pj2,pj3,pj4,λv q=>by rw[hod]at q;cases q⟩
  have t1:=(I2.pin (S,{ cls:=.type "list",data:=.seq its.toArray n }) (aF _ (aF _ a_))).1
  have upd1:∀(arr:w6),∃n',Inv X (pins++[(S,{ cls:=.type "list",data:=.seq arr.toArray n' }),(J,oJ')]) σ H { s with heap:=h'.update S (Obj.mapSeq λ_=>arr.toArray) }:=λarr=>by
   have q:=ji t1 (λ_=>arr.toArray)
   refine⟨_,I2.recS hS (λp hpp=>?_) (λp hpp=>(hp p (bG _ hpp)).1) q λv z=>by cases z⟩
   rcases aY.mp hpp with z | z
   ·exact(hp p (aF _ z)).1
   ·rw[aK.mp z];exact aC hSJ
  have hitU:∀arr:w6,(h'.update S (Obj.mapSeq λ_=>arr.toArray)).IsListIter J a (i+1):=λarr=>⟨oJ',(bK h' _ hSJ).trans hoJ',hoc,hod⟩
  cases best with
  | none =>
   cases (show its=[] from hbest)
   obtain⟨n',I4⟩:=upd1 [u,u]
   show wpAny _ X.A.in1 (updateSeq S (λ_=>#[u,u]) >>= _) _ _ _
   refine aj (d_ t1 rfl ?_)
   rw[hname]
   exact ak ⟨dg fV _,ih (i+1) (some (d,v)) [u,u] n' oJ' _ (by lia) hlt ⟨u,rfl,ru,td,fl d md⟩ hw I4 (hitU [u,u])⟩
  | some b =>
   obtain⟨db,bx⟩:=b;obtain⟨ub,rfl,rub,tdb,fb⟩:=hbest
   obtain⟨r',ecmp,wn⟩:=bY.mp (show ((Ih false d db).bind λr=>mnF (ds.drop (i+1)) (vs.drop (i+1)) (some (if r=true then (d,v) else (db,bx))))=some (b0,x0) from hw)
   obtain⟨as,rdk⟩:=td.reads I2 ru;obtain⟨bs,rdb⟩:=tdb.reads I2 rub;have fk:=fl d md
   show wpAny _ X.A.in1 (tryCatch (holding [u,u] (richCompare .Lt u ub >>= _)) _ >>= _) _ _ _
   refine aj (wpAny_tryCatch (bA (aj (Ab5 false d db X.A.in1 { s with heap:=h' } u ub as bs r' rdk rdb fk.1 fb.1 (by show X.A.units+1+d.depth<cLine;have:=fk.2;lia) ecmp X.prog X.w _ _ ?_))))
   refine aj (bA (iw ?_))
   refine aj (dZ (ak ?_))
   cases r' with
   | true =>
    obtain⟨n',I4⟩:=upd1 [u,u];simp only[cB]
    refine aj (d_ t1 rfl (aj (dZ ?_)))
    rw[hname]
    exact ak ⟨dg fV _,ih (i+1) (some (d,v)) [u,u] n' oJ' _ (by lia) hlt ⟨u,rfl,ru,td,fk⟩ wn I4 (hitU [u,u])⟩
   | false =>
    simp only[cD,bB]
    refine aj (dZ ?_)
    rw[hname]
    exact ak ⟨dg fV _,ih (i+1) (some (db,bx)) [ub,ub] n oJ' _ (by lia) hlt ⟨ub,rfl,rub,tdb,fb⟩ (by simpa using wn) I2 hit'⟩
theorem A3g (hc:X.calm=true)(hu:X.A.units+100<cLine):CallR X (.builtin "min") (A6p X.K):=by
 intro pins s σ H xs us Q I r h;obtain⟨a,vs,ds,b0,x0,rfl,hq,t,fl,hm,q⟩:=h;obtain⟨u,rfl,ru⟩:=vals1 r
 cases (show u=Value.ref a from ru)
 have hname:(toString "min" ++ toString ".loop" : String) = "min.loop" := by decide
 obtain⟨us,rv,pl,hz⟩:=I.list hq
 have ha:a<s.heap.objs.size:=let ⟨_,e,_⟩:=pl.isList; aA e
 refine call_function_tree PySem.F.kind_min PySem.F.plain_min PySem.F.entry_min (PySem.F.args_min1 _) ?_
 show wpAny _ X.A.in1 (Builtin.Builtins.bindParams "min" ["key", "default"] 0 ⟨[],[]⟩ >>= _) _ _ s
 refine aj (wpAny_of_eq (show Builtin.Builtins.bindParams "min" ["key", "default"] 0 ⟨[],[]⟩=pure [none,none] from rfl) ?_)
 refine aj (ak ?_)
 refine aj (eY pl.isList ?_)
 refine aj (wpAny_newList ?_ (aU _))
 rw[hname]
 refine ak ⟨dg fV _,?_⟩
 generalize hh1:s.heap.push { cls:=.type "list_iterator",data:=.fields #[.ref a,.int 0 0] }=h1
 have e1:h1.objs.size=s.heap.objs.size+1:=by rw[<- hh1,bW]
 have I1:Inv X pins σ H { s with heap:=h1.push { cls:=.type "list",data:=.seq ([]:w6).toArray } }:=I.kept (t':=s.toks) λb o e=>aB _ (by rw[<- hh1];exact aB _ e)
 have lo:∀b o,s.heap.get? b=some o->b≠s.heap.objs.size/\b≠h1.objs.size:=λb o e=>by have:=aA e;rw[e1];exact⟨aQ this,aQ (eX this)⟩
 have fJ:=I.fpOk (b:=s.heap.objs.size) (au _) (I.hok.fresh (au _))
 have fS:=I.fpOk (b:=h1.objs.size) (by rw[e1];exact dC _) (I.hok.fresh (by rw[e1];exact dC _))
 have gJ:(h1.push { cls:=.type "list",data:=.seq ([]:w6).toArray }).get? s.heap.objs.size=some { cls:=.type "list_iterator",data:=.fields #[.ref a,.int 0 0] }:=aB _ (by rw[<- hh1];exact aG _ rfl)
 have gS:(h1.push { cls:=.type "list",data:=.seq ([]:w6).toArray }).get? h1.objs.size=some { cls:=.type "list",data:=.seq ([]:w6).toArray }:=aG _ rfl
 refine A0o (S:=h1.objs.size) (J:=s.heap.objs.size) hc (by rw[e1];exact Nat.le_succ_of_le I.sz) I.sz (by rw[e1];exact bT (dU _)) (aQ ha)
  (λp hp=>let ⟨x,y⟩:=lo _ _ (I.pin p hp).1; ⟨y,x⟩) hq t fl q hu _ 0 none [] 0 { cls:=.type "list_iterator",data:=.fields #[.ref a,.int 0 0] } _ rfl (aU _) rfl hm (I1.pins_of λp hpp=>?_) ⟨_,gJ,rfl,rfl⟩
 rcases aY.mp hpp with z | z
 ·exact I1.pin p (aF _ z)
 ·rcases aD.mp z with rfl | z
  ·exact⟨gS,fS.1,fS.2.1,fS.2.2.1,λv z=>by cases z⟩
  ·rw[aK.mp z]
   exact⟨gJ,fJ.1,fJ.2.1,fJ.2.2.1,λv z=>by cases z⟩
variable {p pos:Pos}{e:Expr}{es:v_}{t:TA}{Kq:v9}
theorem Be6 (hKq:X.K=Kq)(hc:X.calm=true)(hu2:X.A.units+100<cLine)(hgl:Gl X "min") (hm:X.mg "min" = none) (ha:QA X (e::es) t) (hns:noStar (e::es)=true:=by rfl):QE X (.Call (.Name "min" p) (e::es) [] pos) (tCB (A6p Kq) t):=by
 subst hKq
 exact⟨Gx (A3g hc hu2) hgl hm A7h ha.get (by decide) (by decide) hns⟩
end
end L2
namespace U
open PySem L2
section
variable {K:v9}{Hf H:Hp}
def mnD:w5->Option t_->Option t_
 | d::ds,some b=>(Ih false d b).bind λr=>mnD ds (some (if r=true then d else b))
 | d::ds,none=>mnD ds (some d)
 | [],best=>best
theorem A6e:∀{ds:w5}{vs:m7}{best:Option (PyData×V)}{b:t_},TrL Hf ds vs->(∀d x,best=some (d,x)->Tr Hf d x)->mnD ds (best.map (·.1))=some b->∃x,mnF ds vs best=some (b,x)/\Tr Hf b x
 | [],vs,best,b,t,h,e=>by
  cases (show vs=[] from t)
  cases best with
  | none=>cases e
  | some q=>obtain⟨d,x⟩:=q;cases e;exact⟨x,rfl,h _ _ rfl⟩
 | d::ds,vs,none,b,⟨v,r,e1,t1,t2⟩,h,e=>by
  subst e1
  exact A6e (best:=some (d,v)) t2 (λ_ _ z=>by cases z;exact t1) e
 | d::ds,vs,some (b0,x0),b,⟨v,r,e1,t1,t2⟩,h,e=>by
  subst e1
  obtain⟨q,e1,e2⟩:=bY.mp (show ((Ih false d b0).bind λr=>mnD ds (some (if r=true then d else b0)))=some b from e)
  obtain⟨x,h1,h2⟩:=A6e (ds:=ds) (vs:=r) (best:=some (if q=true then (d,v) else (b0,x0))) t2 (λ_ _ z=>by
   split at z
   ·cases z;exact t1
   ·cases z;exact h _ _ rfl) (by rw[<- e2];cases q <;> rfl)
  refine⟨x,?_,h2⟩
  show ((Ih false d b0).bind λr'=>mnF ds r (some (if r'=true then (d,v) else (b0,x0))))=_
  rw[e1];exact h1
def Al0:t_->m6
 | .list ds=>if ds.all Bu=true then (mnD ds none).map .im else none
 | _=>none
theorem A4b:UnS K (λx H Q=>A6p K [x] H Q) Al0:=by
 intro Hf H x d o Q s r e n
 cases d with
 | list ds =>
  have e:(if ds.all Bu=true then (mnD ds none).map O.im else none)=some o:=e
  split at e
  ·rename_i hf
   obtain⟨b,e1,rfl⟩:=aO.mp e;obtain⟨a,vs,rfl,h1,t⟩:=El r
   obtain⟨x,h2,h3⟩:=A6e (best:=none) t (λ_ _ z=>nomatch z) e1
   exact⟨a,vs,ds,b,x,rfl,SqL.of h1,TrL.same s t,λd hd=>Eu (aZ.mp hf d hd),h2,n.same s h3⟩
  ·cases e
 | _=>cases e
end
end U
namespace L2
open PySem PySem.Spec PyProof.Rows
theorem Az4 {H:Hp}:∀ss:v4,TrL H (ss.map PyData.str) (ss.map V.str)
 | []=>rfl
 | _::ss=>⟨_,_,rfl,rfl,Az4 ss⟩
def Bi8 (K:v9):R2:=λx y H Q=>∃(d:t_) (p:Addr) (ss:v4),Tr H d x/\y=.ref p/\SqT K H p (ss.map V.str)/\Flat d/\PyData.canLayAll0 (ss.map PyData.str)=true/\Q (.bl (!(ss.map PyData.str).any λe=>PyData.eqv e d)) H
theorem Ar4 {X:Cx}(hu:X.A.units+64<cLine):OpR X (compareOp .NotIn) (Bi8 X.K):=by
 intro pins s σ H x y v u Q I rx ry h;obtain⟨d,p,ss,tx,rfl,hq,fd,fs,q⟩:=h
 cases ry
 obtain⟨as,ra⟩:=tx.reads I rx;obtain⟨its,r,⟨o,h1,h2,n,h3⟩,hz⟩:=I.tuple hq;obtain⟨bs,rb⟩:=TrL.reads I (Az4 ss) r
 exact SeqAt.notIn_tuple_reads (.tuple h1 h2 h3 (by simpa using rb)) ra fs fd.1 (Nr hu fd.2) ⟨.bl _,H,I,rfl,q⟩
theorem Aj1 {X:Cx}{Kq:v9}(hKq:X.K=Kq)(hu:X.A.units+64<cLine){a b:Expr}{ta tb:TE}{pos:Pos}(ha:QE X a ta)(hb:QE X b tb)(hm:behindInMarks .NotIn b=false):QT X (.Compare a [.NotIn] [b] pos) (Ld (tOp (Bi8 Kq) ta tb)):=by
 subst hKq;exact⟨Hr (Ar4 hu) ha.get hb.get hm⟩
end L2
namespace U
open PySem L2
def Ny (ss:v4)(d:t_):m6:=if (Bu d&&PyData.canLayAll0 (ss.map PyData.str))=true then some (.im (.bool (!(ss.map PyData.str).any λe=>PyData.eqv e d))) else none
theorem Ay7 {K:v9}{te:TE}{fe:n6}{p:Addr}{ss:v4}(he:ME K te fe)(hp:∀H,SqT K H p (ss.map V.str)):ME K (tOp (Bi8 K) te (tC (.ref p))) (cUn (Ny ss) fe) :=
 Ba1 (r:=λx H Q=>Bi8 K x (.ref p) H Q) he λHf H x d o Q s r e n=>by
  unfold Ny at e
  split at e
  ·rename_i h
   cases e
   obtain⟨h1,h2⟩:=az.mp h;exact⟨d,p,ss,r.tr s,rfl,hp H,Eu h1,h2,n.bl s⟩
  ·cases e
noncomputable def O3 (r a b d:Nat):Ev->SR:=λc=>if (a<c.length/\b<c.length/\d<c.length)/\a≠b/\a≠d/\b≠d then match c[r]? with
 | some (some (.im (.tuple [.list x,.list y,.list z])))=>.nx (((c.set a (some (.ls false x))).set b (some (.ls false y))).set d (some (.ls false z)))
 | _=>.bad
 else .bad
def B6p (K:v9)(r a b d:Nat):TS:=Zx (tLC [none] (A1r K (Hb r)) (Ez 0) Aj4 (tCB (Ek K) (Bp (Hb 0) Er))) (Be5 K 3 (K3 (Ez a) (K3 (Ez b) (K3 (Ez d) Ao6))))
noncomputable def ali (a b d:Nat) (k:Int):Option Nat:=if k=0 then some a else if k=1 then some b else if k=2 then some d else none
def Qw (s a b d:Nat)(fk:n6)(t1 t2:o_)(e1 e2:n6)(g:Ev->SR):Ev->SR:=λc=>if (s<c.length/\s≠a/\s≠b/\s≠d)/\(c[a]?).join.isSome/\(c[b]?).join.isSome/\(c[d]?).join.isSome then (fk c).toS λp c1=>match p with
 | .o (.im (.int k))=>match ali a b d k with
  | some j=>(Az (cIf t1 (M6 (Z6 (Ab j) e1)) Bv) (Az (cIf t2 (M6 (Z6 (Ab j) e2)) Bv) g)) (c1.set s none)
  | none=>.bad
 | _=>.bad
 else .bad
def A2s (K:v9)(j:Nat)(u1 u2:TT)(v1 v2:TE)(g:TS):TS :=
 V6 (A2h u1 (Rf (tBM K "list" rAppF (Hb j) (Bp v1 Er))) Wu) (V6 (A2h u2 (Rf (tBM K "list" rAppF (Hb j) (Bp v2 Er))) Wu) g)
section
variable {K:v9}{β:Nat->V}{W:Wo}{c:Ev}{σ:St}{H:Hp}{r a b d s:Nat}
theorem Ba4:MS K (B6p K r a b d) (O3 r a b d):=by
 intro β W c σ D R l;unfold O3 at l
 split at l
 ·rename_i hc
  obtain⟨⟨la,lb,ld⟩,nab,nad,nbd⟩:=hc
  split at l
  ·rename_i x y z er
   obtain⟨v,sp,⟨_,t,xs,rfl,ht,tv⟩,_⟩:=R.get _ _ er;obtain⟨w1,r1,rfl,⟨p1,us1,rfl,g1,t1⟩,w2,r2,rfl,⟨p2,us2,rfl,g2,t2⟩,w3,r3,rfl,⟨p3,us3,rfl,g3,t3⟩,hn⟩:=tv
   cases (show r3=[] from hn)
   have hxs:∀(i:Nat) u,[V.ref p1,.ref p2,.ref p3][i]?=some u->∃p' us,u=V.ref p'/\W.H p'=some (.lst us)/\[us1,us2,us3][i]?=some us:=λi u e=>by
    match i,e with
    | 0,e=>cases e;exact⟨_,_,rfl,R.sub _ _ g1,rfl⟩
    | 1,e=>cases e;exact⟨_,_,rfl,R.sub _ _ g2,rfl⟩
    | 2,e=>cases e;exact⟨_,_,rfl,R.sub _ _ g3,rfl⟩
   show tLC [none] (A1r K (Hb r)) (Ez 0) Aj4 (tCB (Ek K) (Bp (Hb 0) Er)) σ W.H (λx H1=>Be5 K 3 (K3 (Ez a) (K3 (Ez b) (K3 (Ez d) Ao6))) x σ H1 D.nx)
   refine lw_seq.mpr ⟨_,sp,t,rfl,.inr ⟨_,R.sub _ _ ht,Bl0 (λ(i:Nat) (σc:St) (acc:m7) (H1:Hp)=>Same W.H H1/\σc.length=1/\∃ps:v6,acc=ps.map V.ref/\ps.length=i/\ps.Nodup/\(∀p∈ps,W.H p=none)/\∀(j:Nat) p,ps[j]?=some p->∃us,[us1,us2,us3][j]?=some us/\H1 p=some (.lst us))
    ⟨Same.refl _,rfl,[],rfl,rfl,cX,λ_ q=>(nomatch q),λ_ _ q=>(nomatch q)⟩ (λi σc acc H1 hi h=>⟨h.1 _ _ (R.sub _ _ ht),?_⟩) (by show 3<=sizeLine;decide) (λi u σc acc H1 hx h=>?_) (λσc acc H1 h q hq=>?_)⟩⟩
   ·obtain⟨_,_,ps,rfl,h2,_⟩:=h
    rw[ao,h2];exact au _
   ·obtain⟨s1,s2,ps,rfl,h2,nd,fr,at_⟩:=h
    obtain⟨p',us,rfl,hp',hu⟩:=hxs i u hx;simp only[Ez,Aj4,cB]
    refine⟨_,b_ (by lia),p',us,rfl,.inl (SqL.of (s1 _ _ hp')),λq hq=>?_⟩
    have q0:W.H q=none:=by
     cases e:W.H q with
     | none=>rfl
     | some o=>rw[s1 _ _ e]at hq;cases hq
    have nq:∀p∈ps,p≠q:=λp hp z=>by
     obtain⟨j,e⟩:=B3f hp;obtain⟨us',_,e2⟩:=at_ j p e;rw[z,hq]at e2;cases e2
    refine⟨s1.trans (Bd hq),by rw[bD];exact s2,ps++[q],by rw[cj];rfl,by rw[aM,h2];rfl,dm.mpr ⟨nd,by simp,λx hx y hy=>by rw[aK.mp hy];exact nq x hx⟩,λp hp=>?_,λj p e=>?_⟩
    ·rcases aY.mp hp with z | z
     ·exact fr p z
     ·rw[aK.mp z];exact q0
    ·by_cases lj:j<ps.length
     ·rw[dw lj]at e
      obtain⟨us',e1,e2⟩:=at_ j p e;exact⟨us',e1,(Af (nq p (bf e))).trans e2⟩
     ·rw[dz (by lia)]at e
      have z:j-ps.length=0:=by
       rcases Nat.eq_zero_or_pos (j-ps.length) with z | z
       ·exact z
       ·rw[gZ (by show 1<=_;lia)]at e;cases e
      rw[z]at e;cases e
      have z:j=i:=by lia
      subst z;exact⟨us,hu,Am⟩
   ·obtain⟨s1,s2,ps,rfl,h2,nd,fr,at_⟩:=h
    match ps,h2,nd,fr,at_ with
    | [q1,q2,q3],_,nd,fr,at_ =>
     obtain⟨u1,e1,h1⟩:=at_ 0 q1 rfl;obtain⟨u2,e2,h2⟩:=at_ 1 q2 rfl;obtain⟨u3,e3,h3⟩:=at_ 2 q3 rfl
     cases e1;cases e2;cases e3
     simp only[bR,aD,bI,bJ,not_or]at nd;obtain⟨⟨n12,n13⟩,n23,_⟩:=nd
     have f1:=fr q1 (by simp)
     have f2:=fr q2 (by simp)
     have f3:=fr q3 (by simp)
     have ne:∀{p us},H1 p=some (.lst us)->p≠q:=λe z=>by rw[z,hq]at e;cases e
     have sF:Same W.H (upd H1 q (.lst ([q1,q2,q3].map V.ref))):=s1.trans (Bd hq)
     refine⟨q,_,rfl,SqL.of Am,rfl,_,_,rfl,_,_,rfl,_,_,rfl,rfl,?_⟩
     have R1:Rep K β ⟨W.Hf,upd H1 q (.lst ([q1,q2,q3].map V.ref)),W.fps⟩ c σ:=R.frame (Same.refl _) (λx o e=>sF x o (R.sub x o e)) λx ⟨j,hj⟩=>by
      obtain⟨w1,o,w2,_⟩:=R.own j x hj;exact⟨w1,(sF x o w2).trans w2.symm⟩
     have nS:∀{p},W.H p=none->¬ W.S p:=λe=>R.notS e
     have ol:∀{p us} {ds:w5},W.H p=none->H1 p=some (.lst us)->TrL W.Hf ds us->RepO K W.Hf (upd H1 q (.lst ([q1,q2,q3].map V.ref))) (.ls false ds) (.ref p) [p]:=λe1 e2 t=>⟨_,_,rfl,rfl,R.notF e1,(Af (ne e2)).trans e2,t⟩
     have R2:=R1.setO (i:=a) (ol f1 h1 t1) (λx hx=>by rw[aK.mp hx];exact nS f1) rfl
     have R3:=R2.setO (i:=b) (ol f2 h2 t2) (λx hx=>by
      rw[aK.mp hx]
      rintro⟨j,hj⟩
      have hj:q2∈if j=a then [q1] else W.fps j:=hj
      split at hj
      ·exact n12 (aK.mp hj).symm
      ·exact nS f2 ⟨j,hj⟩) rfl
     have R4:=R3.setO (i:=d) (ol f3 h3 t3) (λx hx=>by
      rw[aK.mp hx]
      rintro⟨j,hj⟩
      have hj:q3∈if j=b then [q2] else if j=a then [q1] else W.fps j:=hj
      split at hj
      ·exact n23 (aK.mp hj).symm
      ·split at hj
       ·exact n13 (aK.mp hj).symm
       ·exact nS f3 ⟨j,hj⟩) rfl
     refine l _ ⟨W.Hf,upd H1 q (.lst ([q1,q2,q3].map V.ref)),λj=>if j=d then [q3] else if j=b then [q2] else if j=a then [q1] else W.fps j⟩ ⟨Same.refl _,λx o e _=>sF x o e,λx o e m _ q=>q,λx hx=>?_⟩ R4
     obtain⟨j,hj⟩:=hx
     have hj:x∈if j=d then [q3] else if j=b then [q2] else if j=a then [q1] else W.fps j:=hj
     split at hj
     ·rw[aK.mp hj];exact .inr f3
     ·split at hj
      ·rw[aK.mp hj];exact .inr f2
      ·split at hj
       ·rw[aK.mp hj];exact .inr f1
       ·exact .inl ⟨j,hj⟩
  ·exact l.elim
 ·exact l.elim
theorem B2a {u1 u2:TT}{v1 v2:TE}{g:TS}{D:Ends}{j:Nat}(h:σ[s]?=σ[j]?):A2s K s u1 u2 v1 v2 g D σ H=A2s K j u1 u2 v1 v2 g D σ H:=by
 have e:Hb s σ=Hb j σ:=by unfold Hb;rw[h]
 simp only[A2s,V6,A2h,Rf,tBM,Wu,e]
theorem A4z {tk:TE}{u1 u2:TT}{v1 v2:TE}{g:TS}{fk:n6}{t1 t2:o_}{e1 e2:n6}{f:Ev->SR}(hk:ME K tk fk)(h1:MT K u1 t1)(h2:MT K u2 t2)(h3:ME K v1 e1)(h4:ME K v2 e2)(hg:MS K g f) :
 MS K (V6 (Zx (tOp (Bf9 K) (Bo5 (Bp (Hb a) (Bp (Hb b) (Bp (Hb d) Er)))) tk) (Ez s)) (A2s K s u1 u2 v1 v2 g)) (Qw s a b d fk t1 t2 e1 e2 f):=by
 intro β W c σ D R l;unfold Qw at l
 split at l
 ·rename_i hc
  obtain⟨⟨ls,na,nb,nd⟩,ia,ib,id_⟩:=hc
  have gt:∀{i:Nat},(c[i]?).join.isSome=true->∃v,σ[i]?=some (some v):=λ{i} h=>by
   obtain⟨o,e⟩:=j9.mp h;obtain⟨v,e1,_⟩:=R.get _ _ (Option.join_eq_some_iff.mp e);exact⟨v,e1⟩
  obtain⟨va,ga⟩:=gt ia;obtain⟨vb,gb⟩:=gt ib;obtain⟨vd,gd⟩:=gt id_
  refine⟨va,ga,vb,gb,vd,gd,(by decide:3<=sizeLine),λq hq=>?_⟩
  have s1:Same W.H (upd W.H q (.lst [va,vb,vd])):=Bd hq
  have R1:Rep K β ⟨W.Hf,upd W.H q (.lst [va,vb,vd]),W.fps⟩ c σ:=R.frame (Same.refl _) (λx o e=>s1 x o (R.sub x o e)) λx ⟨j,hj⟩=>by
   obtain⟨w1,o,w2,_⟩:=R.own j x hj;exact⟨w1,(s1 x o w2).trans w2.symm⟩
  have st0:Stp W.S W.Hf W.H (Wo.S ⟨W.Hf,upd W.H q (.lst [va,vb,vd]),W.fps⟩) W.Hf (upd W.H q (.lst [va,vb,vd])):=⟨Same.refl _,λx o e _=>s1 x o e,λ_ _ _ _ _ z=>z,λx z=>.inl z⟩
  refine hk β ⟨W.Hf,upd W.H q (.lst [va,vb,vd]),W.fps⟩ c σ _ R1 ((Fe l).mono λp c1 l1 v W2 fp st2 R2 rp=>?_)
  split at l1
  ·rename_i k
   split at l1
   ·rename_i j hj
    obtain⟨⟨rfl,e⟩,_⟩:=rp
    cases (show v=V.int k from e)
    have st2:Stp W.S W.Hf (upd W.H q (.lst [va,vb,vd])) W2.S W2.Hf W2.H:=st2.less λx z=>.inl z
    have hq2:W2.H q=some (.lst [va,vb,vd]):=st2.kp q _ Am (R.notS hq)
    have fin:∀{vj:V},σ[j]?=some (some vj)->s≠j->atI [va,vb,vd] k=some vj->Bf9 K (.ref q) (.int k) W2.H (λx H1=>Ez s x σ H1 (A2s K s u1 u2 v1 v2 g D)):=λ{vj} ej nj ha=>by
     refine .inl ⟨q,_,k,vj,rfl,rfl,SqL.of hq2,ha,?_⟩
     show A2s K s u1 u2 v1 v2 g D (σ.set s (some vj)) W2.H
     rw[B2a (j:=j) (by rw[b_ (by rw[<- R.len];exact ls),bQ nj,ej])]
     exact Jc (Rn h1 (S5 (Ar1 Av h3)) Fi) (Jc (Rn h2 (S5 (Ar1 Av h4)) Fi) hg) β W2 (c1.set s none) _ D R2.goneS (zF.step l1 (st0.trans st2))
    unfold ali at hj
    split at hj
    ·rename_i z;subst z;cases hj;exact fin ga na (Dt (j:=0) rfl)
    ·split at hj
     ·rename_i z;subst z;cases hj;exact fin gb nb (Dt (j:=1) rfl)
     ·split at hj
      ·rename_i z;subst z;cases hj;exact fin gd nd (Dt (j:=2) rfl)
      ·cases hj
   ·exact l1.elim
  ·exact l1.elim
 ·exact l.elim
end
end U
set_option autoImplicit true
namespace U
open PySem L2
noncomputable def nnO:O->Bool
 | .im _=>true
 | .ty _=>true
 | _=>false
noncomputable def Pj (c:Ev):List PV->Option (List O)
 | []=>some []
 | .o (.im d)::r=>(Pj c r).map (.im d::·)
 | .o (.ty T)::r=>(Pj c r).map (.ty T::·)
 | .sl i::r=>match c[i]? with
  | some (some (.im d))=>(Pj c r).map (.im d::·)
  | some (some (.ty T))=>(Pj c r).map (.ty T::·)
  | _=>none
 | _=>none
def ArgN (K:v9)(Hf H:Hp):List O->m7->Prop
 | [],vs=>vs=[]
 | o::os,vs=>∃v r,vs=v::r/\(nnO o=true/\RepO K Hf H o v [])/\ArgN K Hf H os r
def A1f (K:v9)(F:List O->XF):Sp:=λvs H Q E=>∃(Hf:Hp) (as:List O),Same Hf H/\ArgN K Hf H as vs/\match F as with
 | .bad=>False
 | .ret o=>∀v Hf' H' fp,Stp (λ_=>False) Hf H (λa=>a∈fp) Hf' H'->Same Hf' H'->RepO K Hf' H' o v fp->Q v H'
 | .ex nm=>∀C d Hf' H',XAt K Hf' nm C d->Stp (λ_=>False) Hf H (λ_=>False) Hf' H'->Same Hf' H'->E (.ref C) d H'
def Vy (F:List O->XF)(fa:o9)(k:O->Ev->XS)(h:Xn->Ev->XS):Ev->XS:=λc=>match fa c with
 | .bad=>.s .bad
 | .ok ps c=>match Pj c ps with
  | none=>.s .bad
  | some as=>match F as with
   | .ret (.im d)=>k (.im d) c
   | .ret (.ty T)=>k (.ty T) c
   | .ex nm=>h nm c
   | _=>.s .bad
def Oq (n N:Nat)(body:Ev->XS):List O->XF:=λas=>if as.length=n then match body (as.map some++List.replicate (N-n) none) with
 | .s (.nx _)=>.ret (.im .none)
 | .s (.rt p c)=>match resolve p c with
  | some (o,_)=>.ret o
  | none=>.bad
 | .ex nm _=>.ex nm
 | _=>.bad
 else .bad
section
variable {K:v9}{β:Nat->V}{W:Wo}{c:Ev}{σ:St}{D:Ends}{E:XK}{Hf H:Hp}{o:O}{v:V}{fp:v6}
theorem ArgN.length:∀{as:List O}{vs:m7},ArgN K Hf H as vs->as.length=vs.length
 | [],_,h=>by cases (show _=[] from h);rfl
 | _::as,_,⟨_,_,rfl,_,t⟩=>by rw[aR,aR,t.length]
theorem ArgN.got:∀{as:List O}{vs:m7}{i:Nat}{o:O},ArgN K Hf H as vs->as[i]?=some o->∃v,vs[i]?=some v/\nnO o=true/\RepO K Hf H o v []
 | _::as,_,0,o,⟨v,_,rfl,h,_⟩,e=>by cases (show some _=some o from e);exact⟨v,rfl,h⟩
 | _::as,_,i+1,o,⟨_,_,rfl,_,t⟩,e=>t.got (i:=i) (by simpa using e)
theorem O8 (R:Rep K β W c σ):∀{ps:List PV}{vs:m7}{as:List O},zL K W.Hf σ ps vs->Pj c ps=some as->ArgN K W.Hf W.H as vs
 | [],vs,as,h,e=>by cases (show vs=[] from h);cases e;exact rfl
 | .o (.im d)::r,_,as,⟨v,vr,rfl,h,t⟩,e=>by
  obtain⟨l,e2,rfl⟩:=aO.mp (show (Pj c r).map (.im d::·)=some as from e)
  exact⟨v,vr,rfl,⟨rfl,rfl,h⟩,O8 R t e2⟩
 | .o (.ty T)::r,_,as,⟨v,vr,rfl,h,t⟩,e=>by
  obtain⟨l,e2,rfl⟩:=aO.mp (show (Pj c r).map (.ty T::·)=some as from e)
  exact⟨v,vr,rfl,⟨rfl,rfl,h⟩,O8 R t e2⟩
 | .sl i::r,_,as,⟨v,vr,rfl,h,t⟩,e=>by
  unfold Pj at e
  split at e
  ·rename_i d ec
   obtain⟨l,e2,rfl⟩:=aO.mp e;obtain⟨v',e1,r1,_⟩:=R.get i _ ec
   cases (show some (some v')=some (some v) from e1.symm.trans h)
   exact⟨v,vr,rfl,⟨rfl,rfl,r1.2⟩,O8 R t e2⟩
  ·rename_i T ec
   obtain⟨l,e2,rfl⟩:=aO.mp e;obtain⟨v',e1,r1,_⟩:=R.get i _ ec
   cases (show some (some v')=some (some v) from e1.symm.trans h)
   exact⟨v,vr,rfl,⟨rfl,rfl,r1.2⟩,O8 R t e2⟩
  ·cases e
 | .o (.sc _)::r,_,as,_,e=>by cases e
 | .o (.ls _ _)::r,_,as,_,e=>by cases e
theorem A6t {F:List O->XF}{fa:o9}{t:TA}{k:O->Ev->XS}{h:Xn->Ev->XS}{Q:VK}{E':XK}(ha:MA K t fa)(R:Rep K β W c σ)(l:LeadX K β W D E (Vy F fa k h c))
 (hk:∀o i W2 v,Stp W.S W.Hf W.H W2.S W2.Hf W2.H->Rep K β W2 i σ->LeadX K β W D E (k o i)->Dh K W2 σ (.o o) v []->Q v W2.H)
 (L:∀w i W2 C d,Stp W.S W.Hf W.H W2.S W2.Hf W2.H->Rep K β W2 i σ->LeadX K β W D E (h w i)->XAt K W2.Hf w C d->E' (.ref C) d W2.H) :
 t σ W.H λvs J=>A1f K F vs J Q E':=by
 unfold Vy at l
 refine ha _ W c _ _ R ?_
 cases e:fa c with
 | bad=>rw[e]at l;exact l
 | ok A i =>
  rw[e]at l;intro vs M y u H
  cases ea:Pj i A with
  | none=>simp only[ea]at l;trivial
  | some I =>
   simp only[ea]at l
   refine⟨M.Hf,I,u.sub,O8 u H ea,?_⟩
   have p:∀{f m:Hp},Stp _ _ _ (λ_=>False) f m->Same _ _->Stp _ _ _ _ _ _/\Rep K _ _ _ _:=λ{f m} g b =>
    ⟨y.trans ⟨g.fz,λa o e _=>g.kp a o e λz=>z,λa o e B _ q=>g.nf a o e B (λz=>z) q,λa z=>.inl z⟩,Stp.rep u g b⟩
   cases ef:F _ with
   | bad=>simp only[ef]at l;trivial
   | ret o =>
    match o,ef with
    | .im d,ef =>
     simp only[ef]at l;intro v f m G g b r;obtain⟨rfl,s⟩:=r
     obtain⟨j,n⟩:=p (g.less λa z=>nomatch z) b
     exact hk _ _ _ v j n l ⟨⟨rfl,s⟩,λa z=>nomatch z⟩
    | .ty T,ef =>
     simp only[ef]at l;intro v f m G g b r;obtain⟨rfl,s⟩:=r
     obtain⟨j,n⟩:=p (g.less λa z=>nomatch z) b
     exact hk _ _ _ v j n l ⟨⟨rfl,s⟩,λa z=>nomatch z⟩
    | .sc _,ef=>simp only[ef]at l;trivial
    | .ls _ _,ef=>simp only[ef]at l;trivial
   | ex w =>
    simp only[ef]at l;intro C d f m x g b;obtain⟨j,n⟩:=p g b;exact L _ _ _ C d j n l x
def Q5 (F:List O->XF)(fa:o9):Ev->XS:=Vy F fa (λ_ c=>.s (.nx c)) .ex
theorem Bc6 {F:List O->XF}{t:TA}{fa:o9}(ha:MA K t fa):MX K E (Rf (Us (A1f K F) [] E t)) (Q5 F fa):=by
 intro j W c i D R l
 have:=A6t ha R l (λo h g v b a e r=>e _ _ b a)
  (λk h g C d b a e f=>e C d _ _ f b a)
 show t _ _ _
 simp_all
theorem A4u {n N:Nat}{body:Ev->XS}{vs:m7}{Q:VK}(hs:A1f K (Oq n N body) vs H Q E):vs.length=n:=by
 obtain⟨d,b,c,t,a⟩:=hs;unfold Oq at a
 by_cases hn:b.length=n
 ·rw[<- t.length];grind
 simp_all
theorem A5j {n:Nat}{N:v4}{body:Ev->XS}{T:TS}{vs:m7}{Q:VK}(h:MX K E T body)(hs:A1f K (Oq n N.length body) vs H Q E):T { nx:=λ_ H'=>Q .non H',rt:=Q } (start N vs) H:=by
 obtain⟨I,w,x,t,g⟩:=hs;unfold Oq at g
 by_cases A:w.length=n
 ·rw[if_pos A]at g
  have Y:=t.length
  let W:Wo:=⟨I,H,λ_=>[]⟩
  have R:Rep K (λ_=>.non) W (w.map some++List.replicate (N.length-n) none) (start N vs):=by
   refine⟨x,?_,λi o e=>?_,(λi j a z=>nomatch z),λi a z=>nomatch z⟩
   ·show _=(vs.map _++List.replicate _ _).length
    grind
   ·by_cases li:i<w.length
    ·rw[dw (by grind)]at e
     obtain⟨o',J,L⟩:=Ia e
     cases L
     obtain⟨v,ev,M,O⟩:=t.got J
     refine⟨v,?_,O,λz=>?_⟩
     ·show (vs.map _++List.replicate _ _)[i]?=_
      grind
     ·cases o with
      | ls b ds=>cases M
      | im d=>cases z
      | sc d=>cases z
      | ty d=>cases z
    grind
  have c:∀a,W.S a->False:=λa ⟨i,z⟩=>nomatch z
  refine h _ W _ _ _ R ?_
  cases eb:body _ with
  | ex nm k =>
   rw[eb]at g
   exact λC d m B A f l=>g C d _ _ A ⟨f.fz,λa o e _=>f.kp a o e (c a),λa o e u _ q=>f.nf a o e u (c a) q,λa z=>z.elim⟩ l.sub
  | s r =>
   rw[eb]at g
   cases r with
   | nx k=>exact λm B f l=>g _ _ _ [] ⟨f.fz,λa o e _=>f.kp a o e (c a),λa o e u _ q=>f.nf a o e u (c a) q,λa z=>nomatch z⟩ l.sub ⟨rfl,rfl⟩
   | rt p k =>
    intro m v B fp f l G
    cases er:resolve p k with
    | none=>simp_all
    | some q =>
     simp only[er]at g;obtain⟨Z,S,P,D,U,X,n2,F⟩:=Nq l G er;rw[<- D]
     refine g v _ _ _ ?_ U.sub X
     rw[P,D]
     refine⟨f.fz,λa o e _=>f.kp a o e (c a),λa o e u _ q=>f.nf a o e u (c a) q,λa z=>?_⟩
     rcases f.fr a (F a (.inr z)) with y | y
     ·grind
     grind
   | bk k=>simp_all
   | ct k=>simp_all
   | bad=>simp_all
 simp_all
end
end U
namespace U
open PySem L2 PySem.W
end U
namespace PS
open PySem PySem.W PyProof.Rows L2
section
variable {α β:Type}{n:Nat}{p:Array Nat}
def Tot (n:Nat)(Q:α->Prop):KasT α->Prop
 | .ret a=>Q a
 | .ask i j k=>i<n/\j<n/\∀b,Tot n Q (k b)
theorem Ba3 {Q:α->Prop}{B:Nat->Nat->Option Bool}(hB:∀i j,i<n->j<n->∃b,B i j=some b):∀t:KasT α,Tot n Q t->∃a,kEv B t=some a/\Q a
 | .ret a,h=>⟨a,rfl,h⟩
 | .ask i j k,⟨h1,h2,h3⟩=>by
  obtain⟨b,e⟩:=hB i j h1 h2;obtain⟨a,e2,q⟩:=Ba3 hB (k b) (h3 b)
  exact⟨a,by show (B i j).bind _=_;rw[e];exact e2,q⟩
theorem Jx {Q:β->Prop}{f:α->KasT β}:∀t:KasT α,Tot n (λa=>Tot n Q (f a)) t->Tot n Q (t.bind f)
 | .ret a,h=>h
 | .ask i j k,⟨h1,h2,h3⟩=>⟨h1,h2,λb=>Jx (k b) (h3 b)⟩
def Pm (n:Nat)(p:Array Nat):Prop:=0<n/\p.Perm (List.range n).toArray
theorem Pm.lt (h:Pm n p)(i:Nat):p.getD i 0<n:=by
 by_cases q:i<p.size
 ·have:=h.2.mem_iff.mp (Array.getElem_mem q)
  simpa[q] using this
 ·simp[q];exact h.1
theorem Pm.rev (h:Pm n p)(i j:Nat):Pm n (kas_rev p i j):=⟨h.1,(mirror_perm _ _ _ _).trans h.2⟩
theorem A1q {c:Bool}{t u:KasT α}{Q:α->Prop}(h1:Tot n Q t)(h2:Tot n Q u):Tot n Q (if c=true then t else u):=by
 cases c
 ·exact h2
 ·exact h1
theorem Ai8 {c:Prop}[Decidable c]{t u:KasT α}{Q:α->Prop}(h1:Tot n Q t)(h2:Tot n Q u):Tot n Q (if c then t else u):=by
 split
 ·exact h1
 ·exact h2
theorem A5w {Q:Nat->Prop}(h:Pm n p)(hQ:∀a,Q a):∀f k,Tot n Q (kas_asc p f k)
 | 0,k=>hQ k
 | f+1,k=>⟨h.lt _,h.lt _,λ_=>A1q (hQ k) (A5w h hQ f (k+1))⟩
theorem Zz:∀(f:Nat) (p:Array Nat) (k q:Nat),Pm n p->Tot n (λr=>Pm n r.1) (kas_desc f p k q)
 | 0,p,k,q,h=>h
 | f+1,p,k,q,h=>⟨h.lt _,h.lt _,λ_=>A1q (Ai8 (Zz f _ _ _ (h.rev _ _)) (Zz f _ _ _ h)) ⟨h.lt _,h.lt _,λ_=>A1q h (Zz f _ _ _ h)⟩⟩
theorem A4a {k m:Nat}(h:Pm n p):Tot n (λr=>Pm n r.2) (kas_tail3 k m p):=Jx _ (A5w (h.rev _ _) (λ_=>h.rev _ _) _ _)
theorem T4 {Q Q':α->Prop}(hq:∀a,Q a->Q' a):∀t:KasT α,Tot n Q t->Tot n Q' t
 | .ret a,h=>hq a h
 | .ask _ _ k,h=>⟨h.1,h.2.1,λb=>T4 hq (k b) (h.2.2 b)⟩
theorem A5d {k m:Nat}(h:Pm n p):Tot n (λr=>Pm n r.2) (kas_descPart k m p) :=
 Jx _ (T4 (λr q=>Ai8 (A4a (q.rev _ _)) (A4a q)) _ (Zz _ _ _ _ h))
theorem Bj3 {m:Nat}(h:Pm n p):Tot n (λr=>Pm n r.2) (kas_count m p):=by
 refine Jx _ (A5w h (λk=>?_) _ _)
 refine A1q (t:=.ret (k,p)) h (Ai8 (t:=.ask _ _ _) ⟨h.lt _,h.lt _,λ_=>?_⟩ (A5d h))
 exact A1q (t:=.ret (k,p)) h (A5d (h.rev _ _))
theorem Xy {Q:Nat->Prop}{k:Nat}(h:Pm n p)(hQ:∀a,Q a):∀f l r,Tot n Q (kas_place p k f l r)
 | 0,l,r=>hQ l
 | f+1,l,r=>Ai8 (hQ l) ⟨h.lt _,h.lt _,λ_=>A1q (Xy h hQ f _ _) (Xy h hQ f _ _)⟩
theorem Bt0:∀(f:Nat) (p:Array Nat) (k:Nat),Pm n p->Tot n (Pm n) (kas_bin f p k)
 | 0,p,k,h=>h
 | f+1,p,k,h=>Jx _ (Xy h (λ_=>Bt0 f _ _ ⟨h.1,(bubble_perm _ _ _).trans h.2⟩) _ _ _)
theorem B0s (h:0<n):Tot n (Pm n) (kas_sort n):=by
 refine Jx _ (T4 (λr q=>?_) _ (Bj3 ⟨h,Array.Perm.refl _⟩))
 exact Ai8 (Bt0 _ _ _ q) (u:=.ret r.2) q
end
end PS
namespace U
open PySem L2
theorem R.bind_ok {a:b} {k:b->Ev->R d}:(R.ok a c).bind k=k a c:=rfl
theorem R.toS_ok {a:b} {k:b->Ev->SR}:(R.ok a c).toS k=k a c:=rfl
theorem A3l {a:Type}{x:Option a}:(some x).join=x:=rfl
theorem B6c (x:a) (r:List a):atI (x::r) 0=some x:=Dt rfl
theorem B5r (x y:a) (r:List a):atI (x::y::r) 1=some y:=Dt rfl
theorem B6e (x y z:a) (r:List a):atI (x::y::z::r) 2=some z:=Dt rfl
theorem B3l (x y z u:a) (r:List a):atI (x::y::z::u::r) 3=some u:=Dt rfl
theorem B3n (x y z u w:a) (r:List a):atI (x::y::z::u::w::r) 4=some w:=Dt rfl
theorem By2:ixN 3 0=some 0:=rfl
theorem Bv6:ixN 3 1=some 1:=rfl
theorem B1o:ixN 3 2=some 2:=rfl
def Js (g:o7)(body:Ev->SR)(d:t_)(c:Ev):SR:=(g (.o (.im d)) c).toS λ_ c=>body c
theorem Mq (h:Js g body d c=.nx c'\/Js g body d c=.ct c'):forL g body (d::ds) c=forL g body ds c':=by
 unfold Js at h;rw[forL]
 cases e:g _ c with
 | bad=>rw[e]at h;rcases h with h | h <;> cases h
 | ok u a =>
  rw[e]at h;have h:body _=.nx _\/body _=.ct _:=h
  grind
theorem Ae4 : forL g body [] c=.nx c:=rfl
theorem O7 {g:o7}{body:Ev->SR}{P:Nat->Ev->Prop}:∀{items:w5}{n:Nat}{c:Ev},P n c ->
 (∀k d c,items[k]?=some d->P (n+k) c->∃c',(Js g body d c=.nx c'\/Js g body d c=.ct c')/\P (n+k+1) c')->∃c',forL g body items c=.nx c'/\P (n+items.length) c'
 | [],n,c,h0,_=>⟨c,rfl,h0⟩
 | d::ds,n,c,h0,hs=>by
  obtain⟨c1,e,h1⟩:=hs 0 d c rfl h0;rw[Mq e]
  obtain⟨c2,e2,h2⟩:=O7 (P:=P) (items:=ds) (n:=n+1) (c:=c1) h1 (λk d c hk hp=>by
   have:=hs (k+1) d c (by simpa using hk) (by rw[show n+(k+1)=n+1+k by lia];exact hp)
   rw[show n+(k+1)+1=n+1+k+1 by lia]at this
   exact this)
  exact⟨c2,e2,by rw[aR,show n+(ds.length+1)=n+1+ds.length by lia];exact h2⟩
def Ut (g:o7)(ft:o_)(fe:n6)(d:t_)(c:Ev):R (Option t_) :=
 (g (.o (.im d)) c).bind λ_ c=>(ft c).bind λb c=>if b=true then (fe c).bind λp c=>(frz (nrm p) c).bind λy c=>.ok (some y) c else .ok none c
theorem Ug : Eg g ft fe (d::ds) acc c=(Ut g ft fe d c).bind λo c=>Eg g ft fe ds (acc++o.toList) c:=by
 unfold Ut;rw[Eg]
 cases e:g _ c with
 | bad=>rfl
 | ok u f =>
  simp only[R.bind_ok]
  cases e2:ft _ with
  | bad=>rfl
  | ok b h =>
   simp only[R.bind_ok]
   cases b with
   | false=>simp[R.bind_ok]
   | true =>
    cases e3:fe _ with
    | bad=>rfl
    | ok p i =>
     simp only[R.bind_ok]
     cases e4:frz _ _ with
     | bad=>rfl
     | ok y a=>rfl
theorem Jq {g:o7}{ft:o_}{fe:n6}{P:Nat->w5->Ev->Prop}:∀{items acc:w5}{n:Nat}{c:Ev},P n acc c ->
 (∀k d acc c,items[k]?=some d->P (n+k) acc c->∃o c',Ut g ft fe d c=.ok o c'/\P (n+k+1) (acc++o.toList) c')->∃acc' c',Eg g ft fe items acc c=.ok acc' c'/\P (n+items.length) acc' c'
 | [],acc,n,c,h0,_=>⟨acc,c,rfl,h0⟩
 | d::ds,acc,n,c,h0,hs=>by
  obtain⟨o,c1,e,h1⟩:=hs 0 d acc c rfl h0;rw[Ug,e,R.bind_ok]
  obtain⟨acc2,c2,e2,h2⟩:=Jq (P:=P) (items:=ds) (n:=n+1) (c:=c1) h1 (λk d acc c hk hp=>by
   have:=hs (k+1) d acc c (by simpa using hk) (by rw[show n+(k+1)=n+1+k by lia];exact hp)
   rw[show n+(k+1)+1=n+1+k+1 by lia]at this
   exact this)
  exact⟨acc2,c2,e2,by rw[aR,show n+(ds.length+1)=n+1+ds.length by lia];exact h2⟩
theorem Ms {α:Type}{g:o7}{ft:o_}{fe:n6}{I:Ev->Prop}{f:α->t_}{G:α->Option t_}:∀{xs:List α}{acc:w5}{c:Ev},I c ->
 (∀x c,x∈xs->I c->∃c',Ut g ft fe (f x) c=.ok (G x) c'/\I c')->∃c',Eg g ft fe (xs.map f) acc c=.ok (acc++xs.filterMap G) c'/\I c'
 | [],acc,c,h0,_=>⟨c,by simp[Eg],h0⟩
 | x::xs,acc,c,h0,hs=>by
  obtain⟨c1,e,h1⟩:=hs x c (.head _) h0;rw[aJ,Ug,e,R.bind_ok]
  obtain⟨c2,e2,h2⟩:=Ms (I:=I) (f:=f) (G:=G) (xs:=xs) (acc:=acc++(G x).toList) h1 (λd c hd hi=>hs d c (.tail _ hd) hi)
  refine⟨c2,?_,h2⟩
  rw[e2,dJ];rw[gj]
  cases G x <;> rfl
theorem En {b:Type} {I:Ev->Prop}{f:b->t_}{G:b->t_}{xs:List b} (d:I c)
 (hs:∀x c,x∈xs->I c->∃a,Ut g ft fe (f x) c=.ok (some (G x)) a/\I a):∃a,Eg g ft fe (xs.map f) acc c=.ok (acc++xs.map G) a/\I a:=by
 obtain⟨a,e,h⟩:=Ms (acc:=acc) d hs
 refine⟨a,?_,h⟩
 simp_all
theorem Gb (h1:fi c=.ok ds c1) (hl:ds.length<=16000000) (h2:Eg g ft fe ds [] (cIn idx c1)=.ok acc cI) (a:Gj cI (pairsOf 0 idx) c1=some c2) :
 cLC idx fi g ft fe c=.ok (.o (.ls false acc)) c2:=by
 unfold cLC;rw[h1,R.bind_ok]
 simp_all
theorem Sy (h1:fi c=.ok ds c1):Wl fi g body c=forL g body ds c1:=by
 unfold Wl;rw[h1];rfl
theorem Cz (h:f c=.nx c'):Az f g c=g c':=by unfold Az;rw[h]
theorem As3 (h:body (a.map some++List.replicate (N-n) none)=.rt p c) (hl:a.length=n) (hf:A1w a p c=r):Ec n N body a=r:=by
 unfold Ec;grind
theorem Bh9 (h:f c=.ok p c1) (h2:g p c1=.ok () c2):Bo f g c=.nx c2:=by
 unfold Bo;rw[h,R.toS_ok,h2,R.toS_ok]
end U
namespace K
open PySem L2 U
structure Good (d:t_) (n w:Nat):Prop where
 lay:d.canLay0=true
 shw:d.showable=true
 dct:d.hasDict=false
 dep:d.depth<=n
 wgt:wt d<=w
structure Goods (ds:w5) (n w:Nat):Prop where
 lay:PyData.canLayAll0 ds=true
 shw:PyData.showableAll ds=true
 dct:PyData.hasDictAll ds=false
 dep:PyData.depthAll ds<=n
 wgt:O4 ds<=w*ds.length
theorem Goods.of {n w:Nat}:∀{ds:w5},(∀d∈ds,Good d n w)->Goods ds n (w+2)
 | [],_=>⟨rfl,rfl,rfl,aU _,aU _⟩
 | d::r,h=>by
  have a:=h d (.head _)
  have b:=Goods.of λe he=>h e (.tail _ he)
  refine⟨?_,?_,?_,?_,?_⟩
  ·show (d.canLay0&&PyData.canLayAll0 r)=true;rw[a.lay,b.lay];rfl
  ·show (d.showable&&PyData.showableAll r)=true;rw[a.shw,b.shw];rfl
  ·show (d.hasDict||PyData.hasDictAll r)=false;rw[a.dct,b.dct];rfl
  ·show max d.depth (PyData.depthAll r)<=n;have:=a.dep;have:=b.dep;lia
  ·show wt d+2+O4 r<=(w+2)*(r.length+1)
   have:=a.wgt;have:=b.wgt;rw[Nat.mul_succ];lia
theorem Good.tup (h:∀d∈ds,Good d n w) (hk:ds.length<=k):Good (.tuple ds) (n+1) ((w+2)*k+4):=by
 have g:=Goods.of h;have m:(w+2)*ds.length<=(w+2)*k:=jH _ hk
 refine⟨g.lay,g.shw,g.dct,?_,?_⟩
 ·show PyData.depthAll _+1<=n+1;have:=g.dep;lia
 ·show O4 _+4<=(w+2)*k+4;have:=g.wgt;lia
theorem Good.lst (h:∀d∈ds,Good d n w) (hk:ds.length<=k):Good (.list ds) (n+1) ((w+2)*k+4):=by
 have g:=Goods.of h;have m:(w+2)*ds.length<=(w+2)*k:=jH _ hk
 refine⟨g.lay,g.shw,g.dct,?_,?_⟩
 ·show PyData.depthAll _+1<=n+1;have:=g.dep;lia
 ·show O4 _+4<=(w+2)*k+4;have:=g.wgt;lia
theorem Good.mono (h:Good d n w) (a:n<=n') (b:w<=w'):Good d n' w':=⟨h.lay,h.shw,h.dct,aq h.dep a,aq h.wgt b⟩
theorem Good.flatB (h:Good d n w) (hn:n<=40):Bu d=true:=by
 unfold U.Bu;rw[h.lay,aN (aq h.dep hn)];rfl
theorem A1u (ha:Good a n w) (hb:Good b n' w') (hn:n<=40) (c:n'<=40):Bk neg a b=some (.im (.bool (if neg then !PyData.eqv a b else PyData.eqv a b))):=by
 unfold Bk;rw[ha.flatB hn,hb.flatB c];rfl
theorem Am4 (h:Good d n w) (hn:n<=40) (hw:w<=16000000) (hs:isSeq d=true):Ac3 d=some (.im (.str d.shown)):=by
 have l:d.shown.length<=sizeLine:=aq (Ae6 d h.lay h.shw) (aq h.wgt (aq hw (by decide)))
 cases d with
 | int i=>cases hs
 | none=>rfl
 | bool b=>rfl
 | str x=>cases hs
 | dict k=>cases hs
 | list a =>
  show (if isSeq _&&_ then _ else _)=_
  rw[h.shw,h.dct,aN (aq h.dep hn),aN l];rfl
 | tuple a =>
  show (if isSeq _&&_ then _ else _)=_
  rw[h.shw,h.dct,aN (aq h.dep hn),aN l];rfl
theorem Mx (h:∀d∈ds,d.canLay0=true):PyData.canLayAll0 ds=true:=by
 induction ds with
 | nil=>rfl
 | cons d r a=>show (d.canLay0&&PyData.canLayAll0 r)=true;grind
theorem Vc : Bk neg (.str a) (.str b)=some (.im (.bool (if neg then !decide (a=b) else decide (a=b)))):=by
 unfold Bk
 rw[show Ss _ _=true from rfl]
 rw[T8]
 simp
inductive Vl where
 | non
 | int (i:Int)
 | str (x:Str)
 deriving DecidableEq
abbrev m9:=List Vl
abbrev m8:=List (m9)
@[simp] theorem Vl.int.injEq (a b:Int):(Vl.int a=Vl.int b)=(a=b):=propext ⟨λh=>by cases h;rfl,λh=>by rw[h]⟩
@[simp] theorem Vl.str.injEq (a b:Str):(Vl.str a=Vl.str b)=(a=b):=propext ⟨λh=>by cases h;rfl,λh=>by rw[h]⟩
noncomputable def Vl.d:Vl->t_
 | .non=>.none
 | .int i=>.int i
 | .str x=>.str x
noncomputable def vb:Vl->Bool
 | .non=>true
 | .int i=>decide (-1000000000000<=i)&&decide (i<=1000000000000)
 | .str x=>decide (x.length<=40)&&x.cps.toList.all λc=>decide (32<=c)&&decide (c<=126)
abbrev VB (v:Vl):Prop:=vb v=true
abbrev VBs (vs:m9):Prop:=∀v∈vs,VB v
def tD (vs:m9):t_:=.tuple (vs.map Vl.d)
theorem Au8 (x y:Str):PyData.eqv (.str x) (.str y)=decide (x=y):=by
 show (x==y)=_
 grind
theorem Bt9 (a b:Vl):PyData.eqv a.d b.d=decide (a=b):=by
 cases a with
 | non=>cases b <;> simp[Vl.d,PyData.eqv]
 | int i=>
  cases b with
   | int j =>
    show (i==j)=_
    grind
   | non=>rfl
   | str y=>trivial
 | str x=>
  cases b with
   | str y=>rw[show PyData.eqv (Vl.d (.str x)) (Vl.d (.str y))=_ from Au8 x y];simp_all
   | non=>trivial
   | int y=>trivial
theorem Ai1:∀as bs:m9,PyData.eqvAll (as.map Vl.d) (bs.map Vl.d)=decide (as=bs)
 | [],[]=>by simp[PyData.eqvAll]
 | [],b::bs=>by simp[PyData.eqvAll]
 | a::as,[]=>by simp[PyData.eqvAll]
 | a::as,b::bs=>by
  show (PyData.eqv a.d b.d&&PyData.eqvAll (as.map Vl.d) (bs.map Vl.d))=_
  rw[Bt9,Ai1 as bs]
  simp
theorem Xo (a bs:m9):PyData.eqv (tD a) (tD bs)=decide (a=bs):=by
 exact Ai1 _ _
theorem G6 (h:VB v):Good v.d 0 1921:=by
 cases v with
 | non=>exact⟨rfl,rfl,rfl,au _,by decide⟩
 | int i =>
  obtain⟨a,b⟩:=az.mp (show (decide _&&decide _)=true from h)
  have a:=aX a;have b:=aX b
  refine⟨rfl,?_,rfl,au _,au _⟩
  have c:i.natAbs<2 ^ 41:=by lia
  have:i.natAbs.log2<1920:=by
   by_cases hz:i.natAbs=0
   ·rw[hz];decide
   ·exact aP ((Nat.log2_lt hz).mpr c) (by decide)
  simpa[Vl.d,PyData.showable] using this
 | str x =>
  obtain⟨a,b⟩:=az.mp (show (decide _&&x.cps.toList.all _)=true from h)
  have a:=aX a
  refine⟨?_,rfl,rfl,au _,?_⟩
  ·show x.cps.all _=true
   grind
  ·show 10*x.length+2<=1921
   lia
theorem Ks (h:VBs vs) (hk:vs.length<=k):Good (tD vs) 1 (1923*k+4) :=
 Good.tup (λd a=>by obtain⟨v,b,rfl⟩:=aL.mp a;exact G6 (h v b)) (by simp_all)
theorem VBs.app (h:VBs a) (k:VBs b):VBs (a++b):=λv c=>by
 grind
theorem B3z (v:Vl)(vs:m9):((vs.map Vl.d).any λe=>PyData.eqv e v.d)=decide (v∈vs):=by
 induction vs with
 | nil=>simp
 | cons a r b =>
  rw[aJ,List.any_cons,Bt9]
  grind
theorem Ba6 (h:VB v) (hs:VBs vs):Rv neg v.d (.list (vs.map Vl.d))=some (.im (.bool (if neg then !decide (v∈vs) else decide (v∈vs)))):=by
 have e:Rv neg v.d (.list (vs.map Vl.d))=if Bu v.d&&PyData.canLayAll0 (vs.map Vl.d) then some (.im (.bool (if neg then !(vs.map Vl.d).any λe=>PyData.eqv e v.d else (vs.map Vl.d).any λe=>PyData.eqv e v.d))) else none:=by rfl
 rw[e,(G6 h).flatB (by decide),Mx λd a=>by obtain⟨u,b,rfl⟩:=aL.mp a;exact(G6 (hs u b)).lay,B3z];rfl
theorem Vt {l:List a}{r:Int}(b:0<=r) (h1:r<l.length):∃d,atI l r=some d/\d∈l/\l[r.toNat]?=some d:=by
 obtain⟨k,rfl⟩:=h_ b
 exact⟨l[k],Dt (bC _),iD _,by grind⟩
end K
namespace L2
open PySem PySem.Spec PyProof.Rows PySem.W
end L2
namespace L2
open PySem PySem.Spec PyProof.Rows PySem.W U
theorem Fun.okQ {P:u9}{w:World}{K:v9}{mg:x_}{base:Heap}{x qual:Str}{st:Stmt}{f:Addr}{fd:u6}{N ps:v4}{k:Nat}{body:Ev->SR}{T:TS}(F:Fun K x qual st f fd)(S:Aq N ps (Ak st))
 (q:∀{cdv:Value} {A:q9} {outer:List Env} {s:t6} {H:Hp} {E:XK} (hr:Room k (A.deeper (envOfC qual (Ak st) s.heap.objs.size f cdv))) (_:(A.deeper (envOfC qual (Ak st) s.heap.objs.size f cdv)).units+64<cLine) (_:(A.deeper (envOfC qual (Ak st) s.heap.objs.size f cdv)).guards=some []),
  QSs (Rw CX0 P w K mg base N qual (Ak st) f cdv A outer s H E).nox (Gh st) T) (m:MS K T body):FnOk P w K mg base CX0 (k+1) f fd ps (spP K (Ec ps.length N.length body)) :=
 F.ok S (λ_ _ _ _=>Bz0) λcdv A outer s H vs Q E hr h=>Az9 (q hr hr.units hr.gd) (Bx7 m h)
end L2
namespace K
open PySem L2 U
def Ye (pr:n_):Ev->SR :=
 (Az
  (cIf (Bc (cOp (Kw false) (Ab 0) (cC (.none)))) (Cg (Ej (Aa (cC (.int 0)) (Aa (cC (.int 0)) Al)))) Bv)
  (Az (cIf (Bc (cUn (Aw8 .int) (Ab 0))) (Cg (Ej (Aa (cC (.int 1)) (Aa (Ab 0) Al)))) Bv)
  (Az (cIf (Bc (cUn (Aw8 .str) (Ab 0))) (Cg (Ej (Aa (cC (.int 2)) (Aa (Ab 0) Al)))) Bv)
  (Cg (Ej (Aa (cC (.int 3)) (Aa (cUn By (cLC [none] (Ce (Ab 0)) (cgN 0) Bq (cF pr (Aa (Ab 0) Al)))) Al)))))))
def Ed:Nat->List O->FR
 | 0=>λ_=>.bad
 | k+1=>Ec 1 1 (Ye (Ed k))
def Vz:Ev->SR :=
 (Cg (B1h (Ed 2) (Ab 0)))
def K9:n_:=Ec 1 1 Vz
def Mf:Ev->SR :=
 (Az
  (Bo (cOp Ai (Ab 0) (cC (.int 0))) (cgN 2))
  (Az (cIf (Bc (cOp (Rv true) (Ab 1) (Ab 2))) Ap2 Bv)
  (Cg (cMt Kg J0 (Ab 2) (Ab 1)))))
def Ft:n_:=Ec 2 3 Mf
def Ko:Ev->SR :=
 (Cg (cLC [none,some 0] (Ce (Ab 1)) (cgN 0) Bq (cF Ft (Aa (Ab 1) (Aa (Ab 0) Al)))))
def Dd:n_:=Ec 2 2 Ko
def J6:Ev->SR :=
 (Cg (cUn By (cLC [none,some 0] (Ce (Ab 1)) (cgN 0) Bq (cOp Ai (Ab 1) (Ab 0)))))
def Br:n_:=Ec 2 2 J6
def Hc:Ev->XS :=
 (Jk
  (Fd (Bo (cOp Ck (cOp Ck (cUn Le (Ab 1)) (cUn Le (Ab 2))) (cUn Le (Ab 3))) (cgN 4)))
  (Jk (xIf (cOr (Bc (cOp (Bk true) (Gw (Ab 4)) (Gw (Ab 0)))) (Bd4 (Bc (cUn A7x (cLC [none,some 4] (Ce (Ab 0)) (cgN 0) Bq (cOp (Bk false) (cMt Jh Jo (Ab 1) (Ab 0)) (cC (.int 1)))))))) (J1 "BadColumns" (Aa (cC (.str "key, names and values are not all the columns, each once")) Al)) (Fd Bv))
  (xIf (Bc (cOp (Bk false) (Gw (Ab 3)) (cC (.int 0)))) (J1 "BadColumns" (Aa (cC (.str "there is no column of values")) Al)) (Fd Bv))))
def Bm:w5->XF:=M3 4 5 Hc
def Hx:Ev->XS :=
 (xIf (Bc (cUn (Ny [Str.ofString "seen",Str.ofString "rising"]) (Ab 0))) (J1 "BadOrder" (Aa (cC (.str "an order is seen or rising")) Al)) (Fd Bv))
def Cy:w5->XF:=M3 1 1 Hx
def Ds:BF :=
 (Bg0 (Bk7 (d:=5) (Ej (Aa (cF Br (Aa (Ab 7) (Aa (cFz (Ab 3)) Al))) (Aa (cF Br (Aa (Ab 7) (Aa (cFz (Ab 4)) Al))) Al))) (cgN 8))
  (A6g (d:=5) (Ab 8) (Ab 6)))
def Gn:Ev->SR :=
 (Az
  (Bo (cF Dd (Aa (Ab 0) (Aa (Ab 1) Al))) (cgN 3))
  (Az (Bo (cF Dd (Aa (Ab 0) (Aa (Ab 2) Al))) (cgN 4))
  (Nf 5 (A1b (d:=5) (Av2 (cOp Ai (Ab 0) (cC (.int 1)))) (cgT 2 (Do (cgN 6) (Do (cgN 7) Lw))) Ds)
  (Cg (Ab 5)))))
def Dp:n_:=Ec 3 9 Gn
def Ff:BF :=
 (Ak5 (d:=1) (Ab 2) (λ_ _=>(cC (.bool true))))
def Jd:Ev->SR :=
 (Nf
  1 (A1b (d:=1) (Ce (Ab 0)) (cgN 2) Ff)
  (Cg (Ay9 (Ab 1))))
def Dj:n_:=Ec 1 3 Jd
def Jf:Ev->SR :=
 (Cg (cF Dj (Aa (cLC [none,none] (Zc (Ab 0)) (cgT 2 (Do (cgN 0) (Do (cgN 1) Lw))) Bq (Ab 0)) Al)))
def Fb:n_:=Ec 1 1 Jf
def G7:Ev->SR :=
 (Az
  (Bo (cF Dj (Aa (cLC [none,none] (Zc (Ab 0)) (cgT 2 (Do (cgN 0) (Do (cgN 1) Lw))) Bq (Ab 1)) Al)) (cgN 2))
  (Cg (A0z (Bc (cOp (Bk false) (Ab 1) (cC (.str "rising")))) (cUn By (cF K9 (Aa (Ab 2) Al))) (Ab 2))))
def Ea:n_:=Ec 2 3 G7
def Lq:Ev->SR :=
 (Cg (cUn By (cLC [none,some 3,some 2,some 0] (Ce (Ab 1)) (cgN 0) Bq (Qg (Ab 2) (Ej (Aa (Ab 3) (Aa (Ab 0) Al))) (Ab 1)))))
def Em:n_:=Ec 4 4 Lq
def Lk:Ev->SR :=
 (Cg (cUn By (cLC [none,some 1,some 2,some 3] (Ce (Ab 0)) (cgN 0) Bq (cF Em (Aa (Ab 0) (Aa (Ab 1) (Aa (Ab 2) (Aa (Ab 3) Al))))))))
def Hg:n_:=Ec 4 4 Lk
def G3:Ev->SR :=
 (Cg (A4y (Ab 0) (cF Hg (Aa (Ab 0) (Aa (Ab 1) (Aa (Ab 2) (Aa (cC (.none)) Al)))))))
def Dq:n_:=Ec 3 3 G3
def Gr:Ev->XS :=
 (Jk
  (Fd (Bo (cLC [none] (Q3 (Ab 0)) (cgN 0) (Bc (cOp Ai9 (Gw (Ab 0)) (cC (.int 1)))) (Ej (Aa (cOp Ai (Ab 0) (cC (.int 1))) (Aa (cOp Ai (Ab 0) (cC (.int 0))) Al)))) (cgN 1)))
  (xIf (Bc (cOp Ai9 (Gw (Ab 1)) (cC (.int 0)))) (Jk (Fd (Bo (cUn Al0 (Ab 1)) (cgN 2)))
  (Tc "Double" (Str.ofString "rows ").length "rows" (Ej (Aa (cOp Ai (Ab 2) (cC (.int 1))) (Aa (cOp Ai (Ab 2) (cC (.int 0))) Al))))) (Fd Bv)))
def Bw:List O->XF:=Oq 1 3 Gr
def Iz:BF :=
 (Ak5 (d:=7) (Ab 8) (λ_ _=>(cF Br (Aa (cOp Ai (cOp Ai (Ab 0) (cC (.int 1))) (cOp Ai (Ab 9) (cC (.int 0)))) (Aa (cFz (Ab 6)) Al)))))
def Ht:Ev->XS :=
 (Jk
  (Kc Bm (Aa (cOp Ai (Ab 0) (cC (.int 0))) (Aa (Ab 1) (Aa (Ab 2) (Aa (Ab 3) Al)))))
  (Jk (Kc Cy (Aa (Ab 4) Al))
  (Jk (Fd (Bo (cF Dp (Aa (Ab 0) (Aa (Ab 1) (Aa (Ab 2) Al)))) (cgN 5)))
  (Jk (Q5 Bw (Aa (Ab 5) Al))
  (Jk (Fd (Bo (cF Dd (Aa (Ab 0) (Aa (Ab 3) Al))) (cgN 6)))
  (Fd (Nf 7 (A1b (d:=7) (S7 (Ab 5)) (cgT 2 (Do (cgN 8) (Do (cgN 9) Lw))) Iz)
  (Az (Bo (cF Ea (Aa (Ab 5) (Aa (Ab 4) Al))) (cgN 10))
  (Az (Bo (cF Dq (Aa (cF Fb (Aa (Ab 5) Al)) (Aa (Ab 10) (Aa (Ab 7) Al)))) (cgN 11))
  (Cg (Ej (Aa (cUn By (Ab 1)) (Aa (cUn By (Ab 2)) (Aa (cUn By (Ab 3)) (Aa (Ab 10) (Aa (Ab 11) Al))))))))))))))))
def Cj:w5->XF:=M3 5 12 Ht
def Hs:Ev->SR :=
 (Az
  (cIf (Bc (cOp Pk (Ab 1) (Gw (Ab 0)))) (Cg (Bv3 (Ab 0) (Ab 1))) Bv)
  (Cg (cC (.int 0))))
def Et:n_:=Ec 2 2 Hs
def Uc:Ev->SR :=
 (Az
  (Bo (cF Et (Aa (Ab 0) (Aa (Ab 1) Al))) (cgN 2))
  (Cg (Ho (Aa (cOp Kr (cUn Ay1 (Ab 2)) (cUn Ah3 (cOp B0x (cUn Ay1 (Ab 2)) (cOp Ag7 (cC (.int 10)) (cC (.int 18)))))) (Aa (cOp Ck (cOp Ck (cOp Ol (Ab 2) (cC (.int 2305843009213693951))) (cOp Kr (cC (.int 39373)) (Ab 1))) (cC (.int 17))) (Aa (cC (.int 0)) Al))))))
def Jy:n_:=Ec 2 3 Uc
def Mh:Ev->SR :=
 (Az
  (cIf (Bc (cOp Ai9 (cOp Ai (Ab 0) (cC (.int 0))) (cC (.int 0)))) (Az (Bo (cOp Ol (cOp Ai (Ab 0) (cC (.int 0))) (Ab 1)) (cgN 2))
  (Az (Bo (cOp Ym (cOp Ai (Ab 0) (cC (.int 0))) (Ab 1)) (Ae9 (Ab 0) (cC (.int 0))))
  (Cg (Ab 2)))) Bv)
  (Az (Bo (cOp Ck (cOp Ai (Ab 0) (cC (.int 2))) (cC (.int 1))) (Ae9 (Ab 0) (cC (.int 2))))
  (Az (Bo (cOp Ol (cOp Kr (cOp Ck (cOp Ai (Ab 0) (cC (.int 1))) (cOp Kr (cC (.int 48271)) (cOp Ai (Ab 0) (cC (.int 2))))) (cOp Ck (cC (.int 39373)) (cOp Ai (Ab 0) (cC (.int 2))))) (cC (.int 2147483647))) (cgN 3))
  (Az (Bo (cOp Ol (cOp Kr (cOp Ck (Ab 3) (cOp Ai (Ab 0) (cC (.int 2)))) (cOp Ck (cOp Ol (Ab 3) (cC (.int 40009))) (cC (.int 7)))) (cC (.int 2147483629))) (cgN 4))
  (Cg (cOp Ol (cOp Ym (cOp Ol (cOp Ck (cOp Kr (Ab 4) (cC (.int 48271))) (Ab 3)) (cC (.int 2147483587))) (cC (.int 64))) (Ab 1)))))))
def Aj:n_:=Ec 2 5 Mh
def Mm:Ev->SR :=
 (Az
  (cIf (Bc (cOp (Bk false) (cF Aj (Aa (Ab 0) (Aa (cC (.int 8)) Al))) (cC (.int 0)))) (Cg (cOp Ck (cC (.int 7)) (cF Aj (Aa (Ab 0) (Aa (cOp T6 (Ab 3) (cC (.int 6))) Al))))) Bv)
  (Cg (cOp Ck (Ab 1) (cF Aj (Aa (Ab 0) (Aa (cOp Ck (cOp T6 (Ab 2) (Ab 1)) (cC (.int 1))) Al))))))
def Gk:n_:=Ec 4 4 Mm
def N6:Ev->SR :=
 (Az
  (Bo (Ho (cK [.str "b",.str "a",.str "year",.str "z",.str "ab",.str "month",.str "aa",.str "quantity",.str "c",.str "town",.str "zz",.str "ba"])) (cgN 2))
  (Cg (cLC [none,some 2,some 0] (Ul (Ab 1)) (cgN 0) Bq (Nv (Ab 1) (cF Aj (Aa (Ab 2) (Aa (Gw (Ab 1)) Al)))))))
def Hz:n_:=Ec 2 3 N6
def Gu:Ev->SR :=
 (Az
  (Bo (cF Aj (Aa (Ab 0) (Aa (cC (.int 9)) Al))) (cgN 1))
  (Az (cIf (Bc (cOp Pk (Ab 1) (cC (.int 4)))) (Cg (cOp T6 (cF Aj (Aa (Ab 0) (Aa (cC (.int 13)) Al))) (cC (.int 3)))) Bv)
  (Az (cIf (Bc (cOp (Bk false) (Ab 1) (cC (.int 4)))) (Cg (cOp Ai (Ho (Aa (cOp T6 (cOp Ag7 (cC (.int 10)) (cC (.int 12))) (cC (.int 1))) (Aa (cOp T6 (cC (.int 0)) (cOp Ag7 (cC (.int 10)) (cC (.int 11)))) (Aa (cC (.int 100)) (Aa (cC (.int 10)) Al))))) (cF Aj (Aa (Ab 0) (Aa (cC (.int 4)) Al))))) Bv)
  (Az (cIf (Bc (cOp (Bk false) (Ab 1) (cC (.int 5)))) (Cg (cC (.none))) Bv)
  (Cg (cOp Ai (Ho (cK [.str "",.str "a",.str "b",.str "B",.str "10",.str "9",.str "-",.str "a b",.str "it's",.str "\\",.str "/",.str "_",.str ":",.str "None",.str "ab"])) (cF Aj (Aa (Ab 0) (Aa (cC (.int 15)) Al)))))))))
def Du:n_:=Ec 1 2 Gu
def P0:Ev->SR :=
 (Az
  (Bo (Ho Al) (cgN 2))
  (Az (Wl (Ul (Ab 1)) (cgN 3) (Az (Bo (cF Du (Aa (Ab 0) Al)) (cgN 4))
  (cIf (Bc (cOp (Rv true) (Ab 4) (Ab 2))) (M6 (Z6 (Ab 2) (Ab 4))) Bv)))
  (Cg (Ab 2))))
def Fo:n_:=Ec 2 5 P0
def J4:Ev->SR :=
 (Az
  (Bo (cF Hz (Aa (Ab 0) (Aa (Ab 1) Al))) (cgN 3))
  (Az (Bo (cLC [none,some 0] (Ce (Ab 3)) (cgN 0) Bq (cF Fo (Aa (Ab 1) (Aa (cOp Ai (Ho (cK [.int 2,.int 3,.int 3,.int 5,.int 12])) (cF Aj (Aa (Ab 1) (Aa (cC (.int 5)) Al)))) Al)))) (cgN 4))
  (Az (Bo (Ho Al) (cgN 5))
  (Az (Wl (Ul (Ab 2)) (cgN 6) (Az (Bo (cUn By (cLC [none,some 0] (Ce (Ab 4)) (cgN 0) Bq (cOp Ai (Ab 0) (cF Aj (Aa (Ab 1) (Aa (Gw (Ab 0)) Al)))))) (cgN 7))
  (Az (cIf (Bq7 (Bc (cOp (Bk true) (Ab 5) (Ho Al))) (Bc (cOp (Bk false) (cF Aj (Aa (Ab 0) (Aa (cC (.int 9)) Al))) (cC (.int 0))))) (Bo (cOp Ai (Ab 5) (cF Aj (Aa (Ab 0) (Aa (Gw (Ab 5)) Al)))) (cgN 7)) Bv)
  (M6 (Z6 (Ab 5) (Ab 7))))))
  (Cg (Ej (Aa (cUn By (Ab 3)) (Aa (cUn By (Ab 5)) Al))))))))
def J2:n_:=Ec 3 8 J4
def Hy:Ev->SR :=
 (Cg (cF J2 (Aa (Ab 0) (Aa (cF Gk (Aa (Ab 0) (Aa (cC (.int 2)) (Aa (cC (.int 5)) (Aa (cC (.int 12)) Al))))) (Aa (cF Gk (Aa (Ab 0) (Aa (cC (.int 0)) (Aa (cC (.int 8)) (Aa (cC (.int 24)) Al))))) Al)))))
def Dl:n_:=Ec 1 1 Hy
def Lj:Ev->SR :=
 (Az
  (Bo (cUn Le (Ab 1)) (cgN 2))
  (Az (Bo (cLC [none,some 2,some 0] (Ce (Ab 1)) (cgN 0) Bq (Nv (Ab 1) (cF Aj (Aa (Ab 2) (Aa (Gw (Ab 1)) Al))))) (cgN 3))
  (Az (Bo (cOp Ck (cC (.int 1)) (cF Aj (Aa (Ab 0) (Aa (cOp Ao8 (cOp Ai (Ho (Aa (cC (.int 3)) (Aa (cC (.int 9)) Al))) (cUn Ah3 (cOp (Bk false) (cF Aj (Aa (Ab 0) (Aa (cC (.int 8)) Al))) (cC (.int 0))))) (Gw (Ab 3))) Al)))) (cgN 4))
  (Az (Bo (cSl Nx (Ab 3) (cOS (Ab 4)) cON) (cgN 5))
  (Az (Bo (cF Aj (Aa (Ab 0) (Aa (cOp Ck (Gw (Ab 5)) (cC (.int 1))) Al))) (cgN 6))
  (Cg (Ej (Aa (cSl Nx (Ab 5) cON (cOS (Ab 6))) (Aa (cSl Nx (Ab 5) (cOS (Ab 6)) cON) (Aa (cSl Nx (Ab 3) cON (cOS (Ab 4))) Al))))))))))
def Fp:n_:=Ec 2 7 Lj
def Zw:Ev->SR :=
 (Cg (cUn By (cLC [none,some 1,some 0] (Ce (Ab 2)) (cgN 0) Bq (cOp Ai (Ab 1) (cMt Kg J0 (cOp Ai (Ab 2) (cC (.int 0))) (Ab 0))))))
def Oo:n_:=Ec 3 3 Zw
def Wz:Ev->SR :=
 (Az
  (Bo (Ho (Aa (Ju xT1 (Ab 0)) (Aa (Ju xT2 (Ab 0)) (Aa (Ju xT0 (Ab 0)) Al)))) (cgN 1))
  (Az (Bo (cOp Ck (Ab 1) (Ho (Aa (Ju xT0 (Ab 0)) (Aa (Ju xT3 (Ab 0)) (Aa (Ju xT0 (Ab 0)) Al))))) (cgN 1))
  (Az (Bo (cOp Ck (Ab 1) (Ho (Aa (Ju xT0 (Ab 0)) (Aa (Ju xT0 (Ab 0)) (Aa (Ju xT0 (Ab 0)) Al))))) (cgN 1))
  (Az (cIf (cOr (Bc (cOp (Bk true) (cMt Jh Uh (Ab 1) (cC (.bool true))) (cC (.int 1)))) (cOr (Bc (Ju xT0 (Ab 0))) (Bd4 (Bc (Ju xT4 (Ab 0)))))) (Cg (cC (.str "other"))) Bv)
  (Az (Bo (Ho (cK [.str "BadColumns",.str "BadOrder",.str "BadWay",.str "NoNumber",.str "Double",.str "NoPart",.str "NoHead",.str "NoColumn",.str "NoRow"])) (cgN 2))
  (Cg (cOp Ai (Ab 2) (cMt Jh T5 (Ab 1) (cC (.bool true))))))))))
def Gv:n_:=Ec 1 3 Wz
def Bh:Ev->SR :=
 (Az
  (Bo (cF Oo (Aa (Ab 0) (Aa (Ab 3) (Aa (Ab 1) Al)))) (cgN 4))
  (Az (cIf (Bc (cOp (Rv false) (Ab 4) (Ab 2))) (Cg (Ej (Aa (B1i (Ab 2) (Ab 4)) (Aa (Gw (Ab 2)) Al)))) Bv)
  (M6 (Z6 (Ab 2) (Ab 4)))))
def Ef:Ev->SR :=
 (Az
  (Bo (Ho Al) (cgN 2))
  (Az (Wl (Ce (cOp Ai (Ab 0) (cC (.int 1)))) (cgN 3) Bh)
  (Cg (cC (.none)))))
def Bt:n_:=Ec 2 5 Ef
def Cp:Ev->SR :=
 (Az
  (O3 1 2 3 4)
  (Az (Bo (cF Aj (Aa (Ab 0) (Aa (cC (.int 7)) Al))) (cgN 5))
  (Az (cIf (Bc (cOp (Bk false) (Ab 5) (cC (.int 0)))) (Cg (Ej (Aa (Ab 2) (Aa (Ab 3) (Aa (Ho Al) Al))))) Bv)
  (Qw 6 2 3 4 (cF Aj (Aa (Ab 0) (Aa (cC (.int 3)) Al))) (Bc (cOp (Bk false) (Ab 5) (cC (.int 1)))) (Bc (cOp (Bk false) (Ab 5) (cC (.int 2)))) (cC (.str "zzz")) (cOp Ai (Ab 4) (cC (.int 0)))
  (Az (cIf (Bc (cOp (Bk false) (Ab 5) (cC (.int 3)))) (M6 (Bu6 (Ab 4))) Bv)
  (Az (cIf (Bc (cOp (Bk false) (Ab 5) (cC (.int 4)))) (Bo (cC (.str "zzz")) (Ae9 (Ab 4) (cF Aj (Aa (Ab 0) (Aa (Gw (Ab 4)) Al))))) Bv)
  (Az (cIf (Bc (cOp (Bk false) (Ab 5) (cC (.int 5)))) (B2s 2 3 (Aa (cOp Ck (Ab 2) (Ab 3)) (Aa (cOp Ck (cOp Ck (Ab 3) (Ab 2)) (cSl Nx (Ab 4) cON (cOS (cC (.int 1))))) Al))) Bv)
  (Az (cIf (Bc (cOp (Bk false) (Ab 5) (cC (.int 6)))) (Bo (cOp Ck (Ab 4) (Ho (Aa (cC (.str "zzz")) Al))) (cgN 4)) Bv)
  (Cg (Ej (Aa (Ab 2) (Aa (Ab 3) (Aa (Ab 4) Al)))))))))))))
def Bg:n_:=Ec 2 7 Cp
def Ib:Ev->SR :=
 (Az
  (Bo (cC (.none)) (cgN 3))
  (Az (Aw4 Cj (Aa (Ab 0) (Aa (cOp Ai (Ab 1) (cC (.int 0))) (Aa (cOp Ai (Ab 1) (cC (.int 1))) (Aa (cOp Ai (Ab 1) (cC (.int 2))) (Aa (Ab 2) Al))))) 4 none ["BadColumns", "BadOrder", "Double"] (Bo (Ab 4) (cgN 3)))
  (Az (cIf (Bc (A8q (Ab 3))) (Cg (Ej (Aa (cC (.str "told")) (Aa (cC (.none)) Al)))) Bv)
  (Az (Bo (cF Gv (Aa (Ab 3) Al)) (cgN 5))
  (Cg (Ej (Aa (Ab 5) (Aa (A0z (Bc (cOp (Bk false) (Ab 5) (cC (.str "Double")))) (cXF ["Double"] "rows" (Ab 3)) (cC (.none))) Al))))))))
def Bf:n_:=Ec 3 6 Ib
def Ma:Ev->SR :=
 (cIf (Bc (cOp (Bk true) (cF Bf (Aa (Ab 3) (Aa (Ab 11) (Aa (Ab 12) Al)))) (Ej (Aa (cC (.str "BadColumns")) (Aa (cC (.none)) Al))))) (Cg (cC (.bool false))) Bv)
def Ie:Ev->SR :=
 (Az
  (Bo (cF Jy (Aa (Ab 0) (Aa (Ab 1) Al))) (cgN 2))
  (Az (Bo (cF Dl (Aa (Ab 2) Al)) (cgN 3))
  (Az (Bo (cF Fp (Aa (Ab 2) (Aa (cOp Ai (Ab 3) (cC (.int 0))) Al))) (cgN 4))
  (Az (Bo (cUn Ac3 (Ab 3)) (cgN 5))
  (Az (Bo (cF Bt (Aa (Ab 3) (Aa (cOp Ck (cOp Ai (Ab 4) (cC (.int 0))) (cOp Ai (Ab 4) (cC (.int 1)))) Al))) (cgN 6))
  (Az (Bo (cOp Ai (Ho (Aa (cC (.str "seen")) (Aa (cC (.str "rising")) Al))) (cF Aj (Aa (Ab 2) (Aa (cC (.int 2)) Al)))) (cgN 7))
  (Az (Bo (A0z (Bc (cOp (Kw false) (Ab 6) (cC (.none)))) (Ej (Aa (cC (.str "told")) (Aa (cC (.none)) Al))) (Ej (Aa (cC (.str "Double")) (Aa (Ab 6) Al)))) (cgN 8))
  (Az (cIf (Bc (cOp (Bk true) (cF Bf (Aa (Ab 3) (Aa (Ab 4) (Aa (Ab 7) Al)))) (Ab 8))) (Cg (cC (.bool false))) Bv)
  (Az (cIf (Bc (cOp (Kw true) (Ab 6) (cC (.none)))) (Az (Bo (Ej (Aa (cOp Ai (Ab 3) (cC (.int 0))) (Aa (cSl Nx (cOp Ai (Ab 3) (cC (.int 1))) cON (cOS (cOp Ai (Ab 6) (cC (.int 1))))) Al))) (cgN 9))
  (cIf (Bc (cOp (Bk true) (cF Bf (Aa (Ab 9) (Aa (Ab 4) (Aa (Ab 7) Al)))) (Ej (Aa (cC (.str "told")) (Aa (cC (.none)) Al))))) (Cg (cC (.bool false))) Bv)) Bv)
  (Az (Bo (cOp Ai (Ho (Aa (cC (.none)) (Aa (cC (.str "falling")) (Aa (cC (.str "")) (Aa (cC (.str "Seen")) (Aa (cC (.int 0)) (Aa (Ej (Aa (cC (.str "told")) (Aa (Ho Al) Al))) (Aa (cC (.str "rising ")) Al)))))))) (cF Aj (Aa (Ab 2) (Aa (cC (.int 7)) Al)))) (cgN 10))
  (Az (cIf (Bc (cOp (Bk true) (cF Bf (Aa (Ab 3) (Aa (Ab 4) (Aa (Ab 10) Al)))) (Ej (Aa (cC (.str "BadOrder")) (Aa (cC (.none)) Al))))) (Cg (cC (.bool false))) Bv)
  (Az (Bo (cF Bg (Aa (Ab 2) (Aa (Ab 4) Al))) (cgN 11))
  (Az (Wl (Ce (Ej (Aa (Ab 7) (Aa (Ab 10) Al)))) (cgN 12) Ma)
  (cIf (Bc (cOp (Bk true) (cUn Ac3 (Ab 3)) (Ab 5))) (Cg (cC (.bool false))) Bv))))))))))))))
def Bb7:Ev->SR :=
 (Az
  (Wl (Ul (cC (.int 7))) (cgN 1) Ie)
  (Cg (cC (.bool true))))
def Al3:n_:=Ec 1 13 Bb7
abbrev sI (x:PyData):Option O:=some (.im x)
abbrev sT (x:List PyData):Option O:=some (.ls true x)
abbrev sFa (x:List PyData):Option O:=some (.ls false x)
local macro_rules | `(tactic| wp_walk using $ts,*)=>`(tactic| simp only [sI,sT,sFa,Az,Bo,cgN,cgT,Do,Lw,Ab,cC,cOp,cUn,Gw,cF,cFz,gR,Ti,Xx,slots,pairsOf,ndB,Gj,Al,Aa,cK,nrm,Cq,A8w,rdP,O.dat,O.flag,O.bor,frz,frzs,Ej,Ho,cIf,Bc,Bq,Bq7,cOr,Bd4,A0z,Cg,M6,Bv,Ap2,Z6,slL,Nv,Bu6,Ae9,B2s,cSl,cON,cOS,Ul,cIn,R.bind_ok,R.toS_ok,Ec,A1w,resolve,Hd,Z3,U.opI,U.V9,Ai9,B0x,T6,Ym,Ol,Ag7,Js,Ut,Bv3,List.getElem?_cons_zero,dI,List.set_cons_zero,List.set_cons_succ,aJ,fW,aR,cY,List.replicate,List.cons_append,eG,cG,List.contains_nil,fu,Option.map_none,fX,Option.join_some,Option.isSome_some,cB,bB,Bool.not_true,Bool.not_false,Bool.and_true,j5,Bool.and_false,Bool.false_and,Bool.or_true,Bool.or_false,Bool.true_or,Bool.false_or,dq,List.dropLast,List.any_nil,List.flatMap_nil,ite_true,ite_false,decide_true,decide_false,reduceCtorEq,B6c,B5r,B6e,B3l,B3n,By2,Bv6,B1o,U.A3l,bh,Nat.reduceAdd,Nat.reduceSub,Nat.reduceLeDiff,Nat.reduceLT,Nat.reduceEqDiff,Int.reduceAdd,Int.reduceSub,Int.reduceNeg,Int.reduceLT,Int.reduceLE,Int.reducePow,Int.reduceToNat,Int.reduceMul,and_self,and_true,cT,cD,Option.some.injEq,Kc,Q5,Vy,Pj,Oq,Ju,Fd,Jk,xIf,J1,B5w,K1,Qj,M3,Aw4,Bm5,tryH,unX,A8q,$[$ts:term],*])
def Bx (n:Nat)(ds:w5):Prop:=∃x y z:Int,ds=[.int x,.int y,.int z]/\0<=x/\0<=y/\y<2 ^ 62/\0<=z/\z<=n
theorem Bx.mono (h:Bx n ds) (l:n<=m):Bx m ds:=by
 obtain⟨x,y,z,e,b,c,a,d,f⟩:=h
 exact⟨x,y,z,e,b,c,a,d,by lia⟩
theorem mod_lt {x m:Int}(h:0<m):0<=x % m/\x % m<m:=⟨Int.emod_nonneg _ (by lia),Int.emod_lt_of_pos _ h⟩
theorem A4l (h:-(2 ^ 64)<i/\i<2 ^ 64):Vq i j=true:=by
 unfold Vq;grind
theorem Zr (h:-(2 ^ 64)<j/\j<2 ^ 64):Vq i j=true:=by
 unfold Vq;grind
theorem Ak3 (h:0<j):A8h i j=true:=aN h
theorem B6b (h:0<j/\j<1073741824):Au7 i j=true:=by
 unfold Au7;grind
theorem B4p:Ah4 10 18=true:=by rfl
theorem B3k:Ah4 10 12=true:=by rfl
theorem B4a:Ah4 10 11=true:=by rfl
theorem Ca (hb:Bx n ds) (hn:n<2 ^ 40) (a:0<m) (h1:m<16000000) :
 ∃r ds',Bx (n+1) ds'/\0<=r/\r<m/\Aj [.ls true ds,.im (.int m)]=.ret (.im (.int r)) [.ls true ds',.im (.int m)]:=by
 obtain⟨x,y,z,rfl,d,e,b,g,z1⟩:=hb
 by_cases c:0<x
 ·refine⟨x % m,[.int (x / m),.int y,.int z],⟨_,_,_,rfl,Int.ediv_nonneg d (by lia),e,b,g,by lia⟩,(mod_lt a).1,(mod_lt a).2,?_⟩
  wp_walk using Aj,Mh,Ai,aN c,Ak3 a,B6b ⟨a,(by lia:m<1073741824)⟩
 ·have h:=mod_lt (x:=(y+48271*(z+1))*(39373+(z+1))) (m:=2147483647) (by decide)
  generalize e1:(y+48271*(z+1))*(39373+(z+1)) % 2147483647=once at h
  have g2:=mod_lt (x:=once) (m:=40009) (by decide)
  have f:=mod_lt (x:=(once+(z+1))*(once % 40009+7)) (m:=2147483629) (by decide)
  generalize e2:(once+(z+1))*(once % 40009+7) % 2147483629=twice at f
  refine⟨(twice*48271+once) % 2147483587 / 64 % m,[.int x,.int y,.int (z+1)],⟨_,_,_,rfl,d,e,b,by lia,by lia⟩,(mod_lt a).1,(mod_lt a).2,?_⟩
  wp_walk using Aj,Mh,Ai,Kr,Ck,aV c,Ak3 a,B6b (i:=(twice*48271+once) % 2147483587) (j:=64) ⟨by decide,by decide⟩,A4l (i:=48271) (j:=z+1) ⟨by decide,by decide⟩,Zr (i:=y+48271*(z+1)) (j:=39373+(z+1)) ⟨by lia,by lia⟩,Ak3 (i:=(y+48271*(z+1))*(39373+(z+1))) (j:=2147483647) (by decide),e1,Ak3 (i:=once) (j:=40009) (by decide),Zr (i:=once+(z+1)) (j:=once % 40009+7) ⟨by lia,by lia⟩,Ak3 (i:=(once+(z+1))*(once % 40009+7)) (j:=2147483629) (by decide),e2,Zr _,Ak3 (j:=2147483587) (by decide)
theorem Am8 {k:Nat}:∃i:Int,Et [.sc ns,.im (.int k)]=.ret (.im (.int i)) [.sc ns,.im (.int k)]:=by
 by_cases c:k<ns.length
 ·refine⟨ns[k],?_⟩
  have e:atI ns (k:Int)=some ns[k]:=Dt (bC c)
  wp_walk using Et,Hs,Pk,Bu,PyData.canLay0,PyData.depth,Ih,aN (show (k:Int)<ns.length by lia),e,aU
 ·refine⟨0,?_⟩
  wp_walk using Et,Hs,Pk,Bu,PyData.canLay0,PyData.depth,Ih,aV (show ¬ (k:Int)<ns.length by lia),aU
theorem B0t {k:Nat}(hk:k<=63):∃ds,Bx 0 ds/\Jy [.sc ns,.im (.int k)]=.ret (.ls false ds) [.sc ns,.im (.int k)]:=by
 obtain⟨i,e⟩:=Am8 (ns:=ns) (k:=k)
 have a:(0:Int)<=(if i<0 then -i else i):=by grind
 have c:=mod_lt (x:=i) (m:=2305843009213693951) (by decide)
 generalize ea:(if i<0 then -i else i)=ab at a
 have b:(0:Int)<=(if decide ((1000000000000000000:Int)<=ab)=true then 1 else 0)/\(if decide ((1000000000000000000:Int)<=ab)=true then (1:Int) else 0)<=1:=by lia
 generalize eo:(if decide ((1000000000000000000:Int)<=ab)=true then (1:Int) else 0)=on at b
 refine⟨[.int _,.int (i % 2305843009213693951+39373*k+17),.int 0],⟨_,_,_,rfl,Int.mul_nonneg a b.1,by lia,by lia,by lia,by lia⟩,?_⟩
 wp_walk using Jy,Uc,e,Ay1,ea,Ah3,Kr,Ck,eo,B4p,Ak3 (j:=2305843009213693951) (by decide),Zr (j:=on) ⟨by lia,by lia⟩,A4l _
theorem As5 (hb:Bx n ds) (hn:n<2 ^ 39) (j:0<=l) (h1:l<=7) (h2:l<=f) (t:f<=m) (o:7<=m) (p:m<1000) :
 ∃r ds',Bx (n+2) ds'/\l<=r/\r<=m/\Gk [.ls true ds,.im (.int l),.im (.int f),.im (.int m)]=.ret (.im (.int r)) [.ls true ds',.im (.int l),.im (.int f),.im (.int m)]:=by
 obtain⟨r,s,g,u,k,e⟩:=Ca (m:=8) hb (by lia) (by decide) (by decide)
 by_cases c:r=0
 ·subst c
  obtain⟨q,a,d,h,i,b⟩:=Ca (m:=m-6) g (by lia) (by lia) (by lia)
  refine⟨7+q,a,d,by lia,by lia,?_⟩
  wp_walk using Gk,Mm,e,b,Bk,Bu,PyData.canLay0,PyData.depth,PyData.eqv,Ck,aU,ie
 ·obtain⟨q,a,d,h,i,b⟩:=Ca (m:=f-l+1) g (by lia) (by lia) (by lia)
  refine⟨l+q,a,d,by lia,by lia,?_⟩
  wp_walk using Gk,Mm,e,b,Bk,Bu,PyData.canLay0,PyData.depth,PyData.eqv,Ck,aU,eU.mpr c
theorem A4f (hb:Bx n ds) (hn:n<2 ^ 39):∃(v:Vl) (ds':w5),Bx (n+2) ds'/\VB v/\Du [.ls true ds]=.ret (.im v.d) [.ls true ds']:=by
 obtain⟨r,t,k,r0,r1,j⟩:=Ca (m:=9) hb (by lia) (by decide) (by decide)
 by_cases c4:r<4
 ·obtain⟨q,e,g,h,i,c⟩:=Ca (m:=13) k (by lia) (by decide) (by decide)
  refine⟨.int (q-3),e,g,?_,?_⟩
  ·show (decide (-1000000000000<=q-3)&&decide (q-3<=1000000000000))=true
   rw[aN (by lia),aN (by lia)];rfl
  wp_walk using Du,Gu,j,c,Pk,Ih,Bu,PyData.canLay0,PyData.depth,aU,aN c4,Vl.d
 by_cases c5:r=4
 ·subst c5
  obtain⟨q,e,g,h,i,c⟩:=Ca (m:=4) k (by lia) (by decide) (by decide)
  obtain⟨d,s,f,_⟩:=Vt (l:=[PyData.int 999999999999,.int (-100000000000),.int 100,.int 10]) (r:=q) h i
  have p:∃v:Vl,d=v.d/\VB v:=by
   simp only[aD,bI,bJ]at f
   rcases f with rfl | rfl | rfl | rfl <;> exact⟨.int _,rfl,by decide⟩
  obtain⟨v,rfl,o⟩:=p
  refine⟨v,e,g,o,?_⟩
  wp_walk using Du,Gu,j,c,Pk,Ih,Bk,Bu,PyData.canLay0,PyData.depth,PyData.eqv,aU,aV c4,ie,B3k,B4a,Ai,s
 by_cases c6:r=5
 ·subst c6
  refine⟨.non,t,k.mono (by lia),rfl,?_⟩
  wp_walk using Du,Gu,j,Pk,Ih,Bk,Bu,PyData.canLay0,PyData.depth,PyData.eqv,aU,aV c4,ie,eU.mpr c5,Vl.d
 ·obtain⟨q,e,g,h,i,c⟩:=Ca (m:=15) k (by lia) (by decide) (by decide)
  obtain⟨d,s,f,_⟩:=Vt (l:=[PyData.str "",.str "a",.str "b",.str "B",.str "10",.str "9",.str "-",.str "a b",.str "it's",.str "\\",.str "/",.str "_",.str ":",.str "None",.str "ab"]) (r:=q) h i
  have p:∃v:Vl,d=v.d/\VB v:=by
   simp only[aD,bI,bJ]at f
   rcases f with rfl | rfl | rfl | rfl | rfl | rfl | rfl | rfl | rfl | rfl | rfl | rfl | rfl | rfl | rfl <;> exact⟨.str _,rfl,by decide⟩
  obtain⟨v,rfl,o⟩:=p
  refine⟨v,e,g,o,?_⟩
  wp_walk using Du,Gu,j,c,Pk,Ih,Bk,Bu,PyData.canLay0,PyData.depth,PyData.eqv,aU,aV c4,eU.mpr c5,eU.mpr c6,Ai,s
noncomputable def names12:v4:=["b","a","year","z","ab","month","aa","quantity","c","town","zz","ba"]
theorem B3p {m:Nat}(h:m<=1000):(m:Int)<=16000000/\-16000000<=(m:Int):=by lia
theorem upN {n k a b c:Nat}(hn:n<a)(hk:k<=b)(h:a+b<=c):n+k<c:=aP (Nat.add_lt_add_of_lt_of_le hn hk) h
theorem Z5 {n:Nat}{r:Int}(a:0<=r)(h1:r<n):ixN n r=some r.toNat:=by
 unfold ixN;grind
theorem Sv : (Pr lo n).length=n:=by unfold Pr;grind
theorem S8 (h:(Pr lo n)[k]?=some d):d=.int (lo+k)/\k<n:=by
 unfold Pr at h
 grind
theorem Qy {α β:Type}(f:α->β):∀(l:List α) (j:Nat),(l.map f).eraseIdx j=(l.eraseIdx j).map f
 | [],j=>rfl
 | a::l,0=>rfl
 | a::l,j+1=>by rw[aJ,iz,iz,aJ,Qy f l j]
theorem Nu {α:Type}:∀(l:List α) {j:Nat}(h:j<l.length),(l[j]::l.eraseIdx j).Perm l
 | a::l,0,h=>List.Perm.refl _
 | a::l,j+1,h=>by
  rw[iz,List.getElem_cons_succ]
  exact(List.Perm.swap a _ _).trans (List.Perm.cons a (Nu l (by simpa using h)))
structure Names (ns:v4):Prop where
 nd:ns.Nodup
 sub:∀x∈ns,x∈names12
theorem A5t (hb:Bx n ds) (hn:n<2 ^ 38) (hm:m<=12) :
 ∃b ds',b.length=m/\Names b/\Bx (n+m) ds'/\Hz [.ls true ds,.im (.int m)]=.ret (.ls false (b.map PyData.str)) [.ls true ds',.im (.int m)]:=by
 have i:=Jq (g:=cgN 0) (ft:=Bq) (fe:=Nv (Ab 1) (cF Aj (Aa (Ab 2) (Aa (Gw (Ab 1)) Al)))) (items:=Pr 0 m) (acc:=[]) (n:=0) (c:=[none,sT (names12.map PyData.str),sT ds])
  (P:=λk f c=>∃a h t b,c=[t,sT (a.map PyData.str),sT h]/\Bx (n+k) h/\f=b.map PyData.str/\(b++a).Perm names12/\b.length=k)
  ⟨names12,ds,none,[],rfl,hb,rfl,List.Perm.refl _,rfl⟩ (λk d f c C w=>by
   rw[bh]at w ⊢;obtain⟨a,h,t,b,rfl,o,rfl,j,l⟩:=w;obtain⟨rfl,hk⟩:=S8 C
   have ll:a.length+k=12:=by have:=j.length_eq;rw[aM,l]at this;have e:names12.length=12:=rfl;lia
   obtain⟨r,v,A,z,y,B⟩:=Ca (m:=(a.length:Int)) o (by lia) (by lia) (by lia)
   have u:r.toNat<a.length:=by lia
   have q:(a.map PyData.str)[r.toNat]?=some (.str a[r.toNat]):=by simp[u]
   have p:ixN a.length r=some r.toNat:=Z5 z y
   refine⟨some (.str a[r.toNat]),[sI (.int (0+(k:Int))),sT ((a.eraseIdx r.toNat).map PyData.str),sT v],?_,a.eraseIdx r.toNat,v,_,b++[a[r.toNat]],rfl,A.mono (by lia),by simp,?_,by simp[l]⟩
   ·wp_walk using Fw,ao,B,p,q,Qy,show a.length<=16000000 by lia
   ·rw[dJ]
    exact(List.Perm.append_left b (Nu a u)).trans j)
 obtain⟨f,cI,e,a,h,t,b,rfl,o,rfl,j,l⟩:=i;rw[bh,Sv]at o l
 have D:(b++a).Nodup:=j.nodup_iff.mpr (by decide)
 refine⟨b,h,l,⟨(dm.mp D).1,λx q=>j.mem_iff.mp (bG _ q)⟩,o,?_⟩
 have s:cLC [none,some 2,some 0] (Ul (Ab 1)) (cgN 0) Bq (Nv (Ab 1) (cF Aj (Aa (Ab 2) (Aa (Gw (Ab 1)) Al)))) [sT ds,sI (.int m),sFa (names12.map PyData.str)]=.ok (.o (.ls false (b.map PyData.str))) [sT h,sI (.int m),sFa (a.map PyData.str)] :=
  Gb (ds:=Pr 0 m) (c1:=[sT ds,sI (.int m),sFa _]) (by wp_walk using B3p (aq hm (by decide)),gM) (by rw[Sv];exact aq hm (by decide)) e (by wp_walk using cT)
 unfold Hz N6;simp only[names12,aJ,fW]at s
 wp_walk using s
theorem A1s {k:Nat}{vs:m9} (h:v∉vs) (a:vs.Nodup):(vs++[v]).Nodup:=by
 grind
theorem Bg9 (hb:Bx n ds) (hn:n<2 ^ 38) (hm:m<=1000) :
 ∃a ds',VBs a/\a.Nodup/\a.length<=m/\(0<m->a≠[])/\Bx (n+2*m) ds'/\Fo [.ls true ds,.im (.int m)]=.ret (.ls false (a.map Vl.d)) [.ls true ds',.im (.int m)]:=by
 have i:=O7 (g:=cgN 3) (body:=Az (Bo (cF Du (Aa (Ab 0) Al)) (cgN 4)) (cIf (Bc (cOp (Rv true) (Ab 4) (Ab 2))) (M6 (Z6 (Ab 2) (Ab 4))) Bv)) (items:=Pr 0 m) (n:=0) (c:=[sT ds,sI (.int m),sFa [],none,none])
  (P:=λk c=>∃j a x y,c=[sT j,sI (.int m),sFa (a.map Vl.d),x,y]/\Bx (n+2*k) j/\VBs a/\a.Nodup/\a.length<=k/\(0<k->a≠[]))
  ⟨ds,[],none,none,rfl,hb,(λv b=>by cases b),cX,au _,λh=>absurd h (by decide)⟩ (λk d c B s=>by
   rw[bh]at s ⊢;obtain⟨j,a,x,y,rfl,p,b,o,l,f⟩:=s;obtain⟨rfl,w⟩:=S8 B
   obtain⟨v,q,t,r,A⟩:=A4f p (upN hn (jH 2 (aq (iu w) hm)) (by decide))
   by_cases c:v∈a
   ·refine⟨[sT q,sI (.int m),sFa (a.map Vl.d),sI (.int (0+(k:Int))),sI v.d],.inl ?_,q,a,_,_,rfl,t,b,o,Nat.le_succ_of_le l,λ_ z=>by rw[z]at c;cases c⟩
    wp_walk using A,Ba6 r b,aN c
   ·refine⟨[sT q,sI (.int m),sFa ((a++[v]).map Vl.d),sI (.int (0+(k:Int))),sI v.d],.inl ?_,q,a++[v],_,_,rfl,t,VBs.app b (λu C=>by rw[aK.mp C];exact r),A1s (k:=k) c o,by rw[aM,gH];lia,λ_=>by simp⟩
    wp_walk using A,Ba6 r b,aV c,ao,show a.length<16000000 from cH l (aP w (aq hm (by decide))),cj)
 obtain⟨c',e,j,a,x,y,rfl,p,b,o,l,f⟩:=i;rw[bh,Sv]at p l f
 refine⟨a,j,b,o,l,f,p,?_⟩
 unfold Fo P0
 wp_walk using Wl,B3p hm,gM,e
structure Tb where
 cols:v4
 rows:m8
def Tb.d (t:Tb):t_:=.tuple [.tuple (t.cols.map PyData.str),.tuple (t.rows.map tD)]
structure Tb.Ok (t:Tb):Prop where
 nms:Names t.cols
 cpos:2<=t.cols.length
 clen:t.cols.length<=12
 rows:∀r∈t.rows,r.length=t.cols.length/\VBs r
 rlen:t.rows.length<=24
def plD (vs:m9):t_:=.list (vs.map Vl.d)
structure Aw3 (n:Nat) (ps:m8):Prop where
 len:ps.length=n
 each:∀p∈ps,VBs p/\p≠[]/\p.length<=12
theorem A9l (hb:Bx n ds) (hn:n<2 ^ 37) (hl:items.length<=100) :
 ∃
  b f t,Aw3 items.length b/\Bx (n+25*items.length) f /\
  Eg (cgN 0) Bq (cF Fo (Aa (Ab 1) (Aa (cOp Ai (Ho (cK [.int 2,.int 3,.int 3,.int 5,.int 12])) (cF Aj (Aa (Ab 1) (Aa (cC (.int 5)) Al)))) Al))) items [] [none,sT ds]=.ok (b.map plD) [t,sT f]:=by
 have j:=Jq (g:=cgN 0) (ft:=Bq) (fe:=cF Fo (Aa (Ab 1) (Aa (cOp Ai (Ho (cK [.int 2,.int 3,.int 3,.int 5,.int 12])) (cF Aj (Aa (Ab 1) (Aa (cC (.int 5)) Al)))) Al))) (items:=items) (acc:=[]) (n:=0) (c:=[none,sT ds])
  (P:=λk a c=>∃f t b,c=[t,sT f]/\k<=items.length/\Bx (n+25*k) f/\a=b.map plD/\Aw3 k b)
  ⟨ds,none,[],rfl,aU _,hb,rfl,rfl,λp i=>nomatch i⟩ (λk d a c E v=>by
   rw[bh]at v ⊢;obtain⟨f,t,b,rfl,F,o,rfl,i⟩:=v;have s:k<items.length:=(bH.mp E).1
   obtain⟨r,d2,G,B,z,C⟩:=Ca (m:=5) o (by lia) (by decide) (by decide)
   obtain⟨x,D,w,_⟩:=Vt (l:=[PyData.int 2,.int 3,.int 3,.int 5,.int 12]) (r:=r) B z
   have q:∃m:Nat,x=.int m/\0<m/\m<=12:=by
    simp only[aD,bI,bJ]at w
    rcases w with rfl | rfl | rfl | rfl | rfl
    ·exact⟨2,rfl,by decide,by decide⟩
    ·exact⟨3,rfl,by decide,by decide⟩
    ·exact⟨3,rfl,by decide,by decide⟩
    ·exact⟨5,rfl,by decide,by decide⟩
    ·exact⟨12,rfl,by decide,by decide⟩
   obtain⟨m,rfl,A,m1⟩:=q
   obtain⟨y,H,q,nd,I,u,J,K⟩:=Bg9 (m:=m) G (by lia) (by lia)
   refine⟨some (plD y),[sI d,some _],?_,H,_,b++[y],rfl,s,J.mono (by lia),by simp,by simp[i.len],λp h=>by
    rcases aY.mp h with h | h
    ·exact i.each p h
    ·rw[aK.mp h];exact⟨q,u A,by lia⟩⟩
   wp_walk using C,Ai,D,K,plD)
 obtain⟨a,cI,e,f,t,b,rfl,_,o,rfl,i⟩:=j;rw[bh]at o i;exact⟨b,f,t,i,o,e⟩
theorem A2c (hb:Bx n ds) (hn:n<2 ^ 37) (hp:Aw3 w ps) (hw:w<=100) :
 ∃
  a f t,a.length=w/\VBs a/\Bx (n+w) f /\
  Eg (cgN 0) Bq (cOp Ai (Ab 0) (cF Aj (Aa (Ab 1) (Aa (Gw (Ab 0)) Al)))) (ps.map plD) [] [none,sT ds]=.ok (a.map Vl.d) [t,sT f]:=by
 have o:=Jq (g:=cgN 0) (ft:=Bq) (fe:=cOp Ai (Ab 0) (cF Aj (Aa (Ab 1) (Aa (Gw (Ab 0)) Al)))) (items:=ps.map plD) (acc:=[]) (n:=0) (c:=[none,sT ds])
  (P:=λk b c=>∃f t a,c=[t,sT f]/\k<=w/\Bx (n+k) f/\b=a.map Vl.d/\a.length=k/\VBs a)
  ⟨ds,none,[],rfl,aU _,hb,rfl,rfl,λv C=>by cases C⟩ (λk d b c F B=>by
   rw[bh]at B ⊢;obtain⟨f,t,a,rfl,M,s,rfl,q,A⟩:=B;obtain⟨p,j,e⟩:=Ia F;subst e;have i:k<ps.length:=(bH.mp j).1;rw[hp.len]at i;obtain⟨E,y,pl⟩:=hp.each p (bf j);have lp:0<p.length:=List.length_pos_iff.mpr y
   obtain⟨r,I,J,D,H,G⟩:=Ca (m:=(p.length:Int)) s (by lia) (by lia) (by lia)
   obtain⟨x,L,K,_⟩:=Vt (l:=p.map Vl.d) (r:=r) D (by rw[ao];exact H)
   obtain⟨v,z,rfl⟩:=aL.mp K
   refine⟨some v.d,[sI (plD p),some _],?_,I,_,a++[v],rfl,i,J.mono (by lia),by simp,by simp[q],VBs.app A λu h=>by rw[aK.mp h];exact E v z⟩
   wp_walk using plD,Fw,ao,G,Ai,L)
 obtain⟨b,cI,e,f,t,a,rfl,_,s,rfl,q,A⟩:=o;rw[bh,ao,hp.len]at s q;exact⟨a,f,t,q,A,s,e⟩
abbrev Om:Ev->SR:=Az (Bo (cUn By (cLC [none,some 0] (Ce (Ab 4)) (cgN 0) Bq (cOp Ai (Ab 0) (cF Aj (Aa (Ab 1) (Aa (Gw (Ab 0)) Al)))))) (cgN 7))
 (Az (cIf (Bq7 (Bc (cOp (Bk true) (Ab 5) (Ho Al))) (Bc (cOp (Bk false) (cF Aj (Aa (Ab 0) (Aa (cC (.int 9)) Al))) (cC (.int 0))))) (Bo (cOp Ai (Ab 5) (cF Aj (Aa (Ab 0) (Aa (Gw (Ab 5)) Al)))) (cgN 7)) Bv)
 (M6 (Z6 (Ab 5) (Ab 7))))
theorem A3u {rows:m8} (h:∀r∈rows,r.length=w/\VBs r) (hw:w<=12) (hl:rows.length<=100):Good (.list (rows.map tD)) 2 2400000:=by
 refine (Good.lst (n:=1) (w:=1923*12+4) (k:=100) (λd a=>?_) (by grind)).mono (by decide) (by decide)
 obtain⟨r,b,rfl⟩:=aL.mp a
 exact Ks (h r b).2 (by grind)
theorem A4o (h:∀r∈rows,r.length=w/\VBs r) (hw:w<=12) (hl:rows.length<=100):Bk true (.list (rows.map tD)) (.list [])=sI (.bool (decide (rows≠[]))):=by
 rw[A1u (A3u h hw hl) (n':=1) (w':=4) ⟨rfl,rfl,rfl,by decide,by decide⟩ (by decide) (by decide)]
 cases rows with
 | nil=>rfl
 | cons a r=>rfl
def A0b (o:O)(ds:w5):Prop:=o=.ls false ds\/o=.im (.list ds)
theorem An1 (hb:Bx n ds) (hn:n<2 ^ 36) (hp:Aw3 w ps) (hw:w<=12) (p:A0b d (ps.map plD)) (hr:∀r∈rows,r.length=w/\VBs r) (hl:rows.length<=50) :
 ∃a h,a.length=w/\VBs a/\Bx (n+14) h/\Js (cgN 6) Om i [sT ds,s1,s2,s3,some d,sFa (rows.map tD),s6,s7]=.nx [sT h,s1,s2,s3,sI (.list (ps.map plD)),sFa ((rows++[a]).map tD),sI i,sI (tD a)]:=by
 obtain⟨g,h,t,q,v,y,C⟩:=A2c hb (by lia) hp (by lia)
 have f:∀d,A0b d (ps.map plD)->cLC [none,some 0] (Ce (Ab 4)) (cgN 0) Bq (cOp Ai (Ab 0) (cF Aj (Aa (Ab 1) (Aa (Gw (Ab 0)) Al)))) [sT ds,s1,s2,s3,some d,sFa (rows.map tD),sI i,s7]=.ok (.o (.ls false (g.map Vl.d))) [sT h,s1,s2,s3,sI (.list (ps.map plD)),sFa (rows.map tD),sI i,s7]:=λd p=>by
  refine Gb (ds:=ps.map plD) (c1:=[sT ds,s1,s2,s3,sI (.list (ps.map plD)),sFa (rows.map tD),sI i,s7]) ?_ (by rw[ao,hp.len];lia) C (by wp_walk using cT)
  rcases p with rfl | rfl <;> wp_walk using Ce
 have f:=f d p;have o:PyData.tuple (g.map Vl.d)=tD g:=rfl
 have s:(rows.map tD).length<16000000:=by rw[ao];lia
 have e:=A4o hr hw (by lia)
 by_cases hne:rows=[]
 ·subst hne
  refine⟨g,h,q,v,y.mono (by lia),?_⟩
  simp only[fW]at f e s
  wp_walk using Om,f,By,o,e,ne_eq,not_true_eq_false
 ·obtain⟨r,B,z,r0,r1,u⟩:=Ca (m:=9) y (by lia) (by decide) (by decide)
  have e:Bk true (.list (rows.map tD)) (.list [])=sI (.bool true):=by rw[e,aN hne]
  by_cases c:r=0
  ·subst c
   have lp:0<rows.length:=List.length_pos_iff.mpr hne
   obtain⟨k,G,D,F,E,H⟩:=Ca (m:=(rows.length:Int)) z (by lia) (by lia) (by lia)
   obtain⟨x,hx,A,_⟩:=Vt (l:=rows.map tD) (r:=k) F (by rw[ao];exact E)
   obtain⟨a,b,rfl⟩:=aL.mp A
   refine⟨a,G,(hr a b).1,(hr a b).2,D.mono (by lia),?_⟩
   have j:Bk false (.int 0) (.int 0)=sI (.bool true):=rfl
   wp_walk using Om,f,By,o,e,u,j,Fw,ao,H,Ai,hx,s,cj,show rows.length<16000000 by lia
  ·refine⟨g,B,q,v,z.mono (by lia),?_⟩
   have j:Bk false (.int r) (.int 0)=sI (.bool false):=by
    wp_walk using Bk,Bu,PyData.canLay0,PyData.depth,PyData.eqv,aU,eU.mpr c
   wp_walk using Om,f,By,o,e,u,j,ao,cj,show rows.length<16000000 by lia
theorem A9h (hb:Bx n ds) (hn:n<2 ^ 35) (h2:2<=m) (hm:m<=12) (hk:k<=24) :
 ∃t l,Tb.Ok t/\t.cols.length=m/\t.rows.length=k/\Bx (n+1000) l/\J2 [.ls true ds,.im (.int m),.im (.int k)]=.ret (.im t.d) [.ls true l,.im (.int m),.im (.int k)]:=by
 obtain⟨b,l,B,z,U,K⟩:=A5t (m:=m) hb (by lia) hm
 obtain⟨o,q,t,E,F,J⟩:=A9l (items:=b.map PyData.str) U (by lia) (by rw[ao];lia)
 rw[ao,B]at E F
 have L:cLC [none,some 0] (Ce (Ab 3)) (cgN 0) Bq (cF Fo (Aa (Ab 1) (Aa (cOp Ai (Ho (cK [.int 2,.int 3,.int 3,.int 5,.int 12])) (cF Aj (Aa (Ab 1) (Aa (cC (.int 5)) Al)))) Al))) [sT l,sI (.int m),sI (.int k),sFa (b.map PyData.str),none,none,none,none]=.ok (.o (.ls false (o.map plD))) [sT q,sI (.int m),sI (.int k),sI (.list (b.map PyData.str)),none,none,none,none] :=
  Gb (ds:=b.map PyData.str) (c1:=[sT l,sI (.int m),sI (.int k),sI (.list (b.map PyData.str)),none,none,none,none]) (by wp_walk using Ce) (by rw[ao];lia) J (by wp_walk using cT)
 have u:=O7 (g:=cgN 6) (body:=Om) (items:=Pr 0 k) (n:=0) (c:=[sT q,sI (.int m),sI (.int k),sI (.list (b.map PyData.str)),sFa (o.map plD),sFa [],none,none])
  (P:=λj c=>∃e s a x y,c=[sT e,sI (.int m),sI (.int k),sI (.list (b.map PyData.str)),some s,sFa (a.map tD),x,y]/\j<=k/\Bx (n+m+25*m+14*j) e/\A0b s (o.map plD)/\(∀r∈a,r.length=m/\VBs r)/\a.length=j)
  ⟨q,_,[],none,none,rfl,aU _,F,.inl rfl,(λr f=>nomatch f),rfl⟩ (λj d c N G=>by
   rw[bh]at G ⊢;obtain⟨e,s,a,x,y,rfl,I,v,D,f,w⟩:=G;obtain⟨rfl,M⟩:=S8 N
   obtain⟨A,O,Q,R,S,T⟩:=An1 (s1:=sI (.int m)) (s2:=sI (.int k)) (s3:=sI (.list (b.map PyData.str))) (s6:=x) (s7:=y) (i:=.int (0+(j:Int))) v (by lia) E hm D f (by lia)
   exact⟨_,.inl T,O,_,a++[A],_,_,rfl,M,S.mono (by lia),.inr rfl,λr h=>by
    rcases aY.mp h with h | h
    ·exact f r h
    ·rw[aK.mp h];exact⟨Q,R⟩,by simp[w]⟩)
 obtain⟨C,H,e,s,a,x,y,rfl,_,v,D,f,w⟩:=u;rw[bh,Sv]at v w
 refine⟨⟨b,a⟩,e,⟨z,by show 2<=b.length;lia,by show b.length<=12;lia,λr h=>by show r.length=b.length/\_;rw[B];exact f r h,by show a.length<=24;lia⟩,B,w,v.mono (by lia),?_⟩
 refine As3 (p:=.o (.im (Tb.d ⟨b,a⟩))) (c:=[sT e,sI (.int m),sI (.int k),sI (.list (b.map PyData.str)),some s,sFa (a.map tD),x,y]) ?_ rfl (by wp_walk using cT)
 show J4 [sT ds,sI (.int m),sI (.int k),none,none,none,none,none]=_
 unfold J4
 refine (Cz (c':=[sT l,sI (.int m),sI (.int k),sFa (b.map PyData.str),none,none,none,none]) (by wp_walk using K)).trans ?_
 refine (Cz (c':=[sT q,sI (.int m),sI (.int k),sI (.list (b.map PyData.str)),sFa (o.map plD),none,none,none]) (by wp_walk using L)).trans ?_
 refine (Cz (c':=[sT q,sI (.int m),sI (.int k),sI (.list (b.map PyData.str)),sFa (o.map plD),sFa [],none,none]) (by wp_walk using cT)).trans ?_
 refine (Cz ((Sy (by wp_walk using show (k:Int)<=16000000/\-16000000<=(k:Int) by lia,gM)).trans H)).trans ?_
 wp_walk using By,Tb.d
theorem Zq (hb:Bx n ds) (hn:n<2 ^ 34) :
 ∃t c,Tb.Ok t/\Bx (n+1004) c/\Dl [.ls true ds]=.ret (.im t.d) [.ls true c]:=by
 obtain⟨a,c,e,a0,a1,h⟩:=As5 (l:=2) (f:=5) (m:=12) hb (by lia) (by decide) (by decide) (by decide) (by decide) (by decide) (by decide)
 obtain⟨b,d2,i,j,c1,g⟩:=As5 (l:=0) (f:=8) (m:=24) e (by lia) (by decide) (by decide) (by decide) (by decide) (by decide) (by decide)
 obtain⟨o,rfl⟩:=h_ (show 0<=a by lia)
 obtain⟨q,rfl⟩:=h_ j
 obtain⟨t,p,r,_,_,s,d⟩:=A9h (m:=o) (k:=q) i (by lia) (by lia) (by lia) (by lia)
 refine⟨t,p,r,s.mono (by lia),?_⟩
 wp_walk using Dl,Hy,h,g,d
theorem B4e (ha:Bu a=true) (hb:Bu b=true):Bk neg a b=sI (.bool (if neg then !PyData.eqv a b else PyData.eqv a b)):=by unfold Bk;grind
noncomputable def Fz:Vl->t_
 | .non=>.tuple [.int 0,.int 0]
 | .int i=>.tuple [.int 1,.int i]
 | .str x=>.tuple [.int 2,.str x]
theorem Bk3 : Ed (k+1) [.im v.d]=.ret (.im (Fz v)) [.im v.d]:=by
 cases v with
 | non=>rfl
 | int i=>rfl
 | str x=>rfl
theorem Dv : Bk neg (.int a) (.int b)=sI (.bool (if neg then !decide (a=b) else decide (a=b))):=by
 have e:PyData.eqv (.int a) (.int b)=decide (a=b):=by
  rfl
 unfold Bk
 rw[show Bu _=true from rfl,show Bu _=true from rfl,e]
 simp
abbrev VG (v:Vl):Prop:=Good v.d 0 1921
abbrev VGs (vs:m9):Prop:=∀v∈vs,VG v
theorem Ba5 (h:VGs vs) (hk:vs.length<=k):Good (tD vs) 1 (1923*k+4) :=
 Good.tup λd a=>by
  grind (by simp_all)
def Kv (r:m9):t_:=.tuple [.int 3,.tuple (r.map Fz)]
theorem A1k (h:VG v):Good (Fz v) 1 3850:=by
 have q:∀a b ,VG a->VG b->Good (tD [a,b]) 1 3850:=λa b d e=>Ba5 (k:=2) λv c=>by
  grind (by simp)
 cases v with
 | non=>exact q (.int 0) (.int 0) (G6 (by rfl)) (G6 (by rfl))
 | int i=>exact q (.int 1) _ (G6 (by rfl)) h
 | str x=>exact q (.int 2) _ (G6 (by rfl)) h
theorem Aq2 (h:VGs r) (hl:r.length<=30):Good (Kv r) 3 300000:=by
 have g1:Good _ 2 (3852*30+4):=Good.tup (λd a=>by
  obtain⟨v,b,rfl⟩:=aL.mp a
  exact A1k (h v b)) (by simp_all)
 refine (Good.tup (n:=2) (w:=3852*30+4) (k:=2) (λd a=>?_) (by simp)).mono (by decide) (by decide)
 simp at a
 rcases a with rfl | rfl
 ·exact(G6 (v:=.int 3) (by rfl)).mono (by decide) (by decide)
 simp_all
theorem A5z (hl:r.length<=30):Ed 2 [.im (tD r)]=.ret (.im (Kv r)) [.im (tD r)]:=by
 obtain⟨cI,d,u,rfl⟩:=En (g:=cgN 0) (ft:=Bq) (fe:=cF (Ed 1) (Aa (Ab 0) Al)) (I:=λc=>∃u,c=[u]) (f:=Vl.d) (G:=Fz) (xs:=r) (acc:=[]) (c:=[none]) ⟨none,rfl⟩
  (λv c hv b=>by
   obtain⟨u,rfl⟩:=b
   refine⟨[sI v.d],?_,_,rfl⟩
   wp_walk using Bk3 (v:=v) (k:=0))
 have a:cLC [none] (Ce (Ab 0)) (cgN 0) Bq (cF (Ed 1) (Aa (Ab 0) Al)) [sI (tD r)]=.ok (.o (.ls false (r.map Fz))) [sI (tD r)]:=by
  refine Gb (ds:=r.map Vl.d) (c1:=[sI (tD r)]) ?_ (by rw[ao];lia) (by simpa[cIn] using d) (by wp_walk using cT)
  wp_walk using Ce,tD
 show Ec 1 1 _ _=_
 unfold tD at a ⊢
 wp_walk using Ye,Kw,Aw8,Bh7,a,By,Kv
section
variable {α:Type}[DecidableEq α]
noncomputable def fnd (x:α):List α->Nat
 | []=>0
 | y::l=>if y=x then 0 else fnd x l+1
theorem J7 {x:α}:∀{l:List α},x∈l->l[fnd x l]?=some x
 | y::l,h=>by
  unfold fnd
  by_cases e:y=x
  ·rw[if_pos e,e];rfl
  ·rw[if_neg e]
   rcases aD.mp h with h | h
   ·exact absurd h.symm e
   ·rw[dI];exact J7 h
theorem Ao7 {x:α} (h:x∈l):fnd x l<l.length:=(bH.mp (J7 h)).1
theorem U8 {x:α}:∀{l:List α}{i:Nat},l.Nodup->l[i]?=some x->fnd x l=i
 | y::l,0,_,h=>by
  have e:y=x:=cz h;unfold fnd;rw[if_pos e]
 | y::l,i+1,nd,h=>by
  rw[dI]at h
  have e:y≠x:=λz=>(bR.mp nd).1 (z▸bf h)
  unfold fnd;rw[if_neg e,U8 (bR.mp nd).2 h]
end
theorem Bv9 (a b:Vl):∃r,Ih false (Fz a) (Fz b)=some r:=by
 have s:∀(c:Bool) (r:Bool),∃q,(if c=true then some false else some r)=some q:=λc r=>by cases c <;> exact⟨_,rfl⟩
 cases a <;> cases b <;> first | exact⟨_,rfl⟩ | exact s _ _
theorem A6w:∀a b:m9,∃r,Yl false (a.map Fz) (b.map Fz)=some r
 | [],[]=>⟨_,rfl⟩
 | [],_::_=>⟨_,rfl⟩
 | _::_,[]=>⟨_,rfl⟩
 | x::xs,y::ys=>by
  show ∃r,(if PyData.eqv (Fz x) (Fz y)=true then Yl false (xs.map Fz) (ys.map Fz) else Ih false (Fz x) (Fz y))=some r
  split
  ·exact A6w xs ys
  ·exact Bv9 x y
theorem Bm6 (a b:m9):∃r,Ih false (Kv a) (Kv b)=some r:=by
 show ∃r,(if PyData.eqvAll (a.map Fz) (b.map Fz)=true then some false else Yl false (a.map Fz) (b.map Fz))=some r
 split
 ·exact⟨_,rfl⟩
 ·exact A6w a b
structure HK (hs:m8):Prop where
 vb:∀h∈hs,VBs h/\h.length<=12
 len:hs.length<=60
theorem A3x {hs:m8}:(∀h∈hs,h.length<=12)->Uj (Ed 2) (hs.map tD)=some (hs.map Kv):=by
 induction hs with
 | nil=>intro _;rfl
 | cons h hs c =>
  intro a
  have b:An3 (Ed 2) (tD h)=some (Kv h):=by unfold An3;rw[(A5z (aq (a h (.head _)) (by decide)))];rfl
  show (An3 _ _).bind _=_
  grind
theorem A4w {hs:m8}(H:HK hs):∃out:m8,((∀a∈out,a∈hs)/\out.length=hs.length)/\A3i (hs.map tD) (hs.map Kv)=some (out.map tD):=by
 have l:=H.len;unfold A3i;rw[ao]
 by_cases h2:hs.length<2
 ·exact⟨hs,⟨λ_ z=>z,rfl⟩,if_pos h2⟩
 ·have kd:kdOf (hs.map Kv)=.ti:=by
   cases hs with
   | nil=>exact absurd (by decide) h2
   | cons h hs=>rfl
  have eb:(decide (hs.length<64)&&((hs.map Kv).all (Wa .ti)&&(hs.map Kv).all Bu))=true:=by
   rw[aN (by lia)]
   simp only[j5,cN,List.all_map,aZ]
   exact⟨λv _=>rfl,λh hh=>(Aq2 (λv hv=>G6 ((H.vb h hh).1 v hv)) (aq (H.vb h hh).2 (by decide))).flatB (by decide)⟩
  rw[if_neg h2,kd,if_pos eb]
  obtain⟨p,e,_,q⟩:=PS.Ba3 (n:=hs.length) (B:=A0v .ti (hs.map Kv)) (λi j hi hj=>by
   unfold A0v
   rw[bC (by rw[ao];exact hi),bC (by rw[ao];exact hj),jD,jD]
   exact Bm6 _ _) _ (PS.B0s (by lia))
  rw[e]
  have lt:∀i∈p.toList,i<hs.length:=λi hi=>by simpa using q.mem_iff.mp (j8.mp hi)
  refine⟨p.toList.map λi=>hs.getD i [],⟨λv h=>?_,by rw[ao,fL,q.size_eq];simp⟩,?_⟩
  ·obtain⟨i,hi,rfl⟩:=aL.mp h
   have:=lt i hi;rw[List.getD_eq_getElem?_getD,bC this];exact iD this
  ·rw[fu,dH]
   congr 1
   refine List.map_congr_left λi hi=>?_
   have:=lt i hi
   show (hs.map tD).getD i .none=tD (hs.getD i [])
   simp[this]
theorem A5r {hs:m8}(H:HK hs):∃out:m8,((∀a∈out,a∈hs)/\out.length=hs.length)/\K9 [.im (.tuple (hs.map tD))]=.ret (.ls false (out.map tD)) [.im (.tuple (hs.map tD))]:=by
 obtain⟨out,ho,e⟩:=A4w H
 have ek:=A3x λh hh=>(H.vb h hh).2
 have e2:(Uj (Ed 2) (hs.map tD)).bind (A3i (hs.map tD))=some (out.map tD):=by rw[ek];exact e
 refine⟨out,ho,?_⟩
 wp_walk using K9,Vz,B1h,U.Nz,e2
section
variable {α β:Type}[DecidableEq α]
noncomputable def ins (qs:List α) (q:α):List α:=if q∈qs then qs else qs++[q]
def fs (l:List α):List α:=l.foldl ins []
noncomputable def upF (g:α->β) (q:α) (v:β):α->β:=λx=>if x=q then v else g x
theorem Qo {qs:List α} (h:q∈qs):ins qs q=qs:=if_pos h
theorem Kp {qs:List α} (h:q∉qs):ins qs q=qs++[q]:=if_neg h
theorem Bq2 {qs:List α} : x∈ins qs q↔x∈qs\/x=q:=by
 by_cases h:q∈qs
 ·rw[Qo h]
  grind
 ·rw[Kp h,aY,aK]
theorem Vx {l:List α} : fs (l++[x])=ins (fs l) x:=by unfold fs;grind
theorem Te {P:List α->Prop}(b:P [])(h1:∀l x,P l->P (l++[x]))(l:List α):P l:=by
 rw[<- l.reverse_reverse];generalize l.reverse=m
 induction m with
 | nil=>grind
 | cons x m a=>grind
theorem yH {l:List α} : x∈fs l↔x∈l:=by
 refine Te (P:=λl=>∀{x},x∈fs l↔x∈l) Iff.rfl (λl y a x=>?_) l
 rw[Vx,Bq2,a,aY,aK]
theorem Ba9 (l:List α):(fs l).Nodup:=by
 refine Te (P:=λl=>(fs l).Nodup) cX (λl y a=>?_) l
 rw[Vx]
 by_cases h:y∈fs l
 ·rw[Qo h];grind
 ·rw[Kp h]
  grind
theorem Np (l:List α):(fs l).length<=l.length:=by
 refine Te (P:=λl=>(fs l).length<=l.length) (au _) (λl y a=>?_) l
 rw[Vx]
 by_cases h:y∈fs l
 ·rw[Qo h,aM];lia
 ·rw[Kp h];grind
theorem Y6 {l:List α} (h:l[k]?=some x):fs (l.take (k+1))=ins (fs (l.take k)) x:=by
 rw[List.take_succ,h];exact Vx
theorem Ay5 {g:α->β} : upF g q v q=v:=if_pos rfl
theorem Ar2 {g:α->β} (h:x≠q):upF g q v x=g x:=if_neg h
theorem Nb {g:α->β} {qs:List α}(h:q∉qs):qs.map (upF g q v)=qs.map g:=List.map_congr_left λx a=>Ar2 λe=>h (e▸a)
theorem Sh {g:α->β}{q:α}{v:β}:∀{qs:List α},qs.Nodup->q∈qs->(qs.map g).set (fnd q qs) v=qs.map (upF g q v)
 | x::qs,nd,h=>by
  obtain⟨n1,n2⟩:=bR.mp nd;unfold fnd
  by_cases e:x=q
  ·rw[if_pos e,aJ,List.set_cons_zero,aJ,Nb (e▸n1),e,Ay5]
  ·rw[if_neg e,aJ,List.set_cons_succ,aJ,Ar2 e,Sh n2 ((aD.mp h).resolve_left λz=>e z.symm)]
variable {key:α->t_}(he:∀a b,PyData.eqv (key a) (key b)=decide (a=b))
include he
theorem Aj9 {q:α}:∀{qs:List α},q∈qs->M4 (key q) (qs.map key)=some (fnd q qs)
 | x::qs,h=>by
  rw[aJ];unfold M4 fnd;rw[he]
  by_cases e:x=q
  ·rw[aN e,if_pos rfl,if_pos e]
  ·rw[aV e,if_neg (by decide),if_neg e,Aj9 ((aD.mp h).resolve_left λz=>e z.symm)];rfl
theorem Aa6 {q:α}:∀{qs:List α},q∉qs->M4 (key q) (qs.map key)=none
 | [],_=>rfl
 | x::qs,h=>by
  have e:x≠q:=λz=>h (z▸a_)
  rw[aJ];unfold M4
  rw[he,aV e,if_neg (by decide),Aa6 λz=>h (bw _ z)];rfl
theorem Av7 (a:qs.Nodup):Ac9 (qs.map key) (qs.map g) (key q) x=((ins qs q).map key,(ins qs q).map (upF g q (.d x))):=by
 unfold Ac9
 by_cases h:q∈qs
 ·simp only[Aj9 he h];rw[Qo h,Sh a h]
 ·simp only[Aa6 he h];rw[Kp h,cj,cj,aJ,fW,aJ,fW,Nb h,Ay5]
theorem Bq1 (c:qs.Nodup) (d:q∉qs->g q=[]) :
 B5q ((Py (qs.map key) (qs.map λa=>DE.l (g a)) (key q)).2.1[(Py (qs.map key) (qs.map λa=>DE.l (g a)) (key q)).2.2]?)=some (g q) /\
 (Py (qs.map key) (qs.map λa=>DE.l (g a)) (key q)).1=(ins qs q).map key /\
 (Py (qs.map key) (qs.map λa=>DE.l (g a)) (key q)).2.1.set (Py (qs.map key) (qs.map λa=>DE.l (g a)) (key q)).2.2 (.l (g q++[x]))=(ins qs q).map λa=>DE.l (upF g q (g q++[x]) a):=by
 have b:(λa=>DE.l (upF g q (g q++[x]) a))=upF _ q _:=funext λa=>by unfold upF;split <;> rfl
 unfold Py
 by_cases h:q∈qs
 ·simp only[Aj9 he h]
  refine⟨?_,by rw[Qo h],by rw[Qo h,b,Sh c h]⟩
  rw[bV,J7 h];rfl
 ·simp only[Aa6 he h]
  refine⟨?_,by rw[Kp h,cj];rfl,?_⟩
  ·rw[dz (by simp),ao,ao,dq,d h];rfl
  ·rw[Kp h,b,cj,Nb h,aJ,Ay5,List.set_append_right _ _ (by simp),ao,ao,dq];rfl
theorem Ac2 {g:α->t_}{q:α}:∀{qs:List α},M5 (qs.map key) (qs.map g) (key q)=if q∈qs then some (g q) else none
 | []=>rfl
 | x::qs=>by
  rw[aJ,aJ];unfold M5;rw[he]
  by_cases e:x=q
  ·rw[aN e,if_pos rfl,if_pos (by rw[e];exact a_),e]
  ·rw[aV e,if_neg (by decide),Ac2]
   have:q∈x::qs↔q∈qs:=by rw[aD];exact⟨λz=>z.resolve_left λz=>e z.symm,.inr⟩
   by_cases m:q∈qs
   ·rw[if_pos m,if_pos (this.mpr m)]
   ·rw[if_neg m,if_neg λz=>m (this.mp z)]
omit he
theorem Xc {g:α->t_}:∀{qs:List α},Hj (qs.map key) (qs.map g)=qs.map λa=>.tuple [key a,g a]
 | []=>rfl
 | x::qs=>by rw[aJ,aJ,Hj,Xc];rfl
noncomputable def nmK (l:List α) (k:Nat) (q:α):w5:=((List.range k).filter λi=>decide (l[i]?=some q)).map λi=>PyData.int (i:Nat)
theorem A5b {l:List α} (h:l[k]?=some x):nmK l (k+1)=upF (nmK l k) x (nmK l k x++[.int (k:Nat)]):=funext λq=>by
 have e:nmK l (k+1) q=nmK l k q++if l[k]?=some q then [.int (k:Nat)] else []:=by
  unfold nmK;rw[List.range_succ,jJ,cj]
  grind
 rw[e]
 by_cases z:q=x
 ·subst z;rw[if_pos h,Ay5]
 ·rw[if_neg λy=>z (cz (y.symm.trans h)),cG,Ar2 z]
theorem Be7 {l:List α} (h:q∉l.take k):nmK l k q=[]:=by
 unfold nmK;rw[List.filter_eq_nil_iff.mpr,fW];intro i a e
 exact h (bf (i:=i) (by grind))
theorem Br1 (l:List α)(k:Nat)(q:α):(nmK l k q).length<=k:=by
 unfold nmK
 grind
end
theorem Mu {d:Nat}{g:o7}{F:BF}{P:Nat->Ev->w5->List DE->Prop}:∀{items:w5}{n:Nat}{c:Ev}{ks:w5}{es:List DE},P n c ks es ->
 (∀k x c ks es,items[k]?=some x->P (n+k) c ks es->∃c1 c' ks' es',g (.o (.im x)) c=.ok () c1/\Cd d c1=true/\F c1 ks es=.nx c' ks' es'/\P (n+k+1) c' ks' es')->∃c' ks' es',Ud (d:=d) g F items c ks es=.nx c' ks' es'/\P (n+items.length) c' ks' es'
 | [],n,c,ks,es,h0,_=>⟨c,ks,es,rfl,h0⟩
 | x::xs,n,c,ks,es,h0,hs=>by
  obtain⟨c1,c2,ks2,es2,e1,e2,e3,h1⟩:=hs 0 x c ks es rfl h0
  obtain⟨c3,ks3,es3,e4,h2⟩:=Mu (d:=d) (g:=g) (F:=F) (P:=P) (items:=xs) (n:=n+1) h1 (λk d c ks es hk hp=>by
   have:=hs (k+1) d c ks es (by simpa using hk) (by rw[show n+(k+1)=n+1+k by lia];exact hp)
   rw[show n+(k+1)+1=n+1+k+1 by lia]at this
   exact this)
  refine⟨c3,ks3,es3,?_,by rw[aR,show n+(xs.length+1)=n+1+xs.length by lia];exact h2⟩
  show (g (.o (.im x)) c).toB _=_
  rw[e1]
  show (if Cd d c1=true then _ else _)=_
  rw[if_pos e2,e3];exact e4
theorem X5 (h1:fi c=.ok ds c1) (h2:Cd d c1=true):A1b (d:=d) fi g F c ks es=Ud (d:=d) g F ds c1 ks es:=by
 unfold A1b;rw[h1]
 show (if Cd d _=true then _ else _)=_
 grind
theorem Qc (h1:Cd d (c.set d none)=true) (h2:F (c.set d none) [] []=.nx c' ks es):Nf d F g c=g (c'.set d (some (.ty (.ds ks (es.map DE.dat))))):=by
 unfold Nf
 grind
theorem Yi:∀vs:m9,Ew (vs.map Vl.d)=true
 | []=>rfl
 | v::vs=>by
  rw[aJ,Ew,Yi vs]
  cases v <;> rfl
theorem A8e (vs:m9):keyB (tD vs)=true:=Yi _
theorem Z7:∀vs:m9,PyData.depthAll (vs.map Vl.d)=0
 | []=>rfl
 | v::vs=>by
  show max v.d.depth (PyData.depthAll (vs.map Vl.d))=0
  rw[Z7 vs]
  cases v <;> rfl
theorem Am6 (h:VBs vs):PyData.canLayAll0 (vs.map Vl.d)=true:=Mx λd a=>by
 obtain⟨v,b,rfl⟩:=aL.mp a;exact(G6 (h v b)).lay
theorem B0k (h:VBs vs):G9 (tD vs)=true:=by
 show (Ew _&&PyData.canLayAll0 _&&decide _)=true
 rw[Yi,Am6 h,Z7];rfl
abbrev PH:=List Vl×m9
def kD (q:PH):t_:=.tuple [tD q.1,tD q.2]
theorem A7u (a b:PH):PyData.eqv (kD a) (kD b)=decide (a=b):=by
 show (PyData.eqv _ _&&(PyData.eqv _ _&&true))=_
 rw[Xo,Xo]
 grind
theorem Aa4 (h1:VBs q.1) (h2:VBs q.2):G9 (kD q)=true:=by
 show (Ew _&&PyData.canLayAll0 _&&decide _)=true
 have e1:Ew [tD q.1,tD q.2]=true:=by
  show (keyB _&&(keyB _&&true))=true
  rw[A8e,A8e];rfl
 have e2:PyData.canLayAll0 [tD _,tD _]=true:=Mx λd a=>by
  simp at a
  rcases a with rfl | rfl
  ·exact Am6 h1
  ·exact Am6 h2
 have e3:PyData.depthAll [tD q.1,tD q.2]=1:=by
  show max (PyData.depthAll _+1) (max (PyData.depthAll _+1) 0)=1
  rw[Z7,Z7];rfl
 grind
theorem Au1:∀{cols:v4}{i:Nat}{x:Str},cols.Nodup->cols[i]?=some x->Wc x cols=some i
 | [],i,x,_,h=>by simp at h
 | y::r,0,x,_,h=>by
  have e:y=x:=by simpa using h
  unfold Wc;rw[if_pos (by simpa using e)]
 | y::r,i+1,x,nd,h=>by
  have h':r[i]?=some x:=by simpa using h
  obtain⟨n1,n2⟩:=bR.mp nd
  have ne:¬ y=x:=λe=>n1 (by rw[e];exact bf h')
  unfold Wc;rw[if_neg (by simpa using ne),Au1 n2 h'];rfl
theorem Ac5:∀x∈names12,(PyData.str x).canLay0=true:=λx a=>aZ.mp (show names12.all (λx=>(PyData.str x).canLay0)=true by decide +kernel) x a
theorem Ha:∀ss:v4,strsOf (ss.map PyData.str)=some ss
 | []=>rfl
 | x::ss=>by show (strsOf (ss.map PyData.str)).map (x::·)=_;rw[Ha ss];rfl
theorem Bm0 {cols:v4}(hx:x∈cols) (hs:∀y∈cols,y∈names12):Rv true (.str x) (.tuple (cols.map PyData.str))=sI (.bool false):=by
 show (if Bu _&&PyData.canLayAll0 _ then some _ else none)=_
 have a:Bu (.str x)=true:=by unfold Bu;rw[Ac5 x (hs x hx)];rfl
 rw[a,Mx λd b=>by obtain⟨u,c,rfl⟩:=aL.mp b;exact Ac5 u (hs u c),List.any_eq_true.mpr ⟨.str x,aL.mpr ⟨x,hx,rfl⟩,by rw[Au8];simp⟩]
 rfl
theorem Tn {cols:v4}{i:Nat}(a:cols.Nodup) (h:cols[i]?=some x):J0 (.tuple (cols.map PyData.str)) (.str x)=sI (.int i):=by
 show (strsOf _).bind _=_
 rw[Ha,fX,Au1 a h];rfl
noncomputable def sqD (b:Bool) (l:w5):t_:=if b then .tuple l else .list l
theorem Bi3 (h:c[i]?=some (sI (sqD b l))):Ce (Ab i) c=.ok l c:=by
 unfold Ce Ab;simp only[h]
 cases b <;> rfl
theorem R.toB_ok {a:b} {k:b->Ev->BR}:(U.R.ok a c).toB k=k a c:=rfl
def vAt (cols:v4)(r:m9)(x:Str):Vl:=r.getD (fnd x cols) .non
def pick (cols:v4)(r:m9)(ns:v4):m9:=ns.map (vAt cols r)
theorem O6 (h:VBs r):VBs (pick cols r ns):=λv a=>by
 obtain⟨x,_,rfl⟩:=aL.mp a;unfold vAt;rw[List.getD_eq_getElem?_getD]
 cases e:r[fnd x _]? with
 | none=>rfl
 | some v=>grind
theorem A6f (hx:x∈cols) (hr:r.length=cols.length):Ai (tD r) (.int (fnd x cols:Nat))=sI (vAt cols r x).d:=by
 have l:=Ao7 hx
 have e:(r.map Vl.d)[fnd x cols]?=some (vAt cols r x).d:=by
  unfold vAt
  grind
 show (atI _ _).map _=_
 rw[Dt e];rfl
theorem Bc5 (ht:Tb.Ok t) (hx:x∈t.cols):Ft [.im t.d,.im (.str x)]=.ret (.im (.int (fnd x t.cols:Nat))) [.im t.d,.im (.str x)]:=by
 wp_walk using Ft,Mf,Tb.d,Ai,Bm0 hx ht.nms.sub,cMt,Kg,Tn ht.nms.nd (J7 hx)
abbrev Jv (cols ns:v4):w5:=ns.map λx=>PyData.int (fnd x cols:Nat)
theorem Q7 (ht:Tb.Ok t) (hn:∀x∈ns,x∈t.cols) (hl:ns.length<=12):Dd [.im t.d,.im (sqD b (ns.map PyData.str))]=.ret (.ls false (Jv t.cols ns)) [.im t.d,.im (sqD b (ns.map PyData.str))]:=by
 obtain⟨cI,e,u,rfl⟩:=En (g:=cgN 0) (ft:=Bq) (fe:=cF Ft (Aa (Ab 1) (Aa (Ab 0) Al))) (I:=λc=>∃u,c=[u,sI t.d]) (f:=PyData.str) (G:=λx=>PyData.int (fnd x t.cols)) ⟨none,rfl⟩
  (λx c d h=>by
   obtain⟨u,rfl⟩:=h
   refine⟨[sI (.str x),some _],?_,_,rfl⟩
   wp_walk using Bc5 ht (hn x d))
 have a:cLC [none,some 0] (Ce (Ab 1)) _ _ _ [sI _,sI (sqD b (ns.map _))]=.ok _ _ :=
  Gb (Bi3 rfl) (by grind) (by trivial) rfl
 wp_walk using Dd,Ko,a
theorem Qm (hn:∀x∈ns,x∈cols) (hr:r.length=cols.length) (hl:ns.length<=12):Br [.im (tD r),.im (.list (Jv cols ns))]=.ret (.im (tD (pick cols r ns))) [.im (tD r),.im (.list (Jv cols ns))]:=by
 obtain⟨cI,e,u,rfl⟩:=En (g:=cgN 0) (ft:=Bq) (fe:=cOp Ai (Ab 1) (Ab 0)) (I:=λc=>∃u,c=[u,sI (tD r)]) (f:=λx=>PyData.int (fnd x cols)) (G:=λx=>(vAt cols r x).d) ⟨none,rfl⟩
  (λx c b d=>by
   obtain⟨u,rfl⟩:=d
   refine⟨[sI (.int (fnd x cols)),some _],?_,_,rfl⟩
   wp_walk using A6f (hn x b) hr)
 have h:cLC [none,some 0] (Ce (Ab 1)) _ _ _ [sI _,sI (.list (Jv _ ns))]=.ok _ _ :=
  Gb (by rfl) (by grind) (by assumption) rfl
 have a:PyData.tuple (ns.map λx=>(vAt cols r x).d)=tD (pick cols r ns):=by unfold tD pick;rw[dH];rfl
 wp_walk using Br,J6,h,By,a
section
variable {α:Type}[DecidableEq α]{key:α->t_}(he:∀a b,PyData.eqv (key a) (key b)=decide (a=b)){d:Nat}{c:Ev}{qs:List α}{q:α}
include he
theorem A6q (h1:fv (qs.map key) (qs.map g) c=.ok (.o (.im x)) c) (h2:fk c=.ok (.o (.im (key q))) c) (a:qs.Nodup) (hk:G9 (key q)=true) (hl:qs.length<=1000) (hn:Cd d c=true) :
 Ak5 (d:=d) fk fv c (qs.map key) (qs.map g)=.nx c ((ins qs q).map key) ((ins qs q).map (upF g q (.d x))):=by
 unfold Ak5;simp only[h1,R.toB_ok,nrm,frz,h2,Cq,rdP,fX,O.dat]
 rw[if_pos (by grind),Av7 he a]
theorem A4c (h1:fk c=.ok (.o (.im (key q))) c) (h2:fv c=.ok (.o (.im x)) c) (e:qs.Nodup) (hk:G9 (key q)=true) (hl:qs.length<=1000) (hg:(g q).length<=1000) (b:q∉qs->g q=[]) (hn:Cd d c=true) :
 A6g (d:=d) fk fv c (qs.map key) (qs.map λa=>.l (g a))=.nx c ((ins qs q).map key) ((ins qs q).map λa=>.l (upF g q (g q++[x]) a)):=by
 obtain⟨h,i,f⟩:=Bq1 (x:=x) he e b;unfold A6g;simp only[h1,R.toB_ok,nrm,Cq,rdP,fX,O.dat];simp only[h2,R.toB_ok,frz]
 grind
end
theorem Au6 [DecidableEq a] {g:a->b}{q:a}:upF g q (g q)=g:=funext λx=>by
 unfold upF
 grind
theorem A7i {b:Type}{f:b->t_}{xs:List b}{k:Nat} (h:(M7 (xs.map f))[k]?=some x):∃a,xs[k]?=some a/\x=.tuple [.int (k:Nat),f a]:=by
 unfold M7 at h
 grind
def prs (t:Tb)(ks ns:v4):List PH:=t.rows.map λr=>(pick t.cols r ks,pick t.cols r ns)
structure Cs (t:Tb) (ns:v4):Prop where
 sub:∀x∈ns,x∈t.cols
 len:ns.length<=12
theorem B1d (ht:Tb.Ok t) (h:q∈prs t ks ns):VBs q.1/\VBs q.2:=by
 obtain⟨r,a,rfl⟩:=aL.mp h;exact⟨O6 (ht.rows r a).2,O6 (ht.rows r a).2⟩
theorem Zt (ht:Tb.Ok t) : (prs t ks ns).length<=24:=by unfold prs;rw[ao];exact ht.rlen
abbrev grD (l:List PH):O:=.ty (.ds ((fs l).map kD) ((fs l).map λq=>PyData.list (nmK l l.length q)))
theorem Nt [DecidableEq a] {l:List a} (h:l.length<=n):(fs (l.take k)).length<=n:=aq (Np _) (aq (by grind) h)
abbrev rev (t:Tb)(x y:t_)(rest:m5):Ev:=sI t.d::some (.im x)::some (.im y)::rest
theorem Av9 (ht:Tb.Ok t) (hk:Cs t ks) (hn:Cs t ns) :
 Dp [.im t.d,.im (sqD a (ks.map PyData.str)),.im (sqD b (ns.map PyData.str))]=.ret (grD (prs t ks ns)) [.im t.d,.im (sqD a (ks.map PyData.str)),.im (sqD b (ns.map PyData.str))]:=by
 have X:=Q7 ht (b:=a) hk.sub hk.len;have W:=Q7 ht (b:=b) hn.sub hn.len;have S:=Zt ht (ks:=ks) (ns:=ns)
 have v:(prs t ks ns).length=t.rows.length:=by unfold prs;rw[ao]
 have i:∀{k:Nat} {r:m9},t.rows[k]?=some r->(prs t ks ns)[k]?=some (pick t.cols r ks,pick t.cols r ns):=λ{k r} m=>by unfold prs;rw[bV,m];rfl
 generalize sqD a (ks.map PyData.str)=x at *
 generalize sqD b (ns.map PyData.str)=y at *
 generalize prs t ks ns=l at *
 obtain⟨c',K,N,D,e,f,s,u,j,rfl,_,_,rfl,rfl⟩:=Mu (d:=5) (g:=cgT 2 (Do (cgN 6) (Do (cgN 7) Lw))) (F:=Ds) (items:=M7 (t.rows.map tD)) (n:=0) (ks:=[]) (es:=[])
  (c:=rev t x y [sFa (Jv t.cols ks),sFa (Jv t.cols ns),none,none,none,none])
  (P:=λk c C E=>∃e f s u j,c=rev t x y [some e,some f,none,s,u,j]/\A0b e (Jv t.cols ks)/\A0b f (Jv t.cols ns) /\
   C=(fs (l.take k)).map kD/\E=(fs (l.take k)).map λq=>DE.l (nmK l k q)) ⟨_,_,none,none,none,rfl,.inl rfl,.inl rfl,rfl,rfl⟩
  (λk z c C E J G=>by
   rw[bh]at G ⊢;obtain⟨e,f,s,u,j,rfl,L,M,rfl,rfl⟩:=G;obtain⟨r,m,rfl⟩:=A7i J;have o:=ht.rows r (bf m);have i:=i m;have O:=Qm (r:=r) hk.sub o.1 hk.len;have Q:=Qm (r:=r) hn.sub o.1 hn.len;have I:VBs (pick t.cols r ks):=O6 o.2;have T:VBs (pick t.cols r ns):=O6 o.2
   generalize pick t.cols r ks=p at *
   generalize pick t.cols r ns=h at *
   have U:∀A w,Bk7 (d:=5) (Ej (Aa (cF Br (Aa (Ab 7) (Aa (cFz (Ab 3)) Al))) (Aa (cF Br (Aa (Ab 7) (Aa (cFz (Ab 4)) Al))) Al))) (cgN 8) (rev t x y [some e,some f,none,sI (.int (k:Nat)),sI (tD r),j]) A w =
    .nx (rev t x y [sI (.list (Jv t.cols ks)),sI (.list (Jv t.cols ns)),none,sI (.int (k:Nat)),sI (tD r),sI (kD (p,h))]) A w:=λA w=>by
    rcases L with rfl | rfl <;> rcases M with rfl | rfl <;> wp_walk using rev,Bk7,R.toB_ok,O,Q,Cd,kD
   refine⟨rev t x y [some e,some f,none,sI (.int (k:Nat)),sI (tD r),j],rev t x y [sI (.list (Jv t.cols ks)),sI (.list (Jv t.cols ns)),none,sI (.int (k:Nat)),sI (tD r),sI (kD (p,h))],_,_,(by wp_walk using rev),rfl,?_,_,_,_,_,_,rfl,.inr rfl,.inr rfl,rfl,rfl⟩
   unfold Ds Bg0;rw[U]
   show A6g (d:=5) (Ab 8) (Ab 6) _ _ _=_
   rw[A4c (x:=.int (k:Nat)) (q:=(p,h)) A7u (by wp_walk using cT) (by wp_walk using cT) (Ba9 _) (Aa4 I T) (Nt (aq S (by decide))) (aq (Br1 _ _ _) (by have:=(bH.mp i).1;lia)) (λz=>Be7 λy=>z (yH.mpr y)) rfl]
   rw[<- Y6 i,<- A5b i])
 have V:(M7 (t.rows.map tD)).length=t.rows.length:=by unfold M7;rw[ao,List.length_range,ao]
 rw[V,bh,<- v,gK]at D
 have B:=Qc (d:=5) (g:=Cg (Ab 5)) (c:=rev t x y [sFa (Jv t.cols ks),sFa (Jv t.cols ns),none,none,none,none]) rfl ((X5 (fi:=Av2 (cOp Ai (Ab 0) (cC (.int 1)))) (by wp_walk using rev,Av2,Ai,Tb.d,Nz) rfl).trans D)
 rw[dH]at B
 have H:(DE.dat ∘ λq=>DE.l (nmK l l.length q))=λq=>PyData.list _:=rfl
 rw[H]at B
 wp_walk using Dp,Gn,X,W,B
noncomputable def nD (ns:v4):t_:=.tuple (ns.map PyData.str)
theorem Af5 {α β:Type}(f:α->t_)(g:β->t_):∀(as:List α) (bs:List β),Vv (as.map f) (bs.map g)=(as.zip bs).map λq=>.tuple [f q.1,g q.2]
 | [],bs=>by simp[Vv]
 | a::as,[]=>by simp[Vv]
 | a::as,b::bs=>by
  have:=Af5 f g as bs;unfold Vv at this ⊢;rw[aJ,aJ,bM,aJ,this,bM,aJ]
theorem Ae1 (hv:∀x∈l,VBs x) (hl:l.length<=100):Dj [.im (.list (l.map tD))]=.ret (.im (.tuple ((fs l).map tD))) [.im (.list (l.map tD))]:=by
 obtain⟨c',j,o,b,u,rfl,rfl,rfl⟩:=Mu (d:=1) (g:=cgN 2) (F:=Ff) (items:=l.map tD) (n:=0) (ks:=[]) (es:=[]) (c:=[sI (.list (l.map tD)),none,none])
  (P:=λk c e a=>∃u,c=[sI (.list (l.map tD)),none,u]/\e=(fs (l.take k)).map tD/\a=(fs (l.take k)).map λ_=>DE.d (.bool true)) ⟨none,rfl,rfl,rfl⟩
  (λk x c e a m f=>by
   rw[bh]at f ⊢;obtain⟨u,rfl,rfl,rfl⟩:=f;obtain⟨r,h,rfl⟩:=Ia m
   refine⟨[sI (.list (l.map tD)),none,sI (tD r)],[sI (.list (l.map tD)),none,sI (tD r)],_,_,(by rfl),rfl,?_,_,rfl,rfl,rfl⟩
   have:=A6q (d:=1) (c:=[sI (.list (l.map tD)),none,sI (tD r)]) (fk:=Ab 2) (fv:=λ_ _=>cC (.bool true)) (g:=λ_=>DE.d (.bool true)) (q:=r) (x:=.bool true) Xo (by trivial) (by trivial) (Ba9 (l.take k)) (B0k (hv r (bf h))) (Nt (aq hl (by decide))) rfl
   rw[Au6 ,<- Y6 h]at this
   trivial)
 rw[ao,bh,gK]at b
 have p:=X5 (d:=1) (fi:=Ce (Ab 0)) (g:=cgN 2) (F:=Ff) (ds:=l.map tD) (ks:=[]) (es:=[]) (c:=[sI (.list _),none,none]) (by rfl) rfl
 wp_walk using Dj,Jd,(Qc (d:=1) (g:=Cg (Ay9 (Ab 1))) (c:=[some _,none,none]) rfl (p.trans b)),Ay9
theorem Au2 {qs:List PH} {rest:m5}{sel:n6} (hs:∀q:PH,sel [sI (tD q.1),sI (tD q.2)]=.ok (.o (.im (tD (f q)))) [sI (tD q.1),sI (tD q.2)]) (hl:qs.length<=100) :
 cLC [none,none] (Zc (Ab 0)) (cgT 2 (Do (cgN 0) (Do (cgN 1) Lw))) Bq sel (some (.ty (.ds (qs.map kD) ds))::rest)=.ok (.o (.ls false ((qs.map f).map tD))) (some (.ty (.ds (qs.map kD) ds))::rest):=by
 obtain⟨cI,e,u,v,rfl⟩:=En (g:=cgT 2 (Do (cgN 0) (Do (cgN 1) Lw))) (ft:=Bq) (fe:=sel) (I:=λc=>∃u v,c=[u,v]) (f:=kD) (G:=λq=>tD (f q)) ⟨none,none,rfl⟩
  λq c hx a=>by
   obtain⟨u,v,rfl⟩:=a
   refine⟨[sI (tD q.1),sI (tD q.2)],?_,_,_,rfl⟩
   unfold kD
   wp_walk using hs q
 refine Gb (by rfl) (by grind) (by rw[dH];exact e) rfl
theorem A8u {qs:List PH} (hv:∀q∈qs,VBs q.1/\VBs q.2) (hl:qs.length<=100):Fb [.ty (.ds (qs.map kD) ds)]=.ret (.im (.tuple ((fs (qs.map (·.1))).map tD))) [.ty (.ds (qs.map kD) ds)]:=by
 have a:=Au2 (ds:=ds) (rest:=[]) (sel:=Ab 0) λq=>by trivial hl
 have b:=Ae1 (λx c=>by obtain⟨q,d,rfl⟩:=aL.mp c;exact(hv q d).1) (by simp_all)
 wp_walk using Fb,Jf,a,b
noncomputable def Rx (b:Bool):Str:=if b then "rising" else "seen"
def Srt (_:Bool)(hs out:m8):Prop:=(∀a∈out,a∈hs)/\out.length=hs.length
theorem Srt.sub {b:Bool}{hs x:m8}(h:Srt b hs x):(∀a∈x,a∈hs)/\x.length=hs.length:=h
theorem A0f (b:Bool):Bk false (.str (Rx b)) (.str "rising")=sI (.bool b):=by
 rw[Vc]
 cases b
 ·rfl
 rfl
theorem A8m {qs:List PH}{ds:w5}{b:Bool}(hv:∀q∈qs,VBs q.1/\VBs q.2)(hl:qs.length<=60)(hw:∀q∈qs,q.2.length<=12):∃out,Srt b (fs (qs.map (·.2))) out /\
 Ea [.ty (.ds (qs.map kD) ds),.im (.str (Rx b))]=.ret (.im (.tuple (out.map tD))) [.ty (.ds (qs.map kD) ds),.im (.str (Rx b))]:=by
 have e1:=Au2 (qs:=qs) (ds:=ds) (rest:=[sI (.str (Rx b)),none]) (sel:=Ab 1) (f:=(·.2)) (λq=>by wp_walk using cT) (aq hl (by decide))
 have e2:=Ae1 (l:=qs.map (·.2)) (λx hx=>by obtain⟨q,hq,rfl⟩:=aL.mp hx;exact(hv q hq).2) (by rw[ao];lia)
 have e3:=A0f b
 have H:HK (fs (qs.map (·.2))):=⟨λh hh=>by
  obtain⟨q,hq,rfl⟩:=aL.mp (yH.mp hh)
  exact⟨(hv q hq).2,hw q hq⟩,aq (Np _) (by rw[ao];exact hl)⟩
 cases b with
 | false =>
  refine⟨_,⟨λ_ z=>z,rfl⟩,?_⟩
  wp_walk using Ea,G7,e1,e2,e3
 | true =>
  obtain⟨out,p1,e4⟩:=A5r H
  refine⟨out,p1,?_⟩
  wp_walk using Ea,G7,e1,e2,e3,e4,By
theorem B0e {qs:List PH} (hv:∀q∈qs,VBs q.1/\VBs q.2) (hp:VBs p) (d:VBs h) (ha:fa c=.ok (.o (.ty (.ds (qs.map kD) (qs.map g)))) c) (hw:fw c=.ok (.o (.im (kD (p,h)))) c) (hx:fx c=.ok (.o (.im x)) c) :
 Qg fa fw fx c=.ok (.o (.im (if (p,h)∈qs then g (p,h) else x))) c:=by
 unfold Qg;simp only[ha,R.bind_ok,hw,hx,nrm,frz,Cq,rdP,fX,O.dat]
 rw[if_pos (by
  rw[Aa4 hp d,j5,aZ];intro k b;obtain⟨q,a,rfl⟩:=aL.mp b
  exact Aa4 (hv q a).1 (hv q a).2),Ac2 A7u]
 grind
abbrev Ab9 (qs:List PH) (g:PH->t_) (x:t_) (hs:m8) (p:m9):t_:=.tuple (hs.map λh=>if (p,h)∈qs then g (p,h) else x)
theorem Bm3 (hv:∀q∈qs,VBs q.1/\VBs q.2) (hp:VBs p) (d:∀h∈hs,VBs h) (hl:hs.length<=100) :
 Em [.im (tD p),.im (.tuple (hs.map tD)),.ty (.ds (qs.map kD) (qs.map g)),.im x]=.ret (.im (Ab9 qs g x hs p)) [.im (tD p),.im (.tuple (hs.map tD)),.ty (.ds (qs.map kD) (qs.map g)),.im x]:=by
 obtain⟨cI,e,u,rfl⟩:=En (g:=cgN 0) (ft:=Bq) (fe:=Qg (Ab 2) (Ej (Aa (Ab 3) (Aa (Ab 0) Al))) (Ab 1)) (I:=λc=>∃u,c=[u,sI x,some (.ty (.ds (qs.map kD) (qs.map g))),sI (tD p)]) (f:=tD) (G:=λh=>if (p,h)∈qs then g (p,h) else x) (xs:=hs) (acc:=[]) (c:=[none,sI x,some (.ty (.ds (qs.map kD) (qs.map g))),sI (tD p)]) ⟨none,rfl⟩
  (λh c b i=>by
   obtain⟨u,rfl⟩:=i
   refine⟨[sI (tD h),sI x,some (.ty (.ds (qs.map kD) (qs.map g))),sI (tD p)],?_,_,rfl⟩
   have e:=B0e (x:=x) (g:=g) hv hp (d h b) (c:=[sI (tD h),sI x,some (.ty (.ds (qs.map kD) (qs.map g))),sI (tD p)]) (fa:=Ab 2) (fw:=Ej (Aa (Ab 3) (Aa (Ab 0) Al))) (fx:=Ab 1) (by rfl) (by rfl) (by rfl)
   unfold Ut
   rw[show cgN 0 (.o (.im (tD h))) [u,sI x,some (.ty (.ds (qs.map kD) (qs.map g))),sI (tD p)]=.ok () [sI (tD h),sI x,some (.ty (.ds (qs.map kD) (qs.map g))),sI (tD p)] from rfl]
   show ((Qg _ _ _ _).bind _)=_
   rw[e];rfl)
 have a:cLC [none,some 3,some 2,some 0] (Ce (Ab 1)) (cgN 0) Bq _ [sI _,sI (.tuple (hs.map _)),some (.ty _),sI x]=.ok _ _ :=
  Gb (by rfl) (by grind) ((e)) rfl
 wp_walk using Em,Lq,a,By
theorem Br4 {ps hs:m8}(hv:∀q∈qs,VBs q.1/\VBs q.2) (hp:∀p∈ps,VBs p) (i:∀h∈hs,VBs h) (hl:hs.length<=100) (b:ps.length<=100) :
 Hg [.im (.tuple (ps.map tD)),.im (.tuple (hs.map tD)),.ty (.ds (qs.map kD) (qs.map g)),.im x]=.ret (.im (.tuple (ps.map (Ab9 qs g x hs)))) [.im (.tuple (ps.map tD)),.im (.tuple (hs.map tD)),.ty (.ds (qs.map kD) (qs.map g)),.im x]:=by
 obtain⟨cI,e,u,rfl⟩:=En (g:=cgN 0) (ft:=Bq) (fe:=cF Em (Aa (Ab 0) (Aa (Ab 1) (Aa (Ab 2) (Aa (Ab 3) Al))))) (I:=λc=>∃u,c=[u,sI (.tuple (hs.map tD)),some (.ty (.ds (qs.map kD) (qs.map g))),sI x]) (f:=tD) (G:=Ab9 qs g x hs) (xs:=ps) (acc:=[]) (c:=[none,sI (.tuple (hs.map tD)),some (.ty (.ds (qs.map kD) (qs.map g))),sI x]) ⟨none,rfl⟩
  (λp c d j=>by
   obtain⟨u,rfl⟩:=j
   refine⟨[sI (tD p),sI (.tuple (hs.map tD)),some (.ty (.ds (qs.map kD) (qs.map g))),sI x],?_,_,rfl⟩
   wp_walk using Bm3 (g:=g) (x:=x) hv (hp p d) i hl)
 have a:cLC [none,some 1,some 2,some 3] (Ce (Ab 0)) (cgN 0) Bq (cF Em (Aa (Ab 0) (Aa (Ab 1) (Aa (Ab 2) (Aa (Ab 3) Al))))) [sI (.tuple (ps.map tD)),sI (.tuple (hs.map tD)),some (.ty (.ds (qs.map kD) (qs.map g))),sI x]=.ok (.o (.ls _ _)) _ :=
  Gb (by trivial) (by grind) ((e)) rfl
 wp_walk using Hg,Lk,a,By
theorem B5u {x:Str}:∀{ns:v4},ns.Nodup->x∈ns->ns.countP (λz=>z==x)=1
 | y::ns,nd,h=>by
  obtain⟨n1,n2⟩:=bR.mp nd;rw[jq]
  by_cases e:y=x
  ·have:ns.countP (λz=>z==x)=0:=List.countP_eq_zero.mpr λz hz q=>n1 (by rw[e,<- cQ q];exact hz)
   rw[this,if_pos (by rw[e];exact ie x)]
  ·rw[if_neg (by rw[eU.mpr e];decide),B5u n2 ((aD.mp h).resolve_left λz=>e z.symm)]
theorem Aa1 (h:l.length<=16000000):Le (sqD b l)=sFa l:=by
 cases b <;> simp[sqD,Le]
theorem B0a : Fw [sqD b l]=sI (.int l.length):=by cases b <;> rfl
theorem U9 {p:Nat->Bool}{j:Nat}:∀{n:Nat},(∀i,i<n->(p i=true↔i=j))->(List.range n).filter p=if j<n then [j] else []
 | 0,_=>by simp
 | n+1,h=>by
  rw[List.range_succ,jJ,U9 λi hi=>h i (eX hi)]
  have hn:=h n (dU n)
  by_cases e:n=j
  ·subst e
   rw[if_neg (bj _),if_pos (dU _),List.filter_cons,if_pos (hn.mpr rfl)];rfl
  ·rw[List.filter_cons,if_neg λz=>e (hn.mp z),List.filter_nil,cG]
   by_cases l:j<n
   ·rw[if_pos l,if_pos (eX l)]
   ·rw[if_neg l,if_neg (by lia)]
theorem A4x {a:Type}[DecidableEq a]{l:List a}(c:l.Nodup){q:a}(b:q∈l):nmK l l.length q=[.int (fnd q l:Nat)]:=by
 unfold nmK
 rw[U9 λi _=>⟨λz=>(U8 c (aX z)).symm,λz=>aN (by rw[z];exact J7 b)⟩,if_pos (Ao7 b)];rfl
theorem Bn5 {b:Type}[DecidableEq b]{l:List b}(a:l.Nodup):fs l=l:=by
 refine Te (P:=λl=>l.Nodup->fs l=l) (λ_=>rfl) (λl x d a=>?_) l a
 obtain⟨e,_,c⟩:=dm.mp a
 rw[Vx,d e,Kp λz=>c x z x (by simp) rfl]
theorem A8d {l:List PH}(d:l.Nodup)(hl:l.length<=100):Bw [grD l]=.ret (.im .none):=by
 obtain⟨cI,e,u,rfl⟩:=Ms (g:=cgN 0) (ft:=Bc (cOp Ai9 (Gw (Ab 0)) (cC (.int 1)))) (fe:=Ej (Aa (cOp Ai (Ab 0) (cC (.int 1))) (Aa (cOp Ai (Ab 0) (cC (.int 0))) Al))) (I:=λc=>∃u,c=[u]) (f:=λq=>PyData.list (nmK l l.length q)) (G:=λ_=>none) (xs:=fs l) (acc:=[]) (c:=[none]) ⟨none,rfl⟩
  (λq c h b=>by
   obtain⟨u,rfl⟩:=b;rw[A4x d (yH.mp h)]
   refine⟨[sI (.list [.int (fnd q l:Nat)])],?_,_,rfl⟩
   rfl)
 have i:(fs l).filterMap (λ_=>(none:Option t_))=[]:=by simp
 rw[eG,i]at e
 have j:cLC [none] (Q3 (Ab 0)) _ _ _ [some (grD l),none,none]=.ok _ [some (grD l),none,none] :=
  Gb (by wp_walk using Q3,ao) (by rw[ao];exact aq (Np _) (by lia)) e rfl
 have a:Fw [.list []]=sI (.int 0):=rfl
 wp_walk using Bw,Gr,Jk,Fd,xIf,Kc,Q5,K1,Vy,Pj,Qj,M3,Oq,j,a
theorem Aa9 {α:Type}:∀ps:List α,ps.zip ps=ps.map λp=>(p,p)
 | []=>rfl
 | p::ps=>by rw[bM,aJ,Aa9 ps]
theorem By0 {ps hs:m8}(hv:∀q∈qs,VBs q.1/\VBs q.2) (hp:∀p∈ps,VBs p) (c:∀h∈hs,VBs h) (hl:hs.length<=100) (a:ps.length<=100) :
 Dq [.im (.tuple (ps.map tD)),.im (.tuple (hs.map tD)),.ty (.ds (qs.map kD) (qs.map g))]=.ret (.im (.tuple (ps.map λp=>.tuple [tD p,Ab9 qs g .none hs p]))) [.im (.tuple (ps.map tD)),.im (.tuple (hs.map tD)),.ty (.ds (qs.map kD) (qs.map g))]:=by
 have e:=Br4 (g:=g) (x:=.none) hv hp c hl a
 have d:Vv (ps.map tD) (ps.map (Ab9 qs g .none hs))=ps.map λp=>.tuple [tD p,Ab9 qs g .none hs p]:=by
  rw[Af5,Aa9,dH];rfl
 have b:(ps.map tD).length=(ps.map (Ab9 qs g .none hs)).length:=by grind
 wp_walk using Dq,G3,e,A4y,Nz,b,d
theorem A0p [DecidableEq f] {e:f->t_}(he:∀a b,PyData.eqv (e a) (e b)=decide (a=b)) {qs:List f}{q:f} {g:f->DE} (h1:fv (qs.map e) (qs.map g) c=.ok (.o (.im x)) c1) (h2:fk c1=.ok (.o (.im (e q))) c1) (h:qs.Nodup) (hk:G9 (e q)=true) (hl:qs.length<=1000) (hn:Cd d c1=true) :
 Ak5 (d:=d) fk fv c (qs.map e) (qs.map g)=.nx c1 ((ins qs q).map e) ((ins qs q).map (upF g q (.d x))):=by
 unfold Ak5;simp only[h1,R.toB_ok,nrm,frz,h2,Cq,rdP,fX,O.dat]
 rw[if_pos (by grind),Av7 he h]
def cellOf (t:Tb)(ks ns vs:v4)(q:PH):m9:=pick t.cols (t.rows.getD (fnd q (prs t ks ns)) []) vs
def fdD (t:Tb)(ks ns vs:v4)(hs:m8):t_:=.tuple [nD ks,nD ns,nD vs,.tuple (hs.map tD),.tuple ((fs ((prs t ks ns).map (·.1))).map λp=>.tuple [tD p,Ab9 (prs t ks ns) (λq=>tD (cellOf t ks ns vs q)) .none hs p])]
abbrev fev (t:Tb)(a b c:t_)(r:Bool)(gr:O)(rest:m5):Ev:=sI t.d::some (.im a)::some (.im b)::some (.im c)::some (.im (.str (Rx r)))::some gr::rest
theorem Al9 : By (sqD b (ns.map PyData.str))=sI (nD ns):=by
 cases b <;> simp[sqD,By,nD]
structure Cv (t:Tb) (ks ns vs:v4):Prop where
 pm:(ks++ns++vs).Perm t.cols
 pos:1<=vs.length
theorem Cv.cs (h:Cv t ks ns vs) (ht:Tb.Ok t):Cs t ks/\Cs t ns/\Cs t vs:=by
 have b:=h.pm.length_eq;have c:=ht.clen;rw[aM,aM]at b
 exact⟨⟨λx a=>h.pm.mem_iff.mp (bG _ (bG _ a)),by lia⟩,⟨λx a=>h.pm.mem_iff.mp (bG _ (aF _ a)),by lia⟩,⟨λx a=>h.pm.mem_iff.mp (aF _ a),by lia⟩⟩
theorem Bg5 {t:Tb}{ks ns vs:v4}{k:Nat}{q:PH}(b:(prs t ks ns).Nodup)(a:(prs t ks ns)[k]?=some q):∃r,t.rows[k]?=some r/\cellOf t ks ns vs q=pick t.cols r vs/\q=(pick t.cols r ks,pick t.cols r ns):=by
 have c:=U8 b a;unfold prs at a;unfold cellOf
 grind
noncomputable def Rk {α:Type} [DecidableEq α] (l:List α) (q:α):List Nat:=(List.range l.length).filter λi=>decide (l[i]?=some q)
theorem A8y {a:Type}[DecidableEq a](l:List a)(q:a):nmK l l.length q=(Rk l q).map λi=>PyData.int (i:Nat):=rfl
theorem Av6 {a:Type}[DecidableEq a]{l:List a}{q:a}{i:Nat}(h:i∈Rk l q):i<l.length:=List.mem_range.mp (List.mem_filter.mp h).1
noncomputable def Qp (x:Str) (l:v4):Nat:=l.countP (λz=>z==x)
theorem count_is (x:Str)(l:v4):Jo (.list (l.map PyData.str)) (.str x)=sI (.int (Qp x l:Nat)):=by
 show (strsOf _).map _=_
 rw[Ha];rfl
theorem Xm {α:Type}(p:α->Bool):∀l:List α,boolsOf (l.map λa=>PyData.bool (p a))=some (l.map p)
 | []=>rfl
 | x::l=>by
  show (boolsOf (l.map λa=>PyData.bool (p a))).map (p x::·)=_
  rw[Xm p l];rfl
def okC (cols L:v4):Bool:=decide (L.length=cols.length)&&(cols.map λx=>decide (Qp x L=1)).all id
theorem eqi (c:Bool)(a b:Int):Bk c (.int a) (.int b)=sI (.bool (if c then !decide (a=b) else decide (a=b))):=by
 rfl
theorem Ar7 {cols ks ns vs:v4}{a b c:Bool}(hc:cols.length<=60)(h1:ks.length<=60)(h2:ns.length<=60)(h3:vs.length<=60)(hv:okC cols (ks++ns++vs)=true->1<=vs.length) :
 Bm [.tuple (cols.map PyData.str),sqD a (ks.map PyData.str),sqD b (ns.map PyData.str),sqD c (vs.map PyData.str)]=if okC cols (ks++ns++vs)=true then .ret (.im .none) else .ex ⟨Str.ofString "BadColumns",none⟩:=by
 have n:=Aa1 (b:=a) (l:=ks.map PyData.str) (by rw[ao];lia)
 have w:=Aa1 (b:=b) (l:=ns.map PyData.str) (by rw[ao];lia)
 have E:=Aa1 (b:=c) (l:=vs.map PyData.str) (by rw[ao];lia)
 have F:Ck (.list (ks.map PyData.str)) (.list (ns.map PyData.str))=sFa ((ks++ns).map PyData.str):=by
  show (if _ then _ else _)=_
  rw[if_pos (by rw[ao,ao];lia),cj]
 have p:Ck (.list ((ks++ns).map PyData.str)) (.list (vs.map PyData.str))=sFa ((ks++ns++vs).map PyData.str):=by
  show (if _ then _ else _)=_
  rw[if_pos (by rw[ao,ao,aM];lia),<- cj]
 have t:Fw [.tuple (cols.map PyData.str)]=sI (.int cols.length):=by show some (O.im (.int ((cols.map PyData.str).length:Nat)))=_;rw[ao]
 have r:Fw [.list ((ks++ns++vs).map PyData.str)]=sI (.int (ks++ns++vs).length):=by show some (O.im (.int (((ks++ns++vs).map PyData.str).length:Nat)))=_;rw[ao]
 have s:Fw [sqD c (vs.map PyData.str)]=sI (.int (vs.length:Nat)):=by rw[B0a,ao]
 have o:=eqi true ((ks++ns++vs).length:Nat) (cols.length:Nat)
 have d:okC cols (ks++ns++vs)=true->Bk false (.int (vs.length:Nat)) (.int 0)=sI (.bool false):=λq=>by have:=hv q;rw[eqi,aV (by lia)];rfl
 obtain⟨cI,e,u,rfl⟩:=En (g:=cgN 0) (ft:=Bq) (fe:=cOp (Bk false) (cMt Jh Jo (Ab 1) (Ab 0)) (cC (.int 1))) (I:=λc=>∃u,c=[u,sT ((ks++ns++vs).map PyData.str)]) (f:=PyData.str) (G:=λx=>PyData.bool (decide (Qp x (ks++ns++vs)=1))) (xs:=cols) (acc:=[]) (c:=[none,sT ((ks++ns++vs).map PyData.str)]) ⟨none,rfl⟩
  (λx c hx y=>by
   obtain⟨u,rfl⟩:=y
   refine⟨[sI (.str x),sT ((ks++ns++vs).map PyData.str)],?_,_,rfl⟩
   have z:=count_is x (ks++ns++vs)
   have A:Bk false (.int (Qp x (ks++ns++vs):Nat)) (.int 1)=sI (.bool (decide (Qp x (ks++ns++vs)=1))):=by
    rw[eqi];exact cu (λb:Bool=>some (O.im (PyData.bool b))) (decide_eq_decide.mpr ⟨λh=>by lia,λh=>by lia⟩)
   generalize (ks++ns++vs).map PyData.str=L at *
   generalize Qp x (ks++ns++vs)=m at *
   wp_walk using cMt,Jh,z,A)
 have v:A7x (.list (cols.map λx=>PyData.bool (decide (Qp x (ks++ns++vs)=1))))=sI (.bool ((cols.map λx=>decide (Qp x (ks++ns++vs)=1)).all id)):=by
  show (boolsOf _).map _=_
  rw[Xm];rfl
 have C:(if true=true then !decide (((ks++ns++vs).length:Int)=(cols.length:Int)) else decide (((ks++ns++vs).length:Int)=(cols.length:Int)))=!decide ((ks++ns++vs).length=cols.length):=by
  rw[if_pos rfl];exact cu Bool.not (decide_eq_decide.mpr ⟨λh=>by lia,λh=>by lia⟩)
 rw[C]at o
 have D:okC cols (ks++ns++vs)=(decide ((ks++ns++vs).length=cols.length)&&(cols.map λx=>decide (Qp x (ks++ns++vs)=1)).all id):=rfl
 rw[D]at d ⊢
 generalize decide ((ks++ns++vs).length=cols.length)=B1 at *
 generalize (cols.map λx=>decide (Qp x (ks++ns++vs)=1)).all id=B2 at *
 generalize (cols.map λx=>PyData.bool (decide (Qp x (ks++ns++vs)=1)))=BL at *
 have B:∀i k j:m6,cLC [none,some 4] (Ce (Ab 0)) (cgN 0) Bq (cOp (Bk false) (cMt Jh Jo (Ab 1) (Ab 0)) (cC (.int 1))) [sI (.tuple (cols.map PyData.str)),i,k,j,sFa ((ks++ns++vs).map PyData.str)]=.ok (.o (.ls false BL)) [sI (.tuple (cols.map _)),i,k,j,some _]:=λi k j =>
  Gb (ds:=cols.map PyData.str) (c1:=[sI (.tuple (cols.map PyData.str)),i,k,j,sFa ((ks++ns++vs).map PyData.str)]) (by wp_walk using Ce,Nz) (by rw[ao];lia) (by exact e) rfl
 cases B1 <;> cases B2 <;> (try replace d:=d _) <;> wp_walk using Bm,Hc,Fd,Jk,xIf,J1,M3,n,w,E,F,p,B,v,t,r,s,o,d
theorem Ah5 {cols L:v4}(a:L.Perm cols)(c:cols.Nodup):okC cols L=true:=by
 unfold okC;rw[aN a.length_eq,j5,aZ];intro b d;obtain⟨x,e,rfl⟩:=aL.mp d;exact aN (B5u (a.nodup_iff.mpr c) (a.mem_iff.mpr e))
theorem Be4 {cols L:v4}(h:L.length≠cols.length):okC cols L=false:=by
 unfold okC
 simp_all
abbrev nB:Xn:=⟨Str.ofString "BadColumns",none⟩
abbrev nO:Xn:=⟨Str.ofString "BadOrder",none⟩
theorem At6 {ss:v4}{d:t_}{b:Bool}(h1:(Bu d&&PyData.canLayAll0 (ss.map PyData.str))=true)(h2:(!(ss.map PyData.str).any λe=>PyData.eqv e d)=b):Ny ss d=sI (.bool b):=by
 unfold Ny
 grind
theorem Ah1 (b:Bool):Cy [.str (Rx b)]=.ret (.im .none):=by
 have h:Ny [Str.ofString "seen",Str.ofString "rising"] (.str (Rx b))=sI (.bool false):=by cases b <;> exact At6 (by decide +kernel) (by decide +kernel)
 wp_walk using Cy,Hx,Jk,Fd,xIf,J1,M3,h
noncomputable def A2y:w5:=[.none,.str "falling",.str "",.str "Seen",.int 0,.tuple [.str "told",.list []],.str "rising "]
theorem A8p {o:t_}(h:o∈A2y):Cy [o]=.ex nO:=by
 have h:Ny [Str.ofString "seen",Str.ofString "rising"] o=sI (.bool true):=by
  simp only[A2y,aD,bI,bJ]at h
  rcases h with rfl | rfl | rfl | rfl | rfl | rfl | rfl <;> exact At6 (by decide +kernel) (by rfl)
 wp_walk using Cy,Hx,Jk,Fd,xIf,J1,M3,h
section
variable {α:Type}[DecidableEq α]
def Fv (met:List α):List α->Option (Nat×Nat)
 | []=>none
 | x::r=>if x∈met then some (fnd x met,met.length) else Fv (met++[x]) r
theorem Ai3:∀{r met:List α},met.Nodup->Fv met r=none->(met++r).Nodup
 | [],met,nd,_=>by rw[cG];exact nd
 | x::r,met,nd,h=>by
  unfold Fv at h
  split at h
  ·cases h
  ·rename_i n
   have:=Ai3 (r:=r) (met:=met++[x]) (dm.mpr ⟨nd,by simp,λa ha b hb z=>n (by rw[aK.mp hb]at z;rw[<- z];exact ha)⟩) h
   rwa [dJ]at this
theorem Ur:∀{r met:List α}{i j:Nat},met.Nodup->Fv met r=some (i,j)->∃x,((met++r).take j).Nodup/\(met++r)[j]?=some x/\x∈(met++r).take j/\i=fnd x ((met++r).take j)
 | [],met,i,j,nd,h=>nomatch h
 | x::r,met,i,j,nd,h=>by
  unfold Fv at h
  split at h
  ·rename_i m
   cases h
   refine⟨x,?_,?_,?_,?_⟩
   ·rw[List.take_left];exact nd
   ·rw[dz (au _),dq];rfl
   ·rw[List.take_left];exact m
   ·rw[List.take_left]
  ·rename_i n
   have:=Ur (r:=r) (met:=met++[x]) (dm.mpr ⟨nd,by simp,λa ha b hb z=>n (by rw[aK.mp hb]at z;rw[<- z];exact ha)⟩) h
   rwa [dJ]at this
theorem Az7 {p:Nat->Bool}{n:Nat}(h:∀i,i<n->p i=false):(List.range n).filter p=[]:=by
 simp_all
theorem Ab3 (l:List α)(q:α){j:Nat}(hj:j<l.length):∃F,Rk l q=(List.range j).filter (λi=>decide (l[i]?=some q))++((if l[j]?=some q then [j] else [])++F)/\∀b∈F,j<b:=by
 unfold Rk
 obtain⟨m,a⟩:∃m,l.length=j+1+m:=⟨l.length-(j+1),by lia⟩
 refine⟨((List.range m).map (j+1+·)).filter λi=>decide (l[i]?=some q),?_,λb c=>?_⟩
 ·rw[a,List.range_add,List.range_succ,jJ]
  grind
 grind
theorem A6o {l:List α}{i j:Nat}(h:Fv [] l=some (i,j)):∃x∈l,(∃F,Rk l x=i::j::F)/\∀q,q≠x->∀a b F,Rk l q=a::b::F->j<b:=by
 obtain⟨x,o,d,r,s⟩:=Ur cX h;rw[eG]at o d r s;have p := (bH.mp d).1
 have u:(l.take j).length=j:=by grind
 have f:∀{i:Nat},i<j->(l.take j)[i]?=l[i]?:=λ{i} c=>by grind
 have t:∀q,q∈l.take j->(List.range j).filter (λi=>decide (l[i]?=some q))=[fnd q _]:=λq k=>by
  rw[U9 λi c=>⟨λz=>by
   have z:=aX z;rw[<- f c]at z
   exact(U8 o z).symm,λz=>aN (by rw[<- f c,z];exact J7 k)⟩,if_pos (by have:=Ao7 k;lia)]
 refine⟨x,bf d,?_,λq k a b F e=>?_⟩
 ·obtain⟨F,e,_⟩:=Ab3 l x p
  grind
 ·obtain⟨G,n,g⟩:=Ab3 l q p
  rw[if_neg (by grind)]at n
  by_cases m:q∈l.take j
  ·simp_all
  ·rw[Az7 λi c=>aV λz=>m (bf (by rw[f c];grind)),eG]at n
   exact g b (by grind)
end
abbrev pI (a b:Nat):t_:=.tuple [.int (a:Nat),.int (b:Nat)]
def Zn (l:List PH)(q:PH):Option t_:=match Rk l q with
 | a::b::_=>some (pI b a)
 | _=>none
theorem Be2 (a b:Int):PyData.eqv (.int a) (.int b)=decide (a=b):=by
 show (a==b)=_
 grind
theorem Zu {a b c d:Nat}:Ih false (pI a b) (pI c d)=some (if a=c then (if b=d then false else decide ((b:Int)<d)) else decide ((a:Int)<c)):=by
 show (if PyData.eqv _ _=true then (if PyData.eqv _ _=true then some _ else some _) else some _)=_
 rw[Be2,Be2]
 grind
theorem Jm {i j:Nat}:∀{ds:w5}{b:t_},(∀d∈ds,d=pI j i\/∃a b,d=pI a b/\j<a)->(b=pI j i\/(∃a c,b=pI a c/\j<a)/\pI j i∈ds)->mnD ds (some b)=some (pI j i)
 | [],b,_,h=>by
  rcases h with rfl | ⟨_,h⟩
  ·rfl
  ·cases h
 | d::ds,b,hd,h=>by
  show ((Ih false d b).bind λr=>mnD ds (some (if r=true then d else b)))=_
  have hds:∀d∈ds,d=pI j i\/∃a b,d=pI a b/\j<a:=λx hx=>hd x (.tail _ hx)
  rcases h with rfl | ⟨⟨a,c,rfl,ha⟩,hm⟩
  ·rcases hd d (.head _) with rfl | ⟨a,c,rfl,ha⟩
   ·rw[Zu,if_pos rfl,if_pos rfl]
    exact Jm hds (.inl rfl)
   ·rw[Zu,if_neg (by lia),aV (by lia)]
    exact Jm hds (.inl rfl)
  ·rcases hd d (.head _) with rfl | ⟨a',c',rfl,ha'⟩
   ·rw[Zu,if_neg (by lia),aN (by lia)]
    exact Jm hds (.inl rfl)
   ·have hm:pI j i∈ds:=by
     rcases aD.mp hm with z | z
     ·exfalso
      have:=cu (λd=>match d with | PyData.tuple (.int x::_)=>x | _=>0) z
      have:(j:Int)=a':=this;lia
     ·exact z
    obtain⟨r,er⟩:∃r,Ih false (pI a' c') (pI a c)=some r:=⟨_,Zu⟩;rw[er]
    cases r with
    | true=>exact Jm hds (.inr ⟨⟨a',c',rfl,ha'⟩,hm⟩)
    | false=>exact Jm hds (.inr ⟨⟨a,c,rfl,ha⟩,hm⟩)
theorem Bp5 (a b:Nat):Bu (pI a b)=true:=by trivial
theorem B0g {i j:Nat}(hi:i<=24)(hj:j<=24):Ar9 (Str.ofString "rows ").length (pI i j)=true:=by
 have:((List.range 25).all λi=>(List.range 25).all λj=>Ar9 (Str.ofString "rows ").length (pI i j))=true:=by decide +kernel
 exact aZ.mp (aZ.mp this i (ir.mpr (by lia))) j (ir.mpr (by lia))
abbrev nDb (i j:Nat):Xn:=⟨Str.ofString "Double",some (Str.ofString "rows",pI i j)⟩
theorem B1x {l:List PH}(hl:l.length<=24){i j:Nat}(h:Fv [] l=some (i,j)):Bw [grD l]=.ex (nDb i j):=by
 obtain⟨x,J,⟨F,v⟩,H⟩:=A6o h
 obtain⟨cI,e,u,rfl⟩:=Ms (g:=cgN 0) (ft:=Bc (cOp Ai9 (Gw (Ab 0)) (cC (.int 1)))) (fe:=Ej (Aa (cOp Ai (Ab 0) (cC (.int 1))) (Aa (cOp Ai (Ab 0) (cC (.int 0))) Al))) (I:=λc=>∃u,c=[u]) (f:=λq=>PyData.list (nmK l l.length q)) (G:=Zn l) (xs:=fs l) (acc:=[]) (c:=[none]) ⟨none,rfl⟩
  (λq c B E=>by
   obtain⟨u,rfl⟩:=E
   refine⟨[sI (.list (nmK l l.length q))],?_,_,rfl⟩
   rw[A8y];unfold Zn
   match Rk l q with
   | []=>rfl
   | [a]=>rfl
   | a::b::r =>
    have p:Fw [.list ((a::b::r).map λi=>PyData.int (i:Nat))]=sI (.int ((r.length+1+1:Nat):Int)):=by show some (O.im (.int ((((a::b::r).map λi=>PyData.int (i:Nat)).length:Nat):Int)))=_;rw[ao];rfl
    have s:decide ((1:Int)<((r.length+1+1:Nat):Int))=true:=aN (by lia)
    have w:Ai (.list ((a::b::r).map λi=>PyData.int (i:Nat))) (.int 1)=sI (.int (b:Nat)):=by show (atI _ ((1:Nat):Int)).map O.im=_;rw[Dt (j:=1) rfl];rfl
    have o:Ai (.list ((a::b::r).map λi=>PyData.int (i:Nat))) (.int 0)=sI (.int (a:Nat)):=by show (atI _ ((0:Nat):Int)).map O.im=_;rw[Dt (j:=0) rfl];rfl
    generalize (a::b::r).map (λi=>PyData.int (i:Nat))=L at *
    generalize ((r.length+1+1:Nat):Int)=n at *
    wp_walk using p,s,w,o)
 rw[eG]at e
 have k:∀d∈(fs l).filterMap (Zn l),d=pI j i\/∃a b,d=pI a b/\j<a:=λd t=>by
  obtain⟨q,B,e⟩:=fG.mp t;unfold Zn at e
  grind
 have m:pI j i∈(fs l).filterMap (Zn l):=fG.mpr ⟨x,yH.mpr J,by unfold Zn;rw[v]⟩
 have y:i<=24/\j<=24:=⟨by have:=Av6 (l:=l) (q:=x) (i:=i) (by rw[v];exact .head _);lia,by have:=Av6 (l:=l) (q:=x) (i:=j) (by rw[v];exact .tail _ (.head _));lia⟩
 have ll:((fs l).filterMap (Zn l)).length<=24:=aq (List.length_filterMap_le _ _) (aq (Np _) hl)
 have C:cLC [none] (Q3 (Ab 0)) (cgN 0) (Bc (cOp Ai9 (Gw (Ab 0)) (cC (.int 1)))) (Ej (Aa (cOp Ai (Ab 0) (cC (.int 1))) (Aa (cOp Ai (Ab 0) (cC (.int 0))) Al))) [some (grD l),none,none]=.ok (.o (.ls false ((fs l).filterMap (Zn l)))) [some (grD l),none,none] :=
  Gb (ds:=(fs l).map λq=>PyData.list (nmK l l.length q)) (c1:=[some (grD l),none,none]) (by wp_walk using Q3,ao) (by rw[ao];exact aq (Np _) (by lia)) e rfl
 generalize (fs l).filterMap (Zn l)=D at *
 have p:Fw [.list D]=sI (.int (D.length:Nat)):=rfl
 have s:decide ((0:Int)<((D.length:Nat):Int))=true:=aN (by have:=List.length_pos_of_mem m;lia)
 have K:Al0 (.list D)=sI (pI j i):=by
  show (if _ then _ else _)=_
  rw[if_pos (List.all_eq_true.mpr λd t=>by rcases k d t with rfl | ⟨a,b,rfl,_⟩ <;> exact Bp5 _ _)]
  match D,m,k with
  | d::D,m,k =>
   show (mnD D _).map _=_
   rw[Jm (λx M=>k x (.tail _ M)) (by
    rcases aD.mp m with z | z
    ·exact .inl z.symm
    ·exact(k d (.head _)).imp id λh=>⟨h,z⟩)]
   rfl
 have A:=B0g y.1 y.2;have w:Ai (pI j i) (.int 1)=some _:=rfl;have o:Ai (pI j i) (.int 0)=some _:=rfl
 wp_walk using Bw,Gr,Jk,Fd,xIf,Tc,Oq,C,p,s,K,w,o,A
theorem A2o {t:Tb}(ht:Tb.Ok t){a b c r:Bool}{ks ns vs:v4}(E:Cv t ks ns vs)(v:(prs t ks ns).Nodup):∃j,Srt r (fs ((prs t ks ns).map (·.2))) j /\
 Cj [t.d,sqD a (ks.map PyData.str),sqD b (ns.map PyData.str),sqD c (vs.map PyData.str),.str (Rx r)]=.ret (.im (fdD t ks ns vs j)):=by
 obtain⟨X,L,w⟩:=E.cs ht
 have e1:=Ar7 (cols:=t.cols) (ks:=ks) (ns:=ns) (vs:=vs) (a:=a) (b:=b) (c:=c) (aq ht.clen (by decide)) (aq X.len (by decide)) (aq L.len (by decide)) (aq w.len (by decide)) λ_=>E.pos
 rw[if_pos (Ah5 E.pm ht.nms.nd)]at e1;have K:=Av9 ht (a:=a) (b:=b) X L;have e4:=Q7 ht (b:=c) w.sub w.len;have D:=Zt ht (ks:=ks) (ns:=ns)
 have s:∀q∈prs t ks ns,VBs q.1/\VBs q.2:=λq e=>B1d ht e
 have H:∀q∈prs t ks ns,q.2.length<=12:=λq e=>by
  obtain⟨x,_,rfl⟩:=aL.mp e
  show (pick _ _ _).length<=12
  unfold pick;rw[ao];exact L.len
 have u:=λ{k:Nat} {q:PH} (h:(prs t ks ns)[k]?=some q)=>Bg5 (vs:=vs) v h
 have t1:=Al9 (b:=a) (ns:=ks);have t2:=Al9 (b:=b) (ns:=ns);have t3:=Al9 (b:=c) (ns:=vs);unfold fdD
 generalize cellOf t ks ns vs=G at *
 generalize sqD a (ks.map PyData.str)=A at *
 generalize sqD b (ns.map PyData.str)=B at *
 generalize sqD c (vs.map PyData.str)=C at *
 generalize prs t ks ns=l at *
 have J:=A8d v (aq D (by decide))
 obtain⟨j,Y,e6⟩:=A8m (b:=r) (ds:=l.map λq=>PyData.list (nmK l l.length q)) s (aq D (by decide)) H
 obtain⟨s1,s2⟩:=Y.sub
 refine⟨j,Y,?_⟩
 have e7:=A8u (ds:=l.map λq=>PyData.list (nmK l l.length q)) s (aq D (by decide))
 have e8:=By0 (g:=λq=>tD (G q)) (ps:=fs (l.map (·.1))) (hs:=j) s (λp u=>by obtain⟨q,e,rfl⟩:=aL.mp (yH.mp u);exact(s q e).1) (λp u=>by obtain⟨q,e,rfl⟩:=aL.mp (yH.mp (s1 p u));exact(s q e).2) (by rw[s2];exact aq (Np _) (by rw[ao];lia)) (aq (Np _) (by rw[ao];lia))
 have y:=Bn5 v;unfold grD at K J;rw[y]at K J
 generalize hgr:O.ty (.ds (l.map kD) (l.map λq=>PyData.list (nmK l l.length q)))=gr at *
 obtain⟨c',ks',es',e9,o,M,I,rfl,Q,rfl,rfl⟩:=Mu (d:=7) (g:=cgT 2 (Do (cgN 8) (Do (cgN 9) Lw))) (F:=Iz) (items:=l.map λq=>PyData.tuple [kD q,.list (nmK l l.length q)]) (n:=0) (ks:=[]) (es:=[]) (c:=fev t A B C r gr [sFa (Jv t.cols vs),none,none,none,none,none])
  (P:=λk c T S=>∃o M I,c=fev t A B C r gr [some o,none,M,I,none,none]/\A0b o (Jv t.cols vs)/\T=(fs (l.take k)).map kD/\S=(fs (l.take k)).map λq=>DE.d (tD (G q))) ⟨_,none,none,rfl,.inl rfl,rfl,rfl⟩
  (λk x c T S hx V=>by
   rw[bh]at V ⊢;obtain⟨o,M,I,rfl,Q,rfl,rfl⟩:=V;obtain⟨q,e,rfl⟩:=Ia hx;have W:=bf e;have m:=s q W;obtain⟨i,U,gq,_⟩:=u e;have mr:=ht.rows i (bf U);have Z:=Qm (r:=i) w.sub mr.1 w.len;rw[A4x v W,U8 v e];rw[<- gq]at Z
   have z:Ai (.tuple (t.rows.map tD)) (.int (k:Nat))=sI (tD i):=by
    show (atI (t.rows.map tD) (k:Nat)).map O.im=_
    rw[Dt (by rw[bV,U];rfl)];rfl
   refine⟨fev t A B C r gr [some o,none,sI (kD q),sI (.list [.int (k:Nat)]),none,none],fev t A B C r gr [sI (.list (Jv t.cols vs)),none,sI (kD q),sI (.list [.int (k:Nat)]),none,none],_,_,(by wp_walk using fev),rfl,?_,_,_,_,rfl,.inr rfl,rfl,rfl⟩
   have:=A0p (d:=7) (c:=fev t A B C r gr [some o,none,sI (kD q),sI (.list [.int (k:Nat)]),none,none]) (c1:=fev t A B C r gr [sI (.list (Jv t.cols vs)),none,sI (kD q),sI (.list [.int (k:Nat)]),none,none]) (fk:=Ab 8) (fv:=λ_ _=>cF Br (Aa (cOp Ai (cOp Ai (Ab 0) (cC (.int 1))) (cOp Ai (Ab 9) (cC (.int 0)))) (Aa (cFz (Ab 6)) Al))) (g:=λq=>DE.d (tD (G q))) (q:=q) (x:=tD (G q)) A7u (by
    have z1:Ai t.d (.int 1)=sI (.tuple (t.rows.map tD)):=rfl;have z2:Ai (.list [.int (k:Nat)]) (.int 0)=sI (.int (k:Nat)):=rfl
    rcases Q with rfl | rfl <;> wp_walk using fev,z1,z2,z,Z) (by wp_walk using fev) (Ba9 (l.take k)) (Aa4 m.1 m.2) (Nt (aq D (by decide))) rfl
   rw[Au6 (g:=λq:PH=>DE.d (tD (G q))),<- Y6 e]at this
   exact this)
 rw[ao,bh,gK,y]at e9
 have N:=X5 (d:=7) (fi:=S7 (Ab 5)) (g:=cgT 2 (Do (cgN 8) (Do (cgN 9) Lw))) (F:=Iz) (ds:=l.map λq=>PyData.tuple [kD q,.list (nmK l l.length q)]) (ks:=[]) (es:=[]) (c:=fev t A B C r gr [sFa (Jv t.cols vs),none,none,none,none,none]) (c1:=fev t A B C r gr [sFa (Jv t.cols vs),none,none,none,none,none]) (by
  subst hgr
  wp_walk using fev,S7,ao,Xc) rfl
 have f:=λg=>Qc (d:=7) (g:=g) (c:=fev t A B C r _ [some _,none,none,none,none,none]) rfl (N.trans e9)
 rw[dH]at f
 have R:(DE.dat ∘ λq=>DE.d (tD (G q)))=λq=>tD _:=rfl
 rw[R]at f;have c4:Ai t.d (.int 0)=some _:=rfl;subst hgr
 rcases Q with rfl | rfl <;> wp_walk using Cj,Ht,Jk,Fd,xIf,Kc,Q5,K1,Vy,Pj,Qj,M3,Oq,c4,e1,(Ah1 r),K,J,e4,f,e6,e7,e8,t1,t2,t3
theorem Bg3 {t:Tb}(ht:Tb.Ok t){a b c:Bool}{ks ns vs:v4}{o:t_}(h:okC t.cols (ks++ns++vs)=false)(h1:ks.length<=60)(h2:ns.length<=60)(f:vs.length<=60) :
 Cj [t.d,sqD a (ks.map PyData.str),sqD b (ns.map PyData.str),sqD c (vs.map PyData.str),o]=.ex nB:=by
 have d:=Ar7 (a:=a) (b:=b) (c:=c) (aq ht.clen (by decide)) h1 h2 f λq=>by simp_all
 rw[if_neg (by simp_all)]at d
 have e:Ai t.d (.int 0)=some _:=rfl
 wp_walk using Cj,Ht,Jk,Fd,xIf,Kc,K1,Qj,M3,e,d
theorem A8r {t:Tb}(ht:Tb.Ok t){a b c:Bool}{ks ns vs:v4}(d:Cv t ks ns vs):Bm [.tuple (t.cols.map PyData.str),sqD a (ks.map PyData.str),sqD b (ns.map PyData.str),sqD c (vs.map PyData.str)]=.ret (.im .none):=by
 obtain⟨f,g,h⟩:=d.cs ht
 have e:=Ar7 (a:=a) (b:=b) (c:=c) (aq ht.clen (by decide)) (aq f.len (by decide)) (aq g.len (by decide)) (aq h.len (by decide)) λ_=>d.pos
 rwa [if_pos (Ah5 d.pm ht.nms.nd)]at e
theorem Bw4 {t:Tb}(ht:Tb.Ok t){a b c:Bool}{ks ns vs:v4}{o:t_}(e:Cv t ks ns vs)(ho:o∈A2y) :
 Cj [t.d,sqD a (ks.map PyData.str),sqD b (ns.map PyData.str),sqD c (vs.map PyData.str),o]=.ex nO:=by
 have f:=A8r ht (a:=a) (b:=b) (c:=c) e;have g:Ai t.d (.int 0)=some _:=rfl;have d:=A8p ho
 wp_walk using Cj,Ht,Jk,Fd,xIf,Kc,K1,Qj,M3,g,f,d
theorem Bw6 {t:Tb}(ht:Tb.Ok t){a b c r:Bool}{ks ns vs:v4}(d:Cv t ks ns vs){i j:Nat}(h:Fv [] (prs t ks ns)=some (i,j)) :
 Cj [t.d,sqD a (ks.map PyData.str),sqD b (ns.map PyData.str),sqD c (vs.map PyData.str),.str (Rx r)]=.ex (nDb i j):=by
 obtain⟨f,g,o⟩:=d.cs ht;have l:=A8r ht (a:=a) (b:=b) (c:=c) d;have k:Ai t.d (.int 0)=some _:=rfl;have m:=Ah1 r;have n:=Av9 ht (a:=a) (b:=b) f g;have e:=B1x (Zt ht) h
 wp_walk using Cj,Ht,Jk,Fd,xIf,Kc,Q5,K1,Vy,Pj,Qj,M3,k,l,m,n,e
theorem Zy {b:Nat}:cutD ds none (some (b:Int))=ds.take b:=by
 unfold cutD;rw[HT.Aa8,HT.At0]
 grind
theorem Ad8 {a:Nat}:cutD ds (some (a:Int)) none=ds.drop a:=by
 unfold cutD;rw[HT.Aa8,HT.At0]
 rcases Nat.le_total a _ with q | q
 ·rw[Nat.min_eq_left q,List.take_of_length_le (by grind)]
 simp_all
abbrev B6d:n6:=Nv (Ab 1) (cF Aj (Aa (Ab 2) (Aa (Gw (Ab 1)) Al)))
theorem Ag9 (hb:Bx n ds) (hn:n<2 ^ 38) (A:cols.length<=12) :
 ∃(os:v4) (f:w5),os.Perm cols/\Bx (n+12) f/\∀s p u q:m6,cLC [none,some 2,some 0] (Ce (Ab 1)) (cgN 0) Bq B6d [sT ds,sI (.tuple (cols.map PyData.str)),sFa (cols.map PyData.str),s,p,u,q]=.ok (.o (.ls false (os.map PyData.str))) [sT f,sI (.tuple (cols.map PyData.str)),sFa [],s,p,u,q]:=by
 have j:=Jq (g:=cgN 0) (ft:=Bq) (fe:=B6d) (items:=cols.map PyData.str) (acc:=[]) (n:=0) (c:=[none,sT (cols.map PyData.str),sT ds])
  (P:=λk b c=>∃a f t h,c=[t,sT (a.map PyData.str),sT f]/\Bx (n+k) f/\b=h.map PyData.str/\(h++a).Perm cols/\h.length=k)
  ⟨cols,ds,none,[],rfl,hb,rfl,List.Perm.refl _,rfl⟩ (λk d b c F x=>by
   rw[bh]at x ⊢;obtain⟨a,f,t,h,rfl,o,rfl,i,l⟩:=x;obtain⟨z,E,rfl⟩:=Ia F;have hk:k<cols.length:=(bH.mp E).1
   have ll:a.length+k=cols.length:=by have:=i.length_eq;rw[aM,l]at this;lia
   obtain⟨r,w,I,B,C,D⟩:=Ca (m:=(a.length:Int)) o (by lia) (by lia) (by lia)
   have y:r.toNat<a.length:=by lia
   have G:(a.map PyData.str)[r.toNat]?=some (.str a[r.toNat]):=by simp[y]
   have v:ixN a.length r=some r.toNat:=Z5 B C
   refine⟨some (.str a[r.toNat]),[sI (.str z),sT ((a.eraseIdx r.toNat).map PyData.str),sT w],?_,a.eraseIdx r.toNat,w,_,h++[a[r.toNat]],rfl,I.mono (by lia),by simp,?_,by simp[l]⟩
   ·wp_walk using Fw,ao,D,v,G,Qy,show a.length<=16000000 by lia
   ·rw[dJ]
    exact(List.Perm.append_left h (Nu a y)).trans i)
 obtain⟨b,cI,e,a,f,t,h,rfl,o,rfl,i,l⟩:=j;rw[bh,ao]at o l
 have H:a=[]:=by
  have:=i.length_eq;rw[aM,l]at this
  exact List.length_eq_zero_iff.mp (by lia)
 subst H;rw[cG]at i
 refine⟨h,f,i,o.mono (by lia),λs p u q=>?_⟩
 exact Gb (ds:=cols.map PyData.str) (c1:=[sT ds,sI (.tuple (cols.map PyData.str)),sFa _,s,p,u,q]) (by wp_walk using Ce,Nz) (by rw[ao];lia) e (by wp_walk using cT)
theorem A0w (hb:Bx n ds) (hn:n<2 ^ 37) (h2:2<=cols.length) (h12:cols.length<=12) :
 ∃(v a b:v4) (d1:w5),(v++(a++b)).Perm cols/\1<=v.length/\Bx (n+15) d1/\Fp [.ls true ds,.im (.tuple (cols.map PyData.str))]=.ret (.im (.tuple [.list (a.map PyData.str),.list (b.map PyData.str),.list (v.map PyData.str)])) [.ls true d1,.im (.tuple (cols.map PyData.str))]:=by
 obtain⟨os,d1,pm,b1,e1⟩:=Ag9 hb (by lia) h12
 have ol:=pm.length_eq
 obtain⟨q,d2,b2,q0,q1,e2⟩:=Ca (m:=8) b1 (by lia) (by decide) (by decide)
 have hw:∃w:Int,(w=3\/w=9)/\∃k:Int,Ah3 (.bool (decide (q=0)))=sI (.int k)/\Ai (.list [.int 3,.int 9]) (.int k)=sI (.int w):=by
  by_cases c:q=0
  ·rw[aN c];exact⟨9,.inr rfl,1,rfl,rfl⟩
  ·rw[aV c];exact⟨3,.inl rfl,0,rfl,rfl⟩
 obtain⟨w,hw,k,ek,ew⟩:=hw
 have eq:Bk false (.int q) (.int 0)=sI (.bool (decide (q=0))):=by rw[Dv];rfl
 obtain⟨m,hm⟩:∃m:Int,m=if (os.length:Int)<w then (os.length:Int) else w:=⟨_,rfl⟩
 have m0:0<m/\m<=os.length:=by rcases hw with rfl | rfl <;> (rw[hm];split <;> lia)
 obtain⟨f,d3,b3,f0,f1,e3⟩:=Ca (m:=m) b2 (by lia) m0.1 (by lia)
 obtain⟨f,rfl⟩:=h_ f0
 have c1:cutD (os.map PyData.str) (some (1+(f:Int))) none=(os.drop (1+f)).map PyData.str:=by rw[show (1:Int)+(f:Int)=((1+f:Nat):Int) by lia,Ad8,List.map_drop]
 have c2:cutD (os.map PyData.str) none (some (1+(f:Int)))=(os.take (1+f)).map PyData.str:=by rw[show (1:Int)+(f:Int)=((1+f:Nat):Int) by lia,Zy,j6]
 generalize hR:os.drop (1+f)=rs at *
 have rl:rs.length<=12:=by rw[<- hR,jf];lia
 obtain⟨g,d4,b4,g0,g1,e4⟩:=Ca (m:=(rs.length:Int)+1) b3 (by lia) (by lia) (by lia)
 obtain⟨g,rfl⟩:=h_ g0
 have c3:cutD (rs.map PyData.str) (some (g:Int)) none=(rs.drop g).map PyData.str:=by rw[Ad8,List.map_drop]
 have c4:cutD (rs.map PyData.str) none (some (g:Int))=(rs.take g).map PyData.str:=by rw[Zy,j6]
 refine⟨os.take (1+f),rs.take g,rs.drop g,d4,?_,by rw[gC];lia,b4.mono (by lia),?_⟩
 ·rw[List.take_append_drop,<- hR,List.take_append_drop];exact pm
 have p1:(os.map PyData.str).length=os.length:=ao _;have p2:(rs.map PyData.str).length=rs.length:=ao _
 have p3:os.length<=16000000:=by lia
 have p4:rs.length<=16000000:=by lia
 have em:Ao8 (.int w) (.int (os.length:Nat))=sI (.int m):=by rw[hm];rfl
 wp_walk using Fp,Lj,Le,e1,e2,eq,ek,ew,Fw,p1,p2,p3,p4,em,e3,Ck,Nx,c1,c2,e4,c3,c4
theorem Bj7:∀x∈names12,VB (.str x):=λx a=>aZ.mp (show names12.all (λx=>vb _)=true by trivial) x a
theorem Bo0 (ht:Tb.Ok t):Good t.d 3 1300000:=by
 have h12:=ht.clen;have h24:=ht.rlen
 have g1:Good (.tuple (t.cols.map PyData.str)) 2 600000:=by
  have h:Good (tD (t.cols.map Vl.str)) 1 (1923*12+4):=Ks (λv hv=>by
   obtain⟨x,hx,rfl⟩:=aL.mp hv
   exact Bj7 x (ht.nms.sub x hx)) (by rw[ao];exact h12)
  have e:tD (t.cols.map Vl.str)=.tuple (t.cols.map PyData.str):=by show PyData.tuple ((t.cols.map Vl.str).map Vl.d)=_;rw[dH];rfl
  rw[e]at h
  exact h.mono (by decide) (by decide)
 have g2:Good (.tuple (t.rows.map tD)) 2 600000:=by
  refine (Good.tup (n:=1) (w:=1923*12+4) (k:=24) (λd hd=>?_) (by rw[ao];exact h24)).mono (by decide) (by decide)
  obtain⟨r,hr,rfl⟩:=aL.mp hd;have h:=ht.rows r hr;have hl:=h.1
  exact Ks h.2 (by lia)
 have:Good (.tuple [.tuple (t.cols.map PyData.str),.tuple (t.rows.map tD)]) 3 ((600000+2)*2+4):=Good.tup (λd hd=>by
  simp only[aD,bI,bJ]at hd
  rcases hd with rfl | rfl
  ·exact g1
  ·exact g2) (by simp)
 exact this.mono (by decide) (by decide)
theorem B3q (ht:Tb.Ok t) (hn:∀x∈ns,x∈t.cols) (hr:r.length=t.cols.length) (hl:ns.length<=12) :
 Oo [.im t.d,.im (tD r),.im (.list (ns.map PyData.str))]=.ret (.im (tD (pick t.cols r ns))) [.im t.d,.im (tD r),.im (.list (ns.map PyData.str))]:=by
 have h:Ai t.d (.int 0)=sI (.tuple (t.cols.map PyData.str)):=rfl
 obtain⟨cI,e,u,rfl⟩:=En (g:=cgN 0) (ft:=Bq) (fe:=cOp Ai (Ab 1) (cMt Kg J0 (cOp Ai (Ab 2) (cC (.int 0))) (Ab 0))) (I:=λc=>∃u,c=[u,sI (tD r),sI t.d]) (f:=PyData.str) (G:=λx=>(vAt t.cols r x).d) (xs:=ns) (acc:=[]) (c:=[none,sI (tD r),sI t.d]) ⟨none,rfl⟩
  (λx c a d=>by
   obtain⟨u,rfl⟩:=d
   refine⟨[sI (.str x),sI (tD r),sI t.d],?_,_,rfl⟩
   wp_walk using h,cMt,Kg,Tn ht.nms.nd (J7 (hn x a)),A6f (hn x a) hr)
 have i:cLC [none,some 1,some 0] (Ce (Ab 2)) (cgN 0) Bq (cOp Ai (Ab 1) (cMt Kg J0 (cOp Ai (Ab 2) (cC (.int 0))) (Ab 0))) [sI t.d,sI (tD r),sI (.list (ns.map PyData.str))]=.ok (.o (.ls false (ns.map λx=>(vAt t.cols r x).d))) [sI t.d,sI (tD r),sI (.list (ns.map PyData.str))] :=
  Gb (ds:=ns.map PyData.str) (c1:=[sI t.d,sI _,some _]) (by wp_walk using Ce,Nz) (by grind) (by simpa[cIn,O.flag] using e) rfl
 have b:PyData.tuple (ns.map λx=>(vAt t.cols r x).d)=tD (pick t.cols r ns):=by unfold tD pick;rw[dH];rfl
 wp_walk using Oo,Zw,i,By,b
theorem Au4 {α β:Type}[DecidableEq α][DecidableEq β]{f:α->β}{x:α}:∀{l:List α},(∀y∈l,f y=f x->y=x)->fnd (f x) (l.map f)=fnd x l
 | [],_=>rfl
 | y::l,h=>by
  have ih:=Au4 (l:=l) λz hz=>h z (.tail _ hz)
  rw[aJ];unfold fnd
  by_cases e:y=x
  ·rw[if_pos e,if_pos (by rw[e])]
  ·rw[if_neg e,if_neg λz=>e (h y (.head _) z),ih]
theorem Ax9 {α β:Type}[DecidableEq α][DecidableEq β]{f:α->β}:∀{r met:List α},(∀x∈met++r,∀y∈met++r,f x=f y->x=y)->Fv (met.map f) (r.map f)=Fv met r
 | [],_,_=>rfl
 | x::r,met,h=>by
  have hx:x∈met++x::r:=aF _ (.head _);rw[aJ];unfold Fv
  by_cases m:x∈met
  ·rw[if_pos m,if_pos (aL.mpr ⟨x,m,rfl⟩),Au4 λy hy=>h y (bG _ hy) x hx,ao]
  ·rw[if_neg m,if_neg λz=>by
    obtain⟨y,hy,e⟩:=aL.mp z
    exact m (h y (bG _ hy) x hx e▸hy)]
   have:=Ax9 (f:=f) (r:=r) (met:=met++[x]) λa ha b hb=>h a (by simpa using ha) b (by simpa using hb)
   rwa [cj]at this
theorem Bi0 (t:Tb)(a b:v4):Fv [] (t.rows.map λr=>pick t.cols r (a++b))=Fv [] (prs t a b):=by
 have e:(t.rows.map λr=>pick t.cols r (a++b))=(prs t a b).map λq=>q.1++q.2:=by
  unfold prs pick
  simp_all
 rw[e]
 refine Ax9 (met:=[]) λx g y f z=>?_
 have c:∀q∈prs t a b,q.1.length=a.length:=λq d=>by
  obtain⟨r,_,rfl⟩:=aL.mp d;exact ao _
 obtain⟨h1,h2⟩:=List.append_inj z ((c x g).trans (c y f).symm)
 grind
theorem Ag1 {v:m9}:∀{vs:m8},v∈vs->Aa7 (tD v) (vs.map tD)=some (fnd v vs)
 | u::us,h=>by
  rw[aJ]
  show (if PyData.eqv (tD u) (tD v)=true then some 0 else (Aa7 (tD v) (us.map tD)).map (·+1))=_
  unfold fnd;rw[Xo]
  by_cases e:u=v
  ·rw[aN e,if_pos rfl,if_pos e]
  ·rw[aV e,if_neg (by decide),if_neg e,Ag1 ((aD.mp h).resolve_left (aC e))];rfl
theorem Bh8 {v:m9}{vs:m8}(hv:v∈vs)(h:∀u∈vs,VBs u)(hl:vs.length<=1000):Ys (.list (vs.map tD)) (tD v)=sI (.int (fnd v vs:Nat)):=by
 show (if Bu _&&(PyData.canLayAll0 _&&decide _) then (Aa7 _ _).map _ else none)=_
 rw[(Ks (h v hv) (au _)).flatB (by decide),Mx λd a=>by obtain⟨u,b,rfl⟩:=aL.mp a;exact(Ks (h u b) (au _)).lay,aN (by grind),Ag1 hv];rfl
theorem Bq5 {g:o7}{body:Ev->SR}{d:t_}{ds:w5}{c c':Ev}{p:PV}(h:Js g body d c=.rt p c'):forL g body (d::ds) c=.rt p c':=by
 unfold Js at h;rw[forL]
 cases e:g _ c with
 | bad=>rw[e]at h;cases h
 | ok u a =>
  rw[e]at h;have h:body _=.rt p _:=h
  grind
theorem B2b {p:m9}{met:m8}(hp:VBs p)(hm:∀x∈met,VBs x):Rv false (tD p) (.list (met.map tD))=sI (.bool (decide (p∈met))):=by
 show (if Bu _&&PyData.canLayAll0 _ then some _ else none)=_
 rw[(Ks hp (au _)).flatB (by decide),Mx λd a=>by obtain⟨u,b,rfl⟩:=aL.mp a;exact(Ks (hm u b) (au _)).lay]
 have:((met.map tD).any λe=>PyData.eqv e (tD p))=decide (p∈met):=by
  by_cases h:p∈met
  ·rw[aN h,List.any_eq_true]
   exact⟨_,aL.mpr ⟨p,h,rfl⟩,by rw[Xo];simp_all⟩
  ·rw[aV h,List.any_eq_false]
   intro d a;obtain⟨u,b,rfl⟩:=aL.mp a
   rw[Xo,aV λz => h (by simp_all)];decide
 grind
def dbD:Option (Nat×Nat)->t_
 | none=>.none
 | some (i,j)=>pI i j
abbrev Aq8 (t:Tb)(N:t_)(met:m8)(u v:m6):Ev:=[sI t.d,sI N,sFa (met.map tD),u,v]
theorem At9 {t:Tb}(ht:Tb.Ok t){ns:v4}(hn:∀x∈ns,x∈t.cols)(hl:ns.length<=12):∀(rs:m8) (met:m8) (u v:m6),(∀r∈rs,r.length=t.cols.length/\VBs r)->(∀x∈met,VBs x)->met.length+rs.length<=100 ->
 ∃
  m2 u2 v2,forL (cgN 3) Bh (rs.map tD) (Aq8 t (.list (ns.map PyData.str)) met u v)=match Fv met (rs.map λr=>pick t.cols r ns) with
  | some (i,j)=>.rt (.o (.im (pI i j))) (Aq8 t (.list (ns.map PyData.str)) m2 u2 v2)
  | none=>.nx (Aq8 t (.list (ns.map PyData.str)) m2 u2 v2)
 | [],met,u,v,_,_,_=>⟨met,u,v,Ae4⟩
 | r::rs,met,u,v,hr,hm,hs=>by
  have mr:=hr r (.head _);have hp:VBs (pick t.cols r ns):=O6 mr.2;have e1:=B3q ht hn mr.1 hl;have e2:=B2b hp hm;rw[aR]at hs
  have ml:met.length<=100:=by lia
  have e3:=λh:pick t.cols r ns∈met=>Bh8 h hm (aq ml (by decide))
  have l0:Fw [.list (met.map tD)]=sI (.int (met.length:Nat)):=by show some (O.im (.int ((met.map tD).length:Nat)))=_;rw[ao]
  have ls:(met.map tD).length<16000000:=by rw[ao];lia
  have am:met.map tD++[tD (pick t.cols r ns)]=(met++[pick t.cols r ns]).map tD:=by rw[cj];rfl
  obtain⟨m2,u2,v2,ih⟩:=At9 ht hn hl rs (met++[pick t.cols r ns]) (sI (tD r)) (sI (tD (pick t.cols r ns))) (λx hx=>hr x (.tail _ hx)) (λx hx=>by
   rcases aY.mp hx with z | z
   ·exact hm x z
   ·rw[aK.mp z];exact hp) (by rw[aM,gH];lia)
  rw[aJ,aJ];unfold Fv
  generalize pick t.cols r ns=p at *
  generalize ns.map PyData.str=N at *
  by_cases h:p∈met
  ·rw[if_pos h]
   rw[aN h]at e2
   replace e3:=e3 h
   refine⟨met,sI (tD r),sI (tD p),Bq5 ?_⟩
   unfold Aq8
   generalize met.map tD=M at *
   generalize tD p=P at *
   wp_walk using Js,Bh,e1,e2,B1i,Jh,mtR,e3,l0
  ·rw[if_neg h]
   rw[aV h]at e2
   refine⟨m2,u2,v2,(Mq (.inl ?_)).trans ih⟩
   unfold Aq8;rw[<- am]
   generalize met.map tD=M at *
   generalize tD p=P at *
   wp_walk using Js,Bh,e1,e2,ls
theorem B5b {t:Tb}(ht:Tb.Ok t){ns:v4}(hn:∀x∈ns,x∈t.cols)(hl:ns.length<=12) :
 Bt [.im t.d,.im (.list (ns.map PyData.str))]=.ret (.im (dbD (Fv [] (t.rows.map λr=>pick t.cols r ns)))) [.im t.d,.im (.list (ns.map PyData.str))]:=by
 obtain⟨c,f,d,e⟩:=At9 ht hn hl _ [] _ _ ht.rows (λx b=>nomatch b) (by have:=ht.rlen;grind)
 have a:Wl (Ce (cOp Ai (Ab 0) (cC (.int 1)))) (cgN 3) Bh (Aq8 t (.list (ns.map PyData.str)) [] none none)=_:=Sy (by
  trivial)
 rw[e,show Aq8 t _ _ _ _=[some _,some _,some (.ls _ []),none,none] from rfl]at a
 cases h:Fv _ (t.rows.map λr=>pick _ r _) with
 | none=>rw[h]at a;wp_walk using Bt,Ef,a;rfl
 | some q=>rw[h]at a;wp_walk using Bt,Ef,a;rfl
abbrev zS (x:String):t_:=.str (Str.ofString x)
structure WrR (A B V P Q S:w5):Prop where
 str:∀d∈P++Q++S,d∈A++B++V\/d=zS "zzz"
 len:P.length<=60/\Q.length<=60/\S.length<=60
 bad:P.length+Q.length+S.length≠A.length+B.length+V.length\/(P=A/\Q=B/\∃i,i<V.length/\S=V.set i (zS "zzz"))
theorem add_l {x y:w5}(hx:x.length<=100)(hy:y.length<=100):Ck (.list x) (.list y)=sFa (x++y):=by
 show (if _ then _ else _)=_
 grind
theorem A0e {n:Nat}{ds A B V':w5}{x:t_}(hb:Bx n ds)(hn:n<2 ^ 37)(lA:A.length<=12)(lB:B.length<=12)(lV:(x::V').length<=12) :
 ∃P Q S d1,Bx (n+3) d1/\Bg [.ls true ds,.im (.tuple [.list A,.list B,.list (x::V')])]=.ret (.im (.tuple [.list P,.list Q,.list S])) [.ls true d1,.im (.tuple [.list A,.list B,.list (x::V')])]/\WrR A B (x::V') P Q S:=by
 obtain⟨q,d1,b1,q0,q1,l⟩:=Ca (m:=7) hb (by lia) (by decide) (by decide)
 obtain⟨k,p,b2,k0,k1,o⟩:=Ca (m:=3) b1 (by lia) (by decide) (by decide)
 have x0:Ai (.list (x::V')) (.int 0)=sI x:=by show (atI (x::V') ((0:Nat):Int)).map O.im=_;rw[Dt (j:=0) rfl];rfl
 have lv:(x::V').length=V'.length+1:=rfl
 obtain⟨i,d3,b3,i0,i1,e3⟩:=Ca (m:=((x::V').length:Nat)) b2 (by lia) (by lia) (by lia)
 have o0:Fw [.list (x::V')]=sI (.int ((x::V').length:Nat)):=rfl
 have ps:∃w,(x::V')[(x::V').length-1]?=some w:=⟨_,bC (by lia)⟩
 obtain⟨w,ps⟩:=ps
 have ldl:(x::V').dropLast.length=V'.length:=by rw[List.length_dropLast];rfl
 have s1:Nx (.list (x::V')) none (some 1)=sFa [x]:=by
  show some (O.ls false (cutD (x::V') none (some ((1:Nat):Int))))=_
  rw[Zy];rfl
 have u:∃j,ali 2 3 4 k=some j:=by
  rcases (show k=0\/k=1\/k=2 by lia) with rfl | rfl | rfl <;> exact⟨_,rfl⟩
 have ix:ixN (x::V').length i=some i.toNat:=Z5 i0 i1
 have it:i.toNat<(x::V').length:=by lia
 generalize hV:x::V'=V at *
 have xV:x∈V:=by rw[<- hV];exact .head _
 have dl:∀d∈V.dropLast,d∈V:=λd b=>by rw[jF]at b;exact List.mem_of_mem_take b
 have g1:A.length<16000000:=by lia
 have g2:B.length<16000000:=by lia
 have g3:V.length<16000000:=by lia
 have a1:=add_l (x:=A) (y:=B) (by lia) (by lia)
 have a2:=add_l (x:=B) (y:=A) (by lia) (by lia)
 have a3:=add_l (x:=B++A) (y:=[x]) (by rw[aM];lia) (by show 1<=100;decide)
 have a4:=add_l (x:=V) (y:=[zS "zzz"]) (by lia) (by decide)
 have inA:∀d∈A,d∈A++B++V:=λd h=>bG _ (bG _ h)
 have inB:∀d∈B,d∈A++B++V:=λd h=>bG _ (aF _ h)
 have e:∀d∈V,d∈A++B++V:=λd h=>aF _ h
 have a:∀{P Q S:w5},(∀d∈P,d∈A++B++V\/d=zS "zzz")->(∀d∈Q,d∈A++B++V\/d=zS "zzz")->(∀d∈S,d∈A++B++V\/d=zS "zzz")->P.length<=60->Q.length<=60->S.length<=60 ->
  (P.length+Q.length+S.length≠A.length+B.length+V.length\/(P=A/\Q=B/\∃i,i<V.length/\S=V.set i (zS "zzz")))->WrR A B V P Q S:=λv h2 h3 l1 l2 l3 h=>⟨λd b=>by
  rcases aY.mp b with b | b
  ·rcases aY.mp b with b | b
   ·exact v d b
   ·exact h2 d b
  ·exact h3 d b,⟨l1,l2,l3⟩,h⟩
 have f:∀d∈A,d∈A++B++V\/d=zS "zzz" := λd h=>.inl (inA d h)
 have g:∀d∈B,d∈A++B++V\/d=zS "zzz" := λd h=>.inl (inB d h)
 have r:∀d∈V,d∈A++B++V\/d=zS "zzz" := λd h=>.inl (e d h)
 have t:∀{L:w5} {y:t_},(∀d∈L,d∈A++B++V\/d=zS "zzz")->(y∈A++B++V\/y=zS "zzz")->∀d∈L++[y],d∈A++B++V\/d=zS "zzz" := λv h2 d b=>by
  rcases aY.mp b with z | z
  ·exact v d z
  ·rw[aK.mp z];exact h2
 have C:∀{L M:w5},(∀d∈L,d∈A++B++V\/d=zS "zzz")->(∀d∈M,d∈A++B++V\/d=zS "zzz")->∀d∈L++M,d∈A++B++V\/d=zS "zzz" := λv h2 d b=>(aY.mp b).elim (v d) (h2 d)
 have c:∀(L:w5) (y:t_),(L++[y]).length=L.length+1:=λL y=>by rw[aM];rfl
 have s:=b2.mono (m:=n+3) (by lia)
 have T3:=b3.mono (m:=n+3) (by lia)
 rcases (show q=0\/q=1\/q=2\/q=3\/q=4\/q=5\/q=6 by lia) with rfl | rfl | rfl | rfl | rfl | rfl | rfl
 ·refine⟨A,B,[],d1,b1.mono (by lia),?_,a f g (λd h=>nomatch h) (by lia) (by lia) (by decide) (.inl (by show A.length+B.length+0≠_;lia))⟩
  wp_walk using Bg,Cp,ne_eq,cU,O3,l,Dv,Int.reduceEq
 ·rcases (show k=0\/k=1\/k=2 by lia) with rfl | rfl | rfl
  ·refine⟨A++[zS "zzz"],B,V,p,s,?_,a (t f (.inr rfl)) g r (by rw[c];lia) (by lia) (by lia) (.inl (by rw[c];lia))⟩
   wp_walk using Bg,Cp,ne_eq,cU,O3,Qw,ali,l,o,Dv,Int.reduceEq,g1
  ·refine⟨A,B++[zS "zzz"],V,p,s,?_,a f (t g (.inr rfl)) r (by lia) (by rw[c];lia) (by lia) (.inl (by rw[c];lia))⟩
   wp_walk using Bg,Cp,ne_eq,cU,O3,Qw,ali,l,o,Dv,Int.reduceEq,g2
  ·refine⟨A,B,V++[zS "zzz"],p,s,?_,a f g (t r (.inr rfl)) (by lia) (by lia) (by rw[c];lia) (.inl (by rw[c];lia))⟩
   wp_walk using Bg,Cp,ne_eq,cU,O3,Qw,ali,l,o,Dv,Int.reduceEq,g3
 ·rcases (show k=0\/k=1\/k=2 by lia) with rfl | rfl | rfl
  ·refine⟨A++[x],B,V,p,s,?_,a (t f (.inl (e x xV))) g r (by rw[c];lia) (by lia) (by lia) (.inl (by rw[c];lia))⟩
   wp_walk using Bg,Cp,ne_eq,cU,O3,Qw,ali,l,o,Dv,Int.reduceEq,g1,x0
  ·refine⟨A,B++[x],V,p,s,?_,a f (t g (.inl (e x xV))) r (by lia) (by rw[c];lia) (by lia) (.inl (by rw[c];lia))⟩
   wp_walk using Bg,Cp,ne_eq,cU,O3,Qw,ali,l,o,Dv,Int.reduceEq,g2,x0
  ·refine⟨A,B,V++[x],p,s,?_,a f g (t r (.inl (e x xV))) (by lia) (by lia) (by rw[c];lia) (.inl (by rw[c];lia))⟩
   wp_walk using Bg,Cp,ne_eq,cU,O3,Qw,ali,l,o,Dv,Int.reduceEq,g3,x0
 all_goals obtain⟨j,u⟩:=u
 ·refine⟨A,B,V.dropLast,p,s,?_,a f g (λd h=>r d (dl d h)) (by lia) (by lia) (by lia) (.inl (by lia))⟩
  wp_walk using Bg,Cp,ne_eq,cU,O3,Qw,u,l,o,Dv,Int.reduceEq,ps
 ·refine⟨A,B,V.set i.toNat (zS "zzz"),d3,T3,?_,a f g (λd h=>(List.mem_or_eq_of_mem_set h).imp (e d) id) (by lia) (by lia) (by rw[bD];lia) (.inr ⟨rfl,rfl,i.toNat,it,rfl⟩)⟩
  wp_walk using Bg,Cp,ne_eq,cU,O3,Qw,u,l,o,e3,Dv,Int.reduceEq,o0,ix
 ·refine⟨A++B,B++A++[x],V,p,s,?_,a (C f g) (t (C g f) (.inl (e x xV))) r (by rw[aM];lia) (by rw[c,aM];lia) (by lia) (.inl (by rw[c,aM,aM];lia))⟩
  wp_walk using Bg,Cp,ne_eq,cU,O3,Qw,u,l,o,Dv,Int.reduceEq,a1,a2,a3,s1
 ·refine⟨A,B,V++[zS "zzz"],p,s,?_,a f g (t r (.inr rfl)) (by lia) (by lia) (by rw[c];lia) (.inl (by rw[c];lia))⟩
  wp_walk using Bg,Cp,ne_eq,cU,O3,Qw,u,l,o,Dv,Int.reduceEq,a4
abbrev lD (l:v4):t_:=.list (l.map PyData.str)
abbrev pD (a b v:v4):t_:=.tuple [lD a,lD b,lD v]
theorem Zd {a b:v4}(h:a.map PyData.str=b.map PyData.str):a=b:=by
 have:=cu strsOf h;rw[Ha,Ha]at this
 simp_all
theorem Sg:∀{P:w5},(∀d∈P,∃x,d=.str x)->∃p:v4,P=p.map PyData.str
 | [],_=>⟨[],rfl⟩
 | d::P,h=>by
  obtain⟨x,rfl⟩:=h d (.head _)
  obtain⟨p,rfl⟩:=Sg (P:=P) λd hd=>h d (.tail _ hd)
  exact⟨x::p,rfl⟩
theorem Bj0 {cols a b v:v4}{z:Str}{i:Nat}(d:(a++b++v).Perm cols)(e:cols.Nodup)(hi:i<v.length)(hz:z∉cols):okC cols (a++b++v.set i z)=false:=by
 obtain⟨_,f,m⟩:=dm.mp (d.nodup_iff.mpr e);have l:v[i]∈v:=iD _;have g := d.mem_iff.mp (aF _ l)
 have n:Qp v[i] (a++b++v.set i z)=0:=List.countP_eq_zero.mpr λy j q=>by
  rcases aY.mp j with h | h
  ·grind
  ·obtain⟨k,c⟩:=List.getElem?_of_mem h
   by_cases ik:i=k
   ·grind
   ·rw[bQ ik,(cQ q),<- bC _]at c
    exact ik ((List.getElem?_inj hi f).mp c.symm)
 unfold okC
 have:(cols.map λx=>decide (Qp x (a++b++v.set i z)=1)).all id=false:=List.all_eq_false.mpr ⟨_,aL.mpr ⟨v[i],g,rfl⟩,by grind⟩
 grind
theorem A6v {n:Nat}{ds:w5}{t:Tb}(ht:Tb.Ok t){a b v:v4}(cv:Cv t a b v)(hb:Bx n ds)(hn:n<2 ^ 37) :
 ∃p q s d1,Bx (n+3) d1/\Bg [.ls true ds,.im (pD a b v)]=.ret (.im (pD p q s)) [.ls true d1,.im (pD a b v)]/\okC t.cols (p++q++s)=false/\p.length<=60/\q.length<=60/\s.length<=60:=by
 obtain⟨ha,hb',hv⟩:=cv.cs ht
 match v,cv,hv with
 | x::v',cv,hv =>
  obtain⟨P,Q,S,d1,b1,e,r⟩:=A0e (A:=a.map PyData.str) (B:=b.map PyData.str) (V':=v'.map PyData.str) (x:=.str x) hb hn (by rw[ao];exact ha.len) (by rw[ao];exact hb'.len) (by have:=hv.len;simpa using this)
  have st:∀d∈P++Q++S,∃y,d=PyData.str y:=λd hd=>by
   rcases r.str d hd with h | h
   ·rcases aY.mp h with h | h
    ·rcases aY.mp h with h | h
     ·obtain⟨y,_,rfl⟩:=aL.mp h;exact⟨y,rfl⟩
     ·obtain⟨y,_,rfl⟩:=aL.mp h;exact⟨y,rfl⟩
    ·obtain⟨y,_,rfl⟩:=aL.mp (show d∈(x::v').map PyData.str from h);exact⟨y,rfl⟩
   ·exact⟨_,h⟩
  obtain⟨p,rfl⟩:=Sg λd hd=>st d (bG _ (bG _ hd))
  obtain⟨q,rfl⟩:=Sg λd hd=>st d (bG _ (aF _ hd))
  obtain⟨s,rfl⟩:=Sg λd hd=>st d (aF _ hd)
  have ll:=r.len;rw[ao,ao,ao]at ll
  refine⟨p,q,s,d1,b1,e,?_,ll⟩
  rcases r.bad with h | ⟨h1,h2,i,hi,h3⟩
  ·have:=cv.pm.length_eq
   rw[aM,aM,aR]at this;simp only[ao,aR]at h
   exact Be4 (by rw[aM,aM];lia)
  ·have e1:=Zd h1
   have e2:=Zd h2
   have hi:i<(x::v').length:=by simpa using hi
   have h3:s.map PyData.str=((x::v').map PyData.str).set i (zS "zzz"):=h3;rw[<- List.map_set]at h3;rw[e1,e2,Zd h3]
   exact Bj0 cv.pm ht.nms.nd hi λz=>absurd (ht.nms.sub _ z) (by decide +kernel)
theorem B0c:Gv [.ty (.xc nB)]=.ret (.im (zS "BadColumns")) [.ty (.xc nB)]:=rfl
theorem Bw1:Gv [.ty (.xc nO)]=.ret (.im (zS "BadOrder")) [.ty (.xc nO)]:=rfl
theorem Bw7 (i j:Nat):Gv [.ty (.xc (nDb i j))]=.ret (.im (zS "Double")) [.ty (.xc (nDb i j))]:=rfl
abbrev rD (w x:t_):t_:=.tuple [w,x]
theorem Ba0 (x y:String):Bk false (zS x) (zS y)=sI (.bool (decide (Str.ofString x=Str.ofString y))):=by rw[Vc];rfl
section
variable {t o:t_}{a b v:v4}
theorem Ah8 {w:String}{e:Xn}(h:Cj [t,lD a,lD b,lD v,o]=.ex e)(hc:(["BadColumns", "BadOrder", "Double"]:v4).contains e.1=true) (hw:Gv [.ty (.xc e)]=.ret (.im (zS w)) [.ty (.xc e)]) (hd:decide (Str.ofString w=Str.ofString "Double")=false) :
 Bf [.im t,.im (pD a b v),.im o]=.ret (.im (rD (zS w) .none)) [.im t,.im (pD a b v),.im o]:=by
 have d:Ai (pD a b v) (.int 0)=some _:=rfl;have f:Ai (pD a b v) (.int 1)=some _:=rfl;have g:Ai (pD a b v) (.int 2)=some _:=rfl;have c:=Ba0 w "Double";rw[hd]at c
 wp_walk using Bf,Ib,d,f,g,h,hc,hw,c
theorem A0r {i j:Nat}(h:Cj [t,lD a,lD b,lD v,o]=.ex (nDb i j)) :
 Bf [.im t,.im (pD a b v),.im o]=.ret (.im (rD (zS "Double") (pI i j))) [.im t,.im (pD a b v),.im o]:=by
 have d:Ai (pD a b v) (.int 0)=some _:=rfl;have e:Ai (pD a b v) (.int 1)=some _:=rfl;have f:Ai (pD a b v) (.int 2)=some _:=rfl;have g:=Ba0 "Double" "Double"
 have k:(["BadColumns", "BadOrder", "Double"]:v4).contains (nDb i j).n=true:=by simp_all
 have l:((nDb i j).n==Str.ofString _)=true:=ie _;have m:(nDb i j).p=some _:=rfl;have c:=Bw7 i j
 wp_walk using Bf,Ib,d,e,f,h,k,c,g,cXF,l,m
theorem A0a {d:t_}(h:Cj [t,lD a,lD b,lD v,o]=.ret (.im d)) :
 Bf [.im t,.im (pD a b v),.im o]=.ret (.im (rD (zS "told") .none)) [.im t,.im (pD a b v),.im o]:=by
 have e:Ai (pD a b v) (.int 0)=some _:=rfl;have f:Ai (pD a b v) (.int 1)=some _:=rfl;have c:Ai (pD a b v) (.int 2)=some _:=rfl
 wp_walk using Bf,Ib,e,f,c,h
end
theorem Aw0 {d:t_}(a:Bu d=true)(he:PyData.eqv d d=true):Bk true d d=sI (.bool false):=by rw[B4e a a,he];rfl
theorem Bw9 (i j:Nat):Bk true (rD (zS "Double") (pI i j)) (rD (zS "Double") (pI i j))=sI (.bool false):=by
 refine Aw0 ?_ ?_
 ·unfold Bu;simp[PyData.canLay0,PyData.canLayAll0,PyData.depth,PyData.depthAll];decide +kernel
 ·show (PyData.eqv (zS "Double") (zS "Double")&&((PyData.eqv _ _&&(PyData.eqv _ _&&true))&&true))=true
  rw[Be2,Be2,aN rfl,aN rfl];trivial
theorem Bn6 {w:String}(h:w = "told" \/ w = "BadColumns" \/ w = "BadOrder"):Bk true (rD (zS w) .none) (rD (zS w) .none)=sI (.bool false):=by
 rcases h with rfl | rfl | rfl <;> exact Aw0 (by decide +kernel) (by rfl)
def Bd3:Option (Nat×Nat)->t_
 | none=>rD (zS "told") .none
 | some (i,j)=>rD (zS "Double") (pI i j)
theorem A5v {t:Tb}(ht:Tb.Ok t){a b v:v4}(d:Cv t a b v)(r:Bool) :
 Bf [.im t.d,.im (pD a b v),.im (.str (Rx r))]=.ret (.im (Bd3 (Fv [] (prs t a b)))) [.im t.d,.im (pD a b v),.im (.str (Rx r))]:=by
 cases h:Fv _ (prs t a b) with
 | none =>
  obtain⟨f,_,e⟩:=A2o ht (a:=false) (b:=false) (c:=false) d (Ai3 cX h);exact A0a e
 | some q=>exact A0r (Bw6 ht (a:=false) (b:=false) (c:=false) d h)
theorem Bp0 (o:Option (Nat×Nat)):Bk true (Bd3 o) (Bd3 o)=sI (.bool false):=by
 cases o with
 | none=>exact Bn6 (.inl rfl)
 | some q=>obtain⟨i,j⟩:=q;exact Bw9 i j
theorem Tb.Ok.take {t:Tb}(ht:Tb.Ok t)(j:Nat):Tb.Ok ⟨t.cols,t.rows.take j⟩:=⟨ht.nms,ht.cpos,ht.clen,λr a=>ht.rows r (List.mem_of_mem_take a),by rw[gC];have:=ht.rlen;lia⟩
theorem A4m {α:Type}[DecidableEq α]:∀{r met:List α},(met++r).Nodup->Fv met r=none
 | [],_,_=>rfl
 | x::r,met,h=>by
  unfold Fv
  rw[if_neg λz=>(dm.mp h).2.2 x z x (.head _) rfl]
  exact A4m (by rwa [dJ])
theorem A5m {ns:List Int}{r T P C R R9 A B k p j n W:t_}{I H N M Q S:w5}{w:w5}{J L jj:Int}{s:Str}{bz:Bool}{a2 a3 a4 a5 a6 a7 a8 x D y F:m6}
 (e1:Jy [.sc ns,.im r]=.ret (.ls false I) [.sc ns,.im r]) (U:Dl [.ls true I]=.ret (.im T) [.ls true H]) (i:Ai T (.int 0)=sI C) (d:Ai T (.int 1)=sI R)
 (V:Fp [.ls true H,.im C]=.ret (.im P) [.ls true N,.im C]) (es:Ac3 T=sI (.str s)) (f0:Ai P (.int 0)=sI A) (f1:Ai P (.int 1)=sI B) (ad:Ck A B=sFa w)
 (e6:Bt [.im T,.im (.list w)]=.ret (.im k) [.im T,.im (.list w)]) (k1:Aj [.ls true N,.im (.int 2)]=.ret (.im (.int J)) [.ls true M,.im (.int 2)]) (er:Ai (.list [zS "seen",zS "rising"]) (.int J)=sI j)
 (u1:Kw false k .none=sI (.bool bz)) (K:Kw true k .none=sI (.bool (!bz))) (X:p=if bz=true then rD (zS "told") .none else rD (zS "Double") k)
 (Y:Bf [.im T,.im P,.im j]=.ret (.im p) [.im T,.im P,.im j]) (Z:Bk true p p=sI (.bool false))
 (t:bz=false->Ai k (.int 1)=sI (.int jj)/\Nx R none (some jj)=sI R9) (z:Bf [.im (.tuple [C,R9]),.im P,.im j]=.ret (.im (rD (zS "told") .none)) [.im (.tuple [C,R9]),.im P,.im j]) (n0:Bk true (rD (zS "told") .none) (rD (zS "told") .none)=sI (.bool false))
 (k2:Aj [.ls true M,.im (.int 7)]=.ret (.im (.int L)) [.ls true Q,.im (.int 7)]) (eo:Ai (.list [.none,zS "falling",zS "",zS "Seen",.int 0,.tuple [zS "told",.list []],zS "rising "]) (.int L)=sI n)
 (e8:Bf [.im T,.im P,.im n]=.ret (.im (rD (zS "BadOrder") .none)) [.im T,.im P,.im n]) (n8:Bk true (rD (zS "BadOrder") .none) (rD (zS "BadOrder") .none)=sI (.bool false))
 (e5:Bg [.ls true Q,.im P]=.ret (.im W) [.ls true S,.im P]) (e9:∀o,Bf [.im T,.im W,.im o]=.ret (.im (rD (zS "BadColumns") .none)) [.im T,.im W,.im o]) (n9:Bk true (rD (zS "BadColumns") .none) (rD (zS "BadColumns") .none)=sI (.bool false)) (n5:Bk true (.str s) (.str s)=sI (.bool false)) :
 ∃u,u.length=11/\Ie [some (.sc ns),sI r,a2,a3,a4,a5,a6,a7,a8,x,D,y,F]=.nx (some (.sc ns)::some (.im r)::u):=by
 have du:∀e g f v i d l h m b c a:m6,(A0z (Bc (cOp (Kw false) (Ab 6) (cC (.none)))) (Ej (Aa (cC (.str "told")) (Aa (cC (.none)) Al))) (Ej (Aa (cC (.str "Double")) (Aa (Ab 6) Al)))) [e,g,f,v,i,d,sI k,l,h,m,b,c,a]=.ok (.o (.im p)) [e,g,f,v,i,d,sI k,l,h,m,b,c,a]:=λe g f v i d l h m b c a=>by
  subst X
  cases bz <;> wp_walk using u1
 obtain⟨E,sh⟩:∃E,∀e g f d h b c a:m6,(cIf (Bc (cOp (Kw true) (Ab 6) (cC (.none)))) (Az (Bo (Ej (Aa (cOp Ai (Ab 3) (cC (.int 0))) (Aa (cSl Nx (cOp Ai (Ab 3) (cC (.int 1))) cON (cOS (cOp Ai (Ab 6) (cC (.int 1))))) Al))) (cgN 9))
  (cIf (Bc (cOp (Bk true) (cF Bf (Aa (Ab 9) (Aa (Ab 4) (Aa (Ab 7) Al)))) (Ej (Aa (cC (.str "told")) (Aa (cC (.none)) Al))))) (Cg (cC (.bool false))) Bv)) Bv) [e,g,f,sI T,sI P,d,sI k,sI j,h,x,b,c,a]=.nx [e,g,f,sI T,sI P,d,sI k,sI j,h,E,b,c,a]:=by
  cases bz with
  | true=>exact⟨x,λe g f d h b c a=>by wp_walk using K⟩
  | false =>
   obtain⟨t,x2⟩:=t rfl
   exact⟨some (.im (.tuple [C,R9])),λe g f c5' h b c a=>by wp_walk using K,i,d,t,x2,z,n0⟩
 have lp:∀e g f i d q l h m b a:m6,forL (cgN 12) Ma [j,n] [e,g,f,sI T,i,d,q,l,h,m,b,sI W,a]=.nx [e,g,f,sI T,i,d,q,l,h,m,b,sI W,sI n]:=λe g f i d q l h m b a=>by
  have G:∀(o:t_) (a:m6),Js (cgN 12) Ma o [e,g,f,sI T,i,d,q,l,h,m,b,sI W,a]=.nx [e,g,f,sI T,i,d,q,l,h,m,b,sI W,sI o]:=λo a=>by wp_walk using Js,Ma,e9,n9
  rw[Mq (.inl (G j a)),Mq (.inl (G n _)),Ae4]
 refine⟨[sFa S,sI T,sI P,sI (.str s),sI k,sI j,sI p,E,sI n,sI W,sI n],rfl,?_⟩
 ·unfold Ie
  refine (Cz (by wp_walk using e1;rfl)).trans ?_
  refine (Cz (by wp_walk using U;rfl)).trans ?_
  refine (Cz (by wp_walk using i,V;rfl)).trans ?_
  refine (Cz (by wp_walk using es;rfl)).trans ?_
  refine (Cz (by wp_walk using f0,f1,ad,e6;rfl)).trans ?_
  refine (Cz (by wp_walk using k1,er;rfl)).trans ?_
  refine (Cz (Bh9 (du _ _ _ _ _ _ _ _ _ _ _ _) rfl)).trans ?_
  refine (Cz (by wp_walk using Y,Z;rfl)).trans ?_
  refine (Cz (sh _ _ _ _ _ _ _ _)).trans ?_
  refine (Cz (by wp_walk using k2,eo;rfl)).trans ?_
  refine (Cz (by wp_walk using e8,n8;rfl)).trans ?_
  refine (Cz (by wp_walk using e5;rfl)).trans ?_
  refine (Cz ((Sy (by rfl)).trans (lp _ _ _ _ _ _ _ _ _ _ _))).trans ?_
  wp_walk using es,n5
theorem Bd6 {ns:List Int}{k:Nat}(hk:k<=63):∀l:m5,l.length=11->∃u,u.length=11/\Ie (some (.sc ns)::some (.im (.int (k:Int)))::l)=.nx (some (.sc ns)::some (.im (.int (k:Int)))::u)
 | [a2,a3,a4,a5,a6,a7,a8,a9,a10,a11,a12],_=>by
  obtain⟨db,bb,e1⟩:=B0t (ns:=ns) (k:=k) hk
  obtain⟨t,d1,ht,b1,e2⟩:=Zq bb (by decide)
  obtain⟨v,a,b,d2,pm,pos,b2,e3⟩:=A0w b1 (by decide) ht.cpos ht.clen
  obtain⟨q1,d3,b3,x0,x1,k1⟩:=Ca (m:=2) b2 (by decide) (by decide) (by decide)
  obtain⟨q2,d4,b4,y0,y1,k2⟩:=Ca (m:=7) b3 (by decide) (by decide) (by decide)
  have cv:Cv t a b v:=⟨List.perm_append_comm.trans pm,pos⟩;obtain⟨ha,hb,hv⟩:=cv.cs ht
  obtain⟨p,q,s,d5,b5,e5,ok,np,nq,ns'⟩:=A6v ht cv b4 (by decide)
  have es:=Am4 (Bo0 ht) (by decide) (by decide) rfl
  obtain⟨r,er⟩:∃r,Ai (.list [zS "seen",zS "rising"]) (.int q1)=sI (.str (Rx r)):=by
   rcases (show q1=0\/q1=1 by lia) with rfl | rfl
   ·exact⟨false,rfl⟩
   ·exact⟨true,rfl⟩
  obtain⟨o,mo,eo⟩:∃o∈A2y,Ai (.list A2y) (.int q2)=sI o:=by
   rcases (show q2=0\/q2=1\/q2=2\/q2=3\/q2=4\/q2=5\/q2=6 by lia) with rfl | rfl | rfl | rfl | rfl | rfl | rfl <;> exact⟨_,by simp only[A2y,aD,true_or,or_true],rfl⟩
  have ad:Ck (lD a) (lD b)=sFa ((a++b).map PyData.str):=by
   have l1:=ha.len;have l2:=hb.len
   rw[cj];exact add_l (by rw[ao];lia) (by rw[ao];lia)
  have lab:(a++b).length<=12:=by
   have l1:=pm.length_eq;have l2:=ht.clen;rw[aM]at l1;lia
  have e6:=B5b ht (ns:=a++b) (λx hx=>(aY.mp hx).elim (ha.sub x) (hb.sub x)) lab
  rw[Bi0]at e6;have e7:=A5v ht cv r
  have hx:∃(bz:Bool) (jj:Nat),Kw false (dbD (Fv [] (prs t a b))) .none=sI (.bool bz)/\Kw true (dbD (Fv [] (prs t a b))) .none=sI (.bool (!bz))/\(Bd3 (Fv [] (prs t a b))=if bz=true then rD (zS "told") .none else rD (zS "Double") (dbD (Fv [] (prs t a b)))) /\
   (bz=false->Ai (dbD (Fv [] (prs t a b))) (.int 1)=sI (.int (jj:Nat)))/\Fv [] (prs ⟨t.cols,t.rows.take jj⟩ a b)=none:=by
   cases h:Fv [] (prs t a b) with
   | none=>exact⟨true,0,rfl,rfl,rfl,λz=>(nomatch z),by rw[List.take_zero];rfl⟩
   | some ij =>
    obtain⟨i,j⟩:=ij
    refine⟨false,j,rfl,rfl,rfl,λ_=>rfl,A4m ?_⟩
    obtain⟨_,nd,_⟩:=Ur cX h
    have:prs ⟨t.cols,t.rows.take j⟩ a b=(prs t a b).take j:=by unfold prs;rw[j6]
    rw[this];exact nd
  obtain⟨bz,jj,u1,u2,u3,u4,u5⟩:=hx;have e10:=A5v (ht.take jj) (a:=a) (b:=b) (v:=v) ⟨cv.pm,cv.pos⟩ r;rw[u5]at e10;have n7:=Bp0 (Fv [] (prs t a b))
  exact A5m (R:=.tuple (t.rows.map tD)) (R9:=.tuple ((t.rows.take jj).map tD)) (jj:=(jj:Int)) e1 e2 rfl rfl e3 es rfl rfl ad e6 k1 er u1 u2 u3 e7 n7 (λz=>⟨u4 z,by
   show some (O.im (.tuple (cutD _ none (some (jj:Int)))))=_
   rw[Zy,j6]⟩) e10 (Bn6 (.inl rfl)) k2 eo (Ah8 (Bw4 ht (a:=false) (b:=false) (c:=false) cv mo) (by decide +kernel) Bw1 (by decide +kernel)) (Bn6 (.inr (.inr rfl))) e5
   (λo'=>Ah8 (Bg3 ht (a:=false) (b:=false) (c:=false) (o:=o') ok np nq ns') (by decide +kernel) B0c (by decide +kernel)) (Bn6 (.inr (.inl rfl))) (by rw[Vc];simp)
theorem A9q (ns:List Int)(_:ns.length<=63):Al3 [.sc ns]=.ret (.im (.bool true)) [.sc ns]:=by
 have a:=O7 (g:=cgN 1) (body:=Ie) (items:=Pr 0 7) (n:=0) (c:=[some (.sc ns),none,none,none,none,none,none,none,none,none,none,none,none])
  (P:=λ_ c=>∃b l,c=some _::b::l/\l.length=11) ⟨_,_,rfl,rfl⟩ (λk d c h j=>by
   obtain⟨b,l,rfl,f⟩:=j;obtain⟨rfl,hk⟩:=S8 h
   obtain⟨u,i,e⟩:=Bd6 (ns:=ns) (k:=k) (by lia) l f
   refine⟨some _::some (.im (.int k))::u,.inl ?_,_,_,rfl,i⟩
   show Ie _=_
   grind)
 obtain⟨c',e,b,l,rfl,f⟩:=a
 refine As3 (p:=.o (.im _)) (c:=some (.sc ns)::b::l) ?_ rfl (by trivial)
 refine (Cz ((Sy (by trivial)).trans e)).trans ?_
 rfl
local macro_rules | `(tactic| walk_at "m")=>`(tactic| repeat' first | rfl | (with_reducible first | apply Av | apply Bs | apply G8 | apply Dw | apply Gf | apply G4 | apply Jc | apply Sw | apply Nm | apply Aq0 | apply Mt | apply Eh | apply Fi | apply Rn) | apply Bu8 | apply Bf5 | apply A2x | apply An0 | apply Uq | apply Bw8 | (with_reducible first | apply Jp | apply Tv | apply J8 | apply As1 | apply Je | apply Bd1 | apply A5f | apply A9p | apply A6l | apply N5 | apply A7d | apply A7j | apply Ik | apply Bk9 | apply Tw | apply Bc4 | apply Au5 | apply Aq5 | apply Bt7 | apply Ax1 | apply A6r | apply Ay8 | apply B3x | apply B1e | apply Bq0 | apply Bt6 | apply S5 | apply Bn2 | apply A7l | apply Bo9 | apply O1 | apply B6q | apply A3o | apply B1f | apply A5i | apply Br2 | apply Ad9 | apply Oe | apply Ar1 | apply Bz3 | apply B4t | apply Bx4 | apply Ap0 | apply Bs3 | apply A7k | apply Bq3 | apply Bb2 | apply Bk6 | apply A7o | apply A7s | apply Bl6 | apply A6h | apply A1n | apply Bk4 | apply A7w | apply B0o | apply B2l | apply Bl8 | apply Am9 | apply A9a | apply Bn8 | apply Bi4 | apply A4z | apply Bc6 | apply Ay7 | apply Bu3 | apply Az6 | apply B5a | apply A9z | apply B2v | apply Ba4 | apply Bl1 | apply B2n | apply Be9 | apply Bm1 | apply Ap7 | apply B1c | apply B3a | apply Bb8 | apply B1j | apply Bo8 | apply Be3 | apply Aq9 | apply Bz6 | apply Au9 | apply Bj5 | apply B2t | apply A6b | apply A9v | apply A5s) | decide | assumption)
noncomputable def top (i:Nat):Stmt:=PySem.Challenge.pw_pivotfold_k11_doubles_columns_and_orders.main.body.getD i (.Pass ⟨0,0,0,0⟩)
abbrev Zg:Stmt:=top 13
abbrev lH:Str:="_law_box_here"
abbrev lJ:Str:="_law_many_here"
abbrev lK:Str:="_law_table_here"
abbrev lL:Str:="_law_script"
abbrev lM:Str:="_law_names_here"
abbrev lN:Str:="_law_parted_here"
theorem Bm9:Aq ["value"] ["value"] (Ak Zg):={}
abbrev Yh:Stmt:=top 14
theorem A6d:Aq ["values"] ["values"] (Ak Yh):={}
abbrev Ng:Stmt:=top 16
theorem yK:Aq ["table", "name", "columns"] ["table", "name"] (Ak Ng):={}
abbrev Lp:Stmt:=top 17
theorem Yq:Aq ["table", "names"] ["table", "names"] (Ak Lp):={}
abbrev Lr:Stmt:=top 18
theorem Z0:Aq ["row", "places"] ["row", "places"] (Ak Lr):={}
abbrev Ex:Stmt:=top 21
theorem zV:Aq ["columns", "key", "names", "values", "together"] ["columns", "key", "names", "values"] (Ak Ex):={}
abbrev Jg:Stmt:=top 22
theorem U0:Aq ["order"] ["order"] (Ak Jg):={}
abbrev Hm:Stmt:=top 23
theorem zE:Aq ["table", "key", "names", "key_places", "name_places", "groups", "number", "row", "place"] ["table", "key", "names"] (Ak Hm):={}
abbrev J5:Stmt:=top 24
theorem yC:Aq ["things", "seen", "thing"] ["things"] (Ak J5):={}
abbrev Ka:Stmt:=top 25
theorem V8:Aq ["groups"] ["groups"] (Ak Ka):={}
abbrev Jz:Stmt:=top 26
theorem yI:Aq ["groups", "order", "heads"] ["groups", "order"] (Ak Jz):={}
abbrev Nj:Stmt:=top 27
theorem Ag5:Aq ["part", "heads", "things", "gap"] ["part", "heads", "things", "gap"] (Ak Nj):={}
abbrev N8:Stmt:=top 28
theorem Ac7:Aq ["parts", "heads", "things", "gap"] ["parts", "heads", "things", "gap"] (Ak N8):={}
abbrev Hn:Stmt:=top 29
theorem Qi:Aq ["parts", "heads", "cells"] ["parts", "heads", "cells"] (Ak Hn):={}
abbrev Hl:Stmt:=top 30
theorem zU:Aq ["groups", "doubles", "first"] ["groups"] (Ak Hl):={}
abbrev Vh:Stmt:=top 31
theorem zN:Aq ["table", "key", "names", "values", "order", "groups", "value_places", "cells", "place", "numbers", "heads", "rows"] ["table", "key", "names", "values", "order"] (Ak Vh):={}
abbrev Lh:Stmt:=top 33
theorem Zv:Aq [lL, "_law_k"] [lL, "_law_k"] (Ak Lh):={}
abbrev Xu:Stmt:=top 34
theorem yQ:Aq [lL, "_law_k", "_law_number"] [lL, "_law_k"] (Ak Xu):={}
abbrev Vo:Stmt:=top 35
theorem yE:Aq [lH, lJ, "_law_found", "_law_once", "_law_twice"] [lH, lJ] (Ak Vo):={}
abbrev Ua:Stmt:=top 36
theorem A3e:Aq [lH, "_law_least", "_law_few", "_law_most"] [lH, "_law_least", "_law_few", "_law_most"] (Ak Ua):={}
abbrev Qv:Stmt:=top 37
theorem yN:Aq [lH, lJ, "_law_some"] [lH, lJ] (Ak Qv):={}
abbrev Qq:Stmt:=top 38
theorem yO:Aq [lH, "_law_way"] [lH] (Ak Qq):={}
abbrev Uo:Stmt:=top 39
theorem yF:Aq [lH, lJ, "_law_found", "_law_turn", "_law_value_here"] [lH, lJ] (Ak Uo):={}
abbrev Q4:Stmt:=top 40
theorem zO:Aq [lH, lJ, "_law_rows", lM, "_law_pools", "_law_found", "_law_turn", "_law_row"] [lH, lJ, "_law_rows"] (Ak Q4):={}
abbrev Jj:Stmt:=top 41
theorem Tz:Aq [lH] [lH] (Ak Jj):={}
abbrev Ob:Stmt:=top 42
theorem zP:Aq [lH, "_law_columns", "_law_left", "_law_order", "_law_values", "_law_rest", "_law_cut"] [lH, "_law_columns"] (Ak Ob):={}
abbrev Ar0:Stmt:=top 43
theorem Bf1:Aq [lK, "_law_row", lM] [lK, "_law_row", lM] (Ak Ar0):={}
abbrev Vj:Stmt:=top 44
theorem zZ:Aq ["_law_error", "_law_fits", "_law_words"] ["_law_error"] (Ak Vj):={}
abbrev Gp:Stmt:=top 45
theorem zK:Aq [lK, lM, "_law_met", "_law_row", "_law_part"] [lK, lM] (Ak Gp):={}
abbrev Pz:Stmt:=top 46
theorem zJ:Aq [lH, lN, "_law_stem", lM, "_law_values", "_law_way", "_law_some"] [lH, lN] (Ak Pz):={}
abbrev Px:Stmt:=top 47
theorem zW:Aq [lK, lN, "_law_order", "_law_caught", "_law_error", "_law_word_here"] [lK, lN, "_law_order"] (Ak Px):={}
abbrev A7q:Stmt:=top 48
theorem zM:Aq [lL, "_law_k", lH, lK, lN, "_law_before", "_law_double", "_law_order", "_law_due", "_law_shorter", "_law_strange", "_law_wrong_here", "_law_some"] [lL] (Ak A7q):={}
section
variable {P:u9}{w:World}{K:v9}{mg:x_}{base:Heap}
theorem Bh0 {n:Nat}(F:Fun K "rank" "rank" Zg f fd) (d0:Def P w K mg base "rank" (n) ["value"] (spP K (Ed n))) (zT:mg "int" = none) (z8:mg "isinstance" = none) (zY:mg "str" = none) (z7:mg "tuple" = none):FnOk P w K mg base CX0 (n+1) f fd ["value"] (spP K (Ed (n+1))):=by
 exact F.okQ Bm9 (λhr _ _=>Ae (Cu (Qh (qv 0) Fj) (Ah (Ar (Cr (Ad Ag (Ad Ag Ac))))) Bb)
  (Ae (Cu (Tt (Rb (Kq:=K) rfl rfl z8 (Ad (qv 0) (Ad (X6 (v:=.ty "int") rfl zT A9u rfl) Ac)))) (Ah (Ar (Cr (Ad Ag (Ad (qv 0) Ac))))) Bb)
  (Ae (Cu (Tt (Rb (Kq:=K) rfl rfl z8 (Ad (qv 0) (Ad (X6 (v:=.ty "str") rfl zY A5a rfl) Ac)))) (Ah (Ar (Cr (Ad Ag (Ad (qv 0) Ac))))) Bb)
  (Ah (Ar (Cr (Ad Ag (Ad (Aw (Kq:=K) rfl rfl z7 (Ad (by exact(Kz (N':=["each"]) (idx:=[none]) Fl rfl (Fx (Kq:=K) rfl (qv 0)) (λ_ _ _ _ _=>by exact(Be (i:=0) (by show (["each"]:v4).Nodup;decide +kernel))) qtN (λ_ _ _ _ _=>by exact(Ay d0 hr (Ad (qv 0) Ac))))) Ac)) Ac)))))))) (by unfold Ye;walk_at "m")
theorem Ai0 (F:Fun K "rank" "rank" Zg f fd) (bF:Binds K fd ["value"] []) (mF:mg "rank" = some (.ref f)) (zT:mg "int" = none) (z8:mg "isinstance" = none) (zY:mg "str" = none) (z7:mg "tuple" = none):∀n:Nat,FnOk P w K mg base CX0 (n) f fd ["value"] (spP K (Ed n))
 | 0=>B0u
 | n+1=>Bh0 F ⟨f,fd,Ai0 F bF mF zT z8 zY z7 n,bF,F.kp,mF⟩ zT z8 zY z7
theorem A5l (F:Fun K "risen" "risen" Yh f fd) (d0:Def P w K mg base "rank" 2 ["value"] (spP K (Ed 2))) (yL:mg "sorted" = none):FnOk P w K mg base CX0 5 f fd ["values"] (spP K K9):=by
 obtain⟨aA4,aD8,aB1,o3,aE4,t4⟩:=d0
 exact F.okQ A6d (λhr _ _=>Ah (Ar (A6a (Kq:=K) rfl aB1 (hr.mono (by lia)) o3 rfl yL (Ad (qv 0) Ac) (Bl2 (At2 (v:=.ref aA4) rfl t4 rfl) B2d)))) (by unfold Vz;walk_at "m")
theorem Af1 (F:Fun K "place_of" "place_of" Ng f fd):FnOk P w K mg base CX0 3 f fd ["table", "name"] (spP K Ft):=by
 exact F.okQ yK (λ_ hu _=>Ae (An (i:=2) yK.nd (Ax (Kq:=K) rfl (qv 0) Ag Ao))
  (Ae (Cu (Oz hu (qv 1) (qv 2) (by with_unfolding_all rfl)) (Ah Bd0) Bb)
  (Ah (Ar (Ve (Kq:=K) rfl jy jz jA (Tp rfl) (qv 2) (Ad (qv 1) Ac)))))) (by unfold Mf;walk_at "m")
theorem Yc (F:Fun K "places_of" "places_of" Lp f fd) (d2:Def P w K mg base "place_of" 3 ["table", "name"] (spP K Ft)):FnOk P w K mg base CX0 4 f fd ["table", "names"] (spP K Dd):=by
 exact F.okQ Yq (λhr _ _=>Ah (Ar (by exact(Kz (N':=["name", "table"]) (idx:=[none,some 0]) Fl rfl (Fx (Kq:=K) rfl (qv 1)) (λ_ _ _ _ _=>by exact(Be (i:=0) (by show (["name", "table"]:v4).Nodup;decide +kernel))) qtN (λ_ _ _ _ _=>by exact(Ay d2 hr (Ad (qv 1) (Ad (qv 0) Ac)))))))) (by unfold Ko;walk_at "m")
theorem Yt (F:Fun K "values_at" "values_at" Lr f fd) (z7:mg "tuple" = none):FnOk P w K mg base CX0 1 f fd ["row", "places"] (spP K Br):=by
 exact F.okQ Z0 (λ_ _ _=>Ah (Ar (Aw (Kq:=K) rfl rfl z7 (Ad (by exact(Kz (N':=["place", "row"]) (idx:=[none,some 0]) Fl rfl (Fx (Kq:=K) rfl (qv 1)) (λ_ _ _ _ _=>by exact(Be (i:=0) (by show (["place", "row"]:v4).Nodup;decide +kernel))) qtN (λ_ _ _ _ _=>by exact(Ax (Kq:=K) rfl (qv 1) (qv 0) Vf)))) Ac)))) (by unfold J6;walk_at "m")
theorem Lg (F:Fun K "check_all_columns" "check_all_columns" Ex f fd) (yR:mg "all" = none) (zB:mg "len" = none) (zQ:mg "list" = none) (j1:ClR K mg "BadColumns"):FnOk P w K mg base (CXe P w) 1 f fd ["columns", "key", "names", "values"] (spX K Bm):=by
 obtain⟨aE2,m3,l5,l4⟩:=j1
 refine F.okX zV (λvs H Q E h=>Yk h) (λcdv A outer s H vs Q E hr h=>?_)
 have hu:=hr.units;have hgd:=hr.gd
 refine Az9 (Ae (An (i:=4) zV.nd (Dc (Dc (Dy (Kq:=K) rfl rfl zQ (Ad (qv 1) Ac)) (Dy (Kq:=K) rfl rfl zQ (Ad (qv 2) Ac))) (Dy (Kq:=K) rfl rfl zQ (Ad (qv 3) Ac))))
  (Ae (Cu (QW.qt (Bc1 (Rh hu (Ge (Kq:=K) rfl rfl zB (Ad (qv 4) Ac)) (Ge (Kq:=K) rfl rfl zB (Ad (qv 0) Ac))) (A9n (A6z (Tt (Z8 (Kq:=K) rfl rfl rfl yR (Ad (by exact(Kz (N':=["name", "together"]) (idx:=[none,some 4]) Fl rfl (Fx (Kq:=K) rfl (qv 0)) (λ_ _ _ _ _=>by exact(Be (i:=0) (by show (["name", "together"]:v4).Nodup;decide +kernel))) qtN (λ_ _ _ _ _=>by exact(Bs7 hu (Ve (Kq:=K) rfl dY PySem.F.slot_list_count PySem.F.type_list_count (A2v rfl) (qv 1) (Ad (qv 0) Ac)) Ag)))) Ac))))))) (Ah (Up Mv rfl rfl m3 l4 (Ad Cm Ac))) Bb)
  (Ah (Cu (Ja hu (Ge (Kq:=K) rfl rfl zB (Ad (qv 3) Ac)) Ag) (Ah (Up Mv rfl rfl m3 l4 (Ad Cm Ac))) Bb)))) ?_
 exact Zj (Tw (Ik (Nm (Dw (Dw (Jp Av O1) (Jp Av O1) J8) (Jp Av O1) J8) G4))
  (Tw (Ad9 (Bs3 (Eh (Dw (N5 Av) (N5 Av) A7d)) (A6h (B3x (Jp (A9p (by decide) (Bd1 Av) G4 A5f (Dw (Bt6 Av Av Ap0 Uq) (G8 rfl) Je)) Au9)))) (Oe l5 (Bs (G8 rfl) Gf) (λ_ _ _ e=>by cases e;decide)) (Ik Fi))
  (Ad9 (Eh (Dw (N5 Av) (G8 rfl) Je)) (Oe l5 (Bs (G8 rfl) Gf) (λ_ _ _ e=>by cases e;decide)) (Ik Fi)))) h
theorem Tf (F:Fun K "check_order" "check_order" Jg f fd) (yM:∃p,mg "ORDERS" = some (.ref p)/\∀H,SqT K H p ([Str.ofString "seen",Str.ofString "rising"].map V.str)) (i8:ClR K mg "BadOrder"):FnOk P w K mg base (CXe P w) 1 f fd ["order"] (spX K Cy):=by
 obtain⟨aE8,y8,n4,aA1⟩:=i8;obtain⟨p_ORDERS,aC0,sq_ORDERS⟩:=yM
 refine F.okX U0 (λvs H Q E h=>Yk h) (λcdv A outer s H vs Q E hr h=>?_)
 have hu:=hr.units;have hgd:=hr.gd
 refine Az9 (Ah (Cu (Aj1 (Kq:=K) rfl hu (qv 0) (At2 (v:=.ref p_ORDERS) rfl aC0 rfl) (by with_unfolding_all rfl)) (Ah (Up Mv rfl rfl y8 aA1 (Ad Cm Ac))) Bb)) ?_
 exact Zj (Ad9 (Eh (Ay7 Av sq_ORDERS)) (Oe n4 (Bs (G8 rfl) Gf) (λ_ _ _ e=>by cases e;decide)) (Ik Fi)) h
abbrev yT1 (P w K mg base):=Def P w K mg base "places_of" 4 ["table", "names"] (spP K Dd)
abbrev yT2 (P w K mg base):=Def P w K mg base "values_at" 1 ["row", "places"] (spP K Br)
theorem Qn (F:Fun K "rows_by_place" "rows_by_place" Hm f fd) (d3:yT1 P w K mg base) (d4:yT2 P w K mg base) (yG:mg "enumerate" = none):FnOk P w K mg base CX0 5 f fd ["table", "key", "names"] (spP K Dp):=by
 exact F.okQ zE (λhr hu _=>Ae (An (i:=3) zE.nd (Ay d3 hr (Ad (qv 0) (Ad (qv 1) Ac))))
  (Ae (An (i:=4) zE.nd (Ay d3 hr (Ad (qv 0) (Ad (qv 2) Ac))))
  (Ae (An (i:=5) zE.nd U3) (Ao1 (d:=5) (Ls fj rfl (Bj8 rfl yG (Ad (Ax (Kq:=K) rfl (qv 0) Ag Ao) Ac)) (Yg (Kq:=K) rfl (n:=2) rfl (Ep (Be (i:=6) zE.nd) (Ep (Be (i:=7) zE.nd) O5))) (Ae (An (i:=8) zE.nd (Cr (Ad (Ay d4 hr (Ad (qv 7) (Ad (qv 3) Ac))) (Ad (Ay d4 hr (Ad (qv 7) (Ad (qv 4) Ac))) Ac))))
  (Ah (G5 (Hv (Kq:=K) rfl (Bj6 hu (qv 5) (qv 8) (Di Ac) ⟨rfl,rfl,rfl,rfl⟩) (qv 6))))))
  (Ah (Ar (qv 5))))))) (by unfold Gn;unfold Ds;walk_at "m")
theorem V5 (F:Fun K "first_seen" "first_seen" J5 f fd) (z7:mg "tuple" = none):FnOk P w K mg base CX0 1 f fd ["things"] (spP K Dj):=by
 exact F.okQ yC (λ_ hu _=>Ae (An (i:=1) yC.nd U3) (Ao1 (d:=1) (Ls fj rfl (Fx (Kq:=K) rfl (qv 0)) (Be (i:=2) yC.nd) (Ah (Aw6 hu (qv 1) (qv 2) Ph)))
  (Ah (Ar (Bo3 rfl rfl z7 (qv 1)))))) (by unfold Jd;unfold Ff;walk_at "m")
abbrev yT3 (P w K mg base):=Def P w K mg base "first_seen" 1 ["things"] (spP K Dj)
theorem V7 (F:Fun K "parts_seen" "parts_seen" Ka f fd) (d8:yT3 P w K mg base):FnOk P w K mg base CX0 2 f fd ["groups"] (spP K Fb):=by
 exact F.okQ V8 (λhr _ _=>Ah (Ar (Ay d8 hr (Ad (by exact(Kz (N':=["part", "head"]) (idx:=[none,none]) Fl rfl (Ac1 (qv 0)) (λ_ _ _ _ _=>by exact(Yg (Kq:=K) rfl (n:=2) rfl (Ep (Be (i:=0) (by show (["part", "head"]:v4).Nodup;decide +kernel)) (Ep (Be (i:=1) (by show (["part", "head"]:v4).Nodup;decide +kernel)) O5)))) qtN (λ_ _ _ _ _=>by exact(qv 0)))) Ac)))) (by unfold Jf;walk_at "m")
theorem Wh (F:Fun K "heads_seen" "heads_seen" Jz f fd) (d1:Def P w K mg base "risen" 5 ["values"] (spP K K9)) (d8:yT3 P w K mg base) (z7:mg "tuple" = none):FnOk P w K mg base CX0 6 f fd ["groups", "order"] (spP K Ea):=by
 exact F.okQ yI (λhr hu _=>Ae (An (i:=2) yI.nd (Ay d8 hr (Ad (by exact(Kz (N':=["part", "head"]) (idx:=[none,none]) Fl rfl (Ac1 (qv 0)) (λ_ _ _ _ _=>by exact(Yg (Kq:=K) rfl (n:=2) rfl (Ep (Be (i:=0) (by show (["part", "head"]:v4).Nodup;decide +kernel)) (Ep (Be (i:=1) (by show (["part", "head"]:v4).Nodup;decide +kernel)) O5)))) qtN (λ_ _ _ _ _=>by exact(qv 1)))) Ac)))
  (Ah (Ar (Um (Ja hu (qv 1) Cm) (Aw (Kq:=K) rfl rfl z7 (Ad (Ay d1 hr (Ad (qv 2) Ac)) Ac)) (qv 2))))) (by unfold G7;walk_at "m")
theorem Ah7 (F:Fun K "laid_row" "laid_row" Nj f fd) (z7:mg "tuple" = none):FnOk P w K mg base CX0 1 f fd ["part", "heads", "things", "gap"] (spP K Em):=by
 exact F.okQ Ag5 (λ_ hu _=>Ah (Ar (Aw (Kq:=K) rfl rfl z7 (Ad (by exact(Kz (N':=["head", "gap", "things", "part"]) (idx:=[none,some 3,some 2,some 0]) Fl rfl (Fx (Kq:=K) rfl (qv 1)) (λ_ _ _ _ _=>by exact(Be (i:=0) (by show (["head", "gap", "things", "part"]:v4).Nodup;decide +kernel))) qtN (λ_ _ _ _ _=>by exact(Ba8 hu (qv 2) (Cr (Ad (qv 3) (Ad (qv 0) Ac))) (qv 1) ⟨rfl,rfl,rfl,rfl⟩)))) Ac)))) (by unfold Lq;walk_at "m")
theorem Ag8 (F:Fun K "laid_out" "laid_out" N8 f fd) (d11:Def P w K mg base "laid_row" 1 ["part", "heads", "things", "gap"] (spP K Em)) (z7:mg "tuple" = none):FnOk P w K mg base CX0 2 f fd ["parts", "heads", "things", "gap"] (spP K Hg):=by
 exact F.okQ Ac7 (λhr _ _=>Ah (Ar (Aw (Kq:=K) rfl rfl z7 (Ad (by exact(Kz (N':=["part", "heads", "things", "gap"]) (idx:=[none,some 1,some 2,some 3]) Fl rfl (Fx (Kq:=K) rfl (qv 0)) (λ_ _ _ _ _=>by exact(Be (i:=0) (by show (["part", "heads", "things", "gap"]:v4).Nodup;decide +kernel))) qtN (λ_ _ _ _ _=>by exact(Ay d11 hr (Ad (qv 0) (Ad (qv 1) (Ad (qv 2) (Ad (qv 3) Ac)))))))) Ac)))) (by unfold Lk;walk_at "m")
theorem Qa (F:Fun K "rows_laid_out" "rows_laid_out" Hn f fd) (d12:Def P w K mg base "laid_out" 2 ["parts", "heads", "things", "gap"] (spP K Hg)) (z7:mg "tuple" = none) (yS:mg "zip" = none):FnOk P w K mg base CX0 3 f fd ["parts", "heads", "cells"] (spP K Dq):=by
 exact F.okQ Qi (λhr _ _=>Ah (Ar (Bh2 rfl rfl z7 rfl yS (Ad (qv 0) (Ad (Ay d12 hr (Ad (qv 0) (Ad (qv 1) (Ad (qv 2) (Ad Fj Ac))))) Ac))))) (by unfold G3;walk_at "m")
theorem Q8 (F:Fun K "check_doubles" "check_doubles" Hl f fd) (zB:mg "len" = none) (yJ:mg "min" = none) (c8:ClI K mg ⟨"Double.__init__", "FoldError", "rows", "rows", "rows ", " agree in key and names"⟩ "Double"):FnOk P w K mg base (CXe P w) 3 f fd ["groups"] (A1f K Bw):=by
 have aB6:=A4i c8;obtain⟨y7,x4,u8,aB0,y9,aA9,l8,l7,l6,l9,k8,k7,n3⟩:=c8
 refine F.okX zU (λvs H Q E h=>A4u h) (λcdv A outer s H vs Q E hr h=>?_)
 have hu:=hr.units;have hgd:=hr.gd
 refine Az9 (Ae (by exact(Vw (i:=1) zU.nd rfl (Or.inl rfl) (N':=["numbers"]) (idx:=[none]) Fl rfl (A4d (qv 0)) (λ_ _ _ _ _=>by exact(Be (i:=0) (by show (["numbers"]:v4).Nodup;decide +kernel))) (λ_ _ _ _ _=>by exact(Bp6 (Uv (Ge (Kq:=K) rfl rfl zB (Ad (qv 0) Ac)) Ag))) (λ_ _ _ _ _=>by exact(Cr (Ad (Ax (Kq:=K) rfl (qv 0) Ag Ao) (Ad (Ax (Kq:=K) rfl (qv 0) Ag Ao) Ac))))))
  (Ah (Cu (Uv (Ge (Kq:=K) rfl rfl zB (Ad (qv 1) Ac)) Ag) (Ae (An (i:=2) zU.nd (Be6 (Kq:=K) rfl rfl hr.un100 rfl yJ (Ad (qv 1) Ac)))
  (Ah (A1l Mv rfl rfl l8 l6.2 l9 k8 k7 (n3 _ _ _) (hr.mono (by lia)) (Cr (Ad (Ax (Kq:=K) rfl (qv 2) Ag Ao) (Ad (Ax (Kq:=K) rfl (qv 2) Ag Ao) Ac)))))) Bb))) ?_
 exact A5j (Tw (Ik (Nm (A9p (by decide) (Bc0 Av) G4 (Eh (Dw (N5 Av) (G8 rfl) Ap7)) (Tv (Bs (Dw Av (G8 rfl) Mt) (Bs (Dw Av (G8 rfl) Mt) Gf)))) G4))
  (Ad9 (Eh (Dw (N5 Av) (G8 rfl) Ap7)) (Tw (Ik (Nm (Jp Av A4b) G4))
  (A0u l7 (Tv (Bs (Dw Av (G8 rfl) Mt) (Bs (Dw Av (G8 rfl) Mt) Gf))))) (Ik Fi))) h
theorem A0x (F:Fun K "folded" "folded" Vh f fd) (d3:yT1 P w K mg base) (d4:yT2 P w K mg base) (d5:DefX P w K mg base "check_all_columns" 1 ["columns", "key", "names", "values"] (spX K Bm)) (d6:DefX P w K mg base "check_order" 1 ["order"] (spX K Cy)) (d7:Def P w K mg base "rows_by_place" 5 ["table", "key", "names"] (spP K Dp)) (d9:Def P w K mg base "parts_seen" 2 ["groups"] (spP K Fb)) (d10:Def P w K mg base "heads_seen" 6 ["groups", "order"] (spP K Ea)) (d13:Def P w K mg base "rows_laid_out" 3 ["parts", "heads", "cells"] (spP K Dq)) (d14:DefX P w K mg base "check_doubles" 3 ["groups"] (A1f K Bw)) (z7:mg "tuple" = none):FnOk P w K mg base (CXe P w) 7 f fd ["table", "key", "names", "values", "order"] (spX K Cj):=by
 obtain⟨aE9,aC2,aB7,aA0,aC1,u7⟩:=d5;obtain⟨aE5,aD0,aB5,x9,aA7,t9⟩:=d6;obtain⟨aF3,aC8,x3,x5,z4,x8⟩:=d14
 refine F.okX zN (λvs H Q E h=>Yk h) (λcdv A outer s H vs Q E hr h=>?_)
 have hu:=hr.units;have hgd:=hr.gd
 refine Az9 (Ae (G5 (Pb aB7 (hr.mono (by lia)) rfl u7 aC1 aA0 .nil Qd (Ad (Ax (Kq:=K) rfl (qv 0) Ag Ao) (Ad (qv 1) (Ad (qv 2) (Ad (qv 3) Ac))))))
  (Ae (G5 (Pb aB5 (hr.mono (by lia)) rfl t9 aA7 x9 .nil Qd (Ad (qv 4) Ac)))
  (Ae (An (i:=5) zN.nd (Ay d7 hr (Ad (qv 0) (Ad (qv 1) (Ad (qv 2) Ac)))))
  (Ae (G5 (Pb x3 (hr.mono (by lia)) rfl x8 z4 x5 .nil Qd (Ad (qv 5) Ac)))
  (Ae (An (i:=6) zN.nd (Ay d3 hr (Ad (qv 0) (Ad (qv 3) Ac))))
  (Ae (An (i:=7) zN.nd U3) (Ao1 (d:=7) (Ls PassesOwn.leaving rfl (A0g (qv 5)) (Yg (Kq:=K) rfl (n:=2) rfl (Ep (Be (i:=8) zN.nd) (Ep (Be (i:=9) zN.nd) O5))) (Ah (Aw6 hu (qv 7) (qv 8) (Ay d4 hr (Ad (Ax (Kq:=K) rfl (Ax (Kq:=K) rfl (qv 0) Ag Ao) (Ax (Kq:=K) rfl (qv 9) Ag Ao) A3w) (Ad (qv 6) Ac))))))
  (Ae (An (i:=10) zN.nd (Ay d10 hr (Ad (qv 5) (Ad (qv 4) Ac))))
  (Ae (An (i:=11) zN.nd (Ay d13 hr (Ad (Ay d9 hr (Ad (qv 5) Ac)) (Ad (qv 10) (Ad (qv 7) Ac)))))
  (Ah (Ar (Cr (Ad (Aw (Kq:=K) rfl rfl z7 (Ad (qv 1) Ac)) (Ad (Aw (Kq:=K) rfl rfl z7 (Ad (qv 2) Ac)) (Ad (Aw (Kq:=K) rfl rfl z7 (Ad (qv 3) Ac)) (Ad (qv 10) (Ad (qv 11) Ac))))))))))))))))) ?_
 exact Zj (by unfold Ht;unfold Iz;walk_at "m") h
theorem Y7 (F:Fun K "_law_cell_at" "_law_cell_at" Lh f fd) (zB:mg "len" = none):FnOk P w K mg base CX0 1 f fd [lL, "_law_k"] (spP K Et):=by
 exact F.okQ Zv (λ_ _ _=>Ae (Cu (Ai4 (qv 1) (Ge (Kq:=K) rfl rfl zB (Ad (qv 0) Ac))) (Ah (Ar (Bs9 (show IxR _ (rIx K) from B2c) (qv 0) (qv 1) Vf))) Bb)
  (Ah (Ar Ag))) (by unfold Hs;walk_at "m")
theorem A7p (F:Fun K "_law_box" "_law_box" Xu f fd) (d16:Def P w K mg base "_law_cell_at" 1 [lL, "_law_k"] (spP K Et)) (yP:mg "abs" = none) (zT:mg "int" = none):FnOk P w K mg base CX0 2 f fd [lL, "_law_k"] (spP K Jy):=by
 exact F.okQ yQ (λhr _ _=>Ae (An (i:=2) yQ.nd (Ay d16 hr (Ad (qv 0) (Ad (qv 1) Ac))))
  (Ah (Ar (Di (Ad (Hu (Rm (Kq:=K) rfl rfl yP (Ad (qv 2) Ac)) (Pq (Kq:=K) rfl rfl zT (Ad (A7t (Rm (Kq:=K) rfl rfl yP (Ad (qv 2) Ac)) (Qz Ag Ag)) Ac))) (Ad (Dc (Dc (Gm (qv 2) Ag) (Hu Ag (qv 1))) Ag) (Ad Ag Ac))))))) (by unfold Uc;walk_at "m")
theorem A1a (F:Fun K "_law_take" "_law_take" Vo f fd):FnOk P w K mg base CX0 1 f fd [lH, lJ] (spP K Aj):=by
 exact F.okQ yE (λ_ _ _=>Ae (Cu (Uv (Ax (Kq:=K) rfl (qv 0) Ag Ao) Ag) (Ae (An (i:=2) yE.nd (Gm (Ax (Kq:=K) rfl (qv 0) Ag Ao) (qv 1)))
  (Ae (X7 (Vi (Ax (Kq:=K) rfl (qv 0) Ag Ao) (qv 1)) (Ao4 (qv 0) Ag set_list))
  (Ah (Ar (qv 2))))) Bb)
  (Ae (X7 (Dc (Ax (Kq:=K) rfl (qv 0) Ag Ao) Ag) (Ao4 (qv 0) Ag set_list))
  (Ae (An (i:=3) yE.nd (Gm (Hu (Dc (Ax (Kq:=K) rfl (qv 0) Ag Ao) (Hu Ag (Ax (Kq:=K) rfl (qv 0) Ag Ao))) (Dc Ag (Ax (Kq:=K) rfl (qv 0) Ag Ao))) Ag))
  (Ae (An (i:=4) yE.nd (Gm (Hu (Dc (qv 3) (Ax (Kq:=K) rfl (qv 0) Ag Ao)) (Dc (Gm (qv 3) Ag) Ag)) Ag))
  (Ah (Ar (Gm (Vi (Gm (Dc (Hu (qv 4) Ag) (qv 3)) Ag) Ag) (qv 1)))))))) (by unfold Mh;walk_at "m")
abbrev yT0 (P w K mg base):=Def P w K mg base "_law_take" 1 [lH, lJ] (spP K Aj)
theorem A3j (F:Fun K "_law_many" "_law_many" Ua f fd) (d18:yT0 P w K mg base):FnOk P w K mg base CX0 2 f fd [lH, "_law_least", "_law_few", "_law_most"] (spP K Gk):=by
 exact F.okQ A3e (λhr hu _=>Ae (Cu (Ja hu (Ay d18 hr (Ad (qv 0) (Ad Ag Ac))) Ag) (Ah (Ar (Dc Ag (Ay d18 hr (Ad (qv 0) (Ad (Jr (qv 3) Ag) Ac)))))) Bb)
  (Ah (Ar (Dc (qv 1) (Ay d18 hr (Ad (qv 0) (Ad (Dc (Jr (qv 2) (qv 1)) Ag) Ac))))))) (by unfold Mm;walk_at "m")
theorem Ak9 (F:Fun K "_law_names" "_law_names" Qv f fd) (d18:yT0 P w K mg base) (zB:mg "len" = none) (zH:mg "range" = none):FnOk P w K mg base CX0 2 f fd [lH, lJ] (spP K Hz):=by
 exact F.okQ yN (λhr _ _=>Ae (An (i:=2) yN.nd (Di (Mi (vs:=[.str "b",.str "a",.str "year",.str "z",.str "ab",.str "month",.str "aa",.str "quantity",.str "c",.str "town",.str "zz",.str "ba"]) rfl)))
  (Ah (Ar (by exact(Kz (N':=["_law_turn", "_law_some", lH]) (idx:=[none,some 2,some 0]) Fl rfl (Mp rfl zH (Ad (qv 1) Ac)) (λ_ _ _ _ _=>by exact(Be (i:=0) (by show (["_law_turn", "_law_some", lH]:v4).Nodup;decide +kernel))) qtN (λ_ _ _ _ _=>by exact(Ve (Kq:=K) rfl dY jK jL Af9 (qv 1) (Ad (Ay d18 hr (Ad (qv 2) (Ad (Ge (Kq:=K) rfl rfl zB (Ad (qv 1) Ac)) Ac))) Ac)))))))) (by unfold N6;walk_at "m")
theorem Ak1 (F:Fun K "_law_value" "_law_value" Qq f fd) (d18:yT0 P w K mg base):FnOk P w K mg base CX0 2 f fd [lH] (spP K Du):=by
 exact F.okQ yO (λhr hu _=>Ae (An (i:=1) yO.nd (Ay d18 hr (Ad (qv 0) (Ad Ag Ac))))
  (Ae (Cu (Ai4 (qv 1) Ag) (Ah (Ar (Jr (Ay d18 hr (Ad (qv 0) (Ad Ag Ac))) Ag))) Bb)
  (Ae (Cu (Ja hu (qv 1) Ag) (Ah (Ar (Ax (Kq:=K) rfl (Di (Ad (Jr (Qz Ag Ag) Ag) (Ad (Jr Ag (Qz Ag Ag)) (Ad Ag (Ad Ag Ac))))) (Ay d18 hr (Ad (qv 0) (Ad Ag Ac))) Cw))) Bb)
  (Ae (Cu (Ja hu (qv 1) Ag) (Ah (Ar Fj)) Bb)
  (Ah (Ar (Ax (Kq:=K) rfl (Di (Mi (vs:=[.str "",.str "a",.str "b",.str "B",.str "10",.str "9",.str "-",.str "a b",.str "it's",.str "\\",.str "/",.str "_",.str ":",.str "None",.str "ab"]) rfl)) (Ay d18 hr (Ad (qv 0) (Ad Ag Ac))) Cw))))))) (by unfold Gu;walk_at "m")
theorem A1y (F:Fun K "_law_pool" "_law_pool" Uo f fd) (d21:Def P w K mg base "_law_value" 2 [lH] (spP K Du)) (zH:mg "range" = none):FnOk P w K mg base CX0 3 f fd [lH, lJ] (spP K Fo):=by
 exact F.okQ yF (λhr hu _=>Ae (An (i:=2) yF.nd (Di Ac))
  (Ae (Ls fj rfl (Mp rfl zH (Ad (qv 1) Ac)) (Be (i:=3) yF.nd) (Ae (An (i:=4) yF.nd (Ay d21 hr (Ad (qv 0) Ac)))
  (Ah (Cu (Oz hu (qv 4) (qv 2) (by with_unfolding_all rfl)) (Ah (G5 (Hv (Kq:=K) rfl (qv 2) (qv 4)))) Bb))))
  (Ah (Ar (qv 2))))) (by unfold P0;walk_at "m")
theorem Aj7 (F:Fun K "_law_table" "_law_table" Q4 f fd) (d18:yT0 P w K mg base) (d20:Def P w K mg base "_law_names" 2 [lH, lJ] (spP K Hz)) (d22:Def P w K mg base "_law_pool" 3 [lH, lJ] (spP K Fo)) (zB:mg "len" = none) (zH:mg "range" = none) (z7:mg "tuple" = none):FnOk P w K mg base CX0 4 f fd [lH, lJ, "_law_rows"] (spP K J2):=by
 exact F.okQ zO (λhr hu _=>Ae (An (i:=3) zO.nd (Ay d20 hr (Ad (qv 0) (Ad (qv 1) Ac))))
  (Ae (by exact(Vw (i:=4) zO.nd rfl (Or.inl rfl) (N':=["_law_name", lH]) (idx:=[none,some 0]) Fl rfl (Fx (Kq:=K) rfl (qv 3)) (λ_ _ _ _ _=>by exact(Be (i:=0) (by show (["_law_name", lH]:v4).Nodup;decide +kernel))) qtN (λ_ _ _ _ _=>by exact(Ay d22 hr (Ad (qv 1) (Ad (Ax (Kq:=K) rfl (Di (Mi (vs:=[.int 2,.int 3,.int 3,.int 5,.int 12]) rfl)) (Ay d18 hr (Ad (qv 1) (Ad Ag Ac))) Cw) Ac))))))
  (Ae (An (i:=5) zO.nd (Di Ac))
  (Ae (Ls fj rfl (Mp rfl zH (Ad (qv 2) Ac)) (Be (i:=6) zO.nd) (Ae (An (i:=7) zO.nd (Aw (Kq:=K) rfl rfl z7 (Ad (by exact(Kz (N':=["_law_pool_here", lH]) (idx:=[none,some 0]) Fl rfl (Fx (Kq:=K) rfl (qv 4)) (λ_ _ _ _ _=>by exact(Be (i:=0) (by show (["_law_pool_here", lH]:v4).Nodup;decide +kernel))) qtN (λ_ _ _ _ _=>by exact(Ax (Kq:=K) rfl (qv 0) (Ay d18 hr (Ad (qv 1) (Ad (Ge (Kq:=K) rfl rfl zB (Ad (qv 0) Ac)) Ac))) Cw)))) Ac)))
  (Ae (Cu (QW.qt (B0p (Rh hu (qv 5) (Di Ac)) (Bm4 (Ja hu (Ay d18 hr (Ad (qv 0) (Ad Ag Ac))) Ag)))) (Ah (An (i:=7) zO.nd (Ax (Kq:=K) rfl (qv 5) (Ay d18 hr (Ad (qv 0) (Ad (Ge (Kq:=K) rfl rfl zB (Ad (qv 5) Ac)) Ac))) Cw))) Bb)
  (Ah (G5 (Hv (Kq:=K) rfl (qv 5) (qv 7)))))))
  (Ah (Ar (Cr (Ad (Aw (Kq:=K) rfl rfl z7 (Ad (qv 3) Ac)) (Ad (Aw (Kq:=K) rfl rfl z7 (Ad (qv 5) Ac)) Ac))))))))) (by unfold J4;walk_at "m")
theorem Vs (F:Fun K "_law_any_table" "_law_any_table" Jj f fd) (d19:Def P w K mg base "_law_many" 2 [lH, "_law_least", "_law_few", "_law_most"] (spP K Gk)) (d23:Def P w K mg base "_law_table" 4 [lH, lJ, "_law_rows"] (spP K J2)):FnOk P w K mg base CX0 5 f fd [lH] (spP K Dl):=by
 exact F.okQ Tz (λhr _ _=>Ah (Ar (Ay d23 hr (Ad (qv 0) (Ad (Ay d19 hr (Ad (qv 0) (Ad Ag (Ad Ag (Ad Ag Ac))))) (Ad (Ay d19 hr (Ad (qv 0) (Ad Ag (Ad Ag (Ad Ag Ac))))) Ac)))))) (by unfold Hy;walk_at "m")
theorem Af3 (F:Fun K "_law_parted" "_law_parted" Ob f fd) (d18:yT0 P w K mg base) (zT:mg "int" = none) (zB:mg "len" = none) (zQ:mg "list" = none) (yJ:mg "min" = none):FnOk P w K mg base CX0 2 f fd [lH, "_law_columns"] (spP K Fp):=by
 exact F.okQ zP (λhr hu _=>Ae (An (i:=2) zP.nd (Dy (Kq:=K) rfl rfl zQ (Ad (qv 1) Ac)))
  (Ae (by exact(Vw (i:=3) zP.nd rfl (Or.inl rfl) (N':=["_law_one", "_law_left", lH]) (idx:=[none,some 2,some 0]) Fl rfl (Fx (Kq:=K) rfl (qv 1)) (λ_ _ _ _ _=>by exact(Be (i:=0) (by show (["_law_one", "_law_left", lH]:v4).Nodup;decide +kernel))) qtN (λ_ _ _ _ _=>by exact(Ve (Kq:=K) rfl dY jK jL Af9 (qv 1) (Ad (Ay d18 hr (Ad (qv 2) (Ad (Ge (Kq:=K) rfl rfl zB (Ad (qv 1) Ac)) Ac))) Ac)))))
  (Ae (An (i:=4) zP.nd (Dc Ag (Ay d18 hr (Ad (qv 0) (Ad (Ze (Kq:=K) rfl rfl rfl yJ (Ad (Ax (Kq:=K) rfl (Di (Ad Ag (Ad Ag Ac))) (Pq (Kq:=K) rfl rfl zT (Ad (Bs7 hu (Ay d18 hr (Ad (qv 0) (Ad Ag Ac))) Ag) Ac)) Cw) (Ad (Ge (Kq:=K) rfl rfl zB (Ad (qv 3) Ac)) Ac))) Ac)))))
  (Ae (An (i:=5) zP.nd (Wy (Kq:=K) rfl (qv 3) (Mw (qv 4)) Mr))
  (Ae (An (i:=6) zP.nd (Ay d18 hr (Ad (qv 0) (Ad (Dc (Ge (Kq:=K) rfl rfl zB (Ad (qv 5) Ac)) Ag) Ac))))
  (Ah (Ar (Cr (Ad (Wy (Kq:=K) rfl (qv 5) Mr (Mw (qv 6))) (Ad (Wy (Kq:=K) rfl (qv 5) (Mw (qv 6)) Mr) (Ad (Wy (Kq:=K) rfl (qv 3) Mr (Mw (qv 4))) Ac))))))))))) (by unfold Lj;walk_at "m")
theorem Bf8 (F:Fun K "_law_in" "_law_in" Ar0 f fd) (z7:mg "tuple" = none):FnOk P w K mg base CX0 1 f fd [lK, "_law_row", lM] (spP K Oo):=by
 exact F.okQ Bf1 (λ_ _ _=>Ah (Ar (Aw (Kq:=K) rfl rfl z7 (Ad (by exact(Kz (N':=["_law_name", "_law_row", lK]) (idx:=[none,some 1,some 0]) Fl rfl (Fx (Kq:=K) rfl (qv 2)) (λ_ _ _ _ _=>by exact(Be (i:=0) (by show (["_law_name", "_law_row", lK]:v4).Nodup;decide +kernel))) qtN (λ_ _ _ _ _=>by exact(Ax (Kq:=K) rfl (qv 1) (Ve (Kq:=K) rfl jy jz jA (Tp rfl) (Ax (Kq:=K) rfl (qv 2) Ag Ao) (Ad (qv 0) Ac)) Cw)))) Ac)))) (by unfold Zw;walk_at "m")
theorem A3d (F:Fun K "_law_word" "_law_word" Vj f fd) (yD:mg "ValueError" = none) (z8:mg "isinstance" = none) (i9:ClT K mg xT1 "BadColumns") (j2:ClT K mg xT2 "BadOrder") (i5:ClT K mg xT0 "BadRow") (i4:ClT K mg xT0 "BadWay") (h9:ClT K mg xT3 "Double") (c9:ClT K mg xT0 "NoColumn") (i6:ClT K mg xT0 "NoHead") (j3:ClT K mg xT0 "NoNumber") (k6:ClT K mg xT0 "NoPart") (i7:ClT K mg xT0 "NoRow") (h8:TbOk K (.type "ValueError") xT4):FnOk P w K mg base CX0 1 f fd ["_law_error"] (spP K Gv):=by
 obtain⟨aC4,aA3,aD6⟩:=i9;obtain⟨aD9,y6,aC9⟩:=j2;obtain⟨aF1,aA6,aF5⟩:=i5;obtain⟨aD3,aB3,aC5⟩:=i4;obtain⟨aF6,aA5,aE6⟩:=h9;obtain⟨aD1,aA8,aD5⟩:=c9;obtain⟨aE7,z5,aE1⟩:=i6;obtain⟨aD4,x6,aF2⟩:=j3;obtain⟨aE0,aA2,aD2⟩:=k6;obtain⟨aC6,aB2,aC7⟩:=i7;have aD7:=h8
 exact F.okQ zZ (λ_ hu _=>Ae (An (i:=1) zZ.nd (Di (Ad (Gg (Kq:=K) rfl rfl z8 (Ad (qv 0) (Ad (Jl rfl aA3) Ac))) (Ad (Gg (Kq:=K) rfl rfl z8 (Ad (qv 0) (Ad (Jl rfl y6) Ac))) (Ad (Gg (Kq:=K) rfl rfl z8 (Ad (qv 0) (Ad (Jl rfl aB3) Ac))) Ac)))))
  (Ae (An (i:=1) zZ.nd (Dc (qv 1) (Di (Ad (Gg (Kq:=K) rfl rfl z8 (Ad (qv 0) (Ad (Jl rfl x6) Ac))) (Ad (Gg (Kq:=K) rfl rfl z8 (Ad (qv 0) (Ad (Jl rfl aA5) Ac))) (Ad (Gg (Kq:=K) rfl rfl z8 (Ad (qv 0) (Ad (Jl rfl aA2) Ac))) Ac))))))
  (Ae (An (i:=1) zZ.nd (Dc (qv 1) (Di (Ad (Gg (Kq:=K) rfl rfl z8 (Ad (qv 0) (Ad (Jl rfl z5) Ac))) (Ad (Gg (Kq:=K) rfl rfl z8 (Ad (qv 0) (Ad (Jl rfl aA8) Ac))) (Ad (Gg (Kq:=K) rfl rfl z8 (Ad (qv 0) (Ad (Jl rfl aB2) Ac))) Ac))))))
  (Ae (Cu (QW.qt (Bc1 (Rh hu (Ve (Kq:=K) rfl dY PySem.F.slot_list_count PySem.F.type_list_count (A0q rfl hu) (qv 1) (Ad Ph Ac)) Ag) (Bc1 (Tt (Gg (Kq:=K) rfl rfl z8 (Ad (qv 0) (Ad (Jl rfl aA6) Ac)))) (A9n (A6z (Tt (Gg (Kq:=K) rfl rfl z8 (Ad (qv 0) (Ad (X6 (v:=.ty "ValueError") rfl yD V2 rfl) Ac))))))))) (Ah (Ar Cm)) Bb)
  (Ae (An (i:=2) zZ.nd (Di (Mi (vs:=[.str "BadColumns",.str "BadOrder",.str "BadWay",.str "NoNumber",.str "Double",.str "NoPart",.str "NoHead",.str "NoColumn",.str "NoRow"]) rfl)))
  (Ah (Ar (Ax (Kq:=K) rfl (qv 2) (Ve (Kq:=K) rfl dY PySem.F.slot_list_index PySem.F.type_list_index (A3f rfl hu) (qv 1) (Ad Ph Ac)) Cw)))))))) (by unfold Wz;walk_at "m")
theorem Pn (F:Fun K "_law_first_double" "_law_first_double" Gp f fd) (d26:Def P w K mg base "_law_in" 1 [lK, "_law_row", lM] (spP K Oo)) (zB:mg "len" = none):FnOk P w K mg base CX0 2 f fd [lK, lM] (spP K Bt):=by
 exact F.okQ zK (λhr hu _=>Ae (An (i:=2) zK.nd (Di Ac))
  (Ae (Ls fj rfl (Fx (Kq:=K) rfl (Ax (Kq:=K) rfl (qv 0) Ag Ao)) (Be (i:=3) zK.nd) (Ae (An (i:=4) zK.nd (Ay d26 hr (Ad (qv 0) (Ad (qv 3) (Ad (qv 1) Ac)))))
  (Ae (Cu (B3r hu (qv 4) (qv 2) (by with_unfolding_all rfl)) (Ah (Ar (Cr (Ad (By6 (Kq:=K) rfl hu (qv 2) (Ad (qv 4) Ac)) (Ad (Ge (Kq:=K) rfl rfl zB (Ad (qv 2) Ac)) Ac))))) Bb)
  (Ah (G5 (Hv (Kq:=K) rfl (qv 2) (qv 4)))))))
  (Ah (Ar Fj)))) (by unfold Ef;unfold Bh;walk_at "m")
theorem An5 (F:Fun K "_law_wrong" "_law_wrong" Pz f fd) (d18:yT0 P w K mg base) (zB:mg "len" = none) (zQ:mg "list" = none):FnOk P w K mg base CX0 2 f fd [lH, lN] (spP K Bg):=by
 exact F.okQ zJ (λhr hu _=>Ae (X7 (by exact(Kz (N':=["_law_some"]) (idx:=[none]) Fl rfl (Fx (Kq:=K) rfl (qv 1)) (λ_ _ _ _ _=>by exact(Be (i:=0) (by show (["_law_some"]:v4).Nodup;decide +kernel))) qtN (λ_ _ _ _ _=>by exact(Dy (Kq:=K) rfl rfl zQ (Ad (qv 0) Ac))))) (Bx3 (Kq:=K) rfl (n:=3) rfl (Ep (Be (i:=2) zJ.nd) (Ep (Be (i:=3) zJ.nd) (Ep (Be (i:=4) zJ.nd) O5)))))
  (Ae (An (i:=5) zJ.nd (Ay d18 hr (Ad (qv 0) (Ad Ag Ac))))
  (Ae (Cu (Ja hu (qv 5) Ag) (Ah (Ar (Cr (Ad (qv 2) (Ad (qv 3) (Ad (Di Ac) Ac)))))) Bb)
  (Ae (An (i:=6) zJ.nd (Ax (Kq:=K) rfl (Di (Ad (qv 2) (Ad (qv 3) (Ad (qv 4) Ac)))) (Ay d18 hr (Ad (qv 0) (Ad Ag Ac))) Cw)) (Ae (Cu (Ja hu (qv 5) Ag) (Ah (G5 (Hv (Kq:=K) rfl (qv 6) Cm))) Bb) (Ae (Cu (Ja hu (qv 5) Ag) (Ah (G5 (Hv (Kq:=K) rfl (qv 6) (Ax (Kq:=K) rfl (qv 4) Ag Ao)))) Bb)
  (Ae (Cu (Ja hu (qv 5) Ag) (Ah (G5 (B2x (Kq:=K) rfl dY jK jL B2j (qv 4)))) Bb)
  (Ae (Cu (Ja hu (qv 5) Ag) (Ah (X7 Cm (Ao4 (qv 4) (Ay d18 hr (Ad (qv 0) (Ad (Ge (Kq:=K) rfl rfl zB (Ad (qv 4) Ac)) Ac))) set_list))) Bb)
  (Ae (Cu (Ja hu (qv 5) Ag) (Ah (B0w (i:=2) (j:=3) rfl zJ.nd rfl rfl (by decide) rfl rfl (Ad (Dc (qv 2) (qv 3)) (Ad (Dc (Dc (qv 3) (qv 2)) (Wy (Kq:=K) rfl (qv 4) Mr (Mw Ag))) Ac)) rfl)) Bb)
  (Ae (Cu (Ja hu (qv 5) Ag) (Ah (An (i:=4) zJ.nd (Dc (qv 4) (Di (Ad Cm Ac))))) Bb)
  (Ah (Ar (Cr (Ad (qv 2) (Ad (qv 3) (Ad (qv 4) Ac)))))))))))))))) (Jc Ba4
  (Jc (Nm (Sw (Bs Av (Bs (G8 rfl) Gf))) G4)
  (Jc (Rn (Eh (Dw Av (G8 rfl) Je)) (Aq0 (Tv (Bs Av (Bs Av (Bs (As1 Gf) Gf))))) Fi)
  (A4z (Sw (Bs Av (Bs (G8 rfl) Gf))) (Eh (Dw Av (G8 rfl) Je)) (Eh (Dw Av (G8 rfl) Je)) (G8 rfl) (Dw Av (G8 rfl) Mt)
  (Jc (Rn (Eh (Dw Av (G8 rfl) Je)) (S5 (A5s Av)) Fi)
  (Jc (Rn (Eh (Dw Av (G8 rfl) Je)) (Nm (G8 rfl) (A5i Av (Sw (Bs Av (Bs (N5 Av) Gf))))) Fi)
  (Jc (Rn (Eh (Dw Av (G8 rfl) Je)) (A9z (Bs (Dw Av Av J8) (Bs (Dw (Dw Av Av J8) (Bt7 Av Ax1 (Ay8 (G8 rfl)) Au5) J8) Gf))) Fi)
  (Jc (Rn (Eh (Dw Av (G8 rfl) Je)) (Nm (Dw Av (As1 (Bs (G8 rfl) Gf)) J8) G4) Fi)
  (Aq0 (Tv (Bs Av (Bs Av (Bs Av Gf)))))))))))))
theorem An8 (F:Fun K "_law_comes" "_law_comes" Px f fd) (d15:DefX P w K mg base "folded" 7 ["table", "key", "names", "values", "order"] (spX K Cj)) (d27:Def P w K mg base "_law_word" 1 ["_law_error"] (spP K Gv)) (c8:ClI K mg ⟨"Double.__init__", "FoldError", "rows", "rows", "rows ", " agree in key and names"⟩ "Double") (h7:ClF K mg ["BadColumns", "BadOrder", "Double"] "FoldError"):FnOk P w K mg base CX0 8 f fd [lK, lN, "_law_order"] (spP K Bf):=by
 have aB6:=A4i c8;obtain⟨y7,x4,u8,aB0,y9,aA9,l8,l7,l6,l9,k8,k7,n3⟩:=c8;obtain⟨aF0,w4,aF4⟩:=h7;obtain⟨aE3,aC3,aB8,aB9,aB4,w9⟩:=d15
 exact F.okQ zW (λhr hu _=>Ae (An (i:=3) zW.nd Fj)
  (Ae (Bp2 (Kq:=K) rfl (j:=4) aB8 (hr.mono (by lia)) rfl w9 aB4 aB9 (λ_ _ z=>z) (Ad (qv 0) (Ad (Ax (Kq:=K) rfl (qv 1) Ag Ao) (Ad (Ax (Kq:=K) rfl (qv 1) Ag Ao) (Ad (Ax (Kq:=K) rfl (qv 1) Ag Ao) (Ad (qv 2) Ac))))) rfl ⟨rfl,rfl⟩ zW.nd rfl rfl rfl w4 (λ_=>by exact(Ah (An (i:=3) zW.nd (qv 4)))))
  (Ae (Cu (Qh (qv 3) Fj) (Ah (Ar (Cr (Ad Cm (Ad Fj Ac))))) Bb)
  (Ae (An (i:=5) zW.nd (Ay d27 hr (Ad (qv 3) Ac)))
  (Ah (Ar (Cr (Ad (qv 5) (Ad (Um (Ja hu (qv 5) Cm) (B5m (Kq:=K) rfl (qv 3)) Fj) Ac))))))))) (by unfold Ib;walk_at "m")
theorem B0r (F:Fun K "law" "law" A7q f fd) (d17:Def P w K mg base "_law_box" 2 [lL, "_law_k"] (spP K Jy)) (d18:yT0 P w K mg base) (d24:Def P w K mg base "_law_any_table" 5 [lH] (spP K Dl)) (d25:Def P w K mg base "_law_parted" 2 [lH, "_law_columns"] (spP K Fp)) (d28:Def P w K mg base "_law_first_double" 2 [lK, lM] (spP K Bt)) (d29:Def P w K mg base "_law_wrong" 2 [lH, lN] (spP K Bg)) (d30:Def P w K mg base "_law_comes" 8 [lK, lN, "_law_order"] (spP K Bf)) (zH:mg "range" = none) (zY:mg "str" = none):FnOk P w K mg base CX0 9 f fd [lL] (spP K Al3):=by
 exact F.okQ zM (λhr hu hgd=>Ae (Ls fj rfl (Mp rfl zH (Ad Ag Ac)) (Be (i:=1) zM.nd) (Ae (An (i:=2) zM.nd (Ay d17 hr (Ad (qv 0) (Ad (qv 1) Ac))))
  (Ae (An (i:=3) zM.nd (Ay d24 hr (Ad (qv 2) Ac)))
  (Ae (An (i:=4) zM.nd (Ay d25 hr (Ad (qv 2) (Ad (Ax (Kq:=K) rfl (qv 3) Ag Ao) Ac))))
  (Ae (An (i:=5) zM.nd (A6x (Kq:=K) rfl hu hgd rfl zY (Ad (qv 3) Ac)))
  (Ae (An (i:=6) zM.nd (Ay d28 hr (Ad (qv 3) (Ad (Dc (Ax (Kq:=K) rfl (qv 4) Ag Ao) (Ax (Kq:=K) rfl (qv 4) Ag Ao)) Ac))))
  (Ae (An (i:=7) zM.nd (Ax (Kq:=K) rfl (Di (Ad Cm (Ad Cm Ac))) (Ay d18 hr (Ad (qv 2) (Ad Ag Ac))) Cw))
  (Ae (An (i:=8) zM.nd (Um (Qh (qv 6) Fj) (Cr (Ad Cm (Ad Fj Ac))) (Cr (Ad Cm (Ad (qv 6) Ac)))))
  (Ae (Cu (Rh hu (Ay d30 hr (Ad (qv 3) (Ad (qv 4) (Ad (qv 7) Ac)))) (qv 8)) (Ah (Ar Ph)) Bb)
  (Ae (Cu (Ar6 (qv 6) Fj) (Ae (An (i:=9) zM.nd (Cr (Ad (Ax (Kq:=K) rfl (qv 3) Ag Ao) (Ad (Wy (Kq:=K) rfl (Ax (Kq:=K) rfl (qv 3) Ag Ao) Mr (Mw (Ax (Kq:=K) rfl (qv 6) Ag Ao))) Ac))))
  (Ah (Cu (Rh hu (Ay d30 hr (Ad (qv 9) (Ad (qv 4) (Ad (qv 7) Ac)))) (Cr (Ad Cm (Ad Fj Ac)))) (Ah (Ar Ph)) Bb))) Bb)
  (Ae (An (i:=10) zM.nd (Ax (Kq:=K) rfl (Di (Ad Fj (Ad Cm (Ad Cm (Ad Cm (Ad Ag (Ad (Cr (Ad Cm (Ad (Di Ac) Ac))) (Ad Cm Ac)))))))) (Ay d18 hr (Ad (qv 2) (Ad Ag Ac))) Cw))
  (Ae (Cu (Rh hu (Ay d30 hr (Ad (qv 3) (Ad (qv 4) (Ad (qv 10) Ac)))) (Cr (Ad Cm (Ad Fj Ac)))) (Ah (Ar Ph)) Bb)
  (Ae (An (i:=11) zM.nd (Ay d29 hr (Ad (qv 2) (Ad (qv 4) Ac))))
  (Ae (Ls fj rfl (Fx (Kq:=K) rfl (Cr (Ad (qv 7) (Ad (qv 10) Ac)))) (Be (i:=12) zM.nd) (Ah (Cu (Rh hu (Ay d30 hr (Ad (qv 3) (Ad (qv 11) (Ad (qv 12) Ac)))) (Cr (Ad Cm (Ad Fj Ac)))) (Ah (Ar Ph)) Bb)))
  (Ah (Cu (Rh hu (A6x (Kq:=K) rfl hu hgd rfl zY (Ad (qv 3) Ac)) (qv 5)) (Ah (Ar Ph)) Bb))))))))))))))))
  (Ah (Ar Ph))) (by unfold Bb7;unfold Ie;unfold Ma;walk_at "m")
end
theorem lnS {us:w6}(h:us.length=n+1):∃x r,us=x::r/\r.length=n:=by
 cases us with
 | nil=>grind
 | cons x r=>grind
theorem ln1 {us:w6}(h:us.length=1):∃x0,us=[x0]:=by
 obtain⟨x,r,a,b⟩:=lnS h
 simp_all
theorem ln2 {us:w6}(h:us.length=2):∃c b,us=[c,b]:=by
 obtain⟨c,r,a,d⟩:=lnS h;obtain⟨b,a⟩:=ln1 d
 grind
theorem ln3 {us:w6}(h:us.length=3):∃c d b,us=[c,d,b]:=by
 obtain⟨c,r,a,e⟩:=lnS h;obtain⟨d,b,a⟩:=ln2 e
 grind
theorem ln4 {us:w6}(h:us.length=4):∃c d e b,us=[c,d,e,b]:=by
 obtain⟨c,r,a,f⟩:=lnS h;obtain⟨d,e,b,a⟩:=ln3 f
 grind
theorem ln5 {us:w6}(h:us.length=5):∃c e d f b,us=[c,e,d,f,b]:=by
 obtain⟨c,r,a,g⟩:=lnS h;obtain⟨e,d,f,b,a⟩:=ln4 g
 grind
theorem _root_.bi {st:Stmt}(F:L2.Fun K x qual st f d)(ps:v4)(h:∀(i b e:Value) (g:Option Addr) (a c:Value) (us:w6),us.length=ps.length->bindArgs (PySem.W.fnOf x qual (Im st) (Gh st) (Ak st) .none i b e g a c) ⟨us,[]⟩=pure (ps.zip us):=by intro _ _ _ _ _ _ us hl;first | (obtain⟨_,rfl⟩:=ln1 hl;rfl) | (obtain⟨_,_,rfl⟩:=ln2 hl;rfl) | (obtain⟨_,_,_,rfl⟩:=ln3 hl;rfl) | (obtain⟨_,_,_,_,rfl⟩:=ln4 hl;rfl) | (obtain⟨_,_,_,_,_,rfl⟩:=ln5 hl;rfl)):L2.Binds K d ps []:=F.binds h
theorem mkD (a:FnOk P w K mg base CX0 k f d ps sp) (b:Binds K d ps []) (c:PySem.W.keepIn K (.ref f)=true) (g:mg x=some (.ref f)):Def P w K mg base x k ps sp:=⟨f,d,a,b,c,g⟩
theorem mkX {P:u9}{w:World}{K:v9}{mg:x_}{base:Heap}{k:Nat}{f:Addr}{fd:u6}{x:Str}{ps:v4}{sp:Sp}(a:FnOk P w K mg base (CXe P w) k f fd ps sp)(b:Binds K fd ps [])(c:PySem.W.keepIn K (.ref f)=true)(g:mg x=some (.ref f)):DefX P w K mg base x k ps sp:=⟨f,fd,a,b,c,g⟩
theorem Bl (T:PyProof.Rows.Top q loose g mg j h) (k:∀a o,h.get? a=some o->Eb o=true->o.data≠.fields #[]->K.lookup a=some o) (l:(PyProof.Rows.recsOf q).map (λd=>(d.name,d.params,d.body,d.scope))=L) {i:Nat} (e:L[i]?=some (x,Im st,Gh st,Ak st)):∃f fd,Fun K x x st f fd/\mg x=some (.ref f):=by
 obtain⟨d,m,rfl,a,b,c⟩:=A8l l e;exact Bd2 T k m a b c
abbrev rr (x:Str)(i:Nat):Str×Arguments×List Stmt×Scope:=(x,Im (top i),Gh (top i),Ak (top i))
theorem B1k {l:PySem.W.OpenLaw}{w:World}{q:u9}{loose:v4}{mean:ExcName->u_}{mg mb:x_}{h:Heap}{fa:Addr}(T:PyProof.Rows.Top q loose mean mg mb h)(hfa:mg "law" = some (.ref fa))
 (hlaw:∀ns:List Int,ns.length<=63->Al3 [.sc ns]=.ret (.im (.bool true)) [.sc ns])
 (hR:(PyProof.Rows.recsOf q).map (λd=>(d.name,d.params,d.body,d.scope))=[rr "rank" 13,rr "risen" 14,rr "place_of" 16,rr "places_of" 17,rr "values_at" 18,rr "check_all_columns" 21,rr "check_order" 22,rr "rows_by_place" 23,rr "first_seen" 24,rr "parts_seen" 25,rr "heads_seen" 26,rr "laid_row" 27,rr "laid_out" 28,rr "rows_laid_out" 29,rr "check_doubles" 30,rr "folded" 31,rr "_law_cell_at" 33,rr "_law_box" 34,rr "_law_take" 35,rr "_law_many" 36,rr "_law_names" 37,rr "_law_value" 38,rr "_law_pool" 39,rr "_law_table" 40,rr "_law_any_table" 41,rr "_law_parted" 42,rr "_law_in" 43,rr "_law_word" 44,rr "_law_first_double" 45,rr "_law_wrong" 46,rr "_law_comes" 47,rr "law" 48])
 (hB:(["ValueError", "abs", "all", "enumerate", "int", "isinstance", "len", "list", "min", "range", "sorted", "str", "tuple", "zip"]:v4).all (A9c q loose ["rank", "risen", "place_of", "places_of", "values_at", "check_all_columns", "check_order", "rows_by_place", "first_seen", "parts_seen", "heads_seen", "laid_row", "laid_out", "rows_laid_out", "check_doubles", "folded", "_law_cell_at", "_law_box", "_law_take", "_law_many", "_law_names", "_law_value", "_law_pool", "_law_table", "_law_any_table", "_law_parted", "_law_in", "_law_word", "_law_first_double", "_law_wrong", "_law_comes", "law"])=true)
 (hX:A2z tcT mg h)
 (hF:A0s xcR xcT xcV xcF h)
 (hI:A3z xcJ xcY h) :
 ∃(K:v9) (fd:u6),K.In h/\TabAt K h/\(∀(s:t6) (v:Value),BindsTo s fd ⟨[v],[]⟩ [("_law_script",v)])/\∀base:Heap,K.In base->base.Ns mainGlobals mg->FnOk l.prog w K mg base CX0 9 fa fd [lL] (Ay3 K):=by
 obtain⟨kin,tab,_,hK⟩:=B4j (h:=h) (tabs:=[]) (λt m=>nomatch m) (λt m=>nomatch m)
 generalize Oj h []=K at *
 obtain⟨f1,fd1,F1,g1⟩:=Bl T hK hR (st:=Zg) (i:=0) rfl;have b1:=bi F1 ["value"];obtain⟨f2,fd2,F2,g2⟩:=Bl T hK hR (st:=Yh) (i:=1) rfl;have b2:=bi F2 ["values"];obtain⟨f3,fd3,F3,g3⟩:=Bl T hK hR (st:=Ng) (i:=2) rfl;have b3:=bi F3 ["table", "name"];obtain⟨f4,fd4,F4,g4⟩:=Bl T hK hR (st:=Lp) (i:=3) rfl;have b4:=bi F4 ["table", "names"];obtain⟨f5,fd5,F5,g5⟩:=Bl T hK hR (st:=Lr) (i:=4) rfl;have b5:=bi F5 ["row", "places"];obtain⟨f6,fd6,F6,g6⟩:=Bl T hK hR (st:=Ex) (i:=5) rfl;have b6:=bi F6 ["columns", "key", "names", "values"];obtain⟨f7,fd7,F7,g7⟩:=Bl T hK hR (st:=Jg) (i:=6) rfl;have b7:=bi F7 ["order"];obtain⟨f8,fd8,F8,g8⟩:=Bl T hK hR (st:=Hm) (i:=7) rfl;have b8:=bi F8 ["table", "key", "names"];obtain⟨f9,fd9,F9,g9⟩:=Bl T hK hR (st:=J5) (i:=8) rfl;have b9:=bi F9 ["things"];obtain⟨f10,fd10,F10,g10⟩:=Bl T hK hR (st:=Ka) (i:=9) rfl;have b10:=bi F10 ["groups"];obtain⟨f11,fd11,F11,g11⟩:=Bl T hK hR (st:=Jz) (i:=10) rfl;have b11:=bi F11 ["groups", "order"];obtain⟨f12,fd12,F12,g12⟩:=Bl T hK hR (st:=Nj) (i:=11) rfl;have b12:=bi F12 ["part", "heads", "things", "gap"];obtain⟨f13,fd13,F13,g13⟩:=Bl T hK hR (st:=N8) (i:=12) rfl;have b13:=bi F13 ["parts", "heads", "things", "gap"];obtain⟨f14,fd14,F14,g14⟩:=Bl T hK hR (st:=Hn) (i:=13) rfl;have b14:=bi F14 ["parts", "heads", "cells"];obtain⟨f15,fd15,F15,g15⟩:=Bl T hK hR (st:=Hl) (i:=14) rfl;have b15:=bi F15 ["groups"];obtain⟨f16,fd16,F16,g16⟩:=Bl T hK hR (st:=Vh) (i:=15) rfl;have b16:=bi F16 ["table", "key", "names", "values", "order"];obtain⟨f17,fd17,F17,g17⟩:=Bl T hK hR (st:=Lh) (i:=16) rfl;have b17:=bi F17 [lL, "_law_k"];obtain⟨f18,fd18,F18,g18⟩:=Bl T hK hR (st:=Xu) (i:=17) rfl;have b18:=bi F18 [lL, "_law_k"];obtain⟨f19,fd19,F19,g19⟩:=Bl T hK hR (st:=Vo) (i:=18) rfl;have b19:=bi F19 [lH, lJ];obtain⟨f20,fd20,F20,g20⟩:=Bl T hK hR (st:=Ua) (i:=19) rfl;have b20:=bi F20 [lH, "_law_least", "_law_few", "_law_most"];obtain⟨f21,fd21,F21,g21⟩:=Bl T hK hR (st:=Qv) (i:=20) rfl;have b21:=bi F21 [lH, lJ];obtain⟨f22,fd22,F22,g22⟩:=Bl T hK hR (st:=Qq) (i:=21) rfl;have b22:=bi F22 [lH];obtain⟨f23,fd23,F23,g23⟩:=Bl T hK hR (st:=Uo) (i:=22) rfl;have b23:=bi F23 [lH, lJ];obtain⟨f24,fd24,F24,g24⟩:=Bl T hK hR (st:=Q4) (i:=23) rfl;have b24:=bi F24 [lH, lJ, "_law_rows"];obtain⟨f25,fd25,F25,g25⟩:=Bl T hK hR (st:=Jj) (i:=24) rfl;have b25:=bi F25 [lH];obtain⟨f26,fd26,F26,g26⟩:=Bl T hK hR (st:=Ob) (i:=25) rfl;have b26:=bi F26 [lH, "_law_columns"];obtain⟨f27,fd27,F27,g27⟩:=Bl T hK hR (st:=Ar0) (i:=26) rfl;have b27:=bi F27 [lK, "_law_row", lM];obtain⟨f28,fd28,F28,g28⟩:=Bl T hK hR (st:=Vj) (i:=27) rfl;have b28:=bi F28 ["_law_error"];obtain⟨f29,fd29,F29,g29⟩:=Bl T hK hR (st:=Gp) (i:=28) rfl;have b29:=bi F29 [lK, lM];obtain⟨f30,fd30,F30,g30⟩:=Bl T hK hR (st:=Pz) (i:=29) rfl;have b30:=bi F30 [lH, lN];obtain⟨f31,fd31,F31,g31⟩:=Bl T hK hR (st:=Px) (i:=30) rfl;have b31:=bi F31 [lK, lN, "_law_order"];obtain⟨f32,fd32,F32,g32⟩:=Bl T hK hR (st:=A7q) (i:=31) rfl;have b32:=bi F32 [lL]
 have yD:=De (x := "ValueError") T (Ci hR) hB (by simp)
 have yP:=De (x := "abs") T (Ci hR) hB (by simp)
 have yR:=De (x := "all") T (Ci hR) hB (by simp)
 have yG:=De (x := "enumerate") T (Ci hR) hB (by simp)
 have zT:=De (x := "int") T (Ci hR) hB (by simp)
 have z8:=De (x := "isinstance") T (Ci hR) hB (by simp)
 have zB:=De (x := "len") T (Ci hR) hB (by simp)
 have zQ:=De (x := "list") T (Ci hR) hB (by simp)
 have yJ:=De (x := "min") T (Ci hR) hB (by simp)
 have zH:=De (x := "range") T (Ci hR) hB (by simp)
 have yL:=De (x := "sorted") T (Ci hR) hB (by simp)
 have zY:=De (x := "str") T (Ci hR) hB (by simp)
 have z7:=De (x := "tuple") T (Ci hR) hB (by simp)
 have yS:=De (x := "zip") T (Ci hR) hB (by simp)
 have yM:=Br3 hX hK (i:=0) (y := "ORDERS") (ss:=[Str.ofString "seen",Str.ofString "rising"]) rfl;obtain⟨qR,qT,h8,qF⟩:=Bm2 hF kin T.g hK;have j1:ClR K mg "BadColumns" := qR 0 _ rfl;have i8:ClR K mg "BadOrder" := qR 1 _ rfl;have i9:ClT K mg xT1 "BadColumns" := qT 0 _ rfl;have j2:ClT K mg xT2 "BadOrder" := qT 1 _ rfl;have i5:ClT K mg xT0 "BadRow" := qT 2 _ rfl;have i4:ClT K mg xT0 "BadWay" := qT 3 _ rfl;have h9:ClT K mg xT3 "Double" := qT 4 _ rfl;have c9:ClT K mg xT0 "NoColumn" := qT 5 _ rfl;have i6:ClT K mg xT0 "NoHead" := qT 6 _ rfl;have j3:ClT K mg xT0 "NoNumber" := qT 7 _ rfl;have k6:ClT K mg xT0 "NoPart" := qT 8 _ rfl;have i7:ClT K mg xT0 "NoRow" := qT 9 _ rfl;obtain⟨qJ,qY⟩:=Bj2 hI kin T.g hK
 have i_Double:ClI K mg ⟨"Double.__init__", "FoldError", "rows", "rows", "rows ", " agree in key and names"⟩ "Double" := qJ 0 _ rfl (As6 λ_ _ _ _ _ _ _ _ _ _ _ _ _ _ _ _ _ _ _=>rfl)
 have h7:ClF K mg ["BadColumns", "BadOrder", "Double"] "FoldError" := let ⟨g,a,b,_⟩:=qY 0 _ rfl; ⟨g,a,b⟩
 have e:=hfa.symm.trans g32
 cases e
 refine⟨K,fd32,kin,tab,A4g F32 (λkV dc pm an cd ct s v=>.of_eq rfl),λbase _ _=>?_⟩
 have M:∀{k f fd x ps sp},FnOk l.prog w K mg base CX0 k f fd ps sp->Binds K fd ps []->PySem.W.keepIn K (.ref f)=true->mg x=some (.ref f)->Def l.prog w K mg base x k ps sp:=mkD;have d0:Def l.prog w K mg base "rank" 2 ["value"] (spP K (Ed 2)):=mkD (Ai0 F1 b1 g1 zT z8 zY z7 2) b1 F1.kp g1;have d1:=M (A5l F2 d0 yL) b2 F2.kp g2;have d2:=M (Af1 F3 ) b3 F3.kp g3;have d3:=M (Yc F4 d2) b4 F4.kp g4;have d4:=M (Yt F5 z7) b5 F5.kp g5;have d5:=mkX (Lg (P:=l.prog) (w:=w) (mg:=mg) (base:=base) F6 yR zB zQ j1) b6 F6.kp g6;have d6:=mkX (Tf (P:=l.prog) (w:=w) (mg:=mg) (base:=base) F7 yM i8) b7 F7.kp g7;have d7:=M (Qn F8 d3 d4 yG) b8 F8.kp g8;have d8:=M (V5 F9 z7) b9 F9.kp g9;have d9:=M (V7 F10 d8) b10 F10.kp g10;have d10:=M (Wh F11 d1 d8 z7) b11 F11.kp g11;have d11:=M (Ah7 F12 z7) b12 F12.kp g12;have d12:=M (Ag8 F13 d11 z7) b13 F13.kp g13;have d13:=M (Qa F14 d12 z7 yS) b14 F14.kp g14;have d14:=mkX (Q8 (P:=l.prog) (w:=w) (mg:=mg) (base:=base) F15 zB yJ i_Double) b15 F15.kp g15;have d15:=mkX (A0x (P:=l.prog) (w:=w) (mg:=mg) (base:=base) F16 d3 d4 d5 d6 d7 d9 d10 d13 d14 z7) b16 F16.kp g16;have d16:=M (Y7 F17 zB) b17 F17.kp g17;have d17:=M (A7p F18 d16 yP zT) b18 F18.kp g18;have d18:=M (A1a F19 ) b19 F19.kp g19;have d19:=M (A3j F20 d18) b20 F20.kp g20;have d20:=M (Ak9 F21 d18 zB zH) b21 F21.kp g21;have d21:=M (Ak1 F22 d18) b22 F22.kp g22;have d22:=M (A1y F23 d21 zH) b23 F23.kp g23;have d23:=M (Aj7 F24 d18 d20 d22 zB zH z7) b24 F24.kp g24;have d24:=M (Vs F25 d19 d23) b25 F25.kp g25;have d25:=M (Af3 F26 d18 zT zB zQ yJ) b26 F26.kp g26;have d26:=M (Bf8 F27 z7) b27 F27.kp g27;have d27:=M (A3d F28 yD z8 i9 j2 i5 i4 h9 c9 i6 j3 k6 i7 h8) b28 F28.kp g28;have d28:=M (Pn F29 d26 zB) b29 F29.kp g29;have d29:=M (An5 F30 d18 zB zQ) b30 F30.kp g30;have d30:=M (An8 F31 d15 d27 i_Double h7) b31 F31.kp g31
 exact(B0r F32 d17 d18 d24 d25 d28 d29 d30 zH zY).imp λvs H Q E h=>Bu9 hlaw h
theorem walk {l:PySem.W.OpenLaw}{q:u9}{loose:v4}{XP:(x_)->Heap->Prop}{YP:World->Heap->Prop}{d:DefRec}(hn:l.most=some 63)(hdf:d.params.defaults=[])
 (F:∀(w:World) (mean:ExcName->u_) (mg mb:x_) (fa:Addr) (h:Heap),PyProof.Rows.Top q (PySem.W.looseW q loose) mean mg mb h->XP mg h->mg d.name=some (.ref fa) ->
  ∃(K:v9) (fd:u6),K.In h/\TabAt K h/\(∀(s:t6) (u:Value),BindsTo s fd ⟨[u],[]⟩ [("_law_script",u)])/\∀base:Heap,K.In base->base.Ns mainGlobals mg->FnOk l.prog w K mg base CX0 9 fa fd [lL] (Ay3 K)) :
 PySem.W.WalkO q loose XP YP l.row.toRowW d [] (λf vs=>PySem.call f vs) :=
 L2.walk_ofX (n:=63) (k:=9) (x := "_law_script") (sp:=Ay3) hn (by decide) hdf ⟨rfl,by decide,by decide,rfl⟩ F λ_ _ a ns hl hS=>⟨a,ns,rfl,hS,hl,λ_=>rfl⟩
end K
open PySem PySem.W PyProof.Rows
set_option maxHeartbeats 0
namespace K
noncomputable def dOf:Stmt->DefRec
 | .FunctionDef _ a b _ _ _ s _ _ p=>⟨"law",a,b,s,p⟩
 | _=>⟨"law",⟨[],[],none,[],[],none,[]⟩,[],default,default⟩
def dL:DefRec:=⟨"law",(dOf (top 48)).params,(dOf (top 48)).body,(dOf (top 48)).scope,(dOf (top 48)).pos⟩
theorem B4l:rwT.wellSaid=true:=by kernel_rfl
theorem B6i:defOf qT rwT.row.name=some (dL,[]):=by kernel_rfl
theorem B6l:rwT.row.prog.theDef rwT.row.name=some (dL.params,dL.body,dL.scope):=by trivial
theorem kwT:kwWritten? dL.params.kwonlyargs dL.params.kw_defaults=some []:=by trivial
theorem okT:(chainsOk qT&&opensWell rwT.row.prog&&(frees rwT.row.toRowW&&rwT.row.within.isEmpty))=true:=by trivial
theorem dfT:dL.params.defaults=[]:=by rfl
theorem B4n:rwT.row.prog.bare:=⟨rfl,rfl,rfl,rfl,rfl,by decide +kernel⟩
theorem B3o:rwT.row.toRowW.promised:=by w_witness2
end K
theorem PySem.Challenge.cw_pivotfold_k11_doubles_columns_and_orders_holds : PySem.Challenge.rw_pivotfold_k11_doubles_columns_and_orders.Holds := by
 refine holds_law K.B4l λsaid=>?_
 refine holds_open (q:=K.qT) (loose:=["ORDERS"]) (Xt:=K.xtT) (XP:=(λmg h=>L2.A2z K.tcT mg h/\L2.A0s K.xcR K.xcT K.xcV K.xcF h/\L2.A3z K.xcJ K.xcY h)) (Yf:=Hook.none.obs) (Ya:=Hook.none.val) (YP:=Hook.none.says) (N:=20000) K.B4s Hook.none.of Hook.none.keeps (λs e=>⟨L2.B5l (az.mp (az.mp (az.mp e).1).1).2,L2.B5f (az.mp (az.mp e).1).2,L2.B5p (az.mp e).2⟩) (λmg h h' x hk=>⟨L2.A6y mg h h' x.1 hk,L2.A8a x.2.1 hk,L2.A9k x.2.2 hk⟩) K.B6i K.B6l K.kwT (λs e=>recFacts_of (az.mp (az.mp (az.mp (az.mp e).1).1).1).2) rfl said K.okT K.B4n K.B3o ?_
 refine K.walk (l:=PySem.Challenge.rw_pivotfold_k11_doubles_columns_and_orders) rfl K.dfT ?F
 case F =>
  intro w mean mg mb fa h T X hmg
  refine K.B1k T hmg K.A9q ?R ?B X.1 X.2.1 X.2.2
  (case R=>kernel_rfl); (case B=>kernel_rfl)
end
