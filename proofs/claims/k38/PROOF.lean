import PyProof.Rows.All
import PySem.Challenge.RW_pivotfold_k38_one_column_moved
import KE.KSortTup
import KE.KDictOf
import KE.KNestM
import KE.KFromBytes
import KE.KTryMore
import KE.KLam
import KE.KPairComp
import KE.KUnpack
import KE.KRevIter
import KE.KMinKey
set_option genInjectivity false
set_option genSizeOf false
set_option Elab.async false
set_option linter.all false
set_option maxRecDepth 100000
set_option compiler.extract_closed false
noncomputable section
open PySem renaming wpAny_bind→aj,wpAny_pure→ak,wpAny_mono→aL,wpAny_field→aX,wpAny_call_entry→bA,wpAny_holding→bH,wpAny_newObj_type→bN,wpAny_loadPart_at→bR,wpAny_callSpecial?_slot→b_,wpAny_rule→cJ,wpAny_seqItems→cL,wpAny_attempt→cN,wpAny_standAt→cT,wpAny_isInstance→cZ,wpAny_typeOf→dj,call_meets→dm,codeAny_builtin→dq,strLen_append→dz,wpAny_specialOf→dI,wpAny_pyIter_tuple→dR,call_meetsIn→eV,wpAny_setField_rec→fc,isSubtype_stop→fj,eqIsQuiet_byValue→fH,wpAny_execs_cons→fJ,wpAny_call→fL,codeAny_mono→fM,wpAny_pyIter_list→fX,plainId_quiet→gb,wpAny_truthy_bool→gC,wpAny_execs_nil→gD,wpAny_bindName→gG,wpAny_passesOwn→gH,wpAny_Call_Name_kw→gJ,mem_of_lookup→gK,wpAny_setField→gU,codeAny_call_builtin→gW,wpAny_isSubtype_exc→gY,wpAny_updateSeq→g_,pushCells_keeps→iH,wpAny_onRaise→iM,wpAny_notOrdered_dict→iW,wpAny_raiseNew_none→iZ,wpAny_forIn_list→jd,noFill_tuple_add→jg,wpAny_Call_method→jn,wpAny_updateSeq_pair→jw,wpAny_pyIter_zip→jx,wpAny_pyIter_slot→jF,wpAny_callSpecialIfBoundUnlessNone?_slot→jM
open Nat renaming le_trans→ao,le_refl→au,lt_of_lt_of_le→aH,ne_of_lt→aM,zero_le→aP,zero_add→aQ,lt_irrefl→bc,lt_of_le_of_lt→bB,ne_of_gt→bU,add_le_add_left→bZ,le_add_right→cQ,le_of_lt→cR,sub_self→dD,mul_le_mul_left→dG,le_succ→dN,le_of_eq→dO,add_assoc→d_,le_of_succ_le→eX,lt_succ_self→eY,sub_zero→fu,min_self→fB,mul_le_mul→fD,lt_succ_of_lt→fW,min_eq_left→gw,lt_trans→gQ,add_lt_add_of_lt_of_le→ir,succ_le_succ→iD,lt_or_ge→j6,le_of_not_lt→jo
open List renaming length_map→aq,mem_map→aB,mem_cons→aD,map_cons→aG,length_append→aK,mem_singleton→aN,mem_append_right→aR,lookup_cons→aU,not_mem_nil→aY,mem_append_left→bf,mem_of_getElem?→bh,map_append→bw,getElem?_eq_getElem→bz,nodup_cons→bC,mem_cons_of_mem→bD,getElem?_eq_some_iff→bG,mem_append→bJ,getElem?_map→bK,all_eq_true→bL,length_set→bQ,mem_cons_self→bV,length_cons→bW,getElem?_set_ne→cj,getElem?_set_self→cA,map_map→cP,zip_cons_cons→cX,append_nil→cY,size_toArray→dg,length_take→di,take_length→du,getElem?_cons_succ→dC,getElem?_append_left→dF,nil_append→dH,filterMap_cons→dJ,replicate_succ→dM,getElem?_append_right→dX,length_zip→dY,append_assoc→dZ,mem_filterMap→eO,nodup_nil→eU,nodup_append→fC,any_cons→fP,forIn_cons→fV,take_succ→gf,map_nil→gh,filter_cons→gA,all_cons→gM,flatten_cons→gP,contains_cons→gV,drop_zero→gZ,set_comm→iz,of_mem_zip→iB,length_drop→iC,length_singleton→iI,forIn_nil→iK,ext_getElem?→j5,getElem?_eq_none→j7,length_replicate→j8,length_nil→j9,getD_eq_getElem?_getD→jc,take_sublist→jf,filterMap_map→jk,getElem_mem→jr,getElem?_zip_eq_some→jt,countP_cons→jz,cons_append→jD,drop_length→jH,getElem?_range→jK,eraseIdx_cons_succ→jL
open PySem.Heap renaming lt_size→az,get?_push_of_some→aC,get?_push_size→aJ,get?_update_self→bO,size_push→c7,get?_update_other→cM,get?_none_of_le→gB
open Bool renaming and_eq_true_iff→aA,false_ne_true→aW,and_eq_true→cu,false_eq_true→cD,not_true→ik,not_false→il,not_eq_true'→jC,or_eq_true_iff→jJ
open Ne renaming symm→aF
open Option renaming map_eq_some_iff→aV,bind_eq_some_iff→cW,map_some→fG,bind_some→gj
open PySem.Heap.SameBut renaming update→bI
open Option.some renaming inj→bT,injEq→jq
open PySem.PassesOwn renaming never→cz
open LawfulBEq renaming eq_of_beq→cU
open PySem.Calls renaming spliced_cons→dh,spliced_nil→eQ,callWith_builtin→fQ,evalArgs_plain→gO
open PySem.Obj renaming data_mapFields→dw,isFreed_of_fields→e_,cls_mapFields→iJ
open PySem.W renaming looks_findIn→dB
open PySem.Around renaming under_plainId→dU
open PySem.F renaming slot_zip_next→dW,slot_dict_get→fU,plainAttrs_list→fZ,plainAttrs_dict→gR,plain_extend_loop→h_,slot_NoneType_hash→iu,slot_tuple_hash→iw,entry_dict_get→iG,entry_zip_next→iQ,args_zip_next_1→iR,excAttr_ValueError→iV,slot_dict_keyiterator_next→iY,slot_dict_itemiterator_next→i_,plain_list_iadd→j0,slot_dict_valueiterator_next→j4,slot_tuple_add→jh,entry_tuple_add→ji,args_tuple_add_2→jj,args_object_init_2→jy,typeOf_object_class→jA,entry_dict_keyiterator_next→jP,args_dict_keyiterator_next_1→jQ,entry_dict_itemiterator_next→jR,args_dict_itemiterator_next_1→jT,entry_dict_valueiterator_next→jU,args_dict_valueiterator_next_1→jV
open PySem.Paired renaming length→eG
open PyProof.Rows renaming callWith_type1→eN,assignInOrder_cons→fK,slot_tuple_getitem→fO,assignInOrder_nil→je,callWith_builtin1→jN
open Int renaming toNat_natCast→eZ,eq_ofNat_of_zero_le→ig,ofNat_le→jb
open Nat.succ renaming inj→ie
open Array renaming forIn_toList→iy,getElem?_eq_some_iff→iU,length_toList→jl,getElem?_toList→jE,getElem?_eq_getElem→jG
open PySem.AutoSeq1 renaming wpAny_loadPart'→iT
open PySem.SeqAt.EqAt renaming str_str→jm
open PyProof.Rows.F renaming plain_set_update_loop→ju,entry_set_update_loop→jO
open PySem.Code renaming quiet_builtin→jB
section
open PySem
abbrev u_:=Shared
abbrev t6:=PyData
abbrev t_:=Around
abbrev u6:=Program
abbrev v4:=List Str
abbrev u5:=FuncData
abbrev v6:=List Addr
abbrev v_:=List Expr
abbrev w6:=List Value
abbrev q9:=Option Int
abbrev w5:=List t6
abbrev v7:=Array Value
abbrev v9:=PySem.W.Frag
abbrev u9:=Option Value
abbrev q_:=List (Nat×Nat)
abbrev o4:=Nat->v6
abbrev y_:=List (Addr×Obj)
abbrev v8:=Array DictEntry
abbrev x_:=Str->u9
abbrev p_:=List (Option Nat)
abbrev z_:=Value->u_->Prop
end
section
open PySem PySem.Spec PyProof.Rows PySem.W PySem.Calls PySem.MeetsSeq PySem.MeetsSeq2 PySem.MeetsSeq3 PySem.SeqAt
abbrev aO:=@decide_eq_true
abbrev aZ:=@of_decide_eq_true
abbrev a_:=@or_false
abbrev bj:=@decide_eq_false
abbrev bx:=@if_false
abbrev bM:=@true_and
abbrev bY:=@congrArg
abbrev cB:=@if_true
abbrev cG:=@beq_iff_eq
abbrev cH:=@beq_self_eq_true
abbrev cV:=@beq_eq_false_iff_ne
abbrev fY:=@decide_eq_true_eq
end
namespace L2
open PySem PySem.Spec PyProof.Rows PySem.W
noncomputable abbrev bmV:w6:=[.type "ValueError",.type "Exception",.type "BaseException",.type "object"]
def Yu (K:v9)(C:Addr):Bool:=match K.lookup C with
 | some ⟨.type "type",_,.cls cd,sl⟩=>cd.hasDict&&!cd.hasDel&&(match cd.mro with
  | .ref A::bm=>A==C&&tailIn K bmV bm
  | _=>false)&&(match sl.toList with
  | [_,_,_,_,some (.builtin n),_]=>n == "ValueError.__new__"
  | _=>false)
 | _=>false
noncomputable def noI (K:v9) (C:Addr):Bool:=match K.lookup C with
 | some o=>(match o.data with
  | .cls cd=>nsOkIn K cd.ns&&nsIn K cd.ns "__init__" == some none
  | _=>false)
 | none=>false
def exP (K:v9)(C:Addr):Bool:=Yu K C&&noI K C
noncomputable def Vc:v4->w6->Bool
 | [],[]=>true
 | s::ss,.str z _::us=>s==z&&Vc ss us
 | _,_=>false
def A7v (h:Heap)(q:Str×v4):Bool:=match h.nsMap mainGlobals q.1 with
 | some (.ref a)=>match h.get? a with
  | some o=>match o.cls,o.data with
   | .type c,.seq its _=>c == "tuple" && decide (its.size<=sizeLine)&&Vc q.2 its.toList
   | _,_=>false
  | none=>false
 | _=>false
def xcB (K:Frag)(C:Addr):Bool:=Yu K C&&(findIn K (.ref C) "__getattribute__" == some (some (.builtin "BaseException.__getattribute__"))&&(findIn K (.ref C) "__getattr__" == some none&&findIn K (.ref C) "__class__" == some (some (.builtin "object.__class__"))))
noncomputable def clB (K:Frag) (x:Str) (p:Addr->Bool):Bool:=match nsIn K mainGlobals x with
 | some (some (.ref C))=>p C
 | _=>false
def tbB (K:Frag)(z:Value)(tbl:List (Str×Bool)):Bool:=tbl.all λp=>clB K p.1 λC=>xcB K C&&kitOne K (.ref C) z==some p.2
def exB (K:Frag)(F:Addr)(NS:v4):Bool:=NS.all λx=>clB K x λC=>exmOne K (.ref C) (.ref F)==some true
noncomputable def B1i (o:Obj):Bool:=match o.data with
 | .cls _=>true
 | .dict _ _=>true
 | _=>false
def Bk2 (l:List Nat)(h:Heap):Frag:=l.filterMap λa=>((h.get? a).bind λo=>if B1i o=true then some o else none).map λo=>(a,o)
def cfB (R:v4)(T:List (Str×List (Str×Bool)))(V:List (Str×Bool))(F:v4)(K:Frag):Bool :=
 (R.all λx=>clB K x λC=>exP K C)&&((T.all λq=>clB K q.1 λC=>tbB K (.ref C) q.2)&&(tbB K (.type "ValueError") V&&F.all λx=>clB K x λC=>exB K C R))
noncomputable def isNm (x:Str):Expr->Bool
 | .Name y _=>y==x
 | _=>false
def isAt (x f:Str):Expr->Bool
 | .Attribute e g _=>isNm x e&&g==f
 | _=>false
noncomputable def A9p (x:Str):Expr->Bool
 | .Constant c _ _=>c==.str x
 | _=>false
def Bo0 (x:Str):Expr->Bool
 | .FormattedValue e c none _=>isNm x e&&c==114
 | _=>false
def Bf6 (x y z:Str):Expr->Bool
 | .JoinedStr [a,b] _=>A9p y a&&Bo0 x b
 | .JoinedStr [a,b,c] _=>A9p y a&&Bo0 x b&&A9p z c
 | _=>false
noncomputable def stE:Stmt->Option (Expr×v_)
 | .Expr (.Call (.Attribute g m q) as [] p) _=>if (m == "__init__" && q.endLine==p.line)=true then some (g,as) else none
 | _=>none
noncomputable def stA:Stmt->Option (Expr×Expr)
 | .Assign [g] v _=>some (g,v)
 | _=>none
def B0f (F p f y z:Str):List Stmt->Bool
 | [s,u]=>(match stE s with
  | some (g,[a,j])=>isNm F g&&(isNm "self" a&&Bf6 p y z j)
  | _=>false)&&(match stA u with
  | some (g,v)=>isAt "self" f g&&isNm p v
  | _=>false)
 | _=>false
noncomputable def B2t (p:Str):Arguments->Bool
 | ⟨[],[a,b],none,[],[],none,[]⟩=>a.arg == "self" && b.arg==p
 | _=>false
structure Jx where
 q:Str
 F:Str
 p:Str
 f:Str
 y:Str
 z:Str
noncomputable def B4p (D:Jx) (sc:Scope):Bool:=decide (sc.kind=.function)&&(!sc.isCoroutine&&(!sc.isGenerator&&(sc.names.lookup ("self" : Str)==some .local&&(sc.names.lookup D.p==some .local&&(sc.names.lookup D.F==some .globalImplicit&&sc.names.all λy=>y.2 != .free)))))
def fnB (K:Frag)(D:Jx)(fd:u5):Bool:=fd.qualname==D.q&&(fd.globals==mainGlobals&&(fd.closure.isEmpty&&(fd.builtins==builtinsNs&&(fd.defaults==.none&&(codeIn K fd.code D.q&&(B2t D.p fd.params&&(B4p D fd.scope&&(match fd.body with
 | .stmts b=>B0f D.F D.p D.f D.y D.z b
 | _=>false))))))))
def Z1 (K:Frag)(D:Jx)(a:Addr):Bool:=match K.lookup a with
 | some ⟨.type "function",_,.func fd,_⟩=>fnB K D fd
 | _=>false
noncomputable def Au9 (D:Jx):Bool:=decide (D.y.length<=1000)&&(decide (D.z.length<=1000)&&(D.p != "self" && ((D.p==("__debug__" : Str))==false&&((D.p==("__classdict__" : Str))==false&&(D.F==("__debug__" : Str))==false))))
def ikB (K:Frag)(C F:Addr)(f:Str):Bool:=Yu K C&&(findIn K (.ref C) "__setattr__" == some (some (.builtin "object.__setattr__"))&&(findIn K (.ref C) f==some none&&(typeIn K (.ref F)==some (.type "type")&&(nsIn K cStatics "thirdparty.any" == some none&&findIn K (.ref F) "__init__" == some (some (.builtin "ValueError.__init__"))))))
def ciB (K:Frag)(x:Str)(D:Jx):Bool:=Au9 D&&clB K x λC=>clB K D.F λF=>xcB K C&&ikB K C F D.f&&(match findIn K (.ref C) "__init__" with
 | some (some (.ref a))=>Z1 K D a
 | _=>false)
def exN (K:Frag)(F:Addr)(NS:v4):Bool:=NS.all λx=>clB K x λC=>exmOne K (.ref C) (.ref F)==some false
noncomputable def B3q (o:Obj):Bool:=match o.data with
 | .cell _=>false
 | .fields vs=>vs.size != 0
 | _=>true
def Bj9 (l:List Nat)(h:Heap):Frag:=l.filterMap λa=>((h.get? a).bind λo=>if B3q o=true then some o else none).map λo=>(a,o)
def ciA (J:List (Str×Jx))(Y:List (Str×List Str×v4))(K:Frag):Bool:=(J.all λq=>ciB K q.1 q.2)&&Y.all λq=>clB K q.1 λF=>exB K F q.2.1&&exN K F q.2.2
noncomputable def Bs5 (tb:String->Option Builtin) (p:u6) (w:World) (n₀:Nat) (ann:u9):Nat->SharedT->Thread->Option SharedT
 | 0,_,_=>none
 | n+1,s,t=>match through t with
  | true=>some s
  | false=>match stepOk n₀ ann t with
   | false=>none
   | true=>match stepT (denote tb) p w s t with
    | some (s',t')=>Bs5 tb p w n₀ ann n s' t'
    | none=>none
def A0u {tb:String->Option Builtin}{p:u6}{w:World}{n₀:Nat}{ann:u9}:∀{n:Nat}{s s':SharedT}{t:Thread},Bs5 tb p w n₀ ann n s t=some s'->topRun tb p w n₀ ann n s.abs t=some s'.abs
 | 0,_,_,_,h=>nomatch h
 | n+1,s,s',t,h=>by
  unfold Bs5 at h;unfold topRun
  cases he:through t with
  | true=>rw[he]at h;cases h;rfl
  | false =>
   rw[he]at h
   cases hk:stepOk n₀ ann t with
   | false=>rw[hk]at h;cases h
   | true =>
    rw[hk]at h
    cases hs:stepT (denote tb) p w s t with
    | none=>rw[hs]at h;cases h
    | some r=>obtain⟨s₂,t₂⟩:=r;rw[hs]at h;dsimp only;rw[stepT_spec hs];exact A0u h
noncomputable def A6o:List Obj->BT->Nat->Option (BT×Nat)
 | [],t,n=>some (t,n)
 | o::os,t,n=>match ((t.ins n o).get n).isSome with
  | true=>A6o os (t.ins n o) (n+1)
  | false=>none
def A2t {life:Life}:∀{os:List Obj}{t t':BT}{n n':Nat},A6o os t n=some (t',n')->(absHeap t' n' life).objs.toList=(absHeap t n life).objs.toList++os
 | [],_,_,_,_,h=>by cases h;exact(cY _).symm
 | o::os,t,t',n,n',h=>by
  unfold A6o at h
  cases g:((t.ins n o).get n).isSome with
  | false=>rw[g]at h;cases h
  | true =>
   rw[g]at h;rw[A2t h,absHeap_ins g]
   show ((absHeap t n life).objs.push o).toList++os=_
   rw[Array.toList_push,dZ];rfl
def A5q {h:Heap}{t:BT}{n:Nat}(e:A6o h.objs.toList .nil 0=some (t,n)):absHeap t n h.life=h:=by
 have:=A2t (life:=h.life) e;obtain⟨os,l⟩:=h
 show Heap.mk _ _=_
 exact bY (Heap.mk · l) (Array.toList_inj.mp (this.trans (dH _)))
def B1m (p:u6)(w:World)(N:Nat)(os:OsState):Option u_ :=
 match (boot_heap w.params).isNs mainGlobals with
 | false=>none
 | true=>match A6o (boot_heap w.params).objs.toList .nil 0 with
  | none=>none
  | some (T,n)=>match Bs5 treeTable p w (boot_heap w.params).objs.size ((boot_heap w.params).nsMap mainGlobals "__annotations__") N ⟨T,n,(boot_heap w.params).life,#[],boot_drawn,boot_toks,os⟩ (topStub p) with
   | none=>none
   | some s=>match staticsOk (importedModules p.main.body) (boot_heap w.params) s.abs.heap&&namesBound p s.abs.heap&&gensDone s.abs&&laidKept (boot_heap w.params) s.abs.heap with
    | true=>some s.abs
    | false=>none
def Br8 {p:u6}{w:World}{N:Nat}{os:OsState}{s:u_}(h:B1m p w N os=some s):topFrom treeTable p w N ⟨boot_heap w.params,#[],boot_drawn,boot_toks,os⟩=some s:=by
 unfold B1m at h;unfold topFrom
 cases a:(boot_heap w.params).isNs mainGlobals with
 | false=>rw[a]at h;cases h
 | true =>
  rw[a]at h
  cases b:A6o (boot_heap w.params).objs.toList .nil 0 with
  | none=>rw[b]at h;cases h
  | some r =>
   obtain⟨T,n⟩:=r;rw[b]at h
   dsimp only at h
   split at h
   ·cases h
   ·rename_i s₁ c
    have d:=A0u c
    have e:(⟨T,n,(boot_heap w.params).life,#[],boot_drawn,boot_toks,os⟩:SharedT).abs=⟨boot_heap w.params,#[],boot_drawn,boot_toks,os⟩:=by
     show Shared.mk _ _ _ _ _=_
     rw[A5q b]
    rw[e]at d
    show (match true&&true with | true=>_ | false=>none)=_
    dsimp only[Bool.and_self]
    rw[d];exact h
def A3j {p q:u6}{loose:v4}{Xt:u_->Bool}{α:Type}{Yf:u_->α}{Ya:World->α}{N:Nat}{g0:Bool}
 (ho:opening p=plainProg p.main.scope.names) (hN:Nat.ble 600 N=true) (hf:∀s,fenceModules? p s=some s)
 (h:∀w os,(B1m p w N os).map (λs=>(openSeen q loose (importedModules p.main.body) Xt g0 s,Yf s))=some (openGood q loose,Ya w)):LeftO p q loose Xt Yf Ya N g0:=λw=>by
 obtain⟨s₀,a,b⟩:=aV.mp (boot_open ho hN hf w);obtain⟨hp,gn,dr,tk,os⟩:=s₀;obtain⟨b1,b⟩:=Prod.mk.inj b;obtain⟨b2,b⟩:=Prod.mk.inj b;obtain⟨b3,b4⟩:=Prod.mk.inj b
 cases b1;cases b2;cases b3;cases b4
 obtain⟨s,c,d⟩:=aV.mp (h w os);unfold openEnds;rw[a]
 show (topFrom treeTable p w N ⟨boot_heap w.params,#[],boot_drawn,boot_toks,os⟩).map _=_
 rw[Br8 c,fG,d]
end L2
namespace K
open PySem PySem.W PyProof.Rows
noncomputable def tcT:List (Str×v4):=[("ORDERS",[Str.ofString "seen",Str.ofString "rising"])]
noncomputable def xcR:v4:=[]
noncomputable def xcT:List (Str×List (Str×Bool)):=[("BadColumns",[("NoColumn",false)]),("BadOrder",[("NoColumn",false)]),("BadRow",[("NoColumn",false)]),("BadWay",[("NoColumn",false)]),("Double",[("NoColumn",false)]),("NoColumn",[("NoColumn",true)]),("NoHead",[("NoColumn",false)]),("NoNumber",[("NoColumn",false)]),("NoPart",[("NoColumn",false)]),("NoRow",[("NoColumn",false)])]
noncomputable def xcV:List (Str×Bool):=[("NoColumn",true)]
noncomputable def xcF:v4:=[]
noncomputable def xcJ:List (Str×L2.Jx):=[("NoColumn",⟨"NoColumn.__init__", "FoldError", "name", "name", "no column ", ""⟩)]
noncomputable def xcY:List (Str×List Str×v4):=[("FoldError",["NoColumn"],[])]
abbrev pwT:=PySem.Challenge.pw_pivotfold_k38_one_column_moved
abbrev rwT:=PySem.Challenge.rw_pivotfold_k38_one_column_moved
noncomputable def B6q:Stmt->Bool
 | .Assign [.Name n _] _ _=>!(["__name__", "ORDERS"]:v4).contains n
 | _=>true
def qT:u6:={ pwT with main:={ pwT.main with body:=pwT.main.body.filter B6q } }
abbrev xtT:u_->Bool:=λs=>xlAt qT [] s&&recOk (RowW.records rwT.row.toRowW) s&&tcT.all (L2.A7v s.heap)&&L2.cfB xcR xcT xcV xcF (L2.Bk2 [3,128,127,24,23,37,49,166,61,147,97,73,85,109] s.heap)&&L2.ciA xcJ xcY (L2.Bj9 [2,3,128,127,24,23,125,124] s.heap)
def hoT:opening rwT.row.prog=plainProg rwT.row.prog.main.scope.names:=by kernel_rfl
def hfT:∀s,fenceModules? rwT.row.prog s=some s:=λs=>by kernel_rfl
set_option maxHeartbeats 0 in
theorem B6z:LeftO rwT.row.prog qT ["ORDERS"] xtT Hook.none.obs Hook.none.val 20000:=L2.A3j hoT rfl hfT λw os=>by kernel_rfl
end K
namespace L2
open PySem PySem.Spec PyProof.Rows
abbrev Key:=Sum Int Str
noncomputable def Xv:Key->Value->Bool
 | .inl k,v=>Value.isInt k v
 | .inr x,v=>Value.isStrOf x v
noncomputable def B0k (w:World):Key->Int
 | .inl k=>hashInt k
 | .inr x=>hashStr w x
def Dp:∀{k:Key}{v:Value},Xv k v=true->(∃i t,k=Sum.inl i/\v=Value.int i t)\/(∃x t,k=Sum.inr x/\v=Value.str x t)
 | .inl i,v,h=>by
  obtain⟨t,e⟩:=Value.isInt_shape (k:=i) (v:=v) h;exact .inl ⟨i,t,rfl,e⟩
 | .inr x,v,h=>by
  obtain⟨t,e⟩:=Value.isStrOf_shape (x:=x) (v:=v) h;exact .inr ⟨x,t,rfl,e⟩
def A6p (i:Int)(t:Tok):Xv (.inl i) (.int i t)=true:=by simp[Xv,Value.isInt]
def A6h (x:Str)(t:Tok):Xv (.inr x) (.str x t)=true:=by simp[Xv,Value.isStrOf]
def B2l (a b:Int):decide ((Sum.inl a:Key)=Sum.inl b)=(a==b):=by
 grind
def By3 (a b:Str):decide ((Sum.inr a:Key)=Sum.inr b)=decide (a=b):=by
 grind
def Bz1 (a:Int)(b:Str):decide ((Sum.inl a:Key)=Sum.inr b)=false:=bj λq=>nomatch q
def B0t (a:Str)(b:Int):decide ((Sum.inr a:Key)=Sum.inl b)=false:=bj λq=>nomatch q
def Dj (prog:u6)(w:World):PySem.KeyKind prog w Key where
 is:=Xv
 hash:=B0k w
 inj:=λv a b ha hb=>by
  rcases Dp ha with ⟨i,t,rfl,rfl⟩ | ⟨x,t,rfl,rfl⟩
  ·rcases Dp hb with ⟨j,u,rfl,e⟩ | ⟨y,u,rfl,e⟩
   ·injection e with e1 _;rw[e1]
   ·exact nomatch e
  ·rcases Dp hb with ⟨j,u,rfl,e⟩ | ⟨y,u,rfl,e⟩
   ·exact nomatch e
   ·injection e with e1 _;rw[e1]
 byValue:=λk v h=>by
  rcases Dp h with ⟨i,t,rfl,rfl⟩ | ⟨x,t,rfl,rfl⟩ <;> rfl
 pyHash:=λhv h=>by
  rcases Dp hv with ⟨i,t,rfl,rfl⟩ | ⟨x,t,rfl,rfl⟩
  ·exact wpAny_pyHash_int h
  ·exact wpAny_pyHash_str h
 eqBool:=λhu hv h=>by
  rcases Dp hu with ⟨i,t,rfl,rfl⟩ | ⟨x,t,rfl,rfl⟩
  ·rcases Dp hv with ⟨j,u,rfl,rfl⟩ | ⟨y,u,rfl,rfl⟩
   ·rw[B2l]at h;exact wpAny_eqBool_int h
   ·rw[Bz1]at h;exact SeqAt.EqAt.int_str i t y u _ _ _ _ h
  ·rcases Dp hv with ⟨j,u,rfl,rfl⟩ | ⟨y,u,rfl,rfl⟩
   ·rw[B0t]at h;exact SeqAt.EqAt.str_int x t j u _ _ _ _ h
   ·rw[By3]at h;exact wpAny_eqBool_str h
 «strs»:=λk x t v h=>by
  rcases Dp h with ⟨i,u,rfl,e⟩ | ⟨y,u,rfl,e⟩
  ·exact nomatch e
  ·injection e with e1 _
   subst e1
   cases v <;> rfl
def N6 (prog:u6)(w:World)(i:Int)(t:Tok):(Dj prog w).is (.inl i) (.int i t)=true:=A6p i t
def Mr (prog:u6)(w:World)(x:Str)(t:Tok):(Dj prog w).is (.inr x) (.str x t)=true:=A6h x t
noncomputable instance B7l:DecidableEq t6:=λa b=>Classical.propDecidable (a=b)
mutual
noncomputable def keyB:t6->Bool
 | .none=>true
 | .int _=>true
 | .str _=>true
 | .tuple ds=>Ff ds
 | _=>false
noncomputable def Ff:w5->Bool
 | []=>true
 | d::ds=>keyB d&&Ff ds
end
mutual
def Jy:∀(x y:t6),keyB x=true->keyB y=true->(PyData.eqv x y=true↔x=y)
 | .none,y,_,hy=>by cases y <;> simp_all [PyData.eqv,keyB]
 | .int _,y,_,hy=>by cases y <;> simp_all [PyData.eqv,keyB]
 | .str _,y,_,hy=>by cases y <;> simp_all [PyData.eqv,keyB]
 | .tuple xs,.tuple ys,hx,hy=>by
  have:=Ak1 xs ys hx hy
  show PyData.eqvAll xs ys=true↔_
  rw[this]
  exact⟨λe=>by rw[e],λe=>by cases e;rfl⟩
 | .tuple xs,.none,hx,hy=>⟨(λe=>nomatch e),λe=>nomatch e⟩
 | .tuple xs,.int _,hx,hy=>⟨(λe=>nomatch e),λe=>nomatch e⟩
 | .tuple xs,.str _,hx,hy=>⟨(λe=>nomatch e),λe=>nomatch e⟩
def Ak1:∀(xs ys:w5),Ff xs=true->Ff ys=true->(PyData.eqvAll xs ys=true↔xs=ys)
 | [],[],_,_=>⟨λ_=>rfl,λ_=>rfl⟩
 | [],_::_,_,_=>⟨(λe=>nomatch e),λe=>nomatch e⟩
 | _::_,[],_,_=>⟨(λe=>nomatch e),λe=>nomatch e⟩
 | x::xs,y::ys,hx,hy=>by
  obtain⟨a,b⟩:=aA.mp (show (keyB x&&Ff xs)=true from hx)
  obtain⟨c,d⟩:=aA.mp (show (keyB y&&Ff ys)=true from hy)
  show (PyData.eqv x y&&PyData.eqvAll xs ys)=true↔_
  rw[aA,Jy x y a c,Ak1 xs ys b d,List.cons.injEq]
end
mutual
def Wz {h h':Heap}{d:Addr}{o:Obj}{es:v8}{ep:Nat}(ho:h.get? d=some o)(hd:o.data=.dict es ep)(hs:Heap.SameBut d h h'):∀(k:t6),keyB k=true->∀(v:Value) (as:v6),Reads h v k as->Reads h' v k as
 | .none,_,_,_,r=>by cases r;exact .none
 | .int i,_,_,_,r=>by cases r;exact .int _ _
 | .str x,_,_,_,r=>by cases r;exact .str _ _
 | .tuple ds,hk,_,_,r=>by
  cases r with
  | @tuple a o' vs n xs as h1 h2 h3 h4 =>
   refine .tuple ((hs.2 a ?_).trans h1) h2 h3 (T8 ho hd hs ds hk _ _ h4)
   intro e;rw[e,ho]at h1;cases h1;rw[hd]at h3;cases h3
def T8 {h h':Heap}{d:Addr}{o:Obj}{es:v8}{ep:Nat}(ho:h.get? d=some o)(hd:o.data=.dict es ep)(hs:Heap.SameBut d h h'):∀(ks:w5),Ff ks=true->∀(vs:w6) (as:v6),ReadsAll h vs ks as->ReadsAll h' vs ks as
 | [],_,_,_,r=>by cases r;exact .nil
 | k::ks,hk,_,_,r=>by
  obtain⟨a,b⟩:=aA.mp (show (keyB k&&Ff ks)=true from hk)
  cases r with
  | cons r1 r2=>exact .cons (Wz ho hd hs k a _ _ r1) (T8 ho hd hs ks b _ _ r2)
end
mutual
def Ak0 (w:World):t6->Int
 | .none=>hashInt 0xFCA86420
 | .int i=>B0k w (.inl i)
 | .str x=>B0k w (.inr x)
 | .tuple ds=>reduceHash (Builtin.Tuple.tupleHashOf (Ln w ds))
 | _=>0
def Ln (w:World):w5->List Int
 | []=>[]
 | d::ds=>Ak0 w d::Ln w ds
end
mutual
noncomputable def Xb:t6->Nat
 | .tuple ds=>Mt ds+1
 | _=>1
noncomputable def Mt:w5->Nat
 | []=>0
 | d::ds=>Xb d+Mt ds
end
section
variable {prog:u6}{w:World}
def Zn (h:Q (hashInt 0xFCA86420) { s with toks:=s.toks+1 }):wpAny (model prog w) A (pyHash .none) Q E s:=by
 have a:s.TypeIs Value.none "NoneType" := rfl;unfold pyHash
 first | unfold pyHashByItsType | skip
 have b:[Value.none].any Value.onHeap=false:=rfl
 refine aj ?_
 rw[cRoomFor,if_neg (by rw[b];exact aW)];refine ak ?_
 refine aj (dI a iu.lookup ?_)
 show wpAny _ _ (if (some (Value.builtin "NoneType.__hash__")==some Value.none)=true then _ else _) Q E s
 rw[if_neg (by rw[beq_builtin_none];exact aW)]
 refine aj (dI a iu.lookup ?_)
 show wpAny _ _ (callSpecialIfBoundUnlessNone? .none "__hash__" _ >>= _) Q E s
 refine aj (jM a iu
  (bA iu a F.entry_NoneType_hash
   (show wpAny _ _ (do ret (<- mkInt _)) _ _ s from wpAny_ret_mkInt ?_) (F.args_NoneType_hash_1 _)))
 exact ak h
def A3u:∀(n:Nat) (d:t6),d.depth<=n->keyB d=true->∀(A:t_) (E:z_) (s:u_) (v:Value) (y:v6) (Q:Int->u_->Prop),A.units+n<cLine->Reads s.heap v d y ->
 Q (Ak0 w d) { s with toks:=s.toks+Xb d }->wpAny (model prog w) A (pyHash v) Q E s:=by
 intro n
 induction n with
 | zero =>
  intro d M j A E s v y Q C r h
  cases r with
  | none=>exact Zn h
  | int i t=>exact(Dj prog w).pyHash (k:=.inl i) (v:=.int i t) (N6 prog w i t) h
  | str x t=>exact(Dj prog w).pyHash (k:=.inr x) (v:=.str x t) (Mr prog w x t) h
  | tuple=>exact absurd M (by simp[PyData.depth])
  | bool b=>cases j
  | list=>cases j
  | dict=>cases j
 | succ n Y =>
  intro d M j A E s v y Q C r h
  cases r with
  | none=>exact Zn h
  | int i t=>exact(Dj prog w).pyHash (k:=.inl i) (v:=.int i t) (N6 prog w i t) h
  | str x t=>exact(Dj prog w).pyHash (k:=.inr x) (v:=.str x t) (Mr prog w x t) h
  | bool b=>cases j
  | list=>cases j
  | dict=>cases j
  | @tuple a o N n' g y R hc J U =>
   have G:s.TypeIs (.ref a) "tuple" := ⟨o,R,hc⟩
   have H:PyData.depthAll g<=n:=Nat.le_of_succ_le_succ (show PyData.depthAll g+1<=n+1 from M)
   have I:Ff g=true:=j;unfold pyHash
   first | unfold pyHashByItsType | skip
   first | refine aj (wpAny_cRoomFor_or (.inr (bB (cQ _ _) C)) ?_) | skip
   refine aj (dI G iw.lookup ?_)
   show wpAny _ _ (if (some (Value.builtin "tuple.__hash__")==some Value.none)=true then _ else _) Q E s
   rw[if_neg (by rw[beq_builtin_none];exact aW)]
   refine aj (dI G iw.lookup ?_)
   show wpAny _ _ (callSpecialIfBoundUnlessNone? (.ref a) "__hash__" _ >>= _) Q E s
   refine aj (jM G iw (bA iw G F.entry_tuple_hash ?_ (F.args_tuple_hash_1 _)))
   show wpAny _ _ (Builtin.Tuple.tupleItemsOf (.ref a) >>= _) _ _ s
   refine aj (wpAny_tupleItemsOf R J ?_)
   refine aj ?_
   rw[<- iy]
   refine jd _
    (λm (b:Array Int) O=>∃c e K,Ln w g=c++Ln w e/\ReadsAll s.heap m e K/\Ff e=true/\PyData.depthAll e<=n/\b.toList=c/\∃k,k+Mt e=Mt g/\O={ s with toks:=s.toks+k })
    _ ?_ ?_ _ _ ⟨[],g,_,rfl,U,I,H,rfl,0,aQ _,rfl⟩
   ·rintro x m b O ⟨c,e,K,z,L,q,p,B,k,D,rfl⟩
    cases L with
    | @cons _ _ l f V W X u =>
     obtain⟨Z,S⟩:=aA.mp (show (keyB l&&Ff f)=true from q)
     have P:l.depth<=n/\PyData.depthAll f<=n:=by
      have:max l.depth (PyData.depthAll f)<=n:=p;lia
     refine aj (Y l P.1 Z _ _ _ _ _ _ (by first | exact bB (by simp;lia) C | (have:=C;simp at *;lia)) X ?_)
     first
      | exact ak ⟨c++[Ak0 w l],f,_,by rw[z];simp[Ln],u,S,P.2,by simp[B],k+Xb l,by rw[<- D];simp[Mt,d_],by simp[d_]⟩
      | exact aj (ak (ak ⟨c++[Ak0 w l],f,_,by rw[z];simp[Ln],u,S,P.2,by simp[B],k+Xb l,by rw[<- D];simp[Mt,d_],by simp[d_]⟩))
   ·rintro b O ⟨c,e,K,z,L,q,p,B,k,D,rfl⟩
    cases L
    have e2:Ln w g=c:=by rw[z];simp[Ln]
    have T:k=Mt g:=D
    have h:Q (reduceHash (Builtin.Tuple.tupleHashOf (Ln w g))) { s with toks:=s.toks+(Mt g+1) }:=h
    rw[e2]at h;subst T
    show wpAny _ _ (retInt (Builtin.Tuple.tupleHashOf b.toList)) _ _ _
    rw[B]
    refine wpAny_ret_mkInt ?_
    show wpAny _ _ (if (decide (-(2:Int) ^ 63<=Builtin.Tuple.tupleHashOf c)&&decide (Builtin.Tuple.tupleHashOf c<2 ^ 63))=true then _ else _) Q E _
    unfold reduceHash at h
    by_cases hr:(decide (-(2:Int) ^ 63<=Builtin.Tuple.tupleHashOf c)&&decide (Builtin.Tuple.tupleHashOf c<2 ^ 63))=true
    ·rw[if_pos hr]
     rw[if_pos hr]at h
     exact ak (by simpa[d_] using h)
    ·rw[if_neg hr]
     rw[if_neg hr]at h
     exact aj (cJ (ak (by simpa[d_] using h)))
def Aw1:∀(m:Nat) (d:t6),d.depth<=m->keyB d=true->∀(A:t_) (E:z_) (s:u_) (v:Value) (j:v6) (Q:Bool->u_->Prop),Reads s.heap v d j->Q true s->wpAny (model prog w) A (eqIsQuiet (m+1) v) Q E s:=by
 intro m
 induction m with
 | zero =>
  intro d q f A E s v j Q r h
  cases r with
  | none=>rw[fH _ rfl];exact ak h
  | int i t=>rw[fH _ rfl];exact ak h
  | str x t=>rw[fH _ rfl];exact ak h
  | tuple=>exact absurd q (by simp[PyData.depth])
  | bool b=>cases f
  | list=>cases f
  | dict=>cases f
 | succ n O =>
  intro d q f A E s v j Q r h
  cases r with
  | none=>rw[fH _ rfl];exact ak h
  | int i t=>rw[fH _ rfl];exact ak h
  | str x t=>rw[fH _ rfl];exact ak h
  | bool b=>cases f
  | list=>cases f
  | dict=>cases f
  | @tuple a o y n' M j G L l U =>
   have D:s.TypeIs (.ref a) _:=⟨o,G,L⟩
   have p := Nat.le_of_succ_le_succ (show PyData.depthAll _+1<=n+1 from q)
   unfold eqIsQuiet
   refine aj (dI D F.slot_tuple_eq.lookup ?_)
   refine aj (cZ D isSubtype_tuple_tuple ?_)
   refine aj (cL G l ?_)
   refine aj ?_
   rw[<- iy]
   refine jd _ (λe r u=>r.1=none/\u=s/\∃c H,ReadsAll _ e c H/\Ff c=true/\PyData.depthAll c<=n) _ ?_ ?_ _ _ ⟨rfl,rfl,M,_,U,f,p⟩
   ·rintro v e r u ⟨C,rfl,c,H,J,k,z⟩
    cases J with
    | @cons _ _ N g P R K B =>
     obtain⟨S,T⟩:=aA.mp (show (keyB _&&Ff _)=true from k)
     have I:N.depth<=n/\PyData.depthAll g<=n:=by
      have:max _ _<=n:=z;lia
     refine aj (O _ I.1 S _ _ _ _ _ _ K ?_)
     exact ak ⟨rfl,rfl,g,_,B,T,I.2⟩
   ·rintro⟨r1,r2⟩ u ⟨C,rfl,_⟩
    subst C;exact ak h
def B1h (h:Heap)(k:t6)(a:Addr):Prop:=(keyB k=true/\k.canLay0=true/\k.depth<=7)/\∃as,Reads h (.ref a) k as
def Di (prog:u6)(w:World):HeapKind prog w t6 where
 is:=B1h
 hash:=Ak0 w
 draws:=Xb
 room:=λA=>A.units+8<cLine
 inj:=λhx hy=>let ⟨⟨_,l,_⟩,_,r⟩:=hx;let ⟨_,_,r'⟩:=hy; SeqAt.Reads.unique _ _ _ _ _ l r r'
 keeps:=λx ho hd hs=>let ⟨c,_,r⟩:=x; ⟨c,_,Wz ho hd hs _ c.1 _ _ r⟩
 pyHash:=λhu hk h=>let ⟨c,_,r⟩:=hk; A3u 7 _ c.2.2 c.1 _ _ _ _ _ _ (bB (bZ (by decide) _) hu) r h
 eqBool:=λ{A E s x y a b Q} hu hx hy h=>by
  obtain⟨c,_,r⟩:=hx;obtain⟨d,_,r'⟩:=hy
  refine SeqAt.eqAt_reads x y A s _ _ _ _ r r' c.2.1 d.2.1 (bB (bZ (ao (Nat.min_le_left _ _) (ao c.2.2 (by decide))) _) hu) prog w E Q ?_
  have e:PyData.eqv x y=decide (x=y):=by
   have:=Jy x y c.1 d.1
   by_cases z:x=y
   ·rw[aO z];exact this.mpr z
   ·rw[bj z]
    cases q:PyData.eqv x y with
    | false=>rfl
    | true=>exact absurd (this.mp q) z
  rw[e];exact h
 quiet:=λhk h=>let ⟨c,_,r⟩:=hk; Aw1 7 _ c.2.2 c.1 _ _ _ _ _ _ r h
end
inductive V where
 | non | bl (b:Bool) | int (i:Int) | str (x:Str) | byt (b:Array UInt8) | flt (b:UInt64) | ref (a:Addr) | ty (n:String)
 deriving DecidableEq
abbrev m6:=List V
@[simp] def V.bl.injEq (a b:Bool):(V.bl a=V.bl b)=(a=b):=propext ⟨λh=>by cases h;rfl,λh=>by rw[h]⟩
@[simp] def V.int.injEq (a b:Int):(V.int a=V.int b)=(a=b):=propext ⟨λh=>by cases h;rfl,λh=>by rw[h]⟩
@[simp] def V.str.injEq (a b:Str):(V.str a=V.str b)=(a=b):=propext ⟨λh=>by cases h;rfl,λh=>by rw[h]⟩
@[simp] def V.byt.injEq (a b:Array UInt8):(V.byt a=V.byt b)=(a=b):=propext ⟨λh=>by cases h;rfl,λh=>by rw[h]⟩
@[simp] def V.ref.injEq (a b:Addr):(V.ref a=V.ref b)=(a=b):=propext ⟨λh=>by cases h;rfl,λh=>by rw[h]⟩
def RelV:V->Value->Prop
 | .non,u=>u=Value.none
 | .bl b,u=>u=Value.bool b
 | .int i,u=>∃t,u=Value.int i t
 | .str x,u=>∃t,u=Value.str x t
 | .byt b,u=>∃t,u=Value.bytes b t
 | .flt b,u=>∃t,u=Value.float b t
 | .ref a,u=>u=Value.ref a
 | .ty n,u=>u=Value.type n
abbrev Vals:m6->w6->Prop:=Paired RelV
def Vals.length (r:Vals xs us):xs.length=us.length:=eG r
def Vals.get:∀{xs:m6}{us:w6}{i:Nat}{x:V},Vals xs us->xs[i]?=some x->∃u,us[i]?=some u/\RelV x u
 | _,_,_,_,.nil,e=>by simp at e
 | _,_,0,_,.cons r _,e=>by simp at e;subst e;exact⟨_,rfl,r⟩
 | _,_,i+1,x,.cons _ t,e=>by
  obtain⟨u,h1,h2⟩:=Vals.get (i:=i) (x:=x) t (by simpa using e)
  exact⟨u,by simpa using h1,h2⟩
def Vals.set {x:V}{u:Value}(r:RelV x u):∀{xs:m6}{us:w6}(i:Nat),Vals xs us->Vals (xs.set i x) (us.set i u)
 | _,_,_,.nil=>.nil
 | _,_,0,.cons _ t=>.cons r t
 | _,_,i+1,.cons q t=>.cons q (Vals.set r i t)
def Vals.append:∀{xs ys:m6}{us ws:w6},Vals xs us->Vals ys ws->Vals (xs++ys) (us++ws)
 | _,_,_,_,.nil,s=>s
 | _,_,_,_,.cons r t,s=>.cons r (Vals.append t s)
def Vals.take:∀{xs:m6}{us:w6}(n:Nat),Vals xs us->Vals (xs.take n) (us.take n)
 | _,_,0,_=>.nil
 | _,_,_+1,.nil=>.nil
 | _,_,n+1,.cons r t=>.cons r (Vals.take n t)
def Vals.drop:∀{xs:m6}{us:w6}(n:Nat),Vals xs us->Vals (xs.drop n) (us.drop n)
 | _,_,0,r=>r
 | _,_,_+1,.nil=>.nil
 | _,_,n+1,.cons _ t=>Vals.drop n t
def RelO:Option V->u9->Prop
 | some v,some u=>RelV v u
 | none,none=>True
 | _,_=>False
def KV {κ:Type}:List (κ×V)->List (κ×Value)->Prop:=Paired λ(p:κ×V) (q:κ×Value)=>p.1=q.1/\RelV p.2 q.2
noncomputable def kV:Key->V
 | .inl i=>.int i
 | .inr x=>.str x
inductive HO where
 | lst (xs:m6)
 | tup (xs:m6)
 | dK (kvs:List (Key×V)) | dT (kvs:List (PyData×V))
 | set (S:Int->Bool) (n:Nat)
 | ins (C dx:Addr) (fs:List (Str×V))
 | own (x:Addr)
 | xd (fs:List (Str×V))
 | met (f x:Addr)
 | rng (lo hi:Int)
 | frz (o:Obj) (u:HO)
 | tbl (q:Str)
 | ext (φ:Heap->Prop)
abbrev Hp:=Addr->Option HO
noncomputable def upd (H:Hp) (a:Addr) (o:HO):Hp:=λb=>if b=a then some o else H b
def Aq : upd H a o a=some o:=by unfold upd;simp_all
def Ag (h:b≠a):upd H a o b=H b:=by unfold upd;simp_all
def Bu7 {H:Hp}{a:Addr}{o u:HO}:upd (upd H a o) a u=upd H a u:=by
 funext b;unfold upd;split <;> rfl
def A6u {H:Hp} (h:H a=some o) (h':H b=some u) (d:o≠u):a≠b:=by
 grind
def Ba {H:Hp} (h:H a=some o) (h':H b=none):a≠b:=by
 grind
mutual
def KTr (H:Hp):t6->V->Prop
 | .none,v=>v=.non
 | .int i,v=>v=.int i
 | .str x,v=>v=.str x
 | .tuple ds,v=>∃a vs,v=.ref a/\H a=some (.tup vs)/\KTrL H ds vs
 | _,_=>False
def KTrL (H:Hp):w5->m6->Prop
 | [],vs=>vs=[]
 | d::ds,vs=>∃v r,vs=v::r/\KTr H d v/\KTrL H ds r
end
mutual
def KTr.stay {H H':Hp}(ht:∀b xs,H b=some (.tup xs)->H' b=some (.tup xs)):∀{d:t6}{v:V},KTr H d v->KTr H' d v
 | .none,_,h=>h
 | .int _,_,h=>h
 | .str _,_,h=>h
 | .tuple _,_,⟨a,vs,e,ha,t⟩=>⟨a,vs,e,ht _ _ ha,KTrL.stay ht t⟩
def KTrL.stay {H H':Hp}(ht:∀b xs,H b=some (.tup xs)->H' b=some (.tup xs)):∀{ds:w5}{vs:m6},KTrL H ds vs->KTrL H' ds vs
 | [],_,h=>h
 | _::_,_,⟨v,r,e,h,t⟩=>⟨v,r,e,KTr.stay ht h,KTrL.stay ht t⟩
end
def Bv1 (k:t6):Prop:=keyB k=true/\k.canLay0=true/\k.depth<=7
def KAt (H:Hp)(k:t6)(a:Addr):Prop:=Bv1 k/\KTr H k (.ref a)
def KAt.stay (ht:∀b xs,H b=some (.tup xs)->H' b=some (.tup xs)) (h:KAt H k a):KAt H' k a:=⟨h.1,KTr.stay ht h.2⟩
def zZ (h:Heap)(a:Addr)(items:v7):Prop:=∃o,h.get? a=some o/\o.cls=.type "tuple" /\ (∃n,o.data=.seq items n)/\o.dict=none
def zZ.tup (x:zZ h a items):IsTup h a items:=let ⟨o,h1,h2,h3,_⟩:=x; ⟨o,h1,h2,h3⟩
def zZ.lt (x:zZ h a items):a<h.objs.size:=x.tup.lt
def zZ.new (h:Heap)(items:v7):zZ (h.push { cls:=.type "tuple",data:=.seq items }) h.objs.size items:=⟨_,aJ _ rfl,rfl,⟨_,rfl⟩,rfl⟩
section
variable (P:u6)(w:World)
def zE (H:Hp)(h:Heap)(a:Addr):HO->Prop
 | .lst xs=>xs.length<=sizeLine/\∃(its:w6) (n:Nat),Vals xs its/\h.get? a=some { cls:=.type "list",data:=.seq its.toArray n }
 | .tup xs=>xs.length<=sizeLine/\∃its:w6,Vals xs its/\zZ h a its.toArray
 | .dK kvs=>kvs.length<=sizeLine/\(a==sysModules)=false/\∃vs,KV kvs vs/\h.DictOf (Dj P w) a vs
 | .dT kvs=>kvs.length<=sizeLine/\(a==sysModules)=false/\∃xs:List (PyData×Addr×Value),
  Paired (λ(p:PyData×V) (q:PyData×Addr×Value)=>p.1=q.1/\KAt H p.1 q.2.1/\RelV p.2 q.2.2) kvs xs /\
  ∃o es ep,h.get? a=some o/\o.ExactDict/\o.data=.dict es ep/\es.toList=xs.map (entryOfKey (Di P w))/\(xs.map (·.1)).Nodup
 | .set S n=>h.SetOf (intKind P w) a S n
 | .ins C dx fs=>H dx=some (.own a)/\fs.length<=1000/\dx≠a/\h.get? a=some (PySem.W.instObj C dx) /\
  ∃mA,h.Ns1 dx mA/\(∀f,RelO (fs.lookup f) (mA f))/\PySem.Within mA (fs.map (·.1))
 | .own _=>∃o,h.get? a=some o
 | .xd fs=>∃mA,h.Ns1 a mA/\∀f,RelO (fs.lookup f) (mA f)
 | .rng lo hi=>∃t u v,h.get? a=some { cls:=.type "range",data:=.fields #[.int lo t,.int hi u,.int 1 v] }
 | .frz o u=>h.get? a=some o/\zE H h a u
 | .tbl q=>∃ps:v7,h.get? a=some { cls:=.none,data:=.fields ps }/\TriplesOk ps.toList/\∀pos cv,codeAmong pos ps.toList=some cv->∃c o vs t,cv=.ref c/\H c=some (.frz o (.own 0))/\o.data=.fields vs/\vs[1]?=some (.str q t)
 | .met f x=>h.get? a=some (PySem.W.methodObj (.ref f) (.ref x))
 | .ext φ=>φ h/\(∃o,h.get? a=some o)/\∀h1 h2:Heap,φ h1->(∀o,h1.get? a=some o->h2.get? a=some o)->φ h2
def HOk (H:Hp)(h:Heap):Prop:=∀a o,H a=some o->zE P w H h a o
end
section
variable {P:u6}{w:World}{H H':Hp}{h h':Heap}{a:Addr}{o:HO}
def zE.lt (x:zE P w H h a o):a<h.objs.size:=by
 cases o with
 | lst d=>obtain⟨_,_,_,_,e⟩:=x;exact az e
 | tup d=>obtain⟨_,_,_,p⟩:=x;exact p.lt
 | dK b=>obtain⟨_,_,_,_,o,_,_,e,_⟩:=x;exact az e
 | dT b=>obtain⟨_,_,_,_,o,_,_,e,_⟩:=x;exact az e
 | set S n=>obtain⟨o,_,_,_,e,_⟩:=x;exact az e
 | ins C g c=>obtain⟨_,_,_,e,_⟩:=x;exact az e
 | own y=>obtain⟨_,e⟩:=x;exact az e
 | xd c=>obtain⟨_,⟨_,_,_,e,_⟩,_⟩:=x;exact az e
 | rng j k=>obtain⟨_,_,_,e⟩:=x;exact az e
 | frz l u=>obtain⟨e,_⟩:=x;exact az e
 | tbl q=>obtain⟨_,e,_⟩:=x;exact az e
 | met f y=>exact az (x)
 | ext i=>obtain⟨_,⟨_,e⟩,_⟩:=x;exact az e
def Paired.mapP {α β:Type}{F G:α->β->Prop}:∀{l₁:List α}{l₂:List β},Paired F l₁ l₂->(∀a b,F a b->G a b)->Paired G l₁ l₂
 | _,_,.nil,_=>.nil
 | _,_,.cons r t,f=>.cons (f _ _ r) (Paired.mapP t f)
def zE.stay (x:zE P w H h a o)(k:∀b u,(b=a\/H b=some (.own a))->h.get? b=some u->h'.get? b=some u)
 (ho:∀b,H b=some (.own a)->H' b=some (.own a)) (ht:∀b m,H b=some (.tup m)->H' b=some (.tup m)) (hz:∀b o u,H b=some (.frz o u)->H' b=some (.frz o u):=by exact λ_ _ _ q=>q):zE P w H' h' a o:=by
 induction o with
 | lst m=>obtain⟨z,l,n,r,e⟩:=x;exact⟨z,l,n,r,k _ _ (.inl rfl) e⟩
 | tup m=>obtain⟨z,l,r,g,e,c⟩:=x;exact⟨z,l,r,g,k _ _ (.inl rfl) e,c⟩
 | dK A=>obtain⟨z,y,D,r,g,i,j,e,c⟩:=x;exact⟨z,y,D,r,g,i,j,k _ _ (.inl rfl) e,c⟩
 | dT A =>
  obtain⟨z,y,m,r,g,i,j,e,c⟩:=x
  exact⟨z,y,m,Paired.mapP r λp q z=>⟨z.1,z.2.1.stay ht,z.2.2⟩,g,i,j,k _ _ (.inl rfl) e,c⟩
 | set S n=>obtain⟨g,i,j,t,e,c⟩:=x;exact⟨g,i,j,t,k _ _ (.inl rfl) e,c⟩
 | ins C M J =>
  obtain⟨d,z,G,e,s,⟨B,i,j,E,c⟩,r⟩:=x;exact⟨ho _ d,z,G,k _ _ (.inl rfl) e,s,⟨B,i,j,k _ _ (.inr d) E,c⟩,r⟩
 | own y=>obtain⟨g,e⟩:=x;exact⟨g,k _ _ (.inl rfl) e⟩
 | xd J=>obtain⟨s,⟨B,i,j,e,c⟩,r⟩:=x;exact⟨s,⟨B,i,j,k _ _ (.inl rfl) e,c⟩,r⟩
 | rng O N=>obtain⟨t,u,v,e⟩:=x;exact⟨t,u,v,k _ _ (.inl rfl) e⟩
 | frz g u K=>obtain⟨e,q⟩:=x;exact⟨k _ _ (.inl rfl) e,K q⟩
 | tbl q =>
  obtain⟨I,e,t,f⟩:=x
  exact⟨I,k a _ (.inl rfl) e,t,λL Q z=>let ⟨c,g,D,tk,e1,E,e3⟩:=f _ _ z; ⟨c,g,D,tk,e1,hz _ _ _ E,e3⟩⟩
 | met f y =>
  have e:h.get? a=some _:=x
  show h'.get? a=some _
  grind
 | ext R=>obtain⟨p,⟨o,e⟩,F⟩:=x;exact⟨F _ _ p λo q=>k _ _ (.inl rfl) q,⟨o,k _ _ (.inl rfl) e⟩,F⟩
def HOk.lt (x:HOk P w H h)(e:H a=some o):a<h.objs.size:=(x a o e).lt
def HOk.fresh (x:HOk P w H h)(e:h.objs.size<=a):H a=none:=by
 cases q:H a with
 | none=>rfl
 | some u=>exact absurd (aH (x.lt q) e) (bc _)
def HOk.kept (x:HOk P w H h)(k:∀b u,h.get? b=some u->h'.get? b=some u):HOk P w H h':=λa o e =>
 (x a o e).stay (λb u _ q=>k b u q) (λ_ q=>q) λ_ _ q=>q
def HOk.laid (x:HOk P w H h)(k:∀b u,h.get? b=some u->h'.get? b=some u)(hp:h.objs.size<=a)(f:zE P w (upd H a o) h' a o):HOk P w (upd H a o) h':=λb u e=>by
 have d:=x.fresh hp
 by_cases hb:b=a
 ·subst hb;rw[Aq]at e;simp_all
 ·rw[Ag hb]at e
  exact(x b u e).stay (λc v _ q=>k c v q) λc q=>by rw[Ag (Ba q d)];grind λc g q=>by rw[Ag (Ba q d)];grind λc i g q=>by rw[Ag (Ba q d)];grind
end
def Rd (H:Hp)(a:Addr)(u:HO):Prop:=H a=some u\/∃o,H a=some (.frz o u)
def Rd.ok (r:Rd H a u) (x:HOk P w H h):zE P w H h a u:=by
 rcases r with r | ⟨o,r⟩
 ·exact x a u r
 ·obtain⟨_,q⟩:=x a _ r
  lia
def Mut:Option HO->Prop
 | some (.lst _)=>True
 | some (.dK _)=>True
 | some (.dT _)=>True
 | some (.set _ _)=>True
 | some (.ins _ _ _)=>True
 | some (.ext _)=>True
 | _=>False
section
variable {P:u6}{w:World}{H:Hp}{h h':Heap}{x e:Addr}{o':HO}
def HOk.write (s:HOk P w H h)(f:Mut (H x))(he:e=x\/H e=some (.own x))(k:∀b u,b≠e->h.get? b=some u->h'.get? b=some u)(m:∃u,h'.get? e=some u)
 (l:zE P w (upd H x o') h' x o'):HOk P w (upd H x o') h':=λb u q=>by
 have a:∀c y,H c=some (.own y)->c≠x:=λc y r z=>by subst z;rw[r]at f;exact f
 have i:∀c d,H c=some (.tup d)->c≠x:=λc d r z=>by subst z;rw[r]at f;exact f
 have g:∀c n d,H c=some (.frz n d)->c≠x:=λc n d r z=>by subst z;rw[r]at f;exact f
 by_cases hb:b=x
 ·subst hb;rw[Aq]at q;cases q;exact l
 ·rw[Ag hb]at q
  by_cases hbe:b=e
  ·have o:H b=some (.own x):=by
    simp_all
   rw[q]at o;cases o;obtain⟨v,p⟩:=m
   exact⟨v,by rw[hbe];exact p⟩
  ·refine (s b u q).stay (λc v j r=>k c v ?_ r) (λc r=>by rw[Ag (a c b r)];exact r) (λc d r=>by rw[Ag (i c _ r)];exact r) λc n d r=>by rw[Ag (g c _ _ r)];exact r
   rcases j with rfl | j
   ·exact hbe
   ·rintro rfl
    rcases he with z | z
    ·exact a c b j z
    ·rw[j]at z;cases z;exact hb rfl
end
structure Un (fs ex:v6) (H H':Hp) (h h':Heap):Prop where
 keep:∀b o,h.get? b=some o->H b=none->b∉fs->b∉ex->h'.get? b=some o
 slot:∀b o,h.get? b=some o->H b=none->b∈fs->b∉ex->∃sl,h'.get? b=some { o with slots:=sl }
 free:∀b o,h.get? b=some o->H b=none->b∉ex->H' b=none
 there:∀b o,h.get? b=some o->b∉ex->∃o',h'.get? b=some o'
 tups:∀b xs,H b=some (.tup xs)->H' b=some (.tup xs)
 frzs:∀b o u,H b=some (.frz o u)->H' b=some (.frz o u)
 tbls:∀b q,H b=some (.tbl q)->H' b=some (.tbl q)
section
variable {fs ex:v6}{H H1:Hp}{h h1 h':Heap}{a x e:Addr}{o:HO}
def Un.any (u:Un fs ex H H1 h h1) (q:h.get? b=some ob) (n:H b=none) (hx:b∉ex):∃sl,h1.get? b=some { ob with slots:=sl }:=by
 by_cases hb:b∈fs
 ·exact u.slot b _ q n hb hx
 ·exact⟨ob.slots,u.keep b _ q n hb hx⟩
def Un.kept (k:∀b u,h.get? b=some u->h'.get? b=some u):Un fs ex H H h h' :=
 ⟨λb a q _ _ _=>k b _ q,λb a q _ _ _=>⟨a.slots,k b a q⟩,λ_ _ _ n _=>n,λb a q _=>⟨a,k b _ q⟩,λ_ _ q=>q,λ_ _ _ q=>q,λ_ _ q=>q⟩
def Un.refl:Un fs ex H H h h:=Un.kept λ_ _ q=>q
def Un.laid (k:∀b u,h.get? b=some u->h'.get? b=some u)(hp:h.objs.size<=a)(hn:H a=none):Un fs ex H (upd H a o) h h' where
 keep:=λb u q _ _ _=>k b u q
 slot:=λb u q _ _ _=>⟨u.slots,k b u q⟩
 free:=λb u q n _=>by rw[Ag (aM (aH (az q) hp))];exact n
 there:=λb u q _=>⟨u,k b u q⟩
 tups:=λb xs q=>by rw[Ag (Ba q hn)];exact q
 frzs:=λb u xs q=>by rw[Ag (Ba q hn)];exact q
 tbls:=λb ps q=>by rw[Ag (Ba q hn)];exact q
def Un.write (d:Mut (H x))(he:e=x\/H e=some (.own x))(k:∀b u,b≠e->h.get? b=some u->h'.get? b=some u)(f:∃u,h'.get? e=some u):Un fs ex H (upd H x o) h h':=by
 have i:∀b,H b=none->b≠x:=λb n z=>by subst z;rw[n]at d;exact d
 have c:∀b,H b=none->b≠e:=λb n z=>by
  grind
 have a:∀b u,H b=some u->¬ Mut (some u)->b≠x:=λb u q l z=>by simp_all
 refine⟨λb u q n _ _=>k b u (c b n) q,λb u q n _ _=>⟨u.slots,k b u (c b n) q⟩,λb u q n _=>by rw[Ag (i b n)];grind,λb u q _=>?_,
  λb g q=>by rw[Ag (a b _ q λz=>z)];grind,λb u g q=>by rw[Ag (a b _ q λz=>z)];grind,λb j q=>by rw[Ag (a b _ q λz=>z)];grind⟩
 grind
end
noncomputable def trk (h:Heap) (H:Hp):v6:=(List.range h.objs.size).filter λa=>(H a).isSome
def Ys (h:Heap)(H:Hp):Heap:=PySem.W.hideAll h (trk h H)
def A3l (h:Heap)(H:Hp):(Ys h H).objs.size=h.objs.size:=PySem.W.hideAll_size _ _
def A6x (e:h.get? b=some o) (n:H b=none):(Ys h H).get? b=some o :=
 PySem.W.hideAll_get _ e λa=>by
  have q := (List.mem_filter.mp a).2
  grind
def Bn8 (e:(Ys h H).get? b=some o):h.get? b=some o/\H b=none:=by
 have a := PySem.W.of_hideAll _ e
 refine⟨a,?_⟩
 cases q:H b with
 | none=>rfl
 | some x =>
  have c:b∈trk h H:=List.mem_filter.mpr ⟨List.mem_range.mpr (az a),by grind⟩
  have z:(Ys h H).get? b=none:=PySem.W.hideAll_none _ c
  simp_all
noncomputable def Bl9 (g h:Heap) (L:Addr):y_:=(List.range h.objs.size).filterMap λa=>if a=L\/(g.get? a).isSome=true then none else (h.get? a).map λo=>(a,o)
def rest (g h:Heap)(L d:Addr):y_:=(Bl9 g h L).filter λp=>decide (p.1≠d)
noncomputable def Az5 (T:Addr) (q:Str):Obj:={ cls:=.str q 0,data:=.cell (some (.ref T)) }
noncomputable def Xf (o:Obj):Option (Addr×Str):=match o.data with
 | .cell (some (.ref T))=>(match o.cls with
  | .str q _=>some (T,q)
  | _=>none)
 | _=>none
def Do (K:v9):List (Addr×Str):=K.filterMap λp=>Xf p.2
structure Mod (K:v9) (mg:x_) (base:Heap):Prop where
 kin:K.In base
 glob:base.Ns mainGlobals mg
 blt:∃mb,base.Ns builtinsNs mb/\∀x:Str,x ≠ "__name__" -> mb x=bootBuiltins x
 nolimit:base.NoLimit
 bmod:∃bm o,mg "__builtins__" = some (.ref bm)/\bm≠builtinsNs/\bm≠mainGlobals/\base.get? bm=some o/\o.cls=.type "module" /\ o.dict=some builtinsNs/\o.data=.plain
structure Cx where
 prog:u6
 w:World
 K:v9
 mg:x_
 base:Heap
 A:t_
 N:v4
 s₀:u_
 H₀:Hp
 env:Env
 outer:List Env
 stack:List Env
 ex:v6
 fn:Str->Bool
 calm:Bool
 pn:y_
 xe:z_
noncomputable def frs (l:List Env):v6:=l.filterMap (·.frame)
abbrev Cx.fs (X:Cx):v6:=frs X.outer
def Vis (sc:Scope)(x:Str):Prop:=sc.names.lookup x=some .local\/sc.names.lookup x=some .cell\/sc.names.lookup x=some .free
def Loc (sc:Scope)(x:Str):Prop:=sc.names.lookup x=some .local\/sc.names.lookup x=some .cell
def Look (env:Env)(h:Heap)(m:x_)(x:Str)(u:Value):Prop :=
 (env.kindOf x=some .local/\m x=some u)\/((env.kindOf x=some .cell\/env.kindOf x=some .free)/\∃c,env.cells.lookup x=some c/\h.IsCell c (some u))
structure Cx.Ok (X:Cx):Prop where
 mod:Mod X.K X.mg X.base
 kind:X.env.scope.kind=.function
 glob:X.env.globals=mainGlobals
 blt:X.env.builtins=builtinsNs
 above:X.s₀.heap.objs.size<=X.env.locals
 inj:∀x y c,X.env.cells.lookup x=some c->X.env.cells.lookup y=some c->x=y
 has:∀x,(X.env.kindOf x=some .cell\/X.env.kindOf x=some .free)->∃c,X.env.cells.lookup x=some c
 cab:∀x c,X.fn x=true->X.env.cells.lookup x=some c->X.s₀.heap.objs.size<=c
 hd:X.calm=true->X.A.handled=none
 frames:X.A.frames=some X.stack
 stk:X.stack=X.outer\/(X.stack=X.env::X.outer/\X.env.frame=some X.env.locals)
 exf:∀b∈X.ex,b≠X.env.locals/\∀x c,X.env.cells.lookup x=some c->c≠b
 bs:∀b o,X.base.get? b=some o->X.s₀.heap.get? b=some o/\X.H₀ b=none
 bsz:X.base.objs.size<=X.s₀.heap.objs.size
 noex:∀b o,X.base.get? b=some o->b∉X.ex
 exfs:∀b∈X.ex,b∉X.fs
 funs:X.s₀.heap.FunFrames X.base X.outer
 frf:∀b∈X.fs,X.H₀ b=none
 tab:∀p∈Do X.K,X.H₀ p.1=some (.tbl p.2)
structure Inv (X:Cx) (pins:y_) (σ:List (Option V)) (H:Hp) (s:u_):Prop where
 ok:X.Ok
 os:s.os=X.s₀.os
 bare:AllBare s.gens
 base:Un X.fs X.ex X.H₀ H X.s₀.heap s.heap
 loc:∃m,s.heap.Ns X.env.locals m/\∀(i:Nat) (x:Str) (v:V),X.N[i]?=some x->σ[i]?=some (some v)->Vis X.env.scope x->∃u,RelV v u/\Look X.env s.heap m x u
 cell:∀x c,X.env.cells.lookup x=some c->∃v,s.heap.IsCell c v
 free:H X.env.locals=none
 freeC:∀x c,X.env.cells.lookup x=some c->H c=none
 pin:∀p∈X.pn++pins,s.heap.get? p.1=some p.2/\H p.1=none/\p.1≠X.env.locals/\p.1∉X.fs/\∀v,p.2.data≠.cell v
 hok:HOk X.prog X.w H s.heap
 len:σ.length=X.N.length
section
variable {X:Cx}{pins:y_}{σ:List (Option V)}{H H':Hp}{s:u_}{h':Heap}
def Cx.Ok.nofr (c:X.Ok) (e:X.base.get? b=some o):b∉X.fs:=λa=>by
 have:=(c.funs.mem a).1
 simp_all
def Inv.bs (I:Inv X pins σ H s):∀b o,X.base.get? b=some o->s.heap.get? b=some o/\H b=none:=λb o e =>
 ⟨I.base.keep b o (I.ok.bs b o e).1 (I.ok.bs b o e).2 (I.ok.nofr e) (I.ok.noex b o e),I.base.free b o (I.ok.bs b o e).1 (I.ok.bs b o e).2 (I.ok.noex b o e)⟩
def Inv.bk (I:Inv X pins σ H s):∀b o,X.base.get? b=some o->s.heap.get? b=some o:=λb o e=>(I.bs b o e).1
def Inv.mod (I:Inv X pins σ H s):Mod X.K X.mg X.base:=I.ok.mod
def Inv.kIn (I:Inv X pins σ H s):X.K.In s.heap:=I.ok.mod.kin.keeps I.bk
def Inv.fr (I:Inv X pins σ H s):∃m,Fr X.base X.env.locals s.heap m :=
 let ⟨m,hn,_⟩:=I.loc
 ⟨m,hn,I.bk,ao I.ok.bsz I.ok.above⟩
def Inv.lt (I:Inv X pins σ H s):X.env.locals<s.heap.objs.size:=let ⟨_,hn,_⟩:=I.loc;hn.lt
def Inv.sz (I:Inv X pins σ H s):X.s₀.heap.objs.size<=s.heap.objs.size:=ao I.ok.above (cR I.lt)
def Inv.nofs (I:Inv X pins σ H s) (h:s.heap.objs.size<=a):a∉X.fs:=λc=>by
 obtain⟨_,o,b,_⟩:=I.ok.funs.mem c;exact absurd (aH (az b) (ao I.sz h)) (bc _)
def Inv.cne (I:Inv X pins σ H s):∀x c,X.env.cells.lookup x=some c->c≠X.env.locals:=λx c e z=>by
 obtain⟨v,o,d,i⟩:=I.cell x c e;obtain⟨m,⟨f,g,h,a,b,_⟩,_⟩:=I.loc
 simp_all
def Inv.funs (I:Inv X pins σ H s):s.heap.FunFrames X.base X.outer:=by
 have d:∀(l:List _),(∀b∈frs l,b∈X.fs)->X.s₀.heap.FunFrames X.base l->s.heap.FunFrames X.base l:=by
  intro l
  induction l with
  | nil=>intro _ _;trivial
  | cons h r j =>
   intro g q;obtain⟨i,⟨L,o,f,k,m,n⟩,p⟩:=q
   have c := g L (by unfold frs;simp_all)
   obtain⟨t,e⟩:=I.base.slot L o m (I.ok.frf L c) c λz=>I.ok.exfs L z c
   exact⟨i,⟨L,_,f,k,e,n⟩,j (λb a=>g b (by unfold frs;rw[dJ,f];exact bD _ a)) p⟩
 exact d _ (λ_ a=>a) I.ok.funs
def Inv.stack (I:Inv X pins σ H s):s.heap.FunFrames X.base X.stack:=by
 rcases I.ok.stk with e | ⟨e,b⟩
 ·rw[e];exact I.funs
 ·rw[e]
  obtain⟨m,a,_⟩:=I.loc
  refine .cons (by rw[I.ok.kind];decide) b a ?_ I.funs
  exact gB (ao I.ok.bsz I.ok.above)
def Inv.stkSub (I:Inv X pins σ H s):∀b∈frs X.stack,b∈X.env.locals::X.fs:=λb a=>by
 rcases I.ok.stk with e | ⟨e,c⟩
 ·simp_all
 ·rw[e]at a
  unfold frs at a;rw[dJ,c]at a;exact a
def Inv.stkFree (I:Inv X pins σ H s):∀b∈frs X.stack,H b=none:=λb a=>by
 rcases aD.mp (I.stkSub b a) with e | a
 ·rw[e];exact I.free
 ·obtain⟨_,o,c,_⟩:=I.ok.funs.mem a
  exact I.base.free b o c (I.ok.frf b a) λz=>I.ok.exfs b z a
def Inv.step {ch:v6}(I:Inv X pins σ H s)
 (j:∀b∈ch,(b∈X.ex\/X.s₀.heap.objs.size<=b)/\b≠X.env.locals/\(∀x c,X.env.cells.lookup x=some c->c≠b)/\∀p∈X.pn++pins,p.1≠b)
 (t:∀b o,b≠X.env.locals->b∉X.fs->b∉ch->s.heap.get? b=some o->H b=none->h'.get? b=some o)
 (slot:∀b o,b≠X.env.locals->b∈X.fs->b∉ch->s.heap.get? b=some o->H b=none->∃L,h'.get? b=some { o with slots:=L }) (f:∀b o,b∉ch->s.heap.get? b=some o->H b=none->H' b=none)
 (w:∀b o,b∉ch->s.heap.get? b=some o->∃O,h'.get? b=some O)
 (D:∀b J,H b=some (.tup J)->H' b=some (.tup J)) (F:∀b o u,H b=some (.frz o u)->H' b=some (.frz o u)) (C:∀b q,H b=some (.tbl q)->H' b=some (.tbl q))
 (ns:∀m,s.heap.Ns X.env.locals m->h'.Ns X.env.locals m) (N:HOk X.prog X.w H' h') (hg:AllBare g') :
 Inv X pins σ H' { s with heap:=h',gens:=g',drawn:=d',toks:=t' }:=by
 have G:∀b o,X.s₀.heap.get? b=some o->b≠X.env.locals:=λb o e=>aM (aH (az e) I.ok.above)
 have h:∀b o,X.s₀.heap.get? b=some o->b∉X.ex->b∉ch:=λb o e a A=>by
  rcases (j b A).1 with z | z
  ·exact a z
  ·exact absurd (aH (az e) z) (bc _)
 have g:∀x c,X.env.cells.lookup x=some c->∀v,s.heap.IsCell c v->h'.IsCell c v:=λx c e v ⟨o,B,K⟩=>by
  have E:c∉ch:=λz=>(j c z).2.2.1 x c e rfl
  by_cases hc:c∈X.fs
  ·obtain⟨L,q⟩:=slot c o (I.cne x c e) hc E B (I.freeC x c e)
   exact⟨_,q,K⟩
  ·exact⟨o,t c o (I.cne x c e) hc E B (I.freeC x c e),K⟩
 refine⟨I.ok,I.os,hg,⟨λb o e n A a=>?_,λb o e n A a=>?_,λb o e n a=>?_,λb o e a=>?_,λb J e=>D b _ (I.base.tups b _ e),λb o J e=>F b o _ (I.base.frzs b o _ e),λb V e=>?_⟩,?_,λx c e=>?_,?_,λx c e=>?_,λp Q=>?_,N,I.len⟩
 ·exact t b o (G b o e) A (h b o e a) (I.base.keep b o e n A a) (I.base.free b o e n a)
 ·obtain⟨L,y⟩:=I.base.slot b o e n A a
  obtain⟨P,M⟩:=slot b _ (G b o e) A (h b o e a) y (I.base.free b o e n a);exact⟨P,M⟩
 ·obtain⟨O,y⟩:=I.base.there b o e a
  exact f b _ (h b o e a) y (I.base.free b o e n a)
 ·obtain⟨O,y⟩:=I.base.there b o e a
  exact w b _ (h b o e a) y
 ·exact C b _ (I.base.tbls b _ e)
 ·obtain⟨m,R,S⟩:=I.loc
  refine⟨m,ns m R,λi x v y M T=>?_⟩
  obtain⟨u,r,l⟩:=S i x v y M T
  refine⟨u,r,?_⟩
  rcases l with l | ⟨k,c,e,z⟩
  ·exact .inl l
  ·exact .inr ⟨k,c,e,g x c e _ z⟩
 ·obtain⟨v,z⟩:=I.cell x c e
  exact⟨v,g x c e v z⟩
 ·obtain⟨m,⟨o,_,_,B,_⟩,_⟩:=I.loc
  exact f _ o (λz=>(j _ z).2.1 rfl) B I.free
 ·obtain⟨v,o,B,K⟩:=I.cell x c e
  exact f c o (λz=>(j c z).2.2.1 x c e rfl) B (I.freeC x c e)
 ·obtain⟨e,n,W,U,d⟩:=I.pin p Q
  grind
def Inv.un (I:Inv X pins σ H s) (u:Un X.fs [] H H' s.heap h') (g:HOk X.prog X.w H' h'):Inv X pins σ H' { s with heap:=h',toks:=t' }:=by
 obtain⟨m,⟨o,l,v,h,r⟩,_⟩:=id I.loc
 obtain⟨q,j⟩:=u.any h I.free (by simp)
 exact I.step (ch:=[]) (λ_ z=>nomatch z) (λb o _ c _ e n=>u.keep b o e n c (by simp)) (λb o _ c _ e n=>u.slot b o e n c (by simp)) (λb o _ e n=>u.free b o e n (by simp)) (λb o _ e=>u.there b o e (by simp)) u.tups u.frzs u.tbls (λt i=>by
  obtain⟨p,d,f,a,k⟩:=i;rw[h]at a;cases a
  exact⟨_,d,f,j,k⟩) g I.bare
def Inv.call (I:Inv X pins σ H s) (u:Un (frs X.stack) ch H H' s.heap h') (g:HOk X.prog X.w H' h') (hg:AllBare g')
 (d:∀b∈ch,(b∈X.ex\/X.s₀.heap.objs.size<=b)/\b≠X.env.locals/\(∀x c,X.env.cells.lookup x=some c->c≠b)/\∀p∈X.pn++pins,p.1≠b) :
 Inv X pins σ H' { s with heap:=h',gens:=g',drawn:=d',toks:=t' }:=by
 obtain⟨m,⟨o,v,A,k,r⟩,_⟩:=id I.loc
 obtain⟨y,h⟩:=u.any k I.free λz=>(d _ z).2.1 rfl
 exact I.step d (λb o h q a e n=>u.keep b o e n (λz=>(aD.mp (I.stkSub b z)).elim h q) a) (λb o _ _ a e n=>u.any e n a) (λb o a e n=>u.free b o e n a) (λb o a e=>u.there b o e a) u.tups u.frzs u.tbls (λB t=>by
  obtain⟨w,j,i,f,l⟩:=t;rw[k]at f;cases f
  exact⟨_,j,i,h,l⟩) g hg
def Inv.turned (I:Inv X pins σ H s) (k:∀b o,b≠it->s.heap.get? b=some o->h'.get? b=some o) (hn:H it=none) (h:it≠X.env.locals)
 (h1:it∈X.ex\/X.s₀.heap.objs.size<=it) (h2:∀x c,X.env.cells.lookup x=some c->c≠it) (j:∀p∈X.pn++pins,p.1≠it):Inv X pins σ H { s with heap:=h',toks:=t' }:=by
 refine I.step (ch:=[it]) (λb t=>?_) (λb o _ _ a e _=>k b o (λz=>a (by grind)) e) (λb o _ _ a e _=>⟨o.slots,k b o (λz=>a (by grind)) e⟩) (λ_ _ _ _ n=>n)
  (λb o a e=>⟨o,k b o (λz=>a (by grind)) e⟩) (λ_ _ e=>e) (λ_ _ _ e=>e) (λb l e=>e) (λm g=>?_) (λb u e=>?_) I.bare
 ·grind
 ·obtain⟨o,f,i,d,r⟩:=g
  exact⟨o,f,i,k _ o (aF h) d,r⟩
 ·refine (I.hok b u e).stay (λc v a q=>k c v ?_ q) (λ_ q=>q) λ_ _ q=>q
  grind
def Inv.tok (I:Inv X pins σ H s)(t:Nat):Inv X pins σ H { s with toks:=t }:=I.un Un.refl I.hok
def Inv.kept (I:Inv X pins σ H s) (k:∀b u,s.heap.get? b=some u->h'.get? b=some u):Inv X pins σ H { s with heap:=h',toks:=t' }:=I.un (Un.kept k) (I.hok.kept k)
def Inv.laid (I:Inv X pins σ H s) (k:∀b u,s.heap.get? b=some u->h'.get? b=some u) (hp:s.heap.objs.size<=a) (c:zE X.prog X.w (upd H a o) h' a o) :
 Inv X pins σ (upd H a o) { s with heap:=h',toks:=t' }:=I.un (Un.laid k hp (I.hok.fresh hp)) (I.hok.laid k hp c)
def Inv.write (I:Inv X pins σ H s) (d:Mut (H x)) (he:e=x\/H e=some (.own x)) (k:∀b u,b≠e->s.heap.get? b=some u->h'.get? b=some u) (a:∃u,h'.get? e=some u)
 (c:zE X.prog X.w (upd H x o) h' x o):Inv X pins σ (upd H x o) { s with heap:=h',toks:=t' }:=I.un (Un.write d he k a) (I.hok.write d he k a c)
def Inv.pins_of (I:Inv X pins σ H s) (h:∀p∈a,s.heap.get? p.1=some p.2/\H p.1=none/\p.1≠X.env.locals/\p.1∉X.fs/\∀v,p.2.data≠.cell v):Inv X a σ H s :=
 ⟨I.ok,I.os,I.bare,I.base,I.loc,I.cell,I.free,I.freeC,λp b=>(bJ.mp b).elim (λz=>I.pin p (bf _ z)) (h p),I.hok,I.len⟩
def Am7 {N:v4}(hN:N.Nodup){i j:Nat} (a:N[i]?=some x) (b:N[j]?=some x):i=j:=by
 obtain⟨e,d⟩:=bG.mp a;obtain⟨f,c⟩:=bG.mp b;exact(List.getElem_inj hN).mp (d.trans c.symm)
def Z0 (I:Inv X pins σ H s) (hN:X.N.Nodup) (hi:X.N[i]?=some x) (hx:Loc X.env.scope x) (r:RelV v u)
 (h:∀s',Inv X pins (σ.set i (some v)) H s'->(∃a,Heap.SameBut a s.heap s'.heap/\(a=X.env.locals\/X.env.cells.lookup x=some a))->Q () s') (hf:X.fn x=true\/X.env.scope.names.lookup x=some .local:=by first | exact .inl rfl | exact .inr rfl | assumption):wpAny M A (storeName X.env x u) Q E s:=by
 obtain⟨m,S,hl⟩:=id I.loc
 have K:(X.env.scope.kind==.class||(X.env.scope.kind==.module&&X.env.locals != X.env.globals))=false:=by rw[I.ok.kind];rfl
 have C:i<σ.length:=by rw[I.len];exact(bG.mp hi).1
 have J:=I.cne
 have g:∀{a:Addr} {L:Heap},(∃o,s.heap.get? a=some o/\H a=none)->Heap.SameBut a s.heap L->HOk X.prog X.w H L:=λ{a L} ha f b ob e=>by
  obtain⟨_,_,w⟩:=ha
  refine (I.hok b ob e).stay (λc w' t q=>(f.2 c ?_).trans q) (λ_ q=>q) λ_ _ q=>q
  rintro rfl
  rcases t with rfl | t
  ·rw[w]at e;cases e
  ·rw[w]at t;cases t
 rcases hx with D | D
 ·refine wpAny_storeName_local D S (λL hn' f=>?_) K
  obtain⟨oL,_,_,hoL,_⟩:=id S
  refine h _ ⟨I.ok,I.os,I.bare,⟨λb o e n F hx=>?_,λb o e n F hx=>?_,I.base.free,λb o e hx=>?_,I.base.tups,I.base.frzs,I.base.tbls⟩,⟨_,hn',λj y v' l B T=>?_⟩,λy c e=>?_,I.free,I.freeC,λp U=>?_,g ⟨oL,hoL,I.free⟩ f,by simpa using I.len⟩ ⟨_,f,.inl rfl⟩
  ·exact(f.2 b (aM (aH (az e) I.ok.above))).trans (I.base.keep b o e n F hx)
  ·obtain⟨W,l⟩:=I.base.slot b o e n F hx
   exact⟨W,(f.2 b (aM (aH (az e) I.ok.above))).trans l⟩
  ·obtain⟨Y,l⟩:=I.base.there b o e hx
   exact⟨Y,(f.2 b (aM (aH (az e) I.ok.above))).trans l⟩
  ·by_cases hj:j=i
   ·subst hj
    rw[hi]at l;cases l;rw[cA C]at B
    cases B
    exact⟨u,r,.inl ⟨D,by simp⟩⟩
   ·rw[cj (aF hj)]at B
    obtain⟨Z,r',q⟩:=hl j y _ l B T
    refine⟨Z,r',?_⟩
    rcases q with ⟨k,e⟩ | ⟨k,c,e,z⟩
    ·refine .inl ⟨k,?_⟩
     have:y≠x:=λe=>hj (Am7 hN l (e▸hi))
     simp[this,e]
    ·exact .inr ⟨k,c,e,z.sameBut f (J y c e)⟩
  ·obtain⟨w',z⟩:=I.cell y c e
   exact⟨w',z.sameBut f (J y c e)⟩
  ·obtain⟨e,n,R,nf,d⟩:=I.pin p U
   exact⟨(f.2 _ R).trans e,n,R,nf,d⟩
 ·have G:X.fn x=true:=by
   rcases hf with z | z
   ·exact z
   ·rw[z]at D;cases D
  obtain⟨c,t⟩:=I.ok.has x (.inl D);obtain⟨w',z⟩:=I.cell x c t
  refine wpAny_storeName_cell I.ok.kind D t z λL N f=>?_
  obtain⟨oc,P,O⟩:=id z
  refine h _ ⟨I.ok,I.os,I.bare,⟨λb o e n F hx=>?_,λb o e n F hx=>?_,I.base.free,λb o e hx=>?_,I.base.tups,I.base.frzs,I.base.tbls⟩,⟨m,S.sameBut f (aF (J x c t)),λj y v' l B T=>?_⟩,λy c' e=>?_,I.free,I.freeC,λp U=>?_,g ⟨oc,P,I.freeC x c t⟩ f,by simpa using I.len⟩ ⟨c,f,.inr t⟩
  ·exact(f.2 b (aM (aH (az e) (I.ok.cab x c G t)))).trans (I.base.keep b o e n F hx)
  ·obtain⟨W,l⟩:=I.base.slot b o e n F hx
   exact⟨W,(f.2 b (aM (aH (az e) (I.ok.cab x c G t)))).trans l⟩
  ·obtain⟨Y,l⟩:=I.base.there b o e hx
   exact⟨Y,(f.2 b (aM (aH (az e) (I.ok.cab x c G t)))).trans l⟩
  ·by_cases hj:j=i
   ·subst hj
    rw[hi]at l;cases l;rw[cA C]at B
    cases B
    exact⟨u,r,.inr ⟨.inl D,c,t,N⟩⟩
   ·rw[cj (aF hj)]at B
    obtain⟨Z,r',q⟩:=hl j y _ l B T
    refine⟨Z,r',?_⟩
    rcases q with q | ⟨k,c',e,z'⟩
    ·exact .inl q
    ·refine .inr ⟨k,c',e,z'.sameBut f ?_⟩
     rintro rfl
     exact hj (Am7 hN l (I.ok.inj _ _ _ e t▸hi))
  ·by_cases hcc:c'=c
   ·subst hcc;exact⟨_,N⟩
   ·obtain⟨w2,z2⟩:=I.cell y _ e
    exact⟨w2,z2.sameBut f hcc⟩
  ·obtain⟨e,n,R,nf,d⟩:=I.pin p U
   refine⟨(f.2 _ ?_).trans e,n,R,nf,d⟩
   intro q;rw[q,P]at e
   exact d _ (by rw[<- (bT e)];exact O)
def Gp (I:Inv X pins σ H s) (hN:X.N.Nodup) (hi:X.N[i]?=some x) (hx:Loc X.env.scope x) (r:RelV v u)
 (h:∀a,Inv X pins (σ.set i (some v)) H a->Q () a) (hf:X.fn x=true\/X.env.scope.names.lookup x=some .local:=by first | exact .inl rfl | exact .inr rfl | assumption):wpAny M A (storeName X.env x u) Q E s :=
 Z0 I hN hi hx r (λa b _=>h _ b) hf
def Inv.call' (I:Inv X pins σ H s) (ho:s'.os=s.os) (u:Un (frs X.stack) ch H H' s.heap s'.heap) (d:HOk X.prog X.w H' s'.heap) (hg:AllBare s'.gens)
 (a:∀b∈ch,(b∈X.ex\/X.s₀.heap.objs.size<=b)/\b≠X.env.locals/\(∀x c,X.env.cells.lookup x=some c->c≠b)/\∀p∈X.pn++pins,p.1≠b):Inv X pins σ H' s':=by
 obtain⟨f,g,h,i,e⟩:=s';subst ho;exact I.call u d hg a
end
abbrev XK:=Value->Option Addr->Hp->Prop
abbrev St:=List (Option V)
abbrev VK:=V->Hp->Prop
abbrev TE:=St->Hp->VK->Prop
abbrev TT:=St->Hp->(Bool->Hp->Prop)->Prop
abbrev TA:=St->Hp->(m6->Hp->Prop)->Prop
structure Ends where
 nx:St->Hp->Prop
 rt:VK
 bk:St->Hp->Prop:=λ_ _=>False
 ct:St->Hp->Prop:=λ_ _=>False
abbrev TS:=Ends->St->Hp->Prop
def EP (X:Cx)(pins:y_)(σ:St)(Q:VK)(u:Value)(s':u_):Prop:=∃v H',Inv X pins σ H' s'/\RelV v u/\Q v H'
def TP (X:Cx)(pins:y_)(σ:St)(Q:Bool->Hp->Prop)(b:Bool)(s':u_):Prop:=∃H',Inv X pins σ H' s'/\Q b H'
def AP (X:Cx)(pins:y_)(σ:St)(Q:m6->Hp->Prop)(us:w6)(s':u_):Prop:=∃vs H',Inv X pins σ H' s'/\Vals vs us/\Q vs H'
def SP (X:Cx)(pins:y_)(D:Ends)(f:Flow)(s':u_):Prop :=
 match f with
 | .next=>∃σ' H',Inv X pins σ' H' s'/\D.nx σ' H'
 | .brk=>∃σ' H',Inv X pins σ' H' s'/\D.bk σ' H'
 | .cont=>∃σ' H',Inv X pins σ' H' s'/\D.ct σ' H'
 | .ret u=>∃v σ' H',Inv X pins σ' H' s'/\RelV v u/\D.rt v H'
def PE (X:Cx)(e:Expr)(t:TE):Prop :=
 ∀(pins:y_) (s:u_) (σ:St) (H:Hp) (Q:VK),Inv X pins σ H s->t σ H Q->wpAny (model X.prog X.w) X.A (eval e X.env) (EP X pins σ Q) X.xe s
structure QE (X:Cx) (e:Expr) (t:TE):Prop where
 get:PE X e t
def PT (X:Cx)(e:Expr)(t:TT):Prop :=
 ∀(pins:y_) (s:u_) (σ:St) (H:Hp) (Q:Bool->Hp->Prop),Inv X pins σ H s->t σ H Q->wpAny (model X.prog X.w) X.A (isTrue e X.env (eval e X.env)) (TP X pins σ Q) X.xe s
structure QT (X:Cx) (e:Expr) (t:TT):Prop where
 get:PT X e t
def PW (X:Cx)(e:Expr)(t:TT):Prop :=
 ∀(whole:Sem Value) (pins:y_) (s:u_) (σ:St) (H:Hp) (Q:Bool->Hp->Prop),Inv X pins σ H s->t σ H Q->wpAny (model X.prog X.w) X.A (isTrue e X.env whole) (TP X pins σ Q) X.xe s
structure QW (X:Cx) (e:Expr) (t:TT):Prop where
 get:PW X e t
def PW.pt (h:PW X e t):PT X e t:=h _
def PA (X:Cx)(es:v_)(t:TA):Prop :=
 ∀(pos:Pos) (pins:y_) (s:u_) (σ:St) (H:Hp) (Q:m6->Hp->Prop),Inv X pins σ H s->t σ H Q->wpAny (model X.prog X.w) X.A (spliced (backTo pos (starEach es X.env))) (AP X pins σ Q) X.xe s
structure QA (X:Cx) (e:(v_)) (t:TA):Prop where
 get:PA X e t
def PS (X:Cx)(st:Stmt)(t:TS):Prop :=
 ∀(pins:y_) (s:u_) (σ:St) (H:Hp) (D:Ends),Inv X pins σ H s->t D σ H->wpAny (model X.prog X.w) X.A (exec st X.env) (SP X pins D) X.xe s
structure QS (X:Cx) (st:Stmt) (t:TS):Prop where
 get:PS X st t
def PSs (X:Cx)(st:List Stmt)(t:TS):Prop :=
 ∀(pins:y_) (s:u_) (σ:St) (H:Hp) (D:Ends),Inv X pins σ H s->t D σ H->wpAny (model X.prog X.w) X.A (execs st X.env) (SP X pins D) X.xe s
structure QSs (X:Cx) (st:(List Stmt)) (t:TS):Prop where
 get:PSs X st t
def thn {t:Sem c}{Q b:c->u_->Prop} (h:wpAny M A t Q E s) (d:∀a s,Q a s->b a s):wpAny M A t b E s:=aL h d λ_ _ x=>x
section
variable {X:Cx}
def Rw (i:Nat):TE:=λσ H Q=>∃v,σ[i]?=some (some v)/\Q v H
def tC (v:V):TE:=λ_ H Q=>Q v H
def Ae1 {f:Pos}(hN:X.N[i]?=some x) (hv:Vis X.env.scope x) (hd:(x==("__debug__" : Str))=false:=by decide) (hcd:(x==("__classdict__" : Str))=false:=by decide):PE X (.Name x f) (Rw i):=by
 intro j s p H Q I h;obtain⟨v,e,h⟩:=h;obtain⟨m,k,n⟩:=I.loc;obtain⟨u,r,l⟩:=n i x v hN e hv;have b:EP X _ _ Q u s:=⟨v,H,I,r,h⟩
 rcases l with ⟨d,o⟩ | ⟨d,c,g,a⟩
 ·exact wpAny_Name (wpAny_loadName_local I.ok.kind d k o b) hd
 ·rcases d with d | d
  ·exact wpAny_Name (wpAny_loadName_cell I.ok.kind d g a b) hd
  ·exact wpAny_Name (wpAny_loadName_free I.ok.kind d g a b hcd) hd
def A8l : PE X (.Constant (.int i) j a) (tC (.int i)):=λ_ _ _ H _ I h=>wpAny_Constant_int ⟨.int i,H,I.tok _,⟨_,rfl⟩,h⟩
def Bw8 : PE X (.Constant (.bool b) j a) (tC (.bl b)):=λ_ _ _ H _ I h=>Constant_bool ⟨.bl b,H,I,rfl,h⟩
def A7q : PE X (.Constant .none j a) (tC .non):=λ_ _ _ H _ I h=>Constant_none ⟨.non,H,I,rfl,h⟩
def Bc9 : PE X (.Constant (.str x) j a) (tC (.str x)):=λ_ _ _ H _ I h=>Calls.Constant_str ⟨.str x,H,I.tok _,⟨_,rfl⟩,h⟩
def Gl (X:Cx)(x:Str):Prop:=X.env.kindOf x=some .globalImplicit
def Lb (I:Inv X pins b H s) (hg:Gl X x) (hm:X.mg x=some u) (h:Q u s)
 (hd:(x==("__debug__" : Str))=false:=by decide):wpAny (model X.prog X.w) X.A (eval (.Name x a) X.env) Q E s :=
 Calls.Name_function_global I.ok.kind hg (Calls.loadGlobal_global (by rw[I.ok.glob];exact I.mod.glob.keeps I.bk) hm h) hd
def Lj {E:z_} {a:Pos} (I:Inv X pins c H s) (hg:Gl X x) (hm:X.mg x=none) (hv:bootBuiltins x=some u) (h:Q u s)
 (hn:x ≠ "__name__" := by decide) (hd:(x==("__debug__" : Str))=false:=by decide):wpAny (model X.prog X.w) X.A (eval (.Name x a) X.env) Q E s:=by
 obtain⟨e,d,b⟩:=I.mod.blt
 exact Calls.Name_function_global I.ok.kind hg (Calls.loadGlobal_builtin (by rw[I.ok.glob];exact I.mod.glob.keeps I.bk) hm (by rw[I.ok.blt];exact d.keeps I.bk) ((b x hn).trans hv) h) hd
def Br4 (hg:Gl X x) (hm:X.mg x=some u) (r:RelV v u) (hd:(x==("__debug__" : Str))=false:=by decide):PE X (.Name x a) (tC v) :=
 λ_ _ _ H _ I h=>Lb I hg hm ⟨v,H,I,r,h⟩ hd
def Bi4 {a:Pos}(hg:Gl X x) (hm:X.mg x=none) (hv:bootBuiltins x=some u) (r:RelV v u) (hn:x ≠ "__name__" := by decide) (hd:(x==("__debug__" : Str))=false:=by decide):PE X (.Name x a) (tC v) :=
 λ_ _ _ H _ I h=>Lj I hg hm hv ⟨v,H,I,r,h⟩ hn hd
variable {a b:Expr}{ta tb:TE}{pos:Pos}
def tB (t:TE):TT:=λσ H Q=>t σ H λx H1=>∃c,x=.bl c/\Q c H1
def Jd (h:QE X e t) (he:∀whole,isTrue e X.env whole=(do let v <- whole;standAt e.pos;holding [v] (truthy v)):=by intro _;rfl):QT X e (tB t):=by
 refine⟨?_⟩
 intro a s σ H Q I f
 refine isTrue_plain (thn (h.1 _ s _ H _ I f) λv s1 ⟨x,g,b,c,i⟩=>?_) (he _)
 obtain⟨d,rfl,q⟩:=i
 cases c
 exact gC ⟨g,b,q⟩
variable {tA tB':TT}{rest:v_}
def tOr (t u:TT):TT:=λσ H Q=>t σ H λc H1=>if c=true then Q true H1 else u σ H1 Q
def B6b (t:TT):TT:=λσ H Q=>t σ H λc H1=>Q (!c) H1
def Aa5 (ha:QT X a tA):QW X (.BoolOp .Or [a] pos) tA:=by
 refine⟨?_⟩
 intro f b s g H Q I h
 refine isTrue_or (thn (ha.1 _ s _ H Q I h) λc d e=>?_)
 cases c with
 | false=>exact isTrue_or_nil e
 | true=>exact e
def Ao0 (ha:QT X a tA)(hb:QW X (.BoolOp .Or (b::rest) pos) tB'):QW X (.BoolOp .Or (a::b::rest) pos) (tOr tA tB'):=by
 obtain⟨hb⟩:=hb
 refine⟨?_⟩
 intro g d s k H Q I h
 refine isTrue_or (thn (ha.1 _ s _ H _ I h) λc i ⟨j,f,e⟩=>?_)
 cases c with
 | true=>assumption
 | false=>exact hb _ _ _ _ _ Q f e
def Ae5 (ha:QT X a tA):QT X (.UnaryOp .Not a pos) (B6b tA):=by
 refine⟨?_⟩
 intro b s c H Q I h;exact isTrue_not (ha.1 _ s _ H _ I h)
def Bw9 (ta tb:TE):TE:=λσ H Q=>ta σ H λx H1=>∃c,x=.bl c/\if c=true then tb σ H1 Q else Q (.bl false) H1
def Bv4 (ta:TE):TE:=λσ H Q=>ta σ H λx H1=>∃c,x=.bl c/\Q (.bl (!c)) H1
def B1u (h:PE X a t):PE X (.BoolOp op [a] pos) t:=λb s d H Q I c=>BoolOp_one (h _ s _ H Q I c)
def Vn (ha:QE X a ta)(hb:QE X (.BoolOp .And (b::rest) pos) tb):QE X (.BoolOp .And (a::b::rest) pos) (Bw9 ta tb):=by
 obtain⟨hb⟩:=hb
 refine⟨?_⟩
 intro e s σ H Q I h
 refine BoolOp_and (thn (ha.1 _ s _ H _ I h) λv s1 ⟨x,i,f,g,d⟩=>?_)
 obtain⟨c,rfl,d⟩:=d
 cases g
 refine gC ?_
 cases c with
 | true=>exact hb _ _ _ _ Q f d
 | false=>exact⟨.bl _,i,f,rfl,d⟩
def By1 (ha:QE X a ta):QE X (.UnaryOp .Not a pos) (Bv4 ta):=by
 refine⟨?_⟩
 intro d s σ H Q I h
 refine UnaryOp_ (thn (ha.1 _ s _ H _ I h) λv s1 ⟨x,f,g,e,b⟩=>?_)
 obtain⟨c,rfl,b⟩:=b
 cases e
 exact not_of (gC ⟨.bl _,f,g,rfl,b⟩)
def tIf (t:TT)(ta tb:TE):TE:=λσ H Q=>t σ H λc H1=>if c=true then ta σ H1 Q else tb σ H1 Q
def M9 (hc:QT X c tA) (ha:QE X a ta) (hb:QE X b tb):QE X (.IfExp c a b pos) (tIf tA ta tb):=by
 obtain⟨ha⟩:=ha;obtain⟨hb⟩:=hb
 refine⟨?_⟩
 intro g s i H Q I h
 refine wpAny_IfExp (thn (hc.1 _ s _ H _ I h) λd k ⟨j,f,e⟩=>?_)
 cases d with
 | true=>exact ha _ _ _ _ Q f e
 | false=>exact hb _ _ _ _ Q f e
end
def SqL (K:v9)(H:Hp)(a:Addr)(xs:m6):Prop :=
 Rd H a (.lst xs) \/
  ∃(o:Obj) (its:v7) (n:Nat),K.lookup a=some o/\o.cls=.type "list" /\ o.dict=none/\o.data=.seq its n/\its.size<=sizeLine/\Vals xs its.toList
def SqT (K:v9)(H:Hp)(a:Addr)(xs:m6):Prop :=
 Rd H a (.tup xs) \/
  ∃(o:Obj) (its:v7) (n:Nat),K.lookup a=some o/\o.cls=.type "tuple" /\ o.data=.seq its n/\its.size<=sizeLine/\Vals xs its.toList
noncomputable def B7f:Value->Option V
 | .none=>some .non
 | .bool b=>some (.bl b)
 | .int i _=>some (.int i)
 | .str x _=>some (.str x)
 | .bytes b _=>some (.byt b)
 | .float b _=>some (.flt b)
 | .ref a=>some (.ref a)
 | .type n=>some (.ty n)
 | _=>none
def RelV.abs (r:RelV x u):B7f u=some x:=by
 cases x with
 | non=>cases r;rfl
 | bl _=>cases r;rfl
 | int _=>obtain⟨t,rfl⟩:=r;rfl
 | str _=>obtain⟨t,rfl⟩:=r;rfl
 | byt _=>obtain⟨t,rfl⟩:=r;rfl
 | flt _=>obtain⟨t,rfl⟩:=r;rfl
 | ref _=>cases r;rfl
 | ty _=>cases r;rfl
def RelV.inj (r:RelV x u) (q:RelV y u):x=y:=bT (r.abs.symm.trans q.abs)
def Vals.inj:∀{xs ys:m6}{us:w6},Vals xs us->Vals ys us->xs=ys
 | _,_,_,.nil,.nil=>rfl
 | _,_,_,.cons r t,.cons r' t'=>by rw[r.inj r',Vals.inj t t']
section
variable {X:Cx}{pins:y_}{σ:St}{H:Hp}{s:u_}{a:Addr}{xs ys:m6}
def SqL.of {K:v9}(h:H a=some (.lst xs)):SqL K H a xs:=.inl (.inl h)
def SqT.of {K:v9}(h:H a=some (.tup xs)):SqT K H a xs:=.inl (.inl h)
def Inv.list (I:Inv X pins σ H s)(h:SqL X.K H a xs):∃b:w6,Vals xs b/\PlainL s.heap a b.toArray/\xs.length<=sizeLine:=by
 rcases h with h | ⟨o,b,n,d,c,f,i,g,r⟩
 ·obtain⟨z,b,n,r,e⟩:=h.ok I.hok
  exact⟨b,r,⟨_,n,e,rfl,rfl,rfl⟩,z⟩
 ·refine⟨b.toList,r,⟨o,n,I.kIn a o d,c,f,by trivial⟩,?_⟩
  have e:=r.length
  simp_all
def Inv.tuple (I:Inv X pins σ H s)(h:SqT X.K H a xs):∃b:w6,Vals xs b/\IsTup s.heap a b.toArray/\xs.length<=sizeLine:=by
 rcases h with h | ⟨o,b,n,d,c,g,f,r⟩
 ·obtain⟨z,b,r,p⟩:=h.ok I.hok
  exact⟨b,r,p.tup,z⟩
 ·refine⟨b.toList,r,⟨o,I.kIn a o d,c,n,by trivial⟩,?_⟩
  have e:=r.length
  simp_all
def Inv.list_inj (I:Inv X pins σ H s)(h:SqL X.K H a xs)(h':SqL X.K H a ys):xs=ys:=by
 obtain⟨c,r,⟨o,n,e,_,_,d⟩,_⟩:=I.list h;obtain⟨b,f,⟨i,j,k,_,_,g⟩,_⟩:=I.list h'
 have:c=b:=by simp_all
 subst this;exact r.inj f
def Inv.tuple_inj (I:Inv X pins σ H s)(h:SqT X.K H a xs)(h':SqT X.K H a ys):xs=ys:=by
 obtain⟨c,r,⟨o,e,_,n,d⟩,_⟩:=I.tuple h;obtain⟨b,f,⟨i,j,_,k,g⟩,_⟩:=I.tuple h'
 have:c=b:=by simp_all
 subst this;exact r.inj f
end
noncomputable abbrev Cx.wish (X:Cx) (E:z_):Cx:={ X with xe:=E }
abbrev Cx.nox (X:Cx):Cx:=X.wish λ_ _=>False
def Cx.Ok.wish {X:Cx}(a:X.Ok)(E:z_):(X.wish E).Ok :=
 ⟨a.mod,a.kind,a.glob,a.blt,a.above,a.inj,a.has,a.cab,a.hd,a.frames,a.stk,a.exf,a.bs,a.bsz,a.noex,a.exfs,a.funs,a.frf,a.tab⟩
def Cx.Ok.unwish {X:Cx} (a:(X.wish E).Ok):X.Ok :=
 ⟨a.mod,a.kind,a.glob,a.blt,a.above,a.inj,a.has,a.cab,a.hd,a.frames,a.stk,a.exf,a.bs,a.bsz,a.noex,a.exfs,a.funs,a.frf,a.tab⟩
section
variable {X:Cx}{pins:y_}{σ:St}{H:Hp}{s:u_}{E:z_}
def Inv.wish (I:Inv X pins σ H s)(E:z_):Inv (X.wish E) pins σ H s:=⟨I.ok.wish E,I.os,I.bare,I.base,I.loc,I.cell,I.free,I.freeC,I.pin,I.hok,I.len⟩
def Inv.unwish (I:Inv (X.wish E) pins σ H s):Inv X pins σ H s:=⟨I.ok.unwish,I.os,I.bare,I.base,I.loc,I.cell,I.free,I.freeC,I.pin,I.hok,I.len⟩
def SP.unwish (h:SP (X.wish E) pins D f s'):SP X pins D f s':=by
 cases f with
 | next=>obtain⟨a,b,I,q⟩:=h;exact⟨a,b,I.unwish,q⟩
 | brk=>obtain⟨a,b,I,q⟩:=h;exact⟨a,b,I.unwish,q⟩
 | cont=>obtain⟨a,b,I,q⟩:=h;exact⟨a,b,I.unwish,q⟩
 | ret u=>obtain⟨v,a,b,I,r,q⟩:=h;exact⟨v,a,b,I.unwish,r,q⟩
def PSs.nox {st:List Stmt} (h:PSs X.nox st t):PSs X st t:=λa s c H D I b =>
 aL (h _ s _ H D (I.wish _) b) (λ_ _ q=>q.unwish) λ_ _ z=>False.elim z
end
section
variable {X:Cx}{st:Stmt}{rest:List Stmt}{t u:TS}{e:Expr}{te:TE}{pos:Pos}
def Bh9:TS:=λD σ H=>D.nx σ H
def Ax0 (t u:TS):TS:=λD σ H=>t { D with nx:=u D } σ H
def Bk0:PSs X [] Bh9:=λ_ _ a H _ I h=>gD ⟨a,H,I,h⟩
def Ae (h1:QS X st t)(h2:QSs X rest u):QSs X (st::rest) (Ax0 t u):=by
 obtain⟨h2⟩:=h2
 refine⟨?_⟩
 intro a s d H D I h
 refine fJ (thn (h1.1 _ s _ H _ I h) λf e q=>?_)
 cases f with
 | next =>
  obtain⟨c,g,b,q⟩:=q;exact h2 _ _ _ _ D b q
 | ret v=>exact q
 | brk=>exact q
 | cont=>exact q
def A1p (h1:PS X st t):PSs X [st] t:=by
 intro a s c H D I h
 refine fJ (thn (h1 _ s _ H D I h) λf b q=>?_)
 cases f with
 | next=>exact gD q
 | ret v=>grind
 | brk=>grind
 | cont=>grind
def Inv.quiet (I:Inv X pins a H s):interactive X.env=false:=by simp[interactive,I.ok.kind]
def A7c (te:TE):TS:=λD σ H=>te σ H λ_ H1=>D.nx σ H1
def Gq (he:QE X e te)(hs:swapsWith e none pos.line X.env=pure false:=by rfl):QS X (.Expr e pos) (A7c te):=by
 refine⟨?_⟩
 intro a s c H D I h
 exact wpAny_Expr_any (thn (he.1 _ s _ H _ I h) λv g ⟨x,f,d,i,b⟩=>⟨c,f,d,b⟩) I.quiet hs
def B6a (te:TE):TS:=λD σ H=>te σ H D.rt
def Bd (he:QE X e te):QS X (.Return (some e) pos) (B6a te):=by
 refine⟨?_⟩
 intro a s c H D I h
 exact wpAny_Return_some (thn (he.1 _ s _ H _ I h) λv i ⟨x,f,d,g,b⟩=>⟨x,c,f,d,g,b⟩)
def B3k (c:TT)(t u:TS):TS:=λD σ H=>c σ H λb H1=>if b=true then t D σ H1 else u D σ H1
def Ed (hc:QT X c f) (ha:QSs X a t) (hb:QSs X b u):QS X (.If c a b pos) (B3k f t u):=by
 obtain⟨ha⟩:=ha;obtain⟨hb⟩:=hb
 refine⟨?_⟩
 intro i s j H D I h
 refine wpAny_If (thn (hc.1 _ s _ H _ I h) λd l ⟨k,g,e⟩=>?_)
 cases d with
 | true=>exact ha _ _ _ _ D g e
 | false=>exact hb _ _ _ _ D g e
def As6:TS:=λ_ _ _=>False
def Bd3:PS X st As6:=λ_ _ _ _ _ _ h=>h.elim
end
abbrev TG:=V->St->Hp->(St->Hp->Prop)->Prop
abbrev TGs:=m6->St->Hp->(St->Hp->Prop)->Prop
def PG (X:Cx)(target:Expr)(t:TG):Prop :=
 ∀
  (pins:y_) (s:u_) (σ:St) (H:Hp) (v:V) (u:Value) (Q:St->Hp->Prop),Inv X pins σ H s->RelV v u->t v σ H Q ->
  wpAny (model X.prog X.w) X.A (assign target X.env u) (λ_ s'=>∃σ' H',Inv X pins σ' H' s'/\Q σ' H') X.xe s
structure QG (X:Cx) (e:Expr) (t:TG):Prop where
 get:PG X e t
def PGs (X:Cx)(ts:v_)(t:TGs):Prop :=
 ∀
  (pins:y_) (s:u_) (σ:St) (H:Hp) (vs:m6) (us:w6) (Q:St->Hp->Prop),Inv X pins σ H s->Vals vs us->t vs σ H Q ->
  wpAny (model X.prog X.w) X.A (assignInOrder ((assignEach ts X.env).map (·.2)) us) (λ_ s'=>∃σ' H',Inv X pins σ' H' s'/\Q σ' H') X.xe s
structure QGs (X:Cx) (e:(v_)) (t:TGs):Prop where
 get:PGs X e t
abbrev B4z:=V->V->V->Hp->(Hp->Prop)->Prop
def B4g (X:Cx)(t:B4z):Prop :=
 ∀
  (pins:y_) (s:u_) (σ:St) (H:Hp) (o i v:V) (ov iv u:Value) (Q:Hp->Prop),Inv X pins σ H s->RelV o ov->RelV i iv->RelV v u->t o i v H Q ->
  wpAny (model X.prog X.w) X.A (setItem ov iv u) (λ_ s'=>∃H',Inv X pins σ H' s'/\Q H') X.xe s
section
variable {X:Cx}{pos:Pos}
def Gz (i:Nat):TG:=λv σ H Q=>Q (σ.set i (some v)) H
def Ar (hN:X.N.Nodup) (hi:X.N[i]?=some x:=by exact rfl) (hx:Loc X.env.scope x:=by first | exact Or.inl rfl | exact Or.inr rfl) (hf:X.fn x=true\/X.env.scope.names.lookup x=some .local:=by first | exact .inl rfl | exact .inr rfl | assumption):QG X (.Name x pos) (Gz i):=by
 refine⟨?_⟩
 intro a s c H v u Q I r h
 exact wpAny_assign_Name (Gp I hN hi hx r (λd b=>⟨_,H,b,h⟩) hf)
noncomputable def Au8:TGs:=λvs σ H Q=>vs=[]/\Q σ H
noncomputable def Ni (t:TG) (u:TGs):TGs:=λvs σ H Q=>∃v r,vs=v::r/\t v σ H λσ' H'=>u r σ' H' Q
def Du:QGs X [] Au8:=by
 refine⟨?_⟩
 intro a s b H d c Q I r h;obtain⟨e,h⟩:=h;exact je ⟨b,H,I,h⟩
def Az (h1:QG X e t) (h2:QGs X es u)
 (hs:(assignEach (e::es) X.env).map (·.2)=assign e X.env::(assignEach es X.env).map (·.2):=by rfl):QGs X (e::es) (Ni t u):=by
 obtain⟨h2⟩:=h2
 refine⟨?_⟩
 intro a s i H j n Q I r h;obtain⟨v,l,f,h⟩:=h;subst f
 cases r with
 | cons r d =>
  rw[hs]
  refine fK (thn (h1.1 _ s _ H _ _ _ I r h) λ_ k ⟨c,m,g,b⟩=>?_)
  exact h2 _ _ _ _ _ _ Q g d b
def Av9 (K:v9)(n:Nat)(t:TGs):TG:=λv σ H Q=>∃a xs,v=.ref a/\SqT K H a xs/\xs.length=n/\t xs σ H Q
def B2p {k:Nat} (hc:X.calm=true) (h:PGs X es t)
 (hn:(assignEach es X.env).length=n:=by rfl) (hst:(assignEach es X.env).findIdx? (·.1)=none:=by rfl):PG X (.Tuple es k pos) (Av9 X.K n t):=by
 intro d s x H v u Q I r c;obtain⟨a,y,j,l,m,c⟩:=c;subst j
 cases r
 obtain⟨g,i,q,z⟩:=I.tuple l
 refine assign_Tuple_tuple (I.ok.hd hc) q (by simp[hn,<- m,i.length]) hst λp w=>?_
 have f:Inv X _ _ H { s with heap:=p }:=I.kept λb o e=>w b o (aM (az e)) e
 exact h _ _ _ H _ _ Q f (by trivial) c
def B6p (to ti:TE)(t:B4z):TG:=λv σ H Q=>to σ H λo H1=>ti σ H1 λi H2=>t o i v H2 λH3=>Q σ H3
def Bc6 (ho:QE X o e) (hi:QE X i d) (hs:B4g X t)
 (ha:∀v,assign (.Subscript o i pos) X.env v=(do
  let a <- holding [v] (eval o X.env)
  let b <- holding [v,a] (eval i X.env)
  standAt pos
  holding [v,a,b] (setItem a b v)
  release [v,a,b] []):=by intro _;rfl):QG X (.Subscript o i pos) (B6p e d t):=by
 refine⟨?_⟩
 intro c s m H v u Q I r h;rw[ha]
 refine aj (bH (thn (ho.1 _ s _ H _ I h) λa z ⟨x,C,j,k,l⟩=>?_))
 refine aj (bH (thn (hi.1 _ _ _ _ _ j l) λb D ⟨y,A,g,p,n⟩=>?_))
 refine aj (cT (aj (bH (thn (hs _ _ _ _ x y v _ _ u _ g k p r n) λ_ B ⟨q,w,f⟩=>?_))))
 exact wpAny_release ⟨m,q,w,f⟩
def Ut (te:TE)(g:TG):TS:=λD σ H=>te σ H λx H1=>g x σ H1 D.nx
def Nu (he:QE X e b) (hg:QG X a g) (hs:swapsWithSole [a] e pos.line X.env=pure false:=by rfl) (hw:swappedStores [a] e X.env=pure none:=by rfl)
 (h1:(assignEach [a] X.env).map (·.2)=[assign a X.env]:=by rfl):QS X (.Assign [a] e pos) (Ut b g):=by
 refine⟨?_⟩
 intro c s k H D I h
 refine wpAny_Assign_stores (thn (he.1 _ s _ H _ I h) λv l ⟨x,m,d,i,f⟩=>?_) hs hw
 rw[h1]
 exact thn (hg.1 _ _ _ _ x v _ d i f) λ_ j q=>q
def A9q (hN:X.N.Nodup) (hi:X.N[i]?=some x) (hx:Loc X.env.scope x) (he:PE X e b) (hs:swapsWith e (some (.Name x a)) pos.line X.env=pure false:=by rfl) (hf:X.fn x=true\/X.env.scope.names.lookup x=some .local:=by first | exact .inl rfl | exact .inr rfl | assumption) :
 PS X (.Assign [.Name x a] e pos) (Ut b (Gz i)):=by
 intro c s l H D I h
 refine wpAny_Assign_Name (thn (he _ s _ H _ I h) λv m ⟨y,j,f,g,k⟩=>?_) hs
 exact Gp f hN hi hx g (λn d=>⟨_,j,d,k⟩) hf
def B5n (i j:Nat)(ta:TA):TS:=λD σ H=>ta σ H λvs H1=>∃v w,vs=[v,w]/\D.nx ((σ.set i (some v)).set j (some w)) H1
def B1l (hc:X.calm=true) (hN:X.N.Nodup) (hi:X.N[i]?=some x) (hj:X.N[j]?=some y) (hij:i≠j)
 (hx:X.env.scope.names.lookup x=some .local) (hy:X.env.scope.names.lookup y=some .local) (ha:QA X [a,b] C)
 (hw:swappedStores [.Tuple [.Name x m,.Name y r] n t] (.Tuple [a,b] k2 d) X.env=pure (some [x,y]))
 (hs:swapsWithSole [.Tuple [.Name x m,.Name y r] n t] (.Tuple [a,b] k2 d) pos.line X.env=pure false:=by rfl) :
 QS X (.Assign [.Tuple [.Name x m,.Name y r] n t] (.Tuple [a,b] k2 d) pos) (B5n i j C):=by
 refine⟨?_⟩
 intro c s B H D I h;rw[exec_Assign_arm]
 refine aj (cT ?_)
 rw[hs]
 refine aj (ak ?_)
 rw[if_neg (by decide)]
 refine aj (Tuple_ (thn (ha.1 _ c s B H _ I h) λL f ⟨vs,E,M,F,l⟩=>?_))
 obtain⟨v,w,G,l⟩:=l;subst G
 obtain⟨k,g,rfl,K,u⟩:∃k g,L=[k,g]/\RelV v k/\RelV w g:=by
  cases F with
  | cons p q =>
   cases q with
   | cons p' O =>
    cases O
    grind
 refine bN ?_ (by show 2<=sizeLine;decide)
 have J:Inv X c B E { f with heap:=f.heap.push { cls:=.type "tuple",data:=.seq [k,g].toArray } }:=M.kept (t':=f.toks) λb o e=>aC _ e
 rw[hw]
 refine aj (ak ?_)
 show wpAny (model X.prog X.w) X.A (do rule "assign.swapped-stores";let items <- unpackItems (.ref f.heap.objs.size) 2 none;assignInOrder [λv=>bindName X.env y v,λv=>bindName X.env x v] items.reverse;pure Flow.next) _ _ _
 refine aj (cJ (aj (unpackItems_tuple (items:=#[k,g]) (I.ok.hd hc) (IsTup.new _ _) λh' z=>?_)))
 refine aj (fK (gG (Gp (J.kept (t':=f.toks) λb o e=>z b o (aM (az e)) e) hN hj (.inl hy) u (λs2 N=>?_) (.inr hy))))
 refine fK (gG (Gp N hN hi (.inl hx) K (λs3 A=>je (ak ?_)) (.inr hx)))
 rw[iz _ _ (aF hij)]at A;exact⟨_,E,A,l⟩
end
structure It where
 go:Nat->Hp->Prop
 yld:Nat->Hp->V->Hp->Prop
 stop:Nat->Hp->Prop
def Jl (X:Cx)(pins:y_)(H:Hp)(b:Addr):Prop :=
 H b=none/\b≠X.env.locals/\b∉X.fs/\(b∈X.ex\/X.s₀.heap.objs.size<=b)/\(∀x c,X.env.cells.lookup x=some c->c≠b)/\∀p∈X.pn++pins,p.1≠b
def Inv.fpOk (I:Inv X pins d H s) (hb:s.heap.objs.size<=b) (hn:H' b=none):Jl X pins H' b:=by
 refine⟨hn,bU (aH I.lt hb),I.nofs hb,.inr (ao I.sz hb),λx c e z=>?_,λp a z=>?_⟩
 ·obtain⟨v,q⟩:=I.cell x c e
  exact absurd (aH q.lt (by simp_all)) (bc _)
 ·exact absurd (aH (az (I.pin p a).1) (by simp_all)) (bc _)
structure Turn (P:u6) (w:World) (K:v9) (tg:Expr) (J:It) (fp:v6) (it:Addr) (tn:Nat->Heap->Prop):Prop where
 mem:it∈fp
 obj:∀i h,tn i h->∀b∈fp,∃o,h.get? b=some o/\∀v,o.data≠.cell v
 keep:∀i h h',tn i h->(∀b∈fp,∀o,h.get? b=some o->h'.get? b=some o)->tn i h'
 item:∀(X:Cx),X.prog=P->X.w=w->X.K=K->X.calm=true->∀(i:Nat) (pins:y_) (s:u_) (σ:St) (H:Hp) (E:z_),Inv X pins σ H s->(∀b∈fp,Jl X pins H b)->tn i s.heap->J.go i H ->
  wpAny (model P w) X.A (pyNext (.ref it)) (λr s1=>∃u,r=some u /\
   wpAny (model P w) X.A (letOwnedTupleGo tg (.ref it) u) (λ_ s2=>∃x H',Inv X pins σ H' s2/\RelV x u/\J.yld i H x H'/\tn (i+1) s2.heap/\∀b∈fp,H' b=none) E s1) E s
 done:∀(X:Cx),X.prog=P->X.w=w->X.K=K->X.calm=true->∀(i:Nat) (pins:y_) (s:u_) (σ:St) (H:Hp) (E:z_),Inv X pins σ H s->(∀b∈fp,Jl X pins H b)->tn i s.heap->J.stop i H ->
  wpAny (model P w) X.A (pyNext (.ref it)) (λr s1=>r=none/\Inv X pins σ H s1) E s
 self:∀(A:t_) (i:Nat) (s:u_) (Q:z_) (E:z_),tn i s.heap->Q (.ref it) s->wpAny (model P w) A (pyIter (.ref it)) Q E s
abbrev TI:=St->Hp->(It->Hp->Prop)->Prop
def PIE (X:Cx)(pins:y_)(σ:St)(tg:Expr)(R:It->Hp->Prop)(itv:Value)(s2:u_):Prop :=
 ∃(it:Addr) (fp:v6) (tn:Nat->Heap->Prop) (J:It) (H':Hp),itv=.ref it/\Inv X pins σ H' s2/\Turn X.prog X.w X.K tg J fp it tn/\tn 0 s2.heap/\(∀b∈fp,Jl X pins H' b)/\R J H'
def PI (X:Cx)(tg iter:Expr)(wi:TI):Prop :=
 ∀
  (pins:y_) (s:u_) (σ:St) (H:Hp) (R:It->Hp->Prop),Inv X pins σ H s->wi σ H R ->
  wpAny (model X.prog X.w) X.A (eval iter X.env) (λv s1=>wpAny (model X.prog X.w) X.A (pyIter v) (PIE X pins σ tg R) X.xe s1) X.xe s
structure QI (X:Cx) (tg iter:Expr) (wi:TI):Prop where
 get:PI X tg iter wi
def Ai9 (ho:s.heap.get? it=some o) (hc:o.cls=.type n) (hd:o.data=.fields vs)
 (hn:["enumerate", "zip", "dict_itemiterator", "dict_reverseitemiterator", "odict_iterator", "itertools.zip_longest", "itertools.pairwise"].contains n=false) (a:Q () s):wpAny M A (letOwnedTupleGo b (.ref it) u) Q E s:=by
 cases b <;> first
  | exact ak a
  | (cases u <;> first
   | exact ak a
   | (
    refine aj (wpAny_load ho ?_)
    rw[hc,hd]
    show wpAny M A (if (["enumerate", "zip", "dict_itemiterator", "dict_reverseitemiterator", "odict_iterator", "itertools.zip_longest", "itertools.pairwise"].contains n&&vs[0]?==some _)=true then _ else _) Q E s
    rw[if_neg (by intro h;rw[hn]at h;cases h)]
    exact ak a))
noncomputable def Itl (K:v9) (a:Addr):It :=
 ⟨λi H=>∃xs x,SqL K H a xs/\xs[i]?=some x,λi H x H'=>H'=H/\∀xs,SqL K H a xs->xs[i]?=some x,λi H=>∃xs,SqL K H a xs/\xs.length<=i⟩
noncomputable def Itt (K:v9) (a:Addr):It :=
 ⟨λi H=>∃xs x,SqT K H a xs/\xs[i]?=some x,λi H x H'=>H'=H/\∀xs,SqT K H a xs->xs[i]?=some x,λi H=>∃xs,SqT K H a xs/\xs.length<=i⟩
noncomputable def Itr (lo:Int) (n:Nat):It:=⟨λi _=>i<n,λi H x H'=>H'=H/\x=.int (lo+i),λi _=>n<=i⟩
def A5m {P:u6}{w:World}{K:v9}{tg:Expr}(a it:Addr):Turn P w K tg (Itl K a) [it] it (λi h=>h.IsListIter it a i) where
 mem:=by simp
 obj:=λi h st b hb=>by
  have e:b=it:=by simpa using hb
  subst e;obtain⟨o,e,c,d⟩:=st
  exact⟨o,e,λv z=>by rw[d]at z;cases z⟩
 keep:=λi h h' st k=>st.at λo e=>k it (by simp) o e
 item:=by
  intro X hP hw hK hc i pins s σ H E I hf st hg;subst hP hw hK;obtain⟨xs,x,hq,hx⟩:=hg;obtain⟨its,rv,p,hz⟩:=I.list hq;obtain⟨u,hu,ru⟩:=rv.get hx
  obtain⟨f0,f1,f2,f3,f4,f5⟩:=hf it (by simp)
  refine wpAny_pyNext_list_item st p.isList (x:=u) (by simpa using hu) λh' st' sb=>?_
  have I1:Inv X pins σ H { s with heap:=h' }:=I.turned (t':=s.toks) (λb o hb e=>(sb.2 b hb).trans e) f0 f1 f3 f4 f5
  obtain⟨o,e,c,d⟩:=id st'
  exact⟨u,rfl,Ai9 (s:={ s with heap:=h' }) e c d (by decide) ⟨x,H,I1,ru,⟨rfl,λys hy=>by rw[I.list_inj hy hq];exact hx⟩,st',λb hb=>(hf b hb).1⟩⟩
 done:=by
  intro X hP hw hK hc i pins s σ H E I hf st hg;subst hP hw hK;obtain⟨xs,hq,hx⟩:=hg;obtain⟨its,rv,p,hz⟩:=I.list hq
  obtain⟨f0,f1,f2,f3,f4,f5⟩:=hf it (by simp)
  have hl:=rv.length
  exact wpAny_pyNext_list_end (I.ok.hd hc) st p.isList (by simp;lia) λh' eb=>⟨rfl,I.turned (t':=s.toks) (λb o hb e=>eb b o hb e) f0 f1 f3 f4 f5⟩
 self:=λ_ _ _ _ _ st h=>wpAny_pyIter_listiter st h
def At3 {P:u6}{w:World}{K:v9}{tg:Expr}(a it:Addr):Turn P w K tg (Itt K a) [it] it (λi h=>h.IsTupleIter it a i) where
 mem:=by simp
 obj:=λi h st b hb=>by
  have e:b=it:=by simpa using hb
  subst e;obtain⟨o,e,c,d⟩:=st
  exact⟨o,e,λv z=>by rw[d]at z;cases z⟩
 keep:=λi h h' st k=>st.at λo e=>k it (by simp) o e
 item:=by
  intro X hP hw hK hc i pins s σ H E I hf st hg;subst hP hw hK;obtain⟨xs,x,hq,hx⟩:=hg;obtain⟨its,rv,p,hz⟩:=I.tuple hq;obtain⟨u,hu,ru⟩:=rv.get hx
  obtain⟨f0,f1,f2,f3,f4,f5⟩:=hf it (by simp)
  refine wpAny_pyNext_tuple_item st (show s.heap.IsTuple a its.toArray from p) (x:=u) (by simpa using hu) λh' st' sb=>?_
  have I1:Inv X pins σ H { s with heap:=h' }:=I.turned (t':=s.toks) (λb o hb e=>(sb.2 b hb).trans e) f0 f1 f3 f4 f5
  obtain⟨o,e,c,d⟩:=id st'
  exact⟨u,rfl,Ai9 (s:={ s with heap:=h' }) e c d (by decide) ⟨x,H,I1,ru,⟨rfl,λys hy=>by rw[I.tuple_inj hy hq];exact hx⟩,st',λb hb=>(hf b hb).1⟩⟩
 done:=by
  intro X hP hw hK hc i pins s σ H E I hf st hg;subst hP hw hK;obtain⟨xs,hq,hx⟩:=hg;obtain⟨its,rv,p,hz⟩:=I.tuple hq
  obtain⟨f0,f1,f2,f3,f4,f5⟩:=hf it (by simp)
  have hl:=rv.length
  exact wpAny_pyNext_tuple_end (I.ok.hd hc) st (show s.heap.IsTuple a its.toArray from p) (by simp;lia) λh' eb=>⟨rfl,I.turned (t':=s.toks) (λb o hb e=>eb b o hb e) f0 f1 f3 f4 f5⟩
 self:=λ_ _ _ _ _ st h=>wpAny_pyIter_tupleiter st h
def Ax7 {P:u6}{w:World}{K:v9}{tg:Expr}(it:Addr)(lo:Int)(n:Nat):Turn P w K tg (Itr lo n) [it] it (λi h=>IsRangeIter h it (lo+(i:Nat)*1) ((n:Int)-(i:Nat)) 1) where
 mem:=by simp
 obj:=λi h st b hb=>by
  have e:b=it:=by simpa using hb
  subst e
  exact⟨_,st,λv z=>by
   have z':Data.fields _=Data.cell v:=z
   cases z'⟩
 keep:=λi h h' st k=>k it (by simp) _ st
 item:=by
  intro X hP hw hK hc i pins s σ H E I hf st hg;subst hP hw hK
  obtain⟨f0,f1,f2,f3,f4,f5⟩:=hf it (by simp)
  have W:=Walks.range (prog:=X.prog) (w:=X.w) (I.ok.hd hc) it lo 1 n
  refine W.item i s _ _ hg st λv h' tk hv st' kk=>?_
  obtain⟨t,rfl⟩:=hv
  have I1:Inv X pins σ H { s with heap:=h',toks:=tk }:=I.turned (λb o hb e=>kk b o (by simpa using hb) e) f0 f1 f3 f4 f5
  refine⟨_,rfl,Ai9 (s:={ s with heap:=h',toks:=tk }) (n := "range_iterator") st' rfl rfl (by decide) ⟨.int (lo+i),H,I1,⟨t,?_⟩,⟨rfl,rfl⟩,st',λb hb=>(hf b hb).1⟩⟩
  rw[Int.mul_one]
 done:=by
  intro X hP hw hK hc i pins s σ H E I hf st hg;subst hP hw hK
  obtain⟨f0,f1,f2,f3,f4,f5⟩:=hf it (by simp)
  exact wpAny_pyNext_range_end (I.ok.hd hc) st (by have:n<=i:=hg;lia) λh' eb=>⟨rfl,I.turned (t':=s.toks) (λb o hb e=>eb b o hb e) f0 f1 f3 f4 f5⟩
 self:=λ_ _ _ _ _ st h=>wpAny_pyIter_rangeiter st h
section
variable {X:Cx}{tg:Expr}
def Bb9 {lo hi:Int} (I:Inv X pins c H s) (h1:-(2 ^ 62)<=lo) (h2:lo<2 ^ 62) (d:-(2 ^ 62)<=hi) (f:hi<2 ^ 62)
 (q:R (Itr lo (hi-lo).toNat) H):wpAny (model X.prog X.w) X.A (pyIter (.ref s.heap.objs.size)) (PIE X pins c tg R) E { s with heap:=s.heap.push { cls:=.type "range",data:=.fields #[.int lo t,.int hi u,.int 1 v] },toks:=tk }:=by
 refine wpAny_pyIter_range (IsRange.new ..) (small_one h1 h2 d f) ?_
 have a:Inv X _ _ H { s with heap:=s.heap.push { cls:=.type "range",data:=.fields #[.int lo t,.int hi u,.int 1 v] },toks:=tk }:=I.kept λb o e=>aC _ e
 refine⟨(s.heap.push _).objs.size,[(s.heap.push _).objs.size],_,_,H,rfl,
  a.kept λb o e=>aC _ e,Ax7 _ _ _,?_,λb i=>?_,q⟩
 ·have h:lo+((0:Nat))*1=lo:=by simp
  have g:(((hi-lo).toNat):Int)-((0:Nat))=Builtin.Range.rangeSize lo hi 1:=by rw[rangeSize_one];grind
  rw[h,g];exact aJ _ rfl
 ·have e:b=(s.heap.push { cls:=.type "range",data:=.fields #[.int lo t,.int hi u,.int 1 v] }).objs.size:=by grind
  subst e;exact a.fpOk (au _) (a.hok.fresh (au _))
def Bx4 (ta:TA):TI:=λσ H R=>ta σ H λvs H1=>∃j:Int,vs=[.int j]/\-(2 ^ 62)<=j/\j<2 ^ 62/\R (Itr 0 j.toNat) H1
def Iv (hg:Gl X "range") (hm:X.mg "range" = none) (ha:QA X [a] d) (hs:starEach [a] X.env=[(false,eval a X.env)]:=by rfl):QI X tg (.Call (.Name "range" p) [a] [] b) (Bx4 d):=by
 refine⟨?_⟩
 intro f s σ H R I h
 refine Call_ (Lj I hg hm boot_range (eN (thn (ha.1 _ _ s _ H _ I h) λus s1 ⟨vs,H1,g,i,c⟩=>?_) hs rfl))
 obtain⟨j,e,c,k,q⟩:=c;subst e
 cases i with
 | cons r l =>
  cases l
  obtain⟨t,rfl⟩:=r
  exact call_range_1 (Bb9 g (by lia) (by lia) c k (by grind))
def Bz5 (wi:TI)(g:TG)(tb:TS):TS:=λD σ H=>wi σ H λJ H1=>∃W:Nat->Nat->St->Hp->Prop,(∃m,W 0 m σ H1)/\∀i m σ H,W i m σ H ->
 (J.stop i H/\D.nx σ H)\/(J.go i H/\∃N:St->Hp->Prop,(∀σ' H',N σ' H'->∃m',m'<m/\W (i+1) m' σ' H')/\∀x H',J.yld i H x H'->g x σ H' λσ2 H2=>tb { D with nx:=N,ct:=N,bk:=D.nx } σ2 H2)
noncomputable def X6 (fp:v6) (h:Heap):y_:=fp.filterMap λb=>(h.get? b).map λo=>(b,o)
def K5 (hb:b∈fp) (e:h.get? b=some o):(b,o)∈X6 fp h:=eO.mpr ⟨b,hb,by grind⟩
def A4g (hp:p∈X6 fp h):p.1∈fp/\h.get? p.1=some p.2:=by
 obtain⟨b,a,e⟩:=eO.mp hp
 cases q:h.get? b with
 | none=>simp_all
 | some o =>
  grind
def Inv.pinned (I:Inv X pins a H s) (hf:∀b∈fp,Jl X pins H b) (ho:∀b∈fp,∃o,s.heap.get? b=some o/\∀v,o.data≠.cell v):Inv X (pins++X6 fp s.heap) a H s :=
 I.pins_of λp d=>(bJ.mp d).elim (λz=>I.pin p (aR _ z)) λz=>by
  obtain⟨c,e⟩:=A4g z;obtain⟨g,h,f,_⟩:=hf _ c
  grind
def Inv.unpinned (I:Inv X (pins++pl) a H s):Inv X pins a H s:=I.pins_of λp b=>I.pin p (aR _ (bf _ b))
def G5 (hp:PassesOwn (model X.prog X.w) X.A X.env X.xe) (hc:X.calm=true) (hi:QI X tg p Z) (hg:QG X tg g) (hb:QSs X body tb)
 (hs:∀x,foldedSetIterable p X.env x=pure x:=by intro _;rfl):QS X (.For tg p body [] P) (Bz5 Z g tb):=by
 obtain⟨hb⟩:=hb
 refine⟨?_⟩
 intro a s σ H D I h
 refine wpAny_For (thn (hi.1 a s σ H _ I h) λv s1 h1=>thn h1 λitv s2 h2=>?_) hs
 obtain⟨it,C,tn,J,H2,e,I2,T,Q,Y,W,⟨m0,w0⟩,E⟩:=h2;subst e
 have k:∀{t:Hp},(∀b∈C,t b=none)->∀b∈C,Jl X a t b:=λhn b hb=>⟨hn b hb,(Y b hb).2⟩
 refine codeAny_forLoop_any (λn U=>∃i σ' t,Inv X a σ' t U/\tn i U.heap/\(∀b∈C,t b=none)/\W i n σ' t) ?_ m0 ⟨0,σ,H2,I2,Q,λb hb=>(Y b hb).1,w0⟩
 rintro n V ⟨i,j,L,I3,B,F,w3⟩
 rcases E i n j L w3 with ⟨A,qn⟩ | ⟨go,N,hN,K⟩
 ·refine gH hp (thn (T.done X rfl rfl rfl hc i a V j L X.xe I3 (k F) B A) λr s4 ⟨M,I4⟩=>?_)
  subst M;exact gD ⟨j,L,I4,qn⟩
 ·refine gH hp (thn (T.item X rfl rfl rfl hc i a V j L X.xe I3 (k F) B go) λr s4 ⟨u,M,h4⟩=>?_)
  subst M
  refine gH hp (thn h4 λ_ s5 ⟨x,S,I5,r5,y5,z,O⟩=>?_)
  refine gH hp (thn (hg.1 _ s5 j S x u _ (I5.pinned (k O) (T.obj _ _ z)) r5 (K x S y5)) λ_ s6 ⟨R,H6,I6,q6⟩=>?_)
  refine gH hp (thn (hb _ s6 R H6 _ I6 q6) λf s7 y=>?_)
  have l:∀{c:St} {w:Hp},Inv X (a++X6 C s5.heap) c w s7->N c w->∃m,m<n/\∃i σ' t,Inv X a σ' t _/\tn i _/\(∀b∈C,t b=none)/\W i m σ' t:=λ{c w} q G=>by
   obtain⟨m',hm,w7⟩:=hN _ _ G
   refine⟨m',hm,i+1,c,w,q.unpinned,T.keep _ _ _ z λb hb o e=>(q.pin _ (aR _ (aR _ (K5 hb e)))).1,λb hb=>?_,w7⟩
   obtain⟨o,e,d⟩:=T.obj _ _ z b hb;exact(q.pin _ (aR _ (aR _ (K5 hb e)))).2.1
  cases f with
  | next=>obtain⟨c,w,q,G⟩:=y;exact l q G
  | cont=>obtain⟨c,w,q,G⟩:=y;exact l q G
  | brk=>obtain⟨c,w,q,y⟩:=y;exact⟨c,w,q.unpinned,y⟩
  | ret v=>obtain⟨x7,c,w,q,r7,y⟩:=y;exact⟨x7,c,w,q.unpinned,r7,y⟩
end
abbrev R2:=V->V->Hp->VK->Prop
def OpR (X:Cx)(f:Value->Value->Sem Value)(r:R2):Prop :=
 ∀
  (pins:y_) (s:u_) (σ:St) (H:Hp) (x y:V) (v u:Value) (Q:VK),Inv X pins σ H s->RelV x v->RelV y u->r x y H Q ->
  wpAny (model X.prog X.w) X.A (f v u) (EP X pins σ Q) X.xe s
def UnR (X:Cx)(f:Value->Sem Value)(r:V->Hp->VK->Prop):Prop :=
 ∀
  (pins:y_) (s:u_) (σ:St) (H:Hp) (x:V) (v:Value) (Q:VK),Inv X pins σ H s->RelV x v->r x H Q ->
  wpAny (model X.prog X.w) X.A (f v) (EP X pins σ Q) X.xe s
def CallR (X:Cx)(f:Value)(r:m6->Hp->VK->Prop):Prop :=
 ∀
  (pins:y_) (s:u_) (σ:St) (H:Hp) (xs:m6) (us:w6) (Q:VK),Inv X pins σ H s->Vals xs us->r xs H Q ->
  wpAny (model X.prog X.w) X.A (call f us) (EP X pins σ Q) X.xe s
def tOp (r:R2)(ta tb:TE):TE:=λσ H Q=>ta σ H λx H1=>tb σ H1 λy H2=>r x y H2 Q
def tUn (r:V->Hp->VK->Prop)(ta:TE):TE:=λσ H Q=>ta σ H λx H1=>r x H1 Q
def rI (C:Int->Int->Prop)(g:Int->Int->V):R2:=λx y H Q=>∃i j,x=.int i/\y=.int j/\C i j/\Q (g i j) H
def rI0 (g:Int->Int->V):R2:=λx y H Q=>∃i j,x=.int i/\y=.int j/\Q (g i j) H
def rU (g:Int->V):V->Hp->VK->Prop:=λx H Q=>∃i,x=.int i/\Q (g i) H
section
variable {X:Cx}{a b c:Expr}{ta tb:TE}{pos:Pos}
def B3l (ha:PE X a ta)(hb:PE X b tb) {R:V->V->Hp->Prop}(I:Inv X pins g H s)
 (h:ta g H λx j=>tb g j λy c=>R x y c) {f:Value->Value->Sem Value}
 (hf:∀v u i x y c,Inv X pins g c i->RelV x v->RelV y u->R x y c->wpAny (model X.prog X.w) X.A (f v u) Q X.xe i) :
 wpAny (model X.prog X.w) X.A (eval a X.env) (λv d=>wpAny (model X.prog X.w) X.A (eval b X.env) (λu e=>wpAny (model X.prog X.w) X.A (f v u) Q X.xe e) X.xe d) X.xe s:=by
 refine thn (ha _ s _ H _ I h) λv o ⟨x,j,k,n,l⟩=>?_
 refine thn (hb _ _ _ _ _ k l) λu i ⟨y,c,p,q,m⟩=>?_
 grind
def Xg (ho:OpR X (binaryOp op) r) (ha:PE X a ta) (hb:PE X b tb):PE X (.BinOp a op b pos) (tOp r ta tb):=by
 intro c s g H Q I h
 exact wpAny_BinOp (B3l ha hb I h λv u i x y j f e d q=>ho _ _ _ _ x y v u Q f e d q)
def B6o (ho:UnR X (unaryOp op) r) (ha:PE X a ta):PE X (.UnaryOp op a pos) (tUn r ta):=by
 intro b s f H Q I h
 exact UnaryOp_ (thn (ha _ s _ H _ I h) λv g ⟨x,i,e,d,c⟩=>ho _ _ _ _ x v Q e d c)
def opI {g:Int->Int->Int}
 (a:∀(i j:Int) (t u:Tok) (s:u_) (Q:z_) (E:z_),C i j->Q (.int (g i j) s.toks) { s with toks:=s.toks+1 }->wpAny (model X.prog X.w) X.A (f (.int i t) (.int j u)) Q E s) :
 OpR X f (rI C λi j=>.int (g i j)):=by
 intro b s σ H x y v u Q I c e h;obtain⟨i,j,rfl,rfl,d,q⟩:=h;obtain⟨t,rfl⟩:=c;obtain⟨t',rfl⟩:=e;exact a i j t _ s _ _ d ⟨.int _,H,I.tok _,⟨_,rfl⟩,q⟩
def Yl {g:Int->Int->Int}
 (a:∀(i j:Int) (t u:Tok) (s:u_) (Q:z_) (E:z_),Q (.int (g i j) s.toks) { s with toks:=s.toks+1 }->wpAny (model X.prog X.w) X.A (f (.int i t) (.int j u)) Q E s) :
 OpR X f (rI0 λi j=>.int (g i j)):=by
 intro b s σ H x y v u Q I c d h;obtain⟨i,j,rfl,rfl,q⟩:=h;obtain⟨t,rfl⟩:=c;obtain⟨t',rfl⟩:=d;exact a i j t _ s _ _ ⟨.int _,H,I.tok _,⟨_,rfl⟩,q⟩
def B1e {g:Int->Int->Bool}
 (a:∀(i j:Int) (t u:Tok) (s:u_) (Q:z_) (E:z_),Q (.bool (g i j)) s->wpAny (model X.prog X.w) X.A (f (.int i t) (.int j u)) Q E s) :
 OpR X f (rI0 λi j=>.bl (g i j)):=by
 intro b s σ H x y v u Q I c d h;obtain⟨i,j,rfl,rfl,q⟩:=h;obtain⟨t,rfl⟩:=c;obtain⟨t',rfl⟩:=d;exact a i j t _ s _ _ ⟨.bl _,H,I,rfl,q⟩
def Bn5 (i j:Int):Prop:=0<j/\j<1073741824
def Bl8 (i j:Int):Prop:=0<=j/\j<=1000000/\i.natAbs<2 ^ 64
def CMul (i j:Int):Prop:=(-(2 ^ 64)<i/\i<2 ^ 64)\/(-(2 ^ 64)<j/\j<2 ^ 64)
def CMul.ok (h:CMul i j):IntMulOk i j:=by
 rcases h with ⟨b,a⟩ | ⟨b,a⟩
 ·exact .of_left (intBits_le_64 b a)
 ·exact .of_right (intBits_le_64 b a)
def B2y:OpR X (binaryOp .Add) (rI0 λi j=>.int (i+j)):=Yl λ_ _ _ _ _ _ _ q=>add_int q
def B3a:OpR X (binaryOp .Sub) (rI0 λi j=>.int (i-j)):=Yl λ_ _ _ _ _ _ _ q=>sub_int q
def B0a:OpR X (binaryOp .Mult) (rI CMul λi j=>.int (i*j)):=opI λ_ _ _ _ _ _ _ a q=>mul_int q a.ok
def Bi2:OpR X (binaryOp .FloorDiv) (rI Bn5 λi j=>.int (i / j)):=opI λi j _ _ _ _ _ a q=>by
 have c:(0:Int)<j:=a.1;have b:j<1073741824:=a.2
 exact floordiv_int (by lia) (by rw[Int.fdiv_eq_ediv_of_nonneg i (by lia)];exact q) (.inl (PyProof.noPylong_small (by lia)))
def B2v:OpR X (binaryOp .Mod) (rI (λ_ j=>0<j) λi j=>.int (i % j)):=opI λi j _ _ _ _ _ a q=>by
 have b:(0:Int)<j:=a
 exact mod_int' (by lia) (by rw[Int.fmod_eq_emod_of_nonneg i (by lia)];exact q)
def B1y:OpR X (binaryOp .Pow) (rI Bl8 λi j=>.int (i ^ j.toNat)):=opI λ_ _ _ _ _ _ _ a q=>pow_int_small a.1 a.2.1 a.2.2 q
def unI {g:Int->Int}
 (a:∀(i:Int) (t:Tok) (s:u_) (Q:z_) (E:z_),Q (.int (g i) s.toks) { s with toks:=s.toks+1 }->wpAny (model X.prog X.w) X.A (f (.int i t)) Q E s) :
 UnR X f (rU λi=>.int (g i)):=by
 intro b s σ H x v Q I c h;obtain⟨i,rfl,q⟩:=h;obtain⟨t,rfl⟩:=c;exact a i t s _ _ ⟨.int _,H,I.tok _,⟨_,rfl⟩,q⟩
def B3o:UnR X (unaryOp .USub) (rU λi=>.int (-i)):=unI λ_ _ _ _ _ q=>neg_int q
end
noncomputable def B5u:V->V->Bool
 | .non,.non=>true | .non,.int _=>true | .int _,.non=>true | .non,.bl _=>true | .bl _,.non=>true | .non,.str _=>true | .str _,.non=>true
 | .int _,.int _=>true | .bl _,.bl _=>true | .str _,.str _=>true | .byt _,.byt _=>true
 | .int _,.str _=>true | .str _,.int _=>true | .bl _,.str _=>true | .str _,.bl _=>true
 | _,_=>false
def rEq:R2:=λx y H Q=>B5u x y=true/\Q (.bl (decide (x=y))) H
def rNe:R2:=λx y H Q=>B5u x y=true/\Q (.bl (!decide (x=y))) H
def Az9 : decide (V.int i=V.int j)=(i==j):=by
 grind
def A9z : decide (V.bl i=V.bl j)=(i==j):=by
 grind
def A2r : decide (V.str i=V.str j)=(i==j):=by
 grind
def Az4 : decide (V.byt i=V.byt j)=(i.toList==j.toList):=by
 rw[Bool.eq_iff_iff]
 simp_all
section
variable {X:Cx}{a b c:Expr}{ta tb:TE}{pos:Pos}
def Bw {b:St} {k a:Bool}(I:Inv X pins b H s) (q:Q (.bl k) H) (e:k=a):EP X pins b Q (.bool a) s:=by
 subst e;exact⟨.bl k,H,I,rfl,q⟩
def B6w:OpR X (compareOp .Eq) rEq:=by
 intro e s σ H x y v u Q I d a h;obtain⟨c,q⟩:=h
 cases x with
 | non =>
  cases d
  cases y with
  | non=>cases a;exact PySem.EqNone.eq_none_none (Bw I q (by simp))
  | bl j=>cases a;exact PySem.EqNone.eq_none_bool (Bw I q (by simp))
  | int j=>obtain⟨b,rfl⟩:=a;exact PySem.EqNone.eq_none_int (Bw I q (by simp))
  | str j=>obtain⟨b,rfl⟩:=a;exact PySem.EqNone.eq_none_str (Bw I q (by simp))
  | _=>exact absurd (show false=true from c) aW
 | bl i =>
  cases d
  cases y with
  | non=>cases a;exact PySem.EqNone.eq_bool_none (Bw I q (by simp))
  | bl j=>cases a;exact eq_bool (Bw I q A9z)
  | str j=>obtain⟨b,rfl⟩:=a;exact PySem.EqMixed.eq_bool_str (Bw I q (by simp))
  | _=>exact absurd (show false=true from c) aW
 | int i =>
  obtain⟨t,rfl⟩:=d
  cases y with
  | non=>cases a;exact PySem.EqNone.eq_int_none (Bw I q (by simp))
  | int j=>obtain⟨b,rfl⟩:=a;exact eq_int (Bw I q Az9)
  | str j=>obtain⟨b,rfl⟩:=a;exact PySem.EqMixed.eq_int_str (Bw I q (by simp))
  | _=>exact absurd (show false=true from c) aW
 | str i =>
  obtain⟨t,rfl⟩:=d
  cases y with
  | non=>cases a;exact PySem.EqNone.eq_str_none (Bw I q (by simp))
  | bl j=>cases a;exact PySem.EqMixed.eq_str_bool (Bw I q (by simp))
  | int j=>obtain⟨b,rfl⟩:=a;exact PySem.EqMixed.eq_str_int (Bw I q (by simp))
  | str j=>obtain⟨b,rfl⟩:=a;exact eq_str (Bw I q A2r)
  | _=>exact absurd (show false=true from c) aW
 | byt i =>
  obtain⟨t,rfl⟩:=d
  cases y with
  | byt j=>obtain⟨b,rfl⟩:=a;exact PySem.W.eq_bytes (Bw I q Az4)
  | _=>exact absurd (c) aW
 | _=>cases y <;> exact absurd (show false=true from c) aW
def B5k:OpR X (compareOp .NotEq) rNe:=by
 intro e s σ H x y v u Q I d a h;obtain⟨c,q⟩:=h
 cases x with
 | non =>
  cases d
  cases y with
  | non=>cases a;exact PySem.EqNone.ne_none_none (Bw I q (by simp))
  | bl j=>cases a;exact PySem.EqNone.ne_none_bool (Bw I q (by simp))
  | int j=>obtain⟨b,rfl⟩:=a;exact PySem.EqNone.ne_none_int (Bw I q (by simp))
  | str j=>obtain⟨b,rfl⟩:=a;exact PySem.EqNone.ne_none_str (Bw I q (by simp))
  | _=>exact absurd (show false=true from c) aW
 | bl i =>
  cases d
  cases y with
  | non=>cases a;exact PySem.EqNone.ne_bool_none (Bw I q (by simp))
  | bl j=>cases a;exact ne_bool (Bw I q (bY not A9z))
  | str j=>obtain⟨b,rfl⟩:=a;exact PySem.EqMixed.ne_bool_str (Bw I q (by simp))
  | _=>exact absurd (show false=true from c) aW
 | int i =>
  obtain⟨t,rfl⟩:=d
  cases y with
  | non=>cases a;exact PySem.EqNone.ne_int_none (Bw I q (by simp))
  | int j=>obtain⟨b,rfl⟩:=a;exact ne_int (Bw I q (bY not Az9))
  | str j=>obtain⟨b,rfl⟩:=a;exact PySem.EqMixed.ne_int_str (Bw I q (by simp))
  | _=>exact absurd (show false=true from c) aW
 | str i =>
  obtain⟨t,rfl⟩:=d
  cases y with
  | non=>cases a;exact PySem.EqNone.ne_str_none (Bw I q (by simp))
  | bl j=>cases a;exact PySem.EqMixed.ne_str_bool (Bw I q (by simp))
  | int j=>obtain⟨b,rfl⟩:=a;exact PySem.EqMixed.ne_str_int (Bw I q (by simp))
  | str j=>obtain⟨b,rfl⟩:=a;exact ne_str (Bw I q (bY not A2r))
  | _=>exact absurd (show false=true from c) aW
 | byt i =>
  obtain⟨t,rfl⟩:=d
  cases y with
  | byt j=>obtain⟨b,rfl⟩:=a;exact PySem.W.ne_bytes (Bw I q (bY not Az4))
  | _=>exact absurd (c) aW
 | _=>cases y <;> exact absurd (show false=true from c) aW
def B6m:OpR X (compareOp .Lt) (rI0 λi j=>.bl (decide (i<j))):=B1e λ_ _ _ _ _ _ _ q=>lt_int q
def B4s:OpR X (compareOp .Gt) (rI0 λi j=>.bl (decide (j<i))):=B1e λ_ _ _ _ _ _ _ q=>gt_int q
def B6v:OpR X (compareOp .GtE) (rI0 λi j=>.bl (decide (j<=i))):=B1e λ_ _ _ _ _ _ _ q=>ge_int q
def B0p:OpR X (compareOp .Is) (λx y H Q=>y=.non/\Q (.bl (decide (x=.non))) H):=by
 intro a s σ H x y v u Q I c b h;obtain⟨rfl,q⟩:=h
 cases b
 refine is_none_gen (Bw I q ?_)
 cases x <;> first
  | lia
  | (obtain⟨t,rfl⟩:=c;rfl)
def Bo8:OpR X (compareOp .IsNot) (λx y H Q=>y=.non/\Q (.bl (!decide (x=.non))) H):=by
 intro a s σ H x y v u Q I c b h;obtain⟨rfl,q⟩:=h
 cases b
 refine isnot_none_gen (Bw I q ?_)
 cases x <;> first
  | rfl
  | (obtain⟨t,rfl⟩:=c;rfl)
def OpR.or {r b:R2}(h:OpR X f r) (h':OpR X f b):OpR X f (λx y H Q=>r x y H Q\/b x y H Q):=by
 intro c s e H x y v u Q I d a q
 rcases q with q | q
 ·exact h _ s _ H x y v u Q I d a q
 ·exact h' _ s _ H x y v u Q I d a q
def M3 (b:Expr) (h:op≠.In:=by decide) (h2:op≠.NotIn:=by decide):behindInMarks op b=false:=by
 have c:(op==CmpOp.In)=false:=by grind
 have a:(op==CmpOp.NotIn)=false:=by grind
 cases b <;> simp[behindInMarks,c,a]
def Ac2 (ho:OpR X (compareOp op) r) (ha:PE X a ta) (hb:PE X b tb) (hm:behindInMarks op b=false):PE X (.Compare a [op] [b] pos) (tOp r ta tb):=by
 intro c s g H Q I h
 exact wpAny_Compare1 (B3l ha hb I h λv u i x y j f e d q=>ho _ _ _ _ x y v u Q f e d q) hm
def O6 (t:TE):TT:=λσ H Q=>t σ H λx H'=>∃k,x=.bl k/\Q k H'
def Jq (ho:OpR X (compareOp op) r) (ha:PE X a ta) (hb:PE X b tb) (hm:behindInMarks op b=false):PT X (.Compare a [op] [b] pos) (O6 (tOp r ta tb)):=by
 intro d s t H Q I h
 refine wpAny_isTrue_Compare1 (thn (ha _ s _ H _ I h) λv C ⟨x,D,j,l,m⟩=>thn (hb _ _ _ _ _ j m) λu w ⟨y,B,i,g,o⟩ =>
  thn (ho _ _ _ _ x y v u _ i l g o) λc A ⟨z,n,p,q,k,e,f⟩=>?_) hm
 subst e
 cases q
 exact gC ⟨n,p,f⟩
def Xe:(sizeLine:Nat)<2 ^ 63:=by decide
def At6:OpR X (binaryOp .Add) (λx y H Q=>∃i j,x=.str i/\y=.str j/\i.length+j.length<=sizeLine/\Q (.str (i++j)) H):=by
 intro a s σ H x y v u Q I c b h;obtain⟨i,j,rfl,rfl,e,q⟩:=h;obtain⟨t,rfl⟩:=c;obtain⟨d,rfl⟩:=b
 exact add_str (λd tk=>⟨.str _,H,I.tok _,⟨_,rfl⟩,q⟩) e
def vals1 (r:Vals [x] us):∃u,us=[u]/\RelV x u:=by
 cases r with
 | cons b a=>cases a;grind
def vals2 (r:Vals [x,y] us):∃u w',us=[u,w']/\RelV x u/\RelV y w':=by
 cases r with
 | cons c b =>
  cases b with
  | cons d a=>cases a;grind
def Bd7:CallR X (.builtin "abs") (λxs H Q=>∃i,xs=[.int i]/\Q (.int (if i<0 then -i else i)) H):=by
 intro a s σ H xs us Q I r h;obtain⟨i,rfl,q⟩:=h;obtain⟨u,rfl,t,rfl⟩:=vals1 r
 exact call_abs_int λu tk=>⟨.int _,H,I.tok _,⟨_,rfl⟩,q⟩
def A6d (hc:X.calm=true):CallR X (.builtin "min") (λxs H Q=>∃i j,xs=[.int i,.int j]/\Q (.int (if j<i then j else i)) H):=by
 intro a s σ H xs us Q I r h;obtain⟨i,j,rfl,q⟩:=h;obtain⟨u,w',rfl,⟨t,rfl⟩,⟨t',rfl⟩⟩:=vals2 r
 refine min_two_ints (I.ok.hd hc) λh' tk k=>⟨_,H,I.kept k,?_,q⟩
 by_cases hj:j<i
 ·rw[if_pos hj,if_pos hj];exact⟨_,rfl⟩
 ·rw[if_neg hj,if_neg hj];exact⟨_,rfl⟩
def A4u:CallR X (.type "int") (λxs H Q=>(∃i,xs=[.int i]/\Q (.int i) H)\/∃k,xs=[.bl k]/\Q (.int (if k then 1 else 0)) H):=by
 intro a s σ H xs us Q I r h
 rcases h with ⟨i,rfl,q⟩ | ⟨k,rfl,q⟩
 ·obtain⟨u,rfl,t,rfl⟩:=vals1 r
  exact call_int_int ⟨.int i,H,I,⟨_,rfl⟩,q⟩
 ·obtain⟨u,rfl,b⟩:=vals1 r
  cases b
  exact call_int_bool ⟨.int _,H,I.tok _,⟨_,rfl⟩,q⟩
def Ab3:CallR X (.type "str") (λxs H Q=>∃i,xs=[.int i]/\i.natAbs.log2<1920/\Q (.str (toString i)) H):=by
 intro a s σ H xs us Q I r h;obtain⟨i,rfl,b,q⟩:=h;obtain⟨u,rfl,t,rfl⟩:=vals1 r;exact PySem.P.str_of_int b ⟨.str _,H,I.tok _,⟨_,rfl⟩,q⟩
def B6y (K:v9)(x:V)(H:Hp)(n:Nat):Prop :=
 match x with
 | .str y=>y.length<=sizeLine/\n=y.length
 | .byt y=>y.size<=sizeLine/\n=y.size
 | .ref p=>(∃xs,SqL K H p xs/\n=xs.length)\/∃xs,SqT K H p xs/\n=xs.length
 | _=>False
def Ao9:CallR X (.builtin "len") (λxs H Q=>∃x n,xs=[x]/\B6y X.K x H n/\Q (.int n) H):=by
 intro j s σ H xs us Q I r h;obtain⟨x,n,rfl,e,q⟩:=h;obtain⟨u,rfl,d⟩:=vals1 r;have hl:=Xe;have hs:sizeLine=16777216:=sizeLine_eq
 cases x with
 | str y =>
  obtain⟨t,rfl⟩:=d;obtain⟨l,b⟩:y.length<=sizeLine/\n=y.length:=e;subst b
  exact len_str (by lia) ⟨.int _,H,I.tok _,⟨_,rfl⟩,q⟩
 | byt y =>
  obtain⟨t,rfl⟩:=d;obtain⟨l,b⟩:y.size<=sizeLine/\n=y.size:=e;subst b
  exact PySem.W.len_bytes (by lia) ⟨.int _,H,I.tok _,⟨_,rfl⟩,q⟩
 | ref p =>
  cases d
  have b := e
  rcases b with ⟨xs,c,b⟩ | ⟨xs,c,b⟩
  ·subst b
   obtain⟨g,f,i,k⟩:=I.list c;have a:=f.length
   exact Calls.call_len_list i.isList (by grind) ⟨.int _,H,I.tok _,⟨_,by simp only[dg];rw[a]⟩,q⟩
  ·subst b
   obtain⟨g,f,i,k⟩:=I.tuple c;have a:=f.length
   exact len_tuple i (by grind) ⟨.int _,H,I.tok _,⟨_,by simp only[dg];rw[a]⟩,q⟩
 | _=>trivial
end
structure ObjM (h:Heap) (x dx C:Addr) (mA:x_):Prop where
 obj:h.get? x=some (PySem.W.instObj C dx)
 ns:h.Ns1 dx mA
 ne:dx≠x
def A4t {h:Heap} (n:h.Ns1 d f):∃od,h.get? d=some od/\∀b,PySem.W.lookIn b od=some (f b):=by
 obtain⟨o,g,p,i,j,k,_,l⟩:=n
 refine⟨o,i,λb=>?_⟩
 have e:=l b;unfold nsFind findBy at e;unfold PySem.W.lookIn;rw[j]
 dsimp only
 split
 ·grind
 ·have a:g.toList.any (·.refKey)=false:=by
   rw[List.any_eq_false];intro y m;obtain⟨z,t,c⟩:=k y (Array.mem_toList_iff.mp m)
   simp[DictEntry.refKey,c]
  grind
def ObjM.look (I:ObjM h x b C a):∃od,PySem.W.InstAt h x (PySem.W.instObj C b) C (some od)/\∀name,PySem.W.lookIn name od=some (a name) :=
 let ⟨od,ho,hl⟩:=A4t I.ns
 ⟨od,⟨I.obj,rfl,rfl,ho⟩,hl⟩
section
variable {prog:u6}{w:World}{A:t_}{E:z_}{s:u_}{K:v9}{x dx C f:Addr}{mA:x_}{name:Str}{v:Value}
def U3 (X:K.In s.heap) (I:ObjM s.heap x dx C mA)
 (hs:PySem.W.findIn K (.ref C) "__setattr__" = some (some (.builtin "object.__setattr__"))) (hp:PySem.W.plainOver K C=true) (ht:PySem.W.takerIn K C name=some none) (k:PySem.W.hasDictIn K C=true)
 (hw:PySem.Within mA ns) (hsz:ns.length<=sizeLine)
 (h:∀d,ObjM d x dx C (λy=>if y=name then some v else mA y)->Heap.SameBut dx s.heap d->Q () { s with heap:=d,toks:=s.toks+2 }) :
 wpAny (model prog w) A (setAttr (.ref x) name v) Q E s:=by
 obtain⟨r,J,p⟩:=I.look
 refine PySem.W.set_plain X J hs (PySem.W.osa_open X J hp ht λb=>?_)
 obtain⟨o,l,g⟩:=PySem.W.any_some k;have n := I.obj
 refine aj (ak (aj (aj (wpAny_loadPart n (aj (PySem.W.Looks.here (PySem.W.looks_clsIn X l) ?_))))))
 rw[g]
 refine ak (aj (ak (aj ?_)))
 refine wpAny_nsSet1 I.ns λd c a=>?_
 obtain⟨q,j,m,f,i,e⟩:=c.count (PySem.Within.cons _ v hw)
 refine aj (wpAny_lookBehind f (by rw[i];exact pastItsLine_dict (ao e (by simp_all))) ?_)
 exact ak (h _ ⟨(a.2 _ (aF I.ne)).trans I.obj,c,I.ne⟩ a)
end
section
variable {s:u_}{f:Str}{A:t_}{E:z_}
def Bn4 {prog:u6}{w:World}{env:Env}{e:Expr}{f:Str}{pos:Pos}{s:u_}{Q:z_}(hb:attributeBase e f env (eval e env)=eval e env)
 (h:wpAny (model prog w) A (eval e env) (λo s₁=>wpAny (model prog w) A (getAttr o f true) Q E s₁) E s):wpAny (model prog w) A (eval (.Attribute e f pos) env) Q E s :=
 Attribute_any_ h (by rw[arm_eval_Attribute,hb])
end
structure Room (k:Nat) (A:t_):Prop where
 hd:A.handled=none
 dp:A.depth+3*k+5<recursionLimit
 un:A.units+16*k+200<cLine
 gd:A.guards=some []
def Room.mono (r:Room k A) (h:j<=k):Room j A:=⟨r.hd,by have:=r.dp;lia,by have:=r.un;lia,r.gd⟩
def Room.deeper (r:Room (k+1) A) (env:Env):Room k (A.deeper env) :=
 ⟨r.hd,by have:=r.dp;show A.depth+1+3*k+5<_;lia,by have:=r.un;show A.units+3+16*k+200<_;lia,r.gd⟩
def Aw7 {A:t_}{C:Addr}{us:w6}{kw:List (Str×Value)}:(A.under (.builtin "type.__call__" ⟨.ref C::us,kw⟩)).depth=A.depth+1:=by
 first | rfl | simp[Around.under,Code.weight,Code.isCreation,Code.isGuard,Code.isCaller,Code.frames,Code.isFrame,guardIds]
def Au0 {A:t_}{C:Addr}{us:w6}{kw:List (Str×Value)}:(A.under (.builtin "type.__call__" ⟨.ref C::us,kw⟩)).units=A.units+1:=by
 first | rfl | simp[Around.under,Code.cUnits,Code.frames,Code.isFrame]
def Room.make {k:Nat}{A:t_}(r:Room (k+1) A)(C:Addr)(us:w6)(kw:List (Str×Value)):Room k (A.under (.builtin "type.__call__" ⟨.ref C::us,kw⟩)) :=
 ⟨r.hd,by have:=r.dp;rw[Aw7];lia,by have:=r.un;rw[Au0];lia,by first | exact r.gd | (show (A.under _).guards=some [];rw[<- r.gd];rfl) | simp[Around.under,Code.guards,Code.isGuard,guardIds,r.gd]⟩
def Room.depth (r:Room k A):A.depth<recursionLimit:=by have:=r.dp;lia
def Room.units (r:Room k A):A.units+64<cLine:=by have:=r.un;lia
def Fb:TA:=λ_ H Q=>Q [] H
def Bv (ta:TE)(tr:TA):TA:=λσ H Q=>ta σ H λx H1=>tr σ H1 λxs H2=>Q (x::xs) H2
section
variable {X:Cx}{e:Expr}{es:v_}{te:TE}{t:TA}{pos:Pos}
def Ab2:PA X [] Fb:=λ_ _ _ _ H Q I h=>eQ ⟨[],H,I,.nil,h⟩
def A1g (ha:PE X e te)(hr:PA X es t)(hs:starEach (e::es) X.env=(false,eval e X.env)::starEach es X.env:=by rfl):PA X (e::es) (Bv te t):=by
 intro d a s m H Q I h;rw[hs]
 refine dh (thn (ha _ s _ H _ I h) λu o ⟨x,n,f,g,i⟩=>?_)
 exact thn (hr _ _ _ _ _ _ f i) λp q ⟨c,k,j,l,b⟩=>⟨x::c,k,j,.cons g l,b⟩
def A5o (t:TA):TE:=λσ H Q=>t σ H λxs H1=>xs.length<=sizeLine/\∀p,H1 p=none->Q (.ref p) (upd H1 p (.tup xs))
def A7d (t:TA):TE:=λσ H Q=>t σ H λxs H1=>xs.length<=sizeLine/\∀p,H1 p=none->Q (.ref p) (upd H1 p (.lst xs))
def Ca (h:QA X es t):QE X (.Tuple es d pos) (A5o t):=by
 refine⟨?_⟩
 intro a s i H Q I g
 refine wpAny_Tuple_spliced (thn (h.1 _ _ s _ H _ I g) λf j ⟨k,l,c,r,z,q⟩=>⟨by rw[<- r.length];grind,?_⟩)
 refine⟨.ref _,upd _ _ _,c.laid (λb u e=>aC _ e) (au _) ?_,rfl,q _ (c.hok.fresh (au _))⟩
 exact⟨z,f,r,⟨_,aJ _ rfl,rfl,⟨_,rfl⟩,rfl⟩⟩
def De (h:QA X es t):QE X (.List es pos) (A7d t):=by
 refine⟨?_⟩
 intro c s g H Q I d
 refine wpAny_List_spliced (thn (h.1 _ _ s _ H _ I d) λf i ⟨j,k,a,r,z,q⟩=>⟨by rw[<- r.length];grind,?_⟩)
 refine⟨.ref _,upd _ _ _,a.laid (λb u e=>aC _ e) (au _) ?_,rfl,q _ (a.hok.fresh (au _))⟩
 exact⟨z,f,0,r,aJ _ rfl⟩
end
abbrev Sp:=m6->Hp->VK->XK->Prop
abbrev CXT:=List Env->Hp->u_->XK->Value->u_->Prop
structure Env0 (P:u6) (w:World) (K:v9) (mg:x_) (base:Heap) (A:t_) (outer:List Env) (s:u_) (H:Hp):Prop where
 frames:A.frames=some outer
 mod:Mod K mg base
 bs:∀b o,base.get? b=some o->s.heap.get? b=some o/\H b=none
 bsz:base.objs.size<=s.heap.objs.size
 funs:s.heap.FunFrames base outer
 frf:∀b∈frs outer,H b=none
 tab:∀p∈Do K,H p.1=some (.tbl p.2)
 hok:HOk P w H s.heap
 bare:AllBare s.gens
def CE (outer:List Env)(P:u6)(w:World)(H:Hp)(s:u_)(Q:VK)(u:Value)(s':u_):Prop :=
 ∃v H',s'.os=s.os/\AllBare s'.gens/\Un (frs outer) [] H H' s.heap s'.heap/\HOk P w H' s'.heap/\RelV v u/\Q v H'
def CR (CX:CXT)(outer:List Env)(P:u6)(w:World)(H:Hp)(s:u_)(Q:VK)(E:XK)(r:Result)(s':u_):Prop :=
 match r with
 | .ok (.ret u)=>CE outer P w H s Q u s'
 | .ok _=>False
 | .error e=>CX outer H s E e s'
structure FnOk (P:u6) (w:World) (K:v9) (mg:x_) (base:Heap) (CX:CXT) (k:Nat) (f:Addr) (fd:u5) (ps:v4) (sp:Sp):Prop where
 len:∀vs H Q E,sp vs H Q E->vs.length=ps.length
 run:∀(A:t_) (outer:List Env) (s:u_) (H:Hp) (args:Args) (us:w6) (vs:m6) (Q:VK) (E:XK),Room k A->Env0 P w K mg base A outer s H->BindsTo s fd args (ps.zip us)->Vals vs us->sp vs H Q E ->
  codeAny (model P w) A (.call (.ref f) args) (CR CX outer P w H s Q E) s
def FnOk.imp {K:v9} (F:FnOk P w K mg base CX k f d ps sp)
 (h:∀b H Q E,a b H Q E->sp b H Q E):FnOk P w K mg base CX k f d ps a :=
 ⟨λb H Q E q=>F.len _ H Q E (h _ _ _ _ q),λA c s H e n b Q E j l i m g=>F.run A _ s H _ _ _ Q E j l i m (h _ _ _ _ g)⟩
def Env0.make {P:u6}{w:World}{K:v9}{mg:x_}{base:Heap}{A:t_}{outer:List Env}{s:u_}{H:Hp}(e:Env0 P w K mg base A outer s H)(C:Addr)(us:w6)(kw:List (Str×Value)) :
 Env0 P w K mg base (A.under (.builtin "type.__call__" ⟨.ref C::us,kw⟩)) outer s H:=⟨by first | exact e.frames | (simpa[Around.under,Code.envs,Code.isFrame,pushEnvs] using e.frames),e.mod,e.bs,e.bsz,e.funs,e.frf,e.tab,e.hok,e.bare⟩
section
variable {X:Cx}{pins:y_}{σ:St}{H:Hp}{s s':u_}
def Inv.env0 (I:Inv X pins σ H s):Env0 X.prog X.w X.K X.mg X.base X.A X.stack s H :=
 ⟨I.ok.frames,I.ok.mod,I.bs,ao I.ok.bsz I.sz,I.stack,I.stkFree,λp a=>I.base.tbls _ _ (I.ok.tab p a),I.hok,I.bare⟩
def Inv.after (I:Inv X pins σ H s) (h:CE X.stack X.prog X.w H s Q u s'):EP X pins σ Q u s':=by
 obtain⟨v,j,i,a,f,c,r,q⟩:=h;obtain⟨hh,g,d,t,e⟩:=s';obtain rfl:e=s.os:=i
 exact⟨v,j,I.call f c a λb z=>absurd z (by simp),r,q⟩
end
def Pa (sp:Sp)(dvs:m6)(E:XK)(t:TA):TE:=λσ H Q=>t σ H λvs H1=>sp (vs++dvs) H1 Q E
def Binds (K:v9)(fd:u5)(ps:v4)(ds:w6):Prop :=
 ∀(s:u_) (us:w6),K.In s.heap->(us++ds).length=ps.length->BindsTo s fd ⟨us,[]⟩ (ps.zip (us++ds))
def Binds.all {K:v9} (h:∀a:w6,a.length=ps.length->bindArgs c ⟨a,[]⟩=pure (ps.zip a)):Binds K c ps []:=λs a _ b=>by
 rw[cY]at b ⊢;exact .of_eq (h _ b)
def Ms (CX:CXT)(X:Cx)(E:XK):Prop:=∀(pins:y_) (σ:St) (H:Hp) (s:u_) (e:Value) (s':u_),Inv X pins σ H s->CX X.stack H s E e s'->X.xe e s'
section
variable {X:Cx}{CX:CXT}{k:Nat}{f:Addr}{fd:u5}{ps:v4}{sp:Sp}{dvs:m6}{ds:w6}{E:XK}{x:Str}{p pos:Pos}{e:Expr}{es:v_}{t:TA}
def Bz0 (F:FnOk X.prog X.w X.K X.mg X.base CX k f fd ps sp) (hr:Room k X.A) (hb:Binds X.K fd ps ds) (hd:Vals dvs ds) (hx:Ms CX X E)
 (I:Inv X pins b H s) (r:Vals vs us) (h:sp (vs++dvs) H Q E):wpAny (model X.prog X.w) X.A (call (.ref f) us) (EP X pins b Q) X.xe s:=by
 have a := r.append hd
 have g:(us++ds).length=ps.length:=by rw[<- a.length];exact F.len _ _ _ _ h
 refine fL (fM (F.run _ _ s H _ _ _ Q E hr I.env0 (hb s _ I.kIn g) a h) λr i c=>?_)
 cases r with
 | error e=>exact hx _ _ H s e _ I c
 | ok d =>
  cases d with
  | ret u=>exact I.after c
  | next=>assumption
  | brk=>assumption
  | cont=>trivial
def Bj6 (F:FnOk X.prog X.w X.K X.mg X.base CX k f fd ps sp)(hr:Room k X.A)(hg:Gl X x)(hm:X.mg x=some (.ref f))(hk:PySem.W.keepIn X.K (.ref f)=true)(hb:Binds X.K fd ps ds)(hd:Vals dvs ds)(hx:Ms CX X E)
 (ha:PA X (e::es) t) (hdb:(x==("__debug__" : Str))=false:=by decide) (he:starEach (e::es) X.env=(false,eval e X.env)::starEach es X.env:=by rfl) (hpl:(backTo pos (starEach es X.env)).any (·.1)=false:=by rfl) :
 PE X (.Call (.Name x p) (e::es) [] pos) (Pa sp dvs E t):=by
 intro b s c H Q I h
 refine gJ (Lb I hg hm ?_ hdb)
 refine PySem.W.callWith_K I.ok.mod.kin hk (thn (ha _ _ s _ H _ I h) λd g ⟨i,j,a,r,q⟩=>⟨a.kIn,?_⟩) he hpl
 exact Bz0 F hr hb hd hx a r q
end
structure Ay (N P:v4) (sc:Scope):Prop where
 kind:sc.kind=.function:=by rfl
 co:sc.isCoroutine=false:=by rfl
 gen:sc.isGenerator=false:=by rfl
 nd:N.Nodup:=by decide +kernel
 pre:N.take P.length=P:=by rfl
 par:∀x∈P,sc.names.lookup x=some .local\/sc.names.lookup x=some .cell:=by decide +kernel
 nofree:∀y∈sc.names,y.2≠.free:=by decide +kernel
def Ze {kindOf:Str->Option NameKind}{x:Str}:∀{binds:List (Str×Value)}{m:x_},(∀v,(x,v)∉binds)->bindL kindOf binds m x=m x
 | [],_,_=>rfl
 | (n,v)::r,m,h=>by
  unfold bindL
  rw[Ze λw hw=>h w (bD _ hw)]
  split
  ·have:x≠n:=by rintro rfl;exact h v bV
   simp[this]
  ·rfl
def Zx {kindOf:Str->Option NameKind}{x:Str}:∀{binds:List (Str×Value)}{m:x_},(∀v,(x,v)∉binds)->bindC kindOf binds m x=m x
 | [],_,_=>rfl
 | (n,v)::r,m,h=>by
  unfold bindC
  rw[Zx λw hw=>h w (bD _ hw)]
  split
  ·rfl
  ·have:x≠n:=by rintro rfl;exact h v bV
   simp[this]
def Zu {kindOf:Str->Option NameKind}{x:Str}{v:Value}:∀{P:v4}{vs:w6}{i:Nat}{m:x_},P.Nodup->P[i]?=some x->vs[i]?=some v->kindOf x=some .local ->
 bindL kindOf (P.zip vs) m x=some v
 | [],_,_,_,_,h,_,_=>by simp at h
 | _::_,[],_,_,_,_,h,_=>by simp at h
 | p::P,w::vs,0,m,nd,h1,h2,hk=>by
  simp at h1 h2;subst h1;subst h2
  show bindL kindOf ((p,w)::P.zip vs) m p=_
  unfold bindL
  rw[Ze λv hv=>(bC.mp nd).1 (iB hv).1,if_pos hk]
  simp
 | p::P,w::vs,i+1,m,nd,h1,h2,hk=>by
  show bindL kindOf ((p,w)::P.zip vs) m x=_
  unfold bindL
  exact Zu (i:=i) (bC.mp nd).2 (by simpa using h1) (by simpa using h2) hk
def Zh {kindOf:Str->Option NameKind}{x:Str}{v:Value}:∀{P:v4}{vs:w6}{i:Nat}{m:x_},P.Nodup->P[i]?=some x->vs[i]?=some v->kindOf x≠some .local ->
 bindC kindOf (P.zip vs) m x=some v
 | [],_,_,_,_,h,_,_=>by simp at h
 | _::_,[],_,_,_,_,h,_=>by simp at h
 | p::P,w::vs,0,m,nd,h1,h2,hk=>by
  simp at h1 h2;subst h1;subst h2
  show bindC kindOf ((p,w)::P.zip vs) m p=_
  unfold bindC
  rw[Zx λv hv=>(bC.mp nd).1 (iB hv).1,if_neg hk]
  simp
 | p::P,w::vs,i+1,m,nd,h1,h2,hk=>by
  show bindC kindOf ((p,w)::P.zip vs) m x=_
  unfold bindC
  exact Zh (i:=i) (bC.mp nd).2 (by simpa using h1) (by simpa using h2) hk
noncomputable def start (N:v4) (vs:m6):St:=vs.map some++List.replicate (N.length-vs.length) none
noncomputable def Jo (CX:CXT) (P:u6) (w:World) (K:v9) (mg:x_) (base:Heap) (N:v4) (qual:Str) (scope:Scope) (f:Addr) (cd:Value) (A:t_) (outer:List Env) (s:u_) (H:Hp) (E:XK):Cx where
 prog:=P
 w:=w
 K:=K
 mg:=mg
 base:=base
 A:=A.deeper (envOfC qual scope s.heap.objs.size f cd)
 N:=N
 s₀:=s
 H₀:=H
 env:=envOfC qual scope s.heap.objs.size f cd
 outer:=outer
 stack:=envOfC qual scope s.heap.objs.size f cd::outer
 ex:=[]
 calm:=true
 fn:=λ_=>true
 pn:=[]
 xe:=λe s'=>wpAny (model P w) (A.deeper (envOfC qual scope s.heap.objs.size f cd)) (leaving (envOfC qual scope s.heap.objs.size f cd) e) (λ_ s''=>CX outer H s E e s'') (λe' s''=>CX outer H s E e' s'') s'
def Ai3 {a:Scope} (h:a.names.lookup x=some .cell):∃c,(cellsFrom n a.names []).lookup x=some c:=by
 exact Option.isSome_iff_exists.mp (PySem.W.cellsFrom_some _ n [] (.inl h))
def Y9 {K:v9}
 (S:Ay N ps scope) (hd:A.handled=none) (d:Env0 P w K mg base A a s H) (hl:vs.length=ps.length) (r:Vals vs us)
 (x:InCallC s s.heap.objs.size (bindL (envOfC qual scope s.heap.objs.size f t).kindOf (ps.zip us) λ_=>none) (cellsFrom (s.heap.objs.size+1) scope.names []) (bindC (envOfC qual scope s.heap.objs.size f t).kindOf (ps.zip us) λ_=>none) s1) :
 Inv (Jo CX P w K mg base N qual scope f t A a s H E) [] (start N vs) H s1:=by
 have D:ps.length<=N.length:=by have:=bY List.length S.pre;rw[di]at this;lia
 obtain⟨o,tk,rfl,B⟩:=x.done
 have g:∀b:Addr,b∉(Jo CX P w K mg base N qual scope f t A a s H E).ex:=λb z=>absurd (show b∈([]:v6) from z) (by simp)
 refine⟨⟨d.mod,S.kind,rfl,rfl,au _,λy z c o n=>?_,λy j=>?_,λy c _ h=>?_,λ_=>hd,Around.frames_deeper d.frames,.inr ⟨rfl,rfl⟩,λb z=>absurd z (g b),d.bs,d.bsz,λb _ _=>g b,λb z=>absurd z (g b),d.funs,d.frf,d.tab⟩,
  rfl,d.bare,Un.kept B,⟨_,x.toInCall.ns,λi y v o n h3=>?_⟩,λy c h=>⟨_,x.cell y c h⟩,d.hok.fresh (au _),λy c h=>?_,λp m=>absurd (show p∈([]:y_) from m) (by simp),d.hok.kept B,?_⟩
 ·exact name_of_addr x.apart (gK o) (gK n)
 ·have j:scope.names.lookup y=some .cell\/scope.names.lookup y=some .free:=j
  rcases j with j | j
  ·exact Ai3 j
  ·exact absurd rfl (S.nofree _ (gK j))
 ·exact cR (x.above y c (gK h))
 ·have hi:i<vs.length:=by
   unfold start at n
   grind
  have F:vs[i]?=some v:=by
   unfold start at n
   grind
  obtain⟨u,C,G⟩:=r.get F
  have m:ps[i]?=some y:=by
   rw[<- S.pre,List.getElem?_take_of_lt (by lia)];exact o
  have l:ps.Nodup:=by rw[<- S.pre];exact S.nd.sublist (jf _ _)
  refine⟨u,G,?_⟩
  rcases S.par y (bh m) with k | k
  ·exact .inl ⟨k,Zu l m C k⟩
  ·obtain⟨c,e⟩:=Ai3 k
   refine .inr ⟨.inl k,c,e,?_⟩
   have q:=x.cell y c e
   rw[Zh l m C (by show scope.names.lookup y≠_;rw[k];decide)]at q
   exact q
 ·exact d.hok.fresh (cR (x.above y c (gK h)))
 ·unfold start
  show _=N.length
  simp_all
def A0c {K:v9}
 (lk:K.lookup f=some ⟨oc,od,.func (PySem.W.fnOf name qual d body scope U O z R M a W),F⟩) (hcd:PySem.W.codeIn K a qual=true) (S:Ay N ps scope)
 (p:∀vs H Q E,sp vs H Q E->vs.length=ps.length)
 (i:∀(A:t_) (c:List Env) (s:u_) (H:Hp) (vs:m6) (Q:VK) (E:XK),Room k (A.deeper (envOfC qual scope s.heap.objs.size f a))->sp vs H Q E ->
  ∃t,PSs (Jo CX P w K mg base N qual scope f a A c s H E) body t/\t { nx:=λ_ H'=>Q .non H',rt:=Q } (start N vs) H) :
 FnOk P w K mg base CX (k+1) f (PySem.W.fnOf name qual d body scope U O z R M a W) ps sp:=by
 refine⟨p,λA c s H T X vs Q E C l hb r m=>?_⟩
 have hl:=p _ _ _ _ m
 have G := l.mod.kin.keeps λb o e=>(l.bs b o e).1
 have h:∀y∈ps.zip X,scope.names.lookup y.1=some .local\/(scope.names.lookup y.1=some _/\((cellsFrom (s.heap.objs.size+1) _ []).lookup y.1).isSome=true):=λ⟨n,v⟩ Y=>by
  rcases S.par n (iB Y).1 with q | q
  ·grind
  ·exact .inr ⟨q,PySem.W.cellsFrom_some _ _ _ (.inl q)⟩
 refine codeAny_call_function C.depth (G _ _ lk) rfl S.co S.gen rfl (PySem.W.codeRec_of G hcd) (hb _ _ _ _ ?_)
 refine wpAny_newFunctionEnv_cells S.kind h λZ he s1 x=>?_
 subst he
 refine⟨(l.mod.nolimit.keeps λb o e=>(l.bs b o e).1).keeps x.toInCall.keep,codeAny_func ?_⟩
 obtain⟨t,ht,hq⟩:=i A _ s H _ Q E (C.deeper _) m;have I:Inv (Jo CX P w K _ _ N qual _ f a A _ s H E) _ _ H _:=Y9 S C.hd l hl r x
 refine aL (ht _ _ _ H _ I hq) (λfl L j=>?_) λe L j=>j
 have B:∀{g:St} {H':Hp} {v:V} {u:Value},Inv (Jo CX P w K mg base N qual scope f a A c s H E) [] g _ L->RelV v u->Q v _->CE _ P w H s Q u _ :=
  λ{g H' v u} J D q=>⟨v,H',J.os,J.bare,J.base,J.hok,D,q⟩
 cases fl with
 | ret u =>
  obtain⟨v,g,H',J,D,q⟩:=j;exact B J D q
 | next =>
  obtain⟨g,H',J,q⟩:=j;exact B (v:=V.non) J rfl q
 | brk =>
  obtain⟨_,_,_,q⟩:=j
  trivial
 | cont =>
  obtain⟨_,_,_,q⟩:=j
  trivial
section
variable {X:Cx}{x:Str}{p pos:Pos}{e:Expr}{es:v_}{t:TA}{id T:String}{r:m6->Hp->VK->Prop}
def tCB (r:m6->Hp->VK->Prop)(t:TA):TE:=λσ H Q=>t σ H λvs H1=>r vs H1 Q
def A7b (hc:CallR X (.builtin id) r)(hg:Gl X x)(hm:X.mg x=none)(hv:bootBuiltins x=some (.builtin id))(ha:PA X (e::es) t)(hn:x ≠ "__name__" := by decide) (hdb:(x==("__debug__" : Str))=false:=by decide)
 (he:starEach (e::es) X.env=(false,eval e X.env)::starEach es X.env:=by rfl) (hpl:(backTo pos (starEach es X.env)).any (·.1)=false:=by rfl):PE X (.Call (.Name x p) (e::es) [] pos) (tCB r t):=by
 intro a s f H Q I h
 refine gJ (Lj I hg hm hv ?_ hn hdb)
 exact jN (thn (ha _ _ s _ H _ I h) λj k ⟨g,i,d,c,b⟩=>hc _ _ _ _ _ _ Q d c b) he hpl
def A3g (hc:CallR X (.type T) r)(hg:Gl X x)(hm:X.mg x=none)(hv:bootBuiltins x=some (.type T))(ha:PA X (e::es) t)(hn:x ≠ "__name__" := by decide) (hdb:(x==("__debug__" : Str))=false:=by decide)
 (he:starEach (e::es) X.env=(false,eval e X.env)::starEach es X.env:=by rfl) (hpl:(backTo pos (starEach es X.env)).any (·.1)=false:=by rfl):PE X (.Call (.Name x p) (e::es) [] pos) (tCB r t):=by
 intro a s f H Q I h
 refine gJ (Lj I hg hm hv ?_ hn hdb)
 exact eN (thn (ha _ _ s _ H _ I h) λj k ⟨g,i,d,c,b⟩=>hc _ _ _ _ _ _ Q d c b) he hpl
end
end L2
namespace HT
open PySem PyProof.Rows
section
variable {prog:u6}{w:World}{A:t_}{E:z_}{s:u_}
def Bl1 (ht:IsTup s.heap t vs.toArray) (hb:IsTup s.heap b c.toArray) (hv:vs≠[])
 (h1:c=[]->Q (.ref t) s) (h2:c≠[]->Q (.ref s.heap.objs.size) { s with heap:=s.heap.push { cls:=.type "tuple",data:=.seq (vs++c).toArray } })
 (hsz:vs.length+c.length<=sizeLine):wpAny (model prog w) A (binaryOp .Add (.ref t) (.ref b)) Q E s:=by
 obtain⟨⟨g,q,d,p⟩,e,o,n,l⟩:=id ht;obtain⟨⟨j,k,i,m⟩,a,h,r,f⟩:=id hb;subst o l h f
 by_cases hw:c=[]
 ·exact concat_meets ⟨_,e,rfl⟩ ⟨_,a,rfl⟩ jg seq_tuple_add jh ji (jj _ _)
   (tuple_addW1 t b _ _ n _ _ _ _ _ (by simp_all) (by grind)) ⟨e,a,h1 hw⟩
 ·refine concat_meets ⟨_,e,rfl⟩ ⟨_,a,rfl⟩ jg seq_tuple_add jh ji (jj _ _)
   (tuple_addW2 t b _ _ n _ _ _ _ _ (by grind) (by simp_all) (by simp_all)) ⟨e,a,?_⟩
  grind
noncomputable def sIx (n d:Nat):q9->Nat
 | none=>d
 | some v=>if v<0 then (v+(n:Int)).toNat else min v.toNat n
def Bc5 (n d:Nat):sIx n d none=d:=rfl
def Ab6 (n d k:Nat):sIx n d (some (k:Int))=min k n:=by
 show (if k<0 then ((k:Int)+n).toNat else min _ n)=min k n
 grind
def B3v (n d:Nat)(hd:d<=n)(o:q9):sIx n d o<=n:=by
 cases o with
 | none=>exact hd
 | some v =>
  show (if v<0 then (v+n).toNat else min _ n)<=n
  grind
def A0h (v:Int)(n d:Nat):(if v<0 then max (v+(n:Int)) 0 else min v (n:Int))=((sIx n d (some v):Nat):Int):=by
 show (if v<0 then max _ 0 else min v _)=(((if v<0 then (v+n).toNat else min _ n):Nat):Int)
 grind
def Ax6 (lo hi:q9)(n:Nat):Builtin.Slice.sliceAdjust lo hi 1 (n:Int)=(((sIx n 0 lo:Nat):Int),((sIx n n hi:Nat):Int)):=by
 refine Prod.ext ?_ ?_
 ·cases lo with
  | none=>rfl
  | some v=>exact A0h v n 0
 ·cases hi with
  | none=>rfl
  | some v=>exact A0h v n n
def Ax1 (i j:Nat):Builtin.Slice.slicePlaces (i:Int) (j:Int) 1=j-i:=by
 unfold Builtin.Slice.slicePlaces
 have h1:(1:Int)>0:=by lia
 simp only[h1,cB,Int.ediv_one]
 split <;> lia
def V3 (p:IsPart v o) (h:Q o s):wpAny (model prog w) A (Builtin.Slice.slicePartIndex v) Q E s:=by
 cases p with
 | none=>exact slicePart_none h
 | int i t=>exact slicePart_int h
def Ky {lo hi:q9}{n:Nat} (hs:s.heap.IsSliceOf e d c .none) (pl:IsPart d lo) (g:IsPart c hi)
 (h:Q (((sIx n 0 lo:Nat):Int),1,sIx n n hi-sIx n 0 lo) s):wpAny (model prog w) A (Builtin.Slice.sliceApplied (.ref e) (pure (n:Int))) Q E s:=by
 obtain⟨i,a,f,b⟩:=id hs
 refine aj (aj (aX a b (x:=d) rfl (aj (aX a b (x:=c) rfl (aj (aX a b rfl (ak ?_)))))))
 refine aj (slicePart_none ?_)
 refine aj (V3 pl (aj (V3 g (aj (ak ?_)))))
 show wpAny _ _ (match Builtin.Slice.sliceAdjust _ _ 1 _ with | (lo,hi)=>pure (lo,(1:Int),Builtin.Slice.slicePlaces lo hi 1)) _ _ s
 rw[Ax6 _ _ n]
 show wpAny _ _ (pure _) _ _ s
 rw[Ax1];exact ak h
def A6z (xs:v7)(i k:Nat):((List.range k).filterMap λ(m:Nat)=>xs[((i:Int)+(m:Int)*1).toNat]?).toArray=((xs.toList.drop i).take k).toArray:=by
 have e:(λ(m:Nat)=>xs[((i:Int)+m*1).toNat]?)=λm=>xs[i+m]?:=by
  funext m
  have:((i:Int)+m*1).toNat=i+m:=by lia
  rw[this]
 rw[e];have:=pick_run xs i k;rw[jk]at this
 have a:((λx=>xs[x]?) ∘ λx=>i+x)=λm=>xs[i+m]?:=rfl
 rw[a]at this;rw[this]
def Q3 {lo hi:q9} (ht:IsTup s.heap t items) (hs:s.heap.IsSliceOf sl vl vu .none) (pl:IsPart vl lo) (pu:IsPart vu hi)
 (hw:¬ (sIx items.size 0 lo=0/\sIx items.size items.size hi=items.size))
 (h:Q (.ref s.heap.objs.size) { s with heap:=s.heap.push { cls:=.type "tuple",data:=.seq ((items.toList.drop (sIx items.size 0 lo)).take (sIx items.size items.size hi-sIx items.size 0 lo)).toArray } })
 (hsz:items.size<=sizeLine):wpAny (model prog w) A (getItem (.ref t) (.ref sl)) Q E s:=by
 have htake:sizeOk (.seq ((items.toList.drop (sIx items.size 0 lo)).take (sIx items.size items.size hi-sIx items.size 0 lo)).toArray):=by
  show ((items.toList.drop (sIx items.size 0 lo)).take (sIx items.size items.size hi-sIx items.size 0 lo)).toArray.size<=sizeLine
  rw[dg,di,iC,jl];lia
 have hj:sIx items.size items.size hi<=items.size:=B3v _ _ (au _) hi;obtain⟨os,hos,hcs,hds⟩:=id hs;have hTs:s.TypeIs (.ref sl) "slice" := ⟨os,hos,hcs⟩;unfold getItem
 try with_reducible refine bH ?_
 first | refine aj (ak ?_) | skip
 refine aj (wpAny_sequenceKey ht.typeIs (by decide) ?_)
 refine aj (b_ (name:="__getitem__") ht.typeIs fO
  (bA fO ht.typeIs entry_tuple_getitem ?_ (args_tuple_getitem _ _)))
 show wpAny _ _ (Builtin.Tuple.tupleItemsOf (.ref t) >>= _) _ _ s
 refine aj (tupleItemsOf_ ht ?_)
 refine aj (dj hTs ?_)
 rw[if_pos (by decide)]
 refine aj (Ky hs pl pu ?_)
 have hno:¬ ((((sIx items.size 0 lo:Nat):Int)==0&&(1:Int)==1&&(sIx items.size items.size hi-sIx items.size 0 lo)==items.size)=true):=by
  intro q;rw[cu,cu]at q;have q1:((sIx items.size 0 lo:Nat):Int)=0:=cU q.1.1;have q2:sIx items.size items.size hi-sIx items.size 0 lo=items.size:=cU q.2
  exact hw ⟨by lia,by lia⟩
 show wpAny _ _ (if (((sIx items.size 0 lo:Nat):Int)==0&&(1:Int)==1&&(sIx items.size items.size hi-sIx items.size 0 lo)==items.size)=true then _ else _) _ _ s
 rw[if_neg hno,A6z]
 first
  | exact aj (m:=Builtin.Tuple.tupleExact _) (bN (ak ⟨_,rfl,ak h⟩) htake)
  | exact aj (m:=Builtin.Tuple.tupleExact _) (bN (aj (ak (ak ⟨_,rfl,ak h⟩))) htake)
  | exact aj (aj (m:=Builtin.Tuple.tupleExact _) (bN (ak (ak ⟨_,rfl,ak h⟩)) htake))
  | exact aj (aj (m:=Builtin.Tuple.tupleExact _) (bN (ak ⟨_,rfl,ak h⟩) htake))
end
end HT
namespace L2
open PySem PySem.Spec PyProof.Rows
abbrev TO:=St->Hp->(q9->Hp->Prop)->Prop
def PO (X:Cx)(e:Option Expr)(t:TO):Prop :=
 ∀
  (pins:y_) (s:u_) (σ:St) (H:Hp) (Q:q9->Hp->Prop),Inv X pins σ H s->t σ H Q ->
  wpAny (model X.prog X.w) X.A (evalPart e X.env) (λu s'=>∃o H',Inv X pins σ H' s'/\IsPart u o/\Q o H') X.xe s
structure QO (X:Cx) (e:(Option Expr)) (t:TO):Prop where
 get:PO X e t
noncomputable def A2o:TO:=λ_ H Q=>Q none H
noncomputable def Bw4 (t:TE):TO:=λσ H Q=>t σ H λx H1=>∃i,x=.int i/\Q (some i) H1
section
variable {X:Cx}{e:Expr}{te:TE}{lo hi:Option Expr}{tl th:TO}{pos p2:Pos}
def Bp2:QO X none A2o:=by
 refine⟨?_⟩
 intro a s b H Q I h;exact ak ⟨none,H,I,.none,h⟩
def Rz (h:QE X e te):QO X (some e) (Bw4 te):=by
 refine⟨?_⟩
 intro a s σ H Q I d
 refine thn (h.1 _ s _ H _ I d) λu s1 ⟨x,f,b,c,g⟩=>?_
 obtain⟨i,rfl,q⟩:=g;obtain⟨t,rfl⟩:=c;exact⟨some i,f,b,.int i t,q⟩
def SlR (X:Cx)(r:V->q9->q9->Hp->VK->Prop):Prop :=
 ∀
  (pins:y_) (s:u_) (σ:St) (H:Hp) (x:V) (v vl vu:Value) (lo hi:q9) (sl:Addr) (Q:VK),Inv X pins σ H s->RelV x v->s.heap.IsSliceOf sl vl vu .none->IsPart vl lo->IsPart vu hi->r x lo hi H Q ->
  ∃T id,typeLookup (.type T) "__getitem__" = pure (some (.builtin id))/\s.TypeIs v T/\wpAny (model X.prog X.w) X.A (getItem v (.ref sl)) (EP X pins σ Q) X.xe s
def SlR.or (h:SlR X r) (h':SlR X b):SlR X (λx lo hi H Q=>r x lo hi H Q\/b x lo hi H Q):=by
 intro d s g H x v i j lo hi k Q I e c f a q
 rcases q with q | q
 ·exact h _ s _ H x v _ _ _ _ _ Q I e c f a q
 ·exact h' _ s _ H x v _ _ _ _ _ Q I e c f a q
def tSl (r:V->q9->q9->Hp->VK->Prop)(te:TE)(tl th:TO):TE:=λσ H Q=>te σ H λx H1=>tl σ H1 λl H2=>th σ H2 λu H3=>r x l u H3 Q
def Bg2 (hr:SlR X r) (he:QE X e te) (hl:QO X lo tl) (hu:QO X hi th):QE X (.Subscript e (.Slice lo hi none p2) pos) (tSl r te tl th):=by
 refine⟨?_⟩
 intro c s E H Q I h
 refine Subscript_ (thn (he.1 _ s _ H _ I h) λv B ⟨x,D,i,j,k⟩=>?_)
 refine wpAny_Slice (thn (hl.1 _ _ _ _ _ i k) λm C ⟨l,K,n,o,f⟩=>thn (hu.1 _ _ _ _ _ n f) λg a ⟨u,J,t,w,p⟩=>?_)
 refine ak ?_
 have z:Inv X _ _ _ { a with heap:=a.heap.push { cls:=.type "slice",data:=.fields #[m,g,.none] } }:=t.kept λb F q=>aC _ q
 obtain⟨T,G,y,A,d⟩:=hr _ _ _ _ x v _ _ l u _ Q z j (Heap.IsSliceOf.new ..) o w p
 exact tail_any A y d (by trivial)
def A4m (xs:m6)(lo hi:q9):m6:=(xs.drop (HT.sIx xs.length 0 lo)).take (HT.sIx xs.length xs.length hi-HT.sIx xs.length 0 lo)
def T7 (xs:m6)(lo hi:q9):(A4m xs lo hi).length<=xs.length:=by
 unfold A4m;rw[di,iC];lia
def B5o (K:v9):V->q9->q9->Hp->VK->Prop:=λx lo hi H Q=>∃a xs,x=.ref a/\SqT K H a xs /\
 ¬ (HT.sIx xs.length 0 lo=0/\HT.sIx xs.length xs.length hi=xs.length)/\∀p,H p=none->Q (.ref p) (upd H p (.tup (A4m xs lo hi)))
def Bz4:SlR X (B5o X.K):=by
 intro e s σ H x v vl vu lo hi sl Q I j k g l h;obtain⟨a,i,rfl,m,hw,q⟩:=h
 cases j
 obtain⟨d,r,f,n⟩:=I.tuple m
 have c:d.toArray.size=i.length:=by exact r.length.symm
 refine⟨"tuple",_,fO.lookup,f.typeIs,?_⟩
 refine HT.Q3 f k g l (by grind) ?_ (by simp_all)
 rw[c]
 refine⟨.ref _,_,I.laid (λb ob q=>aC _ q) (au _) ?_,rfl,q _ (I.hok.fresh (au _))⟩
 exact⟨ao (T7 _ _ _) n,_,(r.drop _).take _,zZ.new _ _⟩
def B6c (K:v9):R2:=λx y H Q=>∃a b xs ys,x=.ref a/\y=.ref b/\SqT K H a xs/\SqT K H b ys/\xs≠[]/\xs.length+ys.length<=sizeLine /\
 (ys=[]->Q (.ref a) H)/\(ys≠[]->∀p,H p=none->Q (.ref p) (upd H p (.tup (xs++ys))))
def Vals.nil_iff (r:Vals xs us):us=[]↔xs=[]:=by
 cases r with
 | nil=>simp
 | cons _ _=>simp
def Br5:OpR X (binaryOp .Add) (B6c X.K):=by
 intro e s σ H x y v u Q I o p h;obtain⟨a,b,xs,ys,rfl,rfl,k,l,g,hz,m,j⟩:=h
 cases o
 cases p
 obtain⟨i,d,n,_⟩:=I.tuple k;obtain⟨f,c,r,_⟩:=I.tuple l
 refine HT.Bl1 n r (λz=>g (d.nil_iff.mp z)) (λz=>⟨.ref a,H,I,rfl,m (c.nil_iff.mp z)⟩) (λz=>?_) (by rw[<- d.length,<- c.length];grind)
 refine⟨.ref _,_,I.laid (λb ob q=>aC _ q) (au _) ?_,rfl,j (λw=>z (c.nil_iff.mpr w)) _ (I.hok.fresh (au _))⟩
 exact⟨by simp_all,_,d.append c,zZ.new _ _⟩
end
noncomputable def ixN (n:Nat) (i:Int):Option Nat:=if 0<=i then (if i<n then some i.toNat else none) else if -(n:Int)<=i then some (i+n).toNat else none
def atI {α:Type}(xs:List α)(i:Int):Option α:=(ixN xs.length i).bind λj=>xs[j]?
def Aa7 (h:ixN n i=some j):seqIndex? i n=some j/\j<n/\-(n:Int)<=i/\i<n:=by
 unfold ixN at h
 by_cases h0:0<=i
 ·rw[if_pos h0]at h
  by_cases h1:i<n
  ·rw[if_pos h1]at h
   have e := bT h
   exact⟨by rw[seqIndex_of h0 h1,e],by lia,by lia,h1⟩
  simp_all
 ·rw[if_neg h0]at h
  by_cases h1:-n<=i
  ·rw[if_pos h1]at h
   have e := bT h
   exact⟨by rw[seqIndex_neg (by lia) h1,e],by lia,h1,by lia⟩
  simp_all
def Z5 {xs:List a} {v:a}(h:atI xs i=some v):∃j,seqIndex? i xs.length=some j/\xs[j]?=some v/\j<xs.length/\-(xs.length:Int)<=i/\i<xs.length:=by
 unfold atI at h
 cases e:ixN xs.length i with
 | none=>simp_all
 | some j =>
  obtain⟨c,d,f,b⟩:=Aa7 e
  grind
def Ii {xs:List a}{j:Nat}{v:a}(h:xs[j]?=some v):atI xs (j:Int)=some v:=by
 have b := (bG.mp h).1
 have e:ixN xs.length j=some j:=by
  unfold ixN
  simp_all
 unfold atI;grind
def N8 (b:Expr):Prop:=∀o i,subscripted b false o i=operate [o,i] (getItem o i)
def IxR (X:Cx)(r:R2):Prop :=
 ∀
  (value slice:Expr) (pins:y_) (s:u_) (σ:St) (H:Hp) (x y:V) (v u:Value) (Q:VK),Inv X pins σ H s->RelV x v->RelV y u->r x y H Q ->
  subscripted slice false v u=operate [v,u] (getItem v u)->wpAny (model X.prog X.w) X.A (subscriptTail value slice v u) (EP X pins σ Q) X.xe s
def MtR (X:Cx)(id:String)(r:V->m6->Hp->VK->Prop):Prop :=
 ∀
  (pins:y_) (s:u_) (σ:St) (H:Hp) (x:V) (xs:m6) (v:Value) (us:w6) (Q:VK),Inv X pins σ H s->RelV x v->Vals xs us->r x xs H Q ->
  wpAny (model X.prog X.w) X.A (call (.builtin id) (v::us)) (EP X pins σ Q) X.xe s
section
variable {X:Cx}{a b:Expr}{ta tb:TE}{pos:Pos}
def IxR.or (h:IxR X r) (h':IxR X d):IxR X (λx y H Q=>r x y H Q\/d x y H Q):=by
 intro b a e s i H x y v u Q I f g q c
 rcases q with q | q
 ·exact h _ _ _ s _ H x y v u Q I f g q c
 ·exact h' _ _ _ s _ H x y v u Q I f g q c
def Bv9 (hr:IxR X r) (ha:QE X a ta) (hb:QE X b tb) (hs:N8 b):QE X (.Subscript a b pos) (tOp r ta tb):=by
 obtain⟨ha⟩:=ha;obtain⟨hb⟩:=hb
 refine⟨?_⟩
 intro c s g H Q I h
 exact Subscript_ (B3l ha hb I h λv u i x y j f e d q=>hr a b _ _ _ _ x y v u Q f e d q (hs _ _))
def B3e (K:v9):R2:=λx y H Q=>∃p xs i v,x=.ref p/\y=.int i/\SqL K H p xs/\atI xs i=some v/\Q v H
def B3j (K:v9):R2:=λx y H Q=>∃p xs i v,x=.ref p/\y=.int i/\SqT K H p xs/\atI xs i=some v/\Q v H
def B6x:R2:=λx y H Q=>∃z i c,x=.str z/\y=.int i/\z.length<=sizeLine/\atI z.cps.toList i=some c/\Q (.str ⟨#[c]⟩) H
def ix_list:IxR X (B3e X.K):=by
 intro g f a s m H x y v u Q I C F h l;obtain⟨p,xs,i,z,rfl,rfl,E,n,q⟩:=h
 cases C
 obtain⟨t,rfl⟩:=F;obtain⟨e,r,c,hz⟩:=I.list E;obtain⟨j,k,D,h3,o,B⟩:=Z5 n;obtain⟨w,ew,d⟩:=r.get D;have hl:=r.length;have hn:=Xe;have b:EP X a m Q w s:=⟨z,H,I,d,q⟩
 by_cases h0:0<=i
 ·have A:i.toNat=j:=by
   rw[seqIndex_of h0 B]at k
   simp_all
  exact item_listR c.isList h0 (by lia) (by grind) b l
 ·have A:(i+e.toArray.size).toNat=j:=by
   rw[seqIndex_neg (by lia) o]at k
   simp_all
  exact subscriptTail_builtinR c.isList.typeIs slot_list_getitem.lookup
   (wpAny_getItem_list_neg c.isList (by lia) (by simp_all) (by lia) (by grind) ⟨rfl,b⟩) l
def ix_tup:IxR X (B3j X.K):=by
 intro b c e s σ H x y v u Q I A g h o;obtain⟨p,xs,i,z,rfl,rfl,m,n,q⟩:=h
 cases A
 obtain⟨t,rfl⟩:=g;obtain⟨k,r,f,hz⟩:=I.tuple m;obtain⟨j,h1,l,h3,h4,h5⟩:=Z5 n;obtain⟨w,ew,d⟩:=r.get l;have hl:=r.length;have hn:=Xe;have a:EP X _ _ Q w s:=⟨z,H,I,d,q⟩
 exact subscriptTail_builtinR f.typeIs slot_tuple_getitem.lookup
  (getItem_tuple (j:=j) f (by lia) (by lia) (by simp_all) (by grind) ⟨rfl,a⟩) o
def B1n:IxR X B6x:=by
 intro a b d s σ H x y v u Q I f m h g;obtain⟨z,i,c,rfl,rfl,hz,l,q⟩:=h;obtain⟨t,rfl⟩:=f;obtain⟨t',rfl⟩:=m;obtain⟨j,e,k,h3,o,n⟩:=Z5 l
 have p:z.cps.toList.length=z.length:=by simp[Str.length]
 rw[p]at e o n;have hn:=Xe
 exact tail_any (typeIs_str s z t) slot_str_getitem.lookup (getItem_str (by
  grind) (by rw[e];simpa using k) ⟨.str _,H,I.tok _,⟨_,rfl⟩,q⟩) g
def rIx (K:v9):R2:=λx y H Q=>B3e K x y H Q\/B3j K x y H Q\/B6x x y H Q
def Bz8:IxR X (rIx X.K):=ix_list.or (ix_tup.or B1n)
def Ax3 (a:w6)(n j:Nat)(u:Value):Obj.mapSeq (·.setIfInBounds j u) { cls:=.type "list",data:=.seq a.toArray n }={ cls:=.type "list",data:=.seq (a.set j u).toArray n }:=by
 simp[Obj.mapSeq]
def Inv.lst {b:St} (I:Inv X pins b H s) (h:H p=some (.lst xs)) :
 ∃(a:w6) (n:Nat),Vals xs a/\s.heap.get? p=some { cls:=.type "list",data:=.seq a.toArray n }/\xs.length<=sizeLine:=by
 obtain⟨z,a,n,r,e⟩:=I.hok p _ h
 grind
def Inv.lstUpd {a its':w6} (I:Inv X pins c H s) (h:H p=some (.lst xs))
 (ho:s.heap.get? p=some { cls:=.type "list",data:=.seq a.toArray n }) (hf:f { cls:=.type "list",data:=.seq a.toArray n }={ cls:=.type "list",data:=.seq its'.toArray n' }) (r:Vals ys its') (hz:ys.length<=sizeLine) (t:Nat) :
 Inv X pins c (upd H p (.lst ys)) { s with heap:=s.heap.update p f,toks:=t }:=by
 have e:(s.heap.update p f).get? p=some { cls:=.type "list",data:=.seq its'.toArray n' }:=by
  rw[bO f ho (by rw[hf] <;> rfl),hf]
 refine I.write (by rw[h];trivial) (.inl rfl) (λb u d q=>(cM _ _ (aF d)).trans q) ⟨_,e⟩ ?_
 exact⟨hz,its',n',r,e⟩
def Bw6:V->V->V->Hp->(Hp->Prop)->Prop:=λo i v H Q=>∃p xs k j,o=.ref p/\i=.int k/\H p=some (.lst xs)/\ixN xs.length k=some j/\Q (upd H p (.lst (xs.set j v)))
def set_list:B4g X Bw6:=by
 intro a s w H o i v ov iv u Q I y m g h;obtain⟨p,l,k,j,rfl,rfl,d,x,q⟩:=h
 cases y
 obtain⟨t,rfl⟩:=m;obtain⟨b,n,r,c,hz⟩:=I.lst d;obtain⟨e,h2,z,A⟩:=Aa7 x;have hl:=r.length;have hn:=Xe
 have I':Inv X a w (upd H p (.lst (l.set j v))) { s with heap:=s.heap.update p (Obj.mapSeq (·.setIfInBounds j u)) } :=
  I.lstUpd d c (Ax3 _ n j u) (r.set g j) (by grind) _
 by_cases h0:0<=k
 ·have f:k.toNat=j:=by
   rw[seqIndex_of h0 A]at e
   grind
  exact PySem.W.ki_setAt c h0 (by lia) (by grind) (by grind)
 ·have f:(k+b.toArray.size).toNat=j:=by
   rw[seqIndex_neg (by lia) z]at e
   simp_all
  exact PySem.W.ki_setBack c (by lia) (by simp_all) (by lia) (by grind)
def Ah7 (lo hi:q9)(n:Nat):(sliceBounds lo hi none n).1=((HT.sIx n 0 lo:Nat):Int)/\(sliceBounds lo hi none n).2.1=((HT.sIx n n hi:Nat):Int)/\(sliceBounds lo hi none n).2.2=1:=by
 refine⟨?_,?_,rfl⟩
 ·cases lo with
  | none=>simp[sliceBounds,HT.sIx]
  | some i =>
   simp only[sliceBounds,HT.sIx,Option.getD_none,show (1:Int)>0 by decide,cB]
   by_cases h:i<0
   ·simp only[h,cB] <;> lia
   ·simp only[h,bx] <;> lia
 ·cases hi with
  | none=>simp[sliceBounds,HT.sIx]
  | some i =>
   simp only[sliceBounds,HT.sIx,Option.getD_none,show (1:Int)>0 by decide,cB]
   by_cases h:i<0
   ·simp only[h,cB] <;> lia
   ·simp only[h,bx] <;> lia
def Yk (a:w6)(lo hi:q9):slicePick a.toArray lo hi none=((a.drop (HT.sIx a.length 0 lo)).take (HT.sIx a.length a.length hi-HT.sIx a.length 0 lo)).toArray:=by
 obtain⟨c,d,b⟩:=Ah7 _ _ _;unfold slicePick;rw[c,d,b]
 simp only[sliceRange_one,pick_run] <;> rfl
def B6t (K:v9):V->q9->q9->Hp->VK->Prop:=λx lo hi H Q=>∃a xs,x=.ref a/\SqL K H a xs/\∀p,H p=none->Q (.ref p) (upd H p (.lst (A4m xs lo hi)))
def Bq0:SlR X (B6t X.K):=by
 intro e s σ H x v vl vu lo hi sl Q I i j f k h;obtain⟨a,xs,rfl,g,q⟩:=h
 cases i
 obtain⟨l,r,d,m⟩:=I.list g;have c:=r.length
 refine⟨"list",_,slot_list_getitem.lookup,d.isList.typeIs,?_⟩
 refine wpAny_getItem_list_slice d.isList j f k .none (by simp) ?_ (by simp_all)
 rw[Yk,<- c]
 refine⟨.ref _,_,I.laid (λb ob q=>aC _ q) (au _) ?_,rfl,q _ (I.hok.fresh (au _))⟩
 exact⟨ao (T7 _ _ _) m,_,0,(r.drop _).take _,aJ _ rfl⟩
noncomputable def Ry:V->Bool
 | .non=>true
 | .bl _=>true
 | .int _=>true
 | .str _=>true
 | _=>false
noncomputable def eqV:V->V->Bool
 | .non,.non=>true
 | .bl a,.bl b=>a==b
 | .bl a,.int b=>(if a then 1 else 0)==b
 | .int a,.bl b=>a==(if b then 1 else 0)
 | .int a,.int b=>a==b
 | .str a,.str b=>a==b
 | _,_=>false
def B2q (e:RelV y u) (c:RelV x v) (f:Ry y=true) (fx:Ry x=true):SeqAt.EqAt A s u v (eqV y x):=by
 cases y with
 | non =>
  cases e
  cases x with
  | non=>cases c;exact SeqAt.EqAt.same _
  | bl b=>cases c;exact SeqAt.EqAt.none_bool b
  | int b=>obtain⟨t,rfl⟩:=c;exact SeqAt.EqAt.none_int b t
  | str b=>obtain⟨t,rfl⟩:=c;exact SeqAt.EqAt.none_str b t
  | _=>exact absurd (show false=true from fx) aW
 | bl a =>
  cases e
  cases x with
  | non=>cases c;exact SeqAt.EqAt.bool_none a
  | bl b=>cases c;exact SeqAt.EqAt.bool_bool a b
  | int b=>obtain⟨t,rfl⟩:=c;exact SeqAt.EqAt.bool_int a b t
  | str b=>obtain⟨t,rfl⟩:=c;exact SeqAt.EqAt.bool_str a b t
  | _=>exact absurd (show false=true from fx) aW
 | int a =>
  obtain⟨d,rfl⟩:=e
  cases x with
  | non=>cases c;exact SeqAt.EqAt.int_none a d
  | bl b=>cases c;exact SeqAt.EqAt.int_bool a d b
  | int b=>obtain⟨t,rfl⟩:=c;exact SeqAt.EqAt.int_int a d b t
  | str b=>obtain⟨t,rfl⟩:=c;exact SeqAt.EqAt.int_str a d b t
  | _=>exact absurd (show false=true from fx) aW
 | str a =>
  obtain⟨d,rfl⟩:=e
  cases x with
  | non=>cases c;exact SeqAt.EqAt.str_none a d
  | bl b=>cases c;exact SeqAt.EqAt.str_bool a d b
  | int b=>obtain⟨t,rfl⟩:=c;exact SeqAt.EqAt.str_int a d b t
  | str b=>obtain⟨t,rfl⟩:=c;exact jm a _ b t
  | _=>exact absurd (fx) aW
 | _=>exact absurd f aW
def eqU (x:V)(u:Value):Bool:=match u with
 | .none=>eqV .non x
 | .bool b=>eqV (.bl b) x
 | .int i _=>eqV (.int i) x
 | .str z _=>eqV (.str z) x
 | _=>false
def A9n (r:RelV y u) (f:Ry y=true):eqU x u=eqV y x:=by
 cases y with
 | non=>cases r;rfl
 | bl b=>cases r;rfl
 | int i=>obtain⟨t,rfl⟩:=r;rfl
 | str z=>obtain⟨t,rfl⟩:=r;rfl
 | _=>trivial
def Ah2 {x:V}:∀{xs:m6}{us:w6},Vals xs us->xs.all Ry=true->us.any (eqU x)=xs.any λy=>eqV y x
 | _,_,.nil,_=>rfl
 | y::xs,u::us,.cons r t,f=>by
  rw[gM,cu]at f;rw[fP,fP,A9n r f.1,Ah2 t f.2]
def Xq {A:t_}{s:u_}{x:V}{v:Value}(rx:RelV x v)(fx:Ry x=true):∀{xs:m6}{us:w6},Vals xs us->xs.all Ry=true->∀u∈us,SeqAt.EqAt A s u v (eqU x u)
 | _,_,.nil,_=>λu hu=>by cases hu
 | y::xs,u::us,.cons r t,f=>λu' hu=>by
  rw[gM,cu]at f
  rcases aD.mp hu with rfl | hu
  ·rw[A9n r f.1];exact B2q r rx f.1 fx
  ·exact Xq rx fx t f.2 u' hu
def inV (x:V)(xs:m6):Bool:=xs.any λy=>eqV y x
def rIn (K:v9)(neg:Bool):R2:=λx y H Q=>∃p xs,y=.ref p/\(SqL K H p xs\/SqT K H p xs)/\Ry x=true/\xs.all Ry=true/\Q (.bl (if neg then !inV x xs else inV x xs)) H
def Aa4:OpR X (compareOp .NotIn) (rIn X.K true):=by
 intro e s σ H x y v u Q I f i h;obtain⟨p,xs,rfl,b,g,c,q⟩:=h
 cases i
 rcases b with b | b
 ·obtain⟨a,r,d,j⟩:=I.list b
  refine SeqAt.notIn_listAt _ d.isList (λw k=>Xq f g r c w (by grind)) ⟨.bl _,H,I,rfl,?_⟩
  rw[show a.toArray.any _=a.any (eqU x) by simp,Ah2 r c]
  exact q
 ·obtain⟨a,r,d,j⟩:=I.tuple b
  refine SeqAt.notIn_tupleAt _ d (λw k=>Xq f g r c w (by grind)) ⟨.bl _,H,I,rfl,?_⟩
  rw[show a.toArray.any _=a.any (eqU x) by simp,Ah2 r c]
  exact q
def CallR.or {r b:m6->Hp->VK->Prop}(h:CallR X f r) (h':CallR X f b):CallR X f (λxs H Q=>r xs H Q\/b xs H Q):=by
 intro c s d H xs e Q I a q
 rcases q with q | q
 ·exact h _ s _ H _ _ Q I a q
 ·exact h' _ s _ H _ _ Q I a q
def Ah3:CallR X (.type "list") (λxs H Q=>∃p k,xs=[.ref p]/\(SqL X.K H p k\/SqT X.K H p k)/\∀l,H l=none->Q (.ref l) (upd H l (.lst k))):=by
 intro z s σ H xs us Q I r h;obtain⟨p,k,rfl,f,q⟩:=h;obtain⟨u,rfl,A⟩:=vals1 r
 cases A
 have g:∀(a:List _),Vals _ _->k.length<=sizeLine->∀(d:Heap) (t:Nat),(∀b o',s.heap.get? b=some _->d.get? b=some _) ->
  d.get? _=some _->EP X _ _ Q _ { s with heap:=d }:=λa c j d t i e =>
  ⟨.ref _,_,I.laid i (au _) (show zE _ _ _ _ _ (.lst _) from ⟨j,a,t,c,e⟩),rfl,q _ (I.hok.fresh (au _))⟩
 rcases f with f | f
 ·obtain⟨a,c,y,j⟩:=I.list f
  have m:=c.length;obtain⟨o,w,x,n,v⟩:=y.isList
  exact call_list_seq p (.inl rfl) w x v (λd t i e=>g _ c j _ _ i e) (by simp_all)
 ·obtain⟨a,c,y,j⟩:=I.tuple f
  have m:=c.length;obtain⟨o,w,x,n,v⟩:=y
  exact call_list_seq p (.inr rfl) w x v (λd t i e=>g _ c j _ _ i e) (by simp_all)
def Ym:CallR X (.type "tuple") (λxs H Q=>∃p c,xs=[.ref p]/\((SqL X.K H p c/\∀l,H l=none->Q (.ref l) (upd H l (.tup c)))\/(SqT X.K H p c/\Q (.ref p) H))):=by
 intro i s σ H xs us Q I r h;obtain⟨p,c,rfl,h⟩:=h;obtain⟨u,rfl,w⟩:=vals1 r
 cases w
 rcases h with ⟨d,q⟩ | ⟨d,q⟩
 ·obtain⟨a,g,f,m⟩:=I.list d
  have k:=g.length
  refine call_tuple_list f.isList (λj v=>?_) (by simp_all)
  have n:Inv X _ _ H { s with heap:=j }:=I.kept v
  have t:Inv X _ _ (upd H _ (.tup _)) { s with heap:=j.push _ } :=
   n.laid (λb o e=>aC _ e) (au _) (show zE _ _ _ _ _ _ from ⟨m,a,g,zZ.new _ _⟩)
  exact⟨.ref _,_,t,rfl,q _ (n.hok.fresh (au _))⟩
 ·obtain⟨a,g,f,m⟩:=I.tuple d
  exact call_tuple_same f ⟨.ref p,H,I,rfl,q⟩
def tyV (K:v9)(T:String)(x:V)(H:Hp):Prop:=match x with
 | .str _=>T = "str"
 | .int _=>T = "int"
 | .ref p=>(T = "list" /\ ∃xs,SqL K H p xs)\/(T = "tuple" /\ ∃o,K.lookup p=some o/\o.cls=.type "tuple" /\ o.dict=none) \/
  (T = "dict" /\ ((∃kvs,H p=some (.dK kvs))\/∃kvs,H p=some (.dT kvs)))\/(T = "set" /\ ∃S n,H p=some (.set S n))\/(T = "tuple" /\ ∃xs,H p=some (.tup xs))
 | _=>False
def B3z (I:Inv X pins l H s) (r:RelV x v) (ty:tyV X.K T x H) :
 s.TypeIs v T/\∀a,v=.ref a->∃ob,s.heap.get? a=some ob/\ob.dict=none:=by
 cases x with
 | str z =>
  obtain⟨t,rfl⟩:=r
  cases (ty)
  exact⟨typeIs_str s z t,λ_ e=>nomatch e⟩
 | int i =>
  obtain⟨t,rfl⟩:=r
  cases (ty)
  exact⟨typeIs_int s i t,λ_ e=>nomatch e⟩
 | ref p =>
  cases r
  rcases ty with ⟨rfl,m,u⟩ | ⟨rfl,o,b,q,k⟩ | ⟨rfl,b⟩ | ⟨rfl,S,n,b⟩ | ⟨rfl,m,b⟩
  ·obtain⟨h,_,j,_⟩:=I.list u
   refine⟨j.isList.typeIs,λa e=>?_⟩
   obtain⟨o,n,e,c,k,_⟩:=j
   grind
  ·refine⟨⟨o,I.kIn p o b,q⟩,λa e=>?_⟩
   cases e
   exact⟨o,I.kIn _ o b,k⟩
  ·have z:∃o,s.heap.get? p=some o/\o.ExactDict:=by
    rcases b with ⟨g,b⟩ | ⟨g,b⟩
    ·obtain⟨_,_,_,_,o,_,_,e,d,_⟩:=I.hok p _ b
     grind
    ·obtain⟨_,_,_,_,o,_,_,e,d,_⟩:=I.hok p _ b
     grind
   obtain⟨o,e,d⟩:=z
   refine⟨⟨o,e,d.1⟩,λa f=>?_⟩
   cases f
   exact⟨o,e,d.2.1⟩
  ·obtain⟨o,_,_,_,e,d,_⟩:=I.hok p _ b
   refine⟨⟨o,e,d.1⟩,λa f=>?_⟩
   cases f
   exact⟨o,e,d.2.1⟩
  ·obtain⟨_,h,_,o,e,c,_,dn⟩:=I.hok p _ b
   refine⟨⟨o,e,c⟩,λa f=>?_⟩
   grind
 | _=>exact False.elim ty
def tBM (K:v9)(T:String)(r:V->m6->Hp->VK->Prop)(to:TE)(t:TA):TE:=λσ H Q=>to σ H λx H1=>tyV K T x H1/\t σ H1 λxs H2=>r x xs H2 Q
variable {o e:Expr}{es:v_}{to:TE}{t:TA}{name:Str}{apos cpos:Pos}{T id:String}{r:V->m6->Hp->VK->Prop}
def Bv3 (pa:PlainAttrs T)(slot:Slot T name id)(hty:typeOf (.builtin id)=pure (.type "method_descriptor")) (hm:MtR X id r) (ho:PE X o to) (ha:PA X (e::es) t)
 (hbase:attributeBase o name X.env (eval o X.env)=eval o X.env:=by rfl)
 (hfew:((backTo cpos (starEach (e::es) X.env)).all (λx=>!x.1)&&(backToKw cpos (keywordEach [] X.env)).all (λx=>x.1.isSome)
  && decide ((e::es).length+([]:List Keyword).length+(if ([]:List Keyword).isEmpty then 0 else 1)<30))=true:=by rfl)
 (hline:(apos.endLine==cpos.line)=true:=by rfl) (hs:starEach (e::es) X.env=(false,eval e X.env)::starEach es X.env:=by rfl) (hplain:(backTo cpos (starEach es X.env)).any (·.1)=false:=by rfl) :
 PE X (.Call (.Attribute o name apos) (e::es) [] cpos) (tBM X.K T r to t):=by
 intro b s p H Q I h
 refine wpAny_Call_method_late hbase hfew hline rfl (thn (ho _ s _ H _ I h) λv z ⟨x,y,c,a,j,k⟩=>?_)
 obtain⟨g,m⟩:=B3z c a j
 refine⟨T,id,pa,slot,hty,g,m,?_⟩
 have d:=ha cpos _ _ _ _ _ c k;rw[hs]at d ⊢
 refine fQ (by grind) (gO ?_)
 exact thn d λi q ⟨u,w,l,n,f⟩=>hm _ _ _ _ x _ v i Q l a n f
end
def MtM (X:Cx)(id:String)(r:V->m6->Hp->VK->Prop):Prop :=
 ∀
  (pins:y_) (s:u_) (σ:St) (H:Hp) (x:V) (xs:m6) (v:Value) (us:w6) (Q:VK),Inv X pins σ H s->RelV x v->Vals xs us->r x xs H Q ->
  wpAny (model X.prog X.w) X.A (call (.builtin id) (v::us)) (EP X pins σ Q) X.xe s
def Vals.one:∀{x:V}{us:w6},Vals [x] us->∃u,us=[u]/\RelV x u
 | _,_,h=>by
  cases h with
  | cons r t=>cases t;exact⟨_,rfl,r⟩
def Vals.two:∀{x y:V}{us:w6},Vals [x,y] us->∃u v,us=[u,v]/\RelV x u/\RelV y v
 | _,_,_,h=>by
  cases h with
  | cons r t =>
   cases t with
   | cons q t=>cases t;exact⟨_,_,rfl,r,q⟩
def Vals.eraseIdx:∀{xs:m6}{us:w6}(i:Nat),Vals xs us->Vals (xs.eraseIdx i) (us.eraseIdx i)
 | _,_,_,.nil=>.nil
 | _,_,0,.cons _ t=>t
 | _,_,i+1,.cons r t=>.cons r (Vals.eraseIdx i t)
def Vals.rep {xs:m6}{us:w6}(h:Vals xs us):∀k:Nat,Vals (List.replicate k xs).flatten (List.replicate k us).flatten
 | 0=>.nil
 | k+1=>by
  rw[dM,dM,gP,gP];exact Vals.append h (Vals.rep h k)
def A4a {α:Type}:∀(l:List α) (i:Nat),(l.eraseIdx i).length<=l.length
 | [],_=>au _
 | _::_,0=>dN _
 | _::r,i+1=>iD (A4a r i)
def foldl_rep (its:w6):∀(k:Nat) (acc:w6),
 List.foldl (λx1 x2=>x1++x2) acc.toArray (List.replicate k its.toArray)=(acc++(List.replicate k its).flatten).toArray
 | 0,acc=>by simp
 | k+1,acc=>by
  have e:acc.toArray++its.toArray=(acc++its).toArray:=by simp
  have e2:(acc++its)++(List.replicate k its).flatten=acc++(List.replicate (k+1) its).flatten:=by
   rw[dM,gP,dZ]
  rw[<- e2,<- foldl_rep its k (acc++its),<- e,dM,List.foldl_cons]
section
variable {X:Cx}{pins:y_}{σ:St}{H:Hp}{s:u_}{l b:Addr}{xs ys:m6}
def Inv.lset {a its':w6} (I:Inv X pins σ H s) (c:H l=some (.lst xs))
 (e:s.heap.get? l=some { cls:=.type "list",data:=.seq a.toArray n }) (hf:f a.toArray=its'.toArray) (hv:Vals ys its') (hz:ys.length<=sizeLine) :
 Inv X pins σ (upd H l (.lst ys)) { s with heap:=s.heap.update l (Obj.mapSeq f),toks:=t' }:=by
 have q:=PySem.IsL.update e f;rw[hf]at q
 refine I.write (by rw[c];trivial) (.inl rfl) (λg u d b=>(cM _ _ (aF d)).trans b) ⟨_,q⟩ ?_
 exact⟨hz,its',_,hv,q⟩
def Inv.lnew (I:Inv X pins σ H s) (hv:Vals ys a) (hz:ys.length<=sizeLine) :
 Inv X pins σ (upd H s.heap.objs.size (.lst ys)) { s with heap:=s.heap.push { cls:=.type "list",data:=.seq a.toArray },toks:=t' } :=
 I.laid (λ_ _ q=>aC _ q) (au _) ⟨hz,a,0,hv,aJ _ rfl⟩
def Inv.fresh (I:Inv X pins σ H s):H s.heap.objs.size=none:=I.hok.fresh (au _)
def Inv.lstM (I:Inv X pins σ H s)(b:H l=some (.lst xs)):xs.length<=sizeLine/\∃(a:w6) (n:Nat),Vals xs a/\xs.length=a.length/\s.heap.get? l=some { cls:=.type "list",data:=.seq a.toArray n }:=by
 obtain⟨z,a,n,r,e⟩:=I.hok l _ b;exact⟨z,a,n,r,r.length,e⟩
def An7 (h:n<=sizeLine):Builtin.List.listTooLong n=false:=by
 unfold Builtin.List.listTooLong
 grind
end
section
variable {X:Cx}
def rAppend:V->m6->Hp->VK->Prop:=λx vs H Q=>∃l xs y,x=.ref l/\vs=[y]/\H l=some (.lst xs)/\xs.length<sizeLine/\Q .non (upd H l (.lst (xs++[y])))
def A5g:MtM X "list.append" rAppend:=by
 intro a s σ H x vs v us Q I c f h;obtain⟨l,xs,y,rfl,rfl,b,hz,q⟩:=h
 cases c
 obtain⟨u,rfl,d⟩:=f.one;obtain⟨z,g,n,r,hl,e⟩:=I.lstM b
 refine dm F.slot_list_append ⟨_,e,rfl⟩ F.entry_list_append (F.args_list_append_2 _ _) (PySem.list_append l _ n u (by simp_all)) ⟨e,?_⟩
 refine⟨.non,_,I.lset b e (by simp) (r.append (.cons d .nil)) ?_,rfl,q⟩
 grind
def rExtend:V->m6->Hp->VK->Prop:=λx vs H Q=>∃l b xs zs,x=.ref l/\vs=[.ref b]/\H l=some (.lst xs)/\H b=some (.lst zs)/\xs.length+zs.length<=sizeLine/\Q .non (upd H l (.lst (xs++zs)))
def Zw:MtM X "list.extend" rExtend:=by
 intro pins s σ H x vs v us Q I rx rv h;obtain⟨l,b,xs,zs,rfl,rfl,hH,hB,hz,q⟩:=h
 cases rx
 obtain⟨u,rfl,ru⟩:=rv.one
 cases ru
 obtain⟨z,its,n,r,hl,e⟩:=I.lstM hH;obtain⟨z2,its2,n2,r2,hl2,e2⟩:=I.lstM hB
 have hsz:its.toArray.size+its2.toArray.size<=sizeLine:=by rw[dg,dg];lia
 have hlong:¬ (!its.toArray.isEmpty&&Builtin.List.listTooLong (its.toArray.size+its2.toArray.size))=true:=by
  rw[An7 hsz,Bool.and_false];exact aW
 refine dm F.slot_list_extend ⟨_,e,rfl⟩ F.entry_list_extend (F.args_list_extend_2 _ _)
  (AutoSeq1.list_extend_list_list_0 l its.toArray n b its2.toArray n2 hlong (by rw[dg];lia) (by lia)) ⟨e,e2,?_⟩
 refine⟨.non,_,I.lset (its':=its++its2) hH e (by simp) (r.append r2) ?_,rfl,q⟩
 rw[aK];lia
def rPopAt:V->m6->Hp->VK->Prop:=λx vs H Q=>∃l xs i k y,x=.ref l/\vs=[.int i]/\H l=some (.lst xs)/\-(2 ^ 63)<=i/\i<2 ^ 63/\seqIndex? i xs.length=some k/\xs[k]?=some y/\Q y (upd H l (.lst (xs.eraseIdx k)))
def Ba9:MtM X "list.pop" rPopAt:=by
 intro b s σ H x vs v us Q I f g h;obtain⟨l,xs,i,k,y,rfl,rfl,c,d,j,hk,o,q⟩:=h
 cases f
 obtain⟨u,rfl,m⟩:=g.one;obtain⟨t,rfl⟩:=m;obtain⟨z,p,n,r,hl,e⟩:=I.lstM c;obtain⟨w,hw,a⟩:=r.get o
 refine dm F.slot_list_pop ⟨_,e,rfl⟩ F.entry_list_pop (F.args_list_pop_2 _ _)
  (MeetsSeq.list_pop_at l _ n i t k w (fitsIndex_both d j) (by simp_all) (by simp_all) (by simp_all)) ⟨e,?_⟩
 refine⟨y,_,I.lset c e ?_ (r.eraseIdx k) ?_,a,q⟩
 ·simp_all
 grind
def B6l:R2:=λx y H Q=>∃l b xs zs,x=.ref l/\y=.ref b/\H l=some (.lst xs)/\H b=some (.lst zs)/\xs.length+zs.length<=sizeLine/\∀p,H p=none->Q (.ref p) (upd H p (.lst (xs++zs)))
def B3c:OpR X (binaryOp .Add) B6l:=by
 intro d s σ H x y v u Q I k g h;obtain⟨l,b,xs,zs,rfl,rfl,i,j,hz,q⟩:=h
 cases k
 cases g
 obtain⟨z,c,n,r,hl,e⟩:=I.lstM i;obtain⟨z2,a,n2,o,m,p⟩:=I.lstM j
 refine PySem.P.add_list e p ?_ (by grind)
 have f:c.toArray++a.toArray=(c++a).toArray:=by simp
 rw[f]
 exact⟨.ref _,_,I.lnew (r.append o) (by simp_all),rfl,q _ I.fresh⟩
def B1t:R2:=λx y H Q=>∃l k xs,x=.ref l/\y=.int k/\H l=some (.lst xs)/\-(2 ^ 63)<=k/\k<2 ^ 63/\xs.length*k.toNat<=sizeLine /\
 ∀p,H p=none->Q (.ref p) (upd H p (.lst (List.replicate k.toNat xs).flatten))
def len_rep {a:Type}(xs:List a)(k:Nat):(List.replicate k xs).flatten.length=k*xs.length:=by
 simp_all
def B1p:OpR X (binaryOp .Mult) B1t:=by
 intro p s σ H x y v u Q I A B h;obtain⟨l,k,xs,rfl,rfl,C,w,D,hz,q⟩:=h
 cases A
 obtain⟨t,rfl⟩:=B;obtain⟨z,b,n,r,hl,e⟩:=I.lstM C
 have i:b.toArray.size*k.toNat<=sizeLine:=by simp_all
 have f:¬ b.toArray.size*k.toNat>(2 ^ 63-1) / 8:=by
  have:(sizeLine:Nat)<=(2 ^ 63-1) / 8:=by decide
  lia
 have d:¬ (!Builtin.List.listFitsIndex k)=true:=by
  rw[fitsIndex_both w D]
  grind
 have c:¬ Builtin.List.listTooLong (b.toArray.size*k.toNat)=true:=by
  rw[An7 i]
  trivial
 have g:List.foldl (λj o=>j++o) #[] (List.replicate (if b.toArray.isEmpty=true then 0 else k.toNat) b.toArray)=(List.replicate k.toNat b).flatten.toArray:=by
  have E:∀m:Nat,List.foldl (λj o=>j++o) #[] (List.replicate m b.toArray)=(List.replicate m b).flatten.toArray:=λm=>by
   have:=foldl_rep b m []
   simp_all
  rw[E]
  cases b with
  | nil=>simp
  | cons a r'=>rfl
 refine wpAny_binaryOp_repeat_ref (by rfl) ⟨_,e,rfl⟩ (λs'=>typeIs_int _ k t) noFill_list_mul F.fills_int_mul F.slot_int_rmul repeat_list F.slot_int_index.lookup
  (dm F.slot_int_rmul (typeIs_int s k t) F.entry_int_rmul (F.args_int_rmul_2 _ _) (int___rmul___int_list k t l _ n)
   ⟨e,rfl,⟨_,e,rfl⟩,dm F.slot_list_mul ⟨_,e,rfl⟩ F.entry_list_mul (F.args_list_mul_2 _ _) (AutoListH.list___mul___list_int_3 l _ n k t d f c) ⟨e,?_⟩⟩)
 rw[g]
 exact⟨.ref _,_,I.lnew (r.rep _) (by rw[len_rep];grind),rfl,q _ I.fresh⟩
end
section
variable {κ:Type}[DecidableEq κ]
noncomputable def Jm (kvs:List (κ×V)) (k:κ):Option V:=(kvs.find? λkv=>decide (kv.1=k)).map (·.2)
noncomputable def putK (kvs:List (κ×V)) (k:κ) (v:V):List (κ×V) :=
 if (kvs.any λkv=>decide (kv.1=k))=true then kvs.map (λkv=>if kv.1=k then (kv.1,v) else kv) else kvs++[(k,v)]
def Nj {p:κ×V} (e:p.1=k):Jm (p::r) k=some p.2:=by simp[Jm,e]
def Jg {p:κ×V} (e:¬ p.1=k):Jm (p::r) k=Jm r k:=by simp[Jm,e]
def Qx (k:κ):∀kvs:List (κ×V),(kvs.any λkv=>decide (kv.1=k))=(Jm kvs k).isSome
 | []=>rfl
 | p::r=>by
  rw[fP]
  by_cases e:p.1=k
  ·simp only[Nj e,aO e,Bool.true_or,Option.isSome_some]
  ·rw[Jg e,bj e,Bool.false_or];exact Qx k r
def Ub (a:List (κ×V))(k:κ)(v:V):(putK a k v).length<=a.length+1:=by
 unfold putK
 grind
def RelO.isSome_eq (r:RelO o u):o.isSome=u.isSome:=by
 cases o with
 | none=>
  cases u with
   | none=>rfl
   | some _=>trivial
 | some _=>
  cases u with
   | none=>trivial
   | some _=>rfl
def RelO.getD (r:RelO o u) (a:RelV d d'):RelV (o.getD d) (u.getD d'):=by
 cases o with
 | none=>
  cases u with
   | none=>grind
   | some _=>trivial
 | some _=>
  cases u with
   | none=>trivial
   | some _=>exact r
def KV.val (r:KV a vs) (k:κ):RelO (Jm a k) (valueAt vs k):=by
 induction r with
 | nil=>trivial
 | @cons p q j c h t i =>
  obtain⟨d,g⟩:=h
  by_cases e:p.1=k
  ·have b:valueAt (q::c) k=some q.2:=by simp[valueAt,(d.symm.trans e)]
   rw[Nj e,b];exact g
  ·have f:¬ q.1=k:=λz=>e (d.trans z)
   have b:valueAt (q::c) k=valueAt c k:=by simp[valueAt,f]
   rw[Jg e];grind
def KV.any (r:KV a vs) (k:κ):(a.any λb=>decide (b.1=k))=vs.any λb=>decide (b.1=k):=by
 induction r with
 | nil=>rfl
 | cons h t c=>simp_all
def KV.repl (r:KV b vs) (k:κ) (d:RelV y u) :
 KV (b.map λa=>if a.1=k then (a.1,y) else a) (vs.map λa=>if a.1=k then (a.1,u) else a):=by
 induction r with
 | nil=>exact .nil
 | @cons p q e f h t c =>
  refine .cons ?_ c
  grind
def KV.put (r:KV a vs) (k:κ) (b:RelV y u):KV (putK a k y) (stored vs k u):=by
 unfold putK stored;rw[r.any k]
 by_cases e:(vs.any λc=>decide (c.1=k))=true
 ·rw[if_pos e,if_pos e];exact r.repl k b
 ·rw[if_neg e,if_neg e];exact Paired.snoc r ⟨rfl,b⟩
def KV.length {a:List (κ×V)} (r:KV a vs):a.length=vs.length:=eG r
end
def A7p (r:RelV (kV k) u):(Dj P w).is k u=true:=by
 cases k with
 | inl i=>obtain⟨t,e⟩:=(r);subst e;exact N6 P w i t
 | inr x=>obtain⟨t,e⟩:=(r);subst e;exact Mr P w x t
def A0a {A:t_}(hu:A.units+9<cLine):A.in1.units+8<cLine:=bB (dO (rfl)) hu
abbrev KT (H:Hp):List (PyData×V)->List (PyData×Addr×Value)->Prop:=Paired λp q=>p.1=q.1/\KAt H p.1 q.2.1/\RelV p.2 q.2.2
def KT.val (r:KT H a xs) (k:t6):RelO (Jm a k) ((atKey xs k).map (·.2)):=by
 induction r with
 | nil=>trivial
 | @cons p q j c h t i =>
  obtain⟨d,_,g⟩:=h
  by_cases e:p.1=k
  ·have b:atKey (q::c) k=some q.2:=by simp[atKey,(d.symm.trans e)]
   rw[Nj e,b];exact g
  ·have f:¬ q.1=k:=λz=>e (d.trans z)
   have b:atKey (q::c) k=atKey c k:=by simp[atKey,f]
   rw[Jg e];grind
def KT.repl (r:KT H a xs) (k:t6) (d:RelV y u) :
 KT H (a.map λb=>if b.1=k then (b.1,y) else b) (xs.map (putAt k u)):=by
 induction r with
 | nil=>exact .nil
 | @cons p q e f h t c =>
  refine .cons ?_ c
  unfold putAt
  grind
def KT.put (r:KT H a xs) (k:t6) (hb:KAt H k b) (c:RelV y u) :
 KT H (putK a k y) (storedH xs k b u):=by
 have e:(a.any λd=>decide (d.1=k))=(atKey xs k).isSome:=by
  rw[Qx,(r.val k).isSome_eq,Option.isSome_map]
 unfold putK storedH;rw[e]
 by_cases q:(atKey xs k).isSome=true
 ·rw[if_pos q,if_pos q];exact r.repl k c
 ·rw[if_neg q,if_neg q];exact Paired.snoc r ⟨rfl,hb,c⟩
def KT.keeps (r:KT H a xs) (ht:∀b ys,H b=some (.tup ys)->H' b=some (.tup ys)):KT H' a xs :=
 Paired.mapP r λ_ _ z=>⟨z.1,z.2.1.stay ht,z.2.2⟩
section
variable {P:u6}{w:World}{H:Hp}{h:Heap}{a:Addr}
def Gj (b:HOk P w H h) (e:Rd H a u):zE P w H h a u:=e.ok b
def A2h (c:HOk P w H h) (e:Rd H a (.dK b)):b.length<=sizeLine/\(a==sysModules)=false/\∃vs,KV b vs/\h.DictOf (Dj P w) a vs :=
 show zE P w H h a _ from Gj c e
def B5f (c:HOk P w H h) (e:H a=some (.dK b)):b.length<=sizeLine/\(a==sysModules)=false/\∃vs,KV b vs/\h.DictOf (Dj P w) a vs:=A2h c (.inl e)
mutual
def Zg (ok:HOk P w H h):∀{d:t6}{v:V}{u:Value},KTr H d v->RelV v u->∃as,Reads h u d as
 | .none,_,u=>λe r=>by
  cases (show _=V.non from e)
  cases (show u=Value.none from r)
  exact⟨_,.none⟩
 | .int i,_,u=>λe r=>by
  cases (show _=V.int i from e)
  obtain⟨t,rfl⟩:=r;exact⟨_,.int i t⟩
 | .str x,_,u=>λe r=>by
  cases (show _=V.str x from e)
  obtain⟨t,rfl⟩:=r;exact⟨_,.str x t⟩
 | .tuple ds,_,u=>λe r=>by
  obtain⟨a,vs,rfl,ha,t⟩:=e
  cases (show u=Value.ref a from r)
  obtain⟨z,its,rv,o,e,c,⟨n,dt⟩,_⟩:=ok a _ ha;obtain⟨as,q⟩:=Xl ok t rv
  exact⟨_,.tuple e c dt (by simpa using q)⟩
 | .bool _,_,_=>λe _=>False.elim e
 | .list _,_,_=>λe _=>False.elim e
 | .dict _,_,_=>λe _=>False.elim e
def Xl (ok:HOk P w H h):∀{ds:w5}{vs:m6}{us:w6},KTrL H ds vs->Vals vs us->∃as,ReadsAll h us ds as
 | [],_,us=>λe r=>by
  cases (show _=[] from e)
  cases r
  exact⟨_,.nil⟩
 | d::ds,_,us=>λe r=>by
  obtain⟨v,vs,rfl,hv,t⟩:=e
  cases r with
  | cons r1 r2 =>
   obtain⟨as,q⟩:=Zg ok hv r1;obtain⟨bs,p⟩:=Xl ok t r2;exact⟨_,.cons q p⟩
end
def Wk (b:HOk P w H h) (e:KAt H k a):(Di P w).is h k a:=⟨e.1,Zg b e.2 (show RelV _ _ from rfl)⟩
def A1y (f:HOk P w H h) (e:Rd H a (.dT b)):b.length<=sizeLine/\(a==sysModules)=false /\
 ∃c,KT H b c/\h.DictOfH (Di P w) a c:=by
 obtain⟨z,y,c,r,o,v,i,j,k,g,s,u⟩:=(show zE P w H h a _ from Gj f e)
 refine⟨z,y,c,r,o,v,i,j,k,g,s,λx d=>?_,u⟩
 have n:∀{l:List _} {m:List _},KT H l m->∀x∈m,(Di P w).is h x.1 x.2.1:=by
  intro l m q
  induction q with
  | nil=>simp_all
  | @cons p q B C D t A =>
   intro x d
   rcases aD.mp d with e | d
   ·exact Wk f (by grind)
   grind
 grind
def Bv8 (c:HOk P w H h) (e:H a=some (.dT b)):b.length<=sizeLine/\(a==sysModules)=false /\
 ∃xs,KT H b xs/\h.DictOfH (Di P w) a xs:=A1y c (.inl e)
end
def Bp5 (H:Hp)(a:Addr)(y:V)(r:Option V):Prop :=
 (∃kvs k,Rd H a (.dK kvs)/\y=kV k/\r=Jm kvs k)\/∃kvs k b,Rd H a (.dT kvs)/\y=.ref b/\KAt H k b/\r=Jm kvs k
def DPut (H:Hp)(a:Addr)(y v:V)(H':Hp):Prop :=
 (∃kvs k,H a=some (.dK kvs)/\y=kV k/\kvs.length<sizeLine/\H'=upd H a (.dK (putK kvs k v))) \/
 ∃kvs k b,H a=some (.dT kvs)/\y=.ref b/\KAt H k b/\kvs.length<sizeLine/\H'=upd H a (.dT (putK kvs k v))
def DPut.t (e:H a=some (.dT c)) (d:KAt H k b) (hl:c.length<sizeLine) :
 DPut H a (.ref b) v (upd H a (.dT (putK c k v))):=.inr ⟨c,k,b,e,rfl,d,hl,rfl⟩
section
variable {X:Cx}{pins:y_}{σ:St}{H:Hp}{s:u_}{a:Addr}{y v:V}{u r:Value}{o:Option V}{A:t_}{E:z_}
def Inv.big (I:Inv X pins σ H s):sysModules<s.heap.objs.size:=by
 exact gQ (by decide) ((I.mod.glob.keeps I.bk).lt)
def U9 (I:Inv X pins σ H s) (e:Mut (H a)) (hs:Heap.SameBut a s.heap h') (he:∃q,h'.get? a=some q) (c:zE X.prog X.w (upd H a ob) h' a ob) :
 Inv X pins σ (upd H a ob) { s with heap:=h',toks:=t' } :=
 I.write e (.inl rfl) (λb q d z=>(hs.2 b d).trans z) he c
def By9 (z:b.length<=sizeLine) (hd:(a==sysModules)=false) (c:KV b vs) (dd:h'.DictOf (Dj P w) a vs) :
 zE P w H' h' a (.dK b):=⟨z,hd,vs,c,dd⟩
def A6i (hu:A.units+9<cLine) (I:Inv X pins σ H s) (g:DPut H a y v H') (C:RelV y u) (D:RelV v r) (h:∀s',Inv X pins σ H' s'->Q () s') :
 wpAny (model X.prog X.w) A (setItem (.ref a) u r) Q E s:=by
 rcases g with ⟨f,k,e,n,l,o⟩ | ⟨f,k,b,e,n,F,l,o⟩
 ·subst n o
  obtain⟨z,w,N,d,m⟩:=B5f I.hok e
  have B:N.length<=sizeLine:=by rw[<- d.length];lia
  have p:(putK f k v).length<=sizeLine:=by have:=Ub f k v;lia
  refine wpAny_setItem_pairs (hsz:=B) (A7p C) m λx i t=>h _ ?_
  have J:∃q,x.get? a=some q:=let ⟨q,_,_,j,_⟩:=i; ⟨q,j⟩
  exact U9 I (by rw[e];trivial) t J (By9 p w (d.put k D) i)
 ·subst n o
  cases (show u=Value.ref b from C)
  obtain⟨z,w,K,d,m⟩:=Bv8 I.hok e
  have B:K.length<=sizeLine:=by rw[<- eG d];grind
  have p:(putK f k v).length<=sizeLine:=by have:=Ub f k v;lia
  refine wpAny_setItem_heap ((A0a hu)) (Wk I.hok F) m λx i t=>h _ ?_
  obtain⟨q,L,M,j,O,P,R,_,S⟩:=i
  refine U9 I (by rw[e];trivial) t ⟨q,j⟩ ⟨p,w,_,(d.put k F D).keeps λc T G=>?_,q,L,M,j,O,P,R,S⟩
  rw[Ag (A6u G e λz=>nomatch z)]
  grind
end
def Bg4 (td ty tv:TE):TS:=λD σ H=>tv σ H λv H1=>td σ H1 λx H2=>ty σ H2 λy H3=>∃a H4,x=.ref a/\DPut H3 a y v H4/\D.nx σ H4
section
variable {X:Cx}{o i e value:Expr}{pos pos':Pos}{td ty tv:TE}
def Bq8 (hu:X.A.units+9<cLine)(ho:PE X o td)(hi:PE X i ty)(hv:PE X value tv)(hs:swapsWith value (some (.Subscript o i pos')) pos.line X.env=pure false) :
 PS X (.Assign [.Subscript o i pos'] value pos) (Bg4 td ty tv):=by
 intro b s e H D I h
 refine wpAny_Assign_Subscript (thn (hv _ s _ H _ I h) λr s1 ⟨v,H1,f,j,k⟩=>thn (ho _ _ _ _ _ f k) λu s2 ⟨x,H2,l,m,d⟩=>thn (hi _ _ _ _ _ l d) λiv s3 ⟨y,H3,p,q,a,n,w,g,t⟩=>?_) hs
 subst w;obtain rfl:u=Value.ref a:=m
 exact A6i hu p g q j λs4 c=>⟨e,n,c,t⟩
end
def Bg7 (h:Heap) (hb:sysModules<h.objs.size):zE P w H (h.push { cls:=.type "dict",data:=.dict #[] }) h.objs.size (.dT []) :=
 ⟨aP _,cV.mpr (aF (aM hb)),[],.nil,_,#[],0,aJ _ rfl,⟨rfl,rfl,rfl⟩,rfl,rfl,eU⟩
def Af7:TE:=λ_ H Q=>∀p,H p=none->Q (.ref p) (upd H p (.dT []))
section
variable {X:Cx}{pos:Pos}
def Be6:PE X (.Dict [] [] pos) Af7:=λa s b H Q I h =>
 wpAny_Dict_empty ⟨.ref _,_,I.laid (λ_ _ q=>aC _ q) (au _) (Bg7 _ I.big),rfl,h _ (I.hok.fresh (au _))⟩
end
structure M1 (X:Cx) (o:Expr) (m:Str) (apos:Pos) (e:Expr) (cpos:Pos):Prop where
 base:attributeBase o m X.env (eval o X.env)=eval o X.env
 few:((backTo cpos (starEach [e] X.env)).all (λx=>!x.1)&&(backToKw cpos (keywordEach [] X.env)).all (λx=>x.1.isSome)
  && decide (([e]:v_).length+([]:List Keyword).length+(if ([]:List Keyword).isEmpty then 0 else 1)<30))=true
 line:(apos.endLine==cpos.line)=true
 trees:backTo cpos (starEach [e] X.env)=[(false,eval e X.env)]
structure M2 (X:Cx) (o:Expr) (m:Str) (apos:Pos) (e f:Expr) (cpos:Pos):Prop where
 base:attributeBase o m X.env (eval o X.env)=eval o X.env
 few:((backTo cpos (starEach [e,f] X.env)).all (λx=>!x.1)&&(backToKw cpos (keywordEach [] X.env)).all (λx=>x.1.isSome)
  && decide (([e,f]:v_).length+([]:List Keyword).length+(if ([]:List Keyword).isEmpty then 0 else 1)<30))=true
 line:(apos.endLine==cpos.line)=true
 trees:backTo cpos (starEach [e,f] X.env)=[(false,eval e X.env),(false,eval f X.env)]
def IsD (H:Hp)(a:Addr):Prop:=(∃kvs,Rd H a (.dK kvs))\/∃kvs,Rd H a (.dT kvs)
def Wu (I:Inv X pins k H s) (d:IsD H a) :
 s.TypeIs (.ref a) "dict" /\ (∀b,Value.ref a=.ref b->∃c,s.heap.get? b=some c/\c.dict=none)/\(a==sysModules)=false:=by
 rcases d with ⟨g,e⟩ | ⟨g,e⟩
 ·obtain⟨_,h,m,_,f⟩:=A2h I.hok e
  refine⟨f.typeIs,λb q=>?_,h⟩
  cases q
  obtain⟨c,_,_,i,j,_⟩:=f;exact⟨c,i,j.2.1⟩
 ·obtain⟨_,h,l,_,f⟩:=A1y I.hok e
  refine⟨f.typeIs,λb q=>?_,h⟩
  cases q
  obtain⟨c,_,_,i,j,_⟩:=f;exact⟨c,i,j.2.1⟩
section
variable {X:Cx}{pins:y_}{σ:St}{H:Hp}{s:u_}{a:Addr}{y d:V}{u r:Value}{o:Option V}{A:t_}{E:z_}
def By0 {Q:z_}(hu:A.units+9<cLine)(I:Inv X pins σ H s)(g:Bp5 H a y o)(ry:RelV y u)(h:∀w' s',Inv X pins σ H s'->RelV (o.getD .non) w'->Q w' s') :
 wpAny (model X.prog X.w) A (call (.builtin "dict.get") [.ref a,u]) Q E s:=by
 rcases g with ⟨kvs,k,e,ey,l⟩ | ⟨kvs,k,b,e,ey,eb,l⟩
 ·subst ey
  obtain⟨z,hd,vs,rel,dd⟩:=A2h I.hok e
  refine eV fU dd.typeIs iG (PySem.F.args_dict_get_2 _ _) (meets_dict_get (Dj X.prog X.w) a (A7p ry) hd) ⟨_,dd.mapOf,h _ _ (I.tok _) ?_⟩
  rw[l];exact(rel.val k).getD rfl
 ·subst ey
  cases (show u=Value.ref b from ry)
  obtain⟨z,hd,xs,rel,dd⟩:=A1y I.hok e
  refine eV fU dd.typeIs iG (PySem.F.args_dict_get_2 _ _) (meetsH_dict_get (Di X.prog X.w) a b hd) ⟨(show (Di _ _).room _ from A0a hu),k,xs,Wk I.hok eb,dd,h _ _ (I.tok _) ?_⟩
  rw[l];exact(rel.val k).getD rfl
def B2g (hu:A.units+9<cLine) (I:Inv X pins σ H s) (g:Bp5 H a y o) (n:RelV y u) (p:RelV d r) (h:∀w' s',Inv X pins σ H s'->RelV (o.getD d) w'->Q w' s') :
 wpAny (model X.prog X.w) A (call (.builtin "dict.get") [.ref a,u,r]) Q E s:=by
 rcases g with ⟨j,k,e,m,l⟩ | ⟨j,k,b,e,m,t,l⟩
 ·subst m
  obtain⟨z,i,v,c,f⟩:=A2h I.hok e
  refine eV fU f.typeIs iG (PySem.F.args_dict_get_3 _ _ _) (meets_dict_get_default (Dj X.prog X.w) a (A7p n) i r) ⟨_,f.mapOf,h _ _ (I.tok _) ?_⟩
  rw[l];exact(c.val k).getD p
 ·subst m
  cases n
  obtain⟨z,i,q,c,f⟩:=A1y I.hok e
  refine eV fU f.typeIs iG (PySem.F.args_dict_get_3 _ _ _) (meetsH_dict_get_default _ a b i r) ⟨A0a hu,k,q,Wk I.hok t,f,h _ _ (I.tok _) ?_⟩
  rw[l];exact(c.val k).getD p
end
def B0h (td ty:TE):TE:=λσ H Q=>td σ H λx H1=>∃a,x=.ref a/\IsD H1 a/\ty σ H1 λy H2=>∃o,Bp5 H2 a y o/\Q (o.getD .non) H2
def Ag8 (td ty tx:TE):TE:=λσ H Q=>td σ H λx H1=>∃a,x=.ref a/\IsD H1 a/\ty σ H1 λy H2=>tx σ H2 λz H3=>∃o,Bp5 H3 a y o/\Q (o.getD z) H3
section
variable {X:Cx}{o e f:Expr}{apos cpos:Pos}{td ty tx:TE}
def A8d (hu:X.A.units+9<cLine)(ho:PE X o td)(he:PE X e ty)(m:M1 X o "get" apos e cpos):PE X (.Call (.Attribute o "get" apos) [e] [] cpos) (B0h td ty):=by
 intro pins s σ H Q I h
 refine jn m.base m.few m.line gR fU PySem.F.type_dict_get (thn (ho pins s σ H _ I h) λu s1 ⟨x,H1,I1,rx,a,ex,d,q1⟩=>?_)
 subst ex;obtain rfl:u=Value.ref a:=rx;obtain⟨t1,t2,_⟩:=Wu I1 d
 refine⟨t1,t2,?_⟩
 rw[m.trees]
 refine fQ rfl (gO (dh (thn (he pins s1 σ H1 _ I1 q1) λiv s2 ⟨y,H2,I2,ry,ov,g,q2⟩=>eQ ?_)))
 exact By0 hu I2 g ry λw' s3 I3 rw'=>⟨_,H2,I3,rw',q2⟩
def A6y (hu:X.A.units+9<cLine)(ho:PE X o td)(he:PE X e ty)(hf:PE X f tx)(m:M2 X o "get" apos e f cpos):PE X (.Call (.Attribute o "get" apos) [e,f] [] cpos) (Ag8 td ty tx):=by
 intro c s σ H Q I h
 refine jn m.base m.few m.line gR fU PySem.F.type_dict_get (thn (ho _ s _ H _ I h) λu s1 ⟨x,H1,i,l,a,n,d,p⟩=>?_)
 subst n;obtain rfl:u=Value.ref a:=l;obtain⟨q,r,_⟩:=Wu i d
 refine⟨q,r,?_⟩
 rw[m.trees]
 refine fQ rfl (gO (dh (thn (he _ _ _ _ _ i p) λiv s2 ⟨y,H2,j,k,v⟩ =>
  dh (thn (hf _ _ _ _ _ j v) λfv s3 ⟨z,w,t,B,ov,g,A⟩=>eQ ?_))))
 exact B2g hu t g k B λw' s4 C b=>⟨_,w,C,b,A⟩
end
end L2
namespace Att
open PySem PySem.W PySem.Calls PyProof.Rows
def Ur : ∀(ns:List Int) (vs:w6),WellAll P h vs (ns.map WData.int)->IntsAre vs ns:=by
 intro ns
 induction ns with
 | nil =>
  intro vs w
  cases w
  exact .nil
 | cons n ns c =>
  intro vs w
  cases w with
  | cons a b =>
   cases a
   exact .cons _ _ (c _ b)
def A4d {l:OpenLaw} (hn:l.most=some n)
 (hpre:l.row.toRowW.claim.pre args=true) (hwl:WellAll P h vals args) :
 ∃a vs ns,vals=[Value.ref a]/\args=[WData.list (ns.map WData.int)]/\h.get? a=some { cls:=.type "list",data:=.seq vs.toArray }/\IntsAre vs ns/\ns.length<=n:=by
 have hsh:WShape.hasAll [] args [.list .int]=true:=(pre_splitW hpre).1;have hc:l.pre.holds [] { args:=args }=true:=(pre_splitW hpre).2;obtain⟨d,r,rfl,h1,h2⟩:=hasAllW_cons hsh;obtain rfl:=hasAllW_nil h2;obtain⟨xs,rfl,h3⟩:=hasW_list h1;obtain⟨ns,rfl⟩:=items_int h3
 have hlen:ns.length<=n:=by
  unfold OpenLaw.pre at hc
  have h4:(WTm.not (.lt (.lit (.int (n:Int))) (.len (.arg 0)))).holds [] { args:=[.list (ns.map .int)] }=true:=by
   have h4:=(holds_andW hc).1;rw[hn]at h4;exact h4
  have h5:=condW_of h4 (w_not (w_lt w_lit (w_len_list (w_arg rfl))));rw[aq]at h5
  refine jo λq=>?_
  have q':(n:Int)<((ns.length:Nat):Int):=by lia
  first
   | (rw[aO q']at h5;exact absurd h5 (by decide))
   | (simp at h5;lia)
 cases hwl with
 | cons w1 w2 =>
  cases w2
  cases w1 with
  | list ho hall=>exact⟨_,_,ns,rfl,rfl,ho,Ur ns _ hall,hlen⟩
def A4l (l:OpenLaw)(args:List WData):l.row.toRowW.claim.post args (.bool true) args=true :=
 postW_of
  (show WShape.has _ _ _=true by rfl)
  (show (WTm.eq _ _).value _ _=some _ from w_eq_bool (w_res rfl) w_lit) rfl
def Ar2 {l:OpenLaw}
 (hn:l.most=some n) (t:d.params.defaults=[])
 (i:∀(w:World) (c b:u_) (mg B:x_) (fa:Addr) (o:Obj) (z v h:Value) (a:Addr) (vs:w6) (ns:List Int),
  Ground q loose [] XP w c mg B b.heap->YP w b.heap ->
  b.heap.get? fa=some o->o.data=.func (docDef d.name d.params d.body d.scope z v h)->b.heap.CodeRec v d.name->mg d.name=some (.ref fa) ->
  b.heap.get? a=some { cls:=.type "list",data:=.seq vs.toArray }->IntsAre vs ns->ns.length<=n->b.gens=#[] ->
  codeAny (model l.prog w) callerA (.call (.ref fa) ⟨[.ref a],[]⟩) (λr s'=>r=.ok (.ret (.bool true))/\OldK b.heap s'.heap/\s'.os=b.os/\AllBare s'.gens) b) :
 WalkO q loose XP YP l.row.toRowW d [] (λf vs=>PySem.call f vs):=by
 intro w c b mg B G Y fa o z v h M H J K u C m D x A as g y F p I;obtain rfl:M=.none:=Dflts.none C t;obtain rfl:H=.none:=Dflts.noKw C;obtain⟨a,vs,ns,rfl,rfl,j,e,k⟩:=A4d hn g p
 refine enter_call (fM (i w _ _ _ _ _ o _ _ _ a _ _ G Y J (fd_plain K) u m j e k D) λr s' N=>?_)
 obtain⟨rfl,L,O,P⟩:=N
 exact⟨.inl ⟨.bool _,.bool _,[],rfl,λ_=>rfl,.bool _,A4l l _,λ_=>⟨List.Pairwise.nil,λ_ E=>nomatch E⟩⟩,L,O,P⟩
end Att
namespace L2
open PySem PySem.Spec PyProof.Rows
def Zk:∀{vs:w6}{ns:List Int},IntsAre vs ns->Vals (ns.map V.int) vs
 | _,_,.nil=>.nil
 | _,_,.cons n t h=>.cons ⟨t,rfl⟩ (Zk h)
noncomputable def Jp (s:Stmt):Arguments:=match s with
 | .FunctionDef _ a _ _ _ _ _ _ _ _=>a
 | _=>{ posonlyargs:=[],args:=[],vararg:=none,kwonlyargs:=[],kw_defaults:=[],kwarg:=none,defaults:=[] }
noncomputable def Cz (s:Stmt):List Stmt:=match s with
 | .FunctionDef _ _ b _ _ _ _ _ _ _=>b
 | _=>[]
noncomputable def Ah (s:Stmt):Scope:=match s with
 | .FunctionDef _ _ _ _ _ _ sc _ _ _=>sc
 | _=>{ kind:=.function,names:=[],isGenerator:=false,isCoroutine:=false }
noncomputable abbrev CX0:CXT:=λ_ _ _ _ _ _=>False
abbrev E0:XK:=λ_ _ _=>False
def B4n : Ms CX0 X E0:=λ_ _ _ _ _ _ _ h=>h.elim
structure Fun (K:v9) (x qual:Str) (st:Stmt) (f:Addr) (fd:u5):Prop where
 ex:∃(oc:Value) (od:Option Addr) (kV doc pm:Value) (an:Option Addr) (cdv ct:Value) (osl:Array (u9)),
  fd=PySem.W.fnOf x qual (Jp st) (Cz st) (Ah st) .none kV doc pm an cdv ct/\K.lookup f=some ⟨oc,od,.func fd,osl⟩/\PySem.W.codeIn K cdv qual=true
 kp:PySem.W.keepIn K (.ref f)=true
section
variable {P:u6}{w:World}{K:v9}{mg:x_}{base:Heap}
def Fun.ok {st:Stmt} (F:Fun K x qual st f i) (S:Ay N ps (Ah st)) (g:∀vs H Q E,sp vs H Q E->vs.length=ps.length)
 (b:∀(c:Value) (A:t_) (a:List Env) (s:u_) (H:Hp) (vs:m6) (Q:VK) (E:XK),Room k (A.deeper (envOfC qual (Ah st) s.heap.objs.size f c))->sp vs H Q E ->
  ∃t,PSs (Jo CX0 P w K mg base N qual (Ah st) f c A a s H E).nox (Cz st) t/\t { nx:=λ_ H'=>Q .non H',rt:=Q } (start N vs) H):FnOk P w K mg base CX0 (k+1) f i ps sp:=by
 obtain⟨oc,od,kV,l,pm,an,c,ct,j,rfl,m,e⟩:=F.ex
 refine A0c m e S g λA a s H vs Q E n d=>?_
 obtain⟨t,h,q⟩:=b _ A _ s H _ Q E n d;exact⟨t,h.nox,q⟩
def Fun.binds {st:Stmt} (F:Fun K x qual st f d)
 (h:∀(i b e:Value) (g:Option Addr) (a c:Value) (us:w6),us.length=ps.length->bindArgs (PySem.W.fnOf x qual (Jp st) (Cz st) (Ah st) .none i b e g a c) ⟨us,[]⟩=pure (ps.zip us)):Binds K d ps []:=by
 obtain⟨oc,od,i,b,e,g,a,c,k,rfl,lk,j⟩:=F.ex;exact .all (h _ _ _ _ _ _)
end
section
variable {X:Cx}
def pv (i:Nat) {a:Pos}(hN:X.N[i]?=some x:=by rfl) (hv:Vis X.env.scope x:=by first | exact Or.inl rfl | exact Or.inr (Or.inl rfl) | exact Or.inr (Or.inr rfl)) (hd:(x==("__debug__" : Str))=false:=by decide)
 (hcd:(x==("__classdict__" : Str))=false:=by decide):PE X (.Name x a) (Rw i):=Ae1 hN hv hd hcd
end
def Same (H H':Hp):Prop:=∀b o,H b=some o->H' b=some o
def Same.refl (H:Hp):Same H H:=λ_ _ h=>h
def Same.trans (a:Same H e) (b:Same e d):Same H d:=λc o h=>b c o (a c o h)
def Same.free (e:Same H H') (h:H' l=Option.none):H l=Option.none:=by
 cases q:H l with
 | none=>rfl
 | some o =>
  rw[e l o q]at h
  grind
def Same.seq {K:v9} (e:Same H H') (h:SqL K H a xs):SqL K H' a xs:=by
 rcases h with (h | ⟨o,h⟩) | h
 ·exact .inl (.inl (e _ _ h))
 ·exact .inl (.inr ⟨o,e _ _ h⟩)
 ·exact .inr h
end L2
set_option maxHeartbeats 4000000
namespace L2
open PySem PySem.Spec PyProof.Rows
noncomputable abbrev Ei (X:Cx) (N':v4) (scope:Scope) (cl:List (Str×Addr)) (C:Addr) (s₀:u_) (H₀:Hp) (ex:v6):Cx :=
 { X with N:=N',env:=compEnvC scope cl C X.env,s₀:=s₀,H₀:=H₀,outer:=X.stack,stack:=X.stack,ex:=ex,fn:=λx=>decide (scope.names.lookup x=some .local\/scope.names.lookup x=some .cell),pn:=[],xe:=λ_ _=>False }
noncomputable def cst (idx:p_) (σ:St):St:=idx.map λo=>o.bind λi=>(σ[i]?).join
structure Ik (X:Cx) (N':v4) (idx:p_) (scope:Scope):Prop where
 kind:scope.kind=.function
 nod:(scope.names.map (·.1)).Nodup
 free:∀y∈scope.names,y.2=.free->X.env.kindOf y.1=some .cell\/X.env.kindOf y.1=some .free
 len:idx.length=N'.length
 at':∀(j i:Nat) (x:Str),N'[j]?=some x->idx[j]?=some (some i)->X.N[i]?=some x/\scope.names.lookup x=some .free
structure Ww (X:Cx) (N':v4) (idx:p_) (scope:Scope):Prop extends Ik X N' idx scope where
 cell:∀y∈scope.names,y.2≠.cell
def J8 (env:Env):∀(names:List (Str×NameKind)) (acc:List (Str×Addr)),(∀y∈names,y.2=.free->∃c,env.cells.lookup y.1=some c) ->
 ∃
  cl,(forIn names acc λ(p:Str×NameKind) (r:List (Str×Addr))=>(if (p.2==NameKind.free)=true then (do let c <- cellOf env p.1;pure (ForInStep.yield ((p.1,c)::r))) else pure (ForInStep.yield r):Sem (ForInStep (List (Str×Addr)))))=(pure cl:Sem (List (Str×Addr))) /\
  (∀x c,cl.lookup x=some c->acc.lookup x=some c\/(env.cells.lookup x=some c/\(x,NameKind.free)∈names))/\(∀x,((∃c,acc.lookup x=some c)\/(x,NameKind.free)∈names)->∃c,cl.lookup x=some c)
 | [],acc,_=>⟨acc,rfl,λx c e=>.inl e,λx h=>by
  rcases h with h | h
  ·exact h
  ·simp at h⟩
 | (n,k)::r,acc,h=>by
  by_cases hk:k=NameKind.free
  ·subst hk
   obtain⟨c,hc⟩:=h (n,.free) (by simp) rfl
   obtain⟨cl,e,a,b⟩:=J8 env r ((n,c)::acc) λy hy=>h y (bD _ hy)
   refine⟨cl,?_,λx c' e'=>?_,λx hx=>?_⟩
   ·rw[fV]
    simp only[cellOf,hc];exact e
   ·rcases a x c' e' with z | ⟨z1,z2⟩
    ·rw[aU]at z
     split at z
     ·rename_i hxe
      have:x=n:=by simpa using hxe
      subst this
      cases z
      exact .inr ⟨hc,by simp⟩
     ·exact .inl z
    ·exact .inr ⟨z1,bD _ z2⟩
   ·refine b x ?_
    rcases hx with ⟨c',z⟩ | z
    ·left
     rw[aU]
     split
     ·exact⟨_,rfl⟩
     ·exact⟨_,z⟩
    ·rcases aD.mp z with z | z
     ·left
      cases z
      exact⟨c,by simp⟩
     ·exact .inr z
  ·obtain⟨cl,e,a,b⟩:=J8 env r acc λy hy=>h y (bD _ hy)
   refine⟨cl,?_,λx c' e'=>?_,λx hx=>?_⟩
   ·rw[fV]
    have:(k==NameKind.free)=false:=by cases k <;> first | rfl | exact absurd rfl hk
    simp only[this];exact e
   ·rcases a x c' e' with z | ⟨z1,z2⟩
    ·exact .inl z
    ·exact .inr ⟨z1,bD _ z2⟩
   ·refine b x ?_
    rcases hx with z | z
    ·exact .inl z
    ·rcases aD.mp z with z | z
     ·cases z;exact absurd rfl hk
     ·exact .inr z
def P0 (h:∀y∈scope.names,y.2=.free->∃c,env.cells.lookup y.1=some c) :
 ∃d,closureFor scope env=pure d/\(∀x c,d.lookup x=some c->env.cells.lookup x=some c/\(x,NameKind.free)∈scope.names)/\(∀x,(x,NameKind.free)∈scope.names->∃c,d.lookup x=some c):=by
 obtain⟨d,e,a,b⟩:=J8 _ _ [] h
 refine⟨d,?_,λx c g=>?_,λx f=>b x (.inr f)⟩
 ·unfold closureFor
  grind
 simp_all
noncomputable abbrev Bp3 (ifs:v_) (env:Env):Sem Bool:=forIn ifs true λc r=>if r=true then do let ok <- isTrue c env (eval c env);pure (ForInStep.yield ok) else pure (ForInStep.yield r)
def B0s (M:Model)(A:t_)(E:z_)(tg elt:Expr)(ifs:v_)(env:Env)(it acc v:Value)(Z:u_->Prop)(s:u_):Prop :=
 wpAny M A (letOwnedTupleGo tg it v) (λ_ a=>wpAny M A (assign tg env v) (λ_ b=>wpAny M A (Bp3 ifs env) (λok c=>match ok with
  | true=>wpAny M A (eval elt env) (λx d=>wpAny M A (call (.builtin "list.append") [acc,x]) (λ_ z=>Z z) E d) E c
  | false=>Z c) E b) E a) E s
def Bm7 (C:E=notedBy (model P w) A env λx z=>R (.error x) z) (Wd:Nat->u_->Prop)
 (step:∀n z,Wd n z->wpAny (model P w) A (pyNext it) (λr a=>match r with
  | none=>R (.ok .next) a
  | some v=>B0s (model P w) A E o i j env it acc v (λy=>∃m,m<n/\Wd m y) a) E z) (n:Nat) (h:Wd n s) :
 codeAny (model P w) A (.compLoop (.ListComp i [⟨o,f,j,0⟩] p l) 0 it acc env) R s:=by
 subst C
 refine codeAny_loop (I:=Wd) rfl (turn:=?_) n h
 intro k z G
 show wpAny (model P w) A (Sem.onRaise (compTurn (.ListComp i [⟨o,f,j,0⟩] p l) 0 it acc env) λx=>do noteFrame x env;theTreesLotGoes x) _ _ z
 apply wpAny_noted;rw[compTurn_list];apply aj;apply cT;apply aj
 refine aL (step k z G) ?_ λ_ _ q=>q
 rintro (_ | v) a u
 ·exact ak u
 apply aj
 refine aL u ?_ λ_ _ q=>q
 intro _ b D;apply aj
 refine aL D ?_ λ_ _ q=>q
 intro _ c F;apply aj
 refine aL F ?_ λ_ _ q=>q
 rintro (_ | _) d t
 ·exact ak (And.intro rfl t)
 apply aj;apply aj
 refine aL t ?_ λ_ _ q=>q
 intro y e H;apply aj
 refine aL H ?_ λ_ _ q=>q
 intro _ g B;exact ak (ak (And.intro rfl B))
def PTs (X:Cx)(ifs:v_)(t:TT):Prop :=
 ∀
  (pins:y_) (s:u_) (σ:St) (H:Hp) (Q:Bool->Hp->Prop),Inv X pins σ H s->t σ H Q ->
  wpAny (model X.prog X.w) X.A (forIn ifs true λc r=>if r=true then do let ok <- isTrue c X.env (eval c X.env);pure (ForInStep.yield ok) else pure (ForInStep.yield r)) (TP X pins σ Q) X.xe s
structure QTs (X:Cx) (e:(v_)) (t:TT):Prop where
 get:PTs X e t
def Bm9:TT:=λ_ H Q=>Q true H
def Bo9 : PTs X [] Bm9:=λ_ _ _ H _ I h=>wpAny_tests_nil ⟨H,I,h⟩
def Bm4 (h:PT X c t):PTs X [c] t:=λa s b H Q I q=>wpAny_tests_one (h _ s _ H Q I q)
def tLC (idx:p_)(wi:TI)(g:TG)(tc:TT)(te:TE):TE:=λσ H Q=>wi σ H λJ H1 =>
 ∃
  W:Nat->Nat->St->m6->Hp->Prop,(∃m,W 0 m (cst idx σ) [] H1)/\∀i m σ' acc H,W i m σ' acc H ->
  (J.stop i H/\∀p,H p=none->Q (.ref p) (upd H p (.lst acc))) \/
  (J.go i H/\acc.length<sizeLine/\∃N:St->m6->Hp->Prop,(∀σ' acc' H',N σ' acc' H'->∃m',m'<m/\W (i+1) m' σ' acc' H')/\∀x H',J.yld i H x H'->g x σ' H' λσ2 H2=>tc σ2 H2 λb H3 =>
   if b=true then te σ2 H3 λy H4=>N σ2 (acc++[y]) H4 else N σ2 acc H3)
def HOk.track (x:HOk P w H h) (hn:H a=none) (f:zE P w (upd H a o) h a o):HOk P w (upd H a o) h:=λb u e=>by
 by_cases hb:b=a
 ·subst hb;rw[Aq]at e;simp_all
 ·rw[Ag hb]at e
  exact(x b u e).stay (λc v _ q=>q) λc q=>by rw[Ag (Ba q hn)];grind λc d q=>by rw[Ag (Ba q hn)];grind λc g d q=>by rw[Ag (Ba q hn)];grind
def Ih {env:Env}:∀{names:List (Str×NameKind)}{x:Str},names.lookup x=some .free ->
 (names.map λ(n,k)=>if (k==NameKind.free&&env.scope.kind==.function&&env.kindOf n==some .cell) then (n,NameKind.cell) else (n,k)).lookup x=some .free \/
 (names.map λ(n,k)=>if (k==NameKind.free&&env.scope.kind==.function&&env.kindOf n==some .cell) then (n,NameKind.cell) else (n,k)).lookup x=some .cell
 | [],_,h=>by simp at h
 | (n,k)::r,x,h=>by
  have ih:=@Ih env r x;simp only[aG]
  cases hx:x==n with
  | true =>
   simp only[aU,hx]at h
   cases h
   split
   ·right;simp[aU,hx]
   ·left;simp[aU,hx]
  | false =>
   simp only[aU,hx]at h
   split
   ·simp only[aU,hx];exact ih h
   ·simp only[aU,hx];exact ih h
def Lk {env:Env}:∀{names:List (Str×NameKind)}{x:Str}{k:NameKind},
 (names.map λ(n,k)=>if (k==NameKind.free&&env.scope.kind==.function&&env.kindOf n==some .cell) then (n,NameKind.cell) else (n,k)).lookup x=some k ->
 names.lookup x=some k\/(k=.cell/\names.lookup x=some .free)
 | [],_,_,h=>by simp at h
 | (n,k')::r,x,k,h=>by
  have ih:=@Lk env r x k;simp only[aG]at h
  cases hx:x==n with
  | true =>
   by_cases hc:(k'==NameKind.free&&env.scope.kind==.function&&env.kindOf n==some .cell)=true
   ·rw[if_pos hc]at h
    simp only[aU,hx]at h
    cases h
    right
    refine⟨rfl,?_⟩
    simp only[aU,hx]
    have:k'=.free:=by
     simp only[cu]at hc;exact cU hc.1.1
    rw[this]
   ·rw[if_neg hc]at h
    simp only[aU,hx]at h ⊢;exact .inl h
  | false =>
   simp only[aU,hx]
   refine ih ?_
   by_cases hc:(k'==NameKind.free&&env.scope.kind==.function&&env.kindOf n==some .cell)=true
   ·rw[if_pos hc]at h;simpa only[aU,hx] using h
   ·rw[if_neg hc]at h;simpa only[aU,hx] using h
def lookup_mem {α:Type}:∀{l:List (Str×α)}{x:Str}{k:α},l.lookup x=some k->(x,k)∈l
 | [],_,_,h=>by simp at h
 | (n,k')::r,x,k,h=>by
  rw[aU]at h
  split at h
  ·rename_i e
   have:x=n:=by simpa using e
   subst this
   cases h
   simp
  ·exact bD _ (lookup_mem h)
def mem_lookup {α:Type}:∀{l:List (Str×α)}{x:Str}{k:α},(l.map (·.1)).Nodup->(x,k)∈l->l.lookup x=some k
 | [],_,_,_,h=>by simp at h
 | (n,k')::r,x,k,hn,h=>by
  have hn:(n::r.map (·.1)).Nodup:=hn
  obtain⟨h1,h2⟩:=bC.mp hn
  rcases aD.mp h with h | hr
  ·cases h;simp
  ·rw[aU]
   split
   ·rename_i e
    have:x=n:=by simpa using e
    subst this
    exact absurd (show x∈r.map (·.1) from aB.mpr ⟨(x,k),hr,rfl⟩) h1
   ·exact mem_lookup h2 hr
section
variable {X:Cx}{N':v4}{idx:p_}{scope:Scope}
def Bl2 {pins:y_}{σ:St}{H:Hp}{s:u_}{fp:v6}{cl:List (Str×Addr)}{C:Addr}(L:Ik X N' idx scope)(I:Inv X pins σ H s)(hf:∀b∈fp,Jl X pins H b)(hfs:∀b∈fp,b<s.heap.objs.size)
 (hC:s.heap.objs.size<=C) (c1:∀x c,cl.lookup x=some c->(X.env.cells.lookup x=some c/\(x,NameKind.free)∈scope.names)\/(s.heap.objs.size<=c/\(x,NameKind.cell)∈scope.names)) (c2:∀x,((x,NameKind.free)∈scope.names\/(x,NameKind.cell)∈scope.names)->∃c,cl.lookup x=some c) (c3:∀x y c,cl.lookup x=some c->cl.lookup y=some c->x=y) :
 (Ei X N' scope cl C s H fp).Ok where
 mod:=I.ok.mod
 kind:=L.kind
 glob:=I.ok.glob
 blt:=I.ok.blt
 above:=hC
 inj:=c3
 has:=λx h=>by
  refine c2 x ?_
  have h':(relabel scope X.env).names.lookup x=some .cell\/(relabel scope X.env).names.lookup x=some .free:=h
  rcases h' with h | h
  ·rcases Lk h with z | ⟨_,z⟩
   ·exact .inr (lookup_mem z)
   ·exact .inl (lookup_mem z)
  ·rcases Lk h with z | ⟨z,_⟩
   ·exact .inl (lookup_mem z)
   ·cases z
 cab:=λx c hx hc=>by
  have hx':scope.names.lookup x=some .local\/scope.names.lookup x=some .cell:=aZ hx
  rcases c1 x c hc with ⟨_,z⟩ | ⟨z,_⟩
  ·have z:=mem_lookup L.nod z
   rw[z]at hx'
   rcases hx' with hx' | hx' <;> cases hx'
  ·exact z
 hd:=I.ok.hd
 frames:=I.ok.frames
 stk:=.inl rfl
 exf
  := λb hb=>⟨aM (aH (hfs b hb) hC),λx c e=>by
  rcases c1 x c e with ⟨z,_⟩ | ⟨z,_⟩
  ·exact(hf b hb).2.2.2.2.1 x c z
  ·exact bU (aH (hfs b hb) z)⟩
 bs:=I.bs
 bsz:=ao I.ok.bsz I.sz
 noex:=λb o e hb=>by
  rcases (hf b hb).2.2.2.1 with z | z
  ·exact I.ok.noex b o e z
  ·exact absurd (aH (az e) (ao I.ok.bsz z)) (bc _)
 exfs:=λb hb z=>by
  rcases aD.mp (I.stkSub b z) with q | q
  ·exact(hf b hb).2.1 q
  ·exact(hf b hb).2.2.1 q
 funs:=I.stack
 frf:=I.stkFree
 tab:=λp hp=>I.base.tbls p.1 p.2 (I.ok.tab p hp)
def Ba0 {pins:y_}{σ:St}{H:Hp}{s s':u_}{fp:v6}{cl:List (Str×Addr)}{C:Addr}{m:x_}(L:Ik X N' idx scope)(I:Inv X pins σ H s)(hf:∀b∈fp,Jl X pins H b)(hfs:∀b∈fp,b<s.heap.objs.size)
 (hC:s.heap.objs.size<=C) (c1:∀x c,cl.lookup x=some c->(X.env.cells.lookup x=some c/\(x,NameKind.free)∈scope.names)\/(s.heap.objs.size<=c/\(x,NameKind.cell)∈scope.names)) (c2:∀x,((x,NameKind.free)∈scope.names\/(x,NameKind.cell)∈scope.names)->∃c,cl.lookup x=some c) (c3:∀x y c,cl.lookup x=some c->cl.lookup y=some c->x=y) (c4:∀x c,cl.lookup x=some c->(x,NameKind.cell)∈scope.names->s'.heap.IsCell c none)
 (ho:s'.os=s.os) (hg:s'.gens=s.gens) (k:∀b o,s.heap.get? b=some o->s'.heap.get? b=some o) (hn:s'.heap.Ns C m):Inv (Ei X N' scope cl C s H fp) [] (cst idx σ) H s' where
 ok:=Bl2 L I hf hfs hC c1 c2 c3
 os:=ho
 bare:=by rw[hg];exact I.bare
 base:=Un.kept k
 loc:=by
  refine⟨m,hn,λj x v e1 e2 e3=>?_⟩
  obtain⟨m0,hn0,hl⟩:=I.loc
  have e2':(idx.map λo=>o.bind λi=>(σ[i]?).join)[j]?=some (some v):=e2
  rw[bK]at e2'
  cases ei:idx[j]? with
  | none=>rw[ei]at e2';cases e2'
  | some o =>
   rw[ei]at e2';simp only[fG,jq]at e2'
   cases o with
   | none=>cases e2'
   | some i =>
    have e2'':(σ[i]?).join=some v:=e2';obtain⟨hNi,hfr⟩:=L.at' j i x e1 ei
    have hσ:σ[i]?=some (some v):=by
     cases q:σ[i]? with
     | none=>rw[q]at e2'';cases e2''
     | some z=>rw[q]at e2'';rw[show z=some v from e2'']
    have hk:=L.free _ (lookup_mem hfr) rfl
    have hvis:Vis X.env.scope x:=by
     rcases hk with z | z
     ·exact .inr (.inl z)
     ·exact .inr (.inr z)
    obtain⟨u,r,lk⟩:=hl i x v hNi hσ hvis
    refine⟨u,r,.inr ?_⟩
    rcases lk with ⟨z,_⟩ | ⟨_,c,hc,hcl⟩
    ·exfalso
     have z':X.env.kindOf x=some .local:=z
     rcases hk with q | q
     ·rw[show X.env.kindOf x=_ from q]at z';cases z'
     ·rw[show X.env.kindOf x=_ from q]at z';cases z'
    ·obtain⟨c',hc'⟩:=c2 x (.inl (lookup_mem hfr))
     have:c'=c:=by
      rcases c1 x c' hc' with ⟨q,_⟩ | ⟨_,q⟩
      ·rw[hc]at q;exact(bT q).symm
      ·rw[mem_lookup L.nod q]at hfr;cases hfr
     subst this
     refine⟨?_,c',hc',let ⟨o,e,d⟩:=hcl; ⟨o,k _ o e,d⟩⟩
     rcases Ih (env:=X.env) hfr with q | q
     ·exact .inr q
     ·exact .inl q
 cell:=λx c e=>by
  rcases c1 x c e with ⟨q,_⟩ | ⟨_,q⟩
  ·obtain⟨v,z⟩:=I.cell x c q
   exact⟨v,let ⟨o,e,d⟩:=z; ⟨o,k _ o e,d⟩⟩
  ·exact⟨none,c4 x c e q⟩
 free:=I.hok.fresh hC
 freeC:=λx c e=>by
  rcases c1 x c e with ⟨q,_⟩ | ⟨q,_⟩
  ·exact I.freeC x c q
  ·exact I.hok.fresh q
 pin:=λp hp=>by simp at hp
 hok:=I.hok.kept k
 len:=by
  show (idx.map _).length=N'.length
  rw[aq];exact L.len
end
section
variable {X:Cx}{N':v4}{idx:p_}{scope:Scope}{elt tg iter:Expr}{ifs:v_}{pos:Pos}{wi:TI}{g:TG}{tc:TT}{te:TE}
def Qc:∀(names:List (Str×NameKind)) (h:Heap) (acc:List (Str×Addr)),(∀x y c,acc.lookup x=some c->acc.lookup y=some c->x=y)->(∀x c,acc.lookup x=some c->c<h.objs.size) ->
 (∀x c,(cellsFrom h.objs.size names acc).lookup x=some c->acc.lookup x=some c\/(h.objs.size<=c/\(x,NameKind.cell)∈names/\(pushCells h names).IsCell c none)) /\
 (∀x,((∃c,acc.lookup x=some c)\/(x,NameKind.cell)∈names)->∃c,(cellsFrom h.objs.size names acc).lookup x=some c) /\
 (∀x y c,(cellsFrom h.objs.size names acc).lookup x=some c->(cellsFrom h.objs.size names acc).lookup y=some c->x=y)
 | [],h,acc,hi,hl=>by
  refine⟨λx c e=>.inl e,λx z=>?_,hi⟩
  rcases z with z | z
  ·exact z
  ·exact nomatch z
 | (n,k)::r,h,acc,hi,hl=>by
  unfold cellsFrom pushCells
  by_cases hk:(k==NameKind.cell)=true
  ·rw[if_pos hk,if_pos hk]
   have hk':k=.cell:=cU hk;subst hk';have sz:(h.push { cls:=.type "cell",data:=.cell none }).objs.size=h.objs.size+1:=c7 ..
   have ih:=Qc r (h.push { cls:=.type "cell",data:=.cell none }) ((n,h.objs.size)::acc) (λx y c e1 e2=>?_) (λx c e=>?_)
   ·rw[sz]at ih
    obtain⟨i1,i2,i3⟩:=ih
    refine⟨λx c e=>?_,λx z=>?_,i3⟩
    ·rcases i1 x c e with q | ⟨q1,q2,q3⟩
     ·rw[aU]at q
      split at q
      ·rename_i hb
       cases q
       have:x=n:=cU hb;subst this;exact .inr ⟨au _,bV,_,iH _ _ _ _ (aJ _ rfl),rfl⟩
      ·exact .inl q
     ·exact .inr ⟨eX q1,bD _ q2,q3⟩
    ·refine i2 x ?_
     by_cases hx:x=n
     ·subst hx;exact .inl ⟨h.objs.size,by simp⟩
     ·rcases z with ⟨c,z⟩ | z
      ·exact .inl ⟨c,by rw[aU,beq_false_of_ne hx];exact z⟩
      ·rcases aD.mp z with z | z
       ·cases z;exact absurd rfl hx
       ·exact .inr z
   ·rw[aU]at e1 e2
    split at e1
    ·rename_i hb1
     cases e1
     split at e2
     ·rename_i hb2
      exact(cU hb1).trans (cU hb2).symm
     ·exact absurd (hl _ _ e2) (bc _)
    ·split at e2
     ·cases e2
      exact absurd (hl _ _ e1) (bc _)
     ·exact hi x y c e1 e2
   ·rw[sz]
    rw[aU]at e
    split at e
    ·cases e;exact eY _
    ·exact fW (hl x c e)
  ·rw[if_neg hk,if_neg hk]
   have ih:=Qc r h acc hi hl;obtain⟨i1,i2,i3⟩:=ih
   refine⟨λx c e=>?_,λx z=>i2 x ?_,i3⟩
   ·rcases i1 x c e with q | ⟨q1,q2,q3⟩
    ·exact .inl q
    ·exact .inr ⟨q1,bD _ q2,q3⟩
   ·rcases z with z | z
    ·exact .inl z
    ·rcases aD.mp z with z | z
     ·cases z;exact absurd rfl hk
     ·exact .inr z
def Bi9
 (h:Q (newEnv scope s.heap.objs.size a (cellsFrom (s.heap.objs.size+1) scope.names d) qual none .none (some b) builtinsNs) { s with heap:=pushCells (s.heap.push { cls:=.type "dict",data:=.dict #[] }) scope.names }) :
 wpAny M A (newFunctionEnv scope a d [] qual none .none (some b)) Q E s:=by
 refine aj (wpAny_alloc ?_)
 refine aj (wpAny_layCells _ λe f c=>by trivial _ _ _ _ ?_)
 rw[show ({ s with heap:=s.heap.push _ }:u_).heap.objs.size=s.heap.objs.size+1 from c7 ..]
 exact aj (ak (ak h))
def Aq6 {K:List (Str×Addr)} {RR:Value->Addr->Result->u_->Prop}{F:m6->Hp->Prop}
 (L:Ik X N' idx scope) (hc:X.calm=true)
 (hg:∀K C s₀ H₀ ex,PG (Ei X N' scope K C s₀ H₀ ex) tg g) (ht:∀K C s₀ H₀ ex,PTs (Ei X N' scope K C s₀ H₀ ex) ifs tc) (he:∀K C s₀ H₀ ex,PE (Ei X N' scope K C s₀ H₀ ex) elt te)
 (c1:∀x c,K.lookup x=some c->X.env.cells.lookup x=some c/\(x,NameKind.free)∈scope.names) (c2:∀x,(x,NameKind.free)∈scope.names->∃c,K.lookup x=some c)
 (I2:Inv X pins σ R s2) (T:Turn X.prog X.w X.K tg J fp it tn) (st2:tn 0 s2.heap) (f2:∀b∈fp,Jl X pins R b) (W:Nat->Nat->St->m6->Hp->Prop) (w0:∃m,W 0 m (cst idx σ) [] R)
 (turn:∀i m t acc H,W i m t acc H->(J.stop i H/\F acc H) \/
  (J.go i H/\acc.length<sizeLine/\∃N:St->m6->Hp->Prop,(∀t acc' H',N t acc' H'->∃m',m'<m/\W (i+1) m' t acc' H')/\∀x H',J.yld i H x H'->g x t H' λZ R=>tc Z R λb H3 =>
   if b=true then te Z H3 λy H4=>N Z (acc++[y]) H4 else N Z acc H3))
 (hR:∀(D C:Addr) (s':u_) (acc:m6) (a:w6) (n:Nat) (H':Hp) (m:x_),s2.heap.objs.size<=D->s2.heap.objs.size<=C->D≠C->s'.heap.Ns C m->s'.heap.get? D=some { cls:=.type "list",data:=.seq a.toArray n }->Vals acc a->acc.length<=sizeLine ->
  H' D=none->H' C=none->s'.os=s2.os->AllBare s'.gens->Un (frs X.stack) fp R H' s2.heap s'.heap->HOk X.prog X.w H' s'.heap->F acc H'->RR (.ref D) C (.ok .next) s') :
 wpAny (model X.prog X.w) X.A (newList []) (λacc B=>wpAny (model X.prog X.w) X.A (newFunctionEnv scope X.env.globals K [] X.env.qual none .none (some X.env)) (λcenv s₄ =>
  codeAny (model X.prog X.w) X.A (.compStart (.ListComp elt [⟨tg,iter,ifs,0⟩] scope pos) 0 (.ref it) acc { cenv with scope:=relabel scope X.env }) (RR acc cenv.locals) s₄) E B) E s2:=by
 have U:∀b∈fp,b<s2.heap.objs.size:=λb w=>let ⟨o,e,_⟩:=T.obj _ _ st2 b w; az e
 refine bN (Bi9 ?_)
 dsimp only
 generalize hH2:s2.heap.push { cls:=.type "list",dict:=none,data:=.seq ([]:w6).toArray }=G
 have hC:G.objs.size=s2.heap.objs.size+1:=by rw[<- hH2,c7]
 have hDC:s2.heap.objs.size≠G.objs.size:=by rw[hC];exact aM (eY _)
 have A:s2.heap.objs.size<=G.objs.size:=by rw[hC];exact dN _
 obtain⟨j,l⟩:∃j,j=pushCells (G.push { cls:=.type "dict",data:=.dict #[] }) scope.names:=⟨_,rfl⟩;rw[<- l]
 have S:j.Ns G.objs.size (λ_=>none):=by rw[l];exact(Heap.Ns.new G (.type "dict")).keeps (iH _ _)
 have old:∀b o,s2.heap.get? b=some o->j.get? b=some o:=λb o e=>by rw[l];exact iH _ _ b o (aC _ (hH2▸aC _ e))
 have hacc:j.get? s2.heap.objs.size=some { cls:=.type "list",dict:=none,data:=.seq ([]:w6).toArray }:=by rw[l];exact iH _ _ _ _ (aC _ (hH2▸aJ _ rfl))
 have szD:(G.push { cls:=.type "dict",data:=.dict #[] }).objs.size=G.objs.size+1:=c7 ..
 obtain⟨k1,k2,k3⟩:=Qc scope.names (G.push { cls:=.type "dict",data:=.dict #[] }) K (λx y c e1 e2=>I2.ok.inj x y c (c1 x c e1).1 (c1 y c e2).1) (λx c e=>by
  obtain⟨v,o,ho,_⟩:=I2.cell x c (c1 x c e).1
  rw[szD];exact fW (aH (az ho) A))
 rw[szD,<- l]at k1;rw[szD]at k2 k3;obtain⟨cl0,hcl0⟩:∃cl0,cl0=K:=⟨_,rfl⟩;have c1o:=c1;have c2o:=c2;rw[<- hcl0]at k1 k2 k3 c1o c2o;rw[<- hcl0]
 clear c1 c2
 generalize cellsFrom (G.objs.size+1) scope.names cl0=K at k1 k2 k3 ⊢
 have c1:∀x c,K.lookup x=some c->(X.env.cells.lookup x=some c/\(x,NameKind.free)∈scope.names)\/(s2.heap.objs.size<=c/\(x,NameKind.cell)∈scope.names):=λx c e=>by
  rcases k1 x c e with q | ⟨q1,q2,_⟩
  ·exact .inl (c1o x c q)
  ·exact .inr ⟨ao A (eX q1),q2⟩
 have c2:∀x,((x,NameKind.free)∈scope.names\/(x,NameKind.cell)∈scope.names)->∃c,K.lookup x=some c:=λx z=>k2 x (z.imp (λz=>c2o x z) id)
 have c4:∀x c,K.lookup x=some c->(x,NameKind.cell)∈scope.names->j.IsCell c none:=λx c e z=>by
  rcases k1 x c e with q | ⟨_,_,q⟩
  ·have:=mem_lookup L.nod (c1o x c q).2
   rw[mem_lookup L.nod z]at this;cases this
  ·exact q
 let X':Cx:=Ei X N' scope K G.objs.size s2 R fp
 have I1:Inv X' [] (cst idx σ) R { s2 with heap:=j }:=Ba0 L I2 f2 U A c1 c2 k3 c4 rfl rfl old S
 have hD2:R s2.heap.objs.size=none:=I2.hok.fresh (au _)
 have hDfs:s2.heap.objs.size∉X'.fs:=λz=>by
  obtain⟨_,o,ho,_⟩:=I2.stack.mem z;exact absurd (az ho) (bc _)
 have hDfp:s2.heap.objs.size∉fp:=λz=>absurd (U _ z) (bc _)
 have P:∀{H':Hp} {pl:y_},(∀b∈fp,H' b=none)->(∀p∈pl,p.1∉fp)->∀b∈fp,Jl X' pl H' b:=λ{H' pl} hn M b w =>
  ⟨hn b w,aM (aH (U b w) A),λz=>by
   rcases aD.mp (I2.stkSub b z) with q | q
   ·exact(f2 b w).2.1 q
   ·exact(f2 b w).2.2.1 q,.inl w,λx c e=>by
    rcases c1 x c e with ⟨z,_⟩ | ⟨z,_⟩
    ·exact(f2 b w).2.2.2.2.1 x c z
    ·exact bU (aH (U b w) z),λp Q z=>M p (by have hp':p∈[]++pl:=Q;simpa using hp') (z▸w)⟩
 have loop:∀B:u_,B={ s2 with heap:=j } ->
  codeAny (model X.prog X.w) X.A (.compLoop (.ListComp elt [⟨tg,iter,ifs,0⟩] scope pos) 0 (.ref it) (.ref s2.heap.objs.size) (compEnvC scope K G.objs.size X.env)) (RR (.ref s2.heap.objs.size) G.objs.size) B:=by
  rintro B rfl
  obtain⟨m0,w0⟩:=w0
  refine Bm7 rfl (Wd:=λn s'=>∃i t acc a k H',Inv X' [(s2.heap.objs.size,{ cls:=.type "list",data:=.seq a.toArray k })] t H' s'/\Vals acc a/\acc.length<=sizeLine/\tn i s'.heap/\(∀b∈fp,H' b=none)/\W i n t acc H') (step:=?_) m0
   ⟨0,cst idx σ,[],[],0,R,I1.pins_of (λp Q=>?_),.nil,aP _,T.keep _ _ _ st2 λb _ o e=>old b o e,λb w=>(f2 b w).1,w0⟩
  ·rintro n s3 ⟨i,Y,acc,a,k,H3,I3,rv,hz,st3,fr3,w3⟩
   have M:∀p∈[((s2.heap.objs.size,{ cls:=.type "list",data:=.seq a.toArray k }):Addr×Obj)],p.1∉fp:=λp Q=>by
    rcases aN.mp Q with rfl;exact hDfp
   rcases turn i n Y acc H3 w3 with ⟨stop,q⟩ | ⟨go,hlt,N,hN,step⟩
   ·refine aL (T.done X' rfl rfl rfl hc i _ s3 Y H3 (λ_ _=>False) I3 (P fr3 M) st3 stop) (λr s4 ⟨hr,I4⟩=>?_) λ_ _ f=>f.elim
    subst hr;obtain⟨p1,p2,p3,p4,p5⟩:=I4.pin (s2.heap.objs.size,{ cls:=.type "list",data:=.seq a.toArray k }) (aR _ bV);obtain⟨m4,hn4,_⟩:=I4.loc;exact hR _ _ s4 acc a k H3 m4 (au _) A hDC hn4 p1 rv hz p2 I4.free I4.os I4.bare I4.base I4.hok q
   ·refine aL (T.item X' rfl rfl rfl hc i _ s3 Y H3 (λ_ _=>False) I3 (P fr3 M) st3 go) (λr s4 ⟨u,hr,h4⟩=>?_) λ_ _ f=>f.elim
    subst hr
    refine aL h4 (λ_ s5 ⟨x,H5,I5,r5,y5,st5,fr5⟩=>?_) λ_ _ f=>f.elim
    refine aL (hg _ _ _ _ _ _ s5 Y H5 x u _ (I5.pinned (P fr5 M) (T.obj _ _ st5)) r5 (step x H5 y5)) (λ_ s6 ⟨O,H6,I6,q6⟩=>?_) λ_ _ f=>f.elim
    refine aL (ht _ _ _ _ _ _ s6 O H6 _ I6 q6) (λok s7 ⟨H7,I7,q7⟩=>?_) λ_ _ f=>f.elim
    have tnk:∀{t:St} {H':Hp} {s':u_},Inv X' ([(s2.heap.objs.size,{ cls:=.type "list",data:=.seq a.toArray k })]++X6 fp s5.heap) t H' s'->tn (i+1) s'.heap/\∀b∈fp,H' b=none:=λ{t H' s'} I=>by
     refine⟨T.keep _ _ _ st5 λb w o e=>(I.pin (b,o) (aR _ (aR _ (K5 w e)))).1,λb w=>?_⟩
     obtain⟨o,e,d⟩:=T.obj _ _ st5 b w;exact(I.pin (b,o) (aR _ (aR _ (K5 w e)))).2.1
    cases ok with
    | false =>
     rw[if_neg (by decide)]at q7
     obtain⟨m',hm,w7⟩:=hN _ _ _ q7;exact⟨m',hm,i+1,O,acc,a,k,H7,I7.unpinned,rv,hz,(tnk I7).1,(tnk I7).2,w7⟩
    | true =>
     rw[if_pos rfl]at q7
     refine aL (he _ _ _ _ _ _ s7 O H7 _ I7 q7) (λy s8 ⟨yv,H8,I8,r8,q8⟩=>?_) λ_ _ f=>f.elim
     obtain⟨m',hm,w8⟩:=hN _ _ _ q8;obtain⟨p1,p2,p3,p4,p5⟩:=I8.pin (s2.heap.objs.size,{ cls:=.type "list",data:=.seq a.toArray k }) (aR _ bV)
     refine dm PySem.F.slot_list_append ⟨_,p1,rfl⟩ PySem.F.entry_list_append (PySem.F.args_list_append_2 _ _) (PySem.list_append s2.heap.objs.size a.toArray k y (by have:=rv.length;rw[dg];lia)) ⟨p1,?_⟩
     have hz':=rv.length;obtain⟨t8,f8⟩:=tnk I8
     have I8':Inv X' [] O H8 s8:=I8.pins_of λp Q=>nomatch Q
     have q:=PySem.IsL.update p1 (·.push y)
     have e':(a.toArray.push y)=(a++[y]).toArray:=by simp
     rw[e']at q
     obtain⟨k9,q⟩:∃k9,(s8.heap.update s2.heap.objs.size (Obj.mapSeq (·.push y))).get? _=some { cls:=.type _,data:=.seq _ k9 }:=⟨_,q⟩
     have I9:Inv _ _ _ _ { s8 with heap:=s8.heap.update _ (Obj.mapSeq (·.push y)) } :=
      I8'.turned (λb o w e=>(cM _ _ (aF w)).trans e) p2 p3 (.inr (au _)) (λx c e z=>by
       obtain⟨v,o,ho,hd⟩:=I8'.cell x c e
       rw[z,p1]at ho;cases ho;cases hd) (λp Q=>by have hp':p∈([]:List _)++[]:=Q;simp at hp')
     refine⟨m',hm,i+1,O,acc++[yv],a++[y],k9,H8,I9.pins_of λp Q=>?_,rv.append (.cons r8 .nil),by rw[aK,iI];lia,T.keep _ _ _ t8 λb w o e=>(cM _ _ (λz=>hDfp (by rw[z];exact w))).trans e,f8,w8⟩
     rcases aN.mp Q with rfl
     exact⟨q,p2,p3,p4,λv z=>by cases z⟩
  ·rcases aN.mp Q with rfl
   exact⟨hacc,hD2,hDC,hDfs,λv z=>by cases z⟩
 exact codeAny_compStart_list (loop _ rfl) (T.self _ 0 _ _ _ (T.keep _ _ _ st2 λb _ o e=>old b o e) (loop _ rfl))
def B4o (L:Ik X N' idx scope)(hc:X.calm=true)(hi:PI X tg iter wi)
 (hg:∀t C s₀ H₀ ex,PG (Ei X N' scope t C s₀ H₀ ex) tg g) (ht:∀t C s₀ H₀ ex,PTs (Ei X N' scope t C s₀ H₀ ex) ifs tc) (he:∀t C s₀ H₀ ex,PE (Ei X N' scope t C s₀ H₀ ex) elt te)
 (hs:∀x,foldedSetIterable iter X.env x=pure x:=by intro _;rfl) :
 PE X (.ListComp elt [⟨tg,iter,ifs,0⟩] scope pos) (tLC idx wi g tc te):=by
 intro j s Z H Q I h
 obtain⟨t,l,c1,c2⟩:=P0 (env:=X.env) (scope:=scope) λy hy hf=>I.ok.has y.1 (L.free y hy hf)
 rw[eval_ListComp]
 refine wpAny_comprehension_free (use:=none) rfl hs l L.kind (λy hy hl=>mem_lookup L.nod (by grind)) (aL (hi j s Z H _ I h) (λv s1 h1=>aL h1 (λitv V h2=>?_) λ_ _ e=>e) λ_ _ e=>e)
 obtain⟨it,fp,tn,J,H2,rfl,I2,T,M,z,W,w0,A⟩:=h2
 refine Aq6 (F:=λa H=>∀p,H p=none->Q (.ref p) (upd H p (.lst a))) (RR:=λa C=>compPost (model X.prog X.w) X.A X.xe none (EP X j Z Q) a C) L hc hg ht he c1 c2 I2 T M z W w0 A ?_
 intro D C s' a w n N m hD hC O hn P rv hz d hC' ho K i hk q
 refine⟨m,hn,λG f=>?_⟩
 have eD:G.get? D=some { cls:=.type "list",data:=.seq w.toArray n }:=f.extBut _ _ O P
 have S:HOk X.prog X.w N G:=λb u e=>by
  refine (hk b u e).stay (λc v hc q=>f.extBut c v ?_ q) (λ_ q=>q) λ_ _ q=>q
  grind
 have U:HOk X.prog X.w (upd N D (.lst a)) G:=S.track d ⟨hz,w,n,rv,eD⟩
 have k:∀b o,V.heap.get? b=some o->b≠C:=λb o e=>aM (aH (az e) hC)
 have R:∀b o,V.heap.get? b=some o->b≠D:=λb o e=>aM (aH (az e) hD)
 have u2:Un (frs X.stack) fp H2 (upd N D (.lst a)) V.heap G :=
  ⟨
   λb o e r B Y=>f.extBut b o (k b o e) (i.keep b o e r B Y),λb o e r B Y=>let ⟨sl,q⟩:=i.slot b o e r B Y; ⟨sl,f.extBut b _ (k b o e) q⟩,
   λb o e r B=>by rw[Ag (R b o e)];exact i.free b o e r B,λb o e r=>let ⟨o',q⟩:=i.there b o e r; ⟨o',f.extBut b _ (k b o e) q⟩,
   λb xs e=>by rw[Ag (Ba (i.tups b _ e) d)];exact i.tups b _ e,λb o u e=>by rw[Ag (Ba (i.frzs b o u e) d)];exact i.frzs b o u e,
   λb ps e=>by rw[Ag (Ba (i.tbls b _ e) d)];exact i.tbls b _ e⟩
 refine⟨.ref D,upd _ D _,I2.call' ho u2 U K λb E=>⟨(z b E).2.2.2.1,(z b E).2.1,(z b E).2.2.2.2.1,(z b E).2.2.2.2.2⟩,rfl,q D d⟩
end
section
variable {X:Cx}{N':v4}{idx:p_}{scope:Scope}{elt tg iter:Expr}{ifs:v_}{pos:Pos}{wi:TI}{g:TG}{tc:TT}{te:TE}
def Ba5 {K t:Pos}(hN:X.N.Nodup) (hi':X.N[i]?=some y) (hy:Loc X.env.scope y) (L:Ik X N' idx scope) (hc:X.calm=true) (hi:PI X tg iter wi)
 (hg:∀B C s₀ H₀ ex,PG (Ei X N' scope B C s₀ H₀ ex) tg g) (ht:∀B C s₀ H₀ ex,PTs (Ei X N' scope B C s₀ H₀ ex) ifs tc) (he:∀B C s₀ H₀ ex,PE (Ei X N' scope B C s₀ H₀ ex) elt te)
 (hsw:swapsWith (.ListComp elt [⟨tg,iter,ifs,0⟩] scope pos) (some (.Name y K)) t.line X.env=pure true:=by rfl)
 (hf:X.fn y=true\/X.env.scope.names.lookup y=some .local:=by first | exact .inl rfl | exact .inr rfl | assumption)
 (hs:∀x,foldedSetIterable iter X.env x=pure x:=by intro _;rfl) :
 PS X (.Assign [.Name y K] (.ListComp elt [⟨tg,iter,ifs,0⟩] scope pos) t) (Ut (tLC idx wi g tc te) (Gz i)):=by
 intro d s M H j I h
 have h:tLC idx wi g tc te M H λx H1=>j.nx (M.set i (some x)) H1:=h
 obtain⟨B,A,c1,c2⟩:=P0 (env:=X.env) (scope:=scope) λy hy hf=>I.ok.has y.1 (L.free y hy hf)
 rw[exec_Assign_Name_used _ _ _ _ hsw]
 refine aj (cT (aj ?_))
 show wpAny _ X.A (do let _ <- comprehension (.ListComp elt [⟨tg,iter,ifs,0⟩] scope pos) scope X.env _ (newList []) false (eval iter X.env) (some (assign (.Name y K) X.env))) _ _ s
 refine aj (aL (wpAny_comprehension_free (use:=some (assign (.Name y K) X.env)) (Q:=λ_ r=>SP X d j .next r) rfl hs A L.kind (λy hy hl=>mem_lookup L.nod (by rw[<- hl];exact hy))
  (aL (hi d s M H _ I h) (λv s1 h1=>aL h1 (λitv s2 h2=>?_) λ_ _ e=>e) λ_ _ e=>e)) (λ_ r hq=>ak (ak hq)) λ_ _ e=>e)
 obtain⟨it,fp,tn,J,H2,rfl,G,T,U,N,W,w0,O⟩:=h2
 refine Aq6 (F:=λf H=>∀p,H p=none->j.nx (M.set i (some (.ref p))) (upd H p (.lst f))) (RR:=λf C=>compPost (model X.prog X.w) X.A X.xe (some (assign (.Name y K) X.env)) (λ_ r=>SP X d j .next r) f C) L hc hg ht he c1 c2 G T U N W w0 O ?_
 intro D C r f V n Y m hD P Z hn hDo rv hz k hC' ho hg' l hk q;have S:HOk X.prog X.w (upd Y D (.lst f)) r.heap:=hk.track k ⟨hz,V,n,rv,hDo⟩
 have neD:∀b o,s2.heap.get? b=some o->b≠D:=λb o e=>aM (aH (az e) hD)
 have u2:Un (frs X.stack) fp H2 (upd Y D (.lst f)) s2.heap r.heap :=
  ⟨
   l.keep,l.slot,λb o e n1 n2=>by rw[Ag (neD b o e)];exact l.free b o e n1 n2,l.there,
   λb xs e=>by rw[Ag (Ba (l.tups b xs e) k)];exact l.tups b xs e,λb o u e=>by rw[Ag (Ba (l.frzs b o u e) k)];exact l.frzs b o u e,
   λb ps e=>by rw[Ag (Ba (l.tbls b ps e) k)];exact l.tbls b ps e⟩
 have I3:Inv X d M (upd Y D (.lst f)) r:=G.call' ho u2 S hg' (λb E=>⟨(N b E).2.2.2.1,(N b E).2.1,(N b E).2.2.2.2.1,(N b E).2.2.2.2.2⟩)
 have hCL:C≠X.env.locals:=bU (aH G.lt P)
 have hCc:∀x c,X.env.cells.lookup x=some c->c≠C:=λx c e z=>by
  obtain⟨v,w⟩:=G.cell x c e
  exact absurd (aH w.lt (by rw[z];exact P)) (bc _)
 have hCp:∀p∈X.pn++d,p.1≠C:=λp hp z=>absurd (aH (az (G.pin p hp).1) (by rw[z];exact P)) (bc _)
 refine wpAny_assign_Name (Z0 (v:=.ref D) I3 hN hi' hy rfl (λs4 I4 ⟨a,sb,ha⟩=>?_) hf)
 have hCa:C≠a:=by
  grind
 refine⟨m,hn.sameBut sb hCa,λh' R=>?_⟩
 refine⟨_,_,I4.turned (λb o E e=>R.extBut b o E e) ?_ hCL (.inr (ao G.sz P)) hCc hCp,q D k⟩
 rw[Ag (aF Z)];exact hC'
end
section
variable {X:Cx}
noncomputable def O8 (H:Hp):V->Option String
 | .non=>some "NoneType" | .bl _=>some "bool" | .int _=>some "int" | .str _=>some "str"
 | .ref a=>match H a with
  | some (.lst _)=>some "list"
  | some (.tup _)=>some "tuple"
  | some (.dK _)=>some "dict"
  | some (.dT _)=>some "dict"
  | _=>none
 | _=>none
section
variable {X:Cx}{pins:y_}{σ:St}{H:Hp}{s:u_}
def A9u (I:Inv X pins σ H s) (f:RelV x u) (h:O8 H x=some t):∃hp:Heap->Prop,PySem.W.KitX X.K u (.type t) hp/\hp s.heap/\u≠.builtin "__main__.__loader__#opaque" := by
 cases x with
 | non=>cases h;cases (f);exact⟨_,PySem.W.kitx_none,True.intro,λz=>nomatch z⟩
 | bl b=>cases h;cases (f);exact⟨_,PySem.W.kitx_bool,True.intro,λz=>nomatch z⟩
 | int i=>cases h;obtain⟨t,rfl⟩:=f;exact⟨_,PySem.W.kitx_int,True.intro,λz=>nomatch z⟩
 | str y=>cases h;obtain⟨t,rfl⟩:=f;exact⟨_,PySem.W.kitx_str,True.intro,λz=>nomatch z⟩
 | ref a =>
  cases (f)
  have c:∀T,PySem.W.KitX X.K (.ref a) (.type T) (PySem.W.KitAt a T)->PySem.W.KitAt a T s.heap->some T=some t->∃hp:Heap->Prop,PySem.W.KitX X.K (.ref a) (.type t) hp/\hp s.heap/\Value.ref a≠.builtin "__main__.__loader__#opaque" := λT k p q=>by grind
  have h:(match H a with | some (.lst _)=>some _ | some (.tup _)=>some _ | some (.dK _)=>some _ | some (.dT _)=>some _ | _=>none)=some t:=h
  split at h
  ·rename_i l e
   obtain⟨_,_,n,_,d⟩:=(show zE _ _ H _ a _ from I.hok a _ e)
   exact c _ PySem.W.kitx_list ⟨_,d,rfl⟩ h
  ·rename_i l e
   obtain⟨_,_,_,o,d,g,_⟩:=(show zE _ _ H _ a _ from I.hok a _ e)
   exact c _ PySem.W.kitx_tuple ⟨o,d,g⟩ h
  ·rename_i j e
   obtain⟨_,_,vs,_,o,r,m,d,g,_⟩:=(show zE _ _ H _ a _ from I.hok a _ e)
   exact c _ PySem.W.kitx_dict ⟨o,d,g.1⟩ h
  ·rename_i j e
   obtain⟨_,_,l,_,o,r,m,d,g,_⟩:=(show zE _ _ H _ a _ from I.hok a _ e)
   exact c _ PySem.W.kitx_dict ⟨o,d,g.1⟩ h
  grind
 | byt b=>cases h
 | flt b=>cases h
 | ty n=>cases h
end
noncomputable def Eg (t T:String):Option Bool:=if ["NoneType", "bool", "int", "str", "list", "tuple", "dict"].contains t&&["int", "str", "bool", "list", "tuple"].contains T then some (t==T||(t == "bool" && T == "int")) else none
def Am2 {K:v9} (h:Eg t T=some b):PySem.W.kitOne K (.type t) (.type T)=some b:=by
 unfold Eg at h
 split at h
 ·rename_i a
  cases h
  simp only[cu,List.contains_iff_mem,aD,aY,a_]at a;obtain⟨c,d⟩:=a
  rcases c with rfl | rfl | rfl | rfl | rfl | rfl | rfl <;> rcases d with rfl | rfl | rfl | rfl | rfl <;> with_unfolding_all rfl
 ·cases h
def A8t:CallR X (.builtin "isinstance") (λxs H Q=>∃x T t b,xs=[x,.ty T]/\O8 H x=some t/\Eg t T=some b/\Q (.bl b) H):=by
 intro a s σ H xs us Q I r h;obtain⟨x,T,t,b,rfl,f,c,q⟩:=h;obtain⟨u,v,rfl,e,d⟩:=Vals.two r
 cases (d)
 obtain⟨hp,z,p,g⟩:=A9u I e f
 exact PySem.W.kia_one z I.kIn p (Am2 c) g λtk=>⟨.bl b,H,I.tok _,rfl,q⟩
def walk_seq (m:A.handled=none) (I:Inv X pins d H s) (h:SqL X.K H a xs)
 (k:∀(c:w6) (J:Addr) (s2:u_),Vals xs c->Walks X.prog X.w A J [J,a] [J] c.length (λi v=>c[i]?=some v) (λi h=>h.IsListIter J a i/\h.IsList a c.toArray)->s2.heap.IsListIter J a 0/\s2.heap.IsList a c.toArray->(∀b∈[J,a],b<s2.heap.objs.size) ->
  Inv X pins d H s2->(∀f l,(∀b o,b∉[J]->s2.heap.get? b=some o->f.get? b=some o)->Inv X pins d H { s2 with heap:=f,toks:=l })->R (.ref J) s2) :
 wpAny (model X.prog X.w) A (pyIter (.ref a)) R E s:=by
 obtain⟨c,n,p,D⟩:=I.list h
 refine fX p.isList ?_
 have u:a<s.heap.objs.size:=let ⟨_,e,_⟩:=p.isList; az e
 have g:a≠s.heap.objs.size:=aM u;have W:=Walks.list (prog:=X.prog) (w:=X.w) (A:=A) m s.heap.objs.size a g c.toArray;rw[dg]at W
 have j:Inv X pins d H { s with heap:=s.heap.push { cls:=.type "list_iterator",data:=.fields #[.ref a,.int 0 0] } }:=I.kept (t':=s.toks) λb o e=>aC _ e
 refine k c s.heap.objs.size _ n (by simp_all) ⟨⟨_,aJ _ rfl,rfl,rfl⟩,let ⟨o,e,r⟩:=p.isList; ⟨o,aC _ e,r⟩⟩ ?_ j λf l x=>?_
 ·intro b z
  have e:=c7 s.heap { cls:=.type "list_iterator",data:=.fields #[.ref a,.int 0 0] }
  grind
 ·obtain⟨q,B,F,y,C,t⟩:=(I.fpOk (b:=s.heap.objs.size) (au _) (I.hok.fresh (au _)))
  exact j.turned (λb o z e=>x b o (by simp_all) e) q B y C t
def An0 {bs:List Bool}(r:Vals (bs.map V.bl) a):TruthOf X.prog X.w A (λi v=>a[i]?=some v) (λi=>bs.getD i false):=by
 intro i v s Q E c b;have h := (bG.mp c).1
 have g:i<bs.length:=by have:=r.length;simp_all
 obtain⟨u,d,f⟩:=r.get (i:=i) (x:=V.bl bs[i]) (by simp_all)
 rw[c]at d
 cases d
 cases (show v=Value.bool _ from f)
 have e:bs.getD i false=bs[i]:=by simp_all
 have b:Q (bs.getD i _) s:=b;rw[e]at b;exact gC b
def range_all (bs:List Bool):(List.range bs.length).all (λi=>bs.getD i false)=bs.all id:=by
 rw[Bool.eq_iff_iff];simp only[bL,List.mem_range]
 constructor
 ·intro h b d
  obtain⟨i,a,c⟩:=List.getElem_of_mem d
  simp_all
 ·intro h i a
  simpa[a] using h _ (jr _)
def A5p (hc:X.calm=true):CallR X (.builtin "all") (λxs H Q=>∃(a:Addr) (b:List Bool),xs=[.ref a]/\SqL X.K H a (b.map V.bl)/\Q (.bl (b.all id)) H):=by
 intro d s σ H xs us Q I r h;obtain⟨a,b,rfl,i,q⟩:=h;obtain⟨u,rfl,g⟩:=vals1 r
 cases (g)
 refine call_all_walk (walk_seq (I.ok.hd hc) I i λc J s2 f W l hb I2 k=>⟨J,_,_,_,_,_,_,rfl,W,l,An0 f,λh' tk j=>?_⟩)
 have e:c.length=b.length:=by rw[<- f.length,aq]
 rw[e,range_all];exact⟨.bl _,H,k _ _ j,rfl,q⟩
end
mutual
def Tr (H:Hp):t6->V->Prop
 | .none,v=>v=.non
 | .bool b,v=>v=.bl b
 | .int i,v=>v=.int i
 | .str x,v=>v=.str x
 | .list ds,v=>∃a vs,v=.ref a/\H a=some (.lst vs)/\TrL H ds vs
 | .tuple ds,v=>∃a vs,v=.ref a/\H a=some (.tup vs)/\TrL H ds vs
 | .dict _,_=>False
def TrL (H:Hp):w5->m6->Prop
 | [],vs=>vs=[]
 | d::ds,vs=>∃v r,vs=v::r/\Tr H d v/\TrL H ds r
end
def TrL.length {H:Hp}:∀{ds:w5}{vs:m6},TrL H ds vs->ds.length=vs.length
 | [],_,h=>by cases (show _=[] from h);rfl
 | d::ds,_,h=>by
  obtain⟨v,r,rfl,_,t⟩:=h;rw[bW,bW,TrL.length t]
mutual
def Tr.same {H H':Hp}(S:Same H H'):∀{d:t6}{v:V},Tr H d v->Tr H' d v
 | .none,_,h=>h
 | .bool _,_,h=>h
 | .int _,_,h=>h
 | .str _,_,h=>h
 | .list ds,_,⟨a,vs,e,ha,t⟩=>⟨a,vs,e,S _ _ ha,TrL.same S t⟩
 | .tuple ds,_,⟨a,vs,e,ha,t⟩=>⟨a,vs,e,S _ _ ha,TrL.same S t⟩
def TrL.same {H H':Hp}(S:Same H H'):∀{ds:w5}{vs:m6},TrL H ds vs->TrL H' ds vs
 | [],_,h=>h
 | d::ds,_,⟨v,r,e,h,t⟩=>⟨v,r,e,Tr.same S h,TrL.same S t⟩
end
def B7m (H H':Hp):Prop:=∀b xs,H b=some (.tup xs)->H' b=some (.tup xs)
section
variable {X:Cx}{pins:y_}{σ:St}{H:Hp}{s:u_}
mutual
def Tr.reads (I:Inv X pins σ H s):∀{d:t6}{v:V}{u:Value},Tr H d v->RelV v u->∃as,Reads s.heap u d as
 | .none,_,u=>λh r=>by
  cases (show _=V.non from h)
  cases (show u=Value.none from r)
  exact⟨_,.none⟩
 | .bool b,_,u=>λh r=>by
  cases (show _=V.bl b from h)
  cases (show u=Value.bool b from r)
  exact⟨_,.bool b⟩
 | .int i,_,u=>λh r=>by
  cases (show _=V.int i from h)
  obtain⟨t,rfl⟩:=r;exact⟨_,.int i t⟩
 | .str x,_,u=>λh r=>by
  cases (show _=V.str x from h)
  obtain⟨t,rfl⟩:=r;exact⟨_,.str x t⟩
 | .list ds,_,u=>λh r=>by
  obtain⟨a,vs,rfl,ha,t⟩:=h
  cases (show u=Value.ref a from r)
  obtain⟨z,its,n,rv,e⟩:=I.hok a _ ha;obtain⟨as,q⟩:=TrL.reads I t rv
  exact⟨_,.list e rfl rfl (by simpa using q)⟩
 | .tuple ds,_,u=>λh r=>by
  obtain⟨a,vs,rfl,ha,t⟩:=h
  cases (show u=Value.ref a from r)
  obtain⟨z,its,rv,o,e,c,⟨n,dt⟩,_⟩:=I.hok a _ ha;obtain⟨as,q⟩:=TrL.reads I t rv
  exact⟨_,.tuple e c dt (by simpa using q)⟩
 | .dict k,_,u=>λh r=>False.elim h
def TrL.reads (I:Inv X pins σ H s):∀{ds:w5}{vs:m6}{us:w6},TrL H ds vs->Vals vs us->∃as,ReadsAll s.heap us ds as
 | [],_,us=>λh r=>by
  cases (show _=[] from h)
  cases r
  exact⟨_,.nil⟩
 | d::ds,_,us=>λh r=>by
  obtain⟨v,vs,rfl,hv,t⟩:=h
  cases r with
  | cons r1 r2 =>
   obtain⟨as,q⟩:=Tr.reads I hv r1;obtain⟨bs,p⟩:=TrL.reads I t r2;exact⟨_,.cons q p⟩
end
end
def Flat (d:t6):Prop:=d.canLay0=true/\d.depth<=40
section
variable {X:Cx}
def Bx3 (hu:u+64<c) (hb:b<=40):u+min a b<c:=bB (bZ (ao (Nat.min_le_right a b) (ao hb (by decide))) u) hu
def A8w (hu:u+64<c) (hb:b<=40):u+1+min a b<c:=bB (ao (bZ (ao (Nat.min_le_right a b) hb) _) (bZ (show 1+40<=64 by decide) u)) hu
def B1j (hu:X.A.units+64<cLine):OpR X (compareOp .Eq) (λx y H Q=>∃a b,Tr H a x/\Tr H b y/\Flat a/\Flat b/\Q (.bl (PyData.eqv a b)) H):=by
 intro c s n H x y v u Q I g f h;obtain⟨a,b,i,j,k,d,q⟩:=h;obtain⟨m,l⟩:=i.reads I g;obtain⟨o,e⟩:=j.reads I f;exact SeqAt.compareEq_reads l e k.1 d.1 (Bx3 hu d.2) ⟨.bl _,H,I,rfl,q⟩
def B0v (hu:X.A.units+64<cLine):OpR X (compareOp .NotEq) (λx y H Q=>∃a b,Tr H a x/\Tr H b y/\Flat a/\Flat b/\Q (.bl (!PyData.eqv a b)) H):=by
 intro c s n H x y v u Q I g f h;obtain⟨a,b,i,j,k,d,q⟩:=h;obtain⟨m,l⟩:=i.reads I g;obtain⟨o,e⟩:=j.reads I f;exact SeqAt.compareNe_reads l e k.1 d.1 (Bx3 hu d.2) ⟨.bl _,H,I,rfl,q⟩
def Zz (hu:X.A.units+64<cLine):OpR X (compareOp .NotIn) (λx y H Q=>∃d ds,Tr H d x/\(Tr H (.list ds) y\/Tr H (.tuple ds) y)/\Flat d/\PyData.canLayAll0 ds=true/\Q (.bl (!ds.any λe=>PyData.eqv e d)) H):=by
 intro g s σ H x y v u Q I m f h;obtain⟨d,ds,k,a,b,i,q⟩:=h;obtain⟨as,j⟩:=k.reads I m
 rcases a with a | a
 ·obtain⟨l,c⟩:=a.reads I f
  exact SeqAt.notIn_list_reads c j i b.1 (A8w hu b.2) ⟨.bl _,H,I,rfl,q⟩
 ·obtain⟨l,c⟩:=a.reads I f
  exact SeqAt.notIn_tuple_reads c j i b.1 (A8w hu b.2) ⟨.bl _,H,I,rfl,q⟩
def A4x (hu:X.A.units+64<cLine)(hg:X.A.guards=some []):CallR X (.type "str") (λxs H Q=>∃a d,xs=[.ref a]/\Tr H d (.ref a)/\d.showable=true/\d.hasDict=false/\d.depth<=40/\d.shown.length<=sizeLine/\Q (.str d.shown) H):=by
 intro b s σ H xs us Q I r h;obtain⟨a,d,rfl,i,j,h2,h3,g,q⟩:=h;obtain⟨u,rfl,c⟩:=vals1 r
 cases show u=Value.ref a from c
 obtain⟨as,k⟩:=i.reads I c
 exact str_of_reads k j λz=>by simp_all hg (by lia) (λ_ _ e=>e) (λh' t tk f=>⟨.str _,H,I.kept f,⟨t,rfl⟩,q⟩) g
end
mutual
noncomputable def As0 (gt:Bool):t6->t6->Option Bool
 | .int i,.int j=>some (if gt then decide (j<i) else decide (i<j))
 | .str i,.str j=>some (if gt then decide (j.cps.toList<i.cps.toList) else decide (i.cps.toList<j.cps.toList))
 | .tuple xs,.tuple ys=>B5p gt xs ys
 | _,_=>none
noncomputable def B5p (gt:Bool):w5->w5->Option Bool
 | [],[]=>some false
 | [],_::_=>some (!gt)
 | _::_,[]=>some gt
 | x::xs,y::ys=>if PyData.eqv x y=true then B5p gt xs ys else As0 gt x y
end
noncomputable def A5n (H:Hp):V->Option Nat
 | .ref p=>match H p with
  | some (.lst xs)=>some xs.length
  | some (.tup xs)=>some xs.length
  | _=>none
 | .str z=>if z.length<=sizeLine then some z.length else none
 | _=>none
def rAppF:V->m6->Hp->VK->Prop:=λx vs H Q=>∃l y xs,x=.ref l/\vs=[y]/\H l=some (.lst xs)/\xs.length<sizeLine/\Q .non (upd H l (.lst (xs++[y])))
def B2d (K:v9)(tl:TE):TI:=λσ H R=>tl σ H λx H1=>∃a,x=.ref a/\((∃xs,H1 a=some (.lst xs)/\R (Itl K a) H1)\/(∃xs,H1 a=some (.tup xs)/\R (Itt K a) H1))
section
variable {X:Cx}
def A3x:CallR X (.builtin "len") (λxs H Q=>∃x n,xs=[x]/\A5n H x=some n/\Q (.int (n:Nat)) H):=by
 intro a s σ H xs us Q I r h;obtain⟨x,n,rfl,e,q⟩:=h
 refine Ao9 _ s _ H _ _ Q I r ⟨x,n,rfl,?_,q⟩
 cases x with
 | ref p =>
  have e:(match H p with | some (.lst _)=>some _ | some (.tup _)=>some _ | _=>none)=some n:=e
  cases hp:H p with
  | none=>simp_all
  | some o =>
   rw[hp]at e
   cases o with
   | lst xs=>cases e;exact .inl ⟨xs,SqL.of hp,rfl⟩
   | tup xs=>cases e;exact .inr ⟨xs,SqT.of hp,rfl⟩
   | _=>grind
 | str z =>
  have e:(if z.length<=sizeLine then some _ else none)=some n:=e
  split at e
  ·cases e;trivial
  trivial
 | _=>cases e
def Bs7:MtM X "list.append" rAppF:=by
 intro a s j H x k v m Q I e f h;obtain⟨l,y,d,c,g,i,b,q⟩:=h;exact A5g _ s _ H x _ v _ Q I e f ⟨l,d,y,c,g,i,b,q⟩
def By8 (hl:PE X l j):PI X u l (B2d X.K j):=by
 intro k s z H R I h
 refine thn (hl _ s _ H _ I h) λv d ⟨x,m,c,r,f⟩=>?_
 obtain⟨a,e,f⟩:=f;subst e
 cases r
 rcases f with ⟨t,i,q⟩ | ⟨t,i,q⟩
 ·obtain⟨g,w,p,y⟩:=c.list (SqL.of i)
  refine fX p.isList ?_
  refine⟨d.heap.objs.size,[d.heap.objs.size],_,_,m,rfl,c.kept λb o e=>aC _ e,A5m a _,⟨_,aJ _ rfl,rfl,rfl⟩,λb n=>?_,q⟩
  have e:b=d.heap.objs.size:=by grind
  subst e;exact c.fpOk (au _) (c.hok.fresh (au _))
 ·obtain⟨g,w,p,y⟩:=c.tuple (SqT.of i)
  refine dR (show d.heap.IsTuple a _ from p) ?_
  refine⟨d.heap.objs.size,[d.heap.objs.size],_,_,m,rfl,c.kept λb o e=>aC _ e,At3 a _,⟨_,aJ _ rfl,rfl,rfl⟩,λb n=>?_,q⟩
  have e:b=d.heap.objs.size:=by grind
  subst e;exact c.fpOk (au _) (c.hok.fresh (au _))
def La (t:String):List String->Option Bool
 | []=>some false
 | T::r=>match Eg t T with
  | some true=>some true
  | some false=>La t r
  | none=>none
def Vx {K:v9}{t:String}:∀{Ts:List String}{b:Bool},La t Ts=some b->PySem.W.kitAny K (.type t) (Ts.map Value.type)=some b
 | [],b,h=>h
 | T::r,b,h=>by
  have h:(match Eg t T with | some true=>some true | some false=>La t r | none=>none)=some b:=h
  show (match PySem.W.kitOne K (.type t) (.type T) with | some true=>some true | some false=>PySem.W.kitAny K (.type t) (r.map Value.type) | none=>none)=some b
  cases e:Eg t T with
  | none=>rw[e]at h;cases h
  | some k =>
   rw[e]at h;rw[Am2 e]
   cases k with
   | true=>exact h
   | false=>exact Vx h
def Am9:∀{Ts:List String}{us:w6},Vals (Ts.map V.ty) us->us=Ts.map Value.type
 | [],_,.nil=>rfl
 | T::r,_,.cons h t=>by
  cases (show _=Value.type T from h)
  rw[Am9 t]
  rfl
def A3f:CallR X (.builtin "isinstance") (λxs H Q=>∃x p a t b,xs=[x,.ref p]/\H p=some (.tup (a.map V.ty))/\O8 H x=some t/\La t a=some b/\Q (.bl b) H):=by
 intro e s σ H xs us Q I r h;obtain⟨x,p,a,t,b,rfl,d,E,j,q⟩:=h;obtain⟨u,v,rfl,k,l⟩:=Vals.two r
 cases (l)
 obtain⟨z,m,w,o,y,A,⟨n,B⟩,C⟩:=I.hok p _ d;have D:=Am9 w;subst D;obtain⟨F,dd,f,sl⟩:=o;subst A B
 have c:∀g,EP X _ _ Q _ { s with toks:=g }:=λg=>⟨.bl b,H,I.tok _,rfl,q⟩
 obtain⟨d,z,p,i⟩:=A9u I k E;exact PySem.W.kia_tup z I.kIn p y (Vx j) i c
end
def B2i:bootBuiltins "len" = some (.builtin "len"):=by decide +kernel
def B3d:bootBuiltins "abs" = some (.builtin "abs"):=by decide +kernel
def Hj:bootBuiltins "isinstance" = some (.builtin "isinstance"):=by decide +kernel
def B2w:bootBuiltins "all" = some (.builtin "all"):=by decide +kernel
def B0n:bootBuiltins "min" = some (.builtin "min"):=by decide +kernel
def Bh0:bootBuiltins "int" = some (.type "int"):=by decide +kernel
def Aa8:bootBuiltins "str" = some (.type "str"):=by decide +kernel
def Ah1:bootBuiltins "bool" = some (.type "bool"):=by decide +kernel
def U7:bootBuiltins "list" = some (.type "list"):=by decide +kernel
def Kp:bootBuiltins "tuple" = some (.type "tuple"):=by decide +kernel
def Cm {X:Cx}{N':v4}{idx:p_}{scope:Scope}(h1:scope.kind=.function:=by exact rfl)(h3:(scope.names.map (·.1)).Nodup:=by decide +kernel)
 (h4:(scope.names.all λy=>decide (y.2≠.free)||decide (X.env.kindOf y.1=some .cell)||decide (X.env.kindOf y.1=some .free))=true:=by exact rfl) (h5:idx.length=N'.length:=by exact rfl)
 (h6:((idx.zip N').all λp=>match p.1 with | none=>true | some i=>decide (X.N[i]?=some p.2)&&decide (scope.names.lookup p.2=some .free))=true:=by exact rfl):Ik X N' idx scope where
 kind:=h1
 nod:=h3
 free:=λy hy hf=>by
  have h:=bL.mp h4 y hy;simp only[Bool.or_eq_true,fY]at h
  rcases h with (h | h) | h
  ·exact absurd hf h
  ·exact .inl h
  ·exact .inr h
 len:=h5
 at':=λj i x e1 e2=>by
  have hz:(some i,x)∈idx.zip N':=by
   have:(idx.zip N')[j]?=some (some i,x):=by simp[jt,e1,e2]
   exact bh this
  have h:=bL.mp h6 _ hz;simp only[cu,fY]at h;exact h
noncomputable def Yb:Expr->Option V
 | .Constant (.int i) _ _=>some (.int i)
 | .Constant (.str x) _ _=>some (.str x)
 | .Constant (.bool b) _ _=>some (.bl b)
 | .Constant .none _ _=>some .non
 | _=>none
def Sd:v_->Option (m6)
 | []=>some []
 | e::es=>match Yb e,Sd es with
  | some v,some vs=>some (v::vs)
  | _,_=>none
def tK (vs:m6):TA:=λ_ H Q=>Q vs H
def Be8 (h:Yb e=some v):PE X e (tC v)/\∀es,starEach (e::es) X.env=(false,eval e X.env)::starEach es X.env:=by
 unfold Yb at h
 split at h <;> first
  | (cases h;exact⟨A8l,λ_=>rfl⟩)
  | (cases h;exact⟨Bc9,λ_=>rfl⟩)
  | (cases h;exact⟨Bw8,λ_=>rfl⟩)
  | (cases h;exact⟨A7q,λ_=>rfl⟩)
  | cases h
def Z2 {X:Cx}:∀{es:v_}{vs:m6},Sd es=some vs->PA X es (tK vs)
 | [],vs,h=>by cases h;exact Ab2
 | e::es,vs,h=>by
  have h:(match Yb e,Sd es with | some v,some vs=>some (v::vs) | _,_=>none)=some vs:=h
  cases e1:Yb e with
  | none=>rw[e1]at h;cases h
  | some v =>
   cases e2:Sd es with
   | none=>rw[e1,e2]at h;cases h
   | some r =>
    rw[e1,e2]at h
    cases h
    obtain⟨p1,p2⟩:=Be8 (X:=X) e1;exact A1g p1 (Z2 e2) (p2 es)
noncomputable def isStar:Expr->Bool
 | .Starred ..=>true
 | _=>false
def noStar:v_->Bool
 | []=>true
 | e::es=>!isStar e&&noStar es
def Ez (h:isStar e=false):starEach (e::es) env=(false,eval e env)::starEach es env:=by
 cases e <;> first | rfl | cases h
def Lg {pos:Pos}{env:Env}:∀{es:v_},noStar es=true->(backTo pos (starEach es env)).any (·.1)=false
 | [],_=>rfl
 | e::es,h=>by
  obtain⟨h1,h2⟩:=aA.mp h
  rw[Ez (by simpa using h1)]
  show (false||(backTo pos (starEach es env)).any (·.1))=false
  rw[Lg h2]
  rfl
def Gg (h:noStar (e::es)=true):isStar e=false/\noStar es=true:=by
 obtain⟨b,a⟩:=aA.mp h
 simp_all
section
variable {X:Cx}{CX:CXT}{k:Nat}{f:Addr}{fd:u5}{ps:v4}{sp:Sp}{dvs:m6}{ds:w6}{E:XK}{x:Str}{p pos:Pos}{e:Expr}{es:v_}{te:TE}{t:TA}{id T:String}{r:m6->Hp->VK->Prop}
def B2s (ha:PE X e te)(hr:PA X es t)(hs:isStar e=false:=by rfl):PA X (e::es) (Bv te t):=A1g ha hr (Ez hs)
def Bd8 (F:FnOk X.prog X.w X.K X.mg X.base CX k f fd ps sp)(hr:Room k X.A)(hg:Gl X x)(hm:X.mg x=some (.ref f))(hk:PySem.W.keepIn X.K (.ref f)=true)(hb:Binds X.K fd ps ds)(hd:Vals dvs ds)(hx:Ms CX X E)
 (ha:PA X (e::es) t) (hdb:(x==("__debug__" : Str))=false:=by decide) (hn:noStar (e::es)=true:=by rfl):PE X (.Call (.Name x p) (e::es) [] pos) (Pa sp dvs E t) :=
 Bj6 F hr hg hm hk hb hd hx ha hdb (Ez (Gg hn).1) (Lg (Gg hn).2)
def Gb (hc:CallR X (.builtin id) r)(hg:Gl X x)(hm:X.mg x=none)(hv:bootBuiltins x=some (.builtin id))(ha:PA X (e::es) t)(hn:x ≠ "__name__" := by decide) (hdb:(x==("__debug__" : Str))=false:=by decide)
 (hns:noStar (e::es)=true:=by rfl):PE X (.Call (.Name x p) (e::es) [] pos) (tCB r t):=A7b hc hg hm hv ha hn hdb (Ez (Gg hns).1) (Lg (Gg hns).2)
def Ly (hc:CallR X (.type T) r)(hg:Gl X x)(hm:X.mg x=none)(hv:bootBuiltins x=some (.type T))(ha:PA X (e::es) t)(hn:x ≠ "__name__" := by decide) (hdb:(x==("__debug__" : Str))=false:=by decide)
 (hns:noStar (e::es)=true:=by rfl):PE X (.Call (.Name x p) (e::es) [] pos) (tCB r t):=A3g hc hg hm hv ha hn hdb (Ez (Gg hns).1) (Lg (Gg hns).2)
end
section
variable {X:Cx}{a b e:Expr}{es:v_}{ta tb te:TE}{t:TA}{p pos apos cpos:Pos}
def Ep {b:List Keyword}{a:Pos}:N8 (.Call f args b a):=λ_ _=>rfl
def Qa {a:Pos}:N8 (.Name x a):=λ_ _=>rfl
def Ao {a:Pos}:N8 (.Constant (.int i) j a):=λ_ _=>rfl
def A2z : N8 (.Subscript a b c):=λ_ _=>rfl
def Gi (ha:QE X a ta)(hb:QE X b tb):QE X (.BinOp a .Sub b pos) (tOp (rI0 λi j=>.int (i-j)) ta tb):=⟨Xg B3a ha.1 hb.1⟩
def Iw (ha:QE X a ta)(hb:QE X b tb):QE X (.BinOp a .Mult b pos) (tOp (rI CMul λi j=>.int (i*j)) ta tb):=⟨Xg B0a ha.1 hb.1⟩
def W7 (ha:QE X a ta)(hb:QE X b tb):QE X (.BinOp a .FloorDiv b pos) (tOp (rI Bn5 λi j=>.int (i / j)) ta tb):=⟨Xg Bi2 ha.1 hb.1⟩
def G8 (ha:QE X a ta)(hb:QE X b tb):QE X (.BinOp a .Mod b pos) (tOp (rI (λ_ j=>0<j) λi j=>.int (i % j)) ta tb):=⟨Xg B2v ha.1 hb.1⟩
def Io (ha:QE X a ta)(hb:QE X b tb):QE X (.BinOp a .Pow b pos) (tOp (rI Bl8 λi j=>.int (i ^ j.toNat)) ta tb):=⟨Xg B1y ha.1 hb.1⟩
def Zq (ha:QE X a ta)(hb:QE X b tb):QE X (.BinOp a .Mult b pos) (tOp (B1t) ta tb):=⟨Xg B1p ha.1 hb.1⟩
def B7k:R2:=λx y H Q=>∃da db,Tr H da x/\Tr H db y/\Flat da/\Flat db/\Q (.bl (PyData.eqv da db)) H
def B7d:R2:=λx y H Q=>∃da db,Tr H da x/\Tr H db y/\Flat da/\Flat db/\Q (.bl (!PyData.eqv da db)) H
def Ai4 (ha:QE X a ta)(hb:QE X b tb):QT X (.Compare a [.Lt] [b] pos) (O6 (tOp (rI0 λi j=>.bl (decide (i<j))) ta tb)):=⟨Jq B6m ha.1 hb.1 (M3 _)⟩
def Qz (ha:QE X a ta)(hb:QE X b tb):QT X (.Compare a [.Gt] [b] pos) (O6 (tOp (rI0 λi j=>.bl (decide (j<i))) ta tb)):=⟨Jq B4s ha.1 hb.1 (M3 _)⟩
def A7o (ha:QE X a ta)(hb:QE X b tb):QE X (.Compare a [.GtE] [b] pos) (tOp (rI0 λi j=>.bl (decide (j<=i))) ta tb):=⟨Ac2 B6v ha.1 hb.1 (M3 _)⟩
def Zt (ha:QE X a ta)(hb:QE X b tb):QT X (.Compare a [.Is] [b] pos) (O6 (tOp (λx y H Q=>y=.non/\Q (.bl (decide (x=.non))) H) ta tb)):=⟨Jq B0p ha.1 hb.1 (M3 _)⟩
def V5 (ha:QE X a ta)(hb:QE X b tb):QT X (.Compare a [.IsNot] [b] pos) (O6 (tOp (λx y H Q=>y=.non/\Q (.bl (!decide (x=.non))) H) ta tb)):=⟨Jq Bo8 ha.1 hb.1 (M3 _)⟩
def B0j (ha:QE X a ta):QE X (.UnaryOp .USub a pos) (tUn (rU λi=>.int (-i)) ta):=⟨B6o B3o ha.1⟩
def Uk (K:v9):m6->Hp->VK->Prop:=λxs H Q=>∃x n,xs=[x]/\A5n H x=some n/\Q (.int (n:Nat)) H
def Az2 (K:v9):m6->Hp->VK->Prop:=λxs H Q=>∃x n,xs=[x]/\B6y K x H n/\Q (.int n) H
def Pr (K:v9):m6->Hp->VK->Prop:=λxs H Q=>∃i,xs=[.int i]/\Q (.int (if i<0 then -i else i)) H
def Ap3 (hgl:Gl X "abs") (hm:X.mg "abs" = none) (ha:PA X (e::es) t) (hns:noStar (e::es)=true:=by rfl):PE X (.Call (.Name "abs" p) (e::es) [] pos) (tCB (Pr X.K) t):=Gb Bd7 hgl hm B3d ha (by decide) (by rfl) hns
def Qi (K:v9):m6->Hp->VK->Prop:=λxs H Q=>∃x T t b,xs=[x,.ty T]/\O8 H x=some t/\Eg t T=some b/\Q (.bl b) H
def Al6 (hgl:Gl X "isinstance") (hm:X.mg "isinstance" = none) (ha:PA X (e::es) t) (hns:noStar (e::es)=true:=by rfl):PE X (.Call (.Name "isinstance" p) (e::es) [] pos) (tCB (Qi X.K) t):=Gb A8t hgl hm Hj ha (by decide) (by rfl) hns
def Jz (K:v9):m6->Hp->VK->Prop:=λxs H Q=>∃x p Ts t b,xs=[x,.ref p]/\H p=some (.tup (Ts.map V.ty))/\O8 H x=some t/\La t Ts=some b/\Q (.bl b) H
def Aa0 (hgl:Gl X "isinstance") (hm:X.mg "isinstance" = none) (ha:PA X (e::es) t) (hns:noStar (e::es)=true:=by rfl):PE X (.Call (.Name "isinstance" p) (e::es) [] pos) (tCB (Jz X.K) t):=Gb A3f hgl hm Hj ha (by decide) (by rfl) hns
def Mu (K:v9):m6->Hp->VK->Prop:=λxs H Q=>∃(a:Addr) (bs:List Bool),xs=[.ref a]/\SqL K H a (bs.map V.bl)/\Q (.bl (bs.all id)) H
def Z9 (hc:X.calm=true)(hgl:Gl X "all") (hm:X.mg "all" = none) (ha:PA X (e::es) t) (hns:noStar (e::es)=true:=by rfl):PE X (.Call (.Name "all" p) (e::es) [] pos) (tCB (Mu X.K) t):=Gb (A5p hc) hgl hm B2w ha (by decide) (by rfl) hns
def Nr (K:v9):m6->Hp->VK->Prop:=λxs H Q=>(∃i,xs=[.int i]/\Q (.int i) H)\/∃k,xs=[.bl k]/\Q (.int (if k then 1 else 0)) H
def Ac3 (hgl:Gl X "int") (hm:X.mg "int" = none) (ha:PA X (e::es) t) (hns:noStar (e::es)=true:=by rfl):PE X (.Call (.Name "int" p) (e::es) [] pos) (tCB (Nr X.K) t):=Ly A4u hgl hm Bh0 ha (by decide) (by rfl) hns
def Xo (K:v9):m6->Hp->VK->Prop:=λxs H Q=>∃i:Int,xs=[.int i]/\i.natAbs.log2<1920/\Q (.str (toString i)) H
def Ar0 (K:v9):m6->Hp->VK->Prop:=λxs H Q=>∃a d,xs=[.ref a]/\Tr H d (.ref a)/\d.showable=true/\d.hasDict=false/\d.depth<=40/\d.shown.length<=sizeLine/\Q (.str d.shown) H
def Hv (K:v9):m6->Hp->VK->Prop:=λxs H Q=>∃p ys,xs=[.ref p]/\((SqL K H p ys/\∀l,H l=none->Q (.ref l) (upd H l (.tup ys)))\/(SqT K H p ys/\Q (.ref p) H))
def Tv (hgl:Gl X "tuple") (hm:X.mg "tuple" = none) (ha:PA X (e::es) t) (hns:noStar (e::es)=true:=by rfl):PE X (.Call (.Name "tuple" p) (e::es) [] pos) (tCB (Hv X.K) t):=Ly Ym hgl hm Kp ha (by decide) (by rfl) hns
def Jj (K:v9):m6->Hp->VK->Prop:=λxs H Q=>∃p ys,xs=[.ref p]/\(SqL K H p ys\/SqT K H p ys)/\∀l,H l=none->Q (.ref l) (upd H l (.lst ys))
def Um (hgl:Gl X "list") (hm:X.mg "list" = none) (ha:PA X (e::es) t) (hns:noStar (e::es)=true:=by rfl):PE X (.Call (.Name "list" p) (e::es) [] pos) (tCB (Jj X.K) t):=Ly Ah3 hgl hm U7 ha (by decide) (by rfl) hns
def Nh (K:v9):m6->Hp->VK->Prop:=λxs H Q=>∃i j,xs=[.int i,.int j]/\Q (.int (if j<i then j else i)) H
def Ab8 (hc:X.calm=true)(hgl:Gl X "min") (hm:X.mg "min" = none) (ha:PA X (e::es) t) (hns:noStar (e::es)=true:=by rfl):PE X (.Call (.Name "min" p) (e::es) [] pos) (tCB (Nh X.K) t):=Gb (A6d hc) hgl hm B0n ha (by decide) (by rfl) hns
theorem A5a (ho:PE X a ta)(hv:PE X e te)(hbase:attributeBase a "append" X.env (eval a X.env)=eval a X.env:=by rfl)
 (hfew:((backTo cpos (starEach [e] X.env)).all (λx=>!x.1)&&(backToKw cpos (keywordEach [] X.env)).all (λx=>x.1.isSome)
  && decide ([e].length+([]:List Keyword).length+(if ([]:List Keyword).isEmpty then 0 else 1)<30))=true:=by rfl)
 (hline:(apos.endLine==cpos.line)=true:=by rfl) (hns:isStar e=false:=by rfl) :
 PE X (.Call (.Attribute a "append" apos) [e] [] cpos) (tBM X.K "list" rAppF ta (Bv te Fb)) :=
 Bv3 fZ PySem.F.slot_list_append PySem.F.type_list_append Bs7 ho (B2s hv Ab2 hns) hbase hfew hline (Ez hns) rfl
end
noncomputable def Uw {α:Type} [DecidableEq α] (ks:List α) (k:α):Bool:=ks.any λx=>decide (x=k)
theorem memB_snoc [DecidableEq b] {ks:List b}{k a:b}:Uw (ks++[k]) a=(Uw ks a||decide (a=k)):=by
 unfold Uw
 grind
def Ai1 {α:Type}[DecidableEq α](acc:List α)(x:α):List α:=if Uw acc x=true then acc else acc++[x]
def dst {α:Type}[DecidableEq α](xs:List α):List α:=xs.foldl Ai1 []
theorem Am6 [DecidableEq a] (xs:List a) (x:a):dst (xs++[x])=Ai1 (dst xs) x:=by
 unfold dst;grind
theorem A2b {α:Type}[DecidableEq α]:∀(n:Nat) (xs:List α),xs.length=n->(dst xs).length<=n
 | 0,xs,h=>by cases xs with | nil=>exact au _ | cons a r=>cases h
 | n+1,xs,h=>by
  rcases List.eq_nil_or_concat xs with rfl | ⟨ys,y,rfl⟩
  ·cases h
  ·rw[List.concat_eq_append]at h ⊢
   have hy:ys.length=n:=by simpa using h
   have ih:=A2b n ys hy;rw[Am6];unfold Ai1;split
   ·lia
   ·simp;lia
def At0 (P:u6)(w:World)(a:Addr)(ks:List Key)(h:Heap):Prop:=h.SetOf (Dj P w) a (Uw ks) ks.length
theorem Zi (hs:At0 P w a ks h) (k:∀o,h.get? a=some o->h'.get? a=some o):At0 P w a ks h':=by
 obtain⟨o,c,d,t,e,b⟩:=hs;exact⟨o,c,d,t,k o e,b⟩
theorem A3e
 (x:h.SetOf (Dj P w) a (λb=>Uw ks b||decide (b=k)) (if Uw ks k then ks.length else ks.length+1)):At0 P w a (Ai1 ks k) h:=by
 unfold At0 Ai1
 by_cases hk:Uw ks k=true
 ·have e:(λb=>Uw ks b||decide (b=k))=Uw ks:=by
   grind
  simp_all
 ·have e:(λb=>Uw ks b||decide (b=k))=Uw (ks++[k]):=by
   funext b
   exact memB_snoc.symm
  simp_all
section
variable {P:u6}{w:World}{A:t_}
theorem fill (W:WalksS P w A.in1 J fp h j n Pv E) (p:S∉fp)
 (ks:List Key) (g:ks.length=n) (is:∀i v,Pv i v->∃k,ks[i]?=some k/\Xv k v=true/\v.scannable=true) (Q:n+1<scanBound) (z:u_)
 (G:∀s,Moved (S::h) j z s->At0 P w S (dst ks) s.heap->R (.ok (.ret .none)) s) :
 ∀(m i:Nat) (s:u_),i+m=n->E i s->Moved (S::h) j z s->At0 P w S (dst (ks.take i)) s.heap->codeAny (model P w) A (.builtin "set.update.loop" ⟨[.ref S,.ref J],[]⟩) R s:=by
 have c:S∉h:=λq=>p (W.sub S q)
 have f:∀b,b∈h->b∈S::h:=λb q=>.tail _ q
 intro m
 induction m with
 | zero =>
  intro i s e K D r;have e:i=n:=e;subst e;apply dq jO;rw[dU ju _];apply aj (m:=pyNext (.ref J));apply W.done s _ _ K;intro d a;apply ak
  refine G d (Moved.trans W.gtrans D (a.mono f)) ?_
  have t:ks.take i=ks:=by rw[<- g];exact du
  rw[t]at r
  exact Zi r λo q=>a.heap S o c q
 | succ m ih =>
  intro i s e K D r
  have V:i<n:=by lia
  apply dq jO;rw[dU ju _];apply aj (m:=pyNext (.ref J));apply W.item i s _ _ V K;intro v d Z F a;obtain⟨k,U,O,X⟩:=is i v Z;have H:Moved (S::h) j z d:=Moved.trans W.gtrans D (a.mono f)
  show wpAny _ A.in1 (holding [v] (setAdd S v) >>= _) _ _ d
  apply aj;apply bH;unfold setAdd;apply bH;apply aj
  refine (Dj P w).pyHash (k:=k) O ?_
  have l:(dst (ks.take i)).length+1<scanBound:=by
   have:=A2b _ (ks.take i) rfl
   have:(ks.take i).length<=n:=by rw[<- g];exact List.length_take_le' _ _
   lia
  have tk:ks.take (i+1)=ks.take i++[k]:=by rw[List.take_add_one,U];rfl
  have T:∀(B:Nat),d.toks<=B->wpAny (model P w) A.in1 (setAddHashed S v ((Dj P w).hash k)) (λ_ u=>Moved (S::h) j z u/\At0 P w S (dst (ks.take (i+1))) u.heap/\E (i+1) u) (λ_ _=>False) { d with toks:=B }:=by
   intro B N
   refine wpAny_setAddHashed_of (knd:=Dj P w) (s:={ d with toks:=B }) O X (Zi r λo q=>a.heap S o c q) l λY M so=>?_
   refine⟨Moved.then_heap H N λb o q x=>?_,?_,W.frame (i+1) d Y _ F N λb q o x=>?_⟩
   ·rw[M.2 b λy=>q (y▸.head _)];exact x
   ·rw[tk,Am6];exact A3e so
   ·rw[M.2 b λy=>p (y▸q)];exact x
  refine aL (T _ (dN _)) (λb u y=>?_) λ_ _ q=>q.elim
  obtain⟨I,L,C⟩:=y
  exact ak ⟨gb ju _,ih _ _ (by lia) C I L⟩
noncomputable abbrev bare (led:Bool):Obj:={ cls:=.type "set",dict:=none,data:=.set #[] 0 (.fresh 0 0 led) }
end
section
variable {P:u6}{w:World}{A:t_}{E:z_}{s:u_}
theorem Ua (a:s.heap.IsTupleIter j u k)
 (body:wpAny (model P w) A.in1 (Builtin.«tuple_iterator.__next__» ⟨[.ref j],[]⟩) (λf z=>∃v,f=.done (.ret v)/\Q v z) E s) :
 wpAny (model P w) A (Builtin.SmallTypes.nextOf (.ref j)) Q E s:=by
 apply aj
 refine b_ a.typeIs F.slot_tuple_iterator_next ?_
 refine bA F.slot_tuple_iterator_next a.typeIs F.entry_tuple_iterator_next ?_ (F.args_tuple_iterator_next_1 _)
 refine aL body (λf z c=>?_) λ_ _ q=>q
 obtain⟨v,b,q⟩:=c;exact⟨v,b,ak q⟩
theorem Ar8 (c:s.heap.IsTupleIter j u k) (g:s.heap.IsTuple u vs) (hx:vs[k]?=some x)
 (q:∀h',h'.IsTupleIter j u (k+1)->Heap.SameBut j s.heap h'->Q x { s with heap:=h' }):wpAny (model P w) A (Builtin.SmallTypes.nextOf (.ref j)) Q E s:=by
 refine Ua c ?_
 obtain⟨o,d,f,b⟩:=c;obtain⟨i,h,_,n,e⟩:=g;apply aj (m:=field _ 0);apply aX d b rfl;apply aj ;apply aX d b rfl;apply aj ;apply cL h e;simp only[hx,eZ];apply aj
 apply gU d b (by simp)
 apply ak
 refine⟨x,rfl,q _ ⟨_,(bO (Obj.mapFields λa=>a.setIfInBounds 1 (rawInt (k+1))) d (e_ (dw b _))),(iJ ..).trans f,?_⟩ (bI ..)⟩
 rw[dw b]
 trivial
theorem A4e (c:A.handled=none) (d:s.heap.IsTupleIter j u k) (h:s.heap.IsTuple u vs) (hx:vs[k]?=none)
 (q:∀h' e,Heap.ExtBut j s.heap h'->(∃o,h'.get? e=some o/\o.cls=.type "StopIteration")->E (.ref e) { s with heap:=h' }):wpAny (model P w) A (Builtin.SmallTypes.nextOf (.ref j)) Q E s:=by
 refine Ua d ?_
 obtain⟨o,f,r,g⟩:=d;obtain⟨t,i,_,n,l⟩:=h;apply aj (m:=field (.ref j) 0);apply aX f g (x:=.ref u) rfl;have p:¬ ((Value.ref u==Value.none)=true):=aW
 show wpAny _ _ (if (Value.ref u==.none)=true then _ else _) _ _ _
 rw[if_neg p];apply aj (m:=field (.ref j) 1);apply aX f g (x:=.int k 0) rfl;apply aj (m:=seqItems? (.ref u));apply cL i l;simp only[hx,eZ];apply aj;apply cJ;apply aj
 apply gU f g (by simp)
 apply aj (m:=newExc (.type "StopIteration") []);unfold newExc newTuple;apply aj
 refine bN ?_ (by size_fits )
 apply aj (m:=firstArgMember _ _)
 refine wpAny_of_eq (a:=Value.none) (by simp only[firstArgMember];rfl) ?_
 refine bN ?_ (by size_fits )
 unfold raiseNew;apply aj;apply wpAny_handled;have b:A.in1.handled=none:=c;rw[b]
 refine aj (ak ?_)
 apply wpAny_throw;exact q _ _ (((bI ..).extBut.push _).push _) ⟨_,aJ _ rfl,rfl⟩
def ItAt (t:Bool)(h:Heap)(j u:Addr)(k:Nat):Prop:=match t with
 | true=>h.IsTupleIter j u k
 | false=>h.IsListIter j u k
def SqA (t:Bool)(h:Heap)(u:Addr)(vs:v7):Prop:=match t with
 | true=>h.IsTuple u vs
 | false=>h.IsList u vs
theorem ItAt.stay (x:ItAt t h j u k) (q:∀o,h.get? j=some o->h'.get? j=some o):ItAt t h' j u k:=by
 cases t <;> (obtain⟨o,e,r⟩:=x;exact⟨o,q o e,r⟩)
theorem ItAt.obj (x:ItAt t h j u k):∃o,h.get? j=some o/\o.data=.fields #[.ref u,.int k 0]:=by
 cases t <;> (obtain⟨o,e,_,r⟩:=x;grind)
theorem SqA.stay (x:SqA t h u vs) (q:∀o,h.get? u=some o->h'.get? u=some o):SqA t h' u vs:=by
 cases t <;> (obtain⟨o,e,r⟩:=x;exact⟨o,q o e,r⟩)
theorem next_item (a:ItAt t s.heap j u k) (b:SqA t s.heap u vs) (hx:vs[k]?=some x)
 (q:∀h',ItAt t h' j u (k+1)->Heap.SameBut j s.heap h'->Q x { s with heap:=h' }):wpAny (model P w) A (Builtin.SmallTypes.nextOf (.ref j)) Q E s:=by
 cases t
 ·exact wpAny_nextOf_list_item a b hx q
 ·exact Ar8 a b hx q
theorem next_end (c:A.handled=none) (a:ItAt t s.heap j u k) (b:SqA t s.heap u vs) (hx:vs[k]?=none)
 (q:∀h' e,Heap.ExtBut j s.heap h'->(∃o,h'.get? e=some o/\o.cls=.type "StopIteration")->E (.ref e) { s with heap:=h' }):wpAny (model P w) A (Builtin.SmallTypes.nextOf (.ref j)) Q E s:=by
 cases t
 ·exact wpAny_nextOf_list_end c a b hx q
 ·exact A4e c a b hx q
structure ZipAt (h:Heap) (t1 t2:Bool) (z ti to i1 i2 a b:Addr) (f0:Value) (k:Nat):Prop where
 zip:IsZip h z ti to f0
 ins:IsPair h ti (.ref i1) (.ref i2)
 outs:∃u v,IsPair h to u v
 one:ItAt t1 h i1 a k
 two:ItAt t2 h i2 b k
structure zB (z ti to i1 i2 a b:Addr):Prop where
 nd:[z,ti,to,i1,i2].Nodup
 na:a∉[z,ti,to,i1,i2]
 nb:b∉[z,ti,to,i1,i2]
theorem zB.z_ti (x:zB z ti to i1 i2 a b):ti≠z:=by have:=x.nd;grind
theorem zB.z_to (x:zB z ti to i1 i2 a b):to≠z:=by have:=x.nd;grind
theorem zB.z_i1 (x:zB z ti to i1 i2 a b):i1≠z:=by have:=x.nd;grind
theorem zB.z_i2 (x:zB z ti to i1 i2 a b):i2≠z:=by have:=x.nd;grind
theorem zB.to_i1 (x:zB z ti to i1 i2 a b):to≠i1:=by have:=x.nd;simp_all
theorem zB.to_i2 (x:zB z ti to i1 i2 a b):to≠i2:=by have:=x.nd;simp_all
theorem zB.i1_i2 (x:zB z ti to i1 i2 a b):i1≠i2:=by have:=x.nd;simp_all
theorem zB.ti_to (x:zB z ti to i1 i2 a b):ti≠to:=by have:=x.nd;simp_all
theorem zB.ti_i1 (x:zB z ti to i1 i2 a b):ti≠i1:=by have:=x.nd;simp_all
theorem zB.ti_i2 (x:zB z ti to i1 i2 a b):ti≠i2:=by have:=x.nd;simp_all
theorem Aq7 {Q:z_}(d:zB z j h r t a b) (y:ZipAt s.heap t1 t2 z j h r t a b .none k)
 (ha:SqA t1 s.heap a xs) (hb:SqA t2 s.heap b ys) (hx:xs[k]?=some x) (O:ys[k]?=some x')
 (q:∀h',ZipAt h' t1 t2 z j h r t a b (rawInt s.heap.objs.size) (k+1)->IsPair h' s.heap.objs.size x x'->(∀c o,c∉[z,j,h,r,t]->s.heap.get? c=some o->h'.get? c=some o)->Q (.ref s.heap.objs.size) { s with heap:=h' }) :
 wpAny (model P w) A (Builtin.«zip.__next__» ⟨[.ref z],[]⟩) (λf z=>∃v,f=.done (.ret v)/\Q v z) E s:=by
 obtain⟨u0,N,o0⟩:=y.outs;have S:=d.na;have I:=d.nb;simp only[aD,aY,a_,not_or]at S I;apply aj (m:=field (.ref z) 2);apply aX y.zip rfl (x:=.bool false) rfl;apply aj (m:=field (.ref z) 3);apply aX y.zip rfl (x:=.ref j) rfl;apply aj;apply cL y.ins rfl;apply aj (m:=Builtin.SmallTypes.ownedTupleIsFree (.ref z));unfold Builtin.SmallTypes.ownedTupleIsFree;apply aj;apply aX y.zip rfl (x:=.none) rfl;apply ak;simp only[cB];apply aj;apply cJ;apply aj;apply aX y.zip rfl (x:=.ref h) rfl;apply aj
 apply fc y.zip (by simp)
 intro g1 L n;have L:IsZip g1 z j h .ellipsis:=L;apply aj;simp only[List.zipIdx_cons,List.zipIdx_nil,fV,iK];apply aj;apply aj;apply iM;apply aj (m:=Builtin.SmallTypes.nextOf (.ref r))
 refine next_item (y.one.stay λo e=>n.extBut _ _ d.z_i1 e) (ha.stay λo e=>n.extBut _ _ S.1 e) hx λg2 n1 u=>?_
 apply ak;have V:IsPair g2 h u0 N:=u.extBut _ _ d.to_i1 (n.extBut _ _ d.z_to o0);apply aj;apply cL V rfl;apply aj;apply jw V;intro g3 R B;have R:IsPair g3 h x N:=R;apply aj;apply wpAny_letGo;apply ak;apply aj;apply aj;apply iM;apply aj (m:=Builtin.SmallTypes.nextOf (.ref t))
 refine next_item (y.two.stay λo e=>B.extBut _ _ d.to_i2.symm (u.extBut _ _ d.i1_i2.symm (n.extBut _ _ d.z_i2 e))) (hb.stay λo e=>B.extBut _ _ I.2.2.1 (u.extBut _ _ I.2.2.2.1 (n.extBut _ _ I.1 e))) O λg4 n2 D=>?_
 apply ak;have U:IsPair g4 h x N:=D.extBut _ _ d.to_i2 R;apply aj;apply cL U rfl;apply aj;apply jw U;intro i K F;have K:IsPair i h x x':=K;apply aj;apply wpAny_letGo;apply ak;apply ak;apply aj;apply cL K rfl;apply aj
 refine wpAny_newTuple ?_
 have W:i.objs.size=s.heap.objs.size:=by rw[F.1,D.1,B.1,u.1,n.1]
 have l:∀c o,c≠z->c≠h->c≠r->c≠t->s.heap.get? c=some o->i.get? c=some o:=λc o p1 T p3 p4 e=>F.extBut _ _ T (D.extBut _ _ p4 (B.extBut _ _ T (u.extBut _ _ p3 (n.extBut _ _ p1 e))))
 have Y:IsZip i z j h .ellipsis:=F.extBut _ _ d.z_to.symm (D.extBut _ _ d.z_i2.symm (B.extBut _ _ d.z_to.symm (u.extBut _ _ d.z_i1.symm L)))
 have m1:ItAt t1 i r a (k+1):=n1.stay λo e=>F.extBut _ _ d.to_i1.symm (D.extBut _ _ d.i1_i2 (B.extBut _ _ d.to_i1.symm e))
 have m2:ItAt t2 i t b (k+1):=n2.stay λo e=>F.extBut _ _ d.to_i2.symm e
 apply aj (m:=Builtin.SmallTypes.ownedTupleHandOut (.ref z) (.ref i.objs.size));unfold Builtin.SmallTypes.ownedTupleHandOut;have z6:IsZip (i.push { cls:=.type "tuple",data:=.seq #[x,x'] }) z j h .ellipsis:=aC _ Y;apply aj
 apply fc z6 (by simp)
 intro g7 M X;have M:IsZip g7 z j h (rawInt i.objs.size):=M
 apply fc M (by simp)
 intro H J Z;have J:IsZip H z j h (rawInt i.objs.size):=J
 have g:∀c o,c≠z->i.get? c=some o->H.get? c=some o:=λc o p e=>Z.extBut _ _ p (X.extBut _ _ p (aC _ e))
 have G:z<i.objs.size:=az Y;have C:IsPair H i.objs.size x x':=Z.extBut _ _ (bU G) (X.extBut _ _ (bU G) (aJ _ rfl));rw[W]at J C;apply ak
 refine⟨_,rfl,?_⟩
 show Q (.ref i.objs.size) _
 rw[W]
 refine q H ⟨J,g _ _ d.z_ti (l _ _ d.z_ti d.ti_to d.ti_i1 d.ti_i2 y.ins),⟨x,x',g _ _ d.z_to K⟩,m1.stay λo e=>g _ _ d.z_i1 e,m2.stay λo e=>g _ _ d.z_i2 e⟩ C λc o p e=>?_
 simp at p
 exact g c o p.1 (l c o p.1 p.2.2.1 p.2.2.2.1 p.2.2.2.2 e)
theorem Ak6 (f:A.handled=none) (d:zB z l j v C a b) (y:ZipAt s.heap t1 t2 z l j v C a b .none k)
 (ha:SqA t1 s.heap a xs) (hb:SqA t2 s.heap b ys) (hx:xs[k]?=none\/ys[k]?=none)
 (q:∀h' e,(∀c o,c∉[z,l,j,v,C]->s.heap.get? c=some o->h'.get? c=some o)->(∃o,h'.get? e=some o/\o.cls=.type "StopIteration")->E (.ref e) { s with heap:=h' }) :
 wpAny (model P w) A (Builtin.«zip.__next__» ⟨[.ref z],[]⟩) F E s:=by
 obtain⟨T,V,S⟩:=y.outs;have I:=d.na;have B:=d.nb;simp only[aD,aY,a_,not_or]at I B;apply aj (m:=field (.ref z) 2);apply aX y.zip rfl (x:=.bool false) rfl;apply aj (m:=field (.ref z) 3);apply aX y.zip rfl (x:=.ref l) rfl;apply aj;apply cL y.ins rfl;apply aj (m:=Builtin.SmallTypes.ownedTupleIsFree (.ref z));unfold Builtin.SmallTypes.ownedTupleIsFree;apply aj;apply aX y.zip rfl (x:=.none) rfl;apply ak;simp only[cB];apply aj;apply cJ;apply aj;apply aX y.zip rfl (x:=.ref j) rfl;apply aj
 apply fc y.zip (by simp)
 intro U u g;have u:IsZip U z l j .ellipsis:=u;apply aj;simp only[List.zipIdx_cons,List.zipIdx_nil,fV,iK];apply aj;apply aj;apply iM;apply aj (m:=Builtin.SmallTypes.nextOf (.ref v))
 cases e1:xs[k]? with
 | none =>
  refine next_end f (y.one.stay λo e=>g.extBut _ _ d.z_i1 e) (ha.stay λo e=>g.extBut _ _ I.1 e) e1 λH x i K=>?_
  obtain⟨D,r,t⟩:=K;have Q:IsZip H z l j .ellipsis:=i _ _ d.z_i1.symm u
  have G:x≠z:=λe=>by subst e;rw[Q]at r;cases r;simp at t
  apply fc Q (by simp)
  intro N _ n
  refine q N x (λc o p e=>?_) ⟨D,n.extBut _ _ G r,t⟩
  simp only[aD,aY,a_,not_or]at p;exact n.extBut _ _ p.1 (i _ _ p.2.2.2.1 (g.extBut _ _ p.1 e))
 | some x =>
  have Y:ys[k]?=none:=by
   rcases hx with h | h
   ·rw[e1]at h;cases h
   ·exact h
  refine next_item (y.one.stay λo e=>g.extBut _ _ d.z_i1 e) (ha.stay λo e=>g.extBut _ _ I.1 e) e1 λH n1 i=>?_
  apply ak;have O:IsPair H j T V:=i.extBut _ _ d.to_i1 (g.extBut _ _ d.z_to S);apply aj;apply cL O rfl;apply aj;apply jw O;intro N Z n;apply aj;apply wpAny_letGo;apply ak;apply aj;apply aj;apply iM;apply aj (m:=Builtin.SmallTypes.nextOf (.ref C))
  refine next_end f (y.two.stay λo e=>n.extBut _ _ d.to_i2.symm (i.extBut _ _ d.i1_i2.symm (g.extBut _ _ d.z_i2 e))) (hb.stay λo e=>n.extBut _ _ B.2.2.1 (i.extBut _ _ B.2.2.2.1 (g.extBut _ _ B.1 e))) Y λW x M J=>?_
  obtain⟨D,r,t⟩:=J;have R:IsZip W z l j .ellipsis:=M _ _ d.z_i2.symm (n.extBut _ _ d.z_to.symm (i.extBut _ _ d.z_i1.symm u))
  have G:x≠z:=λe=>by subst e;rw[R]at r;cases r;simp at t
  apply fc R (by simp)
  intro X _ L
  refine q X x (λc o p e=>?_) ⟨D,L.extBut _ _ G r,t⟩
  simp only[aD,aY,a_,not_or]at p;exact L.extBut _ _ p.1 (M _ _ p.2.2.2.2 (n.extBut _ _ p.2.2.1 (i.extBut _ _ p.2.2.2.1 (g.extBut _ _ p.1 e))))
end
section
variable {X:Cx}{pins:y_}{σ:St}{H:Hp}{s:u_}{h':Heap}
theorem Inv.turnLay {ch:v6}{p:Addr}{o:HO}{t':Nat}(I:Inv X pins σ H s)(hf:∀b∈ch,Jl X pins H b)(k:∀b u,b∉ch->s.heap.get? b=some u->h'.get? b=some u)(hp:s.heap.objs.size<=p)(w:zE X.prog X.w (upd H p o) h' p o) :
 Inv X pins σ (upd H p o) { s with heap:=h',toks:=t' }:=by
 have g:H p=none:=I.hok.fresh hp
 have t:∀b u,H b=some u->b∉ch:=λb u e z=>by rw[(hf b z).1]at e;grind
 have d:∀b u,H b=some u->b≠p:=λb u e=>Ba e g
 have h:∀b u,s.heap.get? b=some u->b≠p:=λb u e z=>absurd (az e) (by simp_all)
 refine I.step (g':=s.gens) (d':=s.drawn) (ch:=ch) (λb f=>?_) (λb u _ _ a e _=>k b u a e) (λb u _ _ a e _=>⟨u.slots,k b u a e⟩) (λb u _ e n=>?_) (λb u a e=>⟨u,k b u a e⟩)
  (λb i e=>?_) (λb o u e=>?_) (λb B e=>?_) (λm x=>?_) (λb u e=>?_) I.bare
 ·obtain⟨F,G,J,C,D,E⟩:=hf b f
  grind
 ·rw[Ag (h b u e)];grind
 ·rw[Ag (d b _ e)];grind
 ·rw[Ag (d b _ e)];lia
 ·rw[Ag (d b _ e)];grind
 ·obtain⟨j,y,A,l,r⟩:=x
  exact⟨j,y,A,k _ _ (λz=>(hf _ z).2.1 rfl) l,r⟩
 ·by_cases f:b=p
  ·subst f;rw[Aq]at e;grind
  ·rw[Ag f]at e
   refine (I.hok b u e).stay (λc v a q=>k c v ?_ q) λc q=>by rw[Ag (d c _ q)];grind λc i q=>by rw[Ag (d c _ q)];grind λc j i q=>by rw[Ag (d c _ q)];grind
   grind
theorem Inv.turnL {ch:v6}{t':Nat}(I:Inv X pins σ H s)(hf:∀b∈ch,Jl X pins H b)(k:∀b u,b∉ch->s.heap.get? b=some u->h'.get? b=some u):Inv X pins σ H { s with heap:=h',toks:=t' }:=by
 have g:∀b u,H b=some u->b∉ch:=λb u e z=>by rw[(hf b z).1]at e;grind
 refine I.step (λb f=>?_) (λb u _ _ a e _=>k b u a e) (λb u _ _ a e _=>⟨u.slots,k b u a e⟩) (λb u _ e n=>n) (λb u a e=>⟨u,k b u a e⟩)
  (λb i e=>e) (λb o u e=>e) (λb t e=>e) (λm j=>?_) (λb u e=>?_) I.bare
 ·obtain⟨A,B,C,w,x,y⟩:=hf b f
  grind
 ·obtain⟨h,l,p,d,r⟩:=j
  exact⟨h,l,p,k _ _ (λz=>(hf _ z).2.1 rfl) d,r⟩
 ·refine (I.hok b u e).stay (λc v a q=>k c v ?_ q) (λc q=>q) λc i q=>q
  grind
end
def SqK (t:Bool)(H:Hp)(a:Addr)(xs:m6):Prop:=match t with
 | true=>H a=some (.tup xs)
 | false=>H a=some (.lst xs)
theorem SqK.one (x:SqK t H a xs) (y:SqK t H a ys):xs=ys:=by
 cases t
 ·have y:H a=some _:=y
  rw[x]at y;cases y;rfl
 ·have y:H a=some _:=y
  rw[x]at y;cases y;rfl
theorem SqK.some (x:SqK t H a xs):∃o,H a=some o:=by
 cases t
 ·exact⟨_,x⟩
 ·exact⟨_,x⟩
theorem SqK.its (I:Inv X pins d H s) (x:SqK t H a xs):∃b:w6,Vals xs b/\SqA t s.heap a b.toArray:=by
 cases t
 ·obtain⟨b,c,p,_⟩:=I.list (SqL.of x)
  exact⟨b,c,p.isList⟩
 ·obtain⟨b,c,p,_⟩:=I.tuple (SqT.of x)
  exact⟨b,c,(show s.heap.IsTuple a _ from p)⟩
def Itz (t1 t2:Bool)(a b:Addr):It :=
 ⟨
  λi H=>∃xs ys x y,SqK t1 H a xs/\SqK t2 H b ys/\xs[i]?=some x/\ys[i]?=some y,
  λi H v H'=>∃p x y,v=.ref p/\H p=none/\H'=upd H p (.tup [x,y])/\(∀xs,SqK t1 H a xs->xs[i]?=some x)/\∀ys,SqK t2 H b ys->ys[i]?=some y,
  λi H=>∃xs ys,SqK t1 H a xs/\SqK t2 H b ys/\(xs.length<=i\/ys.length<=i)⟩
theorem A8s {P:u6}{w:World}{K:v9}{t1 t2:Bool}{elts:v_}{kk:Nat}{pos:Pos}{z ti to i1 i2 a b:Addr}(nd:[z,ti,to,i1,i2].Nodup) :
 Turn P w K (.Tuple elts kk pos) (Itz t1 t2 a b) [z,ti,to,i1,i2] z (λi h=>ZipAt h t1 t2 z ti to i1 i2 a b .none i) where
 mem:=by simp
 obj:=λi h st c hc=>by
  simp only[aD,aY,a_]at hc
  rcases hc with rfl | rfl | rfl | rfl | rfl
  ·exact⟨_,st.zip,λv e=>by cases e⟩
  ·exact⟨_,st.ins,λv e=>by cases e⟩
  ·obtain⟨u,v,e⟩:=st.outs;exact⟨_,e,λv e=>by cases e⟩
  ·obtain⟨o,e,q⟩:=st.one.obj;exact⟨o,e,λv e=>by rw[q]at e;cases e⟩
  ·obtain⟨o,e,q⟩:=st.two.obj;exact⟨o,e,λv e=>by rw[q]at e;cases e⟩
 keep:=λi h h' st k=>by
  obtain⟨u,v,e⟩:=st.outs
  exact⟨k z (by simp) _ st.zip,k ti (by simp) _ st.ins,⟨u,v,k to (by simp) _ e⟩,st.one.stay λo e=>k i1 (by simp) o e,st.two.stay λo e=>k i2 (by simp) o e⟩
 item:=by
  intro X hP hw hK hc i pins s σ H E I hf st hg;subst hP hw hK;obtain⟨xs,ys,x,y,ha,hb,hx,hy⟩:=hg;obtain⟨its,rv,pa⟩:=ha.its I;obtain⟨jts,rw',pb⟩:=hb.its I;obtain⟨u,hu,ru⟩:=rv.get hx;obtain⟨v,hv,rv'⟩:=rw'.get hy
  have off:zB z ti to i1 i2 a b:=⟨nd,λm=>by (obtain⟨o,e⟩:=ha.some;rw[(hf a m).1]at e;cases e),λm=>by (obtain⟨o,e⟩:=hb.some;rw[(hf b m).1]at e;cases e)⟩
  have ty:s.TypeIs (.ref z) "zip" := ⟨_,st.zip,rfl⟩;unfold pyNext;apply aj;apply cN
  refine b_ (name:="__next__") ty dW ?_
  refine bA dW ty iQ ?_ (iR _)
  refine Aq7 off st pa pb (x:=u) (x':=v) (by simpa using hu) (by simpa using hv) λh1 z1 new kp=>?_
  refine ak ⟨_,rfl,?_⟩
  apply wpAny_letOwnedTupleGo_zip z1.zip;intro h2 z2 sb;have nz:s.heap.objs.size≠z:=bU (az st.zip);have new2:IsPair h2 s.heap.objs.size u v:=sb.extBut _ _ nz new
  have ok:zE X.prog X.w (upd H s.heap.objs.size (.tup [x,y])) h2 s.heap.objs.size (.tup [x,y]):=⟨(show 2<=sizeLine by decide),[u,v],.cons ru (.cons rv' .nil),⟨_,new2,rfl,⟨_,rfl⟩,rfl⟩⟩
  have I2:=I.turnLay (t':=s.toks) hf (h':=h2) (λc o m e=>sb.extBut _ _ (λe=>m (by simp[e])) (kp c o m e)) (au _) ok
  obtain⟨u1,v1,e1⟩:=z1.outs;have zf:H s.heap.objs.size=none:=I.hok.fresh (au _)
  refine⟨.ref s.heap.objs.size,_,I2,rfl,⟨_,x,y,rfl,zf,rfl,λxs' h=>?_,λys' h=>?_⟩,?_,λc hc=>?_⟩
  ·rw[h.one ha];exact hx
  ·rw[h.one hb];exact hy
  ·exact⟨z2,sb.extBut _ _ off.z_ti z1.ins,⟨u1,v1,sb.extBut _ _ off.z_to e1⟩,z1.one.stay λo e=>sb.extBut _ _ off.z_i1 e,z1.two.stay λo e=>sb.extBut _ _ off.z_i2 e⟩
  ·have lt:c<s.heap.objs.size:=by
    simp only[aD,aY,a_]at hc
    rcases hc with rfl | rfl | rfl | rfl | rfl
    ·exact az st.zip
    ·exact az st.ins
    ·obtain⟨_,_,e⟩:=st.outs;exact az e
    ·obtain⟨o,e,q⟩:=st.one.obj;exact az e
    ·obtain⟨o,e,q⟩:=st.two.obj;exact az e
   rw[Ag (aM lt)];exact(hf c hc).1
 done:=by
  intro X hP hw hK hc i pins s σ H E I hf st hg;subst hP hw hK;obtain⟨xs,ys,ha,hb,hl⟩:=hg;obtain⟨its,rv,pa⟩:=ha.its I;obtain⟨jts,rw',pb⟩:=hb.its I
  have off:zB z ti to i1 i2 a b:=⟨nd,λm=>by (obtain⟨o,e⟩:=ha.some;rw[(hf a m).1]at e;cases e),λm=>by (obtain⟨o,e⟩:=hb.some;rw[(hf b m).1]at e;cases e)⟩
  have ty:s.TypeIs (.ref z) "zip" := ⟨_,st.zip,rfl⟩;have l1:=rv.length;have l2:=rw'.length;unfold pyNext;apply aj;apply cN
  refine b_ (name:="__next__") ty dW ?_
  refine bA dW ty iQ ?_ (iR _)
  refine Ak6 (I.ok.hd hc) off st pa pb (by simp;lia) λh1 e kp he=>?_
  obtain⟨o,e1,e2⟩:=he;apply aj
  refine cZ (T := "StopIteration") (b:=true) ⟨o,e1,e2⟩ fj ?_
  exact ak ⟨rfl,I.turnL (t':=s.toks) hf λc o m e=>kp c o m e⟩
 self:=λ_ _ _ _ _ st h=>jx st.zip h
section
variable {P:u6}{w:World}{A:t_}{E:z_}{s:u_}
noncomputable abbrev itO (t:Bool) (u:Addr):Obj:={ cls:=.type (if t then "tuple_iterator" else "list_iterator"),data:=.fields #[.ref u,.int 0 0] }
abbrev zh1 (h:Heap)(t1:Bool)(a:Addr):Heap:=h.push (itO t1 a)
abbrev zh2 (h:Heap)(t1 t2:Bool)(a b:Addr):Heap:=(zh1 h t1 a).push (itO t2 b)
abbrev zh3 (h:Heap)(t1 t2:Bool)(a b:Addr):Heap:=(zh2 h t1 t2 a b).push { cls:=.type "tuple",data:=.seq #[.ref h.objs.size,.ref (zh1 h t1 a).objs.size] }
abbrev zh4 (h:Heap)(t1 t2:Bool)(a b:Addr):Heap:=(zh3 h t1 t2 a b).push { cls:=.type "tuple",data:=.seq #[.none,.none] }
abbrev zh5 (h:Heap)(t1 t2:Bool)(a b:Addr):Heap:=(zh4 h t1 t2 a b).push { cls:=.type "zip",data:=.fields #[.none,.bool false,.bool false,.ref (zh2 h t1 t2 a b).objs.size,.ref (zh3 h t1 t2 a b).objs.size] }
theorem A8p (t1 t2:Bool)(a b:Addr)(xs ys:v7) :
 Meets (Builtin.«zip.__new__» ⟨[.type "zip",.ref a,.ref b],[]⟩) (λ_ R s=>SqA t1 s.heap a xs/\SqA t2 s.heap b ys/\R (.ok (.ret (.ref (zh4 s.heap t1 t2 a b).objs.size))) { s with heap:=zh5 s.heap t1 t2 a b }) :=
 .of_wp λP w A R s h=>by
  obtain⟨e,g,d,c,f⟩:=s;obtain⟨k,l,h⟩:=h;have m:=sub_zip
  cases t1 <;> cases t2
  ·have j:Heap.IsList (Shared.heap ⟨e,g,d,c,f⟩) a xs:=k
   have i:Heap.IsList (Shared.heap ⟨e.push { cls:=.type "list_iterator",data:=.fields #[.ref a,.int 0 0] },g,d,c,f⟩) b ys:=Heap.IsList.push l _
   wp_walk using fX j,fX i
   exact⟨_,rfl,h⟩
  ·have j:Heap.IsList (Shared.heap ⟨e,g,d,c,f⟩) a xs:=k
   have i:Heap.IsTuple (Shared.heap ⟨e.push { cls:=.type "list_iterator",data:=.fields #[.ref a,.int 0 0] },g,d,c,f⟩) b ys:=Heap.IsTuple.push l _
   wp_walk using fX j,dR i
   exact⟨_,rfl,h⟩
  ·have j:Heap.IsTuple (Shared.heap ⟨e,g,d,c,f⟩) a xs:=k
   have i:Heap.IsList (Shared.heap ⟨e.push { cls:=.type "tuple_iterator",data:=.fields #[.ref a,.int 0 0] },g,d,c,f⟩) b ys:=Heap.IsList.push l _
   wp_walk using dR j,fX i
   exact⟨_,rfl,h⟩
  ·have j:Heap.IsTuple (Shared.heap ⟨e,g,d,c,f⟩) a xs:=k
   have i:Heap.IsTuple (Shared.heap ⟨e.push { cls:=.type "tuple_iterator",data:=.fields #[.ref a,.int 0 0] },g,d,c,f⟩) b ys:=Heap.IsTuple.push l _
   wp_walk using dR j,dR i
   exact⟨_,rfl,h⟩
theorem Ar6 (e:h.get? j=some (itO t u)):ItAt t h j u 0:=by
 cases t
 ·exact⟨_,e,rfl,rfl⟩
 ·exact⟨_,e,rfl,rfl⟩
theorem Xj (t:SqA t1 s.heap a xs) (u:SqA t2 s.heap b ys)
 (q:∀h',ZipAt h' t1 t2 (s.heap.objs.size+4) (s.heap.objs.size+2) (s.heap.objs.size+3) s.heap.objs.size (s.heap.objs.size+1) a b .none 0->(∀c o,s.heap.get? c=some o->h'.get? c=some o)->Q (.ref (s.heap.objs.size+4)) { s with heap:=h' }) :
 wpAny (model P w) A (call (.type "zip") [.ref a,.ref b]) Q E s:=by
 apply callType_new F.called_zip (by decide) (F.typeCall_zip_2 _ _) (F.newCall_zip_2 _ _) (λo=>F.args_object_init_3 o _ _) F.entry_zip_new (A8p t1 t2 a b xs ys)
 refine⟨t,u,?_⟩
 have i:(zh1 s.heap t1 a).objs.size=s.heap.objs.size+1:=c7 ..
 have g:(zh2 s.heap t1 t2 a b).objs.size=s.heap.objs.size+2:=by rw[c7,i]
 have f:(zh3 s.heap t1 t2 a b).objs.size=s.heap.objs.size+3:=by rw[c7,g]
 have k:(zh4 s.heap t1 t2 a b).objs.size=s.heap.objs.size+4:=by rw[c7,f]
 have d:=λ{h:Heap} {c:Addr} {o:Obj} (n:Obj) (e:h.get? c=some o)=>aC n e
 have j:(zh5 s.heap t1 t2 a b).get? (zh4 s.heap t1 t2 a b).objs.size=some _:=aJ _ rfl;have m:(zh5 s.heap t1 t2 a b).get? (zh3 s.heap t1 t2 a b).objs.size=some _:=d _ (aJ _ rfl);have l:(zh5 s.heap t1 t2 a b).get? (zh2 s.heap t1 t2 a b).objs.size=some _:=d _ (d _ (aJ _ rfl));have p:(zh5 s.heap t1 t2 a b).get? (zh1 s.heap t1 a).objs.size=some _:=d _ (d _ (d _ (aJ _ rfl)));have r:(zh5 s.heap t1 t2 a b).get? s.heap.objs.size=some _:=d _ (d _ (d _ (d _ (aJ _ rfl))));rw[g,f,k]at j;rw[i,g]at l;rw[f]at m;rw[i]at p;rw[k]
 exact⟨⟨_,j,rfl⟩,q _ ⟨j,l,⟨_,_,m⟩,Ar6 r,Ar6 p⟩ λc o e=>d _ (d _ (d _ (d _ (d _ e))))⟩
end
theorem Zb:bootBuiltins "zip" = some (.type "zip"):=by decide +kernel
section
variable {X:Cx}
def B5w (ta:TA):TI:=λσ H R=>ta σ H λvs H1=>∃a b,vs=[.ref a,.ref b]/\∃t1 t2 xs ys,SqK t1 H1 a xs/\SqK t2 H1 b ys/\R (Itz t1 t2 a b) H1
theorem Av3 {p j e:Pos}{f:v_}{t:Nat}(hg:Gl X "zip") (hm:X.mg "zip" = none) (ha:QA X [a,b] m) (hs1:isStar a=false:=by rfl) (hs2:isStar b=false:=by rfl) :
 QI X (.Tuple f t e) (.Call (.Name "zip" p) [a,b] [] j) (B5w m):=by
 refine⟨?_⟩
 intro l s σ H R I h;have i:=Ez (es:=[b]) (env:=X.env) hs1
 refine Call_ (Lj I hg hm Zb (eN (thn (ha.1 _ _ s _ H _ I h) λus d ⟨vs,r,g,u,v⟩=>?_) i (by rw[(Ez (es:=[]) (env:=X.env) hs2)];rfl)))
 obtain⟨a',b',rfl,t1,t2,xs,ys,y,o,q⟩:=v;obtain⟨z,A,rfl,B,x⟩:=Vals.two u
 cases (show z=Value.ref _ from B)
 cases (show A=Value.ref _ from x)
 obtain⟨C,rv,w⟩:=y.its g;obtain⟨E,F,D⟩:=o.its g
 refine Xj w D λh' n G=>?_
 apply jx n.zip
 have J:[d.heap.objs.size+4,d.heap.objs.size+2,d.heap.objs.size+3,d.heap.objs.size,d.heap.objs.size+1].Nodup:=by simp
 refine⟨_,_,_,_,r,rfl,g.kept G,A8s J,n,λc hc=>?_,q⟩
 have k:d.heap.objs.size<=c:=by
  grind
 exact g.fpOk k (g.hok.fresh k)
end
def Bx0:R2:=λx y H Q=>∃a b xs ys,x=.ref a/\y=.ref b/\H a=some (.tup xs)/\H b=some (.tup ys)/\xs.length+ys.length<=sizeLine/\∀p H',Same H H'->H' p=some (.tup (xs++ys))->Q (.ref p) H'
section
variable {X:Cx}
theorem Bl (h:H p=none) (o:HO):Same H (upd H p o):=λb u e=>by rw[Ag (Ba e h)];grind
theorem Bm2:OpR X (binaryOp .Add) Bx0:=by
 intro d s σ H x y v u Q I i f h;obtain⟨a,b,g,E,rfl,rfl,j,c,n,q⟩:=h
 by_cases e:g=[]
 ·cases i
  cases f
  subst e;obtain⟨o,r,t,_⟩:=I.tuple (SqT.of j);obtain⟨w,r2,A,_⟩:=I.tuple (SqT.of c);have C := r.nil_iff.mpr rfl;subst C;obtain⟨⟨c1,d1,D,s1⟩,k,F,n1,z⟩:=id t;obtain⟨⟨c2,d2,B,s2⟩,l,J,n2,G⟩:=id A;subst F z J G
  exact concat_meets ⟨_,k,rfl⟩ ⟨_,l,rfl⟩ jg seq_tuple_add jh ji (jj _ _)
   (tuple_addW0 a b _ _ _ _ _ _ _ _ (by simp)) ⟨k,l,⟨.ref b,H,I,rfl,q b H (λ_ _ e=>e) c⟩⟩
 ·refine Br5 _ s _ H _ _ v u Q I i f ⟨a,b,g,E,rfl,rfl,SqT.of j,SqT.of c,e,n,λK=>?_,λK p m=>?_⟩
  ·exact q a H (λ_ _ e=>e) (by simp_all)
  ·exact q p _ (Bl m _) Aq
end
section
variable {P:u6}{w:World}{A:t_}{E:z_}{s:u_}
theorem B3f (quiet:A.handled=none)(t:Bool)(j u:Addr)(ne:u≠j)(vs:v7):Draws P w A j [j,u] vs.size (λi v=>vs[i]?=some v) (λi h=>ItAt t h j u i/\SqA t h u vs) where
 live:=λi h x=>let ⟨o,e,_⟩:=x.1.obj; ⟨o,e⟩
 frame:=λi h h' x k=>⟨x.1.stay λo e=>k j (by simp) o e,x.2.stay λo e=>k u (by simp) o e⟩
 item:=λi s Q E hi x q=>next_item x.1 x.2 (x:=vs[i]) (by simp[hi]) λh' a b=>q _ h' s.toks (by simp[hi]) ⟨a,x.2.stay λo e=>b.extBut _ _ ne e⟩ b
 done:=λs Q E x q=>next_end quiet x.1 x.2 (by simp) q
theorem At7 (u:Addr)(vs:v7)(n:Nat)(b:Option Addr)(l:Array (u9)) :
 Meets (Builtin.«enumerate.__new__» ⟨[.type "enumerate",.ref u],[]⟩) (λ_ R s=>s.heap.get? u=some { cls:=.type "tuple",dict:=b,data:=.seq vs n,slots:=l } /\
  R (.ok (.ret (.ref (s.heap.push (itO true u)).objs.size))) { s with heap:=(s.heap.push (itO true u)).push { cls:=.type "enumerate",data:=.fields #[.none,.bool false,.ref s.heap.objs.size,rawInt 0,.none,.none] } }) :=
 .of_wp λP w A R s h=>by
  obtain⟨i,g,d,f,k⟩:=s;obtain⟨e,h⟩:=h;have j:=sub_enumerate;have a:Heap.IsTuple (Shared.heap ⟨i,g,d,f,k⟩) u vs:=⟨_,e,rfl,n,rfl⟩
  wp_walk using iT e
  refine wpAny_stack_any λm=>ak ?_
  split
  ·rename_i c _ _ _ _ _
   cases (c==Value.type "enumerate")
   ·wp_walk using iT e,dR a
    exact⟨_,rfl,h⟩
   ·wp_walk using iT e,dR a
    exact⟨_,rfl,h⟩
  ·wp_walk using iT e,dR a
   exact⟨_,rfl,h⟩
theorem An2 (p:SqA t s.heap u vs)
 (q:∀f,IsEnum f (s.heap.objs.size+1) s.heap.objs.size 0 .none->ItAt t f s.heap.objs.size u 0->(∀c o,s.heap.get? c=some o->f.get? c=some o)->Q (.ref (s.heap.objs.size+1)) { s with heap:=f }) :
 wpAny (model P w) A (call (.type "enumerate") [.ref u]) Q E s:=by
 cases t
 ·exact call_enumerate_list p λf a b c d=>q f a b d
 ·obtain⟨⟨c,i,m,l⟩,e,k,n,g⟩:=p
  simp only at k g;subst k g
  apply callType_new F.called_enumerate (by decide) (F.typeCall_enumerate_1 _) (F.newCall_enumerate_1 _) (λo=>jy o _) F.entry_enumerate_new (At7 u vs n i l)
  refine⟨e,?_⟩
  have j:(s.heap.push (itO true u)).objs.size=s.heap.objs.size+1:=c7 ..;have h:IsEnum ((s.heap.push (itO true u)).push { cls:=.type "enumerate",data:=.fields #[.none,.bool false,.ref s.heap.objs.size,rawInt 0,.none,.none] }) (s.heap.push (itO _ u)).objs.size _ 0 _:=aJ _ rfl;rw[j]at h;rw[j]
  exact⟨⟨_,h,rfl⟩,q _ h (Ar6 (aC _ (aJ _ rfl))) λc o x=>aC _ (aC _ x)⟩
end
def Ite (t:Bool)(a:Addr):It :=
 ⟨
  λi H=>∃xs x,SqK t H a xs/\xs[i]?=some x,
  λi H v H'=>∃p x,v=.ref p/\H p=none/\H'=upd H p (.tup [.int i,x])/\∀xs,SqK t H a xs->xs[i]?=some x,
  λi H=>∃xs,SqK t H a xs/\xs.length<=i⟩
theorem A5b {P:u6}{w:World}{K:v9}{t:Bool}{elts:v_}{kk:Nat}{pos:Pos}{e j a:Addr}(ne:e≠j) :
 Turn P w K (.Tuple elts kk pos) (Ite t a) [e,j] e (λi h=>(∃old,IsEnum h e j i old)/\ItAt t h j a i) where
 mem:=by simp
 obj:=λi h st c hc=>by
  simp only[aD,aY,a_]at hc
  rcases hc with rfl | rfl
  ·obtain⟨old,q⟩:=st.1;exact⟨_,q,λv e=>by cases e⟩
  ·obtain⟨o,e,q⟩:=st.2.obj;exact⟨o,e,λv e=>by rw[q]at e;cases e⟩
 keep:=λi h h' st k=>by
  obtain⟨⟨old,q⟩,r⟩:=st
  exact⟨⟨old,k e (by simp) _ q⟩,r.stay λo e=>k j (by simp) o e⟩
 item:=by
  intro X hP hw hK hc i pins s σ H E I hf st hg;subst hP hw hK;obtain⟨xs,x,ha,hx⟩:=hg;obtain⟨⟨old,en⟩,it⟩:=st;obtain⟨its,rv,pa⟩:=ha.its I;obtain⟨u,hu,ru⟩:=rv.get hx
  have off:∀c∈[e,j],a≠c:=λc m z=>by obtain⟨o,q⟩:=ha.some;rw[z,(hf c m).1]at q;cases q
  have dr:=B3f (P:=X.prog) (w:=X.w) (A:=X.A.in1) (I.ok.hd hc) t j a (off j (by simp)) its.toArray
  have li:i<its.toArray.size:=by simpa using (bG.mp hu).1
  refine wpAny_pyNext_enum_itemD dr en ⟨it,pa⟩ li ne (by simp;exact⟨ne,λz=>off e (by simp) z.symm⟩) λu' h1 tk pu ou st1 new _ kp=>?_
  have eu:u'=u:=by
   have pu:its.toArray[i]?=some u':=pu;rw[List.getElem?_toArray,hu]at pu;cases pu;rfl
  subst eu
  refine⟨_,rfl,?_⟩
  apply wpAny_letOwnedTupleGo_enum ou;intro h2 en2 sb
  have lt:∀c∈[e,j],c<s.heap.objs.size:=λc m=>by
   simp only[aD,aY,a_]at m
   rcases m with rfl | rfl
   ·exact az en
   ·obtain⟨o,e,_⟩:=it.obj;exact az e
  have new2:h2.get? s.heap.objs.size=some { cls:=.type "tuple",data:=.seq #[.int i tk,u'] }:=sb.extBut _ _ (bU (lt e (by simp))) new
  have ok:zE X.prog X.w (upd H s.heap.objs.size (.tup [.int i,x])) h2 s.heap.objs.size (.tup [.int i,x]):=⟨(show 2<=sizeLine by decide),[.int i tk,u'],.cons ⟨tk,rfl⟩ (.cons ru .nil),⟨_,new2,rfl,⟨_,rfl⟩,rfl⟩⟩
  have I2:=I.turnLay (t':=tk+1) hf (h':=h2) (λc o m q=>sb.extBut _ _ (λz=>m (by simp[z])) (kp c o (λz=>m (by simp[z])) (λz=>m (by simp[z])) q)) (au _) ok
  refine⟨.ref s.heap.objs.size,_,I2,rfl,⟨_,x,rfl,I.hok.fresh (au _),rfl,λxs' h=>?_⟩,⟨⟨u',?_⟩,?_⟩,λc m=>?_⟩
  ·rw[h.one ha];exact hx
  ·have:IsEnum h2 e j ((i:Int)+1) u':=en2
   simpa using this
  ·exact st1.1.stay λo q=>sb.extBut _ _ (aF ne) q
  ·rw[Ag (aM (lt c m))]
   exact(hf c m).1
 done:=by
  intro X hP hw hK hc i pins s σ H E I hf st hg;subst hP hw hK;obtain⟨xs,ha,hl⟩:=hg;obtain⟨⟨old,en⟩,it⟩:=st;obtain⟨its,rv,pa⟩:=ha.its I
  have off:∀c∈[e,j],a≠c:=λc m z=>by obtain⟨o,q⟩:=ha.some;rw[z,(hf c m).1]at q;cases q
  have ty:s.TypeIs (.ref e) "enumerate" := ⟨_,en,rfl⟩;have ln:=rv.length;unfold pyNext;apply aj;apply cN
  refine b_ (name:="__next__") ty F.slot_enumerate_next ?_
  refine bA F.slot_enumerate_next ty F.entry_enumerate_next ?_ (F.args_enumerate_next_1 _)
  apply aj (m:=field (.ref e) 2);apply aX en rfl (x:=.ref j) rfl;apply aj
  refine next_end (I.ok.hd hc) it pa (by simp;lia) λh1 x kp hx=>?_
  obtain⟨o,e1,e2⟩:=hx;apply aj
  refine cZ (T := "StopIteration") (b:=true) ⟨o,e1,e2⟩ fj ?_
  exact ak ⟨rfl,I.turnL (t':=s.toks) hf λc o m q=>kp c o (λz=>m (by simp[z])) q⟩
 self:=λ_ _ _ _ _ st h=>let ⟨_,q⟩:=st.1;wpAny_pyIter_enum q h
theorem Au7:bootBuiltins "enumerate" = some (.type "enumerate"):=by decide +kernel
section
variable {X:Cx}
def Bw3 (ta:TA):TI:=λσ H R=>ta σ H λvs H1=>∃a,vs=[.ref a]/\∃t xs,SqK t H1 a xs/\R (Ite t a) H1
theorem Bi8 (hg:Gl X "enumerate") (hm:X.mg "enumerate" = none) (ha:QA X [a] i) (hs1:isStar a=false:=by rfl) :
 QI X (.Tuple d v b) (.Call (.Name "enumerate" p) [a] [] f) (Bw3 i):=by
 refine⟨?_⟩
 intro j s σ H R I h
 refine Call_ (Lj I hg hm Au7 (eN (thn (ha.1 _ _ s _ H _ I h) λus x ⟨vs,o,e,r,u⟩=>?_) (Ez (es:=[]) (env:=X.env) hs1) rfl))
 obtain⟨a',rfl,t,xs,l,q⟩:=u;obtain⟨w,rfl,m⟩:=vals1 r
 cases (show w=Value.ref _ from m)
 obtain⟨n,rv,y⟩:=l.its e
 refine An2 y λh' k z A=>?_
 apply wpAny_pyIter_enum k
 refine⟨_,_,_,_,o,rfl,e.kept A,A5b (bU (eY _)),⟨⟨_,k⟩,z⟩,λc hc=>?_,q⟩
 have g:x.heap.objs.size<=c:=by
  grind
 exact e.fpOk g (e.hok.fresh g)
end
section
variable {X:Cx}
def Bu9 (i j k:Nat)(ta:TA):TS:=λD σ H=>ta σ H λvs H1=>∃v w y,vs=[v,w,y]/\D.nx (((σ.set i (some v)).set j (some w)).set k (some y)) H1
theorem Bs2 {i j k:Nat}{x y z:Str}{a b c:Expr}{M:TA}{t r B u:Pos}{C k2 f}(hc:X.calm=true)(hN:X.N.Nodup)(hi:X.N[i]?=some x)(hj:X.N[j]?=some y)(hk:X.N[k]?=some z)(hij:i≠j)(hik:i≠k)(hjk:j≠k)
 (hx:X.env.scope.names.lookup x=some .local) (hy:X.env.scope.names.lookup y=some .local) (hz:X.env.scope.names.lookup z=some .local) (ha:QA X [a,b,c] M)
 (hw:swappedStores [.Tuple [.Name x t,.Name y r,.Name z B] C u] (.Tuple [a,b,c] k2 f) X.env=pure (some [x,y,z]))
 (hs:swapsWithSole [.Tuple [.Name x t,.Name y r,.Name z B] C u] (.Tuple [a,b,c] k2 f) pos.line X.env=pure false:=by rfl) :
 QS X (.Assign [.Tuple [.Name x t,.Name y r,.Name z B] C u] (.Tuple [a,b,c] k2 f) pos) (Bu9 i j k M):=by
 refine⟨?_⟩
 intro d s N H D I h;rw[exec_Assign_arm]
 refine aj (cT ?_)
 rw[hs]
 refine aj (ak ?_)
 rw[if_neg (by decide)]
 refine aj (Tuple_ (thn (ha.1 _ d s N H _ I h) λW g ⟨vs,L,R,V,A⟩=>?_))
 obtain⟨v,w,y',P,A⟩:=A;subst P
 obtain⟨n,m,l,rfl,Q,F,S⟩:∃n m l,W=[n,m,l]/\RelV v n/\RelV w m/\RelV y' l:=by
  cases V with
  | cons p q =>
   cases q with
   | cons T U =>
    cases U with
    | cons E G =>
     cases G
     exact⟨_,_,_,rfl,p,T,E⟩
 refine bN ?_ (by show 3<=sizeLine;decide)
 have Y:Inv X d N L { g with heap:=g.heap.push { cls:=.type "tuple",data:=.seq [n,m,l].toArray } }:=R.kept (t':=g.toks) λb o e=>aC _ e
 rw[hw]
 refine aj (ak ?_)
 show wpAny (model X.prog X.w) X.A (do rule "assign.swapped-stores";let items <- unpackItems (.ref g.heap.objs.size) 3 none;assignInOrder [λv=>bindName X.env z v,λv=>bindName X.env y v,λv=>bindName X.env x v] items.reverse;pure Flow.next) _ _ _
 refine aj (cJ (aj (unpackItems_tuple (items:=#[n,m,l]) (I.ok.hd hc) (IsTup.new g.heap _) λO J=>?_)))
 show wpAny _ _ (assignInOrder [λv=>bindName X.env z v,λv=>bindName X.env y v,λv=>bindName X.env x v] [l,m,n] >>= λ_=>pure Flow.next) _ _ _
 refine aj (fK (gG (Gp (Y.kept (h':=O) (t':=g.toks) λb o e=>J b o (aM (az e)) e) hN hk (.inl hz) S (λs2 Z=>?_) (.inr hz))))
 refine fK (gG (Gp Z hN hj (.inl hy) F (λs3 I5=>?_) (.inr hy)))
 refine fK (gG (Gp I5 hN hi (.inl hx) Q (λs4 K=>je (ak ?_)) (.inr hx)))
 rw[iz _ _ (aF hij),iz _ _ (aF hik),iz _ _ (aF hjk)]at K;exact⟨_,L,K,A⟩
end
section
variable {X:Cx}{a b:Expr}{ta tb:TE}{pos:Pos}
def B3m (neg:Bool):R2:=λx y H Q=>∃d ds,Tr H d x/\(Tr H (.list ds) y\/Tr H (.tuple ds) y)/\Flat d/\PyData.canLayAll0 ds=true/\Q (.bl (if neg then !ds.any (λe=>PyData.eqv e d) else ds.any λe=>PyData.eqv e d)) H
theorem Ra (hu:X.A.units+64<cLine)(ha:QE X a ta)(hb:QE X b tb)(hm:behindInMarks .NotIn b=false):QE X (.Compare a [.NotIn] [b] pos) (tOp (B3m true) ta tb):=⟨Ac2 (Zz hu) ha.1 hb.1 hm⟩
theorem Gx (hu:X.A.units+64<cLine)(ha:QE X a ta)(hb:QE X b tb)(hm:behindInMarks .NotIn b=false):QT X (.Compare a [.NotIn] [b] pos) (O6 (tOp (B3m true) ta tb)):=⟨Jq (Zz hu) ha.1 hb.1 hm⟩
end
end L2
set_option autoImplicit true
namespace L2
open PySem PySem.Spec PyProof.Rows
theorem Af : QE X (.Constant (.int i) j a) (tC (.int i)) :=
 ⟨A8l ⟩
theorem O7 : QE X (.Constant (.bool b) j a) (tC (.bl b)) :=
 ⟨Bw8 ⟩
theorem Jb : QE X (.Constant .none j a) (tC .non) :=
 ⟨A7q ⟩
theorem J7 : QE X (.Constant (.str x) j a) (tC (.str x)) :=
 ⟨Bc9 ⟩
theorem Bq7 (hg:Gl X x) (hm:X.mg x=some u) (r:RelV v u) (hd:(x==("__debug__" : Str))=false:=by decide):QE X (.Name x a) (tC v) :=
 ⟨Br4 (hg:=hg) (hm:=hm) (r:=r) (hd:=hd)⟩
theorem Eo {a:Pos}(hg:Gl X x) (hm:X.mg x=none) (hv:bootBuiltins x=some u) (r:RelV v u) (hn:x ≠ "__name__" := by decide) (hd:(x==("__debug__" : Str))=false:=by decide):QE X (.Name x a) (tC v) :=
 ⟨Bi4 (hg:=hg) (hm:=hm) (hv:=hv) (r:=r) (hn:=hn) (hd:=hd)⟩
theorem Ae4 (h:QE X a t):QE X (.BoolOp op [a] pos) t :=
 ⟨B1u (h:=h.get)⟩
theorem Bs : QSs X [] Bh9 :=
 ⟨Bk0 ⟩
theorem Aj (h1:QS X stm t):QSs X [stm] t :=
 ⟨A1p (h1:=h1.get)⟩
theorem Kg : QS X stm As6 :=
 ⟨Bd3 ⟩
theorem Fy (a:X.K=Kq) {k:Nat} (hc:X.calm=true) (h:QGs X es t) (hn:(assignEach es X.env).length=n:=by rfl) (hst:(assignEach es X.env).findIdx? (·.1)=none:=by rfl):QG X (.Tuple es k pos) (Av9 Kq n t):=by
 subst a;exact⟨B2p (hc:=hc) (h:=h.get) (hn:=hn) (hst:=hst)⟩
theorem Bh (hN:X.N.Nodup) (he:QE X e b) (hi:X.N[i]?=some x:=by exact rfl) (hx:Loc X.env.scope x:=by first | exact Or.inl rfl | exact Or.inr rfl) (hs:swapsWith e (some (.Name x a)) pos.line X.env=pure false:=by rfl) (hf:X.fn x=true\/X.env.scope.names.lookup x=some .local:=by first | exact .inl rfl | exact .inr rfl | assumption):QS X (.Assign [.Name x a] e pos) (Ut b (Gz i)) :=
 ⟨A9q (hN:=hN) (hi:=hi) (hx:=hx) (he:=he.get) (hs:=hs) ⟩
theorem Dg (a:X.K=Kq) (hl:QE X l b):QI X c l (B2d Kq b):=by
 subst a;exact⟨By8 (hl:=hl.get)⟩
theorem Ac : QA X [] Fb :=
 ⟨Ab2 ⟩
theorem Ad (ha:QE X e te)(hr:QA X es t)(hs:isStar e=false:=by rfl):QA X (e::es) (Bv te t) :=
 ⟨B2s (ha:=ha.get) (hr:=hr.get) (hs:=hs)⟩
theorem Wx (F:FnOk X.prog X.w X.K X.mg X.base CX k f fd ps sp)(hr:Room k X.A)(hg:Gl X x)(hm:X.mg x=some (.ref f))(hk:PySem.W.keepIn X.K (.ref f)=true)(hb:Binds X.K fd ps ds)(hd:Vals dvs ds)(hx:Ms CX X E)(ha:QA X (e::es) t)(hdb:(x==("__debug__" : Str))=false:=by decide) (hn:noStar (e::es)=true:=by rfl):QE X (.Call (.Name x p) (e::es) [] pos) (Pa sp dvs E t) :=
 ⟨Bd8 (F:=F) (hr:=hr) (hg:=hg) (hm:=hm) (hk:=hk) (hb:=hb) (hd:=hd) (hx:=hx) (ha:=ha.get) (hdb:=hdb) (hn:=hn)⟩
theorem Vy (a:X.K=Kq) (pa:PlainAttrs T) (slot:Slot T name idn) (hty:typeOf (.builtin idn)=pure (.type "method_descriptor")) (hm:MtR X idn r) (ho:QE X o to) (ha:QA X (e::es) t) (hbase:attributeBase o name X.env (eval o X.env)=eval o X.env:=by rfl) (hfew:((backTo cpos (starEach (e::es) X.env)).all (λx=>!x.1)&&(backToKw cpos (keywordEach [] X.env)).all (λx=>x.1.isSome)
 && decide ((e::es).length+([]:List Keyword).length+(if ([]:List Keyword).isEmpty then 0 else 1)<30))=true:=by rfl) (hline:(apos.endLine==cpos.line)=true:=by rfl) (hs:starEach (e::es) X.env=(false,eval e X.env)::starEach es X.env:=by rfl) (hplain:(backTo cpos (starEach es X.env)).any (·.1)=false:=by rfl):QE X (.Call (.Attribute o name apos) (e::es) [] cpos) (tBM Kq T r to t):=by
 subst a;exact⟨Bv3 (pa:=pa) (slot:=slot) (hty:=hty) (hm:=hm) (ho:=ho.get) (ha:=ha.get) (hbase:=hbase) (hfew:=hfew) (hline:=hline) (hs:=hs) (hplain:=hplain)⟩
theorem Ir (b:X.K=Kq) (ho:QE X a ta) (hv:QE X e te) (hbase:attributeBase a "append" X.env (eval a X.env)=eval a X.env:=by rfl) (hfew:((backTo cpos (starEach [e] X.env)).all (λx=>!x.1)&&(backToKw cpos (keywordEach [] X.env)).all (λx=>x.1.isSome)
 && decide ([e].length+([]:List Keyword).length+(if ([]:List Keyword).isEmpty then 0 else 1)<30))=true:=by rfl) (hline:(apos.endLine==cpos.line)=true:=by rfl) (hns:isStar e=false:=by rfl):QE X (.Call (.Attribute a "append" apos) [e] [] cpos) (tBM Kq "list" rAppF ta (Bv te Fb)):=by
 subst b;exact⟨A5a (ho:=ho.get) (hv:=hv.get) (hbase:=hbase) (hfew:=hfew) (hline:=hline) (hns:=hns)⟩
theorem Bt0 : QTs X [] Bm9 :=
 ⟨Bo9 ⟩
theorem qtN:∀a b c d e,QTs (Ei X N' scope a b c d e) [] Bm9:=λ_ _ _ _ _=>Bt0
theorem Ot (h:QT X c t):QTs X [c] t :=
 ⟨Bm4 (h:=h.get)⟩
theorem Gy (L:Ik X N' idx scope)(hc:X.calm=true)(hi:QI X tg iter wi)(hg:∀d C b a c,QG (Ei X N' scope d C b a c) tg g)(ht:∀d C b a c,QTs (Ei X N' scope d C b a c) ifs tc)(he:∀d C b a c,QE (Ei X N' scope d C b a c) elt te)(hs:∀x,foldedSetIterable iter X.env x=pure x:=by intro _;rfl):QE X (.ListComp elt [⟨tg,iter,ifs,0⟩] scope pos) (tLC idx wi g tc te) :=
 ⟨B4o (L:=L) (hc:=hc) (hi:=hi.get) (hg:=λd C b a c=>(hg _ C _ _ _).get) (ht:=λd C b a c=>(ht _ C _ _ _).get) (he:=λd C b a c=>(he _ C _ _ _).get) (hs:=hs)⟩
theorem M4 {f d:Pos}(hN:X.N.Nodup) (hi':X.N[i]?=some y) (hy:Loc X.env.scope y) (L:Ik X N' idx scope) (hc:X.calm=true) (hi:QI X tg iter wi) (hg:∀e C b a c,QG (Ei X N' scope e C b a c) tg g) (ht:∀e C b a c,QTs (Ei X N' scope e C b a c) ifs tc) (he:∀e C b a c,QE (Ei X N' scope e C b a c) elt te) (hsw:swapsWith (.ListComp elt [⟨tg,iter,ifs,0⟩] scope pos) (some (.Name y f)) d.line X.env=pure true:=by rfl) (hf:X.fn y=true\/X.env.scope.names.lookup y=some .local:=by first | exact .inl rfl | exact .inr rfl | assumption) (hs:∀x,foldedSetIterable iter X.env x=pure x:=by intro _;rfl):QS X (.Assign [.Name y f] (.ListComp elt [⟨tg,iter,ifs,0⟩] scope pos) d) (Ut (tLC idx wi g tc te) (Gz i)) :=
 ⟨Ba5 (hN:=hN) (hi':=hi') (hy:=hy) (L:=L) (hc:=hc) (hi:=hi.get) (hg:=λe C b a c=>(hg _ C _ _ _).get) (ht:=λe C b a c=>(ht _ C _ _ _).get) (he:=λe C b a c=>(he _ C _ _ _).get) (hsw:=hsw) (hs:=hs)⟩
theorem Ue (a:X.K=Kq) (hgl:Gl X "abs") (hm:X.mg "abs" = none) (ha:QA X (e::es) t) (hns:noStar (e::es)=true:=by rfl):QE X (.Call (.Name "abs" p) (e::es) [] pos) (tCB (Pr Kq) t):=by
 exact⟨Ap3 (hgl:=hgl) (hm:=hm) (ha:=ha.get) (hns:=hns)⟩
theorem Cu (a:X.K=Kq) (hgl:Gl X "isinstance") (hm:X.mg "isinstance" = none) (ha:QA X (e::es) t) (hns:noStar (e::es)=true:=by rfl):QE X (.Call (.Name "isinstance" p) (e::es) [] pos) (tCB (Qi Kq) t):=by
 exact⟨Al6 (hgl:=hgl) (hm:=hm) (ha:=ha.get) (hns:=hns)⟩
theorem Af0 (a:X.K=Kq) (hgl:Gl X "isinstance") (hm:X.mg "isinstance" = none) (ha:QA X (e::es) t) (hns:noStar (e::es)=true:=by rfl):QE X (.Call (.Name "isinstance" p) (e::es) [] pos) (tCB (Jz Kq) t):=by
 exact⟨Aa0 (hgl:=hgl) (hm:=hm) (ha:=ha.get) (hns:=hns)⟩
theorem Q8 (a:X.K=Kq) (hc:X.calm=true) (hgl:Gl X "all") (hm:X.mg "all" = none) (ha:QA X (e::es) t) (hns:noStar (e::es)=true:=by rfl):QE X (.Call (.Name "all" p) (e::es) [] pos) (tCB (Mu Kq) t):=by
 subst a;exact⟨Z9 (hc:=hc) (hgl:=hgl) (hm:=hm) (ha:=ha.get) (hns:=hns)⟩
theorem Gs (a:X.K=Kq) (hgl:Gl X "int") (hm:X.mg "int" = none) (ha:QA X (e::es) t) (hns:noStar (e::es)=true:=by rfl):QE X (.Call (.Name "int" p) (e::es) [] pos) (tCB (Nr Kq) t):=by
 exact⟨Ac3 (hgl:=hgl) (hm:=hm) (ha:=ha.get) (hns:=hns)⟩
theorem Am (a:X.K=Kq) (hgl:Gl X "tuple") (hm:X.mg "tuple" = none) (ha:QA X (e::es) t) (hns:noStar (e::es)=true:=by rfl):QE X (.Call (.Name "tuple" p) (e::es) [] pos) (tCB (Hv Kq) t):=by
 subst a;exact⟨Tv (hgl:=hgl) (hm:=hm) (ha:=ha.get) (hns:=hns)⟩
theorem Fv (a:X.K=Kq) (hgl:Gl X "list") (hm:X.mg "list" = none) (ha:QA X (e::es) t) (hns:noStar (e::es)=true:=by rfl):QE X (.Call (.Name "list" p) (e::es) [] pos) (tCB (Jj Kq) t):=by
 subst a;exact⟨Um (hgl:=hgl) (hm:=hm) (ha:=ha.get) (hns:=hns)⟩
theorem Aa2 (a:X.K=Kq) (hc:X.calm=true) (hgl:Gl X "min") (hm:X.mg "min" = none) (ha:QA X (e::es) t) (hns:noStar (e::es)=true:=by rfl):QE X (.Call (.Name "min" p) (e::es) [] pos) (tCB (Nh Kq) t):=by
 exact⟨Ab8 (hc:=hc) (hgl:=hgl) (hm:=hm) (ha:=ha.get) (hns:=hns)⟩
theorem Sy (h:Sd es=some vs):QA X es (tK vs):=⟨Z2 h⟩
theorem QW.qt (h:QW X e t):QT X e t:=⟨h.get.pt⟩
theorem qv (i:Nat) {a:Pos}(hN:X.N[i]?=some x:=by rfl) (hv:Vis X.env.scope x:=by first | exact Or.inl rfl | exact Or.inr (Or.inl rfl) | exact Or.inr (Or.inr rfl)) (hd:(x==("__debug__" : Str))=false:=by decide) (hcd:(x==("__classdict__" : Str))=false:=by decide):QE X (.Name x a) (Rw i):=⟨Ae1 hN hv hd hcd⟩
end L2
namespace L2
open PySem
theorem At1 (h:QSs X st t) (k:t D a H):∃t,PSs X st t/\t D a H:=⟨t,h.get,k⟩
theorem Ul:Eg "NoneType" "int" = some false:=by trivial
theorem Uo:Eg "NoneType" "str" = some false:=by trivial
theorem T3:Eg "NoneType" "bool" = some false:=by trivial
theorem Sh:Eg "NoneType" "list" = some false:=by trivial
theorem Rb:Eg "NoneType" "tuple" = some false:=by trivial
theorem Ap7:Eg "bool" "int" = some true:=by trivial
theorem Aj0:Eg "bool" "str" = some false:=by trivial
theorem Ac9:Eg "bool" "bool" = some true:=by trivial
theorem Z8:Eg "bool" "list" = some false:=by trivial
theorem Yg:Eg "bool" "tuple" = some false:=by trivial
theorem Ay4:Eg "int" "int" = some true:=by trivial
theorem Ay3:Eg "int" "str" = some false:=by trivial
theorem Aq5:Eg "int" "bool" = some false:=by trivial
theorem Ak9:Eg "int" "list" = some false:=by trivial
theorem Z7:Eg "int" "tuple" = some false:=by trivial
theorem Au3:Eg "str" "int" = some false:=by trivial
theorem Au6:Eg "str" "str" = some true:=by trivial
theorem Ap6:Eg "str" "bool" = some false:=by trivial
theorem Ar1:Eg "str" "list" = some false:=by trivial
theorem Ac6:Eg "str" "tuple" = some false:=by trivial
theorem Al9:Eg "list" "int" = some false:=by trivial
theorem Ao7:Eg "list" "str" = some false:=by trivial
theorem Ag1:Eg "list" "bool" = some false:=by trivial
theorem Ae0:Eg "list" "list" = some true:=by trivial
theorem Yx:Eg "list" "tuple" = some false:=by trivial
theorem Af8:Eg "tuple" "int" = some false:=by trivial
theorem Aa1:Eg "tuple" "str" = some false:=by trivial
theorem Yc:Eg "tuple" "bool" = some false:=by trivial
theorem Yt:Eg "tuple" "list" = some false:=by trivial
theorem X7:Eg "tuple" "tuple" = some true:=by trivial
section
variable {H:Hp}{a:Addr}
theorem By2 (h:H a=some (.lst xs)):O8 H (.ref a)=some "list" := by simp only[O8,h]
theorem B0u (h:H a=some (.tup xs)):O8 H (.ref a)=some "tuple" := by simp only[O8,h]
theorem Bs8 (h:H a=some (.lst xs)):A5n H (.ref a)=some xs.length:=by simp only[A5n,h]
theorem Bl6 (h:H a=some (.tup xs)):A5n H (.ref a)=some xs.length:=by simp only[A5n,h]
end
abbrev g2 (K:v9)(i j:Nat):TG:=Av9 K 2 (Ni (Gz i) (Ni (Gz j) Au8))
theorem exc {R:Addr->Addr->m6->m6->Prop}{x y:Addr}:(∃a b xs ys,V.ref x=V.ref a/\V.ref y=V.ref b/\R a b xs ys)↔∃xs ys,R x y xs ys:=by
 constructor
 ·rintro⟨a,b,xs,ys,e1,e2,h⟩;cases e1;cases e2;exact⟨xs,ys,h⟩
 ·rintro⟨xs,ys,h⟩;exact⟨x,y,xs,ys,rfl,rfl,h⟩
mutual
noncomputable def noL:t6->Bool
 | .none=>true
 | .bool _=>true
 | .int _=>true
 | .str _=>true
 | .tuple ds=>Tz ds
 | .list _=>false
 | .dict _=>false
noncomputable def Tz:w5->Bool
 | []=>true
 | d::r=>noL d&&Tz r
end
theorem TrL.get {H:Hp}:∀{ds:w5}{vs:m6}{k:Nat}{v:V},TrL H ds vs->vs[k]?=some v->∃d,ds[k]?=some d/\Tr H d v
 | [],_,k,v,h,e=>by cases (show _=[] from h);simp at e
 | d::r,_,0,v,⟨_,_,rfl,q,_⟩,e=>by simp at e;subst e;exact⟨d,rfl,q⟩
 | d::r,_,k+1,v,⟨_,_,rfl,_,q⟩,e=>by simp at e;simpa using TrL.get q e
theorem TrL.got {H:Hp}:∀{ds:w5}{vs:m6}{k:Nat}{d:t6},TrL H ds vs->ds[k]?=some d->∃v,vs[k]?=some v/\Tr H d v
 | [],_,k,d,h,e=>by simp at e
 | d::r,_,0,_,⟨v,_,rfl,q,_⟩,e=>by simp at e;subst e;exact⟨v,rfl,q⟩
 | d::r,_,k+1,_,⟨_,_,rfl,_,q⟩,e=>by simp at e;simpa using TrL.got q e
theorem TrL.app {H:Hp}:∀{ds es:w5}{vs us:m6},TrL H ds vs->TrL H es us->TrL H (ds++es) (vs++us)
 | [],es,_,us,h,q=>by cases (show _=[] from h);exact q
 | d::r,es,_,us,⟨v,vr,rfl,q1,q2⟩,q=>⟨v,vr++us,rfl,q1,TrL.app q2 q⟩
theorem TrL.one (h:Tr H d v):TrL H [d] [v]:=⟨v,[],rfl,h,rfl⟩
theorem Ad9 (h:∀d∈ds,noL d=true):Tz ds=true:=by
 induction ds with
 | nil=>rfl
 | cons a r b=>show (noL a&&Tz r)=true;grind
mutual
noncomputable def wt:t6->Nat
 | .none=>4
 | .bool _=>5
 | .int _=>1921
 | .str x=>10*x.length+2
 | .list xs=>Jv xs+4
 | .tuple xs=>Jv xs+4
 | .dict _=>0
noncomputable def Jv:w5->Nat
 | []=>0
 | x::xs=>wt x+2+Jv xs
end
theorem Ai8:∀(ts:v4) (k:Nat) (acc:Str),(textFrom k acc ts).length<=acc.length+(ts.map λt=>t.length+2).sum
 | [],k,acc=>au _
 | t::r,k,acc=>by
  have ih:=Ai8 r (k+1) (acc++(if k>0 then ", " else "" : String)++t)
  have e:(acc++(if k>0 then ", " else "" : String)++t).length<=acc.length+2+t.length:=by
   rw[dz,dz]
   split
   ·exact au _
   ·show acc.length+0+t.length<=_;lia
  show (textFrom (k+1) (acc++(if k>0 then ", " else "" : String)++t) r).length<=_
  rw[aG,List.sum_cons];lia
theorem Ba2 (ts:v4):(listText ts).length<=(ts.map λt=>t.length+2).sum+4:=by
 unfold listText;rw[dz]
 have:=Ai8 ts 0 "["
 have b:("[" : Str).length=1:=rfl
 have a:("]" : Str).length=1:=rfl
 lia
theorem Zf:∀ts:v4,piled ts=(ts.map λt=>t.length+2).sum
 | []=>rfl
 | t::r=>by rw[piled_cons,aG,List.sum_cons,Zf r]
theorem A6m (ts:v4):(tupleText ts).length<=(ts.map λt=>t.length+2).sum+4:=by
 unfold tupleText;rw[dz,dz]
 have b:("(" : Str).length=1:=rfl
 have c:(if ts.length==1 then (",)" : Str) else (")" : Str)).length<=2:=by split <;> decide
 have a:((if ts.length==1 then ",)" else ")" : String):Str).length<=2:=by grind
 by_cases h:ts=[]
 ·subst h;show 1+0+_<=_;grind
 ·have:=join_length_add _ h
  rw[Zf]at this;lia
mutual
theorem Am3:∀d:t6,d.canLay0=true->d.showable=true->d.shown.length<=wt d
 | .none,_,_=>by decide
 | .bool b,_,_=>by cases b <;> decide
 | .int i,_,h=>PyProof.Rows.int_text_len_1921 (by simpa[PyData.showable] using h)
 | .str x,h,_=>StrLaws.reprText_len x λc hc=>by
  have h:x.cps.all (·<0x110000)=true:=h
  have:=Array.all_eq_true_iff_forall_mem.mp h c (Array.mem_toList_iff.mp hc);have:=aZ this;lia
 | .list xs,h,s=>ao (Ba2 _) (Nat.add_le_add_right (Nv xs h s) 4)
 | .tuple xs,h,s=>ao (A6m _) (Nat.add_le_add_right (Nv xs h s) 4)
 | .dict kv,h,_=>nomatch h
theorem Nv:∀ds:w5,PyData.canLayAll0 ds=true->PyData.showableAll ds=true->((PyData.shownAll ds).map λt=>t.length+2).sum<=Jv ds
 | [],_,_=>au _
 | d::r,h,s=>by
  obtain⟨h1,h2⟩:=aA.mp (show (d.canLay0&&PyData.canLayAll0 r)=true from h)
  obtain⟨s1,s2⟩:=aA.mp (show (d.showable&&PyData.showableAll r)=true from s)
  have a:=Am3 d h1 s1;have b:=Nv r h2 s2
  show (((d.shown::PyData.shownAll r).map λt=>t.length+2).sum)<=wt d+2+Jv r
  rw[aG,List.sum_cons];lia
end
end L2
namespace HT
open PySem PySem.Spec PyProof.Rows
end HT
namespace L2
open PySem PySem.Spec PyProof.Rows
section
noncomputable def A0j (y:Str):Value->Bool
 | .str z _=>z==y
 | _=>false
theorem Ac8:∀{ss:v4}{us:w6},Vals (ss.map V.str) us->∀u∈us,∃z t,u=.str z t
 | [],_,r,u,hu=>by cases r;cases hu
 | s::ss,_,r,u,hu=>by
  cases r with
  | cons r1 r2 =>
   rcases aD.mp hu with rfl | hu
   ·obtain⟨t,rfl⟩:=r1;exact⟨s,t,rfl⟩
   ·exact Ac8 r2 u hu
theorem Zv (y:Str):∀{ss:v4}{us:w6},Vals (ss.map V.str) us->us.countP (A0j y)=ss.countP λz=>z==y
 | [],_,r=>by cases r;rfl
 | s::ss,_,r=>by
  cases r with
  | cons r1 r2 =>
   obtain⟨t,rfl⟩:=r1;rw[jz,jz,Zv y r2];rfl
end
end L2
namespace HT
open PySem PySem.Spec PyProof.Rows
section
variable {prog:u6}{w:World}{A:t_}{E:z_}{s:u_}
theorem O4 {lo hi:q9} (ht:IsTup s.heap t items) (hs:s.heap.IsSliceOf b g f .none) (pl:IsPart g lo) (i:IsPart f hi)
 (hw:sIx items.size 0 lo=0/\sIx items.size items.size hi=items.size) (h:Q (.ref t) s):wpAny (model prog w) A (getItem (.ref t) (.ref b)) Q E s:=by
 obtain⟨k,d,c,j⟩:=id hs;have e:s.TypeIs (.ref b) "slice" := ⟨k,d,c⟩;unfold getItem
 try with_reducible refine bH ?_
 first | refine aj (ak ?_) | skip
 refine aj (wpAny_sequenceKey ht.typeIs (by decide) ?_)
 refine aj (b_ (name:="__getitem__") ht.typeIs fO
  (bA fO ht.typeIs entry_tuple_getitem ?_ (args_tuple_getitem _ _)))
 show wpAny _ _ (Builtin.Tuple.tupleItemsOf (.ref t) >>= _) _ _ s
 refine aj (tupleItemsOf_ ht ?_)
 refine aj (dj e ?_)
 rw[if_pos (by decide)]
 refine aj (Ky hs pl i ?_)
 show wpAny _ _ (if (((sIx items.size 0 lo:Nat):Int)==0&&(1:Int)==1&&(sIx _ _ _-sIx _ 0 _)==items.size)=true then _ else _) _ _ s
 have a:(((sIx items.size 0 lo):Int)==0&&(1:Int)==1&&sIx items.size items.size hi-sIx items.size 0 lo==items.size)=true:=by
  rw[hw.1,hw.2];simp
 rw[if_pos a]
 refine aj (aj (dj ht.typeIs (ak ?_)))
 refine aj (cJ ?_)
 first
  | exact ak ⟨_,rfl,ak h⟩
  | exact aj _
  | exact aj _
  | trace_state
end
end HT
namespace L2
open PySem PySem.Spec PyProof.Rows
section
variable {X:Cx}
def Bx6 (K:v9):V->q9->q9->Hp->VK->Prop:=λx lo hi H Q=>∃a xs,x=.ref a/\SqT K H a xs /\
 (HT.sIx xs.length 0 lo=0/\HT.sIx xs.length xs.length hi=xs.length)/\Q (.ref a) H
theorem Bt2:SlR X (Bx6 X.K):=by
 intro d s σ H x v vl vu lo hi sl Q I k f g e h;obtain⟨a,xs,rfl,j,hw,q⟩:=h
 cases k
 obtain⟨i,r,c,hz⟩:=I.tuple j
 have b := by exact r.length.symm
 refine⟨"tuple",_,fO.lookup,c.typeIs,?_⟩
 exact HT.O4 c f g e (by grind) ⟨.ref a,H,I,rfl,q⟩
end
theorem Yq (l:Addr)(items:v7)(n:Nat)(dd:Option Addr)(sl:Array (u9))(x:Value)(e:Value->Bool)(j:Nat)(hj:j<items.size)
 (p:e items[j]=true) (hno:∀m (hm:m<items.size),m<j->e items[m]=false) :
 Meets (Builtin.«tuple.index» ⟨[.ref l,x],[]⟩)
  (λA R s=>s.heap.get? l=some { cls:=.type "tuple",dict:=dd,data:=.seq items n,slots:=sl }/\(∀y,y∈items->SeqAt.EqAt A.in1 s y x (e y))/\R (.ok (.ret (.int j s.toks))) { s with toks:=s.toks+1 }) :=
 .of_wp λf w A R s h=>by
  obtain⟨hp,g,d,tk,os⟩:=s;obtain⟨hl,he,h⟩:=h
  wp_walk using wpAny_loadPart' hl
  change wpAny _ _ (forIn (m:=Sem) [:min items.size items.size] ((none,()):Option Fin×Unit) _) _ _ _
  rw[Std.Legacy.Range.forIn_eq_forIn_range'];simp only[Std.Legacy.Range.size,fu,Nat.add_sub_cancel,Nat.div_one,fB]
  refine jd _ (λa b s'=>b.1=none/\s'=⟨hp,g,d,tk,os⟩/\∃i,i<=j/\a=List.range' i (items.size-i)) _ ?_ ?_ _ _ ⟨rfl,rfl,0,aP _,rfl⟩
  ·rintro y a b s' ⟨hb,rfl,i,c,k⟩
   have o:i<items.size:=bB c hj;have hd:items.size-i=(items.size-(i+1))+1:=(Nat.succ_pred_eq_of_pos (Nat.sub_pos_of_lt o)).symm;rw[hd,List.range'_succ]at k
   cases k
   have hg:items[y]?=some items[y]:=by simp[o]
   simp only[hg]
   refine aj (he _ (Array.getElem_mem o) f w _ _ ?_)
   rcases Nat.lt_or_eq_of_le c with lt | rfl
   ·rw[hno y o lt]
    wp_walk
    exact⟨rfl,rfl,y+1,lt,rfl⟩
   ·rw[p]
    wp_walk
    exact⟨_,rfl,h⟩
  ·rintro⟨b1,b2⟩ s' ⟨hb,rfl,i,c,k⟩
   have hz:=bY List.length k
   simp at hz
   lia
section
variable {X:Cx}
theorem A8b (y:Str){ss:v4} (r:Vals (ss.map V.str) us) (hm:m<us.length) (h2:m<ss.length):A0j y us[m]=(ss[m]==y):=by
 obtain⟨u,a,b⟩:=r.get (i:=m) (x:=V.str ss[m]) (by grind)
 obtain⟨t,rfl⟩:=b;rw[bz hm]at a
 injection a with a
 rw[a];rfl
def Ab4 (K:v9):V->m6->Hp->VK->Prop:=λx vs H Q=>∃(a:Addr) (ss:v4) (y:Str) (j:Nat),x=.ref a/\vs=[.str y]/\SqT K H a (ss.map V.str)/\ss[j]?=some y/\(∀m<j,ss[m]?≠some y)/\Q (.int (j:Nat)) H
theorem A4b:MtM X "tuple.index" (Ab4 X.K):=by
 intro i s σ H x vs v us Q I D A h;obtain⟨a,C,y,j,rfl,rfl,G,B,M,q⟩:=h
 cases D
 obtain⟨u,rfl,p⟩:=A.one;obtain⟨t,rfl⟩:=p;obtain⟨b,r,l,hz⟩:=I.tuple G
 obtain⟨o,e,k,n,f⟩:=(show s.heap.IsTuple a b.toArray from l)
 obtain⟨c0,dd,E,sl⟩:=o
 dsimp only at k f
 subst k f
 have c := by have:=r.length;simpa using this.symm
 obtain⟨g,ej⟩:=bG.mp B
 refine dm F.slot_tuple_index ⟨_,e,rfl⟩ F.entry_tuple_index (F.args_tuple_index_2 _ _) (Yq a _ n _ _ _ (A0j y) j (by simpa[c] using g) ?_ ?_) ⟨e,λw K=>?_,?_⟩
 ·have:=A8b y r (by lia) g
  simp_all
 ·intro m J L
  have:=A8b y r (by simpa using J) (by lia)
  grind
 ·obtain⟨z,t',rfl⟩:=Ac8 r w (by simpa using K)
  exact jm z _ y t
 ·exact⟨.int _,H,I.tok _,⟨_,rfl⟩,q⟩
theorem Wh (a:X.K=Kq):MtM X "tuple.index" (Ab4 Kq):=by
 subst a;exact A4b
end
section
variable {X:Cx}
noncomputable def B7g:V->Option Str
 | .non=>some (Str.ofString "None")
 | .bl b=>some (if b then Str.ofString "True" else Str.ofString "False")
 | .str x=>some x
 | _=>none
def Ui (K:v9):m6->Hp->VK->Prop:=λxs H Q=>∃x z,xs=[x]/\B7g x=some z/\Q (.str z) H
theorem A3a:CallR X (.type "str") (Ui X.K):=by
 intro d s σ H xs us Q I r h;obtain⟨x,z,rfl,a,q⟩:=h;obtain⟨u,rfl,c⟩:=vals1 r
 cases x with
 | non=>cases a;cases (c);exact P.str_of_none ⟨.str _,H,I.tok _,⟨_,rfl⟩,q⟩
 | bl b=>cases a;cases (c);exact P.str_of_bool ⟨.str _,H,I.tok _,⟨_,by trivial⟩,q⟩
 | str y=>cases a;obtain⟨t,rfl⟩:=c;exact P.str_of_str ⟨.str _,H,I,⟨_,rfl⟩,q⟩
 | _=>cases a
end
section
def B7h (ks:v4)(xs:m6):List (Key×V):=(ks.zip xs).map λp=>((Sum.inr p.1:Key),p.2)
end
noncomputable def Ba4:Value->Bool
 | .bool b=>b
 | _=>false
theorem A1j:∀{bs:List Bool}{us:w6},Vals (bs.map V.bl) us->us=bs.map Value.bool
 | [],us,h=>by cases h;rfl
 | b::bs,us,h=>by
  cases h with
  | cons r rs =>
   rw[A1j rs]
   cases r;rfl
section
variable {X:Cx}
def A2v (K:v9):V->m6->Hp->VK->Prop:=λx vs H Q=>∃(a:Addr) (bs:List Bool) (j:Nat),x=.ref a/\vs=[.bl true]/\SqL K H a (bs.map V.bl)/\bs[j]?=some true/\(∀m<j,bs[m]?≠some true)/\j<1000000/\Q (.int j) H
theorem A5z {Kq:v9}(hKq:X.K=Kq)(hu:X.A.units+64<cLine):MtM X "list.index" (A2v Kq):=by
 subst hKq;intro pins s σ H x vs v us Q I rx rv h;obtain⟨a,bs,j,rfl,rfl,hq,hj,hno,hjs,q⟩:=h
 cases rx
 obtain⟨u,rfl,ru⟩:=rv.one
 cases ru
 obtain⟨its,r,pl,hz⟩:=I.list hq
 cases A1j r
 obtain⟨o,n,e,hc,hdn,hd⟩:=pl;obtain⟨c0,dd,dat,sl⟩:=o
 dsimp only at hc hd hdn
 subst hc hd hdn;obtain⟨lj,ej⟩:=bG.mp hj
 refine dm F.slot_list_index ⟨_,e,rfl⟩ F.entry_list_index (F.args_list_index_2 _ _) (SeqAt.list_indexAt a (bs.map Value.bool).toArray n none sl (.bool true) Ba4 j (by simpa using lj) (by lia) ?_ ?_) ⟨e,λw hw=>?_,?_⟩
 ·simp[Ba4,ej]
 ·intro m hm hlt
  have hm':m<bs.length:=by simpa using hm
  have h2:=hno m hlt;rw[bz hm']at h2
  simpa[Ba4] using h2
 ·obtain⟨b,hb,rfl⟩:∃b∈bs,Value.bool b=w:=by simpa using hw
  have:=SeqAt.eqAt_reads (.bool b) (.bool true) X.A.in1 s _ _ _ _ (.bool b) (.bool true) rfl rfl (by show X.A.units+1+0<_;lia)
  cases b <;> exact this
 ·exact⟨.int _,H,I.tok _,⟨_,rfl⟩,q⟩
end
section
variable {X:Cx}
def B6i:V->q9->q9->Hp->VK->Prop:=λx lo hi H Q=>∃z:Str,x=.str z/\z.length<=sizeLine/\Q (.str (Txt.slice z lo hi)) H
theorem part_of (h:IsPart v o):∃p:Option (Int×Tok),v=partValue p/\p.map (·.1)=o:=by
 cases h with
 | none=>exact⟨none,rfl,rfl⟩
 | int i t=>exact⟨some (i,t),rfl,rfl⟩
theorem B2b:SlR X B6i:=by
 intro a s σ H x v vl vu lo hi sl Q I d c b e h;obtain⟨z,rfl,f,q⟩:=h;obtain⟨t,rfl⟩:=d;obtain⟨l,rfl,rfl⟩:=part_of b;obtain⟨u,rfl,rfl⟩:=part_of e
 refine⟨"str",_,F.slot_str_getitem.lookup,typeIs_str _ _ _,wpAny_getItem_str_slice (l:=l) (u:=u) (st:=none) c rfl ?_⟩
 exact post_val_or_str ⟨ao (Txt.slice_le z _ _) f,λt' k=>⟨.str _,H,I.tok _,⟨_,rfl⟩,q⟩⟩
end
section
variable {P:u6}{w:World}{A:t_}{E:z_}{s:u_}
structure Bl5 (h:Heap) (t1 t2:Bool) (z ti to i1 i2 a b p0:Addr) (b1:Bool) (k:Nat):Prop where
 zip:h.get? z=some { cls:=.type "zip",data:=.fields #[rawInt p0,.bool b1,.bool false,.ref ti,.ref to] }
 ins:IsPair h ti (.ref i1) (.ref i2)
 held:∃o,h.get? p0=some o
 one:ItAt t1 h i1 a k
 two:ItAt t2 h i2 b k
theorem Ao3 (e:s.heap.get? p=some o) (h:Q (some o) s):wpAny M A (loadIfAlive p) Q E s:=λb q a=>by
 show Sem.wp M _ (.loadIfAlive p _) _ _ q s
 simp_all
theorem Ai7 {z c d b:Addr} (hz:s.heap.get? z=some { cls:=.type "zip",data:=.fields #[rawInt b,.bool e,.bool false,.ref c,.ref d] }) (g:s.heap.get? b=some h)
 (q:∀a:Heap,a.get? z=some { cls:=.type "zip",data:=.fields #[rawInt b,.bool true,.bool false,.ref c,.ref d] }->Heap.SameBut z s.heap a->Q false { s with heap:=a }):wpAny (model P w) A (Builtin.SmallTypes.ownedTupleIsFree (.ref z)) Q E s:=by
 apply aj;apply aX hz rfl rfl
 refine aj (Ao3 (by simpa using g) ?_)
 refine aj ?_
 apply aX hz rfl rfl
 cases e with
 | true=>exact ak (q _ hz (Heap.SameBut.refl _ _))
 | false =>
  apply aj
  apply fc hz (by simp)
  intro a i f;exact ak (q _ i f)
theorem A3w {Q:z_}(d:zB z l t i h a b) (y:Bl5 s.heap t1 t2 z l t i h a b C L k) (hp:C∉[z,l,t,i,h])
 (ha:SqA t1 s.heap a xs) (hb:SqA t2 s.heap b ys) (hx:xs[k]?=some x) (F:ys[k]?=some x')
 (q:∀h',Bl5 h' t1 t2 z l t i h a b C true (k+1)->IsPair h' s.heap.objs.size x x'->(∀c o,c∉[z,l,t,i,h]->s.heap.get? c=some o->h'.get? c=some o)->Q (.ref s.heap.objs.size) { s with heap:=h' }) :
 wpAny (model P w) A (Builtin.«zip.__next__» ⟨[.ref z],[]⟩) (λf z=>∃v,f=.done (.ret v)/\Q v z) E s:=by
 have G:=d.na;have D:=d.nb;simp only[aD,aY,a_,not_or]at G D hp;obtain⟨M,I⟩:=y.held;apply aj (m:=field (.ref z) 2);apply aX y.zip rfl (x:=.bool false) rfl;apply aj (m:=field (.ref z) 3);apply aX y.zip rfl (x:=.ref l) rfl;apply aj;apply cL y.ins rfl;apply aj (m:=Builtin.SmallTypes.ownedTupleIsFree (.ref z))
 refine Ai7 y.zip I λU K n=>?_
 simp only[cD,bx];apply aj;rw[<- iy];simp only[fV,iK];apply aj;apply aj;apply bH;apply aj (m:=Builtin.SmallTypes.nextOf (.ref i))
 refine next_item (y.one.stay λo e=>n.extBut _ _ d.z_i1 e) (ha.stay λo e=>n.extBut _ _ G.1 e) hx λT O u=>?_
 apply ak;apply ak;apply aj;apply aj;apply bH;apply aj (m:=Builtin.SmallTypes.nextOf (.ref h))
 refine next_item (y.two.stay λo e=>u.extBut _ _ d.i1_i2.symm (n.extBut _ _ d.z_i2 e)) (hb.stay λo e=>u.extBut _ _ D.2.2.2.1 (n.extBut _ _ D.1 e)) F λr J B=>?_
 apply ak;apply ak;apply ak;apply aj
 refine wpAny_newTuple ?_ (show 2<=sizeLine by decide)
 have H:r.objs.size=s.heap.objs.size:=by rw[B.1,u.1,n.1]
 have g:∀c o,c≠z->c≠i->c≠h->s.heap.get? c=some o->r.get? c=some o:=λc o N S R e=>B.extBut _ _ R (u.extBut _ _ S (n.extBut _ _ N e))
 refine ak ⟨_,rfl,?_⟩
 show Q (.ref r.objs.size) _
 rw[H]
 have j:∀{c:Addr} {o:Obj},r.get? c=some o->(r.push { cls:=.type "tuple",data:=.seq #[x,x'] }).get? c=some o:=λe=>aC _ e
 refine q _ ⟨j (B.extBut _ _ d.z_i2.symm (u.extBut _ _ d.z_i1.symm K)),j (g _ _ d.z_ti d.ti_i1 d.ti_i2 y.ins),⟨M,j (g _ _ hp.1 hp.2.2.2.1 hp.2.2.2.2 I)⟩,(O.stay λo e=>B.extBut _ _ d.i1_i2 e).stay λo e=>j e,J.stay λo e=>j e⟩ (by rw[<- H];exact aJ _ rfl) λc o p e=>?_
 simp at p
 exact j (g c o p.1 p.2.2.2.1 p.2.2.2.2 e)
end
section
variable {P:u6}{w:World}{A:t_}{E:z_}{s:u_}{t1 t2:Bool}{z ti to i1 i2 a b p0:Addr}{b1:Bool}{k:Nat}{xs ys:v7}
theorem A4c (f:A.handled=none) (d:zB z ti to i1 i2 a b) (y:Bl5 s.heap t1 t2 z ti to i1 i2 a b p0 b1 k) (ha:SqA t1 s.heap a xs) (hx:xs[k]?=none)
 (q:∀h' e,(∀c o,c∉[z,ti,to,i1,i2]->s.heap.get? c=some o->h'.get? c=some o)->(∃o,h'.get? e=some o/\o.cls=.type "StopIteration")->E (.ref e) { s with heap:=h' }) :
 wpAny (model P w) A (Builtin.«zip.__next__» ⟨[.ref z],[]⟩) F E s:=by
 have i:=d.na;simp only[aD,aY,a_,not_or]at i;obtain⟨n,j⟩:=y.held;apply aj (m:=field (.ref z) 2);apply aX y.zip rfl (x:=.bool false) rfl;apply aj (m:=field (.ref z) 3);apply aX y.zip rfl (x:=.ref ti) rfl;apply aj;apply cL y.ins rfl;apply aj (m:=Builtin.SmallTypes.ownedTupleIsFree (.ref z))
 refine Ai7 y.zip j λr u h=>?_
 simp only[cD,bx];apply aj;rw[<- iy];simp only[fV,iK];apply aj;apply aj;apply bH;apply aj (m:=Builtin.SmallTypes.nextOf (.ref i1))
 refine next_end f (y.one.stay λo e=>h.extBut _ _ d.z_i1 e) (ha.stay λo e=>h.extBut _ _ i.1 e) hx λt x l g=>?_
 refine q _ x (λc o p e=>?_) g
 simp at p
 exact l _ _ p.2.2.2.1 (h.extBut _ _ p.1 e)
def Zs (h:Heap)(t1 t2:Bool)(z ti to i1 i2 a b:Addr)(k:Nat):Prop:=(k=0/\ZipAt h t1 t2 z ti to i1 i2 a b .none 0)\/∃p0 b1,p0∉[z,ti,to,i1,i2]/\Bl5 h t1 t2 z ti to i1 i2 a b p0 b1 k
theorem Zs.ty (y:Zs s.heap t1 t2 z ti to i1 i2 a b k):s.TypeIs (.ref z) "zip" := by
 rcases y with ⟨_,y⟩ | ⟨_,_,_,y⟩
 ·exact⟨_,y.zip,rfl⟩
 ·exact⟨_,y.zip,rfl⟩
theorem Zs.lt (y:Zs s.heap t1 t2 z ti to i1 i2 a b k):∀c∈[z,ti,i1,i2],c<s.heap.objs.size:=by
 intro c d
 simp at d
 rcases y with ⟨_,y⟩ | ⟨_,_,_,y⟩
 ·rcases d with rfl | rfl | rfl | rfl
  ·exact az y.zip
  ·exact az y.ins
  ·obtain⟨o,e,_⟩:=y.one.obj;exact az e
  ·obtain⟨o,e,_⟩:=y.two.obj;exact az e
 ·rcases d with rfl | rfl | rfl | rfl
  ·exact az y.zip
  ·exact az y.ins
  ·obtain⟨o,e,_⟩:=y.one.obj;exact az e
  ·obtain⟨o,e,_⟩:=y.two.obj;exact az e
theorem Zs.keep (y:Zs h t1 t2 z ti to i1 i2 a b k) (hk:0<k) (d:D∉[z,ti,to,i1,i2]) (c:Heap.SameBut D h h') (j:∀o,h.get? D=some o->∃o',h'.get? D=some o'):Zs h' t1 t2 z ti to i1 i2 a b k:=by
 simp at d
 rcases y with ⟨e,_⟩ | ⟨f,i,g,y⟩
 ·lia
 ·refine .inr ⟨f,i,g,?_⟩
  obtain⟨o,e⟩:=y.held
  refine⟨c.extBut _ _ (aF d.1) y.zip,c.extBut _ _ (aF d.2.1) y.ins,?_,y.one.stay λo e=>c.extBut _ _ (aF d.2.2.2.1) e,y.two.stay λo e=>c.extBut _ _ (aF d.2.2.2.2) e⟩
  by_cases z:f=D
  ·grind
  ·exact⟨o,c.extBut _ _ z e⟩
theorem A4q (d:zB z ti to i1 i2 a b) (n:to<s.heap.objs.size) (y:Zs s.heap t1 t2 z ti to i1 i2 a b k) (ha:SqA t1 s.heap a xs) (hb:SqA t2 s.heap b ys) (hx:xs[k]?=some x) (g:ys[k]?=some x')
 (q:∀h',Zs h' t1 t2 z ti to i1 i2 a b (k+1)->IsPair h' s.heap.objs.size x x'->s.heap.objs.size<h'.objs.size->(∀c o,c∉[z,ti,to,i1,i2]->s.heap.get? c=some o->h'.get? c=some o)->Q (some (.ref s.heap.objs.size)) { s with heap:=h' }) :
 wpAny (model P w) A (pyNext (.ref z)) Q E s:=by
 have j:=y.ty;unfold pyNext;apply aj;apply cN
 refine b_ (name:="__next__") j dW ?_
 refine bA dW j iQ ?_ (iR _)
 have p:s.heap.objs.size∉[z,ti,to,i1,i2]:=λm=>by
  have l:=y.lt
  grind
 rcases y with ⟨rfl,y⟩ | ⟨t,b1,i,y⟩
 ·refine Aq7 d y ha hb hx g λr f e h=>?_
  exact ak (q _ (.inr ⟨s.heap.objs.size,false,p,⟨f.zip,f.ins,⟨_,e⟩,f.one,f.two⟩⟩) e (az e) h)
 ·refine A3w d y i ha hb hx g λr f e h=>?_
  exact ak (q _ (.inr ⟨t,true,i,f⟩) e (az e) h)
theorem ZipAt.kept (y:ZipAt h t1 t2 z ti to i1 i2 a b f k) (d:∀c o,h.get? c=some o->h'.get? c=some o):ZipAt h' t1 t2 z ti to i1 i2 a b f k:=by
 obtain⟨u,v,e⟩:=y.outs
 exact⟨d _ _ y.zip,d _ _ y.ins,⟨u,v,d _ _ e⟩,y.one.stay λo e=>d _ _ e,y.two.stay λo e=>d _ _ e⟩
end
end L2
namespace L2
open PySem PySem.Spec PyProof.Rows PySem.W
section
variable {P:u6}{w:World}{H H':Hp}{h h1 h2 B:Heap}{a b:Addr}{o:HO}{outer:List Env}
theorem zE.there (x:zE P w H h a o):∃u,h.get? a=some u:=by
 cases o with
 | lst d=>obtain⟨_,_,_,_,e⟩:=x;grind
 | tup d=>obtain⟨_,_,_,o,e,_⟩:=x;grind
 | dK b=>obtain⟨_,_,_,_,o,_,_,e,_⟩:=x;grind
 | dT b=>obtain⟨_,_,_,_,o,_,_,e,_⟩:=x;grind
 | set S n=>obtain⟨o,_,_,_,e,_⟩:=x;grind
 | ins C g c=>obtain⟨_,_,_,e,_⟩:=x;grind
 | own y=>exact x
 | xd c=>obtain⟨_,⟨_,_,_,e,_⟩,_⟩:=x;grind
 | rng j k=>obtain⟨_,_,_,e⟩:=x;grind
 | frz l u=>obtain⟨e,_⟩:=x;grind
 | tbl q=>obtain⟨_,e,_⟩:=x;grind
 | met f y=>exact⟨_,(x)⟩
 | ext i=>exact x.2.1
def Cov (fs:v6)(H':Hp)(h0 h B:Heap):Prop:=∀b o,h.get? b=some o->b∉fs->((∃u,h0.get? b=some u)\/H' b≠none)->B.get? b=some o
theorem B3h (u:Un (frs outer) [] H H' h h1)(hk:HOk P w H' h1)(i:Cov (frs outer) H' h h1 B)(r:h1.FunFrames B outer)(k:∀b∈frs outer,H' b=none)(st:B.StaysIn h2)(s:h1.UpToSlots h2) :
 Un (frs outer) [] H H' h h2/\HOk P w H' h2:=by
 have f:∀b:Addr,b∉([]:List _):=λb z=>nomatch z
 refine⟨⟨λb o e n c _=>st b o (i b o (u.keep b o e n c (f b)) c (.inl ⟨o,e⟩)),λb o e n c _=>?_,λb o e n _=>u.free b o e n (f b),λb o e _=>?_,u.tups,u.frzs,u.tbls⟩,λa o e=>?_⟩
 ·obtain⟨y,d⟩:=u.slot b o e n c (f b)
  obtain⟨_,p,g,l⟩:=r.mem c;rw[d]at g;cases g;obtain⟨j,v⟩:=s b _ d l
  grind
 ·obtain⟨p,d⟩:=u.there b o e (f b)
  by_cases c:b∈frs outer
  ·obtain⟨_,A,g,l⟩:=r.mem c
   obtain⟨j,v⟩:=s b _ g l
   grind
  ·exact⟨p,st b _ (i b _ d c (.inl ⟨o,e⟩))⟩
 ·have m := λb u t e=>st b u (i b u e (λz=>t (k b z)) (.inr t))
  refine (hk a o e).stay (λb u C x=>m b u ?_ x) (λ_ q=>q) λ_ _ q=>q
  grind
end
def TrD (h B:Heap)(e:Addr)(c:Value)(d:Option Addr)(fl:Value):Prop :=
 ∃oe vs T oT ts,h.get? e=some oe/\(oe.cls=c/\oe.dict=d)/\oe.data=.fields vs/\vs[1]?=some (.ref T)/\(B.get? T=none/\T≠e)/\h.get? T=some oT/\oT.data=.fields ts/\ts[3]?=some fl
structure FlyD (B:Heap) (l:List Env) (e:Addr) (c:Value) (d:Option Addr) (fl:Value) (h:Heap):Prop where
 st:B.StaysIn h
 no:B.get? e=none
 ff:h.FunFrames B l
 tr:TrD h B e c d fl
theorem Xy (o:Obj)(f:v7->v7):(o.mapFields f).dict=o.dict:=by
 obtain⟨c,d,a,b⟩:=o
 cases a <;> rfl
section
variable {M:Model}{A:t_}{E:z_}{s:u_}{B:Heap}{env:Env}{l outer:List Env}{L e:Addr}{oe:Obj}{vs:v7}{c fl:Value}{d:Option Addr}{Q:Unit->u_->Prop}
theorem FlyD.there {h:Heap}(x:FlyD B l e c d fl h):∃o,h.get? e=some o/\o.cls=c/\o.dict=d/\∃vs,o.data=.fields vs:=let ⟨oe,vs,_,_,_,he,hc,hd,_⟩:=x.tr; ⟨oe,he,hc.1,hc.2,vs,hd⟩
theorem FlyD.out {h:Heap}(x:FlyD B (env::l) e c d fl h):FlyD B l e c d fl h:=⟨x.st,x.no,x.ff.2.2,x.tr⟩
theorem Wi {h:Heap}{T:Addr}{a:Obj}{ts:v7}{f:Obj->Obj}(d:h.get? T=some a)(hd:a.data=.fields ts):(∀b,b≠T->(h.update T f).get? b=h.get? b)/\∀b o,h.get? b=some o->(∀vs,o.data≠.fields vs)->b≠T :=
 ⟨λb n=>cM _ _ (aF n),λb o q c z=>by grind⟩
theorem Ak8 {c:Value}{hn:Bool}(k:A.frames=some (env::outer))(st:B.StaysIn s.heap)(y:B.get? e=none)(hl:s.heap.FunFrames B (env::outer))(G:env.frame=some L)(he:s.heap.get? e=some oe)(hd:oe.data=.fields vs)(hz:1<vs.size)
 (x:∀h',FlyD B (env::outer) e oe.cls oe.dict (rawInt L) h'->s.heap.UpToSlots h'->Q () { s with heap:=h' }) :
 wpAny M A (frameOf env >>= λa=>entryPlaceOf L hn >>= λg=>EntryCells.newEntry c a .none (rawInt L) .none g >>= λb=>setField (.ref e) 1 b) Q E s:=by
 have C:e∉(env::outer).filterMap (·.frame):=λm=>by
  obtain⟨_,o,q,D⟩:=hl.mem m
  simp_all
 refine aj (wpAny_frameOf_fun k hl G λd j=>aj (wpAny_entryPlaceOf λg F=>?_))
 unfold EntryCells.newEntry newFields
 refine aj (bN ?_ (F.sizeOk5 _ _ _ _ _))
 have r:([c,.ref L,.none,rawInt L,.none]++(if g.isEmpty then List.replicate 6 Value.none else g)).toArray[3]?=some (rawInt L):=by simp
 have u:d.get? e=some oe:=(j.2.1 e C).trans he
 have v:B.StaysIn d:=λb o q=>(j.2.1 b λm=>by rw[(hl.mem m).1]at q;cases q).trans (st b o q)
 generalize ([c,.ref L,.none,rawInt L,.none]++(if g.isEmpty then List.replicate 6 Value.none else g)).toArray=ts at r
 generalize hob:({ cls:=.type "traceback",dict:=none,data:=.fields ts }:Obj)=ob
 have h:ob.data=.fields ts:=by grind
 have l:ob.isFreed=false:=e_ h;have p:=aC ob u;have t:d.objs.size≠e:=bU (az u)
 obtain⟨i,D⟩:=Wi (f:=Obj.mapFields (·.setIfInBounds 1 (.ref d.objs.size))) p hd
 have w:=dw hd (·.setIfInBounds 1 (.ref d.objs.size))
 have I:∀b o,b≠e->d.get? b=some o->((d.push _).update e _).get? b=some o:=λb o n q=>(i b n).trans (aC _ q)
 refine gU p hd hz (x _ ⟨λb o q=>I b o λz=>by grind (v b o q),y,hl.of_keeps λb o q n=>?_,?_⟩ λb o q n=>?_)
 ·obtain⟨J,H⟩:=j.2.2 b o q
  grind
 ·exact⟨_,_,d.objs.size,ob,ts,bO _ p (e_ w),⟨iJ _ _,Xy _ _⟩,w,by grind,⟨v.fresh,t⟩,(i _ t).trans (aJ _ l),h,r⟩
 ·obtain⟨J,H⟩:=j.2.2 b o q
  grind
theorem Av2 (a:A.frames=some (env::outer))(st:B.StaysIn s.heap)(d:B.get? e=none)(hl:s.heap.FunFrames B (env::outer))(b:env.frame=some L)(he:s.heap.get? e=some oe)(hd:oe.data=.fields vs)(h1:vs[1]?=some .none)
 (c:∀h',FlyD B (env::outer) e oe.cls oe.dict (rawInt L) h'->s.heap.UpToSlots h'->Q () { s with heap:=h' }):wpAny M A (noteFrame (.ref e) env) Q E s:=by
 unfold noteFrame;simp only[b]
 refine aj (aX he hd h1 ?_)
 exact Ak8 a st d hl b he hd (iU.mp h1).1 c
theorem A1c (h:A.frames=some (env::outer))(l:env.frame=some L)(x:FlyD B (env::outer) e c d .none s.heap)
 (D:∀g,FlyD B (env::outer) e c d (rawInt L) g->s.heap.UpToSlots g->Q () { s with heap:=g }):wpAny M A (noteFrame (.ref e) env) Q E s:=by
 obtain⟨v,y,w,oe,vs,T,oT,ts,r,⟨rfl,rfl⟩,k,m,⟨hB,C⟩,j,i,p⟩:=x
 obtain⟨a,t⟩:=Wi (f:=Obj.mapFields (·.setIfInBounds 3 .none)) j i
 unfold noteFrame;simp only[l]
 refine aj (aX r k m ?_)
 rw[if_pos (by simp)]
 refine aj (aX j i p ?_)
 refine aj (gU j i (iU.mp p).1 ?_)
 exact Ak8 h (λb o q=>(a b λz=>by simp_all).trans (v b o q)) y (w.of_keeps λb o q n=>⟨o,(a b (t b o q n)).trans q,rfl⟩) l ((a e (aF C)).trans r) k (iU.mp m).1
  λg f u=>D _ f λb o q n=>u b o ((a b (t b o q n)).trans q) n
theorem U8 (x:FlyD B l e c d fl s.heap)(v:∀h',FlyD B l e c d .none h'->s.heap.UpToSlots h'->Q () { s with heap:=h' }):wpAny M A (setFlight (.ref e) none) Q E s:=by
 obtain⟨F,D,t,H,w,T,J,I,k,u,p,m,⟨y,j⟩,h,g,C⟩:=x;obtain⟨a,r⟩:=Wi h g;have G:=(iU.mp C).1
 refine aj (aX k p m ?_)
 have i:=dw g (·.setIfInBounds 3 ((none:Option _).elim Value.none λf=>rawInt f))
 refine gU h g G (v _ ⟨λb o q=>(a b λz=>by simp_all).trans (F b o q),D,t.of_keeps λb o q n=>⟨o,(a b (r b o q n)).trans q,rfl⟩,?_⟩ λb o q n=>⟨o.slots,(a b (r b o q n)).trans q⟩)
 exact⟨H,w,T,_,_,(a e (aF j)).trans k,u,p,m,⟨y,j⟩,bO _ h (e_ i),i,by grind⟩
theorem Aq3 (a:A.frames=some (env::outer))(f:env.frame=some L)(x:FlyD B (env::outer) e c d .none s.heap)(g:∀h',FlyD B outer e c d .none h'->s.heap.UpToSlots h'->Q () { s with heap:=h' }):wpAny M A (leaving env (.ref e)) Q E s :=
 aj (A1c a f x λk j h=>U8 j λl i b=>g _ i.out (h.trans b))
theorem Ah9 (a:A.frames=some (env::outer))(st:B.StaysIn s.heap)(c:B.get? e=none)(hl:s.heap.FunFrames B (env::outer))(d:env.frame=some L)(he:s.heap.get? e=some oe)(hd:oe.data=.fields vs)(h1:vs[1]?=some .none)
 (f:∀h',FlyD B outer e oe.cls oe.dict .none h'->s.heap.UpToSlots h'->Q () { s with heap:=h' }):wpAny M A (leaving env (.ref e)) Q E s :=
 aj (Av2 a st c hl d he hd h1 λh1 g h=>U8 g λj i b=>f _ i.out (h.trans b))
end
structure Fly (outer:List Env) (H':Hp) (h0:Heap) (a:Addr) (cls:Value) (d:Option Addr) (h:Heap):Prop where
 fl:∃B,FlyD B outer a cls d .none h/\Cov (frs outer) H' h0 h B
 new:∀b o,h0.get? b=some o->b≠a
 free:H' a=none
def CXe (P:u6)(w:World):CXT:=λouter H s E e s'=>∃a C d H',e=.ref a/\Fly outer H' s.heap a (.ref C) d s'.heap/\s'.os=s.os/\AllBare s'.gens/\Un (frs outer) [] H H' s.heap s'.heap/\HOk P w H' s'.heap/\E (.ref C) d H'
section
variable {X:Cx}{pins:y_}{σ:St}{H H':Hp}{s s':u_}
theorem Inv.flown {h2 B:Heap}{tk:Nat}(I:Inv X pins σ H s)(u:Un (frs X.stack) [] H H' s.heap s'.heap)(hk:HOk X.prog X.w H' s'.heap)(h:s'.os=s.os)(a:AllBare s'.gens)
 (l:s'.heap.FunFrames B X.stack) (c:Cov (frs X.stack) H' s.heap s'.heap B) (st:B.StaysIn h2) (g:s'.heap.UpToSlots h2):Inv X pins σ H' { s' with heap:=h2,toks:=tk }:=by
 have d:∀b∈frs _,H' b=none:=λb e=>by
  obtain⟨_,o,i,_⟩:=I.stack.mem e
  exact u.free b o i (I.stkFree b e) λz=>nomatch z
 obtain⟨j,k⟩:=B3h u hk c l d st g
 obtain⟨v,f,I2,_,rfl⟩:=I.after (s':={ s' with heap:=h2,toks:=tk }) (Q:=λ_ f=>f=H') ⟨.non,H',h,a,j,k,rfl,rfl⟩
 grind
end
section
variable {P:u6}{w:World}{K:v9}{mg:x_}{base:Heap}{N:v4}{qual:Str}{scope:Scope}{f:Addr}{cd:Value}{A:t_}{outer:List Env}{s₀:u_}{H₀:Hp}{E:XK}
theorem Za:Ms (CXe P w) (Jo (CXe P w) P w K mg base N qual scope f cd A outer s₀ H₀ E) E:=by
 intro t σ H s e x I h;obtain⟨a,C,d,D,rfl,⟨⟨B,y,m⟩,Q,L⟩,v,c,u,j,q⟩:=h
 refine Aq3 I.ok.frames rfl y λG g F=>?_
 have n:Inv (Jo (CXe P w) P w K mg base N qual scope f _ A _ _ _ E) _ _ _ { x with heap:=G }:=I.flown u j v c y.ff m g.1 F
 have J:∀b o,s₀.heap.get? b=some o->∃r,s.heap.get? b=some _:=λb o e=>I.base.there b o e λz=>nomatch z
 refine⟨a,C,d,D,rfl,⟨⟨B,g,λb o e hf l=>?_⟩,λb o e=>?_,L⟩,v.trans I.os,c,n.base,n.hok,q⟩
 ·have nl:b≠(envOfC qual scope s₀.heap.objs.size f cd).locals:=by
   rintro rfl
   rcases l with ⟨M,k⟩ | l
   ·exact absurd (az k) (bc _)
   ·exact l n.free
  have p:b∉frs _:=λz=>by
   rcases aD.mp (I.stkSub b z) with q | q
   ·trivial
   trivial
  have i:∃r,x.heap.get? b=some r:=by
   rcases l with ⟨M,k⟩ | l
   ·obtain⟨o1,O⟩:=J b _ k
    exact u.there b _ O λz=>nomatch z
   ·cases q':D b with
    | none=>grind
    | some ho=>exact(j b _ q').there
  obtain⟨r,k⟩:=i
  have:=m b _ k p (by
   grind)
  have e2:=g.1 b _ this
  simp_all
 grind
end
structure MadeX (h h':Heap) (e C:Addr) (d:Option Addr):Prop where
 keeps:∀b o,h.get? b=some o->h'.get? b=some o
 new:h.get? e=none
 there:∃oe vs,h'.get? e=some oe/\oe.cls=.ref C/\oe.dict=d/\oe.data=.fields vs/\vs[1]?=some .none
def Raises (X:Cx)(E:XK):Prop:=∀(pins:y_) (σ:St) (H:Hp) (s:u_) (h':Heap) (e C:Addr) (d:Option Addr),Inv X pins σ H s->MadeX s.heap h' e C d->E (.ref C) d H->X.xe (.ref e) { s with heap:=h' }
section
variable {P:u6}{w:World}{K:v9}{mg:x_}{base:Heap}{N:v4}{qual:Str}{scope:Scope}{f:Addr}{cd:Value}{A:t_}{outer:List Env}{s₀:u_}{H₀:Hp}{E:XK}
theorem A5f:Raises (Jo (CXe P w) P w K mg base N qual scope f cd A outer s₀ H₀ E) E:=by
 intro F σ H s p e C d I c q;obtain⟨oe,vs,U,mc,L,M,O⟩:=c.there
 let X:=Jo (CXe P w) P w K mg base N qual scope f cd A outer s₀ H₀ E
 have n:(hideAll s.heap (frs X.stack)).StaysIn s.heap:=λb o z=>of_hideAll _ z
 have V:s.heap.FunFrames (hideAll s.heap (frs X.stack)) X.stack:=funFrames_hide I.stack λv Y b a=>eO.mpr ⟨v,Y,a⟩
 have m:p.FunFrames (hideAll s.heap (frs X.stack)) X.stack:=V.of_keeps λb o z _=>⟨o,c.keeps b o z,rfl⟩
 have h:HOk P w H p:=I.hok.kept c.keeps
 have J:H e=none:=by
  cases z:H e with
  | none=>rfl
  | some t =>
   obtain⟨u,l⟩:=(I.hok e t z).there;rw[c.new]at l;cases l
 have k:Cov (frs X.stack) H _ _ _:=λb o z x a=>by
  have:∃u,s.heap.get? b=some u:=by
   rcases a with a | a
   ·exact a
   ·cases y:H b with
    | none=>exact absurd y a
    | some t=>exact(I.hok b _ y).there
  obtain⟨u,l⟩:=this;have:=c.keeps b u l;rw[z]at this;cases this;exact hideAll_get _ l x
 have Q:(hideAll s.heap (frs X.stack)).get? e=none:=by
  cases z:(hideAll _ _).get? e with
  | none=>rfl
  | some o =>
   have y:=n e o z;rw[c.new]at y;cases y
 refine Ah9 I.ok.frames (λb o z=>c.keeps b o (n b o z)) Q m rfl U M O λR g T=>?_
 rw[mc,L]at g
 have D:Inv X _ _ H { s with heap:=R }:=I.flown (s':={ s with heap:=p }) (Un.kept c.keeps) h rfl I.bare m k g.1 T
 have G:∀b o,s₀.heap.get? b=some o->∃r,s.heap.get? b=some _:=λb o z=>I.base.there b o z λz=>nomatch z
 refine⟨e,C,d,H,rfl,⟨⟨_,g,λb o z x a=>?_⟩,λb o z y=>?_,J⟩,I.os,I.bare,D.base,D.hok,q⟩
 ·have W:b≠(envOfC qual scope s₀.heap.objs.size f cd).locals:=by
   rintro rfl
   rcases a with ⟨S,i⟩ | a
   ·exact absurd (az i) (bc _)
   ·exact a D.free
  have B:b∉frs _:=λz=>by
   rcases aD.mp (I.stkSub b z) with q | q
   ·exact W q
   ·exact x q
  have j:∃r,p.get? b=some r:=by
   rcases a with ⟨S,i⟩ | a
   ·obtain⟨o1,Z⟩:=G b _ i
    exact⟨o1,c.keeps b _ Z⟩
   ·cases q':H b with
    | none=>exact absurd q' a
    | some t=>exact(h b _ q').there
  obtain⟨r,i⟩:=j
  have:=k b _ i B (by
   grind)
  have e2:=g.1 b _ this
  simp_all
 ·obtain⟨r,i⟩:=G b o z
  rw[y,c.new]at i;cases i
end
theorem Hn {K:v9}{h:Heap}{C:Addr}(X:K.In h)(q:Yu K C=true):∃c N g i m j b k a dd k0 k1 k2 k3 k5,h.get? C=some (excClassObj g i C N m c true j b k a dd k0 k1 k2 k3 k5 "ValueError.__new__")/\OwnTail h bmV c:=by
 unfold Yu at q
 split at q
 ·rename_i d1 D v F
  have E:=X _ _ F
  simp at q
  obtain⟨⟨⟨y,B⟩,e⟩,d⟩:=q
  split at e
  ·rename_i A c x
   split at d
   ·rename_i r s t u n p o
    simp at e d
    obtain⟨H,w⟩:=e;obtain⟨g,m,z,f,i,hd,j,b,k,a,G⟩:=D;subst H x y B d
    obtain rfl:v=#[r,s,t,u,some (.builtin "ValueError.__new__"),p]:=by
     obtain⟨l⟩:=v
     dsimp only at o
     rw[o]
    exact⟨c,f,g,i,m,j,b,k,a,_,r,s,t,u,p,E,tail_of_in X w⟩
   ·cases d
  ·cases e
 ·cases q
section
variable {X:Cx}{pins:y_}{σ:St}{H:Hp}{s:u_}{k:Nat}{f:Addr}{E:XK}{x:Str}{p:Pos}{e:Expr}{t:TA}{Q:VK}
noncomputable def Yd (a C:Addr) (d:Option Addr):HO:=.ext λh=>∃o,h.get? a=some o/\o.cls=.ref C/\o.dict=d/\∃vs,o.data=.fields vs
theorem Bj3 {P:u6}{w:World}{a C:Addr}{d:Option Addr}{h:Heap}{o:Obj}(e:h.get? a=some o)(c:o.cls=.ref C)(hd:o.dict=d/\∃vs,o.data=.fields vs):zE P w H h a (Yd a C d) :=
 ⟨⟨o,e,c,hd⟩,⟨o,e⟩,λf b ⟨o,e,c⟩ k=>⟨o,k o e,c⟩⟩
theorem Inv.track {a:Addr}{o:HO}(I:Inv X pins σ H s)(hn:H a=none)(w:X.s₀.heap.get? a=none)(l:a≠X.env.locals)(h2:∀x c,X.env.cells.lookup x=some c->c≠a)(m:∀p∈X.pn++pins,p.1≠a)
 (i:zE X.prog X.w (upd H a o) s.heap a o):Inv X pins σ (upd H a o) s:=by
 have d:∀b u,H b=some u->b≠a:=λb u e z=>by grind
 have h:∀b u,X.s₀.heap.get? b=some u->b≠a:=λb u e z=>by simp_all
 refine⟨I.ok,I.os,I.bare,⟨I.base.keep,I.base.slot,λb u e n j=>by rw[Ag (h b u e)];exact I.base.free b u e n j,I.base.there,λb f e=>by
  have:=I.base.tups b f e
  rw[Ag (d _ _ this)];exact this,λb u v e=>by
  have:=I.base.frzs b u v e
  rw[Ag (d _ _ this)];exact this,λb A e=>by
  have:=I.base.tbls b _ e
  rw[Ag (d _ _ this)];exact this⟩,I.loc,I.cell,by rw[Ag (aF l)];exact I.free,λy c e=>by rw[Ag (h2 y c e)];exact I.freeC y c e,λp g=>?_,λb u e=>?_,I.len⟩
 ·obtain⟨k,q,r⟩:=I.pin p g
  exact⟨k,by rw[Ag (m p g)];exact q,r⟩
 ·by_cases hb:b=a
  ·subst hb
   rw[Aq]at e;grind
  ·rw[Ag hb]at e
   exact(I.hok b u e).stay (λc v _ z=>z) (λc z=>by rw[Ag (d _ _ z)];exact z) (λc f z=>by rw[Ag (d _ _ z)];exact z) λc t f z=>by rw[Ag (d _ _ z)];exact z
theorem Inv.unbound {j:Nat}{n:Str}{h':Heap}{m x:x_}{tk:Nat}(I:Inv X pins σ H s)(hN:X.N.Nodup)(hj:X.N[j]?=some n)(hm:s.heap.Ns X.env.locals m)(t:h'.Ns X.env.locals x)(l:∀y,y≠n->x y=m y)(J:Heap.SameBut X.env.locals s.heap h') :
 Inv X pins (σ.set j none) H { s with heap:=h',toks:=tk }:=by
 have d:∀b u,b≠X.env.locals->s.heap.get? b=some u->h'.get? b=some u:=λb u K e=>J.extBut b u K e
 have A:∀b u,X.s₀.heap.get? b=some u->b≠X.env.locals:=λb u e z=>by
  have:=az e;rw[z]at this;exact absurd (aH this I.ok.above) (bc _)
 have B:∀{y:Str} {c:Addr} {v:u9},X.env.cells.lookup y=some c->s.heap.IsCell c v->h'.IsCell c v:=λ{y c v} e ⟨o,N,M⟩=>⟨o,d c o (I.cne y c e) N,M⟩
 refine⟨I.ok,I.os,I.bare,⟨λb u e n p g=>d b u (A b u e) (I.base.keep b u e n p g),λb u e n p g=>?_,I.base.free,λb u e g=>?_,I.base.tups,I.base.frzs,I.base.tbls⟩,⟨x,t,λi y v k D T=>?_⟩,λy c e=>?_,I.free,I.freeC,λq U=>?_,λb u e=>?_,by rw[bQ];exact I.len⟩
 ·obtain⟨G,q⟩:=I.base.slot b u e n p g
  exact⟨G,d b _ (A b u e) q⟩
 ·obtain⟨C,q⟩:=I.base.there b u e g
  exact⟨C,d b C (A b u e) q⟩
 ·have E:i≠j:=λz=>by
   grind
  rw[cj (aF E)]at D;obtain⟨L,w,F⟩:=I.loc
  have O:L=m:=by
   obtain⟨o1,P,p1,g1,d1,_,f1⟩:=w;obtain⟨o2,Q,p2,Z,d2,_,f2⟩:=hm
   grind
  subst O;obtain⟨u,r,R⟩:=F i y v k D T
  refine⟨u,r,?_⟩
  rcases R with ⟨f,a⟩ | ⟨f,c,a,h⟩
  ·have S:y≠n:=λz=>E (by
    subst z
    exact(List.getElem?_inj (bG.mp k).1 hN).mp (k.trans hj.symm))
   exact .inl ⟨f,by rw[l y S];exact a⟩
  ·exact .inr ⟨f,c,a,B a h⟩
 ·obtain⟨v,z⟩:=I.cell y c e
  exact⟨v,B e z⟩
 ·obtain⟨f,a,h,V⟩:=I.pin q U
  exact⟨d _ _ h f,a,h,V⟩
 ·have W:∀b u v,H b=some u->s.heap.get? b=some v->h'.get? b=some v:=λb u v z e=>d b v (λy=>by rw[y,I.free]at z;cases z) e
  refine (I.hok b u e).stay (λc v Y z=>?_) (λ_ z=>z) λ_ _ z=>z
  grind
noncomputable def Tj (X:Cx) (a:Addr):Cx:={ X with A:=X.A.mark (some (.ref a)),calm:=false,xe:=λ_ _=>False }
theorem Inv.mark (I:Inv X pins σ H s)(a:Addr):Inv (Tj X a) pins σ H s :=
 ⟨⟨I.ok.mod,I.ok.kind,I.ok.glob,I.ok.blt,I.ok.above,I.ok.inj,I.ok.has,I.ok.cab,(λz=>nomatch z),I.ok.frames,I.ok.stk,I.ok.exf,I.ok.bs,I.ok.bsz,I.ok.noex,I.ok.exfs,I.ok.funs,I.ok.frf,I.ok.tab⟩,I.os,I.bare,I.base,I.loc,I.cell,I.free,I.freeC,I.pin,I.hok,I.len⟩
theorem Inv.unmark {a:Addr}(b:X.Ok)(I:Inv (Tj X a) pins σ H s):Inv X pins σ H s:=⟨b,I.os,I.bare,I.base,I.loc,I.cell,I.free,I.freeC,I.pin,I.hok,I.len⟩
end
section
variable {X:Cx}{pins:y_}{σ:St}{H H1:Hp}{s s1 s':u_}{E:XK}{D:Ends}{y n:Str}{Fc:Addr}{yp hpos:Pos}{b₀:Stmt}{suite:List Stmt}{th:TS}{j:Nat}{ev:Value}
theorem A4s (U:X.ex=[])(hs:X.stack=X.env::X.outer/\X.env.frame=some X.env.locals)(hN:X.N.Nodup)(hj:X.N[j]?=some n)(l:X.env.scope.names.lookup n=some .local)(hg:Gl X y)(hm:X.mg y=some (.ref Fc))(hsu:∀a,PSs (Tj X a) (b₀::suite) th)
 (I:Inv X pins σ H1 s1) (cx:CXe X.prog X.w X.stack H1 s1 E ev s') (hE:∀C d t,E (.ref C) d t->exmOne X.K (.ref C) (.ref Fc)=some true/\∀a,t a=none->th { nx:=λZ H3=>D.nx (Z.set j none) H3,rt:=D.rt } (σ.set j (some (.ref a))) (upd t a (Yd a C d)))
 (hdb:(y==("__debug__" : Str))=false:=by decide) :
 wpAny (model X.prog X.w) X.A (noteFrame ev X.env) (λ_ R=>wpAny (model X.prog X.w) X.A (setFlight ev none) (λ_ L=>wpAny (model X.prog X.w) X.A (handleBy ev X.env [.ExceptHandler (some (.Name y yp)) (some n) (b₀::suite) hpos]) (SP X pins D) X.xe L) X.xe R) X.xe s':=by
 obtain⟨a,C,d,t,rfl,⟨⟨B,fl,N⟩,k,fr⟩,os,r,u,Q,q⟩:=cx;obtain⟨hex,G⟩:=hE C d t q;have G:=G a fr;have H:=fl;rw[hs.1]at H
 refine A1c (I.ok.frames.trans (bY some hs.1)) hs.2 H λh4 J K=>?_
 refine U8 (s:={ s' with heap:=h4 }) J λS A P=>?_
 have I5:Inv X pins σ t { s' with heap:=S }:=I.flown (tk:=s'.toks) u Q os r fl.ff N A.1 (K.trans P)
 obtain⟨ob,W,Y,_⟩:=A.there;have LT:Looks (model X.prog X.w) S (typeOf (.ref a)) (.ref C):=Y▸(Looks.ld W).andThen .now;have LX:=exm_one (M:=model X.prog X.w) (h:=S) I5.kIn LT hex
 refine wpAny_handleBy_cons (codeAny_handlers_test (Lb (X:=Tj X a) (I5.mark a) hg hm ?_ hdb)) (by intro z;cases z)
 refine LX.here ?_
 refine codeAny_handlers_suite_as ?_
 refine U8 (s:={ s' with heap:=S }) A λh6 O up6=>?_
 have I6:Inv X pins σ t { s' with heap:=h6 }:=I.flown (tk:=s'.toks) u Q os r fl.ff N O.1 ((K.trans P).trans up6)
 obtain⟨o6,ho6,hc6,hd6⟩:=O.there
 have n0:X.s₀.heap.get? a=none:=by
  cases z:X.s₀.heap.get? a with
  | none=>rfl
  | some o0 =>
   obtain⟨o1,e1⟩:=I.base.there a o0 z (by rw[U];simp)
   exact absurd rfl (k a o1 e1)
 have I7:Inv X pins σ (upd t a (Yd a C d)) { s' with heap:=h6 }:=I6.track fr n0 (λz=>by
  obtain⟨m,⟨o,es,ep,e,_⟩,_⟩:=I.loc
  exact k _ o e z.symm) (λy c e z=>by
  obtain⟨v,o,e1,_⟩:=I.cell y c e
  exact k c o e1 z) (λp hp z=>k _ _ (I.pin p hp).1 z) (Bj3 ho6 hc6 hd6)
 refine Gp (v:=.ref a) I7 hN hj (.inl l) rfl (λs8 I8=>?_) (.inr l)
 refine aL (hsu a _ _ _ _ _ (I8.mark a) G) (λfw s9 T=>?_) λ_ _ z=>z.elim
 have x:(X.env.scope.kind==.class||X.env.scope.kind==.module&&X.env.locals != X.env.globals)=false:=by rw[I.ok.kind];rfl
 cases fw with
 | next =>
  obtain⟨V,H9,i,F⟩:=T;have i:=i.unmark I.ok;obtain⟨m,g,_⟩:=id i.loc
  exact wpAny_nameGoes_keeps l g x λh10 v f sb=>⟨_,H9,i.unbound hN hj g f (λy hy=>if_neg hy) sb,F⟩
 | ret w =>
  obtain⟨v,V,H9,i,r9,F⟩:=T;have i:=i.unmark I.ok;obtain⟨m,g,_⟩:=id i.loc
  exact wpAny_nameGoes_keeps l g x λh10 v' f sb=>⟨v,_,H9,i.unbound hN hj g f (λy hy=>if_neg hy) sb,r9,F⟩
 | brk=>obtain⟨_,_,_,F⟩:=T;exact F.elim
 | cont=>obtain⟨_,_,_,F⟩:=T;exact F.elim
end
section
variable {prog:u6}{w:World}{A:t_}{E:z_}{h:Heap}{g:Array GenState}{d:Drawn}{t:Nat}{os:OsState}{a C:Addr}{o:Obj}{K:v9}
structure Ko (K:v9) (C:Addr):Prop where
 exc:Yu K C=true
 ga:findIn K (.ref C) "__getattribute__" = some (some (.builtin "BaseException.__getattribute__"))
 gat:findIn K (.ref C) "__getattr__" = some none
 cls:findIn K (.ref C) "__class__" = some (some (.builtin "object.__class__"))
theorem Bz6 {R:Result->u_->Prop}(X:K.In h)(Z:Ko K C)(hx:h.get? a=some o)(hc:o.cls=.ref C)(q:R (.ok (.ret (.ref C))) ⟨h,g,d,t,os⟩) :
 codeAny (model prog w) A (.call (.builtin "getset_descriptor.__get__") ⟨[.builtin "object.__class__",.ref a,.ref C],[]⟩) R ⟨h,g,d,t,os⟩:=by
 obtain⟨i,l,n,z,B,m,j,p,k,r,s,u,v,x,y,f,T⟩:=Hn X Z.exc;have c:(⟨h,g,d,t,os⟩:u_).TypeIs (.builtin "object.__class__") "getset_descriptor" := jA
 have e:(Value.ref C::i).contains (.type (".".intercalate ("object.__class__".cutAt '.').dropLast))=true:=by
  rw[PySem.F.owner_object_class,gV,T.hasType (X := "object") (b:=true) rfl];rfl
 refine gW PySem.F.slot_gs_get.plain PySem.F.entry_gs_get (PySem.F.slot_gs_get.check _ _ _ _ _ _ _ _ c (PySem.F.args_gs_get _ _ _) ?_)
 repeat (any_goals (first | assumption | (with_reducible refine bR hx ?_;rw[hc]) | (with_reducible refine gY f ?_;rw[e]) | wp_step))
 refine⟨jB _ (by decide +kernel),dq PySem.F.entry_object_class ?_⟩
 repeat (any_goals (first | assumption | (with_reducible refine bR hx ?_;rw[hc]) | wp_step))
theorem Bf1 {tk:Tok}{Q:Fin->u_->Prop}(X:K.In h)(Z:Ko K C)(hx:h.get? a=some o)(hc:o.cls=.ref C)(e:Q (.done (.ret (.ref C))) ⟨h,g,d,t,os⟩) :
 wpAny (model prog w) A (Builtin.«object.__getattribute__» ⟨[.ref a,.str "__class__" tk],[]⟩) Q E ⟨h,g,d,t,os⟩:=by
 have b:(⟨h,g,d,t,os⟩:u_).TypeIs (.builtin "object.__class__") "getset_descriptor" := jA;have f:=jA;have i:=PySem.F.slot_gs_get.lookup;have j:=PySem.F.slot_gs_set.lookup;have c:=dB (M:=model prog w) X Z.cls
 repeat (any_goals (first | assumption | (with_reducible refine bR hx ?_;rw[hc]) | with_reducible refine c.here ?_ | wp_step))
 refine Bz6 X Z hx hc ?_
 repeat (any_goals (first | assumption | wp_step))
theorem Am0 {M:Model}{c:Value}{Q:Unit->u_->Prop}(X:K.In h)(Z:Ko K C)(hx:h.get? a=some o)(hc:o.cls=.ref C)(m:Q () ⟨h,g,d,t,os⟩):wpAny M A (checkBuiltinCall "BaseException.__getattribute__" ⟨[.ref a,c],[]⟩) Q E ⟨h,g,d,t,os⟩:=by
 obtain⟨j,p,F,z,B,D,k,q,f,s,u,v,w,x,y,l,T⟩:=Hn X Z.exc
 have i:builtinKind "BaseException.__getattribute__" = some .slot:=by decide +kernel
 have e:splitId "BaseException.__getattribute__" = some ("BaseException", "__getattribute__"):=by decide +kernel
 have n:(Value.ref C::j).contains (.type "BaseException")=true:=by rw[gV,T.hasType (X := "BaseException") (b:=true) rfl];rfl
 have r:=PySem.F.args_bexc_ga (.ref a) c;simp only[checkBuiltinCall,i,e]
 refine aj ?_
 unfold isInstance
 repeat (first | (with_reducible refine bR hx ?_;rw[hc]) | (with_reducible refine gY l ?_;rw[n]) | wp_step)
 exact m
theorem B4k {tk:Tok}{Q:z_}(X:K.In h)(Z:Ko K C)(hx:h.get? a=some o)(hc:o.cls=.ref C)(j:Q (.ref C) ⟨h,g,d,t,os⟩):wpAny (model prog w) A (getAttrBy (.ref a) (.str "__class__" tk) false) Q E ⟨h,g,d,t,os⟩:=by
 have f:=iV.ga.bind (.ref a)
 have e:(Value.builtin "BaseException.__getattribute__" == Value.builtin "object.__getattribute__")=false:=by decide +kernel
 have i:(onTheHeap (Value.ref C)&&Value.builtin "BaseException.__getattribute__" == Value.builtin "object.__getattribute__")=false:=by rw[e];rfl
 have c:=dB (M:=model prog w) X Z.ga;have b:=dB (M:=model prog w) X Z.gat
 repeat (any_goals (first | assumption | (with_reducible refine bR hx ?_;rw[hc]) | with_reducible refine c.here ?_ | with_reducible refine b.here ?_ | wp_step))
 refine gW iV.ga.plain PySem.F.entry_bexc_ga (Am0 X Z hx hc (Bf1 X Z hx hc ?_))
 repeat (any_goals (first | assumption | wp_step))
theorem Bs6 {Q:u9->u_->Prop}(X:K.In h)(Z:Ko K C)(hx:h.get? a=some o)(hc:o.cls=.ref C)(b:Q (some (.ref C)) ⟨h,g,d,t+1,os⟩):wpAny (model prog w) A (getAttr? (.ref a) "__class__") Q E ⟨h,g,d,t,os⟩:=by
 unfold getAttr? getAttrBy?
 repeat (any_goals (first | assumption | with_reducible apply B4k X Z _ _ | wp_step))
end
section
variable {K:v9}{a C:Addr}
theorem Aj7 {x:Option Addr}(Z:Ko K C):KitX K (.ref a) (.ref C) (λh=>∃o,h.get? a=some o/\o.cls=.ref C/\o.dict=x/\∃vs,o.data=.fields vs) where
 ty:=λM h _ ⟨o,e,c,_⟩=>c▸(Looks.ld e).andThen .now
 it:=λM h X _=>by
  obtain⟨bm,Nn,nm,qn,bs,sn,sub,ab,col,dd,k0,k1,k2,k3,k5,hC,_⟩:=Hn X Z.exc;intro A' Q' E' s' kp q;unfold isType loadHead;exact aj (wpAny_loadPart (kp _ _ hC) (ak q))
 ne:=λh tp dd its n sl X htp=>by
  obtain⟨bm,Nn,nm,qn,bs,sn,sub,ab,col,d',k0,k1,k2,k3,k5,hC,_⟩:=Hn X Z.exc
  refine Bool.eq_false_iff.mpr λq=>?_
  cases (Value.ref.inj (cG.mp q))
  rw[hC]at htp;have z:=bY Obj.data (bT htp)
  cases z
 ca:=λ{_ _ _ _ _ s} X p q=>by
  obtain⟨hh,g,d,t,os⟩:=s;obtain⟨o,e,c,_⟩:=p;exact Bs6 X Z e c q
end
section
variable {X:Cx}
noncomputable def B2f:V->u9
 | .ref D=>some (.ref D)
 | .ty T=>some (.type T)
 | _=>none
theorem Bh3 {c:V}{u z:Value}(e:B2f c=some z)(r:RelV c u):u=z:=by
 cases c with
 | ref D=>cases e;exact r
 | ty T=>cases e;exact r
 | _=>cases e
def As3 (K:v9):m6->Hp->VK->Prop:=λxs H Q=>∃a C d c z b,xs=[.ref a,c]/\H a=some (Yd a C d)/\Ko K C/\B2f c=some z/\kitOne K (.ref C) z=some b/\Q (.bl b) H
theorem A5v:CallR X (.builtin "isinstance") (As3 X.K):=by
 intro e s σ H xs us Q I r h;obtain⟨a,C,d,c,z,b,rfl,i,Z,f,j,q⟩:=h;obtain⟨u1,u2,rfl,g,k⟩:=vals2 r
 cases (g)
 cases Bh3 f k
 have l := I.hok a _ i
 exact kia_one (Aj7 Z) I.kIn l.1 j (λz=>nomatch z) λtk=>⟨.bl b,H,I.tok _,rfl,q⟩
def B7e (D:Addr):TE:=λ_ H Q=>Q (.ref D) H
theorem By7 {y:Str}{D:Addr}{p:Pos}(hg:Gl X y)(hm:X.mg y=some (.ref D))(hdb:(y==("__debug__" : Str))=false:=by decide):PE X (.Name y p) (B7e D):=λa s b H Q I h=>Lb I hg hm ⟨.ref D,H,I,rfl,h⟩ hdb
noncomputable def Aw8 (n:Nat):t6->Bool
 | .none=>true
 | .bool _=>true
 | .int i=>decide (i.natAbs.log2<1920)
 | .str x=>decide ((reprText x).length+n<=16000000)
 | d=>d.showable&&!d.hasDict&&decide (d.depth<=40)&&decide (d.shown.length+n<=16000000)
theorem Bc7 {x:Str}{tk:Tok}{a:y_}{b:St}{H:Hp}{s:u_}{n:Nat}{Q:z_}{E:z_}(I:Inv X a b H s)(h:(reprText x).length+n<=16000000)(q:∀z t s2,z.length+n<=16000000->Inv X a b H s2->Q (.str z t) s2):wpAny (model X.prog X.w) X.A (pyReprObj (.str x tk)) Q E s :=
 wpAny_pyReprObj_str (q _ _ _ h (I.tok _)) (ao (cQ _ _) (ao h (by decide)))
theorem Bq2 {d:t6}{v:V}{u:Value}{f:y_}{l:St}{H:Hp}{s:u_}{n:Nat}{Q:z_}{E:z_}(hu:X.A.units+64<cLine)(hg:X.A.guards=some [])(I:Inv X f l H s)(c:Tr H d v)(r:RelV v u)(hn:n<=1000)(h:Aw8 n d=true)
 (q:∀z t s2,z.length+n<=16000000->Inv X f l H s2->Q (.str z t) s2):wpAny (model X.prog X.w) X.A (pyReprObj u) Q E s:=by
 have g:∀(a:Addr) (d:t6),Tr H d (.ref a)->(d.showable&&!d.hasDict&&decide (d.depth<=40)&&decide (d.shown.length+n<=16000000))=true->wpAny (model X.prog X.w) X.A (pyReprObj (.ref a)) Q E s:=λa d c h=>by
  simp only[cu,jC,fY]at h;obtain⟨⟨⟨m,o⟩,G⟩,j⟩:=h
  obtain⟨F,p⟩:=c.reads I (show RelV (.ref a) (.ref a) from rfl)
  exact pyReprObj_of_reads p m (λz=>by rw[o]at z;cases z) hg (by lia) (λ_ _ e=>e) (λD t w y=>q _ _ _ j (I.kept (t':=w) y)) (ao (ao (cQ _ _) j) (by decide))
 cases d with
 | none=>cases (show v=.non from c);cases (show u=Value.none from r);exact pyReprObj_none (q _ _ _ (by show 4+n<=_;lia) (I.tok _))
 | bool b=>cases (show v=.bl b from c);cases (show u=Value.bool b from r);exact pyReprObj_bool (q _ _ _ (by cases b <;> (first | (show 4+n<=_;lia) | (show 5+n<=_;lia))) (I.tok _))
 | int i =>
  cases (show v=.int i from c)
  obtain⟨t,e⟩:=(show ∃t,u=Value.int i t from r);cases e
  have k:i.natAbs.log2<1920:=aZ h
  exact pyReprObj_int k (q _ _ _ (by have:=int_text_len_1921 k;lia) (I.tok _))
 | str x =>
  cases (show v=.str x from c)
  obtain⟨t,e⟩:=(show ∃t,u=Value.str x t from r);cases e
  exact Bc7 I (aZ h) q
 | list A=>obtain⟨a,B,e,_⟩:=id c;cases e;cases (show u=Value.ref a from r);exact g a _ c h
 | tuple A=>obtain⟨a,B,e,_⟩:=id c;cases e;cases (r);exact g a _ c h
 | dict C=>exact(c).elim
def tFs (n:Nat)(te:TE):TE:=λσ H Q=>te σ H λv H1=>∃d,Tr H1 d v/\Aw8 n d=true/\∀z,Q (.str z) H1
end
end L2
namespace L2
open PySem PySem.Spec PyProof.Rows
def TabAt (K:v9)(h:Heap):Prop:=(∀p∈Do K,h.get? p.1=some { cls:=.none,data:=.fields #[] }/\isCodeTable h p.1/\K.lookup p.1=none)/\∀p∈Do K,(Do K).lookup p.1=some p.2
theorem Jw {l:List (Addr×Str)} (h:l.lookup b=some q):(b,q)∈l:=by
 induction l with
 | nil=>grind
 | cons p r a =>
  grind
theorem A3c {K:v9}
 (KX:K.In c.heap) (hns:c.heap.Ns mainGlobals mg) (hb:c.heap.Ns builtinsNs U) (X:∀x:Str,x ≠ "__name__" -> U x=bootBuiltins x) (L:c.heap.NoLimit) (hg:c.gens=#[])
 (T:∃j o,mg "__builtins__" = some (.ref j)/\j≠builtinsNs/\c.heap.get? j=some o/\o.cls=.type "module" /\ o.dict=some builtinsNs/\o.data=.plain) (D:TabAt K c.heap)
 (ha:c.heap.get? a=some { cls:=.type "list",data:=.seq vs.toArray }) (hi:IntsAre vs ns) (hl:ns.length<=sizeLine) (hr:Room k callerA)
 (F:∀base:Heap,K.In base->base.Ns mainGlobals mg->FnOk P w K mg base CX k fa fd [x] sp) (C:∀(s:u_) (u:Value),BindsTo s fd ⟨[u],[]⟩ [(x,u)])
 (hsp:∀H:Hp,SqL K H a (ns.map V.int)->sp [.ref a] H (λv _=>v=.bl true) λ_ _ _=>False)
 (W:∀H e s',CX [] H c (λ_ _ _=>False) e s'->False) :
 codeAny (model P w) callerA (.call (.ref fa) ⟨[.ref a],[]⟩) (λr s'=>r=.ok (.ret (.bool true))/\OldK c.heap s'.heap/\s'.os=c.os/\AllBare s'.gens) c:=by
 have rv:=Zk hi;have E:=hi.length
 have Y:∀p∈Do K,p.1≠a:=λp B z=>by
  have e:=(D.1 p B).1;rw[z,ha]at e;cases e
 have t:∀H:Hp,SqL K H a (ns.map V.int)->HOk P w H c.heap->(∀b u,H b=some u->(b=a/\K.lookup a=none/\∃o xs,u=.frz o (.lst xs))\/∃q,(b,q)∈Do K/\u=.tbl q)->(∀p∈Do K,H p.1=some (.tbl p.2)) ->
  codeAny (model P w) callerA (.call (.ref fa) ⟨[.ref a],[]⟩) (λr s'=>r=.ok (.ret (.bool true))/\OldK c.heap s'.heap/\s'.os=c.os/\AllBare s'.gens) c:=by
  intro H hS G hA hH
  have f:∀{b:Addr} {o:Obj},c.heap.get? b=some o->H b=none->(Ys c.heap H).get? b=some o:=λe n=>A6x e n
  have N:∀{b:Addr} {o:Obj},c.heap.get? b=some o->(∀x n,o.data≠.seq x n)->(∀x,o.data≠.fields x)->H b=none:=λ{b o} e d1 d2=>by
   cases q:H b with
   | none=>rfl
   | some u =>
    rcases hA b u q with ⟨z,_⟩ | ⟨y,O,_⟩
    ·rw[z,ha]at e;cases e;exact absurd rfl (d1 _ _)
    ·have g:=(D.1 _ O).1
     rw[e]at g;cases g;exact absurd rfl (d2 _)
  have l:∀{b:Addr} {m:x_},c.heap.Ns b m->(Ys c.heap H).Ns b m:=λ{b m} ⟨o,es,ep,e,d,r⟩=>⟨o,es,ep,f e (N e (λx n z=>by rw[d]at z;cases z) λx z=>by rw[d]at z;cases z),d,r⟩
  have I:K.In (Ys c.heap H):=λb o e=>f (KX b o e) (by
   cases q:H b with
   | none=>rfl
   | some u =>
    rcases hA b u q with ⟨z,z2,_⟩ | ⟨y,O,_⟩
    ·rw[z,z2]at e;cases e
    ·rw[(D.1 _ O).2.2]at e;cases e)
  have Z:∃j o,mg "__builtins__" = some (.ref j)/\j≠builtinsNs/\j≠mainGlobals/\(Ys c.heap H).get? j=some o/\o.cls=.type "module" /\ o.dict=some builtinsNs/\o.data=.plain:=by
   obtain⟨j,o,b1,b2,Q,b4,b5,M⟩:=T
   refine⟨j,o,b1,b2,λz=>?_,f Q (N Q (λx n z=>by rw[M]at z;cases z) λx z=>by rw[M]at z;cases z),b4,b5,M⟩
   obtain⟨og,es,ep,e,d,_⟩:=hns;rw[z,e]at Q;cases Q;rw[d]at M;cases M
  have hM:Mod K mg (Ys c.heap H):=⟨I,l hns,⟨U,l hb,X⟩,(let ⟨mc,h1,h2⟩:=L; ⟨mc,l h1,h2⟩),Z⟩
  have e0:Env0 P w K mg (Ys c.heap H) callerA [] c H:=⟨rfl,hM,λb o e=>Bn8 e,dO (A3l _ _),trivial,λb hb=>absurd (show b∈([]:v6) from hb) (by simp),hH,G,.of_eq hg⟩
  refine fM ((F _ I (l hns)).run callerA [] c H ⟨[.ref a],[]⟩ [.ref a] [.ref a] _ _ hr e0 (C c (.ref a)) (.cons rfl .nil) (hsp H hS)) λr s' h=>?_
  cases r with
  | error e=>exact(W H e s' h).elim
  | ok fl =>
   cases fl with
   | next=>exact False.elim h
   | brk=>exact False.elim h
   | cont=>exact False.elim h
   | ret u =>
    obtain⟨v,H',os,J,R,A,r',q⟩:=h;have q':v=.bl true:=q;subst q';obtain rfl:u=Value.bool true:=r'
    refine⟨rfl,⟨λb o e=>?_,λb o e=>R.there b o e (by simp)⟩,os,J⟩
    cases q:H b with
    | none=>exact .inl (R.keep b o e q (by intro z;exact absurd (show b∈([]:v6) from z) (by simp)) (by simp))
    | some u =>
     rcases hA b u q with ⟨_,_,ob,xs,rfl⟩ | ⟨y,O,rfl⟩
     ·obtain⟨g,_⟩:=G b _ q
      obtain⟨e2,_⟩:=A b _ (R.frzs b ob _ q);rw[e]at g;cases g;exact .inl e2
     ·obtain⟨ps,e2,_⟩:=A b _ (R.tbls b y q)
      obtain⟨t1,t2,_⟩:=D.1 _ O;rw[e]at t1;cases t1
      exact .inr (.inl ⟨t2,rfl,#[],ps,rfl,by rw[e2];simp⟩)
 have i:∀(H:Hp) (p:Addr×Str),p∈Do K->zE P w H _ _ (.tbl p.2):=λH p B=>⟨#[],(D.1 p B).1,trivial,λpos cv z=>by cases z⟩
 cases hk:K.lookup a with
 | some o =>
  have e:=KX a o hk;rw[ha]at e
  cases e
  refine t (λb=>((Do K).lookup b).map .tbl) (.inr ⟨_,vs.toArray,_,hk,rfl,rfl,rfl,by rw[dg,E];exact hl,by simpa using rv⟩) (λb u z=>?_) (λb u z=>?_) λp B=>?_
  ·obtain⟨q,g,rfl⟩:=aV.mp z
   exact i _ _ (Jw g)
  ·obtain⟨q,g,rfl⟩:=aV.mp z
   exact .inr ⟨q,Jw g,rfl⟩
  ·rw[D.2 p B];rfl
 | none =>
  refine t (λb=>if b=a then some (.frz { cls:=.type "list",data:=.seq vs.toArray } _) else ((Do K).lookup b).map .tbl) (.inl (.inr ⟨{ cls:=.type _,data:=.seq _ },if_pos rfl⟩)) (λb u z=>?_) (λb u z=>?_) λp B=>?_
  ·by_cases hb:b=a
   ·have S:=(if_pos hb).symm.trans z
    cases S
    subst hb
    exact⟨ha,by rw[aq];exact hl,vs,_,rv,ha⟩
   ·obtain⟨q,g,rfl⟩:=aV.mp ((if_neg hb).symm.trans z)
    exact i _ _ (Jw g)
  ·by_cases hb:b=a
   ·have S:=(if_pos hb).symm.trans z
    cases S
    exact .inl ⟨hb,hk,_,_,rfl⟩
   ·obtain⟨q,g,rfl⟩:=aV.mp ((if_neg hb).symm.trans z)
    exact .inr ⟨q,Jw g,rfl⟩
  ·rw[if_neg (Y p B),D.2 p B];rfl
end L2
namespace L2
open PySem PySem.Spec PyProof.Rows PySem.W
theorem Ag0 {f:Pos}{c:Value}:∀(l:w6),TriplesOk l->TriplesOk (l++[rawInt f.line,rawInt f.col,c]):=λl h=>by
 fun_induction TriplesOk l with
 | case1=>trivial
 | case2 a b c d e g i=>exact i h
 | case3=>trivial
theorem Aw0 {g f:Pos}{c cv:Value}:∀(l:w6),TriplesOk l->codeAmong f (l++[rawInt g.line,rawInt g.col,c])=some cv->codeAmong f l=some cv\/cv=c:=λl h e=>by
 fun_induction TriplesOk l with
 | case1 =>
  simp only[dH,rawInt,codeAmong]at e
  grind
 | case2 a b c d k i j =>
  simp only[jD,codeAmong]at e ⊢
  grind
 | case3=>trivial
def HLam (H H':Hp):Prop:=H'=H\/∃c o,H c=none/\H'=upd H c (.frz o (.own 0))
noncomputable abbrev Ay2 (qual:Str) (params:Arguments) (body:Expr) (scope:Scope) (cl:List (Str×Addr)) (pm cv ctv:Value):Obj:={ cls:=.type "function",data:=.func (kla_fn "<lambda>" qual params body scope cl pm cv ctv) }
def LamCd (qual:Str)(cv:Value)(H:Hp):Prop:=∃c o vs t,cv=.ref c/\H c=some (.frz o (.own 0))/\o.data=.fields vs/\vs[1]?=some (.str qual t)
theorem LamCd.rec {P:u6}{w:World}{qual:Str}{cv:Value}{H:Hp}{h:Heap}(x:LamCd qual cv H)(b:HOk P w H h):h.CodeRec cv qual:=by
 obtain⟨c,o,i,t,e,a,d,f⟩:=x;obtain⟨g,_⟩:=b c _ a;exact⟨c,o,i,t,e,g,d,f⟩
section
variable {X:Cx}{pins:y_}{σ:St}{H:Hp}{s:u_}
theorem Inv.grown {T c:Addr}{q:Str}{f:Obj}{h':Heap}{t':Nat}(I:Inv X pins σ H s)(w:H T=some (.tbl q))(k:∀b o,b≠T->s.heap.get? b=some o->h'.get? b=some o)(hc:s.heap.objs.size<=c)(ho:h'.get? c=some f)
 (j:zE X.prog X.w (upd H c (.frz f (.own 0))) h' T (.tbl q)):Inv X pins σ (upd H c (.frz f (.own 0))) { s with heap:=h',toks:=t' }:=by
 have p:H c=none:=I.hok.fresh hc
 have a:∀b u,H b=some u->b≠c:=λb u e=>Ba e p
 have i:∀b u,s.heap.get? b=some u->b≠c:=λb u e z=>absurd (az e) (by simp_all)
 have h:∀b,H b=none->b≠T:=λb e z=>by rw[z,w]at e;cases e
 refine I.step (g':=s.gens) (d':=s.drawn) (ch:=[]) (λ_ z=>nomatch z) (λb o _ _ _ e n=>k b o (h b n) e) (λb o _ _ _ e n=>⟨o.slots,k b o (h b n) e⟩) (λb o _ e n=>by rw[Ag (i b o e)];exact n) (λb o _ e=>?_)
  (λb l e=>by rw[Ag (a b _ e)];exact e) (λb o u e=>by rw[Ag (a b _ e)];exact e) (λb q e=>by rw[Ag (a b _ e)];exact e) (λm x=>?_) (λb u e=>?_) I.bare
 ·by_cases hb:b=T
  ·obtain⟨B,g,_⟩:=j
   simp_all
  ·exact⟨o,k b o hb e⟩
 ·obtain⟨o,t,y,e,r⟩:=x
  exact⟨o,t,y,k _ o (h _ I.free) e,r⟩
 ·by_cases hb:b=c
  ·rw[hb]at e ⊢
   rw[Aq]at e;cases e;exact⟨ho,f,ho⟩
  ·rw[Ag hb]at e
   by_cases hbT:b=T
   ·simp_all
   ·refine (I.hok b u e).stay (λd v C z=>k d v ?_ z) (λd z=>by rw[Ag (a d _ z)];exact z) (λd l z=>by rw[Ag (a d _ z)];exact z) λd A l z=>by rw[Ag (a d _ z)];exact z
    grind
theorem Bg9 {a:Arguments}{body:Expr}{scope:Scope}{N:Pos}{cl:List (Str×Addr)}{c T:Addr}{l:Str}{Q:z_}{A:t_}{E:z_}(I:Inv X pins σ H s)(hT:(T,l)∈Do X.K)(hC:codeHdIn X.K c T=true)(g:X.env.code=.ref c)
 (hq:X.env.qual ++ "<lambda>" = l) (w:defaultsOf a X.env=([],[])) (x:closureFor scope X.env=pure cl)
 (h:∀(f:Addr) (s':u_) (H':Hp) (pm cv j:Value),Inv X (pins++[(f,Ay2 l a body scope cl pm cv j)]) σ H' s'->HLam H H'->LamCd l cv H'->Q (.ref f) s') :
 wpAny (model X.prog X.w) A (eval (.Lambda a body scope N) X.env) Q E s:=by
 have D:H T=some (.tbl l):=I.base.tbls T l (I.ok.tab (T,l) hT);obtain⟨ps,F,K,i⟩:=I.hok T _ D;have C:=codeHd_of_K I.kIn hC;have m:s.heap.Ns mainGlobals X.mg:=I.ok.mod.glob.keeps I.bk;obtain⟨Z,ob,b1,b2,b3,b4,b5,b6,b7⟩:=I.ok.mod.bmod;have k:=I.bk _ _ b4
 have M:mainGlobals≠T:=λz=>by
  obtain⟨o,es,ep,e,d,_⟩:=m;rw[z,F]at e;cases e;cases d
 have O:Z≠T:=λz=>by rw[z,F]at k;cases k;cases b5
 have Y:s.heap.BuiltinsAt X.mg T:=⟨Z,ob,b1,b2,b3,O,k,b5,b6,b7⟩
 have q:∀{n:Heap} {H':Hp} {y:Nat} {o:Obj},Inv X _ σ H' { s with heap:=n,toks:=y }->o.isFreed=false->(∀v,o.data≠.cell v)->Inv X (pins++[(n.objs.size,o)]) _ _ _:=λ{n H' y o} J R G=>by
  have f:=J.fpOk (au _) (J.hok.fresh (au _))
  have J2:Inv X _ _ _ { s with heap:=n.push o,toks:=y }:=J.kept λb u e=>aC _ e
  refine J2.pins_of λp hp=>?_
  rcases bJ.mp hp with z | z
  ·exact J2.pin p (aR _ z)
  ·rw[aN.mp z]
   exact⟨aJ _ R,f.1,f.2.1,f.2.2.1,G⟩
 refine kla_eval w ?_
 rw[hq]
 cases hf:codeAmong _ _ with
 | none =>
  refine kla_makeFunction x I.ok.glob m g C F K hf M Y λS j n y hx r hlt B U=>?_
  obtain⟨c2,P,vs,t,L,V,G,hv⟩:=B
  cases L
  have hn := I.hok.fresh r
  refine h _ _ _ _ _ _ (q (I.grown D (λb o hb e=>hx b o hb e) r V ?_) rfl λv z=>by cases z) (.inr ⟨S,P,hn,rfl⟩) ⟨S,P,vs,t,rfl,Aq,G,hv⟩
  refine⟨_,U,by rw[Array.toList_append];exact Ag0 _ K,λpos' cv z=>?_⟩
  rw[Array.toList_append]at z
  rcases Aw0 _ K z with z | rfl
  ·obtain⟨d,o,W,t',e1,L,e3⟩:=i _ _ z
   exact⟨d,o,W,t',e1,by rw[Ag (Ba L hn)];exact L,e3⟩
  ·exact⟨S,P,vs,t,rfl,Aq,G,hv⟩
 | some cv =>
  refine kla_makeFunctionHit x I.ok.glob m g C F K hf Y λj n y hk hsz=>?_
  exact h _ _ H _ _ _ (q (I.kept hk) rfl λv z=>by cases z) (.inl rfl) (i _ _ hf)
end
theorem Fun.okL {P:u6}{w:World}{K:v9}{mg:x_}{base:Heap}{x qual:Str}{st:Stmt}{f:Addr}{i:u5}{N ps:v4}{k:Nat}{sp:Sp}(F:Fun K x qual st f i)(S:Ay N ps (Ah st))(e:∀vs H Q E,sp vs H Q E->vs.length=ps.length)
 (c:∀(b:Value) (A:t_) (a:List Env) (s:u_) (H:Hp) (vs:m6) (Q:VK) (E:XK),i.code=b->Room k (A.deeper (envOfC qual (Ah st) s.heap.objs.size f b))->sp vs H Q E ->
  ∃t,PSs (Jo CX0 P w K mg base N qual (Ah st) f b A a s H E).nox (Cz st) t/\t { nx:=λ_ H'=>Q .non H',rt:=Q } (start N vs) H):FnOk P w K mg base CX0 (k+1) f i ps sp:=by
 obtain⟨oc,od,kV,j,pm,an,b,ct,l,rfl,m,g⟩:=F.ex
 refine A0c m g S e λA a s H vs Q E n d=>?_
 obtain⟨t,h,q⟩:=c b A _ s H _ Q E rfl n d;exact⟨t,h.nox,q⟩
noncomputable def En (o:Obj):Bool:=match o.data with
 | .cell _=>false
 | _=>true
def sel (h:Heap)(tabs:List (Addr×Addr×Str))(a:Addr):Option Obj:=(h.get? a).bind λo=>if (En o&&!(tabs.any λt=>t.2.1==a))=true then some o else none
def R9 (h:Heap)(tabs:List (Addr×Addr×Str)):Frag:=((List.range h.objs.size).filterMap λa=>(sel h tabs a).map λo=>(a,o))++tabs.map λt=>(t.1,Az5 t.2.1 t.2.2)
theorem Le {f:Nat->Option Obj}{b:Nat}:∀{l:List Nat},(l.filterMap λa=>(f a).map λo=>(a,o)).lookup b=if b∈l then f b else none
 | []=>by simp
 | a::l=>by
  rw[dJ]
  by_cases e:b=a
  ·subst e
   rw[if_pos bV]
   cases q:f b with
   | none =>
    simp only[Option.map_none];rw[Le]
    split
    ·exact q
    ·rfl
   | some o=>simp
  ·have h1:(b∈a::l)=(b∈l):=by simp[e]
   simp only[h1]
   cases q:f a with
   | none=>simp only[Option.map_none];exact Le
   | some o =>
    simp only[fG];rw[aU]
    have:(b==a)=false:=by simp[e]
    rw[this];exact Le
section
variable {h:Heap}{tabs:List (Addr×Addr×Str)}
theorem R8 (e:sel h tabs a=some o):h.get? a=some o/\En o=true/\∀t∈tabs,t.2.1≠a:=by
 obtain⟨c,d,b⟩:=cW.mp e
 grind
theorem Bx9 (e:h.get? a=some o) (hp:En o=true) (hn:∀t∈tabs,t.2.1≠a):sel h tabs a=some o:=by
 unfold sel
 grind
theorem Py (e:sel h tabs a=some o):(R9 h tabs).lookup a=some o:=by
 unfold R9;rw[List.lookup_append,Le,if_pos (List.mem_range.mpr (az (R8 e).1)),e];rfl
theorem Vr {a:Addr}{o:Obj}:∀{tabs:List (Addr×Addr×Str)},(tabs.map λt=>(t.1,Az5 t.2.1 t.2.2)).lookup a=some o->∃t∈tabs,t.1=a
 | [],e=>by cases e
 | t::r,e=>by
  rw[aG,aU]at e
  split at e
  ·rename_i z
   exact⟨t,bV,by simpa using (eq_comm.mp (by simpa using z))⟩
  ·obtain⟨t',h1,h2⟩:=Vr e
   exact⟨t',bD _ h1,h2⟩
theorem B5v (ht:∀t∈tabs,CodeHd h t.1 t.2.1/\h.get? t.2.1=some { cls:=.none,data:=.fields #[] })(D:∀t∈tabs,(tabs.map λt=>(t.2.1,t.2.2)).lookup t.2.1=some t.2.2) :
 (R9 h tabs).In h/\TabAt (R9 h tabs) h/\(∀t∈tabs,codeHdIn (R9 h tabs) t.1 t.2.1=true/\(t.2.1,t.2.2)∈Do (R9 h tabs))/\∀a o,h.get? a=some o->En o=true->o.data≠.fields #[]->(R9 h tabs).lookup a=some o:=by
 have g:∀a o,h.get? a=some o->En o=true->o.data≠.fields #[]->sel h tabs a=some o:=λa o e d j=>Bx9 e d λt m z=>by
  have:=(ht t m).2;rw[z,e]at this;cases this;exact j rfl
 have code:∀t∈tabs,∃o i,h.get? t.1=some o/\o.cls=.type "code" /\ o.data=.fields i/\i[11]?=some (.ref t.2.1)/\sel h tabs t.1=some o:=λt m=>by
  obtain⟨o,i,_,_,_,_,_,_,_,w,v,l,u,_⟩:=(ht t m).1
  refine⟨o,i,w,v,l,u,g t.1 o w (by unfold En;rw[l]) λz=>?_⟩
  rw[l]at z
  injection z with z
  rw[z]at u;simp at u
 have c:∀{a:Addr} {o:Obj},(R9 h tabs).lookup a=some o->sel h tabs a=some o:=λ{a o} e=>by
  cases q:sel h tabs a with
  | some y=>rw[Py q]at e;exact e
  | none =>
   unfold R9 at e;rw[List.lookup_append,Le]at e
   have F:(if a∈List.range h.objs.size then sel h tabs a else none)=none:=by
    split
    ·exact q
    ·rfl
   rw[F]at e
   obtain⟨t,m,z⟩:=Vr (show (tabs.map λt=>(t.1,Az5 t.2.1 t.2.2)).lookup a=some o from e)
   obtain⟨_,_,_,_,_,_,s⟩:=code t m;rw[z,q]at s;cases s
 have k:Do (R9 h tabs)=tabs.map λt=>(t.2.1,t.2.2):=by
  unfold Do R9;rw[List.filterMap_append]
  have x:((List.range h.objs.size).filterMap λa=>(sel h tabs a).map λo=>(a,o)).filterMap (λp=>Xf p.2)=[]:=by
   rw[List.filterMap_eq_nil_iff];intro p d;obtain⟨a,_,e⟩:=eO.mp d;obtain⟨o,x,rfl⟩:=aV.mp e;have j:=(R8 x).2.1
   show Xf o=none
   unfold Xf;unfold En at j
   split
   ·rename_i z;rw[z]at j;cases j
   ·rfl
  have Q:(tabs.map λt=>(t.1,Az5 t.2.1 t.2.2)).filterMap (λp=>Xf p.2)=tabs.map λt=>(t.2.1,t.2.2):=by
   clear g c code D ht x
   induction tabs with
   | nil=>rfl
   | cons t r S =>
    rw[aG,dJ]
    show (t.2.1,t.2.2)::_=_
    rw[S];rfl
  rw[x,Q,dH]
 have B:(R9 h tabs).In h:=λa o e=>(R8 (c e)).1
 refine⟨B,⟨λp d=>?_,λp d=>?_⟩,λt m=>⟨?_,?_⟩,λa o e d j=>Py (g a o e d j)⟩
 ·rw[k]at d
  obtain⟨t,m,rfl⟩:=aB.mp d;obtain⟨o,i,w,v,l,u,_⟩:=code t m
  refine⟨(ht t m).2,⟨t.1,o,i,w,v,l,u⟩,?_⟩
  cases q:(R9 h _).lookup _ with
  | none=>rfl
  | some y=>exact absurd rfl ((R8 (c q)).2.2 t m)
 ·rw[k]at d ⊢
  obtain⟨t,m,rfl⟩:=aB.mp d;exact D t m
 ·obtain⟨o,i,_,v,l,_,s⟩:=code t m
  obtain⟨y,G,f,tf,fl,tg,b,n,tt,J,K,L,M,g5,I,N,H,P,A⟩:=(ht t m).1;have O := bT (J.symm.trans (R8 s).1);subst O;obtain⟨R,od,C,E⟩:=y
  cases (show R=Value.type _ from K)
  cases (show C=Data.fields _ from L)
  unfold codeHdIn;rw[(Py s)];simp only[M,I,N,H,P]
  simp[A]
 ·rw[k];exact aB.mpr ⟨t,m,rfl⟩
end
section
variable {q:u6}{loose:v4}{mean:ExcName->u9}{mg mb:x_}{h:Heap}{K:Frag}
theorem A3d (j:∀a o,h.get? a=some o->En o=true->o.data≠.fields #[]->K.lookup a=some o) (c:h.CodeRec f x):codeIn K f x=true:=by
 obtain⟨a,o,b,t,rfl,g,d,e⟩:=c
 have k:=j a o g (by unfold En;rw[d]) λz=>by grind
 obtain⟨oc,od,m,i⟩:=o
 show (match K.lookup a with
  | some ⟨_,_,.fields b,_⟩=>match b.toList with | _::.str n _::_=>n==x | _=>false
  | _=>false)=true
 obtain⟨l⟩:=b
 match l,e with
 | _::.str n u::_,e =>
  simp_all
theorem Bk6 (T:Top q loose mean mg mb h)(i:∀a o,h.get? a=some o->En o=true->o.data≠.fields #[]->K.lookup a=some o) {st:Stmt}(hd:d∈recsOf q) (w:d.params=Jp st) (l:d.body=Cz st) (m:d.scope=Ah st) :
 ∃f fd,Fun K d.name d.name st f fd/\mg d.name=some (.ref f):=by
 obtain⟨a,o,e,b,c,n,p,r,s⟩:=T.fn d hd
 have k:=i a o p (by unfold En;grind) λz=>by simp_all
 obtain⟨t,u,v,g⟩:=o
 cases (r)
 have j:PySem.Calls.docDef d.name d.params d.body d.scope e b c=fnOf d.name d.name (Jp st) (Cz st) (Ah st) .none .none c e none b .none:=by rw[w,l,m];rfl
 refine⟨a,_,⟨⟨t,u,.none,c,e,none,b,.none,g,j,k,A3d i s⟩,?_⟩,n⟩
 unfold keepIn
 grind
theorem Bn3 (T:Top q loose mean mg mb h){d:DefRec}(hd:d∈recsOf q):∃c P:Addr,CodeHd h c P/\h.get? P=some { cls:=.none,data:=.fields #[] }/\∀f o b,mg d.name=some (.ref f)->h.get? f=some o->o.data=.func b->b.code=.ref c:=by
 obtain⟨a,o,b,c,P,m,j,p,k,g,e⟩:=T.tab d hd
 refine⟨c,P,CodeHd.of g e,e.2,λf n i r s l=>?_⟩
 simp_all
noncomputable def Bb4 (q:u6) (loose:v4) (RN:v4) (x:Str):Bool:=!startupNames.contains x&&!loose.contains x&&!RN.contains x&&!((litsOf q).map (·.1)).contains x&&!((clssOf q loose).map (·.name)).contains x
theorem Dn (T:Top q loose mean mg mb h){a bs:v4}(f:(recsOf q).map (·.name)=a)(hb:bs.all (Bb4 q loose a)=true) (hx:x∈bs):mg x=none:=by
 have:=bL.mp hb x hx;unfold Bb4 at this;simp only[cu,jC,List.contains_eq_mem,decide_eq_false_iff_not]at this;obtain⟨⟨⟨⟨d,c⟩,g⟩,e⟩,b⟩:=this
 exact T.free x d c (by grind) e b
end
theorem An6 (a:(recsOf q).map (λd=>(d.name,d.params,d.body,d.scope))=L) {i:Nat} (e:L[i]?=some x) :
 ∃d,d∈recsOf q/\d.name=x.1/\d.params=x.2.1/\d.body=x.2.2.1/\d.scope=x.2.2.2:=by
 grind
theorem Cy (a:(recsOf q).map (λd=>(d.name,d.params,d.body,d.scope))=L):(recsOf q).map (·.name)=L.map (·.1):=by
 rw[<- a,cP];rfl
theorem Bc8 {K:Frag}{h:Heap}{x qual:Str}{st:Stmt}{f:Addr}{a:u5}{v:Value}{mg:x_}(F:Fun K x qual st f a)(b:K.In h)(hc:∀f o a,mg x=some (.ref f)->h.get? f=some o->o.data=.func a->a.code=v)(hm:mg x=some (.ref f)):a.code=v:=by
 obtain⟨j,p,m,g,k,l,d,n,i,e,c,_⟩:=F.ex;exact hc f _ _ hm (b _ _ c) rfl
theorem Bg1 {K:Frag} {st:Stmt} (F:Fun K x qual st f c) (h:∀(d a e:Value) (i:Option Addr) (b g:Value) (s:u_) (u:Value),BindsTo s (fnOf x qual (Jp st) (Cz st) (Ah st) .none d a e i b g) ⟨[u],[]⟩ [(y,u)]):∀(s:u_) (u:Value),BindsTo s c ⟨[u],[]⟩ [(y,u)]:=by
 obtain⟨m,n,d,a,e,i,b,g,j,k,l,_⟩:=F.ex
 simp_all
end L2
namespace L2
open PySem PySem.Spec PyProof.Rows
section
variable {prog:u6}{w:World}{K:Type}[DecidableEq K]{knd:HeapKind prog w K}{A:t_}{E:z_}{s:u_}
theorem A5l (hu:knd.room A) (hk:knd.is s.heap k a) (hm:s.heap.DictOfH knd d xs) (hsz:xs.length<=sizeLine)
 (l:∀p,atKey xs k=some p->Q p.2 { s with toks:=s.toks+knd.draws k })
 (m:atKey xs k=none->∀h',h'.DictOfH knd d (xs++[(k,a,v)])->Heap.SameBut d s.heap h'->Q v { s with heap:=h',toks:=s.toks+knd.draws k }) :
 wpAny (model prog w) A (dictSetDefault d (.ref a) v) Q E s:=by
 obtain⟨o,r,t,f,u,c,i,g,n⟩:=hm;unfold dictSetDefault
 refine bH ?_
 refine aj (knd.pyHash hu hk ?_)
 refine aj (wpAny_dictFind_heap (s:={ s with toks:=s.toks+knd.draws k }) hu hk f c i g n ?_ ?_)
 ·intro h
  refine aj (cJ (aj (wpAny_updateDictKeys (hz:=by have e:=size_of_entries i;lia) (s:={ s with toks:=s.toks+knd.draws k }) f c (ak (m (atKey_none_of_get h) _
   ⟨_,_,t+1,bO _ f (Obj.isFreed_of_dict (Obj.data_mapDictKeys c _)),u.mapDictKeys _,Obj.data_mapDictKeys c _,?_,?_,?_⟩ (bI ..))))))
  ·simp[i,entryOfKey]
  ·intro x b
   rcases bJ.mp b with b | b
   ·exact knd.keeps (g x b) f c (bI ..)
   ·cases aN.mp b
    exact knd.keeps hk f c (bI ..)
  ·rw[bw,fC]
   refine⟨n,by simp,λx b y z e=>?_⟩
   cases aN.mp z
   have B:x=k:=e;exact not_mem_keys_of_get h (B▸b)
 ·intro j p q
  refine aj (wpAny_dictEntries f c ?_)
  have C:r[j]?=some (entryOfKey knd (k,p)):=by
   rw[<- jE,i,bK,q];rfl
  rw[C];exact aj (cJ (ak (l p (atKey_of_get n q))))
end
section
variable {X:Cx}{pins:y_}{σ:St}{H:Hp}{s:u_}{a b:Addr}{E:z_}{A:t_}
theorem Ap9 (hd:(a==sysModules)=false) (hz:xs.length<=sizeLine) :
 MeetsIn P w (Builtin.«dict.setdefault» ⟨[.ref a,.ref b,r],[]⟩) (λA R s=>A.units+9<cLine/\s.heap.DictOfH (Di P w) a xs/\(Di P w).is s.heap k b/\(∀p,atKey xs k=some p->R (.ok (.ret p.2)) { s with toks:=s.toks+Xb k }) /\
  (atKey xs k=none->∀c,c.DictOfH (Di P w) a (xs++[(k,b,r)])->Heap.SameBut a s.heap c->R (.ok (.ret r)) { s with heap:=c,toks:=s.toks+Xb k })) :=
 .of_wp λA R s ⟨l,e,m,g,h⟩=>by
  refine aj ?_
  refine aj (iW e.typeIs ?_)
  refine ak ?_
  show wpAny _ _ (if (a==sysModules)=true then _ else dictSetDefault a _ r >>= _) _ _ s
  rw[if_neg (by grind)]
  exact aj (A5l (A0a l) m e hz (λp i=>ak ⟨_,rfl,g p i⟩) λj c d f=>ak ⟨_,rfl,h j _ d f⟩)
theorem B3n (hu:A.units+9<cLine) (I:Inv X pins σ H s) (e:H a=some (.dT d)) (n:KAt H k b) (hl:d.length<sizeLine) (B:RelV z r)
 (i:∀v w' s',Jm d k=some v->Inv X pins σ H s'->RelV v w'->Q w' s') (g:∀s',Jm d k=none->Inv X pins σ (upd H a (.dT (d++[(k,z)]))) s'->Q r s') :
 wpAny (model X.prog X.w) A (call (.builtin "dict.setdefault") [.ref a,.ref b,r]) Q E s:=by
 obtain⟨u,m,D,f,l⟩:=Bv8 I.hok e
 have y:D.length<=sizeLine:=by rw[<- eG f];exact u
 refine eV PySem.F.slot_dict_setdefault l.typeIs PySem.F.entry_dict_setdefault (PySem.F.args_dict_setdefault_3 _ _ _) (Ap9 m y) ⟨hu,l,Wk I.hok n,λp w=>?_,λx N h C=>?_⟩
 ·have q:=f.val k
  rw[w]at q
  cases ev:Jm _ k with
  | none=>rw[ev]at q;exact False.elim q
  | some v=>rw[ev]at q;exact i v _ _ ev (I.tok _) q
 ·have q:=f.val k
  rw[x]at q
  cases ev:Jm _ k with
  | some v=>rw[ev]at q;exact False.elim q
  | none =>
   refine g _ ev ?_
   obtain⟨o,F,G,t,K,L,J,_,M⟩:=h
   refine U9 I (by rw[e];exact True.intro) C ⟨o,t⟩ ⟨by grind,m,_,KT.keeps (Paired.snoc f ⟨rfl,n,B⟩) λc O j=>?_,o,F,G,t,K,L,J,M⟩
   rw[Ag (A6u j e λz=>nomatch z)]
   exact j
end
def Bx7 (td ty tx:TE):TE:=λσ H Q=>td σ H λx H1=>∃a,x=.ref a/\IsD H1 a/\ty σ H1 λy H2=>tx σ H2 λz H3=>∃kvs k b,y=.ref b/\H3 a=some (.dT kvs)/\KAt H3 k b/\kvs.length<sizeLine /\
 (∀v,Jm kvs k=some v->Q v H3)/\(Jm kvs k=none->Q z (upd H3 a (.dT (kvs++[(k,z)]))))
section
variable {X:Cx}{o e f:Expr}{td ty tx:TE}{apos cpos:Pos}
theorem Bk8 (hu:X.A.units+64<cLine)(ho:QE X o td)(he:QE X e ty)(hf:QE X f tx)(m:M2 X o "setdefault" apos e f cpos):QE X (.Call (.Attribute o "setdefault" apos) [e,f] [] cpos) (Bx7 td ty tx):=by
 refine⟨?_⟩
 intro c s σ H Q I h
 refine jn m.base m.few m.line gR PySem.F.slot_dict_setdefault PySem.F.type_dict_setdefault (thn (ho.1 c s _ H _ I h) λu s1 ⟨x,H1,n,O,a,D,d,N⟩=>?_)
 subst D;obtain rfl:u=Value.ref a:=O;obtain⟨q,r,_⟩:=Wu n d
 refine⟨q,r,?_⟩
 rw[m.trees]
 refine fQ rfl (gO (dh (thn (he.1 _ _ _ _ _ n N) λiv s2 ⟨y,H2,t,w,A⟩ =>
  dh (thn (hf.1 _ _ _ _ _ t A) λfv s3 ⟨z,B,p,l,E,k,b,F,G,J,C,L,M⟩=>eQ ?_))))
 subst F
 cases w
 exact B3n (bB (bZ (by decide) _) hu) p G J C l (λv w' K i j g=>⟨v,B,j,g,L v i⟩) λK i j=>⟨z,_,j,l,M i⟩
theorem Bh2 (hu:X.A.units+64<cLine)(ho:QE X o td)(he:QE X e ty)(hf:QE X f tx)(m:M2 X o "get" apos e f cpos):QE X (.Call (.Attribute o "get" apos) [e,f] [] cpos) (Ag8 td ty tx):=⟨A6y (bB (bZ (by decide) _) hu) ho.get he.get hf.get m⟩
theorem Rt : QE X (.Dict [] [] a) Af7:=⟨Be6⟩
end
section
variable {P:u6}{w:World}{A:t_}{E:z_}{s:u_}
theorem Ay0:((Manifest.find? "dict_keyiterator").elim "dict_keyiterator" λx=>x.tpName) = "dict_keyiterator" := by rfl
theorem Ap2 (f:s.heap.IsKeyIter it dd i es.size e) (u:s.heap.get? dd=some od) (a:od.data=.dict es e) (hi:i<es.size)
 (q:∀h',h'.IsKeyIter it dd (i+1) es.size e->Heap.SameBut it s.heap h'->Q (some es[i].key) { s with heap:=h' }):wpAny (model P w) A (pyNext (.ref it)) Q E s:=by
 obtain⟨k,g,d,z,r⟩:=s;obtain⟨⟨c,v,x,G⟩,l,m,h⟩:=f;obtain⟨C,j,o,t⟩:=od;simp only at m h a;subst m h a;have n:(⟨k,g,d,z,r⟩:u_).TypeIs (.ref it) "dict_keyiterator" := ⟨_,l,rfl⟩;have D:=mroOf_keyiter
 have p:Builtin.Dict_items.ownsTuple "dict_keyiterator" = false:=by decide
 have y:es[(i:Int).toNat]?=some es[i]:=by simp[hi]
 unfold pyNext
 refine aj (cN (b_ (name:="__next__") n iY (bA iY n jP ?_ (jQ _))))
 repeat any_goals first | assumption | wp_step
 simp only[Ay0,p,cD,bx,gZ,List.take]
 have B:¬ ((i:Int)<0):=by lia
 simp only[B,bx,y]
 repeat any_goals first | assumption | wp_step
 simp only[Ay0,p,cD,bx]
 have b:(k.update it (Obj.mapFields (·.setIfInBounds 1 (rawInt ((i:Int)+1))))).IsKeyIter it dd (i+1) es.size e :=
  ⟨_,bO _ l (e_ (dw rfl _)),iJ ..,by rw[dw rfl];simp[rawInt]⟩
 exact⟨_,rfl,ak (q _ b (bI ..))⟩
theorem A0q (a:A.handled=none) (f:s.heap.IsKeyIter it dd i es.size j) (u:s.heap.get? dd=some od) (e:od.data=.dict es j) (hi:es.size<=i)
 (v:∀h',Heap.ExtBut it s.heap h'->Q none { s with heap:=h' }):wpAny (model P w) A (pyNext (.ref it)) Q E s:=by
 obtain⟨z,g,d,r,x⟩:=s;obtain⟨⟨c,p,q,D⟩,t,h,l⟩:=f;obtain⟨G,k,m,B⟩:=od;simp only at h l e;subst h l e;have n:(⟨z,g,d,r,x⟩:u_).TypeIs (.ref it) "dict_keyiterator" := ⟨_,t,rfl⟩;have H:=mroOf_keyiter
 have y:Builtin.Dict_items.ownsTuple "dict_keyiterator" = false:=by decide
 have C:es[(i:Int).toNat]?=none:=by simp[hi]
 unfold pyNext
 refine aj (cN (b_ (name:="__next__") n iY (bA iY n jP ?_ (jQ _))))
 repeat any_goals first | assumption | wp_step
 simp only[Ay0,y,cD,bx,gZ,List.take]
 have o:¬ ((i:Int)<0):=by lia
 simp only[o,bx,C]
 repeat any_goals first | assumption | wp_step
 refine iZ (show A.in1.handled=none from a) ?_
 refine aj (cZ (T := "StopIteration") (b:=true) ⟨_,aJ _ rfl,rfl⟩ fj ?_)
 exact ak (v _ (((bI ..).extBut.push _).push _))
theorem Ak2 (q:(dd==sysModules)=false) (b:s.heap.get? dd=some od) (hx:od.ExactDict) (a:od.data=.dict es k)
 (m:Q (.ref s.heap.objs.size) { s with heap:=s.heap.push { cls:=.type "dict_keyiterator",data:=.fields #[.ref dd,.int 0 0,.int es.size 0,.int k 0] } }):wpAny (model P w) A (pyIter (.ref dd)) Q E s:=by
 obtain⟨o,g,d,p,l⟩:=s;obtain⟨t,f,e,n⟩:=od;obtain⟨i,h,j⟩:=hx;simp only at i h j a;subst i h j a;have c:(⟨o,g,d,p,l⟩:u_).TypeIs (.ref dd) "dict" := ⟨_,b,rfl⟩
 refine jF c F.slot_dict_iter (bA F.slot_dict_iter c F.entry_dict_iter ?_ (F.args_dict_iter_1 _))
 unfold Builtin.«dict.__iter__» Builtin.Dict.dictSlotNone
 refine aj (aj (iW c (ak ?_)))
 have r:Builtin.Dict.showsAll dd=pure ():=by unfold Builtin.Dict.showsAll;rw[if_neg (by rw[q];exact aW)]
 show wpAny _ _ (Builtin.Dict.showsAll dd >>= _) _ _ _
 repeat any_goals first | assumption | wp_step
 exact⟨_,rfl, "dict_keyiterator",_,⟨_,aJ _ rfl,rfl⟩,F.slot_dict_keyiterator_next.lookup,m⟩
end
section
variable {P:u6}{w:World}{A:t_}{E:z_}{s:u_}
theorem Rh {h:Heap} (e:h.get? it=some { cls:=.type "dict_itemiterator",data:=.fields vs }):(h.update it (Obj.mapFields f)).get? it=some { cls:=.type "dict_itemiterator",data:=.fields (f vs) } :=
 bO _ e (e_ (dw rfl _))
theorem As7:((Manifest.find? "dict_itemiterator").elim "dict_itemiterator" λx=>x.tpName) = "dict_itemiterator" := by rfl
theorem Bc0 (c:IsItemIter s.heap it dd i es.size k O G) (T:s.heap.get? dd=some od) (h:od.data=.dict es k) (hi:i<es.size)
 (W:∀h',IsItemIterOut h' it dd (i+1) es.size k es[i].key es[i].val s.heap.objs.size->h'.get? s.heap.objs.size=some { cls:=.type "tuple",data:=.seq #[es[i].key,es[i].val] }->h'.objs.size=s.heap.objs.size+1 ->
  (∀b o,b≠it->s.heap.get? b=some o->h'.get? b=some o)->Q (some (.ref s.heap.objs.size)) { s with heap:=h' }):wpAny (model P w) A (pyNext (.ref it)) Q E s:=by
 obtain⟨a,g,d,C,v⟩:=s;obtain⟨Z,H,z,U⟩:=od;simp only at h;subst h;have L:(⟨a,g,d,C,v⟩:u_).TypeIs (.ref it) "dict_itemiterator" := ⟨_,c,rfl⟩;have f1:=mroOf_itemiter
 have N:Builtin.Dict_items.ownsTuple "dict_itemiterator" = true:=by decide
 have Y:es[(i:Int).toNat]?=some es[i]:=by simp[hi]
 have S:¬ ((i:Int)<0):=by lia
 unfold pyNext
 refine aj (cN (b_ (name:="__next__") L i_ (bA i_ L jR ?_ (jT _))))
 repeat any_goals first | assumption | wp_step
 simp only[As7,N,cB,List.drop,List.take]
 repeat any_goals first | assumption | wp_step
 simp only[S,bx,Y]
 repeat any_goals first | assumption | wp_step
 simp only[As7,N,cB]
 have m:Heap.SameBut it a (a.update it (Obj.mapFields λx=>x.setIfInBounds (2+1) (rawInt ((i:Int)+1)))):=bI ..
 have y:(a.update it (Obj.mapFields λx=>x.setIfInBounds (2+1) (rawInt ((i:Int)+1)))).get? it=some { cls:=.type "dict_itemiterator",data:=.fields #[.none,.bool false,.ref dd,rawInt ((i:Int)+1),.int es.size 0,.int k 0,O,G] }:=Rh c
 refine⟨_,rfl,ak ?_⟩
 show Q (some (.ref (a.update it (Obj.mapFields λx=>x.setIfInBounds (2+1) (rawInt ((i:Int)+1)))).objs.size)) { heap:=(((((a.update it (Obj.mapFields λx=>x.setIfInBounds (2+1) (rawInt ((i:Int)+1)))).push { cls:=Value.type "tuple",data:=Data.seq #[es[i].key,es[i].val] }).update it (Obj.mapFields λx=>x.setIfInBounds 6 es[i].key)).update it (Obj.mapFields λx=>x.setIfInBounds (6+1) es[i].val)).update it (Obj.mapFields λx=>x.setIfInBounds 0 (rawInt (a.update it (Obj.mapFields λx=>x.setIfInBounds (2+1) (rawInt ((i:Int)+1)))).objs.size))).update it (Obj.mapFields λx=>x.setIfInBounds 1 (Value.bool false)),gens:=g,drawn:=d,toks:=C,os:=v }
 generalize a.update it (Obj.mapFields λx=>x.setIfInBounds (2+1) (rawInt ((i:Int)+1)))=h1 at m y ⊢
 have V:h1.objs.size=a.objs.size:=m.1;have B:=aC { cls:=Value.type "tuple",data:=Data.seq #[es[i].key,es[i].val] } y;have l:(h1.push { cls:=Value.type "tuple",data:=Data.seq #[es[i].key,es[i].val] }).get? h1.objs.size=some { cls:=.type "tuple",data:=.seq #[es[i].key,es[i].val] }:=aJ _ rfl
 have D:∀b o,b≠it->a.get? b=some o->(h1.push { cls:=Value.type "tuple",data:=Data.seq #[es[i].key,es[i].val] }).get? b=some o:=λb o n e=>aC _ ((m.2 b n).trans e)
 have q:(h1.push { cls:=Value.type "tuple",data:=Data.seq #[es[i].key,es[i].val] }).objs.size=h1.objs.size+1:=c7 ..;generalize h1.push { cls:=Value.type "tuple",data:=Data.seq #[es[i].key,es[i].val] }=h2 at B l D q ⊢;rw[V]at l q ⊢;have X:a.objs.size≠it:=bU (az c)
 have r:=bI h2 it (Obj.mapFields λx=>x.setIfInBounds 6 es[i].key)
 have I:=Rh (f:=λx=>x.setIfInBounds 6 es[i].key) B
 generalize h2.update it (Obj.mapFields λx=>x.setIfInBounds 6 es[i].key)=h3 at r I ⊢
 have p:=bI h3 it (Obj.mapFields λx=>x.setIfInBounds (6+1) es[i].val)
 have K:=Rh (f:=λx=>x.setIfInBounds (6+1) es[i].val) I
 generalize h3.update it (Obj.mapFields λx=>x.setIfInBounds (6+1) es[i].val)=h4 at p K ⊢
 have u:=bI h4 it (Obj.mapFields λx=>x.setIfInBounds 0 (rawInt a.objs.size))
 have J:=Rh (f:=λx=>x.setIfInBounds 0 (rawInt a.objs.size)) K
 generalize h4.update it (Obj.mapFields λx=>x.setIfInBounds 0 (rawInt a.objs.size))=h5 at u J ⊢
 have t:=bI h5 it (Obj.mapFields λx=>x.setIfInBounds 1 (Value.bool false))
 have M:=Rh (f:=λx=>x.setIfInBounds 1 (Value.bool false)) J
 generalize h5.update it (Obj.mapFields λx=>x.setIfInBounds 1 (Value.bool false))=h6 at t M ⊢
 have j:∀b o,b≠it->h2.get? b=some o->h6.get? b=some o:=λb o n e=>(t.2 b n).trans ((u.2 b n).trans ((p.2 b n).trans ((r.2 b n).trans e)))
 refine W h6 ?_ (j _ _ X l) (by rw[show h6.objs.size=h2.objs.size from t.1.trans (u.1.trans (p.1.trans r.1))];exact q) λb o n e=>j b o n (D b o n e)
 have R:((i+1:Nat):Int)=(i:Int)+1:=by lia
 unfold IsItemIterOut;rw[R];exact M
end
theorem KT.get {H:Hp}:∀{kvs:List (PyData×V)}{xs:List (PyData×Addr×Value)}{i:Nat}{k:t6}{v:V},KT H kvs xs->kvs[i]?=some (k,v)->∃b u,xs[i]?=some (k,b,u)/\KAt H k b/\RelV v u
 | _,_,_,_,_,.nil,e=>by simp at e
 | _,_,0,k,v,.cons (a:=p) (b:=q) h t,e=>by
  cases (show some p=some (k,v) from e)
  obtain⟨h1,h2,h3⟩:=h;obtain⟨k',b,u⟩:=q
  cases (show k=k' from h1)
  exact⟨b,u,rfl,h2,h3⟩
 | _,_,i+1,k,v,.cons h t,e=>by
  obtain⟨b,u,e1,r⟩:=KT.get t (by simpa using e)
  exact⟨b,u,by simpa using e1,r⟩
section
variable {X:Cx}{pins:y_}{σ:St}{H:Hp}{s:u_}{a:Addr}{kvs:List (PyData×V)}
theorem Inv.still (I:Inv X pins σ H s)(e:H a=some (.dT kvs)):∃o,Inv X pins σ (upd H a (.frz o (.dT kvs))) s:=by
 obtain⟨z,y,h,r,o,f,g,b,c⟩:=I.hok a _ e
 refine⟨o,U9 I (by rw[e];trivial) (Heap.SameBut.refl _ _) ⟨o,b⟩ ⟨b,z,y,h,KT.keeps r λc i d=>?_,o,f,g,b,c⟩⟩
 rw[Ag (A6u d e λz=>nomatch z)];grind
theorem Inv.seen (I:Inv X pins σ H s) (e:H a=some (.frz o (.dT kvs))):∃c b d,s.heap.get? a=some o/\(a==sysModules)=false/\o.ExactDict/\o.data=.dict b d/\b.toList=c.map (entryOfKey (Di X.prog X.w))/\KT H kvs c/\kvs.length<=sizeLine:=by
 obtain⟨h,z,y,c,r,g,b,d,i,j,k,l,f⟩:=I.hok a _ e
 grind
theorem Hc {es:v8} (h:es.toList=xs.map (entryOfKey (Di P w))) (r:KT H kvs xs):es.size=kvs.length:=by
 rw[<- jl,h,aq,eG r]
theorem Ae3 {es:v8} (h:es.toList=xs.map (entryOfKey (Di P w))) (r:KT H kvs xs) (e:kvs[i]?=some (k,v)) (hi:i<es.size) :
 ∃b u,es[i].key=.ref b/\es[i].val=u/\KAt H k b/\RelV v u:=by
 obtain⟨b,u,g,f,d⟩:=KT.get r e
 have a:es.toList[i]?=some (entryOfKey (Di P w) (k,b,u)):=by grind
 rw[jE,jG hi]at a;have c:=bT a
 exact⟨b,u,by rw[c];rfl,by rw[c];rfl,f,d⟩
end
noncomputable def Itk (a:Addr) (o:Obj):It :=
 ⟨λi H=>∃kvs,H a=some (.frz o (.dT kvs))/\i<kvs.length,λi H x H'=>H'=H/\∃kvs k v b,H a=some (.frz o (.dT kvs))/\kvs[i]?=some (k,v)/\x=.ref b/\KAt H k b,λi H=>∃kvs,H a=some (.frz o (.dT kvs))/\kvs.length<=i⟩
def Iti (a:Addr)(o:Obj):It :=
 ⟨λi H=>∃kvs,H a=some (.frz o (.dT kvs))/\i<kvs.length,λi H x H'=>∃p kvs k v b,x=.ref p/\H p=none/\H'=upd H p (.tup [.ref b,v])/\H a=some (.frz o (.dT kvs))/\kvs[i]?=some (k,v)/\KAt H k b,λi H=>∃kvs,H a=some (.frz o (.dT kvs))/\kvs.length<=i⟩
theorem A6n {P:u6}{w:World}{K:v9}{tg:Expr}{a it:Addr}{o:Obj}{es:v8}{ep:Nat}(hd:o.data=.dict es ep):Turn P w K tg (Itk a o) [it] it (λi h=>h.IsKeyIter it a i es.size ep) where
 mem:=by simp
 obj:=λi h st b hb=>by
  have e:b=it:=by simpa using hb
  subst e;obtain⟨o,e,c,d⟩:=st
  exact⟨o,e,λv z=>by rw[d]at z;cases z⟩
 keep:=λi h h' st k=>let ⟨o,e,r⟩:=st; ⟨o,k it (by simp) o e,r⟩
 item:=by
  intro X hP hw hK hc i pins s σ H E I hf st hg;subst hP hw hK;obtain⟨kvs,ha,hi⟩:=hg;obtain⟨xs,es',ep',g1,g2,g3,g4,g5,g6,g7⟩:=I.seen ha;rw[hd]at g4
  cases g4
  have li:i<es.size:=by rw[Hc g5 g6];exact hi
  obtain⟨⟨k,v⟩,hk⟩:∃x,kvs[i]?=some x:=⟨_,bz hi⟩;obtain⟨b,u,k1,k2,k3,k4⟩:=Ae3 g5 g6 hk li
  obtain⟨f0,f1,f2,f3,f4,f5⟩:=hf it (by simp)
  refine Ap2 st g1 hd li λh' st' sb=>?_
  have I1:Inv X pins σ H { s with heap:=h' }:=I.turned (t':=s.toks) (λb o hb e=>(sb.2 b hb).trans e) f0 f1 f3 f4 f5
  obtain⟨o',e,c,d⟩:=id st'
  exact⟨_,rfl,Ai9 (s:={ s with heap:=h' }) e c d (by decide) ⟨.ref b,H,I1,by rw[k1];rfl,⟨rfl,kvs,k,v,b,ha,hk,rfl,k3⟩,st',λb hb=>(hf b hb).1⟩⟩
 done:=by
  intro X hP hw hK hc i pins s σ H E I hf st hg;subst hP hw hK;obtain⟨kvs,ha,hi⟩:=hg;obtain⟨xs,es',ep',g1,g2,g3,g4,g5,g6,g7⟩:=I.seen ha;rw[hd]at g4
  cases g4
  obtain⟨f0,f1,f2,f3,f4,f5⟩:=hf it (by simp)
  exact A0q (I.ok.hd hc) st g1 hd (by rw[Hc g5 g6];exact hi) λh' eb=>⟨rfl,I.turned (t':=s.toks) (λb o hb e=>eb b o hb e) f0 f1 f3 f4 f5⟩
 self:=λ_ _ _ _ _ st h=>wpAny_pyIter_keyiter st h
def iDK (td:TE):TI:=λσ H R=>td σ H λx H1=>∃a o kvs,x=.ref a/\H1 a=some (.frz o (.dT kvs))/\R (Itk a o) H1
section
variable {X:Cx}
theorem Al7 (hl:QE X l f):QI X w l (iDK f):=by
 refine⟨?_⟩
 intro i s y H R I h
 refine thn (hl.1 _ s _ H _ I h) λv d ⟨x,m,c,n,p⟩=>?_
 obtain⟨a,o,r,e,j,q⟩:=p;subst e
 cases n
 obtain⟨A,B,C,k,u,t,g,D,E,F⟩:=c.seen j
 refine Ak2 u k t g ?_
 refine⟨d.heap.objs.size,[d.heap.objs.size],_,_,m,rfl,c.kept λb o e=>aC _ e,A6n g,⟨_,aJ _ rfl,rfl,rfl⟩,λb z=>?_,q⟩
 have e:b=d.heap.objs.size:=by grind
 subst e;exact c.fpOk (au _) (c.hok.fresh (au _))
def tFz (d:Nat)(t u:TS):TS:=λD σ H=>t { D with nx:=λσ' H'=>∃a kvs,σ'[d]?=some (some (.ref a))/\H' a=some (.dT kvs)/\∀o,u D σ' (upd H' a (.frz o (.dT kvs))) } σ H
theorem Ab1 {st:Stmt}{rest:List Stmt} (h1:QS X st t) (h2:QSs X rest u):QSs X (st::rest) (tFz d t u):=by
 obtain⟨h2⟩:=h2
 refine⟨?_⟩
 intro b s k H D I h
 refine fJ (thn (h1.1 _ s _ H _ I h) λf n q=>?_)
 cases f with
 | next =>
  obtain⟨i,l,g,a,e,m,j,q⟩:=q;obtain⟨o,c⟩:=g.still j;exact h2 _ _ _ _ D c (q o)
 | ret v=>exact q
 | brk=>exact q
 | cont=>exact q
end
section
variable {P:u6}{w:World}{A:t_}{E:z_}{s:u_}
theorem Bq5 (a:A.handled=none) (e:IsItemIter s.heap it dd i es.size f q r) (t:s.heap.get? dd=some od) (c:od.data=.dict es f) (hi:es.size<=i)
 (m:∀h',Heap.ExtBut it s.heap h'->Q none { s with heap:=h' }):wpAny (model P w) A (pyNext (.ref it)) Q E s:=by
 obtain⟨n,g,d,o,p⟩:=s;obtain⟨z,j,h,u⟩:=od;simp only at c;subst c;have k:(⟨n,g,d,o,p⟩:u_).TypeIs (.ref it) "dict_itemiterator" := ⟨_,e,rfl⟩;have y:=mroOf_itemiter
 have x:Builtin.Dict_items.ownsTuple "dict_itemiterator" = true:=by decide
 have v:es[(i:Int).toNat]?=none:=by simp[hi]
 have l:¬ ((i:Int)<0):=by lia
 unfold pyNext
 refine aj (cN (b_ (name:="__next__") k i_ (bA i_ k jR ?_ (jT _))))
 repeat any_goals first | assumption | wp_step
 simp only[As7,x,cB,List.drop,List.take]
 repeat any_goals first | assumption | wp_step
 simp only[l,bx,v]
 repeat any_goals first | assumption | wp_step
 refine iZ (show A.in1.handled=none from a) ?_
 refine aj (cZ (T := "StopIteration") (b:=true) ⟨_,aJ _ rfl,rfl⟩ fj ?_)
 exact ak (m _ (((bI ..).extBut.push _).push _))
theorem A5t (b:(dd==sysModules)=false):MeetsIn P w (Builtin.«dict.items» ⟨[.ref dd],[]⟩) (λ_ R s=>s.TypeIs (.ref dd) "dict" /\ R (.ok (.ret (.ref s.heap.objs.size))) { s with heap:=s.heap.push { cls:=.type "dict_items",data:=.fields #[.ref dd] } }) :=
 .of_wp λA R s ⟨t,h⟩=>by
  refine aj (aj (iW t (ak ?_)))
  have a:Builtin.Dict.showsAll dd=pure ():=by unfold Builtin.Dict.showsAll;simp_all
  rw[a]
  refine aj (ak (aj (bN (ak ⟨_,rfl,h⟩))))
theorem Bf0 (b:(dd==sysModules)=false) (ty:s.TypeIs (.ref dd) "dict")
 (a:Q (.ref s.heap.objs.size) { s with heap:=s.heap.push { cls:=.type "dict_items",data:=.fields #[.ref dd] } }):wpAny (model P w) A (call (.builtin "dict.items") [.ref dd]) Q E s :=
 eV PySem.F.slot_dict_items ty PySem.F.entry_dict_items (PySem.F.args_dict_items_1 _) (A5t b) ⟨ty,a⟩
theorem Be5 (hv:s.heap.get? v=some { cls:=.type "dict_items",data:=.fields #[.ref dd] }) (l:s.heap.get? dd=some od) (a:od.data=.dict es c)
 (k:Q (.ref s.heap.objs.size) { s with heap:=s.heap.push { cls:=.type "dict_itemiterator",data:=.fields #[.none,.bool false,.ref dd,.int 0 0,.int es.size 0,.int c 0,.none,.none] } }):wpAny (model P w) A (pyIter (.ref v)) Q E s:=by
 obtain⟨n,g,d,i,j⟩:=s;obtain⟨o,b,e,m⟩:=od;simp only at a;subst a;have f:(⟨n,g,d,i,j⟩:u_).TypeIs (.ref v) "dict_items" := ⟨_,hv,rfl⟩
 have h:Builtin.Dict_items.ownsTuple "dict_itemiterator" = true:=by decide
 refine jF f F.slot_dict_items_iter (bA F.slot_dict_items_iter f F.entry_dict_items_iter ?_ (F.args_dict_items_iter_1 _))
 repeat any_goals first | assumption | wp_step
 simp only[h,cB];exact⟨_,rfl, "dict_itemiterator",_,⟨_,aJ _ rfl,rfl⟩,F.slot_dict_itemiterator_next.lookup,k⟩
end
theorem Ax9 {P:u6}{w:World}{K:v9}{elts:v_}{kk:Nat}{pos:Pos}{a it:Addr}{o:Obj}{es:v8}{ep:Nat}(hd:o.data=.dict es ep):Turn P w K (.Tuple elts kk pos) (Iti a o) [it] it (λi h=>∃ok ov,IsItemIter h it a i es.size ep ok ov) where
 mem:=by simp
 obj:=λi h st b hb=>by
  have e:b=it:=by simpa using hb
  subst e;obtain⟨ok,ov,e⟩:=st
  exact⟨_,e,λv z=>by cases z⟩
 keep:=λi h h' st k=>let ⟨ok,ov,e⟩:=st; ⟨ok,ov,k it (by simp) _ e⟩
 item:=by
  intro X hP hw hK hc i pins s σ H E I hf st hg;subst hP hw hK;obtain⟨kvs,ha,hi⟩:=hg;obtain⟨ok,ov,st⟩:=st;obtain⟨xs,es',ep',g1,g2,g3,g4,g5,g6,g7⟩:=I.seen ha;rw[hd]at g4
  cases g4
  have li:i<es.size:=by rw[Hc g5 g6];exact hi
  obtain⟨⟨k,v⟩,hk⟩:∃x,kvs[i]?=some x:=⟨_,bz hi⟩;obtain⟨b,u,k1,k2,k3,k4⟩:=Ae3 g5 g6 hk li
  obtain⟨f0,f1,f2,f3,f4,f5⟩:=hf it (by simp)
  refine Bc0 st g1 hd li λh' st' new sz kp=>?_
  refine⟨_,rfl,?_⟩
  apply wpAny_letOwnedTupleGo_items st';intro h2 st2 sb2;have ne:s.heap.objs.size≠it:=bU (az st);have hp:H s.heap.objs.size=none:=I.hok.fresh (au _);have new2:h2.get? s.heap.objs.size=some { cls:=.type "tuple",data:=.seq #[es[i].key,es[i].val] }:=(sb2.2 _ ne).trans new
  refine⟨.ref s.heap.objs.size,upd H s.heap.objs.size (.tup [.ref b,v]),?_,rfl,⟨_,kvs,k,v,b,rfl,hp,rfl,ha,hk,k3⟩,⟨_,_,st2⟩,λc hc=>?_⟩
  ·refine I.turnLay (t':=s.toks) (h':=h2) (p:=s.heap.objs.size) (o:=.tup [.ref b,v]) (ch:=[it]) hf (λc o m e=>(sb2.2 c (by simpa using m)).trans (kp c o (by simpa using m) e)) (au _) ?_
   refine⟨show 2<=sizeLine by decide,[es[i].key,es[i].val],.cons (by rw[k1];rfl) (.cons (by rw[k2];exact k4) .nil),_,new2,rfl,⟨_,rfl⟩,rfl⟩
  ·have e:c=it:=by simpa using hc
   subst e;rw[Ag (aF ne)];exact f0
 done:=by
  intro X hP hw hK hc i pins s σ H E I hf st hg;subst hP hw hK;obtain⟨kvs,ha,hi⟩:=hg;obtain⟨ok,ov,st⟩:=st;obtain⟨xs,es',ep',g1,g2,g3,g4,g5,g6,g7⟩:=I.seen ha;rw[hd]at g4
  cases g4
  obtain⟨f0,f1,f2,f3,f4,f5⟩:=hf it (by simp)
  exact Bq5 (I.ok.hd hc) st g1 hd (by rw[Hc g5 g6];exact hi) λh' eb=>⟨rfl,I.turned (t':=s.toks) (λb o hb e=>eb b o hb e) f0 f1 f3 f4 f5⟩
 self:=λA i s Q E st h=>by
  obtain⟨ok,ov,st⟩:=st;exact PySem.W.kcp_self st h
def iDI (td:TE):TI:=λσ H R=>td σ H λx H1=>∃a o kvs,x=.ref a/\H1 a=some (.frz o (.dT kvs))/\R (Iti a o) H1
section
variable {X:Cx}
theorem A3b {d c k:Pos}{i:v_}{y:Nat}(hl:QE X l r) (hbase:attributeBase l "items" X.env (eval l X.env)=eval l X.env:=by rfl) (hline:(d.endLine==c.line)=true:=by rfl) :
 QI X (.Tuple i y k) (.Call (.Attribute l "items" d) [] [] c) (iDI r):=by
 refine⟨?_⟩
 intro g s K H R I h
 refine wpAny_Call_method0_late hbase hline (thn (hl.1 g s K H _ I h) λv f ⟨x,z,j,A,C⟩=>?_)
 obtain⟨a,o,m,e,t,q⟩:=C;subst e
 cases (show v=Value.ref a from A)
 obtain⟨p,B,_⟩:=Wu j (.inr ⟨m,.inr ⟨o,t⟩⟩);obtain⟨O,D,E,F,J,L,u,P,M,N⟩:=j.seen t
 refine⟨"dict", "dict.items",gR,PySem.F.slot_dict_items,PySem.F.type_dict_items,p,B,fQ rfl (PySem.evalArgs_none (Bf0 J p ?_))⟩
 refine Be5 (aJ _ rfl) (aC _ F) u ?_
 have G:∀b w,f.heap.get? b=some w->((f.heap.push { cls:=.type "dict_items",data:=.fields #[.ref a] }).push { cls:=.type "dict_itemiterator",data:=.fields #[.none,.bool false,.ref a,.int 0 0,.int D.size 0,.int E 0,.none,.none] }).get? b=some _:=λb w e=>aC _ (aC _ e)
 refine⟨_,[(f.heap.push _).objs.size],_,_,z,rfl,j.kept G,Ax9 u,⟨_,_,aJ _ rfl⟩,λb Q=>?_,q⟩
 have e:b=(f.heap.push { cls:=.type "dict_items",data:=.fields #[.ref a] }).objs.size:=by grind
 subst e
 have n:f.heap.objs.size<=(f.heap.push { cls:=.type "dict_items",data:=.fields #[.ref a] }).objs.size:=by simp_all
 exact j.fpOk n (j.hok.fresh n)
end
section
variable {P:u6}{w:World}{A:t_}{E:z_}{s:u_}
theorem A3p (quiet:A.handled=none){it dd:Addr}(ne:dd≠it){es:v8}{ep:Nat}{o:Obj}(hd:o.data=.dict es ep) :
 Walks P w A it [it,dd] [it] es.size (λi v=>∃h:i<es.size,v=es[i].key) (λi h=>h.IsKeyIter it dd i es.size ep/\h.get? dd=some o) where
 sub:=λb hb=>by simp at hb;simp[hb]
 frame:=λ_ _ _ st hk=>⟨let ⟨o,e,r⟩:=st.1; ⟨o,hk it (by simp) o e,r⟩,hk dd (by simp) _ st.2⟩
 item:=λi s Q E hi st hQ=>Ap2 st.1 st.2 hd hi λh' it' sb=>hQ _ h' s.toks ⟨hi,rfl⟩ ⟨it',(sb.2 _ ne).trans st.2⟩ λb o hb e=>(sb.2 b (λh=>hb (by simp[h]))).trans e
 done:=λs Q E st hQ=>A0q quiet st.1 st.2 hd (au _) λh' he=>hQ h' s.toks λb o hb e=>he b o (λh=>hb (by simp[h])) e
 self:=λ_ _ _ _ st hQ=>wpAny_pyIter_keyiter st.1 hQ
theorem A8u:typeLookup (.type "dict") "__len__" = pure (some (.builtin "dict.__len__")):=by trivial
theorem Bg8:isSubtype (.type "dict") (.type "dict")=pure true:=by rfl
theorem Ag5 (f:A.handled=none) (T:(dd==sysModules)=false) (x:s.heap.get? dd=some o) (C:o.ExactDict) (hd:o.data=.dict es d) (hn:es.size<=sizeLine)
 (R:∀c acc,(∀b o,s.heap.get? b=some o->c.heap.get? b=some o)->c.gens=s.gens->c.drawn=s.drawn->c.os=s.os->ItemsOf (λi v=>∃h:i<es.size,v=es[i].key) acc es.size->Q acc.toList c):wpAny (model P w) A (collect (.ref dd)) Q E s:=by
 unfold collect
 refine aj (wpAny_runValue (dq F.entry_proto_collect ?_))
 rw[dU F.plain_proto_collect _]
 show wpAny _ A.in1 (newList [] >>= λl=>again (.builtin "list.__iadd__" ⟨[l,.ref dd],[]⟩)) _ _ s
 refine aj (bN ?_)
 refine ak ⟨gb j0 _,dq F.entry_list_iadd ?_⟩
 rw[dU j0 _];have B:s.heap.objs.size≠dd:=bU (az x)
 have N:Builtin.List.listSameRef (.ref s.heap.objs.size) (.ref dd)=false:=by simp[Builtin.List.listSameRef,B]
 have z:=aC { cls:=.type "list",data:=.seq ([]:w6).toArray } x;have S:(s.heap.push { cls:=.type "list",data:=.seq ([]:w6).toArray }).get? s.heap.objs.size=some { cls:=.type "list",data:=.seq ([]:w6).toArray }:=aJ _ rfl
 show wpAny _ A.in1 (Builtin.List.listExtendWith (.ref s.heap.objs.size) (.ref dd) (.ref s.heap.objs.size)) _ _ _
 unfold Builtin.List.listExtendWith
 have U:({ s with heap:=s.heap.push { cls:=.type "list",data:=.seq ([]:w6).toArray } }:u_).TypeIs (.ref dd) "dict" := ⟨_,z,C.1⟩
 refine aj (dj U ?_)
 have k:(Value.type "dict" == Value.type "list")=false:=by decide
 have J:(Value.type "dict" == Value.type "tuple")=false:=by decide
 simp only[N,k,J,Bool.or_false,cD,bx]
 refine aj (Ak2 T z C hd ?_)
 have D:=aC { cls:=.type "dict_keyiterator",data:=.fields #[.ref dd,.int 0 0,.int es.size 0,.int d 0] } z;have q:=aC { cls:=.type "dict_keyiterator",data:=.fields #[.ref dd,.int 0 0,.int es.size 0,.int d 0] } S;have G:((s.heap.push { cls:=.type "list",data:=.seq ([]:w6).toArray }).push { cls:=.type "dict_keyiterator",data:=.fields #[.ref dd,.int 0 0,.int es.size 0,.int d 0] }).IsKeyIter (s.heap.push { cls:=.type "list",data:=.seq ([]:w6).toArray }).objs.size dd 0 es.size d:=⟨_,aJ _ rfl,rfl,rfl⟩;have K:(s.heap.push { cls:=.type "list",data:=.seq ([]:w6).toArray }).objs.size=s.heap.objs.size+1:=c7 ..
 have O:∀b o,s.heap.get? b=some o->((s.heap.push { cls:=.type "list",data:=.seq ([]:w6).toArray }).push { cls:=.type "dict_keyiterator",data:=.fields #[.ref dd,.int 0 0,.int es.size 0,.int d 0] }).get? b=some o:=λb o e=>aC _ (aC _ e)
 rw[K]at G ⊢
 generalize ((s.heap.push { cls:=.type "list",data:=.seq ([]:w6).toArray }).push { cls:=.type "dict_keyiterator",data:=.fields #[.ref dd,.int 0 0,.int es.size 0,.int d 0] })=k at *
 have j:({ s with heap:=k }:u_).TypeIs (.ref dd) "dict" := ⟨_,D,C.1⟩
 refine aj (bH ?_)
 unfold Builtin.List.listLengthHint
 refine aj (dI j A8u ?_)
 wp_delta
 refine aj (cZ (b:=true) j Bg8 ?_)
 show wpAny _ A.in1 (typeOf (Value.ref dd) >>= _) _ _ _
 refine aj (dj j ?_)
 refine ak ?_
 rw[if_pos (by decide)]
 refine aj (cJ ?_)
 refine aj (m:=Builtin.List.listTouch _) ?_
 unfold Builtin.List.listTouch
 refine aj (g_ q rfl ?_)
 have H:=bO (Obj.mapSeq (·.push Value.none)) q rfl
 refine g_ H rfl ?_
 have Y:=bO (Obj.mapSeq (·.pop)) H rfl
 have g:∀b o,b≠s.heap.objs.size->k.get? b=some o->((k.update s.heap.objs.size (Obj.mapSeq (·.push Value.none))).update s.heap.objs.size (Obj.mapSeq (·.pop))).get? b=some o:=λb o n e=>(cM _ _ (aF n)).trans ((cM _ _ (aF n)).trans e)
 have L:=az x;have M:dd≠s.heap.objs.size+1:=aM (fW L)
 have W:=A3p (P:=P) (w:=w) (A:=A.in1) (show A.in1.handled=none from f) M hd
 refine ak ⟨gb h_ _,codeAny_extend_loopS W.toS hn s.heap.objs.size (λm=>?_) _ es.size 0 _ _ _ rfl (aP _) ⟨?_,g _ _ (aF B) D⟩ Y (ItemsOf.nil _) λc r Z u y p=>?_⟩
 ·simp only[aD,aY,a_]at m
  rcases m with m | m
  ·exact absurd m (aM (eY _))
  ·exact B m
 ·obtain⟨t,X,V⟩:=G
  exact⟨t,g _ _ (bU (eY _)) X,V⟩
 ·show wpAny _ A (load s.heap.objs.size >>= _) _ _ c
  refine aj (wpAny_load y ?_)
  refine ak (R c r (λb t e=>u.heap b t (λI=>?_) (g b t (aM (az e)) (O b t e))) u.gens u.drawn u.os p)
  have a:=az e;simp only[aD,aY,a_]at I
  rcases I with h | h
  ·rw[h]at a;exact absurd a (bc _)
  ·rw[h]at a;exact absurd a (Nat.not_lt.mpr (dN _))
theorem Wt (t:(dd==sysModules)=false) (j:o.ExactDict) (hd:o.data=.dict es m) (hn:es.size<=sizeLine) :
 Meets (Builtin.«tuple.__new__» ⟨[.type "tuple",.ref dd],[]⟩)
  (λA R s=>A.handled=none/\s.heap.get? dd=some o/\∀(s':u_) (acc:v7),(∀b o,s.heap.get? b=some o->s'.heap.get? b=some o)->s'.gens=s.gens->s'.drawn=s.drawn->s'.os=s.os->ItemsOf (λi v=>∃h:i<es.size,v=es[i].key) acc es.size ->
   R (.ok (.ret (.ref s'.heap.objs.size))) { s' with heap:=s'.heap.push { cls:=.type "tuple",data:=.seq acc } }) :=
 .of_wp λP w A R s h=>by
  obtain⟨p,k,h⟩:=h;have l:=sub_tuple_self;have c:=init_tuple_lookup;have u:=madeHere_tuple;have n:s.TypeIs (.ref dd) "dict" := ⟨_,k,j.1⟩;have f:A.in1.handled=none:=p
  wp_walk using dj n,Ag5 f t k j hd hn
  intro s' acc q r d g a
  refine aj (ak ?_)
  show wpAny _ _ (Builtin.Tuple.tupleExact acc.toList.toArray >>= λv=>ret v) _ _ _
  unfold Builtin.Tuple.tupleExact
  have e:acc.toList.toArray=acc:=by simp
  refine aj (bN ?_ (by rw[e];show acc.size<=sizeLine;rw[a.1];exact hn))
  refine ak ⟨_,rfl,?_⟩
  rw[e];exact h s' _ q r d g a
theorem Yy (a:A.handled=none) (e:(dd==sysModules)=false) (f:s.heap.get? dd=some o) (g:o.ExactDict) (hd:o.data=.dict es d) (hn:es.size<=sizeLine)
 (h:∀(h':Heap) (tk:Nat) (acc:v7),(∀b o,s.heap.get? b=some o->h'.get? b=some o)->ItemsOf (λi v=>∃h:i<es.size,v=es[i].key) acc es.size->Q (.ref h'.objs.size) { s with heap:=h'.push { cls:=.type "tuple",data:=.seq acc },toks:=tk }) :
 wpAny (model P w) A (call (.type "tuple") [.ref dd]) Q E s:=by
 refine callType_new F.called_tuple (by rfl) (F.typeCall_tuple_1 _) (F.newCall_tuple_1 _) (λk=>jy _ _) F.entry_tuple_new
  (Wt e g hd hn) ⟨a,f,λm acc n p j l c=>⟨⟨_,aJ _ rfl,rfl⟩,?_⟩⟩
 grind
end
def Bi1 (H:Hp):w5->m6->Prop
 | [],vs=>vs=[]
 | k::ks,vs=>∃b r,vs=.ref b::r/\KAt H k b/\Bi1 H ks r
def Bw7 (td:TE):TE:=λσ H Q=>td σ H λx H1=>∃a o kvs,x=.ref a/\H1 a=some (.frz o (.dT kvs))/\∀vs p,Bi1 H1 (kvs.map (·.1)) vs->H1 p=none->Q (.ref p) (upd H1 p (.tup vs))
section
variable {X:Cx}
theorem Bw1 {H:Hp}{P:u6}{w:World}:∀{kvs:List (PyData×V)}{xs:List (PyData×Addr×Value)},KT H kvs xs->∃vs,Bi1 H (kvs.map (·.1)) vs/\Vals vs (xs.map λx=>Value.ref x.2.1)
 | _,_,.nil=>⟨[],rfl,.nil⟩
 | _,_,.cons (a:=p) (b:=q) h t=>by
  obtain⟨vs,h1,h2⟩:=Bw1 (P:=P) (w:=w) t;exact⟨.ref q.2.1::vs,⟨q.2.1,vs,rfl,h.2.1,h1⟩,.cons rfl h2⟩
theorem Bn7 (hc:X.calm=true) (hg:Gl X "tuple") (hm:X.mg "tuple" = none) (he:QE X e m) (hs1:isStar e=false:=by rfl):QE X (.Call (.Name "tuple" p) [e] [] j) (Bw7 m):=by
 refine⟨?_⟩
 intro g s L H Q I h;have f:=Ez (es:=[]) (env:=X.env) hs1
 refine Call_ (Lj I hg hm Kp (eN ?_ f rfl))
 rw[f]
 show wpAny _ _ (spliced ((false,eval e X.env)::backTo j (starEach [] X.env))) _ _ s
 refine dh ?_
 refine thn (he.1 g s L H _ I h) λu T ⟨v,H1,n,D,W⟩=>?_
 refine eQ ?_
 obtain⟨a,o,J,rfl,M,q⟩:=W
 cases (show u=Value.ref a from D)
 obtain⟨l,r,ep,K,E,F,G,t,k,y⟩:=n.seen M;have z:=Hc t k
 refine Yy (I.ok.hd hc) E K F G (by rw[z];exact y) λN O c S d=>?_
 obtain⟨vs,V,B⟩:=Bw1 (P:=X.prog) (w:=X.w) k
 have Y:c.toList=l.map λx=>Value.ref x.2.1:=by
  have Z:c.size=l.length:=d.1.trans (z.trans (eG k));apply List.ext_getElem
  ·rw[jl,aq];exact Z
  ·intro i R U
   have hi:i<c.size:=by simpa using R
   have hx:i<l.length:=by simpa using U
   obtain⟨hs,e1⟩:=d.2 i c[i] (jG hi)
   have A:r.toList[i]?=some (entryOfKey (Di X.prog X.w) l[i]):=by rw[t,bK,bz _];rfl
   rw[jE,jG hs]at A;rw[Array.getElem_toList,e1,bT A,List.getElem_map];rfl
 have C:Inv X _ _ _ { T with heap:=N,toks:=O }:=n.kept S
 refine⟨.ref _,upd _ _ _,C.laid (λb u e=>aC _ e) (au _) ?_,rfl,q _ _ V (C.hok.fresh (au _))⟩
 refine⟨by rw[B.length,aq,<- eG k];exact y,c.toList,by rw[Y];exact B,_,aJ _ rfl,rfl,⟨0,by simp⟩,rfl⟩
theorem Af1 (hu:X.A.units+64<cLine) (ho:QE X o d) (hi:QE X i ty) (hv:QE X a e) (hs:swapsWith a (some (.Subscript o i b)) c.line X.env=pure false:=by rfl) :
 QS X (.Assign [.Subscript o i b] a c) (Bg4 d ty e):=⟨Bq8 (bB (bZ (by decide) _) hu) ho.get hi.get hv.get hs⟩
end
end L2
namespace L2
open PySem PySem.Spec PyProof.Rows PySem.W
section
variable {X:Cx}
def A2d (K:v9):V->m6->Hp->VK->Prop:=λx vs H Q=>∃(a:Addr) (ss:v4) (y:Str),x=.ref a/\vs=[.str y]/\SqL K H a (ss.map V.str)/\Q (.int ((ss.countP λz=>z==y):Nat)) H
theorem A4f (b:X.K=Kq):MtM X "list.count" (A2d Kq):=by
 subst b;intro d s σ H x vs v us Q I i k h;obtain⟨a,ss,y,rfl,rfl,l,q⟩:=h
 cases i
 obtain⟨u,rfl,m⟩:=k.one;obtain⟨t,rfl⟩:=m;obtain⟨j,r,A,hz⟩:=I.list l;obtain⟨o,n,e,g,c,p⟩:=A;obtain⟨c0,dd,B,sl⟩:=o;subst g p c
 refine dm F.slot_list_count ⟨_,e,rfl⟩ F.entry_list_count (F.args_list_count_2 _ _) (SeqAt.list_countAt a _ n _ _ _ (A0j y)) ⟨e,λw hw=>?_,?_⟩
 ·obtain⟨z,t',rfl⟩:=Ac8 r w (by grind)
  exact jm z _ y t
 ·rw[(Zv y r)]
  exact⟨.int _,H,I.tok _,⟨_,rfl⟩,q⟩
end
def A4z (tc:List (Str×v4))(mg:x_)(h:Heap):Prop:=∀q∈tc,∃a o its n,mg q.1=some (.ref a)/\h.get? a=some o/\o.cls=.type "tuple" /\ o.data=.seq its n/\its.size<=sizeLine/\Vals (q.2.map V.str) its.toList
theorem Ro:∀{ss:v4}{us:w6},Vc ss us=true->Vals (ss.map V.str) us
 | [],[],_=>.nil
 | s::ss,.str z t::us,e=>by
  obtain⟨e1,e2⟩:=aA.mp (show (s==z&&Vc ss us)=true from e)
  cases cU e1
  exact .cons ⟨t,rfl⟩ (Ro e2)
theorem B5t {s:u_}(e:d.all (A7v s.heap)=true):A4z d (s.heap.nsMap mainGlobals) s.heap:=λq m=>by
 have e:=bL.mp e q m;unfold A7v at e
 split at e
 ·rename_i a h
  split at e
  ·rename_i o g
   split at e
   ·rename_i c b n i j
    obtain⟨e,k⟩:=aA.mp e;obtain⟨l,f⟩:=aA.mp e
    exact⟨a,o,b,n,h,g,by rw[i,cU l],j,aZ f,Ro k⟩
   ·cases e
  ·cases e
 ·cases e
theorem A7y (mg:x_) (h h':Heap) (x:A4z c mg h) (hk:∀b o,h.get? b=some o->h'.get? b=some o):A4z c mg h':=λq m=>by
 obtain⟨a,o,d,n,f,e,r⟩:=x q m
 grind
theorem Bl3 {K:v9}(x:A4z c mg h) (f:∀a o,h.get? a=some o->En o=true->o.data≠.fields #[]->K.lookup a=some o) {i:Nat} (e:c[i]?=some (y,ss)):∃p,mg y=some (.ref p)/\∀H,SqT K H p (ss.map V.str):=by
 obtain⟨a,o,b,n,g,j,k,l,m,d⟩:=x _ (bh e)
 exact⟨a,g,λH=>.inr ⟨o,b,n,f a o j (by unfold En;grind) (by grind),k,l,m,d⟩⟩
theorem walk_ofX {l:OpenLaw} {sp:Frag->Sp}
 (hn:l.most=some n) (r:n<=sizeLine) (t:d.params.defaults=[]) (hr:Room k callerA)
 (F:∀(w:World) (g:ExcName->u9) (mg C:x_) (fa:Addr) (h:Heap),Top q (looseW q loose) g mg C h->XP mg h->mg d.name=some (.ref fa) ->
  ∃(K:Frag) (p:u5),K.In h/\TabAt K h/\(∀(s:u_) (u:Value),BindsTo s p ⟨[u],[]⟩ [(x,u)])/\∀base:Heap,K.In base->base.Ns mainGlobals mg->FnOk l.prog w K mg base CX0 k fa p [x] (sp K))
 (m:∀(K:Frag) (H:Hp) (a:Addr) (ns:List Int),ns.length<=n->SqL K H a (ns.map V.int)->sp K [.ref a] H (λv _=>v=.bl true) λ_ _ _=>False) :
 WalkO q loose XP YP l.row.toRowW d [] (λf vs=>PySem.call f vs):=by
 refine Att.Ar2 hn t λw D B mg C fa o P O J a vs ns G Y Q R E j i c b L=>?_
 obtain⟨K,p,y,A,I,M⟩:=F w _ _ _ _ _ G.T G.X j
 exact A3c y G.T.g G.T.b G.T.builtins G.T.nolimit L G.T.bmain A i c (ao b r) hr M I (λH N=>m K H a _ b N) λH e S z=>z
end L2
namespace L2
open PySem PySem.Spec PyProof.Rows
def LaidS (H0:Hp)(xs ys:m6):Nat->m6->Hp->Prop
 | 0,ps,H=>ps=[]/\H=H0
 | i+1,ps,H=>∃r H' p x y,LaidS H0 xs ys i r H'/\xs[i]?=some x/\ys[i]?=some y/\H' p=none/\ps=r++[.ref p]/\H=upd H' p (.tup [x,y])
theorem SqK.upd (x:SqK t H a xs) (h:H p=none):SqK t (upd H p o) a xs:=by
 obtain⟨u,e⟩:=x.some;have b := Ba e h
 cases t
 ·exact(Ag b).trans x
 ·exact(Ag b).trans x
theorem Av8:typeLookup (.type "zip") "__len__" = pure none:=by rw[typeLookup_type,builtinLookup_eq_fast];trivial
theorem Aj6:typeLookup (.type "zip") "__length_hint__" = pure none:=by rw[typeLookup_type,builtinLookup_eq_fast];trivial
section
variable {X:Cx}{pins:y_}{σ:St}{A:t_}{t1 t2:Bool}{z ti to i1 i2 a b S:Addr}{xs ys:m6}
theorem Au5 (f:A.handled=none) (d:zB z ti to i1 i2 a b) (y:Zs s.heap t1 t2 z ti to i1 i2 a b k) (ha:SqA t1 s.heap a us) (hb:SqA t2 s.heap b vs) (hx:us[k]?=none)
 (q:∀h',(∀c o,c∉[z,ti,to,i1,i2]->s.heap.get? c=some o->h'.get? c=some o)->Q none { s with heap:=h' }):wpAny (model P w) A (pyNext (.ref z)) Q E s:=by
 have l:=y.ty;unfold pyNext
 refine aj (cN (b_ l dW (bA dW l iQ ?_ (iR _))))
 rcases y with ⟨rfl,y⟩ | ⟨p0,b1,hp,y⟩
 ·refine Ak6 f d y ha hb (.inl hx) λm e h i=>?_
  obtain⟨o,j,g⟩:=i;exact aj (cZ ⟨o,j,g⟩ fj (ak (q _ h)))
 ·refine A4c f d y ha hx λm e h i=>?_
  obtain⟨o,j,g⟩:=i;exact aj (cZ ⟨o,j,g⟩ fj (ak (q _ h)))
theorem Bn9 (k:A.in1.handled=none) (nd:[z,ti,to,i1,i2].Nodup) (Q:S∉[z,ti,to,i1,i2]) (hl:xs.length=ys.length) (hz:xs.length<=sizeLine)
 (U:∀H acc c ps s,Inv X pins σ H s->LaidS H0 xs ys xs.length ps H->Vals ps acc.toList->s.heap.get? S=some { cls:=.type "list",dict:=none,data:=.seq acc c,slots:=#[] }->R (.ok (.ret B)) s) :
 ∀
  (r i:Nat) (H:Hp) (s:u_) (acc:v7) (c:Nat) (ps:m6),i+r=xs.length->Inv X pins σ H s->(∀b∈[z,ti,to,i1,i2],Jl X pins H b)->Jl X pins H S->to<s.heap.objs.size->SqK t1 H a xs->SqK t2 H b ys->Zs s.heap t1 t2 z ti to i1 i2 a b i ->
  s.heap.get? S=some { cls:=.type "list",dict:=none,data:=.seq acc c,slots:=#[] }->acc.size=i->Vals ps acc.toList->LaidS H0 xs ys i ps H->codeAny (model X.prog X.w) A (.builtin "list.extend.loop" ⟨[.ref S,.ref z,B],[]⟩) R s:=by
 have C:∀{H:Hp},(∀b∈[z,ti,to,i1,i2],Jl X pins H b)->SqK t1 H a xs->SqK t2 H b ys->zB z ti to i1 i2 a b:=λd h f =>
  ⟨nd,λm=>by (obtain⟨o,e⟩:=h.some;rw[(d a m).1]at e;cases e),λm=>by (obtain⟨o,e⟩:=f.some;rw[(d b m).1]at e;cases e)⟩
 intro r
 induction r with
 | zero =>
  intro i H s acc c ps e I d Z g h f y G N rv L
  have J:i=xs.length:=by lia
  subst J;obtain⟨its,M,K⟩:=h.its I;obtain⟨O,rb,P⟩:=f.its I
  refine dq F.entry_extend_loop ?_
  rw[dU h_ _]
  show wpAny _ A.in1 (pyNext (.ref z) >>= _) _ _ s
  refine aj (Au5 k (C d h f) y K P (by simp[M.length]) λh' D=>?_)
  exact ak (U H acc c ps _ (I.turnL (t':=s.toks) d λc o m e=>D c o m e) L rv (D S _ Q G))
 | succ r ih =>
  intro i H s acc c ps e I d Z g h f y G N rv L
  have J:i<xs.length:=by lia
  have hj:i<ys.length:=by lia
  obtain⟨its,M,K⟩:=h.its I;obtain⟨O,rb,P⟩:=f.its I;obtain⟨u,hu,ru⟩:=M.get (bz J);obtain⟨v,hv,T⟩:=rb.get (bz hj)
  refine dq F.entry_extend_loop ?_
  rw[dU h_ _]
  show wpAny _ A.in1 (pyNext (.ref z) >>= _) _ _ s
  refine aj (A4q (x:=u) (x':=v) (C d h f) g y K P (by simpa using hu) (by simpa using hv) λt z1 W Y D=>?_)
  have j:=D S _ Q G;have np:s.heap.objs.size≠S:=bU (az G);have hp:H s.heap.objs.size=none:=I.hok.fresh (au _)
  have I1:=I.turnLay (t':=s.toks) (h':=t) (p:=s.heap.objs.size) (o:=.tup [xs[i],ys[i]]) d (λc o m e=>D c o m e) (au _) ⟨(show 2<=sizeLine by decide),[u,v],.cons ru (.cons T .nil),⟨_,W,rfl,⟨_,rfl⟩,rfl⟩⟩
  have lts:∀c∈[z,ti,to,i1,i2],c≠s.heap.objs.size:=λc w=>by
   have l:=y.lt;simp only[aD,aY,a_]at w
   rcases w with rfl | rfl | rfl | rfl | rfl
   ·exact aM (l _ (by simp))
   ·exact aM (l _ (by simp))
   ·exact aM g
   ·exact aM (l _ (by simp))
   ·exact aM (l _ (by simp))
  have hf1:∀c∈[z,ti,to,i1,i2],Jl X pins (upd H s.heap.objs.size (.tup [xs[i],ys[i]])) c:=λc w=>⟨(Ag (lts c w)).trans (d c w).1,(d c w).2⟩
  have E:Jl X pins (upd H s.heap.objs.size (.tup [xs[i],ys[i]])) S:=⟨(Ag (aF np)).trans Z.1,Z.2⟩
  show wpAny _ A.in1 (updateSeq S (·.push (.ref s.heap.objs.size)) >>= _) _ _ _
  have oth:∀b o,b≠S->t.get? b=some o->(t.update S (Obj.mapSeq (·.push (.ref s.heap.objs.size)))).get? b=some o:=λb o n e=>(cM _ _ (aF n)).trans e
  have sb:Heap.SameBut S t (t.update S (Obj.mapSeq (·.push (.ref s.heap.objs.size)))):=bI ..
  refine aj (g_ j rfl (ak ⟨gb h_ _,ih (i+1) _ _ _ _ (ps++[.ref s.heap.objs.size]) (by lia)
   (I1.turnL (t':=s.toks) (ch:=[S]) (λb f=>by rw[aN.mp f];exact E) λb o m e=>oth b o (λq=>m (by simp[q])) e) hf1 E ?_ (h.upd hp) (f.upd hp) (z1.keep (Nat.succ_pos _) Q sb λo e=>⟨_,bO _ j rfl⟩) (bO _ j rfl) ?_ ?_ ⟨ps,H,_,_,_,L,bz J,bz hj,hp,rfl,rfl⟩⟩)
   (by rw[N];lia) (by show (acc.push _).size<=sizeLine+1;rw[Array.size_push];lia))
  ·rw[sb.1]
   exact gQ g Y
  ·rw[Array.size_push,N]
  ·rw[Array.toList_push]
   exact rv.append (.cons rfl .nil)
theorem An1 (g:A.handled=none) (I:Inv X pins σ H s) (G:[z,ti,to,i1,i2].Nodup) (hl:xs.length=ys.length) (hz:xs.length<=sizeLine)
 (hf:∀b∈[z,ti,to,i1,i2],Jl X pins H b) (i:to<s.heap.objs.size) (ha:SqK t1 H a xs) (hb:SqK t2 H b ys) (x:ZipAt s.heap t1 t2 z ti to i1 i2 a b .none 0)
 (N:∀k vs j p,Inv X pins σ k p->LaidS H xs ys xs.length j k->Vals j vs->Q vs p):wpAny (model X.prog X.w) A (collect (.ref z)) Q E s:=by
 unfold collect
 refine aj (wpAny_runValue (dq F.entry_proto_collect ?_))
 rw[dU F.plain_proto_collect _]
 show wpAny _ A.in1 (newList [] >>= λl=>again (.builtin "list.__iadd__" ⟨[l,.ref z],[]⟩)) _ _ s
 refine aj (bN ?_)
 refine ak ⟨gb j0 _,dq F.entry_list_iadd ?_⟩
 rw[dU j0 _]
 have C:∀c o,s.heap.get? c=some o->(s.heap.push { cls:=.type "list",data:=.seq ([]:w6).toArray }).get? c=some o:=λc o e=>aC _ e
 have D:(s.heap.push { cls:=.type "list",data:=.seq ([]:w6).toArray }).get? s.heap.objs.size=some { cls:=.type "list",data:=.seq ([]:w6).toArray }:=aJ _ rfl;have W:(s.heap.push { cls:=.type "list",data:=.seq ([]:w6).toArray }).objs.size=s.heap.objs.size+1:=c7 ..;have y:Zs s.heap t1 t2 z ti to i1 i2 a b 0:=.inl ⟨rfl,x⟩;have h:=x.kept C
 generalize (s.heap.push { cls:=.type "list",data:=.seq ([]:w6).toArray })=h1 at *
 have T:Inv X pins σ H { s with heap:=h1 }:=I.kept (t':=s.toks) C
 have f:s.heap.objs.size∉[z,ti,to,i1,i2]:=λm=>by
  have l:=y.lt;simp only[aD,aY,a_]at m
  rcases m with m | m | m | m | m
  ·exact absurd (l z (by simp)) (by rw[<- m];exact bc _)
  ·exact absurd (l ti (by simp)) (by rw[<- m];exact bc _)
  ·exact absurd i (by rw[<- m];exact bc _)
  ·exact absurd (l i1 (by simp)) (by rw[<- m];exact bc _)
  ·exact absurd (l i2 (by simp)) (by rw[<- m];exact bc _)
 have K:s.heap.objs.size≠z:=λe=>f (by simp[e])
 have P:Builtin.List.listSameRef (.ref s.heap.objs.size) (.ref z)=false:=by simp[Builtin.List.listSameRef,K]
 show wpAny _ A.in1 (Builtin.List.listExtendWith (.ref s.heap.objs.size) (.ref z) (.ref s.heap.objs.size)) _ _ _
 unfold Builtin.List.listExtendWith
 have t:({ s with heap:=h1 }:u_).TypeIs (.ref z) "zip" := ⟨_,h.zip,rfl⟩
 refine aj (dj t ?_)
 have V:(Value.type "zip" == Value.type "list")=false:=by decide
 have J:(Value.type "zip" == Value.type "tuple")=false:=by decide
 simp only[P,V,J,Bool.or_false,cD,bx]
 refine aj (jx h.zip ?_)
 refine aj (bH ?_)
 unfold Builtin.List.listLengthHint
 refine aj (dI t Av8 ?_)
 show wpAny _ A.in1 (specialOf (Value.ref z) (Str.ofString "__length_hint__") >>= _) _ _ _
 refine aj (dI t Aj6 ?_)
 refine ak ?_
 show wpAny _ A.in1 (rule "list.extend.makes-room" >>= λ_=>Builtin.List.listTouch (.ref s.heap.objs.size) >>= λ_ =>
  again (.builtin "list.extend.loop" ⟨[.ref s.heap.objs.size,.ref z,.ref s.heap.objs.size],[]⟩)) _ _ _
 refine aj (cJ ?_)
 refine aj ?_
 show wpAny _ A.in1 (updateSeq s.heap.objs.size (·.push .none) >>= λ_=>updateSeq s.heap.objs.size (·.pop)) _ _ _
 refine aj (g_ D rfl ?_)
 have B:=bO (Obj.mapSeq (·.push Value.none)) D rfl
 refine g_ B rfl ?_
 have M:=bO (Obj.mapSeq (·.pop)) B rfl
 have d:∀b o,b≠s.heap.objs.size->h1.get? b=some o->((h1.update s.heap.objs.size (Obj.mapSeq (·.push Value.none))).update s.heap.objs.size (Obj.mapSeq (·.pop))).get? b=some o:=λb o n e=>(cM _ _ (aF n)).trans ((cM _ _ (aF n)).trans e)
 have O:((h1.update s.heap.objs.size (Obj.mapSeq (·.push Value.none))).update s.heap.objs.size (Obj.mapSeq (·.pop))).objs.size=h1.objs.size:=(show Heap.SameBut s.heap.objs.size _ _ from bI ..).1.trans (show Heap.SameBut s.heap.objs.size h1 _ from bI ..).1
 have w:Jl X pins H s.heap.objs.size:=I.fpOk (au _) (I.hok.fresh (au _))
 have R:Inv X pins σ H { s with heap:=(h1.update s.heap.objs.size (Obj.mapSeq (·.push Value.none))).update s.heap.objs.size (Obj.mapSeq (·.pop)) }:=T.turnL (t':=s.toks) (ch:=[s.heap.objs.size]) (λb hb=>by rw[aN.mp hb];exact w) λb o m e=>d b o (λq=>m (by simp[q])) e
 have S:ZipAt ((h1.update s.heap.objs.size (Obj.mapSeq (·.push Value.none))).update s.heap.objs.size (Obj.mapSeq (·.pop))) t1 t2 z ti to i1 i2 a b .none 0:=by
  simp only[aD,aY,a_,not_or]at f;obtain⟨u,v,e⟩:=h.outs
  exact⟨d _ _ (aF f.1) h.zip,d _ _ (aF f.2.1) h.ins,⟨u,v,d _ _ (aF f.2.2.1) e⟩,h.one.stay λo e=>d _ _ (aF f.2.2.2.1) e,h.two.stay λo e=>d _ _ (aF f.2.2.2.2) e⟩
 refine ak ⟨gb h_ _,Bn9 (X:=X) (pins:=pins) (σ:=σ) (H0:=H) (show A.in1.handled=none from g) G f hl hz (λk U c j p Y L Z r=>?_) xs.length 0 H _ _ _ [] (aQ _) R hf w ?_ ha hb (.inl ⟨rfl,S⟩) M rfl .nil ⟨rfl,rfl⟩⟩
 ·show wpAny _ A (load s.heap.objs.size >>= _) _ _ p
  exact aj (wpAny_load r (ak (N k _ j _ Y L Z)))
 ·rw[O,W]
  exact fW i
theorem LaidS.length {H0:Hp}:∀{i:Nat}{ps:m6}{H:Hp},LaidS H0 xs ys i ps H->ps.length=i
 | 0,_,_,⟨e,_⟩=>by rw[e];rfl
 | i+1,_,_,⟨r,H',p,x,y,l,_,_,_,e,_⟩=>by rw[e,aK,l.length];rfl
theorem Yr : MeetsIn P w (Builtin.«tuple.__new__» ⟨[.type "tuple",.ref z],[]⟩)
 (λA R s=>s.TypeIs (.ref z) "zip" /\ wpAny (model P w) A.in1.in1 (collect (.ref z)) (λvs s'=>vs.length<=sizeLine/\R (.ok (.ret (.ref s'.heap.objs.size))) { s' with heap:=s'.heap.push { cls:=.type "tuple",data:=.seq vs.toArray } }) (λe s'=>R (.error e) s') s) :=
 .of_wp λA R s h=>by
  obtain⟨f,i⟩:=h;have c:=sub_tuple_self;have b:=init_tuple_lookup;have g:=madeHere_tuple
  have a:∀{Q:w6->u_->Prop},(∀vs s',vs.length<=sizeLine->R (.ok (.ret (.ref s'.heap.objs.size))) { s' with heap:=s'.heap.push { cls:=.type "tuple",data:=.seq vs.toArray } }->Q vs s')->wpAny (model P w) A.in1 (collect (.ref z)) Q (λe s'=>R (.error e) s') s:=λh=>wpAny_of_in1 (aL i (λvs s' q=>h vs s' q.1 q.2) λ_ _ q=>q)
  wp_walk using dj f,a
  intro vs s' j d
  refine aj (ak ?_)
  show wpAny _ _ (Builtin.Tuple.tupleExact vs.toArray >>= λv=>ret v) _ _ _
  unfold Builtin.Tuple.tupleExact
  refine aj (bN ?_ (by show vs.toArray.size<=sizeLine;simpa using j))
  exact ak ⟨_,rfl,d⟩
def Bx8 (ta:TA):TE:=λσ H Q=>ta σ H λvs H1=>∃a b,vs=[.ref a,.ref b]/\∃t1 t2 xs ys,SqK t1 H1 a xs/\SqK t2 H1 b ys/\xs.length=ys.length/\∀ps p H2,LaidS H1 xs ys xs.length ps H2->H2 p=none->Q (.ref p) (upd H2 p (.tup ps))
theorem Bt4 {p n l a:Pos}(hc:X.calm=true) (t:Gl X "tuple") (r:X.mg "tuple" = none) (hg:Gl X "zip") (hm:X.mg "zip" = none) (ha:QA X [e,f] B) (hs1:isStar e=false:=by rfl) (hs2:isStar f=false:=by rfl) :
 QE X (.Call (.Name "tuple" p) [.Call (.Name "zip" n) [e,f] [] a] [] l) (Bx8 B):=by
 refine⟨?_⟩
 intro g s D H Q I h;have v:=Ez (es:=[f]) (env:=X.env) hs1;have w:=Ez (es:=[]) (env:=X.env) hs2;have j:starEach [.Call (.Name "zip" n) [e,f] [] a] X.env=(false,eval (.Call (.Name "zip" n) [e,f] [] a) X.env)::starEach [] X.env:=Ez rfl
 refine Call_ (Lj I t r Kp (eN ?_ j rfl))
 rw[j]
 show wpAny _ _ (spliced ((false,eval (.Call (.Name "zip" n) [e,f] [] a) X.env)::backTo l (starEach [] X.env))) _ _ s
 refine dh ?_
 refine Call_ (Lj I hg hm Zb (eN (thn (ha.1 a g s D H _ I h) λus d ⟨vs,H1,i,O,P⟩=>?_) v (by rw[w];rfl)))
 obtain⟨R,S,rfl,U,t2,E,ys,m,G,Y,q⟩:=P
 have o:E.length<=sizeLine:=by
  cases U
  ·obtain⟨_,_,_,z⟩:=i.list (SqL.of m);exact z
  ·obtain⟨_,_,_,z⟩:=i.tuple (SqT.of m);exact z
 obtain⟨Z,u2,rfl,g1,g2⟩:=Vals.two O
 cases (show Z=Value.ref R from g1)
 cases (show u2=Value.ref S from g2)
 obtain⟨T,rv,pa⟩:=m.its i;obtain⟨jts,V,W⟩:=G.its i
 refine Xj pa W λJ x kp=>eQ ?_
 have I2:Inv X g D H1 { d with heap:=J }:=i.kept (t':=d.toks) kp
 have y:[d.heap.objs.size+4,d.heap.objs.size+2,d.heap.objs.size+3,d.heap.objs.size,d.heap.objs.size+1].Nodup:=by simp
 have C:∀c∈[d.heap.objs.size+4,d.heap.objs.size+2,d.heap.objs.size+3,d.heap.objs.size,d.heap.objs.size+1],d.heap.objs.size<=c:=λc hc=>by
  simp only[aD,aY,a_]at hc
  rcases hc with rfl | rfl | rfl | rfl | rfl <;> simp
 obtain⟨u0,v0,o0⟩:=x.outs
 refine callType_newIn F.called_tuple (by decide) (F.typeCall_tuple_1 _) (F.newCall_tuple_1 _) (λA=>jy A _) F.entry_tuple_new Yr ⟨⟨_,x.zip,rfl⟩,?_⟩
 refine An1 (s:={ d with heap:=J }) (show _=none from I.ok.hd hc) I2 y Y o (λc hc=>i.fpOk (C c hc) (i.hok.fresh (C c hc))) (az o0) m G x λH' ws ps s' K L k=>?_
 have M:ps.length=E.length:=L.length
 refine⟨by rw[<- k.length,M];exact o,⟨_,aJ _ rfl,rfl⟩,?_⟩
 have N:H' s'.heap.objs.size=none:=K.hok.fresh (au _)
 refine⟨.ref _,upd _ _ _,K.laid (λb u e=>aC _ e) (au _) ?_,rfl,q _ _ _ L N⟩
 exact⟨by rw[M];exact o,ws,k,_,aJ _ rfl,rfl,⟨0,by simp⟩,rfl⟩
def Bx5:TE:=λ_ _ _=>False
theorem A8x {o e:Expr}{td ty:TE}{apos cpos:Pos}(hu:X.A.units+64<cLine)(ho:QE X o td)(he:QE X e ty)(m:M1 X o "get" apos e cpos):QE X (.Call (.Attribute o "get" apos) [e] [] cpos) (Ag8 td ty (tC .non)):=⟨A8d (bB (bZ (by decide) _) hu) ho.get he.get m⟩
theorem Bg6 {e:Expr}:QE X e Bx5:=⟨λ_ _ _ _ _ _ h=>h.elim⟩
end
section
variable {P:u6}{w:World}{A:t_}{E:z_}{s:u_}
theorem Av7:((Manifest.find? "dict_valueiterator").elim "dict_valueiterator" λx=>x.tpName) = "dict_valueiterator" := by rw[find?_eq_fast];kernel_rfl
theorem A8g {it dd:Addr}{i ep:Nat}{es:v8}{od:Obj}{Q:u9->u_->Prop}(hit:s.heap.IsValIter it dd i es.size ep)(hod:s.heap.get? dd=some od)(hdd:od.data=.dict es ep)(hi:i<es.size)
 (hQ:∀h',h'.IsValIter it dd (i+1) es.size ep->Heap.SameBut it s.heap h'->Q (some es[i].val) { s with heap:=h' }):wpAny (model P w) A (pyNext (.ref it)) Q E s:=by
 obtain⟨hp,g,d,tk,os⟩:=s;obtain⟨⟨c,dct,dat,sl⟩,ho,hc,hd⟩:=hit;obtain⟨c2,dct2,dat2,sl2⟩:=od;simp only at hc hd hdd;subst hc hd hdd;have ty:(⟨hp,g,d,tk,os⟩:u_).TypeIs (.ref it) "dict_valueiterator" := ⟨_,ho,rfl⟩;have f1:=mroOf_valiter
 have f2:Builtin.Dict_items.ownsTuple "dict_valueiterator" = false:=by decide
 have f3:es[(i:Int).toNat]?=some es[i]:=by simp[hi]
 unfold pyNext
 refine aj (cN (b_ (name:="__next__") ty j4 (bA j4 ty jU ?_ (jV _))))
 repeat any_goals first | assumption | wp_step
 simp only[Av7,f2,cD,bx,gZ,List.take]
 have f4:¬ ((i:Int)<0):=by lia
 simp only[f4,bx,f3]
 repeat any_goals first | assumption | wp_step
 simp only[Av7,f2,cD,bx]
 have hit':(hp.update it (Obj.mapFields (·.setIfInBounds 1 (rawInt ((i:Int)+1))))).IsValIter it dd (i+1) es.size ep :=
  ⟨_,bO _ ho (e_ (dw rfl _)),iJ ..,by rw[dw rfl];simp[rawInt]⟩
 exact⟨_,rfl,ak (hQ _ hit' (bI ..))⟩
theorem Bn2 {it dd:Addr}{i ep:Nat}{es:v8}{od:Obj}{Q:u9->u_->Prop}(quiet:A.handled=none)(hit:s.heap.IsValIter it dd i es.size ep)(hod:s.heap.get? dd=some od)(hdd:od.data=.dict es ep)(hi:es.size<=i)
 (hQ:∀h',Heap.ExtBut it s.heap h'->Q none { s with heap:=h' }):wpAny (model P w) A (pyNext (.ref it)) Q E s:=by
 obtain⟨hp,g,d,tk,os⟩:=s;obtain⟨⟨c,dct,dat,sl⟩,ho,hc,hd⟩:=hit;obtain⟨c2,dct2,dat2,sl2⟩:=od;simp only at hc hd hdd;subst hc hd hdd;have ty:(⟨hp,g,d,tk,os⟩:u_).TypeIs (.ref it) "dict_valueiterator" := ⟨_,ho,rfl⟩;have f1:=mroOf_valiter
 have f2:Builtin.Dict_items.ownsTuple "dict_valueiterator" = false:=by decide
 have f3:es[(i:Int).toNat]?=none:=by simp[hi]
 unfold pyNext
 refine aj (cN (b_ (name:="__next__") ty j4 (bA j4 ty jU ?_ (jV _))))
 repeat any_goals first | assumption | wp_step
 simp only[Av7,f2,cD,bx,gZ,List.take]
 have f4:¬ ((i:Int)<0):=by lia
 simp only[f4,bx,f3]
 repeat any_goals first | assumption | wp_step
 refine iZ (show A.in1.handled=none from quiet) ?_
 refine aj (cZ (T := "StopIteration") (b:=true) ⟨_,aJ _ rfl,rfl⟩ fj ?_)
 exact ak (hQ _ (((bI ..).extBut.push _).push _))
theorem A5i {dd:Addr}(nd:(dd==sysModules)=false):MeetsIn P w (Builtin.«dict.values» ⟨[.ref dd],[]⟩) (λ_ R s=>s.TypeIs (.ref dd) "dict" /\ R (.ok (.ret (.ref s.heap.objs.size))) { s with heap:=s.heap.push { cls:=.type "dict_values",data:=.fields #[.ref dd] } }) :=
 .of_wp λA R s ⟨t,h⟩=>by
  refine aj ?_
  unfold Builtin.Dict.noArgs
  refine aj (iW t (ak ?_))
  have e0:Builtin.Dict.showsAll dd=pure ():=by unfold Builtin.Dict.showsAll;rw[if_neg (by rw[nd];exact aW)]
  show wpAny _ _ (Builtin.Dict.showsAll dd >>= _) _ _ _
  rw[e0]
  refine aj (ak (aj (bN (ak ⟨_,rfl,h⟩))))
theorem A7n {dd:Addr}{Q:z_}(nd:(dd==sysModules)=false)(ty:s.TypeIs (.ref dd) "dict")
 (hQ:Q (.ref s.heap.objs.size) { s with heap:=s.heap.push { cls:=.type "dict_values",data:=.fields #[.ref dd] } }):wpAny (model P w) A (call (.builtin "dict.values") [.ref dd]) Q E s :=
 eV PySem.F.slot_dict_values ty PySem.F.entry_dict_values (PySem.F.args_dict_values_1 _) (A5i nd) ⟨ty,hQ⟩
theorem A8v {v dd:Addr}{es:v8}{ep:Nat}{od:Obj}{Q:z_}(hv:s.heap.get? v=some { cls:=.type "dict_values",data:=.fields #[.ref dd] }) (hod:s.heap.get? dd=some od) (hdd:od.data=.dict es ep)
 (hQ:Q (.ref s.heap.objs.size) { s with heap:=s.heap.push { cls:=.type "dict_valueiterator",data:=.fields #[.ref dd,.int 0 0,.int es.size 0,.int ep 0] } }):wpAny (model P w) A (pyIter (.ref v)) Q E s:=by
 obtain⟨hp,g,d,tk,os⟩:=s;obtain⟨c2,dct2,dat2,sl2⟩:=od;simp only at hdd;subst hdd;have ty:(⟨hp,g,d,tk,os⟩:u_).TypeIs (.ref v) "dict_values" := ⟨_,hv,rfl⟩
 have f2:Builtin.Dict_items.ownsTuple "dict_valueiterator" = false:=by decide
 refine jF ty F.slot_dict_values_iter (bA F.slot_dict_values_iter ty F.entry_dict_values_iter ?_ (F.args_dict_values_iter_1 _))
 repeat any_goals first | assumption | wp_step
 simp only[f2,cD,bx];exact⟨_,rfl, "dict_valueiterator",_,⟨_,aJ _ rfl,rfl⟩,F.slot_dict_valueiterator_next.lookup,hQ⟩
end
noncomputable def Itv (a:Addr) (o:Obj):It :=
 ⟨λi H=>∃kvs,H a=some (.frz o (.dT kvs))/\i<kvs.length,λi H x H'=>H'=H/\∃kvs k,H a=some (.frz o (.dT kvs))/\kvs[i]?=some (k,x),λi H=>∃kvs,H a=some (.frz o (.dT kvs))/\kvs.length<=i⟩
theorem A4k {P:u6}{w:World}{K:v9}{tg:Expr}{a it:Addr}{o:Obj}{es:v8}{ep:Nat}(hd:o.data=.dict es ep):Turn P w K tg (Itv a o) [it] it (λi h=>h.IsValIter it a i es.size ep) where
 mem:=by simp
 obj:=λi h st b hb=>by
  have e:b=it:=by simpa using hb
  subst e;obtain⟨o,e,c,d⟩:=st
  exact⟨o,e,λv z=>by rw[d]at z;cases z⟩
 keep:=λi h h' st k=>let ⟨o,e,r⟩:=st; ⟨o,k it (by simp) o e,r⟩
 item:=by
  intro X hP hw hK hc i pins s σ H E I hf st hg;subst hP hw hK;obtain⟨kvs,ha,hi⟩:=hg;obtain⟨xs,es',ep',g1,g2,g3,g4,g5,g6,g7⟩:=I.seen ha;rw[hd]at g4
  cases g4
  have li:i<es.size:=by rw[Hc g5 g6];exact hi
  obtain⟨⟨k,v⟩,hk⟩:∃x,kvs[i]?=some x:=⟨_,bz hi⟩;obtain⟨b,u,k1,k2,k3,k4⟩:=Ae3 g5 g6 hk li
  obtain⟨f0,f1,f2,f3,f4,f5⟩:=hf it (by simp)
  refine A8g st g1 hd li λh' st' sb=>?_
  have I1:Inv X pins σ H { s with heap:=h' }:=I.turned (t':=s.toks) (λb o hb e=>(sb.2 b hb).trans e) f0 f1 f3 f4 f5
  obtain⟨o',e,c,d⟩:=id st'
  exact⟨_,rfl,Ai9 (s:={ s with heap:=h' }) e c d (by decide) ⟨v,H,I1,by rw[k2];exact k4,⟨rfl,kvs,k,ha,hk⟩,st',λb hb=>(hf b hb).1⟩⟩
 done:=by
  intro X hP hw hK hc i pins s σ H E I hf st hg;subst hP hw hK;obtain⟨kvs,ha,hi⟩:=hg;obtain⟨xs,es',ep',g1,g2,g3,g4,g5,g6,g7⟩:=I.seen ha;rw[hd]at g4
  cases g4
  obtain⟨f0,f1,f2,f3,f4,f5⟩:=hf it (by simp)
  exact Bn2 (I.ok.hd hc) st g1 hd (by rw[Hc g5 g6];exact hi) λh' eb=>⟨rfl,I.turned (t':=s.toks) (λb o hb e=>eb b o hb e) f0 f1 f3 f4 f5⟩
 self:=λ_ _ _ _ _ st h=>wpAny_pyIter_valiter st h
def iDV (td:TE):TI:=λσ H R=>td σ H λx H1=>∃a o kvs,x=.ref a/\H1 a=some (.frz o (.dT kvs))/\R (Itv a o) H1
section
variable {X:Cx}
theorem Bc2 {l tg:Expr}{tl:TE}{apos cpos:Pos}(hl:QE X l tl)(hbase:attributeBase l "values" X.env (eval l X.env)=eval l X.env:=by rfl) (hline:(apos.endLine==cpos.line)=true:=by rfl) :
 QI X tg (.Call (.Attribute l "values" apos) [] [] cpos) (iDV tl):=by
 refine⟨?_⟩
 intro pins s σ H R I h
 refine wpAny_Call_method0_late hbase hline (thn (hl.1 pins s σ H _ I h) λv s1 ⟨x,H1,I1,r1,q1⟩=>?_)
 obtain⟨a,o,kvs,e,hq,q⟩:=q1;subst e
 cases (show v=Value.ref a from r1)
 obtain⟨t1,t2,_⟩:=Wu I1 (.inr ⟨kvs,.inr ⟨o,hq⟩⟩);obtain⟨xs,es,ep,g1,g2,g3,g4,g5,g6,g7⟩:=I1.seen hq
 refine⟨"dict", "dict.values",gR,PySem.F.slot_dict_values,PySem.F.type_dict_values,t1,t2,fQ rfl (PySem.evalArgs_none (A7n g2 t1 ?_))⟩
 refine A8v (aJ _ rfl) (aC _ g1) g4 ?_
 have kp:∀b o',s1.heap.get? b=some o'->((s1.heap.push { cls:=.type "dict_values",data:=.fields #[.ref a] }).push { cls:=.type "dict_valueiterator",data:=.fields #[.ref a,.int 0 0,.int es.size 0,.int ep 0] }).get? b=some o':=λb o' e=>aC _ (aC _ e)
 refine⟨_,[(s1.heap.push { cls:=.type "dict_values",data:=.fields #[.ref a] }).objs.size],_,_,H1,rfl,I1.kept (t':=s1.toks) kp,A4k g4,⟨_,aJ _ rfl,rfl,rfl⟩,λb hb=>?_,q⟩
 have e:b=(s1.heap.push { cls:=.type "dict_values",data:=.fields #[.ref a] }).objs.size:=by simpa using hb
 subst e
 have le:s1.heap.objs.size<=(s1.heap.push { cls:=.type "dict_values",data:=.fields #[.ref a] }).objs.size:=by rw[c7];exact dN _
 exact I1.fpOk le (I1.hok.fresh le)
end
end L2
namespace U
open PySem L2
structure Xn where
 n:Str
 p:Option (Str×t6)
inductive Th where
 | nm (T:String)
 | dc (ks:v4) (ds:w5)
 | dt (ks ds:w5)
 | ds (ks ds:w5)
 | td (xs ks ds:w5)
 | xc (nm:Xn)
 | tc (ss:v4)
inductive O where
 | im (d:t6)
 | ls (b:Bool) (ds:w5)
 | sc (ns:List Int)
 | ty (T:Th)
abbrev m5:=Option O
abbrev n_:=List (m5)
abbrev Ev:=n_
inductive PV where
 | o (o:O)
 | sl (i:Nat)
inductive R (α:Type) where
 | ok (a:α) (c:Ev)
 | bad
abbrev n7:=Ev->R PV
abbrev n6:=Ev->R Bool
abbrev o5:=PV->Ev->R Unit
abbrev o_:=Ev->R (List PV)
abbrev o7:=Ev->R (w5)
noncomputable def R.bind {α β:Type} (r:R α) (k:α->Ev->R β):R β:=match r with
 | .ok a c=>k a c
 | .bad=>.bad
def R.sat {α:Type}(r:R α)(φ:α->Ev->Prop):Prop:=match r with
 | .ok a c=>φ a c
 | .bad=>False
theorem R.sat_bind {r:R d}{k:d->Ev->R e}{b:e->Ev->Prop}:(r.bind k).sat b↔r.sat λa c=>(k a c).sat b:=by cases r <;> exact Iff.rfl
theorem R.sat.mono {r:R d}{e b:d->Ev->Prop}(h:r.sat e) (f:∀a c,e a c->b a c):r.sat b:=by
 cases r with
 | ok a c=>exact f a c h
 | bad=>exact h
theorem R.sat.bnd {r:R d}{k:d->Ev->R e}{b:e->Ev->Prop}(h:(r.bind k).sat b):r.sat λa c=>(k a c).sat b:=R.sat_bind.mp h
noncomputable def O.bor:O->Bool
 | .ls b _=>b
 | _=>false
noncomputable def O.own:O->Bool
 | .ls _ _=>true
 | _=>false
noncomputable def O.dat:O->Option t6
 | .im d=>some d
 | .ls _ ds=>some (.list ds)
 | _=>none
noncomputable def O.flag (b:Bool):O->O
 | .ls _ ds=>.ls b ds
 | o=>o
noncomputable def nrm:PV->PV
 | .o (.ls _ ds)=>.o (.im (.list ds))
 | p=>p
noncomputable def rdP (c:Ev):PV->m5
 | .o o=>some o
 | .sl i=>(c[i]?).join
def Ds (c:Ev)(p:PV):Option t6:=(rdP c p).bind O.dat
structure Wo where
 Hf:Hp
 H:Hp
 fps:Nat->v6
def Wo.S (W:Wo):Addr->Prop:=λa=>∃i,a∈W.fps i
def B5g (Hf:Hp):Option (Str×t6)->Option Addr->Prop
 | none,d=>d=none
 | some q,d=>∃a v,d=some a/\Hf a=some (.xd [(q.1,v)])/\Tr Hf q.2 v
structure XAt (K:v9) (Hf:Hp) (nm:Xn) (C:Addr) (d:Option Addr):Prop where
 ns:PySem.W.nsIn K mainGlobals nm.n=some (some (.ref C))
 pay:B5g Hf nm.p d
theorem XAt.same {K:v9}{Hf Hf':Hp}{nm:Xn}{C:Addr}{d:Option Addr}(S:Same Hf Hf')(x:XAt K Hf nm C d):XAt K Hf' nm C d:=by
 refine⟨x.ns,?_⟩
 have q:=x.pay
 cases e:nm.p with
 | none=>rw[e]at q;exact q
 | some y=>rw[e]at q;obtain⟨a,v,h1,h2,h3⟩:=q;exact⟨a,v,h1,S _ _ h2,Tr.same S h3⟩
def RepT (K:v9)(Hf:Hp):Th->V->Prop
 | .nm T,v=>v=.ty T
 | .dc ks ds,v=>∃a xs,v=.ref a/\Hf a=some (.dK (B7h ks xs))/\TrL Hf ds xs
 | .dt ks ds,v=>∃a xs,v=.ref a/\Rd Hf a (.dT (ks.zip xs))/\TrL Hf ds xs/\ks.length=xs.length
 | .ds ks ds,v=>∃a o xs,v=.ref a/\Hf a=some (.frz o (.dT (ks.zip xs)))/\TrL Hf ds xs/\ks.length=xs.length
 | .td es ks ds,v=>∃a us b o xs,v=.ref a/\Hf a=some (.tup (us++[.ref b]))/\TrL Hf es us/\Hf b=some (.frz o (.dT (ks.zip xs)))/\TrL Hf ds xs/\ks.length=xs.length
 | .xc nm,v=>∃a C d,v=.ref a/\XAt K Hf nm C d/\Hf a=some (Yd a C d)
 | .tc ss,v=>∃p,v=.ref p/\∀H,SqT K H p (ss.map V.str)
theorem Bm5 (S:Same Hf b) (h:Rd Hf a u):Rd b a u:=h.imp (λh=>S _ _ h) λ⟨o,h⟩=>⟨o,S _ _ h⟩
theorem RepT.same {K:v9}{Hf Hf':Hp}(S:Same Hf Hf'):∀{t:Th}{v:V},RepT K Hf t v->RepT K Hf' t v
 | .nm T,_,h=>h
 | .dc ks ds,_,⟨a,xs,e,h,t⟩=>⟨a,xs,e,S _ _ h,TrL.same S t⟩
 | .dt ks ds,_,⟨a,xs,e,h,t,l⟩=>⟨a,xs,e,Bm5 S h,TrL.same S t,l⟩
 | .ds ks ds,_,⟨a,o,xs,e,h,t,l⟩=>⟨a,o,xs,e,S _ _ h,TrL.same S t,l⟩
 | .td es ks ds,_,⟨a,us,b,o,xs,e,h,t,h2,t2,l⟩=>⟨a,us,b,o,xs,e,S _ _ h,TrL.same S t,S _ _ h2,TrL.same S t2,l⟩
 | .xc nm,_,⟨a,C,d,e,n,h⟩=>⟨a,C,d,e,n.same S,S _ _ h⟩
 | .tc ss,_,h=>h
def RepN (K:v9)(Hf:Hp):O->V->Prop
 | .im d,v=>Tr Hf d v
 | .sc ns,v=>∃a,v=.ref a/\SqL K Hf a (ns.map V.int)
 | .ty T,v=>RepT K Hf T v
 | .ls _ _,_=>False
def RepO (K:v9)(Hf H:Hp)(o:O)(v:V)(fp:v6):Prop:=match o with
 | .ls _ ds=>∃a vs,v=.ref a/\fp=[a]/\Hf a=none/\H a=some (.lst vs)/\TrL Hf ds vs
 | o=>fp=[]/\RepN K Hf o v
structure Stp (S:Addr->Prop) (Hf H:Hp) (S':Addr->Prop) (Hf' H':Hp):Prop where
 fz:Same Hf Hf'
 kp:∀a o,H a=some o->¬ S a->H' a=some o
 nf:∀a o,H a=some o->Mut (some o)->¬ S a->Hf a=none->Hf' a=none
 fr:∀a,S' a->S a\/H a=none
structure Rep (K:v9) (β:Nat->V) (W:Wo) (c:Ev) (σ:St):Prop where
 sub:Same W.Hf W.H
 len:c.length=σ.length
 get:∀i o,c[i]?=some (some o)->∃v,σ[i]?=some (some v)/\RepO K W.Hf W.H o v (W.fps i)/\(o.bor=true->v=β i)
 dis:∀i j a,a∈W.fps i->a∈W.fps j->i=j
 own:∀i a,a∈W.fps i->W.Hf a=none/\∃o,W.H a=some o/\Mut (some o)
def Dz (K:v9)(W:Wo)(σ:St):PV->V->v6->Prop
 | .o o,v,fp=>RepO K W.Hf W.H o v fp/\∀a∈fp,¬ W.S a
 | .sl i,v,fp=>fp=[]/\σ[i]?=some (some v)
def RepA (K:v9)(Hf:Hp)(σ:St):PV->V->Prop
 | .o o,v=>RepN K Hf o v
 | .sl i,v=>σ[i]?=some (some v)
def zU (K:v9)(Hf:Hp)(σ:St):List PV->m6->Prop
 | [],vs=>vs=[]
 | p::ps,vs=>∃v r,vs=v::r/\RepA K Hf σ p v/\zU K Hf σ ps r
abbrev orS (S:Addr->Prop)(fp:v6):Addr->Prop:=λa=>S a\/a∈fp
section
variable {K:v9}{β:Nat->V}{W W':Wo}{c c':Ev}{σ:St}{Hf Hf' Hf2 H H' H2:Hp}{o:O}{v:V}{fp:v6}{S S' S2:Addr->Prop}{p:PV}{a:Addr}
theorem Stp.refl:Stp S Hf H S Hf H:=⟨λ_ _ h=>h,λ_ _ h _=>h,λ_ _ _ _ _ h=>h,λ_ h=>.inl h⟩
theorem Stp.trans (x:Stp S Hf H S' Hf' H')(y:Stp S' Hf' H' S2 Hf2 H2):Stp S Hf H S2 Hf2 H2:=by
 have b:∀a o,H a=some o->¬ S a->¬ S' a:=λa o h n z=>by
  rcases x.fr a z with q | q
  ·trivial
  simp_all
 refine⟨x.fz.trans y.fz,λa o h n=>y.kp a o (x.kp a o h n) (b a o h n),λa o h c n q=>y.nf a o (x.kp a o h n) c (b a o h n) (x.nf a o h c n q),λa h=>?_⟩
 rcases y.fr a h with q | q
 ·exact x.fr a q
 ·cases e:H a with
  | none=>simp_all
  | some o =>
   by_cases n:S a
   ·grind
   ·rw[x.kp a o e n]at q;grind
theorem Stp.less (x:Stp S Hf H S' Hf' H')(h:∀a,S2 a->S' a):Stp S Hf H S2 Hf' H':=⟨x.fz,x.kp,x.nf,λa q=>x.fr a (h a q)⟩
theorem Stp.more {F:Addr->Prop}(x:Stp S Hf H S' Hf' H'):Stp (λa=>S a\/F a) Hf H (λa=>S' a\/F a) Hf' H' :=
 ⟨x.fz,λa o h n=>x.kp a o h λz=>n (.inl z),λa o h b n q=>x.nf a o h b (λz=>n (.inl z)) q,λa q=>by
  rcases q with q | q
  ·rcases x.fr a q with z | z
   ·simp_all
   grind
  simp_all⟩
theorem Stp.up (x:Stp S Hf H S' Hf' H')(h:∀a,S a->S2 a):Stp S2 Hf H S' Hf' H' :=
 ⟨x.fz,λa o e n=>x.kp a o e λz=>n (h a z),λa o e b n q=>x.nf a o e b (λz=>n (h a z)) q,λa q=>(x.fr a q).imp (h a) id⟩
theorem RepN.same (S:Same Hf Hf'):∀{o:O}{v:V},RepN K Hf o v->RepN K Hf' o v
 | .im d,_,h=>Tr.same S h
 | .sc ns,_,⟨a,e,h⟩=>⟨a,e,Same.seq S h⟩
 | .ty T,_,h=>RepT.same S h
 | .ls _ _,_,h=>h
theorem RepA.same (S:Same Hf Hf'):∀{p:PV}{v:V},RepA K Hf σ p v->RepA K Hf' σ p v
 | .o _,_,h=>RepN.same S h
 | .sl _,_,h=>h
theorem zU.same (S:Same Hf Hf'):∀{ps:List PV}{vs:m6},zU K Hf σ ps vs->zU K Hf' σ ps vs
 | [],_,h=>h
 | p::ps,_,⟨v,r,e,h,t⟩=>⟨v,r,e,RepA.same S h,zU.same S t⟩
theorem RepO.mono (h:RepO K Hf H o v fp)(S:Same Hf Hf')(h1:∀a∈fp,Hf' a=none/\H' a=H a):RepO K Hf' H' o v fp:=by
 cases o with
 | ls b ds =>
  obtain⟨a,f,rfl,rfl,q,e,t⟩:=h;obtain⟨c,g⟩:=h1 a (.head _);exact⟨a,f,rfl,rfl,c,g.trans e,TrL.same S t⟩
 | im d=>exact⟨h.1,RepN.same S h.2⟩
 | sc ns=>exact⟨h.1,RepN.same S h.2⟩
 | ty T=>exact⟨h.1,RepN.same S h.2⟩
theorem Rep.frame (R:Rep K β W c σ)(S:Same W.Hf Hf')(sub:Same Hf' H')(h:∀a,W.S a->Hf' a=none/\H' a=W.H a):Rep K β ⟨Hf',H',W.fps⟩ c σ :=
 ⟨sub,R.len,λi o e=>by
  obtain⟨v,f,r,b⟩:=R.get i o e
  exact⟨v,f,r.mono S λa d=>h a ⟨i,d⟩,b⟩,R.dis,λi a d=>by
  obtain⟨_,o,q,j⟩:=R.own i a d;obtain⟨k,g⟩:=h a ⟨i,d⟩
  grind⟩
theorem Rep.notS (R:Rep K β W c σ)(h:W.H a=none):¬ W.S a:=λ⟨i,q⟩=>by
 obtain⟨_,o,e,_⟩:=R.own i a q
 grind
theorem Rep.notF (R:Rep K β W c σ)(h:W.H a=none):W.Hf a=none:=Same.free R.sub h
theorem Stp.rep (R:Rep K β W c σ)(x:Stp (λ_=>False) W.Hf W.H S' Hf' H')(sub:Same Hf' H'):Rep K β ⟨Hf',H',W.fps⟩ c σ :=
 R.frame x.fz sub λa d=>by
  obtain⟨i,f⟩:=d;obtain⟨z,o,e,b⟩:=R.own i a f
  exact⟨x.nf a o e b (λz=>z) z,(x.kp a o e λz=>z).trans e.symm⟩
theorem Bl {p:Addr}{o:HO}(h:H p=none):Same H (upd H p o):=λb u e=>by
 rw[Ag];exact e
 grind
theorem Ij {o:HO}(s:Same Hf H):Same (upd Hf a o) (upd H a o):=λb u e=>by
 unfold upd at e ⊢
 split
 ·grind
 ·rename_i z;rw[if_neg z]at e;exact s b u e
theorem Stp.newF {o:HO}(s:Same Hf H)(h:H a=none):Stp (λ_=>False) Hf H (λ_=>False) (upd Hf a o) (upd H a o) :=
 ⟨Bl (Same.free s h),λb u e _=>Bl h b u e,λb u e _ _ q=>by rw[Ag (Ba e h)];grind,λ_ z=>z.elim⟩
theorem Stp.newL {o:HO}(s:Same Hf H)(h:H a=none):Stp (λ_=>False) Hf H (λb=>b∈[a]) Hf (upd H a o) :=
 ⟨Same.refl _,λb u e _=>Bl h b u e,λb u e _ _ q=>q,λb z=>by
  grind⟩
theorem Qy {o:HO}(s:Same Hf H)(h:H a=none):Same Hf (upd H a o):=s.trans (Bl h)
def ME (K:v9)(T:TE)(f:n7):Prop:=∀(β:Nat->V) (W:Wo) (c:Ev) (σ:St) (Q:VK),Rep K β W c σ ->
 (f c).sat (λp c'=>∀v W' fp,Stp W.S W.Hf W.H (orS W'.S fp) W'.Hf W'.H->Rep K β W' c' σ->Dz K W' σ p v fp->Q v W'.H)->T σ W.H Q
def MV (K:v9)(T:TE)(f:n7):Prop:=∀(β:Nat->V) (W:Wo) (c:Ev) (σ:St) (Q:VK),Rep K β W c σ ->
 (f c).sat (λp c'=>∀v W',Stp W.S W.Hf W.H W'.S W'.Hf W'.H->Rep K β W' c' σ->RepA K W'.Hf σ (nrm p) v->Q v W'.H)->T σ W.H Q
def MA (K:v9)(T:TA)(f:o_):Prop:=∀(β:Nat->V) (W:Wo) (c:Ev) (σ:St) (Q:m6->Hp->Prop),Rep K β W c σ ->
 (f c).sat (λps c'=>∀vs W',Stp W.S W.Hf W.H W'.S W'.Hf W'.H->Rep K β W' c' σ->zU K W'.Hf σ ps vs->Q vs W'.H)->T σ W.H Q
def MT (K:v9)(T:TT)(f:n6):Prop:=∀(β:Nat->V) (W:Wo) (c:Ev) (σ:St) (Q:Bool->Hp->Prop),Rep K β W c σ ->
 (f c).sat (λb c'=>∀W',Stp W.S W.Hf W.H W'.S W'.Hf W'.H->Rep K β W' c' σ->Q b W'.H)->T σ W.H Q
theorem Ab7 (R:Rep K β W c σ) (hf:W.Hf a=none) (h:W.H a=some (.lst vs)) (hn:¬ W.S a):Rep K β ⟨upd W.Hf a (.lst vs),W.H,W.fps⟩ c σ :=
 R.frame (Bl hf) (λb u e=>by
  unfold upd at e
  split at e
  ·grind
  ·exact R.sub b u e) λb f=>by
   obtain⟨i,g⟩:=f
   have d:b≠a:=λz=>hn ⟨i,by simp_all⟩
   exact⟨by rw[Ag d];exact(R.own i b g).1,rfl⟩
theorem B6f {Q:VK} (k:∀v c,Stp W.S W.Hf W.H c.S c.Hf c.H->Rep K β c c' σ->RepA K c.Hf σ (nrm p) v->Q v c.H) (v:V) (c:Wo) (fp:v6) (st:Stp W.S W.Hf W.H (orS c.S fp) c.Hf c.H) (g:Rep K β c c' σ) (f:Dz K c σ p v fp):Q v c.H:=by
 cases p with
 | sl i =>
  obtain⟨rfl,e⟩:=f
  exact k v _ (st.less λa z=>.inl z) g e
 | o o =>
  cases o with
  | im d =>
   obtain⟨⟨rfl,e⟩,_⟩:=f
   exact k v _ (st.less λa z=>.inl z) g e
  | sc d =>
   obtain⟨⟨rfl,e⟩,_⟩:=f
   exact k v _ (st.less λa z=>.inl z) g e
  | ty d =>
   obtain⟨⟨rfl,e⟩,_⟩:=f
   exact k v _ (st.less λa z=>.inl z) g e
  | ls b ds =>
   obtain⟨⟨a,l,rfl,rfl,h,r,t⟩,m⟩:=f
   refine k _ ⟨upd _ a _,c.H,c.fps⟩ ⟨st.fz.trans (Bl h),st.kp,λb o e s n q=>?_,λb z=>st.fr b (.inl z)⟩ (Ab7 g h r (m a (.head _))) ?_
   ·have j:b≠a:=λz=>by
     rcases st.fr a (.inr (.head _)) with y | y
     ·grind
     simp_all
    show upd _ a _ b=none
    rw[Ag j];exact st.nf b o e s n q
   ·exact⟨a,l,rfl,Aq,TrL.same (Bl h) t⟩
theorem ME.toV (h:ME K T f):MV K T f:=λe W c j Q R s=>h _ W c _ Q R (s.mono λp l k v g i a d b=>B6f k v _ _ a d b)
end
def RdV (Hf H:Hp):t6->V->Prop
 | .list ds,v=>∃a vs,v=.ref a/\H a=some (.lst vs)/\TrL Hf ds vs
 | d,v=>Tr Hf d v
section
variable {K:v9}{β:Nat->V}{W W':Wo}{c c':Ev}{σ:St}{Hf Hf' H H':Hp}{o:O}{v:V}{fp:v6}{S:Addr->Prop}{p:PV}{a:Addr}{d:t6}
theorem RdV.of (s:Same Hf H)(h:Tr Hf d v):RdV Hf H d v:=by
 cases d with
 | list f=>obtain⟨a,c,e,q,t⟩:=h;exact⟨a,c,e,s _ _ q,t⟩
 | none=>exact h
 | bool b=>exact h
 | int i=>exact h
 | str x=>exact h
 | tuple f=>exact h
 | dict k=>exact h
theorem RdV.tr (s:Same Hf H)(h:RdV Hf H d v):Tr H d v:=by
 cases d with
 | list f=>obtain⟨a,c,e,q,t⟩:=h;exact⟨a,c,e,q,TrL.same s t⟩
 | none=>exact h
 | bool b=>exact h
 | int i=>exact h
 | str x=>exact h
 | tuple f=>exact Tr.same s h
 | dict k=>trivial
theorem Gj (R:Rep K β W c σ)(h:RepA K W.Hf σ p v)(e:Ds c p=some d):RdV W.Hf W.H d v:=by
 cases p with
 | o o =>
  cases o with
  | im m=>cases e;exact .of R.sub h
  | ls b n=>trivial
  | sc k=>trivial
  | ty T=>trivial
 | sl i =>
  have l:c[i]?.join.bind _=some d:=e;obtain⟨o,g,f⟩:=cW.mp l
  have g:c[i]?=some (some o):=by
   grind
  obtain⟨u,s,r,_⟩:=R.get i o g
  cases s.symm.trans h
  cases o with
  | im m=>cases f;exact .of R.sub r.2
  | ls b n =>
   cases f
   obtain⟨a,j,e,_,_,q,t⟩:=r;exact⟨a,j,e,q,t⟩
  | sc k=>trivial
  | ty T=>trivial
def B0z (Hf H:Hp):w5->m6->Prop
 | [],vs=>vs=[]
 | d::ds,vs=>∃v r,vs=v::r/\RdV Hf H d v/\B0z Hf H ds r
def A9w (c:Ev):List PV->Option (w5)
 | []=>some []
 | p::ps=>(Ds c p).bind λd=>(A9w c ps).map (d::·)
abbrev New (K:v9)(Hf H:Hp)(o:O)(Q:VK):Prop:=∀v Hf' H' fp,Stp (λ_=>False) Hf H (λa=>a∈fp) Hf' H'->Same Hf' H'->RepO K Hf' H' o v fp->Q v H'
def OpS (K:v9)(r:R2)(op:t6->t6->m5):Prop:=∀(Hf H:Hp) (x y:V) (dx dy:t6) (o:O) (Q:VK),Same Hf H->RdV Hf H dx x->RdV Hf H dy y->op dx dy=some o->New K Hf H o Q->r x y H Q
def B4i (K:v9)(r:m6->Hp->VK->Prop)(op:w5->m5):Prop:=∀(Hf H:Hp) (xs:m6) (ds:w5) (o:O) (Q:VK),Same Hf H->B0z Hf H ds xs->op ds=some o->New K Hf H o Q->r xs H Q
theorem New.same (h:New K Hf H (.im d) Q) (s:Same Hf H) (t:Tr Hf d v):Q v H:=h v _ H [] (Stp.refl.less λa z=>nomatch z) s ⟨rfl,t⟩
theorem New.tup (h:New K Hf H (.im (.tuple ds)) Q) (s:Same Hf H) (t:TrL Hf ds vs) {p:Addr}(hp:H p=none):Q (.ref p) (upd H p (.tup vs)) :=
 h _ _ _ [] ((Stp.newF s hp).less λa z=>nomatch z) (Ij s) ⟨rfl,p,vs,rfl,Aq,TrL.same (Bl (Same.free s hp)) t⟩
theorem New.lst (h:New K Hf H (.ls false ds) Q) (s:Same Hf H) (t:TrL Hf ds vs) {p:Addr}(hp:H p=none):Q (.ref p) (upd H p (.lst vs)) :=
 h _ _ _ _ (Stp.newL s hp) (Qy s hp) ⟨p,vs,rfl,rfl,Same.free s hp,Aq,t⟩
theorem New.of (R:Rep K β W c σ) (k:∀v W' d,Stp W.S W.Hf W.H (orS W'.S d) W'.Hf W'.H->Rep K β W' c σ->Dz K W' σ (.o o) v d->Q v W'.H):New K W.Hf W.H o Q:=by
 intro v h j d b f r
 refine k v _ _ ⟨b.fz,λa o e _=>b.kp a o e λz=>z,λa o e i _ q=>b.nf a o e i (λz=>z) q,λa z=>?_⟩ (b.rep R f) ⟨r,λa g z=>?_⟩
 ·rcases z with z | z
  ·exact .inl z
  ·rcases b.fr a z with y | y
   ·trivial
   grind
 ·rcases b.fr a g with y | y
  ·lia
  ·exact R.notS y z
def cOp (op:t6->t6->m5)(fa fb:n7):n7:=λc=>(fa c).bind λp c=>(fb c).bind λq c =>
 match Ds c (nrm p),Ds c (nrm q) with
 | some x,some y=>match op x y with
  | some o=>.ok (.o o) c
  | none=>.bad
 | _,_=>.bad
theorem Cv (ha:ME K g fa) (hb:ME K f fb) (hr:OpS K r op):ME K (tOp r g f) (cOp op fa fb):=by
 intro β W c σ Q R s
 refine ha.toV _ W c _ _ R (s.bnd.mono λp c1 l v1 W1 d i j=>?_)
 refine hb.toV _ _ _ _ _ i (l.bnd.mono λq e a v2 W2 b R2 k=>?_)
 cases ex:Ds e (nrm p) with
 | none=>simp only[ex]at a;trivial
 | some x =>
  cases ey:Ds e (nrm q) with
  | none=>simp only[ex,ey]at a;trivial
  | some y =>
   simp only[ex,ey]at a
   cases eo:op x y with
   | none=>simp only[eo]at a;trivial
   | some o =>
    simp only[eo]at a
    exact hr _ _ _ _ x y o Q R2.sub (Gj R2 (RepA.same b.fz j) ex) (Gj R2 k ey) eo (New.of R2 λv W' fp m n h=>a v _ _ (d.trans (b.trans m)) n h)
noncomputable def Ak:o_:=λc=>.ok [] c
def Ab (f:n7)(fr:o_):o_:=λc=>(f c).bind λp c=>(fr c).bind λps c=>.ok (nrm p::ps) c
noncomputable def cK (ds:w5):o_:=λc=>.ok (ds.map λd=>.o (.im d)) c
theorem Bu:MA K Fb Ak:=λb W c a Q R s=>s _ W Stp.refl R rfl
theorem An {d:TE} (ha:ME K d fa) (hr:MA K e f):MA K (Bv d e) (Ab fa f):=by
 intro t W c v Q R s
 refine ha.toV _ W c _ _ R (s.bnd.mono λp o i j r b h g=>?_)
 refine hr _ _ _ _ _ h (i.bnd.mono λw q m l u a n k=>?_)
 exact m _ _ (b.trans a) n ⟨j,l,rfl,RepA.same a.fz g,k⟩
noncomputable def Aa (i:Nat):n7:=λc=>match c[i]? with
 | some (some (.ls _ _))=>.ok (.sl i) c
 | some (some o)=>.ok (.o o) c
 | _=>.bad
theorem Rep.here (R:Rep K β W c σ) (h:RepN K W.Hf o v) (n:o.own=false) {Q:VK}(s:∀v W' fp,Stp W.S W.Hf W.H (orS W'.S fp) W'.Hf W'.H->Rep K β W' c σ->Dz K W' σ (.o o) v fp->Q v W'.H):Q v W.H :=
 s
  v W [] (Stp.refl.less λa z=>by
  grind) R ⟨by
   cases o with
   | ls b e=>trivial
   | im d=>trivial
   | sc d=>trivial
   | ty d=>trivial,λa z=>nomatch z⟩
theorem me_var : ME K (Rw i) (Aa i):=by
 intro j W c h Q R s;unfold Aa at s
 cases e:c[i]? with
 | none=>simp only[e]at s;trivial
 | some x =>
  cases x with
  | none=>simp only[e]at s;trivial
  | some o =>
   obtain⟨v,f,r,_⟩:=R.get i o e
   refine⟨v,f,?_⟩
   simp only[e]at s
   cases o with
   | ls b g=>
    exact s v W _ (Stp.refl.less λa z=>by
     rcases z with z | z
     ·lia
     simp_all) R ⟨rfl,f⟩
   | im d=>exact R.here r.2 rfl s
   | sc d=>exact R.here r.2 rfl s
   | ty d=>exact R.here r.2 rfl s
noncomputable def cC (d:t6):n7:=λc=>.ok (.o (.im d)) c
noncomputable def vD:V->Option t6
 | .non=>some .none
 | .bl b=>some (.bool b)
 | .int i=>some (.int i)
 | .str x=>some (.str x)
 | _=>none
theorem Bv5:∀{v:V}{d:t6},vD v=some d->Tr H d v
 | .non,_,e=>by cases e;rfl
 | .bl b,_,e=>by cases e;rfl
 | .int i,_,e=>by cases e;rfl
 | .str x,_,e=>by cases e;rfl
 | .byt _,_,e=>nomatch e
 | .flt _,_,e=>nomatch e
 | .ref _,_,e=>nomatch e
 | .ty _,_,e=>nomatch e
theorem Em (h:vD v=some d):ME K (tC v) (cC d):=λb W c a Q R s=>R.here (o:=.im d) (Bv5 h) rfl s
noncomputable def frz (p:PV) (c:Ev):R t6:=match p with
 | .o (.im d)=>.ok d c
 | .o _=>.bad
 | .sl i=>match c[i]? with
  | some (some (.im d))=>.ok d c
  | some (some (.ls false ds))=>.ok (.list ds) (c.set i (some (.im (.list ds))))
  | _=>.bad
noncomputable def clr (fps:Nat->v6) (i:Nat):Nat->v6:=λj=>if j=i then [] else fps j
theorem Ej (h:a∈clr b i j):a∈b j/\j≠i:=by
 unfold clr at h
 grind
theorem Rep.setN (R:Rep K β W c σ) (h:RepN K W.Hf o v) (n:o.own=false):Rep K β ⟨W.Hf,W.H,clr W.fps i⟩ (c.set i (some o)) (σ.set i (some v)):=by
 refine⟨R.sub,by rw[bQ,bQ];exact R.len,λj s e=>?_,λj k a m g=>R.dis j k a (Ej m).1 (Ej g).1,λj a h=>R.own j a (Ej h).1⟩
 by_cases z:j=i
 ·subst z
  by_cases l:j<c.length
  ·rw[cA l]at e
   cases e
   refine⟨v,by rw[cA (by rw[<- R.len];exact l)],?_,λb=>?_⟩
   ·show RepO K W.Hf W.H o v (clr _ j j)
    unfold clr;rw[if_pos rfl]
    cases o with
    | ls b f=>exact nomatch n
    | im d=>exact⟨rfl,h⟩
    | sc d=>trivial
    | ty d=>exact⟨rfl,h⟩
   ·cases o with
    | ls b f=>exact nomatch n
    | im d=>exact nomatch b
    | sc d=>exact nomatch b
    | ty d=>exact nomatch b
  grind
 ·rw[cj λy=>z y.symm]at e
  obtain⟨p,q,r,b⟩:=R.get j _ e
  refine⟨p,by grind,?_,b⟩
  unfold clr
  simp_all
theorem Rep.setO (R:Rep K β W c σ) (h:RepO K W.Hf W.H o v fp) (hn:∀a∈fp,¬ W.S a) (hb:o.bor=false):Rep K β ⟨W.Hf,W.H,λj=>if j=i then fp else W.fps j⟩ (c.set i (some o)) (σ.set i (some v)):=by
 refine⟨R.sub,by rw[bQ,bQ];exact R.len,λj o' e=>?_,λj k a f g=>?_,λj a f=>?_⟩
 ·by_cases z:j=i
  ·subst z
   by_cases l:j<c.length
   ·rw[cA l]at e
    cases e
    refine⟨v,by rw[cA (by rw[<- R.len];exact l)],?_,λb=>by rw[hb]at b;cases b⟩
    simp_all
   simp_all
  ·rw[cj λy=>z y.symm]at e
   obtain⟨v',e1,r,b⟩:=R.get j _ e
   grind
 ·have f:a∈if j=i then fp else W.fps j:=f
  have g:a∈if k=i then fp else W.fps k:=g
  split at f
  ·split at g
   ·lia
   ·exact absurd ⟨k,g⟩ (hn a f)
  ·split at g
   ·exact absurd ⟨j,f⟩ (hn a g)
   ·exact R.dis j k a f g
 ·have f:a∈if j=i then fp else W.fps j:=f
  split at f
  ·cases o with
   | ls b ds =>
    obtain⟨a',vs,_,rfl,n,m,_⟩:=h
    cases aN.mp f
    exact⟨n,_,m,trivial⟩
   | im d=>rw[h.1]at f;cases f
   | sc d=>rw[h.1]at f;cases f
   | ty d=>rw[h.1]at f;cases f
  ·exact R.own j a f
theorem set_same {a:Type}{l:List a} {x:a}(h:l[i]?=some x):l.set i x=l:=by
 apply j5
 grind
theorem Rep.drop (R:Rep K β W c σ)(i:Nat):Rep K β ⟨W.Hf,W.H,clr W.fps i⟩ (c.set i none) σ:=by
 refine⟨R.sub,by rw[bQ];exact R.len,λj m e=>?_,λj k a g f=>R.dis j k a (Ej g).1 (Ej f).1,λj a h=>R.own j a (Ej h).1⟩
 by_cases z:j=i
 ·grind
 ·rw[cj λy=>z y.symm]at e
  obtain⟨l,d,r,b⟩:=R.get j _ e
  refine⟨l,d,?_,b⟩
  unfold clr
  simp_all
theorem Eu (R:Rep K β W c σ)(h:RepA K W.Hf σ p v) (s:(frz p c).sat k) :
 ∃d c' W',frz p c=.ok d c'/\k d c'/\W'.H=W.H/\Stp W.S W.Hf W.H W'.S W'.Hf W'.H/\Rep K β W' c' σ/\Tr W'.Hf d v:=by
 cases p with
 | o o =>
  cases o with
  | im d=>exact⟨d,c,W,rfl,s,rfl,Stp.refl,R,h⟩
  | ls b w=>exact s.elim
  | sc d=>exact s.elim
  | ty d=>exact s.elim
 | sl i =>
  unfold frz at s ⊢
  cases e:c[i]? with
  | none=>simp only[e]at s;exact s.elim
  | some x =>
   cases x with
   | none=>simp only[e]at s;exact s.elim
   | some o =>
    obtain⟨v',u,r,_⟩:=R.get i o e
    cases (show some _=some _ from u.symm.trans h)
    cases o with
    | im d=>simp only[e]at s;exact⟨d,c,W,by simp only[e],s,rfl,Stp.refl,R,r.2⟩
    | sc d=>simp only[e]at s;exact s.elim
    | ty d=>simp only[e]at s;exact s.elim
    | ls b w =>
     cases b with
     | true=>simp only[e]at s;exact s.elim
     | false =>
      simp only[e]at s;obtain⟨a,m,rfl,l,f,A,t⟩:=r
      refine⟨.list _,c.set i _,⟨upd _ a _,W.H,clr W.fps i⟩,by simp only[e],s,rfl,⟨Bl f,λb o e _=>e,λb o e mu n q=>?_,λb z=>?_⟩,?_,⟨a,m,rfl,Aq,TrL.same (Bl f) t⟩⟩
      ·have C:b≠a:=λz=>n ⟨i,by rw[z,l];exact .head _⟩
       show upd _ a _ b=none
       rw[Ag C];exact q
      ·obtain⟨j,g⟩:=z
       exact .inl ⟨j,(Ej g).1⟩
      ·have B:¬ Wo.S ⟨W.Hf,W.H,clr W.fps i⟩ a:=λ⟨j,g⟩=>by
        obtain⟨E,D⟩:=Ej g
        exact D (R.dis j i a E (by rw[l];exact .head _))
       have y:=(Ab7 (R.drop i) f A B).setN (i:=i) (o:=.im (.list _)) ⟨a,m,rfl,Aq,TrL.same (Bl f) t⟩ rfl;rw[set_same h]at y
       have z:clr (clr W.fps i) i=clr W.fps i:=by funext j;unfold clr;split <;> rfl
       simp_all
def vDs:m6->Option (w5)
 | []=>some []
 | v::vs=>(vD v).bind λd=>(vDs vs).map (d::·)
theorem A1f:∀{vs:m6}{ds:w5},vDs vs=some ds->zU K Hf σ (ds.map λd=>.o (.im d)) vs
 | [],_,e=>by cases (show some []=some _ from e);exact rfl
 | v::vs,ds,e=>by
  obtain⟨d,e1,e2⟩:=cW.mp (show ((vD v).bind λd=>(vDs vs).map (d::·))=some ds from e)
  obtain⟨ds',e3,rfl⟩:=aV.mp e2;exact⟨v,vs,rfl,Bv5 e1,A1f e3⟩
theorem B4f (h:vDs vs=some ds):MA K (tK vs) (cK ds):=λb W c a Q R s=>s _ W Stp.refl R (A1f h)
def frzs:List PV->Ev->R (w5)
 | [],c=>.ok [] c
 | p::ps,c=>(frz p c).bind λd c=>(frzs ps c).bind λds c=>.ok (d::ds) c
theorem Rm:∀{ps:List PV}{vs:m6}{W:Wo}{c:Ev}{φ:w5->Ev->Prop},Rep K β W c σ->zU K W.Hf σ ps vs->(frzs ps c).sat φ ->
 ∃ds c' W',φ ds c'/\W'.H=W.H/\Stp W.S W.Hf W.H W'.S W'.Hf W'.H/\Rep K β W' c' σ/\TrL W'.Hf ds vs
 | [],vs,W,c,φ,R,h,s=>⟨[],c,W,s,rfl,Stp.refl,R,h⟩
 | p::ps,_,W,c,φ,R,⟨v,r,rfl,h,t⟩,s=>by
  obtain⟨d,c1,W1,_,s1,e1,st1,R1,t1⟩:=Eu R h s.bnd;obtain⟨ds,c2,W2,s2,e2,st2,R2,t2⟩:=Rm R1 (zU.same st1.fz t) s1.bnd;exact⟨d::ds,c2,W2,s2,e2.trans e1,st1.trans st2,R2,v,r,rfl,Tr.same st2.fz t1,t2⟩
def Df (f:o_):n7:=λc=>(f c).bind λps c=>(frzs ps c).bind λds c=>if ds.length<=1000 then .ok (.o (.im (.tuple ds))) c else .bad
def Er (f:o_):n7:=λc=>(f c).bind λps c=>(frzs ps c).bind λds c=>if ds.length<=1000 then .ok (.o (.ls false ds)) c else .bad
theorem A1a (h:n<=1000):n<=sizeLine:=ao h (by decide)
theorem Hy (h:MA K t f):ME K (A5o t) (Df f):=by
 intro w W c z Q R s
 refine h _ W c _ _ R (s.bnd.mono λx y k A F b o m=>?_)
 obtain⟨r,B,E,a,j,d,e,i⟩:=Rm o m k.bnd
 by_cases l:r.length<=1000
 ·rw[if_pos l]at a
  refine⟨by rw[<- i.length];exact A1a l,λp g=>?_⟩
  rw[<- j]at g ⊢
  exact New.tup (New.of e λv C D q u n=>a v _ _ (b.trans (d.trans q)) u n) e.sub i g
 ·rw[if_neg l]at a;trivial
theorem Ls (h:MA K t f):ME K (A7d t) (Er f):=by
 intro w W c z Q R s
 refine h _ W c _ _ R (s.bnd.mono λx y k A F b o m=>?_)
 obtain⟨r,B,E,a,j,d,e,i⟩:=Rm o m k.bnd
 by_cases l:r.length<=1000
 ·rw[if_pos l]at a
  refine⟨by rw[<- i.length];exact A1a l,λp g=>?_⟩
  rw[<- j]at g ⊢
  exact New.lst (New.of e λv C D q u n=>a v _ _ (b.trans (d.trans q)) u n) e.sub i g
 ·rw[if_neg l]at a;trivial
end
noncomputable def G3 (cI:Ev):q_->Ev->Option Ev
 | [],c=>some c
 | (k,i)::m,c=>match c[i]? with
  | some (some (.ls b _))=>match cI[k]? with
   | some (some (.ls true ds))=>G3 cI m (c.set i (some (.ls b ds)))
   | _=>none
  | _=>G3 cI m c
noncomputable def inn (m:q_) (i:Nat):Option Nat:=(m.find? λp=>p.2==i).map (·.1)
noncomputable def Ar9 (m:q_) (k:Nat):Option Nat:=(m.find? λp=>p.1==k).map (·.2)
theorem Jh : inn ((k,j)::m) i=if j=i then some k else inn m i:=by
 unfold inn
 grind
theorem Uz (h:inn m i=some k):(k,i)∈m:=by
 induction m with
 | nil=>cases h
 | cons p m a =>
  rw[Jh]at h
  grind
theorem U0 (b:(m.map (·.2)).Nodup) (h:(k,i)∈m):inn m i=some k:=by
 induction m with
 | nil=>grind
 | cons p m a =>
  rw[Jh]
  grind
theorem A1o {m:q_} (b:(m.map (·.1)).Nodup) (h:(k,i)∈m) (h':(k,j)∈m):i=j:=by
 induction m with
 | nil=>grind
 | cons p m a =>
  grind
theorem S8 {cI:Ev}:∀{m:q_}{c cO:Ev},(m.map (·.2)).Nodup->G3 cI m c=some cO->cO.length=c.length/\∀i,
 (∃b ds0 k ds,c[i]?=some (some (.ls b ds0))/\inn m i=some k/\cI[k]?=some (some (.ls true ds))/\cO[i]?=some (some (.ls b ds))) \/
 (cO[i]?=c[i]?/\∀b ds,c[i]?=some (some (.ls b ds))->inn m i=none)
 | [],c,cO,nd,e=>by cases (show some c=some cO from e);exact⟨rfl,λi=>.inr ⟨rfl,λ_ _ _=>rfl⟩⟩
 | (k,j)::m,c,cO,nd,e=>by
  rw[aG,bC]at nd
  have nj:inn m j=none:=by
   cases q:inn m j with
   | none=>rfl
   | some k'=>exact absurd (aB.mpr ⟨(k',j),Uz q,rfl⟩) nd.1
  unfold G3 at e
  have other:G3 cI m c=some cO->(∀b ds,c[j]?≠some (some (.ls b ds)))->cO.length=c.length/\∀i,
   (∃b ds0 k' ds,c[i]?=some (some (.ls b ds0))/\inn ((k,j)::m) i=some k'/\cI[k']?=some (some (.ls true ds))/\cO[i]?=some (some (.ls b ds))) \/
   (cO[i]?=c[i]?/\∀b ds,c[i]?=some (some (.ls b ds))->inn ((k,j)::m) i=none):=λe hn=>by
   obtain⟨hl,hg⟩:=S8 nd.2 e
   refine⟨hl,λi=>?_⟩
   rcases hg i with ⟨b,ds0,k',ds,q1,q2,q3,q4⟩ | ⟨q1,q2⟩
   ·refine .inl ⟨b,ds0,k',ds,q1,?_,q3,q4⟩
    rw[Jh,if_neg (λz=>hn b ds0 (by rw[z];exact q1))];exact q2
   ·refine .inr ⟨q1,λb ds q=>?_⟩
    rw[Jh,if_neg (λz=>hn b ds (by rw[z];exact q))];exact q2 b ds q
  cases ec:c[j]? with
  | none=>simp only[ec]at e;exact other e λb ds z=>by rw[ec]at z;cases z
  | some x =>
   cases x with
   | none=>simp only[ec]at e;exact other e λb ds z=>by rw[ec]at z;cases z
   | some o =>
    cases o with
    | im d=>simp only[ec]at e;exact other e λb ds z=>by rw[ec]at z;cases z
    | sc d=>simp only[ec]at e;exact other e λb ds z=>by rw[ec]at z;cases z
    | ty d=>simp only[ec]at e;exact other e λb ds z=>by rw[ec]at z;cases z
    | ls b0 ds0 =>
     simp only[ec]at e
     cases ei:cI[k]? with
     | none=>simp only[ei]at e;cases e
     | some x =>
      cases x with
      | none=>simp only[ei]at e;cases e
      | some o =>
       cases o with
       | im d=>simp only[ei]at e;cases e
       | sc d=>simp only[ei]at e;cases e
       | ty d=>simp only[ei]at e;cases e
       | ls b1 ds1 =>
        cases b1 with
        | false=>simp only[ei]at e;cases e
        | true =>
         simp only[ei]at e
         have lj:j<c.length:=by
          rcases j6 j c.length with q | q
          ·exact q
          ·rw[j7 q]at ec;cases ec
         obtain⟨hl,hg⟩:=S8 nd.2 e;rw[bQ]at hl
         refine⟨hl,λi=>?_⟩
         by_cases z:j=i
         ·subst z
          rcases hg j with ⟨b,ds0',k',ds,q1,q2,q3,q4⟩ | ⟨q1,q2⟩
          ·rw[nj]at q2;cases q2
          ·rw[cA lj]at q1
           exact .inl ⟨b0,ds0,k,ds1,ec,by rw[Jh,if_pos rfl],ei,q1⟩
         ·have gs:(c.set j (some (.ls b0 ds1)))[i]?=c[i]?:=cj z
          rcases hg i with ⟨b,ds0',k',ds,q1,q2,q3,q4⟩ | ⟨q1,q2⟩
          ·rw[gs]at q1
           exact .inl ⟨b,ds0',k',ds,q1,by rw[Jh,if_neg z];exact q2,q3,q4⟩
          ·rw[gs]at q1 q2
           exact .inr ⟨q1,λb ds q=>by rw[Jh,if_neg z];exact q2 b ds q⟩
noncomputable def Ib:Option (m5)->Bool
 | some (some (.ls _ _))=>true
 | _=>false
def Us (m:q_)(c:Ev)(fps:Nat->v6):Nat->v6:=λk=>match Ar9 m k with
 | some i=>if Ib c[i]? then fps i else []
 | none=>[]
theorem Vw (h:Ar9 m k=some i):(k,i)∈m:=by
 obtain⟨p,b,a⟩:=aV.mp h
 grind
theorem Gu (h:a∈Us m c b k):∃i,(k,i)∈m/\Ib c[i]?=true/\a∈b i:=by
 unfold Us at h
 cases e:Ar9 m k with
 | none=>grind
 | some i =>
  rw[e]at h
  have h:a∈if Ib _ then b i else []:=h
  by_cases q:Ib c[i]?=true
  ·rw[if_pos q]at h;exact⟨i,Vw e,q,h⟩
  grind
theorem Bp8 (a:(m.map (·.1)).Nodup) (h:(k,i)∈m):Ar9 m k=some i:=by
 cases e:Ar9 m k with
 | none =>
  unfold Ar9 at e;rw[Option.map_eq_none_iff]at e
  grind
 | some j=>rw[A1o a h (Vw e)]
def Ay5 (m:q_)(c:Ev)(fps fpsJ:Nat->v6):Nat->v6:=λi=>if Ib c[i]? then (match inn m i with
 | some k=>fpsJ k
 | none=>fps i) else fps i
section
variable {K:v9}{β β':Nat->V}{W W':Wo}{c cI cI' cO:Ev}{σ σI σI':St}{m:q_}{fp:v6}
structure Lent (K:v9) (Hf:Hp) (m:q_) (c:Ev) (σ:St) (β':Nat->V) (cI:Ev) (σI:St):Prop where
 n1:(m.map (·.1)).Nodup
 n2:(m.map (·.2)).Nodup
 len:cI.length=σI.length
 at_:∀k o,cI[k]?=some (some o)->(o.own=false/\(∀i,(k,i)∈m->Ib c[i]?=false)/\(∃v,σI[k]?=some (some v)/\RepN K Hf o v))\/∃i b ds v,(k,i)∈m/\c[i]?=some (some (.ls b ds))/\o=.ls true ds/\σ[i]?=some (some v)/\σI[k]?=some (some v)/\β' k=v
theorem Lent.rep (L:Lent K W.Hf m c σ β' cI σI)(R:Rep K β W c σ):Rep K β' ⟨W.Hf,W.H,Us m c W.fps⟩ cI σI:=by
 refine⟨R.sub,L.len,λk o e=>?_,λk l a B C=>?_,λk a h=>?_⟩
 ·rcases L.at_ k o e with ⟨n,s,v,p,r⟩ | ⟨i,b,x,v,E,w,rfl,J,p,A⟩
  ·refine⟨v,p,?_,λq=>?_⟩
   ·have g:∀t ,t=[]->RepO K _ W.H o v t:=λt z=>by
     cases o with
     | ls b x=>exact nomatch n
     | im d=>exact⟨z,r⟩
     | sc d=>exact⟨z,r⟩
     | ty d=>exact⟨z,r⟩
    refine g _ ?_
    show Us m c _ k=[]
    unfold Us
    cases q:Ar9 m k with
    | none=>rfl
    | some i =>
     show (if Ib _ then W.fps i else [])=[]
     rw[s i (Vw q)]
     rfl
   ·cases o with
    | ls b x=>exact nomatch n
    | im d=>exact nomatch q
    | sc d=>exact nomatch q
    | ty d=>exact nomatch q
  ·obtain⟨v',f,r,_⟩:=R.get i _ w
   cases (show some _=some _ from f.symm.trans J)
   refine⟨v,p,?_,λ_=>A.symm⟩
   obtain⟨a,F,G,D,I⟩:=r
   refine⟨a,F,G,?_,I⟩
   show Us m c _ k=[a]
   unfold Us;rw[Bp8 L.n1 E]
   show (if Ib _ then W.fps i else [])=[a]
   rw[w];exact D
 ·obtain⟨i,H,_,u⟩:=Gu B
  obtain⟨j,M,_,y⟩:=Gu C
  cases R.dis i j a u y
  have f:=U0 L.n2 M;rw[(U0 L.n2 H)]at f;exact bT f
 ·obtain⟨i,_,_,u⟩:=Gu h
  exact R.own i a u
theorem Bq1 (h:Ib x=true):∃b ds,x=some (some (.ls b ds)):=by
 match x,h with
 | some (some (.ls b _)),_=>grind
theorem Lent.back (L:Lent K W.Hf m c σ β' cI σI)(R:Rep K β W c σ)(I:Rep K β' W' cI' σI')(st:Stp (Wo.S ⟨W.Hf,W.H,Us m c W.fps⟩) W.Hf W.H (orS W'.S fp) W'.Hf W'.H)(hb:G3 cI' m c=some cO)
 (H:∀k i b J v,(k,i)∈m->c[i]?=some (some (.ls b J))->σ[i]?=some (some v)->β' k=v) (Q:∀a∈fp,¬ W'.S a) :
 ∃W2:Wo,W2.Hf=W'.Hf/\W2.H=W'.H/\Rep K β W2 cO σ/\Stp W.S W.Hf W.H (orS W2.S fp) W'.Hf W'.H/\∀a∈fp,¬ W2.S a:=by
 obtain⟨hl,hg⟩:=S8 L.n2 hb
 have t:∀k a,a∈W'.fps k->(∃i,(∃l,(l,i)∈m)/\Ib c[i]?=true/\a∈W.fps i)\/W.H a=none:=λk a h=>by
  rcases st.fr a (.inl ⟨k,h⟩) with ⟨l,q⟩ | q
  ·obtain⟨i,s,x,g⟩:=Gu q
   exact .inl ⟨i,⟨l,s⟩,x,g⟩
  ·exact .inr q
 have d:∀i a,a∈W.fps i->(Ib c[i]?=true->inn m i=none)->¬ Wo.S ⟨W.Hf,W.H,Us m c W.fps⟩ a:=λi a h n ⟨k,q⟩=>by
  obtain⟨j,s,x,g⟩:=Gu q
  cases (R.dis i j a h g)
  have:=n x;rw[U0 L.n2 s]at this;cases this
 have D:∀i a,a∈Ay5 m c W.fps W'.fps i->(∃k,inn m i=some k/\Ib c[i]?=true/\a∈W'.fps k)\/(a∈W.fps i/\(Ib c[i]?=true->inn m i=none)):=λi a h=>by
  have h:a∈if Ib c[i]? then (match inn m i with | some k=>W'.fps k | none=>W.fps i) else W.fps i:=h
  by_cases q:Ib c[i]?=true
  ·rw[if_pos q]at h
   cases e:inn m i with
   | none=>rw[e]at h;exact .inr ⟨h,λ_=>rfl⟩
   | some k=>rw[e]at h;exact .inl ⟨k,rfl,q,h⟩
  ·rw[if_neg q]at h;exact .inr ⟨h,λz=>absurd z q⟩
 have p:∀i k a,a∈W.fps i->(Ib c[i]?=true->inn m i=none)->a∈W'.fps k->False:=λi k a h n V=>by
  rcases t k a V with ⟨j,⟨l,s⟩,x,g⟩ | q
  ·cases (R.dis i j a h g)
   have:=n x;rw[U0 L.n2 s]at this;cases this
  ·obtain⟨_,o,e,_⟩:=R.own i a h
   rw[q]at e;cases e
 refine⟨⟨W'.Hf,W'.H,Ay5 m c W.fps W'.fps⟩,rfl,rfl,⟨I.sub,hl.trans R.len,λi o e=>?_,λi j a Z T=>?_,λi a h=>?_⟩,⟨st.fz,λa o e n=>st.kp a o e λ⟨k,q⟩=>?_,λa o e F n q=>st.nf a o e F (λzz=>?_) q,λa h=>?_⟩,λa C ⟨i,h⟩=>?_⟩
 ·rcases hg i with ⟨b,N,k,J,s,x,g,U⟩ | ⟨s,x⟩
  ·rw[U]at e;cases e
   obtain⟨v,M,r,P⟩:=R.get i _ s;obtain⟨X,e1',r',O⟩:=I.get k _ g;have S:=O rfl;rw[H k i b N v (Uz x) s M]at S;subst S
   refine⟨X,M,?_,P⟩
   obtain⟨a,Y,A,E,G⟩:=r'
   refine⟨a,Y,A,?_,G⟩
   show Ay5 m c W.fps W'.fps i=[a]
   unfold Ay5;rw[s,x];exact E
  ·rw[s]at e
   obtain⟨v,M,r,P⟩:=R.get i _ e
   refine⟨v,M,?_,P⟩
   have n:Ib c[i]?=true->inn m i=none:=λz=>by
    obtain⟨b,J,z⟩:=Bq1 z;exact x b J z
   have ef:Ay5 m c W.fps W'.fps i=W.fps i:=by
    unfold Ay5
    by_cases q:Ib c[i]?=true
    ·rw[if_pos q,n q]
    ·rw[if_neg q]
   show RepO K W'.Hf W'.H o v (Ay5 m c W.fps W'.fps i)
   rw[ef]
   refine r.mono st.fz λa C=>?_
   obtain⟨z,u,y,F⟩:=R.own i a C;exact⟨st.nf a u y F (d i a C n) z,(st.kp a u y (d i a C n)).trans y.symm⟩
 ·rcases D i a Z with ⟨k,f,w,B⟩ | ⟨f,w⟩
  ·rcases D j a T with ⟨l,A,E,G⟩ | ⟨A,E⟩
   ·cases I.dis k l a B G
    exact A1o L.n1 (Uz f) (Uz A)
   ·exact(p j k a A E B).elim
  ·rcases D j a T with ⟨l,A,E,G⟩ | ⟨A,E⟩
   ·exact(p i l a f w G).elim
   ·exact R.dis i j a f A
 ·rcases D i a h with ⟨k,f,w,B⟩ | ⟨f,w⟩
  ·exact I.own k a B
  ·obtain⟨z,u,y,F⟩:=R.own i a f
   exact⟨st.nf a u y F (d i a f w) z,u,st.kp a u y (d i a f w),F⟩
 ·obtain⟨i,_,_,g⟩:=Gu q
  exact n ⟨i,g⟩
 ·obtain⟨k,q'⟩:=zz
  obtain⟨i,_,_,g⟩:=Gu q';exact n ⟨i,g⟩
 ·rcases h with ⟨i,h⟩ | h
  ·rcases D i a h with ⟨k,f,w,B⟩ | ⟨f,w⟩
   ·rcases t k a B with ⟨j,_,_,q⟩ | q
    ·exact .inl ⟨j,q⟩
    ·exact .inr q
   ·exact .inl ⟨i,f⟩
  ·rcases st.fr a (.inr h) with ⟨k,q⟩ | q
   ·obtain⟨i,_,_,g⟩:=Gu q
    exact .inl ⟨i,g⟩
   ·exact .inr q
 ·rcases D i a h with ⟨k,f,w,B⟩ | ⟨f,w⟩
  ·exact Q a C ⟨k,B⟩
  ·rcases st.fr a (.inr C) with q | q
   ·exact d i a f w q
   ·obtain⟨_,u,y,_⟩:=R.own i a f
    rw[q]at y;cases y
end
inductive SR where
 | nx (c:Ev)
 | rt (p:PV) (c:Ev)
 | bk (c:Ev)
 | ct (c:Ev)
 | bad
def zM (K:v9)(β:Nat->V)(W:Wo)(D:Ends):SR->Prop
 | .nx c'=>∀σ' W',Stp W.S W.Hf W.H W'.S W'.Hf W'.H->Rep K β W' c' σ'->D.nx σ' W'.H
 | .bk c'=>∀σ' W',Stp W.S W.Hf W.H W'.S W'.Hf W'.H->Rep K β W' c' σ'->D.bk σ' W'.H
 | .ct c'=>∀σ' W',Stp W.S W.Hf W.H W'.S W'.Hf W'.H->Rep K β W' c' σ'->D.ct σ' W'.H
 | .rt p c'=>∀σ' v W' fp,Stp W.S W.Hf W.H (orS W'.S fp) W'.Hf W'.H->Rep K β W' c' σ'->Dz K W' σ' p v fp->D.rt v W'.H
 | .bad=>False
def MS (K:v9)(T:TS)(f:Ev->SR):Prop:=∀(β:Nat->V) (W:Wo) (c:Ev) (σ:St) (D:Ends),Rep K β W c σ->zM K β W D (f c)->T D σ W.H
def MG (K:v9)(g:TG)(cg:o5):Prop:=∀(β:Nat->V) (W:Wo) (c:Ev) (σ:St) (p:PV) (v:V) (fp:v6) (k:St->Hp->Prop),Rep K β W c σ->Dz K W σ p v fp ->
 (cg p c).sat (λ_ c'=>∀σ' W',Stp (orS W.S fp) W.Hf W.H W'.S W'.Hf W'.H->Rep K β W' c' σ'->k σ' W'.H)->g v σ W.H k
def MGs (K:v9)(g:TGs)(cg:w5->Ev->R Unit):Prop:=∀(β:Nat->V) (W:Wo) (c:Ev) (σ:St) (ds:w5) (vs:m6) (k:St->Hp->Prop),Rep K β W c σ->TrL W.Hf ds vs ->
 (cg ds c).sat (λ_ c'=>∀σ' W',Stp W.S W.Hf W.H W'.S W'.Hf W'.H->Rep K β W' c' σ'->k σ' W'.H)->g vs σ W.H k
noncomputable def R.toS {α:Type} (r:R α) (k:α->Ev->SR):SR:=match r with
 | .ok a c=>k a c
 | .bad=>.bad
section
variable {K:v9}{β:Nat->V}{W W':Wo}{c c' cI cO:Ev}{σ σ':St}{D:Ends}{Hf H:Hp}{o:O}{v:V}{fp:v6}
theorem Ex {r:R b}{k:b->Ev->SR}(h:zM K β W D (r.toS k)):r.sat λa c=>zM K β W D (k a c):=by
 cases r with
 | ok a c=>exact h
 | bad=>exact h
theorem zM.step (h:zM K β W D r) (st:Stp W.S W.Hf W.H W'.S W'.Hf W'.H):zM K β W' D r:=by
 cases r with
 | nx c=>exact λb d a R=>h _ _ (st.trans a) R
 | bk c=>exact λb d a R=>h _ _ (st.trans a) R
 | ct c=>exact λb d a R=>h _ _ (st.trans a) R
 | rt p c=>exact λb v d e a R r=>h _ v _ _ (st.trans a) R r
 | bad=>exact h
noncomputable def Bb (f g:Ev->SR):Ev->SR:=λc=>match f c with
 | .nx c=>g c
 | r=>r
theorem Ek (h1:MS K t f) (h2:MS K u g):MS K (Ax0 t u) (Bb f g):=by
 intro k W c i D R l
 refine h1 _ W c _ _ R ?_
 unfold Bb at l
 cases e:f c with
 | nx a=>rw[e]at l;exact λh j d b=>h2 _ _ _ _ D b (zM.step l d)
 | rt p a=>rw[e]at l;exact l
 | bk a=>rw[e]at l;exact l
 | ct a=>rw[e]at l;exact l
 | bad=>rw[e]at l;exact l
noncomputable def Cq:Ev->SR:=λc=>.nx c
theorem Lf:MS K Bh9 Cq:=λb W c a D R l=>l _ W Stp.refl R
noncomputable def Nm:Ev->SR:=λ_=>.bad
theorem Bh7:MS K As6 Nm:=λb W c a D R l=>l.elim
def Gd (f:n7):Ev->SR:=λc=>(f c).toS λ_ c=>.nx c
theorem A0f (h:ME K a f):MS K (A7c a) (Gd f):=λg W c i D R l =>
 h.toV _ W c _ _ R ((Ex l).mono λp k e v j d b _=>e _ _ d b)
def Ci (f:n7):Ev->SR:=λc=>(f c).toS λp c=>.rt p c
theorem J6 (h:ME K a f):MS K (B6a a) (Ci f):=λi W c n D R l =>
 h _ W c _ _ R ((Ex l).mono λp m e v j k d g b=>e _ v _ _ d g b)
def cIf (t:n6)(f g:Ev->SR):Ev->SR:=λc=>(t c).toS λb c=>if b=true then f c else g c
theorem Xi (h:MT K d ft) (h1:MS K t f) (h2:MS K u g):MS K (B3k d t u) (cIf ft f g):=λk W c j D R l =>
 h
  _ W c _ _ R ((Ex l).mono λb n i m e a=>by
  cases b with
  | true=>exact h1 _ _ _ _ D a (zM.step i e)
  | false=>exact h2 _ _ _ _ D a (zM.step i e))
def cgN (i:Nat):o5:=λp c=>match p with
 | .o (.ls _ ds)=>.ok () (c.set i (some (.ls false ds)))
 | .o o=>.ok () (c.set i (some o))
 | .sl j=>(frz (.sl j) c).bind λd c=>.ok () (c.set i (some (.im d)))
theorem By4 (h:Wo.S ⟨Hf,H,clr W.fps i⟩ a):W.S a:=by
 obtain⟨j,h⟩:=h;exact⟨j,(Ej h).1⟩
theorem Bm : MG K (Gz i) (cgN i):=by
 intro w W c x p v u k R r s
 have f:∀{o:O} {g:Wo} {m:Ev},Rep K w g m x->o.own=false->RepN K g.Hf o v->Stp (orS W.S u) W.Hf W.H g.S _ g.H->g.H=W.H->(∀σ' W',Stp _ _ _ W'.S W'.Hf W'.H->Rep K _ W' _ σ'->k σ' W'.H)->k _ W.H:=λ{o g m} h n r l e s=>by
  rw[<- e]
  exact s _ ⟨g.Hf,g.H,clr _ i⟩ (l.less λa z=>By4 z) (h.setN r n)
 cases p with
 | sl j =>
  obtain⟨rfl,e⟩:=r
  obtain⟨d,m,g,e1,A,y,l,h,t⟩:=Eu R (show RepA K _ _ (.sl j) v from e) s.bnd
  exact f h (o:=.im d) rfl t (l.up λa z=>.inl z) y A
 | o o =>
  cases o with
  | im d=>exact f R rfl r.1.2 (Stp.refl.up λa z=>.inl z) rfl s
  | sc d=>exact f R rfl r.1.2 (Stp.refl.up λa z=>.inl z) rfl s
  | ty d=>exact f R rfl r.1.2 (Stp.refl.up λa z=>.inl z) rfl s
  | ls b ds =>
   refine s _ ⟨W.Hf,W.H,λj=>if j=i then u else W.fps j⟩ ⟨Same.refl _,λa o e _=>e,λa o e _ _ q=>q,λa z=>?_⟩ (R.setO r.1 r.2 rfl)
   obtain⟨j,z⟩:=z
   have z:a∈if j=i then u else W.fps j:=z
   split at z
   ·grind
   ·exact .inl (.inl ⟨j,z⟩)
noncomputable def Ck:w5->Ev->R Unit:=λds c=>match ds with
 | []=>.ok () c
 | _=>.bad
def Av (g:o5)(gs:w5->Ev->R Unit):w5->Ev->R Unit:=λds c=>match ds with
 | d::ds=>(g (.o (.im d)) c).bind λ_ c=>gs ds c
 | []=>.bad
theorem A0d:MGs K Au8 Ck:=λf W c e a b k R t s=>by
 cases a with
 | nil=>cases (t);exact⟨rfl,s _ W Stp.refl R⟩
 | cons d r=>trivial
theorem Rk (h1:MG K t g) (h2:MGs K u f):MGs K (Ni t u) (Av g f):=λβ W c σ x vs k R j s=>by
 cases x with
 | nil=>trivial
 | cons d r =>
  obtain⟨v,l,rfl,m,n⟩:=j
  refine⟨v,l,rfl,h1 _ W c _ (.o (.im d)) v _ _ R ⟨⟨rfl,m⟩,λa z=>nomatch z⟩ (s.bnd.mono λ_ c1 o i W1 b q=>?_)⟩
  have b:=b.up (S2:=W.S) λa z=>by
   grind
  exact h2 _ _ _ _ r _ k q (TrL.same b.fz n) (o.mono λ_ c2 p w W2 e h=>p _ _ (b.trans e) h)
noncomputable def cgT (n:Nat) (gs:w5->Ev->R Unit):o5:=λp c=>match p with
 | .o (.im (.tuple ds))=>if ds.length=n then gs ds c else .bad
 | _=>.bad
theorem B3y (h:MGs K t d):MG K (Av9 K n t) (cgT n d):=by
 intro u W c w p v q k R r s
 match p,r,s with
 | .o (.im (.tuple ds)),r,s =>
  obtain⟨⟨b,a,j,b,l,f⟩,_⟩:=r
  have s:(if ds.length=n then d _ c else .bad:U.R _).sat _:=s
  by_cases e:ds.length=n
  ·rw[if_pos e]at s
   refine⟨a,j,b,SqT.of (R.sub _ _ l),by rw[<- f.length];exact e,h _ W c _ _ _ k R f (s.mono λ_ y i m x o g=>i _ _ (o.up λa z=>.inl z) g)⟩
  ·rw[if_neg e]at s;trivial
 | .o (.im .none),r,s=>trivial
 | .o (.im (.bool _)),r,s=>trivial
 | .o (.im (.int _)),r,s=>trivial
 | .o (.im (.str _)),r,s=>trivial
 | .o (.im (.list _)),r,s=>trivial
 | .o (.im (.dict _)),r,s=>trivial
 | .o (.ls _ _),r,s=>exact s.elim
 | .o (.sc _),r,s=>exact s.elim
 | .o (.ty _),r,s=>exact s.elim
 | .sl _,r,s=>trivial
def Bq (f:n7)(g:o5):Ev->SR:=λc=>(f c).toS λp c=>(g p c).toS λ_ c=>.nx c
theorem Hi (h:ME K b f) (hg:MG K t g):MS K (Ut b t) (Bq f g):=λx W c o D R l =>
 h _ W c _ _ R ((Ex l).mono λp q j v s u k e i=>hg _ _ _ _ p v _ _ e i ((Ex j).mono λ_ r m n w a d=>m _ _ (k.trans a) d))
def A3n (J:It)(Hf:Hp)(ds:w5):Prop:=∀(i:Nat) (Hf' H:Hp),Same Hf Hf'->Same Hf' H->(i=ds.length->J.stop i H) /\
 ∀d,ds[i]?=some d->J.go i H/\∀x H',J.yld i H x H'->∃Hf2,Stp (λ_=>False) Hf' H (λ_=>False) Hf2 H'/\Same Hf2 H'/\Tr Hf2 d x
def MI (K:v9)(wi:TI)(fi:Ev->R (w5)):Prop:=∀(β:Nat->V) (W:Wo) (c:Ev) (σ:St) (k:It->Hp->Prop),Rep K β W c σ ->
 (fi c).sat (λds c'=>∀J W',Stp W.S W.Hf W.H W'.S W'.Hf W'.H->Rep K β W' c' σ->A3n J W'.Hf ds->k J W'.H)->wi σ W.H k
noncomputable def forL (g:o5) (body:Ev->SR):w5->Ev->SR
 | [],c=>.nx c
 | d::ds,c=>match g (.o (.im d)) c with
  | .bad=>.bad
  | .ok _ c=>match body c with
   | .nx c=>forL g body ds c
   | .ct c=>forL g body ds c
   | .bk c=>.nx c
   | .rt p c=>.rt p c
   | .bad=>.bad
def Mi (fi:Ev->R (w5))(g:o5)(body:Ev->SR):Ev->SR:=λc=>(fi c).toS λds c=>forL g body ds c
theorem Sx {a:Type}{l:List a} (h:i<l.length):l.drop i=l[i]::l.drop (i+1):=List.drop_eq_getElem_cons h
theorem Af4 {V:TS} (hi:MI K X fi) (hg:MG K t g) (hb:MS K V body):MS K (Bz5 X t V) (Mi fi g body):=by
 intro C W c I D R l
 refine hi C W c I _ R ((Ex l).mono λk c1 l1 J T N R1 it=>?_)
 refine⟨λi m I H=>∃d y,d.H=H/\Rep K C d y I/\m=k.length-i/\i<=k.length/\Same T.Hf d.Hf/\zM K C d D (forL g body (k.drop i) y),⟨_,T,c1,rfl,R1,rfl,aP _,Same.refl _,zM.step l1 N⟩,?_⟩
 rintro i m I H ⟨d,y,rfl,O,rfl,hle,Y,h⟩
 obtain⟨A,Q⟩:=it i d.Hf d.H Y O.sub
 by_cases lt:i<k.length
 ·obtain⟨q1,q2⟩:=Q k[i] (bz lt)
  refine .inr ⟨q1,λM s=>∃d y,d.H=s/\Rep K C d y M/\Same T.Hf d.Hf/\zM K C d D (forL g body (k.drop (i+1)) y),λM s ⟨U,Z,e3,R3,s3,l3⟩=>⟨k.length-(i+1),by lia,U,Z,e3,R3,rfl,by lia,s3,l3⟩,λx s hy=>?_⟩
  obtain⟨n,j,G,tx⟩:=q2 x s hy
  have P:Stp d.S d.Hf d.H (Wo.S ⟨n,s,d.fps⟩) n s:=⟨j.fz,λa o e _=>j.kp a o e λz=>z,λa o e mu _ q=>j.nf a o e mu (λz=>z) q,λa z=>.inl z⟩
  rw[Sx lt]at h;unfold forL at h
  refine hg C ⟨n,s,d.fps⟩ y I (.o (.im _)) x _ _ (j.rep O G) ⟨⟨rfl,tx⟩,λa z=>nomatch z⟩ ?_
  cases eg:g _ _ with
  | bad=>rw[eg]at h;exact h.elim
  | ok u Z =>
   rw[eg]at h;intro σ3 U w S
   have w:=w.up λa z=>by
    rcases z with z | z
    ·exact z
    ·cases z
   have f:=P.trans w;have F := Y.trans f.fz
   refine hb _ _ _ _ _ S ?_
   cases ebd:body _ with
   | nx E=>simp only[ebd]at h;exact λr L b B=>⟨L,E,rfl,B,F.trans b.fz,zM.step h (f.trans b)⟩
   | ct E=>simp only[ebd]at h;exact λr L b B=>⟨L,E,rfl,B,F.trans b.fz,zM.step h (f.trans b)⟩
   | bk E=>simp only[ebd]at h;exact λr L b B=>h _ _ (f.trans b) B
   | rt p E=>simp only[ebd]at h;exact λr v L fp b B r4=>h _ v _ _ (f.trans b) B r4
   | bad=>simp only[ebd]at h;exact h.elim
 ·have e:i=k.length:=by lia
  subst e;rw[jH]at h;exact .inl ⟨A rfl,h _ _ Stp.refl O⟩
def Dk (g:o5)(ft:n6)(fe:n7):w5->w5->Ev->R (w5)
 | [],acc,c=>.ok acc c
 | d::ds,acc,c=>(g (.o (.im d)) c).bind λ_ c=>(ft c).bind λb c=>if b=true then (fe c).bind λp c=>(frz (nrm p) c).bind λy c=>Dk g ft fe ds (acc++[y]) c else Dk g ft fe ds acc c
def cIn (idx:p_)(c:Ev):Ev:=idx.map λo=>o.bind λi=>((c[i]?).join).map (O.flag true)
noncomputable def pairsOf:Nat->p_->q_
 | _,[]=>[]
 | k,none::r=>pairsOf (k+1) r
 | k,some i::r=>(k,i)::pairsOf (k+1) r
def cLC (idx:p_)(fi:Ev->R (w5))(g:o5)(ft:n6)(fe:n7):n7:=λc=>(fi c).bind λds c =>
 if ds.length<=16000000 then match Dk g ft fe ds [] (cIn idx c) with
 | .bad=>.bad
 | .ok acc cI=>match G3 cI (pairsOf 0 idx) c with
  | none=>.bad
  | some c=>.ok (.o (.ls false acc)) c
 else .bad
theorem Be0 (h:l+1<=k):k-(l+1)+1=k-l:=by lia
theorem Fd {k i:Nat}:∀{l:Nat}{idx:p_},(k,i)∈pairsOf l idx->l<=k/\idx[k-l]?=some (some i)
 | l,[],h=>by cases h
 | l,none::r,h=>by
  obtain⟨q1,q2⟩:=Fd (l:=l+1) (idx:=r) h
  refine⟨eX q1,?_⟩
  rw[show k-l=(k-(l+1))+1 from (Be0 q1).symm,dC];exact q2
 | l,some j::r,h=>by
  rcases aD.mp (show (k,i)∈(l,j)::pairsOf (l+1) r from h) with e | e
  ·cases e;exact⟨au _,by rw[dD];rfl⟩
  ·obtain⟨q1,q2⟩:=Fd (l:=l+1) (idx:=r) e
   refine⟨eX q1,?_⟩
   rw[show k-l=(k-(l+1))+1 from (Be0 q1).symm,dC];exact q2
theorem Oj {k i:Nat}:∀{l:Nat}{idx:p_},idx[k]?=some (some i)->(k+l,i)∈pairsOf l idx
 | l,[],h=>by simp at h
 | l,none::r,h=>by
  cases k with
  | zero=>simp at h
  | succ k =>
   rw[dC]at h;have:=Oj (l:=l+1) (idx:=r) h
   rw[show k+1+l=k+(l+1) by lia];exact this
 | l,some j::r,h=>by
  cases k with
  | zero=>simp at h;subst h;rw[aQ];exact .head _
  | succ k =>
   rw[dC]at h;have:=Oj (l:=l+1) (idx:=r) h
   rw[show k+1+l=k+(l+1) by lia];exact .tail _ this
theorem Rc:∀{l:Nat}{idx:p_},((pairsOf l idx).map (·.1)).Nodup
 | l,[]=>eU
 | l,none::r=>Rc (l:=l+1) (idx:=r)
 | l,some j::r=>by
  show (l::(pairsOf (l+1) r).map (·.1)).Nodup
  rw[bC]
  refine⟨λh=>?_,Rc⟩
  obtain⟨⟨k,i⟩,h1,h2⟩:=aB.mp h;have:=(Fd h1).1;have h2:k=l:=h2;lia
theorem B5s (h:x.join=some o):x=some (some o):=by
 cases x with
 | none=>grind
 | some y=>simp_all
theorem Bm3 {k:Nat} (h:(cIn idx c)[k]?=some (some o)):∃i a,idx[k]?=some (some i)/\c[i]?=some (some a)/\o=a.flag true:=by
 unfold cIn at h;rw[bK]at h;obtain⟨x,e,b⟩:=aV.mp h
 cases x with
 | none=>grind
 | some i =>
  obtain⟨a,f,d⟩:=aV.mp b
  grind
theorem A0k {k i:Nat} (h1:idx[k]?=some (some i)) (h2:a[i]?=some (some v)):(cst idx a)[k]?=some (some v):=by
 unfold cst
 grind
theorem Bj5 {idx:p_}(R:Rep K β W c σ)(hnd:((pairsOf 0 idx).map (·.2)).Nodup):Lent K W.Hf (pairsOf 0 idx) c σ (λk=>(((cst idx σ)[k]?).join).getD .non) (cIn idx c) (cst idx σ) where
 n1:=Rc
 n2:=hnd
 len:=by unfold cIn cst;rw[aq,aq]
 at_:=λk o h=>by
  obtain⟨i,o',h1,h2,rfl⟩:=Bm3 h;obtain⟨v,e,r,_⟩:=R.get i o' h2;have hs:=A0k h1 e
  have one:∀j,(k,j)∈pairsOf 0 idx->j=i:=λj hj=>by
   have:=(Fd hj).2;rw[fu,h1]at this;cases this;rfl
  have nol:Ib c[i]?=false->∀j,(k,j)∈pairsOf 0 idx->Ib c[j]?=false:=λq j hj=>by rw[one j hj];exact q
  cases o' with
  | im d=>exact .inl ⟨rfl,nol (by rw[h2];rfl),v,hs,r.2⟩
  | sc d=>exact .inl ⟨rfl,nol (by rw[h2];rfl),v,hs,r.2⟩
  | ty d=>exact .inl ⟨rfl,nol (by rw[h2];rfl),v,hs,r.2⟩
  | ls b ds=>exact .inr ⟨i,b,ds,v,Oj (l:=0) h1,h2,rfl,e,hs,by rw[hs];rfl⟩
theorem Bt3 (hnd:((pairsOf 0 idx).map (·.2)).Nodup) (hg:MG K t g) (ht:MT K tc ft) (he:ME K te fe)
 (st1:Stp W.S W.Hf W.H W1.S W1.Hf W1.H) (R1:Rep K β W1 c1 σ)
 (it:∀(i:Nat) (h:Wo),Stp (Wo.S ⟨W1.Hf,W1.H,Us (pairsOf 0 idx) c1 W1.fps⟩) W1.Hf W1.H h.S h.Hf h.H->Same h.Hf h.H->(i=ds.length->J.stop i h.H) /\
  ∀d,ds[i]?=some d->J.go i h.H/\∀x E,J.yld i h.H x E->∃s,Stp (λ_=>False) h.Hf h.H (λ_=>False) s E/\Same s E/\Tr s d x)
 (s1:(if ds.length<=16000000 then match Dk g ft fe ds [] (cIn idx c1) with
  | .bad=>.bad
  | .ok f I=>match G3 I (pairsOf 0 idx) c1 with
   | none=>.bad
   | some c=>.ok (.o (.ls false f)) c
  else .bad:R PV).sat λp c'=>∀v j w,Stp W.S W.Hf W.H (orS j.S w) j.Hf j.H->Rep K β j c' σ->Dz K j σ p v w->Q v j.H):tLC idx (λ_ H k=>k J H) t tc te σ W1.H Q:=by
 unfold tLC
 dsimp only
 by_cases hl:ds.length<=16000000
 ·rw[if_pos hl]at s1
  have L:=Bj5 (idx:=idx) R1 hnd
  let C:Nat->V:=λk=>(((cst idx σ)[k]?).join).getD .non
  let F:Wo:=⟨W1.Hf,W1.H,Us (pairsOf 0 idx) c1 W1.fps⟩
  let B:U.R (w5)->Prop:=λr=>match r with
   | .bad=>False
   | .ok f I=>match G3 I (pairsOf 0 idx) c1 with
    | none=>False
    | some c=>∀v j w,Stp W.S W.Hf W.H (orS j.S w) j.Hf j.H->Rep K β j c σ->Dz K j σ (.o (.ls false f)) v w->Q v j.H
  have s2:B (Dk g ft fe ds [] (cIn idx c1)):=by
   show match Dk g ft fe ds [] (cIn idx c1) with
    | .bad=>False
    | .ok f I=>match G3 I (pairsOf 0 idx) c1 with
     | none=>False
     | some c=>∀v j w,Stp W.S W.Hf W.H (orS j.S w) j.Hf j.H->Rep K β j c σ->Dz K j σ (.o (.ls false f)) v w->Q v j.H
   cases e1:Dk g ft fe ds [] (cIn idx c1) with
   | bad=>rw[e1]at s1;exact s1.elim
   | ok f I =>
    simp only[e1]at s1
    show match G3 I (pairsOf 0 idx) c1 with
     | none=>False
     | some c=>∀v j w,Stp W.S W.Hf W.H (orS j.S w) j.Hf j.H->Rep K β j c σ->Dz K j σ (.o (.ls false f)) v w->Q v j.H
    cases e2:G3 I (pairsOf 0 idx) c1 with
    | none=>simp only[e2]at s1;exact s1.elim
    | some D=>simp only[e2]at s1;exact s1
  refine⟨λi m A S H=>∃h D f,h.H=H/\Rep K C h D A/\m=ds.length-i/\i<=ds.length/\S.length<=i/\Stp F.S F.Hf F.H h.S h.Hf h.H/\TrL h.Hf f S/\B (Dk g ft fe (ds.drop i) f D),
   ⟨_,F,cIn idx c1,[],rfl,(L.rep R1),rfl,aP _,au _,Stp.refl,rfl,s2⟩,?_⟩
  rintro i m A S H ⟨h,D,f,rfl,R2,rfl,hle,hvs,N,ta,l⟩
  obtain⟨P,hgo⟩:=it i h N R2.sub
  by_cases lt:i<ds.length
  ·obtain⟨q1,q2⟩:=hgo ds[i] (bz lt)
   refine .inr ⟨q1,aH (bB hvs (aH lt hl)) (by decide),λA S E=>∃h D f,h.H=E/\Rep K C h D A/\S.length<=i+1/\Stp F.S F.Hf F.H h.S h.Hf h.H/\TrL h.Hf f S/\B (Dk g ft fe (ds.drop (i+1)) f D),
    λA acc' E ⟨O,X,Y,e3,R3,h3,n,t3,f3⟩=>⟨ds.length-(i+1),by lia,O,X,Y,e3,R3,rfl,by lia,h3,n,t3,f3⟩,λx E hy=>?_⟩
   obtain⟨s,n,sub3,tx⟩:=q2 x E hy
   have stx:Stp h.S h.Hf h.H (Wo.S ⟨s,E,h.fps⟩) s E:=⟨n.fz,λa o e _=>n.kp a o e λz=>z,λa o e mu _ q=>n.nf a o e mu (λz=>z) q,λa z=>.inl z⟩
   rw[Sx lt]at l;unfold Dk at l
   refine hg C ⟨s,E,h.fps⟩ D A (.o (.im ds[i])) x [] _ (n.rep R2 sub3) ⟨⟨rfl,tx⟩,λa z=>nomatch z⟩ ?_
   cases eg:g (.o (.im ds[i])) D with
   | bad=>rw[eg]at l;exact l.elim
   | ok u X =>
    rw[eg]at l
    have l:B ((ft X).bind λb c=>if b=true then (fe c).bind λp c=>(frz (nrm p) c).bind λy c=>Dk g ft fe (ds.drop (i+1)) (f++[y]) c else Dk g ft fe (ds.drop (i+1)) f c):=l
    intro σ3 O G R4
    have G:=G.up (S2:=h.S) λa z=>by
     rcases z with z | z
     ·exact z
     ·cases z
    refine ht C O X σ3 _ R4 ?_
    cases et:ft X with
    | bad=>rw[et]at l;exact l.elim
    | ok b c4 =>
     rw[et]at l;intro T st5 R5;have M:Stp F.S F.Hf F.H T.S T.Hf T.H:=N.trans (stx.trans (G.trans st5));have Z:TrL T.Hf f S:=TrL.same (stx.trans (G.trans st5)).fz ta
     cases b with
     | false=>rw[if_neg (by decide)];exact⟨T,c4,f,rfl,R5,by lia,M,Z,l⟩
     | true =>
      rw[if_pos rfl]
      have l:B ((fe c4).bind λp c=>(frz (nrm p) c).bind λy c=>Dk g ft fe (ds.drop (i+1)) (f++[y]) c):=l
      refine he.toV C T c4 σ3 _ R5 ?_
      cases ee:fe c4 with
      | bad=>rw[ee]at l;exact l.elim
      | ok p c5 =>
       rw[ee]at l
       have l:B ((frz (nrm p) c5).bind λy c=>Dk g ft fe (ds.drop (i+1)) (f++[y]) c):=l
       intro y W5 st6 R6 r6
       have fz:(frz (nrm p) c5).sat λ_ _=>True:=by
        cases ef:frz (nrm p) c5 with
        | bad=>rw[ef]at l;exact l.elim
        | ok d c=>trivial
       obtain⟨d,c6,W6,e6,_,eH,st7,R7,t7⟩:=Eu R6 r6 fz;rw[e6]at l
       refine⟨W6,c6,f++[d],eH,R7,by rw[aK,iI];lia,M.trans (st6.trans st7),(TrL.same (st6.trans st7).fz Z).app (TrL.one t7),l⟩
  ·have e:i=ds.length:=by lia
   subst e;rw[jH]at l
   refine .inl ⟨P rfl,λp hp=>?_⟩
   have l:match G3 D (pairsOf 0 idx) c1 with
    | none=>False
    | some c=>∀v j w,Stp W.S W.Hf W.H (orS _ _) _ _->Rep K _ j c _->Dz K _ _ _ v _->Q v _:=l
   cases eb:G3 D (pairsOf 0 idx) c1 with
   | none=>simp only[eb]at l
   | some cO =>
    simp only[eb]at l
    obtain⟨O,e1,e2,R3,n,_⟩:=L.back (fp:=[]) R1 R2 (N.less λa z=>by
     rcases z with z | z
     ·exact z
     ·cases z) eb (λk i b ds v hm _ hv=>by
      have:=(Fd hm).2;rw[fu]at this
      rw[A0k this hv];rfl) λa z=>nomatch z
    have n:Stp W1.S W1.Hf W1.H O.S O.Hf O.H:=by
     rw[e1,e2];exact n.less λa z=>.inl z
    rw[<- e2]at hp ⊢
    exact New.lst (New.of R3 λv j w st R' rp=>l v _ _ (st1.trans (n.trans st)) R' rp) R3.sub (by rw[e1];exact ta) hp
 ·rw[if_neg hl]at s1;exact s1.elim
theorem Ug (d:((pairsOf 0 idx).map (·.2)).Nodup) (hi:MI K f fi) (hg:MG K t g) (ht:MT K h ft) (he:ME K j fe) :
 ME K (tLC idx f t h j) (cLC idx fi g ft fe):=by
 intro n W c o Q R s
 refine hi _ W c _ _ R (s.bnd.mono λq p l J u a k m=>?_)
 exact Bt3 d hg ht he a k (λi r e b=>m i _ _ e.fz b) l
end
inductive FR where
 | ret (o:O) (as:List O)
 | bad
abbrev n8:=List O->FR
noncomputable def resolve (p:PV) (c:Ev):Option (O×Ev):=match p with
 | .o (.ls _ ds)=>some (.ls false ds,c)
 | .o o=>some (o,c)
 | .sl i=>match c[i]? with
  | some (some (.ls false ds))=>some (.ls false ds,c.set i none)
  | some (some (.im d))=>some (.im d,c)
  | _=>none
noncomputable def Ht:List O->Ev->Option (List O)
 | [],_=>some []
 | .ls true _::r,some (.ls true ds)::c=>(Ht r c).map (.ls true ds::·)
 | .ls _ _::_,_=>none
 | o::r,_::c=>(Ht r c).map (o::·)
 | _::_,[]=>none
def A4r (as:List O)(p:PV)(c:Ev):FR:=match resolve p c with
 | none=>.bad
 | some (o,c)=>match Ht as c with
  | none=>.bad
  | some as'=>.ret o as'
def Dt (n N:Nat)(body:Ev->SR):n8:=λas=>if as.length=n then match body (as.map some++List.replicate (N-n) none) with
 | .nx c=>A4r as (.o (.im .none)) c
 | .rt p c=>A4r as p c
 | _=>.bad
 else .bad
def spP (K:v9)(F:n8):Sp:=λvs H Q _=>∃(β:Nat->V) (W:Wo) (as:List O),W.H=H/\as.length=vs.length/\Rep K β W (as.map some) (vs.map some)/\match F as with
 | .bad=>False
 | .ret o as'=>∀v W' fp,Stp W.S W.Hf W.H (orS W'.S fp) W'.Hf W'.H->Rep K β W' (as'.map some) (vs.map some)->RepO K W'.Hf W'.H o v fp->(∀a∈fp,¬ W'.S a)->Q v W'.H
section
variable {K:v9}{β:Nat->V}{W W':Wo}{c c' cO:Ev}{σ:St}{D:Ends}{Hf H:Hp}{o:O}{v:V}{fp:v6}
theorem Q9:∀{as:List O}{c:Ev}{as':List O},Ht as c=some as'->as'.length=as.length/\∀(i:Nat) (o':O),as'[i]?=some o'->(o'.own=false/\as[i]?=some o')\/(∃ds ds',o'=.ls true ds'/\as[i]?=some (.ls true ds)/\c[i]?=some (some (.ls true ds')))
 | [],c,as',e=>by cases (show some []=some as' from e);exact⟨rfl,λi o' h=>by simp at h⟩
 | o::r,[],as',e=>by
  cases o with
  | ls b ds=>cases b <;> cases e
  | im d=>cases e
  | sc d=>cases e
  | ty d=>cases e
 | o::r,x::c,as',e=>by
  have go:∀o1:O,(Ht r c).map (o1::·)=some as'->((o1.own=false/\o1=o)\/(∃ds ds',o1=.ls true ds'/\o=.ls true ds/\x=some (.ls true ds'))) ->
   as'.length=(o::r).length/\∀(i:Nat) (o':O),as'[i]?=some o'->(o'.own=false/\(o::r)[i]?=some o')\/(∃ds ds',o'=.ls true ds'/\(o::r)[i]?=some (.ls true ds)/\(x::c)[i]?=some (some (.ls true ds'))):=λo1 e1 h1=>by
   obtain⟨t,e2,rfl⟩:=aV.mp e1;obtain⟨l,g⟩:=Q9 e2
   refine⟨by rw[bW,bW,l],λi o' h=>?_⟩
   cases i with
   | zero =>
    cases (show some o1=some o' from h)
    rcases h1 with ⟨z1,z2⟩ | ⟨ds,ds',z1,z2,z3⟩
    ·exact .inl ⟨z1,by rw[z2];rfl⟩
    ·exact .inr ⟨ds,ds',z1,by rw[z2];rfl,by rw[z3];rfl⟩
   | succ i=>exact g i o' (by simpa using h)
  cases o with
  | ls b ds =>
   cases b with
   | false=>cases e
   | true =>
    match x,e with
    | some (.ls true ds'),e=>exact go (.ls true ds') e (.inr ⟨ds,ds',rfl,rfl,rfl⟩)
    | some (.ls false ds'),e=>cases e
    | some (.im _),e=>cases e
    | some (.sc _),e=>cases e
    | some (.ty _),e=>cases e
    | none,e=>cases e
  | im d=>exact go (.im d) e (.inl ⟨rfl,rfl⟩)
  | sc d=>exact go (.sc d) e (.inl ⟨rfl,rfl⟩)
  | ty d=>exact go (.ty d) e (.inl ⟨rfl,rfl⟩)
theorem Wf (R:Rep K β W c σ) (r:Dz K W σ p v fp) (e:resolve p c=some (o,c')) :
 ∃W2 fp2,W2.Hf=W.Hf/\W2.H=W.H/\Rep K β W2 c' σ/\RepO K W2.Hf W2.H o v fp2/\(∀a∈fp2,¬ W2.S a)/\∀a,orS W2.S fp2 a->orS W.S fp a:=by
 cases p with
 | o f =>
  have g:o=f.flag false/\c'=c:=by
   cases f with
   | ls b h=>cases e;exact⟨rfl,rfl⟩
   | im d=>cases e;exact⟨rfl,rfl⟩
   | sc d=>cases e;exact⟨rfl,rfl⟩
   | ty d=>cases e;exact⟨rfl,rfl⟩
  obtain⟨rfl,rfl⟩:=g
  refine⟨W,fp,rfl,rfl,R,?_,r.2,λa z=>z⟩
  cases f with
  | ls b h=>exact r.1
  | im d=>exact r.1
  | sc d=>exact r.1
  | ty d=>exact r.1
 | sl i =>
  obtain⟨rfl,n⟩:=r;unfold resolve at e
  cases ec:c[i]? with
  | none=>simp_all
  | some x =>
   cases x with
   | none=>grind
   | some f =>
    obtain⟨v',g,k,_⟩:=R.get i _ ec
    cases (show some _=some _ from g.symm.trans n)
    cases f with
    | sc d=>simp_all
    | ty d=>simp_all
    | im d =>
     simp only[ec]at e
     cases e
     exact⟨W,[],rfl,rfl,R,⟨rfl,k.2⟩,(λa z=>by cases z),λa z=>z⟩
    | ls b h =>
     cases b with
     | true=>simp_all
     | false =>
      simp only[ec]at e
      cases e
      refine⟨⟨W.Hf,W.H,clr _ i⟩,W.fps i,rfl,rfl,R.drop i,k,λa q ⟨j,m⟩=>?_,λa z=>?_⟩
      ·obtain⟨s,l⟩:=Ej m
       exact l (R.dis j i a s q)
      ·rcases z with z | z
       ·exact .inl (By4 z)
       ·exact .inl ⟨i,z⟩
theorem Ew {b a:Type}{l:List b}{f:b->a}{i:Nat}{y:a}(h:(l.map f)[i]?=some y):∃x,l[i]?=some x/\f x=y:=by
 grind
theorem A9g {vs:m6} (t:Rep K β z (p.map some) (vs.map some)) (R:Rep K β W c σ) (S:Same z.Hf W.Hf) (e:Ht p c=some k) :
 ∃W2:Wo,W2.Hf=W.Hf/\W2.H=W.H/\Rep K β W2 (k.map some) (vs.map some)/\∀a,W2.S a->W.S a:=by
 obtain⟨E,G⟩:=Q9 e
 let f:Nat->v6:=λi=>if Ib ((k.map some)[i]?) then W.fps i else []
 have g:∀i a,a∈f i->a∈W.fps i:=λi a h=>by
  grind
 have m:p.length=vs.length:=by have:=t.len;rwa [aq,aq]at this
 refine⟨⟨W.Hf,W.H,f⟩,rfl,rfl,⟨R.sub,by rw[aq,aq,E,m],λi o h=>?_,λi j a u w=>R.dis i j a (g i a u) (g j a w),λi a h=>R.own i a (g i a h)⟩,λa ⟨i,h⟩=>⟨i,g i a h⟩⟩
 obtain⟨o',u,w⟩:=Ew h
 cases w
 rcases G i o u with ⟨n,q⟩ | ⟨A,C,rfl,J,D⟩
 ·obtain⟨v,s,r,_⟩:=t.get i o (by rw[bK,q];rfl)
  have x:f i=[]:=by
   show (if Ib _ then W.fps i else [])=[]
   rw[h]
   cases o with
   | ls b A=>exact nomatch n
   | im d=>rfl
   | sc d=>rfl
   | ty d=>rfl
  refine⟨v,s,?_,?_⟩
  ·show RepO K W.Hf W.H o v (f i)
   rw[x]
   cases o with
   | ls b A=>exact nomatch n
   | im d=>exact⟨rfl,RepN.same S r.2⟩
   | sc d=>exact⟨rfl,RepN.same S r.2⟩
   | ty d=>exact⟨rfl,RepN.same S r.2⟩
  grind
 ·obtain⟨v,s,r,B⟩:=t.get i _ (by rw[bK,J];rfl)
  obtain⟨H,F,I,y⟩:=R.get i _ D;have l:=y rfl;rw[<- (B rfl)]at l;subst l
  refine⟨H,s,?_,B⟩
  have x:f i=W.fps i:=by
   show (if Ib _ then W.fps i else [])=_
   rw[h];rfl
  show RepO K _ _ _ _ (f i)
  rw[x];exact I
theorem Au2 (h:MS K T body) (hs:spP K (Dt n N.length body) vs H Q E):T { nx:=λ_ H'=>Q .non H',rt:=Q } (start N vs) H:=by
 obtain⟨u,W,j,rfl,B,m,b⟩:=hs;unfold Dt at b
 by_cases hn:j.length=n
 ·rw[if_pos hn]at b
  let D:Ev:=j.map some++List.replicate (N.length-n) none
  have R:Rep K u W D (start N vs):=by
   refine⟨m.sub,?_,λi o e=>?_,m.dis,m.own⟩
   ·show (j.map some++List.replicate (N.length-n) none).length=(vs.map some++List.replicate (N.length-vs.length) none).length
    rw[aK,aK,aq,aq,j8,j8,<- B,hn]
   ·have e:(j.map some++List.replicate (N.length-n) none)[i]?=some (some o):=e
    by_cases li:i<j.length
    ·rw[dF (by rw[aq];exact li)]at e
     obtain⟨v,w,r⟩:=m.get i o e
     refine⟨v,?_,r⟩
     show (vs.map some++List.replicate (N.length-vs.length) none)[i]?=_
     rw[dF (by rw[aq,<- B];exact li)];exact w
    ·rw[dX (by rw[aq];exact jo li),List.getElem?_replicate]at e
     split at e <;> cases e
  refine h u W D (start N vs) _ R ?_
  have l:∀p f c v d g,(match A4r j p f with
   | .bad=>False
   | .ret o t=>∀v W' g,Stp W.S W.Hf W.H (orS W'.S g) W'.Hf W'.H->Rep K u W' (t.map some) (vs.map some)->RepO K W'.Hf W'.H o v g->(∀a∈g,¬ W'.S a)->Q v W'.H) ->
   Stp W.S W.Hf W.H (orS d.S g) d.Hf d.H->Rep K u d f c->Dz K d c p v g->Q v d.H:=λp f c v d g b k s x=>by
   unfold A4r at b
   cases er:resolve p f with
   | none=>simp only[er]at b
   | some q =>
    obtain⟨o,U⟩:=q;simp only[er]at b
    cases ea:Ht j U with
    | none=>simp only[ea]at b
    | some t =>
     simp only[ea]at b;obtain⟨W2,S,w,C,I,J,L,M⟩:=Wf s x er
     obtain⟨O,A,y,P,F⟩:=A9g m I (by rw[w];exact k.fz) ea
     rw[show d.H=O.H by rw[y,C]]
     refine b v _ _ ?_ P (by rw[A,y];exact J) λa G z=>L a G (F a z)
     rw[A,y,w,C]
     exact k.less λa z=>M a (by
      rcases z with z | z
      ·exact .inl (F a z)
      ·exact .inr z)
  cases eb:body _ with
  | nx f =>
   rw[show body _=.nx _ from eb]at b
   exact λc d k s=>l _ _ _ _ _ _ b (k.less λa z=>by
    rcases z with z | z
    ·exact z
    ·cases z) s ⟨⟨rfl,rfl⟩,λa z=>nomatch z⟩
  | rt p f =>
   rw[show body _=.rt p _ from eb]at b
   exact λc v d g k s x=>l p _ _ v _ _ b k s x
  | bk f=>rw[show body _=.bk _ from eb]at b;exact b.elim
  | ct f=>rw[show body _=.ct _ from eb]at b;exact b.elim
  | bad=>rw[show body _=.bad from eb]at b;exact b.elim
 ·rw[if_neg hn]at b;exact b.elim
theorem A7g (hs:spP K (Dt n N body) vs H Q E):vs.length=n:=by
 obtain⟨d,W,c,b,e,f,a⟩:=hs;unfold Dt at a
 grind
def Aj8 (c:Ev):List PV->Option (List O)
 | []=>some []
 | .o o::r=>(Aj8 c r).map (o::·)
 | .sl i::r=>match c[i]? with
  | some (some o)=>(Aj8 c r).map (o.flag true::·)
  | _=>none
noncomputable def slots:List PV->p_
 | []=>[]
 | .o _::r=>none::slots r
 | .sl i::r=>some i::slots r
noncomputable def ndB:List Nat->Bool
 | []=>true
 | x::r=>!r.contains x&&ndB r
theorem Be7:∀{l:List Nat},ndB l=true->l.Nodup
 | [],_=>eU
 | x::r,h=>by
  obtain⟨h1,h2⟩:=aA.mp (show (!r.contains x&&ndB r)=true from h)
  rw[bC]
  exact⟨λz=>by simp[z]at h1,Be7 h2⟩
def Xw (F:n8)(ps:List PV)(c:Ev):R PV:=match Aj8 c ps with
 | none=>.bad
 | some as=>if ndB ((pairsOf 0 (slots ps)).map (·.2))=true then match F as with
  | .bad=>.bad
  | .ret o as'=>match G3 (as'.map some) (pairsOf 0 (slots ps)) c with
   | none=>.bad
   | some c=>.ok (.o o) c
  else .bad
def cF (F:n8)(fa:o_):n7:=λc=>(fa c).bind λps c=>Xw F ps c
theorem Vu {Hf:Hp}:∀{ps:List PV}{vs:m6}{as:List O},Aj8 c ps=some as->zU K Hf σ ps vs->as.length=vs.length/\∀(k:Nat) (o:O),as[k]?=some o->∃v,vs[k]?=some v /\
 ((RepN K Hf o v/\(slots ps)[k]?=some none)\/∃i o',(slots ps)[k]?=some (some i)/\c[i]?=some (some o')/\o=o'.flag true/\σ[i]?=some (some v))
 | [],vs,as,e,h=>by cases (show some []=some as from e);cases (show vs=[] from h);exact⟨rfl,λk o h=>by simp at h⟩
 | .o o1::r,_,as,e,⟨v,vr,rfl,h,t⟩=>by
  obtain⟨l,e2,rfl⟩:=aV.mp (show (Aj8 c r).map (o1::·)=some as from e)
  obtain⟨hl,hg⟩:=Vu e2 t
  refine⟨by rw[bW,bW,hl],λk o hk=>?_⟩
  cases k with
  | zero=>cases (show some o1=some o from hk);exact⟨v,rfl,.inl ⟨h,rfl⟩⟩
  | succ k=>exact hg k o (by simpa using hk)
 | .sl i::r,_,as,e,⟨v,vr,rfl,h,t⟩=>by
  unfold Aj8 at e
  cases ec:c[i]? with
  | none=>simp only[ec]at e;cases e
  | some x =>
   cases x with
   | none=>simp only[ec]at e;cases e
   | some o1 =>
    simp only[ec]at e;obtain⟨l,e2,rfl⟩:=aV.mp e;obtain⟨hl,hg⟩:=Vu e2 t
    refine⟨by rw[bW,bW,hl],λk o hk=>?_⟩
    cases k with
    | zero=>cases (show some (o1.flag true)=some o from hk);exact⟨v,rfl,.inr ⟨i,o1,rfl,ec,rfl,h⟩⟩
    | succ k=>exact hg k o (by simpa using hk)
theorem T4 {Hf:Hp}:∀{ps:List PV}{vs:m6}{k i:Nat}{v:V},zU K Hf σ ps vs->(slots ps)[k]?=some (some i)->σ[i]?=some (some v)->vs[k]?=some v
 | [],vs,k,i,v,h,e,q=>by simp[slots]at e
 | .o _::r,_,k,i,v,⟨v1,vr,rfl,h,t⟩,e,q=>by
  cases k with
  | zero=>simp[slots]at e
  | succ k=>have:=T4 (k:=k) t (by simpa[slots] using e) q;simpa using this
 | .sl j::r,_,k,i,v,⟨v1,vr,rfl,h,t⟩,e,q=>by
  cases k with
  | zero =>
   have:j=i:=by simpa[slots] using e
   subst this
   cases (show some (some v1)=some (some v) from (show σ[j]?=some (some v1) from h).symm.trans q)
   rfl
  | succ k=>have:=T4 (k:=k) t (by simpa[slots] using e) q;simpa using this
theorem Au4 (g:Rep K β W1 c1 σ) (R:zU K W1.Hf σ ps vs)
 (s1:(Xw F ps c1).sat λp c'=>∀v e y,Stp W1.S W1.Hf W1.H (orS e.S y) e.Hf e.H->Rep K β e c' σ->Dz K e σ p v y->(∀j a,a∈W1.fps j->some j∉slots ps->e.H a=W1.H a)->Q v e.H):spP K F (vs++[]) W1.H Q E:=by
 unfold Xw at s1
 cases ea:Aj8 c1 ps with
 | none=>simp only[ea]at s1;exact s1.elim
 | some M =>
  simp only[ea]at s1
  by_cases nd:ndB ((pairsOf 0 (slots ps)).map (·.2))=true
  ·rw[if_pos nd]at s1
   obtain⟨P,hg⟩:=Vu ea R
   let m:=pairsOf 0 (slots ps)
   let l:Nat->V:=λk=>(vs[k]?).getD .non
   have L:Lent K W1.Hf m c1 σ l (M.map some) (vs.map some):=by
    refine⟨Rc,Be7 nd,by rw[aq,aq];exact P,λk o B=>?_⟩
    obtain⟨o1,T,h2⟩:=Ew B
    cases h2
    obtain⟨v,u,q⟩:=hg k o T
    have c:(vs.map some)[k]?=some (some v):=by rw[bK,u];rfl
    rcases q with ⟨I,t⟩ | ⟨i,H,t,n,rfl,G⟩
    ·refine .inl ⟨?_,λi Z=>?_,v,c,I⟩
     ·cases o with
      | ls b D=>exact I.elim
      | im d=>rfl
      | sc d=>rfl
      | ty d=>rfl
     ·have:=(Fd Z).2
      rw[fu,t]at this;cases this
    ·have f:Ib c1[i]?=false->∀j,(k,j)∈m->Ib c1[j]?=false:=λq j z=>by
      have:=(Fd z).2;rw[fu,t]at this;cases this;exact q
     obtain⟨v',w,r,_⟩:=g.get i H n
     cases (show some _=some _ from w.symm.trans G)
     cases H with
     | im d=>exact .inl ⟨rfl,f (by rw[n];rfl),v,c,r.2⟩
     | sc d=>exact .inl ⟨rfl,f (by rw[n];rfl),v,c,r.2⟩
     | ty d=>exact .inl ⟨rfl,f (by rw[n];rfl),v,c,r.2⟩
     | ls b D=>exact .inr ⟨i,b,D,v,Oj t,n,rfl,G,c,by show vs[k]?.getD _=v;rw[u];rfl⟩
   refine⟨l,⟨W1.Hf,W1.H,Us m _ _⟩,M,rfl,by rw[cY];exact P,by rw[cY];exact(L.rep g),?_⟩
   cases ef:F _ with
   | bad=>simp only[ef]at s1;exact s1.elim
   | ret o A =>
    simp only[ef]at s1;intro v e y J U W X
    cases eb:G3 (A.map some) m c1 with
    | none=>simp only[m]at eb;simp only[eb]at s1;exact s1.elim
    | some cO =>
     have h:=eb;simp only[m]at h;simp only[h]at s1
     obtain⟨W2,w,x,R2,C,Y⟩:=L.back g U J eb (λk i b D v hm hc u=>by
      have:=(Fd hm).2;rw[fu]at this
      show vs[k]?.getD _=v
      rw[T4 R this u];rfl) X
     rw[<- x]
     refine s1 v _ _ (by rw[w,x];exact C) R2 ⟨by rw[w,x];exact W,Y⟩ λj a N z=>?_
     obtain⟨_,ob,s,_⟩:=g.own j a N;rw[x,s]
     refine J.kp a _ s λ⟨k,B⟩=>z ?_
     obtain⟨i,q1,_,S⟩:=Gu B
     cases g.dis i j a S N
     have:=(Fd q1).2;exact bh this
  ·rw[if_neg nd]at s1;exact s1.elim
theorem Sq (d:Rep K β W1 c1 σ) (e:zU K W1.Hf σ ps vs)
 (s1:(Xw F ps c1).sat λp c'=>∀v a b,Stp W1.S W1.Hf W1.H (orS a.S b) a.Hf a.H->Rep K β a c' σ->Dz K a σ p v b->Q v a.H):spP K F (vs++[]) W1.H Q E :=
 Au4 d e (s1.mono λp c' k v a b c R r _=>k v _ _ c R r)
theorem Gn (ha:MA K t fa):ME K (Pa (spP K F) [] E t) (cF F fa):=by
 intro j W c h Q R s
 refine ha _ W c _ _ R (s.bnd.mono λl m f u i a e d=>?_)
 exact Sq e d (f.mono λp n k v o q g b r=>k v _ _ (a.trans g) b r)
end
noncomputable def B7b (is:List Nat) (c:Ev):Ev:=is.foldl (λc i=>c.set i none) c
section
variable {K:v9}{X:Cx}{Hf H:Hp}{Q:VK}
theorem OpR.or (h:OpR X f r) (h':OpR X f b):OpR X f (λx y H Q=>r x y H Q\/b x y H Q):=by
 intro c s e H x y v u Q I d a q
 rcases q with q | q
 ·exact h _ s _ H x y v u Q I d a q
 ·exact h' _ s _ H x y v u Q I d a q
theorem CallR.or (h:CallR X f r) (h':CallR X f b):CallR X f (λxs H Q=>r xs H Q\/b xs H Q):=by
 intro c s d H xs e Q I a q
 rcases q with q | q
 ·exact h _ s _ H _ _ Q I a q
 ·exact h' _ s _ H _ _ Q I a q
theorem Dh (h:RdV Hf H (.int i) v):v=.int i:=h
theorem G9 (h:RdV Hf H (.str x) v):v=.str x:=h
theorem Qu (h:RdV Hf H (.bool b) v):v=.bl b:=h
theorem Qt (h:RdV Hf H .none v):v=.non:=h
theorem Ja (s:Same Hf H) (h:RdV Hf H (.tuple ds) v):∃a b,v=.ref a/\H a=some (.tup b)/\TrL Hf ds b:=by
 obtain⟨a,b,e,q,t⟩:=(show Tr _ _ v from h)
 exact⟨a,b,e,s _ _ q,t⟩
theorem Fz (h:RdV Hf H (.list ds) v):∃a vs,v=.ref a/\H a=some (.lst vs)/\TrL Hf ds vs:=h
theorem New.int (h:New K Hf H (.im (.int i)) Q) (s:Same Hf H):Q (.int i) H:=h.same s rfl
theorem New.bl (h:New K Hf H (.im (.bool b)) Q) (s:Same Hf H):Q (.bl b) H:=h.same s rfl
theorem New.str (h:New K Hf H (.im (.str x)) Q) (s:Same Hf H):Q (.str x) H:=h.same s rfl
theorem New.tupS (h:New K Hf H (.im (.tuple ds)) Q) (s:Same Hf H) (t:TrL Hf ds vs) (S:Same H H') (hp:H' p=some (.tup vs)):Q (.ref p) H':=by
 have c:Same _ (upd Hf p (.tup vs)):=λb u e=>by
  unfold upd
  split
  ·have:=S b u (s b u e)
   simp_all
  grind
 refine h _ _ _ [] ⟨c,λa o e _=>S a o e,λa o e d _ q=>?_,λa z=>nomatch z⟩ (λb u e=>?_) ⟨rfl,p,vs,rfl,Aq,TrL.same c t⟩
 ·unfold upd
  split
  ·rename_i z
   have:=S a o e;rw[z,hp]at this
   cases this
   trivial
  lia
 ·unfold upd at e
  split at e
  ·simp_all
  ·exact S b u (s b u e)
def B2e:R2:=λx y H Q=>(rI0 (λi j=>.int (i+j)) x y H Q\/(∃i j,x=.str i/\y=.str j/\i.length+j.length<=sizeLine/\Q (.str (i++j)) H))\/(B6l x y H Q\/Bx0 x y H Q)
theorem B1v:OpR X (binaryOp .Add) B2e:=OpR.or (OpR.or B2y At6) (OpR.or B3c Bm2)
noncomputable def Aw:t6->t6->m5
 | .int i,.int j=>some (.im (.int (i+j)))
 | .str a,.str b=>if a.length+b.length<=16000000 then some (.im (.str (a++b))) else none
 | .list a,.list b=>if a.length+b.length<=16000000 then some (.ls false (a++b)) else none
 | .tuple a,.tuple b=>if a.length+b.length<=16000000 then some (.im (.tuple (a++b))) else none
 | _,_=>none
theorem lim (h:n<=16000000):n<=sizeLine:=ao h (by decide)
theorem Hl:OpS K B2e Aw:=by
 intro C H x y A B o Q s g f e n;unfold Aw at e
 split at e
 ·rename_i i j
  cases e
  exact .inl (.inl ⟨i,j,Dh g,Dh f,n.int s⟩)
 ·rename_i a b
  split at e
  ·rename_i l
   cases e
   exact .inl (.inr ⟨a,b,G9 g,G9 f,lim l,n.str s⟩)
  ·cases e
 ·have e := e
  split at e
  ·rename_i l
   cases e
   obtain⟨p,v,k,h,d⟩:=Fz g;obtain⟨q,t,u,m,c⟩:=Fz f
   exact .inr (.inl ⟨p,q,v,t,k,u,h,m,by rw[<- d.length,<- c.length];exact lim l,λr w=>n.lst s (d.app c) w⟩)
  ·cases e
 ·have e := e
  split at e
  ·rename_i l
   cases e
   obtain⟨p,v,k,h,d⟩:=Ja s g;obtain⟨q,t,u,m,c⟩:=Ja s f
   exact .inr (.inr ⟨p,q,v,t,k,u,h,m,by rw[<- d.length,<- c.length];exact lim l,λr z S w=>n.tupS s (d.app c) S w⟩)
  ·cases e
 ·cases e
noncomputable def opI (C:Int->Int->Bool) (g:Int->Int->Int):t6->t6->m5
 | .int i,.int j=>if C i j then some (.im (.int (g i j))) else none
 | _,_=>none
theorem A0r (hc:∀i j,C i j=true->a i j):OpS K (rI a λi j=>.int (g i j)) (opI C g):=by
 intro d H x y h f o Q s c b e n;unfold opI at e
 split at e
 ·rename_i i j
  split at e
  ·rename_i l
   cases e
   exact⟨i,j,Dh c,Dh b,hc i j l,n.int s⟩
  trivial
 grind
noncomputable def Yl (g:Int->Int->t6):t6->t6->m5
 | .int i,.int j=>some (.im (g i j))
 | _,_=>none
theorem Ad2 (hg:∀i j H,Tr H (g i j) (g' i j)):OpS K (rI0 g') (Yl g):=by
 intro c H x y f d o Q s a b e n;unfold Yl at e
 split at e
 ·rename_i i j
  cases e
  exact⟨i,j,Dh a,Dh b,n.same s (hg i j _)⟩
 trivial
noncomputable def Vo (i j:Int):Bool:=(decide (-(2 ^ 64)<i)&&decide (i<2 ^ 64))||(decide (-(2 ^ 64)<j)&&decide (j<2 ^ 64))
noncomputable def B6u (ds:w5) (n:Nat):w5:=(List.replicate n ds).flatten
theorem A2g {a:w5}{vs:m6}(t:TrL Hf a vs):∀n:Nat,TrL Hf (B6u a n) (List.replicate n vs).flatten
 | 0=>rfl
 | n+1=>by
  show TrL Hf (List.replicate (n+1) a).flatten (List.replicate (n+1) vs).flatten
  rw[dM,dM,gP,gP];exact t.app (A2g t n)
noncomputable def Cr (d:t6):Bool:=d.canLay0&&decide (d.depth<=40)
theorem Ol (h:Cr d=true):Flat d:=by
 obtain⟨b,a⟩:=aA.mp h;exact⟨b,aZ a⟩
noncomputable def U5:t6->t6->Bool
 | .str _,.str _=>true
 | _,_=>false
def Ce (neg:Bool)(a b:t6):m5:=if (Cr a&&Cr b)||U5 a b then some (.im (.bool (if neg then !PyData.eqv a b else PyData.eqv a b))) else none
def rEQ:R2:=λx y H Q=>B7k x y H Q\/rEq x y H Q
def rNE:R2:=λx y H Q=>B7d x y H Q\/rNe x y H Q
theorem Bx1 (hu:X.A.units+64<cLine):OpR X (compareOp .Eq) rEQ:=OpR.or (B1j hu) B6w
theorem B4a (hu:X.A.units+64<cLine):OpR X (compareOp .NotEq) rNE:=OpR.or (B0v hu) B5k
theorem Xa (x y:Str):PyData.eqv (.str x) (.str y)=decide (V.str x=V.str y):=by
 show (x==y)=_
 grind
theorem A9t:OpS K rEQ (Ce false):=by
 intro h H x y f d o Q s b a e n;unfold Ce at e
 split at e
 ·rename_i l
  cases e
  rcases jJ.mp l with l | l
  ·obtain⟨g,c⟩:=aA.mp l
   exact .inl ⟨f,d,b.tr s,a.tr s,Ol g,Ol c,n.bl s⟩
  ·unfold U5 at l
   split at l
   ·cases G9 b
    cases G9 a
    refine .inr ⟨rfl,?_⟩
    rw[<- Xa];exact n.bl s
   grind
 grind
theorem Ax4:OpS K rNE (Ce true):=by
 intro h H x y f d o Q s b a e n;unfold Ce at e
 split at e
 ·rename_i l
  cases e
  rcases jJ.mp l with l | l
  ·obtain⟨g,c⟩:=aA.mp l
   exact .inl ⟨f,d,b.tr s,a.tr s,Ol g,Ol c,n.bl s⟩
  ·unfold U5 at l
   split at l
   ·cases G9 b
    cases G9 a
    refine .inr ⟨rfl,?_⟩
    rw[<- Xa];exact n.bl s
   grind
 grind
noncomputable def Ig (neg:Bool) (a b:t6):m5:=match b with
 | .none=>some (.im (.bool (match a with
  | .none=>!neg
  | _=>neg)))
 | _=>none
theorem A2l (h:RdV Hf H d v):decide (v=.non)=(match d with | .none=>true | _=>false):=by
 cases d with
 | none=>cases Qt h;rfl
 | bool b=>cases Qu h;rfl
 | int i=>cases Dh h;rfl
 | str x=>cases G9 h;rfl
 | list c=>obtain⟨a,e,rfl,_⟩:=Fz h;rfl
 | tuple c=>obtain⟨a,e,rfl,_⟩:=(show Tr _ _ v from h);rfl
 | dict k=>trivial
theorem Bo7:OpS K (λx y H Q=>y=.non/\Q (.bl (decide (x=.non))) H) (Ig false):=by
 intro f H x y c b o Q s d a e n
 match b,a,e with
 | .none,a,e =>
  refine⟨Qt a,?_⟩
  rw[A2l d]
  cases e
  cases c <;> exact n.bl s
theorem A9f:OpS K (λx y H Q=>y=.non/\Q (.bl (!decide (x=.non))) H) (Ig true):=by
 intro f H x y c b o Q s d a e n
 match b,a,e with
 | .none,a,e =>
  refine⟨Qt a,?_⟩
  rw[A2l d]
  cases e
  cases c <;> exact n.bl s
def Ml (neg:Bool):t6->t6->m5
 | d,.list ds=>if Cr d&&PyData.canLayAll0 ds then some (.im (.bool (if neg then !(ds.any λe=>PyData.eqv e d) else ds.any λe=>PyData.eqv e d))) else none
 | d,.tuple ds=>if Cr d&&PyData.canLayAll0 ds then some (.im (.bool (if neg then !(ds.any λe=>PyData.eqv e d) else ds.any λe=>PyData.eqv e d))) else none
 | .str i,.str j=>if neg then none else some (.im (.bool (!(Builtin.Str.occurrences j i 0 j.length 1).isEmpty)))
 | _,_=>none
theorem Ss:OpS K (B3m true) (Ml true):=by
 intro h H x y f i o Q s d g e n;unfold Ml at e
 split at e
 ·rename_i a
  have e := e
  split at e
  ·rename_i l
   obtain⟨c,b⟩:=aA.mp l
   cases e
   exact⟨f,a,d.tr s,.inl (g.tr s),Ol c,b,n.bl s⟩
  simp_all
 ·rename_i a
  have e := e
  split at e
  ·rename_i l
   obtain⟨c,b⟩:=aA.mp l
   cases e
   exact⟨f,a,d.tr s,.inr (g.tr s),Ol c,b,n.bl s⟩
  grind
 ·simp_all
 grind
theorem A7z (t:TrL Hf ds vs) (h:atI ds i=some d):∃v,atI vs i=some v/\Tr Hf d v:=by
 unfold atI at h ⊢;rw[<- t.length];obtain⟨j,c,a⟩:=cW.mp h;obtain⟨v,e,b⟩:=t.got a
 grind
def cutD (ds:w5)(lo hi:q9):w5:=(ds.drop (HT.sIx ds.length 0 lo)).take (HT.sIx ds.length ds.length hi-HT.sIx ds.length 0 lo)
theorem TrL.drop':∀{ds:w5}{vs:m6}(n:Nat),TrL Hf ds vs->TrL Hf (ds.drop n) (vs.drop n)
 | ds,vs,0,h=>h
 | [],_,n+1,h=>by cases (show _=[] from h);exact rfl
 | d::ds,_,n+1,⟨v,r,rfl,_,t⟩=>TrL.drop' n t
theorem TrL.take':∀{ds:w5}{vs:m6}(n:Nat),TrL Hf ds vs->TrL Hf (ds.take n) (vs.take n)
 | ds,vs,0,h=>by rw[List.take_zero,List.take_zero];exact rfl
 | [],_,n+1,h=>by cases (show _=[] from h);exact rfl
 | d::ds,_,n+1,⟨v,r,rfl,q,t⟩=>⟨v,r.take n,rfl,q,TrL.take' n t⟩
theorem TrL.cut (t:TrL Hf ds vs):TrL Hf (cutD ds lo hi) (A4m vs lo hi):=by
 unfold cutD A4m;rw[<- t.length];exact TrL.take' _ (TrL.drop' _ t)
end
section
variable {K:v9}{X:Cx}{Hf H:Hp}{Q:VK}{β:Nat->V}{W W':Wo}{c c':Ev}{σ:St}{v:V}
theorem B1s (h:B0z Hf H [d] xs):∃x,xs=[x]/\RdV Hf H d x:=by
 obtain⟨v,r,b,c,a⟩:=h
 cases (a)
 grind
noncomputable def Ma:w5->m5
 | [.list ds]=>some (.im (.int ds.length))
 | [.tuple ds]=>some (.im (.int ds.length))
 | [.str z]=>if z.length<=16000000 then some (.im (.int z.length)) else none
 | _=>none
theorem A4n:B4i K (Uk K) Ma:=by
 intro Hf H xs ds o Q s d e n;unfold Ma at e
 split at e
 ·obtain⟨x,rfl,r⟩:=B1s d
  obtain⟨a,c,rfl,b,t⟩:=Fz r
  cases e
  refine⟨.ref a,c.length,rfl,Bs8 b,?_⟩
  rw[<- t.length];exact n.int s
 ·obtain⟨x,rfl,r⟩:=B1s d
  obtain⟨a,c,rfl,b,t⟩:=Ja s r
  cases e
  refine⟨.ref a,c.length,rfl,Bl6 b,?_⟩
  rw[<- t.length];exact n.int s
 ·rename_i z
  obtain⟨x,rfl,r⟩:=B1s d
  cases G9 r
  split at e
  ·rename_i l
   cases e
   refine⟨.str z,z.length,rfl,?_,n.int s⟩
   show (if z.length<=sizeLine then some _ else none)=_
   rw[if_pos (lim l)]
  trivial
 simp_all
def Bq9 (K:v9):m6->Hp->VK->Prop:=λxs H Q=>Uk K xs H Q\/Az2 K xs H Q
theorem A7s:CallR X (.builtin "len") (Bq9 X.K):=CallR.or A3x Ao9
def J1 (f:n7):n7:=λc=>(f c).bind λp c=>match nrm p with
 | .o (.sc ns)=>.ok (.o (.im (.int ns.length))) c
 | p=>match Ds c p with
  | some d=>match Ma [d] with
   | some o=>.ok (.o o) c
   | none=>.bad
  | none=>.bad
theorem Au1 (h:ME K t f):ME K (tCB (Bq9 K) (Bv t Fb)) (J1 f):=by
 intro A W c u Q R s
 refine h.toV A W c u _ R (s.bnd.mono λp w e v r n k g=>?_)
 have m:∀q:PV,RepA K r.Hf u q v->((match Ds w q with
  | some d=>(match Ma [d] with
   | some o=>.ok (.o o) w
   | none=>.bad)
  | none=>.bad:U.R PV)).sat (λp C=>∀v j l,Stp W.S W.Hf W.H (orS j.S l) j.Hf j.H->Rep K A j C u->Dz K j u p v l->Q v j.H)->Bq9 K [v] r.H Q:=λq g e=>by
  cases ex:Ds w q with
  | none=>simp only[ex]at e;exact e.elim
  | some d =>
   simp only[ex]at e
   cases eo:Ma [d] with
   | none=>simp only[eo]at e;exact e.elim
   | some o =>
    simp only[eo]at e
    exact .inl (A4n r.Hf r.H [v] [d] o Q k.sub ⟨v,[],rfl,Gj k g ex,rfl⟩ eo (New.of k λv j l z y x=>e v j l (n.trans z) y x))
 generalize nrm p=q at e g
 match q,g,e with
 | .o (.sc ns),g,e =>
  obtain⟨a,rfl,B⟩:=g;have e:∀v j l,Stp _ _ _ _ _ _->Rep K _ j _ _->Dz K _ _ _ v _->Q v _:=e
  refine .inr ⟨.ref a,ns.length,rfl,?_,(New.of k λv j l z y x=>e v _ _ (n.trans z) y x).int k.sub⟩
  exact .inl ⟨ns.map _,Same.seq k.sub B,by simp_all⟩
 | .o (.im d),g,e=>exact m _ g e
 | .o (.ls b d),g,e=>trivial
 | .o (.ty T),g,e=>trivial
 | .sl i,g,e=>exact m _ g e
inductive Ty5 where
 | int | str | bool | list | tuple
noncomputable def Ty5.nm:Ty5->String
 | .int => "int"
 | .str => "str"
 | .bool => "bool"
 | .list => "list"
 | .tuple => "tuple"
noncomputable def Uq:Ty5->t6->Bool
 | .int,.int _=>true
 | .int,.bool _=>true
 | .str,.str _=>true
 | .bool,.bool _=>true
 | .list,.list _=>true
 | .tuple,.tuple _=>true
 | _,_=>false
noncomputable def A2f:t6->String
 | .none => "NoneType"
 | .bool _ => "bool"
 | .int _ => "int"
 | .str _ => "str"
 | .list _ => "list"
 | .tuple _ => "tuple"
 | .dict _ => "dict"
theorem A0t (s:Same Hf H) (h:RdV Hf H d v):O8 H v=some (A2f d):=by
 cases d with
 | none=>cases Qt h;rfl
 | bool b=>cases Qu h;rfl
 | int i=>cases Dh h;rfl
 | str x=>cases G9 h;rfl
 | list c=>obtain⟨a,f,rfl,e,_⟩:=Fz h;exact By2 e
 | tuple c=>obtain⟨a,f,rfl,e,_⟩:=Ja s h;exact B0u e
 | dict k=>trivial
theorem Ay6 (h:RdV Hf H d v) (T:Ty5):Eg (A2f d) T.nm=some (Uq T d):=by
 cases d with
 | none=>cases T <;> first | exact Ul | exact Uo | exact T3 | exact Sh | exact Rb
 | bool b=>cases T <;> first | exact Ap7 | exact Aj0 | exact Ac9 | exact Z8 | exact Yg
 | int i=>cases T <;> first | exact Ay4 | exact Ay3 | exact Aq5 | exact Ak9 | exact Z7
 | str x=>cases T <;> first | exact Au3 | exact Au6 | exact Ap6 | exact Ar1 | exact Ac6
 | list a=>cases T <;> first | exact Al9 | exact Ao7 | exact Ag1 | exact Ae0 | exact Yx
 | tuple a=>cases T <;> first | exact Af8 | exact Aa1 | exact Yc | exact Yt | exact X7
 | dict k=>exact(h).elim
def cUn (op:t6->m5)(f:n7):n7:=λc=>(f c).bind λp c=>match Ds c (nrm p) with
 | some d=>match op d with
  | some o=>.ok (.o o) c
  | none=>.bad
 | none=>.bad
def UnS (K:v9)(r:V->Hp->VK->Prop)(op:t6->m5):Prop:=∀(Hf H:Hp) (x:V) (d:t6) (o:O) (Q:VK),Same Hf H->RdV Hf H d x->op d=some o->New K Hf H o Q->r x H Q
theorem Y0 (h:ME K t f) (hr:UnS K r op):ME K (tUn r t) (cUn op f):=by
 intro u W c m Q R s
 refine h.toV _ W c _ _ R (s.bnd.mono λp j a v w e b k=>?_)
 cases ex:Ds j (nrm p) with
 | none=>simp only[ex]at a;trivial
 | some d =>
  simp only[ex]at a
  cases eo:op d with
  | none=>simp only[eo]at a;trivial
  | some o =>
   simp only[eo]at a
   exact hr _ _ v d o Q b.sub (Gj b k ex) eo (New.of b λv n q i l g=>a v _ _ (e.trans i) l g)
theorem El (h:ME K t f) (hr:UnS K (λx H Q=>r [x] H Q) op):ME K (tCB r (Bv t Fb)) (cUn op f):=Y0 h hr
def Hs (T:Ty5)(d:t6):m5:=some (.im (.bool (Uq T d)))
def Pn (T1 T2:Ty5)(d:t6):m5:=some (.im (.bool (Uq T1 d||Uq T2 d)))
theorem B3r (T:Ty5) (h:ME K t f):ME K (tCB (Qi K) (Bv t (Bv (tC (.ty T.nm)) Fb))) (cUn (Hs T) f) :=
 Y0 h λa H x d o Q s r e n=>by
  cases e
  exact⟨x,T.nm,A2f d,Uq T d,rfl,A0t s r,Ay6 r T,n.bl s⟩
theorem Bi3 (h1:Eg t A=some a) (h2:Eg t B=some b):La t [A,B]=some (a||b):=by
 unfold La;unfold La;unfold La
 grind
theorem Bj7 (g j:Ty5) (h:ME K t f):ME K (tCB (Jz K) (Bv t (Bv (A5o (Bv (tC (.ty g.nm)) (Bv (tC (.ty j.nm)) Fb))) Fb))) (cUn (Pn g j) f) :=
 Y0 (r:=λx H Q=>2<=sizeLine/\∀p,H p=none->Jz K _ _ Q) h λv H x d o Q s r e n=>by
  cases e
  refine⟨by decide,λp c=>⟨x,p,[g.nm,j.nm],A2f d,Uq _ d||Uq _ d,rfl,Aq,?_,Bi3 (Ay6 r _) (Ay6 r _),?_⟩⟩
  ·have l:Same _ (upd H p (.tup [.ty g.nm,.ty j.nm])):=Qy s c
   refine A0t l ?_
   cases d with
   | list u=>obtain⟨a,m,e,q,t⟩:=r;exact⟨a,m,e,Bl c _ _ q,t⟩
   | none=>exact r
   | bool b=>exact r
   | int i=>exact r
   | str z=>exact r
   | tuple u=>exact r
   | dict k=>exact r
  ·exact n _ _ _ [] ((Stp.newL s c).less λa z=>nomatch z) (Qy s c) ⟨rfl,rfl⟩
noncomputable def boolsOf:w5->Option (List Bool)
 | []=>some []
 | .bool b::r=>(boolsOf r).map (b::·)
 | _=>none
theorem Ah0:∀{ds:w5}{bs:List Bool}{vs:m6},boolsOf ds=some bs->TrL Hf ds vs->vs=bs.map V.bl
 | [],bs,vs,e,t=>by cases (show some []=some bs from e);exact t
 | .bool b::r,bs,_,e,⟨v,vr,rfl,h,t⟩=>by
  obtain⟨l,e1,rfl⟩:=aV.mp (show (boolsOf r).map (b::·)=some bs from e)
  cases (show v=.bl b from h)
  rw[Ah0 e1 t];rfl
 | .none::r,bs,_,e,_=>nomatch e
 | .int _::r,bs,_,e,_=>nomatch e
 | .str _::r,bs,_,e,_=>nomatch e
 | .list _::r,bs,_,e,_=>nomatch e
 | .tuple _::r,bs,_,e,_=>nomatch e
 | .dict _::r,bs,_,e,_=>nomatch e
def Aj3:t6->m5
 | .list ds=>(boolsOf ds).map λbs=>.im (.bool (bs.all id))
 | _=>none
theorem Bs0:UnS K (λx H Q=>Mu K [x] H Q) Aj3:=by
 intro Hf H x d o Q s r e n
 match d,r,e with
 | .list _,r,e =>
  obtain⟨c,f,rfl⟩:=aV.mp (show (boolsOf _).map _=some o from e)
  obtain⟨a,vs,rfl,b,t⟩:=Fz r
  exact⟨a,c,rfl,by rw[<- Ah0 f t];exact SqL.of b,n.bl s⟩
noncomputable def Lz:t6->m5
 | .int i=>some (.im (.int i))
 | .bool b=>some (.im (.int (if b then 1 else 0)))
 | _=>none
theorem Af3:UnS K (λx H Q=>Nr K [x] H Q) Lz:=by
 intro a H x d o Q s r e n
 match d,r,e with
 | .int i,r,e=>cases e;cases Dh r;exact .inl ⟨i,rfl,n.int s⟩
 | .bool b,r,e=>cases e;cases Qu r;exact .inr ⟨b,rfl,n.int s⟩
noncomputable def A0g:t6->m5
 | .int i=>some (.im (.int (if i<0 then -i else i)))
 | _=>none
theorem Bp4:UnS K (λx H Q=>Pr K [x] H Q) A0g:=by
 intro a H x d o Q s r e n
 match d,r,e with
 | .int i,r,e=>cases e;cases Dh r;exact⟨i,rfl,n.int s⟩
noncomputable def Bv6:t6->m5
 | .int i=>some (.im (.int (-i)))
 | _=>none
theorem A2q:UnS K (rU λi=>.int (-i)) Bv6:=by
 intro a H x d o Q s r e n
 match d,r,e with
 | .int i,r,e=>cases e;cases Dh r;exact⟨i,rfl,n.int s⟩
noncomputable def N7:t6->m5
 | .list ds=>some (.ls false ds)
 | .tuple ds=>some (.ls false ds)
 | _=>none
theorem Bb8:UnS K (λx H Q=>Jj K [x] H Q) N7:=by
 intro Hf H x d o Q s r e n
 match d,r,e with
 | .list _,r,e =>
  cases e
  obtain⟨a,c,rfl,f,t⟩:=Fz r
  exact⟨a,c,rfl,.inl (SqL.of f),λl b=>n.lst s t b⟩
 | .tuple _,r,e =>
  cases e
  obtain⟨a,c,rfl,f,t⟩:=Ja s r
  exact⟨a,c,rfl,.inr (SqT.of f),λl b=>n.lst s t b⟩
def B1q (K:v9):m6->Hp->VK->Prop:=λxs H Q=>(Xo K xs H Q\/Ar0 K xs H Q)\/Ui K xs H Q
noncomputable def isSeq:t6->Bool
 | .list _=>true
 | .tuple _=>true
 | _=>false
def Q6:t6->m5
 | .int i=>if i.natAbs.log2<1920 then some (.im (.str (toString i))) else none
 | .none=>some (.im (.str "None"))
 | .bool b=>some (.im (.str (if b then Str.ofString "True" else Str.ofString "False")))
 | .str x=>some (.im (.str x))
 | d=>if isSeq d&&(d.showable&&(!d.hasDict&&(decide (d.depth<=40)&&decide (d.shown.length<=sizeLine)))) then some (.im (.str d.shown)) else none
theorem Aa9:UnS K (λx H Q=>B1q K [x] H Q) Q6:=by
 intro h H x d o Q s r e n
 have c:∀d,RdV h H d x->(isSeq d=true->∃a,x=.ref a)->(if isSeq d&&(d.showable&&(!d.hasDict&&(decide (d.depth<=40)&&decide (d.shown.length<=sizeLine)))) then some (O.im (.str d.shown)) else none)=some o->B1q K [x] H Q:=λd r g e=>by
  split at e
  ·rename_i l
   simp at l
   cases e
   obtain⟨a,rfl⟩:=g l.1;exact .inl (.inr ⟨a,d,rfl,r.tr s,l.2.1,l.2.2.1,l.2.2.2.1,l.2.2.2.2,n.str s⟩)
  ·cases e
 match d,r,e with
 | .int i,r,e =>
  have e:(if i.natAbs.log2<1920 then some _ else none)=some o:=e
  split at e
  ·rename_i l
   cases e;cases Dh r;exact .inl (.inl ⟨i,rfl,l,n.str s⟩)
  ·cases e
 | .list _,r,e=>exact c _ r (λ_=>by obtain⟨b,f,e,_⟩:=Fz r;exact⟨b,e⟩) e
 | .tuple _,r,e=>exact c _ r (λ_=>by obtain⟨b,f,e,_⟩:=Ja s r;exact⟨b,e⟩) e
 | .none,r,e=>cases e;cases Qt r;exact .inr ⟨_,_,rfl,rfl,n.str s⟩
 | .bool b,r,e=>cases e;cases Qu r;exact .inr ⟨_,_,rfl,rfl,n.str s⟩
 | .str z,r,e=>cases e;cases G9 r;exact .inr ⟨_,_,rfl,rfl,n.str s⟩
 | .dict _,r,e=>exact c _ r (λz=>nomatch z) e
noncomputable def Az1:t6->t6->m5
 | .int i,.int j=>some (.im (.int (if j<i then j else i)))
 | _,_=>none
theorem A1s {c d:TE} (ha:ME K c fa) (hb:ME K d fb):ME K (tCB (Nh K) (Bv c (Bv d Fb))) (cOp Az1 fa fb) :=
 Cv ha hb λh H x y g f o Q s a b e n=>by
  match g,f,a,b,e with
  | .int i,.int j,a,b,e=>cases e;cases Dh a;cases Dh b;exact⟨i,j,rfl,n.int s⟩
def MO (K:v9)(T:TO)(f:Ev->R (q9)):Prop:=∀(β:Nat->V) (W:Wo) (c:Ev) (σ:St) (Q:q9->Hp->Prop),Rep K β W c σ ->
 (f c).sat (λb c'=>∀W',Stp W.S W.Hf W.H W'.S W'.Hf W'.H->Rep K β W' c' σ->Q b W'.H)->T σ W.H Q
noncomputable def cON:Ev->R (q9):=λc=>.ok none c
theorem Bu6:MO K A2o cON:=λb W c a Q R s=>s W Stp.refl R
def cOS (f:n7):Ev->R (q9):=λc=>(f c).bind λp c=>match Ds c (nrm p) with
 | some (.int i)=>.ok (some i) c
 | _=>.bad
theorem Bi5 (h:ME K t f):MO K (Bw4 t) (cOS f):=by
 intro g W c k Q R s
 refine h.toV _ W c _ _ R (s.bnd.mono λp l a v j b d e=>?_)
 match ex:Ds _ _,a with
 | some (.int i),a=>exact⟨i,Dh (Gj d e ex),a _ b d⟩
 | some .none,a=>exact a.elim
 | some (.bool _),a=>exact a.elim
 | some (.str _),a=>exact a.elim
 | some (.list _),a=>exact a.elim
 | some (.tuple _),a=>exact a.elim
 | some (.dict _),a=>exact a.elim
 | none,a=>exact a.elim
def SlS (K:v9)(r:V->q9->q9->Hp->VK->Prop)(op:t6->q9->q9->m5):Prop:=∀(Hf H:Hp) (x:V) (lo hi:q9) (d:t6) (o:O) (Q:VK),Same Hf H->RdV Hf H d x->op d lo hi=some o->New K Hf H o Q->r x lo hi H Q
def cSl (op:t6->q9->q9->m5)(f:n7)(fl fh:Ev->R (q9)):n7:=λc=>(f c).bind λp c=>(fl c).bind λlo c=>(fh c).bind λhi c=>match Ds c (nrm p) with
 | some d=>match op d lo hi with
  | some o=>.ok (.o o) c
  | none=>.bad
 | none=>.bad
theorem B5q (h:ME K j f) (hl:MO K l k) (u:MO K m n) (hr:SlS K r op):ME K (tSl r j l m) (cSl op f k n):=by
 intro P W c G Q R s
 refine h.toV _ W c _ _ R (s.bnd.mono λp I D v N g w x=>?_)
 refine hl _ _ _ _ _ w (D.bnd.mono λz F A J a B=>?_)
 refine u _ _ _ _ _ B (A.bnd.mono λt y b H e i=>?_)
 cases ex:Ds y (nrm p) with
 | none=>simp only[ex]at b;trivial
 | some d =>
  simp only[ex]at b
  cases eo:op d z t with
  | none=>simp only[eo]at b;trivial
  | some o =>
   simp only[eo]at b
   exact hr _ _ v _ _ d o Q i.sub (Gj i (RepA.same (a.trans e).fz x) ex) eo (New.of i λv L M C E q=>b v _ _ (g.trans (a.trans (e.trans C))) E q)
end
section
variable {K:v9}{X:Cx}{Hf H:Hp}{Q:VK}{β:Nat->V}{W:Wo}{c c':Ev}{σ:St}{v:V}
def rSL (K:v9):V->q9->q9->Hp->VK->Prop:=λx lo hi H Q=>(B6t K x lo hi H Q\/(B5o K x lo hi H Q\/Bx6 K x lo hi H Q))\/B6i x lo hi H Q
theorem By5:SlR X (rSL X.K):=SlR.or (SlR.or Bq0 (SlR.or Bz4 Bt2)) B2b
def Yv:t6->q9->q9->m5
 | .list ds,lo,hi=>some (.ls false (cutD ds lo hi))
 | .tuple ds,lo,hi=>some (.im (.tuple (cutD ds lo hi)))
 | .str z,lo,hi=>if z.length<=16000000 then some (.im (.str (Txt.slice z lo hi))) else none
 | _,_,_=>none
theorem Bp1:SlS K (rSL K) Yv:=by
 intro Hf H x f c d o Q s r e n
 match d,r,e with
 | .list ds,r,e =>
  cases e
  obtain⟨a,b,rfl,g,t⟩:=Fz r
  exact .inl (.inl ⟨a,b,rfl,SqL.of g,λp h=>n.lst s (TrL.cut t) h⟩)
 | .str z,r,e =>
  by_cases hz:z.length<=16000000
  ·rw[show Yv (.str z) f c=some (.im (.str (Txt.slice z f c))) by simp only[Yv];rw[if_pos hz]]at e
   cases e
   exact .inr ⟨z,r,ao hz (by decide),n.same s rfl⟩
  ·rw[show Yv (.str z) f c=none by simp only[Yv];rw[if_neg hz]]at e;cases e
 | .tuple ds,r,e =>
  cases e
  obtain⟨a,b,rfl,g,t⟩:=Ja s r
  by_cases w:HT.sIx b.length 0 f=0/\HT.sIx b.length b.length c=b.length
  ·refine .inl (.inr (.inr ⟨a,b,rfl,SqT.of g,w,?_⟩))
   have e:cutD ds f c=ds:=by
    unfold cutD;rw[t.length,w.1,w.2,gZ,fu,<- t.length,du]
   rw[e]at n;exact n.same s r
  ·exact .inl (.inr (.inl ⟨a,b,rfl,SqT.of g,w,λp h=>n.tup s (TrL.cut t) h⟩))
def Bc (f:n7):n6:=λc=>(f c).bind λp c=>match Ds c (nrm p) with
 | some (.bool b)=>.ok b c
 | _=>.bad
theorem Il (h:ME K t f):MT K (O6 t) (Bc f):=by
 intro g W c k Q R s
 refine h.toV _ W c _ _ R (s.bnd.mono λp l a v j b d e=>?_)
 match ex:Ds _ _,a with
 | some (.bool i),a=>exact⟨i,Qu (Gj d e ex),a _ b d⟩
 | some .none,a=>exact a.elim
 | some (.int _),a=>exact a.elim
 | some (.str _),a=>exact a.elim
 | some (.list _),a=>exact a.elim
 | some (.tuple _),a=>exact a.elim
 | some (.dict _),a=>exact a.elim
 | none,a=>exact a.elim
theorem At9 (h:ME K t f):MT K (tB t) (Bc f):=Il h
noncomputable def Bj:n6:=λc=>.ok true c
theorem Pz:MT K Bm9 Bj:=λb W c a Q R s=>s W Stp.refl R
def cOr (f g:n6):n6:=λc=>(f c).bind λb c=>if b=true then .ok true c else g c
def A3z (f:n6):n6:=λc=>(f c).bind λb c=>.ok (!b) c
theorem Bd1 (h1:MT K t f) (h2:MT K u g):MT K (tOr t u) (cOr f g):=λn W c p Q R s =>
 h1 _ W c _ _ R (s.bnd.mono λb l h k a e=>by
  cases b with
  | false=>exact h2 _ _ _ _ _ e (h.mono λb m j o d i=>j _ (a.trans d) i)
  | true=>exact h _ a e)
theorem Ad8 (h1:MT K t f):MT K (B6b t) (A3z f):=λh W c g Q R s =>
 h1 _ W c _ _ R (s.bnd.mono λb j e i a d=>e _ a d)
theorem A2n {d:Wo}(R:Rep K β W c σ) (st:Stp d.S d.Hf d.H W.S W.Hf W.H) (s:∀v a e,Stp d.S d.Hf d.H (orS a.S e) a.Hf a.H->Rep K β a c σ->Dz K a σ (.o (.im (.bool b))) v e->Q v a.H):Q (.bl b) W.H :=
 R.here (o:=.im (.bool b)) rfl rfl λv a e f g r=>s v _ _ (st.trans f) g r
def Vk (f g:n7):n7:=λc=>(Bc f c).bind λb c=>if b=true then g c else .ok (.o (.im (.bool false))) c
def A7w (f:n7):n7:=λc=>(Bc f c).bind λb c=>.ok (.o (.im (.bool (!b)))) c
def Nx (ft:n6)(f g:n7):n7:=λc=>(ft c).bind λb c=>if b=true then f c else g c
theorem Xr {r:U.R PV}{b:Wo}(s:r.sat λp c'=>∀v a d,Stp b.S b.Hf b.H (orS a.S d) a.Hf a.H->Rep K β a c' σ->Dz K a σ p v d->Q v a.H)(st:Stp b.S b.Hf b.H W.S W.Hf W.H) :
 r.sat λp c'=>∀v a d,Stp W.S W.Hf W.H (orS a.S d) a.Hf a.H->Rep K β a c' σ->Dz K a σ p v d->Q v a.H:=s.mono λp c k v a d e R r=>k v _ _ (st.trans e) R r
theorem Bm0 (h1:ME K h f) (h2:ME K e g):ME K (Bw9 h e) (Vk f g):=by
 intro k W c j Q R s
 refine Il h1 _ W c _ _ R (s.bnd.mono λb m i l a d=>?_)
 cases b with
 | true=>exact h2 _ _ _ _ _ d (Xr i a)
 | false=>exact A2n d a i
theorem Br7 (h1:ME K d f):ME K (Bv4 d) (A7w f):=by
 intro k W c h Q R s
 exact Il h1 _ W c _ _ R (s.bnd.mono λb i g j a e=>A2n e a g)
theorem Aw6 (ht:MT K i ft) (h1:ME K e f) (h2:ME K h g):ME K (tIf i e h) (Nx ft f g):=by
 intro l W c k Q R s
 refine ht _ W c _ _ R (s.bnd.mono λb n j m a d=>?_)
 cases b with
 | true=>exact h1 _ _ _ _ _ d (Xr j a)
 | false=>exact h2 _ _ _ _ _ d (Xr j a)
def Bg (f:n7):Ev->R (w5):=λc=>(f c).bind λp c=>(frz (nrm p) c).bind λd c=>match d with
 | .list ds=>.ok ds c
 | .tuple ds=>.ok ds c
 | _=>.bad
theorem Bi6 (ha:Hf a=some (.lst vs)) (t:TrL Hf ds vs):A3n (Itl K a) Hf ds:=by
 intro i c H f g;have b:=g _ _ (f _ _ ha)
 refine⟨λe=>⟨vs,SqL.of b,by rw[<- t.length];lia⟩,λd j=>?_⟩
 obtain⟨v,h,k⟩:=t.got j
 refine⟨⟨vs,v,SqL.of b,h⟩,λx l ⟨e,q⟩=>?_⟩
 subst e;have:=q _ (SqL.of b);rw[h]at this
 cases this
 exact⟨c,Stp.refl,g,Tr.same f k⟩
theorem B1x (ha:Hf a=some (.tup vs)) (t:TrL Hf ds vs):A3n (Itt K a) Hf ds:=by
 intro i c H f g;have b:=g _ _ (f _ _ ha)
 refine⟨λe=>⟨vs,SqT.of b,by rw[<- t.length];lia⟩,λd j=>?_⟩
 obtain⟨v,h,k⟩:=t.got j
 refine⟨⟨vs,v,SqT.of b,h⟩,λx l ⟨e,q⟩=>?_⟩
 subst e;have:=q _ (SqT.of b);rw[h]at this
 cases this
 exact⟨c,Stp.refl,g,Tr.same f k⟩
theorem Ka (h:ME K t f):MI K (B2d K t) (Bg f):=by
 intro w W c B k R s
 refine h.toV _ W c _ _ R (s.bnd.mono λp A r v x l u q=>?_)
 obtain⟨d,y,z,_,b,o,i,m,e⟩:=Eu u q r.bnd;rw[<- o]
 match d,e,b with
 | .list _,e,b =>
  obtain⟨a,n,g,j,t⟩:=e;exact⟨a,g,.inl ⟨n,m.sub _ _ j,b _ _ (l.trans i) m (Bi6 j t)⟩⟩
 | .tuple _,e,b =>
  obtain⟨a,n,g,j,t⟩:=e;exact⟨a,g,.inr ⟨n,m.sub _ _ j,b _ _ (l.trans i) m (B1x j t)⟩⟩
 | .none,e,b=>exact b.elim
 | .bool _,e,b=>exact b.elim
 | .int _,e,b=>exact b.elim
 | .str _,e,b=>exact b.elim
 | .dict _,e,b=>trivial
noncomputable def Kr (lo:Int) (n:Nat):w5:=(List.range n).map λk=>.int (lo+(k:Nat))
theorem B1o : A3n (Itr lo n) Hf (Kr lo n):=by
 intro i b H g f
 have l:(Kr lo n).length=n:=by unfold Kr;simp_all
 refine⟨λe=>by show n<=i;lia,λd a=>?_⟩
 have c:i<n:=by
  grind
 refine⟨c,λx h ⟨e,q⟩=>?_⟩
 subst e;unfold Kr at a;rw[bK,jK c]at a
 cases a
 exact⟨b,Stp.refl,f,q⟩
def Mz (f:n7):Ev->R (w5):=λc=>(f c).bind λp c=>match Ds c (nrm p) with
 | some (.int j)=>if j<=16000000/\-16000000<=j then .ok (Kr 0 j.toNat) c else .bad
 | _=>.bad
theorem Ah5 (h:ME K t f):MI K (Bx4 (Bv t Fb)) (Mz f):=by
 intro g W c m k R s
 refine h.toV _ W c _ _ R (s.bnd.mono λp n a v i b d e=>?_)
 match ex:Ds _ _,a with
 | some (.int j),a =>
  cases Dh (Gj d e ex)
  by_cases l:j<=16000000/\-16000000<=j
  ·have a:(if j<=16000000/\-16000000<=j then U.R.ok _ _ else .bad).sat _:=a
   rw[if_pos l]at a
   exact⟨j,rfl,by lia,by lia,a _ _ b d B1o⟩
  ·have a:(if j<=16000000/\-16000000<=j then U.R.ok _ _ else .bad).sat _:=a
   rw[if_neg l]at a;trivial
 | some .none,a=>exact a.elim
 | some (.bool _),a=>exact a.elim
 | some (.str _),a=>exact a.elim
 | some (.list _),a=>exact a.elim
 | some (.tuple _),a=>exact a.elim
 | some (.dict _),a=>exact a.elim
 | none,a=>exact a.elim
noncomputable def Ac4 (d:Option t6):q9:=match d with
 | some (.int i)=>some i
 | _=>none
theorem Ah4 (h:Ac4 d=some i):d=some (.int i):=by
 unfold Ac4 at h
 grind
noncomputable def Ke:t6->Option (w5)
 | .list ds=>some ds
 | .tuple ds=>some ds
 | _=>none
theorem V2 (h:Ke d=some ds) (t:Tr Hf d v):∃b a c,v=.ref a/\SqK b Hf a c/\TrL Hf ds c:=by
 cases d with
 | list l=>cases h;obtain⟨a,c,e,f,t⟩:=t;exact⟨false,a,c,e,f,t⟩
 | tuple l=>cases h;obtain⟨a,c,e,f,t⟩:=t;exact⟨true,a,c,e,f,t⟩
 | none=>cases h
 | bool _=>cases h
 | int _=>cases h
 | str _=>cases h
 | dict _=>cases h
theorem Fl {c:Hp}(S:Same Hf c) (h:SqK b Hf a vs):SqK b c a vs:=by
 cases b
 ·exact S _ _ h
 ·exact S _ _ h
noncomputable def Gw (xs ys:w5):w5:=(xs.zip ys).map λp=>.tuple [p.1,p.2]
theorem By6 (ha:SqK t1 Hf a vs) (hb:SqK t2 Hf b us) (t:TrL Hf xs vs) (u:TrL Hf ys us):A3n (Itz t1 t2 a b) Hf (Gw xs ys):=by
 intro i B H j f;have m:=Fl (j.trans f) ha;have k:=Fl (j.trans f) hb
 have l:(Gw xs ys).length=min xs.length ys.length:=by unfold Gw;simp_all
 refine⟨λe=>⟨vs,us,m,k,by rw[<- t.length,<- u.length,e];lia⟩,λd x=>?_⟩
 obtain⟨p,n,e⟩:=Ew x;rw[jt]at n;obtain⟨h,r,v⟩:=t.got n.1;obtain⟨c,s,w⟩:=u.got n.2
 refine⟨⟨vs,us,h,c,m,k,r,s⟩,λz H' y=>?_⟩
 obtain⟨p,x',y',rfl,g,rfl,A,C⟩:=y;have:=A _ m;rw[r]at this;cases this;have:=C _ k;rw[s]at this;cases this;subst e;have q:=Bl (o:=.tup [h,c]) (Same.free f g);exact⟨upd _ p _,Stp.newF f g,Ij f,p,[h,c],rfl,Aq,h,[c],rfl,Tr.same q (Tr.same j v),c,[],rfl,Tr.same q (Tr.same j w),rfl⟩
def Uu (f g:n7):Ev->R (w5):=λc=>(f c).bind λp c=>(g c).bind λq c=>(frz (nrm p) c).bind λx c=>(frz (nrm q) c).bind λy c=>match Ke x,Ke y with
 | some xs,some ys=>.ok (Gw xs ys) c
 | _,_=>.bad
theorem B2z (h:ME K t f) (h':ME K u g):MI K (B5w (Bv t (Bv u Fb))) (Uu f g):=by
 intro β W c σ k R s
 refine h.toV _ W c _ _ R (s.bnd.mono λp c1 G v1 W1 l P v=>?_)
 refine h'.toV _ _ _ _ _ P (G.bnd.mono λq c2 w v2 W2 i A B=>?_)
 obtain⟨x,c3,W3,_,C,D,e,E,F⟩:=Eu A (RepA.same i.fz v) w.bnd;obtain⟨y,c4,W4,_,j,r,d,m,I⟩:=Eu E (RepA.same e.fz B) C.bnd
 cases ex:Ke x with
 | none=>simp only[ex]at j;trivial
 | some xs =>
  cases ey:Ke y with
  | none=>simp only[ex,ey]at j;trivial
  | some ys =>
   simp only[ex,ey]at j;obtain⟨J,a,L,rfl,H,N⟩:=V2 ex F;obtain⟨M,b,O,rfl,n,o⟩:=V2 ey I;rw[<- D,<- r];have z:=Fl d.fz H;exact⟨a,b,rfl,J,M,L,O,Fl m.sub z,Fl m.sub n,j _ _ (l.trans (i.trans (e.trans d))) m (By6 z n (TrL.same d.fz N) o)⟩
noncomputable def Pb (xs:w5):w5:=(List.range xs.length).map λk=>.tuple [.int (k:Nat),xs.getD k .none]
theorem Bl0 (ha:SqK t Hf a vs) (u:TrL Hf xs vs):A3n (Ite t a) Hf (Pb xs):=by
 intro i v H j f;have h:=Fl (j.trans f) ha
 have l:(Pb xs).length=xs.length:=by unfold Pb;simp_all
 refine⟨λe=>⟨vs,h,by rw[<- u.length];lia⟩,λd g=>?_⟩
 have n:i<xs.length:=by
  grind
 unfold Pb at g;rw[bK,jK n]at g
 cases g
 have q:xs[i]?=some (xs.getD i .none):=by grind
 obtain⟨b,k,r⟩:=u.got q
 refine⟨⟨vs,b,h,k⟩,λz H' s=>?_⟩
 obtain⟨p,x',rfl,c,rfl,m⟩:=s;have:=m _ h;rw[k]at this;cases this;exact⟨upd _ p _,Stp.newF f c,Ij f,p,[.int i,b],rfl,Aq,.int i,[b],rfl,rfl,b,[],rfl,Tr.same (Bl (o:=.tup [.int i,b]) (Same.free f c)) (Tr.same j r),rfl⟩
def A0m (f:n7):Ev->R (w5):=λc=>(f c).bind λp c=>(frz (nrm p) c).bind λx c=>match Ke x with
 | some xs=>.ok (Pb xs) c
 | _=>.bad
theorem Bs4 (h:ME K t f):MI K (Bw3 (Bv t Fb)) (A0m f):=by
 intro β W c σ k R s
 refine h.toV _ W c _ _ R (s.bnd.mono λp c1 u v1 W1 e n q=>?_)
 obtain⟨x,c3,W3,_,b,l,d,g,o⟩:=Eu n q u.bnd
 cases ex:Ke x with
 | none=>simp only[ex]at b;trivial
 | some xs =>
  simp only[ex]at b;obtain⟨m,a,r,rfl,i,j⟩:=V2 ex o;rw[<- l];exact⟨a,rfl,m,r,Fl g.sub i,b _ _ (e.trans d) g (Bl0 i j)⟩
end
section
variable {K:v9}{X:Cx}{Hf H:Hp}{Q:VK}{β:Nat->V}{W W':Wo}{c:Ev}{σ:St}{v:V}{p:PV}{fp:v6}{i:Nat}{b:Bool}{ds:w5}
theorem B0d (R:Rep K β W c σ)(r:Dz K W σ p v fp):∃W',W'.H=W.H/\Stp (orS W.S fp) W.Hf W.H W'.S W'.Hf W'.H/\Rep K β W' c σ/\RepA K W'.Hf σ (nrm p) v:=by
 have f:Stp (orS W.S fp) W.Hf W.H _ _ _:=Stp.refl.up λa z=>.inl z
 cases p with
 | sl i=>exact⟨W,rfl,f,R,r.2⟩
 | o o =>
  cases o with
  | im d=>exact⟨W,rfl,f,R,r.1.2⟩
  | sc d=>exact⟨W,rfl,f,R,r.1.2⟩
  | ty d=>exact⟨W,rfl,f,R,r.1.2⟩
  | ls b ds =>
   obtain⟨⟨a,h,rfl,rfl,g,j,t⟩,l⟩:=r
   refine⟨⟨upd _ a _,W.H,W.fps⟩,rfl,⟨Bl g,λb o e _=>e,λb o e mu n q=>?_,λb z=>.inl (.inl z)⟩,Ab7 R g j (l a (.head _)),a,h,rfl,Aq,TrL.same (Bl g) t⟩
   have k:b≠a:=λz=>n (.inr (by grind))
   show upd _ a _ b=none
   rw[Ag k];grind
theorem Rep.mut (R:Rep K β W c σ)(hc:c[i]?=some (some (.ls b ds)))(hv:σ[i]?=some (some v)):∃a h,v=.ref a/\W.H a=some (.lst h)/\TrL W.Hf ds h /\
 ∀f d,TrL W.Hf f d->Rep K β ⟨W.Hf,upd W.H a (.lst d),W.fps⟩ (c.set i (some (.ls b f))) σ/\Stp W.S W.Hf W.H W.S W.Hf (upd W.H a (.lst d)):=by
 obtain⟨m,p,⟨a,h,rfl,w,A,H,t⟩,B⟩:=R.get i _ hc
 cases (show some _=some _ from p.symm.trans hv)
 have D:i<c.length:=by
  grind
 have s:a∈W.fps i:=by rw[w];exact .head _
 refine⟨a,h,rfl,H,t,λf d F=>⟨⟨λb u e=>?_,by rw[bQ];exact R.len,λj o e=>?_,R.dis,λj x g=>?_⟩,⟨Same.refl _,λx o e n=>?_,λx o e r n q=>q,λx z=>.inl z⟩⟩⟩
 ·have E:b≠a:=λz=>by rw[z,A]at e;cases e
  show upd _ a _ b=_
  rw[Ag E];exact R.sub b u e
 ·by_cases z:j=i
  ·subst z
   rw[cA D]at e
   cases e
   exact⟨.ref a,p,⟨a,d,rfl,w,A,Aq,F⟩,B⟩
  ·rw[cj λy=>z y.symm]at e
   obtain⟨m,k,G,l⟩:=R.get j o e
   refine⟨m,k,G.mono (Same.refl _) λx g=>⟨(R.own j x g).1,?_⟩,l⟩
   show upd _ a _ x=_
   rw[Ag];intro q;rw[q]at g;exact z (R.dis j i a g s)
 ·obtain⟨I,o,C,r⟩:=R.own j x g
  refine⟨I,?_⟩
  by_cases z:x=a
  ·exact⟨.lst _,by rw[z];exact Aq,trivial⟩
  ·exact⟨o,by show upd _ a _ x=_;rw[Ag z];exact C,r⟩
 ·rw[Ag]
  ·exact e
  ·intro z;exact n ⟨i,by rw[z];exact s⟩
noncomputable def slL (c:Ev) (p:PV):Option (Nat×Bool×w5):=match p with
 | .sl i=>match c[i]? with
  | some (some (.ls b ds))=>some (i,b,ds)
  | _=>none
 | _=>none
theorem Wl (h:slL c p=some x):p=.sl x.1/\c[x.1]?=some (some (.ls x.2.1 x.2.2)):=by
 unfold slL at h
 grind
def S5 (fo fe:n7):n7:=λc=>(fo c).bind λp c=>if (slL c (nrm p)).isSome=true then (fe c).bind λq c=>(frz (nrm q) c).bind λd c=>match slL c (nrm p) with
 | some (i,b,ds)=>if ds.length<16000000 then .ok (.o (.im .none)) (c.set i (some (.ls b (ds++[d])))) else .bad
 | none=>.bad
 else .bad
theorem Ai5 {b:Wo}(R:Rep K β W c σ)(st:Stp b.S b.Hf b.H W.S W.Hf W.H)(s:∀v a d,Stp b.S b.Hf b.H (orS a.S d) a.Hf a.H->Rep K β a c σ->Dz K a σ (.o (.im .none)) v d->Q v a.H):Q .non W.H :=
 R.here (o:=.im .none) rfl rfl λv a d e f r=>s v _ _ (st.trans e) f r
theorem ty_list (R:Rep K β W c σ)(h:(slL c p).isSome=true)(r:RepA K W.Hf σ p v):tyV K "list" v W.H:=by
 obtain⟨x,d⟩:=Option.isSome_iff_exists.mp h;obtain⟨rfl,e⟩:=Wl d;obtain⟨a,f,rfl,b,_⟩:=R.mut e r;exact .inl ⟨rfl,f,SqL.of b⟩
theorem A8r {v fe:n7}(ho:ME K u v) (he:ME K o fe):ME K (tBM K "list" rAppF u (Bv o Fb)) (S5 v fe):=by
 intro β W c σ Q R s
 refine ho.toV _ W c _ _ R (s.bnd.mono λp y f v1 W1 h r j=>?_)
 by_cases hs:(slL y (nrm p)).isSome=true
 ·rw[if_pos hs]at f
  refine⟨ty_list r hs j,he.toV _ _ _ _ _ r (f.bnd.mono λq c2 D H W2 m z w=>?_)⟩
  obtain⟨d,A,W3,_,e,C,n,E,F⟩:=Eu z w D.bnd
  cases ex:slL A (nrm p) with
  | none=>simp only[ex]at e;exact e.elim
  | some x =>
   simp only[ex]at e;obtain⟨i,b,G⟩:=x;obtain⟨B,I⟩:=Wl ex;rw[B]at j;obtain⟨a,J,rfl,L,t,k⟩:=E.mut I j
   by_cases l:G.length<16000000
   ·rw[if_pos l]at e
    obtain⟨M,g⟩:=k _ _ (t.app (TrL.one F));rw[<- C]
    refine⟨a,H,J,rfl,rfl,L,by rw[<- t.length];exact gQ l (by decide),?_⟩
    exact Ai5 M (h.trans (m.trans (n.trans g))) e
   ·rw[if_neg l]at e;exact e.elim
 ·rw[if_neg hs]at f;exact f.elim
def Vi (fo fe:n7):n7:=λc=>(fo c).bind λp c=>if (slL c (nrm p)).isSome=true then (fe c).bind λq c=>match slL c (nrm p),Ac4 (Ds c (nrm q)) with
 | some (i,b,ds),some k=>if ds.length<=16000000 then match ixN ds.length k with
  | some j=>match ds[j]? with
   | some d=>.ok (.o (.im d)) (c.set i (some (.ls b (ds.eraseIdx j))))
   | none=>.bad
  | none=>.bad
  else .bad
 | _,_=>.bad
 else .bad
theorem TrL.erase:∀{ds:w5}{vs:m6}(n:Nat),TrL Hf ds vs->TrL Hf (ds.eraseIdx n) (vs.eraseIdx n)
 | [],_,n,h=>by cases (show _=[] from h);exact rfl
 | d::ds,_,0,⟨v,r,rfl,_,t⟩=>t
 | d::ds,_,n+1,⟨v,r,rfl,q,t⟩=>⟨v,r.eraseIdx n,rfl,q,TrL.erase n t⟩
theorem TrL.setAt:∀{ds:w5}{vs:m6}(n:Nat) {d:t6}{v:V},TrL Hf ds vs->Tr Hf d v->TrL Hf (ds.set n d) (vs.set n v)
 | [],_,n,d,v,h,_=>by cases (show _=[] from h);exact rfl
 | e::ds,_,0,d,v,⟨u,r,rfl,_,t⟩,q=>⟨v,r,rfl,q,t⟩
 | e::ds,_,n+1,d,v,⟨u,r,rfl,h,t⟩,q=>⟨u,r.set n v,rfl,h,TrL.setAt n t q⟩
theorem A9a (ho:ME K z G) (he:ME K F fe):ME K (tBM K "list" rPopAt z (Bv F Fb)) (Vi G fe):=by
 intro B W c H Q R s
 refine ho.toV B W c H _ R (s.bnd.mono λp O g v1 W1 n A w=>?_)
 by_cases hs:(slL O (nrm p)).isSome=true
 ·rw[if_pos hs]at g
  refine⟨ty_list A hs w,he.toV B _ _ _ _ A (g.bnd.mono λq D e v2 W2 h E I=>?_)⟩
  cases ex:slL D (nrm p) with
  | none=>simp only[ex]at e;exact e.elim
  | some x =>
   obtain⟨i,b,l⟩:=x
   cases ey:Ac4 (Ds D (nrm q)) with
   | none=>simp only[ex,ey]at e;exact e.elim
   | some k =>
    simp only[ex,ey]at e
    by_cases hl:l.length<=16000000
    case neg=>rw[if_neg hl]at e;exact e.elim
    rw[if_pos hl]at e
    cases ej:ixN l.length k with
    | none=>simp only[ej]at e;exact e.elim
    | some j =>
     simp only[ej]at e
     cases ed:l[j]? with
     | none=>simp only[ed]at e;exact e.elim
     | some d =>
      simp only[ed]at e;obtain⟨L,N⟩:=Wl ex;rw[L]at w
      cases Dh (Gj E I (Ah4 ey))
      obtain⟨a,C,rfl,P,t,S⟩:=E.mut N w;obtain⟨y,M,U⟩:=t.got ed;obtain⟨T,q2,q3,q4⟩:=Aa7 ej;obtain⟨V,m⟩:=S _ _ (TrL.erase j t)
      have u:seqIndex? k C.length=some j:=by rw[<- t.length];exact T
      have f:-2 ^ 63<=k/\k<2 ^ 63:=by lia
      refine⟨a,C,k,j,y,rfl,rfl,P,f.1,f.2,u,M,?_⟩
      exact V.here (o:=.im d) U rfl λv W' fp X J r=>e v _ _ (n.trans (h.trans (m.trans X))) J r
 ·rw[if_neg hs]at g;exact g.elim
def A4h (fo fe:n7):n7:=λc=>(fo c).bind λp c=>if (slL c (nrm p)).isSome=true then (fe c).bind λq c=>(frz (nrm q) c).bind λd c=>match slL c (nrm p),d with
 | some (i,b,ds),.list es=>if ds.length+es.length<=16000000 then .ok (.o (.im .none)) (c.set i (some (.ls b (ds++es)))) else .bad
 | _,_=>.bad
 else .bad
theorem B0l {to te:TE}{fo fe:n7}(ho:ME K to fo)(he:ME K te fe):ME K (tBM K "list" rExtend to (Bv te Fb)) (A4h fo fe):=by
 intro β W c σ Q R s
 refine ho.toV β W c σ _ R (s.bnd.mono λp c1 s1 v1 W1 st1 R1 r1=>?_)
 by_cases hs:(slL c1 (nrm p)).isSome=true
 ·rw[if_pos hs]at s1
  refine⟨ty_list R1 hs r1,he.toV β W1 c1 σ _ R1 (s1.bnd.mono λq c2 s2 v2 W2 st2 R2 r2=>?_)⟩
  obtain⟨d,c3,W3,_,s3,e3,st3,R3,t3⟩:=Eu R2 r2 s2.bnd
  cases ex:slL c3 (nrm p) with
  | none=>simp only[ex]at s3;exact s3.elim
  | some x =>
   obtain⟨i,b,ds⟩:=x;simp only[ex]at s3
   match d,t3,s3 with
   | .list es,t3,s3 =>
    obtain⟨ep,hc⟩:=Wl ex;rw[ep]at r1;obtain⟨a,vs,rfl,hH,t,k⟩:=R3.mut hc r1
    have s3:(if ds.length+es.length<=16000000 then U.R.ok (PV.o (.im .none)) (c3.set i (some (.ls b (ds++es)))) else .bad).sat _:=s3
    by_cases l:ds.length+es.length<=16000000
    ·rw[if_pos l]at s3
     obtain⟨b2,us,rfl,h2,t2⟩:=t3;obtain⟨R4,st4⟩:=k (ds++es) (vs++us) (t.app t2);rw[<- e3]
     refine⟨a,b2,vs,us,rfl,rfl,hH,R3.sub _ _ h2,by rw[<- t.length,<- t2.length];exact lim l,?_⟩
     exact Ai5 R4 (st1.trans (st2.trans (st3.trans st4))) s3
    ·rw[if_neg l]at s3;exact s3.elim
   | .none,t3,s3=>exact s3.elim
   | .bool _,t3,s3=>exact s3.elim
   | .int _,t3,s3=>exact s3.elim
   | .str _,t3,s3=>exact s3.elim
   | .tuple _,t3,s3=>exact s3.elim
   | .dict _,t3,s3=>exact s3.elim
 ·rw[if_neg hs]at s1;exact s1.elim
def A2u (fo fi:n7):o5:=λp c=>(frz (nrm p) c).bind λd c=>(fo c).bind λo c=>(fi c).bind λq c=>match slL c (nrm o),Ac4 (Ds c (nrm q)) with
 | some (i,b,ds),some k=>match ixN ds.length k with
  | some j=>.ok () (c.set i (some (.ls b (ds.set j d))))
  | none=>.bad
 | _,_=>.bad
theorem Bz3 (ho:ME K u A) (hi:ME K z fi):MG K (B6p u z Bw6) (A2u A fi):=by
 intro β W c σ p v fp k R r s;obtain⟨W0,M,l,C,F⟩:=B0d R r;obtain⟨d,c1,W1,_,D,E,n,G,I⟩:=Eu C F s.bnd;rw[<- M,<- E]
 refine ho.toV _ _ _ _ _ G (D.bnd.mono λo c2 J v2 W2 g L w=>?_)
 refine hi.toV _ _ _ _ _ L (J.bnd.mono λq y e v3 W3 f B N=>?_)
 cases ex:slL y (nrm o) with
 | none=>simp only[ex]at e;exact e.elim
 | some x =>
  obtain⟨i,b,O⟩:=x
  cases ey:Ac4 (Ds y (nrm q)) with
  | none=>simp only[ex,ey]at e;exact e.elim
  | some m =>
   simp only[ex,ey]at e
   cases ej:ixN O.length m with
   | none=>simp only[ej]at e;exact e.elim
   | some j =>
    simp only[ej]at e;obtain⟨H,Q⟩:=Wl ex;rw[H]at w
    cases Dh (Gj B N (Ah4 ey))
    obtain⟨a,S,rfl,P,t,T⟩:=B.mut Q w;obtain⟨U,h⟩:=T _ _ (TrL.setAt j t (Tr.same (g.trans f).fz I))
    refine⟨a,S,m,j,rfl,rfl,P,by rw[<- t.length];exact ej,?_⟩
    exact e _ _ (l.trans (n.trans (g.trans (f.trans h)))) U
def B1c (i j:Nat)(f:o_):Ev->SR:=λc=>(f c).toS λps c=>(frzs ps c).toS λds c=>match ds with
 | [x,y]=>.nx ((c.set i (some (.im x))).set j (some (.im y)))
 | _=>.bad
theorem A9j (h:Wo.S ⟨W.Hf,W.H,clr W.fps i⟩ a):W.S a:=By4 h
theorem B1a (h:MA K m f):MS K (B5n i j m) (B1c i j f):=by
 intro β W c σ D R l
 refine h _ W c _ _ R ((Ex l).mono λps c1 C vs W1 k t w=>?_)
 obtain⟨A,c2,n,b,s,g,q,d⟩:=Rm t w (Ex C)
 match A,d,b with
 | [x,y],d,b =>
  obtain⟨v,r,rfl,B,u,r',rfl,E,e⟩:=d
  cases (e)
  refine⟨v,u,rfl,?_⟩
  have p:=q.setN (i:=i) (o:=.im x) B rfl;rw[<- s]
  exact b _ ⟨n.Hf,n.H,clr _ j⟩ ((k.trans g).less λa z=>A9j (A9j z)) (p.setN (i:=j) (o:=.im y) E rfl)
 | [],d,b=>trivial
 | [_],d,b=>trivial
 | _::_::_::_,d,b=>exact b.elim
def Bb5 (i j m:Nat)(f:o_):Ev->SR:=λc=>(f c).toS λps c=>(frzs ps c).toS λds c=>match ds with
 | [x,y,z]=>.nx (((c.set i (some (.im x))).set j (some (.im y))).set m (some (.im z)))
 | _=>.bad
theorem Bu1 {i j m:Nat}{n:TA}{f:o_}(h:MA K n f):MS K (Bu9 i j m n) (Bb5 i j m f):=by
 intro β W c σ D R l
 refine h _ W c _ _ R ((Ex l).mono λps c1 s vs W1 k t A=>?_)
 obtain⟨B,c2,p,b,C,g,E,d⟩:=Rm t A (Ex s)
 match B,d,b with
 | [x,y,z],d,b =>
  obtain⟨v,r,rfl,G,u,r',rfl,F,w,H,rfl,I,e⟩:=d
  cases (e)
  refine⟨v,u,w,rfl,?_⟩
  have q:=(E.setN (i:=i) (o:=.im x) G rfl).setN (i:=j) (o:=.im y) F rfl;rw[<- C]
  exact b _ ⟨p.Hf,p.H,clr _ m⟩ ((k.trans g).less λa z=>A9j (A9j (A9j z))) (q.setN (i:=m) (o:=.im z) I rfl)
 | [],d,b=>trivial
 | [_],d,b=>trivial
 | [_,_],d,b=>trivial
 | _::_::_::_::_,d,b=>exact b.elim
end
end U
set_option autoImplicit true
namespace L2
open PySem U
theorem Bk (ha:QE X a ta)(hb:QE X b tb):QE X (.BinOp a .Add b pos) (tOp B2e ta tb):=⟨Xg B1v ha.get hb.get⟩
theorem Zy (hu:X.A.units+64<cLine)(ha:QE X a ta)(hb:QE X b tb):QE X (.Compare a [.Eq] [b] pos) (tOp rEQ ta tb):=⟨Ac2 (Bx1 hu) ha.get hb.get (M3 _)⟩
theorem Sg (hu:X.A.units+64<cLine)(ha:QE X a ta)(hb:QE X b tb):QT X (.Compare a [.Eq] [b] pos) (O6 (tOp rEQ ta tb)):=⟨Jq (Bx1 hu) ha.get hb.get (M3 _)⟩
theorem W9 (hu:X.A.units+64<cLine)(ha:QE X a ta)(hb:QE X b tb):QT X (.Compare a [.NotEq] [b] pos) (O6 (tOp rNE ta tb)):=⟨Jq (B4a hu) ha.get hb.get (M3 _)⟩
theorem Hx (a:X.K=Kq) (hgl:Gl X "len") (hm:X.mg "len" = none) (ha:QA X (e::es) t) (hns:noStar (e::es)=true:=by rfl):QE X (.Call (.Name "len" p) (e::es) [] pos) (tCB (Bq9 Kq) t):=by
 subst a
 exact⟨Gb A7s hgl hm B2i ha.get (by decide) (by rfl) hns⟩
theorem Bh6 (a:X.K=Kq) (hu:X.A.units+64<cLine) (hg:X.A.guards=some []) (hgl:Gl X "str") (hm:X.mg "str" = none) (ha:QA X (e::es) t) (hns:noStar (e::es)=true:=by rfl):QE X (.Call (.Name "str" p) (e::es) [] pos) (tCB (B1q Kq) t):=by
 exact⟨Ly (U.CallR.or (U.CallR.or Ab3 (A4x hu hg)) A3a) hgl hm Aa8 ha.get (by decide) (by rfl) hns⟩
theorem Bg5 (a:X.K=Kq) (he:QE X e te) (hl:QO X low tl) (hu:QO X hi th):QE X (.Subscript e (.Slice low hi none p2) pos) (tSl (rSL Kq) te tl th):=by
 subst a;exact Bg2 By5 he hl hu
end L2
namespace U
open PySem L2
def Def (P:u6)(w:World)(K:v9)(mg:x_)(base:Heap)(x:Str)(k:Nat)(ps:v4)(sp:Sp):Prop :=
 ∃(f:Addr) (fd:u5),FnOk P w K mg base CX0 k f fd ps sp/\Binds K fd ps []/\PySem.W.keepIn K (.ref f)=true/\mg x=some (.ref f)
def A0s (K:v9):Sp:=λvs H Q _=>∃(a:Addr) (ns:List Int),vs=[.ref a]/\SqL K H a (ns.map V.int)/\ns.length<=63/\∀H',Q (.bl true) H'
theorem B1f (f:∀b:List Int,b.length<=63->F [.sc b]=.ret (.im (.bool true)) [.sc b]) (h:A0s K vs H Q E):spP K F vs H Q E:=by
 obtain⟨a,b,rfl,c,d,q⟩:=h
 refine⟨λ_=>.non,⟨H,H,λ_=>[]⟩,[.sc b],rfl,rfl,⟨Same.refl _,rfl,λi o e=>?_,λi j a h=>by grind,λi a h=>by grind⟩,?_⟩
 ·cases i with
  | zero =>
   cases (show some _=some _ from e)
   exact⟨.ref a,rfl,⟨rfl,a,rfl,c⟩,λz=>nomatch z⟩
  | succ i=>grind
 ·rw[f _ d]
  intro v W' fp st R r n
  cases (show v=.bl _ from r.2)
  grind
theorem B3t : FnOk P w K mg base CX0 n f c ps (spP K λ_=>.bad) :=
 ⟨λd H Q E h=>by obtain⟨_,_,_,_,_,_,h⟩:=h;simp_all,λA a s H b e d Q E _ _ _ _ h=>by obtain⟨_,_,_,_,_,_,h⟩:=h;simp_all⟩
noncomputable def A2w (i j:Int):Bool:=decide (0<j)&&decide (j<1073741824)
theorem A9l (i j:Int)(h:A2w i j=true):Bn5 i j:=by
 obtain⟨b,a⟩:=aA.mp h;exact⟨aZ b,aZ a⟩
noncomputable def Bf8 (i j:Int):Bool:=decide (0<j)
theorem Ba6 (i j:Int)(h:Bf8 i j=true):0<j:=aZ h
noncomputable def Aj2 (i j:Int):Bool:=decide (0<=j)&&(decide (j<=1000000)&&decide (i.natAbs<2 ^ 64))
theorem A9b (i j:Int)(h:Aj2 i j=true):Bl8 i j:=by
 obtain⟨c,a⟩:=aA.mp h;obtain⟨a,b⟩:=aA.mp a;exact⟨aZ c,aZ a,aZ b⟩
section
variable {K:v9}
abbrev O5:t6->t6->m5:=Yl λi j=>.int (i-j)
abbrev Xd:t6->t6->m5:=Yl λi j=>.bool (decide (j<i))
abbrev B2r:t6->t6->m5:=Yl λi j=>.bool (decide (j<=i))
theorem Bn1:OpS K (rI0 λi j=>.int (i-j)) O5:=Ad2 λ_ _ _=>rfl
theorem A7f:OpS K (rI0 λi j=>.bl (decide (j<i))) Xd:=Ad2 λ_ _ _=>rfl
theorem B3s:OpS K (rI0 λi j=>.bl (decide (j<=i))) B2r:=Ad2 λ_ _ _=>rfl
abbrev Ag2:t6->t6->m5:=opI A2w λi j=>i / j
abbrev Q5:t6->t6->m5:=opI Bf8 λi j=>i % j
abbrev Ud:t6->t6->m5:=opI Aj2 λi j=>i ^ j.toNat
theorem A7k:OpS K (rI Bn5 λi j=>.int (i / j)) Ag2:=A0r A9l
theorem Bp9:OpS K (rI (λ_ j=>0<j) λi j=>.int (i % j)) Q5:=A0r Ba6
theorem Bu3:OpS K (rI Bl8 λi j=>.int (i ^ j.toNat)) Ud:=A0r A9b
def B3p (fa fb:n7):n7:=λc=>(fa c).bind λp c=>(fb c).bind λq c=>match nrm p,Ac4 (Ds c (nrm q)) with
 | .o (.sc ns),some k=>match atI ns k with
  | some i=>.ok (.o (.im (.int i))) c
  | none=>.bad
 | _,_=>.bad
theorem Bo6 (h:atI ns k=some i):atI (ns.map V.int) k=some (V.int i):=by
 unfold atI at h ⊢;obtain⟨j,b,a⟩:=cW.mp h
 simp_all
theorem B0w (ha:ME K h fa) (hb:ME K j fb):ME K (tOp (rIx K) h j) (B3p fa fb):=by
 intro β W c σ Q R s
 refine ha.toV _ W c _ _ R (s.bnd.mono λp c1 u v1 W1 f n d=>?_)
 refine hb.toV _ _ _ _ _ n (u.bnd.mono λq t b v2 W2 e g m=>?_)
 have d:=RepA.same e.fz d
 cases ey:Ac4 (Ds t (nrm q)) with
 | none =>
  simp only[ey]at b;generalize nrm p=np at b
  cases np with
  | sl i=>trivial
  | o o=>cases o <;> exact b.elim
 | some k =>
  simp only[ey]at b;generalize nrm p=np at b d
  match np,d,b with
  | .o (.sc ns),d,b =>
   have b:(match atI ns k with
    | some i=>U.R.ok _ _
    | none=>.bad).sat _:=b
   cases ei:atI _ k with
   | none=>rw[ei]at b;trivial
   | some i =>
    rw[ei]at b;obtain⟨a,rfl,w⟩:=d
    cases Dh (Gj g m (Ah4 ey))
    exact .inl ⟨a,_,k,.int i,rfl,rfl,Same.seq g.sub w,Bo6 ei,g.here (o:=.im (.int i)) rfl rfl λv W' fp x l r=>b v _ _ (f.trans (e.trans x)) l r⟩
  | .o (.im _),d,b=>exact b.elim
  | .o (.ls _ _),d,b=>exact b.elim
  | .o (.ty _),d,b=>exact b.elim
  | .sl _,d,b=>trivial
end
section
variable {w:World}{K:v9}{Hf H:Hp}{Q:VK}{W:Wo}{c:Ev}{v:V}
def cMt (isT:t6->Bool)(op:t6->t6->m5)(fa fb:n7):n7:=λc=>(fa c).bind λp c=>match Ds c (nrm p) with
 | some d=>if isT d=true then (fb c).bind λq c=>match Ds c (nrm p),Ds c (nrm q) with
  | some x,some y=>match op x y with
   | some o=>.ok (.o o) c
   | none=>.bad
  | _,_=>.bad
  else .bad
 | none=>.bad
theorem A6v (ha:ME K l fa) (hb:ME K m fb)
 (n:∀(Hf H:Hp) (d:t6) (v:V),a d=true->Same Hf H->RdV Hf H d v->tyV K T v H) (hr:OpS K (λx y H Q=>r x [y] H Q) op):ME K (tBM K T r l (Bv m Fb)) (cMt a op fa fb):=by
 intro E W c C Q R s
 refine ha.toV _ W c _ _ R (s.bnd.mono λp w e B D i h j=>?_)
 cases ed:Ds w (nrm p) with
 | none=>simp only[ed]at e;trivial
 | some d =>
  simp only[ed]at e
  by_cases it:a d=true
  case neg=>rw[if_neg it]at e;trivial
  rw[if_pos it]at e
  refine⟨n _ _ d _ it h.sub (Gj h j ed),?_⟩
  refine hb.toV _ _ _ _ _ h (e.bnd.mono λq k b I J f g u=>?_)
  cases ex:Ds k (nrm p) with
  | none=>simp only[ex]at b;trivial
  | some x =>
   cases ey:Ds k (nrm q) with
   | none=>simp only[ex,ey]at b;trivial
   | some y =>
    simp only[ex,ey]at b
    cases eo:op x y with
    | none=>simp only[eo]at b;trivial
    | some o =>
     simp only[eo]at b
     exact hr _ _ _ _ x y o Q g.sub (Gj g (RepA.same f.fz j) ex) (Gj g u ey) eo (New.of g λv F G z A t=>b v _ _ (i.trans (f.trans z)) A t)
noncomputable def Mx:t6->Bool
 | .tuple _=>true
 | _=>false
theorem Bh1 (Hf H:Hp)(d:t6)(v:V)(h:Mx d=true)(s:Same Hf H)(r:RdV Hf H d v):tyV K "tuple" v H:=by
 cases d with
 | tuple ds =>
  obtain⟨a,c,rfl,b,t⟩:=Ja s r;exact .inr (.inr (.inr (.inr ⟨rfl,c,b⟩)))
 | _=>cases h
noncomputable def strsOf:w5->Option (v4)
 | []=>some []
 | .str z::ds=>(strsOf ds).map (z::·)
 | _=>none
theorem Ax5:∀{ds:w5}{ss:v4}{vs:m6},strsOf ds=some ss->TrL Hf ds vs->vs=ss.map V.str
 | [],ss,vs,h,t=>by cases h;exact t
 | d::ds,ss,_,h,⟨v,r,rfl,h1,h2⟩=>by
  cases d with
  | str z =>
   have h:(strsOf ds).map (z::·)=some ss:=h
   cases e:strsOf ds with
   | none=>rw[e]at h;cases h
   | some ts =>
    rw[e]at h;cases h
    rw[Ax5 e h2,show v=V.str z from h1];rfl
  | _=>cases h
noncomputable def Yo (y:Str):v4->Option Nat
 | []=>none
 | x::xs=>if x==y then some 0 else (Yo y xs).map (·+1)
theorem A0y {y:Str}:∀{xs:v4}{j:Nat},Yo y xs=some j->xs[j]?=some y/\∀m<j,xs[m]?≠some y
 | [],j,h=>by cases h
 | x::xs,j,h=>by
  unfold Yo at h
  by_cases q:(x==y)=true
  ·rw[if_pos q]at h;cases h
   exact⟨by simpa using q,λm hm=>absurd hm (Nat.not_lt_zero _)⟩
  ·rw[if_neg q]at h
   cases e:Yo y xs with
   | none=>rw[e]at h;cases h
   | some k =>
    rw[e]at h;cases h;obtain⟨h1,h2⟩:=A0y e
    refine⟨by simpa using h1,λm hm=>?_⟩
    cases m with
    | zero=>simpa using q
    | succ m=>simpa using h2 m (Nat.lt_of_succ_lt_succ hm)
def K7:t6->t6->m5
 | .tuple ds,.str y=>(strsOf ds).bind λss=>(Yo y ss).map λj=>.im (.int (j:Nat))
 | _,_=>none
theorem Y8:OpS K (λx y H Q=>Ab4 K x [y] H Q) K7:=by
 intro Hf H x y dx dy o Q s f g e n;unfold K7 at e
 split at e
 ·rename_i d z
  obtain⟨a,vs,rfl,i,t⟩:=Ja s f
  cases es:strsOf d with
  | none=>grind
  | some b =>
   rw[es]at e;have e:(Yo z _).map _=some o:=e
   cases ei:Yo z b with
   | none=>grind
   | some j =>
    rw[ei]at e;cases e
    cases G9 g
    cases Ax5 es t
    obtain⟨h,c⟩:=A0y ei;exact⟨a,b,z,j,rfl,rfl,SqT.of i,h,c,n.int s⟩
 grind
end
section
theorem S6 (ss:v4):(ss.map V.str).all Ry=true:=by
 induction ss with
 | nil=>rfl
 | cons a r b=>rw[aG,gM,b];rfl
end
end U
namespace L2
open PySem U
theorem A4p (d:X.K=Kq) (ha:QE X a e) (hb:QE X b f) (hm:behindInMarks .NotIn b=false):QT X (.Compare a [.NotIn] [b] c) (O6 (tOp (rIn Kq true) e f)):=by
 subst d;exact⟨Jq Aa4 ha.get hb.get hm⟩
end L2
namespace U
open PySem L2 PySem.W
end U
namespace U
open PySem L2
section
variable {K:v9}{Hf H:Hp}
noncomputable def Qm:t6->Bool
 | .list _=>true
 | _=>false
theorem A9h (Hf H:Hp)(d:t6)(v:V)(h:Qm d=true)(s:Same Hf H)(r:RdV Hf H d v):tyV K "list" v H:=by
 cases d with
 | list ds =>
  obtain⟨a,c,rfl,b,t⟩:=Fz r;exact .inl ⟨rfl,c,SqL.of b⟩
 | _=>cases h
noncomputable def A6w:List Bool->Option Nat
 | []=>none
 | true::_=>some 0
 | false::r=>(A6w r).map (·+1)
theorem A1l:∀{bs:List Bool}{j:Nat},A6w bs=some j->bs[j]?=some true/\∀m<j,bs[m]?≠some true
 | true::r,j,h=>by cases h;exact⟨rfl,λm hm=>by lia⟩
 | false::r,j,h=>by
  obtain⟨k,h1,rfl⟩:=aV.mp (show (A6w r).map (·+1)=some j from h)
  obtain⟨q1,q2⟩:=A1l h1
  refine⟨by rw[dC];exact q1,λm hm=>?_⟩
  cases m with
  | zero=>simp
  | succ m=>rw[dC];exact q2 m (by lia)
def V6:t6->t6->m5
 | .list ds,.bool true=>(boolsOf ds).bind λbs=>(A6w bs).bind λj=>if j<1000000 then some (.im (.int (j:Nat))) else none
 | _,_=>none
theorem V9:OpS K (λx y H Q=>A2v K x [y] H Q) V6:=by
 intro Hf H x y dx dy o Q s rx ry e n;unfold V6 at e
 split at e
 ·rename_i ds
  obtain⟨bs,e1,e2⟩:=cW.mp (show ((boolsOf ds).bind λbs=>(A6w bs).bind λj=>if j<1000000 then some (O.im (.int (j:Nat))) else none)=some o from e)
  obtain⟨j,e3,e4⟩:=cW.mp e2
  by_cases hb:j<1000000
  ·rw[if_pos hb]at e4
   cases e4
   obtain⟨a,vs,rfl,h1,t⟩:=Fz rx
   cases Ah0 e1 t
   cases (show y=.bl true from ry)
   obtain⟨q1,q2⟩:=A1l e3;exact⟨a,bs,j,rfl,rfl,SqL.of h1,q1,q2,hb,n.int s⟩
  ·rw[if_neg hb]at e4;cases e4
 ·cases e
end
inductive XF where
 | ret (o:O)
 | ex (nm:Xn)
 | bad
inductive XS where
 | s (r:SR)
 | ex (nm:Xn) (c:Ev)
def spX (K:v9)(F:w5->XF):Sp:=λvs H Q E=>∃(Hf:Hp) (ds:w5),Same Hf H/\TrL Hf ds vs/\match F ds with
 | .bad=>False
 | .ret o=>∀v Hf' H' fp,Stp (λ_=>False) Hf H (λa=>a∈fp) Hf' H'->Same Hf' H'->RepO K Hf' H' o v fp->Q v H'
 | .ex nm=>∀C d Hf' H',XAt K Hf' nm C d->Stp (λ_=>False) Hf H (λ_=>False) Hf' H'->Same Hf' H'->E (.ref C) d H'
def LeadX (K:v9)(β:Nat->V)(W:Wo)(D:Ends)(E:XK):XS->Prop
 | .s r=>zM K β W D r
 | .ex nm c'=>∀C d σ' W',XAt K W'.Hf nm C d->Stp W.S W.Hf W.H W'.S W'.Hf W'.H->Rep K β W' c' σ'->E (.ref C) d W'.H
def MX (K:v9)(E:XK)(T:TS)(f:Ev->XS):Prop:=∀(β:Nat->V) (W:Wo) (c:Ev) (σ:St) (D:Ends),Rep K β W c σ->LeadX K β W D E (f c)->T D σ W.H
noncomputable def Q7 (f:Ev->SR):Ev->XS:=λc=>.s (f c)
noncomputable def Ae6 (f g:Ev->XS):Ev->XS:=λc=>match f c with
 | .s (.nx c)=>g c
 | r=>r
noncomputable def xIf (t:n6) (f g:Ev->XS):Ev->XS:=λc=>match t c with
 | .ok b c=>if b=true then f c else g c
 | .bad=>.s .bad
noncomputable def scO:O->Bool
 | .im .none=>true
 | .im (.bool _)=>true
 | .im (.int _)=>true
 | .im (.str _)=>true
 | _=>false
def Bw2 (F:w5->XF)(fa:o_)(k:O->Ev->XS)(h:Xn->Ev->XS):Ev->XS:=λc=>match fa c with
 | .bad=>.s .bad
 | .ok ps c=>match A9w c ps with
  | none=>.s .bad
  | some ds=>match F ds with
   | .bad=>.s .bad
   | .ret o=>if scO o=true then k o c else .s .bad
   | .ex nm=>if nm.p.isNone=true then h nm c else .s .bad
def Rf (n N:Nat)(body:Ev->XS):w5->XF:=λds=>if ds.length=n then match body (ds.map (λd=>some (.im d))++List.replicate (N-n) none) with
 | .s (.nx _)=>.ret (.im .none)
 | .s (.rt p c)=>match resolve p c with
  | some (o,_)=>.ret o
  | none=>.bad
 | .ex nm _=>.ex nm
 | _=>.bad
 else .bad
section
variable {K:v9}{β:Nat->V}{W W':Wo}{c:Ev}{D:Ends}{E:XK}{Hf H:Hp}{o:O}{v:V}
theorem LeadX.step {r:XS}(h:LeadX K β W D E r)(st:Stp W.S W.Hf W.H W'.S W'.Hf W'.H):LeadX K β W' D E r:=by
 cases r with
 | s r=>exact zM.step h st
 | ex g c=>exact λC d e i b a f=>h C d _ _ b (st.trans a) f
theorem Bl4 {T:TS}{f:Ev->SR}(h:MS K T f):MX K E T (Q7 f):=λb W c a D R l=>h _ W c _ D R l
theorem B3x {T U:TS}{f g:Ev->XS}(h1:MX K E T f)(h2:MX K E U g):MX K E (Ax0 T U) (Ae6 f g):=by
 intro m W c i D R l
 refine h1 _ W c _ _ R ?_
 unfold Ae6 at l
 cases e:f c with
 | ex j a=>rw[e]at l;exact l
 | s r =>
  rw[e]at l
  cases r with
  | nx a=>exact λh k d b=>h2 _ _ _ _ D b (LeadX.step l d)
  | rt p a=>exact l
  | bk a=>exact l
  | ct a=>exact l
  | bad=>exact l
theorem B6r {i:TT}{T U:TS}{ft:n6}{f g:Ev->XS}(h:MT K i ft)(h1:MX K E T f)(h2:MX K E U g):MX K E (B3k i T U) (xIf ft f g):=by
 intro j W c n D R l;unfold xIf at l
 refine h _ W c _ _ R ?_
 cases e:ft c with
 | bad=>rw[e]at l;exact l
 | ok b k =>
  rw[e]at l;intro m d a
  cases b with
  | true=>exact h1 _ _ _ _ D a (LeadX.step l d)
  | false=>exact h2 _ _ _ _ D a (LeadX.step l d)
theorem Ox {S:Addr->Prop}{b:Hp}(s:Same H b):Stp S Hf H S Hf b:=⟨Same.refl _,λa o e _=>s a o e,λa o e c n q=>q,λa z=>.inl z⟩
theorem A1k (h:orS S [] a):S a:=by
 grind
theorem Ag4 {n N:Nat}{body:Ev->XS}{vs:m6}{Q:VK}(hs:spX K (Rf n N body) vs H Q E):vs.length=n:=by
 obtain⟨d,b,c,t,a⟩:=hs;unfold Rf at a
 by_cases hn:b.length=n
 ·rw[<- t.length];grind
 simp_all
theorem Aa3 {n:Nat}{N:v4}{body:Ev->XS}{T:TS}{vs:m6}{Q:VK}(h:MX K E T body)(hs:spX K (Rf n N.length body) vs H Q E):T { nx:=λ_ G=>Q .non G,rt:=Q } (start N vs) H:=by
 obtain⟨P,u,A,t,c⟩:=hs;unfold Rf at c
 by_cases l:u.length=n
 ·rw[if_pos l]at c
  have B:=t.length
  let W:Wo:=⟨P,H,λ_=>[]⟩
  have R:Rep K (λ_=>.non) W (u.map (λd=>some (.im d))++List.replicate (N.length-n) none) (start N vs):=by
   refine⟨A,?_,λi o e=>?_,(λi j a z=>nomatch z),λi a z=>nomatch z⟩
   ·show _=(vs.map some++List.replicate (N.length-vs.length) none).length
    rw[aK,aK,aq,aq,j8,j8,<- B,l]
   ·by_cases li:i<u.length
    ·rw[dF (by rw[aq];exact li),bK]at e
     cases ed:u[i]? with
     | none=>rw[ed]at e;cases e
     | some d =>
      rw[ed]at e;cases e;obtain⟨v,J,L⟩:=t.got ed
      refine⟨v,?_,⟨rfl,L⟩,λz=>nomatch z⟩
      show (vs.map some++List.replicate (N.length-vs.length) none)[i]?=_
      rw[dF (by rw[aq,<- B];exact li),bK,J];rfl
    ·rw[dX (by rw[aq];exact jo li),List.getElem?_replicate]at e
     split at e <;> cases e
  have b:∀a,W.S a->False:=λa ⟨i,z⟩=>nomatch z
  refine h _ W _ (start N vs) _ R ?_
  cases eb:body (u.map (λd=>some (.im d))++List.replicate (N.length-n) none) with
  | ex Y k =>
   rw[eb]at c
   exact λC d w g l f m=>c C d g.Hf g.H l ⟨f.fz,λa o e _=>f.kp a o e (b a),λa o e x _ q=>f.nf a o e x (b a) q,λa z=>z.elim⟩ m.sub
  | s r =>
   rw[eb]at c
   cases r with
   | nx k=>exact λw g f m=>c .non g.Hf g.H [] ⟨f.fz,λa o e _=>f.kp a o e (b a),λa o e x _ q=>f.nf a o e x (b a) q,λa z=>nomatch z⟩ m.sub ⟨rfl,rfl⟩
   | rt p k =>
    intro w v g X f m O
    cases er:resolve p k with
    | none=>simp only[er]at c
    | some q =>
     simp only[er]at c;obtain⟨Z,I,M,D,U,S,n2,F⟩:=Wf m O er;rw[<- D]
     refine c v _ _ _ ?_ U.sub S
     rw[M,D]
     refine⟨f.fz,λa o e _=>f.kp a o e (b a),λa o e x _ q=>f.nf a o e x (b a) q,λa z=>?_⟩
     rcases f.fr a (F a (.inr z)) with y | y
     ·exact(b a y).elim
     ·exact .inr y
   | bk k=>exact c.elim
   | ct k=>exact c.elim
   | bad=>exact c.elim
 ·rw[if_neg l]at c;exact c.elim
end
end U
set_option autoImplicit true
namespace U
open PySem L2
def Q4 (tbl:List (Str×Bool))(f:n7):n7:=λc=>(f c).bind λp c=>match rdP c p with
 | some (.ty (.xc nm))=>match tbl.lookup nm.n with
  | some b=>.ok (.o (.im (.bool b))) c
  | none=>.bad
 | _=>.bad
def Bb2 (f:n7):n7:=λc=>(f c).bind λp c=>match rdP c p with
 | some (.ty (.xc _))=>.ok (.o (.im (.bool false))) c
 | some (.im .none)=>.ok (.o (.im (.bool true))) c
 | _=>.bad
section
variable {K:v9}{β:Nat->V}{W W':Wo}{c:Ev}{σ:St}{Hf H:Hp}{o:O}{v:V}{fp:v6}
theorem A1e {p:PV}{nm:Xn}(R:Rep K β W c σ)(r:Dz K W σ p v fp)(e:rdP c p=some (.ty (.xc nm))):RepN K W.Hf (.ty (.xc nm)) v:=by
 cases p with
 | o f=>cases e;exact r.1.2
 | sl i =>
  have e:c[i]?.join=some _:=e
  have b:c[i]?=some (some (.ty (.xc nm))):=by
   grind
  obtain⟨g,a,d,_⟩:=R.get i _ b;have h := r.2;rw[h]at a;cases a;exact d.2
theorem Ob {l:TE}{f:n7}{cv:V}{z:Value}{i:List (Str×Bool)}(hz:B2f cv=some z)(ht:∀nm b,i.lookup nm=some b->∀C,PySem.W.nsIn K mainGlobals nm=some (some (.ref C))->Ko K C/\PySem.W.kitOne K (.ref C) z=some b)(h:ME K l f) :
 ME K (tCB (As3 K) (Bv l (Bv (tC cv) Fb))) (Q4 i f):=by
 intro w W c x Q R s
 refine h _ W c _ _ R (s.bnd.mono λp q g y A r j k t=>?_)
 cases ed:rdP q p with
 | none=>simp only[ed]at g;trivial
 | some o =>
  simp only[ed]at g
  match o,ed,g with
  | .ty (.xc nm),ed,g =>
   cases el:i.lookup nm.n with
   | none=>simp only[el]at g;trivial
   | some b =>
    simp only[el]at g;obtain⟨a,C,d,e,n,u⟩:=A1e k t ed;subst e;obtain⟨v,m⟩:=ht _ b el C n.ns
    refine⟨a,C,d,cv,z,b,rfl,k.sub _ _ u,v,hz,m,?_⟩
    exact g _ _ _ (j.less λa z=>by
     grind) k ⟨⟨rfl,rfl⟩,λa z=>nomatch z⟩
  | .ty (.nm _),ed,g=>trivial
  | .ty (.tc _),ed,g=>trivial
  | .ty (.dc _ _),ed,g=>exact g.elim
  | .ty (.dt _ _),ed,g=>exact g.elim
  | .ty (.ds _ _),ed,g=>exact g.elim
  | .ty (.td _ _ _),ed,g=>exact g.elim
  | .im _,ed,g=>exact g.elim
  | .ls _ _,ed,g=>exact g.elim
  | .sc _,ed,g=>trivial
theorem B0q {p:PV}(R:Rep K β W c σ)(r:Dz K W σ p v fp)(e:rdP c p=some (.im .none)):v=.non:=by
 cases p with
 | o f=>cases e;exact r.1.2
 | sl i =>
  have e:c[i]?.join=some _:=e
  have b:c[i]?=some (some (.im .none)):=by
   grind
  obtain⟨g,a,d,_⟩:=R.get i _ b;have h := r.2;rw[h]at a;cases a;exact d.2
theorem A2p {m:TE}{f:n7}(h:ME K m f):ME K (tOp (λx y H Q=>y=.non/\Q (.bl (decide (x=.non))) H) m (tC .non)) (Bb2 f):=by
 intro u W c t Q R s
 refine h _ W c _ _ R (s.bnd.mono λp q g A w r j l n=>?_)
 refine⟨rfl,?_⟩
 have i:∀b ,(∀v W' fp,Stp _ _ _ (orS W'.S fp) W'.Hf W'.H->Rep K _ W' _ _->Dz K W' t (.o (.im (.bool b))) v fp->Q v W'.H)->Q _ _:=λb k=>k _ _ _ (j.less λa z=>by
  grind) l ⟨⟨rfl,rfl⟩,λa z=>nomatch z⟩
 cases ed:rdP q p with
 | none=>simp only[ed]at g;trivial
 | some o =>
  simp only[ed]at g
  match o,ed,g with
  | .ty (.xc _),ed,g =>
   obtain⟨a,C,d,e,_⟩:=A1e l n ed;subst e;exact i _ g
  | .im .none,ed,g=>cases B0q l n ed;exact i _ g
  | .im (.bool _),ed,g=>trivial
  | .im (.int _),ed,g=>trivial
  | .im (.str _),ed,g=>trivial
  | .im (.list _),ed,g=>trivial
  | .im (.tuple _),ed,g=>trivial
  | .im (.dict _),ed,g=>exact g.elim
  | .ty (.nm _),ed,g=>exact g.elim
  | .ty (.tc _),ed,g=>exact g.elim
  | .ty (.dc _ _),ed,g=>exact g.elim
  | .ty (.dt _ _),ed,g=>exact g.elim
  | .ty (.ds _ _),ed,g=>exact g.elim
  | .ty (.td _ _ _),ed,g=>exact g.elim
  | .ls _ _,ed,g=>exact g.elim
  | .sc _,ed,g=>trivial
end
end U
set_option autoImplicit true
namespace L2
open PySem PySem.Spec PyProof.Rows PySem.W
section
variable {P:u6}{w:World}{K:v9}{mg:x_}{base:Heap}
theorem Fun.okX {x qual:Str}{st:Stmt}{f:Addr}{h:u5}{N ps:v4}{k:Nat}{sp:Sp}(F:Fun K x qual st f h)(S:Ay N ps (Ah st))(g:∀vs H Q E,sp vs H Q E->vs.length=ps.length)
 (b:∀(c:Value) (A:t_) (a:List Env) (s:u_) (H:Hp) (vs:m6) (Q:VK) (E:XK),Room k (A.deeper (envOfC qual (Ah st) s.heap.objs.size f c))->sp vs H Q E ->
  ∃t,PSs (Jo (CXe P w) P w K mg base N qual (Ah st) f c A a s H E) (Cz st) t/\t { nx:=λ_ m=>Q .non m,rt:=Q } (start N vs) H):FnOk P w K mg base (CXe P w) (k+1) f h ps sp:=by
 obtain⟨oc,od,kV,j,pm,an,c,ct,l,rfl,i,e⟩:=F.ex
 exact A0c i e S g λA a s H vs Q E n d=>b _ A _ s H _ Q E n d
end
section
variable {X:Cx}{y:Str}{pos p:Pos}{e:Expr}{es:v_}{t:TA}
theorem Kf {D:Addr}(hg:Gl X y)(hm:X.mg y=some (.ref D))(hdb:(y==("__debug__" : Str))=false:=by decide):QE X (.Name y p) (tC (.ref D)):=⟨By7 hg hm hdb⟩
theorem Qq {Kq:v9}(a:X.K=Kq)(hgl:Gl X "isinstance") (hm:X.mg "isinstance" = none) (ha:QA X (e::es) t) (hn:noStar (e::es)=true:=by rfl):QE X (.Call (.Name "isinstance" p) (e::es) [] pos) (tCB (As3 Kq) t):=by
 subst a
 exact⟨Gb A5v hgl hm Hj ha.get (by decide) (by rfl) hn⟩
theorem Yh:bootBuiltins "ValueError" = some (.type "ValueError"):=by decide +kernel
end
def TbOk (K:v9)(z:Value)(tbl:List (Str×Bool)):Prop:=∀nm b,tbl.lookup nm=some b->∀C,PySem.W.nsIn K mainGlobals nm=some (some (.ref C))->Ko K C/\PySem.W.kitOne K (.ref C) z=some b
def ExOk (K:v9)(Fc:Addr)(NS:v4):Prop:=∀nm∈NS,∀C,PySem.W.nsIn K mainGlobals nm=some (some (.ref C))->PySem.W.exmOne K (.ref C) (.ref Fc)=some true
def ClT (K:v9)(mg:x_)(tbl:List (Str×Bool))(T:Str):Prop:=∃g,mg T=some (.ref g)/\TbOk K (.ref g) tbl
def ClF (K:v9)(mg:x_)(NS:v4)(T:Str):Prop:=∃g,mg T=some (.ref g)/\ExOk K g NS
def ClR (K:v9)(mg:x_)(T:Str):Prop:=∃g,mg T=some (.ref g)/\PySem.W.nsIn K mainGlobals T=some (some (.ref g))/\exP K g=true
section
variable {K:v9}{z:Value}{tbl:List (Str×Bool)}{x:Str}{g Fc:Addr}{b:Bool}{NS:v4}
theorem TbOk.nil:TbOk K z []:=λ_ _ e=>nomatch e
theorem TbOk.cons (n:PySem.W.nsIn K mainGlobals x=some (some (.ref g)))(X:Ko K g)(k:PySem.W.kitOne K (.ref g) z=some b)(t:TbOk K z tbl):TbOk K z ((x,b)::tbl):=λc d e C a=>by
 rw[aU]at e
 cases q:c==x with
 | true =>
  simp_all
 | false=>rw[q]at e;exact t _ _ e C a
theorem ExOk.nil:ExOk K Fc []:=λ_ z=>nomatch z
theorem ExOk.cons (n:PySem.W.nsIn K mainGlobals x=some (some (.ref g)))(k:PySem.W.exmOne K (.ref g) (.ref Fc)=some true)(t:ExOk K Fc NS):ExOk K Fc (x::NS):=λc h C b=>by
 rcases aD.mp h with a | h
 ·grind
 ·exact t _ h C b
end
end L2
namespace U
open PySem L2
def DefX (P:u6)(w:World)(K:v9)(mg:x_)(base:Heap)(x:Str)(k:Nat)(ps:v4)(sp:Sp):Prop :=
 ∃(f:Addr) (fd:u5),FnOk P w K mg base (CXe P w) k f fd ps sp/\Binds K fd ps []/\PySem.W.keepIn K (.ref f)=true/\mg x=some (.ref f)
end U
set_option autoImplicit true
namespace U
open PySem L2
noncomputable def Mm (c:Ev):List PV->Option (w5)
 | []=>some []
 | .o (.im d)::r=>(Mm c r).map (d::·)
 | .sl i::r=>match c[i]? with
  | some (some (.im d))=>(Mm c r).map (d::·)
  | _=>none
 | _=>none
def Mh (F:w5->XF)(fa:o_)(k:O->Ev->XS)(h:Xn->Ev->XS):Ev->XS:=λc=>match fa c with
 | .bad=>.s .bad
 | .ok ps c=>match Mm c ps with
  | none=>.s .bad
  | some ds=>match F ds with
   | .ret (.im d)=>k (.im d) c
   | .ex nm=>h nm c
   | _=>.s .bad
section
variable {K:v9}{β:Nat->V}{W:Wo}{c:Ev}{σ:St}{D:Ends}{E:XK}{Hf H:Hp}{o:O}{v:V}{fp:v6}
theorem Ri (R:Rep K β W c σ):∀{ps:List PV}{vs:m6}{ds:w5},zU K W.Hf σ ps vs->Mm c ps=some ds->TrL W.Hf ds vs
 | [],vs,ds,h,e=>by cases (show vs=[] from h);cases e;exact rfl
 | .o (.im d)::r,_,ds,⟨v,vr,rfl,h,t⟩,e=>by
  obtain⟨l,e2,rfl⟩:=aV.mp (show (Mm c r).map (d::·)=some ds from e)
  exact⟨v,vr,rfl,h,Ri R t e2⟩
 | .sl i::r,_,ds,⟨v,vr,rfl,h,t⟩,e=>by
  unfold Mm at e
  split at e
  ·rename_i d ec
   obtain⟨l,e2,rfl⟩:=aV.mp e;obtain⟨v',e1,r1,_⟩:=R.get i _ ec
   cases (show some (some v')=some (some v) from e1.symm.trans h)
   exact⟨v,vr,rfl,r1.2,Ri R t e2⟩
  ·cases e
 | .o (.sc _)::r,_,ds,_,e=>by cases e
 | .o (.ls _ _)::r,_,ds,_,e=>by cases e
 | .o (.ty _)::r,_,ds,_,e=>by cases e
theorem Al4 {F:w5->XF}{m:o_}{t:TA}{k:O->Ev->XS}{h:Xn->Ev->XS}{Q:VK}{E':XK}(ha:MA K t m)(R:Rep K β W c σ)(l:LeadX K β W D E (Mh F m k h c))
 (hk:∀o i W2 v,Stp W.S W.Hf W.H W2.S W2.Hf W2.H->Rep K β W2 i σ->LeadX K β W D E (k o i)->Dz K W2 σ (.o o) v []->Q v W2.H)
 (B:∀u i W2 C d,Stp W.S W.Hf W.H W2.S W2.Hf W2.H->Rep K β W2 i σ->LeadX K β W D E (h u i)->XAt K W2.Hf u C d->E' (.ref C) d W2.H) :
 t σ W.H λvs y=>spX K F vs y Q E':=by
 unfold Mh at l
 refine ha _ W c _ _ R ?_
 cases e:m c with
 | bad=>rw[e]at l;exact l
 | ok A i =>
  rw[e]at l;intro vs x L s I
  cases ea:Mm i A with
  | none=>simp only[ea]at l;trivial
  | some H =>
   simp only[ea]at l
   refine⟨x.Hf,H,s.sub,Ri s I ea,?_⟩
   have w:∀{f j:Hp},Stp _ _ _ (λ_=>False) f j->Same _ _->Stp _ _ _ _ _ _/\Rep K _ _ _ _:=λ{f j} g b =>
    ⟨L.trans ⟨g.fz,λa o e _=>g.kp a o e λz=>z,λa o e G _ q=>g.nf a o e G (λz=>z) q,λa z=>.inl z⟩,Stp.rep s g b⟩
   cases ef:F _ with
   | bad=>simp only[ef]at l;trivial
   | ret o =>
    match o,ef with
    | .im d,ef =>
     simp only[ef]at l;intro v f j fp g b r;obtain⟨rfl,J⟩:=r
     obtain⟨n,p⟩:=w (g.less λa z=>nomatch z) b
     exact hk _ _ _ v n p l ⟨⟨rfl,J⟩,λa z=>nomatch z⟩
    | .sc _,ef=>simp only[ef]at l;trivial
    | .ls _ _,ef=>simp only[ef]at l;trivial
    | .ty _,ef=>simp only[ef]at l;trivial
   | ex u =>
    simp only[ef]at l;intro C d f j M g b;obtain⟨n,p⟩:=w g b;exact B _ _ _ C d n p l M
end
def Ru:t6->t6->m5:=Yl λi j=>.bool (decide (i<j))
theorem Bk7 : OpS K (rI0 λi j=>.bl (decide (i<j))) Ru:=Ad2 λ_ _ _=>rfl
theorem B5r (l:Vo i j=true):CMul i j:=by
 unfold Vo at l;rw[Bool.or_eq_true_iff,aA,aA]at l
 rcases l with ⟨b,a⟩ | ⟨b,a⟩
 ·exact .inl ⟨aZ b,aZ a⟩
 ·exact .inr ⟨aZ b,aZ a⟩
def K6:t6->t6->m5:=opI Vo λi j=>i*j
theorem A8z : OpS K (rI CMul λi j=>.int (i*j)) K6:=A0r λ_ _=>B5r
noncomputable def Be:t6->m5
 | .list ds=>some (.im (.tuple ds))
 | .tuple ds=>some (.im (.tuple ds))
 | _=>none
theorem Hq : UnS K (λx H Q=>Hv K [x] H Q) Be:=by
 intro Hf H x d o Q s r e n;unfold Be at e
 split at e
 ·cases e
  obtain⟨a,b,rfl,c,t⟩:=Fz r
  exact⟨a,b,rfl,.inl ⟨SqL.of c,λl f=>n.tup s t f⟩⟩
 ·cases e
  obtain⟨a,b,rfl,c,t⟩:=Ja s r;exact⟨a,b,rfl,.inr ⟨SqT.of c,n.same s r⟩⟩
 grind
def B6j (K:v9):R2:=λx y H Q=>B3e K x y H Q\/B3j K x y H Q
def Ai:t6->t6->m5
 | .list ds,.int i=>(atI ds i).map O.im
 | .tuple ds,.int i=>(atI ds i).map O.im
 | _,_=>none
theorem Dv : OpS K (B6j K) Ai:=by
 intro Hf H x y dx dy o Q s i j e n;unfold Ai at e
 split at e
 ·obtain⟨d,g,rfl⟩:=aV.mp e
  obtain⟨a,c,rfl,f,t⟩:=Fz i;obtain⟨v,h,b⟩:=A7z t g;exact .inl ⟨a,c,_,v,rfl,Dh j,SqL.of f,h,n.same s b⟩
 ·obtain⟨d,g,rfl⟩:=aV.mp e
  obtain⟨a,c,rfl,f,t⟩:=Ja s i;obtain⟨v,h,b⟩:=A7z t g;exact .inr ⟨a,c,_,v,rfl,Dh j,SqT.of f,h,n.same s b⟩
 grind
end U
namespace L2
open PySem
section
variable {X:Cx}{a b:Expr}{ta tb:TE}{pos:Pos}
theorem Ax (c:X.K=Kq) (ha:QE X a ta) (hb:QE X b tb) (hs:N8 b):QE X (.Subscript a b pos) (tOp (U.B6j Kq) ta tb):=by
 subst c;exact Bv9 (IxR.or ix_list ix_tup) ha hb hs
end
end L2
namespace U
open PySem L2 PySem.W
section
variable {K:v9}{W:Wo}{c:Ev}
def cFz (f:n7):n7:=λc=>(f c).bind λp c=>(frz (nrm p) c).bind λd c=>.ok (.o (.im d)) c
theorem B4y (h:ME K t f):ME K t (cFz f):=by
 intro y W c x Q R s
 refine h.toV _ W c _ Q R (s.bnd.mono λp n j v u e i k=>?_)
 obtain⟨d,o,r,_,l,w,b,m,g⟩:=Eu i k j.bnd
 have q:=l v _ [] ((e.trans b).less λa z=>z.elim id λz=>nomatch z) m ⟨⟨rfl,g⟩,λa z=>nomatch z⟩
 grind
end
def Ie:t6->Bool
 | .tuple ds=>Ff ds&&PyData.canLayAll0 ds&&decide (PyData.depthAll ds<=6)
 | _=>false
noncomputable def O9:w5->w5->t6->Option t6
 | k::ks,d::ds,z=>if PyData.eqv k z=true then some d else O9 ks ds z
 | _,_,_=>none
theorem Fw (h:Ie k=true):Bv1 k/\∃a,k=.tuple a:=by
 cases k with
 | tuple a =>
  obtain⟨c,d⟩:=aA.mp (show (Ff _&&PyData.canLayAll0 _&&decide _)=true from h)
  obtain⟨e,b⟩:=aA.mp c;exact⟨⟨e,b,iD (aZ d)⟩,a,rfl⟩
 | _=>cases h
mutual
theorem Bb6 {H:Hp}:∀{d:t6}{v:V},keyB d=true->Tr H d v->KTr H d v
 | .none,_,_,h=>h
 | .int _,_,_,h=>h
 | .str _,_,_,h=>h
 | .tuple ds,_,k,⟨a,vs,e,ha,t⟩=>⟨a,vs,e,ha,Az8 k t⟩
theorem Az8 {H:Hp}:∀{ds:w5}{vs:m6},Ff ds=true->TrL H ds vs->KTrL H ds vs
 | [],_,_,h=>h
 | d::ds,_,k,⟨v,r,e,h,t⟩=>by
  obtain⟨k1,k2⟩:=aA.mp (show (keyB d&&Ff ds)=true from k)
  exact⟨v,r,e,Bb6 k1 h,Az8 k2 t⟩
end
theorem Aw9 (h:Ie k=true) (t:Tr H k v):∃b,v=.ref b/\KAt H k b:=by
 obtain⟨c,ds,rfl⟩:=Fw h;obtain⟨a,d,rfl,f,e⟩:=t;exact⟨a,rfl,c,Bb6 c.1 ⟨a,d,rfl,f,e⟩⟩
section
variable {Hf:Hp}
theorem A1x:∀{ks ds:w5}{xs:m6}{z d:t6},(∀k∈ks,Ie k=true)->Ie z=true->TrL Hf ds xs->O9 ks ds z=some d->∃v,Jm (ks.zip xs) z=some v/\Tr Hf d v
 | [],_,_,_,_,_,_,_,e=>nomatch e
 | _::_,[],_,_,_,_,_,_,e=>nomatch e
 | k::ks,d0::ds,_,z,d,hk,hz,⟨v,r,ev,t,ts⟩,e=>by
  subst ev;have b:=(Fw (hk k bV)).1.1;have b2:=(Fw hz).1.1
  have e:(if PyData.eqv k z=true then some d0 else O9 ks ds z)=some d:=e
  by_cases h:PyData.eqv k z=true
  ·rw[if_pos h]at e
   cases e
   exact⟨v,Nj ((Jy k z b b2).mp h),t⟩
  ·rw[if_neg h]at e
   obtain⟨v',h1,h2⟩:=A1x (λk m=>hk k (bD _ m)) hz ts e
   refine⟨v',?_,h2⟩
   rw[cX,Jg (λq=>h ((Jy k z b b2).mpr q))];exact h1
end
inductive DE where
 | d (x:t6)
 | l (xs:w5)
noncomputable def DE.dat:DE->t6
 | .d x=>x
 | .l xs=>.list xs
inductive BR where
 | nx (c:Ev) (ks:w5) (es:List DE)
 | bad
abbrev BF:=Ev->w5->List DE->BR
noncomputable def O3 (k:t6):w5->Option Nat
 | []=>none
 | x::r=>if PyData.eqv x k=true then some 0 else (O3 k r).map (·+1)
noncomputable def Dc (d:Nat) (c:Ev):Bool:=match c[d]? with
 | some none=>true
 | _=>false
theorem Hd (h:Dc d c=true):c[d]?=some none:=by
 unfold Dc at h
 grind
noncomputable def R.toB {α:Type} (r:R α) (k:α->Ev->BR):BR:=match r with
 | .ok a c=>k a c
 | .bad=>.bad
def DE1 (Hf H:Hp):DE->V->v6->Prop
 | .d x,v,fp=>fp=[]/\Tr Hf x v
 | .l xs,v,fp=>∃b us,v=.ref b/\fp=[b]/\H b=some (.lst us)/\TrL Hf xs us
def DX (a:Addr)(X:Nat->v6)(b:Addr):Prop:=b=a\/∃j,b∈X j
structure DB (W:Wo) (a:Addr) (ks:w5) (es:List DE) (X:Nat->v6):Prop where
 at_:∃vs,W.H a=some (.dT (ks.zip vs))/\ks.length=vs.length/\es.length=vs.length/\∀j e,es[j]?=some e->∃v,vs[j]?=some v/\DE1 W.Hf W.H e v (X j)
 fr:∀b,DX a X b->W.Hf b=none/\¬ W.S b
 dis:∀i j b,b∈X i->b∈X j->i=j
 na:∀j,a∉X j
 mu:∀b,DX a X b->∃o,W.H b=some o/\Mut (some o)
 out:∀j,es.length<=j->X j=[]
 ky:∀k∈ks,Ie k=true
 nd:ks.Nodup
abbrev orX (S:Addr->Prop)(a:Addr)(X:Nat->v6):Addr->Prop:=λb=>S b\/DX a X b
def zO (K:v9)(β:Nat->V)(W:Wo)(D:Ends)(d:Nat)(a:Addr)(X:Nat->v6):BR->Prop
 | .nx c' ks' es'=>∀σ' W' X',Stp (orX W.S a X) W.Hf W.H (orX W'.S a X') W'.Hf W'.H->Rep K β W' c' σ'->c'[d]?=some none->σ'[d]?=some (some (.ref a))->DB W' a ks' es' X'->D.nx σ' W'.H
 | .bad=>False
def MB (K:v9)(d:Nat)(T:TS)(F:BF):Prop:=∀(β:Nat->V) (W:Wo) (c:Ev) (σ:St) (D:Ends) (a:Addr) (ks:w5) (es:List DE) (X:Nat->v6),Rep K β W c σ->c[d]?=some none->σ[d]?=some (some (.ref a))->DB W a ks es X ->
 zO K β W D d a X (F c ks es)->T D σ W.H
section
variable {K:v9}{β:Nat->V}{W W1:Wo}{c:Ev}{σ σ':St}{Hf H:Hp}{a:Addr}{ks:w5}{es:List DE}{X X':Nat->v6}{d:Nat}{D:Ends}{fp:v6}
theorem DE1.step {a H':Hp}(h:DE1 Hf H e v fp) (s:Same Hf a) (k:∀b∈fp,H' b=H b):DE1 a H' e v fp:=by
 cases e with
 | d x=>exact⟨h.1,Tr.same s h.2⟩
 | l i =>
  obtain⟨b,c,g,f,j,t⟩:=h
  exact⟨b,c,g,f,by grind,TrL.same s t⟩
theorem DB.step (h:DB W a ks es X) (st:Stp W.S W.Hf W.H S2 W1.Hf W1.H) (g:∀b,W1.S b->S2 b):DB W1 a ks es X:=by
 have d:∀b,DX a X b->W1.H b=W.H b:=λb c=>by
  obtain⟨o,e,_⟩:=h.mu b c;rw[e];exact st.kp b o e (h.fr b c).2
 obtain⟨i,s,l,m,k⟩:=h.at_
 refine⟨⟨i,by rw[d a (.inl rfl)];lia,l,m,λj e p=>?_⟩,λb c=>⟨?_,λz=>?_⟩,h.dis,h.na,λb c=>?_,h.out,h.ky,h.nd⟩
 ·obtain⟨v,n,r⟩:=k j e p
  exact⟨v,n,r.step st.fz λb c=>d b (.inr ⟨j,c⟩)⟩
 ·obtain⟨o,e,f⟩:=h.mu b c
  exact st.nf b o e f (h.fr b c).2 (h.fr b c).1
 ·obtain⟨o,e,_⟩:=h.mu b c
  rcases st.fr b (g b z) with q | q
  ·exact(h.fr b c).2 q
  simp_all
 ·obtain⟨o,e,f⟩:=h.mu b c
  simp_all
theorem Stp.moreX (x:Stp S Hf H S' b H'):Stp (orX S a X) Hf H (orX S' a X) b H':=Stp.more x
theorem zO.step (h:zO K β W D d a X r) (st:Stp (orX W.S a X) W.Hf W.H (orX W1.S a X') W1.Hf W1.H):zO K β W1 D d a X' r:=by
 cases r with
 | nx c j k=>exact λf l m b R g i e=>h _ _ _ (st.trans b) R g i e
 | bad=>exact h
theorem Fq {r:R b}{k:b->Ev->BR}(h:zO K β W D d a X (r.toB k)):r.sat λx c=>zO K β W D d a X (k x c):=by
 cases r with
 | ok x c=>exact h
 | bad=>exact h
noncomputable def Aq1 (F G:BF):BF:=λc ks es=>match F c ks es with
 | .nx c ks es=>G c ks es
 | .bad=>.bad
theorem Ah8 (h1:MB K d t F) (h2:MB K d u G):MB K d (Ax0 t u) (Aq1 F G):=by
 intro o W c q D a v w X R m n i l
 refine h1 _ W c _ _ a _ _ X R m n i ?_
 unfold Aq1 at l
 cases e:F c _ _ with
 | bad=>rw[e]at l;trivial
 | nx x y p =>
  rw[e]at l
  exact λh r s k j b g f=>h2 _ _ _ _ D a _ _ _ j b g f (zO.step l k)
def GFr (d:Nat)(g:TG):Prop:=∀v σ H k,g v σ H (λσ' H'=>σ'[d]?=σ[d]?->k σ' H')->g v σ H k
def A9e (d:Nat)(g:TGs):Prop:=∀vs σ H k,g vs σ H (λσ' H'=>σ'[d]?=σ[d]?->k σ' H')->g vs σ H k
theorem Ji (h:i≠d):GFr d (Gz i):=λv a H k q=>q (cj h)
theorem A2m:A9e d Au8:=λb a H k q=>⟨q.1,q.2 rfl⟩
def A9o (g:TG):Prop:=∀v σ H k k',g v σ H k->(∀σ' H',k σ' H'->k' σ' H')->g v σ H k'
def Af2 (g:TGs):Prop:=∀vs σ H k k',g vs σ H k->(∀σ' H',k σ' H'->k' σ' H')->g vs σ H k'
theorem Fx : A9o (Gz i):=λv b H k a h f=>f _ _ h
theorem Oi:Af2 Au8:=λb c H k a h f=>⟨h.1,f _ _ h.2⟩
theorem Lq (h1:A9o t) (h2:Af2 u):Af2 (Ni t u):=λg c H k d ⟨v,r,e,q⟩ f=>⟨v,r,e,h1 _ _ _ _ _ q λa b q=>h2 _ _ _ _ _ q f⟩
theorem Qp (h1:GFr d t) (b:A9o t) (h2:A9e d u) (f:Af2 u):A9e d (Ni t u):=λi j H k ⟨v,r,e,q⟩ =>
 ⟨v,r,e,h1 v _ H _ (b _ _ _ _ _ q λg l q c=>h2 r _ _ k (f _ _ _ _ _ q λh m q a=>q (a.trans c)))⟩
theorem Br9 (h:A9e d u):GFr d (Av9 K n u):=λv b H k ⟨p,a,e,s,l,q⟩=>⟨p,a,e,s,l,h _ _ H k q⟩
def Qd (f:n7)(g:o5):BF:=λc ks es=>(f c).toB λp c=>(g p c).toB λ_ c=>if Dc d c=true then .nx c ks es else .bad
theorem Ac5 (h:ME K j f) (hg:MG K t g) (hf:GFr d t):MB K d (Ut j t) (Qd (d:=d) f g):=by
 intro C W c G D a y I X R A n o l
 refine h _ W c _ _ R ((Fq l).mono λp H q v B E r m k=>hf _ _ _ _ (hg _ _ _ _ p v _ _ m k ((Fq q).mono λ_ u e s F i w x=>?_)))
 by_cases z:Dc d u=true
 ·rw[if_pos z]at e
  have b:=r.trans i
  exact e _ _ X b.moreX w (Hd z) (x.trans n) (o.step b λ_ z=>z)
 ·rw[if_neg z]at e;trivial
def Wm (g:o5)(F:BF):w5->BF
 | [],c,ks,es=>.nx c ks es
 | x::xs,c,ks,es=>(g (.o (.im x)) c).toB λ_ c=>if Dc d c=true then match F c ks es with
  | .nx c ks es=>Wm g F xs c ks es
  | .bad=>.bad
  else .bad
def Ak7 (fi:Ev->R (w5))(g:o5)(F:BF):BF:=λc ks es=>(fi c).toB λds c=>if Dc d c=true then Wm (d:=d) g F ds c ks es else .bad
theorem Be4 (hi:MI K wi fi) (hg:MG K t g) (hf:GFr d t) (hb:MB K d tb F):MB K d (Bz5 wi t tb) (Ak7 (d:=d) fi g F):=by
 intro A W c C D a ks V X R hc hs hd l
 refine hi A W c C _ R ((Fq l).mono λf c1 O J U L R1 it=>?_)
 by_cases z1:Dc d c1=true
 ·rw[if_pos z1]at O
  have Z:=hd.step L λ_ z=>z
  refine⟨λi m C H=>∃b j B r u,b.H=H/\Rep K A b j C/\m=f.length-i/\i<=f.length/\Same U.Hf b.Hf/\j[d]?=some none/\C[d]?=some (some (.ref a))/\DB b a B r u/\zO K A b D d a u (Wm (d:=d) g F (f.drop i) j B r),
   ⟨_,U,c1,ks,V,X,rfl,R1,rfl,aP _,Same.refl _,Hd z1,hs,Z,zO.step O L.moreX⟩,?_⟩
  rintro i m C H ⟨b,j,B,r,u,rfl,R2,rfl,hle,sm,T,G,I,E⟩
  obtain⟨v,Y⟩:=it i b.Hf b.H sm R2.sub
  by_cases lt:i<f.length
  ·obtain⟨q1,q2⟩:=Y f[i] (bz lt)
   refine .inr ⟨q1,λw p=>∃b j B r u,b.H=p/\Rep K A b j w/\Same U.Hf b.Hf/\j[d]?=some none/\w[d]?=some (some (.ref a))/\DB b a B r u/\zO K A b D d a u (Wm (d:=d) g F (f.drop (i+1)) j B r),
    λw p ⟨W3,c3,k3,e3,X3,y1,S,s3,y2,y3,y4,k⟩=>⟨f.length-(i+1),by lia,W3,c3,k3,e3,X3,y1,S,rfl,by lia,s3,y2,y3,y4,k⟩,λx p hy=>?_⟩
   obtain⟨s,n,M,tx⟩:=q2 x p hy;have S:=n.rep R2 M
   have Q:Stp b.S b.Hf b.H (Wo.S ⟨s,p,b.fps⟩) s p:=⟨n.fz,λa o e _=>n.kp a o e λz=>z,λa o e mu _ q=>n.nf a o e mu (λz=>z) q,λa z=>.inl z⟩
   rw[Sx lt]at E
   have E:zO K A b D d a u ((g (.o (.im f[i])) j).toB λ_ c=>if Dc d c=true then match F c B r with
    | .nx c ks V=>Wm (d:=d) g F (f.drop (i+1)) c ks V
    | .bad=>.bad
    else .bad):=E
   refine hf _ _ _ _ (hg A ⟨s,p,b.fps⟩ j C (.o (.im f[i])) x [] _ S ⟨⟨rfl,tx⟩,λa z=>nomatch z⟩ ((Fq E).mono λ_ c3 k σ3 W3 y R3' es3=>?_))
   have y:=y.up λa z=>by
    rcases z with z | z
    ·exact z
    ·cases z
   have h:=Q.trans y
   by_cases z3:Dc d c3=true
   ·rw[if_pos z3]at k
    refine hb _ _ _ _ _ a _ _ _ R3' (Hd z3) (es3.trans G) (I.step h λ_ z=>z) ?_
    cases eb:F _ _ _ with
    | bad=>rw[eb]at k;exact k.elim
    | nx c4 k4 e4 =>
     rw[eb]at k
     exact λσ4 W4 X4 N R4 hc4 hs4 P=>⟨W4,c4,k4,e4,X4,rfl,R4,sm.trans (h.fz.trans N.fz),hc4,hs4,P,zO.step k (h.moreX.trans N)⟩
   ·rw[if_neg z3]at k;exact k.elim
  ·have e:i=f.length:=by lia
   subst e;rw[jH]at E;exact .inl ⟨v rfl,E _ _ _ Stp.refl R2 T G I⟩
 ·rw[if_neg z1]at O;exact O.elim
end
theorem Og {k:t6}(hk:Ie k=true):∀{ks:w5}{vs:m6}{j:Nat},(∀x∈ks,Ie x=true)->ks.length=vs.length->O3 k ks=some j->ks[j]?=some k/\Jm (ks.zip vs) k=vs[j]?
 | [],_,_,_,_,e=>nomatch e
 | x::ks,[],_,_,l,_=>nomatch l
 | x::ks,v::vs,j,hx,l,e=>by
  have b:=(Fw (hx x bV)).1.1;have b2:=(Fw hk).1.1
  have e:(if PyData.eqv x k=true then some 0 else (O3 k ks).map (·+1))=some j:=e
  by_cases h:PyData.eqv x k=true
  ·rw[if_pos h]at e;cases e
   have:=(Jy x k b b2).mp h;subst this;exact⟨rfl,Nj rfl⟩
  ·rw[if_neg h]at e
   obtain⟨i,e1,rfl⟩:=aV.mp e
   obtain⟨q1,q2⟩:=Og hk (vs:=vs) (λy hy=>hx y (bD _ hy)) (ie l) e1
   refine⟨by simpa using q1,?_⟩
   rw[cX,Jg (λq=>h ((Jy x k b b2).mpr q)),q2];rfl
theorem Kv {k:t6}(hk:Ie k=true):∀{ks:w5}{vs:m6},(∀x∈ks,Ie x=true)->O3 k ks=none->k∉ks/\Jm (ks.zip vs) k=none
 | [],vs,_,_=>⟨(λh=>nomatch h),rfl⟩
 | x::ks,vs,hx,e=>by
  have b:=(Fw (hx x bV)).1.1;have b2:=(Fw hk).1.1
  have e:(if PyData.eqv x k=true then some 0 else (O3 k ks).map (·+1))=none:=e
  by_cases h:PyData.eqv x k=true
  ·rw[if_pos h]at e;cases e
  ·rw[if_neg h]at e
   have e1:O3 k ks=none:=by
    cases q:O3 k ks with
    | none=>rfl
    | some i=>rw[q]at e;cases e
   have ne:x≠k:=λq=>h ((Jy x k b b2).mpr q)
   refine⟨λm=>?_,?_⟩
   ·rcases aD.mp m with m | m
    ·exact ne m.symm
    ·exact(Kv (vs:=[]) hk (λy hy=>hx y (bD _ hy)) e1).1 m
   ·cases vs with
    | nil=>rfl
    | cons v vs =>
     rw[cX,Jg ne]
     exact(Kv hk (λy hy=>hx y (bD _ hy)) e1).2
theorem A1m {k:t6}{v:V}:∀{ks:w5}{vs:m6},k∉ks->(ks.zip vs).map (λkv=>if kv.1=k then (kv.1,v) else kv)=ks.zip vs
 | [],_,_=>rfl
 | _::_,[],_=>rfl
 | x::ks,u::vs,h=>by
  have ne:x≠k:=λq=>h (q▸bV)
  rw[cX,aG,A1m λm=>h (bD _ m)]
  simp[ne]
theorem Bd6 {k:t6}{v:V}:∀{ks:w5}{vs:m6}{j:Nat},ks.Nodup->ks[j]?=some k->(ks.zip vs).map (λkv=>if kv.1=k then (kv.1,v) else kv)=ks.zip (vs.set j v)
 | [],_,_,_,e=>by simp at e
 | _::_,[],_,_,_=>rfl
 | x::ks,u::vs,0,nd,e=>by
  cases (show some x=some k from e)
  rw[cX,aG,A1m (bC.mp nd).1]
  simp
 | x::ks,u::vs,j+1,nd,e=>by
  have e:ks[j]?=some k:=by simpa using e
  have ne:x≠k:=λq=>(bC.mp nd).1 (q▸bh e)
  rw[cX,aG,Bd6 (bC.mp nd).2 e]
  simp[ne]
theorem Bu4 {ks:w5} (a:ks.Nodup) (e:ks[j]?=some k) (hv:Jm (ks.zip vs) k=some u):putK (ks.zip vs) k v=ks.zip (vs.set j v):=by
 unfold putK
 rw[Qx,hv,if_pos (by rfl),Bd6 a e]
theorem Bh5 {ks:w5} (hl:ks.length=vs.length) (hv:Jm (ks.zip vs) k=none):putK (ks.zip vs) k v=(ks++[k]).zip (vs++[v]):=by
 unfold putK;rw[Qx,hv,List.zip_append hl];rfl
section
variable {K:v9}{β:Nat->V}{W W' W1:Wo}{c c':Ev}{σ:St}{Hf H:Hp}{a:Addr}{ks:w5}{es:List DE}{X X':Nat->v6}{d:Nat}{D:Ends}
theorem Ve (R:Rep K β W c σ)(hd:DB W a ks es X) (f:∀b,H' b=W.H b\/DX a X b\/W.H b=none) (h:∀b,DX a X' b->DX a X b\/W.H b=none) :
 Rep K β ⟨W.Hf,H',W.fps⟩ c σ/\Stp (orX W.S a X) W.Hf W.H (orX (Wo.S ⟨W.Hf,H',W.fps⟩) a X') W.Hf H':=by
 refine⟨R.frame (Same.refl _) (λb u e=>?_) λb g=>?_,⟨Same.refl _,λb o e n=>?_,λb o _ _ _ q=>q,λb z=>?_⟩⟩
 ·rcases f b with q | q | q
  ·rw[q];exact R.sub b u e
  ·rw[(hd.fr b q).1]at e;grind
  ·rw[R.notF q]at e;grind
 ·obtain⟨i,d⟩:=g
  obtain⟨z,o,e,_⟩:=R.own i b d
  refine⟨z,?_⟩
  rcases f b with q | q | q
  ·lia
  ·exact absurd ⟨i,d⟩ (hd.fr b q).2
  grind
 ·grind
 ·rcases z with z | z
  ·exact .inl (.inl z)
  grind
theorem Bf7 (h:b∈(λi=>if i=j then [] else X i) i):b∈X i/\i≠j:=by
 grind
def A3o (ks:w5)(es:List DE)(k x:t6):List PyData×List DE:=match O3 k ks with
 | some j=>(ks,es.set j (.d x))
 | none=>(ks++[k],es++[.d x])
def MVB (K:v9)(d:Nat)(T:TE)(f:w5->List DE->Ev->R PV):Prop:=∀(β:Nat->V) (W:Wo) (c:Ev) (σ:St) (Q:VK) (a:Addr) (ks:w5) (es:List DE) (X:Nat->v6),Rep K β W c σ->σ[d]?=some (some (.ref a))->DB W a ks es X ->
 (f ks es c).sat (λp c'=>∀v W',Stp W.S W.Hf W.H W'.S W'.Hf W'.H->Rep K β W' c' σ->RepA K W'.Hf σ (nrm p) v->Q v W'.H)->T σ W.H Q
theorem A8j (h:ME K b f):MVB K d b (λ_ _=>f):=λg W c i Q a j k X R l e s=>h.toV _ W c _ Q R s
def Ap0 (fk:n7)(fv:w5->List DE->Ev->R PV):BF:=λc ks es=>(fv ks es c).toB λq c=>(frz (nrm q) c).toB λx c=>(fk c).toB λp c=>match Ds c (nrm p) with
 | some k=>if (Ie k&&decide (ks.length<16000000)&&Dc d c)=true then .nx c (A3o ks es k x).1 (A3o ks es k x).2 else .bad
 | none=>.bad
theorem A7t (hk:ME K ty fk) (hv:MVB K d tv fv):MB K d (Bg4 (Rw d) ty tv) (Ap0 (d:=d) fk fv):=by
 intro L W c Q D a t E X R hc P hd l
 refine hv L W c Q _ a t E X R P hd ((Fq l).mono λq c1 l1 v W1 S R1 r1=>⟨_,P,?_⟩)
 obtain⟨x,c2,W2,_,l2,e2,V,R2,t2⟩:=Eu R1 r1 (Fq l1);rw[<- e2]
 refine hk.toV L W2 c2 Q _ R2 ((Fq l2).mono λp N h y r H O r3=>?_)
 have t3:Tr r.Hf x v:=Tr.same H.fz t2;have U:=S.trans (V.trans H)
 have f:=hd.step U λ_ z=>z
 cases ek:Ds N (nrm p) with
 | none=>simp only[ek]at h;exact h.elim
 | some k =>
  simp only[ek]at h
  by_cases s:(Ie k&&decide (t.length<16000000)&&Dc d N)=true
  ·rw[if_pos s]at h
   obtain⟨s,J⟩:=aA.mp s;obtain⟨m,A⟩:=aA.mp s;have A:=aZ A;obtain⟨_,kd,ekd⟩:=Fw m
   have tk:Tr r.Hf k y:=by rw[ekd]at ek ⊢;exact Gj O r3 ek
   obtain⟨b,rfl,kb⟩:=Aw9 m tk;obtain⟨w,q1,G,Z,q4⟩:=f.at_
   have zl:(t.zip w).length<sizeLine:=by rw[dY,<- G,fB];exact aH A (by decide)
   have Y:KAt r.H k b:=kb.stay λb xs q=>O.sub _ _ q
   refine⟨a,_,rfl,DPut.t q1 Y zl,?_⟩
   cases ei:O3 k t with
   | some j =>
    have h:zO K L W D d a X (.nx N t (E.set j (.d x))):=by unfold A3o at h;simp only[ei]at h;exact h
    obtain⟨M,T⟩:=Og m f.ky G ei;have hj:j<t.length:=(bG.mp M).1
    have F:j<w.length:=by lia
    rw[Bu4 f.nd M (T.trans (bz F))]
    have n:=Ve (X':=λi=>if i=j then [] else X i) O f (H':=upd r.H a (.dT (t.zip (w.set j v)))) (λb=>by
     by_cases z:b=a
     ·exact .inr (.inl (.inl z))
     ·exact .inl (Ag z)) (λb z=>by
     rcases z with z | ⟨i,z⟩
     ·exact .inl (.inl z)
     ·have z:=Bf7 z
      exact .inl (.inr ⟨i,z.1⟩))
    have I:∀b,DX a (λi=>if i=j then [] else X i) b->DX a X b:=λb z=>by
     rcases z with z | ⟨i,z⟩
     ·exact .inl z
     ·exact .inr ⟨i,(Bf7 z).1⟩
    refine h Q ⟨r.Hf,_,r.fps⟩ _ (U.moreX.trans n.2) n.1 (Hd J) P ⟨⟨w.set j v,Aq,by rw[bQ];exact G,by rw[bQ,bQ];exact Z,λi e g=>?_⟩,λb z=>f.fr b (I b z),λi i' b z z'=>?_,λi z=>?_,λb z=>?_,λi C=>?_,f.ky,f.nd⟩
    ·by_cases z:i=j
     ·subst z
      rw[cA (by lia)]at g
      cases g
      exact⟨v,cA F,by rw[if_pos rfl],t3⟩
     ·rw[cj (aF z)]at g
      obtain⟨u,f1,f2⟩:=q4 i e g
      refine⟨u,by rw[cj (aF z)];exact f1,?_⟩
      rw[if_neg z]
      exact f2.step (Same.refl _) λb s=>Ag (λq=>f.na i (q▸s))
    ·exact f.dis i i' b (Bf7 z).1 (Bf7 z').1
    ·exact f.na i (Bf7 z).1
    ·by_cases q:b=a
     ·rw[q];exact⟨_,Aq,trivial⟩
     ·obtain⟨o,e,mu⟩:=f.mu b (I b z)
      exact⟨o,by show upd r.H a _ b=_;rw[Ag q];exact e,mu⟩
    ·rw[bQ]at C
     show (if i=j then [] else X i)=[]
     split
     ·rfl
     ·exact f.out i C
   | none =>
    have h:zO K L W D d a X (.nx N (t++[k]) (E++[.d x])):=by unfold A3o at h;simp only[ei]at h;exact h
    obtain⟨M,T⟩:=Kv (vs:=w) m f.ky ei;rw[Bh5 G T]
    have n:=Ve (X':=X) O f (H':=upd r.H a (.dT ((t++[k]).zip (w++[v])))) (λb=>by
     by_cases z:b=a
     ·exact .inr (.inl (.inl z))
     ·exact .inl (Ag z)) (λb z=>.inl z)
    refine h Q ⟨r.Hf,_,r.fps⟩ X (U.moreX.trans n.2) n.1 (Hd J) P ⟨⟨w++[v],Aq,by rw[aK,aK,G];rfl,by rw[aK,aK,Z];rfl,λi e g=>?_⟩,f.fr,f.dis,f.na,λb z=>?_,λi C=>f.out i (by rw[aK]at C;exact eX C),λx B=>?_,?_⟩
    ·by_cases z:i<E.length
     ·rw[dF z]at g
      obtain⟨u,f1,f2⟩:=q4 i e g
      refine⟨u,by rw[dF (by lia)];exact f1,?_⟩
      exact f2.step (Same.refl _) λb s=>Ag (λq=>f.na i (q▸s))
     ·rw[dX (by lia)]at g
      have C:i=E.length:=by
       rcases j6 (i-E.length) 1 with q | q
       ·lia
       ·rw[j7 (by simpa using q)]at g;cases g
      subst C;rw[dD]at g
      cases g
      refine⟨v,by rw[Z,dX (au _),dD];rfl,f.out _ (au _),t3⟩
    ·by_cases q:b=a
     ·rw[q];exact⟨_,Aq,trivial⟩
     ·obtain⟨o,e,mu⟩:=f.mu b z
      exact⟨o,by show upd _ a _ b=_;rw[Ag q];exact e,mu⟩
    ·rcases bJ.mp B with B | B
     ·exact f.ky x B
     ·rw[aN.mp B];exact m
    ·rw[fC]
     refine⟨f.nd,by simp,λx B y hy e=>?_⟩
     rw[aN.mp hy]at e;exact M (e▸B)
  ·rw[if_neg s]at h;exact h.elim
end
section
variable {K:v9}{β:Nat->V}{W W1:Wo}{c:Ev}{σ:St}{Hf H:Hp}{a:Addr}{ks:w5}{es:List DE}{X X':Nat->v6}{d:Nat}{D:Ends}
noncomputable def B5y:Option DE->Option (w5)
 | some (.l xs)=>some xs
 | _=>none
def Su (ks:w5)(es:List DE)(k:t6):List PyData×List DE×Nat:=match O3 k ks with
 | some j=>(ks,es,j)
 | none=>(ks++[k],es++[.l []],ks.length)
def Bd2 (fk fv:n7):BF:=λc ks es=>(fk c).toB λp c=>match Ds c (nrm p) with
 | some k=>if (Ie k&&decide (ks.length<16000000))=true then match B5y ((Su ks es k).2.1[(Su ks es k).2.2]?) with
  | some xs=>(fv c).toB λq c=>(frz (nrm q) c).toB λx c=>if (decide (xs.length<16000000)&&Dc d c)=true then .nx c (Su ks es k).1 ((Su ks es k).2.1.set (Su ks es k).2.2 (.l (xs++[x]))) else .bad
  | none=>.bad
  else .bad
 | none=>.bad
theorem Al1 (he:ME K P fe) (R:Rep K β W c σ) (hs:σ[d]?=some (some (.ref a))) (hd:DB W a ks es X) (H:es[j]?=some (.l xs)) (hl:X j=[l])
 (L:zO K β W D d a X ((fe c).toB λq c=>(frz (nrm q) c).toB λx c=>if (decide (xs.length<16000000)&&Dc d c)=true then .nx c ks (es.set j (.l (xs++[x]))) else .bad)) :
 tyV K "list" (.ref l) W.H/\Bv P Fb σ W.H λxs H2=>rAppF (.ref l) xs H2 λ_ C=>D.nx σ C:=by
 have g:∀{W:Wo},DB W a ks es X->∃h,W.H l=some (.lst h)/\TrL W.Hf xs h:=λ{W} hd=>by
  obtain⟨Q,O,T,J,s⟩:=hd.at_;obtain⟨v,y,b,h,rfl,k,N,I⟩:=s j _ H;rw[hl]at k
  cases k
  exact⟨h,N,I⟩
 obtain⟨E,h0,_⟩:=g hd
 refine⟨.inl ⟨rfl,E,SqL.of h0⟩,?_⟩
 refine he.toV β W c σ _ R ((Fq L).mono λq c1 V v W1 A R1 r1=>?_)
 obtain⟨x,c2,G,_,r,e2,B,Y,Z⟩:=Eu R1 r1 (Fq V);have M:=A.trans B
 have f:=hd.step M λ_ z=>z
 obtain⟨h,h2,t⟩:=g f
 by_cases p:(decide (xs.length<16000000)&&Dc d c2)=true
 ·rw[if_pos p]at r
  obtain⟨m,F⟩:=aA.mp p;have m:=aZ m
  show rAppF (.ref l) [v] W1.H λ_ C=>D.nx σ C
  rw[<- e2]
  refine⟨l,v,h,rfl,rfl,h2,by rw[<- t.length];exact aH m (by decide),?_⟩
  have lX:DX a X l:=.inr ⟨j,by rw[hl];exact .head _⟩
  have la:l≠a:=λz=>f.na j (by rw[hl,<- z];exact .head _)
  have n:=Ve (X':=X) Y f (H':=upd G.H l (.lst (h++[v]))) (λb=>by
   by_cases z:b=l
   ·rw[z];exact .inr (.inl lX)
   ·exact .inl (Ag z)) (λb z=>.inl z)
  obtain⟨Q,O,T,J,s⟩:=f.at_;have hj:j<es.length:=(bG.mp H).1
  refine r σ ⟨G.Hf,_,G.fps⟩ X (M.moreX.trans n.2) n.1 (Hd F) hs ⟨⟨Q,by show upd _ l _ a=_;rw[Ag (aF la)];exact O,T,by rw[bQ];exact J,λi e w=>?_⟩,f.fr,f.dis,f.na,λb z=>?_,λi S=>f.out i (by rw[bQ]at S;exact S),f.ky,f.nd⟩
  ·by_cases z:i=j
   ·subst z
    rw[cA hj]at w
    cases w
    obtain⟨v0,y,b,us1,rfl,k,N,I⟩:=s i _ H;rw[hl]at k
    cases k
    exact⟨_,y,l,h++[v],rfl,hl,Aq,t.app (TrL.one Z)⟩
   ·rw[cj (aF z)]at w
    obtain⟨u,y,k⟩:=s i e w
    exact⟨u,y,k.step (Same.refl _) λb p=>Ag λq=>z (f.dis i j b p (by rw[hl,q];exact .head _))⟩
  ·by_cases q:b=l
   ·rw[q];exact⟨_,Aq,trivial⟩
   ·obtain⟨o,e,U⟩:=f.mu b z
    exact⟨o,by show upd _ l _ b=_;rw[Ag q];exact e,U⟩
 ·rw[if_neg p]at r;exact r.elim
theorem B3u (hk:ME K ty fk) (he:ME K te fe):MB K d (A7c (tBM K "list" rAppF (Bx7 (Rw d) ty (A7d Fb)) (Bv te Fb))) (Bd2 (d:=d) fk fe):=by
 intro β W c σ D a m F X R hc hs hd l
 refine⟨_,hs,a,rfl,.inr (let ⟨C,q,_⟩:=hd.at_; ⟨_,.inl q⟩),?_⟩
 refine hk.toV β W c σ _ R ((Fq l).mono λp c1 r y s J P r1=>?_)
 refine⟨show 0<=sizeLine from aP _,λg n=>?_⟩
 have f:=hd.step J λ_ z=>z
 cases ek:Ds c1 (nrm p) with
 | none=>simp only[ek]at r;exact r.elim
 | some k =>
  simp only[ek]at r
  by_cases I:(Ie k&&decide (m.length<16000000))=true
  ·rw[if_pos I]at r
   obtain⟨t,N⟩:=aA.mp I;have N:=aZ N;obtain⟨_,kd,ekd⟩:=Fw t
   have tk:Tr s.Hf k y:=by rw[ekd]at ek ⊢;exact Gj P r1 ek
   obtain⟨b,rfl,kb⟩:=Aw9 t tk;obtain⟨C,q1,B,q3,q4⟩:=f.at_
   have zl:(m.zip C).length<sizeLine:=by rw[dY,<- B,fB];exact aH N (by decide)
   have S:a≠g:=λz=>by rw[<- z,q1]at n;cases n
   have A:∀b,DX a X b->b≠g:=λb z q=>by
    obtain⟨o,e,_⟩:=f.mu b z;rw[q,n]at e;cases e
   have G:=Ve (X':=X) P f (H':=upd s.H g (.lst [])) (λb=>by
    by_cases z:b=g
    ·rw[z];exact .inr (.inr n)
    ·exact .inl (Ag z)) (λb z=>.inl z)
   have hd2:DB ⟨s.Hf,upd s.H g (.lst []),s.fps⟩ a m F X :=
    ⟨⟨
     C,by show upd s.H g _ a=_;rw[Ag S];exact q1,B,q3,λi e E=>by
     obtain⟨u,V,U⟩:=q4 i e E
     exact⟨u,V,U.step (Same.refl _) λb I=>Ag (A b (.inr ⟨i,I⟩))⟩⟩,f.fr,f.dis,f.na,λb z=>by
     obtain⟨o,e,mu⟩:=f.mu b z
     exact⟨o,by show upd s.H g _ b=_;rw[Ag (A b z)];exact e,mu⟩,f.out,f.ky,f.nd⟩
   have kb':KAt (upd s.H g (.lst [])) k b:=kb.stay λb xs q=>by
    have:=P.sub _ _ q;rw[Ag];exact this;intro z;rw[z,n]at this;cases this
   refine⟨m.zip C,k,b,rfl,by rw[Ag S];exact q1,kb',zl,λv L=>?_,λL=>?_⟩
   ·-- there
    cases E:O3 k m with
    | none=>rw[(Kv (vs:=C) t f.ky E).2]at L;cases L
    | some j =>
     unfold Su at r;simp only[E]at r;obtain⟨Y,i2⟩:=Og t f.ky B E
     cases eE:F[j]? with
     | none=>rw[eE]at r;exact r.elim
     | some en =>
      rw[eE]at r
      cases en with
      | d x=>exact r.elim
      | l xs =>
       obtain⟨u,V,lb,us,rfl,U,f3,f4⟩:=q4 j _ eE;rw[i2,V]at L
       cases L
       exact Al1 he G.1 hs hd2 eE U (zO.step r (J.moreX.trans G.2))
   ·-- not there
    cases E:O3 k m with
    | some j =>
     obtain⟨Y,i2⟩:=Og t f.ky B E;have hj:j<m.length:=(bG.mp Y).1
     rw[i2,bz (by lia)]at L;cases L
    | none =>
     unfold Su at r;simp only[E]at r;obtain⟨Y,i2⟩:=Kv (vs:=C) t f.ky E;have T:m.length=F.length:=B.trans q3.symm
     have ej:(F++[DE.l []])[m.length]?=some (.l []):=by rw[T,dX (au _),dD];rfl
     rw[ej]at r
     have M:∀i b,b∈(λi=>if i=m.length then [g] else X i) i->(i=m.length/\b=g)\/(i≠m.length/\b∈X i):=λi b h=>by
      have h:b∈if i=m.length then [g] else X i:=h
      split at h
      ·rename_i q;exact .inl ⟨q,aN.mp h⟩
      ·rename_i q;exact .inr ⟨q,h⟩
     have H:=Ve (X':=λi=>if i=m.length then [g] else X i) P f (H':=upd (upd s.H g (.lst [])) a (.dT (m.zip C++[(k,.ref g)]))) (λb=>by
      by_cases z:b=a
      ·exact .inr (.inl (.inl z))
      ·by_cases z2:b=g
       ·rw[z2];exact .inr (.inr n)
       ·exact .inl (by rw[Ag z,Ag z2])) (λb z=>by
      rcases z with z | ⟨i,z⟩
      ·exact .inl (.inl z)
      ·rcases M i b z with ⟨_,q⟩ | ⟨_,q⟩
       ·rw[q];exact .inr n
       ·exact .inl (.inr ⟨i,q⟩))
     have hd3:DB ⟨s.Hf,upd (upd s.H g (.lst [])) a (.dT (m.zip C++[(k,.ref g)])),s.fps⟩ a (m++[k]) (F++[.l []]) (λi=>if i=m.length then [g] else X i):=by
      refine⟨⟨C++[.ref g],?_,by rw[aK,aK,B];rfl,by rw[aK,aK,q3];rfl,λi e w=>?_⟩,λb z=>?_,λi i' b z z'=>?_,λi z=>?_,λb z=>?_,λi Z=>?_,λx O=>?_,?_⟩
      ·show upd _ a _ a=_
       rw[Aq,List.zip_append B];rfl
      ·by_cases z:i<F.length
       ·rw[dF z]at w
        obtain⟨u,V,U⟩:=q4 i e w
        refine⟨u,by rw[dF (by lia)];exact V,?_⟩
        rw[if_neg (by lia)]
        exact U.step (Same.refl _) λb I=>by
         show upd (upd s.H g _) a _ b=_
         have na:b≠a:=λq=>f.na i (q▸I)
         rw[Ag na,Ag (A b (.inr ⟨i,I⟩))]
       ·rw[dX (by lia)]at w
        have Z:i=F.length:=by
         rcases j6 (i-F.length) 1 with q | q
         ·lia
         ·rw[j7 (by simpa using q)]at w;cases w
        subst Z;rw[dD]at w
        cases w
        refine⟨.ref g,by rw[q3,dX (au _),dD];rfl,g,[],rfl,by rw[if_pos T.symm],?_,rfl⟩
        show upd (upd s.H g _) a _ g=_
        rw[Ag (aF S),Aq]
      ·rcases z with z | ⟨i,z⟩
       ·exact f.fr b (.inl z)
       ·rcases M i b z with ⟨_,q⟩ | ⟨_,q⟩
        ·rw[q];exact⟨P.notF n,P.notS n⟩
        ·exact f.fr b (.inr ⟨i,q⟩)
      ·rcases M i b z with ⟨q,p1⟩ | ⟨q,p1⟩
       ·rcases M i' b z' with ⟨q',Q⟩ | ⟨q',Q⟩
        ·rw[q,q']
        ·exact absurd p1 (A b (.inr ⟨i',Q⟩))
       ·rcases M i' b z' with ⟨q',Q⟩ | ⟨q',Q⟩
        ·exact absurd Q (A b (.inr ⟨i,p1⟩))
        ·exact f.dis i i' b p1 Q
      ·rcases M i a z with ⟨_,q⟩ | ⟨_,q⟩
       ·exact S q
       ·exact f.na i q
      ·by_cases q:b=a
       ·rw[q];exact⟨_,Aq,trivial⟩
       ·by_cases B:b=g
        ·rw[B];exact⟨.lst [],by show upd (upd s.H g _) a _ g=_;rw[Ag (aF S),Aq],trivial⟩
        ·have zX:DX a X b:=by
          rcases z with z | ⟨i,z⟩
          ·exact .inl z
          ·rcases M i b z with ⟨_,q⟩ | ⟨_,q⟩
           ·exact absurd q B
           ·exact .inr ⟨i,q⟩
         obtain⟨o,e,mu⟩:=f.mu b zX
         exact⟨o,by show upd (upd s.H g _) a _ b=_;rw[Ag q,Ag B];exact e,mu⟩
      ·rw[aK]at Z
       show (if i=m.length then [g] else X i)=[]
       have:F.length+1<=i:=Z
       rw[if_neg (by lia)]
       exact f.out i (by lia)
      ·rcases bJ.mp O with O | O
       ·exact f.ky x O
       ·rw[aN.mp O];exact t
      ·rw[fC]
       refine⟨f.nd,by simp,λx O y hy e=>?_⟩
       rw[aN.mp hy]at e;exact Y (e▸O)
     exact Al1 he H.1 hs hd3 ej (by rw[if_pos rfl]) (zO.step r (J.moreX.trans H.2))
  ·rw[if_neg I]at r;exact r.elim
end
theorem A0e {H:Hp}:∀{ds:w5}{vs:m6},ds.length=vs.length->(∀(j:Nat) (x:t6) (v:V),ds[j]?=some x->vs[j]?=some v->Tr H x v)->TrL H ds vs
 | [],[],_,_=>rfl
 | [],_::_,l,_=>nomatch l
 | _::_,[],l,_=>nomatch l
 | x::ds,v::vs,l,h=>⟨v,vs,rfl,h 0 x v rfl rfl,A0e (ie l) λj y u e1 e2=>h (j+1) y u (by simpa using e1) (by simpa using e2)⟩
section
variable {K:v9}{β:Nat->V}{W:Wo}{c:Ev}{σ:St}{Hf H:Hp}{a:Addr}{ks:w5}{es:List DE}{X:Nat->v6}{d:Nat}{D:Ends}
open Classical in
noncomputable def Uv (W:Wo) (a:Addr) (u:HO) (X:Nat->v6):Hp:=λb=>if b=a then some u else if ∃j,b∈X j then W.H b else W.Hf b
theorem A7u : Uv W a u X a=some u:=by unfold Uv;grind
theorem A0v (n:b≠a) (h:b∈X j):Uv W a u X b=W.H b:=by unfold Uv;rw[if_neg n,if_pos ⟨j,h⟩]
theorem Qw (h:¬ DX a X b):Uv W a u X b=W.Hf b:=by unfold Uv;rw[if_neg λz=>h (.inl z),if_neg λz=>h (.inr z)]
theorem DB.same (hd:DB W a ks es X):Same W.Hf (Uv W a u X):=λb u e=>by
 rw[Qw];exact e;intro z;rw[(hd.fr b z).1]at e;grind
theorem DB.sub (hd:DB W a ks es X) (R:Rep K β W c σ):Same (Uv W a u X) (upd W.H a u):=λb v e=>by
 by_cases z0:b=a
 ·subst z0;rw[A7u]at e;rw[Aq];lia
 ·rw[Ag z0]
  by_cases z:DX a X b
  ·rcases z with z | ⟨j,z⟩
   ·grind
   ·rw[A0v z0 z]at e;grind
  ·rw[Qw z]at e;exact R.sub b v e
theorem DB.done (hd:DB W a ks es X) (hv:W.H a=some (.dT (ks.zip vs))) (hl:ks.length=vs.length):RepT K (Uv W a (.frz o (.dT (ks.zip vs))) X) (.ds ks (es.map DE.dat)) (.ref a):=by
 obtain⟨c,f,g,q3,s⟩:=hd.at_
 have n:c=vs:=by
  rw[hv]at f
  have e:=bY (λx => x.map (·.2)) (show ks.zip _=ks.zip _ from by injection bT f)
  simp only[List.map_snd_zip (dO hl.symm),List.map_snd_zip (dO g.symm)]at e
  simp_all
 subst n
 refine⟨a,o,c,rfl,A7u,A0e (by grind) λj x v i w=>?_,g⟩
 rw[bK]at i;obtain⟨e,p,rfl⟩:=aV.mp i;obtain⟨u,h,k⟩:=s j e p;rw[w]at h
 cases h
 cases e with
 | d x=>exact Tr.same hd.same k.2
 | l xs =>
  obtain⟨b,q,rfl,g1,g2,t⟩:=k
  have m:b∈X j:=by simp_all
  have r:b≠a:=λz=>hd.na j (z▸m)
  exact⟨b,q,rfl,by rw[A0v r m];grind,TrL.same hd.same t⟩
theorem Rep.hide (R:Rep K β W c σ) (hp:W.H p=none):Rep K β ⟨W.Hf,upd W.H p o,clr W.fps d⟩ (c.set d none) (σ.set d (some v)):=by
 refine⟨Qy R.sub hp,by rw[bQ,bQ];exact R.len,λj f e=>?_,λj k a m n=>R.dis j k a (Ej m).1 (Ej n).1,λj a h=>?_⟩
 ·have z:j≠d:=λz=>by
   grind
  rw[cj (λy=>z y.symm)]at e
  obtain⟨g,w,r,b⟩:=R.get j f e
  refine⟨g,by grind,?_,b⟩
  show RepO K W.Hf (upd W.H p o) f g (clr W.fps d j)
  have s:clr W.fps d j=W.fps j:=by unfold clr;rw[if_neg z]
  rw[s]
  exact r.mono (Same.refl _) λa i=>⟨(R.own j a i).1,Ag λq=>by obtain⟨_,o,e,_⟩:=R.own j a i;rw[q,hp]at e;cases e⟩
 ·obtain⟨t,f,u,l⟩:=R.own j a (Ej h).1
  exact⟨t,f,by show upd _ p o a=_;rw[Ag λq=>by simp_all];exact u,l⟩
def J3 (d:Nat)(F:BF)(g:Ev->SR):Ev->SR:=λc=>if Dc d (c.set d none)=true then match F (c.set d none) [] [] with
 | .nx c ks es=>g (c.set d (some (.ty (.ds ks (es.map DE.dat)))))
 | .bad=>.bad
 else .bad
theorem Am4 (h1:MB K d T F) (h2:MS K u g):MS K (Ax0 (Ut Af7 (Gz d)) (tFz d T u)) (J3 d F g):=by
 intro C W c J D R l
 show ∀p,W.H p=none->T { D with nx:=λw M=>∃a kvs,w[d]?=some (some (.ref a))/\M a=some (.dT kvs)/\∀o,u D w (upd M a (.frz o (.dT kvs))) } (J.set d (some (.ref p))) (upd W.H p (.dT []))
 intro p A;unfold J3 at l
 by_cases z:Dc d (c.set d none)=true
 ·rw[if_pos z]at l
  have hc:=Hd z
  have H:d<c.length:=by
   grind
  have Z:(J.set d (some (.ref p)))[d]?=some (some (V.ref p)):=cA (by rw[<- R.len];exact H)
  have R1:Rep K C ⟨W.Hf,upd W.H p (.dT []),clr W.fps d⟩ (c.set d none) (J.set d (some (.ref p))):=R.hide A
  have x:∀b,DX p (λ_=>[]) b->b=p:=λb z=>by
   rcases z with z | ⟨_,z⟩
   ·exact z
   ·cases z
  have U:∀b,Wo.S ⟨W.Hf,upd W.H p (.dT []),clr W.fps d⟩ b->W.S b:=λb ⟨j,h⟩=>⟨j,(Ej h).1⟩
  have S:DB ⟨W.Hf,upd W.H p (.dT []),clr W.fps d⟩ p [] [] (λ_=>[]) :=
   ⟨⟨[],Aq,rfl,rfl,λj e ej=>by simp at ej⟩,λb z=>by rw[x b z];exact⟨R.notF A,λq=>R.notS A (U p q)⟩,λi j b z=>(by cases z),λj z=>(by cases z),λb z=>by rw[x b z];exact⟨_,Aq,trivial⟩,λ_ _=>rfl,λk Y=>(by cases Y),eU⟩
  have I:Stp W.S W.Hf W.H (orX (Wo.S ⟨W.Hf,upd W.H p (.dT []),clr W.fps d⟩) p (λ_=>[])) W.Hf (upd W.H p (.dT [])) :=
   ⟨Same.refl _,λb o e _=>by rw[Ag (λq=>by rw[q,A]at e;cases e)];exact e,λ_ _ _ _ _ q=>q,λb z=>by
    grind⟩
  refine h1 C _ _ _ _ p [] [] _ R1 hc Z S ?_
  cases eF:F (c.set d none) [] [] with
  | bad=>rw[eF]at l;exact l.elim
  | nx c2 r es =>
   rw[eF]at l;intro s m y st G X E f;obtain⟨t,N,q2,_,_⟩:=f.at_
   refine⟨p,r.zip t,E,N,λo=>?_⟩
   have R3:Rep K C ⟨Uv m p (.frz o (.dT (r.zip t))) y,upd m.H p (.frz o (.dT (r.zip t))),m.fps⟩ c2 s:=G.frame f.same (f.sub G) λb O=>by
    have P:¬ DX p y b:=λz=>(f.fr b z).2 O
    obtain⟨i,hi⟩:=O
    exact⟨by rw[Qw P];exact(G.own i b hi).1,Ag (λz=>P (.inl z))⟩
   have Q:=R3.setN (i:=d) (o:=.ty (.ds r (es.map DE.dat))) (v:=.ref p) (f.done (K:=K) N q2) rfl
   have L:s.set d (some (.ref p))=s:=by
    apply j5
    grind
   rw[L]at Q
   have B:Stp (orX m.S p y) m.Hf m.H (Wo.S ⟨Uv m p (.frz o (.dT (r.zip t))) y,upd m.H p (.frz o (.dT (r.zip t))),clr m.fps d⟩) (Uv m p (.frz o (.dT (r.zip t))) y) (upd m.H p (.frz o (.dT (r.zip t)))) :=
    ⟨f.same,λb o e n=>by rw[Ag λz=>n (.inr (.inl z))];exact e,λb o _ _ n q=>by rw[Qw λz=>n (.inr z)];exact q,λb ⟨j,h⟩=>.inl (.inl ⟨j,(Ej h).1⟩)⟩
   exact h2 _ _ _ _ D Q (zM.step l (I.trans (st.trans B)))
 ·rw[if_neg z]at l;exact l.elim
def Iz (fa fw fx:n7):n7:=λc=>(fa c).bind λp c=>match p with
 | .o (.ty (.ds ks ds))=>(fw c).bind λq c=>(fx c).bind λr c=>(frz (nrm r) c).bind λx c=>match Ds c (nrm q) with
  | some k=>if (Ie k&&ks.all Ie)=true then .ok (.o (.im ((O9 ks ds k).getD x))) c else .bad
  | none=>.bad
 | _=>.bad
theorem W8:∀{ks ds:w5}{xs:m6}{z:t6},(∀k∈ks,Ie k=true)->Ie z=true->ds.length=xs.length->ks.length=xs.length->O9 ks ds z=none->Jm (ks.zip xs) z=none
 | [],_,_,_,_,_,_,_,_=>rfl
 | _::_,[],[],_,_,_,_,h,_=>nomatch h
 | _::_,[],_::_,_,_,_,h,_,_=>nomatch h
 | _::_,_::_,[],_,_,_,h,_,_=>nomatch h
 | k::ks,d0::ds,v::xs,z,hk,hz,l1,l2,e=>by
  have b:=(Fw (hk k bV)).1.1;have b2:=(Fw hz).1.1
  have e:(if PyData.eqv k z=true then some d0 else O9 ks ds z)=none:=e
  by_cases h:PyData.eqv k z=true
  ·rw[if_pos h]at e;cases e
  ·rw[if_neg h]at e
   rw[cX,Jg (λq=>h ((Jy k z b b2).mpr q))]
   exact W8 (λk m=>hk k (bD _ m)) hz (ie l1) (ie l2) e
theorem Ai2 {H N L:TE} (ha:ME K H fa) (hw:ME K N fw) (hx:ME K L fx):ME K (Ag8 H N L) (Iz fa fw fx):=by
 intro G W c F Q R s
 refine ha G W c F _ R ((s.bnd).mono λp c1 f v1 A Y l M g=>?_)
 match p,g,f with
 | .o (.ty (.ds ks ds)),g,f =>
  obtain⟨⟨rfl,a,I,P,rfl,O,S,T⟩,_⟩:=g
  have l:Stp W.S W.Hf W.H A.S A.Hf A.H:=l.less λa z=>.inl z
  refine⟨a,rfl,.inr ⟨_,.inr ⟨I,M.sub _ _ O⟩⟩,?_⟩
  refine hw.toV G A c1 F _ M ((f.bnd).mono λq c2 s2 V W2 C R2 B=>?_)
  refine hx.toV G W2 c2 F _ R2 ((s2.bnd).mono λr c3 U v3 W3 n Z r3=>?_)
  obtain⟨x,c4,J,_,j,e4,u,y,X⟩:=Eu Z r3 U.bnd;have D:=C.trans (n.trans u);have B:=RepA.same (n.fz.trans u.fz) B;rw[<- e4]
  cases ed:Ds c4 (nrm q) with
  | none=>simp only[ed]at j;exact j.elim
  | some k =>
   simp only[ed]at j
   by_cases hb:(Ie k&&ks.all Ie)=true
   ·rw[if_pos hb]at j
    obtain⟨w,i⟩:=aA.mp hb
    have i:∀k∈ks,Ie k=true:=λk m=>bL.mp i k m
    obtain⟨_,kd,E⟩:=Fw w
    have tz:Tr J.Hf k V:=by rw[E]at ed ⊢;exact Gj y B ed
    obtain⟨b,rfl,kb⟩:=Aw9 w tz;have e2:Rd J.H a (.dT _):=.inr ⟨I,y.sub _ _ (D.fz _ _ O)⟩
    have o:∀d v,Tr _ d v->(O9 _ _ k).getD x=d->Q v _:=λd v t e=>by
     rw[e]at j
     exact j v _ _ ((l.trans D).less λa h=>by
      rcases h with h | h
      ·exact h
      ·cases h) y ⟨⟨rfl,t⟩,λa h=>nomatch h⟩
    refine⟨_,.inr ⟨_,_,b,e2,rfl,kb.stay λb P q=>y.sub _ _ q,rfl⟩,?_⟩
    cases el:O9 _ _ k with
    | some d =>
     obtain⟨v,q1,q2⟩:=A1x i w (TrL.same D.fz S) el;rw[q1]
     exact o d v q2 (by rw[el];rfl)
    | none =>
     rw[W8 i w S.length T el]
     exact o x _ X (by rw[el];rfl)
   ·rw[if_neg hb]at j;exact j.elim
 | .o (.ty (.nm _)),g,f=>exact f.elim
 | .o (.ty (.tc _)),g,f=>exact f.elim
 | .o (.ty (.xc _)),g,f=>exact f.elim
 | .o (.ty (.dc _ _)),g,f=>exact f.elim
 | .o (.ty (.dt _ _)),g,f=>exact f.elim
 | .o (.ty (.td _ _ _)),g,f=>exact f.elim
 | .o (.im _),g,f=>exact f.elim
 | .o (.ls _ _),g,f=>exact f.elim
 | .o (.sc _),g,f=>exact f.elim
 | .sl _,g,f=>exact f.elim
end
section
variable {K:v9}{W W':Wo}{c:Ev}{Hf H:Hp}
noncomputable def Yn (Hf H:Hp):Hp:=λb=>match H b with
 | some (.tup xs)=>some (.tup xs)
 | _=>Hf b
theorem Rx (e:H b=some (.tup xs)):Yn Hf H b=some (.tup xs):=by unfold Yn;rw[e]
theorem Wy (h:∀xs,H b≠some (.tup xs)):Yn Hf H b=Hf b:=by
 unfold Yn
 grind
theorem Y5 (s:Same Hf H):Same Hf (Yn Hf H):=λb u e=>by
 by_cases h:∃a,H b=some (.tup a)
 ·obtain⟨a,c⟩:=h
  rw[Rx c,<- c];exact s b u e
 ·rw[Wy λa q=>h ⟨a,q⟩];grind
theorem Wg (s:Same Hf H):Same (Yn Hf H) H:=λb u e=>by
 by_cases h:∃a,H b=some (.tup a)
 ·obtain⟨a,c⟩:=h
  rw[Rx c]at e;grind
 ·rw[Wy λa q=>h ⟨a,q⟩]at e;exact s b u e
theorem Xc (s:Same Hf H):Stp (λ_=>False) Hf H (λ_=>False) (Yn Hf H) H :=
 ⟨Y5 s,λ_ _ e _=>e,λb o e a _ q=>by
  rw[Wy λc z=>by rw[e]at z;cases z;exact a];grind,λ_ z=>z.elim⟩
mutual
theorem Ac1 {H':Hp}(h:∀b xs,H b=some (.tup xs)->H' b=some (.tup xs)):∀{d:t6}{v:V},KTr H d v->Tr H' d v
 | .none,_,e=>e
 | .int _,_,e=>e
 | .str _,_,e=>e
 | .tuple _,_,⟨a,vs,e,ha,t⟩=>⟨a,vs,e,h _ _ ha,A0p h t⟩
theorem A0p {H':Hp}(h:∀b xs,H b=some (.tup xs)->H' b=some (.tup xs)):∀{ds:w5}{vs:m6},KTrL H ds vs->TrL H' ds vs
 | [],_,e=>e
 | _::_,_,⟨v,r,e,a,t⟩=>⟨v,r,e,Ac1 h a,A0p h t⟩
end
theorem Az0 {ks:w5}{xs:m6}{i:Nat} (e:(ks.zip xs)[i]?=some (k,v)):ks[i]?=some k/\xs[i]?=some v:=by
 grind
def Ac7 (fa:n7):Ev->R (w5):=λc=>(fa c).bind λp c=>match p with
 | .o (.ty (.ds ks _))=>.ok ks c
 | _=>.bad
theorem A8q (ha:ME K r fa):MI K (iDK r) (Ac7 fa):=by
 intro D W c w k R s
 refine ha D W c w _ R ((s.bnd).mono λp c1 f v1 m y h t g=>?_)
 match p,g,f with
 | .o (.ty (.ds ks ds)),g,f =>
  obtain⟨⟨rfl,a,o,j,rfl,n,t1,l1⟩,_⟩:=g
  have h:Stp W.S W.Hf W.H m.S m.Hf m.H:=h.less λa z=>.inl z
  have lz:(ks.zip j).length=ks.length:=by simp_all
  refine⟨a,o,ks.zip j,rfl,t.sub _ _ n,f (Itk a o) m h t λi C H q l=>⟨λe=>⟨ks.zip j,l _ _ (q _ _ n),by simp_all⟩,λd B=>⟨⟨ks.zip j,l _ _ (q _ _ n),by grind⟩,λx H' E=>?_⟩⟩⟩
  obtain⟨rfl,A,k',v,b,G,F,rfl,I⟩:=E
  cases (G.symm.trans (l _ _ (q _ _ n)))
  obtain⟨u,_⟩:=Az0 F
  cases B.symm.trans u
  exact⟨Yn _ _,Xc l,Wg l,Ac1 (λb j e=>Rx e) I.2⟩
 | .o (.ty (.nm _)),g,f=>trivial
 | .o (.ty (.tc _)),g,f=>trivial
 | .o (.ty (.xc _)),g,f=>exact f.elim
 | .o (.ty (.dc _ _)),g,f=>exact f.elim
 | .o (.ty (.dt _ _)),g,f=>exact f.elim
 | .o (.ty (.td _ _ _)),g,f=>exact f.elim
 | .o (.im _),g,f=>exact f.elim
 | .o (.ls _ _),g,f=>exact f.elim
 | .o (.sc _),g,f=>exact f.elim
 | .sl _,g,f=>trivial
noncomputable def Hz:w5->w5->w5
 | k::ks,d::ds=>.tuple [k,d]::Hz ks ds
 | _,_=>[]
theorem Qe:∀{ks ds:w5},ks.length=ds.length->(Hz ks ds).length=ks.length
 | [],[],_=>rfl
 | [],_::_,h=>nomatch h
 | _::_,[],h=>nomatch h
 | _::ks,_::ds,h=>by
  show (Hz ks ds).length+1=_
  rw[Qe (ie h)];rfl
theorem Zr:∀{ks ds:w5}{i:Nat}{x:t6},(Hz ks ds)[i]?=some x->∃k d,ks[i]?=some k/\ds[i]?=some d/\x=.tuple [k,d]
 | [],_,_,_,e=>by simp[Hz]at e
 | _::_,[],_,_,e=>by simp[Hz]at e
 | k::ks,d::ds,0,x,e=>by
  cases (show some (PyData.tuple [k,d])=some x from e)
  exact⟨k,d,rfl,rfl,rfl⟩
 | k::ks,d::ds,i+1,x,e=>by
  obtain⟨k',d',h1,h2,h3⟩:=Zr (show (Hz ks ds)[i]?=some x by simpa[Hz] using e)
  exact⟨k',d',by simpa using h1,by simpa using h2,h3⟩
theorem TrL.at {H:Hp}:∀{ds:w5}{vs:m6}{i:Nat}{d:t6}{v:V},TrL H ds vs->ds[i]?=some d->vs[i]?=some v->Tr H d v
 | [],_,_,_,_,_,e,_=>by simp at e
 | x::ds,_,0,d,v,⟨u,r,e0,t,_⟩,e1,e2=>by
  subst e0
  cases (show some x=some d from e1)
  cases (show some u=some v from e2)
  exact t
 | x::ds,_,i+1,d,v,⟨u,r,e0,_,ts⟩,e1,e2=>by
  subst e0
  exact TrL.at ts (by simpa using e1) (by simpa using e2)
def Ux (fa:n7):Ev->R (w5):=λc=>(fa c).bind λp c=>match p with
 | .o (.ty (.ds ks ds))=>if ks.length=ds.length then .ok (Hz ks ds) c else .bad
 | _=>.bad
theorem A4o (ha:ME K B fa):MI K (iDI B) (Ux fa):=by
 intro F W c P k R s
 refine ha F W c P _ R ((s.bnd).mono λp Y f v1 r X h y g=>?_)
 match p,g,f with
 | .o (.ty (.ds ks ds)),g,f =>
  obtain⟨⟨rfl,a,o,m,rfl,q,A,I⟩,_⟩:=g
  have h:Stp W.S W.Hf W.H r.S r.Hf r.H:=h.less λa z=>.inl z
  have C:(ks.zip m).length=ks.length:=by simp_all
  have w:ks.length=ds.length:=I.trans A.length.symm
  have f:(if ks.length=ds.length then U.R.ok (Hz ks ds) Y else .bad:U.R (w5)).sat _:=f
  rw[if_pos w]at f
  refine⟨a,o,ks.zip m,rfl,y.sub _ _ q,f (Iti a o) r h y λi j H n l=>⟨λe=>⟨ks.zip m,l _ _ (n _ _ q),by rw[C,e,Qe w];lia⟩,λd J=>⟨⟨ks.zip m,l _ _ (n _ _ q),by rw[C,<- Qe w];grind⟩,λx H' M=>?_⟩⟩⟩
  obtain⟨p,G,k',v,b,rfl,D,rfl,Q,S,N⟩:=M
  cases (Q.symm.trans (l _ _ (n _ _ q)))
  obtain⟨L,O⟩:=Az0 S;obtain⟨k2,d2,V,T,rfl⟩:=Zr J
  cases (V.symm.trans L)
  have u:=Wg (Hf:=j) l;have E:Yn j H p=none:=Same.free u D;have t:=Stp.newF (o:=.tup [.ref b,v]) u D
  refine⟨upd (Yn j H) p _,(Xc l).trans t,Ij u,p,_,rfl,Aq,.ref b,_,rfl,Tr.same (Bl E) (Ac1 (λb m e=>Rx e) N.2),v,[],rfl,Tr.same (Bl E) (Tr.same (Y5 l) (Tr.same n (TrL.at A T O))),rfl⟩
 | .o (.ty (.nm _)),g,f=>exact f.elim
 | .o (.ty (.tc _)),g,f=>exact f.elim
 | .o (.ty (.xc _)),g,f=>exact f.elim
 | .o (.ty (.dc _ _)),g,f=>exact f.elim
 | .o (.ty (.dt _ _)),g,f=>exact f.elim
 | .o (.ty (.td _ _ _)),g,f=>exact f.elim
 | .o (.im _),g,f=>exact f.elim
 | .o (.ls _ _),g,f=>exact f.elim
 | .o (.sc _),g,f=>exact f.elim
 | .sl _,g,f=>trivial
def A0w (fa:n7):n7:=λc=>(fa c).bind λp c=>match p with
 | .o (.ty (.ds ks _))=>.ok (.o (.im (.tuple ks))) c
 | _=>.bad
theorem Bd0 {H':Hp}(h:∀b xs,H b=some (.tup xs)->H' b=some (.tup xs)):∀{ks:w5}{vs:m6},Bi1 H ks vs->TrL H' ks vs
 | [],_,e=>e
 | k::ks,_,⟨b,r,e,kb,t⟩=>⟨.ref b,r,e,Ac1 h kb.2,Bd0 h t⟩
theorem Br0 (ha:ME K l fa):ME K (Bw7 l) (A0w fa):=by
 intro B W c C Q R s
 refine ha B W c C _ R ((s.bnd).mono λp c1 d v1 j y g h f=>?_)
 match p,f,d with
 | .o (.ty (.ds ks ds)),f,d =>
  obtain⟨⟨rfl,a,o,r,rfl,u,t1,x⟩,_⟩:=f
  have g:Stp W.S W.Hf W.H j.S j.Hf j.H:=g.less λa z=>.inl z
  refine⟨a,o,ks.zip r,rfl,h.sub _ _ u,λm p n q=>?_⟩
  rw[List.map_fst_zip (dO x)]at n;have i:=Wg h.sub;have w := Same.free i q;have k:=(Xc h.sub).trans (Stp.newF (o:=.tup m) i q)
  exact New.of h (λv W' fp A D t=>d v _ _ (g.trans A) D t) _ _ _ [] (k.less λa z=>nomatch z) (Ij i) ⟨rfl,p,m,rfl,Aq,TrL.same (Bl w) (Bd0 (λb r e=>Rx e) n)⟩
 | .o (.ty (.nm _)),f,d=>trivial
 | .o (.ty (.tc _)),f,d=>trivial
 | .o (.ty (.xc _)),f,d=>trivial
 | .o (.ty (.dc _ _)),f,d=>trivial
 | .o (.ty (.dt _ _)),f,d=>trivial
 | .o (.ty (.td _ _ _)),f,d=>exact d.elim
 | .o (.im _),f,d=>exact d.elim
 | .o (.ls _ _),f,d=>exact d.elim
 | .o (.sc _),f,d=>exact d.elim
 | .sl _,f,d=>trivial
end
variable {K:v9}
def Km:t6->t6->m5
 | .list ds,.str y=>(strsOf ds).map λss=>.im (.int ((ss.countP λz=>z==y:Nat)))
 | _,_=>none
theorem Az3:OpS K (λx y H Q=>A2d K x [y] H Q) Km:=by
 intro Hf H x y dx dy o Q s f c e n;unfold Km at e
 split at e
 ·rename_i d z
  obtain⟨a,vs,rfl,g,t⟩:=Fz f
  cases es:strsOf d with
  | none=>grind
  | some b =>
   rw[es]at e;cases e
   cases G9 c
   cases Ax5 es t
   exact⟨a,b,z,rfl,rfl,SqL.of g,n.int s⟩
 grind
def Pq:t6->t6->m5
 | .list a,.int k=>if a.length*k.toNat<=16000000&&(decide (-16000000<=k)&&decide (k<=16000000)) then some (.ls false (B6u a k.toNat)) else none
 | _,_=>none
theorem V4:OpS K B1t Pq:=by
 intro k H x y i j o Q s f h e n;unfold Pq at e
 split at e
 ·split at e
  ·rename_i l
   cases e
   simp at l
   obtain⟨p,d,c,g,a⟩:=Fz f
   exact⟨p,_,d,c,Dh h,g,by lia,by lia,by rw[<- a.length];exact lim l.1,λr b=>n.lst s (A2g a _) b⟩
  ·cases e
 grind
theorem Bf {p a:Pos}(D:Def X.prog X.w X.K X.mg X.base x k ps sp) (hr:Room c X.A) (ha:QA X (e::es) t) (h:k<=c:=by lia) (hg:Gl X x:=by rfl)
 (hdb:(x==("__debug__" : Str))=false:=by decide) (hn:noStar (e::es)=true:=by rfl):QE X (.Call (.Name x p) (e::es) [] a) (Pa sp [] E0 t):=by
 obtain⟨f,g,G,b,d,m⟩:=D;exact Wx G (hr.mono h) hg m d b .nil B4n ha hdb hn
end U
namespace L2
open PySem PySem.Spec PyProof.Rows PySem.W
section
variable {X:Cx}
def JT (X:Cx)(vs:v_)(m:Nat):Prop:=∀(pins:y_) (σ:St) (H:Hp) (s:u_) (acc:Str) (Q:Str->u_->Prop),Inv X pins σ H s->acc.length+m<=16001000->(∀out s',out.length<=sizeLine->Inv X pins σ H s'->Q out s')->Joins (model X.prog X.w) X.A X.xe (evalEach vs X.env) acc Q s
theorem B3i:JT X [] 0:=λa c H s b Q I h q=>q _ s (ao h (by decide)) I
theorem B0x {v:Expr}{y:Str}(h:QE X v (tC (.str y))):JT X [v] y.length:=by
 intro b j H s a Q I f q
 refine aL (h.get _ s _ H (λv g=>v=.str y/\g=H) I ⟨rfl,rfl⟩) (λu k ⟨v,l,d,r,i,c⟩=>?_) λ_ _ z=>z
 subst i c;obtain⟨t,e⟩:=(r)
 have:(a++y).length<=sizeLine:=by rw[dz];exact ao f (by decide)
 exact⟨y,t,e,this,q _ _ this d⟩
theorem Bf5 {l j:Expr}{vs:v_}{s1:Str}{m:Nat}{o:TE}{f c:Pos}(hu:X.A.units+64<cLine)(hg:X.A.guards=some [])(h1:QE X l (tC (.str s1)))(hn:s1.length<=1000)(h2:QE X j o)(B:JT X vs m)(hm:m<=1000):QE X (.JoinedStr (l::.FormattedValue j 114 none f::vs) c) (tFs s1.length o):=by
 refine⟨λg s C H Q I h=>?_⟩
 refine wpAny_JoinedStr ?_
 refine aL (h1.get _ s _ H (λv M=>v=.str _/\M=H) I ⟨rfl,rfl⟩) (λu W ⟨v,Z,N,r,L,P⟩=>?_) λ_ _ z=>z
 subst L P
 obtain⟨t,e⟩:=(show ∃t,u=Value.str _ t from r)
 refine⟨s1,t,e,?_,?_⟩
 ·rw[dz]
  exact ao (by show 0+s1.length<=1000;lia) (by decide)
 ·refine wpAny_FormattedValue_repr (thn (h2.get _ _ _ _ _ N h) λS U ⟨v,D,E,F,d,G,J,q⟩=>?_)
  refine Bq2 hu hg E G F hn J λz V T K x=>?_
  have k:z.length<=sizeLine:=ao (ao (cQ _ _) K) (by decide)
  have n:(Str.empty++s1++z).length+m<=16001000:=by
   rw[dz,dz]
   show 0+s1.length+z.length+m<=_;lia
  have i:∀(p:Tok) (w:u_),Inv X g C _ w->∃y t,Value.str z _=.str y t/\(Str.empty++s1++y).length<=sizeLine/\Joins _ _ _ _ (Str.empty++s1++y) (λb a=>b.length<=sizeLine/\EP X _ _ Q (.str b a.toks) { a with toks:=a.toks+1 }) _:=λp w O =>
   ⟨z,p,rfl,ao (cQ _ _) (ao n (by decide)),B _ _ _ _ _ _ O n λb Y R A=>⟨R,.str _,D,A.tok _,⟨_,rfl⟩,q _⟩⟩
  exact wpAny_formatField_str (i _ _ x) (i _ _ (x.tok _)) k
end
end L2
namespace U
open PySem L2 PySem.W
section
variable {c:Ev}
def B0c (F:w5->XF)(fa:o_):Ev->XS:=Bw2 F fa (λ_ c=>.s (.nx c)) .ex
def cFY (F:w5->XF)(fa:o_):n7:=λc=>(fa c).bind λps c=>match Mm c ps with
 | none=>.bad
 | some ds=>match F ds with
  | .ret (.im d)=>.ok (.o (.im d)) c
  | _=>.bad
end
def A9d (neg:Bool)(ss:v4):t6->m5
 | .str y=>some (.im (.bool (if neg then !inV (.str y) (ss.map V.str) else inV (.str y) (ss.map V.str))))
 | .int y=>some (.im (.bool (if neg then !inV (.int y) (ss.map V.str) else inV (.int y) (ss.map V.str))))
 | .none=>some (.im (.bool (if neg then !inV .non (ss.map V.str) else inV .non (ss.map V.str))))
 | _=>none
theorem B0i {K:v9}{neg:Bool}{a:TE}{fe:n7}{p:Addr}{ss:v4}(he:ME K a fe)(hp:∀H,SqT K H p (ss.map V.str)):ME K (tOp (rIn K neg) a (tC (.ref p))) (cUn (A9d neg ss) fe) :=
 Y0 he λb H x d o Q s r e n=>by
  unfold A9d at e
  split at e
  ·cases e;cases G9 r;exact⟨p,_,rfl,.inr (hp H),rfl,S6 _,n.bl s⟩
  ·cases e;cases Dh r;exact⟨p,_,rfl,.inr (hp H),rfl,S6 _,n.bl s⟩
  ·cases e;cases (r);exact⟨p,_,rfl,.inr (hp H),rfl,S6 _,n.bl s⟩
  simp_all
end U
namespace L2
open PySem PySem.Spec PyProof.Rows PySem.W
section
variable {K K':Frag}
def Kd (K K':Frag):Prop:=∀a o,K.lookup a=some o->K'.lookup a=some o
theorem Rj (s:Kd K K'){ns:Addr}{x:Str}{r:u9}(e:nsIn K ns x=some r):nsIn K' ns x=some r:=by
 unfold nsIn at e ⊢
 split at e
 ·rename_i a;rw[s _ _ a];lia
 trivial
theorem Ap5 (s:Kd K K'){x:Str}{v:Value}{r:u9}(e:ownIn K x v=some r):ownIn K' x v=some r:=by
 cases v with
 | ref a =>
  unfold ownIn at e ⊢
  dsimp only at e ⊢
  split at e
  ·rename_i b;rw[s _ _ b];exact Rj s e
  simp_all
 | _=>exact e
theorem Vj (s:Kd K K'){x:Str}:∀{l:w6}{r:u9},alongIn K x l=some r->alongIn K' x l=some r
 | [],r,e=>e
 | v::l,r,e=>by
  unfold alongIn at e ⊢
  split at e
  ·rename_i h;rw[Ap5 s h];exact e
  ·rename_i h;rw[Ap5 s h];exact Vj s e
  ·cases e
theorem G6 (s:Kd K K'){x:Str}{C:Addr}{r:u9}(e:findIn K (.ref C) x=some r):findIn K' (.ref C) x=some r:=by
 unfold findIn at e ⊢
 dsimp only at e ⊢
 split at e
 ·rename_i a;rw[s _ _ a];exact Vj s e
 trivial
theorem A9r (s:Kd K K'){C:Addr}{a:ClassData}(e:clsIn K C=some a):clsIn K' C=some a:=by
 unfold clsIn at e ⊢
 split at e
 ·rename_i b;rw[s _ _ b];grind
 trivial
theorem Xp (s:Kd K K'){t b:Value}{r:Bool}(e:subIn K t b=some r):subIn K' t b=some r:=by
 cases t with
 | ref C =>
  obtain⟨c,d,a⟩:=cW.mp (e);exact Option.bind_eq_some_iff.mpr ⟨c,A9r s d,a⟩
 | _=>exact e
theorem Zj (s:Kd K K'){t c:Value}{r:Bool}(e:kitCls K t c=some r):kitCls K' t c=some r:=by
 unfold kitCls at e ⊢
 split at e
 ·rename_i C
  split at e
  ·rename_i z
   rw[if_pos,Xp s e]
   dsimp only[clsIn,typeIn]at z ⊢
   cases ho:K.lookup C with
   | none=>simp_all
   | some o=>rw[s _ _ ho];grind
  simp_all
 ·split at e
  ·rename_i z;rw[if_pos z,Xp s e]
  grind
 trivial
theorem A5h (s:Kd K K'){t c:Value}{r:Bool}(e:kitOne K t c=some r):kitOne K' t c=some r:=by
 unfold kitOne at e ⊢
 split at e
 ·grind
 ·rename_i z;rw[if_neg z];exact Zj s e
theorem Zc (s:Kd K K'){t c:Value}{r:Bool}(e:exmOne K t c=some r):exmOne K' t c=some r:=by
 unfold exmOne at e ⊢
 split at e
 ·rename_i z
  rw[if_pos (by rw[Xp s (cG.mp z)];rfl)];exact Zj s e
 simp_all
theorem Az7 (s:Kd K K'){n:Addr}(e:nsOkIn K n=true):nsOkIn K' n=true:=by
 unfold nsOkIn at e ⊢
 split at e
 ·rename_i a;rw[s _ _ a];grind
 trivial
theorem Zo (s:Kd K K'){b:w6}:∀{l:w6},tailIn K b l=true->tailIn K' b l=true
 | [],e=>e
 | v::l,e=>by
  unfold tailIn at e ⊢
  rcases jJ.mp e with q | q
  ·rw[q];rfl
  ·refine Bool.or_eq_true_iff.mpr (.inr ?_)
   split at q
   ·split at q
    ·rename_i ho
     rw[s _ _ ho];simp only[cu,cG]at q ⊢;exact⟨⟨Az7 s q.1.1,Rj s q.1.2⟩,Zo s q.2⟩
    ·cases q
   ·cases q
theorem Ag6 (s:Kd K K'){C:Addr}(e:Yu K C=true):Yu K' C=true:=by
 unfold Yu at e ⊢
 split at e
 ·rename_i a
  rw[s _ _ a]
  simp at e ⊢
  refine⟨⟨e.1.1,?_⟩,e.2⟩
  have q:=e.1.2
  split at q
  ·simp at q ⊢
   exact⟨q.1,Zo s q.2⟩
  ·cases q
 ·cases e
theorem B1w (s:Kd K K'){C:Addr}(e:exP K C=true):exP K' C=true:=by
 obtain⟨c,a⟩:=aA.mp e
 refine aA.mpr ⟨Ag6 s c,?_⟩
 unfold noI at a ⊢
 cases ho:K.lookup C with
 | none=>simp_all
 | some o =>
  rw[s _ _ ho];rw[ho]at a
  dsimp only at a ⊢
  split at a
  ·obtain⟨d,b⟩:=aA.mp a
   exact aA.mpr ⟨Az7 s d,beq_iff_eq.mpr (Rj s (cG.mp b))⟩
  trivial
theorem Ba7 (s:Kd K K'){C:Addr}(e:xcB K C=true):Ko K' C:=by
 unfold xcB at e
 simp at e
 exact⟨Ag6 s e.1,G6 s e.2.1,G6 s e.2.2.1,G6 s e.2.2.2⟩
theorem Lp (s:Kd K K'){x:Str}{p:Addr->Bool}(e:clB K x p=true):∃C,nsIn K' mainGlobals x=some (some (.ref C))/\p C=true:=by
 unfold clB at e
 split at e
 ·rename_i C h;exact⟨C,Rj s h,e⟩
 trivial
theorem Av5 (s:Kd K K'){z:Value}:∀{tbl:List (Str×Bool)},tbB K z tbl=true->TbOk K' z tbl
 | [],_=>.nil
 | (x,b)::tbl,e=>by
  obtain⟨e1,e2⟩:=aA.mp e;obtain⟨C,n,q⟩:=Lp s e1;obtain⟨q1,q2⟩:=aA.mp q;exact .cons n (Ba7 s q1) (A5h s (cG.mp q2)) (Av5 s e2)
theorem Ar7 (s:Kd K K'){F:Addr}:∀{NS:v4},exB K F NS=true->ExOk K' F NS
 | [],_=>.nil
 | x::NS,e=>by
  obtain⟨e1,e2⟩:=aA.mp e;obtain⟨C,n,q⟩:=Lp s e1;exact .cons n (Zc s (cG.mp q)) (Ar7 s e2)
def A4i (R:v4)(T:List (Str×List (Str×Bool)))(V:List (Str×Bool))(F:v4)(h:Heap):Prop:=∃K:Frag,cfB R T V F K=true/\∀a o,K.lookup a=some o->h.get? a=some o/\B1i o=true
variable {R:v4}{T:List (Str×List (Str×Bool))}{V:List (Str×Bool)}{F:v4}{h h':Heap}{mg:x_}
theorem B4m {l:List Nat}(e:cfB R T V F (Bk2 l h)=true):A4i R T V F h:=⟨Bk2 l h,e,λa o q=>by
 unfold Bk2 at q;rw[Le]at q
 split at q
 ·obtain⟨c,d,b⟩:=cW.mp q
  grind
 grind⟩
theorem A8h (x:A4i R T V F h)(hk:∀b o,h.get? b=some o->h'.get? b=some o):A4i R T V F h' :=
 let ⟨K,e,q⟩:=x; ⟨K,e,λa o z=>⟨hk _ _ (q a o z).1,(q a o z).2⟩⟩
theorem Bk9 (x:A4i R T V F h)(b:K.In h)(G:h.Ns mainGlobals mg)(g:∀a o,h.get? a=some o->En o=true->o.data≠.fields #[]->K.lookup a=some o) :
 (∀(i:Nat) (x:Str),R[i]?=some x->ClR K mg x)/\(∀(i:Nat) (q:Str×List (Str×Bool)),T[i]?=some q->ClT K mg q.2 q.1)/\TbOk K (.type "ValueError") V/\∀(i:Nat) (x:Str),F[i]?=some x->ClF K mg R x:=by
 obtain⟨r,e,q⟩:=x
 have s := λa o z=>by
  obtain⟨l,c⟩:=q a o z;unfold B1i at c
  refine g a o l ?_ ?_
  ·unfold En;split at c <;> simp_all
  ·intro y;rw[y]at c;cases c
 obtain⟨k,f⟩:=aA.mp e;obtain⟨f,d⟩:=aA.mp f;obtain⟨d,j⟩:=aA.mp d
 refine⟨λi x m=>?_,λi p m=>?_,Av5 s d,λi x m=>?_⟩
 ·obtain⟨C,n,z⟩:=Lp s (bL.mp k x (bh m))
  exact⟨C,mg_of b G n,n,B1w s z⟩
 ·obtain⟨C,n,z⟩:=Lp s (bL.mp f p (bh m))
  exact⟨C,mg_of b G n,Av5 s z⟩
 ·obtain⟨C,n,z⟩:=Lp s (bL.mp j x (bh m))
  exact⟨C,mg_of b G n,Ar7 s z⟩
end
section
variable {X:Cx}{k:Nat}{x y n v:Str}{p pos epos yp hpos vp:Pos}{e:Expr}{t:TA}{Fc:Addr}{b₀:Stmt}{suite:List Stmt}{th:TS}{j i:Nat}
def PX (X:Cx)(e:Expr)(t:St->Hp->VK->XK->Prop):Prop :=
 ∀(pins:y_) (s:u_) (σ:St) (H:Hp) (Q:VK) (E:XK),Inv X pins σ H s->t σ H Q E->wpAny (model X.prog X.w) X.A (eval e X.env) (EP X pins σ Q) (λev s'=>∃H1 s1,Inv X pins σ H1 s1/\CXe X.prog X.w X.stack H1 s1 E ev s') s
theorem Bp7 {r:St->Hp->VK->XK->Prop}(hp:PX X e r)
 (p:X.ex=[]) (hs:X.stack=X.env::X.outer/\X.env.frame=some X.env.locals) (hN:X.N.Nodup) (hi:X.N[i]?=some v) (hv:Loc X.env.scope v) (hj:X.N[j]?=some n) (l:X.env.scope.names.lookup n=some .local) (hg:Gl X y) (hm:X.mg y=some (.ref Fc)) (m:∀a,PSs (Tj X a) (b₀::suite) th)
 (hsw:swapsWith e (some (.Name v vp)) epos.line X.env=pure false) (k:(y==("__debug__" : Str))=false) (B:X.fn v=true\/X.env.scope.names.lookup v=some .local) :
 PS X (.Try [.Assign [.Name v vp] e epos] [.ExceptHandler (some (.Name y yp)) (some n) (b₀::suite) hpos] [] [] pos) (λD g H=>r g H (λu f=>D.nx (g.set i (some u)) f)
  (λc d f=>∃C,c=.ref C/\exmOne X.K c (.ref Fc)=some true/\∀a,f a=none->th { nx:=λo x=>D.nx (o.set j none) x,rt:=D.rt } (g.set j (some (.ref a))) (upd f a (Yd a C d)))):=by
 intro t s g H D I h
 refine wpAny_Try_except (fJ (wpAny_Assign_Name ?_ hsw))
 refine aL (hp _ s _ H _ _ I h) (λu z ⟨L,w,q,E,A⟩=>?_) λN K ⟨w,z,q,F⟩=>?_
 ·exact Gp q hN hi hv E (λM G=>gD (gD ⟨_,w,G,A⟩)) B
 ·exact A4s p hs hN hj l hg hm m q F λC d f ⟨O,P,Q,J⟩=>by grind k
end
noncomputable def B7n (A:t_):t_:={ A with handled:=none }
end L2
namespace U
open PySem L2
end U
namespace L2
open PySem PySem.Spec PyProof.Rows PySem.W
def Af6 (K:v9):m6->Hp->VK->Prop:=λxs H Q=>∃(a C p:Addr) (d:Option Addr) (cs:v6) (b:Bool),xs=[.ref a,.ref p]/\H a=some (Yd a C d)/\Ko K C/\H p=some (.tup (cs.map V.ref))/\kitAny K (.ref C) (cs.map Value.ref)=some b/\Q (.bl b) H
theorem Y4:∀{cs:v6}{us:w6},Vals (cs.map V.ref) us->us=cs.map Value.ref
 | [],us,h=>by cases h;rfl
 | c::cs,us,h=>by
  cases h with
  | cons r t=>rw[Y4 t,show _=Value.ref c from r];rfl
section
variable {X:Cx}
theorem Av6:CallR X (.builtin "isinstance") (Af6 X.K):=by
 intro c s σ H xs us Q I r h;obtain⟨a,C,p,d,cs,b,rfl,j,Z,k,l,q⟩:=h;obtain⟨u1,u2,rfl,f,m⟩:=vals2 r
 cases (f)
 cases (m)
 have i := I.hok a _ j;obtain⟨_,g,u,o,v,t,⟨n,w⟩,_⟩:=I.hok p _ k
 cases Y4 u
 obtain⟨x,dd,e,sl⟩:=o;subst t w
 exact kia_tup (Aj7 Z) I.kIn i.1 v l (λz=>nomatch z) λtk=>⟨.bl b,H,I.tok _,rfl,q⟩
theorem Bh4 {e:Expr}{es:v_}{t:TA}{p b:Pos}{Kq:v9}(a:X.K=Kq)(hgl:Gl X "isinstance") (hm:X.mg "isinstance" = none) (ha:QA X (e::es) t) (hn:noStar (e::es)=true:=by rfl):QE X (.Call (.Name "isinstance" p) (e::es) [] b) (tCB (Af6 Kq) t):=by
 subst a
 exact⟨Gb Av6 hgl hm Hj ha.get (by decide) (by rfl) hn⟩
end
def Ai6 (K:v9)(gs:v6)(tbl:List (Str×Bool)):Prop:=∀nm b,tbl.lookup nm=some b->∀C,PySem.W.nsIn K mainGlobals nm=some (some (.ref C))->Ko K C/\kitAny K (.ref C) (gs.map Value.ref)=some b
theorem Bp0 {K:v9}{g:Addr}{a:List (Str×Bool)}(h:TbOk K (.ref g) a):Ai6 K [g] a:=λd b e C c=>by
 obtain⟨x,k⟩:=h _ b e C c
 refine⟨x,?_⟩
 show (match kitOne K _ _ with
  | some true=>some _
  | some false=>some _
  | none=>none)=some b
 grind
noncomputable def orT:List (Str×Bool)->List (Str×Bool)->List (Str×Bool)
 | (n,b)::r,(_,c)::s=>(n,b||c)::orT r s
 | _,_=>[]
theorem Ap4:∀{t u:List (Str×Bool)}{nm:Str}{b:Bool},t.map (·.1)=u.map (·.1)->(orT t u).lookup nm=some b->∃x y,t.lookup nm=some x/\u.lookup nm=some y/\b=(x||y)
 | [],_,nm,b,_,e=>by cases e
 | _::_,[],nm,b,_,e=>by cases e
 | (n,x)::t,(m,y)::u,nm,b,h,e=>by
  rw[aG,aG]at h;obtain⟨h1,h2⟩:=List.cons.inj h
  cases (show n=m from h1)
  rw[aU,aU]
  rw[show orT ((n,x)::t) ((n,y)::u)=(n,x||y)::orT t u from rfl,aU]at e
  cases q:nm==n with
  | true=>rw[q]at e;cases e;exact⟨x,y,rfl,rfl,rfl⟩
  | false=>rw[q]at e;exact Ap4 h2 e
theorem Mq {K:v9}{g:Addr}{gs:v6}{t u:List (Str×Bool)}(h:TbOk K (.ref g) t)(hs:Ai6 K gs u)(e:t.map (·.1)=u.map (·.1)):Ai6 K (g::gs) (orT t u):=λm b d C a=>by
 obtain⟨x,y,f,c,i⟩:=Ap4 e d;obtain⟨j,k⟩:=h _ x f C a;obtain⟨_,l⟩:=hs _ y c C a
 refine⟨j,?_⟩
 show (match kitOne K _ _ with
  | some true=>some _
  | some false=>kitAny K _ _
  | none=>none)=_
 grind
end L2
namespace U
open PySem L2 PySem.W
variable {K:v9}
noncomputable def tCs:v6->TA
 | []=>Fb
 | g::gs=>Bv (tC (.ref g)) (tCs gs)
theorem Bh8 {σ:St}:∀{gs:v6}{H:Hp}{k:m6->Hp->Prop},k (gs.map V.ref) H->tCs gs σ H k
 | [],_,_,h=>h
 | g::gs,H,k,h=>Bh8 (gs:=gs) (k:=λvs H1=>k (V.ref g::vs) H1) h
theorem Ap8 {m:TE}{f:n7}{gs:v6}{i:List (Str×Bool)}(ht:Ai6 K gs i)(h:ME K m f)(hl:gs.length<=1000:=by simp) :
 ME K (tCB (Af6 K) (Bv m (Bv (A5o (tCs gs)) Fb))) (Q4 i f):=by
 intro D W c F Q R s
 refine h _ W c _ _ R (s.bnd.mono λp B g E G t l j w=>?_)
 cases ed:rdP B p with
 | none=>simp only[ed]at g;trivial
 | some o =>
  simp only[ed]at g
  match o,ed,g with
  | .ty (.xc nm),ed,g =>
   cases el:i.lookup nm.n with
   | none=>simp only[el]at g;trivial
   | some b =>
    simp only[el]at g;obtain⟨a,C,d,e,r,n⟩:=A1e j w ed;subst e;obtain⟨y,x⟩:=ht _ b el C r.ns
    refine Bh8 ⟨by rw[aq];exact ao hl (by decide),λq A=>?_⟩
    have k:Same _ (upd _ q (.tup (gs.map V.ref))):=λb u e=>Bl A b u e
    refine⟨a,C,q,d,gs,b,rfl,k _ _ (j.sub _ _ n),y,Aq,x,?_⟩
    have v := Stp.rep j (Ox k) λa o e=>k a o (j.sub a o e)
    exact g _ _ _ ((l.trans (Ox k)).less λa z=>by
     rcases z with z | z
     ·exact .inl z
     ·cases z) v ⟨⟨rfl,rfl⟩,λa z=>nomatch z⟩
  | .ty (.nm _),ed,g=>trivial
  | .ty (.tc _),ed,g=>trivial
  | .ty (.dc _ _),ed,g=>trivial
  | .ty (.dt _ _),ed,g=>trivial
  | .ty (.ds _ _),ed,g=>trivial
  | .ty (.td _ _ _),ed,g=>exact g.elim
  | .im _,ed,g=>exact g.elim
  | .ls _ _,ed,g=>exact g.elim
  | .sc _,ed,g=>trivial
section
variable {K:v9}{E:XK}
theorem Zd {F:w5->XF}{t:TA}{i:o_}(ha:MA K t i):ME K (Pa (spX K F) [] E t) (cFY F i):=by
 intro β W c σ Q R s
 show t _ _ _
 simp
 refine ha _ W c _ _ R (s.bnd.mono λx w b vs l n g p=>?_)
 cases ea:Mm w x with
 | none=>simp only[ea]at b;trivial
 | some u =>
  simp only[ea]at b
  refine⟨l.Hf,u,g.sub,Ri g p ea,?_⟩
  split at b
  ·rename_i d m
   rw[m];intro v k H' fp f h r;obtain⟨rfl,y⟩:=r
   exact b v _ _ ((n.trans ⟨f.fz,λa o e _=>f.kp a o e λz=>z,λa o e j _ q=>f.nf a o e j (λz=>z) q,λa z=>.inl z⟩).less λa z=>A1k z) (Stp.rep g f h) ⟨⟨rfl,y⟩,λa z=>nomatch z⟩
  trivial
def S9 (F:w5->XF)(fa:o_)(vs:List Nat)(f:Ev->SR):Ev->XS:=λc=>match fa c with
 | .bad=>.s .bad
 | .ok ps c1=>match Mm c1 ps with
  | none=>.s .bad
  | some ds=>match F ds with
   | .ex nm=>if vs.all (λi=>match c[i]? with | some (some _)=>true | _=>false) then .ex nm c1 else .s .bad
   | _=>.s (f c)
theorem Ao1 {F:w5->XF}{t:TA}{b:o_}{vs:List Nat}{T:TS}{f:Ev->SR}(ha:MA K t b)(hm:MS K T f)
 (hx:∀(a:St) (H:Hp) (D:Ends),(∀i∈vs,∃v,a[i]?=some (some v))->(∀Q,Pa (spX K F) [] E t a H Q)->T D a H):MX K E T (S9 F b vs f):=by
 intro k W c a D R l;unfold S9 at l
 cases e:b c with
 | bad=>rw[e]at l;exact l.elim
 | ok j g =>
 rw[e]at l
 cases ea:Mm g j with
 | none=>simp only[ea]at l;exact l.elim
 | some m =>
 simp only[ea]at l
 cases ef:F m with
 | bad=>simp only[ef]at l;exact hm _ W c _ D R l
 | ret o=>simp only[ef]at l;exact hm _ W c _ D R l
 | ex A =>
  simp only[ef]at l
  split at l
  ·rename_i q
   refine hx _ _ D (λi r=>?_) λQ=>?_
   ·have:=bL.mp q i r
    split at this
    ·rename_i o s
     obtain⟨v,u,_⟩:=R.get i o s;exact⟨v,u⟩
    ·cases this
   ·have p:LeadX K k W D E (Mh F b (λ_ _=>.s .bad) (λn c=>.ex n c) c):=by
     unfold Mh
     simp_all
    have:=Al4 (Q:=Q) ha R p (λ_ _ _ _ _ _ z _=>z.elim) (λn g B C d w y x h=>x C d _ _ h w y)
    show t _ _ _
    simp_all
  ·exact l.elim
end
theorem A6t {X:Cx}{x:Str}{k c:Nat}{ps:v4}{sp:Sp}{E:XK}{e:Expr}{es:v_}{t:TA}{p a:Pos}(hx:Ms (CXe X.prog X.w) X E)(D:DefX X.prog X.w X.K X.mg X.base x k ps sp)(hr:Room c X.A)(ha:QA X (e::es) t)(h:k<=c:=by lia)(hg:Gl X x:=by rfl)
 (hdb:(x==("__debug__" : Str))=false:=by decide) (hn:noStar (e::es)=true:=by rfl):QE X (.Call (.Name x p) (e::es) [] a) (Pa sp [] E t):=by
 obtain⟨f,g,G,b,d,m⟩:=D;exact Wx G (hr.mono h) hg m d b .nil hx ha hdb hn
end U
namespace L2
open PySem PySem.Spec PyProof.Rows PySem.W
section
variable {P:u6}{w:World}{K:v9}{mg:x_}{base:Heap}{N':v4}{scope:Scope}{cl:List (Str×Addr)}{qual:Str}{f:Addr}{cv:Value}{A1:t_}{stk:List Env}{s:u_}{H:Hp}{E:XK}
def A0x (P:u6)(w:World)(K:v9)(mg:x_)(base:Heap)(N':v4)(scope:Scope)(cl:List (Str×Addr))(qual:Str)(f:Addr)(cv:Value)(A1:t_)(stk:List Env)(s:u_)(H:Hp)(E:XK):Cx :=
 {
  prog:=P,w:=w,K:=K,mg:=mg,base:=base,A:=A1.deeper (envX qual scope s.heap.objs.size f cv cl),N:=N',s₀:=s,H₀:=H,env:=envX qual scope s.heap.objs.size f cv cl,outer:=stk,stack:=envX qual scope s.heap.objs.size f cv cl::stk,
  ex:=[],fn:=λ_=>false,calm:=true,pn:=[],xe:=λe s'=>wpAny (model P w) (A1.deeper (envX qual scope s.heap.objs.size f cv cl)) (leaving (envX qual scope s.heap.objs.size f cv cl) e) (λ_ s''=>CXe P w stk H s E e s'') (λe' s''=>CXe P w stk H s E e' s'') s' }
theorem Xz:Ms (CXe P w) (A0x P w K mg base N' scope cl qual f cv A1 stk s H E) E:=by
 intro t σ H1 D e y I h;obtain⟨a,C,d,v,rfl,⟨⟨B,A,m⟩,J,O⟩,x,c,u,j,q⟩:=h
 refine Aq3 I.ok.frames rfl A λG g F=>?_
 have n:Inv _ _ _ _ { y with heap:=G }:=I.flown u j x c A.ff m g.1 F
 have L:∀b o,s.heap.get? b=some o->∃r,D.heap.get? b=some _:=λb o e=>I.base.there b o e λz=>nomatch z
 refine⟨a,C,d,v,rfl,⟨⟨B,g,λb o e hf l=>?_⟩,λb o e=>?_,O⟩,x.trans I.os,c,n.base,n.hok,q⟩
 ·have nl:b≠s.heap.objs.size:=by
   rintro rfl
   rcases l with ⟨M,k⟩ | l
   ·exact absurd (az k) (bc _)
   ·exact l n.free
  have p:b∉frs _:=λz=>by
   rcases aD.mp (I.stkSub b z) with q | q
   ·trivial
   trivial
  have i:∃r,y.heap.get? b=some r:=by
   rcases l with ⟨M,k⟩ | l
   ·obtain⟨o1,N⟩:=L b _ k
    exact u.there b _ N λz=>nomatch z
   ·cases q':v b with
    | none=>grind
    | some ho=>exact(j b _ q').there
  obtain⟨r,k⟩:=i
  have:=m b _ k p (by
   grind)
  have e2:=g.1 b _ this
  simp_all
 grind
variable {X:Cx}{pins:y_}{σ:St}
theorem Bt5 {idx:p_}{h₁:Heap}{t':Nat}(L:Ww X N' idx scope)(hd:A1.handled=none)(I:Env0 P w K mg base A1 stk s H)(J:Inv X pins σ H s)
 (c1:∀x c,cl.lookup x=some c->X.env.cells.lookup x=some c/\(x,NameKind.free)∈scope.names) (c2:∀x,(x,NameKind.free)∈scope.names->∃c,cl.lookup x=some c)
 (k:∀b o,s.heap.get? b=some o->h₁.get? b=some o) (hn:h₁.Ns s.heap.objs.size (λy=>([]:List (Str×Value)).reverse.lookup y)) :
 Inv (A0x P w K mg base N' scope cl qual f cv A1 stk s H E) [] (cst idx σ) H { s with heap:=h₁,toks:=t' } where
 ok:={
  mod:=I.mod,kind:=L.kind,glob:=rfl,blt:=rfl,above:=au _,inj:=λy z c e1 e2=>J.ok.inj y z c (c1 y c e1).1 (c1 z c e2).1
  has:=λy h=>by
   have h':scope.names.lookup y=some .cell\/scope.names.lookup y=some .free:=h
   rcases h' with h | h
   ·exact absurd rfl (L.cell _ (lookup_mem h))
   ·exact c2 y (lookup_mem h)
  cab:=(λy c z=>nomatch z),hd:=λ_=>hd,frames:=Around.frames_deeper I.frames,stk:=.inr ⟨rfl,rfl⟩,exf:=(λb z=>nomatch z),bs:=I.bs,bsz:=I.bsz,noex:=(λ_ _ _ z=>nomatch z),exfs:=(λ_ z=>nomatch z)
  funs:=I.funs,frf:=I.frf,tab:=I.tab }
 os:=rfl
 bare:=I.bare
 base:=Un.kept k
 loc:=by
  refine⟨_,hn,λj y w e1 e2 e3=>?_⟩
  obtain⟨m0,hn0,hl⟩:=J.loc
  have e2':(idx.map λo=>o.bind λi=>(σ[i]?).join)[j]?=some (some w):=e2
  rw[bK]at e2'
  cases ei:idx[j]? with
  | none=>rw[ei]at e2';cases e2'
  | some o =>
   rw[ei]at e2';simp only[fG,jq]at e2'
   cases o with
   | none=>cases e2'
   | some i =>
    have e2'':(σ[i]?).join=some w:=e2';obtain⟨hNi,hfr⟩:=L.at' j i y e1 ei
    have hσ:σ[i]?=some (some w):=by
     cases q:σ[i]? with
     | none=>rw[q]at e2'';cases e2''
     | some z=>rw[q]at e2'';rw[show z=some w from e2'']
    have hk:=L.free _ (lookup_mem hfr) rfl
    have hvis:Vis X.env.scope y:=by
     rcases hk with z | z
     ·exact .inr (.inl z)
     ·exact .inr (.inr z)
    obtain⟨u',r',lk⟩:=hl i y w hNi hσ hvis
    refine⟨u',r',.inr ⟨.inr hfr,?_⟩⟩
    rcases lk with ⟨z,_⟩ | ⟨_,c,hc,hcl⟩
    ·exfalso
     have z':X.env.kindOf y=some .local:=z
     rcases hk with q | q
     ·rw[show X.env.kindOf y=_ from q]at z';cases z'
     ·rw[show X.env.kindOf y=_ from q]at z';cases z'
    ·obtain⟨c',hc'⟩:=c2 y (lookup_mem hfr)
     have ec:c'=c:=bT ((c1 y c' hc').1.symm.trans hc);obtain⟨oc,g1,g2⟩:=hcl
     exact⟨c',hc',oc,by rw[ec];exact k _ _ g1,g2⟩
 cell:=λy c e=>by
  obtain⟨w,oc,g1,g2⟩:=J.cell y c (c1 y c e).1;exact⟨w,oc,k _ _ g1,g2⟩
 free:=I.hok.fresh (au _)
 freeC:=λy c e=>J.freeC y c (c1 y c e).1
 pin:=λp hp=>nomatch hp
 hok:=I.hok.kept k
 len:=by
  show (idx.map _).length=N'.length
  rw[aq];exact L.len
theorem Bt7 {k:Nat}{idx:p_}{a:Arguments}{body:Expr}{v j:Value}{u:TE}{Q:VK}(L:Ww X N' idx scope)(n:scope.isCoroutine=false)(i:scope.isGenerator=false)
 (g:bindArgs (kla_fn "<lambda>" qual a body scope cl v cv j) ⟨[],[]⟩=pure []) (hr:Room (k+1) A1)
 (hb:QE (A0x P w K mg base N' scope cl qual f cv A1 stk s H E) body u) (I:Env0 P w K mg base A1 stk s H) (J:Inv X pins σ H s) (ho:s.heap.get? f=some (Ay2 qual a body scope cl v cv j)) (p:s.heap.CodeRec cv qual)
 (c1:∀x c,cl.lookup x=some c->X.env.cells.lookup x=some c/\(x,NameKind.free)∈scope.names) (c2:∀x,(x,NameKind.free)∈scope.names->∃c,cl.lookup x=some c) (h:u (cst idx σ) H Q) :
 codeAny (model P w) A1 (.call (.ref f) ⟨[],[]⟩) (CR (CXe P w) stk P w H s Q E) s:=by
 refine kla_callFunE hr.depth ho rfl n i rfl p ?_
 rw[g]
 refine ak (wpAny_newFunctionEnv L.cell (λy B=>nomatch B) (λA m r=>?_) L.kind)
 have d := λb o e=>r.extBut b o (aM (az e)) (aC _ e)
 have t := I.mod.nolimit.keeps λb o e=>(I.bs b o e).1
 refine⟨t.keeps d,?_⟩
 have C:=Bt5 (qual:=qual) (f:=f) (cv:=cv) (E:=E) (t':=s.toks+([]:List (Str×Value)).length) L hr.hd I J c1 c2 d m
 refine kla_codeExpr (aL (hb.get _ _ _ H Q C h) (λO N G=>?_) λ_ _ z=>z)
 obtain⟨F,D,l,M,q⟩:=G;exact⟨F,D,l.os,l.bare,l.base,l.hok,M,q⟩
end
def B0m (P:u6)(w:World)(K:v9)(mg:x_)(base:Heap)(A:t_)(outer:List Env)(s:u_)(H:Hp)(fl:Addr)(te:Hp->VK->XK->Prop):Prop :=
 ∀
  (env:Env) (s':u_) (H':Hp) (Q':VK) (E':XK),Env0 P w K mg base (A.deeper env) (env::outer) s' H'->Un (frs outer) [] H H' s.heap s'.heap->s'.os=s.os->te H' Q' E' ->
  FnAt fl s'.heap/\codeAny (model P w) (A.deeper env) (.call (.ref fl) ⟨[],[]⟩) (CR (CXe P w) (env::outer) P w H' s' Q' E') s'
def B6s (K:v9)(Fc:Addr)(spr:Sp)(Q:VK):XK:=λc d H3=>∃C,c=.ref C/\exmOne K c (.ref Fc)=some true/\∀a,H3 a=none->spr [.non,.ref a] (upd H3 a (Yd a C d)) Q E0
def At5 (te:Hp->VK->XK->Prop):Prop:=∀(H:Hp) (Q Q':VK) (E E':XK),(∀v H,Q v H->Q' v H)->(∀c m H,E c m H->E' c m H)->te H Q E->te H Q' E'
def Told (P:u6)(w:World)(K:v9)(mg:x_)(base:Heap)(x:Str)(k:Nat)(Fc:Addr)(spr:Sp):Prop :=
 ∃
  f:Addr,PySem.W.keepIn K (.ref f)=true/\mg x=some (.ref f)/\∀(A:t_) (outer:List Env) (s:u_) (H:Hp) (fl:Addr) (te:Hp->VK->XK->Prop) (Q:VK),Room k A->Env0 P w K mg base A outer s H->At5 te->B0m P w K mg base A outer s H fl te ->
  (∀H1,Same H H1->te H1 (λu H3=>spr [u,.non] H3 Q E0) (B6s K Fc spr Q))->codeAny (model P w) A (.call (.ref f) ⟨[.ref fl],[]⟩) (CR CX0 outer P w H s Q E0) s
section
variable {P:u6}{w:World}{K:v9}{mg:x_}{base:Heap}
theorem Inv.tail {X:Cx}{a:y_}{o:Option V}{b:St}{H:Hp}{s:u_}{n:Str}{N:v4}(hN:X.N=n::N)(I:Inv X a (o::b) H s):Inv { X with N:=N } a b H s:=by
 obtain⟨m,d,e⟩:=I.loc
 refine⟨⟨I.ok.mod,I.ok.kind,I.ok.glob,I.ok.blt,I.ok.above,I.ok.inj,I.ok.has,I.ok.cab,I.ok.hd,I.ok.frames,I.ok.stk,I.ok.exf,I.ok.bs,I.ok.bsz,I.ok.noex,I.ok.exfs,I.ok.funs,I.ok.frf,I.ok.tab⟩,I.os,I.bare,I.base,⟨m,d,λi x v g f c=>e (i+1) x v (by grind) f c⟩,I.cell,I.free,I.freeC,I.pin,I.hok,?_⟩
 have:=I.len
 simp_all
theorem Br3 {k:Nat}{x l v c2 n y:Str}{M:v4}{st:Stmt}{f Fc:Addr}{fd:u5}{Z:Sp}{vp cp G L yp U T ap bp D:Pos}
 (F:Fun K x x st f fd) (S:Ay (l::v::c2::n::M) [l] (Ah st)) (hb:Binds K fd [l] []) (hm:mg x=some (.ref f)) (hy:mg y=some (.ref Fc))
 (h1:∀(g:Value) (A:t_) (d:List Env) (s:u_) (H:Hp),QS (Jo CX0 P w K mg base (l::v::c2::n::M) x (Ah st) f g A d s H E0).nox ((Cz st).headD (.Pass ⟨0,0,0,0⟩)) (Ut (A5o (Bv (tC .non) (Bv (tC .non) Fb))) (Av9 K 2 (Ni (Gz 1) (Ni (Gz 2) Au8)))))
 (N:∀(g:Value) (A:t_) (d:List Env) (s:u_) (H₀ H:Hp) (vs:m6) (Q:VK) (E:XK),Room k (A.deeper (envOfC x (Ah st) s.heap.objs.size f g))->Z vs H Q E ->
  ∃t,PSs (Jo CX0 P w K mg base (v::c2::n::M) x (Ah st) f g A d s H₀ E).nox ((Cz st).drop 2) t/\t { nx:=λ_ B=>Q .non B,rt:=Q } (start (v::c2::n::M) vs) H)
 (hst:Cz st=(Cz st).headD (.Pass ⟨0,0,0,0⟩)::.Try [.Assign [.Name v vp] (.Call (.Name l cp) [] [] G) L] [.ExceptHandler (some (.Name y yp)) (some n) [.Assign [.Name c2 ap] (.Name n bp) D] U] [] [] T::(Cz st).drop 2:=by rfl)
 (hg:(Ah st).names.lookup y=some .globalImplicit:=by rfl) (lv:(Ah st).names.lookup v=some .local:=by rfl) (l2:(Ah st).names.lookup c2=some .local:=by rfl) (ln:(Ah st).names.lookup n=some .local:=by rfl) (lc:(Ah st).names.lookup l=some .local:=by rfl)
 (hsw:∀R,swapsWith (.Call (.Name l cp) [] [] G) (some (.Name v vp)) L.line R=pure false:=by exact λ_=>rfl) (hsw2:∀R,swapsWith (.Name n bp) (some (.Name c2 ap)) D.line R=pure false:=by exact λ_=>rfl)
 (d1:(l==("__debug__" : Str))=false:=by decide) (d2:(n==("__debug__" : Str))=false:=by decide) (d3:(y==("__debug__" : Str))=false:=by decide) (d4:(l==("__classdict__" : Str))=false:=by decide) (d5:(n==("__classdict__" : Str))=false:=by decide):Told P w K mg base x (k+1) Fc Z:=by
 obtain⟨oc,od,kV,doc,pm,an,g,ct,osl,rfl,lk,hcd⟩:=F.ex
 refine⟨f,F.kp,hm,λA d s H O te Q hr e0 hmo ht q=>?_⟩
 have KX:K.In s.heap:=e0.mod.kin.keeps λb o e=>(e0.bs b o e).1
 have lim:s.heap.NoLimit:=e0.mod.nolimit.keeps λb o e=>(e0.bs b o e).1
 have W:∀y∈[l].zip [Value.ref O],(Ah st).names.lookup y.1=some .local\/((Ah st).names.lookup y.1=some .cell/\((cellsFrom (s.heap.objs.size+1) (Ah st).names []).lookup y.1).isSome=true):=λ⟨n,v⟩ hy=>by
  cases aN.mp hy
  exact .inl lc
 refine codeAny_call_function hr.depth (KX _ _ lk) rfl S.co S.gen rfl (PySem.W.codeRec_of KX hcd) (hb s [.ref O] KX rfl _ _ _ _ ?_)
 refine wpAny_newFunctionEnv_cells S.kind W λR he Y xx=>?_
 subst he
 refine⟨lim.keeps xx.toInCall.keep,codeAny_func ?_⟩
 have I0:Inv (Jo CX0 P w K mg base (l::v::c2::n::M) x (Ah st) f g A d s H E0) [] (start (l::v::c2::n::M) [.ref O]) H Y:=Y9 S hr.hd e0 rfl (.cons rfl .nil) xx;have I:Inv (Jo CX0 P w K mg base (l::v::c2::n::M) x (Ah st) f g A d s H E0).nox [] (some (.ref O)::none::none::none::List.replicate M.length none) H Y:=I0.wish _;have hr2:=hr.deeper (envOfC x (Ah st) s.heap.objs.size f g)
 refine aL (Q:=SP (Jo CX0 P w K mg base (v::c2::n::M) x (Ah st) f g A d s H E0).nox [] { nx:=λ_ B=>Q .non B,rt:=Q }) (E:=λ_ _=>False) ?_ (λfw s' hs=>?_) λ_ _ z=>z.elim
 ·generalize hB:(Cz st).headD (.Pass ⟨0,0,0,0⟩)=s1 at hst h1
  generalize hC:(Cz st).drop 2=rest at hst N
  show wpAny _ _ (execs (Cz st) _) _ _ _
  rw[hst]
  refine fJ (thn ((h1 g A d s H).get [] Y _ H { nx:=λh B=>h=some (.ref O)::some .non::some .non::none::List.replicate M.length none/\Same H B,rt:=λ_ _=>False } I ⟨by show 2<=sizeLine;decide,λp hp=>⟨p,_,rfl,SqT.of Aq,rfl,.non,_,rfl,.non,_,rfl,rfl,rfl,λb u e=>by rw[Ag (Ba e hp)];exact e⟩⟩) λfw s2 q2=>?_)
  cases fw with
  | ret _=>obtain⟨_,_,_,_,_,z⟩:=q2;exact z.elim
  | brk=>obtain⟨_,_,_,z⟩:=q2;exact z.elim
  | cont=>obtain⟨_,_,_,z⟩:=q2;exact z.elim
  | next =>
  obtain⟨σ2,X,I2,rfl,sm⟩:=q2
  have hpx:PX (Jo CX0 P w K mg base (l::v::c2::n::M) x (Ah st) f g A d s H E0).nox (.Call (.Name l cp) [] [] G) (λσ B Q' E'=>σ[0]?=some (some (.ref O))/\te B Q' E'):=by
   intro pins s' h B Q' E' I' ⟨e1,q1⟩
   refine gJ ?_
   refine aL (Ae1 (i:=0) rfl (Or.inl lc) d1 d4 pins s' h B (λv X=>v=.ref O/\X=B) I' ⟨_,e1,rfl,rfl⟩) (λu s2 ⟨v,X,I2,r,hv,hH⟩=>?_) (λ_ _ z=>z.elim)
   subst hv hH
   cases (show u=Value.ref O from r)
   obtain⟨fa,run⟩:=ht _ s2 X Q' E' I2.env0 I2.base I2.os q1
   refine callWith_F0 fa (fL (fM run λr s3 hq=>?_))
   cases r with
   | error ev=>exact⟨X,s2,I2,hq⟩
   | ok O =>
    cases O with
    | ret u=>exact I2.after hq
    | next=>exact False.elim hq
    | brk=>exact False.elim hq
    | cont=>exact False.elim hq
  have su:∀a,PSs (Tj (Jo CX0 P w K mg base (l::v::c2::n::M) x (Ah st) f g A d s H E0).nox a) [.Assign [.Name c2 ap] (.Name n bp) D] (Ut (Rw 3) (Gz 2)):=λa=>A1p (A9q S.nd rfl (Or.inl l2) (Ae1 rfl (Or.inl ln) d2 d5) (hsw2 _) (.inl rfl))
  have tr:PS (Jo CX0 P w K mg base (l::v::c2::n::M) x (Ah st) f g A d s H E0).nox (.Try [.Assign [.Name v vp] (.Call (.Name l cp) [] [] G) L] [.ExceptHandler (some (.Name y yp)) (some n) [.Assign [.Name c2 ap] (.Name n bp) D] U] [] [] T) _:=Bp7 (i:=1) (j:=3) hpx rfl ⟨rfl,rfl⟩ S.nd rfl (Or.inl lv) rfl ln hg hy su (hsw _) d3 (.inl rfl)
  refine fJ (thn (tr [] s2 _ X { nx:=λh B=>∃u1 u2,h=some (.ref O)::some u1::some u2::none::List.replicate M.length none/\Z [u1,u2] B Q E0,rt:=λ_ _=>False } I2
   ⟨rfl,hmo _ _ _ _ _ (λu H3 z=>⟨u,.non,rfl,z⟩) (λc m H3 ⟨C,e1,e2,e3⟩=>⟨C,e1,e2,λa ha=>⟨.ref a,rfl,.non,.ref a,rfl,e3 a ha⟩⟩) (q X sm)⟩) λfw s3 q3=>?_)
  cases fw with
  | ret _=>obtain⟨_,_,_,_,_,z⟩:=q3;exact z.elim
  | brk=>obtain⟨_,_,_,z⟩:=q3;exact z.elim
  | cont=>obtain⟨_,_,_,z⟩:=q3;exact z.elim
  | next =>
  obtain⟨σ3,H3,I3,u1,u2,rfl,qs⟩:=q3;obtain⟨t,h2,q2⟩:=N g A d s H H3 [u1,u2] Q E0 hr2 qs;exact h2 [] s3 _ H3 _ (I3.tail rfl) q2
 ·have fin:∀{h:St} {B:Hp} {v':V} {u:Value},Inv (Jo CX0 P w K mg base (v::c2::n::M) x (Ah st) f g A d s H E0).nox [] h B s'->RelV v' u->Q _ _->CE _ P w H s Q u _ :=
   λ{h B v' u} J rv q=>⟨v',B,J.os,J.bare,J.base,J.hok,rv,q⟩
  cases fw with
  | ret u =>
   obtain⟨v',h,B,J,rv,q⟩:=hs;exact fin J rv q
  | next =>
   obtain⟨h,B,J,q⟩:=hs;exact fin (v':=V.non) J rfl q
  | brk=>obtain⟨_,_,_,q⟩:=hs;exact q.elim
  | cont=>obtain⟨_,_,_,q⟩:=hs;exact q.elim
end
noncomputable def tNs:List Nat->TA
 | []=>Fb
 | j::r=>Bv (Rw j) (tNs r)
def B5d (K:v9)(Fc:Addr)(spg spr:Sp)(js:List Nat):TE:=λσ H Q=>∀H1,Same H H1->tNs js σ H1 λvs H2=>spg vs H2 (λu H3=>spr [u,.non] H3 Q E0) (B6s K Fc spr Q)
theorem At2 {σ:St}:∀{js:List Nat}{H:Hp}{k:m6->Hp->Prop},tNs js σ H k->∃vs:m6,js.map (λj=>σ[j]?)=vs.map (λv=>some (some v))/\k vs H
 | [],_,_,h=>⟨[],rfl,h⟩
 | j::r,H,k,⟨v,e,h⟩=>by
  obtain⟨vs,e2,h2⟩:=At2 (js:=r) (k:=λvs H=>k (v::vs) H) h
  exact⟨v::vs,by rw[aG,aG,e,e2],h2⟩
theorem A7h {σ:St}:∀{js:List Nat}{vs:m6}{H:Hp}{k:m6->Hp->Prop},js.map (λj=>σ[j]?)=vs.map (λv=>some (some v))->k vs H->tNs js σ H k
 | [],[],_,_,_,h=>h
 | j::r,v::vs,H,k,e,h=>by
  obtain⟨e1,e2⟩:=List.cons.inj e
  exact⟨v,e1,A7h (js:=r) (k:=λvs H=>k (v::vs) H) e2 h⟩
 | [],_::_,_,_,e,_=>by cases e
 | _::_,[],_,_,e,_=>by cases e
theorem A6g {a:St}{js:List Nat}{vs:m6}(e:js.map (λj=>a[j]?)=vs.map (λv=>some (some v))):(List.range js.length).map (λj=>(cst (js.map some) a)[j]?)=vs.map (λv=>some (some v)):=by
 refine j5 λi=>?_
 have:=bY (λl=>l[i]?) e
 simp at this ⊢
 by_cases h:i<js.length
 ·rw[jK h]
  rw[bz h]at this
  cases ev:vs[i]? with
  | none=>grind
  | some v =>
   rw[ev]at this
   simp at this ⊢
   simp[cst,bz h,this]
 simp_all
theorem HLam.same {H a:Hp}(h:HLam H a):Same H a:=by
 rcases h with rfl | ⟨c,o,d,rfl⟩
 ·exact Same.refl _
 ·exact λb u e=>by rw[Ag (Ba e d)];grind
section
variable {X:Cx}{p pos lpos:Pos}
theorem Bb1 {Kq:v9}(U:X.K=Kq){x v:Str}{k kg k':Nat}{Fc c T:Addr}{g F:Sp}{e:Arguments}{body:Expr}{scope:Scope}{G:v4}{js:List Nat}(D:Told X.prog X.w X.K X.mg X.base x k Fc F)(hT:(T,v)∈Do X.K)(hC:codeHdIn X.K c T=true)(n:X.env.code=.ref c)(hr:Room k' X.A)
 (V:∀R,At5 (g R)) (L:Ww X G (js.map some) scope)
 (hb:∀f M t A stk s H E,Room kg (A.deeper (envX v scope s.heap.objs.size f M t))->QE (A0x X.prog X.w X.K X.mg X.base G scope t v f M A stk s H E) body (Pa g [] E (tNs (List.range js.length)))) (h:k<=k':=by lia) (h2:kg+2<=k':=by lia) (hg:Gl X x:=by rfl)
 (W:scope.isCoroutine=false:=by rfl) (B:scope.isGenerator=false:=by rfl) (i:X.env.qual ++ "<lambda>" = v:=by rfl) (N:defaultsOf e X.env=([],[]):=by rfl)
 (l:∀t pm M w,bindArgs (kla_fn "<lambda>" v e body scope t pm M w) ⟨[],[]⟩=pure []:=by exact λ_ _ _ _=>rfl)
 (hdb:(x==("__debug__" : Str))=false:=by decide) (he:starEach [.Lambda e body scope lpos] X.env=(false,eval (.Lambda e body scope lpos) X.env)::starEach [] X.env:=by rfl) :
 QE X (.Call (.Name x p) [.Lambda e body scope lpos] [] pos) (B5d Kq Fc g F js):=by
 subst U
 refine⟨λpins s σ H Q I q=>?_⟩
 obtain⟨f,kp,m,run⟩:=D
 refine gJ (Lb I hg m ?_ hdb)
 refine PySem.W.callWith_K (h₀:=X.base) I.ok.mod.kin kp ?_ he rfl
 rw[he]
 obtain⟨t,j,c1,c2⟩:=P0 (env:=X.env) (scope:=scope) λy hy hf=>I.ok.has y.1 (L.free y hy hf)
 refine dh (Bg9 I hT hC n i N j λfl s1 H1 pm M w P hl hcd=>?_)
 refine eQ ⟨P.kIn,?_⟩
 obtain⟨R,Y,_⟩:=At2 (q H1 hl.same)
 refine fL (fM (run X.A X.stack s1 H1 fl (g R) Q (hr.mono h) P.env0 (V R) ?_ λH2 sm=>by
  obtain⟨vs2,ev2,q2⟩:=At2 (q H2 (hl.same.trans sm))
  cases (List.map_inj_right λa b z=>by cases z;rfl).mp (Y.symm.trans ev2)
  exact q2) λr Z i=>?_)
 ·intro C Z S Q' E' e0 un os qe
  obtain⟨_,_,J,_,rfl⟩:=P.after (s':=Z) (Q:=λ_ H2=>H2=S) (u:=.none) ⟨.non,S,os,e0.bare,un,e0.hok,rfl,rfl⟩
  have K:=(J.pin (fl,Ay2 v e body scope t pm _ _) (aR _ (aR _ bV))).1
  refine⟨⟨_,_,_,_,K⟩,?_⟩
  obtain⟨c0,o,us,t0,rfl,hc,d⟩:=hcd;have O:LamCd _ _ _:=⟨c0,o,us,t0,rfl,un.frzs _ _ _ hc,d⟩;have rm:Room _ (X.A.deeper C):=(hr.mono h2).deeper _
  refine Bt7 L W B (l _ _ _ _) rm (hb _ _ _ _ _ _ _ _ (rm.deeper _)) e0 J K (O.rec J.hok) c1 c2 ?_
  refine A7h (A6g Y) ?_
  grind
 ·cases r with
  | error Y=>exact(i).elim
  | ok fw =>
   cases fw with
   | ret u =>
    obtain⟨v',S,J',r',q⟩:=P.after i
    exact⟨v',S,J'.pins_of λp hp=>J'.pin p (aR _ (bf _ hp)),r',q⟩
   | next=>exact False.elim i
   | brk=>exact False.elim i
   | cont=>exact False.elim i
end
end L2
namespace U
open PySem L2 PySem.W
section
variable {K:v9}
def Wb (F:w5->XF)(G:n8)(NS:v4)(fa:o_):n7:=λc=>(fa c).bind λps c=>match Mm c ps with
 | none=>.bad
 | some ds=>match F ds with
  | .ret (.im d)=>Xw G [.o (.im d),.o (.im .none)] c
  | .ex nm=>if NS.contains nm.n=true then Xw G [.o (.im .none),.o (.ty (.xc nm))] c else .bad
  | _=>.bad
theorem An3 {F:w5->XF}(vs:m6):At5 (spX K F vs):=by
 intro H Q c E f d e h;obtain⟨a,b,s,t,m⟩:=h
 refine⟨a,b,s,t,?_⟩
 grind
theorem As1 {F:w5->XF}{G:n8}{E:Addr}{I:v4}{js:List Nat}{J:o_}(hx:∀S∈I,∀C,PySem.W.nsIn K mainGlobals S=some (some (.ref C))->PySem.W.exmOne K (.ref C) (.ref E)=some true)(ha:MA K (tNs js) J) :
 ME K (B5d K E (spX K F) (spP K G) js) (Wb F G I J):=by
 intro M W c N Q R s H t
 have R0:Rep K M ⟨W.Hf,H,W.fps⟩ c N:=Stp.rep (S':=λ_=>False) R (Ox t) λa o e=>t a o (R.sub a o e)
 refine ha M ⟨W.Hf,H,W.fps⟩ c N _ R0 (s.bnd.mono λu c1 k vs h n l r1=>?_)
 have n:Stp W.S W.Hf W.H h.S h.Hf h.H:=(Ox (Hf:=W.Hf) t).trans n
 cases ea:Mm c1 u with
 | none=>simp only[ea]at k;trivial
 | some ds =>
  simp only[ea]at k
  refine⟨h.Hf,ds,l.sub,Ri l r1 ea,?_⟩
  have T:∀{b i:Hp},Stp (λ_=>False) h.Hf h.H (λ_=>False) b i->Stp W.S W.Hf W.H (Wo.S ⟨b,i,h.fps⟩) b i:=λ{b i} f=>n.trans ⟨f.fz,λa o e _=>f.kp a o e λz=>z,λa o e U _ q=>f.nf a o e U (λz=>z) q,λa z=>.inl z⟩
  split at k
  ·rename_i d m
   rw[m];intro v b i L f g r;obtain⟨rfl,Z⟩:=r
   have f:Stp _ _ _ (λ_=>False) _ _:=f.less λa z=>nomatch z
   have w := Stp.rep l f g
   exact Sq (ps:=[.o (.im d),.o (.im .none)]) w ⟨v,_,rfl,Z,.non,_,rfl,rfl,rfl⟩ (k.mono λp c' x X Y L j A y=>x _ _ _ ((T f).trans j) A y)
  ·rename_i S m
   split at k
   ·rw[m]
    intro C d b i P f g
    refine⟨C,rfl,hx _ (by simp_all) C P.ns,λa B=>?_⟩
    have D:Stp _ _ _ _ (upd _ a (Yd a C d)) _:=Stp.newF g B;have w := Stp.rep l f g;have V := Stp.rep (W:=⟨b,i,h.fps⟩) w D (Ij g)
    exact Sq (ps:=[.o (.im .none),.o (.ty (.xc _))]) V ⟨.non,_,rfl,rfl,.ref a,_,rfl,⟨a,C,d,rfl,P.same D.fz,Aq⟩,rfl⟩
     (k.mono λp c' x X Y L j A y=>x _ _ _ ((T (f.trans D)).trans j) A y)
   trivial
  trivial
def Bv0 (P:u6)(w:World)(K:v9)(mg:x_)(base:Heap)(x:Str)(k:Nat)(NS:v4)(spr:Sp):Prop:=∃Fc,Told P w K mg base x k Fc spr/\ExOk K Fc NS
end
end U
namespace L2
open PySem PySem.Spec PyProof.Rows PySem.W
section
variable {prog:u6}{w:World}{A:t_}{E:z_}{h:Heap}{g:Array GenState}{d:Drawn}{t:Nat}{os:OsState}{K:Frag}
variable {nm q:Str}{C N:Addr}{bs bm:w6}{hdct:Bool}{sn:v4}{sub:w6}{ab:Bool}{col:Option Bool}{dd:Option Addr}{k0 k1 k2 k3 k5:u9}
theorem Bk1 {a:w6}{i:Addr}{oI:Obj}{Q:Fin->u_->Prop}(X:K.In h)(T:OwnTail h bmV bm)(f:h.get? C=some (excClassObj nm q C N bs bm hdct sn sub ab col dd k0 k1 k2 k3 k5 "ValueError.__new__")) (hi:findIn K (.ref C) "__init__" = some (some (.ref i)))
 (hf:h.get? i=some oI) (hc:oI.cls=.type "function") (hr:a.length<=sizeLine)
 (hq:∀h' e,Heap.MadeExcOf h h' e (.ref C) a->h.objs.size<=e->wpAny (model prog w) A (call (.ref i) (.ref e::a)) (λr s'=>r=.none/\Q (.done (.ret (.ref e))) s') E ⟨h',g,d,t,os⟩) :
 wpAny (model prog w) A (Builtin.«type.__call__» ⟨.ref C::a,[]⟩) Q E ⟨h,g,d,t,os⟩:=by
 have F:=PySem.F.excBase_ValueError
 repeat (first | with_reducible refine bR f ?_ | with_reducible refine wpAny_madeBy_exc f ?_ | wp_step)
 refine codeAny_call_builtin_code (jB _ F.quiet) (wpAny_check_new_subT F T f ?_)
 refine codeAny_exc_new_subT F T f ?_ hr
 show wpAny _ _ _ _ _ _
 have M:Heap.MadeExcOf h ((h.push { cls:=.type "tuple",data:=.seq a.toArray }).push { cls:=.ref C,data:=.fields #[.ref h.objs.size,.none,.none,.none,.bool false,.none] }) (h.objs.size+1) (.ref C) a :=
  ⟨λb o z=>aC _ (aC _ z),gB (dN _),h.objs.size,by heap_get,gB (au _),aC _ (Heap.get?_push_at rfl rfl)⟩
 generalize (h.push { cls:=.type "tuple",data:=.seq a.toArray }).push { cls:=.ref C,data:=.fields #[.ref h.objs.size,.none,.none,.none,.bool false,.none] }=h1 at M ⊢;have le:h.objs.size<=h.objs.size+1:=dN _;generalize h.objs.size+1=e at M le ⊢;obtain⟨t0,c,_⟩:=M.there
 have j:(Value.ref C::bm).contains (.ref C)=true:=by simp
 unfold isInstance
 repeat (first | with_reducible refine bR c ?_ | (with_reducible refine gY (M.keeps _ _ f) ?_;rw[j]) | wp_step)
 show wpAny _ _ (typeLookup (.ref C) _) _ _ _
 refine (dB (X.keeps M.keeps) hi).here ?_
 refine bH (aj ?_)
 unfold bindSpecial
 refine aj (dj (T := "function") ⟨_,M.keeps _ _ hf,hc⟩ ?_)
 rw[if_pos (by decide)]
 refine ak (aj (aL (hq _ _ M le) (λr s' z=>?_) λ_ _ x=>x))
 obtain⟨rfl,hQ⟩:=z
 wp_walk
 exact hQ
theorem A3i {a:w6}{f:Addr}{i:Obj}{Q:z_}(X:K.In h)(T:OwnTail h bmV bm)(b:h.get? C=some (excClassObj nm q C N bs bm hdct sn sub ab col dd k0 k1 k2 k3 k5 "ValueError.__new__")) (hi:findIn K (.ref C) "__init__" = some (some (.ref f)))
 (j:h.get? f=some i) (hc:i.cls=.type "function") (hr:a.length<=sizeLine)
 (k:∀c e,Heap.MadeExcOf h c e (.ref C) a->h.objs.size<=e->wpAny (model prog w) (A.under (.builtin "type.__call__" ⟨.ref C::a,[]⟩)) (call (.ref f) (.ref e::a)) (λr s'=>r=.none/\Q (.ref e) s') E ⟨c,g,d,t,os⟩) :
 wpAny (model prog w) A (call (.ref C) a) Q E ⟨h,g,d,t,os⟩:=by
 have n:=tc_lookup;have o:=tc_bind (.ref C);have p:(⟨h,g,d,t,os⟩:u_).TypeIs (.ref C) "type" := ⟨_,b,rfl⟩
 refine fL (codeAny_of_tree ?_)
 show wpAny _ _ (callAny (.ref C) _) _ _ _
 repeat (any_goals (first | assumption | with_reducible refine bR b ?_ | wp_step))
 refine⟨rfl,codeAny_call_builtin_at (jB _ (by decide +kernel)) entry_typeCall (wpAny_check_type_call_sub b (Bk1 X T b hi j hc hr λc e m l=>?_))⟩
 exact k _ e m l
end
section
variable {prog:u6}{w:World}{M:Model}{A:t_}{E:z_}{s:u_}{env:Env}
variable {nm q:Str}{C N:Addr}{bs bm:w6}{hdct:Bool}{sn:v4}{sub:w6}{ab:Bool}{col:Option Bool}{dd:Option Addr}{k0 k1 k2 k3 k5:u9}{newId:String}
noncomputable abbrev Mg (C:Addr) (d:Option Addr) (t:Addr):Obj:={ cls:=.ref C,dict:=d,data:=.fields #[.ref t,.none,.none,.none,.bool false,.none] }
theorem A8a {x:Sem Value}{Q:Flow->u_->Prop}(hb:bm.contains (.type "BaseException")=true) (b:A.handled=none)
 (h:wpAny M A x (λv s1=>∃e d t,v=.ref e/\s1.heap.get? C=some (excClassObj nm q C N bs bm hdct sn sub ab col dd k0 k1 k2 k3 k5 newId)/\s1.heap.get? e=some (Mg C d t)/\E (.ref e) s1) E s) :
 wpAny M A (raiseStmt env (some x) none) Q E s:=by
 have c:(Value.ref C::bm).contains (.type "BaseException")=true:=by rw[gV,hb,Bool.or_true]
 unfold raiseStmt
 refine aj (aL h (λv s1 z=>?_) λ_ _ x=>x)
 obtain⟨e,d0,t0,rfl,a,he,hE⟩:=z;obtain⟨hp,g,d,tk,os⟩:=s1
 repeat (first | with_reducible refine bR he ?_ | with_reducible refine bR a ?_ | (with_reducible refine gY a ?_;rw[c]) | wp_step)
 exact iZ b hE
theorem Av0 {x:Str}{k b g:Pos}{c:v_}{Q:Flow->u_->Prop}(hb:bm.contains (.type "BaseException")=true) (n:A.handled=none) (hpl:(backTo b (starEach c env)).any (·.1)=false)
 (h:wpAny (model prog w) A (eval (.Name x k) env) (λf s1=>f=.ref C/\wpAny (model prog w) A (evalArgs (.ref C) true (backTo b (starEach c env)) [])
  (λa s2=>a.kw=[]/\s2.heap.get? C=some (excClassObj nm q C N bs bm hdct sn sub ab col dd k0 k1 k2 k3 k5 newId)/\wpAny (model prog w) A (call (.ref C) a.pos) (λv s3=>∃e d t,v=.ref e/\s3.heap.get? C=some (excClassObj nm q C N bs bm hdct sn sub ab col dd k0 k1 k2 k3 k5 newId)/\s3.heap.get? e=some (Mg C d t)/\E (.ref e) s3) E s2) E s1) E s) :
 wpAny (model prog w) A (exec (.Raise (some (.Call (.Name x k) c [] b)) none g) env) Q E s:=by
 refine aj (cT (A8a (C:=C) (nm:=nm) (q:=q) (N:=N) (bs:=bs) (hdct:=hdct) (sn:=sn) (sub:=sub) (ab:=ab) (col:=col) (dd:=dd) (k0:=k0) (k1:=k1) (k2:=k2) (k3:=k3) (k5:=k5) (newId:=newId) hb n ?_))
 refine aj (aL (wpAny_Call_ofName (aL h (λf s1 z=>?_) λ_ _ x=>x)) (λv s3 z=>aj (cT (ak z))) λ_ _ x=>x)
 obtain⟨rfl,z⟩:=z
 refine aj (bH (aL z (λa s2 y=>aj (cT ?_)) λ_ _ x=>x))
 obtain⟨l,i⟩:=a;obtain⟨j,m,y⟩:=y;obtain rfl:i=[]:=j;simp only[hpl]
 refine aj (wpAny_keeperOf_exc m ?_)
 exact aj (aL y (λv s3 z=>aj (bH (wpAny_point (ak z)))) λ_ _ x=>x)
end
end L2
namespace L2
open PySem PySem.Spec PyProof.Rows PySem.W Builtin Builtin.ObjectAttr
section
variable {prog:u6}{w:World}{A:t_}{E:z_}{h:Heap}{g:Array GenState}{d:Drawn}{t:Nat}{os:OsState}{K:Frag}{s:u_}
variable {nm q f:Str}{C N F e t0:Addr}{bs bm:w6}{sn:v4}{sub:w6}{ab:Bool}{col:Option Bool}{dd:Option Addr}{k0 k1 k2 k3 k5:u9}{v:Value}
theorem Bg0 {b:Sem Bool}{Q:Value×w6->u_->Prop}(X:K.In s.heap)(hm:typeIn K (.ref F)=some (.type "type")) (hs:nsIn K cStatics "thirdparty.any" = some none) (c:findIn K (.ref F) "__init__" = some (some (.builtin "ValueError.__init__")))
 (d:Q (.builtin "ValueError.__init__",[]) { s with toks:=s.toks+1 }):wpAny (model prog w) A (getMethod (.ref F) "__init__" b) Q E s:=by
 have a:findIn K (.type "type") "__getattribute__" = some (some (.builtin "type.__getattribute__")):=type_tga
 refine method_cls X (by unfold specialIn;rw[hm];exact a) (cls_value (mc:=.type "type") (v:=.builtin "ValueError.__init__") X ?_ ?_ (by decide +kernel) d)
 ·unfold readsIn
  rw[hs,hm]
  rfl
 ·unfold findCls
  rw[c]
  rfl
theorem Bs3 {u:Value}{Q:z_}(T:OwnTail h bmV bm)(c:h.get? C=some (excClassObj nm q C N bs bm true sn sub ab col dd k0 k1 k2 k3 k5 "ValueError.__new__")) (he:h.get? e=some (Mg C none t0))
 (a:∀h' t1,(∀b o,b≠e->h.get? b=some o->h'.get? b=some o)->h'.get? e=some (Mg C none t1)->Q .none ⟨h',g,d,t,os⟩):wpAny (model prog w) A (call (.builtin "ValueError.__init__") [.ref e,u]) Q E ⟨h,g,d,t,os⟩:=by
 have F:=PySem.F.excBase_ValueError
 refine fL (gW F.init.plain F.initEntry (wpAny_check_init_subT F T c he rfl ?_))
 wp_walk
 refine a _ h.objs.size (λb o n z=>?_) ?_
 ·rw[cM _ _ (aF n)]
  exact aC _ z
 ·rw[bO _ (aC _ he) rfl]
  rfl
theorem Aj4 (T:OwnTail h bmV bm)(a:Value):refuseLoop a "__setattr__" bm=pure ():=by
 induction T with
 | base=>exact PySem.F.store_ValueError.passes _
 | own _ _ _ _ b=>rw[refuseLoop_ref];exact b
theorem A5x {M:Model}{c:Value}{Q:Unit->u_->Prop}(T:OwnTail h bmV bm)(j:h.get? C=some (excClassObj nm q C N bs bm true sn sub ab col dd k0 k1 k2 k3 k5 "ValueError.__new__")) (he:h.get? e=some (Mg C none t0)) (f:Q () ⟨h,g,d,t,os⟩) :
 wpAny M A (checkBuiltinCall "object.__setattr__" ⟨[.ref e,c,v],[]⟩) Q E ⟨h,g,d,t,os⟩:=by
 have a:=PySem.F.store_ValueError
 have i:(Value.ref C::bm).contains (.type "object")=true:=by rw[gV,T.hasType (X := "object") (b:=true) rfl];rfl
 have k:=a.args (.ref e) c v;simp only[checkBuiltinCall,a.kind,a.split]
 refine aj ?_
 unfold isInstance
 repeat (first | with_reducible refine bR he ?_ | (with_reducible refine gY j ?_;rw[i]) | wp_step)
 exact f
theorem A3t {tk:Tok}{Q:Fin->u_->Prop}(X:K.In h)(T:OwnTail h bmV bm)(hC:h.get? C=some (excClassObj nm q C N bs bm true sn sub ab col dd k0 k1 k2 k3 k5 "ValueError.__new__")) (hf:findIn K (.ref C) f=some none) (he:h.get? e=some (Mg C none t0))
 (hq:∀a tk,(∀b o,b≠e->h.get? b=some o->a.get? b=some o)->a.get? e=some (Mg C (some h.objs.size) t0)->a.Ns1 h.objs.size (λy=>if y=f then some v else none)->Q (.done (.ret .none)) ⟨a,g,d,tk,os⟩) :
 wpAny (model prog w) A (Builtin.«object.__setattr__» ⟨[.ref e,.str f tk,v],[]⟩) Q E ⟨h,g,d,t,os⟩:=by
 have l2:=dB (M:=model prog w) X hf;have c:=Aj4 T (.ref e);have ne:e≠h.objs.size:=aM (az he)
 generalize h1d:((h.push { cls:=.type "dict",data:=.dict #[] }).update e λo=>{ cls:=o.cls,dict:=some h.objs.size,data:=o.data,slots:=o.slots })=h1
 have x1:h1.get? e=some (Mg C (some h.objs.size) t0):=by rw[<- h1d];exact bO _ (aC _ he) rfl
 have k1:∀b o,b≠e->h.get? b=some o->h1.get? b=some o:=λb o n z=>by rw[<- h1d];exact(Heap.get?_update_ne _ _ _ _ n).trans (aC _ z)
 have n1:h1.Ns1 h.objs.size (λ_=>none):=Heap.Ns1.of_empty ⟨_,#[],_,by rw[<- h1d];exact(Heap.get?_update_ne _ _ _ _ ne.symm).trans (Heap.get?_push_at rfl rfl),rfl,λe he=>absurd he (by simp),λ_=>rfl⟩
 unfold Builtin.«object.__setattr__»
 repeat (first | rw[h1d] | rw[refuse_eq] | rw[refuseLoop_ref,c] | with_reducible refine bR he ?_ | with_reducible refine wpAny_mroOf_exc hC ?_ | with_reducible refine l2.here ?_ | with_reducible refine wpAny_nsSet1 n1 λa hn hs=>?_ | wp_step)
 obtain⟨oD,eD,pD,hoD,hdD,i⟩:=hn.count (Within.cons f v Within.nil)
 refine wpAny_loadPart hoD ?_
 rw[hdD,pastItsLine_dict (ao i (by rw[bW,j9,sizeLine_eq];lia))]
 refine ak (ak (hq a _ (λb o n z=>?_) ((hs.2 e ne).trans x1) hn))
 exact(hs.2 b (aM (az z))).trans (k1 b o n z)
theorem A6j {Q:Unit->u_->Prop}(X:K.In h)(T:OwnTail h bmV bm)(hC:h.get? C=some (excClassObj nm q C N bs bm true sn sub ab col dd k0 k1 k2 k3 k5 "ValueError.__new__")) (hs:findIn K (.ref C) "__setattr__" = some (some (.builtin "object.__setattr__"))) (hf:findIn K (.ref C) f=some none)
 (he:h.get? e=some (Mg C none t0))
 (hq:∀h' tk,(∀b o,b≠e->h.get? b=some o->h'.get? b=some o)->h'.get? e=some (Mg C (some h.objs.size) t0)->h'.Ns1 h.objs.size (λy=>if y=f then some v else none)->Q () ⟨h',g,d,tk,os⟩) :
 wpAny (model prog w) A (setAttr (.ref e) f v) Q E ⟨h,g,d,t,os⟩:=by
 have SF:=PySem.F.store_ValueError;have f3:=SF.slot.bind (.ref e);have l1:=dB (M:=model prog w) X hs;unfold setAttr callSpecial? specialOf
 repeat (any_goals (first | assumption | with_reducible refine bR he ?_ | with_reducible refine l1.here ?_ | wp_step))
 refine gW SF.slot.plain SF.entry (A5x T hC he (A3t X T hC hf he λh' tk k1 k2 k3=>?_))
 repeat (any_goals (first | assumption | wp_step))
 exact hq h' tk k1 k2 k3
end
section
variable {prog:u6}{w:World}{A:t_}{E:z_}{h:Heap}{g:Array GenState}{d:Drawn}{t:Nat}{os:OsState}{a C dx:Addr}{o:Obj}{K:v9}{f:Str}{v:Value}{m:x_}
theorem A9c {tk:Tok}{vs:v7}{Q:Fin->u_->Prop}(X:K.In h)(Z:Ko K C)(c:findIn K (.ref C) f=some none)(hx:h.get? a=some o)(hc:o.cls=.ref C)(hd:o.dict=some dx)(ho:o.data=.fields vs)(hn:h.Ns1 dx m)(hm:m f=some v)(q:Q (.done (.ret v)) ⟨h,g,d,t,os⟩) :
 wpAny (model prog w) A (Builtin.«object.__getattribute__» ⟨[.ref a,.str f tk],[]⟩) Q E ⟨h,g,d,t,os⟩:=by
 obtain⟨s,F,G,H,n,p,e,r,i,u,x,y,z,B,D,b,T⟩:=Hn X Z.exc;have j:=dB (M:=model prog w) X c;have k:=hn.ns;obtain⟨I,J,L,l⟩:=o
 cases hc;cases hd;cases ho
 unfold Builtin.«object.__getattribute__»
 repeat (any_goals (first | assumption | with_reducible refine bR hx ?_ | with_reducible refine bR b ?_ | with_reducible refine j.here ?_ | (with_reducible refine wpAny_nsGet k ?_;rw[hm]) | wp_step))
theorem B4b {tk:Tok}{c b:Bool}{vs:v7}{Q:z_}(X:K.In h)(Z:Ko K C)(i:findIn K (.ref C) f=some none)(hx:h.get? a=some o)(hc:o.cls=.ref C)(hd:o.dict=some dx)(ho:o.data=.fields vs)(hn:h.Ns1 dx m)(hm:m f=some v)(j:handedOut v=pure v)(p:Q v ⟨h,g,d,t,os⟩) :
 wpAny (model prog w) A (getAttrBy (.ref a) (.str f tk) c b) Q E ⟨h,g,d,t,os⟩:=by
 have n:=iV.ga.bind (.ref a)
 have r:(b&&onTheHeap (Value.builtin "BaseException.__getattribute__"))=false:=by cases b <;> rfl
 have l:(Value.builtin "BaseException.__getattribute__" == Value.builtin "object.__getattribute__")=false:=by decide +kernel
 have q:(onTheHeap (Value.ref C)&&Value.builtin "BaseException.__getattribute__" == Value.builtin "object.__getattribute__")=false:=by rw[l];rfl
 have k:=dB (M:=model prog w) X Z.ga;have e:=dB (M:=model prog w) X Z.gat
 repeat (any_goals (first | assumption | (with_reducible refine bR hx ?_;rw[hc]) | with_reducible refine k.here ?_ | with_reducible refine e.here ?_ | wp_step))
 refine gW iV.ga.plain PySem.F.entry_bexc_ga (Am0 X Z hx hc (A9c X Z i hx hc hd ho hn hm ?_))
 repeat (any_goals (first | assumption | rw[j] | wp_step))
theorem Bj4 {b:Bool}{vs:v7}{Q:z_}(X:K.In h)(Z:Ko K C)(c:findIn K (.ref C) f=some none)(hx:h.get? a=some o)(hc:o.cls=.ref C)(hd:o.dict=some dx)(ho:o.data=.fields vs)(hn:h.Ns1 dx m)(hm:m f=some v)(i:handedOut v=pure v)(e:Q v ⟨h,g,d,t+1,os⟩) :
 wpAny (model prog w) A (getAttr (.ref a) f b) Q E ⟨h,g,d,t,os⟩:=by
 unfold getAttr
 repeat (any_goals (first | assumption | with_reducible apply B4b X Z c _ _ _ _ _ _ _ | wp_step))
end
theorem As9 {x:V}{u:Value}(r:RelV x u):handedOut u=pure u:=by
 cases u with
 | builtin i=>cases x <;> first | (obtain⟨_,e⟩:=r;grind) | cases r
 | _=>rfl
section
variable {X:Cx}{e:Expr}{f:Str}{pos:Pos}{ta:TE}
def tXF (K:v9)(ta:TE)(f:Str):TE:=λσ H Q=>ta σ H λx H1=>∃a C dx v,x=.ref a/\H1 a=some (Yd a C (some dx))/\H1 dx=some (.xd [(f,v)])/\Ko K C/\findIn K (.ref C) f=some none/\Q v H1
theorem B4e (he:PE X e ta)(hb:attributeBase e f X.env (eval e X.env)=eval e X.env):PE X (.Attribute e f pos) (tXF X.K ta f):=by
 intro d s σ H Q I h
 refine Bn4 hb (thn (he _ s _ H _ I h) λu s1 ⟨x,j,c,k,a,C,dx,v,l,m,p,Z,n,q⟩=>?_)
 subst l;obtain rfl:u=Value.ref a:=k;obtain⟨⟨o,g,i,t,vs,w⟩,_⟩:=c.hok a _ m;obtain⟨r,y,A⟩:=c.hok _ _ p;have b:=A f;rw[List.lookup_cons_self]at b
 cases em:r f with
 | none=>rw[em]at b;trivial
 | some z =>
  rw[em]at b;exact Bj4 c.kIn Z n g i t w y em (As9 b) ⟨v,j,c.tok _,b,q⟩
theorem B5i {Kq:v9}(a:X.K=Kq)(he:QE X e ta)(hb:attributeBase e f X.env (eval e X.env)=eval e X.env:=by rfl):QE X (.Attribute e f pos) (tXF Kq ta f):=by
 subst a;exact⟨B4e he.get hb⟩
end
end L2
namespace L2
open PySem PySem.Spec PyProof.Rows PySem.W
def exI (e C:Addr)(d:Option Addr):HO:=.ext λh=>∃t,h.get? e=some (Mg C d t)
theorem Ar5 {P:u6}{w:World}{H:Hp}{h:Heap}{e C t:Addr}{d:Option Addr}(z:h.get? e=some (Mg C d t)):zE P w H h e (exI e C d):=⟨⟨t,z⟩,⟨_,z⟩,λb a ⟨t,z⟩ k=>⟨t,k _ z⟩⟩
structure Uc (K:Frag) (C F:Addr) (f:Str):Prop where
 exc:Yu K C=true
 sa:findIn K (.ref C) "__setattr__" = some (some (.builtin "object.__setattr__"))
 fld:findIn K (.ref C) f=some none
 ty:typeIn K (.ref F)=some (.type "type")
 third:nsIn K cStatics "thirdparty.any" = some none
 base:findIn K (.ref F) "__init__" = some (some (.builtin "ValueError.__init__"))
theorem Be2 {H:Hp}{a:Addr}{o:HO}(h:H a=some o):upd H a o=H:=by
 funext b
 by_cases e:b=a
 ·subst e;rw[Aq,h]
 ·rw[Ag e]
section
variable {X:Cx}{C F:Addr}{f x:Str}{p ap cp ep tp pos:Pos}{e o value:Expr}{es:v_}{t:TA}{ta tv:TE}
def B5h (C:Addr)(t:TA):TS:=λD σ H=>t σ H λvs H1=>∃e u,vs=[.ref e,u]/\H1 e=some (exI e C none)/\D.nx σ H1
theorem B3b (Z:Uc X.K C F f)(hg:Gl X x)(hm:X.mg x=some (.ref F))(ha:QA X (e::es) t)(hdb:(x==("__debug__" : Str))=false) (he:starEach (e::es) X.env=(false,eval e X.env)::starEach es X.env) (hpl:(backTo cp (starEach es X.env)).any (·.1)=false)
 (hsw:swapsWith (.Call (.Attribute (.Name x p) "__init__" ap) (e::es) [] cp) none ep.line X.env=pure false) (hl:(ap.endLine==cp.line)=true) (hfew:methodCallForm ((e::es).length+([]:List Keyword).length) (backTo cp (starEach (e::es) X.env)) (backToKw cp (keywordEach [] X.env))=true) :
 QS X (.Expr (.Call (.Attribute (.Name x p) "__init__" ap) (e::es) [] cp) ep) (B5h C t):=by
 obtain⟨ha⟩:=ha
 refine⟨?_⟩
 intro m s o H D I h
 refine wpAny_Expr_any ?_ I.quiet hsw
 have b:methodCallPos true (.Name x p) X.env ap cp=pure cp:=by unfold methodCallPos;grind
 rw[arm_eval_Call,show attributeBase (.Name x p) "__init__" X.env (eval (.Name x p) X.env)=eval (.Name x p) X.env from rfl]
 refine aj (Lb I hg hm ?_ hdb)
 refine aj (cT ?_)
 unfold methodCall;rw[hfew]
 refine aj (bH (Bg0 I.kIn Z.ty Z.third Z.base ?_))
 refine aj (wpAny_of_eq b ?_)
 refine jN (thn (ha _ _ _ _ H _ (I.tok _) h) λus w ⟨vs,E,i,r,a,u,v,c,q⟩=>?_) he hpl
 subst v;obtain⟨u1,u2,rfl,n,r3⟩:=vals2 r
 cases (n)
 obtain⟨⟨t0,ha⟩,_⟩:=i.hok a _ c;obtain⟨bm,Nn,nm,qn,bs,sn,z,ab,A,dd,k0,k1,k2,k3,k5,y,T⟩:=Hn i.kIn Z.exc;obtain⟨hp,g,d,B,os⟩:=w
 refine Bs3 T y ha λh' t1 k l=>?_
 have j:=i.write (t':=B) (by rw[c];trivial) (.inl rfl) k ⟨_,l⟩ (Ar5 l)
 rw[Be2 c]at j;exact⟨o,E,j,q⟩
def B5z (C:Addr)(f:Str)(ta tv:TE):TS:=λD σ H=>tv σ H λy H1=>ta σ H1 λx H2=>∃e,x=.ref e/\H2 e=some (exI e C none)/\∀dx,H2 dx=none->D.nx σ (upd (upd H2 e (exI e C (some dx))) dx (.xd [(f,y)]))
theorem B1r (Z:Uc X.K C F f)(ha:QE X o ta)(hv:QE X value tv)(hs:swapsWith value (some (.Attribute o f tp)) pos.line X.env=pure false):QS X (.Assign [.Attribute o f tp] value pos) (B5z C f ta tv):=by
 obtain⟨ha⟩:=ha
 refine⟨?_⟩
 intro b s m H D I h
 refine plainObj_wpAny_Assign_Attribute (thn (hv.1 b s m H _ I h) λu O ⟨y,P,S,E,q⟩=>thn (ha b O m P _ S q) λK j ⟨x,r,i,Q,a,U,v,G⟩=>?_) hs
 subst U;obtain rfl:K=Value.ref a:=Q;obtain⟨⟨t0,ha⟩,_⟩:=i.hok a _ v;obtain⟨bm,Nn,nm,qn,bs,sn,L,ab,M,dd,k0,k1,k2,k3,k5,N,T⟩:=Hn i.kIn Z.exc;have t:r j.heap.objs.size=none:=i.hok.fresh (au _);have l:Jl X b r j.heap.objs.size:=i.fpOk (au _) t
 have J:j.heap.objs.size≠a:=λz=>by simp_all
 have R:X.s₀.heap.get? j.heap.objs.size=none:=gB i.sz;obtain⟨w,g,d,tk,os⟩:=j
 refine A6j i.kIn T N Z.sa Z.fld ha λh' n k A V=>?_
 have B:=i.write (x:=a) (e:=a) (t':=n) (by rw[v];trivial) (.inl rfl) k ⟨_,A⟩ (Ar5 A)
 refine⟨m,_,B.track (o:=.xd _) (by rw[Ag J];grind) R l.2.1 (λx c e=>l.2.2.2.2.1 x c e) (λp w=>l.2.2.2.2.2 p w) ⟨_,V,λz=>?_⟩,G _ t⟩
 by_cases hz:z=f
 ·subst hz;rw[List.lookup_cons_self,if_pos rfl];exact E
 ·rw[if_neg hz,aU,beq_false_of_ne hz];trivial
end
theorem Qv {x:Str}{e:Expr}(h:isNm x e=true):∃p,e=.Name x p:=by
 unfold isNm at h
 grind
theorem Bk5 {x f:Str}{e:Expr}(h:isAt x f e=true):∃p q,e=.Attribute (.Name x p) f q:=by
 unfold isAt at h
 split at h
 ·obtain⟨a,b⟩:=aA.mp h
  obtain⟨p,rfl⟩:=Qv a
  exact⟨p,_,by rw[cG.mp b]⟩
 trivial
theorem Aa6 {x:Str}{e:Expr}(h:A9p x e=true):∃k p,e=.Constant (.str x) k p:=by
 unfold A9p at h
 grind
theorem A0l {x:Str}{e:Expr}(h:Bo0 x e=true):∃p q,e=.FormattedValue (.Name x p) 114 none q:=by
 unfold Bo0 at h
 split at h
 ·obtain⟨a,b⟩:=aA.mp h
  obtain⟨p,rfl⟩:=Qv a
  exact⟨p,_,by rw[cG.mp b]⟩
 trivial
theorem B3w {s:Stmt}{g:Expr}{a:v_}(h:stE s=some (g,a)):∃q p r,s=.Expr (.Call (.Attribute g "__init__" q) a [] p) r/\(q.endLine==p.line)=true:=by
 unfold stE at h
 grind
theorem B2o {s:Stmt}{g v:Expr}(h:stA s=some (g,v)):∃p,s=.Assign [g] v p:=by
 unfold stA at h
 grind
theorem Bi7 {F p f y z:Str}{b:List Stmt}(h:B0f F p f y z b=true):∃s u o e l i n j q r k m,b=[s,u]/\s=.Expr (.Call (.Attribute (.Name F o) "__init__" e) [.Name "self" l,j] [] i) n/\Bf6 p y z j=true/\(e.endLine==i.line)=true/\u=.Assign [.Attribute (.Name "self" q) f r] (.Name p k) m:=by
 unfold B0f at h
 split at h
 ·obtain⟨c,d⟩:=aA.mp h
  split at c
  ·rename_i g a j t
   split at d
   ·rename_i g2 v x
    simp at c d
    obtain⟨e,i,n,rfl,w⟩:=B3w t;obtain⟨m,rfl⟩:=B2o x;obtain⟨o,rfl⟩:=Qv c.1;obtain⟨l,rfl⟩:=Qv c.2.1;obtain⟨q,r,rfl⟩:=Bk5 d.1;obtain⟨k,rfl⟩:=Qv d.2;exact⟨_,_,o,e,l,i,n,j,q,r,k,m,rfl,rfl,c.2.2,w,rfl⟩
   ·cases d
  ·cases c
 ·cases h
theorem Bt9 {p:Str}{a:Arguments}(h:B2t p a=true):∃x y d c,a=⟨[],[⟨"self",x,d⟩,⟨p,y,c⟩],none,[],[],none,[]⟩:=by
 unfold B2t at h
 split at h
 ·rename_i a b
  obtain⟨e,x,d⟩:=a;obtain⟨f,y,c⟩:=b
  simp_all
 trivial
def spI (C:Addr)(n:Nat)(f:Str):Sp:=λvs H Q _=>∃e v d,vs=[.ref e,v]/\H e=some (exI e C none)/\Tr H d v/\Aw8 n d=true/\∀dx,H dx=none->Q .non (upd (upd H e (exI e C (some dx))) dx (.xd [(f,v)]))
section
end
theorem B7a {X:Cx}{p y z:Str}{j:Expr}(hu:X.A.units+64<cLine)(a:X.A.guards=some [])(b:y.length<=1000)(d:z.length<=1000)(c:∀ps,QE X (.Name p ps) (Rw 1))(hj:Bf6 p y z j=true):QE X j (tFs y.length (Rw 1))/\∃l ps,j=.JoinedStr l ps:=by
 unfold Bf6 at hj
 split at hj
 ·simp at hj
  obtain⟨_,_,rfl⟩:=Aa6 hj.1;obtain⟨_,_,rfl⟩:=A0l hj.2;exact⟨Bf5 hu a J7 b (c _) B3i (aP _),_,_,rfl⟩
 ·simp at hj
  obtain⟨_,_,rfl⟩:=Aa6 hj.1.1;obtain⟨_,_,rfl⟩:=A0l hj.1.2;obtain⟨_,_,rfl⟩:=Aa6 hj.2;exact⟨Bf5 hu a J7 b (c _) (B0x J7) d,_,_,rfl⟩
 trivial
theorem Br1 {X:Cx}{C b:Addr}{F p f y z:Str}{j:Expr}{w d h e v x i k m:Pos}(Z:Uc X.K C b f)(n:X.N[0]?=some ("self" : Str)) (h1:X.N[1]?=some p) (s0:Vis X.env.scope "self") (s1:Vis X.env.scope p) (hg:Gl X F) (hm:X.mg F=some (.ref b)) (hu:X.A.units+64<cLine) (o:X.A.guards=some [])
 (q:y.length<=1000) (r:z.length<=1000) (s:(p==("__debug__" : Str))=false) (t:(p==("__classdict__" : Str))=false) (u:(F==("__debug__" : Str))=false) (hj:Bf6 p y z j=true) (hl:(d.endLine==e.line)=true) :
 QSs X [.Expr (.Call (.Attribute (.Name F w) "__init__" d) [.Name "self" h,j] [] e) v,.Assign [.Attribute (.Name "self" x) f i] (.Name p k) m] (Ax0 (B5h C (Bv (Rw 0) (Bv (tFs y.length (Rw 1)) Fb))) (B5z C f (Rw 0) (Rw 1))):=by
 have c:∀a,QE X (.Name _ a) _:=λa=>qv 0 n s0
 have g:∀a,QE X (.Name p a) _:=λa=>qv 1 h1 s1 s t
 obtain⟨A,l,a,rfl⟩:=B7a hu o q r g hj;exact Ae (B3b Z hg hm (Ad (c _) (Ad A Ac)) u rfl rfl rfl hl rfl) (Aj (B1r Z (c _) (g _) rfl))
def A1n (p:Str):Prop:=∀(fd:u5) (x y:Option Expr) (a1 a2:Pos) (u1 u2:Value),fd.params=⟨[],[⟨"self",x,a1⟩,⟨p,y,a2⟩],none,[],[],none,[]⟩->fd.defaults=.none->bindArgs fd ⟨[u1,u2],[]⟩=pure [(("self" : Str),u1),(p,u2)]
theorem Bk3 {K:Frag}{D:Jx}{a:Addr}(hB:A1n D.p)(h:Z1 K D a=true)(L:Au9 D=true):∃g k c,K.lookup a=some ⟨.type "function",k,.func g,c⟩/\Binds K g ["self",D.p] [] /\
 ∀{P:u6} {w:World} {mg:x_} {base:Heap} {C o:Addr},Uc K C o D.f->mg D.F=some (.ref o)->FnOk P w K mg base CX0 1 a g ["self",D.p] (spI C D.y.length D.f):=by
 obtain⟨q,F,p,f,y,z⟩:=D;simp only[Au9,cu,fY,bne_iff_ne,cG]at L;obtain⟨ly,lz,np,n1,n2,nd⟩:=L;unfold Z1 at h
 split at h
 ·rename_i k g c M
  unfold fnB at h;simp only[cu,cG,List.isEmpty_iff,fY]at h;obtain⟨O,R,V,W,G,I,B,l,i⟩:=h
  split at i
  ·rename_i b N
   obtain⟨nm,qn,par,bd,sc,gl,cl,df,kd,dc,pm,an,co,ct,bu⟩:=g
   dsimp only at O R V W G I B l N
   subst O R V W G N;obtain⟨x1,x2,a1,a2,rfl⟩:=Bt9 B;obtain⟨s,u,p1,p2,p3,p4,p5,j,p6,p7,p8,p9,rfl,rfl,hj,n,rfl⟩:=Bi7 i;simp only[B4p,cu,fY,jC,cG,bL,bne_iff_ne]at l;obtain⟨s1,s2,s3,J,U,s6,s7⟩:=l
   refine⟨_,k,c,M,.all λus n=>?_,λ{P w mg base C o} Z hm=>?_⟩
   ·match us,n with
    | [_,_],_=>exact hB _ _ _ _ _ _ _ rfl rfl
   ·have S:Ay ["self",p] ["self",p] sc:=⟨s1,s2,s3,by simp[aF np],rfl,λx m=>.inl (by
     rcases aD.mp m with rfl | m
     ·exact J
     ·cases aN.mp m;exact U),s7⟩
    refine A0c M I S λvs H Q E ⟨_,_,_,e,_⟩=>by rw[e];rfl λA r s H vs Q E T t=>?_
    obtain⟨e,v,d,rfl,X,td,hs,Y⟩:=t
    refine At1 (Br1 Z rfl rfl (.inl J) (.inl U) s6 hm T.units T.gd ly lz n1 n2 nd hj n) ?_
    exact⟨.ref e,rfl,v,rfl,d,td,hs,λz=>⟨e,.str z,rfl,X,v,rfl,.ref e,rfl,e,rfl,X,Y⟩⟩
  ·cases i
 ·cases h
theorem A2s {p:Str}(h:∀(nm q:Str) (l:FuncBody) (d:Scope) (e:Addr) (f:List (Str×Addr)) (kd g i:Value) (j:Option Addr) (k c:Value) (m:Addr) (x y:Option Expr) (n o:Pos) (b a:Value),bindArgs ⟨nm,q,⟨[],[⟨"self",x,n⟩,⟨p,y,o⟩],none,[],[],none,[]⟩,l,d,e,f,.none,kd,g,i,j,k,c,m⟩ ⟨[b,a],[]⟩=pure [(("self" : Str),b),(p,a)]):A1n p:=by
 intro r x y n o b a v u;obtain⟨nm,q,s,l,d,e,f,t,kd,g,i,j,k,c,m⟩:=r
 simp_all
example:A1n "name" := A2s λ_ _ _ _ _ _ _ _ _ _ _ _ _ _ _ _ _ _ _=>rfl
section
variable {X:Cx}{pins:y_}{σ:St}{H:Hp}{s:u_}
theorem Inv.drop {e:Addr}{h:Heap->Prop}(I:Inv X pins σ H s)(j:H e=some (.ext h))(f:Jl X pins (λb=>if b=e then none else H b) e):Inv X pins σ (λb=>if b=e then none else H b) { s with heap:=s.heap.hide e }:=by
 have d:∀b,b≠e->(s.heap.hide e).get? b=s.heap.get? b:=λb n=>Heap.hide_ne s.heap n
 have x:∀b u,H b=some u->(∀h,u≠.ext h)->b≠e:=λb u q n z=>by rw[z,j]at q;exact n h (bT q).symm
 have D:∀b,H b=none->b≠e:=λb q z=>by rw[z,j]at q;cases q
 obtain⟨_,i,E,t,l,w⟩:=f
 refine I.step (g':=s.gens) (d':=s.drawn) (t':=s.toks) (ch:=[e]) (λb g=>?_) (λb o _ _ a q _=>(d b λz=>a (by simp[z])).trans q) (λb o _ _ a q _=>⟨o.slots,(d b λz=>a (by simp[z])).trans q⟩) (λb o a q n=>by show (if b=e then none else H b)=none;rw[if_neg (λz=>a (by simp[z]))];exact n)
  (λb o a q=>⟨o,(d b λz=>a (by simp[z])).trans q⟩) (λb k q=>?_) (λb o u q=>?_) (λb q z=>?_) (λm p=>?_) (λb u q=>?_) I.bare
 ·cases aN.mp g
  exact⟨t,i,l,w⟩
 ·simp_all
 ·simp_all
 ·show (if b=e then none else H b)=_;rw[if_neg (x b _ z λ_ z=>nomatch z)];exact z
 ·obtain⟨o,A,y,B,r⟩:=p
  exact⟨o,A,y,(d _ (aF i)).trans B,r⟩
 ·by_cases g:b=e
  ·rw[if_pos g]at q;cases q
  ·rw[if_neg g]at q
   refine (I.hok b u q).stay (λc v a z=>(d c ?_).trans z) (λc z=>?_) (λc k z=>?_) λc C k z=>?_
   ·grind
   ·grind
   ·simp_all
   simp_all
end
section
variable {X:Cx}{x f p:Str}{C Fa fI:Addr}{n:Nat}{np cpos pos:Pos}{e:Expr}{te:TE}{E:XK}{od:Option Addr}{osl:Array (u9)}{fd:u5}
def Af5 (C:Addr)(n:Nat)(f:Str)(E:XK)(t:TA):TS:=λ_ σ H=>t σ H λvs H1=>∃v d,vs=[v]/\Tr H1 d v/\Aw8 n d=true/\∀dx,H1 dx=none->E (.ref C) (some dx) (upd H1 dx (.xd [(f,v)]))
theorem A4w (hR:Raises X E)(hc:X.calm=true)(hg:Gl X x)(hm:X.mg x=some (.ref C))(Z:Uc X.K C Fa f)(hi:findIn X.K (.ref C) "__init__" = some (some (.ref fI))) (lk:X.K.lookup fI=some ⟨.type "function",od,.func fd,osl⟩) (hb:Binds X.K fd ["self",p] [])
 (F:FnOk X.prog X.w X.K X.mg X.base CX0 1 fI fd ["self",p] (spI C n f)) (hr:Room 2 X.A) (ha:PE X e te) (hst:isStar e=false) (hdb:(x==("__debug__" : Str))=false:=by decide) (he:starEach [e] X.env=(false,eval e X.env)::starEach [] X.env:=by rfl) :
 PS X (.Raise (some (.Call (.Name x np) [e] [] cpos)) none pos) (Af5 C n f E (Bv te Fb)):=by
 intro k s σ H D I h;obtain⟨bm,Nn,S,qn,U,Y,w,ab,A,dd,V,k1,k2,k3,k5,M,T⟩:=Hn I.mod.kin Z.exc
 refine Av0 (C:=C) (nm:=S) (q:=qn) (N:=Nn) (bs:=U) (bm:=bm) (hdct:=true) (sn:=Y) (sub:=w) (ab:=ab) (col:=A) (dd:=dd) (k0:=V) (k1:=k1) (k2:=k2) (k3:=k3) (k5:=k5) (newId := "ValueError.__new__") (T.hasType (X := "BaseException") (b:=true) rfl) (I.ok.hd hc) (by rw[he];rfl) (Lb I hg hm ⟨rfl,?_⟩ hdb)
 have hs:=B2s ha (Ab2 (X:=X)) hst cpos k s σ H _ I h;rw[he]at hs ⊢
 refine gO (aL hs (λus s2 ⟨vs,l,m,R,v,d,W,td,sh,q⟩=>?_) λ_ _ z=>z)
 subst W;have P:∀b o,X.base.get? b=some o->s2.heap.get? b=some o:=m.bk;obtain⟨u,rfl,ru⟩:=vals1 R
 refine⟨rfl,P _ _ M,?_⟩
 obtain⟨hp,g,d0,tk,os⟩:=s2
 refine A3i m.kIn (T.keeps P) (P _ _ M) hi (m.kIn _ _ lk) rfl (by show 1<=sizeLine;decide) λh' i hM K=>?_
 obtain⟨t0,O,_⟩:=hM.there;have G:l i=none:=m.hok.fresh K;have J:Jl X k l i:=m.fpOk K G;have h0:X.s₀.heap.get? i=none:=gB (ao m.sz K);have I3:Inv X k σ l ⟨h',g,d0,tk,os⟩:=m.kept (t':=tk) hM.keeps
 have L:=I3.track (a:=i) (o:=exI i C none) G h0 J.2.1 (λx c e=>J.2.2.2.2.1 x c e) (λp hp=>J.2.2.2.2.2 p hp) (Ar5 O)
 have r4:Vals [.ref i,v] [.ref i,u]:=.cons rfl R
 have sp:spI C n f [.ref i,v] (upd l i (exI i C none)) (λr H3=>∃j,l j=none/\j≠i/\r=.non/\H3=upd (upd l i (exI i C (some j))) j (.xd [(f,v)])) E0 :=
  ⟨i,v,d,rfl,Aq,Tr.same (λb o z=>by rw[Ag (Ba z G)];exact z) td,sh,λj t=>by
   have y:j≠i:=λz=>by rw[z,Aq]at t;cases t
   rw[Ag y]at t
   exact⟨j,t,y,rfl,by rw[Bu7]⟩⟩
 refine fL (fM (F.run _ X.stack _ _ ⟨[.ref i,u],[]⟩ [.ref i,u] [.ref i,v] _ E0 (hr.make C [u] []) (L.env0.make C [u] []) (hb _ [.ref i,u] L.kIn rfl) r4 sp) λr s' B=>?_)
 cases r with
 | error W=>exact False.elim B
 | ok fl =>
  cases fl with
  | next=>exact False.elim B
  | brk=>exact False.elim B
  | cont=>exact False.elim B
  | ret z =>
   obtain⟨v5,H5,Q,r5,j,t,y,rfl,rfl⟩:=L.after B;obtain rfl:z=Value.none:=r5
   have e5:upd (upd l i (exI i C (some j))) j (.xd [(f,v)]) i=some (exI i C (some j)):=by rw[Ag (aF y),Aq]
   obtain⟨⟨t1,x1⟩,_⟩:=Q.hok i _ e5
   have eH:(λb=>if b=i then none else upd (upd l i (exI i C (some j))) j (.xd [(f,v)]) b)=upd l j (.xd [(f,v)]):=by
    funext b
    by_cases hb:b=i
    ·subst hb;rw[if_pos rfl,Ag (aF y)];exact G.symm
    ·rw[if_neg hb];unfold upd;split
     ·rfl
     ·first | rfl | rw[if_neg _]
   have I6:=Q.drop e5 ⟨by simp,J.2⟩
   rw[eH]at I6
   refine⟨rfl,i,some _,t1,rfl,Q.bk _ _ M,x1,?_⟩
   exact hR _ _ _ { s' with heap:=s'.heap.hide _ } _ _ C _ I6 ⟨λb o z=>Heap.of_hide z,Heap.hide_self ..,_,_,x1,rfl,rfl,rfl,rfl⟩ (q _ t)
theorem A6a (b:Raises X E)(hc:X.calm=true)(hg:Gl X x)(hm:X.mg x=some (.ref C))(Z:Uc X.K C Fa f)(hi:findIn X.K (.ref C) "__init__" = some (some (.ref fI))) (a:X.K.lookup fI=some ⟨.type "function",od,.func fd,osl⟩) (hb:Binds X.K fd ["self",p] [])
 (F:FnOk X.prog X.w X.K X.mg X.base CX0 1 fI fd ["self",p] (spI C n f)) (hr:Room 2 X.A) (ha:QE X e te) (hst:isStar e=false:=by rfl) (hdb:(x==("__debug__" : Str))=false:=by decide) (he:starEach [e] X.env=(false,eval e X.env)::starEach [] X.env:=by rfl) :
 QS X (.Raise (some (.Call (.Name x np) [e] [] cpos)) none pos) (Af5 C n f E (Bv te Fb)):=⟨A4w b hc hg hm Z hi a hb F hr ha.get hst hdb he⟩
end
section
variable {K K':Frag}
theorem A3r (s:Kd K K'){c:Value}{q:Str}(e:codeIn K c q=true):codeIn K' c q=true:=by
 unfold codeIn at e ⊢
 split at e
 ·split at e
  ·rename_i a;rw[s _ _ a];grind
  grind
 trivial
theorem A8c (s:Kd K K'){D:Jx}{a:Addr}(e:Z1 K D a=true):Z1 K' D a=true:=by
 unfold Z1 at e ⊢
 split at e
 ·rename_i c
  rw[s _ _ c];unfold fnB at e ⊢
  simp at e ⊢
  obtain⟨d,f,g,h,i,j,b⟩:=e;exact⟨d,f,g,h,i,A3r s j,b⟩
 trivial
theorem B0g (s:Kd K K'){C F:Addr}{f:Str}(e:ikB K C F f=true):Uc K' C F f:=by
 unfold ikB at e
 simp at e
 obtain⟨b,c,d,a,h,g⟩:=e
 refine⟨Ag6 s b,G6 s c,G6 s d,?_,Rj s h,G6 s g⟩
 obtain⟨o,i,j⟩:=aV.mp (show (K.lookup F).map _=_ from a)
 show (K'.lookup F).map _=_
 rw[s _ _ i]
 simp_all
def ClI (K:Frag)(mg:x_)(D:Jx)(x:Str):Prop:=∃C F a fd od osl,mg x=some (.ref C)/\nsIn K mainGlobals x=some (some (.ref C))/\(Ko K C/\Uc K C F D.f)/\findIn K (.ref C) "__init__" = some (some (.ref a))/\K.lookup a=some ⟨.type "function",od,.func fd,osl⟩/\Binds K fd ["self",D.p] [] /\
 ∀(P:u6) (w:World) (base:Heap),FnOk P w K mg base CX0 1 a fd ["self",D.p] (spI C D.y.length D.f)
def B6n (K:Frag)(F:Addr)(NS:v4):Prop:=∀nm∈NS,∀C,nsIn K mainGlobals nm=some (some (.ref C))->exmOne K (.ref C) (.ref F)=some false
theorem B2j (s:Kd K K'){F:Addr}{b:v4}(e:exN K F b=true):B6n K' F b:=λd m C a=>by
 obtain⟨c,n,q⟩:=Lp s (bL.mp e _ m);rw[n]at a;cases a;exact Zc s (cG.mp q)
def ClH (K:Frag)(mg:x_)(yes no:v4)(T:Str):Prop:=∃g,mg T=some (.ref g)/\ExOk K g yes/\B6n K g no
def A2y (J:List (Str×Jx))(Y:List (Str×List Str×v4))(h:Heap):Prop:=∃K:Frag,ciA J Y K=true/\∀a o,K.lookup a=some o->h.get? a=some o/\B3q o=true
variable {J:List (Str×Jx)}{Y:List (Str×List Str×v4)}{h h':Heap}{mg:x_}
theorem B5a {l:List Nat}(e:ciA J Y (Bj9 l h)=true):A2y J Y h:=⟨Bj9 l h,e,λa o q=>by
 unfold Bj9 at q;rw[Le]at q
 split at q
 ·obtain⟨c,d,b⟩:=cW.mp q
  grind
 grind⟩
theorem Bc4 (x:A2y J Y h)(hk:∀b o,h.get? b=some o->h'.get? b=some o):A2y J Y h' :=
 let ⟨K,e,q⟩:=x; ⟨K,e,λa o z=>⟨hk _ _ (q a o z).1,(q a o z).2⟩⟩
theorem Bu2 (x:A2y J Y h)(b:K.In h)(G:h.Ns mainGlobals mg)(H:∀a o,h.get? a=some o->En o=true->o.data≠.fields #[]->K.lookup a=some o) :
 (∀(i:Nat) (q:Str×Jx),J[i]?=some q->A1n q.2.p->ClI K mg q.2 q.1)/\∀(i:Nat) (q:Str×List Str×v4),Y[i]?=some q->ClH K mg q.2.1 q.2.2 q.1:=by
 obtain⟨N,e,q⟩:=x
 have s := λa o z=>by
  obtain⟨B,g⟩:=q a o z;unfold B3q at g
  refine H a o B ?_ ?_
  ·unfold En;split at g <;> simp_all
  ·intro y;rw[y]at g;simp at g
 obtain⟨l,r⟩:=aA.mp e
 refine⟨λi p m t=>?_,λi p m=>?_⟩
 ·obtain⟨u,z⟩:=aA.mp (bL.mp l p (bh m))
  obtain⟨C,n,z⟩:=Lp s z;obtain⟨F,v,z⟩:=Lp s z;obtain⟨c,d⟩:=aA.mp z
  split at d
  ·rename_i a D
   obtain⟨E,c⟩:=aA.mp c;have Z:=B0g s c;obtain⟨A,I,j,L,M,f⟩:=Bk3 t (A8c s d) u
   exact⟨C,F,a,A,I,j,mg_of b G n,n,⟨Ba7 s E,Z⟩,G6 s D,L,M,λP w k=>f Z (mg_of b G v)⟩
  ·cases d
 ·obtain⟨F,n,z⟩:=Lp s (bL.mp r p (bh m))
  obtain⟨c,d⟩:=aA.mp z;exact⟨F,mg_of b G n,Ar7 s c,B2j s d⟩
end
end L2
set_option autoImplicit true
namespace U
open PySem L2
def Qn (nm:Str)(n:Nat)(f:Str)(fe:n7):Ev->XS:=λc=>match fe c with
 | .bad=>.s .bad
 | .ok p c=>match rdP c p with
  | some (.im d)=>if Aw8 n d=true then .ex ⟨nm,some (f,d)⟩ c else .s .bad
  | _=>.s .bad
def cXF (NS:v4)(f:Str)(fe:n7):n7:=λc=>(fe c).bind λp c=>match rdP c p with
 | some (.ty (.xc nm))=>if NS.contains nm.n=true then match nm.p with
  | some q=>if q.1=f then .ok (.o (.im q.2)) c else .bad
  | none=>.bad
  else .bad
 | _=>.bad
section
variable {K:v9}{β:Nat->V}{W:Wo}{c:Ev}{σ:St}{D:Ends}{E:XK}{Hf H:Hp}{o:O}{v:V}{fp:v6}
theorem B5j {p:PV}{d:t6}(R:Rep K β W c σ)(r:Dz K W σ p v fp)(e:rdP c p=some (.im d)):Tr W.Hf d v:=by
 cases p with
 | o g=>cases e;exact r.1.2
 | sl i =>
  have e:c[i]?.join=some _:=e
  have b:c[i]?=some (some (.im d)):=by
   grind
  obtain⟨j,a,f,_⟩:=R.get i _ b;have h := r.2;rw[h]at a;cases a;exact f.2
theorem A3v {nm f:Str}{n:Nat}{C:Addr}{j:TE}{fe:n7}(hn:PySem.W.nsIn K mainGlobals nm=some (some (.ref C)))(h:ME K j fe):MX K E (Af5 C n f E (Bv j Fb)) (Qn nm n f fe):=by
 intro H W c G D R l;unfold Qn at l
 refine h _ W c _ _ R ?_
 cases e:fe c with
 | bad=>rw[e]at l;exact l
 | ok p x =>
  rw[e]at l;intro v r F s g t
  cases ed:rdP x p with
  | none=>simp only[ed]at l;trivial
  | some o =>
   simp only[ed]at l
   split at l
   ·rename_i d u
    cases u
    split at l
    ·rename_i w
     have i:=B5j g t ed
     refine⟨v,d,rfl,Tr.same g.sub i,w,λm y=>?_⟩
     have b:Stp _ _ _ _ (upd _ _ (.xd [(f,v)])) _:=Stp.newF g.sub y
     have A:Stp r.S _ _ _ _ _:=⟨b.fz,λa o e n=>b.kp a o e λz=>z,λa o e B n q=>b.nf a o e B (λz=>z) q,λa z=>.inl z⟩
     have k := Stp.rep g b (Ij g.sub)
     exact l C _ _ _ ⟨hn,m,v,rfl,Aq,Tr.same b.fz i⟩ ((s.less λa z=>.inl z).trans A) k
    trivial
   trivial
theorem Bw0 {l:TE}{fe:n7}{f:Str}{m:v4}(hz:∀j∈m,∀C,PySem.W.nsIn K mainGlobals j=some (some (.ref C))->Ko K C/\PySem.W.findIn K (.ref C) f=some none)(h:ME K l fe):ME K (tXF K l f) (cXF m f fe):=by
 intro β W c σ Q R s
 refine h _ W c _ _ R (s.bnd.mono λp t b v1 W1 A k i F=>?_)
 cases ed:rdP t p with
 | none=>simp only[ed]at b;exact b.elim
 | some o =>
  simp only[ed]at b
  split at b
  ·rename_i j w
   cases w
   split at b
   ·rename_i x
    obtain⟨a,C,d,e,n,y⟩:=A1e i F ed;subst e;have g:=n.pay
    cases ep:j.p with
    | none=>rw[ep]at b;exact b.elim
    | some q =>
     rw[ep]at b g
     dsimp only at b
     split at b
     ·rename_i B
      obtain⟨D,v,rfl,r,E⟩:=g
      obtain⟨G,u⟩:=hz _ (by simpa using x) C n.ns
      rw[B]at r
      refine⟨a,C,D,v,rfl,i.sub _ _ y,i.sub _ _ r,G,u,?_⟩
      exact b v _ _ (k.less λa z=>by
       grind) i ⟨⟨rfl,E⟩,λa z=>nomatch z⟩
     ·exact b.elim
   ·exact b.elim
  trivial
theorem A7x {mg:x_}{D:Jx}{x:Str}(h:ClI K mg D x):∀c∈[x],∀C,PySem.W.nsIn K mainGlobals c=some (some (.ref C))->Ko K C/\PySem.W.findIn K (.ref C) D.f=some none:=λc e C b=>by
 obtain⟨f,F,a,g,i,d,m,n,Z,_⟩:=h
 cases aN.mp e
 rw[n]at b
 cases b
 exact⟨Z.1,Z.2.fld⟩
end
end U
namespace U
open PySem L2 PySem.W
section
variable {K:v9}{E:XK}
def B4q (F:w5->XF)(fa:o_):Ev->XS:=Mh F fa (λo c=>.s (.rt (.o o) c)) .ex
def Ak5 (F:w5->XF)(fa:o_)(i:Nat):Ev->XS:=Mh F fa (λo c=>.s ((cgN i (.o o) c).toS λ_ c=>.nx c)) .ex
def B2x (F:w5->XF)(fa:o_):Ev->XS:=Mh F fa (λ_ c=>.s (.nx c)) .ex
theorem Bn6 {F:w5->XF}{t:TA}{h:o_}{i:Nat}(ha:MA K t h):MX K E (Ut (Pa (spX K F) [] E t) (Gz i)) (Ak5 F h i):=by
 intro y W c B D R l
 have:=Al4 (Q:=λv j=>D.nx _ j) ha R l (λo k m v f b e r=>by
  refine Bm _ _ _ _ _ v _ _ b r ((Ex (show zM K _ W D _ from e)).mono λ_ x n p w g q=>?_)
  exact n _ _ (f.trans (g.up λa z=>A1k z)) q)
  (λA k m C d f b e s=>e C d _ _ s f b)
 show t _ _ λG u=>spX K F _ _ (λv j=>D.nx _ _) E
 grind
end
end U
namespace L2
open PySem PySem.Spec PyProof.Rows
def Bj1 (K:v9)(n:Nat)(t:TGs):TG:=λv σ H Q=>∃a xs,v=.ref a/\SqL K H a xs/\xs.length=n/\t xs σ H Q
section
variable {X:Cx}{pos:Pos}
theorem B2m {es:v_}{k:Nat}{t:TGs}{n:Nat}(hc:X.calm=true)(h:PGs X es t)
 (hn:(assignEach es X.env).length=n:=by rfl) (hst:(assignEach es X.env).findIdx? (·.1)=none:=by rfl):PG X (.Tuple es k pos) (Bj1 X.K n t):=by
 intro pins s σ H v u Q I r hw;obtain⟨a,xs,e1,hq,hl,hw⟩:=hw;subst e1
 cases r
 obtain⟨its,rv,ht,hz⟩:=I.list hq
 have e:its.toArray.size=n:=by simp[<- hl,rv.length]
 rw[arm_assign_Tuple]
 refine aj (cT ?_)
 unfold unpack;rw[hn,hst,<- e]
 refine aj (bH (PySem.W.kun_itemsOf (I.ok.hd hc) ht.isList λh' hx=>?_))
 have I1:Inv X pins σ H { s with heap:=h' }:=I.kept (t':=s.toks) λb o e=>hx b o (aM (az e)) e
 exact h pins _ σ H xs _ Q I1 (by simpa using rv) hw
theorem B0b {Kq:v9}(hKq:X.K=Kq){es:v_}{k:Nat}{t:TGs}{n:Nat}(hc:X.calm=true)(h:QGs X es t)
 (hst:(assignEach es X.env).findIdx? (·.1)=none:=by rfl) (hn:(assignEach es X.env).length=n:=by rfl):QG X (.Tuple es k pos) (Bj1 Kq n t):=by
 subst hKq;exact⟨B2m hc h.get hn hst⟩
end
end L2
namespace U
open PySem L2
section
variable {K:v9}{d i j:Nat}
noncomputable def cgL (n:Nat) (gs:w5->Ev->R Unit):o5:=λp c=>match p with
 | .o (.im (.list ds))=>if ds.length=n then gs ds c else .bad
 | .o (.ls _ ds)=>if ds.length=n then gs ds c else .bad
 | _=>.bad
theorem A6r {n:Nat}{t:TGs}{gs:w5->Ev->R Unit}(h:MGs K t gs):MG K (Bj1 K n t) (cgL n gs):=by
 intro β W c σ p v fp k R r s
 match p,r,s with
 | .o (.im (.list ds)),r,s =>
  obtain⟨⟨rfl,a,vs,rfl,ha,t1⟩,_⟩:=r
  have s:(if ds.length=n then gs ds c else .bad:U.R Unit).sat _:=s
  by_cases e:ds.length=n
  ·rw[if_pos e]at s
   exact⟨a,vs,rfl,SqL.of (R.sub _ _ ha),by rw[<- t1.length];exact e,h β W c σ ds vs k R t1 (s.mono λ_ c1 s1 σ1 W1 st R1=>s1 σ1 W1 (st.up λa z=>.inl z) R1)⟩
  ·rw[if_neg e]at s;exact s.elim
 | .o (.ls b ds),r,s =>
  obtain⟨⟨a,vs,rfl,rfl,h1,h2,t1⟩,_⟩:=r
  have s:(if ds.length=n then gs ds c else .bad:U.R Unit).sat _:=s
  by_cases e:ds.length=n
  ·rw[if_pos e]at s
   exact⟨a,vs,rfl,SqL.of h2,by rw[<- t1.length];exact e,h β W c σ ds vs k R t1 (s.mono λ_ c1 s1 σ1 W1 st R1=>s1 σ1 W1 (st.up λa z=>.inl z) R1)⟩
  ·rw[if_neg e]at s;exact s.elim
 | .o (.im (.tuple _)),r,s=>exact s.elim
 | .o (.im .none),r,s=>exact s.elim
 | .o (.im (.bool _)),r,s=>exact s.elim
 | .o (.im (.int _)),r,s=>exact s.elim
 | .o (.im (.str _)),r,s=>exact s.elim
 | .o (.im (.dict _)),r,s=>exact s.elim
 | .o (.sc _),r,s=>exact s.elim
 | .o (.ty _),r,s=>exact s.elim
 | .sl _,r,s=>exact s.elim
theorem A2a {n:Nat}{u:TGs}(h:A9e d u):GFr d (Bj1 K n u):=λv σ H k ⟨p,vs,e,s,l,q⟩=>⟨p,vs,e,s,l,h vs σ H k q⟩
theorem Be9 {H:Hp}{p q:Addr}{a b:HO}(h:p≠q):upd (upd H q b) p a=upd (upd H p a) q b:=funext λx=>by
 by_cases z:x=p
 ·subst z;rw[Aq,Ag h,Aq]
 ·by_cases y:x=q
  ·subst y;rw[Ag z,Aq,Aq]
  ·rw[Ag z,Ag y,Ag y,Ag z]
def tDG (d:Nat)(t:TS):TS:=λD σ H=>∀xs p q,H p=none->upd H p (.dT []) q=none->t D (σ.set d (some (.ref p))) (upd (upd H p (.dT [])) q (.tup xs))
theorem B5m {T u:TS}{F:BF}{g:Ev->SR}(h1:MB K d T F)(h2:MS K u g):MS K (tDG d (tFz d T u)) (J3 d F g):=by
 intro β W c σ D R l xs p q hp hq
 have n:p≠q:=λz=>by rw[<- z,Aq]at hq;cases hq
 have hq0:W.H q=none:=by rw[<- hq,Ag (aF n)]
 have R1:Rep K β ⟨W.Hf,upd W.H q (.tup xs),W.fps⟩ c σ:=R.frame (Same.refl _) (Qy R.sub hq0) λb ⟨i,hb⟩=>by
  obtain⟨z,o,w,_⟩:=R.own i b hb;exact⟨z,Ag (Ba w hq0)⟩
 have st:Stp W.S W.Hf W.H (Wo.S ⟨W.Hf,upd W.H q (.tup xs),W.fps⟩) W.Hf (upd W.H q (.tup xs)) :=
  ⟨Same.refl _,λb o e _=>(Ag (Ba e hq0)).trans e,λ_ _ _ _ _ z=>z,λb z=>.inl z⟩
 have m:=Am4 h1 h2 β ⟨W.Hf,upd W.H q (.tup xs),W.fps⟩ c σ D R1 (zM.step l st)
 have m:=(show ∀p,upd W.H q (.tup xs) p=none->tFz d T u D (σ.set d (some (.ref p))) (upd (upd W.H q (.tup xs)) p (.dT [])) from m) p ((Ag n).trans hp)
 rw[Be9 n]at m;exact m
theorem Wq {T u:TS}{F:BF}{g:Ev->SR}(h1:MB K d T F)(h2:MS K u g):MS K (Ax0 (Ut (A5o (Bv (A7d Fb) (Bv (A7d Fb) (Bv Af7 Fb)))) (Av9 K 3 (Ni (Gz i) (Ni (Gz j) (Ni (Gz d) Au8))))) (tFz d T u)) (Bb (Bq (Er Ak) (cgN i)) (Bb (Bq (Er Ak) (cgN j)) (J3 d F g))):=by
 intro β W c σ D R l;have m:=Ek (Hi (Ls Bu) Bm) (Ek (Hi (Ls Bu) Bm) (B5m h1 h2)) β W c σ D R l
 refine⟨m.1,λp hp=>⟨(m.2 p hp).1,λp2 hp2 p3 hp3=>?_⟩⟩
 refine⟨(by decide:3<=sizeLine),λp4 hp4=>⟨p4,_,rfl,SqT.of Aq,rfl,_,_,rfl,_,_,rfl,_,_,rfl,rfl,?_⟩⟩
 exact(m.2 p hp).2 p2 hp2 _ p3 p4 hp3 hp4
end
end U
namespace U
open PySem L2 PySem.W
variable {K:v9}{β:Nat->V}{W W':Wo}{c:Ev}{σ:St}{Hf H:Hp}
theorem A2k {vs us:m6}{xs ys:w5}(s:Same Hf H)(q1:TrL Hf xs vs)(q2:TrL Hf ys us):∀{i:Nat}{ps:m6}{H2:Hp},LaidS H vs us i ps H2->∃Hf2,Stp (λ_=>False) Hf H (λ_=>False) Hf2 H2/\Same Hf2 H2/\TrL Hf2 ((Gw xs ys).take i) ps
 | 0,_,_,⟨e1,e2⟩=>by subst e1 e2;exact⟨Hf,.refl,s,rfl⟩
 | i+1,_,_,⟨r,H',p,x,y,l,hx,hy,hp,e1,e2⟩=>by
  subst e1 e2;obtain⟨Hf',st,s',t⟩:=A2k s q1 q2 l;obtain⟨dx,ex,tx⟩:=q1.get hx;obtain⟨dy,ey,ty⟩:=q2.get hy;have fr:Hf' p=none:=s'.free hp
  have e:(Gw xs ys)[i]?=some (.tuple [dx,dy]):=by
   unfold Gw;rw[bK,(jt (l₁:=xs) (l₂:=ys) (z:=(dx,dy))).mpr ⟨ex,ey⟩];rfl
  refine⟨upd Hf' p (.tup [x,y]),st.trans (Stp.newF s' hp),Ij s',?_⟩
  rw[gf,e]
  have up:=λ{d:t6} {v:V} (t:Tr Hf d v)=>Tr.same (Bl (o:=.tup [x,y]) fr) (Tr.same st.fz t)
  exact TrL.app (TrL.same (Bl fr) t) (TrL.one ⟨p,_,rfl,Aq,x,_,rfl,up tx,y,[],rfl,up ty,rfl⟩)
def Ba3 (f g:n7):n7:=λc=>(f c).bind λp c=>(g c).bind λq c=>(frz (nrm p) c).bind λx c=>(frz (nrm q) c).bind λy c=>match Ke x,Ke y with
 | some xs,some ys=>if xs.length=ys.length then .ok (.o (.im (.tuple (Gw xs ys)))) c else .bad
 | _,_=>.bad
theorem Bo1 (h:ME K t f) (h':ME K u g):ME K (Bx8 (Bv t (Bv u Fb))) (Ba3 f g):=by
 intro A W c C Q R s
 refine h.toV A W c C _ R (s.bnd.mono λp T Y v1 O m R1 r1=>?_)
 refine h'.toV A O T C _ R1 (Y.bnd.mono λq c2 s2 v2 W2 k U X=>?_)
 obtain⟨x,c3,W3,_,s3,e3,j,R3,M⟩:=Eu U (RepA.same k.fz r1) s2.bnd;obtain⟨y,c4,W4,_,d,N,e,l,S⟩:=Eu R3 (RepA.same j.fz X) s3.bnd
 cases ex:Ke x with
 | none=>simp only[ex]at d;exact d.elim
 | some D =>
  cases ey:Ke y with
  | none=>simp only[ex,ey]at d;exact d.elim
  | some E =>
   simp only[ex,ey]at d
   by_cases hl:D.length=E.length
   ·rw[if_pos hl]at d
    obtain⟨V,a,F,rfl,J,Z⟩:=V2 ex M;obtain⟨t2,b,us,rfl,h2,B⟩:=V2 ey S;rw[<- e3,<- N];have z:=Fl e.fz J;have i:=TrL.same e.fz Z
    refine⟨a,b,rfl,V,t2,F,us,Fl l.sub z,Fl l.sub h2,by rw[<- i.length,<- B.length];exact hl,λH p H2 L G=>?_⟩
    obtain⟨Hf2,r,n,I⟩:=A2k l.sub i B L
    have lz:(Gw D E).length=F.length:=by unfold Gw;rw[aq,dY,<- hl,fB,i.length]
    rw[List.take_of_length_le (dO lz)]at I;have fr := n.free G
    exact New.of l (λv W' fp st w P=>d v _ _ ((m.trans (k.trans (j.trans e))).trans st) w P) _ _ _ [] ((r.trans (Stp.newF (o:=.tup H) n G)).less λa z=>nomatch z) (Ij n) ⟨rfl,p,H,rfl,Aq,TrL.same (Bl fr) I⟩
   ·rw[if_neg hl]at d;exact d.elim
def Bt6 (j:Nat)(fi:Ev->R (w5)):Ev->R (w5):=λc=>(Aa j c).bind λp c=>(frz (nrm p) c).bind λ_ c=>fi c
theorem A8o (h:MI K b fi):MI K b (Bt6 j fi):=by
 intro z W c i k R s
 obtain⟨_,_,q⟩:=me_var.toV _ W c _ (λ_ u=>u=W.H->b i W.H k) R (s.bnd.mono λp x l v H e m n A=>by
  obtain⟨d,E,G,_,o,y,a,t,B⟩:=Eu m n l.bnd
  have q:=h _ _ _ _ k t (o.mono λC D r J F f w g=>r J _ (e.trans (a.trans f)) w g)
  grind)
 grind
noncomputable def A1d:n7:=λ_=>.bad
theorem Bb3:ME K Bx5 A1d:=λ_ _ _ _ _ _ s=>s.elim
def Ae2 (fa:n7):Ev->R (w5):=λc=>(fa c).bind λp c=>match p with
 | .o (.ty (.ds ks ds))=>if ks.length=ds.length then .ok ds c else .bad
 | _=>.bad
theorem Bb7 {td:TE}{fa:n7}(ha:ME K td fa):MI K (iDV td) (Ae2 fa):=by
 intro β W c σ k R s
 refine ha β W c σ _ R ((s.bnd).mono λp c1 s1 v1 W1 fp1 st1 R1 r1=>?_)
 match p,r1,s1 with
 | .o (.ty (.ds ks ds)),r1,s1 =>
  obtain⟨⟨rfl,a,o,xs,rfl,h1,t1,l1⟩,_⟩:=r1
  have st1:Stp W.S W.Hf W.H W1.S W1.Hf W1.H:=st1.less λa z=>.inl z
  have lz:(ks.zip xs).length=ks.length:=by rw[dY,<- l1,fB]
  have ld:ks.length=ds.length:=l1.trans t1.length.symm
  have s1:(if ks.length=ds.length then U.R.ok ds c1 else .bad:U.R (w5)).sat _:=s1
  rw[if_pos ld]at s1
  refine⟨a,o,ks.zip xs,rfl,R1.sub _ _ h1,s1 (Itv a o) W1 st1 R1 λi Hf' H sa sb=>⟨λe=>⟨ks.zip xs,sb _ _ (sa _ _ h1),by rw[lz,e,ld];exact au _⟩,λd hd=>⟨⟨ks.zip xs,sb _ _ (sa _ _ h1),by rw[lz,ld];exact(bG.mp hd).1⟩,λx H' hy=>?_⟩⟩⟩
  obtain⟨rfl,kvs,k',e1,e2⟩:=hy
  cases (e1.symm.trans (sb _ _ (sa _ _ h1)))
  obtain⟨_,q2⟩:=Az0 e2;exact⟨Hf',.refl,sb,Tr.same sa (TrL.at t1 hd q2)⟩
 | .o (.ty (.nm _)),r1,s1=>exact s1.elim
 | .o (.ty (.tc _)),r1,s1=>exact s1.elim
 | .o (.ty (.xc _)),r1,s1=>exact s1.elim
 | .o (.ty (.dc _ _)),r1,s1=>exact s1.elim
 | .o (.ty (.dt _ _)),r1,s1=>exact s1.elim
 | .o (.ty (.td _ _ _)),r1,s1=>exact s1.elim
 | .o (.im _),r1,s1=>exact s1.elim
 | .o (.ls _ _),r1,s1=>exact s1.elim
 | .o (.sc _),r1,s1=>exact s1.elim
 | .sl _,r1,s1=>exact s1.elim
end U
namespace PS
open PySem PySem.W PyProof.Rows L2
end PS
namespace U
open PySem L2
theorem R.bind_ok {a:b} {k:b->Ev->R d}:(R.ok a c).bind k=k a c:=rfl
theorem R.toS_ok {a:b} {k:b->Ev->SR}:(R.ok a c).toS k=k a c:=rfl
theorem A5k {a:Type}{x:Option a}:(some x).join=x:=rfl
theorem B4h (x:a) (r:List a):atI (x::r) 0=some x:=Ii rfl
theorem B5l (x y:a) (r:List a):atI (x::y::r) 1=some y:=Ii rfl
theorem B4u (x y z:a) (r:List a):atI (x::y::z::r) 2=some z:=Ii rfl
theorem B5x (x y z u:a) (r:List a):atI (x::y::z::u::r) 3=some u:=Ii rfl
theorem B4w (x y z u w:a) (r:List a):atI (x::y::z::u::w::r) 4=some w:=Ii rfl
theorem B3g:ixN 3 0=some 0:=rfl
theorem B2a:ixN 3 1=some 1:=rfl
theorem Bz7:ixN 3 2=some 2:=rfl
def Rv (g:o5)(body:Ev->SR)(d:t6)(c:Ev):SR:=(g (.o (.im d)) c).toS λ_ c=>body c
theorem A5d (h:Rv g body d c=.nx c'\/Rv g body d c=.ct c'):forL g body (d::ds) c=forL g body ds c':=by
 unfold Rv at h;rw[forL]
 cases e:g _ c with
 | bad=>rw[e]at h;rcases h with h | h <;> cases h
 | ok u a =>
  rw[e]at h;have h:body _=.nx _\/body _=.ct _:=h
  grind
theorem Fo {g:o5}{body:Ev->SR}{P:Nat->Ev->Prop}:∀{items:w5}{n:Nat}{c:Ev},P n c ->
 (∀k d c,items[k]?=some d->P (n+k) c->∃c',(Rv g body d c=.nx c'\/Rv g body d c=.ct c')/\P (n+k+1) c')->∃c',forL g body items c=.nx c'/\P (n+items.length) c'
 | [],n,c,h0,_=>⟨c,rfl,h0⟩
 | d::ds,n,c,h0,hs=>by
  obtain⟨c1,e,h1⟩:=hs 0 d c rfl h0;rw[A5d e]
  obtain⟨c2,e2,h2⟩:=Fo (P:=P) (items:=ds) (n:=n+1) (c:=c1) h1 (λk d c hk hp=>by
   have:=hs (k+1) d c (by simpa using hk) (by rw[show n+(k+1)=n+1+k by lia];exact hp)
   rw[show n+(k+1)+1=n+1+k+1 by lia]at this
   exact this)
  exact⟨c2,e2,by rw[bW,show n+(ds.length+1)=n+1+ds.length by lia];exact h2⟩
def Mf (g:o5)(ft:n6)(fe:n7)(d:t6)(c:Ev):R (Option t6) :=
 (g (.o (.im d)) c).bind λ_ c=>(ft c).bind λb c=>if b=true then (fe c).bind λp c=>(frz (nrm p) c).bind λy c=>.ok (some y) c else .ok none c
theorem Qj : Dk g ft fe (d::ds) acc c=(Mf g ft fe d c).bind λo c=>Dk g ft fe ds (acc++o.toList) c:=by
 unfold Mf;rw[Dk]
 cases e:g _ c with
 | bad=>rfl
 | ok u f =>
  simp only[R.bind_ok]
  cases e2:ft _ with
  | bad=>rfl
  | ok b h =>
   simp only[R.bind_ok]
   cases b with
   | false=>simp[R.bind_ok]
   | true =>
    cases e3:fe _ with
    | bad=>rfl
    | ok p i =>
     simp only[R.bind_ok]
     cases e4:frz _ _ with
     | bad=>rfl
     | ok y a=>rfl
theorem Ou {g:o5}{ft:n6}{fe:n7}{P:Nat->w5->Ev->Prop}:∀{items acc:w5}{n:Nat}{c:Ev},P n acc c ->
 (∀k d acc c,items[k]?=some d->P (n+k) acc c->∃o c',Mf g ft fe d c=.ok o c'/\P (n+k+1) (acc++o.toList) c')->∃acc' c',Dk g ft fe items acc c=.ok acc' c'/\P (n+items.length) acc' c'
 | [],acc,n,c,h0,_=>⟨acc,c,rfl,h0⟩
 | d::ds,acc,n,c,h0,hs=>by
  obtain⟨o,c1,e,h1⟩:=hs 0 d acc c rfl h0;rw[Qj,e,R.bind_ok]
  obtain⟨acc2,c2,e2,h2⟩:=Ou (P:=P) (items:=ds) (n:=n+1) (c:=c1) h1 (λk d acc c hk hp=>by
   have:=hs (k+1) d acc c (by simpa using hk) (by rw[show n+(k+1)=n+1+k by lia];exact hp)
   rw[show n+(k+1)+1=n+1+k+1 by lia]at this
   exact this)
  exact⟨acc2,c2,e2,by rw[bW,show n+(ds.length+1)=n+1+ds.length by lia];exact h2⟩
theorem Xm {g:o5}{ft:n6}{fe:n7}{I:Ev->Prop}{F:t6->Option t6}:∀{items acc:w5}{c:Ev},I c ->
 (∀d c,d∈items->I c->∃c',Mf g ft fe d c=.ok (F d) c'/\I c')->∃c',Dk g ft fe items acc c=.ok (acc++items.filterMap F) c'/\I c'
 | [],acc,c,h0,_=>⟨c,by simp[Dk],h0⟩
 | d::ds,acc,c,h0,hs=>by
  obtain⟨c1,e,h1⟩:=hs d c (.head _) h0;rw[Qj,e,R.bind_ok]
  obtain⟨c2,e2,h2⟩:=Xm (I:=I) (F:=F) (items:=ds) (acc:=acc++(F d).toList) h1 (λd c hd hi=>hs d c (.tail _ hd) hi)
  refine⟨c2,?_,h2⟩
  rw[e2,dZ];rw[dJ]
  cases F d <;> rfl
theorem Y7 {I:Ev->Prop} (b:I c)
 (hs:∀d c,d∈items->I c->∃a,Mf g ft fe d c=.ok (some (F d)) a/\I a):∃a,Dk g ft fe items acc c=.ok (acc++items.map F) a/\I a:=by
 obtain⟨a,e,h⟩:=Xm (acc:=acc) b hs
 refine⟨a,?_,h⟩
 simp_all
theorem Kl {α:Type}{g:o5}{ft:n6}{fe:n7}{I:Ev->Prop}{f:α->t6}{G:α->Option t6}:∀{xs:List α}{acc:w5}{c:Ev},I c ->
 (∀x c,x∈xs->I c->∃c',Mf g ft fe (f x) c=.ok (G x) c'/\I c')->∃c',Dk g ft fe (xs.map f) acc c=.ok (acc++xs.filterMap G) c'/\I c'
 | [],acc,c,h0,_=>⟨c,by simp[Dk],h0⟩
 | x::xs,acc,c,h0,hs=>by
  obtain⟨c1,e,h1⟩:=hs x c (.head _) h0;rw[aG,Qj,e,R.bind_ok]
  obtain⟨c2,e2,h2⟩:=Kl (I:=I) (f:=f) (G:=G) (xs:=xs) (acc:=acc++(G x).toList) h1 (λd c hd hi=>hs d c (.tail _ hd) hi)
  refine⟨c2,?_,h2⟩
  rw[e2,dZ];rw[dJ]
  cases G x <;> rfl
theorem Dd {b:Type} {I:Ev->Prop}{f:b->t6}{G:b->t6}{xs:List b} (d:I c)
 (hs:∀x c,x∈xs->I c->∃a,Mf g ft fe (f x) c=.ok (some (G x)) a/\I a):∃a,Dk g ft fe (xs.map f) acc c=.ok (acc++xs.map G) a/\I a:=by
 obtain⟨a,e,h⟩:=Kl (acc:=acc) d hs
 refine⟨a,?_,h⟩
 simp_all
theorem Dl (h1:fi c=.ok ds c1) (hl:ds.length<=16000000) (h2:Dk g ft fe ds [] (cIn idx c1)=.ok acc cI) (a:G3 cI (pairsOf 0 idx) c1=some c2) :
 cLC idx fi g ft fe c=.ok (.o (.ls false acc)) c2:=by
 unfold cLC;rw[h1,R.bind_ok]
 simp_all
theorem Oh (h1:fi c=.ok ds c1):Mi fi g body c=forL g body ds c1:=by
 unfold Mi;rw[h1];rfl
theorem Br (h:f c=.nx c'):Bb f g c=g c':=by unfold Bb;rw[h]
theorem Oe (h:body (a.map some++List.replicate (N-n) none)=.rt p c) (hl:a.length=n) (hf:A4r a p c=r):Dt n N body a=r:=by
 unfold Dt;grind
theorem A2c (h:f c=.ok p c1) (h2:g p c1=.ok () c2):Bq f g c=.nx c2:=by
 unfold Bq;rw[h,R.toS_ok,h2,R.toS_ok]
end U
namespace K
open PySem L2 U
structure Good (d:t6) (n w:Nat):Prop where
 lay:d.canLay0=true
 shw:d.showable=true
 dct:d.hasDict=false
 dep:d.depth<=n
 wgt:wt d<=w
structure Goods (ds:w5) (n w:Nat):Prop where
 lay:PyData.canLayAll0 ds=true
 shw:PyData.showableAll ds=true
 dct:PyData.hasDictAll ds=false
 dep:PyData.depthAll ds<=n
 wgt:Jv ds<=w*ds.length
theorem Goods.of {n w:Nat}:∀{ds:w5},(∀d∈ds,Good d n w)->Goods ds n (w+2)
 | [],_=>⟨rfl,rfl,rfl,aP _,aP _⟩
 | d::r,h=>by
  have a:=h d (.head _)
  have b:=Goods.of λe he=>h e (.tail _ he)
  refine⟨?_,?_,?_,?_,?_⟩
  ·show (d.canLay0&&PyData.canLayAll0 r)=true;rw[a.lay,b.lay];rfl
  ·show (d.showable&&PyData.showableAll r)=true;rw[a.shw,b.shw];rfl
  ·show (d.hasDict||PyData.hasDictAll r)=false;rw[a.dct,b.dct];rfl
  ·show max d.depth (PyData.depthAll r)<=n;have:=a.dep;have:=b.dep;lia
  ·show wt d+2+Jv r<=(w+2)*(r.length+1)
   have:=a.wgt;have:=b.wgt;rw[Nat.mul_succ];lia
theorem Good.tup (h:∀d∈ds,Good d n w) (hk:ds.length<=k):Good (.tuple ds) (n+1) ((w+2)*k+4):=by
 have g:=Goods.of h;have m:(w+2)*ds.length<=(w+2)*k:=dG _ hk
 refine⟨g.lay,g.shw,g.dct,?_,?_⟩
 ·show PyData.depthAll _+1<=n+1;have:=g.dep;lia
 ·show Jv _+4<=(w+2)*k+4;have:=g.wgt;lia
theorem Good.mono (h:Good d n w) (a:n<=n') (b:w<=w'):Good d n' w':=⟨h.lay,h.shw,h.dct,ao h.dep a,ao h.wgt b⟩
theorem Good.flatB (h:Good d n w) (hn:n<=40):Cr d=true:=by
 unfold U.Cr;rw[h.lay,aO (ao h.dep hn)];rfl
theorem Ay9 (h:Good d n w) (hn:n<=40) (hw:w<=16000000) (hs:isSeq d=true):Q6 d=some (.im (.str d.shown)):=by
 have l:d.shown.length<=sizeLine:=ao (Am3 d h.lay h.shw) (ao h.wgt (ao hw (by decide)))
 cases d with
 | int i=>cases hs
 | none=>rfl
 | bool b=>rfl
 | str x=>cases hs
 | dict k=>cases hs
 | list a =>
  show (if isSeq _&&_ then _ else _)=_
  rw[h.shw,h.dct,aO (ao h.dep hn),aO l];rfl
 | tuple a =>
  show (if isSeq _&&_ then _ else _)=_
  rw[h.shw,h.dct,aO (ao h.dep hn),aO l];rfl
theorem Ov (h:∀d∈ds,d.canLay0=true):PyData.canLayAll0 ds=true:=by
 induction ds with
 | nil=>rfl
 | cons d r a=>show (d.canLay0&&PyData.canLayAll0 r)=true;grind
theorem Vh : Ce neg (.str a) (.str b)=some (.im (.bool (if neg then !decide (a=b) else decide (a=b)))):=by
 unfold Ce
 rw[show U5 _ _=true from rfl]
 rw[Xa]
 simp
inductive Vl where
 | non
 | int (i:Int)
 | str (x:Str)
 deriving DecidableEq
abbrev m8:=List Vl
abbrev m7:=List (m8)
@[simp] theorem Vl.int.injEq (a b:Int):(Vl.int a=Vl.int b)=(a=b):=propext ⟨λh=>by cases h;rfl,λh=>by rw[h]⟩
@[simp] theorem Vl.str.injEq (a b:Str):(Vl.str a=Vl.str b)=(a=b):=propext ⟨λh=>by cases h;rfl,λh=>by rw[h]⟩
noncomputable def Vl.d:Vl->t6
 | .non=>.none
 | .int i=>.int i
 | .str x=>.str x
noncomputable def vb:Vl->Bool
 | .non=>true
 | .int i=>decide (-1000000000000<=i)&&decide (i<=1000000000000)
 | .str x=>decide (x.length<=40)&&x.cps.toList.all λc=>decide (32<=c)&&decide (c<=126)
abbrev VB (v:Vl):Prop:=vb v=true
abbrev VBs (vs:m8):Prop:=∀v∈vs,VB v
def tD (vs:m8):t6:=.tuple (vs.map Vl.d)
theorem Ag7 (x y:Str):PyData.eqv (.str x) (.str y)=decide (x=y):=by
 show (x==y)=_
 grind
theorem Bv2 (a b:Vl):PyData.eqv a.d b.d=decide (a=b):=by
 cases a with
 | non=>cases b <;> simp[Vl.d,PyData.eqv]
 | int i=>
  cases b with
   | int j =>
    show (i==j)=_
    grind
   | non=>rfl
   | str y=>trivial
 | str x=>
  cases b with
   | str y=>rw[show PyData.eqv (Vl.d (.str x)) (Vl.d (.str y))=_ from Ag7 x y];simp_all
   | non=>trivial
   | int y=>trivial
theorem Aq0:∀as bs:m8,PyData.eqvAll (as.map Vl.d) (bs.map Vl.d)=decide (as=bs)
 | [],[]=>by simp[PyData.eqvAll]
 | [],b::bs=>by simp[PyData.eqvAll]
 | a::as,[]=>by simp[PyData.eqvAll]
 | a::as,b::bs=>by
  show (PyData.eqv a.d b.d&&PyData.eqvAll (as.map Vl.d) (bs.map Vl.d))=_
  rw[Bv2,Aq0 as bs]
  simp
theorem A1h (a bs:m8):PyData.eqv (tD a) (tD bs)=decide (a=bs):=by
 exact Aq0 _ _
theorem O2 (h:VB v):Good v.d 0 1921:=by
 cases v with
 | non=>exact⟨rfl,rfl,rfl,au _,by decide⟩
 | int i =>
  obtain⟨a,b⟩:=aA.mp (show (decide _&&decide _)=true from h)
  have a:=aZ a;have b:=aZ b
  refine⟨rfl,?_,rfl,au _,au _⟩
  have c:i.natAbs<2 ^ 41:=by lia
  have:i.natAbs.log2<1920:=by
   by_cases hz:i.natAbs=0
   ·rw[hz];decide
   ·exact aH ((Nat.log2_lt hz).mpr c) (by decide)
  simpa[Vl.d,PyData.showable] using this
 | str x =>
  obtain⟨a,b⟩:=aA.mp (show (decide _&&x.cps.toList.all _)=true from h)
  have a:=aZ a
  refine⟨?_,rfl,rfl,au _,?_⟩
  ·show x.cps.all _=true
   grind
  ·show 10*x.length+2<=1921
   lia
theorem Hk (h:VBs vs) (hk:vs.length<=k):Good (tD vs) 1 (1923*k+4) :=
 Good.tup (λd a=>by obtain⟨v,b,rfl⟩:=aB.mp a;exact O2 (h v b)) (by simp_all)
theorem VBs.app (h:VBs a) (k:VBs b):VBs (a++b):=λv c=>by
 grind
theorem B6h (v:Vl)(vs:m8):((vs.map Vl.d).any λe=>PyData.eqv e v.d)=decide (v∈vs):=by
 induction vs with
 | nil=>simp
 | cons a r b =>
  rw[aG,fP,Bv2]
  grind
theorem B6e (v:m8)(vs:m7):((vs.map tD).any λe=>PyData.eqv e (tD v))=decide (v∈vs):=by
 induction vs with
 | nil=>simp
 | cons a r b =>
  rw[aG,fP,A1h]
  grind
theorem A8y (h:VB v) (hs:VBs vs):Ml neg v.d (.list (vs.map Vl.d))=some (.im (.bool (if neg then !decide (v∈vs) else decide (v∈vs)))):=by
 have e:Ml neg v.d (.list (vs.map Vl.d))=if Cr v.d&&PyData.canLayAll0 (vs.map Vl.d) then some (.im (.bool (if neg then !(vs.map Vl.d).any λe=>PyData.eqv e v.d else (vs.map Vl.d).any λe=>PyData.eqv e v.d))) else none:=by rfl
 rw[e,(O2 h).flatB (by decide),Ov λd a=>by obtain⟨u,b,rfl⟩:=aB.mp a;exact(O2 (hs u b)).lay,B6h];rfl
theorem Aw3 {vs:m7}(h:VBs v) (hs:∀u∈vs,VBs u):Ml neg (tD v) (.list (vs.map tD))=some (.im (.bool (if neg then !decide (v∈vs) else decide (v∈vs)))):=by
 show (if Cr _&&PyData.canLayAll0 _ then some _ else none)=_
 rw[(Hk h (au _)).flatB (by decide),Ov λd a=>by obtain⟨u,b,rfl⟩:=aB.mp a;exact(Hk (hs u b) (au _)).lay,B6e];rfl
theorem Vz {l:List a}{r:Int}(b:0<=r) (h1:r<l.length):∃d,atI l r=some d/\d∈l/\l[r.toNat]?=some d:=by
 obtain⟨k,rfl⟩:=ig b
 exact⟨l[k],Ii (bz _),jr _,by grind⟩
end K
namespace L2
open PySem PySem.Spec PyProof.Rows PySem.W
end L2
namespace L2
open PySem PySem.Spec PyProof.Rows PySem.W U
theorem Fun.okQ {P:u6}{w:World}{K:v9}{mg:x_}{base:Heap}{x qual:Str}{st:Stmt}{f:Addr}{fd:u5}{N ps:v4}{k:Nat}{body:Ev->SR}{T:TS}(F:Fun K x qual st f fd)(S:Ay N ps (Ah st))
 (q:∀{cdv:Value} {A:t_} {outer:List Env} {s:u_} {H:Hp} {E:XK} (hr:Room k (A.deeper (envOfC qual (Ah st) s.heap.objs.size f cdv))) (_:(A.deeper (envOfC qual (Ah st) s.heap.objs.size f cdv)).units+64<cLine) (_:(A.deeper (envOfC qual (Ah st) s.heap.objs.size f cdv)).guards=some []),
  QSs (Jo CX0 P w K mg base N qual (Ah st) f cdv A outer s H E).nox (Cz st) T) (m:MS K T body):FnOk P w K mg base CX0 (k+1) f fd ps (spP K (Dt ps.length N.length body)) :=
 F.ok S (λ_ _ _ _=>A7g) λcdv A outer s H vs Q E hr h=>At1 (q hr hr.units hr.gd) (Au2 m h)
end L2
namespace K
open PySem L2 U
def Np:Ev->SR :=
 (Bb
  (Bq (cOp Ai (Aa 0) (cC (.int 0))) (cgN 2))
  (Bb (cIf (Bc (cOp (Ml true) (Aa 1) (Aa 2))) Nm Cq)
  (Ci (cMt Mx K7 (Aa 2) (Aa 1)))))
def Ga:n8:=Dt 2 3 Np
def Lh:Ev->SR :=
 (Ci (cLC [none,some 0] (Bg (Aa 1)) (cgN 0) Bj (cF Ga (Ab (Aa 1) (Ab (Aa 0) Ak)))))
def Dm:n8:=Dt 2 2 Lh
def K8:Ev->SR :=
 (Ci (cUn Be (cLC [none,some 0] (Bg (Aa 1)) (cgN 0) Bj (cOp Ai (Aa 1) (Aa 0)))))
def Cd:n8:=Dt 2 2 K8
def Es:Ev->SR :=
 (Bb
  (Bq (cOp Aw (cOp Aw (cUn N7 (Aa 1)) (cUn N7 (Aa 2))) (cUn N7 (Aa 3))) (cgN 4))
  (Bb (cIf (cOr (Bc (cOp (Ce true) (J1 (Aa 4)) (J1 (Aa 0)))) (A3z (Bc (cUn Aj3 (cLC [none,some 4] (Bg (Aa 0)) (cgN 0) Bj (cOp (Ce false) (cMt Qm Km (Aa 1) (Aa 0)) (cC (.int 1)))))))) Nm Cq)
  (cIf (Bc (cOp (Ce false) (J1 (Aa 3)) (cC (.int 0)))) Nm Cq)))
def Cp:n8:=Dt 4 5 Es
def M7:Ev->SR :=
 (cIf (Bc (cUn (A9d true [Str.ofString "seen",Str.ofString "rising"]) (Aa 0))) Nm Cq)
def Gv:n8:=Dt 1 1 M7
def Eh:BF :=
 (Aq1 (Qd (d:=5) (Df (Ab (cF Cd (Ab (Aa 7) (Ab (cFz (Aa 3)) Ak))) (Ab (cF Cd (Ab (Aa 7) (Ab (cFz (Aa 4)) Ak))) Ak))) (cgN 8))
  (Bd2 (d:=5) (Aa 8) (Aa 6)))
def G7:Ev->SR :=
 (Bb
  (Bq (cF Dm (Ab (Aa 0) (Ab (Aa 1) Ak))) (cgN 3))
  (Bb (Bq (cF Dm (Ab (Aa 0) (Ab (Aa 2) Ak))) (cgN 4))
  (J3 5 (Ak7 (d:=5) (A0m (cOp Ai (Aa 0) (cC (.int 1)))) (cgT 2 (Av (cgN 6) (Av (cgN 7) Ck))) Eh)
  (Ci (Aa 5)))))
def Ef:n8:=Dt 3 9 G7
def Ft:BF :=
 (Ap0 (d:=1) (Aa 2) (λ_ _=>(cC (.bool true))))
def Kc:Ev->SR :=
 (J3
  1 (Ak7 (d:=1) (Bg (Aa 0)) (cgN 2) Ft)
  (Ci (A0w (Aa 1))))
def Dr:n8:=Dt 1 3 Kc
def J4:Ev->SR :=
 (Ci (cF Dr (Ab (cLC [none,none] (Ac7 (Aa 0)) (cgT 2 (Av (cgN 0) (Av (cgN 1) Ck))) Bj (Aa 0)) Ak)))
def Fi:n8:=Dt 1 1 J4
def J5:Ev->SR :=
 (Bb
  (Bq (cF Dr (Ab (cLC [none,none] (Ac7 (Aa 0)) (cgT 2 (Av (cgN 0) (Av (cgN 1) Ck))) Bj (Aa 1)) Ak)) (cgN 2))
  (Ci (Nx (Bc (cOp (Ce false) (Aa 1) (cC (.str "rising")))) A1d (Aa 2))))
def Fp:n8:=Dt 2 3 J5
def Nq:Ev->SR :=
 (Ci (cUn Be (cLC [none,some 3,some 2,some 0] (Bg (Aa 1)) (cgN 0) Bj (Iz (Aa 2) (Df (Ab (Aa 3) (Ab (Aa 0) Ak))) (Aa 1)))))
def Gf:n8:=Dt 4 4 Nq
def M8:Ev->SR :=
 (Ci (cUn Be (cLC [none,some 1,some 2,some 3] (Bg (Aa 0)) (cgN 0) Bj (cF Gf (Ab (Aa 0) (Ab (Aa 1) (Ab (Aa 2) (Ab (Aa 3) Ak))))))))
def Ho:n8:=Dt 4 4 M8
def Hh:Ev->SR :=
 (Ci (Ba3 (Aa 0) (cF Ho (Ab (Aa 0) (Ab (Aa 1) (Ab (Aa 2) (Ab (cC (.none)) Ak)))))))
def Ec:n8:=Dt 3 3 Hh
def Hb:Ev->SR :=
 (Bb
  (Bq (cLC [none] (Ae2 (Aa 0)) (cgN 0) (Bc (cOp Xd (J1 (Aa 0)) (cC (.int 1)))) (Df (Ab (cOp Ai (Aa 0) (cC (.int 1))) (Ab (cOp Ai (Aa 0) (cC (.int 0))) Ak)))) (cgN 1))
  (cIf (Bc (cOp Xd (J1 (Aa 1)) (cC (.int 0)))) (Bb Nm
  Nm) Cq))
def Eb:n8:=Dt 1 3 Hb
def Jt:BF :=
 (Ap0 (d:=7) (Aa 8) (λ_ _=>(cF Cd (Ab (cOp Ai (cOp Ai (Aa 0) (cC (.int 1))) (cOp Ai (Aa 9) (cC (.int 0)))) (Ab (cFz (Aa 6)) Ak)))))
def S7:Ev->SR :=
 (Bb
  (Gd (cF Cp (Ab (cOp Ai (Aa 0) (cC (.int 0))) (Ab (Aa 1) (Ab (Aa 2) (Ab (Aa 3) Ak))))))
  (Bb (Gd (cF Gv (Ab (Aa 4) Ak)))
  (Bb (Bq (cF Ef (Ab (Aa 0) (Ab (Aa 1) (Ab (Aa 2) Ak)))) (cgN 5))
  (Bb (Gd (cF Eb (Ab (Aa 5) Ak)))
  (Bb (Bq (cF Dm (Ab (Aa 0) (Ab (Aa 3) Ak))) (cgN 6))
  (J3 7 (Ak7 (d:=7) (Ux (Aa 5)) (cgT 2 (Av (cgN 8) (Av (cgN 9) Ck))) Jt)
  (Bb (Bq (cF Fp (Ab (Aa 5) (Ab (Aa 4) Ak))) (cgN 10))
  (Bb (Bq (cF Ec (Ab (cF Fi (Ab (Aa 5) Ak)) (Ab (Aa 10) (Ab (Aa 7) Ak)))) (cgN 11))
  (Ci (Df (Ab (cUn Be (Aa 1)) (Ab (cUn Be (Aa 2)) (Ab (cUn Be (Aa 3)) (Ab (Aa 10) (Ab (Aa 11) Ak)))))))))))))))
def Kw:n8:=Dt 5 12 S7
def Nk:Ev->SR :=
 (Bb
  (Bq (Er Ak) (cgN 1))
  (Bb (Mi (Bg (cOp Ai (Aa 0) (cC (.int 4)))) (cgT 2 (Av (cgN 2) (Av (cgN 3) Ck))) (Gd (A4h (Aa 1) (cLC [none,none,some 2] (Uu (cOp Ai (Aa 0) (cC (.int 3))) (Aa 3)) (cgT 2 (Av (cgN 0) (Av (cgN 1) Ck))) Bj (Df (Ab (Aa 2) (Ab (Aa 0) (Ab (Aa 1) Ak))))))))
  (Ci (Aa 1))))
def Ey:n8:=Dt 1 4 Nk
def T9:Ev->SR :=
 (Bb
  (Bq (cLC [none,none,none] (Bg (cF Ey (Ab (Aa 0) Ak))) (cgT 3 (Av (cgN 0) (Av (cgN 1) (Av (cgN 2) Ck)))) (Bc (cOp (Ig true) (Aa 2) (cC (.none)))) (cOp Aw (cOp Aw (Aa 0) (Aa 1)) (Aa 2))) (cgN 1))
  (Ci (Df (Ab (cOp Aw (cOp Aw (cOp Ai (Aa 0) (cC (.int 0))) (cOp Ai (Aa 0) (cC (.int 1)))) (cOp Ai (Aa 0) (cC (.int 2)))) (Ab (cUn Be (Aa 1)) Ak)))))
def Hr:n8:=Dt 1 2 T9
def Te:Ev->SR :=
 (Ci (cF Kw (Ab (cF Hr (Ab (Aa 0) Ak)) (Ab (Aa 1) (Ab (Aa 2) (Ab (cOp Ai (Aa 0) (cC (.int 2))) (Ab (cC (.str "seen")) Ak)))))))
def Cw:n8:=Dt 3 3 Te
def Ld:Ev->XS :=
 (Ae6 (xIf (Bc (cOp (Ml true) (Aa 1) (Aa 0))) (Qn "NoColumn" (Str.ofString "no column ").length "name" (Aa 1)) (Q7 Cq))
  (Q7 (Ci (cUn Be (cLC [none,some 1] (Bg (Aa 0)) (cgN 0) (Bc (cOp (Ce true) (Aa 0) (Aa 1))) (Aa 0))))))
def Dq:w5->XF:=Rf 2 2 Ld
def Qh:Ev->XS :=
 (S9 Dq (Ab (cOp Ai (Aa 0) (cC (.int 0))) (Ab (Aa 1) Ak)) [0] (Ci (cF Cw (Ab (Aa 0) (Ab (cFY Dq (Ab (cOp Ai (Aa 0) (cC (.int 0))) (Ab (Aa 1) Ak))) (Ab (cOp Aw (cOp Ai (Aa 0) (cC (.int 1))) (Df (Ab (Aa 1) Ak))) Ak))))))
def Et:w5->XF:=Rf 2 2 Qh
def Ow:Ev->XS :=
 (Ae6 (Ak5 Dq (Ab (cOp Ai (Aa 0) (cC (.int 1))) (Ab (Aa 1) Ak)) 2)
  (Q7 (Ci (cF Cw (Ab (Aa 0) (Ab (cOp Aw (cOp Ai (Aa 0) (cC (.int 0))) (Df (Ab (Aa 1) Ak))) (Ab (Aa 2) Ak)))))))
def Ge:w5->XF:=Rf 2 3 Ow
def Im:Ev->SR :=
 (Bb
  (cIf (Bc (cOp Ru (Aa 1) (J1 (Aa 0)))) (Ci (B3p (Aa 0) (Aa 1))) Cq)
  (Ci (cC (.int 0))))
def Fe:n8:=Dt 2 2 Im
def Wc:Ev->SR :=
 (Bb
  (Bq (cF Fe (Ab (Aa 0) (Ab (Aa 1) Ak))) (cgN 2))
  (Ci (Er (Ab (cOp K6 (cUn A0g (Aa 2)) (cUn Lz (cOp B2r (cUn A0g (Aa 2)) (cOp Ud (cC (.int 10)) (cC (.int 18)))))) (Ab (cOp Aw (cOp Aw (cOp Q5 (Aa 2) (cC (.int 2305843009213693951))) (cOp K6 (cC (.int 39373)) (Aa 1))) (cC (.int 17))) (Ab (cC (.int 0)) Ak))))))
def Nb:n8:=Dt 2 3 Wc
def Od:Ev->SR :=
 (Bb
  (cIf (Bc (cOp Xd (cOp Ai (Aa 0) (cC (.int 0))) (cC (.int 0)))) (Bb (Bq (cOp Q5 (cOp Ai (Aa 0) (cC (.int 0))) (Aa 1)) (cgN 2))
  (Bb (Bq (cOp Ag2 (cOp Ai (Aa 0) (cC (.int 0))) (Aa 1)) (A2u (Aa 0) (cC (.int 0))))
  (Ci (Aa 2)))) Cq)
  (Bb (Bq (cOp Aw (cOp Ai (Aa 0) (cC (.int 2))) (cC (.int 1))) (A2u (Aa 0) (cC (.int 2))))
  (Bb (Bq (cOp Q5 (cOp K6 (cOp Aw (cOp Ai (Aa 0) (cC (.int 1))) (cOp K6 (cC (.int 48271)) (cOp Ai (Aa 0) (cC (.int 2))))) (cOp Aw (cC (.int 39373)) (cOp Ai (Aa 0) (cC (.int 2))))) (cC (.int 2147483647))) (cgN 3))
  (Bb (Bq (cOp Q5 (cOp K6 (cOp Aw (Aa 3) (cOp Ai (Aa 0) (cC (.int 2)))) (cOp Aw (cOp Q5 (Aa 3) (cC (.int 40009))) (cC (.int 7)))) (cC (.int 2147483629))) (cgN 4))
  (Ci (cOp Q5 (cOp Ag2 (cOp Q5 (cOp Aw (cOp K6 (Aa 4) (cC (.int 48271))) (Aa 3)) (cC (.int 2147483587))) (cC (.int 64))) (Aa 1)))))))
def Al:n8:=Dt 2 5 Od
def Om:Ev->SR :=
 (Bb
  (cIf (Bc (cOp (Ce false) (cF Al (Ab (Aa 0) (Ab (cC (.int 8)) Ak))) (cC (.int 0)))) (Ci (cOp Aw (cC (.int 7)) (cF Al (Ab (Aa 0) (Ab (cOp O5 (Aa 3) (cC (.int 6))) Ak))))) Cq)
  (Ci (cOp Aw (Aa 1) (cF Al (Ab (Aa 0) (Ab (cOp Aw (cOp O5 (Aa 2) (Aa 1)) (cC (.int 1))) Ak))))))
def Hg:n8:=Dt 4 4 Om
def Pg:Ev->SR :=
 (Bb
  (Bq (Er (cK [.str "b",.str "a",.str "year",.str "z",.str "ab",.str "month",.str "aa",.str "quantity",.str "c",.str "town",.str "zz",.str "ba"])) (cgN 2))
  (Ci (cLC [none,some 2,some 0] (Mz (Aa 1)) (cgN 0) Bj (Vi (Aa 1) (cF Al (Ab (Aa 2) (Ab (J1 (Aa 1)) Ak)))))))
def G4:n8:=Dt 2 3 Pg
def Ha:Ev->SR :=
 (Bb
  (Bq (cF Al (Ab (Aa 0) (Ab (cC (.int 9)) Ak))) (cgN 1))
  (Bb (cIf (Bc (cOp Ru (Aa 1) (cC (.int 4)))) (Ci (cOp O5 (cF Al (Ab (Aa 0) (Ab (cC (.int 13)) Ak))) (cC (.int 3)))) Cq)
  (Bb (cIf (Bc (cOp (Ce false) (Aa 1) (cC (.int 4)))) (Ci (cOp Ai (Er (Ab (cOp O5 (cOp Ud (cC (.int 10)) (cC (.int 12))) (cC (.int 1))) (Ab (cOp O5 (cC (.int 0)) (cOp Ud (cC (.int 10)) (cC (.int 11)))) (Ab (cC (.int 100)) (Ab (cC (.int 10)) Ak))))) (cF Al (Ab (Aa 0) (Ab (cC (.int 4)) Ak))))) Cq)
  (Bb (cIf (Bc (cOp (Ce false) (Aa 1) (cC (.int 5)))) (Ci (cC (.none))) Cq)
  (Ci (cOp Ai (Er (cK [.str "",.str "a",.str "b",.str "B",.str "10",.str "9",.str "-",.str "a b",.str "it's",.str "\\",.str "/",.str "_",.str ":",.str "None",.str "ab"])) (cF Al (Ab (Aa 0) (Ab (cC (.int 15)) Ak)))))))))
def Bp:n8:=Dt 1 2 Ha
def Js:Ev->SR :=
 (Bb
  (cIf (Bc (cOp (Ce false) (cF Al (Ab (Aa 0) (Ab (cC (.int 9)) Ak))) (cC (.int 0)))) (Ci (cOp Ai (Er (Ab (cOp O5 (cOp Ud (cC (.int 10)) (cC (.int 12))) (cC (.int 1))) (Ab (cOp O5 (cC (.int 1)) (cOp Ud (cC (.int 10)) (cC (.int 12)))) (Ab (cOp Ud (cC (.int 10)) (cC (.int 11))) (Ab (cC (.int 0)) Ak))))) (cF Al (Ab (Aa 0) (Ab (cC (.int 4)) Ak))))) Cq)
  (Ci (cOp O5 (cF Al (Ab (Aa 0) (Ab (cC (.int 25)) Ak))) (cC (.int 7)))))
def Cg:n8:=Dt 1 1 Js
def Td:Ev->SR :=
 (Bb
  (Bq (Er Ak) (cgN 2))
  (Bb (Mi (Mz (Aa 1)) (cgN 3) (Bb (Bq (cF Bp (Ab (Aa 0) Ak)) (cgN 4))
  (cIf (Bc (cOp (Ml true) (Aa 4) (Aa 2))) (Gd (S5 (Aa 2) (Aa 4))) Cq)))
  (Ci (Aa 2))))
def Ip:n8:=Dt 2 5 Td
def Nz:Ev->SR :=
 (Bb
  (Bq (cF Ip (Ab (Aa 0) (Ab (cC (.int 6)) Ak))) (cgN 3))
  (Bb (Bq (Er Ak) (cgN 4))
  (Bb (Mi (Mz (Aa 2)) (cgN 5) (Bb (Bq (cUn Be (cLC [none,some 3,some 0] (Mz (Aa 1)) (cgN 0) Bj (cOp Ai (Aa 1) (cF Al (Ab (Aa 2) (Ab (J1 (Aa 1)) Ak)))))) (cgN 6))
  (cIf (Bc (cOp (Ml true) (Aa 6) (Aa 4))) (Gd (S5 (Aa 4) (Aa 6))) Cq)))
  (Ci (Aa 4)))))
def Gm:n8:=Dt 3 7 Nz
def Oo:Ev->SR :=
 (Bb
  (Bq (cF G4 (Ab (Aa 0) (Ab (cC (.int 9)) Ak))) (cgN 2))
  (Bb (Bb5 3 4 5 (Ab (cF Al (Ab (Aa 0) (Ab (cC (.int 3)) Ak))) (Ab (cF Al (Ab (Aa 0) (Ab (cC (.int 3)) Ak))) (Ab (cOp Aw (cC (.int 1)) (cF Al (Ab (Aa 0) (Ab (cC (.int 2)) Ak)))) Ak))))
  (Bb (cIf (Bc (cOp (Ce false) (cF Al (Ab (Aa 0) (Ab (cC (.int 8)) Ak))) (cC (.int 0)))) (Bq (cOp Aw (cC (.int 3)) (cF Al (Ab (Aa 0) (Ab (cC (.int 3)) Ak)))) (cgN 5)) Cq)
  (Bb (B1c 6 7 (Ab (cSl Yv (Aa 2) cON (cOS (Aa 3))) (Ab (cSl Yv (Aa 2) (cOS (Aa 3)) (cOS (cOp Aw (Aa 3) (Aa 4)))) Ak)))
  (Bb (Bq (cSl Yv (Aa 2) (cOS (cOp Aw (Aa 3) (Aa 4))) (cOS (cOp Aw (cOp Aw (Aa 3) (Aa 4)) (Aa 5)))) (cgN 8))
  (Bb (Bq (cF Gm (Ab (Aa 0) (Ab (Aa 4) (Ab (cF Hg (Ab (Aa 0) (Ab (cC (.int 0)) (Ab (cC (.int 5)) (Ab (cC (.int 12)) Ak))))) Ak)))) (cgN 9))
  (Bb (Bq (cOp Ai (Er (Ab (cC (.int 9)) (Ab (cC (.int 2)) (Ab (cC (.int 3)) Ak)))) (cF Al (Ab (Aa 0) (Ab (cC (.int 3)) Ak)))) (cgN 10))
  (Bb (Bq (Er Ak) (cgN 11))
  (Bb (Mi (Bg (cF Gm (Ab (Aa 0) (Ab (Aa 3) (Ab (cF Hg (Ab (Aa 0) (Ab (cC (.int 0)) (Ab (cC (.int 5)) (Ab (cC (.int 12)) Ak))))) Ak))))) (cgN 12) (Bb (Bq (Er Ak) (cgN 13))
  (Bb (Mi (Bg (Aa 9)) (cgN 14) (Bb (Bq (cUn Be (cLC [none,some 1,some 0] (Bg (Aa 8)) (cgN 0) Bj (Nx (Bc (Aa 1)) (cF Cg (Ab (Aa 2) Ak)) (cF Bp (Ab (Aa 2) Ak))))) (cgN 15))
  (Gd (S5 (Aa 13) (Nx (Bc (cOp (Ce false) (cF Al (Ab (Aa 0) (Ab (Aa 10) Ak))) (cC (.int 0)))) (cC (.none)) (Aa 15))))))
  (Gd (S5 (Aa 11) (Df (Ab (Aa 12) (Ab (cUn Be (Aa 13)) Ak))))))))
  (Ci (Df (Ab (cUn Be (Aa 6)) (Ab (cUn Be (Aa 7)) (Ab (cUn Be (Aa 8)) (Ab (cUn Be (Aa 9)) (Ab (cUn Be (Aa 11)) Ak))))))))))))))))
def Kz:n8:=Dt 2 16 Oo
def Gh (pr:n8):Ev->SR :=
 (Bb
  (cIf (Bc (cUn (Pn .list .tuple) (Aa 1))) (Bb (cIf (cOr (Bc (cOp (Ce true) (cUn (Hs .list) (Aa 0)) (cUn (Hs .list) (Aa 1)))) (Bc (cOp (Ce true) (cUn (Hs .tuple) (Aa 0)) (cUn (Hs .tuple) (Aa 1))))) (Ci (cC (.bool false))) Cq)
  (Ci (Vk (cOp (Ce false) (J1 (Aa 0)) (J1 (Aa 1))) (cUn Aj3 (cLC [none,none] (Uu (Aa 0) (Aa 1)) (cgT 2 (Av (cgN 0) (Av (cgN 1) Ck))) Bj (cF pr (Ab (Aa 0) (Ab (Aa 1) Ak)))))))) Cq)
  (Bb (cIf (cOr (Bc (cOp (Ig false) (Aa 1) (cC (.none)))) (Bc (cUn (Hs .str) (Aa 1)))) (Ci (Vk (cOp (Ce false) (Aa 0) (Aa 1)) (cOp (Ce false) (cUn (Hs .str) (Aa 0)) (cUn (Hs .str) (Aa 1))))) Cq)
  (Bb (cIf (Bc (cUn (Hs .bool) (Aa 1))) (Ci (Vk (cUn (Hs .bool) (Aa 0)) (cOp (Ce false) (Aa 0) (Aa 1)))) Cq)
  (Ci (Vk (cUn (Hs .int) (Aa 0)) (Vk (A7w (cUn (Hs .bool) (Aa 0))) (cOp (Ce false) (Aa 0) (Aa 1))))))))
def Bt:Nat->List O->FR
 | 0=>λ_=>.bad
 | k+1=>Dt 2 2 (Gh (Bt k))
def Z3:Ev->SR :=
 (Bb
  (Bq (Er Ak) (cgN 1))
  (Bb (Mi (Bg (cOp Ai (Aa 0) (cC (.int 4)))) (cgT 2 (Av (cgN 2) (Av (cgN 3) Ck))) (Gd (A4h (Aa 1) (cLC [none,none,some 2] (Uu (cOp Ai (Aa 0) (cC (.int 3))) (Aa 3)) (cgT 2 (Av (cgN 0) (Av (cgN 1) Ck))) (Bc (cOp (Ig true) (Aa 1) (cC (.none)))) (cOp Aw (cOp Aw (Aa 2) (Aa 0)) (Aa 1))))))
  (Ci (Df (Ab (cOp Aw (cOp Aw (cOp Ai (Aa 0) (cC (.int 0))) (cOp Ai (Aa 0) (cC (.int 1)))) (cOp Ai (Aa 0) (cC (.int 2)))) (Ab (Aa 1) Ak))))))
def Ks:n8:=Dt 1 4 Z3
def Dy:BF :=
 (Aq1 (Qd (d:=8) (cLC [none,some 9] (Bg (Aa 5)) (cgN 0) Bj (cUn Be (cLC [none,some 1] (Bg (Aa 0)) (cgN 0) Bj (cOp Ai (Aa 1) (Aa 0))))) (cgL 3 (Av (cgN 10) (Av (cgN 11) (Av (cgN 12) Ck)))))
  (Aq1 (Qd (d:=8) (cOp Aw (Aa 6) (cOp Pq (Er (Ab (Aa 10) Ak)) (cUn Lz (cOp (Ml true) (Aa 10) (Aa 6))))) (cgN 6))
  (Aq1 (Qd (d:=8) (cOp Aw (Aa 7) (cOp Pq (Er (Ab (Aa 11) Ak)) (cUn Lz (cOp (Ml true) (Aa 11) (Aa 7))))) (cgN 7))
  (Ap0 (d:=8) (Df (Ab (Aa 10) (Ab (Aa 11) Ak))) (λ_ _=>(Aa 12))))))
def A5c:Ev->SR :=
 (Bb
  (Bq (cLC [none,some 0] (Bg (Df (Ab (Aa 2) (Ab (Aa 3) (Ab (Aa 4) Ak))))) (cgN 0) Bj (cLC [none,some 1] (Bg (Aa 0)) (cgN 0) Bj (cMt Mx K7 (Aa 1) (Aa 0)))) (cgN 5))
  (Bb (Bq (Er Ak) (cgN 6)) (Bb (Bq (Er Ak) (cgN 7)) (J3 8 (Ak7 (d:=8) (Bg (Aa 1)) (cgN 9) Dy)
  (Bb (Bq (cLC [none,some 7,some 8] (Bt6 7 (Bg (Aa 6))) (cgN 0) Bj (Df (Ab (Aa 0) (Ab (cUn Be (cLC [none,some 2,some 0] (Bg (Aa 1)) (cgN 0) Bj (Iz (Aa 1) (Df (Ab (Aa 2) (Ab (Aa 0) Ak))) (cC .none)))) Ak)))) (cgN 1))
  (Ci (Df (Ab (cUn Be (Aa 2)) (Ab (cUn Be (Aa 3)) (Ab (cUn Be (Aa 4)) (Ab (cUn Be (Aa 7)) (Ab (cUn Be (Aa 1)) Ak))))))))))))
def Iu:n8:=Dt 5 13 A5c
def A4y:Ev->SR :=
 (Bb
  (cIf (Bc (Bb2 (Aa 1))) (Ci (Aa 0)) Cq)
  (Bb (Bq (Er (Ab (Q4 [("NoColumn",false)] (Aa 1)) (Ab (Q4 [("NoColumn",true)] (Aa 1)) (Ab (Q4 [("NoColumn",false)] (Aa 1)) Ak)))) (cgN 3))
  (Bb (Gd (S5 (Aa 3) (Q4 [("NoColumn",false)] (Aa 1))))
  (Bb (Bq (Q4 [("NoColumn",false)] (Aa 1)) (cgN 4))
  (Bb (cIf (cOr (Bc (Aa 4)) (cOr (A3z (Bc (Q4 [("NoColumn",true)] (Aa 1)))) (Bc (cOp (Ce true) (J1 (cLC [none] (Bg (Aa 3)) (cgN 0) (Bc (Aa 0)) (Aa 0))) (cC (.int 1)))))) (Ci (Df (Ab (cC (.str "refused")) (Ab (cUn Bv6 (cC (.int 1))) (Ab (cC (.none)) Ak))))) Cq)
  (Ci (Df (Ab (cC (.str "refused")) (Ab (cMt Qm V6 (Aa 3) (cC (.bool true))) (Ab (Nx (Bc (cOp Ai (Aa 3) (cC (.int 1)))) (cXF ["NoColumn"] "name" (Aa 1)) (cC (.none))) Ak))))))))))
def Ea:n8:=Dt 2 5 A4y
def Kh:Ev->SR :=
 (Bb
  (Bq (cF Ks (Ab (Aa 0) Ak)) (cgT 2 (Av (cgN 3) (Av (cgN 4) Ck))))
  (Bb (Bq (cOp Ai (Er (Ab (Df (Ab (cOp Ai (Aa 0) (cC (.int 1))) (Ab (cOp Ai (Aa 0) (cC (.int 0))) Ak))) (Ab (Df (Ab (cOp Ai (Aa 0) (cC (.int 0))) (Ab (cOp Ai (Aa 0) (cC (.int 1))) Ak))) Ak))) (cUn Lz (Aa 2))) (cgT 2 (Av (cgN 5) (Av (cgN 6) Ck))))
  (Bb (cIf (Bc (cOp (Ml true) (Aa 1) (Aa 5))) (Ci (Df (Ab (cC (.str "refused")) (Ab (cC (.int 1)) (Ab (Aa 1) Ak))))) Cq)
  (Bb (Bq (cLC [none,some 1] (Bg (Aa 5)) (cgN 0) (Bc (cOp (Ce true) (Aa 0) (Aa 1))) (Aa 0)) (cgN 7))
  (Bb (Bq (cOp Aw (cUn N7 (Aa 6)) (Er (Ab (Aa 1) Ak))) (cgN 8))
  (Bb (Bq (cOp Ai (Er (Ab (Df (Ab (cFz (Aa 8)) (Ab (cFz (Aa 7)) Ak))) (Ab (Df (Ab (cFz (Aa 7)) (Ab (cFz (Aa 8)) Ak))) Ak))) (cUn Lz (Aa 2))) (cgT 2 (Av (cgN 9) (Av (cgN 10) Ck))))
  (Ci (cF Iu (Ab (Aa 3) (Ab (Aa 4) (Ab (Aa 9) (Ab (Aa 10) (Ab (cOp Ai (Aa 0) (cC (.int 2))) Ak)))))))))))))
def Gr:n8:=Dt 3 11 Kh
def M6:Ev->SR :=
 (Bb
  (cIf (A3z (Bc (cF (Bt 9) (Ab (Wb Et Ea ["NoColumn"] (Ab (Aa 3) (Ab (Aa 7) Ak))) (Ab (cF Gr (Ab (Aa 3) (Ab (Aa 7) (Ab (cC (.bool true)) Ak)))) Ak))))) (Ci (cC (.bool false))) Cq)
  (cIf (A3z (Bc (cF (Bt 9) (Ab (Wb Ge Ea ["NoColumn"] (Ab (Aa 3) (Ab (Aa 7) Ak))) (Ab (cF Gr (Ab (Aa 3) (Ab (Aa 7) (Ab (cC (.bool false)) Ak)))) Ak))))) (Ci (cC (.bool false))) Cq))
def Jf:Ev->SR :=
 (Mi (Mz (cC (.int 2))) (cgN 8) M6)
def Rn:Ev->SR :=
 (Bb
  (Bq (cF Nb (Ab (Aa 0) (Ab (Aa 1) Ak))) (cgN 2))
  (Bb (Bq (cF Kz (Ab (Aa 2) (Ab (cC (.bool false)) Ak))) (cgN 3))
  (Bb (Bq (cF Al (Ab (Aa 2) (Ab (cC (.int 3)) Ak))) (cgN 4))
  (Bb (cIf (Bc (cOp Xd (Aa 4) (cC (.int 0)))) (Bb (Bq (Nx (Bc (cOp (Ce false) (Aa 4) (cC (.int 1)))) (Df (Ab (cOp Aw (cOp Ai (Aa 3) (cC (.int 1))) (cOp Ai (Aa 3) (cC (.int 0)))) (Ab (Er Ak) Ak))) (Df (Ab (Er Ak) (Ab (cOp Aw (cOp Ai (Aa 3) (cC (.int 0))) (cOp Ai (Aa 3) (cC (.int 1)))) Ak)))) (cgN 5))
  (Bq (cF Cw (Ab (Aa 3) (Ab (cOp Ai (Aa 5) (cC (.int 0))) (Ab (cOp Ai (Aa 5) (cC (.int 1))) Ak)))) (cgN 3))) Cq)
  (Bb (Bq (cUn Q6 (Aa 3)) (cgN 6))
  (Bb (Mi (Bg (cOp Aw (cOp Aw (cOp Aw (cOp Ai (Aa 3) (cC (.int 0))) (cOp Ai (Aa 3) (cC (.int 1)))) (cOp Ai (Aa 3) (cC (.int 2)))) (Df (Ab (cC (.str "no")) (Ab (cC (.str "")) (Ab (cOp Ai (Er (cK [.str "b",.str "a",.str "zz",.str "A",.str "-"])) (cF Al (Ab (Aa 2) (Ab (cC (.int 5)) Ak)))) Ak)))))) (cgN 7) Jf)
  (cIf (Bc (cOp (Ce true) (cUn Q6 (Aa 3)) (Aa 6))) (Ci (cC (.bool false))) Cq)))))))
def As4:Ev->SR :=
 (Bb
  (Mi (Mz (cOp Aw (cC (.int 1)) (cOp Az1 (cC (.int 3)) (J1 (Aa 0))))) (cgN 1) Rn)
  (Ci (cC (.bool true))))
def Ay1:n8:=Dt 1 9 As4
abbrev sI (x:PyData):Option O:=some (.im x)
abbrev sT (x:List PyData):Option O:=some (.ls true x)
abbrev sFa (x:List PyData):Option O:=some (.ls false x)
local macro_rules | `(tactic| wp_walk using $ts,*)=>`(tactic| simp only [sI,sT,sFa,Bb,Bq,cgN,cgT,Av,Ck,Aa,cC,cOp,cUn,J1,cF,cFz,gM,List.all_nil,gV,Xw,Aj8,slots,pairsOf,ndB,G3,Ak,Ab,cK,nrm,Ds,A9w,rdP,O.dat,O.flag,O.bor,frz,frzs,Df,Er,cIf,Bc,Bj,cOr,A3z,Vk,A7w,Nx,Ci,Gd,Cq,Nm,S5,slL,Vi,A4h,A2u,B1c,Bb5,cSl,cON,cOS,Mz,cIn,R.bind_ok,R.toS_ok,Dt,A4r,resolve,Ht,Ac4,U.opI,U.Yl,Xd,B2r,O5,Ag2,Q5,Ud,Rv,Mf,B3p,List.getElem?_cons_zero,dC,List.set_cons_zero,List.set_cons_succ,aG,gh,bW,j9,List.replicate,jD,dH,cY,List.contains_nil,fG,Option.map_none,gj,Option.join_some,Option.isSome_some,cB,bx,ik,il,Bool.and_true,Bool.true_and,Bool.and_false,Bool.false_and,Bool.or_true,Bool.or_false,Bool.true_or,Bool.false_or,dD,List.dropLast,List.any_nil,List.flatMap_nil,ite_true,ite_false,decide_true,decide_false,reduceCtorEq,B4h,B5l,B4u,B5x,B4w,B3g,B2a,Bz7,U.A5k,aQ,Nat.reduceAdd,Nat.reduceSub,Nat.reduceLeDiff,Nat.reduceLT,Nat.reduceEqDiff,Int.reduceAdd,Int.reduceSub,Int.reduceNeg,Int.reduceLT,Int.reduceLE,Int.reducePow,Int.reduceToNat,Int.reduceMul,and_self,and_true,bM,cD,jq,Q7,Ae6,xIf,Qn,Ak5,B4q,B2x,B0c,S9,Bw2,Mh,Mm,Rf,cFY,Q4,Bb2,cXF,Wb,cMt,Qm,Mx,$[$ts:term],*])
def Bx (n:Nat)(ds:w5):Prop:=∃x y z:Int,ds=[.int x,.int y,.int z]/\0<=x/\0<=y/\y<2 ^ 62/\0<=z/\z<=n
theorem Bx.mono (h:Bx n ds) (l:n<=m):Bx m ds:=by
 obtain⟨x,y,z,e,b,c,a,d,f⟩:=h
 exact⟨x,y,z,e,b,c,a,d,by lia⟩
theorem mod_lt {x m:Int}(h:0<m):0<=x % m/\x % m<m:=⟨Int.emod_nonneg _ (by lia),Int.emod_lt_of_pos _ h⟩
theorem A6s (h:-(2 ^ 64)<i/\i<2 ^ 64):Vo i j=true:=by
 unfold Vo;grind
theorem Af9 (h:-(2 ^ 64)<j/\j<2 ^ 64):Vo i j=true:=by
 unfold Vo;grind
theorem Aw2 (h:0<j):Bf8 i j=true:=aO h
theorem B6g (h:0<j/\j<1073741824):A2w i j=true:=by
 unfold A2w;grind
theorem B5e:Aj2 10 18=true:=by rfl
theorem Bw5:Aj2 10 12=true:=by rfl
theorem Bv7:Aj2 10 11=true:=by rfl
theorem Cj (hb:Bx n ds) (hn:n<2 ^ 40) (a:0<m) (h1:m<16000000) :
 ∃r ds',Bx (n+1) ds'/\0<=r/\r<m/\Al [.ls true ds,.im (.int m)]=.ret (.im (.int r)) [.ls true ds',.im (.int m)]:=by
 obtain⟨x,y,z,rfl,d,e,b,g,z1⟩:=hb
 by_cases c:0<x
 ·refine⟨x % m,[.int (x / m),.int y,.int z],⟨_,_,_,rfl,Int.ediv_nonneg d (by lia),e,b,g,by lia⟩,(mod_lt a).1,(mod_lt a).2,?_⟩
  wp_walk using Al,Od,Ai,aO c,Aw2 a,B6g ⟨a,(by lia:m<1073741824)⟩
 ·have h:=mod_lt (x:=(y+48271*(z+1))*(39373+(z+1))) (m:=2147483647) (by decide)
  generalize e1:(y+48271*(z+1))*(39373+(z+1)) % 2147483647=once at h
  have g2:=mod_lt (x:=once) (m:=40009) (by decide)
  have f:=mod_lt (x:=(once+(z+1))*(once % 40009+7)) (m:=2147483629) (by decide)
  generalize e2:(once+(z+1))*(once % 40009+7) % 2147483629=twice at f
  refine⟨(twice*48271+once) % 2147483587 / 64 % m,[.int x,.int y,.int (z+1)],⟨_,_,_,rfl,d,e,b,by lia,by lia⟩,(mod_lt a).1,(mod_lt a).2,?_⟩
  wp_walk using Al,Od,Ai,K6,Aw,bj c,Aw2 a,B6g (i:=(twice*48271+once) % 2147483587) (j:=64) ⟨by decide,by decide⟩,A6s (i:=48271) (j:=z+1) ⟨by decide,by decide⟩,Af9 (i:=y+48271*(z+1)) (j:=39373+(z+1)) ⟨by lia,by lia⟩,Aw2 (i:=(y+48271*(z+1))*(39373+(z+1))) (j:=2147483647) (by decide),e1,Aw2 (i:=once) (j:=40009) (by decide),Af9 (i:=once+(z+1)) (j:=once % 40009+7) ⟨by lia,by lia⟩,Aw2 (i:=(once+(z+1))*(once % 40009+7)) (j:=2147483629) (by decide),e2,Af9 _,Aw2 (j:=2147483587) (by decide)
theorem At8 {k:Nat}:∃i:Int,Fe [.sc ns,.im (.int k)]=.ret (.im (.int i)) [.sc ns,.im (.int k)]:=by
 by_cases c:k<ns.length
 ·refine⟨ns[k],?_⟩
  have e:atI ns (k:Int)=some ns[k]:=Ii (bz c)
  wp_walk using Fe,Im,Ru,Cr,PyData.canLay0,PyData.depth,As0,aO (show (k:Int)<ns.length by lia),e,aP
 ·refine⟨0,?_⟩
  wp_walk using Fe,Im,Ru,Cr,PyData.canLay0,PyData.depth,As0,bj (show ¬ (k:Int)<ns.length by lia),aP
theorem B1z {k:Nat}(hk:k<=63):∃ds,Bx 0 ds/\Nb [.sc ns,.im (.int k)]=.ret (.ls false ds) [.sc ns,.im (.int k)]:=by
 obtain⟨i,e⟩:=At8 (ns:=ns) (k:=k)
 have a:(0:Int)<=(if i<0 then -i else i):=by grind
 have c:=mod_lt (x:=i) (m:=2305843009213693951) (by decide)
 generalize ea:(if i<0 then -i else i)=ab at a
 have b:(0:Int)<=(if decide ((1000000000000000000:Int)<=ab)=true then 1 else 0)/\(if decide ((1000000000000000000:Int)<=ab)=true then (1:Int) else 0)<=1:=by lia
 generalize eo:(if decide ((1000000000000000000:Int)<=ab)=true then (1:Int) else 0)=on at b
 refine⟨[.int _,.int (i % 2305843009213693951+39373*k+17),.int 0],⟨_,_,_,rfl,Int.mul_nonneg a b.1,by lia,by lia,by lia,by lia⟩,?_⟩
 wp_walk using Nb,Wc,e,A0g,ea,Lz,K6,Aw,eo,B5e,Aw2 (j:=2305843009213693951) (by decide),Af9 (j:=on) ⟨by lia,by lia⟩,A6s _
theorem A1q (hb:Bx n ds) (hn:n<2 ^ 39) (j:0<=l) (h1:l<=7) (h2:l<=f) (t:f<=m) (o:7<=m) (p:m<1000) :
 ∃r ds',Bx (n+2) ds'/\l<=r/\r<=m/\Hg [.ls true ds,.im (.int l),.im (.int f),.im (.int m)]=.ret (.im (.int r)) [.ls true ds',.im (.int l),.im (.int f),.im (.int m)]:=by
 obtain⟨r,s,g,u,k,e⟩:=Cj (m:=8) hb (by lia) (by decide) (by decide)
 by_cases c:r=0
 ·subst c
  obtain⟨q,a,d,h,i,b⟩:=Cj (m:=m-6) g (by lia) (by lia) (by lia)
  refine⟨7+q,a,d,by lia,by lia,?_⟩
  wp_walk using Hg,Om,e,b,Ce,Cr,PyData.canLay0,PyData.depth,PyData.eqv,Aw,aP,cH
 ·obtain⟨q,a,d,h,i,b⟩:=Cj (m:=f-l+1) g (by lia) (by lia) (by lia)
  refine⟨l+q,a,d,by lia,by lia,?_⟩
  wp_walk using Hg,Om,e,b,Ce,Cr,PyData.canLay0,PyData.depth,PyData.eqv,Aw,aP,cV.mpr c
theorem A6l (hb:Bx n ds) (hn:n<2 ^ 39):∃(i:Int) (ds':w5),Bx (n+2) ds'/\VB (.int i)/\Cg [.ls true ds]=.ret (.im (.int i)) [.ls true ds']:=by
 obtain⟨r,d1,k,r0,r1,j⟩:=Cj (m:=9) hb (by lia) (by decide) (by decide)
 by_cases c:r=0
 ·subst c
  obtain⟨q,b,e,f,h,a⟩:=Cj (m:=4) k (by lia) (by decide) (by decide)
  obtain⟨d,s,g,_⟩:=Vz (l:=[PyData.int 999999999999,.int (-999999999999),.int 100000000000,.int 0]) (r:=q) f h
  have p:∃i:Int,d=.int i/\VB (.int i):=by
   simp only[aD,aY,a_]at g
   rcases g with rfl | rfl | rfl | rfl <;> exact⟨_,rfl,by decide⟩
  obtain⟨i,rfl,o⟩:=p
  refine⟨i,b,e,o,?_⟩
  wp_walk using Cg,Js,j,a,Ce,Cr,PyData.canLay0,PyData.depth,PyData.eqv,Aw,aP,cH,Bw5,Bv7,Ai,s
 ·obtain⟨q,b,e,f,h,a⟩:=Cj (m:=25) k (by lia) (by decide) (by decide)
  refine⟨q-7,b,e,?_,?_⟩
  ·show (decide (-1000000000000<=q-7)&&decide _)=true
   rw[aO (by lia),aO (by lia)];rfl
  wp_walk using Cg,Js,j,a,Ce,Cr,PyData.canLay0,PyData.depth,PyData.eqv,Aw,aP,cV.mpr c
theorem Ai0 (hb:Bx n ds) (hn:n<2 ^ 39):∃(v:Vl) (ds':w5),Bx (n+2) ds'/\VB v/\Bp [.ls true ds]=.ret (.im v.d) [.ls true ds']:=by
 obtain⟨r,t,k,r0,r1,j⟩:=Cj (m:=9) hb (by lia) (by decide) (by decide)
 by_cases c4:r<4
 ·obtain⟨q,e,g,h,i,c⟩:=Cj (m:=13) k (by lia) (by decide) (by decide)
  refine⟨.int (q-3),e,g,?_,?_⟩
  ·show (decide (-1000000000000<=q-3)&&decide (q-3<=1000000000000))=true
   rw[aO (by lia),aO (by lia)];rfl
  wp_walk using Bp,Ha,j,c,Ru,As0,Cr,PyData.canLay0,PyData.depth,aP,aO c4,Vl.d
 by_cases c5:r=4
 ·subst c5
  obtain⟨q,e,g,h,i,c⟩:=Cj (m:=4) k (by lia) (by decide) (by decide)
  obtain⟨d,s,f,_⟩:=Vz (l:=[PyData.int 999999999999,.int (-100000000000),.int 100,.int 10]) (r:=q) h i
  have p:∃v:Vl,d=v.d/\VB v:=by
   simp only[aD,aY,a_]at f
   rcases f with rfl | rfl | rfl | rfl <;> exact⟨.int _,rfl,by decide⟩
  obtain⟨v,rfl,o⟩:=p
  refine⟨v,e,g,o,?_⟩
  wp_walk using Bp,Ha,j,c,Ru,As0,Ce,Cr,PyData.canLay0,PyData.depth,PyData.eqv,aP,bj c4,cH,Bw5,Bv7,Ai,s
 by_cases c6:r=5
 ·subst c6
  refine⟨.non,t,k.mono (by lia),rfl,?_⟩
  wp_walk using Bp,Ha,j,Ru,As0,Ce,Cr,PyData.canLay0,PyData.depth,PyData.eqv,aP,bj c4,cH,cV.mpr c5,Vl.d
 ·obtain⟨q,e,g,h,i,c⟩:=Cj (m:=15) k (by lia) (by decide) (by decide)
  obtain⟨d,s,f,_⟩:=Vz (l:=[PyData.str "",.str "a",.str "b",.str "B",.str "10",.str "9",.str "-",.str "a b",.str "it's",.str "\\",.str "/",.str "_",.str ":",.str "None",.str "ab"]) (r:=q) h i
  have p:∃v:Vl,d=v.d/\VB v:=by
   simp only[aD,aY,a_]at f
   rcases f with rfl | rfl | rfl | rfl | rfl | rfl | rfl | rfl | rfl | rfl | rfl | rfl | rfl | rfl | rfl <;> exact⟨.str _,rfl,by decide⟩
  obtain⟨v,rfl,o⟩:=p
  refine⟨v,e,g,o,?_⟩
  wp_walk using Bp,Ha,j,c,Ru,As0,Ce,Cr,PyData.canLay0,PyData.depth,PyData.eqv,aP,bj c4,cV.mpr c5,cV.mpr c6,Ai,s
noncomputable def names12:v4:=["b","a","year","z","ab","month","aa","quantity","c","town","zz","ba"]
theorem Bs9 {m:Nat}(h:m<=1000):(m:Int)<=16000000/\-16000000<=(m:Int):=by lia
theorem upN {n k a b c:Nat}(hn:n<a)(hk:k<=b)(h:a+b<=c):n+k<c:=aH (ir hn hk) h
theorem Bm6 {n:Nat}{r:Int}(a:0<=r)(h1:r<n):ixN n r=some r.toNat:=by
 unfold ixN;grind
theorem Oa : (Kr lo n).length=n:=by unfold Kr;grind
theorem Qs (h:(Kr lo n)[k]?=some d):d=.int (lo+k)/\k<n:=by
 unfold Kr at h
 grind
theorem Zm {α β:Type}(f:α->β):∀(l:List α) (j:Nat),(l.map f).eraseIdx j=(l.eraseIdx j).map f
 | [],j=>rfl
 | a::l,0=>rfl
 | a::l,j+1=>by rw[aG,jL,jL,aG,Zm f l j]
theorem Wa {α:Type}:∀(l:List α) {j:Nat}(h:j<l.length),(l[j]::l.eraseIdx j).Perm l
 | a::l,0,h=>List.Perm.refl _
 | a::l,j+1,h=>by
  rw[jL,List.getElem_cons_succ]
  exact(List.Perm.swap a _ _).trans (List.Perm.cons a (Wa l (by simpa using h)))
structure Names (ns:v4):Prop where
 nd:ns.Nodup
 sub:∀x∈ns,x∈names12
theorem A9k (hb:Bx n ds) (hn:n<2 ^ 38) (hm:m<=12) :
 ∃b ds',b.length=m/\Names b/\Bx (n+m) ds'/\G4 [.ls true ds,.im (.int m)]=.ret (.ls false (b.map PyData.str)) [.ls true ds',.im (.int m)]:=by
 have i:=Ou (g:=cgN 0) (ft:=Bj) (fe:=Vi (Aa 1) (cF Al (Ab (Aa 2) (Ab (J1 (Aa 1)) Ak)))) (items:=Kr 0 m) (acc:=[]) (n:=0) (c:=[none,sT (names12.map PyData.str),sT ds])
  (P:=λk f c=>∃a h t b,c=[t,sT (a.map PyData.str),sT h]/\Bx (n+k) h/\f=b.map PyData.str/\(b++a).Perm names12/\b.length=k)
  ⟨names12,ds,none,[],rfl,hb,rfl,List.Perm.refl _,rfl⟩ (λk d f c C w=>by
   rw[aQ]at w ⊢;obtain⟨a,h,t,b,rfl,o,rfl,j,l⟩:=w;obtain⟨rfl,hk⟩:=Qs C
   have ll:a.length+k=12:=by have:=j.length_eq;rw[aK,l]at this;have e:names12.length=12:=rfl;lia
   obtain⟨r,v,A,z,y,B⟩:=Cj (m:=(a.length:Int)) o (by lia) (by lia) (by lia)
   have u:r.toNat<a.length:=by lia
   have q:(a.map PyData.str)[r.toNat]?=some (.str a[r.toNat]):=by simp[u]
   have p:ixN a.length r=some r.toNat:=Bm6 z y
   refine⟨some (.str a[r.toNat]),[sI (.int (0+(k:Int))),sT ((a.eraseIdx r.toNat).map PyData.str),sT v],?_,a.eraseIdx r.toNat,v,_,b++[a[r.toNat]],rfl,A.mono (by lia),by simp,?_,by simp[l]⟩
   ·wp_walk using Ma,aq,B,p,q,Zm,show a.length<=16000000 by lia
   ·rw[dZ]
    exact(List.Perm.append_left b (Wa a u)).trans j)
 obtain⟨f,cI,e,a,h,t,b,rfl,o,rfl,j,l⟩:=i;rw[aQ,Oa]at o l
 have D:(b++a).Nodup:=j.nodup_iff.mpr (by decide)
 refine⟨b,h,l,⟨(fC.mp D).1,λx q=>j.mem_iff.mp (bf _ q)⟩,o,?_⟩
 have s:cLC [none,some 2,some 0] (Mz (Aa 1)) (cgN 0) Bj (Vi (Aa 1) (cF Al (Ab (Aa 2) (Ab (J1 (Aa 1)) Ak)))) [sT ds,sI (.int m),sFa (names12.map PyData.str)]=.ok (.o (.ls false (b.map PyData.str))) [sT h,sI (.int m),sFa (a.map PyData.str)] :=
  Dl (ds:=Kr 0 m) (c1:=[sT ds,sI (.int m),sFa _]) (by wp_walk using Bs9 (ao hm (by decide)),eZ) (by rw[Oa];exact ao hm (by decide)) e (by wp_walk using bM)
 unfold G4 Pg;simp only[names12,aG,gh]at s
 wp_walk using s
theorem A5r {k:Nat}{vs:m8} (h:v∉vs) (a:vs.Nodup):(vs++[v]).Nodup:=by
 grind
theorem Bu0 (hb:Bx n ds) (hn:n<2 ^ 38) (hm:m<=1000) :
 ∃a ds',VBs a/\a.Nodup/\a.length<=m/\(0<m->a≠[])/\Bx (n+2*m) ds'/\Ip [.ls true ds,.im (.int m)]=.ret (.ls false (a.map Vl.d)) [.ls true ds',.im (.int m)]:=by
 have i:=Fo (g:=cgN 3) (body:=Bb (Bq (cF Bp (Ab (Aa 0) Ak)) (cgN 4)) (cIf (Bc (cOp (Ml true) (Aa 4) (Aa 2))) (Gd (S5 (Aa 2) (Aa 4))) Cq)) (items:=Kr 0 m) (n:=0) (c:=[sT ds,sI (.int m),sFa [],none,none])
  (P:=λk c=>∃j a x y,c=[sT j,sI (.int m),sFa (a.map Vl.d),x,y]/\Bx (n+2*k) j/\VBs a/\a.Nodup/\a.length<=k/\(0<k->a≠[]))
  ⟨ds,[],none,none,rfl,hb,(λv b=>by cases b),eU,au _,λh=>absurd h (by decide)⟩ (λk d c B s=>by
   rw[aQ]at s ⊢;obtain⟨j,a,x,y,rfl,p,b,o,l,f⟩:=s;obtain⟨rfl,w⟩:=Qs B
   obtain⟨v,q,t,r,A⟩:=Ai0 p (upN hn (dG 2 (ao (cR w) hm)) (by decide))
   by_cases c:v∈a
   ·refine⟨[sT q,sI (.int m),sFa (a.map Vl.d),sI (.int (0+(k:Int))),sI v.d],.inl ?_,q,a,_,_,rfl,t,b,o,Nat.le_succ_of_le l,λ_ z=>by rw[z]at c;cases c⟩
    wp_walk using A,A8y r b,aO c
   ·refine⟨[sT q,sI (.int m),sFa ((a++[v]).map Vl.d),sI (.int (0+(k:Int))),sI v.d],.inl ?_,q,a++[v],_,_,rfl,t,VBs.app b (λu C=>by rw[aN.mp C];exact r),A5r (k:=k) c o,by rw[aK,iI];lia,λ_=>by simp⟩
    wp_walk using A,A8y r b,bj c,aq,show a.length<16000000 from bB l (aH w (ao hm (by decide))),bw)
 obtain⟨c',e,j,a,x,y,rfl,p,b,o,l,f⟩:=i;rw[aQ,Oa]at p l f
 refine⟨a,j,b,o,l,f,p,?_⟩
 unfold Ip Td
 wp_walk using Mi,Bs9 hm,eZ,e
theorem A7l {n:Nat}{ds:w5}{vs:m8}{w:Nat}(hb:Bx n ds)(hn:n<2 ^ 38)(hw:w<=1000)(hv:VBs vs)(j:vs≠[])(hl:vs.length<=1000) :
 ∃
  a f t,a.length=w/\VBs a/\(∀u∈a,u∈vs)/\Bx (n+w) f /\
  Dk (cgN 0) Bj (cOp Ai (Aa 1) (cF Al (Ab (Aa 2) (Ab (J1 (Aa 1)) Ak)))) (Kr 0 w) [] [none,sT (vs.map Vl.d),sT ds]=.ok (a.map Vl.d) [t,sT (vs.map Vl.d),sT f]:=by
 have i:=Ou (g:=cgN 0) (ft:=Bj) (fe:=cOp Ai (Aa 1) (cF Al (Ab (Aa 2) (Ab (J1 (Aa 1)) Ak)))) (items:=Kr 0 w) (acc:=[]) (n:=0) (c:=[none,sT (vs.map Vl.d),sT ds])
  (P:=λk b c=>∃f t a,c=[t,sT (vs.map Vl.d),sT f]/\Bx (n+k) f/\b=a.map Vl.d/\a.length=k/\VBs a/\∀u∈a,u∈vs)
  ⟨ds,none,[],rfl,hb,rfl,rfl,(λv hv=>by cases hv),λv hv=>by cases hv⟩ (λk d b c B s=>by
   rw[aQ]at s ⊢;obtain⟨f,t,a,rfl,p,rfl,q,y,z⟩:=s;obtain⟨rfl,o⟩:=Qs B;have C:0<vs.length:=List.length_pos_iff.mpr j
   obtain⟨r,D,E,A,r1,G⟩:=Cj (m:=(vs.length:Int)) p (upN hn (ao (cR o) hw) (by decide)) (Int.natCast_pos.mpr C) (Int.ofNat_lt.mpr (bB hl (by decide)))
   obtain⟨x,F,H,_⟩:=Vz (l:=vs.map Vl.d) (r:=r) A (by simp_all)
   obtain⟨v,I,rfl⟩:=aB.mp H
   refine⟨some v.d,[sI (.int (0+k)),some _,some _],?_,D,_,a++[v],rfl,E,by simp,by grind,VBs.app y λu h=>by grind,λu h=>by
    grind⟩
   wp_walk using Ma,aq,G,Ai,F)
 obtain⟨b,cI,e,f,t,a,rfl,p,rfl,q,y,z⟩:=i;rw[Oa]at p q
 grind
theorem Yz {n:Nat}{ds:w5}{w m:Nat}(hb:Bx n ds)(hn:n<2 ^ 37)(hw:w<=100)(hm:m<=1000) :
 ∃(f:m7) (ds':w5),f.Nodup/\(∀t∈f,t.length=w/\VBs t)/\f.length<=m/\Bx (n+12+w*m) ds'/\Gm [.ls true ds,.im (.int w),.im (.int m)]=.ret (.ls false (f.map tD)) [.ls true ds',.im (.int w),.im (.int m)]:=by
 obtain⟨i,E,F,s,H,C,Q,D⟩:=Bu0 (m:=6) hb (gQ hn (by decide)) (by decide)
 have D:Ip [.ls true ds,.im (.int 6)]=.ret (.ls false (i.map Vl.d)) [.ls true E,.im (.int 6)]:=D
 have z:=Fo (g:=cgN 5) (body:=Bb (Bq (cUn Be (cLC [none,some 3,some 0] (Mz (Aa 1)) (cgN 0) Bj (cOp Ai (Aa 1) (cF Al (Ab (Aa 2) (Ab (J1 (Aa 1)) Ak)))))) (cgN 6)) (cIf (Bc (cOp (Ml true) (Aa 6) (Aa 4))) (Gd (S5 (Aa 4) (Aa 6))) Cq)) (items:=Kr 0 m) (n:=0)
  (c:=[sT E,sI (.int w),sI (.int m),sFa (i.map Vl.d),sFa [],none,none])
  (P:=λk c=>∃l f x y,c=[sT l,sI (.int w),sI (.int m),sFa (i.map Vl.d),sFa (f.map tD),x,y]/\Bx (n+12+w*k) l/\f.Nodup/\(∀t∈f,t.length=w/\VBs t)/\f.length<=k)
  ⟨E,[],none,none,rfl,Q,eU,(λv F=>by cases F),au _⟩ (λk d c N J=>by
   rw[aQ]at J ⊢;obtain⟨l,f,x,y,rfl,B,s,o,q⟩:=J;obtain⟨rfl,L⟩:=Qs N;have r:w*k<=100*1000:=fD hw (cR (aH L hm))
   obtain⟨j,p,t,R,G,_,S,O⟩:=A7l (w:=w) (vs:=i) B (upN (upN hn (au 12) (show 2 ^ 37+12<=2 ^ 37+100 by decide)) r (by decide)) (ao hw (by decide)) F (C (by decide)) (ao H (by decide))
   have K:cLC [none,some 3,some 0] (Mz (Aa 1)) (cgN 0) Bj (cOp Ai (Aa 1) (cF Al (Ab (Aa 2) (Ab (J1 (Aa 1)) Ak)))) [sT l,sI (.int w),sI (.int m),sFa (i.map Vl.d),sFa (f.map tD),sI (.int (0+(k:Int))),y]=.ok (.o (.ls false (j.map Vl.d))) [sT p,sI (.int w),sI (.int m),sFa (i.map Vl.d),sFa (f.map tD),sI (.int (0+(k:Int))),y] :=
    Dl (ds:=Kr 0 w) (c1:=[sT l,sI (.int w),sI (.int m),sFa (i.map Vl.d),sFa (f.map tD),sI (.int (0+(k:Int))),y]) (by wp_walk using Bs9 (m:=w) (ao hw (by decide)),eZ) (by rw[Oa];lia) O (by wp_walk using bM)
   have A:Bx (n+12+w*(k+1)) p:=S.mono (dO (d_ _ _ _));have M:PyData.tuple (j.map Vl.d)=tD j:=rfl
   by_cases c:j∈f
   ·refine⟨[sT p,sI (.int w),sI (.int m),sFa (i.map Vl.d),sFa (f.map tD),sI (.int (0+(k:Int))),sI (tD j)],.inl ?_,p,f,_,_,rfl,A,s,o,Nat.le_succ_of_le q⟩
    wp_walk using K,Be,M,Aw3 G (λu I=>(o u I).2),aO c
   ·refine⟨[sT p,sI (.int w),sI (.int m),sFa (i.map Vl.d),sFa ((f++[j]).map tD),sI (.int (0+(k:Int))),sI (tD j)],.inl ?_,p,f++[j],_,_,rfl,A,?_,λt h=>?_,by rw[aK,iI];exact iD q⟩
    ·wp_walk using K,Be,M,Aw3 G (λu I=>(o u I).2),bj c,aq,show f.length<16000000 from bB q (aH L (ao hm (by decide))),bw
    ·rw[fC]
     exact⟨s,by simp,λa T b hb e=>by rw[aN.mp hb]at e;exact c (e▸T)⟩
    ·rcases bJ.mp h with h | h
     ·exact o t h
     ·rw[aN.mp h];exact⟨R,G⟩)
 obtain⟨c',e,l,f,x,y,rfl,B,s,o,q⟩:=z;rw[aQ,Oa]at B q
 refine⟨f,l,s,o,q,B,?_⟩
 unfold Gm Nz
 wp_walk using D,Mi,Bs9 hm,eZ,e
structure Wd where
 key:v4
 names:v4
 vals:v4
 heads:m7
 rows:List (List Vl×List (Option (m8)))
noncomputable def nD (ns:v4):t6:=.tuple (ns.map PyData.str)
def By:Option (m8)->t6
 | none=>.none
 | some c=>tD c
def M5 (r:List Vl×List (Option (m8))):t6:=.tuple [tD r.1,.tuple (r.2.map By)]
def Wd.ps (w:Wd):w5:=[nD w.key,nD w.names,nD w.vals,.tuple (w.heads.map tD),.tuple (w.rows.map M5)]
def Wd.d (w:Wd):t6:=.tuple w.ps
def Wr (n:Nat)(c:Option (m8)):Prop:=∀vs,c=some vs->vs.length=n/\VBs vs
structure Rg (k h v:Nat) (r:List Vl×List (Option (m8))):Prop where
 plen:r.1.length=k
 part:VBs r.1
 clen:r.2.length=h
 cells:∀c∈r.2,Wr v c
structure Wd.Ok (w:Wd):Prop where
 nms:Names (w.key++w.names++w.vals)
 klen:w.key.length<=2
 nlen:w.names.length<=2
 vlen:w.vals.length<=5
 vpos:1<=w.vals.length
 heads:∀h∈w.heads,h.length=w.names.length/\VBs h
 hnd:w.heads.Nodup
 hlen:w.heads.length<=12
 rows:∀r∈w.rows,Rg w.key.length w.heads.length w.vals.length r
 rnd:(w.rows.map (·.1)).Nodup
 rlen:w.rows.length<=12
def Wd.Num (w:Wd):Prop:=∀r∈w.rows,∀c∈r.2,∀vs,c=some vs->∀v∈vs,∃i,v=Vl.int i
theorem B0y {b:Nat}:cutD ds none (some (b:Int))=ds.take b:=by
 unfold cutD;rw[HT.Bc5,HT.Ab6]
 grind
theorem A7a {ds:w5}{a b:Nat}(h:a<=b)(hb:b<=ds.length):cutD ds (some (a:Int)) (some (b:Int))=(ds.drop a).take (b-a):=by
 unfold cutD;rw[HT.Ab6,HT.Ab6,gw hb,gw (ao h hb)]
theorem Br6 {n:Nat}{ds:w5}{items:w5}{num:Bool}(hb:Bx n ds)(hn:n<2 ^ 38)(hl:items.length<=1000) :
 ∃
  a f t,a.length=items.length/\VBs a/\(num=true->∀u∈a,∃i,u=Vl.int i)/\Bx (n+2*items.length) f /\
  Dk (cgN 0) Bj (Nx (Bc (Aa 1)) (cF Cg (Ab (Aa 2) Ak)) (cF Bp (Ab (Aa 2) Ak))) items [] [none,sI (.bool num),sT ds]=.ok (a.map Vl.d) [t,sI (.bool num),sT f]:=by
 have p:=Ou (g:=cgN 0) (ft:=Bj) (fe:=Nx (Bc (Aa 1)) (cF Cg (Ab (Aa 2) Ak)) (cF Bp (Ab (Aa 2) Ak))) (items:=items) (acc:=[]) (n:=0) (c:=[none,sI (.bool num),sT ds])
  (P:=λk e c=>∃f t a,c=[t,sI (.bool num),sT f]/\k<=items.length/\Bx (n+2*k) f/\e=a.map Vl.d/\a.length=k/\VBs a/\(num=true->∀u∈a,∃i,u=Vl.int i))
  ⟨ds,none,[],rfl,aP _,hb,rfl,rfl,(λv o=>by cases o),λ_ v o=>by cases o⟩ (λk d e c hd s=>by
   rw[aQ]at s ⊢;obtain⟨f,t,a,rfl,x,q,rfl,r,w,hs⟩:=s
   have b:k<items.length:=by
    grind
   cases num with
   | true =>
    obtain⟨i,j,m,y,l⟩:=A6l q (upN hn (dG 2 (ao (cR b) hl)) (by decide))
    refine⟨some (.int i),[sI d,sI (.bool true),sT j],?_,j,_,a++[.int i],rfl,b,m,by simp[Vl.d],by simp[r],VBs.app w λu h=>by grind,λ_ u h=>by
     grind⟩
    wp_walk using l
   | false =>
    obtain⟨v,j,m,y,l⟩:=Ai0 q (upN hn (dG 2 (ao (cR b) hl)) (by decide))
    refine⟨some v.d,[sI d,some _,some _],?_,j,_,a++[v],rfl,b,m,by simp,by simp[r],VBs.app w λu h=>by grind,λz=>nomatch z⟩
    wp_walk using l)
 grind
def isL (o:O)(ds:w5):Prop:=o=.ls false ds\/o=.im (.list ds)
theorem Bp6 {n:Nat}{ds:w5}{num:Bool}{s2 s3 s4 s5 s6 s7 o8 o9 s11 s12:m5}{often:Int}{vals:w5}{heads:m7}(hb:Bx n ds)(hn:n<2 ^ 37)(L:0<often)(h1:often<1000)(hv:vals.length<=5)(E:heads.length<=12){x14 x15:m5}
 (Q:∃o,o8=some o/\isL o vals) :
 ∃
  (a:List (Option (m8))) (l:w5) (o8' j b:m5),a.length=heads.length/\(∀c∈a,Wr vals.length c)/\(num=true->∀c∈a,∀p,c=some p->∀v∈p,∃i,v=Vl.int i)/\Bx (n+11*heads.length) l/\(∃o,o8'=some o/\isL o vals) /\
  forL (cgN 14) (Bb (Bq (cUn Be (cLC [none,some 1,some 0] (Bg (Aa 8)) (cgN 0) Bj (Nx (Bc (Aa 1)) (cF Cg (Ab (Aa 2) Ak)) (cF Bp (Ab (Aa 2) Ak))))) (cgN 15))
   (Gd (S5 (Aa 13) (Nx (Bc (cOp (Ce false) (cF Al (Ab (Aa 0) (Ab (Aa 10) Ak))) (cC (.int 0)))) (cC (.none)) (Aa 15))))) (heads.map tD)
   [sT ds,sI (.bool num),s2,s3,s4,s5,s6,s7,o8,o9,sI (.int often),s11,s12,sFa [],x14,x15] =
  .nx [sT l,sI (.bool num),s2,s3,s4,s5,s6,s7,o8',o9,sI (.int often),s11,s12,sFa (a.map By),j,b]:=by
 have y:=Fo (g:=cgN 14) (body:=Bb (Bq (cUn Be (cLC [none,some 1,some 0] (Bg (Aa 8)) (cgN 0) Bj (Nx (Bc (Aa 1)) (cF Cg (Ab (Aa 2) Ak)) (cF Bp (Ab (Aa 2) Ak))))) (cgN 15))
  (Gd (S5 (Aa 13) (Nx (Bc (cOp (Ce false) (cF Al (Ab (Aa 0) (Ab (Aa 10) Ak))) (cC (.int 0)))) (cC (.none)) (Aa 15))))) (items:=heads.map tD) (n:=0)
  (c:=[sT ds,sI (.bool num),s2,s3,s4,s5,s6,s7,o8,o9,sI (.int often),s11,s12,sFa [],x14,x15])
  (P:=λk c=>∃l C j b a,c=[sT l,sI (.bool num),s2,s3,s4,s5,s6,s7,C,o9,sI (.int often),s11,s12,sFa (a.map By),j,b]/\k<=heads.length/\Bx (n+11*k) l/\(∃o,C=some o/\isL o vals) /\
   a.length=k/\(∀c∈a,Wr vals.length c)/\(num=true->∀c∈a,∀p,c=some p->∀v∈p,∃i,v=Vl.int i))
  ⟨ds,o8,_,_,[],rfl,aP _,hb,Q,rfl,(λc s=>by cases s),λ_ c s=>by cases s⟩ (λk d c K J=>by
   rw[aQ]at J ⊢;obtain⟨l,C,j,b,a,rfl,S,D,⟨o,rfl,F⟩,u,s,f⟩:=J
   have x:k<heads.length:=by
    rcases j6 k heads.length with q | q
    ·exact q
    ·rw[j7 (by rw[aq];exact q)]at K;cases K
   obtain⟨w,V,t,U,W,M,N,R⟩:=Br6 (items:=vals) (num:=num) D (upN hn (dG 11 (ao (cR x) E)) (by decide)) (ao hv (by decide))
   have G:cLC [none,some 1,some 0] (Bg (Aa 8)) (cgN 0) Bj (Nx (Bc (Aa 1)) (cF Cg (Ab (Aa 2) Ak)) (cF Bp (Ab (Aa 2) Ak)))
    [sT l,sI (.bool num),s2,s3,s4,s5,s6,s7,some o,o9,sI (.int often),s11,s12,sFa (a.map By),sI d,b] =
    .ok (.o (.ls false (w.map Vl.d))) [sT V,sI (.bool num),s2,s3,s4,s5,s6,s7,sI (.list vals),o9,sI (.int often),s11,s12,sFa (a.map By),sI d,b]:=by
    refine Dl (ds:=vals) (c1:=[sT l,sI (.bool num),s2,s3,s4,s5,s6,s7,sI (.list vals),o9,sI (.int often),s11,s12,sFa (a.map By),sI d,b]) ?_ (ao hv (by decide)) R (by wp_walk using bM)
    rcases F with rfl | rfl <;> wp_walk using Bg
   obtain⟨r,A,T,r0,r1,I⟩:=Cj (m:=often) N (upN (upN hn (dG 11 (ao (cR x) E)) (show 2 ^ 37+11*12<=2 ^ 38 by decide)) (dG 2 hv) (by decide)) L (Int.lt_trans h1 (by decide))
   have H:PyData.tuple (w.map Vl.d)=tD w:=rfl;have B:Bx (n+11*(k+1)) A:=T.mono (bZ (iD (dG 2 hv)) (n+11*k))
   by_cases c:r=0
   ·subst c
    refine⟨[sT A,sI (.bool num),s2,s3,s4,s5,s6,s7,sI (.list vals),o9,sI (.int often),s11,s12,sFa ((a++[none]).map By),sI d,sI (tD w)],.inl ?_,A,_,_,_,a++[none],rfl,x,B,⟨_,rfl,.inr rfl⟩,by simp[u],λc h=>?_,λz c h p e=>?_⟩
    ·wp_walk using G,Be,H,I,Ce,Cr,PyData.canLay0,PyData.depth,PyData.eqv,aP,cH,aq,show a.length<16000000 from u▸aH x (ao E (by decide)),bw,By
    ·rcases bJ.mp h with h | h
     ·exact s c h
     ·rw[aN.mp h];exact λp e=>nomatch e
    ·rcases bJ.mp h with h | h
     ·exact f z c h p e
     ·rw[aN.mp h]at e;cases e
   ·refine⟨[sT A,sI (.bool num),s2,s3,s4,s5,s6,s7,sI (.list vals),o9,sI (.int often),s11,s12,sFa ((a++[some w]).map By),sI d,sI (tD w)],.inl ?_,A,_,_,_,a++[some _],rfl,x,B,⟨_,rfl,.inr rfl⟩,by simp[u],λc h=>?_,λz c h p e=>?_⟩
    ·wp_walk using G,Be,H,I,Ce,Cr,PyData.canLay0,PyData.depth,PyData.eqv,aP,cV.mpr c,aq,show a.length<16000000 from u▸aH x (ao E (by decide)),bw,By
    ·rcases bJ.mp h with h | h
     ·exact s c h
     ·rw[aN.mp h];exact λp e=>by cases e;exact⟨U,W⟩
    ·rcases bJ.mp h with h | h
     ·exact f z c h _ e
     ·rw[aN.mp h]at e;cases e;exact M z)
 obtain⟨c',e,l,C,j,b,a,rfl,_,D,F,u,s,f⟩:=y;rw[aQ,aq]at D u;exact⟨a,l,C,j,b,u,s,f,D,F,e⟩
abbrev A8m:Ev->SR:=Bb (Bq (cUn Be (cLC [none,some 1,some 0] (Bg (Aa 8)) (cgN 0) Bj (Nx (Bc (Aa 1)) (cF Cg (Ab (Aa 2) Ak)) (cF Bp (Ab (Aa 2) Ak))))) (cgN 15))
 (Gd (S5 (Aa 13) (Nx (Bc (cOp (Ce false) (cF Al (Ab (Aa 0) (Ab (Aa 10) Ak))) (cC (.int 0)))) (cC (.none)) (Aa 15))))
abbrev V8:Ev->SR:=Bb (Bq (Er Ak) (cgN 13)) (Bb (Mi (Bg (Aa 9)) (cgN 14) A8m) (Gd (S5 (Aa 11) (Df (Ab (Aa 12) (Ab (cUn Be (Aa 13)) Ak))))))
theorem Bf9 {n:Nat}{ds:w5}{num:Bool}{s2 s3 s4 s5 s6 s7 o8 o9:m5}{often:Int}{vals:w5}{heads parts:m7}(hb:Bx n ds)(hn:n<2 ^ 36)(h0:0<often)(h1:often<1000)(hv:vals.length<=5)(hh:heads.length<=12)(hp:parts.length<=12)
 (h8:∃o,o8=some o/\isL o vals) (h9:∃o,o9=some o/\isL o (heads.map tD)) {x12 x13 x14 x15:m5} {kl:Nat} (hpk:∀t∈parts,t.length=kl/\VBs t) :
 ∃
  (rows:List (List Vl×List (Option (m8)))) (d1:w5) (p8 p9 y12 y13 y14 y15:m5),rows.map (·.1)=parts/\(∀r∈rows,Rg kl heads.length vals.length r)/\(num=true->∀r∈rows,∀c∈r.2,∀vs,c=some vs->∀v∈vs,∃i,v=Vl.int i)/\Bx (n+132*parts.length) d1/\(∃o,p8=some o/\isL o vals)/\(∃o,p9=some o/\isL o (heads.map tD)) /\
  forL (cgN 12) V8 (parts.map tD) [sT ds,sI (.bool num),s2,s3,s4,s5,s6,s7,o8,o9,sI (.int often),sFa [],x12,x13,x14,x15] =
  .nx [sT d1,sI (.bool num),s2,s3,s4,s5,s6,s7,p8,p9,sI (.int often),sFa (rows.map M5),y12,y13,y14,y15]:=by
 have loop:=Fo (g:=cgN 12) (body:=V8) (items:=parts.map tD) (n:=0) (c:=[sT ds,sI (.bool num),s2,s3,s4,s5,s6,s7,o8,o9,sI (.int often),sFa [],x12,x13,x14,x15])
  (P:=λk c=>∃d1 p8 p9 y12 y13 y14 y15 rows,c=[sT d1,sI (.bool num),s2,s3,s4,s5,s6,s7,p8,p9,sI (.int often),sFa (rows.map M5),y12,y13,y14,y15]/\k<=parts.length/\Bx (n+132*k) d1/\(∃o,p8=some o/\isL o vals)/\(∃o,p9=some o/\isL o (heads.map tD)) /\
   rows.map (·.1)=parts.take k/\(∀r∈rows,Rg kl heads.length vals.length r)/\(num=true->∀r∈rows,∀c∈r.2,∀vs,c=some vs->∀v∈vs,∃i,v=Vl.int i))
  ⟨ds,o8,o9,_,_,_,_,[],rfl,aP _,hb,h8,h9,rfl,(λr hr=>by cases hr),λ_ r hr=>by cases hr⟩ (λk d c hd hP=>by
   rw[aQ]at hP ⊢;obtain⟨d1,p8,p9,y12,y13,y14,y15,rows,rfl,hk0,b1,h8,⟨o,rfl,ho⟩,hr,hro,hnum⟩:=hP;obtain⟨t,ht,e⟩:=Ew hd;subst e;have hk:k<parts.length:=(bG.mp ht).1
   obtain⟨cells,d2,q8,z14,z15,cl,cc,cn,b2,g8,e2⟩:=Bp6 (num:=num) (s2:=s2) (s3:=s3) (s4:=s4) (s5:=s5) (s6:=s6) (s7:=s7) (o8:=p8) (o9:=sI (.list (heads.map tD))) (s11:=sFa (rows.map M5)) (s12:=sI (tD t)) (x14:=y14) (x15:=y15) (heads:=heads) b1 (by lia) h0 h1 hv hh h8
   have rl:rows.length=k:=by have:=bY List.length hr;rw[aq,di]at this;exact this.trans (gw hk0)
   refine⟨[sT d2,sI (.bool num),s2,s3,s4,s5,s6,s7,q8,sI (.list (heads.map tD)),sI (.int often),sFa ((rows++[(t,cells)]).map M5),sI (tD t),sFa (cells.map By),z14,z15],.inl ?_,d2,q8,_,_,_,_,_,rows++[(t,cells)],rfl,hk,b2.mono (by lia),g8,⟨_,rfl,.inr rfl⟩,?_,λr h=>?_,λz r h=>?_⟩
   ·have en:(rows.map M5).length<16000000:=by rw[aq,rl];exact aH hk (ao hp (by decide))
    rcases ho with rfl | rfl <;> wp_walk using V8,Mi,Bg,e2,Be,en,bw,M5
   ·rw[bw,hr,aG,gh,gf,ht];rfl
   ·rcases bJ.mp h with h | h
    ·exact hro r h
    ·rw[aN.mp h]
     have:=hpk t (bh ht);exact⟨this.1,this.2,cl,cc⟩
   ·rcases bJ.mp h with h | h
    ·exact hnum z r h
    ·rw[aN.mp h];exact cn z)
 obtain⟨c',e,d1,p8,p9,y12,y13,y14,y15,rows,rfl,_,b1,h8,h9,hr,hro,hnum⟩:=loop;rw[aQ,aq]at b1 hr;rw[du]at hr;exact⟨rows,d1,p8,p9,y12,y13,y14,y15,hr,hro,hnum,b1,h8,h9,e⟩
theorem K4 {ns:v4}{a:Nat}:(ns.map PyData.str).take a=(ns.take a).map PyData.str:=List.map_take.symm
theorem Rp {ns:v4}{a:Nat}:(ns.map PyData.str).drop a=(ns.drop a).map PyData.str:=List.map_drop.symm
theorem Names.sublist {a b:v4}(h:Names b)(s:a.Sublist b):Names a:=⟨h.nd.sublist s,λx c=>h.sub x (s.subset c)⟩
theorem A8f {o:O}{ds:w5}{i:Nat}{c:Ev}(h:isL o ds)(hc:c[i]?=some (some o)):cUn Be (Aa i) c=.ok (.o (.im (.tuple ds))) c:=by
 rcases h with rfl | rfl <;> wp_walk using hc,Be
theorem B7i {b d e f g:n7}{c:Ev}{h a j k i:t6}(h1:b c=.ok (.o (.im h)) c)(h2:d c=.ok (.o (.im a)) c)(m:e c=.ok (.o (.im j)) c)(n:f c=.ok (.o (.im k)) c)(l:g c=.ok (.o (.im i)) c) :
 Ci (Df (Ab b (Ab d (Ab e (Ab f (Ab g Ak)))))) c=.rt (.o (.im (.tuple [h,a,j,k,i]))) c:=by
 wp_walk using h1,h2,m,n,l
theorem Bo4 {n:Nat}{ds:w5}{num:Bool}(hb:Bx n ds)(hn:n<2 ^ 35) :
 ∃(W:Wd) (ds':w5),W.Ok/\(num=true->W.Num)/\Bx (n+3000) ds'/\Kz [.ls true ds,.im (.bool num)]=.ret (.im W.d) [.ls true ds',.im (.bool num)]:=by
 have u:∀k,k<=5000->n+k<2 ^ 40:=λk F=>aH (ir hn F) (by decide)
 have K:∀k,k<=5000->n+k<2 ^ 39:=λk F=>aH (ir hn F) (by decide)
 have J:∀k,k<=5000->n+k<2 ^ 37:=λk F=>aH (ir hn F) (by decide)
 have V:∀k,k<=5000->n+k<2 ^ 36:=λk F=>aH (ir hn F) (by decide)
 obtain⟨o,d1,L,nms,b1,X⟩:=A9k (m:=9) hb (gQ hn (by decide)) (by decide)
 have X:G4 [.ls true ds,.im (.int 9)]=.ret (.ls false (o.map PyData.str)) [.ls true d1,.im (.int 9)]:=X
 obtain⟨a,d2,b2,a0,a1,e2⟩:=Cj (m:=3) b1 (u 9 (by decide)) (by decide) (by decide)
 obtain⟨b,d3,b3,bb0,T,e3⟩:=Cj (m:=3) b2 (u 10 (by decide)) (by decide) (by decide)
 obtain⟨c,d4,b4,c0,c1,e4⟩:=Cj (m:=2) b3 (u 11 (by decide)) (by decide) (by decide)
 obtain⟨q,d5,b5,q0,q1,e5⟩:=Cj (m:=8) b4 (u 12 (by decide)) (by decide) (by decide)
 obtain⟨a,rfl⟩:=ig a0;obtain⟨b,rfl⟩:=ig bb0;have G:a<=2:=jb.mp (Int.le_of_lt_add_one a1);have y:b<=2:=jb.mp (Int.le_of_lt_add_one T)
 have hc:∃(v:Nat) (E:w5),1<=v/\v<=5/\Bx (n+14) E /\
  cIf (Bc (cOp (Ce false) (cF Al (Ab (Aa 0) (Ab (cC (.int 8)) Ak))) (cC (.int 0)))) (Bq (cOp Aw (cC (.int 3)) (cF Al (Ab (Aa 0) (Ab (cC (.int 3)) Ak)))) (cgN 5)) Cq
   [sT d4,sI (.bool num),sFa (o.map PyData.str),sI (.int a),sI (.int b),sI (.int (1+c)),none,none,none,none,none,none,none,none,none,none] =
  .nx [sT E,sI (.bool num),sFa (o.map PyData.str),sI (.int a),sI (.int b),sI (.int (v:Int)),none,none,none,none,none,none,none,none,none,none]:=by
  by_cases z:q=0
  ·subst z
   obtain⟨k,E,Z,k0,k1,e6⟩:=Cj (m:=3) b5 (u 13 (by decide)) (by decide) (by decide)
   refine⟨(3+k).toNat,E,by lia,by lia,Z.mono (au _),?_⟩
   wp_walk using e5,e6,Ce,Cr,PyData.canLay0,PyData.depth,PyData.eqv,aP,cH,Aw,Int.toNat_of_nonneg (show 0<=3+k by lia)
  ·refine⟨(1+c).toNat,d5,by lia,by lia,b5.mono (dN _),?_⟩
   wp_walk using e5,Ce,Cr,PyData.canLay0,PyData.depth,PyData.eqv,aP,cV.mpr z,Int.toNat_of_nonneg (show 0<=1+c by lia)
 obtain⟨v,E,v1,v5,Z,e6⟩:=hc
 obtain⟨S,d7,b7,m10,m11,e7⟩:=A1q (l:=0) (f:=5) (m:=12) Z (K 14 (by decide)) (by decide) (by decide) (by decide) (by decide) (by decide) (by decide)
 obtain⟨S,rfl⟩:=ig m10;have D:S<=12:=jb.mp m11
 obtain⟨d,d8,hnd,hh,hl,b8,e8⟩:=Yz (w:=b) (m:=S) b7 (J 16 (by decide)) (ao y (by decide)) (ao D (by decide))
 obtain⟨f,d9,b9,f0,f1,e9⟩:=Cj (m:=3) (b8.mono (m:=n+52) (bZ (show b*S<=24 from fD y D) (n+28))) (u 52 (by decide)) (by decide) (by decide)
 obtain⟨fo,hfo,M,_⟩:=Vz (l:=[PyData.int 9,.int 2,.int 3]) (r:=f) f0 f1
 have hof:∃i:Int,fo=.int i/\0<i/\i<1000:=by
  simp only[aD,aY,a_]at M
  rcases M with rfl | rfl | rfl <;> exact⟨_,rfl,by decide,by decide⟩
 obtain⟨i,rfl,U,of1⟩:=hof
 obtain⟨R,d10,b10,m20,m21,Y⟩:=A1q (l:=0) (f:=5) (m:=12) b9 (K 53 (by decide)) (by decide) (by decide) (by decide) (by decide) (by decide) (by decide)
 obtain⟨R,rfl⟩:=ig m20;have B:R<=12:=jb.mp m21
 obtain⟨s,d11,pnd,hp,pl,b11,e11⟩:=Yz (w:=a) (m:=R) b10 (J 55 (by decide)) (ao G (by decide)) (ao B (by decide))
 have x:s.length<=12:=ao pl B;have A:d.length<=12:=ao hl D;have I:a+b<=4:=Nat.add_le_add G y;have O:a+b+v<=9:=Nat.add_le_add I v5
 let j:=o.take a
 let g:=(o.drop a).take b
 let e:=(o.drop (a+b)).take v
 have kl:j.length=a:=by show (o.take a).length=a;rw[di,L];exact gw (ao G (by decide))
 have ol:g.length=b:=by show ((o.drop a).take b).length=b;rw[di,iC,L];exact gw (Nat.le_sub_of_add_le (ao (Nat.add_le_add y G) (by decide)))
 have vl:e.length=v:=by show ((o.drop (a+b)).take v).length=v;rw[di,iC,L];exact gw (Nat.le_sub_of_add_le (Nat.add_comm v (a+b)▸O))
 have C:j++g++e=o.take (a+b+v):=by
  show o.take a++(o.drop a).take b++(o.drop (a+b)).take v=_
  rw[<- List.take_add,<- List.take_add]
 have c1:cutD (o.map PyData.str) none (some (a:Int))=j.map PyData.str:=by rw[B0y,K4]
 have c2:cutD (o.map PyData.str) (some (a:Int)) (some ((a:Int)+(b:Int)))=g.map PyData.str:=by
  rw[<- Int.natCast_add,A7a (cQ _ _) (by rw[aq,L];exact ao I (by decide)),Rp,K4,Nat.add_sub_cancel_left]
 have c3:cutD (o.map PyData.str) (some ((a:Int)+(b:Int))) (some ((a:Int)+(b:Int)+(v:Int)))=e.map PyData.str:=by
  rw[<- Int.natCast_add,<- Int.natCast_add,A7a (cQ _ _) (by rw[aq,L];exact O),Rp,K4,Nat.add_sub_cancel_left]
 obtain⟨t,N,p8,p9,y12,y13,y14,y15,hr,hro,P,b12,⟨o8,rfl,g8⟩,⟨o9,rfl,g9⟩,e12⟩:=Bf9 (num:=num) (s2:=sFa (o.map PyData.str)) (s3:=sI (.int a)) (s4:=sI (.int b)) (s5:=sI (.int v)) (s6:=sI (.list (j.map PyData.str))) (s7:=sI (.list (g.map PyData.str))) (o8:=sFa (e.map PyData.str)) (o9:=sFa (d.map tD)) (often:=i) (vals:=e.map PyData.str) (heads:=d) (parts:=s) (b11.mono (m:=n+91) (bZ (show a*R<=24 from fD G B) (n+67))) (V 91 (by decide)) U of1 (by rw[aq,vl];exact v5) A x ⟨_,rfl,.inl rfl⟩ ⟨_,rfl,.inl rfl⟩ (x12:=none) (x13:=none) (x14:=none) (x15:=none) (kl:=a) hp
 have Q:Names (j++g++e):=by rw[C];exact nms.sublist (jf _ _)
 refine⟨⟨j,g,e,d,t⟩,N,⟨Q,by rw[kl];exact G,by rw[ol];exact y,by rw[vl];exact v5,by rw[vl];exact v1,λh H=>⟨by rw[ol];exact(hh h H).1,(hh h H).2⟩,hnd,A,λr h=>?_,by show (t.map (·.1)).Nodup;rw[hr];exact pnd,?_⟩,P,b12.mono (ao (bZ (dG 132 x) (n+91)) (bZ (show 91+132*12<=3000 by decide) n)),?_⟩
 ·have:=hro r h
  rw[aq]at this
  show Rg j.length d.length e.length r
  rw[kl];exact this
 ·show t.length<=12
  have:=bY List.length hr;rw[aq]at this;exact ao (dO this) x
 refine Oe (p:=.o (.im (Wd.d ⟨j,g,e,d,t⟩))) (c:=[sT N,sI (.bool num),sFa (o.map PyData.str),sI (.int a),sI (.int b),sI (.int v),sI (.list (j.map PyData.str)),sI (.list (g.map PyData.str)),some o8,some o9,sI (.int i),sFa (t.map M5),y12,y13,y14,y15]) ?_ rfl (by wp_walk using bM)
 show Oo [sT ds,sI (.bool num),none,none,none,none,none,none,none,none,none,none,none,none,none,none]=_
 unfold Oo
 refine (Br (c':=[sT d1,sI (.bool num),sFa (o.map PyData.str),none,none,none,none,none,none,none,none,none,none,none,none,none]) (by wp_walk using X)).trans ?_
 refine (Br (c':=[sT d4,sI (.bool num),sFa (o.map PyData.str),sI (.int a),sI (.int b),sI (.int (1+c)),none,none,none,none,none,none,none,none,none,none]) (by wp_walk using e2,e3,e4,Aw)).trans ?_
 refine (Br e6).trans ?_
 refine (Br (c':=[sT E,sI (.bool num),sFa (o.map PyData.str),sI (.int a),sI (.int b),sI (.int v),sI (.list (j.map PyData.str)),sI (.list (g.map PyData.str)),none,none,none,none,none,none,none,none]) (by wp_walk using Yv,Aw,c1,c2)).trans ?_
 refine (Br (c':=[sT E,sI (.bool num),sFa (o.map PyData.str),sI (.int a),sI (.int b),sI (.int v),sI (.list (j.map PyData.str)),sI (.list (g.map PyData.str)),sFa (e.map PyData.str),none,none,none,none,none,none,none]) (by wp_walk using Yv,Aw,c3)).trans ?_
 refine (Br (c':=[sT d8,sI (.bool num),sFa (o.map PyData.str),sI (.int a),sI (.int b),sI (.int v),sI (.list (j.map PyData.str)),sI (.list (g.map PyData.str)),sFa (e.map PyData.str),sFa (d.map tD),none,none,none,none,none,none]) (by wp_walk using e7,e8)).trans ?_
 refine (Br (c':=[sT d9,sI (.bool num),sFa (o.map PyData.str),sI (.int a),sI (.int b),sI (.int v),sI (.list (j.map PyData.str)),sI (.list (g.map PyData.str)),sFa (e.map PyData.str),sFa (d.map tD),sI (.int i),none,none,none,none,none]) (by wp_walk using e9,Ai,hfo)).trans ?_
 refine (Br (c':=[sT d9,sI (.bool num),sFa (o.map PyData.str),sI (.int a),sI (.int b),sI (.int v),sI (.list (j.map PyData.str)),sI (.list (g.map PyData.str)),sFa (e.map PyData.str),sFa (d.map tD),sI (.int i),sFa [],none,none,none,none]) (by wp_walk using bM)).trans ?_
 refine (Br ((Oh (ds:=s.map tD) (c1:=[sT d11,sI (.bool num),sFa (o.map PyData.str),sI (.int a),sI (.int b),sI (.int v),sI (.list (j.map PyData.str)),sI (.list (g.map PyData.str)),sFa (e.map PyData.str),sFa (d.map tD),sI (.int i),sFa [],none,none,none,none]) (by wp_walk using Bg,Y,e11)).trans e12)).trans ?_
 exact B7i (A8f (.inr rfl) rfl) (A8f (.inr rfl) rfl) (A8f g8 rfl) (A8f g9 rfl) (A8f (.inl rfl) rfl)
theorem Bq6 (i:Int):PyData.eqv (.int i) (.int i)=true:=by show (i==i)=true;simp
theorem Al8 : (List.replicate n true).all id=true:=by simp
theorem My:∀n:Nat,boolsOf (List.replicate n (PyData.bool true))=some (List.replicate n true)
 | 0=>rfl
 | n+1=>by rw[dM,dM];show (boolsOf (List.replicate n (PyData.bool true))).map (true::·)=_;rw[My n];rfl
theorem Jc (ha:Cr a=true) (hb:Cr b=true):Ce neg a b=sI (.bool (if neg then !PyData.eqv a b else PyData.eqv a b)):=by unfold Ce;grind
theorem Bo3 (h:x∈Gw ds ds):∃d∈ds,x=.tuple [d,d]:=by
 obtain⟨⟨a,b⟩,f,c⟩:=aB.mp h;obtain⟨i,g,e⟩:=List.getElem_of_mem f
 grind
theorem A1v {d:t6}:∀{ds:w5},d∈ds->d.depth<=PyData.depthAll ds
 | a::r,h=>by
  show d.depth<=max a.depth (PyData.depthAll r)
  rcases aD.mp h with rfl | h
  ·exact Nat.le_max_left _ _
  ·exact ao (A1v h) (Nat.le_max_right _ _)
theorem A0n {d:t6}:∀{ds:w5},d∈ds->PyData.canLayAll0 ds=true->d.canLay0=true
 | a::r,h,l=>by
  obtain⟨l1,l2⟩:=aA.mp (show (a.canLay0&&PyData.canLayAll0 r)=true from l)
  rcases aD.mp h with rfl | h
  ·exact l1
  ·exact A0n h l2
def Short:Nat->t6->Prop
 | 0,_=>True
 | _+1,.list _=>False
 | n+1,.tuple ds=>ds.length<=16000000/\∀d∈ds,Short n d
 | _+1,_=>True
theorem A8e:∀ds:w5,2*ds.length<=Jv ds
 | []=>au _
 | d::r=>by have:=A8e r;show 2*(r.length+1)<=wt d+2+Jv r;lia
theorem A8n {d:t6}:∀{ds:w5},d∈ds->wt d<=Jv ds
 | a::r,h=>by
  show wt d<=wt a+2+Jv r
  rcases aD.mp h with rfl | h
  ·exact ao (cQ _ 2) (cQ _ _)
  ·exact ao (A8n h) (Nat.le_add_left _ _)
theorem Ad0:∀vs:m8,Tz (vs.map Vl.d)=true
 | []=>rfl
 | v::vs=>by
  show (noL v.d&&Tz (vs.map Vl.d))=true
  rw[Ad0 vs]
  cases v <;> rfl
theorem Al2:∀a:v4,Tz (a.map PyData.str)=true
 | []=>rfl
 | x::a=>by show (true&&Tz (a.map PyData.str))=true;rw[Al2 a];rfl
theorem Ad9 (h:∀d∈ds,noL d=true):Tz ds=true:=by
 induction ds with
 | nil=>rfl
 | cons d r a=>show (noL d&&Tz r)=true;grind
theorem A1i {d:t6}:∀{ds:w5},d∈ds->Tz ds=true->noL d=true
 | a::r,h,l=>by
  obtain⟨l1,l2⟩:=aA.mp (show (noL a&&Tz r)=true from l)
  rcases aD.mp h with rfl | h
  ·exact l1
  ·exact A1i h l2
theorem Qo (n:Nat):∀(d:t6),wt d<=16000000->noL d=true->Short n d:=by
 induction n with
 | zero=>intro d _ _;trivial
 | succ n c =>
  intro d h b
  cases d with
  | tuple e =>
   have h := ao (cQ _ 4) h
   exact⟨ao (ao (Nat.le_mul_of_pos_left _ (by decide)) (A8e _)) h,λd a=>c d (ao (A8n a) h) (A1i a b)⟩
  | list e=>cases b
  | _=>trivial
theorem Ac0:∀(n:Nat) (d:t6),d.depth<n->n<=40->d.canLay0=true->Short n d->Bt n [.im d,.im d]=.ret (.im (.bool true)) [.im d,.im d]
 | 0,d,h,_,_,_=>absurd h (Nat.not_lt_zero _)
 | n+1,d,h,hn,hl,hs=>by
  have fb:∀b:Bool,Cr (.bool b)=true:=λb=>rfl
  have fl:Cr d=true:=by unfold Cr;rw[hl,aO (show d.depth<=40 from ao (Nat.le_of_lt_succ h) (eX hn))];rfl
  have fi:∀k:Nat,Cr (.int (k:Int))=true:=λk=>rfl
  have loop:∀ds:w5,(∀e∈ds,Bt n [.im e,.im e]=.ret (.im (.bool true)) [.im e,.im e])->∃c',Dk (cgT 2 (Av (cgN 0) (Av (cgN 1) Ck))) Bj (cF (Bt n) (Ab (Aa 0) (Ab (Aa 1) Ak))) (Gw ds ds) [] [none,none]=.ok ((Gw ds ds).map λ_=>.bool true) c'/\∃a b,c'=[a,b]:=λds hds=>by
   have:=Y7 (g:=cgT 2 (Av (cgN 0) (Av (cgN 1) Ck))) (ft:=Bj) (fe:=cF (Bt n) (Ab (Aa 0) (Ab (Aa 1) Ak))) (I:=λc=>∃a b,c=[a,b]) (F:=λ_=>.bool true) (items:=Gw ds ds) (acc:=[]) (c:=[none,none]) ⟨none,none,rfl⟩ (λx c hx ⟨a,b,hc⟩=>by
    subst hc;obtain⟨e,he,rfl⟩:=Bo3 hx
    refine⟨[sI e,sI e],?_,_,_,rfl⟩
    wp_walk using hds e he)
   simpa using this
  have fin:∀ds:w5,(Gw ds ds).map (λ_=>PyData.bool true)=List.replicate ds.length (.bool true):=λds=>by
   rw[List.map_const'];unfold Gw;rw[aq,dY,fB]
  show Dt 2 2 (Gh (Bt n)) _=_
  cases d with
  | none=>wp_walk using Gh,Pn,Hs,Uq,Ig,Jc fl fl,Jc (fb _) (fb _),PyData.eqv,cH
  | bool b=>wp_walk using Gh,Pn,Hs,Uq,Ig,Jc fl fl,Jc (fb _) (fb _),PyData.eqv,cH
  | int i=>wp_walk using Gh,Pn,Hs,Uq,Ig,Jc fl fl,Jc (fb _) (fb _),PyData.eqv,cH
  | str x=>wp_walk using Gh,Pn,Hs,Uq,Ig,Jc fl fl,Jc (fb _) (fb _),PyData.eqv,cH
  | dict k=>cases hl
  | list ds=>exact hs.elim
  | tuple ds =>
   have hd:∀e∈ds,Bt n [.im e,.im e]=.ret (.im (.bool true)) [.im e,.im e]:=λe he=>Ac0 n e (bB (A1v he) (Nat.lt_of_succ_lt_succ h)) (eX hn) (A0n he hl) (hs.2 e he)
   obtain⟨c',e1,a,b,rfl⟩:=loop ds hd;rw[fin]at e1
   have e2:cLC [none,none] (Uu (Aa 0) (Aa 1)) (cgT 2 (Av (cgN 0) (Av (cgN 1) Ck))) Bj (cF (Bt n) (Ab (Aa 0) (Ab (Aa 1) Ak))) [sI (.tuple ds),sI (.tuple ds)]=.ok (.o (.ls false (List.replicate ds.length (.bool true)))) [sI (.tuple ds),sI (.tuple ds)] :=
    Dl (ds:=Gw ds ds) (c1:=[sI (.tuple ds),sI (.tuple ds)]) (by wp_walk using Uu,Ke) (by unfold Gw;rw[aq,dY,fB];exact hs.1) e1 rfl
   wp_walk using Gh,Pn,Hs,Uq,Jc (fb _) (fb _),Ma,Jc (fi _) (fi _),PyData.eqv,cH,e2,Aj3,My,Al8
theorem A5s {n:Nat}{d:t6}{k w:Nat}(h:Good d k w)(hk:k<n)(hn:n<=40)(hw:w<=16000000)(hl:noL d=true):Bt n [.im d,.im d]=.ret (.im (.bool true)) [.im d,.im d] :=
 Ac0 n d (bB h.dep hk) hn h.lay (Qo n d (ao h.wgt hw) hl)
theorem T6 {x:Str}(h:x∈names12):Good (.str x) 0 1921:=by
 have:VB (.str x):=by
  simp only[names12,aD,aY,a_]at h
  rcases h with rfl | rfl | rfl | rfl | rfl | rfl | rfl | rfl | rfl | rfl | rfl | rfl <;> decide
 exact O2 this
theorem Oq {ns:v4}{k:Nat}(h:∀x∈ns,x∈names12)(hk:ns.length<=k):Good (nD ns) 1 (1923*k+4) :=
 Good.tup (λd a=>by obtain⟨v,b,rfl⟩:=aB.mp a;exact T6 (h v b)) (by simp_all)
theorem Xh {c:Option (m8)}{v:Nat}(h:Wr v c)(hv:v<=5):Good (By c) 1 9619:=by
 cases c with
 | none=>exact⟨rfl,rfl,rfl,aP _,by decide⟩
 | some a=>exact(Hk (h _ rfl).2 (show a.length<=5 by rw[(h _ rfl).1];grind)).mono (au _) (by decide)
theorem A5j {k n v:Nat}{r:List Vl×List (Option (m8))}(h:Rg k n v r)(hk:k<=2)(hn:n<=12)(hv:v<=5):Good (M5 r) 3 250000:=by
 have a:Good _ 2 115460:=(Hk h.part (by rw[h.plen];omega)).mono (by decide) (by decide)
 have b:Good _ 2 115460:=(Good.tup (λd e=>by obtain⟨c,f,rfl⟩:=aB.mp e;exact Xh (h.cells c f) hv) (by rw[aq,h.clen];omega)).mono (by decide) (by decide)
 have t:=Good.tup (ds:=[tD r.1,.tuple (r.2.map By)]) (n:=2) (w:=115460) (k:=2) λd e=>by
  grind (au _)
 exact t.mono (by decide) (by decide)
theorem Wd.good5 {w:Wd}(h:w.Ok):Good w.d 5 15500014:=by
 have f := λx a=>h.nms.sub x (bf _ (bf _ a))
 have g := λx a=>h.nms.sub x (bf _ (aR _ a))
 have a1:=(Oq f h.klen).mono (show 1<=4 by decide) (show 1923*2+4<=3100000 by decide)
 have a2:=(Oq g h.nlen).mono (show 1<=4 by decide) (show 1923*2+4<=3100000 by decide)
 have a3:=(Oq (λx a=>h.nms.sub x (aR _ a)) h.vlen).mono (show 1<=4 by decide) (show 1923*5+4<=3100000 by decide)
 have a4:Good _ 4 3100000:=(Good.tup (λd b=>by obtain⟨c,e,rfl⟩:=aB.mp b;exact Hk (h.heads c e).2 (by rw[(h.heads c e).1];exact h.nlen)) (by simpa using h.hlen)).mono (by decide) (by decide)
 have a5:Good _ 4 3100000:=(Good.tup (λd b=>by obtain⟨c,e,rfl⟩:=aB.mp b;exact A5j (h.rows c e) h.klen h.hlen h.vlen) (by simpa using h.rlen)).mono (by decide) (by decide)
 have t:=Good.tup (ds:=w.ps) (n:=4) (w:=3100000) (λd b=>by
  simp only[Wd.ps,aY]at b
  grind) (au _)
 assumption
theorem Wd.good {w:Wd}(h:w.Ok):Good w.d 5 16000000:=(Wd.good5 h).mono (by decide) (by decide)
noncomputable def Dw (heads:m7) (r:List Vl×List (Option (m8))):List (List Vl×List Vl×Option (m8)):=(heads.zip r.2).map λq=>(r.1,q.1,q.2)
def Wd.along (w:Wd):List (List Vl×List Vl×Option (m8)):=w.rows.flatMap (Dw w.heads)
def Ny (t:List Vl×List Vl×Option (m8)):t6:=.tuple [tD t.1,tD t.2.1,By t.2.2]
theorem Mp {α β:Type}(f:α->t6)(g:β->t6):∀(as:List α) (bs:List β),Gw (as.map f) (bs.map g)=(as.zip bs).map λq=>.tuple [f q.1,g q.2]
 | [],bs=>by simp[Gw]
 | a::as,[]=>by simp[Gw]
 | a::as,b::bs=>by
  have:=Mp f g as bs;unfold Gw at this ⊢;rw[aG,aG,cX,aG,this,cX,aG]
theorem Qf (heads:m7)(r:List Vl×List (Option (m8))):(Dw heads r).length<=heads.length:=by
 unfold Dw;grind
theorem Sw (heads:m7):∀rows:List (List Vl×List (Option (m8))),(rows.flatMap (Dw heads)).length<=heads.length*rows.length
 | []=>by simp
 | r::rs=>by
  have:=Sw heads rs;have:=Qf heads r;rw[List.flatMap_cons,aK,bW,Nat.mul_succ];lia
theorem Vg {w:Wd}(h1:w.heads.length<=1000)(h2:w.rows.length<=1000):Ey [.im w.d]=.ret (.ls false (w.along.map Ny)) [.im w.d]:=by
 have f:=Fo (g:=cgT 2 (Av (cgN 2) (Av (cgN 3) Ck))) (body:=Gd (A4h (Aa 1) (cLC [none,none,some 2] (Uu (cOp Ai (Aa 0) (cC (.int 3))) (Aa 3)) (cgT 2 (Av (cgN 0) (Av (cgN 1) Ck))) Bj (Df (Ab (Aa 2) (Ab (Aa 0) (Ab (Aa 1) Ak))))))) (items:=w.rows.map M5) (n:=0)
  (c:=[sI w.d,sFa [],none,none])
  (P:=λk c=>∃x y,c=[sI w.d,sFa (((w.rows.take k).flatMap (Dw w.heads)).map Ny),x,y])
  ⟨none,none,rfl⟩ (λk d c t i=>by
   rw[aQ]at i ⊢;obtain⟨x,y,rfl⟩:=i;obtain⟨r,m,rfl⟩:=Ew t;have hk:k<w.rows.length:=(bG.mp m).1
   obtain⟨s,l,a,b,rfl⟩:=Y7 (g:=cgT 2 (Av (cgN 0) (Av (cgN 1) Ck))) (ft:=Bj) (fe:=Df (Ab (Aa 2) (Ab (Aa 0) (Ab (Aa 1) Ak)))) (I:=λc=>∃a b,c=[a,b,sI (tD r.1)]) (F:=λd=>match d with
    | .tuple [x,y]=>.tuple [tD r.1,x,y]
    | d=>d) (items:=Gw (w.heads.map tD) (r.2.map By)) (acc:=[]) (c:=[none,none,sI (tD r.1)]) ⟨none,none,rfl⟩ (λx c j ⟨a,b,o⟩=>by
    subst o;rw[Mp]at j;obtain⟨q,hq,rfl⟩:=aB.mp j
    refine⟨[sI (tD q.1),sI (By q.2),sI (tD r.1)],?_,_,_,rfl⟩
    wp_walk using bM)
   have u:(Gw (w.heads.map tD) (r.2.map By)).map (λd=>match d with
    | .tuple [x,y]=>.tuple [tD r.1,x,y]
    | d=>d)=(Dw w.heads r).map Ny:=by
    rw[Mp,cP];unfold Dw;rw[cP]
    rfl
   rw[dH,u]at l
   have z:cLC [none,none,some 2] (Uu (cOp Ai (Aa 0) (cC (.int 3))) (Aa 3)) (cgT 2 (Av (cgN 0) (Av (cgN 1) Ck))) Bj (Df (Ab (Aa 2) (Ab (Aa 0) (Ab (Aa 1) Ak)))) [sI w.d,sFa (((w.rows.take k).flatMap (Dw w.heads)).map Ny),sI (tD r.1),sI (.tuple (r.2.map By))] =
    .ok (.o (.ls false ((Dw w.heads r).map Ny))) [sI w.d,sFa (((w.rows.take k).flatMap (Dw w.heads)).map Ny),sI (tD r.1),sI (.tuple (r.2.map By))] :=
    Dl (ds:=Gw (w.heads.map tD) (r.2.map By)) (c1:=[sI w.d,sFa (((w.rows.take k).flatMap (Dw w.heads)).map Ny),sI (tD r.1),sI (.tuple (r.2.map By))]) (by wp_walk using Uu,Ai,Wd.d,Wd.ps,Ke) (by unfold Gw;rw[aq,dY,aq];lia) l (by wp_walk using bM)
   refine⟨[sI w.d,sFa (((w.rows.take (k+1)).flatMap (Dw w.heads)).map Ny),sI (tD r.1),sI (.tuple (r.2.map By))],.inl ?_,_,_,rfl⟩
   have v:(w.rows.take (k+1)).flatMap (Dw w.heads)=(w.rows.take k).flatMap (Dw w.heads)++Dw w.heads r:=by
    rw[gf,m];simp
   have h:(((w.rows.take k).flatMap (Dw w.heads)).map Ny).length+((Dw w.heads r).map Ny).length<=16000000:=by
    rw[aq,aq];have a:=Sw w.heads (w.rows.take k);have b:=Qf w.heads r
    have:w.heads.length*(w.rows.take k).length<=1000*1000:=fD h1 (by rw[di];lia)
    lia
   wp_walk using M5,z,h,v,bw)
 obtain⟨s,e,x,y,rfl⟩:=f;rw[aQ,aq,du]at e
 refine Oe (p:=.sl 1) (c:=[sI w.d,sFa (w.along.map Ny),x,y]) ?_ rfl (by wp_walk using bM)
 refine (Br ((Oh (by wp_walk using Bg,Ai,Wd.d,Wd.ps)).trans e)).trans ?_
 wp_walk using Wd.along
theorem Bj0 {neg:Bool}:Ig neg .none .none=sI (.bool (!neg)):=rfl
theorem B5b {neg:Bool}{vs:m8}:Ig neg (tD vs) .none=sI (.bool neg):=rfl
noncomputable def Am8 (t:List Vl×List Vl×Option (m8)):Option (m8):=t.2.2.map λc=>t.1++t.2.1++c
def Wd.out (w:Wd):m7:=w.along.filterMap Am8
def Wd.outD (w:Wd):t6:=.tuple [nD (w.key++w.names++w.vals),.tuple (w.out.map tD)]
structure Wd.Gk (w:Wd):Prop where
 nms:Names (w.key++w.names++w.vals)
 klen:w.key.length<=4
 nlen:w.names.length<=4
 kn:w.key.length+w.names.length<=4
 vlen:w.vals.length<=5
 vpos:1<=w.vals.length
 heads:∀h∈w.heads,h.length=w.names.length/\VBs h
 hnd:w.heads.Nodup
 hlen:w.heads.length<=144
 rows:∀r∈w.rows,Rg w.key.length w.heads.length w.vals.length r
 rnd:(w.rows.map (·.1)).Nodup
 rlen:w.rows.length<=144
 few:w.heads.length*w.rows.length<=144
 good:Good w.d 5 16000000
theorem Wd.Ok.gk {w:Wd}(h:w.Ok):w.Gk:=⟨h.nms,ao h.klen (by decide),ao h.nlen (by decide),by have:=h.klen;have:=h.nlen;lia,h.vlen,h.vpos,h.heads,h.hnd,ao h.hlen (by decide),h.rows,h.rnd,ao h.rlen (by decide),fD h.hlen h.rlen,Wd.good h⟩
theorem A3y {w:Wd}{t:List Vl×List Vl×Option (m8)}(h:t∈w.along):∃r∈w.rows,t.1=r.1/\t.2.1∈w.heads/\t.2.2∈r.2:=by
 obtain⟨r,d,b⟩:=List.mem_flatMap.mp h;obtain⟨q,c,a⟩:=aB.mp b;have:=iB c
 grind
theorem Vb {w:Wd}(h:w.Gk){t:List Vl×List Vl×Option (m8)}(ht:t∈w.along):VBs t.1/\t.1.length=w.key.length/\VBs t.2.1/\t.2.1.length=w.names.length/\Wr w.vals.length t.2.2:=by
 obtain⟨r,c,e,b,d⟩:=A3y ht;have a:=h.rows r c;rw[e];exact⟨a.part,a.plen,(h.heads _ b).2,(h.heads _ b).1,a.cells _ d⟩
theorem Ae9 {w:Wd}(h:w.Gk):∀o∈w.out,VBs o/\o.length=w.key.length+w.names.length+w.vals.length:=by
 intro o b;obtain⟨t,f,e⟩:=eO.mp b;obtain⟨i,k,m,j,d⟩:=Vb h f;obtain⟨c,g,a⟩:=aV.mp e;obtain⟨l,v⟩:=d c g
 grind
theorem Uj {w:Wd}(h:w.Gk):w.along.length<=144:=by
 have:=Sw w.heads w.rows;have:=h.few
 show (w.rows.flatMap _).length<=144
 lia
theorem Bq4 {w:Wd}(h:w.Gk):w.out.length<=144:=ao (List.length_filterMap_le _ _) (Uj h)
theorem A0z {a b:m8}(h:a.length+b.length<=16000000):Aw (tD a) (tD b)=sI (tD (a++b)):=by
 unfold tD
 show (if (a.map _).length+(b.map _).length<=16000000 then some _ else none)=_
 simp_all
theorem add_n {a b:v4}(h:a.length+b.length<=16000000):Aw (nD a) (nD b)=sI (nD (a++b)):=by
 unfold nD
 show (if (a.map _).length+(b.map _).length<=16000000 then some _ else none)=_
 simp_all
theorem An5 {w:Wd}(h:w.Gk):Hr [.im w.d]=.ret (.im w.outD) [.im w.d]:=by
 have l1:=h.klen;have l2:=h.nlen;have l3:=h.vlen
 have s:=Vg (w:=w) (by have:=h.hlen;lia) (by have:=h.rlen;lia)
 obtain⟨v,e,a,b,x,rfl⟩:=Xm (g:=cgT 3 (Av (cgN 0) (Av (cgN 1) (Av (cgN 2) Ck)))) (ft:=Bc (cOp (Ig true) (Aa 2) (cC (.none)))) (fe:=cOp Aw (cOp Aw (Aa 0) (Aa 1)) (Aa 2)) (I:=λc=>∃a b x,c=[a,b,x]) (F:=λd=>match d with
  | .tuple [.tuple p,.tuple q,.tuple r]=>some (.tuple (p++q++r))
  | _=>none) (items:=w.along.map Ny) (acc:=[]) (c:=[none,none,none]) ⟨none,none,none,rfl⟩ (λx c n ⟨a,b,z,o⟩=>by
  subst o;obtain⟨t,m,rfl⟩:=aB.mp n;obtain⟨a1,i,a3,j,l⟩:=Vb h m;obtain⟨p,q,r⟩:=t;have i:p.length=w.key.length:=i;have j:q.length=w.names.length:=j
  cases r with
  | none =>
   refine⟨[sI (tD p),sI (tD q),sI .none],?_,_,_,_,rfl⟩
   wp_walk using Ny,By,Bj0
   rfl
  | some r =>
   have lr:=(l r rfl).1
   have e:=A0z (a:=p) (b:=q) (by lia)
   have f:=A0z (a:=p++q) (b:=r) (by rw[aK];lia)
   refine⟨[sI (tD p),sI (tD q),sI (tD r)],?_,_,_,_,rfl⟩
   wp_walk using Ny,By,B5b,e,f
   unfold tD
   rw[bw,bw])
 have u:(w.along.map Ny).filterMap (λd=>match d with
  | .tuple [.tuple p,.tuple q,.tuple r]=>some (.tuple (p++q++r))
  | _=>none)=w.out.map tD:=by
  unfold Wd.out;rw[jk,List.map_filterMap]
  congr 1
  funext t
  obtain⟨p,q,r⟩:=t
  cases r with
  | none=>rfl
  | some r=>simp[Ny,By,tD,Am8]
 rw[dH,u]at e
 have f:cLC [none,none,none] (Bg (cF Ey (Ab (Aa 0) Ak))) (cgT 3 (Av (cgN 0) (Av (cgN 1) (Av (cgN 2) Ck)))) (Bc (cOp (Ig true) (Aa 2) (cC (.none)))) (cOp Aw (cOp Aw (Aa 0) (Aa 1)) (Aa 2)) [sI w.d,none]=.ok (.o (.ls false (w.out.map tD))) [sI w.d,none] :=
  Dl (ds:=w.along.map Ny) (c1:=[sI w.d,none]) (by wp_walk using Bg,s) (by rw[aq];have:=Uj h;lia) e rfl
 have y:=add_n (a:=w.key) (b:=w.names) (by lia)
 have k:=add_n (a:=w.key++w.names) (b:=w.vals) (by rw[aK];lia)
 refine Oe (p:=.o (.im w.outD)) (c:=[sI w.d,sFa (w.out.map tD)]) ?_ rfl (by wp_walk using bM)
 refine (Br (c':=[sI w.d,sFa (w.out.map tD)]) (by wp_walk using f)).trans ?_
 wp_walk using Ai,Wd.d,Wd.ps,y,k,Be,Wd.outD
def Mj (heads:m7)(r:List Vl×List (Option (m8))):m7:=(Dw heads r).filterMap Am8
theorem A7i (w:Wd):w.out=w.rows.flatMap (Mj w.heads):=by
 unfold Wd.out Wd.along Mj;rw[List.filterMap_flatMap]
theorem Ao2 (heads:m7)(r:List Vl×List (Option (m8))):(Mj heads r).length<=heads.length:=ao (List.length_filterMap_le _ _) (Qf _ r)
theorem An4 (heads:m7):∀rows:List (List Vl×List (Option (m8))),(rows.flatMap (Mj heads)).length<=heads.length*rows.length
 | []=>by simp
 | r::rs=>by
  have:=An4 heads rs;have:=Ao2 heads r;rw[List.flatMap_cons,aK,bW,Nat.mul_succ];lia
abbrev An9:n7:=cOp Aw (cOp Aw (Aa 2) (Aa 0)) (Aa 1)
abbrev Aq2:n6:=Bc (cOp (Ig true) (Aa 1) (cC (.none)))
theorem Bo5 {w:Wd}(h:w.Gk):Ks [.im w.d]=.ret (.im (.tuple [nD (w.key++w.names++w.vals),.list (w.out.map tD)])) [.im w.d]:=by
 have M:=h.klen;have hn:=h.nlen;have hv:=h.vlen;have hh:=h.hlen;have R:=h.rlen;have F:Ai w.d (.int 0)=sI (nD w.key):=rfl;have S:Ai w.d (.int 1)=sI (nD w.names):=rfl;have W:Ai w.d (.int 2)=sI (nD w.vals):=rfl;have X:Ai w.d (.int 3)=sI (.tuple (w.heads.map tD)):=rfl;have J:Ai w.d (.int 4)=sI (.tuple (w.rows.map M5)):=rfl
 have l:=Fo (g:=cgT 2 (Av (cgN 2) (Av (cgN 3) Ck))) (body:=Gd (A4h (Aa 1) (cLC [none,none,some 2] (Uu (cOp Ai (Aa 0) (cC (.int 3))) (Aa 3)) (cgT 2 (Av (cgN 0) (Av (cgN 1) Ck))) Aq2 An9))) (items:=w.rows.map M5) (n:=0)
  (c:=[sI w.d,sFa [],none,none])
  (P:=λk c=>∃x y,c=[sI w.d,sFa (((w.rows.take k).flatMap (Mj w.heads)).map tD),x,y])
  ⟨none,none,rfl⟩ (λk d c H E=>by
   rw[aQ]at E ⊢;obtain⟨x,y,rfl⟩:=E;obtain⟨r,s,rfl⟩:=Ew H;have K:=bh s;have M:k<w.rows.length:=(bG.mp s).1
   obtain⟨L,v,a,b,rfl⟩:=Kl (g:=cgT 2 (Av (cgN 0) (Av (cgN 1) Ck))) (ft:=Aq2) (fe:=An9) (I:=λc=>∃a b,c=[a,b,sI (tD r.1)]) (f:=λq:List Vl×Option (m8)=>PyData.tuple [tD q.1,By q.2]) (G:=λq=>(Am8 (r.1,q.1,q.2)).map tD) (xs:=w.heads.zip r.2) (acc:=[]) (c:=[none,none,sI (tD r.1)]) ⟨none,none,rfl⟩ (λq c N ⟨a,b,O⟩=>by
    subst O;have u:=Vb h (t:=(r.1,q.1,q.2)) (List.mem_flatMap.mpr ⟨r,K,aB.mpr ⟨q,N,rfl⟩⟩)
    refine⟨[sI (tD q.1),sI (By q.2),sI (tD r.1)],?_,_,_,rfl⟩
    obtain⟨i,V⟩:=q
    cases V with
    | none =>
     have z:Ig true (By none) .none=sI (.bool false):=rfl;have B:(Am8 (r.1,i,none)).map tD=none:=rfl;rw[B]
     show Mf _ _ _ (.tuple [tD i,By none]) _=_
     generalize By none=C at *
     generalize tD i=Q at *
     generalize tD r.1=T at *
     wp_walk using Aq2,An9,z
    | some j =>
     have z:Ig true (By (some j)) .none=sI (.bool true):=rfl;have l1:r.1.length=w.key.length:=u.2.1;have l2:i.length=w.names.length:=u.2.2.2.1;have l3:j.length=w.vals.length:=(u.2.2.2.2 j rfl).1
     have A:=A0z (a:=r.1) (b:=i) (by lia)
     have m:=A0z (a:=r.1++i) (b:=j) (by rw[aK];lia)
     have m:Aw (tD (r.1++i)) (By (some j))=sI (tD (r.1++i++j)):=m;have B:(Am8 (r.1,i,some j)).map tD=some (tD (r.1++i++j)):=rfl;rw[B]
     show Mf _ _ _ (.tuple [tD i,By (some j)]) _=_
     generalize By (some j)=C at *
     generalize tD (r.1++i++j)=X3 at *
     generalize tD (r.1++i)=X2 at *
     generalize tD i=Q at *
     generalize tD r.1=T at *
     wp_walk using Aq2,An9,z,A,m)
   have Z:(w.heads.zip r.2).filterMap (λq=>(Am8 (r.1,q.1,q.2)).map tD)=(Mj w.heads r).map tD:=by
    unfold Mj Dw;rw[jk,List.map_filterMap];rfl
   rw[dH,Z]at v;rw[<- Mp]at v
   have Y:cLC [none,none,some 2] (Uu (cOp Ai (Aa 0) (cC (.int 3))) (Aa 3)) (cgT 2 (Av (cgN 0) (Av (cgN 1) Ck))) Aq2 An9 [sI w.d,sFa (((w.rows.take k).flatMap (Mj w.heads)).map tD),sI (tD r.1),sI (.tuple (r.2.map By))] =
    .ok (.o (.ls false ((Mj w.heads r).map tD))) [sI w.d,sFa (((w.rows.take k).flatMap (Mj w.heads)).map tD),sI (tD r.1),sI (.tuple (r.2.map By))]:=by
    refine Dl (ds:=Gw (w.heads.map tD) (r.2.map By)) (c1:=[sI w.d,sFa (((w.rows.take k).flatMap (Mj w.heads)).map tD),sI (tD r.1),sI (.tuple (r.2.map By))]) ?_ (by unfold Gw;rw[aq,dY,aq];lia) v (by wp_walk using bM)
    generalize w.d=D at *
    wp_walk using Uu,X,Ke
   refine⟨[sI w.d,sFa (((w.rows.take (k+1)).flatMap (Mj w.heads)).map tD),sI (tD r.1),sI (.tuple (r.2.map By))],.inl ?_,_,_,rfl⟩
   have et:(w.rows.take (k+1)).flatMap (Mj w.heads)=(w.rows.take k).flatMap (Mj w.heads)++Mj w.heads r:=by
    rw[gf,s];simp
   have o:(((w.rows.take k).flatMap (Mj w.heads)).map tD).length+((Mj w.heads r).map tD).length<=16000000:=by
    rw[aq,aq];have a:=An4 w.heads (w.rows.take k);have b:=Ao2 w.heads r
    have:w.heads.length*(w.rows.take k).length<=1000*1000:=fD (by lia) (by rw[di];lia)
    lia
   wp_walk using M5,Y,o,et,bw)
 obtain⟨L,e,x,y,rfl⟩:=l;rw[aQ,aq,du,<- A7i]at e
 have A:=add_n (a:=w.key) (b:=w.names) (by lia)
 have m:=add_n (a:=w.key++w.names) (b:=w.vals) (by rw[aK];lia)
 refine Oe (p:=.o (.im (.tuple [nD (w.key++w.names++w.vals),.list (w.out.map tD)]))) (c:=[sI w.d,sI (.list (w.out.map tD)),x,y]) ?_ rfl (by wp_walk using bM)
 refine (Br ((Oh ?_).trans e)).trans ?_
 ·wp_walk using Bg,J,U.Ke
 ·wp_walk using F,S,W,A,m
structure Tb where
 cols:v4
 rows:m7
def Tb.d (t:Tb):t6:=.tuple [.tuple (t.cols.map PyData.str),.tuple (t.rows.map tD)]
structure Tb.Ok (t:Tb):Prop where
 nms:Names t.cols
 cpos:1<=t.cols.length
 clen:t.cols.length<=12
 rows:∀r∈t.rows,r.length=t.cols.length/\VBs r
 rlen:t.rows.length<=144
def Yp (o:O)(ds:w5):Prop:=o=.ls false ds\/o=.im (.list ds)
section
variable {α:Type}[DecidableEq α]
noncomputable def fnd (x:α):List α->Nat
 | []=>0
 | y::l=>if y=x then 0 else fnd x l+1
theorem O1 {x:α}:∀{l:List α},x∈l->l[fnd x l]?=some x
 | y::l,h=>by
  unfold fnd
  by_cases e:y=x
  ·rw[if_pos e,e];rfl
  ·rw[if_neg e]
   rcases aD.mp h with h | h
   ·exact absurd h.symm e
   ·rw[dC];exact O1 h
theorem A6q {x:α} (h:x∈l):fnd x l<l.length:=(bG.mp (O1 h)).1
theorem Vq {x:α}:∀{l:List α}{i:Nat},l.Nodup->l[i]?=some x->fnd x l=i
 | y::l,0,_,h=>by
  have e:y=x:=bT h;unfold fnd;rw[if_pos e]
 | y::l,i+1,nd,h=>by
  rw[dC]at h
  have e:y≠x:=λz=>(bC.mp nd).1 (z▸bh h)
  unfold fnd;rw[if_neg e,Vq (bC.mp nd).2 h]
end
section
variable {α β:Type}[DecidableEq α]
noncomputable def ins (qs:List α) (q:α):List α:=if q∈qs then qs else qs++[q]
def fs (l:List α):List α:=l.foldl ins []
noncomputable def upF (g:α->β) (q:α) (v:β):α->β:=λx=>if x=q then v else g x
theorem Ph {qs:List α} (h:q∈qs):ins qs q=qs:=if_pos h
theorem Jr {qs:List α} (h:q∉qs):ins qs q=qs++[q]:=if_neg h
theorem Bs1 {qs:List α} : x∈ins qs q↔x∈qs\/x=q:=by
 by_cases h:q∈qs
 ·rw[Ph h]
  grind
 ·rw[Jr h,bJ,aN]
theorem Sv {l:List α} : fs (l++[x])=ins (fs l) x:=by unfold fs;grind
theorem Uy {P:List α->Prop}(b:P [])(h1:∀l x,P l->P (l++[x]))(l:List α):P l:=by
 rw[<- l.reverse_reverse];generalize l.reverse=m
 induction m with
 | nil=>grind
 | cons x m a=>grind
theorem zP {l:List α} : x∈fs l↔x∈l:=by
 refine Uy (P:=λl=>∀{x},x∈fs l↔x∈l) Iff.rfl (λl y a x=>?_) l
 rw[Sv,Bs1,a,bJ,aN]
theorem Wj (l:List α):(fs l).Nodup:=by
 refine Uy (P:=λl=>(fs l).Nodup) eU (λl y a=>?_) l
 rw[Sv]
 by_cases h:y∈fs l
 ·rw[Ph h];grind
 ·rw[Jr h]
  grind
theorem Jk (l:List α):(fs l).length<=l.length:=by
 refine Uy (P:=λl=>(fs l).length<=l.length) (au _) (λl y a=>?_) l
 rw[Sv]
 by_cases h:y∈fs l
 ·rw[Ph h,aK];lia
 ·rw[Jr h];grind
theorem Vd {l:List α} (h:l[k]?=some x):fs (l.take (k+1))=ins (fs (l.take k)) x:=by
 rw[gf,h];exact Sv
theorem A1r {g:α->β} : upF g q v q=v:=if_pos rfl
theorem Ay7 {g:α->β} (h:x≠q):upF g q v x=g x:=if_neg h
theorem Qg {g:α->β} {qs:List α}(h:q∉qs):qs.map (upF g q v)=qs.map g:=List.map_congr_left λx a=>Ay7 λe=>h (e▸a)
theorem U3 {g:α->β}{q:α}{v:β}:∀{qs:List α},qs.Nodup->q∈qs->(qs.map g).set (fnd q qs) v=qs.map (upF g q v)
 | x::qs,nd,h=>by
  obtain⟨n1,n2⟩:=bC.mp nd;unfold fnd
  by_cases e:x=q
  ·rw[if_pos e,aG,List.set_cons_zero,aG,Qg (e▸n1),e,A1r]
  ·rw[if_neg e,aG,List.set_cons_succ,aG,Ay7 e,U3 n2 ((aD.mp h).resolve_left λz=>e z.symm)]
variable {key:α->t6}(he:∀a b,PyData.eqv (key a) (key b)=decide (a=b))
include he
theorem Av1 {q:α}:∀{qs:List α},q∈qs->O3 (key q) (qs.map key)=some (fnd q qs)
 | x::qs,h=>by
  rw[aG];unfold O3 fnd;rw[he]
  by_cases e:x=q
  ·rw[aO e,if_pos rfl,if_pos e]
  ·rw[bj e,if_neg (by decide),if_neg e,Av1 ((aD.mp h).resolve_left λz=>e z.symm)];rfl
theorem Ab5 {q:α}:∀{qs:List α},q∉qs->O3 (key q) (qs.map key)=none
 | [],_=>rfl
 | x::qs,h=>by
  have e:x≠q:=λz=>h (z▸bV)
  rw[aG];unfold O3
  rw[he,bj e,if_neg (by decide),Ab5 λz=>h (bD _ z)];rfl
theorem A0i (a:qs.Nodup):A3o (qs.map key) (qs.map g) (key q) x=((ins qs q).map key,(ins qs q).map (upF g q (.d x))):=by
 unfold A3o
 by_cases h:q∈qs
 ·simp only[Av1 he h];rw[Ph h,U3 a h]
 ·simp only[Ab5 he h];rw[Jr h,bw,bw,aG,gh,aG,gh,Qg h,A1r]
theorem Bt1 (c:qs.Nodup) (d:q∉qs->g q=[]) :
 B5y ((Su (qs.map key) (qs.map λa=>DE.l (g a)) (key q)).2.1[(Su (qs.map key) (qs.map λa=>DE.l (g a)) (key q)).2.2]?)=some (g q) /\
 (Su (qs.map key) (qs.map λa=>DE.l (g a)) (key q)).1=(ins qs q).map key /\
 (Su (qs.map key) (qs.map λa=>DE.l (g a)) (key q)).2.1.set (Su (qs.map key) (qs.map λa=>DE.l (g a)) (key q)).2.2 (.l (g q++[x]))=(ins qs q).map λa=>DE.l (upF g q (g q++[x]) a):=by
 have b:(λa=>DE.l (upF g q (g q++[x]) a))=upF _ q _:=funext λa=>by unfold upF;split <;> rfl
 unfold Su
 by_cases h:q∈qs
 ·simp only[Av1 he h]
  refine⟨?_,by rw[Ph h],by rw[Ph h,b,U3 c h]⟩
  rw[bK,O1 h];rfl
 ·simp only[Ab5 he h]
  refine⟨?_,by rw[Jr h,bw];rfl,?_⟩
  ·rw[dX (by simp),aq,aq,dD,d h];rfl
  ·rw[Jr h,b,bw,Qg h,aG,A1r,List.set_append_right _ _ (by simp),aq,aq,dD];rfl
theorem Am1 {g:α->t6}{q:α}:∀{qs:List α},O9 (qs.map key) (qs.map g) (key q)=if q∈qs then some (g q) else none
 | []=>rfl
 | x::qs=>by
  rw[aG,aG];unfold O9;rw[he]
  by_cases e:x=q
  ·rw[aO e,if_pos rfl,if_pos (by rw[e];exact bV),e]
  ·rw[bj e,if_neg (by decide),Am1]
   have:q∈x::qs↔q∈qs:=by rw[aD];exact⟨λz=>z.resolve_left λz=>e z.symm,.inr⟩
   by_cases m:q∈qs
   ·rw[if_pos m,if_pos (this.mpr m)]
   ·rw[if_neg m,if_neg λz=>m (this.mp z)]
omit he
theorem Y6 {g:α->t6}:∀{qs:List α},Hz (qs.map key) (qs.map g)=qs.map λa=>.tuple [key a,g a]
 | []=>rfl
 | x::qs=>by rw[aG,aG,Hz,Y6];rfl
noncomputable def nmK (l:List α) (k:Nat) (q:α):w5:=((List.range k).filter λi=>decide (l[i]?=some q)).map λi=>PyData.int (i:Nat)
theorem Bd4 {l:List α} (h:l[k]?=some x):nmK l (k+1)=upF (nmK l k) x (nmK l k x++[.int (k:Nat)]):=funext λq=>by
 have e:nmK l (k+1) q=nmK l k q++if l[k]?=some q then [.int (k:Nat)] else []:=by
  unfold nmK;rw[List.range_succ,List.filter_append,bw]
  grind
 rw[e]
 by_cases z:q=x
 ·subst z;rw[if_pos h,A1r]
 ·rw[if_neg λy=>z (bT (y.symm.trans h)),cY,Ay7 z]
theorem Br2 {l:List α} (h:q∉l.take k):nmK l k q=[]:=by
 unfold nmK;rw[List.filter_eq_nil_iff.mpr,gh];intro i a e
 exact h (bh (i:=i) (by grind))
theorem Bo2 (l:List α)(k:Nat)(q:α):(nmK l k q).length<=k:=by
 unfold nmK
 grind
end
theorem Ku {d:Nat}{g:o5}{F:BF}{P:Nat->Ev->w5->List DE->Prop}:∀{items:w5}{n:Nat}{c:Ev}{ks:w5}{es:List DE},P n c ks es ->
 (∀k x c ks es,items[k]?=some x->P (n+k) c ks es->∃c1 c' ks' es',g (.o (.im x)) c=.ok () c1/\Dc d c1=true/\F c1 ks es=.nx c' ks' es'/\P (n+k+1) c' ks' es')->∃c' ks' es',Wm (d:=d) g F items c ks es=.nx c' ks' es'/\P (n+items.length) c' ks' es'
 | [],n,c,ks,es,h0,_=>⟨c,ks,es,rfl,h0⟩
 | x::xs,n,c,ks,es,h0,hs=>by
  obtain⟨c1,c2,ks2,es2,e1,e2,e3,h1⟩:=hs 0 x c ks es rfl h0
  obtain⟨c3,ks3,es3,e4,h2⟩:=Ku (d:=d) (g:=g) (F:=F) (P:=P) (items:=xs) (n:=n+1) h1 (λk d c ks es hk hp=>by
   have:=hs (k+1) d c ks es (by simpa using hk) (by rw[show n+(k+1)=n+1+k by lia];exact hp)
   rw[show n+(k+1)+1=n+1+k+1 by lia]at this
   exact this)
  refine⟨c3,ks3,es3,?_,by rw[bW,show n+(xs.length+1)=n+1+xs.length by lia];exact h2⟩
  show (g (.o (.im x)) c).toB _=_
  rw[e1]
  show (if Dc d c1=true then _ else _)=_
  rw[if_pos e2,e3];exact e4
theorem U6 (h1:fi c=.ok ds c1) (h2:Dc d c1=true):Ak7 (d:=d) fi g F c ks es=Wm (d:=d) g F ds c1 ks es:=by
 unfold Ak7;rw[h1]
 show (if Dc d _=true then _ else _)=_
 grind
theorem Oc (h1:Dc d (c.set d none)=true) (h2:F (c.set d none) [] []=.nx c' ks es):J3 d F g c=g (c'.set d (some (.ty (.ds ks (es.map DE.dat))))):=by
 unfold J3
 grind
theorem Ae7:∀vs:m8,Ff (vs.map Vl.d)=true
 | []=>rfl
 | v::vs=>by
  rw[aG,Ff,Ae7 vs]
  cases v <;> rfl
theorem A8k (vs:m8):keyB (tD vs)=true:=Ae7 _
theorem Ad4:∀vs:m8,PyData.depthAll (vs.map Vl.d)=0
 | []=>rfl
 | v::vs=>by
  show max v.d.depth (PyData.depthAll (vs.map Vl.d))=0
  rw[Ad4 vs]
  cases v <;> rfl
theorem Ax8 (h:VBs vs):PyData.canLayAll0 (vs.map Vl.d)=true:=Ov λd a=>by
 obtain⟨v,b,rfl⟩:=aB.mp a;exact(O2 (h v b)).lay
theorem B2n (h:VBs vs):Ie (tD vs)=true:=by
 show (Ff _&&PyData.canLayAll0 _&&decide _)=true
 rw[Ae7,Ax8 h,Ad4];rfl
abbrev PH:=List Vl×m8
def kD (q:PH):t6:=.tuple [tD q.1,tD q.2]
theorem A0o (a b:PH):PyData.eqv (kD a) (kD b)=decide (a=b):=by
 show (PyData.eqv _ _&&(PyData.eqv _ _&&true))=_
 rw[A1h,A1h]
 grind
theorem Wn (h1:VBs q.1) (h2:VBs q.2):Ie (kD q)=true:=by
 show (Ff _&&PyData.canLayAll0 _&&decide _)=true
 have e1:Ff [tD q.1,tD q.2]=true:=by
  show (keyB _&&(keyB _&&true))=true
  rw[A8k,A8k];rfl
 have e2:PyData.canLayAll0 [tD _,tD _]=true:=Ov λd a=>by
  simp at a
  rcases a with rfl | rfl
  ·exact Ax8 h1
  ·exact Ax8 h2
 have e3:PyData.depthAll [tD q.1,tD q.2]=1:=by
  show max (PyData.depthAll _+1) (max (PyData.depthAll _+1) 0)=1
  rw[Ad4,Ad4];rfl
 grind
theorem A1b:∀{cols:v4}{i:Nat}{x:Str},cols.Nodup->cols[i]?=some x->Yo x cols=some i
 | [],i,x,_,h=>by simp at h
 | y::r,0,x,_,h=>by
  have e:y=x:=by simpa using h
  unfold Yo;rw[if_pos (by simpa using e)]
 | y::r,i+1,x,nd,h=>by
  have h':r[i]?=some x:=by simpa using h
  obtain⟨n1,n2⟩:=bC.mp nd
  have ne:¬ y=x:=λe=>n1 (by rw[e];exact bh h')
  unfold Yo;rw[if_neg (by simpa using ne),A1b n2 h'];rfl
theorem Ao8:∀x∈names12,(PyData.str x).canLay0=true:=λx a=>bL.mp (show names12.all (λx=>(PyData.str x).canLay0)=true by decide +kernel) x a
theorem Nt:∀ss:v4,strsOf (ss.map PyData.str)=some ss
 | []=>rfl
 | x::ss=>by show (strsOf (ss.map PyData.str)).map (x::·)=_;rw[Nt ss];rfl
theorem Bj2 {cols:v4}(hx:x∈cols) (hs:∀y∈cols,y∈names12):Ml true (.str x) (.tuple (cols.map PyData.str))=sI (.bool false):=by
 show (if Cr _&&PyData.canLayAll0 _ then some _ else none)=_
 have a:Cr (.str x)=true:=by unfold Cr;rw[Ao8 x (hs x hx)];rfl
 rw[a,Ov λd b=>by obtain⟨u,c,rfl⟩:=aB.mp b;exact Ao8 u (hs u c),List.any_eq_true.mpr ⟨.str x,aB.mpr ⟨x,hx,rfl⟩,by rw[Ag7];simp⟩]
 rfl
theorem V7 {cols:v4}{i:Nat}(a:cols.Nodup) (h:cols[i]?=some x):K7 (.tuple (cols.map PyData.str)) (.str x)=sI (.int i):=by
 show (strsOf _).bind _=_
 rw[Nt,gj,A1b a h];rfl
noncomputable def sqD (b:Bool) (l:w5):t6:=if b then .tuple l else .list l
theorem A1z (h:c[i]?=some (sI (sqD b l))):Bg (Aa i) c=.ok l c:=by
 unfold Bg Aa;simp only[h]
 cases b <;> rfl
theorem R.toB_ok {a:b} {k:b->Ev->BR}:(U.R.ok a c).toB k=k a c:=rfl
def vAt (cols:v4)(r:m8)(x:Str):Vl:=r.getD (fnd x cols) .non
def pick (cols:v4)(r:m8)(ns:v4):m8:=ns.map (vAt cols r)
theorem Ju (h:VBs r):VBs (pick cols r ns):=λv a=>by
 obtain⟨x,_,rfl⟩:=aB.mp a;unfold vAt;rw[jc]
 cases e:r[fnd x _]? with
 | none=>rfl
 | some v=>grind
theorem Bb0 (hx:x∈cols) (hr:r.length=cols.length):Ai (tD r) (.int (fnd x cols:Nat))=sI (vAt cols r x).d:=by
 have l:=A6q hx
 have e:(r.map Vl.d)[fnd x cols]?=some (vAt cols r x).d:=by
  unfold vAt
  grind
 show (atI _ _).map _=_
 rw[Ii e];rfl
theorem Be3 (ht:Tb.Ok t) (hx:x∈t.cols):Ga [.im t.d,.im (.str x)]=.ret (.im (.int (fnd x t.cols:Nat))) [.im t.d,.im (.str x)]:=by
 wp_walk using Ga,Np,Tb.d,Ai,Bj2 hx ht.nms.sub,cMt,Mx,V7 ht.nms.nd (O1 hx)
abbrev Fj (cols ns:v4):w5:=ns.map λx=>PyData.int (fnd x cols:Nat)
theorem Tn (ht:Tb.Ok t) (hn:∀x∈ns,x∈t.cols) (hl:ns.length<=12):Dm [.im t.d,.im (sqD b (ns.map PyData.str))]=.ret (.ls false (Fj t.cols ns)) [.im t.d,.im (sqD b (ns.map PyData.str))]:=by
 obtain⟨cI,e,u,rfl⟩:=Dd (g:=cgN 0) (ft:=Bj) (fe:=cF Ga (Ab (Aa 1) (Ab (Aa 0) Ak))) (I:=λc=>∃u,c=[u,sI t.d]) (f:=PyData.str) (G:=λx=>PyData.int (fnd x t.cols)) ⟨none,rfl⟩
  (λx c d h=>by
   obtain⟨u,rfl⟩:=h
   refine⟨[sI (.str x),some _],?_,_,rfl⟩
   wp_walk using Be3 ht (hn x d))
 have a:cLC [none,some 0] (Bg (Aa 1)) _ _ _ [sI _,sI (sqD b (ns.map _))]=.ok _ _ :=
  Dl (A1z rfl) (by grind) (by trivial) rfl
 wp_walk using Dm,Lh,a
theorem Tc (hn:∀x∈ns,x∈cols) (hr:r.length=cols.length) (hl:ns.length<=12):Cd [.im (tD r),.im (.list (Fj cols ns))]=.ret (.im (tD (pick cols r ns))) [.im (tD r),.im (.list (Fj cols ns))]:=by
 obtain⟨cI,e,u,rfl⟩:=Dd (g:=cgN 0) (ft:=Bj) (fe:=cOp Ai (Aa 1) (Aa 0)) (I:=λc=>∃u,c=[u,sI (tD r)]) (f:=λx=>PyData.int (fnd x cols)) (G:=λx=>(vAt cols r x).d) ⟨none,rfl⟩
  (λx c b d=>by
   obtain⟨u,rfl⟩:=d
   refine⟨[sI (.int (fnd x cols)),some _],?_,_,rfl⟩
   wp_walk using Bb0 (hn x b) hr)
 have h:cLC [none,some 0] (Bg (Aa 1)) _ _ _ [sI _,sI (.list (Fj _ ns))]=.ok _ _ :=
  Dl (by rfl) (by grind) (by assumption) rfl
 have a:PyData.tuple (ns.map λx=>(vAt cols r x).d)=tD (pick cols r ns):=by unfold tD pick;rw[cP];rfl
 wp_walk using Cd,K8,h,Be,a
section
variable {α:Type}[DecidableEq α]{key:α->t6}(he:∀a b,PyData.eqv (key a) (key b)=decide (a=b)){d:Nat}{c:Ev}{qs:List α}{q:α}
include he
theorem Al3 (h1:fv (qs.map key) (qs.map g) c=.ok (.o (.im x)) c) (h2:fk c=.ok (.o (.im (key q))) c) (a:qs.Nodup) (hk:Ie (key q)=true) (hl:qs.length<=1000) (hn:Dc d c=true) :
 Ap0 (d:=d) fk fv c (qs.map key) (qs.map g)=.nx c ((ins qs q).map key) ((ins qs q).map (upF g q (.d x))):=by
 unfold Ap0;simp only[h1,R.toB_ok,nrm,frz,h2,Ds,rdP,gj,O.dat]
 rw[if_pos (by grind),A0i he a]
theorem Be1 (h1:fk c=.ok (.o (.im (key q))) c) (h2:fv c=.ok (.o (.im x)) c) (e:qs.Nodup) (hk:Ie (key q)=true) (hl:qs.length<=1000) (hg:(g q).length<=1000) (b:q∉qs->g q=[]) (hn:Dc d c=true) :
 Bd2 (d:=d) fk fv c (qs.map key) (qs.map λa=>.l (g a))=.nx c ((ins qs q).map key) ((ins qs q).map λa=>.l (upF g q (g q++[x]) a)):=by
 obtain⟨h,i,f⟩:=Bt1 (x:=x) he e b;unfold Bd2;simp only[h1,R.toB_ok,nrm,Ds,rdP,gj,O.dat];simp only[h2,R.toB_ok,frz]
 grind
end
theorem Ag3 [DecidableEq a] {g:a->b}{q:a}:upF g q (g q)=g:=funext λx=>by
 unfold upF
 grind
theorem A7r {b:Type}{f:b->t6}{xs:List b}{k:Nat} (h:(Pb (xs.map f))[k]?=some x):∃a,xs[k]?=some a/\x=.tuple [.int (k:Nat),f a]:=by
 unfold Pb at h
 grind
def prs (t:Tb)(ks ns:v4):List PH:=t.rows.map λr=>(pick t.cols r ks,pick t.cols r ns)
structure Cs (t:Tb) (ns:v4):Prop where
 sub:∀x∈ns,x∈t.cols
 len:ns.length<=12
theorem Mw (ht:Tb.Ok t) (h:q∈prs t ks ns):VBs q.1/\VBs q.2:=by
 obtain⟨r,a,rfl⟩:=aB.mp h;exact⟨Ju (ht.rows r a).2,Ju (ht.rows r a).2⟩
theorem Lx {t:Tb}(ht:Tb.Ok t){ks ns:v4}:(prs t ks ns).length<=144:=by unfold prs;rw[aq];exact ht.rlen
abbrev grD (l:List PH):O:=.ty (.ds ((fs l).map kD) ((fs l).map λq=>PyData.list (nmK l l.length q)))
theorem Am5 {a:Type}{l:List a} {x:a}(h:x∈l.take k):x∈l:=(jf k l).subset h
theorem Lr [DecidableEq a] {l:List a} (h:l.length<=n):(fs (l.take k)).length<=n:=ao (Jk _) (ao (by grind) h)
abbrev rev (t:Tb)(x y:t6)(rest:n_):Ev:=sI t.d::some (.im x)::some (.im y)::rest
theorem Bq3 (ht:Tb.Ok t) (hk:Cs t ks) (hn:Cs t ns) :
 Ef [.im t.d,.im (sqD a (ks.map PyData.str)),.im (sqD b (ns.map PyData.str))]=.ret (grD (prs t ks ns)) [.im t.d,.im (sqD a (ks.map PyData.str)),.im (sqD b (ns.map PyData.str))]:=by
 have X:=Tn ht (b:=a) hk.sub hk.len;have W:=Tn ht (b:=b) hn.sub hn.len;have S:=Lx ht (ks:=ks) (ns:=ns)
 have v:(prs t ks ns).length=t.rows.length:=by unfold prs;rw[aq]
 have i:∀{k:Nat} {r:m8},t.rows[k]?=some r->(prs t ks ns)[k]?=some (pick t.cols r ks,pick t.cols r ns):=λ{k r} m=>by unfold prs;rw[bK,m];rfl
 generalize sqD a (ks.map PyData.str)=x at *
 generalize sqD b (ns.map PyData.str)=y at *
 generalize prs t ks ns=l at *
 obtain⟨c',K,N,D,e,f,s,u,j,rfl,_,_,rfl,rfl⟩:=Ku (d:=5) (g:=cgT 2 (Av (cgN 6) (Av (cgN 7) Ck))) (F:=Eh) (items:=Pb (t.rows.map tD)) (n:=0) (ks:=[]) (es:=[])
  (c:=rev t x y [sFa (Fj t.cols ks),sFa (Fj t.cols ns),none,none,none,none])
  (P:=λk c C E=>∃e f s u j,c=rev t x y [some e,some f,none,s,u,j]/\Yp e (Fj t.cols ks)/\Yp f (Fj t.cols ns) /\
   C=(fs (l.take k)).map kD/\E=(fs (l.take k)).map λq=>DE.l (nmK l k q)) ⟨_,_,none,none,none,rfl,.inl rfl,.inl rfl,rfl,rfl⟩
  (λk z c C E J G=>by
   rw[aQ]at G ⊢;obtain⟨e,f,s,u,j,rfl,L,M,rfl,rfl⟩:=G;obtain⟨r,m,rfl⟩:=A7r J;have o:=ht.rows r (bh m);have i:=i m;have O:=Tc (r:=r) hk.sub o.1 hk.len;have Q:=Tc (r:=r) hn.sub o.1 hn.len;have I:VBs (pick t.cols r ks):=Ju o.2;have T:VBs (pick t.cols r ns):=Ju o.2
   generalize pick t.cols r ks=p at *
   generalize pick t.cols r ns=h at *
   have U:∀A w,Qd (d:=5) (Df (Ab (cF Cd (Ab (Aa 7) (Ab (cFz (Aa 3)) Ak))) (Ab (cF Cd (Ab (Aa 7) (Ab (cFz (Aa 4)) Ak))) Ak))) (cgN 8) (rev t x y [some e,some f,none,sI (.int (k:Nat)),sI (tD r),j]) A w =
    .nx (rev t x y [sI (.list (Fj t.cols ks)),sI (.list (Fj t.cols ns)),none,sI (.int (k:Nat)),sI (tD r),sI (kD (p,h))]) A w:=λA w=>by
    rcases L with rfl | rfl <;> rcases M with rfl | rfl <;> wp_walk using rev,Qd,R.toB_ok,O,Q,Dc,kD
   refine⟨rev t x y [some e,some f,none,sI (.int (k:Nat)),sI (tD r),j],rev t x y [sI (.list (Fj t.cols ks)),sI (.list (Fj t.cols ns)),none,sI (.int (k:Nat)),sI (tD r),sI (kD (p,h))],_,_,(by wp_walk using rev),rfl,?_,_,_,_,_,_,rfl,.inr rfl,.inr rfl,rfl,rfl⟩
   unfold Eh Aq1;rw[U]
   show Bd2 (d:=5) (Aa 8) (Aa 6) _ _ _=_
   rw[Be1 (x:=.int (k:Nat)) (q:=(p,h)) A0o (by wp_walk using bM) (by wp_walk using bM) (Wj _) (Wn I T) (Lr (ao S (by decide))) (ao (Bo2 _ _ _) (by have:=(bG.mp i).1;lia)) (λz=>Br2 λy=>z (zP.mpr y)) rfl]
   rw[<- Vd i,<- Bd4 i])
 have V:(Pb (t.rows.map tD)).length=t.rows.length:=by unfold Pb;rw[aq,List.length_range,aq]
 rw[V,aQ,<- v,du]at D
 have B:=Oc (d:=5) (g:=Ci (Aa 5)) (c:=rev t x y [sFa (Fj t.cols ks),sFa (Fj t.cols ns),none,none,none,none]) rfl ((U6 (fi:=A0m (cOp Ai (Aa 0) (cC (.int 1)))) (by wp_walk using rev,A0m,Ai,Tb.d,Ke) rfl).trans D)
 rw[cP]at B
 have H:(DE.dat ∘ λq=>DE.l (nmK l l.length q))=λq=>PyData.list _:=rfl
 rw[H]at B
 wp_walk using Ef,G7,X,W,B
theorem Ar3 {l:m7}(hv:∀x∈l,VBs x)(hl:l.length<=200):Dr [.im (.list (l.map tD))]=.ret (.im (.tuple ((fs l).map tD))) [.im (.list (l.map tD))]:=by
 obtain⟨c',j,n,b,u,rfl,rfl,rfl⟩:=Ku (d:=1) (g:=cgN 2) (F:=Ft) (c:=[sI _,none,none])
  (P:=λk c e a=>∃u,c=[some _,none,u]/\e=(fs (l.take k)).map tD/\a=(fs (l.take k)).map λ_=>DE.d (.bool true)) ⟨none,rfl,rfl,rfl⟩
  (λk x c e a m f=>by
   rw[aQ]at f ⊢;obtain⟨u,rfl,rfl,rfl⟩:=f;obtain⟨r,h,rfl⟩:=Ew m
   refine⟨[some _,none,some _],[some _,none,sI (tD r)],_,_,by trivial,rfl,?_,_,rfl,rfl,rfl⟩
   have:=Al3 (d:=1) (c:=[sI (.list (l.map tD)),none,sI (tD r)]) (fv:=λ_ _=>cC (.bool true)) (g:=λ_=>DE.d (.bool true)) A1h (by trivial) (by trivial) (Wj (l.take k)) (B2n (hv r (bh h))) (Lr (ao hl (by decide))) rfl
   rw[Ag3 ,<- Vd h]at this
   trivial)
 rw[aq,aQ,du]at b
 have o:=U6 (d:=1) (fi:=Bg (Aa 0)) (g:=cgN 2) (F:=Ft) (ds:=l.map tD) (ks:=[]) (es:=[]) (c:=[sI (.list _),none,none]) (by trivial) rfl
 have i:=Oc (d:=1) (g:=Ci (A0w (Aa 1))) (c:=[some _,none,none]) rfl (o.trans b)
 wp_walk using Dr,Kc,i,A0w
theorem A2j {qs:List PH}{ds:w5}{rest:n_}{sel:n7}{f:PH->m8}(hs:∀q:PH,sel [sI (tD q.1),sI (tD q.2)]=.ok (.o (.im (tD (f q)))) [sI (tD q.1),sI (tD q.2)])(hl:qs.length<=200) :
 cLC [none,none] (Ac7 (Aa 0)) (cgT 2 (Av (cgN 0) (Av (cgN 1) Ck))) Bj sel (some (.ty (.ds (qs.map kD) ds))::rest)=.ok (.o (.ls false ((qs.map f).map tD))) (some (.ty (.ds (qs.map kD) ds))::rest):=by
 obtain⟨cI,e,u,v,rfl⟩:=Dd (g:=cgT 2 (Av (cgN 0) (Av (cgN 1) Ck))) (ft:=Bj) (fe:=sel) (I:=λc=>∃u v,c=[u,v]) (f:=kD) (G:=λq=>tD (f q)) ⟨none,none,rfl⟩
  λq c hx a=>by
   obtain⟨u,v,rfl⟩:=a
   refine⟨[sI (tD q.1),sI (tD q.2)],?_,_,_,rfl⟩
   unfold kD
   wp_walk using hs q
 refine Dl (by rfl) (by grind) (by rw[cP];exact e) rfl
theorem A7j {qs:List PH}{ds:w5}(hv:∀q∈qs,VBs q.1/\VBs q.2)(hl:qs.length<=200):Fi [.ty (.ds (qs.map kD) ds)]=.ret (.im (.tuple ((fs (qs.map (·.1))).map tD))) [.ty (.ds (qs.map kD) ds)]:=by
 have b:=A2j (ds:=ds) (rest:=[]) (sel:=Aa 0) λq=>by trivial hl
 have c:=Ar3 (l:=qs.map (·.1)) λx d=>by obtain⟨q,e,a⟩:=aB.mp d;grind (by simp_all)
 wp_walk using Fi,J4,b,c
theorem Ba8 {qs:List PH} (hv:∀q∈qs,VBs q.1/\VBs q.2) (hp:VBs p) (d:VBs h) (ha:fa c=.ok (.o (.ty (.ds (qs.map kD) (qs.map g)))) c) (hw:fw c=.ok (.o (.im (kD (p,h)))) c) (hx:fx c=.ok (.o (.im x)) c) :
 Iz fa fw fx c=.ok (.o (.im (if (p,h)∈qs then g (p,h) else x))) c:=by
 unfold Iz;simp only[ha,R.bind_ok,hw,hx,nrm,frz,Ds,rdP,gj,O.dat]
 rw[if_pos (by
  rw[Wn hp d,Bool.true_and,bL];intro k b;obtain⟨q,a,rfl⟩:=aB.mp b
  exact Wn (hv q a).1 (hv q a).2),Am1 A0o]
 grind
abbrev K3 (qs:List PH) (g:PH->t6) (x:t6) (hs:m7) (p:m8):t6:=.tuple (hs.map λh=>if (p,h)∈qs then g (p,h) else x)
theorem Bl7 {qs:List PH}{g:PH->t6}{p:m8}{x:t6}{hs:m7}(hv:∀q∈qs,VBs q.1/\VBs q.2)(hp:VBs p)(d:∀h∈hs,VBs h)(hl:hs.length<=200) :
 Gf [.im (tD p),.im (.tuple (hs.map tD)),.ty (.ds (qs.map kD) (qs.map g)),.im x]=.ret (.im (K3 qs g x hs p)) [.im (tD p),.im (.tuple (hs.map tD)),.ty (.ds (qs.map kD) (qs.map g)),.im x]:=by
 obtain⟨cI,e,u,rfl⟩:=Dd (g:=cgN 0) (ft:=Bj) (fe:=Iz (Aa 2) (Df (Ab (Aa 3) (Ab (Aa 0) Ak))) (Aa 1)) (I:=λc=>∃u,c=[u,sI x,some (.ty (.ds (qs.map kD) (qs.map g))),sI (tD p)]) (f:=tD) (G:=λh=>if (p,h)∈qs then g (p,h) else x) (xs:=hs) (acc:=[]) (c:=[none,sI x,some (.ty (.ds (qs.map kD) (qs.map g))),sI (tD p)]) ⟨none,rfl⟩
  (λh c b i=>by
   obtain⟨u,rfl⟩:=i
   refine⟨[sI (tD h),some _,some _,some _],?_,_,rfl⟩
   have e:=Ba8 (g:=g) hv hp (d h b) (c:=[sI _,sI x,some (.ty _),sI _]) (fa:=Aa 2) (fw:=Df (Ab (Aa 3) (Ab (Aa 0) Ak))) (fx:=Aa 1) (by rfl) (by rfl) (by rfl)
   unfold Mf
   rw[show cgN 0 _ _=.ok _ [some _,some _,some _,some _] from rfl]
   show (Iz _ _ _ _).bind _=_
   rw[e];rfl)
 have a:cLC [none,some 3,some 2,some 0] (Bg (Aa 1)) _ _ _ [sI _,sI (.tuple (hs.map _)),some (.ty _),sI x]=.ok _ _ :=
  Dl (by trivial) (by grind) (by exact e) rfl
 wp_walk using Gf,Nq,a,Be
theorem Bm8 {qs:List PH}{g:PH->t6}{x:t6}{ps hs:m7}(hv:∀q∈qs,VBs q.1/\VBs q.2)(hp:∀p∈ps,VBs p)(i:∀h∈hs,VBs h)(hl:hs.length<=200)(b:ps.length<=200) :
 Ho [.im (.tuple (ps.map tD)),.im (.tuple (hs.map tD)),.ty (.ds (qs.map kD) (qs.map g)),.im x]=.ret (.im (.tuple (ps.map (K3 qs g x hs)))) [.im (.tuple (ps.map tD)),.im (.tuple (hs.map tD)),.ty (.ds (qs.map kD) (qs.map g)),.im x]:=by
 obtain⟨cI,e,u,rfl⟩:=Dd (g:=cgN 0) (ft:=Bj) (fe:=cF Gf (Ab (Aa 0) (Ab (Aa 1) (Ab (Aa 2) (Ab (Aa 3) Ak))))) (I:=λc=>∃u,c=[u,sI (.tuple (hs.map tD)),some (.ty (.ds (qs.map kD) (qs.map g))),sI x]) (f:=tD) (G:=K3 qs g x hs) (xs:=ps) (acc:=[]) (c:=[none,sI (.tuple (hs.map tD)),some (.ty (.ds (qs.map kD) (qs.map g))),sI x]) ⟨none,rfl⟩
  (λp c d j=>by
   obtain⟨u,rfl⟩:=j
   refine⟨[sI (tD p),sI (.tuple (hs.map tD)),some _,some _],?_,_,rfl⟩
   wp_walk using Bl7 hv (hp p d) i hl)
 have a:cLC [none,some 1,some 2,some 3] (Bg (Aa 0)) _ _ _ [sI (.tuple (ps.map _)),sI _,some (.ty _),sI x]=.ok _ _ :=
  Dl (by trivial) (by grind) (by exact e) rfl
 wp_walk using Ho,M8,a,Be
theorem B4d {x:Str}:∀{ns:v4},ns.Nodup->x∈ns->ns.countP (λz=>z==x)=1
 | y::ns,nd,h=>by
  obtain⟨n1,n2⟩:=bC.mp nd;rw[jz]
  by_cases e:y=x
  ·have:ns.countP (λz=>z==x)=0:=List.countP_eq_zero.mpr λz hz q=>n1 (by rw[e,<- cU q];exact hz)
   rw[this,if_pos (by rw[e];exact cH x)]
  ·rw[if_neg (by rw[cV.mpr e];decide),B4d n2 ((aD.mp h).resolve_left λz=>e z.symm)]
theorem A4v {ns:v4}(a:ns.Nodup) (hx:x∈ns):Km (.list (ns.map PyData.str)) (.str x)=sI (.int 1):=by
 show (strsOf _).map _=_
 rw[Nt,fG,B4d a hx];rfl
theorem Va (h:l.length<=16000000):N7 (sqD b l)=sFa l:=by
 cases b <;> simp[sqD,N7]
theorem A7e {qs:List PH}{ds:w5}(hv:∀q∈qs,VBs q.1/\VBs q.2)(hl:qs.length<=200) :
 Fp [.ty (.ds (qs.map kD) ds),.im (.str "seen")]=.ret (.im (.tuple ((fs (qs.map (·.2))).map tD))) [.ty (.ds (qs.map kD) ds),.im (.str "seen")]:=by
 have b:=A2j (ds:=ds) (rest:=[sI (.str "seen"),none]) (sel:=Aa 1) λq=>by trivial hl
 have c:=Ar3 (l:=qs.map (·.2)) λx d=>by obtain⟨q,f,e⟩:=aB.mp d;grind (by simp_all)
 have a:Ce false (.str "seen") (.str "rising")=sI (.bool false):=by rw[Vh,if_neg (by decide),bj (by trivial)]
 wp_walk using Fp,J5,b,c,a
theorem A8i:Gv [.im (.str "seen")]=.ret (.im .none) [.im (.str "seen")]:=rfl
theorem B1k : Ma [sqD b l]=sI (.int l.length):=by cases b <;> rfl
theorem B2c (ht:Tb.Ok t) {ks ns vs:v4}(h:(ks++ns++vs).Perm t.cols) (hv:1<=vs.length) :
 Cp [.im (.tuple (t.cols.map PyData.str)),.im (sqD a (ks.map PyData.str)),.im (sqD b (ns.map PyData.str)),.im (sqD c (vs.map PyData.str))]=.ret (.im .none) [.im (.tuple (t.cols.map PyData.str)),.im (sqD a (ks.map PyData.str)),.im (sqD b (ns.map PyData.str)),.im (sqD c (vs.map PyData.str))]:=by
 have D:=h.length_eq;have cl:=ht.clen;rw[aK,aK]at D
 have i:=Va (b:=a) (l:=ks.map PyData.str) (by rw[aq];lia)
 have k:=Va (b:=b) (l:=ns.map PyData.str) (by rw[aq];lia)
 have m:=Va (b:=c) (l:=vs.map PyData.str) (by rw[aq];lia)
 have n:Aw (.list (ks.map PyData.str)) (.list (ns.map PyData.str))=sFa ((ks++ns).map PyData.str):=by
  show (if _ then _ else _)=_
  rw[if_pos (by rw[aq,aq];lia),bw]
 have o:Aw (.list ((ks++ns).map PyData.str)) (.list (vs.map PyData.str))=sFa ((ks++ns++vs).map PyData.str):=by
  show (if _ then _ else _)=_
  rw[if_pos (by rw[aq,aq,aK];lia),<- bw]
 have p:=h.nodup_iff.mpr ht.nms.nd
 have q:Ce false (.int 1) (.int 1)=sI (.bool true):=by rw[Jc rfl rfl];rfl
 obtain⟨cI,e,u,rfl⟩:=Dd (g:=cgN 0) (ft:=Bj) (fe:=cOp (Ce false) (cMt Qm Km (Aa 1) (Aa 0)) (cC (.int 1))) (I:=λc=>∃u,c=[u,sT ((ks++ns++vs).map PyData.str)]) (f:=PyData.str) (G:=λ_=>PyData.bool true) (xs:=t.cols) (acc:=[]) (c:=[none,sT ((ks++ns++vs).map PyData.str)]) ⟨none,rfl⟩
  (λx c v w=>by
   obtain⟨u,rfl⟩:=w
   refine⟨[sI (.str x),sT ((ks++ns++vs).map PyData.str)],?_,_,rfl⟩
   wp_walk using cMt,Qm,A4v p (h.mem_iff.mpr v),q)
 rw[dH,List.map_const']at e
 have y:((ks++ns++vs).map PyData.str).length=(t.cols.map PyData.str).length:=by rw[aq,aq];exact h.length_eq
 have s:Ce true (.int ((t.cols.map PyData.str).length:Nat)) (.int ((t.cols.map PyData.str).length:Nat))=sI (.bool false):=by
  rw[Jc rfl rfl,Bq6];rfl
 have r:Ce false (.int ((vs.map PyData.str).length:Nat)) (.int 0)=sI (.bool false):=by
  rw[Jc rfl rfl]
  show some (O.im (.bool (((vs.map PyData.str).length:Int)==0)))=_
  rw[cV.mpr (by rw[aq];lia)]
 generalize hA:sqD a (ks.map PyData.str)=A at *
 generalize hB:sqD b (ns.map PyData.str)=B at *
 have d:=B1k (b:=c) (l:=vs.map PyData.str)
 generalize hC:sqD c (vs.map PyData.str)=C at *
 generalize (ks++ns++vs).map PyData.str=L at *
 have z:Ma [.tuple (t.cols.map PyData.str)]=sI (.int (t.cols.map PyData.str).length):=rfl;have E:Ma [.list L]=sI (.int L.length):=rfl
 have j:cLC [none,some 4] (Bg (Aa 0)) (cgN 0) Bj (cOp (Ce false) (cMt Qm Km (Aa 1) (Aa 0)) (cC (.int 1))) [sI (.tuple (t.cols.map PyData.str)),sI A,sI B,sI C,sFa L]=.ok (.o (.ls false (List.replicate t.cols.length (.bool true)))) [sI (.tuple (t.cols.map PyData.str)),sI A,sI B,sI C,sFa L] :=
  Dl (c1:=[some _,some _,some _,some _,some (.ls _ L)]) (by wp_walk using Bg,Ke) (by rw[aq];lia) e rfl
 wp_walk using Cp,Es,i,k,m,n,o,j,Aj3,My,Al8,z,E,y,s,d,r
theorem Aj9 {p:Nat->Bool}{j:Nat}:∀{n:Nat},(∀i,i<n->(p i=true↔i=j))->(List.range n).filter p=if j<n then [j] else []
 | 0,_=>by simp
 | n+1,h=>by
  rw[List.range_succ,List.filter_append,Aj9 λi hi=>h i (fW hi)]
  have hn:=h n (eY n)
  by_cases e:n=j
  ·subst e
   rw[if_neg (bc _),if_pos (eY _),gA,if_pos (hn.mpr rfl)];rfl
  ·rw[gA,if_neg λz=>e (hn.mp z),List.filter_nil,cY]
   by_cases l:j<n
   ·rw[if_pos l,if_pos (fW l)]
   ·rw[if_neg l,if_neg (by lia)]
theorem Bg3 {a:Type}[DecidableEq a]{l:List a}(c:l.Nodup){q:a}(b:q∈l):nmK l l.length q=[.int (fnd q l:Nat)]:=by
 unfold nmK
 rw[Aj9 λi _=>⟨λz=>(Vq c (aZ z)).symm,λz=>aO (by rw[z];exact O1 b)⟩,if_pos (A6q b)];rfl
theorem A1u {b:Type}[DecidableEq b]{l:List b}(a:l.Nodup):fs l=l:=by
 refine Uy (P:=λl=>l.Nodup->fs l=l) (λ_=>rfl) (λl x d a=>?_) l a
 obtain⟨e,_,c⟩:=fC.mp a
 rw[Sv,d e,Jr λz=>c x z x (by simp) rfl]
theorem Bi0 {l:List PH}(d:l.Nodup)(hl:l.length<=200):Eb [grD l]=.ret (.im .none) [grD l]:=by
 obtain⟨cI,e,u,rfl⟩:=Kl (g:=cgN 0) (ft:=Bc (cOp Xd (J1 (Aa 0)) (cC (.int 1)))) (fe:=Df (Ab (cOp Ai (Aa 0) (cC (.int 1))) (Ab (cOp Ai (Aa 0) (cC (.int 0))) Ak))) (I:=λc=>∃u,c=[u]) (f:=λq=>PyData.list (nmK l _ q)) ⟨none,rfl⟩
  (λq c h b=>by
   obtain⟨u,rfl⟩:=b;rw[Bg3 d (zP.mp h)]
   refine⟨[sI (.list [.int (fnd q l)])],?_,_,rfl⟩
   rfl)
 have i:(fs l).filterMap (λ_=>(none:Option t6))=[]:=by simp
 rw[i]at e
 have j:cLC [none] (Ae2 (Aa 0)) _ _ _ [some (grD l),none,none]=.ok _ [some (grD l),none,none] :=
  Dl (by wp_walk using Ae2,aq) (by rw[aq];exact ao (Jk _) (by lia)) e rfl
 have a:Ma [.list []]=sI (.int 0):=rfl
 wp_walk using Eb,Hb,j,a
theorem Ao5 {α:Type}:∀ps:List α,ps.zip ps=ps.map λp=>(p,p)
 | []=>rfl
 | p::ps=>by rw[cX,aG,Ao5 ps]
theorem B0r {qs:List PH}{g:PH->t6}{ps hs:m7}(hv:∀q∈qs,VBs q.1/\VBs q.2)(hp:∀p∈ps,VBs p)(c:∀h∈hs,VBs h)(hl:hs.length<=200)(a:ps.length<=200) :
 Ec [.im (.tuple (ps.map tD)),.im (.tuple (hs.map tD)),.ty (.ds (qs.map kD) (qs.map g))]=.ret (.im (.tuple (ps.map λp=>.tuple [tD p,K3 qs g .none hs p]))) [.im (.tuple (ps.map tD)),.im (.tuple (hs.map tD)),.ty (.ds (qs.map kD) (qs.map g))]:=by
 have e:=Bm8 (g:=g) (x:=.none) hv hp c hl a
 have d:Gw (ps.map tD) (ps.map (K3 qs g .none hs))=ps.map λp=>.tuple [tD p,K3 qs g .none hs p]:=by
  rw[Mp,Ao5,cP];rfl
 have b:(ps.map tD).length=(ps.map (K3 qs g .none hs)).length:=by simp_all
 wp_walk using Ec,Hh,e,Ba3,Ke,b,d
theorem A6b [DecidableEq f] {e:f->t6}(he:∀a b,PyData.eqv (e a) (e b)=decide (a=b)) {qs:List f}{q:f} {g:f->DE} (h1:fv (qs.map e) (qs.map g) c=.ok (.o (.im x)) c1) (h2:fk c1=.ok (.o (.im (e q))) c1) (h:qs.Nodup) (hk:Ie (e q)=true) (hl:qs.length<=1000) (hn:Dc d c1=true) :
 Ap0 (d:=d) fk fv c (qs.map e) (qs.map g)=.nx c1 ((ins qs q).map e) ((ins qs q).map (upF g q (.d x))):=by
 unfold Ap0;simp only[h1,R.toB_ok,nrm,frz,h2,Ds,rdP,gj,O.dat]
 rw[if_pos (by grind),A0i he h]
def cellOf (t:Tb)(ks ns vs:v4)(q:PH):m8:=pick t.cols (t.rows.getD (fnd q (prs t ks ns)) []) vs
def Je (t:Tb)(ks ns:v4):m7:=fs ((prs t ks ns).map (·.2))
def Rq (t:Tb)(ks ns:v4):m7:=fs ((prs t ks ns).map (·.1))
def fdD (t:Tb)(ks ns vs:v4):t6:=.tuple [nD ks,nD ns,nD vs,.tuple ((Je t ks ns).map tD),.tuple ((Rq t ks ns).map λp=>.tuple [tD p,K3 (prs t ks ns) (λq=>tD (cellOf t ks ns vs q)) .none (Je t ks ns) p])]
abbrev fev (t:Tb)(a b c:t6)(gr:O)(rest:n_):Ev:=sI t.d::some (.im a)::some (.im b)::some (.im c)::some (.im (.str "seen"))::some gr::rest
theorem Tp {b:Bool}{ns:v4}(h:ns.length<=12):Be (sqD b (ns.map PyData.str))=sI (nD ns):=by
 cases b <;> simp[sqD,Be,nD]
theorem A6f {t:Tb}(ht:Tb.Ok t){a b c:Bool}{ks ns vs:v4}(u:(ks++ns++vs).Perm t.cols)(L:1<=vs.length)(H:(prs t ks ns).Nodup) :
 Kw [.im t.d,.im (sqD a (ks.map PyData.str)),.im (sqD b (ns.map PyData.str)),.im (sqD c (vs.map PyData.str)),.im (.str "seen")]=.ret (.im (fdD t ks ns vs)) [.im t.d,.im (sqD a (ks.map PyData.str)),.im (sqD b (ns.map PyData.str)),.im (sqD c (vs.map PyData.str)),.im (.str "seen")]:=by
 have v:=u.length_eq;have cl:=ht.clen;rw[aK,aK]at v
 have Z:Cs t ks:=⟨λx i=>u.mem_iff.mp (bf _ (bf _ i)),by lia⟩
 have Y:Cs t ns:=⟨λx i=>u.mem_iff.mp (bf _ (aR _ i)),by lia⟩
 have y:Cs t vs:=⟨λx i=>u.mem_iff.mp (aR _ i),by lia⟩
 have e1:=B2c ht (a:=a) (b:=b) (c:=c) u L;have I:=Bq3 ht (a:=a) (b:=b) Z Y;have e4:=Tn ht (b:=c) y.sub y.len;have E:=Lx ht (ks:=ks) (ns:=ns)
 have j:∀q∈prs t ks ns,VBs q.1/\VBs q.2:=λq e=>Mw ht e
 have w:∀{k:Nat} {q:PH},(prs t ks ns)[k]?=some q->∃r,t.rows[k]?=some r:=λ{k q} o=>by
  unfold prs at o;obtain⟨r,h,_⟩:=Ew o;exact⟨r,h⟩
 have t1:=Tp (b:=a) Z.len;have t2:=Tp (b:=b) Y.len;have t3:=Tp (b:=c) y.len
 have ec:∀q,cellOf t ks ns vs q=pick t.cols (t.rows.getD (fnd q (prs t ks ns)) []) vs:=λ_=>rfl
 unfold fdD Je Rq
 generalize cellOf t ks ns vs=G at *
 generalize sqD a (ks.map PyData.str)=A at *
 generalize sqD b (ns.map PyData.str)=B at *
 generalize sqD c (vs.map PyData.str)=C at *
 generalize prs t ks ns=l at *
 have K:=Bi0 H (ao E (by decide))
 have e6:=A7e (ds:=l.map λq=>PyData.list (nmK l l.length q)) j (ao E (by decide))
 have e7:=A7j (ds:=l.map λq=>PyData.list (nmK l l.length q)) j (ao E (by decide))
 have e8:=B0r (g:=λq=>tD (G q)) (ps:=fs (l.map (·.1))) (hs:=fs (l.map (·.2))) j (λp w=>by obtain⟨q,e,rfl⟩:=aB.mp (zP.mp w);exact(j q e).1) (λp w=>by obtain⟨q,e,rfl⟩:=aB.mp (zP.mp w);exact(j q e).2) (ao (Jk _) (by rw[aq];lia)) (ao (Jk _) (by rw[aq];lia))
 have D:=A1u H;unfold grD at I K;rw[D]at I K
 generalize hgr:O.ty (.ds (l.map kD) (l.map λq=>PyData.list (nmK l l.length q)))=gr at *
 obtain⟨c',ks',es',e9,s,M,J,rfl,Q,rfl,rfl⟩:=Ku (d:=7) (g:=cgT 2 (Av (cgN 8) (Av (cgN 9) Ck))) (F:=Jt) (items:=l.map λq=>PyData.tuple [kD q,.list (nmK l l.length q)]) (n:=0) (ks:=[]) (es:=[]) (c:=fev t A B C gr [sFa (Fj t.cols vs),none,none,none,none,none])
  (P:=λk c T S=>∃s M J,c=fev t A B C gr [some s,none,M,J,none,none]/\Yp s (Fj t.cols vs)/\T=(fs (l.take k)).map kD/\S=(fs (l.take k)).map λq=>DE.d (tD (G q))) ⟨_,none,none,rfl,.inl rfl,rfl,rfl⟩
  (λk x c T S i V=>by
   rw[aQ]at V ⊢;obtain⟨s,M,J,rfl,Q,rfl,rfl⟩:=V;obtain⟨q,e,rfl⟩:=Ew i;have W:=bh e;have m:=j q W;obtain⟨r,o⟩:=w e;have X:=Vq H e;have mr:=ht.rows r (bh o);have U:=Tc (r:=r) y.sub mr.1 y.len
   have gq:G q=pick t.cols r vs:=by rw[ec,X,jc,o];rfl
   rw[Bg3 H W,X];rw[<- gq]at U
   have z:Ai (.tuple (t.rows.map tD)) (.int (k:Nat))=sI (tD r):=by
    show (atI (t.rows.map tD) (k:Nat)).map O.im=_
    rw[Ii (by rw[bK,o];rfl)];rfl
   refine⟨fev t A B C gr [some s,none,sI (kD q),sI (.list [.int (k:Nat)]),none,none],fev t A B C gr [sI (.list (Fj t.cols vs)),none,sI (kD q),sI (.list [.int (k:Nat)]),none,none],_,_,(by wp_walk using fev),rfl,?_,_,_,_,rfl,.inr rfl,rfl,rfl⟩
   have:=A6b (d:=7) (c:=fev t A B C gr [some s,none,sI (kD q),sI (.list [.int (k:Nat)]),none,none]) (c1:=fev t A B C gr [sI (.list (Fj t.cols vs)),none,sI (kD q),sI (.list [.int (k:Nat)]),none,none]) (fk:=Aa 8) (fv:=λ_ _=>cF Cd (Ab (cOp Ai (cOp Ai (Aa 0) (cC (.int 1))) (cOp Ai (Aa 9) (cC (.int 0)))) (Ab (cFz (Aa 6)) Ak))) (g:=λq=>DE.d (tD (G q))) (q:=q) (x:=tD (G q)) A0o (by
    have z1:Ai t.d (.int 1)=sI (.tuple (t.rows.map tD)):=rfl;have z2:Ai (.list [.int (k:Nat)]) (.int 0)=sI (.int (k:Nat)):=rfl
    rcases Q with rfl | rfl <;> wp_walk using fev,z1,z2,z,U) (by wp_walk using fev) (Wj (l.take k)) (Wn m.1 m.2) (Lr (ao E (by decide))) rfl
   rw[Ag3 (g:=λq:PH=>DE.d (tD (G q))),<- Vd e]at this
   exact this)
 rw[aq,aQ,du,D]at e9
 have N:=U6 (d:=7) (fi:=Ux (Aa 5)) (g:=cgT 2 (Av (cgN 8) (Av (cgN 9) Ck))) (F:=Jt) (ds:=l.map λq=>PyData.tuple [kD q,.list (nmK l l.length q)]) (ks:=[]) (es:=[]) (c:=fev t A B C gr [sFa (Fj t.cols vs),none,none,none,none,none]) (c1:=fev t A B C gr [sFa (Fj t.cols vs),none,none,none,none,none]) (by
  subst hgr
  wp_walk using fev,Ux,aq,Y6) rfl
 have f:=λg=>Oc (d:=7) (g:=g) (c:=fev t A B C _ [some _,none,none,none,none,none]) rfl (N.trans e9)
 rw[cP]at f
 have R:(DE.dat ∘ λq=>DE.d (tD (G q)))=λq=>tD _:=rfl
 rw[R]at f;have c4:Ai t.d (.int 0)=some _:=rfl;subst hgr
 rcases Q with rfl | rfl <;> wp_walk using Kw,S7,c4,e1,A8i,I,K,e4,f,e6,e7,e8,t1,t2,t3
theorem Rr {w:Wd}(h:w.Gk){r:List Vl×List (Option (m8))}(hr:r∈w.rows){q:List Vl×Option (m8)}(a:q∈w.heads.zip r.2){x:m8}(e:Am8 (r.1,q.1,q.2)=some x):x.take (w.key.length+w.names.length)=r.1++q.1/\r.1.length=w.key.length:=by
 have ok:=Vb h (List.mem_flatMap.mpr ⟨r,hr,aB.mpr ⟨q,a,rfl⟩⟩)
 obtain⟨c,hc,rfl⟩:=aV.mp (show q.2.map _=some x from e)
 grind
theorem B2u {w:Wd}(h:w.Gk):w.out.Pairwise λx y=>x.take (w.key.length+w.names.length)≠y.take (w.key.length+w.names.length):=by
 rw[A7i,List.pairwise_flatMap]
 refine⟨λr d=>?_,?_⟩
 ·unfold Mj Dw
  rw[List.pairwise_filterMap,List.pairwise_map]
  have s:((w.heads.zip r.2).map Prod.fst).Nodup:=by
   rw[List.map_fst_zip (by rw[(h.rows r d).clen];exact au _)];exact h.hnd
  refine (List.pairwise_map.mp s).imp_of_mem λ{a b} f g i x c y k e=>i ?_
  obtain⟨j,_⟩:=Rr h d f c;obtain⟨l,_⟩:=Rr h d g k;rw[j,l]at e;exact List.append_cancel_left e
 ·refine (List.pairwise_map.mp h.rnd).imp_of_mem λ{a b} f g i x c y k e=>i ?_
  obtain⟨t1,o,p⟩:=eO.mp c;obtain⟨q1,q,rfl⟩:=aB.mp o;obtain⟨t2,n,u⟩:=eO.mp k;obtain⟨q2,t,rfl⟩:=aB.mp n;obtain⟨j,v⟩:=Rr h f q p;obtain⟨l,m⟩:=Rr h g t u;rw[j,l]at e
  exact(List.append_inj e (by rw[v,m])).1
def Wd.tb (w:Wd):Tb:=⟨w.key++w.names++w.vals,w.out⟩
theorem Aj1 {w:Wd}(h:w.Gk):Tb.Ok w.tb:=by
 have b:=h.vlen;have c:=h.vpos;have d:=h.kn
 have e:(w.key++w.names++w.vals).length=w.key.length+w.names.length+w.vals.length:=by grind
 exact⟨h.nms,by show 1<=(w.key++w.names++w.vals).length;lia,by show (w.key++w.names++w.vals).length<=12;lia,λr a=>⟨(Ae9 h r a).2.trans e.symm,(Ae9 h r a).1⟩,Bq4 h⟩
theorem As2 {w:Wd}(h:w.Gk){ks ns:v4}(n:(ks++ns).Perm (w.key++w.names)):(prs w.tb ks ns).Nodup:=by
 refine List.pairwise_map.mpr ((B2u h).imp_of_mem λ{x y} c d g e=>g ?_)
 obtain⟨j,k⟩:=Prod.mk.inj e;have p := (Ae9 h x c).2;have r := (Ae9 h y d).2
 have m:∀z∈w.key++w.names,vAt _ x z=vAt _ y z:=λz o=>by
  rcases bJ.mp (n.mem_iff.mpr o) with q | q
  ·exact List.map_inj_left.mp j z q
  ·exact List.map_inj_left.mp k z q
 apply j5;intro i;rw[List.getElem?_take,List.getElem?_take]
 by_cases hi:i<w.key.length+w.names.length
 ·have a:i<(w.key++w.names).length:=by rw[aK];exact hi
  have b:w.tb.cols[i]?=some (w.key++w.names)[i]:=by
   show (w.key++w.names++w.vals)[i]?=_
   rw[dF a,bz _]
  have f:=Vq (l:=w.tb.cols) h.nms.nd b;have:=m _ (jr a);unfold vAt at this
  grind
 ·rw[if_neg hi,if_neg hi]
theorem Oz {w:Wd}(h:w.Gk){ks ns:v4}{a b:Bool}(e:(ks++ns).Perm (w.key++w.names)):Cw [.im w.d,.im (sqD a (ks.map PyData.str)),.im (sqD b (ns.map PyData.str))]=.ret (.im (fdD w.tb ks ns w.vals)) [.im w.d,.im (sqD a (ks.map PyData.str)),.im (sqD b (ns.map PyData.str))]:=by
 have d:=An5 h;have g:=A6f (Aj1 h) (a:=a) (b:=b) (c:=true) (e.append_right _) h.vpos (As2 h e);have d:Hr _=.ret (.im w.tb.d) _:=d;have f:Ai w.d (.int 2)=sI (sqD true _):=rfl
 wp_walk using Cw,Te,d,g,f
theorem A2e {c:Ev}{i:Nat}{fe:n7}{o:O}{v:m8}{vs:m7}(ho:isL o (vs.map tD))(hi:c[i]?=some (some o))(hj:fe c=.ok (.o (.im (tD v))) c)(hv:VBs v)(hs:∀u∈vs,VBs u)(hl:vs.length<=200) :
 cOp Aw (Aa i) (cOp Pq (Er (Ab fe Ak)) (cUn Lz (cOp (Ml true) fe (Aa i)))) c=.ok (.o (.ls false ((ins vs v).map tD))) c:=by
 have b:=Aw3 (neg:=true) hv hs
 have a:∃k:Int,Lz (.bool (!decide (v∈vs)))=sI (.int k)/\Pq (.list [tD v]) (.int k)=sFa (if v∈vs then [] else [tD v]):=by
  by_cases m:v∈vs
  ·rw[if_pos m,aO m]
   exact⟨0,rfl,rfl⟩
  ·rw[if_neg m,bj m]
   exact⟨1,rfl,rfl⟩
 obtain⟨k,a,d⟩:=a
 have e:Aw (.list (vs.map tD)) (.list (if v∈vs then [] else [tD v]))=sFa ((ins vs v).map tD):=by
  show (if _ then _ else _)=_
  by_cases m:v∈vs
  ·rw[if_pos m,Ph m,if_pos (by simp;lia),cY]
  ·rw[if_neg m,Jr m,if_pos (by simp;lia),bw];rfl
 rcases ho with rfl | rfl <;> wp_walk using hi,hj,b,a,d,e
theorem An8 {l:List PH}{f:PH->m8} (h:l[k]?=some x):fs ((l.take (k+1)).map f)=ins (fs ((l.take k).map f)) (f x):=by
 rw[gf,h,bw];exact Sv
theorem Bk4 {t:Tb}{ks ns vs:v4}{k:Nat}{q:PH}(b:(prs t ks ns).Nodup)(a:(prs t ks ns)[k]?=some q):∃r,t.rows[k]?=some r/\cellOf t ks ns vs q=pick t.cols r vs/\q=(pick t.cols r ks,pick t.cols r ns):=by
 have c:=Vq b a;unfold prs at a;unfold cellOf
 grind
abbrev atE:n7:=cLC [none,some 1] (Bg (Aa 0)) (cgN 0) Bj (cMt Mx K7 (Aa 1) (Aa 0))
theorem As5 {cols L:v4}{b:Bool}(h:cols.Nodup)(hs:∀x∈L,x∈cols)(hl:L.length<=60):atE [sI (sqD b (L.map PyData.str)),sI (.tuple (cols.map PyData.str))]=.ok (.o (.ls false (Fj cols L))) [sI (sqD b (L.map PyData.str)),sI (.tuple (cols.map PyData.str))]:=by
 obtain⟨cI,e,u,rfl⟩:=Dd (g:=cgN 0) (ft:=Bj) (fe:=cMt Mx K7 (Aa 1) (Aa 0)) (I:=λc=>∃u,c=[u,sI (.tuple (cols.map PyData.str))]) (f:=PyData.str) (G:=λx=>PyData.int (fnd x cols)) ⟨none,rfl⟩
  (λx c d i=>by
   obtain⟨u,rfl⟩:=i;have a:=V7 h (O1 (hs x d))
   refine⟨[sI (.str x),some _],?_,_,rfl⟩
   wp_walk using cMt,Mx,a)
 exact Dl (A1z rfl) (by grind) e rfl
abbrev lfv (C R A B V:t6)(rest:n_):Ev:=sI C::some (.im R)::some (.im A)::some (.im B)::some (.im V)::rest
abbrev atD (cols ks ns vs:v4):w5:=[.list (Fj cols ks),.list (Fj cols ns),.list (Fj cols vs)]
theorem B4l {t:Tb}(ht:Tb.Ok t){a b c:Bool}{ks ns vs:v4}(hk:Cs t ks)(hn:Cs t ns)(hw:Cs t vs){R:t6}{rest:n_} :
 cLC [none,some 0] (Bg (Df (Ab (Aa 2) (Ab (Aa 3) (Ab (Aa 4) Ak))))) (cgN 0) Bj atE (lfv (.tuple (t.cols.map PyData.str)) R (sqD a (ks.map PyData.str)) (sqD b (ns.map PyData.str)) (sqD c (vs.map PyData.str)) rest)=.ok (.o (.ls false (atD t.cols ks ns vs))) (lfv (.tuple (t.cols.map PyData.str)) R (sqD a (ks.map PyData.str)) (sqD b (ns.map PyData.str)) (sqD c (vs.map PyData.str)) rest):=by
 have j:=As5 (b:=a) ht.nms.nd hk.sub (by have:=hk.len;lia)
 have k:=As5 (b:=b) ht.nms.nd hn.sub (by have:=hn.len;lia)
 have i:=As5 (b:=c) ht.nms.nd hw.sub (by have:=hw.len;lia)
 obtain⟨cI,e,u,rfl⟩:=Dd (g:=cgN 0) (ft:=Bj) (fe:=atE) (I:=λz=>∃u,z=[u,sI (.tuple (t.cols.map PyData.str))]) (f:=λp => p.1) (G:=λp=>p.2) (xs:=[(sqD a (ks.map PyData.str),.list (Fj t.cols ks)),(sqD b (ns.map PyData.str),.list (Fj t.cols ns)),(sqD c (vs.map PyData.str),.list (Fj t.cols vs))]) ⟨none,rfl⟩
  (λp z d h=>by
   obtain⟨u,rfl⟩:=h
   refine⟨[sI p.1,some _],?_,_,rfl⟩
   simp at d
   rcases d with rfl | rfl | rfl
   ·wp_walk using j
   ·wp_walk using k
   ·wp_walk using i)
 refine Dl (c1:=lfv _ R _ _ _ _) ?_ (by simp_all) e rfl
 rfl
abbrev ptI:n7:=cLC [none,some 1] (Bg (Aa 0)) (cgN 0) Bj (cOp Ai (Aa 1) (Aa 0))
theorem Ay8 {cols:v4}{r:m8}{ns:v4}(hn:∀x∈ns,x∈cols)(hr:r.length=cols.length)(hl:ns.length<=12):ptI [sI (.list (Fj cols ns)),sI (tD r)]=.ok (.o (.ls false (ns.map λx=>(vAt cols r x).d))) [sI (.list (Fj cols ns)),sI (tD r)]:=by
 obtain⟨cI,e,u,rfl⟩:=Dd (g:=cgN 0) (ft:=Bj) (fe:=cOp Ai (Aa 1) (Aa 0)) (I:=λc=>∃u,c=[u,sI (tD r)]) (f:=λx=>PyData.int (fnd x cols)) (G:=λx=>(vAt cols r x).d) ⟨none,rfl⟩
  (λx c b a=>by
   obtain⟨u,rfl⟩:=a
   refine⟨[sI (.int (fnd x cols)),some _],?_,_,rfl⟩
   wp_walk using Bb0 (hn x b) hr)
 exact Dl (c1:=[some _,sI _]) (by rfl) (by grind) e rfl
abbrev ptE:n7:=cLC [none,some 9] (Bg (Aa 5)) (cgN 0) Bj (cUn Be ptI)
theorem B6d {t:Tb}{ks ns vs:v4}(hk:Cs t ks)(hn:Cs t ns)(hw:Cs t vs){r:m8}(hr:r.length=t.cols.length){c:O}(j:Yp c (atD t.cols ks ns vs)){C R A B V:t6}{x6 x7 x8:m5}{rest:n_} :
 ptE (lfv C R A B V (some c::x6::x7::x8::some (.im (tD r))::rest))=.ok (.o (.ls false [tD (pick t.cols r ks),tD (pick t.cols r ns),tD (pick t.cols r vs)])) (lfv C R A B V (sI (.list (atD t.cols ks ns vs))::x6::x7::x8::some (.im (tD r))::rest)):=by
 have k:=Ay8 hk.sub hr hk.len;have h:=Ay8 hn.sub hr hn.len;have m:=Ay8 hw.sub hr hw.len
 have b:∀L:v4,PyData.tuple (L.map λx=>(vAt t.cols r x).d)=tD (pick t.cols r L):=λL=>by unfold tD pick;rw[cP];rfl
 have a:∀l:w5,Be (.list l)=sI (.tuple l):=λ_=>rfl
 obtain⟨cI,e,u,rfl⟩:=Dd (g:=cgN 0) (ft:=Bj) (fe:=cUn Be ptI) (I:=λz=>∃u,z=[u,sI (tD r)]) (f:=λp:PyData×t6=>p.1) (G:=λp=>p.2) (xs:=[(.list (Fj t.cols ks),tD (pick t.cols r ks)),(.list (Fj t.cols ns),tD (pick t.cols r ns)),(.list (Fj t.cols vs),tD (pick t.cols r vs))]) ⟨none,rfl⟩
  (λp z d i=>by
   obtain⟨u,rfl⟩:=i
   refine⟨[sI p.1,some _],?_,_,rfl⟩
   simp at d
   rcases d with rfl | rfl | rfl
   ·wp_walk using k,b,a
   ·wp_walk using h,b,a
   ·wp_walk using m,b,a)
 exact Dl (ds:=atD _ _ _ _) (c1:=lfv C R A B V (some _::x6::x7::x8::some (.im _)::rest)) (by
  rcases j with rfl | rfl <;> wp_walk using lfv,Bg,Ke) (by simp_all) e rfl
theorem A9m {t:Tb}(ht:Tb.Ok t){ks ns vs:v4}(hk:Cs t ks)(hn:Cs t ns)(hw:Cs t vs)(S:(prs t ks ns).Nodup){k:Nat}{a:m8}(hr:t.rows[k]?=some a){C R A B V:t6}{y n b:O}{o r m:m5}
 (M:Yp y (atD t.cols ks ns vs)) (X:Yp n ((fs (((prs t ks ns).take k).map (·.1))).map tD)) (Y:Yp b ((fs (((prs t ks ns).take k).map (·.2))).map tD)) :
 Dy (lfv C R A B V [some y,some n,some b,none,sI (tD a),o,r,m]) ((fs ((prs t ks ns).take k)).map kD) ((fs ((prs t ks ns).take k)).map λq=>DE.d (tD (cellOf t ks ns vs q))) =
 .nx (lfv C R A B V [sI (.list (atD t.cols ks ns vs)),sFa ((fs (((prs t ks ns).take (k+1)).map (·.1))).map tD),sFa ((fs (((prs t ks ns).take (k+1)).map (·.2))).map tD),none,sI (tD a),sI (tD (pick t.cols a ks)),sI (tD (pick t.cols a ns)),sI (tD (pick t.cols a vs))])
  ((fs ((prs t ks ns).take (k+1))).map kD) ((fs ((prs t ks ns).take (k+1))).map λq=>DE.d (tD (cellOf t ks ns vs q))):=by
 have v:=ht.rows a (bh hr)
 have s:(prs t ks ns)[k]?=some (pick t.cols a ks,pick t.cols a ns):=by unfold prs;simp_all
 obtain⟨D,z,N,_⟩:=Bk4 (vs:=vs) S s
 cases hr.symm.trans z
 have P:=Lx ht (ks:=ks) (ns:=ns);have E:=B6d hk hn hw v.1 M (C:=C) (R:=R) (A:=A) (B:=B) (V:=V) (x6:=some n) (x7:=some b) (x8:=none) (rest:=[o,r,m]);rw[<- N]at E ⊢;have F:VBs (pick t.cols a ks):=Ju v.2;have I:VBs (pick t.cols a ns):=Ju v.2
 have L:∀u∈fs (((prs t ks ns).take k).map (·.1)),VBs u:=λu w=>by
  obtain⟨q,x,rfl⟩:=aB.mp (zP.mp w);exact(Mw ht (Am5 x)).1
 have Q:∀u∈fs (((prs t ks ns).take k).map (·.2)),VBs u:=λu w=>by
  obtain⟨q,x,rfl⟩:=aB.mp (zP.mp w);exact(Mw ht (Am5 x)).2
 have H:∀f:PH->m8,(fs (((prs t ks ns).take k).map f)).length<=200:=λf=>ao (Jk _) (by grind)
 rw[An8 (f:=(·.1)) s,An8 (f:=(·.2)) s,Vd s]
 generalize hA:fs (((prs t ks ns).take k).map (·.1))=A1 at *
 generalize hB:fs (((prs t ks ns).take k).map (·.2))=B1 at *
 have T:=hA▸H (·.1)
 have U:=hB▸H (·.2)
 generalize atD t.cols ks ns vs=AT at *
 generalize cellOf t ks ns vs=G at *
 generalize hl':prs t ks ns=l at *
 generalize pick t.cols a ks=p at *
 generalize pick t.cols a ns=h at *
 have W:∀e j,Qd (d:=8) ptE (cgL 3 (Av (cgN 10) (Av (cgN 11) (Av (cgN 12) Ck)))) (lfv C R A B V [some y,some n,some b,none,sI (tD a),o,r,m]) e j =
  .nx (lfv C R A B V [sI (.list AT),some n,some b,none,sI (tD a),sI (tD p),sI (tD h),sI (tD (G (p,h)))]) e j:=λe j=>by
  unfold Qd;rw[E,K.R.toB_ok]
  rfl
 have Z:=A2e (c:=lfv C R A B V [sI (.list AT),some n,some b,none,sI (tD a),sI (tD p),sI (tD h),sI (tD (G (p,h)))]) (i:=6) (fe:=Aa 10) X rfl rfl F L T;have s3:=A2e (c:=lfv C R A B V [sI (.list AT),sFa ((ins A1 p).map tD),some b,none,sI (tD a),sI (tD p),sI (tD h),sI (tD (G (p,h)))]) (i:=7) (fe:=Aa 11) Y rfl rfl I Q U;unfold Dy Aq1;rw[W]
 show (match Qd (d:=8) _ _ _ _ _ with | .nx c ks es=>_ | .bad=>_)=_
 have s4:∀e j,Qd (d:=8) (cOp Aw (Aa 6) (cOp Pq (Er (Ab (Aa 10) Ak)) (cUn Lz (cOp (Ml true) (Aa 10) (Aa 6))))) (cgN 6) (lfv C R A B V [sI (.list AT),some n,some b,none,sI (tD a),sI (tD p),sI (tD h),sI (tD (G (p,h)))]) e j =
  .nx (lfv C R A B V [sI (.list AT),sFa ((ins A1 p).map tD),some b,none,sI (tD a),sI (tD p),sI (tD h),some _]) _ _:=λe j=>by
  unfold Qd;rw[Z];rfl
 rw[s4]
 show (match Qd _ _ _ _ _ with | .nx c _ _=>_ | .bad=>_)=_
 have J:∀e j,Qd (d:=8) (cOp _ _ _) (cgN 7) _ e j =
  .nx _ _ _:=λe j=>by
  unfold Qd;rw[s3];rfl
 rw[J]
 have:=Al3 (d:=8) (c:=lfv C R A B V [sI (.list AT),sFa ((ins A1 p).map tD),sFa ((ins B1 h).map tD),none,sI (tD a),sI (tD p),sI (tD h),sI (tD (G (p,h)))]) (fv:=λ_ _=>Aa 12) (g:=λq=>DE.d (tD (G q))) (q:=(p,h)) A0o rfl rfl (Wj (l.take k)) (Wn F I) (Lr (ao P (by decide))) rfl
 rw[Ag3 ]at this
 trivial
abbrev Bu5:n7:=Df (Ab (Aa 0) (Ab (cUn Be (cLC [none,some 2,some 0] (Bg (Aa 1)) (cgN 0) Bj (Iz (Aa 1) (Df (Ab (Aa 2) (Ab (Aa 0) Ak))) (cC .none)))) Ak))
theorem A9v {qs:List PH}{g:PH->t6}{P hs:m7}(hv:∀q∈qs,VBs q.1/\VBs q.2)(hp:∀p∈P,VBs p)(i:∀h∈hs,VBs h)(hl:hs.length<=200):∃u,Dk (cgN 0) Bj Bu5 (P.map tD) [] [none,sI (.list (hs.map tD)),some (.ty (.ds (qs.map kD) (qs.map g)))]=.ok (P.map λp=>.tuple [tD p,K3 qs g .none hs p]) [u,sI (.list (hs.map tD)),some (.ty (.ds (qs.map kD) (qs.map g)))]:=by
 have a:∀p∈P,cLC [none,some 2,some 0] (Bg (Aa 1)) (cgN 0) Bj (Iz (Aa 1) (Df (Ab (Aa 2) (Ab (Aa 0) Ak))) (cC .none)) [sI (tD p),sI (.list (hs.map tD)),some (.ty (.ds (qs.map kD) (qs.map g)))]=.ok (.o (.ls false (hs.map λh=>if (p,h)∈qs then g (p,h) else .none))) [sI (tD p),sI (.list (hs.map tD)),some (.ty (.ds (qs.map kD) (qs.map g)))]:=λp j=>by
  obtain⟨k,e,u,rfl⟩:=Dd (g:=cgN 0) (ft:=Bj) (fe:=Iz (Aa 1) (Df (Ab (Aa 2) (Ab (Aa 0) Ak))) (cC .none)) (I:=λc=>∃u,c=[u,some (.ty (.ds (qs.map kD) (qs.map g))),sI (tD p)]) (f:=tD) (G:=λh=>if (p,h)∈qs then g (p,h) else .none) (xs:=hs) (acc:=[]) (c:=[none,some (.ty (.ds (qs.map kD) (qs.map g))),sI (tD p)]) ⟨none,rfl⟩
   (λh c d b=>by
    obtain⟨u,rfl⟩:=b
    refine⟨[sI (tD h),some (.ty (.ds (qs.map kD) (qs.map g))),sI (tD p)],?_,_,rfl⟩
    have e:=Ba8 (x:=.none) (g:=g) hv (hp p j) (i h d) (c:=[sI (tD h),some (.ty (.ds (qs.map kD) (qs.map g))),sI (tD p)]) (fa:=Aa 1) (fw:=Df (Ab (Aa 2) (Ab (Aa 0) Ak))) (fx:=cC .none) (by trivial) (by rfl) (by trivial)
    unfold Mf
    rw[show cgN 0 _ _=.ok _ [some _,some _,some _] from rfl]
    show (Iz _ _ _ _).bind _=_
    rw[e];rfl)
  exact Dl (by rfl) (by grind) (by exact e) rfl
 obtain⟨k,e,u,rfl⟩:=Dd (g:=cgN 0) (ft:=Bj) (fe:=Bu5) (I:=λc=>∃u,c=[u,sI (.list (hs.map tD)),some (.ty (.ds (qs.map kD) (qs.map g)))]) (f:=tD) (G:=λp=>PyData.tuple [tD p,K3 qs g .none hs p]) (xs:=P) (acc:=[]) ⟨none,rfl⟩
  (λp c d b=>by
   obtain⟨u,rfl⟩:=b
   refine⟨[sI (tD p),some _,some _],?_,_,rfl⟩
   wp_walk using Bu5,a p d,Be)
 grind
theorem A0b {t:Tb}(ht:Tb.Ok t){a b c:Bool}{ks ns vs:v4}(z:(ks++ns++vs).Perm t.cols)(Z:(prs t ks ns).Nodup):Iu [.im (.tuple (t.cols.map PyData.str)),.im (.list (t.rows.map tD)),.im (sqD a (ks.map PyData.str)),.im (sqD b (ns.map PyData.str)),.im (sqD c (vs.map PyData.str))]=.ret (.im (fdD t ks ns vs)) [.im (.tuple (t.cols.map PyData.str)),.im (.list (t.rows.map tD)),.im (sqD a (ks.map PyData.str)),.im (sqD b (ns.map PyData.str)),.im (sqD c (vs.map PyData.str))]:=by
 have w:=z.length_eq;have cl:=ht.clen;rw[aK,aK]at w
 have K:Cs t ks:=⟨λx r=>z.mem_iff.mp (bf _ (bf _ r)),by lia⟩
 have L:Cs t ns:=⟨λx r=>z.mem_iff.mp (bf _ (aR _ r)),by lia⟩
 have I:Cs t vs:=⟨λx r=>z.mem_iff.mp (aR _ r),by lia⟩
 have J:=λm=>B4l ht (a:=a) (b:=b) (c:=c) K L I (R:=.list (t.rows.map tD)) (rest:=m)
 have t1:=Tp (b:=a) K.len;have t2:=Tp (b:=b) L.len;have t3:=Tp (b:=c) I.len
 generalize sqD a (ks.map PyData.str)=A at *
 generalize sqD b (ns.map PyData.str)=B at *
 generalize sqD c (vs.map PyData.str)=V at *
 have hrl:=ht.rlen
 obtain⟨c',ks',es',Y,j,v,s,o,f,h,i,rfl,W,C,D,rfl,rfl⟩:=Ku (d:=8) (g:=cgN 9) (F:=Dy) (items:=t.rows.map tD) (n:=0) (ks:=[]) (es:=[])
  (c:=lfv (.tuple (t.cols.map PyData.str)) (.list (t.rows.map tD)) A B V [sFa (atD t.cols ks ns vs),sFa [],sFa [],none,none,none,none,none])
  (P:=λk c X U=>∃j v s o f h i,c=lfv (.tuple (t.cols.map PyData.str)) (.list (t.rows.map tD)) A B V [some j,some v,some s,none,o,f,h,i]/\Yp j (atD t.cols ks ns vs)/\Yp v ((fs (((prs t ks ns).take k).map (·.1))).map tD)/\Yp s ((fs (((prs t ks ns).take k).map (·.2))).map tD) /\
   X=(fs ((prs t ks ns).take k)).map kD/\U=(fs ((prs t ks ns).take k)).map λq=>DE.d (tD (cellOf t ks ns vs q))) ⟨_,_,_,none,none,none,none,rfl,.inl rfl,.inl rfl,.inl rfl,rfl,rfl⟩
  (λk x c X U r E=>by
   rw[aQ]at E ⊢;obtain⟨j,v,s,o,f,h,i,rfl,W,C,D,rfl,rfl⟩:=E;obtain⟨H,hr,rfl⟩:=Ew r
   exact⟨lfv (.tuple (t.cols.map PyData.str)) (.list (t.rows.map tD)) A B V [some j,some v,some s,none,sI (tD H),f,h,i],_,_,_,rfl,rfl,A9m ht K L I Z hr W C D,_,_,_,_,_,_,_,rfl,.inr rfl,.inl rfl,.inl rfl,rfl,rfl⟩)
 have N:(prs t ks ns).length=t.rows.length:=by unfold prs;rw[aq]
 rw[aq,aQ,<- N,du]at Y C D;have O:=A1u Z;have hl:=Lx ht (ks:=ks) (ns:=ns)
 have M:∀q∈prs t ks ns,VBs q.1/\VBs q.2:=λq y=>Mw ht y
 have e4:=U6 (d:=8) (fi:=Bg (Aa 1)) (g:=cgN 9) (F:=Dy) (ds:=t.rows.map tD) (ks:=[]) (es:=[])
  (c:=lfv (.tuple (t.cols.map PyData.str)) (.list (t.rows.map tD)) A B V [sFa (atD t.cols ks ns vs),sFa [],sFa [],none,none,none,none,none]) (c1:=lfv (.tuple (t.cols.map PyData.str)) (.list (t.rows.map tD)) A B V [sFa (atD t.cols ks ns vs),sFa [],sFa [],none,none,none,none,none]) rfl rfl
 have S:=λg=>Oc (d:=8) (F:=Ak7 (d:=8) (Bg (Aa 1)) (cgN 9) Dy) (g:=g) (c:=lfv (.tuple (t.cols.map PyData.str)) (.list (t.rows.map tD)) A B V [sFa (atD t.cols ks ns vs),sFa [],sFa [],none,none,none,none,none]) rfl (e4.trans Y)
 rw[cP,O]at S
 have e6:(DE.dat ∘ λq=>DE.d (tD (cellOf t ks ns vs q)))=λq=>tD (cellOf t ks ns vs q):=rfl
 rw[e6]at S
 have lP:(fs ((prs t ks ns).map (·.1))).length<=200:=ao (Jk _) (by rw[aq];lia)
 have lH:(fs ((prs t ks ns).map (·.2))).length<=200:=ao (Jk _) (by rw[aq];lia)
 have E:∀p∈fs ((prs t ks ns).map (·.1)),VBs p:=λp Q=>by
  obtain⟨q,y,rfl⟩:=aB.mp (zP.mp Q);exact(M q y).1
 have hH:∀p∈fs ((prs t ks ns).map (·.2)),VBs p:=λp Q=>by
  obtain⟨q,y,rfl⟩:=aB.mp (zP.mp Q);exact(M q y).2
 obtain⟨u,e⟩:=A9v (g:=λq=>tD (cellOf t ks ns vs q)) M E hH lH
 unfold fdD Je Rq
 generalize (λq=>tD (cellOf t ks ns vs q))=G at *
 generalize hA:fs ((prs t ks ns).map (·.1))=A1 at *
 generalize hB:fs ((prs t ks ns).map (·.2))=B1 at *
 generalize prs t ks ns=l at *
 generalize PyData.tuple (t.cols.map PyData.str)=TC at *
 generalize PyData.list (t.rows.map tD)=TR at *
 have J:=J [none,none,none,none,none,none,none,none]
 generalize atD t.cols ks ns vs=AT at *
 have T:cLC [none,some 7,some 8] (Bt6 7 (Bg (Aa 6))) (cgN 0) Bj Bu5 (lfv TC TR A B V [some j,some v,some s,some (.ty (.ds (l.map kD) (l.map G))),o,f,h,i])=.ok (.o (.ls false (A1.map λp=>.tuple [tD p,K3 l G .none B1 p]))) (lfv TC TR A B V [some j,sI (.list (A1.map tD)),sI (.list (B1.map tD)),some (.ty (.ds (l.map kD) (l.map G))),o,f,h,i]) :=
  Dl (ds:=A1.map tD) (c1:=lfv TC TR A B V [some j,sI (.list (A1.map tD)),sI (.list (B1.map tD)),some (.ty (.ds (l.map kD) (l.map G))),o,f,h,i]) (by rcases C with rfl | rfl <;> rcases D with rfl | rfl <;> wp_walk using lfv,Bt6,Bg,Ke) (by rw[aq];lia) e rfl
 have t5:∀ds:w5,Be (.list ds)=sI (.tuple ds):=λ_=>rfl
 generalize (A1.map λp=>PyData.tuple [tD p,K3 l G .none B1 p])=R at *
 refine Oe (p:=.o (.im (.tuple [nD ks,nD ns,nD vs,.tuple (B1.map tD),.tuple R]))) (c:=[sI TC,sFa R,sI A,sI B,sI V,some j,sI (.list (A1.map tD)),sI (.list (B1.map tD)),some (.ty (.ds (l.map kD) (l.map G))),o,f,h,i]) ?_ rfl rfl
 refine (Br (A2c J rfl)).trans ?_
 refine (S _).trans ?_
 refine (Br (A2c T rfl)).trans ?_
 wp_walk using t1,t2,t3,t5
structure GL (ds:w5) (n w:Nat):Prop where
 lay:PyData.canLayAll0 ds=true
 g:Good (.tuple ds) (n+1) (w+4)
theorem GL.nil {n:Nat}:GL [] n 0:=⟨rfl,⟨rfl,rfl,rfl,by show 0+1<=n+1;lia,by decide⟩⟩
theorem GL.cons {d:t6}{ds:w5}{n w c:Nat}(h:Good d n w)(hs:GL ds n c):GL (d::ds) n (w+2+c):=by
 obtain⟨l,g⟩:=hs
 have e:PyData.canLayAll0 (d::ds)=true:=by show (d.canLay0&&PyData.canLayAll0 _)=true;rw[h.lay,l];rfl
 refine⟨e,⟨e,?_,?_,?_,?_⟩⟩
 ·have a:=h.shw
  have b:PyData.showableAll _=true:=g.shw
  show (d.showable&&PyData.showableAll _)=true
  simp_all
 ·have a:=h.dct
  have b:PyData.hasDictAll _=false:=g.dct
  show (d.hasDict||PyData.hasDictAll _)=false
  simp_all
 ·have a:=h.dep
  have b:PyData.depthAll _+1<=n+1:=g.dep
  show max _ _+1<=n+1
  lia
 ·have a:=h.wgt
  have b:Jv _+4<=c+4:=g.wgt
  show wt d+2+Jv _+4<=w+2+c+4
  lia
theorem Bt8 {t:Tb}(ht:Tb.Ok t){ks ns vs:v4}(hk:Cs t ks)(hn:Cs t ns)(hw:Cs t vs):∃w,Good (fdD t ks ns vs) 5 w/\Short 9 (fdD t ks ns vs):=by
 unfold fdD Je Rq
 obtain⟨b,i⟩:∃b,fs ((prs t ks ns).map (·.2))=b:=⟨_,rfl⟩
 rw[i]
 have L:∀h∈b,h∈fs ((prs t ks ns).map (·.2)):=λh z=>i▸z
 have C:b.length<=144:=by rw[<- i];exact ao (Jk _) (by rw[aq];exact Lx ht)
 have E:=Lx ht (ks:=ks) (ns:=ns)
 have s:∀l:v4,Cs t l->Good (nD l) 4 2000000000/\Short 8 (nD l):=λl h=>by
  have g:Good (nD l) 1 (1923*12+4):=Good.tup (λd a=>by obtain⟨x,D,rfl⟩:=aB.mp a;exact T6 (ht.nms.sub x (h.sub x D))) (by rw[aq];exact h.len)
  exact⟨g.mono (by decide) (by decide),Qo 8 _ (ao g.wgt (by decide)) (Al2 _)⟩
 have o:∀{q:PH},q∈prs t ks ns->VBs q.1/\q.1.length<=12/\VBs q.2/\q.2.length<=12:=λ{q} f=>by
  refine⟨(Mw ht f).1,?_,(Mw ht f).2,?_⟩
  all_goals
   obtain⟨x,_,rfl⟩:=aB.mp f
   show (pick _ _ _).length<=12
   unfold pick;rw[aq]
  ·exact hk.len
  ·exact hn.len
 have A:∀d∈b.map tD,Good d 1 (1923*12+4)/\noL d=true:=λd a=>by
  obtain⟨h,M,rfl⟩:=aB.mp a;obtain⟨q,f,rfl⟩:=aB.mp (zP.mp (L h M));exact⟨Hk (o f).2.2.1 (o f).2.2.2,Ad0 _⟩
 have y:=Good.tup (λd a=>(A d a).1) (show (b.map tD).length<=144 by rw[aq];exact C)
 have F:∀p∈fs ((prs t ks ns).map (·.1)),Good (.tuple [tD p,K3 (prs t ks ns) (λq=>tD (cellOf t ks ns vs q)) .none b p]) 3 7100000/\noL (.tuple [tD p,K3 (prs t ks ns) (λq=>tD (cellOf t ks ns vs q)) .none b p])=true:=λp G=>by
  obtain⟨q,f,rfl⟩:=aB.mp (zP.mp G)
  have c:∀d∈b.map (λh=>if (q.1,h)∈prs t ks ns then tD (cellOf t ks ns vs (q.1,h)) else .none),Good d 1 (1923*12+4)/\noL d=true:=λd a=>by
   obtain⟨h,_,rfl⟩:=aB.mp a
   by_cases m:(q.1,h)∈prs t ks ns
   ·rw[if_pos m]
    refine⟨Hk (Ju ?_) (show (pick _ _ _).length<=12 by unfold pick;rw[aq];exact hw.len),Ad0 _⟩
    rw[jc]
    cases e:t.rows[fnd (q.1,h) (prs t ks ns)]? with
    | none=>exact λv H=>nomatch H
    | some r=>exact(ht.rows r (bh e)).2
   ·rw[if_neg m];exact⟨⟨rfl,rfl,rfl,by decide,by decide⟩,rfl⟩
  have I:=Good.tup (λd a=>(c d a).1) (show (b.map _).length<=144 by rw[aq];exact C)
  have J:=Ad9 λd a=>(c d a).2
  have K:=(Hk (o f).1 (o f).2.1).mono (show 1<=2 by decide) (show 1923*12+4<=3500000 by decide)
  refine⟨(Good.tup (n:=2) (w:=3500000) (k:=2) (λd a=>?_) (au _)).mono (by decide) (by decide),?_⟩
  ·simp only[aD,aY,a_]at a
   rcases a with rfl | rfl
   ·exact K
   ·exact I.mono (by decide) (by decide)
  ·show (noL (tD q.1)&&(Tz _&&true))=true
   rw[J,show noL (tD q.1)=true from Ad0 _];rfl
 have B:((fs ((prs t ks ns).map (·.1))).map λp=>PyData.tuple [tD p,K3 (prs t ks ns) (λq=>tD (cellOf t ks ns vs q)) .none b p]).length<=144:=by rw[aq];exact ao (Jk _) (by rw[aq];exact E)
 have u:∀d∈(fs ((prs t ks ns).map (·.1))).map (λp=>PyData.tuple [tD p,K3 (prs t ks ns) (λq=>tD (cellOf t ks ns vs q)) .none b p]),Good d 3 7100000/\noL d=true:=λd a=>by
  grind
 have N:=Good.tup (λd a=>(u d a).1) B
 have j:∀d∈[nD ks,nD ns,nD vs,.tuple (b.map tD),.tuple ((fs ((prs t ks ns).map (·.1))).map λp=>PyData.tuple [tD p,K3 (prs t ks ns) (λq=>tD (cellOf t ks ns vs q)) .none b p])],Good d 4 _/\Short 8 d:=λd a=>by
  simp at a
  rcases a with rfl | rfl | rfl | rfl | rfl
  ·exact s _ hk
  ·exact s _ hn
  ·exact s _ hw
  ·exact⟨y.mono (by decide) (by decide),Qo 8 _ (ao y.wgt (by decide)) (Ad9 λd a=>(A d a).2)⟩
  ·exact⟨N.mono (by decide) (by decide),⟨ao B (by decide),λd a=>Qo 7 d (ao (u d a).1.wgt (by decide)) (u d a).2⟩⟩
 exact⟨_,Good.tup (λd a=>(j d a).1) (au _),⟨by show 5<=16000000;decide,λd a=>(j d a).2⟩⟩
theorem Bd5 {b:Type}[DecidableEq b]{l:List b}{a:b}(h:∀x∈l,x=a):(fs l).length<=1 :=
 List.Nodup.length_le_of_subset (Wj l) (l₂:=[a]) λx c=>by rw[h x (zP.mp c)];simp_all
def fdW (t:Tb)(ks ns vs:v4):Wd:=⟨ks,ns,vs,Je t ks ns,(Rq t ks ns).map λp=>(p,(Je t ks ns).map λh=>if (p,h)∈prs t ks ns then some (cellOf t ks ns vs (p,h)) else none)⟩
theorem Bx2 {t:Tb}{ks ns vs:v4}:(fdW t ks ns vs).d=fdD t ks ns vs:=by
 have e:∀p,M5 (p,(Je t ks ns).map λh=>if (p,h)∈prs t ks ns then some (cellOf t ks ns vs (p,h)) else none)=.tuple [tD p,K3 (prs t ks ns) (λq=>tD (cellOf t ks ns vs q)) .none (Je t ks ns) p]:=λp=>by
  unfold M5 K3
  have:(By ∘ λh=>if (p,h)∈prs t _ _ then some (cellOf t ks ns vs (p,h)) else none)=λh=>if (p,h)∈prs t _ _ then tD _ else .none:=funext λh=>by
   show By (if _ then _ else _)=_
   by_cases z:(p,h)∈prs t ks ns
   ·rw[if_pos z,if_pos z];rfl
   ·rw[if_neg z,if_neg z];rfl
  grind
 unfold Wd.d Wd.ps fdW fdD
 simp_all
theorem B1d {k n v H:Nat}{r:List Vl×List (Option (m8))}(h:Rg k n v r)(hk:k<=4)(hn:n<=H)(hv:v<=5):Good (M5 r) 3 (9621*H+7730):=by
 have a:Good _ 2 7696:=(Hk h.part (by rw[h.plen];omega)).mono (by decide) (by decide)
 have b:Good _ 2 (9621*H+4):=(Good.tup (λd e=>by obtain⟨c,f,rfl⟩:=aB.mp e;exact Xh (h.cells c f) hv) (by rw[aq,h.clen];grind)).mono (by decide) (au _)
 exact(GL.cons a (GL.cons b GL.nil)).g.mono (by decide) (by lia)
theorem Bu8 {w:Wd}(a:Names (w.key++w.names++w.vals))(hk:w.key.length<=4)(hn:w.names.length<=4)(hv:w.vals.length<=5)(o:∀h∈w.heads,h.length=w.names.length/\VBs h)(hr:∀r∈w.rows,Rg w.key.length w.heads.length w.vals.length r){H R:Nat}(h1:w.heads.length<=H)(h2:w.rows.length<=R)(hb:7698*H+(9621*H+7732)*R<=10000000):Good w.d 5 16000000:=by
 have n := λx b=>a.sub x (bf _ (bf _ b))
 have p := λx b=>a.sub x (bf _ (aR _ b))
 have i := λx b=>a.sub x (aR _ b)
 have j:=(Oq n hk).mono (show 1<=4 by decide) (au _)
 have k:=(Oq p hn).mono (show 1<=4 by decide) (au _)
 have l:=(Oq i hv).mono (show 1<=4 by decide) (au _)
 have m:Good _ 4 (7698*H+4):=(Good.tup (λd e=>by obtain⟨c,f,rfl⟩:=aB.mp e;exact(Hk (o c f).2 (show c.length<=4 by simp_all)).mono (au _) (by decide)) (by grind)).mono (by decide) (au _)
 have g:Good _ 4 ((9621*H+7732)*R+4):=(Good.tup (λd e=>by obtain⟨c,f,rfl⟩:=aB.mp e;exact B1d (hr c f) hk h1 hv) (by simp_all)).mono (by decide) (au _)
 exact(GL.cons j (GL.cons k (GL.cons l (GL.cons m (GL.cons g GL.nil))))).g.mono (by decide) (by lia)
theorem Bd9 {t:Tb}(ht:Tb.Ok t){ks ns vs:v4}(o:(ks++ns++vs).Perm t.cols)(u:ks.length+ns.length<=4)(hv:vs.length<=5)(hp:1<=vs.length)(e:ks=[]\/ns=[]):(fdW t ks ns vs).Gk:=by
 have hl:=Lx ht (ks:=ks) (ns:=ns)
 have d:Names (ks++ns++vs):=⟨o.nodup_iff.mpr ht.nms.nd,λx i=>ht.nms.sub x (o.mem_iff.mp i)⟩
 have m:∀h∈Je t ks ns,h.length=ns.length/\VBs h:=λh l=>by
  obtain⟨q,b,rfl⟩:=aB.mp (zP.mp l)
  refine⟨?_,(Mw ht b).2⟩
  obtain⟨r,_,rfl⟩:=aB.mp b;exact aq _
 have n:(Je t ks ns).length<=144:=ao (Jk _) (by grind)
 have k:(Rq t ks ns).length<=144:=ao (Jk _) (by simp_all)
 have g:∀r∈(fdW t ks ns vs).rows,Rg ks.length (Je t ks ns).length vs.length r:=λr g=>by
  obtain⟨p,l,rfl⟩:=aB.mp g;obtain⟨q,b,rfl⟩:=aB.mp (zP.mp l)
  refine⟨?_,(Mw ht b).1,aq _,λc s us e=>?_⟩
  ·obtain⟨r,_,rfl⟩:=aB.mp b
   exact aq _
  ·obtain⟨h,_,rfl⟩:=aB.mp s
   by_cases z:(q.1,h)∈prs t ks ns
   ·rw[if_pos z]at e
    cases e
    refine⟨aq _,Ju ?_⟩
    rw[jc]
    cases e:t.rows[fnd (q.1,h) (prs t ks ns)]? with
    | none=>grind
    | some r=>exact(ht.rows r (bh e)).2
   simp_all
 have j:(fdW t ks ns vs).rows.length=(Rq t ks ns).length:=aq _
 have f:(Je t ks ns).length<=1\/(Rq t ks ns).length<=1:=by
  rcases e with rfl | rfl
  ·exact .inr (Bd5 (a:=[]) λx i=>by
    obtain⟨q,b,rfl⟩:=aB.mp i;obtain⟨r,_,rfl⟩:=aB.mp b
    rfl)
  ·exact .inl (Bd5 λx i=>by
    obtain⟨q,b,rfl⟩:=aB.mp i;obtain⟨r,_,rfl⟩:=aB.mp b
    rfl)
 refine⟨d,by show ks.length<=4;lia,by show ns.length<=4;lia,u,hv,hp,m,Wj _,n,g,?_,by rw[j];exact k,?_,?_⟩
 ·show (List.map _ ((Rq t _ _).map _)).Nodup
  rw[cP]
  have:((λr => r.1) ∘ λp=>(p,(Je t ks ns).map λh=>if (p,h)∈prs t ks ns then some (cellOf t ks ns vs (p,h)) else none))=id:=rfl
  rw[this,List.map_id];exact Wj _
 ·rw[j]
  show (Je t _ _).length*_<=144
  rcases f with z | z
  ·exact fD z k
  grind
 ·rcases f with z | z
  ·exact Bu8 d (by show ks.length<=4;lia) (by show ns.length<=4;lia) hv m g z (by rw[j];exact k) (by decide)
  ·exact Bu8 d (by show ks.length<=4;lia) (by show ns.length<=4;lia) hv m g n (by rw[j];exact z) (by decide)
abbrev nC (x:Str):Xn:=⟨Str.ofString "NoColumn",some (Str.ofString "name",.str x)⟩
def nm16:v4:=names12++[Str.ofString "no",Str.ofString "",Str.ofString "A",Str.ofString "-"]
theorem Bf4:(nm16.all λx=>Cr (.str x)&&(Aw8 (Str.ofString "no column ").length (.str x)&&vb (.str x)))=true:=by decide +kernel
theorem Z6 {x:Str}(h:x∈nm16):Cr (.str x)=true/\Aw8 (Str.ofString "no column ").length (.str x)=true/\VB (.str x):=by
 have:=bL.mp Bf4 x h
 grind
theorem B4c {x:Str}(h:x∈names12):x∈nm16:=bf _ h
theorem Ar4 (x:Str):∀cols:v4,((cols.map PyData.str).any λe=>PyData.eqv e (.str x))=decide (x∈cols)
 | []=>rfl
 | y::r=>by
  rw[aG,fP,Ar4 x r,Ag7]
  by_cases e:y=x
  ·subst e;simp
  ·simp[e,aF e]
theorem Ah6 {x:Str}{a:v4}(hx:x∈nm16)(hs:∀y∈a,y∈names12):Ml true (.str x) (nD a)=sI (.bool (!decide (x∈a))):=by
 show (if Cr _&&PyData.canLayAll0 _ then some _ else none)=_
 rw[(Z6 hx).1,Ov λd b=>by obtain⟨u,c,rfl⟩:=aB.mp b;exact(T6 (hs u c)).lay,Ar4]
 rfl
noncomputable def wo (x:Str) (l:v4):v4:=l.filter λy=>!decide (y=x)
theorem B0o {x:Str}:∀{l:v4},x∉l->wo x l=l:=λ{l} h=>List.filter_eq_self.mpr λy a=>by
 grind
theorem Ae8 {x:Str}:∀{l:v4},x∈l->l.Nodup->(wo x l++[x]).Perm l
 | y::r,h,nd=>by
  obtain⟨n1,n2⟩:=bC.mp nd
  by_cases e:y=x
  ·subst e
   have e1:wo y (y::r)=r:=by
    unfold wo
    rw[gA,aO rfl,if_neg (by decide)]
    exact B0o n1
   rw[e1];exact List.perm_append_singleton _ _
  ·have e1:wo x (y::r)=y::wo x r:=by
    unfold wo
    rw[gA,bj e,if_pos (show (!false)=true from rfl)]
   rw[e1,jD];exact(Ae8 ((aD.mp h).resolve_left (aF e)) n2).cons y
theorem U4 {x:Str}{k n:v4}(h:x∈k)(a:k.Nodup):(wo x k++(n++[x])).Perm (k++n) :=
 ((List.perm_append_comm ).append_left _).trans (by rw[<- dZ];exact(Ae8 h a).append_right n)
theorem Z4 {x:Str}{k n:v4}(h:x∈n)(a:n.Nodup):((k++[x])++wo x n).Perm (k++n):=by
 rw[dZ];exact(List.perm_append_comm.trans (Ae8 h a)).append_left k
theorem A9x (x:Str):∀l:v4,l.filterMap (λy=>if y=x then none else some (PyData.str y))=(wo x l).map PyData.str
 | []=>rfl
 | y::r=>by
  unfold wo
  by_cases e:y=x
  ·rw[dJ,if_pos e,gA,aO e,if_neg (by decide)];exact A9x x r
  ·rw[dJ,if_neg e,gA,bj e,if_pos (show (!false)=true from rfl),aG];exact bY _ (A9x x r)
abbrev woT:n6:=Bc (cOp (Ce true) (Aa 0) (Aa 1))
theorem A2i (x:Str)(l:v4):∃u,Dk (cgN 0) woT (Aa 0) (l.map PyData.str) [] [none,sI (.str x)]=.ok ((wo x l).map PyData.str) [u,sI (.str x)]:=by
 obtain⟨c',e,u,rfl⟩:=Kl (g:=cgN 0) (ft:=woT) (fe:=Aa 0) (I:=λc=>∃u,c=[u,sI (.str x)]) (f:=PyData.str) (G:=λy=>if y=x then none else some (PyData.str y)) (xs:=l) (acc:=[]) ⟨none,rfl⟩ (λy c hy ⟨u,b⟩=>by
  subst b
  refine⟨[sI (.str y),some _],?_,_,rfl⟩
  have a:Ce true (.str y) (.str x)=sI (.bool !decide (y=x)):=by rw[Vh];rfl
  by_cases z:y=x
  ·rw[if_pos z];rw[aO z]at a
   wp_walk using woT,a,ik
  ·rw[if_neg z];rw[bj z]at a
   wp_walk using woT,a,il)
 rw[A9x]at e
 grind
theorem Vt {x:Str}{l:v4}(hx:x∈nm16)(hs:∀y∈l,y∈names12)(hl:l.length<=60):Dq [nD l,.str x]=if x∈l then .ret (.im (nD (wo x l))) else .ex (nC x):=by
 have a:=Ah6 hx hs
 by_cases z:x∈l
 ·rw[if_pos z]
  rw[aO z]at a;obtain⟨u,e⟩:=A2i x l
  have c:cLC [none,some 1] (Bg (Aa 0)) _ _ _ [sI (nD l),some _]=.ok _ _ :=
   Dl (c1:=[some _,sI _]) (by trivial) (by grind) e rfl
  have d:Be (.list ((wo x l).map _))=sI (nD _):=rfl
  wp_walk using Dq,Ld,Ae6,xIf,Q7,Rf,a,ik,c,d
 ·rw[if_neg z]
  rw[bj z]at a;have b:=(Z6 hx).2.1
  wp_walk using Dq,Ld,Ae6,xIf,Q7,Qn,Rf,a,il,b
theorem A1t {w:Wd}(h:w.Gk):∀x∈w.key,x∈names12:=λx a=>h.nms.sub x (bf _ (bf _ a))
theorem A1w {w:Wd}(h:w.Gk):∀x∈w.names,x∈names12:=λx a=>h.nms.sub x (bf _ (aR _ a))
theorem Uh {w:Wd}(h:w.Gk):w.key.Nodup/\w.names.Nodup:=by
 have a:=(fC.mp h.nms.nd).1
 grind
abbrev hdF (w:Wd)(x:Str):t6:=fdD w.tb (wo x w.key) (w.names++[x]) w.vals
abbrev kyF (w:Wd)(x:Str):t6:=fdD w.tb (w.key++[x]) (wo x w.names) w.vals
theorem Bn0 {w:Wd}(h:w.Gk){x:Str}(hx:x∈nm16):Et [w.d,.str x]=if x∈w.key then .ret (.im (hdF w x)) else .ex (nC x):=by
 have c:=Vt (l:=w.key) hx (A1t h) (by have:=h.klen;lia)
 have d:Ai w.d (.int 0)=sI (nD w.key):=rfl;have f:Ai w.d (.int 1)=sI (nD w.names):=rfl
 have g:Aw (nD w.names) (.tuple [.str x])=sI (nD (w.names++[x])):=add_n (b:=[x]) (by have:=h.nlen;grind)
 by_cases z:x∈w.key
 ·rw[if_pos z]at c ⊢
  have e:Cw [.im w.d,.im (nD (wo x w.key)),.im (nD _)]=.ret _ _:=Oz h (a:=true) (b:=true) (U4 z (Uh h).1)
  wp_walk using Et,Qh,S9,cFY,Mh,Mm,Rf,d,f,c,e,g
 ·rw[if_neg z]at c ⊢
  wp_walk using Et,Qh,S9,cFY,Mh,Mm,Rf,d,c,gM,List.all_nil
theorem B0e {w:Wd}(h:w.Gk){x:Str}(hx:x∈nm16):Ge [w.d,.str x]=if x∈w.names then .ret (.im (kyF w x)) else .ex (nC x):=by
 have c:=Vt (l:=w.names) hx (A1w h) (by have:=h.nlen;lia)
 have e:Ai w.d (.int 0)=sI (nD w.key):=rfl;have d:Ai w.d (.int 1)=sI (nD w.names):=rfl
 have g:Aw (nD w.key) (.tuple [.str x])=sI (nD (w.key++[x])):=add_n (b:=[x]) (by have:=h.klen;grind)
 by_cases z:x∈w.names
 ·rw[if_pos z]at c ⊢
  have f:Cw [.im w.d,.im (nD (w.key++[x])),.im (nD _)]=.ret _ _:=Oz h (a:=true) (b:=true) (Z4 z (Uh h).2)
  wp_walk using Ge,Ow,Ae6,Q7,Ak5,Mh,Mm,Rf,e,d,c,f,g
 ·rw[if_neg z]at c ⊢
  wp_walk using Ge,Ow,Ae6,Q7,Ak5,Mh,Mm,Rf,d,c
abbrev Ap1 (x:Str):t6:=.tuple [.str "refused",.int 1,.str x]
def Up (w:Wd)(x:Str)(b:Bool):t6:=if b then (if x∈w.key then hdF w x else Ap1 x) else if x∈w.names then kyF w x else Ap1 x
theorem B2h {d:t6}:Ea [.im d,.im .none]=.ret (.im d) [.im d,.im .none]:=by
 trivial
theorem B1g {x:Str}:∃o,Ea [.im .none,.ty (.xc (nC x))]=.ret (.im (Ap1 x)) o:=⟨_,rfl⟩
theorem A9y {F:w5->XF}{x:Str}{P:Prop}[Decidable P]{r a b:t6}{i j:Nat}{c:Ev}(h:F [a,b]=if P then .ret (.im r) else .ex (nC x))(hi:c[i]?=some (sI a))(hj:c[j]?=some (sI b)) :
 Wb F Ea ["NoColumn"] (Ab (Aa i) (Ab (Aa j) Ak)) c=.ok (.o (.im (if P then r else Ap1 x))) c:=by
 by_cases z:P
 ·rw[if_pos z]at h ⊢
  unfold Wb
  wp_walk using hi,hj,h,B2h
 ·rw[if_neg z]at h ⊢
  obtain⟨o,e2⟩:=B1g (x:=x)
  have z:(Str.ofString "NoColumn" == Str.ofString "NoColumn")=true:=by decide +kernel
  unfold Wb
  wp_walk using hi,hj,h,z,e2
theorem B4r {w:Wd}(h:w.Gk){x:Str}(hx:x∈nm16){c:Ev}(hi:c[3]?=some (sI w.d))(hj:c[7]?=some (sI (.str x))):Wb Et Ea ["NoColumn"] (Ab (Aa 3) (Ab (Aa 7) Ak)) c=.ok (.o (.im (Up w x true))) c:=A9y (Bn0 h hx) hi hj
theorem B4j {w:Wd}(h:w.Gk){x:Str}(hx:x∈nm16){c:Ev}(hi:c[3]?=some (sI w.d))(hj:c[7]?=some (sI (.str x))):Wb Ge Ea ["NoColumn"] (Ab (Aa 3) (Ab (Aa 7) Ak)) c=.ok (.o (.im (Up w x false))) c:=A9y (B0e h hx) hi hj
theorem Az6 {x:Str}{l:v4}(hl:l.length<=60){s0 s2 s3 s4:m5}{r:Ev}:cLC [none,some 1] (Bg (Aa 5)) (cgN 0) woT (Aa 0) (s0::some (.im (.str x))::s2::s3::s4::some (.im (nD l))::r)=.ok (.o (.ls false ((wo x l).map PyData.str))) (s0::some (.im (.str x))::s2::s3::s4::some (.im (nD l))::r):=by
 obtain⟨u,e⟩:=A2i x l
 exact Dl (ds:=l.map PyData.str) (c1:=s0::some (.im (.str x))::s2::s3::s4::some (.im (nD l))::r) (by wp_walk using Bg,nD,Ke) (by rw[aq];lia) e rfl
theorem A7m {w:Wd}(h:w.Gk){x:Str}(hx:x∈nm16)(b:Bool):Gr [.im w.d,.im (.str x),.im (.bool b)]=.ret (.im (Up w x b)) [.im w.d,.im (.str x),.im (.bool b)]:=by
 have e1:=Bo5 h;have e1:Ks [.im w.d]=.ret (.im (.tuple [.tuple (w.tb.cols.map PyData.str),.list (w.tb.rows.map tD)])) [.im w.d]:=e1;have i0:Ai w.d (.int 0)=sI (nD w.key):=rfl;have i1:Ai w.d (.int 1)=sI (nD w.names):=rfl;have i2:Ai w.d (.int 2)=sI (sqD true (w.vals.map PyData.str)):=rfl;have hk:=h.klen;have hn:=h.nlen;have n1:Lz (.bool true)=sI (.int 1):=rfl;have n0:Lz (.bool false)=sI (.int 0):=rfl
 have x1:∀A B:t6,Ai (.list [A,B]) (.int 1)=sI B:=λ_ _=>rfl
 have x0:∀A B:t6,Ai (.list [A,B]) (.int 0)=sI A:=λ_ _=>rfl
 have l1:∀{l:v4},l.length<=4->N7 (nD l)=sFa (l.map PyData.str):=λ{l} hl=>Va (b:=true) (l:=l.map PyData.str) (by rw[aq];lia)
 have a1:∀{l:v4},l.length<=4->Aw (.list (l.map PyData.str)) (.list [.str x])=sFa ((l++[x]).map PyData.str):=λ{l} hl=>by
  show (if _ then _ else _)=_
  rw[if_pos (by rw[aq];simp;lia),bw];rfl
 cases b with
 | true =>
  have h1:=Ah6 hx (A1t h);unfold Up;rw[if_pos rfl]
  by_cases z:x∈w.key
  ·rw[if_pos z]
   rw[aO z]at h1;have e2:=A0b (Aj1 h) (a:=false) (b:=false) (c:=true) ((U4 z (Uh h).1 (n:=w.names)).append_right w.vals) (As2 h (U4 z (Uh h).1));have e2:Iu [.im (.tuple (w.tb.cols.map PyData.str)),.im (.list (w.tb.rows.map tD)),.im (.list ((wo x w.key).map PyData.str)),.im (.list ((w.names++[x]).map PyData.str)),.im (sqD true (w.vals.map PyData.str))]=.ret (.im (hdF w x)) [.im (.tuple (w.tb.cols.map PyData.str)),.im (.list (w.tb.rows.map tD)),.im (.list ((wo x w.key).map PyData.str)),.im (.list ((w.names++[x]).map PyData.str)),.im (sqD true (w.vals.map PyData.str))]:=e2
   have e3:=λ(s0 s2 s3 s4:m5) (r:Ev)=>Az6 (x:=x) (l:=w.key) (by lia) (s0:=s0) (s2:=s2) (s3:=s3) (s4:=s4) (r:=r)
   have l1:=l1 hn;have a1:=a1 hn
   generalize hdF w x=F at *
   generalize PyData.tuple (w.tb.cols.map PyData.str)=TC at *
   generalize PyData.list (w.tb.rows.map tD)=TR at *
   generalize sqD true (w.vals.map PyData.str)=V at *
   generalize (wo x w.key).map PyData.str=A at *
   generalize (w.names++[x]).map PyData.str=B at *
   generalize w.names.map PyData.str=B1 at *
   generalize nD w.key=K1 at *
   generalize nD w.names=N1 at *
   generalize w.d=D at *
   wp_walk using Gr,Kh,e1,i0,i1,i2,n1,x1,h1,ik,e3,l1,a1,e2
  ·rw[if_neg z]
   rw[bj z]at h1
   generalize PyData.tuple (w.tb.cols.map PyData.str)=TC at *
   generalize PyData.list (w.tb.rows.map tD)=TR at *
   generalize nD w.key=K1 at *
   generalize nD w.names=N1 at *
   generalize w.d=D at *
   wp_walk using Gr,Kh,e1,i0,i1,n1,x1,h1,il
 | false =>
  have h1:=Ah6 hx (A1w h);unfold Up;rw[if_neg aW]
  by_cases z:x∈w.names
  ·rw[if_pos z]
   rw[aO z]at h1;have e2:=A0b (Aj1 h) (a:=false) (b:=false) (c:=true) ((Z4 z (Uh h).2 (k:=w.key)).append_right w.vals) (As2 h (Z4 z (Uh h).2));have e2:Iu [.im (.tuple (w.tb.cols.map PyData.str)),.im (.list (w.tb.rows.map tD)),.im (.list ((w.key++[x]).map PyData.str)),.im (.list ((wo x w.names).map PyData.str)),.im (sqD true (w.vals.map PyData.str))]=.ret (.im (kyF w x)) [.im (.tuple (w.tb.cols.map PyData.str)),.im (.list (w.tb.rows.map tD)),.im (.list ((w.key++[x]).map PyData.str)),.im (.list ((wo x w.names).map PyData.str)),.im (sqD true (w.vals.map PyData.str))]:=e2
   have e3:=λ(s0 s2 s3 s4:m5) (r:Ev)=>Az6 (x:=x) (l:=w.names) (by lia) (s0:=s0) (s2:=s2) (s3:=s3) (s4:=s4) (r:=r)
   have l1:=l1 hk;have a1:=a1 hk
   generalize kyF w x=F at *
   generalize PyData.tuple (w.tb.cols.map PyData.str)=TC at *
   generalize PyData.list (w.tb.rows.map tD)=TR at *
   generalize sqD true (w.vals.map PyData.str)=V at *
   generalize (wo x w.names).map PyData.str=A at *
   generalize (w.key++[x]).map PyData.str=B at *
   generalize w.key.map PyData.str=B1 at *
   generalize nD w.key=K1 at *
   generalize nD w.names=N1 at *
   generalize w.d=D at *
   wp_walk using Gr,Kh,e1,i0,i1,i2,n0,x0,h1,ik,e3,l1,a1,e2
  ·rw[if_neg z]
   rw[bj z]at h1
   generalize PyData.tuple (w.tb.cols.map PyData.str)=TC at *
   generalize PyData.list (w.tb.rows.map tD)=TR at *
   generalize nD w.key=K1 at *
   generalize nD w.names=N1 at *
   generalize w.d=D at *
   wp_walk using Gr,Kh,e1,i0,i1,n0,x0,h1,il
theorem Ak3 {w:Wd}(h:w.Gk){x:Str}(hx:x∈nm16)(b:Bool):Bt 9 [.im (Up w x b),.im (Up w x b)]=.ret (.im (.bool true)) [.im (Up w x b),.im (Up w x b)]:=by
 have ref:Bt 9 [.im (Ap1 x),.im (Ap1 x)]=.ret (.im (.bool true)) [.im (Ap1 x),.im (Ap1 x)]:=by
  have g1:Good (.str "refused") 0 1921:=⟨by decide +kernel,by decide +kernel,by decide +kernel,by decide +kernel,by decide +kernel⟩
  have g2:Good (.int 1) 0 1921:=⟨by decide +kernel,by decide +kernel,by decide +kernel,by decide +kernel,by decide +kernel⟩
  have g3:Good (.str x) 0 1921:=O2 (Z6 hx).2.2
  exact A5s (k:=1) (w:=9000) (((GL.cons g1 (GL.cons g2 (GL.cons g3 GL.nil))).g).mono (by decide) (by decide)) (by decide) (by decide) (by decide) rfl
 have fd:∀{ks ns:v4},(ks++ns).Perm (w.key++w.names)->Bt 9 [.im (fdD w.tb ks ns w.vals),.im (fdD w.tb ks ns w.vals)]=.ret (.im (.bool true)) [.im (fdD w.tb ks ns w.vals),.im (fdD w.tb ks ns w.vals)]:=λ{ks ns} pm=>by
  have pm3:(ks++ns++w.vals).Perm w.tb.cols:=pm.append_right w.vals;have hl:=pm.length_eq;have kn:=h.kn;have hv:=h.vlen;rw[aK,aK]at hl
  obtain⟨_,gF,sF⟩:=Bt8 (Aj1 h) (ks:=ks) (ns:=ns) (vs:=w.vals) ⟨λx hx=>pm3.mem_iff.mp (bf _ (bf _ hx)),by lia⟩ ⟨λx hx=>pm3.mem_iff.mp (bf _ (aR _ hx)),by lia⟩ ⟨λx hx=>pm3.mem_iff.mp (aR _ hx),by lia⟩
  exact Ac0 9 _ (bB gF.dep (by decide)) (by decide) gF.lay sF
 unfold Up
 cases b with
 | true =>
  rw[if_pos rfl]
  by_cases z:x∈w.key
  ·rw[if_pos z];exact fd (U4 z (Uh h).1)
  ·rw[if_neg z];exact ref
 | false =>
  rw[if_neg aW]
  by_cases z:x∈w.names
  ·rw[if_pos z];exact fd (Z4 z (Uh h).2)
  ·rw[if_neg z];exact ref
abbrev Hm (s0 s1:m5)(ds:w5)(w:Wd)(s4 s5 s6:m5)(r:n_):Ev:=s0::s1::some (.ls false ds)::some (.im w.d)::s4::s5::s6::r
theorem A9s {w:Wd}(h:w.Gk){x:Str}(hx:x∈nm16){s0 s1 s4 s5 s6 s8:m5}{ds:w5} :
 M6 (Hm s0 s1 ds w s4 s5 s6 [sI (.str x),s8])=.nx (Hm s0 s1 ds w s4 s5 s6 [sI (.str x),s8]):=by
 have e1:=B4r h hx (c:=Hm s0 s1 ds w s4 s5 s6 [sI (.str x),s8]) rfl rfl;have e2:=B4j h hx (c:=Hm s0 s1 ds w s4 s5 s6 [sI (.str x),s8]) rfl rfl;have d1:=A7m h hx true;have d2:=A7m h hx false;have q1:=Ak3 h hx true;have q2:=Ak3 h hx false
 unfold Hm at *
 unfold M6
 generalize Wb Et Ea ["NoColumn"] (Ab (Aa 3) (Ab (Aa 7) Ak))=T1 at *
 generalize Wb Ge Ea ["NoColumn"] (Ab (Aa 3) (Ab (Aa 7) Ak))=T2 at *
 generalize Up w x true=R1 at *
 generalize Up w x false=R2 at *
 generalize w.d=D at *
 wp_walk using e1,e2,d1,d2,q1,q2
theorem B4t {B:Ev->SR}{d:t6}{s0 s1 s4 s5 s6 s7 s8:m5}{ds:w5}{w:Wd}:Rv (cgN 8) B d (Hm s0 s1 ds w s4 s5 s6 [s7,s8])=B (Hm s0 s1 ds w s4 s5 s6 [s7,sI d]):=rfl
theorem B6k {B:Ev->SR}{d:t6}{s0 s1 s4 s5 s6 s7 s8:m5}{ds:w5}{w:Wd}:Rv (cgN 7) B d (Hm s0 s1 ds w s4 s5 s6 [s7,s8])=B (Hm s0 s1 ds w s4 s5 s6 [sI d,s8]):=rfl
theorem B1b {w:Wd}(h:w.Gk){x:Str}(hx:x∈nm16){s0 s1 s4 s5 s6 s8:m5}{ds:w5}:∃y8,Jf (Hm s0 s1 ds w s4 s5 s6 [sI (.str x),s8])=.nx (Hm s0 s1 ds w s4 s5 s6 [sI (.str x),y8]):=by
 obtain⟨c',e6,z8,rfl⟩:=Fo (g:=cgN 8) (body:=M6) (items:=Kr 0 2) (n:=0) (c:=Hm s0 s1 ds w s4 s5 s6 [sI (.str x),s8])
  (P:=λ_ c=>∃z8,c=Hm s0 s1 ds w s4 s5 s6 [sI (.str x),z8]) ⟨_,rfl⟩ (λj d c hd hP=>by
   obtain⟨z8,rfl⟩:=hP
   exact⟨_,.inl ((B4t (B:=M6)).trans (A9s h hx)),_,rfl⟩)
 exact⟨z8,(Oh (ds:=Kr 0 2) (by wp_walk using bM)).trans e6⟩
theorem Ba1 {w:Wd}(h:w.Gk){L:v4}(hL:∀x∈L,x∈nm16){s0 s1 s4 s5 s6 s7 s8:m5}{ds:w5}:∃y7 y8,forL (cgN 7) Jf (L.map PyData.str) (Hm s0 s1 ds w s4 s5 s6 [s7,s8])=.nx (Hm s0 s1 ds w s4 s5 s6 [y7,y8]):=by
 obtain⟨c',e6,z7,z8,rfl⟩:=Fo (g:=cgN 7) (body:=Jf) (items:=L.map PyData.str) (n:=0) (c:=Hm s0 s1 ds w s4 s5 s6 [s7,s8])
  (P:=λ_ c=>∃z7 z8,c=Hm s0 s1 ds w s4 s5 s6 [z7,z8]) ⟨_,_,rfl⟩ (λj d c hd hP=>by
   obtain⟨z7,z8,rfl⟩:=hP;obtain⟨x,hx,rfl⟩:=Ew hd;obtain⟨y8,e⟩:=B1b h (hL x (bh hx)) (s0:=s0) (s1:=s1) (s4:=s4) (s5:=s5) (s6:=s6) (s8:=z8) (ds:=ds)
   exact⟨_,.inl ((B6k (B:=Jf)).trans e),_,_,rfl⟩)
 exact⟨z7,z8,e6⟩
theorem Bj8 {n:Nat}{ds:w5}(hb:Bx n ds)(hn:n<2 ^ 34){s0 s1 s3 s4 s5 s6 s7 s8:m5}{G:Ev->SR} :
 ∃
  (w:Wd) (d1:w5) (y4 y5:m5),w.Gk/\Bx (n+3001) d1/\(Bb (Bq (cF Kz (Ab (Aa 2) (Ab (cC (.bool false)) Ak))) (cgN 3)) (Bb (Bq (cF Al (Ab (Aa 2) (Ab (cC (.int 3)) Ak))) (cgN 4)) (Bb (cIf (Bc (cOp Xd (Aa 4) (cC (.int 0)))) (Bb (Bq (Nx (Bc (cOp (Ce false) (Aa 4) (cC (.int 1)))) (Df (Ab (cOp Aw (cOp Ai (Aa 3) (cC (.int 1))) (cOp Ai (Aa 3) (cC (.int 0)))) (Ab (Er Ak) Ak))) (Df (Ab (Er Ak) (Ab (cOp Aw (cOp Ai (Aa 3) (cC (.int 0))) (cOp Ai (Aa 3) (cC (.int 1)))) Ak)))) (cgN 5))
  (Bq (cF Cw (Ab (Aa 3) (Ab (cOp Ai (Aa 5) (cC (.int 0))) (Ab (cOp Ai (Aa 5) (cC (.int 1))) Ak)))) (cgN 3))) Cq) G))) [s0,s1,sFa ds,s3,s4,s5,s6,s7,s8]=G (Hm s0 s1 d1 w y4 y5 s6 [s7,s8]):=by
 obtain⟨w,d1,ok,_,b1,e1⟩:=Bo4 (num:=false) hb (by lia)
 obtain⟨r,d2,b2,r0,r1,e2⟩:=Cj (m:=3) b1 (by lia) (by decide) (by decide)
 have h:=ok.gk;have ht:=Aj1 h;have kn:=h.kn;have i0:Ai w.d (.int 0)=sI (nD w.key):=rfl;have i1:Ai w.d (.int 1)=sI (nD w.names):=rfl
 have a1:=add_n (a:=w.names) (b:=w.key) (by lia)
 have a2:=add_n (a:=w.key) (b:=w.names) (by lia)
 have x0:∀A B:t6,Ai (.tuple [A,B]) (.int 0)=sI A:=λ_ _=>rfl
 have x1:∀A B:t6,Ai (.tuple [A,B]) (.int 1)=sI B:=λ_ _=>rfl
 have:r=0\/r=1\/r=2:=by lia
 rcases this with rfl | rfl | rfl
 ·refine⟨w,d2,sI (.int 0),s5,h,b2.mono (by lia),?_⟩
  have g1:Xd (.int 0) (.int 0)=sI (.bool false):=rfl;unfold Hm
  generalize w.d=D at *
  refine (Br (c':=[s0,s1,sFa d1,sI D,s4,s5,s6,s7,s8]) (by wp_walk using e1)).trans ?_
  refine (Br (c':=[s0,s1,sFa d2,sI D,sI (.int 0),s5,s6,s7,s8]) (by wp_walk using e2)).trans ?_
  exact Br (by wp_walk using g1)
 ·have pm:((w.names++w.key)++[]).Perm (w.key++w.names):=by rw[cY];exact List.perm_append_comm
  have e3:=Oz h (a:=true) (b:=false) pm
  have gk:=Bd9 ht (vs:=w.vals) (pm.append_right w.vals) (by rw[aK,j9];lia) h.vlen h.vpos (.inr rfl)
  refine⟨fdW w.tb (w.names++w.key) [] w.vals,d2,sI (.int 1),sI (.tuple [nD (w.names++w.key),.list []]),gk,b2.mono (by lia),?_⟩
  have g1:Xd (.int 1) (.int 0)=sI (.bool true):=rfl
  have g2:Ce false (.int 1) (.int 1)=sI (.bool true):=by rw[Jc rfl rfl];rfl
  unfold Hm;rw[Bx2];have e3:Cw [.im w.d,.im (nD (w.names++w.key)),.im (.list [])]=.ret (.im (fdD w.tb (w.names++w.key) [] w.vals)) [.im w.d,.im (nD (w.names++w.key)),.im (.list [])]:=e3
  generalize fdD w.tb (w.names++w.key) [] w.vals=F at *
  generalize nD (w.names++w.key)=A at *
  generalize nD w.names=A1 at *
  generalize nD w.key=A2 at *
  generalize w.d=D at *
  refine (Br (c':=[s0,s1,sFa d1,sI D,s4,s5,s6,s7,s8]) (by wp_walk using e1)).trans ?_
  refine (Br (c':=[s0,s1,sFa d2,sI D,sI (.int 1),s5,s6,s7,s8]) (by wp_walk using e2)).trans ?_
  exact Br (by wp_walk using g1,g2,i0,i1,a1,x0,x1,e3)
 ·have pm:([]++(w.key++w.names)).Perm (w.key++w.names):=List.Perm.refl _
  have e3:=Oz h (a:=false) (b:=true) pm
  have gk:=Bd9 ht (vs:=w.vals) (pm.append_right w.vals) (by rw[aK,j9];lia) h.vlen h.vpos (.inl rfl)
  refine⟨fdW w.tb [] (w.key++w.names) w.vals,d2,sI (.int 2),sI (.tuple [.list [],nD (w.key++w.names)]),gk,b2.mono (by lia),?_⟩
  have g1:Xd (.int 2) (.int 0)=sI (.bool true):=rfl
  have g2:Ce false (.int 2) (.int 1)=sI (.bool false):=by rw[Jc rfl rfl];rfl
  unfold Hm;rw[Bx2];have e3:Cw [.im w.d,.im (.list []),.im (nD (w.key++w.names))]=.ret (.im (fdD w.tb [] (w.key++w.names) w.vals)) [.im w.d,.im (.list []),.im (nD (w.key++w.names))]:=e3
  generalize fdD w.tb [] (w.key++w.names) w.vals=F at *
  generalize nD (w.key++w.names)=A at *
  generalize nD w.names=A1 at *
  generalize nD w.key=A2 at *
  generalize w.d=D at *
  refine (Br (c':=[s0,s1,sFa d1,sI D,s4,s5,s6,s7,s8]) (by wp_walk using e1)).trans ?_
  refine (Br (c':=[s0,s1,sFa d2,sI D,sI (.int 2),s5,s6,s7,s8]) (by wp_walk using e2)).trans ?_
  exact Br (by wp_walk using g1,g2,i0,i1,a2,x0,x1,e3)
theorem step1 {B:Ev->SR}{d:t6}{a x:m5}{r:Ev}:Rv (cgN 1) B d (a::x::r)=B (a::some (.im d)::r):=rfl
theorem Bf3 {w:Wd}(h:w.Gk){n:Nat}{ds:w5}(hb:Bx n ds)(hn:n<2 ^ 34):∃(L:v4) (d1:w5),(∀x∈L,x∈nm16)/\∀(s0 s1 s4 s5 s6 s7 s8:m5),
 Bg (cOp Aw (cOp Aw (cOp Aw (cOp Ai (Aa 3) (cC (.int 0))) (cOp Ai (Aa 3) (cC (.int 1)))) (cOp Ai (Aa 3) (cC (.int 2)))) (Df (Ab (cC (.str "no")) (Ab (cC (.str "")) (Ab (cOp Ai (Er (cK [.str "b",.str "a",.str "zz",.str "A",.str "-"])) (cF Al (Ab (Aa 2) (Ab (cC (.int 5)) Ak)))) Ak))))) (Hm s0 s1 ds w s4 s5 s6 [s7,s8])=.ok (L.map PyData.str) (Hm s0 s1 d1 w s4 s5 s6 [s7,s8]):=by
 obtain⟨r,d2,b2,r0,r1,e2⟩:=Cj (m:=5) hb (by lia) (by decide) (by decide)
 obtain⟨z,hz,e3⟩:∃z∈nm16,Ai (.list [.str "b",.str "a",.str "zz",.str "A",.str "-"]) (.int r)=sI (.str z):=by
  have:r=0\/r=1\/r=2\/r=3\/r=4:=by lia
  rcases this with rfl | rfl | rfl | rfl | rfl
  ·exact⟨Str.ofString "b",by decide +kernel,rfl⟩
  ·exact⟨Str.ofString "a",by decide +kernel,rfl⟩
  ·exact⟨Str.ofString "zz",by decide +kernel,rfl⟩
  ·exact⟨Str.ofString "A",by decide +kernel,rfl⟩
  ·exact⟨Str.ofString "-",by decide +kernel,rfl⟩
 have kn:=h.kn;have hv:=h.vlen;have i0:Ai w.d (.int 0)=sI (nD w.key):=rfl;have i1:Ai w.d (.int 1)=sI (nD w.names):=rfl;have i2:Ai w.d (.int 2)=sI (nD w.vals):=rfl
 have a1:=add_n (a:=w.key) (b:=w.names) (by lia)
 have a2:=add_n (a:=w.key++w.names) (b:=w.vals) (by rw[aK];lia)
 have a3:Aw (nD (w.key++w.names++w.vals)) (.tuple [.str "no",.str "",.str z])=sI (nD (w.key++w.names++w.vals++[Str.ofString "no",Str.ofString "",z])):=add_n (b:=[Str.ofString "no",Str.ofString "",z]) (by rw[aK,aK];simp;lia)
 refine⟨w.key++w.names++w.vals++[Str.ofString "no",Str.ofString "",z],d2,λx hx=>?_,λs0 s1 s4 s5 s6 s7 s8=>?_⟩
 ·rcases bJ.mp hx with hx | hx
  ·exact B4c (h.nms.sub x hx)
  ·simp only[aD,aY,a_]at hx
   rcases hx with rfl | rfl | rfl
   ·decide +kernel
   ·decide +kernel
   ·exact hz
 ·unfold Hm
  generalize w.key++w.names++w.vals++[Str.ofString "no",Str.ofString "",z]=X at *
  generalize nD (w.key++w.names++w.vals)=A3 at *
  generalize nD (w.key++w.names)=A2 at *
  generalize nD w.key=K1 at *
  generalize nD w.names=N1 at *
  generalize nD w.vals=V1 at *
  generalize w.d=D at *
  wp_walk using Bg,i0,i1,i2,a1,a2,a3,e2,e3
  rfl
theorem Bm1 {w:Wd}(h:w.Gk){n:Nat}{ds:w5}(hb:Bx n ds)(hn:n<2 ^ 34){s0 s1 s4 s5 s6 s7 s8:m5} :
 ∃
  y2 y6 y7 y8,(Bb (Bq (cUn Q6 (Aa 3)) (cgN 6)) (Bb (Mi (Bg (cOp Aw (cOp Aw (cOp Aw (cOp Ai (Aa 3) (cC (.int 0))) (cOp Ai (Aa 3) (cC (.int 1)))) (cOp Ai (Aa 3) (cC (.int 2)))) (Df (Ab (cC (.str "no")) (Ab (cC (.str "")) (Ab (cOp Ai (Er (cK [.str "b",.str "a",.str "zz",.str "A",.str "-"])) (cF Al (Ab (Aa 2) (Ab (cC (.int 5)) Ak)))) Ak)))))) (cgN 7) Jf)
  (cIf (Bc (cOp (Ce true) (cUn Q6 (Aa 3)) (Aa 6))) (Ci (cC (.bool false))) Cq))) (Hm s0 s1 ds w s4 s5 s6 [s7,s8])=.nx [s0,s1,y2,sI w.d,s4,s5,y6,y7,y8]:=by
 obtain⟨L,d1,hL,e1⟩:=Bf3 h hb hn
 have e0:∃X,Q6 w.d=sI (.str X):=⟨_,Ay9 h.good (by decide) (by decide) rfl⟩
 obtain⟨X,e0⟩:=e0;obtain⟨y7,y8,e2⟩:=Ba1 h hL (s0:=s0) (s1:=s1) (s4:=s4) (s5:=s5) (s6:=sI (.str X)) (s7:=s7) (s8:=s8) (ds:=d1);have e3:=(Oh (e1 s0 s1 s4 s5 (sI (.str X)) s7 s8)).trans e2
 refine⟨some (.ls false d1),sI (.str X),y7,y8,?_⟩
 have e4:Ce true (.str X) (.str X)=sI (.bool false):=by rw[Vh];simp
 unfold Hm at *
 generalize w.d=D at *
 refine (Br (c':=[s0,s1,sFa ds,sI D,s4,s5,sI (.str X),s7,s8]) (by wp_walk using e0)).trans ?_
 refine (Br e3).trans ?_
 wp_walk using e0,e4
theorem Bc3 (ns:List Int)(hns:ns.length<=63):Ay1 [.sc ns]=.ret (.im (.bool true)) [.sc ns]:=by
 obtain⟨m,hm,em⟩:∃m:Nat,m<=4/\(1:Int)+(if (ns.length:Int)<3 then (ns.length:Int) else 3)=(m:Int):=by
  split
  ·exact⟨ns.length+1,by lia,by lia⟩
  ·exact⟨4,by lia,by lia⟩
 have loop:=Fo (g:=cgN 1) (body:=Rn) (items:=Kr 0 m) (n:=0) (c:=[some (.sc ns),none,none,none,none,none,none,none,none])
  (P:=λ_ c=>∃a1 a2 a3 a4 a5 a6 a7 a8,c=[some (.sc ns),a1,a2,a3,a4,a5,a6,a7,a8]) ⟨_,_,_,_,_,_,_,_,rfl⟩ (λk d c hd hP=>by
   obtain⟨a1,a2,a3,a4,a5,a6,a7,a8,rfl⟩:=hP;obtain⟨rfl,hk⟩:=Qs hd
   obtain⟨db,bb,e1⟩:=B1z (ns:=ns) (k:=k) (by lia)
   obtain⟨w,d1,y4,y5,gk,b1,e2⟩:=Bj8 bb (by lia) (s0:=some (.sc ns)) (s1:=sI (.int (0+(k:Int)))) (s3:=a3) (s4:=a4) (s5:=a5) (s6:=a6) (s7:=a7) (s8:=a8) (G:=(Bb (Bq (cUn Q6 (Aa 3)) (cgN 6)) (Bb (Mi (Bg (cOp Aw (cOp Aw (cOp Aw (cOp Ai (Aa 3) (cC (.int 0))) (cOp Ai (Aa 3) (cC (.int 1)))) (cOp Ai (Aa 3) (cC (.int 2)))) (Df (Ab (cC (.str "no")) (Ab (cC (.str "")) (Ab (cOp Ai (Er (cK [.str "b",.str "a",.str "zz",.str "A",.str "-"])) (cF Al (Ab (Aa 2) (Ab (cC (.int 5)) Ak)))) Ak)))))) (cgN 7) Jf)
   (cIf (Bc (cOp (Ce true) (cUn Q6 (Aa 3)) (Aa 6))) (Ci (cC (.bool false))) Cq))))
   obtain⟨y2,y6,y7,y8,e3⟩:=Bm1 gk b1 (by lia) (s0:=some (.sc ns)) (s1:=sI (.int (0+(k:Int)))) (s4:=y4) (s5:=y5) (s6:=a6) (s7:=a7) (s8:=a8)
   refine⟨[some (.sc ns),sI (.int (0+(k:Int))),y2,sI w.d,y4,y5,y6,y7,y8],.inl ?_,_,_,_,_,_,_,_,_,rfl⟩
   refine (step1 (B:=Rn)).trans ?_
   unfold Rn
   exact((Br (c':=[some (.sc ns),sI (.int (0+(k:Int))),sFa db,a3,a4,a5,a6,a7,a8]) (by wp_walk using show (0:Int)+(k:Int)=(k:Int) by lia,e1)).trans e2).trans e3)
 obtain⟨c',e,a1,a2,a3,a4,a5,a6,a7,a8,rfl⟩:=loop
 refine Oe (p:=.o (.im (.bool true))) (c:=[some (.sc ns),a1,a2,a3,a4,a5,a6,a7,a8]) ?_ rfl (by wp_walk using bM)
 show As4 [some (.sc ns),none,none,none,none,none,none,none,none]=_
 unfold As4
 refine (Br ((Oh (ds:=Kr 0 m) (c1:=[some (.sc ns),none,none,none,none,none,none,none,none]) ?_).trans e)).trans ?_
 ·wp_walk using Az1,Aw,em,show (m:Int)<=16000000/\-16000000<=(m:Int) by lia,eZ
 ·wp_walk using bM
local macro_rules | `(tactic| walk_at "m")=>`(tactic| repeat' first | rfl | (with_reducible first | apply me_var | apply An | apply Cv | apply Em | apply Bu | apply Bm | apply Ek | apply Gn | apply Dv | apply J6 | apply Hi | apply El | apply Hl | apply Il) | apply B3r | apply Bj7 | apply Ob | apply Y8 | apply V9 | apply Az3 | (with_reducible first | apply Rk | apply Lf | apply Xi | apply Hy | apply Ug | apply Ka | apply Hq | apply Ls | apply Pz | apply A9t | apply A0d | apply B3y | apply Ji | apply Fx | apply Au1 | apply At9 | apply A0f | apply Af4 | apply Bn1 | apply Qp | apply Ax4 | apply Ss | apply Oi | apply B4y | apply Bp9 | apply A8z | apply Ah5 | apply Bh7 | apply Bu3 | apply Aw6 | apply Bd1 | apply Af3 | apply A8r | apply Lq | apply Bi5 | apply Bm0 | apply Ad8 | apply Be4 | apply Bb8 | apply A7f | apply Ac5 | apply Ah8 | apply A6v | apply Bl4 | apply B4f | apply A2m | apply Am4 | apply B5q | apply A8j | apply B2z | apply A7t | apply Bp1 | apply B0l | apply Bz3 | apply A8q | apply Aa9 | apply V4 | apply Br9 | apply As1 | apply A9h | apply Bs0 | apply Ai2 | apply A7k | apply Bh1 | apply B3x | apply A9f | apply Bk7 | apply Bp4 | apply B1a | apply Bb7 | apply Bo1 | apply A1s | apply Bn6 | apply A4o | apply A2a | apply Y0 | apply Bu1 | apply A6r | apply Zd | apply Bw0 | apply Ap8 | apply A9a | apply B0i | apply A2p | apply Ao1 | apply Br0 | apply Br7 | apply A8o | apply B3s | apply B6r | apply B0w | apply Bo7 | apply B3u | apply A3v | apply Bu6 | apply Bs4 | apply Bb3 | apply A2q | apply Wq) | decide | assumption)
noncomputable def top (i:Nat):Stmt:=PySem.Challenge.pw_pivotfold_k38_one_column_moved.main.body.getD i (.Pass ⟨0,0,0,0⟩)
abbrev Ql:Stmt:=top 16
abbrev lJ:Str:="_law_box_here"
abbrev lK:Str:="_law_many_here"
abbrev lL:Str:="_law_wide_here"
abbrev lM:Str:="_law_script"
abbrev lN:Str:="_law_found"
abbrev lQ:Str:="_law_name"
abbrev lR:Str:="_law_columns"
abbrev lS:Str:="_law_due_here"
abbrev lT:Str:="_law_head"
abbrev lU:Str:="_law_k"
abbrev lV:Str:="_law_names_here"
abbrev lW:Str:="_law_part"
abbrev lY:Str:="_law_same"
theorem yP:Ay ["table", "name", "columns"] ["table", "name"] (Ah Ql):={}
abbrev N5:Stmt:=top 17
theorem Ad3:Ay ["table", "names"] ["table", "names"] (Ah N5):={}
abbrev Ng:Stmt:=top 18
theorem Ad6:Ay ["row", "places"] ["row", "places"] (Ah Ng):={}
abbrev Fg:Stmt:=top 21
theorem yD:Ay ["columns", "key", "names", "values", "together"] ["columns", "key", "names", "values"] (Ah Fg):={}
abbrev J0:Stmt:=top 22
theorem Vf:Ay ["order"] ["order"] (Ah J0):={}
abbrev Hu:Stmt:=top 23
theorem zG:Ay ["table", "key", "names", "key_places", "name_places", "groups", "number", "row", "place"] ["table", "key", "names"] (Ah Hu):={}
abbrev Li:Stmt:=top 24
theorem yG:Ay ["things", "seen", "thing"] ["things"] (Ah Li):={}
abbrev K9:Stmt:=top 25
theorem Yj:Ay ["groups"] ["groups"] (Ah K9):={}
abbrev Lw:Stmt:=top 26
theorem yO:Ay ["groups", "order", "heads"] ["groups", "order"] (Ah Lw):={}
abbrev Pu:Stmt:=top 27
theorem Aq4:Ay ["part", "heads", "things", "gap"] ["part", "heads", "things", "gap"] (Ah Pu):={}
abbrev Px:Stmt:=top 28
theorem Al5:Ay ["parts", "heads", "things", "gap"] ["parts", "heads", "things", "gap"] (Ah Px):={}
abbrev Ia:Stmt:=top 29
theorem Ti:Ay ["parts", "heads", "cells"] ["parts", "heads", "cells"] (Ah Ia):={}
abbrev Hw:Stmt:=top 30
theorem yI:Ay ["groups", "doubles", "first"] ["groups"] (Ah Hw):={}
abbrev Xx:Stmt:=top 31
theorem zQ:Ay ["table", "key", "names", "values", "order", "groups", "value_places", "cells", "place", "numbers", "heads", "rows"] ["table", "key", "names", "values", "order"] (Ah Xx):={}
abbrev J9:Stmt:=top 32
theorem zV:Ay ["wide", "told", "part", "cells"] ["wide"] (Ah J9):={}
abbrev Pj:Stmt:=top 33
theorem yQ:Ay ["wide", "rows"] ["wide"] (Ah Pj):={}
abbrev V0:Stmt:=top 35
theorem A4j:Ay ["wide", "key", "names"] ["wide", "key", "names"] (Ah V0):={}
abbrev Tf:Stmt:=top 36
theorem Aw4:Ay ["names", "name"] ["names", "name"] (Ah Tf):={}
abbrev Tt:Stmt:=top 37
theorem Av4:Ay ["wide", "name"] ["wide", "name"] (Ah Tt):={}
abbrev Xu:Stmt:=top 38
theorem yV:Ay ["wide", "name", "names"] ["wide", "name"] (Ah Xu):={}
abbrev Nf:Stmt:=top 40
theorem Ab9:Ay [lM, lU] [lM, lU] (Ah Nf):={}
abbrev Ad5:Stmt:=top 41
theorem yX:Ay [lM, lU, "_law_number_here"] [lM, lU] (Ah Ad5):={}
abbrev Ws:Stmt:=top 42
theorem yK:Ay [lJ, lK, lN, "_law_once", "_law_twice"] [lJ, lK] (Ah Ws):={}
abbrev Vv:Stmt:=top 43
theorem A6c:Ay [lJ, "_law_least", "_law_few", "_law_most"] [lJ, "_law_least", "_law_few", "_law_most"] (Ah Vv):={}
abbrev Tu:Stmt:=top 44
theorem yS:Ay [lJ, lK, "_law_some"] [lJ, lK] (Ah Tu):={}
abbrev T5:Stmt:=top 45
theorem yU:Ay [lJ, "_law_way"] [lJ] (Ah T5):={}
abbrev Qk:Stmt:=top 46
theorem Aj5:Ay [lJ] [lJ] (Ah Qk):={}
abbrev X5:Stmt:=top 47
theorem yL:Ay [lJ, lK, lN, "_law_turn", "_law_value_here"] [lJ, lK] (Ah X5):={}
abbrev Pk:Stmt:=top 48
theorem zW:Ay [lJ, lL, lK, "_law_pool_here", lN, "_law_turn", "_law_one"] [lJ, lL, lK] (Ah Pk):={}
abbrev Xk:Stmt:=top 49
theorem zH:Ay [lJ, "_law_numbers", lV, "_law_a", "_law_b", "_law_c", "_law_stem", "_law_over", "_law_values", "_law_heads", "_law_often", "_law_rows", lW, "_law_cells", lT, "_law_one"] [lJ, "_law_numbers"] (Ah Xk):={}
abbrev Q0:Stmt:=top 50
theorem A2x:Ay [lN, lS] [lN, lS] (Ah Q0):={}
abbrev We:Stmt:=top 51
theorem yM:Ay [lL, "_law_rows", lW, "_law_cells"] [lL] (Ah We):={}
abbrev Vp:Stmt:=top 52
theorem zJ:Ay [lR, "_law_rows", "_law_key", lV, "_law_values", "_law_at", "_law_parts", "_law_heads", "_law_there", "_law_row", lW, lT, "_law_told_here"] [lR, "_law_rows", "_law_key", lV, "_law_values"] (Ah Vp):={}
abbrev Wv:Stmt:=top 53
theorem yE:Ay ["_law_call", lN, "_law_caught", "error", "_law_marks", "_law_others"] ["_law_call"] (Ah Wv):={}
abbrev Ad1:Stmt:=top 54
theorem zR:Ay [lL, lQ, lT, lR, "_law_rows", "_law_from_side", "_law_to_side", "_law_left", "_law_grown", "_law_key", lV] [lL, lQ, lT] (Ah Ad1):={}
abbrev Bf2:Stmt:=top 55
theorem zY:Ay [lM, lU, lJ, lL, "_law_way", "_law_sides", "_law_before", lQ, "_law_again"] [lM] (Ah Bf2):={}
section
variable {P:u6}{w:World}{K:v9}{mg:x_}{base:Heap}
theorem Aq8 (F:Fun K "place_of" "place_of" Ql f fd):FnOk P w K mg base CX0 3 f fd ["table", "name"] (spP K Ga):=by
 exact F.okQ yP (λ_ hu _=>Ae (Bh (i:=2) yP.nd (Ax (Kq:=K) rfl (qv 0) Af Ao))
  (Ae (Ed (Gx hu (qv 1) (qv 2) (by with_unfolding_all rfl)) (Aj Kg) Bs)
  (Aj (Bd (Vy (Kq:=K) rfl PySem.F.plainAttrs_tuple PySem.F.slot_tuple_index PySem.F.type_tuple_index (Wh rfl) (qv 2) (Ad (qv 1) Ac)))))) (by unfold Np;walk_at "m")
theorem Ab0 (F:Fun K "places_of" "places_of" N5 f fd) (w9:Def P w K mg base "place_of" 3 ["table", "name"] (spP K Ga)):FnOk P w K mg base CX0 4 f fd ["table", "names"] (spP K Dm):=by
 exact F.okQ Ad3 (λhr _ _=>Aj (Bd (by exact(Gy (N':=["name", "table"]) (idx:=[none,some 0]) Cm rfl (Dg (Kq:=K) rfl (qv 1)) (λ_ _ _ _ _=>by exact(Ar (i:=0) (by show (["name", "table"]:v4).Nodup;decide +kernel))) qtN (λ_ _ _ _ _=>by exact(Bf w9 hr (Ad (qv 1) (Ad (qv 0) Ac)))))))) (by unfold Lh;walk_at "m")
theorem Ad7 (F:Fun K "values_at" "values_at" Ng f fd) (z9:mg "tuple" = none):FnOk P w K mg base CX0 1 f fd ["row", "places"] (spP K Cd):=by
 exact F.okQ Ad6 (λ_ _ _=>Aj (Bd (Am (Kq:=K) rfl rfl z9 (Ad (by exact(Gy (N':=["place", "row"]) (idx:=[none,some 0]) Cm rfl (Dg (Kq:=K) rfl (qv 1)) (λ_ _ _ _ _=>by exact(Ar (i:=0) (by show (["place", "row"]:v4).Nodup;decide +kernel))) qtN (λ_ _ _ _ _=>by exact(Ax (Kq:=K) rfl (qv 1) (qv 0) Qa)))) Ac)))) (by unfold K8;walk_at "m")
theorem Mv (F:Fun K "check_all_columns" "check_all_columns" Fg f fd) (yH:mg "all" = none) (zF:mg "len" = none) (zL:mg "list" = none):FnOk P w K mg base CX0 1 f fd ["columns", "key", "names", "values"] (spP K Cp):=by
 exact F.okQ yD (λ_ hu _=>Ae (Bh (i:=4) yD.nd (Bk (Bk (Fv (Kq:=K) rfl rfl zL (Ad (qv 1) Ac)) (Fv (Kq:=K) rfl rfl zL (Ad (qv 2) Ac))) (Fv (Kq:=K) rfl rfl zL (Ad (qv 3) Ac))))
  (Ae (Ed (QW.qt (Ao0 (W9 hu (Hx (Kq:=K) rfl rfl zF (Ad (qv 4) Ac)) (Hx (Kq:=K) rfl rfl zF (Ad (qv 0) Ac))) (Aa5 (Ae5 (Jd (Q8 (Kq:=K) rfl rfl rfl yH (Ad (by exact(Gy (N':=["name", "together"]) (idx:=[none,some 4]) Cm rfl (Dg (Kq:=K) rfl (qv 0)) (λ_ _ _ _ _=>by exact(Ar (i:=0) (by show (["name", "together"]:v4).Nodup;decide +kernel))) qtN (λ_ _ _ _ _=>by exact(Zy hu (Vy (Kq:=K) rfl fZ PySem.F.slot_list_count PySem.F.type_list_count (A4f rfl) (qv 1) (Ad (qv 0) Ac)) Af)))) Ac))))))) (Aj Kg) Bs)
  (Aj (Ed (Sg hu (Hx (Kq:=K) rfl rfl zF (Ad (qv 3) Ac)) Af) (Aj Kg) Bs)))) (by unfold Es;walk_at "m")
theorem X8 (F:Fun K "check_order" "check_order" J0 f fd) (yR:∃p,mg "ORDERS" = some (.ref p)/\∀H,SqT K H p ([Str.ofString "seen",Str.ofString "rising"].map V.str)):FnOk P w K mg base CX0 1 f fd ["order"] (spP K Gv):=by
 obtain⟨p_ORDERS,aC9,sq_ORDERS⟩:=yR
 exact F.okQ Vf (λ_ _ _=>Aj (Ed (A4p (Kq:=K) rfl (qv 0) (Bq7 (v:=.ref p_ORDERS) rfl aC9 rfl) (by with_unfolding_all rfl)) (Aj Kg) Bs)) (by unfold M7;walk_at "m")
abbrev yT2 (P w K mg base):=Def P w K mg base "places_of" 4 ["table", "names"] (spP K Dm)
abbrev yT3 (P w K mg base):=Def P w K mg base "values_at" 1 ["row", "places"] (spP K Cd)
theorem Tg (F:Fun K "rows_by_place" "rows_by_place" Hu f fd) (d6:yT2 P w K mg base) (c9:yT3 P w K mg base) (yN:mg "enumerate" = none):FnOk P w K mg base CX0 5 f fd ["table", "key", "names"] (spP K Ef):=by
 exact F.okQ zG (λhr hu _=>Ae (Bh (i:=3) zG.nd (Bf d6 hr (Ad (qv 0) (Ad (qv 1) Ac))))
  (Ae (Bh (i:=4) zG.nd (Bf d6 hr (Ad (qv 0) (Ad (qv 2) Ac))))
  (Ae (Bh (i:=5) zG.nd Rt) (Ab1 (d:=5) (G5 cz rfl (Bi8 rfl yN (Ad (Ax (Kq:=K) rfl (qv 0) Af Ao) Ac)) (Fy (Kq:=K) rfl (n:=2) rfl (Az (Ar (i:=6) zG.nd) (Az (Ar (i:=7) zG.nd) Du))) (Ae (Bh (i:=8) zG.nd (Ca (Ad (Bf c9 hr (Ad (qv 7) (Ad (qv 3) Ac))) (Ad (Bf c9 hr (Ad (qv 7) (Ad (qv 4) Ac))) Ac))))
  (Aj (Gq (Ir (Kq:=K) rfl (Bk8 hu (qv 5) (qv 8) (De Ac) ⟨rfl,rfl,rfl,rfl⟩) (qv 6))))))
  (Aj (Bd (qv 5))))))) (by unfold G7;unfold Eh;walk_at "m")
theorem Yi (F:Fun K "first_seen" "first_seen" Li f fd) (z9:mg "tuple" = none):FnOk P w K mg base CX0 1 f fd ["things"] (spP K Dr):=by
 exact F.okQ yG (λ_ hu _=>Ae (Bh (i:=1) yG.nd Rt) (Ab1 (d:=1) (G5 cz rfl (Dg (Kq:=K) rfl (qv 0)) (Ar (i:=2) yG.nd) (Aj (Af1 hu (qv 1) (qv 2) O7)))
  (Aj (Bd (Bn7 rfl rfl z9 (qv 1)))))) (by unfold Kc;unfold Ft;walk_at "m")
abbrev yT4 (P w K mg base):=Def P w K mg base "first_seen" 1 ["things"] (spP K Dr)
theorem Ye (F:Fun K "parts_seen" "parts_seen" K9 f fd) (h7:yT4 P w K mg base):FnOk P w K mg base CX0 2 f fd ["groups"] (spP K Fi):=by
 exact F.okQ Yj (λhr _ _=>Aj (Bd (Bf h7 hr (Ad (by exact(Gy (N':=["part", "head"]) (idx:=[none,none]) Cm rfl (Al7 (qv 0)) (λ_ _ _ _ _=>by exact(Fy (Kq:=K) rfl (n:=2) rfl (Az (Ar (i:=0) (by show (["part", "head"]:v4).Nodup;decide +kernel)) (Az (Ar (i:=1) (by show (["part", "head"]:v4).Nodup;decide +kernel)) Du)))) qtN (λ_ _ _ _ _=>by exact(qv 0)))) Ac)))) (by unfold J4;walk_at "m")
theorem Yw (F:Fun K "heads_seen" "heads_seen" Lw f fd) (h7:yT4 P w K mg base):FnOk P w K mg base CX0 5 f fd ["groups", "order"] (spP K Fp):=by
 exact F.okQ yO (λhr hu _=>Ae (Bh (i:=2) yO.nd (Bf h7 hr (Ad (by exact(Gy (N':=["part", "head"]) (idx:=[none,none]) Cm rfl (Al7 (qv 0)) (λ_ _ _ _ _=>by exact(Fy (Kq:=K) rfl (n:=2) rfl (Az (Ar (i:=0) (by show (["part", "head"]:v4).Nodup;decide +kernel)) (Az (Ar (i:=1) (by show (["part", "head"]:v4).Nodup;decide +kernel)) Du)))) qtN (λ_ _ _ _ _=>by exact(qv 1)))) Ac)))
  (Aj (Bd (M9 (Sg hu (qv 1) J7) Bg6 (qv 2))))) (by unfold J5;walk_at "m")
theorem Aq9 (F:Fun K "laid_row" "laid_row" Pu f fd) (z9:mg "tuple" = none):FnOk P w K mg base CX0 1 f fd ["part", "heads", "things", "gap"] (spP K Gf):=by
 exact F.okQ Aq4 (λ_ hu _=>Aj (Bd (Am (Kq:=K) rfl rfl z9 (Ad (by exact(Gy (N':=["head", "gap", "things", "part"]) (idx:=[none,some 3,some 2,some 0]) Cm rfl (Dg (Kq:=K) rfl (qv 1)) (λ_ _ _ _ _=>by exact(Ar (i:=0) (by show (["head", "gap", "things", "part"]:v4).Nodup;decide +kernel))) qtN (λ_ _ _ _ _=>by exact(Bh2 hu (qv 2) (Ca (Ad (qv 3) (Ad (qv 0) Ac))) (qv 1) ⟨rfl,rfl,rfl,rfl⟩)))) Ac)))) (by unfold Nq;walk_at "m")
theorem Ao6 (F:Fun K "laid_out" "laid_out" Px f fd) (j3:Def P w K mg base "laid_row" 1 ["part", "heads", "things", "gap"] (spP K Gf)) (z9:mg "tuple" = none):FnOk P w K mg base CX0 2 f fd ["parts", "heads", "things", "gap"] (spP K Ho):=by
 exact F.okQ Al5 (λhr _ _=>Aj (Bd (Am (Kq:=K) rfl rfl z9 (Ad (by exact(Gy (N':=["part", "heads", "things", "gap"]) (idx:=[none,some 1,some 2,some 3]) Cm rfl (Dg (Kq:=K) rfl (qv 0)) (λ_ _ _ _ _=>by exact(Ar (i:=0) (by show (["part", "heads", "things", "gap"]:v4).Nodup;decide +kernel))) qtN (λ_ _ _ _ _=>by exact(Bf j3 hr (Ad (qv 0) (Ad (qv 1) (Ad (qv 2) (Ad (qv 3) Ac)))))))) Ac)))) (by unfold M8;walk_at "m")
theorem Tw (F:Fun K "rows_laid_out" "rows_laid_out" Ia f fd) (k7:Def P w K mg base "laid_out" 2 ["parts", "heads", "things", "gap"] (spP K Ho)) (z9:mg "tuple" = none) (zT:mg "zip" = none):FnOk P w K mg base CX0 3 f fd ["parts", "heads", "cells"] (spP K Ec):=by
 exact F.okQ Ti (λhr _ _=>Aj (Bd (Bt4 rfl rfl z9 rfl zT (Ad (qv 0) (Ad (Bf k7 hr (Ad (qv 0) (Ad (qv 1) (Ad (qv 2) (Ad Jb Ac))))) Ac))))) (by unfold Hh;walk_at "m")
theorem Tq (F:Fun K "check_doubles" "check_doubles" Hw f fd) (zF:mg "len" = none):FnOk P w K mg base CX0 3 f fd ["groups"] (spP K Eb):=by
 exact F.okQ yI (λ_ _ _=>Ae (by exact(M4 (i:=1) yI.nd rfl (Or.inl rfl) (N':=["numbers"]) (idx:=[none]) Cm rfl (Bc2 (qv 0)) (λ_ _ _ _ _=>by exact(Ar (i:=0) (by show (["numbers"]:v4).Nodup;decide +kernel))) (λ_ _ _ _ _=>by exact(Ot (Qz (Hx (Kq:=K) rfl rfl zF (Ad (qv 0) Ac)) Af))) (λ_ _ _ _ _=>by exact(Ca (Ad (Ax (Kq:=K) rfl (qv 0) Af Ao) (Ad (Ax (Kq:=K) rfl (qv 0) Af Ao) Ac))))))
  (Aj (Ed (Qz (Hx (Kq:=K) rfl rfl zF (Ad (qv 1) Ac)) Af) (Ae Kg
  (Aj Kg)) Bs))) (by unfold Hb;walk_at "m")
theorem A6k (F:Fun K "folded" "folded" Xx f fd) (d6:yT2 P w K mg base) (c9:yT3 P w K mg base) (z4:Def P w K mg base "check_all_columns" 1 ["columns", "key", "names", "values"] (spP K Cp)) (y9:Def P w K mg base "check_order" 1 ["order"] (spP K Gv)) (m3:Def P w K mg base "rows_by_place" 5 ["table", "key", "names"] (spP K Ef)) (t4:Def P w K mg base "parts_seen" 2 ["groups"] (spP K Fi)) (o3:Def P w K mg base "heads_seen" 5 ["groups", "order"] (spP K Fp)) (n9:Def P w K mg base "rows_laid_out" 3 ["parts", "heads", "cells"] (spP K Ec)) (j2:Def P w K mg base "check_doubles" 3 ["groups"] (spP K Eb)) (z9:mg "tuple" = none):FnOk P w K mg base CX0 6 f fd ["table", "key", "names", "values", "order"] (spP K Kw):=by
 exact F.okQ zQ (λhr hu _=>Ae (Gq (Bf z4 hr (Ad (Ax (Kq:=K) rfl (qv 0) Af Ao) (Ad (qv 1) (Ad (qv 2) (Ad (qv 3) Ac))))))
  (Ae (Gq (Bf y9 hr (Ad (qv 4) Ac)))
  (Ae (Bh (i:=5) zQ.nd (Bf m3 hr (Ad (qv 0) (Ad (qv 1) (Ad (qv 2) Ac)))))
  (Ae (Gq (Bf j2 hr (Ad (qv 5) Ac)))
  (Ae (Bh (i:=6) zQ.nd (Bf d6 hr (Ad (qv 0) (Ad (qv 3) Ac))))
  (Ae (Bh (i:=7) zQ.nd Rt) (Ab1 (d:=7) (G5 cz rfl (A3b (qv 5)) (Fy (Kq:=K) rfl (n:=2) rfl (Az (Ar (i:=8) zQ.nd) (Az (Ar (i:=9) zQ.nd) Du))) (Aj (Af1 hu (qv 7) (qv 8) (Bf c9 hr (Ad (Ax (Kq:=K) rfl (Ax (Kq:=K) rfl (qv 0) Af Ao) (Ax (Kq:=K) rfl (qv 9) Af Ao) A2z) (Ad (qv 6) Ac))))))
  (Ae (Bh (i:=10) zQ.nd (Bf o3 hr (Ad (qv 5) (Ad (qv 4) Ac))))
  (Ae (Bh (i:=11) zQ.nd (Bf n9 hr (Ad (Bf t4 hr (Ad (qv 5) Ac)) (Ad (qv 10) (Ad (qv 7) Ac)))))
  (Aj (Bd (Ca (Ad (Am (Kq:=K) rfl rfl z9 (Ad (qv 1) Ac)) (Ad (Am (Kq:=K) rfl rfl z9 (Ad (qv 2) Ac)) (Ad (Am (Kq:=K) rfl rfl z9 (Ad (qv 3) Ac)) (Ad (qv 10) (Ad (qv 11) Ac))))))))))))))))) (by unfold S7;unfold Jt;walk_at "m")
theorem Vs (F:Fun K "cells_along" "cells_along" J9 f fd) (zT:mg "zip" = none):FnOk P w K mg base CX0 1 f fd ["wide"] (spP K Ey):=by
 exact F.okQ zV (λ_ _ _=>Ae (Bh (i:=1) zV.nd (De Ac))
  (Ae (G5 cz rfl (Dg (Kq:=K) rfl (Ax (Kq:=K) rfl (qv 0) Af Ao)) (Fy (Kq:=K) rfl (n:=2) rfl (Az (Ar (i:=2) zV.nd) (Az (Ar (i:=3) zV.nd) Du))) (Aj (Gq (Vy (Kq:=K) rfl fZ PySem.F.slot_list_extend PySem.F.type_list_extend Zw (qv 1) (Ad (by exact(Gy (N':=["head", "each", "part"]) (idx:=[none,none,some 2]) Cm rfl (Av3 rfl zT (Ad (Ax (Kq:=K) rfl (qv 0) Af Ao) (Ad (qv 3) Ac))) (λ_ _ _ _ _=>by exact(Fy (Kq:=K) rfl (n:=2) rfl (Az (Ar (i:=0) (by show (["head", "each", "part"]:v4).Nodup;decide +kernel)) (Az (Ar (i:=1) (by show (["head", "each", "part"]:v4).Nodup;decide +kernel)) Du)))) qtN (λ_ _ _ _ _=>by exact(Ca (Ad (qv 2) (Ad (qv 0) (Ad (qv 1) Ac))))))) Ac)))))
  (Aj (Bd (qv 1))))) (by unfold Nk;walk_at "m")
theorem Ak4 (F:Fun K "unfolded" "unfolded" Pj f fd) (n4:Def P w K mg base "cells_along" 1 ["wide"] (spP K Ey)) (z9:mg "tuple" = none):FnOk P w K mg base CX0 2 f fd ["wide"] (spP K Hr):=by
 exact F.okQ yQ (λhr _ _=>Ae (by exact(M4 (i:=1) yQ.nd rfl (Or.inl rfl) (N':=["part", "head", "each"]) (idx:=[none,none,none]) Cm rfl (Dg (Kq:=K) rfl (Bf n4 hr (Ad (qv 0) Ac))) (λ_ _ _ _ _=>by exact(Fy (Kq:=K) rfl (n:=3) rfl (Az (Ar (i:=0) (by show (["part", "head", "each"]:v4).Nodup;decide +kernel)) (Az (Ar (i:=1) (by show (["part", "head", "each"]:v4).Nodup;decide +kernel)) (Az (Ar (i:=2) (by show (["part", "head", "each"]:v4).Nodup;decide +kernel)) Du))))) (λ_ _ _ _ _=>by exact(Ot (V5 (qv 2) Jb))) (λ_ _ _ _ _=>by exact(Bk (Bk (qv 0) (qv 1)) (qv 2)))))
  (Aj (Bd (Ca (Ad (Bk (Bk (Ax (Kq:=K) rfl (qv 0) Af Ao) (Ax (Kq:=K) rfl (qv 0) Af Ao)) (Ax (Kq:=K) rfl (qv 0) Af Ao)) (Ad (Am (Kq:=K) rfl rfl z9 (Ad (qv 1) Ac)) Ac)))))) (by unfold T9;walk_at "m")
theorem A3k (F:Fun K "turned" "turned" V0 f fd) (x3:Def P w K mg base "folded" 6 ["table", "key", "names", "values", "order"] (spP K Kw)) (t9:Def P w K mg base "unfolded" 2 ["wide"] (spP K Hr)):FnOk P w K mg base CX0 7 f fd ["wide", "key", "names"] (spP K Cw):=by
 exact F.okQ A4j (λhr _ _=>Aj (Bd (Bf x3 hr (Ad (Bf t9 hr (Ad (qv 0) Ac)) (Ad (qv 1) (Ad (qv 2) (Ad (Ax (Kq:=K) rfl (qv 0) Af Ao) (Ad J7 Ac)))))))) (by unfold Te;walk_at "m")
theorem At4 (F:Fun K "without" "without" Tf f fd) (z9:mg "tuple" = none) (i7:ClI K mg ⟨"NoColumn.__init__", "FoldError", "name", "name", "no column ", ""⟩ "NoColumn"):FnOk P w K mg base (CXe P w) 3 f fd ["names", "name"] (spX K Dq):=by
 have aA0:=A7x i7;obtain⟨aB0,aA8,aC2,aD2,aB6,aD4,aA3,aD6,aA5,aA2,aA6,aA4,aA1⟩:=i7
 refine F.okX Aw4 (λvs H Q E h=>Ag4 h) (λcdv A outer s H vs Q E hr h=>?_)
 have hu:=hr.units;have hgd:=hr.gd
 refine At1 (Ae (Ed (Gx hu (qv 1) (qv 0) (by with_unfolding_all rfl)) (Aj (A6a A5f rfl rfl aA3 aA5.2 aA2 aA6 aA4 (aA1 _ _ _) (hr.mono (by lia)) (qv 1))) Bs)
  (Aj (Bd (Am (Kq:=K) rfl rfl z9 (Ad (by exact(Gy (N':=["each", "name"]) (idx:=[none,some 1]) Cm rfl (Dg (Kq:=K) rfl (qv 0)) (λ_ _ _ _ _=>by exact(Ar (i:=0) (by show (["each", "name"]:v4).Nodup;decide +kernel))) (λ_ _ _ _ _=>by exact(Ot (W9 hu (qv 0) (qv 1)))) (λ_ _ _ _ _=>by exact(qv 0)))) Ac))))) ?_
 exact Aa3 (by unfold Ld;walk_at "m") h
abbrev yT1 (P w K mg base):=Def P w K mg base "turned" 7 ["wide", "key", "names"] (spP K Cw)
abbrev yT5 (P w K mg base):=DefX P w K mg base "without" 3 ["names", "name"] (spX K Dq)
theorem Aw5 (F:Fun K "to_head" "to_head" Tt f fd) (c8:yT1 P w K mg base) (i4:yT5 P w K mg base):FnOk P w K mg base (CXe P w) 8 f fd ["wide", "name"] (spX K Et):=by
 refine F.okX Av4 (λvs H Q E h=>Ag4 h) (λcdv A outer s H vs Q E hr h=>?_)
 have hu:=hr.units;have hgd:=hr.gd
 refine At1 (Aj (Bd (Bf c8 hr (Ad (qv 0) (Ad (A6t Za i4 hr (Ad (Ax (Kq:=K) rfl (qv 0) Af Ao) (Ad (qv 1) Ac))) (Ad (Bk (Ax (Kq:=K) rfl (qv 0) Af Ao) (Ca (Ad (qv 1) Ac))) Ac)))))) ?_
 exact Aa3 (Ao1 (F:=Dq) (vs:=[0]) (An (Cv me_var (Em rfl) Dv) (An me_var Bu)) (J6 (Gn (An me_var (An (Zd (An (Cv me_var (Em rfl) Dv) (An me_var Bu))) (An (Cv (Cv me_var (Em rfl) Dv) (Hy (An me_var Bu)) Hl) Bu))))) (λσ H D hb hq=>by obtain⟨v0,h0⟩:=hb 0 (by decide);exact⟨_,h0,hq _⟩)) h
theorem A5w (F:Fun K "to_key" "to_key" Xu f fd) (c8:yT1 P w K mg base) (i4:yT5 P w K mg base):FnOk P w K mg base (CXe P w) 8 f fd ["wide", "name"] (spX K Ge):=by
 obtain⟨aF0,aE6,aE1,aD7,aC4,aD1⟩:=i4
 refine F.okX yV (λvs H Q E h=>Ag4 h) (λcdv A outer s H vs Q E hr h=>?_)
 have hu:=hr.units;have hgd:=hr.gd
 refine At1 (Ae (Bh (i:=2) yV.nd (Wx aE1 (hr.mono (by lia)) rfl aD1 aC4 aD7 .nil Za (Ad (Ax (Kq:=K) rfl (qv 0) Af Ao) (Ad (qv 1) Ac))))
  (Aj (Bd (Bf c8 hr (Ad (qv 0) (Ad (Bk (Ax (Kq:=K) rfl (qv 0) Af Ao) (Ca (Ad (qv 1) Ac))) (Ad (qv 2) Ac))))))) ?_
 exact Aa3 (by unfold Ow;walk_at "m") h
theorem Ag9 (F:Fun K "_law_cell_at" "_law_cell_at" Nf f fd) (zF:mg "len" = none):FnOk P w K mg base CX0 1 f fd [lM, lU] (spP K Fe):=by
 exact F.okQ Ab9 (λ_ _ _=>Ae (Ed (Ai4 (qv 1) (Hx (Kq:=K) rfl rfl zF (Ad (qv 0) Ac))) (Aj (Bd (Bv9 (show IxR _ (rIx K) from Bz8) (qv 0) (qv 1) Qa))) Bs)
  (Aj (Bd Af))) (by unfold Im;walk_at "m")
theorem Bc1 (F:Fun K "_law_box" "_law_box" Ad5 f fd) (u7:Def P w K mg base "_law_cell_at" 1 [lM, lU] (spP K Fe)) (yW:mg "abs" = none) (zN:mg "int" = none):FnOk P w K mg base CX0 2 f fd [lM, lU] (spP K Nb):=by
 exact F.okQ yX (λhr _ _=>Ae (Bh (i:=2) yX.nd (Bf u7 hr (Ad (qv 0) (Ad (qv 1) Ac))))
  (Aj (Bd (De (Ad (Iw (Ue (Kq:=K) rfl rfl yW (Ad (qv 2) Ac)) (Gs (Kq:=K) rfl rfl zN (Ad (A7o (Ue (Kq:=K) rfl rfl yW (Ad (qv 2) Ac)) (Io Af Af)) Ac))) (Ad (Bk (Bk (G8 (qv 2) Af) (Iw Af (qv 1))) Af) (Ad Af Ac))))))) (by unfold Wc;walk_at "m")
theorem A3q (F:Fun K "_law_take" "_law_take" Ws f fd):FnOk P w K mg base CX0 1 f fd [lJ, lK] (spP K Al):=by
 exact F.okQ yK (λ_ _ _=>Ae (Ed (Qz (Ax (Kq:=K) rfl (qv 0) Af Ao) Af) (Ae (Bh (i:=2) yK.nd (G8 (Ax (Kq:=K) rfl (qv 0) Af Ao) (qv 1)))
  (Ae (Nu (W7 (Ax (Kq:=K) rfl (qv 0) Af Ao) (qv 1)) (Bc6 (qv 0) Af set_list))
  (Aj (Bd (qv 2))))) Bs)
  (Ae (Nu (Bk (Ax (Kq:=K) rfl (qv 0) Af Ao) Af) (Bc6 (qv 0) Af set_list))
  (Ae (Bh (i:=3) yK.nd (G8 (Iw (Bk (Ax (Kq:=K) rfl (qv 0) Af Ao) (Iw Af (Ax (Kq:=K) rfl (qv 0) Af Ao))) (Bk Af (Ax (Kq:=K) rfl (qv 0) Af Ao))) Af))
  (Ae (Bh (i:=4) yK.nd (G8 (Iw (Bk (qv 3) (Ax (Kq:=K) rfl (qv 0) Af Ao)) (Bk (G8 (qv 3) Af) Af)) Af))
  (Aj (Bd (G8 (W7 (G8 (Bk (Iw (qv 4) Af) (qv 3)) Af) Af) (qv 1)))))))) (by unfold Od;walk_at "m")
abbrev yT0 (P w K mg base):=Def P w K mg base "_law_take" 1 [lJ, lK] (spP K Al)
theorem A5e (F:Fun K "_law_many" "_law_many" Vv f fd) (a9:yT0 P w K mg base):FnOk P w K mg base CX0 2 f fd [lJ, "_law_least", "_law_few", "_law_most"] (spP K Hg):=by
 exact F.okQ A6c (λhr hu _=>Ae (Ed (Sg hu (Bf a9 hr (Ad (qv 0) (Ad Af Ac))) Af) (Aj (Bd (Bk Af (Bf a9 hr (Ad (qv 0) (Ad (Gi (qv 3) Af) Ac)))))) Bs)
  (Aj (Bd (Bk (qv 1) (Bf a9 hr (Ad (qv 0) (Ad (Bk (Gi (qv 2) (qv 1)) Af) Ac))))))) (by unfold Om;walk_at "m")
theorem As8 (F:Fun K "_law_names" "_law_names" Tu f fd) (a9:yT0 P w K mg base) (zF:mg "len" = none) (zK:mg "range" = none):FnOk P w K mg base CX0 2 f fd [lJ, lK] (spP K G4):=by
 exact F.okQ yS (λhr _ _=>Ae (Bh (i:=2) yS.nd (De (Sy (vs:=[.str "b",.str "a",.str "year",.str "z",.str "ab",.str "month",.str "aa",.str "quantity",.str "c",.str "town",.str "zz",.str "ba"]) rfl)))
  (Aj (Bd (by exact(Gy (N':=["_law_turn", "_law_some", lJ]) (idx:=[none,some 2,some 0]) Cm rfl (Iv rfl zK (Ad (qv 1) Ac)) (λ_ _ _ _ _=>by exact(Ar (i:=0) (by show (["_law_turn", "_law_some", lJ]:v4).Nodup;decide +kernel))) qtN (λ_ _ _ _ _=>by exact(Vy (Kq:=K) rfl fZ PySem.F.slot_list_pop PySem.F.type_list_pop Ba9 (qv 1) (Ad (Bf a9 hr (Ad (qv 2) (Ad (Hx (Kq:=K) rfl rfl zF (Ad (qv 1) Ac)) Ac))) Ac)))))))) (by unfold Pg;walk_at "m")
theorem Ax2 (F:Fun K "_law_value" "_law_value" T5 f fd) (a9:yT0 P w K mg base):FnOk P w K mg base CX0 2 f fd [lJ] (spP K Bp):=by
 exact F.okQ yU (λhr hu _=>Ae (Bh (i:=1) yU.nd (Bf a9 hr (Ad (qv 0) (Ad Af Ac))))
  (Ae (Ed (Ai4 (qv 1) Af) (Aj (Bd (Gi (Bf a9 hr (Ad (qv 0) (Ad Af Ac))) Af))) Bs)
  (Ae (Ed (Sg hu (qv 1) Af) (Aj (Bd (Ax (Kq:=K) rfl (De (Ad (Gi (Io Af Af) Af) (Ad (Gi Af (Io Af Af)) (Ad Af (Ad Af Ac))))) (Bf a9 hr (Ad (qv 0) (Ad Af Ac))) Ep))) Bs)
  (Ae (Ed (Sg hu (qv 1) Af) (Aj (Bd Jb)) Bs)
  (Aj (Bd (Ax (Kq:=K) rfl (De (Sy (vs:=[.str "",.str "a",.str "b",.str "B",.str "10",.str "9",.str "-",.str "a b",.str "it's",.str "\\",.str "/",.str "_",.str ":",.str "None",.str "ab"]) rfl)) (Bf a9 hr (Ad (qv 0) (Ad Af Ac))) Ep))))))) (by unfold Ha;walk_at "m")
theorem Al0 (F:Fun K "_law_number" "_law_number" Qk f fd) (a9:yT0 P w K mg base):FnOk P w K mg base CX0 2 f fd [lJ] (spP K Cg):=by
 exact F.okQ Aj5 (λhr hu _=>Ae (Ed (Sg hu (Bf a9 hr (Ad (qv 0) (Ad Af Ac))) Af) (Aj (Bd (Ax (Kq:=K) rfl (De (Ad (Gi (Io Af Af) Af) (Ad (Gi Af (Io Af Af)) (Ad (Io Af Af) (Ad Af Ac))))) (Bf a9 hr (Ad (qv 0) (Ad Af Ac))) Ep))) Bs)
  (Aj (Bd (Gi (Bf a9 hr (Ad (qv 0) (Ad Af Ac))) Af)))) (by unfold Js;walk_at "m")
abbrev yT6 (P w K mg base):=Def P w K mg base "_law_value" 2 [lJ] (spP K Bp)
theorem A3h (F:Fun K "_law_pool" "_law_pool" X5 f fd) (i5:yT6 P w K mg base) (zK:mg "range" = none):FnOk P w K mg base CX0 3 f fd [lJ, lK] (spP K Ip):=by
 exact F.okQ yL (λhr hu _=>Ae (Bh (i:=2) yL.nd (De Ac))
  (Ae (G5 cz rfl (Iv rfl zK (Ad (qv 1) Ac)) (Ar (i:=3) yL.nd) (Ae (Bh (i:=4) yL.nd (Bf i5 hr (Ad (qv 0) Ac)))
  (Aj (Ed (Gx hu (qv 4) (qv 2) (by with_unfolding_all rfl)) (Aj (Gq (Ir (Kq:=K) rfl (qv 2) (qv 4)))) Bs))))
  (Aj (Bd (qv 2))))) (by unfold Td;walk_at "m")
theorem Ao4 (F:Fun K "_law_tuples" "_law_tuples" Pk f fd) (a9:yT0 P w K mg base) (l8:Def P w K mg base "_law_pool" 3 [lJ, lK] (spP K Ip)) (zF:mg "len" = none) (zK:mg "range" = none) (z9:mg "tuple" = none):FnOk P w K mg base CX0 4 f fd [lJ, lL, lK] (spP K Gm):=by
 exact F.okQ zW (λhr hu _=>Ae (Bh (i:=3) zW.nd (Bf l8 hr (Ad (qv 0) (Ad Af Ac))))
  (Ae (Bh (i:=4) zW.nd (De Ac))
  (Ae (G5 cz rfl (Iv rfl zK (Ad (qv 2) Ac)) (Ar (i:=5) zW.nd) (Ae (Bh (i:=6) zW.nd (Am (Kq:=K) rfl rfl z9 (Ad (by exact(Gy (N':=[lU, "_law_pool_here", lJ]) (idx:=[none,some 3,some 0]) Cm rfl (Iv rfl zK (Ad (qv 1) Ac)) (λ_ _ _ _ _=>by exact(Ar (i:=0) (by show ([lU, "_law_pool_here", lJ]:v4).Nodup;decide +kernel))) qtN (λ_ _ _ _ _=>by exact(Ax (Kq:=K) rfl (qv 1) (Bf a9 hr (Ad (qv 2) (Ad (Hx (Kq:=K) rfl rfl zF (Ad (qv 1) Ac)) Ac))) Ep)))) Ac)))
  (Aj (Ed (Gx hu (qv 6) (qv 4) (by with_unfolding_all rfl)) (Aj (Gq (Ir (Kq:=K) rfl (qv 4) (qv 6)))) Bs))))
  (Aj (Bd (qv 4)))))) (by unfold Nz;walk_at "m")
theorem A3m (F:Fun K "_law_wide" "_law_wide" Xk f fd) (a9:yT0 P w K mg base) (i8:Def P w K mg base "_law_many" 2 [lJ, "_law_least", "_law_few", "_law_most"] (spP K Hg)) (y0:Def P w K mg base "_law_names" 2 [lJ, lK] (spP K G4)) (i5:yT6 P w K mg base) (q5:Def P w K mg base "_law_number" 2 [lJ] (spP K Cg)) (j1:Def P w K mg base "_law_tuples" 4 [lJ, lL, lK] (spP K Gm)) (z9:mg "tuple" = none):FnOk P w K mg base CX0 5 f fd [lJ, "_law_numbers"] (spP K Kz):=by
 exact F.okQ zH (λhr hu _=>Ae (Bh (i:=2) zH.nd (Bf y0 hr (Ad (qv 0) (Ad Af Ac))))
  (Ae (Bs2 (i:=3) (j:=4) (k:=5) rfl zH.nd rfl rfl rfl (by decide) (by decide) (by decide) rfl rfl rfl (Ad (Bf a9 hr (Ad (qv 0) (Ad Af Ac))) (Ad (Bf a9 hr (Ad (qv 0) (Ad Af Ac))) (Ad (Bk Af (Bf a9 hr (Ad (qv 0) (Ad Af Ac)))) Ac))) rfl)
  (Ae (Ed (Sg hu (Bf a9 hr (Ad (qv 0) (Ad Af Ac))) Af) (Aj (Bh (i:=5) zH.nd (Bk Af (Bf a9 hr (Ad (qv 0) (Ad Af Ac)))))) Bs)
  (Ae (B1l (i:=6) (j:=7) rfl zH.nd rfl rfl (by decide) rfl rfl (Ad (Bg5 (Kq:=K) rfl (qv 2) Bp2 (Rz (qv 3))) (Ad (Bg5 (Kq:=K) rfl (qv 2) (Rz (qv 3)) (Rz (Bk (qv 3) (qv 4)))) Ac)) rfl)
  (Ae (Bh (i:=8) zH.nd (Bg5 (Kq:=K) rfl (qv 2) (Rz (Bk (qv 3) (qv 4))) (Rz (Bk (Bk (qv 3) (qv 4)) (qv 5)))))
  (Ae (Bh (i:=9) zH.nd (Bf j1 hr (Ad (qv 0) (Ad (qv 4) (Ad (Bf i8 hr (Ad (qv 0) (Ad Af (Ad Af (Ad Af Ac))))) Ac)))))
  (Ae (Bh (i:=10) zH.nd (Ax (Kq:=K) rfl (De (Ad Af (Ad Af (Ad Af Ac)))) (Bf a9 hr (Ad (qv 0) (Ad Af Ac))) Ep))
  (Ae (Bh (i:=11) zH.nd (De Ac))
  (Ae (G5 cz rfl (Dg (Kq:=K) rfl (Bf j1 hr (Ad (qv 0) (Ad (qv 3) (Ad (Bf i8 hr (Ad (qv 0) (Ad Af (Ad Af (Ad Af Ac))))) Ac))))) (Ar (i:=12) zH.nd) (Ae (Bh (i:=13) zH.nd (De Ac))
  (Ae (G5 cz rfl (Dg (Kq:=K) rfl (qv 9)) (Ar (i:=14) zH.nd) (Ae (Bh (i:=15) zH.nd (Am (Kq:=K) rfl rfl z9 (Ad (by exact(Gy (N':=[lQ, "_law_numbers", lJ]) (idx:=[none,some 1,some 0]) Cm rfl (Dg (Kq:=K) rfl (qv 8)) (λ_ _ _ _ _=>by exact(Ar (i:=0) (by show ([lQ, "_law_numbers", lJ]:v4).Nodup;decide +kernel))) qtN (λ_ _ _ _ _=>by exact(M9 (Jd (qv 1)) (Bf q5 hr (Ad (qv 2) Ac)) (Bf i5 hr (Ad (qv 2) Ac)))))) Ac)))
  (Aj (Gq (Ir (Kq:=K) rfl (qv 13) (M9 (Sg hu (Bf a9 hr (Ad (qv 0) (Ad (qv 10) Ac))) Af) Jb (qv 15)))))))
  (Aj (Gq (Ir (Kq:=K) rfl (qv 11) (Ca (Ad (qv 12) (Ad (Am (Kq:=K) rfl rfl z9 (Ad (qv 13) Ac)) Ac)))))))))
  (Aj (Bd (Ca (Ad (Am (Kq:=K) rfl rfl z9 (Ad (qv 6) Ac)) (Ad (Am (Kq:=K) rfl rfl z9 (Ad (qv 7) Ac)) (Ad (Am (Kq:=K) rfl rfl z9 (Ad (qv 8) Ac)) (Ad (Am (Kq:=K) rfl rfl z9 (Ad (qv 9) Ac)) (Ad (Am (Kq:=K) rfl rfl z9 (Ad (qv 11) Ac)) Ac))))))))))))))))) (by unfold Oo;walk_at "m")
theorem A5u {n:Nat}(F:Fun K "_law_same" "_law_same" Q0 f fd) (i6:Def P w K mg base "_law_same" (n) [lN, lS] (spP K (Bt n))) (yH:mg "all" = none) (yF:mg "bool" = none) (zN:mg "int" = none) (zA:mg "isinstance" = none) (zF:mg "len" = none) (zL:mg "list" = none) (yC:mg "str" = none) (z9:mg "tuple" = none) (zT:mg "zip" = none):FnOk P w K mg base CX0 (n+1) f fd [lN, lS] (spP K (Bt (n+1))):=by
 exact F.okQ A2x (λhr hu _=>Ae (Ed (Jd (Af0 (Kq:=K) rfl rfl zA (Ad (qv 1) (Ad (Ca (Ad (Eo (v:=.ty "list") rfl zL U7 rfl) (Ad (Eo (v:=.ty "tuple") rfl z9 Kp rfl) Ac))) Ac)))) (Ae (Ed (QW.qt (Ao0 (W9 hu (Cu (Kq:=K) rfl rfl zA (Ad (qv 0) (Ad (Eo (v:=.ty "list") rfl zL U7 rfl) Ac))) (Cu (Kq:=K) rfl rfl zA (Ad (qv 1) (Ad (Eo (v:=.ty "list") rfl zL U7 rfl) Ac)))) (Aa5 (W9 hu (Cu (Kq:=K) rfl rfl zA (Ad (qv 0) (Ad (Eo (v:=.ty "tuple") rfl z9 Kp rfl) Ac))) (Cu (Kq:=K) rfl rfl zA (Ad (qv 1) (Ad (Eo (v:=.ty "tuple") rfl z9 Kp rfl) Ac))))))) (Aj (Bd O7)) Bs)
  (Aj (Bd (Vn (Zy hu (Hx (Kq:=K) rfl rfl zF (Ad (qv 0) Ac)) (Hx (Kq:=K) rfl rfl zF (Ad (qv 1) Ac))) (Ae4 (Q8 (Kq:=K) rfl rfl rfl yH (Ad (by exact(Gy (N':=["_law_one", "_law_other"]) (idx:=[none,none]) Cm rfl (Av3 rfl zT (Ad (qv 0) (Ad (qv 1) Ac))) (λ_ _ _ _ _=>by exact(Fy (Kq:=K) rfl (n:=2) rfl (Az (Ar (i:=0) (by show (["_law_one", "_law_other"]:v4).Nodup;decide +kernel)) (Az (Ar (i:=1) (by show (["_law_one", "_law_other"]:v4).Nodup;decide +kernel)) Du)))) qtN (λ_ _ _ _ _=>by exact(Bf i6 hr (Ad (qv 0) (Ad (qv 1) Ac)))))) Ac))))))) Bs)
  (Ae (Ed (QW.qt (Ao0 (Zt (qv 1) Jb) (Aa5 (Jd (Cu (Kq:=K) rfl rfl zA (Ad (qv 1) (Ad (Eo (v:=.ty "str") rfl yC Aa8 rfl) Ac))))))) (Aj (Bd (Vn (Zy hu (qv 0) (qv 1)) (Ae4 (Zy hu (Cu (Kq:=K) rfl rfl zA (Ad (qv 0) (Ad (Eo (v:=.ty "str") rfl yC Aa8 rfl) Ac))) (Cu (Kq:=K) rfl rfl zA (Ad (qv 1) (Ad (Eo (v:=.ty "str") rfl yC Aa8 rfl) Ac)))))))) Bs)
  (Ae (Ed (Jd (Cu (Kq:=K) rfl rfl zA (Ad (qv 1) (Ad (Eo (v:=.ty "bool") rfl yF Ah1 rfl) Ac)))) (Aj (Bd (Vn (Cu (Kq:=K) rfl rfl zA (Ad (qv 0) (Ad (Eo (v:=.ty "bool") rfl yF Ah1 rfl) Ac))) (Ae4 (Zy hu (qv 0) (qv 1)))))) Bs)
  (Aj (Bd (Vn (Cu (Kq:=K) rfl rfl zA (Ad (qv 0) (Ad (Eo (v:=.ty "int") rfl zN Bh0 rfl) Ac))) (Vn (By1 (Cu (Kq:=K) rfl rfl zA (Ad (qv 0) (Ad (Eo (v:=.ty "bool") rfl yF Ah1 rfl) Ac)))) (Ae4 (Zy hu (qv 0) (qv 1)))))))))) (by unfold Gh;walk_at "m")
theorem Vm (F:Fun K "_law_same" "_law_same" Q0 f fd) (bF:Binds K fd [lN, lS] []) (mF:mg "_law_same" = some (.ref f)) (yH:mg "all" = none) (yF:mg "bool" = none) (zN:mg "int" = none) (zA:mg "isinstance" = none) (zF:mg "len" = none) (zL:mg "list" = none) (yC:mg "str" = none) (z9:mg "tuple" = none) (zT:mg "zip" = none):∀n:Nat,FnOk P w K mg base CX0 (n) f fd [lN, lS] (spP K (Bt n))
 | 0=>B3t
 | n+1=>A5u F ⟨f,fd,Vm F bF mF yH yF zN zA zF zL yC z9 zT n,bF,F.kp,mF⟩ yH yF zN zA zF zL yC z9 zT
theorem A6e (F:Fun K "_law_long" "_law_long" We f fd) (zT:mg "zip" = none):FnOk P w K mg base CX0 1 f fd [lL] (spP K Ks):=by
 exact F.okQ yM (λ_ _ _=>Ae (Bh (i:=1) yM.nd (De Ac))
  (Ae (G5 cz rfl (Dg (Kq:=K) rfl (Ax (Kq:=K) rfl (qv 0) Af Ao)) (Fy (Kq:=K) rfl (n:=2) rfl (Az (Ar (i:=2) yM.nd) (Az (Ar (i:=3) yM.nd) Du))) (Aj (Gq (Vy (Kq:=K) rfl fZ PySem.F.slot_list_extend PySem.F.type_list_extend Zw (qv 1) (Ad (by exact(Gy (N':=[lT, "_law_told_here", lW]) (idx:=[none,none,some 2]) Cm rfl (Av3 rfl zT (Ad (Ax (Kq:=K) rfl (qv 0) Af Ao) (Ad (qv 3) Ac))) (λ_ _ _ _ _=>by exact(Fy (Kq:=K) rfl (n:=2) rfl (Az (Ar (i:=0) (by show ([lT, "_law_told_here", lW]:v4).Nodup;decide +kernel)) (Az (Ar (i:=1) (by show ([lT, "_law_told_here", lW]:v4).Nodup;decide +kernel)) Du)))) (λ_ _ _ _ _=>by exact(Ot (V5 (qv 1) Jb))) (λ_ _ _ _ _=>by exact(Bk (Bk (qv 2) (qv 0)) (qv 1))))) Ac)))))
  (Aj (Bd (Ca (Ad (Bk (Bk (Ax (Kq:=K) rfl (qv 0) Af Ao) (Ax (Kq:=K) rfl (qv 0) Af Ao)) (Ax (Kq:=K) rfl (qv 0) Af Ao)) (Ad (qv 1) Ac))))))) (by unfold Z3;walk_at "m")
theorem A3s (F:Fun K "_law_fold" "_law_fold" Vp f fd) (zN:mg "int" = none) (z9:mg "tuple" = none):FnOk P w K mg base CX0 1 f fd [lR, "_law_rows", "_law_key", lV, "_law_values"] (spP K Iu):=by
 exact F.okQ zJ (λ_ hu _=>Ae (by exact(M4 (i:=5) zJ.nd rfl (Or.inl rfl) (N':=["_law_some", lR]) (idx:=[none,some 0]) Cm rfl (Dg (Kq:=K) rfl (Ca (Ad (qv 2) (Ad (qv 3) (Ad (qv 4) Ac))))) (λ_ _ _ _ _=>by exact(Ar (i:=0) (by show (["_law_some", lR]:v4).Nodup;decide +kernel))) qtN (λ_ _ _ _ _=>by exact(by exact(Gy (N':=[lQ, lR]) (idx:=[none,some 1]) Cm rfl (Dg (Kq:=K) rfl (qv 0)) (λ_ _ _ _ _=>by exact(Ar (i:=0) (by show ([lQ, lR]:v4).Nodup;decide +kernel))) qtN (λ_ _ _ _ _=>by exact(Vy (Kq:=K) rfl PySem.F.plainAttrs_tuple PySem.F.slot_tuple_index PySem.F.type_tuple_index (Wh rfl) (qv 1) (Ad (qv 0) Ac))))))))
  (Ae (Nu (Ca (Ad (De Ac) (Ad (De Ac) (Ad Rt Ac)))) (Fy (Kq:=K) rfl (n:=3) rfl (Az (Ar (i:=6) zJ.nd) (Az (Ar (i:=7) zJ.nd) (Az (Ar (i:=8) zJ.nd) Du))))) (Ab1 (d:=8) (G5 cz rfl (Dg (Kq:=K) rfl (qv 1)) (Ar (i:=9) zJ.nd) (Ae (Nu (by exact(Gy (N':=["_law_some", "_law_row"]) (idx:=[none,some 9]) Cm rfl (Dg (Kq:=K) rfl (qv 5)) (λ_ _ _ _ _=>by exact(Ar (i:=0) (by show (["_law_some", "_law_row"]:v4).Nodup;decide +kernel))) qtN (λ_ _ _ _ _=>by exact(Am (Kq:=K) rfl rfl z9 (Ad (by exact(Gy (N':=[lU, "_law_row"]) (idx:=[none,some 1]) Cm rfl (Dg (Kq:=K) rfl (qv 0)) (λ_ _ _ _ _=>by exact(Ar (i:=0) (by show ([lU, "_law_row"]:v4).Nodup;decide +kernel))) qtN (λ_ _ _ _ _=>by exact(Ax (Kq:=K) rfl (qv 1) (qv 0) Qa)))) Ac))))) (B0b (Kq:=K) rfl (n:=3) rfl (Az (Ar (i:=10) zJ.nd) (Az (Ar (i:=11) zJ.nd) (Az (Ar (i:=12) zJ.nd) Du)))))
  (Ae (Bh (i:=6) zJ.nd (Bk (qv 6) (Zq (De (Ad (qv 10) Ac)) (Gs (Kq:=K) rfl rfl zN (Ad (Ra hu (qv 10) (qv 6) (by with_unfolding_all rfl)) Ac)))))
  (Ae (Bh (i:=7) zJ.nd (Bk (qv 7) (Zq (De (Ad (qv 11) Ac)) (Gs (Kq:=K) rfl rfl zN (Ad (Ra hu (qv 11) (qv 7) (by with_unfolding_all rfl)) Ac)))))
  (Aj (Af1 hu (qv 8) (Ca (Ad (qv 10) (Ad (qv 11) Ac))) (qv 12)))))))
  (Ae (by exact(M4 (i:=1) zJ.nd rfl (Or.inl rfl) (N':=[lW, "_law_heads", "_law_there"]) (idx:=[none,some 7,some 8]) Cm rfl (Dg (Kq:=K) rfl (qv 6)) (λ_ _ _ _ _=>by exact(Ar (i:=0) (by show ([lW, "_law_heads", "_law_there"]:v4).Nodup;decide +kernel))) qtN (λ_ _ _ _ _=>by exact(Ca (Ad (qv 0) (Ad (Am (Kq:=K) rfl rfl z9 (Ad (by exact(Gy (N':=[lT, "_law_there", lW]) (idx:=[none,some 2,some 0]) Cm rfl (Dg (Kq:=K) rfl (qv 1)) (λ_ _ _ _ _=>by exact(Ar (i:=0) (by show ([lT, "_law_there", lW]:v4).Nodup;decide +kernel))) qtN (λ_ _ _ _ _=>by exact(A8x hu (qv 1) (Ca (Ad (qv 2) (Ad (qv 0) Ac))) ⟨rfl,rfl,rfl,rfl⟩)))) Ac)) Ac))))))
  (Aj (Bd (Ca (Ad (Am (Kq:=K) rfl rfl z9 (Ad (qv 2) Ac)) (Ad (Am (Kq:=K) rfl rfl z9 (Ad (qv 3) Ac)) (Ad (Am (Kq:=K) rfl rfl z9 (Ad (qv 4) Ac)) (Ad (Am (Kq:=K) rfl rfl z9 (Ad (qv 7) Ac)) (Ad (Am (Kq:=K) rfl rfl z9 (Ad (qv 1) Ac)) Ac)))))))))))) (Ek (Hi (Ug (by decide) (Ka (Hy (An me_var (An me_var (An me_var Bu))))) Bm Pz (Ug (by decide) (Ka me_var) Bm Pz (A6v me_var me_var Bh1 Y8))) Bm)
  (Wq (Be4 (Ka me_var) Bm (Ji (by decide)) (Ah8 (Ac5 (Ug (by decide) (Ka me_var) Bm Pz (El (Ug (by decide) (Ka me_var) Bm Pz (Cv me_var me_var Dv)) Hq)) (A6r (Rk Bm (Rk Bm (Rk Bm A0d)))) (A2a (Qp (Ji (by decide)) Fx (Qp (Ji (by decide)) Fx (Qp (Ji (by decide)) Fx A2m Oi) (Lq Fx Oi)) (Lq Fx (Lq Fx Oi)))))
  (Ah8 (Ac5 (Cv me_var (Cv (Ls (An me_var Bu)) (El (Cv me_var me_var Ss) Af3) V4) Hl) Bm (Ji (by decide)))
  (Ah8 (Ac5 (Cv me_var (Cv (Ls (An me_var Bu)) (El (Cv me_var me_var Ss) Af3) V4) Hl) Bm (Ji (by decide)))
  (A7t (Hy (An me_var (An me_var Bu))) (A8j me_var))))))
  (Ek (Hi (Ug (by decide) (A8o (Ka me_var)) Bm Pz (Hy (An me_var (An (El (Ug (by decide) (Ka me_var) Bm Pz (Ai2 me_var (Hy (An me_var (An me_var Bu))) (Em rfl))) Hq) Bu)))) Bm)
  (J6 (Hy (An (El me_var Hq) (An (El me_var Hq) (An (El me_var Hq) (An (El me_var Hq) (An (El me_var Hq) Bu))))))))))
abbrev yT7 (P w K mg base):=Bv0 P w K mg base "_law_told" 1 ["NoColumn"] (spP K Ea)
theorem A5y (F:Fun K "_law_told" "_law_told" Wv f fd) (hb:Binds K fd ["_law_call"] []) (gm:mg "_law_told" = some (.ref f)) (yJ:mg "ValueError" = none) (zA:mg "isinstance" = none) (zF:mg "len" = none) (n3:ClT K mg [("NoColumn",false)] "BadColumns") (u4:ClT K mg [("NoColumn",false)] "BadOrder") (x9:ClT K mg [("NoColumn",false)] "BadRow") (l9:ClT K mg [("NoColumn",false)] "BadWay") (l5:ClT K mg [("NoColumn",false)] "Double") (u3:ClT K mg [("NoColumn",true)] "NoColumn") (m9:ClT K mg [("NoColumn",false)] "NoHead") (k8:ClT K mg [("NoColumn",false)] "NoNumber") (l4:ClT K mg [("NoColumn",false)] "NoPart") (l6:ClT K mg [("NoColumn",false)] "NoRow") (u8:TbOk K (.type "ValueError") [("NoColumn",true)]) (i7:ClI K mg ⟨"NoColumn.__init__", "FoldError", "name", "name", "no column ", ""⟩ "NoColumn") (l7:ClF K mg ["NoColumn"] "FoldError"):yT7 P w K mg base:=by
 obtain⟨aF4,aC5,aB2⟩:=n3;obtain⟨aE4,aA9,aD8⟩:=u4;obtain⟨aF1,aC1,aB9⟩:=x9;obtain⟨aF3,aD9,aC0⟩:=l9;obtain⟨aE3,aB8,aE2⟩:=l5;obtain⟨aE8,aC6,aD3⟩:=u3;obtain⟨aE7,aB3,aB7⟩:=m9;obtain⟨aE5,aB4,aA7⟩:=k8;obtain⟨aF2,aB1,aC7⟩:=l4;obtain⟨aE9,aB5,aD5⟩:=l6;have aC8:=u8;have aA0:=A7x i7;obtain⟨aB0,aA8,aC2,aD2,aB6,aD4,aA3,aD6,aA5,aA2,aA6,aA4,aA1⟩:=i7;obtain⟨aC3,aD0,aE0⟩:=l7
 refine⟨aC3,Br3 F yE hb gm aD0 (λcdv A outer s H=>by exact(Nu (Ca (Ad Jb (Ad Jb Ac))) (Fy (Kq:=K) rfl (n:=2) rfl (Az (Ar (i:=1) yE.nd) (Az (Ar (i:=2) yE.nd) Du))))) (λcdv A outer s H0 H vs Q E hr h=>?_),aE0⟩
 have hu:=hr.units;have hgd:=hr.gd
 refine At1 (Ae (Ed (Zt (qv 1) Jb) (Aj (Bd (qv 0))) Bs)
  (Ae (Bh (i:=3) (bC.mp yE.nd).2 (De (Ad (Qq (Kq:=K) rfl rfl zA (Ad (qv 1) (Ad (Kf rfl aC5) Ac))) (Ad (Qq (Kq:=K) rfl rfl zA (Ad (qv 1) (Ad (Kf rfl aC6) Ac))) (Ad (Qq (Kq:=K) rfl rfl zA (Ad (qv 1) (Ad (Kf rfl aD9) Ac))) Ac)))))
  (Ae (Gq (Ir (Kq:=K) rfl (qv 3) (Qq (Kq:=K) rfl rfl zA (Ad (qv 1) (Ad (Kf rfl aB4) Ac)))))
  (Ae (Bh (i:=4) (bC.mp yE.nd).2 (Bh4 (Kq:=K) rfl rfl zA (Ad (qv 1) (Ad (Ca (Ad (Kf rfl aA9) (Ad (Kf rfl aC1) (Ad (Kf rfl aB8) (Ad (Kf rfl aB3) (Ad (Kf rfl aB1) (Ad (Kf rfl aB5) Ac))))))) Ac))))
  (Ae (Ed (QW.qt (Ao0 (Jd (qv 4)) (Ao0 (Ae5 (Jd (Qq (Kq:=K) rfl rfl zA (Ad (qv 1) (Ad (Eo (v:=.ty "ValueError") rfl yJ Yh rfl) Ac))))) (Aa5 (W9 hu (Hx (Kq:=K) rfl rfl zF (Ad (by exact(Gy (N':=["_law_mark"]) (idx:=[none]) Cm rfl (Dg (Kq:=K) rfl (qv 3)) (λ_ _ _ _ _=>by exact(Ar (i:=0) (by show (["_law_mark"]:v4).Nodup;decide +kernel))) (λ_ _ _ _ _=>by exact(Ot (Jd (qv 0)))) (λ_ _ _ _ _=>by exact(qv 0)))) Ac)) Af))))) (Aj (Bd (Ca (Ad J7 (Ad (B0j Af) (Ad Jb Ac)))))) Bs)
  (Aj (Bd (Ca (Ad J7 (Ad (Vy (Kq:=K) rfl fZ PySem.F.slot_list_index PySem.F.type_list_index (A5z rfl hu) (qv 3) (Ad O7 Ac)) (Ad (M9 (Jd (Ax (Kq:=K) rfl (qv 3) Af Ao)) (B5i (Kq:=K) rfl (qv 1)) Jb) Ac))))))))))) ?_
 exact Au2 (Ek (Xi (Il (A2p me_var)) (J6 me_var) Lf)
  (Ek (Hi (Ls (An (Ob rfl aB2 me_var) (An (Ob rfl aD3 me_var) (An (Ob rfl aC0 me_var) Bu)))) Bm)
  (Ek (A0f (A8r me_var (Ob rfl aA7 me_var)))
  (Ek (Hi (Ap8 (show Ai6 K _ [("NoColumn",false)] from (Mq aD8 (Mq aB9 (Mq aE2 (Mq aB7 (Mq aC7 (Bp0 aD5) rfl) rfl) rfl) rfl) rfl)) me_var) Bm)
  (Ek (Xi (Bd1 (At9 me_var) (Bd1 (Ad8 (At9 (Ob rfl aC8 me_var))) (Il (Cv (Au1 (Ug (by decide) (Ka me_var) Bm (At9 me_var) me_var)) (Em rfl) Ax4)))) (J6 (Hy (An (Em rfl) (An (Y0 (Em rfl) A2q) (An (Em rfl) Bu))))) Lf)
  (J6 (Hy (An (Em rfl) (An (A6v me_var (Em rfl) A9h V9) (An (Aw6 (At9 (Cv me_var (Em rfl) Dv)) (Bw0 aA0 me_var) (Em rfl)) Bu)))))))))) h
theorem A9i (F:Fun K "_law_due" "_law_due" Ad1 f fd) (n5:Def P w K mg base "_law_long" 1 [lL] (spP K Ks)) (k6:Def P w K mg base "_law_fold" 1 [lR, "_law_rows", "_law_key", lV, "_law_values"] (spP K Iu)) (zN:mg "int" = none) (zL:mg "list" = none):FnOk P w K mg base CX0 2 f fd [lL, lQ, lT] (spP K Gr):=by
 exact F.okQ zR (λhr hu _=>Ae (Nu (Bf n5 hr (Ad (qv 0) Ac)) (Fy (Kq:=K) rfl (n:=2) rfl (Az (Ar (i:=3) zR.nd) (Az (Ar (i:=4) zR.nd) Du))))
  (Ae (Nu (Ax (Kq:=K) rfl (De (Ad (Ca (Ad (Ax (Kq:=K) rfl (qv 0) Af Ao) (Ad (Ax (Kq:=K) rfl (qv 0) Af Ao) Ac))) (Ad (Ca (Ad (Ax (Kq:=K) rfl (qv 0) Af Ao) (Ad (Ax (Kq:=K) rfl (qv 0) Af Ao) Ac))) Ac))) (Gs (Kq:=K) rfl rfl zN (Ad (qv 2) Ac)) Ep) (Fy (Kq:=K) rfl (n:=2) rfl (Az (Ar (i:=5) zR.nd) (Az (Ar (i:=6) zR.nd) Du))))
  (Ae (Ed (Gx hu (qv 1) (qv 5) (by with_unfolding_all rfl)) (Aj (Bd (Ca (Ad J7 (Ad Af (Ad (qv 1) Ac)))))) Bs)
  (Ae (by exact(M4 (i:=7) zR.nd rfl (Or.inl rfl) (N':=["_law_one", lQ]) (idx:=[none,some 1]) Cm rfl (Dg (Kq:=K) rfl (qv 5)) (λ_ _ _ _ _=>by exact(Ar (i:=0) (by show (["_law_one", lQ]:v4).Nodup;decide +kernel))) (λ_ _ _ _ _=>by exact(Ot (W9 hu (qv 0) (qv 1)))) (λ_ _ _ _ _=>by exact(qv 0))))
  (Ae (Bh (i:=8) zR.nd (Bk (Fv (Kq:=K) rfl rfl zL (Ad (qv 6) Ac)) (De (Ad (qv 1) Ac))))
  (Ae (Nu (Ax (Kq:=K) rfl (De (Ad (Ca (Ad (qv 8) (Ad (qv 7) Ac))) (Ad (Ca (Ad (qv 7) (Ad (qv 8) Ac))) Ac))) (Gs (Kq:=K) rfl rfl zN (Ad (qv 2) Ac)) Ep) (Fy (Kq:=K) rfl (n:=2) rfl (Az (Ar (i:=9) zR.nd) (Az (Ar (i:=10) zR.nd) Du))))
  (Aj (Bd (Bf k6 hr (Ad (qv 3) (Ad (qv 4) (Ad (qv 9) (Ad (qv 10) (Ad (Ax (Kq:=K) rfl (qv 0) Af Ao) Ac)))))))))))))) (by unfold Kh;walk_at "m")
theorem B2k (F:Fun K "law" "law" Bf2 f fd) {c_ T_:Addr} (hT_:(T_,("law" : Str) ++ ".<locals>." ++ "<lambda>")∈Do K) (hC_:PySem.W.codeHdIn K c_ T_=true) (hD_:fd.code=.ref c_) (c8:yT1 P w K mg base) (x4:DefX P w K mg base "to_head" 8 ["wide", "name"] (spX K Et)) (z5:DefX P w K mg base "to_key" 8 ["wide", "name"] (spX K Ge)) (x5:Def P w K mg base "_law_box" 2 [lM, lU] (spP K Nb)) (a9:yT0 P w K mg base) (w4:Def P w K mg base "_law_wide" 5 [lJ, "_law_numbers"] (spP K Kz)) (i6:Def P w K mg base "_law_same" 9 [lN, lS] (spP K (Bt 9))) (l0:yT7 P w K mg base) (i9:Def P w K mg base "_law_due" 2 [lL, lQ, lT] (spP K Gr)) (zF:mg "len" = none) (yZ:mg "min" = none) (zK:mg "range" = none) (yC:mg "str" = none):FnOk P w K mg base CX0 12 f fd [lM] (spP K Ay1):=by
 obtain⟨fc__law_told,T__law_told,xt__law_told⟩:=l0
 refine F.okL zY (λ_ _ _ _=>A7g) (λcdv A outer s H vs Q E hcd_ hr h=>?_)
 have hu:=hr.units;have hgd:=hr.gd
 refine At1 (Ae (G5 cz rfl (Iv rfl zK (Ad (Bk Af (Aa2 (Kq:=K) rfl rfl rfl yZ (Ad Af (Ad (Hx (Kq:=K) rfl rfl zF (Ad (qv 0) Ac)) Ac)))) Ac)) (Ar (i:=1) zY.nd) (Ae (Bh (i:=2) zY.nd (Bf x5 hr (Ad (qv 0) (Ad (qv 1) Ac))))
  (Ae (Bh (i:=3) zY.nd (Bf w4 hr (Ad (qv 2) (Ad O7 Ac))))
  (Ae (Bh (i:=4) zY.nd (Bf a9 hr (Ad (qv 2) (Ad Af Ac))))
  (Ae (Ed (Qz (qv 4) Af) (Ae (Bh (i:=5) zY.nd (M9 (Sg hu (qv 4) Af) (Ca (Ad (Bk (Ax (Kq:=K) rfl (qv 3) Af Ao) (Ax (Kq:=K) rfl (qv 3) Af Ao)) (Ad (De Ac) Ac))) (Ca (Ad (De Ac) (Ad (Bk (Ax (Kq:=K) rfl (qv 3) Af Ao) (Ax (Kq:=K) rfl (qv 3) Af Ao)) Ac)))))
  (Aj (Bh (i:=3) zY.nd (Bf c8 hr (Ad (qv 3) (Ad (Ax (Kq:=K) rfl (qv 5) Af Ao) (Ad (Ax (Kq:=K) rfl (qv 5) Af Ao) Ac))))))) Bs)
  (Ae (Bh (i:=6) zY.nd (Bh6 (Kq:=K) rfl hu hgd rfl yC (Ad (qv 3) Ac)))
  (Ae (G5 cz rfl (Dg (Kq:=K) rfl (Bk (Bk (Bk (Ax (Kq:=K) rfl (qv 3) Af Ao) (Ax (Kq:=K) rfl (qv 3) Af Ao)) (Ax (Kq:=K) rfl (qv 3) Af Ao)) (Ca (Ad J7 (Ad J7 (Ad (Ax (Kq:=K) rfl (De (Sy (vs:=[.str "b",.str "a",.str "zz",.str "A",.str "-"]) rfl)) (Bf a9 hr (Ad (qv 2) (Ad Af Ac))) Ep) Ac)))))) (Ar (i:=7) zY.nd) (Aj (G5 cz rfl (Iv rfl zK (Ad Af Ac)) (Ar (i:=8) zY.nd) (Ae (Ed (Ae5 (Jd (Bf i6 hr (Ad (Bb1 (Kq:=K) rfl (kg:=8) (G:=[lL, lQ]) (js:=[3,7]) T__law_told hT_ hC_ (hcd_.symm.trans hD_) hr (λ_=>An3 _) ⟨Cm,by decide +kernel⟩ (λ_ _ _ _ _ _ _ _ hr=>by exact(A6t Xz x4 hr (Ad (qv 0) (Ad (qv 1) Ac))))) (Ad (Bf i9 hr (Ad (qv 3) (Ad (qv 7) (Ad O7 Ac)))) Ac))))) (Aj (Bd O7)) Bs)
  (Aj (Ed (Ae5 (Jd (Bf i6 hr (Ad (Bb1 (Kq:=K) rfl (kg:=8) (G:=[lL, lQ]) (js:=[3,7]) T__law_told hT_ hC_ (hcd_.symm.trans hD_) hr (λ_=>An3 _) ⟨Cm,by decide +kernel⟩ (λ_ _ _ _ _ _ _ _ hr=>by exact(A6t Xz z5 hr (Ad (qv 0) (Ad (qv 1) Ac))))) (Ad (Bf i9 hr (Ad (qv 3) (Ad (qv 7) (Ad O7 Ac)))) Ac))))) (Aj (Bd O7)) Bs))))))
  (Aj (Ed (W9 hu (Bh6 (Kq:=K) rfl hu hgd rfl yC (Ad (qv 3) Ac)) (qv 6)) (Aj (Bd O7)) Bs)))))))))
  (Aj (Bd O7))) ?_
 exact Au2 (Ek (Af4 (Ah5 (Cv (Em rfl) (A1s (Em rfl) (Au1 me_var)) Hl)) Bm (Ek (Hi (Gn (An me_var (An me_var Bu))) Bm)
  (Ek (Hi (Gn (An me_var (An (Em rfl) Bu))) Bm)
  (Ek (Hi (Gn (An me_var (An (Em rfl) Bu))) Bm)
  (Ek (Xi (Il (Cv me_var (Em rfl) A7f)) (Ek (Hi (Aw6 (Il (Cv me_var (Em rfl) A9t)) (Hy (An (Cv (Cv me_var (Em rfl) Dv) (Cv me_var (Em rfl) Dv) Hl) (An (Ls Bu) Bu))) (Hy (An (Ls Bu) (An (Cv (Cv me_var (Em rfl) Dv) (Cv me_var (Em rfl) Dv) Hl) Bu)))) Bm)
  (Hi (Gn (An me_var (An (Cv me_var (Em rfl) Dv) (An (Cv me_var (Em rfl) Dv) Bu)))) Bm)) Lf)
  (Ek (Hi (El me_var Aa9) Bm)
  (Ek (Af4 (Ka (Cv (Cv (Cv (Cv me_var (Em rfl) Dv) (Cv me_var (Em rfl) Dv) Hl) (Cv me_var (Em rfl) Dv) Hl) (Hy (An (Em rfl) (An (Em rfl) (An (Cv (Ls (B4f rfl)) (Gn (An me_var (An (Em rfl) Bu))) Dv) Bu)))) Hl)) Bm (Af4 (Ah5 (Em rfl)) Bm (Ek (Xi (Ad8 (At9 (Gn (An (As1 xt__law_told (show MA K (tNs [3,7]) _ from (An me_var (An me_var Bu)))) (An (Gn (An me_var (An me_var (An (Em rfl) Bu)))) Bu))))) (J6 (Em rfl)) Lf)
  (Xi (Ad8 (At9 (Gn (An (As1 xt__law_told (show MA K (tNs [3,7]) _ from (An me_var (An me_var Bu)))) (An (Gn (An me_var (An me_var (An (Em rfl) Bu)))) Bu))))) (J6 (Em rfl)) Lf))))
  (Xi (Il (Cv (El me_var Aa9) me_var Ax4)) (J6 (Em rfl)) Lf))))))))
  (J6 (Em rfl))) h
end
theorem lnS {us:w6}(h:us.length=n+1):∃x r,us=x::r/\r.length=n:=by
 cases us with
 | nil=>grind
 | cons x r=>grind
theorem ln1 {us:w6}(h:us.length=1):∃x0,us=[x0]:=by
 obtain⟨x,r,a,b⟩:=lnS h
 simp_all
theorem ln2 {us:w6}(h:us.length=2):∃c b,us=[c,b]:=by
 obtain⟨c,r,a,d⟩:=lnS h;obtain⟨b,a⟩:=ln1 d
 grind
theorem ln3 {us:w6}(h:us.length=3):∃c d b,us=[c,d,b]:=by
 obtain⟨c,r,a,e⟩:=lnS h;obtain⟨d,b,a⟩:=ln2 e
 grind
theorem ln4 {us:w6}(h:us.length=4):∃c d e b,us=[c,d,e,b]:=by
 obtain⟨c,r,a,f⟩:=lnS h;obtain⟨d,e,b,a⟩:=ln3 f
 grind
theorem ln5 {us:w6}(h:us.length=5):∃c e d f b,us=[c,e,d,f,b]:=by
 obtain⟨c,r,a,g⟩:=lnS h;obtain⟨e,d,f,b,a⟩:=ln4 g
 grind
theorem _root_.bi {st:Stmt}(F:L2.Fun K x qual st f d)(ps:v4)(h:∀(i b e:Value) (g:Option Addr) (a c:Value) (us:w6),us.length=ps.length->bindArgs (PySem.W.fnOf x qual (Jp st) (Cz st) (Ah st) .none i b e g a c) ⟨us,[]⟩=pure (ps.zip us):=by intro _ _ _ _ _ _ us hl;first | (obtain⟨_,rfl⟩:=ln1 hl;rfl) | (obtain⟨_,_,rfl⟩:=ln2 hl;rfl) | (obtain⟨_,_,_,rfl⟩:=ln3 hl;rfl) | (obtain⟨_,_,_,_,rfl⟩:=ln4 hl;rfl) | (obtain⟨_,_,_,_,_,rfl⟩:=ln5 hl;rfl)):L2.Binds K d ps []:=F.binds h
theorem mkD (a:FnOk P w K mg base CX0 k f d ps sp) (b:Binds K d ps []) (c:PySem.W.keepIn K (.ref f)=true) (g:mg x=some (.ref f)):Def P w K mg base x k ps sp:=⟨f,d,a,b,c,g⟩
theorem mkX {P:u6}{w:World}{K:v9}{mg:x_}{base:Heap}{k:Nat}{f:Addr}{fd:u5}{x:Str}{ps:v4}{sp:Sp}(a:FnOk P w K mg base (CXe P w) k f fd ps sp)(b:Binds K fd ps [])(c:PySem.W.keepIn K (.ref f)=true)(g:mg x=some (.ref f)):DefX P w K mg base x k ps sp:=⟨f,fd,a,b,c,g⟩
theorem Bo (T:PyProof.Rows.Top q loose g mg j h) (k:∀a o,h.get? a=some o->En o=true->o.data≠.fields #[]->K.lookup a=some o) (l:(PyProof.Rows.recsOf q).map (λd=>(d.name,d.params,d.body,d.scope))=L) {i:Nat} (e:L[i]?=some (x,Jp st,Cz st,Ah st)):∃f fd,Fun K x x st f fd/\mg x=some (.ref f):=by
 obtain⟨d,m,rfl,a,b,c⟩:=An6 l e;exact Bk6 T k m a b c
abbrev rr (x:Str)(i:Nat):Str×Arguments×List Stmt×Scope:=(x,Jp (top i),Cz (top i),Ah (top i))
theorem Bz9 {l:PySem.W.OpenLaw}{w:World}{q:u6}{loose:v4}{mean:ExcName->u9}{mg mb:x_}{h:Heap}{fa:Addr}(T:PyProof.Rows.Top q loose mean mg mb h)(hfa:mg "law" = some (.ref fa))
 (hlaw:∀ns:List Int,ns.length<=63->Ay1 [.sc ns]=.ret (.im (.bool true)) [.sc ns])
 (hR:(PyProof.Rows.recsOf q).map (λd=>(d.name,d.params,d.body,d.scope))=[rr "rank" 13,rr "risen" 14,rr "place_of" 16,rr "places_of" 17,rr "values_at" 18,rr "check_all_columns" 21,rr "check_order" 22,rr "rows_by_place" 23,rr "first_seen" 24,rr "parts_seen" 25,rr "heads_seen" 26,rr "laid_row" 27,rr "laid_out" 28,rr "rows_laid_out" 29,rr "check_doubles" 30,rr "folded" 31,rr "cells_along" 32,rr "unfolded" 33,rr "turned" 35,rr "without" 36,rr "to_head" 37,rr "to_key" 38,rr "_law_cell_at" 40,rr "_law_box" 41,rr "_law_take" 42,rr "_law_many" 43,rr "_law_names" 44,rr "_law_value" 45,rr "_law_number" 46,rr "_law_pool" 47,rr "_law_tuples" 48,rr "_law_wide" 49,rr "_law_same" 50,rr "_law_long" 51,rr "_law_fold" 52,rr "_law_told" 53,rr "_law_due" 54,rr "law" 55])
 (hB:(["ValueError", "abs", "all", "bool", "enumerate", "int", "isinstance", "len", "list", "min", "range", "str", "tuple", "zip"]:v4).all (Bb4 q loose [("rank" : Str),("risen" : Str),("place_of" : Str),("places_of" : Str),("values_at" : Str),("check_all_columns" : Str),("check_order" : Str),("rows_by_place" : Str),("first_seen" : Str),("parts_seen" : Str),("heads_seen" : Str),("laid_row" : Str),("laid_out" : Str),("rows_laid_out" : Str),("check_doubles" : Str),("folded" : Str),("cells_along" : Str),("unfolded" : Str),("turned" : Str),("without" : Str),("to_head" : Str),("to_key" : Str),("_law_cell_at" : Str),("_law_box" : Str),("_law_take" : Str),("_law_many" : Str),("_law_names" : Str),("_law_value" : Str),("_law_number" : Str),("_law_pool" : Str),("_law_tuples" : Str),("_law_wide" : Str),("_law_same" : Str),("_law_long" : Str),("_law_fold" : Str),("_law_told" : Str),("_law_due" : Str),("law" : Str)])=true)
 (hX:A4z tcT mg h)
 (hF:A4i xcR xcT xcV xcF h)
 (hI:A2y xcJ xcY h) :
 ∃(K:v9) (fd:u5),K.In h/\TabAt K h/\(∀(s:u_) (v:Value),BindsTo s fd ⟨[v],[]⟩ [("_law_script",v)])/\∀base:Heap,K.In base->base.Ns mainGlobals mg->FnOk l.prog w K mg base CX0 12 fa fd [lM] (A0s K):=by
 obtain⟨d36,m36,n36,p36⟩:=An6 hR (i:=37) rfl;obtain⟨xF,T_law,hd_law,ht_law,hc_law⟩:=Bn3 T m36
 obtain⟨kin,tab,hcd,hK⟩:=B5v (h:=h) (tabs:=[(xF,T_law,(("law" : Str) ++ ".<locals>." ++ "<lambda>"))]) (λt m=>by cases aN.mp m;exact⟨hd_law,ht_law⟩) (λt m=>by cases aN.mp m;simp)
 obtain⟨lc_law,lt_law⟩:=hcd _ (List.mem_singleton.mpr rfl)
 generalize R9 h [(xF,T_law,(("law" : Str) ++ ".<locals>." ++ "<lambda>"))]=K at *
 obtain⟨f1,fd1,F1,g1⟩:=Bo T hK hR (st:=Ql) (i:=2) rfl;have b1:=bi F1 ["table", "name"];obtain⟨f2,fd2,F2,g2⟩:=Bo T hK hR (st:=N5) (i:=3) rfl;have b2:=bi F2 ["table", "names"];obtain⟨f3,fd3,F3,g3⟩:=Bo T hK hR (st:=Ng) (i:=4) rfl;have b3:=bi F3 ["row", "places"];obtain⟨f4,fd4,F4,g4⟩:=Bo T hK hR (st:=Fg) (i:=5) rfl;have b4:=bi F4 ["columns", "key", "names", "values"];obtain⟨f5,fd5,F5,g5⟩:=Bo T hK hR (st:=J0) (i:=6) rfl;have b5:=bi F5 ["order"];obtain⟨f6,fd6,F6,g6⟩:=Bo T hK hR (st:=Hu) (i:=7) rfl;have b6:=bi F6 ["table", "key", "names"];obtain⟨f7,fd7,F7,g7⟩:=Bo T hK hR (st:=Li) (i:=8) rfl;have b7:=bi F7 ["things"];obtain⟨f8,fd8,F8,g8⟩:=Bo T hK hR (st:=K9) (i:=9) rfl;have b8:=bi F8 ["groups"];obtain⟨f9,fd9,F9,g9⟩:=Bo T hK hR (st:=Lw) (i:=10) rfl;have b9:=bi F9 ["groups", "order"];obtain⟨f10,fd10,F10,g10⟩:=Bo T hK hR (st:=Pu) (i:=11) rfl;have b10:=bi F10 ["part", "heads", "things", "gap"];obtain⟨f11,fd11,F11,g11⟩:=Bo T hK hR (st:=Px) (i:=12) rfl;have b11:=bi F11 ["parts", "heads", "things", "gap"];obtain⟨f12,fd12,F12,g12⟩:=Bo T hK hR (st:=Ia) (i:=13) rfl;have b12:=bi F12 ["parts", "heads", "cells"];obtain⟨f13,fd13,F13,g13⟩:=Bo T hK hR (st:=Hw) (i:=14) rfl;have b13:=bi F13 ["groups"];obtain⟨f14,fd14,F14,g14⟩:=Bo T hK hR (st:=Xx) (i:=15) rfl;have b14:=bi F14 ["table", "key", "names", "values", "order"];obtain⟨f15,fd15,F15,g15⟩:=Bo T hK hR (st:=J9) (i:=16) rfl;have b15:=bi F15 ["wide"];obtain⟨f16,fd16,F16,g16⟩:=Bo T hK hR (st:=Pj) (i:=17) rfl;have b16:=bi F16 ["wide"];obtain⟨f17,fd17,F17,g17⟩:=Bo T hK hR (st:=V0) (i:=18) rfl;have b17:=bi F17 ["wide", "key", "names"];obtain⟨f18,fd18,F18,g18⟩:=Bo T hK hR (st:=Tf) (i:=19) rfl;have b18:=bi F18 ["names", "name"];obtain⟨f19,fd19,F19,g19⟩:=Bo T hK hR (st:=Tt) (i:=20) rfl;have b19:=bi F19 ["wide", "name"];obtain⟨f20,fd20,F20,g20⟩:=Bo T hK hR (st:=Xu) (i:=21) rfl;have b20:=bi F20 ["wide", "name"];obtain⟨f21,fd21,F21,g21⟩:=Bo T hK hR (st:=Nf) (i:=22) rfl;have b21:=bi F21 [lM, lU];obtain⟨f22,fd22,F22,g22⟩:=Bo T hK hR (st:=Ad5) (i:=23) rfl;have b22:=bi F22 [lM, lU];obtain⟨f23,fd23,F23,g23⟩:=Bo T hK hR (st:=Ws) (i:=24) rfl;have b23:=bi F23 [lJ, lK];obtain⟨f24,fd24,F24,g24⟩:=Bo T hK hR (st:=Vv) (i:=25) rfl;have b24:=bi F24 [lJ, "_law_least", "_law_few", "_law_most"];obtain⟨f25,fd25,F25,g25⟩:=Bo T hK hR (st:=Tu) (i:=26) rfl;have b25:=bi F25 [lJ, lK];obtain⟨f26,fd26,F26,g26⟩:=Bo T hK hR (st:=T5) (i:=27) rfl;have b26:=bi F26 [lJ];obtain⟨f27,fd27,F27,g27⟩:=Bo T hK hR (st:=Qk) (i:=28) rfl;have b27:=bi F27 [lJ];obtain⟨f28,fd28,F28,g28⟩:=Bo T hK hR (st:=X5) (i:=29) rfl;have b28:=bi F28 [lJ, lK];obtain⟨f29,fd29,F29,g29⟩:=Bo T hK hR (st:=Pk) (i:=30) rfl;have b29:=bi F29 [lJ, lL, lK];obtain⟨f30,fd30,F30,g30⟩:=Bo T hK hR (st:=Xk) (i:=31) rfl;have b30:=bi F30 [lJ, "_law_numbers"];obtain⟨f31,fd31,F31,g31⟩:=Bo T hK hR (st:=Q0) (i:=32) rfl;have b31:=bi F31 [lN, lS];obtain⟨f32,fd32,F32,g32⟩:=Bo T hK hR (st:=We) (i:=33) rfl;have b32:=bi F32 [lL];obtain⟨f33,fd33,F33,g33⟩:=Bo T hK hR (st:=Vp) (i:=34) rfl;have b33:=bi F33 [lR, "_law_rows", "_law_key", lV, "_law_values"];obtain⟨f34,fd34,F34,g34⟩:=Bo T hK hR (st:=Wv) (i:=35) rfl;have b34:=bi F34 ["_law_call"];obtain⟨f35,fd35,F35,g35⟩:=Bo T hK hR (st:=Ad1) (i:=36) rfl;have b35:=bi F35 [lL, lQ, lT];obtain⟨f36,fd36,F36,g36⟩:=Bo T hK hR (st:=Bf2) (i:=37) rfl;have b36:=bi F36 [lM]
 have ld_law:fd36.code=.ref xF:=Bc8 F36 kin (by have z:d36.name = "law" := n36;rw[<- z];exact hc_law) g36
 have yJ:=Dn (x := "ValueError") T (Cy hR) hB (by simp)
 have yW:=Dn (x := "abs") T (Cy hR) hB (by simp)
 have yH:=Dn (x := "all") T (Cy hR) hB (by simp)
 have yF:=Dn (x := "bool") T (Cy hR) hB (by simp)
 have yN:=Dn (x := "enumerate") T (Cy hR) hB (by simp)
 have zN:=Dn (x := "int") T (Cy hR) hB (by simp)
 have zA:=Dn (x := "isinstance") T (Cy hR) hB (by simp)
 have zF:=Dn (x := "len") T (Cy hR) hB (by simp)
 have zL:=Dn (x := "list") T (Cy hR) hB (by simp)
 have yZ:=Dn (x := "min") T (Cy hR) hB (by simp)
 have zK:=Dn (x := "range") T (Cy hR) hB (by simp)
 have yC:=Dn (x := "str") T (Cy hR) hB (by simp)
 have z9:=Dn (x := "tuple") T (Cy hR) hB (by simp)
 have zT:=Dn (x := "zip") T (Cy hR) hB (by simp)
 have yR:=Bl3 hX hK (i:=0) (y := "ORDERS") (ss:=[Str.ofString "seen",Str.ofString "rising"]) rfl;obtain⟨qR,qT,u8,qF⟩:=Bk9 hF kin T.g hK;have n3:ClT K mg [("NoColumn",false)] "BadColumns" := qT 0 _ rfl;have u4:ClT K mg [("NoColumn",false)] "BadOrder" := qT 1 _ rfl;have x9:ClT K mg [("NoColumn",false)] "BadRow" := qT 2 _ rfl;have l9:ClT K mg [("NoColumn",false)] "BadWay" := qT 3 _ rfl;have l5:ClT K mg [("NoColumn",false)] "Double" := qT 4 _ rfl;have u3:ClT K mg [("NoColumn",true)] "NoColumn" := qT 5 _ rfl;have m9:ClT K mg [("NoColumn",false)] "NoHead" := qT 6 _ rfl;have k8:ClT K mg [("NoColumn",false)] "NoNumber" := qT 7 _ rfl;have l4:ClT K mg [("NoColumn",false)] "NoPart" := qT 8 _ rfl;have l6:ClT K mg [("NoColumn",false)] "NoRow" := qT 9 _ rfl;obtain⟨qJ,qY⟩:=Bu2 hI kin T.g hK
 have i_NoColumn:ClI K mg ⟨"NoColumn.__init__", "FoldError", "name", "name", "no column ", ""⟩ "NoColumn" := qJ 0 _ rfl (A2s λ_ _ _ _ _ _ _ _ _ _ _ _ _ _ _ _ _ _ _=>rfl)
 have l7:ClF K mg ["NoColumn"] "FoldError" := let ⟨g,a,b,_⟩:=qY 0 _ rfl; ⟨g,a,b⟩
 have e:=hfa.symm.trans g36
 cases e
 refine⟨K,fd36,kin,tab,Bg1 F36 (λkV dc pm an cd ct s v=>.of_eq rfl),λbase _ _=>?_⟩
 have M:∀{k f fd x ps sp},FnOk l.prog w K mg base CX0 k f fd ps sp->Binds K fd ps []->PySem.W.keepIn K (.ref f)=true->mg x=some (.ref f)->Def l.prog w K mg base x k ps sp:=mkD;have w9:=M (Aq8 F1 ) b1 F1.kp g1;have d6:=M (Ab0 F2 w9) b2 F2.kp g2;have c9:=M (Ad7 F3 z9) b3 F3.kp g3;have z4:=M (Mv F4 yH zF zL) b4 F4.kp g4;have y9:=M (X8 F5 yR) b5 F5.kp g5;have m3:=M (Tg F6 d6 c9 yN) b6 F6.kp g6;have h7:=M (Yi F7 z9) b7 F7.kp g7;have t4:=M (Ye F8 h7) b8 F8.kp g8;have o3:=M (Yw F9 h7) b9 F9.kp g9;have j3:=M (Aq9 F10 z9) b10 F10.kp g10;have k7:=M (Ao6 F11 j3 z9) b11 F11.kp g11;have n9:=M (Tw F12 k7 z9 zT) b12 F12.kp g12;have j2:=M (Tq F13 zF) b13 F13.kp g13;have x3:=M (A6k F14 d6 c9 z4 y9 m3 t4 o3 n9 j2 z9) b14 F14.kp g14;have n4:=M (Vs F15 zT) b15 F15.kp g15;have t9:=M (Ak4 F16 n4 z9) b16 F16.kp g16;have c8:=M (A3k F17 x3 t9) b17 F17.kp g17;have i4:=mkX (At4 (P:=l.prog) (w:=w) (mg:=mg) (base:=base) F18 z9 i_NoColumn) b18 F18.kp g18;have x4:=mkX (Aw5 (P:=l.prog) (w:=w) (mg:=mg) (base:=base) F19 c8 i4) b19 F19.kp g19;have z5:=mkX (A5w (P:=l.prog) (w:=w) (mg:=mg) (base:=base) F20 c8 i4) b20 F20.kp g20;have u7:=M (Ag9 F21 zF) b21 F21.kp g21;have x5:=M (Bc1 F22 u7 yW zN) b22 F22.kp g22;have a9:=M (A3q F23 ) b23 F23.kp g23;have i8:=M (A5e F24 a9) b24 F24.kp g24;have y0:=M (As8 F25 a9 zF zK) b25 F25.kp g25;have i5:=M (Ax2 F26 a9) b26 F26.kp g26;have q5:=M (Al0 F27 a9) b27 F27.kp g27;have l8:=M (A3h F28 i5 zK) b28 F28.kp g28;have j1:=M (Ao4 F29 a9 l8 zF zK z9) b29 F29.kp g29;have w4:=M (A3m F30 a9 i8 y0 i5 q5 j1 z9) b30 F30.kp g30;have i6:Def l.prog w K mg base "_law_same" 9 [lN, lS] (spP K (Bt 9)):=mkD (Vm F31 b31 g31 yH yF zN zA zF zL yC z9 zT 9) b31 F31.kp g31;have n5:=M (A6e F32 zT) b32 F32.kp g32;have k6:=M (A3s F33 zN z9) b33 F33.kp g33;have l0:=A5y (P:=l.prog) (w:=w) (mg:=mg) (base:=base) F34 b34 g34 yJ zA zF n3 u4 x9 l9 l5 u3 m9 k8 l4 l6 u8 i_NoColumn l7;have i9:=M (A9i F35 n5 k6 zN zL) b35 F35.kp g35
 exact(B2k F36 lt_law lc_law ld_law c8 x4 z5 x5 a9 w4 i6 l0 i9 zF yZ zK yC).imp λvs H Q E h=>B1f hlaw h
theorem walk {l:PySem.W.OpenLaw}{q:u6}{loose:v4}{XP:(x_)->Heap->Prop}{YP:World->Heap->Prop}{d:DefRec}(hn:l.most=some 63)(hdf:d.params.defaults=[])
 (F:∀(w:World) (mean:ExcName->u9) (mg mb:x_) (fa:Addr) (h:Heap),PyProof.Rows.Top q (PySem.W.looseW q loose) mean mg mb h->XP mg h->mg d.name=some (.ref fa) ->
  ∃(K:v9) (fd:u5),K.In h/\TabAt K h/\(∀(s:u_) (u:Value),BindsTo s fd ⟨[u],[]⟩ [("_law_script",u)])/\∀base:Heap,K.In base->base.Ns mainGlobals mg->FnOk l.prog w K mg base CX0 12 fa fd [lM] (A0s K)) :
 PySem.W.WalkO q loose XP YP l.row.toRowW d [] (λf vs=>PySem.call f vs) :=
 L2.walk_ofX (n:=63) (k:=12) (x := "_law_script") (sp:=A0s) hn (by decide) hdf ⟨rfl,by decide,by decide,rfl⟩ F λ_ _ a ns hl hS=>⟨a,ns,rfl,hS,hl,λ_=>rfl⟩
end K
open PySem PySem.W PyProof.Rows
set_option maxHeartbeats 0
namespace K
noncomputable def dOf:Stmt->DefRec
 | .FunctionDef _ a b _ _ _ s _ _ p=>⟨"law",a,b,s,p⟩
 | _=>⟨"law",⟨[],[],none,[],[],none,[]⟩,[],default,default⟩
def dL:DefRec:=⟨"law",(dOf (top 55)).params,(dOf (top 55)).body,(dOf (top 55)).scope,(dOf (top 55)).pos⟩
theorem B4x:rwT.wellSaid=true:=by kernel_rfl
theorem B7j:defOf qT rwT.row.name=some (dL,[]):=by kernel_rfl
theorem B7c:rwT.row.prog.theDef rwT.row.name=some (dL.params,dL.body,dL.scope):=by trivial
theorem kwT:kwWritten? dL.params.kwonlyargs dL.params.kw_defaults=some []:=by trivial
theorem okT:(chainsOk qT&&opensWell rwT.row.prog&&(frees rwT.row.toRowW&&rwT.row.within.isEmpty))=true:=by trivial
theorem dfT:dL.params.defaults=[]:=by rfl
theorem B5c:rwT.row.prog.bare:=⟨rfl,rfl,rfl,rfl,rfl,by decide +kernel⟩
theorem B4v:rwT.row.toRowW.promised:=by w_witness2
end K
theorem PySem.Challenge.cw_pivotfold_k38_one_column_moved_holds : PySem.Challenge.rw_pivotfold_k38_one_column_moved.Holds := by
 refine holds_law K.B4x λsaid=>?_
 refine holds_open (q:=K.qT) (loose:=["ORDERS"]) (Xt:=K.xtT) (XP:=(λmg h=>L2.A4z K.tcT mg h/\L2.A4i K.xcR K.xcT K.xcV K.xcF h/\L2.A2y K.xcJ K.xcY h)) (Yf:=Hook.none.obs) (Ya:=Hook.none.val) (YP:=Hook.none.says) (N:=20000) K.B6z Hook.none.of Hook.none.keeps (λs e=>⟨L2.B5t (aA.mp (aA.mp (aA.mp e).1).1).2,L2.B4m (aA.mp (aA.mp e).1).2,L2.B5a (aA.mp e).2⟩) (λmg h h' x hk=>⟨L2.A7y mg h h' x.1 hk,L2.A8h x.2.1 hk,L2.Bc4 x.2.2 hk⟩) K.B7j K.B7c K.kwT (λs e=>recFacts_of (aA.mp (aA.mp (aA.mp (aA.mp e).1).1).1).2) rfl said K.okT K.B5c K.B4v ?_
 refine K.walk (l:=PySem.Challenge.rw_pivotfold_k38_one_column_moved) rfl K.dfT ?F
 case F =>
  intro w mean mg mb fa h T X hmg
  refine K.Bz9 T hmg K.Bc3 ?R ?B X.1 X.2.1 X.2.2
  (case R=>kernel_rfl); (case B=>kernel_rfl)
end
