import PyProof.Rows.All
import PySem.Challenge.RW_pivotfold_k47_questions_refused
import KE.KSortTup
import KE.KDictOf
import KE.KNestM
import KE.KFromBytes
import KE.KTryMore
import KE.KLam
import KE.KPairComp
import KE.KRevIter
import KE.KMinKey
set_option genInjectivity false
set_option genSizeOf false
set_option Elab.async false
set_option linter.all false
set_option maxRecDepth 100000
set_option compiler.extract_closed false
noncomputable section
open Nat renaming le_trans→aj,le_refl→ak,lt_of_lt_of_le→aA,zero_le→aB,ne_of_lt→aD,lt_irrefl→aY,zero_add→bf,ne_of_gt→bw,lt_of_le_of_lt→bD,le_of_lt→bM,le_succ→c7,le_add_right→cj,mul_le_mul_left→cu,lt_succ_self→cJ,add_le_add_left→cL,sub_zero→cP,le_of_succ_le→cU,lt_succ_of_lt→cV,min_eq_left→dD,add_lt_add_of_lt_of_le→dO,mul_le_mul→dR,lt_trans→eE,le_succ_of_le→eN,min_self→eQ,le_of_not_lt→fH,lt_of_succ_lt_succ→fZ,succ_le_succ→gf
open List renaming length_map→ao,mem_append_right→aq,mem_cons→az,length_cons→aF,map_cons→aG,mem_singleton→aJ,all_eq_true→aL,lookup_cons→aN,mem_map→aO,mem_cons_self→aP,getElem?_eq_getElem→aU,mem_cons_of_mem→aW,mem_append→aX,mem_append_left→aZ,not_mem_nil→a_,length_append→bh,getElem?_eq_some_iff→bz,size_toArray→bB,mem_of_getElem?→bG,getElem?_map→bH,length_set→bK,getElem?_set_ne→bN,nodup_cons→bO,zip_cons_cons→bQ,length_nil→bR,getElem?_set_self→bU,mem_filterMap→bW,map_append→cz,append_nil→cA,getElem_mem→cB,mem_range→cD,filterMap_cons→cG,length_take→cH,nil_append→cQ,map_nil→cT,length_singleton→cW,map_map→cY,getElem?_cons_succ→cZ,mem_filter→dg,drop_length→dw,nodup_nil→dz,any_cons→dH,forIn_cons→dI,take_length→dJ,contains_cons→dM,set_comm→dU,of_mem_zip→dW,length_drop→dX,all_cons→dZ,zip_nil_left→eG,drop_eq_nil_iff→eU,length_replicate→eX,getElem?_append_left→eY,append_assoc→eZ,any_map→e_,length_zip→fu,getElem_of_mem→fK,drop_eq_getElem_cons→fP,getElem?_range→fY,getElem_map→gb,eraseIdx_cons_succ→gh,length_pos_iff→gj,length_filterMap_le→gk,getD_eq_getElem?_getD→gn
open Bool renaming and_eq_true_iff→au,false_ne_true→aQ,and_eq_true→bC,false_eq_true→cM,not_eq_true→fL,not_eq_true'→fW,or_eq_true_iff→fX
open Ne renaming symm→aC
open Option renaming map_eq_some_iff→aM,bind_eq_some_iff→bc,map_some→b_,bind_some→fc
open Option.some renaming inj→bV,injEq→fJ
open LawfulBEq renaming eq_of_beq→bZ
open Int renaming toNat_natCast→cN,eq_ofNat_of_zero_le→dB,ofNat_le→fj
open Array renaming getElem?_eq_some_iff→cX,length_toList→dY,getElem?_toList→fQ
open PyProof.Rows renaming slot_tuple_getitem→dh,callWith_type1→dF,callWith_kw→fM,callWith_builtin1→gr
open PySem.F renaming plain_min_loop→dm,plain_max_loop→dq,plainAttrs_list→eO,excAttr_ValueError→eV,slot_tuple_add→fB,entry_tuple_add→fD,args_tuple_add_2→fG,excBase_ValueError→fU,typeOf_object_class→fV
open PySem renaming mem_of_lookup→dG
open PySem.IsL renaming update→d_
open PyProof.Rows.F renaming plain_set_update_loop→fO,entry_set_update_loop→gw
section
open PySem
abbrev u_:=Shared
abbrev t_:=PyData
abbrev q9:=Around
abbrev u6:=Program
abbrev v4:=List Str
abbrev u5:=FuncData
abbrev v6:=List Addr
abbrev v_:=List Expr
abbrev w6:=List Value
abbrev q_:=Option Int
abbrev w5:=List t_
abbrev v7:=Array Value
abbrev v9:=PySem.W.Frag
abbrev u9:=Option Value
abbrev p_:=List (Nat×Nat)
abbrev o5:=Nat->v6
abbrev y_:=List (Addr×Obj)
abbrev v8:=Array DictEntry
abbrev x_:=Str->u9
abbrev o4:=List (Option Nat)
abbrev z_:=Value->u_->Prop
end
section
open PySem PySem.Spec PyProof.Rows PySem.W PySem.Calls PySem.MeetsSeq PySem.MeetsSeq2 PySem.MeetsSeq3 PySem.SeqAt
abbrev aH:=@decide_eq_false
abbrev aK:=@decide_eq_true
abbrev aR:=@of_decide_eq_true
abbrev aV:=@true_and
abbrev bj:=@or_false
abbrev bA:=@congrArg
abbrev bI:=@beq_iff_eq
abbrev bJ:=@if_false
abbrev bL:=@beq_self_eq_true
abbrev bT:=@decide_true
abbrev bY:=@if_true
abbrev cR:=@beq_eq_false_iff_ne
abbrev du:=@decide_eq_true_eq
abbrev gq:=@of_decide_eq_false
end
namespace L2
open PySem PySem.Spec PyProof.Rows PySem.W
noncomputable abbrev bmV:w6:=[.type "ValueError",.type "Exception",.type "BaseException",.type "object"]
def Yq (K:v9)(C:Addr):Bool:=match K.lookup C with
 | some ⟨.type "type",_,.cls cd,sl⟩=>cd.hasDict&&!cd.hasDel&&(match cd.mro with
  | .ref A::bm=>A==C&&tailIn K bmV bm
  | _=>false)&&(match sl.toList with
  | [_,_,_,_,some (.builtin n),_]=>n == "ValueError.__new__"
  | _=>false)
 | _=>false
noncomputable def noI (K:v9) (C:Addr):Bool:=match K.lookup C with
 | some o=>(match o.data with
  | .cls cd=>nsOkIn K cd.ns&&nsIn K cd.ns "__init__" == some none
  | _=>false)
 | none=>false
def exP (K:v9)(C:Addr):Bool:=Yq K C&&noI K C
noncomputable def Ui:v4->w6->Bool
 | [],[]=>true
 | s::ss,.str z _::us=>s==z&&Ui ss us
 | _,_=>false
def A7r (h:Heap)(q:Str×v4):Bool:=match h.nsMap mainGlobals q.1 with
 | some (.ref a)=>match h.get? a with
  | some o=>match o.cls,o.data with
   | .type c,.seq its _=>c == "tuple" && decide (its.size<=sizeLine)&&Ui q.2 its.toList
   | _,_=>false
  | none=>false
 | _=>false
def xcB (K:Frag)(C:Addr):Bool:=Yq K C&&(findIn K (.ref C) "__getattribute__" == some (some (.builtin "BaseException.__getattribute__"))&&(findIn K (.ref C) "__getattr__" == some none&&findIn K (.ref C) "__class__" == some (some (.builtin "object.__class__"))))
noncomputable def clB (K:Frag) (x:Str) (p:Addr->Bool):Bool:=match nsIn K mainGlobals x with
 | some (some (.ref C))=>p C
 | _=>false
def tbB (K:Frag)(z:Value)(tbl:List (Str×Bool)):Bool:=tbl.all λp=>clB K p.1 λC=>xcB K C&&kitOne K (.ref C) z==some p.2
def exB (K:Frag)(F:Addr)(NS:v4):Bool:=NS.all λx=>clB K x λC=>exmOne K (.ref C) (.ref F)==some true
noncomputable def By8 (o:Obj):Bool:=match o.data with
 | .cls _=>true
 | .dict _ _=>true
 | _=>false
def Bn3 (l:List Nat)(h:Heap):Frag:=l.filterMap λa=>((h.get? a).bind λo=>if By8 o=true then some o else none).map λo=>(a,o)
def cfB (R:v4)(T:List (Str×List (Str×Bool)))(V:List (Str×Bool))(F:v4)(K:Frag):Bool :=
 (R.all λx=>clB K x λC=>exP K C)&&((T.all λq=>clB K q.1 λC=>tbB K (.ref C) q.2)&&(tbB K (.type "ValueError") V&&F.all λx=>clB K x λC=>exB K C R))
noncomputable def isNm (x:Str):Expr->Bool
 | .Name y _=>y==x
 | _=>false
def isAt (x f:Str):Expr->Bool
 | .Attribute e g _=>isNm x e&&g==f
 | _=>false
noncomputable def Bf7 (x:Str):Expr->Bool
 | .Constant c _ _=>c==.str x
 | _=>false
def Bg3 (x:Str):Expr->Bool
 | .FormattedValue e c none _=>isNm x e&&c==114
 | _=>false
def Be6 (x y z:Str):Expr->Bool
 | .JoinedStr [a,b] _=>Bf7 y a&&Bg3 x b
 | .JoinedStr [a,b,c] _=>Bf7 y a&&Bg3 x b&&Bf7 z c
 | _=>false
noncomputable def stE:Stmt->Option (Expr×v_)
 | .Expr (.Call (.Attribute g m q) as [] p) _=>if (m == "__init__" && q.endLine==p.line)=true then some (g,as) else none
 | _=>none
noncomputable def stA:Stmt->Option (Expr×Expr)
 | .Assign [g] v _=>some (g,v)
 | _=>none
def Bx9 (F p f y z:Str):List Stmt->Bool
 | [s,u]=>(match stE s with
  | some (g,[a,j])=>isNm F g&&(isNm "self" a&&Be6 p y z j)
  | _=>false)&&(match stA u with
  | some (g,v)=>isAt "self" f g&&isNm p v
  | _=>false)
 | _=>false
noncomputable def Bz5 (p:Str):Arguments->Bool
 | ⟨[],[a,b],none,[],[],none,[]⟩=>a.arg == "self" && b.arg==p
 | _=>false
structure J0 where
 q:Str
 F:Str
 p:Str
 f:Str
 y:Str
 z:Str
noncomputable def B6n (D:J0) (sc:Scope):Bool:=decide (sc.kind=.function)&&(!sc.isCoroutine&&(!sc.isGenerator&&(sc.names.lookup ("self" : Str)==some .local&&(sc.names.lookup D.p==some .local&&(sc.names.lookup D.F==some .globalImplicit&&sc.names.all λy=>y.2 != .free)))))
def fnB (K:Frag)(D:J0)(fd:u5):Bool:=fd.qualname==D.q&&(fd.globals==mainGlobals&&(fd.closure.isEmpty&&(fd.builtins==builtinsNs&&(fd.defaults==.none&&(codeIn K fd.code D.q&&(Bz5 D.p fd.params&&(B6n D fd.scope&&(match fd.body with
 | .stmts b=>Bx9 D.F D.p D.f D.y D.z b
 | _=>false))))))))
def Zh (K:Frag)(D:J0)(a:Addr):Bool:=match K.lookup a with
 | some ⟨.type "function",_,.func fd,_⟩=>fnB K D fd
 | _=>false
noncomputable def Av6 (D:J0):Bool:=decide (D.y.length<=1000)&&(decide (D.z.length<=1000)&&(D.p != "self" && ((D.p==("__debug__" : Str))==false&&((D.p==("__classdict__" : Str))==false&&(D.F==("__debug__" : Str))==false))))
def ikB (K:Frag)(C F:Addr)(f:Str):Bool:=Yq K C&&(findIn K (.ref C) "__setattr__" == some (some (.builtin "object.__setattr__"))&&(findIn K (.ref C) f==some none&&(typeIn K (.ref F)==some (.type "type")&&(nsIn K cStatics "thirdparty.any" == some none&&findIn K (.ref F) "__init__" == some (some (.builtin "ValueError.__init__"))))))
def ciB (K:Frag)(x:Str)(D:J0):Bool:=Av6 D&&clB K x λC=>clB K D.F λF=>xcB K C&&ikB K C F D.f&&(match findIn K (.ref C) "__init__" with
 | some (some (.ref a))=>Zh K D a
 | _=>false)
def exN (K:Frag)(F:Addr)(NS:v4):Bool:=NS.all λx=>clB K x λC=>exmOne K (.ref C) (.ref F)==some false
noncomputable def B0d (o:Obj):Bool:=match o.data with
 | .cell _=>false
 | .fields vs=>vs.size != 0
 | _=>true
def Bi4 (l:List Nat)(h:Heap):Frag:=l.filterMap λa=>((h.get? a).bind λo=>if B0d o=true then some o else none).map λo=>(a,o)
def ciA (J:List (Str×J0))(Y:List (Str×List Str×v4))(K:Frag):Bool:=(J.all λq=>ciB K q.1 q.2)&&Y.all λq=>clB K q.1 λF=>exB K F q.2.1&&exN K F q.2.2
end L2
namespace K
open PySem PySem.W PyProof.Rows
noncomputable def tcT:List (Str×v4):=[("CONDITION_WORDS",[Str.ofString "is",Str.ofString "not",Str.ofString "below",Str.ofString "above"]),("WAYS",[Str.ofString "first",Str.ofString "last",Str.ofString "sum",Str.ofString "count",Str.ofString "least",Str.ofString "greatest",Str.ofString "unlike"])]
noncomputable def xcR:v4:=["NoNumber", "BadWay"]
abbrev xT0:List (Str×Bool):=[("NoColumn",false),("NoNumber",false),("BadWay",false)]
abbrev xT1:List (Str×Bool):=[("NoColumn",false),("NoNumber",false),("BadWay",true)]
abbrev xT2:List (Str×Bool):=[("NoColumn",true),("NoNumber",false),("BadWay",false)]
abbrev xT3:List (Str×Bool):=[("NoColumn",false),("NoNumber",true),("BadWay",false)]
abbrev xT4:List (Str×Bool):=[("NoColumn",true),("NoNumber",true),("BadWay",true)]
noncomputable def xcT:List (Str×List (Str×Bool)):=[("BadColumns",xT0),("BadOrder",xT0),("BadRow",xT0),("BadWay",xT1),("Double",xT0),("NoColumn",xT2),("NoHead",xT0),("NoNumber",xT3),("NoPart",xT0),("NoRow",xT0)]
noncomputable def xcV:List (Str×Bool):=xT4
noncomputable def xcF:v4:=[]
noncomputable def xcJ:List (Str×L2.J0):=[("NoColumn",⟨"NoColumn.__init__", "FoldError", "name", "name", "no column ", ""⟩)]
noncomputable def xcY:List (Str×List Str×v4):=[("FoldError",["NoColumn", "NoNumber", "BadWay"],[])]
abbrev pwT:=PySem.Challenge.pw_pivotfold_k47_questions_refused
abbrev rwT:=PySem.Challenge.rw_pivotfold_k47_questions_refused
noncomputable def B3w:Stmt->Bool
 | .Assign [.Name n _] _ _=>!(["__name__", "CONDITION_WORDS", "WAYS"]:v4).contains n
 | _=>true
def qT:u6:={ pwT with main:={ pwT.main with body:=pwT.main.body.filter B3w } }
abbrev xtT:u_->Bool:=λs=>xlAt qT [] s&&recOk (RowW.records rwT.row.toRowW) s&&tcT.all (L2.A7r s.heap)&&L2.cfB xcR xcT xcV xcF (L2.Bn3 [3,73,72,24,23,61,60,128,127,37,49,166,147,97,85,109] s.heap)&&L2.ciA xcJ xcY (L2.Bi4 [2,3,128,127,24,23,73,72,61,60,125,124] s.heap)
set_option maxHeartbeats 0 in
theorem B5g:LeftO rwT.row.prog qT ["CONDITION_WORDS", "WAYS"] xtT Hook.none.obs Hook.none.val 20000:=λw=>by kernel_rfl
end K
namespace L2
open PySem PySem.Spec PyProof.Rows
abbrev Key:=Sum Int Str
noncomputable def M8:Key->Value->Bool
 | .inl k,v=>Value.isInt k v
 | .inr x,v=>Value.isStrOf x v
noncomputable def B5e (w:World):Key->Int
 | .inl k=>hashInt k
 | .inr x=>hashStr w x
theorem Dd:∀{k:Key}{v:Value},M8 k v=true->(∃i t,k=Sum.inl i/\v=Value.int i t)\/(∃x t,k=Sum.inr x/\v=Value.str x t)
 | .inl i,v,h=>by
  obtain⟨t,e⟩:=Value.isInt_shape (k:=i) (v:=v) h;exact .inl ⟨i,t,rfl,e⟩
 | .inr x,v,h=>by
  obtain⟨t,e⟩:=Value.isStrOf_shape (x:=x) (v:=v) h;exact .inr ⟨x,t,rfl,e⟩
theorem Yy (i:Int)(t:Tok):M8 (.inl i) (.int i t)=true:=by simp[M8,Value.isInt]
theorem Yv (x:Str)(t:Tok):M8 (.inr x) (.str x t)=true:=by simp[M8,Value.isStrOf]
theorem B0h (a b:Int):decide ((Sum.inl a:Key)=Sum.inl b)=(a==b):=by
 grind
theorem B2r (a b:Str):decide ((Sum.inr a:Key)=Sum.inr b)=decide (a=b):=by
 grind
theorem Bx8 (a:Int)(b:Str):decide ((Sum.inl a:Key)=Sum.inr b)=false:=aH λq=>nomatch q
theorem B2e (a:Str)(b:Int):decide ((Sum.inr a:Key)=Sum.inl b)=false:=aH λq=>nomatch q
def Gk (prog:u6)(w:World):PySem.KeyKind prog w Key where
 is:=M8
 hash:=B5e w
 inj:=λv a b ha hb=>by
  rcases Dd ha with ⟨i,t,rfl,rfl⟩ | ⟨x,t,rfl,rfl⟩
  ·rcases Dd hb with ⟨j,u,rfl,e⟩ | ⟨y,u,rfl,e⟩
   ·injection e with e1 _;rw[e1]
   ·exact nomatch e
  ·rcases Dd hb with ⟨j,u,rfl,e⟩ | ⟨y,u,rfl,e⟩
   ·exact nomatch e
   ·injection e with e1 _;rw[e1]
 byValue:=λk v h=>by
  rcases Dd h with ⟨i,t,rfl,rfl⟩ | ⟨x,t,rfl,rfl⟩ <;> rfl
 pyHash:=λhv h=>by
  rcases Dd hv with ⟨i,t,rfl,rfl⟩ | ⟨x,t,rfl,rfl⟩
  ·exact wpAny_pyHash_int h
  ·exact wpAny_pyHash_str h
 eqBool:=λhu hv h=>by
  rcases Dd hu with ⟨i,t,rfl,rfl⟩ | ⟨x,t,rfl,rfl⟩
  ·rcases Dd hv with ⟨j,u,rfl,rfl⟩ | ⟨y,u,rfl,rfl⟩
   ·rw[B0h]at h;exact wpAny_eqBool_int h
   ·rw[Bx8]at h;exact SeqAt.EqAt.int_str i t y u _ _ _ _ h
  ·rcases Dd hv with ⟨j,u,rfl,rfl⟩ | ⟨y,u,rfl,rfl⟩
   ·rw[B2e]at h;exact SeqAt.EqAt.str_int x t j u _ _ _ _ h
   ·rw[B2r]at h;exact wpAny_eqBool_str h
 «strs»:=λk x t v h=>by
  rcases Dd h with ⟨i,u,rfl,e⟩ | ⟨y,u,rfl,e⟩
  ·exact nomatch e
  ·injection e with e1 _
   subst e1
   cases v <;> rfl
noncomputable instance B7e:DecidableEq t_:=λa b=>Classical.propDecidable (a=b)
mutual
noncomputable def keyB:t_->Bool
 | .none=>true
 | .int _=>true
 | .str _=>true
 | .tuple ds=>Za ds
 | _=>false
noncomputable def Za:w5->Bool
 | []=>true
 | d::ds=>keyB d&&Za ds
end
mutual
theorem Ac1:∀(x y:t_),keyB x=true->keyB y=true->(PyData.eqv x y=true↔x=y)
 | .none,y,_,hy=>by cases y <;> simp_all [PyData.eqv,keyB]
 | .int _,y,_,hy=>by cases y <;> simp_all [PyData.eqv,keyB]
 | .str _,y,_,hy=>by cases y <;> simp_all [PyData.eqv,keyB]
 | .tuple xs,.tuple ys,hx,hy=>by
  have:=Am2 xs ys hx hy
  show PyData.eqvAll xs ys=true↔_
  rw[this]
  exact⟨λe=>by rw[e],λe=>by cases e;rfl⟩
 | .tuple xs,.none,hx,hy=>⟨(λe=>nomatch e),λe=>nomatch e⟩
 | .tuple xs,.int _,hx,hy=>⟨(λe=>nomatch e),λe=>nomatch e⟩
 | .tuple xs,.str _,hx,hy=>⟨(λe=>nomatch e),λe=>nomatch e⟩
theorem Am2:∀(xs ys:w5),Za xs=true->Za ys=true->(PyData.eqvAll xs ys=true↔xs=ys)
 | [],[],_,_=>⟨λ_=>rfl,λ_=>rfl⟩
 | [],_::_,_,_=>⟨(λe=>nomatch e),λe=>nomatch e⟩
 | _::_,[],_,_=>⟨(λe=>nomatch e),λe=>nomatch e⟩
 | x::xs,y::ys,hx,hy=>by
  obtain⟨a,b⟩:=au.mp (show (keyB x&&Za xs)=true from hx)
  obtain⟨c,d⟩:=au.mp (show (keyB y&&Za ys)=true from hy)
  show (PyData.eqv x y&&PyData.eqvAll xs ys)=true↔_
  rw[au,Ac1 x y a c,Am2 xs ys b d,List.cons.injEq]
end
section
variable {prog:u6}{w:World}
theorem A1t (h:Q (hashInt 0xFCA86420) { s with toks:=s.toks+1 }):wpAny (model prog w) A (pyHash .none) Q E s:=by
 have a:s.TypeIs Value.none "NoneType" := rfl;unfold pyHash
 first | unfold pyHashByItsType | skip
 have b:[Value.none].any Value.onHeap=false:=rfl
 refine wpAny_bind ?_
 rw[cRoomFor,if_neg (by rw[b];exact aQ)];refine wpAny_pure ?_
 refine wpAny_bind (wpAny_specialOf a F.slot_NoneType_hash.lookup ?_)
 show wpAny _ _ (if (some (Value.builtin "NoneType.__hash__")==some Value.none)=true then _ else _) Q E s
 rw[if_neg (by rw[beq_builtin_none];exact aQ)]
 refine wpAny_bind (wpAny_specialOf a F.slot_NoneType_hash.lookup ?_)
 show wpAny _ _ (callSpecialIfBoundUnlessNone? .none "__hash__" _ >>= _) Q E s
 refine wpAny_bind (wpAny_callSpecialIfBoundUnlessNone?_slot a F.slot_NoneType_hash
  (wpAny_call_entry F.slot_NoneType_hash a F.entry_NoneType_hash
   (show wpAny _ _ (do ret (<- mkInt _)) _ _ s from wpAny_ret_mkInt ?_) (F.args_NoneType_hash_1 _)))
 exact wpAny_pure h
end
inductive V where
 | non | bl (b:Bool) | int (i:Int) | str (x:Str) | byt (b:Array UInt8) | flt (b:UInt64) | ref (a:Addr) | ty (n:String)
 deriving DecidableEq
abbrev m8:=List V
@[simp] theorem V.bl.injEq (a b:Bool):(V.bl a=V.bl b)=(a=b):=propext ⟨λh=>by cases h;rfl,λh=>by rw[h]⟩
@[simp] theorem V.int.injEq (a b:Int):(V.int a=V.int b)=(a=b):=propext ⟨λh=>by cases h;rfl,λh=>by rw[h]⟩
@[simp] theorem V.str.injEq (a b:Str):(V.str a=V.str b)=(a=b):=propext ⟨λh=>by cases h;rfl,λh=>by rw[h]⟩
@[simp] theorem V.byt.injEq (a b:Array UInt8):(V.byt a=V.byt b)=(a=b):=propext ⟨λh=>by cases h;rfl,λh=>by rw[h]⟩
@[simp] theorem V.ref.injEq (a b:Addr):(V.ref a=V.ref b)=(a=b):=propext ⟨λh=>by cases h;rfl,λh=>by rw[h]⟩
def RelV:V->Value->Prop
 | .non,u=>u=Value.none
 | .bl b,u=>u=Value.bool b
 | .int i,u=>∃t,u=Value.int i t
 | .str x,u=>∃t,u=Value.str x t
 | .byt b,u=>∃t,u=Value.bytes b t
 | .flt b,u=>∃t,u=Value.float b t
 | .ref a,u=>u=Value.ref a
 | .ty n,u=>u=Value.type n
abbrev Vals:m8->w6->Prop:=Paired RelV
theorem Vals.length (r:Vals xs us):xs.length=us.length:=Paired.length r
theorem Vals.get:∀{xs:m8}{us:w6}{i:Nat}{x:V},Vals xs us->xs[i]?=some x->∃u,us[i]?=some u/\RelV x u
 | _,_,_,_,.nil,e=>by simp at e
 | _,_,0,_,.cons r _,e=>by simp at e;subst e;exact⟨_,rfl,r⟩
 | _,_,i+1,x,.cons _ t,e=>by
  obtain⟨u,h1,h2⟩:=Vals.get (i:=i) (x:=x) t (by simpa using e)
  exact⟨u,by simpa using h1,h2⟩
theorem Vals.set {x:V}{u:Value}(r:RelV x u):∀{xs:m8}{us:w6}(i:Nat),Vals xs us->Vals (xs.set i x) (us.set i u)
 | _,_,_,.nil=>.nil
 | _,_,0,.cons _ t=>.cons r t
 | _,_,i+1,.cons q t=>.cons q (Vals.set r i t)
theorem Vals.append:∀{xs ys:m8}{us ws:w6},Vals xs us->Vals ys ws->Vals (xs++ys) (us++ws)
 | _,_,_,_,.nil,s=>s
 | _,_,_,_,.cons r t,s=>.cons r (Vals.append t s)
theorem Vals.take:∀{xs:m8}{us:w6}(n:Nat),Vals xs us->Vals (xs.take n) (us.take n)
 | _,_,0,_=>.nil
 | _,_,_+1,.nil=>.nil
 | _,_,n+1,.cons r t=>.cons r (Vals.take n t)
theorem Vals.drop:∀{xs:m8}{us:w6}(n:Nat),Vals xs us->Vals (xs.drop n) (us.drop n)
 | _,_,0,r=>r
 | _,_,_+1,.nil=>.nil
 | _,_,n+1,.cons _ t=>Vals.drop n t
def B2d:Option V->u9->Prop
 | some v,some u=>RelV v u
 | none,none=>True
 | _,_=>False
def KV {κ:Type}:List (κ×V)->List (κ×Value)->Prop:=Paired λ(p:κ×V) (q:κ×Value)=>p.1=q.1/\RelV p.2 q.2
noncomputable def kV:Key->V
 | .inl i=>.int i
 | .inr x=>.str x
inductive HO where
 | lst (xs:m8)
 | tup (xs:m8)
 | dK (kvs:List (Key×V)) | dT (kvs:List (PyData×V))
 | set (S:Int->Bool) (n:Nat)
 | ins (C dx:Addr) (fs:List (Str×V))
 | own (x:Addr)
 | xd (fs:List (Str×V))
 | met (f x:Addr)
 | rng (lo hi:Int)
 | frz (o:Obj) (u:HO)
 | tbl (q:Str)
 | ext (φ:Heap->Prop)
abbrev Hp:=Addr->Option HO
noncomputable def upd (H:Hp) (a:Addr) (o:HO):Hp:=λb=>if b=a then some o else H b
theorem Bd : upd H a o a=some o:=by unfold upd;simp_all
theorem Ak (h:b≠a):upd H a o b=H b:=by unfold upd;simp_all
theorem Bn2 {H:Hp}{a:Addr}{o u:HO}:upd (upd H a o) a u=upd H a u:=by
 funext b;unfold upd;split <;> rfl
theorem Ay {H:Hp} (h:H a=some o) (h':H b=none):a≠b:=by
 grind
mutual
def KTr (H:Hp):t_->V->Prop
 | .none,v=>v=.non
 | .int i,v=>v=.int i
 | .str x,v=>v=.str x
 | .tuple ds,v=>∃a vs,v=.ref a/\H a=some (.tup vs)/\KTrL H ds vs
 | _,_=>False
def KTrL (H:Hp):w5->m8->Prop
 | [],vs=>vs=[]
 | d::ds,vs=>∃v r,vs=v::r/\KTr H d v/\KTrL H ds r
end
mutual
theorem KTr.stay {H H':Hp}(ht:∀b xs,H b=some (.tup xs)->H' b=some (.tup xs)):∀{d:t_}{v:V},KTr H d v->KTr H' d v
 | .none,_,h=>h
 | .int _,_,h=>h
 | .str _,_,h=>h
 | .tuple _,_,⟨a,vs,e,ha,t⟩=>⟨a,vs,e,ht _ _ ha,KTrL.stay ht t⟩
theorem KTrL.stay {H H':Hp}(ht:∀b xs,H b=some (.tup xs)->H' b=some (.tup xs)):∀{ds:w5}{vs:m8},KTrL H ds vs->KTrL H' ds vs
 | [],_,h=>h
 | _::_,_,⟨v,r,e,h,t⟩=>⟨v,r,e,KTr.stay ht h,KTrL.stay ht t⟩
end
def B5k (k:t_):Prop:=keyB k=true/\k.canLay0=true/\k.depth<=7
def KAt (H:Hp)(k:t_)(a:Addr):Prop:=B5k k/\KTr H k (.ref a)
theorem KAt.stay (ht:∀b xs,H b=some (.tup xs)->H' b=some (.tup xs)) (h:KAt H k a):KAt H' k a:=⟨h.1,KTr.stay ht h.2⟩
def zV (h:Heap)(a:Addr)(items:v7):Prop:=∃o,h.get? a=some o/\o.cls=.type "tuple" /\ (∃n,o.data=.seq items n)/\o.dict=none
theorem zV.tup (x:zV h a items):IsTup h a items:=let ⟨o,h1,h2,h3,_⟩:=x; ⟨o,h1,h2,h3⟩
theorem zV.lt (x:zV h a items):a<h.objs.size:=x.tup.lt
theorem zV.new (h:Heap)(items:v7):zV (h.push { cls:=.type "tuple",data:=.seq items }) h.objs.size items:=⟨_,Heap.get?_push_size _ rfl,rfl,⟨_,rfl⟩,rfl⟩
section
variable (P:u6)(w:World)
def zA (H:Hp)(h:Heap)(a:Addr):HO->Prop
 | .lst xs=>xs.length<=sizeLine/\∃(its:w6) (n:Nat),Vals xs its/\h.get? a=some { cls:=.type "list",data:=.seq its.toArray n }
 | .tup xs=>xs.length<=sizeLine/\∃its:w6,Vals xs its/\zV h a its.toArray
 | .dK kvs=>kvs.length<=sizeLine/\(a==sysModules)=false/\∃vs,KV kvs vs/\h.DictOf (Gk P w) a vs
 | .dT _=>False
 | .set S n=>h.SetOf (intKind P w) a S n
 | .ins C dx fs=>H dx=some (.own a)/\fs.length<=1000/\dx≠a/\h.get? a=some (PySem.W.instObj C dx) /\
  ∃mA,h.Ns1 dx mA/\(∀f,B2d (fs.lookup f) (mA f))/\PySem.Within mA (fs.map (·.1))
 | .own _=>∃o,h.get? a=some o
 | .xd fs=>∃mA,h.Ns1 a mA/\∀f,B2d (fs.lookup f) (mA f)
 | .rng lo hi=>∃t u v,h.get? a=some { cls:=.type "range",data:=.fields #[.int lo t,.int hi u,.int 1 v] }
 | .frz o u=>h.get? a=some o/\zA H h a u
 | .tbl q=>∃ps:v7,h.get? a=some { cls:=.none,data:=.fields ps }/\TriplesOk ps.toList/\∀pos cv,codeAmong pos ps.toList=some cv->∃c o vs t,cv=.ref c/\H c=some (.frz o (.own 0))/\o.data=.fields vs/\vs[1]?=some (.str q t)
 | .met f x=>h.get? a=some (PySem.W.methodObj (.ref f) (.ref x))
 | .ext φ=>φ h/\(∃o,h.get? a=some o)/\∀h1 h2:Heap,φ h1->(∀o,h1.get? a=some o->h2.get? a=some o)->φ h2
def HOk (H:Hp)(h:Heap):Prop:=∀a o,H a=some o->zA P w H h a o
end
section
variable {P:u6}{w:World}{H H':Hp}{h h':Heap}{a:Addr}{o:HO}
theorem zA.lt (x:zA P w H h a o):a<h.objs.size:=by
 cases o with
 | lst d=>obtain⟨_,_,_,_,e⟩:=x;exact Heap.lt_size e
 | tup d=>obtain⟨_,_,_,p⟩:=x;exact p.lt
 | dK b=>obtain⟨_,_,_,_,o,_,_,e,_⟩:=x;exact Heap.lt_size e
 | dT b=>exact x.elim
 | set S n=>obtain⟨o,_,_,_,e,_⟩:=x;exact Heap.lt_size e
 | ins C g c=>obtain⟨_,_,_,e,_⟩:=x;exact Heap.lt_size e
 | own y=>obtain⟨_,e⟩:=x;exact Heap.lt_size e
 | xd c=>obtain⟨_,⟨_,_,_,e,_⟩,_⟩:=x;exact Heap.lt_size e
 | rng j k=>obtain⟨_,_,_,e⟩:=x;exact Heap.lt_size e
 | frz l u=>obtain⟨e,_⟩:=x;exact Heap.lt_size e
 | tbl q=>obtain⟨_,e,_⟩:=x;exact Heap.lt_size e
 | met f y=>exact Heap.lt_size (x)
 | ext i=>obtain⟨_,⟨_,e⟩,_⟩:=x;exact Heap.lt_size e
theorem Paired.mapP {α β:Type}{F G:α->β->Prop}:∀{l₁:List α}{l₂:List β},Paired F l₁ l₂->(∀a b,F a b->G a b)->Paired G l₁ l₂
 | _,_,.nil,_=>.nil
 | _,_,.cons r t,f=>.cons (f _ _ r) (Paired.mapP t f)
theorem zA.stay (x:zA P w H h a o)(k:∀b u,(b=a\/H b=some (.own a))->h.get? b=some u->h'.get? b=some u)
 (ho:∀b,H b=some (.own a)->H' b=some (.own a)) (ht:∀b m,H b=some (.tup m)->H' b=some (.tup m)) (hz:∀b o u,H b=some (.frz o u)->H' b=some (.frz o u):=by exact λ_ _ _ q=>q):zA P w H' h' a o:=by
 induction o with
 | lst m=>obtain⟨z,l,n,r,e⟩:=x;exact⟨z,l,n,r,k _ _ (.inl rfl) e⟩
 | tup m=>obtain⟨z,l,r,g,e,c⟩:=x;exact⟨z,l,r,g,k _ _ (.inl rfl) e,c⟩
 | dK A=>obtain⟨z,y,D,r,g,i,j,e,c⟩:=x;exact⟨z,y,D,r,g,i,j,k _ _ (.inl rfl) e,c⟩
 | dT A=>exact x.elim
 | set S n=>obtain⟨g,i,j,t,e,c⟩:=x;exact⟨g,i,j,t,k _ _ (.inl rfl) e,c⟩
 | ins C M J =>
  obtain⟨d,z,G,e,s,⟨B,i,j,E,c⟩,r⟩:=x;exact⟨ho _ d,z,G,k _ _ (.inl rfl) e,s,⟨B,i,j,k _ _ (.inr d) E,c⟩,r⟩
 | own y=>obtain⟨g,e⟩:=x;exact⟨g,k _ _ (.inl rfl) e⟩
 | xd J=>obtain⟨s,⟨B,i,j,e,c⟩,r⟩:=x;exact⟨s,⟨B,i,j,k _ _ (.inl rfl) e,c⟩,r⟩
 | rng O N=>obtain⟨t,u,v,e⟩:=x;exact⟨t,u,v,k _ _ (.inl rfl) e⟩
 | frz g u K=>obtain⟨e,q⟩:=x;exact⟨k _ _ (.inl rfl) e,K q⟩
 | tbl q =>
  obtain⟨I,e,t,f⟩:=x
  exact⟨I,k a _ (.inl rfl) e,t,λL Q z=>let ⟨c,g,D,tk,e1,E,e3⟩:=f _ _ z; ⟨c,g,D,tk,e1,hz _ _ _ E,e3⟩⟩
 | met f y =>
  have e:h.get? a=some _:=x
  show h'.get? a=some _
  grind
 | ext R=>obtain⟨p,⟨o,e⟩,F⟩:=x;exact⟨F _ _ p λo q=>k _ _ (.inl rfl) q,⟨o,k _ _ (.inl rfl) e⟩,F⟩
theorem HOk.lt (x:HOk P w H h)(e:H a=some o):a<h.objs.size:=(x a o e).lt
theorem HOk.fresh (x:HOk P w H h)(e:h.objs.size<=a):H a=none:=by
 cases q:H a with
 | none=>rfl
 | some u=>exact absurd (aA (x.lt q) e) (aY _)
theorem HOk.kept (x:HOk P w H h)(k:∀b u,h.get? b=some u->h'.get? b=some u):HOk P w H h':=λa o e =>
 (x a o e).stay (λb u _ q=>k b u q) (λ_ q=>q) λ_ _ q=>q
theorem HOk.laid (x:HOk P w H h)(k:∀b u,h.get? b=some u->h'.get? b=some u)(hp:h.objs.size<=a)(f:zA P w (upd H a o) h' a o):HOk P w (upd H a o) h':=λb u e=>by
 have d:=x.fresh hp
 by_cases hb:b=a
 ·subst hb;rw[Bd]at e;simp_all
 ·rw[Ak hb]at e
  exact(x b u e).stay (λc v _ q=>k c v q) λc q=>by rw[Ak (Ay q d)];grind λc g q=>by rw[Ak (Ay q d)];grind λc i g q=>by rw[Ak (Ay q d)];grind
end
def Rd (H:Hp)(a:Addr)(u:HO):Prop:=H a=some u\/∃o,H a=some (.frz o u)
theorem Rd.ok (r:Rd H a u) (x:HOk P w H h):zA P w H h a u:=by
 rcases r with r | ⟨o,r⟩
 ·exact x a u r
 ·obtain⟨_,q⟩:=x a _ r
  lia
def Mut:Option HO->Prop
 | some (.lst _)=>True
 | some (.dK _)=>True
 | some (.dT _)=>True
 | some (.set _ _)=>True
 | some (.ins _ _ _)=>True
 | some (.ext _)=>True
 | _=>False
section
variable {P:u6}{w:World}{H:Hp}{h h':Heap}{x e:Addr}{o':HO}
theorem HOk.write (s:HOk P w H h)(f:Mut (H x))(he:e=x\/H e=some (.own x))(k:∀b u,b≠e->h.get? b=some u->h'.get? b=some u)(m:∃u,h'.get? e=some u)
 (l:zA P w (upd H x o') h' x o'):HOk P w (upd H x o') h':=λb u q=>by
 have a:∀c y,H c=some (.own y)->c≠x:=λc y r z=>by subst z;rw[r]at f;exact f
 have i:∀c d,H c=some (.tup d)->c≠x:=λc d r z=>by subst z;rw[r]at f;exact f
 have g:∀c n d,H c=some (.frz n d)->c≠x:=λc n d r z=>by subst z;rw[r]at f;exact f
 by_cases hb:b=x
 ·subst hb;rw[Bd]at q;cases q;exact l
 ·rw[Ak hb]at q
  by_cases hbe:b=e
  ·have o:H b=some (.own x):=by
    simp_all
   rw[q]at o;cases o;obtain⟨v,p⟩:=m
   exact⟨v,by rw[hbe];exact p⟩
  ·refine (s b u q).stay (λc v j r=>k c v ?_ r) (λc r=>by rw[Ak (a c b r)];exact r) (λc d r=>by rw[Ak (i c _ r)];exact r) λc n d r=>by rw[Ak (g c _ _ r)];exact r
   rcases j with rfl | j
   ·exact hbe
   ·rintro rfl
    rcases he with z | z
    ·exact a c b j z
    ·rw[j]at z;cases z;exact hb rfl
end
structure Un (fs ex:v6) (H H':Hp) (h h':Heap):Prop where
 keep:∀b o,h.get? b=some o->H b=none->b∉fs->b∉ex->h'.get? b=some o
 slot:∀b o,h.get? b=some o->H b=none->b∈fs->b∉ex->∃sl,h'.get? b=some { o with slots:=sl }
 free:∀b o,h.get? b=some o->H b=none->b∉ex->H' b=none
 there:∀b o,h.get? b=some o->b∉ex->∃o',h'.get? b=some o'
 tups:∀b xs,H b=some (.tup xs)->H' b=some (.tup xs)
 frzs:∀b o u,H b=some (.frz o u)->H' b=some (.frz o u)
 tbls:∀b q,H b=some (.tbl q)->H' b=some (.tbl q)
section
variable {fs ex:v6}{H H1:Hp}{h h1 h':Heap}{a x e:Addr}{o:HO}
theorem Un.any (u:Un fs ex H H1 h h1) (q:h.get? b=some ob) (n:H b=none) (hx:b∉ex):∃sl,h1.get? b=some { ob with slots:=sl }:=by
 by_cases hb:b∈fs
 ·exact u.slot b _ q n hb hx
 ·exact⟨ob.slots,u.keep b _ q n hb hx⟩
theorem Un.kept (k:∀b u,h.get? b=some u->h'.get? b=some u):Un fs ex H H h h' :=
 ⟨λb a q _ _ _=>k b _ q,λb a q _ _ _=>⟨a.slots,k b a q⟩,λ_ _ _ n _=>n,λb a q _=>⟨a,k b _ q⟩,λ_ _ q=>q,λ_ _ _ q=>q,λ_ _ q=>q⟩
theorem Un.refl:Un fs ex H H h h:=Un.kept λ_ _ q=>q
theorem Un.laid (k:∀b u,h.get? b=some u->h'.get? b=some u)(hp:h.objs.size<=a)(hn:H a=none):Un fs ex H (upd H a o) h h' where
 keep:=λb u q _ _ _=>k b u q
 slot:=λb u q _ _ _=>⟨u.slots,k b u q⟩
 free:=λb u q n _=>by rw[Ak (aD (aA (Heap.lt_size q) hp))];exact n
 there:=λb u q _=>⟨u,k b u q⟩
 tups:=λb xs q=>by rw[Ak (Ay q hn)];exact q
 frzs:=λb u xs q=>by rw[Ak (Ay q hn)];exact q
 tbls:=λb ps q=>by rw[Ak (Ay q hn)];exact q
theorem Un.write (d:Mut (H x))(he:e=x\/H e=some (.own x))(k:∀b u,b≠e->h.get? b=some u->h'.get? b=some u)(f:∃u,h'.get? e=some u):Un fs ex H (upd H x o) h h':=by
 have i:∀b,H b=none->b≠x:=λb n z=>by subst z;rw[n]at d;exact d
 have c:∀b,H b=none->b≠e:=λb n z=>by
  grind
 have a:∀b u,H b=some u->¬ Mut (some u)->b≠x:=λb u q l z=>by simp_all
 refine⟨λb u q n _ _=>k b u (c b n) q,λb u q n _ _=>⟨u.slots,k b u (c b n) q⟩,λb u q n _=>by rw[Ak (i b n)];grind,λb u q _=>?_,
  λb g q=>by rw[Ak (a b _ q λz=>z)];grind,λb u g q=>by rw[Ak (a b _ q λz=>z)];grind,λb j q=>by rw[Ak (a b _ q λz=>z)];grind⟩
 grind
end
noncomputable def trk (h:Heap) (H:Hp):v6:=(List.range h.objs.size).filter λa=>(H a).isSome
def X8 (h:Heap)(H:Hp):Heap:=PySem.W.hideAll h (trk h H)
theorem A3u (h:Heap)(H:Hp):(X8 h H).objs.size=h.objs.size:=PySem.W.hideAll_size _ _
theorem A7i (e:h.get? b=some o) (n:H b=none):(X8 h H).get? b=some o :=
 PySem.W.hideAll_get _ e λa=>by
  have q := (dg.mp a).2
  grind
theorem Bq5 (e:(X8 h H).get? b=some o):h.get? b=some o/\H b=none:=by
 have a := PySem.W.of_hideAll _ e
 refine⟨a,?_⟩
 cases q:H b with
 | none=>rfl
 | some x =>
  have c:b∈trk h H:=List.mem_filter.mpr ⟨cD.mpr (Heap.lt_size a),by grind⟩
  have z:(X8 h H).get? b=none:=PySem.W.hideAll_none _ c
  simp_all
noncomputable def Bj2 (g h:Heap) (L:Addr):y_:=(List.range h.objs.size).filterMap λa=>if a=L\/(g.get? a).isSome=true then none else (h.get? a).map λo=>(a,o)
def rest (g h:Heap)(L d:Addr):y_:=(Bj2 g h L).filter λp=>decide (p.1≠d)
noncomputable def Ax1 (T:Addr) (q:Str):Obj:={ cls:=.str q 0,data:=.cell (some (.ref T)) }
noncomputable def U8 (o:Obj):Option (Addr×Str):=match o.data with
 | .cell (some (.ref T))=>(match o.cls with
  | .str q _=>some (T,q)
  | _=>none)
 | _=>none
def Ef (K:v9):List (Addr×Str):=K.filterMap λp=>U8 p.2
structure Mod (K:v9) (mg:x_) (base:Heap):Prop where
 kin:K.In base
 glob:base.Ns mainGlobals mg
 blt:∃mb,base.Ns builtinsNs mb/\∀x:Str,x ≠ "__name__" -> mb x=bootBuiltins x
 nolimit:base.NoLimit
 bmod:∃bm o,mg "__builtins__" = some (.ref bm)/\bm≠builtinsNs/\bm≠mainGlobals/\base.get? bm=some o/\o.cls=.type "module" /\ o.dict=some builtinsNs/\o.data=.plain
structure Cx where
 prog:u6
 w:World
 K:v9
 mg:x_
 base:Heap
 A:q9
 N:v4
 s₀:u_
 H₀:Hp
 env:Env
 outer:List Env
 stack:List Env
 ex:v6
 fn:Str->Bool
 calm:Bool
 pn:y_
 xe:z_
noncomputable def frs (l:List Env):v6:=l.filterMap (·.frame)
abbrev Cx.fs (X:Cx):v6:=frs X.outer
def Vis (sc:Scope)(x:Str):Prop:=sc.names.lookup x=some .local\/sc.names.lookup x=some .cell\/sc.names.lookup x=some .free
def Loc (sc:Scope)(x:Str):Prop:=sc.names.lookup x=some .local\/sc.names.lookup x=some .cell
def Look (env:Env)(h:Heap)(m:x_)(x:Str)(u:Value):Prop :=
 (env.kindOf x=some .local/\m x=some u)\/((env.kindOf x=some .cell\/env.kindOf x=some .free)/\∃c,env.cells.lookup x=some c/\h.IsCell c (some u))
structure Cx.Ok (X:Cx):Prop where
 mod:Mod X.K X.mg X.base
 kind:X.env.scope.kind=.function
 glob:X.env.globals=mainGlobals
 blt:X.env.builtins=builtinsNs
 above:X.s₀.heap.objs.size<=X.env.locals
 inj:∀x y c,X.env.cells.lookup x=some c->X.env.cells.lookup y=some c->x=y
 has:∀x,(X.env.kindOf x=some .cell\/X.env.kindOf x=some .free)->∃c,X.env.cells.lookup x=some c
 cab:∀x c,X.fn x=true->X.env.cells.lookup x=some c->X.s₀.heap.objs.size<=c
 hd:X.calm=true->X.A.handled=none
 frames:X.A.frames=some X.stack
 stk:X.stack=X.outer\/(X.stack=X.env::X.outer/\X.env.frame=some X.env.locals)
 exf:∀b∈X.ex,b≠X.env.locals/\∀x c,X.env.cells.lookup x=some c->c≠b
 bs:∀b o,X.base.get? b=some o->X.s₀.heap.get? b=some o/\X.H₀ b=none
 bsz:X.base.objs.size<=X.s₀.heap.objs.size
 noex:∀b o,X.base.get? b=some o->b∉X.ex
 exfs:∀b∈X.ex,b∉X.fs
 funs:X.s₀.heap.FunFrames X.base X.outer
 frf:∀b∈X.fs,X.H₀ b=none
 tab:∀p∈Ef X.K,X.H₀ p.1=some (.tbl p.2)
structure Inv (X:Cx) (pins:y_) (σ:List (Option V)) (H:Hp) (s:u_):Prop where
 ok:X.Ok
 os:s.os=X.s₀.os
 bare:AllBare s.gens
 base:Un X.fs X.ex X.H₀ H X.s₀.heap s.heap
 loc:∃m,s.heap.Ns X.env.locals m/\∀(i:Nat) (x:Str) (v:V),X.N[i]?=some x->σ[i]?=some (some v)->Vis X.env.scope x->∃u,RelV v u/\Look X.env s.heap m x u
 cell:∀x c,X.env.cells.lookup x=some c->∃v,s.heap.IsCell c v
 free:H X.env.locals=none
 freeC:∀x c,X.env.cells.lookup x=some c->H c=none
 pin:∀p∈X.pn++pins,s.heap.get? p.1=some p.2/\H p.1=none/\p.1≠X.env.locals/\p.1∉X.fs/\∀v,p.2.data≠.cell v
 hok:HOk X.prog X.w H s.heap
 len:σ.length=X.N.length
section
variable {X:Cx}{pins:y_}{σ:List (Option V)}{H H':Hp}{s:u_}{h':Heap}
theorem Cx.Ok.nofr (c:X.Ok) (e:X.base.get? b=some o):b∉X.fs:=λa=>by
 have:=(c.funs.mem a).1
 simp_all
theorem Inv.bs (I:Inv X pins σ H s):∀b o,X.base.get? b=some o->s.heap.get? b=some o/\H b=none:=λb o e =>
 ⟨I.base.keep b o (I.ok.bs b o e).1 (I.ok.bs b o e).2 (I.ok.nofr e) (I.ok.noex b o e),I.base.free b o (I.ok.bs b o e).1 (I.ok.bs b o e).2 (I.ok.noex b o e)⟩
theorem Inv.bk (I:Inv X pins σ H s):∀b o,X.base.get? b=some o->s.heap.get? b=some o:=λb o e=>(I.bs b o e).1
theorem Inv.mod (I:Inv X pins σ H s):Mod X.K X.mg X.base:=I.ok.mod
theorem Inv.kIn (I:Inv X pins σ H s):X.K.In s.heap:=I.ok.mod.kin.keeps I.bk
theorem Inv.fr (I:Inv X pins σ H s):∃m,Fr X.base X.env.locals s.heap m :=
 let ⟨m,hn,_⟩:=I.loc
 ⟨m,hn,I.bk,aj I.ok.bsz I.ok.above⟩
theorem Inv.lt (I:Inv X pins σ H s):X.env.locals<s.heap.objs.size:=let ⟨_,hn,_⟩:=I.loc;hn.lt
theorem Inv.sz (I:Inv X pins σ H s):X.s₀.heap.objs.size<=s.heap.objs.size:=aj I.ok.above (bM I.lt)
theorem Inv.nofs (I:Inv X pins σ H s) (h:s.heap.objs.size<=a):a∉X.fs:=λc=>by
 obtain⟨_,o,b,_⟩:=I.ok.funs.mem c;exact absurd (aA (Heap.lt_size b) (aj I.sz h)) (aY _)
theorem Inv.cne (I:Inv X pins σ H s):∀x c,X.env.cells.lookup x=some c->c≠X.env.locals:=λx c e z=>by
 obtain⟨v,o,d,i⟩:=I.cell x c e;obtain⟨m,⟨f,g,h,a,b,_⟩,_⟩:=I.loc
 simp_all
theorem Inv.funs (I:Inv X pins σ H s):s.heap.FunFrames X.base X.outer:=by
 have d:∀(l:List _),(∀b∈frs l,b∈X.fs)->X.s₀.heap.FunFrames X.base l->s.heap.FunFrames X.base l:=by
  intro l
  induction l with
  | nil=>intro _ _;trivial
  | cons h r j =>
   intro g q;obtain⟨i,⟨L,o,f,k,m,n⟩,p⟩:=q
   have c := g L (by unfold frs;simp_all)
   obtain⟨t,e⟩:=I.base.slot L o m (I.ok.frf L c) c λz=>I.ok.exfs L z c
   exact⟨i,⟨L,_,f,k,e,n⟩,j (λb a=>g b (by unfold frs;rw[cG,f];exact aW _ a)) p⟩
 exact d _ (λ_ a=>a) I.ok.funs
theorem Inv.stack (I:Inv X pins σ H s):s.heap.FunFrames X.base X.stack:=by
 rcases I.ok.stk with e | ⟨e,b⟩
 ·rw[e];exact I.funs
 ·rw[e]
  obtain⟨m,a,_⟩:=I.loc
  refine .cons (by rw[I.ok.kind];decide) b a ?_ I.funs
  exact Heap.get?_none_of_le (aj I.ok.bsz I.ok.above)
theorem Inv.stkSub (I:Inv X pins σ H s):∀b∈frs X.stack,b∈X.env.locals::X.fs:=λb a=>by
 rcases I.ok.stk with e | ⟨e,c⟩
 ·simp_all
 ·rw[e]at a
  unfold frs at a;rw[cG,c]at a;exact a
theorem Inv.stkFree (I:Inv X pins σ H s):∀b∈frs X.stack,H b=none:=λb a=>by
 rcases az.mp (I.stkSub b a) with e | a
 ·rw[e];exact I.free
 ·obtain⟨_,o,c,_⟩:=I.ok.funs.mem a
  exact I.base.free b o c (I.ok.frf b a) λz=>I.ok.exfs b z a
theorem Inv.step {ch:v6}(I:Inv X pins σ H s)
 (j:∀b∈ch,(b∈X.ex\/X.s₀.heap.objs.size<=b)/\b≠X.env.locals/\(∀x c,X.env.cells.lookup x=some c->c≠b)/\∀p∈X.pn++pins,p.1≠b)
 (t:∀b o,b≠X.env.locals->b∉X.fs->b∉ch->s.heap.get? b=some o->H b=none->h'.get? b=some o)
 (slot:∀b o,b≠X.env.locals->b∈X.fs->b∉ch->s.heap.get? b=some o->H b=none->∃L,h'.get? b=some { o with slots:=L }) (f:∀b o,b∉ch->s.heap.get? b=some o->H b=none->H' b=none)
 (w:∀b o,b∉ch->s.heap.get? b=some o->∃O,h'.get? b=some O)
 (D:∀b J,H b=some (.tup J)->H' b=some (.tup J)) (F:∀b o u,H b=some (.frz o u)->H' b=some (.frz o u)) (C:∀b q,H b=some (.tbl q)->H' b=some (.tbl q))
 (ns:∀m,s.heap.Ns X.env.locals m->h'.Ns X.env.locals m) (N:HOk X.prog X.w H' h') (hg:AllBare g') :
 Inv X pins σ H' { s with heap:=h',gens:=g',drawn:=d',toks:=t' }:=by
 have G:∀b o,X.s₀.heap.get? b=some o->b≠X.env.locals:=λb o e=>aD (aA (Heap.lt_size e) I.ok.above)
 have h:∀b o,X.s₀.heap.get? b=some o->b∉X.ex->b∉ch:=λb o e a A=>by
  rcases (j b A).1 with z | z
  ·exact a z
  ·exact absurd (aA (Heap.lt_size e) z) (aY _)
 have g:∀x c,X.env.cells.lookup x=some c->∀v,s.heap.IsCell c v->h'.IsCell c v:=λx c e v ⟨o,B,K⟩=>by
  have E:c∉ch:=λz=>(j c z).2.2.1 x c e rfl
  by_cases hc:c∈X.fs
  ·obtain⟨L,q⟩:=slot c o (I.cne x c e) hc E B (I.freeC x c e)
   exact⟨_,q,K⟩
  ·exact⟨o,t c o (I.cne x c e) hc E B (I.freeC x c e),K⟩
 refine⟨I.ok,I.os,hg,⟨λb o e n A a=>?_,λb o e n A a=>?_,λb o e n a=>?_,λb o e a=>?_,λb J e=>D b _ (I.base.tups b _ e),λb o J e=>F b o _ (I.base.frzs b o _ e),λb V e=>?_⟩,?_,λx c e=>?_,?_,λx c e=>?_,λp Q=>?_,N,I.len⟩
 ·exact t b o (G b o e) A (h b o e a) (I.base.keep b o e n A a) (I.base.free b o e n a)
 ·obtain⟨L,y⟩:=I.base.slot b o e n A a
  obtain⟨P,M⟩:=slot b _ (G b o e) A (h b o e a) y (I.base.free b o e n a);exact⟨P,M⟩
 ·obtain⟨O,y⟩:=I.base.there b o e a
  exact f b _ (h b o e a) y (I.base.free b o e n a)
 ·obtain⟨O,y⟩:=I.base.there b o e a
  exact w b _ (h b o e a) y
 ·exact C b _ (I.base.tbls b _ e)
 ·obtain⟨m,R,S⟩:=I.loc
  refine⟨m,ns m R,λi x v y M T=>?_⟩
  obtain⟨u,r,l⟩:=S i x v y M T
  refine⟨u,r,?_⟩
  rcases l with l | ⟨k,c,e,z⟩
  ·exact .inl l
  ·exact .inr ⟨k,c,e,g x c e _ z⟩
 ·obtain⟨v,z⟩:=I.cell x c e
  exact⟨v,g x c e v z⟩
 ·obtain⟨m,⟨o,_,_,B,_⟩,_⟩:=I.loc
  exact f _ o (λz=>(j _ z).2.1 rfl) B I.free
 ·obtain⟨v,o,B,K⟩:=I.cell x c e
  exact f c o (λz=>(j c z).2.2.1 x c e rfl) B (I.freeC x c e)
 ·obtain⟨e,n,W,U,d⟩:=I.pin p Q
  grind
theorem Inv.un (I:Inv X pins σ H s) (u:Un X.fs [] H H' s.heap h') (g:HOk X.prog X.w H' h'):Inv X pins σ H' { s with heap:=h',toks:=t' }:=by
 obtain⟨m,⟨o,l,v,h,r⟩,_⟩:=id I.loc
 obtain⟨q,j⟩:=u.any h I.free (by simp)
 exact I.step (ch:=[]) (λ_ z=>nomatch z) (λb o _ c _ e n=>u.keep b o e n c (by simp)) (λb o _ c _ e n=>u.slot b o e n c (by simp)) (λb o _ e n=>u.free b o e n (by simp)) (λb o _ e=>u.there b o e (by simp)) u.tups u.frzs u.tbls (λt i=>by
  obtain⟨p,d,f,a,k⟩:=i;rw[h]at a;cases a
  exact⟨_,d,f,j,k⟩) g I.bare
theorem Inv.call (I:Inv X pins σ H s) (u:Un (frs X.stack) ch H H' s.heap h') (g:HOk X.prog X.w H' h') (hg:AllBare g')
 (d:∀b∈ch,(b∈X.ex\/X.s₀.heap.objs.size<=b)/\b≠X.env.locals/\(∀x c,X.env.cells.lookup x=some c->c≠b)/\∀p∈X.pn++pins,p.1≠b) :
 Inv X pins σ H' { s with heap:=h',gens:=g',drawn:=d',toks:=t' }:=by
 obtain⟨m,⟨o,v,A,k,r⟩,_⟩:=id I.loc
 obtain⟨y,h⟩:=u.any k I.free λz=>(d _ z).2.1 rfl
 exact I.step d (λb o h q a e n=>u.keep b o e n (λz=>(az.mp (I.stkSub b z)).elim h q) a) (λb o _ _ a e n=>u.any e n a) (λb o a e n=>u.free b o e n a) (λb o a e=>u.there b o e a) u.tups u.frzs u.tbls (λB t=>by
  obtain⟨w,j,i,f,l⟩:=t;rw[k]at f;cases f
  exact⟨_,j,i,h,l⟩) g hg
theorem Inv.turned (I:Inv X pins σ H s) (k:∀b o,b≠it->s.heap.get? b=some o->h'.get? b=some o) (hn:H it=none) (h:it≠X.env.locals)
 (h1:it∈X.ex\/X.s₀.heap.objs.size<=it) (h2:∀x c,X.env.cells.lookup x=some c->c≠it) (j:∀p∈X.pn++pins,p.1≠it):Inv X pins σ H { s with heap:=h',toks:=t' }:=by
 refine I.step (ch:=[it]) (λb t=>?_) (λb o _ _ a e _=>k b o (λz=>a (by grind)) e) (λb o _ _ a e _=>⟨o.slots,k b o (λz=>a (by grind)) e⟩) (λ_ _ _ _ n=>n)
  (λb o a e=>⟨o,k b o (λz=>a (by grind)) e⟩) (λ_ _ e=>e) (λ_ _ _ e=>e) (λb l e=>e) (λm g=>?_) (λb u e=>?_) I.bare
 ·grind
 ·obtain⟨o,f,i,d,r⟩:=g
  exact⟨o,f,i,k _ o (aC h) d,r⟩
 ·refine (I.hok b u e).stay (λc v a q=>k c v ?_ q) (λ_ q=>q) λ_ _ q=>q
  grind
theorem Inv.tok (I:Inv X pins σ H s)(t:Nat):Inv X pins σ H { s with toks:=t }:=I.un Un.refl I.hok
theorem Inv.kept (I:Inv X pins σ H s) (k:∀b u,s.heap.get? b=some u->h'.get? b=some u):Inv X pins σ H { s with heap:=h',toks:=t' }:=I.un (Un.kept k) (I.hok.kept k)
theorem Inv.laid (I:Inv X pins σ H s) (k:∀b u,s.heap.get? b=some u->h'.get? b=some u) (hp:s.heap.objs.size<=a) (c:zA X.prog X.w (upd H a o) h' a o) :
 Inv X pins σ (upd H a o) { s with heap:=h',toks:=t' }:=I.un (Un.laid k hp (I.hok.fresh hp)) (I.hok.laid k hp c)
theorem Inv.write (I:Inv X pins σ H s) (d:Mut (H x)) (he:e=x\/H e=some (.own x)) (k:∀b u,b≠e->s.heap.get? b=some u->h'.get? b=some u) (a:∃u,h'.get? e=some u)
 (c:zA X.prog X.w (upd H x o) h' x o):Inv X pins σ (upd H x o) { s with heap:=h',toks:=t' }:=I.un (Un.write d he k a) (I.hok.write d he k a c)
theorem Inv.pins_of (I:Inv X pins σ H s) (h:∀p∈a,s.heap.get? p.1=some p.2/\H p.1=none/\p.1≠X.env.locals/\p.1∉X.fs/\∀v,p.2.data≠.cell v):Inv X a σ H s :=
 ⟨I.ok,I.os,I.bare,I.base,I.loc,I.cell,I.free,I.freeC,λp b=>(aX.mp b).elim (λz=>I.pin p (aZ _ z)) (h p),I.hok,I.len⟩
theorem Ah5 {N:v4}(hN:N.Nodup){i j:Nat} (a:N[i]?=some x) (b:N[j]?=some x):i=j:=by
 obtain⟨e,d⟩:=bz.mp a;obtain⟨f,c⟩:=bz.mp b;exact(List.getElem_inj hN).mp (d.trans c.symm)
theorem Yz (I:Inv X pins σ H s) (hN:X.N.Nodup) (hi:X.N[i]?=some x) (hx:Loc X.env.scope x) (r:RelV v u)
 (h:∀s',Inv X pins (σ.set i (some v)) H s'->(∃a,Heap.SameBut a s.heap s'.heap/\(a=X.env.locals\/X.env.cells.lookup x=some a))->Q () s') (hf:X.fn x=true\/X.env.scope.names.lookup x=some .local:=by first | exact .inl rfl | exact .inr rfl | assumption):wpAny M A (storeName X.env x u) Q E s:=by
 obtain⟨m,S,hl⟩:=id I.loc
 have K:(X.env.scope.kind==.class||(X.env.scope.kind==.module&&X.env.locals != X.env.globals))=false:=by rw[I.ok.kind];rfl
 have C:i<σ.length:=by rw[I.len];exact(bz.mp hi).1
 have J:=I.cne
 have g:∀{a:Addr} {L:Heap},(∃o,s.heap.get? a=some o/\H a=none)->Heap.SameBut a s.heap L->HOk X.prog X.w H L:=λ{a L} ha f b ob e=>by
  obtain⟨_,_,w⟩:=ha
  refine (I.hok b ob e).stay (λc w' t q=>(f.2 c ?_).trans q) (λ_ q=>q) λ_ _ q=>q
  rintro rfl
  rcases t with rfl | t
  ·rw[w]at e;cases e
  ·rw[w]at t;cases t
 rcases hx with D | D
 ·refine wpAny_storeName_local D S (λL hn' f=>?_) K
  obtain⟨oL,_,_,hoL,_⟩:=id S
  refine h _ ⟨I.ok,I.os,I.bare,⟨λb o e n F hx=>?_,λb o e n F hx=>?_,I.base.free,λb o e hx=>?_,I.base.tups,I.base.frzs,I.base.tbls⟩,⟨_,hn',λj y v' l B T=>?_⟩,λy c e=>?_,I.free,I.freeC,λp U=>?_,g ⟨oL,hoL,I.free⟩ f,by simpa using I.len⟩ ⟨_,f,.inl rfl⟩
  ·exact(f.2 b (aD (aA (Heap.lt_size e) I.ok.above))).trans (I.base.keep b o e n F hx)
  ·obtain⟨W,l⟩:=I.base.slot b o e n F hx
   exact⟨W,(f.2 b (aD (aA (Heap.lt_size e) I.ok.above))).trans l⟩
  ·obtain⟨Y,l⟩:=I.base.there b o e hx
   exact⟨Y,(f.2 b (aD (aA (Heap.lt_size e) I.ok.above))).trans l⟩
  ·by_cases hj:j=i
   ·subst hj
    rw[hi]at l;cases l;rw[bU C]at B
    cases B
    exact⟨u,r,.inl ⟨D,by simp⟩⟩
   ·rw[bN (aC hj)]at B
    obtain⟨Z,r',q⟩:=hl j y _ l B T
    refine⟨Z,r',?_⟩
    rcases q with ⟨k,e⟩ | ⟨k,c,e,z⟩
    ·refine .inl ⟨k,?_⟩
     have:y≠x:=λe=>hj (Ah5 hN l (e▸hi))
     simp[this,e]
    ·exact .inr ⟨k,c,e,z.sameBut f (J y c e)⟩
  ·obtain⟨w',z⟩:=I.cell y c e
   exact⟨w',z.sameBut f (J y c e)⟩
  ·obtain⟨e,n,R,nf,d⟩:=I.pin p U
   exact⟨(f.2 _ R).trans e,n,R,nf,d⟩
 ·have G:X.fn x=true:=by
   rcases hf with z | z
   ·exact z
   ·rw[z]at D;cases D
  obtain⟨c,t⟩:=I.ok.has x (.inl D);obtain⟨w',z⟩:=I.cell x c t
  refine wpAny_storeName_cell I.ok.kind D t z λL N f=>?_
  obtain⟨oc,P,O⟩:=id z
  refine h _ ⟨I.ok,I.os,I.bare,⟨λb o e n F hx=>?_,λb o e n F hx=>?_,I.base.free,λb o e hx=>?_,I.base.tups,I.base.frzs,I.base.tbls⟩,⟨m,S.sameBut f (aC (J x c t)),λj y v' l B T=>?_⟩,λy c' e=>?_,I.free,I.freeC,λp U=>?_,g ⟨oc,P,I.freeC x c t⟩ f,by simpa using I.len⟩ ⟨c,f,.inr t⟩
  ·exact(f.2 b (aD (aA (Heap.lt_size e) (I.ok.cab x c G t)))).trans (I.base.keep b o e n F hx)
  ·obtain⟨W,l⟩:=I.base.slot b o e n F hx
   exact⟨W,(f.2 b (aD (aA (Heap.lt_size e) (I.ok.cab x c G t)))).trans l⟩
  ·obtain⟨Y,l⟩:=I.base.there b o e hx
   exact⟨Y,(f.2 b (aD (aA (Heap.lt_size e) (I.ok.cab x c G t)))).trans l⟩
  ·by_cases hj:j=i
   ·subst hj
    rw[hi]at l;cases l;rw[bU C]at B
    cases B
    exact⟨u,r,.inr ⟨.inl D,c,t,N⟩⟩
   ·rw[bN (aC hj)]at B
    obtain⟨Z,r',q⟩:=hl j y _ l B T
    refine⟨Z,r',?_⟩
    rcases q with q | ⟨k,c',e,z'⟩
    ·exact .inl q
    ·refine .inr ⟨k,c',e,z'.sameBut f ?_⟩
     rintro rfl
     exact hj (Ah5 hN l (I.ok.inj _ _ _ e t▸hi))
  ·by_cases hcc:c'=c
   ·subst hcc;exact⟨_,N⟩
   ·obtain⟨w2,z2⟩:=I.cell y _ e
    exact⟨w2,z2.sameBut f hcc⟩
  ·obtain⟨e,n,R,nf,d⟩:=I.pin p U
   refine⟨(f.2 _ ?_).trans e,n,R,nf,d⟩
   intro q;rw[q,P]at e
   exact d _ (by rw[<- (bV e)];exact O)
theorem Gw (I:Inv X pins σ H s) (hN:X.N.Nodup) (hi:X.N[i]?=some x) (hx:Loc X.env.scope x) (r:RelV v u)
 (h:∀a,Inv X pins (σ.set i (some v)) H a->Q () a) (hf:X.fn x=true\/X.env.scope.names.lookup x=some .local:=by first | exact .inl rfl | exact .inr rfl | assumption):wpAny M A (storeName X.env x u) Q E s :=
 Yz I hN hi hx r (λa b _=>h _ b) hf
theorem Inv.call' (I:Inv X pins σ H s) (ho:s'.os=s.os) (u:Un (frs X.stack) ch H H' s.heap s'.heap) (d:HOk X.prog X.w H' s'.heap) (hg:AllBare s'.gens)
 (a:∀b∈ch,(b∈X.ex\/X.s₀.heap.objs.size<=b)/\b≠X.env.locals/\(∀x c,X.env.cells.lookup x=some c->c≠b)/\∀p∈X.pn++pins,p.1≠b):Inv X pins σ H' s':=by
 obtain⟨f,g,h,i,e⟩:=s';subst ho;exact I.call u d hg a
end
abbrev XK:=Value->Option Addr->Hp->Prop
abbrev St:=List (Option V)
abbrev VK:=V->Hp->Prop
abbrev TE:=St->Hp->VK->Prop
abbrev TT:=St->Hp->(Bool->Hp->Prop)->Prop
abbrev TA:=St->Hp->(m8->Hp->Prop)->Prop
structure Ends where
 nx:St->Hp->Prop
 rt:VK
 bk:St->Hp->Prop:=λ_ _=>False
 ct:St->Hp->Prop:=λ_ _=>False
abbrev TS:=Ends->St->Hp->Prop
def EP (X:Cx)(pins:y_)(σ:St)(Q:VK)(u:Value)(s':u_):Prop:=∃v H',Inv X pins σ H' s'/\RelV v u/\Q v H'
def TP (X:Cx)(pins:y_)(σ:St)(Q:Bool->Hp->Prop)(b:Bool)(s':u_):Prop:=∃H',Inv X pins σ H' s'/\Q b H'
def AP (X:Cx)(pins:y_)(σ:St)(Q:m8->Hp->Prop)(us:w6)(s':u_):Prop:=∃vs H',Inv X pins σ H' s'/\Vals vs us/\Q vs H'
def SP (X:Cx)(pins:y_)(D:Ends)(f:Flow)(s':u_):Prop :=
 match f with
 | .next=>∃σ' H',Inv X pins σ' H' s'/\D.nx σ' H'
 | .brk=>∃σ' H',Inv X pins σ' H' s'/\D.bk σ' H'
 | .cont=>∃σ' H',Inv X pins σ' H' s'/\D.ct σ' H'
 | .ret u=>∃v σ' H',Inv X pins σ' H' s'/\RelV v u/\D.rt v H'
def PE (X:Cx)(e:Expr)(t:TE):Prop :=
 ∀(pins:y_) (s:u_) (σ:St) (H:Hp) (Q:VK),Inv X pins σ H s->t σ H Q->wpAny (model X.prog X.w) X.A (eval e X.env) (EP X pins σ Q) X.xe s
structure QE (X:Cx) (e:Expr) (t:TE):Prop where
 get:PE X e t
def PT (X:Cx)(e:Expr)(t:TT):Prop :=
 ∀(pins:y_) (s:u_) (σ:St) (H:Hp) (Q:Bool->Hp->Prop),Inv X pins σ H s->t σ H Q->wpAny (model X.prog X.w) X.A (isTrue e X.env (eval e X.env)) (TP X pins σ Q) X.xe s
structure QT (X:Cx) (e:Expr) (t:TT):Prop where
 get:PT X e t
def PW (X:Cx)(e:Expr)(t:TT):Prop :=
 ∀(whole:Sem Value) (pins:y_) (s:u_) (σ:St) (H:Hp) (Q:Bool->Hp->Prop),Inv X pins σ H s->t σ H Q->wpAny (model X.prog X.w) X.A (isTrue e X.env whole) (TP X pins σ Q) X.xe s
structure QW (X:Cx) (e:Expr) (t:TT):Prop where
 get:PW X e t
theorem PW.pt (h:PW X e t):PT X e t:=h _
def PA (X:Cx)(es:v_)(t:TA):Prop :=
 ∀(pos:Pos) (pins:y_) (s:u_) (σ:St) (H:Hp) (Q:m8->Hp->Prop),Inv X pins σ H s->t σ H Q->wpAny (model X.prog X.w) X.A (spliced (backTo pos (starEach es X.env))) (AP X pins σ Q) X.xe s
structure QA (X:Cx) (e:(v_)) (t:TA):Prop where
 get:PA X e t
def PS (X:Cx)(st:Stmt)(t:TS):Prop :=
 ∀(pins:y_) (s:u_) (σ:St) (H:Hp) (D:Ends),Inv X pins σ H s->t D σ H->wpAny (model X.prog X.w) X.A (exec st X.env) (SP X pins D) X.xe s
structure QS (X:Cx) (st:Stmt) (t:TS):Prop where
 get:PS X st t
def PSs (X:Cx)(st:List Stmt)(t:TS):Prop :=
 ∀(pins:y_) (s:u_) (σ:St) (H:Hp) (D:Ends),Inv X pins σ H s->t D σ H->wpAny (model X.prog X.w) X.A (execs st X.env) (SP X pins D) X.xe s
structure QSs (X:Cx) (st:(List Stmt)) (t:TS):Prop where
 get:PSs X st t
theorem thn {t:Sem c}{Q b:c->u_->Prop} (h:wpAny M A t Q E s) (d:∀a s,Q a s->b a s):wpAny M A t b E s:=wpAny_mono h d λ_ _ x=>x
section
variable {X:Cx}
def Qx (i:Nat):TE:=λσ H Q=>∃v,σ[i]?=some (some v)/\Q v H
def tC (v:V):TE:=λ_ H Q=>Q v H
theorem Aq5 {f:Pos}(hN:X.N[i]?=some x) (hv:Vis X.env.scope x) (hd:(x==("__debug__" : Str))=false:=by decide) (hcd:(x==("__classdict__" : Str))=false:=by decide):PE X (.Name x f) (Qx i):=by
 intro j s p H Q I h;obtain⟨v,e,h⟩:=h;obtain⟨m,k,n⟩:=I.loc;obtain⟨u,r,l⟩:=n i x v hN e hv;have b:EP X _ _ Q u s:=⟨v,H,I,r,h⟩
 rcases l with ⟨d,o⟩ | ⟨d,c,g,a⟩
 ·exact wpAny_Name (wpAny_loadName_local I.ok.kind d k o b) hd
 ·rcases d with d | d
  ·exact wpAny_Name (wpAny_loadName_cell I.ok.kind d g a b) hd
  ·exact wpAny_Name (wpAny_loadName_free I.ok.kind d g a b hcd) hd
theorem A7z : PE X (.Constant (.int i) j a) (tC (.int i)):=λ_ _ _ H _ I h=>wpAny_Constant_int ⟨.int i,H,I.tok _,⟨_,rfl⟩,h⟩
theorem Bt2 : PE X (.Constant (.bool b) j a) (tC (.bl b)):=λ_ _ _ H _ I h=>Constant_bool ⟨.bl b,H,I,rfl,h⟩
theorem Bd8 : PE X (.Constant .none j a) (tC .non):=λ_ _ _ H _ I h=>Constant_none ⟨.non,H,I,rfl,h⟩
theorem A6t : PE X (.Constant (.str x) j a) (tC (.str x)):=λ_ _ _ H _ I h=>Calls.Constant_str ⟨.str x,H,I.tok _,⟨_,rfl⟩,h⟩
def Gl (X:Cx)(x:Str):Prop:=X.env.kindOf x=some .globalImplicit
theorem J4 (I:Inv X pins b H s) (hg:Gl X x) (hm:X.mg x=some u) (h:Q u s)
 (hd:(x==("__debug__" : Str))=false:=by decide):wpAny (model X.prog X.w) X.A (eval (.Name x a) X.env) Q E s :=
 Calls.Name_function_global I.ok.kind hg (Calls.loadGlobal_global (by rw[I.ok.glob];exact I.mod.glob.keeps I.bk) hm h) hd
theorem Kl {E:z_} {a:Pos} (I:Inv X pins c H s) (hg:Gl X x) (hm:X.mg x=none) (hv:bootBuiltins x=some u) (h:Q u s)
 (hn:x ≠ "__name__" := by decide) (hd:(x==("__debug__" : Str))=false:=by decide):wpAny (model X.prog X.w) X.A (eval (.Name x a) X.env) Q E s:=by
 obtain⟨e,d,b⟩:=I.mod.blt
 exact Calls.Name_function_global I.ok.kind hg (Calls.loadGlobal_builtin (by rw[I.ok.glob];exact I.mod.glob.keeps I.bk) hm (by rw[I.ok.blt];exact d.keeps I.bk) ((b x hn).trans hv) h) hd
theorem Bh7 (hg:Gl X x) (hm:X.mg x=some u) (r:RelV v u) (hd:(x==("__debug__" : Str))=false:=by decide):PE X (.Name x a) (tC v) :=
 λ_ _ _ H _ I h=>J4 I hg hm ⟨v,H,I,r,h⟩ hd
theorem Bs3 {a:Pos}(hg:Gl X x) (hm:X.mg x=none) (hv:bootBuiltins x=some u) (r:RelV v u) (hn:x ≠ "__name__" := by decide) (hd:(x==("__debug__" : Str))=false:=by decide):PE X (.Name x a) (tC v) :=
 λ_ _ _ H _ I h=>Kl I hg hm hv ⟨v,H,I,r,h⟩ hn hd
variable {a b:Expr}{ta tb:TE}{pos:Pos}
def tB (t:TE):TT:=λσ H Q=>t σ H λx H1=>∃c,x=.bl c/\Q c H1
theorem Gm (h:QE X e t) (he:∀whole,isTrue e X.env whole=(do let v <- whole;standAt e.pos;holding [v] (truthy v)):=by intro _;rfl):QT X e (tB t):=by
 refine⟨?_⟩
 intro a s σ H Q I f
 refine isTrue_plain (thn (h.1 _ s _ H _ I f) λv s1 ⟨x,g,b,c,i⟩=>?_) (he _)
 obtain⟨d,rfl,q⟩:=i
 cases c
 exact wpAny_truthy_bool ⟨g,b,q⟩
variable {tA tB':TT}{rest:v_}
def B5b (t u:TT):TT:=λσ H Q=>t σ H λc H1=>if c=true then u σ H1 Q else Q false H1
def tOr (t u:TT):TT:=λσ H Q=>t σ H λc H1=>if c=true then Q true H1 else u σ H1 Q
def B4o (t:TT):TT:=λσ H Q=>t σ H λc H1=>Q (!c) H1
theorem Ul (ha:QT X a tA):QW X (.BoolOp .And [a] pos) tA:=by
 refine⟨?_⟩
 intro f b s g H Q I h
 refine isTrue_and (thn (ha.1 _ s _ H Q I h) λc d e=>?_)
 cases c with
 | true=>exact isTrue_and_nil e
 | false=>exact e
theorem Xm (ha:QT X a tA):QW X (.BoolOp .Or [a] pos) tA:=by
 refine⟨?_⟩
 intro f b s g H Q I h
 refine isTrue_or (thn (ha.1 _ s _ H Q I h) λc d e=>?_)
 cases c with
 | false=>exact isTrue_or_nil e
 | true=>exact e
theorem Xv (ha:QT X a tA)(hb:QW X (.BoolOp .And (b::rest) pos) tB'):QW X (.BoolOp .And (a::b::rest) pos) (B5b tA tB'):=by
 obtain⟨hb⟩:=hb
 refine⟨?_⟩
 intro g d s k H Q I h
 refine isTrue_and (thn (ha.1 _ s _ H _ I h) λc i ⟨j,f,e⟩=>?_)
 cases c with
 | true=>exact hb _ _ _ _ _ Q f e
 | false=>trivial
theorem Y5 (ha:QT X a tA)(hb:QW X (.BoolOp .Or (b::rest) pos) tB'):QW X (.BoolOp .Or (a::b::rest) pos) (tOr tA tB'):=by
 obtain⟨hb⟩:=hb
 refine⟨?_⟩
 intro g d s k H Q I h
 refine isTrue_or (thn (ha.1 _ s _ H _ I h) λc i ⟨j,f,e⟩=>?_)
 cases c with
 | true=>assumption
 | false=>exact hb _ _ _ _ _ Q f e
theorem Aw3 (ha:QT X a tA):QT X (.UnaryOp .Not a pos) (B4o tA):=by
 refine⟨?_⟩
 intro b s c H Q I h;exact isTrue_not (ha.1 _ s _ H _ I h)
def Bu8 (ta tb:TE):TE:=λσ H Q=>ta σ H λx H1=>∃c,x=.bl c/\if c=true then tb σ H1 Q else Q (.bl false) H1
def Bv6 (ta:TE):TE:=λσ H Q=>ta σ H λx H1=>∃c,x=.bl c/\Q (.bl (!c)) H1
theorem B1i (h:PE X a t):PE X (.BoolOp op [a] pos) t:=λb s d H Q I c=>BoolOp_one (h _ s _ H Q I c)
theorem Vb (ha:QE X a ta)(hb:QE X (.BoolOp .And (b::rest) pos) tb):QE X (.BoolOp .And (a::b::rest) pos) (Bu8 ta tb):=by
 obtain⟨hb⟩:=hb
 refine⟨?_⟩
 intro e s σ H Q I h
 refine BoolOp_and (thn (ha.1 _ s _ H _ I h) λv s1 ⟨x,i,f,g,d⟩=>?_)
 obtain⟨c,rfl,d⟩:=d
 cases g
 refine wpAny_truthy_bool ?_
 cases c with
 | true=>exact hb _ _ _ _ Q f d
 | false=>exact⟨.bl _,i,f,rfl,d⟩
theorem B0n (ha:QE X a ta):QE X (.UnaryOp .Not a pos) (Bv6 ta):=by
 refine⟨?_⟩
 intro d s σ H Q I h
 refine UnaryOp_ (thn (ha.1 _ s _ H _ I h) λv s1 ⟨x,f,g,e,b⟩=>?_)
 obtain⟨c,rfl,b⟩:=b
 cases e
 exact not_of (wpAny_truthy_bool ⟨.bl _,f,g,rfl,b⟩)
def tIf (t:TT)(ta tb:TE):TE:=λσ H Q=>t σ H λc H1=>if c=true then ta σ H1 Q else tb σ H1 Q
theorem K3 (hc:QT X c tA) (ha:QE X a ta) (hb:QE X b tb):QE X (.IfExp c a b pos) (tIf tA ta tb):=by
 obtain⟨ha⟩:=ha;obtain⟨hb⟩:=hb
 refine⟨?_⟩
 intro g s i H Q I h
 refine wpAny_IfExp (thn (hc.1 _ s _ H _ I h) λd k ⟨j,f,e⟩=>?_)
 cases d with
 | true=>exact ha _ _ _ _ Q f e
 | false=>exact hb _ _ _ _ Q f e
end
def SqL (K:v9)(H:Hp)(a:Addr)(xs:m8):Prop :=
 Rd H a (.lst xs) \/
  ∃(o:Obj) (its:v7) (n:Nat),K.lookup a=some o/\o.cls=.type "list" /\ o.dict=none/\o.data=.seq its n/\its.size<=sizeLine/\Vals xs its.toList
def SqT (K:v9)(H:Hp)(a:Addr)(xs:m8):Prop :=
 Rd H a (.tup xs) \/
  ∃(o:Obj) (its:v7) (n:Nat),K.lookup a=some o/\o.cls=.type "tuple" /\ o.data=.seq its n/\its.size<=sizeLine/\Vals xs its.toList
noncomputable def B6z:Value->Option V
 | .none=>some .non
 | .bool b=>some (.bl b)
 | .int i _=>some (.int i)
 | .str x _=>some (.str x)
 | .bytes b _=>some (.byt b)
 | .float b _=>some (.flt b)
 | .ref a=>some (.ref a)
 | .type n=>some (.ty n)
 | _=>none
theorem RelV.abs (r:RelV x u):B6z u=some x:=by
 cases x with
 | non=>cases r;rfl
 | bl _=>cases r;rfl
 | int _=>obtain⟨t,rfl⟩:=r;rfl
 | str _=>obtain⟨t,rfl⟩:=r;rfl
 | byt _=>obtain⟨t,rfl⟩:=r;rfl
 | flt _=>obtain⟨t,rfl⟩:=r;rfl
 | ref _=>cases r;rfl
 | ty _=>cases r;rfl
theorem RelV.inj (r:RelV x u) (q:RelV y u):x=y:=bV (r.abs.symm.trans q.abs)
theorem Vals.inj:∀{xs ys:m8}{us:w6},Vals xs us->Vals ys us->xs=ys
 | _,_,_,.nil,.nil=>rfl
 | _,_,_,.cons r t,.cons r' t'=>by rw[r.inj r',Vals.inj t t']
section
variable {X:Cx}{pins:y_}{σ:St}{H:Hp}{s:u_}{a:Addr}{xs ys:m8}
theorem SqL.of {K:v9}(h:H a=some (.lst xs)):SqL K H a xs:=.inl (.inl h)
theorem SqT.of {K:v9}(h:H a=some (.tup xs)):SqT K H a xs:=.inl (.inl h)
theorem Inv.list (I:Inv X pins σ H s)(h:SqL X.K H a xs):∃b:w6,Vals xs b/\PlainL s.heap a b.toArray/\xs.length<=sizeLine:=by
 rcases h with h | ⟨o,b,n,d,c,f,i,g,r⟩
 ·obtain⟨z,b,n,r,e⟩:=h.ok I.hok
  exact⟨b,r,⟨_,n,e,rfl,rfl,rfl⟩,z⟩
 ·refine⟨b.toList,r,⟨o,n,I.kIn a o d,c,f,by trivial⟩,?_⟩
  have e:=r.length
  simp_all
theorem Inv.tuple (I:Inv X pins σ H s)(h:SqT X.K H a xs):∃b:w6,Vals xs b/\IsTup s.heap a b.toArray/\xs.length<=sizeLine:=by
 rcases h with h | ⟨o,b,n,d,c,g,f,r⟩
 ·obtain⟨z,b,r,p⟩:=h.ok I.hok
  exact⟨b,r,p.tup,z⟩
 ·refine⟨b.toList,r,⟨o,I.kIn a o d,c,n,by trivial⟩,?_⟩
  have e:=r.length
  simp_all
theorem Inv.list_inj (I:Inv X pins σ H s)(h:SqL X.K H a xs)(h':SqL X.K H a ys):xs=ys:=by
 obtain⟨c,r,⟨o,n,e,_,_,d⟩,_⟩:=I.list h;obtain⟨b,f,⟨i,j,k,_,_,g⟩,_⟩:=I.list h'
 have:c=b:=by simp_all
 subst this;exact r.inj f
theorem Inv.tuple_inj (I:Inv X pins σ H s)(h:SqT X.K H a xs)(h':SqT X.K H a ys):xs=ys:=by
 obtain⟨c,r,⟨o,e,_,n,d⟩,_⟩:=I.tuple h;obtain⟨b,f,⟨i,j,_,k,g⟩,_⟩:=I.tuple h'
 have:c=b:=by simp_all
 subst this;exact r.inj f
end
noncomputable abbrev Cx.wish (X:Cx) (E:z_):Cx:={ X with xe:=E }
abbrev Cx.nox (X:Cx):Cx:=X.wish λ_ _=>False
theorem Cx.Ok.wish {X:Cx}(a:X.Ok)(E:z_):(X.wish E).Ok :=
 ⟨a.mod,a.kind,a.glob,a.blt,a.above,a.inj,a.has,a.cab,a.hd,a.frames,a.stk,a.exf,a.bs,a.bsz,a.noex,a.exfs,a.funs,a.frf,a.tab⟩
theorem Cx.Ok.unwish {X:Cx} (a:(X.wish E).Ok):X.Ok :=
 ⟨a.mod,a.kind,a.glob,a.blt,a.above,a.inj,a.has,a.cab,a.hd,a.frames,a.stk,a.exf,a.bs,a.bsz,a.noex,a.exfs,a.funs,a.frf,a.tab⟩
section
variable {X:Cx}{pins:y_}{σ:St}{H:Hp}{s:u_}{E:z_}
theorem Inv.wish (I:Inv X pins σ H s)(E:z_):Inv (X.wish E) pins σ H s:=⟨I.ok.wish E,I.os,I.bare,I.base,I.loc,I.cell,I.free,I.freeC,I.pin,I.hok,I.len⟩
theorem Inv.unwish (I:Inv (X.wish E) pins σ H s):Inv X pins σ H s:=⟨I.ok.unwish,I.os,I.bare,I.base,I.loc,I.cell,I.free,I.freeC,I.pin,I.hok,I.len⟩
theorem SP.unwish (h:SP (X.wish E) pins D f s'):SP X pins D f s':=by
 cases f with
 | next=>obtain⟨a,b,I,q⟩:=h;exact⟨a,b,I.unwish,q⟩
 | brk=>obtain⟨a,b,I,q⟩:=h;exact⟨a,b,I.unwish,q⟩
 | cont=>obtain⟨a,b,I,q⟩:=h;exact⟨a,b,I.unwish,q⟩
 | ret u=>obtain⟨v,a,b,I,r,q⟩:=h;exact⟨v,a,b,I.unwish,r,q⟩
theorem PSs.nox {st:List Stmt} (h:PSs X.nox st t):PSs X st t:=λa s c H D I b =>
 wpAny_mono (h _ s _ H D (I.wish _) b) (λ_ _ q=>q.unwish) λ_ _ z=>False.elim z
end
section
variable {X:Cx}{st:Stmt}{rest:List Stmt}{t u:TS}{e:Expr}{te:TE}{pos:Pos}
def A8h:TS:=λD σ H=>D.nx σ H
def A4j (t u:TS):TS:=λD σ H=>t { D with nx:=u D } σ H
theorem Bj3:PSs X [] A8h:=λ_ _ a H _ I h=>wpAny_execs_nil ⟨a,H,I,h⟩
theorem Ae (h1:QS X st t)(h2:QSs X rest u):QSs X (st::rest) (A4j t u):=by
 obtain⟨h2⟩:=h2
 refine⟨?_⟩
 intro a s d H D I h
 refine wpAny_execs_cons (thn (h1.1 _ s _ H _ I h) λf e q=>?_)
 cases f with
 | next =>
  obtain⟨c,g,b,q⟩:=q;exact h2 _ _ _ _ D b q
 | ret v=>exact q
 | brk=>exact q
 | cont=>exact q
theorem A1f (h1:PS X st t):PSs X [st] t:=by
 intro a s c H D I h
 refine wpAny_execs_cons (thn (h1 _ s _ H D I h) λf b q=>?_)
 cases f with
 | next=>exact wpAny_execs_nil q
 | ret v=>grind
 | brk=>grind
 | cont=>grind
theorem Inv.quiet (I:Inv X pins a H s):interactive X.env=false:=by simp[interactive,I.ok.kind]
def A8j (te:TE):TS:=λD σ H=>te σ H λ_ H1=>D.nx σ H1
theorem Iu (he:QE X e te)(hs:swapsWith e none pos.line X.env=pure false:=by rfl):QS X (.Expr e pos) (A8j te):=by
 refine⟨?_⟩
 intro a s c H D I h
 exact wpAny_Expr_any (thn (he.1 _ s _ H _ I h) λv g ⟨x,f,d,i,b⟩=>⟨c,f,d,b⟩) I.quiet hs
def Bq2 (te:TE):TS:=λD σ H=>te σ H D.rt
theorem Aw (he:QE X e te):QS X (.Return (some e) pos) (Bq2 te):=by
 refine⟨?_⟩
 intro a s c H D I h
 exact wpAny_Return_some (thn (he.1 _ s _ H _ I h) λv i ⟨x,f,d,g,b⟩=>⟨x,c,f,d,g,b⟩)
def Bw0 (c:TT)(t u:TS):TS:=λD σ H=>c σ H λb H1=>if b=true then t D σ H1 else u D σ H1
theorem Ck (hc:QT X c f) (ha:QSs X a t) (hb:QSs X b u):QS X (.If c a b pos) (Bw0 f t u):=by
 obtain⟨ha⟩:=ha;obtain⟨hb⟩:=hb
 refine⟨?_⟩
 intro i s j H D I h
 refine wpAny_If (thn (hc.1 _ s _ H _ I h) λd l ⟨k,g,e⟩=>?_)
 cases d with
 | true=>exact ha _ _ _ _ D g e
 | false=>exact hb _ _ _ _ D g e
def Av4:TS:=λ_ _ _=>False
theorem A8u:PS X st Av4:=λ_ _ _ _ _ _ h=>h.elim
end
abbrev TG:=V->St->Hp->(St->Hp->Prop)->Prop
abbrev TGs:=m8->St->Hp->(St->Hp->Prop)->Prop
def PG (X:Cx)(target:Expr)(t:TG):Prop :=
 ∀
  (pins:y_) (s:u_) (σ:St) (H:Hp) (v:V) (u:Value) (Q:St->Hp->Prop),Inv X pins σ H s->RelV v u->t v σ H Q ->
  wpAny (model X.prog X.w) X.A (assign target X.env u) (λ_ s'=>∃σ' H',Inv X pins σ' H' s'/\Q σ' H') X.xe s
structure QG (X:Cx) (e:Expr) (t:TG):Prop where
 get:PG X e t
def PGs (X:Cx)(ts:v_)(t:TGs):Prop :=
 ∀
  (pins:y_) (s:u_) (σ:St) (H:Hp) (vs:m8) (us:w6) (Q:St->Hp->Prop),Inv X pins σ H s->Vals vs us->t vs σ H Q ->
  wpAny (model X.prog X.w) X.A (assignInOrder ((assignEach ts X.env).map (·.2)) us) (λ_ s'=>∃σ' H',Inv X pins σ' H' s'/\Q σ' H') X.xe s
structure QGs (X:Cx) (e:(v_)) (t:TGs):Prop where
 get:PGs X e t
abbrev B6d:=V->V->V->Hp->(Hp->Prop)->Prop
def B6i (X:Cx)(t:B6d):Prop :=
 ∀
  (pins:y_) (s:u_) (σ:St) (H:Hp) (o i v:V) (ov iv u:Value) (Q:Hp->Prop),Inv X pins σ H s->RelV o ov->RelV i iv->RelV v u->t o i v H Q ->
  wpAny (model X.prog X.w) X.A (setItem ov iv u) (λ_ s'=>∃H',Inv X pins σ H' s'/\Q H') X.xe s
section
variable {X:Cx}{pos:Pos}
def J5 (i:Nat):TG:=λv σ H Q=>Q (σ.set i (some v)) H
theorem Ba (hN:X.N.Nodup) (hi:X.N[i]?=some x:=by exact rfl) (hx:Loc X.env.scope x:=by first | exact Or.inl rfl | exact Or.inr rfl) (hf:X.fn x=true\/X.env.scope.names.lookup x=some .local:=by first | exact .inl rfl | exact .inr rfl | assumption):QG X (.Name x pos) (J5 i):=by
 refine⟨?_⟩
 intro a s c H v u Q I r h
 exact wpAny_assign_Name (Gw I hN hi hx r (λd b=>⟨_,H,b,h⟩) hf)
noncomputable def Bs0:TGs:=λvs σ H Q=>vs=[]/\Q σ H
noncomputable def Yu (t:TG) (u:TGs):TGs:=λvs σ H Q=>∃v r,vs=v::r/\t v σ H λσ' H'=>u r σ' H' Q
theorem Iz:QGs X [] Bs0:=by
 refine⟨?_⟩
 intro a s b H d c Q I r h;obtain⟨e,h⟩:=h;exact assignInOrder_nil ⟨b,H,I,h⟩
theorem Cv (h1:QG X e t) (h2:QGs X es u)
 (hs:(assignEach (e::es) X.env).map (·.2)=assign e X.env::(assignEach es X.env).map (·.2):=by rfl):QGs X (e::es) (Yu t u):=by
 obtain⟨h2⟩:=h2
 refine⟨?_⟩
 intro a s i H j n Q I r h;obtain⟨v,l,f,h⟩:=h;subst f
 cases r with
 | cons r d =>
  rw[hs]
  refine assignInOrder_cons (thn (h1.1 _ s _ H _ _ _ I r h) λ_ k ⟨c,m,g,b⟩=>?_)
  exact h2 _ _ _ _ _ _ Q g d b
def A9m (K:v9)(n:Nat)(t:TGs):TG:=λv σ H Q=>∃a xs,v=.ref a/\SqT K H a xs/\xs.length=n/\t xs σ H Q
theorem B0t {k:Nat} (hc:X.calm=true) (h:PGs X es t)
 (hn:(assignEach es X.env).length=n:=by rfl) (hst:(assignEach es X.env).findIdx? (·.1)=none:=by rfl):PG X (.Tuple es k pos) (A9m X.K n t):=by
 intro d s x H v u Q I r c;obtain⟨a,y,j,l,m,c⟩:=c;subst j
 cases r
 obtain⟨g,i,q,z⟩:=I.tuple l
 refine assign_Tuple_tuple (I.ok.hd hc) q (by simp[hn,<- m,i.length]) hst λp w=>?_
 have f:Inv X _ _ H { s with heap:=p }:=I.kept λb o e=>w b o (aD (Heap.lt_size e)) e
 exact h _ _ _ H _ _ Q f (by trivial) c
def B4c (to ti:TE)(t:B6d):TG:=λv σ H Q=>to σ H λo H1=>ti σ H1 λi H2=>t o i v H2 λH3=>Q σ H3
theorem A8v (ho:QE X o e) (hi:QE X i d) (hs:B6i X t)
 (ha:∀v,assign (.Subscript o i pos) X.env v=(do
  let a <- holding [v] (eval o X.env)
  let b <- holding [v,a] (eval i X.env)
  standAt pos
  holding [v,a,b] (setItem a b v)
  release [v,a,b] []):=by intro _;rfl):QG X (.Subscript o i pos) (B4c e d t):=by
 refine⟨?_⟩
 intro c s m H v u Q I r h;rw[ha]
 refine wpAny_bind (wpAny_holding (thn (ho.1 _ s _ H _ I h) λa z ⟨x,C,j,k,l⟩=>?_))
 refine wpAny_bind (wpAny_holding (thn (hi.1 _ _ _ _ _ j l) λb D ⟨y,A,g,p,n⟩=>?_))
 refine wpAny_bind (wpAny_standAt (wpAny_bind (wpAny_holding (thn (hs _ _ _ _ x y v _ _ u _ g k p r n) λ_ B ⟨q,w,f⟩=>?_))))
 exact wpAny_release ⟨m,q,w,f⟩
def Ym (te:TE)(g:TG):TS:=λD σ H=>te σ H λx H1=>g x σ H1 D.nx
theorem Aw1 (he:QE X e b) (hg:QG X a g) (hs:swapsWithSole [a] e pos.line X.env=pure false:=by rfl) (hw:swappedStores [a] e X.env=pure none:=by rfl)
 (h1:(assignEach [a] X.env).map (·.2)=[assign a X.env]:=by rfl):QS X (.Assign [a] e pos) (Ym b g):=by
 refine⟨?_⟩
 intro c s k H D I h
 refine wpAny_Assign_stores (thn (he.1 _ s _ H _ I h) λv l ⟨x,m,d,i,f⟩=>?_) hs hw
 rw[h1]
 exact thn (hg.1 _ _ _ _ x v _ d i f) λ_ j q=>q
theorem A9h (hN:X.N.Nodup) (hi:X.N[i]?=some x) (hx:Loc X.env.scope x) (he:PE X e b) (hs:swapsWith e (some (.Name x a)) pos.line X.env=pure false:=by rfl) (hf:X.fn x=true\/X.env.scope.names.lookup x=some .local:=by first | exact .inl rfl | exact .inr rfl | assumption) :
 PS X (.Assign [.Name x a] e pos) (Ym b (J5 i)):=by
 intro c s l H D I h
 refine wpAny_Assign_Name (thn (he _ s _ H _ I h) λv m ⟨y,j,f,g,k⟩=>?_) hs
 exact Gw f hN hi hx g (λn d=>⟨_,j,d,k⟩) hf
def B4j (i j:Nat)(ta:TA):TS:=λD σ H=>ta σ H λvs H1=>∃v w,vs=[v,w]/\D.nx ((σ.set i (some v)).set j (some w)) H1
theorem Bz8 (hc:X.calm=true) (hN:X.N.Nodup) (hi:X.N[i]?=some x) (hj:X.N[j]?=some y) (hij:i≠j)
 (hx:X.env.scope.names.lookup x=some .local) (hy:X.env.scope.names.lookup y=some .local) (ha:QA X [a,b] C)
 (hw:swappedStores [.Tuple [.Name x m,.Name y r] n t] (.Tuple [a,b] k2 d) X.env=pure (some [x,y]))
 (hs:swapsWithSole [.Tuple [.Name x m,.Name y r] n t] (.Tuple [a,b] k2 d) pos.line X.env=pure false:=by rfl) :
 QS X (.Assign [.Tuple [.Name x m,.Name y r] n t] (.Tuple [a,b] k2 d) pos) (B4j i j C):=by
 refine⟨?_⟩
 intro c s B H D I h;rw[exec_Assign_arm]
 refine wpAny_bind (wpAny_standAt ?_)
 rw[hs]
 refine wpAny_bind (wpAny_pure ?_)
 rw[if_neg (by decide)]
 refine wpAny_bind (Tuple_ (thn (ha.1 _ c s B H _ I h) λL f ⟨vs,E,M,F,l⟩=>?_))
 obtain⟨v,w,G,l⟩:=l;subst G
 obtain⟨k,g,rfl,K,u⟩:∃k g,L=[k,g]/\RelV v k/\RelV w g:=by
  cases F with
  | cons p q =>
   cases q with
   | cons p' O =>
    cases O
    grind
 refine wpAny_newObj_type ?_ (by show 2<=sizeLine;decide)
 have J:Inv X c B E { f with heap:=f.heap.push { cls:=.type "tuple",data:=.seq [k,g].toArray } }:=M.kept (t':=f.toks) λb o e=>Heap.get?_push_of_some _ e
 rw[hw]
 refine wpAny_bind (wpAny_pure ?_)
 show wpAny (model X.prog X.w) X.A (do rule "assign.swapped-stores";let items <- unpackItems (.ref f.heap.objs.size) 2 none;assignInOrder [λv=>bindName X.env y v,λv=>bindName X.env x v] items.reverse;pure Flow.next) _ _ _
 refine wpAny_bind (wpAny_rule (wpAny_bind (unpackItems_tuple (items:=#[k,g]) (I.ok.hd hc) (IsTup.new _ _) λh' z=>?_)))
 refine wpAny_bind (assignInOrder_cons (wpAny_bindName (Gw (J.kept (t':=f.toks) λb o e=>z b o (aD (Heap.lt_size e)) e) hN hj (.inl hy) u (λs2 N=>?_) (.inr hy))))
 refine assignInOrder_cons (wpAny_bindName (Gw N hN hi (.inl hx) K (λs3 A=>assignInOrder_nil (wpAny_pure ?_)) (.inr hx)))
 rw[dU _ _ (aC hij)]at A;exact⟨_,E,A,l⟩
end
structure It where
 go:Nat->Hp->Prop
 yld:Nat->Hp->V->Hp->Prop
 stop:Nat->Hp->Prop
def Nm (X:Cx)(pins:y_)(H:Hp)(b:Addr):Prop :=
 H b=none/\b≠X.env.locals/\b∉X.fs/\(b∈X.ex\/X.s₀.heap.objs.size<=b)/\(∀x c,X.env.cells.lookup x=some c->c≠b)/\∀p∈X.pn++pins,p.1≠b
theorem Inv.fpOk (I:Inv X pins d H s) (hb:s.heap.objs.size<=b) (hn:H' b=none):Nm X pins H' b:=by
 refine⟨hn,bw (aA I.lt hb),I.nofs hb,.inr (aj I.sz hb),λx c e z=>?_,λp a z=>?_⟩
 ·obtain⟨v,q⟩:=I.cell x c e
  exact absurd (aA q.lt (by simp_all)) (aY _)
 ·exact absurd (aA (Heap.lt_size (I.pin p a).1) (by simp_all)) (aY _)
structure Turn (P:u6) (w:World) (K:v9) (tg:Expr) (J:It) (fp:v6) (it:Addr) (tn:Nat->Heap->Prop):Prop where
 mem:it∈fp
 obj:∀i h,tn i h->∀b∈fp,∃o,h.get? b=some o/\∀v,o.data≠.cell v
 keep:∀i h h',tn i h->(∀b∈fp,∀o,h.get? b=some o->h'.get? b=some o)->tn i h'
 item:∀(X:Cx),X.prog=P->X.w=w->X.K=K->X.calm=true->∀(i:Nat) (pins:y_) (s:u_) (σ:St) (H:Hp) (E:z_),Inv X pins σ H s->(∀b∈fp,Nm X pins H b)->tn i s.heap->J.go i H ->
  wpAny (model P w) X.A (pyNext (.ref it)) (λr s1=>∃u,r=some u /\
   wpAny (model P w) X.A (letOwnedTupleGo tg (.ref it) u) (λ_ s2=>∃x H',Inv X pins σ H' s2/\RelV x u/\J.yld i H x H'/\tn (i+1) s2.heap/\∀b∈fp,H' b=none) E s1) E s
 done:∀(X:Cx),X.prog=P->X.w=w->X.K=K->X.calm=true->∀(i:Nat) (pins:y_) (s:u_) (σ:St) (H:Hp) (E:z_),Inv X pins σ H s->(∀b∈fp,Nm X pins H b)->tn i s.heap->J.stop i H ->
  wpAny (model P w) X.A (pyNext (.ref it)) (λr s1=>r=none/\Inv X pins σ H s1) E s
 self:∀(A:q9) (i:Nat) (s:u_) (Q:z_) (E:z_),tn i s.heap->Q (.ref it) s->wpAny (model P w) A (pyIter (.ref it)) Q E s
abbrev TI:=St->Hp->(It->Hp->Prop)->Prop
def PIE (X:Cx)(pins:y_)(σ:St)(tg:Expr)(R:It->Hp->Prop)(itv:Value)(s2:u_):Prop :=
 ∃(it:Addr) (fp:v6) (tn:Nat->Heap->Prop) (J:It) (H':Hp),itv=.ref it/\Inv X pins σ H' s2/\Turn X.prog X.w X.K tg J fp it tn/\tn 0 s2.heap/\(∀b∈fp,Nm X pins H' b)/\R J H'
def PI (X:Cx)(tg iter:Expr)(wi:TI):Prop :=
 ∀
  (pins:y_) (s:u_) (σ:St) (H:Hp) (R:It->Hp->Prop),Inv X pins σ H s->wi σ H R ->
  wpAny (model X.prog X.w) X.A (eval iter X.env) (λv s1=>wpAny (model X.prog X.w) X.A (pyIter v) (PIE X pins σ tg R) X.xe s1) X.xe s
structure QI (X:Cx) (tg iter:Expr) (wi:TI):Prop where
 get:PI X tg iter wi
theorem Bb9 (ho:s.heap.get? it=some o) (hc:o.cls=.type n) (hd:o.data=.fields vs)
 (hn:["enumerate", "zip", "dict_itemiterator", "dict_reverseitemiterator", "odict_iterator", "itertools.zip_longest", "itertools.pairwise"].contains n=false) (a:Q () s):wpAny M A (letOwnedTupleGo b (.ref it) u) Q E s:=by
 cases b <;> first
  | exact wpAny_pure a
  | (cases u <;> first
   | exact wpAny_pure a
   | (
    refine wpAny_bind (wpAny_load ho ?_)
    rw[hc,hd]
    show wpAny M A (if (["enumerate", "zip", "dict_itemiterator", "dict_reverseitemiterator", "odict_iterator", "itertools.zip_longest", "itertools.pairwise"].contains n&&vs[0]?==some _)=true then _ else _) Q E s
    rw[if_neg (by intro h;rw[hn]at h;cases h)]
    exact wpAny_pure a))
noncomputable def Itl (K:v9) (a:Addr):It :=
 ⟨λi H=>∃xs x,SqL K H a xs/\xs[i]?=some x,λi H x H'=>H'=H/\∀xs,SqL K H a xs->xs[i]?=some x,λi H=>∃xs,SqL K H a xs/\xs.length<=i⟩
noncomputable def Itt (K:v9) (a:Addr):It :=
 ⟨λi H=>∃xs x,SqT K H a xs/\xs[i]?=some x,λi H x H'=>H'=H/\∀xs,SqT K H a xs->xs[i]?=some x,λi H=>∃xs,SqT K H a xs/\xs.length<=i⟩
noncomputable def Itr (lo:Int) (n:Nat):It:=⟨λi _=>i<n,λi H x H'=>H'=H/\x=.int (lo+i),λi _=>n<=i⟩
theorem A3w {P:u6}{w:World}{K:v9}{tg:Expr}(a it:Addr):Turn P w K tg (Itl K a) [it] it (λi h=>h.IsListIter it a i) where
 mem:=by simp
 obj:=λi h st b hb=>by
  have e:b=it:=by simpa using hb
  subst e;obtain⟨o,e,c,d⟩:=st
  exact⟨o,e,λv z=>by rw[d]at z;cases z⟩
 keep:=λi h h' st k=>st.at λo e=>k it (by simp) o e
 item:=by
  intro X hP hw hK hc i pins s σ H E I hf st hg;subst hP hw hK;obtain⟨xs,x,hq,hx⟩:=hg;obtain⟨its,rv,p,hz⟩:=I.list hq;obtain⟨u,hu,ru⟩:=rv.get hx
  obtain⟨f0,f1,f2,f3,f4,f5⟩:=hf it (by simp)
  refine wpAny_pyNext_list_item st p.isList (x:=u) (by simpa using hu) λh' st' sb=>?_
  have I1:Inv X pins σ H { s with heap:=h' }:=I.turned (t':=s.toks) (λb o hb e=>(sb.2 b hb).trans e) f0 f1 f3 f4 f5
  obtain⟨o,e,c,d⟩:=id st'
  exact⟨u,rfl,Bb9 (s:={ s with heap:=h' }) e c d (by decide) ⟨x,H,I1,ru,⟨rfl,λys hy=>by rw[I.list_inj hy hq];exact hx⟩,st',λb hb=>(hf b hb).1⟩⟩
 done:=by
  intro X hP hw hK hc i pins s σ H E I hf st hg;subst hP hw hK;obtain⟨xs,hq,hx⟩:=hg;obtain⟨its,rv,p,hz⟩:=I.list hq
  obtain⟨f0,f1,f2,f3,f4,f5⟩:=hf it (by simp)
  have hl:=rv.length
  exact wpAny_pyNext_list_end (I.ok.hd hc) st p.isList (by simp;lia) λh' eb=>⟨rfl,I.turned (t':=s.toks) (λb o hb e=>eb b o hb e) f0 f1 f3 f4 f5⟩
 self:=λ_ _ _ _ _ st h=>wpAny_pyIter_listiter st h
theorem Av7 {P:u6}{w:World}{K:v9}{tg:Expr}(a it:Addr):Turn P w K tg (Itt K a) [it] it (λi h=>h.IsTupleIter it a i) where
 mem:=by simp
 obj:=λi h st b hb=>by
  have e:b=it:=by simpa using hb
  subst e;obtain⟨o,e,c,d⟩:=st
  exact⟨o,e,λv z=>by rw[d]at z;cases z⟩
 keep:=λi h h' st k=>st.at λo e=>k it (by simp) o e
 item:=by
  intro X hP hw hK hc i pins s σ H E I hf st hg;subst hP hw hK;obtain⟨xs,x,hq,hx⟩:=hg;obtain⟨its,rv,p,hz⟩:=I.tuple hq;obtain⟨u,hu,ru⟩:=rv.get hx
  obtain⟨f0,f1,f2,f3,f4,f5⟩:=hf it (by simp)
  refine wpAny_pyNext_tuple_item st (show s.heap.IsTuple a its.toArray from p) (x:=u) (by simpa using hu) λh' st' sb=>?_
  have I1:Inv X pins σ H { s with heap:=h' }:=I.turned (t':=s.toks) (λb o hb e=>(sb.2 b hb).trans e) f0 f1 f3 f4 f5
  obtain⟨o,e,c,d⟩:=id st'
  exact⟨u,rfl,Bb9 (s:={ s with heap:=h' }) e c d (by decide) ⟨x,H,I1,ru,⟨rfl,λys hy=>by rw[I.tuple_inj hy hq];exact hx⟩,st',λb hb=>(hf b hb).1⟩⟩
 done:=by
  intro X hP hw hK hc i pins s σ H E I hf st hg;subst hP hw hK;obtain⟨xs,hq,hx⟩:=hg;obtain⟨its,rv,p,hz⟩:=I.tuple hq
  obtain⟨f0,f1,f2,f3,f4,f5⟩:=hf it (by simp)
  have hl:=rv.length
  exact wpAny_pyNext_tuple_end (I.ok.hd hc) st (show s.heap.IsTuple a its.toArray from p) (by simp;lia) λh' eb=>⟨rfl,I.turned (t':=s.toks) (λb o hb e=>eb b o hb e) f0 f1 f3 f4 f5⟩
 self:=λ_ _ _ _ _ st h=>wpAny_pyIter_tupleiter st h
theorem Aq7 {P:u6}{w:World}{K:v9}{tg:Expr}(it:Addr)(lo:Int)(n:Nat):Turn P w K tg (Itr lo n) [it] it (λi h=>IsRangeIter h it (lo+(i:Nat)*1) ((n:Int)-(i:Nat)) 1) where
 mem:=by simp
 obj:=λi h st b hb=>by
  have e:b=it:=by simpa using hb
  subst e
  exact⟨_,st,λv z=>by
   have z':Data.fields _=Data.cell v:=z
   cases z'⟩
 keep:=λi h h' st k=>k it (by simp) _ st
 item:=by
  intro X hP hw hK hc i pins s σ H E I hf st hg;subst hP hw hK
  obtain⟨f0,f1,f2,f3,f4,f5⟩:=hf it (by simp)
  have W:=Walks.range (prog:=X.prog) (w:=X.w) (I.ok.hd hc) it lo 1 n
  refine W.item i s _ _ hg st λv h' tk hv st' kk=>?_
  obtain⟨t,rfl⟩:=hv
  have I1:Inv X pins σ H { s with heap:=h',toks:=tk }:=I.turned (λb o hb e=>kk b o (by simpa using hb) e) f0 f1 f3 f4 f5
  refine⟨_,rfl,Bb9 (s:={ s with heap:=h',toks:=tk }) (n := "range_iterator") st' rfl rfl (by decide) ⟨.int (lo+i),H,I1,⟨t,?_⟩,⟨rfl,rfl⟩,st',λb hb=>(hf b hb).1⟩⟩
  rw[Int.mul_one]
 done:=by
  intro X hP hw hK hc i pins s σ H E I hf st hg;subst hP hw hK
  obtain⟨f0,f1,f2,f3,f4,f5⟩:=hf it (by simp)
  exact wpAny_pyNext_range_end (I.ok.hd hc) st (by have:n<=i:=hg;lia) λh' eb=>⟨rfl,I.turned (t':=s.toks) (λb o hb e=>eb b o hb e) f0 f1 f3 f4 f5⟩
 self:=λ_ _ _ _ _ st h=>wpAny_pyIter_rangeiter st h
section
variable {X:Cx}{tg:Expr}
theorem Ba6 {lo hi:Int} (I:Inv X pins c H s) (h1:-(2 ^ 62)<=lo) (h2:lo<2 ^ 62) (d:-(2 ^ 62)<=hi) (f:hi<2 ^ 62)
 (q:R (Itr lo (hi-lo).toNat) H):wpAny (model X.prog X.w) X.A (pyIter (.ref s.heap.objs.size)) (PIE X pins c tg R) E { s with heap:=s.heap.push { cls:=.type "range",data:=.fields #[.int lo t,.int hi u,.int 1 v] },toks:=tk }:=by
 refine wpAny_pyIter_range (IsRange.new ..) (small_one h1 h2 d f) ?_
 have a:Inv X _ _ H { s with heap:=s.heap.push { cls:=.type "range",data:=.fields #[.int lo t,.int hi u,.int 1 v] },toks:=tk }:=I.kept λb o e=>Heap.get?_push_of_some _ e
 refine⟨(s.heap.push _).objs.size,[(s.heap.push _).objs.size],_,_,H,rfl,
  a.kept λb o e=>Heap.get?_push_of_some _ e,Aq7 _ _ _,?_,λb i=>?_,q⟩
 ·have h:lo+((0:Nat))*1=lo:=by simp
  have g:(((hi-lo).toNat):Int)-((0:Nat))=Builtin.Range.rangeSize lo hi 1:=by rw[rangeSize_one];grind
  rw[h,g];exact Heap.get?_push_size _ rfl
 ·have e:b=(s.heap.push { cls:=.type "range",data:=.fields #[.int lo t,.int hi u,.int 1 v] }).objs.size:=by grind
  subst e;exact a.fpOk (ak _) (a.hok.fresh (ak _))
def Bs8 (ta:TA):TI:=λσ H R=>ta σ H λvs H1=>∃j:Int,vs=[.int j]/\-(2 ^ 62)<=j/\j<2 ^ 62/\R (Itr 0 j.toNat) H1
theorem Hd (hg:Gl X "range") (hm:X.mg "range" = none) (ha:QA X [a] d) (hs:starEach [a] X.env=[(false,eval a X.env)]:=by rfl):QI X tg (.Call (.Name "range" p) [a] [] b) (Bs8 d):=by
 refine⟨?_⟩
 intro f s σ H R I h
 refine Call_ (Kl I hg hm boot_range (dF (thn (ha.1 _ _ s _ H _ I h) λus s1 ⟨vs,H1,g,i,c⟩=>?_) hs rfl))
 obtain⟨j,e,c,k,q⟩:=c;subst e
 cases i with
 | cons r l =>
  cases l
  obtain⟨t,rfl⟩:=r
  exact call_range_1 (Ba6 g (by lia) (by lia) c k (by grind))
def Bj5 (wi:TI)(g:TG)(tb:TS):TS:=λD σ H=>wi σ H λJ H1=>∃W:Nat->Nat->St->Hp->Prop,(∃m,W 0 m σ H1)/\∀i m σ H,W i m σ H ->
 (J.stop i H/\D.nx σ H)\/(J.go i H/\∃N:St->Hp->Prop,(∀σ' H',N σ' H'->∃m',m'<m/\W (i+1) m' σ' H')/\∀x H',J.yld i H x H'->g x σ H' λσ2 H2=>tb { D with nx:=N,ct:=N,bk:=D.nx } σ2 H2)
noncomputable def Xl (fp:v6) (h:Heap):y_:=fp.filterMap λb=>(h.get? b).map λo=>(b,o)
theorem Ml (hb:b∈fp) (e:h.get? b=some o):(b,o)∈Xl fp h:=bW.mpr ⟨b,hb,by grind⟩
theorem A4t (hp:p∈Xl fp h):p.1∈fp/\h.get? p.1=some p.2:=by
 obtain⟨b,a,e⟩:=bW.mp hp
 cases q:h.get? b with
 | none=>simp_all
 | some o =>
  grind
theorem Inv.pinned (I:Inv X pins a H s) (hf:∀b∈fp,Nm X pins H b) (ho:∀b∈fp,∃o,s.heap.get? b=some o/\∀v,o.data≠.cell v):Inv X (pins++Xl fp s.heap) a H s :=
 I.pins_of λp d=>(aX.mp d).elim (λz=>I.pin p (aq _ z)) λz=>by
  obtain⟨c,e⟩:=A4t z;obtain⟨g,h,f,_⟩:=hf _ c
  grind
theorem Inv.unpinned (I:Inv X (pins++pl) a H s):Inv X pins a H s:=I.pins_of λp b=>I.pin p (aq _ (aZ _ b))
theorem Ma (hp:PassesOwn (model X.prog X.w) X.A X.env X.xe) (hc:X.calm=true) (hi:QI X tg p Z) (hg:QG X tg g) (hb:QSs X body tb)
 (hs:∀x,foldedSetIterable p X.env x=pure x:=by intro _;rfl):QS X (.For tg p body [] P) (Bj5 Z g tb):=by
 obtain⟨hb⟩:=hb
 refine⟨?_⟩
 intro a s σ H D I h
 refine wpAny_For (thn (hi.1 a s σ H _ I h) λv s1 h1=>thn h1 λitv s2 h2=>?_) hs
 obtain⟨it,C,tn,J,H2,e,I2,T,Q,Y,W,⟨m0,w0⟩,E⟩:=h2;subst e
 have k:∀{t:Hp},(∀b∈C,t b=none)->∀b∈C,Nm X a t b:=λhn b hb=>⟨hn b hb,(Y b hb).2⟩
 refine codeAny_forLoop_any (λn U=>∃i σ' t,Inv X a σ' t U/\tn i U.heap/\(∀b∈C,t b=none)/\W i n σ' t) ?_ m0 ⟨0,σ,H2,I2,Q,λb hb=>(Y b hb).1,w0⟩
 rintro n V ⟨i,j,L,I3,B,F,w3⟩
 rcases E i n j L w3 with ⟨A,qn⟩ | ⟨go,N,hN,K⟩
 ·refine wpAny_passesOwn hp (thn (T.done X rfl rfl rfl hc i a V j L X.xe I3 (k F) B A) λr s4 ⟨M,I4⟩=>?_)
  subst M;exact wpAny_execs_nil ⟨j,L,I4,qn⟩
 ·refine wpAny_passesOwn hp (thn (T.item X rfl rfl rfl hc i a V j L X.xe I3 (k F) B go) λr s4 ⟨u,M,h4⟩=>?_)
  subst M
  refine wpAny_passesOwn hp (thn h4 λ_ s5 ⟨x,S,I5,r5,y5,z,O⟩=>?_)
  refine wpAny_passesOwn hp (thn (hg.1 _ s5 j S x u _ (I5.pinned (k O) (T.obj _ _ z)) r5 (K x S y5)) λ_ s6 ⟨R,H6,I6,q6⟩=>?_)
  refine wpAny_passesOwn hp (thn (hb _ s6 R H6 _ I6 q6) λf s7 y=>?_)
  have l:∀{c:St} {w:Hp},Inv X (a++Xl C s5.heap) c w s7->N c w->∃m,m<n/\∃i σ' t,Inv X a σ' t _/\tn i _/\(∀b∈C,t b=none)/\W i m σ' t:=λ{c w} q G=>by
   obtain⟨m',hm,w7⟩:=hN _ _ G
   refine⟨m',hm,i+1,c,w,q.unpinned,T.keep _ _ _ z λb hb o e=>(q.pin _ (aq _ (aq _ (Ml hb e)))).1,λb hb=>?_,w7⟩
   obtain⟨o,e,d⟩:=T.obj _ _ z b hb;exact(q.pin _ (aq _ (aq _ (Ml hb e)))).2.1
  cases f with
  | next=>obtain⟨c,w,q,G⟩:=y;exact l q G
  | cont=>obtain⟨c,w,q,G⟩:=y;exact l q G
  | brk=>obtain⟨c,w,q,y⟩:=y;exact⟨c,w,q.unpinned,y⟩
  | ret v=>obtain⟨x7,c,w,q,r7,y⟩:=y;exact⟨x7,c,w,q.unpinned,r7,y⟩
end
abbrev R2:=V->V->Hp->VK->Prop
def OpR (X:Cx)(f:Value->Value->Sem Value)(r:R2):Prop :=
 ∀
  (pins:y_) (s:u_) (σ:St) (H:Hp) (x y:V) (v u:Value) (Q:VK),Inv X pins σ H s->RelV x v->RelV y u->r x y H Q ->
  wpAny (model X.prog X.w) X.A (f v u) (EP X pins σ Q) X.xe s
def UnR (X:Cx)(f:Value->Sem Value)(r:V->Hp->VK->Prop):Prop :=
 ∀
  (pins:y_) (s:u_) (σ:St) (H:Hp) (x:V) (v:Value) (Q:VK),Inv X pins σ H s->RelV x v->r x H Q ->
  wpAny (model X.prog X.w) X.A (f v) (EP X pins σ Q) X.xe s
def zB (X:Cx)(f:Value)(r:m8->Hp->VK->Prop):Prop :=
 ∀
  (pins:y_) (s:u_) (σ:St) (H:Hp) (xs:m8) (us:w6) (Q:VK),Inv X pins σ H s->Vals xs us->r xs H Q ->
  wpAny (model X.prog X.w) X.A (call f us) (EP X pins σ Q) X.xe s
def tOp (r:R2)(ta tb:TE):TE:=λσ H Q=>ta σ H λx H1=>tb σ H1 λy H2=>r x y H2 Q
def tUn (r:V->Hp->VK->Prop)(ta:TE):TE:=λσ H Q=>ta σ H λx H1=>r x H1 Q
def rI (C:Int->Int->Prop)(g:Int->Int->V):R2:=λx y H Q=>∃i j,x=.int i/\y=.int j/\C i j/\Q (g i j) H
def rI0 (g:Int->Int->V):R2:=λx y H Q=>∃i j,x=.int i/\y=.int j/\Q (g i j) H
def rU (g:Int->V):V->Hp->VK->Prop:=λx H Q=>∃i,x=.int i/\Q (g i) H
section
variable {X:Cx}{a b c:Expr}{ta tb:TE}{pos:Pos}
theorem Bw2 (ha:PE X a ta)(hb:PE X b tb) {R:V->V->Hp->Prop}(I:Inv X pins g H s)
 (h:ta g H λx j=>tb g j λy c=>R x y c) {f:Value->Value->Sem Value}
 (hf:∀v u i x y c,Inv X pins g c i->RelV x v->RelV y u->R x y c->wpAny (model X.prog X.w) X.A (f v u) Q X.xe i) :
 wpAny (model X.prog X.w) X.A (eval a X.env) (λv d=>wpAny (model X.prog X.w) X.A (eval b X.env) (λu e=>wpAny (model X.prog X.w) X.A (f v u) Q X.xe e) X.xe d) X.xe s:=by
 refine thn (ha _ s _ H _ I h) λv o ⟨x,j,k,n,l⟩=>?_
 refine thn (hb _ _ _ _ _ k l) λu i ⟨y,c,p,q,m⟩=>?_
 grind
theorem Vc (ho:OpR X (binaryOp op) r) (ha:PE X a ta) (hb:PE X b tb):PE X (.BinOp a op b pos) (tOp r ta tb):=by
 intro c s g H Q I h
 exact wpAny_BinOp (Bw2 ha hb I h λv u i x y j f e d q=>ho _ _ _ _ x y v u Q f e d q)
theorem B4x (ho:UnR X (unaryOp op) r) (ha:PE X a ta):PE X (.UnaryOp op a pos) (tUn r ta):=by
 intro b s f H Q I h
 exact UnaryOp_ (thn (ha _ s _ H _ I h) λv g ⟨x,i,e,d,c⟩=>ho _ _ _ _ x v Q e d c)
theorem opI {g:Int->Int->Int}
 (a:∀(i j:Int) (t u:Tok) (s:u_) (Q:z_) (E:z_),C i j->Q (.int (g i j) s.toks) { s with toks:=s.toks+1 }->wpAny (model X.prog X.w) X.A (f (.int i t) (.int j u)) Q E s) :
 OpR X f (rI C λi j=>.int (g i j)):=by
 intro b s σ H x y v u Q I c e h;obtain⟨i,j,rfl,rfl,d,q⟩:=h;obtain⟨t,rfl⟩:=c;obtain⟨t',rfl⟩:=e;exact a i j t _ s _ _ d ⟨.int _,H,I.tok _,⟨_,rfl⟩,q⟩
theorem Yp {g:Int->Int->Int}
 (a:∀(i j:Int) (t u:Tok) (s:u_) (Q:z_) (E:z_),Q (.int (g i j) s.toks) { s with toks:=s.toks+1 }->wpAny (model X.prog X.w) X.A (f (.int i t) (.int j u)) Q E s) :
 OpR X f (rI0 λi j=>.int (g i j)):=by
 intro b s σ H x y v u Q I c d h;obtain⟨i,j,rfl,rfl,q⟩:=h;obtain⟨t,rfl⟩:=c;obtain⟨t',rfl⟩:=d;exact a i j t _ s _ _ ⟨.int _,H,I.tok _,⟨_,rfl⟩,q⟩
theorem Bx2 {g:Int->Int->Bool}
 (a:∀(i j:Int) (t u:Tok) (s:u_) (Q:z_) (E:z_),Q (.bool (g i j)) s->wpAny (model X.prog X.w) X.A (f (.int i t) (.int j u)) Q E s) :
 OpR X f (rI0 λi j=>.bl (g i j)):=by
 intro b s σ H x y v u Q I c d h;obtain⟨i,j,rfl,rfl,q⟩:=h;obtain⟨t,rfl⟩:=c;obtain⟨t',rfl⟩:=d;exact a i j t _ s _ _ ⟨.bl _,H,I,rfl,q⟩
def Bk0 (i j:Int):Prop:=0<j/\j<1073741824
def Bn4 (i j:Int):Prop:=0<=j/\j<=1000000/\i.natAbs<2 ^ 64
def CMul (i j:Int):Prop:=(-(2 ^ 64)<i/\i<2 ^ 64)\/(-(2 ^ 64)<j/\j<2 ^ 64)
theorem CMul.ok (h:CMul i j):IntMulOk i j:=by
 rcases h with ⟨b,a⟩ | ⟨b,a⟩
 ·exact .of_left (intBits_le_64 b a)
 ·exact .of_right (intBits_le_64 b a)
theorem B0r:OpR X (binaryOp .Add) (rI0 λi j=>.int (i+j)):=Yp λ_ _ _ _ _ _ _ q=>add_int q
theorem B3a:OpR X (binaryOp .Sub) (rI0 λi j=>.int (i-j)):=Yp λ_ _ _ _ _ _ _ q=>sub_int q
theorem B1p:OpR X (binaryOp .Mult) (rI CMul λi j=>.int (i*j)):=opI λ_ _ _ _ _ _ _ a q=>mul_int q a.ok
theorem Bp9:OpR X (binaryOp .FloorDiv) (rI Bk0 λi j=>.int (i / j)):=opI λi j _ _ _ _ _ a q=>by
 have c:(0:Int)<j:=a.1;have b:j<1073741824:=a.2
 exact floordiv_int (by lia) (by rw[Int.fdiv_eq_ediv_of_nonneg i (by lia)];exact q) (.inl (PyProof.noPylong_small (by lia)))
theorem B3e:OpR X (binaryOp .Mod) (rI (λ_ j=>0<j) λi j=>.int (i % j)):=opI λi j _ _ _ _ _ a q=>by
 have b:(0:Int)<j:=a
 exact mod_int' (by lia) (by rw[Int.fmod_eq_emod_of_nonneg i (by lia)];exact q)
theorem By2:OpR X (binaryOp .Pow) (rI Bn4 λi j=>.int (i ^ j.toNat)):=opI λ_ _ _ _ _ _ _ a q=>pow_int_small a.1 a.2.1 a.2.2 q
theorem unI {g:Int->Int}
 (a:∀(i:Int) (t:Tok) (s:u_) (Q:z_) (E:z_),Q (.int (g i) s.toks) { s with toks:=s.toks+1 }->wpAny (model X.prog X.w) X.A (f (.int i t)) Q E s) :
 UnR X f (rU λi=>.int (g i)):=by
 intro b s σ H x v Q I c h;obtain⟨i,rfl,q⟩:=h;obtain⟨t,rfl⟩:=c;exact a i t s _ _ ⟨.int _,H,I.tok _,⟨_,rfl⟩,q⟩
theorem B2h:UnR X (unaryOp .USub) (rU λi=>.int (-i)):=unI λ_ _ _ _ _ q=>neg_int q
end
noncomputable def B4v:V->V->Bool
 | .non,.non=>true | .non,.int _=>true | .int _,.non=>true | .non,.bl _=>true | .bl _,.non=>true | .non,.str _=>true | .str _,.non=>true
 | .int _,.int _=>true | .bl _,.bl _=>true | .str _,.str _=>true | .byt _,.byt _=>true
 | .int _,.str _=>true | .str _,.int _=>true | .bl _,.str _=>true | .str _,.bl _=>true
 | _,_=>false
def rEq:R2:=λx y H Q=>B4v x y=true/\Q (.bl (decide (x=y))) H
def rNe:R2:=λx y H Q=>B4v x y=true/\Q (.bl (!decide (x=y))) H
theorem Az9 : decide (V.int i=V.int j)=(i==j):=by
 grind
theorem A8s : decide (V.bl i=V.bl j)=(i==j):=by
 grind
theorem Ax5 : decide (V.str i=V.str j)=(i==j):=by
 grind
theorem Ax4 : decide (V.byt i=V.byt j)=(i.toList==j.toList):=by
 rw[Bool.eq_iff_iff]
 simp_all
section
variable {X:Cx}{a b c:Expr}{ta tb:TE}{pos:Pos}
theorem Cr {b:St} {k a:Bool}(I:Inv X pins b H s) (q:Q (.bl k) H) (e:k=a):EP X pins b Q (.bool a) s:=by
 subst e;exact⟨.bl k,H,I,rfl,q⟩
theorem B6o:OpR X (compareOp .Eq) rEq:=by
 intro e s σ H x y v u Q I d a h;obtain⟨c,q⟩:=h
 cases x with
 | non =>
  cases d
  cases y with
  | non=>cases a;exact PySem.EqNone.eq_none_none (Cr I q (by simp))
  | bl j=>cases a;exact PySem.EqNone.eq_none_bool (Cr I q (by simp))
  | int j=>obtain⟨b,rfl⟩:=a;exact PySem.EqNone.eq_none_int (Cr I q (by simp))
  | str j=>obtain⟨b,rfl⟩:=a;exact PySem.EqNone.eq_none_str (Cr I q (by simp))
  | _=>exact absurd (show false=true from c) aQ
 | bl i =>
  cases d
  cases y with
  | non=>cases a;exact PySem.EqNone.eq_bool_none (Cr I q (by simp))
  | bl j=>cases a;exact eq_bool (Cr I q A8s)
  | str j=>obtain⟨b,rfl⟩:=a;exact PySem.EqMixed.eq_bool_str (Cr I q (by simp))
  | _=>exact absurd (show false=true from c) aQ
 | int i =>
  obtain⟨t,rfl⟩:=d
  cases y with
  | non=>cases a;exact PySem.EqNone.eq_int_none (Cr I q (by simp))
  | int j=>obtain⟨b,rfl⟩:=a;exact eq_int (Cr I q Az9)
  | str j=>obtain⟨b,rfl⟩:=a;exact PySem.EqMixed.eq_int_str (Cr I q (by simp))
  | _=>exact absurd (show false=true from c) aQ
 | str i =>
  obtain⟨t,rfl⟩:=d
  cases y with
  | non=>cases a;exact PySem.EqNone.eq_str_none (Cr I q (by simp))
  | bl j=>cases a;exact PySem.EqMixed.eq_str_bool (Cr I q (by simp))
  | int j=>obtain⟨b,rfl⟩:=a;exact PySem.EqMixed.eq_str_int (Cr I q (by simp))
  | str j=>obtain⟨b,rfl⟩:=a;exact eq_str (Cr I q Ax5)
  | _=>exact absurd (show false=true from c) aQ
 | byt i =>
  obtain⟨t,rfl⟩:=d
  cases y with
  | byt j=>obtain⟨b,rfl⟩:=a;exact PySem.W.eq_bytes (Cr I q Ax4)
  | _=>exact absurd (c) aQ
 | _=>cases y <;> exact absurd (show false=true from c) aQ
theorem B5j:OpR X (compareOp .NotEq) rNe:=by
 intro e s σ H x y v u Q I d a h;obtain⟨c,q⟩:=h
 cases x with
 | non =>
  cases d
  cases y with
  | non=>cases a;exact PySem.EqNone.ne_none_none (Cr I q (by simp))
  | bl j=>cases a;exact PySem.EqNone.ne_none_bool (Cr I q (by simp))
  | int j=>obtain⟨b,rfl⟩:=a;exact PySem.EqNone.ne_none_int (Cr I q (by simp))
  | str j=>obtain⟨b,rfl⟩:=a;exact PySem.EqNone.ne_none_str (Cr I q (by simp))
  | _=>exact absurd (show false=true from c) aQ
 | bl i =>
  cases d
  cases y with
  | non=>cases a;exact PySem.EqNone.ne_bool_none (Cr I q (by simp))
  | bl j=>cases a;exact ne_bool (Cr I q (bA not A8s))
  | str j=>obtain⟨b,rfl⟩:=a;exact PySem.EqMixed.ne_bool_str (Cr I q (by simp))
  | _=>exact absurd (show false=true from c) aQ
 | int i =>
  obtain⟨t,rfl⟩:=d
  cases y with
  | non=>cases a;exact PySem.EqNone.ne_int_none (Cr I q (by simp))
  | int j=>obtain⟨b,rfl⟩:=a;exact ne_int (Cr I q (bA not Az9))
  | str j=>obtain⟨b,rfl⟩:=a;exact PySem.EqMixed.ne_int_str (Cr I q (by simp))
  | _=>exact absurd (show false=true from c) aQ
 | str i =>
  obtain⟨t,rfl⟩:=d
  cases y with
  | non=>cases a;exact PySem.EqNone.ne_str_none (Cr I q (by simp))
  | bl j=>cases a;exact PySem.EqMixed.ne_str_bool (Cr I q (by simp))
  | int j=>obtain⟨b,rfl⟩:=a;exact PySem.EqMixed.ne_str_int (Cr I q (by simp))
  | str j=>obtain⟨b,rfl⟩:=a;exact ne_str (Cr I q (bA not Ax5))
  | _=>exact absurd (show false=true from c) aQ
 | byt i =>
  obtain⟨t,rfl⟩:=d
  cases y with
  | byt j=>obtain⟨b,rfl⟩:=a;exact PySem.W.ne_bytes (Cr I q (bA not Ax4))
  | _=>exact absurd (c) aQ
 | _=>cases y <;> exact absurd (show false=true from c) aQ
theorem B4w:OpR X (compareOp .Lt) (rI0 λi j=>.bl (decide (i<j))):=Bx2 λ_ _ _ _ _ _ _ q=>lt_int q
theorem B6b:OpR X (compareOp .Gt) (rI0 λi j=>.bl (decide (j<i))):=Bx2 λ_ _ _ _ _ _ _ q=>gt_int q
theorem B3t:OpR X (compareOp .GtE) (rI0 λi j=>.bl (decide (j<=i))):=Bx2 λ_ _ _ _ _ _ _ q=>ge_int q
theorem B2p:OpR X (compareOp .Is) (λx y H Q=>y=.non/\Q (.bl (decide (x=.non))) H):=by
 intro a s σ H x y v u Q I c b h;obtain⟨rfl,q⟩:=h
 cases b
 refine is_none_gen (Cr I q ?_)
 cases x <;> first
  | lia
  | (obtain⟨t,rfl⟩:=c;rfl)
theorem Bm8:OpR X (compareOp .IsNot) (λx y H Q=>y=.non/\Q (.bl (!decide (x=.non))) H):=by
 intro a s σ H x y v u Q I c b h;obtain⟨rfl,q⟩:=h
 cases b
 refine isnot_none_gen (Cr I q ?_)
 cases x <;> first
  | rfl
  | (obtain⟨t,rfl⟩:=c;rfl)
theorem OpR.or {r b:R2}(h:OpR X f r) (h':OpR X f b):OpR X f (λx y H Q=>r x y H Q\/b x y H Q):=by
 intro c s e H x y v u Q I d a q
 rcases q with q | q
 ·exact h _ s _ H x y v u Q I d a q
 ·exact h' _ s _ H x y v u Q I d a q
theorem Ke (b:Expr) (h:op≠.In:=by decide) (h2:op≠.NotIn:=by decide):behindInMarks op b=false:=by
 have c:(op==CmpOp.In)=false:=by grind
 have a:(op==CmpOp.NotIn)=false:=by grind
 cases b <;> simp[behindInMarks,c,a]
theorem Us (ho:OpR X (compareOp op) r) (ha:PE X a ta) (hb:PE X b tb) (hm:behindInMarks op b=false):PE X (.Compare a [op] [b] pos) (tOp r ta tb):=by
 intro c s g H Q I h
 exact wpAny_Compare1 (Bw2 ha hb I h λv u i x y j f e d q=>ho _ _ _ _ x y v u Q f e d q) hm
def O5 (t:TE):TT:=λσ H Q=>t σ H λx H'=>∃k,x=.bl k/\Q k H'
theorem J6 (ho:OpR X (compareOp op) r) (ha:PE X a ta) (hb:PE X b tb) (hm:behindInMarks op b=false):PT X (.Compare a [op] [b] pos) (O5 (tOp r ta tb)):=by
 intro d s t H Q I h
 refine wpAny_isTrue_Compare1 (thn (ha _ s _ H _ I h) λv C ⟨x,D,j,l,m⟩=>thn (hb _ _ _ _ _ j m) λu w ⟨y,B,i,g,o⟩ =>
  thn (ho _ _ _ _ x y v u _ i l g o) λc A ⟨z,n,p,q,k,e,f⟩=>?_) hm
 subst e
 cases q
 exact wpAny_truthy_bool ⟨n,p,f⟩
theorem Xb:(sizeLine:Nat)<2 ^ 63:=by decide
theorem Ap3:OpR X (binaryOp .Add) (λx y H Q=>∃i j,x=.str i/\y=.str j/\i.length+j.length<=sizeLine/\Q (.str (i++j)) H):=by
 intro a s σ H x y v u Q I c b h;obtain⟨i,j,rfl,rfl,e,q⟩:=h;obtain⟨t,rfl⟩:=c;obtain⟨d,rfl⟩:=b
 exact add_str (λd tk=>⟨.str _,H,I.tok _,⟨_,rfl⟩,q⟩) e
theorem vals1 (r:Vals [x] us):∃u,us=[u]/\RelV x u:=by
 cases r with
 | cons b a=>cases a;grind
theorem vals2 (r:Vals [x,y] us):∃u w',us=[u,w']/\RelV x u/\RelV y w':=by
 cases r with
 | cons c b =>
  cases b with
  | cons d a=>cases a;grind
theorem Bd9:zB X (.builtin "abs") (λxs H Q=>∃i,xs=[.int i]/\Q (.int (if i<0 then -i else i)) H):=by
 intro a s σ H xs us Q I r h;obtain⟨i,rfl,q⟩:=h;obtain⟨u,rfl,t,rfl⟩:=vals1 r
 exact call_abs_int λu tk=>⟨.int _,H,I.tok _,⟨_,rfl⟩,q⟩
theorem A4f (hc:X.calm=true):zB X (.builtin "min") (λxs H Q=>∃i j,xs=[.int i,.int j]/\Q (.int (if j<i then j else i)) H):=by
 intro a s σ H xs us Q I r h;obtain⟨i,j,rfl,q⟩:=h;obtain⟨u,w',rfl,⟨t,rfl⟩,⟨t',rfl⟩⟩:=vals2 r
 refine min_two_ints (I.ok.hd hc) λh' tk k=>⟨_,H,I.kept k,?_,q⟩
 by_cases hj:j<i
 ·rw[if_pos hj,if_pos hj];exact⟨_,rfl⟩
 ·rw[if_neg hj,if_neg hj];exact⟨_,rfl⟩
theorem A4x:zB X (.type "int") (λxs H Q=>(∃i,xs=[.int i]/\Q (.int i) H)\/∃k,xs=[.bl k]/\Q (.int (if k then 1 else 0)) H):=by
 intro a s σ H xs us Q I r h
 rcases h with ⟨i,rfl,q⟩ | ⟨k,rfl,q⟩
 ·obtain⟨u,rfl,t,rfl⟩:=vals1 r
  exact call_int_int ⟨.int i,H,I,⟨_,rfl⟩,q⟩
 ·obtain⟨u,rfl,b⟩:=vals1 r
  cases b
  exact call_int_bool ⟨.int _,H,I.tok _,⟨_,rfl⟩,q⟩
def B4u (K:v9)(x:V)(H:Hp)(n:Nat):Prop :=
 match x with
 | .str y=>y.length<=sizeLine/\n=y.length
 | .byt y=>y.size<=sizeLine/\n=y.size
 | .ref p=>(∃xs,SqL K H p xs/\n=xs.length)\/∃xs,SqT K H p xs/\n=xs.length
 | _=>False
theorem Al8:zB X (.builtin "len") (λxs H Q=>∃x n,xs=[x]/\B4u X.K x H n/\Q (.int n) H):=by
 intro j s σ H xs us Q I r h;obtain⟨x,n,rfl,e,q⟩:=h;obtain⟨u,rfl,d⟩:=vals1 r;have hl:=Xb;have hs:sizeLine=16777216:=sizeLine_eq
 cases x with
 | str y =>
  obtain⟨t,rfl⟩:=d;obtain⟨l,b⟩:y.length<=sizeLine/\n=y.length:=e;subst b
  exact len_str (by lia) ⟨.int _,H,I.tok _,⟨_,rfl⟩,q⟩
 | byt y =>
  obtain⟨t,rfl⟩:=d;obtain⟨l,b⟩:y.size<=sizeLine/\n=y.size:=e;subst b
  exact PySem.W.len_bytes (by lia) ⟨.int _,H,I.tok _,⟨_,rfl⟩,q⟩
 | ref p =>
  cases d
  have b := e
  rcases b with ⟨xs,c,b⟩ | ⟨xs,c,b⟩
  ·subst b
   obtain⟨g,f,i,k⟩:=I.list c;have a:=f.length
   exact Calls.call_len_list i.isList (by grind) ⟨.int _,H,I.tok _,⟨_,by simp only[bB];rw[a]⟩,q⟩
  ·subst b
   obtain⟨g,f,i,k⟩:=I.tuple c;have a:=f.length
   exact len_tuple i (by grind) ⟨.int _,H,I.tok _,⟨_,by simp only[bB];rw[a]⟩,q⟩
 | _=>trivial
end
section
variable {s:u_}{f:Str}{A:q9}{E:z_}
theorem Br4 {prog:u6}{w:World}{env:Env}{e:Expr}{f:Str}{pos:Pos}{s:u_}{Q:z_}(hb:attributeBase e f env (eval e env)=eval e env)
 (h:wpAny (model prog w) A (eval e env) (λo s₁=>wpAny (model prog w) A (getAttr o f true) Q E s₁) E s):wpAny (model prog w) A (eval (.Attribute e f pos) env) Q E s :=
 Attribute_any_ h (by rw[arm_eval_Attribute,hb])
end
structure Room (k:Nat) (A:q9):Prop where
 hd:A.handled=none
 dp:A.depth+3*k+5<recursionLimit
 un:A.units+16*k+200<cLine
 gd:A.guards=some []
theorem Room.mono (r:Room k A) (h:j<=k):Room j A:=⟨r.hd,by have:=r.dp;lia,by have:=r.un;lia,r.gd⟩
theorem Room.deeper (r:Room (k+1) A) (env:Env):Room k (A.deeper env) :=
 ⟨r.hd,by have:=r.dp;show A.depth+1+3*k+5<_;lia,by have:=r.un;show A.units+3+16*k+200<_;lia,r.gd⟩
theorem Room.in1 (r:Room (k+1) A):Room k A.in1 :=
 ⟨r.hd,by have:=r.dp;grind,by have:=r.un;grind,r.gd⟩
theorem As9 {A:q9}{C:Addr}{us:w6}{kw:List (Str×Value)}:(A.under (.builtin "type.__call__" ⟨.ref C::us,kw⟩)).depth=A.depth+1:=by
 first | rfl | simp[Around.under,Code.weight,Code.isCreation,Code.isGuard,Code.isCaller,Code.frames,Code.isFrame,guardIds]
theorem At4 {A:q9}{C:Addr}{us:w6}{kw:List (Str×Value)}:(A.under (.builtin "type.__call__" ⟨.ref C::us,kw⟩)).units=A.units+1:=by
 first | rfl | simp[Around.under,Code.cUnits,Code.frames,Code.isFrame]
theorem Room.make {k:Nat}{A:q9}(r:Room (k+1) A)(C:Addr)(us:w6)(kw:List (Str×Value)):Room k (A.under (.builtin "type.__call__" ⟨.ref C::us,kw⟩)) :=
 ⟨r.hd,by have:=r.dp;rw[As9];lia,by have:=r.un;rw[At4];lia,by first | exact r.gd | (show (A.under _).guards=some [];rw[<- r.gd];rfl) | simp[Around.under,Code.guards,Code.isGuard,guardIds,r.gd]⟩
theorem Room.depth (r:Room k A):A.depth<recursionLimit:=by have:=r.dp;lia
theorem Room.units (r:Room k A):A.units+64<cLine:=by have:=r.un;lia
def Eu:TA:=λ_ H Q=>Q [] H
def Bt (ta:TE)(tr:TA):TA:=λσ H Q=>ta σ H λx H1=>tr σ H1 λxs H2=>Q (x::xs) H2
section
variable {X:Cx}{e:Expr}{es:v_}{te:TE}{t:TA}{pos:Pos}
theorem Ro:PA X [] Eu:=λ_ _ _ _ H Q I h=>Calls.spliced_nil ⟨[],H,I,.nil,h⟩
theorem Ax6 (ha:PE X e te)(hr:PA X es t)(hs:starEach (e::es) X.env=(false,eval e X.env)::starEach es X.env:=by rfl):PA X (e::es) (Bt te t):=by
 intro d a s m H Q I h;rw[hs]
 refine Calls.spliced_cons (thn (ha _ s _ H _ I h) λu o ⟨x,n,f,g,i⟩=>?_)
 exact thn (hr _ _ _ _ _ _ f i) λp q ⟨c,k,j,l,b⟩=>⟨x::c,k,j,.cons g l,b⟩
def A8t (t:TA):TE:=λσ H Q=>t σ H λxs H1=>xs.length<=sizeLine/\∀p,H1 p=none->Q (.ref p) (upd H1 p (.tup xs))
def B5t (t:TA):TE:=λσ H Q=>t σ H λxs H1=>xs.length<=sizeLine/\∀p,H1 p=none->Q (.ref p) (upd H1 p (.lst xs))
theorem Dp (h:QA X es t):QE X (.Tuple es d pos) (A8t t):=by
 refine⟨?_⟩
 intro a s i H Q I g
 refine wpAny_Tuple_spliced (thn (h.1 _ _ s _ H _ I g) λf j ⟨k,l,c,r,z,q⟩=>⟨by rw[<- r.length];grind,?_⟩)
 refine⟨.ref _,upd _ _ _,c.laid (λb u e=>Heap.get?_push_of_some _ e) (ak _) ?_,rfl,q _ (c.hok.fresh (ak _))⟩
 exact⟨z,f,r,⟨_,Heap.get?_push_size _ rfl,rfl,⟨_,rfl⟩,rfl⟩⟩
theorem Ea (h:QA X es t):QE X (.List es pos) (B5t t):=by
 refine⟨?_⟩
 intro c s g H Q I d
 refine wpAny_List_spliced (thn (h.1 _ _ s _ H _ I d) λf i ⟨j,k,a,r,z,q⟩=>⟨by rw[<- r.length];grind,?_⟩)
 refine⟨.ref _,upd _ _ _,a.laid (λb u e=>Heap.get?_push_of_some _ e) (ak _) ?_,rfl,q _ (a.hok.fresh (ak _))⟩
 exact⟨z,f,0,r,Heap.get?_push_size _ rfl⟩
end
abbrev Sp:=m8->Hp->VK->XK->Prop
abbrev CXT:=List Env->Hp->u_->XK->Value->u_->Prop
structure Env0 (P:u6) (w:World) (K:v9) (mg:x_) (base:Heap) (A:q9) (outer:List Env) (s:u_) (H:Hp):Prop where
 frames:A.frames=some outer
 mod:Mod K mg base
 bs:∀b o,base.get? b=some o->s.heap.get? b=some o/\H b=none
 bsz:base.objs.size<=s.heap.objs.size
 funs:s.heap.FunFrames base outer
 frf:∀b∈frs outer,H b=none
 tab:∀p∈Ef K,H p.1=some (.tbl p.2)
 hok:HOk P w H s.heap
 bare:AllBare s.gens
def CE (outer:List Env)(P:u6)(w:World)(H:Hp)(s:u_)(Q:VK)(u:Value)(s':u_):Prop :=
 ∃v H',s'.os=s.os/\AllBare s'.gens/\Un (frs outer) [] H H' s.heap s'.heap/\HOk P w H' s'.heap/\RelV v u/\Q v H'
def CR (CX:CXT)(outer:List Env)(P:u6)(w:World)(H:Hp)(s:u_)(Q:VK)(E:XK)(r:Result)(s':u_):Prop :=
 match r with
 | .ok (.ret u)=>CE outer P w H s Q u s'
 | .ok _=>False
 | .error e=>CX outer H s E e s'
structure FnOk (P:u6) (w:World) (K:v9) (mg:x_) (base:Heap) (CX:CXT) (k:Nat) (f:Addr) (fd:u5) (ps:v4) (sp:Sp):Prop where
 len:∀vs H Q E,sp vs H Q E->vs.length=ps.length
 run:∀(A:q9) (outer:List Env) (s:u_) (H:Hp) (args:Args) (us:w6) (vs:m8) (Q:VK) (E:XK),Room k A->Env0 P w K mg base A outer s H->BindsTo s fd args (ps.zip us)->Vals vs us->sp vs H Q E ->
  codeAny (model P w) A (.call (.ref f) args) (CR CX outer P w H s Q E) s
theorem FnOk.imp {K:v9} (F:FnOk P w K mg base CX k f d ps sp)
 (h:∀b H Q E,a b H Q E->sp b H Q E):FnOk P w K mg base CX k f d ps a :=
 ⟨λb H Q E q=>F.len _ H Q E (h _ _ _ _ q),λA c s H e n b Q E j l i m g=>F.run A _ s H _ _ _ Q E j l i m (h _ _ _ _ g)⟩
theorem Env0.make {P:u6}{w:World}{K:v9}{mg:x_}{base:Heap}{A:q9}{outer:List Env}{s:u_}{H:Hp}(e:Env0 P w K mg base A outer s H)(C:Addr)(us:w6)(kw:List (Str×Value)) :
 Env0 P w K mg base (A.under (.builtin "type.__call__" ⟨.ref C::us,kw⟩)) outer s H:=⟨by first | exact e.frames | (simpa[Around.under,Code.envs,Code.isFrame,pushEnvs] using e.frames),e.mod,e.bs,e.bsz,e.funs,e.frf,e.tab,e.hok,e.bare⟩
theorem Env0.in1 {K:v9} (e:Env0 P w K mg base A a s H) :
 Env0 P w K mg base A.in1 a s H:=⟨e.frames,e.mod,e.bs,e.bsz,e.funs,e.frf,e.tab,e.hok,e.bare⟩
section
variable {X:Cx}{pins:y_}{σ:St}{H:Hp}{s s':u_}
theorem Inv.env0 (I:Inv X pins σ H s):Env0 X.prog X.w X.K X.mg X.base X.A X.stack s H :=
 ⟨I.ok.frames,I.ok.mod,I.bs,aj I.ok.bsz I.sz,I.stack,I.stkFree,λp a=>I.base.tbls _ _ (I.ok.tab p a),I.hok,I.bare⟩
theorem Inv.after (I:Inv X pins σ H s) (h:CE X.stack X.prog X.w H s Q u s'):EP X pins σ Q u s':=by
 obtain⟨v,j,i,a,f,c,r,q⟩:=h;obtain⟨hh,g,d,t,e⟩:=s';obtain rfl:e=s.os:=i
 exact⟨v,j,I.call f c a λb z=>absurd z (by simp),r,q⟩
end
def Le (sp:Sp)(dvs:m8)(E:XK)(t:TA):TE:=λσ H Q=>t σ H λvs H1=>sp (vs++dvs) H1 Q E
def Binds (K:v9)(fd:u5)(ps:v4)(ds:w6):Prop :=
 ∀(s:u_) (us:w6),K.In s.heap->(us++ds).length=ps.length->BindsTo s fd ⟨us,[]⟩ (ps.zip (us++ds))
theorem Binds.all {K:v9} (h:∀a:w6,a.length=ps.length->bindArgs c ⟨a,[]⟩=pure (ps.zip a)):Binds K c ps []:=λs a _ b=>by
 rw[cA]at b ⊢;exact .of_eq (h _ b)
def Hi (CX:CXT)(X:Cx)(E:XK):Prop:=∀(pins:y_) (σ:St) (H:Hp) (s:u_) (e:Value) (s':u_),Inv X pins σ H s->CX X.stack H s E e s'->X.xe e s'
section
variable {X:Cx}{CX:CXT}{k:Nat}{f:Addr}{fd:u5}{ps:v4}{sp:Sp}{dvs:m8}{ds:w6}{E:XK}{x:Str}{p pos:Pos}{e:Expr}{es:v_}{t:TA}
theorem B1l (F:FnOk X.prog X.w X.K X.mg X.base CX k f fd ps sp) (hr:Room k X.A) (hb:Binds X.K fd ps ds) (hd:Vals dvs ds) (hx:Hi CX X E)
 (I:Inv X pins b H s) (r:Vals vs us) (h:sp (vs++dvs) H Q E):wpAny (model X.prog X.w) X.A (call (.ref f) us) (EP X pins b Q) X.xe s:=by
 have a := r.append hd
 have g:(us++ds).length=ps.length:=by rw[<- a.length];exact F.len _ _ _ _ h
 refine wpAny_call (codeAny_mono (F.run _ _ s H _ _ _ Q E hr I.env0 (hb s _ I.kIn g) a h) λr i c=>?_)
 cases r with
 | error e=>exact hx _ _ H s e _ I c
 | ok d =>
  cases d with
  | ret u=>exact I.after c
  | next=>assumption
  | brk=>assumption
  | cont=>trivial
theorem Bh1 (F:FnOk X.prog X.w X.K X.mg X.base CX k f fd ps sp)(hr:Room k X.A)(hg:Gl X x)(hm:X.mg x=some (.ref f))(hk:PySem.W.keepIn X.K (.ref f)=true)(hb:Binds X.K fd ps ds)(hd:Vals dvs ds)(hx:Hi CX X E)
 (ha:PA X (e::es) t) (hdb:(x==("__debug__" : Str))=false:=by decide) (he:starEach (e::es) X.env=(false,eval e X.env)::starEach es X.env:=by rfl) (hpl:(backTo pos (starEach es X.env)).any (·.1)=false:=by rfl) :
 PE X (.Call (.Name x p) (e::es) [] pos) (Le sp dvs E t):=by
 intro b s c H Q I h
 refine wpAny_Call_Name_kw (J4 I hg hm ?_ hdb)
 refine PySem.W.callWith_K I.ok.mod.kin hk (thn (ha _ _ s _ H _ I h) λd g ⟨i,j,a,r,q⟩=>⟨a.kIn,?_⟩) he hpl
 exact B1l F hr hb hd hx a r q
end
def PK (X:Cx)(kws:List Keyword)(t:TA):Prop :=
 ∀(pos:Pos) (pins:y_) (s:u_) (σ:St) (H:Hp) (Q:m8->Hp->Prop),Inv X pins σ H s->t σ H Q->wpAny (model X.prog X.w) X.A (evalAll ((backToKw pos (keywordEach kws X.env)).map (·.2))) (AP X pins σ Q) X.xe s
structure QK (X:Cx) (e:(List Keyword)) (t:TA):Prop where
 get:PK X e t
section
variable {X:Cx}{k:Nat}{f:Addr}{x m:Str}{p kpos:Pos}{e o:Expr}{kws:List Keyword}{te:TE}{t:TA}{nm:Option Str}
theorem B0s:PK X [] Eu:=λ_ _ _ _ H Q I h=>wpAny_evalAll_nil ⟨[],H,I,.nil,h⟩
theorem Qd (ha:QE X e te)(hr:QK X kws t):QK X (⟨nm,e,kpos⟩::kws) (Bt te t):=by
 refine⟨?_⟩
 intro d a s m H Q I h
 refine wpAny_evalAll_cons (wpAny_bind (thn (ha.1 _ s _ H _ I h) λu o ⟨x,n,f,g,i⟩=>wpAny_bind (wpAny_standAt (wpAny_pure ?_))))
 exact thn (hr.1 _ _ _ _ _ _ f i) λp q ⟨c,k,j,l,b⟩=>⟨x::c,k,j,.cons g l,b⟩
end
structure Bc (N P:v4) (sc:Scope):Prop where
 kind:sc.kind=.function:=by rfl
 co:sc.isCoroutine=false:=by rfl
 gen:sc.isGenerator=false:=by rfl
 nd:N.Nodup:=by decide +kernel
 pre:N.take P.length=P:=by rfl
 par:∀x∈P,sc.names.lookup x=some .local\/sc.names.lookup x=some .cell:=by decide +kernel
 nofree:∀y∈sc.names,y.2≠.free:=by decide +kernel
theorem Zc {kindOf:Str->Option NameKind}{x:Str}:∀{binds:List (Str×Value)}{m:x_},(∀v,(x,v)∉binds)->bindL kindOf binds m x=m x
 | [],_,_=>rfl
 | (n,v)::r,m,h=>by
  unfold bindL
  rw[Zc λw hw=>h w (aW _ hw)]
  split
  ·have:x≠n:=by rintro rfl;exact h v aP
   simp[this]
  ·rfl
theorem Yr {kindOf:Str->Option NameKind}{x:Str}:∀{binds:List (Str×Value)}{m:x_},(∀v,(x,v)∉binds)->bindC kindOf binds m x=m x
 | [],_,_=>rfl
 | (n,v)::r,m,h=>by
  unfold bindC
  rw[Yr λw hw=>h w (aW _ hw)]
  split
  ·rfl
  ·have:x≠n:=by rintro rfl;exact h v aP
   simp[this]
theorem Yt {kindOf:Str->Option NameKind}{x:Str}{v:Value}:∀{P:v4}{vs:w6}{i:Nat}{m:x_},P.Nodup->P[i]?=some x->vs[i]?=some v->kindOf x=some .local ->
 bindL kindOf (P.zip vs) m x=some v
 | [],_,_,_,_,h,_,_=>by simp at h
 | _::_,[],_,_,_,_,h,_=>by simp at h
 | p::P,w::vs,0,m,nd,h1,h2,hk=>by
  simp at h1 h2;subst h1;subst h2
  show bindL kindOf ((p,w)::P.zip vs) m p=_
  unfold bindL
  rw[Zc λv hv=>(bO.mp nd).1 (dW hv).1,if_pos hk]
  simp
 | p::P,w::vs,i+1,m,nd,h1,h2,hk=>by
  show bindL kindOf ((p,w)::P.zip vs) m x=_
  unfold bindL
  exact Yt (i:=i) (bO.mp nd).2 (by simpa using h1) (by simpa using h2) hk
theorem Zb {kindOf:Str->Option NameKind}{x:Str}{v:Value}:∀{P:v4}{vs:w6}{i:Nat}{m:x_},P.Nodup->P[i]?=some x->vs[i]?=some v->kindOf x≠some .local ->
 bindC kindOf (P.zip vs) m x=some v
 | [],_,_,_,_,h,_,_=>by simp at h
 | _::_,[],_,_,_,_,h,_=>by simp at h
 | p::P,w::vs,0,m,nd,h1,h2,hk=>by
  simp at h1 h2;subst h1;subst h2
  show bindC kindOf ((p,w)::P.zip vs) m p=_
  unfold bindC
  rw[Yr λv hv=>(bO.mp nd).1 (dW hv).1,if_neg hk]
  simp
 | p::P,w::vs,i+1,m,nd,h1,h2,hk=>by
  show bindC kindOf ((p,w)::P.zip vs) m x=_
  unfold bindC
  exact Zb (i:=i) (bO.mp nd).2 (by simpa using h1) (by simpa using h2) hk
noncomputable def start (N:v4) (vs:m8):St:=vs.map some++List.replicate (N.length-vs.length) none
noncomputable def Jk (CX:CXT) (P:u6) (w:World) (K:v9) (mg:x_) (base:Heap) (N:v4) (qual:Str) (scope:Scope) (f:Addr) (cd:Value) (A:q9) (outer:List Env) (s:u_) (H:Hp) (E:XK):Cx where
 prog:=P
 w:=w
 K:=K
 mg:=mg
 base:=base
 A:=A.deeper (envOfC qual scope s.heap.objs.size f cd)
 N:=N
 s₀:=s
 H₀:=H
 env:=envOfC qual scope s.heap.objs.size f cd
 outer:=outer
 stack:=envOfC qual scope s.heap.objs.size f cd::outer
 ex:=[]
 calm:=true
 fn:=λ_=>true
 pn:=[]
 xe:=λe s'=>wpAny (model P w) (A.deeper (envOfC qual scope s.heap.objs.size f cd)) (leaving (envOfC qual scope s.heap.objs.size f cd) e) (λ_ s''=>CX outer H s E e s'') (λe' s''=>CX outer H s E e' s'') s'
theorem Aj4 {a:Scope} (h:a.names.lookup x=some .cell):∃c,(cellsFrom n a.names []).lookup x=some c:=by
 exact Option.isSome_iff_exists.mp (PySem.W.cellsFrom_some _ n [] (.inl h))
theorem Y4 {K:v9}
 (S:Bc N ps scope) (hd:A.handled=none) (d:Env0 P w K mg base A a s H) (hl:vs.length=ps.length) (r:Vals vs us)
 (x:InCallC s s.heap.objs.size (bindL (envOfC qual scope s.heap.objs.size f t).kindOf (ps.zip us) λ_=>none) (cellsFrom (s.heap.objs.size+1) scope.names []) (bindC (envOfC qual scope s.heap.objs.size f t).kindOf (ps.zip us) λ_=>none) s1) :
 Inv (Jk CX P w K mg base N qual scope f t A a s H E) [] (start N vs) H s1:=by
 have D:ps.length<=N.length:=by have:=bA List.length S.pre;rw[cH]at this;lia
 obtain⟨o,tk,rfl,B⟩:=x.done
 have g:∀b:Addr,b∉(Jk CX P w K mg base N qual scope f t A a s H E).ex:=λb z=>absurd (show b∈([]:v6) from z) (by simp)
 refine⟨⟨d.mod,S.kind,rfl,rfl,ak _,λy z c o n=>?_,λy j=>?_,λy c _ h=>?_,λ_=>hd,Around.frames_deeper d.frames,.inr ⟨rfl,rfl⟩,λb z=>absurd z (g b),d.bs,d.bsz,λb _ _=>g b,λb z=>absurd z (g b),d.funs,d.frf,d.tab⟩,
  rfl,d.bare,Un.kept B,⟨_,x.toInCall.ns,λi y v o n h3=>?_⟩,λy c h=>⟨_,x.cell y c h⟩,d.hok.fresh (ak _),λy c h=>?_,λp m=>absurd (show p∈([]:y_) from m) (by simp),d.hok.kept B,?_⟩
 ·exact name_of_addr x.apart (dG o) (dG n)
 ·have j:scope.names.lookup y=some .cell\/scope.names.lookup y=some .free:=j
  rcases j with j | j
  ·exact Aj4 j
  ·exact absurd rfl (S.nofree _ (dG j))
 ·exact bM (x.above y c (dG h))
 ·have hi:i<vs.length:=by
   unfold start at n
   grind
  have F:vs[i]?=some v:=by
   unfold start at n
   grind
  obtain⟨u,C,G⟩:=r.get F
  have m:ps[i]?=some y:=by
   rw[<- S.pre,List.getElem?_take_of_lt (by lia)];exact o
  have l:ps.Nodup:=by rw[<- S.pre];exact S.nd.sublist (List.take_sublist _ _)
  refine⟨u,G,?_⟩
  rcases S.par y (bG m) with k | k
  ·exact .inl ⟨k,Yt l m C k⟩
  ·obtain⟨c,e⟩:=Aj4 k
   refine .inr ⟨.inl k,c,e,?_⟩
   have q:=x.cell y c e
   rw[Zb l m C (by show scope.names.lookup y≠_;rw[k];decide)]at q
   exact q
 ·exact d.hok.fresh (bM (x.above y c (dG h)))
 ·unfold start
  show _=N.length
  simp_all
theorem A1m {K:v9}
 (lk:K.lookup f=some ⟨oc,od,.func (PySem.W.fnOf name qual d body scope U O z R M a W),F⟩) (hcd:PySem.W.codeIn K a qual=true) (S:Bc N ps scope)
 (p:∀vs H Q E,sp vs H Q E->vs.length=ps.length)
 (i:∀(A:q9) (c:List Env) (s:u_) (H:Hp) (vs:m8) (Q:VK) (E:XK),Room k (A.deeper (envOfC qual scope s.heap.objs.size f a))->sp vs H Q E ->
  ∃t,PSs (Jk CX P w K mg base N qual scope f a A c s H E) body t/\t { nx:=λ_ H'=>Q .non H',rt:=Q } (start N vs) H) :
 FnOk P w K mg base CX (k+1) f (PySem.W.fnOf name qual d body scope U O z R M a W) ps sp:=by
 refine⟨p,λA c s H T X vs Q E C l hb r m=>?_⟩
 have hl:=p _ _ _ _ m
 have G := l.mod.kin.keeps λb o e=>(l.bs b o e).1
 have h:∀y∈ps.zip X,scope.names.lookup y.1=some .local\/(scope.names.lookup y.1=some _/\((cellsFrom (s.heap.objs.size+1) _ []).lookup y.1).isSome=true):=λ⟨n,v⟩ Y=>by
  rcases S.par n (dW Y).1 with q | q
  ·grind
  ·exact .inr ⟨q,PySem.W.cellsFrom_some _ _ _ (.inl q)⟩
 refine codeAny_call_function C.depth (G _ _ lk) rfl S.co S.gen rfl (PySem.W.codeRec_of G hcd) (hb _ _ _ _ ?_)
 refine wpAny_newFunctionEnv_cells S.kind h λZ he s1 x=>?_
 subst he
 refine⟨(l.mod.nolimit.keeps λb o e=>(l.bs b o e).1).keeps x.toInCall.keep,codeAny_func ?_⟩
 obtain⟨t,ht,hq⟩:=i A _ s H _ Q E (C.deeper _) m;have I:Inv (Jk CX P w K _ _ N qual _ f a A _ s H E) _ _ H _:=Y4 S C.hd l hl r x
 refine wpAny_mono (ht _ _ _ H _ I hq) (λfl L j=>?_) λe L j=>j
 have B:∀{g:St} {H':Hp} {v:V} {u:Value},Inv (Jk CX P w K mg base N qual scope f a A c s H E) [] g _ L->RelV v u->Q v _->CE _ P w H s Q u _ :=
  λ{g H' v u} J D q=>⟨v,H',J.os,J.bare,J.base,J.hok,D,q⟩
 cases fl with
 | ret u =>
  obtain⟨v,g,H',J,D,q⟩:=j;exact B J D q
 | next =>
  obtain⟨g,H',J,q⟩:=j;exact B (v:=V.non) J rfl q
 | brk =>
  obtain⟨_,_,_,q⟩:=j
  trivial
 | cont =>
  obtain⟨_,_,_,q⟩:=j
  trivial
section
variable {X:Cx}{x:Str}{p pos:Pos}{e:Expr}{es:v_}{t:TA}{id T:String}{r:m8->Hp->VK->Prop}
def tCB (r:m8->Hp->VK->Prop)(t:TA):TE:=λσ H Q=>t σ H λvs H1=>r vs H1 Q
theorem Bf0 (hc:zB X (.builtin id) r)(hg:Gl X x)(hm:X.mg x=none)(hv:bootBuiltins x=some (.builtin id))(ha:PA X (e::es) t)(hn:x ≠ "__name__" := by decide) (hdb:(x==("__debug__" : Str))=false:=by decide)
 (he:starEach (e::es) X.env=(false,eval e X.env)::starEach es X.env:=by rfl) (hpl:(backTo pos (starEach es X.env)).any (·.1)=false:=by rfl):PE X (.Call (.Name x p) (e::es) [] pos) (tCB r t):=by
 intro a s f H Q I h
 refine wpAny_Call_Name_kw (Kl I hg hm hv ?_ hn hdb)
 exact gr (thn (ha _ _ s _ H _ I h) λj k ⟨g,i,d,c,b⟩=>hc _ _ _ _ _ _ Q d c b) he hpl
theorem A2y (hc:zB X (.type T) r)(hg:Gl X x)(hm:X.mg x=none)(hv:bootBuiltins x=some (.type T))(ha:PA X (e::es) t)(hn:x ≠ "__name__" := by decide) (hdb:(x==("__debug__" : Str))=false:=by decide)
 (he:starEach (e::es) X.env=(false,eval e X.env)::starEach es X.env:=by rfl) (hpl:(backTo pos (starEach es X.env)).any (·.1)=false:=by rfl):PE X (.Call (.Name x p) (e::es) [] pos) (tCB r t):=by
 intro a s f H Q I h
 refine wpAny_Call_Name_kw (Kl I hg hm hv ?_ hn hdb)
 exact dF (thn (ha _ _ s _ H _ I h) λj k ⟨g,i,d,c,b⟩=>hc _ _ _ _ _ _ Q d c b) he hpl
end
end L2
namespace HT
open PySem PyProof.Rows
section
variable {prog:u6}{w:World}{A:q9}{E:z_}{s:u_}
theorem Br6 (ht:IsTup s.heap t vs.toArray) (hb:IsTup s.heap b c.toArray) (hv:vs≠[])
 (h1:c=[]->Q (.ref t) s) (h2:c≠[]->Q (.ref s.heap.objs.size) { s with heap:=s.heap.push { cls:=.type "tuple",data:=.seq (vs++c).toArray } })
 (hsz:vs.length+c.length<=sizeLine):wpAny (model prog w) A (binaryOp .Add (.ref t) (.ref b)) Q E s:=by
 obtain⟨⟨g,q,d,p⟩,e,o,n,l⟩:=id ht;obtain⟨⟨j,k,i,m⟩,a,h,r,f⟩:=id hb;subst o l h f
 by_cases hw:c=[]
 ·exact concat_meets ⟨_,e,rfl⟩ ⟨_,a,rfl⟩ noFill_tuple_add seq_tuple_add fB fD (fG _ _)
   (tuple_addW1 t b _ _ n _ _ _ _ _ (by simp_all) (by grind)) ⟨e,a,h1 hw⟩
 ·refine concat_meets ⟨_,e,rfl⟩ ⟨_,a,rfl⟩ noFill_tuple_add seq_tuple_add fB fD (fG _ _)
   (tuple_addW2 t b _ _ n _ _ _ _ _ (by grind) (by simp_all) (by simp_all)) ⟨e,a,?_⟩
  grind
noncomputable def sIx (n d:Nat):q_->Nat
 | none=>d
 | some v=>if v<0 then (v+(n:Int)).toNat else min v.toNat n
theorem A8p (n d:Nat):sIx n d none=d:=rfl
theorem Ad8 (n d k:Nat):sIx n d (some (k:Int))=min k n:=by
 show (if k<0 then ((k:Int)+n).toNat else min _ n)=min k n
 grind
theorem B2g (n d:Nat)(hd:d<=n)(o:q_):sIx n d o<=n:=by
 cases o with
 | none=>exact hd
 | some v =>
  show (if v<0 then (v+n).toNat else min _ n)<=n
  grind
theorem A0g (v:Int)(n d:Nat):(if v<0 then max (v+(n:Int)) 0 else min v (n:Int))=((sIx n d (some v):Nat):Int):=by
 show (if v<0 then max _ 0 else min v _)=(((if v<0 then (v+n).toNat else min _ n):Nat):Int)
 grind
theorem Aw2 (lo hi:q_)(n:Nat):Builtin.Slice.sliceAdjust lo hi 1 (n:Int)=(((sIx n 0 lo:Nat):Int),((sIx n n hi:Nat):Int)):=by
 refine Prod.ext ?_ ?_
 ·cases lo with
  | none=>rfl
  | some v=>exact A0g v n 0
 ·cases hi with
  | none=>rfl
  | some v=>exact A0g v n n
theorem As1 (i j:Nat):Builtin.Slice.slicePlaces (i:Int) (j:Int) 1=j-i:=by
 unfold Builtin.Slice.slicePlaces
 have h1:(1:Int)>0:=by lia
 simp only[h1,bY,Int.ediv_one]
 split <;> lia
theorem Vm (p:IsPart v o) (h:Q o s):wpAny (model prog w) A (Builtin.Slice.slicePartIndex v) Q E s:=by
 cases p with
 | none=>exact slicePart_none h
 | int i t=>exact slicePart_int h
theorem K1 {lo hi:q_}{n:Nat} (hs:s.heap.IsSliceOf e d c .none) (pl:IsPart d lo) (g:IsPart c hi)
 (h:Q (((sIx n 0 lo:Nat):Int),1,sIx n n hi-sIx n 0 lo) s):wpAny (model prog w) A (Builtin.Slice.sliceApplied (.ref e) (pure (n:Int))) Q E s:=by
 obtain⟨i,a,f,b⟩:=id hs
 refine wpAny_bind (wpAny_bind (wpAny_field a b (x:=d) rfl (wpAny_bind (wpAny_field a b (x:=c) rfl (wpAny_bind (wpAny_field a b rfl (wpAny_pure ?_)))))))
 refine wpAny_bind (slicePart_none ?_)
 refine wpAny_bind (Vm pl (wpAny_bind (Vm g (wpAny_bind (wpAny_pure ?_)))))
 show wpAny _ _ (match Builtin.Slice.sliceAdjust _ _ 1 _ with | (lo,hi)=>pure (lo,(1:Int),Builtin.Slice.slicePlaces lo hi 1)) _ _ s
 rw[Aw2 _ _ n]
 show wpAny _ _ (pure _) _ _ s
 rw[As1];exact wpAny_pure h
theorem A9o (xs:v7)(i k:Nat):((List.range k).filterMap λ(m:Nat)=>xs[((i:Int)+(m:Int)*1).toNat]?).toArray=((xs.toList.drop i).take k).toArray:=by
 have e:(λ(m:Nat)=>xs[((i:Int)+m*1).toNat]?)=λm=>xs[i+m]?:=by
  funext m
  have:((i:Int)+m*1).toNat=i+m:=by lia
  rw[this]
 rw[e];have:=pick_run xs i k;rw[List.filterMap_map]at this
 have a:((λx=>xs[x]?) ∘ λx=>i+x)=λm=>xs[i+m]?:=rfl
 rw[a]at this;rw[this]
theorem Qu {lo hi:q_} (ht:IsTup s.heap t items) (hs:s.heap.IsSliceOf sl vl vu .none) (pl:IsPart vl lo) (pu:IsPart vu hi)
 (hw:¬ (sIx items.size 0 lo=0/\sIx items.size items.size hi=items.size))
 (h:Q (.ref s.heap.objs.size) { s with heap:=s.heap.push { cls:=.type "tuple",data:=.seq ((items.toList.drop (sIx items.size 0 lo)).take (sIx items.size items.size hi-sIx items.size 0 lo)).toArray } })
 (hsz:items.size<=sizeLine):wpAny (model prog w) A (getItem (.ref t) (.ref sl)) Q E s:=by
 have htake:sizeOk (.seq ((items.toList.drop (sIx items.size 0 lo)).take (sIx items.size items.size hi-sIx items.size 0 lo)).toArray):=by
  show ((items.toList.drop (sIx items.size 0 lo)).take (sIx items.size items.size hi-sIx items.size 0 lo)).toArray.size<=sizeLine
  rw[bB,cH,dX,dY];lia
 have hj:sIx items.size items.size hi<=items.size:=B2g _ _ (ak _) hi;obtain⟨os,hos,hcs,hds⟩:=id hs;have hTs:s.TypeIs (.ref sl) "slice" := ⟨os,hos,hcs⟩;unfold getItem
 try with_reducible refine wpAny_holding ?_
 first | refine wpAny_bind (wpAny_pure ?_) | skip
 refine wpAny_bind (wpAny_sequenceKey ht.typeIs (by decide) ?_)
 refine wpAny_bind (wpAny_callSpecial?_slot (name:="__getitem__") ht.typeIs dh
  (wpAny_call_entry dh ht.typeIs entry_tuple_getitem ?_ (args_tuple_getitem _ _)))
 show wpAny _ _ (Builtin.Tuple.tupleItemsOf (.ref t) >>= _) _ _ s
 refine wpAny_bind (tupleItemsOf_ ht ?_)
 refine wpAny_bind (wpAny_typeOf hTs ?_)
 rw[if_pos (by decide)]
 refine wpAny_bind (K1 hs pl pu ?_)
 have hno:¬ ((((sIx items.size 0 lo:Nat):Int)==0&&(1:Int)==1&&(sIx items.size items.size hi-sIx items.size 0 lo)==items.size)=true):=by
  intro q;rw[bC,bC]at q;have q1:((sIx items.size 0 lo:Nat):Int)=0:=bZ q.1.1;have q2:sIx items.size items.size hi-sIx items.size 0 lo=items.size:=bZ q.2
  exact hw ⟨by lia,by lia⟩
 show wpAny _ _ (if (((sIx items.size 0 lo:Nat):Int)==0&&(1:Int)==1&&(sIx items.size items.size hi-sIx items.size 0 lo)==items.size)=true then _ else _) _ _ s
 rw[if_neg hno,A9o]
 first
  | exact wpAny_bind (m:=Builtin.Tuple.tupleExact _) (wpAny_newObj_type (wpAny_pure ⟨_,rfl,wpAny_pure h⟩) htake)
  | exact wpAny_bind (m:=Builtin.Tuple.tupleExact _) (wpAny_newObj_type (wpAny_bind (wpAny_pure (wpAny_pure ⟨_,rfl,wpAny_pure h⟩))) htake)
  | exact wpAny_bind (wpAny_bind (m:=Builtin.Tuple.tupleExact _) (wpAny_newObj_type (wpAny_pure (wpAny_pure ⟨_,rfl,wpAny_pure h⟩)) htake))
  | exact wpAny_bind (wpAny_bind (m:=Builtin.Tuple.tupleExact _) (wpAny_newObj_type (wpAny_pure ⟨_,rfl,wpAny_pure h⟩) htake))
end
end HT
namespace L2
open PySem PySem.Spec PyProof.Rows
abbrev TO:=St->Hp->(q_->Hp->Prop)->Prop
def PO (X:Cx)(e:Option Expr)(t:TO):Prop :=
 ∀
  (pins:y_) (s:u_) (σ:St) (H:Hp) (Q:q_->Hp->Prop),Inv X pins σ H s->t σ H Q ->
  wpAny (model X.prog X.w) X.A (evalPart e X.env) (λu s'=>∃o H',Inv X pins σ H' s'/\IsPart u o/\Q o H') X.xe s
structure QO (X:Cx) (e:(Option Expr)) (t:TO):Prop where
 get:PO X e t
noncomputable def A0q:TO:=λ_ H Q=>Q none H
noncomputable def Bv3 (t:TE):TO:=λσ H Q=>t σ H λx H1=>∃i,x=.int i/\Q (some i) H1
section
variable {X:Cx}{e:Expr}{te:TE}{lo hi:Option Expr}{tl th:TO}{pos p2:Pos}
theorem Bh3:QO X none A0q:=by
 refine⟨?_⟩
 intro a s b H Q I h;exact wpAny_pure ⟨none,H,I,.none,h⟩
theorem Jb (h:QE X e te):QO X (some e) (Bv3 te):=by
 refine⟨?_⟩
 intro a s σ H Q I d
 refine thn (h.1 _ s _ H _ I d) λu s1 ⟨x,f,b,c,g⟩=>?_
 obtain⟨i,rfl,q⟩:=g;obtain⟨t,rfl⟩:=c;exact⟨some i,f,b,.int i t,q⟩
def SlR (X:Cx)(r:V->q_->q_->Hp->VK->Prop):Prop :=
 ∀
  (pins:y_) (s:u_) (σ:St) (H:Hp) (x:V) (v vl vu:Value) (lo hi:q_) (sl:Addr) (Q:VK),Inv X pins σ H s->RelV x v->s.heap.IsSliceOf sl vl vu .none->IsPart vl lo->IsPart vu hi->r x lo hi H Q ->
  ∃T id,typeLookup (.type T) "__getitem__" = pure (some (.builtin id))/\s.TypeIs v T/\wpAny (model X.prog X.w) X.A (getItem v (.ref sl)) (EP X pins σ Q) X.xe s
theorem SlR.or (h:SlR X r) (h':SlR X b):SlR X (λx lo hi H Q=>r x lo hi H Q\/b x lo hi H Q):=by
 intro d s g H x v i j lo hi k Q I e c f a q
 rcases q with q | q
 ·exact h _ s _ H x v _ _ _ _ _ Q I e c f a q
 ·exact h' _ s _ H x v _ _ _ _ _ Q I e c f a q
def tSl (r:V->q_->q_->Hp->VK->Prop)(te:TE)(tl th:TO):TE:=λσ H Q=>te σ H λx H1=>tl σ H1 λl H2=>th σ H2 λu H3=>r x l u H3 Q
theorem A7e (hr:SlR X r) (he:QE X e te) (hl:QO X lo tl) (hu:QO X hi th):QE X (.Subscript e (.Slice lo hi none p2) pos) (tSl r te tl th):=by
 refine⟨?_⟩
 intro c s E H Q I h
 refine Subscript_ (thn (he.1 _ s _ H _ I h) λv B ⟨x,D,i,j,k⟩=>?_)
 refine wpAny_Slice (thn (hl.1 _ _ _ _ _ i k) λm C ⟨l,K,n,o,f⟩=>thn (hu.1 _ _ _ _ _ n f) λg a ⟨u,J,t,w,p⟩=>?_)
 refine wpAny_pure ?_
 have z:Inv X _ _ _ { a with heap:=a.heap.push { cls:=.type "slice",data:=.fields #[m,g,.none] } }:=t.kept λb F q=>Heap.get?_push_of_some _ q
 obtain⟨T,G,y,A,d⟩:=hr _ _ _ _ x v _ _ l u _ Q z j (Heap.IsSliceOf.new ..) o w p
 exact tail_any A y d (by trivial)
def A2l (xs:m8)(lo hi:q_):m8:=(xs.drop (HT.sIx xs.length 0 lo)).take (HT.sIx xs.length xs.length hi-HT.sIx xs.length 0 lo)
theorem Tp (xs:m8)(lo hi:q_):(A2l xs lo hi).length<=xs.length:=by
 unfold A2l;rw[cH,dX];lia
def B5m (K:v9):V->q_->q_->Hp->VK->Prop:=λx lo hi H Q=>∃a xs,x=.ref a/\SqT K H a xs /\
 ¬ (HT.sIx xs.length 0 lo=0/\HT.sIx xs.length xs.length hi=xs.length)/\∀p,H p=none->Q (.ref p) (upd H p (.tup (A2l xs lo hi)))
theorem B0k:SlR X (B5m X.K):=by
 intro e s σ H x v vl vu lo hi sl Q I j k g l h;obtain⟨a,i,rfl,m,hw,q⟩:=h
 cases j
 obtain⟨d,r,f,n⟩:=I.tuple m
 have c:d.toArray.size=i.length:=by exact r.length.symm
 refine⟨"tuple",_,dh.lookup,f.typeIs,?_⟩
 refine HT.Qu f k g l (by grind) ?_ (by simp_all)
 rw[c]
 refine⟨.ref _,_,I.laid (λb ob q=>Heap.get?_push_of_some _ q) (ak _) ?_,rfl,q _ (I.hok.fresh (ak _))⟩
 exact⟨aj (Tp _ _ _) n,_,(r.drop _).take _,zV.new _ _⟩
def A0u (K:v9):R2:=λx y H Q=>∃a b xs ys,x=.ref a/\y=.ref b/\SqT K H a xs/\SqT K H b ys/\xs≠[]/\xs.length+ys.length<=sizeLine /\
 (ys=[]->Q (.ref a) H)/\(ys≠[]->∀p,H p=none->Q (.ref p) (upd H p (.tup (xs++ys))))
theorem Vals.nil_iff (r:Vals xs us):us=[]↔xs=[]:=by
 cases r with
 | nil=>simp
 | cons _ _=>simp
theorem A1l:OpR X (binaryOp .Add) (A0u X.K):=by
 intro e s σ H x y v u Q I o p h;obtain⟨a,b,xs,ys,rfl,rfl,k,l,g,hz,m,j⟩:=h
 cases o
 cases p
 obtain⟨i,d,n,_⟩:=I.tuple k;obtain⟨f,c,r,_⟩:=I.tuple l
 refine HT.Br6 n r (λz=>g (d.nil_iff.mp z)) (λz=>⟨.ref a,H,I,rfl,m (c.nil_iff.mp z)⟩) (λz=>?_) (by rw[<- d.length,<- c.length];grind)
 refine⟨.ref _,_,I.laid (λb ob q=>Heap.get?_push_of_some _ q) (ak _) ?_,rfl,j (λw=>z (c.nil_iff.mpr w)) _ (I.hok.fresh (ak _))⟩
 exact⟨by simp_all,_,d.append c,zV.new _ _⟩
end
noncomputable def ixN (n:Nat) (i:Int):Option Nat:=if 0<=i then (if i<n then some i.toNat else none) else if -(n:Int)<=i then some (i+n).toNat else none
def atI {α:Type}(xs:List α)(i:Int):Option α:=(ixN xs.length i).bind λj=>xs[j]?
theorem Ab8 (h:ixN n i=some j):seqIndex? i n=some j/\j<n/\-(n:Int)<=i/\i<n:=by
 unfold ixN at h
 by_cases h0:0<=i
 ·rw[if_pos h0]at h
  by_cases h1:i<n
  ·rw[if_pos h1]at h
   have e := bV h
   exact⟨by rw[seqIndex_of h0 h1,e],by lia,by lia,h1⟩
  simp_all
 ·rw[if_neg h0]at h
  by_cases h1:-n<=i
  ·rw[if_pos h1]at h
   have e := bV h
   exact⟨by rw[seqIndex_neg (by lia) h1,e],by lia,h1,by lia⟩
  simp_all
theorem Ad4 {xs:List a} {v:a}(h:atI xs i=some v):∃j,seqIndex? i xs.length=some j/\xs[j]?=some v/\j<xs.length/\-(xs.length:Int)<=i/\i<xs.length:=by
 unfold atI at h
 cases e:ixN xs.length i with
 | none=>simp_all
 | some j =>
  obtain⟨c,d,f,b⟩:=Ab8 e
  grind
theorem G7 {xs:List a}{j:Nat}{v:a}(h:xs[j]?=some v):atI xs (j:Int)=some v:=by
 have b := (bz.mp h).1
 have e:ixN xs.length j=some j:=by
  unfold ixN
  simp_all
 unfold atI;grind
def Oj (b:Expr):Prop:=∀o i,subscripted b false o i=operate [o,i] (getItem o i)
def IxR (X:Cx)(r:R2):Prop :=
 ∀
  (value slice:Expr) (pins:y_) (s:u_) (σ:St) (H:Hp) (x y:V) (v u:Value) (Q:VK),Inv X pins σ H s->RelV x v->RelV y u->r x y H Q ->
  subscripted slice false v u=operate [v,u] (getItem v u)->wpAny (model X.prog X.w) X.A (subscriptTail value slice v u) (EP X pins σ Q) X.xe s
def MtR (X:Cx)(id:String)(r:V->m8->Hp->VK->Prop):Prop :=
 ∀
  (pins:y_) (s:u_) (σ:St) (H:Hp) (x:V) (xs:m8) (v:Value) (us:w6) (Q:VK),Inv X pins σ H s->RelV x v->Vals xs us->r x xs H Q ->
  wpAny (model X.prog X.w) X.A (call (.builtin id) (v::us)) (EP X pins σ Q) X.xe s
section
variable {X:Cx}{a b:Expr}{ta tb:TE}{pos:Pos}
theorem IxR.or (h:IxR X r) (h':IxR X d):IxR X (λx y H Q=>r x y H Q\/d x y H Q):=by
 intro b a e s i H x y v u Q I f g q c
 rcases q with q | q
 ·exact h _ _ _ s _ H x y v u Q I f g q c
 ·exact h' _ _ _ s _ H x y v u Q I f g q c
theorem Bu3 (hr:IxR X r) (ha:QE X a ta) (hb:QE X b tb) (hs:Oj b):QE X (.Subscript a b pos) (tOp r ta tb):=by
 obtain⟨ha⟩:=ha;obtain⟨hb⟩:=hb
 refine⟨?_⟩
 intro c s g H Q I h
 exact Subscript_ (Bw2 ha hb I h λv u i x y j f e d q=>hr a b _ _ _ _ x y v u Q f e d q (hs _ _))
def B3n (K:v9):R2:=λx y H Q=>∃p xs i v,x=.ref p/\y=.int i/\SqL K H p xs/\atI xs i=some v/\Q v H
def B3c (K:v9):R2:=λx y H Q=>∃p xs i v,x=.ref p/\y=.int i/\SqT K H p xs/\atI xs i=some v/\Q v H
def B5q:R2:=λx y H Q=>∃z i c,x=.str z/\y=.int i/\z.length<=sizeLine/\atI z.cps.toList i=some c/\Q (.str ⟨#[c]⟩) H
theorem ix_list:IxR X (B3n X.K):=by
 intro g f a s m H x y v u Q I C F h l;obtain⟨p,xs,i,z,rfl,rfl,E,n,q⟩:=h
 cases C
 obtain⟨t,rfl⟩:=F;obtain⟨e,r,c,hz⟩:=I.list E;obtain⟨j,k,D,h3,o,B⟩:=Ad4 n;obtain⟨w,ew,d⟩:=r.get D;have hl:=r.length;have hn:=Xb;have b:EP X a m Q w s:=⟨z,H,I,d,q⟩
 by_cases h0:0<=i
 ·have A:i.toNat=j:=by
   rw[seqIndex_of h0 B]at k
   simp_all
  exact item_listR c.isList h0 (by lia) (by grind) b l
 ·have A:(i+e.toArray.size).toNat=j:=by
   rw[seqIndex_neg (by lia) o]at k
   simp_all
  exact subscriptTail_builtinR c.isList.typeIs slot_list_getitem.lookup
   (wpAny_getItem_list_neg c.isList (by lia) (by simp_all) (by lia) (by grind) ⟨rfl,b⟩) l
theorem ix_tup:IxR X (B3c X.K):=by
 intro b c e s σ H x y v u Q I A g h o;obtain⟨p,xs,i,z,rfl,rfl,m,n,q⟩:=h
 cases A
 obtain⟨t,rfl⟩:=g;obtain⟨k,r,f,hz⟩:=I.tuple m;obtain⟨j,h1,l,h3,h4,h5⟩:=Ad4 n;obtain⟨w,ew,d⟩:=r.get l;have hl:=r.length;have hn:=Xb;have a:EP X _ _ Q w s:=⟨z,H,I,d,q⟩
 exact subscriptTail_builtinR f.typeIs slot_tuple_getitem.lookup
  (getItem_tuple (j:=j) f (by lia) (by lia) (by simp_all) (by grind) ⟨rfl,a⟩) o
theorem Bw1:IxR X B5q:=by
 intro a b d s σ H x y v u Q I f m h g;obtain⟨z,i,c,rfl,rfl,hz,l,q⟩:=h;obtain⟨t,rfl⟩:=f;obtain⟨t',rfl⟩:=m;obtain⟨j,e,k,h3,o,n⟩:=Ad4 l
 have p:z.cps.toList.length=z.length:=by simp[Str.length]
 rw[p]at e o n;have hn:=Xb
 exact tail_any (typeIs_str s z t) slot_str_getitem.lookup (getItem_str (by
  grind) (by rw[e];simpa using k) ⟨.str _,H,I.tok _,⟨_,rfl⟩,q⟩) g
def rIx (K:v9):R2:=λx y H Q=>B3n K x y H Q\/B3c K x y H Q\/B5q x y H Q
theorem Bx6:IxR X (rIx X.K):=ix_list.or (ix_tup.or Bw1)
theorem Ar5 (a:w6)(n j:Nat)(u:Value):Obj.mapSeq (·.setIfInBounds j u) { cls:=.type "list",data:=.seq a.toArray n }={ cls:=.type "list",data:=.seq (a.set j u).toArray n }:=by
 simp[Obj.mapSeq]
theorem Inv.lst {b:St} (I:Inv X pins b H s) (h:H p=some (.lst xs)) :
 ∃(a:w6) (n:Nat),Vals xs a/\s.heap.get? p=some { cls:=.type "list",data:=.seq a.toArray n }/\xs.length<=sizeLine:=by
 obtain⟨z,a,n,r,e⟩:=I.hok p _ h
 grind
theorem Inv.lstUpd {a its':w6} (I:Inv X pins c H s) (h:H p=some (.lst xs))
 (ho:s.heap.get? p=some { cls:=.type "list",data:=.seq a.toArray n }) (hf:f { cls:=.type "list",data:=.seq a.toArray n }={ cls:=.type "list",data:=.seq its'.toArray n' }) (r:Vals ys its') (hz:ys.length<=sizeLine) (t:Nat) :
 Inv X pins c (upd H p (.lst ys)) { s with heap:=s.heap.update p f,toks:=t }:=by
 have e:(s.heap.update p f).get? p=some { cls:=.type "list",data:=.seq its'.toArray n' }:=by
  rw[Heap.get?_update_self f ho (by rw[hf] <;> rfl),hf]
 refine I.write (by rw[h];trivial) (.inl rfl) (λb u d q=>(Heap.get?_update_other _ _ (aC d)).trans q) ⟨_,e⟩ ?_
 exact⟨hz,its',n',r,e⟩
def Bu0:V->V->V->Hp->(Hp->Prop)->Prop:=λo i v H Q=>∃p xs k j,o=.ref p/\i=.int k/\H p=some (.lst xs)/\ixN xs.length k=some j/\Q (upd H p (.lst (xs.set j v)))
theorem set_list:B6i X Bu0:=by
 intro a s w H o i v ov iv u Q I y m g h;obtain⟨p,l,k,j,rfl,rfl,d,x,q⟩:=h
 cases y
 obtain⟨t,rfl⟩:=m;obtain⟨b,n,r,c,hz⟩:=I.lst d;obtain⟨e,h2,z,A⟩:=Ab8 x;have hl:=r.length;have hn:=Xb
 have I':Inv X a w (upd H p (.lst (l.set j v))) { s with heap:=s.heap.update p (Obj.mapSeq (·.setIfInBounds j u)) } :=
  I.lstUpd d c (Ar5 _ n j u) (r.set g j) (by grind) _
 by_cases h0:0<=k
 ·have f:k.toNat=j:=by
   rw[seqIndex_of h0 A]at e
   grind
  exact PySem.W.ki_setAt c h0 (by lia) (by grind) (by grind)
 ·have f:(k+b.toArray.size).toNat=j:=by
   rw[seqIndex_neg (by lia) z]at e
   simp_all
  exact PySem.W.ki_setBack c (by lia) (by simp_all) (by lia) (by grind)
theorem Ae5 (lo hi:q_)(n:Nat):(sliceBounds lo hi none n).1=((HT.sIx n 0 lo:Nat):Int)/\(sliceBounds lo hi none n).2.1=((HT.sIx n n hi:Nat):Int)/\(sliceBounds lo hi none n).2.2=1:=by
 refine⟨?_,?_,rfl⟩
 ·cases lo with
  | none=>simp[sliceBounds,HT.sIx]
  | some i =>
   simp only[sliceBounds,HT.sIx,Option.getD_none,show (1:Int)>0 by decide,bY]
   by_cases h:i<0
   ·simp only[h,bY] <;> lia
   ·simp only[h,bJ] <;> lia
 ·cases hi with
  | none=>simp[sliceBounds,HT.sIx]
  | some i =>
   simp only[sliceBounds,HT.sIx,Option.getD_none,show (1:Int)>0 by decide,bY]
   by_cases h:i<0
   ·simp only[h,bY] <;> lia
   ·simp only[h,bJ] <;> lia
theorem Yd (a:w6)(lo hi:q_):slicePick a.toArray lo hi none=((a.drop (HT.sIx a.length 0 lo)).take (HT.sIx a.length a.length hi-HT.sIx a.length 0 lo)).toArray:=by
 obtain⟨c,d,b⟩:=Ae5 _ _ _;unfold slicePick;rw[c,d,b]
 simp only[sliceRange_one,pick_run] <;> rfl
def B5c (K:v9):V->q_->q_->Hp->VK->Prop:=λx lo hi H Q=>∃a xs,x=.ref a/\SqL K H a xs/\∀p,H p=none->Q (.ref p) (upd H p (.lst (A2l xs lo hi)))
theorem Bl5:SlR X (B5c X.K):=by
 intro e s σ H x v vl vu lo hi sl Q I i j f k h;obtain⟨a,xs,rfl,g,q⟩:=h
 cases i
 obtain⟨l,r,d,m⟩:=I.list g;have c:=r.length
 refine⟨"list",_,slot_list_getitem.lookup,d.isList.typeIs,?_⟩
 refine wpAny_getItem_list_slice d.isList j f k .none (by simp) ?_ (by simp_all)
 rw[Yd,<- c]
 refine⟨.ref _,_,I.laid (λb ob q=>Heap.get?_push_of_some _ q) (ak _) ?_,rfl,q _ (I.hok.fresh (ak _))⟩
 exact⟨aj (Tp _ _ _) m,_,0,(r.drop _).take _,Heap.get?_push_size _ rfl⟩
noncomputable def Qz:V->Bool
 | .non=>true
 | .bl _=>true
 | .int _=>true
 | .str _=>true
 | _=>false
noncomputable def eqV:V->V->Bool
 | .non,.non=>true
 | .bl a,.bl b=>a==b
 | .bl a,.int b=>(if a then 1 else 0)==b
 | .int a,.bl b=>a==(if b then 1 else 0)
 | .int a,.int b=>a==b
 | .str a,.str b=>a==b
 | _,_=>false
theorem B0f (e:RelV y u) (c:RelV x v) (f:Qz y=true) (fx:Qz x=true):SeqAt.EqAt A s u v (eqV y x):=by
 cases y with
 | non =>
  cases e
  cases x with
  | non=>cases c;exact SeqAt.EqAt.same _
  | bl b=>cases c;exact SeqAt.EqAt.none_bool b
  | int b=>obtain⟨t,rfl⟩:=c;exact SeqAt.EqAt.none_int b t
  | str b=>obtain⟨t,rfl⟩:=c;exact SeqAt.EqAt.none_str b t
  | _=>exact absurd (show false=true from fx) aQ
 | bl a =>
  cases e
  cases x with
  | non=>cases c;exact SeqAt.EqAt.bool_none a
  | bl b=>cases c;exact SeqAt.EqAt.bool_bool a b
  | int b=>obtain⟨t,rfl⟩:=c;exact SeqAt.EqAt.bool_int a b t
  | str b=>obtain⟨t,rfl⟩:=c;exact SeqAt.EqAt.bool_str a b t
  | _=>exact absurd (show false=true from fx) aQ
 | int a =>
  obtain⟨d,rfl⟩:=e
  cases x with
  | non=>cases c;exact SeqAt.EqAt.int_none a d
  | bl b=>cases c;exact SeqAt.EqAt.int_bool a d b
  | int b=>obtain⟨t,rfl⟩:=c;exact SeqAt.EqAt.int_int a d b t
  | str b=>obtain⟨t,rfl⟩:=c;exact SeqAt.EqAt.int_str a d b t
  | _=>exact absurd (show false=true from fx) aQ
 | str a =>
  obtain⟨d,rfl⟩:=e
  cases x with
  | non=>cases c;exact SeqAt.EqAt.str_none a d
  | bl b=>cases c;exact SeqAt.EqAt.str_bool a d b
  | int b=>obtain⟨t,rfl⟩:=c;exact SeqAt.EqAt.str_int a d b t
  | str b=>obtain⟨t,rfl⟩:=c;exact SeqAt.EqAt.str_str a _ b t
  | _=>exact absurd (fx) aQ
 | _=>exact absurd f aQ
def eqU (x:V)(u:Value):Bool:=match u with
 | .none=>eqV .non x
 | .bool b=>eqV (.bl b) x
 | .int i _=>eqV (.int i) x
 | .str z _=>eqV (.str z) x
 | _=>false
theorem A9r (r:RelV y u) (f:Qz y=true):eqU x u=eqV y x:=by
 cases y with
 | non=>cases r;rfl
 | bl b=>cases r;rfl
 | int i=>obtain⟨t,rfl⟩:=r;rfl
 | str z=>obtain⟨t,rfl⟩:=r;rfl
 | _=>trivial
theorem Ab1 {x:V}:∀{xs:m8}{us:w6},Vals xs us->xs.all Qz=true->us.any (eqU x)=xs.any λy=>eqV y x
 | _,_,.nil,_=>rfl
 | y::xs,u::us,.cons r t,f=>by
  rw[dZ,bC]at f;rw[dH,dH,A9r r f.1,Ab1 t f.2]
theorem V9 {A:q9}{s:u_}{x:V}{v:Value}(rx:RelV x v)(fx:Qz x=true):∀{xs:m8}{us:w6},Vals xs us->xs.all Qz=true->∀u∈us,SeqAt.EqAt A s u v (eqU x u)
 | _,_,.nil,_=>λu hu=>by cases hu
 | y::xs,u::us,.cons r t,f=>λu' hu=>by
  rw[dZ,bC]at f
  rcases az.mp hu with rfl | hu
  ·rw[A9r r f.1];exact B0f r rx f.1 fx
  ·exact V9 rx fx t f.2 u' hu
def inV (x:V)(xs:m8):Bool:=xs.any λy=>eqV y x
def rIn (K:v9)(neg:Bool):R2:=λx y H Q=>∃p xs,y=.ref p/\(SqL K H p xs\/SqT K H p xs)/\Qz x=true/\xs.all Qz=true/\Q (.bl (if neg then !inV x xs else inV x xs)) H
theorem Z4:OpR X (compareOp .NotIn) (rIn X.K true):=by
 intro e s σ H x y v u Q I f i h;obtain⟨p,xs,rfl,b,g,c,q⟩:=h
 cases i
 rcases b with b | b
 ·obtain⟨a,r,d,j⟩:=I.list b
  refine SeqAt.notIn_listAt _ d.isList (λw k=>V9 f g r c w (by grind)) ⟨.bl _,H,I,rfl,?_⟩
  rw[show a.toArray.any _=a.any (eqU x) by simp,Ab1 r c]
  exact q
 ·obtain⟨a,r,d,j⟩:=I.tuple b
  refine SeqAt.notIn_tupleAt _ d (λw k=>V9 f g r c w (by grind)) ⟨.bl _,H,I,rfl,?_⟩
  rw[show a.toArray.any _=a.any (eqU x) by simp,Ab1 r c]
  exact q
theorem zB.or {r b:m8->Hp->VK->Prop}(h:zB X f r) (h':zB X f b):zB X f (λxs H Q=>r xs H Q\/b xs H Q):=by
 intro c s d H xs e Q I a q
 rcases q with q | q
 ·exact h _ s _ H _ _ Q I a q
 ·exact h' _ s _ H _ _ Q I a q
theorem Ag7:zB X (.type "list") (λxs H Q=>∃p k,xs=[.ref p]/\(SqL X.K H p k\/SqT X.K H p k)/\∀l,H l=none->Q (.ref l) (upd H l (.lst k))):=by
 intro z s σ H xs us Q I r h;obtain⟨p,k,rfl,f,q⟩:=h;obtain⟨u,rfl,A⟩:=vals1 r
 cases A
 have g:∀(a:List _),Vals _ _->k.length<=sizeLine->∀(d:Heap) (t:Nat),(∀b o',s.heap.get? b=some _->d.get? b=some _) ->
  d.get? _=some _->EP X _ _ Q _ { s with heap:=d }:=λa c j d t i e =>
  ⟨.ref _,_,I.laid i (ak _) (show zA _ _ _ _ _ (.lst _) from ⟨j,a,t,c,e⟩),rfl,q _ (I.hok.fresh (ak _))⟩
 rcases f with f | f
 ·obtain⟨a,c,y,j⟩:=I.list f
  have m:=c.length;obtain⟨o,w,x,n,v⟩:=y.isList
  exact call_list_seq p (.inl rfl) w x v (λd t i e=>g _ c j _ _ i e) (by simp_all)
 ·obtain⟨a,c,y,j⟩:=I.tuple f
  have m:=c.length;obtain⟨o,w,x,n,v⟩:=y
  exact call_list_seq p (.inr rfl) w x v (λd t i e=>g _ c j _ _ i e) (by simp_all)
theorem Yi:zB X (.type "tuple") (λxs H Q=>∃p c,xs=[.ref p]/\((SqL X.K H p c/\∀l,H l=none->Q (.ref l) (upd H l (.tup c)))\/(SqT X.K H p c/\Q (.ref p) H))):=by
 intro i s σ H xs us Q I r h;obtain⟨p,c,rfl,h⟩:=h;obtain⟨u,rfl,w⟩:=vals1 r
 cases w
 rcases h with ⟨d,q⟩ | ⟨d,q⟩
 ·obtain⟨a,g,f,m⟩:=I.list d
  have k:=g.length
  refine call_tuple_list f.isList (λj v=>?_) (by simp_all)
  have n:Inv X _ _ H { s with heap:=j }:=I.kept v
  have t:Inv X _ _ (upd H _ (.tup _)) { s with heap:=j.push _ } :=
   n.laid (λb o e=>Heap.get?_push_of_some _ e) (ak _) (show zA _ _ _ _ _ _ from ⟨m,a,g,zV.new _ _⟩)
  exact⟨.ref _,_,t,rfl,q _ (n.hok.fresh (ak _))⟩
 ·obtain⟨a,g,f,m⟩:=I.tuple d
  exact call_tuple_same f ⟨.ref p,H,I,rfl,q⟩
def tyV (K:v9)(T:String)(x:V)(H:Hp):Prop:=match x with
 | .str _=>T = "str"
 | .int _=>T = "int"
 | .ref p=>(T = "list" /\ ∃xs,SqL K H p xs)\/(T = "tuple" /\ ∃o,K.lookup p=some o/\o.cls=.type "tuple" /\ o.dict=none) \/
  (T = "dict" /\ ((∃kvs,H p=some (.dK kvs))\/∃kvs,H p=some (.dT kvs)))\/(T = "set" /\ ∃S n,H p=some (.set S n))\/(T = "tuple" /\ ∃xs,H p=some (.tup xs))
 | _=>False
theorem B2y (I:Inv X pins l H s) (r:RelV x v) (ty:tyV X.K T x H) :
 s.TypeIs v T/\∀a,v=.ref a->∃ob,s.heap.get? a=some ob/\ob.dict=none:=by
 cases x with
 | str z =>
  obtain⟨t,rfl⟩:=r
  cases (ty)
  exact⟨typeIs_str s z t,λ_ e=>nomatch e⟩
 | int i =>
  obtain⟨t,rfl⟩:=r
  cases (ty)
  exact⟨typeIs_int s i t,λ_ e=>nomatch e⟩
 | ref p =>
  cases r
  rcases ty with ⟨rfl,m,u⟩ | ⟨rfl,o,b,q,k⟩ | ⟨rfl,b⟩ | ⟨rfl,S,n,b⟩ | ⟨rfl,m,b⟩
  ·obtain⟨h,_,j,_⟩:=I.list u
   refine⟨j.isList.typeIs,λa e=>?_⟩
   obtain⟨o,n,e,c,k,_⟩:=j
   grind
  ·refine⟨⟨o,I.kIn p o b,q⟩,λa e=>?_⟩
   cases e
   exact⟨o,I.kIn _ o b,k⟩
  ·have z:∃o,s.heap.get? p=some o/\o.ExactDict:=by
    rcases b with ⟨g,b⟩ | ⟨g,b⟩
    ·obtain⟨_,_,_,_,o,_,_,e,d,_⟩:=I.hok p _ b
     grind
    ·exact(I.hok p _ b).elim
   obtain⟨o,e,d⟩:=z
   refine⟨⟨o,e,d.1⟩,λa f=>?_⟩
   cases f
   exact⟨o,e,d.2.1⟩
  ·obtain⟨o,_,_,_,e,d,_⟩:=I.hok p _ b
   refine⟨⟨o,e,d.1⟩,λa f=>?_⟩
   cases f
   exact⟨o,e,d.2.1⟩
  ·obtain⟨_,h,_,o,e,c,_,dn⟩:=I.hok p _ b
   refine⟨⟨o,e,c⟩,λa f=>?_⟩
   grind
 | _=>exact False.elim ty
def tBM (K:v9)(T:String)(r:V->m8->Hp->VK->Prop)(to:TE)(t:TA):TE:=λσ H Q=>to σ H λx H1=>tyV K T x H1/\t σ H1 λxs H2=>r x xs H2 Q
variable {o e:Expr}{es:v_}{to:TE}{t:TA}{name:Str}{apos cpos:Pos}{T id:String}{r:V->m8->Hp->VK->Prop}
theorem Bv0 (pa:PlainAttrs T)(slot:Slot T name id)(hty:typeOf (.builtin id)=pure (.type "method_descriptor")) (hm:MtR X id r) (ho:PE X o to) (ha:PA X (e::es) t)
 (hbase:attributeBase o name X.env (eval o X.env)=eval o X.env:=by rfl)
 (hfew:((backTo cpos (starEach (e::es) X.env)).all (λx=>!x.1)&&(backToKw cpos (keywordEach [] X.env)).all (λx=>x.1.isSome)
  && decide ((e::es).length+([]:List Keyword).length+(if ([]:List Keyword).isEmpty then 0 else 1)<30))=true:=by rfl)
 (hline:(apos.endLine==cpos.line)=true:=by rfl) (hs:starEach (e::es) X.env=(false,eval e X.env)::starEach es X.env:=by rfl) (hplain:(backTo cpos (starEach es X.env)).any (·.1)=false:=by rfl) :
 PE X (.Call (.Attribute o name apos) (e::es) [] cpos) (tBM X.K T r to t):=by
 intro b s p H Q I h
 refine wpAny_Call_method_late hbase hfew hline rfl (thn (ho _ s _ H _ I h) λv z ⟨x,y,c,a,j,k⟩=>?_)
 obtain⟨g,m⟩:=B2y c a j
 refine⟨T,id,pa,slot,hty,g,m,?_⟩
 have d:=ha cpos _ _ _ _ _ c k;rw[hs]at d ⊢
 refine Calls.callWith_builtin (by grind) (Calls.evalArgs_plain ?_)
 exact thn d λi q ⟨u,w,l,n,f⟩=>hm _ _ _ _ x _ v i Q l a n f
end
def MtM (X:Cx)(id:String)(r:V->m8->Hp->VK->Prop):Prop :=
 ∀
  (pins:y_) (s:u_) (σ:St) (H:Hp) (x:V) (xs:m8) (v:Value) (us:w6) (Q:VK),Inv X pins σ H s->RelV x v->Vals xs us->r x xs H Q ->
  wpAny (model X.prog X.w) X.A (call (.builtin id) (v::us)) (EP X pins σ Q) X.xe s
theorem Vals.one:∀{x:V}{us:w6},Vals [x] us->∃u,us=[u]/\RelV x u
 | _,_,h=>by
  cases h with
  | cons r t=>cases t;exact⟨_,rfl,r⟩
theorem Vals.two:∀{x y:V}{us:w6},Vals [x,y] us->∃u v,us=[u,v]/\RelV x u/\RelV y v
 | _,_,_,h=>by
  cases h with
  | cons r t =>
   cases t with
   | cons q t=>cases t;exact⟨_,_,rfl,r,q⟩
theorem Vals.eraseIdx:∀{xs:m8}{us:w6}(i:Nat),Vals xs us->Vals (xs.eraseIdx i) (us.eraseIdx i)
 | _,_,_,.nil=>.nil
 | _,_,0,.cons _ t=>t
 | _,_,i+1,.cons r t=>.cons r (Vals.eraseIdx i t)
section
variable {X:Cx}{pins:y_}{σ:St}{H:Hp}{s:u_}{l b:Addr}{xs ys:m8}
theorem Inv.lset {a its':w6} (I:Inv X pins σ H s) (c:H l=some (.lst xs))
 (e:s.heap.get? l=some { cls:=.type "list",data:=.seq a.toArray n }) (hf:f a.toArray=its'.toArray) (hv:Vals ys its') (hz:ys.length<=sizeLine) :
 Inv X pins σ (upd H l (.lst ys)) { s with heap:=s.heap.update l (Obj.mapSeq f),toks:=t' }:=by
 have q:=d_ e f;rw[hf]at q
 refine I.write (by rw[c];trivial) (.inl rfl) (λg u d b=>(Heap.get?_update_other _ _ (aC d)).trans b) ⟨_,q⟩ ?_
 exact⟨hz,its',_,hv,q⟩
theorem Inv.lnew (I:Inv X pins σ H s) (hv:Vals ys a) (hz:ys.length<=sizeLine) :
 Inv X pins σ (upd H s.heap.objs.size (.lst ys)) { s with heap:=s.heap.push { cls:=.type "list",data:=.seq a.toArray },toks:=t' } :=
 I.laid (λ_ _ q=>Heap.get?_push_of_some _ q) (ak _) ⟨hz,a,0,hv,Heap.get?_push_size _ rfl⟩
theorem Inv.fresh (I:Inv X pins σ H s):H s.heap.objs.size=none:=I.hok.fresh (ak _)
theorem Inv.lstM (I:Inv X pins σ H s)(b:H l=some (.lst xs)):xs.length<=sizeLine/\∃(a:w6) (n:Nat),Vals xs a/\xs.length=a.length/\s.heap.get? l=some { cls:=.type "list",data:=.seq a.toArray n }:=by
 obtain⟨z,a,n,r,e⟩:=I.hok l _ b;exact⟨z,a,n,r,r.length,e⟩
theorem A9y (h:n<=sizeLine):Builtin.List.listTooLong n=false:=by
 unfold Builtin.List.listTooLong
 grind
end
section
variable {X:Cx}
def rAppend:V->m8->Hp->VK->Prop:=λx vs H Q=>∃l xs y,x=.ref l/\vs=[y]/\H l=some (.lst xs)/\xs.length<sizeLine/\Q .non (upd H l (.lst (xs++[y])))
theorem A3n:MtM X "list.append" rAppend:=by
 intro a s σ H x vs v us Q I c f h;obtain⟨l,xs,y,rfl,rfl,b,hz,q⟩:=h
 cases c
 obtain⟨u,rfl,d⟩:=f.one;obtain⟨z,g,n,r,hl,e⟩:=I.lstM b
 refine call_meets F.slot_list_append ⟨_,e,rfl⟩ F.entry_list_append (F.args_list_append_2 _ _) (PySem.list_append l _ n u (by simp_all)) ⟨e,?_⟩
 refine⟨.non,_,I.lset b e (by simp) (r.append (.cons d .nil)) ?_,rfl,q⟩
 grind
def rExtend:V->m8->Hp->VK->Prop:=λx vs H Q=>∃l b xs zs,x=.ref l/\vs=[.ref b]/\H l=some (.lst xs)/\H b=some (.lst zs)/\xs.length+zs.length<=sizeLine/\Q .non (upd H l (.lst (xs++zs)))
theorem A2i:MtM X "list.extend" rExtend:=by
 intro pins s σ H x vs v us Q I rx rv h;obtain⟨l,b,xs,zs,rfl,rfl,hH,hB,hz,q⟩:=h
 cases rx
 obtain⟨u,rfl,ru⟩:=rv.one
 cases ru
 obtain⟨z,its,n,r,hl,e⟩:=I.lstM hH;obtain⟨z2,its2,n2,r2,hl2,e2⟩:=I.lstM hB
 have hsz:its.toArray.size+its2.toArray.size<=sizeLine:=by rw[bB,bB];lia
 have hlong:¬ (!its.toArray.isEmpty&&Builtin.List.listTooLong (its.toArray.size+its2.toArray.size))=true:=by
  rw[A9y hsz,Bool.and_false];exact aQ
 refine call_meets F.slot_list_extend ⟨_,e,rfl⟩ F.entry_list_extend (F.args_list_extend_2 _ _)
  (AutoSeq1.list_extend_list_list_0 l its.toArray n b its2.toArray n2 hlong (by rw[bB];lia) (by lia)) ⟨e,e2,?_⟩
 refine⟨.non,_,I.lset (its':=its++its2) hH e (by simp) (r.append r2) ?_,rfl,q⟩
 rw[bh];lia
def rPopAt:V->m8->Hp->VK->Prop:=λx vs H Q=>∃l xs i k y,x=.ref l/\vs=[.int i]/\H l=some (.lst xs)/\-(2 ^ 63)<=i/\i<2 ^ 63/\seqIndex? i xs.length=some k/\xs[k]?=some y/\Q y (upd H l (.lst (xs.eraseIdx k)))
theorem A5w:MtM X "list.pop" rPopAt:=by
 intro b s σ H x vs v us Q I f g h;obtain⟨l,xs,i,k,y,rfl,rfl,c,d,j,hk,o,q⟩:=h
 cases f
 obtain⟨u,rfl,m⟩:=g.one;obtain⟨t,rfl⟩:=m;obtain⟨z,p,n,r,hl,e⟩:=I.lstM c;obtain⟨w,hw,a⟩:=r.get o
 refine call_meets F.slot_list_pop ⟨_,e,rfl⟩ F.entry_list_pop (F.args_list_pop_2 _ _)
  (MeetsSeq.list_pop_at l _ n i t k w (fitsIndex_both d j) (by simp_all) (by simp_all) (by simp_all)) ⟨e,?_⟩
 refine⟨y,_,I.lset c e ?_ (r.eraseIdx k) ?_,a,q⟩
 ·simp_all
 grind
def B5o:R2:=λx y H Q=>∃l b xs zs,x=.ref l/\y=.ref b/\H l=some (.lst xs)/\H b=some (.lst zs)/\xs.length+zs.length<=sizeLine/\∀p,H p=none->Q (.ref p) (upd H p (.lst (xs++zs)))
theorem Bw8:OpR X (binaryOp .Add) B5o:=by
 intro d s σ H x y v u Q I k g h;obtain⟨l,b,xs,zs,rfl,rfl,i,j,hz,q⟩:=h
 cases k
 cases g
 obtain⟨z,c,n,r,hl,e⟩:=I.lstM i;obtain⟨z2,a,n2,o,m,p⟩:=I.lstM j
 refine PySem.P.add_list e p ?_ (by grind)
 have f:c.toArray++a.toArray=(c++a).toArray:=by simp
 rw[f]
 exact⟨.ref _,_,I.lnew (r.append o) (by simp_all),rfl,q _ I.fresh⟩
end
section
variable {κ:Type}[DecidableEq κ]
noncomputable def A4s (kvs:List (κ×V)) (k:κ):Option V:=(kvs.find? λkv=>decide (kv.1=k)).map (·.2)
theorem Bc0 {p:κ×V} (e:p.1=k):A4s (p::r) k=some p.2:=by simp[A4s,e]
theorem A6z {p:κ×V} (e:¬ p.1=k):A4s (p::r) k=A4s r k:=by simp[A4s,e]
theorem KV.any (r:KV a vs) (k:κ):(a.any λb=>decide (b.1=k))=vs.any λb=>decide (b.1=k):=by
 induction r with
 | nil=>rfl
 | cons h t c=>simp_all
end
abbrev KT (H:Hp):List (PyData×V)->List (PyData×Addr×Value)->Prop:=Paired λp q=>p.1=q.1/\KAt H p.1 q.2.1/\RelV p.2 q.2.2
theorem KT.val (r:KT H a xs) (k:t_):B2d (A4s a k) ((atKey xs k).map (·.2)):=by
 induction r with
 | nil=>trivial
 | @cons p q j c h t i =>
  obtain⟨d,_,g⟩:=h
  by_cases e:p.1=k
  ·have b:atKey (q::c) k=some q.2:=by simp[atKey,(d.symm.trans e)]
   rw[Bc0 e,b];exact g
  ·have f:¬ q.1=k:=λz=>e (d.trans z)
   have b:atKey (q::c) k=atKey c k:=by simp[atKey,f]
   rw[A6z e];grind
theorem KT.keeps (r:KT H a xs) (ht:∀b ys,H b=some (.tup ys)->H' b=some (.tup ys)):KT H' a xs :=
 Paired.mapP r λ_ _ z=>⟨z.1,z.2.1.stay ht,z.2.2⟩
section
variable {P:u6}{w:World}{H:Hp}{h:Heap}{a:Addr}
theorem Im (b:HOk P w H h) (e:Rd H a u):zA P w H h a u:=e.ok b
end
section
variable {X:Cx}{pins:y_}{σ:St}{H:Hp}{s:u_}{a:Addr}
theorem Inv.big (I:Inv X pins σ H s):sysModules<s.heap.objs.size:=by
 exact eE (by decide) ((I.mod.glob.keeps I.bk).lt)
theorem Br9 (I:Inv X pins σ H s) (e:Mut (H a)) (hs:Heap.SameBut a s.heap h') (he:∃q,h'.get? a=some q) (c:zA X.prog X.w (upd H a ob) h' a ob) :
 Inv X pins σ (upd H a ob) { s with heap:=h',toks:=t' } :=
 I.write e (.inl rfl) (λb q d z=>(hs.2 b d).trans z) he c
end
end L2
namespace Att
open PySem PySem.W PySem.Calls PyProof.Rows
theorem T7 : ∀(ns:List Int) (vs:w6),WellAll P h vs (ns.map WData.int)->IntsAre vs ns:=by
 intro ns
 induction ns with
 | nil =>
  intro vs w
  cases w
  exact .nil
 | cons n ns c =>
  intro vs w
  cases w with
  | cons a b =>
   cases a
   exact .cons _ _ (c _ b)
theorem A3y {l:OpenLaw} (hn:l.most=some n)
 (hpre:l.row.toRowW.claim.pre args=true) (hwl:WellAll P h vals args) :
 ∃a vs ns,vals=[Value.ref a]/\args=[WData.list (ns.map WData.int)]/\h.get? a=some { cls:=.type "list",data:=.seq vs.toArray }/\IntsAre vs ns/\ns.length<=n:=by
 have hsh:WShape.hasAll [] args [.list .int]=true:=(pre_splitW hpre).1;have hc:l.pre.holds [] { args:=args }=true:=(pre_splitW hpre).2;obtain⟨d,r,rfl,h1,h2⟩:=hasAllW_cons hsh;obtain rfl:=hasAllW_nil h2;obtain⟨xs,rfl,h3⟩:=hasW_list h1;obtain⟨ns,rfl⟩:=items_int h3
 have hlen:ns.length<=n:=by
  unfold OpenLaw.pre at hc
  have h4:(WTm.not (.lt (.lit (.int (n:Int))) (.len (.arg 0)))).holds [] { args:=[.list (ns.map .int)] }=true:=by
   have h4:=(holds_andW hc).1;rw[hn]at h4;exact h4
  have h5:=condW_of h4 (w_not (w_lt w_lit (w_len_list (w_arg rfl))));rw[ao]at h5
  refine fH λq=>?_
  have q':(n:Int)<((ns.length:Nat):Int):=by lia
  first
   | (rw[aK q']at h5;exact absurd h5 (by decide))
   | (simp at h5;lia)
 cases hwl with
 | cons w1 w2 =>
  cases w2
  cases w1 with
  | list ho hall=>exact⟨_,_,ns,rfl,rfl,ho,T7 ns _ hall,hlen⟩
theorem A3z (l:OpenLaw)(args:List WData):l.row.toRowW.claim.post args (.bool true) args=true :=
 postW_of
  (show WShape.has _ _ _=true by rfl)
  (show (WTm.eq _ _).value _ _=some _ from w_eq_bool (w_res rfl) w_lit) rfl
theorem Ai3 {l:OpenLaw}
 (hn:l.most=some n) (t:d.params.defaults=[])
 (i:∀(w:World) (c b:u_) (mg B:x_) (fa:Addr) (o:Obj) (z v h:Value) (a:Addr) (vs:w6) (ns:List Int),
  Ground q loose [] XP w c mg B b.heap->YP w b.heap ->
  b.heap.get? fa=some o->o.data=.func (docDef d.name d.params d.body d.scope z v h)->b.heap.CodeRec v d.name->mg d.name=some (.ref fa) ->
  b.heap.get? a=some { cls:=.type "list",data:=.seq vs.toArray }->IntsAre vs ns->ns.length<=n->b.gens=#[] ->
  codeAny (model l.prog w) callerA (.call (.ref fa) ⟨[.ref a],[]⟩) (λr s'=>r=.ok (.ret (.bool true))/\OldK b.heap s'.heap/\s'.os=b.os/\AllBare s'.gens) b) :
 WalkO q loose XP YP l.row.toRowW d [] (λf vs=>PySem.call f vs):=by
 intro w c b mg B G Y fa o z v h M H J K u C m D x A as g y F p I;obtain rfl:M=.none:=Dflts.none C t;obtain rfl:H=.none:=Dflts.noKw C;obtain⟨a,vs,ns,rfl,rfl,j,e,k⟩:=A3y hn g p
 refine enter_call (codeAny_mono (i w _ _ _ _ _ o _ _ _ a _ _ G Y J (fd_plain K) u m j e k D) λr s' N=>?_)
 obtain⟨rfl,L,O,P⟩:=N
 exact⟨.inl ⟨.bool _,.bool _,[],rfl,λ_=>rfl,.bool _,A3z l _,λ_=>⟨List.Pairwise.nil,λ_ E=>nomatch E⟩⟩,L,O,P⟩
end Att
namespace L2
open PySem PySem.Spec PyProof.Rows
theorem Y8:∀{vs:w6}{ns:List Int},IntsAre vs ns->Vals (ns.map V.int) vs
 | _,_,.nil=>.nil
 | _,_,.cons n t h=>.cons ⟨t,rfl⟩ (Y8 h)
noncomputable def J7 (s:Stmt):Arguments:=match s with
 | .FunctionDef _ a _ _ _ _ _ _ _ _=>a
 | _=>{ posonlyargs:=[],args:=[],vararg:=none,kwonlyargs:=[],kw_defaults:=[],kwarg:=none,defaults:=[] }
noncomputable def Dr (s:Stmt):List Stmt:=match s with
 | .FunctionDef _ _ b _ _ _ _ _ _ _=>b
 | _=>[]
noncomputable def Aj (s:Stmt):Scope:=match s with
 | .FunctionDef _ _ _ _ _ _ sc _ _ _=>sc
 | _=>{ kind:=.function,names:=[],isGenerator:=false,isCoroutine:=false }
noncomputable abbrev CX0:CXT:=λ_ _ _ _ _ _=>False
abbrev E0:XK:=λ_ _ _=>False
theorem B5h : Hi CX0 X E0:=λ_ _ _ _ _ _ _ h=>h.elim
structure Fun (K:v9) (x qual:Str) (st:Stmt) (f:Addr) (fd:u5):Prop where
 ex:∃(oc:Value) (od:Option Addr) (kV doc pm:Value) (an:Option Addr) (cdv ct:Value) (osl:Array (u9)),
  fd=PySem.W.fnOf x qual (J7 st) (Dr st) (Aj st) .none kV doc pm an cdv ct/\K.lookup f=some ⟨oc,od,.func fd,osl⟩/\PySem.W.codeIn K cdv qual=true
 kp:PySem.W.keepIn K (.ref f)=true
section
variable {P:u6}{w:World}{K:v9}{mg:x_}{base:Heap}
theorem Fun.ok {st:Stmt} (F:Fun K x qual st f i) (S:Bc N ps (Aj st)) (g:∀vs H Q E,sp vs H Q E->vs.length=ps.length)
 (b:∀(c:Value) (A:q9) (a:List Env) (s:u_) (H:Hp) (vs:m8) (Q:VK) (E:XK),Room k (A.deeper (envOfC qual (Aj st) s.heap.objs.size f c))->sp vs H Q E ->
  ∃t,PSs (Jk CX0 P w K mg base N qual (Aj st) f c A a s H E).nox (Dr st) t/\t { nx:=λ_ H'=>Q .non H',rt:=Q } (start N vs) H):FnOk P w K mg base CX0 (k+1) f i ps sp:=by
 obtain⟨oc,od,kV,l,pm,an,c,ct,j,rfl,m,e⟩:=F.ex
 refine A1m m e S g λA a s H vs Q E n d=>?_
 obtain⟨t,h,q⟩:=b _ A _ s H _ Q E n d;exact⟨t,h.nox,q⟩
theorem Fun.binds {st:Stmt} (F:Fun K x qual st f d)
 (h:∀(i b e:Value) (g:Option Addr) (a c:Value) (us:w6),us.length=ps.length->bindArgs (PySem.W.fnOf x qual (J7 st) (Dr st) (Aj st) .none i b e g a c) ⟨us,[]⟩=pure (ps.zip us)):Binds K d ps []:=by
 obtain⟨oc,od,i,b,e,g,a,c,k,rfl,lk,j⟩:=F.ex;exact .all (h _ _ _ _ _ _)
end
def Same (H H':Hp):Prop:=∀b o,H b=some o->H' b=some o
theorem Same.refl (H:Hp):Same H H:=λ_ _ h=>h
theorem Same.trans (a:Same H e) (b:Same e d):Same H d:=λc o h=>b c o (a c o h)
theorem Same.free (e:Same H H') (h:H' l=Option.none):H l=Option.none:=by
 cases q:H l with
 | none=>rfl
 | some o =>
  rw[e l o q]at h
  grind
theorem Same.seq {K:v9} (e:Same H H') (h:SqL K H a xs):SqL K H' a xs:=by
 rcases h with (h | ⟨o,h⟩) | h
 ·exact .inl (.inl (e _ _ h))
 ·exact .inl (.inr ⟨o,e _ _ h⟩)
 ·exact .inr h
end L2
set_option maxHeartbeats 4000000
namespace L2
open PySem PySem.Spec PyProof.Rows
noncomputable abbrev By (X:Cx) (N':v4) (scope:Scope) (cl:List (Str×Addr)) (C:Addr) (s₀:u_) (H₀:Hp) (ex:v6):Cx :=
 { X with N:=N',env:=compEnvC scope cl C X.env,s₀:=s₀,H₀:=H₀,outer:=X.stack,stack:=X.stack,ex:=ex,fn:=λx=>decide (scope.names.lookup x=some .local\/scope.names.lookup x=some .cell),pn:=[],xe:=λ_ _=>False }
noncomputable def cst (idx:o4) (σ:St):St:=idx.map λo=>o.bind λi=>(σ[i]?).join
structure Gj (X:Cx) (N':v4) (idx:o4) (scope:Scope):Prop where
 kind:scope.kind=.function
 nod:(scope.names.map (·.1)).Nodup
 free:∀y∈scope.names,y.2=.free->X.env.kindOf y.1=some .cell\/X.env.kindOf y.1=some .free
 len:idx.length=N'.length
 at':∀(j i:Nat) (x:Str),N'[j]?=some x->idx[j]?=some (some i)->X.N[i]?=some x/\scope.names.lookup x=some .free
structure Uy (X:Cx) (N':v4) (idx:o4) (scope:Scope):Prop extends Gj X N' idx scope where
 cell:∀y∈scope.names,y.2≠.cell
theorem Kc (env:Env):∀(names:List (Str×NameKind)) (acc:List (Str×Addr)),(∀y∈names,y.2=.free->∃c,env.cells.lookup y.1=some c) ->
 ∃
  cl,(forIn names acc λ(p:Str×NameKind) (r:List (Str×Addr))=>(if (p.2==NameKind.free)=true then (do let c <- cellOf env p.1;pure (ForInStep.yield ((p.1,c)::r))) else pure (ForInStep.yield r):Sem (ForInStep (List (Str×Addr)))))=(pure cl:Sem (List (Str×Addr))) /\
  (∀x c,cl.lookup x=some c->acc.lookup x=some c\/(env.cells.lookup x=some c/\(x,NameKind.free)∈names))/\(∀x,((∃c,acc.lookup x=some c)\/(x,NameKind.free)∈names)->∃c,cl.lookup x=some c)
 | [],acc,_=>⟨acc,rfl,λx c e=>.inl e,λx h=>by
  rcases h with h | h
  ·exact h
  ·simp at h⟩
 | (n,k)::r,acc,h=>by
  by_cases hk:k=NameKind.free
  ·subst hk
   obtain⟨c,hc⟩:=h (n,.free) (by simp) rfl
   obtain⟨cl,e,a,b⟩:=Kc env r ((n,c)::acc) λy hy=>h y (aW _ hy)
   refine⟨cl,?_,λx c' e'=>?_,λx hx=>?_⟩
   ·rw[dI]
    simp only[cellOf,hc];exact e
   ·rcases a x c' e' with z | ⟨z1,z2⟩
    ·rw[aN]at z
     split at z
     ·rename_i hxe
      have:x=n:=by simpa using hxe
      subst this
      cases z
      exact .inr ⟨hc,by simp⟩
     ·exact .inl z
    ·exact .inr ⟨z1,aW _ z2⟩
   ·refine b x ?_
    rcases hx with ⟨c',z⟩ | z
    ·left
     rw[aN]
     split
     ·exact⟨_,rfl⟩
     ·exact⟨_,z⟩
    ·rcases az.mp z with z | z
     ·left
      cases z
      exact⟨c,by simp⟩
     ·exact .inr z
  ·obtain⟨cl,e,a,b⟩:=Kc env r acc λy hy=>h y (aW _ hy)
   refine⟨cl,?_,λx c' e'=>?_,λx hx=>?_⟩
   ·rw[dI]
    have:(k==NameKind.free)=false:=by cases k <;> first | rfl | exact absurd rfl hk
    simp only[this];exact e
   ·rcases a x c' e' with z | ⟨z1,z2⟩
    ·exact .inl z
    ·exact .inr ⟨z1,aW _ z2⟩
   ·refine b x ?_
    rcases hx with z | z
    ·exact .inl z
    ·rcases az.mp z with z | z
     ·cases z;exact absurd rfl hk
     ·exact .inr z
theorem Lq (h:∀y∈scope.names,y.2=.free->∃c,env.cells.lookup y.1=some c) :
 ∃d,closureFor scope env=pure d/\(∀x c,d.lookup x=some c->env.cells.lookup x=some c/\(x,NameKind.free)∈scope.names)/\(∀x,(x,NameKind.free)∈scope.names->∃c,d.lookup x=some c):=by
 obtain⟨d,e,a,b⟩:=Kc _ _ [] h
 refine⟨d,?_,λx c g=>?_,λx f=>b x (.inr f)⟩
 ·unfold closureFor
  grind
 simp_all
noncomputable abbrev Bl6 (ifs:v_) (env:Env):Sem Bool:=forIn ifs true λc r=>if r=true then do let ok <- isTrue c env (eval c env);pure (ForInStep.yield ok) else pure (ForInStep.yield r)
def B2v (M:Model)(A:q9)(E:z_)(tg elt:Expr)(ifs:v_)(env:Env)(it acc v:Value)(Z:u_->Prop)(s:u_):Prop :=
 wpAny M A (letOwnedTupleGo tg it v) (λ_ a=>wpAny M A (assign tg env v) (λ_ b=>wpAny M A (Bl6 ifs env) (λok c=>match ok with
  | true=>wpAny M A (eval elt env) (λx d=>wpAny M A (call (.builtin "list.append") [acc,x]) (λ_ z=>Z z) E d) E c
  | false=>Z c) E b) E a) E s
theorem Bn8 (C:E=notedBy (model P w) A env λx z=>R (.error x) z) (Wd:Nat->u_->Prop)
 (step:∀n z,Wd n z->wpAny (model P w) A (pyNext it) (λr a=>match r with
  | none=>R (.ok .next) a
  | some v=>B2v (model P w) A E o i j env it acc v (λy=>∃m,m<n/\Wd m y) a) E z) (n:Nat) (h:Wd n s) :
 codeAny (model P w) A (.compLoop (.ListComp i [⟨o,f,j,0⟩] p l) 0 it acc env) R s:=by
 subst C
 refine codeAny_loop (I:=Wd) rfl (turn:=?_) n h
 intro k z G
 show wpAny (model P w) A (Sem.onRaise (compTurn (.ListComp i [⟨o,f,j,0⟩] p l) 0 it acc env) λx=>do noteFrame x env;theTreesLotGoes x) _ _ z
 apply wpAny_noted;rw[compTurn_list];apply wpAny_bind;apply wpAny_standAt;apply wpAny_bind
 refine wpAny_mono (step k z G) ?_ λ_ _ q=>q
 rintro (_ | v) a u
 ·exact wpAny_pure u
 apply wpAny_bind
 refine wpAny_mono u ?_ λ_ _ q=>q
 intro _ b D;apply wpAny_bind
 refine wpAny_mono D ?_ λ_ _ q=>q
 intro _ c F;apply wpAny_bind
 refine wpAny_mono F ?_ λ_ _ q=>q
 rintro (_ | _) d t
 ·exact wpAny_pure (And.intro rfl t)
 apply wpAny_bind;apply wpAny_bind
 refine wpAny_mono t ?_ λ_ _ q=>q
 intro y e H;apply wpAny_bind
 refine wpAny_mono H ?_ λ_ _ q=>q
 intro _ g B;exact wpAny_pure (wpAny_pure (And.intro rfl B))
def PTs (X:Cx)(ifs:v_)(t:TT):Prop :=
 ∀
  (pins:y_) (s:u_) (σ:St) (H:Hp) (Q:Bool->Hp->Prop),Inv X pins σ H s->t σ H Q ->
  wpAny (model X.prog X.w) X.A (forIn ifs true λc r=>if r=true then do let ok <- isTrue c X.env (eval c X.env);pure (ForInStep.yield ok) else pure (ForInStep.yield r)) (TP X pins σ Q) X.xe s
structure QTs (X:Cx) (e:(v_)) (t:TT):Prop where
 get:PTs X e t
def Br0:TT:=λ_ H Q=>Q true H
theorem Br5 : PTs X [] Br0:=λ_ _ _ H _ I h=>wpAny_tests_nil ⟨H,I,h⟩
theorem Bg1 (h:PT X c t):PTs X [c] t:=λa s b H Q I q=>wpAny_tests_one (h _ s _ H Q I q)
def tLC (idx:o4)(wi:TI)(g:TG)(tc:TT)(te:TE):TE:=λσ H Q=>wi σ H λJ H1 =>
 ∃
  W:Nat->Nat->St->m8->Hp->Prop,(∃m,W 0 m (cst idx σ) [] H1)/\∀i m σ' acc H,W i m σ' acc H ->
  (J.stop i H/\∀p,H p=none->Q (.ref p) (upd H p (.lst acc))) \/
  (J.go i H/\acc.length<sizeLine/\∃N:St->m8->Hp->Prop,(∀σ' acc' H',N σ' acc' H'->∃m',m'<m/\W (i+1) m' σ' acc' H')/\∀x H',J.yld i H x H'->g x σ' H' λσ2 H2=>tc σ2 H2 λb H3 =>
   if b=true then te σ2 H3 λy H4=>N σ2 (acc++[y]) H4 else N σ2 acc H3)
theorem HOk.track (x:HOk P w H h) (hn:H a=none) (f:zA P w (upd H a o) h a o):HOk P w (upd H a o) h:=λb u e=>by
 by_cases hb:b=a
 ·subst hb;rw[Bd]at e;simp_all
 ·rw[Ak hb]at e
  exact(x b u e).stay (λc v _ q=>q) λc q=>by rw[Ak (Ay q hn)];grind λc d q=>by rw[Ak (Ay q hn)];grind λc g d q=>by rw[Ak (Ay q hn)];grind
theorem Ip {env:Env}:∀{names:List (Str×NameKind)}{x:Str},names.lookup x=some .free ->
 (names.map λ(n,k)=>if (k==NameKind.free&&env.scope.kind==.function&&env.kindOf n==some .cell) then (n,NameKind.cell) else (n,k)).lookup x=some .free \/
 (names.map λ(n,k)=>if (k==NameKind.free&&env.scope.kind==.function&&env.kindOf n==some .cell) then (n,NameKind.cell) else (n,k)).lookup x=some .cell
 | [],_,h=>by simp at h
 | (n,k)::r,x,h=>by
  have ih:=@Ip env r x;simp only[aG]
  cases hx:x==n with
  | true =>
   simp only[aN,hx]at h
   cases h
   split
   ·right;simp[aN,hx]
   ·left;simp[aN,hx]
  | false =>
   simp only[aN,hx]at h
   split
   ·simp only[aN,hx];exact ih h
   ·simp only[aN,hx];exact ih h
theorem Mg {env:Env}:∀{names:List (Str×NameKind)}{x:Str}{k:NameKind},
 (names.map λ(n,k)=>if (k==NameKind.free&&env.scope.kind==.function&&env.kindOf n==some .cell) then (n,NameKind.cell) else (n,k)).lookup x=some k ->
 names.lookup x=some k\/(k=.cell/\names.lookup x=some .free)
 | [],_,_,h=>by simp at h
 | (n,k')::r,x,k,h=>by
  have ih:=@Mg env r x k;simp only[aG]at h
  cases hx:x==n with
  | true =>
   by_cases hc:(k'==NameKind.free&&env.scope.kind==.function&&env.kindOf n==some .cell)=true
   ·rw[if_pos hc]at h
    simp only[aN,hx]at h
    cases h
    right
    refine⟨rfl,?_⟩
    simp only[aN,hx]
    have:k'=.free:=by
     simp only[bC]at hc;exact bZ hc.1.1
    rw[this]
   ·rw[if_neg hc]at h
    simp only[aN,hx]at h ⊢;exact .inl h
  | false =>
   simp only[aN,hx]
   refine ih ?_
   by_cases hc:(k'==NameKind.free&&env.scope.kind==.function&&env.kindOf n==some .cell)=true
   ·rw[if_pos hc]at h;simpa only[aN,hx] using h
   ·rw[if_neg hc]at h;simpa only[aN,hx] using h
theorem lookup_mem {α:Type}:∀{l:List (Str×α)}{x:Str}{k:α},l.lookup x=some k->(x,k)∈l
 | [],_,_,h=>by simp at h
 | (n,k')::r,x,k,h=>by
  rw[aN]at h
  split at h
  ·rename_i e
   have:x=n:=by simpa using e
   subst this
   cases h
   simp
  ·exact aW _ (lookup_mem h)
theorem mem_lookup {α:Type}:∀{l:List (Str×α)}{x:Str}{k:α},(l.map (·.1)).Nodup->(x,k)∈l->l.lookup x=some k
 | [],_,_,_,h=>by simp at h
 | (n,k')::r,x,k,hn,h=>by
  have hn:(n::r.map (·.1)).Nodup:=hn
  obtain⟨h1,h2⟩:=bO.mp hn
  rcases az.mp h with h | hr
  ·cases h;simp
  ·rw[aN]
   split
   ·rename_i e
    have:x=n:=by simpa using e
    subst this
    exact absurd (show x∈r.map (·.1) from aO.mpr ⟨(x,k),hr,rfl⟩) h1
   ·exact mem_lookup h2 hr
section
variable {X:Cx}{N':v4}{idx:o4}{scope:Scope}
theorem Bi3 {pins:y_}{σ:St}{H:Hp}{s:u_}{fp:v6}{cl:List (Str×Addr)}{C:Addr}(L:Gj X N' idx scope)(I:Inv X pins σ H s)(hf:∀b∈fp,Nm X pins H b)(hfs:∀b∈fp,b<s.heap.objs.size)
 (hC:s.heap.objs.size<=C) (c1:∀x c,cl.lookup x=some c->(X.env.cells.lookup x=some c/\(x,NameKind.free)∈scope.names)\/(s.heap.objs.size<=c/\(x,NameKind.cell)∈scope.names)) (c2:∀x,((x,NameKind.free)∈scope.names\/(x,NameKind.cell)∈scope.names)->∃c,cl.lookup x=some c) (c3:∀x y c,cl.lookup x=some c->cl.lookup y=some c->x=y) :
 (By X N' scope cl C s H fp).Ok where
 mod:=I.ok.mod
 kind:=L.kind
 glob:=I.ok.glob
 blt:=I.ok.blt
 above:=hC
 inj:=c3
 has:=λx h=>by
  refine c2 x ?_
  have h':(relabel scope X.env).names.lookup x=some .cell\/(relabel scope X.env).names.lookup x=some .free:=h
  rcases h' with h | h
  ·rcases Mg h with z | ⟨_,z⟩
   ·exact .inr (lookup_mem z)
   ·exact .inl (lookup_mem z)
  ·rcases Mg h with z | ⟨z,_⟩
   ·exact .inl (lookup_mem z)
   ·cases z
 cab:=λx c hx hc=>by
  have hx':scope.names.lookup x=some .local\/scope.names.lookup x=some .cell:=aR hx
  rcases c1 x c hc with ⟨_,z⟩ | ⟨z,_⟩
  ·have z:=mem_lookup L.nod z
   rw[z]at hx'
   rcases hx' with hx' | hx' <;> cases hx'
  ·exact z
 hd:=I.ok.hd
 frames:=I.ok.frames
 stk:=.inl rfl
 exf
  := λb hb=>⟨aD (aA (hfs b hb) hC),λx c e=>by
  rcases c1 x c e with ⟨z,_⟩ | ⟨z,_⟩
  ·exact(hf b hb).2.2.2.2.1 x c z
  ·exact bw (aA (hfs b hb) z)⟩
 bs:=I.bs
 bsz:=aj I.ok.bsz I.sz
 noex:=λb o e hb=>by
  rcases (hf b hb).2.2.2.1 with z | z
  ·exact I.ok.noex b o e z
  ·exact absurd (aA (Heap.lt_size e) (aj I.ok.bsz z)) (aY _)
 exfs:=λb hb z=>by
  rcases az.mp (I.stkSub b z) with q | q
  ·exact(hf b hb).2.1 q
  ·exact(hf b hb).2.2.1 q
 funs:=I.stack
 frf:=I.stkFree
 tab:=λp hp=>I.base.tbls p.1 p.2 (I.ok.tab p hp)
theorem A8w {pins:y_}{σ:St}{H:Hp}{s s':u_}{fp:v6}{cl:List (Str×Addr)}{C:Addr}{m:x_}(L:Gj X N' idx scope)(I:Inv X pins σ H s)(hf:∀b∈fp,Nm X pins H b)(hfs:∀b∈fp,b<s.heap.objs.size)
 (hC:s.heap.objs.size<=C) (c1:∀x c,cl.lookup x=some c->(X.env.cells.lookup x=some c/\(x,NameKind.free)∈scope.names)\/(s.heap.objs.size<=c/\(x,NameKind.cell)∈scope.names)) (c2:∀x,((x,NameKind.free)∈scope.names\/(x,NameKind.cell)∈scope.names)->∃c,cl.lookup x=some c) (c3:∀x y c,cl.lookup x=some c->cl.lookup y=some c->x=y) (c4:∀x c,cl.lookup x=some c->(x,NameKind.cell)∈scope.names->s'.heap.IsCell c none)
 (ho:s'.os=s.os) (hg:s'.gens=s.gens) (k:∀b o,s.heap.get? b=some o->s'.heap.get? b=some o) (hn:s'.heap.Ns C m):Inv (By X N' scope cl C s H fp) [] (cst idx σ) H s' where
 ok:=Bi3 L I hf hfs hC c1 c2 c3
 os:=ho
 bare:=by rw[hg];exact I.bare
 base:=Un.kept k
 loc:=by
  refine⟨m,hn,λj x v e1 e2 e3=>?_⟩
  obtain⟨m0,hn0,hl⟩:=I.loc
  have e2':(idx.map λo=>o.bind λi=>(σ[i]?).join)[j]?=some (some v):=e2
  rw[bH]at e2'
  cases ei:idx[j]? with
  | none=>rw[ei]at e2';cases e2'
  | some o =>
   rw[ei]at e2';simp only[b_,fJ]at e2'
   cases o with
   | none=>cases e2'
   | some i =>
    have e2'':(σ[i]?).join=some v:=e2';obtain⟨hNi,hfr⟩:=L.at' j i x e1 ei
    have hσ:σ[i]?=some (some v):=by
     cases q:σ[i]? with
     | none=>rw[q]at e2'';cases e2''
     | some z=>rw[q]at e2'';rw[show z=some v from e2'']
    have hk:=L.free _ (lookup_mem hfr) rfl
    have hvis:Vis X.env.scope x:=by
     rcases hk with z | z
     ·exact .inr (.inl z)
     ·exact .inr (.inr z)
    obtain⟨u,r,lk⟩:=hl i x v hNi hσ hvis
    refine⟨u,r,.inr ?_⟩
    rcases lk with ⟨z,_⟩ | ⟨_,c,hc,hcl⟩
    ·exfalso
     have z':X.env.kindOf x=some .local:=z
     rcases hk with q | q
     ·rw[show X.env.kindOf x=_ from q]at z';cases z'
     ·rw[show X.env.kindOf x=_ from q]at z';cases z'
    ·obtain⟨c',hc'⟩:=c2 x (.inl (lookup_mem hfr))
     have:c'=c:=by
      rcases c1 x c' hc' with ⟨q,_⟩ | ⟨_,q⟩
      ·rw[hc]at q;exact(bV q).symm
      ·rw[mem_lookup L.nod q]at hfr;cases hfr
     subst this
     refine⟨?_,c',hc',let ⟨o,e,d⟩:=hcl; ⟨o,k _ o e,d⟩⟩
     rcases Ip (env:=X.env) hfr with q | q
     ·exact .inr q
     ·exact .inl q
 cell:=λx c e=>by
  rcases c1 x c e with ⟨q,_⟩ | ⟨_,q⟩
  ·obtain⟨v,z⟩:=I.cell x c q
   exact⟨v,let ⟨o,e,d⟩:=z; ⟨o,k _ o e,d⟩⟩
  ·exact⟨none,c4 x c e q⟩
 free:=I.hok.fresh hC
 freeC:=λx c e=>by
  rcases c1 x c e with ⟨q,_⟩ | ⟨q,_⟩
  ·exact I.freeC x c q
  ·exact I.hok.fresh q
 pin:=λp hp=>by simp at hp
 hok:=I.hok.kept k
 len:=by
  show (idx.map _).length=N'.length
  rw[ao];exact L.len
end
section
variable {X:Cx}{N':v4}{idx:o4}{scope:Scope}{elt tg iter:Expr}{ifs:v_}{pos:Pos}{wi:TI}{g:TG}{tc:TT}{te:TE}
theorem Pn:∀(names:List (Str×NameKind)) (h:Heap) (acc:List (Str×Addr)),(∀x y c,acc.lookup x=some c->acc.lookup y=some c->x=y)->(∀x c,acc.lookup x=some c->c<h.objs.size) ->
 (∀x c,(cellsFrom h.objs.size names acc).lookup x=some c->acc.lookup x=some c\/(h.objs.size<=c/\(x,NameKind.cell)∈names/\(pushCells h names).IsCell c none)) /\
 (∀x,((∃c,acc.lookup x=some c)\/(x,NameKind.cell)∈names)->∃c,(cellsFrom h.objs.size names acc).lookup x=some c) /\
 (∀x y c,(cellsFrom h.objs.size names acc).lookup x=some c->(cellsFrom h.objs.size names acc).lookup y=some c->x=y)
 | [],h,acc,hi,hl=>by
  refine⟨λx c e=>.inl e,λx z=>?_,hi⟩
  rcases z with z | z
  ·exact z
  ·exact nomatch z
 | (n,k)::r,h,acc,hi,hl=>by
  unfold cellsFrom pushCells
  by_cases hk:(k==NameKind.cell)=true
  ·rw[if_pos hk,if_pos hk]
   have hk':k=.cell:=bZ hk;subst hk';have sz:(h.push { cls:=.type "cell",data:=.cell none }).objs.size=h.objs.size+1:=Heap.size_push ..
   have ih:=Pn r (h.push { cls:=.type "cell",data:=.cell none }) ((n,h.objs.size)::acc) (λx y c e1 e2=>?_) (λx c e=>?_)
   ·rw[sz]at ih
    obtain⟨i1,i2,i3⟩:=ih
    refine⟨λx c e=>?_,λx z=>?_,i3⟩
    ·rcases i1 x c e with q | ⟨q1,q2,q3⟩
     ·rw[aN]at q
      split at q
      ·rename_i hb
       cases q
       have:x=n:=bZ hb;subst this;exact .inr ⟨ak _,aP,_,pushCells_keeps _ _ _ _ (Heap.get?_push_size _ rfl),rfl⟩
      ·exact .inl q
     ·exact .inr ⟨cU q1,aW _ q2,q3⟩
    ·refine i2 x ?_
     by_cases hx:x=n
     ·subst hx;exact .inl ⟨h.objs.size,by simp⟩
     ·rcases z with ⟨c,z⟩ | z
      ·exact .inl ⟨c,by rw[aN,beq_false_of_ne hx];exact z⟩
      ·rcases az.mp z with z | z
       ·cases z;exact absurd rfl hx
       ·exact .inr z
   ·rw[aN]at e1 e2
    split at e1
    ·rename_i hb1
     cases e1
     split at e2
     ·rename_i hb2
      exact(bZ hb1).trans (bZ hb2).symm
     ·exact absurd (hl _ _ e2) (aY _)
    ·split at e2
     ·cases e2
      exact absurd (hl _ _ e1) (aY _)
     ·exact hi x y c e1 e2
   ·rw[sz]
    rw[aN]at e
    split at e
    ·cases e;exact cJ _
    ·exact cV (hl x c e)
  ·rw[if_neg hk,if_neg hk]
   have ih:=Pn r h acc hi hl;obtain⟨i1,i2,i3⟩:=ih
   refine⟨λx c e=>?_,λx z=>i2 x ?_,i3⟩
   ·rcases i1 x c e with q | ⟨q1,q2,q3⟩
    ·exact .inl q
    ·exact .inr ⟨q1,aW _ q2,q3⟩
   ·rcases z with z | z
    ·exact .inl z
    ·rcases az.mp z with z | z
     ·cases z;exact absurd rfl hk
     ·exact .inr z
theorem Bj0
 (h:Q (newEnv scope s.heap.objs.size a (cellsFrom (s.heap.objs.size+1) scope.names d) qual none .none (some b) builtinsNs) { s with heap:=pushCells (s.heap.push { cls:=.type "dict",data:=.dict #[] }) scope.names }) :
 wpAny M A (newFunctionEnv scope a d [] qual none .none (some b)) Q E s:=by
 refine wpAny_bind (wpAny_alloc ?_)
 refine wpAny_bind (wpAny_layCells _ λe f c=>by trivial _ _ _ _ ?_)
 rw[show ({ s with heap:=s.heap.push _ }:u_).heap.objs.size=s.heap.objs.size+1 from Heap.size_push ..]
 exact wpAny_bind (wpAny_pure (wpAny_pure h))
theorem Zf {pins:y_}{σ:St}{S:Hp}{s2:u_}{it:Addr}{fp:v6}{tn:Nat->Heap->Prop}{J:It}{K:List (Str×Addr)}{E:z_}{RR:Value->Addr->Result->u_->Prop}{F:m8->Hp->Prop}{xc:Cx->Value->u_->Prop}
 (L:Gj X N' idx scope) (hc:X.calm=true)
 (hg:∀K C s₀ H₀ ex,PG (By X N' scope K C s₀ H₀ ex) tg g) (ht:∀K C s₀ H₀ ex,PTs (By X N' scope K C s₀ H₀ ex) ifs tc) (he:∀K C s₀ H₀ ex,PE ((By X N' scope K C s₀ H₀ ex).wish (xc (By X N' scope K C s₀ H₀ ex))) elt te)
 (c1:∀x c,K.lookup x=some c->X.env.cells.lookup x=some c/\(x,NameKind.free)∈scope.names) (c2:∀x,(x,NameKind.free)∈scope.names->∃c,K.lookup x=some c)
 (I2:Inv X pins σ S s2) (T:Turn X.prog X.w X.K tg J fp it tn) (st2:tn 0 s2.heap) (f2:∀b∈fp,Nm X pins S b) (W:Nat->Nat->St->m8->Hp->Prop) (w0:∃m,W 0 m (cst idx σ) [] S)
 (turn:∀i m t acc H,W i m t acc H->(J.stop i H/\F acc H) \/
  (J.go i H/\acc.length<sizeLine/\∃N:St->m8->Hp->Prop,(∀t acc' w,N t acc' w->∃m',m'<m/\W (i+1) m' t acc' w)/\∀x w,J.yld i H x w->g x t w λY S=>tc Y S λb H3 =>
   if b=true then te Y H3 λy H4=>N Y (acc++[y]) H4 else N Y acc H3))
 (hR:∀(D C:Addr) (s':u_) (acc:m8) (a:w6) (n:Nat) (w:Hp) (m:x_),s2.heap.objs.size<=D->s2.heap.objs.size<=C->D≠C->s'.heap.Ns C m->s'.heap.get? D=some { cls:=.type "list",data:=.seq a.toArray n }->Vals acc a->acc.length<=sizeLine ->
  w D=none->w C=none->s'.os=s2.os->AllBare s'.gens->Un (frs X.stack) fp S w s2.heap s'.heap->HOk X.prog X.w w s'.heap->F acc w->RR (.ref D) C (.ok .next) s')
 (hE:∀(D C:Addr) (K:List (Str×Addr)) (ev:Value) (s':u_),s2.heap.objs.size<=C->xc (By X N' scope K C s2 S fp) ev s'->wpAny (model X.prog X.w) X.A (noteFrame ev X.env) (λ_ z=>RR (.ref D) C (.error ev) z) (λx z=>RR (.ref D) C (.error x) z) s') :
 wpAny (model X.prog X.w) X.A (newList []) (λacc M=>wpAny (model X.prog X.w) X.A (newFunctionEnv scope X.env.globals K [] X.env.qual none .none (some X.env)) (λcenv s₄ =>
  codeAny (model X.prog X.w) X.A (.compStart (.ListComp elt [⟨tg,iter,ifs,0⟩] scope pos) 0 (.ref it) acc { cenv with scope:=relabel scope X.env }) (RR acc cenv.locals) s₄) E M) E s2:=by
 have hfs:∀b∈fp,b<s2.heap.objs.size:=λb A=>let ⟨o,e,_⟩:=T.obj _ _ st2 b A; Heap.lt_size e
 refine wpAny_newObj_type (Bj0 ?_)
 dsimp only
 generalize hH2:s2.heap.push { cls:=.type "list",dict:=none,data:=.seq ([]:w6).toArray }=G
 have hC:G.objs.size=s2.heap.objs.size+1:=by rw[<- hH2,Heap.size_push]
 have hDC:s2.heap.objs.size≠G.objs.size:=by rw[hC];exact aD (cJ _)
 have B:s2.heap.objs.size<=G.objs.size:=by rw[hC];exact c7 _
 obtain⟨j,l⟩:∃j,j=pushCells (G.push { cls:=.type "dict",data:=.dict #[] }) scope.names:=⟨_,rfl⟩;rw[<- l]
 have Z:j.Ns G.objs.size (λ_=>none):=by rw[l];exact(Heap.Ns.new G (.type "dict")).keeps (pushCells_keeps _ _)
 have old:∀b o,s2.heap.get? b=some o->j.get? b=some o:=λb o e=>by rw[l];exact pushCells_keeps _ _ b o (Heap.get?_push_of_some _ (hH2▸Heap.get?_push_of_some _ e))
 have hacc:j.get? s2.heap.objs.size=some { cls:=.type "list",dict:=none,data:=.seq ([]:w6).toArray }:=by rw[l];exact pushCells_keeps _ _ _ _ (Heap.get?_push_of_some _ (hH2▸Heap.get?_push_size _ rfl))
 have szD:(G.push { cls:=.type "dict",data:=.dict #[] }).objs.size=G.objs.size+1:=Heap.size_push ..
 obtain⟨k1,k2,k3⟩:=Pn scope.names (G.push { cls:=.type "dict",data:=.dict #[] }) K (λx y c e1 e2=>I2.ok.inj x y c (c1 x c e1).1 (c1 y c e2).1) (λx c e=>by
  obtain⟨v,o,ho,_⟩:=I2.cell x c (c1 x c e).1
  rw[szD];exact cV (aA (Heap.lt_size ho) B))
 rw[szD,<- l]at k1;rw[szD]at k2 k3;obtain⟨cl0,hcl0⟩:∃cl0,cl0=K:=⟨_,rfl⟩;have c1o:=c1;have c2o:=c2;rw[<- hcl0]at k1 k2 k3 c1o c2o;rw[<- hcl0]
 clear c1 c2
 generalize cellsFrom (G.objs.size+1) scope.names cl0=K at k1 k2 k3 ⊢
 have c1:∀x c,K.lookup x=some c->(X.env.cells.lookup x=some c/\(x,NameKind.free)∈scope.names)\/(s2.heap.objs.size<=c/\(x,NameKind.cell)∈scope.names):=λx c e=>by
  rcases k1 x c e with q | ⟨q1,q2,_⟩
  ·exact .inl (c1o x c q)
  ·exact .inr ⟨aj B (cU q1),q2⟩
 have c2:∀x,((x,NameKind.free)∈scope.names\/(x,NameKind.cell)∈scope.names)->∃c,K.lookup x=some c:=λx z=>k2 x (z.imp (λz=>c2o x z) id)
 have c4:∀x c,K.lookup x=some c->(x,NameKind.cell)∈scope.names->j.IsCell c none:=λx c e z=>by
  rcases k1 x c e with q | ⟨_,_,q⟩
  ·have:=mem_lookup L.nod (c1o x c q).2
   rw[mem_lookup L.nod z]at this;cases this
  ·exact q
 let X':Cx:=By X N' scope K G.objs.size s2 S fp
 have I1:Inv X' [] (cst idx σ) S { s2 with heap:=j }:=A8w L I2 f2 hfs B c1 c2 k3 c4 rfl rfl old Z
 have hD2:S s2.heap.objs.size=none:=I2.hok.fresh (ak _)
 have hDfs:s2.heap.objs.size∉X'.fs:=λz=>by
  obtain⟨_,o,ho,_⟩:=I2.stack.mem z;exact absurd (Heap.lt_size ho) (aY _)
 have hDfp:s2.heap.objs.size∉fp:=λz=>absurd (hfs _ z) (aY _)
 have R:∀{w:Hp} {pl:y_},(∀b∈fp,w b=none)->(∀p∈pl,p.1∉fp)->∀b∈fp,Nm X' pl w b:=λ{w pl} hn P b A =>
  ⟨hn b A,aD (aA (hfs b A) B),λz=>by
   rcases az.mp (I2.stkSub b z) with q | q
   ·exact(f2 b A).2.1 q
   ·exact(f2 b A).2.2.1 q,.inl A,λx c e=>by
    rcases c1 x c e with ⟨z,_⟩ | ⟨z,_⟩
    ·exact(f2 b A).2.2.2.2.1 x c z
    ·exact bw (aA (hfs b A) z),λp O z=>P p (by have hp':p∈[]++pl:=O;simpa using hp') (z▸A)⟩
 have loop:∀M:u_,M={ s2 with heap:=j } ->
  codeAny (model X.prog X.w) X.A (.compLoop (.ListComp elt [⟨tg,iter,ifs,0⟩] scope pos) 0 (.ref it) (.ref s2.heap.objs.size) (compEnvC scope K G.objs.size X.env)) (RR (.ref s2.heap.objs.size) G.objs.size) M:=by
  rintro M rfl
  obtain⟨m0,w0⟩:=w0
  refine Bn8 rfl (Wd:=λn s'=>∃i t acc a k w,Inv X' [(s2.heap.objs.size,{ cls:=.type "list",data:=.seq a.toArray k })] t w s'/\Vals acc a/\acc.length<=sizeLine/\tn i s'.heap/\(∀b∈fp,w b=none)/\W i n t acc w) (step:=?_) m0
   ⟨0,cst idx σ,[],[],0,S,I1.pins_of (λp O=>?_),.nil,aB _,T.keep _ _ _ st2 λb _ o e=>old b o e,λb A=>(f2 b A).1,w0⟩
  ·rintro n s3 ⟨i,U,acc,a,k,H3,I3,rv,hz,st3,fr3,w3⟩
   have P:∀p∈[((s2.heap.objs.size,{ cls:=.type "list",data:=.seq a.toArray k }):Addr×Obj)],p.1∉fp:=λp O=>by
    rcases aJ.mp O with rfl;exact hDfp
   rcases turn i n U acc H3 w3 with ⟨stop,q⟩ | ⟨go,hlt,N,hN,step⟩
   ·refine wpAny_mono (T.done X' rfl rfl rfl hc i _ s3 U H3 (λ_ _=>False) I3 (R fr3 P) st3 stop) (λr s4 ⟨hr,I4⟩=>?_) λ_ _ f=>f.elim
    subst hr;obtain⟨p1,p2,p3,p4,p5⟩:=I4.pin (s2.heap.objs.size,{ cls:=.type "list",data:=.seq a.toArray k }) (aq _ aP);obtain⟨m4,hn4,_⟩:=I4.loc;exact hR _ _ s4 acc a k H3 m4 (ak _) B hDC hn4 p1 rv hz p2 I4.free I4.os I4.bare I4.base I4.hok q
   ·refine wpAny_mono (T.item X' rfl rfl rfl hc i _ s3 U H3 (λ_ _=>False) I3 (R fr3 P) st3 go) (λr s4 ⟨u,hr,h4⟩=>?_) λ_ _ f=>f.elim
    subst hr
    refine wpAny_mono h4 (λ_ s5 ⟨x,H5,I5,r5,y5,st5,fr5⟩=>?_) λ_ _ f=>f.elim
    have I5':=I5.pinned (R fr5 P) (T.obj _ _ st5)
    refine wpAny_mono (hg _ _ _ _ _ _ s5 U H5 x u _ I5' r5 (step x H5 y5)) (λ_ s6 ⟨Q,H6,I6,q6⟩=>?_) λ_ _ f=>f.elim
    refine wpAny_mono (ht _ _ _ _ _ _ s6 Q H6 _ I6 q6) (λok s7 ⟨H7,I7,q7⟩=>?_) λ_ _ f=>f.elim
    have tnk:∀{t:St} {w:Hp} {s':u_},Inv X' ([(s2.heap.objs.size,{ cls:=.type "list",data:=.seq a.toArray k })]++Xl fp s5.heap) t w s'->tn (i+1) s'.heap/\∀b∈fp,w b=none:=λ{t w s'} I=>by
     refine⟨T.keep _ _ _ st5 λb A o e=>(I.pin (b,o) (aq _ (aq _ (Ml A e)))).1,λb A=>?_⟩
     obtain⟨o,e,d⟩:=T.obj _ _ st5 b A;exact(I.pin (b,o) (aq _ (aq _ (Ml A e)))).2.1
    cases ok with
    | false =>
     rw[if_neg (by decide)]at q7
     obtain⟨m',hm,w7⟩:=hN _ _ _ q7;exact⟨m',hm,i+1,Q,acc,a,k,H7,I7.unpinned,rv,hz,(tnk I7).1,(tnk I7).2,w7⟩
    | true =>
     rw[if_pos rfl]at q7
     refine wpAny_mono (he _ _ _ _ _ _ s7 Q H7 _ (I7.wish _) q7) (λy s8 ⟨yv,H8,I8,r8,q8⟩=>?_) λev s8 f=>hE _ _ _ ev s8 B f
     have I8:=I8.unwish;obtain⟨m',hm,w8⟩:=hN _ _ _ q8;obtain⟨p1,p2,p3,p4,p5⟩:=I8.pin (s2.heap.objs.size,{ cls:=.type "list",data:=.seq a.toArray k }) (aq _ aP)
     refine call_meets PySem.F.slot_list_append ⟨_,p1,rfl⟩ PySem.F.entry_list_append (PySem.F.args_list_append_2 _ _) (PySem.list_append s2.heap.objs.size a.toArray k y (by have:=rv.length;rw[bB];lia)) ⟨p1,?_⟩
     have hz':=rv.length;obtain⟨t8,f8⟩:=tnk I8
     have I8':Inv X' [] Q H8 s8:=I8.pins_of λp O=>nomatch O
     have q:=d_ p1 (·.push y)
     have e':(a.toArray.push y)=(a++[y]).toArray:=by simp
     rw[e']at q
     obtain⟨k9,q⟩:∃k9,(s8.heap.update s2.heap.objs.size (Obj.mapSeq (·.push y))).get? s2.heap.objs.size=some { cls:=.type "list",data:=.seq (a++[y]).toArray k9 }:=⟨_,q⟩
     have I9:Inv _ _ _ _ { s8 with heap:=s8.heap.update _ (Obj.mapSeq (·.push y)) } :=
      I8'.turned (λb o A e=>(Heap.get?_update_other _ _ (aC A)).trans e) p2 p3 (.inr (ak _)) (λx c e z=>by
       obtain⟨v,o,ho,hd⟩:=I8'.cell x c e
       rw[z,p1]at ho;cases ho;cases hd) (λp O=>by have hp':p∈([]:List _)++[]:=O;simp at hp')
     refine⟨m',hm,i+1,Q,acc++[yv],a++[y],k9,H8,I9.pins_of λp O=>?_,rv.append (.cons r8 .nil),by rw[bh,cW];lia,T.keep _ _ _ t8 λb A o e=>(Heap.get?_update_other _ _ (λz=>hDfp (by rw[z];exact A))).trans e,f8,w8⟩
     rcases aJ.mp O with rfl
     exact⟨q,p2,p3,p4,λv z=>by cases z⟩
  ·rcases aJ.mp O with rfl
   exact⟨hacc,hD2,hDC,hDfs,λv z=>by cases z⟩
 exact codeAny_compStart_list (loop _ rfl) (T.self _ 0 _ _ _ (T.keep _ _ _ st2 λb _ o e=>old b o e) (loop _ rfl))
theorem Ao0 {K:List (Str×Addr)} {RR:Value->Addr->Result->u_->Prop}{F:m8->Hp->Prop}
 (L:Gj X N' idx scope) (hc:X.calm=true)
 (hg:∀K C s₀ H₀ ex,PG (By X N' scope K C s₀ H₀ ex) tg g) (ht:∀K C s₀ H₀ ex,PTs (By X N' scope K C s₀ H₀ ex) ifs tc) (he:∀K C s₀ H₀ ex,PE (By X N' scope K C s₀ H₀ ex) elt te)
 (c1:∀x c,K.lookup x=some c->X.env.cells.lookup x=some c/\(x,NameKind.free)∈scope.names) (c2:∀x,(x,NameKind.free)∈scope.names->∃c,K.lookup x=some c)
 (I2:Inv X pins σ R s2) (T:Turn X.prog X.w X.K tg J fp it tn) (st2:tn 0 s2.heap) (f2:∀b∈fp,Nm X pins R b) (W:Nat->Nat->St->m8->Hp->Prop) (w0:∃m,W 0 m (cst idx σ) [] R)
 (turn:∀i m t acc H,W i m t acc H->(J.stop i H/\F acc H) \/
  (J.go i H/\acc.length<sizeLine/\∃N:St->m8->Hp->Prop,(∀t acc' H',N t acc' H'->∃m',m'<m/\W (i+1) m' t acc' H')/\∀x H',J.yld i H x H'->g x t H' λZ R=>tc Z R λb H3 =>
   if b=true then te Z H3 λy H4=>N Z (acc++[y]) H4 else N Z acc H3))
 (hR:∀(D C:Addr) (s':u_) (acc:m8) (a:w6) (n:Nat) (H':Hp) (m:x_),s2.heap.objs.size<=D->s2.heap.objs.size<=C->D≠C->s'.heap.Ns C m->s'.heap.get? D=some { cls:=.type "list",data:=.seq a.toArray n }->Vals acc a->acc.length<=sizeLine ->
  H' D=none->H' C=none->s'.os=s2.os->AllBare s'.gens->Un (frs X.stack) fp R H' s2.heap s'.heap->HOk X.prog X.w H' s'.heap->F acc H'->RR (.ref D) C (.ok .next) s') :
 wpAny (model X.prog X.w) X.A (newList []) (λacc B=>wpAny (model X.prog X.w) X.A (newFunctionEnv scope X.env.globals K [] X.env.qual none .none (some X.env)) (λcenv s₄ =>
  codeAny (model X.prog X.w) X.A (.compStart (.ListComp elt [⟨tg,iter,ifs,0⟩] scope pos) 0 (.ref it) acc { cenv with scope:=relabel scope X.env }) (RR acc cenv.locals) s₄) E B) E s2 :=
 Zf (xc:=λY=>Y.xe) L hc hg ht he c1 c2 I2 T st2 f2 W w0 turn hR λ_ _ _ _ _ _ h=>h.elim
theorem B3u (L:Gj X N' idx scope)(hc:X.calm=true)(hi:PI X tg iter wi)
 (hg:∀t C s₀ H₀ ex,PG (By X N' scope t C s₀ H₀ ex) tg g) (ht:∀t C s₀ H₀ ex,PTs (By X N' scope t C s₀ H₀ ex) ifs tc) (he:∀t C s₀ H₀ ex,PE (By X N' scope t C s₀ H₀ ex) elt te)
 (hs:∀x,foldedSetIterable iter X.env x=pure x:=by intro _;rfl) :
 PE X (.ListComp elt [⟨tg,iter,ifs,0⟩] scope pos) (tLC idx wi g tc te):=by
 intro j s Z H Q I h
 obtain⟨t,l,c1,c2⟩:=Lq (env:=X.env) (scope:=scope) λy hy hf=>I.ok.has y.1 (L.free y hy hf)
 rw[eval_ListComp]
 refine wpAny_comprehension_free (use:=none) rfl hs l L.kind (λy hy hl=>mem_lookup L.nod (by grind)) (wpAny_mono (hi j s Z H _ I h) (λv s1 h1=>wpAny_mono h1 (λitv V h2=>?_) λ_ _ e=>e) λ_ _ e=>e)
 obtain⟨it,fp,tn,J,H2,rfl,I2,T,M,z,W,w0,A⟩:=h2
 refine Ao0 (F:=λa H=>∀p,H p=none->Q (.ref p) (upd H p (.lst a))) (RR:=λa C=>compPost (model X.prog X.w) X.A X.xe none (EP X j Z Q) a C) L hc hg ht he c1 c2 I2 T M z W w0 A ?_
 intro D C s' a w n N m hD hC O hn P rv hz d hC' ho K i hk q
 refine⟨m,hn,λG f=>?_⟩
 have eD:G.get? D=some { cls:=.type "list",data:=.seq w.toArray n }:=f.extBut _ _ O P
 have S:HOk X.prog X.w N G:=λb u e=>by
  refine (hk b u e).stay (λc v hc q=>f.extBut c v ?_ q) (λ_ q=>q) λ_ _ q=>q
  grind
 have U:HOk X.prog X.w (upd N D (.lst a)) G:=S.track d ⟨hz,w,n,rv,eD⟩
 have k:∀b o,V.heap.get? b=some o->b≠C:=λb o e=>aD (aA (Heap.lt_size e) hC)
 have R:∀b o,V.heap.get? b=some o->b≠D:=λb o e=>aD (aA (Heap.lt_size e) hD)
 have u2:Un (frs X.stack) fp H2 (upd N D (.lst a)) V.heap G :=
  ⟨
   λb o e r B Y=>f.extBut b o (k b o e) (i.keep b o e r B Y),λb o e r B Y=>let ⟨sl,q⟩:=i.slot b o e r B Y; ⟨sl,f.extBut b _ (k b o e) q⟩,
   λb o e r B=>by rw[Ak (R b o e)];exact i.free b o e r B,λb o e r=>let ⟨o',q⟩:=i.there b o e r; ⟨o',f.extBut b _ (k b o e) q⟩,
   λb xs e=>by rw[Ak (Ay (i.tups b _ e) d)];exact i.tups b _ e,λb o u e=>by rw[Ak (Ay (i.frzs b o u e) d)];exact i.frzs b o u e,
   λb ps e=>by rw[Ak (Ay (i.tbls b _ e) d)];exact i.tbls b _ e⟩
 refine⟨.ref D,upd _ D _,I2.call' ho u2 U K λb E=>⟨(z b E).2.2.2.1,(z b E).2.1,(z b E).2.2.2.2.1,(z b E).2.2.2.2.2⟩,rfl,q D d⟩
end
section
variable {X:Cx}{N':v4}{idx:o4}{scope:Scope}{elt tg iter:Expr}{ifs:v_}{pos:Pos}{wi:TI}{g:TG}{tc:TT}{te:TE}
theorem Be3 {K t:Pos}(hN:X.N.Nodup) (hi':X.N[i]?=some y) (hy:Loc X.env.scope y) (L:Gj X N' idx scope) (hc:X.calm=true) (hi:PI X tg iter wi)
 (hg:∀B C s₀ H₀ ex,PG (By X N' scope B C s₀ H₀ ex) tg g) (ht:∀B C s₀ H₀ ex,PTs (By X N' scope B C s₀ H₀ ex) ifs tc) (he:∀B C s₀ H₀ ex,PE (By X N' scope B C s₀ H₀ ex) elt te)
 (hsw:swapsWith (.ListComp elt [⟨tg,iter,ifs,0⟩] scope pos) (some (.Name y K)) t.line X.env=pure true:=by rfl)
 (hf:X.fn y=true\/X.env.scope.names.lookup y=some .local:=by first | exact .inl rfl | exact .inr rfl | assumption)
 (hs:∀x,foldedSetIterable iter X.env x=pure x:=by intro _;rfl) :
 PS X (.Assign [.Name y K] (.ListComp elt [⟨tg,iter,ifs,0⟩] scope pos) t) (Ym (tLC idx wi g tc te) (J5 i)):=by
 intro d s M H j I h
 have h:tLC idx wi g tc te M H λx H1=>j.nx (M.set i (some x)) H1:=h
 obtain⟨B,A,c1,c2⟩:=Lq (env:=X.env) (scope:=scope) λy hy hf=>I.ok.has y.1 (L.free y hy hf)
 rw[exec_Assign_Name_used _ _ _ _ hsw]
 refine wpAny_bind (wpAny_standAt (wpAny_bind ?_))
 show wpAny _ X.A (do let _ <- comprehension (.ListComp elt [⟨tg,iter,ifs,0⟩] scope pos) scope X.env _ (newList []) false (eval iter X.env) (some (assign (.Name y K) X.env))) _ _ s
 refine wpAny_bind (wpAny_mono (wpAny_comprehension_free (use:=some (assign (.Name y K) X.env)) (Q:=λ_ r=>SP X d j .next r) rfl hs A L.kind (λy hy hl=>mem_lookup L.nod (by rw[<- hl];exact hy))
  (wpAny_mono (hi d s M H _ I h) (λv s1 h1=>wpAny_mono h1 (λitv s2 h2=>?_) λ_ _ e=>e) λ_ _ e=>e)) (λ_ r hq=>wpAny_pure (wpAny_pure hq)) λ_ _ e=>e)
 obtain⟨it,fp,tn,J,H2,rfl,G,T,U,N,W,w0,O⟩:=h2
 refine Ao0 (F:=λf H=>∀p,H p=none->j.nx (M.set i (some (.ref p))) (upd H p (.lst f))) (RR:=λf C=>compPost (model X.prog X.w) X.A X.xe (some (assign (.Name y K) X.env)) (λ_ r=>SP X d j .next r) f C) L hc hg ht he c1 c2 G T U N W w0 O ?_
 intro D C r f V n Y m hD P Z hn hDo rv hz k hC' ho hg' l hk q;have S:HOk X.prog X.w (upd Y D (.lst f)) r.heap:=hk.track k ⟨hz,V,n,rv,hDo⟩
 have neD:∀b o,s2.heap.get? b=some o->b≠D:=λb o e=>aD (aA (Heap.lt_size e) hD)
 have u2:Un (frs X.stack) fp H2 (upd Y D (.lst f)) s2.heap r.heap :=
  ⟨
   l.keep,l.slot,λb o e n1 n2=>by rw[Ak (neD b o e)];exact l.free b o e n1 n2,l.there,
   λb xs e=>by rw[Ak (Ay (l.tups b xs e) k)];exact l.tups b xs e,λb o u e=>by rw[Ak (Ay (l.frzs b o u e) k)];exact l.frzs b o u e,
   λb ps e=>by rw[Ak (Ay (l.tbls b ps e) k)];exact l.tbls b ps e⟩
 have I3:Inv X d M (upd Y D (.lst f)) r:=G.call' ho u2 S hg' (λb E=>⟨(N b E).2.2.2.1,(N b E).2.1,(N b E).2.2.2.2.1,(N b E).2.2.2.2.2⟩)
 have hCL:C≠X.env.locals:=bw (aA G.lt P)
 have hCc:∀x c,X.env.cells.lookup x=some c->c≠C:=λx c e z=>by
  obtain⟨v,w⟩:=G.cell x c e
  exact absurd (aA w.lt (by rw[z];exact P)) (aY _)
 have hCp:∀p∈X.pn++d,p.1≠C:=λp hp z=>absurd (aA (Heap.lt_size (G.pin p hp).1) (by rw[z];exact P)) (aY _)
 refine wpAny_assign_Name (Yz (v:=.ref D) I3 hN hi' hy rfl (λs4 I4 ⟨a,sb,ha⟩=>?_) hf)
 have hCa:C≠a:=by
  grind
 refine⟨m,hn.sameBut sb hCa,λh' R=>?_⟩
 refine⟨_,_,I4.turned (λb o E e=>R.extBut b o E e) ?_ hCL (.inr (aj G.sz P)) hCc hCp,q D k⟩
 rw[Ak (aC Z)];exact hC'
end
section
variable {X:Cx}
noncomputable def O3 (H:Hp):V->Option String
 | .non=>some "NoneType" | .bl _=>some "bool" | .int _=>some "int" | .str _=>some "str"
 | .ref a=>match H a with
  | some (.lst _)=>some "list"
  | some (.tup _)=>some "tuple"
  | some (.dK _)=>some "dict"
  | some (.dT _)=>some "dict"
  | _=>none
 | _=>none
section
variable {X:Cx}{pins:y_}{σ:St}{H:Hp}{s:u_}
theorem Bc5 (I:Inv X pins σ H s) (f:RelV x u) (h:O3 H x=some t):∃hp:Heap->Prop,PySem.W.KitX X.K u (.type t) hp/\hp s.heap/\u≠.builtin "__main__.__loader__#opaque" := by
 cases x with
 | non=>cases h;cases (f);exact⟨_,PySem.W.kitx_none,True.intro,λz=>nomatch z⟩
 | bl b=>cases h;cases (f);exact⟨_,PySem.W.kitx_bool,True.intro,λz=>nomatch z⟩
 | int i=>cases h;obtain⟨t,rfl⟩:=f;exact⟨_,PySem.W.kitx_int,True.intro,λz=>nomatch z⟩
 | str y=>cases h;obtain⟨t,rfl⟩:=f;exact⟨_,PySem.W.kitx_str,True.intro,λz=>nomatch z⟩
 | ref a =>
  cases (f)
  have c:∀T,PySem.W.KitX X.K (.ref a) (.type T) (PySem.W.KitAt a T)->PySem.W.KitAt a T s.heap->some T=some t->∃hp:Heap->Prop,PySem.W.KitX X.K (.ref a) (.type t) hp/\hp s.heap/\Value.ref a≠.builtin "__main__.__loader__#opaque" := λT k p q=>by grind
  have h:(match H a with | some (.lst _)=>some _ | some (.tup _)=>some _ | some (.dK _)=>some _ | some (.dT _)=>some _ | _=>none)=some t:=h
  split at h
  ·rename_i l e
   obtain⟨_,_,n,_,d⟩:=(show zA _ _ H _ a _ from I.hok a _ e)
   exact c _ PySem.W.kitx_list ⟨_,d,rfl⟩ h
  ·rename_i l e
   obtain⟨_,_,_,o,d,g,_⟩:=(show zA _ _ H _ a _ from I.hok a _ e)
   exact c _ PySem.W.kitx_tuple ⟨o,d,g⟩ h
  ·rename_i j e
   obtain⟨_,_,vs,_,o,r,m,d,g,_⟩:=(show zA _ _ H _ a _ from I.hok a _ e)
   exact c _ PySem.W.kitx_dict ⟨o,d,g.1⟩ h
  ·rename_i j e
   exact(show zA _ _ H _ a _ from I.hok a _ e).elim
  grind
 | byt b=>cases h
 | flt b=>cases h
 | ty n=>cases h
end
noncomputable def Es (t T:String):Option Bool:=if ["NoneType", "bool", "int", "str", "list", "tuple", "dict"].contains t&&["int", "str", "bool", "list", "tuple"].contains T then some (t==T||(t == "bool" && T == "int")) else none
theorem Aj7 {K:v9} (h:Es t T=some b):PySem.W.kitOne K (.type t) (.type T)=some b:=by
 unfold Es at h
 split at h
 ·rename_i a
  cases h
  simp only[bC,List.contains_iff_mem,az,a_,bj]at a;obtain⟨c,d⟩:=a
  rcases c with rfl | rfl | rfl | rfl | rfl | rfl | rfl <;> rcases d with rfl | rfl | rfl | rfl | rfl <;> with_unfolding_all rfl
 ·cases h
theorem A6p:zB X (.builtin "isinstance") (λxs H Q=>∃x T t b,xs=[x,.ty T]/\O3 H x=some t/\Es t T=some b/\Q (.bl b) H):=by
 intro a s σ H xs us Q I r h;obtain⟨x,T,t,b,rfl,f,c,q⟩:=h;obtain⟨u,v,rfl,e,d⟩:=Vals.two r
 cases (d)
 obtain⟨hp,z,p,g⟩:=Bc5 I e f
 exact PySem.W.kia_one z I.kIn p (Aj7 c) g λtk=>⟨.bl b,H,I.tok _,rfl,q⟩
theorem walk_seq (m:A.handled=none) (I:Inv X pins d H s) (h:SqL X.K H a xs)
 (k:∀(c:w6) (J:Addr) (s2:u_),Vals xs c->Walks X.prog X.w A J [J,a] [J] c.length (λi v=>c[i]?=some v) (λi h=>h.IsListIter J a i/\h.IsList a c.toArray)->s2.heap.IsListIter J a 0/\s2.heap.IsList a c.toArray->(∀b∈[J,a],b<s2.heap.objs.size) ->
  Inv X pins d H s2->(∀f l,(∀b o,b∉[J]->s2.heap.get? b=some o->f.get? b=some o)->Inv X pins d H { s2 with heap:=f,toks:=l })->R (.ref J) s2) :
 wpAny (model X.prog X.w) A (pyIter (.ref a)) R E s:=by
 obtain⟨c,n,p,D⟩:=I.list h
 refine wpAny_pyIter_list p.isList ?_
 have u:a<s.heap.objs.size:=let ⟨_,e,_⟩:=p.isList; Heap.lt_size e
 have g:a≠s.heap.objs.size:=aD u;have W:=Walks.list (prog:=X.prog) (w:=X.w) (A:=A) m s.heap.objs.size a g c.toArray;rw[bB]at W
 have j:Inv X pins d H { s with heap:=s.heap.push { cls:=.type "list_iterator",data:=.fields #[.ref a,.int 0 0] } }:=I.kept (t':=s.toks) λb o e=>Heap.get?_push_of_some _ e
 refine k c s.heap.objs.size _ n (by simp_all) ⟨⟨_,Heap.get?_push_size _ rfl,rfl,rfl⟩,let ⟨o,e,r⟩:=p.isList; ⟨o,Heap.get?_push_of_some _ e,r⟩⟩ ?_ j λf l x=>?_
 ·intro b z
  have e:=Heap.size_push s.heap { cls:=.type "list_iterator",data:=.fields #[.ref a,.int 0 0] }
  grind
 ·obtain⟨q,B,F,y,C,t⟩:=(I.fpOk (b:=s.heap.objs.size) (ak _) (I.hok.fresh (ak _)))
  exact j.turned (λb o z e=>x b o (by simp_all) e) q B y C t
theorem Te {bs:List Bool}(r:Vals (bs.map V.bl) a):TruthOf X.prog X.w A (λi v=>a[i]?=some v) (λi=>bs.getD i false):=by
 intro i v s Q E c b;have h := (bz.mp c).1
 have g:i<bs.length:=by have:=r.length;simp_all
 obtain⟨u,d,f⟩:=r.get (i:=i) (x:=V.bl bs[i]) (by simp_all)
 rw[c]at d
 cases d
 cases (show v=Value.bool _ from f)
 have e:bs.getD i false=bs[i]:=by simp_all
 have b:Q (bs.getD i _) s:=b;rw[e]at b;exact wpAny_truthy_bool b
theorem range_any (bs:List Bool):(List.range bs.length).any (λi=>bs.getD i false)=bs.any id:=by
 rw[Bool.eq_iff_iff];simp only[List.any_eq_true,cD]
 constructor
 ·rintro⟨i,a,e⟩
  exact⟨bs[i],cB _,by grind⟩
 ·rintro⟨b,d,e⟩
  obtain⟨i,a,c⟩:=fK d
  exact⟨i,a,by grind⟩
theorem range_all (bs:List Bool):(List.range bs.length).all (λi=>bs.getD i false)=bs.all id:=by
 rw[Bool.eq_iff_iff];simp only[aL,cD]
 constructor
 ·intro h b d
  obtain⟨i,a,c⟩:=fK d
  simp_all
 ·intro h i a
  simpa[a] using h _ (cB _)
theorem A3x (hc:X.calm=true):zB X (.builtin "any") (λxs H Q=>∃(a:Addr) (b:List Bool),xs=[.ref a]/\SqL X.K H a (b.map V.bl)/\Q (.bl (b.any id)) H):=by
 intro d s σ H xs us Q I r h;obtain⟨a,b,rfl,i,q⟩:=h;obtain⟨u,rfl,g⟩:=vals1 r
 cases g
 refine call_any_walk (walk_seq (I.ok.hd hc) I i λc J s2 f W l hb I2 k=>⟨J,_,_,_,_,_,_,rfl,W,l,Te f,λh' tk j=>?_⟩)
 have e:c.length=b.length:=by rw[<- f.length,ao]
 rw[e,range_any];exact⟨.bl _,H,k _ _ j,rfl,q⟩
theorem A3e (hc:X.calm=true):zB X (.builtin "all") (λxs H Q=>∃(a:Addr) (b:List Bool),xs=[.ref a]/\SqL X.K H a (b.map V.bl)/\Q (.bl (b.all id)) H):=by
 intro d s σ H xs us Q I r h;obtain⟨a,b,rfl,i,q⟩:=h;obtain⟨u,rfl,g⟩:=vals1 r
 cases (g)
 refine call_all_walk (walk_seq (I.ok.hd hc) I i λc J s2 f W l hb I2 k=>⟨J,_,_,_,_,_,_,rfl,W,l,Te f,λh' tk j=>?_⟩)
 have e:c.length=b.length:=by rw[<- f.length,ao]
 rw[e,range_all];exact⟨.bl _,H,k _ _ j,rfl,q⟩
theorem Td (ns:List Int):∀n,n<=ns.length->preSum (λi=>ns.getD i 0) n=(ns.take n).sum
 | 0,_=>by simp[preSum]
 | n+1,h=>by
  have ih:=Td ns n (by lia)
  have e:ns.take (n+1)=ns.take n++[ns[n]'(by lia)]:=by rw[List.take_add_one,aU (by lia)];rfl
  rw[e,List.sum_append,preSum,ih]
  simp[List.getD,show n<ns.length by lia]
theorem A4e (hc:X.calm=true):zB X (.builtin "sum") (λxs H Q=>∃(a:Addr) (b:List Int),xs=[.ref a]/\SqL X.K H a (b.map V.int)/\Q (.int b.sum) H):=by
 intro l s σ H xs us Q I r h;obtain⟨a,b,rfl,o,q⟩:=h;obtain⟨u,rfl,d⟩:=vals1 r
 cases (show u=Value.ref a from d)
 refine call_sum_walkAnyS (walk_seq (A:=X.A.in1) (I.ok.hd hc) I o λc J s2 g W p w I2 k=>⟨J,_,_,_,_,_,_,λi=>b.getD i 0,rfl,W.toS,p,w,λi v f=>?_,λm y n=>?_⟩)
 ·have f:c[i]?=some v:=f
  have hl := (bz.mp f).1
  have j:i<b.length:=by have:=g.length;grind
  obtain⟨u,hu,d⟩:=g.get (i:=i) (x:=V.int b[i]) (by simp[j])
  obtain⟨t,e⟩:=d
  grind
 ·have e:c.length=b.length:=by rw[<- g.length,ao]
  rw[e,Td _ _ (ak _),dJ];obtain⟨h',g',d',t2,o'⟩:=m;obtain⟨B,z,C,D,m5⟩:=n;subst z C D;exact⟨.int _,H,k _ _ B,⟨y,rfl⟩,q⟩
end
mutual
def Tr (H:Hp):t_->V->Prop
 | .none,v=>v=.non
 | .bool b,v=>v=.bl b
 | .int i,v=>v=.int i
 | .str x,v=>v=.str x
 | .list ds,v=>∃a vs,v=.ref a/\H a=some (.lst vs)/\TrL H ds vs
 | .tuple ds,v=>∃a vs,v=.ref a/\H a=some (.tup vs)/\TrL H ds vs
 | .dict _,_=>False
def TrL (H:Hp):w5->m8->Prop
 | [],vs=>vs=[]
 | d::ds,vs=>∃v r,vs=v::r/\Tr H d v/\TrL H ds r
end
theorem TrL.length {H:Hp}:∀{ds:w5}{vs:m8},TrL H ds vs->ds.length=vs.length
 | [],_,h=>by cases (show _=[] from h);rfl
 | d::ds,_,h=>by
  obtain⟨v,r,rfl,_,t⟩:=h;rw[aF,aF,TrL.length t]
mutual
theorem Tr.same {H H':Hp}(S:Same H H'):∀{d:t_}{v:V},Tr H d v->Tr H' d v
 | .none,_,h=>h
 | .bool _,_,h=>h
 | .int _,_,h=>h
 | .str _,_,h=>h
 | .list ds,_,⟨a,vs,e,ha,t⟩=>⟨a,vs,e,S _ _ ha,TrL.same S t⟩
 | .tuple ds,_,⟨a,vs,e,ha,t⟩=>⟨a,vs,e,S _ _ ha,TrL.same S t⟩
theorem TrL.same {H H':Hp}(S:Same H H'):∀{ds:w5}{vs:m8},TrL H ds vs->TrL H' ds vs
 | [],_,h=>h
 | d::ds,_,⟨v,r,e,h,t⟩=>⟨v,r,e,Tr.same S h,TrL.same S t⟩
end
section
variable {X:Cx}{pins:y_}{σ:St}{H:Hp}{s:u_}
mutual
theorem Tr.reads (I:Inv X pins σ H s):∀{d:t_}{v:V}{u:Value},Tr H d v->RelV v u->∃as,Reads s.heap u d as
 | .none,_,u=>λh r=>by
  cases (show _=V.non from h)
  cases (show u=Value.none from r)
  exact⟨_,.none⟩
 | .bool b,_,u=>λh r=>by
  cases (show _=V.bl b from h)
  cases (show u=Value.bool b from r)
  exact⟨_,.bool b⟩
 | .int i,_,u=>λh r=>by
  cases (show _=V.int i from h)
  obtain⟨t,rfl⟩:=r;exact⟨_,.int i t⟩
 | .str x,_,u=>λh r=>by
  cases (show _=V.str x from h)
  obtain⟨t,rfl⟩:=r;exact⟨_,.str x t⟩
 | .list ds,_,u=>λh r=>by
  obtain⟨a,vs,rfl,ha,t⟩:=h
  cases (show u=Value.ref a from r)
  obtain⟨z,its,n,rv,e⟩:=I.hok a _ ha;obtain⟨as,q⟩:=TrL.reads I t rv
  exact⟨_,.list e rfl rfl (by simpa using q)⟩
 | .tuple ds,_,u=>λh r=>by
  obtain⟨a,vs,rfl,ha,t⟩:=h
  cases (show u=Value.ref a from r)
  obtain⟨z,its,rv,o,e,c,⟨n,dt⟩,_⟩:=I.hok a _ ha;obtain⟨as,q⟩:=TrL.reads I t rv
  exact⟨_,.tuple e c dt (by simpa using q)⟩
 | .dict k,_,u=>λh r=>False.elim h
theorem TrL.reads (I:Inv X pins σ H s):∀{ds:w5}{vs:m8}{us:w6},TrL H ds vs->Vals vs us->∃as,ReadsAll s.heap us ds as
 | [],_,us=>λh r=>by
  cases (show _=[] from h)
  cases r
  exact⟨_,.nil⟩
 | d::ds,_,us=>λh r=>by
  obtain⟨v,vs,rfl,hv,t⟩:=h
  cases r with
  | cons r1 r2 =>
   obtain⟨as,q⟩:=Tr.reads I hv r1;obtain⟨bs,p⟩:=TrL.reads I t r2;exact⟨_,.cons q p⟩
end
end
def Flat (d:t_):Prop:=d.canLay0=true/\d.depth<=40
section
variable {X:Cx}
theorem Bt6 (hu:u+64<c) (hb:b<=40):u+min a b<c:=bD (cL (aj (Nat.min_le_right a b) (aj hb (by decide))) u) hu
theorem A8m (hu:u+64<c) (hb:b<=40):u+1+min a b<c:=bD (aj (cL (aj (Nat.min_le_right a b) hb) _) (cL (show 1+40<=64 by decide) u)) hu
theorem B1h (hu:X.A.units+64<cLine):OpR X (compareOp .Eq) (λx y H Q=>∃a b,Tr H a x/\Tr H b y/\Flat a/\Flat b/\Q (.bl (PyData.eqv a b)) H):=by
 intro c s n H x y v u Q I g f h;obtain⟨a,b,i,j,k,d,q⟩:=h;obtain⟨m,l⟩:=i.reads I g;obtain⟨o,e⟩:=j.reads I f;exact SeqAt.compareEq_reads l e k.1 d.1 (Bt6 hu d.2) ⟨.bl _,H,I,rfl,q⟩
theorem B2w (hu:X.A.units+64<cLine):OpR X (compareOp .NotEq) (λx y H Q=>∃a b,Tr H a x/\Tr H b y/\Flat a/\Flat b/\Q (.bl (!PyData.eqv a b)) H):=by
 intro c s n H x y v u Q I g f h;obtain⟨a,b,i,j,k,d,q⟩:=h;obtain⟨m,l⟩:=i.reads I g;obtain⟨o,e⟩:=j.reads I f;exact SeqAt.compareNe_reads l e k.1 d.1 (Bt6 hu d.2) ⟨.bl _,H,I,rfl,q⟩
theorem A4d (hu:X.A.units+64<cLine):OpR X (compareOp .NotIn) (λx y H Q=>∃d ds,Tr H d x/\(Tr H (.list ds) y\/Tr H (.tuple ds) y)/\Flat d/\PyData.canLayAll0 ds=true/\Q (.bl (!ds.any λe=>PyData.eqv e d)) H):=by
 intro g s σ H x y v u Q I m f h;obtain⟨d,ds,k,a,b,i,q⟩:=h;obtain⟨as,j⟩:=k.reads I m
 rcases a with a | a
 ·obtain⟨l,c⟩:=a.reads I f
  exact SeqAt.notIn_list_reads c j i b.1 (A8m hu b.2) ⟨.bl _,H,I,rfl,q⟩
 ·obtain⟨l,c⟩:=a.reads I f
  exact SeqAt.notIn_tuple_reads c j i b.1 (A8m hu b.2) ⟨.bl _,H,I,rfl,q⟩
end
mutual
noncomputable def Jw (gt:Bool):t_->t_->Option Bool
 | .int i,.int j=>some (if gt then decide (j<i) else decide (i<j))
 | .str i,.str j=>some (if gt then decide (j.cps.toList<i.cps.toList) else decide (i.cps.toList<j.cps.toList))
 | .tuple xs,.tuple ys=>Xe gt xs ys
 | _,_=>none
noncomputable def Xe (gt:Bool):w5->w5->Option Bool
 | [],[]=>some false
 | [],_::_=>some (!gt)
 | _::_,[]=>some gt
 | x::xs,y::ys=>if PyData.eqv x y=true then Xe gt xs ys else Jw gt x y
end
noncomputable abbrev opG (gt:Bool):CmpOp:=if gt then .Gt else .Lt
def Bx7 (gt:Bool)(A:q9)(s:u_)(a b:Value)(r:Bool):Prop :=
 ∀(prog:u6) (w:World) (E:z_) (Q:z_),Q (.bool r) s->wpAny (model prog w) A (richCompare (opG gt) a b) Q E s
inductive O1 (gt:Bool) (A:q9) (s:u_):w6->w6->Bool->Prop
 | nn:O1 gt A s [] [] false
 | nc {y ys}:O1 gt A s [] (y::ys) (!gt)
 | cn {x xs}:O1 gt A s (x::xs) [] gt
 | eq {x xs y ys r}:SeqAt.EqAt A s x y true->O1 gt A s xs ys r->O1 gt A s (x::xs) (y::ys) r
 | ne {x xs y ys r}:SeqAt.EqAt A s x y false->Bx7 gt A s x y r->O1 gt A s (x::xs) (y::ys) r
section
open PySem.SeqAt
open PySem.AutoSeq1 (wpAny_loadPart')
open PySem.MeetsSeq PySem.MeetsSeq2 PySem.MeetsSeq3
theorem Z0 (l b:Addr)(items a:v7)(n n2:Nat)(dd dd2:Option Addr)(sl sl2:Array (u9))(r:Bool) :
 Meets (Builtin.«tuple.__lt__» ⟨[.ref l,.ref b],[]⟩)
  (λA R s=>s.heap.get? l=some { cls:=.type "tuple",dict:=dd,data:=.seq items n,slots:=sl }/\s.heap.get? b=some { cls:=.type "tuple",dict:=dd2,data:=.seq a n2,slots:=sl2 } /\
   O1 false A.in1 s items.toList a.toList r/\R (.ok (.ret (.bool r))) s) :=
 .of_wp λf w A R s h=>by
  obtain⟨hp,g,d,tk,os⟩:=s;obtain⟨hl,hb,hx,h⟩:=h;have f2:=AutoSeq1.sub_tuple_tuple
  wp_walk using wpAny_loadPart' hl,wpAny_loadPart' hb,wpAny_forIn_list _ (λrest b s'=>b.1=none/\s'=⟨hp,g,d,tk,os⟩/\∃(vs ws:w6),rest=vs.zip ws /\
   vs.length+a.size=ws.length+items.size/\O1 false A.in1 ⟨hp,g,d,tk,os⟩ vs ws r) _
  case turn =>
   rintro⟨y,x⟩ rest b s' ⟨hb',rfl,vs,ws,e,c,hR⟩
   cases hR with
   | nn=>rw[eG]at e;cases e
   | nc=>rw[eG]at e;cases e
   | cn=>rw[List.zip_nil_right]at e;cases e
   | eq he hr =>
    rw[bQ]at e
    injection e with hyx hrest
    injection hyx with hy hx
    subst hy hx;simp only[aF]at c
    refine wpAny_bind (he f w _ _ ?_)
    wp_walk
    exact⟨rfl,rfl,_,_,hrest,by lia,hr⟩
   | ne he hr =>
    rw[bQ]at e
    injection e with hyx hrest
    injection hyx with hy hx
    subst hy hx
    refine wpAny_bind (he f w _ _ ?_)
    have hri:∀(E:z_) (Q:z_),Q (.bool r) ⟨hp,g,d,tk,os⟩->wpAny (model f w) A.in1 (richCompare .Lt y x) Q E ⟨hp,g,d,tk,os⟩:=hr f w
    wp_walk using hri
    exact⟨_,rfl,by simpa using h⟩
  case fin =>
   rintro⟨b1,b2⟩ s' ⟨hb',rfl,vs,ws,e,c,hR⟩
   simp only at hb';subst hb'
   have hv:r=decide (items.size<a.size):=by
    cases hR with
    | nn=>exact(aH (by simp only[bR]at c;lia)).symm
    | nc=>simp only[bR,aF]at c;exact(aK (by lia)).symm
    | cn=>simp only[bR,aF]at c;exact(aH (by lia)).symm
    | eq=>rw[bQ]at e;cases e
    | ne=>rw[bQ]at e;cases e
   rw[hv]at h
   wp_walk
   exact⟨_,rfl,by simpa[Builtin.Tuple.tupleCompareSizes] using h⟩
  case h =>
   exact⟨rfl,rfl,items.toList,a.toList,rfl,by simp;lia,hx⟩
theorem Ab5 (l b:Addr)(items a:v7)(n n2:Nat)(dd dd2:Option Addr)(sl sl2:Array (u9))(r:Bool) :
 Meets (Builtin.«tuple.__gt__» ⟨[.ref l,.ref b],[]⟩)
  (λA R s=>s.heap.get? l=some { cls:=.type "tuple",dict:=dd,data:=.seq items n,slots:=sl }/\s.heap.get? b=some { cls:=.type "tuple",dict:=dd2,data:=.seq a n2,slots:=sl2 } /\
   O1 true A.in1 s items.toList a.toList r/\R (.ok (.ret (.bool r))) s) :=
 .of_wp λf w A R s h=>by
  obtain⟨hp,g,d,tk,os⟩:=s;obtain⟨hl,hb,hx,h⟩:=h;have f2:=AutoSeq1.sub_tuple_tuple
  wp_walk using wpAny_loadPart' hl,wpAny_loadPart' hb,wpAny_forIn_list _ (λrest b s'=>b.1=none/\s'=⟨hp,g,d,tk,os⟩/\∃(vs ws:w6),rest=vs.zip ws /\
   vs.length+a.size=ws.length+items.size/\O1 true A.in1 ⟨hp,g,d,tk,os⟩ vs ws r) _
  case turn =>
   rintro⟨y,x⟩ rest b s' ⟨hb',rfl,vs,ws,e,c,hR⟩
   cases hR with
   | nn=>rw[eG]at e;cases e
   | nc=>rw[eG]at e;cases e
   | cn=>rw[List.zip_nil_right]at e;cases e
   | eq he hr =>
    rw[bQ]at e
    injection e with hyx hrest
    injection hyx with hy hx
    subst hy hx;simp only[aF]at c
    refine wpAny_bind (he f w _ _ ?_)
    wp_walk
    exact⟨rfl,rfl,_,_,hrest,by lia,hr⟩
   | ne he hr =>
    rw[bQ]at e
    injection e with hyx hrest
    injection hyx with hy hx
    subst hy hx
    refine wpAny_bind (he f w _ _ ?_)
    have hri:∀(E:z_) (Q:z_),Q (.bool r) ⟨hp,g,d,tk,os⟩->wpAny (model f w) A.in1 (richCompare .Gt y x) Q E ⟨hp,g,d,tk,os⟩:=hr f w
    wp_walk using hri
    exact⟨_,rfl,by simpa using h⟩
  case fin =>
   rintro⟨b1,b2⟩ s' ⟨hb',rfl,vs,ws,e,c,hR⟩
   simp only at hb';subst hb'
   have hv:r=decide (a.size<items.size):=by
    cases hR with
    | nn=>exact(aH (by simp only[bR]at c;lia)).symm
    | nc=>simp only[bR,aF]at c;exact(aH (by lia)).symm
    | cn=>simp only[bR,aF]at c;exact(aK (by lia)).symm
    | eq=>rw[bQ]at e;cases e
    | ne=>rw[bQ]at e;cases e
   rw[hv]at h
   wp_walk
   exact⟨_,rfl,by simpa[Builtin.Tuple.tupleCompareSizes] using h⟩
  case h =>
   exact⟨rfl,rfl,items.toList,a.toList,rfl,by simp;lia,hx⟩
end
theorem By0 (hl:s.heap.IsTuple l items) (hb:s.heap.IsTuple b a) (hx:O1 f A.in1 s items.toList a.toList r) (hu:A.units<cLine):Bx7 f A s (.ref l) (.ref b) r:=by
 intro m w E Q h;obtain⟨⟨o,y,k,v⟩,d,p,n,u⟩:=id hl;obtain⟨⟨j,t,g,q⟩,c,i,z,e⟩:=id hb;subst p u i e
 cases f with
 | false =>
  exact richCompare_meets_room ⟨_,d,rfl⟩ ⟨_,c,rfl⟩ PySem.F.slot_tuple_lt PySem.F.entry_tuple_lt (PySem.F.args_tuple_lt_2 _ _) (Z0 l b _ _ n _ _ _ _ _ r)
   ⟨d,c,hx,show Value.bool r≠Value.notImplemented/\Q _ s from ⟨(λx=>nomatch x),h⟩⟩ hu
 | true =>
  exact richCompare_meets_room ⟨_,d,rfl⟩ ⟨_,c,rfl⟩ PySem.F.slot_tuple_gt PySem.F.entry_tuple_gt (PySem.F.args_tuple_gt_2 _ _) (Ab5 l b _ _ n _ _ _ _ _ r)
   ⟨d,c,hx,show Value.bool r≠Value.notImplemented/\Q _ s from ⟨(λx=>nomatch x),h⟩⟩ hu
mutual
theorem Qf (gt:Bool):∀(da db:t_) (A:q9) (s:u_) (a b:Value) (as bs:v6) (r:Bool),Reads s.heap a da as->Reads s.heap b db bs->da.canLay0=true->db.canLay0=true->A.units+da.depth<cLine->Jw gt da db=some r->Bx7 gt A s a b r
 | .int i,db,A,s,a,b,as,bs,r,ra,rb,ca,cb,hu,h=>by
  cases db with
  | int j =>
   cases ra
   cases rb
   cases h
   intro prog w E Q q
   cases gt with
   | false=>exact(PyProof.Rows.lt_int q:wpAny (model prog w) A (compareOp .Lt _ _) Q E s)
   | true=>exact(PyProof.Rows.gt_int q:wpAny (model prog w) A (compareOp .Gt _ _) Q E s)
  | _=>cases h
 | .str i,db,A,s,a,b,as,bs,r,ra,rb,ca,cb,hu,h=>by
  cases db with
  | str j =>
   cases ra
   cases rb
   cases h
   intro prog w E Q q
   cases gt with
   | false=>exact(PyProof.Rows.lt_str q:wpAny (model prog w) A (compareOp .Lt _ _) Q E s)
   | true=>exact(PySem.P.gt_str q:wpAny (model prog w) A (compareOp .Gt _ _) Q E s)
  | _=>cases h
 | .tuple xs,db,A,s,a,b,as,bs,r,ra,rb,ca,cb,hu,h=>by
  cases db with
  | tuple ys =>
   cases ra with
   | tuple h1 h2 h3 h4 =>
    cases rb with
    | tuple g1 g2 g3 g4 =>
     have hu':A.units+(PyData.depthAll xs+1)<cLine:=hu
     exact By0 ⟨_,h1,h2,_,h3⟩ ⟨_,g1,g2,_,g3⟩ (O8 gt xs ys A.in1 s _ _ _ _ r h4 g4 ca cb (by show A.units+1+PyData.depthAll xs<cLine;lia) h) (by lia)
  | _=>cases h
 | .none,db,A,s,a,b,as,bs,r,ra,rb,ca,cb,hu,h=>by cases db <;> cases h
 | .bool _,db,A,s,a,b,as,bs,r,ra,rb,ca,cb,hu,h=>by cases db <;> cases h
 | .list _,db,A,s,a,b,as,bs,r,ra,rb,ca,cb,hu,h=>by cases db <;> cases h
 | .dict _,db,A,s,a,b,as,bs,r,ra,rb,ca,cb,hu,h=>by cases db <;> cases h
theorem O8 (gt:Bool):∀(xs ys:w5) (A:q9) (s:u_) (vs ws:w6) (as bs:v6) (r:Bool),ReadsAll s.heap vs xs as->ReadsAll s.heap ws ys bs->PyData.canLayAll0 xs=true->PyData.canLayAll0 ys=true->A.units+PyData.depthAll xs<cLine->Xe gt xs ys=some r->O1 gt A s vs ws r
 | [],[],A,s,vs,ws,as,bs,r,ra,rb,ca,cb,hu,h=>by cases ra;cases rb;cases h;exact .nn
 | [],y::ys,A,s,vs,ws,as,bs,r,ra,rb,ca,cb,hu,h=>by cases ra;cases rb;cases h;exact .nc
 | x::xs,[],A,s,vs,ws,as,bs,r,ra,rb,ca,cb,hu,h=>by cases ra;cases rb;cases h;exact .cn
 | x::xs,y::ys,A,s,vs,ws,as,bs,r,ra,rb,ca,cb,hu,h=>by
  cases ra with
  | cons r1 r2 =>
   cases rb with
   | cons q1 q2 =>
    have ca':=au.mp ca;have cb':=au.mp cb;have hu':A.units+max x.depth (PyData.depthAll xs)<cLine:=hu
    have e:=SeqAt.eqAt_reads x y A s _ _ _ _ r1 q1 ca'.1 cb'.1 (by lia)
    rw[Xe]at h
    by_cases he:PyData.eqv x y=true
    ·rw[if_pos he]at h
     rw[he]at e
     exact .eq e (O8 gt xs ys A s _ _ _ _ r r2 q2 ca'.2 cb'.2 (by lia) h)
    ·rw[if_neg he]at h
     rw[fL _ |>.mp he]at e
     exact .ne e (Qf gt x y A s _ _ _ _ r r1 q1 ca'.1 cb'.1 (by lia) h)
end
section
variable {X:Cx}
theorem B3m (hu:X.A.units+64<cLine):OpR X (compareOp .Lt) (λx y H Q=>∃a b r,Tr H a x/\Tr H b y/\Flat a/\Flat b/\Jw false a b=some r/\Q (.bl r) H):=by
 intro c s o H x y v u Q I i l h;obtain⟨a,b,r,j,k,d,g,e,q⟩:=h;obtain⟨n,m⟩:=j.reads I i;obtain⟨p,f⟩:=k.reads I l
 exact(Qf _ _ _ X.A s v u _ _ r m f d.1 g.1 (by have:=d.2;lia) e _ _ _ (EP X _ _ Q) ⟨.bl _,H,I,rfl,q⟩)
end
section
variable {X:Cx}{pins:y_}{σ:St}{H:Hp}{s:u_}
theorem Inv.recS (I:Inv X (pins++(S,o)::pl) σ H s) (hS:X.s₀.heap.objs.size<=S) (hp:∀p∈pins++pl,p.1≠S) (hpn:∀p∈X.pn,p.1≠S)
 (hu:(s.heap.update S f).get? S=some o') (hd:∀v,o'.data≠.cell v):Inv X (pins++(S,o')::pl) σ H { s with heap:=s.heap.update S f }:=by
 obtain⟨p1,p2,p3,p4,p5⟩:=I.pin (S,o) (aq _ (aq _ aP))
 have I0:Inv X [] σ H s:=I.pins_of λp hp=>nomatch hp
 have I1:Inv X [] σ H { s with heap:=s.heap.update S f }:=I0.turned (t':=s.toks) (λb u hb e=>(Heap.get?_update_other s.heap f (aC hb)).trans e) p2 p3 (.inr hS) (λx c e z=>by
  obtain⟨v,ob,ho,hdc⟩:=I.cell x c e
  rw[z,p1]at ho;cases ho;exact p5 v hdc) (λp hp' z=>by
   have hp':p∈X.pn++[]:=hp';rw[cA]at hp'
   exact hpn p hp' z)
 refine I1.pins_of λp hpp=>?_
 have keep:∀p∈pins++pl,(s.heap.update S f).get? p.1=some p.2/\H p.1=none/\p.1≠X.env.locals/\p.1∉X.fs/\∀v,p.2.data≠.cell v:=λp hpm=>by
  have hpm':p∈X.pn++(pins++(S,o)::pl):=aq _ (by
   rcases aX.mp hpm with z | z
   ·exact aZ _ z
   ·exact aq _ (aW _ z))
  obtain⟨q1,q2,q3,q4,q5⟩:=I.pin p hpm';exact⟨(Heap.get?_update_other s.heap f (aC (hp p hpm))).trans q1,q2,q3,q4,q5⟩
 rcases aX.mp hpp with z | z
 ·exact keep p (aZ _ z)
 ·rcases az.mp z with rfl | z
  ·exact⟨hu,p2,p3,p4,hd⟩
  ·exact keep p (aq _ z)
theorem A1p (F:FnOk X.prog X.w X.K X.mg X.base CX0 k f a ps sp) (hr:Room (k+1) X.A) (hb:Binds X.K a ps [])
 (I:Inv X pins σ H s) (r:Vals vs us) (h:sp vs H Q E0):wpAny (model X.prog X.w) X.A.in1 (call (.ref f) us) (EP X pins σ Q) E s:=by
 have c:(us++[]).length=ps.length:=by rw[cA,<- r.length];exact F.len _ _ _ _ h
 refine wpAny_call (codeAny_mono (F.run _ _ s H _ _ _ Q _ hr.in1 I.env0.in1 (hb s _ I.kIn c) (by grind) h) λr g d=>?_)
 cases r with
 | error e=>trivial
 | ok b =>
  cases b with
  | ret u=>exact I.after d
  | next=>trivial
  | brk=>trivial
  | cont=>trivial
end
def Bu5:Option (V×V)->w6->Prop
 | none,us=>us=[]
 | some (x,k),us=>∃u t,us=[u,t]/\RelV x u/\RelV k t
def MmW (gt:Bool)(K:v9)(sp:Sp)(a:Addr)(vs:m8)(d:V)(H:Hp)(Q:VK):Prop :=
 ∃
  W:Nat->Option (V×V)->Hp->Prop,W 0 none H/\(∀i best H,W i best H->SqL K H a vs) /\
  (∀i x best H,vs[i]?=some x->W i best H->sp [x] H (λkv H1=>match best with
   | none=>W (i+1) (some (x,kv)) H1
   | some (bx,bk)=>∃dk db r,Tr H1 dk kv/\Tr H1 db bk/\Flat dk/\Flat db/\Jw gt dk db=some r/\W (i+1) (if r=true then some (x,kv) else some (bx,bk)) H1) E0) /\
  (∀best H,W vs.length best H->Q (match best with | some (x,_)=>x | none=>d) H)
section
variable {X:Cx}
theorem Al5 (a v d:Value):argsOk "min" ⟨[a],[(Str.ofString "key",v),(Str.ofString "default",d)]⟩:=by rfl
theorem A6w {E:z_} (hc:X.calm=true)
 (F:FnOk X.prog X.w X.K X.mg X.base CX0 k f fd ps sp) (hr:Room (k+1) X.A) (hb:Binds X.K fd ps []) (rd:RelV d ud) (hS:X.s₀.heap.objs.size<=S) (hJ:X.s₀.heap.objs.size<=J) (M:S≠J) (haJ:a≠J)
 (hp:∀p∈X.pn++pins,p.1≠S/\p.1≠J)
 (W:Nat->Option (V×V)->Hp->Prop) (w1:∀i g H,W i g H->SqL X.K H a vs)
 (w2:∀i x g H,vs[i]?=some x->W i g H->sp [x] H (λl H1=>match g with
  | none=>W (i+1) (some (x,l)) H1
  | some (bx,bk)=>∃dk db r,Tr H1 dk l/\Tr H1 db bk/\Flat dk/\Flat db/\Jw false dk db=some r/\W (i+1) (if r=true then some (x,l) else some (bx,bk)) H1) E0)
 (w3:∀g H,W vs.length g H->Q (match g with | some (x,_)=>x | none=>d) H) :
 ∀
  (r i:Nat) (g:Option (V×V)) (j:w6) (n:Nat) (oJ:Obj) (H:Hp) (s:u_),vs.length-i=r->i<=vs.length->Bu5 g j->W i g H ->
  Inv X (pins++[(S,{ cls:=.type "list",data:=.seq j.toArray n }),(J,oJ)]) σ H s->s.heap.IsListIter J a i ->
  codeAny (model X.prog X.w) X.A (.builtin "min.loop" ⟨[.ref J,.ref f,.ref S],[(Str.ofString "default",ud)]⟩) (λr s'=>match r with | .ok (.ret v)=>EP X pins σ Q v s' | .ok _=>False | .error e=>E e s') s:=by
 have m:(toString "min" ++ toString ".loop" : String) = "min.loop" := by decide
 have hu:X.A.units+100<cLine:=by have:=hr.un;lia
 intro r
 induction r with
 | zero =>
  intro i g j n oJ H s hri hi h hw I hit
  have e:i=vs.length:=by lia
  subst e;obtain⟨B,ps2,ps3,ps4,U⟩:=I.pin (S,{ cls:=.type "list",data:=.seq j.toArray n }) (aq _ (aq _ aP));obtain⟨T,L,N,pj4,Z⟩:=I.pin (J,oJ) (aq _ (aq _ (aW _ aP)));obtain⟨us,rv,pl,hz⟩:=I.list (w1 _ _ _ hw);have hlen:=rv.length
  have I0:Inv X pins σ H s:=I.pins_of λp hp=>I.pin p (aq _ (aZ _ hp))
  refine codeAny_builtin PySem.F.entry_min_loop ?_
  rw[Around.under_plainId dm _]
  show wpAny _ X.A.in1 (seqItems? (.ref S) >>= _) _ _ _
  refine wpAny_bind (wpAny_seqItems B rfl ?_)
  show wpAny _ X.A.in1 (tryCatch (pyNext (.ref J)) _ >>= _) _ _ _
  refine wpAny_bind (wpAny_tryCatch (wpAny_pyNext_list_end (A:=X.A.in1) (I.ok.hd hc) hit pl.isList (by simp;lia) λh' eb=>?_))
  have I1:Inv X pins σ H { s with heap:=h' }:=I0.turned (t':=s.toks) (λb o hb e=>eb b o hb e) L N (.inr hJ) (λx c e z=>by
   obtain⟨v,ob,P,C⟩:=I.cell x c e
   rw[z,T]at P;cases P;exact Z v C) (λp G=>(hp p G).2)
  cases g with
  | none =>
   cases (show j=[] from h)
   show wpAny _ X.A.in1 (rule _ >>= _) _ _ _
   refine wpAny_bind (wpAny_rule (wpAny_pure ?_))
   exact⟨d,H,I1,rd,w3 none H hw⟩
  | some b =>
   obtain⟨bx,bk⟩:=b;obtain⟨u,t,rfl,ru,rt⟩:=h;have ps1':=eb S _ M B
   show wpAny _ X.A.in1 (updateSeq S (λ_=>#[]) >>= _) _ _ _
   refine wpAny_bind (wpAny_updateSeq ps1' rfl (wpAny_bind (wpAny_letGo (wpAny_pure ?_))))
   refine⟨bx,H,I1.turned (t':=s.toks) (λb o hb e=>(Heap.get?_update_other h' _ (aC hb)).trans e) ps2 ps3 (.inr hS) (λx c e z=>?_) (λp G=>(hp p G).1),ru,w3 (some (bx,bk)) H hw⟩
   obtain⟨v,ob,P,C⟩:=I.cell x c e;rw[z,B]at P;cases P;exact U v C
 | succ r ih =>
  intro i g j n oJ H s hri hi h hw I hit
  have D:i<vs.length:=by lia
  obtain⟨B,ps2,ps3,ps4,U⟩:=I.pin (S,{ cls:=.type "list",data:=.seq j.toArray n }) (aq _ (aq _ aP));obtain⟨T,L,N,pj4,Z⟩:=I.pin (J,oJ) (aq _ (aq _ (aW _ aP)));obtain⟨us,rv,pl,hz⟩:=I.list (w1 _ _ _ hw);have hlen:=rv.length
  obtain⟨u,hu1,ru⟩:=rv.get (i:=i) (x:=vs[i]) (by simp[D])
  have I0:Inv X pins σ H s:=I.pins_of λp hp=>I.pin p (aq _ (aZ _ hp))
  refine codeAny_builtin PySem.F.entry_min_loop ?_
  rw[Around.under_plainId dm _]
  show wpAny _ X.A.in1 (seqItems? (.ref S) >>= _) _ _ _
  refine wpAny_bind (wpAny_seqItems B rfl ?_)
  show wpAny _ X.A.in1 (tryCatch (pyNext (.ref J)) _ >>= _) _ _ _
  refine wpAny_bind (wpAny_tryCatch (wpAny_pyNext_list_item (A:=X.A.in1) hit pl.isList (x:=u) (by simpa using hu1) λh' hit' sb=>?_))
  have I1:Inv X pins σ H { s with heap:=h' }:=I0.turned (t':=s.toks) (λb o hb e=>(sb.2 b hb).trans e) L N (.inr hJ) (λx c e z=>by
   obtain⟨v,ob,P,C⟩:=I.cell x c e
   rw[z,T]at P;cases P;exact Z v C) (λp G=>(hp p G).2)
  obtain⟨w,hoJ',hoc,Y⟩:=id hit'
  have I2:Inv X (pins++[(S,{ cls:=.type "list",data:=.seq j.toArray n }),(J,w)]) σ H { s with heap:=h' }:=I1.pins_of λp K=>by
   rcases aX.mp K with z | z
   ·exact I1.pin p (aq _ z)
   ·rcases az.mp z with rfl | z
    ·exact⟨(sb.2 S M).trans B,ps2,ps3,ps4,U⟩
    ·rw[aJ.mp z]
     exact⟨hoJ',L,N,pj4,λv q=>by rw[Y]at q;cases q⟩
  show wpAny _ X.A.in1 (tryCatch (holding [u] (call (.ref f) [u])) _ >>= _) _ _ _
  refine wpAny_bind (wpAny_tryCatch (wpAny_holding (wpAny_mono (A1p (E:=λ_ _=>False) F hr hb I2 (.cons ru .nil) (w2 i vs[i] g H (by simp[D]) hw)) (λl s3 h3=>?_) λ_ _ z=>z.elim)))
  obtain⟨kx,H3,I3,rk,q3⟩:=h3;obtain⟨t1,t2,t3,t4,t5⟩:=I3.pin (S,{ cls:=.type "list",data:=.seq j.toArray n }) (aq _ (aq _ aP));obtain⟨j1,j2,j3,j4,j5⟩:=I3.pin (J,w) (aq _ (aq _ (aW _ aP)));have hit3:s3.heap.IsListIter J a (i+1):=⟨w,j1,hoc,Y⟩
  have O:∀(y:w6),∃n',Inv X (pins++[(S,{ cls:=.type "list",data:=.seq y.toArray n' }),(J,w)]) σ H3 { s3 with heap:=s3.heap.update S (Obj.mapSeq λ_=>y.toArray) }:=λy=>by
   have q:=d_ t1 (λ_=>y.toArray)
   refine⟨_,I3.recS hS (λp K=>?_) (λp K=>(hp p (aZ _ K)).1) q λv z=>by cases z⟩
   rcases aX.mp K with z | z
   ·exact(hp p (aq _ z)).1
   ·rw[aJ.mp z];exact aC M
  have R:∀y:w6,(s3.heap.update S (Obj.mapSeq λ_=>y.toArray)).IsListIter J a (i+1):=λy=>⟨w,(Heap.get?_update_other s3.heap _ M).trans j1,hoc,Y⟩
  cases g with
  | none =>
   cases (show j=[] from h)
   obtain⟨n',I4⟩:=O [u,l]
   show wpAny _ X.A.in1 (updateSeq S (λ_=>#[u,l]) >>= _) _ _ _
   refine wpAny_bind (wpAny_updateSeq t1 rfl ?_)
   rw[m]
   exact wpAny_pure ⟨plainId_quiet dm _,ih (i+1) (some (vs[i],kx)) [u,l] n' w H3 _ (by lia) D ⟨u,l,rfl,ru,rk⟩ q3 I4 (R [u,l])⟩
  | some b =>
   obtain⟨bx,bk⟩:=b;obtain⟨ub,tb,rfl,rub,rtb⟩:=h;obtain⟨dk,db,r',tk,tdb,fk,fb,ecmp,wn⟩:=q3;obtain⟨as,rdk⟩:=tk.reads I3 rk;obtain⟨bs,rdb⟩:=tdb.reads I3 rtb
   show wpAny _ X.A.in1 (tryCatch (holding [u,l] (richCompare .Lt l tb >>= _)) _ >>= _) _ _ _
   refine wpAny_bind (wpAny_tryCatch (wpAny_holding (wpAny_bind (Qf false dk db X.A.in1 s3 l tb as bs r' rdk rdb fk.1 fb.1 (by show X.A.units+1+dk.depth<cLine;have:=fk.2;lia) ecmp X.prog X.w _ _ ?_))))
   refine wpAny_bind (wpAny_holding (wpAny_truthy_bool ?_))
   refine wpAny_bind (wpAny_letGo (wpAny_pure ?_))
   cases r' with
   | true =>
    obtain⟨n',I4⟩:=O [u,l];simp only[bY]
    refine wpAny_bind (wpAny_updateSeq t1 rfl (wpAny_bind (wpAny_letGo ?_)))
    rw[m]
    exact wpAny_pure ⟨plainId_quiet dm _,ih (i+1) (some (vs[i],kx)) [u,l] n' w H3 _ (by lia) D ⟨u,l,rfl,ru,rk⟩ wn I4 (R [u,l])⟩
   | false =>
    simp only[cM,bJ]
    refine wpAny_bind (wpAny_letGo ?_)
    rw[m]
    exact wpAny_pure ⟨plainId_quiet dm _,ih _ (some _) _ n _ _ _ (by lia) D ⟨ub,tb,rfl,rub,rtb⟩ (by simpa using wn) I3 hit3⟩
theorem Ar3 (hc:X.calm=true)
 (F:FnOk X.prog X.w X.K X.mg X.base CX0 k f q ps sp) (hr:Room (k+1) X.A) (hb:Binds X.K q ps []) (I:Inv X pins j H s) (B:SqL X.K H a vs) (D:RelV d i) (h:MmW false X.K sp a vs d H Q) :
 wpAny (model X.prog X.w) X.A (call (.builtin "min") [.ref a] [(Str.ofString "key",.ref f),(Str.ofString "default",i)]) (EP X pins j Q) E s:=by
 have c:(toString "min" ++ toString ".loop" : String) = "min.loop" := by decide
 obtain⟨W,K,M,w,G⟩:=h;obtain⟨us,rv,r,hz⟩:=I.list B
 have C:a<s.heap.objs.size:=let ⟨_,e,_⟩:=r.isList; Heap.lt_size e
 refine kmk_tree PySem.F.kind_min PySem.F.plain_min PySem.F.entry_min (Al5 _ _ _) ?_
 show wpAny _ X.A.in1 (Builtin.Builtins.bindParams "min" ["key", "default"] 0 ⟨[],[(Str.ofString "key",.ref f),(Str.ofString "default",i)]⟩ >>= _) _ _ s
 refine wpAny_bind (wpAny_of_eq (show Builtin.Builtins.bindParams "min" ["key", "default"] 0 ⟨[],[(Str.ofString "key",.ref f),(Str.ofString "default",i)]⟩=pure [some (.ref f),some i] from rfl) ?_)
 refine wpAny_bind (wpAny_pure ?_)
 refine wpAny_bind (wpAny_pyIter_list r.isList ?_)
 refine wpAny_bind (wpAny_newList ?_ (aB _))
 rw[c]
 refine wpAny_pure ⟨plainId_quiet dm _,?_⟩
 generalize hh1:s.heap.push { cls:=.type "list_iterator",data:=.fields #[.ref a,.int 0 0] }=h1
 have g:h1.objs.size=s.heap.objs.size+1:=by rw[<- hh1,Heap.size_push]
 have t:Inv X pins j H { s with heap:=h1.push { cls:=.type "list",data:=.seq ([]:w6).toArray } }:=I.kept (t':=s.toks) λb o e=>Heap.get?_push_of_some _ (by rw[<- hh1];exact Heap.get?_push_of_some _ e)
 have A:∀b o,s.heap.get? b=some o->b≠s.heap.objs.size/\b≠h1.objs.size:=λb o e=>by have:=Heap.lt_size e;rw[g];exact⟨aD this,aD (cV this)⟩
 have m:=I.fpOk (b:=s.heap.objs.size) (ak _) (I.hok.fresh (ak _))
 have l:=I.fpOk (b:=h1.objs.size) (by rw[g];exact c7 _) (I.hok.fresh (by rw[g];exact c7 _))
 have u:(h1.push { cls:=.type "list",data:=.seq ([]:w6).toArray }).get? s.heap.objs.size=some { cls:=.type "list_iterator",data:=.fields #[.ref a,.int 0 0] }:=Heap.get?_push_of_some _ (by rw[<- hh1];exact Heap.get?_push_size _ rfl)
 have J:(h1.push { cls:=.type "list",data:=.seq ([]:w6).toArray }).get? h1.objs.size=some { cls:=.type "list",data:=.seq ([]:w6).toArray }:=Heap.get?_push_size _ rfl
 refine A6w (S:=h1.objs.size) hc F hr hb D (by rw[g];exact eN I.sz) I.sz (by rw[g];exact bw (cJ _)) (aD C)
  (λp L=>let ⟨x,y⟩:=A _ _ (I.pin p L).1; ⟨y,x⟩) W M w G _ 0 none _ 0 { cls:=.type "list_iterator",data:=.fields #[.ref a,.int 0 0] } H _ rfl (aB _) rfl K (t.pins_of λp n=>?_) ⟨_,u,rfl,rfl⟩
 rcases aX.mp n with z | z
 ·exact t.pin p (aq _ z)
 ·rcases az.mp z with rfl | z
  ·exact⟨J,l.1,l.2.1,l.2.2.1,λv z=>by cases z⟩
  ·rw[aJ.mp z]
   exact⟨u,m.1,m.2.1,m.2.2.1,λv z=>by cases z⟩
end
section
variable {X:Cx}
theorem Ai0 (a v d:Value):argsOk "max" ⟨[a],[(Str.ofString "key",v),(Str.ofString "default",d)]⟩:=by rfl
theorem Bf2 {E:z_} (hc:X.calm=true)
 (F:FnOk X.prog X.w X.K X.mg X.base CX0 k f fd ps sp) (hr:Room (k+1) X.A) (hb:Binds X.K fd ps []) (rd:RelV d ud) (hS:X.s₀.heap.objs.size<=S) (hJ:X.s₀.heap.objs.size<=J) (M:S≠J) (haJ:a≠J)
 (hp:∀p∈X.pn++pins,p.1≠S/\p.1≠J)
 (W:Nat->Option (V×V)->Hp->Prop) (w1:∀i g H,W i g H->SqL X.K H a vs)
 (w2:∀i x g H,vs[i]?=some x->W i g H->sp [x] H (λl H1=>match g with
  | none=>W (i+1) (some (x,l)) H1
  | some (bx,bk)=>∃dk db r,Tr H1 dk l/\Tr H1 db bk/\Flat dk/\Flat db/\Jw true dk db=some r/\W (i+1) (if r=true then some (x,l) else some (bx,bk)) H1) E0)
 (w3:∀g H,W vs.length g H->Q (match g with | some (x,_)=>x | none=>d) H) :
 ∀
  (r i:Nat) (g:Option (V×V)) (j:w6) (n:Nat) (oJ:Obj) (H:Hp) (s:u_),vs.length-i=r->i<=vs.length->Bu5 g j->W i g H ->
  Inv X (pins++[(S,{ cls:=.type "list",data:=.seq j.toArray n }),(J,oJ)]) O H s->s.heap.IsListIter J a i ->
  codeAny (model X.prog X.w) X.A (.builtin "max.loop" ⟨[.ref J,.ref f,.ref S],[(Str.ofString "default",ud)]⟩) (λr s'=>match r with | .ok (.ret v)=>EP X pins O Q v s' | .ok _=>False | .error e=>E e s') s:=by
 have m:(toString "max" ++ toString ".loop" : String) = "max.loop" := by decide
 have hu:X.A.units+100<cLine:=by have:=hr.un;lia
 intro r
 induction r with
 | zero =>
  intro i g j n oJ H s hri hi h hw I hit
  have e:i=vs.length:=by lia
  subst e;obtain⟨B,ps2,ps3,ps4,Y⟩:=I.pin (S,{ cls:=.type "list",data:=.seq j.toArray n }) (aq _ (aq _ aP));obtain⟨U,L,N,pj4,pj5⟩:=I.pin (J,oJ) (aq _ (aq _ (aW _ aP)));obtain⟨us,rv,pl,hz⟩:=I.list (w1 _ _ _ hw);have hlen:=rv.length
  have I0:Inv X pins O H s:=I.pins_of λp hp=>I.pin p (aq _ (aZ _ hp))
  refine codeAny_builtin PySem.F.entry_max_loop ?_
  rw[Around.under_plainId dq _]
  show wpAny _ X.A.in1 (seqItems? (.ref S) >>= _) _ _ _
  refine wpAny_bind (wpAny_seqItems B rfl ?_)
  show wpAny _ X.A.in1 (tryCatch (pyNext (.ref J)) _ >>= _) _ _ _
  refine wpAny_bind (wpAny_tryCatch (wpAny_pyNext_list_end (A:=X.A.in1) (I.ok.hd hc) hit pl.isList (by simp;lia) λh' eb=>?_))
  have I1:Inv X pins O H { s with heap:=h' }:=I0.turned (t':=s.toks) (λb o hb e=>eb b o hb e) L N (.inr hJ) (λx c e z=>by
   obtain⟨v,ob,R,C⟩:=I.cell x c e
   rw[z,U]at R;cases R;exact pj5 v C) (λp G=>(hp p G).2)
  cases g with
  | none =>
   cases (show j=[] from h)
   show wpAny _ X.A.in1 (rule _ >>= _) _ _ _
   refine wpAny_bind (wpAny_rule (wpAny_pure ?_))
   exact⟨d,H,I1,rd,w3 none H hw⟩
  | some b =>
   obtain⟨bx,bk⟩:=b;obtain⟨u,t,rfl,ru,rt⟩:=h;have ps1':=eb S _ M B
   show wpAny _ X.A.in1 (updateSeq S (λ_=>#[]) >>= _) _ _ _
   refine wpAny_bind (wpAny_updateSeq ps1' rfl (wpAny_bind (wpAny_letGo (wpAny_pure ?_))))
   refine⟨bx,H,I1.turned (t':=s.toks) (λb o hb e=>(Heap.get?_update_other h' _ (aC hb)).trans e) ps2 ps3 (.inr hS) (λx c e z=>?_) (λp G=>(hp p G).1),ru,w3 (some (bx,bk)) H hw⟩
   obtain⟨v,ob,R,C⟩:=I.cell x c e;rw[z,B]at R;cases R;exact Y v C
 | succ r ih =>
  intro i g j n oJ H s hri hi h hw I hit
  have D:i<vs.length:=by lia
  obtain⟨B,ps2,ps3,ps4,Y⟩:=I.pin (S,{ cls:=.type "list",data:=.seq j.toArray n }) (aq _ (aq _ aP));obtain⟨U,L,N,pj4,pj5⟩:=I.pin (J,oJ) (aq _ (aq _ (aW _ aP)));obtain⟨us,rv,pl,hz⟩:=I.list (w1 _ _ _ hw);have hlen:=rv.length
  obtain⟨u,hu1,ru⟩:=rv.get (i:=i) (x:=vs[i]) (by simp[D])
  have I0:Inv X pins O H s:=I.pins_of λp hp=>I.pin p (aq _ (aZ _ hp))
  refine codeAny_builtin PySem.F.entry_max_loop ?_
  rw[Around.under_plainId dq _]
  show wpAny _ X.A.in1 (seqItems? (.ref S) >>= _) _ _ _
  refine wpAny_bind (wpAny_seqItems B rfl ?_)
  show wpAny _ X.A.in1 (tryCatch (pyNext (.ref J)) _ >>= _) _ _ _
  refine wpAny_bind (wpAny_tryCatch (wpAny_pyNext_list_item (A:=X.A.in1) hit pl.isList (x:=u) (by simpa using hu1) λh' hit' sb=>?_))
  have I1:Inv X pins O H { s with heap:=h' }:=I0.turned (t':=s.toks) (λb o hb e=>(sb.2 b hb).trans e) L N (.inr hJ) (λx c e z=>by
   obtain⟨v,ob,R,C⟩:=I.cell x c e
   rw[z,U]at R;cases R;exact pj5 v C) (λp G=>(hp p G).2)
  obtain⟨w,hoJ',hoc,Z⟩:=id hit'
  have I2:Inv X (pins++[(S,{ cls:=.type "list",data:=.seq j.toArray n }),(J,w)]) O H { s with heap:=h' }:=I1.pins_of λp K=>by
   rcases aX.mp K with z | z
   ·exact I1.pin p (aq _ z)
   ·rcases az.mp z with rfl | z
    ·exact⟨(sb.2 S M).trans B,ps2,ps3,ps4,Y⟩
    ·rw[aJ.mp z]
     exact⟨hoJ',L,N,pj4,λv q=>by rw[Z]at q;cases q⟩
  show wpAny _ X.A.in1 (tryCatch (holding [u] (call (.ref f) [u])) _ >>= _) _ _ _
  refine wpAny_bind (wpAny_tryCatch (wpAny_holding (wpAny_mono (A1p (E:=λ_ _=>False) F hr hb I2 (.cons ru .nil) (w2 i vs[i] g H (by simp[D]) hw)) (λl s3 h3=>?_) λ_ _ z=>z.elim)))
  obtain⟨kx,H3,I3,rk,q3⟩:=h3;obtain⟨t1,t2,t3,t4,t5⟩:=I3.pin (S,{ cls:=.type "list",data:=.seq j.toArray n }) (aq _ (aq _ aP));obtain⟨j1,j2,j3,j4,j5⟩:=I3.pin (J,w) (aq _ (aq _ (aW _ aP)));have hit3:s3.heap.IsListIter J a (i+1):=⟨w,j1,hoc,Z⟩
  have P:∀(y:w6),∃n',Inv X (pins++[(S,{ cls:=.type "list",data:=.seq y.toArray n' }),(J,w)]) O H3 { s3 with heap:=s3.heap.update S (Obj.mapSeq λ_=>y.toArray) }:=λy=>by
   have q:=d_ t1 (λ_=>y.toArray)
   refine⟨_,I3.recS hS (λp K=>?_) (λp K=>(hp p (aZ _ K)).1) q λv z=>by cases z⟩
   rcases aX.mp K with z | z
   ·exact(hp p (aq _ z)).1
   ·rw[aJ.mp z];exact aC M
  have T:∀y:w6,(s3.heap.update S (Obj.mapSeq λ_=>y.toArray)).IsListIter J a (i+1):=λy=>⟨w,(Heap.get?_update_other s3.heap _ M).trans j1,hoc,Z⟩
  cases g with
  | none =>
   cases (show j=[] from h)
   obtain⟨n',I4⟩:=P [u,l]
   show wpAny _ X.A.in1 (updateSeq S (λ_=>#[u,l]) >>= _) _ _ _
   refine wpAny_bind (wpAny_updateSeq t1 rfl ?_)
   rw[m]
   exact wpAny_pure ⟨plainId_quiet dq _,ih (i+1) (some (vs[i],kx)) [u,l] n' w H3 _ (by lia) D ⟨u,l,rfl,ru,rk⟩ q3 I4 (T [u,l])⟩
  | some b =>
   obtain⟨bx,bk⟩:=b;obtain⟨ub,tb,rfl,rub,rtb⟩:=h;obtain⟨dk,db,r',tk,tdb,fk,fb,ecmp,wn⟩:=q3;obtain⟨as,rdk⟩:=tk.reads I3 rk;obtain⟨bs,rdb⟩:=tdb.reads I3 rtb
   show wpAny _ X.A.in1 (tryCatch (holding [u,l] (richCompare .Gt l tb >>= _)) _ >>= _) _ _ _
   refine wpAny_bind (wpAny_tryCatch (wpAny_holding (wpAny_bind (Qf true dk db X.A.in1 s3 l tb as bs r' rdk rdb fk.1 fb.1 (by show X.A.units+1+dk.depth<cLine;have:=fk.2;lia) ecmp X.prog X.w _ _ ?_))))
   refine wpAny_bind (wpAny_holding (wpAny_truthy_bool ?_))
   refine wpAny_bind (wpAny_letGo (wpAny_pure ?_))
   cases r' with
   | true =>
    obtain⟨n',I4⟩:=P [u,l];simp only[bY]
    refine wpAny_bind (wpAny_updateSeq t1 rfl (wpAny_bind (wpAny_letGo ?_)))
    rw[m]
    exact wpAny_pure ⟨plainId_quiet dq _,ih (i+1) (some (vs[i],kx)) [u,l] n' w H3 _ (by lia) D ⟨u,l,rfl,ru,rk⟩ wn I4 (T [u,l])⟩
   | false =>
    simp only[cM,bJ]
    refine wpAny_bind (wpAny_letGo ?_)
    rw[m]
    exact wpAny_pure ⟨plainId_quiet dq _,ih _ (some _) _ n _ _ _ (by lia) D ⟨ub,tb,rfl,rub,rtb⟩ (by simpa using wn) I3 hit3⟩
theorem Aq3 (hc:X.calm=true)
 (F:FnOk X.prog X.w X.K X.mg X.base CX0 k f q ps sp) (hr:Room (k+1) X.A) (hb:Binds X.K q ps []) (I:Inv X pins j H s) (B:SqL X.K H a vs) (D:RelV d i) (h:MmW true X.K sp a vs d H Q) :
 wpAny (model X.prog X.w) X.A (call (.builtin "max") [.ref a] [(Str.ofString "key",.ref f),(Str.ofString "default",i)]) (EP X pins j Q) E s:=by
 have c:(toString "max" ++ toString ".loop" : String) = "max.loop" := by decide
 obtain⟨W,K,M,w,G⟩:=h;obtain⟨us,rv,r,hz⟩:=I.list B
 have C:a<s.heap.objs.size:=let ⟨_,e,_⟩:=r.isList; Heap.lt_size e
 refine kmk_tree PySem.F.kind_max PySem.F.plain_max PySem.F.entry_max (Ai0 _ _ _) ?_
 show wpAny _ X.A.in1 (Builtin.Builtins.bindParams "max" ["key", "default"] 0 ⟨[],[(Str.ofString "key",.ref f),(Str.ofString "default",i)]⟩ >>= _) _ _ s
 refine wpAny_bind (wpAny_of_eq (show Builtin.Builtins.bindParams "max" ["key", "default"] 0 ⟨[],[(Str.ofString "key",.ref f),(Str.ofString "default",i)]⟩=pure [some (.ref f),some i] from rfl) ?_)
 refine wpAny_bind (wpAny_pure ?_)
 refine wpAny_bind (wpAny_pyIter_list r.isList ?_)
 refine wpAny_bind (wpAny_newList ?_ (aB _))
 rw[c]
 refine wpAny_pure ⟨plainId_quiet dq _,?_⟩
 generalize hh1:s.heap.push { cls:=.type "list_iterator",data:=.fields #[.ref a,.int 0 0] }=h1
 have g:h1.objs.size=s.heap.objs.size+1:=by rw[<- hh1,Heap.size_push]
 have t:Inv X pins j H { s with heap:=h1.push { cls:=.type "list",data:=.seq ([]:w6).toArray } }:=I.kept (t':=s.toks) λb o e=>Heap.get?_push_of_some _ (by rw[<- hh1];exact Heap.get?_push_of_some _ e)
 have A:∀b o,s.heap.get? b=some o->b≠s.heap.objs.size/\b≠h1.objs.size:=λb o e=>by have:=Heap.lt_size e;rw[g];exact⟨aD this,aD (cV this)⟩
 have m:=I.fpOk (b:=s.heap.objs.size) (ak _) (I.hok.fresh (ak _))
 have l:=I.fpOk (b:=h1.objs.size) (by rw[g];exact c7 _) (I.hok.fresh (by rw[g];exact c7 _))
 have u:(h1.push { cls:=.type "list",data:=.seq ([]:w6).toArray }).get? s.heap.objs.size=some { cls:=.type "list_iterator",data:=.fields #[.ref a,.int 0 0] }:=Heap.get?_push_of_some _ (by rw[<- hh1];exact Heap.get?_push_size _ rfl)
 have J:(h1.push { cls:=.type "list",data:=.seq ([]:List _).toArray }).get? _=some _:=Heap.get?_push_size _ rfl
 refine Bf2 hc F hr hb D (by rw[g];exact eN I.sz) I.sz (by rw[g];exact bw (cJ _)) (aD C)
  (λp L=>let ⟨x,y⟩:=A _ _ (I.pin p L).1; ⟨y,x⟩) W M w G _ 0 none _ 0 { cls:=.type "list_iterator",data:=.fields #[.ref a,.int 0 0] } H _ rfl (aB _) rfl K (t.pins_of λp n=>?_) ⟨_,u,rfl,rfl⟩
 rcases aX.mp n with z | z
 ·exact t.pin p (aq _ z)
 ·rcases az.mp z with rfl | z
  ·exact⟨J,l.1,l.2.1,l.2.2.1,λv z=>by cases z⟩
  ·rw[aJ.mp z]
   exact⟨u,m.1,m.2.1,m.2.2.1,λv z=>by cases z⟩
end
section
variable {X:Cx}{p pos:Pos}{e:Expr}{t tk:TA}{kws:List Keyword}
def tMM (gt:Bool)(K:v9)(f:Addr)(sp:Sp)(t tk:TA):TE:=λσ H Q=>t σ H λvs H1=>tk σ H1 λzs H2=>∃a xs d,vs=[.ref a]/\zs=[.ref f,d]/\SqL K H2 a xs/\MmW gt K sp a xs d H2 Q
theorem Bb5 (hc:X.calm=true) (F:FnOk X.prog X.w X.K X.mg X.base CX0 k f c ps sp) (hr:Room (k+1) X.A) (hb:Binds X.K c ps []) (hg:Gl X "min") (hm:X.mg "min" = none)
 (ha:PA X [e] t) (hkw:PK X kws tk) (hall:(backToKw pos (keywordEach kws X.env)).all (·.1.isSome)=true:=by rfl) (hks:(backToKw pos (keywordEach kws X.env)).filterMap (·.1)=[Str.ofString "key",Str.ofString "default"]:=by rfl)
 (he:backTo pos (starEach [e] X.env)=(false,eval e X.env)::backTo pos (starEach [] X.env):=by rfl) (hpl:(backTo pos (starEach [e] X.env)).any (·.1)=false:=by rfl) (hno:(backToKw pos (keywordEach kws X.env)).any (·.1.isNone)=false:=by rfl) :
 PE X (.Call (.Name "min" p) [e] kws pos) (tMM false X.K f sp t tk):=by
 intro b s σ H Q I h
 refine wpAny_Call_Name_kw (Kl I hg hm boot_min ?_ (by decide) (by rfl))
 refine fM (thn (ha _ _ s _ H _ I h) λus s1 ⟨vs,H1,l,r,q⟩=>?_) he hpl hall hno
 refine thn (hkw _ _ _ _ _ _ l q) λws s2 ⟨zs,H2,m,j,n⟩=>?_
 obtain⟨a,xs,d,rfl,rfl,i,v⟩:=n;obtain⟨u,rfl,o⟩:=vals1 r
 cases o
 obtain⟨uf,ud,rfl,w,g⟩:=Vals.two j
 cases w
 rw[hks];exact Ar3 hc F hr hb m i g v
theorem A7s (hc:X.calm=true) (F:FnOk X.prog X.w X.K X.mg X.base CX0 k f c ps sp) (hr:Room (k+1) X.A) (hb:Binds X.K c ps []) (hg:Gl X "max") (hm:X.mg "max" = none)
 (ha:PA X [e] t) (hkw:PK X kws tk) (hall:(backToKw pos (keywordEach kws X.env)).all (·.1.isSome)=true:=by rfl) (hks:(backToKw pos (keywordEach kws X.env)).filterMap (·.1)=[Str.ofString "key",Str.ofString "default"]:=by rfl)
 (he:backTo pos (starEach [e] X.env)=(false,eval e X.env)::backTo pos (starEach [] X.env):=by rfl) (hpl:(backTo pos (starEach [e] X.env)).any (·.1)=false:=by rfl) (hno:(backToKw pos (keywordEach kws X.env)).any (·.1.isNone)=false:=by rfl) :
 PE X (.Call (.Name "max" p) [e] kws pos) (tMM true X.K f sp t tk):=by
 intro b s σ H Q I h
 refine wpAny_Call_Name_kw (Kl I hg hm boot_max ?_ (by decide) (by rfl))
 refine fM (thn (ha _ _ s _ H _ I h) λus s1 ⟨vs,H1,l,r,q⟩=>?_) he hpl hall hno
 refine thn (hkw _ _ _ _ _ _ l q) λws s2 ⟨zs,H2,m,j,n⟩=>?_
 obtain⟨a,xs,d,rfl,rfl,i,v⟩:=n;obtain⟨u,rfl,o⟩:=vals1 r
 cases o
 obtain⟨uf,ud,rfl,w,g⟩:=Vals.two j
 cases w
 rw[hks];exact Aq3 hc F hr hb m i g v
end
noncomputable def A2s (H:Hp):V->Option Nat
 | .ref p=>match H p with
  | some (.lst xs)=>some xs.length
  | some (.tup xs)=>some xs.length
  | _=>none
 | .str z=>if z.length<=sizeLine then some z.length else none
 | _=>none
def rAppF:V->m8->Hp->VK->Prop:=λx vs H Q=>∃l y xs,x=.ref l/\vs=[y]/\H l=some (.lst xs)/\xs.length<sizeLine/\Q .non (upd H l (.lst (xs++[y])))
def Bw9 (K:v9)(tl:TE):TI:=λσ H R=>tl σ H λx H1=>∃a,x=.ref a/\((∃xs,H1 a=some (.lst xs)/\R (Itl K a) H1)\/(∃xs,H1 a=some (.tup xs)/\R (Itt K a) H1))
section
variable {X:Cx}
theorem A1y:zB X (.builtin "len") (λxs H Q=>∃x n,xs=[x]/\A2s H x=some n/\Q (.int (n:Nat)) H):=by
 intro a s σ H xs us Q I r h;obtain⟨x,n,rfl,e,q⟩:=h
 refine Al8 _ s _ H _ _ Q I r ⟨x,n,rfl,?_,q⟩
 cases x with
 | ref p =>
  have e:(match H p with | some (.lst _)=>some _ | some (.tup _)=>some _ | _=>none)=some n:=e
  cases hp:H p with
  | none=>simp_all
  | some o =>
   rw[hp]at e
   cases o with
   | lst xs=>cases e;exact .inl ⟨xs,SqL.of hp,rfl⟩
   | tup xs=>cases e;exact .inr ⟨xs,SqT.of hp,rfl⟩
   | _=>grind
 | str z =>
  have e:(if z.length<=sizeLine then some _ else none)=some n:=e
  split at e
  ·cases e;trivial
  trivial
 | _=>cases e
theorem Bk8:MtM X "list.append" rAppF:=by
 intro a s j H x k v m Q I e f h;obtain⟨l,y,d,c,g,i,b,q⟩:=h;exact A3n _ s _ H x _ v _ Q I e f ⟨l,d,y,c,g,i,b,q⟩
theorem Bz6 (hl:PE X l j):PI X u l (Bw9 X.K j):=by
 intro k s z H R I h
 refine thn (hl _ s _ H _ I h) λv d ⟨x,m,c,r,f⟩=>?_
 obtain⟨a,e,f⟩:=f;subst e
 cases r
 rcases f with ⟨t,i,q⟩ | ⟨t,i,q⟩
 ·obtain⟨g,w,p,y⟩:=c.list (SqL.of i)
  refine wpAny_pyIter_list p.isList ?_
  refine⟨d.heap.objs.size,[d.heap.objs.size],_,_,m,rfl,c.kept λb o e=>Heap.get?_push_of_some _ e,A3w a _,⟨_,Heap.get?_push_size _ rfl,rfl,rfl⟩,λb n=>?_,q⟩
  have e:b=d.heap.objs.size:=by grind
  subst e;exact c.fpOk (ak _) (c.hok.fresh (ak _))
 ·obtain⟨g,w,p,y⟩:=c.tuple (SqT.of i)
  refine wpAny_pyIter_tuple (show d.heap.IsTuple a _ from p) ?_
  refine⟨d.heap.objs.size,[d.heap.objs.size],_,_,m,rfl,c.kept λb o e=>Heap.get?_push_of_some _ e,Av7 a _,⟨_,Heap.get?_push_size _ rfl,rfl,rfl⟩,λb n=>?_,q⟩
  have e:b=d.heap.objs.size:=by grind
  subst e;exact c.fpOk (ak _) (c.hok.fresh (ak _))
def Mq (t:String):List String->Option Bool
 | []=>some false
 | T::r=>match Es t T with
  | some true=>some true
  | some false=>Mq t r
  | none=>none
theorem Vg {K:v9}{t:String}:∀{Ts:List String}{b:Bool},Mq t Ts=some b->PySem.W.kitAny K (.type t) (Ts.map Value.type)=some b
 | [],b,h=>h
 | T::r,b,h=>by
  have h:(match Es t T with | some true=>some true | some false=>Mq t r | none=>none)=some b:=h
  show (match PySem.W.kitOne K (.type t) (.type T) with | some true=>some true | some false=>PySem.W.kitAny K (.type t) (r.map Value.type) | none=>none)=some b
  cases e:Es t T with
  | none=>rw[e]at h;cases h
  | some k =>
   rw[e]at h;rw[Aj7 e]
   cases k with
   | true=>exact h
   | false=>exact Vg h
theorem Ai6:∀{Ts:List String}{us:w6},Vals (Ts.map V.ty) us->us=Ts.map Value.type
 | [],_,.nil=>rfl
 | T::r,_,.cons h t=>by
  cases (show _=Value.type T from h)
  rw[Ai6 t]
  rfl
theorem A2n:zB X (.builtin "isinstance") (λxs H Q=>∃x p a t b,xs=[x,.ref p]/\H p=some (.tup (a.map V.ty))/\O3 H x=some t/\Mq t a=some b/\Q (.bl b) H):=by
 intro e s σ H xs us Q I r h;obtain⟨x,p,a,t,b,rfl,d,E,j,q⟩:=h;obtain⟨u,v,rfl,k,l⟩:=Vals.two r
 cases (l)
 obtain⟨z,m,w,o,y,A,⟨n,B⟩,C⟩:=I.hok p _ d;have D:=Ai6 w;subst D;obtain⟨F,dd,f,sl⟩:=o;subst A B
 have c:∀g,EP X _ _ Q _ { s with toks:=g }:=λg=>⟨.bl b,H,I.tok _,rfl,q⟩
 obtain⟨d,z,p,i⟩:=Bc5 I k E;exact PySem.W.kia_tup z I.kIn p y (Vg j) i c
end
theorem A9b:bootBuiltins "len" = some (.builtin "len"):=by decide +kernel
theorem B2b:bootBuiltins "abs" = some (.builtin "abs"):=by decide +kernel
theorem Ht:bootBuiltins "isinstance" = some (.builtin "isinstance"):=by decide +kernel
theorem B3k:bootBuiltins "any" = some (.builtin "any"):=by decide +kernel
theorem B0l:bootBuiltins "all" = some (.builtin "all"):=by decide +kernel
theorem B2x:bootBuiltins "sum" = some (.builtin "sum"):=by decide +kernel
theorem Bz9:bootBuiltins "min" = some (.builtin "min"):=by decide +kernel
theorem Av8:bootBuiltins "int" = some (.type "int"):=by decide +kernel
theorem Rw:bootBuiltins "str" = some (.type "str"):=by decide +kernel
theorem Ad9:bootBuiltins "bool" = some (.type "bool"):=by decide +kernel
theorem Uj:bootBuiltins "list" = some (.type "list"):=by decide +kernel
theorem M6:bootBuiltins "tuple" = some (.type "tuple"):=by decide +kernel
theorem B3f:bootBuiltins "set" = some (.type "set"):=by decide +kernel
theorem Dq {X:Cx}{N':v4}{idx:o4}{scope:Scope}(h1:scope.kind=.function:=by exact rfl)(h3:(scope.names.map (·.1)).Nodup:=by decide +kernel)
 (h4:(scope.names.all λy=>decide (y.2≠.free)||decide (X.env.kindOf y.1=some .cell)||decide (X.env.kindOf y.1=some .free))=true:=by exact rfl) (h5:idx.length=N'.length:=by exact rfl)
 (h6:((idx.zip N').all λp=>match p.1 with | none=>true | some i=>decide (X.N[i]?=some p.2)&&decide (scope.names.lookup p.2=some .free))=true:=by exact rfl):Gj X N' idx scope where
 kind:=h1
 nod:=h3
 free:=λy hy hf=>by
  have h:=aL.mp h4 y hy;simp only[Bool.or_eq_true,du]at h
  rcases h with (h | h) | h
  ·exact absurd hf h
  ·exact .inl h
  ·exact .inr h
 len:=h5
 at':=λj i x e1 e2=>by
  have hz:(some i,x)∈idx.zip N':=by
   have:(idx.zip N')[j]?=some (some i,x):=by simp[List.getElem?_zip_eq_some,e1,e2]
   exact bG this
  have h:=aL.mp h6 _ hz;simp only[bC,du]at h;exact h
noncomputable def V8:Expr->Option V
 | .Constant (.int i) _ _=>some (.int i)
 | .Constant (.str x) _ _=>some (.str x)
 | .Constant (.bool b) _ _=>some (.bl b)
 | .Constant .none _ _=>some .non
 | _=>none
def Q0:v_->Option (m8)
 | []=>some []
 | e::es=>match V8 e,Q0 es with
  | some v,some vs=>some (v::vs)
  | _,_=>none
def tK (vs:m8):TA:=λ_ H Q=>Q vs H
theorem Bf1 (h:V8 e=some v):PE X e (tC v)/\∀es,starEach (e::es) X.env=(false,eval e X.env)::starEach es X.env:=by
 unfold V8 at h
 split at h <;> first
  | (cases h;exact⟨A7z,λ_=>rfl⟩)
  | (cases h;exact⟨A6t,λ_=>rfl⟩)
  | (cases h;exact⟨Bt2,λ_=>rfl⟩)
  | (cases h;exact⟨Bd8,λ_=>rfl⟩)
  | cases h
theorem Zo {X:Cx}:∀{es:v_}{vs:m8},Q0 es=some vs->PA X es (tK vs)
 | [],vs,h=>by cases h;exact Ro
 | e::es,vs,h=>by
  have h:(match V8 e,Q0 es with | some v,some vs=>some (v::vs) | _,_=>none)=some vs:=h
  cases e1:V8 e with
  | none=>rw[e1]at h;cases h
  | some v =>
   cases e2:Q0 es with
   | none=>rw[e1,e2]at h;cases h
   | some r =>
    rw[e1,e2]at h
    cases h
    obtain⟨p1,p2⟩:=Bf1 (X:=X) e1;exact Ax6 p1 (Zo e2) (p2 es)
noncomputable def isStar:Expr->Bool
 | .Starred ..=>true
 | _=>false
def noStar:v_->Bool
 | []=>true
 | e::es=>!isStar e&&noStar es
theorem Hs (h:isStar e=false):starEach (e::es) env=(false,eval e env)::starEach es env:=by
 cases e <;> first | rfl | cases h
theorem Ln {pos:Pos}{env:Env}:∀{es:v_},noStar es=true->(backTo pos (starEach es env)).any (·.1)=false
 | [],_=>rfl
 | e::es,h=>by
  obtain⟨h1,h2⟩:=au.mp h
  rw[Hs (by simpa using h1)]
  show (false||(backTo pos (starEach es env)).any (·.1))=false
  rw[Ln h2]
  rfl
theorem Gp (h:noStar (e::es)=true):isStar e=false/\noStar es=true:=by
 obtain⟨b,a⟩:=au.mp h
 simp_all
section
variable {X:Cx}{CX:CXT}{k:Nat}{f:Addr}{fd:u5}{ps:v4}{sp:Sp}{dvs:m8}{ds:w6}{E:XK}{x:Str}{p pos:Pos}{e:Expr}{es:v_}{te:TE}{t:TA}{id T:String}{r:m8->Hp->VK->Prop}
theorem A5z (ha:PE X e te)(hr:PA X es t)(hs:isStar e=false:=by rfl):PA X (e::es) (Bt te t):=Ax6 ha hr (Hs hs)
theorem Ba5 (F:FnOk X.prog X.w X.K X.mg X.base CX k f fd ps sp)(hr:Room k X.A)(hg:Gl X x)(hm:X.mg x=some (.ref f))(hk:PySem.W.keepIn X.K (.ref f)=true)(hb:Binds X.K fd ps ds)(hd:Vals dvs ds)(hx:Hi CX X E)
 (ha:PA X (e::es) t) (hdb:(x==("__debug__" : Str))=false:=by decide) (hn:noStar (e::es)=true:=by rfl):PE X (.Call (.Name x p) (e::es) [] pos) (Le sp dvs E t) :=
 Bh1 F hr hg hm hk hb hd hx ha hdb (Hs (Gp hn).1) (Ln (Gp hn).2)
theorem Eo (hc:zB X (.builtin id) r)(hg:Gl X x)(hm:X.mg x=none)(hv:bootBuiltins x=some (.builtin id))(ha:PA X (e::es) t)(hn:x ≠ "__name__" := by decide) (hdb:(x==("__debug__" : Str))=false:=by decide)
 (hns:noStar (e::es)=true:=by rfl):PE X (.Call (.Name x p) (e::es) [] pos) (tCB r t):=Bf0 hc hg hm hv ha hn hdb (Hs (Gp hns).1) (Ln (Gp hns).2)
theorem Mi (hc:zB X (.type T) r)(hg:Gl X x)(hm:X.mg x=none)(hv:bootBuiltins x=some (.type T))(ha:PA X (e::es) t)(hn:x ≠ "__name__" := by decide) (hdb:(x==("__debug__" : Str))=false:=by decide)
 (hns:noStar (e::es)=true:=by rfl):PE X (.Call (.Name x p) (e::es) [] pos) (tCB r t):=A2y hc hg hm hv ha hn hdb (Hs (Gp hns).1) (Ln (Gp hns).2)
end
section
variable {X:Cx}{a b e:Expr}{es:v_}{ta tb te:TE}{t:TA}{p pos apos cpos:Pos}
theorem Cz {b:List Keyword}{a:Pos}:Oj (.Call f args b a):=λ_ _=>rfl
theorem Lx {a:Pos}:Oj (.Name x a):=λ_ _=>rfl
theorem Av {a:Pos}:Oj (.Constant (.int i) j a):=λ_ _=>rfl
theorem Mu {b:Pos}:Oj (.UnaryOp op a b):=λ_ _=>rfl
theorem Gn (ha:QE X a ta)(hb:QE X b tb):QE X (.BinOp a .Sub b pos) (tOp (rI0 λi j=>.int (i-j)) ta tb):=⟨Vc B3a ha.1 hb.1⟩
theorem Je (ha:QE X a ta)(hb:QE X b tb):QE X (.BinOp a .Mult b pos) (tOp (rI CMul λi j=>.int (i*j)) ta tb):=⟨Vc B1p ha.1 hb.1⟩
theorem V4 (ha:QE X a ta)(hb:QE X b tb):QE X (.BinOp a .FloorDiv b pos) (tOp (rI Bk0 λi j=>.int (i / j)) ta tb):=⟨Vc Bp9 ha.1 hb.1⟩
theorem Hl (ha:QE X a ta)(hb:QE X b tb):QE X (.BinOp a .Mod b pos) (tOp (rI (λ_ j=>0<j) λi j=>.int (i % j)) ta tb):=⟨Vc B3e ha.1 hb.1⟩
theorem Jh (ha:QE X a ta)(hb:QE X b tb):QE X (.BinOp a .Pow b pos) (tOp (rI Bn4 λi j=>.int (i ^ j.toNat)) ta tb):=⟨Vc By2 ha.1 hb.1⟩
theorem Av5 (ha:PE X a ta)(hb:PE X b tb):PE X (.BinOp a .Add b pos) (tOp (A0u X.K) ta tb):=Vc A1l ha hb
def B6t:R2:=λx y H Q=>∃da db,Tr H da x/\Tr H db y/\Flat da/\Flat db/\Q (.bl (PyData.eqv da db)) H
def B6r:R2:=λx y H Q=>∃da db,Tr H da x/\Tr H db y/\Flat da/\Flat db/\Q (.bl (!PyData.eqv da db)) H
def B4r:R2:=λx y H Q=>∃da db r,Tr H da x/\Tr H db y/\Flat da/\Flat db/\Jw false da db=some r/\Q (.bl r) H
theorem Ao1 (ha:QE X a ta)(hb:QE X b tb):QT X (.Compare a [.Lt] [b] pos) (O5 (tOp (rI0 λi j=>.bl (decide (i<j))) ta tb)):=⟨J6 B4w ha.1 hb.1 (Ke _)⟩
theorem Vx (ha:QE X a ta)(hb:QE X b tb):QT X (.Compare a [.Gt] [b] pos) (O5 (tOp (rI0 λi j=>.bl (decide (j<i))) ta tb)):=⟨J6 B6b ha.1 hb.1 (Ke _)⟩
theorem A5v (ha:QE X a ta)(hb:QE X b tb):QE X (.Compare a [.GtE] [b] pos) (tOp (rI0 λi j=>.bl (decide (j<=i))) ta tb):=⟨Us B3t ha.1 hb.1 (Ke _)⟩
theorem Kw (ha:QE X a ta)(hb:QE X b tb):QT X (.Compare a [.Is] [b] pos) (O5 (tOp (λx y H Q=>y=.non/\Q (.bl (decide (x=.non))) H) ta tb)):=⟨J6 B2p ha.1 hb.1 (Ke _)⟩
theorem P0 (ha:QE X a ta)(hb:QE X b tb):QT X (.Compare a [.IsNot] [b] pos) (O5 (tOp (λx y H Q=>y=.non/\Q (.bl (!decide (x=.non))) H) ta tb)):=⟨J6 Bm8 ha.1 hb.1 (Ke _)⟩
theorem A1r (hu:X.A.units+64<cLine)(ha:QE X a ta)(hb:QE X b tb):QE X (.Compare a [.Lt] [b] pos) (tOp (B4r) ta tb):=⟨Us (B3m hu) ha.1 hb.1 (Ke _)⟩
theorem Nf (ha:QE X a ta):QE X (.UnaryOp .USub a pos) (tUn (rU λi=>.int (-i)) ta):=⟨B4x B2h ha.1⟩
def Tg (K:v9):m8->Hp->VK->Prop:=λxs H Q=>∃x n,xs=[x]/\A2s H x=some n/\Q (.int (n:Nat)) H
def Ar9 (K:v9):m8->Hp->VK->Prop:=λxs H Q=>∃x n,xs=[x]/\B4u K x H n/\Q (.int n) H
def O7 (K:v9):m8->Hp->VK->Prop:=λxs H Q=>∃i,xs=[.int i]/\Q (.int (if i<0 then -i else i)) H
theorem Aj0 (hgl:Gl X "abs") (hm:X.mg "abs" = none) (ha:PA X (e::es) t) (hns:noStar (e::es)=true:=by rfl):PE X (.Call (.Name "abs" p) (e::es) [] pos) (tCB (O7 X.K) t):=Eo Bd9 hgl hm B2b ha (by decide) (by rfl) hns
def Pk (K:v9):m8->Hp->VK->Prop:=λxs H Q=>∃x T t b,xs=[x,.ty T]/\O3 H x=some t/\Es t T=some b/\Q (.bl b) H
theorem Aj8 (hgl:Gl X "isinstance") (hm:X.mg "isinstance" = none) (ha:PA X (e::es) t) (hns:noStar (e::es)=true:=by rfl):PE X (.Call (.Name "isinstance" p) (e::es) [] pos) (tCB (Pk X.K) t):=Eo A6p hgl hm Ht ha (by decide) (by rfl) hns
def Jz (K:v9):m8->Hp->VK->Prop:=λxs H Q=>∃x p Ts t b,xs=[x,.ref p]/\H p=some (.tup (Ts.map V.ty))/\O3 H x=some t/\Mq t Ts=some b/\Q (.bl b) H
theorem Ae2 (hgl:Gl X "isinstance") (hm:X.mg "isinstance" = none) (ha:PA X (e::es) t) (hns:noStar (e::es)=true:=by rfl):PE X (.Call (.Name "isinstance" p) (e::es) [] pos) (tCB (Jz X.K) t):=Eo A2n hgl hm Ht ha (by decide) (by rfl) hns
def Ng (K:v9):m8->Hp->VK->Prop:=λxs H Q=>∃(a:Addr) (bs:List Bool),xs=[.ref a]/\SqL K H a (bs.map V.bl)/\Q (.bl (bs.any id)) H
theorem Z9 (hc:X.calm=true)(hgl:Gl X "any") (hm:X.mg "any" = none) (ha:PA X (e::es) t) (hns:noStar (e::es)=true:=by rfl):PE X (.Call (.Name "any" p) (e::es) [] pos) (tCB (Ng X.K) t):=Eo (A3x hc) hgl hm B3k ha (by decide) (by rfl) hns
def Ny (K:v9):m8->Hp->VK->Prop:=λxs H Q=>∃(a:Addr) (bs:List Bool),xs=[.ref a]/\SqL K H a (bs.map V.bl)/\Q (.bl (bs.all id)) H
theorem Aa3 (hc:X.calm=true)(hgl:Gl X "all") (hm:X.mg "all" = none) (ha:PA X (e::es) t) (hns:noStar (e::es)=true:=by rfl):PE X (.Call (.Name "all" p) (e::es) [] pos) (tCB (Ny X.K) t):=Eo (A3e hc) hgl hm B0l ha (by decide) (by rfl) hns
def Mx (K:v9):m8->Hp->VK->Prop:=λxs H Q=>∃(a:Addr) (ns:List Int),xs=[.ref a]/\SqL K H a (ns.map V.int)/\Q (.int ns.sum) H
theorem Z2 (hc:X.calm=true)(hgl:Gl X "sum") (hm:X.mg "sum" = none) (ha:PA X (e::es) t) (hns:noStar (e::es)=true:=by rfl):PE X (.Call (.Name "sum" p) (e::es) [] pos) (tCB (Mx X.K) t):=Eo (A4e hc) hgl hm B2x ha (by decide) (by rfl) hns
def Mw (K:v9):m8->Hp->VK->Prop:=λxs H Q=>(∃i,xs=[.int i]/\Q (.int i) H)\/∃k,xs=[.bl k]/\Q (.int (if k then 1 else 0)) H
theorem Af2 (hgl:Gl X "int") (hm:X.mg "int" = none) (ha:PA X (e::es) t) (hns:noStar (e::es)=true:=by rfl):PE X (.Call (.Name "int" p) (e::es) [] pos) (tCB (Mw X.K) t):=Mi A4x hgl hm Av8 ha (by decide) (by rfl) hns
def Ik (K:v9):m8->Hp->VK->Prop:=λxs H Q=>∃p ys,xs=[.ref p]/\((SqL K H p ys/\∀l,H l=none->Q (.ref l) (upd H l (.tup ys)))\/(SqT K H p ys/\Q (.ref p) H))
theorem Sg (hgl:Gl X "tuple") (hm:X.mg "tuple" = none) (ha:PA X (e::es) t) (hns:noStar (e::es)=true:=by rfl):PE X (.Call (.Name "tuple" p) (e::es) [] pos) (tCB (Ik X.K) t):=Mi Yi hgl hm M6 ha (by decide) (by rfl) hns
def Jp (K:v9):m8->Hp->VK->Prop:=λxs H Q=>∃p ys,xs=[.ref p]/\(SqL K H p ys\/SqT K H p ys)/\∀l,H l=none->Q (.ref l) (upd H l (.lst ys))
theorem Uc (hgl:Gl X "list") (hm:X.mg "list" = none) (ha:PA X (e::es) t) (hns:noStar (e::es)=true:=by rfl):PE X (.Call (.Name "list" p) (e::es) [] pos) (tCB (Jp X.K) t):=Mi Ag7 hgl hm Uj ha (by decide) (by rfl) hns
def N5 (K:v9):m8->Hp->VK->Prop:=λxs H Q=>∃i j,xs=[.int i,.int j]/\Q (.int (if j<i then j else i)) H
theorem Z3 (hc:X.calm=true)(hgl:Gl X "min") (hm:X.mg "min" = none) (ha:PA X (e::es) t) (hns:noStar (e::es)=true:=by rfl):PE X (.Call (.Name "min" p) (e::es) [] pos) (tCB (N5 X.K) t):=Eo (A4f hc) hgl hm Bz9 ha (by decide) (by rfl) hns
theorem A3q (ho:PE X a ta)(hv:PE X e te)(hbase:attributeBase a "append" X.env (eval a X.env)=eval a X.env:=by rfl)
 (hfew:((backTo cpos (starEach [e] X.env)).all (λx=>!x.1)&&(backToKw cpos (keywordEach [] X.env)).all (λx=>x.1.isSome)
  && decide ([e].length+([]:List Keyword).length+(if ([]:List Keyword).isEmpty then 0 else 1)<30))=true:=by rfl)
 (hline:(apos.endLine==cpos.line)=true:=by rfl) (hns:isStar e=false:=by rfl) :
 PE X (.Call (.Attribute a "append" apos) [e] [] cpos) (tBM X.K "list" rAppF ta (Bt te Eu)) :=
 Bv0 eO PySem.F.slot_list_append PySem.F.type_list_append Bk8 ho (A5z hv Ro hns) hbase hfew hline (Hs hns) rfl
end
noncomputable def Rk {α:Type} [DecidableEq α] (ks:List α) (k:α):Bool:=ks.any λx=>decide (x=k)
theorem memB_snoc [DecidableEq b] {ks:List b}{k a:b}:Rk (ks++[k]) a=(Rk ks a||decide (a=k)):=by
 unfold Rk
 grind
def Ak8 {α:Type}[DecidableEq α](acc:List α)(x:α):List α:=if Rk acc x=true then acc else acc++[x]
def dst {α:Type}[DecidableEq α](xs:List α):List α:=xs.foldl Ak8 []
theorem Ai5 [DecidableEq a] (xs:List a) (x:a):dst (xs++[x])=Ak8 (dst xs) x:=by
 unfold dst;grind
theorem Ab3 {α:Type}[DecidableEq α]:∀(n:Nat) (xs:List α),xs.length=n->(dst xs).length<=n
 | 0,xs,h=>by cases xs with | nil=>exact ak _ | cons a r=>cases h
 | n+1,xs,h=>by
  rcases List.eq_nil_or_concat xs with rfl | ⟨ys,y,rfl⟩
  ·cases h
  ·rw[List.concat_eq_append]at h ⊢
   have hy:ys.length=n:=by simpa using h
   have ih:=Ab3 n ys hy;rw[Ai5];unfold Ak8;split
   ·lia
   ·simp;lia
noncomputable def keyV:V->Option Key
 | .int i=>some (.inl i)
 | .str x=>some (.inr x)
 | _=>none
theorem Bh8 (h:keyV v=some k) (r:RelV v u):M8 k u=true/\u.scannable=true:=by
 cases v with
 | int i=>cases h;obtain⟨t,rfl⟩:=r;exact⟨Yy i t,rfl⟩
 | str x=>cases h;obtain⟨t,rfl⟩:=r;exact⟨Yv x t,rfl⟩
 | _=>cases h
def X3 (P:u6)(w:World)(a:Addr)(ks:List Key)(h:Heap):Prop:=h.SetOf (Gk P w) a (Rk ks) ks.length
noncomputable def Bq7 (P:u6) (w:World) (a:Addr) (ks:List Key):HO:=.ext (X3 P w a ks)
theorem Rz (hs:X3 P w a ks h) (k:∀o,h.get? a=some o->h'.get? a=some o):X3 P w a ks h':=by
 obtain⟨o,c,d,t,e,b⟩:=hs;exact⟨o,c,d,t,k o e,b⟩
theorem A4q
 (x:h.SetOf (Gk P w) a (λb=>Rk ks b||decide (b=k)) (if Rk ks k then ks.length else ks.length+1)):X3 P w a (Ak8 ks k) h:=by
 unfold X3 Ak8
 by_cases hk:Rk ks k=true
 ·have e:(λb=>Rk ks b||decide (b=k))=Rk ks:=by
   grind
  simp_all
 ·have e:(λb=>Rk ks b||decide (b=k))=Rk (ks++[k]):=by
   funext b
   exact memB_snoc.symm
  simp_all
section
variable {P:u6}{w:World}{A:q9}
theorem fill (W:WalksS P w A.in1 J fp h j n Pv E) (p:S∉fp)
 (ks:List Key) (g:ks.length=n) (is:∀i v,Pv i v->∃k,ks[i]?=some k/\M8 k v=true/\v.scannable=true) (Q:n+1<scanBound) (z:u_)
 (G:∀s,Moved (S::h) j z s->X3 P w S (dst ks) s.heap->R (.ok (.ret .none)) s) :
 ∀(m i:Nat) (s:u_),i+m=n->E i s->Moved (S::h) j z s->X3 P w S (dst (ks.take i)) s.heap->codeAny (model P w) A (.builtin "set.update.loop" ⟨[.ref S,.ref J],[]⟩) R s:=by
 have c:S∉h:=λq=>p (W.sub S q)
 have f:∀b,b∈h->b∈S::h:=λb q=>.tail _ q
 intro m
 induction m with
 | zero =>
  intro i s e K D r;have e:i=n:=e;subst e;apply codeAny_builtin gw;rw[Around.under_plainId fO _];apply wpAny_bind (m:=pyNext (.ref J));apply W.done s _ _ K;intro d a;apply wpAny_pure
  refine G d (Moved.trans W.gtrans D (a.mono f)) ?_
  have t:ks.take i=ks:=by rw[<- g];exact dJ
  rw[t]at r
  exact Rz r λo q=>a.heap S o c q
 | succ m ih =>
  intro i s e K D r
  have V:i<n:=by lia
  apply codeAny_builtin gw;rw[Around.under_plainId fO _];apply wpAny_bind (m:=pyNext (.ref J));apply W.item i s _ _ V K;intro v d Z F a;obtain⟨k,U,O,X⟩:=is i v Z;have H:Moved (S::h) j z d:=Moved.trans W.gtrans D (a.mono f)
  show wpAny _ A.in1 (holding [v] (setAdd S v) >>= _) _ _ d
  apply wpAny_bind;apply wpAny_holding;unfold setAdd;apply wpAny_holding;apply wpAny_bind
  refine (Gk P w).pyHash (k:=k) O ?_
  have l:(dst (ks.take i)).length+1<scanBound:=by
   have:=Ab3 _ (ks.take i) rfl
   have:(ks.take i).length<=n:=by rw[<- g];exact List.length_take_le' _ _
   lia
  have tk:ks.take (i+1)=ks.take i++[k]:=by rw[List.take_add_one,U];rfl
  have T:∀(B:Nat),d.toks<=B->wpAny (model P w) A.in1 (setAddHashed S v ((Gk P w).hash k)) (λ_ u=>Moved (S::h) j z u/\X3 P w S (dst (ks.take (i+1))) u.heap/\E (i+1) u) (λ_ _=>False) { d with toks:=B }:=by
   intro B N
   refine wpAny_setAddHashed_of (knd:=Gk P w) (s:={ d with toks:=B }) O X (Rz r λo q=>a.heap S o c q) l λY M so=>?_
   refine⟨Moved.then_heap H N λb o q x=>?_,?_,W.frame (i+1) d Y _ F N λb q o x=>?_⟩
   ·rw[M.2 b λy=>q (y▸.head _)];exact x
   ·rw[tk,Ai5];exact A4q so
   ·rw[M.2 b λy=>p (y▸q)];exact x
  refine wpAny_mono (T _ (c7 _)) (λb u y=>?_) λ_ _ q=>q.elim
  obtain⟨I,L,C⟩:=y
  exact wpAny_pure ⟨plainId_quiet fO _,ih _ _ (by lia) C I L⟩
noncomputable abbrev bare (led:Bool):Obj:={ cls:=.type "set",dict:=none,data:=.set #[] 0 (.fresh 0 0 led) }
abbrev Iw (s:u_)(led:Bool):u_:={ s with heap:=s.heap.push (bare led) }
theorem Wm (s:u_)(led:Bool):(Iw s led).heap.get? s.heap.objs.size=some (bare led):=Heap.get?_push_size _ rfl
abbrev A5y (P:u6)(w:World)(A:q9)(R:Result->u_->Prop)(f:Fin)(z:u_):Prop:=match f with
 | .done f=>R (.ok f) z
 | .again c=>c.quiet=true/\codeAny (model P w) A c R z
theorem A8k (Z:u_->Prop) (hZ:∀z,Z z->Q (.ref s.heap.objs.size) z)
 (body:∀b:Bool,wpAny (model P w) A.in1.in1 (Builtin.«set.__init__» ⟨[.ref s.heap.objs.size,a],[]⟩) (A5y P w A.in1 (wants (λr z=>r=.none/\Z z) E)) (λe z=>wants (λr z=>r=.none/\Z z) E (.error e) z) (Iw s b)) :
 wpAny (model P w) A (call (.type "set") [a]) Q E s:=by
 have tc:=F.called_set;obtain⟨c0,cs,mro⟩:=tc.mro;have f1:=tc.made;have f2:=tc.sub;have f3:=tc.notType;have f4:=tc.canCreate;have f5:=F.typeCall_set_1 a;apply wpAny_call;apply codeAny_of_tree
 show wpAny _ _ (callAny (.type "set") ⟨[a],[]⟩) _ _ _
 refine wpAny_pure (And.intro (Code.quiet_builtin _ (by decide +kernel)) (codeAny_builtin F.entry_type_call ?_))
 rw[Around.under_plain (weight_type_call_type "set" [a] []) rfl]
 repeat any_goals first | wp_step | assumption
 have made:=code_set_new_1 (prog:=P) (w:=w) (A:=A.in1) (E:=E) (s:=s) a (Q₁:=λo z=>∃b,o=.ref s.heap.objs.size/\z=Iw s b) λb=>⟨b,rfl,rfl⟩
 refine codeAny_mono made λr z hz=>?_
 rcases r with (_ | f)
 ·exact hz
 cases f with
 | ret o =>
  obtain⟨b,rfl,rfl⟩:=hz;have ty:Shared.TypeIs (Iw s b) (.ref s.heap.objs.size) "set" := ⟨_,Wm s b,rfl⟩;have f6:=tc.init.lookup;have f7:=tc.init.bind (.ref s.heap.objs.size)
  repeat any_goals first | wp_step | assumption
  refine codeAny_mono (codeAny_call_builtin (R:=wants (λr z=>r=.none/\Z z) E) tc.init.plain F.entry_set_init (check_set_init_1 (a:=a) ty (body b))) λr z hz=>?_
  rcases r with (_ | f)
  ·exact hz
  cases f with
  | ret o =>
   obtain⟨rfl,hz⟩:=hz
   repeat any_goals first | wp_step | assumption
   exact hZ _ hz
  | _=>exact hz.elim
 | _=>exact hz.elim
theorem Aq0 {a:w6} (g:A.handled=none) (hl:s.heap.IsList l a.toArray)
 (is:∀(i:Nat) (v:Value),a[i]?=some v->∃k,ks[i]?=some k/\M8 k v=true/\v.scannable=true) (hlen:ks.length=a.length) (few:a.length+1<scanBound)
 (fin:∀d tk,X3 P w s.heap.objs.size (dst ks) d->(∀b o,s.heap.get? b=some o->d.get? b=some o)->Q (.ref s.heap.objs.size) { s with heap:=d,toks:=tk }) :
 wpAny (model P w) A (call (.type "set") [.ref l]) Q E s:=by
 refine A8k (λz=>∃d tk,z={ s with heap:=d,toks:=tk }/\X3 P w s.heap.objs.size (dst ks) d/\∀b o,s.heap.get? b=some o->d.get? b=some o) ?_ λc=>?_
 ·rintro z ⟨d,tk,rfl,q1,q2⟩
  exact fin d tk q1 q2
 have here:=Wm s c;have hl2:(Iw s c).heap.IsList l a.toArray:=hl.push _;obtain⟨ob,g1,g2,n,g3⟩:=hl2;obtain⟨_,dct,_,sls⟩:=ob
 dsimp only at g2 g3
 subst g2 g3;have w1:=F.sub_list_set;have w2:=F.sub_list_frozenset
 have w3:(Value.type "list" == Value.type "dict")=false:=by decide
 have hl3:(Iw s c).heap.IsList l a.toArray:=⟨_,g1,rfl,n,rfl⟩;unfold Builtin.«set.__init__» Builtin.Frozenset.updateFrom noKeywords;generalize walk:pyIter=itr
 wp_walk
 subst walk;apply wpAny_pyIter_list hl3;apply wpAny_bind;apply wpAny_runValue
 have lt:l<s.heap.objs.size:=by obtain⟨o,e,_⟩:=hl;exact Heap.lt_size e
 have sz:(Iw s c).heap.objs.size=s.heap.objs.size+1:=Heap.size_push _ _
 have f:A.in1.in1.in1.handled=none:=by simp[g]
 have apart:l≠(Iw s c).heap.objs.size:=by rw[sz];exact aD (cV lt)
 have wk:=(Walks.list (prog:=P) (w:=w) f _ l apart a.toArray).toS
 refine fill wk (S:=s.heap.objs.size) ?_ ks (by simpa using hlen) (λi v p=>is i v (by simpa using p)) (by simpa using few) _ ?_ a.length 0 _ (by simp) ⟨⟨_,Heap.get?_push_size _ rfl,rfl,rfl⟩,hl3.push _⟩ (Moved.refl wk.grefl) ?_
 ·rw[sz]
  intro q
  rcases az.mp q with q | q
  ·exact aD (cJ _) q
  ·exact bw lt (aJ.mp q)
 ·intro z mv sh
  obtain⟨d,g',d',t',o'⟩:=z;have e1:g'=s.gens:=mv.gens;have e2:d'=s.drawn:=mv.drawn;have e3:o'=s.os:=mv.os;subst e1 e2 e3;apply wpAny_pure
  show wpAny _ _ (ret Value.none) _ _ _
  refine wpAny_pure ⟨rfl,d,t',rfl,sh,λb o q=>mv.heap b o ?_ (Heap.get?_push_of_some _ (Heap.get?_push_of_some _ q))⟩
  have bl:=Heap.lt_size q;intro m
  rcases az.mp m with m | m
  ·exact aD bl m
  ·have m:=aJ.mp m
   rw[sz]at m;exact aD (cV bl) m
 ·have new:((Iw s c).heap.push { cls:=.type "list_iterator",data:=.fields #[.ref l,.int 0 0] }).get? s.heap.objs.size=some (bare c):=Heap.get?_push_of_some _ here
  have e:Rk ([]:List Key)=λ_=>false:=rfl
  show Heap.SetOf (Gk P w) _ _ (Rk []) 0
  rw[e]
  exact⟨_,_,_,_,new,⟨rfl,rfl,rfl⟩,rfl,λx m=>by simp at m,λk=>by simp,by decide,by cases c <;> rfl,rfl⟩
end
section
variable {X:Cx}
def Zt (P:u6)(w:World)(K:v9):m8->Hp->VK->Prop:=λxs H Q=>∃(a:Addr) (vs:m8) (ks:List Key),xs=[.ref a]/\SqL K H a vs/\vs.map keyV=ks.map some/\vs.length<1000/\∀p,H p=none->Q (.ref p) (upd H p (Bq7 P w p (dst ks)))
def Qs (P:u6)(w:World):m8->Hp->VK->Prop:=λxs H Q=>∃(p:Addr) (ks:List Key),xs=[.ref p]/\H p=some (Bq7 P w p ks)/\ks.length<1000/\Q (.int (ks.length:Nat)) H
theorem A4o (hc:X.calm=true):zB X (.type "set") (Zt X.prog X.w X.K):=by
 intro l s σ H xs us Q I r h;obtain⟨a,d,b,rfl,B,p,hv,q⟩:=h;obtain⟨u,rfl,f⟩:=vals1 r
 cases (show u=Value.ref a from f)
 obtain⟨D,c,t,hz⟩:=I.list B
 have j:b.length=d.length:=by have:=bA List.length p;simpa using this.symm
 refine Aq0 (ks:=b) (I.ok.hd hc) t.isList (λi v e=>?_) (by rw[j,c.length]) (by rw[<- c.length];unfold scanBound;lia) λh' tk m A=>?_
 ·have w:i<d.length:=by have:=(bz.mp e).1;rw[c.length];exact this
  have g:i<b.length:=by lia
  obtain⟨u,n,f⟩:=c.get (i:=i) (x:=d[i]) (by simp[w])
  rw[e]at n
  cases n
  have C:keyV d[i]=some b[i]:=by
   have:=bA (λz=>z[i]?) p
   grind
  exact⟨b[i],by simp[g],Bh8 C f⟩
 ·have k:zA X.prog X.w (upd H s.heap.objs.size (Bq7 X.prog X.w s.heap.objs.size (dst b))) _ _ (Bq7 _ _ _ _) :=
   ⟨m,let ⟨o,_,_,_,e,_⟩:=m; ⟨o,e⟩,λh1 h2 x y=>Rz x y⟩
  exact⟨.ref _,_,I.laid A (ak _) k,rfl,q _ (I.hok.fresh (ak _))⟩
theorem Al9:zB X (.builtin "len") (Qs X.prog X.w):=by
 intro a s σ H xs us Q I r h;obtain⟨p,ks,rfl,d,hn,q⟩:=h;obtain⟨u,rfl,f⟩:=vals1 r
 cases (f)
 obtain⟨⟨o,es,ep,t,e,c,g,x3,x4,x5,i,b⟩,_⟩:=I.hok p _ d
 refine call_len_set e c g i (by lia) ?_
 rw[b];exact⟨.int _,H,I.tok _ |>.tok _,⟨_,rfl⟩,q⟩
theorem A4v (hc:X.calm=true) (hgs:Gl X "set") (hms:X.mg "set" = none) (hgl:Gl X "len") (hml:X.mg "len" = none) (he:PE X e c) (hns:isStar e=false:=by rfl) :
 PE X (.Call (.Name "len" p) [.Call (.Name "set" d) [e] [] a] [] b) (tCB (Qs X.prog X.w) (Bt (tCB (Zt X.prog X.w X.K) (Bt c Eu)) Eu)) :=
 Eo Al9 hgl hml A9b (A5z (Mi (A4o hc) hgs hms B3f (A5z he Ro hns) (by decide) (by rfl) (by show !isStar e&&true=true;grind)) Ro rfl) (by decide) (by rfl) rfl
end
section
variable {P:u6}{w:World}{A:q9}{E:z_}{s:u_}
theorem Tw (a:s.heap.IsTupleIter j u k)
 (body:wpAny (model P w) A.in1 (Builtin.«tuple_iterator.__next__» ⟨[.ref j],[]⟩) (λf z=>∃v,f=.done (.ret v)/\Q v z) E s) :
 wpAny (model P w) A (Builtin.SmallTypes.nextOf (.ref j)) Q E s:=by
 apply wpAny_bind
 refine wpAny_callSpecial?_slot a.typeIs F.slot_tuple_iterator_next ?_
 refine wpAny_call_entry F.slot_tuple_iterator_next a.typeIs F.entry_tuple_iterator_next ?_ (F.args_tuple_iterator_next_1 _)
 refine wpAny_mono body (λf z c=>?_) λ_ _ q=>q
 obtain⟨v,b,q⟩:=c;exact⟨v,b,wpAny_pure q⟩
theorem Ao5 (c:s.heap.IsTupleIter j u k) (g:s.heap.IsTuple u vs) (hx:vs[k]?=some x)
 (q:∀h',h'.IsTupleIter j u (k+1)->Heap.SameBut j s.heap h'->Q x { s with heap:=h' }):wpAny (model P w) A (Builtin.SmallTypes.nextOf (.ref j)) Q E s:=by
 refine Tw c ?_
 obtain⟨o,d,f,b⟩:=c;obtain⟨i,h,_,n,e⟩:=g;apply wpAny_bind (m:=field _ 0);apply wpAny_field d b rfl;apply wpAny_bind ;apply wpAny_field d b rfl;apply wpAny_bind ;apply wpAny_seqItems h e;simp only[hx,cN];apply wpAny_bind
 apply wpAny_setField d b (by simp)
 apply wpAny_pure
 refine⟨x,rfl,q _ ⟨_,(Heap.get?_update_self (Obj.mapFields λa=>a.setIfInBounds 1 (rawInt (k+1))) d (Obj.isFreed_of_fields (Obj.data_mapFields b _))),(Obj.cls_mapFields ..).trans f,?_⟩ (Heap.SameBut.update ..)⟩
 rw[Obj.data_mapFields b]
 trivial
theorem A5g (c:A.handled=none) (d:s.heap.IsTupleIter j u k) (h:s.heap.IsTuple u vs) (hx:vs[k]?=none)
 (q:∀h' e,Heap.ExtBut j s.heap h'->(∃o,h'.get? e=some o/\o.cls=.type "StopIteration")->E (.ref e) { s with heap:=h' }):wpAny (model P w) A (Builtin.SmallTypes.nextOf (.ref j)) Q E s:=by
 refine Tw d ?_
 obtain⟨o,f,r,g⟩:=d;obtain⟨t,i,_,n,l⟩:=h;apply wpAny_bind (m:=field (.ref j) 0);apply wpAny_field f g (x:=.ref u) rfl;have p:¬ ((Value.ref u==Value.none)=true):=aQ
 show wpAny _ _ (if (Value.ref u==.none)=true then _ else _) _ _ _
 rw[if_neg p];apply wpAny_bind (m:=field (.ref j) 1);apply wpAny_field f g (x:=.int k 0) rfl;apply wpAny_bind (m:=seqItems? (.ref u));apply wpAny_seqItems i l;simp only[hx,cN];apply wpAny_bind;apply wpAny_rule;apply wpAny_bind
 apply wpAny_setField f g (by simp)
 apply wpAny_bind (m:=newExc (.type "StopIteration") []);unfold newExc newTuple;apply wpAny_bind
 refine wpAny_newObj_type ?_ (by size_fits )
 apply wpAny_bind (m:=firstArgMember _ _)
 refine wpAny_of_eq (a:=Value.none) (by simp only[firstArgMember];rfl) ?_
 refine wpAny_newObj_type ?_ (by size_fits )
 unfold raiseNew;apply wpAny_bind;apply wpAny_handled;have b:A.in1.handled=none:=c;rw[b]
 refine wpAny_bind (wpAny_pure ?_)
 apply wpAny_throw;exact q _ _ (((Heap.SameBut.update ..).extBut.push _).push _) ⟨_,Heap.get?_push_size _ rfl,rfl⟩
def ItAt (t:Bool)(h:Heap)(j u:Addr)(k:Nat):Prop:=match t with
 | true=>h.IsTupleIter j u k
 | false=>h.IsListIter j u k
def SqA (t:Bool)(h:Heap)(u:Addr)(vs:v7):Prop:=match t with
 | true=>h.IsTuple u vs
 | false=>h.IsList u vs
theorem ItAt.stay (x:ItAt t h j u k) (q:∀o,h.get? j=some o->h'.get? j=some o):ItAt t h' j u k:=by
 cases t <;> (obtain⟨o,e,r⟩:=x;exact⟨o,q o e,r⟩)
theorem ItAt.obj (x:ItAt t h j u k):∃o,h.get? j=some o/\o.data=.fields #[.ref u,.int k 0]:=by
 cases t <;> (obtain⟨o,e,_,r⟩:=x;grind)
theorem SqA.stay (x:SqA t h u vs) (q:∀o,h.get? u=some o->h'.get? u=some o):SqA t h' u vs:=by
 cases t <;> (obtain⟨o,e,r⟩:=x;exact⟨o,q o e,r⟩)
theorem next_item (a:ItAt t s.heap j u k) (b:SqA t s.heap u vs) (hx:vs[k]?=some x)
 (q:∀h',ItAt t h' j u (k+1)->Heap.SameBut j s.heap h'->Q x { s with heap:=h' }):wpAny (model P w) A (Builtin.SmallTypes.nextOf (.ref j)) Q E s:=by
 cases t
 ·exact wpAny_nextOf_list_item a b hx q
 ·exact Ao5 a b hx q
theorem next_end (c:A.handled=none) (a:ItAt t s.heap j u k) (b:SqA t s.heap u vs) (hx:vs[k]?=none)
 (q:∀h' e,Heap.ExtBut j s.heap h'->(∃o,h'.get? e=some o/\o.cls=.type "StopIteration")->E (.ref e) { s with heap:=h' }):wpAny (model P w) A (Builtin.SmallTypes.nextOf (.ref j)) Q E s:=by
 cases t
 ·exact wpAny_nextOf_list_end c a b hx q
 ·exact A5g c a b hx q
structure Al4 (h:Heap) (t1 t2:Bool) (z ti to i1 i2 a b:Addr) (f0:Value) (k:Nat):Prop where
 zip:IsZip h z ti to f0
 ins:IsPair h ti (.ref i1) (.ref i2)
 outs:∃u v,IsPair h to u v
 one:ItAt t1 h i1 a k
 two:ItAt t2 h i2 b k
structure zE (z ti to i1 i2 a b:Addr):Prop where
 nd:[z,ti,to,i1,i2].Nodup
 na:a∉[z,ti,to,i1,i2]
 nb:b∉[z,ti,to,i1,i2]
theorem zE.z_ti (x:zE z ti to i1 i2 a b):ti≠z:=by have:=x.nd;grind
theorem zE.z_to (x:zE z ti to i1 i2 a b):to≠z:=by have:=x.nd;grind
theorem zE.z_i1 (x:zE z ti to i1 i2 a b):i1≠z:=by have:=x.nd;grind
theorem zE.z_i2 (x:zE z ti to i1 i2 a b):i2≠z:=by have:=x.nd;grind
theorem zE.to_i1 (x:zE z ti to i1 i2 a b):to≠i1:=by have:=x.nd;simp_all
theorem zE.to_i2 (x:zE z ti to i1 i2 a b):to≠i2:=by have:=x.nd;simp_all
theorem zE.i1_i2 (x:zE z ti to i1 i2 a b):i1≠i2:=by have:=x.nd;simp_all
theorem zE.ti_to (x:zE z ti to i1 i2 a b):ti≠to:=by have:=x.nd;simp_all
theorem zE.ti_i1 (x:zE z ti to i1 i2 a b):ti≠i1:=by have:=x.nd;simp_all
theorem zE.ti_i2 (x:zE z ti to i1 i2 a b):ti≠i2:=by have:=x.nd;simp_all
theorem Bd6 {Q:z_}(d:zE z j h r t a b) (y:Al4 s.heap t1 t2 z j h r t a b .none k)
 (ha:SqA t1 s.heap a xs) (hb:SqA t2 s.heap b ys) (hx:xs[k]?=some x) (O:ys[k]?=some x')
 (q:∀h',Al4 h' t1 t2 z j h r t a b (rawInt s.heap.objs.size) (k+1)->IsPair h' s.heap.objs.size x x'->(∀c o,c∉[z,j,h,r,t]->s.heap.get? c=some o->h'.get? c=some o)->Q (.ref s.heap.objs.size) { s with heap:=h' }) :
 wpAny (model P w) A (Builtin.«zip.__next__» ⟨[.ref z],[]⟩) (λf z=>∃v,f=.done (.ret v)/\Q v z) E s:=by
 obtain⟨u0,N,o0⟩:=y.outs;have S:=d.na;have I:=d.nb;simp only[az,a_,bj,not_or]at S I;apply wpAny_bind (m:=field (.ref z) 2);apply wpAny_field y.zip rfl (x:=.bool false) rfl;apply wpAny_bind (m:=field (.ref z) 3);apply wpAny_field y.zip rfl (x:=.ref j) rfl;apply wpAny_bind;apply wpAny_seqItems y.ins rfl;apply wpAny_bind (m:=Builtin.SmallTypes.ownedTupleIsFree (.ref z));unfold Builtin.SmallTypes.ownedTupleIsFree;apply wpAny_bind;apply wpAny_field y.zip rfl (x:=.none) rfl;apply wpAny_pure;simp only[bY];apply wpAny_bind;apply wpAny_rule;apply wpAny_bind;apply wpAny_field y.zip rfl (x:=.ref h) rfl;apply wpAny_bind
 apply wpAny_setField_rec y.zip (by simp)
 intro g1 L n;have L:IsZip g1 z j h .ellipsis:=L;apply wpAny_bind;simp only[List.zipIdx_cons,List.zipIdx_nil,dI,List.forIn_nil];apply wpAny_bind;apply wpAny_bind;apply wpAny_onRaise;apply wpAny_bind (m:=Builtin.SmallTypes.nextOf (.ref r))
 refine next_item (y.one.stay λo e=>n.extBut _ _ d.z_i1 e) (ha.stay λo e=>n.extBut _ _ S.1 e) hx λg2 n1 u=>?_
 apply wpAny_pure;have V:IsPair g2 h u0 N:=u.extBut _ _ d.to_i1 (n.extBut _ _ d.z_to o0);apply wpAny_bind;apply wpAny_seqItems V rfl;apply wpAny_bind;apply wpAny_updateSeq_pair V;intro g3 R B;have R:IsPair g3 h x N:=R;apply wpAny_bind;apply wpAny_letGo;apply wpAny_pure;apply wpAny_bind;apply wpAny_bind;apply wpAny_onRaise;apply wpAny_bind (m:=Builtin.SmallTypes.nextOf (.ref t))
 refine next_item (y.two.stay λo e=>B.extBut _ _ d.to_i2.symm (u.extBut _ _ d.i1_i2.symm (n.extBut _ _ d.z_i2 e))) (hb.stay λo e=>B.extBut _ _ I.2.2.1 (u.extBut _ _ I.2.2.2.1 (n.extBut _ _ I.1 e))) O λg4 n2 D=>?_
 apply wpAny_pure;have U:IsPair g4 h x N:=D.extBut _ _ d.to_i2 R;apply wpAny_bind;apply wpAny_seqItems U rfl;apply wpAny_bind;apply wpAny_updateSeq_pair U;intro i K F;have K:IsPair i h x x':=K;apply wpAny_bind;apply wpAny_letGo;apply wpAny_pure;apply wpAny_pure;apply wpAny_bind;apply wpAny_seqItems K rfl;apply wpAny_bind
 refine wpAny_newTuple ?_
 have W:i.objs.size=s.heap.objs.size:=by rw[F.1,D.1,B.1,u.1,n.1]
 have l:∀c o,c≠z->c≠h->c≠r->c≠t->s.heap.get? c=some o->i.get? c=some o:=λc o p1 T p3 p4 e=>F.extBut _ _ T (D.extBut _ _ p4 (B.extBut _ _ T (u.extBut _ _ p3 (n.extBut _ _ p1 e))))
 have Y:IsZip i z j h .ellipsis:=F.extBut _ _ d.z_to.symm (D.extBut _ _ d.z_i2.symm (B.extBut _ _ d.z_to.symm (u.extBut _ _ d.z_i1.symm L)))
 have m1:ItAt t1 i r a (k+1):=n1.stay λo e=>F.extBut _ _ d.to_i1.symm (D.extBut _ _ d.i1_i2 (B.extBut _ _ d.to_i1.symm e))
 have m2:ItAt t2 i t b (k+1):=n2.stay λo e=>F.extBut _ _ d.to_i2.symm e
 apply wpAny_bind (m:=Builtin.SmallTypes.ownedTupleHandOut (.ref z) (.ref i.objs.size));unfold Builtin.SmallTypes.ownedTupleHandOut;have z6:IsZip (i.push { cls:=.type "tuple",data:=.seq #[x,x'] }) z j h .ellipsis:=Heap.get?_push_of_some _ Y;apply wpAny_bind
 apply wpAny_setField_rec z6 (by simp)
 intro g7 M X;have M:IsZip g7 z j h (rawInt i.objs.size):=M
 apply wpAny_setField_rec M (by simp)
 intro H J Z;have J:IsZip H z j h (rawInt i.objs.size):=J
 have g:∀c o,c≠z->i.get? c=some o->H.get? c=some o:=λc o p e=>Z.extBut _ _ p (X.extBut _ _ p (Heap.get?_push_of_some _ e))
 have G:z<i.objs.size:=Heap.lt_size Y;have C:IsPair H i.objs.size x x':=Z.extBut _ _ (bw G) (X.extBut _ _ (bw G) (Heap.get?_push_size _ rfl));rw[W]at J C;apply wpAny_pure
 refine⟨_,rfl,?_⟩
 show Q (.ref i.objs.size) _
 rw[W]
 refine q H ⟨J,g _ _ d.z_ti (l _ _ d.z_ti d.ti_to d.ti_i1 d.ti_i2 y.ins),⟨x,x',g _ _ d.z_to K⟩,m1.stay λo e=>g _ _ d.z_i1 e,m2.stay λo e=>g _ _ d.z_i2 e⟩ C λc o p e=>?_
 simp at p
 exact g c o p.1 (l c o p.1 p.2.2.1 p.2.2.2.1 p.2.2.2.2 e)
theorem A6q (f:A.handled=none) (d:zE z l j v C a b) (y:Al4 s.heap t1 t2 z l j v C a b .none k)
 (ha:SqA t1 s.heap a xs) (hb:SqA t2 s.heap b ys) (hx:xs[k]?=none\/ys[k]?=none)
 (q:∀h' e,(∀c o,c∉[z,l,j,v,C]->s.heap.get? c=some o->h'.get? c=some o)->(∃o,h'.get? e=some o/\o.cls=.type "StopIteration")->E (.ref e) { s with heap:=h' }) :
 wpAny (model P w) A (Builtin.«zip.__next__» ⟨[.ref z],[]⟩) F E s:=by
 obtain⟨T,V,S⟩:=y.outs;have I:=d.na;have B:=d.nb;simp only[az,a_,bj,not_or]at I B;apply wpAny_bind (m:=field (.ref z) 2);apply wpAny_field y.zip rfl (x:=.bool false) rfl;apply wpAny_bind (m:=field (.ref z) 3);apply wpAny_field y.zip rfl (x:=.ref l) rfl;apply wpAny_bind;apply wpAny_seqItems y.ins rfl;apply wpAny_bind (m:=Builtin.SmallTypes.ownedTupleIsFree (.ref z));unfold Builtin.SmallTypes.ownedTupleIsFree;apply wpAny_bind;apply wpAny_field y.zip rfl (x:=.none) rfl;apply wpAny_pure;simp only[bY];apply wpAny_bind;apply wpAny_rule;apply wpAny_bind;apply wpAny_field y.zip rfl (x:=.ref j) rfl;apply wpAny_bind
 apply wpAny_setField_rec y.zip (by simp)
 intro U u g;have u:IsZip U z l j .ellipsis:=u;apply wpAny_bind;simp only[List.zipIdx_cons,List.zipIdx_nil,dI,List.forIn_nil];apply wpAny_bind;apply wpAny_bind;apply wpAny_onRaise;apply wpAny_bind (m:=Builtin.SmallTypes.nextOf (.ref v))
 cases e1:xs[k]? with
 | none =>
  refine next_end f (y.one.stay λo e=>g.extBut _ _ d.z_i1 e) (ha.stay λo e=>g.extBut _ _ I.1 e) e1 λH x i K=>?_
  obtain⟨D,r,t⟩:=K;have Q:IsZip H z l j .ellipsis:=i _ _ d.z_i1.symm u
  have G:x≠z:=λe=>by subst e;rw[Q]at r;cases r;simp at t
  apply wpAny_setField_rec Q (by simp)
  intro N _ n
  refine q N x (λc o p e=>?_) ⟨D,n.extBut _ _ G r,t⟩
  simp only[az,a_,bj,not_or]at p;exact n.extBut _ _ p.1 (i _ _ p.2.2.2.1 (g.extBut _ _ p.1 e))
 | some x =>
  have Y:ys[k]?=none:=by
   rcases hx with h | h
   ·rw[e1]at h;cases h
   ·exact h
  refine next_item (y.one.stay λo e=>g.extBut _ _ d.z_i1 e) (ha.stay λo e=>g.extBut _ _ I.1 e) e1 λH n1 i=>?_
  apply wpAny_pure;have O:IsPair H j T V:=i.extBut _ _ d.to_i1 (g.extBut _ _ d.z_to S);apply wpAny_bind;apply wpAny_seqItems O rfl;apply wpAny_bind;apply wpAny_updateSeq_pair O;intro N Z n;apply wpAny_bind;apply wpAny_letGo;apply wpAny_pure;apply wpAny_bind;apply wpAny_bind;apply wpAny_onRaise;apply wpAny_bind (m:=Builtin.SmallTypes.nextOf (.ref C))
  refine next_end f (y.two.stay λo e=>n.extBut _ _ d.to_i2.symm (i.extBut _ _ d.i1_i2.symm (g.extBut _ _ d.z_i2 e))) (hb.stay λo e=>n.extBut _ _ B.2.2.1 (i.extBut _ _ B.2.2.2.1 (g.extBut _ _ B.1 e))) Y λW x M J=>?_
  obtain⟨D,r,t⟩:=J;have R:IsZip W z l j .ellipsis:=M _ _ d.z_i2.symm (n.extBut _ _ d.z_to.symm (i.extBut _ _ d.z_i1.symm u))
  have G:x≠z:=λe=>by subst e;rw[R]at r;cases r;simp at t
  apply wpAny_setField_rec R (by simp)
  intro X _ L
  refine q X x (λc o p e=>?_) ⟨D,L.extBut _ _ G r,t⟩
  simp only[az,a_,bj,not_or]at p;exact L.extBut _ _ p.1 (M _ _ p.2.2.2.2 (n.extBut _ _ p.2.2.1 (i.extBut _ _ p.2.2.2.1 (g.extBut _ _ p.1 e))))
end
section
variable {X:Cx}{pins:y_}{σ:St}{H:Hp}{s:u_}{h':Heap}
theorem Inv.turnLay {ch:v6}{p:Addr}{o:HO}{t':Nat}(I:Inv X pins σ H s)(hf:∀b∈ch,Nm X pins H b)(k:∀b u,b∉ch->s.heap.get? b=some u->h'.get? b=some u)(hp:s.heap.objs.size<=p)(w:zA X.prog X.w (upd H p o) h' p o) :
 Inv X pins σ (upd H p o) { s with heap:=h',toks:=t' }:=by
 have g:H p=none:=I.hok.fresh hp
 have t:∀b u,H b=some u->b∉ch:=λb u e z=>by rw[(hf b z).1]at e;grind
 have d:∀b u,H b=some u->b≠p:=λb u e=>Ay e g
 have h:∀b u,s.heap.get? b=some u->b≠p:=λb u e z=>absurd (Heap.lt_size e) (by simp_all)
 refine I.step (g':=s.gens) (d':=s.drawn) (ch:=ch) (λb f=>?_) (λb u _ _ a e _=>k b u a e) (λb u _ _ a e _=>⟨u.slots,k b u a e⟩) (λb u _ e n=>?_) (λb u a e=>⟨u,k b u a e⟩)
  (λb i e=>?_) (λb o u e=>?_) (λb B e=>?_) (λm x=>?_) (λb u e=>?_) I.bare
 ·obtain⟨F,G,J,C,D,E⟩:=hf b f
  grind
 ·rw[Ak (h b u e)];grind
 ·rw[Ak (d b _ e)];grind
 ·rw[Ak (d b _ e)];lia
 ·rw[Ak (d b _ e)];grind
 ·obtain⟨j,y,A,l,r⟩:=x
  exact⟨j,y,A,k _ _ (λz=>(hf _ z).2.1 rfl) l,r⟩
 ·by_cases f:b=p
  ·subst f;rw[Bd]at e;grind
  ·rw[Ak f]at e
   refine (I.hok b u e).stay (λc v a q=>k c v ?_ q) λc q=>by rw[Ak (d c _ q)];grind λc i q=>by rw[Ak (d c _ q)];grind λc j i q=>by rw[Ak (d c _ q)];grind
   grind
theorem Inv.turnL {ch:v6}{t':Nat}(I:Inv X pins σ H s)(hf:∀b∈ch,Nm X pins H b)(k:∀b u,b∉ch->s.heap.get? b=some u->h'.get? b=some u):Inv X pins σ H { s with heap:=h',toks:=t' }:=by
 have g:∀b u,H b=some u->b∉ch:=λb u e z=>by rw[(hf b z).1]at e;grind
 refine I.step (λb f=>?_) (λb u _ _ a e _=>k b u a e) (λb u _ _ a e _=>⟨u.slots,k b u a e⟩) (λb u _ e n=>n) (λb u a e=>⟨u,k b u a e⟩)
  (λb i e=>e) (λb o u e=>e) (λb t e=>e) (λm j=>?_) (λb u e=>?_) I.bare
 ·obtain⟨A,B,C,w,x,y⟩:=hf b f
  grind
 ·obtain⟨h,l,p,d,r⟩:=j
  exact⟨h,l,p,k _ _ (λz=>(hf _ z).2.1 rfl) d,r⟩
 ·refine (I.hok b u e).stay (λc v a q=>k c v ?_ q) (λc q=>q) λc i q=>q
  grind
end
def SqK (t:Bool)(H:Hp)(a:Addr)(xs:m8):Prop:=match t with
 | true=>H a=some (.tup xs)
 | false=>H a=some (.lst xs)
theorem SqK.one (x:SqK t H a xs) (y:SqK t H a ys):xs=ys:=by
 cases t
 ·have y:H a=some _:=y
  rw[x]at y;cases y;rfl
 ·have y:H a=some _:=y
  rw[x]at y;cases y;rfl
theorem SqK.some (x:SqK t H a xs):∃o,H a=some o:=by
 cases t
 ·exact⟨_,x⟩
 ·exact⟨_,x⟩
theorem SqK.its (I:Inv X pins d H s) (x:SqK t H a xs):∃b:w6,Vals xs b/\SqA t s.heap a b.toArray:=by
 cases t
 ·obtain⟨b,c,p,_⟩:=I.list (SqL.of x)
  exact⟨b,c,p.isList⟩
 ·obtain⟨b,c,p,_⟩:=I.tuple (SqT.of x)
  exact⟨b,c,(show s.heap.IsTuple a _ from p)⟩
def Itz (t1 t2:Bool)(a b:Addr):It :=
 ⟨
  λi H=>∃xs ys x y,SqK t1 H a xs/\SqK t2 H b ys/\xs[i]?=some x/\ys[i]?=some y,
  λi H v H'=>∃p x y,v=.ref p/\H p=none/\H'=upd H p (.tup [x,y])/\(∀xs,SqK t1 H a xs->xs[i]?=some x)/\∀ys,SqK t2 H b ys->ys[i]?=some y,
  λi H=>∃xs ys,SqK t1 H a xs/\SqK t2 H b ys/\(xs.length<=i\/ys.length<=i)⟩
theorem A8a {P:u6}{w:World}{K:v9}{t1 t2:Bool}{elts:v_}{kk:Nat}{pos:Pos}{z ti to i1 i2 a b:Addr}(nd:[z,ti,to,i1,i2].Nodup) :
 Turn P w K (.Tuple elts kk pos) (Itz t1 t2 a b) [z,ti,to,i1,i2] z (λi h=>Al4 h t1 t2 z ti to i1 i2 a b .none i) where
 mem:=by simp
 obj:=λi h st c hc=>by
  simp only[az,a_,bj]at hc
  rcases hc with rfl | rfl | rfl | rfl | rfl
  ·exact⟨_,st.zip,λv e=>by cases e⟩
  ·exact⟨_,st.ins,λv e=>by cases e⟩
  ·obtain⟨u,v,e⟩:=st.outs;exact⟨_,e,λv e=>by cases e⟩
  ·obtain⟨o,e,q⟩:=st.one.obj;exact⟨o,e,λv e=>by rw[q]at e;cases e⟩
  ·obtain⟨o,e,q⟩:=st.two.obj;exact⟨o,e,λv e=>by rw[q]at e;cases e⟩
 keep:=λi h h' st k=>by
  obtain⟨u,v,e⟩:=st.outs
  exact⟨k z (by simp) _ st.zip,k ti (by simp) _ st.ins,⟨u,v,k to (by simp) _ e⟩,st.one.stay λo e=>k i1 (by simp) o e,st.two.stay λo e=>k i2 (by simp) o e⟩
 item:=by
  intro X hP hw hK hc i pins s σ H E I hf st hg;subst hP hw hK;obtain⟨xs,ys,x,y,ha,hb,hx,hy⟩:=hg;obtain⟨its,rv,pa⟩:=ha.its I;obtain⟨jts,rw',pb⟩:=hb.its I;obtain⟨u,hu,ru⟩:=rv.get hx;obtain⟨v,hv,rv'⟩:=rw'.get hy
  have off:zE z ti to i1 i2 a b:=⟨nd,λm=>by (obtain⟨o,e⟩:=ha.some;rw[(hf a m).1]at e;cases e),λm=>by (obtain⟨o,e⟩:=hb.some;rw[(hf b m).1]at e;cases e)⟩
  have ty:s.TypeIs (.ref z) "zip" := ⟨_,st.zip,rfl⟩;unfold pyNext;apply wpAny_bind;apply wpAny_attempt
  refine wpAny_callSpecial?_slot (name:="__next__") ty F.slot_zip_next ?_
  refine wpAny_call_entry F.slot_zip_next ty F.entry_zip_next ?_ (F.args_zip_next_1 _)
  refine Bd6 off st pa pb (x:=u) (x':=v) (by simpa using hu) (by simpa using hv) λh1 z1 new kp=>?_
  refine wpAny_pure ⟨_,rfl,?_⟩
  apply wpAny_letOwnedTupleGo_zip z1.zip;intro h2 z2 sb;have nz:s.heap.objs.size≠z:=bw (Heap.lt_size st.zip);have new2:IsPair h2 s.heap.objs.size u v:=sb.extBut _ _ nz new
  have ok:zA X.prog X.w (upd H s.heap.objs.size (.tup [x,y])) h2 s.heap.objs.size (.tup [x,y]):=⟨(show 2<=sizeLine by decide),[u,v],.cons ru (.cons rv' .nil),⟨_,new2,rfl,⟨_,rfl⟩,rfl⟩⟩
  have I2:=I.turnLay (t':=s.toks) hf (h':=h2) (λc o m e=>sb.extBut _ _ (λe=>m (by simp[e])) (kp c o m e)) (ak _) ok
  obtain⟨u1,v1,e1⟩:=z1.outs;have zf:H s.heap.objs.size=none:=I.hok.fresh (ak _)
  refine⟨.ref s.heap.objs.size,_,I2,rfl,⟨_,x,y,rfl,zf,rfl,λxs' h=>?_,λys' h=>?_⟩,?_,λc hc=>?_⟩
  ·rw[h.one ha];exact hx
  ·rw[h.one hb];exact hy
  ·exact⟨z2,sb.extBut _ _ off.z_ti z1.ins,⟨u1,v1,sb.extBut _ _ off.z_to e1⟩,z1.one.stay λo e=>sb.extBut _ _ off.z_i1 e,z1.two.stay λo e=>sb.extBut _ _ off.z_i2 e⟩
  ·have lt:c<s.heap.objs.size:=by
    simp only[az,a_,bj]at hc
    rcases hc with rfl | rfl | rfl | rfl | rfl
    ·exact Heap.lt_size st.zip
    ·exact Heap.lt_size st.ins
    ·obtain⟨_,_,e⟩:=st.outs;exact Heap.lt_size e
    ·obtain⟨o,e,q⟩:=st.one.obj;exact Heap.lt_size e
    ·obtain⟨o,e,q⟩:=st.two.obj;exact Heap.lt_size e
   rw[Ak (aD lt)];exact(hf c hc).1
 done:=by
  intro X hP hw hK hc i pins s σ H E I hf st hg;subst hP hw hK;obtain⟨xs,ys,ha,hb,hl⟩:=hg;obtain⟨its,rv,pa⟩:=ha.its I;obtain⟨jts,rw',pb⟩:=hb.its I
  have off:zE z ti to i1 i2 a b:=⟨nd,λm=>by (obtain⟨o,e⟩:=ha.some;rw[(hf a m).1]at e;cases e),λm=>by (obtain⟨o,e⟩:=hb.some;rw[(hf b m).1]at e;cases e)⟩
  have ty:s.TypeIs (.ref z) "zip" := ⟨_,st.zip,rfl⟩;have l1:=rv.length;have l2:=rw'.length;unfold pyNext;apply wpAny_bind;apply wpAny_attempt
  refine wpAny_callSpecial?_slot (name:="__next__") ty F.slot_zip_next ?_
  refine wpAny_call_entry F.slot_zip_next ty F.entry_zip_next ?_ (F.args_zip_next_1 _)
  refine A6q (I.ok.hd hc) off st pa pb (by simp;lia) λh1 e kp he=>?_
  obtain⟨o,e1,e2⟩:=he;apply wpAny_bind
  refine wpAny_isInstance (T := "StopIteration") (b:=true) ⟨o,e1,e2⟩ isSubtype_stop ?_
  exact wpAny_pure ⟨rfl,I.turnL (t':=s.toks) hf λc o m e=>kp c o m e⟩
 self:=λ_ _ _ _ _ st h=>wpAny_pyIter_zip st.zip h
section
variable {P:u6}{w:World}{A:q9}{E:z_}{s:u_}
noncomputable abbrev itO (t:Bool) (u:Addr):Obj:={ cls:=.type (if t then "tuple_iterator" else "list_iterator"),data:=.fields #[.ref u,.int 0 0] }
abbrev zh1 (h:Heap)(t1:Bool)(a:Addr):Heap:=h.push (itO t1 a)
abbrev zh2 (h:Heap)(t1 t2:Bool)(a b:Addr):Heap:=(zh1 h t1 a).push (itO t2 b)
abbrev zh3 (h:Heap)(t1 t2:Bool)(a b:Addr):Heap:=(zh2 h t1 t2 a b).push { cls:=.type "tuple",data:=.seq #[.ref h.objs.size,.ref (zh1 h t1 a).objs.size] }
abbrev zh4 (h:Heap)(t1 t2:Bool)(a b:Addr):Heap:=(zh3 h t1 t2 a b).push { cls:=.type "tuple",data:=.seq #[.none,.none] }
abbrev zh5 (h:Heap)(t1 t2:Bool)(a b:Addr):Heap:=(zh4 h t1 t2 a b).push { cls:=.type "zip",data:=.fields #[.none,.bool false,.bool false,.ref (zh2 h t1 t2 a b).objs.size,.ref (zh3 h t1 t2 a b).objs.size] }
theorem A6n (t1 t2:Bool)(a b:Addr)(xs ys:v7) :
 Meets (Builtin.«zip.__new__» ⟨[.type "zip",.ref a,.ref b],[]⟩) (λ_ R s=>SqA t1 s.heap a xs/\SqA t2 s.heap b ys/\R (.ok (.ret (.ref (zh4 s.heap t1 t2 a b).objs.size))) { s with heap:=zh5 s.heap t1 t2 a b }) :=
 .of_wp λP w A R s h=>by
  obtain⟨e,g,d,c,f⟩:=s;obtain⟨k,l,h⟩:=h;have m:=sub_zip
  cases t1 <;> cases t2
  ·have j:Heap.IsList (Shared.heap ⟨e,g,d,c,f⟩) a xs:=k
   have i:Heap.IsList (Shared.heap ⟨e.push { cls:=.type "list_iterator",data:=.fields #[.ref a,.int 0 0] },g,d,c,f⟩) b ys:=Heap.IsList.push l _
   wp_walk using wpAny_pyIter_list j,wpAny_pyIter_list i
   exact⟨_,rfl,h⟩
  ·have j:Heap.IsList (Shared.heap ⟨e,g,d,c,f⟩) a xs:=k
   have i:Heap.IsTuple (Shared.heap ⟨e.push { cls:=.type "list_iterator",data:=.fields #[.ref a,.int 0 0] },g,d,c,f⟩) b ys:=Heap.IsTuple.push l _
   wp_walk using wpAny_pyIter_list j,wpAny_pyIter_tuple i
   exact⟨_,rfl,h⟩
  ·have j:Heap.IsTuple (Shared.heap ⟨e,g,d,c,f⟩) a xs:=k
   have i:Heap.IsList (Shared.heap ⟨e.push { cls:=.type "tuple_iterator",data:=.fields #[.ref a,.int 0 0] },g,d,c,f⟩) b ys:=Heap.IsList.push l _
   wp_walk using wpAny_pyIter_tuple j,wpAny_pyIter_list i
   exact⟨_,rfl,h⟩
  ·have j:Heap.IsTuple (Shared.heap ⟨e,g,d,c,f⟩) a xs:=k
   have i:Heap.IsTuple (Shared.heap ⟨e.push { cls:=.type "tuple_iterator",data:=.fields #[.ref a,.int 0 0] },g,d,c,f⟩) b ys:=Heap.IsTuple.push l _
   wp_walk using wpAny_pyIter_tuple j,wpAny_pyIter_tuple i
   exact⟨_,rfl,h⟩
theorem Ar1 (e:h.get? j=some (itO t u)):ItAt t h j u 0:=by
 cases t
 ·exact⟨_,e,rfl,rfl⟩
 ·exact⟨_,e,rfl,rfl⟩
theorem Au4 (t:SqA t1 s.heap a xs) (u:SqA t2 s.heap b ys)
 (q:∀h',Al4 h' t1 t2 (s.heap.objs.size+4) (s.heap.objs.size+2) (s.heap.objs.size+3) s.heap.objs.size (s.heap.objs.size+1) a b .none 0->(∀c o,s.heap.get? c=some o->h'.get? c=some o)->Q (.ref (s.heap.objs.size+4)) { s with heap:=h' }) :
 wpAny (model P w) A (call (.type "zip") [.ref a,.ref b]) Q E s:=by
 apply callType_new F.called_zip (by decide) (F.typeCall_zip_2 _ _) (F.newCall_zip_2 _ _) (λo=>F.args_object_init_3 o _ _) F.entry_zip_new (A6n t1 t2 a b xs ys)
 refine⟨t,u,?_⟩
 have i:(zh1 s.heap t1 a).objs.size=s.heap.objs.size+1:=Heap.size_push ..
 have g:(zh2 s.heap t1 t2 a b).objs.size=s.heap.objs.size+2:=by rw[Heap.size_push,i]
 have f:(zh3 s.heap t1 t2 a b).objs.size=s.heap.objs.size+3:=by rw[Heap.size_push,g]
 have k:(zh4 s.heap t1 t2 a b).objs.size=s.heap.objs.size+4:=by rw[Heap.size_push,f]
 have d:=λ{h:Heap} {c:Addr} {o:Obj} (n:Obj) (e:h.get? c=some o)=>Heap.get?_push_of_some n e
 have j:(zh5 s.heap t1 t2 a b).get? (zh4 s.heap t1 t2 a b).objs.size=some _:=Heap.get?_push_size _ rfl;have m:(zh5 s.heap t1 t2 a b).get? (zh3 s.heap t1 t2 a b).objs.size=some _:=d _ (Heap.get?_push_size _ rfl);have l:(zh5 s.heap t1 t2 a b).get? (zh2 s.heap t1 t2 a b).objs.size=some _:=d _ (d _ (Heap.get?_push_size _ rfl));have p:(zh5 s.heap t1 t2 a b).get? (zh1 s.heap t1 a).objs.size=some _:=d _ (d _ (d _ (Heap.get?_push_size _ rfl)));have r:(zh5 s.heap t1 t2 a b).get? s.heap.objs.size=some _:=d _ (d _ (d _ (d _ (Heap.get?_push_size _ rfl))));rw[g,f,k]at j;rw[i,g]at l;rw[f]at m;rw[i]at p;rw[k]
 exact⟨⟨_,j,rfl⟩,q _ ⟨j,l,⟨_,_,m⟩,Ar1 r,Ar1 p⟩ λc o e=>d _ (d _ (d _ (d _ (d _ e))))⟩
end
theorem A5a:bootBuiltins "zip" = some (.type "zip"):=by decide +kernel
section
variable {X:Cx}
def B6q (ta:TA):TI:=λσ H R=>ta σ H λvs H1=>∃a b,vs=[.ref a,.ref b]/\∃t1 t2 xs ys,SqK t1 H1 a xs/\SqK t2 H1 b ys/\R (Itz t1 t2 a b) H1
theorem Ar0 {p j e:Pos}{f:v_}{t:Nat}(hg:Gl X "zip") (hm:X.mg "zip" = none) (ha:QA X [a,b] m) (hs1:isStar a=false:=by rfl) (hs2:isStar b=false:=by rfl) :
 QI X (.Tuple f t e) (.Call (.Name "zip" p) [a,b] [] j) (B6q m):=by
 refine⟨?_⟩
 intro l s σ H R I h;have i:=Hs (es:=[b]) (env:=X.env) hs1
 refine Call_ (Kl I hg hm A5a (dF (thn (ha.1 _ _ s _ H _ I h) λus d ⟨vs,r,g,u,v⟩=>?_) i (by rw[(Hs (es:=[]) (env:=X.env) hs2)];rfl)))
 obtain⟨a',b',rfl,t1,t2,xs,ys,y,o,q⟩:=v;obtain⟨z,A,rfl,B,x⟩:=Vals.two u
 cases (show z=Value.ref _ from B)
 cases (show A=Value.ref _ from x)
 obtain⟨C,rv,w⟩:=y.its g;obtain⟨E,F,D⟩:=o.its g
 refine Au4 w D λh' n G=>?_
 apply wpAny_pyIter_zip n.zip
 have J:[d.heap.objs.size+4,d.heap.objs.size+2,d.heap.objs.size+3,d.heap.objs.size,d.heap.objs.size+1].Nodup:=by simp
 refine⟨_,_,_,_,r,rfl,g.kept G,A8a J,n,λc hc=>?_,q⟩
 have k:d.heap.objs.size<=c:=by
  grind
 exact g.fpOk k (g.hok.fresh k)
end
def Bv4:R2:=λx y H Q=>∃a b xs ys,x=.ref a/\y=.ref b/\H a=some (.tup xs)/\H b=some (.tup ys)/\xs.length+ys.length<=sizeLine/\∀p H',Same H H'->H' p=some (.tup (xs++ys))->Q (.ref p) H'
section
variable {X:Cx}
theorem Cu (h:H p=none) (o:HO):Same H (upd H p o):=λb u e=>by rw[Ak (Ay e h)];grind
theorem Bg8:OpR X (binaryOp .Add) Bv4:=by
 intro d s σ H x y v u Q I i f h;obtain⟨a,b,g,E,rfl,rfl,j,c,n,q⟩:=h
 by_cases e:g=[]
 ·cases i
  cases f
  subst e;obtain⟨o,r,t,_⟩:=I.tuple (SqT.of j);obtain⟨w,r2,A,_⟩:=I.tuple (SqT.of c);have C := r.nil_iff.mpr rfl;subst C;obtain⟨⟨c1,d1,D,s1⟩,k,F,n1,z⟩:=id t;obtain⟨⟨c2,d2,B,s2⟩,l,J,n2,G⟩:=id A;subst F z J G
  exact concat_meets ⟨_,k,rfl⟩ ⟨_,l,rfl⟩ noFill_tuple_add seq_tuple_add fB fD (fG _ _)
   (tuple_addW0 a b _ _ _ _ _ _ _ _ (by simp)) ⟨k,l,⟨.ref b,H,I,rfl,q b H (λ_ _ e=>e) c⟩⟩
 ·refine A1l _ s _ H _ _ v u Q I i f ⟨a,b,g,E,rfl,rfl,SqT.of j,SqT.of c,e,n,λK=>?_,λK p m=>?_⟩
  ·exact q a H (λ_ _ e=>e) (by simp_all)
  ·exact q p _ (Cu m _) Bd
end
section
variable {P:u6}{w:World}{A:q9}{E:z_}{s:u_}
theorem B1z (quiet:A.handled=none)(t:Bool)(j u:Addr)(ne:u≠j)(vs:v7):Draws P w A j [j,u] vs.size (λi v=>vs[i]?=some v) (λi h=>ItAt t h j u i/\SqA t h u vs) where
 live:=λi h x=>let ⟨o,e,_⟩:=x.1.obj; ⟨o,e⟩
 frame:=λi h h' x k=>⟨x.1.stay λo e=>k j (by simp) o e,x.2.stay λo e=>k u (by simp) o e⟩
 item:=λi s Q E hi x q=>next_item x.1 x.2 (x:=vs[i]) (by simp[hi]) λh' a b=>q _ h' s.toks (by simp[hi]) ⟨a,x.2.stay λo e=>b.extBut _ _ ne e⟩ b
 done:=λs Q E x q=>next_end quiet x.1 x.2 (by simp) q
theorem Au5 (u:Addr)(vs:v7)(n:Nat)(b:Option Addr)(l:Array (u9)) :
 Meets (Builtin.«enumerate.__new__» ⟨[.type "enumerate",.ref u],[]⟩) (λ_ R s=>s.heap.get? u=some { cls:=.type "tuple",dict:=b,data:=.seq vs n,slots:=l } /\
  R (.ok (.ret (.ref (s.heap.push (itO true u)).objs.size))) { s with heap:=(s.heap.push (itO true u)).push { cls:=.type "enumerate",data:=.fields #[.none,.bool false,.ref s.heap.objs.size,rawInt 0,.none,.none] } }) :=
 .of_wp λP w A R s h=>by
  obtain⟨i,g,d,f,k⟩:=s;obtain⟨e,h⟩:=h;have j:=sub_enumerate;have a:Heap.IsTuple (Shared.heap ⟨i,g,d,f,k⟩) u vs:=⟨_,e,rfl,n,rfl⟩
  wp_walk using AutoSeq1.wpAny_loadPart' e
  refine wpAny_stack_any λm=>wpAny_pure ?_
  split
  ·rename_i c _ _ _ _ _
   cases (c==Value.type "enumerate")
   ·wp_walk using AutoSeq1.wpAny_loadPart' e,wpAny_pyIter_tuple a
    exact⟨_,rfl,h⟩
   ·wp_walk using AutoSeq1.wpAny_loadPart' e,wpAny_pyIter_tuple a
    exact⟨_,rfl,h⟩
  ·wp_walk using AutoSeq1.wpAny_loadPart' e,wpAny_pyIter_tuple a
   exact⟨_,rfl,h⟩
theorem An0 (p:SqA t s.heap u vs)
 (q:∀f,IsEnum f (s.heap.objs.size+1) s.heap.objs.size 0 .none->ItAt t f s.heap.objs.size u 0->(∀c o,s.heap.get? c=some o->f.get? c=some o)->Q (.ref (s.heap.objs.size+1)) { s with heap:=f }) :
 wpAny (model P w) A (call (.type "enumerate") [.ref u]) Q E s:=by
 cases t
 ·exact call_enumerate_list p λf a b c d=>q f a b d
 ·obtain⟨⟨c,i,m,l⟩,e,k,n,g⟩:=p
  simp only at k g;subst k g
  apply callType_new F.called_enumerate (by decide) (F.typeCall_enumerate_1 _) (F.newCall_enumerate_1 _) (λo=>F.args_object_init_2 o _) F.entry_enumerate_new (Au5 u vs n i l)
  refine⟨e,?_⟩
  have j:(s.heap.push (itO true u)).objs.size=s.heap.objs.size+1:=Heap.size_push ..;have h:IsEnum ((s.heap.push (itO true u)).push { cls:=.type "enumerate",data:=.fields #[.none,.bool false,.ref s.heap.objs.size,rawInt 0,.none,.none] }) (s.heap.push (itO _ u)).objs.size _ 0 _:=Heap.get?_push_size _ rfl;rw[j]at h;rw[j]
  exact⟨⟨_,h,rfl⟩,q _ h (Ar1 (Heap.get?_push_of_some _ (Heap.get?_push_size _ rfl))) λc o x=>Heap.get?_push_of_some _ (Heap.get?_push_of_some _ x)⟩
end
def Ite (t:Bool)(a:Addr):It :=
 ⟨
  λi H=>∃xs x,SqK t H a xs/\xs[i]?=some x,
  λi H v H'=>∃p x,v=.ref p/\H p=none/\H'=upd H p (.tup [.int i,x])/\∀xs,SqK t H a xs->xs[i]?=some x,
  λi H=>∃xs,SqK t H a xs/\xs.length<=i⟩
theorem A4p {P:u6}{w:World}{K:v9}{t:Bool}{elts:v_}{kk:Nat}{pos:Pos}{e j a:Addr}(ne:e≠j) :
 Turn P w K (.Tuple elts kk pos) (Ite t a) [e,j] e (λi h=>(∃old,IsEnum h e j i old)/\ItAt t h j a i) where
 mem:=by simp
 obj:=λi h st c hc=>by
  simp only[az,a_,bj]at hc
  rcases hc with rfl | rfl
  ·obtain⟨old,q⟩:=st.1;exact⟨_,q,λv e=>by cases e⟩
  ·obtain⟨o,e,q⟩:=st.2.obj;exact⟨o,e,λv e=>by rw[q]at e;cases e⟩
 keep:=λi h h' st k=>by
  obtain⟨⟨old,q⟩,r⟩:=st
  exact⟨⟨old,k e (by simp) _ q⟩,r.stay λo e=>k j (by simp) o e⟩
 item:=by
  intro X hP hw hK hc i pins s σ H E I hf st hg;subst hP hw hK;obtain⟨xs,x,ha,hx⟩:=hg;obtain⟨⟨old,en⟩,it⟩:=st;obtain⟨its,rv,pa⟩:=ha.its I;obtain⟨u,hu,ru⟩:=rv.get hx
  have off:∀c∈[e,j],a≠c:=λc m z=>by obtain⟨o,q⟩:=ha.some;rw[z,(hf c m).1]at q;cases q
  have dr:=B1z (P:=X.prog) (w:=X.w) (A:=X.A.in1) (I.ok.hd hc) t j a (off j (by simp)) its.toArray
  have li:i<its.toArray.size:=by simpa using (bz.mp hu).1
  refine wpAny_pyNext_enum_itemD dr en ⟨it,pa⟩ li ne (by simp;exact⟨ne,λz=>off e (by simp) z.symm⟩) λu' h1 tk pu ou st1 new _ kp=>?_
  have eu:u'=u:=by
   have pu:its.toArray[i]?=some u':=pu;rw[List.getElem?_toArray,hu]at pu;cases pu;rfl
  subst eu
  refine⟨_,rfl,?_⟩
  apply wpAny_letOwnedTupleGo_enum ou;intro h2 en2 sb
  have lt:∀c∈[e,j],c<s.heap.objs.size:=λc m=>by
   simp only[az,a_,bj]at m
   rcases m with rfl | rfl
   ·exact Heap.lt_size en
   ·obtain⟨o,e,_⟩:=it.obj;exact Heap.lt_size e
  have new2:h2.get? s.heap.objs.size=some { cls:=.type "tuple",data:=.seq #[.int i tk,u'] }:=sb.extBut _ _ (bw (lt e (by simp))) new
  have ok:zA X.prog X.w (upd H s.heap.objs.size (.tup [.int i,x])) h2 s.heap.objs.size (.tup [.int i,x]):=⟨(show 2<=sizeLine by decide),[.int i tk,u'],.cons ⟨tk,rfl⟩ (.cons ru .nil),⟨_,new2,rfl,⟨_,rfl⟩,rfl⟩⟩
  have I2:=I.turnLay (t':=tk+1) hf (h':=h2) (λc o m q=>sb.extBut _ _ (λz=>m (by simp[z])) (kp c o (λz=>m (by simp[z])) (λz=>m (by simp[z])) q)) (ak _) ok
  refine⟨.ref s.heap.objs.size,_,I2,rfl,⟨_,x,rfl,I.hok.fresh (ak _),rfl,λxs' h=>?_⟩,⟨⟨u',?_⟩,?_⟩,λc m=>?_⟩
  ·rw[h.one ha];exact hx
  ·have:IsEnum h2 e j ((i:Int)+1) u':=en2
   simpa using this
  ·exact st1.1.stay λo q=>sb.extBut _ _ (aC ne) q
  ·rw[Ak (aD (lt c m))]
   exact(hf c m).1
 done:=by
  intro X hP hw hK hc i pins s σ H E I hf st hg;subst hP hw hK;obtain⟨xs,ha,hl⟩:=hg;obtain⟨⟨old,en⟩,it⟩:=st;obtain⟨its,rv,pa⟩:=ha.its I
  have off:∀c∈[e,j],a≠c:=λc m z=>by obtain⟨o,q⟩:=ha.some;rw[z,(hf c m).1]at q;cases q
  have ty:s.TypeIs (.ref e) "enumerate" := ⟨_,en,rfl⟩;have ln:=rv.length;unfold pyNext;apply wpAny_bind;apply wpAny_attempt
  refine wpAny_callSpecial?_slot (name:="__next__") ty F.slot_enumerate_next ?_
  refine wpAny_call_entry F.slot_enumerate_next ty F.entry_enumerate_next ?_ (F.args_enumerate_next_1 _)
  apply wpAny_bind (m:=field (.ref e) 2);apply wpAny_field en rfl (x:=.ref j) rfl;apply wpAny_bind
  refine next_end (I.ok.hd hc) it pa (by simp;lia) λh1 x kp hx=>?_
  obtain⟨o,e1,e2⟩:=hx;apply wpAny_bind
  refine wpAny_isInstance (T := "StopIteration") (b:=true) ⟨o,e1,e2⟩ isSubtype_stop ?_
  exact wpAny_pure ⟨rfl,I.turnL (t':=s.toks) hf λc o m q=>kp c o (λz=>m (by simp[z])) q⟩
 self:=λ_ _ _ _ _ st h=>let ⟨_,q⟩:=st.1;wpAny_pyIter_enum q h
theorem Aw5:bootBuiltins "enumerate" = some (.type "enumerate"):=by decide +kernel
section
variable {X:Cx}
def Bu9 (ta:TA):TI:=λσ H R=>ta σ H λvs H1=>∃a,vs=[.ref a]/\∃t xs,SqK t H1 a xs/\R (Ite t a) H1
theorem Bs2 (hg:Gl X "enumerate") (hm:X.mg "enumerate" = none) (ha:QA X [a] i) (hs1:isStar a=false:=by rfl) :
 QI X (.Tuple d v b) (.Call (.Name "enumerate" p) [a] [] f) (Bu9 i):=by
 refine⟨?_⟩
 intro j s σ H R I h
 refine Call_ (Kl I hg hm Aw5 (dF (thn (ha.1 _ _ s _ H _ I h) λus x ⟨vs,o,e,r,u⟩=>?_) (Hs (es:=[]) (env:=X.env) hs1) rfl))
 obtain⟨a',rfl,t,xs,l,q⟩:=u;obtain⟨w,rfl,m⟩:=vals1 r
 cases (show w=Value.ref _ from m)
 obtain⟨n,rv,y⟩:=l.its e
 refine An0 y λh' k z A=>?_
 apply wpAny_pyIter_enum k
 refine⟨_,_,_,_,o,rfl,e.kept A,A4p (bw (cJ _)),⟨⟨_,k⟩,z⟩,λc hc=>?_,q⟩
 have g:x.heap.objs.size<=c:=by
  grind
 exact e.fpOk g (e.hok.fresh g)
end
section
variable {X:Cx}
def Bv5 (i j k:Nat)(ta:TA):TS:=λD σ H=>ta σ H λvs H1=>∃v w y,vs=[v,w,y]/\D.nx (((σ.set i (some v)).set j (some w)).set k (some y)) H1
theorem Bp8 {i j k:Nat}{x y z:Str}{a b c:Expr}{M:TA}{t r B u:Pos}{C k2 f}(hc:X.calm=true)(hN:X.N.Nodup)(hi:X.N[i]?=some x)(hj:X.N[j]?=some y)(hk:X.N[k]?=some z)(hij:i≠j)(hik:i≠k)(hjk:j≠k)
 (hx:X.env.scope.names.lookup x=some .local) (hy:X.env.scope.names.lookup y=some .local) (hz:X.env.scope.names.lookup z=some .local) (ha:QA X [a,b,c] M)
 (hw:swappedStores [.Tuple [.Name x t,.Name y r,.Name z B] C u] (.Tuple [a,b,c] k2 f) X.env=pure (some [x,y,z]))
 (hs:swapsWithSole [.Tuple [.Name x t,.Name y r,.Name z B] C u] (.Tuple [a,b,c] k2 f) pos.line X.env=pure false:=by rfl) :
 QS X (.Assign [.Tuple [.Name x t,.Name y r,.Name z B] C u] (.Tuple [a,b,c] k2 f) pos) (Bv5 i j k M):=by
 refine⟨?_⟩
 intro d s N H D I h;rw[exec_Assign_arm]
 refine wpAny_bind (wpAny_standAt ?_)
 rw[hs]
 refine wpAny_bind (wpAny_pure ?_)
 rw[if_neg (by decide)]
 refine wpAny_bind (Tuple_ (thn (ha.1 _ d s N H _ I h) λW g ⟨vs,L,R,V,A⟩=>?_))
 obtain⟨v,w,y',P,A⟩:=A;subst P
 obtain⟨n,m,l,rfl,Q,F,S⟩:∃n m l,W=[n,m,l]/\RelV v n/\RelV w m/\RelV y' l:=by
  cases V with
  | cons p q =>
   cases q with
   | cons T U =>
    cases U with
    | cons E G =>
     cases G
     exact⟨_,_,_,rfl,p,T,E⟩
 refine wpAny_newObj_type ?_ (by show 3<=sizeLine;decide)
 have Y:Inv X d N L { g with heap:=g.heap.push { cls:=.type "tuple",data:=.seq [n,m,l].toArray } }:=R.kept (t':=g.toks) λb o e=>Heap.get?_push_of_some _ e
 rw[hw]
 refine wpAny_bind (wpAny_pure ?_)
 show wpAny (model X.prog X.w) X.A (do rule "assign.swapped-stores";let items <- unpackItems (.ref g.heap.objs.size) 3 none;assignInOrder [λv=>bindName X.env z v,λv=>bindName X.env y v,λv=>bindName X.env x v] items.reverse;pure Flow.next) _ _ _
 refine wpAny_bind (wpAny_rule (wpAny_bind (unpackItems_tuple (items:=#[n,m,l]) (I.ok.hd hc) (IsTup.new g.heap _) λO J=>?_)))
 show wpAny _ _ (assignInOrder [λv=>bindName X.env z v,λv=>bindName X.env y v,λv=>bindName X.env x v] [l,m,n] >>= λ_=>pure Flow.next) _ _ _
 refine wpAny_bind (assignInOrder_cons (wpAny_bindName (Gw (Y.kept (h':=O) (t':=g.toks) λb o e=>J b o (aD (Heap.lt_size e)) e) hN hk (.inl hz) S (λs2 Z=>?_) (.inr hz))))
 refine assignInOrder_cons (wpAny_bindName (Gw Z hN hj (.inl hy) F (λs3 I5=>?_) (.inr hy)))
 refine assignInOrder_cons (wpAny_bindName (Gw I5 hN hi (.inl hx) Q (λs4 K=>assignInOrder_nil (wpAny_pure ?_)) (.inr hx)))
 rw[dU _ _ (aC hij),dU _ _ (aC hik),dU _ _ (aC hjk)]at K;exact⟨_,L,K,A⟩
end
section
variable {X:Cx}{a b:Expr}{ta tb:TE}{pos:Pos}
def B6p (neg:Bool):R2:=λx y H Q=>∃d ds,Tr H d x/\(Tr H (.list ds) y\/Tr H (.tuple ds) y)/\Flat d/\PyData.canLayAll0 ds=true/\Q (.bl (if neg then !ds.any (λe=>PyData.eqv e d) else ds.any λe=>PyData.eqv e d)) H
theorem Et (hu:X.A.units+64<cLine)(ha:QE X a ta)(hb:QE X b tb)(hm:behindInMarks .NotIn b=false):QT X (.Compare a [.NotIn] [b] pos) (O5 (tOp (B6p true) ta tb)):=⟨J6 (A4d hu) ha.1 hb.1 hm⟩
end
end L2
set_option autoImplicit true
namespace L2
open PySem PySem.Spec PyProof.Rows
theorem Af : QE X (.Constant (.int i) j a) (tC (.int i)) :=
 ⟨A7z ⟩
theorem Tj : QE X (.Constant (.bool b) j a) (tC (.bl b)) :=
 ⟨Bt2 ⟩
theorem Er : QE X (.Constant .none j a) (tC .non) :=
 ⟨Bd8 ⟩
theorem Bv : QE X (.Constant (.str x) j a) (tC (.str x)) :=
 ⟨A6t ⟩
theorem Qm (hg:Gl X x) (hm:X.mg x=some u) (r:RelV v u) (hd:(x==("__debug__" : Str))=false:=by decide):QE X (.Name x a) (tC v) :=
 ⟨Bh7 (hg:=hg) (hm:=hm) (r:=r) (hd:=hd)⟩
theorem Eb {a:Pos}(hg:Gl X x) (hm:X.mg x=none) (hv:bootBuiltins x=some u) (r:RelV v u) (hn:x ≠ "__name__" := by decide) (hd:(x==("__debug__" : Str))=false:=by decide):QE X (.Name x a) (tC v) :=
 ⟨Bs3 (hg:=hg) (hm:=hm) (hv:=hv) (r:=r) (hn:=hn) (hd:=hd)⟩
theorem Ac3 (h:QE X a t):QE X (.BoolOp op [a] pos) t :=
 ⟨B1i (h:=h.get)⟩
theorem Az : QSs X [] A8h :=
 ⟨Bj3 ⟩
theorem Ai (h1:QS X stm t):QSs X [stm] t :=
 ⟨A1f (h1:=h1.get)⟩
theorem Bd3 : QS X stm Av4 :=
 ⟨A8u ⟩
theorem Mh (a:X.K=Kq) {k:Nat} (hc:X.calm=true) (h:QGs X es t) (hn:(assignEach es X.env).length=n:=by rfl) (hst:(assignEach es X.env).findIdx? (·.1)=none:=by rfl):QG X (.Tuple es k pos) (A9m Kq n t):=by
 subst a;exact⟨B0t (hc:=hc) (h:=h.get) (hn:=hn) (hst:=hst)⟩
theorem Bg (hN:X.N.Nodup) (he:QE X e b) (hi:X.N[i]?=some x:=by exact rfl) (hx:Loc X.env.scope x:=by first | exact Or.inl rfl | exact Or.inr rfl) (hs:swapsWith e (some (.Name x a)) pos.line X.env=pure false:=by rfl) (hf:X.fn x=true\/X.env.scope.names.lookup x=some .local:=by first | exact .inl rfl | exact .inr rfl | assumption):QS X (.Assign [.Name x a] e pos) (Ym b (J5 i)) :=
 ⟨A9h (hN:=hN) (hi:=hi) (hx:=hx) (he:=he.get) (hs:=hs) ⟩
theorem Em (a:X.K=Kq) (hl:QE X l b):QI X c l (Bw9 Kq b):=by
 subst a;exact⟨Bz6 (hl:=hl.get)⟩
theorem Ac : QA X [] Eu :=
 ⟨Ro ⟩
theorem Ad (ha:QE X e te)(hr:QA X es t)(hs:isStar e=false:=by rfl):QA X (e::es) (Bt te t) :=
 ⟨A5z (ha:=ha.get) (hr:=hr.get) (hs:=hs)⟩
theorem Fp (F:FnOk X.prog X.w X.K X.mg X.base CX k f fd ps sp)(hr:Room k X.A)(hg:Gl X x)(hm:X.mg x=some (.ref f))(hk:PySem.W.keepIn X.K (.ref f)=true)(hb:Binds X.K fd ps ds)(hd:Vals dvs ds)(hx:Hi CX X E)(ha:QA X (e::es) t)(hdb:(x==("__debug__" : Str))=false:=by decide) (hn:noStar (e::es)=true:=by rfl):QE X (.Call (.Name x p) (e::es) [] pos) (Le sp dvs E t) :=
 ⟨Ba5 (F:=F) (hr:=hr) (hg:=hg) (hm:=hm) (hk:=hk) (hb:=hb) (hd:=hd) (hx:=hx) (ha:=ha.get) (hdb:=hdb) (hn:=hn)⟩
theorem Au1 : QK X [] Eu :=
 ⟨B0s ⟩
theorem Ai1 (a:X.K=Kq) (pa:PlainAttrs T) (slot:Slot T name idn) (hty:typeOf (.builtin idn)=pure (.type "method_descriptor")) (hm:MtR X idn r) (ho:QE X o to) (ha:QA X (e::es) t) (hbase:attributeBase o name X.env (eval o X.env)=eval o X.env:=by rfl) (hfew:((backTo cpos (starEach (e::es) X.env)).all (λx=>!x.1)&&(backToKw cpos (keywordEach [] X.env)).all (λx=>x.1.isSome)
 && decide ((e::es).length+([]:List Keyword).length+(if ([]:List Keyword).isEmpty then 0 else 1)<30))=true:=by rfl) (hline:(apos.endLine==cpos.line)=true:=by rfl) (hs:starEach (e::es) X.env=(false,eval e X.env)::starEach es X.env:=by rfl) (hplain:(backTo cpos (starEach es X.env)).any (·.1)=false:=by rfl):QE X (.Call (.Attribute o name apos) (e::es) [] cpos) (tBM Kq T r to t):=by
 subst a;exact⟨Bv0 (pa:=pa) (slot:=slot) (hty:=hty) (hm:=hm) (ho:=ho.get) (ha:=ha.get) (hbase:=hbase) (hfew:=hfew) (hline:=hline) (hs:=hs) (hplain:=hplain)⟩
theorem Lf (b:X.K=Kq) (ho:QE X a ta) (hv:QE X e te) (hbase:attributeBase a "append" X.env (eval a X.env)=eval a X.env:=by rfl) (hfew:((backTo cpos (starEach [e] X.env)).all (λx=>!x.1)&&(backToKw cpos (keywordEach [] X.env)).all (λx=>x.1.isSome)
 && decide ([e].length+([]:List Keyword).length+(if ([]:List Keyword).isEmpty then 0 else 1)<30))=true:=by rfl) (hline:(apos.endLine==cpos.line)=true:=by rfl) (hns:isStar e=false:=by rfl):QE X (.Call (.Attribute a "append" apos) [e] [] cpos) (tBM Kq "list" rAppF ta (Bt te Eu)):=by
 subst b;exact⟨A3q (ho:=ho.get) (hv:=hv.get) (hbase:=hbase) (hfew:=hfew) (hline:=hline) (hns:=hns)⟩
theorem Bm3 : QTs X [] Br0 :=
 ⟨Br5 ⟩
theorem qtN:∀a b c d e,QTs (By X N' scope a b c d e) [] Br0:=λ_ _ _ _ _=>Bm3
theorem N8 (h:QT X c t):QTs X [c] t :=
 ⟨Bg1 (h:=h.get)⟩
theorem J9 (L:Gj X N' idx scope)(hc:X.calm=true)(hi:QI X tg iter wi)(hg:∀d C b a c,QG (By X N' scope d C b a c) tg g)(ht:∀d C b a c,QTs (By X N' scope d C b a c) ifs tc)(he:∀d C b a c,QE (By X N' scope d C b a c) elt te)(hs:∀x,foldedSetIterable iter X.env x=pure x:=by intro _;rfl):QE X (.ListComp elt [⟨tg,iter,ifs,0⟩] scope pos) (tLC idx wi g tc te) :=
 ⟨B3u (L:=L) (hc:=hc) (hi:=hi.get) (hg:=λd C b a c=>(hg _ C _ _ _).get) (ht:=λd C b a c=>(ht _ C _ _ _).get) (he:=λd C b a c=>(he _ C _ _ _).get) (hs:=hs)⟩
theorem Jq {f d:Pos}(hN:X.N.Nodup) (hi':X.N[i]?=some y) (hy:Loc X.env.scope y) (L:Gj X N' idx scope) (hc:X.calm=true) (hi:QI X tg iter wi) (hg:∀e C b a c,QG (By X N' scope e C b a c) tg g) (ht:∀e C b a c,QTs (By X N' scope e C b a c) ifs tc) (he:∀e C b a c,QE (By X N' scope e C b a c) elt te) (hsw:swapsWith (.ListComp elt [⟨tg,iter,ifs,0⟩] scope pos) (some (.Name y f)) d.line X.env=pure true:=by rfl) (hf:X.fn y=true\/X.env.scope.names.lookup y=some .local:=by first | exact .inl rfl | exact .inr rfl | assumption) (hs:∀x,foldedSetIterable iter X.env x=pure x:=by intro _;rfl):QS X (.Assign [.Name y f] (.ListComp elt [⟨tg,iter,ifs,0⟩] scope pos) d) (Ym (tLC idx wi g tc te) (J5 i)) :=
 ⟨Be3 (hN:=hN) (hi':=hi') (hy:=hy) (L:=L) (hc:=hc) (hi:=hi.get) (hg:=λe C b a c=>(hg _ C _ _ _).get) (ht:=λe C b a c=>(ht _ C _ _ _).get) (he:=λe C b a c=>(he _ C _ _ _).get) (hsw:=hsw) (hs:=hs)⟩
theorem Bd7 (a:X.K=Kq) (hc:X.calm=true) (F:FnOk X.prog X.w X.K X.mg X.base CX0 k f b ps sp) (hr:Room (k+1) X.A) (hb:Binds X.K b ps []) (hg:Gl X "min") (hm:X.mg "min" = none) (ha:QA X [e] t) (hkw:QK X kws tk) (hall:(backToKw pos (keywordEach kws X.env)).all (·.1.isSome)=true:=by rfl) (hks:(backToKw pos (keywordEach kws X.env)).filterMap (·.1)=[Str.ofString "key",Str.ofString "default"]:=by rfl) (he:backTo pos (starEach [e] X.env)=(false,eval e X.env)::backTo pos (starEach [] X.env):=by rfl) (hpl:(backTo pos (starEach [e] X.env)).any (·.1)=false:=by rfl) (hno:(backToKw pos (keywordEach kws X.env)).any (·.1.isNone)=false:=by rfl):QE X (.Call (.Name "min" p) [e] kws pos) (tMM false Kq f sp t tk):=by
 subst a;exact⟨Bb5 (hc:=hc) (F:=F) (hr:=hr) (hb:=hb) (hg:=hg) (hm:=hm) (ha:=ha.get) (hkw:=hkw.get) (hall:=hall) (hks:=hks) (he:=he) (hpl:=hpl) (hno:=hno)⟩
theorem Bd1 (a:X.K=Kq) (hc:X.calm=true) (F:FnOk X.prog X.w X.K X.mg X.base CX0 k f b ps sp) (hr:Room (k+1) X.A) (hb:Binds X.K b ps []) (hg:Gl X "max") (hm:X.mg "max" = none) (ha:QA X [e] t) (hkw:QK X kws tk) (hall:(backToKw pos (keywordEach kws X.env)).all (·.1.isSome)=true:=by rfl) (hks:(backToKw pos (keywordEach kws X.env)).filterMap (·.1)=[Str.ofString "key",Str.ofString "default"]:=by rfl) (he:backTo pos (starEach [e] X.env)=(false,eval e X.env)::backTo pos (starEach [] X.env):=by rfl) (hpl:(backTo pos (starEach [e] X.env)).any (·.1)=false:=by rfl) (hno:(backToKw pos (keywordEach kws X.env)).any (·.1.isNone)=false:=by rfl):QE X (.Call (.Name "max" p) [e] kws pos) (tMM true Kq f sp t tk):=by
 subst a;exact⟨A7s (hc:=hc) (F:=F) (hr:=hr) (hb:=hb) (hg:=hg) (hm:=hm) (ha:=ha.get) (hkw:=hkw.get) (hall:=hall) (hks:=hks) (he:=he) (hpl:=hpl) (hno:=hno)⟩
theorem Aw7 {Kq:v9}(hKq:X.K=Kq)(ha:QE X a ta)(hb:QE X b tb):QE X (.BinOp a .Add b pos) (tOp (A0u Kq) ta tb):=by
 subst hKq;exact⟨Av5 (ha:=ha.get) (hb:=hb.get)⟩
theorem Tt (a:X.K=Kq) (hgl:Gl X "abs") (hm:X.mg "abs" = none) (ha:QA X (e::es) t) (hns:noStar (e::es)=true:=by rfl):QE X (.Call (.Name "abs" p) (e::es) [] pos) (tCB (O7 Kq) t):=by
 exact⟨Aj0 (hgl:=hgl) (hm:=hm) (ha:=ha.get) (hns:=hns)⟩
theorem Bw (a:X.K=Kq) (hgl:Gl X "isinstance") (hm:X.mg "isinstance" = none) (ha:QA X (e::es) t) (hns:noStar (e::es)=true:=by rfl):QE X (.Call (.Name "isinstance" p) (e::es) [] pos) (tCB (Pk Kq) t):=by
 exact⟨Aj8 (hgl:=hgl) (hm:=hm) (ha:=ha.get) (hns:=hns)⟩
theorem Z7 (a:X.K=Kq) (hgl:Gl X "isinstance") (hm:X.mg "isinstance" = none) (ha:QA X (e::es) t) (hns:noStar (e::es)=true:=by rfl):QE X (.Call (.Name "isinstance" p) (e::es) [] pos) (tCB (Jz Kq) t):=by
 exact⟨Ae2 (hgl:=hgl) (hm:=hm) (ha:=ha.get) (hns:=hns)⟩
theorem Q7 (a:X.K=Kq) (hc:X.calm=true) (hgl:Gl X "any") (hm:X.mg "any" = none) (ha:QA X (e::es) t) (hns:noStar (e::es)=true:=by rfl):QE X (.Call (.Name "any" p) (e::es) [] pos) (tCB (Ng Kq) t):=by
 subst a;exact⟨Z9 (hc:=hc) (hgl:=hgl) (hm:=hm) (ha:=ha.get) (hns:=hns)⟩
theorem Ri (a:X.K=Kq) (hc:X.calm=true) (hgl:Gl X "all") (hm:X.mg "all" = none) (ha:QA X (e::es) t) (hns:noStar (e::es)=true:=by rfl):QE X (.Call (.Name "all" p) (e::es) [] pos) (tCB (Ny Kq) t):=by
 subst a;exact⟨Aa3 (hc:=hc) (hgl:=hgl) (hm:=hm) (ha:=ha.get) (hns:=hns)⟩
theorem Ab2 (a:X.K=Kq) (hc:X.calm=true) (hgl:Gl X "sum") (hm:X.mg "sum" = none) (ha:QA X (e::es) t) (hns:noStar (e::es)=true:=by rfl):QE X (.Call (.Name "sum" p) (e::es) [] pos) (tCB (Mx Kq) t):=by
 subst a;exact⟨Z2 (hc:=hc) (hgl:=hgl) (hm:=hm) (ha:=ha.get) (hns:=hns)⟩
theorem Z8 (a:X.K=Kq) (hgl:Gl X "int") (hm:X.mg "int" = none) (ha:QA X (e::es) t) (hns:noStar (e::es)=true:=by rfl):QE X (.Call (.Name "int" p) (e::es) [] pos) (tCB (Mw Kq) t):=by
 exact⟨Af2 (hgl:=hgl) (hm:=hm) (ha:=ha.get) (hns:=hns)⟩
theorem Bs (a:X.K=Kq) (hgl:Gl X "tuple") (hm:X.mg "tuple" = none) (ha:QA X (e::es) t) (hns:noStar (e::es)=true:=by rfl):QE X (.Call (.Name "tuple" p) (e::es) [] pos) (tCB (Ik Kq) t):=by
 subst a;exact⟨Sg (hgl:=hgl) (hm:=hm) (ha:=ha.get) (hns:=hns)⟩
theorem Mt (a:X.K=Kq) (hgl:Gl X "list") (hm:X.mg "list" = none) (ha:QA X (e::es) t) (hns:noStar (e::es)=true:=by rfl):QE X (.Call (.Name "list" p) (e::es) [] pos) (tCB (Jp Kq) t):=by
 subst a;exact⟨Uc (hgl:=hgl) (hm:=hm) (ha:=ha.get) (hns:=hns)⟩
theorem Ae7 (a:X.K=Kq) (hc:X.calm=true) (hgl:Gl X "min") (hm:X.mg "min" = none) (ha:QA X (e::es) t) (hns:noStar (e::es)=true:=by rfl):QE X (.Call (.Name "min" p) (e::es) [] pos) (tCB (N5 Kq) t):=by
 exact⟨Z3 (hc:=hc) (hgl:=hgl) (hm:=hm) (ha:=ha.get) (hns:=hns)⟩
theorem A3f (b:X.K=Kq) (hc:X.calm=true) (hgs:Gl X "set") (hms:X.mg "set" = none) (hgl:Gl X "len") (hml:X.mg "len" = none) (he:QE X e d) (hns:isStar e=false:=by rfl):QE X (.Call (.Name "len" p) [.Call (.Name "set" f) [e] [] a] [] c) (tCB (Qs X.prog X.w) (Bt (tCB (Zt X.prog X.w Kq) (Bt d Eu)) Eu)):=by
 subst b;exact⟨A4v (hc:=hc) (hgs:=hgs) (hms:=hms) (hgl:=hgl) (hml:=hml) (he:=he.get) (hns:=hns)⟩
theorem Gq (h:Q0 es=some vs):QA X es (tK vs):=⟨Zo h⟩
theorem QW.qt (h:QW X e t):QT X e t:=⟨h.get.pt⟩
theorem qv (i:Nat) {a:Pos}(hN:X.N[i]?=some x:=by rfl) (hv:Vis X.env.scope x:=by first | exact Or.inl rfl | exact Or.inr (Or.inl rfl) | exact Or.inr (Or.inr rfl)) (hd:(x==("__debug__" : Str))=false:=by decide) (hcd:(x==("__classdict__" : Str))=false:=by decide):QE X (.Name x a) (Qx i):=⟨Aq5 hN hv hd hcd⟩
end L2
namespace L2
open PySem
theorem Fi (h:QSs X st t) (k:t D a H):∃t,PSs X st t/\t D a H:=⟨t,h.get,k⟩
theorem Ua:Es "NoneType" "int" = some false:=by trivial
theorem T5:Es "NoneType" "str" = some false:=by trivial
theorem Rx:Es "NoneType" "bool" = some false:=by trivial
theorem Rv:Es "NoneType" "list" = some false:=by trivial
theorem Qo:Es "NoneType" "tuple" = some false:=by trivial
theorem Ah1:Es "bool" "int" = some true:=by trivial
theorem Am3:Es "bool" "str" = some false:=by trivial
theorem Ag3:Es "bool" "bool" = some true:=by trivial
theorem Af1:Es "bool" "list" = some false:=by trivial
theorem Xw:Es "bool" "tuple" = some false:=by trivial
theorem Ar4:Es "int" "int" = some true:=by trivial
theorem Au9:Es "int" "str" = some false:=by trivial
theorem Am4:Es "int" "bool" = some false:=by trivial
theorem Ai4:Es "int" "list" = some false:=by trivial
theorem Ac0:Es "int" "tuple" = some false:=by trivial
theorem Ap4:Es "str" "int" = some false:=by trivial
theorem Ao9:Es "str" "str" = some true:=by trivial
theorem Aj6:Es "str" "bool" = some false:=by trivial
theorem An3:Es "str" "list" = some false:=by trivial
theorem Ae0:Es "str" "tuple" = some false:=by trivial
theorem Ag8:Es "list" "int" = some false:=by trivial
theorem Ai2:Es "list" "str" = some false:=by trivial
theorem Af8:Es "list" "bool" = some false:=by trivial
theorem Ab4:Es "list" "list" = some true:=by trivial
theorem Xy:Es "list" "tuple" = some false:=by trivial
theorem Ad0:Es "tuple" "int" = some false:=by trivial
theorem Ab6:Es "tuple" "str" = some false:=by trivial
theorem Yo:Es "tuple" "bool" = some false:=by trivial
theorem Yj:Es "tuple" "list" = some false:=by trivial
theorem Vh:Es "tuple" "tuple" = some true:=by trivial
section
variable {H:Hp}{a:Addr}
theorem B0c (h:H a=some (.lst xs)):O3 H (.ref a)=some "list" := by simp only[O3,h]
theorem Bz3 (h:H a=some (.tup xs)):O3 H (.ref a)=some "tuple" := by simp only[O3,h]
theorem Bk5 (h:H a=some (.lst xs)):A2s H (.ref a)=some xs.length:=by simp only[A2s,h]
theorem Bh6 (h:H a=some (.tup xs)):A2s H (.ref a)=some xs.length:=by simp only[A2s,h]
end
abbrev g2 (K:v9)(i j:Nat):TG:=A9m K 2 (Yu (J5 i) (Yu (J5 j) Bs0))
theorem exc {R:Addr->Addr->m8->m8->Prop}{x y:Addr}:(∃a b xs ys,V.ref x=V.ref a/\V.ref y=V.ref b/\R a b xs ys)↔∃xs ys,R x y xs ys:=by
 constructor
 ·rintro⟨a,b,xs,ys,e1,e2,h⟩;cases e1;cases e2;exact⟨xs,ys,h⟩
 ·rintro⟨xs,ys,h⟩;exact⟨x,y,xs,ys,rfl,rfl,h⟩
theorem TrL.got {H:Hp}:∀{ds:w5}{vs:m8}{k:Nat}{d:t_},TrL H ds vs->ds[k]?=some d->∃v,vs[k]?=some v/\Tr H d v
 | [],_,k,d,h,e=>by simp at e
 | d::r,_,0,_,⟨v,_,rfl,q,_⟩,e=>by simp at e;subst e;exact⟨v,rfl,q⟩
 | d::r,_,k+1,_,⟨_,_,rfl,_,q⟩,e=>by simp at e;simpa using TrL.got q e
theorem TrL.app {H:Hp}:∀{ds es:w5}{vs us:m8},TrL H ds vs->TrL H es us->TrL H (ds++es) (vs++us)
 | [],es,_,us,h,q=>by cases (show _=[] from h);exact q
 | d::r,es,_,us,⟨v,vr,rfl,q1,q2⟩,q=>⟨v,vr++us,rfl,q1,TrL.app q2 q⟩
theorem TrL.one (h:Tr H d v):TrL H [d] [v]:=⟨v,[],rfl,h,rfl⟩
mutual
noncomputable def wt:t_->Nat
 | .none=>4
 | .bool _=>5
 | .int _=>1921
 | .str x=>10*x.length+2
 | .list xs=>Lh xs+4
 | .tuple xs=>Lh xs+4
 | .dict _=>0
noncomputable def Lh:w5->Nat
 | []=>0
 | x::xs=>wt x+2+Lh xs
end
end L2
namespace HT
open PySem PySem.Spec PyProof.Rows
end HT
namespace L2
open PySem PySem.Spec PyProof.Rows
section
noncomputable def Bt5 (y:Str):Value->Bool
 | .str z _=>z==y
 | _=>false
theorem Ay9:∀{ss:v4}{us:w6},Vals (ss.map V.str) us->∀u∈us,∃z t,u=.str z t
 | [],_,r,u,hu=>by cases r;cases hu
 | s::ss,_,r,u,hu=>by
  cases r with
  | cons r1 r2 =>
   rcases az.mp hu with rfl | hu
   ·obtain⟨t,rfl⟩:=r1;exact⟨s,t,rfl⟩
   ·exact Ay9 r2 u hu
end
end L2
namespace HT
open PySem PySem.Spec PyProof.Rows
section
variable {prog:u6}{w:World}{A:q9}{E:z_}{s:u_}
theorem O2 {lo hi:q_} (ht:IsTup s.heap t items) (hs:s.heap.IsSliceOf b g f .none) (pl:IsPart g lo) (i:IsPart f hi)
 (hw:sIx items.size 0 lo=0/\sIx items.size items.size hi=items.size) (h:Q (.ref t) s):wpAny (model prog w) A (getItem (.ref t) (.ref b)) Q E s:=by
 obtain⟨k,d,c,j⟩:=id hs;have e:s.TypeIs (.ref b) "slice" := ⟨k,d,c⟩;unfold getItem
 try with_reducible refine wpAny_holding ?_
 first | refine wpAny_bind (wpAny_pure ?_) | skip
 refine wpAny_bind (wpAny_sequenceKey ht.typeIs (by decide) ?_)
 refine wpAny_bind (wpAny_callSpecial?_slot (name:="__getitem__") ht.typeIs dh
  (wpAny_call_entry dh ht.typeIs entry_tuple_getitem ?_ (args_tuple_getitem _ _)))
 show wpAny _ _ (Builtin.Tuple.tupleItemsOf (.ref t) >>= _) _ _ s
 refine wpAny_bind (tupleItemsOf_ ht ?_)
 refine wpAny_bind (wpAny_typeOf e ?_)
 rw[if_pos (by decide)]
 refine wpAny_bind (K1 hs pl i ?_)
 show wpAny _ _ (if (((sIx items.size 0 lo:Nat):Int)==0&&(1:Int)==1&&(sIx _ _ _-sIx _ 0 _)==items.size)=true then _ else _) _ _ s
 have a:(((sIx items.size 0 lo):Int)==0&&(1:Int)==1&&sIx items.size items.size hi-sIx items.size 0 lo==items.size)=true:=by
  rw[hw.1,hw.2];simp
 rw[if_pos a]
 refine wpAny_bind (wpAny_bind (wpAny_typeOf ht.typeIs (wpAny_pure ?_)))
 refine wpAny_bind (wpAny_rule ?_)
 first
  | exact wpAny_pure ⟨_,rfl,wpAny_pure h⟩
  | exact wpAny_bind _
  | exact wpAny_bind _
  | trace_state
end
end HT
namespace L2
open PySem PySem.Spec PyProof.Rows
section
variable {X:Cx}
def Bv1 (K:v9):V->q_->q_->Hp->VK->Prop:=λx lo hi H Q=>∃a xs,x=.ref a/\SqT K H a xs /\
 (HT.sIx xs.length 0 lo=0/\HT.sIx xs.length xs.length hi=xs.length)/\Q (.ref a) H
theorem Bh4:SlR X (Bv1 X.K):=by
 intro d s σ H x v vl vu lo hi sl Q I k f g e h;obtain⟨a,xs,rfl,j,hw,q⟩:=h
 cases k
 obtain⟨i,r,c,hz⟩:=I.tuple j
 have b := by exact r.length.symm
 refine⟨"tuple",_,dh.lookup,c.typeIs,?_⟩
 exact HT.O2 c f g e (by grind) ⟨.ref a,H,I,rfl,q⟩
end
theorem Yk (l:Addr)(items:v7)(n:Nat)(dd:Option Addr)(sl:Array (u9))(x:Value)(e:Value->Bool)(j:Nat)(hj:j<items.size)
 (p:e items[j]=true) (hno:∀m (hm:m<items.size),m<j->e items[m]=false) :
 Meets (Builtin.«tuple.index» ⟨[.ref l,x],[]⟩)
  (λA R s=>s.heap.get? l=some { cls:=.type "tuple",dict:=dd,data:=.seq items n,slots:=sl }/\(∀y,y∈items->SeqAt.EqAt A.in1 s y x (e y))/\R (.ok (.ret (.int j s.toks))) { s with toks:=s.toks+1 }) :=
 .of_wp λf w A R s h=>by
  obtain⟨hp,g,d,tk,os⟩:=s;obtain⟨hl,he,h⟩:=h
  wp_walk using wpAny_loadPart' hl
  change wpAny _ _ (forIn (m:=Sem) [:min items.size items.size] ((none,()):Option Fin×Unit) _) _ _ _
  rw[Std.Legacy.Range.forIn_eq_forIn_range'];simp only[Std.Legacy.Range.size,cP,Nat.add_sub_cancel,Nat.div_one,eQ]
  refine wpAny_forIn_list _ (λa b s'=>b.1=none/\s'=⟨hp,g,d,tk,os⟩/\∃i,i<=j/\a=List.range' i (items.size-i)) _ ?_ ?_ _ _ ⟨rfl,rfl,0,aB _,rfl⟩
  ·rintro y a b s' ⟨hb,rfl,i,c,k⟩
   have o:i<items.size:=bD c hj;have hd:items.size-i=(items.size-(i+1))+1:=(Nat.succ_pred_eq_of_pos (Nat.sub_pos_of_lt o)).symm;rw[hd,List.range'_succ]at k
   cases k
   have hg:items[y]?=some items[y]:=by simp[o]
   simp only[hg]
   refine wpAny_bind (he _ (Array.getElem_mem o) f w _ _ ?_)
   rcases Nat.lt_or_eq_of_le c with lt | rfl
   ·rw[hno y o lt]
    wp_walk
    exact⟨rfl,rfl,y+1,lt,rfl⟩
   ·rw[p]
    wp_walk
    exact⟨_,rfl,h⟩
  ·rintro⟨b1,b2⟩ s' ⟨hb,rfl,i,c,k⟩
   have hz:=bA List.length k
   simp at hz
   lia
section
variable {X:Cx}
theorem A6v (y:Str){ss:v4} (r:Vals (ss.map V.str) us) (hm:m<us.length) (h2:m<ss.length):Bt5 y us[m]=(ss[m]==y):=by
 obtain⟨u,a,b⟩:=r.get (i:=m) (x:=V.str ss[m]) (by grind)
 obtain⟨t,rfl⟩:=b;rw[aU hm]at a
 injection a with a
 rw[a];rfl
def Zz (K:v9):V->m8->Hp->VK->Prop:=λx vs H Q=>∃(a:Addr) (ss:v4) (y:Str) (j:Nat),x=.ref a/\vs=[.str y]/\SqT K H a (ss.map V.str)/\ss[j]?=some y/\(∀m<j,ss[m]?≠some y)/\Q (.int (j:Nat)) H
theorem A2o:MtM X "tuple.index" (Zz X.K):=by
 intro i s σ H x vs v us Q I D A h;obtain⟨a,C,y,j,rfl,rfl,G,B,M,q⟩:=h
 cases D
 obtain⟨u,rfl,p⟩:=A.one;obtain⟨t,rfl⟩:=p;obtain⟨b,r,l,hz⟩:=I.tuple G
 obtain⟨o,e,k,n,f⟩:=(show s.heap.IsTuple a b.toArray from l)
 obtain⟨c0,dd,E,sl⟩:=o
 dsimp only at k f
 subst k f
 have c := by have:=r.length;simpa using this.symm
 obtain⟨g,ej⟩:=bz.mp B
 refine call_meets F.slot_tuple_index ⟨_,e,rfl⟩ F.entry_tuple_index (F.args_tuple_index_2 _ _) (Yk a _ n _ _ _ (Bt5 y) j (by simpa[c] using g) ?_ ?_) ⟨e,λw K=>?_,?_⟩
 ·have:=A6v y r (by lia) g
  simp_all
 ·intro m J L
  have:=A6v y r (by simpa using J) (by lia)
  grind
 ·obtain⟨z,t',rfl⟩:=Ay9 r w (by simpa using K)
  exact SeqAt.EqAt.str_str z _ y t
 ·exact⟨.int _,H,I.tok _,⟨_,rfl⟩,q⟩
theorem U0 (a:X.K=Kq):MtM X "tuple.index" (Zz Kq):=by
 subst a;exact A2o
end
section
def B6w (ks:v4)(xs:m8):List (Key×V):=(ks.zip xs).map λp=>((Sum.inr p.1:Key),p.2)
end
end L2
namespace L2
open PySem PySem.Spec PyProof.Rows PySem.W
section
open PySem.SeqAt
open PySem.AutoSeq1 (wpAny_loadPart')
open PySem.MeetsSeq PySem.MeetsSeq2 PySem.MeetsSeq3
theorem A5d (l b:Addr)(items c:v7)(n T:Nat)(dd D:Option Addr)(N G:Array (u9))(r:Bool)(k:Nat) :
 ∀
  (i:Nat) (vs z:w6),items.toList.drop i=vs->c.toList.drop i=z->i<=items.size->i<=c.size->vs.length=k->Meets (Builtin.«list.__eq__.loop» ⟨[.ref l,.ref b,rawInt i,rawInt 0],[]⟩)
  (λA R s=>s.heap.get? l=some { cls:=.type "list",dict:=dd,data:=.seq items n,slots:=N }/\s.heap.get? b=some { cls:=.type "list",dict:=D,data:=.seq c T,slots:=G } /\
   O1 false A.in1 s vs z r/\R (.ok (.ret (.bool r))) s):=by
 have m:∀{f:v7} {i:Nat},f.toList.drop i=[]->f[((i:Nat):Int).toNat]?=none:=λ{f i} e=>by
  have:=eU.mp e
  simp at this ⊢;lia
 have a:∀{f:v7} {i:Nat} {x:Value} {r:w6},f.toList.drop i=x::r->f[((i:Nat):Int).toNat]?=some x/\f.toList.drop (i+1)=r/\i<f.size:=λ{f i x r} e=>by
  have J:i<f.size:=by
   rcases Nat.lt_or_ge i f.size with h | h
   ·exact h
   ·rw[List.drop_eq_nil_of_le (by simpa using h)]at e;cases e
  rw[fP (by simpa using J)]at e
  injection e with e1 e2
  exact⟨by simp[J];simpa using e1,e2,J⟩
 induction k with
 | zero =>
  intro i vs z t q S P y j w A R s h;obtain⟨H,g,d,B,I⟩:=s;obtain⟨o,p,L,h⟩:=h;have C:vs=[]:=List.length_eq_zero_iff.mp y;subst C
  wp_walk using wpAny_loadPart' o,wpAny_loadPart' p
  rw[m t]
  have V:items.size=i:=by have:=eU.mp t;simp at this;lia
  wp_walk using wpAny_loadPart' o,wpAny_loadPart' p
  show R (.ok (.ret (.bool (decide (items.size<c.size))))) _
  have C:decide (items.size<c.size)=r:=by
   cases L with
   | nn=>have:=eU.mp q;simp at this;exact aH (by lia)
   | nc=>exact aK (by have:=(a q).2.2;lia)
  rw[C];exact h
 | succ k O =>
  intro i vs z t q S P y j w A R s h;obtain⟨H,g,d,B,I⟩:=s;obtain⟨o,p,L,h⟩:=h
  cases L with
  | nn=>cases y
  | nc=>cases y
  | cn =>
   wp_walk using wpAny_loadPart' o,wpAny_loadPart' p
   rw[(a t).1,m q]
   wp_walk using wpAny_loadPart' o,wpAny_loadPart' p
   show R (.ok (.ret (.bool (decide (items.size<c.size))))) _
   have:=(a t).2.2;have:=eU.mp q
   simp at this
   rw[aH (by lia)];exact h
  | eq K M =>
   have u:=a t;have v:=a q
   have U:((i:Int)+1)=((i+1:Nat):Int):=by push_cast;rfl
   wp_walk using wpAny_loadPart' o,wpAny_loadPart' p
   rw[u.1,v.1]
   refine wpAny_bind (K j w _ _ ?_)
   wp_walk
   rw[U]
   exact⟨plainId_quiet plain_eq_loop _,codeAny_builtin entry_eq_loop (by
    rw[Around.under_plainId plain_eq_loop _]
    exact O (i+1) _ _ u.2.1 v.2.1 u.2.2 v.2.2 (by simpa using y) j w A R _ ⟨o,p,M,h⟩)⟩
  | ne K M =>
   have u:=a t;have v:=a q
   wp_walk using wpAny_loadPart' o,wpAny_loadPart' p
   rw[u.1,v.1]
   refine wpAny_bind (K j w _ _ ?_)
   have F:∀(E:z_) (Q:z_),Q (.bool r) ⟨H,g,d,B,I⟩->wpAny (model j w) A.in1 (richCompare .Lt _ _) Q E ⟨H,g,d,B,I⟩:=M j w
   wp_walk using wpAny_loadPart' o,wpAny_loadPart' p
   rw[u.1,v.1]
   wp_walk using F
   simpa using h
theorem A2z (l b:Addr)(items a:v7)(n f:Nat)(dd e:Option Addr)(i c:Array (u9))(r:Bool) :
 Meets (Builtin.«list.__lt__» ⟨[.ref l,.ref b],[]⟩)
  (λA R s=>s.heap.get? l=some { cls:=.type "list",dict:=dd,data:=.seq items n,slots:=i }/\s.heap.get? b=some { cls:=.type "list",dict:=e,data:=.seq a f,slots:=c } /\
   O1 false A.in1 s items.toList a.toList r/\R (.ok (.ret (.bool r))) s):=by
 intro k w A R s h;obtain⟨q,g,d,t,u⟩:=s;obtain⟨j,m,o,h⟩:=h;have p:=AutoSeq1.sub_list_list
 wp_walk using wpAny_loadPart' j,wpAny_loadPart' m
 exact⟨plainId_quiet plain_eq_loop _,codeAny_builtin entry_eq_loop (by
  rw[Around.under_plainId plain_eq_loop _]
  exact A5d l b items a n f dd e i c r _ 0 _ _ rfl rfl (aB _) (aB _) rfl _ w A R _ ⟨j,m,o,h⟩)⟩
end
noncomputable def kEv {α:Type} (B:Nat->Nat->Option Bool):KasT α->Option α
 | .ret a=>some a
 | .ask i j k=>(B i j).bind λb=>kEv B (k b)
theorem A7t {α:Type}{cmp:Nat->Nat->(Bool->u_->Prop)->u_->Prop}{B:Nat->Nat->Option Bool}{s:u_}(hc:∀i j b C,B i j=some b->C b s->cmp i j C s){G:α->u_->Prop} :
 ∀(t:KasT α) (a:α),kEv B t=some a->G a s->t.kasWp cmp G s
 | .ret a,a',e,g=>by cases e;exact g
 | .ask i j k,a',e,g=>by
  obtain⟨b,e1,e2⟩:=bc.mp (show (B i j).bind (λb=>kEv B (k b))=some a' from e)
  exact hc i j b _ e1 (A7t hc (k b) a' e2 g)
noncomputable def As7 (b:Bool):t_->Bool
 | .tuple (.int _::_)=>b
 | .tuple (.tuple _::_)=>!b
 | _=>false
section
variable {prog:u6}{w:World}{A:q9}{E:z_}{s:u_}{b fin:Bool}{Q:Bool->u_->Prop}
theorem Ad2:∀{vs ws:w6}{r:Bool},O1 false A s vs ws r->∀i,(b&&i==0)=false->fin=decide (vs.length<ws.length)->Q r s->KatLex prog w A b fin Q (vs.zip ws) i s
 | _,_,_,.nn,i,_,hf,h=>by
  have e:fin=false:=hf;subst e;exact kat_nil h
 | _,_,_,.nc (y:=y) (ys:=ys),i,_,hf,h=>by
  have e:fin=true:=hf.trans (aK (by rw[bR,aF];lia))
  subst e;exact kat_nil h
 | _,_,_,.cn (x:=x) (xs:=xs),i,_,hf,h=>by
  have e:fin=false:=hf.trans (aH (by rw[bR,aF];lia))
  subst e;exact kat_nil h
 | _,_,_,.eq he hr,i,hi,hf,h=>kat_cons (he prog w _ _ (kat_yes (Ad2 hr (i+1) (by simp) (hf.trans (by simp)) h)))
 | _,_,_,.ne he hr,i,hi,hf,h=>kat_cons (he prog w _ _ (kat_no (by rw[hi];exact kat_one _ _ (hr prog w _ _ h))))
theorem B7c (m:ReadsAll s.heap us (.int i::xs) k) (o:ReadsAll s.heap vs (.int j::ys) bs) (p:PyData.canLayAll0 (.int i::xs)=true) (g:PyData.canLayAll0 (.int j::ys)=true)
 (hu:A.units+PyData.depthAll (.int i::xs)<cLine) (hc:Xe false (.int i::xs) (.int j::ys)=some r) (hf:fin=decide (us.length<vs.length)) (h:Q r s):KatLex prog w A true fin Q (us.zip vs) 0 s:=by
 cases m with
 | cons c l =>
  cases o with
  | cons d n =>
   have b:=au.mp p;have a:=au.mp g;have q:A.units+max (PyData.int i).depth (PyData.depthAll xs)<cLine:=hu
   have e:=SeqAt.eqAt_reads (.int i) (.int j) A s _ _ _ _ c d b.1 a.1 (by lia)
   rw[Xe]at hc
   by_cases he:PyData.eqv (.int i) (.int j)=true
   ·rw[if_pos he]at hc
    rw[he]at e
    exact kat_cons (e prog w _ _ (kat_yes (Ad2 (O8 false xs ys A s _ _ _ _ r l n b.2 a.2 (by lia) hc) 1 (by simp) (hf.trans (by simp)) h)))
   ·rw[if_neg he]at hc
    rw[fL _ |>.mp he]at e
    refine kat_cons (e _ w _ _ (kat_no ?_))
    cases c
    cases d
    have f := by simpa[Jw] using hc
    rw[<- f]at h;exact(kat_lt_int h:wpAny _ A _ Q _ s)
theorem Bd5 (t:Reads s.heap u a n) (x:Reads s.heap v d bs) (f:a.canLay0=true) (e:d.canLay0=true)
 (fa:As7 b a=true) (fb:As7 b d=true) (hu:A.units+a.depth<cLine) (hc:Jw false a d=some r) (h:Q r s):wpAny (model prog w) A (keyLt' (tuples' b) u v) Q E s:=by
 cases a with
 | tuple l =>
  cases d with
  | tuple m =>
   cases t with
   | tuple o B q g =>
    cases x with
    | tuple p z y k =>
     have c:A.units+(PyData.depthAll _+1)<cLine:=hu
     refine kat_lt o q p y ?_
     cases b with
     | false=>exact Ad2 (O8 _ _ _ A s _ _ _ _ r g k f e (by lia) hc) 0 rfl (by simp) h
     | true =>
      match l,m,fa,fb,g,k,f,e,c,hc with
      | .int i::l,.int j::m,_,_,g,k,f,e,c,hc=>exact B7c g k f e (by lia) hc (by simp) h
  | _=>cases fb
 | _=>cases fa
end
inductive Kd where
 | ti | tt | tl | ii | ll
noncomputable def Ow:Kd->t_->Bool
 | .ti,.tuple (.int _::_)=>true
 | .tt,.tuple (.tuple _::_)=>true
 | .tl,.tuple (.list _::_)=>true
 | .ii,.int _=>true
 | .ll,.list _=>true
 | _,_=>false
theorem Jf (h:Ow kd d=true):match kd with
 | .ti=>∃i xs,d=.tuple (.int i::xs)
 | .tt=>∃ys xs,d=.tuple (.tuple ys::xs)
 | .tl=>∃ys xs,d=.tuple (.list ys::xs)
 | .ii=>∃i,d=.int i
 | .ll=>∃xs,d=.list xs:=by
 unfold Ow at h
 split at h
 ·exact⟨_,_,rfl⟩
 ·exact⟨_,_,rfl⟩
 ·exact⟨_,_,rfl⟩
 ·exact⟨_,rfl⟩
 ·exact⟨_,rfl⟩
 ·cases h
noncomputable def kdK:Kd->SortKind
 | .ti=>tuples' true
 | .tt=>tuples' false
 | .tl=>tuples' true
 | .ii=>oneType'
 | .ll=>oneType'
def B3p (x y:t_):Option Bool:=match x,y with
 | .tuple (.list a::xs),.tuple (.list b::ys)=>if PyData.eqv (.list a) (.list b)=true then Xe false xs ys else Xe false a b
 | _,_=>none
def B5v (x y:t_):Option Bool:=match x,y with
 | .list a,.list b=>Xe false a b
 | _,_=>none
def B2n (kd:Kd)(x y:t_):Option Bool:=match kd with
 | .tl=>B3p x y
 | .ll=>B5v x y
 | _=>Jw false x y
def A4c (kd:Kd)(ds:w5)(i j:Nat):Option Bool:=match ds[i]?,ds[j]? with
 | some x,some y=>B2n kd x y
 | _,_=>none
section
variable {prog:u6}{w:World}{A:q9}{E:z_}{s:u_}{fin:Bool}{Q:Bool->u_->Prop}
theorem V6 (h1:s.heap.get? l=some o) (h2:o.cls=.type "list") (f:o.data=.seq items n) (g:s.heap.get? b=some c) (i:c.cls=.type "list") (k:c.data=.seq a p)
 (hx:O1 false A.in1 s items.toList a.toList r) (hu:A.units<cLine) (h:Q r s):wpAny (model prog w) A (oneLt' true (.ref l) (.ref b)) Q E s:=by
 obtain⟨q,u,m,v⟩:=o;obtain⟨t,j,d,e⟩:=c;subst h2 f i k
 refine wpAny_bind (wpAny_cRoomFor hu ?_)
 refine wpAny_bind (wpAny_callSpecialIfBound?_slot ⟨_,h1,rfl⟩ F.slot_list_lt (call_meets F.slot_list_lt ⟨_,h1,rfl⟩ F.entry_list_lt (F.args_list_lt_2 _ _) (A2z l b _ _ n _ _ _ _ _ r) ⟨h1,g,hx,?_⟩))
 exact wpAny_truthy_bool h
theorem B6u (k:ReadsAll s.heap us (.list a::xs) p) (m:ReadsAll s.heap vs (.list b::ys) bs) (o:PyData.canLayAll0 (.list a::xs)=true) (j:PyData.canLayAll0 (.list b::ys)=true)
 (hu:A.units+PyData.depthAll (.list a::xs)<cLine) (hc:B3p (.tuple (.list a::xs)) (.tuple (.list b::ys))=some r) (hf:fin=decide (us.length<vs.length)) (h:Q r s):KatLex prog w A true fin Q (us.zip vs) 0 s:=by
 cases k with
 | cons g l =>
  cases m with
  | cons f n =>
   have c:=au.mp o;have d:=au.mp j;have q:A.units+max (PyData.list a).depth (PyData.depthAll xs)<cLine:=hu;have C:(PyData.list a).depth=PyData.depthAll a+1:=rfl
   have e:=SeqAt.eqAt_reads (.list a) (.list b) A s _ _ _ _ g f c.1 d.1 (by lia)
   have hc:(if PyData.eqv (.list a) _=true then Xe _ _ _ else Xe _ a b)=some r:=hc
   by_cases he:PyData.eqv (.list a) (.list b)=true
   ·rw[if_pos he]at hc
    rw[he]at e
    exact kat_cons (e _ w _ _ (kat_yes (Ad2 (O8 _ _ _ A s _ _ _ _ r l n c.2 d.2 (by lia) hc) 1 (by simp) (hf.trans (by simp)) h)))
   ·rw[if_neg he]at hc
    rw[fL _ |>.mp he]at e
    refine kat_cons (e _ w _ _ (kat_no ?_))
    cases g with
    | list u v x t =>
     cases f with
     | list z y B i=>exact V6 u v x z y B (O8 _ a b _ s _ _ _ _ r t i c.1 d.1 (by grind) hc) (by lia) h
theorem Bp3 (d:Reads s.heap u a F) (e:Reads s.heap v l bs) (m:a.canLay0=true) (k:l.canLay0=true)
 (fa:Ow kd a=true) (fb:Ow kd l=true) (hu:A.units+a.depth<cLine) (hc:B2n kd a l=some r) (h:Q r s):wpAny (model prog w) A (keyLt' (kdK kd) u v) Q E s:=by
 have c:=Jf fa;have f:=Jf fb
 cases kd with
 | ti =>
  obtain⟨i,g,rfl⟩:=c;obtain⟨j,n,rfl⟩:=f;exact Bd5 (b:=true) d e m k rfl rfl hu hc h
 | tt =>
  obtain⟨i,g,rfl⟩:=c;obtain⟨j,n,rfl⟩:=f;exact Bd5 (b:=false) d e m k rfl rfl hu hc h
 | tl =>
  obtain⟨i,g,rfl⟩:=c;obtain⟨j,n,rfl⟩:=f
  cases d with
  | tuple t B x o =>
   cases e with
   | tuple p C q y =>
    refine kat_lt t x p q (B6u o y m k ?_ hc (by simp) h)
    have z:A.units+(PyData.depthAll (.list i::g)+1)<cLine:=hu;lia
 | ii =>
  obtain⟨i,rfl⟩:=c;obtain⟨j,rfl⟩:=f
  cases d
  cases e
  have D:decide (i<j)=r:=by simpa[B2n,Jw] using hc
  rw[<- D]at h;exact kat_lt_int h
 | ll =>
  obtain⟨g,rfl⟩:=c;obtain⟨n,rfl⟩:=f
  cases d with
  | list t B x o =>
   cases e with
   | list p C q y =>
    have z:A.units+(PyData.depthAll g+1)<cLine:=hu
    show wpAny (model prog w) A (keyLt' oneType' _ _) Q E s
    rw[keyLt'_oneType]
    exact V6 t B x p C q (O8 _ _ _ _ s _ _ _ _ r o y m k (by show A.units+1+_<_;lia) hc) (by lia) h
end
section
variable {M:Model}{A:q9}{E:z_}{s:u_}
noncomputable def tyK (b:Bool):Value:=if b then .type "int" else .type "tuple"
theorem Wj (r:ReadsAll h vs (d::ds) a):∃v as',vs[0]?=some v/\Reads h v d as':=by
 cases r with
 | cons c b=>grind
theorem Vr {h:Heap}{b:Bool}:∀{us:w6}{ds:w5}{as:v6},ReadsAll h us ds as->ds.all (As7 b)=true->∃fs,KatTups h us fs/\fs.length=us.length/\∀v∈fs,Looks M h (typeOf v) (tyK b)
 | _,_,_,.nil,_=>⟨[],trivial,rfl,λv z=>nomatch z⟩
 | _,_,_,.cons (d:=d) r1 r2,hb=>by
  obtain⟨h1,h2⟩:=au.mp (show (As7 b d&&_)=true from hb)
  obtain⟨fs,t,l,k⟩:=Vr r2 h2
  cases d with
  | tuple xs =>
   cases r1 with
   | tuple e1 e2 e3 e4 =>
    match xs,h1,e4 with
    | .int i::xs,h1,e4 =>
     obtain⟨v,as',f1,f2⟩:=Wj e4;have hb':b=true:=h1;subst hb'
     cases f2 with
     | int i t0=>
      exact⟨.int i t0::fs,KatTups.cons e1 e2 e3 (by rw[<- fQ];exact f1) t,by rw[aF,aF,l],λv hv=>by
       rcases az.mp hv with rfl | hv
       ·exact Looks.now
       ·exact k v hv⟩
    | .tuple ys::xs,h1,e4 =>
     obtain⟨v,as',f1,f2⟩:=Wj e4
     have hb':b=false:=by simpa[As7] using h1
     subst hb'
     cases f2 with
     | tuple g1 g2 g3 g4=>
      exact⟨_::fs,KatTups.cons e1 e2 e3 (by rw[<- fQ];exact f1) t,by rw[aF,aF,l],λv hv=>by
       rcases az.mp hv with rfl | hv
       ·have q:=(Looks.ld (M:=M) (part:=none) g1).andThen (f:=λo=>pure o.cls) .now
        rw[g2]at q;exact q
       ·exact k v hv⟩
  | _=>cases h1
theorem Ak6 (r:ReadsAll s.heap us ds a) (hb:ds.all (As7 b)=true) (d:0<us.length) (h:Q (tuples' b) s):wpAny M A (keyKind' us.toArray) Q E s:=by
 obtain⟨c,t,l,k⟩:=Vr r hb
 refine kat_kind t (by lia) k (by simp_all) ?_
 cases b <;> exact h
theorem Al7 {h:Heap}:∀{us:w6}{ds:w5}{as:v6},ReadsAll h us ds as->ds.all (Ow .tl)=true->∃fs,KatTups h us fs/\fs.length=us.length/\∀v∈fs,Looks M h (typeOf v) (.type "list")
 | _,_,_,.nil,_=>⟨[],trivial,rfl,λv z=>nomatch z⟩
 | _,_,_,.cons (d:=d) r1 r2,hb=>by
  obtain⟨h1,h2⟩:=au.mp (show (Ow .tl d&&_)=true from hb)
  obtain⟨fs,t,l,k⟩:=Al7 r2 h2;obtain⟨_,_,rfl⟩:=Jf h1
  cases r1 with
  | tuple e1 e2 e3 e4 =>
   obtain⟨v,as',f1,f2⟩:=Wj e4
   cases f2 with
   | list g1 g2 g3 g4=>
    exact⟨_::fs,KatTups.cons e1 e2 e3 (by rw[<- fQ];exact f1) t,by rw[aF,aF,l],λv hv=>by
     rcases az.mp hv with rfl | hv
     ·have q:=(Looks.ld (M:=M) (part:=none) g1).andThen (f:=λo=>pure o.cls) .now
      rw[g2]at q;exact q
     ·exact k v hv⟩
theorem Ah4 {h:Heap}:∀{us:w6}{ds:w5}{as:v6},ReadsAll h us ds as->ds.all (Ow .ll)=true->∀v∈us,Looks M h (typeOf v) (.type "list")
 | _,_,_,.nil,_,v,z=>nomatch z
 | _,_,_,.cons (d:=d) r1 r2,hb,v,hv=>by
  obtain⟨h1,h2⟩:=au.mp (show (Ow .ll d&&_)=true from hb)
  rcases az.mp hv with rfl | hv
  ·obtain⟨_,rfl⟩:=Jf h1
   cases r1 with
   | list g1 g2 g3 g4 =>
    have q:=(Looks.ld (M:=M) (part:=none) g1).andThen (f:=λo=>pure o.cls) .now
    rw[g2]at q;exact q
  ·exact Ah4 r2 h2 v hv
theorem ints_of {h:Heap}:∀{us:w6}{ds:w5}{as:v6},ReadsAll h us ds as->ds.all (Ow .ii)=true->∃ns,IntsAre us ns
 | _,_,_,.nil,_=>⟨[],.nil⟩
 | _,_,_,.cons (d:=d) r1 r2,hb=>by
  obtain⟨h1,h2⟩:=au.mp (show (Ow .ii d&&_)=true from hb)
  obtain⟨ns,t⟩:=ints_of r2 h2;obtain⟨_,rfl⟩:=Jf h1
  cases r1 with
  | int i t0=>exact⟨_::ns,.cons _ _ t⟩
theorem A1e : ∀{ds:w5},ds.all (Ow (if b then .ti else .tt))=true->ds.all (As7 b)=true:=λ{ds} h=>by
 rw[aL]at h ⊢;intro d a;have:=Jf (h d a)
 cases b
 ·obtain⟨_,_,rfl⟩:=this;rfl
 ·obtain⟨_,_,rfl⟩:=this;rfl
theorem A9z (r:ReadsAll s.heap us ds c) (hb:ds.all (Ow kd)=true) (a:2<=us.length) (h:Q (kdK kd) s):wpAny M A (keyKind' us.toArray) Q E s:=by
 cases kd with
 | ti=>exact Ak6 (b:=true) r (A1e hb) (by lia) h
 | tt=>exact Ak6 (b:=false) r (A1e hb) (by lia) h
 | tl =>
  obtain⟨e,t,l,k⟩:=Al7 r hb
  exact kat_kind t (by lia) k (by rfl) h
 | ii =>
  obtain⟨d,t⟩:=ints_of r hb
  rw[ksk_kind (by assumption) (by trivial)]
  exact wpAny_pure h
 | ll=>exact kas_kind a (Ah4 r hb) (by rfl) (by rfl) h
theorem Zv {body:Value->PUnit->Sem (ForInStep PUnit)}{Iv:w6->u_->Prop}(step:∀x rest s,Iv (x::rest) s->wpAny M A (body x ⟨⟩) (λr s'=>r=.yield ⟨⟩/\Iv rest s') E s) :
 ∀(l:w6) (s:u_),Iv l s->wpAny M A (forIn l PUnit.unit body) (λ_ s'=>Iv [] s') E s
 | [],s,h=>by rw[List.forIn_nil];exact wpAny_pure h
 | x::l,s,h=>by
  rw[dI]
  refine wpAny_bind (wpAny_mono (step x l s h) (λq s' hq=>?_) λ_ _ z=>z)
  obtain⟨rfl,h'⟩:=hq;exact Zv step l s' h'
end
section
variable {X:Cx}{pins:y_}{σ:St}{H:Hp}{s:u_}{h':Heap}
theorem Inv.adopt (I:Inv X pins σ H s) (k:∀b u,b≠D->s.heap.get? b=some u->h'.get? b=some u) (hn:H D=none) (h:D≠X.env.locals) (h1:X.s₀.heap.objs.size<=D)
 (h2:∀x c,X.env.cells.lookup x=some c->c≠D) (A:∀p∈X.pn++pins,p.1≠D) (i:zA X.prog X.w (upd H D o) h' D o):Inv X pins σ (upd H D o) { s with heap:=h',toks:=t' }:=by
 have a:∀b u,H b=some u->b≠D:=λb u e z=>by simp_all
 refine I.step (g':=s.gens) (d':=s.drawn) (ch:=[D]) (λb f=>?_) (λb o _ _ d e _=>k b o (λz=>d (by simp[z])) e) (λb o _ _ d e _=>⟨o.slots,k b o (λz=>d (by grind)) e⟩) (λb o d e n=>by rw[Ak (λz=>d (by simp[z]))];exact n)
  (λb o d e=>⟨o,k b o (λz=>d (by grind)) e⟩) (λb g e=>by rw[Ak (a _ _ e)];exact e) (λb _ _ e=>by rw[Ak (a _ _ e)];exact e) (λb y e=>by rw[Ak (a _ _ e)];exact e) (λm j=>?_) (λb u e=>?_) I.bare
 ·grind
 ·obtain⟨o,t,l,w,r⟩:=j
  exact⟨o,t,l,k _ o (aC h) w,r⟩
 ·by_cases f:b=D
  ·subst f;rw[Bd]at e;grind
  ·rw[Ak f]at e
   refine (I.hok b u e).stay (λc v d q=>k c v ?_ q) (λc q=>by rw[Ak (a _ _ q)];exact q) (λc g q=>by rw[Ak (a _ _ q)];exact q) λc B g q=>by rw[Ak (a _ _ q)];exact q
   grind
theorem Bq9 (F:FnOk X.prog X.w X.K X.mg X.base CX0 k f a ps sp) (hr:Room (k+2) X.A) (hb:Binds X.K a ps [])
 (I:Inv X pins σ H s) (r:Vals vs us) (h:sp vs H Q E0):wpAny (model X.prog X.w) X.A.in1.in1 (call (.ref f) us) (EP X pins σ Q) E s:=by
 have c:(us++[]).length=ps.length:=by rw[cA,<- r.length];exact F.len _ _ _ _ h
 refine wpAny_call (codeAny_mono (F.run _ _ s H _ _ _ Q _ hr.in1.in1 I.env0.in1.in1 (hb s _ I.kIn c) (by grind) h) λr g d=>?_)
 cases r with
 | error e=>trivial
 | ok b =>
  cases b with
  | ret u=>exact I.after d
  | next=>assumption
  | brk=>assumption
  | cont=>trivial
end
def Ak0 (Ky:V->Hp->VK->Prop):m8->m8->Hp->(m8->Hp->Prop)->Prop
 | [],ks,H,k=>k ks H
 | x::xs,ks,H,k=>Ky x H (λkv H1=>Ak0 Ky xs (ks++[kv]) H1 k)
abbrev A0o (sp:Sp):m8->m8->Hp->(m8->Hp->Prop)->Prop:=Ak0 λx H Q=>sp [x] H Q E0
def A3l (vs ks:m8)(H:Hp)(Q:VK):Prop :=
 (vs.length<2/\∀p,H p=none->Q (.ref p) (upd H p (.lst vs))) \/
 (2<=vs.length/\vs.length<64/\∃ds kd p,TrL H ds ks/\ds.all (Ow kd)=true/\(∀d∈ds,Flat d)/\kEv (A4c kd ds) (kas_sort vs.length)=some p/\∀l,H l=none->Q (.ref l) (upd H l (.lst (p.toList.map λi=>vs.getD i .non))))
theorem Az4:∀{vs:m8}{us:w6},Vals vs us->∀i,RelV (vs.getD i .non) (us.getD i Value.none)
 | _,_,.nil,i=>rfl
 | _,_,.cons r rs,0=>r
 | _,_,.cons r rs,i+1=>Az4 rs i
theorem Yx {vs:m8}{us:w6}(r:Vals vs us):∀l:List Nat,Vals (l.map λi=>vs.getD i .non) (l.map λi=>us.getD i Value.none)
 | []=>.nil
 | i::l=>.cons (Az4 r i) (Yx r l)
theorem Ys {v:V}{u:Value}(h:RelV v u):∀{vs:m8}{us:w6},Vals vs us->Vals (vs++[v]) (us++[u])
 | _,_,.nil=>.cons h .nil
 | _,_,.cons r rs=>.cons r (Ys h rs)
theorem Vf {h:Heap}:∀{us:w6}{ds:w5}{as:v6},ReadsAll h us ds as->∀{i:Nat}{d:t_},ds[i]?=some d->∃as',Reads h (us.getD i Value.none) d as'
 | _,_,_,.nil,i,d,e=>by simp at e
 | _,_,_,.cons r rs,0,d,e=>by simp at e;subst e;exact⟨_,r⟩
 | _,_,_,.cons r rs,i+1,d,e=>Vf rs (by simpa using e)
section
variable {X:Cx}{pins:y_}{σ:St}{H:Hp}{s:u_}{D S:Addr}{e1 n:Nat}{Q:VK}{P:PySem.Fin->u_->Prop}{E:z_}{A:q9}
theorem Zg {d ous:w6} {st:SortSt}(O:X.s₀.heap.objs.size<=D) (G:X.s₀.heap.objs.size<=S) (w:D≠S) (hp:∀p∈X.pn++pins,p.1≠S/\p.1≠D)
 (I:Inv X (pins++[(S,seqObj "list" d.toArray n),(D,seqObj "list" #[] e1)]) σ H s) (hz:outs.length<=sizeLine) (hk:d.length<=sizeLine)
 (ho:(arrOf st).map (·.2)=List.toArray ous) (hf:failedOf st=none) (B:Vals outs ous) (q:∀l,H l=none->Q (.ref l) (upd H l (.lst outs)))
 (F:∀s',EP X pins σ Q (.ref D) s'->P (.done (.ret .none)) s'):wpAny (model X.prog X.w) A (ksk_tail D false e1 (.ref S) st) P E s:=by
 obtain⟨j,k,m,J,N⟩:=I.pin (S,seqObj "list" d.toArray n) (aq _ (aq _ aP));obtain⟨r,g,h,R,T⟩:=I.pin (D,seqObj "list" #[] e1) (aq _ (aq _ (aW _ aP)))
 have f:∀x c,X.env.cells.lookup x=some c->c≠S/\c≠D:=λx c e=>by
  obtain⟨v,U,ho,K⟩:=I.cell x c e
  grind
 have L:Inv X pins σ H s:=I.pins_of λp hp=>I.pin p (aq _ (aZ _ hp))
 have M:Inv X pins σ H { s with heap:=s.heap.update S (Obj.mapSeq λ_=>#[]) }:=L.turned (t':=s.toks) (λb o i e=>(Heap.get?_update_other s.heap _ (aC i)).trans e) k m (.inr G) (λx c e=>(f x c e).1) (λp a=>(hp p a).1)
 have t:(s.heap.update S (Obj.mapSeq λ_=>(#[]:v7))).get? D=some (seqObj "list" #[] e1):=(Heap.get?_update_other s.heap _ (aC w)).trans r
 obtain⟨C,y⟩:∃C,((s.heap.update S (Obj.mapSeq _)).update D (Obj.mapSeq λ_=>ous.toArray)).get? D=some _:=⟨_,get?_update_seq t _⟩
 have z:=B.length;unfold ksk_tail;rw[ho]
 refine wpAny_bind (listUpdate_at j rfl ?_ (by simp_all) (aB _))
 refine wpAny_bind (wpAny_letGo ?_)
 refine wpAny_bind (seqEpoch_at t rfl ?_)
 refine wpAny_bind (listUpdate_at t rfl ?_ (aB _) (by grind))
 rw[hf]
 simp
 refine wpAny_pure (F _ ⟨.ref D,upd H D _,?_,rfl,q D g⟩)
 exact M.adopt (λb u i e=>(Heap.get?_update_other _ _ (aC i)).trans e) g h O (λx c e=>(f x c e).2) (λp a=>(hp p a).2) ⟨hz,ous,C,B,y⟩
theorem Ba1 (hu:A.units+64<cLine) (R:X.s₀.heap.objs.size<=D) (M:X.s₀.heap.objs.size<=S) (h:D≠S) (hp:∀p∈X.pn++pins,p.1≠S/\p.1≠D)
 (I:Inv X (pins++[(S,seqObj "list" a.toArray n),(D,seqObj "list" #[] e1)]) σ H s) (hz:vs.length<=sizeLine) (m:Vals vs us) (rk:Vals ks a) (hl:a.length=us.length) (hw:A3l vs ks H Q)
 (L:∀d,EP X pins σ Q (.ref D) d->P (.done (.ret .none)) d):wpAny (model X.prog X.w) A (ksk_end D false us.toArray e1 (.ref S) a.toArray) P E s:=by
 have k:=m.length;unfold ksk_end;simp only[cM,bJ]
 rcases hw with ⟨Z,q⟩ | ⟨Z,U,w,T,p,t,u,g,f,q⟩
 ·have b:us.toArray.size<2:=by rw[bB];lia
  rw[if_pos b,if_pos b]
  refine wpAny_bind (wpAny_pure ?_)
  rw[StateT.run_pure]
  refine wpAny_bind (wpAny_pure ?_)
  refine Zg R M h hp I hz (by lia) ?_ rfl m q L
  show (a.toArray.zip us.toArray).map (·.2)=us.toArray
  apply Array.ext';simp only[Array.toList_map,Array.toList_zip]
  exact List.map_snd_zip (l₁:=a) (l₂:=us) (by lia)
 ·have b:¬ us.toArray.size<2:=by rw[bB];lia
  rw[if_neg b,if_neg b];obtain⟨as,v⟩:=t.reads I rk
  refine wpAny_bind (A9z v u (by lia) ?_)
  have o:us.length<64:=by lia
  rw[k]at f
  refine wpAny_bind (wpAny_mono (kat_run (Q:=λc d=>d=s/\arrOf c=p.map (kas_item (a.toArray.zip us.toArray))/\failedOf c=none/\p.size=us.length) (G:=λF d=>F=p/\d=s) hl (by lia) o (λF c d y K a3 a4=>?_) (A7t (B:=A4c T w) (λi j r C e W=>?_) _ p f ⟨rfl,rfl⟩)) ?_ λ_ _ z=>z)
  ·obtain⟨rfl,rfl⟩:=a4
   exact⟨rfl,K,a3,y⟩
  ·unfold A4c at e
   cases ei:w[i]? with
   | none=>rw[ei]at e;cases e
   | some di =>
    cases ej:w[j]? with
    | none=>rw[ei,ej]at e;cases e
    | some dj =>
     rw[ei,ej]at e;obtain⟨y,r1⟩:=Vf v ei;obtain⟨K,r2⟩:=Vf v ej;have J := bG ei;have O := bG ej;have N:=g _ J
     exact Bp3 r1 r2 N.1 (g _ O).1 (aL.mp u _ J) (aL.mp u _ O) (by have:=N.2;lia) e W
  ·rintro⟨⟨⟩,c⟩ d ⟨rfl,x,hf,Y⟩
   refine Zg R M h hp I ?_ (by lia) (kat_snds hl x) hf (Yx m _) q L
   rw[ao,dY];lia
def B4t (X:Cx)(pins:y_)(σ:St)(f:Addr)(Z:Hp->Prop)(Ky:V->Hp->VK->Prop):Prop :=
 ∀(pins':y_) (s:u_) (H:Hp) (x:V) (u:Value) (Q':VK),Inv X (pins++pins') σ H s->Z H->RelV x u->Ky x H Q'->wpAny (model X.prog X.w) X.A.in1.in1 (call (.ref f) [u]) (EP X (pins++pins') σ λv H'=>Z H'/\Q' v H') (λ_ _=>False) s
theorem A3k (q:B4t X pins σ f Z C) (hr:Room (k+2) X.A)
 (U:X.s₀.heap.objs.size<=D) (J:X.s₀.heap.objs.size<=S) (t:D≠S) (hp:∀p∈X.pn++pins,p.1≠S/\p.1≠D)
 (I:Inv X (pins++[(S,seqObj "list" #[] 0),(D,seqObj "list" #[] e1)]) σ H s) (hZ:Z H) (hz:vs.length<=sizeLine) (o:Vals vs us) (h:Ak0 C vs [] H (λks c=>A3l vs ks c Q))
 (hP:∀r,EP X pins σ Q (.ref D) r->P (.done (.ret .none)) r):wpAny (model X.prog X.w) X.A.in1.in1 (ksk_rest D (.ref f) false us.toArray e1 (.ref S)) P E s:=by
 have G:=o.length;unfold ksk_rest
 refine wpAny_bind (wpAny_rule ?_)
 rw[<- Array.forIn_toList]
 refine wpAny_bind (wpAny_mono (Zv (Iv:=λb s=>∃ks a n c i,Inv X (pins++[(S,seqObj "list" (List.toArray a) n),(D,seqObj "list" #[] e1)]) σ c s/\Vals ks a/\Vals i b/\a.length+b.length=us.length/\Z c/\Ak0 C i ks c (λks c=>A3l vs ks c Q)) ?_ us s ⟨[],[],0,H,vs,I,.nil,o,by simp,hZ,h⟩) (λ_ r T=>?_) λ_ _ z=>z)
 ·rintro x b s ⟨ks,a,n,c,i,g,u,w,K,e,m⟩
  rw[aF]at K
  cases w with
  | cons N Y =>
   refine wpAny_bind (wpAny_attempt (wpAny_mono (q _ s c _ x _ g e N m) (λj s2 h2=>?_) λ_ _ z=>z.elim))
   obtain⟨O,R,L,A,B,y⟩:=h2;obtain⟨l,t2,t3,W,t5⟩:=L.pin (S,seqObj "list" a.toArray n) (aq _ (aq _ aP))
   have ea:(List.toArray a).push j=List.toArray (a++[j]):=by simp
   dsimp only
   refine wpAny_bind (listUpdate_at l rfl ?_ (by rw[bB];lia) (by rw[Array.size_push,bB];lia))
   have M:=get?_update_seq l (·.push j)
   rw[ea]at M
   refine wpAny_pure ⟨rfl,ks++[O],a++[j],_,R,_,L.recS J (λp d=>?_) (λp d=>(hp p (aZ _ d)).1) M (λv z=>by cases z),Ys A u,Y,?_,B,y⟩
   ·grind
   ·rw[bh,cW];lia
 ·obtain⟨ks,a,n,c,i,g,u,F,K,e,m⟩:=T
  cases F
  obtain⟨l,t2,t3,W,t5⟩:=g.pin _ (aq _ (aq _ aP))
  refine wpAny_bind (listItems_at l rfl ?_)
  have hu:X.A.in1.in1.units+64<cLine:=by have:=hr.un;show X.A.units+1+1+64<_;lia
  exact Ba1 hu U J t hp g hz o u (by omega) m hP
theorem As6 (F:B4t X pins σ f Z N) (hr:Room (k+2) X.A)
 (I:Inv X pins σ H s) (hZ:Z H) (A:SqL X.K H a vs\/SqT X.K H a vs) (h:Ak0 N vs [] H (λks H1=>A3l vs ks H1 Q)) :
 wpAny (model X.prog X.w) X.A (call (.builtin "sorted") [.ref a] [(Str.ofString "key",.ref f)]) (EP X pins σ Q) E s:=by
 obtain⟨d,T,o,n,t,hT,ho,J,hd,w⟩:∃(d:w6) (T:String) (o:Obj) (n:Nat),Vals vs d/\(T = "list" \/ T = "tuple")/\s.heap.get? a=some o/\o.cls=.type T/\o.data=.seq d.toArray n/\vs.length<=sizeLine:=by
  rcases A with A | A
  ·obtain⟨d,t,⟨o,n,r,j,c,g4⟩,w⟩:=I.list A
   exact⟨d, "list",o,n,t,.inl rfl,r,j,by first | exact c | exact g4,w⟩
  ·obtain⟨d,t,it,w⟩:=I.tuple A
   obtain⟨o,r,j,n,c⟩:=it;exact⟨d, "tuple",o,n,t,.inr rfl,r,j,c,w⟩
 have O:=t.length
 refine call_function_entry_kw kind_sorted plain_sorted entry_sorted (ksk_s1 _ _) ?_
 unfold Builtin.«sorted»
 refine wpAny_bind (m:=checkCount "sorted" 1 1 _) (wpAny_pure ?_)
 refine wpAny_bind (wpAny_collect_seq a hT ho J hd (λg U=>?_) (by rw[bB];lia))
 refine wpAny_bind (wpAny_newList ?_ (by simp;lia))
 have l:Inv X pins σ H { s with heap:=g }:=I.kept (t':=s.toks) U
 have le:∀b o,s.heap.get? b=some o->b<g.objs.size:=λb o e=>Heap.lt_size (U b o e)
 have P:X.s₀.heap.objs.size<=g.objs.size:=l.sz;generalize hg1:g.push (seqObj "list" d.toArray 0)=r
 have W:r.objs.size=g.objs.size+1:=by rw[<- hg1,size_push']
 have B:r.get? g.objs.size=some (seqObj "list" d.toArray 0):=by rw[<- hg1];exact Heap.get?_push_size _ rfl
 refine wpAny_bind (wpAny_holding (wpAny_call_entry_kw slot_list_sort ⟨_,B,rfl⟩ entry_list_sort ?_ (ksk_l1 _ _)))
 show wpAny (model X.prog X.w) X.A.in1.in1 (Builtin.«list.sort» ⟨[.ref g.objs.size],[(Str.ofString "key",.ref f)]⟩) _ _ _
 rw[ksk_t1];unfold ksk_tree
 refine wpAny_bind (listItems_at B rfl ?_)
 refine wpAny_bind (listUpdate_at B rfl ?_ (by rw[bB];lia) (aB _))
 generalize hg2:r.update g.objs.size (Obj.mapSeq λ_=>(#[]:v7))=j
 obtain⟨C,x⟩:∃C,j.get? g.objs.size=some (seqObj "list" #[] C):=⟨_,by rw[<- hg2];exact get?_update_seq B λ_=>#[]⟩
 have Y:j.objs.size=g.objs.size+1:=by rw[<- hg2,Heap.size_update,W]
 refine wpAny_bind (seqEpoch_at x rfl ?_)
 refine wpAny_bind (wpAny_newTuple ?_ (by simp;lia))
 refine wpAny_bind (wpAny_newList ?_ (aB _))
 refine wpAny_holding ?_
 generalize hg3:j.push { cls:=.type "tuple",data:=.seq d.toArray.toList.toArray }=c
 have e3:c.objs.size=g.objs.size+2:=by rw[<- hg3,Heap.size_push,Y]
 have M:=l.fpOk (b:=g.objs.size) (ak _) (l.hok.fresh (ak _))
 have G:=l.fpOk (b:=c.objs.size) (by show g.objs.size<=_;lia) (l.hok.fresh (by show g.objs.size<=_;lia))
 have y:∀b u,g.get? b=some u->(c.push { cls:=.type "list",data:=.seq ([]:w6).toArray }).get? b=some u:=λb u e=>by
  have K:b<g.objs.size:=Heap.lt_size e
  have q1:r.get? b=some u:=by rw[<- hg1];exact Heap.get?_push_of_some _ e
  have q2:j.get? b=some u:=by rw[<- hg2];exact(Heap.get?_update_other _ _ (bw K)).trans q1
  have q3:c.get? b=some u:=by rw[<- hg3];exact Heap.get?_push_of_some _ q2
  exact Heap.get?_push_of_some _ q3
 have R:Inv X pins σ H { s with heap:=c.push { cls:=.type "list",data:=.seq ([]:w6).toArray } }:=l.kept (t':=s.toks) y
 have gS:(c.push { cls:=.type "list",data:=.seq ([]:w6).toArray }).get? c.objs.size=some (seqObj "list" #[] 0):=Heap.get?_push_size _ rfl
 have L:(c.push { cls:=.type "list",data:=.seq ([]:w6).toArray }).get? g.objs.size=some (seqObj "list" #[] C):=Heap.get?_push_of_some _ (by rw[<- hg3];exact Heap.get?_push_of_some _ x)
 have I3:Inv X (pins++[(c.objs.size,seqObj "list" #[] 0),(g.objs.size,seqObj "list" #[] C)]) σ H { s with heap:=c.push { cls:=.type "list",data:=.seq ([]:w6).toArray } }:=R.pins_of λp i=>by
  rcases aX.mp i with z | z
  ·exact R.pin p (aq _ z)
  ·rcases az.mp z with rfl | z
   ·exact⟨gS,G.1,G.2.1,G.2.2.1,λv z=>by cases z⟩
   ·rw[aJ.mp z]
    exact⟨L,M.1,M.2.1,M.2.2.1,λv z=>by cases z⟩
 refine A3k (us:=d) (D:=g.objs.size) (S:=c.objs.size) F hr P (aj P (by lia)) (λz=>by have z:g.objs.size=c.objs.size:=z;lia) (λp i=>⟨λz=>?_,λz=>?_⟩) I3 hZ w t h λs' q=>⟨_,rfl,wpAny_pure ⟨_,rfl,q⟩⟩
 ·exact absurd (Heap.lt_size (l.pin p i).1) (by rw[z];show ¬ c.objs.size<g.objs.size;lia)
 ·exact absurd (Heap.lt_size (l.pin p i).1) (by rw[z];show ¬ g.objs.size<g.objs.size;lia)
theorem Aq9 (F:FnOk X.prog X.w X.K X.mg X.base CX0 k f c ps sp) (hr:Room (k+2) X.A) (hb:Binds X.K c ps [])
 (I:Inv X pins σ H s) (g:SqL X.K H a vs\/SqT X.K H a vs) (h:A0o sp vs [] H (λks e=>A3l vs ks e Q)) :
 wpAny (model X.prog X.w) X.A (call (.builtin "sorted") [.ref a] [(Str.ofString "key",.ref f)]) (EP X pins σ Q) E s :=
 As6 (λb s H x u m I _ r j=>wpAny_mono (Bq9 F hr hb I (.cons r .nil) j) (λ_ _ ⟨v,i,l,d,q⟩=>⟨v,i,l,d,trivial,q⟩) λ_ _ z=>z) hr I trivial g h
end
section
variable {X:Cx}{p pos:Pos}{e:Expr}{t tk:TA}{kws:List Keyword}
def B1w (K:v9)(f:Addr)(sp:Sp)(t tk:TA):TE:=λσ H Q=>t σ H λvs H1=>tk σ H1 λzs H2=>∃a xs,vs=[.ref a]/\zs=[.ref f]/\(SqL K H2 a xs\/SqT K H2 a xs)/\A0o sp xs [] H2 (λks H3=>A3l xs ks H3 Q)
theorem Be9 (F:FnOk X.prog X.w X.K X.mg X.base CX0 k f c ps sp) (hr:Room (k+2) X.A) (hb:Binds X.K c ps []) (hg:Gl X "sorted") (hm:X.mg "sorted" = none)
 (ha:PA X [e] t) (hkw:PK X kws tk) (hall:(backToKw pos (keywordEach kws X.env)).all (·.1.isSome)=true:=by rfl) (hks:(backToKw pos (keywordEach kws X.env)).filterMap (·.1)=[Str.ofString "key"]:=by rfl)
 (he:backTo pos (starEach [e] X.env)=(false,eval e X.env)::backTo pos (starEach [] X.env):=by rfl) (hpl:(backTo pos (starEach [e] X.env)).any (·.1)=false:=by rfl) (hno:(backToKw pos (keywordEach kws X.env)).any (·.1.isNone)=false:=by rfl) :
 PE X (.Call (.Name "sorted" p) [e] kws pos) (B1w X.K f sp t tk):=by
 intro b s σ H Q I h
 refine wpAny_Call_Name_kw (Kl I hg hm boot_sorted ?_ (by decide) (by rfl))
 refine fM (thn (ha _ _ s _ H _ I h) λus s1 ⟨vs,H1,j,r,q⟩=>?_) he hpl hall hno
 refine thn (hkw _ _ _ _ _ _ j q) λws s2 ⟨zs,H2,i,l,g⟩=>?_
 obtain⟨a,xs,rfl,rfl,n,m⟩:=g;obtain⟨u,rfl,o⟩:=vals1 r
 cases (o)
 obtain⟨uf,rfl,d⟩:=vals1 l
 cases (d)
 rw[hks];exact Aq9 F hr hb i n m
theorem A8g (a:X.K=Kq) (F:FnOk X.prog X.w X.K X.mg X.base CX0 k f b ps sp) (hr:Room (k+2) X.A) (hb:Binds X.K b ps []) (hg:Gl X "sorted") (hm:X.mg "sorted" = none)
 (ha:QA X [e] t) (hkw:QK X kws tk) (hall:(backToKw pos (keywordEach kws X.env)).all (·.1.isSome)=true:=by rfl) (hks:(backToKw pos (keywordEach kws X.env)).filterMap (·.1)=[Str.ofString "key"]:=by rfl)
 (he:backTo pos (starEach [e] X.env)=(false,eval e X.env)::backTo pos (starEach [] X.env):=by rfl) (hpl:(backTo pos (starEach [e] X.env)).any (·.1)=false:=by rfl) (hno:(backToKw pos (keywordEach kws X.env)).any (·.1.isNone)=false:=by rfl) :
 QE X (.Call (.Name "sorted" p) [e] kws pos) (B1w Kq f sp t tk):=by
 subst a;exact⟨Be9 F hr hb hg hm ha.get hkw.get hall hks he hpl hno⟩
end
end L2
namespace L2
open PySem PySem.Spec PyProof.Rows
noncomputable def Be0:Value->Bool
 | .bool b=>b
 | _=>false
theorem A0h:∀{bs:List Bool}{us:w6},Vals (bs.map V.bl) us->us=bs.map Value.bool
 | [],us,h=>by cases h;rfl
 | b::bs,us,h=>by
  cases h with
  | cons r rs =>
   rw[A0h rs]
   cases r;rfl
section
variable {X:Cx}
def A0z (K:v9):V->m8->Hp->VK->Prop:=λx vs H Q=>∃(a:Addr) (bs:List Bool) (j:Nat),x=.ref a/\vs=[.bl true]/\SqL K H a (bs.map V.bl)/\bs[j]?=some true/\(∀m<j,bs[m]?≠some true)/\j<1000000/\Q (.int j) H
theorem A4l {Kq:v9}(hKq:X.K=Kq)(hu:X.A.units+64<cLine):MtM X "list.index" (A0z Kq):=by
 subst hKq;intro pins s σ H x vs v us Q I rx rv h;obtain⟨a,bs,j,rfl,rfl,hq,hj,hno,hjs,q⟩:=h
 cases rx
 obtain⟨u,rfl,ru⟩:=rv.one
 cases ru
 obtain⟨its,r,pl,hz⟩:=I.list hq
 cases A0h r
 obtain⟨o,n,e,hc,hdn,hd⟩:=pl;obtain⟨c0,dd,dat,sl⟩:=o
 dsimp only at hc hd hdn
 subst hc hd hdn;obtain⟨lj,ej⟩:=bz.mp hj
 refine call_meets F.slot_list_index ⟨_,e,rfl⟩ F.entry_list_index (F.args_list_index_2 _ _) (SeqAt.list_indexAt a (bs.map Value.bool).toArray n none sl (.bool true) Be0 j (by simpa using lj) (by lia) ?_ ?_) ⟨e,λw hw=>?_,?_⟩
 ·simp[Be0,ej]
 ·intro m hm hlt
  have hm':m<bs.length:=by simpa using hm
  have h2:=hno m hlt;rw[aU hm']at h2
  simpa[Be0] using h2
 ·obtain⟨b,hb,rfl⟩:∃b∈bs,Value.bool b=w:=by simpa using hw
  have:=SeqAt.eqAt_reads (.bool b) (.bool true) X.A.in1 s _ _ _ _ (.bool b) (.bool true) rfl rfl (by show X.A.units+1+0<_;lia)
  cases b <;> exact this
 ·exact⟨.int _,H,I.tok _,⟨_,rfl⟩,q⟩
end
section
variable {X:Cx}
def B6e:V->q_->q_->Hp->VK->Prop:=λx lo hi H Q=>∃z:Str,x=.str z/\z.length<=sizeLine/\Q (.str (Txt.slice z lo hi)) H
theorem part_of (h:IsPart v o):∃p:Option (Int×Tok),v=partValue p/\p.map (·.1)=o:=by
 cases h with
 | none=>exact⟨none,rfl,rfl⟩
 | int i t=>exact⟨some (i,t),rfl,rfl⟩
theorem B2k:SlR X B6e:=by
 intro a s σ H x v vl vu lo hi sl Q I d c b e h;obtain⟨z,rfl,f,q⟩:=h;obtain⟨t,rfl⟩:=d;obtain⟨l,rfl,rfl⟩:=part_of b;obtain⟨u,rfl,rfl⟩:=part_of e
 refine⟨"str",_,F.slot_str_getitem.lookup,typeIs_str _ _ _,wpAny_getItem_str_slice (l:=l) (u:=u) (st:=none) c rfl ?_⟩
 exact post_val_or_str ⟨aj (Txt.slice_le z _ _) f,λt' k=>⟨.str _,H,I.tok _,⟨_,rfl⟩,q⟩⟩
end
end L2
namespace L2
open PySem PySem.Spec PyProof.Rows PySem.W
section
variable {P:u6}{w:World}{H H':Hp}{h h1 h2 B:Heap}{a b:Addr}{o:HO}{outer:List Env}
theorem zA.there (x:zA P w H h a o):∃u,h.get? a=some u:=by
 cases o with
 | lst d=>obtain⟨_,_,_,_,e⟩:=x;grind
 | tup d=>obtain⟨_,_,_,o,e,_⟩:=x;grind
 | dK b=>obtain⟨_,_,_,_,o,_,_,e,_⟩:=x;grind
 | dT b=>exact x.elim
 | set S n=>obtain⟨o,_,_,_,e,_⟩:=x;grind
 | ins C g c=>obtain⟨_,_,_,e,_⟩:=x;grind
 | own y=>exact x
 | xd c=>obtain⟨_,⟨_,_,_,e,_⟩,_⟩:=x;grind
 | rng j k=>obtain⟨_,_,_,e⟩:=x;grind
 | frz l u=>obtain⟨e,_⟩:=x;grind
 | tbl q=>obtain⟨_,e,_⟩:=x;grind
 | met f y=>exact⟨_,(x)⟩
 | ext i=>exact x.2.1
def Cov (fs:v6)(H':Hp)(h0 h B:Heap):Prop:=∀b o,h.get? b=some o->b∉fs->((∃u,h0.get? b=some u)\/H' b≠none)->B.get? b=some o
theorem B2t (u:Un (frs outer) [] H H' h h1)(hk:HOk P w H' h1)(i:Cov (frs outer) H' h h1 B)(r:h1.FunFrames B outer)(k:∀b∈frs outer,H' b=none)(st:B.StaysIn h2)(s:h1.UpToSlots h2) :
 Un (frs outer) [] H H' h h2/\HOk P w H' h2:=by
 have f:∀b:Addr,b∉([]:List _):=λb z=>nomatch z
 refine⟨⟨λb o e n c _=>st b o (i b o (u.keep b o e n c (f b)) c (.inl ⟨o,e⟩)),λb o e n c _=>?_,λb o e n _=>u.free b o e n (f b),λb o e _=>?_,u.tups,u.frzs,u.tbls⟩,λa o e=>?_⟩
 ·obtain⟨y,d⟩:=u.slot b o e n c (f b)
  obtain⟨_,p,g,l⟩:=r.mem c;rw[d]at g;cases g;obtain⟨j,v⟩:=s b _ d l
  grind
 ·obtain⟨p,d⟩:=u.there b o e (f b)
  by_cases c:b∈frs outer
  ·obtain⟨_,A,g,l⟩:=r.mem c
   obtain⟨j,v⟩:=s b _ g l
   grind
  ·exact⟨p,st b _ (i b _ d c (.inl ⟨o,e⟩))⟩
 ·have m := λb u t e=>st b u (i b u e (λz=>t (k b z)) (.inr t))
  refine (hk a o e).stay (λb u C x=>m b u ?_ x) (λ_ q=>q) λ_ _ q=>q
  grind
end
def TrD (h B:Heap)(e:Addr)(c:Value)(d:Option Addr)(fl:Value):Prop :=
 ∃oe vs T oT ts,h.get? e=some oe/\(oe.cls=c/\oe.dict=d)/\oe.data=.fields vs/\vs[1]?=some (.ref T)/\(B.get? T=none/\T≠e)/\h.get? T=some oT/\oT.data=.fields ts/\ts[3]?=some fl
structure FlyD (B:Heap) (l:List Env) (e:Addr) (c:Value) (d:Option Addr) (fl:Value) (h:Heap):Prop where
 st:B.StaysIn h
 no:B.get? e=none
 ff:h.FunFrames B l
 tr:TrD h B e c d fl
theorem Wq (o:Obj)(f:v7->v7):(o.mapFields f).dict=o.dict:=by
 obtain⟨c,d,a,b⟩:=o
 cases a <;> rfl
section
variable {M:Model}{A:q9}{E:z_}{s:u_}{B:Heap}{env:Env}{l outer:List Env}{L e:Addr}{oe:Obj}{vs:v7}{c fl:Value}{d:Option Addr}{Q:Unit->u_->Prop}
theorem FlyD.there {h:Heap}(x:FlyD B l e c d fl h):∃o,h.get? e=some o/\o.cls=c/\o.dict=d/\∃vs,o.data=.fields vs:=let ⟨oe,vs,_,_,_,he,hc,hd,_⟩:=x.tr; ⟨oe,he,hc.1,hc.2,vs,hd⟩
theorem FlyD.out {h:Heap}(x:FlyD B (env::l) e c d fl h):FlyD B l e c d fl h:=⟨x.st,x.no,x.ff.2.2,x.tr⟩
theorem Nh {h:Heap}{T:Addr}{a:Obj}{ts:v7}{f:Obj->Obj}(d:h.get? T=some a)(hd:a.data=.fields ts):(∀b,b≠T->(h.update T f).get? b=h.get? b)/\∀b o,h.get? b=some o->(∀vs,o.data≠.fields vs)->b≠T :=
 ⟨λb n=>Heap.get?_update_other _ _ (aC n),λb o q c z=>by grind⟩
theorem Uz {c:Value}{hn:Bool}(k:A.frames=some (env::outer))(st:B.StaysIn s.heap)(y:B.get? e=none)(hl:s.heap.FunFrames B (env::outer))(G:env.frame=some L)(he:s.heap.get? e=some oe)(hd:oe.data=.fields vs)(hz:1<vs.size)
 (x:∀h',FlyD B (env::outer) e oe.cls oe.dict (rawInt L) h'->s.heap.UpToSlots h'->Q () { s with heap:=h' }) :
 wpAny M A (frameOf env >>= λa=>entryPlaceOf L hn >>= λg=>EntryCells.newEntry c a .none (rawInt L) .none g >>= λb=>setField (.ref e) 1 b) Q E s:=by
 have C:e∉(env::outer).filterMap (·.frame):=λm=>by
  obtain⟨_,o,q,D⟩:=hl.mem m
  simp_all
 refine wpAny_bind (wpAny_frameOf_fun k hl G λd j=>wpAny_bind (wpAny_entryPlaceOf λg F=>?_))
 unfold EntryCells.newEntry newFields
 refine wpAny_bind (wpAny_newObj_type ?_ (F.sizeOk5 _ _ _ _ _))
 have r:([c,.ref L,.none,rawInt L,.none]++(if g.isEmpty then List.replicate 6 Value.none else g)).toArray[3]?=some (rawInt L):=by simp
 have u:d.get? e=some oe:=(j.2.1 e C).trans he
 have v:B.StaysIn d:=λb o q=>(j.2.1 b λm=>by rw[(hl.mem m).1]at q;cases q).trans (st b o q)
 generalize ([c,.ref L,.none,rawInt L,.none]++(if g.isEmpty then List.replicate 6 Value.none else g)).toArray=ts at r
 generalize hob:({ cls:=.type "traceback",dict:=none,data:=.fields ts }:Obj)=ob
 have h:ob.data=.fields ts:=by grind
 have l:ob.isFreed=false:=Obj.isFreed_of_fields h;have p:=Heap.get?_push_of_some ob u;have t:d.objs.size≠e:=bw (Heap.lt_size u)
 obtain⟨i,D⟩:=Nh (f:=Obj.mapFields (·.setIfInBounds 1 (.ref d.objs.size))) p hd
 have w:=Obj.data_mapFields hd (·.setIfInBounds 1 (.ref d.objs.size))
 have I:∀b o,b≠e->d.get? b=some o->((d.push _).update e _).get? b=some o:=λb o n q=>(i b n).trans (Heap.get?_push_of_some _ q)
 refine wpAny_setField p hd hz (x _ ⟨λb o q=>I b o λz=>by grind (v b o q),y,hl.of_keeps λb o q n=>?_,?_⟩ λb o q n=>?_)
 ·obtain⟨J,H⟩:=j.2.2 b o q
  grind
 ·exact⟨_,_,d.objs.size,ob,ts,Heap.get?_update_self _ p (Obj.isFreed_of_fields w),⟨Obj.cls_mapFields _ _,Wq _ _⟩,w,by grind,⟨v.fresh,t⟩,(i _ t).trans (Heap.get?_push_size _ l),h,r⟩
 ·obtain⟨J,H⟩:=j.2.2 b o q
  grind
theorem At0 (a:A.frames=some (env::outer))(st:B.StaysIn s.heap)(d:B.get? e=none)(hl:s.heap.FunFrames B (env::outer))(b:env.frame=some L)(he:s.heap.get? e=some oe)(hd:oe.data=.fields vs)(h1:vs[1]?=some .none)
 (c:∀h',FlyD B (env::outer) e oe.cls oe.dict (rawInt L) h'->s.heap.UpToSlots h'->Q () { s with heap:=h' }):wpAny M A (noteFrame (.ref e) env) Q E s:=by
 unfold noteFrame;simp only[b]
 refine wpAny_bind (wpAny_field he hd h1 ?_)
 exact Uz a st d hl b he hd (cX.mp h1).1 c
theorem Af6 (h:A.frames=some (env::outer))(l:env.frame=some L)(x:FlyD B (env::outer) e c d .none s.heap)
 (D:∀g,FlyD B (env::outer) e c d (rawInt L) g->s.heap.UpToSlots g->Q () { s with heap:=g }):wpAny M A (noteFrame (.ref e) env) Q E s:=by
 obtain⟨v,y,w,oe,vs,T,oT,ts,r,⟨rfl,rfl⟩,k,m,⟨hB,C⟩,j,i,p⟩:=x
 obtain⟨a,t⟩:=Nh (f:=Obj.mapFields (·.setIfInBounds 3 .none)) j i
 unfold noteFrame;simp only[l]
 refine wpAny_bind (wpAny_field r k m ?_)
 rw[if_pos (by simp)]
 refine wpAny_bind (wpAny_field j i p ?_)
 refine wpAny_bind (wpAny_setField j i (cX.mp p).1 ?_)
 exact Uz h (λb o q=>(a b λz=>by simp_all).trans (v b o q)) y (w.of_keeps λb o q n=>⟨o,(a b (t b o q n)).trans q,rfl⟩) l ((a e (aC C)).trans r) k (cX.mp m).1
  λg f u=>D _ f λb o q n=>u b o ((a b (t b o q n)).trans q) n
theorem Qy (x:FlyD B l e c d fl s.heap)(v:∀h',FlyD B l e c d .none h'->s.heap.UpToSlots h'->Q () { s with heap:=h' }):wpAny M A (setFlight (.ref e) none) Q E s:=by
 obtain⟨F,D,t,H,w,T,J,I,k,u,p,m,⟨y,j⟩,h,g,C⟩:=x;obtain⟨a,r⟩:=Nh h g;have G:=(cX.mp C).1
 refine wpAny_bind (wpAny_field k p m ?_)
 have i:=Obj.data_mapFields g (·.setIfInBounds 3 ((none:Option _).elim Value.none λf=>rawInt f))
 refine wpAny_setField h g G (v _ ⟨λb o q=>(a b λz=>by simp_all).trans (F b o q),D,t.of_keeps λb o q n=>⟨o,(a b (r b o q n)).trans q,rfl⟩,?_⟩ λb o q n=>⟨o.slots,(a b (r b o q n)).trans q⟩)
 exact⟨H,w,T,_,_,(a e (aC j)).trans k,u,p,m,⟨y,j⟩,Heap.get?_update_self _ h (Obj.isFreed_of_fields i),i,by grind⟩
theorem An4 (a:A.frames=some (env::outer))(f:env.frame=some L)(x:FlyD B (env::outer) e c d .none s.heap)(g:∀h',FlyD B outer e c d .none h'->s.heap.UpToSlots h'->Q () { s with heap:=h' }):wpAny M A (leaving env (.ref e)) Q E s :=
 wpAny_bind (Af6 a f x λk j h=>Qy j λl i b=>g _ i.out (h.trans b))
theorem Ak1 (a:A.frames=some (env::outer))(st:B.StaysIn s.heap)(c:B.get? e=none)(hl:s.heap.FunFrames B (env::outer))(d:env.frame=some L)(he:s.heap.get? e=some oe)(hd:oe.data=.fields vs)(h1:vs[1]?=some .none)
 (f:∀h',FlyD B outer e oe.cls oe.dict .none h'->s.heap.UpToSlots h'->Q () { s with heap:=h' }):wpAny M A (leaving env (.ref e)) Q E s :=
 wpAny_bind (At0 a st c hl d he hd h1 λh1 g h=>Qy g λj i b=>f _ i.out (h.trans b))
end
structure Fly (outer:List Env) (H':Hp) (h0:Heap) (a:Addr) (cls:Value) (d:Option Addr) (h:Heap):Prop where
 fl:∃B,FlyD B outer a cls d .none h/\Cov (frs outer) H' h0 h B
 new:∀b o,h0.get? b=some o->b≠a
 free:H' a=none
def CXe (P:u6)(w:World):CXT:=λouter H s E e s'=>∃a C d H',e=.ref a/\Fly outer H' s.heap a (.ref C) d s'.heap/\s'.os=s.os/\AllBare s'.gens/\Un (frs outer) [] H H' s.heap s'.heap/\HOk P w H' s'.heap/\E (.ref C) d H'
section
variable {X:Cx}{pins:y_}{σ:St}{H H':Hp}{s s':u_}
theorem Inv.flown {h2 B:Heap}{tk:Nat}(I:Inv X pins σ H s)(u:Un (frs X.stack) [] H H' s.heap s'.heap)(hk:HOk X.prog X.w H' s'.heap)(h:s'.os=s.os)(a:AllBare s'.gens)
 (l:s'.heap.FunFrames B X.stack) (c:Cov (frs X.stack) H' s.heap s'.heap B) (st:B.StaysIn h2) (g:s'.heap.UpToSlots h2):Inv X pins σ H' { s' with heap:=h2,toks:=tk }:=by
 have d:∀b∈frs _,H' b=none:=λb e=>by
  obtain⟨_,o,i,_⟩:=I.stack.mem e
  exact u.free b o i (I.stkFree b e) λz=>nomatch z
 obtain⟨j,k⟩:=B2t u hk c l d st g
 obtain⟨v,f,I2,_,rfl⟩:=I.after (s':={ s' with heap:=h2,toks:=tk }) (Q:=λ_ f=>f=H') ⟨.non,H',h,a,j,k,rfl,rfl⟩
 grind
end
section
variable {P:u6}{w:World}{K:v9}{mg:x_}{base:Heap}{N:v4}{qual:Str}{scope:Scope}{f:Addr}{cd:Value}{A:q9}{outer:List Env}{s₀:u_}{H₀:Hp}{E:XK}
theorem Fe:Hi (CXe P w) (Jk (CXe P w) P w K mg base N qual scope f cd A outer s₀ H₀ E) E:=by
 intro t σ H s e x I h;obtain⟨a,C,d,D,rfl,⟨⟨B,y,m⟩,Q,L⟩,v,c,u,j,q⟩:=h
 refine An4 I.ok.frames rfl y λG g F=>?_
 have n:Inv (Jk (CXe P w) P w K mg base N qual scope f _ A _ _ _ E) _ _ _ { x with heap:=G }:=I.flown u j v c y.ff m g.1 F
 have J:∀b o,s₀.heap.get? b=some o->∃r,s.heap.get? b=some _:=λb o e=>I.base.there b o e λz=>nomatch z
 refine⟨a,C,d,D,rfl,⟨⟨B,g,λb o e hf l=>?_⟩,λb o e=>?_,L⟩,v.trans I.os,c,n.base,n.hok,q⟩
 ·have nl:b≠(envOfC qual scope s₀.heap.objs.size f cd).locals:=by
   rintro rfl
   rcases l with ⟨M,k⟩ | l
   ·exact absurd (Heap.lt_size k) (aY _)
   ·exact l n.free
  have p:b∉frs _:=λz=>by
   rcases az.mp (I.stkSub b z) with q | q
   ·trivial
   trivial
  have i:∃r,x.heap.get? b=some r:=by
   rcases l with ⟨M,k⟩ | l
   ·obtain⟨o1,O⟩:=J b _ k
    exact u.there b _ O λz=>nomatch z
   ·cases q':D b with
    | none=>grind
    | some ho=>exact(j b _ q').there
  obtain⟨r,k⟩:=i
  have:=m b _ k p (by
   grind)
  have e2:=g.1 b _ this
  simp_all
 grind
end
structure MadeX (h h':Heap) (e C:Addr) (d:Option Addr):Prop where
 keeps:∀b o,h.get? b=some o->h'.get? b=some o
 new:h.get? e=none
 there:∃oe vs,h'.get? e=some oe/\oe.cls=.ref C/\oe.dict=d/\oe.data=.fields vs/\vs[1]?=some .none
def Raises (X:Cx)(E:XK):Prop:=∀(pins:y_) (σ:St) (H:Hp) (s:u_) (h':Heap) (e C:Addr) (d:Option Addr),Inv X pins σ H s->MadeX s.heap h' e C d->E (.ref C) d H->X.xe (.ref e) { s with heap:=h' }
section
variable {P:u6}{w:World}{K:v9}{mg:x_}{base:Heap}{N:v4}{qual:Str}{scope:Scope}{f:Addr}{cd:Value}{A:q9}{outer:List Env}{s₀:u_}{H₀:Hp}{E:XK}
theorem Oq:Raises (Jk (CXe P w) P w K mg base N qual scope f cd A outer s₀ H₀ E) E:=by
 intro F σ H s p e C d I c q;obtain⟨oe,vs,U,mc,L,M,O⟩:=c.there
 let X:=Jk (CXe P w) P w K mg base N qual scope f cd A outer s₀ H₀ E
 have n:(hideAll s.heap (frs X.stack)).StaysIn s.heap:=λb o z=>of_hideAll _ z
 have V:s.heap.FunFrames (hideAll s.heap (frs X.stack)) X.stack:=funFrames_hide I.stack λv Y b a=>bW.mpr ⟨v,Y,a⟩
 have m:p.FunFrames (hideAll s.heap (frs X.stack)) X.stack:=V.of_keeps λb o z _=>⟨o,c.keeps b o z,rfl⟩
 have h:HOk P w H p:=I.hok.kept c.keeps
 have J:H e=none:=by
  cases z:H e with
  | none=>rfl
  | some t =>
   obtain⟨u,l⟩:=(I.hok e t z).there;rw[c.new]at l;cases l
 have k:Cov (frs X.stack) H _ _ _:=λb o z x a=>by
  have:∃u,s.heap.get? b=some u:=by
   rcases a with a | a
   ·exact a
   ·cases y:H b with
    | none=>exact absurd y a
    | some t=>exact(I.hok b _ y).there
  obtain⟨u,l⟩:=this;have:=c.keeps b u l;rw[z]at this;cases this;exact hideAll_get _ l x
 have Q:(hideAll s.heap (frs X.stack)).get? e=none:=by
  cases z:(hideAll _ _).get? e with
  | none=>rfl
  | some o =>
   have y:=n e o z;rw[c.new]at y;cases y
 refine Ak1 I.ok.frames (λb o z=>c.keeps b o (n b o z)) Q m rfl U M O λR g T=>?_
 rw[mc,L]at g
 have D:Inv X _ _ H { s with heap:=R }:=I.flown (s':={ s with heap:=p }) (Un.kept c.keeps) h rfl I.bare m k g.1 T
 have G:∀b o,s₀.heap.get? b=some o->∃r,s.heap.get? b=some _:=λb o z=>I.base.there b o z λz=>nomatch z
 refine⟨e,C,d,H,rfl,⟨⟨_,g,λb o z x a=>?_⟩,λb o z y=>?_,J⟩,I.os,I.bare,D.base,D.hok,q⟩
 ·have W:b≠(envOfC qual scope s₀.heap.objs.size f cd).locals:=by
   rintro rfl
   rcases a with ⟨S,i⟩ | a
   ·exact absurd (Heap.lt_size i) (aY _)
   ·exact a D.free
  have B:b∉frs _:=λz=>by
   rcases az.mp (I.stkSub b z) with q | q
   ·exact W q
   ·exact x q
  have j:∃r,p.get? b=some r:=by
   rcases a with ⟨S,i⟩ | a
   ·obtain⟨o1,Z⟩:=G b _ i
    exact⟨o1,c.keeps b _ Z⟩
   ·cases q':H b with
    | none=>exact absurd q' a
    | some t=>exact(h b _ q').there
  obtain⟨r,i⟩:=j
  have:=k b _ i B (by
   grind)
  have e2:=g.1 b _ this
  simp_all
 ·obtain⟨r,i⟩:=G b o z
  rw[y,c.new]at i;cases i
end
theorem A5p {h h':Heap}{e C:Addr}{a:w6}(x:Heap.MadeExcOf h h' e (.ref C) a):MadeX h h' e C none:=let ⟨_,q,_⟩:=x.there; ⟨x.keeps,x.new,_,_,q,rfl,rfl,rfl,rfl⟩
theorem G3 {K:v9}{h:Heap}{C:Addr}(X:K.In h)(q:Yq K C=true):∃c N g i m j b k a dd k0 k1 k2 k3 k5,h.get? C=some (excClassObj g i C N m c true j b k a dd k0 k1 k2 k3 k5 "ValueError.__new__")/\OwnTail h bmV c:=by
 unfold Yq at q
 split at q
 ·rename_i d1 D v F
  have E:=X _ _ F
  simp at q
  obtain⟨⟨⟨y,B⟩,e⟩,d⟩:=q
  split at e
  ·rename_i A c x
   split at d
   ·rename_i r s t u n p o
    simp at e d
    obtain⟨H,w⟩:=e;obtain⟨g,m,z,f,i,hd,j,b,k,a,G⟩:=D;subst H x y B d
    obtain rfl:v=#[r,s,t,u,some (.builtin "ValueError.__new__"),p]:=by
     obtain⟨l⟩:=v
     dsimp only at o
     rw[o]
    exact⟨c,f,g,i,m,j,b,k,a,_,r,s,t,u,p,E,tail_of_in X w⟩
   ·cases d
  ·cases e
 ·cases q
theorem Bg2 {K:v9}{h:Heap}{C:Addr}(X:K.In h)(q:exP K C=true):∃c N e f g i a d b l m n k r p mN,h.get? C=some (excClassObj e f C N g c true i a d b l m n k r p "ValueError.__new__")/\h.Ns N mN/\mN "__init__" = none/\OwnTail h bmV c:=by
 obtain⟨v,j⟩:=au.mp q;obtain⟨c,N,e,f,g,i,a,d,b,l,m,n,k,r,p,s,T⟩:=G3 X v;unfold noI at j
 cases hl:K.lookup C with
 | none=>grind
 | some o =>
  rw[hl]at j
  cases (X _ _ hl).symm.trans s
  obtain⟨t,u⟩:=au.mp (show (nsOkIn K N&&nsIn K N _==some _)=true from j)
  exact⟨c,N,e,f,g,i,a,d,b,l,m,n,k,r,p,h.nsMap N,s,.of_isNs (isNs_of_in X t),nsMap_none_of_in X t (bI.mp u),T⟩
section
variable {X:Cx}{x:Str}{C:Addr}{np cpos pos:Pos}{e:Expr}{es:v_}{t:TA}{E:XK}
def A9d (C:Addr)(E:XK)(t:TA):TS:=λ_ σ H=>t σ H λvs H1=>vs.length<=sizeLine/\E (.ref C) none H1
theorem Vt (M:Raises X E)(hc:X.calm=true)(hg:Gl X x)(hm:X.mg x=some (.ref C))(A:exP X.K C=true)(ha:QA X (e::es) t)(hdb:(x==("__debug__" : Str))=false:=by decide)
 (he:starEach (e::es) X.env=(false,eval e X.env)::starEach es X.env:=by rfl) (hpl:(backTo cpos (starEach es X.env)).any (·.1)=false:=by rfl) :
 QS X (.Raise (some (.Call (.Name x np) (e::es) [] cpos)) none pos) (A9d C E t):=by
 obtain⟨ha⟩:=ha
 refine⟨?_⟩
 intro k s S H D I h;obtain⟨R,J,m,B,u,w,b,j,a,l,g,n,o,i,p,O,F,G,c,T⟩:=Bg2 I.mod.kin A
 have f:(backTo cpos (starEach (e::es) X.env)).any (·.1)=false:=by
  rw[he]
  show (false||(backTo cpos (starEach es X.env)).any (·.1))=false
  grind
 refine wpAny_Raise_call_subT (C:=C) (nm:=m) (q:=B) (N:=J) (bs:=u) (hdct:=true) (sn:=w) (sub:=b) (ab:=j) (col:=a) (dd:=l) (k0:=g) (k1:=n) (k2:=o) (k3:=i) (k5:=p) fU (T.hasType PySem.F.excBase_ValueError.hasBase) (I.ok.hd hc) f c (J4 I hg hm ⟨rfl,?_⟩ hdb)
 have r:=ha cpos _ s _ H _ I h;rw[he]at r ⊢
 refine Calls.evalArgs_plain (wpAny_mono r (λU V ⟨P,Q,v,L,z,K⟩=>?_) λ_ _ z=>z)
 have d := v.bk
 exact⟨rfl,by rw[<- L.length];grind,d _ _ F,G.keeps d,T.keeps d,λW Y y=>M _ _ _ _ _ _ C _ v (A5p y) K⟩
end
section
variable {X:Cx}{pins:y_}{σ:St}{H:Hp}{s:u_}{k:Nat}{f:Addr}{E:XK}{x:Str}{p:Pos}{e:Expr}{t:TA}{Q:VK}
noncomputable def X6 (a C:Addr) (d:Option Addr):HO:=.ext λh=>∃o,h.get? a=some o/\o.cls=.ref C/\o.dict=d/\∃vs,o.data=.fields vs
theorem Bs1 {P:u6}{w:World}{a C:Addr}{d:Option Addr}{h:Heap}{o:Obj}(e:h.get? a=some o)(c:o.cls=.ref C)(hd:o.dict=d/\∃vs,o.data=.fields vs):zA P w H h a (X6 a C d) :=
 ⟨⟨o,e,c,hd⟩,⟨o,e⟩,λf b ⟨o,e,c⟩ k=>⟨o,k o e,c⟩⟩
theorem Inv.track {a:Addr}{o:HO}(I:Inv X pins σ H s)(hn:H a=none)(w:X.s₀.heap.get? a=none)(l:a≠X.env.locals)(h2:∀x c,X.env.cells.lookup x=some c->c≠a)(m:∀p∈X.pn++pins,p.1≠a)
 (i:zA X.prog X.w (upd H a o) s.heap a o):Inv X pins σ (upd H a o) s:=by
 have d:∀b u,H b=some u->b≠a:=λb u e z=>by grind
 have h:∀b u,X.s₀.heap.get? b=some u->b≠a:=λb u e z=>by simp_all
 refine⟨I.ok,I.os,I.bare,⟨I.base.keep,I.base.slot,λb u e n j=>by rw[Ak (h b u e)];exact I.base.free b u e n j,I.base.there,λb f e=>by
  have:=I.base.tups b f e
  rw[Ak (d _ _ this)];exact this,λb u v e=>by
  have:=I.base.frzs b u v e
  rw[Ak (d _ _ this)];exact this,λb A e=>by
  have:=I.base.tbls b _ e
  rw[Ak (d _ _ this)];exact this⟩,I.loc,I.cell,by rw[Ak (aC l)];exact I.free,λy c e=>by rw[Ak (h2 y c e)];exact I.freeC y c e,λp g=>?_,λb u e=>?_,I.len⟩
 ·obtain⟨k,q,r⟩:=I.pin p g
  exact⟨k,by rw[Ak (m p g)];exact q,r⟩
 ·by_cases hb:b=a
  ·subst hb
   rw[Bd]at e;grind
  ·rw[Ak hb]at e
   exact(I.hok b u e).stay (λc v _ z=>z) (λc z=>by rw[Ak (d _ _ z)];exact z) (λc f z=>by rw[Ak (d _ _ z)];exact z) λc t f z=>by rw[Ak (d _ _ z)];exact z
theorem Inv.unbound {j:Nat}{n:Str}{h':Heap}{m x:x_}{tk:Nat}(I:Inv X pins σ H s)(hN:X.N.Nodup)(hj:X.N[j]?=some n)(hm:s.heap.Ns X.env.locals m)(t:h'.Ns X.env.locals x)(l:∀y,y≠n->x y=m y)(J:Heap.SameBut X.env.locals s.heap h') :
 Inv X pins (σ.set j none) H { s with heap:=h',toks:=tk }:=by
 have d:∀b u,b≠X.env.locals->s.heap.get? b=some u->h'.get? b=some u:=λb u K e=>J.extBut b u K e
 have A:∀b u,X.s₀.heap.get? b=some u->b≠X.env.locals:=λb u e z=>by
  have:=Heap.lt_size e;rw[z]at this;exact absurd (aA this I.ok.above) (aY _)
 have B:∀{y:Str} {c:Addr} {v:u9},X.env.cells.lookup y=some c->s.heap.IsCell c v->h'.IsCell c v:=λ{y c v} e ⟨o,N,M⟩=>⟨o,d c o (I.cne y c e) N,M⟩
 refine⟨I.ok,I.os,I.bare,⟨λb u e n p g=>d b u (A b u e) (I.base.keep b u e n p g),λb u e n p g=>?_,I.base.free,λb u e g=>?_,I.base.tups,I.base.frzs,I.base.tbls⟩,⟨x,t,λi y v k D T=>?_⟩,λy c e=>?_,I.free,I.freeC,λq U=>?_,λb u e=>?_,by rw[bK];exact I.len⟩
 ·obtain⟨G,q⟩:=I.base.slot b u e n p g
  exact⟨G,d b _ (A b u e) q⟩
 ·obtain⟨C,q⟩:=I.base.there b u e g
  exact⟨C,d b C (A b u e) q⟩
 ·have E:i≠j:=λz=>by
   grind
  rw[bN (aC E)]at D;obtain⟨L,w,F⟩:=I.loc
  have O:L=m:=by
   obtain⟨o1,P,p1,g1,d1,_,f1⟩:=w;obtain⟨o2,Q,p2,Z,d2,_,f2⟩:=hm
   grind
  subst O;obtain⟨u,r,R⟩:=F i y v k D T
  refine⟨u,r,?_⟩
  rcases R with ⟨f,a⟩ | ⟨f,c,a,h⟩
  ·have S:y≠n:=λz=>E (by
    subst z
    exact(List.getElem?_inj (bz.mp k).1 hN).mp (k.trans hj.symm))
   exact .inl ⟨f,by rw[l y S];exact a⟩
  ·exact .inr ⟨f,c,a,B a h⟩
 ·obtain⟨v,z⟩:=I.cell y c e
  exact⟨v,B e z⟩
 ·obtain⟨f,a,h,V⟩:=I.pin q U
  exact⟨d _ _ h f,a,h,V⟩
 ·have W:∀b u v,H b=some u->s.heap.get? b=some v->h'.get? b=some v:=λb u v z e=>d b v (λy=>by rw[y,I.free]at z;cases z) e
  refine (I.hok b u e).stay (λc v Y z=>?_) (λ_ z=>z) λ_ _ z=>z
  grind
noncomputable def Ru (X:Cx) (a:Addr):Cx:={ X with A:=X.A.mark (some (.ref a)),calm:=false,xe:=λ_ _=>False }
theorem Inv.mark (I:Inv X pins σ H s)(a:Addr):Inv (Ru X a) pins σ H s :=
 ⟨⟨I.ok.mod,I.ok.kind,I.ok.glob,I.ok.blt,I.ok.above,I.ok.inj,I.ok.has,I.ok.cab,(λz=>nomatch z),I.ok.frames,I.ok.stk,I.ok.exf,I.ok.bs,I.ok.bsz,I.ok.noex,I.ok.exfs,I.ok.funs,I.ok.frf,I.ok.tab⟩,I.os,I.bare,I.base,I.loc,I.cell,I.free,I.freeC,I.pin,I.hok,I.len⟩
theorem Inv.unmark {a:Addr}(b:X.Ok)(I:Inv (Ru X a) pins σ H s):Inv X pins σ H s:=⟨b,I.os,I.bare,I.base,I.loc,I.cell,I.free,I.freeC,I.pin,I.hok,I.len⟩
end
section
variable {X:Cx}{pins:y_}{σ:St}{H H1:Hp}{s s1 s':u_}{E:XK}{D:Ends}{y n:Str}{Fc:Addr}{yp hpos:Pos}{b₀:Stmt}{suite:List Stmt}{th:TS}{j:Nat}{ev:Value}
theorem A3a (U:X.ex=[])(hs:X.stack=X.env::X.outer/\X.env.frame=some X.env.locals)(hN:X.N.Nodup)(hj:X.N[j]?=some n)(l:X.env.scope.names.lookup n=some .local)(hg:Gl X y)(hm:X.mg y=some (.ref Fc))(hsu:∀a,PSs (Ru X a) (b₀::suite) th)
 (I:Inv X pins σ H1 s1) (cx:CXe X.prog X.w X.stack H1 s1 E ev s') (hE:∀C d t,E (.ref C) d t->exmOne X.K (.ref C) (.ref Fc)=some true/\∀a,t a=none->th { nx:=λZ H3=>D.nx (Z.set j none) H3,rt:=D.rt } (σ.set j (some (.ref a))) (upd t a (X6 a C d)))
 (hdb:(y==("__debug__" : Str))=false:=by decide) :
 wpAny (model X.prog X.w) X.A (noteFrame ev X.env) (λ_ R=>wpAny (model X.prog X.w) X.A (setFlight ev none) (λ_ L=>wpAny (model X.prog X.w) X.A (handleBy ev X.env [.ExceptHandler (some (.Name y yp)) (some n) (b₀::suite) hpos]) (SP X pins D) X.xe L) X.xe R) X.xe s':=by
 obtain⟨a,C,d,t,rfl,⟨⟨B,fl,N⟩,k,fr⟩,os,r,u,Q,q⟩:=cx;obtain⟨hex,G⟩:=hE C d t q;have G:=G a fr;have H:=fl;rw[hs.1]at H
 refine Af6 (I.ok.frames.trans (bA some hs.1)) hs.2 H λh4 J K=>?_
 refine Qy (s:={ s' with heap:=h4 }) J λS A P=>?_
 have I5:Inv X pins σ t { s' with heap:=S }:=I.flown (tk:=s'.toks) u Q os r fl.ff N A.1 (K.trans P)
 obtain⟨ob,W,Y,_⟩:=A.there;have LT:Looks (model X.prog X.w) S (typeOf (.ref a)) (.ref C):=Y▸(Looks.ld W).andThen .now;have LX:=exm_one (M:=model X.prog X.w) (h:=S) I5.kIn LT hex
 refine wpAny_handleBy_cons (codeAny_handlers_test (J4 (X:=Ru X a) (I5.mark a) hg hm ?_ hdb)) (by intro z;cases z)
 refine LX.here ?_
 refine codeAny_handlers_suite_as ?_
 refine Qy (s:={ s' with heap:=S }) A λh6 O up6=>?_
 have I6:Inv X pins σ t { s' with heap:=h6 }:=I.flown (tk:=s'.toks) u Q os r fl.ff N O.1 ((K.trans P).trans up6)
 obtain⟨o6,ho6,hc6,hd6⟩:=O.there
 have n0:X.s₀.heap.get? a=none:=by
  cases z:X.s₀.heap.get? a with
  | none=>rfl
  | some o0 =>
   obtain⟨o1,e1⟩:=I.base.there a o0 z (by rw[U];simp)
   exact absurd rfl (k a o1 e1)
 have I7:Inv X pins σ (upd t a (X6 a C d)) { s' with heap:=h6 }:=I6.track fr n0 (λz=>by
  obtain⟨m,⟨o,es,ep,e,_⟩,_⟩:=I.loc
  exact k _ o e z.symm) (λy c e z=>by
  obtain⟨v,o,e1,_⟩:=I.cell y c e
  exact k c o e1 z) (λp hp z=>k _ _ (I.pin p hp).1 z) (Bs1 ho6 hc6 hd6)
 refine Gw (v:=.ref a) I7 hN hj (.inl l) rfl (λs8 I8=>?_) (.inr l)
 refine wpAny_mono (hsu a _ _ _ _ _ (I8.mark a) G) (λfw s9 T=>?_) λ_ _ z=>z.elim
 have x:(X.env.scope.kind==.class||X.env.scope.kind==.module&&X.env.locals != X.env.globals)=false:=by rw[I.ok.kind];rfl
 cases fw with
 | next =>
  obtain⟨V,H9,i,F⟩:=T;have i:=i.unmark I.ok;obtain⟨m,g,_⟩:=id i.loc
  exact wpAny_nameGoes_keeps l g x λh10 v f sb=>⟨_,H9,i.unbound hN hj g f (λy hy=>if_neg hy) sb,F⟩
 | ret w =>
  obtain⟨v,V,H9,i,r9,F⟩:=T;have i:=i.unmark I.ok;obtain⟨m,g,_⟩:=id i.loc
  exact wpAny_nameGoes_keeps l g x λh10 v' f sb=>⟨v,_,H9,i.unbound hN hj g f (λy hy=>if_neg hy) sb,r9,F⟩
 | brk=>obtain⟨_,_,_,F⟩:=T;exact F.elim
 | cont=>obtain⟨_,_,_,F⟩:=T;exact F.elim
end
section
variable {prog:u6}{w:World}{A:q9}{E:z_}{h:Heap}{g:Array GenState}{d:Drawn}{t:Nat}{os:OsState}{a C:Addr}{o:Obj}{K:v9}
structure K7 (K:v9) (C:Addr):Prop where
 exc:Yq K C=true
 ga:findIn K (.ref C) "__getattribute__" = some (some (.builtin "BaseException.__getattribute__"))
 gat:findIn K (.ref C) "__getattr__" = some none
 cls:findIn K (.ref C) "__class__" = some (some (.builtin "object.__class__"))
theorem B3g {R:Result->u_->Prop}(X:K.In h)(Z:K7 K C)(hx:h.get? a=some o)(hc:o.cls=.ref C)(q:R (.ok (.ret (.ref C))) ⟨h,g,d,t,os⟩) :
 codeAny (model prog w) A (.call (.builtin "getset_descriptor.__get__") ⟨[.builtin "object.__class__",.ref a,.ref C],[]⟩) R ⟨h,g,d,t,os⟩:=by
 obtain⟨i,l,n,z,B,m,j,p,k,r,s,u,v,x,y,f,T⟩:=G3 X Z.exc;have c:(⟨h,g,d,t,os⟩:u_).TypeIs (.builtin "object.__class__") "getset_descriptor" := fV
 have e:(Value.ref C::i).contains (.type (".".intercalate ("object.__class__".cutAt '.').dropLast))=true:=by
  rw[PySem.F.owner_object_class,dM,T.hasType (X := "object") (b:=true) rfl];rfl
 refine codeAny_call_builtin PySem.F.slot_gs_get.plain PySem.F.entry_gs_get (PySem.F.slot_gs_get.check _ _ _ _ _ _ _ _ c (PySem.F.args_gs_get _ _ _) ?_)
 repeat (any_goals (first | assumption | (with_reducible refine wpAny_loadPart_at hx ?_;rw[hc]) | (with_reducible refine wpAny_isSubtype_exc f ?_;rw[e]) | wp_step))
 refine⟨Code.quiet_builtin _ (by decide +kernel),codeAny_builtin PySem.F.entry_object_class ?_⟩
 repeat (any_goals (first | assumption | (with_reducible refine wpAny_loadPart_at hx ?_;rw[hc]) | wp_step))
theorem A8r {tk:Tok}{Q:Fin->u_->Prop}(X:K.In h)(Z:K7 K C)(hx:h.get? a=some o)(hc:o.cls=.ref C)(e:Q (.done (.ret (.ref C))) ⟨h,g,d,t,os⟩) :
 wpAny (model prog w) A (Builtin.«object.__getattribute__» ⟨[.ref a,.str "__class__" tk],[]⟩) Q E ⟨h,g,d,t,os⟩:=by
 have b:(⟨h,g,d,t,os⟩:u_).TypeIs (.builtin "object.__class__") "getset_descriptor" := fV;have f:=fV;have i:=PySem.F.slot_gs_get.lookup;have j:=PySem.F.slot_gs_set.lookup;have c:=looks_findIn (M:=model prog w) X Z.cls
 repeat (any_goals (first | assumption | (with_reducible refine wpAny_loadPart_at hx ?_;rw[hc]) | with_reducible refine c.here ?_ | wp_step))
 refine B3g X Z hx hc ?_
 repeat (any_goals (first | assumption | wp_step))
theorem Ai9 {M:Model}{c:Value}{Q:Unit->u_->Prop}(X:K.In h)(Z:K7 K C)(hx:h.get? a=some o)(hc:o.cls=.ref C)(m:Q () ⟨h,g,d,t,os⟩):wpAny M A (checkBuiltinCall "BaseException.__getattribute__" ⟨[.ref a,c],[]⟩) Q E ⟨h,g,d,t,os⟩:=by
 obtain⟨j,p,F,z,B,D,k,q,f,s,u,v,w,x,y,l,T⟩:=G3 X Z.exc
 have i:builtinKind "BaseException.__getattribute__" = some .slot:=by decide +kernel
 have e:splitId "BaseException.__getattribute__" = some ("BaseException", "__getattribute__"):=by decide +kernel
 have n:(Value.ref C::j).contains (.type "BaseException")=true:=by rw[dM,T.hasType (X := "BaseException") (b:=true) rfl];rfl
 have r:=PySem.F.args_bexc_ga (.ref a) c;simp only[checkBuiltinCall,i,e]
 refine wpAny_bind ?_
 unfold isInstance
 repeat (first | (with_reducible refine wpAny_loadPart_at hx ?_;rw[hc]) | (with_reducible refine wpAny_isSubtype_exc l ?_;rw[n]) | wp_step)
 exact m
theorem B4n {tk:Tok}{Q:z_}(X:K.In h)(Z:K7 K C)(hx:h.get? a=some o)(hc:o.cls=.ref C)(j:Q (.ref C) ⟨h,g,d,t,os⟩):wpAny (model prog w) A (getAttrBy (.ref a) (.str "__class__" tk) false) Q E ⟨h,g,d,t,os⟩:=by
 have f:=eV.ga.bind (.ref a)
 have e:(Value.builtin "BaseException.__getattribute__" == Value.builtin "object.__getattribute__")=false:=by decide +kernel
 have i:(onTheHeap (Value.ref C)&&Value.builtin "BaseException.__getattribute__" == Value.builtin "object.__getattribute__")=false:=by rw[e];rfl
 have c:=looks_findIn (M:=model prog w) X Z.ga;have b:=looks_findIn (M:=model prog w) X Z.gat
 repeat (any_goals (first | assumption | (with_reducible refine wpAny_loadPart_at hx ?_;rw[hc]) | with_reducible refine c.here ?_ | with_reducible refine b.here ?_ | wp_step))
 refine codeAny_call_builtin eV.ga.plain PySem.F.entry_bexc_ga (Ai9 X Z hx hc (A8r X Z hx hc ?_))
 repeat (any_goals (first | assumption | wp_step))
theorem Bj6 {Q:u9->u_->Prop}(X:K.In h)(Z:K7 K C)(hx:h.get? a=some o)(hc:o.cls=.ref C)(b:Q (some (.ref C)) ⟨h,g,d,t+1,os⟩):wpAny (model prog w) A (getAttr? (.ref a) "__class__") Q E ⟨h,g,d,t,os⟩:=by
 unfold getAttr? getAttrBy?
 repeat (any_goals (first | assumption | with_reducible apply B4n X Z _ _ | wp_step))
end
section
variable {K:v9}{a C:Addr}
theorem An5 {x:Option Addr}(Z:K7 K C):KitX K (.ref a) (.ref C) (λh=>∃o,h.get? a=some o/\o.cls=.ref C/\o.dict=x/\∃vs,o.data=.fields vs) where
 ty:=λM h _ ⟨o,e,c,_⟩=>c▸(Looks.ld e).andThen .now
 it:=λM h X _=>by
  obtain⟨bm,Nn,nm,qn,bs,sn,sub,ab,col,dd,k0,k1,k2,k3,k5,hC,_⟩:=G3 X Z.exc;intro A' Q' E' s' kp q;unfold isType loadHead;exact wpAny_bind (wpAny_loadPart (kp _ _ hC) (wpAny_pure q))
 ne:=λh tp dd its n sl X htp=>by
  obtain⟨bm,Nn,nm,qn,bs,sn,sub,ab,col,d',k0,k1,k2,k3,k5,hC,_⟩:=G3 X Z.exc
  refine Bool.eq_false_iff.mpr λq=>?_
  cases (Value.ref.inj (bI.mp q))
  rw[hC]at htp;have z:=bA Obj.data (bV htp)
  cases z
 ca:=λ{_ _ _ _ _ s} X p q=>by
  obtain⟨hh,g,d,t,os⟩:=s;obtain⟨o,e,c,_⟩:=p;exact Bj6 X Z e c q
end
section
variable {X:Cx}
noncomputable def B3i:V->u9
 | .ref D=>some (.ref D)
 | .ty T=>some (.type T)
 | _=>none
theorem A6k {c:V}{u z:Value}(e:B3i c=some z)(r:RelV c u):u=z:=by
 cases c with
 | ref D=>cases e;exact r
 | ty T=>cases e;exact r
 | _=>cases e
def At2 (K:v9):m8->Hp->VK->Prop:=λxs H Q=>∃a C d c z b,xs=[.ref a,c]/\H a=some (X6 a C d)/\K7 K C/\B3i c=some z/\kitOne K (.ref C) z=some b/\Q (.bl b) H
theorem A4z:zB X (.builtin "isinstance") (At2 X.K):=by
 intro e s σ H xs us Q I r h;obtain⟨a,C,d,c,z,b,rfl,i,Z,f,j,q⟩:=h;obtain⟨u1,u2,rfl,g,k⟩:=vals2 r
 cases (g)
 cases A6k f k
 have l := I.hok a _ i
 exact kia_one (An5 Z) I.kIn l.1 j (λz=>nomatch z) λtk=>⟨.bl b,H,I.tok _,rfl,q⟩
def B7d (D:Addr):TE:=λ_ H Q=>Q (.ref D) H
theorem Bz1 {y:Str}{D:Addr}{p:Pos}(hg:Gl X y)(hm:X.mg y=some (.ref D))(hdb:(y==("__debug__" : Str))=false:=by decide):PE X (.Name y p) (B7d D):=λa s b H Q I h=>J4 I hg hm ⟨.ref D,H,I,rfl,h⟩ hdb
noncomputable def Av9 (n:Nat):t_->Bool
 | .none=>true
 | .bool _=>true
 | .int i=>decide (i.natAbs.log2<1920)
 | .str x=>decide ((reprText x).length+n<=16000000)
 | d=>d.showable&&!d.hasDict&&decide (d.depth<=40)&&decide (d.shown.length+n<=16000000)
theorem A7j {x:Str}{tk:Tok}{a:y_}{b:St}{H:Hp}{s:u_}{n:Nat}{Q:z_}{E:z_}(I:Inv X a b H s)(h:(reprText x).length+n<=16000000)(q:∀z t s2,z.length+n<=16000000->Inv X a b H s2->Q (.str z t) s2):wpAny (model X.prog X.w) X.A (pyReprObj (.str x tk)) Q E s :=
 wpAny_pyReprObj_str (q _ _ _ h (I.tok _)) (aj (cj _ _) (aj h (by decide)))
theorem Br8 {d:t_}{v:V}{u:Value}{f:y_}{l:St}{H:Hp}{s:u_}{n:Nat}{Q:z_}{E:z_}(hu:X.A.units+64<cLine)(hg:X.A.guards=some [])(I:Inv X f l H s)(c:Tr H d v)(r:RelV v u)(hn:n<=1000)(h:Av9 n d=true)
 (q:∀z t s2,z.length+n<=16000000->Inv X f l H s2->Q (.str z t) s2):wpAny (model X.prog X.w) X.A (pyReprObj u) Q E s:=by
 have g:∀(a:Addr) (d:t_),Tr H d (.ref a)->(d.showable&&!d.hasDict&&decide (d.depth<=40)&&decide (d.shown.length+n<=16000000))=true->wpAny (model X.prog X.w) X.A (pyReprObj (.ref a)) Q E s:=λa d c h=>by
  simp only[bC,fW,du]at h;obtain⟨⟨⟨m,o⟩,G⟩,j⟩:=h
  obtain⟨F,p⟩:=c.reads I (show RelV (.ref a) (.ref a) from rfl)
  exact pyReprObj_of_reads p m (λz=>by rw[o]at z;cases z) hg (by lia) (λ_ _ e=>e) (λD t w y=>q _ _ _ j (I.kept (t':=w) y)) (aj (aj (cj _ _) j) (by decide))
 cases d with
 | none=>cases (show v=.non from c);cases (show u=Value.none from r);exact pyReprObj_none (q _ _ _ (by show 4+n<=_;lia) (I.tok _))
 | bool b=>cases (show v=.bl b from c);cases (show u=Value.bool b from r);exact pyReprObj_bool (q _ _ _ (by cases b <;> (first | (show 4+n<=_;lia) | (show 5+n<=_;lia))) (I.tok _))
 | int i =>
  cases (show v=.int i from c)
  obtain⟨t,e⟩:=(show ∃t,u=Value.int i t from r);cases e
  have k:i.natAbs.log2<1920:=aR h
  exact pyReprObj_int k (q _ _ _ (by have:=int_text_len_1921 k;lia) (I.tok _))
 | str x =>
  cases (show v=.str x from c)
  obtain⟨t,e⟩:=(show ∃t,u=Value.str x t from r);cases e
  exact A7j I (aR h) q
 | list A=>obtain⟨a,B,e,_⟩:=id c;cases e;cases (show u=Value.ref a from r);exact g a _ c h
 | tuple A=>obtain⟨a,B,e,_⟩:=id c;cases e;cases (r);exact g a _ c h
 | dict C=>exact(c).elim
def tFs (n:Nat)(te:TE):TE:=λσ H Q=>te σ H λv H1=>∃d,Tr H1 d v/\Av9 n d=true/\∀z,Q (.str z) H1
end
end L2
namespace L2
open PySem PySem.Spec PyProof.Rows
def TabAt (K:v9)(h:Heap):Prop:=(∀p∈Ef K,h.get? p.1=some { cls:=.none,data:=.fields #[] }/\isCodeTable h p.1/\K.lookup p.1=none)/\∀p∈Ef K,(Ef K).lookup p.1=some p.2
theorem J1 {l:List (Addr×Str)} (h:l.lookup b=some q):(b,q)∈l:=by
 induction l with
 | nil=>grind
 | cons p r a =>
  grind
theorem A2t {K:v9}
 (KX:K.In c.heap) (hns:c.heap.Ns mainGlobals mg) (hb:c.heap.Ns builtinsNs U) (X:∀x:Str,x ≠ "__name__" -> U x=bootBuiltins x) (L:c.heap.NoLimit) (hg:c.gens=#[])
 (T:∃j o,mg "__builtins__" = some (.ref j)/\j≠builtinsNs/\c.heap.get? j=some o/\o.cls=.type "module" /\ o.dict=some builtinsNs/\o.data=.plain) (D:TabAt K c.heap)
 (ha:c.heap.get? a=some { cls:=.type "list",data:=.seq vs.toArray }) (hi:IntsAre vs ns) (hl:ns.length<=sizeLine) (hr:Room k callerA)
 (F:∀base:Heap,K.In base->base.Ns mainGlobals mg->FnOk P w K mg base CX k fa fd [x] sp) (C:∀(s:u_) (u:Value),BindsTo s fd ⟨[u],[]⟩ [(x,u)])
 (hsp:∀H:Hp,SqL K H a (ns.map V.int)->sp [.ref a] H (λv _=>v=.bl true) λ_ _ _=>False)
 (W:∀H e s',CX [] H c (λ_ _ _=>False) e s'->False) :
 codeAny (model P w) callerA (.call (.ref fa) ⟨[.ref a],[]⟩) (λr s'=>r=.ok (.ret (.bool true))/\OldK c.heap s'.heap/\s'.os=c.os/\AllBare s'.gens) c:=by
 have rv:=Y8 hi;have E:=hi.length
 have Y:∀p∈Ef K,p.1≠a:=λp B z=>by
  have e:=(D.1 p B).1;rw[z,ha]at e;cases e
 have t:∀H:Hp,SqL K H a (ns.map V.int)->HOk P w H c.heap->(∀b u,H b=some u->(b=a/\K.lookup a=none/\∃o xs,u=.frz o (.lst xs))\/∃q,(b,q)∈Ef K/\u=.tbl q)->(∀p∈Ef K,H p.1=some (.tbl p.2)) ->
  codeAny (model P w) callerA (.call (.ref fa) ⟨[.ref a],[]⟩) (λr s'=>r=.ok (.ret (.bool true))/\OldK c.heap s'.heap/\s'.os=c.os/\AllBare s'.gens) c:=by
  intro H hS G hA hH
  have f:∀{b:Addr} {o:Obj},c.heap.get? b=some o->H b=none->(X8 c.heap H).get? b=some o:=λe n=>A7i e n
  have N:∀{b:Addr} {o:Obj},c.heap.get? b=some o->(∀x n,o.data≠.seq x n)->(∀x,o.data≠.fields x)->H b=none:=λ{b o} e d1 d2=>by
   cases q:H b with
   | none=>rfl
   | some u =>
    rcases hA b u q with ⟨z,_⟩ | ⟨y,O,_⟩
    ·rw[z,ha]at e;cases e;exact absurd rfl (d1 _ _)
    ·have g:=(D.1 _ O).1
     rw[e]at g;cases g;exact absurd rfl (d2 _)
  have l:∀{b:Addr} {m:x_},c.heap.Ns b m->(X8 c.heap H).Ns b m:=λ{b m} ⟨o,es,ep,e,d,r⟩=>⟨o,es,ep,f e (N e (λx n z=>by rw[d]at z;cases z) λx z=>by rw[d]at z;cases z),d,r⟩
  have I:K.In (X8 c.heap H):=λb o e=>f (KX b o e) (by
   cases q:H b with
   | none=>rfl
   | some u =>
    rcases hA b u q with ⟨z,z2,_⟩ | ⟨y,O,_⟩
    ·rw[z,z2]at e;cases e
    ·rw[(D.1 _ O).2.2]at e;cases e)
  have Z:∃j o,mg "__builtins__" = some (.ref j)/\j≠builtinsNs/\j≠mainGlobals/\(X8 c.heap H).get? j=some o/\o.cls=.type "module" /\ o.dict=some builtinsNs/\o.data=.plain:=by
   obtain⟨j,o,b1,b2,Q,b4,b5,M⟩:=T
   refine⟨j,o,b1,b2,λz=>?_,f Q (N Q (λx n z=>by rw[M]at z;cases z) λx z=>by rw[M]at z;cases z),b4,b5,M⟩
   obtain⟨og,es,ep,e,d,_⟩:=hns;rw[z,e]at Q;cases Q;rw[d]at M;cases M
  have hM:Mod K mg (X8 c.heap H):=⟨I,l hns,⟨U,l hb,X⟩,(let ⟨mc,h1,h2⟩:=L; ⟨mc,l h1,h2⟩),Z⟩
  have e0:Env0 P w K mg (X8 c.heap H) callerA [] c H:=⟨rfl,hM,λb o e=>Bq5 e,Nat.le_of_eq (A3u _ _),trivial,λb hb=>absurd (show b∈([]:v6) from hb) (by simp),hH,G,.of_eq hg⟩
  refine codeAny_mono ((F _ I (l hns)).run callerA [] c H ⟨[.ref a],[]⟩ [.ref a] [.ref a] _ _ hr e0 (C c (.ref a)) (.cons rfl .nil) (hsp H hS)) λr s' h=>?_
  cases r with
  | error e=>exact(W H e s' h).elim
  | ok fl =>
   cases fl with
   | next=>exact False.elim h
   | brk=>exact False.elim h
   | cont=>exact False.elim h
   | ret u =>
    obtain⟨v,H',os,J,R,A,r',q⟩:=h;have q':v=.bl true:=q;subst q';obtain rfl:u=Value.bool true:=r'
    refine⟨rfl,⟨λb o e=>?_,λb o e=>R.there b o e (by simp)⟩,os,J⟩
    cases q:H b with
    | none=>exact .inl (R.keep b o e q (by intro z;exact absurd (show b∈([]:v6) from z) (by simp)) (by simp))
    | some u =>
     rcases hA b u q with ⟨_,_,ob,xs,rfl⟩ | ⟨y,O,rfl⟩
     ·obtain⟨g,_⟩:=G b _ q
      obtain⟨e2,_⟩:=A b _ (R.frzs b ob _ q);rw[e]at g;cases g;exact .inl e2
     ·obtain⟨ps,e2,_⟩:=A b _ (R.tbls b y q)
      obtain⟨t1,t2,_⟩:=D.1 _ O;rw[e]at t1;cases t1
      exact .inr (.inl ⟨t2,rfl,#[],ps,rfl,by rw[e2];simp⟩)
 have i:∀(H:Hp) (p:Addr×Str),p∈Ef K->zA P w H _ _ (.tbl p.2):=λH p B=>⟨#[],(D.1 p B).1,trivial,λpos cv z=>by cases z⟩
 cases hk:K.lookup a with
 | some o =>
  have e:=KX a o hk;rw[ha]at e
  cases e
  refine t (λb=>((Ef K).lookup b).map .tbl) (.inr ⟨_,vs.toArray,_,hk,rfl,rfl,rfl,by rw[bB,E];exact hl,by simpa using rv⟩) (λb u z=>?_) (λb u z=>?_) λp B=>?_
  ·obtain⟨q,g,rfl⟩:=aM.mp z
   exact i _ _ (J1 g)
  ·obtain⟨q,g,rfl⟩:=aM.mp z
   exact .inr ⟨q,J1 g,rfl⟩
  ·rw[D.2 p B];rfl
 | none =>
  refine t (λb=>if b=a then some (.frz { cls:=.type "list",data:=.seq vs.toArray } _) else ((Ef K).lookup b).map .tbl) (.inl (.inr ⟨{ cls:=.type _,data:=.seq _ },if_pos rfl⟩)) (λb u z=>?_) (λb u z=>?_) λp B=>?_
  ·by_cases hb:b=a
   ·have S:=(if_pos hb).symm.trans z
    cases S
    subst hb
    exact⟨ha,by rw[ao];exact hl,vs,_,rv,ha⟩
   ·obtain⟨q,g,rfl⟩:=aM.mp ((if_neg hb).symm.trans z)
    exact i _ _ (J1 g)
  ·by_cases hb:b=a
   ·have S:=(if_pos hb).symm.trans z
    cases S
    exact .inl ⟨hb,hk,_,_,rfl⟩
   ·obtain⟨q,g,rfl⟩:=aM.mp ((if_neg hb).symm.trans z)
    exact .inr ⟨q,J1 g,rfl⟩
  ·rw[if_neg (Y p B),D.2 p B];rfl
end L2
namespace L2
open PySem PySem.Spec PyProof.Rows PySem.W
theorem Ae8 {f:Pos}{c:Value}:∀(l:w6),TriplesOk l->TriplesOk (l++[rawInt f.line,rawInt f.col,c]):=λl h=>by
 fun_induction TriplesOk l with
 | case1=>trivial
 | case2 a b c d e g i=>exact i h
 | case3=>trivial
theorem Ap0 {g f:Pos}{c cv:Value}:∀(l:w6),TriplesOk l->codeAmong f (l++[rawInt g.line,rawInt g.col,c])=some cv->codeAmong f l=some cv\/cv=c:=λl h e=>by
 fun_induction TriplesOk l with
 | case1 =>
  simp only[cQ,rawInt,codeAmong]at e
  grind
 | case2 a b c d k i j =>
  simp only[List.cons_append,codeAmong]at e ⊢
  grind
 | case3=>trivial
def HLam (H H':Hp):Prop:=H'=H\/∃c o,H c=none/\H'=upd H c (.frz o (.own 0))
noncomputable abbrev Ap1 (qual:Str) (params:Arguments) (body:Expr) (scope:Scope) (cl:List (Str×Addr)) (pm cv ctv:Value):Obj:={ cls:=.type "function",data:=.func (kla_fn "<lambda>" qual params body scope cl pm cv ctv) }
def LamCd (qual:Str)(cv:Value)(H:Hp):Prop:=∃c o vs t,cv=.ref c/\H c=some (.frz o (.own 0))/\o.data=.fields vs/\vs[1]?=some (.str qual t)
theorem LamCd.rec {P:u6}{w:World}{qual:Str}{cv:Value}{H:Hp}{h:Heap}(x:LamCd qual cv H)(b:HOk P w H h):h.CodeRec cv qual:=by
 obtain⟨c,o,i,t,e,a,d,f⟩:=x;obtain⟨g,_⟩:=b c _ a;exact⟨c,o,i,t,e,g,d,f⟩
section
variable {X:Cx}{pins:y_}{σ:St}{H:Hp}{s:u_}
theorem Inv.grown {T c:Addr}{q:Str}{f:Obj}{h':Heap}{t':Nat}(I:Inv X pins σ H s)(w:H T=some (.tbl q))(k:∀b o,b≠T->s.heap.get? b=some o->h'.get? b=some o)(hc:s.heap.objs.size<=c)(ho:h'.get? c=some f)
 (j:zA X.prog X.w (upd H c (.frz f (.own 0))) h' T (.tbl q)):Inv X pins σ (upd H c (.frz f (.own 0))) { s with heap:=h',toks:=t' }:=by
 have p:H c=none:=I.hok.fresh hc
 have a:∀b u,H b=some u->b≠c:=λb u e=>Ay e p
 have i:∀b u,s.heap.get? b=some u->b≠c:=λb u e z=>absurd (Heap.lt_size e) (by simp_all)
 have h:∀b,H b=none->b≠T:=λb e z=>by rw[z,w]at e;cases e
 refine I.step (g':=s.gens) (d':=s.drawn) (ch:=[]) (λ_ z=>nomatch z) (λb o _ _ _ e n=>k b o (h b n) e) (λb o _ _ _ e n=>⟨o.slots,k b o (h b n) e⟩) (λb o _ e n=>by rw[Ak (i b o e)];exact n) (λb o _ e=>?_)
  (λb l e=>by rw[Ak (a b _ e)];exact e) (λb o u e=>by rw[Ak (a b _ e)];exact e) (λb q e=>by rw[Ak (a b _ e)];exact e) (λm x=>?_) (λb u e=>?_) I.bare
 ·by_cases hb:b=T
  ·obtain⟨B,g,_⟩:=j
   simp_all
  ·exact⟨o,k b o hb e⟩
 ·obtain⟨o,t,y,e,r⟩:=x
  exact⟨o,t,y,k _ o (h _ I.free) e,r⟩
 ·by_cases hb:b=c
  ·rw[hb]at e ⊢
   rw[Bd]at e;cases e;exact⟨ho,f,ho⟩
  ·rw[Ak hb]at e
   by_cases hbT:b=T
   ·simp_all
   ·refine (I.hok b u e).stay (λd v C z=>k d v ?_ z) (λd z=>by rw[Ak (a d _ z)];exact z) (λd l z=>by rw[Ak (a d _ z)];exact z) λd A l z=>by rw[Ak (a d _ z)];exact z
    grind
theorem Bd2 {a:Arguments}{body:Expr}{scope:Scope}{N:Pos}{cl:List (Str×Addr)}{c T:Addr}{l:Str}{Q:z_}{A:q9}{E:z_}(I:Inv X pins σ H s)(hT:(T,l)∈Ef X.K)(hC:codeHdIn X.K c T=true)(g:X.env.code=.ref c)
 (hq:X.env.qual ++ "<lambda>" = l) (w:defaultsOf a X.env=([],[])) (x:closureFor scope X.env=pure cl)
 (h:∀(f:Addr) (s':u_) (H':Hp) (pm cv j:Value),Inv X (pins++[(f,Ap1 l a body scope cl pm cv j)]) σ H' s'->HLam H H'->LamCd l cv H'->Q (.ref f) s') :
 wpAny (model X.prog X.w) A (eval (.Lambda a body scope N) X.env) Q E s:=by
 have D:H T=some (.tbl l):=I.base.tbls T l (I.ok.tab (T,l) hT);obtain⟨ps,F,K,i⟩:=I.hok T _ D;have C:=codeHd_of_K I.kIn hC;have m:s.heap.Ns mainGlobals X.mg:=I.ok.mod.glob.keeps I.bk;obtain⟨Z,ob,b1,b2,b3,b4,b5,b6,b7⟩:=I.ok.mod.bmod;have k:=I.bk _ _ b4
 have M:mainGlobals≠T:=λz=>by
  obtain⟨o,es,ep,e,d,_⟩:=m;rw[z,F]at e;cases e;cases d
 have O:Z≠T:=λz=>by rw[z,F]at k;cases k;cases b5
 have Y:s.heap.BuiltinsAt X.mg T:=⟨Z,ob,b1,b2,b3,O,k,b5,b6,b7⟩
 have q:∀{n:Heap} {H':Hp} {y:Nat} {o:Obj},Inv X _ σ H' { s with heap:=n,toks:=y }->o.isFreed=false->(∀v,o.data≠.cell v)->Inv X (pins++[(n.objs.size,o)]) _ _ _:=λ{n H' y o} J R G=>by
  have f:=J.fpOk (ak _) (J.hok.fresh (ak _))
  have J2:Inv X _ _ _ { s with heap:=n.push o,toks:=y }:=J.kept λb u e=>Heap.get?_push_of_some _ e
  refine J2.pins_of λp hp=>?_
  rcases aX.mp hp with z | z
  ·exact J2.pin p (aq _ z)
  ·rw[aJ.mp z]
   exact⟨Heap.get?_push_size _ R,f.1,f.2.1,f.2.2.1,G⟩
 refine kla_eval w ?_
 rw[hq]
 cases hf:codeAmong _ _ with
 | none =>
  refine kla_makeFunction x I.ok.glob m g C F K hf M Y λS j n y hx r hlt B U=>?_
  obtain⟨c2,P,vs,t,L,V,G,hv⟩:=B
  cases L
  have hn := I.hok.fresh r
  refine h _ _ _ _ _ _ (q (I.grown D (λb o hb e=>hx b o hb e) r V ?_) rfl λv z=>by cases z) (.inr ⟨S,P,hn,rfl⟩) ⟨S,P,vs,t,rfl,Bd,G,hv⟩
  refine⟨_,U,by rw[Array.toList_append];exact Ae8 _ K,λpos' cv z=>?_⟩
  rw[Array.toList_append]at z
  rcases Ap0 _ K z with z | rfl
  ·obtain⟨d,o,W,t',e1,L,e3⟩:=i _ _ z
   exact⟨d,o,W,t',e1,by rw[Ak (Ay L hn)];exact L,e3⟩
  ·exact⟨S,P,vs,t,rfl,Bd,G,hv⟩
 | some cv =>
  refine kla_makeFunctionHit x I.ok.glob m g C F K hf Y λj n y hk hsz=>?_
  exact h _ _ H _ _ _ (q (I.kept hk) rfl λv z=>by cases z) (.inl rfl) (i _ _ hf)
end
theorem Fun.okL {P:u6}{w:World}{K:v9}{mg:x_}{base:Heap}{x qual:Str}{st:Stmt}{f:Addr}{i:u5}{N ps:v4}{k:Nat}{sp:Sp}(F:Fun K x qual st f i)(S:Bc N ps (Aj st))(e:∀vs H Q E,sp vs H Q E->vs.length=ps.length)
 (c:∀(b:Value) (A:q9) (a:List Env) (s:u_) (H:Hp) (vs:m8) (Q:VK) (E:XK),i.code=b->Room k (A.deeper (envOfC qual (Aj st) s.heap.objs.size f b))->sp vs H Q E ->
  ∃t,PSs (Jk CX0 P w K mg base N qual (Aj st) f b A a s H E).nox (Dr st) t/\t { nx:=λ_ H'=>Q .non H',rt:=Q } (start N vs) H):FnOk P w K mg base CX0 (k+1) f i ps sp:=by
 obtain⟨oc,od,kV,j,pm,an,b,ct,l,rfl,m,g⟩:=F.ex
 refine A1m m g S e λA a s H vs Q E n d=>?_
 obtain⟨t,h,q⟩:=c b A _ s H _ Q E rfl n d;exact⟨t,h.nox,q⟩
noncomputable def Fg (o:Obj):Bool:=match o.data with
 | .cell _=>false
 | _=>true
def sel (h:Heap)(tabs:List (Addr×Addr×Str))(a:Addr):Option Obj:=(h.get? a).bind λo=>if (Fg o&&!(tabs.any λt=>t.2.1==a))=true then some o else none
def Qc (h:Heap)(tabs:List (Addr×Addr×Str)):Frag:=((List.range h.objs.size).filterMap λa=>(sel h tabs a).map λo=>(a,o))++tabs.map λt=>(t.1,Ax1 t.2.1 t.2.2)
theorem Mp {f:Nat->Option Obj}{b:Nat}:∀{l:List Nat},(l.filterMap λa=>(f a).map λo=>(a,o)).lookup b=if b∈l then f b else none
 | []=>by simp
 | a::l=>by
  rw[cG]
  by_cases e:b=a
  ·subst e
   rw[if_pos aP]
   cases q:f b with
   | none =>
    simp only[Option.map_none];rw[Mp]
    split
    ·exact q
    ·rfl
   | some o=>simp
  ·have h1:(b∈a::l)=(b∈l):=by simp[e]
   simp only[h1]
   cases q:f a with
   | none=>simp only[Option.map_none];exact Mp
   | some o =>
    simp only[b_];rw[aN]
    have:(b==a)=false:=by simp[e]
    rw[this];exact Mp
section
variable {h:Heap}{tabs:List (Addr×Addr×Str)}
theorem Q5 (e:sel h tabs a=some o):h.get? a=some o/\Fg o=true/\∀t∈tabs,t.2.1≠a:=by
 obtain⟨c,d,b⟩:=bc.mp e
 grind
theorem B1d (e:h.get? a=some o) (hp:Fg o=true) (hn:∀t∈tabs,t.2.1≠a):sel h tabs a=some o:=by
 unfold sel
 grind
theorem Pj (e:sel h tabs a=some o):(Qc h tabs).lookup a=some o:=by
 unfold Qc;rw[List.lookup_append,Mp,if_pos (cD.mpr (Heap.lt_size (Q5 e).1)),e];rfl
theorem V5 {a:Addr}{o:Obj}:∀{tabs:List (Addr×Addr×Str)},(tabs.map λt=>(t.1,Ax1 t.2.1 t.2.2)).lookup a=some o->∃t∈tabs,t.1=a
 | [],e=>by cases e
 | t::r,e=>by
  rw[aG,aN]at e
  split at e
  ·rename_i z
   exact⟨t,aP,by simpa using (eq_comm.mp (by simpa using z))⟩
  ·obtain⟨t',h1,h2⟩:=V5 e
   exact⟨t',aW _ h1,h2⟩
theorem B5i (ht:∀t∈tabs,CodeHd h t.1 t.2.1/\h.get? t.2.1=some { cls:=.none,data:=.fields #[] })(D:∀t∈tabs,(tabs.map λt=>(t.2.1,t.2.2)).lookup t.2.1=some t.2.2) :
 (Qc h tabs).In h/\TabAt (Qc h tabs) h/\(∀t∈tabs,codeHdIn (Qc h tabs) t.1 t.2.1=true/\(t.2.1,t.2.2)∈Ef (Qc h tabs))/\∀a o,h.get? a=some o->Fg o=true->o.data≠.fields #[]->(Qc h tabs).lookup a=some o:=by
 have g:∀a o,h.get? a=some o->Fg o=true->o.data≠.fields #[]->sel h tabs a=some o:=λa o e d j=>B1d e d λt m z=>by
  have:=(ht t m).2;rw[z,e]at this;cases this;exact j rfl
 have code:∀t∈tabs,∃o i,h.get? t.1=some o/\o.cls=.type "code" /\ o.data=.fields i/\i[11]?=some (.ref t.2.1)/\sel h tabs t.1=some o:=λt m=>by
  obtain⟨o,i,_,_,_,_,_,_,_,w,v,l,u,_⟩:=(ht t m).1
  refine⟨o,i,w,v,l,u,g t.1 o w (by unfold Fg;rw[l]) λz=>?_⟩
  rw[l]at z
  injection z with z
  rw[z]at u;simp at u
 have c:∀{a:Addr} {o:Obj},(Qc h tabs).lookup a=some o->sel h tabs a=some o:=λ{a o} e=>by
  cases q:sel h tabs a with
  | some y=>rw[Pj q]at e;exact e
  | none =>
   unfold Qc at e;rw[List.lookup_append,Mp]at e
   have F:(if a∈List.range h.objs.size then sel h tabs a else none)=none:=by
    split
    ·exact q
    ·rfl
   rw[F]at e
   obtain⟨t,m,z⟩:=V5 (show (tabs.map λt=>(t.1,Ax1 t.2.1 t.2.2)).lookup a=some o from e)
   obtain⟨_,_,_,_,_,_,s⟩:=code t m;rw[z,q]at s;cases s
 have k:Ef (Qc h tabs)=tabs.map λt=>(t.2.1,t.2.2):=by
  unfold Ef Qc;rw[List.filterMap_append]
  have x:((List.range h.objs.size).filterMap λa=>(sel h tabs a).map λo=>(a,o)).filterMap (λp=>U8 p.2)=[]:=by
   rw[List.filterMap_eq_nil_iff];intro p d;obtain⟨a,_,e⟩:=bW.mp d;obtain⟨o,x,rfl⟩:=aM.mp e;have j:=(Q5 x).2.1
   show U8 o=none
   unfold U8;unfold Fg at j
   split
   ·rename_i z;rw[z]at j;cases j
   ·rfl
  have Q:(tabs.map λt=>(t.1,Ax1 t.2.1 t.2.2)).filterMap (λp=>U8 p.2)=tabs.map λt=>(t.2.1,t.2.2):=by
   clear g c code D ht x
   induction tabs with
   | nil=>rfl
   | cons t r S =>
    rw[aG,cG]
    show (t.2.1,t.2.2)::_=_
    rw[S];rfl
  rw[x,Q,cQ]
 have B:(Qc h tabs).In h:=λa o e=>(Q5 (c e)).1
 refine⟨B,⟨λp d=>?_,λp d=>?_⟩,λt m=>⟨?_,?_⟩,λa o e d j=>Pj (g a o e d j)⟩
 ·rw[k]at d
  obtain⟨t,m,rfl⟩:=aO.mp d;obtain⟨o,i,w,v,l,u,_⟩:=code t m
  refine⟨(ht t m).2,⟨t.1,o,i,w,v,l,u⟩,?_⟩
  cases q:(Qc h _).lookup _ with
  | none=>rfl
  | some y=>exact absurd rfl ((Q5 (c q)).2.2 t m)
 ·rw[k]at d ⊢
  obtain⟨t,m,rfl⟩:=aO.mp d;exact D t m
 ·obtain⟨o,i,_,v,l,_,s⟩:=code t m
  obtain⟨y,G,f,tf,fl,tg,b,n,tt,J,K,L,M,g5,I,N,H,P,A⟩:=(ht t m).1;have O := bV (J.symm.trans (Q5 s).1);subst O;obtain⟨R,od,C,E⟩:=y
  cases (show R=Value.type _ from K)
  cases (show C=Data.fields _ from L)
  unfold codeHdIn;rw[(Pj s)];simp only[M,I,N,H,P]
  simp[A]
 ·rw[k];exact aO.mpr ⟨t,m,rfl⟩
end
section
variable {q:u6}{loose:v4}{mean:ExcName->u9}{mg mb:x_}{h:Heap}{K:Frag}
theorem A2j (j:∀a o,h.get? a=some o->Fg o=true->o.data≠.fields #[]->K.lookup a=some o) (c:h.CodeRec f x):codeIn K f x=true:=by
 obtain⟨a,o,b,t,rfl,g,d,e⟩:=c
 have k:=j a o g (by unfold Fg;rw[d]) λz=>by grind
 obtain⟨oc,od,m,i⟩:=o
 show (match K.lookup a with
  | some ⟨_,_,.fields b,_⟩=>match b.toList with | _::.str n _::_=>n==x | _=>false
  | _=>false)=true
 obtain⟨l⟩:=b
 match l,e with
 | _::.str n u::_,e =>
  simp_all
theorem Bp5 (T:Top q loose mean mg mb h)(i:∀a o,h.get? a=some o->Fg o=true->o.data≠.fields #[]->K.lookup a=some o) {st:Stmt}(hd:d∈recsOf q) (w:d.params=J7 st) (l:d.body=Dr st) (m:d.scope=Aj st) :
 ∃f fd,Fun K d.name d.name st f fd/\mg d.name=some (.ref f):=by
 obtain⟨a,o,e,b,c,n,p,r,s⟩:=T.fn d hd
 have k:=i a o p (by unfold Fg;grind) λz=>by simp_all
 obtain⟨t,u,v,g⟩:=o
 cases (r)
 have j:PySem.Calls.docDef d.name d.params d.body d.scope e b c=fnOf d.name d.name (J7 st) (Dr st) (Aj st) .none .none c e none b .none:=by rw[w,l,m];rfl
 refine⟨a,_,⟨⟨t,u,.none,c,e,none,b,.none,g,j,k,A2j i s⟩,?_⟩,n⟩
 unfold keepIn
 grind
theorem Bm4 (T:Top q loose mean mg mb h){d:DefRec}(hd:d∈recsOf q):∃c P:Addr,CodeHd h c P/\h.get? P=some { cls:=.none,data:=.fields #[] }/\∀f o b,mg d.name=some (.ref f)->h.get? f=some o->o.data=.func b->b.code=.ref c:=by
 obtain⟨a,o,b,c,P,m,j,p,k,g,e⟩:=T.tab d hd
 refine⟨c,P,CodeHd.of g e,e.2,λf n i r s l=>?_⟩
 simp_all
noncomputable def A7u (q:u6) (loose:v4) (RN:v4) (x:Str):Bool:=!startupNames.contains x&&!loose.contains x&&!RN.contains x&&!((litsOf q).map (·.1)).contains x&&!((clssOf q loose).map (·.name)).contains x
theorem Dc (T:Top q loose mean mg mb h){a bs:v4}(f:(recsOf q).map (·.name)=a)(hb:bs.all (A7u q loose a)=true) (hx:x∈bs):mg x=none:=by
 have:=aL.mp hb x hx;unfold A7u at this;simp only[bC,fW,List.contains_eq_mem,decide_eq_false_iff_not]at this;obtain⟨⟨⟨⟨d,c⟩,g⟩,e⟩,b⟩:=this
 exact T.free x d c (by grind) e b
end
theorem Ai7 (a:(recsOf q).map (λd=>(d.name,d.params,d.body,d.scope))=L) {i:Nat} (e:L[i]?=some x) :
 ∃d,d∈recsOf q/\d.name=x.1/\d.params=x.2.1/\d.body=x.2.2.1/\d.scope=x.2.2.2:=by
 grind
theorem Cg (a:(recsOf q).map (λd=>(d.name,d.params,d.body,d.scope))=L):(recsOf q).map (·.name)=L.map (·.1):=by
 rw[<- a,cY];rfl
theorem A9n {K:Frag}{h:Heap}{x qual:Str}{st:Stmt}{f:Addr}{a:u5}{v:Value}{mg:x_}(F:Fun K x qual st f a)(b:K.In h)(hc:∀f o a,mg x=some (.ref f)->h.get? f=some o->o.data=.func a->a.code=v)(hm:mg x=some (.ref f)):a.code=v:=by
 obtain⟨j,p,m,g,k,l,d,n,i,e,c,_⟩:=F.ex;exact hc f _ _ hm (b _ _ c) rfl
theorem A5m {K:Frag} {st:Stmt} (F:Fun K x qual st f c) (h:∀(d a e:Value) (i:Option Addr) (b g:Value) (s:u_) (u:Value),BindsTo s (fnOf x qual (J7 st) (Dr st) (Aj st) .none d a e i b g) ⟨[u],[]⟩ [(y,u)]):∀(s:u_) (u:Value),BindsTo s c ⟨[u],[]⟩ [(y,u)]:=by
 obtain⟨m,n,d,a,e,i,b,g,j,k,l,_⟩:=F.ex
 simp_all
end L2
namespace L2
open PySem PySem.Spec PyProof.Rows
section
variable {P:u6}{w:World}{A:q9}{E:z_}{s:u_}
theorem Av3:((Manifest.find? "dict_keyiterator").elim "dict_keyiterator" λx=>x.tpName) = "dict_keyiterator" := by rfl
theorem A6b (f:s.heap.IsKeyIter it dd i es.size e) (u:s.heap.get? dd=some od) (a:od.data=.dict es e) (hi:i<es.size)
 (q:∀h',h'.IsKeyIter it dd (i+1) es.size e->Heap.SameBut it s.heap h'->Q (some es[i].key) { s with heap:=h' }):wpAny (model P w) A (pyNext (.ref it)) Q E s:=by
 obtain⟨k,g,d,z,r⟩:=s;obtain⟨⟨c,v,x,G⟩,l,m,h⟩:=f;obtain⟨C,j,o,t⟩:=od;simp only at m h a;subst m h a;have n:(⟨k,g,d,z,r⟩:u_).TypeIs (.ref it) "dict_keyiterator" := ⟨_,l,rfl⟩;have D:=mroOf_keyiter
 have p:Builtin.Dict_items.ownsTuple "dict_keyiterator" = false:=by decide
 have y:es[(i:Int).toNat]?=some es[i]:=by simp[hi]
 unfold pyNext
 refine wpAny_bind (wpAny_attempt (wpAny_callSpecial?_slot (name:="__next__") n F.slot_dict_keyiterator_next (wpAny_call_entry F.slot_dict_keyiterator_next n F.entry_dict_keyiterator_next ?_ (F.args_dict_keyiterator_next_1 _))))
 repeat any_goals first | assumption | wp_step
 simp only[Av3,p,cM,bJ,List.drop_zero,List.take]
 have B:¬ ((i:Int)<0):=by lia
 simp only[B,bJ,y]
 repeat any_goals first | assumption | wp_step
 simp only[Av3,p,cM,bJ]
 have b:(k.update it (Obj.mapFields (·.setIfInBounds 1 (rawInt ((i:Int)+1))))).IsKeyIter it dd (i+1) es.size e :=
  ⟨_,Heap.get?_update_self _ l (Obj.isFreed_of_fields (Obj.data_mapFields rfl _)),Obj.cls_mapFields ..,by rw[Obj.data_mapFields rfl];simp[rawInt]⟩
 exact⟨_,rfl,wpAny_pure (q _ b (Heap.SameBut.update ..))⟩
theorem Bi6 (a:A.handled=none) (f:s.heap.IsKeyIter it dd i es.size j) (u:s.heap.get? dd=some od) (e:od.data=.dict es j) (hi:es.size<=i)
 (v:∀h',Heap.ExtBut it s.heap h'->Q none { s with heap:=h' }):wpAny (model P w) A (pyNext (.ref it)) Q E s:=by
 obtain⟨z,g,d,r,x⟩:=s;obtain⟨⟨c,p,q,D⟩,t,h,l⟩:=f;obtain⟨G,k,m,B⟩:=od;simp only at h l e;subst h l e;have n:(⟨z,g,d,r,x⟩:u_).TypeIs (.ref it) "dict_keyiterator" := ⟨_,t,rfl⟩;have H:=mroOf_keyiter
 have y:Builtin.Dict_items.ownsTuple "dict_keyiterator" = false:=by decide
 have C:es[(i:Int).toNat]?=none:=by simp[hi]
 unfold pyNext
 refine wpAny_bind (wpAny_attempt (wpAny_callSpecial?_slot (name:="__next__") n F.slot_dict_keyiterator_next (wpAny_call_entry F.slot_dict_keyiterator_next n F.entry_dict_keyiterator_next ?_ (F.args_dict_keyiterator_next_1 _))))
 repeat any_goals first | assumption | wp_step
 simp only[Av3,y,cM,bJ,List.drop_zero,List.take]
 have o:¬ ((i:Int)<0):=by lia
 simp only[o,bJ,C]
 repeat any_goals first | assumption | wp_step
 refine wpAny_raiseNew_none (show A.in1.handled=none from a) ?_
 refine wpAny_bind (wpAny_isInstance (T := "StopIteration") (b:=true) ⟨_,Heap.get?_push_size _ rfl,rfl⟩ isSubtype_stop ?_)
 exact wpAny_pure (v _ (((Heap.SameBut.update ..).extBut.push _).push _))
theorem Be4 (q:(dd==sysModules)=false) (b:s.heap.get? dd=some od) (hx:od.ExactDict) (a:od.data=.dict es k)
 (m:Q (.ref s.heap.objs.size) { s with heap:=s.heap.push { cls:=.type "dict_keyiterator",data:=.fields #[.ref dd,.int 0 0,.int es.size 0,.int k 0] } }):wpAny (model P w) A (pyIter (.ref dd)) Q E s:=by
 obtain⟨o,g,d,p,l⟩:=s;obtain⟨t,f,e,n⟩:=od;obtain⟨i,h,j⟩:=hx;simp only at i h j a;subst i h j a;have c:(⟨o,g,d,p,l⟩:u_).TypeIs (.ref dd) "dict" := ⟨_,b,rfl⟩
 refine wpAny_pyIter_slot c F.slot_dict_iter (wpAny_call_entry F.slot_dict_iter c F.entry_dict_iter ?_ (F.args_dict_iter_1 _))
 unfold Builtin.«dict.__iter__» Builtin.Dict.dictSlotNone
 refine wpAny_bind (wpAny_bind (wpAny_notOrdered_dict c (wpAny_pure ?_)))
 have r:Builtin.Dict.showsAll dd=pure ():=by unfold Builtin.Dict.showsAll;rw[if_neg (by rw[q];exact aQ)]
 show wpAny _ _ (Builtin.Dict.showsAll dd >>= _) _ _ _
 repeat any_goals first | assumption | wp_step
 exact⟨_,rfl, "dict_keyiterator",_,⟨_,Heap.get?_push_size _ rfl,rfl⟩,F.slot_dict_keyiterator_next.lookup,m⟩
end
section
variable {P:u6}{w:World}{A:q9}{E:z_}{s:u_}
theorem A5c (quiet:A.handled=none){it dd:Addr}(ne:dd≠it){es:v8}{ep:Nat}{o:Obj}(hd:o.data=.dict es ep) :
 Walks P w A it [it,dd] [it] es.size (λi v=>∃h:i<es.size,v=es[i].key) (λi h=>h.IsKeyIter it dd i es.size ep/\h.get? dd=some o) where
 sub:=λb hb=>by simp at hb;simp[hb]
 frame:=λ_ _ _ st hk=>⟨let ⟨o,e,r⟩:=st.1; ⟨o,hk it (by simp) o e,r⟩,hk dd (by simp) _ st.2⟩
 item:=λi s Q E hi st hQ=>A6b st.1 st.2 hd hi λh' it' sb=>hQ _ h' s.toks ⟨hi,rfl⟩ ⟨it',(sb.2 _ ne).trans st.2⟩ λb o hb e=>(sb.2 b (λh=>hb (by simp[h]))).trans e
 done:=λs Q E st hQ=>Bi6 quiet st.1 st.2 hd (ak _) λh' he=>hQ h' s.toks λb o hb e=>he b o (λh=>hb (by simp[h])) e
 self:=λ_ _ _ _ st hQ=>wpAny_pyIter_keyiter st.1 hQ
theorem A6m:typeLookup (.type "dict") "__len__" = pure (some (.builtin "dict.__len__")):=by trivial
theorem A6g:isSubtype (.type "dict") (.type "dict")=pure true:=by rfl
theorem Ac2 (f:A.handled=none) (T:(dd==sysModules)=false) (x:s.heap.get? dd=some o) (C:o.ExactDict) (hd:o.data=.dict es d) (hn:es.size<=sizeLine)
 (R:∀c acc,(∀b o,s.heap.get? b=some o->c.heap.get? b=some o)->c.gens=s.gens->c.drawn=s.drawn->c.os=s.os->ItemsOf (λi v=>∃h:i<es.size,v=es[i].key) acc es.size->Q acc.toList c):wpAny (model P w) A (collect (.ref dd)) Q E s:=by
 unfold collect
 refine wpAny_bind (wpAny_runValue (codeAny_builtin F.entry_proto_collect ?_))
 rw[Around.under_plainId F.plain_proto_collect _]
 show wpAny _ A.in1 (newList [] >>= λl=>again (.builtin "list.__iadd__" ⟨[l,.ref dd],[]⟩)) _ _ s
 refine wpAny_bind (wpAny_newObj_type ?_)
 refine wpAny_pure ⟨plainId_quiet F.plain_list_iadd _,codeAny_builtin F.entry_list_iadd ?_⟩
 rw[Around.under_plainId F.plain_list_iadd _];have B:s.heap.objs.size≠dd:=bw (Heap.lt_size x)
 have N:Builtin.List.listSameRef (.ref s.heap.objs.size) (.ref dd)=false:=by simp[Builtin.List.listSameRef,B]
 have z:=Heap.get?_push_of_some { cls:=.type "list",data:=.seq ([]:w6).toArray } x;have S:(s.heap.push { cls:=.type "list",data:=.seq ([]:w6).toArray }).get? s.heap.objs.size=some { cls:=.type "list",data:=.seq ([]:w6).toArray }:=Heap.get?_push_size _ rfl
 show wpAny _ A.in1 (Builtin.List.listExtendWith (.ref s.heap.objs.size) (.ref dd) (.ref s.heap.objs.size)) _ _ _
 unfold Builtin.List.listExtendWith
 have U:({ s with heap:=s.heap.push { cls:=.type "list",data:=.seq ([]:w6).toArray } }:u_).TypeIs (.ref dd) "dict" := ⟨_,z,C.1⟩
 refine wpAny_bind (wpAny_typeOf U ?_)
 have k:(Value.type "dict" == Value.type "list")=false:=by decide
 have J:(Value.type "dict" == Value.type "tuple")=false:=by decide
 simp only[N,k,J,Bool.or_false,cM,bJ]
 refine wpAny_bind (Be4 T z C hd ?_)
 have D:=Heap.get?_push_of_some { cls:=.type "dict_keyiterator",data:=.fields #[.ref dd,.int 0 0,.int es.size 0,.int d 0] } z;have q:=Heap.get?_push_of_some { cls:=.type "dict_keyiterator",data:=.fields #[.ref dd,.int 0 0,.int es.size 0,.int d 0] } S;have G:((s.heap.push { cls:=.type "list",data:=.seq ([]:w6).toArray }).push { cls:=.type "dict_keyiterator",data:=.fields #[.ref dd,.int 0 0,.int es.size 0,.int d 0] }).IsKeyIter (s.heap.push { cls:=.type "list",data:=.seq ([]:w6).toArray }).objs.size dd 0 es.size d:=⟨_,Heap.get?_push_size _ rfl,rfl,rfl⟩;have K:(s.heap.push { cls:=.type "list",data:=.seq ([]:w6).toArray }).objs.size=s.heap.objs.size+1:=Heap.size_push ..
 have O:∀b o,s.heap.get? b=some o->((s.heap.push { cls:=.type "list",data:=.seq ([]:w6).toArray }).push { cls:=.type "dict_keyiterator",data:=.fields #[.ref dd,.int 0 0,.int es.size 0,.int d 0] }).get? b=some o:=λb o e=>Heap.get?_push_of_some _ (Heap.get?_push_of_some _ e)
 rw[K]at G ⊢
 generalize ((s.heap.push { cls:=.type "list",data:=.seq ([]:w6).toArray }).push { cls:=.type "dict_keyiterator",data:=.fields #[.ref dd,.int 0 0,.int es.size 0,.int d 0] })=k at *
 have j:({ s with heap:=k }:u_).TypeIs (.ref dd) "dict" := ⟨_,D,C.1⟩
 refine wpAny_bind (wpAny_holding ?_)
 unfold Builtin.List.listLengthHint
 refine wpAny_bind (wpAny_specialOf j A6m ?_)
 wp_delta
 refine wpAny_bind (wpAny_isInstance (b:=true) j A6g ?_)
 show wpAny _ A.in1 (typeOf (Value.ref dd) >>= _) _ _ _
 refine wpAny_bind (wpAny_typeOf j ?_)
 refine wpAny_pure ?_
 rw[if_pos (by decide)]
 refine wpAny_bind (wpAny_rule ?_)
 refine wpAny_bind (m:=Builtin.List.listTouch _) ?_
 unfold Builtin.List.listTouch
 refine wpAny_bind (wpAny_updateSeq q rfl ?_)
 have H:=Heap.get?_update_self (Obj.mapSeq (·.push Value.none)) q rfl
 refine wpAny_updateSeq H rfl ?_
 have Y:=Heap.get?_update_self (Obj.mapSeq (·.pop)) H rfl
 have g:∀b o,b≠s.heap.objs.size->k.get? b=some o->((k.update s.heap.objs.size (Obj.mapSeq (·.push Value.none))).update s.heap.objs.size (Obj.mapSeq (·.pop))).get? b=some o:=λb o n e=>(Heap.get?_update_other _ _ (aC n)).trans ((Heap.get?_update_other _ _ (aC n)).trans e)
 have L:=Heap.lt_size x;have M:dd≠s.heap.objs.size+1:=aD (cV L)
 have W:=A5c (P:=P) (w:=w) (A:=A.in1) (show A.in1.handled=none from f) M hd
 refine wpAny_pure ⟨plainId_quiet F.plain_extend_loop _,codeAny_extend_loopS W.toS hn s.heap.objs.size (λm=>?_) _ es.size 0 _ _ _ rfl (aB _) ⟨?_,g _ _ (aC B) D⟩ Y (ItemsOf.nil _) λc r Z u y p=>?_⟩
 ·simp only[az,a_,bj]at m
  rcases m with m | m
  ·exact absurd m (aD (cJ _))
  ·exact B m
 ·obtain⟨t,X,V⟩:=G
  exact⟨t,g _ _ (bw (cJ _)) X,V⟩
 ·show wpAny _ A (load s.heap.objs.size >>= _) _ _ c
  refine wpAny_bind (wpAny_load y ?_)
  refine wpAny_pure (R c r (λb t e=>u.heap b t (λI=>?_) (g b t (aD (Heap.lt_size e)) (O b t e))) u.gens u.drawn u.os p)
  have a:=Heap.lt_size e;simp only[az,a_,bj]at I
  rcases I with h | h
  ·rw[h]at a;exact absurd a (aY _)
  ·rw[h]at a;exact absurd a (Nat.not_lt.mpr (c7 _))
theorem Xr (t:(dd==sysModules)=false) (j:o.ExactDict) (hd:o.data=.dict es m) (hn:es.size<=sizeLine) :
 Meets (Builtin.«tuple.__new__» ⟨[.type "tuple",.ref dd],[]⟩)
  (λA R s=>A.handled=none/\s.heap.get? dd=some o/\∀(s':u_) (acc:v7),(∀b o,s.heap.get? b=some o->s'.heap.get? b=some o)->s'.gens=s.gens->s'.drawn=s.drawn->s'.os=s.os->ItemsOf (λi v=>∃h:i<es.size,v=es[i].key) acc es.size ->
   R (.ok (.ret (.ref s'.heap.objs.size))) { s' with heap:=s'.heap.push { cls:=.type "tuple",data:=.seq acc } }) :=
 .of_wp λP w A R s h=>by
  obtain⟨p,k,h⟩:=h;have l:=sub_tuple_self;have c:=init_tuple_lookup;have u:=madeHere_tuple;have n:s.TypeIs (.ref dd) "dict" := ⟨_,k,j.1⟩;have f:A.in1.handled=none:=p
  wp_walk using wpAny_typeOf n,Ac2 f t k j hd hn
  intro s' acc q r d g a
  refine wpAny_bind (wpAny_pure ?_)
  show wpAny _ _ (Builtin.Tuple.tupleExact acc.toList.toArray >>= λv=>ret v) _ _ _
  unfold Builtin.Tuple.tupleExact
  have e:acc.toList.toArray=acc:=by simp
  refine wpAny_bind (wpAny_newObj_type ?_ (by rw[e];show acc.size<=sizeLine;rw[a.1];exact hn))
  refine wpAny_pure ⟨_,rfl,?_⟩
  rw[e];exact h s' _ q r d g a
theorem Yn (a:A.handled=none) (e:(dd==sysModules)=false) (f:s.heap.get? dd=some o) (g:o.ExactDict) (hd:o.data=.dict es d) (hn:es.size<=sizeLine)
 (h:∀(h':Heap) (tk:Nat) (acc:v7),(∀b o,s.heap.get? b=some o->h'.get? b=some o)->ItemsOf (λi v=>∃h:i<es.size,v=es[i].key) acc es.size->Q (.ref h'.objs.size) { s with heap:=h'.push { cls:=.type "tuple",data:=.seq acc },toks:=tk }) :
 wpAny (model P w) A (call (.type "tuple") [.ref dd]) Q E s:=by
 refine callType_new F.called_tuple (by rfl) (F.typeCall_tuple_1 _) (F.newCall_tuple_1 _) (λk=>F.args_object_init_2 _ _) F.entry_tuple_new
  (Xr e g hd hn) ⟨a,f,λm acc n p j l c=>⟨⟨_,Heap.get?_push_size _ rfl,rfl⟩,?_⟩⟩
 grind
end
end L2
namespace L2
open PySem PySem.Spec PyProof.Rows PySem.W
def A3m (tc:List (Str×v4))(mg:x_)(h:Heap):Prop:=∀q∈tc,∃a o its n,mg q.1=some (.ref a)/\h.get? a=some o/\o.cls=.type "tuple" /\ o.data=.seq its n/\its.size<=sizeLine/\Vals (q.2.map V.str) its.toList
theorem Rc:∀{ss:v4}{us:w6},Ui ss us=true->Vals (ss.map V.str) us
 | [],[],_=>.nil
 | s::ss,.str z t::us,e=>by
  obtain⟨e1,e2⟩:=au.mp (show (s==z&&Ui ss us)=true from e)
  cases bZ e1
  exact .cons ⟨t,rfl⟩ (Rc e2)
theorem B6g {s:u_}(e:d.all (A7r s.heap)=true):A3m d (s.heap.nsMap mainGlobals) s.heap:=λq m=>by
 have e:=aL.mp e q m;unfold A7r at e
 split at e
 ·rename_i a h
  split at e
  ·rename_i o g
   split at e
   ·rename_i c b n i j
    obtain⟨e,k⟩:=au.mp e;obtain⟨l,f⟩:=au.mp e
    exact⟨a,o,b,n,h,g,by rw[i,bZ l],j,aR f,Rc k⟩
   ·cases e
  ·cases e
 ·cases e
theorem A8i (mg:x_) (h h':Heap) (x:A3m c mg h) (hk:∀b o,h.get? b=some o->h'.get? b=some o):A3m c mg h':=λq m=>by
 obtain⟨a,o,d,n,f,e,r⟩:=x q m
 grind
theorem Ay4 {K:v9}(x:A3m c mg h) (f:∀a o,h.get? a=some o->Fg o=true->o.data≠.fields #[]->K.lookup a=some o) {i:Nat} (e:c[i]?=some (y,ss)):∃p,mg y=some (.ref p)/\∀H,SqT K H p (ss.map V.str):=by
 obtain⟨a,o,b,n,g,j,k,l,m,d⟩:=x _ (bG e)
 exact⟨a,g,λH=>.inr ⟨o,b,n,f a o j (by unfold Fg;grind) (by grind),k,l,m,d⟩⟩
theorem walk_ofX {l:OpenLaw} {sp:Frag->Sp}
 (hn:l.most=some n) (r:n<=sizeLine) (t:d.params.defaults=[]) (hr:Room k callerA)
 (F:∀(w:World) (g:ExcName->u9) (mg C:x_) (fa:Addr) (h:Heap),Top q (looseW q loose) g mg C h->XP mg h->mg d.name=some (.ref fa) ->
  ∃(K:Frag) (p:u5),K.In h/\TabAt K h/\(∀(s:u_) (u:Value),BindsTo s p ⟨[u],[]⟩ [(x,u)])/\∀base:Heap,K.In base->base.Ns mainGlobals mg->FnOk l.prog w K mg base CX0 k fa p [x] (sp K))
 (m:∀(K:Frag) (H:Hp) (a:Addr) (ns:List Int),ns.length<=n->SqL K H a (ns.map V.int)->sp K [.ref a] H (λv _=>v=.bl true) λ_ _ _=>False) :
 WalkO q loose XP YP l.row.toRowW d [] (λf vs=>PySem.call f vs):=by
 refine Att.Ai3 hn t λw D B mg C fa o P O J a vs ns G Y Q R E j i c b L=>?_
 obtain⟨K,p,y,A,I,M⟩:=F w _ _ _ _ _ G.T G.X j
 exact A2t y G.T.g G.T.b G.T.builtins G.T.nolimit L G.T.bmain A i c (aj b r) hr M I (λH N=>m K H a _ b N) λH e S z=>z
end L2
namespace U
open PySem L2
structure Xn where
 n:Str
 p:Option (Str×t_)
inductive Th where
 | nm (T:String)
 | dc (ks:v4) (ds:w5)
 | dt (ks ds:w5)
 | ds (ks ds:w5)
 | td (xs ks ds:w5)
 | xc (nm:Xn)
 | tc (ss:v4)
inductive O where
 | im (d:t_)
 | ls (b:Bool) (ds:w5)
 | sc (ns:List Int)
 | ty (T:Th)
abbrev m7:=Option O
abbrev m6:=List (m7)
abbrev Ev:=m6
inductive PV where
 | o (o:O)
 | sl (i:Nat)
inductive R (α:Type) where
 | ok (a:α) (c:Ev)
 | bad
abbrev n8:=Ev->R PV
abbrev n7:=Ev->R Bool
abbrev o7:=PV->Ev->R Unit
abbrev n6:=Ev->R (List PV)
abbrev o_:=Ev->R (w5)
noncomputable def R.bind {α β:Type} (r:R α) (k:α->Ev->R β):R β:=match r with
 | .ok a c=>k a c
 | .bad=>.bad
def R.sat {α:Type}(r:R α)(φ:α->Ev->Prop):Prop:=match r with
 | .ok a c=>φ a c
 | .bad=>False
theorem R.sat_bind {r:R d}{k:d->Ev->R e}{b:e->Ev->Prop}:(r.bind k).sat b↔r.sat λa c=>(k a c).sat b:=by cases r <;> exact Iff.rfl
theorem R.sat.mono {r:R d}{e b:d->Ev->Prop}(h:r.sat e) (f:∀a c,e a c->b a c):r.sat b:=by
 cases r with
 | ok a c=>exact f a c h
 | bad=>exact h
theorem R.sat.bnd {r:R d}{k:d->Ev->R e}{b:e->Ev->Prop}(h:(r.bind k).sat b):r.sat λa c=>(k a c).sat b:=R.sat_bind.mp h
noncomputable def O.bor:O->Bool
 | .ls b _=>b
 | _=>false
noncomputable def O.own:O->Bool
 | .ls _ _=>true
 | _=>false
noncomputable def O.dat:O->Option t_
 | .im d=>some d
 | .ls _ ds=>some (.list ds)
 | _=>none
noncomputable def O.flag (b:Bool):O->O
 | .ls _ ds=>.ls b ds
 | o=>o
noncomputable def nrm:PV->PV
 | .o (.ls _ ds)=>.o (.im (.list ds))
 | p=>p
noncomputable def rdP (c:Ev):PV->m7
 | .o o=>some o
 | .sl i=>(c[i]?).join
def Fw (c:Ev)(p:PV):Option t_:=(rdP c p).bind O.dat
structure Wo where
 Hf:Hp
 H:Hp
 fps:Nat->v6
def Wo.S (W:Wo):Addr->Prop:=λa=>∃i,a∈W.fps i
def B6j (Hf:Hp):Option (Str×t_)->Option Addr->Prop
 | none,d=>d=none
 | some q,d=>∃a v,d=some a/\Hf a=some (.xd [(q.1,v)])/\Tr Hf q.2 v
structure XAt (K:v9) (Hf:Hp) (nm:Xn) (C:Addr) (d:Option Addr):Prop where
 ns:PySem.W.nsIn K mainGlobals nm.n=some (some (.ref C))
 pay:B6j Hf nm.p d
theorem XAt.same {K:v9}{Hf Hf':Hp}{nm:Xn}{C:Addr}{d:Option Addr}(S:Same Hf Hf')(x:XAt K Hf nm C d):XAt K Hf' nm C d:=by
 refine⟨x.ns,?_⟩
 have q:=x.pay
 cases e:nm.p with
 | none=>rw[e]at q;exact q
 | some y=>rw[e]at q;obtain⟨a,v,h1,h2,h3⟩:=q;exact⟨a,v,h1,S _ _ h2,Tr.same S h3⟩
def RepT (K:v9)(Hf:Hp):Th->V->Prop
 | .nm T,v=>v=.ty T
 | .dc ks ds,v=>∃a xs,v=.ref a/\Hf a=some (.dK (B6w ks xs))/\TrL Hf ds xs
 | .dt ks ds,v=>∃a xs,v=.ref a/\Rd Hf a (.dT (ks.zip xs))/\TrL Hf ds xs/\ks.length=xs.length
 | .ds ks ds,v=>∃a o xs,v=.ref a/\Hf a=some (.frz o (.dT (ks.zip xs)))/\TrL Hf ds xs/\ks.length=xs.length
 | .td es ks ds,v=>∃a us b o xs,v=.ref a/\Hf a=some (.tup (us++[.ref b]))/\TrL Hf es us/\Hf b=some (.frz o (.dT (ks.zip xs)))/\TrL Hf ds xs/\ks.length=xs.length
 | .xc nm,v=>∃a C d,v=.ref a/\XAt K Hf nm C d/\Hf a=some (X6 a C d)
 | .tc ss,v=>∃p,v=.ref p/\∀H,SqT K H p (ss.map V.str)
theorem Bp2 (S:Same Hf b) (h:Rd Hf a u):Rd b a u:=h.imp (λh=>S _ _ h) λ⟨o,h⟩=>⟨o,S _ _ h⟩
theorem RepT.same {K:v9}{Hf Hf':Hp}(S:Same Hf Hf'):∀{t:Th}{v:V},RepT K Hf t v->RepT K Hf' t v
 | .nm T,_,h=>h
 | .dc ks ds,_,⟨a,xs,e,h,t⟩=>⟨a,xs,e,S _ _ h,TrL.same S t⟩
 | .dt ks ds,_,⟨a,xs,e,h,t,l⟩=>⟨a,xs,e,Bp2 S h,TrL.same S t,l⟩
 | .ds ks ds,_,⟨a,o,xs,e,h,t,l⟩=>⟨a,o,xs,e,S _ _ h,TrL.same S t,l⟩
 | .td es ks ds,_,⟨a,us,b,o,xs,e,h,t,h2,t2,l⟩=>⟨a,us,b,o,xs,e,S _ _ h,TrL.same S t,S _ _ h2,TrL.same S t2,l⟩
 | .xc nm,_,⟨a,C,d,e,n,h⟩=>⟨a,C,d,e,n.same S,S _ _ h⟩
 | .tc ss,_,h=>h
def RepN (K:v9)(Hf:Hp):O->V->Prop
 | .im d,v=>Tr Hf d v
 | .sc ns,v=>∃a,v=.ref a/\SqL K Hf a (ns.map V.int)
 | .ty T,v=>RepT K Hf T v
 | .ls _ _,_=>False
def RepO (K:v9)(Hf H:Hp)(o:O)(v:V)(fp:v6):Prop:=match o with
 | .ls _ ds=>∃a vs,v=.ref a/\fp=[a]/\Hf a=none/\H a=some (.lst vs)/\TrL Hf ds vs
 | o=>fp=[]/\RepN K Hf o v
structure Stp (S:Addr->Prop) (Hf H:Hp) (S':Addr->Prop) (Hf' H':Hp):Prop where
 fz:Same Hf Hf'
 kp:∀a o,H a=some o->¬ S a->H' a=some o
 nf:∀a o,H a=some o->Mut (some o)->¬ S a->Hf a=none->Hf' a=none
 fr:∀a,S' a->S a\/H a=none
structure Rep (K:v9) (β:Nat->V) (W:Wo) (c:Ev) (σ:St):Prop where
 sub:Same W.Hf W.H
 len:c.length=σ.length
 get:∀i o,c[i]?=some (some o)->∃v,σ[i]?=some (some v)/\RepO K W.Hf W.H o v (W.fps i)/\(o.bor=true->v=β i)
 dis:∀i j a,a∈W.fps i->a∈W.fps j->i=j
 own:∀i a,a∈W.fps i->W.Hf a=none/\∃o,W.H a=some o/\Mut (some o)
def En (K:v9)(W:Wo)(σ:St):PV->V->v6->Prop
 | .o o,v,fp=>RepO K W.Hf W.H o v fp/\∀a∈fp,¬ W.S a
 | .sl i,v,fp=>fp=[]/\σ[i]?=some (some v)
def RepA (K:v9)(Hf:Hp)(σ:St):PV->V->Prop
 | .o o,v=>RepN K Hf o v
 | .sl i,v=>σ[i]?=some (some v)
def zO (K:v9)(Hf:Hp)(σ:St):List PV->m8->Prop
 | [],vs=>vs=[]
 | p::ps,vs=>∃v r,vs=v::r/\RepA K Hf σ p v/\zO K Hf σ ps r
abbrev orS (S:Addr->Prop)(fp:v6):Addr->Prop:=λa=>S a\/a∈fp
section
variable {K:v9}{β:Nat->V}{W W':Wo}{c c':Ev}{σ:St}{Hf Hf' Hf2 H H' H2:Hp}{o:O}{v:V}{fp:v6}{S S' S2:Addr->Prop}{p:PV}{a:Addr}
theorem Stp.refl:Stp S Hf H S Hf H:=⟨λ_ _ h=>h,λ_ _ h _=>h,λ_ _ _ _ _ h=>h,λ_ h=>.inl h⟩
theorem Stp.trans (x:Stp S Hf H S' Hf' H')(y:Stp S' Hf' H' S2 Hf2 H2):Stp S Hf H S2 Hf2 H2:=by
 have b:∀a o,H a=some o->¬ S a->¬ S' a:=λa o h n z=>by
  rcases x.fr a z with q | q
  ·trivial
  simp_all
 refine⟨x.fz.trans y.fz,λa o h n=>y.kp a o (x.kp a o h n) (b a o h n),λa o h c n q=>y.nf a o (x.kp a o h n) c (b a o h n) (x.nf a o h c n q),λa h=>?_⟩
 rcases y.fr a h with q | q
 ·exact x.fr a q
 ·cases e:H a with
  | none=>simp_all
  | some o =>
   by_cases n:S a
   ·grind
   ·rw[x.kp a o e n]at q;grind
theorem Stp.less (x:Stp S Hf H S' Hf' H')(h:∀a,S2 a->S' a):Stp S Hf H S2 Hf' H':=⟨x.fz,x.kp,x.nf,λa q=>x.fr a (h a q)⟩
theorem Stp.more {F:Addr->Prop}(x:Stp S Hf H S' Hf' H'):Stp (λa=>S a\/F a) Hf H (λa=>S' a\/F a) Hf' H' :=
 ⟨x.fz,λa o h n=>x.kp a o h λz=>n (.inl z),λa o h b n q=>x.nf a o h b (λz=>n (.inl z)) q,λa q=>by
  rcases q with q | q
  ·rcases x.fr a q with z | z
   ·simp_all
   grind
  simp_all⟩
theorem Stp.up (x:Stp S Hf H S' Hf' H')(h:∀a,S a->S2 a):Stp S2 Hf H S' Hf' H' :=
 ⟨x.fz,λa o e n=>x.kp a o e λz=>n (h a z),λa o e b n q=>x.nf a o e b (λz=>n (h a z)) q,λa q=>(x.fr a q).imp (h a) id⟩
theorem RepN.same (S:Same Hf Hf'):∀{o:O}{v:V},RepN K Hf o v->RepN K Hf' o v
 | .im d,_,h=>Tr.same S h
 | .sc ns,_,⟨a,e,h⟩=>⟨a,e,Same.seq S h⟩
 | .ty T,_,h=>RepT.same S h
 | .ls _ _,_,h=>h
theorem RepA.same (S:Same Hf Hf'):∀{p:PV}{v:V},RepA K Hf σ p v->RepA K Hf' σ p v
 | .o _,_,h=>RepN.same S h
 | .sl _,_,h=>h
theorem zO.same (S:Same Hf Hf'):∀{ps:List PV}{vs:m8},zO K Hf σ ps vs->zO K Hf' σ ps vs
 | [],_,h=>h
 | p::ps,_,⟨v,r,e,h,t⟩=>⟨v,r,e,RepA.same S h,zO.same S t⟩
theorem RepO.mono (h:RepO K Hf H o v fp)(S:Same Hf Hf')(h1:∀a∈fp,Hf' a=none/\H' a=H a):RepO K Hf' H' o v fp:=by
 cases o with
 | ls b ds =>
  obtain⟨a,f,rfl,rfl,q,e,t⟩:=h;obtain⟨c,g⟩:=h1 a (.head _);exact⟨a,f,rfl,rfl,c,g.trans e,TrL.same S t⟩
 | im d=>exact⟨h.1,RepN.same S h.2⟩
 | sc ns=>exact⟨h.1,RepN.same S h.2⟩
 | ty T=>exact⟨h.1,RepN.same S h.2⟩
theorem Rep.frame (R:Rep K β W c σ)(S:Same W.Hf Hf')(sub:Same Hf' H')(h:∀a,W.S a->Hf' a=none/\H' a=W.H a):Rep K β ⟨Hf',H',W.fps⟩ c σ :=
 ⟨sub,R.len,λi o e=>by
  obtain⟨v,f,r,b⟩:=R.get i o e
  exact⟨v,f,r.mono S λa d=>h a ⟨i,d⟩,b⟩,R.dis,λi a d=>by
  obtain⟨_,o,q,j⟩:=R.own i a d;obtain⟨k,g⟩:=h a ⟨i,d⟩
  grind⟩
theorem Rep.notS (R:Rep K β W c σ)(h:W.H a=none):¬ W.S a:=λ⟨i,q⟩=>by
 obtain⟨_,o,e,_⟩:=R.own i a q
 grind
theorem Rep.notF (R:Rep K β W c σ)(h:W.H a=none):W.Hf a=none:=Same.free R.sub h
theorem Stp.rep (R:Rep K β W c σ)(x:Stp (λ_=>False) W.Hf W.H S' Hf' H')(sub:Same Hf' H'):Rep K β ⟨Hf',H',W.fps⟩ c σ :=
 R.frame x.fz sub λa d=>by
  obtain⟨i,f⟩:=d;obtain⟨z,o,e,b⟩:=R.own i a f
  exact⟨x.nf a o e b (λz=>z) z,(x.kp a o e λz=>z).trans e.symm⟩
theorem Cu {p:Addr}{o:HO}(h:H p=none):Same H (upd H p o):=λb u e=>by
 rw[Ak];exact e
 grind
theorem Rm {o:HO}(s:Same Hf H):Same (upd Hf a o) (upd H a o):=λb u e=>by
 unfold upd at e ⊢
 split
 ·grind
 ·rename_i z;rw[if_neg z]at e;exact s b u e
theorem Stp.newF {o:HO}(s:Same Hf H)(h:H a=none):Stp (λ_=>False) Hf H (λ_=>False) (upd Hf a o) (upd H a o) :=
 ⟨Cu (Same.free s h),λb u e _=>Cu h b u e,λb u e _ _ q=>by rw[Ak (Ay e h)];grind,λ_ z=>z.elim⟩
theorem Stp.newL {o:HO}(s:Same Hf H)(h:H a=none):Stp (λ_=>False) Hf H (λb=>b∈[a]) Hf (upd H a o) :=
 ⟨Same.refl _,λb u e _=>Cu h b u e,λb u e _ _ q=>q,λb z=>by
  grind⟩
theorem Uk {o:HO}(s:Same Hf H)(h:H a=none):Same Hf (upd H a o):=s.trans (Cu h)
def ME (K:v9)(T:TE)(f:n8):Prop:=∀(β:Nat->V) (W:Wo) (c:Ev) (σ:St) (Q:VK),Rep K β W c σ ->
 (f c).sat (λp c'=>∀v W' fp,Stp W.S W.Hf W.H (orS W'.S fp) W'.Hf W'.H->Rep K β W' c' σ->En K W' σ p v fp->Q v W'.H)->T σ W.H Q
def MV (K:v9)(T:TE)(f:n8):Prop:=∀(β:Nat->V) (W:Wo) (c:Ev) (σ:St) (Q:VK),Rep K β W c σ ->
 (f c).sat (λp c'=>∀v W',Stp W.S W.Hf W.H W'.S W'.Hf W'.H->Rep K β W' c' σ->RepA K W'.Hf σ (nrm p) v->Q v W'.H)->T σ W.H Q
def MA (K:v9)(T:TA)(f:n6):Prop:=∀(β:Nat->V) (W:Wo) (c:Ev) (σ:St) (Q:m8->Hp->Prop),Rep K β W c σ ->
 (f c).sat (λps c'=>∀vs W',Stp W.S W.Hf W.H W'.S W'.Hf W'.H->Rep K β W' c' σ->zO K W'.Hf σ ps vs->Q vs W'.H)->T σ W.H Q
def MT (K:v9)(T:TT)(f:n7):Prop:=∀(β:Nat->V) (W:Wo) (c:Ev) (σ:St) (Q:Bool->Hp->Prop),Rep K β W c σ ->
 (f c).sat (λb c'=>∀W',Stp W.S W.Hf W.H W'.S W'.Hf W'.H->Rep K β W' c' σ->Q b W'.H)->T σ W.H Q
theorem Ag6 (R:Rep K β W c σ) (hf:W.Hf a=none) (h:W.H a=some (.lst vs)) (hn:¬ W.S a):Rep K β ⟨upd W.Hf a (.lst vs),W.H,W.fps⟩ c σ :=
 R.frame (Cu hf) (λb u e=>by
  unfold upd at e
  split at e
  ·grind
  ·exact R.sub b u e) λb f=>by
   obtain⟨i,g⟩:=f
   have d:b≠a:=λz=>hn ⟨i,by simp_all⟩
   exact⟨by rw[Ak d];exact(R.own i b g).1,rfl⟩
theorem Bu1 {Q:VK} (k:∀v c,Stp W.S W.Hf W.H c.S c.Hf c.H->Rep K β c c' σ->RepA K c.Hf σ (nrm p) v->Q v c.H) (v:V) (c:Wo) (fp:v6) (st:Stp W.S W.Hf W.H (orS c.S fp) c.Hf c.H) (g:Rep K β c c' σ) (f:En K c σ p v fp):Q v c.H:=by
 cases p with
 | sl i =>
  obtain⟨rfl,e⟩:=f
  exact k v _ (st.less λa z=>.inl z) g e
 | o o =>
  cases o with
  | im d =>
   obtain⟨⟨rfl,e⟩,_⟩:=f
   exact k v _ (st.less λa z=>.inl z) g e
  | sc d =>
   obtain⟨⟨rfl,e⟩,_⟩:=f
   exact k v _ (st.less λa z=>.inl z) g e
  | ty d =>
   obtain⟨⟨rfl,e⟩,_⟩:=f
   exact k v _ (st.less λa z=>.inl z) g e
  | ls b ds =>
   obtain⟨⟨a,l,rfl,rfl,h,r,t⟩,m⟩:=f
   refine k _ ⟨upd _ a _,c.H,c.fps⟩ ⟨st.fz.trans (Cu h),st.kp,λb o e s n q=>?_,λb z=>st.fr b (.inl z)⟩ (Ag6 g h r (m a (.head _))) ?_
   ·have j:b≠a:=λz=>by
     rcases st.fr a (.inr (.head _)) with y | y
     ·grind
     simp_all
    show upd _ a _ b=none
    rw[Ak j];exact st.nf b o e s n q
   ·exact⟨a,l,rfl,Bd,TrL.same (Cu h) t⟩
theorem ME.toV (h:ME K T f):MV K T f:=λe W c j Q R s=>h _ W c _ Q R (s.mono λp l k v g i a d b=>Bu1 k v _ _ a d b)
end
def RdV (Hf H:Hp):t_->V->Prop
 | .list ds,v=>∃a vs,v=.ref a/\H a=some (.lst vs)/\TrL Hf ds vs
 | d,v=>Tr Hf d v
section
variable {K:v9}{β:Nat->V}{W W':Wo}{c c':Ev}{σ:St}{Hf Hf' H H':Hp}{o:O}{v:V}{fp:v6}{S:Addr->Prop}{p:PV}{a:Addr}{d:t_}
theorem RdV.of (s:Same Hf H)(h:Tr Hf d v):RdV Hf H d v:=by
 cases d with
 | list f=>obtain⟨a,c,e,q,t⟩:=h;exact⟨a,c,e,s _ _ q,t⟩
 | none=>exact h
 | bool b=>exact h
 | int i=>exact h
 | str x=>exact h
 | tuple f=>exact h
 | dict k=>exact h
theorem RdV.tr (s:Same Hf H)(h:RdV Hf H d v):Tr H d v:=by
 cases d with
 | list f=>obtain⟨a,c,e,q,t⟩:=h;exact⟨a,c,e,q,TrL.same s t⟩
 | none=>exact h
 | bool b=>exact h
 | int i=>exact h
 | str x=>exact h
 | tuple f=>exact Tr.same s h
 | dict k=>trivial
theorem Im (R:Rep K β W c σ)(h:RepA K W.Hf σ p v)(e:Fw c p=some d):RdV W.Hf W.H d v:=by
 cases p with
 | o o =>
  cases o with
  | im m=>cases e;exact .of R.sub h
  | ls b n=>trivial
  | sc k=>trivial
  | ty T=>trivial
 | sl i =>
  have l:c[i]?.join.bind _=some d:=e;obtain⟨o,g,f⟩:=bc.mp l
  have g:c[i]?=some (some o):=by
   grind
  obtain⟨u,s,r,_⟩:=R.get i o g
  cases s.symm.trans h
  cases o with
  | im m=>cases f;exact .of R.sub r.2
  | ls b n =>
   cases f
   obtain⟨a,j,e,_,_,q,t⟩:=r;exact⟨a,j,e,q,t⟩
  | sc k=>trivial
  | ty T=>trivial
def B0b (Hf H:Hp):w5->m8->Prop
 | [],vs=>vs=[]
 | d::ds,vs=>∃v r,vs=v::r/\RdV Hf H d v/\B0b Hf H ds r
def A1k (c:Ev):List PV->Option (w5)
 | []=>some []
 | p::ps=>(Fw c p).bind λd=>(A1k c ps).map (d::·)
abbrev New (K:v9)(Hf H:Hp)(o:O)(Q:VK):Prop:=∀v Hf' H' fp,Stp (λ_=>False) Hf H (λa=>a∈fp) Hf' H'->Same Hf' H'->RepO K Hf' H' o v fp->Q v H'
def OpS (K:v9)(r:R2)(op:t_->t_->m7):Prop:=∀(Hf H:Hp) (x y:V) (dx dy:t_) (o:O) (Q:VK),Same Hf H->RdV Hf H dx x->RdV Hf H dy y->op dx dy=some o->New K Hf H o Q->r x y H Q
def B4g (K:v9)(r:m8->Hp->VK->Prop)(op:w5->m7):Prop:=∀(Hf H:Hp) (xs:m8) (ds:w5) (o:O) (Q:VK),Same Hf H->B0b Hf H ds xs->op ds=some o->New K Hf H o Q->r xs H Q
theorem New.same (h:New K Hf H (.im d) Q) (s:Same Hf H) (t:Tr Hf d v):Q v H:=h v _ H [] (Stp.refl.less λa z=>nomatch z) s ⟨rfl,t⟩
theorem New.tup (h:New K Hf H (.im (.tuple ds)) Q) (s:Same Hf H) (t:TrL Hf ds vs) {p:Addr}(hp:H p=none):Q (.ref p) (upd H p (.tup vs)) :=
 h _ _ _ [] ((Stp.newF s hp).less λa z=>nomatch z) (Rm s) ⟨rfl,p,vs,rfl,Bd,TrL.same (Cu (Same.free s hp)) t⟩
theorem New.lst (h:New K Hf H (.ls false ds) Q) (s:Same Hf H) (t:TrL Hf ds vs) {p:Addr}(hp:H p=none):Q (.ref p) (upd H p (.lst vs)) :=
 h _ _ _ _ (Stp.newL s hp) (Uk s hp) ⟨p,vs,rfl,rfl,Same.free s hp,Bd,t⟩
theorem New.of (R:Rep K β W c σ) (k:∀v W' d,Stp W.S W.Hf W.H (orS W'.S d) W'.Hf W'.H->Rep K β W' c σ->En K W' σ (.o o) v d->Q v W'.H):New K W.Hf W.H o Q:=by
 intro v h j d b f r
 refine k v _ _ ⟨b.fz,λa o e _=>b.kp a o e λz=>z,λa o e i _ q=>b.nf a o e i (λz=>z) q,λa z=>?_⟩ (b.rep R f) ⟨r,λa g z=>?_⟩
 ·rcases z with z | z
  ·exact .inl z
  ·rcases b.fr a z with y | y
   ·trivial
   grind
 ·rcases b.fr a g with y | y
  ·lia
  ·exact R.notS y z
def cOp (op:t_->t_->m7)(fa fb:n8):n8:=λc=>(fa c).bind λp c=>(fb c).bind λq c =>
 match Fw c (nrm p),Fw c (nrm q) with
 | some x,some y=>match op x y with
  | some o=>.ok (.o o) c
  | none=>.bad
 | _,_=>.bad
theorem Df (ha:ME K g fa) (hb:ME K f fb) (hr:OpS K r op):ME K (tOp r g f) (cOp op fa fb):=by
 intro β W c σ Q R s
 refine ha.toV _ W c _ _ R (s.bnd.mono λp c1 l v1 W1 d i j=>?_)
 refine hb.toV _ _ _ _ _ i (l.bnd.mono λq e a v2 W2 b R2 k=>?_)
 cases ex:Fw e (nrm p) with
 | none=>simp only[ex]at a;trivial
 | some x =>
  cases ey:Fw e (nrm q) with
  | none=>simp only[ex,ey]at a;trivial
  | some y =>
   simp only[ex,ey]at a
   cases eo:op x y with
   | none=>simp only[eo]at a;trivial
   | some o =>
    simp only[eo]at a
    exact hr _ _ _ _ x y o Q R2.sub (Im R2 (RepA.same b.fz j) ex) (Im R2 k ey) eo (New.of R2 λv W' fp m n h=>a v _ _ (d.trans (b.trans m)) n h)
noncomputable def Al:n6:=λc=>.ok [] c
def Ab (f:n8)(fr:n6):n6:=λc=>(f c).bind λp c=>(fr c).bind λps c=>.ok (nrm p::ps) c
noncomputable def cK (ds:w5):n6:=λc=>.ok (ds.map λd=>.o (.im d)) c
theorem Cj:MA K Eu Al:=λb W c a Q R s=>s _ W Stp.refl R rfl
theorem Ao {d:TE} (ha:ME K d fa) (hr:MA K e f):MA K (Bt d e) (Ab fa f):=by
 intro t W c v Q R s
 refine ha.toV _ W c _ _ R (s.bnd.mono λp o i j r b h g=>?_)
 refine hr _ _ _ _ _ h (i.bnd.mono λw q m l u a n k=>?_)
 exact m _ _ (b.trans a) n ⟨j,l,rfl,RepA.same a.fz g,k⟩
noncomputable def Aa (i:Nat):n8:=λc=>match c[i]? with
 | some (some (.ls _ _))=>.ok (.sl i) c
 | some (some o)=>.ok (.o o) c
 | _=>.bad
theorem Rep.here (R:Rep K β W c σ) (h:RepN K W.Hf o v) (n:o.own=false) {Q:VK}(s:∀v W' fp,Stp W.S W.Hf W.H (orS W'.S fp) W'.Hf W'.H->Rep K β W' c σ->En K W' σ (.o o) v fp->Q v W'.H):Q v W.H :=
 s
  v W [] (Stp.refl.less λa z=>by
  grind) R ⟨by
   cases o with
   | ls b e=>trivial
   | im d=>trivial
   | sc d=>trivial
   | ty d=>trivial,λa z=>nomatch z⟩
theorem Am : ME K (Qx i) (Aa i):=by
 intro j W c h Q R s;unfold Aa at s
 cases e:c[i]? with
 | none=>simp only[e]at s;trivial
 | some x =>
  cases x with
  | none=>simp only[e]at s;trivial
  | some o =>
   obtain⟨v,f,r,_⟩:=R.get i o e
   refine⟨v,f,?_⟩
   simp only[e]at s
   cases o with
   | ls b g=>
    exact s v W _ (Stp.refl.less λa z=>by
     rcases z with z | z
     ·lia
     simp_all) R ⟨rfl,f⟩
   | im d=>exact R.here r.2 rfl s
   | sc d=>exact R.here r.2 rfl s
   | ty d=>exact R.here r.2 rfl s
noncomputable def cC (d:t_):n8:=λc=>.ok (.o (.im d)) c
noncomputable def vD:V->Option t_
 | .non=>some .none
 | .bl b=>some (.bool b)
 | .int i=>some (.int i)
 | .str x=>some (.str x)
 | _=>none
theorem Bs7:∀{v:V}{d:t_},vD v=some d->Tr H d v
 | .non,_,e=>by cases e;rfl
 | .bl b,_,e=>by cases e;rfl
 | .int i,_,e=>by cases e;rfl
 | .str x,_,e=>by cases e;rfl
 | .byt _,_,e=>nomatch e
 | .flt _,_,e=>nomatch e
 | .ref _,_,e=>nomatch e
 | .ty _,_,e=>nomatch e
theorem Dh (h:vD v=some d):ME K (tC v) (cC d):=λb W c a Q R s=>R.here (o:=.im d) (Bs7 h) rfl s
noncomputable def frz (p:PV) (c:Ev):R t_:=match p with
 | .o (.im d)=>.ok d c
 | .o _=>.bad
 | .sl i=>match c[i]? with
  | some (some (.im d))=>.ok d c
  | some (some (.ls false ds))=>.ok (.list ds) (c.set i (some (.im (.list ds))))
  | _=>.bad
noncomputable def clr (fps:Nat->v6) (i:Nat):Nat->v6:=λj=>if j=i then [] else fps j
theorem Hn (h:a∈clr b i j):a∈b j/\j≠i:=by
 unfold clr at h
 grind
theorem Rep.setN (R:Rep K β W c σ) (h:RepN K W.Hf o v) (n:o.own=false):Rep K β ⟨W.Hf,W.H,clr W.fps i⟩ (c.set i (some o)) (σ.set i (some v)):=by
 refine⟨R.sub,by rw[bK,bK];exact R.len,λj s e=>?_,λj k a m g=>R.dis j k a (Hn m).1 (Hn g).1,λj a h=>R.own j a (Hn h).1⟩
 by_cases z:j=i
 ·subst z
  by_cases l:j<c.length
  ·rw[bU l]at e
   cases e
   refine⟨v,by rw[bU (by rw[<- R.len];exact l)],?_,λb=>?_⟩
   ·show RepO K W.Hf W.H o v (clr _ j j)
    unfold clr;rw[if_pos rfl]
    cases o with
    | ls b f=>exact nomatch n
    | im d=>exact⟨rfl,h⟩
    | sc d=>trivial
    | ty d=>exact⟨rfl,h⟩
   ·cases o with
    | ls b f=>exact nomatch n
    | im d=>exact nomatch b
    | sc d=>exact nomatch b
    | ty d=>exact nomatch b
  grind
 ·rw[bN λy=>z y.symm]at e
  obtain⟨p,q,r,b⟩:=R.get j _ e
  refine⟨p,by grind,?_,b⟩
  unfold clr
  simp_all
theorem Rep.setO (R:Rep K β W c σ) (h:RepO K W.Hf W.H o v fp) (hn:∀a∈fp,¬ W.S a) (hb:o.bor=false):Rep K β ⟨W.Hf,W.H,λj=>if j=i then fp else W.fps j⟩ (c.set i (some o)) (σ.set i (some v)):=by
 refine⟨R.sub,by rw[bK,bK];exact R.len,λj o' e=>?_,λj k a f g=>?_,λj a f=>?_⟩
 ·by_cases z:j=i
  ·subst z
   by_cases l:j<c.length
   ·rw[bU l]at e
    cases e
    refine⟨v,by rw[bU (by rw[<- R.len];exact l)],?_,λb=>by rw[hb]at b;cases b⟩
    simp_all
   simp_all
  ·rw[bN λy=>z y.symm]at e
   obtain⟨v',e1,r,b⟩:=R.get j _ e
   grind
 ·have f:a∈if j=i then fp else W.fps j:=f
  have g:a∈if k=i then fp else W.fps k:=g
  split at f
  ·split at g
   ·lia
   ·exact absurd ⟨k,g⟩ (hn a f)
  ·split at g
   ·exact absurd ⟨j,f⟩ (hn a g)
   ·exact R.dis j k a f g
 ·have f:a∈if j=i then fp else W.fps j:=f
  split at f
  ·cases o with
   | ls b ds =>
    obtain⟨a',vs,_,rfl,n,m,_⟩:=h
    cases aJ.mp f
    exact⟨n,_,m,trivial⟩
   | im d=>rw[h.1]at f;cases f
   | sc d=>rw[h.1]at f;cases f
   | ty d=>rw[h.1]at f;cases f
  ·exact R.own j a f
theorem set_same {a:Type}{l:List a} {x:a}(h:l[i]?=some x):l.set i x=l:=by
 apply List.ext_getElem?
 grind
theorem Rep.drop (R:Rep K β W c σ)(i:Nat):Rep K β ⟨W.Hf,W.H,clr W.fps i⟩ (c.set i none) σ:=by
 refine⟨R.sub,by rw[bK];exact R.len,λj m e=>?_,λj k a g f=>R.dis j k a (Hn g).1 (Hn f).1,λj a h=>R.own j a (Hn h).1⟩
 by_cases z:j=i
 ·grind
 ·rw[bN λy=>z y.symm]at e
  obtain⟨l,d,r,b⟩:=R.get j _ e
  refine⟨l,d,?_,b⟩
  unfold clr
  simp_all
theorem Il (R:Rep K β W c σ)(h:RepA K W.Hf σ p v) (s:(frz p c).sat k) :
 ∃d c' W',frz p c=.ok d c'/\k d c'/\W'.H=W.H/\Stp W.S W.Hf W.H W'.S W'.Hf W'.H/\Rep K β W' c' σ/\Tr W'.Hf d v:=by
 cases p with
 | o o =>
  cases o with
  | im d=>exact⟨d,c,W,rfl,s,rfl,Stp.refl,R,h⟩
  | ls b w=>exact s.elim
  | sc d=>exact s.elim
  | ty d=>exact s.elim
 | sl i =>
  unfold frz at s ⊢
  cases e:c[i]? with
  | none=>simp only[e]at s;exact s.elim
  | some x =>
   cases x with
   | none=>simp only[e]at s;exact s.elim
   | some o =>
    obtain⟨v',u,r,_⟩:=R.get i o e
    cases (show some _=some _ from u.symm.trans h)
    cases o with
    | im d=>simp only[e]at s;exact⟨d,c,W,by simp only[e],s,rfl,Stp.refl,R,r.2⟩
    | sc d=>simp only[e]at s;exact s.elim
    | ty d=>simp only[e]at s;exact s.elim
    | ls b w =>
     cases b with
     | true=>simp only[e]at s;exact s.elim
     | false =>
      simp only[e]at s;obtain⟨a,m,rfl,l,f,A,t⟩:=r
      refine⟨.list _,c.set i _,⟨upd _ a _,W.H,clr W.fps i⟩,by simp only[e],s,rfl,⟨Cu f,λb o e _=>e,λb o e mu n q=>?_,λb z=>?_⟩,?_,⟨a,m,rfl,Bd,TrL.same (Cu f) t⟩⟩
      ·have C:b≠a:=λz=>n ⟨i,by rw[z,l];exact .head _⟩
       show upd _ a _ b=none
       rw[Ak C];exact q
      ·obtain⟨j,g⟩:=z
       exact .inl ⟨j,(Hn g).1⟩
      ·have B:¬ Wo.S ⟨W.Hf,W.H,clr W.fps i⟩ a:=λ⟨j,g⟩=>by
        obtain⟨E,D⟩:=Hn g
        exact D (R.dis j i a E (by rw[l];exact .head _))
       have y:=(Ag6 (R.drop i) f A B).setN (i:=i) (o:=.im (.list _)) ⟨a,m,rfl,Bd,TrL.same (Cu f) t⟩ rfl;rw[set_same h]at y
       have z:clr (clr W.fps i) i=clr W.fps i:=by funext j;unfold clr;split <;> rfl
       simp_all
def vDs:m8->Option (w5)
 | []=>some []
 | v::vs=>(vD v).bind λd=>(vDs vs).map (d::·)
theorem A0b:∀{vs:m8}{ds:w5},vDs vs=some ds->zO K Hf σ (ds.map λd=>.o (.im d)) vs
 | [],_,e=>by cases (show some []=some _ from e);exact rfl
 | v::vs,ds,e=>by
  obtain⟨d,e1,e2⟩:=bc.mp (show ((vD v).bind λd=>(vDs vs).map (d::·))=some ds from e)
  obtain⟨ds',e3,rfl⟩:=aM.mp e2;exact⟨v,vs,rfl,Bs7 e1,A0b e3⟩
theorem B7b (h:vDs vs=some ds):MA K (tK vs) (cK ds):=λb W c a Q R s=>s _ W Stp.refl R (A0b h)
def frzs:List PV->Ev->R (w5)
 | [],c=>.ok [] c
 | p::ps,c=>(frz p c).bind λd c=>(frzs ps c).bind λds c=>.ok (d::ds) c
theorem Qg:∀{ps:List PV}{vs:m8}{W:Wo}{c:Ev}{φ:w5->Ev->Prop},Rep K β W c σ->zO K W.Hf σ ps vs->(frzs ps c).sat φ ->
 ∃ds c' W',φ ds c'/\W'.H=W.H/\Stp W.S W.Hf W.H W'.S W'.Hf W'.H/\Rep K β W' c' σ/\TrL W'.Hf ds vs
 | [],vs,W,c,φ,R,h,s=>⟨[],c,W,s,rfl,Stp.refl,R,h⟩
 | p::ps,_,W,c,φ,R,⟨v,r,rfl,h,t⟩,s=>by
  obtain⟨d,c1,W1,_,s1,e1,st1,R1,t1⟩:=Il R h s.bnd;obtain⟨ds,c2,W2,s2,e2,st2,R2,t2⟩:=Qg R1 (zO.same st1.fz t) s1.bnd;exact⟨d::ds,c2,W2,s2,e2.trans e1,st1.trans st2,R2,v,r,rfl,Tr.same st2.fz t1,t2⟩
def Gg (f:n6):n8:=λc=>(f c).bind λps c=>(frzs ps c).bind λds c=>if ds.length<=1000 then .ok (.o (.im (.tuple ds))) c else .bad
def Ge (f:n6):n8:=λc=>(f c).bind λps c=>(frzs ps c).bind λds c=>if ds.length<=1000 then .ok (.o (.ls false ds)) c else .bad
theorem A1n (h:n<=1000):n<=sizeLine:=aj h (by decide)
theorem Pg (h:MA K t f):ME K (A8t t) (Gg f):=by
 intro w W c z Q R s
 refine h _ W c _ _ R (s.bnd.mono λx y k A F b o m=>?_)
 obtain⟨r,B,E,a,j,d,e,i⟩:=Qg o m k.bnd
 by_cases l:r.length<=1000
 ·rw[if_pos l]at a
  refine⟨by rw[<- i.length];exact A1n l,λp g=>?_⟩
  rw[<- j]at g ⊢
  exact New.tup (New.of e λv C D q u n=>a v _ _ (b.trans (d.trans q)) u n) e.sub i g
 ·rw[if_neg l]at a;trivial
theorem V7 (h:MA K t f):ME K (B5t t) (Ge f):=by
 intro w W c z Q R s
 refine h _ W c _ _ R (s.bnd.mono λx y k A F b o m=>?_)
 obtain⟨r,B,E,a,j,d,e,i⟩:=Qg o m k.bnd
 by_cases l:r.length<=1000
 ·rw[if_pos l]at a
  refine⟨by rw[<- i.length];exact A1n l,λp g=>?_⟩
  rw[<- j]at g ⊢
  exact New.lst (New.of e λv C D q u n=>a v _ _ (b.trans (d.trans q)) u n) e.sub i g
 ·rw[if_neg l]at a;trivial
end
noncomputable def Gs (cI:Ev):p_->Ev->Option Ev
 | [],c=>some c
 | (k,i)::m,c=>match c[i]? with
  | some (some (.ls b _))=>match cI[k]? with
   | some (some (.ls true ds))=>Gs cI m (c.set i (some (.ls b ds)))
   | _=>none
  | _=>Gs cI m c
noncomputable def inn (m:p_) (i:Nat):Option Nat:=(m.find? λp=>p.2==i).map (·.1)
noncomputable def Ar8 (m:p_) (k:Nat):Option Nat:=(m.find? λp=>p.1==k).map (·.2)
theorem Jl : inn ((k,j)::m) i=if j=i then some k else inn m i:=by
 unfold inn
 grind
theorem Uw (h:inn m i=some k):(k,i)∈m:=by
 induction m with
 | nil=>cases h
 | cons p m a =>
  rw[Jl]at h
  grind
theorem Um (b:(m.map (·.2)).Nodup) (h:(k,i)∈m):inn m i=some k:=by
 induction m with
 | nil=>grind
 | cons p m a =>
  rw[Jl]
  grind
theorem Aw8 {m:p_} (b:(m.map (·.1)).Nodup) (h:(k,i)∈m) (h':(k,j)∈m):i=j:=by
 induction m with
 | nil=>grind
 | cons p m a =>
  grind
theorem S5 {cI:Ev}:∀{m:p_}{c cO:Ev},(m.map (·.2)).Nodup->Gs cI m c=some cO->cO.length=c.length/\∀i,
 (∃b ds0 k ds,c[i]?=some (some (.ls b ds0))/\inn m i=some k/\cI[k]?=some (some (.ls true ds))/\cO[i]?=some (some (.ls b ds))) \/
 (cO[i]?=c[i]?/\∀b ds,c[i]?=some (some (.ls b ds))->inn m i=none)
 | [],c,cO,nd,e=>by cases (show some c=some cO from e);exact⟨rfl,λi=>.inr ⟨rfl,λ_ _ _=>rfl⟩⟩
 | (k,j)::m,c,cO,nd,e=>by
  rw[aG,bO]at nd
  have nj:inn m j=none:=by
   cases q:inn m j with
   | none=>rfl
   | some k'=>exact absurd (aO.mpr ⟨(k',j),Uw q,rfl⟩) nd.1
  unfold Gs at e
  have other:Gs cI m c=some cO->(∀b ds,c[j]?≠some (some (.ls b ds)))->cO.length=c.length/\∀i,
   (∃b ds0 k' ds,c[i]?=some (some (.ls b ds0))/\inn ((k,j)::m) i=some k'/\cI[k']?=some (some (.ls true ds))/\cO[i]?=some (some (.ls b ds))) \/
   (cO[i]?=c[i]?/\∀b ds,c[i]?=some (some (.ls b ds))->inn ((k,j)::m) i=none):=λe hn=>by
   obtain⟨hl,hg⟩:=S5 nd.2 e
   refine⟨hl,λi=>?_⟩
   rcases hg i with ⟨b,ds0,k',ds,q1,q2,q3,q4⟩ | ⟨q1,q2⟩
   ·refine .inl ⟨b,ds0,k',ds,q1,?_,q3,q4⟩
    rw[Jl,if_neg (λz=>hn b ds0 (by rw[z];exact q1))];exact q2
   ·refine .inr ⟨q1,λb ds q=>?_⟩
    rw[Jl,if_neg (λz=>hn b ds (by rw[z];exact q))];exact q2 b ds q
  cases ec:c[j]? with
  | none=>simp only[ec]at e;exact other e λb ds z=>by rw[ec]at z;cases z
  | some x =>
   cases x with
   | none=>simp only[ec]at e;exact other e λb ds z=>by rw[ec]at z;cases z
   | some o =>
    cases o with
    | im d=>simp only[ec]at e;exact other e λb ds z=>by rw[ec]at z;cases z
    | sc d=>simp only[ec]at e;exact other e λb ds z=>by rw[ec]at z;cases z
    | ty d=>simp only[ec]at e;exact other e λb ds z=>by rw[ec]at z;cases z
    | ls b0 ds0 =>
     simp only[ec]at e
     cases ei:cI[k]? with
     | none=>simp only[ei]at e;cases e
     | some x =>
      cases x with
      | none=>simp only[ei]at e;cases e
      | some o =>
       cases o with
       | im d=>simp only[ei]at e;cases e
       | sc d=>simp only[ei]at e;cases e
       | ty d=>simp only[ei]at e;cases e
       | ls b1 ds1 =>
        cases b1 with
        | false=>simp only[ei]at e;cases e
        | true =>
         simp only[ei]at e
         have lj:j<c.length:=by
          rcases Nat.lt_or_ge j c.length with q | q
          ·exact q
          ·rw[List.getElem?_eq_none q]at ec;cases ec
         obtain⟨hl,hg⟩:=S5 nd.2 e;rw[bK]at hl
         refine⟨hl,λi=>?_⟩
         by_cases z:j=i
         ·subst z
          rcases hg j with ⟨b,ds0',k',ds,q1,q2,q3,q4⟩ | ⟨q1,q2⟩
          ·rw[nj]at q2;cases q2
          ·rw[bU lj]at q1
           exact .inl ⟨b0,ds0,k,ds1,ec,by rw[Jl,if_pos rfl],ei,q1⟩
         ·have gs:(c.set j (some (.ls b0 ds1)))[i]?=c[i]?:=bN z
          rcases hg i with ⟨b,ds0',k',ds,q1,q2,q3,q4⟩ | ⟨q1,q2⟩
          ·rw[gs]at q1
           exact .inl ⟨b,ds0',k',ds,q1,by rw[Jl,if_neg z];exact q2,q3,q4⟩
          ·rw[gs]at q1 q2
           exact .inr ⟨q1,λb ds q=>by rw[Jl,if_neg z];exact q2 b ds q⟩
noncomputable def Ie:Option (m7)->Bool
 | some (some (.ls _ _))=>true
 | _=>false
def Sy (m:p_)(c:Ev)(fps:Nat->v6):Nat->v6:=λk=>match Ar8 m k with
 | some i=>if Ie c[i]? then fps i else []
 | none=>[]
theorem Vu (h:Ar8 m k=some i):(k,i)∈m:=by
 obtain⟨p,b,a⟩:=aM.mp h
 grind
theorem Gz (h:a∈Sy m c b k):∃i,(k,i)∈m/\Ie c[i]?=true/\a∈b i:=by
 unfold Sy at h
 cases e:Ar8 m k with
 | none=>grind
 | some i =>
  rw[e]at h
  have h:a∈if Ie _ then b i else []:=h
  by_cases q:Ie c[i]?=true
  ·rw[if_pos q]at h;exact⟨i,Vu e,q,h⟩
  grind
theorem Bo5 (a:(m.map (·.1)).Nodup) (h:(k,i)∈m):Ar8 m k=some i:=by
 cases e:Ar8 m k with
 | none =>
  unfold Ar8 at e;rw[Option.map_eq_none_iff]at e
  grind
 | some j=>rw[Aw8 a h (Vu e)]
def Aq6 (m:p_)(c:Ev)(fps fpsJ:Nat->v6):Nat->v6:=λi=>if Ie c[i]? then (match inn m i with
 | some k=>fpsJ k
 | none=>fps i) else fps i
section
variable {K:v9}{β β':Nat->V}{W W':Wo}{c cI cI' cO:Ev}{σ σI σI':St}{m:p_}{fp:v6}
structure Lent (K:v9) (Hf:Hp) (m:p_) (c:Ev) (σ:St) (β':Nat->V) (cI:Ev) (σI:St):Prop where
 n1:(m.map (·.1)).Nodup
 n2:(m.map (·.2)).Nodup
 len:cI.length=σI.length
 at_:∀k o,cI[k]?=some (some o)->(o.own=false/\(∀i,(k,i)∈m->Ie c[i]?=false)/\(∃v,σI[k]?=some (some v)/\RepN K Hf o v))\/∃i b ds v,(k,i)∈m/\c[i]?=some (some (.ls b ds))/\o=.ls true ds/\σ[i]?=some (some v)/\σI[k]?=some (some v)/\β' k=v
theorem Lent.rep (L:Lent K W.Hf m c σ β' cI σI)(R:Rep K β W c σ):Rep K β' ⟨W.Hf,W.H,Sy m c W.fps⟩ cI σI:=by
 refine⟨R.sub,L.len,λk o e=>?_,λk l a B C=>?_,λk a h=>?_⟩
 ·rcases L.at_ k o e with ⟨n,s,v,p,r⟩ | ⟨i,b,x,v,E,w,rfl,J,p,A⟩
  ·refine⟨v,p,?_,λq=>?_⟩
   ·have g:∀t ,t=[]->RepO K _ W.H o v t:=λt z=>by
     cases o with
     | ls b x=>exact nomatch n
     | im d=>exact⟨z,r⟩
     | sc d=>exact⟨z,r⟩
     | ty d=>exact⟨z,r⟩
    refine g _ ?_
    show Sy m c _ k=[]
    unfold Sy
    cases q:Ar8 m k with
    | none=>rfl
    | some i =>
     show (if Ie _ then W.fps i else [])=[]
     rw[s i (Vu q)]
     rfl
   ·cases o with
    | ls b x=>exact nomatch n
    | im d=>exact nomatch q
    | sc d=>exact nomatch q
    | ty d=>exact nomatch q
  ·obtain⟨v',f,r,_⟩:=R.get i _ w
   cases (show some _=some _ from f.symm.trans J)
   refine⟨v,p,?_,λ_=>A.symm⟩
   obtain⟨a,F,G,D,I⟩:=r
   refine⟨a,F,G,?_,I⟩
   show Sy m c _ k=[a]
   unfold Sy;rw[Bo5 L.n1 E]
   show (if Ie _ then W.fps i else [])=[a]
   rw[w];exact D
 ·obtain⟨i,H,_,u⟩:=Gz B
  obtain⟨j,M,_,y⟩:=Gz C
  cases R.dis i j a u y
  have f:=Um L.n2 M;rw[(Um L.n2 H)]at f;exact bV f
 ·obtain⟨i,_,_,u⟩:=Gz h
  exact R.own i a u
theorem Bn1 (h:Ie x=true):∃b ds,x=some (some (.ls b ds)):=by
 match x,h with
 | some (some (.ls b _)),_=>grind
theorem Lent.back (L:Lent K W.Hf m c σ β' cI σI)(R:Rep K β W c σ)(I:Rep K β' W' cI' σI')(st:Stp (Wo.S ⟨W.Hf,W.H,Sy m c W.fps⟩) W.Hf W.H (orS W'.S fp) W'.Hf W'.H)(hb:Gs cI' m c=some cO)
 (H:∀k i b J v,(k,i)∈m->c[i]?=some (some (.ls b J))->σ[i]?=some (some v)->β' k=v) (Q:∀a∈fp,¬ W'.S a) :
 ∃W2:Wo,W2.Hf=W'.Hf/\W2.H=W'.H/\Rep K β W2 cO σ/\Stp W.S W.Hf W.H (orS W2.S fp) W'.Hf W'.H/\∀a∈fp,¬ W2.S a:=by
 obtain⟨hl,hg⟩:=S5 L.n2 hb
 have t:∀k a,a∈W'.fps k->(∃i,(∃l,(l,i)∈m)/\Ie c[i]?=true/\a∈W.fps i)\/W.H a=none:=λk a h=>by
  rcases st.fr a (.inl ⟨k,h⟩) with ⟨l,q⟩ | q
  ·obtain⟨i,s,x,g⟩:=Gz q
   exact .inl ⟨i,⟨l,s⟩,x,g⟩
  ·exact .inr q
 have d:∀i a,a∈W.fps i->(Ie c[i]?=true->inn m i=none)->¬ Wo.S ⟨W.Hf,W.H,Sy m c W.fps⟩ a:=λi a h n ⟨k,q⟩=>by
  obtain⟨j,s,x,g⟩:=Gz q
  cases (R.dis i j a h g)
  have:=n x;rw[Um L.n2 s]at this;cases this
 have D:∀i a,a∈Aq6 m c W.fps W'.fps i->(∃k,inn m i=some k/\Ie c[i]?=true/\a∈W'.fps k)\/(a∈W.fps i/\(Ie c[i]?=true->inn m i=none)):=λi a h=>by
  have h:a∈if Ie c[i]? then (match inn m i with | some k=>W'.fps k | none=>W.fps i) else W.fps i:=h
  by_cases q:Ie c[i]?=true
  ·rw[if_pos q]at h
   cases e:inn m i with
   | none=>rw[e]at h;exact .inr ⟨h,λ_=>rfl⟩
   | some k=>rw[e]at h;exact .inl ⟨k,rfl,q,h⟩
  ·rw[if_neg q]at h;exact .inr ⟨h,λz=>absurd z q⟩
 have p:∀i k a,a∈W.fps i->(Ie c[i]?=true->inn m i=none)->a∈W'.fps k->False:=λi k a h n V=>by
  rcases t k a V with ⟨j,⟨l,s⟩,x,g⟩ | q
  ·cases (R.dis i j a h g)
   have:=n x;rw[Um L.n2 s]at this;cases this
  ·obtain⟨_,o,e,_⟩:=R.own i a h
   rw[q]at e;cases e
 refine⟨⟨W'.Hf,W'.H,Aq6 m c W.fps W'.fps⟩,rfl,rfl,⟨I.sub,hl.trans R.len,λi o e=>?_,λi j a Z T=>?_,λi a h=>?_⟩,⟨st.fz,λa o e n=>st.kp a o e λ⟨k,q⟩=>?_,λa o e F n q=>st.nf a o e F (λzz=>?_) q,λa h=>?_⟩,λa C ⟨i,h⟩=>?_⟩
 ·rcases hg i with ⟨b,N,k,J,s,x,g,U⟩ | ⟨s,x⟩
  ·rw[U]at e;cases e
   obtain⟨v,M,r,P⟩:=R.get i _ s;obtain⟨X,e1',r',O⟩:=I.get k _ g;have S:=O rfl;rw[H k i b N v (Uw x) s M]at S;subst S
   refine⟨X,M,?_,P⟩
   obtain⟨a,Y,A,E,G⟩:=r'
   refine⟨a,Y,A,?_,G⟩
   show Aq6 m c W.fps W'.fps i=[a]
   unfold Aq6;rw[s,x];exact E
  ·rw[s]at e
   obtain⟨v,M,r,P⟩:=R.get i _ e
   refine⟨v,M,?_,P⟩
   have n:Ie c[i]?=true->inn m i=none:=λz=>by
    obtain⟨b,J,z⟩:=Bn1 z;exact x b J z
   have ef:Aq6 m c W.fps W'.fps i=W.fps i:=by
    unfold Aq6
    by_cases q:Ie c[i]?=true
    ·rw[if_pos q,n q]
    ·rw[if_neg q]
   show RepO K W'.Hf W'.H o v (Aq6 m c W.fps W'.fps i)
   rw[ef]
   refine r.mono st.fz λa C=>?_
   obtain⟨z,u,y,F⟩:=R.own i a C;exact⟨st.nf a u y F (d i a C n) z,(st.kp a u y (d i a C n)).trans y.symm⟩
 ·rcases D i a Z with ⟨k,f,w,B⟩ | ⟨f,w⟩
  ·rcases D j a T with ⟨l,A,E,G⟩ | ⟨A,E⟩
   ·cases I.dis k l a B G
    exact Aw8 L.n1 (Uw f) (Uw A)
   ·exact(p j k a A E B).elim
  ·rcases D j a T with ⟨l,A,E,G⟩ | ⟨A,E⟩
   ·exact(p i l a f w G).elim
   ·exact R.dis i j a f A
 ·rcases D i a h with ⟨k,f,w,B⟩ | ⟨f,w⟩
  ·exact I.own k a B
  ·obtain⟨z,u,y,F⟩:=R.own i a f
   exact⟨st.nf a u y F (d i a f w) z,u,st.kp a u y (d i a f w),F⟩
 ·obtain⟨i,_,_,g⟩:=Gz q
  exact n ⟨i,g⟩
 ·obtain⟨k,q'⟩:=zz
  obtain⟨i,_,_,g⟩:=Gz q';exact n ⟨i,g⟩
 ·rcases h with ⟨i,h⟩ | h
  ·rcases D i a h with ⟨k,f,w,B⟩ | ⟨f,w⟩
   ·rcases t k a B with ⟨j,_,_,q⟩ | q
    ·exact .inl ⟨j,q⟩
    ·exact .inr q
   ·exact .inl ⟨i,f⟩
  ·rcases st.fr a (.inr h) with ⟨k,q⟩ | q
   ·obtain⟨i,_,_,g⟩:=Gz q
    exact .inl ⟨i,g⟩
   ·exact .inr q
 ·rcases D i a h with ⟨k,f,w,B⟩ | ⟨f,w⟩
  ·exact Q a C ⟨k,B⟩
  ·rcases st.fr a (.inr C) with q | q
   ·exact d i a f w q
   ·obtain⟨_,u,y,_⟩:=R.own i a f
    rw[q]at y;cases y
end
inductive SR where
 | nx (c:Ev)
 | rt (p:PV) (c:Ev)
 | bk (c:Ev)
 | ct (c:Ev)
 | bad
def zL (K:v9)(β:Nat->V)(W:Wo)(D:Ends):SR->Prop
 | .nx c'=>∀σ' W',Stp W.S W.Hf W.H W'.S W'.Hf W'.H->Rep K β W' c' σ'->D.nx σ' W'.H
 | .bk c'=>∀σ' W',Stp W.S W.Hf W.H W'.S W'.Hf W'.H->Rep K β W' c' σ'->D.bk σ' W'.H
 | .ct c'=>∀σ' W',Stp W.S W.Hf W.H W'.S W'.Hf W'.H->Rep K β W' c' σ'->D.ct σ' W'.H
 | .rt p c'=>∀σ' v W' fp,Stp W.S W.Hf W.H (orS W'.S fp) W'.Hf W'.H->Rep K β W' c' σ'->En K W' σ' p v fp->D.rt v W'.H
 | .bad=>False
def MS (K:v9)(T:TS)(f:Ev->SR):Prop:=∀(β:Nat->V) (W:Wo) (c:Ev) (σ:St) (D:Ends),Rep K β W c σ->zL K β W D (f c)->T D σ W.H
def MG (K:v9)(g:TG)(cg:o7):Prop:=∀(β:Nat->V) (W:Wo) (c:Ev) (σ:St) (p:PV) (v:V) (fp:v6) (k:St->Hp->Prop),Rep K β W c σ->En K W σ p v fp ->
 (cg p c).sat (λ_ c'=>∀σ' W',Stp (orS W.S fp) W.Hf W.H W'.S W'.Hf W'.H->Rep K β W' c' σ'->k σ' W'.H)->g v σ W.H k
def MGs (K:v9)(g:TGs)(cg:w5->Ev->R Unit):Prop:=∀(β:Nat->V) (W:Wo) (c:Ev) (σ:St) (ds:w5) (vs:m8) (k:St->Hp->Prop),Rep K β W c σ->TrL W.Hf ds vs ->
 (cg ds c).sat (λ_ c'=>∀σ' W',Stp W.S W.Hf W.H W'.S W'.Hf W'.H->Rep K β W' c' σ'->k σ' W'.H)->g vs σ W.H k
noncomputable def R.toS {α:Type} (r:R α) (k:α->Ev->SR):SR:=match r with
 | .ok a c=>k a c
 | .bad=>.bad
section
variable {K:v9}{β:Nat->V}{W W':Wo}{c c' cI cO:Ev}{σ σ':St}{D:Ends}{Hf H:Hp}{o:O}{v:V}{fp:v6}
theorem Ey {r:R b}{k:b->Ev->SR}(h:zL K β W D (r.toS k)):r.sat λa c=>zL K β W D (k a c):=by
 cases r with
 | ok a c=>exact h
 | bad=>exact h
theorem zL.step (h:zL K β W D r) (st:Stp W.S W.Hf W.H W'.S W'.Hf W'.H):zL K β W' D r:=by
 cases r with
 | nx c=>exact λb d a R=>h _ _ (st.trans a) R
 | bk c=>exact λb d a R=>h _ _ (st.trans a) R
 | ct c=>exact λb d a R=>h _ _ (st.trans a) R
 | rt p c=>exact λb v d e a R r=>h _ v _ _ (st.trans a) R r
 | bad=>exact h
noncomputable def Bj (f g:Ev->SR):Ev->SR:=λc=>match f c with
 | .nx c=>g c
 | r=>r
theorem Ff (h1:MS K t f) (h2:MS K u g):MS K (A4j t u) (Bj f g):=by
 intro k W c i D R l
 refine h1 _ W c _ _ R ?_
 unfold Bj at l
 cases e:f c with
 | nx a=>rw[e]at l;exact λh j d b=>h2 _ _ _ _ D b (zL.step l d)
 | rt p a=>rw[e]at l;exact l
 | bk a=>rw[e]at l;exact l
 | ct a=>rw[e]at l;exact l
 | bad=>rw[e]at l;exact l
noncomputable def Bl:Ev->SR:=λc=>.nx c
theorem Gi:MS K A8h Bl:=λb W c a D R l=>l _ W Stp.refl R
noncomputable def At9:Ev->SR:=λ_=>.bad
theorem A5q:MS K Av4 At9:=λb W c a D R l=>l.elim
def Jv (f:n8):Ev->SR:=λc=>(f c).toS λ_ c=>.nx c
theorem A0e (h:ME K a f):MS K (A8j a) (Jv f):=λg W c i D R l =>
 h.toV _ W c _ _ R ((Ey l).mono λp k e v j d b _=>e _ _ d b)
def Cp (f:n8):Ev->SR:=λc=>(f c).toS λp c=>.rt p c
theorem Hb (h:ME K a f):MS K (Bq2 a) (Cp f):=λi W c n D R l =>
 h _ W c _ _ R ((Ey l).mono λp m e v j k d g b=>e _ v _ _ d g b)
def cIf (t:n7)(f g:Ev->SR):Ev->SR:=λc=>(t c).toS λb c=>if b=true then f c else g c
theorem Va (h:MT K d ft) (h1:MS K t f) (h2:MS K u g):MS K (Bw0 d t u) (cIf ft f g):=λk W c j D R l =>
 h
  _ W c _ _ R ((Ey l).mono λb n i m e a=>by
  cases b with
  | true=>exact h1 _ _ _ _ D a (zL.step i e)
  | false=>exact h2 _ _ _ _ D a (zL.step i e))
def cgN (i:Nat):o7:=λp c=>match p with
 | .o (.ls _ ds)=>.ok () (c.set i (some (.ls false ds)))
 | .o o=>.ok () (c.set i (some o))
 | .sl j=>(frz (.sl j) c).bind λd c=>.ok () (c.set i (some (.im d)))
theorem B2q (h:Wo.S ⟨Hf,H,clr W.fps i⟩ a):W.S a:=by
 obtain⟨j,h⟩:=h;exact⟨j,(Hn h).1⟩
theorem Ci : MG K (J5 i) (cgN i):=by
 intro w W c x p v u k R r s
 have f:∀{o:O} {g:Wo} {m:Ev},Rep K w g m x->o.own=false->RepN K g.Hf o v->Stp (orS W.S u) W.Hf W.H g.S _ g.H->g.H=W.H->(∀σ' W',Stp _ _ _ W'.S W'.Hf W'.H->Rep K _ W' _ σ'->k σ' W'.H)->k _ W.H:=λ{o g m} h n r l e s=>by
  rw[<- e]
  exact s _ ⟨g.Hf,g.H,clr _ i⟩ (l.less λa z=>B2q z) (h.setN r n)
 cases p with
 | sl j =>
  obtain⟨rfl,e⟩:=r
  obtain⟨d,m,g,e1,A,y,l,h,t⟩:=Il R (show RepA K _ _ (.sl j) v from e) s.bnd
  exact f h (o:=.im d) rfl t (l.up λa z=>.inl z) y A
 | o o =>
  cases o with
  | im d=>exact f R rfl r.1.2 (Stp.refl.up λa z=>.inl z) rfl s
  | sc d=>exact f R rfl r.1.2 (Stp.refl.up λa z=>.inl z) rfl s
  | ty d=>exact f R rfl r.1.2 (Stp.refl.up λa z=>.inl z) rfl s
  | ls b ds =>
   refine s _ ⟨W.Hf,W.H,λj=>if j=i then u else W.fps j⟩ ⟨Same.refl _,λa o e _=>e,λa o e _ _ q=>q,λa z=>?_⟩ (R.setO r.1 r.2 rfl)
   obtain⟨j,z⟩:=z
   have z:a∈if j=i then u else W.fps j:=z
   split at z
   ·grind
   ·exact .inl (.inl ⟨j,z⟩)
noncomputable def Eg:w5->Ev->R Unit:=λds c=>match ds with
 | []=>.ok () c
 | _=>.bad
def Ar (g:o7)(gs:w5->Ev->R Unit):w5->Ev->R Unit:=λds c=>match ds with
 | d::ds=>(g (.o (.im d)) c).bind λ_ c=>gs ds c
 | []=>.bad
theorem Bn5:MGs K Bs0 Eg:=λf W c e a b k R t s=>by
 cases a with
 | nil=>cases (t);exact⟨rfl,s _ W Stp.refl R⟩
 | cons d r=>trivial
theorem A6s (h1:MG K t g) (h2:MGs K u f):MGs K (Yu t u) (Ar g f):=λβ W c σ x vs k R j s=>by
 cases x with
 | nil=>trivial
 | cons d r =>
  obtain⟨v,l,rfl,m,n⟩:=j
  refine⟨v,l,rfl,h1 _ W c _ (.o (.im d)) v _ _ R ⟨⟨rfl,m⟩,λa z=>nomatch z⟩ (s.bnd.mono λ_ c1 o i W1 b q=>?_)⟩
  have b:=b.up (S2:=W.S) λa z=>by
   grind
  exact h2 _ _ _ _ r _ k q (TrL.same b.fz n) (o.mono λ_ c2 p w W2 e h=>p _ _ (b.trans e) h)
noncomputable def cgT (n:Nat) (gs:w5->Ev->R Unit):o7:=λp c=>match p with
 | .o (.im (.tuple ds))=>if ds.length=n then gs ds c else .bad
 | _=>.bad
theorem By3 (h:MGs K t d):MG K (A9m K n t) (cgT n d):=by
 intro u W c w p v q k R r s
 match p,r,s with
 | .o (.im (.tuple ds)),r,s =>
  obtain⟨⟨b,a,j,b,l,f⟩,_⟩:=r
  have s:(if ds.length=n then d _ c else .bad:U.R _).sat _:=s
  by_cases e:ds.length=n
  ·rw[if_pos e]at s
   refine⟨a,j,b,SqT.of (R.sub _ _ l),by rw[<- f.length];exact e,h _ W c _ _ _ k R f (s.mono λ_ y i m x o g=>i _ _ (o.up λa z=>.inl z) g)⟩
  ·rw[if_neg e]at s;trivial
 | .o (.im .none),r,s=>trivial
 | .o (.im (.bool _)),r,s=>trivial
 | .o (.im (.int _)),r,s=>trivial
 | .o (.im (.str _)),r,s=>trivial
 | .o (.im (.list _)),r,s=>trivial
 | .o (.im (.dict _)),r,s=>trivial
 | .o (.ls _ _),r,s=>exact s.elim
 | .o (.sc _),r,s=>exact s.elim
 | .o (.ty _),r,s=>exact s.elim
 | .sl _,r,s=>trivial
def Cm (f:n8)(g:o7):Ev->SR:=λc=>(f c).toS λp c=>(g p c).toS λ_ c=>.nx c
theorem Gb (h:ME K b f) (hg:MG K t g):MS K (Ym b t) (Cm f g):=λx W c o D R l =>
 h _ W c _ _ R ((Ey l).mono λp q j v s u k e i=>hg _ _ _ _ p v _ _ e i ((Ey j).mono λ_ r m n w a d=>m _ _ (k.trans a) d))
def A3i (J:It)(Hf:Hp)(ds:w5):Prop:=∀(i:Nat) (Hf' H:Hp),Same Hf Hf'->Same Hf' H->(i=ds.length->J.stop i H) /\
 ∀d,ds[i]?=some d->J.go i H/\∀x H',J.yld i H x H'->∃Hf2,Stp (λ_=>False) Hf' H (λ_=>False) Hf2 H'/\Same Hf2 H'/\Tr Hf2 d x
def MI (K:v9)(wi:TI)(fi:Ev->R (w5)):Prop:=∀(β:Nat->V) (W:Wo) (c:Ev) (σ:St) (k:It->Hp->Prop),Rep K β W c σ ->
 (fi c).sat (λds c'=>∀J W',Stp W.S W.Hf W.H W'.S W'.Hf W'.H->Rep K β W' c' σ->A3i J W'.Hf ds->k J W'.H)->wi σ W.H k
noncomputable def forL (g:o7) (body:Ev->SR):w5->Ev->SR
 | [],c=>.nx c
 | d::ds,c=>match g (.o (.im d)) c with
  | .bad=>.bad
  | .ok _ c=>match body c with
   | .nx c=>forL g body ds c
   | .ct c=>forL g body ds c
   | .bk c=>.nx c
   | .rt p c=>.rt p c
   | .bad=>.bad
def Rj (fi:Ev->R (w5))(g:o7)(body:Ev->SR):Ev->SR:=λc=>(fi c).toS λds c=>forL g body ds c
theorem K4 {a:Type}{l:List a} (h:i<l.length):l.drop i=l[i]::l.drop (i+1):=fP h
theorem Ao6 {V:TS} (hi:MI K X fi) (hg:MG K t g) (hb:MS K V body):MS K (Bj5 X t V) (Rj fi g body):=by
 intro C W c I D R l
 refine hi C W c I _ R ((Ey l).mono λk c1 l1 J T N R1 it=>?_)
 refine⟨λi m I H=>∃d y,d.H=H/\Rep K C d y I/\m=k.length-i/\i<=k.length/\Same T.Hf d.Hf/\zL K C d D (forL g body (k.drop i) y),⟨_,T,c1,rfl,R1,rfl,aB _,Same.refl _,zL.step l1 N⟩,?_⟩
 rintro i m I H ⟨d,y,rfl,O,rfl,hle,Y,h⟩
 obtain⟨A,Q⟩:=it i d.Hf d.H Y O.sub
 by_cases lt:i<k.length
 ·obtain⟨q1,q2⟩:=Q k[i] (aU lt)
  refine .inr ⟨q1,λM s=>∃d y,d.H=s/\Rep K C d y M/\Same T.Hf d.Hf/\zL K C d D (forL g body (k.drop (i+1)) y),λM s ⟨U,Z,e3,R3,s3,l3⟩=>⟨k.length-(i+1),by lia,U,Z,e3,R3,rfl,by lia,s3,l3⟩,λx s hy=>?_⟩
  obtain⟨n,j,G,tx⟩:=q2 x s hy
  have P:Stp d.S d.Hf d.H (Wo.S ⟨n,s,d.fps⟩) n s:=⟨j.fz,λa o e _=>j.kp a o e λz=>z,λa o e mu _ q=>j.nf a o e mu (λz=>z) q,λa z=>.inl z⟩
  rw[K4 lt]at h;unfold forL at h
  refine hg C ⟨n,s,d.fps⟩ y I (.o (.im _)) x _ _ (j.rep O G) ⟨⟨rfl,tx⟩,λa z=>nomatch z⟩ ?_
  cases eg:g _ _ with
  | bad=>rw[eg]at h;exact h.elim
  | ok u Z =>
   rw[eg]at h;intro σ3 U w S
   have w:=w.up λa z=>by
    rcases z with z | z
    ·exact z
    ·cases z
   have f:=P.trans w;have F := Y.trans f.fz
   refine hb _ _ _ _ _ S ?_
   cases ebd:body _ with
   | nx E=>simp only[ebd]at h;exact λr L b B=>⟨L,E,rfl,B,F.trans b.fz,zL.step h (f.trans b)⟩
   | ct E=>simp only[ebd]at h;exact λr L b B=>⟨L,E,rfl,B,F.trans b.fz,zL.step h (f.trans b)⟩
   | bk E=>simp only[ebd]at h;exact λr L b B=>h _ _ (f.trans b) B
   | rt p E=>simp only[ebd]at h;exact λr v L fp b B r4=>h _ v _ _ (f.trans b) B r4
   | bad=>simp only[ebd]at h;exact h.elim
 ·have e:i=k.length:=by lia
  subst e;rw[dw]at h;exact .inl ⟨A rfl,h _ _ Stp.refl O⟩
def Ek (g:o7)(ft:n7)(fe:n8):w5->w5->Ev->R (w5)
 | [],acc,c=>.ok acc c
 | d::ds,acc,c=>(g (.o (.im d)) c).bind λ_ c=>(ft c).bind λb c=>if b=true then (fe c).bind λp c=>(frz (nrm p) c).bind λy c=>Ek g ft fe ds (acc++[y]) c else Ek g ft fe ds acc c
def cIn (idx:o4)(c:Ev):Ev:=idx.map λo=>o.bind λi=>((c[i]?).join).map (O.flag true)
noncomputable def pairsOf:Nat->o4->p_
 | _,[]=>[]
 | k,none::r=>pairsOf (k+1) r
 | k,some i::r=>(k,i)::pairsOf (k+1) r
def cLC (idx:o4)(fi:Ev->R (w5))(g:o7)(ft:n7)(fe:n8):n8:=λc=>(fi c).bind λds c =>
 if ds.length<=16000000 then match Ek g ft fe ds [] (cIn idx c) with
 | .bad=>.bad
 | .ok acc cI=>match Gs cI (pairsOf 0 idx) c with
  | none=>.bad
  | some c=>.ok (.o (.ls false acc)) c
 else .bad
theorem A5x (h:l+1<=k):k-(l+1)+1=k-l:=by lia
theorem Ez {k i:Nat}:∀{l:Nat}{idx:o4},(k,i)∈pairsOf l idx->l<=k/\idx[k-l]?=some (some i)
 | l,[],h=>by cases h
 | l,none::r,h=>by
  obtain⟨q1,q2⟩:=Ez (l:=l+1) (idx:=r) h
  refine⟨cU q1,?_⟩
  rw[show k-l=(k-(l+1))+1 from (A5x q1).symm,cZ];exact q2
 | l,some j::r,h=>by
  rcases az.mp (show (k,i)∈(l,j)::pairsOf (l+1) r from h) with e | e
  ·cases e;exact⟨ak _,by rw[Nat.sub_self];rfl⟩
  ·obtain⟨q1,q2⟩:=Ez (l:=l+1) (idx:=r) e
   refine⟨cU q1,?_⟩
   rw[show k-l=(k-(l+1))+1 from (A5x q1).symm,cZ];exact q2
theorem Om {k i:Nat}:∀{l:Nat}{idx:o4},idx[k]?=some (some i)->(k+l,i)∈pairsOf l idx
 | l,[],h=>by simp at h
 | l,none::r,h=>by
  cases k with
  | zero=>simp at h
  | succ k =>
   rw[cZ]at h;have:=Om (l:=l+1) (idx:=r) h
   rw[show k+1+l=k+(l+1) by lia];exact this
 | l,some j::r,h=>by
  cases k with
  | zero=>simp at h;subst h;rw[bf];exact .head _
  | succ k =>
   rw[cZ]at h;have:=Om (l:=l+1) (idx:=r) h
   rw[show k+1+l=k+(l+1) by lia];exact .tail _ this
theorem Q8:∀{l:Nat}{idx:o4},((pairsOf l idx).map (·.1)).Nodup
 | l,[]=>dz
 | l,none::r=>Q8 (l:=l+1) (idx:=r)
 | l,some j::r=>by
  show (l::(pairsOf (l+1) r).map (·.1)).Nodup
  rw[bO]
  refine⟨λh=>?_,Q8⟩
  obtain⟨⟨k,i⟩,h1,h2⟩:=aO.mp h;have:=(Ez h1).1;have h2:k=l:=h2;lia
theorem Bg0 {k:Nat} (h:(cIn idx c)[k]?=some (some o)):∃i a,idx[k]?=some (some i)/\c[i]?=some (some a)/\o=a.flag true:=by
 unfold cIn at h;rw[bH]at h;obtain⟨x,e,b⟩:=aM.mp h
 cases x with
 | none=>grind
 | some i =>
  obtain⟨a,f,d⟩:=aM.mp b
  grind
theorem Ac9 {k i:Nat} (h1:idx[k]?=some (some i)) (h2:a[i]?=some (some v)):(cst idx a)[k]?=some (some v):=by
 unfold cst
 grind
theorem A0a {idx:o4}(R:Rep K β W c σ)(hnd:((pairsOf 0 idx).map (·.2)).Nodup):Lent K W.Hf (pairsOf 0 idx) c σ (λk=>(((cst idx σ)[k]?).join).getD .non) (cIn idx c) (cst idx σ) where
 n1:=Q8
 n2:=hnd
 len:=by unfold cIn cst;rw[ao,ao]
 at_:=λk o h=>by
  obtain⟨i,o',h1,h2,rfl⟩:=Bg0 h;obtain⟨v,e,r,_⟩:=R.get i o' h2;have hs:=Ac9 h1 e
  have one:∀j,(k,j)∈pairsOf 0 idx->j=i:=λj hj=>by
   have:=(Ez hj).2;rw[cP,h1]at this;cases this;rfl
  have nol:Ie c[i]?=false->∀j,(k,j)∈pairsOf 0 idx->Ie c[j]?=false:=λq j hj=>by rw[one j hj];exact q
  cases o' with
  | im d=>exact .inl ⟨rfl,nol (by rw[h2];rfl),v,hs,r.2⟩
  | sc d=>exact .inl ⟨rfl,nol (by rw[h2];rfl),v,hs,r.2⟩
  | ty d=>exact .inl ⟨rfl,nol (by rw[h2];rfl),v,hs,r.2⟩
  | ls b ds=>exact .inr ⟨i,b,ds,v,Om (l:=0) h1,h2,rfl,e,hs,by rw[hs];rfl⟩
theorem Bl9 (hnd:((pairsOf 0 idx).map (·.2)).Nodup) (hg:MG K t g) (ht:MT K tc ft) (he:ME K te fe)
 (st1:Stp W.S W.Hf W.H W1.S W1.Hf W1.H) (R1:Rep K β W1 c1 σ)
 (it:∀(i:Nat) (h:Wo),Stp (Wo.S ⟨W1.Hf,W1.H,Sy (pairsOf 0 idx) c1 W1.fps⟩) W1.Hf W1.H h.S h.Hf h.H->Same h.Hf h.H->(i=ds.length->J.stop i h.H) /\
  ∀d,ds[i]?=some d->J.go i h.H/\∀x E,J.yld i h.H x E->∃s,Stp (λ_=>False) h.Hf h.H (λ_=>False) s E/\Same s E/\Tr s d x)
 (s1:(if ds.length<=16000000 then match Ek g ft fe ds [] (cIn idx c1) with
  | .bad=>.bad
  | .ok f I=>match Gs I (pairsOf 0 idx) c1 with
   | none=>.bad
   | some c=>.ok (.o (.ls false f)) c
  else .bad:R PV).sat λp c'=>∀v j w,Stp W.S W.Hf W.H (orS j.S w) j.Hf j.H->Rep K β j c' σ->En K j σ p v w->Q v j.H):tLC idx (λ_ H k=>k J H) t tc te σ W1.H Q:=by
 unfold tLC
 dsimp only
 by_cases hl:ds.length<=16000000
 ·rw[if_pos hl]at s1
  have L:=A0a (idx:=idx) R1 hnd
  let C:Nat->V:=λk=>(((cst idx σ)[k]?).join).getD .non
  let F:Wo:=⟨W1.Hf,W1.H,Sy (pairsOf 0 idx) c1 W1.fps⟩
  let B:U.R (w5)->Prop:=λr=>match r with
   | .bad=>False
   | .ok f I=>match Gs I (pairsOf 0 idx) c1 with
    | none=>False
    | some c=>∀v j w,Stp W.S W.Hf W.H (orS j.S w) j.Hf j.H->Rep K β j c σ->En K j σ (.o (.ls false f)) v w->Q v j.H
  have s2:B (Ek g ft fe ds [] (cIn idx c1)):=by
   show match Ek g ft fe ds [] (cIn idx c1) with
    | .bad=>False
    | .ok f I=>match Gs I (pairsOf 0 idx) c1 with
     | none=>False
     | some c=>∀v j w,Stp W.S W.Hf W.H (orS j.S w) j.Hf j.H->Rep K β j c σ->En K j σ (.o (.ls false f)) v w->Q v j.H
   cases e1:Ek g ft fe ds [] (cIn idx c1) with
   | bad=>rw[e1]at s1;exact s1.elim
   | ok f I =>
    simp only[e1]at s1
    show match Gs I (pairsOf 0 idx) c1 with
     | none=>False
     | some c=>∀v j w,Stp W.S W.Hf W.H (orS j.S w) j.Hf j.H->Rep K β j c σ->En K j σ (.o (.ls false f)) v w->Q v j.H
    cases e2:Gs I (pairsOf 0 idx) c1 with
    | none=>simp only[e2]at s1;exact s1.elim
    | some D=>simp only[e2]at s1;exact s1
  refine⟨λi m A S H=>∃h D f,h.H=H/\Rep K C h D A/\m=ds.length-i/\i<=ds.length/\S.length<=i/\Stp F.S F.Hf F.H h.S h.Hf h.H/\TrL h.Hf f S/\B (Ek g ft fe (ds.drop i) f D),
   ⟨_,F,cIn idx c1,[],rfl,(L.rep R1),rfl,aB _,ak _,Stp.refl,rfl,s2⟩,?_⟩
  rintro i m A S H ⟨h,D,f,rfl,R2,rfl,hle,hvs,N,ta,l⟩
  obtain⟨P,hgo⟩:=it i h N R2.sub
  by_cases lt:i<ds.length
  ·obtain⟨q1,q2⟩:=hgo ds[i] (aU lt)
   refine .inr ⟨q1,aA (bD hvs (aA lt hl)) (by decide),λA S E=>∃h D f,h.H=E/\Rep K C h D A/\S.length<=i+1/\Stp F.S F.Hf F.H h.S h.Hf h.H/\TrL h.Hf f S/\B (Ek g ft fe (ds.drop (i+1)) f D),
    λA acc' E ⟨O,X,Y,e3,R3,h3,n,t3,f3⟩=>⟨ds.length-(i+1),by lia,O,X,Y,e3,R3,rfl,by lia,h3,n,t3,f3⟩,λx E hy=>?_⟩
   obtain⟨s,n,sub3,tx⟩:=q2 x E hy
   have stx:Stp h.S h.Hf h.H (Wo.S ⟨s,E,h.fps⟩) s E:=⟨n.fz,λa o e _=>n.kp a o e λz=>z,λa o e mu _ q=>n.nf a o e mu (λz=>z) q,λa z=>.inl z⟩
   rw[K4 lt]at l;unfold Ek at l
   refine hg C ⟨s,E,h.fps⟩ D A (.o (.im ds[i])) x [] _ (n.rep R2 sub3) ⟨⟨rfl,tx⟩,λa z=>nomatch z⟩ ?_
   cases eg:g (.o (.im ds[i])) D with
   | bad=>rw[eg]at l;exact l.elim
   | ok u X =>
    rw[eg]at l
    have l:B ((ft X).bind λb c=>if b=true then (fe c).bind λp c=>(frz (nrm p) c).bind λy c=>Ek g ft fe (ds.drop (i+1)) (f++[y]) c else Ek g ft fe (ds.drop (i+1)) f c):=l
    intro σ3 O G R4
    have G:=G.up (S2:=h.S) λa z=>by
     rcases z with z | z
     ·exact z
     ·cases z
    refine ht C O X σ3 _ R4 ?_
    cases et:ft X with
    | bad=>rw[et]at l;exact l.elim
    | ok b c4 =>
     rw[et]at l;intro T st5 R5;have M:Stp F.S F.Hf F.H T.S T.Hf T.H:=N.trans (stx.trans (G.trans st5));have Z:TrL T.Hf f S:=TrL.same (stx.trans (G.trans st5)).fz ta
     cases b with
     | false=>rw[if_neg (by decide)];exact⟨T,c4,f,rfl,R5,by lia,M,Z,l⟩
     | true =>
      rw[if_pos rfl]
      have l:B ((fe c4).bind λp c=>(frz (nrm p) c).bind λy c=>Ek g ft fe (ds.drop (i+1)) (f++[y]) c):=l
      refine he.toV C T c4 σ3 _ R5 ?_
      cases ee:fe c4 with
      | bad=>rw[ee]at l;exact l.elim
      | ok p c5 =>
       rw[ee]at l
       have l:B ((frz (nrm p) c5).bind λy c=>Ek g ft fe (ds.drop (i+1)) (f++[y]) c):=l
       intro y W5 st6 R6 r6
       have fz:(frz (nrm p) c5).sat λ_ _=>True:=by
        cases ef:frz (nrm p) c5 with
        | bad=>rw[ef]at l;exact l.elim
        | ok d c=>trivial
       obtain⟨d,c6,W6,e6,_,eH,st7,R7,t7⟩:=Il R6 r6 fz;rw[e6]at l
       refine⟨W6,c6,f++[d],eH,R7,by rw[bh,cW];lia,M.trans (st6.trans st7),(TrL.same (st6.trans st7).fz Z).app (TrL.one t7),l⟩
  ·have e:i=ds.length:=by lia
   subst e;rw[dw]at l
   refine .inl ⟨P rfl,λp hp=>?_⟩
   have l:match Gs D (pairsOf 0 idx) c1 with
    | none=>False
    | some c=>∀v j w,Stp W.S W.Hf W.H (orS _ _) _ _->Rep K _ j c _->En K _ _ _ v _->Q v _:=l
   cases eb:Gs D (pairsOf 0 idx) c1 with
   | none=>simp only[eb]at l
   | some cO =>
    simp only[eb]at l
    obtain⟨O,e1,e2,R3,n,_⟩:=L.back (fp:=[]) R1 R2 (N.less λa z=>by
     rcases z with z | z
     ·exact z
     ·cases z) eb (λk i b ds v hm _ hv=>by
      have:=(Ez hm).2;rw[cP]at this
      rw[Ac9 this hv];rfl) λa z=>nomatch z
    have n:Stp W1.S W1.Hf W1.H O.S O.Hf O.H:=by
     rw[e1,e2];exact n.less λa z=>.inl z
    rw[<- e2]at hp ⊢
    exact New.lst (New.of R3 λv j w st R' rp=>l v _ _ (st1.trans (n.trans st)) R' rp) R3.sub (by rw[e1];exact ta) hp
 ·rw[if_neg hl]at s1;exact s1.elim
theorem Ve (d:((pairsOf 0 idx).map (·.2)).Nodup) (hi:MI K f fi) (hg:MG K t g) (ht:MT K h ft) (he:ME K j fe) :
 ME K (tLC idx f t h j) (cLC idx fi g ft fe):=by
 intro n W c o Q R s
 refine hi _ W c _ _ R (s.bnd.mono λq p l J u a k m=>?_)
 exact Bl9 d hg ht he a k (λi r e b=>m i _ _ e.fz b) l
end
inductive FR where
 | ret (o:O) (as:List O)
 | bad
abbrev n_:=List O->FR
noncomputable def resolve (p:PV) (c:Ev):Option (O×Ev):=match p with
 | .o (.ls _ ds)=>some (.ls false ds,c)
 | .o o=>some (o,c)
 | .sl i=>match c[i]? with
  | some (some (.ls false ds))=>some (.ls false ds,c.set i none)
  | some (some (.im d))=>some (.im d,c)
  | _=>none
noncomputable def Hz:List O->Ev->Option (List O)
 | [],_=>some []
 | .ls true _::r,some (.ls true ds)::c=>(Hz r c).map (.ls true ds::·)
 | .ls _ _::_,_=>none
 | o::r,_::c=>(Hz r c).map (o::·)
 | _::_,[]=>none
def A3c (as:List O)(p:PV)(c:Ev):FR:=match resolve p c with
 | none=>.bad
 | some (o,c)=>match Hz as c with
  | none=>.bad
  | some as'=>.ret o as'
def Ga (n N:Nat)(body:Ev->SR):n_:=λas=>if as.length=n then match body (as.map some++List.replicate (N-n) none) with
 | .nx c=>A3c as (.o (.im .none)) c
 | .rt p c=>A3c as p c
 | _=>.bad
 else .bad
def spP (K:v9)(F:n_):Sp:=λvs H Q _=>∃(β:Nat->V) (W:Wo) (as:List O),W.H=H/\as.length=vs.length/\Rep K β W (as.map some) (vs.map some)/\match F as with
 | .bad=>False
 | .ret o as'=>∀v W' fp,Stp W.S W.Hf W.H (orS W'.S fp) W'.Hf W'.H->Rep K β W' (as'.map some) (vs.map some)->RepO K W'.Hf W'.H o v fp->(∀a∈fp,¬ W'.S a)->Q v W'.H
section
variable {K:v9}{β:Nat->V}{W W':Wo}{c c' cO:Ev}{σ:St}{D:Ends}{Hf H:Hp}{o:O}{v:V}{fp:v6}
theorem Ql:∀{as:List O}{c:Ev}{as':List O},Hz as c=some as'->as'.length=as.length/\∀(i:Nat) (o':O),as'[i]?=some o'->(o'.own=false/\as[i]?=some o')\/(∃ds ds',o'=.ls true ds'/\as[i]?=some (.ls true ds)/\c[i]?=some (some (.ls true ds')))
 | [],c,as',e=>by cases (show some []=some as' from e);exact⟨rfl,λi o' h=>by simp at h⟩
 | o::r,[],as',e=>by
  cases o with
  | ls b ds=>cases b <;> cases e
  | im d=>cases e
  | sc d=>cases e
  | ty d=>cases e
 | o::r,x::c,as',e=>by
  have go:∀o1:O,(Hz r c).map (o1::·)=some as'->((o1.own=false/\o1=o)\/(∃ds ds',o1=.ls true ds'/\o=.ls true ds/\x=some (.ls true ds'))) ->
   as'.length=(o::r).length/\∀(i:Nat) (o':O),as'[i]?=some o'->(o'.own=false/\(o::r)[i]?=some o')\/(∃ds ds',o'=.ls true ds'/\(o::r)[i]?=some (.ls true ds)/\(x::c)[i]?=some (some (.ls true ds'))):=λo1 e1 h1=>by
   obtain⟨t,e2,rfl⟩:=aM.mp e1;obtain⟨l,g⟩:=Ql e2
   refine⟨by rw[aF,aF,l],λi o' h=>?_⟩
   cases i with
   | zero =>
    cases (show some o1=some o' from h)
    rcases h1 with ⟨z1,z2⟩ | ⟨ds,ds',z1,z2,z3⟩
    ·exact .inl ⟨z1,by rw[z2];rfl⟩
    ·exact .inr ⟨ds,ds',z1,by rw[z2];rfl,by rw[z3];rfl⟩
   | succ i=>exact g i o' (by simpa using h)
  cases o with
  | ls b ds =>
   cases b with
   | false=>cases e
   | true =>
    match x,e with
    | some (.ls true ds'),e=>exact go (.ls true ds') e (.inr ⟨ds,ds',rfl,rfl,rfl⟩)
    | some (.ls false ds'),e=>cases e
    | some (.im _),e=>cases e
    | some (.sc _),e=>cases e
    | some (.ty _),e=>cases e
    | none,e=>cases e
  | im d=>exact go (.im d) e (.inl ⟨rfl,rfl⟩)
  | sc d=>exact go (.sc d) e (.inl ⟨rfl,rfl⟩)
  | ty d=>exact go (.ty d) e (.inl ⟨rfl,rfl⟩)
theorem Xa (R:Rep K β W c σ) (r:En K W σ p v fp) (e:resolve p c=some (o,c')) :
 ∃W2 fp2,W2.Hf=W.Hf/\W2.H=W.H/\Rep K β W2 c' σ/\RepO K W2.Hf W2.H o v fp2/\(∀a∈fp2,¬ W2.S a)/\∀a,orS W2.S fp2 a->orS W.S fp a:=by
 cases p with
 | o f =>
  have g:o=f.flag false/\c'=c:=by
   cases f with
   | ls b h=>cases e;exact⟨rfl,rfl⟩
   | im d=>cases e;exact⟨rfl,rfl⟩
   | sc d=>cases e;exact⟨rfl,rfl⟩
   | ty d=>cases e;exact⟨rfl,rfl⟩
  obtain⟨rfl,rfl⟩:=g
  refine⟨W,fp,rfl,rfl,R,?_,r.2,λa z=>z⟩
  cases f with
  | ls b h=>exact r.1
  | im d=>exact r.1
  | sc d=>exact r.1
  | ty d=>exact r.1
 | sl i =>
  obtain⟨rfl,n⟩:=r;unfold resolve at e
  cases ec:c[i]? with
  | none=>simp_all
  | some x =>
   cases x with
   | none=>grind
   | some f =>
    obtain⟨v',g,k,_⟩:=R.get i _ ec
    cases (show some _=some _ from g.symm.trans n)
    cases f with
    | sc d=>simp_all
    | ty d=>simp_all
    | im d =>
     simp only[ec]at e
     cases e
     exact⟨W,[],rfl,rfl,R,⟨rfl,k.2⟩,(λa z=>by cases z),λa z=>z⟩
    | ls b h =>
     cases b with
     | true=>simp_all
     | false =>
      simp only[ec]at e
      cases e
      refine⟨⟨W.Hf,W.H,clr _ i⟩,W.fps i,rfl,rfl,R.drop i,k,λa q ⟨j,m⟩=>?_,λa z=>?_⟩
      ·obtain⟨s,l⟩:=Hn m
       exact l (R.dis j i a s q)
      ·rcases z with z | z
       ·exact .inl (B2q z)
       ·exact .inl ⟨i,z⟩
theorem Nq {b a:Type}{l:List b}{f:b->a}{i:Nat}{y:a}(h:(l.map f)[i]?=some y):∃x,l[i]?=some x/\f x=y:=by
 grind
theorem A9s {vs:m8} (t:Rep K β z (p.map some) (vs.map some)) (R:Rep K β W c σ) (S:Same z.Hf W.Hf) (e:Hz p c=some k) :
 ∃W2:Wo,W2.Hf=W.Hf/\W2.H=W.H/\Rep K β W2 (k.map some) (vs.map some)/\∀a,W2.S a->W.S a:=by
 obtain⟨E,G⟩:=Ql e
 let f:Nat->v6:=λi=>if Ie ((k.map some)[i]?) then W.fps i else []
 have g:∀i a,a∈f i->a∈W.fps i:=λi a h=>by
  grind
 have m:p.length=vs.length:=by have:=t.len;rwa [ao,ao]at this
 refine⟨⟨W.Hf,W.H,f⟩,rfl,rfl,⟨R.sub,by rw[ao,ao,E,m],λi o h=>?_,λi j a u w=>R.dis i j a (g i a u) (g j a w),λi a h=>R.own i a (g i a h)⟩,λa ⟨i,h⟩=>⟨i,g i a h⟩⟩
 obtain⟨o',u,w⟩:=Nq h
 cases w
 rcases G i o u with ⟨n,q⟩ | ⟨A,C,rfl,J,D⟩
 ·obtain⟨v,s,r,_⟩:=t.get i o (by rw[bH,q];rfl)
  have x:f i=[]:=by
   show (if Ie _ then W.fps i else [])=[]
   rw[h]
   cases o with
   | ls b A=>exact nomatch n
   | im d=>rfl
   | sc d=>rfl
   | ty d=>rfl
  refine⟨v,s,?_,?_⟩
  ·show RepO K W.Hf W.H o v (f i)
   rw[x]
   cases o with
   | ls b A=>exact nomatch n
   | im d=>exact⟨rfl,RepN.same S r.2⟩
   | sc d=>exact⟨rfl,RepN.same S r.2⟩
   | ty d=>exact⟨rfl,RepN.same S r.2⟩
  grind
 ·obtain⟨v,s,r,B⟩:=t.get i _ (by rw[bH,J];rfl)
  obtain⟨H,F,I,y⟩:=R.get i _ D;have l:=y rfl;rw[<- (B rfl)]at l;subst l
  refine⟨H,s,?_,B⟩
  have x:f i=W.fps i:=by
   show (if Ie _ then W.fps i else [])=_
   rw[h];rfl
  show RepO K _ _ _ _ (f i)
  rw[x];exact I
theorem Dl (h:MS K T body) (hs:spP K (Ga n N.length body) vs H Q E):T { nx:=λ_ H'=>Q .non H',rt:=Q } (start N vs) H:=by
 obtain⟨u,W,j,rfl,B,m,b⟩:=hs;unfold Ga at b
 by_cases hn:j.length=n
 ·rw[if_pos hn]at b
  let D:Ev:=j.map some++List.replicate (N.length-n) none
  have R:Rep K u W D (start N vs):=by
   refine⟨m.sub,?_,λi o e=>?_,m.dis,m.own⟩
   ·show (j.map some++List.replicate (N.length-n) none).length=(vs.map some++List.replicate (N.length-vs.length) none).length
    rw[bh,bh,ao,ao,eX,eX,<- B,hn]
   ·have e:(j.map some++List.replicate (N.length-n) none)[i]?=some (some o):=e
    by_cases li:i<j.length
    ·rw[eY (by rw[ao];exact li)]at e
     obtain⟨v,w,r⟩:=m.get i o e
     refine⟨v,?_,r⟩
     show (vs.map some++List.replicate (N.length-vs.length) none)[i]?=_
     rw[eY (by rw[ao,<- B];exact li)];exact w
    ·rw[List.getElem?_append_right (by rw[ao];exact fH li),List.getElem?_replicate]at e
     split at e <;> cases e
  refine h u W D (start N vs) _ R ?_
  have l:∀p f c v d g,(match A3c j p f with
   | .bad=>False
   | .ret o t=>∀v W' g,Stp W.S W.Hf W.H (orS W'.S g) W'.Hf W'.H->Rep K u W' (t.map some) (vs.map some)->RepO K W'.Hf W'.H o v g->(∀a∈g,¬ W'.S a)->Q v W'.H) ->
   Stp W.S W.Hf W.H (orS d.S g) d.Hf d.H->Rep K u d f c->En K d c p v g->Q v d.H:=λp f c v d g b k s x=>by
   unfold A3c at b
   cases er:resolve p f with
   | none=>simp only[er]at b
   | some q =>
    obtain⟨o,U⟩:=q;simp only[er]at b
    cases ea:Hz j U with
    | none=>simp only[ea]at b
    | some t =>
     simp only[ea]at b;obtain⟨W2,S,w,C,I,J,L,M⟩:=Xa s x er
     obtain⟨O,A,y,P,F⟩:=A9s m I (by rw[w];exact k.fz) ea
     rw[show d.H=O.H by rw[y,C]]
     refine b v _ _ ?_ P (by rw[A,y];exact J) λa G z=>L a G (F a z)
     rw[A,y,w,C]
     exact k.less λa z=>M a (by
      rcases z with z | z
      ·exact .inl (F a z)
      ·exact .inr z)
  cases eb:body _ with
  | nx f =>
   rw[show body _=.nx _ from eb]at b
   exact λc d k s=>l _ _ _ _ _ _ b (k.less λa z=>by
    rcases z with z | z
    ·exact z
    ·cases z) s ⟨⟨rfl,rfl⟩,λa z=>nomatch z⟩
  | rt p f =>
   rw[show body _=.rt p _ from eb]at b
   exact λc v d g k s x=>l p _ _ v _ _ b k s x
  | bk f=>rw[show body _=.bk _ from eb]at b;exact b.elim
  | ct f=>rw[show body _=.ct _ from eb]at b;exact b.elim
  | bad=>rw[show body _=.bad from eb]at b;exact b.elim
 ·rw[if_neg hn]at b;exact b.elim
theorem Do (hs:spP K (Ga n N body) vs H Q E):vs.length=n:=by
 obtain⟨d,W,c,b,e,f,a⟩:=hs;unfold Ga at a
 grind
def Aa2 (c:Ev):List PV->Option (List O)
 | []=>some []
 | .o o::r=>(Aa2 c r).map (o::·)
 | .sl i::r=>match c[i]? with
  | some (some o)=>(Aa2 c r).map (o.flag true::·)
  | _=>none
noncomputable def slots:List PV->o4
 | []=>[]
 | .o _::r=>none::slots r
 | .sl i::r=>some i::slots r
noncomputable def ndB:List Nat->Bool
 | []=>true
 | x::r=>!r.contains x&&ndB r
theorem A6r:∀{l:List Nat},ndB l=true->l.Nodup
 | [],_=>dz
 | x::r,h=>by
  obtain⟨h1,h2⟩:=au.mp (show (!r.contains x&&ndB r)=true from h)
  rw[bO]
  exact⟨λz=>by simp[z]at h1,A6r h2⟩
def Rh (F:n_)(ps:List PV)(c:Ev):R PV:=match Aa2 c ps with
 | none=>.bad
 | some as=>if ndB ((pairsOf 0 (slots ps)).map (·.2))=true then match F as with
  | .bad=>.bad
  | .ret o as'=>match Gs (as'.map some) (pairsOf 0 (slots ps)) c with
   | none=>.bad
   | some c=>.ok (.o o) c
  else .bad
def cF (F:n_)(fa:n6):n8:=λc=>(fa c).bind λps c=>Rh F ps c
theorem Wv {Hf:Hp}:∀{ps:List PV}{vs:m8}{as:List O},Aa2 c ps=some as->zO K Hf σ ps vs->as.length=vs.length/\∀(k:Nat) (o:O),as[k]?=some o->∃v,vs[k]?=some v /\
 ((RepN K Hf o v/\(slots ps)[k]?=some none)\/∃i o',(slots ps)[k]?=some (some i)/\c[i]?=some (some o')/\o=o'.flag true/\σ[i]?=some (some v))
 | [],vs,as,e,h=>by cases (show some []=some as from e);cases (show vs=[] from h);exact⟨rfl,λk o h=>by simp at h⟩
 | .o o1::r,_,as,e,⟨v,vr,rfl,h,t⟩=>by
  obtain⟨l,e2,rfl⟩:=aM.mp (show (Aa2 c r).map (o1::·)=some as from e)
  obtain⟨hl,hg⟩:=Wv e2 t
  refine⟨by rw[aF,aF,hl],λk o hk=>?_⟩
  cases k with
  | zero=>cases (show some o1=some o from hk);exact⟨v,rfl,.inl ⟨h,rfl⟩⟩
  | succ k=>exact hg k o (by simpa using hk)
 | .sl i::r,_,as,e,⟨v,vr,rfl,h,t⟩=>by
  unfold Aa2 at e
  cases ec:c[i]? with
  | none=>simp only[ec]at e;cases e
  | some x =>
   cases x with
   | none=>simp only[ec]at e;cases e
   | some o1 =>
    simp only[ec]at e;obtain⟨l,e2,rfl⟩:=aM.mp e;obtain⟨hl,hg⟩:=Wv e2 t
    refine⟨by rw[aF,aF,hl],λk o hk=>?_⟩
    cases k with
    | zero=>cases (show some (o1.flag true)=some o from hk);exact⟨v,rfl,.inr ⟨i,o1,rfl,ec,rfl,h⟩⟩
    | succ k=>exact hg k o (by simpa using hk)
theorem Rp {Hf:Hp}:∀{ps:List PV}{vs:m8}{k i:Nat}{v:V},zO K Hf σ ps vs->(slots ps)[k]?=some (some i)->σ[i]?=some (some v)->vs[k]?=some v
 | [],vs,k,i,v,h,e,q=>by simp[slots]at e
 | .o _::r,_,k,i,v,⟨v1,vr,rfl,h,t⟩,e,q=>by
  cases k with
  | zero=>simp[slots]at e
  | succ k=>have:=Rp (k:=k) t (by simpa[slots] using e) q;simpa using this
 | .sl j::r,_,k,i,v,⟨v1,vr,rfl,h,t⟩,e,q=>by
  cases k with
  | zero =>
   have:j=i:=by simpa[slots] using e
   subst this
   cases (show some (some v1)=some (some v) from (show σ[j]?=some (some v1) from h).symm.trans q)
   rfl
  | succ k=>have:=Rp (k:=k) t (by simpa[slots] using e) q;simpa using this
theorem Au3 (g:Rep K β W1 c1 σ) (R:zO K W1.Hf σ ps vs)
 (s1:(Rh F ps c1).sat λp c'=>∀v e y,Stp W1.S W1.Hf W1.H (orS e.S y) e.Hf e.H->Rep K β e c' σ->En K e σ p v y->(∀j a,a∈W1.fps j->some j∉slots ps->e.H a=W1.H a)->Q v e.H):spP K F (vs++[]) W1.H Q E:=by
 unfold Rh at s1
 cases ea:Aa2 c1 ps with
 | none=>simp only[ea]at s1;exact s1.elim
 | some M =>
  simp only[ea]at s1
  by_cases nd:ndB ((pairsOf 0 (slots ps)).map (·.2))=true
  ·rw[if_pos nd]at s1
   obtain⟨P,hg⟩:=Wv ea R
   let m:=pairsOf 0 (slots ps)
   let l:Nat->V:=λk=>(vs[k]?).getD .non
   have L:Lent K W1.Hf m c1 σ l (M.map some) (vs.map some):=by
    refine⟨Q8,A6r nd,by rw[ao,ao];exact P,λk o B=>?_⟩
    obtain⟨o1,T,h2⟩:=Nq B
    cases h2
    obtain⟨v,u,q⟩:=hg k o T
    have c:(vs.map some)[k]?=some (some v):=by rw[bH,u];rfl
    rcases q with ⟨I,t⟩ | ⟨i,H,t,n,rfl,G⟩
    ·refine .inl ⟨?_,λi Z=>?_,v,c,I⟩
     ·cases o with
      | ls b D=>exact I.elim
      | im d=>rfl
      | sc d=>rfl
      | ty d=>rfl
     ·have:=(Ez Z).2
      rw[cP,t]at this;cases this
    ·have f:Ie c1[i]?=false->∀j,(k,j)∈m->Ie c1[j]?=false:=λq j z=>by
      have:=(Ez z).2;rw[cP,t]at this;cases this;exact q
     obtain⟨v',w,r,_⟩:=g.get i H n
     cases (show some _=some _ from w.symm.trans G)
     cases H with
     | im d=>exact .inl ⟨rfl,f (by rw[n];rfl),v,c,r.2⟩
     | sc d=>exact .inl ⟨rfl,f (by rw[n];rfl),v,c,r.2⟩
     | ty d=>exact .inl ⟨rfl,f (by rw[n];rfl),v,c,r.2⟩
     | ls b D=>exact .inr ⟨i,b,D,v,Om t,n,rfl,G,c,by show vs[k]?.getD _=v;rw[u];rfl⟩
   refine⟨l,⟨W1.Hf,W1.H,Sy m _ _⟩,M,rfl,by rw[cA];exact P,by rw[cA];exact(L.rep g),?_⟩
   cases ef:F _ with
   | bad=>simp only[ef]at s1;exact s1.elim
   | ret o A =>
    simp only[ef]at s1;intro v e y J U W X
    cases eb:Gs (A.map some) m c1 with
    | none=>simp only[m]at eb;simp only[eb]at s1;exact s1.elim
    | some cO =>
     have h:=eb;simp only[m]at h;simp only[h]at s1
     obtain⟨W2,w,x,R2,C,Y⟩:=L.back g U J eb (λk i b D v hm hc u=>by
      have:=(Ez hm).2;rw[cP]at this
      show vs[k]?.getD _=v
      rw[Rp R this u];rfl) X
     rw[<- x]
     refine s1 v _ _ (by rw[w,x];exact C) R2 ⟨by rw[w,x];exact W,Y⟩ λj a N z=>?_
     obtain⟨_,ob,s,_⟩:=g.own j a N;rw[x,s]
     refine J.kp a _ s λ⟨k,B⟩=>z ?_
     obtain⟨i,q1,_,S⟩:=Gz B
     cases g.dis i j a S N
     have:=(Ez q1).2;exact bG this
  ·rw[if_neg nd]at s1;exact s1.elim
theorem Ob (d:Rep K β W1 c1 σ) (e:zO K W1.Hf σ ps vs)
 (s1:(Rh F ps c1).sat λp c'=>∀v a b,Stp W1.S W1.Hf W1.H (orS a.S b) a.Hf a.H->Rep K β a c' σ->En K a σ p v b->Q v a.H):spP K F (vs++[]) W1.H Q E :=
 Au3 d e (s1.mono λp c' k v a b c R r _=>k v _ _ c R r)
theorem Gy (ha:MA K t fa):ME K (Le (spP K F) [] E t) (cF F fa):=by
 intro j W c h Q R s
 refine ha _ W c _ _ R (s.bnd.mono λl m f u i a e d=>?_)
 exact Ob e d (f.mono λp n k v o q g b r=>k v _ _ (a.trans g) b r)
end
section
variable {K:v9}{X:Cx}{Hf H:Hp}{Q:VK}
theorem OpR.or (h:OpR X f r) (h':OpR X f b):OpR X f (λx y H Q=>r x y H Q\/b x y H Q):=by
 intro c s e H x y v u Q I d a q
 rcases q with q | q
 ·exact h _ s _ H x y v u Q I d a q
 ·exact h' _ s _ H x y v u Q I d a q
theorem zB.or (h:zB X f r) (h':zB X f b):zB X f (λxs H Q=>r xs H Q\/b xs H Q):=by
 intro c s d H xs e Q I a q
 rcases q with q | q
 ·exact h _ s _ H _ _ Q I a q
 ·exact h' _ s _ H _ _ Q I a q
theorem Eh (h:RdV Hf H (.int i) v):v=.int i:=h
theorem Jj (h:RdV Hf H (.str x) v):v=.str x:=h
theorem Uv (h:RdV Hf H (.bool b) v):v=.bl b:=h
theorem Ur (h:RdV Hf H .none v):v=.non:=h
theorem Ig (s:Same Hf H) (h:RdV Hf H (.tuple ds) v):∃a b,v=.ref a/\H a=some (.tup b)/\TrL Hf ds b:=by
 obtain⟨a,b,e,q,t⟩:=(show Tr _ _ v from h)
 exact⟨a,b,e,s _ _ q,t⟩
theorem Fz (h:RdV Hf H (.list ds) v):∃a vs,v=.ref a/\H a=some (.lst vs)/\TrL Hf ds vs:=h
theorem New.int (h:New K Hf H (.im (.int i)) Q) (s:Same Hf H):Q (.int i) H:=h.same s rfl
theorem New.bl (h:New K Hf H (.im (.bool b)) Q) (s:Same Hf H):Q (.bl b) H:=h.same s rfl
theorem New.str (h:New K Hf H (.im (.str x)) Q) (s:Same Hf H):Q (.str x) H:=h.same s rfl
theorem New.tupS (h:New K Hf H (.im (.tuple ds)) Q) (s:Same Hf H) (t:TrL Hf ds vs) (S:Same H H') (hp:H' p=some (.tup vs)):Q (.ref p) H':=by
 have c:Same _ (upd Hf p (.tup vs)):=λb u e=>by
  unfold upd
  split
  ·have:=S b u (s b u e)
   simp_all
  grind
 refine h _ _ _ [] ⟨c,λa o e _=>S a o e,λa o e d _ q=>?_,λa z=>nomatch z⟩ (λb u e=>?_) ⟨rfl,p,vs,rfl,Bd,TrL.same c t⟩
 ·unfold upd
  split
  ·rename_i z
   have:=S a o e;rw[z,hp]at this
   cases this
   trivial
  lia
 ·unfold upd at e
  split at e
  ·simp_all
  ·exact S b u (s b u e)
def B2f:R2:=λx y H Q=>(rI0 (λi j=>.int (i+j)) x y H Q\/(∃i j,x=.str i/\y=.str j/\i.length+j.length<=sizeLine/\Q (.str (i++j)) H))\/(B5o x y H Q\/Bv4 x y H Q)
theorem B1u:OpR X (binaryOp .Add) B2f:=OpR.or (OpR.or B0r Ap3) (OpR.or Bw8 Bg8)
noncomputable def Br:t_->t_->m7
 | .int i,.int j=>some (.im (.int (i+j)))
 | .str a,.str b=>if a.length+b.length<=16000000 then some (.im (.str (a++b))) else none
 | .list a,.list b=>if a.length+b.length<=16000000 then some (.ls false (a++b)) else none
 | .tuple a,.tuple b=>if a.length+b.length<=16000000 then some (.im (.tuple (a++b))) else none
 | _,_=>none
theorem lim (h:n<=16000000):n<=sizeLine:=aj h (by decide)
theorem Aa4:OpS K B2f Br:=by
 intro C H x y A B o Q s g f e n;unfold Br at e
 split at e
 ·rename_i i j
  cases e
  exact .inl (.inl ⟨i,j,Eh g,Eh f,n.int s⟩)
 ·rename_i a b
  split at e
  ·rename_i l
   cases e
   exact .inl (.inr ⟨a,b,Jj g,Jj f,lim l,n.str s⟩)
  ·cases e
 ·have e := e
  split at e
  ·rename_i l
   cases e
   obtain⟨p,v,k,h,d⟩:=Fz g;obtain⟨q,t,u,m,c⟩:=Fz f
   exact .inr (.inl ⟨p,q,v,t,k,u,h,m,by rw[<- d.length,<- c.length];exact lim l,λr w=>n.lst s (d.app c) w⟩)
  ·cases e
 ·have e := e
  split at e
  ·rename_i l
   cases e
   obtain⟨p,v,k,h,d⟩:=Ig s g;obtain⟨q,t,u,m,c⟩:=Ig s f
   exact .inr (.inr ⟨p,q,v,t,k,u,h,m,by rw[<- d.length,<- c.length];exact lim l,λr z S w=>n.tupS s (d.app c) S w⟩)
  ·cases e
 ·cases e
noncomputable def opI (C:Int->Int->Bool) (g:Int->Int->Int):t_->t_->m7
 | .int i,.int j=>if C i j then some (.im (.int (g i j))) else none
 | _,_=>none
theorem Ax2 (hc:∀i j,C i j=true->a i j):OpS K (rI a λi j=>.int (g i j)) (opI C g):=by
 intro d H x y h f o Q s c b e n;unfold opI at e
 split at e
 ·rename_i i j
  split at e
  ·rename_i l
   cases e
   exact⟨i,j,Eh c,Eh b,hc i j l,n.int s⟩
  trivial
 grind
noncomputable def Yp (g:Int->Int->t_):t_->t_->m7
 | .int i,.int j=>some (.im (g i j))
 | _,_=>none
theorem Ad5 (hg:∀i j H,Tr H (g i j) (g' i j)):OpS K (rI0 g') (Yp g):=by
 intro c H x y f d o Q s a b e n;unfold Yp at e
 split at e
 ·rename_i i j
  cases e
  exact⟨i,j,Eh a,Eh b,n.same s (hg i j _)⟩
 trivial
noncomputable def Wc (i j:Int):Bool:=(decide (-(2 ^ 64)<i)&&decide (i<2 ^ 64))||(decide (-(2 ^ 64)<j)&&decide (j<2 ^ 64))
noncomputable def Bm (d:t_):Bool:=d.canLay0&&decide (d.depth<=40)
theorem G4 (h:Bm d=true):Flat d:=by
 obtain⟨b,a⟩:=au.mp h;exact⟨b,aR a⟩
noncomputable def Ug:t_->t_->Bool
 | .str _,.str _=>true
 | _,_=>false
def Bb (neg:Bool)(a b:t_):m7:=if (Bm a&&Bm b)||Ug a b then some (.im (.bool (if neg then !PyData.eqv a b else PyData.eqv a b))) else none
def rEQ:R2:=λx y H Q=>B6t x y H Q\/rEq x y H Q
def rNE:R2:=λx y H Q=>B6r x y H Q\/rNe x y H Q
theorem Bs5 (hu:X.A.units+64<cLine):OpR X (compareOp .Eq) rEQ:=OpR.or (B1h hu) B6o
theorem Bt3 (hu:X.A.units+64<cLine):OpR X (compareOp .NotEq) rNE:=OpR.or (B2w hu) B5j
theorem Wi (x y:Str):PyData.eqv (.str x) (.str y)=decide (V.str x=V.str y):=by
 show (x==y)=_
 grind
theorem S8:OpS K rEQ (Bb false):=by
 intro h H x y f d o Q s b a e n;unfold Bb at e
 split at e
 ·rename_i l
  cases e
  rcases fX.mp l with l | l
  ·obtain⟨g,c⟩:=au.mp l
   exact .inl ⟨f,d,b.tr s,a.tr s,G4 g,G4 c,n.bl s⟩
  ·unfold Ug at l
   split at l
   ·cases Jj b
    cases Jj a
    refine .inr ⟨rfl,?_⟩
    rw[<- Wi];exact n.bl s
   grind
 grind
theorem Aa7:OpS K rNE (Bb true):=by
 intro h H x y f d o Q s b a e n;unfold Bb at e
 split at e
 ·rename_i l
  cases e
  rcases fX.mp l with l | l
  ·obtain⟨g,c⟩:=au.mp l
   exact .inl ⟨f,d,b.tr s,a.tr s,G4 g,G4 c,n.bl s⟩
  ·unfold Ug at l
   split at l
   ·cases Jj b
    cases Jj a
    refine .inr ⟨rfl,?_⟩
    rw[<- Wi];exact n.bl s
   grind
 grind
def A6l (a b:t_):m7:=if Bm a&&Bm b then (Jw false a b).map λr=>.im (.bool r) else none
theorem By4:OpS K B4r A6l:=by
 intro Hf H x y b c o Q s d a e n;unfold A6l at e
 split at e
 ·rename_i l
  obtain⟨g,f⟩:=au.mp l;obtain⟨r,h,rfl⟩:=aM.mp e;exact⟨b,c,r,d.tr s,a.tr s,G4 g,G4 f,h,n.bl s⟩
 grind
noncomputable def Ep (neg:Bool) (a b:t_):m7:=match b with
 | .none=>some (.im (.bool (match a with
  | .none=>!neg
  | _=>neg)))
 | _=>none
theorem Ax8 (h:RdV Hf H d v):decide (v=.non)=(match d with | .none=>true | _=>false):=by
 cases d with
 | none=>cases Ur h;rfl
 | bool b=>cases Uv h;rfl
 | int i=>cases Eh h;rfl
 | str x=>cases Jj h;rfl
 | list c=>obtain⟨a,e,rfl,_⟩:=Fz h;rfl
 | tuple c=>obtain⟨a,e,rfl,_⟩:=(show Tr _ _ v from h);rfl
 | dict k=>trivial
theorem Z5:OpS K (λx y H Q=>y=.non/\Q (.bl (decide (x=.non))) H) (Ep false):=by
 intro f H x y c b o Q s d a e n
 match b,a,e with
 | .none,a,e =>
  refine⟨Ur a,?_⟩
  rw[Ax8 d]
  cases e
  cases c <;> exact n.bl s
theorem An6:OpS K (λx y H Q=>y=.non/\Q (.bl (!decide (x=.non))) H) (Ep true):=by
 intro f H x y c b o Q s d a e n
 match b,a,e with
 | .none,a,e =>
  refine⟨Ur a,?_⟩
  rw[Ax8 d]
  cases e
  cases c <;> exact n.bl s
def Ih (neg:Bool):t_->t_->m7
 | d,.list ds=>if Bm d&&PyData.canLayAll0 ds then some (.im (.bool (if neg then !(ds.any λe=>PyData.eqv e d) else ds.any λe=>PyData.eqv e d))) else none
 | d,.tuple ds=>if Bm d&&PyData.canLayAll0 ds then some (.im (.bool (if neg then !(ds.any λe=>PyData.eqv e d) else ds.any λe=>PyData.eqv e d))) else none
 | .str i,.str j=>if neg then none else some (.im (.bool (!(Builtin.Str.occurrences j i 0 j.length 1).isEmpty)))
 | _,_=>none
theorem Zu:OpS K (B6p true) (Ih true):=by
 intro h H x y f i o Q s d g e n;unfold Ih at e
 split at e
 ·rename_i a
  have e := e
  split at e
  ·rename_i l
   obtain⟨c,b⟩:=au.mp l
   cases e
   exact⟨f,a,d.tr s,.inl (g.tr s),G4 c,b,n.bl s⟩
  simp_all
 ·rename_i a
  have e := e
  split at e
  ·rename_i l
   obtain⟨c,b⟩:=au.mp l
   cases e
   exact⟨f,a,d.tr s,.inr (g.tr s),G4 c,b,n.bl s⟩
  grind
 ·simp_all
 grind
theorem A7b (t:TrL Hf ds vs) (h:atI ds i=some d):∃v,atI vs i=some v/\Tr Hf d v:=by
 unfold atI at h ⊢;rw[<- t.length];obtain⟨j,c,a⟩:=bc.mp h;obtain⟨v,e,b⟩:=t.got a
 grind
def cutD (ds:w5)(lo hi:q_):w5:=(ds.drop (HT.sIx ds.length 0 lo)).take (HT.sIx ds.length ds.length hi-HT.sIx ds.length 0 lo)
theorem TrL.drop':∀{ds:w5}{vs:m8}(n:Nat),TrL Hf ds vs->TrL Hf (ds.drop n) (vs.drop n)
 | ds,vs,0,h=>h
 | [],_,n+1,h=>by cases (show _=[] from h);exact rfl
 | d::ds,_,n+1,⟨v,r,rfl,_,t⟩=>TrL.drop' n t
theorem TrL.take':∀{ds:w5}{vs:m8}(n:Nat),TrL Hf ds vs->TrL Hf (ds.take n) (vs.take n)
 | ds,vs,0,h=>by rw[List.take_zero,List.take_zero];exact rfl
 | [],_,n+1,h=>by cases (show _=[] from h);exact rfl
 | d::ds,_,n+1,⟨v,r,rfl,q,t⟩=>⟨v,r.take n,rfl,q,TrL.take' n t⟩
theorem TrL.cut (t:TrL Hf ds vs):TrL Hf (cutD ds lo hi) (A2l vs lo hi):=by
 unfold cutD A2l;rw[<- t.length];exact TrL.take' _ (TrL.drop' _ t)
end
section
variable {K:v9}{X:Cx}{Hf H:Hp}{Q:VK}{β:Nat->V}{W W':Wo}{c c':Ev}{σ:St}{v:V}
theorem B2a (h:B0b Hf H [d] xs):∃x,xs=[x]/\RdV Hf H d x:=by
 obtain⟨v,r,b,c,a⟩:=h
 cases (a)
 grind
noncomputable def Jx:w5->m7
 | [.list ds]=>some (.im (.int ds.length))
 | [.tuple ds]=>some (.im (.int ds.length))
 | [.str z]=>if z.length<=16000000 then some (.im (.int z.length)) else none
 | _=>none
theorem A4a:B4g K (Tg K) Jx:=by
 intro Hf H xs ds o Q s d e n;unfold Jx at e
 split at e
 ·obtain⟨x,rfl,r⟩:=B2a d
  obtain⟨a,c,rfl,b,t⟩:=Fz r
  cases e
  refine⟨.ref a,c.length,rfl,Bk5 b,?_⟩
  rw[<- t.length];exact n.int s
 ·obtain⟨x,rfl,r⟩:=B2a d
  obtain⟨a,c,rfl,b,t⟩:=Ig s r
  cases e
  refine⟨.ref a,c.length,rfl,Bh6 b,?_⟩
  rw[<- t.length];exact n.int s
 ·rename_i z
  obtain⟨x,rfl,r⟩:=B2a d
  cases Jj r
  split at e
  ·rename_i l
   cases e
   refine⟨.str z,z.length,rfl,?_,n.int s⟩
   show (if z.length<=sizeLine then some _ else none)=_
   rw[if_pos (lim l)]
  trivial
 simp_all
def Bk4 (K:v9):m8->Hp->VK->Prop:=λxs H Q=>Tg K xs H Q\/Ar9 K xs H Q
theorem A7o:zB X (.builtin "len") (Bk4 X.K):=zB.or A1y Al8
def La (f:n8):n8:=λc=>(f c).bind λp c=>match nrm p with
 | .o (.sc ns)=>.ok (.o (.im (.int ns.length))) c
 | p=>match Fw c p with
  | some d=>match Jx [d] with
   | some o=>.ok (.o o) c
   | none=>.bad
  | none=>.bad
theorem Vy (h:ME K t f):ME K (tCB (Bk4 K) (Bt t Eu)) (La f):=by
 intro A W c u Q R s
 refine h.toV A W c u _ R (s.bnd.mono λp w e v r n k g=>?_)
 have m:∀q:PV,RepA K r.Hf u q v->((match Fw w q with
  | some d=>(match Jx [d] with
   | some o=>.ok (.o o) w
   | none=>.bad)
  | none=>.bad:U.R PV)).sat (λp C=>∀v j l,Stp W.S W.Hf W.H (orS j.S l) j.Hf j.H->Rep K A j C u->En K j u p v l->Q v j.H)->Bk4 K [v] r.H Q:=λq g e=>by
  cases ex:Fw w q with
  | none=>simp only[ex]at e;exact e.elim
  | some d =>
   simp only[ex]at e
   cases eo:Jx [d] with
   | none=>simp only[eo]at e;exact e.elim
   | some o =>
    simp only[eo]at e
    exact .inl (A4a r.Hf r.H [v] [d] o Q k.sub ⟨v,[],rfl,Im k g ex,rfl⟩ eo (New.of k λv j l z y x=>e v j l (n.trans z) y x))
 generalize nrm p=q at e g
 match q,g,e with
 | .o (.sc ns),g,e =>
  obtain⟨a,rfl,B⟩:=g;have e:∀v j l,Stp _ _ _ _ _ _->Rep K _ j _ _->En K _ _ _ v _->Q v _:=e
  refine .inr ⟨.ref a,ns.length,rfl,?_,(New.of k λv j l z y x=>e v _ _ (n.trans z) y x).int k.sub⟩
  exact .inl ⟨ns.map _,Same.seq k.sub B,by simp_all⟩
 | .o (.im d),g,e=>exact m _ g e
 | .o (.ls b d),g,e=>trivial
 | .o (.ty T),g,e=>trivial
 | .sl i,g,e=>exact m _ g e
inductive Ty5 where
 | int | str | bool | list | tuple
noncomputable def Ty5.nm:Ty5->String
 | .int => "int"
 | .str => "str"
 | .bool => "bool"
 | .list => "list"
 | .tuple => "tuple"
noncomputable def Oz:Ty5->t_->Bool
 | .int,.int _=>true
 | .int,.bool _=>true
 | .str,.str _=>true
 | .bool,.bool _=>true
 | .list,.list _=>true
 | .tuple,.tuple _=>true
 | _,_=>false
noncomputable def Aw9:t_->String
 | .none => "NoneType"
 | .bool _ => "bool"
 | .int _ => "int"
 | .str _ => "str"
 | .list _ => "list"
 | .tuple _ => "tuple"
 | .dict _ => "dict"
theorem A0k (s:Same Hf H) (h:RdV Hf H d v):O3 H v=some (Aw9 d):=by
 cases d with
 | none=>cases Ur h;rfl
 | bool b=>cases Uv h;rfl
 | int i=>cases Eh h;rfl
 | str x=>cases Jj h;rfl
 | list c=>obtain⟨a,f,rfl,e,_⟩:=Fz h;exact B0c e
 | tuple c=>obtain⟨a,f,rfl,e,_⟩:=Ig s h;exact Bz3 e
 | dict k=>trivial
theorem Aw4 (h:RdV Hf H d v) (T:Ty5):Es (Aw9 d) T.nm=some (Oz T d):=by
 cases d with
 | none=>cases T <;> first | exact Ua | exact T5 | exact Rx | exact Rv | exact Qo
 | bool b=>cases T <;> first | exact Ah1 | exact Am3 | exact Ag3 | exact Af1 | exact Xw
 | int i=>cases T <;> first | exact Ar4 | exact Au9 | exact Am4 | exact Ai4 | exact Ac0
 | str x=>cases T <;> first | exact Ap4 | exact Ao9 | exact Aj6 | exact An3 | exact Ae0
 | list a=>cases T <;> first | exact Ag8 | exact Ai2 | exact Af8 | exact Ab4 | exact Xy
 | tuple a=>cases T <;> first | exact Ad0 | exact Ab6 | exact Yo | exact Yj | exact Vh
 | dict k=>exact(h).elim
def cUn (op:t_->m7)(f:n8):n8:=λc=>(f c).bind λp c=>match Fw c (nrm p) with
 | some d=>match op d with
  | some o=>.ok (.o o) c
  | none=>.bad
 | none=>.bad
def UnS (K:v9)(r:V->Hp->VK->Prop)(op:t_->m7):Prop:=∀(Hf H:Hp) (x:V) (d:t_) (o:O) (Q:VK),Same Hf H->RdV Hf H d x->op d=some o->New K Hf H o Q->r x H Q
theorem Ms (h:ME K t f) (hr:UnS K r op):ME K (tUn r t) (cUn op f):=by
 intro u W c m Q R s
 refine h.toV _ W c _ _ R (s.bnd.mono λp j a v w e b k=>?_)
 cases ex:Fw j (nrm p) with
 | none=>simp only[ex]at a;trivial
 | some d =>
  simp only[ex]at a
  cases eo:op d with
  | none=>simp only[eo]at a;trivial
  | some o =>
   simp only[eo]at a
   exact hr _ _ v d o Q b.sub (Im b k ex) eo (New.of b λv n q i l g=>a v _ _ (e.trans i) l g)
theorem M3 (h:ME K t f) (hr:UnS K (λx H Q=>r [x] H Q) op):ME K (tCB r (Bt t Eu)) (cUn op f):=Ms h hr
def Dz (T:Ty5)(d:t_):m7:=some (.im (.bool (Oz T d)))
def My (T1 T2:Ty5)(d:t_):m7:=some (.im (.bool (Oz T1 d||Oz T2 d)))
theorem Au7 (T:Ty5) (h:ME K t f):ME K (tCB (Pk K) (Bt t (Bt (tC (.ty T.nm)) Eu))) (cUn (Dz T) f) :=
 Ms h λa H x d o Q s r e n=>by
  cases e
  exact⟨x,T.nm,Aw9 d,Oz T d,rfl,A0k s r,Aw4 r T,n.bl s⟩
theorem Bn6 (h1:Es t A=some a) (h2:Es t B=some b):Mq t [A,B]=some (a||b):=by
 unfold Mq;unfold Mq;unfold Mq
 grind
theorem Bg4 (g j:Ty5) (h:ME K t f):ME K (tCB (Jz K) (Bt t (Bt (A8t (Bt (tC (.ty g.nm)) (Bt (tC (.ty j.nm)) Eu))) Eu))) (cUn (My g j) f) :=
 Ms (r:=λx H Q=>2<=sizeLine/\∀p,H p=none->Jz K _ _ Q) h λv H x d o Q s r e n=>by
  cases e
  refine⟨by decide,λp c=>⟨x,p,[g.nm,j.nm],Aw9 d,Oz _ d||Oz _ d,rfl,Bd,?_,Bn6 (Aw4 r _) (Aw4 r _),?_⟩⟩
  ·have l:Same _ (upd H p (.tup [.ty g.nm,.ty j.nm])):=Uk s c
   refine A0k l ?_
   cases d with
   | list u=>obtain⟨a,m,e,q,t⟩:=r;exact⟨a,m,e,Cu c _ _ q,t⟩
   | none=>exact r
   | bool b=>exact r
   | int i=>exact r
   | str z=>exact r
   | tuple u=>exact r
   | dict k=>exact r
  ·exact n _ _ _ [] ((Stp.newL s c).less λa z=>nomatch z) (Uk s c) ⟨rfl,rfl⟩
noncomputable def boolsOf:w5->Option (List Bool)
 | []=>some []
 | .bool b::r=>(boolsOf r).map (b::·)
 | _=>none
noncomputable def intsOf:w5->Option (List Int)
 | []=>some []
 | .int b::r=>(intsOf r).map (b::·)
 | _=>none
theorem Uo:∀{ds:w5}{bs:List Bool}{vs:m8},boolsOf ds=some bs->TrL Hf ds vs->vs=bs.map V.bl
 | [],bs,vs,e,t=>by cases (show some []=some bs from e);exact t
 | .bool b::r,bs,_,e,⟨v,vr,rfl,h,t⟩=>by
  obtain⟨l,e1,rfl⟩:=aM.mp (show (boolsOf r).map (b::·)=some bs from e)
  cases (show v=.bl b from h)
  rw[Uo e1 t];rfl
 | .none::r,bs,_,e,_=>nomatch e
 | .int _::r,bs,_,e,_=>nomatch e
 | .str _::r,bs,_,e,_=>nomatch e
 | .list _::r,bs,_,e,_=>nomatch e
 | .tuple _::r,bs,_,e,_=>nomatch e
 | .dict _::r,bs,_,e,_=>nomatch e
theorem Be2:∀{ds:w5}{bs:List Int}{vs:m8},intsOf ds=some bs->TrL Hf ds vs->vs=bs.map V.int
 | [],bs,vs,e,t=>by cases (show some []=some bs from e);exact t
 | .int b::r,bs,_,e,⟨v,vr,rfl,h,t⟩=>by
  obtain⟨l,e1,rfl⟩:=aM.mp (show (intsOf r).map (b::·)=some bs from e)
  cases (show v=.int b from h)
  rw[Be2 e1 t];rfl
 | .none::r,bs,_,e,_=>nomatch e
 | .bool _::r,bs,_,e,_=>nomatch e
 | .str _::r,bs,_,e,_=>nomatch e
 | .list _::r,bs,_,e,_=>nomatch e
 | .tuple _::r,bs,_,e,_=>nomatch e
 | .dict _::r,bs,_,e,_=>nomatch e
def Xh:t_->m7
 | .list ds=>(boolsOf ds).map λbs=>.im (.bool (bs.any id))
 | _=>none
def Zi:t_->m7
 | .list ds=>(boolsOf ds).map λbs=>.im (.bool (bs.all id))
 | _=>none
def A7q:t_->m7
 | .list ds=>(intsOf ds).map λbs=>.im (.int bs.sum)
 | _=>none
theorem Ac6:UnS K (λx H Q=>Ng K [x] H Q) Xh:=by
 intro Hf H x d o Q s r e n
 match d,r,e with
 | .list _,r,e =>
  obtain⟨c,f,rfl⟩:=aM.mp (e);obtain⟨a,vs,rfl,b,t⟩:=Fz r
  exact⟨a,c,rfl,by rw[<- Uo f t];exact SqL.of b,n.bl s⟩
theorem Bp4:UnS K (λx H Q=>Ny K [x] H Q) Zi:=by
 intro Hf H x d o Q s r e n
 match d,r,e with
 | .list _,r,e =>
  obtain⟨c,f,rfl⟩:=aM.mp (show (boolsOf _).map _=some o from e)
  obtain⟨a,vs,rfl,b,t⟩:=Fz r
  exact⟨a,c,rfl,by rw[<- Uo f t];exact SqL.of b,n.bl s⟩
theorem Ay0:UnS K (λx H Q=>Mx K [x] H Q) A7q:=by
 intro Hf H x d o Q s r e n
 match d,r,e with
 | .list _,r,e =>
  obtain⟨c,f,rfl⟩:=aM.mp (e);obtain⟨a,vs,rfl,b,t⟩:=Fz r
  exact⟨a,c,rfl,by rw[<- Be2 f t];exact SqL.of b,n.int s⟩
noncomputable def Bc3:t_->m7
 | .int i=>some (.im (.int i))
 | .bool b=>some (.im (.int (if b then 1 else 0)))
 | _=>none
theorem Bo1:UnS K (λx H Q=>Mw K [x] H Q) Bc3:=by
 intro a H x d o Q s r e n
 match d,r,e with
 | .int i,r,e=>cases e;cases Eh r;exact .inl ⟨i,rfl,n.int s⟩
 | .bool b,r,e=>cases e;cases Uv r;exact .inr ⟨b,rfl,n.int s⟩
noncomputable def A0v:t_->m7
 | .int i=>some (.im (.int (if i<0 then -i else i)))
 | _=>none
theorem Bh5:UnS K (λx H Q=>O7 K [x] H Q) A0v:=by
 intro a H x d o Q s r e n
 match d,r,e with
 | .int i,r,e=>cases e;cases Eh r;exact⟨i,rfl,n.int s⟩
noncomputable def Dt:t_->m7
 | .int i=>some (.im (.int (-i)))
 | _=>none
theorem Oe:UnS K (rU λi=>.int (-i)) Dt:=by
 intro a H x d o Q s r e n
 match d,r,e with
 | .int i,r,e=>cases e;cases Eh r;exact⟨i,rfl,n.int s⟩
noncomputable def Ii:t_->m7
 | .list ds=>some (.ls false ds)
 | .tuple ds=>some (.ls false ds)
 | _=>none
theorem Ah0:UnS K (λx H Q=>Jp K [x] H Q) Ii:=by
 intro Hf H x d o Q s r e n
 match d,r,e with
 | .list _,r,e =>
  cases e
  obtain⟨a,c,rfl,f,t⟩:=Fz r
  exact⟨a,c,rfl,.inl (SqL.of f),λl b=>n.lst s t b⟩
 | .tuple _,r,e =>
  cases e
  obtain⟨a,c,rfl,f,t⟩:=Ig s r
  exact⟨a,c,rfl,.inr (SqT.of f),λl b=>n.lst s t b⟩
noncomputable def Au8:t_->t_->m7
 | .int i,.int j=>some (.im (.int (if j<i then j else i)))
 | _,_=>none
theorem Ay1 {c d:TE} (ha:ME K c fa) (hb:ME K d fb):ME K (tCB (N5 K) (Bt c (Bt d Eu))) (cOp Au8 fa fb) :=
 Df ha hb λh H x y g f o Q s a b e n=>by
  match g,f,a,b,e with
  | .int i,.int j,a,b,e=>cases e;cases Eh a;cases Eh b;exact⟨i,j,rfl,n.int s⟩
def MO (K:v9)(T:TO)(f:Ev->R (q_)):Prop:=∀(β:Nat->V) (W:Wo) (c:Ev) (σ:St) (Q:q_->Hp->Prop),Rep K β W c σ ->
 (f c).sat (λb c'=>∀W',Stp W.S W.Hf W.H W'.S W'.Hf W'.H->Rep K β W' c' σ->Q b W'.H)->T σ W.H Q
noncomputable def cON:Ev->R (q_):=λc=>.ok none c
theorem Bn9:MO K A0q cON:=λb W c a Q R s=>s W Stp.refl R
def cOS (f:n8):Ev->R (q_):=λc=>(f c).bind λp c=>match Fw c (nrm p) with
 | some (.int i)=>.ok (some i) c
 | _=>.bad
theorem Zy (h:ME K t f):MO K (Bv3 t) (cOS f):=by
 intro g W c k Q R s
 refine h.toV _ W c _ _ R (s.bnd.mono λp l a v j b d e=>?_)
 match ex:Fw _ _,a with
 | some (.int i),a=>exact⟨i,Eh (Im d e ex),a _ b d⟩
 | some .none,a=>exact a.elim
 | some (.bool _),a=>exact a.elim
 | some (.str _),a=>exact a.elim
 | some (.list _),a=>exact a.elim
 | some (.tuple _),a=>exact a.elim
 | some (.dict _),a=>exact a.elim
 | none,a=>exact a.elim
def SlS (K:v9)(r:V->q_->q_->Hp->VK->Prop)(op:t_->q_->q_->m7):Prop:=∀(Hf H:Hp) (x:V) (lo hi:q_) (d:t_) (o:O) (Q:VK),Same Hf H->RdV Hf H d x->op d lo hi=some o->New K Hf H o Q->r x lo hi H Q
def cSl (op:t_->q_->q_->m7)(f:n8)(fl fh:Ev->R (q_)):n8:=λc=>(f c).bind λp c=>(fl c).bind λlo c=>(fh c).bind λhi c=>match Fw c (nrm p) with
 | some d=>match op d lo hi with
  | some o=>.ok (.o o) c
  | none=>.bad
 | none=>.bad
theorem Bt4 (h:ME K j f) (hl:MO K l k) (u:MO K m n) (hr:SlS K r op):ME K (tSl r j l m) (cSl op f k n):=by
 intro P W c G Q R s
 refine h.toV _ W c _ _ R (s.bnd.mono λp I D v N g w x=>?_)
 refine hl _ _ _ _ _ w (D.bnd.mono λz F A J a B=>?_)
 refine u _ _ _ _ _ B (A.bnd.mono λt y b H e i=>?_)
 cases ex:Fw y (nrm p) with
 | none=>simp only[ex]at b;trivial
 | some d =>
  simp only[ex]at b
  cases eo:op d z t with
  | none=>simp only[eo]at b;trivial
  | some o =>
   simp only[eo]at b
   exact hr _ _ v _ _ d o Q i.sub (Im i (RepA.same (a.trans e).fz x) ex) eo (New.of i λv L M C E q=>b v _ _ (g.trans (a.trans (e.trans C))) E q)
end
section
variable {K:v9}{X:Cx}{Hf H:Hp}{Q:VK}{β:Nat->V}{W:Wo}{c c':Ev}{σ:St}{v:V}
def rSL (K:v9):V->q_->q_->Hp->VK->Prop:=λx lo hi H Q=>(B5c K x lo hi H Q\/(B5m K x lo hi H Q\/Bv1 K x lo hi H Q))\/B6e x lo hi H Q
theorem Bz7:SlR X (rSL X.K):=SlR.or (SlR.or Bl5 (SlR.or B0k Bh4)) B2k
def Ph:t_->q_->q_->m7
 | .list ds,lo,hi=>some (.ls false (cutD ds lo hi))
 | .tuple ds,lo,hi=>some (.im (.tuple (cutD ds lo hi)))
 | .str z,lo,hi=>if z.length<=16000000 then some (.im (.str (Txt.slice z lo hi))) else none
 | _,_,_=>none
theorem Ay6:SlS K (rSL K) Ph:=by
 intro Hf H x f c d o Q s r e n
 match d,r,e with
 | .list ds,r,e =>
  cases e
  obtain⟨a,b,rfl,g,t⟩:=Fz r
  exact .inl (.inl ⟨a,b,rfl,SqL.of g,λp h=>n.lst s (TrL.cut t) h⟩)
 | .str z,r,e =>
  by_cases hz:z.length<=16000000
  ·rw[show Ph (.str z) f c=some (.im (.str (Txt.slice z f c))) by simp only[Ph];rw[if_pos hz]]at e
   cases e
   exact .inr ⟨z,r,aj hz (by decide),n.same s rfl⟩
  ·rw[show Ph (.str z) f c=none by simp only[Ph];rw[if_neg hz]]at e;cases e
 | .tuple ds,r,e =>
  cases e
  obtain⟨a,b,rfl,g,t⟩:=Ig s r
  by_cases w:HT.sIx b.length 0 f=0/\HT.sIx b.length b.length c=b.length
  ·refine .inl (.inr (.inr ⟨a,b,rfl,SqT.of g,w,?_⟩))
   have e:cutD ds f c=ds:=by
    unfold cutD;rw[t.length,w.1,w.2,List.drop_zero,cP,<- t.length,dJ]
   rw[e]at n;exact n.same s r
  ·exact .inl (.inr (.inl ⟨a,b,rfl,SqT.of g,w,λp h=>n.tup s (TrL.cut t) h⟩))
def An (f:n8):n7:=λc=>(f c).bind λp c=>match Fw c (nrm p) with
 | some (.bool b)=>.ok b c
 | _=>.bad
theorem Ds (h:ME K t f):MT K (O5 t) (An f):=by
 intro g W c k Q R s
 refine h.toV _ W c _ _ R (s.bnd.mono λp l a v j b d e=>?_)
 match ex:Fw _ _,a with
 | some (.bool i),a=>exact⟨i,Uv (Im d e ex),a _ b d⟩
 | some .none,a=>exact a.elim
 | some (.int _),a=>exact a.elim
 | some (.str _),a=>exact a.elim
 | some (.list _),a=>exact a.elim
 | some (.tuple _),a=>exact a.elim
 | some (.dict _),a=>exact a.elim
 | none,a=>exact a.elim
theorem Aa6 (h:ME K t f):MT K (tB t) (An f):=Ds h
noncomputable def Bh:n7:=λc=>.ok true c
theorem O9:MT K Br0 Bh:=λb W c a Q R s=>s W Stp.refl R
def U9 (f g:n7):n7:=λc=>(f c).bind λb c=>if b=true then g c else .ok false c
def cOr (f g:n7):n7:=λc=>(f c).bind λb c=>if b=true then .ok true c else g c
def A5s (f:n7):n7:=λc=>(f c).bind λb c=>.ok (!b) c
theorem Sd (h1:MT K t f) (h2:MT K u g):MT K (B5b t u) (U9 f g):=λn W c p Q R s =>
 h1 _ W c _ _ R (s.bnd.mono λb l h k a e=>by
  cases b with
  | true=>exact h2 _ _ _ _ _ e (h.mono λb m j o d i=>j _ (a.trans d) i)
  | false=>exact h _ a e)
theorem A1b (h1:MT K t f) (h2:MT K u g):MT K (tOr t u) (cOr f g):=λn W c p Q R s =>
 h1 _ W c _ _ R (s.bnd.mono λb l h k a e=>by
  cases b with
  | false=>exact h2 _ _ _ _ _ e (h.mono λb m j o d i=>j _ (a.trans d) i)
  | true=>exact h _ a e)
theorem Ad3 (h1:MT K t f):MT K (B4o t) (A5s f):=λh W c g Q R s =>
 h1 _ W c _ _ R (s.bnd.mono λb j e i a d=>e _ a d)
theorem Ay7 {d:Wo}(R:Rep K β W c σ) (st:Stp d.S d.Hf d.H W.S W.Hf W.H) (s:∀v a e,Stp d.S d.Hf d.H (orS a.S e) a.Hf a.H->Rep K β a c σ->En K a σ (.o (.im (.bool b))) v e->Q v a.H):Q (.bl b) W.H :=
 R.here (o:=.im (.bool b)) rfl rfl λv a e f g r=>s v _ _ (st.trans f) g r
def Vv (f g:n8):n8:=λc=>(An f c).bind λb c=>if b=true then g c else .ok (.o (.im (.bool false))) c
def A9u (f:n8):n8:=λc=>(An f c).bind λb c=>.ok (.o (.im (.bool (!b)))) c
def Ox (ft:n7)(f g:n8):n8:=λc=>(ft c).bind λb c=>if b=true then f c else g c
theorem Vo {r:U.R PV}{b:Wo}(s:r.sat λp c'=>∀v a d,Stp b.S b.Hf b.H (orS a.S d) a.Hf a.H->Rep K β a c' σ->En K a σ p v d->Q v a.H)(st:Stp b.S b.Hf b.H W.S W.Hf W.H) :
 r.sat λp c'=>∀v a d,Stp W.S W.Hf W.H (orS a.S d) a.Hf a.H->Rep K β a c' σ->En K a σ p v d->Q v a.H:=s.mono λp c k v a d e R r=>k v _ _ (st.trans e) R r
theorem Bq4 (h1:ME K h f) (h2:ME K e g):ME K (Bu8 h e) (Vv f g):=by
 intro k W c j Q R s
 refine Ds h1 _ W c _ _ R (s.bnd.mono λb m i l a d=>?_)
 cases b with
 | true=>exact h2 _ _ _ _ _ d (Vo i a)
 | false=>exact Ay7 d a i
theorem Bj4 (h1:ME K d f):ME K (Bv6 d) (A9u f):=by
 intro k W c h Q R s
 exact Ds h1 _ W c _ _ R (s.bnd.mono λb i g j a e=>Ay7 e a g)
theorem Av2 (ht:MT K i ft) (h1:ME K e f) (h2:ME K h g):ME K (tIf i e h) (Ox ft f g):=by
 intro l W c k Q R s
 refine ht _ W c _ _ R (s.bnd.mono λb n j m a d=>?_)
 cases b with
 | true=>exact h1 _ _ _ _ _ d (Vo j a)
 | false=>exact h2 _ _ _ _ _ d (Vo j a)
def Bk (f:n8):Ev->R (w5):=λc=>(f c).bind λp c=>(frz (nrm p) c).bind λd c=>match d with
 | .list ds=>.ok ds c
 | .tuple ds=>.ok ds c
 | _=>.bad
theorem Bl3 (ha:Hf a=some (.lst vs)) (t:TrL Hf ds vs):A3i (Itl K a) Hf ds:=by
 intro i c H f g;have b:=g _ _ (f _ _ ha)
 refine⟨λe=>⟨vs,SqL.of b,by rw[<- t.length];lia⟩,λd j=>?_⟩
 obtain⟨v,h,k⟩:=t.got j
 refine⟨⟨vs,v,SqL.of b,h⟩,λx l ⟨e,q⟩=>?_⟩
 subst e;have:=q _ (SqL.of b);rw[h]at this
 cases this
 exact⟨c,Stp.refl,g,Tr.same f k⟩
theorem B2c (ha:Hf a=some (.tup vs)) (t:TrL Hf ds vs):A3i (Itt K a) Hf ds:=by
 intro i c H f g;have b:=g _ _ (f _ _ ha)
 refine⟨λe=>⟨vs,SqT.of b,by rw[<- t.length];lia⟩,λd j=>?_⟩
 obtain⟨v,h,k⟩:=t.got j
 refine⟨⟨vs,v,SqT.of b,h⟩,λx l ⟨e,q⟩=>?_⟩
 subst e;have:=q _ (SqT.of b);rw[h]at this
 cases this
 exact⟨c,Stp.refl,g,Tr.same f k⟩
theorem Ka (h:ME K t f):MI K (Bw9 K t) (Bk f):=by
 intro w W c B k R s
 refine h.toV _ W c _ _ R (s.bnd.mono λp A r v x l u q=>?_)
 obtain⟨d,y,z,_,b,o,i,m,e⟩:=Il u q r.bnd;rw[<- o]
 match d,e,b with
 | .list _,e,b =>
  obtain⟨a,n,g,j,t⟩:=e;exact⟨a,g,.inl ⟨n,m.sub _ _ j,b _ _ (l.trans i) m (Bl3 j t)⟩⟩
 | .tuple _,e,b =>
  obtain⟨a,n,g,j,t⟩:=e;exact⟨a,g,.inr ⟨n,m.sub _ _ j,b _ _ (l.trans i) m (B2c j t)⟩⟩
 | .none,e,b=>exact b.elim
 | .bool _,e,b=>exact b.elim
 | .int _,e,b=>exact b.elim
 | .str _,e,b=>exact b.elim
 | .dict _,e,b=>trivial
noncomputable def Li (lo:Int) (n:Nat):w5:=(List.range n).map λk=>.int (lo+(k:Nat))
theorem Bw4 : A3i (Itr lo n) Hf (Li lo n):=by
 intro i b H g f
 have l:(Li lo n).length=n:=by unfold Li;simp_all
 refine⟨λe=>by show n<=i;lia,λd a=>?_⟩
 have c:i<n:=by
  grind
 refine⟨c,λx h ⟨e,q⟩=>?_⟩
 subst e;unfold Li at a;rw[bH,fY c]at a
 cases a
 exact⟨b,Stp.refl,f,q⟩
def Kz (f:n8):Ev->R (w5):=λc=>(f c).bind λp c=>match Fw c (nrm p) with
 | some (.int j)=>if j<=16000000/\-16000000<=j then .ok (Li 0 j.toNat) c else .bad
 | _=>.bad
theorem Ad1 (h:ME K t f):MI K (Bs8 (Bt t Eu)) (Kz f):=by
 intro g W c m k R s
 refine h.toV _ W c _ _ R (s.bnd.mono λp n a v i b d e=>?_)
 match ex:Fw _ _,a with
 | some (.int j),a =>
  cases Eh (Im d e ex)
  by_cases l:j<=16000000/\-16000000<=j
  ·have a:(if j<=16000000/\-16000000<=j then U.R.ok _ _ else .bad).sat _:=a
   rw[if_pos l]at a
   exact⟨j,rfl,by lia,by lia,a _ _ b d Bw4⟩
  ·have a:(if j<=16000000/\-16000000<=j then U.R.ok _ _ else .bad).sat _:=a
   rw[if_neg l]at a;trivial
 | some .none,a=>exact a.elim
 | some (.bool _),a=>exact a.elim
 | some (.str _),a=>exact a.elim
 | some (.list _),a=>exact a.elim
 | some (.tuple _),a=>exact a.elim
 | some (.dict _),a=>exact a.elim
 | none,a=>exact a.elim
noncomputable def Ae3 (d:Option t_):q_:=match d with
 | some (.int i)=>some i
 | _=>none
theorem Ab0 (h:Ae3 d=some i):d=some (.int i):=by
 unfold Ae3 at h
 grind
noncomputable def Nu:t_->Option (w5)
 | .list ds=>some ds
 | .tuple ds=>some ds
 | _=>none
theorem Ar6 (h:Nu d=some ds) (t:Tr Hf d v):∃b a c,v=.ref a/\SqK b Hf a c/\TrL Hf ds c:=by
 cases d with
 | list l=>cases h;obtain⟨a,c,e,f,t⟩:=t;exact⟨false,a,c,e,f,t⟩
 | tuple l=>cases h;obtain⟨a,c,e,f,t⟩:=t;exact⟨true,a,c,e,f,t⟩
 | none=>cases h
 | bool _=>cases h
 | int _=>cases h
 | str _=>cases h
 | dict _=>cases h
theorem Js {c:Hp}(S:Same Hf c) (h:SqK b Hf a vs):SqK b c a vs:=by
 cases b
 ·exact S _ _ h
 ·exact S _ _ h
noncomputable def Ir (xs ys:w5):w5:=(xs.zip ys).map λp=>.tuple [p.1,p.2]
theorem B2z (ha:SqK t1 Hf a vs) (hb:SqK t2 Hf b us) (t:TrL Hf xs vs) (u:TrL Hf ys us):A3i (Itz t1 t2 a b) Hf (Ir xs ys):=by
 intro i B H j f;have m:=Js (j.trans f) ha;have k:=Js (j.trans f) hb
 have l:(Ir xs ys).length=min xs.length ys.length:=by unfold Ir;simp_all
 refine⟨λe=>⟨vs,us,m,k,by rw[<- t.length,<- u.length,e];lia⟩,λd x=>?_⟩
 obtain⟨p,n,e⟩:=Nq x;rw[List.getElem?_zip_eq_some]at n;obtain⟨h,r,v⟩:=t.got n.1;obtain⟨c,s,w⟩:=u.got n.2
 refine⟨⟨vs,us,h,c,m,k,r,s⟩,λz H' y=>?_⟩
 obtain⟨p,x',y',rfl,g,rfl,A,C⟩:=y;have:=A _ m;rw[r]at this;cases this;have:=C _ k;rw[s]at this;cases this;subst e;have q:=Cu (o:=.tup [h,c]) (Same.free f g);exact⟨upd _ p _,Stp.newF f g,Rm f,p,[h,c],rfl,Bd,h,[c],rfl,Tr.same q (Tr.same j v),c,[],rfl,Tr.same q (Tr.same j w),rfl⟩
def Ry (f g:n8):Ev->R (w5):=λc=>(f c).bind λp c=>(g c).bind λq c=>(frz (nrm p) c).bind λx c=>(frz (nrm q) c).bind λy c=>match Nu x,Nu y with
 | some xs,some ys=>.ok (Ir xs ys) c
 | _,_=>.bad
theorem B1k (h:ME K t f) (h':ME K u g):MI K (B6q (Bt t (Bt u Eu))) (Ry f g):=by
 intro β W c σ k R s
 refine h.toV _ W c _ _ R (s.bnd.mono λp c1 G v1 W1 l P v=>?_)
 refine h'.toV _ _ _ _ _ P (G.bnd.mono λq c2 w v2 W2 i A B=>?_)
 obtain⟨x,c3,W3,_,C,D,e,E,F⟩:=Il A (RepA.same i.fz v) w.bnd;obtain⟨y,c4,W4,_,j,r,d,m,I⟩:=Il E (RepA.same e.fz B) C.bnd
 cases ex:Nu x with
 | none=>simp only[ex]at j;trivial
 | some xs =>
  cases ey:Nu y with
  | none=>simp only[ex,ey]at j;trivial
  | some ys =>
   simp only[ex,ey]at j;obtain⟨J,a,L,rfl,H,N⟩:=Ar6 ex F;obtain⟨M,b,O,rfl,n,o⟩:=Ar6 ey I;rw[<- D,<- r];have z:=Js d.fz H;exact⟨a,b,rfl,J,M,L,O,Js m.sub z,Js m.sub n,j _ _ (l.trans (i.trans (e.trans d))) m (B2z z n (TrL.same d.fz N) o)⟩
noncomputable def U5 (xs:w5):w5:=(List.range xs.length).map λk=>.tuple [.int (k:Nat),xs.getD k .none]
theorem Bm2 (ha:SqK t Hf a vs) (u:TrL Hf xs vs):A3i (Ite t a) Hf (U5 xs):=by
 intro i v H j f;have h:=Js (j.trans f) ha
 have l:(U5 xs).length=xs.length:=by unfold U5;simp_all
 refine⟨λe=>⟨vs,h,by rw[<- u.length];lia⟩,λd g=>?_⟩
 have n:i<xs.length:=by
  grind
 unfold U5 at g;rw[bH,fY n]at g
 cases g
 have q:xs[i]?=some (xs.getD i .none):=by grind
 obtain⟨b,k,r⟩:=u.got q
 refine⟨⟨vs,b,h,k⟩,λz H' s=>?_⟩
 obtain⟨p,x',rfl,c,rfl,m⟩:=s;have:=m _ h;rw[k]at this;cases this;exact⟨upd _ p _,Stp.newF f c,Rm f,p,[.int i,b],rfl,Bd,.int i,[b],rfl,rfl,b,[],rfl,Tr.same (Cu (o:=.tup [.int i,b]) (Same.free f c)) (Tr.same j r),rfl⟩
def A0w (f:n8):Ev->R (w5):=λc=>(f c).bind λp c=>(frz (nrm p) c).bind λx c=>match Nu x with
 | some xs=>.ok (U5 xs) c
 | _=>.bad
theorem Bj8 (h:ME K t f):MI K (Bu9 (Bt t Eu)) (A0w f):=by
 intro β W c σ k R s
 refine h.toV _ W c _ _ R (s.bnd.mono λp c1 u v1 W1 e n q=>?_)
 obtain⟨x,c3,W3,_,b,l,d,g,o⟩:=Il n q u.bnd
 cases ex:Nu x with
 | none=>simp only[ex]at b;trivial
 | some xs =>
  simp only[ex]at b;obtain⟨m,a,r,rfl,i,j⟩:=Ar6 ex o;rw[<- l];exact⟨a,rfl,m,r,Js g.sub i,b _ _ (e.trans d) g (Bm2 i j)⟩
end
section
variable {K:v9}{X:Cx}{Hf H:Hp}{Q:VK}{β:Nat->V}{W W':Wo}{c:Ev}{σ:St}{v:V}{p:PV}{fp:v6}{i:Nat}{b:Bool}{ds:w5}
theorem B1s (R:Rep K β W c σ)(r:En K W σ p v fp):∃W',W'.H=W.H/\Stp (orS W.S fp) W.Hf W.H W'.S W'.Hf W'.H/\Rep K β W' c σ/\RepA K W'.Hf σ (nrm p) v:=by
 have f:Stp (orS W.S fp) W.Hf W.H _ _ _:=Stp.refl.up λa z=>.inl z
 cases p with
 | sl i=>exact⟨W,rfl,f,R,r.2⟩
 | o o =>
  cases o with
  | im d=>exact⟨W,rfl,f,R,r.1.2⟩
  | sc d=>exact⟨W,rfl,f,R,r.1.2⟩
  | ty d=>exact⟨W,rfl,f,R,r.1.2⟩
  | ls b ds =>
   obtain⟨⟨a,h,rfl,rfl,g,j,t⟩,l⟩:=r
   refine⟨⟨upd _ a _,W.H,W.fps⟩,rfl,⟨Cu g,λb o e _=>e,λb o e mu n q=>?_,λb z=>.inl (.inl z)⟩,Ag6 R g j (l a (.head _)),a,h,rfl,Bd,TrL.same (Cu g) t⟩
   have k:b≠a:=λz=>n (.inr (by grind))
   show upd _ a _ b=none
   rw[Ak k];grind
theorem Rep.mut (R:Rep K β W c σ)(hc:c[i]?=some (some (.ls b ds)))(hv:σ[i]?=some (some v)):∃a h,v=.ref a/\W.H a=some (.lst h)/\TrL W.Hf ds h /\
 ∀f d,TrL W.Hf f d->Rep K β ⟨W.Hf,upd W.H a (.lst d),W.fps⟩ (c.set i (some (.ls b f))) σ/\Stp W.S W.Hf W.H W.S W.Hf (upd W.H a (.lst d)):=by
 obtain⟨m,p,⟨a,h,rfl,w,A,H,t⟩,B⟩:=R.get i _ hc
 cases (show some _=some _ from p.symm.trans hv)
 have D:i<c.length:=by
  grind
 have s:a∈W.fps i:=by rw[w];exact .head _
 refine⟨a,h,rfl,H,t,λf d F=>⟨⟨λb u e=>?_,by rw[bK];exact R.len,λj o e=>?_,R.dis,λj x g=>?_⟩,⟨Same.refl _,λx o e n=>?_,λx o e r n q=>q,λx z=>.inl z⟩⟩⟩
 ·have E:b≠a:=λz=>by rw[z,A]at e;cases e
  show upd _ a _ b=_
  rw[Ak E];exact R.sub b u e
 ·by_cases z:j=i
  ·subst z
   rw[bU D]at e
   cases e
   exact⟨.ref a,p,⟨a,d,rfl,w,A,Bd,F⟩,B⟩
  ·rw[bN λy=>z y.symm]at e
   obtain⟨m,k,G,l⟩:=R.get j o e
   refine⟨m,k,G.mono (Same.refl _) λx g=>⟨(R.own j x g).1,?_⟩,l⟩
   show upd _ a _ x=_
   rw[Ak];intro q;rw[q]at g;exact z (R.dis j i a g s)
 ·obtain⟨I,o,C,r⟩:=R.own j x g
  refine⟨I,?_⟩
  by_cases z:x=a
  ·exact⟨.lst _,by rw[z];exact Bd,trivial⟩
  ·exact⟨o,by show upd _ a _ x=_;rw[Ak z];exact C,r⟩
 ·rw[Ak]
  ·exact e
  ·intro z;exact n ⟨i,by rw[z];exact s⟩
noncomputable def slL (c:Ev) (p:PV):Option (Nat×Bool×w5):=match p with
 | .sl i=>match c[i]? with
  | some (some (.ls b ds))=>some (i,b,ds)
  | _=>none
 | _=>none
theorem Wb (h:slL c p=some x):p=.sl x.1/\c[x.1]?=some (some (.ls x.2.1 x.2.2)):=by
 unfold slL at h
 grind
def Ss (fo fe:n8):n8:=λc=>(fo c).bind λp c=>if (slL c (nrm p)).isSome=true then (fe c).bind λq c=>(frz (nrm q) c).bind λd c=>match slL c (nrm p) with
 | some (i,b,ds)=>if ds.length<16000000 then .ok (.o (.im .none)) (c.set i (some (.ls b (ds++[d])))) else .bad
 | none=>.bad
 else .bad
theorem Ak9 {b:Wo}(R:Rep K β W c σ)(st:Stp b.S b.Hf b.H W.S W.Hf W.H)(s:∀v a d,Stp b.S b.Hf b.H (orS a.S d) a.Hf a.H->Rep K β a c σ->En K a σ (.o (.im .none)) v d->Q v a.H):Q .non W.H :=
 R.here (o:=.im .none) rfl rfl λv a d e f r=>s v _ _ (st.trans e) f r
theorem ty_list (R:Rep K β W c σ)(h:(slL c p).isSome=true)(r:RepA K W.Hf σ p v):tyV K "list" v W.H:=by
 obtain⟨x,d⟩:=Option.isSome_iff_exists.mp h;obtain⟨rfl,e⟩:=Wb d;obtain⟨a,f,rfl,b,_⟩:=R.mut e r;exact .inl ⟨rfl,f,SqL.of b⟩
theorem Bc8 {v fe:n8}(ho:ME K u v) (he:ME K o fe):ME K (tBM K "list" rAppF u (Bt o Eu)) (Ss v fe):=by
 intro β W c σ Q R s
 refine ho.toV _ W c _ _ R (s.bnd.mono λp y f v1 W1 h r j=>?_)
 by_cases hs:(slL y (nrm p)).isSome=true
 ·rw[if_pos hs]at f
  refine⟨ty_list r hs j,he.toV _ _ _ _ _ r (f.bnd.mono λq c2 D H W2 m z w=>?_)⟩
  obtain⟨d,A,W3,_,e,C,n,E,F⟩:=Il z w D.bnd
  cases ex:slL A (nrm p) with
  | none=>simp only[ex]at e;exact e.elim
  | some x =>
   simp only[ex]at e;obtain⟨i,b,G⟩:=x;obtain⟨B,I⟩:=Wb ex;rw[B]at j;obtain⟨a,J,rfl,L,t,k⟩:=E.mut I j
   by_cases l:G.length<16000000
   ·rw[if_pos l]at e
    obtain⟨M,g⟩:=k _ _ (t.app (TrL.one F));rw[<- C]
    refine⟨a,H,J,rfl,rfl,L,by rw[<- t.length];exact eE l (by decide),?_⟩
    exact Ak9 M (h.trans (m.trans (n.trans g))) e
   ·rw[if_neg l]at e;exact e.elim
 ·rw[if_neg hs]at f;exact f.elim
def Wu (fo fe:n8):n8:=λc=>(fo c).bind λp c=>if (slL c (nrm p)).isSome=true then (fe c).bind λq c=>match slL c (nrm p),Ae3 (Fw c (nrm q)) with
 | some (i,b,ds),some k=>if ds.length<=16000000 then match ixN ds.length k with
  | some j=>match ds[j]? with
   | some d=>.ok (.o (.im d)) (c.set i (some (.ls b (ds.eraseIdx j))))
   | none=>.bad
  | none=>.bad
  else .bad
 | _,_=>.bad
 else .bad
theorem TrL.erase:∀{ds:w5}{vs:m8}(n:Nat),TrL Hf ds vs->TrL Hf (ds.eraseIdx n) (vs.eraseIdx n)
 | [],_,n,h=>by cases (show _=[] from h);exact rfl
 | d::ds,_,0,⟨v,r,rfl,_,t⟩=>t
 | d::ds,_,n+1,⟨v,r,rfl,q,t⟩=>⟨v,r.eraseIdx n,rfl,q,TrL.erase n t⟩
theorem TrL.setAt:∀{ds:w5}{vs:m8}(n:Nat) {d:t_}{v:V},TrL Hf ds vs->Tr Hf d v->TrL Hf (ds.set n d) (vs.set n v)
 | [],_,n,d,v,h,_=>by cases (show _=[] from h);exact rfl
 | e::ds,_,0,d,v,⟨u,r,rfl,_,t⟩,q=>⟨v,r,rfl,q,t⟩
 | e::ds,_,n+1,d,v,⟨u,r,rfl,h,t⟩,q=>⟨u,r.set n v,rfl,h,TrL.setAt n t q⟩
theorem A9j (ho:ME K z G) (he:ME K F fe):ME K (tBM K "list" rPopAt z (Bt F Eu)) (Wu G fe):=by
 intro B W c H Q R s
 refine ho.toV B W c H _ R (s.bnd.mono λp O g v1 W1 n A w=>?_)
 by_cases hs:(slL O (nrm p)).isSome=true
 ·rw[if_pos hs]at g
  refine⟨ty_list A hs w,he.toV B _ _ _ _ A (g.bnd.mono λq D e v2 W2 h E I=>?_)⟩
  cases ex:slL D (nrm p) with
  | none=>simp only[ex]at e;exact e.elim
  | some x =>
   obtain⟨i,b,l⟩:=x
   cases ey:Ae3 (Fw D (nrm q)) with
   | none=>simp only[ex,ey]at e;exact e.elim
   | some k =>
    simp only[ex,ey]at e
    by_cases hl:l.length<=16000000
    case neg=>rw[if_neg hl]at e;exact e.elim
    rw[if_pos hl]at e
    cases ej:ixN l.length k with
    | none=>simp only[ej]at e;exact e.elim
    | some j =>
     simp only[ej]at e
     cases ed:l[j]? with
     | none=>simp only[ed]at e;exact e.elim
     | some d =>
      simp only[ed]at e;obtain⟨L,N⟩:=Wb ex;rw[L]at w
      cases Eh (Im E I (Ab0 ey))
      obtain⟨a,C,rfl,P,t,S⟩:=E.mut N w;obtain⟨y,M,U⟩:=t.got ed;obtain⟨T,q2,q3,q4⟩:=Ab8 ej;obtain⟨V,m⟩:=S _ _ (TrL.erase j t)
      have u:seqIndex? k C.length=some j:=by rw[<- t.length];exact T
      have f:-2 ^ 63<=k/\k<2 ^ 63:=by lia
      refine⟨a,C,k,j,y,rfl,rfl,P,f.1,f.2,u,M,?_⟩
      exact V.here (o:=.im d) U rfl λv W' fp X J r=>e v _ _ (n.trans (h.trans (m.trans X))) J r
 ·rw[if_neg hs]at g;exact g.elim
def Bj9 (fo fe:n8):n8:=λc=>(fo c).bind λp c=>if (slL c (nrm p)).isSome=true then (fe c).bind λq c=>(frz (nrm q) c).bind λd c=>match slL c (nrm p),d with
 | some (i,b,ds),.list es=>if ds.length+es.length<=16000000 then .ok (.o (.im .none)) (c.set i (some (.ls b (ds++es)))) else .bad
 | _,_=>.bad
 else .bad
theorem B2i {to te:TE}{fo fe:n8}(ho:ME K to fo)(he:ME K te fe):ME K (tBM K "list" rExtend to (Bt te Eu)) (Bj9 fo fe):=by
 intro β W c σ Q R s
 refine ho.toV β W c σ _ R (s.bnd.mono λp c1 s1 v1 W1 st1 R1 r1=>?_)
 by_cases hs:(slL c1 (nrm p)).isSome=true
 ·rw[if_pos hs]at s1
  refine⟨ty_list R1 hs r1,he.toV β W1 c1 σ _ R1 (s1.bnd.mono λq c2 s2 v2 W2 st2 R2 r2=>?_)⟩
  obtain⟨d,c3,W3,_,s3,e3,st3,R3,t3⟩:=Il R2 r2 s2.bnd
  cases ex:slL c3 (nrm p) with
  | none=>simp only[ex]at s3;exact s3.elim
  | some x =>
   obtain⟨i,b,ds⟩:=x;simp only[ex]at s3
   match d,t3,s3 with
   | .list es,t3,s3 =>
    obtain⟨ep,hc⟩:=Wb ex;rw[ep]at r1;obtain⟨a,vs,rfl,hH,t,k⟩:=R3.mut hc r1
    have s3:(if ds.length+es.length<=16000000 then U.R.ok (PV.o (.im .none)) (c3.set i (some (.ls b (ds++es)))) else .bad).sat _:=s3
    by_cases l:ds.length+es.length<=16000000
    ·rw[if_pos l]at s3
     obtain⟨b2,us,rfl,h2,t2⟩:=t3;obtain⟨R4,st4⟩:=k (ds++es) (vs++us) (t.app t2);rw[<- e3]
     refine⟨a,b2,vs,us,rfl,rfl,hH,R3.sub _ _ h2,by rw[<- t.length,<- t2.length];exact lim l,?_⟩
     exact Ak9 R4 (st1.trans (st2.trans (st3.trans st4))) s3
    ·rw[if_neg l]at s3;exact s3.elim
   | .none,t3,s3=>exact s3.elim
   | .bool _,t3,s3=>exact s3.elim
   | .int _,t3,s3=>exact s3.elim
   | .str _,t3,s3=>exact s3.elim
   | .tuple _,t3,s3=>exact s3.elim
   | .dict _,t3,s3=>exact s3.elim
 ·rw[if_neg hs]at s1;exact s1.elim
def A1g (fo fi:n8):o7:=λp c=>(frz (nrm p) c).bind λd c=>(fo c).bind λo c=>(fi c).bind λq c=>match slL c (nrm o),Ae3 (Fw c (nrm q)) with
 | some (i,b,ds),some k=>match ixN ds.length k with
  | some j=>.ok () (c.set i (some (.ls b (ds.set j d))))
  | none=>.bad
 | _,_=>.bad
theorem By1 (ho:ME K u A) (hi:ME K z fi):MG K (B4c u z Bu0) (A1g A fi):=by
 intro β W c σ p v fp k R r s;obtain⟨W0,M,l,C,F⟩:=B1s R r;obtain⟨d,c1,W1,_,D,E,n,G,I⟩:=Il C F s.bnd;rw[<- M,<- E]
 refine ho.toV _ _ _ _ _ G (D.bnd.mono λo c2 J v2 W2 g L w=>?_)
 refine hi.toV _ _ _ _ _ L (J.bnd.mono λq y e v3 W3 f B N=>?_)
 cases ex:slL y (nrm o) with
 | none=>simp only[ex]at e;exact e.elim
 | some x =>
  obtain⟨i,b,O⟩:=x
  cases ey:Ae3 (Fw y (nrm q)) with
  | none=>simp only[ex,ey]at e;exact e.elim
  | some m =>
   simp only[ex,ey]at e
   cases ej:ixN O.length m with
   | none=>simp only[ej]at e;exact e.elim
   | some j =>
    simp only[ej]at e;obtain⟨H,Q⟩:=Wb ex;rw[H]at w
    cases Eh (Im B N (Ab0 ey))
    obtain⟨a,S,rfl,P,t,T⟩:=B.mut Q w;obtain⟨U,h⟩:=T _ _ (TrL.setAt j t (Tr.same (g.trans f).fz I))
    refine⟨a,S,m,j,rfl,rfl,P,by rw[<- t.length];exact ej,?_⟩
    exact e _ _ (l.trans (n.trans (g.trans (f.trans h)))) U
def B3h (i j:Nat)(f:n6):Ev->SR:=λc=>(f c).toS λps c=>(frzs ps c).toS λds c=>match ds with
 | [x,y]=>.nx ((c.set i (some (.im x))).set j (some (.im y)))
 | _=>.bad
theorem A9p (h:Wo.S ⟨W.Hf,W.H,clr W.fps i⟩ a):W.S a:=B2q h
theorem By9 (h:MA K m f):MS K (B4j i j m) (B3h i j f):=by
 intro β W c σ D R l
 refine h _ W c _ _ R ((Ey l).mono λps c1 C vs W1 k t w=>?_)
 obtain⟨A,c2,n,b,s,g,q,d⟩:=Qg t w (Ey C)
 match A,d,b with
 | [x,y],d,b =>
  obtain⟨v,r,rfl,B,u,r',rfl,E,e⟩:=d
  cases (e)
  refine⟨v,u,rfl,?_⟩
  have p:=q.setN (i:=i) (o:=.im x) B rfl;rw[<- s]
  exact b _ ⟨n.Hf,n.H,clr _ j⟩ ((k.trans g).less λa z=>A9p (A9p z)) (p.setN (i:=j) (o:=.im y) E rfl)
 | [],d,b=>trivial
 | [_],d,b=>trivial
 | _::_::_::_,d,b=>exact b.elim
def A6h (i j m:Nat)(f:n6):Ev->SR:=λc=>(f c).toS λps c=>(frzs ps c).toS λds c=>match ds with
 | [x,y,z]=>.nx (((c.set i (some (.im x))).set j (some (.im y))).set m (some (.im z)))
 | _=>.bad
theorem Bk9 {i j m:Nat}{n:TA}{f:n6}(h:MA K n f):MS K (Bv5 i j m n) (A6h i j m f):=by
 intro β W c σ D R l
 refine h _ W c _ _ R ((Ey l).mono λps c1 s vs W1 k t A=>?_)
 obtain⟨B,c2,p,b,C,g,E,d⟩:=Qg t A (Ey s)
 match B,d,b with
 | [x,y,z],d,b =>
  obtain⟨v,r,rfl,G,u,r',rfl,F,w,H,rfl,I,e⟩:=d
  cases (e)
  refine⟨v,u,w,rfl,?_⟩
  have q:=(E.setN (i:=i) (o:=.im x) G rfl).setN (i:=j) (o:=.im y) F rfl;rw[<- C]
  exact b _ ⟨p.Hf,p.H,clr _ m⟩ ((k.trans g).less λa z=>A9p (A9p (A9p z))) (q.setN (i:=m) (o:=.im z) I rfl)
 | [],d,b=>trivial
 | [_],d,b=>trivial
 | [_,_],d,b=>trivial
 | _::_::_::_::_,d,b=>exact b.elim
end
end U
set_option autoImplicit true
namespace L2
open PySem U
theorem Di (ha:QE X a ta)(hb:QE X b tb):QE X (.BinOp a .Add b pos) (tOp B2f ta tb):=⟨Vc B1u ha.get hb.get⟩
theorem Xi (hu:X.A.units+64<cLine)(ha:QE X a ta)(hb:QE X b tb):QE X (.Compare a [.Eq] [b] pos) (tOp rEQ ta tb):=⟨Us (Bs5 hu) ha.get hb.get (Ke _)⟩
theorem Ex (hu:X.A.units+64<cLine)(ha:QE X a ta)(hb:QE X b tb):QT X (.Compare a [.Eq] [b] pos) (O5 (tOp rEQ ta tb)):=⟨J6 (Bs5 hu) ha.get hb.get (Ke _)⟩
theorem B3s (hu:X.A.units+64<cLine)(ha:QE X a ta)(hb:QE X b tb):QE X (.Compare a [.NotEq] [b] pos) (tOp rNE ta tb):=⟨Us (Bt3 hu) ha.get hb.get (Ke _)⟩
theorem W8 (hu:X.A.units+64<cLine)(ha:QE X a ta)(hb:QE X b tb):QT X (.Compare a [.NotEq] [b] pos) (O5 (tOp rNE ta tb)):=⟨J6 (Bt3 hu) ha.get hb.get (Ke _)⟩
theorem Ib (a:X.K=Kq) (hgl:Gl X "len") (hm:X.mg "len" = none) (ha:QA X (e::es) t) (hns:noStar (e::es)=true:=by rfl):QE X (.Call (.Name "len" p) (e::es) [] pos) (tCB (Bk4 Kq) t):=by
 subst a
 exact⟨Eo A7o hgl hm A9b ha.get (by decide) (by rfl) hns⟩
theorem Aj5 (a:X.K=Kq) (he:QE X e te) (hl:QO X low tl) (hu:QO X hi th):QE X (.Subscript e (.Slice low hi none p2) pos) (tSl (rSL Kq) te tl th):=by
 subst a;exact A7e Bz7 he hl hu
end L2
namespace U
open PySem L2
def Def (P:u6)(w:World)(K:v9)(mg:x_)(base:Heap)(x:Str)(k:Nat)(ps:v4)(sp:Sp):Prop :=
 ∃(f:Addr) (fd:u5),FnOk P w K mg base CX0 k f fd ps sp/\Binds K fd ps []/\PySem.W.keepIn K (.ref f)=true/\mg x=some (.ref f)
def A1h (K:v9):Sp:=λvs H Q _=>∃(a:Addr) (ns:List Int),vs=[.ref a]/\SqL K H a (ns.map V.int)/\ns.length<=63/\∀H',Q (.bl true) H'
theorem B0x (f:∀b:List Int,b.length<=63->F [.sc b]=.ret (.im (.bool true)) [.sc b]) (h:A1h K vs H Q E):spP K F vs H Q E:=by
 obtain⟨a,b,rfl,c,d,q⟩:=h
 refine⟨λ_=>.non,⟨H,H,λ_=>[]⟩,[.sc b],rfl,rfl,⟨Same.refl _,rfl,λi o e=>?_,λi j a h=>by grind,λi a h=>by grind⟩,?_⟩
 ·cases i with
  | zero =>
   cases (show some _=some _ from e)
   exact⟨.ref a,rfl,⟨rfl,a,rfl,c⟩,λz=>nomatch z⟩
  | succ i=>grind
 ·rw[f _ d]
  intro v W' fp st R r n
  cases (show v=.bl _ from r.2)
  grind
theorem A8z : FnOk P w K mg base CX0 n f c ps (spP K λ_=>.bad) :=
 ⟨λd H Q E h=>by obtain⟨_,_,_,_,_,_,h⟩:=h;simp_all,λA a s H b e d Q E _ _ _ _ h=>by obtain⟨_,_,_,_,_,_,h⟩:=h;simp_all⟩
noncomputable def Ax3 (i j:Int):Bool:=decide (0<j)&&decide (j<1073741824)
theorem Bb6 (i j:Int)(h:Ax3 i j=true):Bk0 i j:=by
 obtain⟨b,a⟩:=au.mp h;exact⟨aR b,aR a⟩
noncomputable def Be7 (i j:Int):Bool:=decide (0<j)
theorem Bb8 (i j:Int)(h:Be7 i j=true):0<j:=aR h
noncomputable def Ai8 (i j:Int):Bool:=decide (0<=j)&&(decide (j<=1000000)&&decide (i.natAbs<2 ^ 64))
theorem A9w (i j:Int)(h:Ai8 i j=true):Bn4 i j:=by
 obtain⟨c,a⟩:=au.mp h;obtain⟨a,b⟩:=au.mp a;exact⟨aR c,aR a,aR b⟩
section
variable {K:v9}
abbrev O4:t_->t_->m7:=Yp λi j=>.int (i-j)
abbrev A8f:t_->t_->m7:=Yp λi j=>.bool (decide (j<i))
abbrev By5:t_->t_->m7:=Yp λi j=>.bool (decide (j<=i))
theorem Bi7:OpS K (rI0 λi j=>.int (i-j)) O4:=Ad5 λ_ _ _=>rfl
theorem Ap6:OpS K (rI0 λi j=>.bl (decide (j<i))) A8f:=Ad5 λ_ _ _=>rfl
theorem B1m:OpS K (rI0 λi j=>.bl (decide (j<=i))) By5:=Ad5 λ_ _ _=>rfl
abbrev Ag2:t_->t_->m7:=opI Ax3 λi j=>i / j
abbrev Qv:t_->t_->m7:=opI Be7 λi j=>i % j
abbrev Tf:t_->t_->m7:=opI Ai8 λi j=>i ^ j.toNat
theorem A6d:OpS K (rI Bk0 λi j=>.int (i / j)) Ag2:=Ax2 Bb6
theorem Bi9:OpS K (rI (λ_ j=>0<j) λi j=>.int (i % j)) Qv:=Ax2 Bb8
theorem Bp7:OpS K (rI Bn4 λi j=>.int (i ^ j.toNat)) Tf:=Ax2 A9w
def Bw6 (fa fb:n8):n8:=λc=>(fa c).bind λp c=>(fb c).bind λq c=>match nrm p,Ae3 (Fw c (nrm q)) with
 | .o (.sc ns),some k=>match atI ns k with
  | some i=>.ok (.o (.im (.int i))) c
  | none=>.bad
 | _,_=>.bad
theorem Bn0 (h:atI ns k=some i):atI (ns.map V.int) k=some (V.int i):=by
 unfold atI at h ⊢;obtain⟨j,b,a⟩:=bc.mp h
 simp_all
theorem B2m (ha:ME K h fa) (hb:ME K j fb):ME K (tOp (rIx K) h j) (Bw6 fa fb):=by
 intro β W c σ Q R s
 refine ha.toV _ W c _ _ R (s.bnd.mono λp c1 u v1 W1 f n d=>?_)
 refine hb.toV _ _ _ _ _ n (u.bnd.mono λq t b v2 W2 e g m=>?_)
 have d:=RepA.same e.fz d
 cases ey:Ae3 (Fw t (nrm q)) with
 | none =>
  simp only[ey]at b;generalize nrm p=np at b
  cases np with
  | sl i=>trivial
  | o o=>cases o <;> exact b.elim
 | some k =>
  simp only[ey]at b;generalize nrm p=np at b d
  match np,d,b with
  | .o (.sc ns),d,b =>
   have b:(match atI ns k with
    | some i=>U.R.ok _ _
    | none=>.bad).sat _:=b
   cases ei:atI _ k with
   | none=>rw[ei]at b;trivial
   | some i =>
    rw[ei]at b;obtain⟨a,rfl,w⟩:=d
    cases Eh (Im g m (Ab0 ey))
    exact .inl ⟨a,_,k,.int i,rfl,rfl,Same.seq g.sub w,Bn0 ei,g.here (o:=.im (.int i)) rfl rfl λv W' fp x l r=>b v _ _ (f.trans (e.trans x)) l r⟩
  | .o (.im _),d,b=>exact b.elim
  | .o (.ls _ _),d,b=>exact b.elim
  | .o (.ty _),d,b=>exact b.elim
  | .sl _,d,b=>trivial
end
section
variable {w:World}{K:v9}{Hf H:Hp}{Q:VK}{W:Wo}{c:Ev}{v:V}
def cMt (isT:t_->Bool)(op:t_->t_->m7)(fa fb:n8):n8:=λc=>(fa c).bind λp c=>match Fw c (nrm p) with
 | some d=>if isT d=true then (fb c).bind λq c=>match Fw c (nrm p),Fw c (nrm q) with
  | some x,some y=>match op x y with
   | some o=>.ok (.o o) c
   | none=>.bad
  | _,_=>.bad
  else .bad
 | none=>.bad
theorem A7n (ha:ME K l fa) (hb:ME K m fb)
 (n:∀(Hf H:Hp) (d:t_) (v:V),a d=true->Same Hf H->RdV Hf H d v->tyV K T v H) (hr:OpS K (λx y H Q=>r x [y] H Q) op):ME K (tBM K T r l (Bt m Eu)) (cMt a op fa fb):=by
 intro E W c C Q R s
 refine ha.toV _ W c _ _ R (s.bnd.mono λp w e B D i h j=>?_)
 cases ed:Fw w (nrm p) with
 | none=>simp only[ed]at e;trivial
 | some d =>
  simp only[ed]at e
  by_cases it:a d=true
  case neg=>rw[if_neg it]at e;trivial
  rw[if_pos it]at e
  refine⟨n _ _ d _ it h.sub (Im h j ed),?_⟩
  refine hb.toV _ _ _ _ _ h (e.bnd.mono λq k b I J f g u=>?_)
  cases ex:Fw k (nrm p) with
  | none=>simp only[ex]at b;trivial
  | some x =>
   cases ey:Fw k (nrm q) with
   | none=>simp only[ex,ey]at b;trivial
   | some y =>
    simp only[ex,ey]at b
    cases eo:op x y with
    | none=>simp only[eo]at b;trivial
    | some o =>
     simp only[eo]at b
     exact hr _ _ _ _ x y o Q g.sub (Im g (RepA.same f.fz j) ex) (Im g u ey) eo (New.of g λv F G z A t=>b v _ _ (i.trans (f.trans z)) A t)
noncomputable def Kg:t_->Bool
 | .tuple _=>true
 | _=>false
theorem Ba2 (Hf H:Hp)(d:t_)(v:V)(h:Kg d=true)(s:Same Hf H)(r:RdV Hf H d v):tyV K "tuple" v H:=by
 cases d with
 | tuple ds =>
  obtain⟨a,c,rfl,b,t⟩:=Ig s r;exact .inr (.inr (.inr (.inr ⟨rfl,c,b⟩)))
 | _=>cases h
noncomputable def strsOf:w5->Option (v4)
 | []=>some []
 | .str z::ds=>(strsOf ds).map (z::·)
 | _=>none
theorem A5t:∀{ds:w5}{ss:v4}{vs:m8},strsOf ds=some ss->TrL Hf ds vs->vs=ss.map V.str
 | [],ss,vs,h,t=>by cases h;exact t
 | d::ds,ss,_,h,⟨v,r,rfl,h1,h2⟩=>by
  cases d with
  | str z =>
   have h:(strsOf ds).map (z::·)=some ss:=h
   cases e:strsOf ds with
   | none=>rw[e]at h;cases h
   | some ts =>
    rw[e]at h;cases h
    rw[A5t e h2,show v=V.str z from h1];rfl
  | _=>cases h
noncomputable def Ld (y:Str):v4->Option Nat
 | []=>none
 | x::xs=>if x==y then some 0 else (Ld y xs).map (·+1)
theorem Ax7 {y:Str}:∀{xs:v4}{j:Nat},Ld y xs=some j->xs[j]?=some y/\∀m<j,xs[m]?≠some y
 | [],j,h=>by cases h
 | x::xs,j,h=>by
  unfold Ld at h
  by_cases q:(x==y)=true
  ·rw[if_pos q]at h;cases h
   exact⟨by simpa using q,λm hm=>absurd hm (Nat.not_lt_zero _)⟩
  ·rw[if_neg q]at h
   cases e:Ld y xs with
   | none=>rw[e]at h;cases h
   | some k =>
    rw[e]at h;cases h;obtain⟨h1,h2⟩:=Ax7 e
    refine⟨by simpa using h1,λm hm=>?_⟩
    cases m with
    | zero=>simpa using q
    | succ m=>simpa using h2 m (fZ hm)
def Jc:t_->t_->m7
 | .tuple ds,.str y=>(strsOf ds).bind λss=>(Ld y ss).map λj=>.im (.int (j:Nat))
 | _,_=>none
theorem Yw:OpS K (λx y H Q=>Zz K x [y] H Q) Jc:=by
 intro Hf H x y dx dy o Q s f g e n;unfold Jc at e
 split at e
 ·rename_i d z
  obtain⟨a,vs,rfl,i,t⟩:=Ig s f
  cases es:strsOf d with
  | none=>grind
  | some b =>
   rw[es]at e;have e:(Ld z _).map _=some o:=e
   cases ei:Ld z b with
   | none=>grind
   | some j =>
    rw[ei]at e;cases e
    cases Jj g
    cases A5t es t
    obtain⟨h,c⟩:=Ax7 ei;exact⟨a,b,z,j,rfl,rfl,SqT.of i,h,c,n.int s⟩
 grind
end
section
theorem Su (ss:v4):(ss.map V.str).all Qz=true:=by
 induction ss with
 | nil=>rfl
 | cons a r b=>rw[aG,dZ,b];rfl
end
end U
namespace L2
open PySem U
theorem A2k (d:X.K=Kq) (ha:QE X a e) (hb:QE X b f) (hm:behindInMarks .NotIn b=false):QT X (.Compare a [.NotIn] [b] c) (O5 (tOp (rIn Kq true) e f)):=by
 subst d;exact⟨J6 Z4 ha.get hb.get hm⟩
end L2
namespace U
open PySem L2 PySem.W
noncomputable def B0i:O->Option t_
 | .im k=>some k
 | .ls false xs=>some (.list xs)
 | _=>none
def Vn (F:n_)(d:t_):Option t_:=match F [.im d] with
 | .ret o _=>B0i o
 | .bad=>none
def Tc (F:n_):w5->Option (w5)
 | []=>some []
 | d::ds=>(Vn F d).bind λk=>(Tc F ds).map (k::·)
noncomputable def kdOf:w5->Kd
 | .tuple (.tuple _::_)::_=>.tt
 | .tuple (.list _::_)::_=>.tl
 | .int _::_=>.ii
 | .list _::_=>.ll
 | _=>.ti
def A1x (ds ks:w5):Option (w5):=if ds.length<2 then some ds else if ds.length<64&&(ks.all (Ow (kdOf ks))&&ks.all Bm) then (kEv (A4c (kdOf ks) ks) (kas_sort ds.length)).map λp=>p.toList.map λi=>ds.getD i .none else none
def B2j (F:n_)(fa:n8):n8:=λc=>(fa c).bind λp c=>match (Fw c (nrm p)).bind Nu with
 | none=>.bad
 | some ds=>match (Tc F ds).bind (A1x ds) with
  | none=>.bad
  | some out=>.ok (.o (.ls false out)) c
section
variable {K:v9}{β:Nat->V}{W W':Wo}{c:Ev}{σ:St}{Hf H:Hp}
theorem TrL.at_:∀{ds:w5}{vs:m8},TrL Hf ds vs->∀i,Tr Hf (ds.getD i .none) (vs.getD i .non)
 | [],_,h,i=>by cases (show _=[] from h);exact rfl
 | d::ds,_,⟨v,r,e,t,ts⟩,0=>by subst e;exact t
 | d::ds,_,⟨v,r,e,t,ts⟩,i+1=>by subst e;exact TrL.at_ ts i
theorem TrL.pick {ds:w5}{vs:m8}(t:TrL Hf ds vs):∀l:List Nat,TrL Hf (l.map λi=>ds.getD i .none) (l.map λi=>vs.getD i .non)
 | []=>rfl
 | i::l=>⟨_,_,rfl,TrL.at_ t i,TrL.pick t l⟩
theorem TrL.len':∀{ds:w5}{vs:m8},TrL Hf ds vs->ds.length=vs.length
 | [],_,h=>by cases (show _=[] from h);rfl
 | d::ds,_,⟨v,r,e,t,ts⟩=>by subst e;rw[aF,aF,TrL.len' ts]
theorem Ao3 (R:Rep K β W c σ) (t:Tr W.Hf d v) (m:Vn F d=some k) (h:∀e a,Stp W.S W.Hf W.H a.S a.Hf a.H->Rep K β a c σ->Tr a.Hf k e->Q e a.H):spP K F [v] W.H Q E0:=by
 have j:∃o b,F [.im d]=.ret o b/\B0i o=some k:=by
  unfold Vn at m
  grind
 obtain⟨o,b,j,f⟩:=j
 have p:nrm (.o o)=.o (.im k):=by
  unfold B0i at f
  split at f
  ·cases f;rfl
  ·cases f;rfl
  trivial
 have r:Rh F [.o (.im d)] c=.ok (.o o) c:=by
  unfold Rh;simp only[Aa2,b_,j]
  rfl
 refine (Ob (ps:=[.o (.im d)]) R ⟨v,[],rfl,t,rfl⟩ ?_:spP K F _ _ _ _)
 rw[r]
 exact λx w n g q i=>Bu1 (λe a u s l=>h e _ u s (by rw[p]at l;exact l)) _ _ _ g q i
theorem Ah2 {F:n_}{Q:m8->Hp->Prop}:∀(ds:w5) (vs:m8) (ks kd:w5) (kv:m8) (W:Wo),Rep K β W c σ->TrL W.Hf ds vs->Tc F ds=some ks->TrL W.Hf kd kv ->
 (∀W' kv',Stp W.S W.Hf W.H W'.S W'.Hf W'.H->Rep K β W' c σ->TrL W'.Hf (kd++ks) kv'->Q kv' W'.H)->A0o (spP K F) vs kv W.H Q
 | [],vs,ks,kd,kv,W,R,t,e,tk,h=>by
  cases (show vs=[] from t)
  cases (show some []=some ks from e)
  exact h W kv Stp.refl R (by rw[cA];exact tk)
 | d::ds,vs,ks,kd,kv,W,R,⟨v,r,ev,t,ts⟩,e,tk,h=>by
  subst ev
  obtain⟨k,e1,e2⟩:=bc.mp (show (Vn F d).bind (λk=>(Tc F ds).map (k::·))=some ks from e)
  obtain⟨ks',e3,rfl⟩:=aM.mp e2
  show spP K F [v] W.H (λkv1 H1=>A0o (spP K F) r (kv++[kv1]) H1 Q) E0
  refine Ao3 R t e1 λv' W' st R' tv=>?_
  refine Ah2 ds r ks' (kd++[k]) (kv++[v']) W' R' (TrL.same st.fz ts) e3 ((TrL.same st.fz tk).app (TrL.one tv)) λW2 kv' st2 R2 t2=>?_
  exact h W2 kv' (st.trans st2) R2 (by rw[eZ]at t2;exact t2)
theorem B1b (ha:ME K C fa):ME K (B1w K f (spP K F) (Bt C Eu) (Bt (tC (.ref f)) Eu)) (B2j F fa):=by
 intro M W c σ Q R s
 refine ha.toV M W c σ _ R (s.bnd.mono λp L i U r u n T=>?_)
 cases ed:(Fw L (nrm p)).bind Nu with
 | none=>simp only[ed]at i;exact i.elim
 | some l =>
  simp only[ed]at i
  cases ek:(Tc F l).bind (A1x l) with
  | none=>simp only[ek]at i;exact i.elim
  | some o =>
   simp only[ek]at i;obtain⟨d,Y,w⟩:=bc.mp ed;obtain⟨m,S,g⟩:=bc.mp ek;have B:=Im n T Y
   obtain⟨a,b,rfl,G,t⟩:∃a b,U=.ref a/\(SqL K r.H a b\/SqT K r.H a b)/\TrL r.Hf l b:=by
    cases d with
    | list H =>
     cases w
     obtain⟨a,b,e,h,t⟩:=Fz B;exact⟨a,b,e,.inl (SqL.of h),t⟩
    | tuple H =>
     cases w
     obtain⟨a,b,e,h,t⟩:=Ig n.sub B;exact⟨a,b,e,.inr (SqT.of h),t⟩
    | _=>cases w
   refine⟨a,b,rfl,rfl,G,?_⟩
   refine Ah2 _ _ _ [] _ _ n t S rfl λJ kv j x N=>?_
   have t:=TrL.same j.fz t;have P:=TrL.len' t
   have k:∀(z:List _) (y:m8),z=o->TrL _ z y->∀q,J.H q=none->Q (.ref q) (upd _ q (.lst y)):=λz y e X q I=>by
    subst e
    exact New.lst (New.of x λv W' fp Z R' rp=>i v _ _ (u.trans (j.trans Z)) R' rp) x.sub X I
   unfold A1x at g
   by_cases h2:l.length<2
   ·rw[if_pos h2]at g
    cases g
    exact .inl ⟨by lia,k _ _ rfl t⟩
   ·rw[if_neg h2]at g
    by_cases hb:(decide (l.length<64)&&(m.all (Ow (kdOf m))&&m.all Bm))=true
    ·rw[if_pos hb]at g
     obtain⟨D,A⟩:=au.mp hb;obtain⟨A,b3⟩:=au.mp A;have D:=aR D;obtain⟨pm,q1,q2⟩:=aM.mp g
     refine .inr ⟨by lia,by lia,m,kdOf _,pm,TrL.same x.sub N,A,λd E=>G4 (aL.mp b3 d E),by rw[<- P];exact q1,k _ _ q2 (TrL.pick t _)⟩
    ·rw[if_neg hb]at g;cases g
end
end U
namespace U
open PySem L2
section
variable {K:v9}{Hf H:Hp}
noncomputable def Au6:t_->Bool
 | .list _=>true
 | _=>false
theorem A9i (Hf H:Hp)(d:t_)(v:V)(h:Au6 d=true)(s:Same Hf H)(r:RdV Hf H d v):tyV K "list" v H:=by
 cases d with
 | list ds =>
  obtain⟨a,c,rfl,b,t⟩:=Fz r;exact .inl ⟨rfl,c,SqL.of b⟩
 | _=>cases h
noncomputable def A7c:List Bool->Option Nat
 | []=>none
 | true::_=>some 0
 | false::r=>(A7c r).map (·+1)
theorem Az3:∀{bs:List Bool}{j:Nat},A7c bs=some j->bs[j]?=some true/\∀m<j,bs[m]?≠some true
 | true::r,j,h=>by cases h;exact⟨rfl,λm hm=>by lia⟩
 | false::r,j,h=>by
  obtain⟨k,h1,rfl⟩:=aM.mp (show (A7c r).map (·+1)=some j from h)
  obtain⟨q1,q2⟩:=Az3 h1
  refine⟨by rw[cZ];exact q1,λm hm=>?_⟩
  cases m with
  | zero=>simp
  | succ m=>rw[cZ];exact q2 m (by lia)
def V1:t_->t_->m7
 | .list ds,.bool true=>(boolsOf ds).bind λbs=>(A7c bs).bind λj=>if j<1000000 then some (.im (.int (j:Nat))) else none
 | _,_=>none
theorem Wz:OpS K (λx y H Q=>A0z K x [y] H Q) V1:=by
 intro Hf H x y dx dy o Q s rx ry e n;unfold V1 at e
 split at e
 ·rename_i ds
  obtain⟨bs,e1,e2⟩:=bc.mp (show ((boolsOf ds).bind λbs=>(A7c bs).bind λj=>if j<1000000 then some (O.im (.int (j:Nat))) else none)=some o from e)
  obtain⟨j,e3,e4⟩:=bc.mp e2
  by_cases hb:j<1000000
  ·rw[if_pos hb]at e4
   cases e4
   obtain⟨a,vs,rfl,h1,t⟩:=Fz rx
   cases Uo e1 t
   cases (show y=.bl true from ry)
   obtain⟨q1,q2⟩:=Az3 e3;exact⟨a,bs,j,rfl,rfl,SqL.of h1,q1,q2,hb,n.int s⟩
  ·rw[if_neg hb]at e4;cases e4
 ·cases e
end
inductive XF where
 | ret (o:O)
 | ex (nm:Xn)
 | bad
inductive XS where
 | s (r:SR)
 | ex (nm:Xn) (c:Ev)
def spX (K:v9)(F:w5->XF):Sp:=λvs H Q E=>∃(Hf:Hp) (ds:w5),Same Hf H/\TrL Hf ds vs/\match F ds with
 | .bad=>False
 | .ret o=>∀v Hf' H' fp,Stp (λ_=>False) Hf H (λa=>a∈fp) Hf' H'->Same Hf' H'->RepO K Hf' H' o v fp->Q v H'
 | .ex nm=>∀C d Hf' H',XAt K Hf' nm C d->Stp (λ_=>False) Hf H (λ_=>False) Hf' H'->Same Hf' H'->E (.ref C) d H'
def LeadX (K:v9)(β:Nat->V)(W:Wo)(D:Ends)(E:XK):XS->Prop
 | .s r=>zL K β W D r
 | .ex nm c'=>∀C d σ' W',XAt K W'.Hf nm C d->Stp W.S W.Hf W.H W'.S W'.Hf W'.H->Rep K β W' c' σ'->E (.ref C) d W'.H
def MX (K:v9)(E:XK)(T:TS)(f:Ev->XS):Prop:=∀(β:Nat->V) (W:Wo) (c:Ev) (σ:St) (D:Ends),Rep K β W c σ->LeadX K β W D E (f c)->T D σ W.H
noncomputable def Dk (f:Ev->SR):Ev->XS:=λc=>.s (f c)
noncomputable def Hw (f g:Ev->XS):Ev->XS:=λc=>match f c with
 | .s (.nx c)=>g c
 | r=>r
noncomputable def xIf (t:n7) (f g:Ev->XS):Ev->XS:=λc=>match t c with
 | .ok b c=>if b=true then f c else g c
 | .bad=>.s .bad
def Sw (nm:Str)(fa:n6):Ev->XS:=λc=>match fa c with
 | .ok _ c=>.ex ⟨nm,none⟩ c
 | .bad=>.s .bad
noncomputable def scO:O->Bool
 | .im .none=>true
 | .im (.bool _)=>true
 | .im (.int _)=>true
 | .im (.str _)=>true
 | _=>false
def B4e (F:w5->XF)(fa:n6)(k:O->Ev->XS)(h:Xn->Ev->XS):Ev->XS:=λc=>match fa c with
 | .bad=>.s .bad
 | .ok ps c=>match A1k c ps with
  | none=>.s .bad
  | some ds=>match F ds with
   | .bad=>.s .bad
   | .ret o=>if scO o=true then k o c else .s .bad
   | .ex nm=>if nm.p.isNone=true then h nm c else .s .bad
def Kf (n N:Nat)(body:Ev->XS):w5->XF:=λds=>if ds.length=n then match body (ds.map (λd=>some (.im d))++List.replicate (N-n) none) with
 | .s (.nx _)=>.ret (.im .none)
 | .s (.rt p c)=>match resolve p c with
  | some (o,_)=>.ret o
  | none=>.bad
 | .ex nm _=>.ex nm
 | _=>.bad
 else .bad
section
variable {K:v9}{β:Nat->V}{W W':Wo}{c c':Ev}{D:Ends}{E:XK}{Hf H:Hp}{o:O}{v:V}
theorem LeadX.step {r:XS}(h:LeadX K β W D E r)(st:Stp W.S W.Hf W.H W'.S W'.Hf W'.H):LeadX K β W' D E r:=by
 cases r with
 | s r=>exact zL.step h st
 | ex g c=>exact λC d e i b a f=>h C d _ _ b (st.trans a) f
theorem Fv {T:TS}{f:Ev->SR}(h:MS K T f):MX K E T (Dk f):=λb W c a D R l=>h _ W c _ D R l
theorem Jo {T U:TS}{f g:Ev->XS}(h1:MX K E T f)(h2:MX K E U g):MX K E (A4j T U) (Hw f g):=by
 intro m W c i D R l
 refine h1 _ W c _ _ R ?_
 unfold Hw at l
 cases e:f c with
 | ex j a=>rw[e]at l;exact l
 | s r =>
  rw[e]at l
  cases r with
  | nx a=>exact λh k d b=>h2 _ _ _ _ D b (LeadX.step l d)
  | rt p a=>exact l
  | bk a=>exact l
  | ct a=>exact l
  | bad=>exact l
theorem Wy {i:TT}{T U:TS}{ft:n7}{f g:Ev->XS}(h:MT K i ft)(h1:MX K E T f)(h2:MX K E U g):MX K E (Bw0 i T U) (xIf ft f g):=by
 intro j W c n D R l;unfold xIf at l
 refine h _ W c _ _ R ?_
 cases e:ft c with
 | bad=>rw[e]at l;exact l
 | ok b k =>
  rw[e]at l;intro m d a
  cases b with
  | true=>exact h1 _ _ _ _ D a (LeadX.step l d)
  | false=>exact h2 _ _ _ _ D a (LeadX.step l d)
theorem Qj {nm:Str}{C:Addr}{t:TA}{d:n6}(hn:PySem.W.nsIn K mainGlobals nm=some (some (.ref C)))(ha:MA K t d)(hl:∀c a c',d c=.ok a c'->a.length<=1000):MX K E (A9d C E t) (Sw nm d):=by
 intro β W c i D R l;unfold Sw at l
 refine ha _ W c _ _ R ?_
 cases e:d c with
 | bad=>rw[e]at l;exact l
 | ok a c1 =>
  rw[e]at l;intro b f j g k
  have:∀{a:List _} {b:m8},zO K f.Hf i a b->b.length=a.length:=λ{a}=>by
   induction a with
   | nil=>intro b h;cases (h);rfl
   | cons p r ih=>intro b h;obtain⟨v,vr,rfl,_,t⟩:=h;simp_all
  exact⟨by rw[this k];exact aj (hl c _ _ e) (by decide),l C _ _ _ ⟨hn,rfl⟩ j g⟩
theorem Ol {S:Addr->Prop}{b:Hp}(s:Same H b):Stp S Hf H S Hf b:=⟨Same.refl _,λa o e _=>s a o e,λa o e c n q=>q,λa z=>.inl z⟩
theorem Oo (h:orS S [] a):S a:=by
 grind
theorem Hv {n N:Nat}{body:Ev->XS}{vs:m8}{Q:VK}(hs:spX K (Kf n N body) vs H Q E):vs.length=n:=by
 obtain⟨d,b,c,t,a⟩:=hs;unfold Kf at a
 by_cases hn:b.length=n
 ·rw[<- t.length];grind
 simp_all
theorem Hu {n:Nat}{N:v4}{body:Ev->XS}{T:TS}{vs:m8}{Q:VK}(h:MX K E T body)(hs:spX K (Kf n N.length body) vs H Q E):T { nx:=λ_ G=>Q .non G,rt:=Q } (start N vs) H:=by
 obtain⟨P,u,A,t,c⟩:=hs;unfold Kf at c
 by_cases l:u.length=n
 ·rw[if_pos l]at c
  have B:=t.length
  let W:Wo:=⟨P,H,λ_=>[]⟩
  have R:Rep K (λ_=>.non) W (u.map (λd=>some (.im d))++List.replicate (N.length-n) none) (start N vs):=by
   refine⟨A,?_,λi o e=>?_,(λi j a z=>nomatch z),λi a z=>nomatch z⟩
   ·show _=(vs.map some++List.replicate (N.length-vs.length) none).length
    rw[bh,bh,ao,ao,eX,eX,<- B,l]
   ·by_cases li:i<u.length
    ·rw[eY (by rw[ao];exact li),bH]at e
     cases ed:u[i]? with
     | none=>rw[ed]at e;cases e
     | some d =>
      rw[ed]at e;cases e;obtain⟨v,J,L⟩:=t.got ed
      refine⟨v,?_,⟨rfl,L⟩,λz=>nomatch z⟩
      show (vs.map some++List.replicate (N.length-vs.length) none)[i]?=_
      rw[eY (by rw[ao,<- B];exact li),bH,J];rfl
    ·rw[List.getElem?_append_right (by rw[ao];exact fH li),List.getElem?_replicate]at e
     split at e <;> cases e
  have b:∀a,W.S a->False:=λa ⟨i,z⟩=>nomatch z
  refine h _ W _ (start N vs) _ R ?_
  cases eb:body (u.map (λd=>some (.im d))++List.replicate (N.length-n) none) with
  | ex Y k =>
   rw[eb]at c
   exact λC d w g l f m=>c C d g.Hf g.H l ⟨f.fz,λa o e _=>f.kp a o e (b a),λa o e x _ q=>f.nf a o e x (b a) q,λa z=>z.elim⟩ m.sub
  | s r =>
   rw[eb]at c
   cases r with
   | nx k=>exact λw g f m=>c .non g.Hf g.H [] ⟨f.fz,λa o e _=>f.kp a o e (b a),λa o e x _ q=>f.nf a o e x (b a) q,λa z=>nomatch z⟩ m.sub ⟨rfl,rfl⟩
   | rt p k =>
    intro w v g X f m O
    cases er:resolve p k with
    | none=>simp only[er]at c
    | some q =>
     simp only[er]at c;obtain⟨Z,I,M,D,U,S,n2,F⟩:=Xa m O er;rw[<- D]
     refine c v _ _ _ ?_ U.sub S
     rw[M,D]
     refine⟨f.fz,λa o e _=>f.kp a o e (b a),λa o e x _ q=>f.nf a o e x (b a) q,λa z=>?_⟩
     rcases f.fr a (F a (.inr z)) with y | y
     ·exact(b a y).elim
     ·exact .inr y
   | bk k=>exact c.elim
   | ct k=>exact c.elim
   | bad=>exact c.elim
 ·rw[if_neg l]at c;exact c.elim
end
end U
set_option autoImplicit true
namespace U
open PySem L2
noncomputable def unX:XS->SR
 | .s r=>r
 | .ex _ _=>.bad
def Qh (tbl:List (Str×Bool))(f:n8):n8:=λc=>(f c).bind λp c=>match rdP c p with
 | some (.ty (.xc nm))=>match tbl.lookup nm.n with
  | some b=>.ok (.o (.im (.bool b))) c
  | none=>.bad
 | _=>.bad
def Bb7 (f:n8):n8:=λc=>(f c).bind λp c=>match rdP c p with
 | some (.ty (.xc _))=>.ok (.o (.im (.bool false))) c
 | some (.im .none)=>.ok (.o (.im (.bool true))) c
 | _=>.bad
section
variable {K:v9}{β:Nat->V}{W W':Wo}{c:Ev}{σ:St}{Hf H:Hp}{o:O}{v:V}{fp:v6}
theorem A0t {p:PV}{nm:Xn}(R:Rep K β W c σ)(r:En K W σ p v fp)(e:rdP c p=some (.ty (.xc nm))):RepN K W.Hf (.ty (.xc nm)) v:=by
 cases p with
 | o f=>cases e;exact r.1.2
 | sl i =>
  have e:c[i]?.join=some _:=e
  have b:c[i]?=some (some (.ty (.xc nm))):=by
   grind
  obtain⟨g,a,d,_⟩:=R.get i _ b;have h := r.2;rw[h]at a;cases a;exact d.2
theorem Og {l:TE}{f:n8}{cv:V}{z:Value}{i:List (Str×Bool)}(hz:B3i cv=some z)(ht:∀nm b,i.lookup nm=some b->∀C,PySem.W.nsIn K mainGlobals nm=some (some (.ref C))->K7 K C/\PySem.W.kitOne K (.ref C) z=some b)(h:ME K l f) :
 ME K (tCB (At2 K) (Bt l (Bt (tC cv) Eu))) (Qh i f):=by
 intro w W c x Q R s
 refine h _ W c _ _ R (s.bnd.mono λp q g y A r j k t=>?_)
 cases ed:rdP q p with
 | none=>simp only[ed]at g;trivial
 | some o =>
  simp only[ed]at g
  match o,ed,g with
  | .ty (.xc nm),ed,g =>
   cases el:i.lookup nm.n with
   | none=>simp only[el]at g;trivial
   | some b =>
    simp only[el]at g;obtain⟨a,C,d,e,n,u⟩:=A0t k t ed;subst e;obtain⟨v,m⟩:=ht _ b el C n.ns
    refine⟨a,C,d,cv,z,b,rfl,k.sub _ _ u,v,hz,m,?_⟩
    exact g _ _ _ (j.less λa z=>by
     grind) k ⟨⟨rfl,rfl⟩,λa z=>nomatch z⟩
  | .ty (.nm _),ed,g=>trivial
  | .ty (.tc _),ed,g=>trivial
  | .ty (.dc _ _),ed,g=>exact g.elim
  | .ty (.dt _ _),ed,g=>exact g.elim
  | .ty (.ds _ _),ed,g=>exact g.elim
  | .ty (.td _ _ _),ed,g=>exact g.elim
  | .im _,ed,g=>exact g.elim
  | .ls _ _,ed,g=>exact g.elim
  | .sc _,ed,g=>trivial
theorem B1a {p:PV}(R:Rep K β W c σ)(r:En K W σ p v fp)(e:rdP c p=some (.im .none)):v=.non:=by
 cases p with
 | o f=>cases e;exact r.1.2
 | sl i =>
  have e:c[i]?.join=some _:=e
  have b:c[i]?=some (some (.im .none)):=by
   grind
  obtain⟨g,a,d,_⟩:=R.get i _ b;have h := r.2;rw[h]at a;cases a;exact d.2
theorem Az0 {m:TE}{f:n8}(h:ME K m f):ME K (tOp (λx y H Q=>y=.non/\Q (.bl (decide (x=.non))) H) m (tC .non)) (Bb7 f):=by
 intro u W c t Q R s
 refine h _ W c _ _ R (s.bnd.mono λp q g A w r j l n=>?_)
 refine⟨rfl,?_⟩
 have i:∀b ,(∀v W' fp,Stp _ _ _ (orS W'.S fp) W'.Hf W'.H->Rep K _ W' _ _->En K W' t (.o (.im (.bool b))) v fp->Q v W'.H)->Q _ _:=λb k=>k _ _ _ (j.less λa z=>by
  grind) l ⟨⟨rfl,rfl⟩,λa z=>nomatch z⟩
 cases ed:rdP q p with
 | none=>simp only[ed]at g;trivial
 | some o =>
  simp only[ed]at g
  match o,ed,g with
  | .ty (.xc _),ed,g =>
   obtain⟨a,C,d,e,_⟩:=A0t l n ed;subst e;exact i _ g
  | .im .none,ed,g=>cases B1a l n ed;exact i _ g
  | .im (.bool _),ed,g=>trivial
  | .im (.int _),ed,g=>trivial
  | .im (.str _),ed,g=>trivial
  | .im (.list _),ed,g=>trivial
  | .im (.tuple _),ed,g=>trivial
  | .im (.dict _),ed,g=>exact g.elim
  | .ty (.nm _),ed,g=>exact g.elim
  | .ty (.tc _),ed,g=>exact g.elim
  | .ty (.dc _ _),ed,g=>exact g.elim
  | .ty (.dt _ _),ed,g=>exact g.elim
  | .ty (.ds _ _),ed,g=>exact g.elim
  | .ty (.td _ _ _),ed,g=>exact g.elim
  | .ls _ _,ed,g=>exact g.elim
  | .sc _,ed,g=>trivial
end
end U
set_option autoImplicit true
namespace L2
open PySem PySem.Spec PyProof.Rows PySem.W
section
variable {P:u6}{w:World}{K:v9}{mg:x_}{base:Heap}
theorem Fun.okX {x qual:Str}{st:Stmt}{f:Addr}{h:u5}{N ps:v4}{k:Nat}{sp:Sp}(F:Fun K x qual st f h)(S:Bc N ps (Aj st))(g:∀vs H Q E,sp vs H Q E->vs.length=ps.length)
 (b:∀(c:Value) (A:q9) (a:List Env) (s:u_) (H:Hp) (vs:m8) (Q:VK) (E:XK),Room k (A.deeper (envOfC qual (Aj st) s.heap.objs.size f c))->sp vs H Q E ->
  ∃t,PSs (Jk (CXe P w) P w K mg base N qual (Aj st) f c A a s H E) (Dr st) t/\t { nx:=λ_ m=>Q .non m,rt:=Q } (start N vs) H):FnOk P w K mg base (CXe P w) (k+1) f h ps sp:=by
 obtain⟨oc,od,kV,j,pm,an,c,ct,l,rfl,i,e⟩:=F.ex
 exact A1m i e S g λA a s H vs Q E n d=>b _ A _ s H _ Q E n d
end
section
variable {X:Cx}{y:Str}{pos p:Pos}{e:Expr}{es:v_}{t:TA}
theorem Km {D:Addr}(hg:Gl X y)(hm:X.mg y=some (.ref D))(hdb:(y==("__debug__" : Str))=false:=by decide):QE X (.Name y p) (tC (.ref D)):=⟨Bz1 hg hm hdb⟩
theorem Qe {Kq:v9}(a:X.K=Kq)(hgl:Gl X "isinstance") (hm:X.mg "isinstance" = none) (ha:QA X (e::es) t) (hn:noStar (e::es)=true:=by rfl):QE X (.Call (.Name "isinstance" p) (e::es) [] pos) (tCB (At2 Kq) t):=by
 subst a
 exact⟨Eo A4z hgl hm Ht ha.get (by decide) (by rfl) hn⟩
theorem Yh:bootBuiltins "ValueError" = some (.type "ValueError"):=by decide +kernel
end
def TbOk (K:v9)(z:Value)(tbl:List (Str×Bool)):Prop:=∀nm b,tbl.lookup nm=some b->∀C,PySem.W.nsIn K mainGlobals nm=some (some (.ref C))->K7 K C/\PySem.W.kitOne K (.ref C) z=some b
def ExOk (K:v9)(Fc:Addr)(NS:v4):Prop:=∀nm∈NS,∀C,PySem.W.nsIn K mainGlobals nm=some (some (.ref C))->PySem.W.exmOne K (.ref C) (.ref Fc)=some true
def ClT (K:v9)(mg:x_)(tbl:List (Str×Bool))(T:Str):Prop:=∃g,mg T=some (.ref g)/\TbOk K (.ref g) tbl
def ClF (K:v9)(mg:x_)(NS:v4)(T:Str):Prop:=∃g,mg T=some (.ref g)/\ExOk K g NS
def ClR (K:v9)(mg:x_)(T:Str):Prop:=∃g,mg T=some (.ref g)/\PySem.W.nsIn K mainGlobals T=some (some (.ref g))/\exP K g=true
section
variable {K:v9}{z:Value}{tbl:List (Str×Bool)}{x:Str}{g Fc:Addr}{b:Bool}{NS:v4}
theorem TbOk.nil:TbOk K z []:=λ_ _ e=>nomatch e
theorem TbOk.cons (n:PySem.W.nsIn K mainGlobals x=some (some (.ref g)))(X:K7 K g)(k:PySem.W.kitOne K (.ref g) z=some b)(t:TbOk K z tbl):TbOk K z ((x,b)::tbl):=λc d e C a=>by
 rw[aN]at e
 cases q:c==x with
 | true =>
  simp_all
 | false=>rw[q]at e;exact t _ _ e C a
theorem ExOk.nil:ExOk K Fc []:=λ_ z=>nomatch z
theorem ExOk.cons (n:PySem.W.nsIn K mainGlobals x=some (some (.ref g)))(k:PySem.W.exmOne K (.ref g) (.ref Fc)=some true)(t:ExOk K Fc NS):ExOk K Fc (x::NS):=λc h C b=>by
 rcases az.mp h with a | h
 ·grind
 ·exact t _ h C b
end
end L2
namespace U
open PySem L2
def DefX (P:u6)(w:World)(K:v9)(mg:x_)(base:Heap)(x:Str)(k:Nat)(ps:v4)(sp:Sp):Prop :=
 ∃(f:Addr) (fd:u5),FnOk P w K mg base (CXe P w) k f fd ps sp/\Binds K fd ps []/\PySem.W.keepIn K (.ref f)=true/\mg x=some (.ref f)
def mmF (gt:Bool)(F:n_):w5->Option (PyData×t_)->Option (Option (PyData×t_))
 | [],best=>some best
 | d::ds,best=>(Vn F d).bind λk=>match best with
  | none=>mmF gt F ds (some (d,k))
  | some (b,bk)=>if (Bm k&&Bm bk)=true then (Jw gt k bk).bind λr=>mmF gt F ds (if r=true then some (d,k) else some (b,bk)) else none
noncomputable def mmD:Option (PyData×t_)->t_
 | some (d,_)=>d
 | none=>.none
def cMM (gt:Bool)(F:n_)(fa:n8):n8:=λc=>(fa c).bind λp c=>(frz (nrm p) c).bind λd c=>match d with
 | .list ds=>match mmF gt F ds none with
  | some best=>.ok (.o (.im (mmD best))) c
  | none=>.bad
 | _=>.bad
section
variable {K:v9}{W:Wo}{c:Ev}{Hf H:Hp}
def B4b (Hf:Hp):Option (V×V)->Option (PyData×t_)->Prop
 | none,none=>True
 | some (x,k),some (d,kd)=>Tr Hf d x/\Tr Hf kd k
 | _,_=>False
theorem TrL.back:∀{ds:w5}{vs:m8}{i:Nat}{x:V},TrL Hf ds vs->vs[i]?=some x->∃d,ds[i]?=some d/\Tr Hf d x
 | [],_,i,x,h,e=>by cases (show _=[] from h);simp at e
 | d::ds,_,0,x,⟨v,r,e1,t,ts⟩,e=>by subst e1;cases (show some v=some x from e);exact⟨d,rfl,t⟩
 | d::ds,_,i+1,x,⟨v,r,e1,t,ts⟩,e=>by subst e1;exact TrL.back (ds:=ds) (vs:=r) (i:=i) ts (show r[i]?=some x from e)
theorem B5l (ha:ME K S fa):ME K (tMM n K f (spP K F) (Bt S Eu) (Bt (tC (.ref f)) (Bt (tC .non) Eu))) (cMM n F fa):=by
 intro M W c T Q R s
 refine ha.toV M W c T _ R (s.bnd.mono λp c1 Y v1 W1 C V r1=>?_)
 obtain⟨d,c2,A,_,j,e2,E,L,Z⟩:=Il V r1 Y.bnd
 cases d with
 | list w =>
  cases em:mmF n F w none with
  | none=>simp only[em]at j;exact j.elim
  | some u =>
   simp only[em]at j;obtain⟨a,vs,rfl,N,t⟩:=id Z;rw[<- e2]
   refine⟨a,vs,.non,rfl,rfl,SqL.of (L.sub _ _ N),?_⟩
   refine⟨λi e H=>∃m o,m.H=H/\Stp A.S A.Hf A.H m.S m.Hf m.H/\Rep K M m c2 T/\B4b m.Hf e o/\mmF n F (w.drop i) o=some u,?_,?_,?_,?_⟩
   ·exact⟨A,none,rfl,Stp.refl,L,trivial,em⟩
   ·rintro i e H ⟨m,o,rfl,g,v,_,_⟩
    exact SqL.of (v.sub _ _ (g.fz _ _ N))
   ·rintro i x e H X ⟨m,o,rfl,g,v,G,y⟩
    obtain⟨d,hd,D⟩:=TrL.back (TrL.same g.fz t) X
    have I:w.drop i=d::w.drop (i+1):=by
     obtain⟨hi,q⟩:=bz.mp hd;rw[fP hi,q]
    rw[I]at y
    obtain⟨k,k1,l⟩:=bc.mp (show ((Vn F d).bind _)=some u from y)
    refine Ao3 v D k1 λv' U h B J=>?_
    match e,o,G,l with
    | none,none,_,l=>exact⟨U,some _,rfl,g.trans h,B,⟨Tr.same h.fz D,J⟩,l⟩
    | some _,some (b,kb),⟨t3,t4⟩,l =>
     have l:(if (Bm k&&Bm _)=true then (Jw _ k _).bind _ else none)=some _:=l
     by_cases hfl:(Bm k&&Bm kb)=true
     ·rw[if_pos hfl]at l
      obtain⟨f1,f2⟩:=au.mp hfl;obtain⟨r,q1,O⟩:=bc.mp l
      refine⟨k,kb,r,Tr.same B.sub J,Tr.same B.sub (Tr.same h.fz t4),G4 f1,G4 f2,q1,U,if r=true then some _ else some _,rfl,g.trans h,B,?_,O⟩
      cases r with
      | true=>exact⟨Tr.same h.fz D,J⟩
      | false=>exact⟨Tr.same h.fz t3,Tr.same h.fz t4⟩
     ·rw[if_neg hfl]at l;cases l
   ·rintro e H ⟨m,o,rfl,g,v,G,y⟩
    rw[<- TrL.len' t,dw]at y
    cases y
    have P:=C.trans (E.trans g)
    match e,u,G,j with
    | none,none,_,j=>exact j _ _ _ (P.less λa z=>Oo z) v ⟨⟨rfl,rfl⟩,λa z=>nomatch z⟩
    | some _,some _,⟨t3,t4⟩,j=>exact j _ _ _ (P.less λa z=>Oo z) v ⟨⟨rfl,t3⟩,λa z=>nomatch z⟩
 | none=>exact j.elim
 | bool _=>exact j.elim
 | int _=>exact j.elim
 | str _=>exact j.elim
 | tuple _=>exact j.elim
 | dict _=>exact j.elim
noncomputable def B4a:t_->Option Key
 | .int i=>some (.inl i)
 | .str x=>some (.inr x)
 | _=>none
def We:w5->Option (List Key)
 | []=>some []
 | d::ds=>(B4a d).bind λk=>(We ds).map (k::·)
theorem A0i:∀{ds:w5}{ks:List Key}{vs:m8},We ds=some ks->TrL Hf ds vs->vs.map keyV=ks.map some/\vs.length=ks.length
 | [],ks,vs,e,h=>by cases (show some []=some ks from e);cases (show vs=[] from h);exact⟨rfl,rfl⟩
 | d::ds,ks,_,e,⟨v,r,ev,t,ts⟩=>by
  subst ev
  obtain⟨k,e1,e2⟩:=bc.mp (show ((B4a d).bind λk=>(We ds).map (k::·))=some ks from e)
  obtain⟨ks',e3,rfl⟩:=aM.mp e2;obtain⟨q1,q2⟩:=A0i e3 ts
  have hk:keyV v=some k:=by
   cases d with
   | int i=>cases e1;cases (show v=.int i from t);rfl
   | str x=>cases e1;cases (show v=.str x from t);rfl
   | _=>cases e1
  exact⟨by rw[aG,aG,hk,q1],by rw[aF,aF,q2]⟩
def Oa:t_->m7
 | .list ds=>(We ds).bind λks=>if ks.length<1000 then some (.im (.int ((dst ks).length:Nat))) else none
 | _=>none
theorem Am5 : UnS K (λx H Q=>Zt P w K [x] H λy H=>Qs P w [y] H Q) Oa:=by
 intro Hf H x d o Q s i e n
 cases d with
 | list ds =>
  obtain⟨g,j,f⟩:=bc.mp (e);obtain⟨a,k,rfl,l,t⟩:=Fz i
  by_cases hl:g.length<1000
  ·rw[if_pos hl]at f
   cases f
   obtain⟨m,q2⟩:=A0i j t
   refine⟨a,k,g,rfl,SqL.of l,m,by grind,λp c=>⟨p,_,rfl,Bd,?_,?_⟩⟩
   ·exact bD (Ab3 _ _ rfl) hl
   ·refine n _ _ _ [] ⟨λ_ _ h=>h,λb u e _=>?_,λ_ _ _ _ _ h=>h,λ_ h=>nomatch h⟩ (λb u e=>?_) ⟨rfl,rfl⟩
    ·exact Cu c b u e
    ·exact Cu c b u (s b u e)
  grind
 | _=>cases e
theorem Ap5 (h:ME K t f):ME K (tCB (Qs P w) (Bt (tCB (Zt P w K) (Bt t Eu)) Eu)) (cUn Oa f):=Ms (r:=λx H Q=>Zt P w K _ H _) h Am5
end
end U
set_option autoImplicit true
namespace U
open PySem L2
noncomputable def Ov (c:Ev):List PV->Option (w5)
 | []=>some []
 | .o (.im d)::r=>(Ov c r).map (d::·)
 | .sl i::r=>match c[i]? with
  | some (some (.im d))=>(Ov c r).map (d::·)
  | _=>none
 | _=>none
def Tu (F:w5->XF)(fa:n6)(k:O->Ev->XS)(h:Xn->Ev->XS):Ev->XS:=λc=>match fa c with
 | .bad=>.s .bad
 | .ok ps c=>match Ov c ps with
  | none=>.s .bad
  | some ds=>match F ds with
   | .ret (.im d)=>k (.im d) c
   | .ex nm=>h nm c
   | _=>.s .bad
section
variable {K:v9}{β:Nat->V}{W:Wo}{c:Ev}{σ:St}{D:Ends}{E:XK}{Hf H:Hp}{o:O}{v:V}{fp:v6}
theorem Ot (R:Rep K β W c σ):∀{ps:List PV}{vs:m8}{ds:w5},zO K W.Hf σ ps vs->Ov c ps=some ds->TrL W.Hf ds vs
 | [],vs,ds,h,e=>by cases (show vs=[] from h);cases e;exact rfl
 | .o (.im d)::r,_,ds,⟨v,vr,rfl,h,t⟩,e=>by
  obtain⟨l,e2,rfl⟩:=aM.mp (show (Ov c r).map (d::·)=some ds from e)
  exact⟨v,vr,rfl,h,Ot R t e2⟩
 | .sl i::r,_,ds,⟨v,vr,rfl,h,t⟩,e=>by
  unfold Ov at e
  split at e
  ·rename_i d ec
   obtain⟨l,e2,rfl⟩:=aM.mp e;obtain⟨v',e1,r1,_⟩:=R.get i _ ec
   cases (show some (some v')=some (some v) from e1.symm.trans h)
   exact⟨v,vr,rfl,r1.2,Ot R t e2⟩
  ·cases e
 | .o (.sc _)::r,_,ds,_,e=>by cases e
 | .o (.ls _ _)::r,_,ds,_,e=>by cases e
 | .o (.ty _)::r,_,ds,_,e=>by cases e
theorem Q9 {F:w5->XF}{m:n6}{t:TA}{k:O->Ev->XS}{h:Xn->Ev->XS}{Q:VK}{E':XK}(ha:MA K t m)(R:Rep K β W c σ)(l:LeadX K β W D E (Tu F m k h c))
 (hk:∀o i W2 v,Stp W.S W.Hf W.H W2.S W2.Hf W2.H->Rep K β W2 i σ->LeadX K β W D E (k o i)->En K W2 σ (.o o) v []->Q v W2.H)
 (B:∀u i W2 C d,Stp W.S W.Hf W.H W2.S W2.Hf W2.H->Rep K β W2 i σ->LeadX K β W D E (h u i)->XAt K W2.Hf u C d->E' (.ref C) d W2.H) :
 t σ W.H λvs y=>spX K F vs y Q E':=by
 unfold Tu at l
 refine ha _ W c _ _ R ?_
 cases e:m c with
 | bad=>rw[e]at l;exact l
 | ok A i =>
  rw[e]at l;intro vs x L s I
  cases ea:Ov i A with
  | none=>simp only[ea]at l;trivial
  | some H =>
   simp only[ea]at l
   refine⟨x.Hf,H,s.sub,Ot s I ea,?_⟩
   have w:∀{f j:Hp},Stp _ _ _ (λ_=>False) f j->Same _ _->Stp _ _ _ _ _ _/\Rep K _ _ _ _:=λ{f j} g b =>
    ⟨L.trans ⟨g.fz,λa o e _=>g.kp a o e λz=>z,λa o e G _ q=>g.nf a o e G (λz=>z) q,λa z=>.inl z⟩,Stp.rep s g b⟩
   cases ef:F _ with
   | bad=>simp only[ef]at l;trivial
   | ret o =>
    match o,ef with
    | .im d,ef =>
     simp only[ef]at l;intro v f j fp g b r;obtain⟨rfl,J⟩:=r
     obtain⟨n,p⟩:=w (g.less λa z=>nomatch z) b
     exact hk _ _ _ v n p l ⟨⟨rfl,J⟩,λa z=>nomatch z⟩
    | .sc _,ef=>simp only[ef]at l;trivial
    | .ls _ _,ef=>simp only[ef]at l;trivial
    | .ty _,ef=>simp only[ef]at l;trivial
   | ex u =>
    simp only[ef]at l;intro C d f j M g b;obtain⟨n,p⟩:=w g b;exact B _ _ _ C d n p l M
end
def Ra:t_->t_->m7:=Yp λi j=>.bool (decide (i<j))
theorem Bm1 : OpS K (rI0 λi j=>.bl (decide (i<j))) Ra:=Ad5 λ_ _ _=>rfl
theorem B3z (l:Wc i j=true):CMul i j:=by
 unfold Wc at l;rw[Bool.or_eq_true_iff,au,au]at l
 rcases l with ⟨b,a⟩ | ⟨b,a⟩
 ·exact .inl ⟨aR b,aR a⟩
 ·exact .inr ⟨aR b,aR a⟩
def Mj:t_->t_->m7:=opI Wc λi j=>i*j
theorem A6i : OpS K (rI CMul λi j=>.int (i*j)) Mj:=Ax2 λ_ _=>B3z
noncomputable def Dm:t_->m7
 | .list ds=>some (.im (.tuple ds))
 | .tuple ds=>some (.im (.tuple ds))
 | _=>none
theorem Bc6 : UnS K (λx H Q=>Ik K [x] H Q) Dm:=by
 intro Hf H x d o Q s r e n;unfold Dm at e
 split at e
 ·cases e
  obtain⟨a,b,rfl,c,t⟩:=Fz r
  exact⟨a,b,rfl,.inl ⟨SqL.of c,λl f=>n.tup s t f⟩⟩
 ·cases e
  obtain⟨a,b,rfl,c,t⟩:=Ig s r;exact⟨a,b,rfl,.inr ⟨SqT.of c,n.same s r⟩⟩
 grind
def B5n (K:v9):R2:=λx y H Q=>B3n K x y H Q\/B3c K x y H Q
def Ag:t_->t_->m7
 | .list ds,.int i=>(atI ds i).map O.im
 | .tuple ds,.int i=>(atI ds i).map O.im
 | _,_=>none
theorem Dg : OpS K (B5n K) Ag:=by
 intro Hf H x y dx dy o Q s i j e n;unfold Ag at e
 split at e
 ·obtain⟨d,g,rfl⟩:=aM.mp e
  obtain⟨a,c,rfl,f,t⟩:=Fz i;obtain⟨v,h,b⟩:=A7b t g;exact .inl ⟨a,c,_,v,rfl,Eh j,SqL.of f,h,n.same s b⟩
 ·obtain⟨d,g,rfl⟩:=aM.mp e
  obtain⟨a,c,rfl,f,t⟩:=Ig s i;obtain⟨v,h,b⟩:=A7b t g;exact .inr ⟨a,c,_,v,rfl,Eh j,SqT.of f,h,n.same s b⟩
 grind
end U
namespace L2
open PySem
section
variable {X:Cx}{a b:Expr}{ta tb:TE}{pos:Pos}
theorem Ax (c:X.K=Kq) (ha:QE X a ta) (hb:QE X b tb) (hs:Oj b):QE X (.Subscript a b pos) (tOp (U.B5n Kq) ta tb):=by
 subst c;exact Bu3 (IxR.or ix_list ix_tup) ha hb hs
end
end L2
namespace U
open PySem L2 PySem.W
section
variable {K:v9}{W:Wo}{c:Ev}
def cFz (f:n8):n8:=λc=>(f c).bind λp c=>(frz (nrm p) c).bind λd c=>.ok (.o (.im d)) c
theorem Nb (h:ME K t f):ME K t (cFz f):=by
 intro y W c x Q R s
 refine h.toV _ W c _ Q R (s.bnd.mono λp n j v u e i k=>?_)
 obtain⟨d,o,r,_,l,w,b,m,g⟩:=Il i k j.bnd
 have q:=l v _ [] ((e.trans b).less λa z=>z.elim id λz=>nomatch z) m ⟨⟨rfl,g⟩,λa z=>nomatch z⟩
 grind
end
variable {K:v9}
theorem Be {p a:Pos}(D:Def X.prog X.w X.K X.mg X.base x k ps sp) (hr:Room c X.A) (ha:QA X (e::es) t) (h:k<=c:=by lia) (hg:Gl X x:=by rfl)
 (hdb:(x==("__debug__" : Str))=false:=by decide) (hn:noStar (e::es)=true:=by rfl):QE X (.Call (.Name x p) (e::es) [] a) (Le sp [] E0 t):=by
 obtain⟨f,g,G,b,d,m⟩:=D;exact Fp G (hr.mono h) hg m d b .nil B5h ha hdb hn
end U
namespace L2
open PySem PySem.Spec PyProof.Rows PySem.W
section
variable {X:Cx}
def JT (X:Cx)(vs:v_)(m:Nat):Prop:=∀(pins:y_) (σ:St) (H:Hp) (s:u_) (acc:Str) (Q:Str->u_->Prop),Inv X pins σ H s->acc.length+m<=16001000->(∀out s',out.length<=sizeLine->Inv X pins σ H s'->Q out s')->Joins (model X.prog X.w) X.A X.xe (evalEach vs X.env) acc Q s
theorem B3d:JT X [] 0:=λa c H s b Q I h q=>q _ s (aj h (by decide)) I
theorem B1r {v:Expr}{y:Str}(h:QE X v (tC (.str y))):JT X [v] y.length:=by
 intro b j H s a Q I f q
 refine wpAny_mono (h.get _ s _ H (λv g=>v=.str y/\g=H) I ⟨rfl,rfl⟩) (λu k ⟨v,l,d,r,i,c⟩=>?_) λ_ _ z=>z
 subst i c;obtain⟨t,e⟩:=(r)
 have:(a++y).length<=sizeLine:=by rw[strLen_append];exact aj f (by decide)
 exact⟨y,t,e,this,q _ _ this d⟩
theorem A7x {l j:Expr}{vs:v_}{s1:Str}{m:Nat}{o:TE}{f c:Pos}(hu:X.A.units+64<cLine)(hg:X.A.guards=some [])(h1:QE X l (tC (.str s1)))(hn:s1.length<=1000)(h2:QE X j o)(B:JT X vs m)(hm:m<=1000):QE X (.JoinedStr (l::.FormattedValue j 114 none f::vs) c) (tFs s1.length o):=by
 refine⟨λg s C H Q I h=>?_⟩
 refine wpAny_JoinedStr ?_
 refine wpAny_mono (h1.get _ s _ H (λv M=>v=.str _/\M=H) I ⟨rfl,rfl⟩) (λu W ⟨v,Z,N,r,L,P⟩=>?_) λ_ _ z=>z
 subst L P
 obtain⟨t,e⟩:=(show ∃t,u=Value.str _ t from r)
 refine⟨s1,t,e,?_,?_⟩
 ·rw[strLen_append]
  exact aj (by show 0+s1.length<=1000;lia) (by decide)
 ·refine wpAny_FormattedValue_repr (thn (h2.get _ _ _ _ _ N h) λS U ⟨v,D,E,F,d,G,J,q⟩=>?_)
  refine Br8 hu hg E G F hn J λz V T K x=>?_
  have k:z.length<=sizeLine:=aj (aj (cj _ _) K) (by decide)
  have n:(Str.empty++s1++z).length+m<=16001000:=by
   rw[strLen_append,strLen_append]
   show 0+s1.length+z.length+m<=_;lia
  have i:∀(p:Tok) (w:u_),Inv X g C _ w->∃y t,Value.str z _=.str y t/\(Str.empty++s1++y).length<=sizeLine/\Joins _ _ _ _ (Str.empty++s1++y) (λb a=>b.length<=sizeLine/\EP X _ _ Q (.str b a.toks) { a with toks:=a.toks+1 }) _:=λp w O =>
   ⟨z,p,rfl,aj (cj _ _) (aj n (by decide)),B _ _ _ _ _ _ O n λb Y R A=>⟨R,.str _,D,A.tok _,⟨_,rfl⟩,q _⟩⟩
  exact wpAny_formatField_str (i _ _ x) (i _ _ (x.tok _)) k
end
end L2
namespace U
open PySem L2 PySem.W
section
variable {K:v9}{W:Wo}{c:Ev}{D:Ends}{E:XK}{Hf H:Hp}
noncomputable def Zw (g:o7) (body:Ev->XS):w5->Ev->XS
 | [],c=>.s (.nx c)
 | d::ds,c=>match g (.o (.im d)) c with
  | .bad=>.s .bad
  | .ok _ c=>match body c with
   | .s (.nx c)=>Zw g body ds c
   | .s (.ct c)=>Zw g body ds c
   | .s (.bk c)=>.s (.nx c)
   | r=>r
def Bq0 (fi:Ev->R (w5))(g:o7)(body:Ev->XS):Ev->XS:=λc=>match fi c with
 | .ok ds c=>Zw g body ds c
 | .bad=>.s .bad
theorem A9f {wi:TI}{t:TG}{tb:TS}{fi:Ev->R (w5)}{g:o7}{body:Ev->XS}(hi:MI K wi fi)(hg:MG K t g)(hb:MX K E tb body):MX K E (Bj5 wi t tb) (Bq0 fi g body):=by
 intro I W c P D R l
 refine hi I W c P _ R ?_
 unfold Bq0 at l
 cases e:fi c with
 | bad=>rw[e]at l;exact l.elim
 | ok y c1 =>
 rw[e]at l;intro J T V R1 it
 refine⟨λi m P H=>∃j B,j.H=H/\Rep K I j B P/\m=y.length-i/\i<=y.length/\Same T.Hf j.Hf/\LeadX K I j D E (Zw g body (y.drop i) B),⟨_,T,c1,rfl,R1,rfl,aB _,Same.refl _,LeadX.step l V⟩,?_⟩
 rintro i m P H ⟨j,B,rfl,X,rfl,hle,sm,h⟩
 obtain⟨A,U⟩:=it i j.Hf j.H sm X.sub
 by_cases lt:i<y.length
 ·obtain⟨q1,q2⟩:=U y[i] (aU lt)
  refine .inr ⟨q1,λM O=>∃j B,j.H=O/\Rep K I j B M/\Same T.Hf j.Hf/\LeadX K I j D E (Zw g body (y.drop (i+1)) B),λM O ⟨W3,c3,e3,Y,s3,l3⟩=>⟨y.length-(i+1),by lia,W3,c3,e3,Y,rfl,by lia,s3,l3⟩,λx O hy=>?_⟩
  obtain⟨Hf2,k,L,tx⟩:=q2 x O hy;have Y:=k.rep X L
  have Q:Stp j.S _ _ _ _ _:=⟨k.fz,λa o e _=>k.kp a o e λz=>z,λa o e mu _ q=>k.nf a o e mu (λz=>z) q,λa z=>.inl z⟩
  rw[K4 lt]at h;unfold Zw at h
  refine hg _ _ _ _ (.o (.im _)) x _ _ Y ⟨⟨rfl,tx⟩,λa z=>nomatch z⟩ ?_
  cases eg:g _ _ with
  | bad=>rw[eg]at h;exact h.elim
  | ok u c3 =>
   rw[eg]at h;intro σ3 W3 Z S
   have f:=Q.trans (Z.up λa z=>Oo z)
   have N := sm.trans f.fz
   refine hb _ _ _ _ _ S ?_
   cases ebd:body _ with
   | ex nm G=>simp only[ebd]at h;exact λC d w F hn b n=>h C d _ _ hn (f.trans b) n
   | s r =>
   cases r with
   | nx G=>simp only[ebd]at h;exact λw F b n=>⟨F,G,rfl,n,N.trans b.fz,LeadX.step h (f.trans b)⟩
   | ct G=>simp only[ebd]at h;exact λw F b n=>⟨F,G,rfl,n,N.trans b.fz,LeadX.step h (f.trans b)⟩
   | bk G=>simp only[ebd]at h;exact λw F b n=>h _ _ (f.trans b) n
   | rt p G=>simp only[ebd]at h;exact λw v F fp b n r4=>h _ v _ _ (f.trans b) n r4
   | bad=>simp only[ebd]at h;exact h.elim
 ·have e:i=y.length:=by lia
  subst e;rw[dw]at h;exact .inl ⟨A rfl,h _ _ Stp.refl X⟩
def cFY (F:w5->XF)(fa:n6):n8:=λc=>(fa c).bind λps c=>match Ov c ps with
 | none=>.bad
 | some ds=>match F ds with
  | .ret (.im d)=>.ok (.o (.im d)) c
  | _=>.bad
end
def Ay8 (neg:Bool)(ss:v4):t_->m7
 | .str y=>some (.im (.bool (if neg then !inV (.str y) (ss.map V.str) else inV (.str y) (ss.map V.str))))
 | .int y=>some (.im (.bool (if neg then !inV (.int y) (ss.map V.str) else inV (.int y) (ss.map V.str))))
 | .none=>some (.im (.bool (if neg then !inV .non (ss.map V.str) else inV .non (ss.map V.str))))
 | _=>none
theorem Bc4 {K:v9}{neg:Bool}{a:TE}{fe:n8}{p:Addr}{ss:v4}(he:ME K a fe)(hp:∀H,SqT K H p (ss.map V.str)):ME K (tOp (rIn K neg) a (tC (.ref p))) (cUn (Ay8 neg ss) fe) :=
 Ms he λb H x d o Q s r e n=>by
  unfold Ay8 at e
  split at e
  ·cases e;cases Jj r;exact⟨p,_,rfl,.inr (hp H),rfl,Su _,n.bl s⟩
  ·cases e;cases Eh r;exact⟨p,_,rfl,.inr (hp H),rfl,Su _,n.bl s⟩
  ·cases e;cases (r);exact⟨p,_,rfl,.inr (hp H),rfl,Su _,n.bl s⟩
  simp_all
end U
namespace L2
open PySem PySem.Spec PyProof.Rows PySem.W
section
variable {K K':Frag}
def Ks (K K':Frag):Prop:=∀a o,K.lookup a=some o->K'.lookup a=some o
theorem Q6 (s:Ks K K'){ns:Addr}{x:Str}{r:u9}(e:nsIn K ns x=some r):nsIn K' ns x=some r:=by
 unfold nsIn at e ⊢
 split at e
 ·rename_i a;rw[s _ _ a];lia
 trivial
theorem Aj1 (s:Ks K K'){x:Str}{v:Value}{r:u9}(e:ownIn K x v=some r):ownIn K' x v=some r:=by
 cases v with
 | ref a =>
  unfold ownIn at e ⊢
  dsimp only at e ⊢
  split at e
  ·rename_i b;rw[s _ _ b];exact Q6 s e
  simp_all
 | _=>exact e
theorem Ws (s:Ks K K'){x:Str}:∀{l:w6}{r:u9},alongIn K x l=some r->alongIn K' x l=some r
 | [],r,e=>e
 | v::l,r,e=>by
  unfold alongIn at e ⊢
  split at e
  ·rename_i h;rw[Aj1 s h];exact e
  ·rename_i h;rw[Aj1 s h];exact Ws s e
  ·cases e
theorem Hc (s:Ks K K'){x:Str}{C:Addr}{r:u9}(e:findIn K (.ref C) x=some r):findIn K' (.ref C) x=some r:=by
 unfold findIn at e ⊢
 dsimp only at e ⊢
 split at e
 ·rename_i a;rw[s _ _ a];exact Ws s e
 trivial
theorem A8x (s:Ks K K'){C:Addr}{a:ClassData}(e:clsIn K C=some a):clsIn K' C=some a:=by
 unfold clsIn at e ⊢
 split at e
 ·rename_i b;rw[s _ _ b];grind
 trivial
theorem Vd (s:Ks K K'){t b:Value}{r:Bool}(e:subIn K t b=some r):subIn K' t b=some r:=by
 cases t with
 | ref C =>
  obtain⟨c,d,a⟩:=bc.mp (e);exact Option.bind_eq_some_iff.mpr ⟨c,A8x s d,a⟩
 | _=>exact e
theorem Y0 (s:Ks K K'){t c:Value}{r:Bool}(e:kitCls K t c=some r):kitCls K' t c=some r:=by
 unfold kitCls at e ⊢
 split at e
 ·rename_i C
  split at e
  ·rename_i z
   rw[if_pos,Vd s e]
   dsimp only[clsIn,typeIn]at z ⊢
   cases ho:K.lookup C with
   | none=>simp_all
   | some o=>rw[s _ _ ho];grind
  simp_all
 ·split at e
  ·rename_i z;rw[if_pos z,Vd s e]
  grind
 trivial
theorem A1w (s:Ks K K'){t c:Value}{r:Bool}(e:kitOne K t c=some r):kitOne K' t c=some r:=by
 unfold kitOne at e ⊢
 split at e
 ·grind
 ·rename_i z;rw[if_neg z];exact Y0 s e
theorem Zd (s:Ks K K'){t c:Value}{r:Bool}(e:exmOne K t c=some r):exmOne K' t c=some r:=by
 unfold exmOne at e ⊢
 split at e
 ·rename_i z
  rw[if_pos (by rw[Vd s (bI.mp z)];rfl)];exact Y0 s e
 simp_all
theorem A1d (s:Ks K K'){n:Addr}(e:nsOkIn K n=true):nsOkIn K' n=true:=by
 unfold nsOkIn at e ⊢
 split at e
 ·rename_i a;rw[s _ _ a];grind
 trivial
theorem Ze (s:Ks K K'){b:w6}:∀{l:w6},tailIn K b l=true->tailIn K' b l=true
 | [],e=>e
 | v::l,e=>by
  unfold tailIn at e ⊢
  rcases fX.mp e with q | q
  ·rw[q];rfl
  ·refine Bool.or_eq_true_iff.mpr (.inr ?_)
   split at q
   ·split at q
    ·rename_i ho
     rw[s _ _ ho];simp only[bC,bI]at q ⊢;exact⟨⟨A1d s q.1.1,Q6 s q.1.2⟩,Ze s q.2⟩
    ·cases q
   ·cases q
theorem Af7 (s:Ks K K'){C:Addr}(e:Yq K C=true):Yq K' C=true:=by
 unfold Yq at e ⊢
 split at e
 ·rename_i a
  rw[s _ _ a]
  simp at e ⊢
  refine⟨⟨e.1.1,?_⟩,e.2⟩
  have q:=e.1.2
  split at q
  ·simp at q ⊢
   exact⟨q.1,Ze s q.2⟩
  ·cases q
 ·cases e
theorem B1g (s:Ks K K'){C:Addr}(e:exP K C=true):exP K' C=true:=by
 obtain⟨c,a⟩:=au.mp e
 refine au.mpr ⟨Af7 s c,?_⟩
 unfold noI at a ⊢
 cases ho:K.lookup C with
 | none=>simp_all
 | some o =>
  rw[s _ _ ho];rw[ho]at a
  dsimp only at a ⊢
  split at a
  ·obtain⟨d,b⟩:=au.mp a
   exact au.mpr ⟨A1d s d,beq_iff_eq.mpr (Q6 s (bI.mp b))⟩
  trivial
theorem A5r (s:Ks K K'){C:Addr}(e:xcB K C=true):K7 K' C:=by
 unfold xcB at e
 simp at e
 exact⟨Af7 s e.1,Hc s e.2.1,Hc s e.2.2.1,Hc s e.2.2.2⟩
theorem Lr (s:Ks K K'){x:Str}{p:Addr->Bool}(e:clB K x p=true):∃C,nsIn K' mainGlobals x=some (some (.ref C))/\p C=true:=by
 unfold clB at e
 split at e
 ·rename_i C h;exact⟨C,Q6 s h,e⟩
 trivial
theorem Ao7 (s:Ks K K'){z:Value}:∀{tbl:List (Str×Bool)},tbB K z tbl=true->TbOk K' z tbl
 | [],_=>.nil
 | (x,b)::tbl,e=>by
  obtain⟨e1,e2⟩:=au.mp e;obtain⟨C,n,q⟩:=Lr s e1;obtain⟨q1,q2⟩:=au.mp q;exact .cons n (A5r s q1) (A1w s (bI.mp q2)) (Ao7 s e2)
theorem Aw6 (s:Ks K K'){F:Addr}:∀{NS:v4},exB K F NS=true->ExOk K' F NS
 | [],_=>.nil
 | x::NS,e=>by
  obtain⟨e1,e2⟩:=au.mp e;obtain⟨C,n,q⟩:=Lr s e1;exact .cons n (Zd s (bI.mp q)) (Aw6 s e2)
def A3r (R:v4)(T:List (Str×List (Str×Bool)))(V:List (Str×Bool))(F:v4)(h:Heap):Prop:=∃K:Frag,cfB R T V F K=true/\∀a o,K.lookup a=some o->h.get? a=some o/\By8 o=true
variable {R:v4}{T:List (Str×List (Str×Bool))}{V:List (Str×Bool)}{F:v4}{h h':Heap}{mg:x_}
theorem B3r {l:List Nat}(e:cfB R T V F (Bn3 l h)=true):A3r R T V F h:=⟨Bn3 l h,e,λa o q=>by
 unfold Bn3 at q;rw[Mp]at q
 split at q
 ·obtain⟨c,d,b⟩:=bc.mp q
  grind
 grind⟩
theorem A5o (x:A3r R T V F h)(hk:∀b o,h.get? b=some o->h'.get? b=some o):A3r R T V F h' :=
 let ⟨K,e,q⟩:=x; ⟨K,e,λa o z=>⟨hk _ _ (q a o z).1,(q a o z).2⟩⟩
theorem Bm6 (x:A3r R T V F h)(b:K.In h)(G:h.Ns mainGlobals mg)(g:∀a o,h.get? a=some o->Fg o=true->o.data≠.fields #[]->K.lookup a=some o) :
 (∀(i:Nat) (x:Str),R[i]?=some x->ClR K mg x)/\(∀(i:Nat) (q:Str×List (Str×Bool)),T[i]?=some q->ClT K mg q.2 q.1)/\TbOk K (.type "ValueError") V/\∀(i:Nat) (x:Str),F[i]?=some x->ClF K mg R x:=by
 obtain⟨r,e,q⟩:=x
 have s := λa o z=>by
  obtain⟨l,c⟩:=q a o z;unfold By8 at c
  refine g a o l ?_ ?_
  ·unfold Fg;split at c <;> simp_all
  ·intro y;rw[y]at c;cases c
 obtain⟨k,f⟩:=au.mp e;obtain⟨f,d⟩:=au.mp f;obtain⟨d,j⟩:=au.mp d
 refine⟨λi x m=>?_,λi p m=>?_,Ao7 s d,λi x m=>?_⟩
 ·obtain⟨C,n,z⟩:=Lr s (aL.mp k x (bG m))
  exact⟨C,mg_of b G n,n,B1g s z⟩
 ·obtain⟨C,n,z⟩:=Lr s (aL.mp f p (bG m))
  exact⟨C,mg_of b G n,Ao7 s z⟩
 ·obtain⟨C,n,z⟩:=Lr s (aL.mp j x (bG m))
  exact⟨C,mg_of b G n,Aw6 s z⟩
end
section
variable {X:Cx}{k:Nat}{x y n v:Str}{p pos epos yp hpos vp:Pos}{e:Expr}{t:TA}{Fc:Addr}{b₀:Stmt}{suite:List Stmt}{th:TS}{j i:Nat}
def PX (X:Cx)(e:Expr)(t:St->Hp->VK->XK->Prop):Prop :=
 ∀(pins:y_) (s:u_) (σ:St) (H:Hp) (Q:VK) (E:XK),Inv X pins σ H s->t σ H Q E->wpAny (model X.prog X.w) X.A (eval e X.env) (EP X pins σ Q) (λev s'=>∃H1 s1,Inv X pins σ H1 s1/\CXe X.prog X.w X.stack H1 s1 E ev s') s
theorem Bg7 {r:St->Hp->VK->XK->Prop}(hp:PX X e r)
 (p:X.ex=[]) (hs:X.stack=X.env::X.outer/\X.env.frame=some X.env.locals) (hN:X.N.Nodup) (hi:X.N[i]?=some v) (hv:Loc X.env.scope v) (hj:X.N[j]?=some n) (l:X.env.scope.names.lookup n=some .local) (hg:Gl X y) (hm:X.mg y=some (.ref Fc)) (m:∀a,PSs (Ru X a) (b₀::suite) th)
 (hsw:swapsWith e (some (.Name v vp)) epos.line X.env=pure false) (k:(y==("__debug__" : Str))=false) (B:X.fn v=true\/X.env.scope.names.lookup v=some .local) :
 PS X (.Try [.Assign [.Name v vp] e epos] [.ExceptHandler (some (.Name y yp)) (some n) (b₀::suite) hpos] [] [] pos) (λD g H=>r g H (λu f=>D.nx (g.set i (some u)) f)
  (λc d f=>∃C,c=.ref C/\exmOne X.K c (.ref Fc)=some true/\∀a,f a=none->th { nx:=λo x=>D.nx (o.set j none) x,rt:=D.rt } (g.set j (some (.ref a))) (upd f a (X6 a C d)))):=by
 intro t s g H D I h
 refine wpAny_Try_except (wpAny_execs_cons (wpAny_Assign_Name ?_ hsw))
 refine wpAny_mono (hp _ s _ H _ _ I h) (λu z ⟨L,w,q,E,A⟩=>?_) λN K ⟨w,z,q,F⟩=>?_
 ·exact Gw q hN hi hv E (λM G=>wpAny_execs_nil (wpAny_execs_nil ⟨_,w,G,A⟩)) B
 ·exact A3a p hs hN hj l hg hm m q F λC d f ⟨O,P,Q,J⟩=>by grind k
end
end L2
namespace U
open PySem L2
end U
namespace L2
open PySem PySem.Spec PyProof.Rows PySem.W
def Zx (K:v9):m8->Hp->VK->Prop:=λxs H Q=>∃(a C p:Addr) (d:Option Addr) (cs:v6) (b:Bool),xs=[.ref a,.ref p]/\H a=some (X6 a C d)/\K7 K C/\H p=some (.tup (cs.map V.ref))/\kitAny K (.ref C) (cs.map Value.ref)=some b/\Q (.bl b) H
theorem Zj:∀{cs:v6}{us:w6},Vals (cs.map V.ref) us->us=cs.map Value.ref
 | [],us,h=>by cases h;rfl
 | c::cs,us,h=>by
  cases h with
  | cons r t=>rw[Zj t,show _=Value.ref c from r];rfl
section
variable {X:Cx}
theorem Av0:zB X (.builtin "isinstance") (Zx X.K):=by
 intro c s σ H xs us Q I r h;obtain⟨a,C,p,d,cs,b,rfl,j,Z,k,l,q⟩:=h;obtain⟨u1,u2,rfl,f,m⟩:=vals2 r
 cases (f)
 cases (m)
 have i := I.hok a _ j;obtain⟨_,g,u,o,v,t,⟨n,w⟩,_⟩:=I.hok p _ k
 cases Zj u
 obtain⟨x,dd,e,sl⟩:=o;subst t w
 exact kia_tup (An5 Z) I.kIn i.1 v l (λz=>nomatch z) λtk=>⟨.bl b,H,I.tok _,rfl,q⟩
theorem A7h {e:Expr}{es:v_}{t:TA}{p b:Pos}{Kq:v9}(a:X.K=Kq)(hgl:Gl X "isinstance") (hm:X.mg "isinstance" = none) (ha:QA X (e::es) t) (hn:noStar (e::es)=true:=by rfl):QE X (.Call (.Name "isinstance" p) (e::es) [] b) (tCB (Zx Kq) t):=by
 subst a
 exact⟨Eo Av0 hgl hm Ht ha.get (by decide) (by rfl) hn⟩
end
def Am7 (K:v9)(gs:v6)(tbl:List (Str×Bool)):Prop:=∀nm b,tbl.lookup nm=some b->∀C,PySem.W.nsIn K mainGlobals nm=some (some (.ref C))->K7 K C/\kitAny K (.ref C) (gs.map Value.ref)=some b
theorem Bm5 {K:v9}{g:Addr}{a:List (Str×Bool)}(h:TbOk K (.ref g) a):Am7 K [g] a:=λd b e C c=>by
 obtain⟨x,k⟩:=h _ b e C c
 refine⟨x,?_⟩
 show (match kitOne K _ _ with
  | some true=>some _
  | some false=>some _
  | none=>none)=some b
 grind
noncomputable def orT:List (Str×Bool)->List (Str×Bool)->List (Str×Bool)
 | (n,b)::r,(_,c)::s=>(n,b||c)::orT r s
 | _,_=>[]
theorem Al3:∀{t u:List (Str×Bool)}{nm:Str}{b:Bool},t.map (·.1)=u.map (·.1)->(orT t u).lookup nm=some b->∃x y,t.lookup nm=some x/\u.lookup nm=some y/\b=(x||y)
 | [],_,nm,b,_,e=>by cases e
 | _::_,[],nm,b,_,e=>by cases e
 | (n,x)::t,(m,y)::u,nm,b,h,e=>by
  rw[aG,aG]at h;obtain⟨h1,h2⟩:=List.cons.inj h
  cases (show n=m from h1)
  rw[aN,aN]
  rw[show orT ((n,x)::t) ((n,y)::u)=(n,x||y)::orT t u from rfl,aN]at e
  cases q:nm==n with
  | true=>rw[q]at e;cases e;exact⟨x,y,rfl,rfl,rfl⟩
  | false=>rw[q]at e;exact Al3 h2 e
theorem Np {K:v9}{g:Addr}{gs:v6}{t u:List (Str×Bool)}(h:TbOk K (.ref g) t)(hs:Am7 K gs u)(e:t.map (·.1)=u.map (·.1)):Am7 K (g::gs) (orT t u):=λm b d C a=>by
 obtain⟨x,y,f,c,i⟩:=Al3 e d;obtain⟨j,k⟩:=h _ x f C a;obtain⟨_,l⟩:=hs _ y c C a
 refine⟨j,?_⟩
 show (match kitOne K _ _ with
  | some true=>some _
  | some false=>kitAny K _ _
  | none=>none)=_
 grind
end L2
namespace U
open PySem L2 PySem.W
variable {K:v9}
noncomputable def tCs:v6->TA
 | []=>Eu
 | g::gs=>Bt (tC (.ref g)) (tCs gs)
theorem A8n {σ:St}:∀{gs:v6}{H:Hp}{k:m8->Hp->Prop},k (gs.map V.ref) H->tCs gs σ H k
 | [],_,_,h=>h
 | g::gs,H,k,h=>A8n (gs:=gs) (k:=λvs H1=>k (V.ref g::vs) H1) h
theorem An9 {m:TE}{f:n8}{gs:v6}{i:List (Str×Bool)}(ht:Am7 K gs i)(h:ME K m f)(hl:gs.length<=1000:=by simp) :
 ME K (tCB (Zx K) (Bt m (Bt (A8t (tCs gs)) Eu))) (Qh i f):=by
 intro D W c F Q R s
 refine h _ W c _ _ R (s.bnd.mono λp B g E G t l j w=>?_)
 cases ed:rdP B p with
 | none=>simp only[ed]at g;trivial
 | some o =>
  simp only[ed]at g
  match o,ed,g with
  | .ty (.xc nm),ed,g =>
   cases el:i.lookup nm.n with
   | none=>simp only[el]at g;trivial
   | some b =>
    simp only[el]at g;obtain⟨a,C,d,e,r,n⟩:=A0t j w ed;subst e;obtain⟨y,x⟩:=ht _ b el C r.ns
    refine A8n ⟨by rw[ao];exact aj hl (by decide),λq A=>?_⟩
    have k:Same _ (upd _ q (.tup (gs.map V.ref))):=λb u e=>Cu A b u e
    refine⟨a,C,q,d,gs,b,rfl,k _ _ (j.sub _ _ n),y,Bd,x,?_⟩
    have v := Stp.rep j (Ol k) λa o e=>k a o (j.sub a o e)
    exact g _ _ _ ((l.trans (Ol k)).less λa z=>by
     rcases z with z | z
     ·exact .inl z
     ·cases z) v ⟨⟨rfl,rfl⟩,λa z=>nomatch z⟩
  | .ty (.nm _),ed,g=>trivial
  | .ty (.tc _),ed,g=>trivial
  | .ty (.dc _ _),ed,g=>trivial
  | .ty (.dt _ _),ed,g=>trivial
  | .ty (.ds _ _),ed,g=>trivial
  | .ty (.td _ _ _),ed,g=>exact g.elim
  | .im _,ed,g=>exact g.elim
  | .ls _ _,ed,g=>exact g.elim
  | .sc _,ed,g=>trivial
section
variable {K:v9}{E:XK}
theorem Rn {F:w5->XF}{t:TA}{i:n6}(ha:MA K t i):ME K (Le (spX K F) [] E t) (cFY F i):=by
 intro β W c σ Q R s
 show t _ _ _
 simp
 refine ha _ W c _ _ R (s.bnd.mono λx w b vs l n g p=>?_)
 cases ea:Ov w x with
 | none=>simp only[ea]at b;trivial
 | some u =>
  simp only[ea]at b
  refine⟨l.Hf,u,g.sub,Ot g p ea,?_⟩
  split at b
  ·rename_i d m
   rw[m];intro v k H' fp f h r;obtain⟨rfl,y⟩:=r
   exact b v _ _ ((n.trans ⟨f.fz,λa o e _=>f.kp a o e λz=>z,λa o e j _ q=>f.nf a o e j (λz=>z) q,λa z=>.inl z⟩).less λa z=>Oo z) (Stp.rep g f h) ⟨⟨rfl,y⟩,λa z=>nomatch z⟩
  trivial
def Lp (F:w5->XF)(fa:n6)(vs:List Nat)(f:Ev->SR):Ev->XS:=λc=>match fa c with
 | .bad=>.s .bad
 | .ok ps c1=>match Ov c1 ps with
  | none=>.s .bad
  | some ds=>match F ds with
   | .ex nm=>if vs.all (λi=>match c[i]? with | some (some _)=>true | _=>false) then .ex nm c1 else .s .bad
   | _=>.s (f c)
theorem Ah8 {F:w5->XF}{t:TA}{b:n6}{vs:List Nat}{T:TS}{f:Ev->SR}(ha:MA K t b)(hm:MS K T f)
 (hx:∀(a:St) (H:Hp) (D:Ends),(∀i∈vs,∃v,a[i]?=some (some v))->(∀Q,Le (spX K F) [] E t a H Q)->T D a H):MX K E T (Lp F b vs f):=by
 intro k W c a D R l;unfold Lp at l
 cases e:b c with
 | bad=>rw[e]at l;exact l.elim
 | ok j g =>
 rw[e]at l
 cases ea:Ov g j with
 | none=>simp only[ea]at l;exact l.elim
 | some m =>
 simp only[ea]at l
 cases ef:F m with
 | bad=>simp only[ef]at l;exact hm _ W c _ D R l
 | ret o=>simp only[ef]at l;exact hm _ W c _ D R l
 | ex A =>
  simp only[ef]at l
  split at l
  ·rename_i q
   refine hx _ _ D (λi r=>?_) λQ=>?_
   ·have:=aL.mp q i r
    split at this
    ·rename_i o s
     obtain⟨v,u,_⟩:=R.get i o s;exact⟨v,u⟩
    ·cases this
   ·have p:LeadX K k W D E (Tu F b (λ_ _=>.s .bad) (λn c=>.ex n c) c):=by
     unfold Tu
     simp_all
    have:=Q9 (Q:=Q) ha R p (λ_ _ _ _ _ _ z _=>z.elim) (λn g B C d w y x h=>x C d _ _ h w y)
    show t _ _ _
    simp_all
  ·exact l.elim
end
theorem A0x {X:Cx}{x:Str}{k c:Nat}{ps:v4}{sp:Sp}{E:XK}{e:Expr}{es:v_}{t:TA}{p a:Pos}(hx:Hi (CXe X.prog X.w) X E)(D:DefX X.prog X.w X.K X.mg X.base x k ps sp)(hr:Room c X.A)(ha:QA X (e::es) t)(h:k<=c:=by lia)(hg:Gl X x:=by rfl)
 (hdb:(x==("__debug__" : Str))=false:=by decide) (hn:noStar (e::es)=true:=by rfl):QE X (.Call (.Name x p) (e::es) [] a) (Le sp [] E t):=by
 obtain⟨f,g,G,b,d,m⟩:=D;exact Fp G (hr.mono h) hg m d b .nil hx ha hdb hn
end U
namespace L2
open PySem PySem.Spec PyProof.Rows PySem.W
section
variable {P:u6}{w:World}{K:v9}{mg:x_}{base:Heap}{N':v4}{scope:Scope}{cl:List (Str×Addr)}{qual:Str}{f:Addr}{cv:Value}{A1:q9}{stk:List Env}{s:u_}{H:Hp}{E:XK}
def A0p (P:u6)(w:World)(K:v9)(mg:x_)(base:Heap)(N':v4)(scope:Scope)(cl:List (Str×Addr))(qual:Str)(f:Addr)(cv:Value)(A1:q9)(stk:List Env)(s:u_)(H:Hp)(E:XK):Cx :=
 {
  prog:=P,w:=w,K:=K,mg:=mg,base:=base,A:=A1.deeper (envX qual scope s.heap.objs.size f cv cl),N:=N',s₀:=s,H₀:=H,env:=envX qual scope s.heap.objs.size f cv cl,outer:=stk,stack:=envX qual scope s.heap.objs.size f cv cl::stk,
  ex:=[],fn:=λ_=>false,calm:=true,pn:=[],xe:=λe s'=>wpAny (model P w) (A1.deeper (envX qual scope s.heap.objs.size f cv cl)) (leaving (envX qual scope s.heap.objs.size f cv cl) e) (λ_ s''=>CXe P w stk H s E e s'') (λe' s''=>CXe P w stk H s E e' s'') s' }
theorem U7:Hi (CXe P w) (A0p P w K mg base N' scope cl qual f cv A1 stk s H E) E:=by
 intro t σ H1 D e y I h;obtain⟨a,C,d,v,rfl,⟨⟨B,A,m⟩,J,O⟩,x,c,u,j,q⟩:=h
 refine An4 I.ok.frames rfl A λG g F=>?_
 have n:Inv _ _ _ _ { y with heap:=G }:=I.flown u j x c A.ff m g.1 F
 have L:∀b o,s.heap.get? b=some o->∃r,D.heap.get? b=some _:=λb o e=>I.base.there b o e λz=>nomatch z
 refine⟨a,C,d,v,rfl,⟨⟨B,g,λb o e hf l=>?_⟩,λb o e=>?_,O⟩,x.trans I.os,c,n.base,n.hok,q⟩
 ·have nl:b≠s.heap.objs.size:=by
   rintro rfl
   rcases l with ⟨M,k⟩ | l
   ·exact absurd (Heap.lt_size k) (aY _)
   ·exact l n.free
  have p:b∉frs _:=λz=>by
   rcases az.mp (I.stkSub b z) with q | q
   ·trivial
   trivial
  have i:∃r,y.heap.get? b=some r:=by
   rcases l with ⟨M,k⟩ | l
   ·obtain⟨o1,N⟩:=L b _ k
    exact u.there b _ N λz=>nomatch z
   ·cases q':v b with
    | none=>grind
    | some ho=>exact(j b _ q').there
  obtain⟨r,k⟩:=i
  have:=m b _ k p (by
   grind)
  have e2:=g.1 b _ this
  simp_all
 grind
variable {X:Cx}{pins:y_}{σ:St}
theorem Bi5 {idx:o4}{h₁:Heap}{t':Nat}(L:Uy X N' idx scope)(hd:A1.handled=none)(I:Env0 P w K mg base A1 stk s H)(J:Inv X pins σ H s)
 (c1:∀x c,cl.lookup x=some c->X.env.cells.lookup x=some c/\(x,NameKind.free)∈scope.names) (c2:∀x,(x,NameKind.free)∈scope.names->∃c,cl.lookup x=some c)
 (k:∀b o,s.heap.get? b=some o->h₁.get? b=some o) (hn:h₁.Ns s.heap.objs.size (λy=>([]:List (Str×Value)).reverse.lookup y)) :
 Inv (A0p P w K mg base N' scope cl qual f cv A1 stk s H E) [] (cst idx σ) H { s with heap:=h₁,toks:=t' } where
 ok:={
  mod:=I.mod,kind:=L.kind,glob:=rfl,blt:=rfl,above:=ak _,inj:=λy z c e1 e2=>J.ok.inj y z c (c1 y c e1).1 (c1 z c e2).1
  has:=λy h=>by
   have h':scope.names.lookup y=some .cell\/scope.names.lookup y=some .free:=h
   rcases h' with h | h
   ·exact absurd rfl (L.cell _ (lookup_mem h))
   ·exact c2 y (lookup_mem h)
  cab:=(λy c z=>nomatch z),hd:=λ_=>hd,frames:=Around.frames_deeper I.frames,stk:=.inr ⟨rfl,rfl⟩,exf:=(λb z=>nomatch z),bs:=I.bs,bsz:=I.bsz,noex:=(λ_ _ _ z=>nomatch z),exfs:=(λ_ z=>nomatch z)
  funs:=I.funs,frf:=I.frf,tab:=I.tab }
 os:=rfl
 bare:=I.bare
 base:=Un.kept k
 loc:=by
  refine⟨_,hn,λj y w e1 e2 e3=>?_⟩
  obtain⟨m0,hn0,hl⟩:=J.loc
  have e2':(idx.map λo=>o.bind λi=>(σ[i]?).join)[j]?=some (some w):=e2
  rw[bH]at e2'
  cases ei:idx[j]? with
  | none=>rw[ei]at e2';cases e2'
  | some o =>
   rw[ei]at e2';simp only[b_,fJ]at e2'
   cases o with
   | none=>cases e2'
   | some i =>
    have e2'':(σ[i]?).join=some w:=e2';obtain⟨hNi,hfr⟩:=L.at' j i y e1 ei
    have hσ:σ[i]?=some (some w):=by
     cases q:σ[i]? with
     | none=>rw[q]at e2'';cases e2''
     | some z=>rw[q]at e2'';rw[show z=some w from e2'']
    have hk:=L.free _ (lookup_mem hfr) rfl
    have hvis:Vis X.env.scope y:=by
     rcases hk with z | z
     ·exact .inr (.inl z)
     ·exact .inr (.inr z)
    obtain⟨u',r',lk⟩:=hl i y w hNi hσ hvis
    refine⟨u',r',.inr ⟨.inr hfr,?_⟩⟩
    rcases lk with ⟨z,_⟩ | ⟨_,c,hc,hcl⟩
    ·exfalso
     have z':X.env.kindOf y=some .local:=z
     rcases hk with q | q
     ·rw[show X.env.kindOf y=_ from q]at z';cases z'
     ·rw[show X.env.kindOf y=_ from q]at z';cases z'
    ·obtain⟨c',hc'⟩:=c2 y (lookup_mem hfr)
     have ec:c'=c:=bV ((c1 y c' hc').1.symm.trans hc);obtain⟨oc,g1,g2⟩:=hcl
     exact⟨c',hc',oc,by rw[ec];exact k _ _ g1,g2⟩
 cell:=λy c e=>by
  obtain⟨w,oc,g1,g2⟩:=J.cell y c (c1 y c e).1;exact⟨w,oc,k _ _ g1,g2⟩
 free:=I.hok.fresh (ak _)
 freeC:=λy c e=>J.freeC y c (c1 y c e).1
 pin:=λp hp=>nomatch hp
 hok:=I.hok.kept k
 len:=by
  show (idx.map _).length=N'.length
  rw[ao];exact L.len
theorem Bj1 {k:Nat}{idx:o4}{a:Arguments}{body:Expr}{v j:Value}{u:TE}{Q:VK}(L:Uy X N' idx scope)(n:scope.isCoroutine=false)(i:scope.isGenerator=false)
 (g:bindArgs (kla_fn "<lambda>" qual a body scope cl v cv j) ⟨[],[]⟩=pure []) (hr:Room (k+1) A1)
 (hb:QE (A0p P w K mg base N' scope cl qual f cv A1 stk s H E) body u) (I:Env0 P w K mg base A1 stk s H) (J:Inv X pins σ H s) (ho:s.heap.get? f=some (Ap1 qual a body scope cl v cv j)) (p:s.heap.CodeRec cv qual)
 (c1:∀x c,cl.lookup x=some c->X.env.cells.lookup x=some c/\(x,NameKind.free)∈scope.names) (c2:∀x,(x,NameKind.free)∈scope.names->∃c,cl.lookup x=some c) (h:u (cst idx σ) H Q) :
 codeAny (model P w) A1 (.call (.ref f) ⟨[],[]⟩) (CR (CXe P w) stk P w H s Q E) s:=by
 refine kla_callFunE hr.depth ho rfl n i rfl p ?_
 rw[g]
 refine wpAny_pure (wpAny_newFunctionEnv L.cell (λy B=>nomatch B) (λA m r=>?_) L.kind)
 have d := λb o e=>r.extBut b o (aD (Heap.lt_size e)) (Heap.get?_push_of_some _ e)
 have t := I.mod.nolimit.keeps λb o e=>(I.bs b o e).1
 refine⟨t.keeps d,?_⟩
 have C:=Bi5 (qual:=qual) (f:=f) (cv:=cv) (E:=E) (t':=s.toks+([]:List (Str×Value)).length) L hr.hd I J c1 c2 d m
 refine kla_codeExpr (wpAny_mono (hb.get _ _ _ H Q C h) (λO N G=>?_) λ_ _ z=>z)
 obtain⟨F,D,l,M,q⟩:=G;exact⟨F,D,l.os,l.bare,l.base,l.hok,M,q⟩
end
def B0e (P:u6)(w:World)(K:v9)(mg:x_)(base:Heap)(A:q9)(outer:List Env)(s:u_)(H:Hp)(fl:Addr)(te:Hp->VK->XK->Prop):Prop :=
 ∀
  (env:Env) (s':u_) (H':Hp) (Q':VK) (E':XK),Env0 P w K mg base (A.deeper env) (env::outer) s' H'->Un (frs outer) [] H H' s.heap s'.heap->s'.os=s.os->te H' Q' E' ->
  FnAt fl s'.heap/\codeAny (model P w) (A.deeper env) (.call (.ref fl) ⟨[],[]⟩) (CR (CXe P w) (env::outer) P w H' s' Q' E') s'
def B5w (K:v9)(Fc:Addr)(spr:Sp)(Q:VK):XK:=λc d H3=>∃C,c=.ref C/\exmOne K c (.ref Fc)=some true/\∀a,H3 a=none->spr [.non,.ref a] (upd H3 a (X6 a C d)) Q E0
def Aq4 (te:Hp->VK->XK->Prop):Prop:=∀(H:Hp) (Q Q':VK) (E E':XK),(∀v H,Q v H->Q' v H)->(∀c m H,E c m H->E' c m H)->te H Q E->te H Q' E'
def Told (P:u6)(w:World)(K:v9)(mg:x_)(base:Heap)(x:Str)(k:Nat)(Fc:Addr)(spr:Sp):Prop :=
 ∃
  f:Addr,PySem.W.keepIn K (.ref f)=true/\mg x=some (.ref f)/\∀(A:q9) (outer:List Env) (s:u_) (H:Hp) (fl:Addr) (te:Hp->VK->XK->Prop) (Q:VK),Room k A->Env0 P w K mg base A outer s H->Aq4 te->B0e P w K mg base A outer s H fl te ->
  (∀H1,Same H H1->te H1 (λu H3=>spr [u,.non] H3 Q E0) (B5w K Fc spr Q))->codeAny (model P w) A (.call (.ref f) ⟨[.ref fl],[]⟩) (CR CX0 outer P w H s Q E0) s
section
variable {P:u6}{w:World}{K:v9}{mg:x_}{base:Heap}
theorem Inv.tail {X:Cx}{a:y_}{o:Option V}{b:St}{H:Hp}{s:u_}{n:Str}{N:v4}(hN:X.N=n::N)(I:Inv X a (o::b) H s):Inv { X with N:=N } a b H s:=by
 obtain⟨m,d,e⟩:=I.loc
 refine⟨⟨I.ok.mod,I.ok.kind,I.ok.glob,I.ok.blt,I.ok.above,I.ok.inj,I.ok.has,I.ok.cab,I.ok.hd,I.ok.frames,I.ok.stk,I.ok.exf,I.ok.bs,I.ok.bsz,I.ok.noex,I.ok.exfs,I.ok.funs,I.ok.frf,I.ok.tab⟩,I.os,I.bare,I.base,⟨m,d,λi x v g f c=>e (i+1) x v (by grind) f c⟩,I.cell,I.free,I.freeC,I.pin,I.hok,?_⟩
 have:=I.len
 simp_all
theorem Bp0 {k:Nat}{x l v c2 n y:Str}{M:v4}{st:Stmt}{f Fc:Addr}{fd:u5}{Z:Sp}{vp cp G L yp U T ap bp D:Pos}
 (F:Fun K x x st f fd) (S:Bc (l::v::c2::n::M) [l] (Aj st)) (hb:Binds K fd [l] []) (hm:mg x=some (.ref f)) (hy:mg y=some (.ref Fc))
 (h1:∀(g:Value) (A:q9) (d:List Env) (s:u_) (H:Hp),QS (Jk CX0 P w K mg base (l::v::c2::n::M) x (Aj st) f g A d s H E0).nox ((Dr st).headD (.Pass ⟨0,0,0,0⟩)) (Ym (A8t (Bt (tC .non) (Bt (tC .non) Eu))) (A9m K 2 (Yu (J5 1) (Yu (J5 2) Bs0)))))
 (N:∀(g:Value) (A:q9) (d:List Env) (s:u_) (H₀ H:Hp) (vs:m8) (Q:VK) (E:XK),Room k (A.deeper (envOfC x (Aj st) s.heap.objs.size f g))->Z vs H Q E ->
  ∃t,PSs (Jk CX0 P w K mg base (v::c2::n::M) x (Aj st) f g A d s H₀ E).nox ((Dr st).drop 2) t/\t { nx:=λ_ B=>Q .non B,rt:=Q } (start (v::c2::n::M) vs) H)
 (hst:Dr st=(Dr st).headD (.Pass ⟨0,0,0,0⟩)::.Try [.Assign [.Name v vp] (.Call (.Name l cp) [] [] G) L] [.ExceptHandler (some (.Name y yp)) (some n) [.Assign [.Name c2 ap] (.Name n bp) D] U] [] [] T::(Dr st).drop 2:=by rfl)
 (hg:(Aj st).names.lookup y=some .globalImplicit:=by rfl) (lv:(Aj st).names.lookup v=some .local:=by rfl) (l2:(Aj st).names.lookup c2=some .local:=by rfl) (ln:(Aj st).names.lookup n=some .local:=by rfl) (lc:(Aj st).names.lookup l=some .local:=by rfl)
 (hsw:∀R,swapsWith (.Call (.Name l cp) [] [] G) (some (.Name v vp)) L.line R=pure false:=by exact λ_=>rfl) (hsw2:∀R,swapsWith (.Name n bp) (some (.Name c2 ap)) D.line R=pure false:=by exact λ_=>rfl)
 (d1:(l==("__debug__" : Str))=false:=by decide) (d2:(n==("__debug__" : Str))=false:=by decide) (d3:(y==("__debug__" : Str))=false:=by decide) (d4:(l==("__classdict__" : Str))=false:=by decide) (d5:(n==("__classdict__" : Str))=false:=by decide):Told P w K mg base x (k+1) Fc Z:=by
 obtain⟨oc,od,kV,doc,pm,an,g,ct,osl,rfl,lk,hcd⟩:=F.ex
 refine⟨f,F.kp,hm,λA d s H O te Q hr e0 hmo ht q=>?_⟩
 have KX:K.In s.heap:=e0.mod.kin.keeps λb o e=>(e0.bs b o e).1
 have lim:s.heap.NoLimit:=e0.mod.nolimit.keeps λb o e=>(e0.bs b o e).1
 have W:∀y∈[l].zip [Value.ref O],(Aj st).names.lookup y.1=some .local\/((Aj st).names.lookup y.1=some .cell/\((cellsFrom (s.heap.objs.size+1) (Aj st).names []).lookup y.1).isSome=true):=λ⟨n,v⟩ hy=>by
  cases aJ.mp hy
  exact .inl lc
 refine codeAny_call_function hr.depth (KX _ _ lk) rfl S.co S.gen rfl (PySem.W.codeRec_of KX hcd) (hb s [.ref O] KX rfl _ _ _ _ ?_)
 refine wpAny_newFunctionEnv_cells S.kind W λR he Y xx=>?_
 subst he
 refine⟨lim.keeps xx.toInCall.keep,codeAny_func ?_⟩
 have I0:Inv (Jk CX0 P w K mg base (l::v::c2::n::M) x (Aj st) f g A d s H E0) [] (start (l::v::c2::n::M) [.ref O]) H Y:=Y4 S hr.hd e0 rfl (.cons rfl .nil) xx;have I:Inv (Jk CX0 P w K mg base (l::v::c2::n::M) x (Aj st) f g A d s H E0).nox [] (some (.ref O)::none::none::none::List.replicate M.length none) H Y:=I0.wish _;have hr2:=hr.deeper (envOfC x (Aj st) s.heap.objs.size f g)
 refine wpAny_mono (Q:=SP (Jk CX0 P w K mg base (v::c2::n::M) x (Aj st) f g A d s H E0).nox [] { nx:=λ_ B=>Q .non B,rt:=Q }) (E:=λ_ _=>False) ?_ (λfw s' hs=>?_) λ_ _ z=>z.elim
 ·generalize hB:(Dr st).headD (.Pass ⟨0,0,0,0⟩)=s1 at hst h1
  generalize hC:(Dr st).drop 2=rest at hst N
  show wpAny _ _ (execs (Dr st) _) _ _ _
  rw[hst]
  refine wpAny_execs_cons (thn ((h1 g A d s H).get [] Y _ H { nx:=λh B=>h=some (.ref O)::some .non::some .non::none::List.replicate M.length none/\Same H B,rt:=λ_ _=>False } I ⟨by show 2<=sizeLine;decide,λp hp=>⟨p,_,rfl,SqT.of Bd,rfl,.non,_,rfl,.non,_,rfl,rfl,rfl,λb u e=>by rw[Ak (Ay e hp)];exact e⟩⟩) λfw s2 q2=>?_)
  cases fw with
  | ret _=>obtain⟨_,_,_,_,_,z⟩:=q2;exact z.elim
  | brk=>obtain⟨_,_,_,z⟩:=q2;exact z.elim
  | cont=>obtain⟨_,_,_,z⟩:=q2;exact z.elim
  | next =>
  obtain⟨σ2,X,I2,rfl,sm⟩:=q2
  have hpx:PX (Jk CX0 P w K mg base (l::v::c2::n::M) x (Aj st) f g A d s H E0).nox (.Call (.Name l cp) [] [] G) (λσ B Q' E'=>σ[0]?=some (some (.ref O))/\te B Q' E'):=by
   intro pins s' h B Q' E' I' ⟨e1,q1⟩
   refine wpAny_Call_Name_kw ?_
   refine wpAny_mono (Aq5 (i:=0) rfl (Or.inl lc) d1 d4 pins s' h B (λv X=>v=.ref O/\X=B) I' ⟨_,e1,rfl,rfl⟩) (λu s2 ⟨v,X,I2,r,hv,hH⟩=>?_) (λ_ _ z=>z.elim)
   subst hv hH
   cases (show u=Value.ref O from r)
   obtain⟨fa,run⟩:=ht _ s2 X Q' E' I2.env0 I2.base I2.os q1
   refine callWith_F0 fa (wpAny_call (codeAny_mono run λr s3 hq=>?_))
   cases r with
   | error ev=>exact⟨X,s2,I2,hq⟩
   | ok O =>
    cases O with
    | ret u=>exact I2.after hq
    | next=>exact False.elim hq
    | brk=>exact False.elim hq
    | cont=>exact False.elim hq
  have su:∀a,PSs (Ru (Jk CX0 P w K mg base (l::v::c2::n::M) x (Aj st) f g A d s H E0).nox a) [.Assign [.Name c2 ap] (.Name n bp) D] (Ym (Qx 3) (J5 2)):=λa=>A1f (A9h S.nd rfl (Or.inl l2) (Aq5 rfl (Or.inl ln) d2 d5) (hsw2 _) (.inl rfl))
  have tr:PS (Jk CX0 P w K mg base (l::v::c2::n::M) x (Aj st) f g A d s H E0).nox (.Try [.Assign [.Name v vp] (.Call (.Name l cp) [] [] G) L] [.ExceptHandler (some (.Name y yp)) (some n) [.Assign [.Name c2 ap] (.Name n bp) D] U] [] [] T) _:=Bg7 (i:=1) (j:=3) hpx rfl ⟨rfl,rfl⟩ S.nd rfl (Or.inl lv) rfl ln hg hy su (hsw _) d3 (.inl rfl)
  refine wpAny_execs_cons (thn (tr [] s2 _ X { nx:=λh B=>∃u1 u2,h=some (.ref O)::some u1::some u2::none::List.replicate M.length none/\Z [u1,u2] B Q E0,rt:=λ_ _=>False } I2
   ⟨rfl,hmo _ _ _ _ _ (λu H3 z=>⟨u,.non,rfl,z⟩) (λc m H3 ⟨C,e1,e2,e3⟩=>⟨C,e1,e2,λa ha=>⟨.ref a,rfl,.non,.ref a,rfl,e3 a ha⟩⟩) (q X sm)⟩) λfw s3 q3=>?_)
  cases fw with
  | ret _=>obtain⟨_,_,_,_,_,z⟩:=q3;exact z.elim
  | brk=>obtain⟨_,_,_,z⟩:=q3;exact z.elim
  | cont=>obtain⟨_,_,_,z⟩:=q3;exact z.elim
  | next =>
  obtain⟨σ3,H3,I3,u1,u2,rfl,qs⟩:=q3;obtain⟨t,h2,q2⟩:=N g A d s H H3 [u1,u2] Q E0 hr2 qs;exact h2 [] s3 _ H3 _ (I3.tail rfl) q2
 ·have fin:∀{h:St} {B:Hp} {v':V} {u:Value},Inv (Jk CX0 P w K mg base (v::c2::n::M) x (Aj st) f g A d s H E0).nox [] h B s'->RelV v' u->Q _ _->CE _ P w H s Q u _ :=
   λ{h B v' u} J rv q=>⟨v',B,J.os,J.bare,J.base,J.hok,rv,q⟩
  cases fw with
  | ret u =>
   obtain⟨v',h,B,J,rv,q⟩:=hs;exact fin J rv q
  | next =>
   obtain⟨h,B,J,q⟩:=hs;exact fin (v':=V.non) J rfl q
  | brk=>obtain⟨_,_,_,q⟩:=hs;exact q.elim
  | cont=>obtain⟨_,_,_,q⟩:=hs;exact q.elim
end
noncomputable def tNs:List Nat->TA
 | []=>Eu
 | j::r=>Bt (Qx j) (tNs r)
def B5y (K:v9)(Fc:Addr)(spg spr:Sp)(js:List Nat):TE:=λσ H Q=>∀H1,Same H H1->tNs js σ H1 λvs H2=>spg vs H2 (λu H3=>spr [u,.non] H3 Q E0) (B5w K Fc spr Q)
theorem As8 {σ:St}:∀{js:List Nat}{H:Hp}{k:m8->Hp->Prop},tNs js σ H k->∃vs:m8,js.map (λj=>σ[j]?)=vs.map (λv=>some (some v))/\k vs H
 | [],_,_,h=>⟨[],rfl,h⟩
 | j::r,H,k,⟨v,e,h⟩=>by
  obtain⟨vs,e2,h2⟩:=As8 (js:=r) (k:=λvs H=>k (v::vs) H) h
  exact⟨v::vs,by rw[aG,aG,e,e2],h2⟩
theorem A7f {σ:St}:∀{js:List Nat}{vs:m8}{H:Hp}{k:m8->Hp->Prop},js.map (λj=>σ[j]?)=vs.map (λv=>some (some v))->k vs H->tNs js σ H k
 | [],[],_,_,_,h=>h
 | j::r,v::vs,H,k,e,h=>by
  obtain⟨e1,e2⟩:=List.cons.inj e
  exact⟨v,e1,A7f (js:=r) (k:=λvs H=>k (v::vs) H) e2 h⟩
 | [],_::_,_,_,e,_=>by cases e
 | _::_,[],_,_,e,_=>by cases e
theorem A2p {a:St}{js:List Nat}{vs:m8}(e:js.map (λj=>a[j]?)=vs.map (λv=>some (some v))):(List.range js.length).map (λj=>(cst (js.map some) a)[j]?)=vs.map (λv=>some (some v)):=by
 refine List.ext_getElem? λi=>?_
 have:=bA (λl=>l[i]?) e
 simp at this ⊢
 by_cases h:i<js.length
 ·rw[fY h]
  rw[aU h]at this
  cases ev:vs[i]? with
  | none=>grind
  | some v =>
   rw[ev]at this
   simp at this ⊢
   simp[cst,aU h,this]
 simp_all
theorem HLam.same {H a:Hp}(h:HLam H a):Same H a:=by
 rcases h with rfl | ⟨c,o,d,rfl⟩
 ·exact Same.refl _
 ·exact λb u e=>by rw[Ak (Ay e d)];grind
section
variable {X:Cx}{p pos lpos:Pos}
theorem Bf6 {Kq:v9}(U:X.K=Kq){x v:Str}{k kg k':Nat}{Fc c T:Addr}{g F:Sp}{e:Arguments}{body:Expr}{scope:Scope}{G:v4}{js:List Nat}(D:Told X.prog X.w X.K X.mg X.base x k Fc F)(hT:(T,v)∈Ef X.K)(hC:codeHdIn X.K c T=true)(n:X.env.code=.ref c)(hr:Room k' X.A)
 (V:∀R,Aq4 (g R)) (L:Uy X G (js.map some) scope)
 (hb:∀f M t A stk s H E,Room kg (A.deeper (envX v scope s.heap.objs.size f M t))->QE (A0p X.prog X.w X.K X.mg X.base G scope t v f M A stk s H E) body (Le g [] E (tNs (List.range js.length)))) (h:k<=k':=by lia) (h2:kg+2<=k':=by lia) (hg:Gl X x:=by rfl)
 (W:scope.isCoroutine=false:=by rfl) (B:scope.isGenerator=false:=by rfl) (i:X.env.qual ++ "<lambda>" = v:=by rfl) (N:defaultsOf e X.env=([],[]):=by rfl)
 (l:∀t pm M w,bindArgs (kla_fn "<lambda>" v e body scope t pm M w) ⟨[],[]⟩=pure []:=by exact λ_ _ _ _=>rfl)
 (hdb:(x==("__debug__" : Str))=false:=by decide) (he:starEach [.Lambda e body scope lpos] X.env=(false,eval (.Lambda e body scope lpos) X.env)::starEach [] X.env:=by rfl) :
 QE X (.Call (.Name x p) [.Lambda e body scope lpos] [] pos) (B5y Kq Fc g F js):=by
 subst U
 refine⟨λpins s σ H Q I q=>?_⟩
 obtain⟨f,kp,m,run⟩:=D
 refine wpAny_Call_Name_kw (J4 I hg m ?_ hdb)
 refine PySem.W.callWith_K (h₀:=X.base) I.ok.mod.kin kp ?_ he rfl
 rw[he]
 obtain⟨t,j,c1,c2⟩:=Lq (env:=X.env) (scope:=scope) λy hy hf=>I.ok.has y.1 (L.free y hy hf)
 refine Calls.spliced_cons (Bd2 I hT hC n i N j λfl s1 H1 pm M w P hl hcd=>?_)
 refine Calls.spliced_nil ⟨P.kIn,?_⟩
 obtain⟨R,Y,_⟩:=As8 (q H1 hl.same)
 refine wpAny_call (codeAny_mono (run X.A X.stack s1 H1 fl (g R) Q (hr.mono h) P.env0 (V R) ?_ λH2 sm=>by
  obtain⟨vs2,ev2,q2⟩:=As8 (q H2 (hl.same.trans sm))
  cases (List.map_inj_right λa b z=>by cases z;rfl).mp (Y.symm.trans ev2)
  exact q2) λr Z i=>?_)
 ·intro C Z S Q' E' e0 un os qe
  obtain⟨_,_,J,_,rfl⟩:=P.after (s':=Z) (Q:=λ_ H2=>H2=S) (u:=.none) ⟨.non,S,os,e0.bare,un,e0.hok,rfl,rfl⟩
  have K:=(J.pin (fl,Ap1 v e body scope t pm _ _) (aq _ (aq _ aP))).1
  refine⟨⟨_,_,_,_,K⟩,?_⟩
  obtain⟨c0,o,us,t0,rfl,hc,d⟩:=hcd;have O:LamCd _ _ _:=⟨c0,o,us,t0,rfl,un.frzs _ _ _ hc,d⟩;have rm:Room _ (X.A.deeper C):=(hr.mono h2).deeper _
  refine Bj1 L W B (l _ _ _ _) rm (hb _ _ _ _ _ _ _ _ (rm.deeper _)) e0 J K (O.rec J.hok) c1 c2 ?_
  refine A7f (A2p Y) ?_
  grind
 ·cases r with
  | error Y=>exact(i).elim
  | ok fw =>
   cases fw with
   | ret u =>
    obtain⟨v',S,J',r',q⟩:=P.after i
    exact⟨v',S,J'.pins_of λp hp=>J'.pin p (aq _ (aZ _ hp)),r',q⟩
   | next=>exact False.elim i
   | brk=>exact False.elim i
   | cont=>exact False.elim i
end
end L2
namespace U
open PySem L2 PySem.W
section
variable {K:v9}
def Xx (F:w5->XF)(G:n_)(NS:v4)(fa:n6):n8:=λc=>(fa c).bind λps c=>match Ov c ps with
 | none=>.bad
 | some ds=>match F ds with
  | .ret (.im d)=>Rh G [.o (.im d),.o (.im .none)] c
  | .ex nm=>if NS.contains nm.n=true then Rh G [.o (.im .none),.o (.ty (.xc nm))] c else .bad
  | _=>.bad
theorem Ak2 {F:w5->XF}(vs:m8):Aq4 (spX K F vs):=by
 intro H Q c E f d e h;obtain⟨a,b,s,t,m⟩:=h
 refine⟨a,b,s,t,?_⟩
 grind
theorem Au2 {F:w5->XF}{G:n_}{E:Addr}{I:v4}{js:List Nat}{J:n6}(hx:∀S∈I,∀C,PySem.W.nsIn K mainGlobals S=some (some (.ref C))->PySem.W.exmOne K (.ref C) (.ref E)=some true)(ha:MA K (tNs js) J) :
 ME K (B5y K E (spX K F) (spP K G) js) (Xx F G I J):=by
 intro M W c N Q R s H t
 have R0:Rep K M ⟨W.Hf,H,W.fps⟩ c N:=Stp.rep (S':=λ_=>False) R (Ol t) λa o e=>t a o (R.sub a o e)
 refine ha M ⟨W.Hf,H,W.fps⟩ c N _ R0 (s.bnd.mono λu c1 k vs h n l r1=>?_)
 have n:Stp W.S W.Hf W.H h.S h.Hf h.H:=(Ol (Hf:=W.Hf) t).trans n
 cases ea:Ov c1 u with
 | none=>simp only[ea]at k;trivial
 | some ds =>
  simp only[ea]at k
  refine⟨h.Hf,ds,l.sub,Ot l r1 ea,?_⟩
  have T:∀{b i:Hp},Stp (λ_=>False) h.Hf h.H (λ_=>False) b i->Stp W.S W.Hf W.H (Wo.S ⟨b,i,h.fps⟩) b i:=λ{b i} f=>n.trans ⟨f.fz,λa o e _=>f.kp a o e λz=>z,λa o e U _ q=>f.nf a o e U (λz=>z) q,λa z=>.inl z⟩
  split at k
  ·rename_i d m
   rw[m];intro v b i L f g r;obtain⟨rfl,Z⟩:=r
   have f:Stp _ _ _ (λ_=>False) _ _:=f.less λa z=>nomatch z
   have w := Stp.rep l f g
   exact Ob (ps:=[.o (.im d),.o (.im .none)]) w ⟨v,_,rfl,Z,.non,_,rfl,rfl,rfl⟩ (k.mono λp c' x X Y L j A y=>x _ _ _ ((T f).trans j) A y)
  ·rename_i S m
   split at k
   ·rw[m]
    intro C d b i P f g
    refine⟨C,rfl,hx _ (by simp_all) C P.ns,λa B=>?_⟩
    have D:Stp _ _ _ _ (upd _ a (X6 a C d)) _:=Stp.newF g B;have w := Stp.rep l f g;have V := Stp.rep (W:=⟨b,i,h.fps⟩) w D (Rm g)
    exact Ob (ps:=[.o (.im .none),.o (.ty (.xc _))]) V ⟨.non,_,rfl,rfl,.ref a,_,rfl,⟨a,C,d,rfl,P.same D.fz,Bd⟩,rfl⟩
     (k.mono λp c' x X Y L j A y=>x _ _ _ ((T (f.trans D)).trans j) A y)
   trivial
  trivial
def Bv8 (P:u6)(w:World)(K:v9)(mg:x_)(base:Heap)(x:Str)(k:Nat)(NS:v4)(spr:Sp):Prop:=∃Fc,Told P w K mg base x k Fc spr/\ExOk K Fc NS
end
end U
namespace L2
open PySem PySem.Spec PyProof.Rows PySem.W
section
variable {prog:u6}{w:World}{A:q9}{E:z_}{h:Heap}{g:Array GenState}{d:Drawn}{t:Nat}{os:OsState}{K:Frag}
variable {nm q:Str}{C N:Addr}{bs bm:w6}{hdct:Bool}{sn:v4}{sub:w6}{ab:Bool}{col:Option Bool}{dd:Option Addr}{k0 k1 k2 k3 k5:u9}
theorem Bg9 {a:w6}{i:Addr}{oI:Obj}{Q:Fin->u_->Prop}(X:K.In h)(T:OwnTail h bmV bm)(f:h.get? C=some (excClassObj nm q C N bs bm hdct sn sub ab col dd k0 k1 k2 k3 k5 "ValueError.__new__")) (hi:findIn K (.ref C) "__init__" = some (some (.ref i)))
 (hf:h.get? i=some oI) (hc:oI.cls=.type "function") (hr:a.length<=sizeLine)
 (hq:∀h' e,Heap.MadeExcOf h h' e (.ref C) a->h.objs.size<=e->wpAny (model prog w) A (call (.ref i) (.ref e::a)) (λr s'=>r=.none/\Q (.done (.ret (.ref e))) s') E ⟨h',g,d,t,os⟩) :
 wpAny (model prog w) A (Builtin.«type.__call__» ⟨.ref C::a,[]⟩) Q E ⟨h,g,d,t,os⟩:=by
 have F:=fU
 repeat (first | with_reducible refine wpAny_loadPart_at f ?_ | with_reducible refine wpAny_madeBy_exc f ?_ | wp_step)
 refine codeAny_call_builtin_code (Code.quiet_builtin _ F.quiet) (wpAny_check_new_subT F T f ?_)
 refine codeAny_exc_new_subT F T f ?_ hr
 show wpAny _ _ _ _ _ _
 have M:Heap.MadeExcOf h ((h.push { cls:=.type "tuple",data:=.seq a.toArray }).push { cls:=.ref C,data:=.fields #[.ref h.objs.size,.none,.none,.none,.bool false,.none] }) (h.objs.size+1) (.ref C) a :=
  ⟨λb o z=>Heap.get?_push_of_some _ (Heap.get?_push_of_some _ z),Heap.get?_none_of_le (c7 _),h.objs.size,by heap_get,Heap.get?_none_of_le (ak _),Heap.get?_push_of_some _ (Heap.get?_push_at rfl rfl)⟩
 generalize (h.push { cls:=.type "tuple",data:=.seq a.toArray }).push { cls:=.ref C,data:=.fields #[.ref h.objs.size,.none,.none,.none,.bool false,.none] }=h1 at M ⊢;have le:h.objs.size<=h.objs.size+1:=c7 _;generalize h.objs.size+1=e at M le ⊢;obtain⟨t0,c,_⟩:=M.there
 have j:(Value.ref C::bm).contains (.ref C)=true:=by simp
 unfold isInstance
 repeat (first | with_reducible refine wpAny_loadPart_at c ?_ | (with_reducible refine wpAny_isSubtype_exc (M.keeps _ _ f) ?_;rw[j]) | wp_step)
 show wpAny _ _ (typeLookup (.ref C) _) _ _ _
 refine (looks_findIn (X.keeps M.keeps) hi).here ?_
 refine wpAny_holding (wpAny_bind ?_)
 unfold bindSpecial
 refine wpAny_bind (wpAny_typeOf (T := "function") ⟨_,M.keeps _ _ hf,hc⟩ ?_)
 rw[if_pos (by decide)]
 refine wpAny_pure (wpAny_bind (wpAny_mono (hq _ _ M le) (λr s' z=>?_) λ_ _ x=>x))
 obtain⟨rfl,hQ⟩:=z
 wp_walk
 exact hQ
theorem A5i {a:w6}{f:Addr}{i:Obj}{Q:z_}(X:K.In h)(T:OwnTail h bmV bm)(b:h.get? C=some (excClassObj nm q C N bs bm hdct sn sub ab col dd k0 k1 k2 k3 k5 "ValueError.__new__")) (hi:findIn K (.ref C) "__init__" = some (some (.ref f)))
 (j:h.get? f=some i) (hc:i.cls=.type "function") (hr:a.length<=sizeLine)
 (k:∀c e,Heap.MadeExcOf h c e (.ref C) a->h.objs.size<=e->wpAny (model prog w) (A.under (.builtin "type.__call__" ⟨.ref C::a,[]⟩)) (call (.ref f) (.ref e::a)) (λr s'=>r=.none/\Q (.ref e) s') E ⟨c,g,d,t,os⟩) :
 wpAny (model prog w) A (call (.ref C) a) Q E ⟨h,g,d,t,os⟩:=by
 have n:=tc_lookup;have o:=tc_bind (.ref C);have p:(⟨h,g,d,t,os⟩:u_).TypeIs (.ref C) "type" := ⟨_,b,rfl⟩
 refine wpAny_call (codeAny_of_tree ?_)
 show wpAny _ _ (callAny (.ref C) _) _ _ _
 repeat (any_goals (first | assumption | with_reducible refine wpAny_loadPart_at b ?_ | wp_step))
 refine⟨rfl,codeAny_call_builtin_at (Code.quiet_builtin _ (by decide +kernel)) entry_typeCall (wpAny_check_type_call_sub b (Bg9 X T b hi j hc hr λc e m l=>?_))⟩
 exact k _ e m l
end
section
variable {prog:u6}{w:World}{M:Model}{A:q9}{E:z_}{s:u_}{env:Env}
variable {nm q:Str}{C N:Addr}{bs bm:w6}{hdct:Bool}{sn:v4}{sub:w6}{ab:Bool}{col:Option Bool}{dd:Option Addr}{k0 k1 k2 k3 k5:u9}{newId:String}
noncomputable abbrev Mr (C:Addr) (d:Option Addr) (t:Addr):Obj:={ cls:=.ref C,dict:=d,data:=.fields #[.ref t,.none,.none,.none,.bool false,.none] }
theorem Bb3 {x:Sem Value}{Q:Flow->u_->Prop}(hb:bm.contains (.type "BaseException")=true) (b:A.handled=none)
 (h:wpAny M A x (λv s1=>∃e d t,v=.ref e/\s1.heap.get? C=some (excClassObj nm q C N bs bm hdct sn sub ab col dd k0 k1 k2 k3 k5 newId)/\s1.heap.get? e=some (Mr C d t)/\E (.ref e) s1) E s) :
 wpAny M A (raiseStmt env (some x) none) Q E s:=by
 have c:(Value.ref C::bm).contains (.type "BaseException")=true:=by rw[dM,hb,Bool.or_true]
 unfold raiseStmt
 refine wpAny_bind (wpAny_mono h (λv s1 z=>?_) λ_ _ x=>x)
 obtain⟨e,d0,t0,rfl,a,he,hE⟩:=z;obtain⟨hp,g,d,tk,os⟩:=s1
 repeat (first | with_reducible refine wpAny_loadPart_at he ?_ | with_reducible refine wpAny_loadPart_at a ?_ | (with_reducible refine wpAny_isSubtype_exc a ?_;rw[c]) | wp_step)
 exact wpAny_raiseNew_none b hE
theorem At7 {x:Str}{k b g:Pos}{c:v_}{Q:Flow->u_->Prop}(hb:bm.contains (.type "BaseException")=true) (n:A.handled=none) (hpl:(backTo b (starEach c env)).any (·.1)=false)
 (h:wpAny (model prog w) A (eval (.Name x k) env) (λf s1=>f=.ref C/\wpAny (model prog w) A (evalArgs (.ref C) true (backTo b (starEach c env)) [])
  (λa s2=>a.kw=[]/\s2.heap.get? C=some (excClassObj nm q C N bs bm hdct sn sub ab col dd k0 k1 k2 k3 k5 newId)/\wpAny (model prog w) A (call (.ref C) a.pos) (λv s3=>∃e d t,v=.ref e/\s3.heap.get? C=some (excClassObj nm q C N bs bm hdct sn sub ab col dd k0 k1 k2 k3 k5 newId)/\s3.heap.get? e=some (Mr C d t)/\E (.ref e) s3) E s2) E s1) E s) :
 wpAny (model prog w) A (exec (.Raise (some (.Call (.Name x k) c [] b)) none g) env) Q E s:=by
 refine wpAny_bind (wpAny_standAt (Bb3 (C:=C) (nm:=nm) (q:=q) (N:=N) (bs:=bs) (hdct:=hdct) (sn:=sn) (sub:=sub) (ab:=ab) (col:=col) (dd:=dd) (k0:=k0) (k1:=k1) (k2:=k2) (k3:=k3) (k5:=k5) (newId:=newId) hb n ?_))
 refine wpAny_bind (wpAny_mono (wpAny_Call_ofName (wpAny_mono h (λf s1 z=>?_) λ_ _ x=>x)) (λv s3 z=>wpAny_bind (wpAny_standAt (wpAny_pure z))) λ_ _ x=>x)
 obtain⟨rfl,z⟩:=z
 refine wpAny_bind (wpAny_holding (wpAny_mono z (λa s2 y=>wpAny_bind (wpAny_standAt ?_)) λ_ _ x=>x))
 obtain⟨l,i⟩:=a;obtain⟨j,m,y⟩:=y;obtain rfl:i=[]:=j;simp only[hpl]
 refine wpAny_bind (wpAny_keeperOf_exc m ?_)
 exact wpAny_bind (wpAny_mono y (λv s3 z=>wpAny_bind (wpAny_holding (wpAny_point (wpAny_pure z)))) λ_ _ x=>x)
end
end L2
namespace L2
open PySem PySem.Spec PyProof.Rows PySem.W Builtin Builtin.ObjectAttr
section
variable {prog:u6}{w:World}{A:q9}{E:z_}{h:Heap}{g:Array GenState}{d:Drawn}{t:Nat}{os:OsState}{K:Frag}{s:u_}
variable {nm q f:Str}{C N F e t0:Addr}{bs bm:w6}{sn:v4}{sub:w6}{ab:Bool}{col:Option Bool}{dd:Option Addr}{k0 k1 k2 k3 k5:u9}{v:Value}
theorem Ba3 {b:Sem Bool}{Q:Value×w6->u_->Prop}(X:K.In s.heap)(hm:typeIn K (.ref F)=some (.type "type")) (hs:nsIn K cStatics "thirdparty.any" = some none) (c:findIn K (.ref F) "__init__" = some (some (.builtin "ValueError.__init__")))
 (d:Q (.builtin "ValueError.__init__",[]) { s with toks:=s.toks+1 }):wpAny (model prog w) A (getMethod (.ref F) "__init__" b) Q E s:=by
 have a:findIn K (.type "type") "__getattribute__" = some (some (.builtin "type.__getattribute__")):=type_tga
 refine method_cls X (by unfold specialIn;rw[hm];exact a) (cls_value (mc:=.type "type") (v:=.builtin "ValueError.__init__") X ?_ ?_ (by decide +kernel) d)
 ·unfold readsIn
  rw[hs,hm]
  rfl
 ·unfold findCls
  rw[c]
  rfl
theorem Bo9 {u:Value}{Q:z_}(T:OwnTail h bmV bm)(c:h.get? C=some (excClassObj nm q C N bs bm true sn sub ab col dd k0 k1 k2 k3 k5 "ValueError.__new__")) (he:h.get? e=some (Mr C none t0))
 (a:∀h' t1,(∀b o,b≠e->h.get? b=some o->h'.get? b=some o)->h'.get? e=some (Mr C none t1)->Q .none ⟨h',g,d,t,os⟩):wpAny (model prog w) A (call (.builtin "ValueError.__init__") [.ref e,u]) Q E ⟨h,g,d,t,os⟩:=by
 have F:=fU
 refine wpAny_call (codeAny_call_builtin F.init.plain F.initEntry (wpAny_check_init_subT F T c he rfl ?_))
 wp_walk
 refine a _ h.objs.size (λb o n z=>?_) ?_
 ·rw[Heap.get?_update_other _ _ (aC n)]
  exact Heap.get?_push_of_some _ z
 ·rw[Heap.get?_update_self _ (Heap.get?_push_of_some _ he) rfl]
  rfl
theorem Ak3 (T:OwnTail h bmV bm)(a:Value):refuseLoop a "__setattr__" bm=pure ():=by
 induction T with
 | base=>exact PySem.F.store_ValueError.passes _
 | own _ _ _ _ b=>rw[refuseLoop_ref];exact b
theorem A2q {M:Model}{c:Value}{Q:Unit->u_->Prop}(T:OwnTail h bmV bm)(j:h.get? C=some (excClassObj nm q C N bs bm true sn sub ab col dd k0 k1 k2 k3 k5 "ValueError.__new__")) (he:h.get? e=some (Mr C none t0)) (f:Q () ⟨h,g,d,t,os⟩) :
 wpAny M A (checkBuiltinCall "object.__setattr__" ⟨[.ref e,c,v],[]⟩) Q E ⟨h,g,d,t,os⟩:=by
 have a:=PySem.F.store_ValueError
 have i:(Value.ref C::bm).contains (.type "object")=true:=by rw[dM,T.hasType (X := "object") (b:=true) rfl];rfl
 have k:=a.args (.ref e) c v;simp only[checkBuiltinCall,a.kind,a.split]
 refine wpAny_bind ?_
 unfold isInstance
 repeat (first | with_reducible refine wpAny_loadPart_at he ?_ | (with_reducible refine wpAny_isSubtype_exc j ?_;rw[i]) | wp_step)
 exact f
theorem A2e {tk:Tok}{Q:Fin->u_->Prop}(X:K.In h)(T:OwnTail h bmV bm)(hC:h.get? C=some (excClassObj nm q C N bs bm true sn sub ab col dd k0 k1 k2 k3 k5 "ValueError.__new__")) (hf:findIn K (.ref C) f=some none) (he:h.get? e=some (Mr C none t0))
 (hq:∀a tk,(∀b o,b≠e->h.get? b=some o->a.get? b=some o)->a.get? e=some (Mr C (some h.objs.size) t0)->a.Ns1 h.objs.size (λy=>if y=f then some v else none)->Q (.done (.ret .none)) ⟨a,g,d,tk,os⟩) :
 wpAny (model prog w) A (Builtin.«object.__setattr__» ⟨[.ref e,.str f tk,v],[]⟩) Q E ⟨h,g,d,t,os⟩:=by
 have l2:=looks_findIn (M:=model prog w) X hf;have c:=Ak3 T (.ref e);have ne:e≠h.objs.size:=aD (Heap.lt_size he)
 generalize h1d:((h.push { cls:=.type "dict",data:=.dict #[] }).update e λo=>{ cls:=o.cls,dict:=some h.objs.size,data:=o.data,slots:=o.slots })=h1
 have x1:h1.get? e=some (Mr C (some h.objs.size) t0):=by rw[<- h1d];exact Heap.get?_update_self _ (Heap.get?_push_of_some _ he) rfl
 have k1:∀b o,b≠e->h.get? b=some o->h1.get? b=some o:=λb o n z=>by rw[<- h1d];exact(Heap.get?_update_ne _ _ _ _ n).trans (Heap.get?_push_of_some _ z)
 have n1:h1.Ns1 h.objs.size (λ_=>none):=Heap.Ns1.of_empty ⟨_,#[],_,by rw[<- h1d];exact(Heap.get?_update_ne _ _ _ _ ne.symm).trans (Heap.get?_push_at rfl rfl),rfl,λe he=>absurd he (by simp),λ_=>rfl⟩
 unfold Builtin.«object.__setattr__»
 repeat (first | rw[h1d] | rw[refuse_eq] | rw[refuseLoop_ref,c] | with_reducible refine wpAny_loadPart_at he ?_ | with_reducible refine wpAny_mroOf_exc hC ?_ | with_reducible refine l2.here ?_ | with_reducible refine wpAny_nsSet1 n1 λa hn hs=>?_ | wp_step)
 obtain⟨oD,eD,pD,hoD,hdD,i⟩:=hn.count (Within.cons f v Within.nil)
 refine wpAny_loadPart hoD ?_
 rw[hdD,pastItsLine_dict (aj i (by rw[aF,bR,sizeLine_eq];lia))]
 refine wpAny_pure (wpAny_pure (hq a _ (λb o n z=>?_) ((hs.2 e ne).trans x1) hn))
 exact(hs.2 b (aD (Heap.lt_size z))).trans (k1 b o n z)
theorem A1v {Q:Unit->u_->Prop}(X:K.In h)(T:OwnTail h bmV bm)(hC:h.get? C=some (excClassObj nm q C N bs bm true sn sub ab col dd k0 k1 k2 k3 k5 "ValueError.__new__")) (hs:findIn K (.ref C) "__setattr__" = some (some (.builtin "object.__setattr__"))) (hf:findIn K (.ref C) f=some none)
 (he:h.get? e=some (Mr C none t0))
 (hq:∀h' tk,(∀b o,b≠e->h.get? b=some o->h'.get? b=some o)->h'.get? e=some (Mr C (some h.objs.size) t0)->h'.Ns1 h.objs.size (λy=>if y=f then some v else none)->Q () ⟨h',g,d,tk,os⟩) :
 wpAny (model prog w) A (setAttr (.ref e) f v) Q E ⟨h,g,d,t,os⟩:=by
 have SF:=PySem.F.store_ValueError;have f3:=SF.slot.bind (.ref e);have l1:=looks_findIn (M:=model prog w) X hs;unfold setAttr callSpecial? specialOf
 repeat (any_goals (first | assumption | with_reducible refine wpAny_loadPart_at he ?_ | with_reducible refine l1.here ?_ | wp_step))
 refine codeAny_call_builtin SF.slot.plain SF.entry (A2q T hC he (A2e X T hC hf he λh' tk k1 k2 k3=>?_))
 repeat (any_goals (first | assumption | wp_step))
 exact hq h' tk k1 k2 k3
end
section
variable {prog:u6}{w:World}{A:q9}{E:z_}{h:Heap}{g:Array GenState}{d:Drawn}{t:Nat}{os:OsState}{a C dx:Addr}{o:Obj}{K:v9}{f:Str}{v:Value}{m:x_}
theorem A9a {tk:Tok}{vs:v7}{Q:Fin->u_->Prop}(X:K.In h)(Z:K7 K C)(c:findIn K (.ref C) f=some none)(hx:h.get? a=some o)(hc:o.cls=.ref C)(hd:o.dict=some dx)(ho:o.data=.fields vs)(hn:h.Ns1 dx m)(hm:m f=some v)(q:Q (.done (.ret v)) ⟨h,g,d,t,os⟩) :
 wpAny (model prog w) A (Builtin.«object.__getattribute__» ⟨[.ref a,.str f tk],[]⟩) Q E ⟨h,g,d,t,os⟩:=by
 obtain⟨s,F,G,H,n,p,e,r,i,u,x,y,z,B,D,b,T⟩:=G3 X Z.exc;have j:=looks_findIn (M:=model prog w) X c;have k:=hn.ns;obtain⟨I,J,L,l⟩:=o
 cases hc;cases hd;cases ho
 unfold Builtin.«object.__getattribute__»
 repeat (any_goals (first | assumption | with_reducible refine wpAny_loadPart_at hx ?_ | with_reducible refine wpAny_loadPart_at b ?_ | with_reducible refine j.here ?_ | (with_reducible refine wpAny_nsGet k ?_;rw[hm]) | wp_step))
theorem B4i {tk:Tok}{c b:Bool}{vs:v7}{Q:z_}(X:K.In h)(Z:K7 K C)(i:findIn K (.ref C) f=some none)(hx:h.get? a=some o)(hc:o.cls=.ref C)(hd:o.dict=some dx)(ho:o.data=.fields vs)(hn:h.Ns1 dx m)(hm:m f=some v)(j:handedOut v=pure v)(p:Q v ⟨h,g,d,t,os⟩) :
 wpAny (model prog w) A (getAttrBy (.ref a) (.str f tk) c b) Q E ⟨h,g,d,t,os⟩:=by
 have n:=eV.ga.bind (.ref a)
 have r:(b&&onTheHeap (Value.builtin "BaseException.__getattribute__"))=false:=by cases b <;> rfl
 have l:(Value.builtin "BaseException.__getattribute__" == Value.builtin "object.__getattribute__")=false:=by decide +kernel
 have q:(onTheHeap (Value.ref C)&&Value.builtin "BaseException.__getattribute__" == Value.builtin "object.__getattribute__")=false:=by rw[l];rfl
 have k:=looks_findIn (M:=model prog w) X Z.ga;have e:=looks_findIn (M:=model prog w) X Z.gat
 repeat (any_goals (first | assumption | (with_reducible refine wpAny_loadPart_at hx ?_;rw[hc]) | with_reducible refine k.here ?_ | with_reducible refine e.here ?_ | wp_step))
 refine codeAny_call_builtin eV.ga.plain PySem.F.entry_bexc_ga (Ai9 X Z hx hc (A9a X Z i hx hc hd ho hn hm ?_))
 repeat (any_goals (first | assumption | rw[j] | wp_step))
theorem Bo7 {b:Bool}{vs:v7}{Q:z_}(X:K.In h)(Z:K7 K C)(c:findIn K (.ref C) f=some none)(hx:h.get? a=some o)(hc:o.cls=.ref C)(hd:o.dict=some dx)(ho:o.data=.fields vs)(hn:h.Ns1 dx m)(hm:m f=some v)(i:handedOut v=pure v)(e:Q v ⟨h,g,d,t+1,os⟩) :
 wpAny (model prog w) A (getAttr (.ref a) f b) Q E ⟨h,g,d,t,os⟩:=by
 unfold getAttr
 repeat (any_goals (first | assumption | with_reducible apply B4i X Z c _ _ _ _ _ _ _ | wp_step))
end
theorem At5 {x:V}{u:Value}(r:RelV x u):handedOut u=pure u:=by
 cases u with
 | builtin i=>cases x <;> first | (obtain⟨_,e⟩:=r;grind) | cases r
 | _=>rfl
section
variable {X:Cx}{e:Expr}{f:Str}{pos:Pos}{ta:TE}
def tXF (K:v9)(ta:TE)(f:Str):TE:=λσ H Q=>ta σ H λx H1=>∃a C dx v,x=.ref a/\H1 a=some (X6 a C (some dx))/\H1 dx=some (.xd [(f,v)])/\K7 K C/\findIn K (.ref C) f=some none/\Q v H1
theorem B6k (he:PE X e ta)(hb:attributeBase e f X.env (eval e X.env)=eval e X.env):PE X (.Attribute e f pos) (tXF X.K ta f):=by
 intro d s σ H Q I h
 refine Br4 hb (thn (he _ s _ H _ I h) λu s1 ⟨x,j,c,k,a,C,dx,v,l,m,p,Z,n,q⟩=>?_)
 subst l;obtain rfl:u=Value.ref a:=k;obtain⟨⟨o,g,i,t,vs,w⟩,_⟩:=c.hok a _ m;obtain⟨r,y,A⟩:=c.hok _ _ p;have b:=A f;rw[List.lookup_cons_self]at b
 cases em:r f with
 | none=>rw[em]at b;trivial
 | some z =>
  rw[em]at b;exact Bo7 c.kIn Z n g i t w y em (At5 b) ⟨v,j,c.tok _,b,q⟩
theorem B4p {Kq:v9}(a:X.K=Kq)(he:QE X e ta)(hb:attributeBase e f X.env (eval e X.env)=eval e X.env:=by rfl):QE X (.Attribute e f pos) (tXF Kq ta f):=by
 subst a;exact⟨B6k he.get hb⟩
end
end L2
namespace L2
open PySem PySem.Spec PyProof.Rows PySem.W
def exI (e C:Addr)(d:Option Addr):HO:=.ext λh=>∃t,h.get? e=some (Mr C d t)
theorem At1 {P:u6}{w:World}{H:Hp}{h:Heap}{e C t:Addr}{d:Option Addr}(z:h.get? e=some (Mr C d t)):zA P w H h e (exI e C d):=⟨⟨t,z⟩,⟨_,z⟩,λb a ⟨t,z⟩ k=>⟨t,k _ z⟩⟩
structure Ti (K:Frag) (C F:Addr) (f:Str):Prop where
 exc:Yq K C=true
 sa:findIn K (.ref C) "__setattr__" = some (some (.builtin "object.__setattr__"))
 fld:findIn K (.ref C) f=some none
 ty:typeIn K (.ref F)=some (.type "type")
 third:nsIn K cStatics "thirdparty.any" = some none
 base:findIn K (.ref F) "__init__" = some (some (.builtin "ValueError.__init__"))
theorem Ba0 {H:Hp}{a:Addr}{o:HO}(h:H a=some o):upd H a o=H:=by
 funext b
 by_cases e:b=a
 ·subst e;rw[Bd,h]
 ·rw[Ak e]
section
variable {X:Cx}{C F:Addr}{f x:Str}{p ap cp ep tp pos:Pos}{e o value:Expr}{es:v_}{t:TA}{ta tv:TE}
def B5s (C:Addr)(t:TA):TS:=λD σ H=>t σ H λvs H1=>∃e u,vs=[.ref e,u]/\H1 e=some (exI e C none)/\D.nx σ H1
theorem B0j (Z:Ti X.K C F f)(hg:Gl X x)(hm:X.mg x=some (.ref F))(ha:QA X (e::es) t)(hdb:(x==("__debug__" : Str))=false) (he:starEach (e::es) X.env=(false,eval e X.env)::starEach es X.env) (hpl:(backTo cp (starEach es X.env)).any (·.1)=false)
 (hsw:swapsWith (.Call (.Attribute (.Name x p) "__init__" ap) (e::es) [] cp) none ep.line X.env=pure false) (hl:(ap.endLine==cp.line)=true) (hfew:methodCallForm ((e::es).length+([]:List Keyword).length) (backTo cp (starEach (e::es) X.env)) (backToKw cp (keywordEach [] X.env))=true) :
 QS X (.Expr (.Call (.Attribute (.Name x p) "__init__" ap) (e::es) [] cp) ep) (B5s C t):=by
 obtain⟨ha⟩:=ha
 refine⟨?_⟩
 intro m s o H D I h
 refine wpAny_Expr_any ?_ I.quiet hsw
 have b:methodCallPos true (.Name x p) X.env ap cp=pure cp:=by unfold methodCallPos;grind
 rw[arm_eval_Call,show attributeBase (.Name x p) "__init__" X.env (eval (.Name x p) X.env)=eval (.Name x p) X.env from rfl]
 refine wpAny_bind (J4 I hg hm ?_ hdb)
 refine wpAny_bind (wpAny_standAt ?_)
 unfold methodCall;rw[hfew]
 refine wpAny_bind (wpAny_holding (Ba3 I.kIn Z.ty Z.third Z.base ?_))
 refine wpAny_bind (wpAny_of_eq b ?_)
 refine gr (thn (ha _ _ _ _ H _ (I.tok _) h) λus w ⟨vs,E,i,r,a,u,v,c,q⟩=>?_) he hpl
 subst v;obtain⟨u1,u2,rfl,n,r3⟩:=vals2 r
 cases (n)
 obtain⟨⟨t0,ha⟩,_⟩:=i.hok a _ c;obtain⟨bm,Nn,nm,qn,bs,sn,z,ab,A,dd,k0,k1,k2,k3,k5,y,T⟩:=G3 i.kIn Z.exc;obtain⟨hp,g,d,B,os⟩:=w
 refine Bo9 T y ha λh' t1 k l=>?_
 have j:=i.write (t':=B) (by rw[c];trivial) (.inl rfl) k ⟨_,l⟩ (At1 l)
 rw[Ba0 c]at j;exact⟨o,E,j,q⟩
def B4l (C:Addr)(f:Str)(ta tv:TE):TS:=λD σ H=>tv σ H λy H1=>ta σ H1 λx H2=>∃e,x=.ref e/\H2 e=some (exI e C none)/\∀dx,H2 dx=none->D.nx σ (upd (upd H2 e (exI e C (some dx))) dx (.xd [(f,y)]))
theorem B1t (Z:Ti X.K C F f)(ha:QE X o ta)(hv:QE X value tv)(hs:swapsWith value (some (.Attribute o f tp)) pos.line X.env=pure false):QS X (.Assign [.Attribute o f tp] value pos) (B4l C f ta tv):=by
 obtain⟨ha⟩:=ha
 refine⟨?_⟩
 intro b s m H D I h
 refine plainObj_wpAny_Assign_Attribute (thn (hv.1 b s m H _ I h) λu O ⟨y,P,S,E,q⟩=>thn (ha b O m P _ S q) λK j ⟨x,r,i,Q,a,U,v,G⟩=>?_) hs
 subst U;obtain rfl:K=Value.ref a:=Q;obtain⟨⟨t0,ha⟩,_⟩:=i.hok a _ v;obtain⟨bm,Nn,nm,qn,bs,sn,L,ab,M,dd,k0,k1,k2,k3,k5,N,T⟩:=G3 i.kIn Z.exc;have t:r j.heap.objs.size=none:=i.hok.fresh (ak _);have l:Nm X b r j.heap.objs.size:=i.fpOk (ak _) t
 have J:j.heap.objs.size≠a:=λz=>by simp_all
 have R:X.s₀.heap.get? j.heap.objs.size=none:=Heap.get?_none_of_le i.sz;obtain⟨w,g,d,tk,os⟩:=j
 refine A1v i.kIn T N Z.sa Z.fld ha λh' n k A V=>?_
 have B:=i.write (x:=a) (e:=a) (t':=n) (by rw[v];trivial) (.inl rfl) k ⟨_,A⟩ (At1 A)
 refine⟨m,_,B.track (o:=.xd _) (by rw[Ak J];grind) R l.2.1 (λx c e=>l.2.2.2.2.1 x c e) (λp w=>l.2.2.2.2.2 p w) ⟨_,V,λz=>?_⟩,G _ t⟩
 by_cases hz:z=f
 ·subst hz;rw[List.lookup_cons_self,if_pos rfl];exact E
 ·rw[if_neg hz,aN,beq_false_of_ne hz];trivial
end
theorem Rb {x:Str}{e:Expr}(h:isNm x e=true):∃p,e=.Name x p:=by
 unfold isNm at h
 grind
theorem Bk6 {x f:Str}{e:Expr}(h:isAt x f e=true):∃p q,e=.Attribute (.Name x p) f q:=by
 unfold isAt at h
 split at h
 ·obtain⟨a,b⟩:=au.mp h
  obtain⟨p,rfl⟩:=Rb a
  exact⟨p,_,by rw[bI.mp b]⟩
 trivial
theorem Ae9 {x:Str}{e:Expr}(h:Bf7 x e=true):∃k p,e=.Constant (.str x) k p:=by
 unfold Bf7 at h
 grind
theorem Az8 {x:Str}{e:Expr}(h:Bg3 x e=true):∃p q,e=.FormattedValue (.Name x p) 114 none q:=by
 unfold Bg3 at h
 split at h
 ·obtain⟨a,b⟩:=au.mp h
  obtain⟨p,rfl⟩:=Rb a
  exact⟨p,_,by rw[bI.mp b]⟩
 trivial
theorem B1c {s:Stmt}{g:Expr}{a:v_}(h:stE s=some (g,a)):∃q p r,s=.Expr (.Call (.Attribute g "__init__" q) a [] p) r/\(q.endLine==p.line)=true:=by
 unfold stE at h
 grind
theorem B0v {s:Stmt}{g v:Expr}(h:stA s=some (g,v)):∃p,s=.Assign [g] v p:=by
 unfold stA at h
 grind
theorem Bk2 {F p f y z:Str}{b:List Stmt}(h:Bx9 F p f y z b=true):∃s u o e l i n j q r k m,b=[s,u]/\s=.Expr (.Call (.Attribute (.Name F o) "__init__" e) [.Name "self" l,j] [] i) n/\Be6 p y z j=true/\(e.endLine==i.line)=true/\u=.Assign [.Attribute (.Name "self" q) f r] (.Name p k) m:=by
 unfold Bx9 at h
 split at h
 ·obtain⟨c,d⟩:=au.mp h
  split at c
  ·rename_i g a j t
   split at d
   ·rename_i g2 v x
    simp at c d
    obtain⟨e,i,n,rfl,w⟩:=B1c t;obtain⟨m,rfl⟩:=B0v x;obtain⟨o,rfl⟩:=Rb c.1;obtain⟨l,rfl⟩:=Rb c.2.1;obtain⟨q,r,rfl⟩:=Bk6 d.1;obtain⟨k,rfl⟩:=Rb d.2;exact⟨_,_,o,e,l,i,n,j,q,r,k,m,rfl,rfl,c.2.2,w,rfl⟩
   ·cases d
  ·cases c
 ·cases h
theorem Bs4 {p:Str}{a:Arguments}(h:Bz5 p a=true):∃x y d c,a=⟨[],[⟨"self",x,d⟩,⟨p,y,c⟩],none,[],[],none,[]⟩:=by
 unfold Bz5 at h
 split at h
 ·rename_i a b
  obtain⟨e,x,d⟩:=a;obtain⟨f,y,c⟩:=b
  simp_all
 trivial
def spI (C:Addr)(n:Nat)(f:Str):Sp:=λvs H Q _=>∃e v d,vs=[.ref e,v]/\H e=some (exI e C none)/\Tr H d v/\Av9 n d=true/\∀dx,H dx=none->Q .non (upd (upd H e (exI e C (some dx))) dx (.xd [(f,v)]))
section
end
theorem B4d {X:Cx}{p y z:Str}{j:Expr}(hu:X.A.units+64<cLine)(a:X.A.guards=some [])(b:y.length<=1000)(d:z.length<=1000)(c:∀ps,QE X (.Name p ps) (Qx 1))(hj:Be6 p y z j=true):QE X j (tFs y.length (Qx 1))/\∃l ps,j=.JoinedStr l ps:=by
 unfold Be6 at hj
 split at hj
 ·simp at hj
  obtain⟨_,_,rfl⟩:=Ae9 hj.1;obtain⟨_,_,rfl⟩:=Az8 hj.2;exact⟨A7x hu a Bv b (c _) B3d (aB _),_,_,rfl⟩
 ·simp at hj
  obtain⟨_,_,rfl⟩:=Ae9 hj.1.1;obtain⟨_,_,rfl⟩:=Az8 hj.1.2;obtain⟨_,_,rfl⟩:=Ae9 hj.2;exact⟨A7x hu a Bv b (c _) (B1r Bv) d,_,_,rfl⟩
 trivial
theorem Bq3 {X:Cx}{C b:Addr}{F p f y z:Str}{j:Expr}{w d h e v x i k m:Pos}(Z:Ti X.K C b f)(n:X.N[0]?=some ("self" : Str)) (h1:X.N[1]?=some p) (s0:Vis X.env.scope "self") (s1:Vis X.env.scope p) (hg:Gl X F) (hm:X.mg F=some (.ref b)) (hu:X.A.units+64<cLine) (o:X.A.guards=some [])
 (q:y.length<=1000) (r:z.length<=1000) (s:(p==("__debug__" : Str))=false) (t:(p==("__classdict__" : Str))=false) (u:(F==("__debug__" : Str))=false) (hj:Be6 p y z j=true) (hl:(d.endLine==e.line)=true) :
 QSs X [.Expr (.Call (.Attribute (.Name F w) "__init__" d) [.Name "self" h,j] [] e) v,.Assign [.Attribute (.Name "self" x) f i] (.Name p k) m] (A4j (B5s C (Bt (Qx 0) (Bt (tFs y.length (Qx 1)) Eu))) (B4l C f (Qx 0) (Qx 1))):=by
 have c:∀a,QE X (.Name _ a) _:=λa=>qv 0 n s0
 have g:∀a,QE X (.Name p a) _:=λa=>qv 1 h1 s1 s t
 obtain⟨A,l,a,rfl⟩:=B4d hu o q r g hj;exact Ae (B0j Z hg hm (Ad (c _) (Ad A Ac)) u rfl rfl rfl hl rfl) (Ai (B1t Z (c _) (g _) rfl))
def Az5 (p:Str):Prop:=∀(fd:u5) (x y:Option Expr) (a1 a2:Pos) (u1 u2:Value),fd.params=⟨[],[⟨"self",x,a1⟩,⟨p,y,a2⟩],none,[],[],none,[]⟩->fd.defaults=.none->bindArgs fd ⟨[u1,u2],[]⟩=pure [(("self" : Str),u1),(p,u2)]
theorem Bl4 {K:Frag}{D:J0}{a:Addr}(hB:Az5 D.p)(h:Zh K D a=true)(L:Av6 D=true):∃g k c,K.lookup a=some ⟨.type "function",k,.func g,c⟩/\Binds K g ["self",D.p] [] /\
 ∀{P:u6} {w:World} {mg:x_} {base:Heap} {C o:Addr},Ti K C o D.f->mg D.F=some (.ref o)->FnOk P w K mg base CX0 1 a g ["self",D.p] (spI C D.y.length D.f):=by
 obtain⟨q,F,p,f,y,z⟩:=D;simp only[Av6,bC,du,bne_iff_ne,bI]at L;obtain⟨ly,lz,np,n1,n2,nd⟩:=L;unfold Zh at h
 split at h
 ·rename_i k g c M
  unfold fnB at h;simp only[bC,bI,List.isEmpty_iff,du]at h;obtain⟨O,R,V,W,G,I,B,l,i⟩:=h
  split at i
  ·rename_i b N
   obtain⟨nm,qn,par,bd,sc,gl,cl,df,kd,dc,pm,an,co,ct,bu⟩:=g
   dsimp only at O R V W G I B l N
   subst O R V W G N;obtain⟨x1,x2,a1,a2,rfl⟩:=Bs4 B;obtain⟨s,u,p1,p2,p3,p4,p5,j,p6,p7,p8,p9,rfl,rfl,hj,n,rfl⟩:=Bk2 i;simp only[B6n,bC,du,fW,bI,aL,bne_iff_ne]at l;obtain⟨s1,s2,s3,J,U,s6,s7⟩:=l
   refine⟨_,k,c,M,.all λus n=>?_,λ{P w mg base C o} Z hm=>?_⟩
   ·match us,n with
    | [_,_],_=>exact hB _ _ _ _ _ _ _ rfl rfl
   ·have S:Bc ["self",p] ["self",p] sc:=⟨s1,s2,s3,by simp[aC np],rfl,λx m=>.inl (by
     rcases az.mp m with rfl | m
     ·exact J
     ·cases aJ.mp m;exact U),s7⟩
    refine A1m M I S λvs H Q E ⟨_,_,_,e,_⟩=>by rw[e];rfl λA r s H vs Q E T t=>?_
    obtain⟨e,v,d,rfl,X,td,hs,Y⟩:=t
    refine Fi (Bq3 Z rfl rfl (.inl J) (.inl U) s6 hm T.units T.gd ly lz n1 n2 nd hj n) ?_
    exact⟨.ref e,rfl,v,rfl,d,td,hs,λz=>⟨e,.str z,rfl,X,v,rfl,.ref e,rfl,e,rfl,X,Y⟩⟩
  ·cases i
 ·cases h
theorem A0m {p:Str}(h:∀(nm q:Str) (l:FuncBody) (d:Scope) (e:Addr) (f:List (Str×Addr)) (kd g i:Value) (j:Option Addr) (k c:Value) (m:Addr) (x y:Option Expr) (n o:Pos) (b a:Value),bindArgs ⟨nm,q,⟨[],[⟨"self",x,n⟩,⟨p,y,o⟩],none,[],[],none,[]⟩,l,d,e,f,.none,kd,g,i,j,k,c,m⟩ ⟨[b,a],[]⟩=pure [(("self" : Str),b),(p,a)]):Az5 p:=by
 intro r x y n o b a v u;obtain⟨nm,q,s,l,d,e,f,t,kd,g,i,j,k,c,m⟩:=r
 simp_all
example:Az5 "name" := A0m λ_ _ _ _ _ _ _ _ _ _ _ _ _ _ _ _ _ _ _=>rfl
section
variable {X:Cx}{pins:y_}{σ:St}{H:Hp}{s:u_}
theorem Inv.drop {e:Addr}{h:Heap->Prop}(I:Inv X pins σ H s)(j:H e=some (.ext h))(f:Nm X pins (λb=>if b=e then none else H b) e):Inv X pins σ (λb=>if b=e then none else H b) { s with heap:=s.heap.hide e }:=by
 have d:∀b,b≠e->(s.heap.hide e).get? b=s.heap.get? b:=λb n=>Heap.hide_ne s.heap n
 have x:∀b u,H b=some u->(∀h,u≠.ext h)->b≠e:=λb u q n z=>by rw[z,j]at q;exact n h (bV q).symm
 have D:∀b,H b=none->b≠e:=λb q z=>by rw[z,j]at q;cases q
 obtain⟨_,i,E,t,l,w⟩:=f
 refine I.step (g':=s.gens) (d':=s.drawn) (t':=s.toks) (ch:=[e]) (λb g=>?_) (λb o _ _ a q _=>(d b λz=>a (by simp[z])).trans q) (λb o _ _ a q _=>⟨o.slots,(d b λz=>a (by simp[z])).trans q⟩) (λb o a q n=>by show (if b=e then none else H b)=none;rw[if_neg (λz=>a (by simp[z]))];exact n)
  (λb o a q=>⟨o,(d b λz=>a (by simp[z])).trans q⟩) (λb k q=>?_) (λb o u q=>?_) (λb q z=>?_) (λm p=>?_) (λb u q=>?_) I.bare
 ·cases aJ.mp g
  exact⟨t,i,l,w⟩
 ·simp_all
 ·simp_all
 ·show (if b=e then none else H b)=_;rw[if_neg (x b _ z λ_ z=>nomatch z)];exact z
 ·obtain⟨o,A,y,B,r⟩:=p
  exact⟨o,A,y,(d _ (aC i)).trans B,r⟩
 ·by_cases g:b=e
  ·rw[if_pos g]at q;cases q
  ·rw[if_neg g]at q
   refine (I.hok b u q).stay (λc v a z=>(d c ?_).trans z) (λc z=>?_) (λc k z=>?_) λc C k z=>?_
   ·grind
   ·grind
   ·simp_all
   simp_all
end
section
variable {X:Cx}{x f p:Str}{C Fa fI:Addr}{n:Nat}{np cpos pos:Pos}{e:Expr}{te:TE}{E:XK}{od:Option Addr}{osl:Array (u9)}{fd:u5}
def Ad7 (C:Addr)(n:Nat)(f:Str)(E:XK)(t:TA):TS:=λ_ σ H=>t σ H λvs H1=>∃v d,vs=[v]/\Tr H1 d v/\Av9 n d=true/\∀dx,H1 dx=none->E (.ref C) (some dx) (upd H1 dx (.xd [(f,v)]))
theorem A4b (hR:Raises X E)(hc:X.calm=true)(hg:Gl X x)(hm:X.mg x=some (.ref C))(Z:Ti X.K C Fa f)(hi:findIn X.K (.ref C) "__init__" = some (some (.ref fI))) (lk:X.K.lookup fI=some ⟨.type "function",od,.func fd,osl⟩) (hb:Binds X.K fd ["self",p] [])
 (F:FnOk X.prog X.w X.K X.mg X.base CX0 1 fI fd ["self",p] (spI C n f)) (hr:Room 2 X.A) (ha:PE X e te) (hst:isStar e=false) (hdb:(x==("__debug__" : Str))=false:=by decide) (he:starEach [e] X.env=(false,eval e X.env)::starEach [] X.env:=by rfl) :
 PS X (.Raise (some (.Call (.Name x np) [e] [] cpos)) none pos) (Ad7 C n f E (Bt te Eu)):=by
 intro k s σ H D I h;obtain⟨bm,Nn,S,qn,U,Y,w,ab,A,dd,V,k1,k2,k3,k5,M,T⟩:=G3 I.mod.kin Z.exc
 refine At7 (C:=C) (nm:=S) (q:=qn) (N:=Nn) (bs:=U) (bm:=bm) (hdct:=true) (sn:=Y) (sub:=w) (ab:=ab) (col:=A) (dd:=dd) (k0:=V) (k1:=k1) (k2:=k2) (k3:=k3) (k5:=k5) (newId := "ValueError.__new__") (T.hasType (X := "BaseException") (b:=true) rfl) (I.ok.hd hc) (by rw[he];rfl) (J4 I hg hm ⟨rfl,?_⟩ hdb)
 have hs:=A5z ha (Ro (X:=X)) hst cpos k s σ H _ I h;rw[he]at hs ⊢
 refine Calls.evalArgs_plain (wpAny_mono hs (λus s2 ⟨vs,l,m,R,v,d,W,td,sh,q⟩=>?_) λ_ _ z=>z)
 subst W;have P:∀b o,X.base.get? b=some o->s2.heap.get? b=some o:=m.bk;obtain⟨u,rfl,ru⟩:=vals1 R
 refine⟨rfl,P _ _ M,?_⟩
 obtain⟨hp,g,d0,tk,os⟩:=s2
 refine A5i m.kIn (T.keeps P) (P _ _ M) hi (m.kIn _ _ lk) rfl (by show 1<=sizeLine;decide) λh' i hM K=>?_
 obtain⟨t0,O,_⟩:=hM.there;have G:l i=none:=m.hok.fresh K;have J:Nm X k l i:=m.fpOk K G;have h0:X.s₀.heap.get? i=none:=Heap.get?_none_of_le (aj m.sz K);have I3:Inv X k σ l ⟨h',g,d0,tk,os⟩:=m.kept (t':=tk) hM.keeps
 have L:=I3.track (a:=i) (o:=exI i C none) G h0 J.2.1 (λx c e=>J.2.2.2.2.1 x c e) (λp hp=>J.2.2.2.2.2 p hp) (At1 O)
 have r4:Vals [.ref i,v] [.ref i,u]:=.cons rfl R
 have sp:spI C n f [.ref i,v] (upd l i (exI i C none)) (λr H3=>∃j,l j=none/\j≠i/\r=.non/\H3=upd (upd l i (exI i C (some j))) j (.xd [(f,v)])) E0 :=
  ⟨i,v,d,rfl,Bd,Tr.same (λb o z=>by rw[Ak (Ay z G)];exact z) td,sh,λj t=>by
   have y:j≠i:=λz=>by rw[z,Bd]at t;cases t
   rw[Ak y]at t
   exact⟨j,t,y,rfl,by rw[Bn2]⟩⟩
 refine wpAny_call (codeAny_mono (F.run _ X.stack _ _ ⟨[.ref i,u],[]⟩ [.ref i,u] [.ref i,v] _ E0 (hr.make C [u] []) (L.env0.make C [u] []) (hb _ [.ref i,u] L.kIn rfl) r4 sp) λr s' B=>?_)
 cases r with
 | error W=>exact False.elim B
 | ok fl =>
  cases fl with
  | next=>exact False.elim B
  | brk=>exact False.elim B
  | cont=>exact False.elim B
  | ret z =>
   obtain⟨v5,H5,Q,r5,j,t,y,rfl,rfl⟩:=L.after B;obtain rfl:z=Value.none:=r5
   have e5:upd (upd l i (exI i C (some j))) j (.xd [(f,v)]) i=some (exI i C (some j)):=by rw[Ak (aC y),Bd]
   obtain⟨⟨t1,x1⟩,_⟩:=Q.hok i _ e5
   have eH:(λb=>if b=i then none else upd (upd l i (exI i C (some j))) j (.xd [(f,v)]) b)=upd l j (.xd [(f,v)]):=by
    funext b
    by_cases hb:b=i
    ·subst hb;rw[if_pos rfl,Ak (aC y)];exact G.symm
    ·rw[if_neg hb];unfold upd;split
     ·rfl
     ·first | rfl | rw[if_neg _]
   have I6:=Q.drop e5 ⟨by simp,J.2⟩
   rw[eH]at I6
   refine⟨rfl,i,some _,t1,rfl,Q.bk _ _ M,x1,?_⟩
   exact hR _ _ _ { s' with heap:=s'.heap.hide _ } _ _ C _ I6 ⟨λb o z=>Heap.of_hide z,Heap.hide_self ..,_,_,x1,rfl,rfl,rfl,rfl⟩ (q _ t)
theorem A5h (b:Raises X E)(hc:X.calm=true)(hg:Gl X x)(hm:X.mg x=some (.ref C))(Z:Ti X.K C Fa f)(hi:findIn X.K (.ref C) "__init__" = some (some (.ref fI))) (a:X.K.lookup fI=some ⟨.type "function",od,.func fd,osl⟩) (hb:Binds X.K fd ["self",p] [])
 (F:FnOk X.prog X.w X.K X.mg X.base CX0 1 fI fd ["self",p] (spI C n f)) (hr:Room 2 X.A) (ha:QE X e te) (hst:isStar e=false:=by rfl) (hdb:(x==("__debug__" : Str))=false:=by decide) (he:starEach [e] X.env=(false,eval e X.env)::starEach [] X.env:=by rfl) :
 QS X (.Raise (some (.Call (.Name x np) [e] [] cpos)) none pos) (Ad7 C n f E (Bt te Eu)):=⟨A4b b hc hg hm Z hi a hb F hr ha.get hst hdb he⟩
end
section
variable {K K':Frag}
theorem A2f (s:Ks K K'){c:Value}{q:Str}(e:codeIn K c q=true):codeIn K' c q=true:=by
 unfold codeIn at e ⊢
 split at e
 ·split at e
  ·rename_i a;rw[s _ _ a];grind
  grind
 trivial
theorem A8c (s:Ks K K'){D:J0}{a:Addr}(e:Zh K D a=true):Zh K' D a=true:=by
 unfold Zh at e ⊢
 split at e
 ·rename_i c
  rw[s _ _ c];unfold fnB at e ⊢
  simp at e ⊢
  obtain⟨d,f,g,h,i,j,b⟩:=e;exact⟨d,f,g,h,i,A2f s j,b⟩
 trivial
theorem B3l (s:Ks K K'){C F:Addr}{f:Str}(e:ikB K C F f=true):Ti K' C F f:=by
 unfold ikB at e
 simp at e
 obtain⟨b,c,d,a,h,g⟩:=e
 refine⟨Af7 s b,Hc s c,Hc s d,?_,Q6 s h,Hc s g⟩
 obtain⟨o,i,j⟩:=aM.mp (show (K.lookup F).map _=_ from a)
 show (K'.lookup F).map _=_
 rw[s _ _ i]
 simp_all
def ClI (K:Frag)(mg:x_)(D:J0)(x:Str):Prop:=∃C F a fd od osl,mg x=some (.ref C)/\nsIn K mainGlobals x=some (some (.ref C))/\(K7 K C/\Ti K C F D.f)/\findIn K (.ref C) "__init__" = some (some (.ref a))/\K.lookup a=some ⟨.type "function",od,.func fd,osl⟩/\Binds K fd ["self",D.p] [] /\
 ∀(P:u6) (w:World) (base:Heap),FnOk P w K mg base CX0 1 a fd ["self",D.p] (spI C D.y.length D.f)
def B3v (K:Frag)(F:Addr)(NS:v4):Prop:=∀nm∈NS,∀C,nsIn K mainGlobals nm=some (some (.ref C))->exmOne K (.ref C) (.ref F)=some false
theorem B1o (s:Ks K K'){F:Addr}{b:v4}(e:exN K F b=true):B3v K' F b:=λd m C a=>by
 obtain⟨c,n,q⟩:=Lr s (aL.mp e _ m);rw[n]at a;cases a;exact Zd s (bI.mp q)
def ClH (K:Frag)(mg:x_)(yes no:v4)(T:Str):Prop:=∃g,mg T=some (.ref g)/\ExOk K g yes/\B3v K g no
def A2a (J:List (Str×J0))(Y:List (Str×List Str×v4))(h:Heap):Prop:=∃K:Frag,ciA J Y K=true/\∀a o,K.lookup a=some o->h.get? a=some o/\B0d o=true
variable {J:List (Str×J0)}{Y:List (Str×List Str×v4)}{h h':Heap}{mg:x_}
theorem B6h {l:List Nat}(e:ciA J Y (Bi4 l h)=true):A2a J Y h:=⟨Bi4 l h,e,λa o q=>by
 unfold Bi4 at q;rw[Mp]at q
 split at q
 ·obtain⟨c,d,b⟩:=bc.mp q
  grind
 grind⟩
theorem Bc7 (x:A2a J Y h)(hk:∀b o,h.get? b=some o->h'.get? b=some o):A2a J Y h' :=
 let ⟨K,e,q⟩:=x; ⟨K,e,λa o z=>⟨hk _ _ (q a o z).1,(q a o z).2⟩⟩
theorem Bj7 (x:A2a J Y h)(b:K.In h)(G:h.Ns mainGlobals mg)(H:∀a o,h.get? a=some o->Fg o=true->o.data≠.fields #[]->K.lookup a=some o) :
 (∀(i:Nat) (q:Str×J0),J[i]?=some q->Az5 q.2.p->ClI K mg q.2 q.1)/\∀(i:Nat) (q:Str×List Str×v4),Y[i]?=some q->ClH K mg q.2.1 q.2.2 q.1:=by
 obtain⟨N,e,q⟩:=x
 have s := λa o z=>by
  obtain⟨B,g⟩:=q a o z;unfold B0d at g
  refine H a o B ?_ ?_
  ·unfold Fg;split at g <;> simp_all
  ·intro y;rw[y]at g;simp at g
 obtain⟨l,r⟩:=au.mp e
 refine⟨λi p m t=>?_,λi p m=>?_⟩
 ·obtain⟨u,z⟩:=au.mp (aL.mp l p (bG m))
  obtain⟨C,n,z⟩:=Lr s z;obtain⟨F,v,z⟩:=Lr s z;obtain⟨c,d⟩:=au.mp z
  split at d
  ·rename_i a D
   obtain⟨E,c⟩:=au.mp c;have Z:=B3l s c;obtain⟨A,I,j,L,M,f⟩:=Bl4 t (A8c s d) u
   exact⟨C,F,a,A,I,j,mg_of b G n,n,⟨A5r s E,Z⟩,Hc s D,L,M,λP w k=>f Z (mg_of b G v)⟩
  ·cases d
 ·obtain⟨F,n,z⟩:=Lr s (aL.mp r p (bG m))
  obtain⟨c,d⟩:=au.mp z;exact⟨F,mg_of b G n,Aw6 s c,B1o s d⟩
end
end L2
set_option autoImplicit true
namespace U
open PySem L2
def Ue (nm:Str)(n:Nat)(f:Str)(fe:n8):Ev->XS:=λc=>match fe c with
 | .bad=>.s .bad
 | .ok p c=>match rdP c p with
  | some (.im d)=>if Av9 n d=true then .ex ⟨nm,some (f,d)⟩ c else .s .bad
  | _=>.s .bad
def cXF (NS:v4)(f:Str)(fe:n8):n8:=λc=>(fe c).bind λp c=>match rdP c p with
 | some (.ty (.xc nm))=>if NS.contains nm.n=true then match nm.p with
  | some q=>if q.1=f then .ok (.o (.im q.2)) c else .bad
  | none=>.bad
  else .bad
 | _=>.bad
section
variable {K:v9}{β:Nat->V}{W:Wo}{c:Ev}{σ:St}{D:Ends}{E:XK}{Hf H:Hp}{o:O}{v:V}{fp:v6}
theorem B4y {p:PV}{d:t_}(R:Rep K β W c σ)(r:En K W σ p v fp)(e:rdP c p=some (.im d)):Tr W.Hf d v:=by
 cases p with
 | o g=>cases e;exact r.1.2
 | sl i =>
  have e:c[i]?.join=some _:=e
  have b:c[i]?=some (some (.im d)):=by
   grind
  obtain⟨j,a,f,_⟩:=R.get i _ b;have h := r.2;rw[h]at a;cases a;exact f.2
theorem A4m {nm f:Str}{n:Nat}{C:Addr}{j:TE}{fe:n8}(hn:PySem.W.nsIn K mainGlobals nm=some (some (.ref C)))(h:ME K j fe):MX K E (Ad7 C n f E (Bt j Eu)) (Ue nm n f fe):=by
 intro H W c G D R l;unfold Ue at l
 refine h _ W c _ _ R ?_
 cases e:fe c with
 | bad=>rw[e]at l;exact l
 | ok p x =>
  rw[e]at l;intro v r F s g t
  cases ed:rdP x p with
  | none=>simp only[ed]at l;trivial
  | some o =>
   simp only[ed]at l
   split at l
   ·rename_i d u
    cases u
    split at l
    ·rename_i w
     have i:=B4y g t ed
     refine⟨v,d,rfl,Tr.same g.sub i,w,λm y=>?_⟩
     have b:Stp _ _ _ _ (upd _ _ (.xd [(f,v)])) _:=Stp.newF g.sub y
     have A:Stp r.S _ _ _ _ _:=⟨b.fz,λa o e n=>b.kp a o e λz=>z,λa o e B n q=>b.nf a o e B (λz=>z) q,λa z=>.inl z⟩
     have k := Stp.rep g b (Rm g.sub)
     exact l C _ _ _ ⟨hn,m,v,rfl,Bd,Tr.same b.fz i⟩ ((s.less λa z=>.inl z).trans A) k
    trivial
   trivial
theorem Bv9 {l:TE}{fe:n8}{f:Str}{m:v4}(hz:∀j∈m,∀C,PySem.W.nsIn K mainGlobals j=some (some (.ref C))->K7 K C/\PySem.W.findIn K (.ref C) f=some none)(h:ME K l fe):ME K (tXF K l f) (cXF m f fe):=by
 intro β W c σ Q R s
 refine h _ W c _ _ R (s.bnd.mono λp t b v1 W1 A k i F=>?_)
 cases ed:rdP t p with
 | none=>simp only[ed]at b;exact b.elim
 | some o =>
  simp only[ed]at b
  split at b
  ·rename_i j w
   cases w
   split at b
   ·rename_i x
    obtain⟨a,C,d,e,n,y⟩:=A0t i F ed;subst e;have g:=n.pay
    cases ep:j.p with
    | none=>rw[ep]at b;exact b.elim
    | some q =>
     rw[ep]at b g
     dsimp only at b
     split at b
     ·rename_i B
      obtain⟨D,v,rfl,r,E⟩:=g
      obtain⟨G,u⟩:=hz _ (by simpa using x) C n.ns
      rw[B]at r
      refine⟨a,C,D,v,rfl,i.sub _ _ y,i.sub _ _ r,G,u,?_⟩
      exact b v _ _ (k.less λa z=>by
       grind) i ⟨⟨rfl,E⟩,λa z=>nomatch z⟩
     ·exact b.elim
   ·exact b.elim
  trivial
theorem A6x {mg:x_}{D:J0}{x:Str}(h:ClI K mg D x):∀c∈[x],∀C,PySem.W.nsIn K mainGlobals c=some (some (.ref C))->K7 K C/\PySem.W.findIn K (.ref C) D.f=some none:=λc e C b=>by
 obtain⟨f,F,a,g,i,d,m,n,Z,_⟩:=h
 cases aJ.mp e
 rw[n]at b
 cases b
 exact⟨Z.1,Z.2.fld⟩
end
end U
namespace L2
open PySem PySem.Spec PyProof.Rows PySem.W
section
variable {M:Model}{A:q9}{E:z_}{s:u_}{B:Heap}{env:Env}{l outer:List Env}{L e:Addr}{c fl:Value}{d:Option Addr}{Q:Unit->u_->Prop}
theorem A9q (k:A.frames=some (env::outer))(w:env.frame=some L)(x:FlyD B (env::outer) e c d fl s.heap)
 (r:∀g,FlyD B (env::outer) e c d (rawInt L) g->s.heap.UpToSlots g->Q () { s with heap:=g }):wpAny M A (noteFrame (.ref e) env) Q E s:=by
 obtain⟨y,t,v,F,J,T,G,H,l,⟨rfl,rfl⟩,m,j,⟨I,C⟩,i,h,p⟩:=x
 obtain⟨a,D⟩:=Nh (f:=Obj.mapFields (·.setIfInBounds 3 .none)) i h
 unfold noteFrame;simp only[w]
 refine wpAny_bind (wpAny_field l m j ?_)
 refine wpAny_bind (wpAny_field i h p ?_)
 by_cases q:(fl==rawInt L)=true
 ·rw[if_pos q]
  have K:=bZ q;subst K;exact wpAny_pure (r _ ⟨y,t,v,F,J,T,G,H,l,⟨rfl,rfl⟩,m,j,⟨I,C⟩,i,h,p⟩ (Heap.UpToSlots.refl _))
 ·rw[if_neg q]
  refine wpAny_bind (wpAny_setField i h (cX.mp p).1 ?_)
  exact Uz k (λb o q=>(a b λz=>by grind).trans (y b o q)) t (v.of_keeps λb o q n=>⟨o,(a b (D b o q n)).trans q,rfl⟩) w ((a e (aC C)).trans l) m (cX.mp j).1
   λg f u=>r _ f λb o q n=>u b o ((a b (D b o q n)).trans q) n
theorem A3p (a:A.frames=some (env::outer))(f:env.frame=some L)(x:FlyD B (env::outer) e c d fl s.heap)(g:∀h',FlyD B outer e c d .none h'->s.heap.UpToSlots h'->Q () { s with heap:=h' }):wpAny M A (leaving env (.ref e)) Q E s :=
 wpAny_bind (A9q a f x λk j h=>Qy j λl i b=>g _ i.out (h.trans b))
theorem By7 {p:Type}{f:String}{Q:p->u_->Prop}(x:FlyD B l e c d fl s.heap)(w:∀h' fl',FlyD B l e c d fl' h'->s.heap.UpToSlots h'->E (.ref e) { s with heap:=h' }):wpAny M A (PySem.passOn f (.ref e) env:Sem p) Q E s:=by
 obtain⟨y,F,G,H,u,T,J,K,k,v,h,g,⟨C,r⟩,j,i,D⟩:=x;have I:=(cX.mp D).1
 refine wpAny_bind (wpAny_field k h g ?_)
 refine wpAny_bind ?_
 refine wpAny_bind (wpAny_field k h g ?_)
 generalize (env.frame.elim _ _)=fv;obtain⟨a,t⟩:=Nh j i
 have m:=Obj.data_mapFields i (·.setIfInBounds 3 fv)
 refine wpAny_setField j i I (wpAny_throw (w _ fv ⟨λb o q=>(a b λz=>by simp_all).trans (y b o q),F,G.of_keeps λb o q n=>⟨o,(a b (t b o q n)).trans q,rfl⟩,?_⟩ λb o q n=>⟨o.slots,(a b (t b o q n)).trans q⟩))
 exact⟨H,u,T,_,_,(a e (aC r)).trans k,v,h,g,⟨C,r⟩,Heap.get?_update_self _ j (Obj.isFreed_of_fields m),m,by grind⟩
end
def CXg (P:u6)(w:World)(fl:Value):CXT:=λouter H s E e s'=>∃a C d H' B,e=.ref a/\FlyD B outer a (.ref C) d fl s'.heap/\Cov (frs outer) H' s.heap s'.heap B/\(∀b o,s.heap.get? b=some o->b≠a)/\H' a=none/\s'.os=s.os/\AllBare s'.gens/\Un (frs outer) [] H H' s.heap s'.heap/\HOk P w H' s'.heap/\E (.ref C) d H'
section
variable {P:u6}{w:World}{K:v9}{mg:x_}{base:Heap}{N:v4}{qual:Str}{scope:Scope}{f:Addr}{cd:Value}{A:q9}{outer:List Env}{s₀:u_}{H₀:Hp}{E:XK}
theorem Be5 {n:Value}:Hi (CXg P w n) (Jk (CXe P w) P w K mg base N qual scope f cd A outer s₀ H₀ E) E:=by
 intro y σ H s e D I h;obtain⟨a,C,d,x,B,rfl,n,m,R,L,v,c,u,j,q⟩:=h
 refine A3p I.ok.frames rfl n λQ g F=>?_
 have r:Inv (Jk (CXe P w) P w K _ _ N _ _ f _ A _ _ _ E) _ _ _ { D with heap:=Q }:=I.flown u j v c n.ff m g.1 F
 have G:∀b o,s₀.heap.get? b=some o->∃t,s.heap.get? b=some _:=λb o e=>I.base.there b o e λz=>nomatch z
 refine⟨a,C,d,x,rfl,⟨⟨B,g,λb o e J l=>?_⟩,λb o e=>?_,L⟩,v.trans I.os,c,r.base,r.hok,q⟩
 ·have M:b≠(envOfC qual scope s₀.heap.objs.size f cd).locals:=by
   rintro rfl
   rcases l with ⟨O,k⟩ | l
   ·exact absurd (Heap.lt_size k) (aY _)
   ·exact l r.free
  have p:b∉frs _:=λz=>by
   rcases az.mp (I.stkSub b z) with q | q
   ·exact M q
   ·exact J q
  have i:∃t,D.heap.get? b=some t:=by
   rcases l with ⟨O,k⟩ | l
   ·obtain⟨o1,S⟩:=G b _ k
    exact u.there b _ S λz=>nomatch z
   ·cases q':x b with
    | none=>grind
    | some ho=>exact(j b _ q').there
  obtain⟨t,k⟩:=i
  have:=m b _ k p (by
   grind)
  have e2:=g.1 b _ this
  simp_all
 grind
end
end L2
namespace L2
open PySem PySem.Spec PyProof.Rows
section
variable {X:Cx}{N':v4}{idx:o4}{scope:Scope}{elt tg iter:Expr}{ifs:v_}{pos:Pos}{wi:TI}{g:TG}{tc:TT}{te:TE}
def xcK (X:Cx)(E:XK)(Y:Cx):z_:=λe s'=>∃pins σ H1 s1,Inv Y pins σ H1 s1/\CXe X.prog X.w X.stack H1 s1 E e s'
theorem A5b {E:XK}{f:List (Str×Addr)}{C:Addr}{b:u_}{a:Hp}{d:v6}:Hi (CXe X.prog X.w) ((By X N' scope f C b a d).wish (xcK X E (By X N' scope f C b a d))) E :=
 λc g H s e i I h=>⟨c,g,H,s,I.unwish,h⟩
theorem A0l {h B:Heap}{C:Addr}:∀{l:List Env},h.FunFrames B l->h.FunFrames (B.hide C) l
 | [],_=>trivial
 | env::_,⟨hk,⟨L,o,hf,hn,ho,hd⟩,hr⟩=>by
  refine⟨hk,⟨L,o,hf,?_,ho,hd⟩,A0l hr⟩
  cases z:(B.hide C).get? L with
  | none=>rfl
  | some u=>rw[Heap.of_hide z]at hn;cases hn
theorem A1a {h h' B:Heap}:∀{l:List Env},h.FunFrames B l->(∀b∈frs l,∀o,h.get? b=some o->h'.get? b=some o)->h'.FunFrames B l
 | [],_,_=>trivial
 | env::r,⟨hk,⟨L,o,hf,hn,ho,hd⟩,hr⟩,k=>by
  have sub:∀b,b∈frs r->b∈frs (env::r):=λb hb=>by
   obtain⟨e,he,z⟩:=bW.mp hb;exact bW.mpr ⟨e,.tail _ he,z⟩
  exact⟨hk,⟨L,o,hf,hn,k L (bW.mpr ⟨env,.head _,hf⟩) o ho,hd⟩,A1a hr λb hb=>k b (sub b hb)⟩
theorem B2l {E:XK}{Q:VK}{g:y_}{σ:St}{H2:Hp}{s2:u_}{fp:v6}{C:Addr}{cl:List (Str×Addr)}{ev D:Value}{s':u_}(hx:∀S,Hi (CXg X.prog X.w S) X E)(hs:X.stack=X.env::X.outer/\X.env.frame=some X.env.locals)
 (I2:Inv X g σ H2 s2) (f2:∀b∈fp,Nm X g H2 b) (hC:s2.heap.objs.size<=C) (h:xcK X E (By X N' scope cl C s2 H2 fp) ev s') :
 wpAny (model X.prog X.w) X.A (noteFrame ev X.env) (λ_ z=>compPost (model X.prog X.w) X.A X.xe none (EP X g σ Q) D C (.error ev) z) (λx z=>compPost (model X.prog X.w) X.A X.xe none (EP X g σ Q) D C (.error x) z) s':=by
 obtain⟨pins',σ',H1,p,R,a,C0,d,N,rfl,⟨⟨B,S,cov⟩,new,fr⟩,os,V,t,A,q⟩:=h;obtain⟨m,H,_⟩:=R.loc;have H:p.heap.Ns C m:=H;obtain⟨I,es,ep,gC,dC,rC⟩:=H;have fC:H1 C=none:=R.free;have nCa:C≠a:=new C I gC
 have s:∀b o,s2.heap.get? b=some o->b≠C:=λb o e=>aD (aA (Heap.lt_size e) hC)
 have J:C∉frs X.stack:=λz=>by
  obtain⟨_,o,ho,_⟩:=I2.stack.mem z;exact s C o ho rfl
 have gC':s'.heap.get? C=some I:=t.keep C I gC fC J (λz=>nomatch z)
 have fC':N C=none:=t.free C I gC fC (λz=>nomatch z)
 have r:∀b,b≠C->(p.heap.hide C).get? b=p.heap.get? b:=λb n=>Heap.hide_ne _ n
 have f:∀{h:Heap} {b:Addr} {o:Obj},(h.hide C).get? b=some o->h.get? b=some o/\b≠C:=λ{h b o} e=>⟨Heap.of_hide e,λz=>by rw[z,Heap.hide_self]at e;cases e⟩
 have G:=R.base
 have u2:Un (frs X.stack) fp H2 H1 s2.heap (p.heap.hide C) :=
  ⟨λb o e n1 n2 n3=>(r b (s b o e)).trans (G.keep b o e n1 n2 n3),λb o e n1 n2 n3=>let ⟨sl,z⟩:=G.slot b o e n1 n2 n3; ⟨sl,(r b (s b o e)).trans z⟩,G.free,λb o e n1=>let ⟨K,z⟩:=G.there b o e n1; ⟨K,(r b (s b o e)).trans z⟩,G.tups,G.frzs,G.tbls⟩
 have ok1:HOk X.prog X.w H1 (p.heap.hide C):=λb u e=>by
  refine (R.hok b u e).stay (λc v w z=>(r c ?_).trans z) (λ_ z=>z) λ_ _ z=>z
  rintro rfl
  rcases w with rfl | w
  ·rw[fC]at e;cases e
  ·rw[fC]at w;cases w
 have Io:Inv X g σ H1 { p with heap:=p.heap.hide C }:=I2.call' (s':={ p with heap:=p.heap.hide C }) R.os u2 ok1 R.bare (λb i=>⟨(f2 b i).2.2.2.1,(f2 b i).2.1,(f2 b i).2.2.2.2.1,(f2 b i).2.2.2.2.2⟩)
 have hN:∀b,B.get? b=none->(B.hide C).get? b=none:=λb n=>by
  cases z:(B.hide C).get? b with
  | none=>rfl
  | some o=>rw[(f z).1]at n;cases n
 have F:FlyD (B.hide C) X.stack a (.ref C0) d .none s'.heap:=by
  refine⟨λb o e=>S.st b o (f e).1,hN a S.no,A0l S.ff,?_⟩
  obtain⟨oe,P,T,oT,ts,t1,t2,t3,t4,⟨t5,W⟩,t7⟩:=S.tr;exact⟨oe,P,T,oT,ts,t1,t2,t3,t4,⟨hN T t5,W⟩,t7⟩
 have l:Cov (frs X.stack) N (p.heap.hide C) s'.heap (B.hide C):=λb o e k i=>by
  have nb:b≠C:=by
   rintro rfl
   rcases i with ⟨u,z⟩ | z
   ·exact(f z).2 rfl
   ·exact z fC'
  rw[Heap.hide_ne _ nb]
  exact cov b o e k (i.imp (λ⟨u,z⟩=>⟨u,(f z).1⟩) id)
 have j:Un (frs X.stack) [] H1 N (p.heap.hide C) s'.heap :=
  ⟨λb o e=>t.keep b o (f e).1,λb o e=>t.slot b o (f e).1,λb o e=>t.free b o (f e).1,λb o e=>t.there b o (f e).1,t.tups,t.frzs,t.tbls⟩
 have Y:=F;rw[hs.1]at Y
 refine Af6 (Io.ok.frames.trans (bA some hs.1)) hs.2 Y λh4 Z U=>?_
 rw[<- hs.1]at Z
 obtain⟨sl4,g4⟩:=U C I gC' (λP z=>by rw[dC]at z;cases z)
 refine⟨m,⟨_,es,ep,g4,dC,rC⟩,λh5 sb cenv _=>?_⟩
 have k5:∀b o,b≠C->h4.get? b=some o->h5.get? b=some o:=λb o n z=>sb.extBut b o n z
 have f5:FlyD (B.hide C) X.stack a (.ref C0) d (rawInt X.env.locals) h5:=⟨λb o e=>k5 b o (f e).2 (Z.st b o e),Z.no,A1a Z.ff λb i o z=>k5 b o (λy=>J (y▸i)) z,by
  obtain⟨oe,P,T,oT,ts,t1,t2,t3,t4,t5,W,t7⟩:=Z.tr
  refine⟨oe,P,T,oT,ts,k5 _ _ (aC nCa) t1,t2,t3,t4,t5,k5 T oT (λz=>?_) W,t7⟩
  rw[z,g4]at W;cases W
  rw[show ({ I with slots:=sl4 }:Obj).data=I.data from rfl,dC]at t7
  cases t7.1⟩
 refine By7 f5 λh6 fl' f6 up6=>?_
 have frf:∀b∈frs X.stack,N b=none:=λb i=>by
  obtain⟨_,o,ho,_⟩:=Io.stack.mem i
  exact j.free b o ho (Io.stkFree b i) (λz=>nomatch z)
 have upF:∀b∈frs X.stack,∀o,s'.heap.get? b=some o->(∀P,o.data≠.fields P)->∃sl,h6.get? b=some { o with slots:=sl }:=λb i o z O=>by
  obtain⟨s4,z4⟩:=U b o z O
  exact up6 b { o with slots:=s4 } (k5 b _ (λy=>J (y▸i)) z4) O
 refine hx fl' g _ _ _ _ _ Io ⟨a,C0,d,N,B.hide C,rfl,f6,λb o e k i=>?_,λb o e=>new b o (f e).1,fr,os,V,⟨λb o e n k _=>f6.st b o (l b o (j.keep b o e n k λz=>nomatch z) k (.inl ⟨o,e⟩)),λb o e n k _=>?_,λb o e n _=>j.free b o e n (λz=>nomatch z),λb o e _=>?_,j.tups,j.frzs,j.tbls⟩,λb o e=>?_,q⟩
 ·have L:∃K,s'.heap.get? b=some K:=by
   rcases i with ⟨u',e'⟩ | i
   ·exact j.there b _ e' λz=>nomatch z
   ·cases q':N b with
    | none=>exact absurd q' i
    | some ho=>exact(A b _ q').there
  obtain⟨K,e'⟩:=L;have:=l b _ e' k i;have M:=f6.st b _ this;rw[e]at M;cases M;exact this
 ·obtain⟨sl,e1⟩:=j.slot b o e n k λz=>nomatch z
  obtain⟨_,K,M,O⟩:=F.ff.mem k;rw[e1]at M;cases M;obtain⟨sl',e3⟩:=upF b k _ e1 O;exact⟨sl',e3⟩
 ·obtain⟨K,e1⟩:=j.there b o e λz=>nomatch z
  by_cases k:b∈frs X.stack
  ·obtain⟨_,o2,M,O⟩:=F.ff.mem k
   obtain⟨sl',e3⟩:=upF b k _ M O;exact⟨_,e3⟩
  ·exact⟨K,f6.st b _ (l b _ e1 k (.inl ⟨o,e⟩))⟩
 ·have key := λc v hn z=>f6.st c v (l c v z (λy=>hn (frf c y)) (.inr hn))
  refine (A b o e).stay (λc v w z=>key c v ?_ z) (λ_ z=>z) λ_ _ z=>z
  rcases w with rfl | w
  ·rw[e];simp
  ·rw[w];simp
theorem B3j {E:XK}(L:Gj X N' idx scope)(hc:X.calm=true)(hi:PI X tg iter wi)(hx:∀fl,Hi (CXg X.prog X.w fl) X E)(hst:X.stack=X.env::X.outer/\X.env.frame=some X.env.locals)
 (hg:∀k C s₀ H₀ ex,PG (By X N' scope k C s₀ H₀ ex) tg g) (ht:∀k C s₀ H₀ ex,PTs (By X N' scope k C s₀ H₀ ex) ifs tc) (he:∀k C s₀ H₀ ex,PE ((By X N' scope k C s₀ H₀ ex).wish (xcK X E (By X N' scope k C s₀ H₀ ex))) elt te)
 (hs:∀x,foldedSetIterable iter X.env x=pure x:=by intro _;rfl) :
 PE X (.ListComp elt [⟨tg,iter,ifs,0⟩] scope pos) (tLC idx wi g tc te):=by
 intro j s σ H Q I h
 obtain⟨k,l,c1,c2⟩:=Lq (env:=X.env) (scope:=scope) λy hy hf=>I.ok.has y.1 (L.free y hy hf)
 rw[eval_ListComp]
 refine wpAny_comprehension_free (use:=none) rfl hs l L.kind (λy hy hl=>mem_lookup L.nod (by grind)) (wpAny_mono (hi j s σ H _ I h) (λv s1 h1=>wpAny_mono h1 (λitv Z h2=>?_) λ_ _ e=>e) λ_ _ e=>e)
 obtain⟨it,fp,tn,J,H2,rfl,N,T,O,w,W,w0,B⟩:=h2
 refine Zf (F:=λa H=>∀p,H p=none->Q (.ref p) (upd H p (.lst a))) (RR:=λa C=>compPost (model X.prog X.w) X.A X.xe none (EP X j σ Q) a C) (xc:=xcK X E) L hc hg ht he c1 c2 N T O w W w0 B ?_ (λD C k ev s' P h=>B2l hx hst N w P h)
 intro D C s' a z n R m hD P S hn V rv hz d hC' ho M i hk q
 refine⟨m,hn,λK f=>?_⟩
 have eD:K.get? D=some { cls:=.type "list",data:=.seq z.toArray n }:=f.extBut _ _ S V
 have Y:HOk X.prog X.w R K:=λb u e=>by
  refine (hk b u e).stay (λc v hc q=>f.extBut c v ?_ q) (λ_ q=>q) λ_ _ q=>q
  grind
 have U:HOk X.prog X.w (upd R D (.lst a)) K:=Y.track d ⟨hz,z,n,rv,eD⟩
 have r:∀b o,Z.heap.get? b=some o->b≠C:=λb o e=>aD (aA (Heap.lt_size e) P)
 have neD:∀b o,Z.heap.get? b=some o->b≠D:=λb o e=>aD (aA (Heap.lt_size e) hD)
 have u2:Un (frs X.stack) fp H2 (upd R D (.lst a)) Z.heap K :=
  ⟨
   λb o e t A n3=>f.extBut b o (r b o e) (i.keep b o e t A n3),λb o e t A n3=>let ⟨sl,q⟩:=i.slot b o e t A n3; ⟨sl,f.extBut b _ (r b o e) q⟩,
   λb o e t A=>by rw[Ak (neD b o e)];exact i.free b o e t A,λb o e t=>let ⟨o',q⟩:=i.there b o e t; ⟨o',f.extBut b _ (r b o e) q⟩,
   λb xs e=>by rw[Ak (Ay (i.tups b _ e) d)];exact i.tups b _ e,λb o u e=>by rw[Ak (Ay (i.frzs b o u e) d)];exact i.frzs b o u e,
   λb ps e=>by rw[Ak (Ay (i.tbls b _ e) d)];exact i.tbls b _ e⟩
 refine⟨.ref D,upd _ D _,N.call' ho u2 U M λb G=>⟨(w b G).2.2.2.1,(w b G).2.1,(w b G).2.2.2.2.1,(w b G).2.2.2.2.2⟩,rfl,q D d⟩
end
section
variable {X:Cx}{N':v4}{idx:o4}{scope:Scope}{elt tg iter:Expr}{ifs:v_}{pos:Pos}{wi:TI}{g:TG}{tc:TT}{te:TE}{E:XK}
theorem B1j (L:Gj X N' idx scope)(hc:X.calm=true)(hi:QI X tg iter wi)(hg:∀d C b a c,QG (By X N' scope d C b a c) tg g)(ht:∀d C b a c,QTs (By X N' scope d C b a c) ifs tc)(hx:∀fl,Hi (CXg X.prog X.w fl) X E)(he:∀d C b a c,QE ((By X N' scope d C b a c).wish (xcK X E (By X N' scope d C b a c))) elt te)(hst:X.stack=X.env::X.outer/\X.env.frame=some X.env.locals:=by exact⟨rfl,rfl⟩)(hs:∀x,foldedSetIterable iter X.env x=pure x:=by intro _;rfl):QE X (.ListComp elt [⟨tg,iter,ifs,0⟩] scope pos) (tLC idx wi g tc te) :=
 ⟨B3j (L:=L) (hc:=hc) (hi:=hi.get) (hg:=λd C b a c=>(hg _ C _ _ _).get) (ht:=λd C b a c=>(ht _ C _ _ _).get) (hx:=hx) (hst:=hst) (he:=λd C b a c=>(he _ C _ _ _).get) (hs:=hs)⟩
end
end L2
namespace U
open PySem L2 PySem.W
section
variable {K:v9}{E:XK}
def Qp (g:o7)(ft:n7)(F:w5->XF)(fa:n6):w5->Ev->Option (Xn×Ev)
 | [],_=>none
 | d::ds,c=>match g (.o (.im d)) c with
  | .bad=>none
  | .ok _ c=>match ft c with
   | .bad=>none
   | .ok false c=>Qp g ft F fa ds c
   | .ok true c=>match fa c with
    | .bad=>none
    | .ok ps c=>match Ov c ps with
     | none=>none
     | some es=>match F es with
      | .ex nm=>some (nm,c)
      | .ret (.im _)=>Qp g ft F fa ds c
      | _=>none
def Rg (idx:o4)(fi:Ev->R (w5))(g:o7)(ft:n7)(F:w5->XF)(fa:n6)(vs:List Nat)(f:Ev->SR):Ev->XS:=λc=>match fi c with
 | .bad=>.s .bad
 | .ok ds c1=>if ds.length<=16000000 then match Qp g ft F fa ds (cIn idx c1) with
  | none=>.s (f c)
  | some (nm,cI)=>if vs.all (λi=>match c[i]? with | some (some _)=>true | _=>false) then match Gs cI (pairsOf 0 idx) c1 with
   | none=>.s .bad
   | some c2=>.ex nm c2
   else .s .bad
  else .s .bad
theorem Zk {idx:o4}{wi:TI}{t:TG}{tc:TT}{ta:TA}{fi:Ev->R (w5)}{g:o7}{ft:n7}{F:w5->XF}{Z:n6}{vs:List Nat}{T:TS}{f:Ev->SR}(hnd:((pairsOf 0 idx).map (·.2)).Nodup)(hi:MI K wi fi)(hg:MG K t g)(ht:MT K tc ft)(ha:MA K ta Z)(hm:MS K T f)
 (hx:∀(M:St) (H:Hp) (D:Ends),(∀i∈vs,∃v,M[i]?=some (some v))->(∀Q,tLC idx wi t tc (Le (spX K F) [] E ta) M H Q)->T D M H):MX K E T (Rg idx fi g ft F Z vs f):=by
 intro β W c M D R l;unfold Rg at l
 cases e:fi c with
 | bad=>rw[e]at l;exact l.elim
 | ok B c1 =>
 rw[e]at l
 dsimp only at l
 split at l
 ·rename_i hl
  cases ex:Qp g ft F Z B (cIn idx c1) with
  | none=>simp only[ex]at l;exact hm β W c M D R l
  | some r =>
  obtain⟨nm,cI⟩:=r;simp only[ex]at l
  split at l
  ·rename_i hv
   cases eb:Gs cI (pairsOf 0 idx) c1 with
   | none=>simp only[eb]at l;exact l.elim
   | some cO =>
   simp only[eb]at l
   refine hx M W.H D (λi hi=>?_) λQ=>?_
   ·have:=aL.mp hv i hi
    split at this
    ·rename_i o ho
     obtain⟨v,h1,_⟩:=R.get i o ho;exact⟨v,h1⟩
    ·cases this
   ·refine hi β W c M _ R ?_
    rw[e];intro J W1 st1 R1 it;have L:=A0a (idx:=idx) R1 hnd
    let A:Nat->V:=λk=>(((cst idx M)[k]?).join).getD .non
    have RI:=L.rep R1
    let s:Wo:=⟨W1.Hf,W1.H,Sy (pairsOf 0 idx) c1 W1.fps⟩
    refine⟨λi m y vs H=>∃j O,j.H=H/\Rep K A j O y/\m=B.length-i/\i<=B.length/\vs.length<=i/\Stp s.S s.Hf s.H j.S j.Hf j.H/\Qp g ft F Z (B.drop i) O=some (nm,cI),
     ⟨_,s,cIn idx c1,rfl,RI,rfl,aB _,ak _,Stp.refl,ex⟩,?_⟩
    rintro i m y vs H ⟨j,O,rfl,R2,rfl,hle,hvs,st2,h⟩
    obtain⟨hstop,hgo⟩:=it i j.Hf j.H st2.fz R2.sub
    by_cases lt:i<B.length
    ·obtain⟨q1,q2⟩:=hgo B[i] (aU lt)
     refine .inr ⟨q1,aA (bD hvs (aA lt hl)) (by decide),λy vs p=>∃j O,j.H=p/\Rep K A j O y/\vs.length<=i+1/\Stp s.S s.Hf s.H j.S j.Hf j.H/\Qp g ft F Z (B.drop (i+1)) O=some (nm,cI),
      λy acc' p ⟨S,c3,e3,R3,h3,w,f3⟩=>⟨B.length-(i+1),by lia,S,c3,e3,R3,rfl,by lia,h3,w,f3⟩,λx p hy=>?_⟩
     obtain⟨U,w,sub3,tx⟩:=q2 x p hy;have R3:=w.rep R2 sub3
     have stx:Stp j.S j.Hf j.H (Wo.S ⟨U,p,j.fps⟩) U p:=⟨w.fz,λa o e _=>w.kp a o e λz=>z,λa o e mu _ q=>w.nf a o e mu (λz=>z) q,λa z=>.inl z⟩
     rw[K4 lt]at h;unfold Qp at h
     refine hg A ⟨U,p,j.fps⟩ O y (.o (.im B[i])) x [] _ R3 ⟨⟨rfl,tx⟩,λa z=>nomatch z⟩ ?_
     cases eg:g (.o (.im B[i])) O with
     | bad=>rw[eg]at h;cases h
     | ok u c3 =>
      rw[eg]at h
      dsimp only at h
      intro I S X R4
      have X:=X.up (S2:=j.S) λa z=>by
       rcases z with z | z
       ·exact z
       ·cases z
      refine ht A S c3 I _ R4 ?_
      cases et:ft c3 with
      | bad=>rw[et]at h;cases h
      | ok b c4 =>
       rw[et]at h;intro W4 st5 R5;have N:Stp s.S s.Hf s.H W4.S W4.Hf W4.H:=st2.trans (stx.trans (X.trans st5))
       cases b with
       | false=>rw[if_neg (by decide)];exact⟨W4,c4,rfl,R5,by lia,N,h⟩
       | true =>
        rw[if_pos rfl]
        dsimp only at h
        show ta I W4.H λvs H1=>spX K F (vs++[]) H1 _ E
        simp only[cA]
        refine ha A W4 c4 I _ R5 ?_
        cases ef:Z c4 with
        | bad=>rw[ef]at h;cases h
        | ok ps c5 =>
         rw[ef]at h
         dsimp only at h
         intro ys W5 st6 R6 r6
         cases ea:Ov c5 ps with
         | none=>simp only[ea]at h;cases h
         | some es =>
          simp only[ea]at h
          refine⟨W5.Hf,es,R6.sub,Ot R6 r6 ea,?_⟩
          have go:∀{n p:Hp},Stp (λ_=>False) W5.Hf W5.H (λ_=>False) n p->Same n p->Stp s.S s.Hf s.H (Wo.S ⟨n,p,W5.fps⟩) n p/\Rep K A ⟨n,p,W5.fps⟩ c5 I:=λ{n p} P G =>
           ⟨N.trans (st6.trans ⟨P.fz,λa o e _=>P.kp a o e λz=>z,λa o e mu _ q=>P.nf a o e mu (λz=>z) q,λa z=>.inl z⟩),Stp.rep R6 P G⟩
          split at h
          ·rename_i nm' eF
           rw[eF]
           cases h
           intro C d n p hn P G;obtain⟨s3,R7⟩:=go P G
           obtain⟨S,e1,e2,R8,Y,_⟩:=L.back (fp:=[]) R1 R7 (s3.less λa z=>by
            rcases z with z | z
            ·exact z
            ·cases z) eb (λk i b B v hm _ hv=>by
             have:=(Ez hm).2;rw[cP]at this
             rw[Ac9 this hv];rfl) λa z=>nomatch z
           have Y:Stp W1.S W1.Hf W1.H S.S S.Hf S.H:=by
            rw[e1,e2];exact Y.less λa z=>.inl z
           have:=l C d _ _ (by rw[e1];exact hn) (st1.trans Y) R8
           rw[e2]at this;exact this
          ·rename_i d eF
           rw[eF];intro v n p fp P G r
           obtain⟨s3,R7⟩:=go (P.less λa z=>nomatch z) G
           exact⟨⟨n,p,W5.fps⟩,c5,rfl,R7,by rw[bh,cW];lia,s3,h⟩
          ·cases h
    ·have e:i=B.length:=by lia
     subst e;rw[dw]at h
     cases h
  ·exact l.elim
 ·exact l.elim
def Ak5 (F:w5->XF)(fa:n6):Ev->XS:=Tu F fa (λo c=>.s (.rt (.o o) c)) .ex
def Aj3 (F:w5->XF)(fa:n6)(i:Nat):Ev->XS:=Tu F fa (λo c=>.s ((cgN i (.o o) c).toS λ_ c=>.nx c)) .ex
def Xo (F:w5->XF)(fa:n6):Ev->XS:=Tu F fa (λ_ c=>.s (.nx c)) .ex
theorem A0s {F:w5->XF}{t:TA}{g:n6}(ha:MA K t g):MX K E (Bq2 (Le (spX K F) [] E t)) (Ak5 F g):=by
 intro m W c k D R l
 have:=Q9 ha R l (λo j i v b e f r=>f _ v _ _ (b.less λa z=>Oo z) e r)
  (λn j i C d b e f h=>f C d _ _ h b e)
 show t _ _ _
 simp_all
theorem Ax9 {F:w5->XF}{t:TA}{h:n6}{i:Nat}(ha:MA K t h):MX K E (Ym (Le (spX K F) [] E t) (J5 i)) (Aj3 F h i):=by
 intro y W c B D R l
 have:=Q9 (Q:=λv j=>D.nx _ j) ha R l (λo k m v f b e r=>by
  refine Ci _ _ _ _ _ v _ _ b r ((Ey (show zL K _ W D _ from e)).mono λ_ x n p w g q=>?_)
  exact n _ _ (f.trans (g.up λa z=>Oo z)) q)
  (λA k m C d f b e s=>e C d _ _ s f b)
 show t _ _ λG u=>spX K F _ _ (λv j=>D.nx _ _) E
 grind
theorem Vw {F:w5->XF}{t:TA}{f:n6}(ha:MA K t f):MX K E (A8j (Le (spX K F) [] E t)) (Xo F f):=by
 intro k W c j D R l
 have:=Q9 ha R l (λo i h v a b e r=>e _ _ a b)
  (λm i h C d a b e g=>e C d _ _ g a b)
 show t _ _ _
 simp_all
end
variable {K:v9}
noncomputable def V0 (ss:v4):t_->m7
 | .tuple ds=>if ss≠[]/\ds≠[]/\ss.length+ds.length<=16000000 then some (.im (.tuple (ss.map PyData.str++ds))) else none
 | _=>none
theorem A0f {Hf:Hp}:∀ss:v4,TrL Hf (ss.map PyData.str) (ss.map V.str)
 | []=>rfl
 | s::ss=>⟨_,_,rfl,rfl,A0f ss⟩
theorem A1j {c:TE}{fe:n8}{p:Addr}{ss:v4}(he:ME K c fe)(hp:∀H,SqT K H p (ss.map V.str)):ME K (tOp (A0u K) (tC (.ref p)) c) (cUn (V0 ss) fe) :=
 Ms he λHf H x d o Q s r e n=>by
  unfold V0 at e
  split at e
  ·split at e
   ·rename_i b
    cases e
    obtain⟨a,f,rfl,g,t⟩:=Ig s r;have i := t.length.symm
    have j:f≠[]:=λz=>b.2.1 (List.eq_nil_of_length_eq_zero (by grind))
    refine⟨p,a,ss.map _,f,rfl,rfl,hp H,SqT.of g,λz=>b.1 (List.map_eq_nil_iff.mp z),by rw[ao,i];exact aj b.2.2 (by decide),λz=>absurd z j,λ_ q h=>?_⟩
    exact n.tup s ((A0f _).app t) h
   grind
  grind
end U
namespace L2
open PySem PySem.Spec PyProof.Rows
abbrev G5:=Option Key
def nIs:G5->Value->Bool
 | none,.none=>true
 | none,_=>false
 | some k,v=>M8 k v
def nV:G5->V
 | none=>.non
 | some k=>kV k
theorem Fd:∀{k:G5}{v:Value},nIs k v=true->(k=none/\v=Value.none)\/∃z,k=some z/\M8 z v=true
 | none,v,h=>by
  cases v <;> first | exact .inl ⟨rfl,rfl⟩ | cases h
 | some z,v,h=>.inr ⟨z,rfl,h⟩
theorem B5f {k:G5}{u:Value}(r:RelV (nV k) u):nIs k u=true:=by
 cases k with
 | none=>cases (r);rfl
 | some z =>
  cases z with
  | inl i=>obtain⟨t,e⟩:=(r);subst e;exact Yy i t
  | inr x=>obtain⟨t,e⟩:=(r);subst e;exact Yv x t
theorem Bx0 {k:G5}{u:Value}(h:nIs k u=true):RelV (nV k) u:=by
 rcases Fd h with ⟨rfl,rfl⟩ | ⟨z,rfl,h⟩
 ·trivial
 ·rcases Dd h with ⟨i,t,rfl,rfl⟩ | ⟨x,t,rfl,rfl⟩ <;> exact⟨t,rfl⟩
theorem B4h (a b:Key):decide ((some a:G5)=some b)=decide (a=b):=by
 grind
def Bs9 (prog:u6)(w:World):KeyKind prog w G5 where
 is:=nIs
 hash:=λk=>match k with
  | none=>hashInt 0xFCA86420
  | some z=>B5e w z
 inj:=λv a b ha hb=>by
  rcases Fd ha with ⟨rfl,rfl⟩ | ⟨z,rfl,ha⟩
  ·rcases Fd hb with ⟨rfl,_⟩ | ⟨z,rfl,hb⟩
   ·rfl
   ·cases z <;> cases hb
  ·rcases Fd hb with ⟨rfl,rfl⟩ | ⟨y,rfl,hb⟩
   ·cases z <;> cases ha
   ·rw[(Gk prog w).inj v z y ha hb]
 byValue:=λk v h=>by
  rcases Fd h with ⟨rfl,rfl⟩ | ⟨z,rfl,h⟩
  ·rfl
  ·exact(Gk prog w).byValue z v h
 pyHash:=λhv h=>by
  rcases Fd hv with ⟨rfl,rfl⟩ | ⟨z,rfl,hv⟩
  ·exact A1t h
  ·exact(Gk prog w).pyHash hv h
 eqBool:=λ{A E s a b u v Q} hu hv h=>by
  rcases Fd hu with ⟨rfl,rfl⟩ | ⟨z,rfl,hz⟩
  ·rcases Fd hv with ⟨rfl,rfl⟩ | ⟨y,rfl,hy⟩
   ·exact SeqAt.EqAt.same _ _ _ _ _ h
   ·rcases Dd hy with ⟨i,t,rfl,rfl⟩ | ⟨x,t,rfl,rfl⟩
    ·exact SeqAt.EqAt.none_int i t _ _ _ _ h
    ·exact SeqAt.EqAt.none_str x t _ _ _ _ h
  ·rcases Fd hv with ⟨rfl,rfl⟩ | ⟨y,rfl,hy⟩
   ·rcases Dd hz with ⟨i,t,rfl,rfl⟩ | ⟨x,t,rfl,rfl⟩
    ·exact SeqAt.EqAt.int_none i t _ _ _ _ h
    ·exact SeqAt.EqAt.str_none x t _ _ _ _ h
   ·rw[B4h]at h
    exact(Gk prog w).eqBool hz hy h
 «strs»:=λk x t v h=>by
  rcases Fd h with ⟨_,e⟩ | ⟨z,rfl,h⟩
  ·cases e
  ·exact(Gk prog w).strs z x t v h
noncomputable def tkv (ks:List G5):List (G5×Value):=ks.map λk=>(k,Value.bool true)
noncomputable def Ad6 (ks:List G5) (k:G5):List G5:=if ks.any (λx=>decide (x=k))=true then ks else ks++[k]
theorem Ar2 (ks:List G5)(k:G5):stored (tkv ks) k (.bool true)=tkv (Ad6 ks k):=by
 unfold stored Ad6 tkv
 by_cases h:ks.any λx=>decide (x=k)=true
 ·simp_all
 simp_all
def dN (P:u6)(w:World)(a:Addr)(ks:List G5):Heap->Prop:=λh=>ks.length<=sizeLine/\(a==sysModules)=false/\h.DictOf (Bs9 P w) a (tkv ks)
theorem B4s {P:u6}{w:World}{a:Addr}{ks:List G5}{h1 h2:Heap}(x:dN P w a ks h1)(k:∀o,h1.get? a=some o->h2.get? a=some o):dN P w a ks h2:=⟨x.1,x.2.1,x.2.2.at k⟩
theorem Bs6 {P:u6}{w:World}{H:Hp}{h:Heap}{a:Addr}{ks:List G5}(x:dN P w a ks h):zA P w H h a (.ext (dN P w a ks)) :=
 ⟨x,let ⟨o,_,_,e,_⟩:=x.2.2; ⟨o,e⟩,λ_ _ y k=>B4s y k⟩
def As5 (P:u6)(w:World):TE:=λ_ H Q=>∀p,H p=none->Q (.ref p) (upd H p (.ext (dN P w p [])))
def A6f (P:u6)(w:World)(td ty tv:TE):TS:=λD σ H=>tv σ H λv H1=>td σ H1 λx H2=>ty σ H2 λy H3=>∃a ks k,v=.bl true/\x=.ref a/\H3 a=some (.ext (dN P w a ks))/\y=nV k/\ks.length<sizeLine/\D.nx σ (upd H3 a (.ext (dN P w a (Ad6 ks k))))
def Bu6 (P:u6)(w:World)(td:TE):TE:=λσ H Q=>td σ H λx H1=>∃a ks,x=.ref a/\H1 a=some (.ext (dN P w a ks))/\∀p,H1 p=none->Q (.ref p) (upd H1 p (.tup (ks.map nV)))
theorem Ah9 (ks:List G5)(k:G5):(Ad6 ks k).length<=ks.length+1:=by
 unfold Ad6
 grind
theorem Xp {P:u6}{w:World}:∀{es:List DictEntry}{ks:List G5},Pairs (Bs9 P w) es (tkv ks)->Vals (ks.map nV) (es.map (·.key))
 | [],[],_=>.nil
 | _::_,_::_,.cons h _ t=>.cons (Bx0 h) (Xp t)
section
variable {X:Cx}{o i e value:Expr}{pos pos':Pos}{td ty tv te:TE}
theorem Ba8:PE X (.Dict [] [] pos) (As5 X.prog X.w):=λa s b H Q I h =>
 wpAny_Dict_empty ⟨.ref _,_,I.laid (λ_ _ q=>Heap.get?_push_of_some _ q) (ak _)
  (Bs6 ⟨aB _,cR.mpr (aC (aD I.big)),Heap.DictOf.new _⟩),rfl,h _ (I.hok.fresh (ak _))⟩
theorem Bp6 (ho:PE X o td)(hi:PE X i ty)(hv:PE X value tv)(hs:swapsWith value (some (.Subscript o i pos')) pos.line X.env=pure false) :
 PS X (.Assign [.Subscript o i pos'] value pos) (A6f X.prog X.w td ty tv):=by
 intro b s d H D I h
 refine wpAny_Assign_Subscript (thn (hv b s d H _ I h) λr g ⟨v,E,C,j,l⟩=>thn (ho b g d E _ C l) λu m ⟨x,n,p,t,w⟩=>thn (hi b m d n _ p w) λQ O ⟨y,N,e,F,a,P,k,G,A,f,B,K,J⟩=>?_) hs
 subst G A B
 cases (show u=Value.ref a from t)
 cases (show r=Value.bool true from j)
 obtain⟨⟨z,L,M⟩,_⟩:=(show zA _ _ _ _ a _ from e.hok a _ f)
 refine wpAny_setItem_pairs (hsz:=by rw[tkv];grind) (B5f F) M λR c hs=>⟨d,_,?_,J⟩
 rw[Ar2]at c
 exact Br9 e (by rw[f];trivial) hs (let ⟨q,_,_,hq,_⟩:=c; ⟨q,hq⟩) (Bs6 ⟨aj (Ah9 _ k) K,L,c⟩)
theorem Bl2 {p:Pos}(hc:X.calm=true)(hg:Gl X "tuple") (hm:X.mg "tuple" = none) (he:QE X e te) (hs1:isStar e=false:=by rfl):QE X (.Call (.Name "tuple" p) [e] [] pos) (Bu6 X.prog X.w te):=by
 refine⟨?_⟩
 intro g s y H Q I h;have f:=Hs (es:=[]) (env:=X.env) hs1
 refine Call_ (Kl I hg hm M6 (dF ?_ f rfl))
 rw[f]
 show wpAny _ _ (spliced ((false,eval e X.env)::backTo pos (starEach [] X.env))) _ _ s
 refine Calls.spliced_cons (thn (he.1 g s y H _ I h) λu m ⟨v,A,r,F,a,k,N,P,q⟩=>Calls.spliced_nil ?_)
 subst N
 cases (show u=Value.ref a from F)
 obtain⟨⟨z,x,o,j,R,B,C,D,_,E,_⟩,_⟩:=(show zA X.prog X.w A m.heap a (.ext (dN X.prog X.w a k)) from r.hok a _ P)
 have n:=Xp E
 have G:j.size=k.length:=by have l:=n.length;rw[ao,ao,dY]at l;exact l.symm
 refine Yn (I.ok.hd hc) x B C D (by rw[G];exact z) λJ L d M c=>?_
 have K:d.toList=j.toList.map (·.key):=by
  apply List.ext_getElem
  ·rw[ao];exact c.1
  ·intro i T U
   obtain⟨S,O⟩:=c.2 i _ (Array.getElem?_eq_getElem _);rw[Array.getElem_toList,O,gb];rfl
 have t:Inv X _ _ _ { m with heap:=J,toks:=L }:=r.kept M
 have w := t.hok.fresh (ak _)
 refine⟨.ref _,upd _ _ _,t.laid (λb u e=>Heap.get?_push_of_some _ e) (ak _) ?_,rfl,q _ w⟩
 exact⟨by rw[ao];exact z,d.toList,by rw[K];exact n,_,Heap.get?_push_size _ rfl,rfl,⟨0,by simp⟩,rfl⟩
theorem A8e:QE X (.Dict [] [] pos) (As5 X.prog X.w):=⟨Ba8⟩
theorem Bl7 (ho:QE X o td)(hi:QE X i ty)(hv:QE X value tv)(hs:swapsWith value (some (.Subscript o i pos')) pos.line X.env=pure false:=by rfl) :
 QS X (.Assign [.Subscript o i pos'] value pos) (A6f X.prog X.w td ty tv):=⟨Bp6 ho.get hi.get hv.get hs⟩
end
end L2
namespace U
open PySem L2 PySem.W
noncomputable def A7l:t_->Bool
 | .none=>true
 | .int _=>true
 | .str _=>true
 | _=>false
noncomputable def Qi:w5->w5->w5
 | ks,[]=>ks
 | ks,d::ds=>Qi (if ks.any (λk=>PyData.eqv k d)=true then ks else ks++[d]) ds
noncomputable def nD:G5->t_
 | none=>.none
 | some (.inl i)=>.int i
 | some (.inr x)=>.str x
theorem Bi8 {d:t_}(h:A7l d=true):∃k,d=nD k:=by
 cases d with
 | none=>exact⟨none,rfl⟩
 | int i=>exact⟨some (.inl i),rfl⟩
 | str x=>exact⟨some (.inr x),rfl⟩
 | _=>cases h
theorem Ae1:∀k,keyB (nD k)=true
 | none=>rfl
 | some (.inl _)=>rfl
 | some (.inr _)=>rfl
theorem Bx1:∀{a b:G5},nD a=nD b->a=b
 | none,none,_=>rfl
 | none,some (.inl _),e=>nomatch e
 | none,some (.inr _),e=>nomatch e
 | some (.inl _),none,e=>nomatch e
 | some (.inr _),none,e=>nomatch e
 | some (.inl _),some (.inr _),e=>nomatch e
 | some (.inr _),some (.inl _),e=>nomatch e
 | some (.inl _),some (.inl _),e=>by injection e with e;rw[e]
 | some (.inr _),some (.inr _),e=>by injection e with e;rw[e]
theorem B4f {Hf:Hp}:∀{k:G5}{v:V},Tr Hf (nD k) v->v=nV k
 | none,_,h=>h
 | some (.inl _),_,h=>h
 | some (.inr _),_,h=>h
theorem B6a {Hf:Hp}:∀{k:G5},Tr Hf (nD k) (nV k)
 | none=>rfl
 | some (.inl _)=>rfl
 | some (.inr _)=>rfl
theorem A8b {Hf:Hp}:∀(ks:List G5),TrL Hf (ks.map nD) (ks.map nV)
 | []=>rfl
 | k::ks=>⟨nV k,ks.map nV,rfl,B6a,A8b ks⟩
theorem B0o (ks:List G5)(k:G5):(if (ks.map nD).any (λx=>PyData.eqv x (nD k))=true then ks.map nD else ks.map nD++[nD k])=(Ad6 ks k).map nD:=by
 have e:(ks.map nD).any (λx=>PyData.eqv x (nD k))=ks.any λx=>decide (x=k):=by
  rw[e_]
  refine bA _ (funext λx=>?_)
  by_cases h:x=k
  ·rw[aK h,h];exact(Ac1 _ _ (Ae1 k) (Ae1 k)).mpr rfl
  ·rw[aH h]
   exact Bool.eq_false_iff.mpr λz=>h (Bx1 ((Ac1 _ _ (Ae1 x) (Ae1 k)).mp z))
 unfold Ad6
 grind
section
variable {K:v9}{β:Nat->V}{W W1:Wo}{c:Ev}{σ:St}{D:Ends}{P:u6}{w:World}{d e:Nat}{a:Addr}{ks:List G5}
theorem Rep.blot (R:Rep K β W c σ){v:V}:Rep K β W (c.set e none) (σ.set e (some v)):=by
 refine⟨R.sub,by rw[bK,bK];exact R.len,λj a q=>?_,R.dis,R.own⟩
 have z:e≠j:=λz=>by
  grind
 rw[bN z]at q ⊢;exact R.get j _ q
theorem Rep.blotC (R:Rep K β W c σ):Rep K β W (c.set e none) σ:=by
 refine⟨R.sub,by rw[bK];exact R.len,λj a q=>?_,R.dis,R.own⟩
 have z:e≠j:=λz=>by
  grind
 rw[bN z]at q;exact R.get j _ q
structure DN (P:u6) (w:World) (W:Wo) (a:Addr) (ks:List G5):Prop where
 at_:W.H a=some (.ext (dN P w a ks))
 fr:W.Hf a=none
 ns:¬ W.S a
theorem DN.step (h:DN P w W a ks)(st:Stp W.S W.Hf W.H W1.S W1.Hf W1.H):DN P w W1 a ks :=
 ⟨st.kp a _ h.at_ h.ns,st.nf a _ h.at_ trivial h.ns h.fr,λz=>by
  rcases st.fr a z with q | q
  ·exact h.ns q
  ·rw[h.at_]at q;grind⟩
def A9k (d e:Nat)(fi:Ev->R (w5)):Ev->SR:=λc=>if d<c.length/\e<c.length then (fi (c.set d none)).toS λds c=>if (ds.all A7l&&decide (ds.length<16000000))=true then .rt (.o (.im (.tuple (Qi [] ds)))) (c.set e none) else .bad
 else .bad
theorem A0d {wi:TI}{fi:Ev->R (w5)}{tv:TE}(hi:MI K wi fi)(ne:d≠e)(ht:∀h H Q,Q (.bl true) H->tv h H Q) :
 MS K (A4j (Ym (As5 P w) (J5 d)) (A4j (Bj5 wi (J5 e) (A6f P w (Qx d) (Qx e) tv)) (Bq2 (Bu6 P w (Qx d))))) (A9k d e fi):=by
 intro β W c h D R l;unfold A9k at l
 by_cases hde:d<c.length/\e<c.length
 ·rw[if_pos hde]at l
  obtain⟨hdl,hel⟩:=hde
  show ∀p,W.H p=none->wi (h.set d (some (.ref p))) (upd W.H p (.ext (dN P w p []))) _
  intro p I
  have R0:Rep K β ⟨W.Hf,upd W.H p (.ext (dN P w p [])),W.fps⟩ (c.set d none) (h.set d (some (.ref p))) :=
   (R.blot (e:=d) (v:=.ref p)).frame (Same.refl _) (Uk R.sub I) λb ⟨i,E⟩=>by
    obtain⟨z,o,q,_⟩:=R.own i b E;exact⟨z,Ak (Ay q I)⟩
  have hs:(h.set d (some (.ref p)))[d]?=some (some (V.ref p)):=bU (by rw[<- R.len];exact hdl)
  have D0:DN P w ⟨W.Hf,upd W.H p (.ext (dN P w p [])),W.fps⟩ p []:=⟨Bd,R.notF I,R.notS I⟩
  have st0:Stp W.S W.Hf W.H (orS W.S [p]) W.Hf (upd W.H p (.ext (dN P w p []))) :=
   ⟨Same.refl _,λb o q _=>by rw[Ak (Ay q I)];exact q,λ_ _ _ _ _ q=>q,λb z=>by
    rcases z with z | z
    ·exact .inl z
    ·cases aJ.mp z;exact .inr I⟩
  refine hi β _ _ _ _ R0 ((Ey l).mono λg c1 l1 J W1 O R1 it=>?_)
  by_cases E:(g.all A7l&&decide (g.length<16000000))=true
  ·rw[if_pos E]at l1
   obtain⟨hk,hn⟩:=au.mp E;have hn:=aR hn
   refine⟨λi m h H=>∃f r,f.H=H/\Rep K β f (c1.set e none) h/\m=g.length-i/\i<=g.length/\Same W1.Hf f.Hf/\h[d]?=some (some (.ref p))/\DN P w f p r/\r.length<=i/\Qi (r.map nD) (g.drop i)=Qi [] g/\Stp W.S W.Hf W.H (orS f.S [p]) f.Hf f.H,
    ⟨_,W1,[],rfl,R1.blotC,rfl,aB _,Same.refl _,hs,D0.step O,aB _,rfl,st0.trans (Stp.more (F:=λb=>b∈[p]) O)⟩,?_⟩
   rintro i m h H ⟨f,r,rfl,M,rfl,hle,sm,U,L,S,ek,N⟩
   obtain⟨C,hgo⟩:=it i f.Hf f.H sm M.sub
   by_cases lt:i<g.length
   ·obtain⟨q1,q2⟩:=hgo g[i] (aU lt)
    refine .inr ⟨q1,λG y=>∃f r,f.H=y/\Rep K β f (c1.set e none) G/\Same W1.Hf f.Hf/\G[d]?=some (some (.ref p))/\DN P w f p r/\r.length<=i+1/\Qi (r.map nD) (g.drop (i+1))=Qi [] g/\Stp W.S W.Hf W.H (orS f.S [p]) f.Hf f.H,
     λG y ⟨W3,k3,y1,T,s3,y2,y3,y4,y5,y6⟩=>⟨g.length-(i+1),by lia,W3,k3,y1,T,rfl,by lia,s3,y2,y3,y4,y5,y6⟩,λx y hy=>?_⟩
    obtain⟨A,t,B,tx⟩:=q2 x y hy;have T:=t.rep M B
    have X:Stp f.S f.Hf f.H (Wo.S ⟨A,y,f.fps⟩) A y:=⟨t.fz,λa o e _=>t.kp a o e λz=>z,λa o e mu _ q=>t.nf a o e mu (λz=>z) q,λa z=>.inl z⟩
    have s:=L.step (W1:=⟨A,y,f.fps⟩) X;obtain⟨k,Y⟩:=Bi8 (aL.mp hk g[i] (cB lt));rw[Y]at tx
    cases B4f tx
    have R4:=T.blot (e:=e) (v:=nV k);rw[List.set_set]at R4
    have hl4:e<h.length:=by
     have z1:=M.len;have z2:=R1.len;have z3:=R.len;rw[bK]at z1 z2;lia
    have Z:(h.set e (some (nV k)))[d]?=some (some (.ref p)):=by rw[bN (aC ne)];exact U
    show tv (h.set e (some (nV k))) y _
    refine ht _ _ _ ⟨_,Z,_,bU hl4,p,r,k,rfl,rfl,s.at_,rfl,bD (aj S (bM lt)) (aA hn (lim (ak _))),?_⟩
    have hH:∀b,b≠p->upd _ p (.ext (dN P w p (Ad6 r k))) b=y b:=λb n=>Ak n
    refine⟨⟨A,upd _ p _,f.fps⟩,Ad6 _ k,rfl,R4.frame (Same.refl _) (λb u q=>?_) λb E=>?_,sm.trans t.fz,Z,⟨Bd,s.fr,s.ns⟩,aj (Ah9 _ k) (gf S),?_,?_⟩
    ·rw[hH b (λz=>nomatch (show (none:Option _)=some u from (s.fr)▸z▸q))];exact B b u q
    ·obtain⟨j,hj⟩:=E
     exact⟨(R4.own j b hj).1,hH b λz=>s.ns (z▸⟨j,hj⟩)⟩
    ·rw[K4 lt,Y]at ek
     rw[<- ek,<- B0o];rfl
    ·refine (N.trans (Stp.more X)).trans ⟨Same.refl _,λb o q n=>?_,λ_ _ _ _ _ q=>q,λ_ z=>.inl z⟩
     show upd _ p _ b=_
     rw[hH b λz=>n (.inr (by rw[z];exact .head _))];exact q
   ·have e1:i=g.length:=by lia
    subst e1;rw[dw]at ek
    refine .inl ⟨C rfl,_,U,p,r,rfl,L.at_,λz hz=>?_⟩
    refine New.tup (New.of M λv W3 fp st3 T r3=>l1 _ v _ _ ?_ T r3) M.sub (ek▸A8b _) hz
    exact(N.less λb z=>.inl z).trans st3
  ·rw[if_neg E]at l1;exact l1.elim
 ·rw[if_neg hde]at l;exact l.elim
end
end U
namespace PS
open PySem PySem.W PyProof.Rows L2
section
variable {α β:Type}{n:Nat}{p:Array Nat}
def Tot (n:Nat)(Q:α->Prop):KasT α->Prop
 | .ret a=>Q a
 | .ask i j k=>i<n/\j<n/\∀b,Tot n Q (k b)
theorem A8y {Q:α->Prop}{B:Nat->Nat->Option Bool}(hB:∀i j,i<n->j<n->∃b,B i j=some b):∀t:KasT α,Tot n Q t->∃a,kEv B t=some a/\Q a
 | .ret a,h=>⟨a,rfl,h⟩
 | .ask i j k,⟨h1,h2,h3⟩=>by
  obtain⟨b,e⟩:=hB i j h1 h2;obtain⟨a,e2,q⟩:=A8y hB (k b) (h3 b)
  exact⟨a,by show (B i j).bind _=_;rw[e];exact e2,q⟩
theorem K9 {Q:β->Prop}{f:α->KasT β}:∀t:KasT α,Tot n (λa=>Tot n Q (f a)) t->Tot n Q (t.bind f)
 | .ret a,h=>h
 | .ask i j k,⟨h1,h2,h3⟩=>⟨h1,h2,λb=>K9 (k b) (h3 b)⟩
def Pm (n:Nat)(p:Array Nat):Prop:=0<n/\p.Perm (List.range n).toArray
theorem Pm.lt (h:Pm n p)(i:Nat):p.getD i 0<n:=by
 by_cases q:i<p.size
 ·have:=h.2.mem_iff.mp (Array.getElem_mem q)
  simpa[q] using this
 ·simp[q];exact h.1
theorem Pm.rev (h:Pm n p)(i j:Nat):Pm n (kas_rev p i j):=⟨h.1,(mirror_perm _ _ _ _).trans h.2⟩
theorem A3t {c:Bool}{t u:KasT α}{Q:α->Prop}(h1:Tot n Q t)(h2:Tot n Q u):Tot n Q (if c=true then t else u):=by
 cases c
 ·exact h2
 ·exact h1
theorem Ah3 {c:Prop}[Decidable c]{t u:KasT α}{Q:α->Prop}(h1:Tot n Q t)(h2:Tot n Q u):Tot n Q (if c then t else u):=by
 split
 ·exact h1
 ·exact h2
theorem A8l {Q:Nat->Prop}(h:Pm n p)(hQ:∀a,Q a):∀f k,Tot n Q (kas_asc p f k)
 | 0,k=>hQ k
 | f+1,k=>⟨h.lt _,h.lt _,λ_=>A3t (hQ k) (A8l h hQ f (k+1))⟩
theorem Aa5:∀(f:Nat) (p:Array Nat) (k q:Nat),Pm n p->Tot n (λr=>Pm n r.1) (kas_desc f p k q)
 | 0,p,k,q,h=>h
 | f+1,p,k,q,h=>⟨h.lt _,h.lt _,λ_=>A3t (Ah3 (Aa5 f _ _ _ (h.rev _ _)) (Aa5 f _ _ _ h)) ⟨h.lt _,h.lt _,λ_=>A3t h (Aa5 f _ _ _ h)⟩⟩
theorem Bb4 {k m:Nat}(h:Pm n p):Tot n (λr=>Pm n r.2) (kas_tail3 k m p):=K9 _ (A8l (h.rev _ _) (λ_=>h.rev _ _) _ _)
theorem W7 {Q Q':α->Prop}(hq:∀a,Q a->Q' a):∀t:KasT α,Tot n Q t->Tot n Q' t
 | .ret a,h=>hq a h
 | .ask _ _ k,h=>⟨h.1,h.2.1,λb=>W7 hq (k b) (h.2.2 b)⟩
theorem A8o {k m:Nat}(h:Pm n p):Tot n (λr=>Pm n r.2) (kas_descPart k m p) :=
 K9 _ (W7 (λr q=>Ah3 (Bb4 (q.rev _ _)) (Bb4 q)) _ (Aa5 _ _ _ _ h))
theorem Br1 {m:Nat}(h:Pm n p):Tot n (λr=>Pm n r.2) (kas_count m p):=by
 refine K9 _ (A8l h (λk=>?_) _ _)
 refine A3t (t:=.ret (k,p)) h (Ah3 (t:=.ask _ _ _) ⟨h.lt _,h.lt _,λ_=>?_⟩ (A8o h))
 exact A3t (t:=.ret (k,p)) h (A8o (h.rev _ _))
theorem Ag0 {Q:Nat->Prop}{k:Nat}(h:Pm n p)(hQ:∀a,Q a):∀f l r,Tot n Q (kas_place p k f l r)
 | 0,l,r=>hQ l
 | f+1,l,r=>Ah3 (hQ l) ⟨h.lt _,h.lt _,λ_=>A3t (Ag0 h hQ f _ _) (Ag0 h hQ f _ _)⟩
theorem Bu2:∀(f:Nat) (p:Array Nat) (k:Nat),Pm n p->Tot n (Pm n) (kas_bin f p k)
 | 0,p,k,h=>h
 | f+1,p,k,h=>K9 _ (Ag0 h (λ_=>Bu2 f _ _ ⟨h.1,(bubble_perm _ _ _).trans h.2⟩) _ _ _)
theorem B2u (h:0<n):Tot n (Pm n) (kas_sort n):=by
 refine K9 _ (W7 (λr q=>?_) _ (Br1 ⟨h,Array.Perm.refl _⟩))
 exact Ah3 (Bu2 _ _ _ q) (u:=.ret r.2) q
end
end PS
namespace U
open PySem L2
theorem R.bind_ok {a:b} {k:b->Ev->R d}:(R.ok a c).bind k=k a c:=rfl
theorem R.toS_ok {a:b} {k:b->Ev->SR}:(R.ok a c).toS k=k a c:=rfl
theorem A2m {a:Type}{x:Option a}:(some x).join=x:=rfl
theorem B5r (x:a) (r:List a):atI (x::r) 0=some x:=G7 rfl
theorem B3o (x y:a) (r:List a):atI (x::y::r) 1=some y:=G7 rfl
theorem B4k (x y z:a) (r:List a):atI (x::y::z::r) 2=some z:=G7 rfl
theorem B5x (x y z u:a) (r:List a):atI (x::y::z::u::r) 3=some u:=G7 rfl
theorem B3y (x y z u w:a) (r:List a):atI (x::y::z::u::w::r) 4=some w:=G7 rfl
theorem B0w:ixN 3 0=some 0:=rfl
theorem B2s:ixN 3 1=some 1:=rfl
theorem B1e:ixN 3 2=some 2:=rfl
def U6 (g:o7)(body:Ev->SR)(d:t_)(c:Ev):SR:=(g (.o (.im d)) c).toS λ_ c=>body c
theorem A2v (h:U6 g body d c=.nx c'\/U6 g body d c=.ct c'):forL g body (d::ds) c=forL g body ds c':=by
 unfold U6 at h;rw[forL]
 cases e:g _ c with
 | bad=>rw[e]at h;rcases h with h | h <;> cases h
 | ok u a =>
  rw[e]at h;have h:body _=.nx _\/body _=.ct _:=h
  grind
theorem Ia {g:o7}{body:Ev->SR}{P:Nat->Ev->Prop}:∀{items:w5}{n:Nat}{c:Ev},P n c ->
 (∀k d c,items[k]?=some d->P (n+k) c->∃c',(U6 g body d c=.nx c'\/U6 g body d c=.ct c')/\P (n+k+1) c')->∃c',forL g body items c=.nx c'/\P (n+items.length) c'
 | [],n,c,h0,_=>⟨c,rfl,h0⟩
 | d::ds,n,c,h0,hs=>by
  obtain⟨c1,e,h1⟩:=hs 0 d c rfl h0;rw[A2v e]
  obtain⟨c2,e2,h2⟩:=Ia (P:=P) (items:=ds) (n:=n+1) (c:=c1) h1 (λk d c hk hp=>by
   have:=hs (k+1) d c (by simpa using hk) (by rw[show n+(k+1)=n+1+k by lia];exact hp)
   rw[show n+(k+1)+1=n+1+k+1 by lia]at this
   exact this)
  exact⟨c2,e2,by rw[aF,show n+(ds.length+1)=n+1+ds.length by lia];exact h2⟩
def Tv (g:o7)(ft:n7)(fe:n8)(d:t_)(c:Ev):R (Option t_) :=
 (g (.o (.im d)) c).bind λ_ c=>(ft c).bind λb c=>if b=true then (fe c).bind λp c=>(frz (nrm p) c).bind λy c=>.ok (some y) c else .ok none c
theorem Px : Ek g ft fe (d::ds) acc c=(Tv g ft fe d c).bind λo c=>Ek g ft fe ds (acc++o.toList) c:=by
 unfold Tv;rw[Ek]
 cases e:g _ c with
 | bad=>rfl
 | ok u f =>
  simp only[R.bind_ok]
  cases e2:ft _ with
  | bad=>rfl
  | ok b h =>
   simp only[R.bind_ok]
   cases b with
   | false=>simp[R.bind_ok]
   | true =>
    cases e3:fe _ with
    | bad=>rfl
    | ok p i =>
     simp only[R.bind_ok]
     cases e4:frz _ _ with
     | bad=>rfl
     | ok y a=>rfl
theorem Lg {g:o7}{ft:n7}{fe:n8}{P:Nat->w5->Ev->Prop}:∀{items acc:w5}{n:Nat}{c:Ev},P n acc c ->
 (∀k d acc c,items[k]?=some d->P (n+k) acc c->∃o c',Tv g ft fe d c=.ok o c'/\P (n+k+1) (acc++o.toList) c')->∃acc' c',Ek g ft fe items acc c=.ok acc' c'/\P (n+items.length) acc' c'
 | [],acc,n,c,h0,_=>⟨acc,c,rfl,h0⟩
 | d::ds,acc,n,c,h0,hs=>by
  obtain⟨o,c1,e,h1⟩:=hs 0 d acc c rfl h0;rw[Px,e,R.bind_ok]
  obtain⟨acc2,c2,e2,h2⟩:=Lg (P:=P) (items:=ds) (n:=n+1) (c:=c1) h1 (λk d acc c hk hp=>by
   have:=hs (k+1) d acc c (by simpa using hk) (by rw[show n+(k+1)=n+1+k by lia];exact hp)
   rw[show n+(k+1)+1=n+1+k+1 by lia]at this
   exact this)
  exact⟨acc2,c2,e2,by rw[aF,show n+(ds.length+1)=n+1+ds.length by lia];exact h2⟩
theorem Wh {g:o7}{ft:n7}{fe:n8}{I:Ev->Prop}{F:t_->Option t_}:∀{items acc:w5}{c:Ev},I c ->
 (∀d c,d∈items->I c->∃c',Tv g ft fe d c=.ok (F d) c'/\I c')->∃c',Ek g ft fe items acc c=.ok (acc++items.filterMap F) c'/\I c'
 | [],acc,c,h0,_=>⟨c,by simp[Ek],h0⟩
 | d::ds,acc,c,h0,hs=>by
  obtain⟨c1,e,h1⟩:=hs d c (.head _) h0;rw[Px,e,R.bind_ok]
  obtain⟨c2,e2,h2⟩:=Wh (I:=I) (F:=F) (items:=ds) (acc:=acc++(F d).toList) h1 (λd c hd hi=>hs d c (.tail _ hd) hi)
  refine⟨c2,?_,h2⟩
  rw[e2,eZ];rw[cG]
  cases F d <;> rfl
theorem Zq {I:Ev->Prop} (b:I c)
 (hs:∀d c,d∈items->I c->∃a,Tv g ft fe d c=.ok (some (F d)) a/\I a):∃a,Ek g ft fe items acc c=.ok (acc++items.map F) a/\I a:=by
 obtain⟨a,e,h⟩:=Wh (acc:=acc) b hs
 refine⟨a,?_,h⟩
 simp_all
theorem Jg {α:Type}{g:o7}{ft:n7}{fe:n8}{I:Ev->Prop}{f:α->t_}{G:α->Option t_}:∀{xs:List α}{acc:w5}{c:Ev},I c ->
 (∀x c,x∈xs->I c->∃c',Tv g ft fe (f x) c=.ok (G x) c'/\I c')->∃c',Ek g ft fe (xs.map f) acc c=.ok (acc++xs.filterMap G) c'/\I c'
 | [],acc,c,h0,_=>⟨c,by simp[Ek],h0⟩
 | x::xs,acc,c,h0,hs=>by
  obtain⟨c1,e,h1⟩:=hs x c (.head _) h0;rw[aG,Px,e,R.bind_ok]
  obtain⟨c2,e2,h2⟩:=Jg (I:=I) (f:=f) (G:=G) (xs:=xs) (acc:=acc++(G x).toList) h1 (λd c hd hi=>hs d c (.tail _ hd) hi)
  refine⟨c2,?_,h2⟩
  rw[e2,eZ];rw[cG]
  cases G x <;> rfl
theorem Ej {b:Type} {I:Ev->Prop}{f:b->t_}{G:b->t_}{xs:List b} (d:I c)
 (hs:∀x c,x∈xs->I c->∃a,Tv g ft fe (f x) c=.ok (some (G x)) a/\I a):∃a,Ek g ft fe (xs.map f) acc c=.ok (acc++xs.map G) a/\I a:=by
 obtain⟨a,e,h⟩:=Jg (acc:=acc) d hs
 refine⟨a,?_,h⟩
 simp_all
theorem Ec (h1:fi c=.ok ds c1) (hl:ds.length<=16000000) (h2:Ek g ft fe ds [] (cIn idx c1)=.ok acc cI) (a:Gs cI (pairsOf 0 idx) c1=some c2) :
 cLC idx fi g ft fe c=.ok (.o (.ls false acc)) c2:=by
 unfold cLC;rw[h1,R.bind_ok]
 simp_all
theorem Uh (h1:fi c=.ok ds c1):Rj fi g body c=forL g body ds c1:=by
 unfold Rj;rw[h1];rfl
theorem Ce (h:f c=.nx c'):Bj f g c=g c':=by unfold Bj;rw[h]
theorem Hr (h:body (a.map some++List.replicate (N-n) none)=.rt p c) (hl:a.length=n) (hf:A3c a p c=r):Ga n N body a=r:=by
 unfold Ga;grind
end U
namespace K
open PySem L2 U
structure Good (d:t_) (n w:Nat):Prop where
 lay:d.canLay0=true
 shw:d.showable=true
 dct:d.hasDict=false
 dep:d.depth<=n
 wgt:wt d<=w
structure Goods (ds:w5) (n w:Nat):Prop where
 lay:PyData.canLayAll0 ds=true
 shw:PyData.showableAll ds=true
 dct:PyData.hasDictAll ds=false
 dep:PyData.depthAll ds<=n
 wgt:Lh ds<=w*ds.length
theorem Goods.of {n w:Nat}:∀{ds:w5},(∀d∈ds,Good d n w)->Goods ds n (w+2)
 | [],_=>⟨rfl,rfl,rfl,aB _,aB _⟩
 | d::r,h=>by
  have a:=h d (.head _)
  have b:=Goods.of λe he=>h e (.tail _ he)
  refine⟨?_,?_,?_,?_,?_⟩
  ·show (d.canLay0&&PyData.canLayAll0 r)=true;rw[a.lay,b.lay];rfl
  ·show (d.showable&&PyData.showableAll r)=true;rw[a.shw,b.shw];rfl
  ·show (d.hasDict||PyData.hasDictAll r)=false;rw[a.dct,b.dct];rfl
  ·show max d.depth (PyData.depthAll r)<=n;have:=a.dep;have:=b.dep;lia
  ·show wt d+2+Lh r<=(w+2)*(r.length+1)
   have:=a.wgt;have:=b.wgt;rw[Nat.mul_succ];lia
theorem Good.tup (h:∀d∈ds,Good d n w) (hk:ds.length<=k):Good (.tuple ds) (n+1) ((w+2)*k+4):=by
 have g:=Goods.of h;have m:(w+2)*ds.length<=(w+2)*k:=cu _ hk
 refine⟨g.lay,g.shw,g.dct,?_,?_⟩
 ·show PyData.depthAll _+1<=n+1;have:=g.dep;lia
 ·show Lh _+4<=(w+2)*k+4;have:=g.wgt;lia
theorem Good.lst (h:∀d∈ds,Good d n w) (hk:ds.length<=k):Good (.list ds) (n+1) ((w+2)*k+4):=by
 have g:=Goods.of h;have m:(w+2)*ds.length<=(w+2)*k:=cu _ hk
 refine⟨g.lay,g.shw,g.dct,?_,?_⟩
 ·show PyData.depthAll _+1<=n+1;have:=g.dep;lia
 ·show Lh _+4<=(w+2)*k+4;have:=g.wgt;lia
theorem Good.mono (h:Good d n w) (a:n<=n') (b:w<=w'):Good d n' w':=⟨h.lay,h.shw,h.dct,aj h.dep a,aj h.wgt b⟩
theorem Good.flatB (h:Good d n w) (hn:n<=40):Bm d=true:=by
 unfold U.Bm;rw[h.lay,aK (aj h.dep hn)];rfl
theorem Sq (ha:Good a n w) (hb:Good b n' w') (hn:n<=40) (c:n'<=40):Bb neg a b=some (.im (.bool (if neg then !PyData.eqv a b else PyData.eqv a b))):=by
 unfold Bb;rw[ha.flatB hn,hb.flatB c];rfl
theorem Ab7 (h:∀d∈ds,d.canLay0=true):PyData.canLayAll0 ds=true:=by
 induction ds with
 | nil=>rfl
 | cons d r a=>show (d.canLay0&&PyData.canLayAll0 r)=true;grind
theorem Dn : Bb neg (.str a) (.str b)=some (.im (.bool (if neg then !decide (a=b) else decide (a=b)))):=by
 unfold Bb
 rw[show Ug _ _=true from rfl]
 rw[Wi]
 simp
inductive Vl where
 | non
 | int (i:Int)
 | str (x:Str)
 deriving DecidableEq
abbrev m_:=List Vl
abbrev m9:=List (m_)
@[simp] theorem Vl.int.injEq (a b:Int):(Vl.int a=Vl.int b)=(a=b):=propext ⟨λh=>by cases h;rfl,λh=>by rw[h]⟩
@[simp] theorem Vl.str.injEq (a b:Str):(Vl.str a=Vl.str b)=(a=b):=propext ⟨λh=>by cases h;rfl,λh=>by rw[h]⟩
noncomputable def Vl.d:Vl->t_
 | .non=>.none
 | .int i=>.int i
 | .str x=>.str x
noncomputable def vb:Vl->Bool
 | .non=>true
 | .int i=>decide (-1000000000000<=i)&&decide (i<=1000000000000)
 | .str x=>decide (x.length<=40)&&x.cps.toList.all λc=>decide (32<=c)&&decide (c<=126)
abbrev VB (v:Vl):Prop:=vb v=true
abbrev VBs (vs:m_):Prop:=∀v∈vs,VB v
def tD (vs:m_):t_:=.tuple (vs.map Vl.d)
theorem A1c (x y:Str):PyData.eqv (.str x) (.str y)=decide (x=y):=by
 show (x==y)=_
 grind
theorem A6c (a b:Vl):PyData.eqv a.d b.d=decide (a=b):=by
 cases a with
 | non=>cases b <;> simp[Vl.d,PyData.eqv]
 | int i=>
  cases b with
   | int j =>
    show (i==j)=_
    grind
   | non=>rfl
   | str y=>trivial
 | str x=>
  cases b with
   | str y=>rw[show PyData.eqv (Vl.d (.str x)) (Vl.d (.str y))=_ from A1c x y];simp_all
   | non=>trivial
   | int y=>trivial
theorem Aj2:∀as bs:m_,PyData.eqvAll (as.map Vl.d) (bs.map Vl.d)=decide (as=bs)
 | [],[]=>by simp[PyData.eqvAll]
 | [],b::bs=>by simp[PyData.eqvAll]
 | a::as,[]=>by simp[PyData.eqvAll]
 | a::as,b::bs=>by
  show (PyData.eqv a.d b.d&&PyData.eqvAll (as.map Vl.d) (bs.map Vl.d))=_
  rw[A6c,Aj2 as bs]
  simp
theorem B4z (a bs:m_):PyData.eqv (tD a) (tD bs)=decide (a=bs):=by
 exact Aj2 _ _
theorem Lz (h:VB v):Good v.d 0 1921:=by
 cases v with
 | non=>exact⟨rfl,rfl,rfl,ak _,by decide⟩
 | int i =>
  obtain⟨a,b⟩:=au.mp (show (decide _&&decide _)=true from h)
  have a:=aR a;have b:=aR b
  refine⟨rfl,?_,rfl,ak _,ak _⟩
  have c:i.natAbs<2 ^ 41:=by lia
  have:i.natAbs.log2<1920:=by
   by_cases hz:i.natAbs=0
   ·rw[hz];decide
   ·exact aA ((Nat.log2_lt hz).mpr c) (by decide)
  simpa[Vl.d,PyData.showable] using this
 | str x =>
  obtain⟨a,b⟩:=au.mp (show (decide _&&x.cps.toList.all _)=true from h)
  have a:=aR a
  refine⟨?_,rfl,rfl,ak _,?_⟩
  ·show x.cps.all _=true
   grind
  ·show 10*x.length+2<=1921
   lia
theorem Q3 (h:VBs vs) (hk:vs.length<=k):Good (tD vs) 1 (1923*k+4) :=
 Good.tup (λd a=>by obtain⟨v,b,rfl⟩:=aO.mp a;exact Lz (h v b)) (by simp_all)
theorem Bv7 (v:Vl)(vs:m_):((vs.map Vl.d).any λe=>PyData.eqv e v.d)=decide (v∈vs):=by
 induction vs with
 | nil=>simp
 | cons a r b =>
  rw[aG,dH,A6c]
  grind
theorem B6f (v:m_)(vs:m9):((vs.map tD).any λe=>PyData.eqv e (tD v))=decide (v∈vs):=by
 induction vs with
 | nil=>simp
 | cons a r b =>
  rw[aG,dH,B4z]
  grind
theorem B3b (h:VB v) (hs:VBs vs):Ih neg v.d (.list (vs.map Vl.d))=some (.im (.bool (if neg then !decide (v∈vs) else decide (v∈vs)))):=by
 have e:Ih neg v.d (.list (vs.map Vl.d))=if Bm v.d&&PyData.canLayAll0 (vs.map Vl.d) then some (.im (.bool (if neg then !(vs.map Vl.d).any λe=>PyData.eqv e v.d else (vs.map Vl.d).any λe=>PyData.eqv e v.d))) else none:=by rfl
 rw[e,(Lz h).flatB (by decide),Ab7 λd a=>by obtain⟨u,b,rfl⟩:=aO.mp a;exact(Lz (hs u b)).lay,Bv7];rfl
theorem Bw5 {vs:m9}(h:VBs v) (hs:∀u∈vs,VBs u):Ih neg (tD v) (.list (vs.map tD))=some (.im (.bool (if neg then !decide (v∈vs) else decide (v∈vs)))):=by
 show (if Bm _&&PyData.canLayAll0 _ then some _ else none)=_
 rw[(Q3 h (ak _)).flatB (by decide),Ab7 λd a=>by obtain⟨u,b,rfl⟩:=aO.mp a;exact(Q3 (hs u b) (ak _)).lay,B6f];rfl
theorem Jm {l:List a}{r:Int}(b:0<=r) (h1:r<l.length):∃d,atI l r=some d/\d∈l/\l[r.toNat]?=some d:=by
 obtain⟨k,rfl⟩:=dB b
 exact⟨l[k],G7 (aU _),cB _,by grind⟩
def A1o (pr:n_):Ev->SR :=
 (Bj
  (cIf (An (cOp (Ep false) (Aa 0) (cC (.none)))) (Cp (Gg (Ab (cC (.int 0)) (Ab (cC (.int 0)) Al)))) Bl)
  (Bj (cIf (An (cUn (Dz .int) (Aa 0))) (Cp (Gg (Ab (cC (.int 1)) (Ab (Aa 0) Al)))) Bl)
  (Bj (cIf (An (cUn (Dz .str) (Aa 0))) (Cp (Gg (Ab (cC (.int 2)) (Ab (Aa 0) Al)))) Bl)
  (Cp (Gg (Ab (cC (.int 3)) (Ab (cUn Dm (cLC [none] (Bk (Aa 0)) (cgN 0) Bh (cF pr (Ab (Aa 0) Al)))) Al)))))))
def Cw:Nat->List O->FR
 | 0=>λ_=>.bad
 | k+1=>Ga 1 1 (A1o (Cw k))
def Ij:Ev->SR :=
 (Cp (cOp A6l (cF (Cw 2) (Ab (Aa 0) Al)) (cF (Cw 2) (Ab (Aa 1) Al))))
def Ed:n_:=Ga 2 2 Ij
def Vj:Ev->SR :=
 (Cp (B2j (Cw 2) (Aa 0)))
def Nj:n_:=Ga 1 1 Vj
def Hy:Ev->XS :=
 (Hw
  (Dk (Cm (cOp Ag (Aa 0) (cC (.int 0))) (cgN 2)))
  (Hw (xIf (An (cOp (Ih true) (Aa 1) (Aa 2))) (Ue "NoColumn" (Str.ofString "no column ").length "name" (Aa 1)) (Dk Bl))
  (Dk (Cp (cMt Kg Jc (Aa 2) (Aa 1))))))
def Bo:w5->XF:=Kf 2 3 Hy
def Lk:Ev->XS :=
 (Rg [none,some 0] (Bk (Aa 1)) (cgN 0) Bh Bo (Ab (Aa 1) (Ab (Aa 0) Al)) [] (Cp (cFz (cLC [none,some 0] (Bk (Aa 1)) (cgN 0) Bh (cFY Bo (Ab (Aa 1) (Ab (Aa 0) Al)))))))
def Ew:w5->XF:=Kf 2 2 Lk
def R9:Ev->XS :=
 (Hw
  (Aj3 Bo (Ab (Aa 0) (Ab (Aa 1) Al)) 2)
  (Dk (Cp (cFz (cLC [none,some 2] (Bk (cOp Ag (Aa 0) (cC (.int 1)))) (cgN 0) Bh (cOp Ag (Aa 0) (Aa 1)))))))
def K5:w5->XF:=Kf 2 3 R9
def Xz:Ev->SR :=
 (A9k 1 2 (Bk (Aa 0)))
def Hq:n_:=Ga 1 3 Xz
def Nv:Ev->SR :=
 (Bj
  (Cm (Ge Al) (cgN 1))
  (Bj (Rj (Bk (cOp Ag (Aa 0) (cC (.int 4)))) (cgT 2 (Ar (cgN 2) (Ar (cgN 3) Eg))) (Jv (Bj9 (Aa 1) (cLC [none,none,some 2] (Ry (cOp Ag (Aa 0) (cC (.int 3))) (Aa 3)) (cgT 2 (Ar (cgN 0) (Ar (cgN 1) Eg))) Bh (Gg (Ab (Aa 2) (Ab (Aa 0) (Ab (Aa 1) Al))))))))
  (Cp (Aa 1))))
def Fl:n_:=Ga 1 4 Nv
def M4:Ev->SR :=
 (Bj
  (Cm (cLC [none,none,none] (Bk (cF Fl (Ab (Aa 0) Al))) (cgT 3 (Ar (cgN 0) (Ar (cgN 1) (Ar (cgN 2) Eg)))) (An (cOp (Ep true) (Aa 2) (cC (.none)))) (cOp Br (cOp Br (Aa 0) (Aa 1)) (Aa 2))) (cgN 1))
  (Cp (Gg (Ab (cOp Br (cOp Br (cOp Ag (Aa 0) (cC (.int 0))) (cOp Ag (Aa 0) (cC (.int 1)))) (cOp Ag (Aa 0) (cC (.int 2)))) (Ab (cUn Dm (Aa 1)) Al)))))
def Gu:n_:=Ga 1 2 M4
def Sh:Ev->XS :=
 (Hw
  (xIf (An (cUn Xh (cLC [none] (Bk (Aa 0)) (cgN 0) Bh (cUn (Dz .str) (Aa 0))))) (Sw "NoNumber" (Ab (cC (.str "a text is no part of a sum")) Al)) (Dk Bl))
  (Dk (Cp (cUn A7q (Aa 0)))))
def Hg:w5->XF:=Kf 1 1 Sh
def Cd:Ev->XS :=
 (Hw
  (xIf (An (cOp (Bb false) (Aa 1) (cC (.str "first")))) (Dk (Cp (cFz (cOp Ag (Aa 0) (cC (.int 0)))))) (Dk Bl))
  (Hw (xIf (An (cOp (Bb false) (Aa 1) (cC (.str "last")))) (Dk (Cp (cFz (cOp Ag (Aa 0) (cUn Dt (cC (.int 1))))))) (Dk Bl))
  (Hw (Dk (Cm (cLC [none] (Bk (Aa 0)) (cgN 0) (An (cOp (Ep true) (Aa 0) (cC (.none)))) (Aa 0)) (cgN 2)))
  (Hw (xIf (An (cOp (Bb false) (Aa 1) (cC (.str "sum")))) (Ak5 Hg (Ab (cFz (Aa 2)) Al)) (Dk Bl))
  (Hw (xIf (An (cOp (Bb false) (Aa 1) (cC (.str "count")))) (Dk (Cp (cFz (La (cFz (Aa 2)))))) (Dk Bl))
  (Hw (xIf (An (cOp (Bb false) (Aa 1) (cC (.str "least")))) (Dk (Cp (cFz (cMM false (Cw 2) (cFz (Aa 2)))))) (Dk Bl))
  (Hw (xIf (An (cOp (Bb false) (Aa 1) (cC (.str "greatest")))) (Dk (Cp (cFz (cMM true (Cw 2) (cFz (Aa 2)))))) (Dk Bl))
  (Hw (xIf (An (cOp (Bb false) (Aa 1) (cC (.str "unlike")))) (Dk (Cp (cFz (cUn Oa (cFz (Aa 2)))))) (Dk Bl))
  (Dk At9)))))))))
def Aq:w5->XF:=Kf 2 3 Cd
def Kh:Ev->SR :=
 (Cp (cLC [none] (Bk (Aa 0)) (cgN 0) Bh (cOp Ag (Aa 0) (cC (.int 0)))))
def Ei:n_:=Ga 1 1 Kh
def Dv:Ev->XS :=
 (xIf (An (cUn (Ay8 true [Str.ofString "is",Str.ofString "not",Str.ofString "below",Str.ofString "above"]) (cOp Ag (Aa 1) (cC (.int 1))))) (Sw "BadWay" (Ab (cC (.str "a condition's word is is, not, below or above")) Al)) (Dk Bl))
def Ju:Ev->XS :=
 (Bq0 (Bk (Aa 0)) (cgN 1) Dv)
def G8:w5->XF:=Kf 1 2 Ju
def Lb:Ev->SR :=
 (Bj
  (cIf (An (cOp (Bb false) (Aa 1) (cC (.str "is")))) (Cp (cOp (Bb false) (Aa 0) (Aa 2))) Bl)
  (Bj (cIf (An (cOp (Bb false) (Aa 1) (cC (.str "not")))) (Cp (cOp (Bb true) (Aa 0) (Aa 2))) Bl)
  (Bj (cIf (An (cOp (Bb false) (Aa 1) (cC (.str "below")))) (Cp (cF Ed (Ab (Aa 0) (Ab (Aa 2) Al)))) Bl)
  (Cp (cF Ed (Ab (Aa 2) (Ab (Aa 0) Al)))))))
def Gh:n_:=Ga 3 3 Lb
def Nr:Ev->SR :=
 (Cp (cUn Zi (cLC [none,none,some 0] (Ry (Aa 1) (Aa 2)) (cgT 2 (Ar (cgN 0) (Ar (cgN 1) Eg))) Bh (cF Gh (Ab (cOp Ag (Aa 2) (Aa 0)) (Ab (cOp Ag (Aa 1) (cC (.int 1))) (Ab (cOp Ag (Aa 1) (cC (.int 2))) Al)))))))
def Fo:n_:=Ga 3 3 Nr
def Gf:Ev->XS :=
 (Hw
  (Aj3 Ew (Ab (Aa 0) (Ab (cFz (cF Ei (Ab (Aa 1) Al))) Al)) 2)
  (Hw (Xo G8 (Ab (Aa 1) Al))
  (Dk (Cp (cFz (cLC [none,none,some 2,some 1] (A0w (cOp Ag (Aa 0) (cC (.int 1)))) (cgT 2 (Ar (cgN 0) (Ar (cgN 1) Eg))) (An (cF Fo (Ab (Aa 1) (Ab (Aa 2) (Ab (Aa 3) Al))))) (Aa 0)))))))
def Cy:w5->XF:=Kf 2 3 Gf
def Dj:Ev->XS :=
 (Hw
  (Dk (Cm (cUn Ii (cSl Ph (Aa 1) (cOS (cC (.int 1))) (cOS (cUn Dt (cC (.int 1)))))) (cgN 2)))
  (Hw (Xo Ew (Ab (Aa 0) (Ab (cFz (cOp Br (Aa 2) (cF Ei (Ab (cOp Ag (Aa 1) (cUn Dt (cC (.int 1)))) Al)))) Al)))
  (Hw (Dk (Cm (Ox (An (cOp A8f (La (Aa 2)) (cC (.int 0)))) (cUn (V0 [Str.ofString "first",Str.ofString "last",Str.ofString "sum",Str.ofString "count",Str.ofString "least",Str.ofString "greatest",Str.ofString "unlike"]) (Gg (Ab (cC (.str "all")) Al))) (Gg (Ab (cC (.str "rows")) Al))) (cgN 3)))
  (xIf (An (cOp (Ih true) (cOp Ag (Aa 1) (cC (.int 0))) (Aa 3))) (Sw "BadWay" (Ab (cC (.str "no such question")) Al)) (Dk Bl)))))
def Bu:w5->XF:=Kf 2 4 Dj
def Ft:Ev->XS :=
 (Hw
  (Xo Bu (Ab (Aa 0) (Ab (Aa 1) Al)))
  (Hw (Dk (Cm (cOp Ag (Aa 1) (cC (.int 0))) (cgN 2)))
  (Hw (Lp Cy (Ab (Aa 0) (Ab (cOp Ag (Aa 1) (cUn Dt (cC (.int 1)))) Al)) [] (Cm (cLC [none,some 0] (Bk (cFY Cy (Ab (Aa 0) (Ab (cOp Ag (Aa 1) (cUn Dt (cC (.int 1)))) Al)))) (cgN 0) Bh (cOp Ag (cOp Ag (Aa 1) (cC (.int 1))) (Aa 0))) (cgN 3)))
  (Hw (xIf (An (cOp (Bb false) (Aa 2) (cC (.str "rows")))) (Dk (Cp (cFz (cFz (Aa 3))))) (Dk Bl))
  (Hw (Aj3 K5 (Ab (Gg (Ab (cOp Ag (Aa 0) (cC (.int 0))) (Ab (cFz (Aa 3)) Al))) (Ab (cOp Ag (Aa 1) (cC (.int 1))) Al)) 4)
  (Hw (xIf (An (cOp (Bb false) (Aa 2) (cC (.str "all")))) (Dk (Cp (cFz (cF Nj (Ab (cF Hq (Ab (cFz (Aa 4)) Al)) Al))))) (Dk Bl))
  (xIf (An (cOp A8f (La (cFz (Aa 4))) (cC (.int 0)))) (Ak5 Aq (Ab (cFz (Aa 4)) (Ab (Aa 2) Al))) (Dk (Cp (cFz (cC (.none))))))))))))
def Bf:w5->XF:=Kf 2 5 Ft
def Jr:Ev->XS :=
 (Ak5 Bf (Ab (cF Gu (Ab (Aa 0) Al)) (Ab (Aa 1) Al)))
def Dw:w5->XF:=Kf 2 2 Jr
def Ja:Ev->SR :=
 (Bj
  (cIf (An (cOp Ra (Aa 1) (La (Aa 0)))) (Cp (Bw6 (Aa 0) (Aa 1))) Bl)
  (Cp (cC (.int 0))))
def Fy:n_:=Ga 2 2 Ja
def Xk:Ev->SR :=
 (Bj
  (Cm (cF Fy (Ab (Aa 0) (Ab (Aa 1) Al))) (cgN 2))
  (Cp (Ge (Ab (cOp Mj (cUn A0v (Aa 2)) (cUn Bc3 (cOp By5 (cUn A0v (Aa 2)) (cOp Tf (cC (.int 10)) (cC (.int 18)))))) (Ab (cOp Br (cOp Br (cOp Qv (Aa 2) (cC (.int 2305843009213693951))) (cOp Mj (cC (.int 39373)) (Aa 1))) (cC (.int 17))) (Ab (cC (.int 0)) Al))))))
def Nk:n_:=Ga 2 3 Xk
def Oc:Ev->SR :=
 (Bj
  (cIf (An (cOp A8f (cOp Ag (Aa 0) (cC (.int 0))) (cC (.int 0)))) (Bj (Cm (cOp Qv (cOp Ag (Aa 0) (cC (.int 0))) (Aa 1)) (cgN 2))
  (Bj (Cm (cOp Ag2 (cOp Ag (Aa 0) (cC (.int 0))) (Aa 1)) (A1g (Aa 0) (cC (.int 0))))
  (Cp (Aa 2)))) Bl)
  (Bj (Cm (cOp Br (cOp Ag (Aa 0) (cC (.int 2))) (cC (.int 1))) (A1g (Aa 0) (cC (.int 2))))
  (Bj (Cm (cOp Qv (cOp Mj (cOp Br (cOp Ag (Aa 0) (cC (.int 1))) (cOp Mj (cC (.int 48271)) (cOp Ag (Aa 0) (cC (.int 2))))) (cOp Br (cC (.int 39373)) (cOp Ag (Aa 0) (cC (.int 2))))) (cC (.int 2147483647))) (cgN 3))
  (Bj (Cm (cOp Qv (cOp Mj (cOp Br (Aa 3) (cOp Ag (Aa 0) (cC (.int 2)))) (cOp Br (cOp Qv (Aa 3) (cC (.int 40009))) (cC (.int 7)))) (cC (.int 2147483629))) (cgN 4))
  (Cp (cOp Qv (cOp Ag2 (cOp Qv (cOp Br (cOp Mj (Aa 4) (cC (.int 48271))) (Aa 3)) (cC (.int 2147483587))) (cC (.int 64))) (Aa 1)))))))
def Ah:n_:=Ga 2 5 Oc
def N7:Ev->SR :=
 (Bj
  (cIf (An (cOp (Bb false) (cF Ah (Ab (Aa 0) (Ab (cC (.int 8)) Al))) (cC (.int 0)))) (Cp (cOp Br (cC (.int 7)) (cF Ah (Ab (Aa 0) (Ab (cOp O4 (Aa 3) (cC (.int 6))) Al))))) Bl)
  (Cp (cOp Br (Aa 1) (cF Ah (Ab (Aa 0) (Ab (cOp Br (cOp O4 (Aa 2) (Aa 1)) (cC (.int 1))) Al))))))
def Hj:n_:=Ga 4 4 N7
def Pz:Ev->SR :=
 (Bj
  (Cm (Ge (cK [.str "b",.str "a",.str "year",.str "z",.str "ab",.str "month",.str "aa",.str "quantity",.str "c",.str "town",.str "zz",.str "ba"])) (cgN 2))
  (Cp (cLC [none,some 2,some 0] (Kz (Aa 1)) (cgN 0) Bh (Wu (Aa 1) (cF Ah (Ab (Aa 2) (Ab (La (Aa 1)) Al)))))))
def Hm:n_:=Ga 2 3 Pz
def Hh:Ev->SR :=
 (Bj
  (Cm (cF Ah (Ab (Aa 0) (Ab (cC (.int 9)) Al))) (cgN 1))
  (Bj (cIf (An (cOp Ra (Aa 1) (cC (.int 4)))) (Cp (cOp O4 (cF Ah (Ab (Aa 0) (Ab (cC (.int 13)) Al))) (cC (.int 3)))) Bl)
  (Bj (cIf (An (cOp (Bb false) (Aa 1) (cC (.int 4)))) (Cp (cOp Ag (Ge (Ab (cOp O4 (cOp Tf (cC (.int 10)) (cC (.int 12))) (cC (.int 1))) (Ab (cOp O4 (cC (.int 0)) (cOp Tf (cC (.int 10)) (cC (.int 11)))) (Ab (cC (.int 100)) (Ab (cC (.int 10)) Al))))) (cF Ah (Ab (Aa 0) (Ab (cC (.int 4)) Al))))) Bl)
  (Bj (cIf (An (cOp (Bb false) (Aa 1) (cC (.int 5)))) (Cp (cC (.none))) Bl)
  (Cp (cOp Ag (Ge (cK [.str "",.str "a",.str "b",.str "B",.str "10",.str "9",.str "-",.str "a b",.str "it's",.str "\\",.str "/",.str "_",.str ":",.str "None",.str "ab"])) (cF Ah (Ab (Aa 0) (Ab (cC (.int 15)) Al)))))))))
def Bp:n_:=Ga 1 2 Hh
def J8:Ev->SR :=
 (Bj
  (cIf (An (cOp (Bb false) (cF Ah (Ab (Aa 0) (Ab (cC (.int 9)) Al))) (cC (.int 0)))) (Cp (cOp Ag (Ge (Ab (cOp O4 (cOp Tf (cC (.int 10)) (cC (.int 12))) (cC (.int 1))) (Ab (cOp O4 (cC (.int 1)) (cOp Tf (cC (.int 10)) (cC (.int 12)))) (Ab (cOp Tf (cC (.int 10)) (cC (.int 11))) (Ab (cC (.int 0)) Al))))) (cF Ah (Ab (Aa 0) (Ab (cC (.int 4)) Al))))) Bl)
  (Cp (cOp O4 (cF Ah (Ab (Aa 0) (Ab (cC (.int 25)) Al))) (cC (.int 7)))))
def De:n_:=Ga 1 1 J8
def Rr:Ev->SR :=
 (Bj
  (Cm (Ge Al) (cgN 2))
  (Bj (Rj (Kz (Aa 1)) (cgN 3) (Bj (Cm (cF Bp (Ab (Aa 0) Al)) (cgN 4))
  (cIf (An (cOp (Ih true) (Aa 4) (Aa 2))) (Jv (Ss (Aa 2) (Aa 4))) Bl)))
  (Cp (Aa 2))))
def Jd:n_:=Ga 2 5 Rr
def M5:Ev->SR :=
 (Bj
  (Cm (cF Jd (Ab (Aa 0) (Ab (cC (.int 6)) Al))) (cgN 3))
  (Bj (Cm (Ge Al) (cgN 4))
  (Bj (Rj (Kz (Aa 2)) (cgN 5) (Bj (Cm (cUn Dm (cLC [none,some 3,some 0] (Kz (Aa 1)) (cgN 0) Bh (cOp Ag (Aa 1) (cF Ah (Ab (Aa 2) (Ab (La (Aa 1)) Al)))))) (cgN 6))
  (cIf (An (cOp (Ih true) (Aa 6) (Aa 4))) (Jv (Ss (Aa 4) (Aa 6))) Bl)))
  (Cp (Aa 4)))))
def Gr:n_:=Ga 3 7 M5
def Od:Ev->SR :=
 (Bj
  (Cm (cF Hm (Ab (Aa 0) (Ab (cC (.int 9)) Al))) (cgN 2))
  (Bj (A6h 3 4 5 (Ab (cF Ah (Ab (Aa 0) (Ab (cC (.int 3)) Al))) (Ab (cF Ah (Ab (Aa 0) (Ab (cC (.int 3)) Al))) (Ab (cOp Br (cC (.int 1)) (cF Ah (Ab (Aa 0) (Ab (cC (.int 2)) Al)))) Al))))
  (Bj (cIf (An (cOp (Bb false) (cF Ah (Ab (Aa 0) (Ab (cC (.int 8)) Al))) (cC (.int 0)))) (Cm (cOp Br (cC (.int 3)) (cF Ah (Ab (Aa 0) (Ab (cC (.int 3)) Al)))) (cgN 5)) Bl)
  (Bj (B3h 6 7 (Ab (cSl Ph (Aa 2) cON (cOS (Aa 3))) (Ab (cSl Ph (Aa 2) (cOS (Aa 3)) (cOS (cOp Br (Aa 3) (Aa 4)))) Al)))
  (Bj (Cm (cSl Ph (Aa 2) (cOS (cOp Br (Aa 3) (Aa 4))) (cOS (cOp Br (cOp Br (Aa 3) (Aa 4)) (Aa 5)))) (cgN 8))
  (Bj (Cm (cF Gr (Ab (Aa 0) (Ab (Aa 4) (Ab (cF Hj (Ab (Aa 0) (Ab (cC (.int 0)) (Ab (cC (.int 5)) (Ab (cC (.int 12)) Al))))) Al)))) (cgN 9))
  (Bj (Cm (cOp Ag (Ge (Ab (cC (.int 9)) (Ab (cC (.int 2)) (Ab (cC (.int 3)) Al)))) (cF Ah (Ab (Aa 0) (Ab (cC (.int 3)) Al)))) (cgN 10))
  (Bj (Cm (Ge Al) (cgN 11))
  (Bj (Rj (Bk (cF Gr (Ab (Aa 0) (Ab (Aa 3) (Ab (cF Hj (Ab (Aa 0) (Ab (cC (.int 0)) (Ab (cC (.int 5)) (Ab (cC (.int 12)) Al))))) Al))))) (cgN 12) (Bj (Cm (Ge Al) (cgN 13))
  (Bj (Rj (Bk (Aa 9)) (cgN 14) (Bj (Cm (cUn Dm (cLC [none,some 1,some 0] (Bk (Aa 8)) (cgN 0) Bh (Ox (An (Aa 1)) (cF De (Ab (Aa 2) Al)) (cF Bp (Ab (Aa 2) Al))))) (cgN 15))
  (Jv (Ss (Aa 13) (Ox (An (cOp (Bb false) (cF Ah (Ab (Aa 0) (Ab (Aa 10) Al))) (cC (.int 0)))) (cC (.none)) (Aa 15))))))
  (Jv (Ss (Aa 11) (Gg (Ab (Aa 12) (Ab (cUn Dm (Aa 13)) Al))))))))
  (Cp (Gg (Ab (cUn Dm (Aa 6)) (Ab (cUn Dm (Aa 7)) (Ab (cUn Dm (Aa 8)) (Ab (cUn Dm (Aa 9)) (Ab (cUn Dm (Aa 11)) Al))))))))))))))))
def Oh:n_:=Ga 2 16 Od
def Fx (pr:n_):Ev->SR :=
 (Bj
  (cIf (An (cUn (My .list .tuple) (Aa 1))) (Bj (cIf (cOr (An (cOp (Bb true) (cUn (Dz .list) (Aa 0)) (cUn (Dz .list) (Aa 1)))) (An (cOp (Bb true) (cUn (Dz .tuple) (Aa 0)) (cUn (Dz .tuple) (Aa 1))))) (Cp (cC (.bool false))) Bl)
  (Cp (Vv (cOp (Bb false) (La (Aa 0)) (La (Aa 1))) (cUn Zi (cLC [none,none] (Ry (Aa 0) (Aa 1)) (cgT 2 (Ar (cgN 0) (Ar (cgN 1) Eg))) Bh (cF pr (Ab (Aa 0) (Ab (Aa 1) Al)))))))) Bl)
  (Bj (cIf (cOr (An (cOp (Ep false) (Aa 1) (cC (.none)))) (An (cUn (Dz .str) (Aa 1)))) (Cp (Vv (cOp (Bb false) (Aa 0) (Aa 1)) (cOp (Bb false) (cUn (Dz .str) (Aa 0)) (cUn (Dz .str) (Aa 1))))) Bl)
  (Bj (cIf (An (cUn (Dz .bool) (Aa 1))) (Cp (Vv (cUn (Dz .bool) (Aa 0)) (cOp (Bb false) (Aa 0) (Aa 1)))) Bl)
  (Cp (Vv (cUn (Dz .int) (Aa 0)) (Vv (A9u (cUn (Dz .bool) (Aa 0))) (cOp (Bb false) (Aa 0) (Aa 1))))))))
def Cq:Nat->List O->FR
 | 0=>λ_=>.bad
 | k+1=>Ga 2 2 (Fx (Cq k))
def A3v:Ev->SR :=
 (Bj
  (cIf (An (Bb7 (Aa 1))) (Cp (Aa 0)) Bl)
  (Bj (Cm (Ge (Ab (Qh xT0 (Aa 1)) (Ab (Qh xT2 (Aa 1)) (Ab (Qh xT1 (Aa 1)) Al)))) (cgN 3))
  (Bj (Jv (Ss (Aa 3) (Qh xT3 (Aa 1))))
  (Bj (Cm (Qh xT0 (Aa 1)) (cgN 4))
  (Bj (cIf (cOr (An (Aa 4)) (cOr (A5s (An (Qh xT4 (Aa 1)))) (An (cOp (Bb true) (La (cLC [none] (Bk (Aa 3)) (cgN 0) (An (Aa 0)) (Aa 0))) (cC (.int 1)))))) (Cp (Gg (Ab (cC (.str "refused")) (Ab (cUn Dt (cC (.int 1))) (Ab (cC (.none)) Al))))) Bl)
  (Cp (Gg (Ab (cC (.str "refused")) (Ab (cMt Au6 V1 (Aa 3) (cC (.bool true))) (Ab (Ox (An (cOp Ag (Aa 3) (cC (.int 1)))) (cXF ["NoColumn"] "name" (Aa 1)) (cC (.none))) Al))))))))))
def Du:n_:=Ga 2 5 A3v
def G6:Ev->SR :=
 (Bj
  (Cm (cOp Ag (Aa 1) (cF Ah (Ab (Aa 0) (Ab (La (Aa 1)) Al)))) (cgN 2))
  (Bj (cIf (An (cOp (Bb false) (cF Ah (Ab (Aa 0) (Ab (cC (.int 8)) Al))) (cC (.int 0)))) (Cm (cOp Ag (Ge (Ab (cC (.str "no")) (Ab (cC (.str "")) (Ab (cC (.str "A")) (Ab (cOp Br (Aa 2) (cC (.str "z"))) Al))))) (cF Ah (Ab (Aa 0) (Ab (cC (.int 4)) Al)))) (cgN 2)) Bl)
  (Bj (Cm (cOp Ag (Ge (cK [.str "is",.str "not",.str "below",.str "above"])) (cF Ah (Ab (Aa 0) (Ab (cC (.int 4)) Al)))) (cgN 3))
  (Bj (cIf (An (cOp (Bb false) (cF Ah (Ab (Aa 0) (Ab (cC (.int 8)) Al))) (cC (.int 0)))) (Cm (cOp Ag (Ge (cK [.str "like",.str "",.str "IS",.str "sum",.str "rows"])) (cF Ah (Ab (Aa 0) (Ab (cC (.int 5)) Al)))) (cgN 3)) Bl)
  (Cp (Gg (Ab (Aa 2) (Ab (Aa 3) (Ab (cF Bp (Ab (Aa 0) Al)) Al)))))))))
def El:n_:=Ga 2 4 G6
def Fb:Ev->SR :=
 (Bj
  (Cm (cOp Ag (Ge (cK [.str "rows",.str "all",.str "first",.str "last",.str "sum",.str "sum",.str "count",.str "least",.str "greatest",.str "unlike"])) (cF Ah (Ab (Aa 0) (Ab (cC (.int 10)) Al)))) (cgN 2))
  (Bj (Cm (cLC [none,some 0,some 1] (Kz (cF Ah (Ab (Aa 0) (Ab (cC (.int 3)) Al)))) (cgN 0) Bh (cF El (Ab (Aa 1) (Ab (Aa 2) Al)))) (cgN 3))
  (Bj (cIf (An (cOp (Bb false) (Aa 2) (cC (.str "rows")))) (Cp (Gg (Ab (cC (.str "rows")) (Ab (Aa 3) Al)))) Bl)
  (Bj (Cm (cOp Ag (Aa 1) (cF Ah (Ab (Aa 0) (Ab (La (Aa 1)) Al)))) (cgN 4))
  (Bj (cIf (An (cOp (Bb false) (cF Ah (Ab (Aa 0) (Ab (cC (.int 5)) Al))) (cC (.int 0)))) (Cm (cOp Ag (Ge (Ab (cC (.str "none")) (Ab (cC (.str "")) (Ab (cC (.str "B")) (Ab (cOp Br (Aa 4) (Aa 4)) Al))))) (cF Ah (Ab (Aa 0) (Ab (cC (.int 4)) Al)))) (cgN 4)) Bl)
  (Bj (cIf (An (cOp (Bb false) (cF Ah (Ab (Aa 0) (Ab (cC (.int 5)) Al))) (cC (.int 0)))) (Cm (cOp Ag (Ge (cK [.str "Sum",.str "mean",.str "",.str "row",.str "is",.str "All",.str "sum "])) (cF Ah (Ab (Aa 0) (Ab (cC (.int 7)) Al)))) (cgN 2)) Bl)
  (Cp (Gg (Ab (Aa 2) (Ab (Aa 4) (Ab (Aa 3) Al)))))))))))
def Ho:n_:=Ga 2 5 Fb
def Mv:Ev->SR :=
 (Bj
  (Cm (cOp Br (cUn Ii (cSl Ph (Aa 1) (cOS (cC (.int 1))) (cOS (cUn Dt (cC (.int 1)))))) (cLC [none,none,none] (Bk (cOp Ag (Aa 1) (cUn Dt (cC (.int 1))))) (cgT 3 (Ar (cgN 0) (Ar (cgN 1) (Ar (cgN 2) Eg)))) Bh (Aa 0))) (cgN 2))
  (Bj (Cm (cLC [none,some 0] (Bk (cFz (Aa 2))) (cgN 0) (An (cOp (Ih true) (Aa 0) (Aa 1))) (Aa 0)) (cgN 3))
  (Bj (cIf (An (cOp (Bb true) (cFz (Aa 3)) (Ge Al))) (Cp (Gg (Ab (cC (.str "refused")) (Ab (cC (.int 1)) (Ab (cOp Ag (cFz (Aa 3)) (cC (.int 0))) Al))))) Bl)
  (Bj (Cm (Gg (cK [.str "rows",.str "all",.str "first",.str "last",.str "sum",.str "count",.str "least",.str "greatest",.str "unlike"])) (cgN 4))
  (Bj (Cm (cLC [none,none,none] (Bk (cOp Ag (Aa 1) (cUn Dt (cC (.int 1))))) (cgT 3 (Ar (cgN 0) (Ar (cgN 1) (Ar (cgN 2) Eg)))) (An (cOp (Ih true) (Aa 1) (Gg (cK [.str "is",.str "not",.str "below",.str "above"])))) (Aa 1)) (cgN 5))
  (Cp (Ox (cOr (An (cOp (Ih true) (cOp Ag (Aa 1) (cC (.int 0))) (Aa 4))) (An (cOp (Bb true) (cFz (Aa 5)) (Ge Al)))) (Gg (Ab (cC (.str "refused")) (Ab (cC (.int 2)) (Ab (cC (.none)) Al)))) (cC (.none)))))))))
def Ni:n_:=Ga 2 6 Mv
def Nx:Ev->SR :=
 (Bj
  (Cm (cF Ho (Ab (Aa 2) (Ab (cOp Ag (Aa 4) (cC (.int 0))) Al))) (cgN 6))
  (Bj (Cm (cF Ni (Ab (cOp Ag (Aa 4) (cC (.int 0))) (Ab (Aa 6) Al))) (cgN 7))
  (Bj (Cm (Xx Bf Du ["NoColumn", "NoNumber", "BadWay"] (Ab (Aa 4) (Ab (Aa 6) Al))) (cgN 8))
  (Bj (Cm (Xx Dw Du ["NoColumn", "NoNumber", "BadWay"] (Ab (Aa 3) (Ab (Aa 6) Al))) (cgN 9))
  (Bj (cIf (U9 (An (cOp (Ep true) (Aa 7) (cC (.none)))) (A5s (An (cF (Cq 8) (Ab (Ge (Ab (Aa 8) (Ab (Aa 9) Al))) (Ab (Ge (Ab (Aa 7) (Ab (Aa 7) Al))) Al)))))) (Cp (cC (.bool false))) Bl)
  (Bj (Cm (cOp (Bb false) (Aa 8) (Gg (Ab (cC (.str "refused")) (Ab (cC (.int 3)) (Ab (cC (.none)) Al))))) (cgN 10))
  (Bj (cIf (U9 (An (cOp (Ep false) (Aa 7) (cC (.none)))) (cOr (A5s (An (cF (Cq 8) (Ab (Aa 9) (Ab (Aa 8) Al))))) (U9 (An (Aa 10)) (An (cOp (Bb true) (cOp Ag (Aa 6) (cC (.int 0))) (cC (.str "sum"))))))) (Cp (cC (.bool false))) Bl)
  (cIf (U9 (An (cOp (Ep false) (Aa 7) (cC (.none)))) (U9 (An (cOp (Bb false) (cOp Ag (Aa 6) (cC (.int 0))) (cC (.str "sum")))) (An (cOp (Bb false) (cOp Ag (Aa 6) (cC (.int 2))) (Ge Al))))) (Bj (Cm (cLC [none,some 6,some 4] (Bk (cOp Ag (Aa 4) (cC (.int 1)))) (cgN 0) Bh (cOp Ag (Aa 0) (cMt Kg Jc (cOp Ag (Aa 2) (cC (.int 0))) (cOp Ag (Aa 1) (cC (.int 1)))))) (cgN 11))
  (cIf (An (cOp (Bb true) (Aa 10) (cUn Xh (cLC [none] (Bk (Aa 11)) (cgN 0) Bh (cUn (Dz .str) (Aa 0)))))) (Cp (cC (.bool false))) Bl)) Bl))))))))
def Qt:Ev->SR :=
 (Bj
  (Cm (cF Nk (Ab (Aa 0) (Ab (Aa 1) Al))) (cgN 2))
  (Bj (Cm (cF Oh (Ab (Aa 2) (Ab (cC (.bool false)) Al))) (cgN 3))
  (Bj (Cm (cF Gu (Ab (Aa 3) Al)) (cgN 4))
  (Rj (Kz (cC (.int 10))) (cgN 5) Nx))))
def B1f:Ev->SR :=
 (Bj
  (Rj (Kz (cOp Br (cC (.int 1)) (cOp Au8 (cC (.int 3)) (La (Aa 0))))) (cgN 1) Qt)
  (Cp (cC (.bool true))))
def Au0:n_:=Ga 1 12 B1f
abbrev sI (x:PyData):Option O:=some (.im x)
abbrev sT (x:List PyData):Option O:=some (.ls true x)
abbrev sF (x:List PyData):Option O:=some (.ls false x)
local macro_rules | `(tactic| wp_walk using $ts,*)=>`(tactic| simp only [sI,sT,sF,Bj,Cm,cgN,cgT,Ar,Eg,Aa,cC,cOp,cUn,La,cF,cFz,dZ,List.all_nil,dM,Rh,Aa2,slots,pairsOf,ndB,Gs,Al,Ab,cK,nrm,Fw,A1k,rdP,O.dat,O.flag,O.bor,frz,frzs,Gg,Ge,cIf,An,Bh,U9,cOr,A5s,Vv,A9u,Ox,Cp,Jv,Bl,At9,Ss,slL,Wu,Bj9,A1g,B3h,A6h,cSl,cON,cOS,Kz,cIn,R.bind_ok,R.toS_ok,Ga,A3c,resolve,Hz,Ae3,U.opI,U.Yp,A8f,By5,O4,Ag2,Qv,Tf,U6,Tv,Bw6,List.getElem?_cons_zero,cZ,List.set_cons_zero,List.set_cons_succ,aG,cT,aF,bR,List.replicate,List.cons_append,cQ,cA,List.contains_nil,b_,Option.map_none,fc,Option.join_some,Option.isSome_some,bY,bJ,Bool.not_true,Bool.not_false,Bool.and_true,Bool.true_and,Bool.and_false,Bool.false_and,Bool.or_true,Bool.or_false,Bool.true_or,Bool.false_or,Nat.sub_self,List.dropLast,List.any_nil,List.flatMap_nil,ite_true,ite_false,bT,decide_false,reduceCtorEq,B5r,B3o,B4k,B5x,B3y,B0w,B2s,B1e,U.A2m,bf,Nat.reduceAdd,Nat.reduceSub,Nat.reduceLeDiff,Nat.reduceLT,Nat.reduceEqDiff,Int.reduceAdd,Int.reduceSub,Int.reduceNeg,Int.reduceLT,Int.reduceLE,Int.reducePow,Int.reduceToNat,Int.reduceMul,and_self,and_true,aV,cM,fJ,Dk,Hw,xIf,Sw,Ue,B4e,Tu,Ov,A1k,scO,Aj3,Xo,Ak5,Kf,Qh,Bb7,Xx,cMt,Au6,unX,cXF,$[$ts:term],*])
noncomputable def vpool:m_:=[.non,.int (-7),.int (-6),.int (-5),.int (-4),.int (-3),.int (-2),.int (-1),.int 0,.int 1,.int 2,.int 3,.int 4,.int 5,.int 6,.int 7,.int 8,.int 9,.int 10,.int 11,.int 12,.int 13,.int 14,.int 15,.int 16,.int 17,.int 100,.int 999999999999,.int (-100000000000),.int (-999999999999),.int 100000000000,
 .str "",.str "a",.str "b",.str "B",.str "10",.str "9",.str "-",.str "a b",.str "it's",.str "\\",.str "/",.str "_",.str ":",.str "None",.str "ab"]
abbrev VP (v:Vl):Prop:=v∈vpool
abbrev VPs (vs:m_):Prop:=∀v∈vs,VP v
theorem Ay3 {v:Vl}(h:v∈vpool):VB v:=aL.mp (show vpool.all _=true by trivial) v h
theorem A9v {i:Int}(h0:-7<=i)(h1:i<=17):Vl.int i∈vpool:=by
 obtain⟨k,rfl⟩:∃k:Nat,i=k-7:=⟨(i+7).toNat,by lia⟩
 have a:k<25:=by lia
 exact aR (aL.mp (show (List.range _).all (λk=>decide (Vl.int (k-7)∈vpool))=true by trivial) k (cD.mpr a))
theorem N6 {v:Vl}(h:v∈vpool):Good v.d 0 1921:=Lz (Ay3 h)
theorem Ut {vs:m_}(h:VPs vs):VBs vs:=λv a=>Ay3 (h v a)
theorem Bo0 {vs:m_}{k:Nat}(h:VPs vs)(hk:vs.length<=k):Good (tD vs) 1 (1923*k+4):=Q3 (Ut h) hk
theorem VPs.app {a b:m_}(h:VPs a)(k:VPs b):VPs (a++b):=λv c=>by
 grind
theorem A7d {neg:Bool}{v:Vl}{vs:m_}(h:VP v)(hs:VPs vs):Ih neg v.d (.list (vs.map Vl.d))=some (.im (.bool (if neg then !decide (v∈vs) else decide (v∈vs)))):=B3b (Ay3 h) (Ut hs)
theorem Bf9 {neg:Bool}{v:m_}{vs:m9}(h:VPs v)(hs:∀u∈vs,VPs u):Ih neg (tD v) (.list (vs.map tD))=some (.im (.bool (if neg then !decide (v∈vs) else decide (v∈vs)))):=Bw5 (Ut h) λu a=>Ut (hs u a)
def Bx (n:Nat)(ds:w5):Prop:=∃x y z:Int,ds=[.int x,.int y,.int z]/\0<=x/\0<=y/\y<2 ^ 62/\0<=z/\z<=n
theorem Bx.mono (h:Bx n ds) (l:n<=m):Bx m ds:=by
 obtain⟨x,y,z,e,b,c,a,d,f⟩:=h
 exact⟨x,y,z,e,b,c,a,d,by lia⟩
theorem mod_lt {x m:Int}(h:0<m):0<=x % m/\x % m<m:=⟨Int.emod_nonneg _ (by lia),Int.emod_lt_of_pos _ h⟩
theorem A5n (h:-(2 ^ 64)<i/\i<2 ^ 64):Wc i j=true:=by
 unfold Wc;grind
theorem Ag1 (h:-(2 ^ 64)<j/\j<2 ^ 64):Wc i j=true:=by
 unfold Wc;grind
theorem Aq8 (h:0<j):Be7 i j=true:=aK h
theorem B5u (h:0<j/\j<1073741824):Ax3 i j=true:=by
 unfold Ax3;grind
theorem B4m:Ai8 10 18=true:=by rfl
theorem Bt7:Ai8 10 12=true:=by rfl
theorem Bt1:Ai8 10 11=true:=by rfl
theorem Bq (hb:Bx n ds) (hn:n<2 ^ 40) (a:0<m) (h1:m<16000000) :
 ∃r ds',Bx (n+1) ds'/\0<=r/\r<m/\Ah [.ls true ds,.im (.int m)]=.ret (.im (.int r)) [.ls true ds',.im (.int m)]:=by
 obtain⟨x,y,z,rfl,d,e,b,g,z1⟩:=hb
 by_cases c:0<x
 ·refine⟨x % m,[.int (x / m),.int y,.int z],⟨_,_,_,rfl,Int.ediv_nonneg d (by lia),e,b,g,by lia⟩,(mod_lt a).1,(mod_lt a).2,?_⟩
  wp_walk using Ah,Oc,Ag,aK c,Aq8 a,B5u ⟨a,(by lia:m<1073741824)⟩
 ·have h:=mod_lt (x:=(y+48271*(z+1))*(39373+(z+1))) (m:=2147483647) (by decide)
  generalize e1:(y+48271*(z+1))*(39373+(z+1)) % 2147483647=once at h
  have g2:=mod_lt (x:=once) (m:=40009) (by decide)
  have f:=mod_lt (x:=(once+(z+1))*(once % 40009+7)) (m:=2147483629) (by decide)
  generalize e2:(once+(z+1))*(once % 40009+7) % 2147483629=twice at f
  refine⟨(twice*48271+once) % 2147483587 / 64 % m,[.int x,.int y,.int (z+1)],⟨_,_,_,rfl,d,e,b,by lia,by lia⟩,(mod_lt a).1,(mod_lt a).2,?_⟩
  wp_walk using Ah,Oc,Ag,Mj,Br,aH c,Aq8 a,B5u (i:=(twice*48271+once) % 2147483587) (j:=64) ⟨by decide,by decide⟩,A5n (i:=48271) (j:=z+1) ⟨by decide,by decide⟩,Ag1 (i:=y+48271*(z+1)) (j:=39373+(z+1)) ⟨by lia,by lia⟩,Aq8 (i:=(y+48271*(z+1))*(39373+(z+1))) (j:=2147483647) (by decide),e1,Aq8 (i:=once) (j:=40009) (by decide),Ag1 (i:=once+(z+1)) (j:=once % 40009+7) ⟨by lia,by lia⟩,Aq8 (i:=(once+(z+1))*(once % 40009+7)) (j:=2147483629) (by decide),e2,Ag1 _,Aq8 (j:=2147483587) (by decide)
theorem As0 {k:Nat}:∃i:Int,Fy [.sc ns,.im (.int k)]=.ret (.im (.int i)) [.sc ns,.im (.int k)]:=by
 by_cases c:k<ns.length
 ·refine⟨ns[k],?_⟩
  have e:atI ns (k:Int)=some ns[k]:=G7 (aU c)
  wp_walk using Fy,Ja,Ra,Bm,PyData.canLay0,PyData.depth,Jw,aK (show (k:Int)<ns.length by lia),e,aB
 ·refine⟨0,?_⟩
  wp_walk using Fy,Ja,Ra,Bm,PyData.canLay0,PyData.depth,Jw,aH (show ¬ (k:Int)<ns.length by lia),aB
theorem Bw7 {k:Nat}(hk:k<=63):∃ds,Bx 0 ds/\Nk [.sc ns,.im (.int k)]=.ret (.ls false ds) [.sc ns,.im (.int k)]:=by
 obtain⟨i,e⟩:=As0 (ns:=ns) (k:=k)
 have a:(0:Int)<=(if i<0 then -i else i):=by grind
 have c:=mod_lt (x:=i) (m:=2305843009213693951) (by decide)
 generalize ea:(if i<0 then -i else i)=ab at a
 have b:(0:Int)<=(if decide ((1000000000000000000:Int)<=ab)=true then 1 else 0)/\(if decide ((1000000000000000000:Int)<=ab)=true then (1:Int) else 0)<=1:=by lia
 generalize eo:(if decide ((1000000000000000000:Int)<=ab)=true then (1:Int) else 0)=on at b
 refine⟨[.int _,.int (i % 2305843009213693951+39373*k+17),.int 0],⟨_,_,_,rfl,Int.mul_nonneg a b.1,by lia,by lia,by lia,by lia⟩,?_⟩
 wp_walk using Nk,Xk,e,A0v,ea,Bc3,Mj,Br,eo,B4m,Aq8 (j:=2305843009213693951) (by decide),Ag1 (j:=on) ⟨by lia,by lia⟩,A5n _
theorem A0y (hb:Bx n ds) (hn:n<2 ^ 39) (j:0<=l) (h1:l<=7) (h2:l<=f) (t:f<=m) (o:7<=m) (p:m<1000) :
 ∃r ds',Bx (n+2) ds'/\l<=r/\r<=m/\Hj [.ls true ds,.im (.int l),.im (.int f),.im (.int m)]=.ret (.im (.int r)) [.ls true ds',.im (.int l),.im (.int f),.im (.int m)]:=by
 obtain⟨r,s,g,u,k,e⟩:=Bq (m:=8) hb (by lia) (by decide) (by decide)
 by_cases c:r=0
 ·subst c
  obtain⟨q,a,d,h,i,b⟩:=Bq (m:=m-6) g (by lia) (by lia) (by lia)
  refine⟨7+q,a,d,by lia,by lia,?_⟩
  wp_walk using Hj,N7,e,b,Bb,Bm,PyData.canLay0,PyData.depth,PyData.eqv,Br,aB,bL
 ·obtain⟨q,a,d,h,i,b⟩:=Bq (m:=f-l+1) g (by lia) (by lia) (by lia)
  refine⟨l+q,a,d,by lia,by lia,?_⟩
  wp_walk using Hj,N7,e,b,Bb,Bm,PyData.canLay0,PyData.depth,PyData.eqv,Br,aB,cR.mpr c
theorem A3j {n:Nat}{ds:w5}(hb:Bx n ds)(hn:n<2 ^ 39):∃(i:Int) (ds':w5),Bx (n+2) ds'/\VP (.int i)/\De [.ls true ds]=.ret (.im (.int i)) [.ls true ds']:=by
 obtain⟨r,d1,k,r0,r1,j⟩:=Bq (m:=9) hb (by lia) (by decide) (by decide)
 by_cases c:r=0
 ·subst c
  obtain⟨q,b,e,f,h,a⟩:=Bq (m:=4) k (by lia) (by decide) (by decide)
  obtain⟨d,s,g,_⟩:=Jm (l:=[PyData.int 999999999999,.int (-999999999999),.int 100000000000,.int 0]) (r:=q) f h
  have p:∃i:Int,d=.int i/\VP (.int i):=by
   simp only[az,a_,bj]at g
   rcases g with rfl | rfl | rfl | rfl <;> exact⟨_,rfl,by decide +kernel⟩
  obtain⟨i,rfl,o⟩:=p
  refine⟨i,b,e,o,?_⟩
  wp_walk using De,J8,j,a,Bb,Bm,PyData.canLay0,PyData.depth,PyData.eqv,Br,aB,bL,Bt7,Bt1,Ag,s
 ·obtain⟨q,b,e,f,h,a⟩:=Bq (m:=25) k (by lia) (by decide) (by decide)
  refine⟨q-7,b,e,?_,?_⟩
  ·exact A9v (by lia) (by lia)
  wp_walk using De,J8,j,a,Bb,Bm,PyData.canLay0,PyData.depth,PyData.eqv,Br,aB,cR.mpr c
theorem Wr {n:Nat}{ds:w5}(hb:Bx n ds)(hn:n<2 ^ 39):∃(v:Vl) (ds':w5),Bx (n+2) ds'/\VP v/\Bp [.ls true ds]=.ret (.im v.d) [.ls true ds']:=by
 obtain⟨r,d1,k,r0,r1,j⟩:=Bq (m:=9) hb (by lia) (by decide) (by decide)
 by_cases c4:r<4
 ·obtain⟨q,e,g,h,i,c⟩:=Bq (m:=13) k (by lia) (by decide) (by decide)
  refine⟨.int (q-3),e,g,?_,?_⟩
  ·exact A9v (by lia) (by lia)
  wp_walk using Bp,Hh,j,c,Ra,Jw,Bm,PyData.canLay0,PyData.depth,aB,aK c4,Vl.d
 by_cases c5:r=4
 ·subst c5
  obtain⟨q,e,g,h,i,c⟩:=Bq (m:=4) k (by lia) (by decide) (by decide)
  obtain⟨d,s,f,_⟩:=Jm (l:=[PyData.int 999999999999,.int (-100000000000),.int 100,.int 10]) (r:=q) h i
  have p:∃v:Vl,d=v.d/\VP v:=by
   simp only[az,a_,bj]at f
   rcases f with rfl | rfl | rfl | rfl <;> exact⟨.int _,rfl,by decide +kernel⟩
  obtain⟨v,rfl,o⟩:=p
  refine⟨v,e,g,o,?_⟩
  wp_walk using Bp,Hh,j,c,Ra,Jw,Bb,Bm,PyData.canLay0,PyData.depth,PyData.eqv,aB,aH c4,bL,Bt7,Bt1,Ag,s
 by_cases c6:r=5
 ·subst c6
  refine⟨.non,d1,k.mono (by lia),by decide +kernel,?_⟩
  wp_walk using Bp,Hh,j,Ra,Jw,Bb,Bm,PyData.canLay0,PyData.depth,PyData.eqv,aB,aH c4,bL,cR.mpr c5,Vl.d
 ·obtain⟨q,e,g,h,i,c⟩:=Bq (m:=15) k (by lia) (by decide) (by decide)
  obtain⟨d,s,f,_⟩:=Jm (l:=[PyData.str "",.str "a",.str "b",.str "B",.str "10",.str "9",.str "-",.str "a b",.str "it's",.str "\\",.str "/",.str "_",.str ":",.str "None",.str "ab"]) (r:=q) h i
  have p:∃v:Vl,d=v.d/\VP v:=by
   simp only[az,a_,bj]at f
   rcases f with rfl | rfl | rfl | rfl | rfl | rfl | rfl | rfl | rfl | rfl | rfl | rfl | rfl | rfl | rfl <;> exact⟨.str _,rfl,by decide +kernel⟩
  obtain⟨v,rfl,o⟩:=p
  refine⟨v,e,g,o,?_⟩
  wp_walk using Bp,Hh,j,c,Ra,Jw,Bb,Bm,PyData.canLay0,PyData.depth,PyData.eqv,aB,aH c4,cR.mpr c5,cR.mpr c6,Ag,s
noncomputable def names12:v4:=["b","a","year","z","ab","month","aa","quantity","c","town","zz","ba"]
theorem Bo4 {m:Nat}(h:m<=1000):(m:Int)<=16000000/\-16000000<=(m:Int):=by lia
theorem upN {n k a b c:Nat}(hn:n<a)(hk:k<=b)(h:a+b<=c):n+k<c:=aA (dO hn hk) h
theorem Bq8 {n:Nat}{r:Int}(a:0<=r)(h1:r<n):ixN n r=some r.toNat:=by
 unfold ixN;grind
theorem Oi : (Li lo n).length=n:=by unfold Li;grind
theorem Ls (h:(Li lo n)[k]?=some d):d=.int (lo+k)/\k<n:=by
 unfold Li at h
 grind
theorem Y7 {α β:Type}(f:α->β):∀(l:List α) (j:Nat),(l.map f).eraseIdx j=(l.eraseIdx j).map f
 | [],j=>rfl
 | a::l,0=>rfl
 | a::l,j+1=>by rw[aG,gh,gh,aG,Y7 f l j]
theorem Xd {α:Type}:∀(l:List α) {j:Nat}(h:j<l.length),(l[j]::l.eraseIdx j).Perm l
 | a::l,0,h=>List.Perm.refl _
 | a::l,j+1,h=>by
  rw[gh,List.getElem_cons_succ]
  exact(List.Perm.swap a _ _).trans (List.Perm.cons a (Xd l (by simpa using h)))
structure Names (ns:v4):Prop where
 nd:ns.Nodup
 sub:∀x∈ns,x∈names12
theorem Be8 (hb:Bx n ds) (hn:n<2 ^ 38) (hm:m<=12) :
 ∃b ds',b.length=m/\Names b/\Bx (n+m) ds'/\Hm [.ls true ds,.im (.int m)]=.ret (.ls false (b.map PyData.str)) [.ls true ds',.im (.int m)]:=by
 have i:=Lg (g:=cgN 0) (ft:=Bh) (fe:=Wu (Aa 1) (cF Ah (Ab (Aa 2) (Ab (La (Aa 1)) Al)))) (items:=Li 0 m) (acc:=[]) (n:=0) (c:=[none,sT (names12.map PyData.str),sT ds])
  (P:=λk f c=>∃a h t b,c=[t,sT (a.map PyData.str),sT h]/\Bx (n+k) h/\f=b.map PyData.str/\(b++a).Perm names12/\b.length=k)
  ⟨names12,ds,none,[],rfl,hb,rfl,List.Perm.refl _,rfl⟩ (λk d f c C w=>by
   rw[bf]at w ⊢;obtain⟨a,h,t,b,rfl,o,rfl,j,l⟩:=w;obtain⟨rfl,hk⟩:=Ls C
   have ll:a.length+k=12:=by have:=j.length_eq;rw[bh,l]at this;have e:names12.length=12:=rfl;lia
   obtain⟨r,v,A,z,y,B⟩:=Bq (m:=(a.length:Int)) o (by lia) (by lia) (by lia)
   have u:r.toNat<a.length:=by lia
   have q:(a.map PyData.str)[r.toNat]?=some (.str a[r.toNat]):=by simp[u]
   have p:ixN a.length r=some r.toNat:=Bq8 z y
   refine⟨some (.str a[r.toNat]),[sI (.int (0+(k:Int))),sT ((a.eraseIdx r.toNat).map PyData.str),sT v],?_,a.eraseIdx r.toNat,v,_,b++[a[r.toNat]],rfl,A.mono (by lia),by simp,?_,by simp[l]⟩
   ·wp_walk using Jx,ao,B,p,q,Y7,show a.length<=16000000 by lia
   ·rw[eZ]
    exact(List.Perm.append_left b (Xd a u)).trans j)
 obtain⟨f,cI,e,a,h,t,b,rfl,o,rfl,j,l⟩:=i;rw[bf,Oi]at o l
 have D:(b++a).Nodup:=j.nodup_iff.mpr (by decide)
 refine⟨b,h,l,⟨(List.nodup_append.mp D).1,λx q=>j.mem_iff.mp (aZ _ q)⟩,o,?_⟩
 have s:cLC [none,some 2,some 0] (Kz (Aa 1)) (cgN 0) Bh (Wu (Aa 1) (cF Ah (Ab (Aa 2) (Ab (La (Aa 1)) Al)))) [sT ds,sI (.int m),sF (names12.map PyData.str)]=.ok (.o (.ls false (b.map PyData.str))) [sT h,sI (.int m),sF (a.map PyData.str)] :=
  Ec (ds:=Li 0 m) (c1:=[sT ds,sI (.int m),sF _]) (by wp_walk using Bo4 (aj hm (by decide)),cN) (by rw[Oi];exact aj hm (by decide)) e (by wp_walk using aV)
 unfold Hm Pz;simp only[names12,aG,cT]at s
 wp_walk using s
theorem A3s {k:Nat}{vs:m_} (h:v∉vs) (a:vs.Nodup):(vs++[v]).Nodup:=by
 grind
theorem Br3 {n:Nat}{ds:w5}{m:Nat}(hb:Bx n ds)(hn:n<2 ^ 38)(hm:m<=1000) :
 ∃a ds',VPs a/\a.Nodup/\a.length<=m/\(0<m->a≠[])/\Bx (n+2*m) ds'/\Jd [.ls true ds,.im (.int m)]=.ret (.ls false (a.map Vl.d)) [.ls true ds',.im (.int m)]:=by
 have i:=Ia (g:=cgN 3) (body:=Bj (Cm (cF Bp (Ab (Aa 0) Al)) (cgN 4)) (cIf (An (cOp (Ih true) (Aa 4) (Aa 2))) (Jv (Ss (Aa 2) (Aa 4))) Bl)) (items:=Li 0 m) (n:=0) (c:=[sT ds,sI (.int m),sF [],none,none])
  (P:=λk c=>∃j a x y,c=[sT j,sI (.int m),sF (a.map Vl.d),x,y]/\Bx (n+2*k) j/\VPs a/\a.Nodup/\a.length<=k/\(0<k->a≠[]))
  ⟨ds,[],none,none,rfl,hb,(λv b=>by cases b),dz,ak _,λh=>absurd h (by decide)⟩ (λk d c B s=>by
   rw[bf]at s ⊢;obtain⟨j,a,x,y,rfl,p,b,o,l,f⟩:=s;obtain⟨rfl,w⟩:=Ls B
   obtain⟨v,q,t,r,A⟩:=Wr p (upN hn (cu 2 (aj (bM w) hm)) (by decide))
   by_cases c:v∈a
   ·refine⟨[sT q,sI (.int m),sF (a.map Vl.d),sI (.int (0+(k:Int))),sI v.d],.inl ?_,q,a,_,_,rfl,t,b,o,eN l,λ_ z=>by rw[z]at c;cases c⟩
    wp_walk using A,A7d r b,aK c
   ·refine⟨[sT q,sI (.int m),sF ((a++[v]).map Vl.d),sI (.int (0+(k:Int))),sI v.d],.inl ?_,q,a++[v],_,_,rfl,t,VPs.app b (λu C=>by rw[aJ.mp C];exact r),A3s (k:=k) c o,by rw[bh,cW];lia,λ_=>by simp⟩
    wp_walk using A,A7d r b,aH c,ao,show a.length<16000000 from bD l (aA w (aj hm (by decide))),cz)
 obtain⟨c',e,j,a,x,y,rfl,p,b,o,l,f⟩:=i;rw[bf,Oi]at p l f
 refine⟨a,j,b,o,l,f,p,?_⟩
 unfold Jd Rr
 wp_walk using Rj,Bo4 hm,cN,e
theorem A7g {n:Nat}{ds:w5}{vs:m_}{w:Nat}(hb:Bx n ds)(hn:n<2 ^ 38)(hw:w<=1000)(hv:VPs vs)(j:vs≠[])(hl:vs.length<=1000) :
 ∃
  a f t,a.length=w/\VPs a/\(∀u∈a,u∈vs)/\Bx (n+w) f /\
  Ek (cgN 0) Bh (cOp Ag (Aa 1) (cF Ah (Ab (Aa 2) (Ab (La (Aa 1)) Al)))) (Li 0 w) [] [none,sT (vs.map Vl.d),sT ds]=.ok (a.map Vl.d) [t,sT (vs.map Vl.d),sT f]:=by
 have i:=Lg (g:=cgN 0) (ft:=Bh) (fe:=cOp Ag (Aa 1) (cF Ah (Ab (Aa 2) (Ab (La (Aa 1)) Al)))) (items:=Li 0 w) (acc:=[]) (n:=0) (c:=[none,sT (vs.map Vl.d),sT ds])
  (P:=λk b c=>∃f t a,c=[t,sT (vs.map Vl.d),sT f]/\Bx (n+k) f/\b=a.map Vl.d/\a.length=k/\VPs a/\∀u∈a,u∈vs)
  ⟨ds,none,[],rfl,hb,rfl,rfl,(λv hv=>by grind),λv hv=>by cases hv⟩ (λk d b c B s=>by
   rw[bf]at s ⊢;obtain⟨f,t,a,rfl,p,rfl,q,y,z⟩:=s;obtain⟨rfl,o⟩:=Ls B;have C:0<vs.length:=gj.mpr j
   obtain⟨r,D,E,A,r1,G⟩:=Bq (m:=(vs.length:Int)) p (upN hn (aj (bM o) hw) (by decide)) (Int.natCast_pos.mpr C) (Int.ofNat_lt.mpr (bD hl (by decide)))
   obtain⟨x,F,H,_⟩:=Jm (l:=vs.map Vl.d) (r:=r) A (by simp_all)
   obtain⟨v,I,rfl⟩:=aO.mp H
   refine⟨some v.d,[sI (.int (0+k)),some _,some _],?_,D,_,a++[v],rfl,E,by simp,by grind,VPs.app y λu h=>by grind,λu h=>by
    grind⟩
   wp_walk using Jx,ao,G,Ag,F)
 obtain⟨b,cI,e,f,t,a,rfl,p,rfl,q,y,z⟩:=i;rw[Oi]at p q
 grind
theorem Y6 {n:Nat}{ds:w5}{w m:Nat}(hb:Bx n ds)(hn:n<2 ^ 37)(hw:w<=100)(hm:m<=1000) :
 ∃(f:m9) (ds':w5),f.Nodup/\(∀t∈f,t.length=w/\VPs t)/\f.length<=m/\Bx (n+12+w*m) ds'/\Gr [.ls true ds,.im (.int w),.im (.int m)]=.ret (.ls false (f.map tD)) [.ls true ds',.im (.int w),.im (.int m)]:=by
 obtain⟨i,E,G,z,H,o,R,D⟩:=Br3 (m:=6) hb (eE hn (by decide)) (by decide)
 have o:=o (by decide)
 have D:Jd [.ls true ds,.im (.int 6)]=.ret (.ls false (i.map Vl.d)) [.ls true E,.im (.int 6)]:=D
 have A:=Ia (g:=cgN 5) (body:=Bj (Cm (cUn Dm (cLC [none,some 3,some 0] (Kz (Aa 1)) (cgN 0) Bh (cOp Ag (Aa 1) (cF Ah (Ab (Aa 2) (Ab (La (Aa 1)) Al)))))) (cgN 6)) (cIf (An (cOp (Ih true) (Aa 6) (Aa 4))) (Jv (Ss (Aa 4) (Aa 6))) Bl)) (items:=Li 0 m) (n:=0)
  (c:=[sT E,sI (.int w),sI (.int m),sF (i.map Vl.d),sF [],none,none])
  (P:=λk c=>∃l f x y,c=[sT l,sI (.int w),sI (.int m),sF (i.map Vl.d),sF (f.map tD),x,y]/\Bx (n+12+w*k) l/\f.Nodup/\(∀t∈f,t.length=w/\VPs t)/\f.length<=k)
  ⟨E,[],none,none,rfl,R,dz,(λv G=>by cases G),ak _⟩ (λk d c N J=>by
   rw[bf]at J ⊢;obtain⟨l,f,x,y,rfl,C,z,p,r⟩:=J;obtain⟨rfl,M⟩:=Ls N;have s:w*k<=100*1000:=dR hw (bM (aA M hm))
   obtain⟨j,q,t,Q,F,_,S,O⟩:=A7g (w:=w) (vs:=i) C (upN (upN hn (ak 12) (show 2 ^ 37+12<=2 ^ 37+100 by decide)) s (by decide)) (aj hw (by decide)) G o (aj H (by decide))
   have L:cLC [none,some 3,some 0] (Kz (Aa 1)) (cgN 0) Bh (cOp Ag (Aa 1) (cF Ah (Ab (Aa 2) (Ab (La (Aa 1)) Al)))) [sT l,sI (.int w),sI (.int m),sF (i.map Vl.d),sF (f.map tD),sI (.int (0+(k:Int))),y]=.ok (.o (.ls false (j.map Vl.d))) [sT q,sI (.int w),sI (.int m),sF (i.map Vl.d),sF (f.map tD),sI (.int (0+(k:Int))),y] :=
    Ec (ds:=Li 0 w) (c1:=[sT l,sI (.int w),sI (.int m),sF (i.map Vl.d),sF (f.map tD),sI (.int (0+(k:Int))),y]) (by wp_walk using Bo4 (m:=w) (aj hw (by decide)),cN) (by rw[Oi];lia) O (by wp_walk using aV)
   have B:Bx (n+12+w*(k+1)) q:=S.mono (Nat.le_of_eq (Nat.add_assoc _ _ _));have K:PyData.tuple (j.map Vl.d)=tD j:=rfl
   by_cases c:j∈f
   ·refine⟨[sT q,sI (.int w),sI (.int m),sF (i.map Vl.d),sF (f.map tD),sI (.int (0+(k:Int))),sI (tD j)],.inl ?_,q,f,_,_,rfl,B,z,p,eN r⟩
    wp_walk using L,Dm,K,Bf9 F (λu I=>(p u I).2),aK c
   ·refine⟨[sT q,sI (.int w),sI (.int m),sF (i.map Vl.d),sF ((f++[j]).map tD),sI (.int (0+(k:Int))),sI (tD j)],.inl ?_,q,f++[j],_,_,rfl,B,?_,λt h=>?_,by rw[bh,cW];exact gf r⟩
    ·wp_walk using L,Dm,K,Bf9 F (λu I=>(p u I).2),aH c,ao,show f.length<16000000 from bD r (aA M (aj hm (by decide))),cz
    ·rw[List.nodup_append]
     exact⟨z,by simp,λa T b hb e=>by rw[aJ.mp hb]at e;exact c (e▸T)⟩
    ·rcases aX.mp h with h | h
     ·exact p t h
     ·rw[aJ.mp h];exact⟨Q,F⟩)
 obtain⟨c',e,l,f,x,y,rfl,C,z,p,r⟩:=A;rw[bf,Oi]at C r
 refine⟨f,l,z,p,r,C,?_⟩
 unfold Gr M5
 wp_walk using D,Rj,Bo4 hm,cN,e
structure Wd where
 key:v4
 names:v4
 vals:v4
 heads:m9
 rows:List (List Vl×List (Option (m_)))
noncomputable def nD (ns:v4):t_:=.tuple (ns.map PyData.str)
def Fq:Option (m_)->t_
 | none=>.none
 | some c=>tD c
def Ye (r:List Vl×List (Option (m_))):t_:=.tuple [tD r.1,.tuple (r.2.map Fq)]
def Wd.ps (w:Wd):w5:=[nD w.key,nD w.names,nD w.vals,.tuple (w.heads.map tD),.tuple (w.rows.map Ye)]
def Wd.d (w:Wd):t_:=.tuple w.ps
def Aa9 (n:Nat)(c:Option (m_)):Prop:=∀vs,c=some vs->vs.length=n/\VPs vs
structure A1q (k h v:Nat) (r:List Vl×List (Option (m_))):Prop where
 plen:r.1.length=k
 part:VPs r.1
 clen:r.2.length=h
 cells:∀c∈r.2,Aa9 v c
structure Wd.Ok (w:Wd):Prop where
 nms:Names (w.key++w.names++w.vals)
 klen:w.key.length<=2
 nlen:w.names.length<=2
 vlen:w.vals.length<=5
 vpos:1<=w.vals.length
 heads:∀h∈w.heads,h.length=w.names.length/\VPs h
 hnd:w.heads.Nodup
 hlen:w.heads.length<=12
 rows:∀r∈w.rows,A1q w.key.length w.heads.length w.vals.length r
 rnd:(w.rows.map (·.1)).Nodup
 rlen:w.rows.length<=12
def Wd.Num (w:Wd):Prop:=∀r∈w.rows,∀c∈r.2,∀vs,c=some vs->∀v∈vs,∃i,v=Vl.int i
theorem B0q {b:Nat}:cutD ds none (some (b:Int))=ds.take b:=by
 unfold cutD;rw[HT.A8p,HT.Ad8]
 grind
theorem Bd4 {ds:w5}{a b:Nat}(h:a<=b)(hb:b<=ds.length):cutD ds (some (a:Int)) (some (b:Int))=(ds.drop a).take (b-a):=by
 unfold cutD;rw[HT.Ad8,HT.Ad8,dD hb,dD (aj h hb)]
theorem Bl0 {n:Nat}{ds:w5}{items:w5}{num:Bool}(hb:Bx n ds)(hn:n<2 ^ 38)(hl:items.length<=1000) :
 ∃
  a f t,a.length=items.length/\VPs a/\(num=true->∀u∈a,∃i,u=Vl.int i)/\Bx (n+2*items.length) f /\
  Ek (cgN 0) Bh (Ox (An (Aa 1)) (cF De (Ab (Aa 2) Al)) (cF Bp (Ab (Aa 2) Al))) items [] [none,sI (.bool num),sT ds]=.ok (a.map Vl.d) [t,sI (.bool num),sT f]:=by
 have p:=Lg (g:=cgN 0) (ft:=Bh) (fe:=Ox (An (Aa 1)) (cF De (Ab (Aa 2) Al)) (cF Bp (Ab (Aa 2) Al))) (items:=items) (acc:=[]) (n:=0) (c:=[none,sI (.bool num),sT ds])
  (P:=λk e c=>∃f t a,c=[t,sI (.bool num),sT f]/\k<=items.length/\Bx (n+2*k) f/\e=a.map Vl.d/\a.length=k/\VPs a/\(num=true->∀u∈a,∃i,u=Vl.int i))
  ⟨ds,none,[],rfl,aB _,hb,rfl,rfl,(λv o=>by cases o),λ_ v o=>by cases o⟩ (λk d e c hd s=>by
   rw[bf]at s ⊢;obtain⟨f,t,a,rfl,x,q,rfl,r,w,hs⟩:=s
   have b:k<items.length:=by
    grind
   cases num with
   | true =>
    obtain⟨i,j,m,y,l⟩:=A3j q (upN hn (cu 2 (aj (bM b) hl)) (by decide))
    refine⟨some (.int i),[sI d,sI (.bool true),sT j],?_,j,_,a++[.int i],rfl,b,m,by simp[Vl.d],by simp[r],VPs.app w λu h=>by simp_all,λ_ u h=>by
     grind⟩
    wp_walk using l
   | false =>
    obtain⟨v,j,m,y,l⟩:=Wr q (upN hn (cu 2 (aj (bM b) hl)) (by decide))
    refine⟨some v.d,[sI d,some _,some _],?_,j,_,a++[v],rfl,b,m,by simp,by simp[r],VPs.app w λu h=>by simp_all,λz=>nomatch z⟩
    wp_walk using l)
 grind
def isL (o:O)(ds:w5):Prop:=o=.ls false ds\/o=.im (.list ds)
theorem Br2 {n:Nat}{ds:w5}{num:Bool}{s2 s3 s4 s5 s6 s7 o8 o9 s11 s12:m7}{often:Int}{vals:w5}{heads:m9}(hb:Bx n ds)(hn:n<2 ^ 37)(L:0<often)(h1:often<1000)(hv:vals.length<=5)(E:heads.length<=12){x14 x15:m7}
 (Q:∃o,o8=some o/\isL o vals) :
 ∃
  (a:List (Option (m_))) (l:w5) (o8' j b:m7),a.length=heads.length/\(∀c∈a,Aa9 vals.length c)/\(num=true->∀c∈a,∀p,c=some p->∀v∈p,∃i,v=Vl.int i)/\Bx (n+11*heads.length) l/\(∃o,o8'=some o/\isL o vals) /\
  forL (cgN 14) (Bj (Cm (cUn Dm (cLC [none,some 1,some 0] (Bk (Aa 8)) (cgN 0) Bh (Ox (An (Aa 1)) (cF De (Ab (Aa 2) Al)) (cF Bp (Ab (Aa 2) Al))))) (cgN 15))
   (Jv (Ss (Aa 13) (Ox (An (cOp (Bb false) (cF Ah (Ab (Aa 0) (Ab (Aa 10) Al))) (cC (.int 0)))) (cC (.none)) (Aa 15))))) (heads.map tD)
   [sT ds,sI (.bool num),s2,s3,s4,s5,s6,s7,o8,o9,sI (.int often),s11,s12,sF [],x14,x15] =
  .nx [sT l,sI (.bool num),s2,s3,s4,s5,s6,s7,o8',o9,sI (.int often),s11,s12,sF (a.map Fq),j,b]:=by
 have y:=Ia (g:=cgN 14) (body:=Bj (Cm (cUn Dm (cLC [none,some 1,some 0] (Bk (Aa 8)) (cgN 0) Bh (Ox (An (Aa 1)) (cF De (Ab (Aa 2) Al)) (cF Bp (Ab (Aa 2) Al))))) (cgN 15))
  (Jv (Ss (Aa 13) (Ox (An (cOp (Bb false) (cF Ah (Ab (Aa 0) (Ab (Aa 10) Al))) (cC (.int 0)))) (cC (.none)) (Aa 15))))) (items:=heads.map tD) (n:=0)
  (c:=[sT ds,sI (.bool num),s2,s3,s4,s5,s6,s7,o8,o9,sI (.int often),s11,s12,sF [],x14,x15])
  (P:=λk c=>∃l C j b a,c=[sT l,sI (.bool num),s2,s3,s4,s5,s6,s7,C,o9,sI (.int often),s11,s12,sF (a.map Fq),j,b]/\k<=heads.length/\Bx (n+11*k) l/\(∃o,C=some o/\isL o vals) /\
   a.length=k/\(∀c∈a,Aa9 vals.length c)/\(num=true->∀c∈a,∀p,c=some p->∀v∈p,∃i,v=Vl.int i))
  ⟨ds,o8,_,_,[],rfl,aB _,hb,Q,rfl,(λc s=>by cases s),λ_ c s=>by cases s⟩ (λk d c K J=>by
   rw[bf]at J ⊢;obtain⟨l,C,j,b,a,rfl,S,D,⟨o,rfl,F⟩,u,s,f⟩:=J
   have x:k<heads.length:=by
    rcases Nat.lt_or_ge k heads.length with q | q
    ·exact q
    ·rw[List.getElem?_eq_none (by rw[ao];exact q)]at K;cases K
   obtain⟨w,V,t,U,W,M,N,R⟩:=Bl0 (items:=vals) (num:=num) D (upN hn (cu 11 (aj (bM x) E)) (by decide)) (aj hv (by decide))
   have G:cLC [none,some 1,some 0] (Bk (Aa 8)) (cgN 0) Bh (Ox (An (Aa 1)) (cF De (Ab (Aa 2) Al)) (cF Bp (Ab (Aa 2) Al)))
    [sT l,sI (.bool num),s2,s3,s4,s5,s6,s7,some o,o9,sI (.int often),s11,s12,sF (a.map Fq),sI d,b] =
    .ok (.o (.ls false (w.map Vl.d))) [sT V,sI (.bool num),s2,s3,s4,s5,s6,s7,sI (.list vals),o9,sI (.int often),s11,s12,sF (a.map Fq),sI d,b]:=by
    refine Ec (ds:=vals) (c1:=[sT l,sI (.bool num),s2,s3,s4,s5,s6,s7,sI (.list vals),o9,sI (.int often),s11,s12,sF (a.map Fq),sI d,b]) ?_ (aj hv (by decide)) R (by wp_walk using aV)
    rcases F with rfl | rfl <;> wp_walk using Bk
   obtain⟨r,A,T,r0,r1,I⟩:=Bq (m:=often) N (upN (upN hn (cu 11 (aj (bM x) E)) (show 2 ^ 37+11*12<=2 ^ 38 by decide)) (cu 2 hv) (by decide)) L (Int.lt_trans h1 (by decide))
   have H:PyData.tuple (w.map Vl.d)=tD w:=rfl;have B:Bx (n+11*(k+1)) A:=T.mono (cL (gf (cu 2 hv)) (n+11*k))
   by_cases c:r=0
   ·subst c
    refine⟨[sT A,sI (.bool num),s2,s3,s4,s5,s6,s7,sI (.list vals),o9,sI (.int often),s11,s12,sF ((a++[none]).map Fq),sI d,sI (tD w)],.inl ?_,A,_,_,_,a++[none],rfl,x,B,⟨_,rfl,.inr rfl⟩,by simp[u],λc h=>?_,λz c h p e=>?_⟩
    ·wp_walk using G,Dm,H,I,Bb,Bm,PyData.canLay0,PyData.depth,PyData.eqv,aB,bL,ao,show a.length<16000000 from u▸aA x (aj E (by decide)),cz,Fq
    ·rcases aX.mp h with h | h
     ·exact s c h
     ·rw[aJ.mp h];exact λp e=>nomatch e
    ·rcases aX.mp h with h | h
     ·exact f z c h p e
     ·rw[aJ.mp h]at e;cases e
   ·refine⟨[sT A,sI (.bool num),s2,s3,s4,s5,s6,s7,sI (.list vals),o9,sI (.int often),s11,s12,sF ((a++[some w]).map Fq),sI d,sI (tD w)],.inl ?_,A,_,_,_,a++[some _],rfl,x,B,⟨_,rfl,.inr rfl⟩,by simp[u],λc h=>?_,λz c h p e=>?_⟩
    ·wp_walk using G,Dm,H,I,Bb,Bm,PyData.canLay0,PyData.depth,PyData.eqv,aB,cR.mpr c,ao,show a.length<16000000 from u▸aA x (aj E (by decide)),cz,Fq
    ·rcases aX.mp h with h | h
     ·exact s c h
     ·rw[aJ.mp h];exact λp e=>by cases e;exact⟨U,W⟩
    ·rcases aX.mp h with h | h
     ·exact f z c h _ e
     ·rw[aJ.mp h]at e;cases e;exact M z)
 obtain⟨c',e,l,C,j,b,a,rfl,_,D,F,u,s,f⟩:=y;rw[bf,ao]at D u;exact⟨a,l,C,j,b,u,s,f,D,F,e⟩
abbrev A9g:Ev->SR:=Bj (Cm (cUn Dm (cLC [none,some 1,some 0] (Bk (Aa 8)) (cgN 0) Bh (Ox (An (Aa 1)) (cF De (Ab (Aa 2) Al)) (cF Bp (Ab (Aa 2) Al))))) (cgN 15))
 (Jv (Ss (Aa 13) (Ox (An (cOp (Bb false) (cF Ah (Ab (Aa 0) (Ab (Aa 10) Al))) (cC (.int 0)))) (cC (.none)) (Aa 15))))
abbrev Wk:Ev->SR:=Bj (Cm (Ge Al) (cgN 13)) (Bj (Rj (Bk (Aa 9)) (cgN 14) A9g) (Jv (Ss (Aa 11) (Gg (Ab (Aa 12) (Ab (cUn Dm (Aa 13)) Al))))))
theorem A6y {n:Nat}{ds:w5}{num:Bool}{s2 s3 s4 s5 s6 s7 o8 o9:m7}{often:Int}{vals:w5}{heads parts:m9}(hb:Bx n ds)(hn:n<2 ^ 36)(M:0<often)(h1:often<1000)(hv:vals.length<=5)(N:heads.length<=12)(hp:parts.length<=12)
 (A:∃o,o8=some o/\isL o vals) (F:∃o,o9=some o/\isL o (heads.map tD)) {x12 x13 x14 x15:m7} {kl:Nat} (C:∀t∈parts,t.length=kl/\VPs t) :
 ∃
  (a:List (List Vl×List (Option (m_)))) (w:w5) (s u l m j b:m7),a.map (·.1)=parts/\(∀r∈a,A1q kl heads.length vals.length r)/\(num=true->∀r∈a,∀c∈r.2,∀vs,c=some vs->∀v∈vs,∃i,v=Vl.int i)/\Bx (n+132*parts.length) w/\(∃o,s=some o/\isL o vals)/\(∃o,u=some o/\isL o (heads.map tD)) /\
  forL (cgN 12) Wk (parts.map tD) [sT ds,sI (.bool num),s2,s3,s4,s5,s6,s7,o8,o9,sI (.int often),sF [],x12,x13,x14,x15] =
  .nx [sT w,sI (.bool num),s2,s3,s4,s5,s6,s7,s,u,sI (.int often),sF (a.map Ye),l,m,j,b]:=by
 have y:=Ia (g:=cgN 12) (body:=Wk) (items:=parts.map tD) (n:=0) (c:=[sT ds,sI (.bool num),s2,s3,s4,s5,s6,s7,o8,o9,sI (.int often),sF [],x12,x13,x14,x15])
  (P:=λk c=>∃w s u l m j b a,c=[sT w,sI (.bool num),s2,s3,s4,s5,s6,s7,s,u,sI (.int often),sF (a.map Ye),l,m,j,b]/\k<=parts.length/\Bx (n+132*k) w/\(∃o,s=some o/\isL o vals)/\(∃o,u=some o/\isL o (heads.map tD)) /\
   a.map (·.1)=parts.take k/\(∀r∈a,A1q kl heads.length vals.length r)/\(num=true->∀r∈a,∀c∈r.2,∀vs,c=some vs->∀v∈vs,∃i,v=Vl.int i))
  ⟨ds,o8,o9,_,_,_,_,[],rfl,aB _,hb,A,F,rfl,(λr q=>by cases q),λ_ r q=>by cases q⟩ (λk d c S L=>by
   rw[bf]at L ⊢;obtain⟨w,s,u,l,m,j,b,a,rfl,D,B,A,⟨o,rfl,R⟩,q,x,p⟩:=L;obtain⟨t,G,e⟩:=Nq S;subst e;have J:k<parts.length:=(bz.mp G).1
   obtain⟨f,I,K,E,H,T,U,Q,W,X,V⟩:=Br2 (num:=num) (s2:=s2) (s3:=s3) (s4:=s4) (s5:=s5) (s6:=s6) (s7:=s7) (o8:=s) (o9:=sI (.list (heads.map tD))) (s11:=sF (a.map Ye)) (s12:=sI (tD t)) (x14:=j) (x15:=b) (heads:=heads) B (by lia) M h1 hv N A
   have Y:a.length=k:=by have:=bA List.length q;rw[ao,cH]at this;exact this.trans (dD D)
   refine⟨[sT I,sI (.bool num),s2,s3,s4,s5,s6,s7,K,sI (.list (heads.map tD)),sI (.int often),sF ((a++[(t,f)]).map Ye),sI (tD t),sF (f.map Fq),E,H],.inl ?_,I,K,_,_,_,_,_,a++[(t,f)],rfl,J,W.mono (by lia),X,⟨_,rfl,.inr rfl⟩,?_,λr h=>?_,λz r h=>?_⟩
   ·have Z:(a.map Ye).length<16000000:=by rw[ao,Y];exact aA J (aj hp (by decide))
    rcases R with rfl | rfl <;> wp_walk using Wk,Rj,Bk,V,Dm,Z,cz,Ye
   ·rw[cz,q,List.take_succ,G];rfl
   ·rcases aX.mp h with h | h
    ·exact x r h
    ·rw[aJ.mp h]
     have:=C t (bG G);exact⟨this.1,this.2,T,U⟩
   ·rcases aX.mp h with h | h
    ·exact p z r h
    ·rw[aJ.mp h];exact Q z)
 obtain⟨c',e,w,s,u,l,m,j,b,a,rfl,_,B,A,F,q,x,p⟩:=y;rw[bf,ao]at B q;rw[dJ]at q;exact⟨a,w,s,u,l,m,j,b,q,x,p,B,A,F,e⟩
theorem Ly {ns:v4}{a:Nat}:(ns.map PyData.str).take a=(ns.take a).map PyData.str:=List.map_take.symm
theorem Qk {ns:v4}{a:Nat}:(ns.map PyData.str).drop a=(ns.drop a).map PyData.str:=List.map_drop.symm
theorem Names.sublist {a b:v4}(h:Names b)(s:a.Sublist b):Names a:=⟨h.nd.sublist s,λx c=>h.sub x (s.subset c)⟩
theorem A7w {o:O}{ds:w5}{i:Nat}{c:Ev}(h:isL o ds)(hc:c[i]?=some (some o)):cUn Dm (Aa i) c=.ok (.o (.im (.tuple ds))) c:=by
 rcases h with rfl | rfl <;> wp_walk using hc,Dm
theorem B6x {b d e f g:n8}{c:Ev}{h a j k i:t_}(h1:b c=.ok (.o (.im h)) c)(h2:d c=.ok (.o (.im a)) c)(m:e c=.ok (.o (.im j)) c)(n:f c=.ok (.o (.im k)) c)(l:g c=.ok (.o (.im i)) c) :
 Cp (Gg (Ab b (Ab d (Ab e (Ab f (Ab g Al)))))) c=.rt (.o (.im (.tuple [h,a,j,k,i]))) c:=by
 wp_walk using h1,h2,m,n,l
theorem Bk1 {n:Nat}{ds:w5}{num:Bool}(hb:Bx n ds)(hn:n<2 ^ 35) :
 ∃(W:Wd) (ds':w5),W.Ok/\(num=true->W.Num)/\Bx (n+3000) ds'/\Oh [.ls true ds,.im (.bool num)]=.ret (.im W.d) [.ls true ds',.im (.bool num)]:=by
 have u:∀k,k<=5000->n+k<2 ^ 40:=λk F=>aA (dO hn F) (by decide)
 have K:∀k,k<=5000->n+k<2 ^ 39:=λk F=>aA (dO hn F) (by decide)
 have J:∀k,k<=5000->n+k<2 ^ 37:=λk F=>aA (dO hn F) (by decide)
 have V:∀k,k<=5000->n+k<2 ^ 36:=λk F=>aA (dO hn F) (by decide)
 obtain⟨o,d1,L,nms,b1,X⟩:=Be8 (m:=9) hb (eE hn (by decide)) (by decide)
 have X:Hm [.ls true ds,.im (.int 9)]=.ret (.ls false (o.map PyData.str)) [.ls true d1,.im (.int 9)]:=X
 obtain⟨a,d2,b2,a0,a1,e2⟩:=Bq (m:=3) b1 (u 9 (by decide)) (by decide) (by decide)
 obtain⟨b,d3,b3,bb0,T,e3⟩:=Bq (m:=3) b2 (u 10 (by decide)) (by decide) (by decide)
 obtain⟨c,d4,b4,c0,c1,e4⟩:=Bq (m:=2) b3 (u 11 (by decide)) (by decide) (by decide)
 obtain⟨q,d5,b5,q0,q1,e5⟩:=Bq (m:=8) b4 (u 12 (by decide)) (by decide) (by decide)
 obtain⟨a,rfl⟩:=dB a0;obtain⟨b,rfl⟩:=dB bb0;have G:a<=2:=fj.mp (Int.le_of_lt_add_one a1);have y:b<=2:=fj.mp (Int.le_of_lt_add_one T)
 have hc:∃(v:Nat) (E:w5),1<=v/\v<=5/\Bx (n+14) E /\
  cIf (An (cOp (Bb false) (cF Ah (Ab (Aa 0) (Ab (cC (.int 8)) Al))) (cC (.int 0)))) (Cm (cOp Br (cC (.int 3)) (cF Ah (Ab (Aa 0) (Ab (cC (.int 3)) Al)))) (cgN 5)) Bl
   [sT d4,sI (.bool num),sF (o.map PyData.str),sI (.int a),sI (.int b),sI (.int (1+c)),none,none,none,none,none,none,none,none,none,none] =
  .nx [sT E,sI (.bool num),sF (o.map PyData.str),sI (.int a),sI (.int b),sI (.int (v:Int)),none,none,none,none,none,none,none,none,none,none]:=by
  by_cases z:q=0
  ·subst z
   obtain⟨k,E,Z,k0,k1,e6⟩:=Bq (m:=3) b5 (u 13 (by decide)) (by decide) (by decide)
   refine⟨(3+k).toNat,E,by lia,by lia,Z.mono (ak _),?_⟩
   wp_walk using e5,e6,Bb,Bm,PyData.canLay0,PyData.depth,PyData.eqv,aB,bL,Br,Int.toNat_of_nonneg (show 0<=3+k by lia)
  ·refine⟨(1+c).toNat,d5,by lia,by lia,b5.mono (c7 _),?_⟩
   wp_walk using e5,Bb,Bm,PyData.canLay0,PyData.depth,PyData.eqv,aB,cR.mpr z,Int.toNat_of_nonneg (show 0<=1+c by lia)
 obtain⟨v,E,v1,v5,Z,e6⟩:=hc
 obtain⟨S,d7,b7,m10,m11,e7⟩:=A0y (l:=0) (f:=5) (m:=12) Z (K 14 (by decide)) (by decide) (by decide) (by decide) (by decide) (by decide) (by decide)
 obtain⟨S,rfl⟩:=dB m10;have D:S<=12:=fj.mp m11
 obtain⟨d,d8,hnd,hh,hl,b8,e8⟩:=Y6 (w:=b) (m:=S) b7 (J 16 (by decide)) (aj y (by decide)) (aj D (by decide))
 obtain⟨f,d9,b9,f0,f1,e9⟩:=Bq (m:=3) (b8.mono (m:=n+52) (cL (show b*S<=24 from dR y D) (n+28))) (u 52 (by decide)) (by decide) (by decide)
 obtain⟨fo,hfo,M,_⟩:=Jm (l:=[PyData.int 9,.int 2,.int 3]) (r:=f) f0 f1
 have hof:∃i:Int,fo=.int i/\0<i/\i<1000:=by
  simp only[az,a_,bj]at M
  rcases M with rfl | rfl | rfl <;> exact⟨_,rfl,by decide,by decide⟩
 obtain⟨i,rfl,U,of1⟩:=hof
 obtain⟨R,d10,b10,m20,m21,Y⟩:=A0y (l:=0) (f:=5) (m:=12) b9 (K 53 (by decide)) (by decide) (by decide) (by decide) (by decide) (by decide) (by decide)
 obtain⟨R,rfl⟩:=dB m20;have B:R<=12:=fj.mp m21
 obtain⟨s,d11,pnd,hp,pl,b11,e11⟩:=Y6 (w:=a) (m:=R) b10 (J 55 (by decide)) (aj G (by decide)) (aj B (by decide))
 have x:s.length<=12:=aj pl B;have A:d.length<=12:=aj hl D;have I:a+b<=4:=Nat.add_le_add G y;have O:a+b+v<=9:=Nat.add_le_add I v5
 let j:=o.take a
 let g:=(o.drop a).take b
 let e:=(o.drop (a+b)).take v
 have kl:j.length=a:=by show (o.take a).length=a;rw[cH,L];exact dD (aj G (by decide))
 have ol:g.length=b:=by show ((o.drop a).take b).length=b;rw[cH,dX,L];exact dD (Nat.le_sub_of_add_le (aj (Nat.add_le_add y G) (by decide)))
 have vl:e.length=v:=by show ((o.drop (a+b)).take v).length=v;rw[cH,dX,L];exact dD (Nat.le_sub_of_add_le (Nat.add_comm v (a+b)▸O))
 have C:j++g++e=o.take (a+b+v):=by
  show o.take a++(o.drop a).take b++(o.drop (a+b)).take v=_
  rw[<- List.take_add,<- List.take_add]
 have c1:cutD (o.map PyData.str) none (some (a:Int))=j.map PyData.str:=by rw[B0q,Ly]
 have c2:cutD (o.map PyData.str) (some (a:Int)) (some ((a:Int)+(b:Int)))=g.map PyData.str:=by
  rw[<- Int.natCast_add,Bd4 (cj _ _) (by rw[ao,L];exact aj I (by decide)),Qk,Ly,Nat.add_sub_cancel_left]
 have c3:cutD (o.map PyData.str) (some ((a:Int)+(b:Int))) (some ((a:Int)+(b:Int)+(v:Int)))=e.map PyData.str:=by
  rw[<- Int.natCast_add,<- Int.natCast_add,Bd4 (cj _ _) (by rw[ao,L];exact O),Qk,Ly,Nat.add_sub_cancel_left]
 obtain⟨t,N,p8,p9,y12,y13,y14,y15,hr,hro,P,b12,⟨o8,rfl,g8⟩,⟨o9,rfl,g9⟩,e12⟩:=A6y (num:=num) (s2:=sF (o.map PyData.str)) (s3:=sI (.int a)) (s4:=sI (.int b)) (s5:=sI (.int v)) (s6:=sI (.list (j.map PyData.str))) (s7:=sI (.list (g.map PyData.str))) (o8:=sF (e.map PyData.str)) (o9:=sF (d.map tD)) (often:=i) (vals:=e.map PyData.str) (heads:=d) (parts:=s) (b11.mono (m:=n+91) (cL (show a*R<=24 from dR G B) (n+67))) (V 91 (by decide)) U of1 (by rw[ao,vl];exact v5) A x ⟨_,rfl,.inl rfl⟩ ⟨_,rfl,.inl rfl⟩ (x12:=none) (x13:=none) (x14:=none) (x15:=none) (kl:=a) hp
 have Q:Names (j++g++e):=by rw[C];exact nms.sublist (List.take_sublist _ _)
 refine⟨⟨j,g,e,d,t⟩,N,⟨Q,by rw[kl];exact G,by rw[ol];exact y,by rw[vl];exact v5,by rw[vl];exact v1,λh H=>⟨by rw[ol];exact(hh h H).1,(hh h H).2⟩,hnd,A,λr h=>?_,by show (t.map (·.1)).Nodup;rw[hr];exact pnd,?_⟩,P,b12.mono (aj (cL (cu 132 x) (n+91)) (cL (show 91+132*12<=3000 by decide) n)),?_⟩
 ·have:=hro r h
  rw[ao]at this
  show A1q j.length d.length e.length r
  rw[kl];exact this
 ·show t.length<=12
  have:=bA List.length hr;rw[ao]at this;exact aj (Nat.le_of_eq this) x
 refine Hr (p:=.o (.im (Wd.d ⟨j,g,e,d,t⟩))) (c:=[sT N,sI (.bool num),sF (o.map PyData.str),sI (.int a),sI (.int b),sI (.int v),sI (.list (j.map PyData.str)),sI (.list (g.map PyData.str)),some o8,some o9,sI (.int i),sF (t.map Ye),y12,y13,y14,y15]) ?_ rfl (by wp_walk using aV)
 show Od [sT ds,sI (.bool num),none,none,none,none,none,none,none,none,none,none,none,none,none,none]=_
 unfold Od
 refine (Ce (c':=[sT d1,sI (.bool num),sF (o.map PyData.str),none,none,none,none,none,none,none,none,none,none,none,none,none]) (by wp_walk using X)).trans ?_
 refine (Ce (c':=[sT d4,sI (.bool num),sF (o.map PyData.str),sI (.int a),sI (.int b),sI (.int (1+c)),none,none,none,none,none,none,none,none,none,none]) (by wp_walk using e2,e3,e4,Br)).trans ?_
 refine (Ce e6).trans ?_
 refine (Ce (c':=[sT E,sI (.bool num),sF (o.map PyData.str),sI (.int a),sI (.int b),sI (.int v),sI (.list (j.map PyData.str)),sI (.list (g.map PyData.str)),none,none,none,none,none,none,none,none]) (by wp_walk using Ph,Br,c1,c2)).trans ?_
 refine (Ce (c':=[sT E,sI (.bool num),sF (o.map PyData.str),sI (.int a),sI (.int b),sI (.int v),sI (.list (j.map PyData.str)),sI (.list (g.map PyData.str)),sF (e.map PyData.str),none,none,none,none,none,none,none]) (by wp_walk using Ph,Br,c3)).trans ?_
 refine (Ce (c':=[sT d8,sI (.bool num),sF (o.map PyData.str),sI (.int a),sI (.int b),sI (.int v),sI (.list (j.map PyData.str)),sI (.list (g.map PyData.str)),sF (e.map PyData.str),sF (d.map tD),none,none,none,none,none,none]) (by wp_walk using e7,e8)).trans ?_
 refine (Ce (c':=[sT d9,sI (.bool num),sF (o.map PyData.str),sI (.int a),sI (.int b),sI (.int v),sI (.list (j.map PyData.str)),sI (.list (g.map PyData.str)),sF (e.map PyData.str),sF (d.map tD),sI (.int i),none,none,none,none,none]) (by wp_walk using e9,Ag,hfo)).trans ?_
 refine (Ce (c':=[sT d9,sI (.bool num),sF (o.map PyData.str),sI (.int a),sI (.int b),sI (.int v),sI (.list (j.map PyData.str)),sI (.list (g.map PyData.str)),sF (e.map PyData.str),sF (d.map tD),sI (.int i),sF [],none,none,none,none]) (by wp_walk using aV)).trans ?_
 refine (Ce ((Uh (ds:=s.map tD) (c1:=[sT d11,sI (.bool num),sF (o.map PyData.str),sI (.int a),sI (.int b),sI (.int v),sI (.list (j.map PyData.str)),sI (.list (g.map PyData.str)),sF (e.map PyData.str),sF (d.map tD),sI (.int i),sF [],none,none,none,none]) (by wp_walk using Bk,Y,e11)).trans e12)).trans ?_
 exact B6x (A7w (.inr rfl) rfl) (A7w (.inr rfl) rfl) (A7w g8 rfl) (A7w g9 rfl) (A7w (.inl rfl) rfl)
theorem Aj9 : (List.replicate n true).all id=true:=by simp
theorem M9:∀n:Nat,boolsOf (List.replicate n (PyData.bool true))=some (List.replicate n true)
 | 0=>rfl
 | n+1=>by rw[List.replicate_succ,List.replicate_succ];show (boolsOf (List.replicate n (PyData.bool true))).map (true::·)=_;rw[M9 n];rfl
theorem Kv (ha:Bm a=true) (hb:Bm b=true):Bb neg a b=sI (.bool (if neg then !PyData.eqv a b else PyData.eqv a b)):=by unfold Bb;grind
theorem Bh0 (h:x∈Ir ds ds):∃d∈ds,x=.tuple [d,d]:=by
 obtain⟨⟨a,b⟩,f,c⟩:=aO.mp h;obtain⟨i,g,e⟩:=fK f
 grind
theorem Af3 {d:t_}:∀{ds:w5},d∈ds->d.depth<=PyData.depthAll ds
 | a::r,h=>by
  show d.depth<=max a.depth (PyData.depthAll r)
  rcases az.mp h with rfl | h
  ·exact Nat.le_max_left _ _
  ·exact aj (Af3 h) (Nat.le_max_right _ _)
theorem Ag5 {d:t_}:∀{ds:w5},d∈ds->PyData.canLayAll0 ds=true->d.canLay0=true
 | a::r,h,l=>by
  obtain⟨l1,l2⟩:=au.mp (show (a.canLay0&&PyData.canLayAll0 r)=true from l)
  rcases az.mp h with rfl | h
  ·exact l1
  ·exact Ag5 h l2
def Short:Nat->t_->Prop
 | 0,_=>True
 | n+1,.list ds=>ds.length<=16000000/\∀d∈ds,Short n d
 | n+1,.tuple ds=>ds.length<=16000000/\∀d∈ds,Short n d
 | _+1,_=>True
theorem Av1:∀ds:w5,2*ds.length<=Lh ds
 | []=>ak _
 | d::r=>by have:=Av1 r;show 2*(r.length+1)<=wt d+2+Lh r;lia
theorem As4 {d:t_}:∀{ds:w5},d∈ds->wt d<=Lh ds
 | a::r,h=>by
  show wt d<=wt a+2+Lh r
  rcases az.mp h with rfl | h
  ·exact aj (cj _ 2) (cj _ _)
  ·exact aj (As4 h) (Nat.le_add_left _ _)
theorem Nz:∀(n:Nat) (d:t_),wt d<=16000000->Short n d
 | 0,d,h=>trivial
 | n+1,.list ds,h=>by
  have h:Lh ds<=16000000:=aj (cj _ 4) h
  exact⟨aj (aj (Nat.le_mul_of_pos_left _ (by decide)) (Av1 ds)) h,λd hd=>Nz n d (aj (As4 hd) h)⟩
 | n+1,.tuple ds,h=>by
  have h:Lh ds<=16000000:=aj (cj _ 4) h
  exact⟨aj (aj (Nat.le_mul_of_pos_left _ (by decide)) (Av1 ds)) h,λd hd=>Nz n d (aj (As4 hd) h)⟩
 | n+1,.none,h=>trivial
 | n+1,.bool _,h=>trivial
 | n+1,.int _,h=>trivial
 | n+1,.str _,h=>trivial
 | n+1,.dict _,h=>trivial
theorem Uu:∀(n:Nat) (d:t_),d.depth<n->n<=40->d.canLay0=true->Short n d->Cq n [.im d,.im d]=.ret (.im (.bool true)) [.im d,.im d]
 | 0,d,h,_,_,_=>absurd h (Nat.not_lt_zero _)
 | n+1,d,h,hn,hl,hs=>by
  have fb:∀b:Bool,Bm (.bool b)=true:=λb=>rfl
  have fl:Bm d=true:=by unfold Bm;rw[hl,aK (show d.depth<=40 from aj (Nat.le_of_lt_succ h) (cU hn))];rfl
  have fi:∀k:Nat,Bm (.int (k:Int))=true:=λk=>rfl
  have loop:∀ds:w5,(∀e∈ds,Cq n [.im e,.im e]=.ret (.im (.bool true)) [.im e,.im e])->∃c',Ek (cgT 2 (Ar (cgN 0) (Ar (cgN 1) Eg))) Bh (cF (Cq n) (Ab (Aa 0) (Ab (Aa 1) Al))) (Ir ds ds) [] [none,none]=.ok ((Ir ds ds).map λ_=>.bool true) c'/\∃a b,c'=[a,b]:=λds hds=>by
   have:=Zq (g:=cgT 2 (Ar (cgN 0) (Ar (cgN 1) Eg))) (ft:=Bh) (fe:=cF (Cq n) (Ab (Aa 0) (Ab (Aa 1) Al))) (I:=λc=>∃a b,c=[a,b]) (F:=λ_=>.bool true) (items:=Ir ds ds) (acc:=[]) (c:=[none,none]) ⟨none,none,rfl⟩ (λx c hx ⟨a,b,hc⟩=>by
    subst hc;obtain⟨e,he,rfl⟩:=Bh0 hx
    refine⟨[sI e,sI e],?_,_,_,rfl⟩
    wp_walk using hds e he)
   simpa using this
  have fin:∀ds:w5,(Ir ds ds).map (λ_=>PyData.bool true)=List.replicate ds.length (.bool true):=λds=>by
   rw[List.map_const'];unfold Ir;rw[ao,fu,eQ]
  show Ga 2 2 (Fx (Cq n)) _=_
  cases d with
  | none=>wp_walk using Fx,My,Dz,Oz,Ep,Kv fl fl,Kv (fb _) (fb _),PyData.eqv,bL
  | bool b=>wp_walk using Fx,My,Dz,Oz,Ep,Kv fl fl,Kv (fb _) (fb _),PyData.eqv,bL
  | int i=>wp_walk using Fx,My,Dz,Oz,Ep,Kv fl fl,Kv (fb _) (fb _),PyData.eqv,bL
  | str x=>wp_walk using Fx,My,Dz,Oz,Ep,Kv fl fl,Kv (fb _) (fb _),PyData.eqv,bL
  | dict k=>cases hl
  | list ds =>
   have hd:∀e∈ds,Cq n [.im e,.im e]=.ret (.im (.bool true)) [.im e,.im e]:=λe he=>Uu n e (bD (Af3 he) (fZ h)) (cU hn) (Ag5 he hl) (hs.2 e he)
   obtain⟨c',e1,a,b,rfl⟩:=loop ds hd;rw[fin]at e1
   have e2:cLC [none,none] (Ry (Aa 0) (Aa 1)) (cgT 2 (Ar (cgN 0) (Ar (cgN 1) Eg))) Bh (cF (Cq n) (Ab (Aa 0) (Ab (Aa 1) Al))) [sI (.list ds),sI (.list ds)]=.ok (.o (.ls false (List.replicate ds.length (.bool true)))) [sI (.list ds),sI (.list ds)] :=
    Ec (ds:=Ir ds ds) (c1:=[sI (.list ds),sI (.list ds)]) (by wp_walk using Ry,Nu) (by unfold Ir;rw[ao,fu,eQ];exact hs.1) e1 rfl
   wp_walk using Fx,My,Dz,Oz,Kv (fb _) (fb _),Jx,Kv (fi _) (fi _),PyData.eqv,bL,e2,Zi,M9,Aj9
  | tuple ds =>
   have hd:∀e∈ds,Cq n [.im e,.im e]=.ret (.im (.bool true)) [.im e,.im e]:=λe he=>Uu n e (bD (Af3 he) (fZ h)) (cU hn) (Ag5 he hl) (hs.2 e he)
   obtain⟨c',e1,a,b,rfl⟩:=loop ds hd;rw[fin]at e1
   have e2:cLC [none,none] (Ry (Aa 0) (Aa 1)) (cgT 2 (Ar (cgN 0) (Ar (cgN 1) Eg))) Bh (cF (Cq n) (Ab (Aa 0) (Ab (Aa 1) Al))) [sI (.tuple ds),sI (.tuple ds)]=.ok (.o (.ls false (List.replicate ds.length (.bool true)))) [sI (.tuple ds),sI (.tuple ds)] :=
    Ec (ds:=Ir ds ds) (c1:=[sI (.tuple ds),sI (.tuple ds)]) (by wp_walk using Ry,Nu) (by unfold Ir;rw[ao,fu,eQ];exact hs.1) e1 rfl
   wp_walk using Fx,My,Dz,Oz,Kv (fb _) (fb _),Jx,Kv (fi _) (fi _),PyData.eqv,bL,e2,Zi,M9,Aj9
theorem A3o {n:Nat}{d:t_}{k w:Nat}(h:Good d k w)(hk:k<n)(hn:n<=40)(hw:w<=16000000):Cq n [.im d,.im d]=.ret (.im (.bool true)) [.im d,.im d] :=
 Uu n d (bD h.dep hk) hn h.lay (Nz n d (aj h.wgt hw))
noncomputable def Fj (heads:m9) (r:List Vl×List (Option (m_))):List (List Vl×List Vl×Option (m_)):=(heads.zip r.2).map λq=>(r.1,q.1,q.2)
def Wd.along (w:Wd):List (List Vl×List Vl×Option (m_)):=w.rows.flatMap (Fj w.heads)
def Nt (t:List Vl×List Vl×Option (m_)):t_:=.tuple [tD t.1,tD t.2.1,Fq t.2.2]
theorem Wl {α β:Type}(f:α->t_)(g:β->t_):∀(as:List α) (bs:List β),Ir (as.map f) (bs.map g)=(as.zip bs).map λq=>.tuple [f q.1,g q.2]
 | [],bs=>by simp[Ir]
 | a::as,[]=>by simp[Ir]
 | a::as,b::bs=>by
  have:=Wl f g as bs;unfold Ir at this ⊢;rw[aG,aG,bQ,aG,this,bQ,aG]
theorem Vp (heads:m9)(r:List Vl×List (Option (m_))):(Fj heads r).length<=heads.length:=by
 unfold Fj;grind
theorem Rq (heads:m9):∀rows:List (List Vl×List (Option (m_))),(rows.flatMap (Fj heads)).length<=heads.length*rows.length
 | []=>by simp
 | r::rs=>by
  have:=Rq heads rs;have:=Vp heads r;rw[List.flatMap_cons,bh,aF,Nat.mul_succ];lia
theorem Vk {w:Wd}(h1:w.heads.length<=1000)(h2:w.rows.length<=1000):Fl [.im w.d]=.ret (.ls false (w.along.map Nt)) [.im w.d]:=by
 have f:=Ia (g:=cgT 2 (Ar (cgN 2) (Ar (cgN 3) Eg))) (body:=Jv (Bj9 (Aa 1) (cLC [none,none,some 2] (Ry (cOp Ag (Aa 0) (cC (.int 3))) (Aa 3)) (cgT 2 (Ar (cgN 0) (Ar (cgN 1) Eg))) Bh (Gg (Ab (Aa 2) (Ab (Aa 0) (Ab (Aa 1) Al))))))) (items:=w.rows.map Ye) (n:=0)
  (c:=[sI w.d,sF [],none,none])
  (P:=λk c=>∃x y,c=[sI w.d,sF (((w.rows.take k).flatMap (Fj w.heads)).map Nt),x,y])
  ⟨none,none,rfl⟩ (λk d c t i=>by
   rw[bf]at i ⊢;obtain⟨x,y,rfl⟩:=i;obtain⟨r,m,rfl⟩:=Nq t;have hk:k<w.rows.length:=(bz.mp m).1
   obtain⟨s,l,a,b,rfl⟩:=Zq (g:=cgT 2 (Ar (cgN 0) (Ar (cgN 1) Eg))) (ft:=Bh) (fe:=Gg (Ab (Aa 2) (Ab (Aa 0) (Ab (Aa 1) Al)))) (I:=λc=>∃a b,c=[a,b,sI (tD r.1)]) (F:=λd=>match d with
    | .tuple [x,y]=>.tuple [tD r.1,x,y]
    | d=>d) (items:=Ir (w.heads.map tD) (r.2.map Fq)) (acc:=[]) (c:=[none,none,sI (tD r.1)]) ⟨none,none,rfl⟩ (λx c j ⟨a,b,o⟩=>by
    subst o;rw[Wl]at j;obtain⟨q,hq,rfl⟩:=aO.mp j
    refine⟨[sI (tD q.1),sI (Fq q.2),sI (tD r.1)],?_,_,_,rfl⟩
    wp_walk using aV)
   have u:(Ir (w.heads.map tD) (r.2.map Fq)).map (λd=>match d with
    | .tuple [x,y]=>.tuple [tD r.1,x,y]
    | d=>d)=(Fj w.heads r).map Nt:=by
    rw[Wl,cY];unfold Fj;rw[cY]
    rfl
   rw[cQ,u]at l
   have z:cLC [none,none,some 2] (Ry (cOp Ag (Aa 0) (cC (.int 3))) (Aa 3)) (cgT 2 (Ar (cgN 0) (Ar (cgN 1) Eg))) Bh (Gg (Ab (Aa 2) (Ab (Aa 0) (Ab (Aa 1) Al)))) [sI w.d,sF (((w.rows.take k).flatMap (Fj w.heads)).map Nt),sI (tD r.1),sI (.tuple (r.2.map Fq))] =
    .ok (.o (.ls false ((Fj w.heads r).map Nt))) [sI w.d,sF (((w.rows.take k).flatMap (Fj w.heads)).map Nt),sI (tD r.1),sI (.tuple (r.2.map Fq))] :=
    Ec (ds:=Ir (w.heads.map tD) (r.2.map Fq)) (c1:=[sI w.d,sF (((w.rows.take k).flatMap (Fj w.heads)).map Nt),sI (tD r.1),sI (.tuple (r.2.map Fq))]) (by wp_walk using Ry,Ag,Wd.d,Wd.ps,Nu) (by unfold Ir;rw[ao,fu,ao];lia) l (by wp_walk using aV)
   refine⟨[sI w.d,sF (((w.rows.take (k+1)).flatMap (Fj w.heads)).map Nt),sI (tD r.1),sI (.tuple (r.2.map Fq))],.inl ?_,_,_,rfl⟩
   have v:(w.rows.take (k+1)).flatMap (Fj w.heads)=(w.rows.take k).flatMap (Fj w.heads)++Fj w.heads r:=by
    rw[List.take_succ,m];simp
   have h:(((w.rows.take k).flatMap (Fj w.heads)).map Nt).length+((Fj w.heads r).map Nt).length<=16000000:=by
    rw[ao,ao];have a:=Rq w.heads (w.rows.take k);have b:=Vp w.heads r
    have:w.heads.length*(w.rows.take k).length<=1000*1000:=dR h1 (by rw[cH];lia)
    lia
   wp_walk using Ye,z,h,v,cz)
 obtain⟨s,e,x,y,rfl⟩:=f;rw[bf,ao,dJ]at e
 refine Hr (p:=.sl 1) (c:=[sI w.d,sF (w.along.map Nt),x,y]) ?_ rfl (by wp_walk using aV)
 refine (Ce ((Uh (by wp_walk using Bk,Ag,Wd.d,Wd.ps)).trans e)).trans ?_
 wp_walk using Wd.along
theorem Bn7 {neg:Bool}:Ep neg .none .none=sI (.bool (!neg)):=rfl
theorem B6m {neg:Bool}{vs:m_}:Ep neg (tD vs) .none=sI (.bool neg):=rfl
noncomputable def B6l (t:List Vl×List Vl×Option (m_)):Option (m_):=t.2.2.map λc=>t.1++t.2.1++c
def Wd.out (w:Wd):m9:=w.along.filterMap B6l
def Wd.outD (w:Wd):t_:=.tuple [nD (w.key++w.names++w.vals),.tuple (w.out.map tD)]
theorem A4g {w:Wd}{t:List Vl×List Vl×Option (m_)}(h:t∈w.along):∃r∈w.rows,t.1=r.1/\t.2.1∈w.heads/\t.2.2∈r.2:=by
 obtain⟨r,d,b⟩:=List.mem_flatMap.mp h;obtain⟨q,c,a⟩:=aO.mp b;have:=dW c
 grind
theorem A1i {w:Wd}(h:w.Ok){t:List Vl×List Vl×Option (m_)}(ht:t∈w.along):VPs t.1/\t.1.length=w.key.length/\VPs t.2.1/\t.2.1.length=w.names.length/\Aa9 w.vals.length t.2.2:=by
 obtain⟨r,c,e,b,d⟩:=A4g ht;have a:=h.rows r c;rw[e];exact⟨a.part,a.plen,(h.heads _ b).2,(h.heads _ b).1,a.cells _ d⟩
theorem Bz4 {w:Wd}(h:w.Ok):∀o∈w.out,VPs o/\o.length=w.key.length+w.names.length+w.vals.length:=by
 intro o b;obtain⟨t,f,e⟩:=bW.mp b;obtain⟨i,k,m,j,d⟩:=A1i h f;obtain⟨c,g,a⟩:=aM.mp e;obtain⟨l,v⟩:=d c g
 grind
theorem T4 {w:Wd}(h:w.Ok):w.along.length<=144:=by
 have:=Rq w.heads w.rows;have := dR h.hlen h.rlen
 show (w.rows.flatMap _).length<=144
 lia
theorem Bk3 {w:Wd}(h:w.Ok):w.out.length<=144:=aj (gk _ _) (T4 h)
theorem Bu4 {a b:m_}(h:a.length+b.length<=16000000):Br (tD a) (tD b)=sI (tD (a++b)):=by
 unfold tD
 show (if (a.map _).length+(b.map _).length<=16000000 then some _ else none)=_
 simp_all
theorem add_n {a b:v4}(h:a.length+b.length<=16000000):Br (nD a) (nD b)=sI (nD (a++b)):=by
 unfold nD
 show (if (a.map _).length+(b.map _).length<=16000000 then some _ else none)=_
 simp_all
theorem S9 {w:Wd}(h:w.Ok):Gu [.im w.d]=.ret (.im w.outD) [.im w.d]:=by
 have l1:=h.klen;have l2:=h.nlen;have l3:=h.vlen
 have s:=Vk (w:=w) (by have:=h.hlen;lia) (by have:=h.rlen;lia)
 obtain⟨v,e,a,b,x,rfl⟩:=Wh (g:=cgT 3 (Ar (cgN 0) (Ar (cgN 1) (Ar (cgN 2) Eg)))) (ft:=An (cOp (Ep true) (Aa 2) (cC (.none)))) (fe:=cOp Br (cOp Br (Aa 0) (Aa 1)) (Aa 2)) (I:=λc=>∃a b x,c=[a,b,x]) (F:=λd=>match d with
  | .tuple [.tuple p,.tuple q,.tuple r]=>some (.tuple (p++q++r))
  | _=>none) (items:=w.along.map Nt) (acc:=[]) (c:=[none,none,none]) ⟨none,none,none,rfl⟩ (λx c n ⟨a,b,z,o⟩=>by
  subst o;obtain⟨t,m,rfl⟩:=aO.mp n;obtain⟨a1,i,a3,j,l⟩:=A1i h m;obtain⟨p,q,r⟩:=t;have i:p.length=w.key.length:=i;have j:q.length=w.names.length:=j
  cases r with
  | none =>
   refine⟨[sI (tD p),sI (tD q),sI .none],?_,_,_,_,rfl⟩
   wp_walk using Nt,Fq,Bn7
   rfl
  | some r =>
   have lr:=(l r rfl).1
   have e:=Bu4 (a:=p) (b:=q) (by lia)
   have f:=Bu4 (a:=p++q) (b:=r) (by rw[bh];lia)
   refine⟨[sI (tD p),sI (tD q),sI (tD r)],?_,_,_,_,rfl⟩
   wp_walk using Nt,Fq,B6m,e,f
   unfold tD
   rw[cz,cz])
 have u:(w.along.map Nt).filterMap (λd=>match d with
  | .tuple [.tuple p,.tuple q,.tuple r]=>some (.tuple (p++q++r))
  | _=>none)=w.out.map tD:=by
  unfold Wd.out;rw[List.filterMap_map,List.map_filterMap]
  congr 1
  funext t
  obtain⟨p,q,r⟩:=t
  cases r with
  | none=>rfl
  | some r=>simp[Nt,Fq,tD,B6l]
 rw[cQ,u]at e
 have f:cLC [none,none,none] (Bk (cF Fl (Ab (Aa 0) Al))) (cgT 3 (Ar (cgN 0) (Ar (cgN 1) (Ar (cgN 2) Eg)))) (An (cOp (Ep true) (Aa 2) (cC (.none)))) (cOp Br (cOp Br (Aa 0) (Aa 1)) (Aa 2)) [sI w.d,none]=.ok (.o (.ls false (w.out.map tD))) [sI w.d,none] :=
  Ec (ds:=w.along.map Nt) (c1:=[sI w.d,none]) (by wp_walk using Bk,s) (by rw[ao];have:=T4 h;lia) e rfl
 have y:=add_n (a:=w.key) (b:=w.names) (by lia)
 have k:=add_n (a:=w.key++w.names) (b:=w.vals) (by rw[bh];lia)
 refine Hr (p:=.o (.im w.outD)) (c:=[sI w.d,sF (w.out.map tD)]) ?_ rfl (by wp_walk using aV)
 show M4 [sI _,none]=_
 refine (Ce (c':=[sI w.d,sF (w.out.map tD)]) (by wp_walk using f)).trans ?_
 wp_walk using Ag,Wd.d,Wd.ps,y,k,Dm,Wd.outD
structure Tb where
 cols:v4
 rows:m9
def Tb.d (t:Tb):t_:=.tuple [.tuple (t.cols.map PyData.str),.tuple (t.rows.map tD)]
structure Tb.Ok (t:Tb):Prop where
 nms:Names t.cols
 cpos:1<=t.cols.length
 clen:t.cols.length<=12
 rows:∀r∈t.rows,r.length=t.cols.length/\VPs r
 rlen:t.rows.length<=144
def Wd.tb (w:Wd):Tb:=⟨w.key++w.names++w.vals,w.out⟩
theorem Wd.tb_d (w:Wd):w.outD=w.tb.d:=rfl
theorem Wd.tb_ok {w:Wd}(h:w.Ok):w.tb.Ok:=by
 have b:=h.klen;have c:=h.nlen;have d:=h.vlen;have f:=h.vpos
 have e:w.tb.cols.length=w.key.length+w.names.length+w.vals.length:=by show (w.key++w.names++w.vals).length=_;grind
 refine⟨h.nms,by lia,by lia,λr a=>?_,Bk3 h⟩
 have:=Bz4 h r a
 grind
noncomputable def vlt:Vl->Vl->Bool
 | .non,.non=>false
 | .non,_=>true
 | .int i,.int j=>decide (i<j)
 | .int _,.str _=>true
 | .str x,.str y=>decide (x.cps.toList<y.cps.toList)
 | _,_=>false
noncomputable def Ha:Vl->t_
 | .non=>.tuple [.int 0,.int 0]
 | .int i=>.tuple [.int 1,.int i]
 | .str x=>.tuple [.int 2,.str x]
theorem Ag4 : Cw (k+1) [.im v.d]=.ret (.im (Ha v)) [.im v.d]:=by
 cases v with
 | non=>rfl
 | int i=>rfl
 | str x=>rfl
theorem K6 {v:Vl}(h:VP v):Bm (Ha v)=true:=by
 have g:=(N6 h).lay
 cases v with
 | non=>rfl
 | int i=>rfl
 | str x =>
  show (((PyData.int 2).canLay0&&(PyData.str x).canLay0&&true)&&decide _)=true
  rw[show (PyData.str x).canLay0=true from g];rfl
theorem Bd0 (a b:Vl):Jw false (Ha a) (Ha b)=some (vlt a b):=by
 cases a with
 | non=>cases b <;> rfl
 | int i=>
  cases b with
   | non=>rfl
   | int j =>
    show (if (i==j)=true then some _ else some _)=some (decide _)
    grind
   | str y=>rfl
 | str x=>
  cases b with
   | non=>rfl
   | int j=>rfl
   | str y =>
    show (if (x==y)=true then some _ else some _)=some (decide _)
    grind
theorem Bo8 {a b:Vl}(ha:VP a)(hb:VP b):A6l (Ha a) (Ha b)=sI (.bool (vlt a b)):=by
 unfold A6l;rw[K6 ha,K6 hb,Bd0];rfl
theorem Bv2 {neg:Bool}{a b:Vl}(ha:VP a)(hb:VP b):Bb neg a.d b.d=sI (.bool (if neg then !decide (a=b) else decide (a=b))):=by
 rw[Sq (N6 ha) (N6 hb) (by decide) (by decide),A6c]
structure Cn where
 at_:Nat
 name:Str
 word:Str
 val:Vl
def Cn.d (c:Cn):t_:=.tuple [.str c.name,.str c.word,c.val.d]
noncomputable def words4:v4:=["is","not","below","above"]
structure Cn.Ok (cols:v4) (c:Cn):Prop where
 nm:cols[c.at_]?=some c.name
 wd:c.word∈words4
 vb:VP c.val
def Tz (w:Str)(a b:Vl):Bool:=if w=Str.ofString "is" then decide (a=b) else if w=Str.ofString "not" then !decide (a=b) else if w=Str.ofString "below" then vlt a b else vlt b a
theorem ne1:decide (Str.ofString "not" = Str.ofString "is")=false:=by rfl
theorem ne2:decide (Str.ofString "below" = Str.ofString "is")=false:=by rfl
theorem ne3:decide (Str.ofString "below" = Str.ofString "not")=false:=by rfl
theorem ne4:decide (Str.ofString "above" = Str.ofString "is")=false:=by rfl
theorem ne5:decide (Str.ofString "above" = Str.ofString "not")=false:=by rfl
theorem ne6:decide (Str.ofString "above" = Str.ofString "below")=false:=by rfl
theorem Bl1 (a b:Vl):Tz (Str.ofString "is") a b=decide (a=b)/\Tz (Str.ofString "not") a b=(!decide (a=b))/\Tz (Str.ofString "below") a b=vlt a b/\Tz (Str.ofString "above") a b=vlt b a:=by
 trivial
theorem Am8 {a b:Vl}(ha:VP a)(hb:VP b):Ed [.im a.d,.im b.d]=.ret (.im (.bool (vlt a b))) [.im a.d,.im b.d]:=by
 wp_walk using Ed,Ij,Ag4 ,Ag4 ,Bo8 ha hb
theorem Bc9 {a b:Vl}{w:Str}(ha:VP a)(hb:VP b)(hw:w∈words4):Gh [.im a.d,.im (.str w),.im b.d]=.ret (.im (.bool (Tz w a b))) [.im a.d,.im (.str w),.im b.d]:=by
 obtain⟨c,d,e,f⟩:=Bl1 a b;simp only[words4,az,a_,bj]at hw
 rcases hw with rfl | rfl | rfl | rfl
 ·wp_walk using Gh,Lb,Dn,Bv2 ha hb,c
 ·wp_walk using Gh,Lb,Dn,ne1,Bv2 ha hb,d
 ·wp_walk using Gh,Lb,Dn,ne2,ne3,Am8 ha hb,e
 ·wp_walk using Gh,Lb,Dn,ne4,ne5,ne6,Am8 hb ha,f
theorem Ay5:∀{cols:v4}{i:Nat}{x:Str},cols.Nodup->cols[i]?=some x->Ld x cols=some i
 | [],i,x,_,h=>by simp at h
 | y::r,0,x,_,h=>by
  have e:y=x:=by simpa using h
  unfold Ld;rw[if_pos (by simpa using e)]
 | y::r,i+1,x,nd,h=>by
  have h':r[i]?=some x:=by simpa using h
  obtain⟨n1,n2⟩:=bO.mp nd
  have ne:¬ y=x:=λe=>n1 (by rw[e];exact bG h')
  unfold Ld;rw[if_neg (by simpa using ne),Ay5 n2 h'];rfl
theorem Tq:∀ss:v4,strsOf (ss.map PyData.str)=some ss
 | []=>rfl
 | x::ss=>by show (strsOf (ss.map PyData.str)).map (x::·)=_;rw[Tq ss];rfl
theorem Pq {cols:v4}{i:Nat}(a:cols.Nodup) (h:cols[i]?=some x):Jc (.tuple (cols.map PyData.str)) (.str x)=sI (.int i):=by
 show (strsOf _).bind _=_
 rw[Tq,fc,Ay5 a h];rfl
theorem Rf (x:Str):∀cols:v4,((cols.map PyData.str).any λe=>PyData.eqv e (.str x))=decide (x∈cols)
 | []=>rfl
 | y::r=>by
  rw[aG,dH,Rf x r,A1c]
  by_cases e:y=x
  ·subst e;simp
  ·simp[e,aC e]
noncomputable def nmZ (x:Str):Str:=x++Str.ofString "z"
noncomputable def nmW (x:Str):Str:=x++x
def allNm:v4:=names12++([Str.ofString "no",Str.ofString "",Str.ofString "A",Str.ofString "none",Str.ofString "B"]++(names12.map nmZ++names12.map nmW))
def allWd:v4:=words4++[Str.ofString "like",Str.ofString "",Str.ofString "IS",Str.ofString "sum",Str.ofString "rows"]
theorem nmA:(allNm.all λx=>Bm (.str x)&&(Av9 (Str.ofString "no column ").length (.str x)&&vb (.str x)))=true:=by decide +kernel
theorem Sx {x:Str}(h:x∈allNm):Bm (.str x)=true/\Av9 (Str.ofString "no column ").length (.str x)=true/\VB (.str x):=by
 have:=aL.mp nmA x h
 grind
theorem A9x:∀x∈allWd,VB (.str x):=λx a=>aL.mp (show allWd.all (λx=>vb _)=true by trivial) x a
theorem B1n {x:Str}(h:x∈names12):(PyData.str x).canLay0=true:=(Lz (Sx (aZ _ h)).2.2).lay
theorem Uq {x:Str}{cols:v4}(hx:x∈allNm)(hs:∀y∈cols,y∈names12):Ih true (.str x) (.tuple (cols.map PyData.str))=sI (.bool (!decide (x∈cols))):=by
 show (if Bm _&&PyData.canLayAll0 _ then some _ else none)=_
 rw[(Sx hx).1,Ab7 λd a=>by obtain⟨u,b,rfl⟩:=aO.mp a;exact B1n (hs u b),Rf]
 rfl
theorem Az6 {n N:Nat}{body:Ev->XS}{ds:w5}{nm:Xn}{c0 c:Ev}(hl:ds.length=n)(a:ds.map (λd=>some (.im d))++List.replicate (N-n) none=c0)(h:body c0=.ex nm c):Kf n N body ds=.ex nm:=by
 unfold Kf
 simp_all
theorem Bi1 {n N:Nat}{body:Ev->XS}{ds:w5}{c0 c:Ev}(hl:ds.length=n)(a:ds.map (λd=>some (.im d))++List.replicate (N-n) none=c0)(h:body c0=.s (.nx c)):Kf n N body ds=.ret (.im .none):=by
 unfold Kf
 simp_all
theorem Bm9 {n N:Nat}{body:Ev->XS}{ds:w5}{p:PV}{o:O}{c0 c c':Ev}(hl:ds.length=n)(a:ds.map (λd=>some (.im d))++List.replicate (N-n) none=c0)(h:body c0=.s (.rt p c))(hr:resolve p c=some (o,c')):Kf n N body ds=.ret o:=by
 unfold Kf
 simp_all
structure Cn.Gd (cols:v4) (c:Cn):Prop where
 nm:c.name∈allNm
 wd:c.word∈allWd
 vb:VP c.val
 at_:c.name∈cols->cols[c.at_]?=some c.name
theorem Cn.Gd.ok {cols:v4}{c:Cn}(h:Cn.Gd cols c)(h1:c.name∈cols)(h2:c.word∈words4):Cn.Ok cols c:=⟨h.at_ h1,h2,h.vb⟩
abbrev nC (x:Str):Xn:=⟨Str.ofString "NoColumn",some (Str.ofString "name",.str x)⟩
abbrev nW:Xn:=⟨Str.ofString "BadWay",none⟩
theorem Al1 {t:Tb}{c:Cn}(ht:Tb.Ok t)(hc:Cn.Gd t.cols c)(h:c.name∈t.cols):Bo [t.d,.str c.name]=.ret (.im (.int c.at_)):=by
 have a:=Uq hc.nm ht.nms.sub;rw[aK h]at a
 wp_walk using Bo,Hy,Tb.d,Ag,a,cMt,Kg,(Pq ht.nms.nd (hc.at_ h))
theorem Bf5 {t:Tb}{c:Cn}(ht:Tb.Ok t)(hc:Cn.Gd t.cols c)(h:c.name∉t.cols):Bo [t.d,.str c.name]=.ex (nC c.name):=by
 have a:=Uq hc.nm ht.nms.sub;rw[aH h]at a
 wp_walk using Bo,Hy,Tb.d,Ag,a,((Sx hc.nm).2.1)
noncomputable def Gv (cols:v4) (cs:List Cn):Option Cn:=cs.find? λc=>!decide (c.name∈cols)
theorem T3 {t:Tb}(ht:Tb.Ok t):∀(cs:List Cn) (u:m7),(∀c∈cs,Cn.Gd t.cols c) ->
 Qp (cgN 0) Bh Bo (Ab (Aa 1) (Ab (Aa 0) Al)) (cs.map λc=>PyData.str c.name) [u,sI t.d]=(Gv t.cols cs).map λc=>(nC c.name,[sI (.str c.name),sI t.d])
 | [],_,_=>rfl
 | c::cs,u,h=>by
  rw[aG];unfold Qp Gv;rw[List.find?_cons]
  by_cases z:c.name∈t.cols
  ·have e:=Al1 ht (h c (.head _)) z
   have ih:=T3 ht cs (sI (.str c.name)) λx hx=>h x (.tail _ hx)
   rw[aK z];unfold Gv at ih
   wp_walk using e,ih,Bool.not_true
  ·have e:=Bf5 ht (h c (.head _)) z
   rw[aH z]
   wp_walk using e,Bool.not_false,b_
theorem Zr {t:Tb}{cs:List Cn}(ht:Tb.Ok t)(hc:∀c∈cs,Cn.Gd t.cols c)(hl:cs.length<=100) :
 Ew [t.d,.list (cs.map λc=>PyData.str c.name)]=match Gv t.cols cs with
  | some c=>.ex (nC c.name)
  | none=>.ret (.im (.list (cs.map λc=>PyData.int c.at_))):=by
 have l:=T3 ht cs none hc
 have i:∀s,Bk (Aa 1) [sI t.d,sI (.list s)]=.ok s [sI t.d,sI (.list s)]:=λs=>by wp_walk using Bk
 have d:(cs.map λc=>PyData.str c.name).length<=16000000:=by grind
 have b:∀(m:List Nat) (f:Ev->SR),Rg [none,some 0] (Bk (Aa 1)) (cgN 0) Bh Bo (Ab (Aa 1) (Ab (Aa 0) Al)) [] f [sI t.d,sI (.list (cs.map λc=>PyData.str c.name))]=match Gv t.cols cs with
  | some c=>.ex (nC c.name) [sI t.d,sI (.list (cs.map λc=>PyData.str c.name))]
  | none=>.s (f [sI t.d,sI (.list (cs.map λc=>PyData.str c.name))]):=λm f=>by
  unfold Rg;rw[i]
  dsimp only
  rw[if_pos d,show cIn [none,some 0] [sI t.d,sI (.list (cs.map λc=>PyData.str c.name))]=[none,sI t.d] from rfl,l]
  cases Gv t.cols cs with
  | some c=>rfl
  | none=>rfl
 cases hbad:Gv t.cols cs with
 | some c =>
  refine Az6 (c0:=[sI t.d,sI (.list (cs.map λc=>PyData.str c.name))]) (c:=[sI t.d,sI (.list (cs.map λc=>PyData.str c.name))]) rfl rfl ?_
  unfold Lk;rw[b [],hbad]
 | none =>
  have a:∀c∈cs,c.name∈t.cols:=λc h=>by
   have:=List.find?_eq_none.mp hbad c h
   simpa using this
  obtain⟨cI,e,u,rfl⟩:=Ej (g:=cgN 0) (ft:=Bh) (fe:=cFY Bo (Ab (Aa 1) (Ab (Aa 0) Al))) (I:=λc=>∃u,c=[u,sI t.d]) (f:=λc:Cn=>PyData.str c.name) (G:=λc=>PyData.int c.at_) (xs:=cs) (acc:=[]) (c:=[none,sI t.d]) ⟨none,rfl⟩
   (λx c j n=>by
    obtain⟨u,rfl⟩:=n
    refine⟨[sI (.str x.name),sI t.d],?_,_,rfl⟩
    wp_walk using cFY,Al1 ht (hc x j) (a x j))
  have k:cLC [none,some 0] (Bk (Aa 1)) (cgN 0) Bh (cFY Bo (Ab (Aa 1) (Ab (Aa 0) Al))) [sI t.d,sI (.list (cs.map λc=>PyData.str c.name))]=.ok (.o (.ls false (cs.map λc=>PyData.int c.at_))) [sI t.d,sI (.list (cs.map λc=>PyData.str c.name))] :=
   Ec (ds:=cs.map λc=>PyData.str c.name) (c1:=[sI t.d,sI (.list (cs.map λc=>PyData.str c.name))]) (i _) d (by trivial) rfl
  refine Bm9 (c0:=[some _,some _]) (c:=[sI t.d,sI (.list (cs.map λc=>PyData.str c.name))]) (p:=.o (.im _)) rfl rfl ?_ rfl
  unfold Lk;rw[b [],hbad]
  wp_walk using k
theorem Wa {cs:List Cn}(hl:cs.length<=100):Ei [.im (.list (cs.map Cn.d))]=.ret (.ls false (cs.map λc=>PyData.str c.name)) [.im (.list (cs.map Cn.d))]:=by
 obtain⟨cI,e,t,rfl⟩:=Ej (g:=cgN 0) (ft:=Bh) (fe:=cOp Ag (Aa 0) (cC (.int 0))) (I:=λc=>∃t,c=[t]) (f:=Cn.d) ⟨none,rfl⟩
  λx c hx b=>by
   obtain⟨t,rfl⟩:=b
   refine⟨[sI x.d],?_,_,rfl⟩
   rfl
 have a:cLC [none] (Bk (Aa 0)) _ _ _ [sI (.list (cs.map _))]=.ok _ _ :=
  Ec (by rfl) (by grind) (by trivial) rfl
 wp_walk using Ei,Kh,a
theorem Az1 (w:Str):∀ss:v4,inV (.str w) (ss.map V.str)=decide (w∈ss)
 | []=>rfl
 | s::ss=>by
  show (eqV (.str s) (.str w)||inV (.str w) (ss.map V.str))=_
  rw[Az1 w ss]
  have:eqV (.str s) (.str w)=decide (s=w):=by show (s==w)=_;exact Bool.eq_iff_iff.mpr (by simp)
  rw[this]
  by_cases z:s=w
  ·rw[aK z,aK (show w∈s::ss by rw[z];exact .head _)];rfl
  ·rw[aH z,Bool.false_or]
   refine decide_eq_decide.mpr ⟨λh=>.tail _ h,λh=>?_⟩
   rcases az.mp h with h | h
   ·exact absurd h.symm z
   ·exact h
abbrev wds:v4:=["is","not","below","above"]
theorem Ba4 {w:Str}:Ay8 true wds (.str w)=sI (.bool (!decide (w∈words4))):=by
 show some _=_
 have:inV _ (wds.map _)=decide (w∈words4):=Az1 w _
 grind
theorem V2 {L:t_}:∀(cs:List Cn) (u:m7),∃v:m7,
 Zw (cgN 1) Dv (cs.map Cn.d) [sI L,u]=if (∀c∈cs,c.word∈words4) then .s (.nx [sI L,v]) else .ex nW [sI L,v]
 | [],u=>⟨u,by rw[if_pos λc h=>nomatch h];rfl⟩
 | c::cs,u=>by
  have e:=Ba4 (w:=c.word)
  by_cases z:c.word∈words4
  ·obtain⟨v,ih⟩:=V2 (L:=L) cs (sI c.d)
   refine⟨v,?_⟩
   rw[aK z]at e
   have eb:Dv [sI L,sI c.d]=.s (.nx [sI L,sI c.d]):=by
    wp_walk using Dv,Cn.d,Ag,e
   rw[aG];unfold Zw;have eg:cgN 1 (.o (.im c.d)) [sI L,u]=.ok () [sI L,sI c.d]:=rfl;simp only[eg,eb,ih]
   by_cases y:∀x∈cs,x.word∈words4
   ·rw[if_pos y,if_pos (λx hx=>by rcases az.mp hx with rfl | hx;exact z;exact y x hx)]
   ·rw[if_neg y,if_neg (λq=>y λx hx=>q x (.tail _ hx))]
  ·refine⟨some (.im c.d),?_⟩
   rw[aH z]at e
   have eb:Dv [sI L,sI c.d]=.ex nW [sI L,sI c.d]:=by
    wp_walk using Dv,Cn.d,Ag,e
   rw[aG];unfold Zw;have eg:cgN 1 (.o (.im c.d)) [sI L,u]=.ok () [sI L,sI c.d]:=rfl;simp only[eg,eb]
   rw[if_neg λq=>z (q c (.head _))]
theorem Bf4 {cs:List Cn}:G8 [.list (cs.map Cn.d)]=if (∀c∈cs,c.word∈words4) then .ret (.im .none) else .ex nW:=by
 obtain⟨v,e⟩:=V2 (L:=.list (cs.map Cn.d)) cs none
 have b:Bk (Aa 0) [sI (.list (cs.map Cn.d)),none]=.ok (cs.map Cn.d) [sI (.list (cs.map Cn.d)),none]:=by rfl
 have a:Ju [sI (.list (cs.map Cn.d)),none]=if ∀c∈cs,c.word∈words4 then .s (.nx [sI (.list (cs.map Cn.d)),v]) else .ex nW [sI (.list (cs.map Cn.d)),v]:=by
  unfold Ju Bq0
  simp_all
 by_cases y:∀x∈cs,x.word∈words4
 ·rw[if_pos y]at a ⊢
  exact Bi1 rfl rfl a
 ·rw[if_neg y]at a ⊢
  exact Az6 rfl rfl a
noncomputable def Jy (r:m_) (c:Cn):Vl:=(r[c.at_]?).getD .non
def Ar7 (r:m_)(cs:List Cn):Bool:=cs.all λc=>Tz c.word (Jy r c) c.val
theorem Ud {cols:v4}{r:m_}{c:Cn}(hc:Cn.Ok cols c)(hr:r.length=cols.length)(hv:VPs r):atI (r.map Vl.d) (c.at_:Int)=some (Jy r c).d/\VP (Jy r c):=by
 have a:c.at_<r.length:=by rw[hr];exact(bz.mp hc.nm).1
 have e:Jy r c=r[c.at_]:=by unfold Jy;grind
 rw[e]
 exact⟨G7 (by grind),hv _ (cB _)⟩
theorem A0r {α:Type}(f g:α->t_):∀l:List α,Ir (l.map f) (l.map g)=l.map λx=>.tuple [f x,g x]
 | []=>rfl
 | x::l=>by
  have:=A0r f g l;unfold Ir at this ⊢;rw[aG,aG,bQ,aG,this];rfl
theorem Py {α:Type}(F:α->Bool):∀xs:List α,boolsOf (xs.map λx=>PyData.bool (F x))=some (xs.map F)
 | []=>rfl
 | x::xs=>by show (boolsOf (xs.map λx=>PyData.bool (F x))).map (F x::·)=_;rw[Py F xs];rfl
theorem Aw0 {a:Type}(F:a->Bool)(xs:List a):Zi (.list (xs.map λx=>PyData.bool (F x)))=sI (.bool (xs.all F)):=by
 show (boolsOf _).map _=_
 rw[Py F,b_,List.all_map];rfl
theorem Ak4 {cols:v4}{r:m_}{cs:List Cn}(hc:∀c∈cs,Cn.Ok cols c)(hr:r.length=cols.length)(hv:VPs r)(hl:cs.length<=100) :
 Fo [.im (tD r),.im (.list (cs.map λc=>PyData.int c.at_)),.im (.list (cs.map Cn.d))]=.ret (.im (.bool (Ar7 r cs))) [.im (tD r),.im (.list (cs.map λc=>PyData.int c.at_)),.im (.list (cs.map Cn.d))]:=by
 obtain⟨cI,e,u,v,rfl⟩:=Ej (g:=cgT 2 (Ar (cgN 0) (Ar (cgN 1) Eg))) (ft:=Bh) (fe:=cF Gh (Ab (cOp Ag (Aa 2) (Aa 0)) (Ab (cOp Ag (Aa 1) (cC (.int 1))) (Ab (cOp Ag (Aa 1) (cC (.int 2))) Al)))) (I:=λc=>∃u v,c=[u,v,sI (tD r)]) (f:=λc:Cn=>PyData.tuple [.int c.at_,c.d]) (G:=λc=>PyData.bool (Tz c.word (Jy r c) c.val)) (xs:=cs) (acc:=[]) (c:=[none,none,sI (tD r)]) ⟨none,none,rfl⟩
  (λx c b d=>by
   obtain⟨u,v,rfl⟩:=d;obtain⟨i,h⟩:=Ud (hc x b) hr hv;have a:=Bc9 h (hc x b).vb (hc x b).wd
   refine⟨[sI (.int x.at_),sI x.d,sI (tD r)],?_,_,_,rfl⟩
   wp_walk using Cn.d,tD,Ag,i,a)
 have a:cLC [none,none,some 0] (Ry (Aa 1) (Aa 2)) (cgT 2 (Ar (cgN 0) (Ar (cgN 1) Eg))) Bh (cF Gh (Ab (cOp Ag (Aa 2) (Aa 0)) (Ab (cOp Ag (Aa 1) (cC (.int 1))) (Ab (cOp Ag (Aa 1) (cC (.int 2))) Al)))) [sI (tD r),sI (.list (cs.map λc=>PyData.int c.at_)),sI (.list (cs.map Cn.d))]=.ok (.o (.ls false (cs.map λc=>PyData.bool (Tz c.word (Jy r c) c.val)))) [sI (tD r),sI (.list (cs.map λc=>PyData.int c.at_)),sI (.list (cs.map Cn.d))] :=
  Ec (ds:=cs.map λc => PyData.tuple [.int c.at_,c.d]) (c1:=[sI _,some _,some _]) (by wp_walk using Ry,Nu,A0r) (by rw[ao];lia) (by simpa[cIn,O.flag] using e) rfl
 wp_walk using Fo,Nr,a,Aw0,Ar7
def Wn (rows:m9)(cs:List Cn):w5:=(List.range rows.length).filterMap λk=>if Ar7 (rows.getD k []) cs then some (PyData.int k) else none
theorem Bb1 (a:m9):U5 (a.map tD)=(List.range a.length).map λk:Nat=>PyData.tuple [.int k,tD (a.getD k [])]:=by
 unfold U5
 simp_all
def B0g (cols:v4)(cs:List Cn)(L:w5):XF:=match Gv cols cs with
 | some c=>.ex (nC c.name)
 | none=>if (∀c∈cs,c.word∈words4) then .ret (.im (.list L)) else .ex nW
theorem Xq {cols:v4}{cs:List Cn}(h:Gv cols cs=none):∀c∈cs,c.name∈cols:=λc a=>by
 have:=List.find?_eq_none.mp h c a
 simp_all
theorem X4 {t:Tb}{cs:List Cn}(ht:Tb.Ok t)(hc:∀c∈cs,Cn.Gd t.cols c)(hl:cs.length<=100) :
 Cy [t.d,.list (cs.map Cn.d)]=B0g t.cols cs (Wn t.rows cs):=by
 have m:=ht.rlen;have b:=Wa (cs:=cs) hl;have d:=Zr ht hc hl;have i:=Bf4 (cs:=cs);unfold B0g
 cases hb:Gv t.cols cs with
 | some c =>
  rw[hb]at d
  wp_walk using Cy,Gf,b,d
 | none =>
 rw[hb]at d
 dsimp only at d ⊢
 by_cases y:∀c∈cs,c.word∈words4
 ·rw[if_pos y]at i ⊢
  have n:∀c∈cs,Cn.Ok t.cols c:=λc h=>(hc c h).ok (Xq hb c h) (y c h)
  obtain⟨cI,e,u,v,rfl⟩:=Jg (g:=cgT 2 (Ar (cgN 0) (Ar (cgN 1) Eg))) (ft:=An (cF Fo (Ab (Aa 1) (Ab (Aa 2) (Ab (Aa 3) Al))))) (fe:=Aa 0) (I:=λc=>∃u v,c=[u,v,sI (.list (cs.map λc=>PyData.int c.at_)),sI (.list (cs.map Cn.d))]) (f:=λk:Nat=>PyData.tuple [.int k,tD (t.rows.getD k [])]) (G:=λk=>if Ar7 (t.rows.getD k []) cs then some (PyData.int k) else none) (xs:=List.range t.rows.length) (acc:=[]) (c:=[none,none,sI (.list (cs.map λc=>PyData.int c.at_)),sI (.list (cs.map Cn.d))]) ⟨none,none,rfl⟩
   (λk c a l=>by
    obtain⟨u,v,rfl⟩:=l;have a:=cD.mp a
    have o:t.rows.getD k []=t.rows[k]:=by rw[gn,aU a];rfl
    have h:=ht.rows _ (cB a);rw[o];have b:=Ak4 n h.1 h.2 hl
    refine⟨[sI (.int k),sI (tD t.rows[k]),sI (.list (cs.map λc=>PyData.int c.at_)),sI (.list (cs.map Cn.d))],?_,_,_,rfl⟩
    cases ha:Ar7 t.rows[k] cs with
    | true =>
     rw[ha]at b
     wp_walk using b
    | false =>
     rw[ha]at b
     wp_walk using b)
  have j:cLC [none,none,some 2,some 1] (A0w (cOp Ag (Aa 0) (cC (.int 1)))) (cgT 2 (Ar (cgN 0) (Ar (cgN 1) Eg))) (An (cF Fo (Ab (Aa 1) (Ab (Aa 2) (Ab (Aa 3) Al))))) (Aa 0) [sI t.d,sI (.list (cs.map Cn.d)),sI (.list (cs.map λc=>PyData.int c.at_))]=.ok (.o (.ls false (Wn t.rows cs))) [sI t.d,sI (.list (cs.map Cn.d)),sI (.list (cs.map λc=>PyData.int c.at_))] :=
   Ec (ds:=(List.range t.rows.length).map λk:Nat=>PyData.tuple [.int k,tD (t.rows.getD k [])]) (c1:=[some _,sI _,sI _]) (by wp_walk using A0w,Tb.d,Ag,Nu,Bb1) (by rw[ao,List.length_range];lia) (by simpa[cIn,O.flag,Wn] using e) rfl
  wp_walk using Cy,Gf,b,d,i,j
 ·rw[if_neg y]at i ⊢
  wp_walk using Cy,Gf,b,d,i
def A7k (rows:m9)(cs:List Cn):List Nat:=(List.range rows.length).filter λk=>Ar7 (rows.getD k []) cs
theorem A2r {b c:Type}(p:b->Bool)(f:b->c)(l:List b):(l.filterMap λk=>if p k then some (f k) else none)=(l.filter p).map f:=by
 induction l with
 | nil=>rfl
 | cons a r d =>
  grind
theorem A9l (a:m9)(cs:List Cn):Wn a cs=(A7k a cs).map λk:Nat=>PyData.int k:=A2r _ _ _
theorem Tn {α:Type}(F:α->Bool):∀xs:List α,boolsOf (xs.map λx=>PyData.bool (F x))=some (xs.map F)
 | []=>rfl
 | x::xs=>by show (boolsOf (xs.map λx=>PyData.bool (F x))).map (F x::·)=_;rw[Tn F xs];rfl
theorem Bx5 {a:Type}(f:a->Bool)(xs:List a):(xs.map f).any id=xs.any f:=by simp_all
theorem Zn {a:Type}(F:a->Bool)(xs:List a):Xh (.list (xs.map λx=>PyData.bool (F x)))=sI (.bool (xs.any F)):=by
 show (boolsOf _).map _=_
 rw[Tn F,b_,Bx5]
abbrev nN:Xn:=⟨Str.ofString "NoNumber",none⟩
noncomputable def isS:Vl->Bool
 | .str _=>true
 | _=>false
noncomputable def isN:Vl->Bool
 | .non=>true
 | _=>false
def thr (xs:m_):m_:=xs.filter λv=>!isN v
theorem Bi2 (xs:m_):(xs.filterMap λv=>if isN v=true then none else some v.d)=(thr xs).map Vl.d:=by
 induction xs with
 | nil=>rfl
 | cons v r a =>
  unfold thr at a ⊢
  grind
theorem K8 (xs:m_)(w:t_)(hl:xs.length<=1000):cLC [none] (Bk (Aa 0)) (cgN 0) (An (cOp (Ep true) (Aa 0) (cC (.none)))) (Aa 0) [sI (.list (xs.map Vl.d)),sI w,none]
 = .ok (.o (.ls false ((thr xs).map Vl.d))) [sI (.list (xs.map Vl.d)),sI w,none]:=by
 obtain⟨cI,e,hI⟩:=Jg (g:=cgN 0) (ft:=An (cOp (Ep true) (Aa 0) (cC .none))) (fe:=Aa 0) (I:=λc=>∃t,c=[t]) (f:=Vl.d) (G:=λv=>if isN v=true then none else some _) ⟨none,rfl⟩
  λv c hv a=>by
   obtain⟨t,rfl⟩:=a
   refine⟨[sI v.d],?_,_,rfl⟩
   cases v with
   | non=>trivial
   | int i=>trivial
   | str x=>rfl
 rw[Bi2]at e
 exact Ec (by rfl) (by grind) e (by trivial)
theorem Bq6 {ts:m_}(hl:ts.length<=1000)(h:ts.any isS=true):Hg [.list (ts.map Vl.d)]=.ex nN:=by
 obtain⟨cI,e,b⟩:=Ej (g:=cgN 0) (ft:=Bh) (fe:=cUn (Dz .str) (Aa 0)) (I:=λc=>∃t,c=[t]) (f:=Vl.d) (G:=λv=>PyData.bool (isS v)) (xs:=ts) (acc:=[]) (c:=[none]) ⟨none,rfl⟩
  (λv c hv a=>by
   obtain⟨t,rfl⟩:=a
   refine⟨[sI v.d],?_,_,rfl⟩
   cases v <;> wp_walk using Vl.d,Dz,Oz,isS)
 obtain⟨t,rfl⟩:=b;rw[cQ]at e
 have d:=Ec (idx:=[none]) (fi:=Bk (Aa 0)) (ds:=ts.map Vl.d) (c:=[sI (.list (ts.map Vl.d))]) (c1:=[sI (.list (ts.map Vl.d))]) (c2:=[sI (.list (ts.map Vl.d))]) (by wp_walk using Bk,U.Nu) (by rw[ao];lia) e (by wp_walk using aV)
 wp_walk using Hg,Sh,d,Zn,h
theorem Ak7:∀{ts:m_},(∀v∈ts,isN v=false)->ts.any isS=false->∃l,intsOf (ts.map Vl.d)=some l
 | [],_,_=>⟨[],rfl⟩
 | .non::r,h,_=>by have:=h _ (.head _);cases this
 | .str x::r,_,h=>by cases h
 | .int i::r,h1,h2=>by
  obtain⟨l,e⟩:=Ak7 (ts:=r) (λv hv=>h1 v (.tail _ hv)) h2
  exact⟨i::l,by show (intsOf (r.map Vl.d)).map (i::·)=_;rw[e];rfl⟩
theorem Bh9 {ts:m_}(hl:ts.length<=1000)(hn:∀v∈ts,isN v=false)(h:ts.any isS=false):∃i,Hg [.list (ts.map Vl.d)]=.ret (.im (.int i)):=by
 obtain⟨cI,e,b⟩:=Ej (g:=cgN 0) (ft:=Bh) (fe:=cUn (Dz .str) (Aa 0)) (I:=λc=>∃t,c=[t]) (f:=Vl.d) (G:=λv=>PyData.bool (isS v)) (xs:=ts) (acc:=[]) (c:=[none]) ⟨none,rfl⟩
  (λv c hv j=>by
   obtain⟨t,rfl⟩:=j
   refine⟨[sI v.d],?_,_,rfl⟩
   cases v <;> wp_walk using Vl.d,Dz,Oz,isS)
 obtain⟨t,rfl⟩:=b;rw[cQ]at e
 have d:=Ec (idx:=[none]) (fi:=Bk (Aa 0)) (ds:=ts.map Vl.d) (c:=[sI (.list (ts.map Vl.d))]) (c1:=[sI (.list (ts.map Vl.d))]) (c2:=[sI (.list (ts.map Vl.d))]) (by wp_walk using Bk,U.Nu) (by rw[ao];lia) e (by wp_walk using aV)
 obtain⟨l,a⟩:=Ak7 hn h
 exact⟨l.sum,by wp_walk using Hg,Sh,d,Zn,h,A7q,a⟩
theorem Bu7 : ∀v∈thr xs,isN v=false:=λv a=>by
 have:=(dg.mp a).2
 grind
theorem Ac7 : (thr xs).length<=xs.length:=List.length_filter_le _ _
theorem Az2 (xs:m_):(thr xs).any isS=xs.any isS:=by
 induction xs with
 | nil=>rfl
 | cons v r a =>
  cases v with
  | non=>exact a
  | int i=>trivial
  | str x=>rfl
theorem Xg (v:Vl):Vn (Cw 2) v.d=some (Ha v):=by
 unfold Vn
 rw[show Cw 2 _=_ from Ag4 ];rfl
theorem A0j (c:Bool)(a b:Vl):∃r,Jw c (Ha a) (Ha b)=some r:=by
 cases a with
 | non=>cases b <;> exact⟨_,rfl⟩
 | int i=>
  cases b with
   | non=>exact⟨_,rfl⟩
   | int j =>
    show ∃r,(if (i==j)=true then some _ else some _)=some r
    split <;> exact⟨_,rfl⟩
   | str y=>exact⟨_,rfl⟩
 | str x=>
  cases b with
   | non=>exact⟨_,rfl⟩
   | int j=>exact⟨_,rfl⟩
   | str y =>
    show ∃r,(if (x==y)=true then some _ else some _)=some r
    split <;> exact⟨_,rfl⟩
def prR (v:Vl):PyData×t_:=(v.d,Ha v)
theorem Az7 (gt:Bool):∀(ts:m_) (best:Option Vl),VPs ts->(∀v,best=some v->VP v)->∃out:Option Vl,(∀v,out=some v->VP v)/\mmF gt (Cw 2) (ts.map Vl.d) (best.map prR)=some (out.map prR)
 | [],best,_,h=>⟨best,h,rfl⟩
 | v::r,best,h1,h2=>by
  have hv:=h1 v (.head _)
  have hr:VPs r:=λu hu=>h1 u (.tail _ hu)
  cases best with
  | none =>
   obtain⟨out,ho,e⟩:=Az7 gt r (some v) hr (λu hu=>by cases hu;exact hv)
   refine⟨out,ho,?_⟩
   show ((Vn (Cw 2) v.d).bind λk=>mmF gt (Cw 2) (r.map Vl.d) (some (v.d,k)))=_
   rw[Xg];exact e
  | some b =>
   have hb:=h2 b rfl;obtain⟨q,eq⟩:=A0j gt v b
   obtain⟨out,ho,e⟩:=Az7 gt r (some (if q=true then v else b)) hr (λu hu=>by cases hu;split;exact hv;exact hb)
   refine⟨out,ho,?_⟩
   show ((Vn (Cw 2) v.d).bind λk=>if (Bm k&&Bm (Ha b))=true then (Jw gt k (Ha b)).bind λr'=>mmF gt (Cw 2) (r.map Vl.d) (if r'=true then some (v.d,k) else some (b.d,Ha b)) else none)=_
   rw[Xg,fc,K6 hv,K6 hb,eq]
   cases q with
   | true=>exact e
   | false=>exact e
theorem Am0:∀{ts:m_},(∀v∈ts,isN v=false)->∃ks,We (ts.map Vl.d)=some ks/\ks.length=ts.length
 | [],_=>⟨[],rfl,rfl⟩
 | v::r,h=>by
  obtain⟨ks,e,hl⟩:=Am0 (ts:=r) λu hu=>h u (.tail _ hu)
  have hv:=h v (.head _)
  cases v with
  | non=>cases hv
  | int i=>exact⟨.inl i::ks,by show (We (r.map Vl.d)).map ((Sum.inl i:Key)::·)=_;rw[e];rfl,by rw[aF,aF,hl]⟩
  | str x=>exact⟨.inr x::ks,by show (We (r.map Vl.d)).map ((Sum.inr x:Key)::·)=_;rw[e];rfl,by rw[aF,aF,hl]⟩
noncomputable def isF (o:m7):Bool:=match o with
 | some (.im (.bool false))=>true
 | _=>false
theorem Dy {o:m7}(h:isF o=true):o=sI (.bool false):=by
 unfold isF at h
 grind
abbrev wd (s:String):t_:=.str (Str.ofString s)
theorem eqT (s:Str):Bb false (.str s) (.str s)=sI (.bool true):=by rw[Dn];simp
theorem Bo3 {xs:m_}(hl:xs.length<=1000)(h:xs.any isS=false):∃i,Aq [.list (xs.map Vl.d),wd "sum"]=.ret (.im (.int i)):=by
 have e:=K8 xs (wd "sum") hl
 obtain⟨i,b⟩:=Bh9 (ts:=thr xs) (aj Ac7 hl) Bu7 (by rw[Az2];exact h)
 have a:=Dy (show isF (Bb false (wd "sum") (wd "first"))=true by decide +kernel)
 refine⟨i,?_⟩
 wp_walk using Aq,Cd,e,a,(Dy (show isF (Bb false (wd "sum") (wd "last"))=true by decide +kernel)),eqT,b,scO
theorem Bc1 {xs:m_}(hl:xs.length<=1000)(h:xs.any isS=true):Aq [.list (xs.map Vl.d),wd "sum"]=.ex nN:=by
 have e:=K8 xs (wd "sum") hl
 have b:=Bq6 (ts:=thr xs) (aj Ac7 hl) (by rw[Az2];exact h)
 have a:=Dy (show isF (Bb false (wd "sum") (wd "first"))=true by decide +kernel)
 wp_walk using Aq,Cd,e,a,(Dy (show isF (Bb false (wd "sum") (wd "last"))=true by decide +kernel)),eqT,b
theorem A2d {xs:m_}(h:xs≠[]):∃v:Vl,v∈xs/\Aq [.list (xs.map Vl.d),wd "first"]=.ret (.im v.d):=by
 cases xs with
 | nil=>trivial
 | cons v r =>
  refine⟨v,.head _,?_⟩
  wp_walk using Aq,Cd,eqT,Ag
theorem A7p {xs:m_}(hl:xs.length<=1000)(h:xs≠[]):∃v:Vl,v∈xs/\Aq [.list (xs.map Vl.d),wd "last"]=.ret (.im v.d):=by
 have c:0<xs.length:=gj.mpr h
 have b:=Dy (show isF (Bb false (wd "last") (wd "first"))=true by decide +kernel)
 have a:atI (xs.map Vl.d) (-1)=some (xs[xs.length-1]).d:=by
  unfold atI ixN
  rw[if_neg (by decide),ao]
  rw[if_pos (by lia),fc,bH]
  rw[show (-1+(xs.length:Int)).toNat=xs.length-1 by lia,aU (by lia)]
  rfl
 refine⟨xs[xs.length-1],cB _,?_⟩
 wp_walk using Aq,Cd,b,eqT,Ag,Dt,a
theorem A2h {xs:m_}(hl:xs.length<=1000):∃i,Aq [.list (xs.map Vl.d),wd "count"]=.ret (.im (.int i)):=by
 have e:=K8 xs (wd "count") hl
 have b:=Dy (show isF (Bb false (wd "count") (wd "first"))=true by decide +kernel)
 have c:=Dy (show isF (Bb false (wd "count") (wd "last"))=true by decide +kernel)
 have a:=Dy (show isF (Bb false (wd "count") (wd "sum"))=true by decide +kernel)
 refine⟨(((thr xs).map Vl.d).length),?_⟩
 wp_walk using Aq,Cd,e,b,c,a,eqT,Jx
theorem A1z {xs:m_}(hl:xs.length<=1000)(hv:VPs xs):∃o:Option Vl,(∀v,o=some v->VP v)/\Aq [.list (xs.map Vl.d),wd "least"]=.ret (.im (mmD (o.map prR))):=by
 have e:=K8 xs (wd "least") hl
 obtain⟨a,c,d⟩:=Az7 false (thr xs) none (λv h=>hv v (dg.mp h).1) (λv h=>nomatch h)
 have f:=Dy (show isF (Bb false (wd "least") (wd "first"))=true by decide +kernel)
 have g:=Dy (show isF (Bb false (wd "least") (wd "last"))=true by decide +kernel)
 have i:=Dy (show isF (Bb false (wd "least") (wd "sum"))=true by decide +kernel)
 have b:=Dy (show isF (Bb false (wd "least") (wd "count"))=true by decide +kernel)
 refine⟨a,c,?_⟩
 wp_walk using Aq,Cd,e,f,g,i,b,eqT,cMM,show mmF _ _ _ none=some _ from d
theorem Aa1 {xs:m_}(hl:xs.length<=1000)(hv:VPs xs):∃o:Option Vl,(∀v,o=some v->VP v)/\Aq [.list (xs.map Vl.d),wd "greatest"]=.ret (.im (mmD (o.map prR))):=by
 have e:=K8 xs (wd "greatest") hl
 obtain⟨a,c,d⟩:=Az7 true (thr xs) none (λv h=>hv v (dg.mp h).1) (λv h=>nomatch h)
 have f:=Dy (show isF (Bb false (wd "greatest") (wd "first"))=true by decide +kernel)
 have g:=Dy (show isF (Bb false (wd "greatest") (wd "last"))=true by decide +kernel)
 have i:=Dy (show isF (Bb false (wd "greatest") (wd "sum"))=true by decide +kernel)
 have j:=Dy (show isF (Bb false (wd "greatest") (wd "count"))=true by decide +kernel)
 have b:=Dy (show isF (Bb false (wd "greatest") (wd "least"))=true by decide +kernel)
 refine⟨a,c,?_⟩
 wp_walk using Aq,Cd,e,f,g,i,j,b,eqT,cMM,show mmF _ _ _ none=some _ from d
theorem Ao4 {xs:m_}(hl:xs.length<=900):∃i,Aq [.list (xs.map Vl.d),wd "unlike"]=.ret (.im (.int i)):=by
 have e:=K8 xs (wd "unlike") (by lia)
 obtain⟨b,c,l⟩:=Am0 (ts:=thr xs) Bu7
 have f:=Dy (show isF (Bb false (wd "unlike") (wd "first"))=true by decide +kernel)
 have g:=Dy (show isF (Bb false (wd "unlike") (wd "last"))=true by decide +kernel)
 have d:=Dy (show isF (Bb false (wd "unlike") (wd "sum"))=true by decide +kernel)
 have j:=Dy (show isF (Bb false (wd "unlike") (wd "count"))=true by decide +kernel)
 have h:=Dy (show isF (Bb false (wd "unlike") (wd "least"))=true by decide +kernel)
 have k:=Dy (show isF (Bb false (wd "unlike") (wd "greatest"))=true by decide +kernel)
 have a:b.length<1000:=by have:=Ac7 (xs:=xs);lia
 refine⟨((dst b).length),?_⟩
 wp_walk using Aq,Cd,e,f,g,d,j,h,k,eqT,Oa,c,if_pos a
noncomputable def ways7:v4:=["first","last","sum","count","least","greatest","unlike"]
abbrev Vz:Str:=Str.ofString "sum"
theorem Ou {s:String}{p:Prop}(h:decide (Str.ofString s=Vz)=false):Str.ofString s=Vz->p:=λq=>absurd q (gq h)
structure Ap7 (d:t_):Prop where
 lay:d.canLay0=true
 dep:d.depth<=2
 sh:Short 8 d
 nt:∀l,PyData.eqv d (.tuple l)=false
theorem Af4 {v:Vl}(h:VP v):Ap7 v.d:=⟨(N6 h).lay,aj (N6 h).dep (aB _),by cases v <;> exact trivial,λ_=>by cases v <;> rfl⟩
theorem Xf (i:Int):Ap7 (.int i):=⟨rfl,aB _,trivial,λ_=>rfl⟩
theorem Am1:Ap7 .none:=⟨rfl,aB _,trivial,λ_=>rfl⟩
theorem Ay2 {o:Option Vl}(h:∀v,o=some v->VP v):Ap7 (mmD (o.map prR)):=by
 cases o with
 | none=>exact Am1
 | some v=>exact Af4 (h v rfl)
theorem Ax0 {ds:w5}(h:Good (.list ds) 2 16000000):Ap7 (.list ds):=⟨h.lay,h.dep,Nz 8 _ h.wgt,λ_=>rfl⟩
theorem Bp1 {xs:m_}{w:Str}(b:xs≠[])(hl:xs.length<=900)(hv:VPs xs)(hw:w∈ways7) :
 (∃d,Ap7 d/\Aq [.list (xs.map Vl.d),.str w]=.ret (.im d)/\(w=Vz->xs.any isS=false))\/(Aq [.list (xs.map Vl.d),.str w]=.ex nN/\w=Vz/\xs.any isS=true):=by
 have a:xs.length<=1000:=by lia
 simp only[ways7,az,a_,bj]at hw
 rcases hw with rfl | rfl | rfl | rfl | rfl | rfl | rfl
 ·obtain⟨v,m,e⟩:=A2d b;exact .inl ⟨_,Af4 (hv v m),e,Ou (by decide +kernel)⟩
 ·obtain⟨v,m,e⟩:=A7p a b;exact .inl ⟨_,Af4 (hv v m),e,Ou (by decide +kernel)⟩
 ·cases h:xs.any _ with
  | false=>obtain⟨i,e⟩:=Bo3 a h;exact .inl ⟨_,Xf i,e,λ_=>rfl⟩
  | true=>exact .inr ⟨Bc1 a h,rfl,rfl⟩
 ·obtain⟨i,e⟩:=A2h a;exact .inl ⟨_,Xf i,e,Ou (by decide +kernel)⟩
 ·obtain⟨o,s,e⟩:=A1z a hv;exact .inl ⟨_,Ay2 s,e,Ou (by decide +kernel)⟩
 ·obtain⟨o,s,e⟩:=Aa1 a hv;exact .inl ⟨_,Ay2 s,e,Ou (by decide +kernel)⟩
 ·obtain⟨i,e⟩:=Ao4 hl;exact .inl ⟨_,Xf i,e,Ou (by decide +kernel)⟩
def Qw:m_->m_->m_
 | ks,[]=>ks
 | ks,d::ds=>Qw (if d∈ks then ks else ks++[d]) ds
theorem At6:∀(xs ks:m_),Qi (ks.map Vl.d) (xs.map Vl.d)=(Qw ks xs).map Vl.d
 | [],_=>rfl
 | x::xs,ks=>by
  show Qi (if ((ks.map Vl.d).any λk=>PyData.eqv k x.d)=true then ks.map Vl.d else ks.map Vl.d++[x.d]) (xs.map Vl.d)=(Qw (if x∈ks then ks else ks++[x]) xs).map Vl.d
  rw[Bv7]
  by_cases h:x∈ks
  ·rw[if_pos (aK h),if_pos h,At6 xs]
  ·rw[if_neg (by rw[aH h];exact aQ),if_neg h,<- At6 xs,cz];rfl
theorem Up:∀(xs ks:m_),VPs xs->VPs ks->ks.Nodup->VPs (Qw ks xs)/\(Qw ks xs).Nodup
 | [],_,_,h,n=>⟨h,n⟩
 | x::xs,ks,hx,h,n=>by
  unfold Qw
  by_cases q:x∈ks
  ·rw[if_pos q];exact Up xs ks (λv hv=>hx v (.tail _ hv)) h n
  ·rw[if_neg q]
   refine Up xs _ (λv hv=>hx v (.tail _ hv)) (VPs.app h λv hv=>by rw[aJ.mp hv];exact hx x (.head _)) ?_
   rw[List.nodup_append]
   exact⟨n,by simp,λa ha b hb e=>q (by cases aJ.mp hb;exact e▸ha)⟩
theorem Bt9 {α:Type}[DecidableEq α]:∀(m l:List α),l.Nodup->(∀x∈l,x∈m)->l.length<=m.length
 | [],l,_,h=>by
  cases l with
  | nil=>exact ak _
  | cons a r=>exact nomatch h a (.head _)
 | a::m,l,n,h=>by
  have ih:=Bt9 m (l.erase a) (n.erase a) λx hx=>by
   obtain⟨h1,h2⟩:=(n.mem_erase_iff).mp hx
   rcases az.mp (h x h2) with q | q
   ·exact absurd q h1
   ·exact q
  have:=List.length_erase_le (a:=a) (l:=l)
  by_cases q:a∈l
  ·have:=List.length_erase_of_mem q
   rw[aF];lia
  ·rw[List.erase_of_not_mem q]at ih
   rw[aF];lia
theorem Be1 {xs:m_}(h:VPs xs):(Qw [] xs).length<64:=by
 obtain⟨b,c⟩:=Up _ [] h (λv a=>nomatch a) dz
 exact bD (Bt9 _ _ c b) (by decide)
theorem Ag9:∀vs:m_,Tc (Cw 2) (vs.map Vl.d)=some (vs.map Ha)
 | []=>rfl
 | v::vs=>by
  show (Vn (Cw 2) v.d).bind (λk=>(Tc (Cw 2) (vs.map Vl.d)).map (k::·))=_
  rw[Ag9 vs,Xg];rfl
theorem Bl8 {vs:m_}(h:¬ vs.length<2):kdOf (vs.map Ha)=.ti:=by
 cases vs with
 | nil=>exact absurd (by decide) h
 | cons v r=>cases v <;> rfl
theorem B0z {vs:m_}(hv:VPs vs)(hl:vs.length<64):∃out:m_,VPs out/\out.length=vs.length/\(Tc (Cw 2) (vs.map Vl.d)).bind (A1x (vs.map Vl.d))=some (out.map Vl.d):=by
 rw[Ag9]
 show ∃out:m_,VPs out/\out.length=vs.length/\A1x (vs.map Vl.d) (vs.map Ha)=some (out.map Vl.d)
 unfold A1x;rw[ao]
 by_cases h2:vs.length<2
 ·exact⟨vs,hv,rfl,if_pos h2⟩
 ·have eb:(decide (vs.length<64)&&((vs.map Ha).all (Ow .ti)&&(vs.map Ha).all Bm))=true:=by
   rw[aK hl];simp only[Bool.true_and,bC,List.all_map,aL]
   exact⟨λv _=>by cases v <;> rfl,λv h=>K6 (hv v h)⟩
  rw[if_neg h2,Bl8 h2,if_pos eb]
  obtain⟨p,e,_,q⟩:=PS.A8y (n:=vs.length) (B:=A4c .ti (vs.map Ha)) (λi j hi hj=>by
   unfold A4c
   rw[aU (by rw[ao];exact hi),aU (by rw[ao];exact hj),gb,gb]
   exact A0j false _ _) _ (PS.B2u (by lia))
  rw[e]
  have lt:∀i∈p.toList,i<vs.length:=λi hi=>by simpa using q.mem_iff.mp (Array.mem_toList_iff.mp hi)
  refine⟨p.toList.map λi=>vs.getD i .non,λv h=>?_,by rw[ao,dY,q.size_eq];simp,?_⟩
  ·obtain⟨i,hi,rfl⟩:=aO.mp h
   have:=lt i hi;rw[gn,aU this];exact hv _ (cB this)
  ·rw[b_,cY]
   congr 1
   refine List.map_congr_left λi hi=>?_
   have:=lt i hi
   show (vs.map Vl.d).getD i .none=(vs.getD i .non).d
   simp[this]
theorem Bi0 (xs:m_):(xs.map Vl.d).all A7l=true:=by
 rw[List.all_map]
 exact List.all_eq_true.mpr λv _=>by cases v <;> rfl
theorem A5u {xs:m_}(hl:xs.length<=1000):Hq [.im (.list (xs.map Vl.d))]=.ret (.im (.tuple ((Qw [] xs).map Vl.d))) [.im (.list (xs.map Vl.d))]:=by
 have e:Qi _ (xs.map _)=(Qw _ _).map _:=At6 _ []
 have b:((xs.map Vl.d).all A7l&&decide ((xs.map Vl.d).length<16000000))=true:=by rw[Bi0,ao,aK (by lia)];rfl
 refine Hr (p:=.o (.im _)) (c:=[sI (.list (xs.map Vl.d)),none,none]) ?_ rfl (by trivial)
 show (if _=true then SR.rt _ _ else _)=_
 grind
theorem A7m {vs:m_}(hv:VPs vs)(hl:vs.length<64):∃a:m_,VPs a/\a.length=vs.length/\Nj [.im (.tuple (vs.map Vl.d))]=.ret (.ls false (a.map Vl.d)) [.im (.tuple (vs.map Vl.d))]:=by
 obtain⟨a,c,b,e⟩:=B0z hv hl
 refine⟨a,c,b,?_⟩
 wp_walk using Nj,Vj,B2j,U.Nu,e
theorem Ap9 {a:Type}(F:a->Bool)(xs:List a):Xh (.list (xs.map λx=>PyData.bool (F x)))=sI (.bool (xs.any F)):=by
 show (boolsOf _).map _=_
 rw[Py F,b_,e_];rfl
structure Qn where
 w:Str
 c:List Cn
 cs:List Cn
abbrev Gx (l:List Cn):w5:=l.map λc=>PyData.str c.name
def Qn.d (q:Qn):t_:=.tuple (.str q.w::(Gx q.c++[.list (q.cs.map Cn.d)]))
noncomputable def qw8:v4:=["first","last","sum","count","least","greatest","unlike","all"]
noncomputable def qw9:v4:=["rows","all","first","last","sum","count","least","greatest","unlike"]
noncomputable def bad7:v4:=["Sum","mean","","row","is","All","sum "]
def allQ:v4:=Str.ofString "rows" :: (qw8++bad7)
abbrev G9:Str:=Str.ofString "rows"
structure Qn.Ok (cols:v4) (q:Qn):Prop where
 gd:∀c∈q.c++q.cs,Cn.Gd cols c
 len:q.cs.length<=2
 sh:(q.c=[]/\q.w=G9)\/∃c,q.c=[c]/\q.w∈qw8++bad7/\c.word=Str.ofString "is"
theorem Qn.Ok.wq {cols:v4}{q:Qn}(h:q.Ok cols):q.w∈allQ:=by
 rcases h.sh with ⟨_,e⟩ | ⟨c,_,e,_⟩
 ·rw[e];exact .head _
 ·exact .tail _ e
theorem A2g {w:Str}(h:w∈allQ):Bm (.str w)=true:=aL.mp (show allQ.all (λx=>Bm _)=true by decide +kernel) w h
theorem A7v {w:Str}{ws:v4}(h:w∈allQ)(hw:PyData.canLayAll0 (ws.map PyData.str)=true):Ih true (.str w) (.tuple (ws.map PyData.str))=sI (.bool (!decide (w∈ws))):=by
 show (if Bm _&&PyData.canLayAll0 _ then some _ else none)=_
 rw[A2g h,hw,Rf]
 rfl
theorem B6s:PyData.canLayAll0 (qw8.map PyData.str)=true:=by decide +kernel
theorem B7a:PyData.canLayAll0 (qw9.map PyData.str)=true:=by decide +kernel
theorem w89 {w:Str}(h:w∈qw8++bad7):decide (w∈qw9)=decide (w∈qw8):=by
 have:=aL.mp (show (qw8++bad7).all λw=>decide (w∈qw9)==decide (w∈qw8)=true by trivial) w h
 simp_all
theorem A4i:Ih true (.str G9) (.tuple [.str "rows"])=sI (.bool false):=by rw[show Ih _ _ (.tuple [.str _])=_ from A7v (ws:=[G9]) (.head _) (by decide +kernel)];rfl
theorem Ae4 {cs:List Cn}{b:w5}(hb:b.length<=1)(hl:cs.length<=2):Br (.list b) (.list (Gx cs))=sF (b++Gx cs):=by
 show (if b.length+(Gx _).length<=16000000 then some _ else none)=_
 grind
abbrev okQ (q:Qn):Prop:=q.w∈qw9/\∀c∈q.cs,c.word∈words4
theorem A8d {t:Tb}{q:Qn}(ht:Tb.Ok t)(k:q.Ok t.cols):Bu [t.d,q.d]=match Gv t.cols (q.c++q.cs) with
 | some c=>.ex (nC c.name)
 | none=>if q.w∈qw9 then .ret (.im .none) else .ex nW:=by
 have m:=k.len
 have g:=Wa (cs:=q.cs) (by lia)
 have d:=Zr (cs:=q.c++q.cs) ht k.gd (by
  rw[bh]
  rcases k.sh with ⟨e,_⟩ | ⟨c,e,_⟩
  ·rw[e,bR];lia
  ·rw[e,cW];lia)
 obtain⟨w,v,a⟩:=q;have r:=k.wq
 rcases k.sh with ⟨e,n⟩ | ⟨c,e,p,_⟩
 ·have e:v=[]:=e
  have n:w=G9:=n;subst e n
  dsimp only at g d m ⊢
  have f:=Ae4 (cs:=a) (b:=[]) (by decide) m
  rw[if_pos (show G9∈qw9 from .head _)]
  unfold Qn.d;have i:Ph (.tuple (.str G9::(Gx []++[.list (a.map Cn.d)]))) (some 1) (some (-1))=sI (.tuple []):=rfl;have h:Ag (.tuple (.str G9::(Gx []++[.list (a.map Cn.d)]))) (.int (-1))=sI (.list (a.map Cn.d)):=rfl;have j:Ag (.tuple (.str G9::(Gx []++[.list (a.map Cn.d)]))) (.int 0)=sI (.str G9):=rfl
  generalize PyData.tuple (.str G9::(Gx []++[.list (a.map Cn.d)]))=Q at *
  simp only[cQ]at d f ⊢
  cases hb:Gv t.cols a with
  | some c =>
   rw[hb]at d
   wp_walk using Bu,Dj,Dt,i,h,j,Ii,g,f,d
  | none =>
   rw[hb]at d
   wp_walk using Bu,Dj,Dt,i,h,j,Ii,g,f,d,show Jx [.list []]=sI (.int 0) from rfl,A4i
 ·have e:v=[c]:=e
  subst e
  dsimp only at g d m p r ⊢
  have f:=Ae4 (cs:=a) (b:=Gx [c]) (by simp) m
  unfold Qn.d;have i:Ph (.tuple (.str w::(Gx [c]++[.list (a.map Cn.d)]))) (some 1) (some (-1))=sI (.tuple (Gx [c])):=rfl;have h:Ag (.tuple (.str w::(Gx [c]++[.list (a.map Cn.d)]))) (.int (-1))=sI (.list (a.map Cn.d)):=rfl;have j:Ag (.tuple (.str w::(Gx [c]++[.list (a.map Cn.d)]))) (.int 0)=sI (.str w):=rfl;have s:Jx [.list (Gx [c])]=sI (.int 1):=rfl
  have u:V0 [Str.ofString "first",Str.ofString "last",Str.ofString "sum",Str.ofString "count",Str.ofString "least",Str.ofString "greatest",Str.ofString "unlike"] (.tuple [.str "all"])=sI (.tuple (qw8.map PyData.str)):=by
   unfold V0
   dsimp only
   rw[if_pos ⟨by decide,by decide,by decide⟩];rfl
  generalize PyData.tuple (.str w::(Gx [c]++[.list (a.map Cn.d)]))=Q at *
  have l:=A7v r B6s;have o:=w89 p;have d:Ew [t.d,.list (Gx [c]++Gx a)]=_:=d
  cases hb:Gv t.cols ([c]++a) with
  | some x =>
   rw[hb]at d
   generalize Gx [c]=N at *
   wp_walk using Bu,Dj,Dt,i,h,j,Ii,g,f,d
  | none =>
   rw[hb]at d
   dsimp only at d ⊢
   generalize Gx [c]=N at *
   by_cases z:w∈qw9
   ·rw[if_pos z]
    rw[<- o,aK z]at l
    wp_walk using Bu,Dj,Dt,i,h,j,s,Ii,g,f,d,u,l
   ·rw[if_neg z]
    rw[<- o,aH z]at l
    wp_walk using Bu,Dj,Dt,i,h,j,s,Ii,g,f,d,u,l
theorem Ba7 {t:Tb}{c:Cn}{R:t_}(ht:Tb.Ok t)(hc:Cn.Gd t.cols c)(h:c.name∈t.cols):Bo [.tuple [.tuple (t.cols.map PyData.str),R],.str c.name]=.ret (.im (.int c.at_)):=by
 have a:=Uq hc.nm ht.nms.sub;rw[aK h]at a
 wp_walk using Bo,Hy,Ag,a,cMt,Kg,(Pq ht.nms.nd (hc.at_ h))
theorem A2u {t:Tb}{c:Cn}{rs:m9}(ht:Tb.Ok t)(hc:Cn.Gd t.cols c)(h:c.name∈t.cols)(hw:c.word∈words4)(hr:∀r∈rs,r∈t.rows)(hl:rs.length<=1000) :
 K5 [.tuple [.tuple (t.cols.map PyData.str),.list (rs.map tD)],.str c.name]=.ret (.im (.list ((rs.map λr=>Jy r c).map Vl.d))):=by
 have j:=Ba7 (R:=.list (rs.map tD)) ht hc h;have i:=hc.ok h hw
 obtain⟨cI,e,u,rfl⟩:=Ej (g:=cgN 0) (ft:=Bh) (fe:=cOp Ag (Aa 0) (Aa 1)) (I:=λa=>∃u,a=[u,sI (.int c.at_)]) (f:=tD) (G:=λr=>(Jy r c).d) (xs:=rs) (acc:=[]) (c:=[none,sI (.int c.at_)]) ⟨none,rfl⟩
  (λr a k l=>by
   obtain⟨u,rfl⟩:=l;have b:=ht.rows r (hr r k);have m:=(Ud i b.1 b.2).1
   refine⟨[sI (tD r),sI (.int c.at_)],?_,_,rfl⟩
   wp_walk using tD,Ag,m)
 have d:cLC [none,some 2] (Bk (cOp Ag (Aa 0) (cC (.int 1)))) (cgN 0) Bh (cOp Ag (Aa 0) (Aa 1)) [sI (.tuple [.tuple (t.cols.map PyData.str),.list (rs.map tD)]),sI (.str c.name),sI (.int c.at_)]=.ok (.o (.ls false (rs.map λr=>(Jy r c).d))) [sI (.tuple [.tuple _,.list _]),some _,some _] :=
  Ec (by trivial) (by grind) (by trivial) rfl
 rw[cY]
 show _=XF.ret (.im (.list (rs.map λr=>(Jy r c).d)))
 wp_walk using K5,R9,j,d
def S7 (t:Tb)(cs:List Cn):m9:=(A7k t.rows cs).map λk=>t.rows.getD k []
theorem Z1 {t:Tb}{cs:List Cn}:∀r∈S7 t cs,r∈t.rows:=λr h=>by
 obtain⟨k,a,b⟩:=aO.mp h;have a:=cD.mp (dg.mp a).1
 grind
theorem Ux {t:Tb}{cs:List Cn}(ht:Tb.Ok t):(S7 t cs).length<=144:=by
 unfold S7 A7k;rw[ao]
 exact aj (List.length_filter_le _ _) (by rw[List.length_range];exact ht.rlen)
theorem Bo2 {t:Tb}:S7 t []=t.rows:=by
 unfold S7 A7k
 have:(List.range t.rows.length).filter (λk=>Ar7 (t.rows.getD k []) [])=List.range _:=List.filter_eq_self.mpr λ_ _=>rfl
 rw[this];apply List.ext_getElem
 ·simp
 grind
theorem A4y {t:Tb}{rs:m9}(ht:Tb.Ok t)(hr:∀r∈rs,r∈t.rows)(hl:rs.length<=144):Good (.list (rs.map tD)) 2 16000000 :=
 (Good.lst (k:=144) (λd b=>by
  obtain⟨r,h,rfl⟩:=aO.mp b;have a:=ht.rows r (hr r h)
  exact Bo0 a.2 (by rw[a.1];exact ht.clen)) (by simp_all)).mono (by decide) (by decide)
abbrev Rt (q:Qn)(t:Tb)(b:Bool):Prop:=∀c,q.c=[c]->q.cs=[]->q.w=Vz->(t.rows.any λr=>isS (Jy r c))=b
inductive As2 (t:Tb) (q:Qn):XF->Prop
 | col (c:Cn) (h:Gv t.cols (q.c++q.cs)=some c):As2 t q (.ex (nC c.name))
 | wrd (h:Gv t.cols (q.c++q.cs)=none) (n:¬ okQ q):As2 t q (.ex nW)
 | got (h:Gv t.cols (q.c++q.cs)=none) (n:okQ q) (d:t_) (nd:Ap7 d) (s:Rt q t false):As2 t q (.ret (.im d))
 | num (h:Gv t.cols (q.c++q.cs)=none) (n:okQ q) (e:q.w=Vz) (s:Rt q t true):As2 t q (.ex nN)
theorem Bh2 {cols:v4}{a b:List Cn}(h:Gv cols (a++b)=none):Gv cols a=none/\Gv cols b=none:=by
 unfold Gv at h ⊢
 simp_all
theorem Bm0 {t:Tb}{cs:List Cn}(ht:Tb.Ok t){fi:Ev->R (w5)}{s1 s2 s3 s4:m7}(hi:fi [sI t.d,s1,s2,s3,s4]=.ok (Wn t.rows cs) [sI t.d,s1,s2,s3,s4]) :
 cLC [none,some 0] fi (cgN 0) Bh (cOp Ag (cOp Ag (Aa 1) (cC (.int 1))) (Aa 0)) [sI t.d,s1,s2,s3,s4]=.ok (.o (.ls false ((S7 t cs).map tD))) [sI t.d,s1,s2,s3,s4]:=by
 have d:Ag t.d (.int 1)=sI (.tuple (t.rows.map tD)):=rfl
 obtain⟨cI,e,u,rfl⟩:=Ej (g:=cgN 0) (ft:=Bh) (fe:=cOp Ag (cOp Ag (Aa 1) (cC (.int 1))) (Aa 0)) (I:=λc=>∃u,c=[u,sI t.d]) (f:=λk:Nat=>PyData.int k) (G:=λk=>tD (t.rows.getD k [])) (xs:=A7k t.rows cs) (acc:=[]) (c:=[none,sI _]) ⟨none,rfl⟩
  (λk c a h=>by
   obtain⟨u,rfl⟩:=h;have a := cD.mp (dg.mp a).1
   have b:Ag (.tuple (t.rows.map tD)) (.int k)=sI (tD (t.rows.getD k [])):=by
    show (atI _ k).map _=_
    rw[G7 (by rw[bH,aU a];rfl),gn,aU _];rfl
   refine⟨[sI (.int k),some _],?_,_,rfl⟩
   wp_walk using d,b)
 have l:=Ux (cs:=cs) ht;unfold S7 at l ⊢;rw[cY]
 exact Ec (by rw[hi,A9l]) (by grind) (by trivial) rfl
theorem Bg5 {vs:m_}(h:VPs vs)(hl:vs.length<64):Good (.list (vs.map Vl.d)) 2 16000000 :=
 (Good.lst (k:=64) (λd a=>by obtain⟨v,b,rfl⟩:=aO.mp a;exact N6 (h v b)) (by grind)).mono (by decide) (by decide)
theorem in8 {w:Str}(h:w∈qw8):w=Str.ofString "all" \/ w∈ways7:=by
 simp only[qw8,az,a_]at h;unfold ways7
 grind
theorem Bg6 {w:Str}(h:w∈qw8):decide (w=Str.ofString "rows")=false:=by
 have:=aL.mp (show qw8.all (λw=>!decide (w=Str.ofString "rows"))=true by trivial) w h
 grind
theorem B0p {w:Str}(h:w∈ways7):decide (w=Str.ofString "all")=false:=by
 have:=aL.mp (show ways7.all (λw=>!decide (w=Str.ofString "all"))=true by trivial) w h
 grind
theorem all_rows:decide (Str.ofString "all" = Str.ofString "rows")=false:=by rfl
theorem A9t {t:Tb}{q:Qn}(ht:Tb.Ok t)(l:q.Ok t.cols):As2 t q (Bf [t.d,q.d]):=by
 have a:=A8d ht l;have hl:=l.len
 have f:=X4 (cs:=q.cs) ht (λc h=>l.gd c (aq _ h)) (by lia)
 cases hb:Gv t.cols (q.c++q.cs) with
 | some c =>
  rw[hb]at a
  have:Bf [t.d,q.d]=.ex (nC c.name):=by wp_walk using Bf,Ft,a
  rw[this];exact .col c hb
 | none =>
 rw[hb]at a
 dsimp only at a
 by_cases z:q.w∈qw9
 case neg =>
  rw[if_neg z]at a
  have:Bf [t.d,q.d]=.ex nW:=by wp_walk using Bf,Ft,a
  rw[this];exact .wrd hb λk=>z k.1
 case pos =>
 rw[if_pos z]at a;unfold B0g at f;rw[(Bh2 hb).2]at f
 dsimp only at f
 have j:Ag q.d (.int (-1))=sI (.list (q.cs.map Cn.d)):=by
  unfold Qn.d
  rcases l.sh with ⟨e,_⟩ | ⟨c,e,_⟩ <;> rw[e] <;> rfl
 have i:Ag q.d (.int 0)=sI (.str q.w):=by
  unfold Qn.d
  rcases l.sh with ⟨e,_⟩ | ⟨c,e,_⟩ <;> rw[e] <;> rfl
 by_cases y:∀c∈q.cs,c.word∈words4
 case neg =>
  rw[if_neg y]at f
  have:Bf [t.d,q.d]=.ex nW:=by wp_walk using Bf,Ft,a,i,Lp,Dt,j,f,List.all_nil
  rw[this];exact .wrd hb λk=>y k.2
 case pos =>
 rw[if_pos y]at f
 have m:=Bm0 (cs:=q.cs) ht (fi:=Bk (cFY Cy (Ab (Aa 0) (Ab (cOp Ag (Aa 1) (cUn Dt (cC (.int 1)))) Al)))) (s1:=sI q.d) (s2:=sI (.str q.w)) (s3:=none) (s4:=none) (by wp_walk using Bk,cFY,Dt,j,f)
 have g:=A4y ht Z1 (Ux (cs:=q.cs) ht)
 rcases l.sh with ⟨e,e'⟩ | ⟨c,e,hw,E⟩
 ·rw[e']at i m
  have:Bf [t.d,q.d]=.ret (.im (.list ((S7 t q.cs).map tD))):=by
   generalize q.d=Q at *
   wp_walk using Bf,Ft,a,i,Lp,Dt,j,f,m,Dn,bT
  rw[this]
  exact .got hb ⟨z,y⟩ _ (Ax0 g) λc h=>by rw[e]at h;cases h
 ·have h8:q.w∈qw8:=aR ((w89 hw).symm.trans (aK z))
  have hc:=l.gd c (by rw[e];exact .head _)
  have nm:c.name∈t.cols:=Xq hb c (by rw[e];exact .head _)
  have u:Ag q.d (.int 1)=sI (.str c.name):=by unfold Qn.d;rw[e];rfl
  have p:Ag t.d (.int 0)=sI (.tuple (t.cols.map PyData.str)):=rfl
  have s:=A2u (rs:=S7 t q.cs) ht hc nm (by rw[E];exact .head _) Z1 (aj (Ux ht) (by decide))
  have n:VPs ((S7 t q.cs).map λr=>Jy r c):=λv h=>by
   obtain⟨r,hr,rfl⟩:=aO.mp h;have hh:=ht.rows r (Z1 r hr)
   exact(Ud (hc.ok nm (by rw[E];exact .head _)) hh.1 hh.2).2
  have hxl:((S7 t q.cs).map λr=>Jy r c).length<=144:=by rw[ao];exact Ux ht
  have w:∀b,(q.w=Vz->(((S7 t q.cs).map λr=>Jy r c).any isS)=b)->Rt q t b:=λb h c' h1 h2 h3=>by
   have F:=h h3;rw[e]at h1
   cases h1
   rw[h2,Bo2,e_]at F;exact F
  generalize ((S7 t q.cs).map λr=>Jy r c)=xs at *
  have G:Jx [.list (xs.map Vl.d)]=sI (.int xs.length):=by show some (O.im (.int ((xs.map Vl.d).length:Nat)))=_;rw[ao]
  have o:=Bg6 h8
  rcases in8 h8 with ea | h7
  ·obtain⟨hs,_⟩:=Up xs [] n (λv n=>nomatch n) dz
   have A:=Be1 n;obtain⟨B,ho,lo,eo⟩:=A7m hs A
   have ef:=A5u (xs:=xs) (by lia)
   rw[ea]at i m o
   have:Bf [t.d,q.d]=.ret (.im (.list (B.map Vl.d))):=by
    generalize q.d=Q at *
    wp_walk using Bf,Ft,a,i,Lp,Dt,j,f,m,Dn,all_rows,u,p,s,bT,ef,eo
   rw[this]
   refine .got hb ⟨z,y⟩ _ (Ax0 (Bg5 ho (by lia))) (w false λh=>?_)
   rw[ea]at h
   exact absurd h (gq (show decide (Str.ofString "all" = Vz)=false by decide +kernel))
  ·have x:=B0p h7
   by_cases h0:xs=[]
   ·subst h0
    have:Bf [t.d,q.d]=.ret (.im .none):=by
     generalize q.d=Q at *
     wp_walk using Bf,Ft,a,i,Lp,Dt,j,f,m,Dn,o,u,p,s,x,show Jx [.list []]=sI (.int 0) from rfl
    rw[this]
    exact .got hb ⟨z,y⟩ _ Am1 (w false λ_=>rfl)
   ·have hp:0<xs.length:=gj.mpr h0
    have gt:decide ((0:Int)<(xs.length:Int))=true:=aK (by lia)
    rcases Bp1 h0 (by lia) n h7 with ⟨d,nd,C,D⟩ | ⟨C,D,ha⟩
    ·have:Bf [t.d,q.d]=.ret (.im d):=by
      generalize q.d=Q at *
      wp_walk using Bf,Ft,a,i,Lp,Dt,j,f,m,Dn,o,u,p,s,x,G,gt,C
     rw[this];exact .got hb ⟨z,y⟩ _ nd (w false D)
    ·have:Bf [t.d,q.d]=.ex nN:=by
      wp_walk using Bf,Ft,a,i,Lp,Dt,j,f,m,Dn,o,u,p,s,x,G,gt,C
     rw[this]
     exact .num hb ⟨z,y⟩ D (w _ λ_=>ha)
theorem A5j {w:Wd}{q:Qn}(h:w.Ok)(c:q.Ok w.tb.cols):Dw [w.d,q.d]=Bf [w.tb.d,q.d]:=by
 have b:=S9 h;rw[Wd.tb_d]at b;have a:=A9t (Wd.tb_ok h) c
 generalize er:Bf _=r at *
 cases a <;> wp_walk using Dw,Jr,b,er
theorem Hx : Bb neg (.int a) (.int b)=sI (.bool (if neg then !decide (a=b) else decide (a=b))):=by
 have e:PyData.eqv (.int a) (.int b)=decide (a=b):=by
  rfl
 unfold Bb
 rw[show Bm _=true from rfl,show Bm _=true from rfl,e]
 simp
theorem Good.two {a b:t_}{n d c:Nat}(ha:Good a n d)(hb:Good b n c):Good (.list [a,b]) (n+1) (d+c+8):=by
 refine⟨?_,?_,?_,?_,?_⟩
 ·show (a.canLay0&&(b.canLay0&&true))=true;rw[ha.lay,hb.lay];rfl
 ·show (a.showable&&(b.showable&&true))=true;rw[ha.shw,hb.shw];rfl
 ·show (a.hasDict||(b.hasDict||false))=false;rw[ha.dct,hb.dct];rfl
 ·show max _ (max _ 0)+1<=n+1;have:=ha.dep;have:=hb.dep;lia
 ·show wt a+2+wt b+2+0+4<=d+c+8;have:=ha.wgt;have:=hb.wgt;lia
theorem An7 {x:Str}(h:x∈names12):x∈allNm:=aZ _ h
theorem Ap8 {x:Str}:∀{cols:v4},x∈cols->cols[(Ld x cols).getD 0]?=some x
 | [],h=>by cases h
 | y::r,h=>by
  unfold Ld
  by_cases e:y=x
  ·rw[if_pos (by simpa using e)];simp[e]
  ·rw[if_neg (by simpa using e)]
   have hr:x∈r:=by
    rcases az.mp h with h | h
    ·exact absurd h.symm e
    ·exact h
   have:=Ap8 hr
   cases q:Ld x r with
   | none=>
    rw
     [q]at this;exact absurd q (by
     intro q
     have:∀{l:v4},x∈l->Ld x l≠none:=λ{l}=>by
      induction l with
      | nil=>intro h;cases h
      | cons a l ih =>
       intro h;unfold Ld
       by_cases e:a=x
       ·rw[if_pos (by simpa using e)];simp
       ·rw[if_neg (by simpa using e)]
        rcases az.mp h with h | h
        ·exact absurd h.symm e
        ·intro y
         cases w:Ld x l with
         | none=>exact ih h w
         | some j=>rw[w]at y;cases y
     exact this hr q)
   | some j=>rw[q]at this;simpa using this
noncomputable def Y9 (cols:v4) (cs:List Cn):w5:=cs.filterMap λc=>if decide (c.name∈cols)=true then none else some (PyData.str c.name)
theorem A0n {cols:v4}:∀{cs:List Cn},Gv cols cs=none->Y9 cols cs=[]
 | [],_=>rfl
 | c::cs,h=>by
  have a:=Xq h c (.head _)
  have ih:=A0n (cols:=cols) (cs:=cs) (List.find?_eq_none.mpr λx hx=>by simpa using Xq h x (.tail _ hx))
  unfold Y9 at ih ⊢;rw[cG,if_pos (aK a)];exact ih
theorem Ah6 {cols:v4}{c:Cn}:∀{cs:List Cn},Gv cols cs=some c->∃r,Y9 cols cs=.str c.name::r
 | [],h=>by cases h
 | x::cs,h=>by
  unfold Gv at h;rw[List.find?_cons]at h;unfold Y9;rw[cG]
  by_cases z:x.name∈cols
  ·rw[aK z]at h ⊢
   obtain⟨r,e⟩:=Ah6 (cols:=cols) (c:=c) (cs:=cs) h;exact⟨r,e⟩
  ·rw[aH z]at h ⊢
   cases h
   exact⟨_,rfl⟩
theorem B2o {x:Str}(h:VB (.str x)):Good (.str x) 0 1921:=Lz h
theorem A2c {cols:v4}{cs:List Cn}(hc:∀c∈cs,Cn.Gd cols c)(hl:cs.length<=4):Good (.list (Y9 cols cs)) 1 10000:=by
 refine (Good.lst (n:=0) (w:=1921) (λd b=>?_) (aj (gk _ _) hl)).mono (by decide) (by decide)
 obtain⟨c,e,a⟩:=bW.mp b
 split at a
 ·grind
 ·cases a;exact B2o (Sx (hc c e).nm).2.2
theorem Bz0 {w:Str}(h:w∈allWd):Ih true (.str w) (.tuple [.str "is",.str "not",.str "below",.str "above"])=sI (.bool (!decide (w∈words4))):=by
 show (if Bm _&&PyData.canLayAll0 _ then some (O.im (.bool (!((words4.map _).any _)))) else none)=_
 rw[show Bm _=true from aL.mp (show allWd.all (λx=>Bm _)=true by decide +kernel) w h,show PyData.canLayAll0 _=true by decide +kernel,Rf]
 rfl
theorem Pa {a b c:Vl}(ha:VB a)(hb:VB b)(hc:VB c):Good (tD [a,b,c]) 1 (1923*3+4):=Q3 λv d=>by
 grind (by simp)
theorem A9e:(names12.all λx=>decide (x.length<=100)&&decide ((Str.ofString "z").length<=100))=true:=by decide +kernel
theorem Bb2 {x:Str}(h:x∈names12):Br (.str x) (.str "z")=sI (.str (nmZ x))/\Br (.str x) (.str x)=sI (.str (nmW x)):=by
 have:=aL.mp A9e x h
 simp at this
 constructor
 ·show (if x.length+(Str.ofString _).length<=16000000 then some _ else none)=_
  rw[if_pos (by lia)];rfl
 ·show (if x.length+x.length<=16000000 then some _ else none)=_
  rw[if_pos (by lia)];rfl
def four (x:Str):v4:=[Str.ofString "no",Str.ofString "",Str.ofString "A",nmZ x]
def A0c (x:Str):v4:=[Str.ofString "none",Str.ofString "",Str.ofString "B",nmW x]
theorem A7y {x y:Str}(h:x∈names12)(hy:y∈four x):y∈allNm:=by
 unfold four at hy;unfold allNm
 grind
theorem A3b {x y:Str}(h:x∈names12)(hy:y∈A0c x):y∈allNm:=by
 unfold A0c at hy;unfold allNm
 simp at hy
 rcases hy with rfl | rfl | rfl | rfl
 ·simp_all
 ·simp_all
 ·trivial
 grind
noncomputable def five:v4:=["like","","IS","sum","rows"]
abbrev At8:Ev->SR:=(cIf (An (cOp (Bb false) (cF Ah (Ab (Aa 0) (Ab (cC (.int 8)) Al))) (cC (.int 0)))) (Cm (cOp Ag (Ge (Ab (cC (.str "no")) (Ab (cC (.str "")) (Ab (cC (.str "A")) (Ab (cOp Br (Aa 2) (cC (.str "z"))) Al))))) (cF Ah (Ab (Aa 0) (Ab (cC (.int 4)) Al)))) (cgN 2)) Bl)
abbrev Ao8:Ev->SR:=(cIf (An (cOp (Bb false) (cF Ah (Ab (Aa 0) (Ab (cC (.int 8)) Al))) (cC (.int 0)))) (Cm (cOp Ag (Ge (cK [.str "like",.str "",.str "IS",.str "sum",.str "rows"])) (cF Ah (Ab (Aa 0) (Ab (cC (.int 5)) Al)))) (cgN 3)) Bl)
abbrev Aq2:Ev->SR:=(cIf (An (cOp (Bb false) (cF Ah (Ab (Aa 0) (Ab (cC (.int 5)) Al))) (cC (.int 0)))) (Cm (cOp Ag (Ge (Ab (cC (.str "none")) (Ab (cC (.str "")) (Ab (cC (.str "B")) (Ab (cOp Br (Aa 4) (Aa 4)) Al))))) (cF Ah (Ab (Aa 0) (Ab (cC (.int 4)) Al)))) (cgN 4)) Bl)
abbrev As3:Ev->SR:=(cIf (An (cOp (Bb false) (cF Ah (Ab (Aa 0) (Ab (cC (.int 5)) Al))) (cC (.int 0)))) (Cm (cOp Ag (Ge (cK [.str "Sum",.str "mean",.str "",.str "row",.str "is",.str "All",.str "sum "])) (cF Ah (Ab (Aa 0) (Ab (cC (.int 7)) Al)))) (cgN 2)) Bl)
theorem A3g {n:Nat}{ds:w5}{o1 s3:m7}{x:Str}(hb:Bx n ds)(hn:n<2 ^ 38)(hx:x∈names12):∃(y:Str) (b:w5),Bx (n+2) b/\y∈allNm/\At8 [sT ds,o1,sI (.str x),s3]=.nx [sT b,o1,sI (.str y),s3]:=by
 obtain⟨a,b,e,a0,a1,d⟩:=Bq (m:=8) hb (by lia) (by decide) (by decide)
 by_cases z:a=0
 ·subst z
  obtain⟨r,g,h,i,j,k⟩:=Bq (m:=4) e (by lia) (by decide) (by decide)
  obtain⟨y,f,o,_⟩:=Jm (l:=(four x).map PyData.str) (r:=r) i j;obtain⟨y,c,rfl⟩:=aO.mp o
  refine⟨y,g,h,A7y hx c,?_⟩
  simp only[four,aG,cT]at f
  wp_walk using At8,d,Hx,((Bb2 hx).1),k,Ag,f,bT
 ·refine⟨x,b,e.mono (by lia),An7 hx,?_⟩
  wp_walk using At8,d,Hx,aH z
theorem A1u {n:Nat}{ds:w5}{o1 s2:m7}{x:Str}(hb:Bx n ds)(hn:n<2 ^ 38)(hx:x∈words4):∃(y:Str) (b:w5),Bx (n+2) b/\y∈allWd/\Ao8 [sT ds,o1,s2,sI (.str x)]=.nx [sT b,o1,s2,sI (.str y)]:=by
 obtain⟨a,b,e,a0,a1,d⟩:=Bq (m:=8) hb (by lia) (by decide) (by decide)
 by_cases z:a=0
 ·subst z
  obtain⟨r,g,h,i,j,k⟩:=Bq (m:=5) e (by lia) (by decide) (by decide)
  obtain⟨y,f,o,_⟩:=Jm (l:=five.map PyData.str) (r:=r) i j;obtain⟨y,c,rfl⟩:=aO.mp o
  refine⟨y,g,h,aq _ c,?_⟩
  simp only[five,aG,cT]at f
  wp_walk using Ao8,d,Hx,k,Ag,f,bT
 ·refine⟨x,b,e.mono (by lia),aZ _ hx,?_⟩
  wp_walk using Ao8,d,Hx,aH z
theorem A4u {n:Nat}{ds:w5}{o1 s2 s3:m7}{x:Str}(hb:Bx n ds)(hn:n<2 ^ 38)(hx:x∈names12):∃(y:Str) (b:w5),Bx (n+2) b/\y∈allNm/\Aq2 [sT ds,o1,s2,s3,sI (.str x)]=.nx [sT b,o1,s2,s3,sI (.str y)]:=by
 obtain⟨a,b,e,a0,a1,d⟩:=Bq (m:=5) hb (by lia) (by decide) (by decide)
 by_cases z:a=0
 ·subst z
  obtain⟨r,h,i,j,k,p⟩:=Bq (m:=4) e (by lia) (by decide) (by decide)
  obtain⟨y,f,o,_⟩:=Jm (l:=(A0c x).map PyData.str) (r:=r) j k;obtain⟨y,c,rfl⟩:=aO.mp o;have g:=(Bb2 hx).2
  refine⟨y,h,i,A3b hx c,?_⟩
  simp only[A0c,aG,cT]at f
  wp_walk using Aq2,d,Hx,g,p,Ag,f,bT
 ·refine⟨x,b,e.mono (by lia),An7 hx,?_⟩
  wp_walk using Aq2,d,Hx,aH z
theorem A5e {n:Nat}{ds:w5}{o1 s3 s4:m7}{x:Str}(hb:Bx n ds)(hn:n<2 ^ 38)(hx:x∈qw8):∃(y:Str) (b:w5),Bx (n+2) b/\y∈qw8++bad7/\As3 [sT ds,o1,sI (.str x),s3,s4]=.nx [sT b,o1,sI (.str y),s3,s4]:=by
 obtain⟨a,b,e,a0,a1,d⟩:=Bq (m:=5) hb (by lia) (by decide) (by decide)
 by_cases z:a=0
 ·subst z
  obtain⟨r,g,h,i,j,k⟩:=Bq (m:=7) e (by lia) (by decide) (by decide)
  obtain⟨y,f,o,_⟩:=Jm (l:=bad7.map PyData.str) (r:=r) i j;obtain⟨y,c,rfl⟩:=aO.mp o
  refine⟨y,g,h,aq _ c,?_⟩
  simp only[bad7,aG,cT]at f
  wp_walk using As3,d,Hx,k,Ag,f,bT
 ·refine⟨x,b,e.mono (by lia),aZ _ hx,?_⟩
  wp_walk using As3,d,Hx,aH z
abbrev clD (t:Tb):t_:=.tuple (t.cols.map PyData.str)
theorem Zm {t:Tb}(ht:Tb.Ok t){n:Nat}{ds:w5}(hb:Bx n ds)(hn:n<2 ^ 38):∃(r:Int) (x:Str) (b:w5),x∈names12/\Bx (n+1) b/\Ah [.ls true ds,.im (.int t.cols.length)]=.ret (.im (.int r)) [.ls true b,.im (.int t.cols.length)]/\Ag (clD t) (.int r)=sI (.str x):=by
 have h2:=ht.cpos;have f:=ht.clen
 obtain⟨a,b,e,d,a1,g⟩:=Bq (m:=t.cols.length) hb (by lia) (by lia) (by lia)
 obtain⟨k,rfl⟩:=dB d
 have c:k<t.cols.length:=by lia
 refine⟨_,t.cols[k],b,ht.nms.sub _ (cB _),e,g,?_⟩
 show (atI _ k).map _=_
 rw[G7 (by rw[bH,aU c];rfl)];rfl
theorem An1 {t:Tb}:Jx [clD t]=sI (.int t.cols.length):=by show some _=_;simp_all
theorem Ac5 {n:Nat}{ds:w5}{t:Tb}(ht:Tb.Ok t)(hb:Bx n ds)(hn:n<2 ^ 37) :
 ∃(c:Cn) (a:w5),Cn.Gd t.cols c/\Bx (n+10) a/\El [.ls true ds,.im (clD t)]=.ret (.im c.d) [.ls true a,.im (clD t)]:=by
 obtain⟨r,x,a,B,C,D,E⟩:=Zm ht hb (by lia)
 obtain⟨y,d2,G,j,k⟩:=A3g (o1:=sI (clD t)) (s3:=none) C (by lia) B
 obtain⟨w,o,q,s,u,A⟩:=Bq (m:=4) G (by lia) (by decide) (by decide)
 obtain⟨e,f,b,_⟩:=Jm (l:=words4.map PyData.str) (r:=w) s u;obtain⟨e,d,rfl⟩:=aO.mp b
 obtain⟨z,d4,H,I,F⟩:=A1u (o1:=sI (clD t)) (s2:=sI (.str y)) q (by lia) d
 obtain⟨v,g,J,L,K⟩:=Wr H (by lia)
 refine⟨⟨(Ld y t.cols).getD 0,y,z,v⟩,g,⟨j,I,L,λh=>Ap8 h⟩,J.mono (by lia),?_⟩
 have i:=An1 (t:=t);simp only[words4,aG,cT]at f
 refine Hr (p:=.o (.im (Cn.d ⟨(Ld y t.cols).getD 0,y,z,v⟩))) (c:=[sT g,sI (clD t),sI (.str y),sI (.str z)]) ?_ rfl (by wp_walk using aV)
 show G6 [sT ds,sI (clD t),none,none]=_
 generalize clD t=CL at *
 unfold G6
 refine (Ce (c':=[sT a,sI CL,sI (.str x),none]) (by wp_walk using i,D,E)).trans ?_
 refine (Ce k).trans ?_
 refine (Ce (c':=[sT o,sI CL,sI (.str y),sI (.str e)]) (by wp_walk using A,Ag,f)).trans ?_
 refine (Ce F).trans ?_
 wp_walk using K,Cn.d
theorem A6a {n:Nat}{ds:w5}{t:Tb}{s2:m7}(ht:Tb.Ok t)(hb:Bx n ds)(hn:n<2 ^ 36) :
 ∃
  (a:List Cn) (j:w5),(∀c∈a,Cn.Gd t.cols c)/\a.length<=2/\Bx (n+30) j /\
  cLC [none,some 0,some 1] (Kz (cF Ah (Ab (Aa 0) (Ab (cC (.int 3)) Al)))) (cgN 0) Bh (cF El (Ab (Aa 1) (Ab (Aa 2) Al))) [sT ds,sI (clD t),s2,none,none]=.ok (.o (.ls false (a.map Cn.d))) [sT j,sI (clD t),s2,none,none]:=by
 obtain⟨r,j,s,r0,r1,w⟩:=Bq (m:=3) hb (by lia) (by decide) (by decide)
 obtain⟨m,hm,y⟩:∃m:Nat,m<=2/\r=(m:Int):=⟨r.toNat,by lia,by lia⟩
 have i:=Lg (g:=cgN 0) (ft:=Bh) (fe:=cF El (Ab (Aa 1) (Ab (Aa 2) Al))) (items:=Li 0 m) (acc:=[]) (n:=0) (c:=[none,sT j,sI (clD t)])
  (P:=λk b c=>∃f u a,c=[u,sT f,sI (clD t)]/\k<=m/\Bx (n+1+10*k) f/\b=a.map Cn.d/\(∀c∈a,Cn.Gd t.cols c)/\a.length=k)
  ⟨j,none,[],rfl,aB _,s,rfl,(λc l=>nomatch l),rfl⟩ (λk d b c v p=>by
   rw[bf]at p ⊢;obtain⟨f,u,a,rfl,z,o,rfl,l,q⟩:=p;obtain⟨rfl,B⟩:=Ls v
   obtain⟨c,A,co,C,D⟩:=Ac5 ht o (by lia)
   refine⟨some c.d,[sI (.int (0+k)),some _,some _],?_,A,_,a++[c],rfl,B,C.mono (by lia),by simp,λx h=>by
    grind,by simp[q]⟩
   wp_walk using D)
 obtain⟨b,cI,e,f,u,a,rfl,_,o,rfl,l,q⟩:=i
 refine⟨a,f,l,by lia,o.mono (by lia),?_⟩
 exact Ec (c1:=[sT _,sI _,s2,none,none]) (by wp_walk using w,y,show (m:Int)<=16000000/\-16000000<=(m:Int) by lia,cN) (by lia) e (by trivial)
noncomputable def ten:v4:=["rows","all","first","last","sum","sum","count","least","greatest","unlike"]
theorem B5d {w:Str}(h:w∈ten)(n:w≠G9):w∈qw8:=by
 have:=aL.mp (show ten.all (λw=>decide (w=G9)||decide (w∈qw8))=true by trivial) w h
 simp_all
theorem Al0 {n:Nat}{ds:w5}{t:Tb}(ht:Tb.Ok t)(hb:Bx n ds)(hn:n<2 ^ 35) :
 ∃(q:Qn) (d:w5),q.Ok t.cols/\Bx (n+40) d/\Ho [.ls true ds,.im (clD t)]=.ret (.im q.d) [.ls true d,.im (clD t)]:=by
 obtain⟨a,d,N,O,B,s⟩:=Bq (m:=10) hb (by lia) (by decide) (by decide)
 obtain⟨w,i,I,_⟩:=Jm (l:=ten.map PyData.str) (r:=a) O B;obtain⟨w,g,rfl⟩:=aO.mp I;simp only[ten,aG,cT]at i
 obtain⟨b,f,u,o,v,k⟩:=A6a (s2:=sI (.str w)) ht N (by lia)
 by_cases z:w=G9
 ·subst z
  refine⟨⟨G9,[],b⟩,f,⟨u,o,.inl ⟨rfl,rfl⟩⟩,v.mono (by lia),?_⟩
  refine Hr (p:=.o (.im (Qn.d ⟨G9,[],b⟩))) (c:=[sT f,sI (clD t),sI (.str G9),sI (.list (b.map Cn.d)),none]) ?_ rfl (by wp_walk using aV)
  show Fb [sT ds,sI (clD t),none,none,none]=_
  generalize clD t=CL at *
  unfold Fb
  refine (Ce (c':=[sT d,sI CL,sI (.str G9),none,none]) (by wp_walk using s,Ag,i)).trans ?_
  refine (Ce (c':=[sT f,sI CL,sI (.str G9),sF (b.map Cn.d),none]) (by wp_walk using k)).trans ?_
  wp_walk using Dn,bT,Qn.d
 ·obtain⟨r,x,D,E,F,G,H⟩:=Zm ht v (by lia)
  obtain⟨y,d4,J,K,L⟩:=A4u (o1:=sI (clD t)) (s2:=sI (.str w)) (s3:=sF (b.map Cn.d)) F (by lia) E
  obtain⟨j,A,M,e,P⟩:=A5e (o1:=sI (clD t)) (s3:=sF (b.map Cn.d)) (s4:=sI (.str y)) J (by lia) (B5d g z)
  refine⟨⟨j,[⟨(Ld y t.cols).getD 0,y,Str.ofString "is",.non⟩],b⟩,A,⟨λc h=>?_,o,.inr ⟨_,rfl,e,rfl⟩⟩,M.mono (by lia),?_⟩
  ·rcases az.mp h with rfl | h
   ·exact⟨K,.head _,.head _,λh=>Ap8 h⟩
   ·exact u c h
  have C:=An1 (t:=t)
  refine Hr (p:=.o (.im (Qn.d ⟨j,[⟨(Ld y t.cols).getD 0,y,Str.ofString "is",.non⟩],b⟩))) (c:=[sT A,sI (clD t),sI (.str j),sI (.list (b.map Cn.d)),sI (.str y)]) ?_ rfl (by wp_walk using aV)
  show Fb [sT ds,sI (clD t),none,none,none]=_
  generalize clD t=CL at *
  unfold Fb
  refine (Ce (c':=[sT d,sI CL,sI (.str w),none,none]) (by wp_walk using s,Ag,i)).trans ?_
  refine (Ce (c':=[sT f,sI CL,sI (.str w),sF (b.map Cn.d),none]) (by wp_walk using k)).trans ?_
  refine (Ce (c':=[sT f,sI CL,sI (.str w),sF (b.map Cn.d),none]) (by wp_walk using Dn,aH z)).trans ?_
  refine (Ce (c':=[sT D,sI CL,sI (.str w),sF (b.map Cn.d),sI (.str x)]) (by wp_walk using C,G,H)).trans ?_
  refine (Ce L).trans ?_
  refine (Ce P).trans ?_
  wp_walk using Qn.d
theorem B1v {d:t_}:Du [.im d,.im .none]=.ret (.im d) [.im d,.im .none]:=by
 trivial
theorem Bx4 {x:Str}:∃o,Du [.im .none,.ty (.xc (nC x))]=.ret (.im (.tuple [.str "refused",.int 1,.str x])) o:=⟨_,rfl⟩
theorem B1y:∃o,Du [.im .none,.ty (.xc nW)]=.ret (.im (.tuple [.str "refused",.int 2,.none])) o:=⟨_,rfl⟩
theorem Br7 {cols:v4}{c:Cn}(hc:Cn.Gd cols c):Good c.d 1 6000:=by
 have h:Good (tD [.str _,.str _,c.val]) 1 (1923*3+4):=Q3 (λv a=>by
  simp at a
  rcases a with rfl | rfl | rfl
  ·exact(Sx hc.nm).2.2
  ·exact A9x _ hc.wd
  ·exact Ay3 hc.vb) (by simp)
 exact h.mono (by decide) (by decide)
def Yb (cols:v4)(q:Qn):t_:=match Gv cols (q.c++q.cs) with
 | some c=>.tuple [.str "refused",.int 1,.str c.name]
 | none=>if okQ q then .none else .tuple [.str "refused",.int 2,.none]
def Z6 (cs:List Cn):w5:=cs.filterMap λc=>if decide (c.word∈words4)=true then none else some (PyData.str c.word)
theorem badL_nil {cs:List Cn}:Z6 cs=[]↔∀c∈cs,c.word∈words4:=by
 unfold Z6
 simp_all
theorem nil_good:Good (.list []) 1 10000:=(Good.lst (ds:=[]) (n:=0) (w:=0) (λd a=>nomatch a) (ak _)).mono (by decide) (by decide)
theorem Bf8 {cols:v4}{cs:List Cn}(hc:∀c∈cs,Cn.Gd cols c)(hl:cs.length<=4):Good (.list (Z6 cs)) 1 10000:=by
 refine (Good.lst (n:=0) (w:=1921) (λd b=>?_) (aj (gk _ _) hl)).mono (by decide) (by decide)
 obtain⟨c,e,a⟩:=bW.mp b
 split at a
 ·grind
 ·cases a;exact Lz (A9x _ (hc c e).wd)
theorem A6u {l:w5}(g:Good (.list l) 1 10000):Bb true (.list l) (.list [])=sI (.bool (!l.isEmpty)):=by
 rw[Sq g nil_good (by decide) (by decide)]
 cases l <;> rfl
theorem B5p {cs:List Cn}{fi:Ev->R (w5)}{c:Ev}(hl:cs.length<=4)(hi:fi c=.ok (cs.map Cn.d) c) :
 cLC [none,none,none] fi (cgT 3 (Ar (cgN 0) (Ar (cgN 1) (Ar (cgN 2) Eg)))) Bh (Aa 0) c=.ok (.o (.ls false (Gx cs))) c:=by
 obtain⟨cI,e,u,v,x,rfl⟩:=Ej (g:=cgT 3 (Ar (cgN 0) (Ar (cgN 1) (Ar (cgN 2) Eg)))) (ft:=Bh) (fe:=Aa 0) (I:=λc=>∃u v x,c=[u,v,x]) (f:=Cn.d) ⟨none,none,none,rfl⟩
  λc ev hx a=>by
   obtain⟨u,v,x,rfl⟩:=a
   refine⟨[sI (.str c.name),sI (.str c.word),sI c.val.d],?_,_,_,_,rfl⟩
   trivial
 exact Ec hi (by grind) (by trivial) rfl
theorem B3q {cols:v4}{cs:List Cn}{fi:Ev->R (w5)}{c:Ev}(hc:∀c∈cs,Cn.Gd cols c)(hl:cs.length<=4)(hi:fi c=.ok (cs.map Cn.d) c) :
 cLC [none,none,none] fi (cgT 3 (Ar (cgN 0) (Ar (cgN 1) (Ar (cgN 2) Eg)))) (An (cOp (Ih true) (Aa 1) (Gg (cK [.str "is",.str "not",.str "below",.str "above"])))) (Aa 1) c=.ok (.o (.ls false (Z6 cs))) c:=by
 obtain⟨cI,e,u,v,x,rfl⟩:=Jg (g:=cgT 3 (Ar (cgN 0) (Ar (cgN 1) (Ar (cgN 2) Eg)))) (ft:=An (cOp (Ih true) (Aa 1) (Gg (cK [.str "is",.str "not",.str "below",.str "above"])))) (fe:=Aa 1) (I:=λc=>∃u v x,c=[u,v,x]) (f:=Cn.d) (G:=λc=>if decide _=true then none else some (PyData.str c.word)) ⟨none,none,none,rfl⟩
  λc ev b d=>by
   obtain⟨u,v,x,rfl⟩:=d;have a:=Bz0 (hc c b).wd
   refine⟨[sI (.str c.name),sI (.str c.word),sI c.val.d],?_,_,_,_,rfl⟩
   cases q:decide (c.word∈words4) with
   | true =>
    rw[q]at a
    wp_walk using Cn.d,a
   | false =>
    rw[q]at a
    wp_walk using Cn.d,a
 exact Ec hi (by grind) (by trivial) rfl
theorem B3x {t:Tb}{cs:List Cn}(ht:Tb.Ok t){s1 s3 s4 s5:m7}(hc:∀c∈cs,Cn.Gd t.cols c)(hl:cs.length<=4) :
 cLC [none,some 0] (Bk (cFz (Aa 2))) (cgN 0) (An (cOp (Ih true) (Aa 0) (Aa 1))) (Aa 0) [sI (clD t),s1,sF (Gx cs),s3,s4,s5]=.ok (.o (.ls false (Y9 t.cols cs))) [sI (clD t),s1,sI (.list (Gx cs)),s3,s4,s5]:=by
 obtain⟨cI,e,u,rfl⟩:=Jg (g:=cgN 0) (ft:=An (cOp (Ih true) (Aa 0) (Aa 1))) (fe:=Aa 0) (I:=λc=>∃u,c=[u,sI (clD t)]) (f:=λc:Cn=>PyData.str c.name) (G:=λc=>if decide (c.name∈t.cols)=true then none else some (PyData.str c.name)) (xs:=cs) (acc:=[]) (c:=[none,sI (clD t)]) ⟨none,rfl⟩
  (λc ev b d=>by
   obtain⟨u,rfl⟩:=d;have a:=Uq (hc c b).nm ht.nms.sub
   refine⟨[sI (.str c.name),some _],?_,_,rfl⟩
   cases q:decide (c.name∈t.cols) with
   | true =>
    rw[q]at a
    wp_walk using a
   | false =>
    rw[q]at a
    wp_walk using a)
 exact Ec (by rfl) (by grind) (by trivial) rfl
theorem B1q {t:Tb}{q:Qn}(ht:Tb.Ok t)(j:q.Ok t.cols):Ni [.im (clD t),.im q.d]=.ret (.im (Yb t.cols q)) [.im (clD t),.im q.d]:=by
 have J:=j.len
 have E:(Gx q.c).length<=1:=by
  rw[ao]
  rcases j.sh with ⟨e,_⟩ | ⟨c,e,_⟩ <;> rw[e] <;> simp
 have H:(q.c++q.cs).length<=4:=by rw[bh];rw[ao]at E;lia
 have F:∀c∈q.cs,Cn.Gd t.cols c:=λc h=>j.gd c (aq _ h)
 have w:Ph q.d (some 1) (some (-1))=sI (.tuple (Gx q.c)):=by
  unfold Qn.d
  rcases j.sh with ⟨e,_⟩ | ⟨c,e,_⟩ <;> rw[e] <;> rfl
 have G:Ag q.d (.int (-1))=sI (.list (q.cs.map Cn.d)):=by
  unfold Qn.d
  rcases j.sh with ⟨e,_⟩ | ⟨c,e,_⟩ <;> rw[e] <;> rfl
 have A:Ag q.d (.int 0)=sI (.str q.w):=by
  unfold Qn.d
  rcases j.sh with ⟨e,_⟩ | ⟨c,e,_⟩ <;> rw[e] <;> rfl
 have s:=Ae4 (cs:=q.cs) E J;have I:Gx q.c++Gx q.cs=Gx (q.c++q.cs):=List.map_append.symm;rw[I]at s;have v:=A7v j.wq B7a;unfold Yb;unfold okQ
 generalize hQ:q.d=Q at *
 have B:∀g f i l:m7,cLC [none,none,none] (Bk (cOp Ag (Aa 1) (cUn Dt (cC (.int 1))))) (cgT 3 (Ar (cgN 0) (Ar (cgN 1) (Ar (cgN 2) Eg)))) Bh (Aa 0) [sI (clD t),sI Q,l,g,f,i]=.ok (.o (.ls false (Gx q.cs))) [sI (clD t),sI Q,l,g,f,i]:=λg f i l=>B5p (by lia) (by wp_walk using Bk,Dt,G)
 have C:∀g f i l:m7,_=_:=λg f i l=>B3q (fi:=Bk (cOp Ag (Aa 1) (cUn Dt (cC (.int 1))))) (c:=[sI (clD t),sI Q,l,g,f,i]) F (by lia) (by wp_walk using Bk,Dt,G)
 have n:∀g f i:m7,_=_:=λg f i=>B3x (s1:=sI Q) (s3:=g) (s4:=f) (s5:=i) ht j.gd H
 have d:=A6u (A2c j.gd H)
 have m:=A6u (Bf8 F (by lia))
 cases hbad:Gv t.cols (q.c++q.cs) with
 | some c =>
  obtain⟨r,K⟩:=Ah6 hbad;rw[K]at n d;have d:Bb true (.list (.str c.name::r)) (.list [])=sI (.bool true):=d
  have L:Ag (.list (.str c.name::r)) (.int 0)=sI (.str c.name):=by
   show (atI (PyData.str c.name::r) 0).map O.im=_
   have:atI (PyData.str c.name::r) ((0:Nat):Int)=some (.str c.name):=G7 rfl
   rw[show (0:Int)=((0:Nat):Int) from rfl,this];rfl
  generalize clD t=CL at *
  wp_walk using Ni,Mv,Dt,w,Ii,B,s,n,d,L
 | none =>
  rw[A0n hbad]at n d;have d:Bb true (.list []) (.list [])=sI (.bool false):=d
  have D:∀c:Ev,Gg (cK [.str "rows",.str "all",.str "first",.str "last",.str "sum",.str "count",.str "least",.str "greatest",.str "unlike"]) c=.ok (.o (.im (.tuple (qw9.map PyData.str)))) c:=λc=>by wp_walk using qw9
  have u:∀b:Bool,b=decide (q.w∈qw9/\∀c∈q.cs,c.word∈words4)->Mv [sI (clD t),sI Q,none,none,none,none]=.rt (.o (.im (if b=true then .none else .tuple [.str "refused",.int 2,.none]))) [sI (clD t),sI Q,sI (.list (Gx (q.c++q.cs))),sI (.list []),sI (.tuple (qw9.map PyData.str)),some (if q.w∈qw9 then .im (.list (Z6 q.cs)) else .ls false (Z6 q.cs))]:=λb o=>by
   unfold Mv
   generalize Gg (cK [.str "rows",.str "all",.str "first",.str "last",.str "sum",.str "count",.str "least",.str "greatest",.str "unlike"])=T9 at *
   generalize clD t=CL at *
   generalize qw9.map PyData.str=W9 at *
   by_cases z:q.w∈qw9
   ·rw[aK z]at v
    rw[if_pos z]
    by_cases y:∀c∈q.cs,c.word∈words4
    ·rw[badL_nil.mpr y]at C m ⊢
     have m:Bb true (.list []) (.list [])=sI (.bool false):=m;rw[aK ⟨z,y⟩]at o;subst o
     wp_walk using Dt,w,Ii,B,s,n,d,D,C,A,v
    ·have M:Z6 q.cs≠[]:=λh=>y (badL_nil.mp h)
     rw[aH λh=>y h.2]at o
     subst o
     have m:Bb true (.list (Z6 q.cs)) (.list [])=sI (.bool true):=by
      rw[m]
      cases hx:Z6 q.cs with
      | nil=>exact absurd hx M
      | cons a r=>rfl
     wp_walk using Dt,w,Ii,B,s,n,d,D,C,A,v,m
   ·rw[aH z]at v
    rw[if_neg z]
    rw[aH λh=>z h.1]at o
    subst o
    wp_walk using Dt,w,Ii,B,s,n,d,D,C,A,v
  have x:=u _ rfl
  by_cases k:q.w∈qw9/\∀c∈q.cs,c.word∈words4
  ·rw[aK k,if_pos rfl]at x
   dsimp only
   rw[if_pos k]
   exact Hr (p:=.o _) x rfl (by wp_walk using aV)
  ·rw[aH k]at x
   rw[if_neg k]
   exact Hr x rfl (by wp_walk using aV)
theorem B1x:∃o,Du [.im .none,.ty (.xc nN)]=.ret (.im (.tuple [.str "refused",.int 3,.none])) o:=⟨_,rfl⟩
abbrev R3:t_:=.tuple [.str "refused",.int 3,.none]
def fnd:XF->t_
 | .ret (.im d)=>d
 | .ex nm=>match nm.p with
  | some x=>.tuple [.str "refused",.int 1,x.2]
  | none=>if nm.n=Str.ofString "BadWay" then .tuple [.str "refused",.int 2,.none] else R3
 | _=>.none
theorem Bt8:fnd (.ex nW)=.tuple [.str "refused",.int 2,.none]:=by
 trivial
theorem B5z:fnd (.ex nN)=R3:=by
 trivial
theorem Ba9 {F:w5->XF}{t:Tb}{q:Qn}{r:XF}{a b:t_}{i j:Nat}{c:Ev}(h:F [a,b]=r)(A:As2 t q r)(hi:c[i]?=some (sI a))(hj:c[j]?=some (sI b)) :
 Xx F Du ["NoColumn", "NoNumber", "BadWay"] (Ab (Aa i) (Ab (Aa j) Al)) c=.ok (.o (.im (fnd r))) c:=by
 cases A with
 | col x g =>
  obtain⟨o,f⟩:=Bx4 (x:=x.name)
  have z:(Str.ofString "NoColumn" == Str.ofString "NoColumn" || (Str.ofString "NoColumn" == Str.ofString "NoNumber" || Str.ofString "NoColumn" == Str.ofString "BadWay"))=true:=by decide +kernel
  unfold Xx
  wp_walk using hi,hj,h,z,f,fnd
 | wrd g n =>
  obtain⟨o,f⟩:=B1y;rw[Bt8]
  have z:(Str.ofString "BadWay" == Str.ofString "NoColumn" || (Str.ofString "BadWay" == Str.ofString "NoNumber" || Str.ofString "BadWay" == Str.ofString "BadWay"))=true:=by decide +kernel
  wp_walk using hi,hj,h,z,f
 | got g n d k s=>wp_walk using hi,hj,h,B1v,fnd
 | num g n e s =>
  obtain⟨o,f⟩:=B1x;rw[B5z]
  have z:(Str.ofString "NoNumber" == Str.ofString "NoColumn" || (Str.ofString "NoNumber" == Str.ofString "NoNumber" || Str.ofString "NoNumber" == Str.ofString "BadWay"))=true:=by decide +kernel
  wp_walk using hi,hj,h,z,f
theorem Bk7:Bm R3=true:=by decide +kernel
theorem Bt0 {f:t_}(hl:f.canLay0=true)(hd:f.depth<=2):Bb false f R3=sI (.bool (PyData.eqv f R3)) :=
 Kv (by unfold Bm;grind) Bk7
theorem B0m {x:t_}:PyData.eqv (.tuple [.str "refused",.int 1,x]) R3=false:=by
 trivial
theorem B0u:PyData.eqv (.tuple [.str "refused",.int 2,.none]) R3=false:=by rfl
theorem B0y:PyData.eqv R3 R3=true:=by trivial
theorem Ap2:VB (.str "refused"):=by rfl
theorem B0a {t:Tb}{q:Qn}{c:Cn}(ht:Tb.Ok t)(hc:Cn.Gd t.cols c)(nm:c.name∈t.cols)(hw:c.word∈words4)(s5:Ag q.d (.int 1)=sI (.str c.name)){s0 s1 s2 s3 s5' s7 s8 s9 s10 s11:m7} :
 cLC [none,some 6,some 4] (Bk (cOp Ag (Aa 4) (cC (.int 1)))) (cgN 0) Bh (cOp Ag (Aa 0) (cMt Kg Jc (cOp Ag (Aa 2) (cC (.int 0))) (cOp Ag (Aa 1) (cC (.int 1))))) [s0,s1,s2,s3,sI t.d,s5',sI q.d,s7,s8,s9,s10,s11]=.ok (.o (.ls false ((t.rows.map λr=>Jy r c).map Vl.d))) [s0,s1,s2,s3,sI t.d,s5',sI q.d,s7,s8,s9,s10,s11]:=by
 have m:Ag t.d (.int 1)=sI (.tuple (t.rows.map tD)):=rfl;have a:Ag t.d (.int 0)=sI (clD t):=rfl;have i:=Pq ht.nms.nd (hc.at_ nm);have l:=ht.rlen
 obtain⟨cI,e,u,rfl⟩:=Ej (g:=cgN 0) (ft:=Bh) (fe:=cOp Ag (Aa 0) (cMt Kg Jc (cOp Ag (Aa 2) (cC (.int 0))) (cOp Ag (Aa 1) (cC (.int 1))))) (I:=λh=>∃u,h=[u,sI q.d,sI t.d]) (f:=tD) (G:=λr=>(Jy r c).d) (xs:=t.rows) (acc:=[]) (c:=[none,sI q.d,sI t.d]) ⟨none,rfl⟩
  (λr h j k=>by
   obtain⟨u,rfl⟩:=k;have d:=ht.rows r j;have b:=(Ud (hc.ok nm hw) d.1 d.2).1
   have b:Ag (tD r) (.int (c.at_:Int))=sI (Jy r c).d:=by
    show (atI (r.map Vl.d) (c.at_:Int)).map _=_
    simp_all
   refine⟨[sI (tD r),some _,some _],?_,_,rfl⟩
   wp_walk using a,s5,cMt,Kg,i,b)
 rw[cY]
 refine Ec (ds:=t.rows.map _) (c1:=[s0,s1,s2,s3,sI _,s5',sI _,s7,s8,s9,s10,s11]) ?_ (by grind) (by trivial) rfl
 wp_walk using Bk,m
theorem Bx3 {xs:m_}(hl:xs.length<=1000){s0 s1 s2 s3 s4 s5 s6 s7 s8 s9 s10:m7} :
 cLC [none] (Bk (Aa 11)) (cgN 0) Bh (cUn (Dz .str) (Aa 0)) [s0,s1,s2,s3,s4,s5,s6,s7,s8,s9,s10,sF (xs.map Vl.d)]=.ok (.o (.ls false (xs.map λv=>PyData.bool (isS v)))) [s0,s1,s2,s3,s4,s5,s6,s7,s8,s9,s10,sI (.list (xs.map Vl.d))]:=by
 obtain⟨cI,e,hI⟩:=Ej (g:=cgN 0) (ft:=Bh) (fe:=cUn (Dz .str) (Aa 0)) (I:=λc=>∃t,c=[t]) (f:=Vl.d) (G:=λv=>PyData.bool (isS v)) (xs:=xs) (acc:=[]) ⟨none,rfl⟩
  λv c hv a=>by
   obtain⟨t,rfl⟩:=a
   refine⟨[sI v.d],?_,_,rfl⟩
   cases v <;> wp_walk using Vl.d,Dz,Oz,isS
 exact Ec (by rfl) (by grind) (by trivial) rfl
abbrev J3:Ev->SR:=(cIf (U9 (An (cOp (Ep false) (Aa 7) (cC (.none)))) (U9 (An (cOp (Bb false) (cOp Ag (Aa 6) (cC (.int 0))) (cC (.str "sum")))) (An (cOp (Bb false) (cOp Ag (Aa 6) (cC (.int 2))) (Ge Al))))) (Bj (Cm (cLC [none,some 6,some 4] (Bk (cOp Ag (Aa 4) (cC (.int 1)))) (cgN 0) Bh (cOp Ag (Aa 0) (cMt Kg Jc (cOp Ag (Aa 2) (cC (.int 0))) (cOp Ag (Aa 1) (cC (.int 1)))))) (cgN 11))
 (cIf (An (cOp (Bb true) (Aa 10) (cUn Xh (cLC [none] (Bk (Aa 11)) (cgN 0) Bh (cUn (Dz .str) (Aa 0)))))) (Cp (cC (.bool false))) Bl)) Bl)
theorem A7a {t:Tb}{q:Qn}(ht:Tb.Ok t)(l:q.Ok t.cols)(hb:Gv t.cols (q.c++q.cs)=none){b:Bool}(y:Rt q t b){s0 s1 s2 s3 s5 s8 s9 s11:m7} :
 ∃t11,J3 [s0,s1,s2,s3,sI t.d,s5,sI q.d,sI .none,s8,s9,sI (.bool b),s11]=.nx [s0,s1,s2,s3,sI t.d,s5,sI q.d,sI .none,s8,s9,sI (.bool b),t11]:=by
 have f:Ag q.d (.int 0)=sI (.str q.w):=by
  unfold Qn.d
  rcases l.sh with ⟨e,_⟩ | ⟨c,e,_⟩ <;> rw[e] <;> rfl
 by_cases z:q.w=Vz
 case neg =>
  refine⟨s11,?_⟩
  generalize q.d=Q at *
  generalize t.d=T at *
  wp_walk using J3,Ep,f,Dn,aH z
 case pos =>
 rcases l.sh with ⟨_,e⟩ | ⟨c,e,hw,p⟩
 ·rw[e]at z
  exact absurd z (gq (show decide (G9=Vz)=false by decide +kernel))
 have s:=l.gd c (by rw[e];exact .head _)
 have C:c.name∈t.cols:=Xq hb c (by rw[e];exact .head _)
 have m:Ag q.d (.int 1)=sI (.str c.name):=by unfold Qn.d;rw[e];rfl
 have j:Ag q.d (.int 2)=sI (.list (q.cs.map Cn.d)):=by unfold Qn.d;rw[e];rfl
 have hl:=l.len
 have g:Good (.list (q.cs.map Cn.d)) 2 30000:=(Good.lst (n:=1) (w:=6000) (k:=4) (λd x=>by obtain⟨c,h,rfl⟩:=aO.mp x;exact Br7 (l.gd c (aq _ h))) (by rw[ao];lia)).mono (by decide) (by decide)
 have i:=Sq (neg:=false) g (nil_good.mono (show 1<=2 by decide) (show 10000<=30000 by decide)) (by decide) (by decide)
 rw[z]at f
 cases hcs:q.cs with
 | cons a r =>
  rw[hcs]at j i
  refine⟨s11,?_⟩
  have i:Bb false (.list ((a::r).map Cn.d)) (.list [])=sI (.bool false):=i
  generalize (a::r).map Cn.d=CS at *
  generalize q.d=Q at *
  generalize t.d=T at *
  wp_walk using J3,Ep,f,Dn,bT,j,i
 | nil =>
  rw[hcs]at j i;have i:Bb false (.list []) (.list [])=sI (.bool true):=i;have j:Ag q.d (.int 2)=sI (.list []):=j
  have v:=B0a (s0:=s0) (s1:=s1) (s2:=s2) (s3:=s3) (s5':=s5) (s7:=sI .none) (s8:=s8) (s9:=s9) (s10:=sI (.bool b)) (s11:=s11) ht s C (by rw[p];exact .head _) m
  have A:=Bx3 (xs:=t.rows.map λr=>Jy r c) (by rw[ao];exact aj ht.rlen (by decide)) (s0:=s0) (s1:=s1) (s2:=s2) (s3:=s3) (s4:=sI t.d) (s5:=s5) (s6:=sI q.d) (s7:=sI .none) (s8:=s8) (s9:=s9) (s10:=sI (.bool b))
  have o:=Ap9 isS (t.rows.map λr=>Jy r c)
  have B:((t.rows.map λr=>Jy r c).any isS)=b:=by rw[e_];exact y c e hcs z
  rw[B]at o
  have u:Bb true (.bool b) (.bool b)=sI (.bool false):=by cases b <;> rfl
  refine⟨some (.im (.list ((t.rows.map λr=>Jy r c).map Vl.d))),?_⟩
  wp_walk using J3,Ep,f,Dn,bT,j,i,v,A,o,u
theorem Bf3 {l:w5}{s0 s1 s2 s3 s4 s5 s6 s8 s9 s10 s11:m7}:J3 [s0,s1,s2,s3,s4,s5,s6,sI (.tuple l),s8,s9,s10,s11]=.nx [s0,s1,s2,s3,s4,s5,s6,sI (.tuple l),s8,s9,s10,s11]:=by
 trivial
theorem A5k {t:Tb}{q:Qn}{r:XF}(i:q.Ok t.cols)(A:As2 t q r):(∃l,Yb t.cols q=.tuple l/\fnd r=.tuple l/\Good (.tuple l) 1 6000/\PyData.eqv (.tuple l) R3=false) \/
 ∃b,Yb t.cols q=.none/\(fnd r).canLay0=true/\(fnd r).depth<=2/\Short 8 (fnd r)/\PyData.eqv (fnd r) R3=b/\Rt q t b/\Gv t.cols (q.c++q.cs)=none/\(b=true->q.w=Vz):=by
 cases A with
 | col c a=>exact .inl ⟨_,by unfold Yb;grind,rfl,(Pa (b:=.int 1) Ap2 (by rfl) (Sx (i.gd c (List.mem_of_find?_eq_some a)).nm).2.2).mono (by decide) (by decide),B0m⟩
 | wrd a n=>exact .inl ⟨_,by unfold Yb;grind,Bt8,(Pa (b:=.int 2) (c:=.non) Ap2 (by rfl) rfl).mono (by decide) (by decide),B0u⟩
 | got a n d f s=>exact .inr ⟨false,by unfold Yb;grind,f.lay,f.dep,f.sh,f.nt _,s,a,λh=>nomatch h⟩
 | num a n e s =>
  have g:Good _ 1 6000:=(Pa (b:=.int 3) (c:=.non) Ap2 (by rfl) rfl).mono (by decide) (by decide)
  exact .inr ⟨true,by unfold Yb;grind,g.lay,aj g.dep (by decide),Nz 8 _ (aj g.wgt (by decide)),B0y,s,a,λ_=>e⟩
theorem Bq1 {n:Nat}{ds:w5}{w:Wd}{s0 s1 s5 s6 s7 s8 s9 s10 s11:m7}{i:t_}(h:w.Ok)(hb:Bx n ds)(hn:n<2 ^ 34) :
 ∃d t6 t7 k j a g,Bx (n+40) d/\U6 (cgN 5) Nx i [s0,s1,sF ds,sI w.d,sI w.tb.d,s5,s6,s7,s8,s9,s10,s11]=.nx [s0,s1,sF d,sI w.d,sI w.tb.d,sI i,t6,t7,k,j,a,g]:=by
 have x:=Wd.tb_ok h
 obtain⟨q,d,t,J,E⟩:=Al0 x hb (by lia)
 have v:=B1q x t;have G:Ag w.tb.d (.int 0)=sI (clD w.tb):=rfl
 have H:Ag q.d (.int 0)=sI (.str q.w):=by
  unfold Qn.d
  rcases t.sh with ⟨e,_⟩ | ⟨c,e,_⟩ <;> rw[e] <;> rfl
 have A:=A9t x t;have T:=A5j h t
 generalize hr:Bf [w.tb.d,q.d]=r at *
 have o:∀k j a:m7,Xx Bf Du ["NoColumn", "NoNumber", "BadWay"] (Ab (Aa 4) (Ab (Aa 6) Al)) [s0,s1,sF d,sI w.d,sI w.tb.d,sI i,sI q.d,sI (Yb w.tb.cols q),k,j,a,s11]=.ok (.o (.im (fnd r))) _:=λk j a=>Ba9 hr A rfl rfl
 have s:∀k j a:m7,Xx Dw Du ["NoColumn", "NoNumber", "BadWay"] (Ab (Aa 3) (Ab (Aa 6) Al)) [s0,s1,sF d,sI w.d,sI w.tb.d,sI i,sI q.d,sI (Yb w.tb.cols q),k,j,a,s11]=.ok (.o (.im (fnd r))) _:=λk j a=>Ba9 T A rfl rfl
 have U:∀(D:t_) (b:Bool),Gv w.tb.cols (q.c++q.cs)=none->Rt q w.tb b->∃g,J3 [s0,s1,sF d,sI w.d,sI w.tb.d,sI i,sI q.d,sI .none,sI D,sI D,sI (.bool b),s11]=.nx [s0,s1,sF d,sI w.d,sI w.tb.d,sI i,sI q.d,sI .none,sI D,sI D,sI (.bool b),g]:=λD b hb B=>A7a x t hb B
 have L:∀(l:w5) (s8 s9 s10:m7),J3 [s0,s1,sF d,sI w.d,sI w.tb.d,sI i,sI q.d,sI (.tuple l),s8,s9,s10,s11]=.nx [s0,s1,sF d,sI w.d,sI w.tb.d,sI i,sI q.d,sI (.tuple l),s8,s9,s10,s11]:=λl s8 s9 s10=>Bf3
 have P:=A5k t A
 show ∃d t6 t7 k j a g,Bx (n+40) d/\Nx [s0,s1,sF ds,sI w.d,sI w.tb.d,sI i,s6,s7,s8,s9,s10,s11]=_
 unfold Nx
 generalize Xx Bf Du ["NoColumn", "NoNumber", "BadWay"] (Ab (Aa 4) (Ab (Aa 6) Al))=T1 at *
 generalize Xx Dw Du ["NoColumn", "NoNumber", "BadWay"] (Ab (Aa 3) (Ab (Aa 6) Al))=T2 at *
 generalize m:J3=SP at *
 have m:(cIf (U9 (An (cOp (Ep false) (Aa 7) (cC (.none)))) (U9 (An (cOp (Bb false) (cOp Ag (Aa 6) (cC (.int 0))) (cC (.str "sum")))) (An (cOp (Bb false) (cOp Ag (Aa 6) (cC (.int 2))) (Ge Al))))) (Bj (Cm (cLC [none,some 6,some 4] (Bk (cOp Ag (Aa 4) (cC (.int 1)))) (cgN 0) Bh (cOp Ag (Aa 0) (cMt Kg Jc (cOp Ag (Aa 2) (cC (.int 0))) (cOp Ag (Aa 1) (cC (.int 1)))))) (cgN 11))
  (cIf (An (cOp (Bb true) (Aa 10) (cUn Xh (cLC [none] (Bk (Aa 11)) (cgN 0) Bh (cUn (Dz .str) (Aa 0)))))) (Cp (cC (.bool false))) Bl)) Bl)=SP:=m
 rw[m]
 rcases P with ⟨l,F,S,z,C⟩ | ⟨b,F,K,M,N,C,B,u,R⟩
 ·have y:=A3o (n:=8) (Good.two z z) (by decide) (by decide) (by decide)
  have p:=Bt0 z.lay (aj z.dep (by decide))
  rw[C]at p;rw[F]at v o s;rw[S]at o s
  refine⟨d,sI q.d,sI (.tuple l),sI (.tuple l),sI (.tuple l),sI (.bool false),s11,J,?_⟩
  generalize q.d=Q at *
  generalize clD w.tb=CL at *
  generalize w.tb.d=TD at *
  generalize w.d=WD at *
  wp_walk using E,G,v,o,s,Ep,y,p,L
 ·have y:=Uu 8 (fnd r) (by lia) (by decide) K N
  have p:=Bt0 K M;rw[C]at p;rw[F]at v o s;obtain⟨g,I⟩:=U (fnd r) b u B
  generalize fnd r=f at *
  refine⟨d,sI q.d,sI .none,sI f,sI f,sI (.bool b),g,J,?_⟩
  cases b with
  | false=>wp_walk using E,G,v,o,s,Ep,y,p,I
  | true =>
   wp_walk using E,G,v,o,s,Ep,y,p,H,Dn,(R rfl),bT,I
theorem Bb0 (ns:List Int)(_:ns.length<=63):Au0 [.sc ns]=.ret (.im (.bool true)) [.sc ns]:=by
 obtain⟨m,hm,O⟩:∃m:Nat,m<=13/\(1:Int)+(if (ns.length:Int)<3 then (ns.length:Int) else 3)=(m:Int):=by
  split
  ·exact⟨1+ns.length,by lia,by lia⟩
  ·exact⟨4,by lia,by lia⟩
 have x:=Ia (g:=cgN 1) (body:=Qt) (items:=Li 0 m) (n:=0) (c:=[some (.sc ns),none,none,none,none,none,none,none,none,none,none,none])
  (P:=λ_ c=>∃G F v t o s q l r a b,c=[some (.sc ns),G,F,v,t,o,s,q,l,r,a,b]) ⟨_,_,_,_,_,_,_,_,_,_,_,rfl⟩ (λk d c J I=>by
   obtain⟨G,F,v,t,o,s,q,l,r,a,b,rfl⟩:=I;obtain⟨rfl,hk⟩:=Ls J
   obtain⟨T,bb,N⟩:=Bw7 (ns:=ns) (k:=k) (by lia)
   obtain⟨w,A,L,_,S,Q⟩:=Bk1 (num:=false) bb (by decide)
   have K:=S9 L;rw[Wd.tb_d]at K
   have u:=Ia (g:=cgN 5) (body:=Nx) (items:=Li 0 10) (n:=0) (c:=[some (.sc ns),sI (.int (0+(k:Int))),sF A,sI w.d,sI w.tb.d,o,s,q,l,r,a,b])
    (P:=λj c=>∃C E z y B D h f,c=[some (.sc ns),sI (.int (0+(k:Int))),sF C,sI w.d,sI w.tb.d,E,z,y,B,D,h,f]/\j<=10/\Bx (100000+40*j) C) ⟨A,_,_,_,_,_,_,_,rfl,aB _,S.mono (by lia)⟩ (λj d c J I=>by
     rw[bf]at I ⊢;obtain⟨C,E,z,y,B,D,h,f,rfl,hj,U⟩:=I;have V:j<10:=(Ls J).2
     obtain⟨W,t6,t7,t8,t9,R,t11,b4,e4⟩:=Bq1 (s0:=some (.sc ns)) (s1:=sI (.int (0+(k:Int)))) (s5:=E) (s6:=z) (s7:=y) (s8:=B) (s9:=D) (s10:=h) (s11:=f) (i:=d) L U (by lia)
     exact⟨_,.inl e4,W,_,_,_,_,_,_,_,rfl,by lia,b4.mono (by lia)⟩)
   obtain⟨H,M,C,E,z,y,B,D,h,f,rfl,_,_⟩:=u
   refine⟨[some (.sc ns),sI (.int (0+(k:Int))),sF C,sI w.d,sI w.tb.d,E,z,y,B,D,h,f],.inl ?_,_,_,_,_,_,_,_,_,_,_,_,rfl⟩
   show Qt [some (.sc ns),sI (.int (0+(k:Int))),F,v,t,o,s,q,l,r,a,b]=_
   unfold Qt
   refine (Ce (c':=[some (.sc ns),sI (.int (0+(k:Int))),sF T,v,t,o,s,q,l,r,a,b]) (by wp_walk using show (0:Int)+(k:Int)=(k:Int) by lia,N)).trans ?_
   refine (Ce (c':=[some (.sc ns),sI (.int (0+(k:Int))),sF A,sI w.d,t,o,s,q,l,r,a,b]) (by wp_walk using Q)).trans ?_
   refine (Ce (c':=[some (.sc ns),sI (.int (0+(k:Int))),sF A,sI w.d,sI w.tb.d,o,s,q,l,r,a,b]) (by wp_walk using K)).trans ?_
   exact(Uh (ds:=Li 0 10) (c1:=[some (.sc ns),sI (.int (0+(k:Int))),sF A,sI w.d,sI w.tb.d,o,s,q,l,r,a,b]) (by wp_walk using aV)).trans M)
 obtain⟨H,e,G,F,v,t,o,s,q,l,r,a,b,rfl⟩:=x
 refine Hr (p:=.o (.im (.bool true))) (c:=[some (.sc ns),G,F,v,t,o,s,q,l,r,a,b]) ?_ rfl (by wp_walk using aV)
 refine (Ce ((Uh ?_).trans e)).trans ?_
 ·wp_walk using Au8,Br,O,show (m:Int)<=16000000/\-16000000<=(m:Int) by lia,cN
 ·wp_walk using aV
local macro_rules | `(tactic| walk_at "m")=>`(tactic| repeat' first | rfl | apply Ap5 | (with_reducible first | apply Am | apply Ao | apply Dh | apply Df | apply Cj | apply Ci | apply Ff | apply Gy | apply Hb | apply Dg | apply Gb | apply Ds | apply Gi | apply S8) | apply Au7 | apply Bg4 | apply Og | apply Yw | apply Wz | apply B5l | apply B1b | (with_reducible first | apply Fv | apply Va | apply Nb | apply Aa4 | apply V7 | apply Jo | apply Ve | apply Ka | apply Pg | apply M3 | apply A6s | apply O9 | apply Aa6 | apply Wy | apply Vy | apply Bc6 | apply Zy | apply Oe | apply Ms | apply Aa7 | apply B7b | apply Bn5 | apply Bi7 | apply By3 | apply Ad1 | apply Bi9 | apply Ao6 | apply Zu | apply A1b | apply Bp7 | apply A0e | apply A6i | apply Ay6 | apply Bt4 | apply Bq4 | apply Av2 | apply Sd | apply Bc8 | apply Z5 | apply A7n | apply An6 | apply A0s | apply Ax9 | apply Qj | apply Vw | apply B1k | apply Ap6 | apply Ad3 | apply Bm1 | apply A6d | apply Bh5 | apply Au2 | apply Ac6 | apply Ah0 | apply Ba2 | apply Rn | apply Bp4 | apply By1 | apply By4 | apply A0d | apply A5q | apply Ah8 | apply A9j | apply Bk9 | apply Bc4 | apply An9 | apply Bn9 | apply Bv9 | apply Zk | apply A4m | apply Bj4 | apply B1m | apply Ay1 | apply A9f | apply B2m | apply A1j | apply By9 | apply Ay0 | apply A9i | apply Az0 | apply Bj8 | apply Bo1 | apply B2i) | decide | assumption)
noncomputable def top (i:Nat):Stmt:=PySem.Challenge.pw_pivotfold_k47_questions_refused.main.body.getD i (.Pass ⟨0,0,0,0⟩)
abbrev Ac4:Stmt:=top 13
abbrev lH:Str:="_law_box_here"
abbrev lJ:Str:="_law_many_here"
abbrev lK:Str:="conditions"
abbrev lL:Str:="_law_columns"
abbrev lM:Str:="_law_script"
abbrev lN:Str:="_law_question_here"
abbrev lP:Str:="_law_value_here"
abbrev lQ:Str:="_law_found"
abbrev lR:Str:="_law_name"
abbrev lS:Str:="question"
abbrev lT:Str:="_law_due_here"
abbrev lU:Str:="_law_wide_here"
abbrev lV:Str:="_law_word"
abbrev lW:Str:="_law_same"
theorem Bm7:Bc ["value"] ["value"] (Aj Ac4):={}
abbrev Ji:Stmt:=top 14
theorem Ub:Bc ["one", "other"] ["one", "other"] (Aj Ji):={}
abbrev Af5:Stmt:=top 15
theorem A6j:Bc ["values"] ["values"] (Aj Af5):={}
abbrev Pr:Stmt:=top 17
theorem yO:Bc ["table", "name", "columns"] ["table", "name"] (Aj Pr):={}
abbrev M7:Stmt:=top 18
theorem Af9:Bc ["table", "names"] ["table", "names"] (Aj M7):={}
abbrev U4:Stmt:=top 19
theorem yU:Bc ["table", "name", "place"] ["table", "name"] (Aj U4):={}
abbrev Lw:Stmt:=top 21
theorem zZ:Bc ["things", "seen", "thing"] ["things"] (Aj Lw):={}
abbrev Kp:Stmt:=top 22
theorem zQ:Bc ["wide", "told", "part", "cells"] ["wide"] (Aj Kp):={}
abbrev O6:Stmt:=top 23
theorem yP:Bc ["wide", "rows"] ["wide"] (Aj O6):={}
abbrev Xc:Stmt:=top 26
theorem A4r:Bc ["numbers"] ["numbers"] (Aj Xc):={}
abbrev Jt:Stmt:=top 27
theorem yF:Bc ["some", "way", "there"] ["some", "way"] (Aj Jt):={}
abbrev Lj:Stmt:=top 30
theorem Yc:Bc [lK] [lK] (Aj Lj):={}
abbrev Ko:Stmt:=top 31
theorem yK:Bc [lK, "condition"] [lK] (Aj Ko):={}
abbrev Ac8:Stmt:=top 32
theorem A5l:Bc ["value", "word", "told"] ["value", "word", "told"] (Aj Ac8):={}
abbrev Pu:Stmt:=top 33
theorem Al2:Bc ["row", "places", lK] ["row", "places", lK] (Aj Pu):={}
abbrev Mf:Stmt:=top 34
theorem yL:Bc ["table", lK, "places"] ["table", lK] (Aj Mf):={}
abbrev Hk:Stmt:=top 35
theorem zR:Bc ["table", lS, "names", "words"] ["table", lS] (Aj Hk):={}
abbrev Vi:Stmt:=top 36
theorem yG:Bc ["table", lS, "word", "rows", "some"] ["table", lS] (Aj Vi):={}
abbrev Ku:Stmt:=top 37
theorem Wf:Bc ["wide", lS] ["wide", lS] (Aj Ku):={}
abbrev Mz:Stmt:=top 39
theorem Af0:Bc [lM, "_law_k"] [lM, "_law_k"] (Aj Mz):={}
abbrev Ab9:Stmt:=top 40
theorem yW:Bc [lM, "_law_k", "_law_number_here"] [lM, "_law_k"] (Aj Ab9):={}
abbrev Ww:Stmt:=top 41
theorem yH:Bc [lH, lJ, lQ, "_law_once", "_law_twice"] [lH, lJ] (Aj Ww):={}
abbrev Xj:Stmt:=top 42
theorem A5f:Bc [lH, "_law_least", "_law_few", "_law_most"] [lH, "_law_least", "_law_few", "_law_most"] (Aj Xj):={}
abbrev S6:Stmt:=top 43
theorem yR:Bc [lH, lJ, "_law_some"] [lH, lJ] (Aj S6):={}
abbrev Sv:Stmt:=top 44
theorem yS:Bc [lH, "_law_way"] [lH] (Aj Sv):={}
abbrev Pb:Stmt:=top 45
theorem Am9:Bc [lH] [lH] (Aj Pb):={}
abbrev Wx:Stmt:=top 46
theorem yI:Bc [lH, lJ, lQ, "_law_turn", lP] [lH, lJ] (Aj Wx):={}
abbrev Qa:Stmt:=top 47
theorem zU:Bc [lH, lU, lJ, "_law_pool_here", lQ, "_law_turn", "_law_one"] [lH, lU, lJ] (Aj Qa):={}
abbrev Wg:Stmt:=top 48
theorem zF:Bc [lH, "_law_numbers", "_law_names_here", "_law_a", "_law_b", "_law_c", "_law_stem", "_law_over", "_law_values", "_law_heads", "_law_often", "_law_rows", "_law_part", "_law_cells", "_law_head", "_law_one"] [lH, "_law_numbers"] (Aj Wg):={}
abbrev Qq:Stmt:=top 49
theorem A1s:Bc [lQ, lT] [lQ, lT] (Aj Qq):={}
abbrev Wt:Stmt:=top 50
theorem zX:Bc ["_law_call", lQ, "_law_caught", "error", "_law_marks", "_law_others"] ["_law_call"] (Aj Wt):={}
abbrev Kr:Stmt:=top 51
theorem zM:Bc [lH, lL, lR, lV] [lH, lL] (Aj Kr):={}
abbrev Mm:Stmt:=top 52
theorem zJ:Bc [lH, lL, lV, "_law_conditions", lR] [lH, lL] (Aj Mm):={}
abbrev Aa0:Stmt:=top 53
theorem yD:Bc [lL, lN, "_law_names_here", "_law_none", "_law_words", "_law_bad"] [lL, lN] (Aj Aa0):={}
abbrev A8q:Stmt:=top 54
theorem zP:Bc [lM, "_law_k", lH, lU, "_law_table", "_law_turn", lN, lT, lQ, "_law_more", "_law_refused", "_law_own"] [lM] (Aj A8q):={}
section
variable {P:u6}{w:World}{K:v9}{mg:x_}{base:Heap}
theorem Bo6 {n:Nat}(F:Fun K "rank" "rank" Ac4 f fd) (a6:Def P w K mg base "rank" (n) ["value"] (spP K (Cw n))) (zN:mg "int" = none) (z7:mg "isinstance" = none) (zH:mg "str" = none) (z8:mg "tuple" = none):FnOk P w K mg base CX0 (n+1) f fd ["value"] (spP K (Cw (n+1))):=by
 refine F.ok Bm7 (λ_ _ _ _=>Do) (λcdv A outer s H vs Q E hr h=>?_)
 have hu:=hr.units;have hgd:=hr.gd
 refine Fi (Ae (Ck (Kw (qv 0) Er) (Ai (Aw (Dp (Ad Af (Ad Af Ac))))) Az)
  (Ae (Ck (Gm (Bw (Kq:=K) rfl rfl z7 (Ad (qv 0) (Ad (Eb (v:=.ty "int") rfl zN Av8 rfl) Ac)))) (Ai (Aw (Dp (Ad Af (Ad (qv 0) Ac))))) Az)
  (Ae (Ck (Gm (Bw (Kq:=K) rfl rfl z7 (Ad (qv 0) (Ad (Eb (v:=.ty "str") rfl zH Rw rfl) Ac)))) (Ai (Aw (Dp (Ad Af (Ad (qv 0) Ac))))) Az)
  (Ai (Aw (Dp (Ad Af (Ad (Bs (Kq:=K) rfl rfl z8 (Ad (by exact(J9 (N':=["each"]) (idx:=[none]) Dq rfl (Em (Kq:=K) rfl (qv 0)) (λ_ _ _ _ _=>by exact(Ba (i:=0) (by show (["each"]:v4).Nodup;decide +kernel))) qtN (λ_ _ _ _ _=>by exact(Be a6 hr (Ad (qv 0) Ac))))) Ac)) Ac)))))))) ?_
 exact Dl (by unfold A1o;walk_at "m") h
theorem Ao2 (F:Fun K "rank" "rank" Ac4 f fd) (bF:Binds K fd ["value"] []) (mF:mg "rank" = some (.ref f)) (zN:mg "int" = none) (z7:mg "isinstance" = none) (zH:mg "str" = none) (z8:mg "tuple" = none):∀n:Nat,FnOk P w K mg base CX0 (n) f fd ["value"] (spP K (Cw n))
 | 0=>A8z
 | n+1=>Bo6 F ⟨f,fd,Ao2 F bF mF zN z7 zH z8 n,bF,F.kp,mF⟩ zN z7 zH z8
theorem T6 (F:Fun K "stands_ahead" "stands_ahead" Ji f fd) (a6:Def P w K mg base "rank" 2 ["value"] (spP K (Cw 2))):FnOk P w K mg base CX0 3 f fd ["one", "other"] (spP K Ed):=by
 refine F.ok Ub (λ_ _ _ _=>Do) (λcdv A outer s H vs Q E hr h=>?_)
 have hu:=hr.units;have hgd:=hr.gd
 refine Fi (Ai (Aw (A1r hu (Be a6 hr (Ad (qv 0) Ac)) (Be a6 hr (Ad (qv 1) Ac))))) ?_
 exact Dl (by unfold Ij;walk_at "m") h
theorem Bc2 (F:Fun K "risen" "risen" Af5 f fd) (a6:Def P w K mg base "rank" 2 ["value"] (spP K (Cw 2))) (yQ:mg "sorted" = none):FnOk P w K mg base CX0 5 f fd ["values"] (spP K Nj):=by
 obtain⟨i8,aI0,i4,i7,aC1,i6⟩:=a6
 refine F.ok A6j (λ_ _ _ _=>Do) (λcdv A outer s H vs Q E hr h=>?_)
 have hu:=hr.units;have hgd:=hr.gd
 refine Fi (Ai (Aw (A8g (Kq:=K) rfl i4 (hr.mono (by lia)) i7 rfl yQ (Ad (qv 0) Ac) (Qd (Qm (v:=.ref i8) rfl i6 rfl) Au1)))) ?_
 exact Dl (by unfold Vj;walk_at "m") h
theorem An2 (F:Fun K "place_of" "place_of" Pr f fd) (i0:ClI K mg ⟨"NoColumn.__init__", "FoldError", "name", "name", "no column ", ""⟩ "NoColumn"):FnOk P w K mg base (CXe P w) 3 f fd ["table", "name"] (spX K Bo):=by
 have aA5:=A6x i0;obtain⟨aB5,aF1,aE9,aC4,aC9,aE3,aA8,aH7,aA6,aB1,aB0,aA7,aA9⟩:=i0
 refine F.okX yO (λvs H Q E h=>Hv h) (λcdv A outer s H vs Q E hr h=>?_)
 have hu:=hr.units;have hgd:=hr.gd
 refine Fi (Ae (Bg (i:=2) yO.nd (Ax (Kq:=K) rfl (qv 0) Af Av))
  (Ae (Ck (Et hu (qv 1) (qv 2) (by with_unfolding_all rfl)) (Ai (A5h Oq rfl rfl aA8 aA6.2 aB1 aB0 aA7 (aA9 _ _ _) (hr.mono (by lia)) (qv 1))) Az)
  (Ai (Aw (Ai1 (Kq:=K) rfl PySem.F.plainAttrs_tuple PySem.F.slot_tuple_index PySem.F.type_tuple_index (U0 rfl) (qv 2) (Ad (qv 1) Ac)))))) ?_
 exact Hu (by unfold Hy;walk_at "m") h
abbrev yT2 (P w K mg base):=DefX P w K mg base "place_of" 3 ["table", "name"] (spX K Bo)
theorem Aa8 (F:Fun K "places_of" "places_of" M7 f fd) (c8:yT2 P w K mg base):FnOk P w K mg base (CXe P w) 4 f fd ["table", "names"] (spX K Ew):=by
 refine F.okX Af9 (λvs H Q E h=>Hv h) (λcdv A outer s H vs Q E hr h=>?_)
 have hu:=hr.units;have hgd:=hr.gd
 refine Fi (Ai (Aw (by exact(B1j (N':=["name", "table"]) (idx:=[none,some 0]) Dq rfl (Em (Kq:=K) rfl (qv 1)) (λ_ _ _ _ _=>by exact(Ba (i:=0) (by show (["name", "table"]:v4).Nodup;decide +kernel))) qtN (λ_=>Be5) (λ_ _ _ _ _=>by exact(A0x A5b c8 hr (Ad (qv 1) (Ad (qv 0) Ac)))))))) ?_
 exact Hu (Zk (F:=Bo) (vs:=[]) (by decide) (Ka Am) Ci O9 (Ao Am (Ao Am Cj)) (Hb (Nb (Ve (by decide) (Ka Am) Ci O9 (Rn (Ao Am (Ao Am Cj)))))) (λσ H D hb hq=>by exact hq _)) h
theorem A2x (F:Fun K "column" "column" U4 f fd) (c8:yT2 P w K mg base):FnOk P w K mg base (CXe P w) 4 f fd ["table", "name"] (spX K K5):=by
 obtain⟨aJ1,aI1,aC5,aB3,aC2,aG2⟩:=c8
 refine F.okX yU (λvs H Q E h=>Hv h) (λcdv A outer s H vs Q E hr h=>?_)
 have hu:=hr.units;have hgd:=hr.gd
 refine Fi (Ae (Bg (i:=2) yU.nd (Fp aC5 (hr.mono (by lia)) rfl aG2 aC2 aB3 .nil Fe (Ad (qv 0) (Ad (qv 1) Ac))))
  (Ai (Aw (by exact(J9 (N':=["row", "place"]) (idx:=[none,some 2]) Dq rfl (Em (Kq:=K) rfl (Ax (Kq:=K) rfl (qv 0) Af Av)) (λ_ _ _ _ _=>by exact(Ba (i:=0) (by show (["row", "place"]:v4).Nodup;decide +kernel))) qtN (λ_ _ _ _ _=>by exact(Ax (Kq:=K) rfl (qv 0) (qv 1) Lx))))))) ?_
 exact Hu (by unfold R9;walk_at "m") h
theorem Yg (F:Fun K "first_seen" "first_seen" Lw f fd) (z8:mg "tuple" = none):FnOk P w K mg base CX0 1 f fd ["things"] (spP K Hq):=by
 refine F.ok zZ (λ_ _ _ _=>Do) (λcdv A outer s H vs Q E hr h=>?_)
 have hu:=hr.units;have hgd:=hr.gd
 refine Fi (Ae (Bg (i:=1) zZ.nd A8e) (Ae (Ma PassesOwn.never rfl (Em (Kq:=K) rfl (qv 0)) (Ba (i:=2) zZ.nd) (Ai (Bl7 (qv 1) (qv 2) Tj))) (Ai (Aw (Bl2 rfl rfl z8 (qv 1)))))) ?_
 exact Dl (A0d (Ka Am) (by decide) (λ_ _ _ h=>h)) h
theorem Vs (F:Fun K "cells_along" "cells_along" Kp f fd) (zW:mg "zip" = none):FnOk P w K mg base CX0 1 f fd ["wide"] (spP K Fl):=by
 refine F.ok zQ (λ_ _ _ _=>Do) (λcdv A outer s H vs Q E hr h=>?_)
 have hu:=hr.units;have hgd:=hr.gd
 refine Fi (Ae (Bg (i:=1) zQ.nd (Ea Ac))
  (Ae (Ma PassesOwn.never rfl (Em (Kq:=K) rfl (Ax (Kq:=K) rfl (qv 0) Af Av)) (Mh (Kq:=K) rfl (n:=2) rfl (Cv (Ba (i:=2) zQ.nd) (Cv (Ba (i:=3) zQ.nd) Iz))) (Ai (Iu (Ai1 (Kq:=K) rfl eO PySem.F.slot_list_extend PySem.F.type_list_extend A2i (qv 1) (Ad (by exact(J9 (N':=["head", "each", "part"]) (idx:=[none,none,some 2]) Dq rfl (Ar0 rfl zW (Ad (Ax (Kq:=K) rfl (qv 0) Af Av) (Ad (qv 3) Ac))) (λ_ _ _ _ _=>by exact(Mh (Kq:=K) rfl (n:=2) rfl (Cv (Ba (i:=0) (by show (["head", "each", "part"]:v4).Nodup;decide +kernel)) (Cv (Ba (i:=1) (by show (["head", "each", "part"]:v4).Nodup;decide +kernel)) Iz)))) qtN (λ_ _ _ _ _=>by exact(Dp (Ad (qv 2) (Ad (qv 0) (Ad (qv 1) Ac))))))) Ac)))))
  (Ai (Aw (qv 1))))) ?_
 exact Dl (by unfold Nv;walk_at "m") h
theorem Al6 (F:Fun K "unfolded" "unfolded" O6 f fd) (u8:Def P w K mg base "cells_along" 1 ["wide"] (spP K Fl)) (z8:mg "tuple" = none):FnOk P w K mg base CX0 2 f fd ["wide"] (spP K Gu):=by
 refine F.ok yP (λ_ _ _ _=>Do) (λcdv A outer s H vs Q E hr h=>?_)
 have hu:=hr.units;have hgd:=hr.gd
 refine Fi (Ae (by exact(Jq (i:=1) yP.nd rfl (Or.inl rfl) (N':=["part", "head", "each"]) (idx:=[none,none,none]) Dq rfl (Em (Kq:=K) rfl (Be u8 hr (Ad (qv 0) Ac))) (λ_ _ _ _ _=>by exact(Mh (Kq:=K) rfl (n:=3) rfl (Cv (Ba (i:=0) (by show (["part", "head", "each"]:v4).Nodup;decide +kernel)) (Cv (Ba (i:=1) (by show (["part", "head", "each"]:v4).Nodup;decide +kernel)) (Cv (Ba (i:=2) (by show (["part", "head", "each"]:v4).Nodup;decide +kernel)) Iz))))) (λ_ _ _ _ _=>by exact(N8 (P0 (qv 2) Er))) (λ_ _ _ _ _=>by exact(Di (Di (qv 0) (qv 1)) (qv 2)))))
  (Ai (Aw (Dp (Ad (Di (Di (Ax (Kq:=K) rfl (qv 0) Af Av) (Ax (Kq:=K) rfl (qv 0) Af Av)) (Ax (Kq:=K) rfl (qv 0) Af Av)) (Ad (Bs (Kq:=K) rfl rfl z8 (Ad (qv 1) Ac)) Ac)))))) ?_
 exact Dl (by unfold M4;walk_at "m") h
theorem A4h (F:Fun K "sum_of" "sum_of" Xc f fd) (yM:mg "any" = none) (z7:mg "isinstance" = none) (zH:mg "str" = none) (yZ:mg "sum" = none) (j6:ClR K mg "NoNumber"):FnOk P w K mg base (CXe P w) 1 f fd ["numbers"] (spX K Hg):=by
 obtain⟨aI2,aC6,aB7,aD8⟩:=j6
 refine F.okX A4r (λvs H Q E h=>Hv h) (λcdv A outer s H vs Q E hr h=>?_)
 have hu:=hr.units;have hgd:=hr.gd
 refine Fi (Ae (Ck (Gm (Q7 (Kq:=K) rfl rfl rfl yM (Ad (by exact(J9 (N':=["number"]) (idx:=[none]) Dq rfl (Em (Kq:=K) rfl (qv 0)) (λ_ _ _ _ _=>by exact(Ba (i:=0) (by show (["number"]:v4).Nodup;decide +kernel))) qtN (λ_ _ _ _ _=>by exact(Bw (Kq:=K) rfl rfl z7 (Ad (qv 0) (Ad (Eb (v:=.ty "str") rfl zH Rw rfl) Ac)))))) Ac))) (Ai (Vt Oq rfl rfl aC6 aD8 (Ad Bv Ac))) Az)
  (Ai (Aw (Ab2 (Kq:=K) rfl rfl rfl yZ (Ad (qv 0) Ac))))) ?_
 exact Hu (Jo (Wy (Aa6 (M3 (Ve (by decide) (Ka Am) Ci O9 (Au7 .str Am)) Ac6)) (Qj aB7 (Ao (Dh rfl) Cj) (λ_ _ _ e=>by cases e;decide)) (Fv Gi))
  (Fv (Hb (M3 Am Ay0)))) h
theorem T8 (F:Fun K "put_together" "put_together" Jt f fd) (a6:Def P w K mg base "rank" 2 ["value"] (spP K (Cw 2))) (o3:DefX P w K mg base "sum_of" 1 ["numbers"] (spX K Hg)) (z9:mg "len" = none) (xF:mg "max" = none) (yN:mg "min" = none) (xG:mg "set" = none):FnOk P w K mg base (CXe P w) 5 f fd ["some", "way"] (spX K Aq):=by
 obtain⟨i8,aI0,i4,i7,aC1,i6⟩:=a6;obtain⟨aJ6,aJ5,aE4,aB4,aH2,aB6⟩:=o3
 refine F.okX yF (λvs H Q E h=>Hv h) (λcdv A outer s H vs Q E hr h=>?_)
 have hu:=hr.units;have hgd:=hr.gd
 refine Fi (Ae (Ck (Ex hu (qv 1) Bv) (Ai (Aw (Ax (Kq:=K) rfl (qv 0) Af Av))) Az)
  (Ae (Ck (Ex hu (qv 1) Bv) (Ai (Aw (Ax (Kq:=K) rfl (qv 0) (Nf Af) Mu))) Az)
  (Ae (by exact(Jq (i:=2) yF.nd rfl (Or.inl rfl) (N':=["value"]) (idx:=[none]) Dq rfl (Em (Kq:=K) rfl (qv 0)) (λ_ _ _ _ _=>by exact(Ba (i:=0) (by show (["value"]:v4).Nodup;decide +kernel))) (λ_ _ _ _ _=>by exact(N8 (P0 (qv 0) Er))) (λ_ _ _ _ _=>by exact(qv 0))))
  (Ae (Ck (Ex hu (qv 1) Bv) (Ai (Aw (Fp aE4 (hr.mono (by lia)) rfl aB6 aH2 aB4 .nil Fe (Ad (qv 2) Ac)))) Az)
  (Ae (Ck (Ex hu (qv 1) Bv) (Ai (Aw (Ib (Kq:=K) rfl rfl z9 (Ad (qv 2) Ac)))) Az)
  (Ae (Ck (Ex hu (qv 1) Bv) (Ai (Aw (Bd7 (Kq:=K) rfl rfl i4 (hr.mono (by lia)) i7 rfl yN (Ad (qv 2) Ac) (Qd (Qm (v:=.ref i8) rfl i6 rfl) (Qd Er Au1))))) Az)
  (Ae (Ck (Ex hu (qv 1) Bv) (Ai (Aw (Bd1 (Kq:=K) rfl rfl i4 (hr.mono (by lia)) i7 rfl xF (Ad (qv 2) Ac) (Qd (Qm (v:=.ref i8) rfl i6 rfl) (Qd Er Au1))))) Az)
  (Ae (Ck (Ex hu (qv 1) Bv) (Ai (Aw (A3f (Kq:=K) rfl rfl rfl xG rfl z9 (qv 2)))) Az)
  (Ai Bd3))))))))) ?_
 exact Hu (by unfold Cd;walk_at "m") h
theorem X7 (F:Fun K "columns_of" "columns_of" Lj f fd):FnOk P w K mg base CX0 1 f fd [lK] (spP K Ei):=by
 refine F.ok Yc (λ_ _ _ _=>Do) (λcdv A outer s H vs Q E hr h=>?_)
 have hu:=hr.units;have hgd:=hr.gd
 refine Fi (Ai (Aw (by exact(J9 (N':=["condition"]) (idx:=[none]) Dq rfl (Em (Kq:=K) rfl (qv 0)) (λ_ _ _ _ _=>by exact(Ba (i:=0) (by show (["condition"]:v4).Nodup;decide +kernel))) qtN (λ_ _ _ _ _=>by exact(Ax (Kq:=K) rfl (qv 0) Af Av)))))) ?_
 exact Dl (by unfold Kh;walk_at "m") h
theorem Vq (F:Fun K "check_words" "check_words" Ko f fd) (zT:∃p,mg "CONDITION_WORDS" = some (.ref p)/\∀H,SqT K H p ([Str.ofString "is",Str.ofString "not",Str.ofString "below",Str.ofString "above"].map V.str)) (c9:ClR K mg "BadWay"):FnOk P w K mg base (CXe P w) 1 f fd [lK] (spX K G8):=by
 obtain⟨aB8,u3,aA4,y8⟩:=c9;obtain⟨p_CONDITION_WORDS,aF0,sq_CONDITION_WORDS⟩:=zT
 refine F.okX yK (λvs H Q E h=>Hv h) (λcdv A outer s H vs Q E hr h=>?_)
 have hu:=hr.units;have hgd:=hr.gd
 refine Fi (Ai (Ma PassesOwn.leaving rfl (Em (Kq:=K) rfl (qv 0)) (Ba (i:=1) yK.nd) (Ai (Ck (A2k (Kq:=K) rfl (Ax (Kq:=K) rfl (qv 1) Af Av) (Qm (v:=.ref p_CONDITION_WORDS) rfl aF0 rfl) (by with_unfolding_all rfl)) (Ai (Vt Oq rfl rfl u3 y8 (Ad Bv Ac))) Az)))) ?_
 exact Hu (A9f (Ka Am) Ci (Wy (Ds (Bc4 (Df Am (Dh rfl) Dg) sq_CONDITION_WORDS)) (Qj aA4 (Ao (Dh rfl) Cj) (λ_ _ _ e=>by cases e;decide)) (Fv Gi))) h
theorem A9c (F:Fun K "holds" "holds" Ac8 f fd) (i5:Def P w K mg base "stands_ahead" 3 ["one", "other"] (spP K Ed)):FnOk P w K mg base CX0 4 f fd ["value", "word", "told"] (spP K Gh):=by
 refine F.ok A5l (λ_ _ _ _=>Do) (λcdv A outer s H vs Q E hr h=>?_)
 have hu:=hr.units;have hgd:=hr.gd
 refine Fi (Ae (Ck (Ex hu (qv 1) Bv) (Ai (Aw (Xi hu (qv 0) (qv 2)))) Az)
  (Ae (Ck (Ex hu (qv 1) Bv) (Ai (Aw (B3s hu (qv 0) (qv 2)))) Az)
  (Ae (Ck (Ex hu (qv 1) Bv) (Ai (Aw (Be i5 hr (Ad (qv 0) (Ad (qv 2) Ac))))) Az)
  (Ai (Aw (Be i5 hr (Ad (qv 2) (Ad (qv 0) Ac)))))))) ?_
 exact Dl (by unfold Lb;walk_at "m") h
theorem Am6 (F:Fun K "all_hold" "all_hold" Pu f fd) (y9:Def P w K mg base "holds" 4 ["value", "word", "told"] (spP K Gh)) (yC:mg "all" = none) (zW:mg "zip" = none):FnOk P w K mg base CX0 5 f fd ["row", "places", lK] (spP K Fo):=by
 refine F.ok Al2 (λ_ _ _ _=>Do) (λcdv A outer s H vs Q E hr h=>?_)
 have hu:=hr.units;have hgd:=hr.gd
 refine Fi (Ai (Aw (Ri (Kq:=K) rfl rfl rfl yC (Ad (by exact(J9 (N':=["place", "each", "row"]) (idx:=[none,none,some 0]) Dq rfl (Ar0 rfl zW (Ad (qv 1) (Ad (qv 2) Ac))) (λ_ _ _ _ _=>by exact(Mh (Kq:=K) rfl (n:=2) rfl (Cv (Ba (i:=0) (by show (["place", "each", "row"]:v4).Nodup;decide +kernel)) (Cv (Ba (i:=1) (by show (["place", "each", "row"]:v4).Nodup;decide +kernel)) Iz)))) qtN (λ_ _ _ _ _=>by exact(Be y9 hr (Ad (Ax (Kq:=K) rfl (qv 2) (qv 0) Lx) (Ad (Ax (Kq:=K) rfl (qv 1) Af Av) (Ad (Ax (Kq:=K) rfl (qv 1) Af Av) Ac))))))) Ac)))) ?_
 exact Dl (by unfold Nr;walk_at "m") h
abbrev yT3 (P w K mg base):=DefX P w K mg base "places_of" 4 ["table", "names"] (spX K Ew)
abbrev yT4 (P w K mg base):=Def P w K mg base "columns_of" 1 [lK] (spP K Ei)
theorem Yl (F:Fun K "rows_where" "rows_where" Mf f fd) (g0:yT3 P w K mg base) (a9:yT4 P w K mg base) (z5:DefX P w K mg base "check_words" 1 [lK] (spX K G8)) (j7:Def P w K mg base "all_hold" 5 ["row", "places", lK] (spP K Fo)) (yJ:mg "enumerate" = none):FnOk P w K mg base (CXe P w) 6 f fd ["table", lK] (spX K Cy):=by
 obtain⟨aF9,aG8,j8,l4,aA2,l5⟩:=g0;obtain⟨aK2,aJ8,aE7,aH6,aH1,aD6⟩:=z5
 refine F.okX yL (λvs H Q E h=>Hv h) (λcdv A outer s H vs Q E hr h=>?_)
 have hu:=hr.units;have hgd:=hr.gd
 refine Fi (Ae (Bg (i:=2) yL.nd (Fp j8 (hr.mono (by lia)) rfl l5 aA2 l4 .nil Fe (Ad (qv 0) (Ad (Be a9 hr (Ad (qv 1) Ac)) Ac))))
  (Ae (Iu (Fp aE7 (hr.mono (by lia)) rfl aD6 aH1 aH6 .nil Fe (Ad (qv 1) Ac)))
  (Ai (Aw (by exact(J9 (N':=["number", "row", "places", lK]) (idx:=[none,none,some 2,some 1]) Dq rfl (Bs2 rfl yJ (Ad (Ax (Kq:=K) rfl (qv 0) Af Av) Ac)) (λ_ _ _ _ _=>by exact(Mh (Kq:=K) rfl (n:=2) rfl (Cv (Ba (i:=0) (by show (["number", "row", "places", lK]:v4).Nodup;decide +kernel)) (Cv (Ba (i:=1) (by show (["number", "row", "places", lK]:v4).Nodup;decide +kernel)) Iz)))) (λ_ _ _ _ _=>by exact(N8 (Gm (Be j7 hr (Ad (qv 1) (Ad (qv 2) (Ad (qv 3) Ac))))))) (λ_ _ _ _ _=>by exact(qv 0)))))))) ?_
 exact Hu (by unfold Gf;walk_at "m") h
theorem Q4 (F:Fun K "check_question" "check_question" Hk f fd) (g0:yT3 P w K mg base) (a9:yT4 P w K mg base) (z9:mg "len" = none) (zK:mg "list" = none) (yX:∃p,mg "WAYS" = some (.ref p)/\∀H,SqT K H p ([Str.ofString "first",Str.ofString "last",Str.ofString "sum",Str.ofString "count",Str.ofString "least",Str.ofString "greatest",Str.ofString "unlike"].map V.str)) (c9:ClR K mg "BadWay"):FnOk P w K mg base (CXe P w) 5 f fd ["table", lS] (spX K Bu):=by
 obtain⟨aB8,u3,aA4,y8⟩:=c9;obtain⟨p_WAYS,aH4,sq_WAYS⟩:=yX;obtain⟨aF9,aG8,j8,l4,aA2,l5⟩:=g0
 refine F.okX zR (λvs H Q E h=>Hv h) (λcdv A outer s H vs Q E hr h=>?_)
 have hu:=hr.units;have hgd:=hr.gd
 refine Fi (Ae (Bg (i:=2) zR.nd (Mt (Kq:=K) rfl rfl zK (Ad (Aj5 (Kq:=K) rfl (qv 1) (Jb Af) (Jb (Nf Af))) Ac)))
  (Ae (Iu (Fp j8 (hr.mono (by lia)) rfl l5 aA2 l4 .nil Fe (Ad (qv 0) (Ad (Di (qv 2) (Be a9 hr (Ad (Ax (Kq:=K) rfl (qv 1) (Nf Af) Mu) Ac))) Ac))))
  (Ae (Bg (i:=3) zR.nd (K3 (Vx (Ib (Kq:=K) rfl rfl z9 (Ad (qv 2) Ac)) Af) (Aw7 (Kq:=K) rfl (Qm (v:=.ref p_WAYS) rfl aH4 rfl) (Dp (Ad Bv Ac))) (Dp (Ad Bv Ac))))
  (Ai (Ck (Et hu (Ax (Kq:=K) rfl (qv 1) Af Av) (qv 3) (by with_unfolding_all rfl)) (Ai (Vt Oq rfl rfl u3 y8 (Ad Bv Ac))) Az))))) ?_
 exact Hu (Jo (Fv (Gb (M3 (Bt4 Am (Zy (Dh rfl)) (Zy (Ms (Dh rfl) Oe)) Ay6) Ah0) Ci))
  (Jo (Vw (Ao Am (Ao (Nb (Df Am (Gy (Ao (Df Am (Ms (Dh rfl) Oe) Dg) Cj)) Aa4)) Cj)))
  (Jo (Fv (Gb (Av2 (Ds (Df (Vy Am) (Dh rfl) Ap6)) (A1j (Pg (Ao (Dh rfl) Cj)) sq_WAYS) (Pg (Ao (Dh rfl) Cj))) Ci))
  (Wy (Ds (Df (Df Am (Dh rfl) Dg) Am Zu)) (Qj aA4 (Ao (Dh rfl) Cj) (λ_ _ _ e=>by cases e;decide)) (Fv Gi))))) h
theorem A3h (F:Fun K "answer" "answer" Vi f fd) (k8:Def P w K mg base "risen" 5 ["values"] (spP K Nj)) (aA0:DefX P w K mg base "column" 4 ["table", "name"] (spX K K5)) (l0:Def P w K mg base "first_seen" 1 ["things"] (spP K Hq)) (x9:DefX P w K mg base "put_together" 5 ["some", "way"] (spX K Aq)) (j9:DefX P w K mg base "rows_where" 6 ["table", lK] (spX K Cy)) (x6:DefX P w K mg base "check_question" 5 ["table", lS] (spX K Bu)) (z9:mg "len" = none):FnOk P w K mg base (CXe P w) 7 f fd ["table", lS] (spX K Bf):=by
 obtain⟨aI4,aJ7,aE8,aC8,aG9,aE1⟩:=aA0;obtain⟨aJ4,aJ2,aE0,aF8,aE5,aF2⟩:=x9;obtain⟨aK4,aI9,aH3,aB2,aD3,aG3⟩:=x6
 refine F.okX yG (λvs H Q E h=>Hv h) (λcdv A outer s H vs Q E hr h=>?_)
 have hu:=hr.units;have hgd:=hr.gd
 refine Fi (Ae (Iu (Fp aH3 (hr.mono (by lia)) rfl aG3 aD3 aB2 .nil Fe (Ad (qv 0) (Ad (qv 1) Ac))))
  (Ae (Bg (i:=2) yG.nd (Ax (Kq:=K) rfl (qv 1) Af Av))
  (Ae (by exact(Jq (i:=3) yG.nd rfl (Or.inl rfl) (N':=["number", "table"]) (idx:=[none,some 0]) Dq rfl (Em (Kq:=K) rfl (A0x Fe j9 hr (Ad (qv 0) (Ad (Ax (Kq:=K) rfl (qv 1) (Nf Af) Mu) Ac)))) (λ_ _ _ _ _=>by exact(Ba (i:=0) (by show (["number", "table"]:v4).Nodup;decide +kernel))) qtN (λ_ _ _ _ _=>by exact(Ax (Kq:=K) rfl (Ax (Kq:=K) rfl (qv 1) Af Av) (qv 0) Lx))))
  (Ae (Ck (Ex hu (qv 2) Bv) (Ai (Aw (qv 3))) Az)
  (Ae (Bg (i:=4) yG.nd (Fp aE8 (hr.mono (by lia)) rfl aE1 aG9 aC8 .nil Fe (Ad (Dp (Ad (Ax (Kq:=K) rfl (qv 0) Af Av) (Ad (qv 3) Ac))) (Ad (Ax (Kq:=K) rfl (qv 1) Af Av) Ac))))
  (Ae (Ck (Ex hu (qv 2) Bv) (Ai (Aw (Be k8 hr (Ad (Be l0 hr (Ad (qv 4) Ac)) Ac)))) Az)
  (Ai (Aw (K3 (Vx (Ib (Kq:=K) rfl rfl z9 (Ad (qv 4) Ac)) Af) (Fp aE0 (hr.mono (by lia)) rfl aF2 aE5 aF8 .nil Fe (Ad (qv 4) (Ad (qv 2) Ac))) Er))))))))) ?_
 exact Hu (Jo (Vw (Ao Am (Ao Am Cj)))
  (Jo (Fv (Gb (Df Am (Dh rfl) Dg) Ci))
  (Jo (Ah8 (F:=Cy) (vs:=[]) (Ao Am (Ao (Df Am (Ms (Dh rfl) Oe) Dg) Cj)) (Gb (Ve (by decide) (Ka (Rn (Ao Am (Ao (Df Am (Ms (Dh rfl) Oe) Dg) Cj)))) Ci O9 (Df (Df Am (Dh rfl) Dg) Am Dg)) Ci) (λσ H D hb hq=>by exact hq _))
  (Jo (Wy (Ds (Df Am (Dh rfl) S8)) (Fv (Hb (Nb (Nb Am)))) (Fv Gi))
  (Jo (Ax9 (Ao (Pg (Ao (Df Am (Dh rfl) Dg) (Ao (Nb Am) Cj))) (Ao (Df Am (Dh rfl) Dg) Cj)))
  (Jo (Wy (Ds (Df Am (Dh rfl) S8)) (Fv (Hb (Nb (Gy (Ao (Gy (Ao (Nb Am) Cj)) Cj))))) (Fv Gi))
  (Wy (Ds (Df (Vy (Nb Am)) (Dh rfl) Ap6)) (A0s (Ao (Nb Am) (Ao Am Cj))) (Fv (Hb (Nb (Dh rfl))))))))))) h
abbrev yT5 (P w K mg base):=Def P w K mg base "unfolded" 2 ["wide"] (spP K Gu)
abbrev yT6 (P w K mg base):=DefX P w K mg base "answer" 7 ["table", lS] (spX K Bf)
theorem U3 (F:Fun K "answer_wide" "answer_wide" Ku f fd) (a8:yT5 P w K mg base) (d6:yT6 P w K mg base):FnOk P w K mg base (CXe P w) 8 f fd ["wide", lS] (spX K Dw):=by
 obtain⟨aK3,aI7,aG6,aG5,aE6,aC0⟩:=d6
 refine F.okX Wf (λvs H Q E h=>Hv h) (λcdv A outer s H vs Q E hr h=>?_)
 have hu:=hr.units;have hgd:=hr.gd
 refine Fi (Ai (Aw (Fp aG6 (hr.mono (by lia)) rfl aC0 aE6 aG5 .nil Fe (Ad (Be a8 hr (Ad (qv 0) Ac)) (Ad (qv 1) Ac))))) ?_
 exact Hu (by unfold Jr;walk_at "m") h
theorem Ae6 (F:Fun K "_law_cell_at" "_law_cell_at" Mz f fd) (z9:mg "len" = none):FnOk P w K mg base CX0 1 f fd [lM, "_law_k"] (spP K Fy):=by
 refine F.ok Af0 (λ_ _ _ _=>Do) (λcdv A outer s H vs Q E hr h=>?_)
 have hu:=hr.units;have hgd:=hr.gd
 refine Fi (Ae (Ck (Ao1 (qv 1) (Ib (Kq:=K) rfl rfl z9 (Ad (qv 0) Ac))) (Ai (Aw (Bu3 (show IxR _ (rIx K) from Bx6) (qv 0) (qv 1) Lx))) Az)
  (Ai (Aw Af))) ?_
 exact Dl (by unfold Ja;walk_at "m") h
theorem A6e (F:Fun K "_law_box" "_law_box" Ab9 f fd) (k7:Def P w K mg base "_law_cell_at" 1 [lM, "_law_k"] (spP K Fy)) (yV:mg "abs" = none) (zN:mg "int" = none):FnOk P w K mg base CX0 2 f fd [lM, "_law_k"] (spP K Nk):=by
 refine F.ok yW (λ_ _ _ _=>Do) (λcdv A outer s H vs Q E hr h=>?_)
 have hu:=hr.units;have hgd:=hr.gd
 refine Fi (Ae (Bg (i:=2) yW.nd (Be k7 hr (Ad (qv 0) (Ad (qv 1) Ac))))
  (Ai (Aw (Ea (Ad (Je (Tt (Kq:=K) rfl rfl yV (Ad (qv 2) Ac)) (Z8 (Kq:=K) rfl rfl zN (Ad (A5v (Tt (Kq:=K) rfl rfl yV (Ad (qv 2) Ac)) (Jh Af Af)) Ac))) (Ad (Di (Di (Hl (qv 2) Af) (Je Af (qv 1))) Af) (Ad Af Ac))))))) ?_
 exact Dl (by unfold Xk;walk_at "m") h
theorem A4w (F:Fun K "_law_take" "_law_take" Ww f fd):FnOk P w K mg base CX0 1 f fd [lH, lJ] (spP K Ah):=by
 refine F.ok yH (λ_ _ _ _=>Do) (λcdv A outer s H vs Q E hr h=>?_)
 have hu:=hr.units;have hgd:=hr.gd
 refine Fi (Ae (Ck (Vx (Ax (Kq:=K) rfl (qv 0) Af Av) Af) (Ae (Bg (i:=2) yH.nd (Hl (Ax (Kq:=K) rfl (qv 0) Af Av) (qv 1)))
  (Ae (Aw1 (V4 (Ax (Kq:=K) rfl (qv 0) Af Av) (qv 1)) (A8v (qv 0) Af set_list))
  (Ai (Aw (qv 2))))) Az)
  (Ae (Aw1 (Di (Ax (Kq:=K) rfl (qv 0) Af Av) Af) (A8v (qv 0) Af set_list))
  (Ae (Bg (i:=3) yH.nd (Hl (Je (Di (Ax (Kq:=K) rfl (qv 0) Af Av) (Je Af (Ax (Kq:=K) rfl (qv 0) Af Av))) (Di Af (Ax (Kq:=K) rfl (qv 0) Af Av))) Af))
  (Ae (Bg (i:=4) yH.nd (Hl (Je (Di (qv 3) (Ax (Kq:=K) rfl (qv 0) Af Av)) (Di (Hl (qv 3) Af) Af)) Af))
  (Ai (Aw (Hl (V4 (Hl (Di (Je (qv 4) Af) (qv 3)) Af) Af) (qv 1)))))))) ?_
 exact Dl (by unfold Oc;walk_at "m") h
abbrev yT0 (P w K mg base):=Def P w K mg base "_law_take" 1 [lH, lJ] (spP K Ah)
theorem A3d (F:Fun K "_law_many" "_law_many" Xj f fd) (a5:yT0 P w K mg base):FnOk P w K mg base CX0 2 f fd [lH, "_law_least", "_law_few", "_law_most"] (spP K Hj):=by
 refine F.ok A5f (λ_ _ _ _=>Do) (λcdv A outer s H vs Q E hr h=>?_)
 have hu:=hr.units;have hgd:=hr.gd
 refine Fi (Ae (Ck (Ex hu (Be a5 hr (Ad (qv 0) (Ad Af Ac))) Af) (Ai (Aw (Di Af (Be a5 hr (Ad (qv 0) (Ad (Gn (qv 3) Af) Ac)))))) Az)
  (Ai (Aw (Di (qv 1) (Be a5 hr (Ad (qv 0) (Ad (Di (Gn (qv 2) (qv 1)) Af) Ac))))))) ?_
 exact Dl (by unfold N7;walk_at "m") h
theorem Aq1 (F:Fun K "_law_names" "_law_names" S6 f fd) (a5:yT0 P w K mg base) (z9:mg "len" = none) (zG:mg "range" = none):FnOk P w K mg base CX0 2 f fd [lH, lJ] (spP K Hm):=by
 refine F.ok yR (λ_ _ _ _=>Do) (λcdv A outer s H vs Q E hr h=>?_)
 have hu:=hr.units;have hgd:=hr.gd
 refine Fi (Ae (Bg (i:=2) yR.nd (Ea (Gq (vs:=[.str "b",.str "a",.str "year",.str "z",.str "ab",.str "month",.str "aa",.str "quantity",.str "c",.str "town",.str "zz",.str "ba"]) rfl)))
  (Ai (Aw (by exact(J9 (N':=["_law_turn", "_law_some", lH]) (idx:=[none,some 2,some 0]) Dq rfl (Hd rfl zG (Ad (qv 1) Ac)) (λ_ _ _ _ _=>by exact(Ba (i:=0) (by show (["_law_turn", "_law_some", lH]:v4).Nodup;decide +kernel))) qtN (λ_ _ _ _ _=>by exact(Ai1 (Kq:=K) rfl eO PySem.F.slot_list_pop PySem.F.type_list_pop A5w (qv 1) (Ad (Be a5 hr (Ad (qv 2) (Ad (Ib (Kq:=K) rfl rfl z9 (Ad (qv 1) Ac)) Ac))) Ac)))))))) ?_
 exact Dl (by unfold Pz;walk_at "m") h
theorem At3 (F:Fun K "_law_value" "_law_value" Sv f fd) (a5:yT0 P w K mg base):FnOk P w K mg base CX0 2 f fd [lH] (spP K Bp):=by
 refine F.ok yS (λ_ _ _ _=>Do) (λcdv A outer s H vs Q E hr h=>?_)
 have hu:=hr.units;have hgd:=hr.gd
 refine Fi (Ae (Bg (i:=1) yS.nd (Be a5 hr (Ad (qv 0) (Ad Af Ac))))
  (Ae (Ck (Ao1 (qv 1) Af) (Ai (Aw (Gn (Be a5 hr (Ad (qv 0) (Ad Af Ac))) Af))) Az)
  (Ae (Ck (Ex hu (qv 1) Af) (Ai (Aw (Ax (Kq:=K) rfl (Ea (Ad (Gn (Jh Af Af) Af) (Ad (Gn Af (Jh Af Af)) (Ad Af (Ad Af Ac))))) (Be a5 hr (Ad (qv 0) (Ad Af Ac))) Cz))) Az)
  (Ae (Ck (Ex hu (qv 1) Af) (Ai (Aw Er)) Az)
  (Ai (Aw (Ax (Kq:=K) rfl (Ea (Gq (vs:=[.str "",.str "a",.str "b",.str "B",.str "10",.str "9",.str "-",.str "a b",.str "it's",.str "\\",.str "/",.str "_",.str ":",.str "None",.str "ab"]) rfl)) (Be a5 hr (Ad (qv 0) (Ad Af Ac))) Cz))))))) ?_
 exact Dl (by unfold Hh;walk_at "m") h
theorem Ah7 (F:Fun K "_law_number" "_law_number" Pb f fd) (a5:yT0 P w K mg base):FnOk P w K mg base CX0 2 f fd [lH] (spP K De):=by
 refine F.ok Am9 (λ_ _ _ _=>Do) (λcdv A outer s H vs Q E hr h=>?_)
 have hu:=hr.units;have hgd:=hr.gd
 refine Fi (Ae (Ck (Ex hu (Be a5 hr (Ad (qv 0) (Ad Af Ac))) Af) (Ai (Aw (Ax (Kq:=K) rfl (Ea (Ad (Gn (Jh Af Af) Af) (Ad (Gn Af (Jh Af Af)) (Ad (Jh Af Af) (Ad Af Ac))))) (Be a5 hr (Ad (qv 0) (Ad Af Ac))) Cz))) Az)
  (Ai (Aw (Gn (Be a5 hr (Ad (qv 0) (Ad Af Ac))) Af)))) ?_
 exact Dl (by unfold J8;walk_at "m") h
abbrev yT1 (P w K mg base):=Def P w K mg base "_law_value" 2 [lH] (spP K Bp)
theorem A4n (F:Fun K "_law_pool" "_law_pool" Wx f fd) (a7:yT1 P w K mg base) (zG:mg "range" = none):FnOk P w K mg base CX0 3 f fd [lH, lJ] (spP K Jd):=by
 refine F.ok yI (λ_ _ _ _=>Do) (λcdv A outer s H vs Q E hr h=>?_)
 have hu:=hr.units;have hgd:=hr.gd
 refine Fi (Ae (Bg (i:=2) yI.nd (Ea Ac))
  (Ae (Ma PassesOwn.never rfl (Hd rfl zG (Ad (qv 1) Ac)) (Ba (i:=3) yI.nd) (Ae (Bg (i:=4) yI.nd (Be a7 hr (Ad (qv 0) Ac)))
  (Ai (Ck (Et hu (qv 4) (qv 2) (by with_unfolding_all rfl)) (Ai (Iu (Lf (Kq:=K) rfl (qv 2) (qv 4)))) Az))))
  (Ai (Aw (qv 2))))) ?_
 exact Dl (by unfold Rr;walk_at "m") h
theorem An8 (F:Fun K "_law_tuples" "_law_tuples" Qa f fd) (a5:yT0 P w K mg base) (l6:Def P w K mg base "_law_pool" 3 [lH, lJ] (spP K Jd)) (z9:mg "len" = none) (zG:mg "range" = none) (z8:mg "tuple" = none):FnOk P w K mg base CX0 4 f fd [lH, lU, lJ] (spP K Gr):=by
 refine F.ok zU (λ_ _ _ _=>Do) (λcdv A outer s H vs Q E hr h=>?_)
 have hu:=hr.units;have hgd:=hr.gd
 refine Fi (Ae (Bg (i:=3) zU.nd (Be l6 hr (Ad (qv 0) (Ad Af Ac))))
  (Ae (Bg (i:=4) zU.nd (Ea Ac))
  (Ae (Ma PassesOwn.never rfl (Hd rfl zG (Ad (qv 2) Ac)) (Ba (i:=5) zU.nd) (Ae (Bg (i:=6) zU.nd (Bs (Kq:=K) rfl rfl z8 (Ad (by exact(J9 (N':=["_law_k", "_law_pool_here", lH]) (idx:=[none,some 3,some 0]) Dq rfl (Hd rfl zG (Ad (qv 1) Ac)) (λ_ _ _ _ _=>by exact(Ba (i:=0) (by show (["_law_k", "_law_pool_here", lH]:v4).Nodup;decide +kernel))) qtN (λ_ _ _ _ _=>by exact(Ax (Kq:=K) rfl (qv 1) (Be a5 hr (Ad (qv 2) (Ad (Ib (Kq:=K) rfl rfl z9 (Ad (qv 1) Ac)) Ac))) Cz)))) Ac)))
  (Ai (Ck (Et hu (qv 6) (qv 4) (by with_unfolding_all rfl)) (Ai (Iu (Lf (Kq:=K) rfl (qv 4) (qv 6)))) Az))))
  (Ai (Aw (qv 4)))))) ?_
 exact Dl (by unfold M5;walk_at "m") h
theorem A2b (F:Fun K "_law_wide" "_law_wide" Wg f fd) (a5:yT0 P w K mg base) (i9:Def P w K mg base "_law_many" 2 [lH, "_law_least", "_law_few", "_law_most"] (spP K Hj)) (aA1:Def P w K mg base "_law_names" 2 [lH, lJ] (spP K Hm)) (a7:yT1 P w K mg base) (n5:Def P w K mg base "_law_number" 2 [lH] (spP K De)) (j0:Def P w K mg base "_law_tuples" 4 [lH, lU, lJ] (spP K Gr)) (z8:mg "tuple" = none):FnOk P w K mg base CX0 5 f fd [lH, "_law_numbers"] (spP K Oh):=by
 refine F.ok zF (λ_ _ _ _=>Do) (λcdv A outer s H vs Q E hr h=>?_)
 have hu:=hr.units;have hgd:=hr.gd
 refine Fi (Ae (Bg (i:=2) zF.nd (Be aA1 hr (Ad (qv 0) (Ad Af Ac))))
  (Ae (Bp8 (i:=3) (j:=4) (k:=5) rfl zF.nd rfl rfl rfl (by decide) (by decide) (by decide) rfl rfl rfl (Ad (Be a5 hr (Ad (qv 0) (Ad Af Ac))) (Ad (Be a5 hr (Ad (qv 0) (Ad Af Ac))) (Ad (Di Af (Be a5 hr (Ad (qv 0) (Ad Af Ac)))) Ac))) rfl)
  (Ae (Ck (Ex hu (Be a5 hr (Ad (qv 0) (Ad Af Ac))) Af) (Ai (Bg (i:=5) zF.nd (Di Af (Be a5 hr (Ad (qv 0) (Ad Af Ac)))))) Az)
  (Ae (Bz8 (i:=6) (j:=7) rfl zF.nd rfl rfl (by decide) rfl rfl (Ad (Aj5 (Kq:=K) rfl (qv 2) Bh3 (Jb (qv 3))) (Ad (Aj5 (Kq:=K) rfl (qv 2) (Jb (qv 3)) (Jb (Di (qv 3) (qv 4)))) Ac)) rfl)
  (Ae (Bg (i:=8) zF.nd (Aj5 (Kq:=K) rfl (qv 2) (Jb (Di (qv 3) (qv 4))) (Jb (Di (Di (qv 3) (qv 4)) (qv 5)))))
  (Ae (Bg (i:=9) zF.nd (Be j0 hr (Ad (qv 0) (Ad (qv 4) (Ad (Be i9 hr (Ad (qv 0) (Ad Af (Ad Af (Ad Af Ac))))) Ac)))))
  (Ae (Bg (i:=10) zF.nd (Ax (Kq:=K) rfl (Ea (Ad Af (Ad Af (Ad Af Ac)))) (Be a5 hr (Ad (qv 0) (Ad Af Ac))) Cz))
  (Ae (Bg (i:=11) zF.nd (Ea Ac))
  (Ae (Ma PassesOwn.never rfl (Em (Kq:=K) rfl (Be j0 hr (Ad (qv 0) (Ad (qv 3) (Ad (Be i9 hr (Ad (qv 0) (Ad Af (Ad Af (Ad Af Ac))))) Ac))))) (Ba (i:=12) zF.nd) (Ae (Bg (i:=13) zF.nd (Ea Ac))
  (Ae (Ma PassesOwn.never rfl (Em (Kq:=K) rfl (qv 9)) (Ba (i:=14) zF.nd) (Ae (Bg (i:=15) zF.nd (Bs (Kq:=K) rfl rfl z8 (Ad (by exact(J9 (N':=[lR, "_law_numbers", lH]) (idx:=[none,some 1,some 0]) Dq rfl (Em (Kq:=K) rfl (qv 8)) (λ_ _ _ _ _=>by exact(Ba (i:=0) (by show ([lR, "_law_numbers", lH]:v4).Nodup;decide +kernel))) qtN (λ_ _ _ _ _=>by exact(K3 (Gm (qv 1)) (Be n5 hr (Ad (qv 2) Ac)) (Be a7 hr (Ad (qv 2) Ac)))))) Ac)))
  (Ai (Iu (Lf (Kq:=K) rfl (qv 13) (K3 (Ex hu (Be a5 hr (Ad (qv 0) (Ad (qv 10) Ac))) Af) Er (qv 15)))))))
  (Ai (Iu (Lf (Kq:=K) rfl (qv 11) (Dp (Ad (qv 12) (Ad (Bs (Kq:=K) rfl rfl z8 (Ad (qv 13) Ac)) Ac)))))))))
  (Ai (Aw (Dp (Ad (Bs (Kq:=K) rfl rfl z8 (Ad (qv 6) Ac)) (Ad (Bs (Kq:=K) rfl rfl z8 (Ad (qv 7) Ac)) (Ad (Bs (Kq:=K) rfl rfl z8 (Ad (qv 8) Ac)) (Ad (Bs (Kq:=K) rfl rfl z8 (Ad (qv 9) Ac)) (Ad (Bs (Kq:=K) rfl rfl z8 (Ad (qv 11) Ac)) Ac))))))))))))))))) ?_
 exact Dl (by unfold Od;walk_at "m") h
theorem A2w {n:Nat}(F:Fun K "_law_same" "_law_same" Qq f fd) (h9:Def P w K mg base "_law_same" (n) [lQ, lT] (spP K (Cq n))) (yC:mg "all" = none) (zY:mg "bool" = none) (zN:mg "int" = none) (z7:mg "isinstance" = none) (z9:mg "len" = none) (zK:mg "list" = none) (zH:mg "str" = none) (z8:mg "tuple" = none) (zW:mg "zip" = none):FnOk P w K mg base CX0 (n+1) f fd [lQ, lT] (spP K (Cq (n+1))):=by
 refine F.ok A1s (λ_ _ _ _=>Do) (λcdv A outer s H vs Q E hr h=>?_)
 have hu:=hr.units;have hgd:=hr.gd
 refine Fi (Ae (Ck (Gm (Z7 (Kq:=K) rfl rfl z7 (Ad (qv 1) (Ad (Dp (Ad (Eb (v:=.ty "list") rfl zK Uj rfl) (Ad (Eb (v:=.ty "tuple") rfl z8 M6 rfl) Ac))) Ac)))) (Ae (Ck (QW.qt (Y5 (W8 hu (Bw (Kq:=K) rfl rfl z7 (Ad (qv 0) (Ad (Eb (v:=.ty "list") rfl zK Uj rfl) Ac))) (Bw (Kq:=K) rfl rfl z7 (Ad (qv 1) (Ad (Eb (v:=.ty "list") rfl zK Uj rfl) Ac)))) (Xm (W8 hu (Bw (Kq:=K) rfl rfl z7 (Ad (qv 0) (Ad (Eb (v:=.ty "tuple") rfl z8 M6 rfl) Ac))) (Bw (Kq:=K) rfl rfl z7 (Ad (qv 1) (Ad (Eb (v:=.ty "tuple") rfl z8 M6 rfl) Ac))))))) (Ai (Aw Tj)) Az)
  (Ai (Aw (Vb (Xi hu (Ib (Kq:=K) rfl rfl z9 (Ad (qv 0) Ac)) (Ib (Kq:=K) rfl rfl z9 (Ad (qv 1) Ac))) (Ac3 (Ri (Kq:=K) rfl rfl rfl yC (Ad (by exact(J9 (N':=["_law_one", "_law_other"]) (idx:=[none,none]) Dq rfl (Ar0 rfl zW (Ad (qv 0) (Ad (qv 1) Ac))) (λ_ _ _ _ _=>by exact(Mh (Kq:=K) rfl (n:=2) rfl (Cv (Ba (i:=0) (by show (["_law_one", "_law_other"]:v4).Nodup;decide +kernel)) (Cv (Ba (i:=1) (by show (["_law_one", "_law_other"]:v4).Nodup;decide +kernel)) Iz)))) qtN (λ_ _ _ _ _=>by exact(Be h9 hr (Ad (qv 0) (Ad (qv 1) Ac)))))) Ac))))))) Az)
  (Ae (Ck (QW.qt (Y5 (Kw (qv 1) Er) (Xm (Gm (Bw (Kq:=K) rfl rfl z7 (Ad (qv 1) (Ad (Eb (v:=.ty "str") rfl zH Rw rfl) Ac))))))) (Ai (Aw (Vb (Xi hu (qv 0) (qv 1)) (Ac3 (Xi hu (Bw (Kq:=K) rfl rfl z7 (Ad (qv 0) (Ad (Eb (v:=.ty "str") rfl zH Rw rfl) Ac))) (Bw (Kq:=K) rfl rfl z7 (Ad (qv 1) (Ad (Eb (v:=.ty "str") rfl zH Rw rfl) Ac)))))))) Az)
  (Ae (Ck (Gm (Bw (Kq:=K) rfl rfl z7 (Ad (qv 1) (Ad (Eb (v:=.ty "bool") rfl zY Ad9 rfl) Ac)))) (Ai (Aw (Vb (Bw (Kq:=K) rfl rfl z7 (Ad (qv 0) (Ad (Eb (v:=.ty "bool") rfl zY Ad9 rfl) Ac))) (Ac3 (Xi hu (qv 0) (qv 1)))))) Az)
  (Ai (Aw (Vb (Bw (Kq:=K) rfl rfl z7 (Ad (qv 0) (Ad (Eb (v:=.ty "int") rfl zN Av8 rfl) Ac))) (Vb (B0n (Bw (Kq:=K) rfl rfl z7 (Ad (qv 0) (Ad (Eb (v:=.ty "bool") rfl zY Ad9 rfl) Ac)))) (Ac3 (Xi hu (qv 0) (qv 1)))))))))) ?_
 exact Dl (by unfold Fx;walk_at "m") h
theorem Xu (F:Fun K "_law_same" "_law_same" Qq f fd) (bF:Binds K fd [lQ, lT] []) (mF:mg "_law_same" = some (.ref f)) (yC:mg "all" = none) (zY:mg "bool" = none) (zN:mg "int" = none) (z7:mg "isinstance" = none) (z9:mg "len" = none) (zK:mg "list" = none) (zH:mg "str" = none) (z8:mg "tuple" = none) (zW:mg "zip" = none):∀n:Nat,FnOk P w K mg base CX0 (n) f fd [lQ, lT] (spP K (Cq n))
 | 0=>A8z
 | n+1=>A2w F ⟨f,fd,Xu F bF mF yC zY zN z7 z9 zK zH z8 zW n,bF,F.kp,mF⟩ yC zY zN z7 z9 zK zH z8 zW
abbrev yT7 (P w K mg base):=Bv8 P w K mg base "_law_told" 1 ["NoColumn", "NoNumber", "BadWay"] (spP K Du)
theorem A4k (F:Fun K "_law_told" "_law_told" Wt f fd) (hb:Binds K fd ["_law_call"] []) (gm:mg "_law_told" = some (.ref f)) (yE:mg "ValueError" = none) (z7:mg "isinstance" = none) (z9:mg "len" = none) (u7:ClT K mg xT0 "BadColumns") (k6:ClT K mg xT0 "BadOrder") (l7:ClT K mg xT0 "BadRow") (w4:ClT K mg xT1 "BadWay") (w9:ClT K mg xT0 "Double") (x8:ClT K mg xT2 "NoColumn") (v0:ClT K mg xT0 "NoHead") (p0:ClT K mg xT3 "NoNumber") (y7:ClT K mg xT0 "NoPart") (l8:ClT K mg xT0 "NoRow") (y0:TbOk K (.type "ValueError") xT4) (i0:ClI K mg ⟨"NoColumn.__init__", "FoldError", "name", "name", "no column ", ""⟩ "NoColumn") (m3:ClF K mg ["NoColumn", "NoNumber", "BadWay"] "FoldError"):yT7 P w K mg base:=by
 obtain⟨aK5,aH8,aH0⟩:=u7;obtain⟨aJ0,aD4,aF7⟩:=k6;obtain⟨aJ9,aE2,aD2⟩:=l7;obtain⟨aI8,aD9,aB9⟩:=w4;obtain⟨aK1,aF5,aH9⟩:=w9;obtain⟨aI6,aD0,aC3⟩:=x8;obtain⟨aI3,aF4,aD7⟩:=v0;obtain⟨aI5,aF3,aG7⟩:=p0;obtain⟨aK0,aF6,aG4⟩:=y7;obtain⟨aJ3,aC7,aD5⟩:=l8;have aG0:=y0;have aA5:=A6x i0;obtain⟨aB5,aF1,aE9,aC4,aC9,aE3,aA8,aH7,aA6,aB1,aB0,aA7,aA9⟩:=i0;obtain⟨aG1,aH5,aD1⟩:=m3
 refine⟨aG1,Bp0 F zX hb gm aH5 (λcdv A outer s H=>by exact(Aw1 (Dp (Ad Er (Ad Er Ac))) (Mh (Kq:=K) rfl (n:=2) rfl (Cv (Ba (i:=1) zX.nd) (Cv (Ba (i:=2) zX.nd) Iz))))) (λcdv A outer s H0 H vs Q E hr h=>?_),aD1⟩
 have hu:=hr.units;have hgd:=hr.gd
 refine Fi (Ae (Ck (Kw (qv 1) Er) (Ai (Aw (qv 0))) Az)
  (Ae (Bg (i:=3) (bO.mp zX.nd).2 (Ea (Ad (Qe (Kq:=K) rfl rfl z7 (Ad (qv 1) (Ad (Km rfl aH8) Ac))) (Ad (Qe (Kq:=K) rfl rfl z7 (Ad (qv 1) (Ad (Km rfl aD0) Ac))) (Ad (Qe (Kq:=K) rfl rfl z7 (Ad (qv 1) (Ad (Km rfl aD9) Ac))) Ac)))))
  (Ae (Iu (Lf (Kq:=K) rfl (qv 3) (Qe (Kq:=K) rfl rfl z7 (Ad (qv 1) (Ad (Km rfl aF3) Ac)))))
  (Ae (Bg (i:=4) (bO.mp zX.nd).2 (A7h (Kq:=K) rfl rfl z7 (Ad (qv 1) (Ad (Dp (Ad (Km rfl aD4) (Ad (Km rfl aE2) (Ad (Km rfl aF5) (Ad (Km rfl aF4) (Ad (Km rfl aF6) (Ad (Km rfl aC7) Ac))))))) Ac))))
  (Ae (Ck (QW.qt (Y5 (Gm (qv 4)) (Y5 (Aw3 (Gm (Qe (Kq:=K) rfl rfl z7 (Ad (qv 1) (Ad (Eb (v:=.ty "ValueError") rfl yE Yh rfl) Ac))))) (Xm (W8 hu (Ib (Kq:=K) rfl rfl z9 (Ad (by exact(J9 (N':=["_law_mark"]) (idx:=[none]) Dq rfl (Em (Kq:=K) rfl (qv 3)) (λ_ _ _ _ _=>by exact(Ba (i:=0) (by show (["_law_mark"]:v4).Nodup;decide +kernel))) (λ_ _ _ _ _=>by exact(N8 (Gm (qv 0)))) (λ_ _ _ _ _=>by exact(qv 0)))) Ac)) Af))))) (Ai (Aw (Dp (Ad Bv (Ad (Nf Af) (Ad Er Ac)))))) Az)
  (Ai (Aw (Dp (Ad Bv (Ad (Ai1 (Kq:=K) rfl eO PySem.F.slot_list_index PySem.F.type_list_index (A4l rfl hu) (qv 3) (Ad Tj Ac)) (Ad (K3 (Gm (Ax (Kq:=K) rfl (qv 3) Af Av)) (B4p (Kq:=K) rfl (qv 1)) Er) Ac))))))))))) ?_
 exact Dl (Ff (Va (Ds (Az0 Am)) (Hb Am) Gi)
  (Ff (Gb (V7 (Ao (Og rfl aH0 Am) (Ao (Og rfl aC3 Am) (Ao (Og rfl aB9 Am) Cj)))) Ci)
  (Ff (A0e (Bc8 Am (Og rfl aG7 Am)))
  (Ff (Gb (An9 (show Am7 K _ xT0 from (Np aF7 (Np aD2 (Np aH9 (Np aD7 (Np aG4 (Bm5 aD5) rfl) rfl) rfl) rfl) rfl)) Am) Ci)
  (Ff (Va (A1b (Aa6 Am) (A1b (Ad3 (Aa6 (Og rfl aG0 Am))) (Ds (Df (Vy (Ve (by decide) (Ka Am) Ci (Aa6 Am) Am)) (Dh rfl) Aa7)))) (Hb (Pg (Ao (Dh rfl) (Ao (Ms (Dh rfl) Oe) (Ao (Dh rfl) Cj))))) Gi)
  (Hb (Pg (Ao (Dh rfl) (Ao (A7n Am (Dh rfl) A9i Wz) (Ao (Av2 (Aa6 (Df Am (Dh rfl) Dg)) (Bv9 aA5 Am) (Dh rfl)) Cj)))))))))) h
theorem V3 (F:Fun K "_law_condition" "_law_condition" Kr f fd) (a5:yT0 P w K mg base) (a7:yT1 P w K mg base) (z9:mg "len" = none):FnOk P w K mg base CX0 3 f fd [lH, lL] (spP K El):=by
 refine F.ok zM (λ_ _ _ _=>Do) (λcdv A outer s H vs Q E hr h=>?_)
 have hu:=hr.units;have hgd:=hr.gd
 refine Fi (Ae (Bg (i:=2) zM.nd (Ax (Kq:=K) rfl (qv 1) (Be a5 hr (Ad (qv 0) (Ad (Ib (Kq:=K) rfl rfl z9 (Ad (qv 1) Ac)) Ac))) Cz))
  (Ae (Ck (Ex hu (Be a5 hr (Ad (qv 0) (Ad Af Ac))) Af) (Ai (Bg (i:=2) zM.nd (Ax (Kq:=K) rfl (Ea (Ad Bv (Ad Bv (Ad Bv (Ad (Di (qv 2) Bv) Ac))))) (Be a5 hr (Ad (qv 0) (Ad Af Ac))) Cz))) Az)
  (Ae (Bg (i:=3) zM.nd (Ax (Kq:=K) rfl (Ea (Gq (vs:=[.str "is",.str "not",.str "below",.str "above"]) rfl)) (Be a5 hr (Ad (qv 0) (Ad Af Ac))) Cz))
  (Ae (Ck (Ex hu (Be a5 hr (Ad (qv 0) (Ad Af Ac))) Af) (Ai (Bg (i:=3) zM.nd (Ax (Kq:=K) rfl (Ea (Gq (vs:=[.str "like",.str "",.str "IS",.str "sum",.str "rows"]) rfl)) (Be a5 hr (Ad (qv 0) (Ad Af Ac))) Cz))) Az)
  (Ai (Aw (Dp (Ad (qv 2) (Ad (qv 3) (Ad (Be a7 hr (Ad (qv 0) Ac)) Ac)))))))))) ?_
 exact Dl (by unfold G6;walk_at "m") h
theorem X5 (F:Fun K "_law_question" "_law_question" Mm f fd) (a5:yT0 P w K mg base) (l9:Def P w K mg base "_law_condition" 3 [lH, lL] (spP K El)) (z9:mg "len" = none) (zG:mg "range" = none):FnOk P w K mg base CX0 4 f fd [lH, lL] (spP K Ho):=by
 refine F.ok zJ (λ_ _ _ _=>Do) (λcdv A outer s H vs Q E hr h=>?_)
 have hu:=hr.units;have hgd:=hr.gd
 refine Fi (Ae (Bg (i:=2) zJ.nd (Ax (Kq:=K) rfl (Ea (Gq (vs:=[.str "rows",.str "all",.str "first",.str "last",.str "sum",.str "sum",.str "count",.str "least",.str "greatest",.str "unlike"]) rfl)) (Be a5 hr (Ad (qv 0) (Ad Af Ac))) Cz))
  (Ae (by exact(Jq (i:=3) zJ.nd rfl (Or.inl rfl) (N':=["_law_turn", lH, lL]) (idx:=[none,some 0,some 1]) Dq rfl (Hd rfl zG (Ad (Be a5 hr (Ad (qv 0) (Ad Af Ac))) Ac)) (λ_ _ _ _ _=>by exact(Ba (i:=0) (by show (["_law_turn", lH, lL]:v4).Nodup;decide +kernel))) qtN (λ_ _ _ _ _=>by exact(Be l9 hr (Ad (qv 1) (Ad (qv 2) Ac))))))
  (Ae (Ck (Ex hu (qv 2) Bv) (Ai (Aw (Dp (Ad Bv (Ad (qv 3) Ac))))) Az)
  (Ae (Bg (i:=4) zJ.nd (Ax (Kq:=K) rfl (qv 1) (Be a5 hr (Ad (qv 0) (Ad (Ib (Kq:=K) rfl rfl z9 (Ad (qv 1) Ac)) Ac))) Cz))
  (Ae (Ck (Ex hu (Be a5 hr (Ad (qv 0) (Ad Af Ac))) Af) (Ai (Bg (i:=4) zJ.nd (Ax (Kq:=K) rfl (Ea (Ad Bv (Ad Bv (Ad Bv (Ad (Di (qv 4) (qv 4)) Ac))))) (Be a5 hr (Ad (qv 0) (Ad Af Ac))) Cz))) Az)
  (Ae (Ck (Ex hu (Be a5 hr (Ad (qv 0) (Ad Af Ac))) Af) (Ai (Bg (i:=2) zJ.nd (Ax (Kq:=K) rfl (Ea (Gq (vs:=[.str "Sum",.str "mean",.str "",.str "row",.str "is",.str "All",.str "sum "]) rfl)) (Be a5 hr (Ad (qv 0) (Ad Af Ac))) Cz))) Az)
  (Ai (Aw (Dp (Ad (qv 2) (Ad (qv 4) (Ad (qv 3) Ac)))))))))))) ?_
 exact Dl (by unfold Fb;walk_at "m") h
theorem A6o (F:Fun K "_law_due" "_law_due" Aa0 f fd) (zK:mg "list" = none):FnOk P w K mg base CX0 1 f fd [lL, lN] (spP K Ni):=by
 refine F.ok yD (λ_ _ _ _=>Do) (λcdv A outer s H vs Q E hr h=>?_)
 have hu:=hr.units;have hgd:=hr.gd
 refine Fi (Ae (Bg (i:=2) yD.nd (Di (Mt (Kq:=K) rfl rfl zK (Ad (Aj5 (Kq:=K) rfl (qv 1) (Jb Af) (Jb (Nf Af))) Ac)) (by exact(J9 (N':=[lR, lV, lP]) (idx:=[none,none,none]) Dq rfl (Em (Kq:=K) rfl (Ax (Kq:=K) rfl (qv 1) (Nf Af) Mu)) (λ_ _ _ _ _=>by exact(Mh (Kq:=K) rfl (n:=3) rfl (Cv (Ba (i:=0) (by show ([lR, lV, lP]:v4).Nodup;decide +kernel)) (Cv (Ba (i:=1) (by show ([lR, lV, lP]:v4).Nodup;decide +kernel)) (Cv (Ba (i:=2) (by show ([lR, lV, lP]:v4).Nodup;decide +kernel)) Iz))))) qtN (λ_ _ _ _ _=>by exact(qv 0))))))
  (Ae (by exact(Jq (i:=3) yD.nd rfl (Or.inl rfl) (N':=[lR, lL]) (idx:=[none,some 0]) Dq rfl (Em (Kq:=K) rfl (qv 2)) (λ_ _ _ _ _=>by exact(Ba (i:=0) (by show ([lR, lL]:v4).Nodup;decide +kernel))) (λ_ _ _ _ _=>by exact(N8 (Et hu (qv 0) (qv 1) (by with_unfolding_all rfl)))) (λ_ _ _ _ _=>by exact(qv 0))))
  (Ae (Ck (W8 hu (qv 3) (Ea Ac)) (Ai (Aw (Dp (Ad Bv (Ad Af (Ad (Ax (Kq:=K) rfl (qv 3) Af Av) Ac)))))) Az)
  (Ae (Bg (i:=4) yD.nd (Dp (Gq (vs:=[.str "rows",.str "all",.str "first",.str "last",.str "sum",.str "count",.str "least",.str "greatest",.str "unlike"]) rfl)))
  (Ae (by exact(Jq (i:=5) yD.nd rfl (Or.inl rfl) (N':=[lR, lV, lP]) (idx:=[none,none,none]) Dq rfl (Em (Kq:=K) rfl (Ax (Kq:=K) rfl (qv 1) (Nf Af) Mu)) (λ_ _ _ _ _=>by exact(Mh (Kq:=K) rfl (n:=3) rfl (Cv (Ba (i:=0) (by show ([lR, lV, lP]:v4).Nodup;decide +kernel)) (Cv (Ba (i:=1) (by show ([lR, lV, lP]:v4).Nodup;decide +kernel)) (Cv (Ba (i:=2) (by show ([lR, lV, lP]:v4).Nodup;decide +kernel)) Iz))))) (λ_ _ _ _ _=>by exact(N8 (Et hu (qv 1) (Dp (Gq (vs:=[.str "is",.str "not",.str "below",.str "above"]) rfl)) (by with_unfolding_all rfl)))) (λ_ _ _ _ _=>by exact(qv 1))))
  (Ai (Aw (K3 (QW.qt (Y5 (Et hu (Ax (Kq:=K) rfl (qv 1) Af Av) (qv 4) (by with_unfolding_all rfl)) (Xm (W8 hu (qv 5) (Ea Ac))))) (Dp (Ad Bv (Ad Af (Ad Er Ac)))) Er)))))))) ?_
 exact Dl (by unfold Mv;walk_at "m") h
theorem By6 (F:Fun K "law" "law" A8q f fd) {c_ T_:Addr} (hT_:(T_,("law" : Str) ++ ".<locals>." ++ "<lambda>")∈Ef K) (hC_:PySem.W.codeHdIn K c_ T_=true) (hD_:fd.code=.ref c_) (a8:yT5 P w K mg base) (d6:yT6 P w K mg base) (n4:DefX P w K mg base "answer_wide" 8 ["wide", lS] (spX K Dw)) (n9:Def P w K mg base "_law_box" 2 [lM, "_law_k"] (spP K Nk)) (z0:Def P w K mg base "_law_wide" 5 [lH, "_law_numbers"] (spP K Oh)) (h9:Def P w K mg base "_law_same" 8 [lQ, lT] (spP K (Cq 8))) (u4:yT7 P w K mg base) (k4:Def P w K mg base "_law_question" 4 [lH, lL] (spP K Ho)) (aA3:Def P w K mg base "_law_due" 1 [lL, lN] (spP K Ni)) (yM:mg "any" = none) (z7:mg "isinstance" = none) (z9:mg "len" = none) (yN:mg "min" = none) (zG:mg "range" = none) (zH:mg "str" = none):FnOk P w K mg base CX0 12 f fd [lM] (spP K Au0):=by
 obtain⟨fc__law_told,T__law_told,xt__law_told⟩:=u4
 refine F.okL zP (λ_ _ _ _=>Do) (λcdv A outer s H vs Q E hcd_ hr h=>?_)
 have hu:=hr.units;have hgd:=hr.gd
 refine Fi (Ae (Ma PassesOwn.never rfl (Hd rfl zG (Ad (Di Af (Ae7 (Kq:=K) rfl rfl rfl yN (Ad Af (Ad (Ib (Kq:=K) rfl rfl z9 (Ad (qv 0) Ac)) Ac)))) Ac)) (Ba (i:=1) zP.nd) (Ae (Bg (i:=2) zP.nd (Be n9 hr (Ad (qv 0) (Ad (qv 1) Ac))))
  (Ae (Bg (i:=3) zP.nd (Be z0 hr (Ad (qv 2) (Ad Tj Ac))))
  (Ae (Bg (i:=4) zP.nd (Be a8 hr (Ad (qv 3) Ac)))
  (Ai (Ma PassesOwn.never rfl (Hd rfl zG (Ad Af Ac)) (Ba (i:=5) zP.nd) (Ae (Bg (i:=6) zP.nd (Be k4 hr (Ad (qv 2) (Ad (Ax (Kq:=K) rfl (qv 4) Af Av) Ac))))
  (Ae (Bg (i:=7) zP.nd (Be aA3 hr (Ad (Ax (Kq:=K) rfl (qv 4) Af Av) (Ad (qv 6) Ac))))
  (Ae (Bg (i:=8) zP.nd (Bf6 (Kq:=K) rfl (kg:=7) (G:=["_law_table", lN]) (js:=[4,6]) T__law_told hT_ hC_ (hcd_.symm.trans hD_) hr (λ_=>Ak2 _) ⟨Dq,by decide +kernel⟩ (λ_ _ _ _ _ _ _ _ hr=>by exact(A0x U7 d6 hr (Ad (qv 0) (Ad (qv 1) Ac))))))
  (Ae (Bg (i:=9) zP.nd (Bf6 (Kq:=K) rfl (kg:=8) (G:=[lU, lN]) (js:=[3,6]) T__law_told hT_ hC_ (hcd_.symm.trans hD_) hr (λ_=>Ak2 _) ⟨Dq,by decide +kernel⟩ (λ_ _ _ _ _ _ _ _ hr=>by exact(A0x U7 n4 hr (Ad (qv 0) (Ad (qv 1) Ac))))))
  (Ae (Ck (QW.qt (Xv (P0 (qv 7) Er) (Ul (Aw3 (Gm (Be h9 hr (Ad (Ea (Ad (qv 8) (Ad (qv 9) Ac))) (Ad (Ea (Ad (qv 7) (Ad (qv 7) Ac))) Ac)))))))) (Ai (Aw Tj)) Az)
  (Ae (Bg (i:=10) zP.nd (Xi hu (qv 8) (Dp (Ad Bv (Ad Af (Ad Er Ac))))))
  (Ae (Ck (QW.qt (Xv (Kw (qv 7) Er) (Ul (QW.qt (Y5 (Aw3 (Gm (Be h9 hr (Ad (qv 9) (Ad (qv 8) Ac))))) (Xm (QW.qt (Xv (Gm (qv 10)) (Ul (W8 hu (Ax (Kq:=K) rfl (qv 6) Af Av) Bv)))))))))) (Ai (Aw Tj)) Az)
  (Ai (Ck (QW.qt (Xv (Kw (qv 7) Er) (Xv (Ex hu (Ax (Kq:=K) rfl (qv 6) Af Av) Bv) (Ul (Ex hu (Ax (Kq:=K) rfl (qv 6) Af Av) (Ea Ac)))))) (Ae (by exact(Jq (i:=11) zP.nd rfl (Or.inl rfl) (N':=["_law_row", lN, "_law_table"]) (idx:=[none,some 6,some 4]) Dq rfl (Em (Kq:=K) rfl (Ax (Kq:=K) rfl (qv 4) Af Av)) (λ_ _ _ _ _=>by exact(Ba (i:=0) (by show (["_law_row", lN, "_law_table"]:v4).Nodup;decide +kernel))) qtN (λ_ _ _ _ _=>by exact(Ax (Kq:=K) rfl (qv 0) (Ai1 (Kq:=K) rfl PySem.F.plainAttrs_tuple PySem.F.slot_tuple_index PySem.F.type_tuple_index (U0 rfl) (Ax (Kq:=K) rfl (qv 2) Af Av) (Ad (Ax (Kq:=K) rfl (qv 1) Af Av) Ac)) Cz))))
  (Ai (Ck (W8 hu (qv 10) (Q7 (Kq:=K) rfl rfl rfl yM (Ad (by exact(J9 (N':=[lP]) (idx:=[none]) Dq rfl (Em (Kq:=K) rfl (qv 11)) (λ_ _ _ _ _=>by exact(Ba (i:=0) (by show ([lP]:v4).Nodup;decide +kernel))) qtN (λ_ _ _ _ _=>by exact(Bw (Kq:=K) rfl rfl z7 (Ad (qv 0) (Ad (Eb (v:=.ty "str") rfl zH Rw rfl) Ac)))))) Ac))) (Ai (Aw Tj)) Az))) Az)))))))))))))))
  (Ai (Aw Tj))) ?_
 exact Dl (Ff (Ao6 (Ad1 (Df (Dh rfl) (Ay1 (Dh rfl) (Vy Am)) Aa4)) Ci (Ff (Gb (Gy (Ao Am (Ao Am Cj))) Ci)
  (Ff (Gb (Gy (Ao Am (Ao (Dh rfl) Cj))) Ci)
  (Ff (Gb (Gy (Ao Am Cj)) Ci)
  (Ao6 (Ad1 (Dh rfl)) Ci (Ff (Gb (Gy (Ao Am (Ao (Df Am (Dh rfl) Dg) Cj))) Ci)
  (Ff (Gb (Gy (Ao (Df Am (Dh rfl) Dg) (Ao Am Cj))) Ci)
  (Ff (Gb (Au2 xt__law_told (show MA K (tNs [4,6]) _ from (Ao Am (Ao Am Cj)))) Ci)
  (Ff (Gb (Au2 xt__law_told (show MA K (tNs [3,6]) _ from (Ao Am (Ao Am Cj)))) Ci)
  (Ff (Va (Sd (Ds (Df Am (Dh rfl) An6)) (Ad3 (Aa6 (Gy (Ao (V7 (Ao Am (Ao Am Cj))) (Ao (V7 (Ao Am (Ao Am Cj))) Cj)))))) (Hb (Dh rfl)) Gi)
  (Ff (Gb (Df Am (Pg (Ao (Dh rfl) (Ao (Dh rfl) (Ao (Dh rfl) Cj)))) S8) Ci)
  (Ff (Va (Sd (Ds (Df Am (Dh rfl) Z5)) (A1b (Ad3 (Aa6 (Gy (Ao Am (Ao Am Cj))))) (Sd (Aa6 Am) (Ds (Df (Df Am (Dh rfl) Dg) (Dh rfl) Aa7))))) (Hb (Dh rfl)) Gi)
  (Va (Sd (Ds (Df Am (Dh rfl) Z5)) (Sd (Ds (Df (Df Am (Dh rfl) Dg) (Dh rfl) S8)) (Ds (Df (Df Am (Dh rfl) Dg) (V7 Cj) S8)))) (Ff (Gb (Ve (by decide) (Ka (Df Am (Dh rfl) Dg)) Ci O9 (Df Am (A7n (Df Am (Dh rfl) Dg) (Df Am (Dh rfl) Dg) Ba2 Yw) Dg)) Ci)
  (Va (Ds (Df Am (M3 (Ve (by decide) (Ka Am) Ci O9 (Au7 .str Am)) Ac6) Aa7)) (Hb (Dh rfl)) Gi)) Gi)))))))))))))
  (Hb (Dh rfl))) h
end
theorem lnS {us:w6}(h:us.length=n+1):∃x r,us=x::r/\r.length=n:=by
 cases us with
 | nil=>grind
 | cons x r=>grind
theorem ln1 {us:w6}(h:us.length=1):∃x0,us=[x0]:=by
 obtain⟨x,r,a,b⟩:=lnS h
 simp_all
theorem ln2 {us:w6}(h:us.length=2):∃c b,us=[c,b]:=by
 obtain⟨c,r,a,d⟩:=lnS h;obtain⟨b,a⟩:=ln1 d
 grind
theorem ln3 {us:w6}(h:us.length=3):∃c d b,us=[c,d,b]:=by
 obtain⟨c,r,a,e⟩:=lnS h;obtain⟨d,b,a⟩:=ln2 e
 grind
theorem ln4 {us:w6}(h:us.length=4):∃c d e b,us=[c,d,e,b]:=by
 obtain⟨c,r,a,f⟩:=lnS h;obtain⟨d,e,b,a⟩:=ln3 f
 grind
theorem _root_.bi {st:Stmt}(F:L2.Fun K x qual st f d)(ps:v4)(h:∀(i b e:Value) (g:Option Addr) (a c:Value) (us:w6),us.length=ps.length->bindArgs (PySem.W.fnOf x qual (J7 st) (Dr st) (Aj st) .none i b e g a c) ⟨us,[]⟩=pure (ps.zip us):=by intro _ _ _ _ _ _ us hl;first | (obtain⟨_,rfl⟩:=ln1 hl;rfl) | (obtain⟨_,_,rfl⟩:=ln2 hl;rfl) | (obtain⟨_,_,_,rfl⟩:=ln3 hl;rfl) | (obtain⟨_,_,_,_,rfl⟩:=ln4 hl;rfl)):L2.Binds K d ps []:=F.binds h
theorem mkD (a:FnOk P w K mg base CX0 k f d ps sp) (b:Binds K d ps []) (c:PySem.W.keepIn K (.ref f)=true) (g:mg x=some (.ref f)):Def P w K mg base x k ps sp:=⟨f,d,a,b,c,g⟩
theorem mkX {P:u6}{w:World}{K:v9}{mg:x_}{base:Heap}{k:Nat}{f:Addr}{fd:u5}{x:Str}{ps:v4}{sp:Sp}(a:FnOk P w K mg base (CXe P w) k f fd ps sp)(b:Binds K fd ps [])(c:PySem.W.keepIn K (.ref f)=true)(g:mg x=some (.ref f)):DefX P w K mg base x k ps sp:=⟨f,fd,a,b,c,g⟩
theorem Ca (T:PyProof.Rows.Top q loose g mg j h) (k:∀a o,h.get? a=some o->Fg o=true->o.data≠.fields #[]->K.lookup a=some o) (l:(PyProof.Rows.recsOf q).map (λd=>(d.name,d.params,d.body,d.scope))=L) {i:Nat} (e:L[i]?=some (x,J7 st,Dr st,Aj st)):∃f fd,Fun K x x st f fd/\mg x=some (.ref f):=by
 obtain⟨d,m,rfl,a,b,c⟩:=Ai7 l e;exact Bp5 T k m a b c
abbrev rr (x:Str)(i:Nat):Str×Arguments×List Stmt×Scope:=(x,J7 (top i),Dr (top i),Aj (top i))
theorem Bw3 {l:PySem.W.OpenLaw}{w:World}{q:u6}{loose:v4}{mean:ExcName->u9}{mg mb:x_}{h:Heap}{fa:Addr}(T:PyProof.Rows.Top q loose mean mg mb h)(hfa:mg "law" = some (.ref fa))
 (hlaw:∀ns:List Int,ns.length<=63->Au0 [.sc ns]=.ret (.im (.bool true)) [.sc ns])
 (hR:(PyProof.Rows.recsOf q).map (λd=>(d.name,d.params,d.body,d.scope))=[rr "rank" 13,rr "stands_ahead" 14,rr "risen" 15,rr "place_of" 17,rr "places_of" 18,rr "column" 19,rr "first_seen" 21,rr "cells_along" 22,rr "unfolded" 23,rr "sum_of" 26,rr "put_together" 27,rr "columns_of" 30,rr "check_words" 31,rr "holds" 32,rr "all_hold" 33,rr "rows_where" 34,rr "check_question" 35,rr "answer" 36,rr "answer_wide" 37,rr "_law_cell_at" 39,rr "_law_box" 40,rr "_law_take" 41,rr "_law_many" 42,rr "_law_names" 43,rr "_law_value" 44,rr "_law_number" 45,rr "_law_pool" 46,rr "_law_tuples" 47,rr "_law_wide" 48,rr "_law_same" 49,rr "_law_told" 50,rr "_law_condition" 51,rr "_law_question" 52,rr "_law_due" 53,rr "law" 54])
 (hB:(["ValueError", "abs", "all", "any", "bool", "enumerate", "int", "isinstance", "len", "list", "max", "min", "range", "set", "sorted", "str", "sum", "tuple", "zip"]:v4).all (A7u q loose [("rank" : Str),("stands_ahead" : Str),("risen" : Str),("place_of" : Str),("places_of" : Str),("column" : Str),("first_seen" : Str),("cells_along" : Str),("unfolded" : Str),("sum_of" : Str),("put_together" : Str),("columns_of" : Str),("check_words" : Str),("holds" : Str),("all_hold" : Str),("rows_where" : Str),("check_question" : Str),("answer" : Str),("answer_wide" : Str),("_law_cell_at" : Str),("_law_box" : Str),("_law_take" : Str),("_law_many" : Str),("_law_names" : Str),("_law_value" : Str),("_law_number" : Str),("_law_pool" : Str),("_law_tuples" : Str),("_law_wide" : Str),("_law_same" : Str),("_law_told" : Str),("_law_condition" : Str),("_law_question" : Str),("_law_due" : Str),("law" : Str)])=true)
 (hX:A3m tcT mg h)
 (hF:A3r xcR xcT xcV xcF h)
 (hI:A2a xcJ xcY h) :
 ∃(K:v9) (fd:u5),K.In h/\TabAt K h/\(∀(s:u_) (v:Value),BindsTo s fd ⟨[v],[]⟩ [("_law_script",v)])/\∀base:Heap,K.In base->base.Ns mainGlobals mg->FnOk l.prog w K mg base CX0 12 fa fd [lM] (A1h K):=by
 obtain⟨d35,m35,n35,p35⟩:=Ai7 hR (i:=34) rfl;obtain⟨xH,T_law,hd_law,ht_law,hc_law⟩:=Bm4 T m35
 obtain⟨kin,tab,hcd,hK⟩:=B5i (h:=h) (tabs:=[(xH,T_law,(("law" : Str) ++ ".<locals>." ++ "<lambda>"))]) (λt m=>by cases aJ.mp m;exact⟨hd_law,ht_law⟩) (λt m=>by cases aJ.mp m;simp)
 obtain⟨lc_law,lt_law⟩:=hcd _ (List.mem_singleton.mpr rfl)
 generalize Qc h [(xH,T_law,(("law" : Str) ++ ".<locals>." ++ "<lambda>"))]=K at *
 obtain⟨f1,fd1,F1,g1⟩:=Ca T hK hR (st:=Ac4) (i:=0) rfl;have b1:=bi F1 ["value"];obtain⟨f2,fd2,F2,g2⟩:=Ca T hK hR (st:=Ji) (i:=1) rfl;have b2:=bi F2 ["one", "other"];obtain⟨f3,fd3,F3,g3⟩:=Ca T hK hR (st:=Af5) (i:=2) rfl;have b3:=bi F3 ["values"];obtain⟨f4,fd4,F4,g4⟩:=Ca T hK hR (st:=Pr) (i:=3) rfl;have b4:=bi F4 ["table", "name"];obtain⟨f5,fd5,F5,g5⟩:=Ca T hK hR (st:=M7) (i:=4) rfl;have b5:=bi F5 ["table", "names"];obtain⟨f6,fd6,F6,g6⟩:=Ca T hK hR (st:=U4) (i:=5) rfl;have b6:=bi F6 ["table", "name"];obtain⟨f7,fd7,F7,g7⟩:=Ca T hK hR (st:=Lw) (i:=6) rfl;have b7:=bi F7 ["things"];obtain⟨f8,fd8,F8,g8⟩:=Ca T hK hR (st:=Kp) (i:=7) rfl;have b8:=bi F8 ["wide"];obtain⟨f9,fd9,F9,g9⟩:=Ca T hK hR (st:=O6) (i:=8) rfl;have b9:=bi F9 ["wide"];obtain⟨f10,fd10,F10,g10⟩:=Ca T hK hR (st:=Xc) (i:=9) rfl;have b10:=bi F10 ["numbers"];obtain⟨f11,fd11,F11,g11⟩:=Ca T hK hR (st:=Jt) (i:=10) rfl;have b11:=bi F11 ["some", "way"];obtain⟨f12,fd12,F12,g12⟩:=Ca T hK hR (st:=Lj) (i:=11) rfl;have b12:=bi F12 [lK];obtain⟨f13,fd13,F13,g13⟩:=Ca T hK hR (st:=Ko) (i:=12) rfl;have b13:=bi F13 [lK];obtain⟨f14,fd14,F14,g14⟩:=Ca T hK hR (st:=Ac8) (i:=13) rfl;have b14:=bi F14 ["value", "word", "told"];obtain⟨f15,fd15,F15,g15⟩:=Ca T hK hR (st:=Pu) (i:=14) rfl;have b15:=bi F15 ["row", "places", lK];obtain⟨f16,fd16,F16,g16⟩:=Ca T hK hR (st:=Mf) (i:=15) rfl;have b16:=bi F16 ["table", lK];obtain⟨f17,fd17,F17,g17⟩:=Ca T hK hR (st:=Hk) (i:=16) rfl;have b17:=bi F17 ["table", lS];obtain⟨f18,fd18,F18,g18⟩:=Ca T hK hR (st:=Vi) (i:=17) rfl;have b18:=bi F18 ["table", lS];obtain⟨f19,fd19,F19,g19⟩:=Ca T hK hR (st:=Ku) (i:=18) rfl;have b19:=bi F19 ["wide", lS];obtain⟨f20,fd20,F20,g20⟩:=Ca T hK hR (st:=Mz) (i:=19) rfl;have b20:=bi F20 [lM, "_law_k"];obtain⟨f21,fd21,F21,g21⟩:=Ca T hK hR (st:=Ab9) (i:=20) rfl;have b21:=bi F21 [lM, "_law_k"];obtain⟨f22,fd22,F22,g22⟩:=Ca T hK hR (st:=Ww) (i:=21) rfl;have b22:=bi F22 [lH, lJ];obtain⟨f23,fd23,F23,g23⟩:=Ca T hK hR (st:=Xj) (i:=22) rfl;have b23:=bi F23 [lH, "_law_least", "_law_few", "_law_most"];obtain⟨f24,fd24,F24,g24⟩:=Ca T hK hR (st:=S6) (i:=23) rfl;have b24:=bi F24 [lH, lJ];obtain⟨f25,fd25,F25,g25⟩:=Ca T hK hR (st:=Sv) (i:=24) rfl;have b25:=bi F25 [lH];obtain⟨f26,fd26,F26,g26⟩:=Ca T hK hR (st:=Pb) (i:=25) rfl;have b26:=bi F26 [lH];obtain⟨f27,fd27,F27,g27⟩:=Ca T hK hR (st:=Wx) (i:=26) rfl;have b27:=bi F27 [lH, lJ];obtain⟨f28,fd28,F28,g28⟩:=Ca T hK hR (st:=Qa) (i:=27) rfl;have b28:=bi F28 [lH, lU, lJ];obtain⟨f29,fd29,F29,g29⟩:=Ca T hK hR (st:=Wg) (i:=28) rfl;have b29:=bi F29 [lH, "_law_numbers"];obtain⟨f30,fd30,F30,g30⟩:=Ca T hK hR (st:=Qq) (i:=29) rfl;have b30:=bi F30 [lQ, lT];obtain⟨f31,fd31,F31,g31⟩:=Ca T hK hR (st:=Wt) (i:=30) rfl;have b31:=bi F31 ["_law_call"];obtain⟨f32,fd32,F32,g32⟩:=Ca T hK hR (st:=Kr) (i:=31) rfl;have b32:=bi F32 [lH, lL];obtain⟨f33,fd33,F33,g33⟩:=Ca T hK hR (st:=Mm) (i:=32) rfl;have b33:=bi F33 [lH, lL];obtain⟨f34,fd34,F34,g34⟩:=Ca T hK hR (st:=Aa0) (i:=33) rfl;have b34:=bi F34 [lL, lN];obtain⟨f35,fd35,F35,g35⟩:=Ca T hK hR (st:=A8q) (i:=34) rfl;have b35:=bi F35 [lM]
 have ld_law:fd35.code=.ref xH:=A9n F35 kin (by have z:d35.name = "law" := n35;rw[<- z];exact hc_law) g35
 have yE:=Dc (x := "ValueError") T (Cg hR) hB (by simp)
 have yV:=Dc (x := "abs") T (Cg hR) hB (by simp)
 have yC:=Dc (x := "all") T (Cg hR) hB (by simp)
 have yM:=Dc (x := "any") T (Cg hR) hB (by simp)
 have zY:=Dc (x := "bool") T (Cg hR) hB (by simp)
 have yJ:=Dc (x := "enumerate") T (Cg hR) hB (by simp)
 have zN:=Dc (x := "int") T (Cg hR) hB (by simp)
 have z7:=Dc (x := "isinstance") T (Cg hR) hB (by simp)
 have z9:=Dc (x := "len") T (Cg hR) hB (by simp)
 have zK:=Dc (x := "list") T (Cg hR) hB (by simp)
 have xF:=Dc (x := "max") T (Cg hR) hB (by simp)
 have yN:=Dc (x := "min") T (Cg hR) hB (by simp)
 have zG:=Dc (x := "range") T (Cg hR) hB (by simp)
 have xG:=Dc (x := "set") T (Cg hR) hB (by simp)
 have yQ:=Dc (x := "sorted") T (Cg hR) hB (by simp)
 have zH:=Dc (x := "str") T (Cg hR) hB (by simp)
 have yZ:=Dc (x := "sum") T (Cg hR) hB (by simp)
 have z8:=Dc (x := "tuple") T (Cg hR) hB (by simp)
 have zW:=Dc (x := "zip") T (Cg hR) hB (by simp)
 have zT:=Ay4 hX hK (i:=0) (y := "CONDITION_WORDS") (ss:=[Str.ofString "is",Str.ofString "not",Str.ofString "below",Str.ofString "above"]) rfl;have yX:=Ay4 hX hK (i:=1) (y := "WAYS") (ss:=[Str.ofString "first",Str.ofString "last",Str.ofString "sum",Str.ofString "count",Str.ofString "least",Str.ofString "greatest",Str.ofString "unlike"]) rfl;obtain⟨qR,qT,y0,qF⟩:=Bm6 hF kin T.g hK;have c9:ClR K mg "BadWay" := qR 1 _ rfl;have j6:ClR K mg "NoNumber" := qR 0 _ rfl;have u7:ClT K mg xT0 "BadColumns" := qT 0 _ rfl;have k6:ClT K mg xT0 "BadOrder" := qT 1 _ rfl;have l7:ClT K mg xT0 "BadRow" := qT 2 _ rfl;have w4:ClT K mg xT1 "BadWay" := qT 3 _ rfl;have w9:ClT K mg xT0 "Double" := qT 4 _ rfl;have x8:ClT K mg xT2 "NoColumn" := qT 5 _ rfl;have v0:ClT K mg xT0 "NoHead" := qT 6 _ rfl;have p0:ClT K mg xT3 "NoNumber" := qT 7 _ rfl;have y7:ClT K mg xT0 "NoPart" := qT 8 _ rfl;have l8:ClT K mg xT0 "NoRow" := qT 9 _ rfl;obtain⟨qJ,qY⟩:=Bj7 hI kin T.g hK
 have i_NoColumn:ClI K mg ⟨"NoColumn.__init__", "FoldError", "name", "name", "no column ", ""⟩ "NoColumn" := qJ 0 _ rfl (A0m λ_ _ _ _ _ _ _ _ _ _ _ _ _ _ _ _ _ _ _=>rfl)
 have m3:ClF K mg ["NoColumn", "NoNumber", "BadWay"] "FoldError" := let ⟨g,a,b,_⟩:=qY 0 _ rfl; ⟨g,a,b⟩
 have e:=hfa.symm.trans g35
 cases e
 refine⟨K,fd35,kin,tab,A5m F35 (λkV dc pm an cd ct s v=>.of_eq rfl),λbase _ _=>?_⟩
 have M:∀{k f fd x ps sp},FnOk l.prog w K mg base CX0 k f fd ps sp->Binds K fd ps []->PySem.W.keepIn K (.ref f)=true->mg x=some (.ref f)->Def l.prog w K mg base x k ps sp:=mkD;have a6:Def l.prog w K mg base "rank" 2 ["value"] (spP K (Cw 2)):=mkD (Ao2 F1 b1 g1 zN z7 zH z8 2) b1 F1.kp g1;have i5:=M (T6 F2 a6) b2 F2.kp g2;have k8:=M (Bc2 F3 a6 yQ) b3 F3.kp g3;have c8:=mkX (An2 (P:=l.prog) (w:=w) (mg:=mg) (base:=base) F4 i_NoColumn) b4 F4.kp g4;have g0:=mkX (Aa8 (P:=l.prog) (w:=w) (mg:=mg) (base:=base) F5 c8) b5 F5.kp g5;have aA0:=mkX (A2x (P:=l.prog) (w:=w) (mg:=mg) (base:=base) F6 c8) b6 F6.kp g6;have l0:=M (Yg F7 z8) b7 F7.kp g7;have u8:=M (Vs F8 zW) b8 F8.kp g8;have a8:=M (Al6 F9 u8 z8) b9 F9.kp g9;have o3:=mkX (A4h (P:=l.prog) (w:=w) (mg:=mg) (base:=base) F10 yM z7 zH yZ j6) b10 F10.kp g10;have x9:=mkX (T8 (P:=l.prog) (w:=w) (mg:=mg) (base:=base) F11 a6 o3 z9 xF yN xG) b11 F11.kp g11;have a9:=M (X7 F12 ) b12 F12.kp g12;have z5:=mkX (Vq (P:=l.prog) (w:=w) (mg:=mg) (base:=base) F13 zT c9) b13 F13.kp g13;have y9:=M (A9c F14 i5) b14 F14.kp g14;have j7:=M (Am6 F15 y9 yC zW) b15 F15.kp g15;have j9:=mkX (Yl (P:=l.prog) (w:=w) (mg:=mg) (base:=base) F16 g0 a9 z5 j7 yJ) b16 F16.kp g16;have x6:=mkX (Q4 (P:=l.prog) (w:=w) (mg:=mg) (base:=base) F17 g0 a9 z9 zK yX c9) b17 F17.kp g17;have d6:=mkX (A3h (P:=l.prog) (w:=w) (mg:=mg) (base:=base) F18 k8 aA0 l0 x9 j9 x6 z9) b18 F18.kp g18;have n4:=mkX (U3 (P:=l.prog) (w:=w) (mg:=mg) (base:=base) F19 a8 d6) b19 F19.kp g19;have k7:=M (Ae6 F20 z9) b20 F20.kp g20;have n9:=M (A6e F21 k7 yV zN) b21 F21.kp g21;have a5:=M (A4w F22 ) b22 F22.kp g22;have i9:=M (A3d F23 a5) b23 F23.kp g23;have aA1:=M (Aq1 F24 a5 z9 zG) b24 F24.kp g24;have a7:=M (At3 F25 a5) b25 F25.kp g25;have n5:=M (Ah7 F26 a5) b26 F26.kp g26;have l6:=M (A4n F27 a7 zG) b27 F27.kp g27;have j0:=M (An8 F28 a5 l6 z9 zG z8) b28 F28.kp g28;have z0:=M (A2b F29 a5 i9 aA1 a7 n5 j0 z8) b29 F29.kp g29;have h9:Def l.prog w K mg base "_law_same" 8 [lQ, lT] (spP K (Cq 8)):=mkD (Xu F30 b30 g30 yC zY zN z7 z9 zK zH z8 zW 8) b30 F30.kp g30;have u4:=A4k (P:=l.prog) (w:=w) (mg:=mg) (base:=base) F31 b31 g31 yE z7 z9 u7 k6 l7 w4 w9 x8 v0 p0 y7 l8 y0 i_NoColumn m3;have l9:=M (V3 F32 a5 a7 z9) b32 F32.kp g32;have k4:=M (X5 F33 a5 l9 z9 zG) b33 F33.kp g33;have aA3:=M (A6o F34 zK) b34 F34.kp g34
 exact(By6 F35 lt_law lc_law ld_law a8 d6 n4 n9 z0 h9 u4 k4 aA3 yM z7 z9 yN zG zH).imp λvs H Q E h=>B0x hlaw h
theorem walk {l:PySem.W.OpenLaw}{q:u6}{loose:v4}{XP:(x_)->Heap->Prop}{YP:World->Heap->Prop}{d:DefRec}(hn:l.most=some 63)(hdf:d.params.defaults=[])
 (F:∀(w:World) (mean:ExcName->u9) (mg mb:x_) (fa:Addr) (h:Heap),PyProof.Rows.Top q (PySem.W.looseW q loose) mean mg mb h->XP mg h->mg d.name=some (.ref fa) ->
  ∃(K:v9) (fd:u5),K.In h/\TabAt K h/\(∀(s:u_) (u:Value),BindsTo s fd ⟨[u],[]⟩ [("_law_script",u)])/\∀base:Heap,K.In base->base.Ns mainGlobals mg->FnOk l.prog w K mg base CX0 12 fa fd [lM] (A1h K)) :
 PySem.W.WalkO q loose XP YP l.row.toRowW d [] (λf vs=>PySem.call f vs) :=
 L2.walk_ofX (n:=63) (k:=12) (x := "_law_script") (sp:=A1h) hn (by decide) hdf ⟨rfl,by decide,by decide,rfl⟩ F λ_ _ a ns hl hS=>⟨a,ns,rfl,hS,hl,λ_=>rfl⟩
end K
open PySem PySem.W PyProof.Rows
set_option maxHeartbeats 0
namespace K
noncomputable def dOf:Stmt->DefRec
 | .FunctionDef _ a b _ _ _ s _ _ p=>⟨"law",a,b,s,p⟩
 | _=>⟨"law",⟨[],[],none,[],[],none,[]⟩,[],default,default⟩
def dL:DefRec:=⟨"law",(dOf (top 54)).params,(dOf (top 54)).body,(dOf (top 54)).scope,(dOf (top 54)).pos⟩
theorem B5a:rwT.wellSaid=true:=by kernel_rfl
theorem B6y:defOf qT rwT.row.name=some (dL,[]):=by kernel_rfl
theorem B6v:rwT.row.prog.theDef rwT.row.name=some (dL.params,dL.body,dL.scope):=by trivial
theorem kwT:kwWritten? dL.params.kwonlyargs dL.params.kw_defaults=some []:=by trivial
theorem okT:(chainsOk qT&&opensWell rwT.row.prog&&(frees rwT.row.toRowW&&rwT.row.within.isEmpty))=true:=by trivial
theorem dfT:dL.params.defaults=[]:=by rfl
theorem B6c:rwT.row.prog.bare:=⟨rfl,rfl,rfl,rfl,rfl,by decide +kernel⟩
theorem B4q:rwT.row.toRowW.promised:=by w_witness2
end K
theorem PySem.Challenge.cw_pivotfold_k47_questions_refused_holds : PySem.Challenge.rw_pivotfold_k47_questions_refused.Holds := by
 refine holds_law K.B5a λsaid=>?_
 refine holds_open (q:=K.qT) (loose:=["CONDITION_WORDS", "WAYS"]) (Xt:=K.xtT) (XP:=(λmg h=>L2.A3m K.tcT mg h/\L2.A3r K.xcR K.xcT K.xcV K.xcF h/\L2.A2a K.xcJ K.xcY h)) (Yf:=Hook.none.obs) (Ya:=Hook.none.val) (YP:=Hook.none.says) (N:=20000) K.B5g Hook.none.of Hook.none.keeps (λs e=>⟨L2.B6g (au.mp (au.mp (au.mp e).1).1).2,L2.B3r (au.mp (au.mp e).1).2,L2.B6h (au.mp e).2⟩) (λmg h h' x hk=>⟨L2.A8i mg h h' x.1 hk,L2.A5o x.2.1 hk,L2.Bc7 x.2.2 hk⟩) K.B6y K.B6v K.kwT (λs e=>recFacts_of (au.mp (au.mp (au.mp (au.mp e).1).1).1).2) rfl said K.okT K.B6c K.B4q ?_
 refine K.walk (l:=PySem.Challenge.rw_pivotfold_k47_questions_refused) rfl K.dfT ?F
 case F =>
  intro w mean mg mb fa h T X hmg
  refine K.Bw3 T hmg K.Bb0 ?R ?B X.1 X.2.1 X.2.2
  (case R=>kernel_rfl); (case B=>kernel_rfl)
end
