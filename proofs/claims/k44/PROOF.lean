import PyProof.Rows.All
import PyProof.FactsAll.NoneType_1
import Wide.All
import OpenK.AllK
import Wide.FinOn
import Lean
import PyProof.EqAt
import PyProof.EqKinds
import PyProof.TupleCall
import PyProof.StrWalks
import PyProof.StrLawsRepr
import PyProof.ListMulRoad
import PyProof.StrOps2
import PyProof.CallStr
import PyProof.CollectStr
import PyProof.TupleOfSeq
import PyProof.DictTable
import KE.KSortTup
import PyProof.MeetsStr
import PyProof.FactsAll.str_5
import PyProof.StrBlockG
import PyProof.AttrMiss
import PyProof.FactsAll.zip_1
import KE.KDictOf
import PyProof.AttrMissHeap
import KE.KTryMore
import KE.KRevIter
import PyProof.ListRange
import PyProof.FactsAll.dict_3
import PyProof.MeetsDict
import PyProof.FactsAll.dict_keyiterator
import PyProof.DictItems
import PyProof.DictValues
import KE.KPairComp
import PyProof.TupleOfStr
import PyProof.TupleOfGen
import PyProof.DictWalks
import PySem.SetOps
import PyProof.ExcInit
import PyProof.InstStore
import PyProof.StrCalls
import PySem.Challenge.RW_pivotfold_k44_conditions_refused
set_option genInjectivity false
set_option genSizeOf false
set_option Elab.async false
set_option linter.all false
set_option maxRecDepth 100000
noncomputable section
namespace L2
open PySem PySem.Spec PyProof.Rows PySem.W
abbrev bmV:List Value:=[.type "ValueError",.type "Exception",.type "BaseException",.type "object"]
def Y4 (K:PySem.W.Frag)(C:Addr):Bool:=match K.lookup C with
 | some ⟨.type "type",_,.cls cd,sl⟩=>cd.hasDict&&!cd.hasDel&&(match cd.mro with
  | .ref A::bm=>A==C&&tailIn K bmV bm
  | _=>false)&&(match sl.toList with
  | [_,_,_,_,some (.builtin n),_]=>n == "ValueError.__new__"
  | _=>false)
 | _=>false
def Rv:List Str->List Value->Bool
 | [],[]=>true
 | s::ss,.str z _::us=>s==z&&Rv ss us
 | _,_=>false
def A0u (h:Heap)(q:Str×List Str):Bool:=match h.nsMap mainGlobals q.1 with
 | some (.ref a)=>match h.get? a with
  | some o=>match o.cls,o.data with
   | .type c,.seq its _=>c == "tuple" && decide (its.size<=sizeLine)&&Rv q.2 its.toList
   | _,_=>false
  | none=>false
 | _=>false
def xcB (K:Frag)(C:Addr):Bool:=Y4 K C&&(findIn K (.ref C) "__getattribute__" == some (some (.builtin "BaseException.__getattribute__"))&&(findIn K (.ref C) "__getattr__" == some none&&findIn K (.ref C) "__class__" == some (some (.builtin "object.__class__"))))
def clB (K:Frag)(x:Str)(p:Addr->Bool):Bool:=match nsIn K mainGlobals x with
 | some (some (.ref C))=>p C
 | _=>false
def tbB (K:Frag)(z:Value)(tbl:List (Str×Bool)):Bool:=tbl.all fun p=>clB K p.1 fun C=>xcB K C&&kitOne K (.ref C) z==some p.2
def exB (K:Frag)(F:Addr)(NS:List Str):Bool:=NS.all fun x=>clB K x fun C=>exmOne K (.ref C) (.ref F)==some true
def Bc3 (o:Obj):Bool:=match o.data with
 | .cls _=>true
 | .dict _ _=>true
 | _=>false
def A6h (l:List Nat)(h:Heap):Frag:=l.filterMap fun a=>((h.get? a).bind fun o=>if Bc3 o=true then some o else none).map fun o=>(a,o)
def cfB (R:List Str)(T:List (Str×List (Str×Bool)))(V:List (Str×Bool))(F:List Str)(K:Frag):Bool :=
 (R.all fun x=>clB K x fun C=>excIn K C bmV "ValueError.__new__")&&((T.all fun q=>clB K q.1 fun C=>tbB K (.ref C) q.2)&&(tbB K (.type "ValueError") V&&F.all fun x=>clB K x fun C=>exB K C R))
def isNm (x:Str):Expr->Bool
 | .Name y _=>y==x
 | _=>false
def isAt (x f:Str):Expr->Bool
 | .Attribute e g _=>isNm x e&&g==f
 | _=>false
def A4j (x:Str):Expr->Bool
 | .Constant c _ _=>c==.str x
 | _=>false
def A7w (x:Str):Expr->Bool
 | .FormattedValue e c none _=>isNm x e&&c==114
 | _=>false
def A1p (x y z:Str):Expr->Bool
 | .JoinedStr [a,b] _=>A4j y a&&A7w x b
 | .JoinedStr [a,b,c] _=>A4j y a&&A7w x b&&A4j z c
 | _=>false
def stE:Stmt->Option (Expr×List Expr)
 | .Expr (.Call (.Attribute g m q) as [] p) _=>if (m == "__init__" && q.endLine==p.line)=true then some (g,as) else none
 | _=>none
def stA:Stmt->Option (Expr×Expr)
 | .Assign [g] v _=>some (g,v)
 | _=>none
def Bl3 (F p f y z:Str):List Stmt->Bool
 | [s,u]=>(match stE s with
  | some (g,[a,j])=>isNm F g&&(isNm "self" a&&A1p p y z j)
  | _=>false)&&(match stA u with
  | some (g,v)=>isAt "self" f g&&isNm p v
  | _=>false)
 | _=>false
def Bk3 (p:Str):Arguments->Bool
 | ⟨[],[a,b],none,[],[],none,[]⟩=>a.arg == "self" && b.arg==p
 | _=>false
structure Iz where
 q:Str
 F:Str
 p:Str
 f:Str
 y:Str
 z:Str
def Bt6 (D:Iz)(sc:Scope):Bool:=decide (sc.kind=.function)&&(!sc.isCoroutine&&(!sc.isGenerator&&(sc.names.lookup ("self" : Str)==some .local&&(sc.names.lookup D.p==some .local&&(sc.names.lookup D.F==some .globalImplicit&&sc.names.all fun y=>y.2 != .free)))))
def fnB (K:Frag)(D:Iz)(fd:FuncData):Bool:=fd.qualname==D.q&&(fd.globals==mainGlobals&&(fd.closure.isEmpty&&(fd.builtins==builtinsNs&&(fd.defaults==.none&&(codeIn K fd.code D.q&&(Bk3 D.p fd.params&&(Bt6 D fd.scope&&(match fd.body with
 | .stmts b=>Bl3 D.F D.p D.f D.y D.z b
 | _=>false))))))))
def V8 (K:Frag)(D:Iz)(a:Addr):Bool:=match K.lookup a with
 | some ⟨.type "function",_,.func fd,_⟩=>fnB K D fd
 | _=>false
def Ah6 (D:Iz):Bool:=decide (D.y.length<=1000)&&(decide (D.z.length<=1000)&&(D.p != "self" && ((D.p==("__debug__" : Str))==false&&((D.p==("__classdict__" : Str))==false&&(D.F==("__debug__" : Str))==false))))
def ikB (K:Frag)(C F:Addr)(f:Str):Bool:=Y4 K C&&(findIn K (.ref C) "__setattr__" == some (some (.builtin "object.__setattr__"))&&(findIn K (.ref C) f==some none&&(typeIn K (.ref F)==some (.type "type")&&(nsIn K cStatics "thirdparty.any" == some none&&findIn K (.ref F) "__init__" == some (some (.builtin "ValueError.__init__"))))))
def ciB (K:Frag)(x:Str)(D:Iz):Bool:=Ah6 D&&clB K x fun C=>clB K D.F fun F=>xcB K C&&ikB K C F D.f&&(match findIn K (.ref C) "__init__" with
 | some (some (.ref a))=>V8 K D a
 | _=>false)
def exN (K:Frag)(F:Addr)(NS:List Str):Bool:=NS.all fun x=>clB K x fun C=>exmOne K (.ref C) (.ref F)==some false
def Bl2 (o:Obj):Bool:=match o.data with
 | .cell _=>false
 | .fields vs=>vs.size != 0
 | _=>true
def A8g (l:List Nat)(h:Heap):Frag:=l.filterMap fun a=>((h.get? a).bind fun o=>if Bl2 o=true then some o else none).map fun o=>(a,o)
def ciA (J:List (Str×Iz))(Y:List (Str×List Str×List Str))(K:Frag):Bool:=(J.all fun q=>ciB K q.1 q.2)&&Y.all fun q=>clB K q.1 fun F=>exB K F q.2.1&&exN K F q.2.2
end L2
namespace K
open PySem PySem.W PyProof.Rows
def tcT:List (Str×List Str):=[("CONDITION_WORDS",[Str.ofString "is",Str.ofString "not",Str.ofString "below",Str.ofString "above"])]
def xcR:List Str:=["BadWay"]
def xcT:List (Str×List (Str×Bool)):=[("BadColumns",[("NoColumn",false),("BadWay",false)]),("BadOrder",[("NoColumn",false),("BadWay",false)]),("BadRow",[("NoColumn",false),("BadWay",false)]),("BadWay",[("NoColumn",false),("BadWay",true)]),("Double",[("NoColumn",false),("BadWay",false)]),("NoColumn",[("NoColumn",true),("BadWay",false)]),("NoHead",[("NoColumn",false),("BadWay",false)]),("NoNumber",[("NoColumn",false),("BadWay",false)]),("NoPart",[("NoColumn",false),("BadWay",false)]),("NoRow",[("NoColumn",false),("BadWay",false)])]
def xcV:List (Str×Bool):=[("NoColumn",true),("BadWay",true)]
def xcF:List Str:=[]
def xcJ:List (Str×L2.Iz):=[("NoColumn",⟨"NoColumn.__init__", "FoldError", "name", "name", "no column ", ""⟩)]
def xcY:List (Str×List Str×List Str):=[("FoldError",["NoColumn", "BadWay"],[])]
abbrev pwT:=PySem.Challenge.pw_pivotfold_k44_conditions_refused
abbrev rwT:=PySem.Challenge.rw_pivotfold_k44_conditions_refused
def Bv0:Stmt->Bool
 | .Assign [.Name n _] _ _=>!(["__name__", "CONDITION_WORDS"]:List Str).contains n
 | _=>true
def qT:Program:={ pwT with main:={ pwT.main with body:=pwT.main.body.filter Bv0 } }
abbrev xtT:Shared->Bool:=fun s=>xlAt qT [] s&&recOk (RowW.records rwT.row.toRowW) s&&tcT.all (L2.A0u s.heap)&&L2.cfB xcR xcT xcV xcF (L2.A6h [3,61,60,24,23,128,127,37,49,166,147,97,73,85,109] s.heap)&&L2.ciA xcJ xcY (L2.A8g [2,3,128,127,24,23,61,60,125,124] s.heap)
set_option maxHeartbeats 0 in
theorem Bs5:LeftO rwT.row.prog qT ["CONDITION_WORDS"] xtT Hook.none.obs Hook.none.val 20000:=fun w=>by kernel_rfl
end K
namespace L2
open PySem PySem.Spec PyProof.Rows
abbrev Key:=Sum Int Str
def Ur:Key->Value->Bool
 | .inl k,v=>Value.isInt k v
 | .inr x,v=>Value.isStrOf x v
def Bi1 (w:World):Key->Int
 | .inl k=>hashInt k
 | .inr x=>hashStr w x
theorem Dw:∀{k:Key}{v:Value},Ur k v=true->(∃i t,k=Sum.inl i/\v=Value.int i t)\/(∃x t,k=Sum.inr x/\v=Value.str x t)
 | .inl i,v,h=>by
  obtain⟨t,e⟩:=Value.isInt_shape (k:=i) (v:=v) h;exact .inl ⟨i,t,rfl,e⟩
 | .inr x,v,h=>by
  obtain⟨t,e⟩:=Value.isStrOf_shape (x:=x) (v:=v) h;exact .inr ⟨x,t,rfl,e⟩
theorem Ay3 (i:Int)(t:Tok):Ur (.inl i) (.int i t)=true:=by simp[Ur,Value.isInt]
theorem Aw1 (x:Str)(t:Tok):Ur (.inr x) (.str x t)=true:=by simp[Ur,Value.isStrOf]
theorem Bm7 (a b:Int):decide ((Sum.inl a:Key)=Sum.inl b)=(a==b):=by
 grind
theorem Bh0 (a b:Str):decide ((Sum.inr a:Key)=Sum.inr b)=decide (a=b):=by
 grind
theorem Bf2 (a:Int)(b:Str):decide ((Sum.inl a:Key)=Sum.inr b)=false:=decide_eq_false fun q=>nomatch q
theorem Be1 (a:Str)(b:Int):decide ((Sum.inr a:Key)=Sum.inl b)=false:=decide_eq_false fun q=>nomatch q
def Fi (prog:Program)(w:World):PySem.KeyKind prog w Key where
 is:=Ur
 hash:=Bi1 w
 inj:=fun v a b ha hb=>by
  rcases Dw ha with ⟨i,t,rfl,rfl⟩ | ⟨x,t,rfl,rfl⟩
  ·rcases Dw hb with ⟨j,u,rfl,e⟩ | ⟨y,u,rfl,e⟩
   ·injection e with e1 _;rw[e1]
   ·exact nomatch e
  ·rcases Dw hb with ⟨j,u,rfl,e⟩ | ⟨y,u,rfl,e⟩
   ·exact nomatch e
   ·injection e with e1 _;rw[e1]
 byValue:=fun k v h=>by
  rcases Dw h with ⟨i,t,rfl,rfl⟩ | ⟨x,t,rfl,rfl⟩ <;> rfl
 pyHash:=fun hv h=>by
  rcases Dw hv with ⟨i,t,rfl,rfl⟩ | ⟨x,t,rfl,rfl⟩
  ·exact wpAny_pyHash_int h
  ·exact wpAny_pyHash_str h
 eqBool:=fun hu hv h=>by
  rcases Dw hu with ⟨i,t,rfl,rfl⟩ | ⟨x,t,rfl,rfl⟩
  ·rcases Dw hv with ⟨j,u,rfl,rfl⟩ | ⟨y,u,rfl,rfl⟩
   ·rw[Bm7]at h;exact wpAny_eqBool_int h
   ·rw[Bf2]at h;exact SeqAt.EqAt.int_str i t y u _ _ _ _ h
  ·rcases Dw hv with ⟨j,u,rfl,rfl⟩ | ⟨y,u,rfl,rfl⟩
   ·rw[Be1]at h;exact SeqAt.EqAt.str_int x t j u _ _ _ _ h
   ·rw[Bh0]at h;exact wpAny_eqBool_str h
 «strs»:=fun k x t v h=>by
  rcases Dw h with ⟨i,u,rfl,e⟩ | ⟨y,u,rfl,e⟩
  ·exact nomatch e
  ·injection e with e1 _
   subst e1
   cases v <;> rfl
theorem Ra (prog:Program)(w:World)(i:Int)(t:Tok):(Fi prog w).is (.inl i) (.int i t)=true:=Ay3 i t
theorem Ri (prog:Program)(w:World)(x:Str)(t:Tok):(Fi prog w).is (.inr x) (.str x t)=true:=Aw1 x t
noncomputable instance Bx4:DecidableEq PyData:=fun a b=>Classical.propDecidable (a=b)
mutual
def keyB:PyData->Bool
 | .none=>true
 | .int _=>true
 | .str _=>true
 | .tuple ds=>Jp ds
 | _=>false
def Jp:List PyData->Bool
 | []=>true
 | d::ds=>keyB d&&Jp ds
end
mutual
theorem Al0:∀(x y:PyData),keyB x=true->keyB y=true->(PyData.eqv x y=true↔x=y)
 | .none,y,_,hy=>by cases y <;> simp_all [PyData.eqv,keyB]
 | .int _,y,_,hy=>by cases y <;> simp_all [PyData.eqv,keyB]
 | .str _,y,_,hy=>by cases y <;> simp_all [PyData.eqv,keyB]
 | .tuple xs,.tuple ys,hx,hy=>by
  have:=Ac8 xs ys hx hy
  show PyData.eqvAll xs ys=true↔_
  rw[this]
  exact⟨fun e=>by rw[e],fun e=>by cases e;rfl⟩
 | .tuple xs,.none,hx,hy=>⟨(fun e=>nomatch e),fun e=>nomatch e⟩
 | .tuple xs,.int _,hx,hy=>⟨(fun e=>nomatch e),fun e=>nomatch e⟩
 | .tuple xs,.str _,hx,hy=>⟨(fun e=>nomatch e),fun e=>nomatch e⟩
theorem Ac8:∀(xs ys:List PyData),Jp xs=true->Jp ys=true->(PyData.eqvAll xs ys=true↔xs=ys)
 | [],[],_,_=>⟨fun _=>rfl,fun _=>rfl⟩
 | [],_::_,_,_=>⟨(fun e=>nomatch e),fun e=>nomatch e⟩
 | _::_,[],_,_=>⟨(fun e=>nomatch e),fun e=>nomatch e⟩
 | x::xs,y::ys,hx,hy=>by
  obtain⟨a,b⟩:=Bool.and_eq_true_iff.mp (show (keyB x&&Jp xs)=true from hx)
  obtain⟨c,d⟩:=Bool.and_eq_true_iff.mp (show (keyB y&&Jp ys)=true from hy)
  show (PyData.eqv x y&&PyData.eqvAll xs ys)=true↔_
  rw[Bool.and_eq_true_iff,Al0 x y a c,Ac8 xs ys b d,List.cons.injEq]
end
mutual
theorem Uo {h h':Heap}{d:Addr}{o:Obj}{es:Array DictEntry}{ep:Nat}(ho:h.get? d=some o)(hd:o.data=.dict es ep)(hs:Heap.SameBut d h h'):∀(k:PyData),keyB k=true->∀(v:Value) (as:List Addr),Reads h v k as->Reads h' v k as
 | .none,_,_,_,r=>by cases r;exact .none
 | .int i,_,_,_,r=>by cases r;exact .int _ _
 | .str x,_,_,_,r=>by cases r;exact .str _ _
 | .tuple ds,hk,_,_,r=>by
  cases r with
  | @tuple a o' vs n xs as h1 h2 h3 h4 =>
   refine .tuple ((hs.2 a ?_).trans h1) h2 h3 (Q6 ho hd hs ds hk _ _ h4)
   intro e;rw[e,ho]at h1;cases h1;rw[hd]at h3;cases h3
theorem Q6 {h h':Heap}{d:Addr}{o:Obj}{es:Array DictEntry}{ep:Nat}(ho:h.get? d=some o)(hd:o.data=.dict es ep)(hs:Heap.SameBut d h h'):∀(ks:List PyData),Jp ks=true->∀(vs:List Value) (as:List Addr),ReadsAll h vs ks as->ReadsAll h' vs ks as
 | [],_,_,_,r=>by cases r;exact .nil
 | k::ks,hk,_,_,r=>by
  obtain⟨a,b⟩:=Bool.and_eq_true_iff.mp (show (keyB k&&Jp ks)=true from hk)
  cases r with
  | cons r1 r2=>exact .cons (Uo ho hd hs k a _ _ r1) (Q6 ho hd hs ks b _ _ r2)
end
mutual
def Aa6 (w:World):PyData->Int
 | .none=>hashInt 0xFCA86420
 | .int i=>Bi1 w (.inl i)
 | .str x=>Bi1 w (.inr x)
 | .tuple ds=>reduceHash (Builtin.Tuple.tupleHashOf (Kf w ds))
 | _=>0
def Kf (w:World):List PyData->List Int
 | []=>[]
 | d::ds=>Aa6 w d::Kf w ds
end
mutual
def Ac5:PyData->Nat
 | .tuple ds=>K4 ds+1
 | _=>1
def K4:List PyData->Nat
 | []=>0
 | d::ds=>Ac5 d+K4 ds
end
section
variable {prog:Program}{w:World}
theorem V4     (h:Q (hashInt 0xFCA86420) { s with toks:=s.toks+1 }):wpAny (model prog w) A (pyHash .none) Q E s:=by
 have a:s.TypeIs Value.none "NoneType" := rfl;unfold pyHash
 first | unfold pyHashByItsType | skip
 have b:[Value.none].any Value.onHeap=false:=rfl
 refine wpAny_bind ?_
 rw[cRoomFor,if_neg (by rw[b];exact Bool.false_ne_true)];refine wpAny_pure ?_
 refine wpAny_bind (wpAny_specialOf a F.slot_NoneType_hash.lookup ?_)
 show wpAny _ _ (if (some (Value.builtin "NoneType.__hash__")==some Value.none)=true then _ else _) Q E s
 rw[if_neg (by rw[beq_builtin_none];exact Bool.false_ne_true)]
 refine wpAny_bind (wpAny_specialOf a F.slot_NoneType_hash.lookup ?_)
 show wpAny _ _ (callSpecialIfBoundUnlessNone? .none "__hash__" _ >>= _) Q E s
 refine wpAny_bind (wpAny_callSpecialIfBoundUnlessNone?_slot a F.slot_NoneType_hash
  (wpAny_call_entry F.slot_NoneType_hash a F.entry_NoneType_hash
   (show wpAny _ _ (do ret (<- mkInt _)) _ _ s from wpAny_ret_mkInt ?_) (F.args_NoneType_hash_1 _)))
 exact wpAny_pure h
theorem Av0:∀(n:Nat) (d:PyData),d.depth<=n->keyB d=true->∀(A:Around) (E:Value->Shared->Prop) (s:Shared) (v:Value) (y:List Addr) (Q:Int->Shared->Prop),A.units+n<cLine->Reads s.heap v d y ->
 Q (Aa6 w d) { s with toks:=s.toks+Ac5 d }->wpAny (model prog w) A (pyHash v) Q E s:=by
 intro n
 induction n with
 | zero =>
  intro d M j A E s v y Q C r h
  cases r with
  | none=>exact V4 h
  | int i t=>exact(Fi prog w).pyHash (k:=.inl i) (v:=.int i t) (Ra prog w i t) h
  | str x t=>exact(Fi prog w).pyHash (k:=.inr x) (v:=.str x t) (Ri prog w x t) h
  | tuple=>exact absurd M (by simp[PyData.depth])
  | bool b=>cases j
  | list=>cases j
  | dict=>cases j
 | succ n Y =>
  intro d M j A E s v y Q C r h
  cases r with
  | none=>exact V4 h
  | int i t=>exact(Fi prog w).pyHash (k:=.inl i) (v:=.int i t) (Ra prog w i t) h
  | str x t=>exact(Fi prog w).pyHash (k:=.inr x) (v:=.str x t) (Ri prog w x t) h
  | bool b=>cases j
  | list=>cases j
  | dict=>cases j
  | @tuple a o N n' g y R hc J U =>
   have G:s.TypeIs (.ref a) "tuple" := ⟨o,R,hc⟩
   have H:PyData.depthAll g<=n:=Nat.le_of_succ_le_succ (show PyData.depthAll g+1<=n+1 from M)
   have I:Jp g=true:=j;unfold pyHash
   first | unfold pyHashByItsType | skip
   first | refine wpAny_bind (wpAny_cRoomFor_or (.inr (Nat.lt_of_le_of_lt (Nat.le_add_right _ _) C)) ?_) | skip
   refine wpAny_bind (wpAny_specialOf G F.slot_tuple_hash.lookup ?_)
   show wpAny _ _ (if (some (Value.builtin "tuple.__hash__")==some Value.none)=true then _ else _) Q E s
   rw[if_neg (by rw[beq_builtin_none];exact Bool.false_ne_true)]
   refine wpAny_bind (wpAny_specialOf G F.slot_tuple_hash.lookup ?_)
   show wpAny _ _ (callSpecialIfBoundUnlessNone? (.ref a) "__hash__" _ >>= _) Q E s
   refine wpAny_bind (wpAny_callSpecialIfBoundUnlessNone?_slot G F.slot_tuple_hash (wpAny_call_entry F.slot_tuple_hash G F.entry_tuple_hash ?_ (F.args_tuple_hash_1 _)))
   show wpAny _ _ (Builtin.Tuple.tupleItemsOf (.ref a) >>= _) _ _ s
   refine wpAny_bind (wpAny_tupleItemsOf R J ?_)
   refine wpAny_bind ?_
   rw[<- Array.forIn_toList]
   refine wpAny_forIn_list _
    (fun m (b:Array Int) O=>∃c e K,Kf w g=c++Kf w e/\ReadsAll s.heap m e K/\Jp e=true/\PyData.depthAll e<=n/\b.toList=c/\∃k,k+K4 e=K4 g/\O={ s with toks:=s.toks+k })
    _ ?_ ?_ _ _ ⟨[],g,_,rfl,U,I,H,rfl,0,Nat.zero_add _,rfl⟩
   ·rintro x m b O ⟨c,e,K,z,L,q,p,B,k,D,rfl⟩
    cases L with
    | @cons _ _ l f V W X u =>
     obtain⟨Z,S⟩:=Bool.and_eq_true_iff.mp (show (keyB l&&Jp f)=true from q)
     have P:l.depth<=n/\PyData.depthAll f<=n:=by
      have:max l.depth (PyData.depthAll f)<=n:=p;omega
     refine wpAny_bind (Y l P.1 Z _ _ _ _ _ _ (by first | exact Nat.lt_of_le_of_lt (by simp;omega) C | (have:=C;simp at *;omega)) X ?_)
     first
      | exact wpAny_pure ⟨c++[Aa6 w l],f,_,by rw[z];simp[Kf],u,S,P.2,by simp[B],k+Ac5 l,by rw[<- D];simp[K4,Nat.add_assoc],by simp[Nat.add_assoc]⟩
      | exact wpAny_bind (wpAny_pure (wpAny_pure ⟨c++[Aa6 w l],f,_,by rw[z];simp[Kf],u,S,P.2,by simp[B],k+Ac5 l,by rw[<- D];simp[K4,Nat.add_assoc],by simp[Nat.add_assoc]⟩))
   ·rintro b O ⟨c,e,K,z,L,q,p,B,k,D,rfl⟩
    cases L
    have e2:Kf w g=c:=by rw[z];simp[Kf]
    have T:k=K4 g:=D
    have h:Q (reduceHash (Builtin.Tuple.tupleHashOf (Kf w g))) { s with toks:=s.toks+(K4 g+1) }:=h
    rw[e2]at h;subst T
    show wpAny _ _ (retInt (Builtin.Tuple.tupleHashOf b.toList)) _ _ _
    rw[B]
    refine wpAny_ret_mkInt ?_
    show wpAny _ _ (if (decide (-(2:Int) ^ 63<=Builtin.Tuple.tupleHashOf c)&&decide (Builtin.Tuple.tupleHashOf c<2 ^ 63))=true then _ else _) Q E _
    unfold reduceHash at h
    by_cases hr:(decide (-(2:Int) ^ 63<=Builtin.Tuple.tupleHashOf c)&&decide (Builtin.Tuple.tupleHashOf c<2 ^ 63))=true
    ·rw[if_pos hr]
     rw[if_pos hr]at h
     exact wpAny_pure (by simpa[Nat.add_assoc] using h)
    ·rw[if_neg hr]
     rw[if_neg hr]at h
     exact wpAny_bind (wpAny_rule (wpAny_pure (by simpa[Nat.add_assoc] using h)))
theorem Ah3:∀(m:Nat) (d:PyData),d.depth<=m->keyB d=true->∀(A:Around) (E:Value->Shared->Prop) (s:Shared) (v:Value) (j:List Addr) (Q:Bool->Shared->Prop),Reads s.heap v d j->Q true s->wpAny (model prog w) A (eqIsQuiet (m+1) v) Q E s:=by
 intro m
 induction m with
 | zero =>
  intro d q f A E s v j Q r h
  cases r with
  | none=>rw[eqIsQuiet_byValue _ rfl];exact wpAny_pure h
  | int i t=>rw[eqIsQuiet_byValue _ rfl];exact wpAny_pure h
  | str x t=>rw[eqIsQuiet_byValue _ rfl];exact wpAny_pure h
  | tuple=>exact absurd q (by simp[PyData.depth])
  | bool b=>cases f
  | list=>cases f
  | dict=>cases f
 | succ n O =>
  intro d q f A E s v j Q r h
  cases r with
  | none=>rw[eqIsQuiet_byValue _ rfl];exact wpAny_pure h
  | int i t=>rw[eqIsQuiet_byValue _ rfl];exact wpAny_pure h
  | str x t=>rw[eqIsQuiet_byValue _ rfl];exact wpAny_pure h
  | bool b=>cases f
  | list=>cases f
  | dict=>cases f
  | @tuple a o y n' M j G L l U =>
   have D:s.TypeIs (.ref a) _:=⟨o,G,L⟩
   have p  := Nat.le_of_succ_le_succ (show PyData.depthAll _+1<=n+1 from q)
   unfold eqIsQuiet
   refine wpAny_bind (wpAny_specialOf D F.slot_tuple_eq.lookup ?_)
   refine wpAny_bind (wpAny_isInstance D isSubtype_tuple_tuple ?_)
   refine wpAny_bind (wpAny_seqItems G l ?_)
   refine wpAny_bind ?_
   rw[<- Array.forIn_toList]
   refine wpAny_forIn_list _ (fun e r u=>r.1=none/\u=s/\∃c H,ReadsAll _ e c H/\Jp c=true/\PyData.depthAll c<=n) _ ?_ ?_ _ _ ⟨rfl,rfl,M,_,U,f,p⟩
   ·rintro v e r u ⟨C,rfl,c,H,J,k,z⟩
    cases J with
    | @cons _ _ N g P R K B =>
     obtain⟨S,T⟩:=Bool.and_eq_true_iff.mp (show (keyB _&&Jp _)=true from k)
     have I:N.depth<=n/\PyData.depthAll g<=n:=by
      have:max _ _<=n:=z;omega
     refine wpAny_bind (O _ I.1 S _ _ _ _ _ _ K ?_)
     exact wpAny_pure ⟨rfl,rfl,g,_,B,T,I.2⟩
   ·rintro⟨r1,r2⟩ u ⟨C,rfl,_⟩
    subst C;exact wpAny_pure h
def Bg7 (h:Heap)(k:PyData)(a:Addr):Prop:=(keyB k=true/\k.canLay0=true/\k.depth<=7)/\∃as,Reads h (.ref a) k as
def A3y (prog:Program)(w:World):HeapKind prog w PyData where
 is:=Bg7
 hash:=Aa6 w
 draws:=Ac5
 room:=fun A=>A.units+8<cLine
 inj:=fun hx hy=>let ⟨⟨_,l,_⟩,_,r⟩:=hx;let ⟨_,_,r'⟩:=hy; SeqAt.Reads.unique _ _ _ _ _ l r r'
 keeps:=fun x ho hd hs=>let ⟨c,_,r⟩:=x; ⟨c,_,Uo ho hd hs _ c.1 _ _ r⟩
 pyHash:=fun hu hk h=>let ⟨c,_,r⟩:=hk; Av0 7 _ c.2.2 c.1 _ _ _ _ _ _ (Nat.lt_of_le_of_lt (Nat.add_le_add_left (by decide) _) hu) r h
 eqBool:=fun {A E s x y a b Q} hu hx hy h=>by
  obtain⟨c,_,r⟩:=hx;obtain⟨d,_,r'⟩:=hy
  refine SeqAt.eqAt_reads x y A s _ _ _ _ r r' c.2.1 d.2.1 (Nat.lt_of_le_of_lt (Nat.add_le_add_left (Nat.le_trans (Nat.min_le_left _ _) (Nat.le_trans c.2.2 (by decide))) _) hu) prog w E Q ?_
  have e:PyData.eqv x y=decide (x=y):=by
   have:=Al0 x y c.1 d.1
   by_cases z:x=y
   ·rw[decide_eq_true z];exact this.mpr z
   ·rw[decide_eq_false z]
    cases q:PyData.eqv x y with
    | false=>rfl
    | true=>exact absurd (this.mp q) z
  rw[e];exact h
 quiet:=fun hk h=>let ⟨c,_,r⟩:=hk; Ah3 7 _ c.2.2 c.1 _ _ _ _ _ _ r h
end
inductive V where
 | non | bl (b:Bool) | int (i:Int) | str (x:Str) | byt (b:Array UInt8) | flt (b:UInt64) | ref (a:Addr) | ty (n:String)
 deriving DecidableEq
@[simp] theorem V.bl.injEq (a b:Bool):(V.bl a=V.bl b)=(a=b):=propext ⟨fun h=>by cases h;rfl,fun h=>by rw[h]⟩
@[simp] theorem V.int.injEq (a b:Int):(V.int a=V.int b)=(a=b):=propext ⟨fun h=>by cases h;rfl,fun h=>by rw[h]⟩
@[simp] theorem V.str.injEq (a b:Str):(V.str a=V.str b)=(a=b):=propext ⟨fun h=>by cases h;rfl,fun h=>by rw[h]⟩
@[simp] theorem V.byt.injEq (a b:Array UInt8):(V.byt a=V.byt b)=(a=b):=propext ⟨fun h=>by cases h;rfl,fun h=>by rw[h]⟩
@[simp] theorem V.ref.injEq (a b:Addr):(V.ref a=V.ref b)=(a=b):=propext ⟨fun h=>by cases h;rfl,fun h=>by rw[h]⟩
def RelV:V->Value->Prop
 | .non,u=>u=Value.none
 | .bl b,u=>u=Value.bool b
 | .int i,u=>∃t,u=Value.int i t
 | .str x,u=>∃t,u=Value.str x t
 | .byt b,u=>∃t,u=Value.bytes b t
 | .flt b,u=>∃t,u=Value.float b t
 | .ref a,u=>u=Value.ref a
 | .ty n,u=>u=Value.type n
abbrev Vals:List V->List Value->Prop:=Paired RelV
theorem Vals.length   (r:Vals xs us):xs.length=us.length:=Paired.length r
theorem Vals.get:∀{xs:List V}{us:List Value}{i:Nat}{x:V},Vals xs us->xs[i]?=some x->∃u,us[i]?=some u/\RelV x u
 | _,_,_,_,.nil,e=>by simp at e
 | _,_,0,_,.cons r _,e=>by simp at e;subst e;exact⟨_,rfl,r⟩
 | _,_,i+1,x,.cons _ t,e=>by
  obtain⟨u,h1,h2⟩:=Vals.get (i:=i) (x:=x) t (by simpa using e)
  exact⟨u,by simpa using h1,h2⟩
theorem Vals.set {x:V}{u:Value}(r:RelV x u):∀{xs:List V}{us:List Value}(i:Nat),Vals xs us->Vals (xs.set i x) (us.set i u)
 | _,_,_,.nil=>.nil
 | _,_,0,.cons _ t=>.cons r t
 | _,_,i+1,.cons q t=>.cons q (Vals.set r i t)
theorem Vals.append:∀{xs ys:List V}{us ws:List Value},Vals xs us->Vals ys ws->Vals (xs++ys) (us++ws)
 | _,_,_,_,.nil,s=>s
 | _,_,_,_,.cons r t,s=>.cons r (Vals.append t s)
theorem Vals.take:∀{xs:List V}{us:List Value}(n:Nat),Vals xs us->Vals (xs.take n) (us.take n)
 | _,_,0,_=>.nil
 | _,_,_+1,.nil=>.nil
 | _,_,n+1,.cons r t=>.cons r (Vals.take n t)
theorem Vals.drop:∀{xs:List V}{us:List Value}(n:Nat),Vals xs us->Vals (xs.drop n) (us.drop n)
 | _,_,0,r=>r
 | _,_,_+1,.nil=>.nil
 | _,_,n+1,.cons _ t=>Vals.drop n t
def Bh3:Option V->Option Value->Prop
 | some v,some u=>RelV v u
 | none,none=>True
 | _,_=>False
def KV {κ:Type}:List (κ×V)->List (κ×Value)->Prop:=Paired fun (p:κ×V) (q:κ×Value)=>p.1=q.1/\RelV p.2 q.2
def kV:Key->V
 | .inl i=>.int i
 | .inr x=>.str x
inductive HO where
 | lst (xs:List V)
 | tup (xs:List V)
 | dK (kvs:List (Key×V)) | dT (kvs:List (PyData×V))
 | set (S:Int->Bool) (n:Nat)
 | ins (C dx:Addr) (fs:List (Str×V))
 | own (x:Addr)
 | xd (fs:List (Str×V))
 | met (f x:Addr)
 | rng (lo hi:Int)
 | frz (o:Obj) (u:HO)
 | tbl (q:Str)
 | ext (φ:Heap->Prop)
abbrev Hp:=Addr->Option HO
def upd (H:Hp)(a:Addr)(o:HO):Hp:=fun b=>if b=a then some o else H b
theorem Be    : upd H a o a=some o:=by unfold upd;simp_all
theorem Ao    (h:b≠a):upd H a o b=H b:=by unfold upd;simp_all
theorem A9g {H:Hp}{a:Addr}{o u:HO}:upd (upd H a o) a u=upd H a u:=by
 funext b;unfold upd;split <;> rfl
theorem Ba {H:Hp}   (h:H a=some o) (h':H b=none):a≠b:=by
 grind
mutual
def KTr (H:Hp):PyData->V->Prop
 | .none,v=>v=.non
 | .int i,v=>v=.int i
 | .str x,v=>v=.str x
 | .tuple ds,v=>∃a vs,v=.ref a/\H a=some (.tup vs)/\KTrL H ds vs
 | _,_=>False
def KTrL (H:Hp):List PyData->List V->Prop
 | [],vs=>vs=[]
 | d::ds,vs=>∃v r,vs=v::r/\KTr H d v/\KTrL H ds r
end
mutual
theorem KTr.stay {H H':Hp}(ht:∀b xs,H b=some (.tup xs)->H' b=some (.tup xs)):∀{d:PyData}{v:V},KTr H d v->KTr H' d v
 | .none,_,h=>h
 | .int _,_,h=>h
 | .str _,_,h=>h
 | .tuple _,_,⟨a,vs,e,ha,t⟩=>⟨a,vs,e,ht _ _ ha,KTrL.stay ht t⟩
theorem KTrL.stay {H H':Hp}(ht:∀b xs,H b=some (.tup xs)->H' b=some (.tup xs)):∀{ds:List PyData}{vs:List V},KTrL H ds vs->KTrL H' ds vs
 | [],_,h=>h
 | _::_,_,⟨v,r,e,h,t⟩=>⟨v,r,e,KTr.stay ht h,KTrL.stay ht t⟩
end
def Br5 (k:PyData):Prop:=keyB k=true/\k.canLay0=true/\k.depth<=7
def KAt (H:Hp)(k:PyData)(a:Addr):Prop:=Br5 k/\KTr H k (.ref a)
theorem KAt.stay    (ht:∀b xs,H b=some (.tup xs)->H' b=some (.tup xs)) (h:KAt H k a):KAt H' k a:=⟨h.1,KTr.stay ht h.2⟩
def zN (h:Heap)(a:Addr)(items:Array Value):Prop:=∃o,h.get? a=some o/\o.cls=.type "tuple" /\ (∃n,o.data=.seq items n)/\o.dict=none
theorem zN.tup    (x:zN h a items):IsTup h a items:=let ⟨o,h1,h2,h3,_⟩:=x; ⟨o,h1,h2,h3⟩
theorem zN.lt    (x:zN h a items):a<h.objs.size:=x.tup.lt
theorem zN.new (h:Heap)(items:Array Value):zN (h.push { cls:=.type "tuple",data:=.seq items }) h.objs.size items:=⟨_,Heap.get?_push_size _ rfl,rfl,⟨_,rfl⟩,rfl⟩
section
variable (P:Program)(w:World)
def z8 (H:Hp)(h:Heap)(a:Addr):HO->Prop
 | .lst xs=>xs.length<=sizeLine/\∃(its:List Value) (n:Nat),Vals xs its/\h.get? a=some { cls:=.type "list",data:=.seq its.toArray n }
 | .tup xs=>xs.length<=sizeLine/\∃its:List Value,Vals xs its/\zN h a its.toArray
 | .dK kvs=>kvs.length<=sizeLine/\(a==sysModules)=false/\∃vs,KV kvs vs/\h.DictOf (Fi P w) a vs
 | .dT kvs=>kvs.length<=sizeLine/\(a==sysModules)=false/\∃xs:List (PyData×Addr×Value),
  Paired (fun (p:PyData×V) (q:PyData×Addr×Value)=>p.1=q.1/\KAt H p.1 q.2.1/\RelV p.2 q.2.2) kvs xs /\
  ∃o es ep,h.get? a=some o/\o.ExactDict/\o.data=.dict es ep/\es.toList=xs.map (entryOfKey (A3y P w))/\(xs.map (·.1)).Nodup
 | .set S n=>h.SetOf (intKind P w) a S n
 | .ins C dx fs=>H dx=some (.own a)/\fs.length<=1000/\dx≠a/\h.get? a=some (PySem.W.instObj C dx) /\
  ∃mA,h.Ns1 dx mA/\(∀f,Bh3 (fs.lookup f) (mA f))/\PySem.Within mA (fs.map (·.1))
 | .own _=>∃o,h.get? a=some o
 | .xd fs=>∃mA,h.Ns1 a mA/\∀f,Bh3 (fs.lookup f) (mA f)
 | .rng lo hi=>∃t u v,h.get? a=some { cls:=.type "range",data:=.fields #[.int lo t,.int hi u,.int 1 v] }
 | .frz o u=>h.get? a=some o/\z8 H h a u
 | .tbl q=>∃ps:Array Value,h.get? a=some { cls:=.none,data:=.fields ps }/\TriplesOk ps.toList/\∀pos cv,codeAmong pos ps.toList=some cv->∃c o vs t,cv=.ref c/\H c=some (.frz o (.own 0))/\o.data=.fields vs/\vs[1]?=some (.str q t)
 | .met f x=>h.get? a=some (PySem.W.methodObj (.ref f) (.ref x))
 | .ext φ=>φ h/\(∃o,h.get? a=some o)/\∀h1 h2:Heap,φ h1->(∀o,h1.get? a=some o->h2.get? a=some o)->φ h2
def HOk (H:Hp)(h:Heap):Prop:=∀a o,H a=some o->z8 P w H h a o
end
section
variable {P:Program}{w:World}{H H':Hp}{h h':Heap}{a:Addr}{o:HO}
theorem z8.lt (x:z8 P w H h a o):a<h.objs.size:=by
 cases o with
 | lst d=>obtain⟨_,_,_,_,e⟩:=x;exact Heap.lt_size e
 | tup d=>obtain⟨_,_,_,p⟩:=x;exact p.lt
 | dK b=>obtain⟨_,_,_,_,o,_,_,e,_⟩:=x;exact Heap.lt_size e
 | dT b=>obtain⟨_,_,_,_,o,_,_,e,_⟩:=x;exact Heap.lt_size e
 | set S n=>obtain⟨o,_,_,_,e,_⟩:=x;exact Heap.lt_size e
 | ins C g c=>obtain⟨_,_,_,e,_⟩:=x;exact Heap.lt_size e
 | own y=>obtain⟨_,e⟩:=x;exact Heap.lt_size e
 | xd c=>obtain⟨_,⟨_,_,_,e,_⟩,_⟩:=x;exact Heap.lt_size e
 | rng j k=>obtain⟨_,_,_,e⟩:=x;exact Heap.lt_size e
 | frz l u=>obtain⟨e,_⟩:=x;exact Heap.lt_size e
 | tbl q=>obtain⟨_,e,_⟩:=x;exact Heap.lt_size e
 | met f y=>exact Heap.lt_size (x)
 | ext i=>obtain⟨_,⟨_,e⟩,_⟩:=x;exact Heap.lt_size e
theorem Paired.mapP {α β:Type}{F G:α->β->Prop}:∀{l₁:List α}{l₂:List β},Paired F l₁ l₂->(∀a b,F a b->G a b)->Paired G l₁ l₂
 | _,_,.nil,_=>.nil
 | _,_,.cons r t,f=>.cons (f _ _ r) (Paired.mapP t f)
theorem z8.stay (x:z8 P w H h a o)(k:∀b u,(b=a\/H b=some (.own a))->h.get? b=some u->h'.get? b=some u)
 (ho:∀b,H b=some (.own a)->H' b=some (.own a)) (ht:∀b m,H b=some (.tup m)->H' b=some (.tup m)) (hz:∀b o u,H b=some (.frz o u)->H' b=some (.frz o u):=by exact fun _ _ _ q=>q):z8 P w H' h' a o:=by
 induction o with
 | lst m=>obtain⟨z,l,n,r,e⟩:=x;exact⟨z,l,n,r,k _ _ (.inl rfl) e⟩
 | tup m=>obtain⟨z,l,r,g,e,c⟩:=x;exact⟨z,l,r,g,k _ _ (.inl rfl) e,c⟩
 | dK A=>obtain⟨z,y,D,r,g,i,j,e,c⟩:=x;exact⟨z,y,D,r,g,i,j,k _ _ (.inl rfl) e,c⟩
 | dT A =>
  obtain⟨z,y,m,r,g,i,j,e,c⟩:=x
  exact⟨z,y,m,Paired.mapP r fun p q z=>⟨z.1,z.2.1.stay ht,z.2.2⟩,g,i,j,k _ _ (.inl rfl) e,c⟩
 | set S n=>obtain⟨g,i,j,t,e,c⟩:=x;exact⟨g,i,j,t,k _ _ (.inl rfl) e,c⟩
 | ins C M J =>
  obtain⟨d,z,G,e,s,⟨B,i,j,E,c⟩,r⟩:=x;exact⟨ho _ d,z,G,k _ _ (.inl rfl) e,s,⟨B,i,j,k _ _ (.inr d) E,c⟩,r⟩
 | own y=>obtain⟨g,e⟩:=x;exact⟨g,k _ _ (.inl rfl) e⟩
 | xd J=>obtain⟨s,⟨B,i,j,e,c⟩,r⟩:=x;exact⟨s,⟨B,i,j,k _ _ (.inl rfl) e,c⟩,r⟩
 | rng O N=>obtain⟨t,u,v,e⟩:=x;exact⟨t,u,v,k _ _ (.inl rfl) e⟩
 | frz g u K=>obtain⟨e,q⟩:=x;exact⟨k _ _ (.inl rfl) e,K q⟩
 | tbl q =>
  obtain⟨I,e,t,f⟩:=x
  exact⟨I,k a _ (.inl rfl) e,t,fun L Q z=>let ⟨c,g,D,tk,e1,E,e3⟩:=f _ _ z; ⟨c,g,D,tk,e1,hz _ _ _ E,e3⟩⟩
 | met f y =>
  have e:h.get? a=some _:=x
  show h'.get? a=some _
  grind
 | ext R=>obtain⟨p,⟨o,e⟩,F⟩:=x;exact⟨F _ _ p fun o q=>k _ _ (.inl rfl) q,⟨o,k _ _ (.inl rfl) e⟩,F⟩
theorem HOk.lt (x:HOk P w H h)(e:H a=some o):a<h.objs.size:=(x a o e).lt
theorem HOk.fresh (x:HOk P w H h)(e:h.objs.size<=a):H a=none:=by
 cases q:H a with
 | none=>rfl
 | some u=>exact absurd (Nat.lt_of_lt_of_le (x.lt q) e) (Nat.lt_irrefl _)
theorem HOk.kept (x:HOk P w H h)(k:∀b u,h.get? b=some u->h'.get? b=some u):HOk P w H h':=fun a o e =>
 (x a o e).stay (fun b u _ q=>k b u q) (fun _ q=>q) fun _ _ q=>q
theorem HOk.laid (x:HOk P w H h)(k:∀b u,h.get? b=some u->h'.get? b=some u)(hp:h.objs.size<=a)(f:z8 P w (upd H a o) h' a o):HOk P w (upd H a o) h':=fun b u e=>by
 have d:=x.fresh hp
 by_cases hb:b=a
 ·subst hb;rw[Be]at e;simp_all
 ·rw[Ao hb]at e
  exact(x b u e).stay (fun c v _ q=>k c v q) fun c q=>by rw[Ao (Ba q d)];grind fun c g q=>by rw[Ao (Ba q d)];grind fun c i g q=>by rw[Ao (Ba q d)];grind
end
def Rd (H:Hp)(a:Addr)(u:HO):Prop:=H a=some u\/∃o,H a=some (.frz o u)
theorem Rd.ok       (r:Rd H a u) (x:HOk P w H h):z8 P w H h a u:=by
 rcases r with r | ⟨o,r⟩
 ·exact x a u r
 ·obtain⟨_,q⟩:=x a _ r
  omega
def Mut:Option HO->Prop
 | some (.lst _)=>True
 | some (.dK _)=>True
 | some (.dT _)=>True
 | some (.set _ _)=>True
 | some (.ins _ _ _)=>True
 | some (.ext _)=>True
 | _=>False
section
variable {P:Program}{w:World}{H:Hp}{h h':Heap}{x e:Addr}{o':HO}
theorem HOk.write (s:HOk P w H h)(f:Mut (H x))(he:e=x\/H e=some (.own x))(k:∀b u,b≠e->h.get? b=some u->h'.get? b=some u)(m:∃u,h'.get? e=some u)
 (l:z8 P w (upd H x o') h' x o'):HOk P w (upd H x o') h':=fun b u q=>by
 have a:∀c y,H c=some (.own y)->c≠x:=fun c y r z=>by subst z;rw[r]at f;exact f
 have i:∀c d,H c=some (.tup d)->c≠x:=fun c d r z=>by subst z;rw[r]at f;exact f
 have g:∀c n d,H c=some (.frz n d)->c≠x:=fun c n d r z=>by subst z;rw[r]at f;exact f
 by_cases hb:b=x
 ·subst hb;rw[Be]at q;cases q;exact l
 ·rw[Ao hb]at q
  by_cases hbe:b=e
  ·have o:H b=some (.own x):=by
    simp_all
   rw[q]at o;cases o;obtain⟨v,p⟩:=m
   exact⟨v,by rw[hbe];exact p⟩
  ·refine (s b u q).stay (fun c v j r=>k c v ?_ r) (fun c r=>by rw[Ao (a c b r)];exact r) (fun c d r=>by rw[Ao (i c _ r)];exact r) fun c n d r=>by rw[Ao (g c _ _ r)];exact r
   rcases j with rfl | j
   ·exact hbe
   ·rintro rfl
    rcases he with z | z
    ·exact a c b j z
    ·rw[j]at z;cases z;exact hb rfl
end
structure Un (fs ex:List Addr) (H H':Hp) (h h':Heap):Prop where
 keep:∀b o,h.get? b=some o->H b=none->b∉fs->b∉ex->h'.get? b=some o
 slot:∀b o,h.get? b=some o->H b=none->b∈fs->b∉ex->∃sl,h'.get? b=some { o with slots:=sl }
 free:∀b o,h.get? b=some o->H b=none->b∉ex->H' b=none
 there:∀b o,h.get? b=some o->b∉ex->∃o',h'.get? b=some o'
 tups:∀b xs,H b=some (.tup xs)->H' b=some (.tup xs)
 frzs:∀b o u,H b=some (.frz o u)->H' b=some (.frz o u)
 tbls:∀b q,H b=some (.tbl q)->H' b=some (.tbl q)
section
variable {fs fs' ex ex':List Addr}{H H1 H2:Hp}{h h1 h2 h':Heap}{a x e:Addr}{o:HO}
theorem Un.any (u:Un fs ex H H1 h h1)   (q:h.get? b=some ob) (n:H b=none) (hx:b∉ex):∃sl,h1.get? b=some { ob with slots:=sl }:=by
 by_cases hb:b∈fs
 ·exact u.slot b _ q n hb hx
 ·exact⟨ob.slots,u.keep b _ q n hb hx⟩
theorem Un.kept (k:∀b u,h.get? b=some u->h'.get? b=some u):Un fs ex H H h h' :=
 ⟨fun b a q _ _ _=>k b _ q,fun b a q _ _ _=>⟨a.slots,k b a q⟩,fun _ _ _ n _=>n,fun b a q _=>⟨a,k b _ q⟩,fun _ _ q=>q,fun _ _ _ q=>q,fun _ _ q=>q⟩
theorem Un.refl:Un fs ex H H h h:=Un.kept fun _ _ q=>q
theorem Un.laid (k:∀b u,h.get? b=some u->h'.get? b=some u)(hp:h.objs.size<=a)(hn:H a=none):Un fs ex H (upd H a o) h h' where
 keep:=fun b u q _ _ _=>k b u q
 slot:=fun b u q _ _ _=>⟨u.slots,k b u q⟩
 free:=fun b u q n _=>by rw[Ao (Nat.ne_of_lt (Nat.lt_of_lt_of_le (Heap.lt_size q) hp))];exact n
 there:=fun b u q _=>⟨u,k b u q⟩
 tups:=fun b xs q=>by rw[Ao (Ba q hn)];exact q
 frzs:=fun b u xs q=>by rw[Ao (Ba q hn)];exact q
 tbls:=fun b ps q=>by rw[Ao (Ba q hn)];exact q
theorem Un.write (d:Mut (H x))(he:e=x\/H e=some (.own x))(k:∀b u,b≠e->h.get? b=some u->h'.get? b=some u)(f:∃u,h'.get? e=some u):Un fs ex H (upd H x o) h h':=by
 have i:∀b,H b=none->b≠x:=fun b n z=>by subst z;rw[n]at d;exact d
 have c:∀b,H b=none->b≠e:=fun b n z=>by
  grind
 have a:∀b u,H b=some u->¬ Mut (some u)->b≠x:=fun b u q l z=>by simp_all
 refine⟨fun b u q n _ _=>k b u (c b n) q,fun b u q n _ _=>⟨u.slots,k b u (c b n) q⟩,fun b u q n _=>by rw[Ao (i b n)];grind,fun b u q _=>?_,
  fun b g q=>by rw[Ao (a b _ q fun z=>z)];grind,fun b u g q=>by rw[Ao (a b _ q fun z=>z)];grind,fun b j q=>by rw[Ao (a b _ q fun z=>z)];grind⟩
 grind
end
def trk (h:Heap)(H:Hp):List Addr:=(List.range h.objs.size).filter fun a=>(H a).isSome
def Ve (h:Heap)(H:Hp):Heap:=PySem.W.hideAll h (trk h H)
theorem At7 (h:Heap)(H:Hp):(Ve h H).objs.size=h.objs.size:=PySem.W.hideAll_size _ _
theorem A5u     (e:h.get? b=some o) (n:H b=none):(Ve h H).get? b=some o :=
 PySem.W.hideAll_get _ e fun a=>by
  have q  := (List.mem_filter.mp a).2
  grind
theorem A6d     (e:(Ve h H).get? b=some o):h.get? b=some o/\H b=none:=by
 have a  := PySem.W.of_hideAll _ e
 refine⟨a,?_⟩
 cases q:H b with
 | none=>rfl
 | some x =>
  have c:b∈trk h H:=List.mem_filter.mpr ⟨List.mem_range.mpr (Heap.lt_size a),by grind⟩
  have z:(Ve h H).get? b=none:=PySem.W.hideAll_none _ c
  simp_all
def A8h (g h:Heap)(L:Addr):List (Addr×Obj):=(List.range h.objs.size).filterMap fun a=>if a=L\/(g.get? a).isSome=true then none else (h.get? a).map fun o=>(a,o)
def rest (g h:Heap)(L d:Addr):List (Addr×Obj):=(A8h g h L).filter fun p=>decide (p.1≠d)
def Ap2 (T:Addr)(q:Str):Obj:={ cls:=.str q 0,data:=.cell (some (.ref T)) }
def T9 (o:Obj):Option (Addr×Str):=match o.data with
 | .cell (some (.ref T))=>(match o.cls with
  | .str q _=>some (T,q)
  | _=>none)
 | _=>none
def Dy (K:PySem.W.Frag):List (Addr×Str):=K.filterMap fun p=>T9 p.2
structure Mod (K:PySem.W.Frag) (mg:Str->Option Value) (base:Heap):Prop where
 kin:K.In base
 glob:base.Ns mainGlobals mg
 blt:∃mb,base.Ns builtinsNs mb/\∀x:Str,x ≠ "__name__" -> mb x=bootBuiltins x
 nolimit:base.NoLimit
 bmod:∃bm o,mg "__builtins__" = some (.ref bm)/\bm≠builtinsNs/\bm≠mainGlobals/\base.get? bm=some o/\o.cls=.type "module" /\ o.dict=some builtinsNs/\o.data=.plain
structure Cx where
 prog:Program
 w:World
 K:PySem.W.Frag
 mg:Str->Option Value
 base:Heap
 A:Around
 N:List Str
 s₀:Shared
 H₀:Hp
 env:Env
 outer:List Env
 stack:List Env
 ex:List Addr
 fn:Str->Bool
 calm:Bool
 pn:List (Addr×Obj)
 xe:Value->Shared->Prop
def frs (l:List Env):List Addr:=l.filterMap (·.frame)
abbrev Cx.fs (X:Cx):List Addr:=frs X.outer
def Vis (sc:Scope)(x:Str):Prop:=sc.names.lookup x=some .local\/sc.names.lookup x=some .cell\/sc.names.lookup x=some .free
def Loc (sc:Scope)(x:Str):Prop:=sc.names.lookup x=some .local\/sc.names.lookup x=some .cell
def Look (env:Env)(h:Heap)(m:Str->Option Value)(x:Str)(u:Value):Prop :=
 (env.kindOf x=some .local/\m x=some u)\/((env.kindOf x=some .cell\/env.kindOf x=some .free)/\∃c,env.cells.lookup x=some c/\h.IsCell c (some u))
structure Cx.Ok (X:Cx):Prop where
 mod:Mod X.K X.mg X.base
 kind:X.env.scope.kind=.function
 glob:X.env.globals=mainGlobals
 blt:X.env.builtins=builtinsNs
 above:X.s₀.heap.objs.size<=X.env.locals
 inj:∀x y c,X.env.cells.lookup x=some c->X.env.cells.lookup y=some c->x=y
 has:∀x,(X.env.kindOf x=some .cell\/X.env.kindOf x=some .free)->∃c,X.env.cells.lookup x=some c
 cab:∀x c,X.fn x=true->X.env.cells.lookup x=some c->X.s₀.heap.objs.size<=c
 hd:X.calm=true->X.A.handled=none
 frames:X.A.frames=some X.stack
 stk:X.stack=X.outer\/(X.stack=X.env::X.outer/\X.env.frame=some X.env.locals)
 exf:∀b∈X.ex,b≠X.env.locals/\∀x c,X.env.cells.lookup x=some c->c≠b
 bs:∀b o,X.base.get? b=some o->X.s₀.heap.get? b=some o/\X.H₀ b=none
 bsz:X.base.objs.size<=X.s₀.heap.objs.size
 noex:∀b o,X.base.get? b=some o->b∉X.ex
 exfs:∀b∈X.ex,b∉X.fs
 funs:X.s₀.heap.FunFrames X.base X.outer
 frf:∀b∈X.fs,X.H₀ b=none
 tab:∀p∈Dy X.K,X.H₀ p.1=some (.tbl p.2)
structure Inv (X:Cx) (pins:List (Addr×Obj)) (σ:List (Option V)) (H:Hp) (s:Shared):Prop where
 ok:X.Ok
 os:s.os=X.s₀.os
 bare:AllBare s.gens
 base:Un X.fs X.ex X.H₀ H X.s₀.heap s.heap
 loc:∃m,s.heap.Ns X.env.locals m/\∀(i:Nat) (x:Str) (v:V),X.N[i]?=some x->σ[i]?=some (some v)->Vis X.env.scope x->∃u,RelV v u/\Look X.env s.heap m x u
 cell:∀x c,X.env.cells.lookup x=some c->∃v,s.heap.IsCell c v
 free:H X.env.locals=none
 freeC:∀x c,X.env.cells.lookup x=some c->H c=none
 pin:∀p∈X.pn++pins,s.heap.get? p.1=some p.2/\H p.1=none/\p.1≠X.env.locals/\p.1∉X.fs/\∀v,p.2.data≠.cell v
 hok:HOk X.prog X.w H s.heap
 len:σ.length=X.N.length
section
variable {X:Cx}{pins:List (Addr×Obj)}{σ:List (Option V)}{H H':Hp}{s:Shared}{h':Heap}
theorem Cx.Ok.nofr (c:X.Ok)   (e:X.base.get? b=some o):b∉X.fs:=fun a=>by
 have:=(c.funs.mem a).1
 simp_all
theorem Inv.bs (I:Inv X pins σ H s):∀b o,X.base.get? b=some o->s.heap.get? b=some o/\H b=none:=fun b o e =>
 ⟨I.base.keep b o (I.ok.bs b o e).1 (I.ok.bs b o e).2 (I.ok.nofr e) (I.ok.noex b o e),I.base.free b o (I.ok.bs b o e).1 (I.ok.bs b o e).2 (I.ok.noex b o e)⟩
theorem Inv.bk (I:Inv X pins σ H s):∀b o,X.base.get? b=some o->s.heap.get? b=some o:=fun b o e=>(I.bs b o e).1
theorem Inv.mod (I:Inv X pins σ H s):Mod X.K X.mg X.base:=I.ok.mod
theorem Inv.kIn (I:Inv X pins σ H s):X.K.In s.heap:=I.ok.mod.kin.keeps I.bk
theorem Inv.fr (I:Inv X pins σ H s):∃m,Fr X.base X.env.locals s.heap m :=
 let ⟨m,hn,_⟩:=I.loc
 ⟨m,hn,I.bk,Nat.le_trans I.ok.bsz I.ok.above⟩
theorem Inv.lt (I:Inv X pins σ H s):X.env.locals<s.heap.objs.size:=let ⟨_,hn,_⟩:=I.loc;hn.lt
theorem Inv.sz (I:Inv X pins σ H s):X.s₀.heap.objs.size<=s.heap.objs.size:=Nat.le_trans I.ok.above (Nat.le_of_lt I.lt)
theorem Inv.nofs (I:Inv X pins σ H s)  (h:s.heap.objs.size<=a):a∉X.fs:=fun c=>by
 obtain⟨_,o,b,_⟩:=I.ok.funs.mem c;exact absurd (Nat.lt_of_lt_of_le (Heap.lt_size b) (Nat.le_trans I.sz h)) (Nat.lt_irrefl _)
theorem Inv.cne (I:Inv X pins σ H s):∀x c,X.env.cells.lookup x=some c->c≠X.env.locals:=fun x c e z=>by
 obtain⟨v,o,d,i⟩:=I.cell x c e;obtain⟨m,⟨f,g,h,a,b,_⟩,_⟩:=I.loc
 simp_all
theorem Inv.funs (I:Inv X pins σ H s):s.heap.FunFrames X.base X.outer:=by
 have d:∀(l:List _),(∀b∈frs l,b∈X.fs)->X.s₀.heap.FunFrames X.base l->s.heap.FunFrames X.base l:=by
  intro l
  induction l with
  | nil=>intro _ _;trivial
  | cons h r j =>
   intro g q;obtain⟨i,⟨L,o,f,k,m,n⟩,p⟩:=q
   have c  := g L (by unfold frs;simp_all)
   obtain⟨t,e⟩:=I.base.slot L o m (I.ok.frf L c) c fun z=>I.ok.exfs L z c
   exact⟨i,⟨L,_,f,k,e,n⟩,j (fun b a=>g b (by unfold frs;rw[List.filterMap_cons,f];exact List.mem_cons_of_mem _ a)) p⟩
 exact d _ (fun _ a=>a) I.ok.funs
theorem Inv.stack (I:Inv X pins σ H s):s.heap.FunFrames X.base X.stack:=by
 rcases I.ok.stk with e | ⟨e,b⟩
 ·rw[e];exact I.funs
 ·rw[e]
  obtain⟨m,a,_⟩:=I.loc
  refine .cons (by rw[I.ok.kind];decide) b a ?_ I.funs
  exact Heap.get?_none_of_le (Nat.le_trans I.ok.bsz I.ok.above)
theorem Inv.stkSub (I:Inv X pins σ H s):∀b∈frs X.stack,b∈X.env.locals::X.fs:=fun b a=>by
 rcases I.ok.stk with e | ⟨e,c⟩
 ·simp_all
 ·rw[e]at a
  unfold frs at a;rw[List.filterMap_cons,c]at a;exact a
theorem Inv.stkFree (I:Inv X pins σ H s):∀b∈frs X.stack,H b=none:=fun b a=>by
 rcases List.mem_cons.mp (I.stkSub b a) with e | a
 ·rw[e];exact I.free
 ·obtain⟨_,o,c,_⟩:=I.ok.funs.mem a
  exact I.base.free b o c (I.ok.frf b a) fun z=>I.ok.exfs b z a
theorem Inv.step    {ch:List Addr}(I:Inv X pins σ H s)
 (j:∀b∈ch,(b∈X.ex\/X.s₀.heap.objs.size<=b)/\b≠X.env.locals/\(∀x c,X.env.cells.lookup x=some c->c≠b)/\∀p∈X.pn++pins,p.1≠b)
 (t:∀b o,b≠X.env.locals->b∉X.fs->b∉ch->s.heap.get? b=some o->H b=none->h'.get? b=some o)
 (slot:∀b o,b≠X.env.locals->b∈X.fs->b∉ch->s.heap.get? b=some o->H b=none->∃L,h'.get? b=some { o with slots:=L }) (f:∀b o,b∉ch->s.heap.get? b=some o->H b=none->H' b=none)
 (w:∀b o,b∉ch->s.heap.get? b=some o->∃O,h'.get? b=some O)
 (D:∀b J,H b=some (.tup J)->H' b=some (.tup J)) (F:∀b o u,H b=some (.frz o u)->H' b=some (.frz o u)) (C:∀b q,H b=some (.tbl q)->H' b=some (.tbl q))
 (ns:∀m,s.heap.Ns X.env.locals m->h'.Ns X.env.locals m) (N:HOk X.prog X.w H' h') (hg:AllBare g') :
 Inv X pins σ H' { s with heap:=h',gens:=g',drawn:=d',toks:=t' }:=by
 have G:∀b o,X.s₀.heap.get? b=some o->b≠X.env.locals:=fun b o e=>Nat.ne_of_lt (Nat.lt_of_lt_of_le (Heap.lt_size e) I.ok.above)
 have h:∀b o,X.s₀.heap.get? b=some o->b∉X.ex->b∉ch:=fun b o e a A=>by
  rcases (j b A).1 with z | z
  ·exact a z
  ·exact absurd (Nat.lt_of_lt_of_le (Heap.lt_size e) z) (Nat.lt_irrefl _)
 have g:∀x c,X.env.cells.lookup x=some c->∀v,s.heap.IsCell c v->h'.IsCell c v:=fun x c e v ⟨o,B,K⟩=>by
  have E:c∉ch:=fun z=>(j c z).2.2.1 x c e rfl
  by_cases hc:c∈X.fs
  ·obtain⟨L,q⟩:=slot c o (I.cne x c e) hc E B (I.freeC x c e)
   exact⟨_,q,K⟩
  ·exact⟨o,t c o (I.cne x c e) hc E B (I.freeC x c e),K⟩
 refine⟨I.ok,I.os,hg,⟨fun b o e n A a=>?_,fun b o e n A a=>?_,fun b o e n a=>?_,fun b o e a=>?_,fun b J e=>D b _ (I.base.tups b _ e),fun b o J e=>F b o _ (I.base.frzs b o _ e),fun b V e=>?_⟩,?_,fun x c e=>?_,?_,fun x c e=>?_,fun p Q=>?_,N,I.len⟩
 ·exact t b o (G b o e) A (h b o e a) (I.base.keep b o e n A a) (I.base.free b o e n a)
 ·obtain⟨L,y⟩:=I.base.slot b o e n A a
  obtain⟨P,M⟩:=slot b _ (G b o e) A (h b o e a) y (I.base.free b o e n a);exact⟨P,M⟩
 ·obtain⟨O,y⟩:=I.base.there b o e a
  exact f b _ (h b o e a) y (I.base.free b o e n a)
 ·obtain⟨O,y⟩:=I.base.there b o e a
  exact w b _ (h b o e a) y
 ·exact C b _ (I.base.tbls b _ e)
 ·obtain⟨m,R,S⟩:=I.loc
  refine⟨m,ns m R,fun i x v y M T=>?_⟩
  obtain⟨u,r,l⟩:=S i x v y M T
  refine⟨u,r,?_⟩
  rcases l with l | ⟨k,c,e,z⟩
  ·exact .inl l
  ·exact .inr ⟨k,c,e,g x c e _ z⟩
 ·obtain⟨v,z⟩:=I.cell x c e
  exact⟨v,g x c e v z⟩
 ·obtain⟨m,⟨o,_,_,B,_⟩,_⟩:=I.loc
  exact f _ o (fun z=>(j _ z).2.1 rfl) B I.free
 ·obtain⟨v,o,B,K⟩:=I.cell x c e
  exact f c o (fun z=>(j c z).2.2.1 x c e rfl) B (I.freeC x c e)
 ·obtain⟨e,n,W,U,d⟩:=I.pin p Q
  grind
theorem Inv.un  (I:Inv X pins σ H s) (u:Un X.fs [] H H' s.heap h') (g:HOk X.prog X.w H' h'):Inv X pins σ H' { s with heap:=h',toks:=t' }:=by
 obtain⟨m,⟨o,l,v,h,r⟩,_⟩:=id I.loc
 obtain⟨q,j⟩:=u.any h I.free (by simp)
 exact I.step   (ch:=[]) (fun _ z=>nomatch z) (fun b o _ c _ e n=>u.keep b o e n c (by simp)) (fun b o _ c _ e n=>u.slot b o e n c (by simp)) (fun b o _ e n=>u.free b o e n (by simp)) (fun b o _ e=>u.there b o e (by simp)) u.tups u.frzs u.tbls (fun t i=>by
  obtain⟨p,d,f,a,k⟩:=i;rw[h]at a;cases a
  exact⟨_,d,f,j,k⟩) g I.bare
theorem Inv.call     (I:Inv X pins σ H s) (u:Un (frs X.stack) ch H H' s.heap h') (g:HOk X.prog X.w H' h') (hg:AllBare g')
 (d:∀b∈ch,(b∈X.ex\/X.s₀.heap.objs.size<=b)/\b≠X.env.locals/\(∀x c,X.env.cells.lookup x=some c->c≠b)/\∀p∈X.pn++pins,p.1≠b) :
 Inv X pins σ H' { s with heap:=h',gens:=g',drawn:=d',toks:=t' }:=by
 obtain⟨m,⟨o,v,A,k,r⟩,_⟩:=id I.loc
 obtain⟨y,h⟩:=u.any k I.free fun z=>(d _ z).2.1 rfl
 exact I.step  d (fun b o h q a e n=>u.keep b o e n (fun z=>(List.mem_cons.mp (I.stkSub b z)).elim h q) a) (fun b o _ _ a e n=>u.any e n a) (fun b o a e n=>u.free b o e n a) (fun b o a e=>u.there b o e a) u.tups u.frzs u.tbls (fun B t=>by
  obtain⟨w,j,i,f,l⟩:=t;rw[k]at f;cases f
  exact⟨_,j,i,h,l⟩) g hg
theorem Inv.turned   (I:Inv X pins σ H s) (k:∀b o,b≠it->s.heap.get? b=some o->h'.get? b=some o) (hn:H it=none) (h:it≠X.env.locals)
 (h1:it∈X.ex\/X.s₀.heap.objs.size<=it) (h2:∀x c,X.env.cells.lookup x=some c->c≠it) (j:∀p∈X.pn++pins,p.1≠it):Inv X pins σ H { s with heap:=h',toks:=t' }:=by
 refine I.step   (ch:=[it]) (fun b t=>?_) (fun b o _ _ a e _=>k b o (fun z=>a (by grind)) e) (fun b o _ _ a e _=>⟨o.slots,k b o (fun z=>a (by grind)) e⟩) (fun _ _ _ _ n=>n)
  (fun b o a e=>⟨o,k b o (fun z=>a (by grind)) e⟩) (fun _ _ e=>e) (fun _ _ _ e=>e) (fun b l e=>e) (fun m g=>?_) (fun b u e=>?_) I.bare
 ·grind
 ·obtain⟨o,f,i,d,r⟩:=g
  exact⟨o,f,i,k _ o (Ne.symm h) d,r⟩
 ·refine (I.hok b u e).stay (fun c v a q=>k c v ?_ q) (fun _ q=>q) fun _ _ q=>q
  grind
theorem Inv.tok (I:Inv X pins σ H s)(t:Nat):Inv X pins σ H { s with toks:=t }:=I.un   Un.refl I.hok
theorem Inv.kept  (I:Inv X pins σ H s) (k:∀b u,s.heap.get? b=some u->h'.get? b=some u):Inv X pins σ H { s with heap:=h',toks:=t' }:=I.un (Un.kept k) (I.hok.kept k)
theorem Inv.laid    (I:Inv X pins σ H s) (k:∀b u,s.heap.get? b=some u->h'.get? b=some u) (hp:s.heap.objs.size<=a) (c:z8 X.prog X.w (upd H a o) h' a o) :
 Inv X pins σ (upd H a o) { s with heap:=h',toks:=t' }:=I.un (Un.laid k hp (I.hok.fresh hp)) (I.hok.laid k hp c)
theorem Inv.write    (I:Inv X pins σ H s) (d:Mut (H x)) (he:e=x\/H e=some (.own x)) (k:∀b u,b≠e->s.heap.get? b=some u->h'.get? b=some u) (a:∃u,h'.get? e=some u)
 (c:z8 X.prog X.w (upd H x o) h' x o):Inv X pins σ (upd H x o) { s with heap:=h',toks:=t' }:=I.un (Un.write d he k a) (I.hok.write d he k a c)
theorem Inv.pins_of  (I:Inv X pins σ H s) (h:∀p∈a,s.heap.get? p.1=some p.2/\H p.1=none/\p.1≠X.env.locals/\p.1∉X.fs/\∀v,p.2.data≠.cell v):Inv X a σ H s :=
 ⟨I.ok,I.os,I.bare,I.base,I.loc,I.cell,I.free,I.freeC,fun p b=>(List.mem_append.mp b).elim (fun z=>I.pin p (List.mem_append_left _ z)) (h p),I.hok,I.len⟩
theorem Ab4 {N:List Str}(hN:N.Nodup){i j:Nat}  (a:N[i]?=some x) (b:N[j]?=some x):i=j:=by
 obtain⟨e,d⟩:=List.getElem?_eq_some_iff.mp a;obtain⟨f,c⟩:=List.getElem?_eq_some_iff.mp b;exact(List.getElem_inj hN).mp (d.trans c.symm)
theorem Wa         (I:Inv X pins σ H s) (hN:X.N.Nodup) (hi:X.N[i]?=some x) (hx:Loc X.env.scope x) (r:RelV v u)
 (h:∀s',Inv X pins (σ.set i (some v)) H s'->(∃a,Heap.SameBut a s.heap s'.heap/\(a=X.env.locals\/X.env.cells.lookup x=some a))->Q () s') (hf:X.fn x=true\/X.env.scope.names.lookup x=some .local:=by first | exact .inl rfl | exact .inr rfl | assumption):wpAny M A (storeName X.env x u) Q E s:=by
 obtain⟨m,S,hl⟩:=id I.loc
 have K:(X.env.scope.kind==.class||(X.env.scope.kind==.module&&X.env.locals != X.env.globals))=false:=by rw[I.ok.kind];rfl
 have C:i<σ.length:=by rw[I.len];exact(List.getElem?_eq_some_iff.mp hi).1
 have J:=I.cne
 have g:∀{a:Addr} {L:Heap},(∃o,s.heap.get? a=some o/\H a=none)->Heap.SameBut a s.heap L->HOk X.prog X.w H L:=fun {a L} ha f b ob e=>by
  obtain⟨_,_,w⟩:=ha
  refine (I.hok b ob e).stay (fun c w' t q=>(f.2 c ?_).trans q) (fun _ q=>q) fun _ _ q=>q
  rintro rfl
  rcases t with rfl | t
  ·rw[w]at e;cases e
  ·rw[w]at t;cases t
 rcases hx with D | D
 ·refine wpAny_storeName_local D S (fun L hn' f=>?_) K
  obtain⟨oL,_,_,hoL,_⟩:=id S
  refine h _ ⟨I.ok,I.os,I.bare,⟨fun b o e n F hx=>?_,fun b o e n F hx=>?_,I.base.free,fun b o e hx=>?_,I.base.tups,I.base.frzs,I.base.tbls⟩,⟨_,hn',fun j y v' l B T=>?_⟩,fun y c e=>?_,I.free,I.freeC,fun p U=>?_,g ⟨oL,hoL,I.free⟩ f,by simpa using I.len⟩ ⟨_,f,.inl rfl⟩
  ·exact(f.2 b (Nat.ne_of_lt (Nat.lt_of_lt_of_le (Heap.lt_size e) I.ok.above))).trans (I.base.keep b o e n F hx)
  ·obtain⟨W,l⟩:=I.base.slot b o e n F hx
   exact⟨W,(f.2 b (Nat.ne_of_lt (Nat.lt_of_lt_of_le (Heap.lt_size e) I.ok.above))).trans l⟩
  ·obtain⟨Y,l⟩:=I.base.there b o e hx
   exact⟨Y,(f.2 b (Nat.ne_of_lt (Nat.lt_of_lt_of_le (Heap.lt_size e) I.ok.above))).trans l⟩
  ·by_cases hj:j=i
   ·subst hj
    rw[hi]at l;cases l;rw[List.getElem?_set_self C]at B
    cases B
    exact⟨u,r,.inl ⟨D,by simp⟩⟩
   ·rw[List.getElem?_set_ne (Ne.symm hj)]at B
    obtain⟨Z,r',q⟩:=hl j y _ l B T
    refine⟨Z,r',?_⟩
    rcases q with ⟨k,e⟩ | ⟨k,c,e,z⟩
    ·refine .inl ⟨k,?_⟩
     have:y≠x:=fun e=>hj (Ab4 hN l (e▸hi))
     simp[this,e]
    ·exact .inr ⟨k,c,e,z.sameBut f (J y c e)⟩
  ·obtain⟨w',z⟩:=I.cell y c e
   exact⟨w',z.sameBut f (J y c e)⟩
  ·obtain⟨e,n,R,nf,d⟩:=I.pin p U
   exact⟨(f.2 _ R).trans e,n,R,nf,d⟩
 ·have G:X.fn x=true:=by
   rcases hf with z | z
   ·exact z
   ·rw[z]at D;cases D
  obtain⟨c,t⟩:=I.ok.has x (.inl D);obtain⟨w',z⟩:=I.cell x c t
  refine wpAny_storeName_cell I.ok.kind D t z fun L N f=>?_
  obtain⟨oc,P,O⟩:=id z
  refine h _ ⟨I.ok,I.os,I.bare,⟨fun b o e n F hx=>?_,fun b o e n F hx=>?_,I.base.free,fun b o e hx=>?_,I.base.tups,I.base.frzs,I.base.tbls⟩,⟨m,S.sameBut f (Ne.symm (J x c t)),fun j y v' l B T=>?_⟩,fun y c' e=>?_,I.free,I.freeC,fun p U=>?_,g ⟨oc,P,I.freeC x c t⟩ f,by simpa using I.len⟩ ⟨c,f,.inr t⟩
  ·exact(f.2 b (Nat.ne_of_lt (Nat.lt_of_lt_of_le (Heap.lt_size e) (I.ok.cab x c G t)))).trans (I.base.keep b o e n F hx)
  ·obtain⟨W,l⟩:=I.base.slot b o e n F hx
   exact⟨W,(f.2 b (Nat.ne_of_lt (Nat.lt_of_lt_of_le (Heap.lt_size e) (I.ok.cab x c G t)))).trans l⟩
  ·obtain⟨Y,l⟩:=I.base.there b o e hx
   exact⟨Y,(f.2 b (Nat.ne_of_lt (Nat.lt_of_lt_of_le (Heap.lt_size e) (I.ok.cab x c G t)))).trans l⟩
  ·by_cases hj:j=i
   ·subst hj
    rw[hi]at l;cases l;rw[List.getElem?_set_self C]at B
    cases B
    exact⟨u,r,.inr ⟨.inl D,c,t,N⟩⟩
   ·rw[List.getElem?_set_ne (Ne.symm hj)]at B
    obtain⟨Z,r',q⟩:=hl j y _ l B T
    refine⟨Z,r',?_⟩
    rcases q with q | ⟨k,c',e,z'⟩
    ·exact .inl q
    ·refine .inr ⟨k,c',e,z'.sameBut f ?_⟩
     rintro rfl
     exact hj (Ab4 hN l (I.ok.inj _ _ _ e t▸hi))
  ·by_cases hcc:c'=c
   ·subst hcc;exact⟨_,N⟩
   ·obtain⟨w2,z2⟩:=I.cell y _ e
    exact⟨w2,z2.sameBut f hcc⟩
  ·obtain⟨e,n,R,nf,d⟩:=I.pin p U
   refine⟨(f.2 _ ?_).trans e,n,R,nf,d⟩
   intro q;rw[q,P]at e
   exact d _ (by rw[<- (Option.some.inj e)];exact O)
theorem Gi         (I:Inv X pins σ H s) (hN:X.N.Nodup) (hi:X.N[i]?=some x) (hx:Loc X.env.scope x) (r:RelV v u)
 (h:∀a,Inv X pins (σ.set i (some v)) H a->Q () a) (hf:X.fn x=true\/X.env.scope.names.lookup x=some .local:=by first | exact .inl rfl | exact .inr rfl | assumption):wpAny M A (storeName X.env x u) Q E s :=
 Wa I hN hi hx r (fun a b _=>h _ b) hf
theorem Inv.call'   (I:Inv X pins σ H s) (ho:s'.os=s.os) (u:Un (frs X.stack) ch H H' s.heap s'.heap) (d:HOk X.prog X.w H' s'.heap) (hg:AllBare s'.gens)
 (a:∀b∈ch,(b∈X.ex\/X.s₀.heap.objs.size<=b)/\b≠X.env.locals/\(∀x c,X.env.cells.lookup x=some c->c≠b)/\∀p∈X.pn++pins,p.1≠b):Inv X pins σ H' s':=by
 obtain⟨f,g,h,i,e⟩:=s';subst ho;exact I.call    u d hg a
end
abbrev XK:=Value->Option Addr->Hp->Prop
abbrev St:=List (Option V)
abbrev VK:=V->Hp->Prop
abbrev TE:=St->Hp->VK->Prop
abbrev TT:=St->Hp->(Bool->Hp->Prop)->Prop
abbrev TA:=St->Hp->(List V->Hp->Prop)->Prop
structure Ends where
 nx:St->Hp->Prop
 rt:VK
 bk:St->Hp->Prop:=fun _ _=>False
 ct:St->Hp->Prop:=fun _ _=>False
abbrev TS:=Ends->St->Hp->Prop
def EP (X:Cx)(pins:List (Addr×Obj))(σ:St)(Q:VK)(u:Value)(s':Shared):Prop:=∃v H',Inv X pins σ H' s'/\RelV v u/\Q v H'
def TP (X:Cx)(pins:List (Addr×Obj))(σ:St)(Q:Bool->Hp->Prop)(b:Bool)(s':Shared):Prop:=∃H',Inv X pins σ H' s'/\Q b H'
def AP (X:Cx)(pins:List (Addr×Obj))(σ:St)(Q:List V->Hp->Prop)(us:List Value)(s':Shared):Prop:=∃vs H',Inv X pins σ H' s'/\Vals vs us/\Q vs H'
def SP (X:Cx)(pins:List (Addr×Obj))(D:Ends)(f:Flow)(s':Shared):Prop :=
 match f with
 | .next=>∃σ' H',Inv X pins σ' H' s'/\D.nx σ' H'
 | .brk=>∃σ' H',Inv X pins σ' H' s'/\D.bk σ' H'
 | .cont=>∃σ' H',Inv X pins σ' H' s'/\D.ct σ' H'
 | .ret u=>∃v σ' H',Inv X pins σ' H' s'/\RelV v u/\D.rt v H'
def PE (X:Cx)(e:Expr)(t:TE):Prop :=
 ∀(pins:List (Addr×Obj)) (s:Shared) (σ:St) (H:Hp) (Q:VK),Inv X pins σ H s->t σ H Q->wpAny (model X.prog X.w) X.A (eval e X.env) (EP X pins σ Q) X.xe s
def PT (X:Cx)(e:Expr)(t:TT):Prop :=
 ∀(pins:List (Addr×Obj)) (s:Shared) (σ:St) (H:Hp) (Q:Bool->Hp->Prop),Inv X pins σ H s->t σ H Q->wpAny (model X.prog X.w) X.A (isTrue e X.env (eval e X.env)) (TP X pins σ Q) X.xe s
def PW (X:Cx)(e:Expr)(t:TT):Prop :=
 ∀(whole:Sem Value) (pins:List (Addr×Obj)) (s:Shared) (σ:St) (H:Hp) (Q:Bool->Hp->Prop),Inv X pins σ H s->t σ H Q->wpAny (model X.prog X.w) X.A (isTrue e X.env whole) (TP X pins σ Q) X.xe s
theorem PW.pt    (h:PW X e t):PT X e t:=h _
def PA (X:Cx)(es:List Expr)(t:TA):Prop :=
 ∀(pos:Pos) (pins:List (Addr×Obj)) (s:Shared) (σ:St) (H:Hp) (Q:List V->Hp->Prop),Inv X pins σ H s->t σ H Q->wpAny (model X.prog X.w) X.A (spliced (backTo pos (starEach es X.env))) (AP X pins σ Q) X.xe s
def PS (X:Cx)(st:Stmt)(t:TS):Prop :=
 ∀(pins:List (Addr×Obj)) (s:Shared) (σ:St) (H:Hp) (D:Ends),Inv X pins σ H s->t D σ H->wpAny (model X.prog X.w) X.A (exec st X.env) (SP X pins D) X.xe s
def PSs (X:Cx)(st:List Stmt)(t:TS):Prop :=
 ∀(pins:List (Addr×Obj)) (s:Shared) (σ:St) (H:Hp) (D:Ends),Inv X pins σ H s->t D σ H->wpAny (model X.prog X.w) X.A (execs st X.env) (SP X pins D) X.xe s
theorem thn  {t:Sem c}{Q b:c->Shared->Prop}     (h:wpAny M A t Q E s) (d:∀a s,Q a s->b a s):wpAny M A t b E s:=wpAny_mono h d fun _ _ x=>x
section
variable {X:Cx}
def Oz (i:Nat):TE:=fun σ H Q=>∃v,σ[i]?=some (some v)/\Q v H
def tC (v:V):TE:=fun _ H Q=>Q v H
theorem Xj   {f:Pos}(hN:X.N[i]?=some x) (hv:Vis X.env.scope x) (hd:(x==("__debug__" : Str))=false:=by decide) (hcd:(x==("__classdict__" : Str))=false:=by decide):PE X (.Name x f) (Oz i):=by
 intro j s p H Q I h;obtain⟨v,e,h⟩:=h;obtain⟨m,k,n⟩:=I.loc;obtain⟨u,r,l⟩:=n i x v hN e hv;have b:EP X _ _ Q u s:=⟨v,H,I,r,h⟩
 rcases l with ⟨d,o⟩ | ⟨d,c,g,a⟩
 ·exact wpAny_Name (wpAny_loadName_local I.ok.kind d k o b) hd
 ·rcases d with d | d
  ·exact wpAny_Name (wpAny_loadName_cell I.ok.kind d g a b) hd
  ·exact wpAny_Name (wpAny_loadName_free I.ok.kind d g a b hcd) hd
theorem A1z  : PE X (.Constant (.int i) j a) (tC (.int i)):=fun _ _ _ H _ I h=>wpAny_Constant_int ⟨.int i,H,I.tok _,⟨_,rfl⟩,h⟩
theorem Ba8  : PE X (.Constant (.bool b) j a) (tC (.bl b)):=fun _ _ _ H _ I h=>Constant_bool ⟨.bl b,H,I,rfl,h⟩
theorem A0g  : PE X (.Constant .none j a) (tC .non):=fun _ _ _ H _ I h=>Constant_none ⟨.non,H,I,rfl,h⟩
theorem A2j  : PE X (.Constant (.str x) j a) (tC (.str x)):=fun _ _ _ H _ I h=>Calls.Constant_str ⟨.str x,H,I.tok _,⟨_,rfl⟩,h⟩
def Gl (X:Cx)(x:Str):Prop:=X.env.kindOf x=some .globalImplicit
theorem Ir          (I:Inv X pins b H s) (hg:Gl X x) (hm:X.mg x=some u) (h:Q u s)
 (hd:(x==("__debug__" : Str))=false:=by decide):wpAny (model X.prog X.w) X.A (eval (.Name x a) X.env) Q E s :=
 Calls.Name_function_global I.ok.kind hg (Calls.loadGlobal_global (by rw[I.ok.glob];exact I.mod.glob.keeps I.bk) hm h) hd
theorem Qa {E:Value->Shared->Prop}       {a:Pos}  (I:Inv X pins c H s) (hg:Gl X x) (hm:X.mg x=none) (hv:bootBuiltins x=some u) (h:Q u s)
 (hn:x ≠ "__name__" := by decide) (hd:(x==("__debug__" : Str))=false:=by decide):wpAny (model X.prog X.w) X.A (eval (.Name x a) X.env) Q E s:=by
 obtain⟨e,d,b⟩:=I.mod.blt
 exact Calls.Name_function_global I.ok.kind hg (Calls.loadGlobal_builtin (by rw[I.ok.glob];exact I.mod.glob.keeps I.bk) hm (by rw[I.ok.blt];exact d.keeps I.bk) ((b x hn).trans hv) h) hd
theorem A7d     (hg:Gl X x) (hm:X.mg x=some u) (r:RelV v u) (hd:(x==("__debug__" : Str))=false:=by decide):PE X (.Name x a) (tC v) :=
 fun _ _ _ H _ I h=>Ir I hg hm ⟨v,H,I,r,h⟩ hd
theorem A6z    {a:Pos}(hg:Gl X x) (hm:X.mg x=none) (hv:bootBuiltins x=some u) (r:RelV v u) (hn:x ≠ "__name__" := by decide) (hd:(x==("__debug__" : Str))=false:=by decide):PE X (.Name x a) (tC v) :=
 fun _ _ _ H _ I h=>Qa I hg hm hv ⟨v,H,I,r,h⟩ hn hd
variable {a b:Expr}{ta tb:TE}{pos:Pos}
def tB (t:TE):TT:=fun σ H Q=>t σ H fun x H1=>∃c,x=.bl c/\Q c H1
theorem Bj5   (h:PE X e t) (he:∀whole,isTrue e X.env whole=(do let v <- whole;standAt e.pos;holding [v] (truthy v)):=by intro _;rfl):PT X e (tB t):=by
 intro a s σ H Q I f
 refine isTrue_plain (thn (h _ s _ H _ I f) fun v s1 ⟨x,g,b,c,i⟩=>?_) (he _)
 obtain⟨d,rfl,q⟩:=i
 cases c
 exact wpAny_truthy_bool ⟨g,b,q⟩
variable {tA tB':TT}{rest:List Expr}
def Bn9 (t u:TT):TT:=fun σ H Q=>t σ H fun c H1=>if c=true then u σ H1 Q else Q false H1
def tOr (t u:TT):TT:=fun σ H Q=>t σ H fun c H1=>if c=true then Q true H1 else u σ H1 Q
def Be9 (t:TT):TT:=fun σ H Q=>t σ H fun c H1=>Q (!c) H1
theorem A7h (ha:PT X a tA):PW X (.BoolOp .And [a] pos) tA:=by
 intro f b s g H Q I h
 refine isTrue_and (thn (ha _ s _ H Q I h) fun c d e=>?_)
 cases c with
 | true=>exact isTrue_and_nil e
 | false=>exact e
theorem Bp1 (ha:PT X a tA):PW X (.BoolOp .Or [a] pos) tA:=by
 intro f b s g H Q I h
 refine isTrue_or (thn (ha _ s _ H Q I h) fun c d e=>?_)
 cases c with
 | false=>exact isTrue_or_nil e
 | true=>exact e
theorem Bp4 (ha:PT X a tA)(hb:PW X (.BoolOp .And (b::rest) pos) tB'):PW X (.BoolOp .And (a::b::rest) pos) (Bn9 tA tB'):=by
 intro g d s k H Q I h
 refine isTrue_and (thn (ha _ s _ H _ I h) fun c i ⟨j,f,e⟩=>?_)
 cases c with
 | true=>exact hb _ _ _ _ _ Q f e
 | false=>trivial
theorem Bt4 (ha:PT X a tA)(hb:PW X (.BoolOp .Or (b::rest) pos) tB'):PW X (.BoolOp .Or (a::b::rest) pos) (tOr tA tB'):=by
 intro g d s k H Q I h
 refine isTrue_or (thn (ha _ s _ H _ I h) fun c i ⟨j,f,e⟩=>?_)
 cases c with
 | true=>assumption
 | false=>exact hb _ _ _ _ _ Q f e
theorem Bl4 (ha:PT X a tA):PT X (.UnaryOp .Not a pos) (Be9 tA):=by
 intro b s c H Q I h;exact isTrue_not (ha _ s _ H _ I h)
def A4k (ta tb:TE):TE:=fun σ H Q=>ta σ H fun x H1=>∃c,x=.bl c/\if c=true then tb σ H1 Q else Q (.bl false) H1
def A1s (ta:TE):TE:=fun σ H Q=>ta σ H fun x H1=>∃c,x=.bl c/\Q (.bl (!c)) H1
theorem Bp8   (h:PE X a t):PE X (.BoolOp op [a] pos) t:=fun b s d H Q I c=>BoolOp_one (h _ s _ H Q I c)
theorem Bk8 (ha:PE X a ta)(hb:PE X (.BoolOp .And (b::rest) pos) tb):PE X (.BoolOp .And (a::b::rest) pos) (A4k ta tb):=by
 intro e s σ H Q I h
 refine BoolOp_and (thn (ha _ s _ H _ I h) fun v s1 ⟨x,i,f,g,d⟩=>?_)
 obtain⟨c,rfl,d⟩:=d
 cases g
 refine wpAny_truthy_bool ?_
 cases c with
 | true=>exact hb _ _ _ _ Q f d
 | false=>exact⟨.bl _,i,f,rfl,d⟩
theorem Bn6 (ha:PE X a ta):PE X (.UnaryOp .Not a pos) (A1s ta):=by
 intro d s σ H Q I h
 refine UnaryOp_ (thn (ha _ s _ H _ I h) fun v s1 ⟨x,f,g,e,b⟩=>?_)
 obtain⟨c,rfl,b⟩:=b
 cases e
 exact not_of (wpAny_truthy_bool ⟨.bl _,f,g,rfl,b⟩)
def tIf (t:TT)(ta tb:TE):TE:=fun σ H Q=>t σ H fun c H1=>if c=true then ta σ H1 Q else tb σ H1 Q
theorem A3e  (hc:PT X c tA) (ha:PE X a ta) (hb:PE X b tb):PE X (.IfExp c a b pos) (tIf tA ta tb):=by
 intro g s i H Q I h
 refine wpAny_IfExp (thn (hc _ s _ H _ I h) fun d k ⟨j,f,e⟩=>?_)
 cases d with
 | true=>exact ha _ _ _ _ Q f e
 | false=>exact hb _ _ _ _ Q f e
end
def SqL (K:PySem.W.Frag)(H:Hp)(a:Addr)(xs:List V):Prop :=
 Rd H a (.lst xs) \/
  ∃(o:Obj) (its:Array Value) (n:Nat),K.lookup a=some o/\o.cls=.type "list" /\ o.dict=none/\o.data=.seq its n/\its.size<=sizeLine/\Vals xs its.toList
def SqT (K:PySem.W.Frag)(H:Hp)(a:Addr)(xs:List V):Prop :=
 Rd H a (.tup xs) \/
  ∃(o:Obj) (its:Array Value) (n:Nat),K.lookup a=some o/\o.cls=.type "tuple" /\ o.data=.seq its n/\its.size<=sizeLine/\Vals xs its.toList
def Bw5:Value->Option V
 | .none=>some .non
 | .bool b=>some (.bl b)
 | .int i _=>some (.int i)
 | .str x _=>some (.str x)
 | .bytes b _=>some (.byt b)
 | .float b _=>some (.flt b)
 | .ref a=>some (.ref a)
 | .type n=>some (.ty n)
 | _=>none
theorem RelV.abs   (r:RelV x u):Bw5 u=some x:=by
 cases x with
 | non=>cases r;rfl
 | bl _=>cases r;rfl
 | int _=>obtain⟨t,rfl⟩:=r;rfl
 | str _=>obtain⟨t,rfl⟩:=r;rfl
 | byt _=>obtain⟨t,rfl⟩:=r;rfl
 | flt _=>obtain⟨t,rfl⟩:=r;rfl
 | ref _=>cases r;rfl
 | ty _=>cases r;rfl
theorem RelV.inj   (r:RelV x u) (q:RelV y u):x=y:=Option.some.inj (r.abs.symm.trans q.abs)
theorem Vals.inj:∀{xs ys:List V}{us:List Value},Vals xs us->Vals ys us->xs=ys
 | _,_,_,.nil,.nil=>rfl
 | _,_,_,.cons r t,.cons r' t'=>by rw[r.inj r',Vals.inj t t']
section
variable {X:Cx}{pins:List (Addr×Obj)}{σ:St}{H:Hp}{s:Shared}{a:Addr}{xs ys:List V}
theorem SqL.of {K:PySem.W.Frag}(h:H a=some (.lst xs)):SqL K H a xs:=.inl (.inl h)
theorem SqT.of {K:PySem.W.Frag}(h:H a=some (.tup xs)):SqT K H a xs:=.inl (.inl h)
theorem Inv.list (I:Inv X pins σ H s)(h:SqL X.K H a xs):∃b:List Value,Vals xs b/\PlainL s.heap a b.toArray/\xs.length<=sizeLine:=by
 rcases h with h | ⟨o,b,n,d,c,f,i,g,r⟩
 ·obtain⟨z,b,n,r,e⟩:=h.ok I.hok
  exact⟨b,r,⟨_,n,e,rfl,rfl,rfl⟩,z⟩
 ·refine⟨b.toList,r,⟨o,n,I.kIn a o d,c,f,by trivial⟩,?_⟩
  have e:=r.length
  simp_all
theorem Inv.tuple (I:Inv X pins σ H s)(h:SqT X.K H a xs):∃b:List Value,Vals xs b/\IsTup s.heap a b.toArray/\xs.length<=sizeLine:=by
 rcases h with h | ⟨o,b,n,d,c,g,f,r⟩
 ·obtain⟨z,b,r,p⟩:=h.ok I.hok
  exact⟨b,r,p.tup,z⟩
 ·refine⟨b.toList,r,⟨o,I.kIn a o d,c,n,by trivial⟩,?_⟩
  have e:=r.length
  simp_all
theorem Inv.list_inj (I:Inv X pins σ H s)(h:SqL X.K H a xs)(h':SqL X.K H a ys):xs=ys:=by
 obtain⟨c,r,⟨o,n,e,_,_,d⟩,_⟩:=I.list h;obtain⟨b,f,⟨i,j,k,_,_,g⟩,_⟩:=I.list h'
 have:c=b:=by simp_all
 subst this;exact r.inj f
theorem Inv.tuple_inj (I:Inv X pins σ H s)(h:SqT X.K H a xs)(h':SqT X.K H a ys):xs=ys:=by
 obtain⟨c,r,⟨o,e,_,n,d⟩,_⟩:=I.tuple h;obtain⟨b,f,⟨i,j,_,k,g⟩,_⟩:=I.tuple h'
 have:c=b:=by simp_all
 subst this;exact r.inj f
end
abbrev Cx.wish (X:Cx)(E:Value->Shared->Prop):Cx:={ X with xe:=E }
abbrev Cx.nox (X:Cx):Cx:=X.wish fun _ _=>False
theorem Cx.Ok.wish {X:Cx}(a:X.Ok)(E:Value->Shared->Prop):(X.wish E).Ok :=
 ⟨a.mod,a.kind,a.glob,a.blt,a.above,a.inj,a.has,a.cab,a.hd,a.frames,a.stk,a.exf,a.bs,a.bsz,a.noex,a.exfs,a.funs,a.frf,a.tab⟩
theorem Cx.Ok.unwish {X:Cx}  (a:(X.wish E).Ok):X.Ok :=
 ⟨a.mod,a.kind,a.glob,a.blt,a.above,a.inj,a.has,a.cab,a.hd,a.frames,a.stk,a.exf,a.bs,a.bsz,a.noex,a.exfs,a.funs,a.frf,a.tab⟩
section
variable {X:Cx}{pins:List (Addr×Obj)}{σ:St}{H:Hp}{s:Shared}{E:Value->Shared->Prop}
theorem Inv.wish (I:Inv X pins σ H s)(E:Value->Shared->Prop):Inv (X.wish E) pins σ H s:=⟨I.ok.wish E,I.os,I.bare,I.base,I.loc,I.cell,I.free,I.freeC,I.pin,I.hok,I.len⟩
theorem Inv.unwish (I:Inv (X.wish E) pins σ H s):Inv X pins σ H s:=⟨I.ok.unwish,I.os,I.bare,I.base,I.loc,I.cell,I.free,I.freeC,I.pin,I.hok,I.len⟩
theorem SP.unwish    (h:SP (X.wish E) pins D f s'):SP X pins D f s':=by
 cases f with
 | next=>obtain⟨a,b,I,q⟩:=h;exact⟨a,b,I.unwish,q⟩
 | brk=>obtain⟨a,b,I,q⟩:=h;exact⟨a,b,I.unwish,q⟩
 | cont=>obtain⟨a,b,I,q⟩:=h;exact⟨a,b,I.unwish,q⟩
 | ret u=>obtain⟨v,a,b,I,r,q⟩:=h;exact⟨v,a,b,I.unwish,r,q⟩
theorem PSs.nox {st:List Stmt}  (h:PSs X.nox st t):PSs X st t:=fun a s c H D I b =>
 wpAny_mono (h _ s _ H D (I.wish _) b) (fun _ _ q=>q.unwish) fun _ _ z=>False.elim z
end
section
variable {X:Cx}{st:Stmt}{rest:List Stmt}{t u:TS}{e:Expr}{te:TE}{pos:Pos}
def A1w:TS:=fun D σ H=>D.nx σ H
def Az9 (t u:TS):TS:=fun D σ H=>t { D with nx:=u D } σ H
theorem A8i:PSs X [] A1w:=fun _ _ a H _ I h=>wpAny_execs_nil ⟨a,H,I,h⟩
theorem A0q (h1:PS X st t)(h2:PSs X rest u):PSs X (st::rest) (Az9 t u):=by
 intro a s d H D I h
 refine wpAny_execs_cons (thn (h1 _ s _ H _ I h) fun f e q=>?_)
 cases f with
 | next =>
  obtain⟨c,g,b,q⟩:=q;exact h2 _ _ _ _ D b q
 | ret v=>exact q
 | brk=>exact q
 | cont=>exact q
theorem An1 (h1:PS X st t):PSs X [st] t:=by
 intro a s c H D I h
 refine wpAny_execs_cons (thn (h1 _ s _ H D I h) fun f b q=>?_)
 cases f with
 | next=>exact wpAny_execs_nil q
 | ret v=>grind
 | brk=>grind
 | cont=>grind
theorem Inv.quiet     (I:Inv X pins a H s):interactive X.env=false:=by simp[interactive,I.ok.kind]
def Ao8 (te:TE):TS:=fun D σ H=>te σ H fun _ H1=>D.nx σ H1
theorem A6e (he:PE X e te)(hs:swapsWith e none pos.line X.env=pure false:=by rfl):PS X (.Expr e pos) (Ao8 te):=by
 intro a s c H D I h
 exact wpAny_Expr_any (thn (he _ s _ H _ I h) fun v g ⟨x,f,d,i,b⟩=>⟨c,f,d,b⟩) I.quiet hs
def Bo3 (te:TE):TS:=fun D σ H=>te σ H D.rt
theorem Bj6 (he:PE X e te):PS X (.Return (some e) pos) (Bo3 te):=by
 intro a s c H D I h
 exact wpAny_Return_some (thn (he _ s _ H _ I h) fun v i ⟨x,f,d,g,b⟩=>⟨x,c,f,d,g,b⟩)
def A7j (c:TT)(t u:TS):TS:=fun D σ H=>c σ H fun b H1=>if b=true then t D σ H1 else u D σ H1
theorem Bu5    (hc:PT X c f) (ha:PSs X a t) (hb:PSs X b u):PS X (.If c a b pos) (A7j f t u):=by
 intro i s j H D I h
 refine wpAny_If (thn (hc _ s _ H _ I h) fun d l ⟨k,g,e⟩=>?_)
 cases d with
 | true=>exact ha _ _ _ _ D g e
 | false=>exact hb _ _ _ _ D g e
end
abbrev TG:=V->St->Hp->(St->Hp->Prop)->Prop
abbrev TGs:=List V->St->Hp->(St->Hp->Prop)->Prop
def PG (X:Cx)(target:Expr)(t:TG):Prop :=
 ∀
  (pins:List (Addr×Obj)) (s:Shared) (σ:St) (H:Hp) (v:V) (u:Value) (Q:St->Hp->Prop),Inv X pins σ H s->RelV v u->t v σ H Q ->
  wpAny (model X.prog X.w) X.A (assign target X.env u) (fun _ s'=>∃σ' H',Inv X pins σ' H' s'/\Q σ' H') X.xe s
def PGs (X:Cx)(ts:List Expr)(t:TGs):Prop :=
 ∀
  (pins:List (Addr×Obj)) (s:Shared) (σ:St) (H:Hp) (vs:List V) (us:List Value) (Q:St->Hp->Prop),Inv X pins σ H s->Vals vs us->t vs σ H Q ->
  wpAny (model X.prog X.w) X.A (assignInOrder ((assignEach ts X.env).map (·.2)) us) (fun _ s'=>∃σ' H',Inv X pins σ' H' s'/\Q σ' H') X.xe s
abbrev Br2:=V->V->V->Hp->(Hp->Prop)->Prop
def Bf6 (X:Cx)(t:Br2):Prop :=
 ∀
  (pins:List (Addr×Obj)) (s:Shared) (σ:St) (H:Hp) (o i v:V) (ov iv u:Value) (Q:Hp->Prop),Inv X pins σ H s->RelV o ov->RelV i iv->RelV v u->t o i v H Q ->
  wpAny (model X.prog X.w) X.A (setItem ov iv u) (fun _ s'=>∃H',Inv X pins σ H' s'/\Q H') X.xe s
section
variable {X:Cx}{pos:Pos}
def Ju (i:Nat):TG:=fun v σ H Q=>Q (σ.set i (some v)) H
theorem A7i   (hN:X.N.Nodup) (hi:X.N[i]?=some x) (hx:Loc X.env.scope x) (hf:X.fn x=true\/X.env.scope.names.lookup x=some .local:=by first | exact .inl rfl | exact .inr rfl | assumption):PG X (.Name x pos) (Ju i):=by
 intro a s c H v u Q I r h
 exact wpAny_assign_Name (Gi I hN hi hx r (fun d b=>⟨_,H,b,h⟩) hf)
def Az2:TGs:=fun vs σ H Q=>vs=[]/\Q σ H
def Us (t:TG)(u:TGs):TGs:=fun vs σ H Q=>∃v r,vs=v::r/\t v σ H fun σ' H'=>u r σ' H' Q
theorem A7y:PGs X [] Az2:=by
 intro a s b H d c Q I r h;obtain⟨e,h⟩:=h;exact assignInOrder_nil ⟨b,H,I,h⟩
theorem A4p     (h1:PG X e t) (h2:PGs X es u)
 (hs:(assignEach (e::es) X.env).map (·.2)=assign e X.env::(assignEach es X.env).map (·.2):=by rfl):PGs X (e::es) (Us t u):=by
 intro a s i H j n Q I r h;obtain⟨v,l,f,h⟩:=h;subst f
 cases r with
 | cons r d =>
  rw[hs]
  refine assignInOrder_cons (thn (h1 _ s _ H _ _ _ I r h) fun _ k ⟨c,m,g,b⟩=>?_)
  exact h2 _ _ _ _ _ _ Q g d b
def A1d (K:PySem.W.Frag)(n:Nat)(t:TGs):TG:=fun v σ H Q=>∃a xs,v=.ref a/\SqT K H a xs/\xs.length=n/\t xs σ H Q
theorem Bm8  {k:Nat}   (hc:X.calm=true) (h:PGs X es t)
 (hn:(assignEach es X.env).length=n:=by rfl) (hst:(assignEach es X.env).findIdx? (·.1)=none:=by rfl):PG X (.Tuple es k pos) (A1d X.K n t):=by
 intro d s x H v u Q I r c;obtain⟨a,y,j,l,m,c⟩:=c;subst j
 cases r
 obtain⟨g,i,q,z⟩:=I.tuple l
 refine assign_Tuple_tuple (I.ok.hd hc) q (by simp[hn,<- m,i.length]) hst fun p w=>?_
 have f:Inv X _ _ H { s with heap:=p }:=I.kept  fun b o e=>w b o (Nat.ne_of_lt (Heap.lt_size e)) e
 exact h _ _ _ H _ _ Q f (by trivial) c
def Bc2 (to ti:TE)(t:Br2):TG:=fun v σ H Q=>to σ H fun o H1=>ti σ H1 fun i H2=>t o i v H2 fun H3=>Q σ H3
theorem Bg1    (ho:PE X o e) (hi:PE X i d) (hs:Bf6 X t)
 (ha:∀v,assign (.Subscript o i pos) X.env v=(do
  let a <- holding [v] (eval o X.env)
  let b <- holding [v,a] (eval i X.env)
  standAt pos
  holding [v,a,b] (setItem a b v)
  release [v,a,b] []):=by intro _;rfl):PG X (.Subscript o i pos) (Bc2 e d t):=by
 intro c s m H v u Q I r h;rw[ha]
 refine wpAny_bind (wpAny_holding (thn (ho _ s _ H _ I h) fun a z ⟨x,C,j,k,l⟩=>?_))
 refine wpAny_bind (wpAny_holding (thn (hi _ _ _ _ _ j l) fun b D ⟨y,A,g,p,n⟩=>?_))
 refine wpAny_bind (wpAny_standAt (wpAny_bind (wpAny_holding (thn (hs _ _ _ _ x y v _ _ u _ g k p r n) fun _ B ⟨q,w,f⟩=>?_))))
 exact wpAny_release ⟨m,q,w,f⟩
def Vi (te:TE)(g:TG):TS:=fun D σ H=>te σ H fun x H1=>g x σ H1 D.nx
theorem Bj1    (he:PE X e b) (hg:PG X a g) (hs:swapsWithSole [a] e pos.line X.env=pure false:=by rfl) (hw:swappedStores [a] e X.env=pure none:=by rfl)
 (h1:(assignEach [a] X.env).map (·.2)=[assign a X.env]:=by rfl):PS X (.Assign [a] e pos) (Vi b g):=by
 intro c s k H D I h
 refine wpAny_Assign_stores (thn (he _ s _ H _ I h) fun v l ⟨x,m,d,i,f⟩=>?_) hs hw
 rw[h1]
 exact thn (hg _ _ _ _ x v _ d i f) fun _ j q=>q
theorem A0f      (hN:X.N.Nodup) (hi:X.N[i]?=some x) (hx:Loc X.env.scope x) (he:PE X e b) (hs:swapsWith e (some (.Name x a)) pos.line X.env=pure false:=by rfl) (hf:X.fn x=true\/X.env.scope.names.lookup x=some .local:=by first | exact .inl rfl | exact .inr rfl | assumption) :
 PS X (.Assign [.Name x a] e pos) (Vi b (Ju i)):=by
 intro c s l H D I h
 refine wpAny_Assign_Name (thn (he _ s _ H _ I h) fun v m ⟨y,j,f,g,k⟩=>?_) hs
 exact Gi f hN hi hx g (fun n d=>⟨_,j,d,k⟩) hf
def Bi9 (i j:Nat)(ta:TA):TS:=fun D σ H=>ta σ H fun vs H1=>∃v w,vs=[v,w]/\D.nx ((σ.set i (some v)).set j (some w)) H1
theorem Bh7       (hc:X.calm=true) (hN:X.N.Nodup) (hi:X.N[i]?=some x) (hj:X.N[j]?=some y) (hij:i≠j)
 (hx:X.env.scope.names.lookup x=some .local) (hy:X.env.scope.names.lookup y=some .local) (ha:PA X [a,b] C)
 (hw:swappedStores [.Tuple [.Name x m,.Name y r] n t] (.Tuple [a,b] k2 d) X.env=pure (some [x,y]))
 (hs:swapsWithSole [.Tuple [.Name x m,.Name y r] n t] (.Tuple [a,b] k2 d) pos.line X.env=pure false:=by rfl) :
 PS X (.Assign [.Tuple [.Name x m,.Name y r] n t] (.Tuple [a,b] k2 d) pos) (Bi9 i j C):=by
 intro c s B H D I h;rw[exec_Assign_arm]
 refine wpAny_bind (wpAny_standAt ?_)
 rw[hs]
 refine wpAny_bind (wpAny_pure ?_)
 rw[if_neg (by decide)]
 refine wpAny_bind (Tuple_ (thn (ha _ c s B H _ I h) fun L f ⟨vs,E,M,F,l⟩=>?_))
 obtain⟨v,w,G,l⟩:=l;subst G
 obtain⟨k,g,rfl,K,u⟩:∃k g,L=[k,g]/\RelV v k/\RelV w g:=by
  cases F with
  | cons p q =>
   cases q with
   | cons p' O =>
    cases O
    grind
 refine wpAny_newObj_type ?_ (by show 2<=sizeLine;decide)
 have J:Inv X c B E { f with heap:=f.heap.push { cls:=.type "tuple",data:=.seq [k,g].toArray } }:=M.kept (t':=f.toks) fun b o e=>Heap.get?_push_of_some _ e
 rw[hw]
 refine wpAny_bind (wpAny_pure ?_)
 show wpAny (model X.prog X.w) X.A (do rule "assign.swapped-stores";let items <- unpackItems (.ref f.heap.objs.size) 2 none;assignInOrder [fun v=>bindName X.env y v,fun v=>bindName X.env x v] items.reverse;pure Flow.next) _ _ _
 refine wpAny_bind (wpAny_rule (wpAny_bind (unpackItems_tuple (items:=#[k,g]) (I.ok.hd hc) (IsTup.new _ _) fun h' z=>?_)))
 refine wpAny_bind (assignInOrder_cons (wpAny_bindName (Gi (J.kept  (t':=f.toks) fun b o e=>z b o (Nat.ne_of_lt (Heap.lt_size e)) e) hN hj (.inl hy) u (fun s2 N=>?_) (.inr hy))))
 refine assignInOrder_cons (wpAny_bindName (Gi N hN hi (.inl hx) K (fun s3 A=>assignInOrder_nil (wpAny_pure ?_)) (.inr hx)))
 rw[List.set_comm _ _ (Ne.symm hij)]at A;exact⟨_,E,A,l⟩
end
structure It where
 go:Nat->Hp->Prop
 yld:Nat->Hp->V->Hp->Prop
 stop:Nat->Hp->Prop
def K3 (X:Cx)(pins:List (Addr×Obj))(H:Hp)(b:Addr):Prop :=
 H b=none/\b≠X.env.locals/\b∉X.fs/\(b∈X.ex\/X.s₀.heap.objs.size<=b)/\(∀x c,X.env.cells.lookup x=some c->c≠b)/\∀p∈X.pn++pins,p.1≠b
theorem Inv.fpOk       (I:Inv X pins d H s) (hb:s.heap.objs.size<=b) (hn:H' b=none):K3 X pins H' b:=by
 refine⟨hn,Nat.ne_of_gt (Nat.lt_of_lt_of_le I.lt hb),I.nofs hb,.inr (Nat.le_trans I.sz hb),fun x c e z=>?_,fun p a z=>?_⟩
 ·obtain⟨v,q⟩:=I.cell x c e
  exact absurd (Nat.lt_of_lt_of_le q.lt (by simp_all)) (Nat.lt_irrefl _)
 ·exact absurd (Nat.lt_of_lt_of_le (Heap.lt_size (I.pin p a).1) (by simp_all)) (Nat.lt_irrefl _)
structure Turn (P:Program) (w:World) (K:PySem.W.Frag) (tg:Expr) (J:It) (fp:List Addr) (it:Addr) (tn:Nat->Heap->Prop):Prop where
 mem:it∈fp
 obj:∀i h,tn i h->∀b∈fp,∃o,h.get? b=some o/\∀v,o.data≠.cell v
 keep:∀i h h',tn i h->(∀b∈fp,∀o,h.get? b=some o->h'.get? b=some o)->tn i h'
 item:∀(X:Cx),X.prog=P->X.w=w->X.K=K->X.calm=true->∀(i:Nat) (pins:List (Addr×Obj)) (s:Shared) (σ:St) (H:Hp) (E:Value->Shared->Prop),Inv X pins σ H s->(∀b∈fp,K3 X pins H b)->tn i s.heap->J.go i H ->
  wpAny (model P w) X.A (pyNext (.ref it)) (fun r s1=>∃u,r=some u /\
   wpAny (model P w) X.A (letOwnedTupleGo tg (.ref it) u) (fun _ s2=>∃x H',Inv X pins σ H' s2/\RelV x u/\J.yld i H x H'/\tn (i+1) s2.heap/\∀b∈fp,H' b=none) E s1) E s
 done:∀(X:Cx),X.prog=P->X.w=w->X.K=K->X.calm=true->∀(i:Nat) (pins:List (Addr×Obj)) (s:Shared) (σ:St) (H:Hp) (E:Value->Shared->Prop),Inv X pins σ H s->(∀b∈fp,K3 X pins H b)->tn i s.heap->J.stop i H ->
  wpAny (model P w) X.A (pyNext (.ref it)) (fun r s1=>r=none/\Inv X pins σ H s1) E s
 self:∀(A:Around) (i:Nat) (s:Shared) (Q:Value->Shared->Prop) (E:Value->Shared->Prop),tn i s.heap->Q (.ref it) s->wpAny (model P w) A (pyIter (.ref it)) Q E s
abbrev TI:=St->Hp->(It->Hp->Prop)->Prop
def PIE (X:Cx)(pins:List (Addr×Obj))(σ:St)(tg:Expr)(R:It->Hp->Prop)(itv:Value)(s2:Shared):Prop :=
 ∃(it:Addr) (fp:List Addr) (tn:Nat->Heap->Prop) (J:It) (H':Hp),itv=.ref it/\Inv X pins σ H' s2/\Turn X.prog X.w X.K tg J fp it tn/\tn 0 s2.heap/\(∀b∈fp,K3 X pins H' b)/\R J H'
def PI (X:Cx)(tg iter:Expr)(wi:TI):Prop :=
 ∀
  (pins:List (Addr×Obj)) (s:Shared) (σ:St) (H:Hp) (R:It->Hp->Prop),Inv X pins σ H s->wi σ H R ->
  wpAny (model X.prog X.w) X.A (eval iter X.env) (fun v s1=>wpAny (model X.prog X.w) X.A (pyIter v) (PIE X pins σ tg R) X.xe s1) X.xe s
theorem A0s            (ho:s.heap.get? it=some o) (hc:o.cls=.type n) (hd:o.data=.fields vs)
 (hn:["enumerate", "zip", "dict_itemiterator", "dict_reverseitemiterator", "odict_iterator", "itertools.zip_longest", "itertools.pairwise"].contains n=false) (a:Q () s):wpAny M A (letOwnedTupleGo b (.ref it) u) Q E s:=by
 cases b <;> first
  | exact wpAny_pure a
  | (cases u <;> first
   | exact wpAny_pure a
   | (
    refine wpAny_bind (wpAny_load ho ?_)
    rw[hc,hd]
    show wpAny M A (if (["enumerate", "zip", "dict_itemiterator", "dict_reverseitemiterator", "odict_iterator", "itertools.zip_longest", "itertools.pairwise"].contains n&&vs[0]?==some _)=true then _ else _) Q E s
    rw[if_neg (by intro h;rw[hn]at h;cases h)]
    exact wpAny_pure a))
def Itl (K:PySem.W.Frag)(a:Addr):It :=
 ⟨fun i H=>∃xs x,SqL K H a xs/\xs[i]?=some x,fun i H x H'=>H'=H/\∀xs,SqL K H a xs->xs[i]?=some x,fun i H=>∃xs,SqL K H a xs/\xs.length<=i⟩
def Itt (K:PySem.W.Frag)(a:Addr):It :=
 ⟨fun i H=>∃xs x,SqT K H a xs/\xs[i]?=some x,fun i H x H'=>H'=H/\∀xs,SqT K H a xs->xs[i]?=some x,fun i H=>∃xs,SqT K H a xs/\xs.length<=i⟩
def Itr (lo:Int)(n:Nat):It:=⟨fun i _=>i<n,fun i H x H'=>H'=H/\x=.int (lo+i),fun i _=>n<=i⟩
theorem At8 {P:Program}{w:World}{K:PySem.W.Frag}{tg:Expr}(a it:Addr):Turn P w K tg (Itl K a) [it] it (fun i h=>h.IsListIter it a i) where
 mem:=by simp
 obj:=fun i h st b hb=>by
  have e:b=it:=by simpa using hb
  subst e;obtain⟨o,e,c,d⟩:=st
  exact⟨o,e,fun v z=>by rw[d]at z;cases z⟩
 keep:=fun i h h' st k=>st.at fun o e=>k it (by simp) o e
 item:=by
  intro X hP hw hK hc i pins s σ H E I hf st hg;subst hP hw hK;obtain⟨xs,x,hq,hx⟩:=hg;obtain⟨its,rv,p,hz⟩:=I.list hq;obtain⟨u,hu,ru⟩:=rv.get hx
  obtain⟨f0,f1,f2,f3,f4,f5⟩:=hf it (by simp)
  refine wpAny_pyNext_list_item st p.isList (x:=u) (by simpa using hu) fun h' st' sb=>?_
  have I1:Inv X pins σ H { s with heap:=h' }:=I.turned (t':=s.toks) (fun b o hb e=>(sb.2 b hb).trans e) f0 f1 f3 f4 f5
  obtain⟨o,e,c,d⟩:=id st'
  exact⟨u,rfl,A0s (s:={ s with heap:=h' }) e c d (by decide) ⟨x,H,I1,ru,⟨rfl,fun ys hy=>by rw[I.list_inj hy hq];exact hx⟩,st',fun b hb=>(hf b hb).1⟩⟩
 done:=by
  intro X hP hw hK hc i pins s σ H E I hf st hg;subst hP hw hK;obtain⟨xs,hq,hx⟩:=hg;obtain⟨its,rv,p,hz⟩:=I.list hq
  obtain⟨f0,f1,f2,f3,f4,f5⟩:=hf it (by simp)
  have hl:=rv.length
  exact wpAny_pyNext_list_end (I.ok.hd hc) st p.isList (by simp;omega) fun h' eb=>⟨rfl,I.turned (t':=s.toks) (fun b o hb e=>eb b o hb e) f0 f1 f3 f4 f5⟩
 self:=fun _ _ _ _ _ st h=>wpAny_pyIter_listiter st h
theorem Ah1 {P:Program}{w:World}{K:PySem.W.Frag}{tg:Expr}(a it:Addr):Turn P w K tg (Itt K a) [it] it (fun i h=>h.IsTupleIter it a i) where
 mem:=by simp
 obj:=fun i h st b hb=>by
  have e:b=it:=by simpa using hb
  subst e;obtain⟨o,e,c,d⟩:=st
  exact⟨o,e,fun v z=>by rw[d]at z;cases z⟩
 keep:=fun i h h' st k=>st.at fun o e=>k it (by simp) o e
 item:=by
  intro X hP hw hK hc i pins s σ H E I hf st hg;subst hP hw hK;obtain⟨xs,x,hq,hx⟩:=hg;obtain⟨its,rv,p,hz⟩:=I.tuple hq;obtain⟨u,hu,ru⟩:=rv.get hx
  obtain⟨f0,f1,f2,f3,f4,f5⟩:=hf it (by simp)
  refine wpAny_pyNext_tuple_item st (show s.heap.IsTuple a its.toArray from p) (x:=u) (by simpa using hu) fun h' st' sb=>?_
  have I1:Inv X pins σ H { s with heap:=h' }:=I.turned (t':=s.toks) (fun b o hb e=>(sb.2 b hb).trans e) f0 f1 f3 f4 f5
  obtain⟨o,e,c,d⟩:=id st'
  exact⟨u,rfl,A0s (s:={ s with heap:=h' }) e c d (by decide) ⟨x,H,I1,ru,⟨rfl,fun ys hy=>by rw[I.tuple_inj hy hq];exact hx⟩,st',fun b hb=>(hf b hb).1⟩⟩
 done:=by
  intro X hP hw hK hc i pins s σ H E I hf st hg;subst hP hw hK;obtain⟨xs,hq,hx⟩:=hg;obtain⟨its,rv,p,hz⟩:=I.tuple hq
  obtain⟨f0,f1,f2,f3,f4,f5⟩:=hf it (by simp)
  have hl:=rv.length
  exact wpAny_pyNext_tuple_end (I.ok.hd hc) st (show s.heap.IsTuple a its.toArray from p) (by simp;omega) fun h' eb=>⟨rfl,I.turned (t':=s.toks) (fun b o hb e=>eb b o hb e) f0 f1 f3 f4 f5⟩
 self:=fun _ _ _ _ _ st h=>wpAny_pyIter_tupleiter st h
theorem Ai1 {P:Program}{w:World}{K:PySem.W.Frag}{tg:Expr}(it:Addr)(lo:Int)(n:Nat):Turn P w K tg (Itr lo n) [it] it (fun i h=>IsRangeIter h it (lo+(i:Nat)*1) ((n:Int)-(i:Nat)) 1) where
 mem:=by simp
 obj:=fun i h st b hb=>by
  have e:b=it:=by simpa using hb
  subst e
  exact⟨_,st,fun v z=>by
   have z':Data.fields _=Data.cell v:=z
   cases z'⟩
 keep:=fun i h h' st k=>k it (by simp) _ st
 item:=by
  intro X hP hw hK hc i pins s σ H E I hf st hg;subst hP hw hK
  obtain⟨f0,f1,f2,f3,f4,f5⟩:=hf it (by simp)
  have W:=Walks.range (prog:=X.prog) (w:=X.w) (I.ok.hd hc) it lo 1 n
  refine W.item i s _ _ hg st fun v h' tk hv st' kk=>?_
  obtain⟨t,rfl⟩:=hv
  have I1:Inv X pins σ H { s with heap:=h',toks:=tk }:=I.turned (fun b o hb e=>kk b o (by simpa using hb) e) f0 f1 f3 f4 f5
  refine⟨_,rfl,A0s (s:={ s with heap:=h',toks:=tk }) (n := "range_iterator") st' rfl rfl (by decide) ⟨.int (lo+i),H,I1,⟨t,?_⟩,⟨rfl,rfl⟩,st',fun b hb=>(hf b hb).1⟩⟩
  rw[Int.mul_one]
 done:=by
  intro X hP hw hK hc i pins s σ H E I hf st hg;subst hP hw hK
  obtain⟨f0,f1,f2,f3,f4,f5⟩:=hf it (by simp)
  exact wpAny_pyNext_range_end (I.ok.hd hc) st (by have:n<=i:=hg;omega) fun h' eb=>⟨rfl,I.turned (t':=s.toks) (fun b o hb e=>eb b o hb e) f0 f1 f3 f4 f5⟩
 self:=fun _ _ _ _ _ st h=>wpAny_pyIter_rangeiter st h
section
variable {X:Cx}{tg:Expr}
theorem A3j       {lo hi:Int}   (I:Inv X pins c H s) (h1:-(2 ^ 62)<=lo) (h2:lo<2 ^ 62) (d:-(2 ^ 62)<=hi) (f:hi<2 ^ 62)
 (q:R (Itr lo (hi-lo).toNat) H):wpAny (model X.prog X.w) X.A (pyIter (.ref s.heap.objs.size)) (PIE X pins c tg R) E { s with heap:=s.heap.push { cls:=.type "range",data:=.fields #[.int lo t,.int hi u,.int 1 v] },toks:=tk }:=by
 refine wpAny_pyIter_range (IsRange.new ..) (small_one h1 h2 d f) ?_
 have a:Inv X _ _ H { s with heap:=s.heap.push { cls:=.type "range",data:=.fields #[.int lo t,.int hi u,.int 1 v] },toks:=tk }:=I.kept fun b o e=>Heap.get?_push_of_some _ e
 refine⟨(s.heap.push _).objs.size,[(s.heap.push _).objs.size],_,_,H,rfl,
  a.kept  fun b o e=>Heap.get?_push_of_some _ e,Ai1 _ _ _,?_,fun b i=>?_,q⟩
 ·have h:lo+((0:Nat))*1=lo:=by simp
  have g:(((hi-lo).toNat):Int)-((0:Nat))=Builtin.Range.rangeSize lo hi 1:=by rw[rangeSize_one];grind
  rw[h,g];exact Heap.get?_push_size _ rfl
 ·have e:b=(s.heap.push { cls:=.type "range",data:=.fields #[.int lo t,.int hi u,.int 1 v] }).objs.size:=by grind
  subst e;exact a.fpOk (Nat.le_refl _) (a.hok.fresh (Nat.le_refl _))
def A4f (ta:TA):TI:=fun σ H R=>ta σ H fun vs H1=>∃j:Int,vs=[.int j]/\-(2 ^ 62)<=j/\j<2 ^ 62/\R (Itr 0 j.toNat) H1
theorem At2    (hg:Gl X "range") (hm:X.mg "range" = none) (ha:PA X [a] d) (hs:starEach [a] X.env=[(false,eval a X.env)]:=by rfl):PI X tg (.Call (.Name "range" p) [a] [] b) (A4f d):=by
 intro f s σ H R I h
 refine Call_ (Qa I hg hm boot_range (PyProof.Rows.callWith_type1 (thn (ha _ _ s _ H _ I h) fun us s1 ⟨vs,H1,g,i,c⟩=>?_) hs rfl))
 obtain⟨j,e,c,k,q⟩:=c;subst e
 cases i with
 | cons r l =>
  cases l
  obtain⟨t,rfl⟩:=r
  exact call_range_1 (A3j g (by omega) (by omega) c k (by grind))
def A9u (wi:TI)(g:TG)(tb:TS):TS:=fun D σ H=>wi σ H fun J H1=>∃W:Nat->Nat->St->Hp->Prop,(∃m,W 0 m σ H1)/\∀i m σ H,W i m σ H ->
 (J.stop i H/\D.nx σ H)\/(J.go i H/\∃N:St->Hp->Prop,(∀σ' H',N σ' H'->∃m',m'<m/\W (i+1) m' σ' H')/\∀x H',J.yld i H x H'->g x σ H' fun σ2 H2=>tb { D with nx:=N,ct:=N,bk:=D.nx } σ2 H2)
def Py (fp:List Addr)(h:Heap):List (Addr×Obj):=fp.filterMap fun b=>(h.get? b).map fun o=>(b,o)
theorem Gn     (hb:b∈fp) (e:h.get? b=some o):(b,o)∈Py fp h:=List.mem_filterMap.mpr ⟨b,hb,by grind⟩
theorem As0    (hp:p∈Py fp h):p.1∈fp/\h.get? p.1=some p.2:=by
 obtain⟨b,a,e⟩:=List.mem_filterMap.mp hp
 cases q:h.get? b with
 | none=>simp_all
 | some o =>
  grind
theorem Inv.pinned      (I:Inv X pins a H s) (hf:∀b∈fp,K3 X pins H b) (ho:∀b∈fp,∃o,s.heap.get? b=some o/\∀v,o.data≠.cell v):Inv X (pins++Py fp s.heap) a H s :=
 I.pins_of fun p d=>(List.mem_append.mp d).elim (fun z=>I.pin p (List.mem_append_right _ z)) fun z=>by
  obtain⟨c,e⟩:=As0 z;obtain⟨g,h,f,_⟩:=hf _ c
  grind
theorem Inv.unpinned     (I:Inv X (pins++pl) a H s):Inv X pins a H s:=I.pins_of fun p b=>I.pin p (List.mem_append_right _ (List.mem_append_left _ b))
theorem Be3       (hp:PassesOwn (model X.prog X.w) X.A X.env X.xe) (hc:X.calm=true) (hi:PI X tg p Z) (hg:PG X tg g) (hb:PSs X body tb)
 (hs:∀x,foldedSetIterable p X.env x=pure x:=by intro _;rfl):PS X (.For tg p body [] P) (A9u Z g tb):=by
 intro a s σ H D I h
 refine wpAny_For (thn (hi a s σ H _ I h) fun v s1 h1=>thn h1 fun itv s2 h2=>?_) hs
 obtain⟨it,C,tn,J,H2,e,I2,T,Q,Y,W,⟨m0,w0⟩,E⟩:=h2;subst e
 have k:∀{t:Hp},(∀b∈C,t b=none)->∀b∈C,K3 X a t b:=fun hn b hb=>⟨hn b hb,(Y b hb).2⟩
 refine codeAny_forLoop_any (fun n U=>∃i σ' t,Inv X a σ' t U/\tn i U.heap/\(∀b∈C,t b=none)/\W i n σ' t) ?_ m0 ⟨0,σ,H2,I2,Q,fun b hb=>(Y b hb).1,w0⟩
 rintro n V ⟨i,j,L,I3,B,F,w3⟩
 rcases E i n j L w3 with ⟨A,qn⟩ | ⟨go,N,hN,K⟩
 ·refine wpAny_passesOwn hp (thn (T.done X rfl rfl rfl hc i a V j L X.xe I3 (k F) B A) fun r s4 ⟨M,I4⟩=>?_)
  subst M;exact wpAny_execs_nil ⟨j,L,I4,qn⟩
 ·refine wpAny_passesOwn hp (thn (T.item X rfl rfl rfl hc i a V j L X.xe I3 (k F) B go) fun r s4 ⟨u,M,h4⟩=>?_)
  subst M
  refine wpAny_passesOwn hp (thn h4 fun _ s5 ⟨x,S,I5,r5,y5,z,O⟩=>?_)
  refine wpAny_passesOwn hp (thn (hg _ s5 j S x u _ (I5.pinned (k O) (T.obj _ _ z)) r5 (K x S y5)) fun _ s6 ⟨R,H6,I6,q6⟩=>?_)
  refine wpAny_passesOwn hp (thn (hb _ s6 R H6 _ I6 q6) fun f s7 y=>?_)
  have l:∀{c:St} {w:Hp},Inv X (a++Py C s5.heap) c w s7->N c w->∃m,m<n/\∃i σ' t,Inv X a σ' t _/\tn i _/\(∀b∈C,t b=none)/\W i m σ' t:=fun {c w} q G=>by
   obtain⟨m',hm,w7⟩:=hN _ _ G
   refine⟨m',hm,i+1,c,w,q.unpinned,T.keep _ _ _ z fun b hb o e=>(q.pin _ (List.mem_append_right _ (List.mem_append_right _ (Gn hb e)))).1,fun b hb=>?_,w7⟩
   obtain⟨o,e,d⟩:=T.obj _ _ z b hb;exact(q.pin _ (List.mem_append_right _ (List.mem_append_right _ (Gn hb e)))).2.1
  cases f with
  | next=>obtain⟨c,w,q,G⟩:=y;exact l q G
  | cont=>obtain⟨c,w,q,G⟩:=y;exact l q G
  | brk=>obtain⟨c,w,q,y⟩:=y;exact⟨c,w,q.unpinned,y⟩
  | ret v=>obtain⟨x7,c,w,q,r7,y⟩:=y;exact⟨x7,c,w,q.unpinned,r7,y⟩
end
abbrev R2:=V->V->Hp->VK->Prop
def OpR (X:Cx)(f:Value->Value->Sem Value)(r:R2):Prop :=
 ∀
  (pins:List (Addr×Obj)) (s:Shared) (σ:St) (H:Hp) (x y:V) (v u:Value) (Q:VK),Inv X pins σ H s->RelV x v->RelV y u->r x y H Q ->
  wpAny (model X.prog X.w) X.A (f v u) (EP X pins σ Q) X.xe s
def UnR (X:Cx)(f:Value->Sem Value)(r:V->Hp->VK->Prop):Prop :=
 ∀
  (pins:List (Addr×Obj)) (s:Shared) (σ:St) (H:Hp) (x:V) (v:Value) (Q:VK),Inv X pins σ H s->RelV x v->r x H Q ->
  wpAny (model X.prog X.w) X.A (f v) (EP X pins σ Q) X.xe s
def CallR (X:Cx)(f:Value)(r:List V->Hp->VK->Prop):Prop :=
 ∀
  (pins:List (Addr×Obj)) (s:Shared) (σ:St) (H:Hp) (xs:List V) (us:List Value) (Q:VK),Inv X pins σ H s->Vals xs us->r xs H Q ->
  wpAny (model X.prog X.w) X.A (call f us) (EP X pins σ Q) X.xe s
def tOp (r:R2)(ta tb:TE):TE:=fun σ H Q=>ta σ H fun x H1=>tb σ H1 fun y H2=>r x y H2 Q
def tUn (r:V->Hp->VK->Prop)(ta:TE):TE:=fun σ H Q=>ta σ H fun x H1=>r x H1 Q
def rI (C:Int->Int->Prop)(g:Int->Int->V):R2:=fun x y H Q=>∃i j,x=.int i/\y=.int j/\C i j/\Q (g i j) H
def rI0 (g:Int->Int->V):R2:=fun x y H Q=>∃i j,x=.int i/\y=.int j/\Q (g i j) H
def rU (g:Int->V):V->Hp->VK->Prop:=fun x H Q=>∃i,x=.int i/\Q (g i) H
section
variable {X:Cx}{a b c:Expr}{ta tb tc:TE}{pos:Pos}
theorem Bj2 (ha:PE X a ta)(hb:PE X b tb)     {R:V->V->Hp->Prop}(I:Inv X pins g H s)
 (h:ta g H fun x j=>tb g j fun y c=>R x y c)  {f:Value->Value->Sem Value}
 (hf:∀v u i x y c,Inv X pins g c i->RelV x v->RelV y u->R x y c->wpAny (model X.prog X.w) X.A (f v u) Q X.xe i) :
 wpAny (model X.prog X.w) X.A (eval a X.env) (fun v d=>wpAny (model X.prog X.w) X.A (eval b X.env) (fun u e=>wpAny (model X.prog X.w) X.A (f v u) Q X.xe e) X.xe d) X.xe s:=by
 refine thn (ha _ s _ H _ I h) fun v o ⟨x,j,k,n,l⟩=>?_
 refine thn (hb _ _ _ _ _ k l) fun u i ⟨y,c,p,q,m⟩=>?_
 grind
theorem V9   (ho:OpR X (binaryOp op) r) (ha:PE X a ta) (hb:PE X b tb):PE X (.BinOp a op b pos) (tOp r ta tb):=by
 intro c s g H Q I h
 exact wpAny_BinOp (Bj2 ha hb I h fun v u i x y j f e d q=>ho _ _ _ _ x y v u Q f e d q)
theorem Bv3   (ho:UnR X (unaryOp op) r) (ha:PE X a ta):PE X (.UnaryOp op a pos) (tUn r ta):=by
 intro b s f H Q I h
 exact UnaryOp_ (thn (ha _ s _ H _ I h) fun v g ⟨x,i,e,d,c⟩=>ho _ _ _ _ x v Q e d c)
theorem opI   {g:Int->Int->Int}
 (a:∀(i j:Int) (t u:Tok) (s:Shared) (Q:Value->Shared->Prop) (E:Value->Shared->Prop),C i j->Q (.int (g i j) s.toks) { s with toks:=s.toks+1 }->wpAny (model X.prog X.w) X.A (f (.int i t) (.int j u)) Q E s) :
 OpR X f (rI C fun i j=>.int (g i j)):=by
 intro b s σ H x y v u Q I c e h;obtain⟨i,j,rfl,rfl,d,q⟩:=h;obtain⟨t,rfl⟩:=c;obtain⟨t',rfl⟩:=e;exact a i j t _ s _ _ d ⟨.int _,H,I.tok _,⟨_,rfl⟩,q⟩
theorem Vf  {g:Int->Int->Int}
 (a:∀(i j:Int) (t u:Tok) (s:Shared) (Q:Value->Shared->Prop) (E:Value->Shared->Prop),Q (.int (g i j) s.toks) { s with toks:=s.toks+1 }->wpAny (model X.prog X.w) X.A (f (.int i t) (.int j u)) Q E s) :
 OpR X f (rI0 fun i j=>.int (g i j)):=by
 intro b s σ H x y v u Q I c d h;obtain⟨i,j,rfl,rfl,q⟩:=h;obtain⟨t,rfl⟩:=c;obtain⟨t',rfl⟩:=d;exact a i j t _ s _ _ ⟨.int _,H,I.tok _,⟨_,rfl⟩,q⟩
theorem Bc5  {g:Int->Int->Bool}
 (a:∀(i j:Int) (t u:Tok) (s:Shared) (Q:Value->Shared->Prop) (E:Value->Shared->Prop),Q (.bool (g i j)) s->wpAny (model X.prog X.w) X.A (f (.int i t) (.int j u)) Q E s) :
 OpR X f (rI0 fun i j=>.bl (g i j)):=by
 intro b s σ H x y v u Q I c d h;obtain⟨i,j,rfl,rfl,q⟩:=h;obtain⟨t,rfl⟩:=c;obtain⟨t',rfl⟩:=d;exact a i j t _ s _ _ ⟨.bl _,H,I,rfl,q⟩
def A2t (i j:Int):Prop:=0<j/\j<1073741824
def A0r (i j:Int):Prop:=0<=j/\j<=1000000/\i.natAbs<2 ^ 64
def CMul (i j:Int):Prop:=(-(2 ^ 64)<i/\i<2 ^ 64)\/(-(2 ^ 64)<j/\j<2 ^ 64)
theorem CMul.ok  (h:CMul i j):IntMulOk i j:=by
 rcases h with ⟨b,a⟩ | ⟨b,a⟩
 ·exact .of_left (intBits_le_64 b a)
 ·exact .of_right (intBits_le_64 b a)
theorem Bl1:OpR X (binaryOp .Add) (rI0 fun i j=>.int (i+j)):=Vf fun _ _ _ _ _ _ _ q=>add_int q
theorem Bn4:OpR X (binaryOp .Sub) (rI0 fun i j=>.int (i-j)):=Vf fun _ _ _ _ _ _ _ q=>sub_int q
theorem Bp6:OpR X (binaryOp .Mult) (rI CMul fun i j=>.int (i*j)):=opI fun _ _ _ _ _ _ _ a q=>mul_int q a.ok
theorem A7z:OpR X (binaryOp .FloorDiv) (rI A2t fun i j=>.int (i / j)):=opI fun i j _ _ _ _ _ a q=>by
 have c:(0:Int)<j:=a.1;have b:j<1073741824:=a.2
 exact floordiv_int (by omega) (by rw[Int.fdiv_eq_ediv_of_nonneg i (by omega)];exact q) (.inl (PyProof.noPylong_small (by omega)))
theorem Bo4:OpR X (binaryOp .Mod) (rI (fun _ j=>0<j) fun i j=>.int (i % j)):=opI fun i j _ _ _ _ _ a q=>by
 have b:(0:Int)<j:=a
 exact mod_int' (by omega) (by rw[Int.fmod_eq_emod_of_nonneg i (by omega)];exact q)
theorem Bf3:OpR X (binaryOp .Pow) (rI A0r fun i j=>.int (i ^ j.toNat)):=opI fun _ _ _ _ _ _ _ a q=>pow_int_small a.1 a.2.1 a.2.2 q
theorem unI  {g:Int->Int}
 (a:∀(i:Int) (t:Tok) (s:Shared) (Q:Value->Shared->Prop) (E:Value->Shared->Prop),Q (.int (g i) s.toks) { s with toks:=s.toks+1 }->wpAny (model X.prog X.w) X.A (f (.int i t)) Q E s) :
 UnR X f (rU fun i=>.int (g i)):=by
 intro b s σ H x v Q I c h;obtain⟨i,rfl,q⟩:=h;obtain⟨t,rfl⟩:=c;exact a i t s _ _ ⟨.int _,H,I.tok _,⟨_,rfl⟩,q⟩
theorem Bg9:UnR X (unaryOp .USub) (rU fun i=>.int (-i)):=unI fun _ _ _ _ _ q=>neg_int q
end
def Bv1:V->V->Bool
 | .non,.non=>true | .non,.int _=>true | .int _,.non=>true | .non,.bl _=>true | .bl _,.non=>true | .non,.str _=>true | .str _,.non=>true
 | .int _,.int _=>true | .bl _,.bl _=>true | .str _,.str _=>true | .byt _,.byt _=>true
 | .int _,.str _=>true | .str _,.int _=>true | .bl _,.str _=>true | .str _,.bl _=>true
 | _,_=>false
def rEq:R2:=fun x y H Q=>Bv1 x y=true/\Q (.bl (decide (x=y))) H
def rNe:R2:=fun x y H Q=>Bv1 x y=true/\Q (.bl (!decide (x=y))) H
theorem Ao6  : decide (V.int i=V.int j)=(i==j):=by
 grind
theorem A1c  : decide (V.bl i=V.bl j)=(i==j):=by
 grind
theorem Am1  : decide (V.str i=V.str j)=(i==j):=by
 grind
theorem An2  : decide (V.byt i=V.byt j)=(i.toList==j.toList):=by
 rw[Bool.eq_iff_iff]
 simp_all
section
variable {X:Cx}{a b c:Expr}{ta tb tc:TE}{pos:Pos}
theorem Ci  {b:St}    {k a:Bool}(I:Inv X pins b H s) (q:Q (.bl k) H) (e:k=a):EP X pins b Q (.bool a) s:=by
 subst e;exact⟨.bl k,H,I,rfl,q⟩
theorem Bu9:OpR X (compareOp .Eq) rEq:=by
 intro e s σ H x y v u Q I d a h;obtain⟨c,q⟩:=h
 cases x with
 | non =>
  cases d
  cases y with
  | non=>cases a;exact PySem.EqNone.eq_none_none (Ci I q (by simp))
  | bl j=>cases a;exact PySem.EqNone.eq_none_bool (Ci I q (by simp))
  | int j=>obtain⟨b,rfl⟩:=a;exact PySem.EqNone.eq_none_int (Ci I q (by simp))
  | str j=>obtain⟨b,rfl⟩:=a;exact PySem.EqNone.eq_none_str (Ci I q (by simp))
  | _=>exact absurd (show false=true from c) Bool.false_ne_true
 | bl i =>
  cases d
  cases y with
  | non=>cases a;exact PySem.EqNone.eq_bool_none (Ci I q (by simp))
  | bl j=>cases a;exact eq_bool (Ci I q A1c)
  | str j=>obtain⟨b,rfl⟩:=a;exact PySem.EqMixed.eq_bool_str (Ci I q (by simp))
  | _=>exact absurd (show false=true from c) Bool.false_ne_true
 | int i =>
  obtain⟨t,rfl⟩:=d
  cases y with
  | non=>cases a;exact PySem.EqNone.eq_int_none (Ci I q (by simp))
  | int j=>obtain⟨b,rfl⟩:=a;exact eq_int (Ci I q Ao6)
  | str j=>obtain⟨b,rfl⟩:=a;exact PySem.EqMixed.eq_int_str (Ci I q (by simp))
  | _=>exact absurd (show false=true from c) Bool.false_ne_true
 | str i =>
  obtain⟨t,rfl⟩:=d
  cases y with
  | non=>cases a;exact PySem.EqNone.eq_str_none (Ci I q (by simp))
  | bl j=>cases a;exact PySem.EqMixed.eq_str_bool (Ci I q (by simp))
  | int j=>obtain⟨b,rfl⟩:=a;exact PySem.EqMixed.eq_str_int (Ci I q (by simp))
  | str j=>obtain⟨b,rfl⟩:=a;exact eq_str (Ci I q Am1)
  | _=>exact absurd (show false=true from c) Bool.false_ne_true
 | byt i =>
  obtain⟨t,rfl⟩:=d
  cases y with
  | byt j=>obtain⟨b,rfl⟩:=a;exact PySem.W.eq_bytes (Ci I q An2)
  | _=>exact absurd (c) Bool.false_ne_true
 | _=>cases y <;> exact absurd (show false=true from c) Bool.false_ne_true
theorem Bv4:OpR X (compareOp .NotEq) rNe:=by
 intro e s σ H x y v u Q I d a h;obtain⟨c,q⟩:=h
 cases x with
 | non =>
  cases d
  cases y with
  | non=>cases a;exact PySem.EqNone.ne_none_none (Ci I q (by simp))
  | bl j=>cases a;exact PySem.EqNone.ne_none_bool (Ci I q (by simp))
  | int j=>obtain⟨b,rfl⟩:=a;exact PySem.EqNone.ne_none_int (Ci I q (by simp))
  | str j=>obtain⟨b,rfl⟩:=a;exact PySem.EqNone.ne_none_str (Ci I q (by simp))
  | _=>exact absurd (show false=true from c) Bool.false_ne_true
 | bl i =>
  cases d
  cases y with
  | non=>cases a;exact PySem.EqNone.ne_bool_none (Ci I q (by simp))
  | bl j=>cases a;exact ne_bool (Ci I q (congrArg not A1c))
  | str j=>obtain⟨b,rfl⟩:=a;exact PySem.EqMixed.ne_bool_str (Ci I q (by simp))
  | _=>exact absurd (show false=true from c) Bool.false_ne_true
 | int i =>
  obtain⟨t,rfl⟩:=d
  cases y with
  | non=>cases a;exact PySem.EqNone.ne_int_none (Ci I q (by simp))
  | int j=>obtain⟨b,rfl⟩:=a;exact ne_int (Ci I q (congrArg not Ao6))
  | str j=>obtain⟨b,rfl⟩:=a;exact PySem.EqMixed.ne_int_str (Ci I q (by simp))
  | _=>exact absurd (show false=true from c) Bool.false_ne_true
 | str i =>
  obtain⟨t,rfl⟩:=d
  cases y with
  | non=>cases a;exact PySem.EqNone.ne_str_none (Ci I q (by simp))
  | bl j=>cases a;exact PySem.EqMixed.ne_str_bool (Ci I q (by simp))
  | int j=>obtain⟨b,rfl⟩:=a;exact PySem.EqMixed.ne_str_int (Ci I q (by simp))
  | str j=>obtain⟨b,rfl⟩:=a;exact ne_str (Ci I q (congrArg not Am1))
  | _=>exact absurd (show false=true from c) Bool.false_ne_true
 | byt i =>
  obtain⟨t,rfl⟩:=d
  cases y with
  | byt j=>obtain⟨b,rfl⟩:=a;exact PySem.W.ne_bytes (Ci I q (congrArg not An2))
  | _=>exact absurd (c) Bool.false_ne_true
 | _=>cases y <;> exact absurd (show false=true from c) Bool.false_ne_true
theorem Bq5:OpR X (compareOp .Lt) (rI0 fun i j=>.bl (decide (i<j))):=Bc5 fun _ _ _ _ _ _ _ q=>lt_int q
theorem Bw2:OpR X (compareOp .Gt) (rI0 fun i j=>.bl (decide (j<i))):=Bc5 fun _ _ _ _ _ _ _ q=>gt_int q
theorem Bu6:OpR X (compareOp .GtE) (rI0 fun i j=>.bl (decide (j<=i))):=Bc5 fun _ _ _ _ _ _ _ q=>ge_int q
theorem Bh6:OpR X (compareOp .Is) (fun x y H Q=>y=.non/\Q (.bl (decide (x=.non))) H):=by
 intro a s σ H x y v u Q I c b h;obtain⟨rfl,q⟩:=h
 cases b
 refine is_none_gen (Ci I q ?_)
 cases x <;> first
  | omega
  | (obtain⟨t,rfl⟩:=c;rfl)
theorem A9c:OpR X (compareOp .IsNot) (fun x y H Q=>y=.non/\Q (.bl (!decide (x=.non))) H):=by
 intro a s σ H x y v u Q I c b h;obtain⟨rfl,q⟩:=h
 cases b
 refine isnot_none_gen (Ci I q ?_)
 cases x <;> first
  | rfl
  | (obtain⟨t,rfl⟩:=c;rfl)
theorem OpR.or  {r b:R2}(h:OpR X f r) (h':OpR X f b):OpR X f (fun x y H Q=>r x y H Q\/b x y H Q):=by
 intro c s e H x y v u Q I d a q
 rcases q with q | q
 ·exact h _ s _ H x y v u Q I d a q
 ·exact h' _ s _ H x y v u Q I d a q
theorem Jm (b:Expr)  (h:op≠.In:=by decide) (h2:op≠.NotIn:=by decide):behindInMarks op b=false:=by
 have c:(op==CmpOp.In)=false:=by grind
 have a:(op==CmpOp.NotIn)=false:=by grind
 cases b <;> simp[behindInMarks,c,a]
theorem Ov   (ho:OpR X (compareOp op) r) (ha:PE X a ta) (hb:PE X b tb) (hm:behindInMarks op b=false):PE X (.Compare a [op] [b] pos) (tOp r ta tb):=by
 intro c s g H Q I h
 exact wpAny_Compare1 (Bj2 ha hb I h fun v u i x y j f e d q=>ho _ _ _ _ x y v u Q f e d q) hm
def Ij (t:TE):TT:=fun σ H Q=>t σ H fun x H'=>∃k,x=.bl k/\Q k H'
theorem Iu   (ho:OpR X (compareOp op) r) (ha:PE X a ta) (hb:PE X b tb) (hm:behindInMarks op b=false):PT X (.Compare a [op] [b] pos) (Ij (tOp r ta tb)):=by
 intro d s t H Q I h
 refine wpAny_isTrue_Compare1 (thn (ha _ s _ H _ I h) fun v C ⟨x,D,j,l,m⟩=>thn (hb _ _ _ _ _ j m) fun u w ⟨y,B,i,g,o⟩ =>
  thn (ho _ _ _ _ x y v u _ i l g o) fun c A ⟨z,n,p,q,k,e,f⟩=>?_) hm
 subst e
 cases q
 exact wpAny_truthy_bool ⟨n,p,f⟩
theorem Sh:(sizeLine:Nat)<2 ^ 63:=by decide
theorem Ai0:OpR X (binaryOp .Add) (fun x y H Q=>∃i j,x=.str i/\y=.str j/\i.length+j.length<=sizeLine/\Q (.str (i++j)) H):=by
 intro a s σ H x y v u Q I c b h;obtain⟨i,j,rfl,rfl,e,q⟩:=h;obtain⟨t,rfl⟩:=c;obtain⟨d,rfl⟩:=b
 exact add_str (fun d tk=>⟨.str _,H,I.tok _,⟨_,rfl⟩,q⟩) e
theorem vals1   (r:Vals [x] us):∃u,us=[u]/\RelV x u:=by
 cases r with
 | cons b a=>cases a;grind
theorem vals2   (r:Vals [x,y] us):∃u w',us=[u,w']/\RelV x u/\RelV y w':=by
 cases r with
 | cons c b =>
  cases b with
  | cons d a=>cases a;grind
theorem A1l:CallR X (.builtin "abs") (fun xs H Q=>∃i,xs=[.int i]/\Q (.int (if i<0 then -i else i)) H):=by
 intro a s σ H xs us Q I r h;obtain⟨i,rfl,q⟩:=h;obtain⟨u,rfl,t,rfl⟩:=vals1 r
 exact call_abs_int fun u tk=>⟨.int _,H,I.tok _,⟨_,rfl⟩,q⟩
theorem Aq1 (hc:X.calm=true):CallR X (.builtin "min") (fun xs H Q=>∃i j,xs=[.int i,.int j]/\Q (.int (if j<i then j else i)) H):=by
 intro a s σ H xs us Q I r h;obtain⟨i,j,rfl,q⟩:=h;obtain⟨u,w',rfl,⟨t,rfl⟩,⟨t',rfl⟩⟩:=vals2 r
 refine min_two_ints (I.ok.hd hc) fun h' tk k=>⟨_,H,I.kept k,?_,q⟩
 by_cases hj:j<i
 ·rw[if_pos hj,if_pos hj];exact⟨_,rfl⟩
 ·rw[if_neg hj,if_neg hj];exact⟨_,rfl⟩
theorem Av9:CallR X (.type "int") (fun xs H Q=>(∃i,xs=[.int i]/\Q (.int i) H)\/∃k,xs=[.bl k]/\Q (.int (if k then 1 else 0)) H):=by
 intro a s σ H xs us Q I r h
 rcases h with ⟨i,rfl,q⟩ | ⟨k,rfl,q⟩
 ·obtain⟨u,rfl,t,rfl⟩:=vals1 r
  exact call_int_int ⟨.int i,H,I,⟨_,rfl⟩,q⟩
 ·obtain⟨u,rfl,b⟩:=vals1 r
  cases b
  exact call_int_bool ⟨.int _,H,I.tok _,⟨_,rfl⟩,q⟩
theorem Xa:CallR X (.type "str") (fun xs H Q=>∃i,xs=[.int i]/\i.natAbs.log2<1920/\Q (.str (toString i)) H):=by
 intro a s σ H xs us Q I r h;obtain⟨i,rfl,b,q⟩:=h;obtain⟨u,rfl,t,rfl⟩:=vals1 r;exact PySem.P.str_of_int b ⟨.str _,H,I.tok _,⟨_,rfl⟩,q⟩
def Bs8 (K:PySem.W.Frag)(x:V)(H:Hp)(n:Nat):Prop :=
 match x with
 | .str y=>y.length<=sizeLine/\n=y.length
 | .byt y=>y.size<=sizeLine/\n=y.size
 | .ref p=>(∃xs,SqL K H p xs/\n=xs.length)\/∃xs,SqT K H p xs/\n=xs.length
 | _=>False
theorem Zz:CallR X (.builtin "len") (fun xs H Q=>∃x n,xs=[x]/\Bs8 X.K x H n/\Q (.int n) H):=by
 intro j s σ H xs us Q I r h;obtain⟨x,n,rfl,e,q⟩:=h;obtain⟨u,rfl,d⟩:=vals1 r;have hl:=Sh;have hs:sizeLine=16777216:=sizeLine_eq
 cases x with
 | str y =>
  obtain⟨t,rfl⟩:=d;obtain⟨l,b⟩:y.length<=sizeLine/\n=y.length:=e;subst b
  exact len_str (by omega) ⟨.int _,H,I.tok _,⟨_,rfl⟩,q⟩
 | byt y =>
  obtain⟨t,rfl⟩:=d;obtain⟨l,b⟩:y.size<=sizeLine/\n=y.size:=e;subst b
  exact PySem.W.len_bytes (by omega) ⟨.int _,H,I.tok _,⟨_,rfl⟩,q⟩
 | ref p =>
  cases d
  have b  := e
  rcases b with ⟨xs,c,b⟩ | ⟨xs,c,b⟩
  ·subst b
   obtain⟨g,f,i,k⟩:=I.list c;have a:=f.length
   exact Calls.call_len_list i.isList (by grind) ⟨.int _,H,I.tok _,⟨_,by simp only[List.size_toArray];rw[a]⟩,q⟩
  ·subst b
   obtain⟨g,f,i,k⟩:=I.tuple c;have a:=f.length
   exact len_tuple i (by grind) ⟨.int _,H,I.tok _,⟨_,by simp only[List.size_toArray];rw[a]⟩,q⟩
 | _=>trivial
end
section
variable {X:Cx}{pins:List (Addr×Obj)}{σ:St}{H:Hp}{s:Shared}{a C dx:Addr}{fs:List (Str×V)}{f:Str}{v:V}{A:Around}{E:Value->Shared->Prop}
theorem A8o {prog:Program}{w:World}{env:Env}{e:Expr}{f:Str}{pos:Pos}{s:Shared}{Q:Value->Shared->Prop}(hb:attributeBase e f env (eval e env)=eval e env)
 (h:wpAny (model prog w) A (eval e env) (fun o s₁=>wpAny (model prog w) A (getAttr o f true) Q E s₁) E s):wpAny (model prog w) A (eval (.Attribute e f pos) env) Q E s :=
 Attribute_any_ h (by rw[arm_eval_Attribute,hb])
end
structure Room (k:Nat) (A:Around):Prop where
 hd:A.handled=none
 dp:A.depth+3*k+5<recursionLimit
 un:A.units+16*k+200<cLine
 gd:A.guards=some []
theorem Room.mono   (r:Room k A) (h:j<=k):Room j A:=⟨r.hd,by have:=r.dp;omega,by have:=r.un;omega,r.gd⟩
theorem Room.deeper   (r:Room (k+1) A) (env:Env):Room k (A.deeper env) :=
 ⟨r.hd,by have:=r.dp;show A.depth+1+3*k+5<_;omega,by have:=r.un;show A.units+3+16*k+200<_;omega,r.gd⟩
theorem Af3 {A:Around}{C:Addr}{us:List Value}{kw:List (Str×Value)}:(A.under (.builtin "type.__call__" ⟨.ref C::us,kw⟩)).depth=A.depth+1:=by
 first | rfl | simp[Around.under,Code.weight,Code.isCreation,Code.isGuard,Code.isCaller,Code.frames,Code.isFrame,guardIds]
theorem Ad7 {A:Around}{C:Addr}{us:List Value}{kw:List (Str×Value)}:(A.under (.builtin "type.__call__" ⟨.ref C::us,kw⟩)).units=A.units+1:=by
 first | rfl | simp[Around.under,Code.cUnits,Code.frames,Code.isFrame]
theorem Room.make {k:Nat}{A:Around}(r:Room (k+1) A)(C:Addr)(us:List Value)(kw:List (Str×Value)):Room k (A.under (.builtin "type.__call__" ⟨.ref C::us,kw⟩)) :=
 ⟨r.hd,by have:=r.dp;rw[Af3];omega,by have:=r.un;rw[Ad7];omega,by first | exact r.gd | (show (A.under _).guards=some [];rw[<- r.gd];rfl) | simp[Around.under,Code.guards,Code.isGuard,guardIds,r.gd]⟩
theorem Room.depth   (r:Room k A):A.depth<recursionLimit:=by have:=r.dp;omega
theorem Room.units   (r:Room k A):A.units+64<cLine:=by have:=r.un;omega
def Gx:TA:=fun _ H Q=>Q [] H
def Cy (ta:TE)(tr:TA):TA:=fun σ H Q=>ta σ H fun x H1=>tr σ H1 fun xs H2=>Q (x::xs) H2
section
variable {X:Cx}{e:Expr}{es:List Expr}{te:TE}{t:TA}{pos:Pos}
theorem Wt:PA X [] Gx:=fun _ _ _ _ H Q I h=>Calls.spliced_nil ⟨[],H,I,.nil,h⟩
theorem An4 (ha:PE X e te)(hr:PA X es t)(hs:starEach (e::es) X.env=(false,eval e X.env)::starEach es X.env:=by rfl):PA X (e::es) (Cy te t):=by
 intro d a s m H Q I h;rw[hs]
 refine Calls.spliced_cons (thn (ha _ s _ H _ I h) fun u o ⟨x,n,f,g,i⟩=>?_)
 exact thn (hr _ _ _ _ _ _ f i) fun p q ⟨c,k,j,l,b⟩=>⟨x::c,k,j,.cons g l,b⟩
def Av2 (t:TA):TE:=fun σ H Q=>t σ H fun xs H1=>xs.length<=sizeLine/\∀p,H1 p=none->Q (.ref p) (upd H1 p (.tup xs))
def Bc1 (t:TA):TE:=fun σ H Q=>t σ H fun xs H1=>xs.length<=sizeLine/\∀p,H1 p=none->Q (.ref p) (upd H1 p (.lst xs))
theorem Bk4  (h:PA X es t):PE X (.Tuple es d pos) (Av2 t):=by
 intro a s i H Q I g
 refine wpAny_Tuple_spliced (thn (h _ _ s _ H _ I g) fun f j ⟨k,l,c,r,z,q⟩=>⟨by rw[<- r.length];grind,?_⟩)
 refine⟨.ref _,upd _ _ _,c.laid  (fun b u e=>Heap.get?_push_of_some _ e) (Nat.le_refl _) ?_,rfl,q _ (c.hok.fresh (Nat.le_refl _))⟩
 exact⟨z,f,r,⟨_,Heap.get?_push_size _ rfl,rfl,⟨_,rfl⟩,rfl⟩⟩
theorem Bm0 (h:PA X es t):PE X (.List es pos) (Bc1 t):=by
 intro c s g H Q I d
 refine wpAny_List_spliced (thn (h _ _ s _ H _ I d) fun f i ⟨j,k,a,r,z,q⟩=>⟨by rw[<- r.length];grind,?_⟩)
 refine⟨.ref _,upd _ _ _,a.laid  (fun b u e=>Heap.get?_push_of_some _ e) (Nat.le_refl _) ?_,rfl,q _ (a.hok.fresh (Nat.le_refl _))⟩
 exact⟨z,f,0,r,Heap.get?_push_size _ rfl⟩
end
abbrev Sp:=List V->Hp->VK->XK->Prop
abbrev CXT:=List Env->Hp->Shared->XK->Value->Shared->Prop
structure Env0 (P:Program) (w:World) (K:PySem.W.Frag) (mg:Str->Option Value) (base:Heap) (A:Around) (outer:List Env) (s:Shared) (H:Hp):Prop where
 frames:A.frames=some outer
 mod:Mod K mg base
 bs:∀b o,base.get? b=some o->s.heap.get? b=some o/\H b=none
 bsz:base.objs.size<=s.heap.objs.size
 funs:s.heap.FunFrames base outer
 frf:∀b∈frs outer,H b=none
 tab:∀p∈Dy K,H p.1=some (.tbl p.2)
 hok:HOk P w H s.heap
 bare:AllBare s.gens
def CE (outer:List Env)(P:Program)(w:World)(H:Hp)(s:Shared)(Q:VK)(u:Value)(s':Shared):Prop :=
 ∃v H',s'.os=s.os/\AllBare s'.gens/\Un (frs outer) [] H H' s.heap s'.heap/\HOk P w H' s'.heap/\RelV v u/\Q v H'
def CR (CX:CXT)(outer:List Env)(P:Program)(w:World)(H:Hp)(s:Shared)(Q:VK)(E:XK)(r:Result)(s':Shared):Prop :=
 match r with
 | .ok (.ret u)=>CE outer P w H s Q u s'
 | .ok _=>False
 | .error e=>CX outer H s E e s'
structure FnOk (P:Program) (w:World) (K:PySem.W.Frag) (mg:Str->Option Value) (base:Heap) (CX:CXT) (k:Nat) (f:Addr) (fd:FuncData) (ps:List Str) (sp:Sp):Prop where
 len:∀vs H Q E,sp vs H Q E->vs.length=ps.length
 run:∀(A:Around) (outer:List Env) (s:Shared) (H:Hp) (args:Args) (us:List Value) (vs:List V) (Q:VK) (E:XK),Room k A->Env0 P w K mg base A outer s H->BindsTo s fd args (ps.zip us)->Vals vs us->sp vs H Q E ->
  codeAny (model P w) A (.call (.ref f) args) (CR CX outer P w H s Q E) s
theorem FnOk.imp   {K:PySem.W.Frag}         (F:FnOk P w K mg base CX k f d ps sp)
 (h:∀b H Q E,a b H Q E->sp b H Q E):FnOk P w K mg base CX k f d ps a :=
 ⟨fun b H Q E q=>F.len _ H Q E (h _ _ _ _ q),fun A c s H e n b Q E j l i m g=>F.run A _ s H _ _ _ Q E j l i m (h _ _ _ _ g)⟩
theorem Env0.make {P:Program}{w:World}{K:PySem.W.Frag}{mg:Str->Option Value}{base:Heap}{A:Around}{outer:List Env}{s:Shared}{H:Hp}(e:Env0 P w K mg base A outer s H)(C:Addr)(us:List Value)(kw:List (Str×Value)) :
 Env0 P w K mg base (A.under (.builtin "type.__call__" ⟨.ref C::us,kw⟩)) outer s H:=⟨by first | exact e.frames | (simpa[Around.under,Code.envs,Code.isFrame,pushEnvs] using e.frames),e.mod,e.bs,e.bsz,e.funs,e.frf,e.tab,e.hok,e.bare⟩
section
variable {X:Cx}{pins:List (Addr×Obj)}{σ:St}{H:Hp}{s s':Shared}
theorem Inv.env0 (I:Inv X pins σ H s):Env0 X.prog X.w X.K X.mg X.base X.A X.stack s H :=
 ⟨I.ok.frames,I.ok.mod,I.bs,Nat.le_trans I.ok.bsz I.sz,I.stack,I.stkFree,fun p a=>I.base.tbls _ _ (I.ok.tab p a),I.hok,I.bare⟩
theorem Inv.after   (I:Inv X pins σ H s) (h:CE X.stack X.prog X.w H s Q u s'):EP X pins σ Q u s':=by
 obtain⟨v,j,i,a,f,c,r,q⟩:=h;obtain⟨hh,g,d,t,e⟩:=s';obtain rfl:e=s.os:=i
 exact⟨v,j,I.call      f c a fun b z=>absurd z (by simp),r,q⟩
end
def Kv (sp:Sp)(dvs:List V)(E:XK)(t:TA):TE:=fun σ H Q=>t σ H fun vs H1=>sp (vs++dvs) H1 Q E
def Binds (K:PySem.W.Frag)(fd:FuncData)(ps:List Str)(ds:List Value):Prop :=
 ∀(s:Shared) (us:List Value),K.In s.heap->(us++ds).length=ps.length->BindsTo s fd ⟨us,[]⟩ (ps.zip (us++ds))
theorem Binds.all {K:PySem.W.Frag}   (h:∀a:List Value,a.length=ps.length->bindArgs c ⟨a,[]⟩=pure (ps.zip a)):Binds K c ps []:=fun s a _ b=>by
 rw[List.append_nil]at b ⊢;exact .of_eq (h _ b)
def Gm (CX:CXT)(X:Cx)(E:XK):Prop:=∀(pins:List (Addr×Obj)) (σ:St) (H:Hp) (s:Shared) (e:Value) (s':Shared),Inv X pins σ H s->CX X.stack H s E e s'->X.xe e s'
section
variable {X:Cx}{CX:CXT}{k:Nat}{f C:Addr}{fd:FuncData}{ps:List Str}{sp:Sp}{dvs:List V}{ds:List Value}{E:XK}{x m:Str}{p pos apos:Pos}{e o:Expr}{es:List Expr}{ta:TE}{t:TA}
theorem Bp2        (F:FnOk X.prog X.w X.K X.mg X.base CX k f fd ps sp) (hr:Room k X.A) (hb:Binds X.K fd ps ds) (hd:Vals dvs ds) (hx:Gm CX X E)
 (I:Inv X pins b H s) (r:Vals vs us) (h:sp (vs++dvs) H Q E):wpAny (model X.prog X.w) X.A (call (.ref f) us) (EP X pins b Q) X.xe s:=by
 have a  := r.append hd
 have g:(us++ds).length=ps.length:=by rw[<- a.length];exact F.len _ _ _ _ h
 refine wpAny_call (codeAny_mono (F.run _ _ s H _ _ _ Q E hr I.env0 (hb s _ I.kIn g) a h) fun r i c=>?_)
 cases r with
 | error e=>exact hx _ _ H s e _ I c
 | ok d =>
  cases d with
  | ret u=>exact I.after c
  | next=>assumption
  | brk=>assumption
  | cont=>trivial
theorem A9t (F:FnOk X.prog X.w X.K X.mg X.base CX k f fd ps sp)(hr:Room k X.A)(hg:Gl X x)(hm:X.mg x=some (.ref f))(hk:PySem.W.keepIn X.K (.ref f)=true)(hb:Binds X.K fd ps ds)(hd:Vals dvs ds)(hx:Gm CX X E)
 (ha:PA X (e::es) t) (hdb:(x==("__debug__" : Str))=false:=by decide) (he:starEach (e::es) X.env=(false,eval e X.env)::starEach es X.env:=by rfl) (hpl:(backTo pos (starEach es X.env)).any (·.1)=false:=by rfl) :
 PE X (.Call (.Name x p) (e::es) [] pos) (Kv sp dvs E t):=by
 intro b s c H Q I h
 refine wpAny_Call_Name_kw (Ir I hg hm ?_ hdb)
 refine PySem.W.callWith_K  I.ok.mod.kin hk (thn (ha _ _ s _ H _ I h) fun d g ⟨i,j,a,r,q⟩=>⟨a.kIn,?_⟩) he hpl
 exact Bp2 F hr hb hd hx a r q
end
structure Bh (N P:List Str) (sc:Scope):Prop where
 kind:sc.kind=.function
 co:sc.isCoroutine=false
 gen:sc.isGenerator=false
 nd:N.Nodup
 pre:N.take P.length=P
 par:∀x∈P,sc.names.lookup x=some .local\/sc.names.lookup x=some .cell
 nofree:∀y∈sc.names,y.2≠.free
theorem Wj {kindOf:Str->Option NameKind}{x:Str}:∀{binds:List (Str×Value)}{m:Str->Option Value},(∀v,(x,v)∉binds)->bindL kindOf binds m x=m x
 | [],_,_=>rfl
 | (n,v)::r,m,h=>by
  unfold bindL
  rw[Wj fun w hw=>h w (List.mem_cons_of_mem _ hw)]
  split
  ·have:x≠n:=by rintro rfl;exact h v List.mem_cons_self
   simp[this]
  ·rfl
theorem Vv {kindOf:Str->Option NameKind}{x:Str}:∀{binds:List (Str×Value)}{m:Str->Option Value},(∀v,(x,v)∉binds)->bindC kindOf binds m x=m x
 | [],_,_=>rfl
 | (n,v)::r,m,h=>by
  unfold bindC
  rw[Vv fun w hw=>h w (List.mem_cons_of_mem _ hw)]
  split
  ·rfl
  ·have:x≠n:=by rintro rfl;exact h v List.mem_cons_self
   simp[this]
theorem Vw {kindOf:Str->Option NameKind}{x:Str}{v:Value}:∀{P:List Str}{vs:List Value}{i:Nat}{m:Str->Option Value},P.Nodup->P[i]?=some x->vs[i]?=some v->kindOf x=some .local ->
 bindL kindOf (P.zip vs) m x=some v
 | [],_,_,_,_,h,_,_=>by simp at h
 | _::_,[],_,_,_,_,h,_=>by simp at h
 | p::P,w::vs,0,m,nd,h1,h2,hk=>by
  simp at h1 h2;subst h1;subst h2
  show bindL kindOf ((p,w)::P.zip vs) m p=_
  unfold bindL
  rw[Wj fun v hv=>(List.nodup_cons.mp nd).1 (List.of_mem_zip hv).1,if_pos hk]
  simp
 | p::P,w::vs,i+1,m,nd,h1,h2,hk=>by
  show bindL kindOf ((p,w)::P.zip vs) m x=_
  unfold bindL
  exact Vw (i:=i) (List.nodup_cons.mp nd).2 (by simpa using h1) (by simpa using h2) hk
theorem Vz {kindOf:Str->Option NameKind}{x:Str}{v:Value}:∀{P:List Str}{vs:List Value}{i:Nat}{m:Str->Option Value},P.Nodup->P[i]?=some x->vs[i]?=some v->kindOf x≠some .local ->
 bindC kindOf (P.zip vs) m x=some v
 | [],_,_,_,_,h,_,_=>by simp at h
 | _::_,[],_,_,_,_,h,_=>by simp at h
 | p::P,w::vs,0,m,nd,h1,h2,hk=>by
  simp at h1 h2;subst h1;subst h2
  show bindC kindOf ((p,w)::P.zip vs) m p=_
  unfold bindC
  rw[Vv fun v hv=>(List.nodup_cons.mp nd).1 (List.of_mem_zip hv).1,if_neg hk]
  simp
 | p::P,w::vs,i+1,m,nd,h1,h2,hk=>by
  show bindC kindOf ((p,w)::P.zip vs) m x=_
  unfold bindC
  exact Vz (i:=i) (List.nodup_cons.mp nd).2 (by simpa using h1) (by simpa using h2) hk
def start (N:List Str)(vs:List V):St:=vs.map some++List.replicate (N.length-vs.length) none
def Hd (CX:CXT)(P:Program)(w:World)(K:PySem.W.Frag)(mg:Str->Option Value)(base:Heap)(N:List Str)(qual:Str)(scope:Scope)(f:Addr)(cd:Value)(A:Around)(outer:List Env)(s:Shared)(H:Hp)(E:XK):Cx where
 prog:=P
 w:=w
 K:=K
 mg:=mg
 base:=base
 A:=A.deeper (envOfC qual scope s.heap.objs.size f cd)
 N:=N
 s₀:=s
 H₀:=H
 env:=envOfC qual scope s.heap.objs.size f cd
 outer:=outer
 stack:=envOfC qual scope s.heap.objs.size f cd::outer
 ex:=[]
 calm:=true
 fn:=fun _=>true
 pn:=[]
 xe:=fun e s'=>wpAny (model P w) (A.deeper (envOfC qual scope s.heap.objs.size f cd)) (leaving (envOfC qual scope s.heap.objs.size f cd) e) (fun _ s''=>CX outer H s E e s'') (fun e' s''=>CX outer H s E e' s'') s'
theorem Zx {a:Scope}   (h:a.names.lookup x=some .cell):∃c,(cellsFrom n a.names []).lookup x=some c:=by
 exact Option.isSome_iff_exists.mp (PySem.W.cellsFrom_some _ n [] (.inl h))
theorem V1    {K:PySem.W.Frag}              
 (S:Bh N ps scope) (hd:A.handled=none) (d:Env0 P w K mg base A a s H) (hl:vs.length=ps.length) (r:Vals vs us)
 (x:InCallC s s.heap.objs.size (bindL (envOfC qual scope s.heap.objs.size f t).kindOf (ps.zip us) fun _=>none) (cellsFrom (s.heap.objs.size+1) scope.names []) (bindC (envOfC qual scope s.heap.objs.size f t).kindOf (ps.zip us) fun _=>none) s1) :
 Inv (Hd CX P w K mg base N qual scope f t A a s H E) [] (start N vs) H s1:=by
 have D:ps.length<=N.length:=by have:=congrArg List.length S.pre;rw[List.length_take]at this;omega
 obtain⟨o,tk,rfl,B⟩:=x.done
 have g:∀b:Addr,b∉(Hd CX P w K mg base N qual scope f t A a s H E).ex:=fun b z=>absurd (show b∈([]:List Addr) from z) (by simp)
 refine⟨⟨d.mod,S.kind,rfl,rfl,Nat.le_refl _,fun y z c o n=>?_,fun y j=>?_,fun y c _ h=>?_,fun _=>hd,Around.frames_deeper d.frames,.inr ⟨rfl,rfl⟩,fun b z=>absurd z (g b),d.bs,d.bsz,fun b _ _=>g b,fun b z=>absurd z (g b),d.funs,d.frf,d.tab⟩,
  rfl,d.bare,Un.kept B,⟨_,x.toInCall.ns,fun i y v o n h3=>?_⟩,fun y c h=>⟨_,x.cell y c h⟩,d.hok.fresh (Nat.le_refl _),fun y c h=>?_,fun p m=>absurd (show p∈([]:List (Addr×Obj)) from m) (by simp),d.hok.kept B,?_⟩
 ·exact name_of_addr x.apart (PySem.mem_of_lookup o) (PySem.mem_of_lookup n)
 ·have j:scope.names.lookup y=some .cell\/scope.names.lookup y=some .free:=j
  rcases j with j | j
  ·exact Zx j
  ·exact absurd rfl (S.nofree _ (PySem.mem_of_lookup j))
 ·exact Nat.le_of_lt (x.above y c (PySem.mem_of_lookup h))
 ·have hi:i<vs.length:=by
   unfold start at n
   grind
  have F:vs[i]?=some v:=by
   unfold start at n
   grind
  obtain⟨u,C,G⟩:=r.get F
  have m:ps[i]?=some y:=by
   rw[<- S.pre,List.getElem?_take_of_lt (by omega)];exact o
  have l:ps.Nodup:=by rw[<- S.pre];exact S.nd.sublist (List.take_sublist _ _)
  refine⟨u,G,?_⟩
  rcases S.par y (List.mem_of_getElem? m) with k | k
  ·exact .inl ⟨k,Vw l m C k⟩
  ·obtain⟨c,e⟩:=Zx  k
   refine .inr ⟨.inl k,c,e,?_⟩
   have q:=x.cell y c e
   rw[Vz l m C (by show scope.names.lookup y≠_;rw[k];decide)]at q
   exact q
 ·exact d.hok.fresh (Nat.le_of_lt (x.above y c (PySem.mem_of_lookup h)))
 ·unfold start
  show _=N.length
  simp_all
theorem Al9    {K:PySem.W.Frag}          
 (lk:K.lookup f=some ⟨oc,od,.func (PySem.W.fnOf name qual d body scope U O z R M a W),F⟩) (hcd:PySem.W.codeIn K a qual=true) (S:Bh N ps scope)
 (p:∀vs H Q E,sp vs H Q E->vs.length=ps.length)
 (i:∀(A:Around) (c:List Env) (s:Shared) (H:Hp) (vs:List V) (Q:VK) (E:XK),Room k (A.deeper (envOfC qual scope s.heap.objs.size f a))->sp vs H Q E ->
  ∃t,PSs (Hd CX P w K mg base N qual scope f a A c s H E) body t/\t { nx:=fun _ H'=>Q .non H',rt:=Q } (start N vs) H) :
 FnOk P w K mg base CX (k+1) f (PySem.W.fnOf name qual d body scope U O z R M a W) ps sp:=by
 refine⟨p,fun A c s H T X vs Q E C l hb r m=>?_⟩
 have hl:=p _ _ _ _ m
 have G  := l.mod.kin.keeps fun b o e=>(l.bs b o e).1
 have h:∀y∈ps.zip X,scope.names.lookup y.1=some .local\/(scope.names.lookup y.1=some _/\((cellsFrom (s.heap.objs.size+1) _ []).lookup y.1).isSome=true):=fun⟨n,v⟩ Y=>by
  rcases S.par n (List.of_mem_zip Y).1 with q | q
  ·grind
  ·exact .inr ⟨q,PySem.W.cellsFrom_some _ _ _ (.inl q)⟩
 refine codeAny_call_function C.depth (G _ _ lk) rfl S.co S.gen rfl (PySem.W.codeRec_of G hcd) (hb _ _ _ _ ?_)
 refine wpAny_newFunctionEnv_cells S.kind h fun Z he s1 x=>?_
 subst he
 refine⟨(l.mod.nolimit.keeps fun b o e=>(l.bs b o e).1).keeps x.toInCall.keep,codeAny_func ?_⟩
 obtain⟨t,ht,hq⟩:=i A _ s H _ Q E (C.deeper _) m;have I:Inv (Hd CX P w K _ _ N qual _ f a A _ s H E) _ _ H _:=V1 S C.hd l hl r x
 refine wpAny_mono (ht _ _ _ H _ I hq) (fun fl L j=>?_) fun e L j=>j
 have B:∀{g:St} {H':Hp} {v:V} {u:Value},Inv (Hd CX P w K mg base N qual scope f a A c s H E) [] g _ L->RelV v u->Q v _->CE _ P w H s Q u _ :=
  fun {g H' v u} J D q=>⟨v,H',J.os,J.bare,J.base,J.hok,D,q⟩
 cases fl with
 | ret u =>
  obtain⟨v,g,H',J,D,q⟩:=j;exact B J D q
 | next =>
  obtain⟨g,H',J,q⟩:=j;exact B (v:=V.non)  J rfl q
 | brk =>
  obtain⟨_,_,_,q⟩:=j
  trivial
 | cont =>
  obtain⟨_,_,_,q⟩:=j
  trivial
section
variable {X:Cx}{x:Str}{p pos:Pos}{e:Expr}{es:List Expr}{t:TA}{id T:String}{r:List V->Hp->VK->Prop}
def tCB (r:List V->Hp->VK->Prop)(t:TA):TE:=fun σ H Q=>t σ H fun vs H1=>r vs H1 Q
theorem A5j (hc:CallR X (.builtin id) r)(hg:Gl X x)(hm:X.mg x=none)(hv:bootBuiltins x=some (.builtin id))(ha:PA X (e::es) t)(hn:x ≠ "__name__" := by decide) (hdb:(x==("__debug__" : Str))=false:=by decide)
 (he:starEach (e::es) X.env=(false,eval e X.env)::starEach es X.env:=by rfl) (hpl:(backTo pos (starEach es X.env)).any (·.1)=false:=by rfl):PE X (.Call (.Name x p) (e::es) [] pos) (tCB r t):=by
 intro a s f H Q I h
 refine wpAny_Call_Name_kw (Qa I hg hm hv ?_ hn hdb)
 exact PyProof.Rows.callWith_builtin1 (thn (ha _ _ s _ H _ I h) fun j k ⟨g,i,d,c,b⟩=>hc _ _ _ _ _ _ Q d c b) he hpl
theorem As6 (hc:CallR X (.type T) r)(hg:Gl X x)(hm:X.mg x=none)(hv:bootBuiltins x=some (.type T))(ha:PA X (e::es) t)(hn:x ≠ "__name__" := by decide) (hdb:(x==("__debug__" : Str))=false:=by decide)
 (he:starEach (e::es) X.env=(false,eval e X.env)::starEach es X.env:=by rfl) (hpl:(backTo pos (starEach es X.env)).any (·.1)=false:=by rfl):PE X (.Call (.Name x p) (e::es) [] pos) (tCB r t):=by
 intro a s f H Q I h
 refine wpAny_Call_Name_kw (Qa I hg hm hv ?_ hn hdb)
 exact PyProof.Rows.callWith_type1 (thn (ha _ _ s _ H _ I h) fun j k ⟨g,i,d,c,b⟩=>hc _ _ _ _ _ _ Q d c b) he hpl
end
end L2
namespace HT
open PySem PyProof.Rows
section
variable {prog:Program}{w:World}{A:Around}{E:Value->Shared->Prop}{s:Shared}
theorem A7r    (ht:IsTup s.heap t vs.toArray) (hb:IsTup s.heap b c.toArray) (hv:vs≠[])
 (h1:c=[]->Q (.ref t) s) (h2:c≠[]->Q (.ref s.heap.objs.size) { s with heap:=s.heap.push { cls:=.type "tuple",data:=.seq (vs++c).toArray } })
 (hsz:vs.length+c.length<=sizeLine):wpAny (model prog w) A (binaryOp .Add (.ref t) (.ref b)) Q E s:=by
 obtain⟨⟨g,q,d,p⟩,e,o,n,l⟩:=id ht;obtain⟨⟨j,k,i,m⟩,a,h,r,f⟩:=id hb;subst o l h f
 by_cases hw:c=[]
 ·exact concat_meets ⟨_,e,rfl⟩ ⟨_,a,rfl⟩ noFill_tuple_add seq_tuple_add PySem.F.slot_tuple_add PySem.F.entry_tuple_add (PySem.F.args_tuple_add_2 _ _)
   (tuple_addW1 t b _ _ n _ _ _ _ _ (by simp_all) (by grind)) ⟨e,a,h1 hw⟩
 ·refine concat_meets ⟨_,e,rfl⟩ ⟨_,a,rfl⟩ noFill_tuple_add seq_tuple_add PySem.F.slot_tuple_add PySem.F.entry_tuple_add (PySem.F.args_tuple_add_2 _ _)
   (tuple_addW2 t b _ _ n _ _ _ _ _ (by grind) (by simp_all) (by simp_all)) ⟨e,a,?_⟩
  grind
def sIx (n d:Nat):Option Int->Nat
 | none=>d
 | some v=>if v<0 then (v+(n:Int)).toNat else min v.toNat n
theorem A1g (n d:Nat):sIx n d none=d:=rfl
theorem Xx (n d k:Nat):sIx n d (some (k:Int))=min k n:=by
 show (if k<0 then ((k:Int)+n).toNat else min _ n)=min k n
 grind
theorem Be8 (n d:Nat)(hd:d<=n)(o:Option Int):sIx n d o<=n:=by
 cases o with
 | none=>exact hd
 | some v =>
  show (if v<0 then (v+n).toNat else min _ n)<=n
  grind
theorem Ak6 (v:Int)(n d:Nat):(if v<0 then max (v+(n:Int)) 0 else min v (n:Int))=((sIx n d (some v):Nat):Int):=by
 show (if v<0 then max _ 0 else min v _)=(((if v<0 then (v+n).toNat else min _ n):Nat):Int)
 grind
theorem Aj6 (lo hi:Option Int)(n:Nat):Builtin.Slice.sliceAdjust lo hi 1 (n:Int)=(((sIx n 0 lo:Nat):Int),((sIx n n hi:Nat):Int)):=by
 refine Prod.ext ?_ ?_
 ·cases lo with
  | none=>rfl
  | some v=>exact Ak6 v n 0
 ·cases hi with
  | none=>rfl
  | some v=>exact Ak6 v n n
theorem Aj4 (i j:Nat):Builtin.Slice.slicePlaces (i:Int) (j:Int) 1=j-i:=by
 unfold Builtin.Slice.slicePlaces
 have h1:(1:Int)>0:=by omega
 simp only[h1,if_true,Int.ediv_one]
 split <;> omega
theorem U4    (p:IsPart v o) (h:Q o s):wpAny (model prog w) A (Builtin.Slice.slicePartIndex v) Q E s:=by
 cases p with
 | none=>exact slicePart_none h
 | int i t=>exact slicePart_int h
theorem Jq   {lo hi:Option Int}{n:Nat}  (hs:s.heap.IsSliceOf e d c .none) (pl:IsPart d lo) (g:IsPart c hi)
 (h:Q (((sIx n 0 lo:Nat):Int),1,sIx n n hi-sIx n 0 lo) s):wpAny (model prog w) A (Builtin.Slice.sliceApplied (.ref e) (pure (n:Int))) Q E s:=by
 obtain⟨i,a,f,b⟩:=id hs
 refine wpAny_bind (wpAny_bind (wpAny_field a b (x:=d) rfl (wpAny_bind (wpAny_field a b (x:=c) rfl (wpAny_bind (wpAny_field a b  rfl (wpAny_pure ?_)))))))
 refine wpAny_bind (slicePart_none ?_)
 refine wpAny_bind (U4 pl (wpAny_bind (U4 g (wpAny_bind (wpAny_pure ?_)))))
 show wpAny _ _ (match Builtin.Slice.sliceAdjust _ _ 1 _ with | (lo,hi)=>pure (lo,(1:Int),Builtin.Slice.slicePlaces lo hi 1)) _ _ s
 rw[Aj6 _ _ n]
 show wpAny _ _ (pure _) _ _ s
 rw[Aj4];exact wpAny_pure h
theorem A1n (xs:Array Value)(i k:Nat):((List.range k).filterMap fun (m:Nat)=>xs[((i:Int)+(m:Int)*1).toNat]?).toArray=((xs.toList.drop i).take k).toArray:=by
 have e:(fun (m:Nat)=>xs[((i:Int)+m*1).toNat]?)=fun m=>xs[i+m]?:=by
  funext m
  have:((i:Int)+m*1).toNat=i+m:=by omega
  rw[this]
 rw[e];have:=pick_run xs i k;rw[List.filterMap_map]at this
 have a:((fun x=>xs[x]?) ∘ fun x=>i+x)=fun m=>xs[i+m]?:=rfl
 rw[a]at this;rw[this]
theorem O7    {lo hi:Option Int}  (ht:IsTup s.heap t items) (hs:s.heap.IsSliceOf sl vl vu .none) (pl:IsPart vl lo) (pu:IsPart vu hi)
 (hw:¬ (sIx items.size 0 lo=0/\sIx items.size items.size hi=items.size))
 (h:Q (.ref s.heap.objs.size) { s with heap:=s.heap.push { cls:=.type "tuple",data:=.seq ((items.toList.drop (sIx items.size 0 lo)).take (sIx items.size items.size hi-sIx items.size 0 lo)).toArray } })
 (hsz:items.size<=sizeLine):wpAny (model prog w) A (getItem (.ref t) (.ref sl)) Q E s:=by
 have htake:sizeOk (.seq ((items.toList.drop (sIx items.size 0 lo)).take (sIx items.size items.size hi-sIx items.size 0 lo)).toArray):=by
  show ((items.toList.drop (sIx items.size 0 lo)).take (sIx items.size items.size hi-sIx items.size 0 lo)).toArray.size<=sizeLine
  rw[List.size_toArray,List.length_take,List.length_drop,Array.length_toList];omega
 have hj:sIx items.size items.size hi<=items.size:=Be8 _ _ (Nat.le_refl _) hi;obtain⟨os,hos,hcs,hds⟩:=id hs;have hTs:s.TypeIs (.ref sl) "slice" := ⟨os,hos,hcs⟩;unfold getItem
 try with_reducible refine wpAny_holding ?_
 first | refine wpAny_bind (wpAny_pure ?_) | skip
 refine wpAny_bind (wpAny_sequenceKey ht.typeIs (by decide) ?_)
 refine wpAny_bind (wpAny_callSpecial?_slot (name:="__getitem__") ht.typeIs PyProof.Rows.slot_tuple_getitem
  (wpAny_call_entry PyProof.Rows.slot_tuple_getitem ht.typeIs entry_tuple_getitem ?_ (args_tuple_getitem _ _)))
 show wpAny _ _ (Builtin.Tuple.tupleItemsOf (.ref t) >>= _) _ _ s
 refine wpAny_bind (tupleItemsOf_ ht ?_)
 refine wpAny_bind (wpAny_typeOf hTs ?_)
 rw[if_pos (by decide)]
 refine wpAny_bind (Jq hs pl pu ?_)
 have hno:¬ ((((sIx items.size 0 lo:Nat):Int)==0&&(1:Int)==1&&(sIx items.size items.size hi-sIx items.size 0 lo)==items.size)=true):=by
  intro q;rw[Bool.and_eq_true,Bool.and_eq_true]at q;have q1:((sIx items.size 0 lo:Nat):Int)=0:=eq_of_beq q.1.1;have q2:sIx items.size items.size hi-sIx items.size 0 lo=items.size:=eq_of_beq q.2
  exact hw ⟨by omega,by omega⟩
 show wpAny _ _ (if (((sIx items.size 0 lo:Nat):Int)==0&&(1:Int)==1&&(sIx items.size items.size hi-sIx items.size 0 lo)==items.size)=true then _ else _) _ _ s
 rw[if_neg hno,A1n]
 first
  | exact wpAny_bind (m:=Builtin.Tuple.tupleExact _) (wpAny_newObj_type (wpAny_pure ⟨_,rfl,wpAny_pure h⟩) htake)
  | exact wpAny_bind (m:=Builtin.Tuple.tupleExact _) (wpAny_newObj_type (wpAny_bind (wpAny_pure (wpAny_pure ⟨_,rfl,wpAny_pure h⟩))) htake)
  | exact wpAny_bind (wpAny_bind (m:=Builtin.Tuple.tupleExact _) (wpAny_newObj_type (wpAny_pure (wpAny_pure ⟨_,rfl,wpAny_pure h⟩)) htake))
  | exact wpAny_bind (wpAny_bind (m:=Builtin.Tuple.tupleExact _) (wpAny_newObj_type (wpAny_pure ⟨_,rfl,wpAny_pure h⟩) htake))
end
end HT
namespace L2
open PySem PySem.Spec PyProof.Rows
abbrev TO:=St->Hp->(Option Int->Hp->Prop)->Prop
def PO (X:Cx)(e:Option Expr)(t:TO):Prop :=
 ∀
  (pins:List (Addr×Obj)) (s:Shared) (σ:St) (H:Hp) (Q:Option Int->Hp->Prop),Inv X pins σ H s->t σ H Q ->
  wpAny (model X.prog X.w) X.A (evalPart e X.env) (fun u s'=>∃o H',Inv X pins σ H' s'/\IsPart u o/\Q o H') X.xe s
def Yq:TO:=fun _ H Q=>Q none H
def A2u (t:TE):TO:=fun σ H Q=>t σ H fun x H1=>∃i,x=.int i/\Q (some i) H1
section
variable {X:Cx}{e:Expr}{te:TE}{lo hi:Option Expr}{tl th:TO}{pos p2:Pos}
theorem A6a:PO X none Yq:=by
 intro a s b H Q I h;exact wpAny_pure ⟨none,H,I,.none,h⟩
theorem A8s (h:PE X e te):PO X (some e) (A2u te):=by
 intro a s σ H Q I d
 refine thn (h _ s _ H _ I d) fun u s1 ⟨x,f,b,c,g⟩=>?_
 obtain⟨i,rfl,q⟩:=g;obtain⟨t,rfl⟩:=c;exact⟨some i,f,b,.int i t,q⟩
def SlR (X:Cx)(r:V->Option Int->Option Int->Hp->VK->Prop):Prop :=
 ∀
  (pins:List (Addr×Obj)) (s:Shared) (σ:St) (H:Hp) (x:V) (v vl vu:Value) (lo hi:Option Int) (sl:Addr) (Q:VK),Inv X pins σ H s->RelV x v->s.heap.IsSliceOf sl vl vu .none->IsPart vl lo->IsPart vu hi->r x lo hi H Q ->
  ∃T id,typeLookup (.type T) "__getitem__" = pure (some (.builtin id))/\s.TypeIs v T/\wpAny (model X.prog X.w) X.A (getItem v (.ref sl)) (EP X pins σ Q) X.xe s
theorem SlR.or  (h:SlR X r) (h':SlR X b):SlR X (fun x lo hi H Q=>r x lo hi H Q\/b x lo hi H Q):=by
 intro d s g H x v i j lo hi k Q I e c f a q
 rcases q with q | q
 ·exact h _ s _ H x v _ _ _ _ _ Q I e c f a q
 ·exact h' _ s _ H x v _ _ _ _ _ Q I e c f a q
def tSl (r:V->Option Int->Option Int->Hp->VK->Prop)(te:TE)(tl th:TO):TE:=fun σ H Q=>te σ H fun x H1=>tl σ H1 fun l H2=>th σ H2 fun u H3=>r x l u H3 Q
theorem A1x  (hr:SlR X r) (he:PE X e te) (hl:PO X lo tl) (hu:PO X hi th):PE X (.Subscript e (.Slice lo hi none p2) pos) (tSl r te tl th):=by
 intro c s E H Q I h
 refine Subscript_ (thn (he _ s _ H _ I h) fun v B ⟨x,D,i,j,k⟩=>?_)
 refine wpAny_Slice (thn (hl _ _ _ _ _ i k) fun m C ⟨l,K,n,o,f⟩=>thn (hu _ _ _ _ _ n f) fun g a ⟨u,J,t,w,p⟩=>?_)
 refine wpAny_pure ?_
 have z:Inv X _ _ _ { a with heap:=a.heap.push { cls:=.type "slice",data:=.fields #[m,g,.none] } }:=t.kept  fun b F q=>Heap.get?_push_of_some _ q
 obtain⟨T,G,y,A,d⟩:=hr _ _ _ _ x v _ _ l u _ Q z j (Heap.IsSliceOf.new ..) o w p
 exact tail_any  A y d (by trivial)
def Av5 (xs:List V)(lo hi:Option Int):List V:=(xs.drop (HT.sIx xs.length 0 lo)).take (HT.sIx xs.length xs.length hi-HT.sIx xs.length 0 lo)
theorem Q5 (xs:List V)(lo hi:Option Int):(Av5 xs lo hi).length<=xs.length:=by
 unfold Av5;rw[List.length_take,List.length_drop];omega
def Bv9 (K:PySem.W.Frag):V->Option Int->Option Int->Hp->VK->Prop:=fun x lo hi H Q=>∃a xs,x=.ref a/\SqT K H a xs /\
 ¬ (HT.sIx xs.length 0 lo=0/\HT.sIx xs.length xs.length hi=xs.length)/\∀p,H p=none->Q (.ref p) (upd H p (.tup (Av5 xs lo hi)))
theorem Bn8:SlR X (Bv9 X.K):=by
 intro e s σ H x v vl vu lo hi sl Q I j k g l h;obtain⟨a,i,rfl,m,hw,q⟩:=h
 cases j
 obtain⟨d,r,f,n⟩:=I.tuple m
 have c:d.toArray.size=i.length:=by exact r.length.symm
 refine⟨"tuple",_,PyProof.Rows.slot_tuple_getitem.lookup,f.typeIs,?_⟩
 refine HT.O7 f k g l (by grind) ?_ (by simp_all)
 rw[c]
 refine⟨.ref _,_,I.laid   (fun b ob q=>Heap.get?_push_of_some _ q) (Nat.le_refl _) ?_,rfl,q _ (I.hok.fresh (Nat.le_refl _))⟩
 exact⟨Nat.le_trans (Q5 _ _ _) n,_,(r.drop _).take _,zN.new _ _⟩
def Bu1 (K:PySem.W.Frag):R2:=fun x y H Q=>∃a b xs ys,x=.ref a/\y=.ref b/\SqT K H a xs/\SqT K H b ys/\xs≠[]/\xs.length+ys.length<=sizeLine /\
 (ys=[]->Q (.ref a) H)/\(ys≠[]->∀p,H p=none->Q (.ref p) (upd H p (.tup (xs++ys))))
theorem Vals.nil_iff   (r:Vals xs us):us=[]↔xs=[]:=by
 cases r with
 | nil=>simp
 | cons _ _=>simp
theorem A9d:OpR X (binaryOp .Add) (Bu1 X.K):=by
 intro e s σ H x y v u Q I o p h;obtain⟨a,b,xs,ys,rfl,rfl,k,l,g,hz,m,j⟩:=h
 cases o
 cases p
 obtain⟨i,d,n,_⟩:=I.tuple k;obtain⟨f,c,r,_⟩:=I.tuple l
 refine HT.A7r n r (fun z=>g (d.nil_iff.mp z)) (fun z=>⟨.ref a,H,I,rfl,m (c.nil_iff.mp z)⟩) (fun z=>?_) (by rw[<- d.length,<- c.length];grind)
 refine⟨.ref _,_,I.laid   (fun b ob q=>Heap.get?_push_of_some _ q) (Nat.le_refl _) ?_,rfl,j (fun w=>z (c.nil_iff.mpr w)) _ (I.hok.fresh (Nat.le_refl _))⟩
 exact⟨by simp_all,_,d.append c,zN.new _ _⟩
end
def ixN (n:Nat)(i:Int):Option Nat:=if 0<=i then (if i<n then some i.toNat else none) else if -(n:Int)<=i then some (i+n).toNat else none
def atI {α:Type}(xs:List α)(i:Int):Option α:=(ixN xs.length i).bind fun j=>xs[j]?
theorem Wn    (h:ixN n i=some j):seqIndex? i n=some j/\j<n/\-(n:Int)<=i/\i<n:=by
 unfold ixN at h
 by_cases h0:0<=i
 ·rw[if_pos h0]at h
  by_cases h1:i<n
  ·rw[if_pos h1]at h
   have e  := Option.some.inj h
   exact⟨by rw[seqIndex_of h0 h1,e],by omega,by omega,h1⟩
  simp_all
 ·rw[if_neg h0]at h
  by_cases h1:-n<=i
  ·rw[if_pos h1]at h
   have e  := Option.some.inj h
   exact⟨by rw[seqIndex_neg (by omega) h1,e],by omega,h1,by omega⟩
  simp_all
theorem Yc  {xs:List a}  {v:a}(h:atI xs i=some v):∃j,seqIndex? i xs.length=some j/\xs[j]?=some v/\j<xs.length/\-(xs.length:Int)<=i/\i<xs.length:=by
 unfold atI at h
 cases e:ixN xs.length i with
 | none=>simp_all
 | some j =>
  obtain⟨c,d,f,b⟩:=Wn e
  grind
theorem Gf  {xs:List a}{j:Nat}{v:a}(h:xs[j]?=some v):atI xs (j:Int)=some v:=by
 have b  := (List.getElem?_eq_some_iff.mp h).1
 have e:ixN xs.length j=some j:=by
  unfold ixN
  simp_all
 unfold atI;grind
def Mm (b:Expr):Prop:=∀o i,subscripted b false o i=operate [o,i] (getItem o i)
def IxR (X:Cx)(r:R2):Prop :=
 ∀
  (value slice:Expr) (pins:List (Addr×Obj)) (s:Shared) (σ:St) (H:Hp) (x y:V) (v u:Value) (Q:VK),Inv X pins σ H s->RelV x v->RelV y u->r x y H Q ->
  subscripted slice false v u=operate [v,u] (getItem v u)->wpAny (model X.prog X.w) X.A (subscriptTail value slice v u) (EP X pins σ Q) X.xe s
def MtR (X:Cx)(id:String)(r:V->List V->Hp->VK->Prop):Prop :=
 ∀
  (pins:List (Addr×Obj)) (s:Shared) (σ:St) (H:Hp) (x:V) (xs:List V) (v:Value) (us:List Value) (Q:VK),Inv X pins σ H s->RelV x v->Vals xs us->r x xs H Q ->
  wpAny (model X.prog X.w) X.A (call (.builtin id) (v::us)) (EP X pins σ Q) X.xe s
section
variable {X:Cx}{a b:Expr}{ta tb:TE}{pos:Pos}
theorem IxR.or  (h:IxR X r) (h':IxR X d):IxR X (fun x y H Q=>r x y H Q\/d x y H Q):=by
 intro b a e s i H x y v u Q I f g q c
 rcases q with q | q
 ·exact h _ _ _ s _ H x y v u Q I f g q c
 ·exact h' _ _ _ s _ H x y v u Q I f g q c
theorem Bt0  (hr:IxR X r) (ha:PE X a ta) (hb:PE X b tb) (hs:Mm b):PE X (.Subscript a b pos) (tOp r ta tb):=by
 intro c s g H Q I h
 exact Subscript_ (Bj2 ha hb I h fun v u i x y j f e d q=>hr a b _ _ _ _ x y v u Q f e d q (hs _ _))
def Bh9 (K:PySem.W.Frag):R2:=fun x y H Q=>∃p xs i v,x=.ref p/\y=.int i/\SqL K H p xs/\atI xs i=some v/\Q v H
def Bc9 (K:PySem.W.Frag):R2:=fun x y H Q=>∃p xs i v,x=.ref p/\y=.int i/\SqT K H p xs/\atI xs i=some v/\Q v H
def Bu4:R2:=fun x y H Q=>∃z i c,x=.str z/\y=.int i/\z.length<=sizeLine/\atI z.cps.toList i=some c/\Q (.str ⟨#[c]⟩) H
theorem ix_list:IxR X (Bh9 X.K):=by
 intro g f a s m H x y v u Q I C F h l;obtain⟨p,xs,i,z,rfl,rfl,E,n,q⟩:=h
 cases C
 obtain⟨t,rfl⟩:=F;obtain⟨e,r,c,hz⟩:=I.list E;obtain⟨j,k,D,h3,o,B⟩:=Yc n;obtain⟨w,ew,d⟩:=r.get D;have hl:=r.length;have hn:=Sh;have b:EP X a m Q w s:=⟨z,H,I,d,q⟩
 by_cases h0:0<=i
 ·have A:i.toNat=j:=by
   rw[seqIndex_of h0 B]at k
   simp_all
  exact item_listR c.isList h0 (by omega) (by grind) b l
 ·have A:(i+e.toArray.size).toNat=j:=by
   rw[seqIndex_neg (by omega) o]at k
   simp_all
  exact subscriptTail_builtinR  c.isList.typeIs slot_list_getitem.lookup
   (wpAny_getItem_list_neg  c.isList (by omega) (by simp_all) (by omega) (by grind) ⟨rfl,b⟩) l
theorem ix_tup:IxR X (Bc9 X.K):=by
 intro b c e s σ H x y v u Q I A g h o;obtain⟨p,xs,i,z,rfl,rfl,m,n,q⟩:=h
 cases A
 obtain⟨t,rfl⟩:=g;obtain⟨k,r,f,hz⟩:=I.tuple m;obtain⟨j,h1,l,h3,h4,h5⟩:=Yc n;obtain⟨w,ew,d⟩:=r.get l;have hl:=r.length;have hn:=Sh;have a:EP X _ _ Q w s:=⟨z,H,I,d,q⟩
 exact subscriptTail_builtinR  f.typeIs slot_tuple_getitem.lookup
  (getItem_tuple (j:=j)  f (by omega) (by omega) (by simp_all) (by grind) ⟨rfl,a⟩) o
theorem Bb9:IxR X Bu4:=by
 intro a b d s σ H x y v u Q I f m h g;obtain⟨z,i,c,rfl,rfl,hz,l,q⟩:=h;obtain⟨t,rfl⟩:=f;obtain⟨t',rfl⟩:=m;obtain⟨j,e,k,h3,o,n⟩:=Yc l
 have p:z.cps.toList.length=z.length:=by simp[Str.length]
 rw[p]at e o n;have hn:=Sh
 exact tail_any (typeIs_str s z t) slot_str_getitem.lookup (getItem_str  (by
  grind) (by rw[e];simpa using k) ⟨.str _,H,I.tok _,⟨_,rfl⟩,q⟩) g
def rIx (K:PySem.W.Frag):R2:=fun x y H Q=>Bh9 K x y H Q\/Bc9 K x y H Q\/Bu4 x y H Q
theorem Bf0:IxR X (rIx X.K):=ix_list.or (ix_tup.or Bb9)
theorem Ad4 (a:List Value)(n j:Nat)(u:Value):Obj.mapSeq (·.setIfInBounds j u) { cls:=.type "list",data:=.seq a.toArray n }={ cls:=.type "list",data:=.seq (a.set j u).toArray n }:=by
 simp[Obj.mapSeq]
theorem Inv.lst  {b:St}     (I:Inv X pins b H s) (h:H p=some (.lst xs)) :
 ∃(a:List Value) (n:Nat),Vals xs a/\s.heap.get? p=some { cls:=.type "list",data:=.seq a.toArray n }/\xs.length<=sizeLine:=by
 obtain⟨z,a,n,r,e⟩:=I.hok p _ h
 grind
theorem Inv.lstUpd       {a its':List Value}   (I:Inv X pins c H s) (h:H p=some (.lst xs))
 (ho:s.heap.get? p=some { cls:=.type "list",data:=.seq a.toArray n }) (hf:f { cls:=.type "list",data:=.seq a.toArray n }={ cls:=.type "list",data:=.seq its'.toArray n' }) (r:Vals ys its') (hz:ys.length<=sizeLine) (t:Nat) :
 Inv X pins c (upd H p (.lst ys)) { s with heap:=s.heap.update p f,toks:=t }:=by
 have e:(s.heap.update p f).get? p=some { cls:=.type "list",data:=.seq its'.toArray n' }:=by
  rw[Heap.get?_update_self f ho (by rw[hf] <;> rfl),hf]
 refine I.write   (by rw[h];trivial) (.inl rfl) (fun b u d q=>(Heap.get?_update_other _ _ (Ne.symm d)).trans q) ⟨_,e⟩ ?_
 exact⟨hz,its',n',r,e⟩
def Ba0:V->V->V->Hp->(Hp->Prop)->Prop:=fun o i v H Q=>∃p xs k j,o=.ref p/\i=.int k/\H p=some (.lst xs)/\ixN xs.length k=some j/\Q (upd H p (.lst (xs.set j v)))
theorem set_list:Bf6 X Ba0:=by
 intro a s w H o i v ov iv u Q I y m g h;obtain⟨p,l,k,j,rfl,rfl,d,x,q⟩:=h
 cases y
 obtain⟨t,rfl⟩:=m;obtain⟨b,n,r,c,hz⟩:=I.lst d;obtain⟨e,h2,z,A⟩:=Wn x;have hl:=r.length;have hn:=Sh
 have I':Inv X a w (upd H p (.lst (l.set j v))) { s with heap:=s.heap.update p (Obj.mapSeq (·.setIfInBounds j u)) } :=
  I.lstUpd d c (Ad4 _ n j u) (r.set g j) (by grind) _
 by_cases h0:0<=k
 ·have f:k.toNat=j:=by
   rw[seqIndex_of h0 A]at e
   grind
  exact PySem.W.ki_setAt c h0 (by omega) (by grind) (by grind)
 ·have f:(k+b.toArray.size).toNat=j:=by
   rw[seqIndex_neg (by omega) z]at e
   simp_all
  exact PySem.W.ki_setBack c (by omega) (by simp_all) (by omega) (by grind)
theorem Xh (lo hi:Option Int)(n:Nat):(sliceBounds lo hi none n).1=((HT.sIx n 0 lo:Nat):Int)/\(sliceBounds lo hi none n).2.1=((HT.sIx n n hi:Nat):Int)/\(sliceBounds lo hi none n).2.2=1:=by
 refine⟨?_,?_,rfl⟩
 ·cases lo with
  | none=>simp[sliceBounds,HT.sIx]
  | some i =>
   simp only[sliceBounds,HT.sIx,Option.getD_none,show (1:Int)>0 by decide,if_true]
   by_cases h:i<0
   ·simp only[h,if_true] <;> omega
   ·simp only[h,if_false] <;> omega
 ·cases hi with
  | none=>simp[sliceBounds,HT.sIx]
  | some i =>
   simp only[sliceBounds,HT.sIx,Option.getD_none,show (1:Int)>0 by decide,if_true]
   by_cases h:i<0
   ·simp only[h,if_true] <;> omega
   ·simp only[h,if_false] <;> omega
theorem Va (a:List Value)(lo hi:Option Int):slicePick a.toArray lo hi none=((a.drop (HT.sIx a.length 0 lo)).take (HT.sIx a.length a.length hi-HT.sIx a.length 0 lo)).toArray:=by
 obtain⟨c,d,b⟩:=Xh _ _ _;unfold slicePick;rw[c,d,b]
 simp only[sliceRange_one,pick_run] <;> rfl
def Bs3 (K:PySem.W.Frag):V->Option Int->Option Int->Hp->VK->Prop:=fun x lo hi H Q=>∃a xs,x=.ref a/\SqL K H a xs/\∀p,H p=none->Q (.ref p) (upd H p (.lst (Av5 xs lo hi)))
theorem A9s:SlR X (Bs3 X.K):=by
 intro e s σ H x v vl vu lo hi sl Q I i j f k h;obtain⟨a,xs,rfl,g,q⟩:=h
 cases i
 obtain⟨l,r,d,m⟩:=I.list g;have c:=r.length
 refine⟨"list",_,slot_list_getitem.lookup,d.isList.typeIs,?_⟩
 refine wpAny_getItem_list_slice d.isList j f k .none (by simp) ?_ (by simp_all)
 rw[Va,<- c]
 refine⟨.ref _,_,I.laid   (fun b ob q=>Heap.get?_push_of_some _ q) (Nat.le_refl _) ?_,rfl,q _ (I.hok.fresh (Nat.le_refl _))⟩
 exact⟨Nat.le_trans (Q5 _ _ _) m,_,0,(r.drop _).take _,Heap.get?_push_size _ rfl⟩
def Ow:V->Bool
 | .non=>true
 | .bl _=>true
 | .int _=>true
 | .str _=>true
 | _=>false
def eqV:V->V->Bool
 | .non,.non=>true
 | .bl a,.bl b=>a==b
 | .bl a,.int b=>(if a then 1 else 0)==b
 | .int a,.bl b=>a==(if b then 1 else 0)
 | .int a,.int b=>a==b
 | .str a,.str b=>a==b
 | _,_=>false
theorem Bn2     (e:RelV y u) (c:RelV x v) (f:Ow y=true) (fx:Ow x=true):SeqAt.EqAt A s u v (eqV y x):=by
 cases y with
 | non =>
  cases e
  cases x with
  | non=>cases c;exact SeqAt.EqAt.same _
  | bl b=>cases c;exact SeqAt.EqAt.none_bool b
  | int b=>obtain⟨t,rfl⟩:=c;exact SeqAt.EqAt.none_int b t
  | str b=>obtain⟨t,rfl⟩:=c;exact SeqAt.EqAt.none_str b t
  | _=>exact absurd (show false=true from fx) Bool.false_ne_true
 | bl a =>
  cases e
  cases x with
  | non=>cases c;exact SeqAt.EqAt.bool_none a
  | bl b=>cases c;exact SeqAt.EqAt.bool_bool a b
  | int b=>obtain⟨t,rfl⟩:=c;exact SeqAt.EqAt.bool_int a b t
  | str b=>obtain⟨t,rfl⟩:=c;exact SeqAt.EqAt.bool_str a b t
  | _=>exact absurd (show false=true from fx) Bool.false_ne_true
 | int a =>
  obtain⟨d,rfl⟩:=e
  cases x with
  | non=>cases c;exact SeqAt.EqAt.int_none a d
  | bl b=>cases c;exact SeqAt.EqAt.int_bool a d b
  | int b=>obtain⟨t,rfl⟩:=c;exact SeqAt.EqAt.int_int a d b t
  | str b=>obtain⟨t,rfl⟩:=c;exact SeqAt.EqAt.int_str a d b t
  | _=>exact absurd (show false=true from fx) Bool.false_ne_true
 | str a =>
  obtain⟨d,rfl⟩:=e
  cases x with
  | non=>cases c;exact SeqAt.EqAt.str_none a d
  | bl b=>cases c;exact SeqAt.EqAt.str_bool a d b
  | int b=>obtain⟨t,rfl⟩:=c;exact SeqAt.EqAt.str_int a d b t
  | str b=>obtain⟨t,rfl⟩:=c;exact SeqAt.EqAt.str_str a _ b t
  | _=>exact absurd (fx) Bool.false_ne_true
 | _=>exact absurd f Bool.false_ne_true
def eqU (x:V)(u:Value):Bool:=match u with
 | .none=>eqV .non x
 | .bool b=>eqV (.bl b) x
 | .int i _=>eqV (.int i) x
 | .str z _=>eqV (.str z) x
 | _=>false
theorem A0z   (r:RelV y u) (f:Ow y=true):eqU x u=eqV y x:=by
 cases y with
 | non=>cases r;rfl
 | bl b=>cases r;rfl
 | int i=>obtain⟨t,rfl⟩:=r;rfl
 | str z=>obtain⟨t,rfl⟩:=r;rfl
 | _=>trivial
theorem Wm {x:V}:∀{xs:List V}{us:List Value},Vals xs us->xs.all Ow=true->us.any (eqU x)=xs.any fun y=>eqV y x
 | _,_,.nil,_=>rfl
 | y::xs,u::us,.cons r t,f=>by
  rw[List.all_cons,Bool.and_eq_true]at f;rw[List.any_cons,List.any_cons,A0z r f.1,Wm t f.2]
theorem Uh {A:Around}{s:Shared}{x:V}{v:Value}(rx:RelV x v)(fx:Ow x=true):∀{xs:List V}{us:List Value},Vals xs us->xs.all Ow=true->∀u∈us,SeqAt.EqAt A s u v (eqU x u)
 | _,_,.nil,_=>fun u hu=>by cases hu
 | y::xs,u::us,.cons r t,f=>fun u' hu=>by
  rw[List.all_cons,Bool.and_eq_true]at f
  rcases List.mem_cons.mp hu with rfl | hu
  ·rw[A0z r f.1];exact Bn2 r rx f.1 fx
  ·exact Uh rx fx t f.2 u' hu
def inV (x:V)(xs:List V):Bool:=xs.any fun y=>eqV y x
def rIn (K:PySem.W.Frag)(neg:Bool):R2:=fun x y H Q=>∃p xs,y=.ref p/\(SqL K H p xs\/SqT K H p xs)/\Ow x=true/\xs.all Ow=true/\Q (.bl (if neg then !inV x xs else inV x xs)) H
theorem Xp:OpR X (compareOp .NotIn) (rIn X.K true):=by
 intro e s σ H x y v u Q I f i h;obtain⟨p,xs,rfl,b,g,c,q⟩:=h
 cases i
 rcases b with b | b
 ·obtain⟨a,r,d,j⟩:=I.list b
  refine SeqAt.notIn_listAt _ d.isList (fun w k=>Uh f g r c w (by grind)) ⟨.bl _,H,I,rfl,?_⟩
  rw[show a.toArray.any _=a.any (eqU x) by simp,Wm r c]
  exact q
 ·obtain⟨a,r,d,j⟩:=I.tuple b
  refine SeqAt.notIn_tupleAt _ d (fun w k=>Uh f g r c w (by grind)) ⟨.bl _,H,I,rfl,?_⟩
  rw[show a.toArray.any _=a.any (eqU x) by simp,Wm r c]
  exact q
theorem CallR.or  {r b:List V->Hp->VK->Prop}(h:CallR X f r) (h':CallR X f b):CallR X f (fun xs H Q=>r xs H Q\/b xs H Q):=by
 intro c s d H xs e Q I a q
 rcases q with q | q
 ·exact h _ s _ H _ _ Q I a q
 ·exact h' _ s _ H _ _ Q I a q
theorem U9:CallR X (.type "tuple") (fun xs H Q=>∃p c,xs=[.ref p]/\((SqL X.K H p c/\∀l,H l=none->Q (.ref l) (upd H l (.tup c)))\/(SqT X.K H p c/\Q (.ref p) H))):=by
 intro i s σ H xs us Q I r h;obtain⟨p,c,rfl,h⟩:=h;obtain⟨u,rfl,w⟩:=vals1 r
 cases w
 rcases h with ⟨d,q⟩ | ⟨d,q⟩
 ·obtain⟨a,g,f,m⟩:=I.list d
  have k:=g.length
  refine call_tuple_list f.isList (fun j v=>?_) (by simp_all)
  have n:Inv X _ _ H { s with heap:=j }:=I.kept  v
  have t:Inv X _ _ (upd H _ (.tup _)) { s with heap:=j.push _ } :=
   n.laid  (fun b o e=>Heap.get?_push_of_some _ e) (Nat.le_refl _) (show z8 _ _ _ _ _ _ from ⟨m,a,g,zN.new _ _⟩)
  exact⟨.ref _,_,t,rfl,q _ (n.hok.fresh (Nat.le_refl _))⟩
 ·obtain⟨a,g,f,m⟩:=I.tuple d
  exact call_tuple_same f ⟨.ref p,H,I,rfl,q⟩
def tyV (K:PySem.W.Frag)(T:String)(x:V)(H:Hp):Prop:=match x with
 | .str _=>T = "str"
 | .int _=>T = "int"
 | .ref p=>(T = "list" /\ ∃xs,SqL K H p xs)\/(T = "tuple" /\ ∃o,K.lookup p=some o/\o.cls=.type "tuple" /\ o.dict=none) \/
  (T = "dict" /\ ((∃kvs,H p=some (.dK kvs))\/∃kvs,H p=some (.dT kvs)))\/(T = "set" /\ ∃S n,H p=some (.set S n))\/(T = "tuple" /\ ∃xs,H p=some (.tup xs))
 | _=>False
theorem A2n        (I:Inv X pins l H s) (r:RelV x v) (ty:tyV X.K T x H) :
 s.TypeIs v T/\∀a,v=.ref a->∃ob,s.heap.get? a=some ob/\ob.dict=none:=by
 cases x with
 | str z =>
  obtain⟨t,rfl⟩:=r
  cases (ty)
  exact⟨typeIs_str s z t,fun _ e=>nomatch e⟩
 | int i =>
  obtain⟨t,rfl⟩:=r
  cases (ty)
  exact⟨typeIs_int s i t,fun _ e=>nomatch e⟩
 | ref p =>
  cases r
  rcases ty with ⟨rfl,m,u⟩ | ⟨rfl,o,b,q,k⟩ | ⟨rfl,b⟩ | ⟨rfl,S,n,b⟩ | ⟨rfl,m,b⟩
  ·obtain⟨h,_,j,_⟩:=I.list u
   refine⟨j.isList.typeIs,fun a e=>?_⟩
   obtain⟨o,n,e,c,k,_⟩:=j
   grind
  ·refine⟨⟨o,I.kIn p o b,q⟩,fun a e=>?_⟩
   cases e
   exact⟨o,I.kIn _ o b,k⟩
  ·have z:∃o,s.heap.get? p=some o/\o.ExactDict:=by
    rcases b with ⟨g,b⟩ | ⟨g,b⟩
    ·obtain⟨_,_,_,_,o,_,_,e,d,_⟩:=I.hok p _ b
     grind
    ·obtain⟨_,_,_,_,o,_,_,e,d,_⟩:=I.hok p _ b
     grind
   obtain⟨o,e,d⟩:=z
   refine⟨⟨o,e,d.1⟩,fun a f=>?_⟩
   cases f
   exact⟨o,e,d.2.1⟩
  ·obtain⟨o,_,_,_,e,d,_⟩:=I.hok p _ b
   refine⟨⟨o,e,d.1⟩,fun a f=>?_⟩
   cases f
   exact⟨o,e,d.2.1⟩
  ·obtain⟨_,h,_,o,e,c,_,dn⟩:=I.hok p _ b
   refine⟨⟨o,e,c⟩,fun a f=>?_⟩
   grind
 | _=>exact False.elim ty
def Bo6 (K:PySem.W.Frag)(T:String)(r:V->List V->Hp->VK->Prop)(to:TE):TE:=fun σ H Q=>to σ H fun x H1=>tyV K T x H1/\r x [] H1 Q
def tBM (K:PySem.W.Frag)(T:String)(r:V->List V->Hp->VK->Prop)(to:TE)(t:TA):TE:=fun σ H Q=>to σ H fun x H1=>tyV K T x H1/\t σ H1 fun xs H2=>r x xs H2 Q
variable {o e:Expr}{es:List Expr}{to:TE}{t:TA}{name:Str}{apos cpos:Pos}{T id:String}{r:V->List V->Hp->VK->Prop}
theorem Bp7 (pa:PlainAttrs T)(slot:Slot T name id)(hty:typeOf (.builtin id)=pure (.type "method_descriptor")) (hm:MtR X id r) (ho:PE X o to)
 (hbase:attributeBase o name X.env (eval o X.env)=eval o X.env:=by rfl) (hline:(apos.endLine==cpos.line)=true:=by rfl):PE X (.Call (.Attribute o name apos) [] [] cpos) (Bo6 X.K T r to):=by
 intro pins s σ H Q I h
 refine wpAny_Call_method0_late hbase hline (thn (ho pins s σ H _ I h) fun v s1 ⟨x,H1,I1,r1,ty,q1⟩=>?_)
 obtain⟨h1,h2⟩:=A2n I1 r1 ty;exact⟨T,id,pa,slot,hty,h1,h2,Calls.callWith_builtin rfl (PySem.evalArgs_none (hm pins s1 σ H1 x [] v [] Q I1 r1 .nil q1))⟩
theorem Bb4 (pa:PlainAttrs T)(slot:Slot T name id)(hty:typeOf (.builtin id)=pure (.type "method_descriptor")) (hm:MtR X id r) (ho:PE X o to) (ha:PA X (e::es) t)
 (hbase:attributeBase o name X.env (eval o X.env)=eval o X.env:=by rfl)
 (hfew:((backTo cpos (starEach (e::es) X.env)).all (fun x=>!x.1)&&(backToKw cpos (keywordEach [] X.env)).all (fun x=>x.1.isSome)
  && decide ((e::es).length+([]:List Keyword).length+(if ([]:List Keyword).isEmpty then 0 else 1)<30))=true:=by rfl)
 (hline:(apos.endLine==cpos.line)=true:=by rfl) (hs:starEach (e::es) X.env=(false,eval e X.env)::starEach es X.env:=by rfl) (hplain:(backTo cpos (starEach es X.env)).any (·.1)=false:=by rfl) :
 PE X (.Call (.Attribute o name apos) (e::es) [] cpos) (tBM X.K T r to t):=by
 intro b s p H Q I h
 refine wpAny_Call_method_late hbase hfew hline rfl (thn (ho _ s _ H _ I h) fun v z ⟨x,y,c,a,j,k⟩=>?_)
 obtain⟨g,m⟩:=A2n c a j
 refine⟨T,id,pa,slot,hty,g,m,?_⟩
 have d:=ha cpos _ _ _ _ _ c k;rw[hs]at d ⊢
 refine Calls.callWith_builtin (by grind) (Calls.evalArgs_plain ?_)
 exact thn d fun i q ⟨u,w,l,n,f⟩=>hm _ _ _ _ x _ v i Q l a n f
end
def MtM (X:Cx)(id:String)(r:V->List V->Hp->VK->Prop):Prop :=
 ∀
  (pins:List (Addr×Obj)) (s:Shared) (σ:St) (H:Hp) (x:V) (xs:List V) (v:Value) (us:List Value) (Q:VK),Inv X pins σ H s->RelV x v->Vals xs us->r x xs H Q ->
  wpAny (model X.prog X.w) X.A (call (.builtin id) (v::us)) (EP X pins σ Q) X.xe s
theorem Vals.one:∀{x:V}{us:List Value},Vals [x] us->∃u,us=[u]/\RelV x u
 | _,_,h=>by
  cases h with
  | cons r t=>cases t;exact⟨_,rfl,r⟩
theorem Vals.two:∀{x y:V}{us:List Value},Vals [x,y] us->∃u v,us=[u,v]/\RelV x u/\RelV y v
 | _,_,_,h=>by
  cases h with
  | cons r t =>
   cases t with
   | cons q t=>cases t;exact⟨_,_,rfl,r,q⟩
theorem Vals.eraseIdx:∀{xs:List V}{us:List Value}(i:Nat),Vals xs us->Vals (xs.eraseIdx i) (us.eraseIdx i)
 | _,_,_,.nil=>.nil
 | _,_,0,.cons _ t=>t
 | _,_,i+1,.cons r t=>.cons r (Vals.eraseIdx i t)
theorem Aw3 {α:Type}:∀(l:List α) (i:Nat),(l.eraseIdx i).length<=l.length
 | [],_=>Nat.le_refl _
 | _::_,0=>Nat.le_succ _
 | _::r,i+1=>Nat.succ_le_succ (Aw3 r i)
section
variable {X:Cx}{pins:List (Addr×Obj)}{σ:St}{H:Hp}{s:Shared}{l b:Addr}{xs ys zs:List V}
theorem Inv.lset {a its':List Value}    (I:Inv X pins σ H s) (c:H l=some (.lst xs))
 (e:s.heap.get? l=some { cls:=.type "list",data:=.seq a.toArray n }) (hf:f a.toArray=its'.toArray) (hv:Vals ys its') (hz:ys.length<=sizeLine) :
 Inv X pins σ (upd H l (.lst ys)) { s with heap:=s.heap.update l (Obj.mapSeq f),toks:=t' }:=by
 have q:=PySem.IsL.update e f;rw[hf]at q
 refine I.write   (by rw[c];trivial) (.inl rfl) (fun g u d b=>(Heap.get?_update_other _ _ (Ne.symm d)).trans b) ⟨_,q⟩ ?_
 exact⟨hz,its',_,hv,q⟩
theorem Inv.lnew   (I:Inv X pins σ H s) (hv:Vals ys a) (hz:ys.length<=sizeLine) :
 Inv X pins σ (upd H s.heap.objs.size (.lst ys)) { s with heap:=s.heap.push { cls:=.type "list",data:=.seq a.toArray },toks:=t' } :=
 I.laid (fun _ _ q=>Heap.get?_push_of_some _ q) (Nat.le_refl _) ⟨hz,a,0,hv,Heap.get?_push_size _ rfl⟩
theorem Inv.fresh (I:Inv X pins σ H s):H s.heap.objs.size=none:=I.hok.fresh (Nat.le_refl _)
theorem Inv.lstM (I:Inv X pins σ H s)(b:H l=some (.lst xs)):xs.length<=sizeLine/\∃(a:List Value) (n:Nat),Vals xs a/\xs.length=a.length/\s.heap.get? l=some { cls:=.type "list",data:=.seq a.toArray n }:=by
 obtain⟨z,a,n,r,e⟩:=I.hok l _ b;exact⟨z,a,n,r,r.length,e⟩
theorem A0b  (h:n<=sizeLine):Builtin.List.listTooLong n=false:=by
 unfold Builtin.List.listTooLong
 grind
end
section
variable {X:Cx}
def rAppend:V->List V->Hp->VK->Prop:=fun x vs H Q=>∃l xs y,x=.ref l/\vs=[y]/\H l=some (.lst xs)/\xs.length<sizeLine/\Q .non (upd H l (.lst (xs++[y])))
theorem Av8:MtM X "list.append" rAppend:=by
 intro a s σ H x vs v us Q I c f h;obtain⟨l,xs,y,rfl,rfl,b,hz,q⟩:=h
 cases c
 obtain⟨u,rfl,d⟩:=f.one;obtain⟨z,g,n,r,hl,e⟩:=I.lstM b
 refine call_meets F.slot_list_append ⟨_,e,rfl⟩ F.entry_list_append (F.args_list_append_2 _ _) (PySem.list_append l _ n u (by simp_all)) ⟨e,?_⟩
 refine⟨.non,_,I.lset  b e (by simp) (r.append (.cons d .nil)) ?_,rfl,q⟩
 grind
def rExtend:V->List V->Hp->VK->Prop:=fun x vs H Q=>∃l b xs zs,x=.ref l/\vs=[.ref b]/\H l=some (.lst xs)/\H b=some (.lst zs)/\xs.length+zs.length<=sizeLine/\Q .non (upd H l (.lst (xs++zs)))
theorem At3:MtM X "list.extend" rExtend:=by
 intro pins s σ H x vs v us Q I rx rv h;obtain⟨l,b,xs,zs,rfl,rfl,hH,hB,hz,q⟩:=h
 cases rx
 obtain⟨u,rfl,ru⟩:=rv.one
 cases ru
 obtain⟨z,its,n,r,hl,e⟩:=I.lstM hH;obtain⟨z2,its2,n2,r2,hl2,e2⟩:=I.lstM hB
 have hsz:its.toArray.size+its2.toArray.size<=sizeLine:=by rw[List.size_toArray,List.size_toArray];omega
 have hlong:¬ (!its.toArray.isEmpty&&Builtin.List.listTooLong (its.toArray.size+its2.toArray.size))=true:=by
  rw[A0b hsz,Bool.and_false];exact Bool.false_ne_true
 refine call_meets F.slot_list_extend ⟨_,e,rfl⟩ F.entry_list_extend (F.args_list_extend_2 _ _)
  (AutoSeq1.list_extend_list_list_0 l its.toArray n b its2.toArray n2 hlong (by rw[List.size_toArray];omega) (by omega)) ⟨e,e2,?_⟩
 refine⟨.non,_,I.lset (its':=its++its2) hH e (by simp) (r.append r2) ?_,rfl,q⟩
 rw[List.length_append];omega
def rPopAt:V->List V->Hp->VK->Prop:=fun x vs H Q=>∃l xs i k y,x=.ref l/\vs=[.int i]/\H l=some (.lst xs)/\-(2 ^ 63)<=i/\i<2 ^ 63/\seqIndex? i xs.length=some k/\xs[k]?=some y/\Q y (upd H l (.lst (xs.eraseIdx k)))
theorem A4v:MtM X "list.pop" rPopAt:=by
 intro b s σ H x vs v us Q I f g h;obtain⟨l,xs,i,k,y,rfl,rfl,c,d,j,hk,o,q⟩:=h
 cases f
 obtain⟨u,rfl,m⟩:=g.one;obtain⟨t,rfl⟩:=m;obtain⟨z,p,n,r,hl,e⟩:=I.lstM c;obtain⟨w,hw,a⟩:=r.get o
 refine call_meets F.slot_list_pop ⟨_,e,rfl⟩ F.entry_list_pop (F.args_list_pop_2 _ _)
  (MeetsSeq.list_pop_at l _ n i t k w (fitsIndex_both d j) (by simp_all) (by simp_all) (by simp_all)) ⟨e,?_⟩
 refine⟨y,_,I.lset  c e ?_ (r.eraseIdx k) ?_,a,q⟩
 ·simp_all
 grind
def Bs7:R2:=fun x y H Q=>∃l b xs zs,x=.ref l/\y=.ref b/\H l=some (.lst xs)/\H b=some (.lst zs)/\xs.length+zs.length<=sizeLine/\∀p,H p=none->Q (.ref p) (upd H p (.lst (xs++zs)))
theorem Bc6:OpR X (binaryOp .Add) Bs7:=by
 intro d s σ H x y v u Q I k g h;obtain⟨l,b,xs,zs,rfl,rfl,i,j,hz,q⟩:=h
 cases k
 cases g
 obtain⟨z,c,n,r,hl,e⟩:=I.lstM i;obtain⟨z2,a,n2,o,m,p⟩:=I.lstM j
 refine PySem.P.add_list e p ?_ (by grind)
 have f:c.toArray++a.toArray=(c++a).toArray:=by simp
 rw[f]
 exact⟨.ref _,_,I.lnew  (r.append o) (by simp_all),rfl,q _ I.fresh⟩
end
section
variable {κ:Type}[DecidableEq κ]
def Av3 (kvs:List (κ×V))(k:κ):Option V:=(kvs.find? fun kv=>decide (kv.1=k)).map (·.2)
def putK (kvs:List (κ×V))(k:κ)(v:V):List (κ×V) :=
 if (kvs.any fun kv=>decide (kv.1=k))=true then kvs.map (fun kv=>if kv.1=k then (kv.1,v) else kv) else kvs++[(k,v)]
theorem A4n {p:κ×V}   (e:p.1=k):Av3 (p::r) k=some p.2:=by simp[Av3,e]
theorem A3t {p:κ×V}   (e:¬ p.1=k):Av3 (p::r) k=Av3 r k:=by simp[Av3,e]
theorem KV.any   (r:KV a vs) (k:κ):(a.any fun b=>decide (b.1=k))=vs.any fun b=>decide (b.1=k):=by
 induction r with
 | nil=>rfl
 | cons h t c=>simp_all
end
abbrev KT (H:Hp):List (PyData×V)->List (PyData×Addr×Value)->Prop:=Paired fun p q=>p.1=q.1/\KAt H p.1 q.2.1/\RelV p.2 q.2.2
theorem KT.val    (r:KT H a xs) (k:PyData):Bh3 (Av3 a k) ((atKey xs k).map (·.2)):=by
 induction r with
 | nil=>trivial
 | @cons p q j c h t i =>
  obtain⟨d,_,g⟩:=h
  by_cases e:p.1=k
  ·have b:atKey (q::c) k=some q.2:=by simp[atKey,(d.symm.trans e)]
   rw[A4n e,b];exact g
  ·have f:¬ q.1=k:=fun z=>e (d.trans z)
   have b:atKey (q::c) k=atKey c k:=by simp[atKey,f]
   rw[A3t e];grind
theorem KT.keeps    (r:KT H a xs) (ht:∀b ys,H b=some (.tup ys)->H' b=some (.tup ys)):KT H' a xs :=
 Paired.mapP r fun _ _ z=>⟨z.1,z.2.1.stay ht,z.2.2⟩
section
variable {P:Program}{w:World}{H:Hp}{h:Heap}{a:Addr}
theorem Ia  (b:HOk P w H h) (e:Rd H a u):z8 P w H h a u:=e.ok b
end
end L2
namespace Att
open PySem PySem.W PySem.Calls PyProof.Rows
theorem Rt   : ∀(ns:List Int) (vs:List Value),WellAll P h vs (ns.map WData.int)->IntsAre vs ns:=by
 intro ns
 induction ns with
 | nil =>
  intro vs w
  cases w
  exact .nil
 | cons n ns c =>
  intro vs w
  cases w with
  | cons a b =>
   cases a
   exact .cons _ _ (c _ b)
theorem Aq7 {l:OpenLaw}  (hn:l.most=some n)    
 (hpre:l.row.toRowW.claim.pre args=true) (hwl:WellAll P h vals args) :
 ∃a vs ns,vals=[Value.ref a]/\args=[WData.list (ns.map WData.int)]/\h.get? a=some { cls:=.type "list",data:=.seq vs.toArray }/\IntsAre vs ns/\ns.length<=n:=by
 have hsh:WShape.hasAll [] args [.list .int]=true:=(pre_splitW hpre).1;have hc:l.pre.holds [] { args:=args }=true:=(pre_splitW hpre).2;obtain⟨d,r,rfl,h1,h2⟩:=hasAllW_cons hsh;obtain rfl:=hasAllW_nil h2;obtain⟨xs,rfl,h3⟩:=hasW_list h1;obtain⟨ns,rfl⟩:=items_int h3
 have hlen:ns.length<=n:=by
  unfold OpenLaw.pre at hc
  have h4:(WTm.not (.lt (.lit (.int (n:Int))) (.len (.arg 0)))).holds [] { args:=[.list (ns.map .int)] }=true:=by
   have h4:=(holds_andW hc).1;rw[hn]at h4;exact h4
  have h5:=condW_of h4 (w_not (w_lt w_lit (w_len_list (w_arg rfl))));rw[List.length_map]at h5
  refine Nat.le_of_not_lt fun q=>?_
  have q':(n:Int)<((ns.length:Nat):Int):=by omega
  first
   | (rw[decide_eq_true q']at h5;exact absurd h5 (by decide))
   | (simp at h5;omega)
 cases hwl with
 | cons w1 w2 =>
  cases w2
  cases w1 with
  | list ho hall=>exact⟨_,_,ns,rfl,rfl,ho,Rt ns _ hall,hlen⟩
theorem Ay8 (l:OpenLaw)(args:List WData):l.row.toRowW.claim.post args (.bool true) args=true :=
 postW_of  
  (show WShape.has _ _ _=true by rfl)
  (show (WTm.eq _ _).value _ _=some _ from w_eq_bool (w_res rfl) w_lit) rfl
theorem Zc {l:OpenLaw}      
 (hn:l.most=some n) (t:d.params.defaults=[])
 (i:∀(w:World) (c b:Shared) (mg B:Str->Option Value) (fa:Addr) (o:Obj) (z v h:Value) (a:Addr) (vs:List Value) (ns:List Int),
  Ground q loose [] XP w c mg B b.heap->YP w b.heap ->
  b.heap.get? fa=some o->o.data=.func (docDef d.name d.params d.body d.scope z v h)->b.heap.CodeRec v d.name->mg d.name=some (.ref fa) ->
  b.heap.get? a=some { cls:=.type "list",data:=.seq vs.toArray }->IntsAre vs ns->ns.length<=n->b.gens=#[] ->
  codeAny (model l.prog w) callerA (.call (.ref fa) ⟨[.ref a],[]⟩) (fun r s'=>r=.ok (.ret (.bool true))/\OldK b.heap s'.heap/\s'.os=b.os/\AllBare s'.gens) b) :
 WalkO q loose XP YP l.row.toRowW d [] (fun f vs=>PySem.call f vs):=by
 intro w c b mg B G Y fa o z v h M H J K u C m D x A as g y F p I;obtain rfl:M=.none:=Dflts.none C t;obtain rfl:H=.none:=Dflts.noKw C;obtain⟨a,vs,ns,rfl,rfl,j,e,k⟩:=Aq7 hn g p
 refine enter_call (codeAny_mono (i w _ _ _ _ _ o _ _ _ a _ _ G Y J (fd_plain K) u m j e k D) fun r s' N=>?_)
 obtain⟨rfl,L,O,P⟩:=N
 exact⟨.inl ⟨.bool _,.bool _,[],rfl,fun _=>rfl,.bool _,Ay8 l _,fun _=>⟨List.Pairwise.nil,fun _ E=>nomatch E⟩⟩,L,O,P⟩
end Att
namespace L2
open PySem PySem.Spec PyProof.Rows
theorem Vu:∀{vs:List Value}{ns:List Int},IntsAre vs ns->Vals (ns.map V.int) vs
 | _,_,.nil=>.nil
 | _,_,.cons n t h=>.cons ⟨t,rfl⟩ (Vu h)
def Kd (s:Stmt):Arguments:=match s with
 | .FunctionDef _ a _ _ _ _ _ _ _ _=>a
 | _=>{ posonlyargs:=[],args:=[],vararg:=none,kwonlyargs:=[],kw_defaults:=[],kwarg:=none,defaults:=[] }
def Dr (s:Stmt):List Stmt:=match s with
 | .FunctionDef _ _ b _ _ _ _ _ _ _=>b
 | _=>[]
def Am (s:Stmt):Scope:=match s with
 | .FunctionDef _ _ _ _ _ _ sc _ _ _=>sc
 | _=>{ kind:=.function,names:=[],isGenerator:=false,isCoroutine:=false }
abbrev CX0:CXT:=fun _ _ _ _ _ _=>False
abbrev E0:XK:=fun _ _ _=>False
theorem Bw0  : Gm CX0 X E0:=fun _ _ _ _ _ _ _ h=>h.elim
structure Fun (K:PySem.W.Frag) (x qual:Str) (st:Stmt) (f:Addr) (fd:FuncData):Prop where
 ex:∃(oc:Value) (od:Option Addr) (kV doc pm:Value) (an:Option Addr) (cdv ct:Value) (osl:Array (Option Value)),
  fd=PySem.W.fnOf x qual (Kd st) (Dr st) (Am st) .none kV doc pm an cdv ct/\K.lookup f=some ⟨oc,od,.func fd,osl⟩/\PySem.W.codeIn K cdv qual=true
 kp:PySem.W.keepIn K (.ref f)=true
section
variable {P:Program}{w:World}{K:PySem.W.Frag}{mg:Str->Option Value}{base:Heap}
theorem Fun.ok  {st:Stmt}      (F:Fun K x qual st f i) (S:Bh N ps (Am st)) (g:∀vs H Q E,sp vs H Q E->vs.length=ps.length)
 (b:∀(c:Value) (A:Around) (a:List Env) (s:Shared) (H:Hp) (vs:List V) (Q:VK) (E:XK),Room k (A.deeper (envOfC qual (Am st) s.heap.objs.size f c))->sp vs H Q E ->
  ∃t,PSs (Hd CX0 P w K mg base N qual (Am st) f c A a s H E).nox (Dr st) t/\t { nx:=fun _ H'=>Q .non H',rt:=Q } (start N vs) H):FnOk P w K mg base CX0 (k+1) f i ps sp:=by
 obtain⟨oc,od,kV,l,pm,an,c,ct,j,rfl,m,e⟩:=F.ex
 refine Al9 m e S g fun A a s H vs Q E n d=>?_
 obtain⟨t,h,q⟩:=b _ A _ s H _ Q E n d;exact⟨t,h.nox,q⟩
theorem Fun.binds  {st:Stmt}    (F:Fun K x qual st f d)
 (h:∀(i b e:Value) (g:Option Addr) (a c:Value) (us:List Value),us.length=ps.length->bindArgs (PySem.W.fnOf x qual (Kd st) (Dr st) (Am st) .none i b e g a c) ⟨us,[]⟩=pure (ps.zip us)):Binds K d ps []:=by
 obtain⟨oc,od,i,b,e,g,a,c,k,rfl,lk,j⟩:=F.ex;exact .all (h _ _ _ _ _ _)
end
section
variable {X:Cx}
theorem pv (i:Nat)  {a:Pos}(hN:X.N[i]?=some x:=by rfl) (hv:Vis X.env.scope x:=by first | exact Or.inl rfl | exact Or.inr (Or.inl rfl) | exact Or.inr (Or.inr rfl)) (hd:(x==("__debug__" : Str))=false:=by decide)
 (hcd:(x==("__classdict__" : Str))=false:=by decide):PE X (.Name x a) (Oz i):=Xj hN hv hd hcd
end
def Same (H H':Hp):Prop:=∀b o,H b=some o->H' b=some o
theorem Same.refl (H:Hp):Same H H:=fun _ _ h=>h
theorem Same.trans  (a:Same H e) (b:Same e d):Same H d:=fun c o h=>b c o (a c o h)
theorem Same.free  (e:Same H H')  (h:H' l=Option.none):H l=Option.none:=by
 cases q:H l with
 | none=>rfl
 | some o =>
  rw[e l o q]at h
  grind
theorem Same.seq {K:PySem.W.Frag}    (e:Same H H') (h:SqL K H a xs):SqL K H' a xs:=by
 rcases h with (h | ⟨o,h⟩) | h
 ·exact .inl (.inl (e _ _ h))
 ·exact .inl (.inr ⟨o,e _ _ h⟩)
 ·exact .inr h
end L2
set_option maxHeartbeats 4000000
namespace L2
open PySem PySem.Spec PyProof.Rows
abbrev Ca (X:Cx)(N':List Str)(scope:Scope)(cl:List (Str×Addr))(C:Addr)(s₀:Shared)(H₀:Hp)(ex:List Addr):Cx :=
 { X with N:=N',env:=compEnvC scope cl C X.env,s₀:=s₀,H₀:=H₀,outer:=X.stack,stack:=X.stack,ex:=ex,fn:=fun x=>decide (scope.names.lookup x=some .local\/scope.names.lookup x=some .cell),pn:=[],xe:=fun _ _=>False }
def cst (idx:List (Option Nat))(σ:St):St:=idx.map fun o=>o.bind fun i=>(σ[i]?).join
structure Fj (X:Cx) (N':List Str) (idx:List (Option Nat)) (scope:Scope):Prop where
 kind:scope.kind=.function
 nod:(scope.names.map (·.1)).Nodup
 free:∀y∈scope.names,y.2=.free->X.env.kindOf y.1=some .cell\/X.env.kindOf y.1=some .free
 len:idx.length=N'.length
 at':∀(j i:Nat) (x:Str),N'[j]?=some x->idx[j]?=some (some i)->X.N[i]?=some x/\scope.names.lookup x=some .free
structure Tf (X:Cx) (N':List Str) (idx:List (Option Nat)) (scope:Scope):Prop extends Fj X N' idx scope where
 cell:∀y∈scope.names,y.2≠.cell
theorem Jh (env:Env):∀(names:List (Str×NameKind)) (acc:List (Str×Addr)),(∀y∈names,y.2=.free->∃c,env.cells.lookup y.1=some c) ->
 ∃
  cl,(forIn names acc fun (p:Str×NameKind) (r:List (Str×Addr))=>(if (p.2==NameKind.free)=true then (do let c <- cellOf env p.1;pure (ForInStep.yield ((p.1,c)::r))) else pure (ForInStep.yield r):Sem (ForInStep (List (Str×Addr)))))=(pure cl:Sem (List (Str×Addr))) /\
  (∀x c,cl.lookup x=some c->acc.lookup x=some c\/(env.cells.lookup x=some c/\(x,NameKind.free)∈names))/\(∀x,((∃c,acc.lookup x=some c)\/(x,NameKind.free)∈names)->∃c,cl.lookup x=some c)
 | [],acc,_=>⟨acc,rfl,fun x c e=>.inl e,fun x h=>by
  rcases h with h | h
  ·exact h
  ·simp at h⟩
 | (n,k)::r,acc,h=>by
  by_cases hk:k=NameKind.free
  ·subst hk
   obtain⟨c,hc⟩:=h (n,.free) (by simp) rfl
   obtain⟨cl,e,a,b⟩:=Jh env r ((n,c)::acc) fun y hy=>h y (List.mem_cons_of_mem _ hy)
   refine⟨cl,?_,fun x c' e'=>?_,fun x hx=>?_⟩
   ·rw[List.forIn_cons]
    simp only[cellOf,hc];exact e
   ·rcases a x c' e' with z | ⟨z1,z2⟩
    ·rw[List.lookup_cons]at z
     split at z
     ·rename_i hxe
      have:x=n:=by simpa using hxe
      subst this
      cases z
      exact .inr ⟨hc,by simp⟩
     ·exact .inl z
    ·exact .inr ⟨z1,List.mem_cons_of_mem _ z2⟩
   ·refine b x ?_
    rcases hx with ⟨c',z⟩ | z
    ·left
     rw[List.lookup_cons]
     split
     ·exact⟨_,rfl⟩
     ·exact⟨_,z⟩
    ·rcases List.mem_cons.mp z with z | z
     ·left
      cases z
      exact⟨c,by simp⟩
     ·exact .inr z
  ·obtain⟨cl,e,a,b⟩:=Jh env r acc fun y hy=>h y (List.mem_cons_of_mem _ hy)
   refine⟨cl,?_,fun x c' e'=>?_,fun x hx=>?_⟩
   ·rw[List.forIn_cons]
    have:(k==NameKind.free)=false:=by cases k <;> first | rfl | exact absurd rfl hk
    simp only[this];exact e
   ·rcases a x c' e' with z | ⟨z1,z2⟩
    ·exact .inl z
    ·exact .inr ⟨z1,List.mem_cons_of_mem _ z2⟩
   ·refine b x ?_
    rcases hx with z | z
    ·exact .inl z
    ·rcases List.mem_cons.mp z with z | z
     ·cases z;exact absurd rfl hk
     ·exact .inr z
theorem J8   (h:∀y∈scope.names,y.2=.free->∃c,env.cells.lookup y.1=some c) :
 ∃d,closureFor scope env=pure d/\(∀x c,d.lookup x=some c->env.cells.lookup x=some c/\(x,NameKind.free)∈scope.names)/\(∀x,(x,NameKind.free)∈scope.names->∃c,d.lookup x=some c):=by
 obtain⟨d,e,a,b⟩:=Jh _ _ [] h
 refine⟨d,?_,fun x c g=>?_,fun x f=>b x (.inr f)⟩
 ·unfold closureFor
  grind
 simp_all
abbrev A7t (ifs:List Expr)(env:Env):Sem Bool:=forIn ifs true fun c r=>if r=true then do let ok <- isTrue c env (eval c env);pure (ForInStep.yield ok) else pure (ForInStep.yield r)
def Bg2 (M:Model)(A:Around)(E:Value->Shared->Prop)(tg elt:Expr)(ifs:List Expr)(env:Env)(it acc v:Value)(Z:Shared->Prop)(s:Shared):Prop :=
 wpAny M A (letOwnedTupleGo tg it v) (fun _ a=>wpAny M A (assign tg env v) (fun _ b=>wpAny M A (A7t ifs env) (fun ok c=>match ok with
  | true=>wpAny M A (eval elt env) (fun x d=>wpAny M A (call (.builtin "list.append") [acc,x]) (fun _ z=>Z z) E d) E c
  | false=>Z c) E b) E a) E s
theorem An9            (C:E=notedBy (model P w) A env fun x z=>R (.error x) z) (Wd:Nat->Shared->Prop)
 (step:∀n z,Wd n z->wpAny (model P w) A (pyNext it) (fun r a=>match r with
  | none=>R (.ok .next) a
  | some v=>Bg2 (model P w) A E o i j env it acc v (fun y=>∃m,m<n/\Wd m y) a) E z) (n:Nat)  (h:Wd n s) :
 codeAny (model P w) A (.compLoop (.ListComp i [⟨o,f,j,0⟩] p l) 0 it acc env) R s:=by
 subst C
 refine codeAny_loop (I:=Wd) rfl (turn:=?_) n h
 intro k z G
 show wpAny (model P w) A (Sem.onRaise (compTurn (.ListComp i [⟨o,f,j,0⟩] p l) 0 it acc env) fun x=>do noteFrame x env;theTreesLotGoes x) _ _ z
 apply wpAny_noted;rw[compTurn_list];apply wpAny_bind;apply wpAny_standAt;apply wpAny_bind
 refine wpAny_mono (step k z G) ?_ fun _ _ q=>q
 rintro (_ | v) a u
 ·exact wpAny_pure u
 apply wpAny_bind
 refine wpAny_mono u ?_ fun _ _ q=>q
 intro _ b D;apply wpAny_bind
 refine wpAny_mono D ?_ fun _ _ q=>q
 intro _ c F;apply wpAny_bind
 refine wpAny_mono F ?_ fun _ _ q=>q
 rintro (_ | _) d t
 ·exact wpAny_pure (And.intro rfl t)
 apply wpAny_bind;apply wpAny_bind
 refine wpAny_mono t ?_ fun _ _ q=>q
 intro y e H;apply wpAny_bind
 refine wpAny_mono H ?_ fun _ _ q=>q
 intro _ g B;exact wpAny_pure (wpAny_pure (And.intro rfl B))
def PTs (X:Cx)(ifs:List Expr)(t:TT):Prop :=
 ∀
  (pins:List (Addr×Obj)) (s:Shared) (σ:St) (H:Hp) (Q:Bool->Hp->Prop),Inv X pins σ H s->t σ H Q ->
  wpAny (model X.prog X.w) X.A (forIn ifs true fun c r=>if r=true then do let ok <- isTrue c X.env (eval c X.env);pure (ForInStep.yield ok) else pure (ForInStep.yield r)) (TP X pins σ Q) X.xe s
def Be5:TT:=fun _ H Q=>Q true H
theorem A6i  : PTs X [] Be5:=fun _ _ _ H _ I h=>wpAny_tests_nil ⟨H,I,h⟩
theorem A8c    (h:PT X c t):PTs X [c] t:=fun a s b H Q I q=>wpAny_tests_one (h _ s _ H Q I q)
def tLC (idx:List (Option Nat))(wi:TI)(g:TG)(tc:TT)(te:TE):TE:=fun σ H Q=>wi σ H fun J H1 =>
 ∃
  W:Nat->Nat->St->List V->Hp->Prop,(∃m,W 0 m (cst idx σ) [] H1)/\∀i m σ' acc H,W i m σ' acc H ->
  (J.stop i H/\∀p,H p=none->Q (.ref p) (upd H p (.lst acc))) \/
  (J.go i H/\acc.length<sizeLine/\∃N:St->List V->Hp->Prop,(∀σ' acc' H',N σ' acc' H'->∃m',m'<m/\W (i+1) m' σ' acc' H')/\∀x H',J.yld i H x H'->g x σ' H' fun σ2 H2=>tc σ2 H2 fun b H3 =>
   if b=true then te σ2 H3 fun y H4=>N σ2 (acc++[y]) H4 else N σ2 acc H3)
theorem HOk.track       (x:HOk P w H h) (hn:H a=none) (f:z8 P w (upd H a o) h a o):HOk P w (upd H a o) h:=fun b u e=>by
 by_cases hb:b=a
 ·subst hb;rw[Be]at e;simp_all
 ·rw[Ao hb]at e
  exact(x b u e).stay (fun c v _ q=>q) fun c q=>by rw[Ao (Ba q hn)];grind fun c d q=>by rw[Ao (Ba q hn)];grind fun c g d q=>by rw[Ao (Ba q hn)];grind
theorem Hh {env:Env}:∀{names:List (Str×NameKind)}{x:Str},names.lookup x=some .free ->
 (names.map fun (n,k)=>if (k==NameKind.free&&env.scope.kind==.function&&env.kindOf n==some .cell) then (n,NameKind.cell) else (n,k)).lookup x=some .free \/
 (names.map fun (n,k)=>if (k==NameKind.free&&env.scope.kind==.function&&env.kindOf n==some .cell) then (n,NameKind.cell) else (n,k)).lookup x=some .cell
 | [],_,h=>by simp at h
 | (n,k)::r,x,h=>by
  have ih:=@Hh env r x;simp only[List.map_cons]
  cases hx:x==n with
  | true =>
   simp only[List.lookup_cons,hx]at h
   cases h
   split
   ·right;simp[List.lookup_cons,hx]
   ·left;simp[List.lookup_cons,hx]
  | false =>
   simp only[List.lookup_cons,hx]at h
   split
   ·simp only[List.lookup_cons,hx];exact ih h
   ·simp only[List.lookup_cons,hx];exact ih h
theorem Ks {env:Env}:∀{names:List (Str×NameKind)}{x:Str}{k:NameKind},
 (names.map fun (n,k)=>if (k==NameKind.free&&env.scope.kind==.function&&env.kindOf n==some .cell) then (n,NameKind.cell) else (n,k)).lookup x=some k ->
 names.lookup x=some k\/(k=.cell/\names.lookup x=some .free)
 | [],_,_,h=>by simp at h
 | (n,k')::r,x,k,h=>by
  have ih:=@Ks env r x k;simp only[List.map_cons]at h
  cases hx:x==n with
  | true =>
   by_cases hc:(k'==NameKind.free&&env.scope.kind==.function&&env.kindOf n==some .cell)=true
   ·rw[if_pos hc]at h
    simp only[List.lookup_cons,hx]at h
    cases h
    right
    refine⟨rfl,?_⟩
    simp only[List.lookup_cons,hx]
    have:k'=.free:=by
     simp only[Bool.and_eq_true]at hc;exact eq_of_beq hc.1.1
    rw[this]
   ·rw[if_neg hc]at h
    simp only[List.lookup_cons,hx]at h ⊢;exact .inl h
  | false =>
   simp only[List.lookup_cons,hx]
   refine ih ?_
   by_cases hc:(k'==NameKind.free&&env.scope.kind==.function&&env.kindOf n==some .cell)=true
   ·rw[if_pos hc]at h;simpa only[List.lookup_cons,hx] using h
   ·rw[if_neg hc]at h;simpa only[List.lookup_cons,hx] using h
theorem lookup_mem {α:Type}:∀{l:List (Str×α)}{x:Str}{k:α},l.lookup x=some k->(x,k)∈l
 | [],_,_,h=>by simp at h
 | (n,k')::r,x,k,h=>by
  rw[List.lookup_cons]at h
  split at h
  ·rename_i e
   have:x=n:=by simpa using e
   subst this
   cases h
   simp
  ·exact List.mem_cons_of_mem _ (lookup_mem h)
theorem mem_lookup {α:Type}:∀{l:List (Str×α)}{x:Str}{k:α},(l.map (·.1)).Nodup->(x,k)∈l->l.lookup x=some k
 | [],_,_,_,h=>by simp at h
 | (n,k')::r,x,k,hn,h=>by
  have hn:(n::r.map (·.1)).Nodup:=hn
  obtain⟨h1,h2⟩:=List.nodup_cons.mp hn
  rcases List.mem_cons.mp h with h | hr
  ·cases h;simp
  ·rw[List.lookup_cons]
   split
   ·rename_i e
    have:x=n:=by simpa using e
    subst this
    exact absurd (show x∈r.map (·.1) from List.mem_map.mpr ⟨(x,k),hr,rfl⟩) h1
   ·exact mem_lookup h2 hr
section
variable {X:Cx}{N':List Str}{idx:List (Option Nat)}{scope:Scope}
theorem A6k {pins:List (Addr×Obj)}{σ:St}{H:Hp}{s:Shared}{fp:List Addr}{cl:List (Str×Addr)}{C:Addr}(L:Fj X N' idx scope)(I:Inv X pins σ H s)(hf:∀b∈fp,K3 X pins H b)(hfs:∀b∈fp,b<s.heap.objs.size)
 (hC:s.heap.objs.size<=C) (c1:∀x c,cl.lookup x=some c->(X.env.cells.lookup x=some c/\(x,NameKind.free)∈scope.names)\/(s.heap.objs.size<=c/\(x,NameKind.cell)∈scope.names)) (c2:∀x,((x,NameKind.free)∈scope.names\/(x,NameKind.cell)∈scope.names)->∃c,cl.lookup x=some c) (c3:∀x y c,cl.lookup x=some c->cl.lookup y=some c->x=y) :
 (Ca X N' scope cl C s H fp).Ok where
 mod:=I.ok.mod
 kind:=L.kind
 glob:=I.ok.glob
 blt:=I.ok.blt
 above:=hC
 inj:=c3
 has:=fun x h=>by
  refine c2 x ?_
  have h':(relabel scope X.env).names.lookup x=some .cell\/(relabel scope X.env).names.lookup x=some .free:=h
  rcases h' with h | h
  ·rcases Ks h with z | ⟨_,z⟩
   ·exact .inr (lookup_mem z)
   ·exact .inl (lookup_mem z)
  ·rcases Ks h with z | ⟨z,_⟩
   ·exact .inl (lookup_mem z)
   ·cases z
 cab:=fun x c hx hc=>by
  have hx':scope.names.lookup x=some .local\/scope.names.lookup x=some .cell:=of_decide_eq_true hx
  rcases c1 x c hc with ⟨_,z⟩ | ⟨z,_⟩
  ·have z:=mem_lookup L.nod z
   rw[z]at hx'
   rcases hx' with hx' | hx' <;> cases hx'
  ·exact z
 hd:=I.ok.hd
 frames:=I.ok.frames
 stk:=.inl rfl
 exf
  := fun b hb=>⟨Nat.ne_of_lt (Nat.lt_of_lt_of_le (hfs b hb) hC),fun x c e=>by
  rcases c1 x c e with ⟨z,_⟩ | ⟨z,_⟩
  ·exact(hf b hb).2.2.2.2.1 x c z
  ·exact Nat.ne_of_gt (Nat.lt_of_lt_of_le (hfs b hb) z)⟩
 bs:=I.bs
 bsz:=Nat.le_trans I.ok.bsz I.sz
 noex:=fun b o e hb=>by
  rcases (hf b hb).2.2.2.1 with z | z
  ·exact I.ok.noex b o e z
  ·exact absurd (Nat.lt_of_lt_of_le (Heap.lt_size e) (Nat.le_trans I.ok.bsz z)) (Nat.lt_irrefl _)
 exfs:=fun b hb z=>by
  rcases List.mem_cons.mp (I.stkSub b z) with q | q
  ·exact(hf b hb).2.1 q
  ·exact(hf b hb).2.2.1 q
 funs:=I.stack
 frf:=I.stkFree
 tab:=fun p hp=>I.base.tbls p.1 p.2 (I.ok.tab p hp)
theorem Z4 {pins:List (Addr×Obj)}{σ:St}{H:Hp}{s s':Shared}{fp:List Addr}{cl:List (Str×Addr)}{C:Addr}{m:Str->Option Value}(L:Fj X N' idx scope)(I:Inv X pins σ H s)(hf:∀b∈fp,K3 X pins H b)(hfs:∀b∈fp,b<s.heap.objs.size)
 (hC:s.heap.objs.size<=C) (c1:∀x c,cl.lookup x=some c->(X.env.cells.lookup x=some c/\(x,NameKind.free)∈scope.names)\/(s.heap.objs.size<=c/\(x,NameKind.cell)∈scope.names)) (c2:∀x,((x,NameKind.free)∈scope.names\/(x,NameKind.cell)∈scope.names)->∃c,cl.lookup x=some c) (c3:∀x y c,cl.lookup x=some c->cl.lookup y=some c->x=y) (c4:∀x c,cl.lookup x=some c->(x,NameKind.cell)∈scope.names->s'.heap.IsCell c none)
 (ho:s'.os=s.os) (hg:s'.gens=s.gens) (k:∀b o,s.heap.get? b=some o->s'.heap.get? b=some o) (hn:s'.heap.Ns C m):Inv (Ca X N' scope cl C s H fp) [] (cst idx σ) H s' where
 ok:=A6k L I hf hfs hC c1 c2 c3
 os:=ho
 bare:=by rw[hg];exact I.bare
 base:=Un.kept k
 loc:=by
  refine⟨m,hn,fun j x v e1 e2 e3=>?_⟩
  obtain⟨m0,hn0,hl⟩:=I.loc
  have e2':(idx.map fun o=>o.bind fun i=>(σ[i]?).join)[j]?=some (some v):=e2
  rw[List.getElem?_map]at e2'
  cases ei:idx[j]? with
  | none=>rw[ei]at e2';cases e2'
  | some o =>
   rw[ei]at e2';simp only[Option.map_some,Option.some.injEq]at e2'
   cases o with
   | none=>cases e2'
   | some i =>
    have e2'':(σ[i]?).join=some v:=e2';obtain⟨hNi,hfr⟩:=L.at' j i x e1 ei
    have hσ:σ[i]?=some (some v):=by
     cases q:σ[i]? with
     | none=>rw[q]at e2'';cases e2''
     | some z=>rw[q]at e2'';rw[show z=some v from e2'']
    have hk:=L.free _ (lookup_mem hfr) rfl
    have hvis:Vis X.env.scope x:=by
     rcases hk with z | z
     ·exact .inr (.inl z)
     ·exact .inr (.inr z)
    obtain⟨u,r,lk⟩:=hl i x v hNi hσ hvis
    refine⟨u,r,.inr ?_⟩
    rcases lk with ⟨z,_⟩ | ⟨_,c,hc,hcl⟩
    ·exfalso
     have z':X.env.kindOf x=some .local:=z
     rcases hk with q | q
     ·rw[show X.env.kindOf x=_ from q]at z';cases z'
     ·rw[show X.env.kindOf x=_ from q]at z';cases z'
    ·obtain⟨c',hc'⟩:=c2 x (.inl (lookup_mem hfr))
     have:c'=c:=by
      rcases c1 x c' hc' with ⟨q,_⟩ | ⟨_,q⟩
      ·rw[hc]at q;exact(Option.some.inj q).symm
      ·rw[mem_lookup L.nod q]at hfr;cases hfr
     subst this
     refine⟨?_,c',hc',let ⟨o,e,d⟩:=hcl; ⟨o,k _ o e,d⟩⟩
     rcases Hh (env:=X.env) hfr with q | q
     ·exact .inr q
     ·exact .inl q
 cell:=fun x c e=>by
  rcases c1 x c e with ⟨q,_⟩ | ⟨_,q⟩
  ·obtain⟨v,z⟩:=I.cell x c q
   exact⟨v,let ⟨o,e,d⟩:=z; ⟨o,k _ o e,d⟩⟩
  ·exact⟨none,c4 x c e q⟩
 free:=I.hok.fresh hC
 freeC:=fun x c e=>by
  rcases c1 x c e with ⟨q,_⟩ | ⟨q,_⟩
  ·exact I.freeC x c q
  ·exact I.hok.fresh q
 pin:=fun p hp=>by simp at hp
 hok:=I.hok.kept k
 len:=by
  show (idx.map _).length=N'.length
  rw[List.length_map];exact L.len
end
section
variable {X:Cx}{N':List Str}{idx:List (Option Nat)}{scope:Scope}{elt tg iter:Expr}{ifs:List Expr}{pos:Pos}{wi:TI}{g:TG}{tc:TT}{te:TE}
theorem Kc:∀(names:List (Str×NameKind)) (h:Heap) (acc:List (Str×Addr)),(∀x y c,acc.lookup x=some c->acc.lookup y=some c->x=y)->(∀x c,acc.lookup x=some c->c<h.objs.size) ->
 (∀x c,(cellsFrom h.objs.size names acc).lookup x=some c->acc.lookup x=some c\/(h.objs.size<=c/\(x,NameKind.cell)∈names/\(pushCells h names).IsCell c none)) /\
 (∀x,((∃c,acc.lookup x=some c)\/(x,NameKind.cell)∈names)->∃c,(cellsFrom h.objs.size names acc).lookup x=some c) /\
 (∀x y c,(cellsFrom h.objs.size names acc).lookup x=some c->(cellsFrom h.objs.size names acc).lookup y=some c->x=y)
 | [],h,acc,hi,hl=>by
  refine⟨fun x c e=>.inl e,fun x z=>?_,hi⟩
  rcases z with z | z
  ·exact z
  ·exact nomatch z
 | (n,k)::r,h,acc,hi,hl=>by
  unfold cellsFrom pushCells
  by_cases hk:(k==NameKind.cell)=true
  ·rw[if_pos hk,if_pos hk]
   have hk':k=.cell:=eq_of_beq hk;subst hk';have sz:(h.push { cls:=.type "cell",data:=.cell none }).objs.size=h.objs.size+1:=Heap.size_push ..
   have ih:=Kc r (h.push { cls:=.type "cell",data:=.cell none }) ((n,h.objs.size)::acc) (fun x y c e1 e2=>?_) (fun x c e=>?_)
   ·rw[sz]at ih
    obtain⟨i1,i2,i3⟩:=ih
    refine⟨fun x c e=>?_,fun x z=>?_,i3⟩
    ·rcases i1 x c e with q | ⟨q1,q2,q3⟩
     ·rw[List.lookup_cons]at q
      split at q
      ·rename_i hb
       cases q
       have:x=n:=eq_of_beq hb;subst this;exact .inr ⟨Nat.le_refl _,List.mem_cons_self,_,pushCells_keeps _ _ _ _ (Heap.get?_push_size _ rfl),rfl⟩
      ·exact .inl q
     ·exact .inr ⟨Nat.le_of_succ_le q1,List.mem_cons_of_mem _ q2,q3⟩
    ·refine i2 x ?_
     by_cases hx:x=n
     ·subst hx;exact .inl ⟨h.objs.size,by simp⟩
     ·rcases z with ⟨c,z⟩ | z
      ·exact .inl ⟨c,by rw[List.lookup_cons,beq_false_of_ne hx];exact z⟩
      ·rcases List.mem_cons.mp z with z | z
       ·cases z;exact absurd rfl hx
       ·exact .inr z
   ·rw[List.lookup_cons]at e1 e2
    split at e1
    ·rename_i hb1
     cases e1
     split at e2
     ·rename_i hb2
      exact(eq_of_beq hb1).trans (eq_of_beq hb2).symm
     ·exact absurd (hl _ _ e2) (Nat.lt_irrefl _)
    ·split at e2
     ·cases e2
      exact absurd (hl _ _ e1) (Nat.lt_irrefl _)
     ·exact hi x y c e1 e2
   ·rw[sz]
    rw[List.lookup_cons]at e
    split at e
    ·cases e;exact Nat.lt_succ_self _
    ·exact Nat.lt_succ_of_lt (hl x c e)
  ·rw[if_neg hk,if_neg hk]
   have ih:=Kc r h acc hi hl;obtain⟨i1,i2,i3⟩:=ih
   refine⟨fun x c e=>?_,fun x z=>i2 x ?_,i3⟩
   ·rcases i1 x c e with q | ⟨q1,q2,q3⟩
    ·exact .inl q
    ·exact .inr ⟨q1,List.mem_cons_of_mem _ q2,q3⟩
   ·rcases z with z | z
    ·exact .inl z
    ·rcases List.mem_cons.mp z with z | z
     ·cases z;exact absurd rfl hk
     ·exact .inr z
theorem Ak1          
 (h:Q (newEnv scope s.heap.objs.size a (cellsFrom (s.heap.objs.size+1) scope.names d) qual none .none (some b) builtinsNs) { s with heap:=pushCells (s.heap.push { cls:=.type "dict",data:=.dict #[] }) scope.names }) :
 wpAny M A (newFunctionEnv scope a d [] qual none .none (some b)) Q E s:=by
 refine wpAny_bind (wpAny_alloc ?_)
 refine wpAny_bind (wpAny_layCells _ fun e f c=>by trivial _ _ _ _ ?_)
 rw[show ({ s with heap:=s.heap.push _ }:Shared).heap.objs.size=s.heap.objs.size+1 from Heap.size_push ..]
 exact wpAny_bind (wpAny_pure (wpAny_pure h))
theorem Aa1         {K:List (Str×Addr)}  {RR:Value->Addr->Result->Shared->Prop}{F:List V->Hp->Prop}
 (L:Fj X N' idx scope) (hc:X.calm=true)
 (hg:∀K C s₀ H₀ ex,PG (Ca X N' scope K C s₀ H₀ ex) tg g) (ht:∀K C s₀ H₀ ex,PTs (Ca X N' scope K C s₀ H₀ ex) ifs tc) (he:∀K C s₀ H₀ ex,PE (Ca X N' scope K C s₀ H₀ ex) elt te)
 (c1:∀x c,K.lookup x=some c->X.env.cells.lookup x=some c/\(x,NameKind.free)∈scope.names) (c2:∀x,(x,NameKind.free)∈scope.names->∃c,K.lookup x=some c)
 (I2:Inv X pins σ R s2) (T:Turn X.prog X.w X.K tg J fp it tn) (st2:tn 0 s2.heap) (f2:∀b∈fp,K3 X pins R b) (W:Nat->Nat->St->List V->Hp->Prop) (w0:∃m,W 0 m (cst idx σ) [] R)
 (turn:∀i m t acc H,W i m t acc H->(J.stop i H/\F acc H) \/
  (J.go i H/\acc.length<sizeLine/\∃N:St->List V->Hp->Prop,(∀t acc' H',N t acc' H'->∃m',m'<m/\W (i+1) m' t acc' H')/\∀x H',J.yld i H x H'->g x t H' fun Z R=>tc Z R fun b H3 =>
   if b=true then te Z H3 fun y H4=>N Z (acc++[y]) H4 else N Z acc H3))
 (hR:∀(D C:Addr) (s':Shared) (acc:List V) (a:List Value) (n:Nat) (H':Hp) (m:Str->Option Value),s2.heap.objs.size<=D->s2.heap.objs.size<=C->D≠C->s'.heap.Ns C m->s'.heap.get? D=some { cls:=.type "list",data:=.seq a.toArray n }->Vals acc a->acc.length<=sizeLine ->
  H' D=none->H' C=none->s'.os=s2.os->AllBare s'.gens->Un (frs X.stack) fp R H' s2.heap s'.heap->HOk X.prog X.w H' s'.heap->F acc H'->RR (.ref D) C (.ok .next) s') :
 wpAny (model X.prog X.w) X.A (newList []) (fun acc B=>wpAny (model X.prog X.w) X.A (newFunctionEnv scope X.env.globals K [] X.env.qual none .none (some X.env)) (fun cenv s₄ =>
  codeAny (model X.prog X.w) X.A (.compStart (.ListComp elt [⟨tg,iter,ifs,0⟩] scope pos) 0 (.ref it) acc { cenv with scope:=relabel scope X.env }) (RR acc cenv.locals) s₄) E B) E s2:=by
 have U:∀b∈fp,b<s2.heap.objs.size:=fun b w=>let ⟨o,e,_⟩:=T.obj _ _ st2 b w; Heap.lt_size e
 refine wpAny_newObj_type (Ak1 ?_)
 dsimp only
 generalize hH2:s2.heap.push { cls:=.type "list",dict:=none,data:=.seq ([]:List Value).toArray }=G
 have hC:G.objs.size=s2.heap.objs.size+1:=by rw[<- hH2,Heap.size_push]
 have hDC:s2.heap.objs.size≠G.objs.size:=by rw[hC];exact Nat.ne_of_lt (Nat.lt_succ_self _)
 have A:s2.heap.objs.size<=G.objs.size:=by rw[hC];exact Nat.le_succ _
 obtain⟨j,l⟩:∃j,j=pushCells (G.push { cls:=.type "dict",data:=.dict #[] }) scope.names:=⟨_,rfl⟩;rw[<- l]
 have S:j.Ns G.objs.size (fun _=>none):=by rw[l];exact(Heap.Ns.new G (.type "dict")).keeps (pushCells_keeps _ _)
 have old:∀b o,s2.heap.get? b=some o->j.get? b=some o:=fun b o e=>by rw[l];exact pushCells_keeps _ _ b o (Heap.get?_push_of_some _ (hH2▸Heap.get?_push_of_some _ e))
 have hacc:j.get? s2.heap.objs.size=some { cls:=.type "list",dict:=none,data:=.seq ([]:List Value).toArray }:=by rw[l];exact pushCells_keeps _ _ _ _ (Heap.get?_push_of_some _ (hH2▸Heap.get?_push_size _ rfl))
 have szD:(G.push { cls:=.type "dict",data:=.dict #[] }).objs.size=G.objs.size+1:=Heap.size_push ..
 obtain⟨k1,k2,k3⟩:=Kc scope.names (G.push { cls:=.type "dict",data:=.dict #[] }) K (fun x y c e1 e2=>I2.ok.inj x y c (c1 x c e1).1 (c1 y c e2).1) (fun x c e=>by
  obtain⟨v,o,ho,_⟩:=I2.cell x c (c1 x c e).1
  rw[szD];exact Nat.lt_succ_of_lt (Nat.lt_of_lt_of_le (Heap.lt_size ho) A))
 rw[szD,<- l]at k1;rw[szD]at k2 k3;obtain⟨cl0,hcl0⟩:∃cl0,cl0=K:=⟨_,rfl⟩;have c1o:=c1;have c2o:=c2;rw[<- hcl0]at k1 k2 k3 c1o c2o;rw[<- hcl0]
 clear c1 c2
 generalize cellsFrom (G.objs.size+1) scope.names cl0=K at k1 k2 k3 ⊢
 have c1:∀x c,K.lookup x=some c->(X.env.cells.lookup x=some c/\(x,NameKind.free)∈scope.names)\/(s2.heap.objs.size<=c/\(x,NameKind.cell)∈scope.names):=fun x c e=>by
  rcases k1 x c e with q | ⟨q1,q2,_⟩
  ·exact .inl (c1o x c q)
  ·exact .inr ⟨Nat.le_trans A (Nat.le_of_succ_le q1),q2⟩
 have c2:∀x,((x,NameKind.free)∈scope.names\/(x,NameKind.cell)∈scope.names)->∃c,K.lookup x=some c:=fun x z=>k2 x (z.imp (fun z=>c2o x z) id)
 have c4:∀x c,K.lookup x=some c->(x,NameKind.cell)∈scope.names->j.IsCell c none:=fun x c e z=>by
  rcases k1 x c e with q | ⟨_,_,q⟩
  ·have:=mem_lookup L.nod (c1o x c q).2
   rw[mem_lookup L.nod z]at this;cases this
  ·exact q
 let X':Cx:=Ca X N' scope K G.objs.size s2 R fp
 have I1:Inv X' [] (cst idx σ) R { s2 with heap:=j }:=Z4 L I2 f2 U A c1 c2 k3 c4 rfl rfl old S
 have hD2:R s2.heap.objs.size=none:=I2.hok.fresh (Nat.le_refl _)
 have hDfs:s2.heap.objs.size∉X'.fs:=fun z=>by
  obtain⟨_,o,ho,_⟩:=I2.stack.mem z;exact absurd (Heap.lt_size ho) (Nat.lt_irrefl _)
 have hDfp:s2.heap.objs.size∉fp:=fun z=>absurd (U _ z) (Nat.lt_irrefl _)
 have P:∀{H':Hp} {pl:List (Addr×Obj)},(∀b∈fp,H' b=none)->(∀p∈pl,p.1∉fp)->∀b∈fp,K3 X' pl H' b:=fun {H' pl} hn M b w =>
  ⟨hn b w,Nat.ne_of_lt (Nat.lt_of_lt_of_le (U b w) A),fun z=>by
   rcases List.mem_cons.mp (I2.stkSub b z) with q | q
   ·exact(f2 b w).2.1 q
   ·exact(f2 b w).2.2.1 q,.inl w,fun x c e=>by
    rcases c1 x c e with ⟨z,_⟩ | ⟨z,_⟩
    ·exact(f2 b w).2.2.2.2.1 x c z
    ·exact Nat.ne_of_gt (Nat.lt_of_lt_of_le (U b w) z),fun p Q z=>M p (by have hp':p∈[]++pl:=Q;simpa using hp') (z▸w)⟩
 have loop:∀B:Shared,B={ s2 with heap:=j } ->
  codeAny (model X.prog X.w) X.A (.compLoop (.ListComp elt [⟨tg,iter,ifs,0⟩] scope pos) 0 (.ref it) (.ref s2.heap.objs.size) (compEnvC scope K G.objs.size X.env)) (RR (.ref s2.heap.objs.size) G.objs.size) B:=by
  rintro B rfl
  obtain⟨m0,w0⟩:=w0
  refine An9 rfl (Wd:=fun n s'=>∃i t acc a k H',Inv X' [(s2.heap.objs.size,{ cls:=.type "list",data:=.seq a.toArray k })] t H' s'/\Vals acc a/\acc.length<=sizeLine/\tn i s'.heap/\(∀b∈fp,H' b=none)/\W i n t acc H') (step:=?_) m0
   ⟨0,cst idx σ,[],[],0,R,I1.pins_of (fun p Q=>?_),.nil,Nat.zero_le _,T.keep _ _ _ st2 fun b _ o e=>old b o e,fun b w=>(f2 b w).1,w0⟩
  ·rintro n s3 ⟨i,Y,acc,a,k,H3,I3,rv,hz,st3,fr3,w3⟩
   have M:∀p∈[((s2.heap.objs.size,{ cls:=.type "list",data:=.seq a.toArray k }):Addr×Obj)],p.1∉fp:=fun p Q=>by
    rcases List.mem_singleton.mp Q with rfl;exact hDfp
   rcases turn i n Y acc H3 w3 with ⟨stop,q⟩ | ⟨go,hlt,N,hN,step⟩
   ·refine wpAny_mono (T.done X' rfl rfl rfl hc i _ s3 Y H3 (fun _ _=>False) I3 (P fr3 M) st3 stop) (fun r s4 ⟨hr,I4⟩=>?_) fun _ _ f=>f.elim
    subst hr;obtain⟨p1,p2,p3,p4,p5⟩:=I4.pin (s2.heap.objs.size,{ cls:=.type "list",data:=.seq a.toArray k }) (List.mem_append_right _ List.mem_cons_self);obtain⟨m4,hn4,_⟩:=I4.loc;exact hR _ _ s4 acc a k H3 m4 (Nat.le_refl _) A hDC hn4 p1 rv hz p2 I4.free I4.os I4.bare I4.base I4.hok q
   ·refine wpAny_mono (T.item X' rfl rfl rfl hc i _ s3 Y H3 (fun _ _=>False) I3 (P fr3 M) st3 go) (fun r s4 ⟨u,hr,h4⟩=>?_) fun _ _ f=>f.elim
    subst hr
    refine wpAny_mono h4 (fun _ s5 ⟨x,H5,I5,r5,y5,st5,fr5⟩=>?_) fun _ _ f=>f.elim
    refine wpAny_mono (hg _ _ _ _ _ _ s5 Y H5 x u _ (I5.pinned (P fr5 M) (T.obj _ _ st5)) r5 (step x H5 y5)) (fun _ s6 ⟨O,H6,I6,q6⟩=>?_) fun _ _ f=>f.elim
    refine wpAny_mono (ht _ _ _ _ _ _ s6 O H6 _ I6 q6) (fun ok s7 ⟨H7,I7,q7⟩=>?_) fun _ _ f=>f.elim
    have tnk:∀{t:St} {H':Hp} {s':Shared},Inv X' ([(s2.heap.objs.size,{ cls:=.type "list",data:=.seq a.toArray k })]++Py fp s5.heap) t H' s'->tn (i+1) s'.heap/\∀b∈fp,H' b=none:=fun {t H' s'} I=>by
     refine⟨T.keep _ _ _ st5 fun b w o e=>(I.pin (b,o) (List.mem_append_right _ (List.mem_append_right _ (Gn w e)))).1,fun b w=>?_⟩
     obtain⟨o,e,d⟩:=T.obj _ _ st5 b w;exact(I.pin (b,o) (List.mem_append_right _ (List.mem_append_right _ (Gn w e)))).2.1
    cases ok with
    | false =>
     rw[if_neg (by decide)]at q7
     obtain⟨m',hm,w7⟩:=hN _ _ _ q7;exact⟨m',hm,i+1,O,acc,a,k,H7,I7.unpinned,rv,hz,(tnk I7).1,(tnk I7).2,w7⟩
    | true =>
     rw[if_pos rfl]at q7
     refine wpAny_mono (he _ _ _ _ _ _ s7 O H7 _ I7 q7) (fun y s8 ⟨yv,H8,I8,r8,q8⟩=>?_) fun _ _ f=>f.elim
     obtain⟨m',hm,w8⟩:=hN _ _ _ q8;obtain⟨p1,p2,p3,p4,p5⟩:=I8.pin (s2.heap.objs.size,{ cls:=.type "list",data:=.seq a.toArray k }) (List.mem_append_right _ List.mem_cons_self)
     refine call_meets PySem.F.slot_list_append ⟨_,p1,rfl⟩ PySem.F.entry_list_append (PySem.F.args_list_append_2 _ _) (PySem.list_append s2.heap.objs.size a.toArray k y (by have:=rv.length;rw[List.size_toArray];omega)) ⟨p1,?_⟩
     have hz':=rv.length;obtain⟨t8,f8⟩:=tnk I8
     have I8':Inv X' [] O H8 s8:=I8.pins_of fun p Q=>nomatch Q
     have q:=PySem.IsL.update p1 (·.push y)
     have e':(a.toArray.push y)=(a++[y]).toArray:=by simp
     rw[e']at q
     obtain⟨k9,q⟩:∃k9,(s8.heap.update s2.heap.objs.size (Obj.mapSeq (·.push y))).get? _=some { cls:=.type _,data:=.seq _ k9 }:=⟨_,q⟩
     have I9:Inv _ _ _ _ { s8 with heap:=s8.heap.update _ (Obj.mapSeq (·.push y)) } :=
      I8'.turned  (fun b o w e=>(Heap.get?_update_other _ _ (Ne.symm w)).trans e) p2 p3 (.inr (Nat.le_refl _)) (fun x c e z=>by
       obtain⟨v,o,ho,hd⟩:=I8'.cell x c e
       rw[z,p1]at ho;cases ho;cases hd) (fun p Q=>by have hp':p∈([]:List _)++[]:=Q;simp at hp')
     refine⟨m',hm,i+1,O,acc++[yv],a++[y],k9,H8,I9.pins_of fun p Q=>?_,rv.append (.cons r8 .nil),by rw[List.length_append,List.length_singleton];omega,T.keep _ _ _ t8 fun b w o e=>(Heap.get?_update_other _ _ (fun z=>hDfp (by rw[z];exact w))).trans e,f8,w8⟩
     rcases List.mem_singleton.mp Q with rfl
     exact⟨q,p2,p3,p4,fun v z=>by cases z⟩
  ·rcases List.mem_singleton.mp Q with rfl
   exact⟨hacc,hD2,hDC,hDfs,fun v z=>by cases z⟩
 exact codeAny_compStart_list (loop _ rfl) (T.self _ 0 _ _ _ (T.keep _ _ _ st2 fun b _ o e=>old b o e) (loop _ rfl))
theorem Bt9 (L:Fj X N' idx scope)(hc:X.calm=true)(hi:PI X tg iter wi)
 (hg:∀t C s₀ H₀ ex,PG (Ca X N' scope t C s₀ H₀ ex) tg g) (ht:∀t C s₀ H₀ ex,PTs (Ca X N' scope t C s₀ H₀ ex) ifs tc) (he:∀t C s₀ H₀ ex,PE (Ca X N' scope t C s₀ H₀ ex) elt te)
 (hs:∀x,foldedSetIterable iter X.env x=pure x:=by intro _;rfl) :
 PE X (.ListComp elt [⟨tg,iter,ifs,0⟩] scope pos) (tLC idx wi g tc te):=by
 intro j s Z H Q I h
 obtain⟨t,l,c1,c2⟩:=J8 (env:=X.env) (scope:=scope) fun y hy hf=>I.ok.has y.1 (L.free y hy hf)
 rw[eval_ListComp]
 refine wpAny_comprehension_free (use:=none) rfl hs l L.kind (fun y hy hl=>mem_lookup L.nod (by grind)) (wpAny_mono (hi j s Z H _ I h) (fun v s1 h1=>wpAny_mono h1 (fun itv V h2=>?_) fun _ _ e=>e) fun _ _ e=>e)
 obtain⟨it,fp,tn,J,H2,rfl,I2,T,M,z,W,w0,A⟩:=h2
 refine Aa1 (F:=fun a H=>∀p,H p=none->Q (.ref p) (upd H p (.lst a))) (RR:=fun a C=>compPost (model X.prog X.w) X.A X.xe none (EP X j Z Q) a C) L hc hg ht he c1 c2 I2 T M z W w0 A ?_
 intro D C s' a w n N m hD hC O hn P rv hz d hC' ho K i hk q
 refine⟨m,hn,fun G f=>?_⟩
 have eD:G.get? D=some { cls:=.type "list",data:=.seq w.toArray n }:=f.extBut _ _ O P
 have S:HOk X.prog X.w N G:=fun b u e=>by
  refine (hk b u e).stay (fun c v hc q=>f.extBut c v ?_ q) (fun _ q=>q) fun _ _ q=>q
  grind
 have U:HOk X.prog X.w (upd N D (.lst a)) G:=S.track d ⟨hz,w,n,rv,eD⟩
 have k:∀b o,V.heap.get? b=some o->b≠C:=fun b o e=>Nat.ne_of_lt (Nat.lt_of_lt_of_le (Heap.lt_size e) hC)
 have R:∀b o,V.heap.get? b=some o->b≠D:=fun b o e=>Nat.ne_of_lt (Nat.lt_of_lt_of_le (Heap.lt_size e) hD)
 have u2:Un (frs X.stack) fp H2 (upd N D (.lst a)) V.heap G :=
  ⟨
   fun b o e r B Y=>f.extBut b o (k b o e) (i.keep b o e r B Y),fun b o e r B Y=>let ⟨sl,q⟩:=i.slot b o e r B Y; ⟨sl,f.extBut b _ (k b o e) q⟩,
   fun b o e r B=>by rw[Ao (R b o e)];exact i.free b o e r B,fun b o e r=>let ⟨o',q⟩:=i.there b o e r; ⟨o',f.extBut b _ (k b o e) q⟩,
   fun b xs e=>by rw[Ao (Ba (i.tups b _ e) d)];exact i.tups b _ e,fun b o u e=>by rw[Ao (Ba (i.frzs b o u e) d)];exact i.frzs b o u e,
   fun b ps e=>by rw[Ao (Ba (i.tbls b _ e) d)];exact i.tbls b _ e⟩
 refine⟨.ref D,upd _ D _,I2.call'  ho u2 U K fun b E=>⟨(z b E).2.2.2.1,(z b E).2.1,(z b E).2.2.2.2.1,(z b E).2.2.2.2.2⟩,rfl,q D d⟩
end
section
variable {X:Cx}{N':List Str}{idx:List (Option Nat)}{scope:Scope}{elt tg iter:Expr}{ifs:List Expr}{pos:Pos}{wi:TI}{g:TG}{tc:TT}{te:TE}
theorem A3z   {K t:Pos}(hN:X.N.Nodup) (hi':X.N[i]?=some y) (hy:Loc X.env.scope y) (L:Fj X N' idx scope) (hc:X.calm=true) (hi:PI X tg iter wi)
 (hg:∀B C s₀ H₀ ex,PG (Ca X N' scope B C s₀ H₀ ex) tg g) (ht:∀B C s₀ H₀ ex,PTs (Ca X N' scope B C s₀ H₀ ex) ifs tc) (he:∀B C s₀ H₀ ex,PE (Ca X N' scope B C s₀ H₀ ex) elt te)
 (hsw:swapsWith (.ListComp elt [⟨tg,iter,ifs,0⟩] scope pos) (some (.Name y K)) t.line X.env=pure true:=by rfl)
 (hf:X.fn y=true\/X.env.scope.names.lookup y=some .local:=by first | exact .inl rfl | exact .inr rfl | assumption)
 (hs:∀x,foldedSetIterable iter X.env x=pure x:=by intro _;rfl) :
 PS X (.Assign [.Name y K] (.ListComp elt [⟨tg,iter,ifs,0⟩] scope pos) t) (Vi (tLC idx wi g tc te) (Ju i)):=by
 intro d s M H j I h
 have h:tLC idx wi g tc te M H fun x H1=>j.nx (M.set i (some x)) H1:=h
 obtain⟨B,A,c1,c2⟩:=J8 (env:=X.env) (scope:=scope) fun y hy hf=>I.ok.has y.1 (L.free y hy hf)
 rw[exec_Assign_Name_used _ _ _ _ hsw]
 refine wpAny_bind (wpAny_standAt (wpAny_bind ?_))
 show wpAny _ X.A (do let _ <- comprehension (.ListComp elt [⟨tg,iter,ifs,0⟩] scope pos) scope X.env _ (newList []) false (eval iter X.env) (some (assign (.Name y K) X.env))) _ _ s
 refine wpAny_bind (wpAny_mono (wpAny_comprehension_free (use:=some (assign (.Name y K) X.env)) (Q:=fun _ r=>SP X d j .next r) rfl hs A L.kind (fun y hy hl=>mem_lookup L.nod (by rw[<- hl];exact hy))
  (wpAny_mono (hi d s M H _ I h) (fun v s1 h1=>wpAny_mono h1 (fun itv s2 h2=>?_) fun _ _ e=>e) fun _ _ e=>e)) (fun _ r hq=>wpAny_pure (wpAny_pure hq)) fun _ _ e=>e)
 obtain⟨it,fp,tn,J,H2,rfl,G,T,U,N,W,w0,O⟩:=h2
 refine Aa1 (F:=fun f H=>∀p,H p=none->j.nx (M.set i (some (.ref p))) (upd H p (.lst f))) (RR:=fun f C=>compPost (model X.prog X.w) X.A X.xe (some (assign (.Name y K) X.env)) (fun _ r=>SP X d j .next r) f C) L hc hg ht he c1 c2 G T U N W w0 O ?_
 intro D C r f V n Y m hD P Z hn hDo rv hz k hC' ho hg' l hk q;have S:HOk X.prog X.w (upd Y D (.lst f)) r.heap:=hk.track k ⟨hz,V,n,rv,hDo⟩
 have neD:∀b o,s2.heap.get? b=some o->b≠D:=fun b o e=>Nat.ne_of_lt (Nat.lt_of_lt_of_le (Heap.lt_size e) hD)
 have u2:Un (frs X.stack) fp H2 (upd Y D (.lst f)) s2.heap r.heap :=
  ⟨
   l.keep,l.slot,fun b o e n1 n2=>by rw[Ao (neD b o e)];exact l.free b o e n1 n2,l.there,
   fun b xs e=>by rw[Ao (Ba (l.tups b xs e) k)];exact l.tups b xs e,fun b o u e=>by rw[Ao (Ba (l.frzs b o u e) k)];exact l.frzs b o u e,
   fun b ps e=>by rw[Ao (Ba (l.tbls b ps e) k)];exact l.tbls b ps e⟩
 have I3:Inv X d M (upd Y D (.lst f)) r:=G.call' ho u2 S hg' (fun b E=>⟨(N b E).2.2.2.1,(N b E).2.1,(N b E).2.2.2.2.1,(N b E).2.2.2.2.2⟩)
 have hCL:C≠X.env.locals:=Nat.ne_of_gt (Nat.lt_of_lt_of_le G.lt P)
 have hCc:∀x c,X.env.cells.lookup x=some c->c≠C:=fun x c e z=>by
  obtain⟨v,w⟩:=G.cell x c e
  exact absurd (Nat.lt_of_lt_of_le w.lt (by rw[z];exact P)) (Nat.lt_irrefl _)
 have hCp:∀p∈X.pn++d,p.1≠C:=fun p hp z=>absurd (Nat.lt_of_lt_of_le (Heap.lt_size (G.pin p hp).1) (by rw[z];exact P)) (Nat.lt_irrefl _)
 refine wpAny_assign_Name (Wa (v:=.ref D) I3 hN hi' hy rfl (fun s4 I4 ⟨a,sb,ha⟩=>?_) hf)
 have hCa:C≠a:=by
  grind
 refine⟨m,hn.sameBut sb hCa,fun h' R=>?_⟩
 refine⟨_,_,I4.turned  (fun b o E e=>R.extBut b o E e) ?_ hCL (.inr (Nat.le_trans G.sz P)) hCc hCp,q D k⟩
 rw[Ao (Ne.symm Z)];exact hC'
end
section
variable {X:Cx}
def Mz (H:Hp):V->Option String
 | .non=>some "NoneType" | .bl _=>some "bool" | .int _=>some "int" | .str _=>some "str"
 | .ref a=>match H a with
  | some (.lst _)=>some "list"
  | some (.tup _)=>some "tuple"
  | some (.dK _)=>some "dict"
  | some (.dT _)=>some "dict"
  | _=>none
 | _=>none
section
variable {X:Cx}{pins:List (Addr×Obj)}{σ:St}{H:Hp}{s:Shared}
theorem A3h    (I:Inv X pins σ H s) (f:RelV x u) (h:Mz H x=some t):∃hp:Heap->Prop,PySem.W.KitX X.K u (.type t) hp/\hp s.heap/\u≠.builtin "__main__.__loader__#opaque" := by
 cases x with
 | non=>cases h;cases (f);exact⟨_,PySem.W.kitx_none,True.intro,fun z=>nomatch z⟩
 | bl b=>cases h;cases (f);exact⟨_,PySem.W.kitx_bool,True.intro,fun z=>nomatch z⟩
 | int i=>cases h;obtain⟨t,rfl⟩:=f;exact⟨_,PySem.W.kitx_int,True.intro,fun z=>nomatch z⟩
 | str y=>cases h;obtain⟨t,rfl⟩:=f;exact⟨_,PySem.W.kitx_str,True.intro,fun z=>nomatch z⟩
 | ref a =>
  cases (f)
  have c:∀T,PySem.W.KitX X.K (.ref a) (.type T) (PySem.W.KitAt a T)->PySem.W.KitAt a T s.heap->some T=some t->∃hp:Heap->Prop,PySem.W.KitX X.K (.ref a) (.type t) hp/\hp s.heap/\Value.ref a≠.builtin "__main__.__loader__#opaque" := fun T k p q=>by grind
  have h:(match H a with | some (.lst _)=>some _ | some (.tup _)=>some _ | some (.dK _)=>some _ | some (.dT _)=>some _ | _=>none)=some t:=h
  split at h
  ·rename_i l e
   obtain⟨_,_,n,_,d⟩:=(show z8 _ _ H _ a _ from I.hok a _ e)
   exact c _ PySem.W.kitx_list ⟨_,d,rfl⟩ h
  ·rename_i l e
   obtain⟨_,_,_,o,d,g,_⟩:=(show z8 _ _ H _ a _ from I.hok a _ e)
   exact c _ PySem.W.kitx_tuple ⟨o,d,g⟩ h
  ·rename_i j e
   obtain⟨_,_,vs,_,o,r,m,d,g,_⟩:=(show z8 _ _ H _ a _ from I.hok a _ e)
   exact c _ PySem.W.kitx_dict ⟨o,d,g.1⟩ h
  ·rename_i j e
   obtain⟨_,_,l,_,o,r,m,d,g,_⟩:=(show z8 _ _ H _ a _ from I.hok a _ e)
   exact c _ PySem.W.kitx_dict ⟨o,d,g.1⟩ h
  grind
 | byt b=>cases h
 | flt b=>cases h
 | ty n=>cases h
end
def Eh (t T:String):Option Bool:=if ["NoneType", "bool", "int", "str", "list", "tuple", "dict"].contains t&&["int", "str", "bool", "list", "tuple"].contains T then some (t==T||(t == "bool" && T == "int")) else none
theorem Y6 {K:PySem.W.Frag}   (h:Eh t T=some b):PySem.W.kitOne K (.type t) (.type T)=some b:=by
 unfold Eh at h
 split at h
 ·rename_i a
  cases h
  simp only[Bool.and_eq_true,List.contains_iff_mem,List.mem_cons,List.not_mem_nil,or_false]at a;obtain⟨c,d⟩:=a
  rcases c with rfl | rfl | rfl | rfl | rfl | rfl | rfl <;> rcases d with rfl | rfl | rfl | rfl | rfl <;> with_unfolding_all rfl
 ·cases h
theorem Az6:CallR X (.builtin "isinstance") (fun xs H Q=>∃x T t b,xs=[x,.ty T]/\Mz H x=some t/\Eh t T=some b/\Q (.bl b) H):=by
 intro a s σ H xs us Q I r h;obtain⟨x,T,t,b,rfl,f,c,q⟩:=h;obtain⟨u,v,rfl,e,d⟩:=Vals.two r
 cases (d)
 obtain⟨hp,z,p,g⟩:=A3h I e f
 exact PySem.W.kia_one z I.kIn p (Y6 c) g fun tk=>⟨.bl b,H,I.tok _,rfl,q⟩
theorem walk_seq          (m:A.handled=none) (I:Inv X pins d H s) (h:SqL X.K H a xs)
 (k:∀(c:List Value) (J:Addr) (s2:Shared),Vals xs c->Walks X.prog X.w A J [J,a] [J] c.length (fun i v=>c[i]?=some v) (fun i h=>h.IsListIter J a i/\h.IsList a c.toArray)->s2.heap.IsListIter J a 0/\s2.heap.IsList a c.toArray->(∀b∈[J,a],b<s2.heap.objs.size) ->
  Inv X pins d H s2->(∀f l,(∀b o,b∉[J]->s2.heap.get? b=some o->f.get? b=some o)->Inv X pins d H { s2 with heap:=f,toks:=l })->R (.ref J) s2) :
 wpAny (model X.prog X.w) A (pyIter (.ref a)) R E s:=by
 obtain⟨c,n,p,D⟩:=I.list h
 refine wpAny_pyIter_list p.isList ?_
 have u:a<s.heap.objs.size:=let ⟨_,e,_⟩:=p.isList; Heap.lt_size e
 have g:a≠s.heap.objs.size:=Nat.ne_of_lt u;have W:=Walks.list (prog:=X.prog) (w:=X.w) (A:=A) m s.heap.objs.size a g c.toArray;rw[List.size_toArray]at W
 have j:Inv X pins d H { s with heap:=s.heap.push { cls:=.type "list_iterator",data:=.fields #[.ref a,.int 0 0] } }:=I.kept (t':=s.toks) fun b o e=>Heap.get?_push_of_some _ e
 refine k c s.heap.objs.size _ n (by simp_all) ⟨⟨_,Heap.get?_push_size _ rfl,rfl,rfl⟩,let ⟨o,e,r⟩:=p.isList; ⟨o,Heap.get?_push_of_some _ e,r⟩⟩ ?_ j fun f l x=>?_
 ·intro b z
  have e:=Heap.size_push s.heap { cls:=.type "list_iterator",data:=.fields #[.ref a,.int 0 0] }
  grind
 ·obtain⟨q,B,F,y,C,t⟩:=(I.fpOk (b:=s.heap.objs.size) (Nat.le_refl _) (I.hok.fresh (Nat.le_refl _)))
  exact j.turned  (fun b o z e=>x b o (by simp_all) e) q B y C t
theorem Q4   {bs:List Bool}(r:Vals (bs.map V.bl) a):TruthOf X.prog X.w A (fun i v=>a[i]?=some v) (fun i=>bs.getD i false):=by
 intro i v s Q E c b;have h  := (List.getElem?_eq_some_iff.mp c).1
 have g:i<bs.length:=by have:=r.length;simp_all
 obtain⟨u,d,f⟩:=r.get (i:=i) (x:=V.bl bs[i]) (by simp_all)
 rw[c]at d
 cases d
 cases (show v=Value.bool _ from f)
 have e:bs.getD i false=bs[i]:=by simp_all
 have b:Q (bs.getD i _) s:=b;rw[e]at b;exact wpAny_truthy_bool b
theorem range_any (bs:List Bool):(List.range bs.length).any (fun i=>bs.getD i false)=bs.any id:=by
 rw[Bool.eq_iff_iff];simp only[List.any_eq_true,List.mem_range]
 constructor
 ·rintro⟨i,a,e⟩
  exact⟨bs[i],List.getElem_mem _,by grind⟩
 ·rintro⟨b,d,e⟩
  obtain⟨i,a,c⟩:=List.getElem_of_mem d
  exact⟨i,a,by grind⟩
theorem range_all (bs:List Bool):(List.range bs.length).all (fun i=>bs.getD i false)=bs.all id:=by
 rw[Bool.eq_iff_iff];simp only[List.all_eq_true,List.mem_range]
 constructor
 ·intro h b d
  obtain⟨i,a,c⟩:=List.getElem_of_mem d
  simp_all
 ·intro h i a
  simpa[a] using h _ (List.getElem_mem _)
theorem Ax4 (hc:X.calm=true):CallR X (.builtin "any") (fun xs H Q=>∃(a:Addr) (b:List Bool),xs=[.ref a]/\SqL X.K H a (b.map V.bl)/\Q (.bl (b.any id)) H):=by
 intro d s σ H xs us Q I r h;obtain⟨a,b,rfl,i,q⟩:=h;obtain⟨u,rfl,g⟩:=vals1 r
 cases g
 refine call_any_walk (walk_seq  (I.ok.hd hc) I i fun c J s2 f W l hb I2 k=>⟨J,_,_,_,_,_,_,rfl,W,l,Q4 f,fun h' tk j=>?_⟩)
 have e:c.length=b.length:=by rw[<- f.length,List.length_map]
 rw[e,range_any];exact⟨.bl _,H,k _ _ j,rfl,q⟩
theorem Ay7 (hc:X.calm=true):CallR X (.builtin "all") (fun xs H Q=>∃(a:Addr) (b:List Bool),xs=[.ref a]/\SqL X.K H a (b.map V.bl)/\Q (.bl (b.all id)) H):=by
 intro d s σ H xs us Q I r h;obtain⟨a,b,rfl,i,q⟩:=h;obtain⟨u,rfl,g⟩:=vals1 r
 cases (g)
 refine call_all_walk (walk_seq  (I.ok.hd hc) I i fun c J s2 f W l hb I2 k=>⟨J,_,_,_,_,_,_,rfl,W,l,Q4 f,fun h' tk j=>?_⟩)
 have e:c.length=b.length:=by rw[<- f.length,List.length_map]
 rw[e,range_all];exact⟨.bl _,H,k _ _ j,rfl,q⟩
end
mutual
def Tr (H:Hp):PyData->V->Prop
 | .none,v=>v=.non
 | .bool b,v=>v=.bl b
 | .int i,v=>v=.int i
 | .str x,v=>v=.str x
 | .list ds,v=>∃a vs,v=.ref a/\H a=some (.lst vs)/\TrL H ds vs
 | .tuple ds,v=>∃a vs,v=.ref a/\H a=some (.tup vs)/\TrL H ds vs
 | .dict _,_=>False
def TrL (H:Hp):List PyData->List V->Prop
 | [],vs=>vs=[]
 | d::ds,vs=>∃v r,vs=v::r/\Tr H d v/\TrL H ds r
end
theorem TrL.length {H:Hp}:∀{ds:List PyData}{vs:List V},TrL H ds vs->ds.length=vs.length
 | [],_,h=>by cases (show _=[] from h);rfl
 | d::ds,_,h=>by
  obtain⟨v,r,rfl,_,t⟩:=h;rw[List.length_cons,List.length_cons,TrL.length t]
mutual
theorem Tr.same {H H':Hp}(S:Same H H'):∀{d:PyData}{v:V},Tr H d v->Tr H' d v
 | .none,_,h=>h
 | .bool _,_,h=>h
 | .int _,_,h=>h
 | .str _,_,h=>h
 | .list ds,_,⟨a,vs,e,ha,t⟩=>⟨a,vs,e,S _ _ ha,TrL.same S t⟩
 | .tuple ds,_,⟨a,vs,e,ha,t⟩=>⟨a,vs,e,S _ _ ha,TrL.same S t⟩
theorem TrL.same {H H':Hp}(S:Same H H'):∀{ds:List PyData}{vs:List V},TrL H ds vs->TrL H' ds vs
 | [],_,h=>h
 | d::ds,_,⟨v,r,e,h,t⟩=>⟨v,r,e,Tr.same S h,TrL.same S t⟩
end
def Bx6 (H H':Hp):Prop:=∀b xs,H b=some (.tup xs)->H' b=some (.tup xs)
section
variable {X:Cx}{pins:List (Addr×Obj)}{σ:St}{H:Hp}{s:Shared}
mutual
theorem Tr.reads (I:Inv X pins σ H s):∀{d:PyData}{v:V}{u:Value},Tr H d v->RelV v u->∃as,Reads s.heap u d as
 | .none,_,u=>fun h r=>by
  cases (show _=V.non from h)
  cases (show u=Value.none from r)
  exact⟨_,.none⟩
 | .bool b,_,u=>fun h r=>by
  cases (show _=V.bl b from h)
  cases (show u=Value.bool b from r)
  exact⟨_,.bool b⟩
 | .int i,_,u=>fun h r=>by
  cases (show _=V.int i from h)
  obtain⟨t,rfl⟩:=r;exact⟨_,.int i t⟩
 | .str x,_,u=>fun h r=>by
  cases (show _=V.str x from h)
  obtain⟨t,rfl⟩:=r;exact⟨_,.str x t⟩
 | .list ds,_,u=>fun h r=>by
  obtain⟨a,vs,rfl,ha,t⟩:=h
  cases (show u=Value.ref a from r)
  obtain⟨z,its,n,rv,e⟩:=I.hok a _ ha;obtain⟨as,q⟩:=TrL.reads I t rv
  exact⟨_,.list e rfl rfl (by simpa using q)⟩
 | .tuple ds,_,u=>fun h r=>by
  obtain⟨a,vs,rfl,ha,t⟩:=h
  cases (show u=Value.ref a from r)
  obtain⟨z,its,rv,o,e,c,⟨n,dt⟩,_⟩:=I.hok a _ ha;obtain⟨as,q⟩:=TrL.reads I t rv
  exact⟨_,.tuple e c dt (by simpa using q)⟩
 | .dict k,_,u=>fun h r=>False.elim h
theorem TrL.reads (I:Inv X pins σ H s):∀{ds:List PyData}{vs:List V}{us:List Value},TrL H ds vs->Vals vs us->∃as,ReadsAll s.heap us ds as
 | [],_,us=>fun h r=>by
  cases (show _=[] from h)
  cases r
  exact⟨_,.nil⟩
 | d::ds,_,us=>fun h r=>by
  obtain⟨v,vs,rfl,hv,t⟩:=h
  cases r with
  | cons r1 r2 =>
   obtain⟨as,q⟩:=Tr.reads I hv r1;obtain⟨bs,p⟩:=TrL.reads I t r2;exact⟨_,.cons q p⟩
end
end
def Flat (d:PyData):Prop:=d.canLay0=true/\d.depth<=40
section
variable {X:Cx}
theorem Ba7  (hu:u+64<c) (hb:b<=40):u+min a b<c:=Nat.lt_of_le_of_lt (Nat.add_le_add_left (Nat.le_trans (Nat.min_le_right a b) (Nat.le_trans hb (by decide))) u) hu
theorem A2z  (hu:u+64<c) (hb:b<=40):u+1+min a b<c:=Nat.lt_of_le_of_lt (Nat.le_trans (Nat.add_le_add_left (Nat.le_trans (Nat.min_le_right a b) hb) _) (Nat.add_le_add_left (show 1+40<=64 by decide) u)) hu
theorem Bh8 (hu:X.A.units+64<cLine):OpR X (compareOp .Eq) (fun x y H Q=>∃a b,Tr H a x/\Tr H b y/\Flat a/\Flat b/\Q (.bl (PyData.eqv a b)) H):=by
 intro c s n H x y v u Q I g f h;obtain⟨a,b,i,j,k,d,q⟩:=h;obtain⟨m,l⟩:=i.reads I g;obtain⟨o,e⟩:=j.reads I f;exact SeqAt.compareEq_reads l e k.1 d.1 (Ba7 hu d.2) ⟨.bl _,H,I,rfl,q⟩
theorem Bc8 (hu:X.A.units+64<cLine):OpR X (compareOp .NotEq) (fun x y H Q=>∃a b,Tr H a x/\Tr H b y/\Flat a/\Flat b/\Q (.bl (!PyData.eqv a b)) H):=by
 intro c s n H x y v u Q I g f h;obtain⟨a,b,i,j,k,d,q⟩:=h;obtain⟨m,l⟩:=i.reads I g;obtain⟨o,e⟩:=j.reads I f;exact SeqAt.compareNe_reads l e k.1 d.1 (Ba7 hu d.2) ⟨.bl _,H,I,rfl,q⟩
theorem We (hu:X.A.units+64<cLine):OpR X (compareOp .NotIn) (fun x y H Q=>∃d ds,Tr H d x/\(Tr H (.list ds) y\/Tr H (.tuple ds) y)/\Flat d/\PyData.canLayAll0 ds=true/\Q (.bl (!ds.any fun e=>PyData.eqv e d)) H):=by
 intro g s σ H x y v u Q I m f h;obtain⟨d,ds,k,a,b,i,q⟩:=h;obtain⟨as,j⟩:=k.reads I m
 rcases a with a | a
 ·obtain⟨l,c⟩:=a.reads I f
  exact SeqAt.notIn_list_reads c j i b.1 (A2z hu b.2) ⟨.bl _,H,I,rfl,q⟩
 ·obtain⟨l,c⟩:=a.reads I f
  exact SeqAt.notIn_tuple_reads c j i b.1 (A2z hu b.2) ⟨.bl _,H,I,rfl,q⟩
theorem Aq5 (hu:X.A.units+64<cLine)(hg:X.A.guards=some []):CallR X (.type "str") (fun xs H Q=>∃a d,xs=[.ref a]/\Tr H d (.ref a)/\d.showable=true/\d.hasDict=false/\d.depth<=40/\d.shown.length<=sizeLine/\Q (.str d.shown) H):=by
 intro b s σ H xs us Q I r h;obtain⟨a,d,rfl,i,j,h2,h3,g,q⟩:=h;obtain⟨u,rfl,c⟩:=vals1 r
 cases show u=Value.ref a from c
 obtain⟨as,k⟩:=i.reads I c
 exact str_of_reads k j fun z=>by simp_all hg (by omega) (fun _ _ e=>e) (fun h' t tk f=>⟨.str _,H,I.kept  f,⟨t,rfl⟩,q⟩) g
end
mutual
def Rk (gt:Bool):PyData->PyData->Option Bool
 | .int i,.int j=>some (if gt then decide (j<i) else decide (i<j))
 | .str i,.str j=>some (if gt then decide (j.cps.toList<i.cps.toList) else decide (i.cps.toList<j.cps.toList))
 | .tuple xs,.tuple ys=>A6q gt xs ys
 | _,_=>none
def A6q (gt:Bool):List PyData->List PyData->Option Bool
 | [],[]=>some false
 | [],_::_=>some (!gt)
 | _::_,[]=>some gt
 | x::xs,y::ys=>if PyData.eqv x y=true then A6q gt xs ys else Rk gt x y
end
abbrev opG (gt:Bool):CmpOp:=if gt then .Gt else .Lt
def Bd2 (gt:Bool)(A:Around)(s:Shared)(a b:Value)(r:Bool):Prop :=
 ∀(prog:Program) (w:World) (E:Value->Shared->Prop) (Q:Value->Shared->Prop),Q (.bool r) s->wpAny (model prog w) A (richCompare (opG gt) a b) Q E s
inductive Ro (gt:Bool) (A:Around) (s:Shared):List Value->List Value->Bool->Prop
 | nn:Ro gt A s [] [] false
 | nc {y ys}:Ro gt A s [] (y::ys) (!gt)
 | cn {x xs}:Ro gt A s (x::xs) [] gt
 | eq {x xs y ys r}:SeqAt.EqAt A s x y true->Ro gt A s xs ys r->Ro gt A s (x::xs) (y::ys) r
 | ne {x xs y ys r}:SeqAt.EqAt A s x y false->Bd2 gt A s x y r->Ro gt A s (x::xs) (y::ys) r
section
open PySem.SeqAt
open PySem.AutoSeq1 (wpAny_loadPart')
open PySem.MeetsSeq PySem.MeetsSeq2 PySem.MeetsSeq3
theorem W7 (l b:Addr)(items a:Array Value)(n n2:Nat)(dd dd2:Option Addr)(sl sl2:Array (Option Value))(r:Bool) :
 Meets (Builtin.«tuple.__lt__» ⟨[.ref l,.ref b],[]⟩)
  (fun A R s=>s.heap.get? l=some { cls:=.type "tuple",dict:=dd,data:=.seq items n,slots:=sl }/\s.heap.get? b=some { cls:=.type "tuple",dict:=dd2,data:=.seq a n2,slots:=sl2 } /\
   Ro false A.in1 s items.toList a.toList r/\R (.ok (.ret (.bool r))) s) :=
 .of_wp fun f w A R s h=>by
  obtain⟨hp,g,d,tk,os⟩:=s;obtain⟨hl,hb,hx,h⟩:=h;have f2:=AutoSeq1.sub_tuple_tuple
  wp_walk using wpAny_loadPart' hl,wpAny_loadPart' hb,wpAny_forIn_list _ (fun rest b s'=>b.1=none/\s'=⟨hp,g,d,tk,os⟩/\∃(vs ws:List Value),rest=vs.zip ws /\
   vs.length+a.size=ws.length+items.size/\Ro false A.in1 ⟨hp,g,d,tk,os⟩ vs ws r) _
  case turn =>
   rintro⟨y,x⟩ rest b s' ⟨hb',rfl,vs,ws,e,c,hR⟩
   cases hR with
   | nn=>rw[List.zip_nil_left]at e;cases e
   | nc=>rw[List.zip_nil_left]at e;cases e
   | cn=>rw[List.zip_nil_right]at e;cases e
   | eq he hr =>
    rw[List.zip_cons_cons]at e
    injection e with hyx hrest
    injection hyx with hy hx
    subst hy hx;simp only[List.length_cons]at c
    refine wpAny_bind (he f w _ _ ?_)
    wp_walk
    exact⟨rfl,rfl,_,_,hrest,by omega,hr⟩
   | ne he hr =>
    rw[List.zip_cons_cons]at e
    injection e with hyx hrest
    injection hyx with hy hx
    subst hy hx
    refine wpAny_bind (he f w _ _ ?_)
    have hri:∀(E:Value->Shared->Prop) (Q:Value->Shared->Prop),Q (.bool r) ⟨hp,g,d,tk,os⟩->wpAny (model f w) A.in1 (richCompare .Lt y x) Q E ⟨hp,g,d,tk,os⟩:=hr f w
    wp_walk using hri
    exact⟨_,rfl,by simpa using h⟩
  case fin =>
   rintro⟨b1,b2⟩ s' ⟨hb',rfl,vs,ws,e,c,hR⟩
   simp only at hb';subst hb'
   have hv:r=decide (items.size<a.size):=by
    cases hR with
    | nn=>exact(decide_eq_false (by simp only[List.length_nil]at c;omega)).symm
    | nc=>simp only[List.length_nil,List.length_cons]at c;exact(decide_eq_true (by omega)).symm
    | cn=>simp only[List.length_nil,List.length_cons]at c;exact(decide_eq_false (by omega)).symm
    | eq=>rw[List.zip_cons_cons]at e;cases e
    | ne=>rw[List.zip_cons_cons]at e;cases e
   rw[hv]at h
   wp_walk
   exact⟨_,rfl,by simpa[Builtin.Tuple.tupleCompareSizes] using h⟩
  case h =>
   exact⟨rfl,rfl,items.toList,a.toList,rfl,by simp;omega,hx⟩
theorem X5 (l b:Addr)(items a:Array Value)(n n2:Nat)(dd dd2:Option Addr)(sl sl2:Array (Option Value))(r:Bool) :
 Meets (Builtin.«tuple.__gt__» ⟨[.ref l,.ref b],[]⟩)
  (fun A R s=>s.heap.get? l=some { cls:=.type "tuple",dict:=dd,data:=.seq items n,slots:=sl }/\s.heap.get? b=some { cls:=.type "tuple",dict:=dd2,data:=.seq a n2,slots:=sl2 } /\
   Ro true A.in1 s items.toList a.toList r/\R (.ok (.ret (.bool r))) s) :=
 .of_wp fun f w A R s h=>by
  obtain⟨hp,g,d,tk,os⟩:=s;obtain⟨hl,hb,hx,h⟩:=h;have f2:=AutoSeq1.sub_tuple_tuple
  wp_walk using wpAny_loadPart' hl,wpAny_loadPart' hb,wpAny_forIn_list _ (fun rest b s'=>b.1=none/\s'=⟨hp,g,d,tk,os⟩/\∃(vs ws:List Value),rest=vs.zip ws /\
   vs.length+a.size=ws.length+items.size/\Ro true A.in1 ⟨hp,g,d,tk,os⟩ vs ws r) _
  case turn =>
   rintro⟨y,x⟩ rest b s' ⟨hb',rfl,vs,ws,e,c,hR⟩
   cases hR with
   | nn=>rw[List.zip_nil_left]at e;cases e
   | nc=>rw[List.zip_nil_left]at e;cases e
   | cn=>rw[List.zip_nil_right]at e;cases e
   | eq he hr =>
    rw[List.zip_cons_cons]at e
    injection e with hyx hrest
    injection hyx with hy hx
    subst hy hx;simp only[List.length_cons]at c
    refine wpAny_bind (he f w _ _ ?_)
    wp_walk
    exact⟨rfl,rfl,_,_,hrest,by omega,hr⟩
   | ne he hr =>
    rw[List.zip_cons_cons]at e
    injection e with hyx hrest
    injection hyx with hy hx
    subst hy hx
    refine wpAny_bind (he f w _ _ ?_)
    have hri:∀(E:Value->Shared->Prop) (Q:Value->Shared->Prop),Q (.bool r) ⟨hp,g,d,tk,os⟩->wpAny (model f w) A.in1 (richCompare .Gt y x) Q E ⟨hp,g,d,tk,os⟩:=hr f w
    wp_walk using hri
    exact⟨_,rfl,by simpa using h⟩
  case fin =>
   rintro⟨b1,b2⟩ s' ⟨hb',rfl,vs,ws,e,c,hR⟩
   simp only at hb';subst hb'
   have hv:r=decide (a.size<items.size):=by
    cases hR with
    | nn=>exact(decide_eq_false (by simp only[List.length_nil]at c;omega)).symm
    | nc=>simp only[List.length_nil,List.length_cons]at c;exact(decide_eq_false (by omega)).symm
    | cn=>simp only[List.length_nil,List.length_cons]at c;exact(decide_eq_true (by omega)).symm
    | eq=>rw[List.zip_cons_cons]at e;cases e
    | ne=>rw[List.zip_cons_cons]at e;cases e
   rw[hv]at h
   wp_walk
   exact⟨_,rfl,by simpa[Builtin.Tuple.tupleCompareSizes] using h⟩
  case h =>
   exact⟨rfl,rfl,items.toList,a.toList,rfl,by simp;omega,hx⟩
end
theorem Bd0       (hl:s.heap.IsTuple l items) (hb:s.heap.IsTuple b a) (hx:Ro f A.in1 s items.toList a.toList r) (hu:A.units<cLine):Bd2 f A s (.ref l) (.ref b) r:=by
 intro m w E Q h;obtain⟨⟨o,y,k,v⟩,d,p,n,u⟩:=id hl;obtain⟨⟨j,t,g,q⟩,c,i,z,e⟩:=id hb;subst p u i e
 cases f with
 | false =>
  exact richCompare_meets_room  ⟨_,d,rfl⟩ ⟨_,c,rfl⟩ PySem.F.slot_tuple_lt PySem.F.entry_tuple_lt (PySem.F.args_tuple_lt_2 _ _) (W7 l b _ _ n _ _ _ _ _ r)
   ⟨d,c,hx,show Value.bool r≠Value.notImplemented/\Q _ s from ⟨(fun x=>nomatch x),h⟩⟩ hu
 | true =>
  exact richCompare_meets_room  ⟨_,d,rfl⟩ ⟨_,c,rfl⟩ PySem.F.slot_tuple_gt PySem.F.entry_tuple_gt (PySem.F.args_tuple_gt_2 _ _) (X5 l b _ _ n _ _ _ _ _ r)
   ⟨d,c,hx,show Value.bool r≠Value.notImplemented/\Q _ s from ⟨(fun x=>nomatch x),h⟩⟩ hu
mutual
theorem Ze (gt:Bool):∀(da db:PyData) (A:Around) (s:Shared) (a b:Value) (as bs:List Addr) (r:Bool),Reads s.heap a da as->Reads s.heap b db bs->da.canLay0=true->db.canLay0=true->A.units+da.depth<cLine->Rk gt da db=some r->Bd2 gt A s a b r
 | .int i,db,A,s,a,b,as,bs,r,ra,rb,ca,cb,hu,h=>by
  cases db with
  | int j =>
   cases ra
   cases rb
   cases h
   intro prog w E Q q
   cases gt with
   | false=>exact(PyProof.Rows.lt_int q:wpAny (model prog w) A (compareOp .Lt _ _) Q E s)
   | true=>exact(PyProof.Rows.gt_int q:wpAny (model prog w) A (compareOp .Gt _ _) Q E s)
  | _=>cases h
 | .str i,db,A,s,a,b,as,bs,r,ra,rb,ca,cb,hu,h=>by
  cases db with
  | str j =>
   cases ra
   cases rb
   cases h
   intro prog w E Q q
   cases gt with
   | false=>exact(PyProof.Rows.lt_str q:wpAny (model prog w) A (compareOp .Lt _ _) Q E s)
   | true=>exact(PySem.P.gt_str q:wpAny (model prog w) A (compareOp .Gt _ _) Q E s)
  | _=>cases h
 | .tuple xs,db,A,s,a,b,as,bs,r,ra,rb,ca,cb,hu,h=>by
  cases db with
  | tuple ys =>
   cases ra with
   | tuple h1 h2 h3 h4 =>
    cases rb with
    | tuple g1 g2 g3 g4 =>
     have hu':A.units+(PyData.depthAll xs+1)<cLine:=hu
     exact Bd0 ⟨_,h1,h2,_,h3⟩ ⟨_,g1,g2,_,g3⟩ (A0k gt xs ys A.in1 s _ _ _ _ r h4 g4 ca cb (by show A.units+1+PyData.depthAll xs<cLine;omega) h) (by omega)
  | _=>cases h
 | .none,db,A,s,a,b,as,bs,r,ra,rb,ca,cb,hu,h=>by cases db <;> cases h
 | .bool _,db,A,s,a,b,as,bs,r,ra,rb,ca,cb,hu,h=>by cases db <;> cases h
 | .list _,db,A,s,a,b,as,bs,r,ra,rb,ca,cb,hu,h=>by cases db <;> cases h
 | .dict _,db,A,s,a,b,as,bs,r,ra,rb,ca,cb,hu,h=>by cases db <;> cases h
theorem A0k (gt:Bool):∀(xs ys:List PyData) (A:Around) (s:Shared) (vs ws:List Value) (as bs:List Addr) (r:Bool),ReadsAll s.heap vs xs as->ReadsAll s.heap ws ys bs->PyData.canLayAll0 xs=true->PyData.canLayAll0 ys=true->A.units+PyData.depthAll xs<cLine->A6q gt xs ys=some r->Ro gt A s vs ws r
 | [],[],A,s,vs,ws,as,bs,r,ra,rb,ca,cb,hu,h=>by cases ra;cases rb;cases h;exact .nn
 | [],y::ys,A,s,vs,ws,as,bs,r,ra,rb,ca,cb,hu,h=>by cases ra;cases rb;cases h;exact .nc
 | x::xs,[],A,s,vs,ws,as,bs,r,ra,rb,ca,cb,hu,h=>by cases ra;cases rb;cases h;exact .cn
 | x::xs,y::ys,A,s,vs,ws,as,bs,r,ra,rb,ca,cb,hu,h=>by
  cases ra with
  | cons r1 r2 =>
   cases rb with
   | cons q1 q2 =>
    have ca':=Bool.and_eq_true_iff.mp ca;have cb':=Bool.and_eq_true_iff.mp cb;have hu':A.units+max x.depth (PyData.depthAll xs)<cLine:=hu
    have e:=SeqAt.eqAt_reads x y A s _ _ _ _ r1 q1 ca'.1 cb'.1 (by omega)
    rw[A6q]at h
    by_cases he:PyData.eqv x y=true
    ·rw[if_pos he]at h
     rw[he]at e
     exact .eq e (A0k gt xs ys A s _ _ _ _ r r2 q2 ca'.2 cb'.2 (by omega) h)
    ·rw[if_neg he]at h
     rw[Bool.not_eq_true _ |>.mp he]at e
     exact .ne e (Ze gt x y A s _ _ _ _ r r1 q1 ca'.1 cb'.1 (by omega) h)
end
section
variable {X:Cx}
theorem Bo1 (hu:X.A.units+64<cLine):OpR X (compareOp .Lt) (fun x y H Q=>∃a b r,Tr H a x/\Tr H b y/\Flat a/\Flat b/\Rk false a b=some r/\Q (.bl r) H):=by
 intro c s o H x y v u Q I i l h;obtain⟨a,b,r,j,k,d,g,e,q⟩:=h;obtain⟨n,m⟩:=j.reads I i;obtain⟨p,f⟩:=k.reads I l
 exact(Ze _ _ _ X.A s v u _ _ r m f d.1 g.1 (by have:=d.2;omega) e _ _ _ (EP X _ _ Q) ⟨.bl _,H,I,rfl,q⟩)
end
def Aq8 (H:Hp):V->Option Nat
 | .ref p=>match H p with
  | some (.lst xs)=>some xs.length
  | some (.tup xs)=>some xs.length
  | _=>none
 | .str z=>if z.length<=sizeLine then some z.length else none
 | _=>none
def rAppF:V->List V->Hp->VK->Prop:=fun x vs H Q=>∃l y xs,x=.ref l/\vs=[y]/\H l=some (.lst xs)/\xs.length<sizeLine/\Q .non (upd H l (.lst (xs++[y])))
def Bi0 (K:PySem.W.Frag)(tl:TE):TI:=fun σ H R=>tl σ H fun x H1=>∃a,x=.ref a/\((∃xs,H1 a=some (.lst xs)/\R (Itl K a) H1)\/(∃xs,H1 a=some (.tup xs)/\R (Itt K a) H1))
section
variable {X:Cx}
theorem Aq4:CallR X (.builtin "len") (fun xs H Q=>∃x n,xs=[x]/\Aq8 H x=some n/\Q (.int (n:Nat)) H):=by
 intro a s σ H xs us Q I r h;obtain⟨x,n,rfl,e,q⟩:=h
 refine Zz _ s _ H _ _ Q I r ⟨x,n,rfl,?_,q⟩
 cases x with
 | ref p =>
  have e:(match H p with | some (.lst _)=>some _ | some (.tup _)=>some _ | _=>none)=some n:=e
  cases hp:H p with
  | none=>simp_all
  | some o =>
   rw[hp]at e
   cases o with
   | lst xs=>cases e;exact .inl ⟨xs,SqL.of hp,rfl⟩
   | tup xs=>cases e;exact .inr ⟨xs,SqT.of hp,rfl⟩
   | _=>grind
 | str z =>
  have e:(if z.length<=sizeLine then some _ else none)=some n:=e
  split at e
  ·cases e;trivial
  trivial
 | _=>cases e
theorem A6f:MtM X "list.append" rAppF:=by
 intro a s j H x k v m Q I e f h;obtain⟨l,y,d,c,g,i,b,q⟩:=h;exact Av8 _ s _ H x _ v _ Q I e f ⟨l,d,y,c,g,i,b,q⟩
theorem Bo5   (hl:PE X l j):PI X u l (Bi0 X.K j):=by
 intro k s z H R I h
 refine thn (hl _ s _ H _ I h) fun v d ⟨x,m,c,r,f⟩=>?_
 obtain⟨a,e,f⟩:=f;subst e
 cases r
 rcases f with ⟨t,i,q⟩ | ⟨t,i,q⟩
 ·obtain⟨g,w,p,y⟩:=c.list (SqL.of i)
  refine wpAny_pyIter_list p.isList ?_
  refine⟨d.heap.objs.size,[d.heap.objs.size],_,_,m,rfl,c.kept  fun b o e=>Heap.get?_push_of_some _ e,At8 a _,⟨_,Heap.get?_push_size _ rfl,rfl,rfl⟩,fun b n=>?_,q⟩
  have e:b=d.heap.objs.size:=by grind
  subst e;exact c.fpOk (Nat.le_refl _) (c.hok.fresh (Nat.le_refl _))
 ·obtain⟨g,w,p,y⟩:=c.tuple (SqT.of i)
  refine wpAny_pyIter_tuple (show d.heap.IsTuple a _ from p) ?_
  refine⟨d.heap.objs.size,[d.heap.objs.size],_,_,m,rfl,c.kept  fun b o e=>Heap.get?_push_of_some _ e,Ah1 a _,⟨_,Heap.get?_push_size _ rfl,rfl,rfl⟩,fun b n=>?_,q⟩
  have e:b=d.heap.objs.size:=by grind
  subst e;exact c.fpOk (Nat.le_refl _) (c.hok.fresh (Nat.le_refl _))
def Ko (t:String):List String->Option Bool
 | []=>some false
 | T::r=>match Eh t T with
  | some true=>some true
  | some false=>Ko t r
  | none=>none
theorem Up {K:PySem.W.Frag}{t:String}:∀{Ts:List String}{b:Bool},Ko t Ts=some b->PySem.W.kitAny K (.type t) (Ts.map Value.type)=some b
 | [],b,h=>h
 | T::r,b,h=>by
  have h:(match Eh t T with | some true=>some true | some false=>Ko t r | none=>none)=some b:=h
  show (match PySem.W.kitOne K (.type t) (.type T) with | some true=>some true | some false=>PySem.W.kitAny K (.type t) (r.map Value.type) | none=>none)=some b
  cases e:Eh t T with
  | none=>rw[e]at h;cases h
  | some k =>
   rw[e]at h;rw[Y6 e]
   cases k with
   | true=>exact h
   | false=>exact Up h
theorem Zu:∀{Ts:List String}{us:List Value},Vals (Ts.map V.ty) us->us=Ts.map Value.type
 | [],_,.nil=>rfl
 | T::r,_,.cons h t=>by
  cases (show _=Value.type T from h)
  rw[Zu t]
  rfl
theorem Ax5:CallR X (.builtin "isinstance") (fun xs H Q=>∃x p a t b,xs=[x,.ref p]/\H p=some (.tup (a.map V.ty))/\Mz H x=some t/\Ko t a=some b/\Q (.bl b) H):=by
 intro e s σ H xs us Q I r h;obtain⟨x,p,a,t,b,rfl,d,E,j,q⟩:=h;obtain⟨u,v,rfl,k,l⟩:=Vals.two r
 cases (l)
 obtain⟨z,m,w,o,y,A,⟨n,B⟩,C⟩:=I.hok p _ d;have D:=Zu w;subst D;obtain⟨F,dd,f,sl⟩:=o;subst A B
 have c:∀g,EP X _ _ Q _ { s with toks:=g }:=fun g=>⟨.bl b,H,I.tok _,rfl,q⟩
 obtain⟨d,z,p,i⟩:=A3h I k E;exact PySem.W.kia_tup z I.kIn p y (Up  j) i c
end
theorem Be4:bootBuiltins "len" = some (.builtin "len"):=by decide +kernel
theorem Bi7:bootBuiltins "abs" = some (.builtin "abs"):=by decide +kernel
theorem G5:bootBuiltins "isinstance" = some (.builtin "isinstance"):=by decide +kernel
theorem Bh5:bootBuiltins "any" = some (.builtin "any"):=by decide +kernel
theorem Bp5:bootBuiltins "all" = some (.builtin "all"):=by decide +kernel
theorem Bj9:bootBuiltins "min" = some (.builtin "min"):=by decide +kernel
theorem Ag7:bootBuiltins "int" = some (.type "int"):=by decide +kernel
theorem S9:bootBuiltins "str" = some (.type "str"):=by decide +kernel
theorem Xg:bootBuiltins "bool" = some (.type "bool"):=by decide +kernel
theorem Oo:bootBuiltins "list" = some (.type "list"):=by decide +kernel
theorem N5:bootBuiltins "tuple" = some (.type "tuple"):=by decide +kernel
theorem Ej {X:Cx}{N':List Str}{idx:List (Option Nat)}{scope:Scope}(h1:scope.kind=.function)(h2:(0:Nat)=0)(h3:(scope.names.map (·.1)).Nodup)
 (h4:(scope.names.all fun y=>decide (y.2≠.free)||decide (X.env.kindOf y.1=some .cell)||decide (X.env.kindOf y.1=some .free))=true) (h5:idx.length=N'.length)
 (h6:((idx.zip N').all fun p=>match p.1 with | none=>true | some i=>decide (X.N[i]?=some p.2)&&decide (scope.names.lookup p.2=some .free))=true):Fj X N' idx scope where
 kind:=h1
 nod:=h3
 free:=fun y hy hf=>by
  have h:=List.all_eq_true.mp h4 y hy;simp only[Bool.or_eq_true,decide_eq_true_eq]at h
  rcases h with (h | h) | h
  ·exact absurd hf h
  ·exact .inl h
  ·exact .inr h
 len:=h5
 at':=fun j i x e1 e2=>by
  have hz:(some i,x)∈idx.zip N':=by
   have:(idx.zip N')[j]?=some (some i,x):=by simp[List.getElem?_zip_eq_some,e1,e2]
   exact List.mem_of_getElem? this
  have h:=List.all_eq_true.mp h6 _ hz;simp only[Bool.and_eq_true,decide_eq_true_eq]at h;exact h
def T6:Expr->Option V
 | .Constant (.int i) _ _=>some (.int i)
 | .Constant (.str x) _ _=>some (.str x)
 | .Constant (.bool b) _ _=>some (.bl b)
 | .Constant .none _ _=>some .non
 | _=>none
def Pn:List Expr->Option (List V)
 | []=>some []
 | e::es=>match T6 e,Pn es with
  | some v,some vs=>some (v::vs)
  | _,_=>none
def tK (vs:List V):TA:=fun _ H Q=>Q vs H
theorem A2l    (h:T6 e=some v):PE X e (tC v)/\∀es,starEach (e::es) X.env=(false,eval e X.env)::starEach es X.env:=by
 unfold T6 at h
 split at h <;> first
  | (cases h;exact⟨A1z,fun _=>rfl⟩)
  | (cases h;exact⟨A2j,fun _=>rfl⟩)
  | (cases h;exact⟨Ba8,fun _=>rfl⟩)
  | (cases h;exact⟨A0g,fun _=>rfl⟩)
  | cases h
theorem Wh {X:Cx}:∀{es:List Expr}{vs:List V},Pn es=some vs->PA X es (tK vs)
 | [],vs,h=>by cases h;exact Wt
 | e::es,vs,h=>by
  have h:(match T6 e,Pn es with | some v,some vs=>some (v::vs) | _,_=>none)=some vs:=h
  cases e1:T6 e with
  | none=>rw[e1]at h;cases h
  | some v =>
   cases e2:Pn es with
   | none=>rw[e1,e2]at h;cases h
   | some r =>
    rw[e1,e2]at h
    cases h
    obtain⟨p1,p2⟩:=A2l (X:=X) e1;exact An4 p1 (Wh e2) (p2 es)
def isStar:Expr->Bool
 | .Starred ..=>true
 | _=>false
def noStar:List Expr->Bool
 | []=>true
 | e::es=>!isStar e&&noStar es
theorem Hk    (h:isStar e=false):starEach (e::es) env=(false,eval e env)::starEach es env:=by
 cases e <;> first | rfl | cases h
theorem Ke {pos:Pos}{env:Env}:∀{es:List Expr},noStar es=true->(backTo pos (starEach es env)).any (·.1)=false
 | [],_=>rfl
 | e::es,h=>by
  obtain⟨h1,h2⟩:=Bool.and_eq_true_iff.mp h
  rw[Hk (by simpa using h1)]
  show (false||(backTo pos (starEach es env)).any (·.1))=false
  rw[Ke h2]
  rfl
theorem Fw   (h:noStar (e::es)=true):isStar e=false/\noStar es=true:=by
 obtain⟨b,a⟩:=Bool.and_eq_true_iff.mp h
 simp_all
section
variable {X:Cx}{CX:CXT}{k:Nat}{f:Addr}{fd:FuncData}{ps:List Str}{sp:Sp}{dvs:List V}{ds:List Value}{E:XK}{x:Str}{p pos:Pos}{e:Expr}{es:List Expr}{te:TE}{t:TA}{id T:String}{r:List V->Hp->VK->Prop}
theorem Bm9 (ha:PE X e te)(hr:PA X es t)(hs:isStar e=false:=by rfl):PA X (e::es) (Cy te t):=An4 ha hr (Hk hs)
theorem A4m (F:FnOk X.prog X.w X.K X.mg X.base CX k f fd ps sp)(hr:Room k X.A)(hg:Gl X x)(hm:X.mg x=some (.ref f))(hk:PySem.W.keepIn X.K (.ref f)=true)(hb:Binds X.K fd ps ds)(hd:Vals dvs ds)(hx:Gm CX X E)
 (ha:PA X (e::es) t) (hdb:(x==("__debug__" : Str))=false:=by decide) (hn:noStar (e::es)=true:=by rfl):PE X (.Call (.Name x p) (e::es) [] pos) (Kv sp dvs E t) :=
 A9t F hr hg hm hk hb hd hx ha hdb (Hk (Fw hn).1) (Ke (Fw hn).2)
theorem Ex (hc:CallR X (.builtin id) r)(hg:Gl X x)(hm:X.mg x=none)(hv:bootBuiltins x=some (.builtin id))(ha:PA X (e::es) t)(hn:x ≠ "__name__" := by decide) (hdb:(x==("__debug__" : Str))=false:=by decide)
 (hns:noStar (e::es)=true:=by rfl):PE X (.Call (.Name x p) (e::es) [] pos) (tCB r t):=A5j hc hg hm hv ha hn hdb (Hk (Fw hns).1) (Ke (Fw hns).2)
theorem Ni (hc:CallR X (.type T) r)(hg:Gl X x)(hm:X.mg x=none)(hv:bootBuiltins x=some (.type T))(ha:PA X (e::es) t)(hn:x ≠ "__name__" := by decide) (hdb:(x==("__debug__" : Str))=false:=by decide)
 (hns:noStar (e::es)=true:=by rfl):PE X (.Call (.Name x p) (e::es) [] pos) (tCB r t):=As6 hc hg hm hv ha hn hdb (Hk (Fw hns).1) (Ke (Fw hns).2)
end
section
variable {X:Cx}{a b e:Expr}{es:List Expr}{ta tb te:TE}{t:TA}{p pos apos cpos:Pos}{p2:Pos}
theorem Ek   {b:List Keyword}{a:Pos}:Mm (.Call f args b a):=fun _ _=>rfl
theorem Nq  {a:Pos}:Mm (.Name x a):=fun _ _=>rfl
theorem Bj   {a:Pos}:Mm (.Constant (.int i) j a):=fun _ _=>rfl
theorem As8 (ha:PE X a ta)(hb:PE X b tb):PE X (.BinOp a .Sub b pos) (tOp (rI0 fun i j=>.int (i-j)) ta tb):=V9 Bn4 ha hb
theorem As9 (ha:PE X a ta)(hb:PE X b tb):PE X (.BinOp a .Mult b pos) (tOp (rI CMul fun i j=>.int (i*j)) ta tb):=V9 Bp6 ha hb
theorem Ae9 (ha:PE X a ta)(hb:PE X b tb):PE X (.BinOp a .FloorDiv b pos) (tOp (rI A2t fun i j=>.int (i / j)) ta tb):=V9 A7z ha hb
theorem Au7 (ha:PE X a ta)(hb:PE X b tb):PE X (.BinOp a .Mod b pos) (tOp (rI (fun _ j=>0<j) fun i j=>.int (i % j)) ta tb):=V9 Bo4 ha hb
theorem Ax3 (ha:PE X a ta)(hb:PE X b tb):PE X (.BinOp a .Pow b pos) (tOp (rI A0r fun i j=>.int (i ^ j.toNat)) ta tb):=V9 Bf3 ha hb
def Bw9:R2:=fun x y H Q=>∃da db,Tr H da x/\Tr H db y/\Flat da/\Flat db/\Q (.bl (PyData.eqv da db)) H
def Bw7:R2:=fun x y H Q=>∃da db,Tr H da x/\Tr H db y/\Flat da/\Flat db/\Q (.bl (!PyData.eqv da db)) H
def Bi4:R2:=fun x y H Q=>∃da db r,Tr H da x/\Tr H db y/\Flat da/\Flat db/\Rk false da db=some r/\Q (.bl r) H
theorem A4h (ha:PE X a ta)(hb:PE X b tb):PT X (.Compare a [.Lt] [b] pos) (Ij (tOp (rI0 fun i j=>.bl (decide (i<j))) ta tb)):=Iu Bq5 ha hb (Jm _)
theorem A0e (ha:PE X a ta)(hb:PE X b tb):PT X (.Compare a [.Gt] [b] pos) (Ij (tOp (rI0 fun i j=>.bl (decide (j<i))) ta tb)):=Iu Bw2 ha hb (Jm _)
theorem A2x (ha:PE X a ta)(hb:PE X b tb):PE X (.Compare a [.GtE] [b] pos) (tOp (rI0 fun i j=>.bl (decide (j<=i))) ta tb):=Ov Bu6 ha hb (Jm _)
theorem Az0 (ha:PE X a ta)(hb:PE X b tb):PT X (.Compare a [.Is] [b] pos) (Ij (tOp (fun x y H Q=>y=.non/\Q (.bl (decide (x=.non))) H) ta tb)):=Iu Bh6 ha hb (Jm _)
theorem Ae3 (ha:PE X a ta)(hb:PE X b tb):PT X (.Compare a [.IsNot] [b] pos) (Ij (tOp (fun x y H Q=>y=.non/\Q (.bl (!decide (x=.non))) H) ta tb)):=Iu A9c ha hb (Jm _)
theorem At1 (hu:X.A.units+64<cLine)(ha:PE X a ta)(hb:PE X b tb):PE X (.Compare a [.Lt] [b] pos) (tOp (Bi4) ta tb):=Ov (Bo1 hu) ha hb (Jm _)
theorem Be7 (ha:PE X a ta):PE X (.UnaryOp .USub a pos) (tUn (rU fun i=>.int (-i)) ta):=Bv3 Bg9 ha
def Qz (K:PySem.W.Frag):List V->Hp->VK->Prop:=fun xs H Q=>∃x n,xs=[x]/\Aq8 H x=some n/\Q (.int (n:Nat)) H
def Ad0 (K:PySem.W.Frag):List V->Hp->VK->Prop:=fun xs H Q=>∃x n,xs=[x]/\Bs8 K x H n/\Q (.int n) H
def Nj (K:PySem.W.Frag):List V->Hp->VK->Prop:=fun xs H Q=>∃i,xs=[.int i]/\Q (.int (if i<0 then -i else i)) H
theorem Zo (hgl:Gl X "abs") (hm:X.mg "abs" = none) (ha:PA X (e::es) t) (hns:noStar (e::es)=true:=by rfl):PE X (.Call (.Name "abs" p) (e::es) [] pos) (tCB (Nj X.K) t):=Ex A1l hgl hm Bi7 ha (by decide) (by rfl) hns
def Nf (K:PySem.W.Frag):List V->Hp->VK->Prop:=fun xs H Q=>∃x T t b,xs=[x,.ty T]/\Mz H x=some t/\Eh t T=some b/\Q (.bl b) H
theorem Zq (hgl:Gl X "isinstance") (hm:X.mg "isinstance" = none) (ha:PA X (e::es) t) (hns:noStar (e::es)=true:=by rfl):PE X (.Call (.Name "isinstance" p) (e::es) [] pos) (tCB (Nf X.K) t):=Ex Az6 hgl hm G5 ha (by decide) (by rfl) hns
def Iw (K:PySem.W.Frag):List V->Hp->VK->Prop:=fun xs H Q=>∃x p Ts t b,xs=[x,.ref p]/\H p=some (.tup (Ts.map V.ty))/\Mz H x=some t/\Ko t Ts=some b/\Q (.bl b) H
theorem X7 (hgl:Gl X "isinstance") (hm:X.mg "isinstance" = none) (ha:PA X (e::es) t) (hns:noStar (e::es)=true:=by rfl):PE X (.Call (.Name "isinstance" p) (e::es) [] pos) (tCB (Iw X.K) t):=Ex Ax5 hgl hm G5 ha (by decide) (by rfl) hns
def Li (K:PySem.W.Frag):List V->Hp->VK->Prop:=fun xs H Q=>∃(a:Addr) (bs:List Bool),xs=[.ref a]/\SqL K H a (bs.map V.bl)/\Q (.bl (bs.any id)) H
theorem Yg (hc:X.calm=true)(hgl:Gl X "any") (hm:X.mg "any" = none) (ha:PA X (e::es) t) (hns:noStar (e::es)=true:=by rfl):PE X (.Call (.Name "any" p) (e::es) [] pos) (tCB (Li X.K) t):=Ex (Ax4 hc) hgl hm Bh5 ha (by decide) (by rfl) hns
def Lf (K:PySem.W.Frag):List V->Hp->VK->Prop:=fun xs H Q=>∃(a:Addr) (bs:List Bool),xs=[.ref a]/\SqL K H a (bs.map V.bl)/\Q (.bl (bs.all id)) H
theorem Yb (hc:X.calm=true)(hgl:Gl X "all") (hm:X.mg "all" = none) (ha:PA X (e::es) t) (hns:noStar (e::es)=true:=by rfl):PE X (.Call (.Name "all" p) (e::es) [] pos) (tCB (Lf X.K) t):=Ex (Ay7 hc) hgl hm Bp5 ha (by decide) (by rfl) hns
def Lq (K:PySem.W.Frag):List V->Hp->VK->Prop:=fun xs H Q=>(∃i,xs=[.int i]/\Q (.int i) H)\/∃k,xs=[.bl k]/\Q (.int (if k then 1 else 0)) H
theorem Xz (hgl:Gl X "int") (hm:X.mg "int" = none) (ha:PA X (e::es) t) (hns:noStar (e::es)=true:=by rfl):PE X (.Call (.Name "int" p) (e::es) [] pos) (tCB (Lq X.K) t):=Ni Av9 hgl hm Ag7 ha (by decide) (by rfl) hns
def Te (K:PySem.W.Frag):List V->Hp->VK->Prop:=fun xs H Q=>∃i:Int,xs=[.int i]/\i.natAbs.log2<1920/\Q (.str (toString i)) H
def Za (K:PySem.W.Frag):List V->Hp->VK->Prop:=fun xs H Q=>∃a d,xs=[.ref a]/\Tr H d (.ref a)/\d.showable=true/\d.hasDict=false/\d.depth<=40/\d.shown.length<=sizeLine/\Q (.str d.shown) H
def Hb (K:PySem.W.Frag):List V->Hp->VK->Prop:=fun xs H Q=>∃p ys,xs=[.ref p]/\((SqL K H p ys/\∀l,H l=none->Q (.ref l) (upd H l (.tup ys)))\/(SqT K H p ys/\Q (.ref p) H))
theorem Pz (hgl:Gl X "tuple") (hm:X.mg "tuple" = none) (ha:PA X (e::es) t) (hns:noStar (e::es)=true:=by rfl):PE X (.Call (.Name "tuple" p) (e::es) [] pos) (tCB (Hb X.K) t):=Ni U9 hgl hm N5 ha (by decide) (by rfl) hns
def Lx (K:PySem.W.Frag):List V->Hp->VK->Prop:=fun xs H Q=>∃i j,xs=[.int i,.int j]/\Q (.int (if j<i then j else i)) H
theorem Xd (hc:X.calm=true)(hgl:Gl X "min") (hm:X.mg "min" = none) (ha:PA X (e::es) t) (hns:noStar (e::es)=true:=by rfl):PE X (.Call (.Name "min" p) (e::es) [] pos) (tCB (Lx X.K) t):=Ex (Aq1 hc) hgl hm Bj9 ha (by decide) (by rfl) hns
theorem Ar4 (ho:PE X a ta)(hv:PE X e te)(hbase:attributeBase a "append" X.env (eval a X.env)=eval a X.env:=by rfl)
 (hfew:((backTo cpos (starEach [e] X.env)).all (fun x=>!x.1)&&(backToKw cpos (keywordEach [] X.env)).all (fun x=>x.1.isSome)
  && decide ([e].length+([]:List Keyword).length+(if ([]:List Keyword).isEmpty then 0 else 1)<30))=true:=by rfl)
 (hline:(apos.endLine==cpos.line)=true:=by rfl) (hns:isStar e=false:=by rfl) :
 PE X (.Call (.Attribute a "append" apos) [e] [] cpos) (tBM X.K "list" rAppF ta (Cy te Gx)) :=
 Bb4 PySem.F.plainAttrs_list PySem.F.slot_list_append PySem.F.type_list_append A6f ho (Bm9 hv Wt hns) hbase hfew hline (Hk hns) rfl
end
def Rm {α:Type}[DecidableEq α](ks:List α)(k:α):Bool:=ks.any fun x=>decide (x=k)
theorem memB_snoc  [DecidableEq b] {ks:List b}{k a:b}:Rm (ks++[k]) a=(Rm ks a||decide (a=k)):=by
 unfold Rm
 grind
def Aa7 {α:Type}[DecidableEq α](acc:List α)(x:α):List α:=if Rm acc x=true then acc else acc++[x]
def dst {α:Type}[DecidableEq α](xs:List α):List α:=xs.foldl Aa7 []
theorem Aa3  [DecidableEq a] (xs:List a) (x:a):dst (xs++[x])=Aa7 (dst xs) x:=by
 unfold dst;grind
theorem Ap0 {α:Type}[DecidableEq α]:∀(n:Nat) (xs:List α),xs.length=n->(dst xs).length<=n
 | 0,xs,h=>by cases xs with | nil=>exact Nat.le_refl _ | cons a r=>cases h
 | n+1,xs,h=>by
  rcases List.eq_nil_or_concat xs with rfl | ⟨ys,y,rfl⟩
  ·cases h
  ·rw[List.concat_eq_append]at h ⊢
   have hy:ys.length=n:=by simpa using h
   have ih:=Ap0 n ys hy;rw[Aa3];unfold Aa7;split
   ·omega
   ·simp;omega
def Ai9 (P:Program)(w:World)(a:Addr)(ks:List Key)(h:Heap):Prop:=h.SetOf (Fi P w) a (Rm ks) ks.length
theorem Wb      (hs:Ai9 P w a ks h) (k:∀o,h.get? a=some o->h'.get? a=some o):Ai9 P w a ks h':=by
 obtain⟨o,c,d,t,e,b⟩:=hs;exact⟨o,c,d,t,k o e,b⟩
theorem Au4      
 (x:h.SetOf (Fi P w) a (fun b=>Rm ks b||decide (b=k)) (if Rm ks k then ks.length else ks.length+1)):Ai9 P w a (Aa7 ks k) h:=by
 unfold Ai9 Aa7
 by_cases hk:Rm ks k=true
 ·have e:(fun b=>Rm ks b||decide (b=k))=Rm ks:=by
   grind
  simp_all
 ·have e:(fun b=>Rm ks b||decide (b=k))=Rm (ks++[k]):=by
   funext b
   exact memB_snoc.symm
  simp_all
section
variable {P:Program}{w:World}{A:Around}
theorem fill        (W:WalksS P w A.in1 J fp h j n Pv E) (p:S∉fp)
 (ks:List Key) (g:ks.length=n) (is:∀i v,Pv i v->∃k,ks[i]?=some k/\Ur k v=true/\v.scannable=true) (Q:n+1<scanBound) (z:Shared)
 (G:∀s,Moved (S::h) j z s->Ai9 P w S (dst ks) s.heap->R (.ok (.ret .none)) s) :
 ∀(m i:Nat) (s:Shared),i+m=n->E i s->Moved (S::h) j z s->Ai9 P w S (dst (ks.take i)) s.heap->codeAny (model P w) A (.builtin "set.update.loop" ⟨[.ref S,.ref J],[]⟩) R s:=by
 have c:S∉h:=fun q=>p (W.sub S q)
 have f:∀b,b∈h->b∈S::h:=fun b q=>.tail _ q
 intro m
 induction m with
 | zero =>
  intro i s e K D r;have e:i=n:=e;subst e;apply codeAny_builtin PyProof.Rows.F.entry_set_update_loop;rw[Around.under_plainId PyProof.Rows.F.plain_set_update_loop _];apply wpAny_bind (m:=pyNext (.ref J));apply W.done s _ _ K;intro d a;apply wpAny_pure
  refine G d (Moved.trans W.gtrans D (a.mono f)) ?_
  have t:ks.take i=ks:=by rw[<- g];exact List.take_length
  rw[t]at r
  exact Wb r fun o q=>a.heap S o c q
 | succ m ih =>
  intro i s e K D r
  have V:i<n:=by omega
  apply codeAny_builtin PyProof.Rows.F.entry_set_update_loop;rw[Around.under_plainId PyProof.Rows.F.plain_set_update_loop _];apply wpAny_bind (m:=pyNext (.ref J));apply W.item i s _ _ V K;intro v d Z F a;obtain⟨k,U,O,X⟩:=is i v Z;have H:Moved (S::h) j z d:=Moved.trans W.gtrans D (a.mono f)
  show wpAny _ A.in1 (holding [v] (setAdd S v) >>= _) _ _ d
  apply wpAny_bind;apply wpAny_holding;unfold setAdd;apply wpAny_holding;apply wpAny_bind
  refine (Fi P w).pyHash (k:=k) O ?_
  have l:(dst (ks.take i)).length+1<scanBound:=by
   have:=Ap0 _ (ks.take i) rfl
   have:(ks.take i).length<=n:=by rw[<- g];exact List.length_take_le' _ _
   omega
  have tk:ks.take (i+1)=ks.take i++[k]:=by rw[List.take_add_one,U];rfl
  have T:∀(B:Nat),d.toks<=B->wpAny (model P w) A.in1 (setAddHashed S v ((Fi P w).hash k)) (fun _ u=>Moved (S::h) j z u/\Ai9 P w S (dst (ks.take (i+1))) u.heap/\E (i+1) u) (fun _ _=>False) { d with toks:=B }:=by
   intro B N
   refine wpAny_setAddHashed_of (knd:=Fi P w) (s:={ d with toks:=B }) O X (Wb r fun o q=>a.heap S o c q) l fun Y M so=>?_
   refine⟨Moved.then_heap H N fun b o q x=>?_,?_,W.frame (i+1) d Y _ F N fun b q o x=>?_⟩
   ·rw[M.2 b fun y=>q (y▸.head _)];exact x
   ·rw[tk,Aa3];exact Au4 so
   ·rw[M.2 b fun y=>p (y▸q)];exact x
  refine wpAny_mono (T _ (Nat.le_succ _)) (fun b u y=>?_) fun _ _ q=>q.elim
  obtain⟨I,L,C⟩:=y
  exact wpAny_pure ⟨plainId_quiet PyProof.Rows.F.plain_set_update_loop _,ih _ _ (by omega) C I L⟩
abbrev bare (led:Bool):Obj:={ cls:=.type "set",dict:=none,data:=.set #[] 0 (.fresh 0 0 led) }
end
section
variable {P:Program}{w:World}{A:Around}{E:Value->Shared->Prop}{s:Shared}
theorem Q7    (a:s.heap.IsTupleIter j u k)
 (body:wpAny (model P w) A.in1 (Builtin.«tuple_iterator.__next__» ⟨[.ref j],[]⟩) (fun f z=>∃v,f=.done (.ret v)/\Q v z) E s) :
 wpAny (model P w) A (Builtin.SmallTypes.nextOf (.ref j)) Q E s:=by
 apply wpAny_bind
 refine wpAny_callSpecial?_slot  a.typeIs F.slot_tuple_iterator_next ?_
 refine wpAny_call_entry F.slot_tuple_iterator_next a.typeIs F.entry_tuple_iterator_next ?_ (F.args_tuple_iterator_next_1 _)
 refine wpAny_mono body (fun f z c=>?_) fun _ _ q=>q
 obtain⟨v,b,q⟩:=c;exact⟨v,b,wpAny_pure q⟩
theorem Af4      (c:s.heap.IsTupleIter j u k) (g:s.heap.IsTuple u vs) (hx:vs[k]?=some x)
 (q:∀h',h'.IsTupleIter j u (k+1)->Heap.SameBut j s.heap h'->Q x { s with heap:=h' }):wpAny (model P w) A (Builtin.SmallTypes.nextOf (.ref j)) Q E s:=by
 refine Q7 c ?_
 obtain⟨o,d,f,b⟩:=c;obtain⟨i,h,_,n,e⟩:=g;apply wpAny_bind (m:=field _ 0);apply wpAny_field d b  rfl;apply wpAny_bind ;apply wpAny_field d b  rfl;apply wpAny_bind ;apply wpAny_seqItems h e;simp only[hx,Int.toNat_natCast];apply wpAny_bind
 apply wpAny_setField d b (by simp)
 apply wpAny_pure
 refine⟨x,rfl,q _ ⟨_,(Heap.get?_update_self (Obj.mapFields fun a=>a.setIfInBounds 1 (rawInt (k+1))) d (Obj.isFreed_of_fields (Obj.data_mapFields b _))),(Obj.cls_mapFields ..).trans f,?_⟩ (Heap.SameBut.update ..)⟩
 rw[Obj.data_mapFields b]
 trivial
theorem Aq9     (c:A.handled=none) (d:s.heap.IsTupleIter j u k) (h:s.heap.IsTuple u vs) (hx:vs[k]?=none)
 (q:∀h' e,Heap.ExtBut j s.heap h'->(∃o,h'.get? e=some o/\o.cls=.type "StopIteration")->E (.ref e) { s with heap:=h' }):wpAny (model P w) A (Builtin.SmallTypes.nextOf (.ref j)) Q E s:=by
 refine Q7 d ?_
 obtain⟨o,f,r,g⟩:=d;obtain⟨t,i,_,n,l⟩:=h;apply wpAny_bind (m:=field (.ref j) 0);apply wpAny_field f g (x:=.ref u) rfl;have p:¬ ((Value.ref u==Value.none)=true):=Bool.false_ne_true
 show wpAny _ _ (if (Value.ref u==.none)=true then _ else _) _ _ _
 rw[if_neg p];apply wpAny_bind (m:=field (.ref j) 1);apply wpAny_field f g (x:=.int k 0) rfl;apply wpAny_bind (m:=seqItems? (.ref u));apply wpAny_seqItems i l;simp only[hx,Int.toNat_natCast];apply wpAny_bind;apply wpAny_rule;apply wpAny_bind
 apply wpAny_setField f g (by simp)
 apply wpAny_bind (m:=newExc (.type "StopIteration") []);unfold newExc newTuple;apply wpAny_bind
 refine wpAny_newObj_type ?_ (by size_fits )
 apply wpAny_bind (m:=firstArgMember _ _)
 refine wpAny_of_eq (a:=Value.none) (by simp only[firstArgMember];rfl) ?_
 refine wpAny_newObj_type ?_ (by size_fits )
 unfold raiseNew;apply wpAny_bind;apply wpAny_handled;have b:A.in1.handled=none:=c;rw[b]
 refine wpAny_bind (wpAny_pure ?_)
 apply wpAny_throw;exact q _ _ (((Heap.SameBut.update ..).extBut.push _).push _) ⟨_,Heap.get?_push_size _ rfl,rfl⟩
def ItAt (t:Bool)(h:Heap)(j u:Addr)(k:Nat):Prop:=match t with
 | true=>h.IsTupleIter j u k
 | false=>h.IsListIter j u k
def SqA (t:Bool)(h:Heap)(u:Addr)(vs:Array Value):Prop:=match t with
 | true=>h.IsTuple u vs
 | false=>h.IsList u vs
theorem ItAt.stay     (x:ItAt t h j u k) (q:∀o,h.get? j=some o->h'.get? j=some o):ItAt t h' j u k:=by
 cases t <;> (obtain⟨o,e,r⟩:=x;exact⟨o,q o e,r⟩)
theorem ItAt.obj     (x:ItAt t h j u k):∃o,h.get? j=some o/\o.data=.fields #[.ref u,.int k 0]:=by
 cases t <;> (obtain⟨o,e,_,r⟩:=x;grind)
theorem SqA.stay     (x:SqA t h u vs) (q:∀o,h.get? u=some o->h'.get? u=some o):SqA t h' u vs:=by
 cases t <;> (obtain⟨o,e,r⟩:=x;exact⟨o,q o e,r⟩)
theorem next_item       (a:ItAt t s.heap j u k) (b:SqA t s.heap u vs) (hx:vs[k]?=some x)
 (q:∀h',ItAt t h' j u (k+1)->Heap.SameBut j s.heap h'->Q x { s with heap:=h' }):wpAny (model P w) A (Builtin.SmallTypes.nextOf (.ref j)) Q E s:=by
 cases t
 ·exact wpAny_nextOf_list_item a b hx q
 ·exact Af4 a b hx q
theorem next_end      (c:A.handled=none) (a:ItAt t s.heap j u k) (b:SqA t s.heap u vs) (hx:vs[k]?=none)
 (q:∀h' e,Heap.ExtBut j s.heap h'->(∃o,h'.get? e=some o/\o.cls=.type "StopIteration")->E (.ref e) { s with heap:=h' }):wpAny (model P w) A (Builtin.SmallTypes.nextOf (.ref j)) Q E s:=by
 cases t
 ·exact wpAny_nextOf_list_end c a b hx q
 ·exact Aq9 c a b hx q
structure Z9 (h:Heap) (t1 t2:Bool) (z ti to i1 i2 a b:Addr) (f0:Value) (k:Nat):Prop where
 zip:IsZip h z ti to f0
 ins:IsPair h ti (.ref i1) (.ref i2)
 outs:∃u v,IsPair h to u v
 one:ItAt t1 h i1 a k
 two:ItAt t2 h i2 b k
structure z9 (z ti to i1 i2 a b:Addr):Prop where
 nd:[z,ti,to,i1,i2].Nodup
 na:a∉[z,ti,to,i1,i2]
 nb:b∉[z,ti,to,i1,i2]
theorem z9.z_ti (x:z9 z ti to i1 i2 a b):ti≠z:=by have:=x.nd;grind
theorem z9.z_to (x:z9 z ti to i1 i2 a b):to≠z:=by have:=x.nd;grind
theorem z9.z_i1 (x:z9 z ti to i1 i2 a b):i1≠z:=by have:=x.nd;grind
theorem z9.z_i2 (x:z9 z ti to i1 i2 a b):i2≠z:=by have:=x.nd;grind
theorem z9.to_i1 (x:z9 z ti to i1 i2 a b):to≠i1:=by have:=x.nd;simp_all
theorem z9.to_i2 (x:z9 z ti to i1 i2 a b):to≠i2:=by have:=x.nd;simp_all
theorem z9.i1_i2 (x:z9 z ti to i1 i2 a b):i1≠i2:=by have:=x.nd;simp_all
theorem z9.ti_to (x:z9 z ti to i1 i2 a b):ti≠to:=by have:=x.nd;simp_all
theorem z9.ti_i1 (x:z9 z ti to i1 i2 a b):ti≠i1:=by have:=x.nd;simp_all
theorem z9.ti_i2 (x:z9 z ti to i1 i2 a b):ti≠i2:=by have:=x.nd;simp_all
theorem A2o      {Q:Value->Shared->Prop}(d:z9 z j h r t a b) (y:Z9 s.heap t1 t2 z j h r t a b .none k)
 (ha:SqA t1 s.heap a xs) (hb:SqA t2 s.heap b ys) (hx:xs[k]?=some x) (O:ys[k]?=some x')
 (q:∀h',Z9 h' t1 t2 z j h r t a b (rawInt s.heap.objs.size) (k+1)->IsPair h' s.heap.objs.size x x'->(∀c o,c∉[z,j,h,r,t]->s.heap.get? c=some o->h'.get? c=some o)->Q (.ref s.heap.objs.size) { s with heap:=h' }) :
 wpAny (model P w) A (Builtin.«zip.__next__» ⟨[.ref z],[]⟩) (fun f z=>∃v,f=.done (.ret v)/\Q v z) E s:=by
 obtain⟨u0,N,o0⟩:=y.outs;have S:=d.na;have I:=d.nb;simp only[List.mem_cons,List.not_mem_nil,or_false,not_or]at S I;apply wpAny_bind (m:=field (.ref z) 2);apply wpAny_field y.zip rfl (x:=.bool false) rfl;apply wpAny_bind (m:=field (.ref z) 3);apply wpAny_field y.zip rfl (x:=.ref j) rfl;apply wpAny_bind;apply wpAny_seqItems y.ins rfl;apply wpAny_bind (m:=Builtin.SmallTypes.ownedTupleIsFree (.ref z));unfold Builtin.SmallTypes.ownedTupleIsFree;apply wpAny_bind;apply wpAny_field y.zip rfl (x:=.none) rfl;apply wpAny_pure;simp only[if_true];apply wpAny_bind;apply wpAny_rule;apply wpAny_bind;apply wpAny_field y.zip rfl (x:=.ref h) rfl;apply wpAny_bind
 apply wpAny_setField_rec y.zip (by simp)
 intro g1 L n;have L:IsZip g1 z j h .ellipsis:=L;apply wpAny_bind;simp only[List.zipIdx_cons,List.zipIdx_nil,List.forIn_cons,List.forIn_nil];apply wpAny_bind;apply wpAny_bind;apply wpAny_onRaise;apply wpAny_bind (m:=Builtin.SmallTypes.nextOf (.ref r))
 refine next_item (y.one.stay fun o e=>n.extBut _ _ d.z_i1 e) (ha.stay fun o e=>n.extBut _ _ S.1 e) hx fun g2 n1 u=>?_
 apply wpAny_pure;have V:IsPair g2 h u0 N:=u.extBut _ _ d.to_i1 (n.extBut _ _ d.z_to o0);apply wpAny_bind;apply wpAny_seqItems V rfl;apply wpAny_bind;apply wpAny_updateSeq_pair V;intro g3 R B;have R:IsPair g3 h x N:=R;apply wpAny_bind;apply wpAny_letGo;apply wpAny_pure;apply wpAny_bind;apply wpAny_bind;apply wpAny_onRaise;apply wpAny_bind (m:=Builtin.SmallTypes.nextOf (.ref t))
 refine next_item (y.two.stay fun o e=>B.extBut _ _ d.to_i2.symm (u.extBut _ _ d.i1_i2.symm (n.extBut _ _ d.z_i2 e))) (hb.stay fun o e=>B.extBut _ _ I.2.2.1 (u.extBut _ _ I.2.2.2.1 (n.extBut _ _ I.1 e))) O fun g4 n2 D=>?_
 apply wpAny_pure;have U:IsPair g4 h x N:=D.extBut _ _ d.to_i2 R;apply wpAny_bind;apply wpAny_seqItems U rfl;apply wpAny_bind;apply wpAny_updateSeq_pair U;intro i K F;have K:IsPair i h x x':=K;apply wpAny_bind;apply wpAny_letGo;apply wpAny_pure;apply wpAny_pure;apply wpAny_bind;apply wpAny_seqItems K rfl;apply wpAny_bind
 refine wpAny_newTuple ?_
 have W:i.objs.size=s.heap.objs.size:=by rw[F.1,D.1,B.1,u.1,n.1]
 have l:∀c o,c≠z->c≠h->c≠r->c≠t->s.heap.get? c=some o->i.get? c=some o:=fun c o p1 T p3 p4 e=>F.extBut _ _ T (D.extBut _ _ p4 (B.extBut _ _ T (u.extBut _ _ p3 (n.extBut _ _ p1 e))))
 have Y:IsZip i z j h .ellipsis:=F.extBut _ _ d.z_to.symm (D.extBut _ _ d.z_i2.symm (B.extBut _ _ d.z_to.symm (u.extBut _ _ d.z_i1.symm L)))
 have m1:ItAt t1 i r a (k+1):=n1.stay fun o e=>F.extBut _ _ d.to_i1.symm (D.extBut _ _ d.i1_i2 (B.extBut _ _ d.to_i1.symm e))
 have m2:ItAt t2 i t b (k+1):=n2.stay fun o e=>F.extBut _ _ d.to_i2.symm e
 apply wpAny_bind (m:=Builtin.SmallTypes.ownedTupleHandOut (.ref z) (.ref i.objs.size));unfold Builtin.SmallTypes.ownedTupleHandOut;have z6:IsZip (i.push { cls:=.type "tuple",data:=.seq #[x,x'] }) z j h .ellipsis:=Heap.get?_push_of_some _ Y;apply wpAny_bind
 apply wpAny_setField_rec z6 (by simp)
 intro g7 M X;have M:IsZip g7 z j h (rawInt i.objs.size):=M
 apply wpAny_setField_rec M (by simp)
 intro H J Z;have J:IsZip H z j h (rawInt i.objs.size):=J
 have g:∀c o,c≠z->i.get? c=some o->H.get? c=some o:=fun c o p e=>Z.extBut _ _ p (X.extBut _ _ p (Heap.get?_push_of_some _ e))
 have G:z<i.objs.size:=Heap.lt_size Y;have C:IsPair H i.objs.size x x':=Z.extBut _ _ (Nat.ne_of_gt G) (X.extBut _ _ (Nat.ne_of_gt G) (Heap.get?_push_size _ rfl));rw[W]at J C;apply wpAny_pure
 refine⟨_,rfl,?_⟩
 show Q (.ref i.objs.size) _
 rw[W]
 refine q H ⟨J,g _ _ d.z_ti (l _ _ d.z_ti d.ti_to d.ti_i1 d.ti_i2 y.ins),⟨x,x',g _ _ d.z_to K⟩,m1.stay fun o e=>g _ _ d.z_i1 e,m2.stay fun o e=>g _ _ d.z_i2 e⟩ C fun c o p e=>?_
 simp  at p
 exact g c o p.1 (l c o p.1 p.2.2.1 p.2.2.2.1 p.2.2.2.2 e)
theorem A5k      (f:A.handled=none) (d:z9 z l j v C a b) (y:Z9 s.heap t1 t2 z l j v C a b .none k)
 (ha:SqA t1 s.heap a xs) (hb:SqA t2 s.heap b ys) (hx:xs[k]?=none\/ys[k]?=none)
 (q:∀h' e,(∀c o,c∉[z,l,j,v,C]->s.heap.get? c=some o->h'.get? c=some o)->(∃o,h'.get? e=some o/\o.cls=.type "StopIteration")->E (.ref e) { s with heap:=h' }) :
 wpAny (model P w) A (Builtin.«zip.__next__» ⟨[.ref z],[]⟩) F E s:=by
 obtain⟨T,V,S⟩:=y.outs;have I:=d.na;have B:=d.nb;simp only[List.mem_cons,List.not_mem_nil,or_false,not_or]at I B;apply wpAny_bind (m:=field (.ref z) 2);apply wpAny_field y.zip rfl (x:=.bool false) rfl;apply wpAny_bind (m:=field (.ref z) 3);apply wpAny_field y.zip rfl (x:=.ref l) rfl;apply wpAny_bind;apply wpAny_seqItems y.ins rfl;apply wpAny_bind (m:=Builtin.SmallTypes.ownedTupleIsFree (.ref z));unfold Builtin.SmallTypes.ownedTupleIsFree;apply wpAny_bind;apply wpAny_field y.zip rfl (x:=.none) rfl;apply wpAny_pure;simp only[if_true];apply wpAny_bind;apply wpAny_rule;apply wpAny_bind;apply wpAny_field y.zip rfl (x:=.ref j) rfl;apply wpAny_bind
 apply wpAny_setField_rec y.zip (by simp)
 intro U u g;have u:IsZip U z l j .ellipsis:=u;apply wpAny_bind;simp only[List.zipIdx_cons,List.zipIdx_nil,List.forIn_cons,List.forIn_nil];apply wpAny_bind;apply wpAny_bind;apply wpAny_onRaise;apply wpAny_bind (m:=Builtin.SmallTypes.nextOf (.ref v))
 cases e1:xs[k]? with
 | none =>
  refine next_end f (y.one.stay fun o e=>g.extBut _ _ d.z_i1 e) (ha.stay fun o e=>g.extBut _ _ I.1 e) e1 fun H x i K=>?_
  obtain⟨D,r,t⟩:=K;have Q:IsZip H z l j .ellipsis:=i _ _ d.z_i1.symm u
  have G:x≠z:=fun e=>by subst e;rw[Q]at r;cases r;simp at t
  apply wpAny_setField_rec Q (by simp)
  intro N _ n
  refine q N x (fun c o p e=>?_) ⟨D,n.extBut _ _ G r,t⟩
  simp only[List.mem_cons,List.not_mem_nil,or_false,not_or]at p;exact n.extBut _ _ p.1 (i _ _ p.2.2.2.1 (g.extBut _ _ p.1 e))
 | some x =>
  have Y:ys[k]?=none:=by
   rcases hx with h | h
   ·rw[e1]at h;cases h
   ·exact h
  refine next_item (y.one.stay fun o e=>g.extBut _ _ d.z_i1 e) (ha.stay fun o e=>g.extBut _ _ I.1 e) e1 fun H n1 i=>?_
  apply wpAny_pure;have O:IsPair H j T V:=i.extBut _ _ d.to_i1 (g.extBut _ _ d.z_to S);apply wpAny_bind;apply wpAny_seqItems O rfl;apply wpAny_bind;apply wpAny_updateSeq_pair O;intro N Z n;apply wpAny_bind;apply wpAny_letGo;apply wpAny_pure;apply wpAny_bind;apply wpAny_bind;apply wpAny_onRaise;apply wpAny_bind (m:=Builtin.SmallTypes.nextOf (.ref C))
  refine next_end f (y.two.stay fun o e=>n.extBut _ _ d.to_i2.symm (i.extBut _ _ d.i1_i2.symm (g.extBut _ _ d.z_i2 e))) (hb.stay fun o e=>n.extBut _ _ B.2.2.1 (i.extBut _ _ B.2.2.2.1 (g.extBut _ _ B.1 e))) Y fun W x M J=>?_
  obtain⟨D,r,t⟩:=J;have R:IsZip W z l j .ellipsis:=M _ _ d.z_i2.symm (n.extBut _ _ d.z_to.symm (i.extBut _ _ d.z_i1.symm u))
  have G:x≠z:=fun e=>by subst e;rw[R]at r;cases r;simp at t
  apply wpAny_setField_rec R (by simp)
  intro X _ L
  refine q X x (fun c o p e=>?_) ⟨D,L.extBut _ _ G r,t⟩
  simp only[List.mem_cons,List.not_mem_nil,or_false,not_or]at p;exact L.extBut _ _ p.1 (M _ _ p.2.2.2.2 (n.extBut _ _ p.2.2.1 (i.extBut _ _ p.2.2.2.1 (g.extBut _ _ p.1 e))))
end
section
variable {X:Cx}{pins:List (Addr×Obj)}{σ:St}{H:Hp}{s:Shared}{h':Heap}
theorem Inv.turnLay {ch:List Addr}{p:Addr}{o:HO}{t':Nat}(I:Inv X pins σ H s)(hf:∀b∈ch,K3 X pins H b)(k:∀b u,b∉ch->s.heap.get? b=some u->h'.get? b=some u)(hp:s.heap.objs.size<=p)(w:z8 X.prog X.w (upd H p o) h' p o) :
 Inv X pins σ (upd H p o) { s with heap:=h',toks:=t' }:=by
 have g:H p=none:=I.hok.fresh hp
 have t:∀b u,H b=some u->b∉ch:=fun b u e z=>by rw[(hf b z).1]at e;grind
 have d:∀b u,H b=some u->b≠p:=fun b u e=>Ba e g
 have h:∀b u,s.heap.get? b=some u->b≠p:=fun b u e z=>absurd (Heap.lt_size e) (by simp_all)
 refine I.step (g':=s.gens) (d':=s.drawn) (ch:=ch) (fun b f=>?_) (fun b u _ _ a e _=>k b u a e) (fun b u _ _ a e _=>⟨u.slots,k b u a e⟩) (fun b u _ e n=>?_) (fun b u a e=>⟨u,k b u a e⟩)
  (fun b i e=>?_) (fun b o u e=>?_) (fun b B e=>?_) (fun m x=>?_) (fun b u e=>?_) I.bare
 ·obtain⟨F,G,J,C,D,E⟩:=hf b f
  grind
 ·rw[Ao (h b u e)];grind
 ·rw[Ao (d b _ e)];grind
 ·rw[Ao (d b _ e)];omega
 ·rw[Ao (d b _ e)];grind
 ·obtain⟨j,y,A,l,r⟩:=x
  exact⟨j,y,A,k _ _ (fun z=>(hf _ z).2.1 rfl) l,r⟩
 ·by_cases f:b=p
  ·subst f;rw[Be]at e;grind
  ·rw[Ao f]at e
   refine (I.hok b u e).stay (fun c v a q=>k c v ?_ q) fun c q=>by rw[Ao (d c _ q)];grind fun c i q=>by rw[Ao (d c _ q)];grind fun c j i q=>by rw[Ao (d c _ q)];grind
   grind
theorem Inv.turnL {ch:List Addr}{t':Nat}(I:Inv X pins σ H s)(hf:∀b∈ch,K3 X pins H b)(k:∀b u,b∉ch->s.heap.get? b=some u->h'.get? b=some u):Inv X pins σ H { s with heap:=h',toks:=t' }:=by
 have g:∀b u,H b=some u->b∉ch:=fun b u e z=>by rw[(hf b z).1]at e;grind
 refine I.step    (fun b f=>?_) (fun b u _ _ a e _=>k b u a e) (fun b u _ _ a e _=>⟨u.slots,k b u a e⟩) (fun b u _ e n=>n) (fun b u a e=>⟨u,k b u a e⟩)
  (fun b i e=>e) (fun b o u e=>e) (fun b t e=>e) (fun m j=>?_) (fun b u e=>?_) I.bare
 ·obtain⟨A,B,C,w,x,y⟩:=hf b f
  grind
 ·obtain⟨h,l,p,d,r⟩:=j
  exact⟨h,l,p,k _ _ (fun z=>(hf _ z).2.1 rfl) d,r⟩
 ·refine (I.hok b u e).stay (fun c v a q=>k c v ?_ q) (fun c q=>q) fun c i q=>q
  grind
end
def SqK (t:Bool)(H:Hp)(a:Addr)(xs:List V):Prop:=match t with
 | true=>H a=some (.tup xs)
 | false=>H a=some (.lst xs)
theorem SqK.one     (x:SqK t H a xs) (y:SqK t H a ys):xs=ys:=by
 cases t
 ·have y:H a=some _:=y
  rw[x]at y;cases y;rfl
 ·have y:H a=some _:=y
  rw[x]at y;cases y;rfl
theorem SqK.some     (x:SqK t H a xs):∃o,H a=some o:=by
 cases t
 ·exact⟨_,x⟩
 ·exact⟨_,x⟩
theorem SqK.its         (I:Inv X pins d H s) (x:SqK t H a xs):∃b:List Value,Vals xs b/\SqA t s.heap a b.toArray:=by
 cases t
 ·obtain⟨b,c,p,_⟩:=I.list (SqL.of x)
  exact⟨b,c,p.isList⟩
 ·obtain⟨b,c,p,_⟩:=I.tuple (SqT.of x)
  exact⟨b,c,(show s.heap.IsTuple a _ from p)⟩
def Itz (t1 t2:Bool)(a b:Addr):It :=
 ⟨
  fun i H=>∃xs ys x y,SqK t1 H a xs/\SqK t2 H b ys/\xs[i]?=some x/\ys[i]?=some y,
  fun i H v H'=>∃p x y,v=.ref p/\H p=none/\H'=upd H p (.tup [x,y])/\(∀xs,SqK t1 H a xs->xs[i]?=some x)/\∀ys,SqK t2 H b ys->ys[i]?=some y,
  fun i H=>∃xs ys,SqK t1 H a xs/\SqK t2 H b ys/\(xs.length<=i\/ys.length<=i)⟩
theorem A2h {P:Program}{w:World}{K:PySem.W.Frag}{t1 t2:Bool}{elts:List Expr}{kk:Nat}{pos:Pos}{z ti to i1 i2 a b:Addr}(nd:[z,ti,to,i1,i2].Nodup) :
 Turn P w K (.Tuple elts kk pos) (Itz t1 t2 a b) [z,ti,to,i1,i2] z (fun i h=>Z9 h t1 t2 z ti to i1 i2 a b .none i) where
 mem:=by simp
 obj:=fun i h st c hc=>by
  simp only[List.mem_cons,List.not_mem_nil,or_false]at hc
  rcases hc with rfl | rfl | rfl | rfl | rfl
  ·exact⟨_,st.zip,fun v e=>by cases e⟩
  ·exact⟨_,st.ins,fun v e=>by cases e⟩
  ·obtain⟨u,v,e⟩:=st.outs;exact⟨_,e,fun v e=>by cases e⟩
  ·obtain⟨o,e,q⟩:=st.one.obj;exact⟨o,e,fun v e=>by rw[q]at e;cases e⟩
  ·obtain⟨o,e,q⟩:=st.two.obj;exact⟨o,e,fun v e=>by rw[q]at e;cases e⟩
 keep:=fun i h h' st k=>by
  obtain⟨u,v,e⟩:=st.outs
  exact⟨k z (by simp) _ st.zip,k ti (by simp) _ st.ins,⟨u,v,k to (by simp) _ e⟩,st.one.stay fun o e=>k i1 (by simp) o e,st.two.stay fun o e=>k i2 (by simp) o e⟩
 item:=by
  intro X hP hw hK hc i pins s σ H E I hf st hg;subst hP hw hK;obtain⟨xs,ys,x,y,ha,hb,hx,hy⟩:=hg;obtain⟨its,rv,pa⟩:=ha.its I;obtain⟨jts,rw',pb⟩:=hb.its I;obtain⟨u,hu,ru⟩:=rv.get hx;obtain⟨v,hv,rv'⟩:=rw'.get hy
  have off:z9 z ti to i1 i2 a b:=⟨nd,fun m=>by (obtain⟨o,e⟩:=ha.some;rw[(hf a m).1]at e;cases e),fun m=>by (obtain⟨o,e⟩:=hb.some;rw[(hf b m).1]at e;cases e)⟩
  have ty:s.TypeIs (.ref z) "zip" := ⟨_,st.zip,rfl⟩;unfold pyNext;apply wpAny_bind;apply wpAny_attempt
  refine wpAny_callSpecial?_slot (name:="__next__") ty F.slot_zip_next ?_
  refine wpAny_call_entry F.slot_zip_next ty F.entry_zip_next ?_ (F.args_zip_next_1 _)
  refine A2o off st pa pb (x:=u) (x':=v) (by simpa using hu) (by simpa using hv) fun h1 z1 new kp=>?_
  refine wpAny_pure ⟨_,rfl,?_⟩
  apply wpAny_letOwnedTupleGo_zip z1.zip;intro h2 z2 sb;have nz:s.heap.objs.size≠z:=Nat.ne_of_gt (Heap.lt_size st.zip);have new2:IsPair h2 s.heap.objs.size u v:=sb.extBut _ _ nz new
  have ok:z8 X.prog X.w (upd H s.heap.objs.size (.tup [x,y])) h2 s.heap.objs.size (.tup [x,y]):=⟨(show 2<=sizeLine by decide),[u,v],.cons ru (.cons rv' .nil),⟨_,new2,rfl,⟨_,rfl⟩,rfl⟩⟩
  have I2:=I.turnLay (t':=s.toks) hf (h':=h2) (fun c o m e=>sb.extBut _ _ (fun e=>m (by simp[e])) (kp c o m e)) (Nat.le_refl _) ok
  obtain⟨u1,v1,e1⟩:=z1.outs;have zf:H s.heap.objs.size=none:=I.hok.fresh (Nat.le_refl _)
  refine⟨.ref s.heap.objs.size,_,I2,rfl,⟨_,x,y,rfl,zf,rfl,fun xs' h=>?_,fun ys' h=>?_⟩,?_,fun c hc=>?_⟩
  ·rw[h.one ha];exact hx
  ·rw[h.one hb];exact hy
  ·exact⟨z2,sb.extBut _ _ off.z_ti z1.ins,⟨u1,v1,sb.extBut _ _ off.z_to e1⟩,z1.one.stay fun o e=>sb.extBut _ _ off.z_i1 e,z1.two.stay fun o e=>sb.extBut _ _ off.z_i2 e⟩
  ·have lt:c<s.heap.objs.size:=by
    simp only[List.mem_cons,List.not_mem_nil,or_false]at hc
    rcases hc with rfl | rfl | rfl | rfl | rfl
    ·exact Heap.lt_size st.zip
    ·exact Heap.lt_size st.ins
    ·obtain⟨_,_,e⟩:=st.outs;exact Heap.lt_size e
    ·obtain⟨o,e,q⟩:=st.one.obj;exact Heap.lt_size e
    ·obtain⟨o,e,q⟩:=st.two.obj;exact Heap.lt_size e
   rw[Ao (Nat.ne_of_lt lt)];exact(hf c hc).1
 done:=by
  intro X hP hw hK hc i pins s σ H E I hf st hg;subst hP hw hK;obtain⟨xs,ys,ha,hb,hl⟩:=hg;obtain⟨its,rv,pa⟩:=ha.its I;obtain⟨jts,rw',pb⟩:=hb.its I
  have off:z9 z ti to i1 i2 a b:=⟨nd,fun m=>by (obtain⟨o,e⟩:=ha.some;rw[(hf a m).1]at e;cases e),fun m=>by (obtain⟨o,e⟩:=hb.some;rw[(hf b m).1]at e;cases e)⟩
  have ty:s.TypeIs (.ref z) "zip" := ⟨_,st.zip,rfl⟩;have l1:=rv.length;have l2:=rw'.length;unfold pyNext;apply wpAny_bind;apply wpAny_attempt
  refine wpAny_callSpecial?_slot (name:="__next__") ty F.slot_zip_next ?_
  refine wpAny_call_entry F.slot_zip_next ty F.entry_zip_next ?_ (F.args_zip_next_1 _)
  refine A5k (I.ok.hd hc) off st pa pb (by simp;omega) fun h1 e kp he=>?_
  obtain⟨o,e1,e2⟩:=he;apply wpAny_bind
  refine wpAny_isInstance (T := "StopIteration") (b:=true) ⟨o,e1,e2⟩ isSubtype_stop ?_
  exact wpAny_pure ⟨rfl,I.turnL (t':=s.toks) hf fun c o m e=>kp c o m e⟩
 self:=fun _ _ _ _ _ st h=>wpAny_pyIter_zip st.zip h
section
variable {P:Program}{w:World}{A:Around}{E:Value->Shared->Prop}{s:Shared}
abbrev itO (t:Bool)(u:Addr):Obj:={ cls:=.type (if t then "tuple_iterator" else "list_iterator"),data:=.fields #[.ref u,.int 0 0] }
abbrev zh1 (h:Heap)(t1:Bool)(a:Addr):Heap:=h.push (itO t1 a)
abbrev zh2 (h:Heap)(t1 t2:Bool)(a b:Addr):Heap:=(zh1 h t1 a).push (itO t2 b)
abbrev zh3 (h:Heap)(t1 t2:Bool)(a b:Addr):Heap:=(zh2 h t1 t2 a b).push { cls:=.type "tuple",data:=.seq #[.ref h.objs.size,.ref (zh1 h t1 a).objs.size] }
abbrev zh4 (h:Heap)(t1 t2:Bool)(a b:Addr):Heap:=(zh3 h t1 t2 a b).push { cls:=.type "tuple",data:=.seq #[.none,.none] }
abbrev zh5 (h:Heap)(t1 t2:Bool)(a b:Addr):Heap:=(zh4 h t1 t2 a b).push { cls:=.type "zip",data:=.fields #[.none,.bool false,.bool false,.ref (zh2 h t1 t2 a b).objs.size,.ref (zh3 h t1 t2 a b).objs.size] }
theorem A2f (t1 t2:Bool)(a b:Addr)(xs ys:Array Value) :
 Meets (Builtin.«zip.__new__» ⟨[.type "zip",.ref a,.ref b],[]⟩) (fun _ R s=>SqA t1 s.heap a xs/\SqA t2 s.heap b ys/\R (.ok (.ret (.ref (zh4 s.heap t1 t2 a b).objs.size))) { s with heap:=zh5 s.heap t1 t2 a b }) :=
 .of_wp fun P w A R s h=>by
  obtain⟨e,g,d,c,f⟩:=s;obtain⟨k,l,h⟩:=h;have m:=sub_zip
  cases t1 <;> cases t2
  ·have j:Heap.IsList (Shared.heap ⟨e,g,d,c,f⟩) a xs:=k
   have i:Heap.IsList (Shared.heap ⟨e.push { cls:=.type "list_iterator",data:=.fields #[.ref a,.int 0 0] },g,d,c,f⟩) b ys:=Heap.IsList.push l _
   wp_walk using wpAny_pyIter_list j,wpAny_pyIter_list i
   exact⟨_,rfl,h⟩
  ·have j:Heap.IsList (Shared.heap ⟨e,g,d,c,f⟩) a xs:=k
   have i:Heap.IsTuple (Shared.heap ⟨e.push { cls:=.type "list_iterator",data:=.fields #[.ref a,.int 0 0] },g,d,c,f⟩) b ys:=Heap.IsTuple.push l _
   wp_walk using wpAny_pyIter_list j,wpAny_pyIter_tuple i
   exact⟨_,rfl,h⟩
  ·have j:Heap.IsTuple (Shared.heap ⟨e,g,d,c,f⟩) a xs:=k
   have i:Heap.IsList (Shared.heap ⟨e.push { cls:=.type "tuple_iterator",data:=.fields #[.ref a,.int 0 0] },g,d,c,f⟩) b ys:=Heap.IsList.push l _
   wp_walk using wpAny_pyIter_tuple j,wpAny_pyIter_list i
   exact⟨_,rfl,h⟩
  ·have j:Heap.IsTuple (Shared.heap ⟨e,g,d,c,f⟩) a xs:=k
   have i:Heap.IsTuple (Shared.heap ⟨e.push { cls:=.type "tuple_iterator",data:=.fields #[.ref a,.int 0 0] },g,d,c,f⟩) b ys:=Heap.IsTuple.push l _
   wp_walk using wpAny_pyIter_tuple j,wpAny_pyIter_tuple i
   exact⟨_,rfl,h⟩
theorem Ae6    (e:h.get? j=some (itO t u)):ItAt t h j u 0:=by
 cases t
 ·exact⟨_,e,rfl,rfl⟩
 ·exact⟨_,e,rfl,rfl⟩
theorem Aj2     (t:SqA t1 s.heap a xs) (u:SqA t2 s.heap b ys)
 (q:∀h',Z9 h' t1 t2 (s.heap.objs.size+4) (s.heap.objs.size+2) (s.heap.objs.size+3) s.heap.objs.size (s.heap.objs.size+1) a b .none 0->(∀c o,s.heap.get? c=some o->h'.get? c=some o)->Q (.ref (s.heap.objs.size+4)) { s with heap:=h' }) :
 wpAny (model P w) A (call (.type "zip") [.ref a,.ref b]) Q E s:=by
 apply callType_new F.called_zip (by decide) (F.typeCall_zip_2 _ _) (F.newCall_zip_2 _ _) (fun o=>F.args_object_init_3 o _ _) F.entry_zip_new (A2f t1 t2 a b xs ys)
 refine⟨t,u,?_⟩
 have i:(zh1 s.heap t1 a).objs.size=s.heap.objs.size+1:=Heap.size_push ..
 have g:(zh2 s.heap t1 t2 a b).objs.size=s.heap.objs.size+2:=by rw[Heap.size_push,i]
 have f:(zh3 s.heap t1 t2 a b).objs.size=s.heap.objs.size+3:=by rw[Heap.size_push,g]
 have k:(zh4 s.heap t1 t2 a b).objs.size=s.heap.objs.size+4:=by rw[Heap.size_push,f]
 have d:=fun {h:Heap} {c:Addr} {o:Obj} (n:Obj) (e:h.get? c=some o)=>Heap.get?_push_of_some n e
 have j:(zh5 s.heap t1 t2 a b).get? (zh4 s.heap t1 t2 a b).objs.size=some _:=Heap.get?_push_size _ rfl;have m:(zh5 s.heap t1 t2 a b).get? (zh3 s.heap t1 t2 a b).objs.size=some _:=d _ (Heap.get?_push_size _ rfl);have l:(zh5 s.heap t1 t2 a b).get? (zh2 s.heap t1 t2 a b).objs.size=some _:=d _ (d _ (Heap.get?_push_size _ rfl));have p:(zh5 s.heap t1 t2 a b).get? (zh1 s.heap t1 a).objs.size=some _:=d _ (d _ (d _ (Heap.get?_push_size _ rfl)));have r:(zh5 s.heap t1 t2 a b).get? s.heap.objs.size=some _:=d _ (d _ (d _ (d _ (Heap.get?_push_size _ rfl))));rw[g,f,k]at j;rw[i,g]at l;rw[f]at m;rw[i]at p;rw[k]
 exact⟨⟨_,j,rfl⟩,q _ ⟨j,l,⟨_,_,m⟩,Ae6 r,Ae6 p⟩ fun c o e=>d _ (d _ (d _ (d _ (d _ e))))⟩
end
theorem Au1:bootBuiltins "zip" = some (.type "zip"):=by decide +kernel
section
variable {X:Cx}
def Be6 (ta:TA):TI:=fun σ H R=>ta σ H fun vs H1=>∃a b,vs=[.ref a,.ref b]/\∃t1 t2 xs ys,SqK t1 H1 a xs/\SqK t2 H1 b ys/\R (Itz t1 t2 a b) H1
theorem Bi8   {p j e:Pos}{f:List Expr}{t:Nat}(hg:Gl X "zip") (hm:X.mg "zip" = none) (ha:PA X [a,b] m) (hs1:isStar a=false:=by rfl) (hs2:isStar b=false:=by rfl) :
 PI X (.Tuple f t e) (.Call (.Name "zip" p) [a,b] [] j) (Be6 m):=by
 intro l s σ H R I h;have i:=Hk (es:=[b]) (env:=X.env) hs1
 refine Call_ (Qa I hg hm Au1 (PyProof.Rows.callWith_type1 (thn (ha _ _ s _ H _ I h) fun us d ⟨vs,r,g,u,v⟩=>?_) i (by rw[(Hk (es:=[]) (env:=X.env) hs2)];rfl)))
 obtain⟨a',b',rfl,t1,t2,xs,ys,y,o,q⟩:=v;obtain⟨z,A,rfl,B,x⟩:=Vals.two u
 cases (show z=Value.ref _ from B)
 cases (show A=Value.ref _ from x)
 obtain⟨C,rv,w⟩:=y.its g;obtain⟨E,F,D⟩:=o.its g
 refine Aj2 w D fun h' n G=>?_
 apply wpAny_pyIter_zip n.zip
 have J:[d.heap.objs.size+4,d.heap.objs.size+2,d.heap.objs.size+3,d.heap.objs.size,d.heap.objs.size+1].Nodup:=by simp
 refine⟨_,_,_,_,r,rfl,g.kept  G,A2h J,n,fun c hc=>?_,q⟩
 have k:d.heap.objs.size<=c:=by
  grind
 exact g.fpOk k (g.hok.fresh k)
end
def Ba2:R2:=fun x y H Q=>∃a b xs ys,x=.ref a/\y=.ref b/\H a=some (.tup xs)/\H b=some (.tup ys)/\xs.length+ys.length<=sizeLine/\∀p H',Same H H'->H' p=some (.tup (xs++ys))->Q (.ref p) H'
section
variable {X:Cx}
theorem Cu   (h:H p=none) (o:HO):Same H (upd H p o):=fun b u e=>by rw[Ao (Ba e h)];grind
theorem A6c:OpR X (binaryOp .Add) Ba2:=by
 intro d s σ H x y v u Q I i f h;obtain⟨a,b,g,E,rfl,rfl,j,c,n,q⟩:=h
 by_cases e:g=[]
 ·cases i
  cases f
  subst e;obtain⟨o,r,t,_⟩:=I.tuple (SqT.of j);obtain⟨w,r2,A,_⟩:=I.tuple (SqT.of c);have C  := r.nil_iff.mpr rfl;subst C;obtain⟨⟨c1,d1,D,s1⟩,k,F,n1,z⟩:=id t;obtain⟨⟨c2,d2,B,s2⟩,l,J,n2,G⟩:=id A;subst F z J G
  exact concat_meets ⟨_,k,rfl⟩ ⟨_,l,rfl⟩ noFill_tuple_add seq_tuple_add PySem.F.slot_tuple_add PySem.F.entry_tuple_add (PySem.F.args_tuple_add_2 _ _)
   (tuple_addW0 a b _ _ _ _ _ _ _ _ (by simp)) ⟨k,l,⟨.ref b,H,I,rfl,q b H (fun _ _ e=>e) c⟩⟩
 ·refine A9d _ s _ H _ _ v u Q I i f ⟨a,b,g,E,rfl,rfl,SqT.of j,SqT.of c,e,n,fun K=>?_,fun K p m=>?_⟩
  ·exact q a H (fun _ _ e=>e) (by simp_all)
  ·exact q p _ (Cu m _) Be
end
section
variable {P:Program}{w:World}{A:Around}{E:Value->Shared->Prop}{s:Shared}
theorem Bm4 (quiet:A.handled=none)(t:Bool)(j u:Addr)(ne:u≠j)(vs:Array Value):Draws P w A j [j,u] vs.size (fun i v=>vs[i]?=some v) (fun i h=>ItAt t h j u i/\SqA t h u vs) where
 live:=fun i h x=>let ⟨o,e,_⟩:=x.1.obj; ⟨o,e⟩
 frame:=fun i h h' x k=>⟨x.1.stay fun o e=>k j (by simp) o e,x.2.stay fun o e=>k u (by simp) o e⟩
 item:=fun i s Q E hi x q=>next_item x.1 x.2 (x:=vs[i]) (by simp[hi]) fun h' a b=>q _ h' s.toks (by simp[hi]) ⟨a,x.2.stay fun o e=>b.extBut _ _ ne e⟩ b
 done:=fun s Q E x q=>next_end quiet x.1 x.2 (by simp) q
theorem Ag8 (u:Addr)(vs:Array Value)(n:Nat)(b:Option Addr)(l:Array (Option Value)) :
 Meets (Builtin.«enumerate.__new__» ⟨[.type "enumerate",.ref u],[]⟩) (fun _ R s=>s.heap.get? u=some { cls:=.type "tuple",dict:=b,data:=.seq vs n,slots:=l } /\
  R (.ok (.ret (.ref (s.heap.push (itO true u)).objs.size))) { s with heap:=(s.heap.push (itO true u)).push { cls:=.type "enumerate",data:=.fields #[.none,.bool false,.ref s.heap.objs.size,rawInt 0,.none,.none] } }) :=
 .of_wp fun P w A R s h=>by
  obtain⟨i,g,d,f,k⟩:=s;obtain⟨e,h⟩:=h;have j:=sub_enumerate;have a:Heap.IsTuple (Shared.heap ⟨i,g,d,f,k⟩) u vs:=⟨_,e,rfl,n,rfl⟩
  wp_walk using AutoSeq1.wpAny_loadPart' e
  refine wpAny_stack_any fun m=>wpAny_pure ?_
  split
  ·rename_i c _ _ _ _ _
   cases (c==Value.type "enumerate")
   ·wp_walk using AutoSeq1.wpAny_loadPart' e,wpAny_pyIter_tuple a
    exact⟨_,rfl,h⟩
   ·wp_walk using AutoSeq1.wpAny_loadPart' e,wpAny_pyIter_tuple a
    exact⟨_,rfl,h⟩
  ·wp_walk using AutoSeq1.wpAny_loadPart' e,wpAny_pyIter_tuple a
   exact⟨_,rfl,h⟩
theorem Z7     (p:SqA t s.heap u vs)
 (q:∀f,IsEnum f (s.heap.objs.size+1) s.heap.objs.size 0 .none->ItAt t f s.heap.objs.size u 0->(∀c o,s.heap.get? c=some o->f.get? c=some o)->Q (.ref (s.heap.objs.size+1)) { s with heap:=f }) :
 wpAny (model P w) A (call (.type "enumerate") [.ref u]) Q E s:=by
 cases t
 ·exact call_enumerate_list p fun f a b c d=>q f a b d
 ·obtain⟨⟨c,i,m,l⟩,e,k,n,g⟩:=p
  simp only at k g;subst k g
  apply callType_new F.called_enumerate (by decide) (F.typeCall_enumerate_1 _) (F.newCall_enumerate_1 _) (fun o=>F.args_object_init_2 o _) F.entry_enumerate_new (Ag8 u vs n i l)
  refine⟨e,?_⟩
  have j:(s.heap.push (itO true u)).objs.size=s.heap.objs.size+1:=Heap.size_push ..;have h:IsEnum ((s.heap.push (itO true u)).push { cls:=.type "enumerate",data:=.fields #[.none,.bool false,.ref s.heap.objs.size,rawInt 0,.none,.none] }) (s.heap.push (itO _ u)).objs.size _ 0 _:=Heap.get?_push_size _ rfl;rw[j]at h;rw[j]
  exact⟨⟨_,h,rfl⟩,q _ h (Ae6 (Heap.get?_push_of_some _ (Heap.get?_push_size _ rfl))) fun c o x=>Heap.get?_push_of_some _ (Heap.get?_push_of_some _ x)⟩
end
def Ite (t:Bool)(a:Addr):It :=
 ⟨
  fun i H=>∃xs x,SqK t H a xs/\xs[i]?=some x,
  fun i H v H'=>∃p x,v=.ref p/\H p=none/\H'=upd H p (.tup [.int i,x])/\∀xs,SqK t H a xs->xs[i]?=some x,
  fun i H=>∃xs,SqK t H a xs/\xs.length<=i⟩
theorem Ar0 {P:Program}{w:World}{K:PySem.W.Frag}{t:Bool}{elts:List Expr}{kk:Nat}{pos:Pos}{e j a:Addr}(ne:e≠j) :
 Turn P w K (.Tuple elts kk pos) (Ite t a) [e,j] e (fun i h=>(∃old,IsEnum h e j i old)/\ItAt t h j a i) where
 mem:=by simp
 obj:=fun i h st c hc=>by
  simp only[List.mem_cons,List.not_mem_nil,or_false]at hc
  rcases hc with rfl | rfl
  ·obtain⟨old,q⟩:=st.1;exact⟨_,q,fun v e=>by cases e⟩
  ·obtain⟨o,e,q⟩:=st.2.obj;exact⟨o,e,fun v e=>by rw[q]at e;cases e⟩
 keep:=fun i h h' st k=>by
  obtain⟨⟨old,q⟩,r⟩:=st
  exact⟨⟨old,k e (by simp) _ q⟩,r.stay fun o e=>k j (by simp) o e⟩
 item:=by
  intro X hP hw hK hc i pins s σ H E I hf st hg;subst hP hw hK;obtain⟨xs,x,ha,hx⟩:=hg;obtain⟨⟨old,en⟩,it⟩:=st;obtain⟨its,rv,pa⟩:=ha.its I;obtain⟨u,hu,ru⟩:=rv.get hx
  have off:∀c∈[e,j],a≠c:=fun c m z=>by obtain⟨o,q⟩:=ha.some;rw[z,(hf c m).1]at q;cases q
  have dr:=Bm4 (P:=X.prog) (w:=X.w) (A:=X.A.in1) (I.ok.hd hc) t j a (off j (by simp)) its.toArray
  have li:i<its.toArray.size:=by simpa using (List.getElem?_eq_some_iff.mp hu).1
  refine wpAny_pyNext_enum_itemD dr en ⟨it,pa⟩ li ne (by simp;exact⟨ne,fun z=>off e (by simp) z.symm⟩) fun u' h1 tk pu ou st1 new _ kp=>?_
  have eu:u'=u:=by
   have pu:its.toArray[i]?=some u':=pu;rw[List.getElem?_toArray,hu]at pu;cases pu;rfl
  subst eu
  refine⟨_,rfl,?_⟩
  apply wpAny_letOwnedTupleGo_enum ou;intro h2 en2 sb
  have lt:∀c∈[e,j],c<s.heap.objs.size:=fun c m=>by
   simp only[List.mem_cons,List.not_mem_nil,or_false]at m
   rcases m with rfl | rfl
   ·exact Heap.lt_size en
   ·obtain⟨o,e,_⟩:=it.obj;exact Heap.lt_size e
  have new2:h2.get? s.heap.objs.size=some { cls:=.type "tuple",data:=.seq #[.int i tk,u'] }:=sb.extBut _ _ (Nat.ne_of_gt (lt e (by simp))) new
  have ok:z8 X.prog X.w (upd H s.heap.objs.size (.tup [.int i,x])) h2 s.heap.objs.size (.tup [.int i,x]):=⟨(show 2<=sizeLine by decide),[.int i tk,u'],.cons ⟨tk,rfl⟩ (.cons ru .nil),⟨_,new2,rfl,⟨_,rfl⟩,rfl⟩⟩
  have I2:=I.turnLay (t':=tk+1) hf (h':=h2) (fun c o m q=>sb.extBut _ _ (fun z=>m (by simp[z])) (kp c o (fun z=>m (by simp[z])) (fun z=>m (by simp[z])) q)) (Nat.le_refl _) ok
  refine⟨.ref s.heap.objs.size,_,I2,rfl,⟨_,x,rfl,I.hok.fresh (Nat.le_refl _),rfl,fun xs' h=>?_⟩,⟨⟨u',?_⟩,?_⟩,fun c m=>?_⟩
  ·rw[h.one ha];exact hx
  ·have:IsEnum h2 e j ((i:Int)+1) u':=en2
   simpa using this
  ·exact st1.1.stay fun o q=>sb.extBut _ _ (Ne.symm ne) q
  ·rw[Ao (Nat.ne_of_lt (lt c m))]
   exact(hf c m).1
 done:=by
  intro X hP hw hK hc i pins s σ H E I hf st hg;subst hP hw hK;obtain⟨xs,ha,hl⟩:=hg;obtain⟨⟨old,en⟩,it⟩:=st;obtain⟨its,rv,pa⟩:=ha.its I
  have off:∀c∈[e,j],a≠c:=fun c m z=>by obtain⟨o,q⟩:=ha.some;rw[z,(hf c m).1]at q;cases q
  have ty:s.TypeIs (.ref e) "enumerate" := ⟨_,en,rfl⟩;have ln:=rv.length;unfold pyNext;apply wpAny_bind;apply wpAny_attempt
  refine wpAny_callSpecial?_slot (name:="__next__") ty F.slot_enumerate_next ?_
  refine wpAny_call_entry F.slot_enumerate_next ty F.entry_enumerate_next ?_ (F.args_enumerate_next_1 _)
  apply wpAny_bind (m:=field (.ref e) 2);apply wpAny_field en rfl (x:=.ref j) rfl;apply wpAny_bind
  refine next_end (I.ok.hd hc) it pa (by simp;omega) fun h1 x kp hx=>?_
  obtain⟨o,e1,e2⟩:=hx;apply wpAny_bind
  refine wpAny_isInstance (T := "StopIteration") (b:=true) ⟨o,e1,e2⟩ isSubtype_stop ?_
  exact wpAny_pure ⟨rfl,I.turnL (t':=s.toks) hf fun c o m q=>kp c o (fun z=>m (by simp[z])) q⟩
 self:=fun _ _ _ _ _ st h=>let ⟨_,q⟩:=st.1;wpAny_pyIter_enum q h
theorem Ag9:bootBuiltins "enumerate" = some (.type "enumerate"):=by decide +kernel
section
variable {X:Cx}
def A0v (ta:TA):TI:=fun σ H R=>ta σ H fun vs H1=>∃a,vs=[.ref a]/\∃t xs,SqK t H1 a xs/\R (Ite t a) H1
theorem A7s      (hg:Gl X "enumerate") (hm:X.mg "enumerate" = none) (ha:PA X [a] i) (hs1:isStar a=false:=by rfl) :
 PI X (.Tuple d v b) (.Call (.Name "enumerate" p) [a] [] f) (A0v i):=by
 intro j s σ H R I h
 refine Call_ (Qa I hg hm Ag9 (PyProof.Rows.callWith_type1 (thn (ha _ _ s _ H _ I h) fun us x ⟨vs,o,e,r,u⟩=>?_) (Hk (es:=[]) (env:=X.env) hs1) rfl))
 obtain⟨a',rfl,t,xs,l,q⟩:=u;obtain⟨w,rfl,m⟩:=vals1 r
 cases (show w=Value.ref _ from m)
 obtain⟨n,rv,y⟩:=l.its e
 refine Z7 y fun h' k z A=>?_
 apply wpAny_pyIter_enum k
 refine⟨_,_,_,_,o,rfl,e.kept  A,Ar0 (Nat.ne_of_gt (Nat.lt_succ_self _)),⟨⟨_,k⟩,z⟩,fun c hc=>?_,q⟩
 have g:x.heap.objs.size<=c:=by
  grind
 exact e.fpOk g (e.hok.fresh g)
end
section
variable {X:Cx}
def A1f (i j k:Nat)(ta:TA):TS:=fun D σ H=>ta σ H fun vs H1=>∃v w y,vs=[v,w,y]/\D.nx (((σ.set i (some v)).set j (some w)).set k (some y)) H1
theorem A8a {i j k:Nat}{x y z:Str}{a b c:Expr}{M:TA}{t r B u:Pos}{C k2 f}(hc:X.calm=true)(hN:X.N.Nodup)(hi:X.N[i]?=some x)(hj:X.N[j]?=some y)(hk:X.N[k]?=some z)(hij:i≠j)(hik:i≠k)(hjk:j≠k)
 (hx:X.env.scope.names.lookup x=some .local) (hy:X.env.scope.names.lookup y=some .local) (hz:X.env.scope.names.lookup z=some .local) (ha:PA X [a,b,c] M)
 (hw:swappedStores [.Tuple [.Name x t,.Name y r,.Name z B] C u] (.Tuple [a,b,c] k2 f) X.env=pure (some [x,y,z]))
 (hs:swapsWithSole [.Tuple [.Name x t,.Name y r,.Name z B] C u] (.Tuple [a,b,c] k2 f) pos.line X.env=pure false:=by rfl) :
 PS X (.Assign [.Tuple [.Name x t,.Name y r,.Name z B] C u] (.Tuple [a,b,c] k2 f) pos) (A1f i j k M):=by
 intro d s N H D I h;rw[exec_Assign_arm]
 refine wpAny_bind (wpAny_standAt ?_)
 rw[hs]
 refine wpAny_bind (wpAny_pure ?_)
 rw[if_neg (by decide)]
 refine wpAny_bind (Tuple_ (thn (ha _ d s N H _ I h) fun W g ⟨vs,L,R,V,A⟩=>?_))
 obtain⟨v,w,y',P,A⟩:=A;subst P
 obtain⟨n,m,l,rfl,Q,F,S⟩:∃n m l,W=[n,m,l]/\RelV v n/\RelV w m/\RelV y' l:=by
  cases V with
  | cons p q =>
   cases q with
   | cons T U =>
    cases U with
    | cons E G =>
     cases G
     exact⟨_,_,_,rfl,p,T,E⟩
 refine wpAny_newObj_type ?_ (by show 3<=sizeLine;decide)
 have Y:Inv X d N L { g with heap:=g.heap.push { cls:=.type "tuple",data:=.seq [n,m,l].toArray } }:=R.kept (t':=g.toks) fun b o e=>Heap.get?_push_of_some _ e
 rw[hw]
 refine wpAny_bind (wpAny_pure ?_)
 show wpAny (model X.prog X.w) X.A (do rule "assign.swapped-stores";let items <- unpackItems (.ref g.heap.objs.size) 3 none;assignInOrder [fun v=>bindName X.env z v,fun v=>bindName X.env y v,fun v=>bindName X.env x v] items.reverse;pure Flow.next) _ _ _
 refine wpAny_bind (wpAny_rule (wpAny_bind (unpackItems_tuple (items:=#[n,m,l]) (I.ok.hd hc) (IsTup.new g.heap _) fun O J=>?_)))
 show wpAny _ _ (assignInOrder [fun v=>bindName X.env z v,fun v=>bindName X.env y v,fun v=>bindName X.env x v] [l,m,n] >>= fun _=>pure Flow.next) _ _ _
 refine wpAny_bind (assignInOrder_cons (wpAny_bindName (Gi (Y.kept (h':=O) (t':=g.toks) fun b o e=>J b o (Nat.ne_of_lt (Heap.lt_size e)) e) hN hk (.inl hz) S (fun s2 Z=>?_) (.inr hz))))
 refine assignInOrder_cons (wpAny_bindName (Gi Z hN hj (.inl hy) F (fun s3 I5=>?_) (.inr hy)))
 refine assignInOrder_cons (wpAny_bindName (Gi I5 hN hi (.inl hx) Q (fun s4 K=>assignInOrder_nil (wpAny_pure ?_)) (.inr hx)))
 rw[List.set_comm _ _ (Ne.symm hij),List.set_comm _ _ (Ne.symm hik),List.set_comm _ _ (Ne.symm hjk)]at K;exact⟨_,L,K,A⟩
end
section
variable {X:Cx}{a b:Expr}{ta tb:TE}{pos:Pos}
def A2g (neg:Bool):R2:=fun x y H Q=>∃d ds,Tr H d x/\(Tr H (.list ds) y\/Tr H (.tuple ds) y)/\Flat d/\PyData.canLayAll0 ds=true/\Q (.bl (if neg then !ds.any (fun e=>PyData.eqv e d) else ds.any fun e=>PyData.eqv e d)) H
theorem Wl (hu:X.A.units+64<cLine)(ha:PE X a ta)(hb:PE X b tb)(hm:behindInMarks .NotIn b=false):PE X (.Compare a [.NotIn] [b] pos) (tOp (A2g true) ta tb):=Ov (We hu) ha hb hm
theorem Wz (hu:X.A.units+64<cLine)(ha:PE X a ta)(hb:PE X b tb)(hm:behindInMarks .NotIn b=false):PT X (.Compare a [.NotIn] [b] pos) (Ij (tOp (A2g true) ta tb)):=Iu (We hu) ha hb hm
end
end L2
set_option autoImplicit true
namespace L2
open PySem PySem.Spec PyProof.Rows
structure QE (X:Cx) (e:Expr) (t:TE):Prop where
 get:PE X e t
structure QT (X:Cx) (e:Expr) (t:TT):Prop where
 get:PT X e t
structure QW (X:Cx) (e:Expr) (t:TT):Prop where
 get:PW X e t
structure QA (X:Cx) (e:(List Expr)) (t:TA):Prop where
 get:PA X e t
structure QS (X:Cx) (st:Stmt) (t:TS):Prop where
 get:PS X st t
structure QSs (X:Cx) (st:(List Stmt)) (t:TS):Prop where
 get:PSs X st t
structure QG (X:Cx) (e:Expr) (t:TG):Prop where
 get:PG X e t
structure QGs (X:Cx) (e:(List Expr)) (t:TGs):Prop where
 get:PGs X e t
structure QO (X:Cx) (e:(Option Expr)) (t:TO):Prop where
 get:PO X e t
structure QTs (X:Cx) (e:(List Expr)) (t:TT):Prop where
 get:PTs X e t
structure QI (X:Cx) (tg iter:Expr) (wi:TI):Prop where
 get:PI X tg iter wi
theorem Ag  : QE X (.Constant (.int i) j a) (tC (.int i)) :=
 ⟨A1z ⟩
theorem Tg  : QE X (.Constant (.bool b) j a) (tC (.bl b)) :=
 ⟨Ba8 ⟩
theorem Fq  : QE X (.Constant .none j a) (tC .non) :=
 ⟨A0g ⟩
theorem Ez  : QE X (.Constant (.str x) j a) (tC (.str x)) :=
 ⟨A2j ⟩
theorem A8p     (hg:Gl X x) (hm:X.mg x=some u) (r:RelV v u) (hd:(x==("__debug__" : Str))=false:=by decide):QE X (.Name x a) (tC v) :=
 ⟨A7d (hg:=hg) (hm:=hm) (r:=r) (hd:=hd)⟩
theorem Dq    {a:Pos}(hg:Gl X x) (hm:X.mg x=none) (hv:bootBuiltins x=some u) (r:RelV v u) (hn:x ≠ "__name__" := by decide) (hd:(x==("__debug__" : Str))=false:=by decide):QE X (.Name x a) (tC v) :=
 ⟨A6z (hg:=hg) (hm:=hm) (hv:=hv) (r:=r) (hn:=hn) (hd:=hd)⟩
theorem Al1 (ha:QT X a tA):QW X (.BoolOp .And [a] pos) tA :=
 ⟨A7h (ha:=ha.get)⟩
theorem Yy (ha:QT X a tA):QW X (.BoolOp .Or [a] pos) tA :=
 ⟨Bp1 (ha:=ha.get)⟩
theorem A1b (ha:QT X a tA)(hb:QW X (.BoolOp .And (b::rst) pos) tB'):QW X (.BoolOp .And (a::b::rst) pos) (Bn9 tA tB') :=
 ⟨Bp4 (ha:=ha.get) (hb:=hb.get)⟩
theorem Zv (ha:QT X a tA)(hb:QW X (.BoolOp .Or (b::rst) pos) tB'):QW X (.BoolOp .Or (a::b::rst) pos) (tOr tA tB') :=
 ⟨Bt4 (ha:=ha.get) (hb:=hb.get)⟩
theorem Y5 (ha:QT X a tA):QT X (.UnaryOp .Not a pos) (Be9 tA) :=
 ⟨Bl4 (ha:=ha.get)⟩
theorem Xr   (h:QE X a t):QE X (.BoolOp op [a] pos) t :=
 ⟨Bp8 (h:=h.get)⟩
theorem U8 (ha:QE X a ta)(hb:QE X (.BoolOp .And (b::rst) pos) tb):QE X (.BoolOp .And (a::b::rst) pos) (A4k ta tb) :=
 ⟨Bk8 (ha:=ha.get) (hb:=hb.get)⟩
theorem Bl7 (ha:QE X a ta):QE X (.UnaryOp .Not a pos) (A1s ta) :=
 ⟨Bn6 (ha:=ha.get)⟩
theorem U0  (hc:QT X c tA) (ha:QE X a ta) (hb:QE X b tb):QE X (.IfExp c a b pos) (tIf tA ta tb) :=
 ⟨A3e (hc:=hc.get) (ha:=ha.get) (hb:=hb.get)⟩
theorem Br  : QSs X [] A1w :=
 ⟨A8i ⟩
theorem Ah (h1:QS X stm t)(h2:QSs X rst u):QSs X (stm::rst) (Az9 t u) :=
 ⟨A0q (h1:=h1.get) (h2:=h2.get)⟩
theorem An (h1:QS X stm t):QSs X [stm] t :=
 ⟨An1 (h1:=h1.get)⟩
theorem J3 (he:QE X e te)(hs:swapsWith e none pos.line X.env=pure false:=by rfl):QS X (.Expr e pos) (Ao8 te) :=
 ⟨A6e (he:=he.get) (hs:=hs)⟩
theorem Bd (he:QE X e te):QS X (.Return (some e) pos) (Bo3 te) :=
 ⟨Bj6 (he:=he.get)⟩
theorem Dn    (hc:QT X c d) (ha:QSs X a t) (hb:QSs X b u):QS X (.If c a b pos) (A7j d t u) :=
 ⟨Bu5 (hc:=hc.get) (ha:=ha.get) (hb:=hb.get)⟩
theorem Bb   (hN:X.N.Nodup) (hi:X.N[i]?=some x) (hx:Loc X.env.scope x) (hf:X.fn x=true\/X.env.scope.names.lookup x=some .local:=by first | exact .inl rfl | exact .inr rfl | assumption):QG X (.Name x pos) (Ju i) :=
 ⟨A7i (hN:=hN) (hi:=hi) (hx:=hx) ⟩
theorem G4  : QGs X [] Az2 :=
 ⟨A7y ⟩
theorem Bu     (h1:QG X e t) (h2:QGs X es u) (hs:(assignEach (e::es) X.env).map (·.2)=assign e X.env::(assignEach es X.env).map (·.2):=by rfl):QGs X (e::es) (Us t u) :=
 ⟨A4p (h1:=h1.get) (h2:=h2.get) (hs:=hs)⟩
theorem Je  (a:X.K=Kq)  {k:Nat}   (hc:X.calm=true) (h:QGs X es t) (hn:(assignEach es X.env).length=n:=by rfl) (hst:(assignEach es X.env).findIdx? (·.1)=none:=by rfl):QG X (.Tuple es k pos) (A1d Kq n t):=by
 subst a;exact⟨Bm8 (hc:=hc) (h:=h.get) (hn:=hn) (hst:=hst)⟩
theorem A0y    (ho:QE X o b) (hi:QE X i a) (hs:Bf6 X t) (ha:∀v,assign (.Subscript o i pos) X.env v=(do
 let ov <- holding [v] (eval o X.env)
 let iv <- holding [v,ov] (eval i X.env)
 standAt pos
 holding [v,ov,iv] (setItem ov iv v)
 release [v,ov,iv] []):=by intro _;rfl):QG X (.Subscript o i pos) (Bc2 b a t) :=
 ⟨Bg1 (ho:=ho.get) (hi:=hi.get) (hs:=hs) (ha:=ha)⟩
theorem Af7    (he:QE X e b) (hg:QG X a g) (hs:swapsWithSole [a] e pos.line X.env=pure false:=by rfl) (hw:swappedStores [a] e X.env=pure none:=by rfl) (h1:(assignEach [a] X.env).map (·.2)=[assign a X.env]:=by rfl):QS X (.Assign [a] e pos) (Vi b g) :=
 ⟨Bj1 (he:=he.get) (hg:=hg.get) (hs:=hs) (hw:=hw) (h1:=h1)⟩
theorem Bt      (hN:X.N.Nodup) (hi:X.N[i]?=some x) (hx:Loc X.env.scope x) (he:QE X e b) (hs:swapsWith e (some (.Name x a)) pos.line X.env=pure false:=by rfl) (hf:X.fn x=true\/X.env.scope.names.lookup x=some .local:=by first | exact .inl rfl | exact .inr rfl | assumption):QS X (.Assign [.Name x a] e pos) (Vi b (Ju i)) :=
 ⟨A0f (hN:=hN) (hi:=hi) (hx:=hx) (he:=he.get) (hs:=hs) ⟩
theorem Bk6       (hc:X.calm=true) (hN:X.N.Nodup) (hi:X.N[i]?=some x) (hj:X.N[j]?=some y) (hij:i≠j) (hx:X.env.scope.names.lookup x=some .local) (hy:X.env.scope.names.lookup y=some .local) (ha:QA X [a,b] h) (hw:swappedStores [.Tuple [.Name x e,.Name y d] g f] (.Tuple [a,b] k2 c) X.env=pure (some [x,y])) (hs:swapsWithSole [.Tuple [.Name x e,.Name y d] g f] (.Tuple [a,b] k2 c) pos.line X.env=pure false:=by rfl):QS X (.Assign [.Tuple [.Name x e,.Name y d] g f] (.Tuple [a,b] k2 c) pos) (Bi9 i j h) :=
 ⟨Bh7 (hc:=hc) (hN:=hN) (hi:=hi) (hj:=hj) (hij:=hij) (hx:=hx) (hy:=hy) (ha:=ha.get) (hw:=hw) ⟩
theorem Ge  (a:X.K=Kq)   (hl:QE X l b):QI X c l (Bi0 Kq b):=by
 subst a;exact⟨Bo5 (hl:=hl.get)⟩
theorem Gr    (hg:Gl X "range") (hm:X.mg "range" = none) (ha:QA X [a] c) (hs:starEach [a] X.env=[(false,eval a X.env)]:=by rfl):QI X tg (.Call (.Name "range" p) [a] [] b) (A4f c) :=
 ⟨At2 (hg:=hg) (hm:=hm) (ha:=ha.get) (hs:=hs)⟩
theorem Mh       (hp:PassesOwn (model X.prog X.w) X.A X.env X.xe) (hc:X.calm=true) (hi:QI X tg a c) (hg:QG X tg g) (hb:QSs X body d) (hs:∀x,foldedSetIterable a X.env x=pure x:=by intro _;rfl):QS X (.For tg a body [] b) (A9u c g d) :=
 ⟨Be3 (hp:=hp) (hc:=hc) (hi:=hi.get) (hg:=hg.get) (hb:=hb.get) (hs:=hs)⟩
theorem Fp   (h:QE X e t) (he:∀whole,isTrue e X.env whole=(do let v <- whole;standAt e.pos;holding [v] (truthy v)):=by intro _;rfl):QT X e (tB t) :=
 ⟨Bj5 (h:=h.get) (he:=he)⟩
theorem Ae  : QA X [] Gx :=
 ⟨Wt ⟩
theorem Af (ha:QE X e te)(hr:QA X es t)(hs:isStar e=false:=by rfl):QA X (e::es) (Cy te t) :=
 ⟨Bm9 (ha:=ha.get) (hr:=hr.get) (hs:=hs)⟩
theorem Eo  (h:QA X es t):QE X (.Tuple es a pos) (Av2 t) :=
 ⟨Bk4 (h:=h.get)⟩
theorem Eg (h:QA X es t):QE X (.List es pos) (Bc1 t) :=
 ⟨Bm0 (h:=h.get)⟩
theorem Ot (F:FnOk X.prog X.w X.K X.mg X.base CX k f fd ps sp)(hr:Room k X.A)(hg:Gl X x)(hm:X.mg x=some (.ref f))(hk:PySem.W.keepIn X.K (.ref f)=true)(hb:Binds X.K fd ps ds)(hd:Vals dvs ds)(hx:Gm CX X E)(ha:QA X (e::es) t)(hdb:(x==("__debug__" : Str))=false:=by decide) (hn:noStar (e::es)=true:=by rfl):QE X (.Call (.Name x p) (e::es) [] pos) (Kv sp dvs E t) :=
 ⟨A4m (F:=F) (hr:=hr) (hg:=hg) (hm:=hm) (hk:=hk) (hb:=hb) (hd:=hd) (hx:=hx) (ha:=ha.get) (hdb:=hdb) (hn:=hn)⟩
theorem A6v  : QO X none Yq :=
 ⟨A6a ⟩
theorem Og (h:QE X e te):QO X (some e) (A2u te) :=
 ⟨A8s (h:=h.get)⟩
theorem A3l  (hr:SlR X r) (he:QE X e te) (hl:QO X low tl) (hu:QO X hi th):QE X (.Subscript e (.Slice low hi none p2) pos) (tSl r te tl th) :=
 ⟨A1x (hr:=hr) (he:=he.get) (hl:=hl.get) (hu:=hu.get)⟩
theorem Ba5  (hr:IxR X r) (ha:QE X a ta) (hb:QE X b tb) (hs:Mm b):QE X (.Subscript a b pos) (tOp r ta tb) :=
 ⟨Bt0 (hr:=hr) (ha:=ha.get) (hb:=hb.get) (hs:=hs)⟩
theorem Bo2 {Kq:PySem.W.Frag}(hKq:X.K=Kq)(pa:PlainAttrs T)(slot:Slot T name idn)(hty:typeOf (.builtin idn)=pure (.type "method_descriptor")) (hm:MtR X idn r) (ho:QE X o to) (hbase:attributeBase o name X.env (eval o X.env)=eval o X.env:=by rfl) (hline:(apos.endLine==cpos.line)=true:=by rfl):QE X (.Call (.Attribute o name apos) [] [] cpos) (Bo6 Kq T r to):=by
 subst hKq;exact⟨Bp7 (pa:=pa) (slot:=slot) (hty:=hty) (hm:=hm) (ho:=ho.get) (hbase:=hbase) (hline:=hline)⟩
theorem An8  (a:X.K=Kq) (pa:PlainAttrs T) (slot:Slot T name idn) (hty:typeOf (.builtin idn)=pure (.type "method_descriptor")) (hm:MtR X idn r) (ho:QE X o to) (ha:QA X (e::es) t) (hbase:attributeBase o name X.env (eval o X.env)=eval o X.env:=by rfl) (hfew:((backTo cpos (starEach (e::es) X.env)).all (fun x=>!x.1)&&(backToKw cpos (keywordEach [] X.env)).all (fun x=>x.1.isSome)
 && decide ((e::es).length+([]:List Keyword).length+(if ([]:List Keyword).isEmpty then 0 else 1)<30))=true:=by rfl) (hline:(apos.endLine==cpos.line)=true:=by rfl) (hs:starEach (e::es) X.env=(false,eval e X.env)::starEach es X.env:=by rfl) (hplain:(backTo cpos (starEach es X.env)).any (·.1)=false:=by rfl):QE X (.Call (.Attribute o name apos) (e::es) [] cpos) (tBM Kq T r to t):=by
 subst a;exact⟨Bb4 (pa:=pa) (slot:=slot) (hty:=hty) (hm:=hm) (ho:=ho.get) (ha:=ha.get) (hbase:=hbase) (hfew:=hfew) (hline:=hline) (hs:=hs) (hplain:=hplain)⟩
theorem Js  (b:X.K=Kq) (ho:QE X a ta) (hv:QE X e te) (hbase:attributeBase a "append" X.env (eval a X.env)=eval a X.env:=by rfl) (hfew:((backTo cpos (starEach [e] X.env)).all (fun x=>!x.1)&&(backToKw cpos (keywordEach [] X.env)).all (fun x=>x.1.isSome)
 && decide ([e].length+([]:List Keyword).length+(if ([]:List Keyword).isEmpty then 0 else 1)<30))=true:=by rfl) (hline:(apos.endLine==cpos.line)=true:=by rfl) (hns:isStar e=false:=by rfl):QE X (.Call (.Attribute a "append" apos) [e] [] cpos) (tBM Kq "list" rAppF ta (Cy te Gx)):=by
 subst b;exact⟨Ar4 (ho:=ho.get) (hv:=hv.get) (hbase:=hbase) (hfew:=hfew) (hline:=hline) (hns:=hns)⟩
theorem Fg  : QTs X [] Be5 :=
 ⟨A6i ⟩
theorem Oj    (h:QT X c t):QTs X [c] t :=
 ⟨A8c (h:=h.get)⟩
theorem Im (L:Fj X N' idx scope)(hc:X.calm=true)(hi:QI X tg iter wi)(hg:∀d C b a c,QG (Ca X N' scope d C b a c) tg g)(ht:∀d C b a c,QTs (Ca X N' scope d C b a c) ifs tc)(he:∀d C b a c,QE (Ca X N' scope d C b a c) elt te)(hs:∀x,foldedSetIterable iter X.env x=pure x:=by intro _;rfl):QE X (.ListComp elt [⟨tg,iter,ifs,0⟩] scope pos) (tLC idx wi g tc te) :=
 ⟨Bt9 (L:=L) (hc:=hc) (hi:=hi.get) (hg:=fun d C b a c=>(hg _ C _ _ _).get) (ht:=fun d C b a c=>(ht _ C _ _ _).get) (he:=fun d C b a c=>(he _ C _ _ _).get) (hs:=hs)⟩
theorem Z0   {f d:Pos}(hN:X.N.Nodup) (hi':X.N[i]?=some y) (hy:Loc X.env.scope y) (L:Fj X N' idx scope) (hc:X.calm=true) (hi:QI X tg iter wi) (hg:∀e C b a c,QG (Ca X N' scope e C b a c) tg g) (ht:∀e C b a c,QTs (Ca X N' scope e C b a c) ifs tc) (he:∀e C b a c,QE (Ca X N' scope e C b a c) elt te) (hsw:swapsWith (.ListComp elt [⟨tg,iter,ifs,0⟩] scope pos) (some (.Name y f)) d.line X.env=pure true:=by rfl) (hf:X.fn y=true\/X.env.scope.names.lookup y=some .local:=by first | exact .inl rfl | exact .inr rfl | assumption) (hs:∀x,foldedSetIterable iter X.env x=pure x:=by intro _;rfl):QS X (.Assign [.Name y f] (.ListComp elt [⟨tg,iter,ifs,0⟩] scope pos) d) (Vi (tLC idx wi g tc te) (Ju i)) :=
 ⟨A3z (hN:=hN) (hi':=hi') (hy:=hy) (L:=L) (hc:=hc) (hi:=hi.get) (hg:=fun e C b a c=>(hg _ C _ _ _).get) (ht:=fun e C b a c=>(ht _ C _ _ _).get) (he:=fun e C b a c=>(he _ C _ _ _).get) (hsw:=hsw)  (hs:=hs)⟩
theorem Be0 (ha:QE X a ta):QE X (.UnaryOp .USub a pos) (tUn (rU fun i=>.int (-i)) ta) :=
 ⟨Be7 (ha:=ha.get)⟩
theorem Fz (ha:QE X a ta)(hb:QE X b tb):QE X (.BinOp a .Sub b pos) (tOp (rI0 fun i j=>.int (i-j)) ta tb) :=
 ⟨As8 (ha:=ha.get) (hb:=hb.get)⟩
theorem Hr (ha:QE X a ta)(hb:QE X b tb):QE X (.BinOp a .Mult b pos) (tOp (rI CMul fun i j=>.int (i*j)) ta tb) :=
 ⟨As9 (ha:=ha.get) (hb:=hb.get)⟩
theorem Uk (ha:QE X a ta)(hb:QE X b tb):QE X (.BinOp a .FloorDiv b pos) (tOp (rI A2t fun i j=>.int (i / j)) ta tb) :=
 ⟨Ae9 (ha:=ha.get) (hb:=hb.get)⟩
theorem Gu (ha:QE X a ta)(hb:QE X b tb):QE X (.BinOp a .Mod b pos) (tOp (rI (fun _ j=>0<j) fun i j=>.int (i % j)) ta tb) :=
 ⟨Au7 (ha:=ha.get) (hb:=hb.get)⟩
theorem Hs (ha:QE X a ta)(hb:QE X b tb):QE X (.BinOp a .Pow b pos) (tOp (rI A0r fun i j=>.int (i ^ j.toNat)) ta tb) :=
 ⟨Ax3 (ha:=ha.get) (hb:=hb.get)⟩
theorem Zg (ha:QE X a ta)(hb:QE X b tb):QT X (.Compare a [.Lt] [b] pos) (Ij (tOp (rI0 fun i j=>.bl (decide (i<j))) ta tb)) :=
 ⟨A4h (ha:=ha.get) (hb:=hb.get)⟩
theorem A3f (ha:QE X a ta)(hb:QE X b tb):QT X (.Compare a [.Gt] [b] pos) (Ij (tOp (rI0 fun i j=>.bl (decide (j<i))) ta tb)) :=
 ⟨A0e (ha:=ha.get) (hb:=hb.get)⟩
theorem A0m (ha:QE X a ta)(hb:QE X b tb):QE X (.Compare a [.GtE] [b] pos) (tOp (rI0 fun i j=>.bl (decide (j<=i))) ta tb) :=
 ⟨A2x (ha:=ha.get) (hb:=hb.get)⟩
theorem Mi (ha:QE X a ta)(hb:QE X b tb):QT X (.Compare a [.Is] [b] pos) (Ij (tOp (fun x y H Q=>y=.non/\Q (.bl (decide (x=.non))) H) ta tb)) :=
 ⟨Az0 (ha:=ha.get) (hb:=hb.get)⟩
theorem Nk (ha:QE X a ta)(hb:QE X b tb):QT X (.Compare a [.IsNot] [b] pos) (Ij (tOp (fun x y H Q=>y=.non/\Q (.bl (!decide (x=.non))) H) ta tb)) :=
 ⟨Ae3 (ha:=ha.get) (hb:=hb.get)⟩
theorem Ax6 (hu:X.A.units+64<cLine)(ha:QE X a ta)(hb:QE X b tb):QE X (.Compare a [.Lt] [b] pos) (tOp (Bi4) ta tb) :=
 ⟨At1 (hu:=hu) (ha:=ha.get) (hb:=hb.get)⟩
theorem Rg  (a:X.K=Kq) (hgl:Gl X "abs") (hm:X.mg "abs" = none) (ha:QA X (e::es) t) (hns:noStar (e::es)=true:=by rfl):QE X (.Call (.Name "abs" p) (e::es) [] pos) (tCB (Nj Kq) t):=by
 exact⟨Zo (hgl:=hgl) (hm:=hm) (ha:=ha.get) (hns:=hns)⟩
theorem By  (a:X.K=Kq) (hgl:Gl X "isinstance") (hm:X.mg "isinstance" = none) (ha:QA X (e::es) t) (hns:noStar (e::es)=true:=by rfl):QE X (.Call (.Name "isinstance" p) (e::es) [] pos) (tCB (Nf Kq) t):=by
 exact⟨Zq (hgl:=hgl) (hm:=hm) (ha:=ha.get) (hns:=hns)⟩
theorem Wv  (a:X.K=Kq) (hgl:Gl X "isinstance") (hm:X.mg "isinstance" = none) (ha:QA X (e::es) t) (hns:noStar (e::es)=true:=by rfl):QE X (.Call (.Name "isinstance" p) (e::es) [] pos) (tCB (Iw Kq) t):=by
 exact⟨X7 (hgl:=hgl) (hm:=hm) (ha:=ha.get) (hns:=hns)⟩
theorem W8  (a:X.K=Kq) (hc:X.calm=true) (hgl:Gl X "any") (hm:X.mg "any" = none) (ha:QA X (e::es) t) (hns:noStar (e::es)=true:=by rfl):QE X (.Call (.Name "any" p) (e::es) [] pos) (tCB (Li Kq) t):=by
 subst a;exact⟨Yg (hc:=hc) (hgl:=hgl) (hm:=hm) (ha:=ha.get) (hns:=hns)⟩
theorem Ph  (a:X.K=Kq) (hc:X.calm=true) (hgl:Gl X "all") (hm:X.mg "all" = none) (ha:QA X (e::es) t) (hns:noStar (e::es)=true:=by rfl):QE X (.Call (.Name "all" p) (e::es) [] pos) (tCB (Lf Kq) t):=by
 subst a;exact⟨Yb (hc:=hc) (hgl:=hgl) (hm:=hm) (ha:=ha.get) (hns:=hns)⟩
theorem Yr  (a:X.K=Kq) (hgl:Gl X "int") (hm:X.mg "int" = none) (ha:QA X (e::es) t) (hns:noStar (e::es)=true:=by rfl):QE X (.Call (.Name "int" p) (e::es) [] pos) (tCB (Lq Kq) t):=by
 exact⟨Xz (hgl:=hgl) (hm:=hm) (ha:=ha.get) (hns:=hns)⟩
theorem Bs  (a:X.K=Kq) (hgl:Gl X "tuple") (hm:X.mg "tuple" = none) (ha:QA X (e::es) t) (hns:noStar (e::es)=true:=by rfl):QE X (.Call (.Name "tuple" p) (e::es) [] pos) (tCB (Hb Kq) t):=by
 subst a;exact⟨Pz (hgl:=hgl) (hm:=hm) (ha:=ha.get) (hns:=hns)⟩
theorem Xk  (a:X.K=Kq) (hc:X.calm=true) (hgl:Gl X "min") (hm:X.mg "min" = none) (ha:QA X (e::es) t) (hns:noStar (e::es)=true:=by rfl):QE X (.Call (.Name "min" p) (e::es) [] pos) (tCB (Lx Kq) t):=by
 exact⟨Xd (hc:=hc) (hgl:=hgl) (hm:=hm) (ha:=ha.get) (hns:=hns)⟩
theorem Ag2   {p e d:Pos}{c:List Expr}{g:Nat}(hg:Gl X "zip") (hm:X.mg "zip" = none) (ha:QA X [a,b] f) (hs1:isStar a=false:=by rfl) (hs2:isStar b=false:=by rfl):QI X (.Tuple c g d) (.Call (.Name "zip" p) [a,b] [] e) (Be6 f) :=
 ⟨Bi8 (hg:=hg) (hm:=hm) (ha:=ha.get) (hs1:=hs1) (hs2:=hs2)⟩
theorem A5v      (hg:Gl X "enumerate") (hm:X.mg "enumerate" = none) (ha:QA X [a] e) (hs1:isStar a=false:=by rfl):QI X (.Tuple b f c) (.Call (.Name "enumerate" p) [a] [] d) (A0v e) :=
 ⟨A7s (hg:=hg) (hm:=hm) (ha:=ha.get) (hs1:=hs1)⟩
theorem A6r {i j k:Nat}{x y z:Str}{a b c:Expr}{m:TA}{f g e h:Pos}{l k2 d}(hc:X.calm=true)(hN:X.N.Nodup)(hi:X.N[i]?=some x)(hj:X.N[j]?=some y)(hk:X.N[k]?=some z)(hij:i≠j)(hik:i≠k)(hjk:j≠k)(hx:X.env.scope.names.lookup x=some .local)(hy:X.env.scope.names.lookup y=some .local)(hz:X.env.scope.names.lookup z=some .local)(ha:QA X [a,b,c] m)(hw:swappedStores [.Tuple [.Name x f,.Name y g,.Name z e] l h] (.Tuple [a,b,c] k2 d) X.env=pure (some [x,y,z]))(hs:swapsWithSole [.Tuple [.Name x f,.Name y g,.Name z e] l h] (.Tuple [a,b,c] k2 d) pos.line X.env=pure false:=by rfl):QS X (.Assign [.Tuple [.Name x f,.Name y g,.Name z e] l h] (.Tuple [a,b,c] k2 d) pos) (A1f i j k m) :=
 ⟨A8a (hc:=hc) (hN:=hN) (hi:=hi) (hj:=hj) (hk:=hk) (hij:=hij) (hik:=hik) (hjk:=hjk) (hx:=hx) (hy:=hy) (hz:=hz) (ha:=ha.get) (hw:=hw) ⟩
theorem Xl (hu:X.A.units+64<cLine)(ha:QE X a ta)(hb:QE X b tb)(hm:behindInMarks .NotIn b=false):QE X (.Compare a [.NotIn] [b] pos) (tOp (A2g true) ta tb) :=
 ⟨Wl (hu:=hu) (ha:=ha.get) (hb:=hb.get) (hm:=hm)⟩
theorem Hj (hu:X.A.units+64<cLine)(ha:QE X a ta)(hb:QE X b tb)(hm:behindInMarks .NotIn b=false):QT X (.Compare a [.NotIn] [b] pos) (Ij (tOp (A2g true) ta tb)) :=
 ⟨Wz (hu:=hu) (ha:=ha.get) (hb:=hb.get) (hm:=hm)⟩
theorem Jr    (h:Pn es=some vs):QA X es (tK vs):=⟨Wh h⟩
theorem QW.qt    (h:QW X e t):QT X e t:=⟨h.get.pt⟩
theorem qv (i:Nat)  {a:Pos}(hN:X.N[i]?=some x:=by rfl) (hv:Vis X.env.scope x:=by first | exact Or.inl rfl | exact Or.inr (Or.inl rfl) | exact Or.inr (Or.inr rfl)) (hd:(x==("__debug__" : Str))=false:=by decide) (hcd:(x==("__classdict__" : Str))=false:=by decide):QE X (.Name x a) (Oz i):=⟨Xj hN hv hd hcd⟩
end L2
namespace L2
open PySem
theorem Gk       (h:QSs X st t) (k:t D a H):∃t,PSs X st t/\t D a H:=⟨t,h.get,k⟩
theorem Rn:Eh "NoneType" "int" = some false:=by trivial
theorem Rj:Eh "NoneType" "str" = some false:=by trivial
theorem Qh:Eh "NoneType" "bool" = some false:=by trivial
theorem Qc:Eh "NoneType" "list" = some false:=by trivial
theorem O3:Eh "NoneType" "tuple" = some false:=by trivial
theorem Ab7:Eh "bool" "int" = some true:=by trivial
theorem Zf:Eh "bool" "str" = some false:=by trivial
theorem Ye:Eh "bool" "bool" = some true:=by trivial
theorem Y0:Eh "bool" "list" = some false:=by trivial
theorem Vd:Eh "bool" "tuple" = some false:=by trivial
theorem Ag5:Eh "int" "int" = some true:=by trivial
theorem Af0:Eh "int" "str" = some false:=by trivial
theorem Zk:Eh "int" "bool" = some false:=by trivial
theorem Ab6:Eh "int" "list" = some false:=by trivial
theorem Yh:Eh "int" "tuple" = some false:=by trivial
theorem Ad2:Eh "str" "int" = some false:=by trivial
theorem Ad8:Eh "str" "str" = some true:=by trivial
theorem Ac1:Eh "str" "bool" = some false:=by trivial
theorem Y8:Eh "str" "list" = some false:=by trivial
theorem Ws:Eh "str" "tuple" = some false:=by trivial
theorem Ac0:Eh "list" "int" = some false:=by trivial
theorem Z2:Eh "list" "str" = some false:=by trivial
theorem X3:Eh "list" "bool" = some false:=by trivial
theorem Xq:Eh "list" "list" = some true:=by trivial
theorem Vn:Eh "list" "tuple" = some false:=by trivial
theorem Wx:Eh "tuple" "int" = some false:=by trivial
theorem Xw:Eh "tuple" "str" = some false:=by trivial
theorem Vh:Eh "tuple" "bool" = some false:=by trivial
theorem Vg:Eh "tuple" "list" = some false:=by trivial
theorem Uc:Eh "tuple" "tuple" = some true:=by trivial
section
variable {K:PySem.W.Frag}{H:Hp}{Q:VK}{x:V}{T:String}{i j:Int}{a p:Addr}
theorem Bc7  (h:H a=some (.lst xs)):Mz H (.ref a)=some "list" := by simp only[Mz,h]
theorem Bh1  (h:H a=some (.tup xs)):Mz H (.ref a)=some "tuple" := by simp only[Mz,h]
theorem A6s  (h:H a=some (.lst xs)):Aq8 H (.ref a)=some xs.length:=by simp only[Aq8,h]
theorem A6w  (h:H a=some (.tup xs)):Aq8 H (.ref a)=some xs.length:=by simp only[Aq8,h]
end
abbrev g2 (K:PySem.W.Frag)(i j:Nat):TG:=A1d K 2 (Us (Ju i) (Us (Ju j) Az2))
theorem exc {R:Addr->Addr->List V->List V->Prop}{x y:Addr}:(∃a b xs ys,V.ref x=V.ref a/\V.ref y=V.ref b/\R a b xs ys)↔∃xs ys,R x y xs ys:=by
 constructor
 ·rintro⟨a,b,xs,ys,e1,e2,h⟩;cases e1;cases e2;exact⟨xs,ys,h⟩
 ·rintro⟨xs,ys,h⟩;exact⟨x,y,xs,ys,rfl,rfl,h⟩
mutual
def noL:PyData->Bool
 | .none=>true
 | .bool _=>true
 | .int _=>true
 | .str _=>true
 | .tuple ds=>Br4 ds
 | .list _=>false
 | .dict _=>false
def Br4:List PyData->Bool
 | []=>true
 | d::r=>noL d&&Br4 r
end
theorem TrL.got {H:Hp}:∀{ds:List PyData}{vs:List V}{k:Nat}{d:PyData},TrL H ds vs->ds[k]?=some d->∃v,vs[k]?=some v/\Tr H d v
 | [],_,k,d,h,e=>by simp at e
 | d::r,_,0,_,⟨v,_,rfl,q,_⟩,e=>by simp at e;subst e;exact⟨v,rfl,q⟩
 | d::r,_,k+1,_,⟨_,_,rfl,_,q⟩,e=>by simp at e;simpa using TrL.got q e
theorem TrL.app {H:Hp}:∀{ds es:List PyData}{vs us:List V},TrL H ds vs->TrL H es us->TrL H (ds++es) (vs++us)
 | [],es,_,us,h,q=>by cases (show _=[] from h);exact q
 | d::r,es,_,us,⟨v,vr,rfl,q1,q2⟩,q=>⟨v,vr++us,rfl,q1,TrL.app q2 q⟩
theorem TrL.one    (h:Tr H d v):TrL H [d] [v]:=⟨v,[],rfl,h,rfl⟩
end L2
namespace L2
open PySem PySem.Spec PyProof.Rows
end L2
namespace L2
open PySem
mutual
def wt:PyData->Nat
 | .none=>4
 | .bool _=>5
 | .int _=>1921
 | .str x=>10*x.length+2
 | .list xs=>Ie xs+4
 | .tuple xs=>Ie xs+4
 | .dict _=>0
def Ie:List PyData->Nat
 | []=>0
 | x::xs=>wt x+2+Ie xs
end
theorem Aa4:∀(ts:List Str) (k:Nat) (acc:Str),(textFrom k acc ts).length<=acc.length+(ts.map fun t=>t.length+2).sum
 | [],k,acc=>Nat.le_refl _
 | t::r,k,acc=>by
  have ih:=Aa4 r (k+1) (acc++(if k>0 then ", " else "" : String)++t)
  have e:(acc++(if k>0 then ", " else "" : String)++t).length<=acc.length+2+t.length:=by
   rw[strLen_append,strLen_append]
   split
   ·exact Nat.le_refl _
   ·show acc.length+0+t.length<=_;omega
  show (textFrom (k+1) (acc++(if k>0 then ", " else "" : String)++t) r).length<=_
  rw[List.map_cons,List.sum_cons];omega
theorem A2v (ts:List Str):(listText ts).length<=(ts.map fun t=>t.length+2).sum+4:=by
 unfold listText;rw[strLen_append]
 have:=Aa4 ts 0 "["
 have b:("[" : Str).length=1:=rfl
 have a:("]" : Str).length=1:=rfl
 omega
theorem V2:∀ts:List Str,piled ts=(ts.map fun t=>t.length+2).sum
 | []=>rfl
 | t::r=>by rw[piled_cons,List.map_cons,List.sum_cons,V2 r]
theorem Aw2 (ts:List Str):(tupleText ts).length<=(ts.map fun t=>t.length+2).sum+4:=by
 unfold tupleText;rw[strLen_append,strLen_append]
 have b:("(" : Str).length=1:=rfl
 have c:(if ts.length==1 then (",)" : Str) else (")" : Str)).length<=2:=by split <;> decide
 have a:((if ts.length==1 then ",)" else ")" : String):Str).length<=2:=by grind
 by_cases h:ts=[]
 ·subst h;show 1+0+_<=_;grind
 ·have:=join_length_add _ h
  rw[V2]at this;omega
mutual
theorem Ab0:∀d:PyData,d.canLay0=true->d.showable=true->d.shown.length<=wt d
 | .none,_,_=>by decide
 | .bool b,_,_=>by cases b <;> decide
 | .int i,_,h=>PyProof.Rows.int_text_len_1921 (by simpa[PyData.showable] using h)
 | .str x,h,_=>StrLaws.reprText_len x fun c hc=>by
  have h:x.cps.all (·<0x110000)=true:=h
  have:=Array.all_eq_true_iff_forall_mem.mp h c (Array.mem_toList_iff.mp hc);have:=of_decide_eq_true this;omega
 | .list xs,h,s=>Nat.le_trans (A2v _) (Nat.add_le_add_right (Lh xs h s) 4)
 | .tuple xs,h,s=>Nat.le_trans (Aw2 _) (Nat.add_le_add_right (Lh xs h s) 4)
 | .dict kv,h,_=>nomatch h
theorem Lh:∀ds:List PyData,PyData.canLayAll0 ds=true->PyData.showableAll ds=true->((PyData.shownAll ds).map fun t=>t.length+2).sum<=Ie ds
 | [],_,_=>Nat.le_refl _
 | d::r,h,s=>by
  obtain⟨h1,h2⟩:=Bool.and_eq_true_iff.mp (show (d.canLay0&&PyData.canLayAll0 r)=true from h)
  obtain⟨s1,s2⟩:=Bool.and_eq_true_iff.mp (show (d.showable&&PyData.showableAll r)=true from s)
  have a:=Ab0 d h1 s1;have b:=Lh r h2 s2
  show (((d.shown::PyData.shownAll r).map fun t=>t.length+2).sum)<=wt d+2+Ie r
  rw[List.map_cons,List.sum_cons];omega
end
end L2
namespace L2
open PySem PySem.Spec PyProof.Rows
end L2
namespace HT
open PySem PySem.Spec PyProof.Rows
end HT
namespace L2
open PySem PySem.Spec PyProof.Rows
section
variable {X:Cx}
def A9z (y:Str):Value->Bool
 | .str z _=>z==y
 | _=>false
theorem Ap5:∀{ss:List Str}{us:List Value},Vals (ss.map V.str) us->∀u∈us,∃z t,u=.str z t
 | [],_,r,u,hu=>by cases r;cases hu
 | s::ss,_,r,u,hu=>by
  cases r with
  | cons r1 r2 =>
   rcases List.mem_cons.mp hu with rfl | hu
   ·obtain⟨t,rfl⟩:=r1;exact⟨s,t,rfl⟩
   ·exact Ap5 r2 u hu
end
end L2
namespace HT
open PySem PySem.Spec PyProof.Rows
section
variable {prog:Program}{w:World}{A:Around}{E:Value->Shared->Prop}{s:Shared}
theorem My    {lo hi:Option Int}  (ht:IsTup s.heap t items) (hs:s.heap.IsSliceOf b g f .none) (pl:IsPart g lo) (i:IsPart f hi)
 (hw:sIx items.size 0 lo=0/\sIx items.size items.size hi=items.size) (h:Q (.ref t) s):wpAny (model prog w) A (getItem (.ref t) (.ref b)) Q E s:=by
 obtain⟨k,d,c,j⟩:=id hs;have e:s.TypeIs (.ref b) "slice" := ⟨k,d,c⟩;unfold getItem
 try with_reducible refine wpAny_holding ?_
 first | refine wpAny_bind (wpAny_pure ?_) | skip
 refine wpAny_bind (wpAny_sequenceKey ht.typeIs (by decide) ?_)
 refine wpAny_bind (wpAny_callSpecial?_slot (name:="__getitem__") ht.typeIs PyProof.Rows.slot_tuple_getitem
  (wpAny_call_entry PyProof.Rows.slot_tuple_getitem ht.typeIs entry_tuple_getitem ?_ (args_tuple_getitem _ _)))
 show wpAny _ _ (Builtin.Tuple.tupleItemsOf (.ref t) >>= _) _ _ s
 refine wpAny_bind (tupleItemsOf_ ht ?_)
 refine wpAny_bind (wpAny_typeOf e ?_)
 rw[if_pos (by decide)]
 refine wpAny_bind (Jq hs pl i ?_)
 show wpAny _ _ (if (((sIx items.size 0 lo:Nat):Int)==0&&(1:Int)==1&&(sIx _ _ _-sIx _ 0 _)==items.size)=true then _ else _) _ _ s
 have a:(((sIx items.size 0 lo):Int)==0&&(1:Int)==1&&sIx items.size items.size hi-sIx items.size 0 lo==items.size)=true:=by
  rw[hw.1,hw.2];simp
 rw[if_pos a]
 refine wpAny_bind  (wpAny_bind (wpAny_typeOf ht.typeIs (wpAny_pure ?_)))
 refine wpAny_bind (wpAny_rule ?_)
 first
  | exact wpAny_pure ⟨_,rfl,wpAny_pure h⟩
  | exact wpAny_bind _
  | exact wpAny_bind _
  | trace_state
end
end HT
namespace L2
open PySem PySem.Spec PyProof.Rows
section
variable {X:Cx}
def Ba9 (K:PySem.W.Frag):V->Option Int->Option Int->Hp->VK->Prop:=fun x lo hi H Q=>∃a xs,x=.ref a/\SqT K H a xs /\
 (HT.sIx xs.length 0 lo=0/\HT.sIx xs.length xs.length hi=xs.length)/\Q (.ref a) H
theorem A6m:SlR X (Ba9 X.K):=by
 intro d s σ H x v vl vu lo hi sl Q I k f g e h;obtain⟨a,xs,rfl,j,hw,q⟩:=h
 cases k
 obtain⟨i,r,c,hz⟩:=I.tuple j
 have b  := by exact r.length.symm
 refine⟨"tuple",_,PyProof.Rows.slot_tuple_getitem.lookup,c.typeIs,?_⟩
 exact HT.My c f g e (by grind) ⟨.ref a,H,I,rfl,q⟩
end
theorem Vm (l:Addr)(items:Array Value)(n:Nat)(dd:Option Addr)(sl:Array (Option Value))(x:Value)(e:Value->Bool)(j:Nat)(hj:j<items.size)
 (p:e items[j]=true) (hno:∀m (hm:m<items.size),m<j->e items[m]=false) :
 Meets (Builtin.«tuple.index» ⟨[.ref l,x],[]⟩)
  (fun A R s=>s.heap.get? l=some { cls:=.type "tuple",dict:=dd,data:=.seq items n,slots:=sl }/\(∀y,y∈items->SeqAt.EqAt A.in1 s y x (e y))/\R (.ok (.ret (.int j s.toks))) { s with toks:=s.toks+1 }) :=
 .of_wp fun f w A R s h=>by
  obtain⟨hp,g,d,tk,os⟩:=s;obtain⟨hl,he,h⟩:=h
  wp_walk using wpAny_loadPart' hl
  change wpAny _ _ (forIn (m:=Sem) [:min items.size items.size] ((none,()):Option Fin×Unit) _) _ _ _
  rw[Std.Legacy.Range.forIn_eq_forIn_range'];simp only[Std.Legacy.Range.size,Nat.sub_zero,Nat.add_sub_cancel,Nat.div_one,Nat.min_self]
  refine wpAny_forIn_list _ (fun a b s'=>b.1=none/\s'=⟨hp,g,d,tk,os⟩/\∃i,i<=j/\a=List.range' i (items.size-i)) _ ?_ ?_ _ _ ⟨rfl,rfl,0,Nat.zero_le _,rfl⟩
  ·rintro y a b s' ⟨hb,rfl,i,c,k⟩
   have o:i<items.size:=Nat.lt_of_le_of_lt c hj;have hd:items.size-i=(items.size-(i+1))+1:=(Nat.succ_pred_eq_of_pos (Nat.sub_pos_of_lt o)).symm;rw[hd,List.range'_succ]at k
   cases k
   have hg:items[y]?=some items[y]:=by simp[o]
   simp only[hg]
   refine wpAny_bind (he _ (Array.getElem_mem o) f w _ _ ?_)
   rcases Nat.lt_or_eq_of_le c with lt | rfl
   ·rw[hno y o lt]
    wp_walk
    exact⟨rfl,rfl,y+1,lt,rfl⟩
   ·rw[p]
    wp_walk
    exact⟨_,rfl,h⟩
  ·rintro⟨b1,b2⟩ s' ⟨hb,rfl,i,c,k⟩
   have hz:=congrArg List.length k
   simp at hz
   omega
section
variable {X:Cx}
theorem A3n (y:Str){ss:List Str}  (r:Vals (ss.map V.str) us)  (hm:m<us.length) (h2:m<ss.length):A9z y us[m]=(ss[m]==y):=by
 obtain⟨u,a,b⟩:=r.get (i:=m) (x:=V.str ss[m]) (by grind)
 obtain⟨t,rfl⟩:=b;rw[List.getElem?_eq_getElem hm]at a
 injection a with a
 rw[a];rfl
def Xc (K:PySem.W.Frag):V->List V->Hp->VK->Prop:=fun x vs H Q=>∃(a:Addr) (ss:List Str) (y:Str) (j:Nat),x=.ref a/\vs=[.str y]/\SqT K H a (ss.map V.str)/\ss[j]?=some y/\(∀m<j,ss[m]?≠some y)/\Q (.int (j:Nat)) H
theorem Av7:MtM X "tuple.index" (Xc X.K):=by
 intro i s σ H x vs v us Q I D A h;obtain⟨a,C,y,j,rfl,rfl,G,B,M,q⟩:=h
 cases D
 obtain⟨u,rfl,p⟩:=A.one;obtain⟨t,rfl⟩:=p;obtain⟨b,r,l,hz⟩:=I.tuple G
 obtain⟨o,e,k,n,f⟩:=(show s.heap.IsTuple a b.toArray from l)
 obtain⟨c0,dd,E,sl⟩:=o
 dsimp only at k f
 subst k f
 have c  := by have:=r.length;simpa using this.symm
 obtain⟨g,ej⟩:=List.getElem?_eq_some_iff.mp B
 refine call_meets F.slot_tuple_index ⟨_,e,rfl⟩ F.entry_tuple_index (F.args_tuple_index_2 _ _) (Vm a _ n _ _ _ (A9z y) j (by simpa[c] using g) ?_ ?_) ⟨e,fun w K=>?_,?_⟩
 ·have:=A3n y r  (by omega) g
  simp_all
 ·intro m J L
  have:=A3n y r  (by simpa using J) (by omega)
  grind
 ·obtain⟨z,t',rfl⟩:=Ap5 r w (by simpa using K)
  exact SeqAt.EqAt.str_str z _ y t
 ·exact⟨.int _,H,I.tok _,⟨_,rfl⟩,q⟩
theorem Ag3  (a:X.K=Kq):MtM X "tuple.index" (Xc Kq):=by
 subst a;exact Av7
end
section
variable {X:Cx}
def Bx3:V->Option Str
 | .non=>some (Str.ofString "None")
 | .bl b=>some (if b then Str.ofString "True" else Str.ofString "False")
 | .str x=>some x
 | _=>none
def Rf (K:PySem.W.Frag):List V->Hp->VK->Prop:=fun xs H Q=>∃x z,xs=[x]/\Bx3 x=some z/\Q (.str z) H
theorem Au3:CallR X (.type "str") (Rf X.K):=by
 intro d s σ H xs us Q I r h;obtain⟨x,z,rfl,a,q⟩:=h;obtain⟨u,rfl,c⟩:=vals1 r
 cases x with
 | non=>cases a;cases (c);exact P.str_of_none ⟨.str _,H,I.tok _,⟨_,rfl⟩,q⟩
 | bl b=>cases a;cases (c);exact P.str_of_bool ⟨.str _,H,I.tok _,⟨_,by trivial⟩,q⟩
 | str y=>cases a;obtain⟨t,rfl⟩:=c;exact P.str_of_str ⟨.str _,H,I,⟨_,rfl⟩,q⟩
 | _=>cases a
end
section
variable {X:Cx}
def Bw4 (ks:List Str)(xs:List V):List (Key×V):=(ks.zip xs).map fun p=>((Sum.inr p.1:Key),p.2)
end
end L2
namespace L2
open PySem PySem.Spec PyProof.Rows PySem.W
end L2
namespace L2
open PySem PySem.Spec PyProof.Rows
def A3d:Value->Bool
 | .bool b=>b
 | _=>false
theorem Am9:∀{bs:List Bool}{us:List Value},Vals (bs.map V.bl) us->us=bs.map Value.bool
 | [],us,h=>by cases h;rfl
 | b::bs,us,h=>by
  cases h with
  | cons r rs =>
   rw[Am9 rs]
   cases r;rfl
section
variable {X:Cx}
def Ak9 (K:PySem.W.Frag):V->List V->Hp->VK->Prop:=fun x vs H Q=>∃(a:Addr) (bs:List Bool) (j:Nat),x=.ref a/\vs=[.bl true]/\SqL K H a (bs.map V.bl)/\bs[j]?=some true/\(∀m<j,bs[m]?≠some true)/\j<1000000/\Q (.int j) H
theorem As3 {Kq:PySem.W.Frag}(hKq:X.K=Kq)(hu:X.A.units+64<cLine):MtM X "list.index" (Ak9 Kq):=by
 subst hKq;intro pins s σ H x vs v us Q I rx rv h;obtain⟨a,bs,j,rfl,rfl,hq,hj,hno,hjs,q⟩:=h
 cases rx
 obtain⟨u,rfl,ru⟩:=rv.one
 cases ru
 obtain⟨its,r,pl,hz⟩:=I.list hq
 cases Am9 r
 obtain⟨o,n,e,hc,hdn,hd⟩:=pl;obtain⟨c0,dd,dat,sl⟩:=o
 dsimp only at hc hd hdn
 subst hc hd hdn;obtain⟨lj,ej⟩:=List.getElem?_eq_some_iff.mp hj
 refine call_meets F.slot_list_index ⟨_,e,rfl⟩ F.entry_list_index (F.args_list_index_2 _ _) (SeqAt.list_indexAt a (bs.map Value.bool).toArray n none sl (.bool true) A3d j (by simpa using lj) (by omega) ?_ ?_) ⟨e,fun w hw=>?_,?_⟩
 ·simp[A3d,ej]
 ·intro m hm hlt
  have hm':m<bs.length:=by simpa using hm
  have h2:=hno m hlt;rw[List.getElem?_eq_getElem hm']at h2
  simpa[A3d] using h2
 ·obtain⟨b,hb,rfl⟩:∃b∈bs,Value.bool b=w:=by simpa using hw
  have:=SeqAt.eqAt_reads (.bool b) (.bool true) X.A.in1 s _ _ _ _ (.bool b) (.bool true) rfl rfl (by show X.A.units+1+0<_;omega)
  cases b <;> exact this
 ·exact⟨.int _,H,I.tok _,⟨_,rfl⟩,q⟩
end
section
variable {X:Cx}
def Bq8:V->Option Int->Option Int->Hp->VK->Prop:=fun x lo hi H Q=>∃z:Str,x=.str z/\z.length<=sizeLine/\Q (.str (Txt.slice z lo hi)) H
theorem part_of   (h:IsPart v o):∃p:Option (Int×Tok),v=partValue p/\p.map (·.1)=o:=by
 cases h with
 | none=>exact⟨none,rfl,rfl⟩
 | int i t=>exact⟨some (i,t),rfl,rfl⟩
theorem Bf7:SlR X Bq8:=by
 intro a s σ H x v vl vu lo hi sl Q I d c b e h;obtain⟨z,rfl,f,q⟩:=h;obtain⟨t,rfl⟩:=d;obtain⟨l,rfl,rfl⟩:=part_of b;obtain⟨u,rfl,rfl⟩:=part_of e
 refine⟨"str",_,F.slot_str_getitem.lookup,typeIs_str _ _ _,wpAny_getItem_str_slice (l:=l) (u:=u) (st:=none) c rfl ?_⟩
 exact post_val_or_str ⟨Nat.le_trans (Txt.slice_le z _ _) f,fun t' k=>⟨.str _,H,I.tok _,⟨_,rfl⟩,q⟩⟩
end
end L2
namespace L2
open PySem PySem.Spec PyProof.Rows PySem.W
section
variable {P:Program}{w:World}{H H':Hp}{h h1 h2 B:Heap}{a b:Addr}{o:HO}{outer:List Env}
theorem z8.there (x:z8 P w H h a o):∃u,h.get? a=some u:=by
 cases o with
 | lst xs=>obtain⟨_,_,_,_,e⟩:=x;exact⟨_,e⟩
 | tup xs=>obtain⟨_,_,_,o,e,_⟩:=x;exact⟨_,e⟩
 | dK kvs=>obtain⟨_,_,_,_,o,_,_,e,_⟩:=x;exact⟨_,e⟩
 | dT kvs=>obtain⟨_,_,_,_,o,_,_,e,_⟩:=x;exact⟨_,e⟩
 | set S n=>obtain⟨o,_,_,_,e,_⟩:=x;exact⟨_,e⟩
 | ins C dx fs=>obtain⟨_,_,_,e,_⟩:=x;exact⟨_,e⟩
 | own y=>exact x
 | xd fs=>obtain⟨_,⟨_,_,_,e,_⟩,_⟩:=x;exact⟨_,e⟩
 | rng lo hi=>obtain⟨_,_,_,e⟩:=x;exact⟨_,e⟩
 | frz ob u=>obtain⟨e,_⟩:=x;exact⟨_,e⟩
 | tbl q=>obtain⟨_,e,_⟩:=x;exact⟨_,e⟩
 | met f y=>exact⟨_,(show h.get? a=some _ from x)⟩
 | ext φ=>exact x.2.1
def Cov (fs:List Addr)(H':Hp)(h0 h B:Heap):Prop:=∀b o,h.get? b=some o->b∉fs->((∃u,h0.get? b=some u)\/H' b≠none)->B.get? b=some o
theorem Bq2 (u:Un (frs outer) [] H H' h h1)(hk:HOk P w H' h1)(hB:Cov (frs outer) H' h h1 B)(ff:h1.FunFrames B outer)(frf:∀b∈frs outer,H' b=none)(st:B.StaysIn h2)(up:h1.UpToSlots h2) :
 Un (frs outer) [] H H' h h2/\HOk P w H' h2:=by
 have nx:∀b:Addr,b∉([]:List Addr):=fun b z=>nomatch z
 refine⟨⟨fun b o e n hf _=>st b o (hB b o (u.keep b o e n hf (nx b)) hf (.inl ⟨o,e⟩)),fun b o e n hf _=>?_,fun b o e n _=>u.free b o e n (nx b),fun b o e _=>?_,u.tups,u.frzs,u.tbls⟩,fun a o e=>?_⟩
 ·obtain⟨sl,e1⟩:=u.slot b o e n hf (nx b)
  obtain⟨_,o',e2,nf⟩:=ff.mem hf;rw[e1]at e2;cases e2;obtain⟨sl',e3⟩:=up b _ e1 nf;exact⟨sl',e3⟩
 ·obtain⟨o',e1⟩:=u.there b o e (nx b)
  by_cases hf:b∈frs outer
  ·obtain⟨_,o2,e2,nf⟩:=ff.mem hf
   obtain⟨sl',e3⟩:=up b _ e2 nf;exact⟨_,e3⟩
  ·exact⟨o',st b o' (hB b o' e1 hf (.inl ⟨o,e⟩))⟩
 ·have key:∀b u,H' b≠none->h1.get? b=some u->h2.get? b=some u:=fun b u hn e=>st b u (hB b u e (fun z=>hn (frf b z)) (.inr hn))
  refine (hk a o e).stay (fun b u hb eu=>key b u ?_ eu) (fun _ q=>q) (fun _ _ q=>q)
  rcases hb with rfl | hb
  ·rw[e];simp
  ·rw[hb];simp
end
def TrD (h B:Heap)(e:Addr)(c:Value)(d:Option Addr)(fl:Value):Prop :=
 ∃oe vs T oT ts,h.get? e=some oe/\(oe.cls=c/\oe.dict=d)/\oe.data=.fields vs/\vs[1]?=some (.ref T)/\(B.get? T=none/\T≠e)/\h.get? T=some oT/\oT.data=.fields ts/\ts[3]?=some fl
structure FlyD (B:Heap) (l:List Env) (e:Addr) (c:Value) (d:Option Addr) (fl:Value) (h:Heap):Prop where
 st:B.StaysIn h
 no:B.get? e=none
 ff:h.FunFrames B l
 tr:TrD h B e c d fl
theorem Ub (o:Obj)(f:Array Value->Array Value):(o.mapFields f).dict=o.dict:=by
 obtain⟨c,d,dt,sl⟩:=o
 cases dt <;> rfl
section
variable {M:Model}{A:Around}{E:Value->Shared->Prop}{s:Shared}{B:Heap}{env:Env}{l outer:List Env}{L e:Addr}{oe:Obj}{vs:Array Value}{c fl:Value}{d:Option Addr}{Q:Unit->Shared->Prop}
theorem FlyD.there {h:Heap}(x:FlyD B l e c d fl h):∃o,h.get? e=some o/\o.cls=c/\o.dict=d/\∃vs,o.data=.fields vs:=let ⟨oe,vs,_,_,_,he,hc,hd,_⟩:=x.tr; ⟨oe,he,hc.1,hc.2,vs,hd⟩
theorem FlyD.out {h:Heap}(x:FlyD B (env::l) e c d fl h):FlyD B l e c d fl h:=⟨x.st,x.no,x.ff.2.2,x.tr⟩
theorem K7 {h:Heap}{T:Addr}{oT:Obj}{ts:Array Value}{f:Obj->Obj}(hT:h.get? T=some oT)(hd:oT.data=.fields ts):(∀b,b≠T->(h.update T f).get? b=h.get? b)/\∀b o,h.get? b=some o->(∀vs,o.data≠.fields vs)->b≠T :=
 ⟨fun b n=>Heap.get?_update_other _ _ (Ne.symm n),fun b o q nf z=>by rw[z,hT]at q;cases q;exact nf ts hd⟩
theorem Tq {head:Value}{hn:Bool}(hfr:A.frames=some (env::outer))(st:B.StaysIn s.heap)(no:B.get? e=none)(hl:s.heap.FunFrames B (env::outer))(hf:env.frame=some L)(he:s.heap.get? e=some oe)(hd:oe.data=.fields vs)(hz:1<vs.size)
 (hQ:∀h',FlyD B (env::outer) e oe.cls oe.dict (rawInt L) h'->s.heap.UpToSlots h'->Q () { s with heap:=h' }) :
 wpAny M A (frameOf env >>= fun a=>entryPlaceOf L hn >>= fun pl=>EntryCells.newEntry head a .none (rawInt L) .none pl >>= fun b=>setField (.ref e) 1 b) Q E s:=by
 have ne:e∉(env::outer).filterMap (·.frame):=fun m=>by
  obtain⟨_,o,q,nf⟩:=hl.mem m;rw[he]at q;cases q;exact nf vs hd
 refine wpAny_bind (wpAny_frameOf_fun hfr hl hf fun h1 hs=>wpAny_bind (wpAny_entryPlaceOf fun pl hp=>?_))
 unfold EntryCells.newEntry newFields
 refine wpAny_bind (wpAny_newObj_type ?_ (hp.sizeOk5 _ _ _ _ _))
 have t3:([head,.ref L,.none,rawInt L,.none]++(if pl.isEmpty then List.replicate 6 Value.none else pl)).toArray[3]?=some (rawInt L):=by simp
 have e1:h1.get? e=some oe:=(hs.2.1 e ne).trans he
 have k1:B.StaysIn h1:=fun b o q=>(hs.2.1 b fun m=>by rw[(hl.mem m).1]at q;cases q).trans (st b o q)
 generalize ([head,.ref L,.none,rawInt L,.none]++(if pl.isEmpty then List.replicate 6 Value.none else pl)).toArray=ts at t3
 generalize hob:({ cls:=.type "traceback",dict:=none,data:=.fields ts }:Obj)=ob
 have dob:ob.data=.fields ts:=by rw[<- hob]
 have fob:ob.isFreed=false:=Obj.isFreed_of_fields dob;have e2:=Heap.get?_push_of_some ob e1;have nT:h1.objs.size≠e:=Nat.ne_of_gt (Heap.lt_size e1)
 obtain⟨oth,nf⟩:=K7 (f:=Obj.mapFields (·.setIfInBounds 1 (.ref h1.objs.size))) e2 hd
 have d3:=Obj.data_mapFields hd (·.setIfInBounds 1 (.ref h1.objs.size))
 have kp:∀b o,b≠e->h1.get? b=some o->((h1.push ob).update e (Obj.mapFields (·.setIfInBounds 1 (.ref h1.objs.size)))).get? b=some o:=fun b o n q=>(oth b n).trans (Heap.get?_push_of_some _ q)
 have nr:∀b o,s.heap.get? b=some o->(∀vs,o.data≠.fields vs)->b≠e:=fun b o q nf z=>by rw[z,he]at q;cases q;exact nf vs hd
 refine wpAny_setField e2 hd hz (hQ _ ⟨fun b o q=>kp b o (fun z=>by rw[z,no]at q;cases q) (k1 b o q),no,hl.of_keeps fun b o q n=>?_,?_⟩ fun b o q n=>?_)
 ·obtain⟨sl,q2⟩:=hs.2.2 b o q
  exact⟨_,kp b _ (nr b o q n) q2,rfl⟩
 ·exact⟨_,_,h1.objs.size,ob,ts,Heap.get?_update_self _ e2 (Obj.isFreed_of_fields d3),⟨Obj.cls_mapFields _ _,Ub _ _⟩,d3,by simp[hz],⟨k1.fresh,nT⟩,(oth _ nT).trans (Heap.get?_push_size h1 fob),dob,t3⟩
 ·obtain⟨sl,q2⟩:=hs.2.2 b o q
  exact⟨sl,kp b _ (nr b o q n) q2⟩
theorem Ad3 (hfr:A.frames=some (env::outer))(st:B.StaysIn s.heap)(no:B.get? e=none)(hl:s.heap.FunFrames B (env::outer))(hf:env.frame=some L)(he:s.heap.get? e=some oe)(hd:oe.data=.fields vs)(h1:vs[1]?=some .none)
 (hQ:∀h',FlyD B (env::outer) e oe.cls oe.dict (rawInt L) h'->s.heap.UpToSlots h'->Q () { s with heap:=h' }):wpAny M A (noteFrame (.ref e) env) Q E s:=by
 unfold noteFrame;simp only[hf]
 refine wpAny_bind (wpAny_field he hd h1 ?_)
 rw[if_neg (by decide)]
 exact Tq hfr st no hl hf he hd (Array.getElem?_eq_some_iff.mp h1).1 hQ
theorem Yi (hfr:A.frames=some (env::outer))(hf:env.frame=some L)(x:FlyD B (env::outer) e c d .none s.heap)
 (hQ:∀h',FlyD B (env::outer) e c d (rawInt L) h'->s.heap.UpToSlots h'->Q () { s with heap:=h' }):wpAny M A (noteFrame (.ref e) env) Q E s:=by
 obtain⟨st,no,ff,oe,vs,T,oT,ts,he,⟨rfl,rfl⟩,hd,h1,⟨hB,nT⟩,hT,dT,h3⟩:=x
 obtain⟨oth,nr⟩:=K7 (f:=Obj.mapFields (·.setIfInBounds 3 .none)) hT dT
 unfold noteFrame;simp only[hf]
 refine wpAny_bind (wpAny_field he hd h1 ?_)
 rw[if_pos (by simp)]
 refine wpAny_bind (wpAny_field hT dT h3 ?_)
 rw[if_neg (by simp[rawInt])]
 refine wpAny_bind (wpAny_setField hT dT (Array.getElem?_eq_some_iff.mp h3).1 ?_)
 exact Tq hfr (fun b o q=>(oth b fun z=>by rw[z,hB]at q;cases q).trans (st b o q)) no (ff.of_keeps fun b o q n=>⟨o,(oth b (nr b o q n)).trans q,rfl⟩) hf ((oth e (Ne.symm nT)).trans he) hd (Array.getElem?_eq_some_iff.mp h1).1
  fun h' f u=>hQ h' f fun b o q n=>u b o ((oth b (nr b o q n)).trans q) n
theorem Pj (x:FlyD B l e c d fl s.heap)(hQ:∀h',FlyD B l e c d .none h'->s.heap.UpToSlots h'->Q () { s with heap:=h' }):wpAny M A (setFlight (.ref e) none) Q E s:=by
 obtain⟨st,no,ff,oe,vs,T,oT,ts,he,hc,hd,h1,⟨hB,nT⟩,hT,dT,h3⟩:=x
 obtain⟨oth,nr⟩:=K7 (f:=Obj.mapFields (·.setIfInBounds 3 ((none:Option Addr).elim Value.none fun f=>rawInt f))) hT dT
 have z3:=(Array.getElem?_eq_some_iff.mp h3).1;unfold setFlight
 refine wpAny_bind (wpAny_field he hd h1 ?_)
 rw[if_pos (by simp)]
 have d3:=Obj.data_mapFields dT (·.setIfInBounds 3 ((none:Option Addr).elim Value.none fun f=>rawInt f))
 refine wpAny_setField hT dT z3 (hQ _ ⟨fun b o q=>(oth b fun z=>by rw[z,hB]at q;cases q).trans (st b o q),no,ff.of_keeps fun b o q n=>⟨o,(oth b (nr b o q n)).trans q,rfl⟩,?_⟩ fun b o q n=>⟨o.slots,(oth b (nr b o q n)).trans q⟩)
 exact⟨oe,vs,T,_,_,(oth e (Ne.symm nT)).trans he,hc,hd,h1,⟨hB,nT⟩,Heap.get?_update_self _ hT (Obj.isFreed_of_fields d3),d3,by simp[z3]⟩
theorem Zd (hfr:A.frames=some (env::outer))(hf:env.frame=some L)(x:FlyD B (env::outer) e c d .none s.heap)(hQ:∀h',FlyD B outer e c d .none h'->s.heap.UpToSlots h'->Q () { s with heap:=h' }):wpAny M A (leaving env (.ref e)) Q E s :=
 wpAny_bind (Yi hfr hf x fun h1 f1 u1=>Pj (s:={ s with heap:=h1 }) f1 fun h2 f2 u2=>hQ h2 f2.out (u1.trans u2))
theorem Zy (hfr:A.frames=some (env::outer))(st:B.StaysIn s.heap)(no:B.get? e=none)(hl:s.heap.FunFrames B (env::outer))(hf:env.frame=some L)(he:s.heap.get? e=some oe)(hd:oe.data=.fields vs)(h1:vs[1]?=some .none)
 (hQ:∀h',FlyD B outer e oe.cls oe.dict .none h'->s.heap.UpToSlots h'->Q () { s with heap:=h' }):wpAny M A (leaving env (.ref e)) Q E s :=
 wpAny_bind (Ad3 hfr st no hl hf he hd h1 fun h1 f1 u1=>Pj (s:={ s with heap:=h1 }) f1 fun h2 f2 u2=>hQ h2 f2.out (u1.trans u2))
end
structure Fly (outer:List Env) (H':Hp) (h0:Heap) (a:Addr) (cls:Value) (d:Option Addr) (h:Heap):Prop where
 fl:∃B,FlyD B outer a cls d .none h/\Cov (frs outer) H' h0 h B
 new:∀b o,h0.get? b=some o->b≠a
 free:H' a=none
def CXe (P:Program)(w:World):CXT:=fun outer H s E e s'=>∃a C d H',e=.ref a/\Fly outer H' s.heap a (.ref C) d s'.heap/\s'.os=s.os/\AllBare s'.gens/\Un (frs outer) [] H H' s.heap s'.heap/\HOk P w H' s'.heap/\E (.ref C) d H'
section
variable {X:Cx}{pins:List (Addr×Obj)}{σ:St}{H H':Hp}{s s':Shared}
theorem Inv.flown {h2 B:Heap}{tk:Nat}(I:Inv X pins σ H s)(u:Un (frs X.stack) [] H H' s.heap s'.heap)(hk:HOk X.prog X.w H' s'.heap)(os:s'.os=s.os)(bare:AllBare s'.gens)
 (ff:s'.heap.FunFrames B X.stack) (cov:Cov (frs X.stack) H' s.heap s'.heap B) (st:B.StaysIn h2) (up:s'.heap.UpToSlots h2):Inv X pins σ H' { s' with heap:=h2,toks:=tk }:=by
 have frf:∀b∈frs X.stack,H' b=none:=fun b hb=>by
  obtain⟨_,o,ho,_⟩:=I.stack.mem hb
  exact u.free b o ho (I.stkFree b hb) (fun z=>nomatch z)
 obtain⟨u2,k2⟩:=Bq2 u hk cov ff frf st up
 obtain⟨v,H2,I2,_,rfl⟩:=I.after (s':={ s' with heap:=h2,toks:=tk }) (Q:=fun _ H2=>H2=H') (u:=.none) ⟨.non,H',os,bare,u2,k2,rfl,rfl⟩
 exact I2
end
section
variable {P:Program}{w:World}{K:PySem.W.Frag}{mg:Str->Option Value}{base:Heap}{N:List Str}{qual:Str}{scope:Scope}{f:Addr}{cd:Value}{A:Around}{outer:List Env}{s₀:Shared}{H₀:Hp}{E:XK}
theorem Qf:Gm (CXe P w) (Hd (CXe P w) P w K mg base N qual scope f cd A outer s₀ H₀ E) E:=by
 intro pins σ H s e s' I h;obtain⟨a,C,d,H',rfl,⟨⟨B,fl,cov⟩,new,fr⟩,os,bare,u,hok,q⟩:=h
 refine Zd I.ok.frames rfl fl fun h2 fl2 up=>?_
 have I2:Inv (Hd (CXe P w) P w K mg base N qual scope f cd A outer s₀ H₀ E) pins σ H' { s' with heap:=h2 }:=I.flown (tk:=s'.toks) u hok os bare fl.ff cov fl2.1 up
 have nb:∀b o,s₀.heap.get? b=some o->∃o',s.heap.get? b=some o':=fun b o e=>I.base.there b o e (fun z=>nomatch z)
 refine⟨a,C,d,H',rfl,⟨⟨B,fl2,fun b o e hf hb=>?_⟩,fun b o e=>?_,fr⟩,os.trans I.os,bare,I2.base,I2.hok,q⟩
 ·have nl:b≠(envOfC qual scope s₀.heap.objs.size f cd).locals:=by
   rintro rfl
   rcases hb with ⟨u',e'⟩ | hb
   ·exact absurd (Heap.lt_size e') (Nat.lt_irrefl _)
   ·exact hb I2.free
  have hfs:b∉frs (Hd (CXe P w) P w K mg base N qual scope f cd A outer s₀ H₀ E).stack:=fun z=>by
   rcases List.mem_cons.mp (I.stkSub b z) with q | q
   ·exact nl q
   ·exact hf q
  have there:∃o',s'.heap.get? b=some o':=by
   rcases hb with ⟨u',e'⟩ | hb
   ·obtain⟨o1,e1⟩:=nb b u' e'
    exact u.there b o1 e1 (fun z=>nomatch z)
   ·cases q':H' b with
    | none=>exact absurd q' hb
    | some ho=>exact(hok b ho q').there
  obtain⟨o',e'⟩:=there
  have:=cov b o' e' hfs (by
   rcases hb with ⟨u',q'⟩ | hb
   ·exact .inl (nb b u' q')
   ·exact .inr hb)
  have e2:=fl2.1 b o' this;rw[e]at e2;cases e2;exact this
 ·obtain⟨o',e'⟩:=nb b o e
  exact new b o' e'
end
structure MadeX (h h':Heap) (e C:Addr) (d:Option Addr):Prop where
 keeps:∀b o,h.get? b=some o->h'.get? b=some o
 new:h.get? e=none
 there:∃oe vs,h'.get? e=some oe/\oe.cls=.ref C/\oe.dict=d/\oe.data=.fields vs/\vs[1]?=some .none
def Raises (X:Cx)(E:XK):Prop:=∀(pins:List (Addr×Obj)) (σ:St) (H:Hp) (s:Shared) (h':Heap) (e C:Addr) (d:Option Addr),Inv X pins σ H s->MadeX s.heap h' e C d->E (.ref C) d H->X.xe (.ref e) { s with heap:=h' }
section
variable {P:Program}{w:World}{K:PySem.W.Frag}{mg:Str->Option Value}{base:Heap}{N:List Str}{qual:Str}{scope:Scope}{f:Addr}{cd:Value}{A:Around}{outer:List Env}{s₀:Shared}{H₀:Hp}{E:XK}
theorem V3:Raises (Hd (CXe P w) P w K mg base N qual scope f cd A outer s₀ H₀ E) E:=by
 intro pins σ H s h' e C d I hx q;obtain⟨oe,vs,m1,mc,md,m4,m5⟩:=hx.there
 let X:=Hd (CXe P w) P w K mg base N qual scope f cd A outer s₀ H₀ E
 have st0:(hideAll s.heap (frs X.stack)).StaysIn s.heap:=fun b o z=>of_hideAll _ z
 have ff:s.heap.FunFrames (hideAll s.heap (frs X.stack)) X.stack:=funFrames_hide I.stack fun env he b hb=>List.mem_filterMap.mpr ⟨env,he,hb⟩
 have ff':h'.FunFrames (hideAll s.heap (frs X.stack)) X.stack:=ff.of_keeps fun b o z _=>⟨o,hx.keeps b o z,rfl⟩
 have hok':HOk P w H h':=I.hok.kept hx.keeps
 have fr:H e=none:=by
  cases z:H e with
  | none=>rfl
  | some ho =>
   obtain⟨u,hu⟩:=(I.hok e ho z).there;rw[hx.new]at hu;cases hu
 have cov:Cov (frs X.stack) H s.heap h' (hideAll s.heap (frs X.stack)):=fun b o z hf hb=>by
  have:∃u,s.heap.get? b=some u:=by
   rcases hb with hb | hb
   ·exact hb
   ·cases y:H b with
    | none=>exact absurd y hb
    | some ho=>exact(I.hok b ho y).there
  obtain⟨u,hu⟩:=this;have:=hx.keeps b u hu;rw[z]at this;cases this;exact hideAll_get _ hu hf
 have no:(hideAll s.heap (frs X.stack)).get? e=none:=by
  cases z:(hideAll s.heap (frs X.stack)).get? e with
  | none=>rfl
  | some o =>
   have y:=st0 e o z;rw[hx.new]at y;cases y
 refine Zy (s:={ s with heap:=h' }) (B:=hideAll s.heap (frs X.stack)) I.ok.frames (fun b o z=>hx.keeps b o (st0 b o z)) no ff' rfl m1 m4 m5 fun h2 fl2 up=>?_
 rw[mc,md]at fl2
 have I2:Inv X pins σ H { s with heap:=h2 }:=I.flown (s':={ s with heap:=h' }) (tk:=s.toks) (Un.kept hx.keeps) hok' rfl I.bare ff' cov fl2.1 up
 have nb:∀b o,s₀.heap.get? b=some o->∃o',s.heap.get? b=some o':=fun b o z=>I.base.there b o z (fun z=>nomatch z)
 refine⟨e,C,d,H,rfl,⟨⟨_,fl2,fun b o z hf hb=>?_⟩,fun b o z y=>?_,fr⟩,I.os,I.bare,I2.base,I2.hok,q⟩
 ·have nl:b≠(envOfC qual scope s₀.heap.objs.size f cd).locals:=by
   rintro rfl
   rcases hb with ⟨u',e'⟩ | hb
   ·exact absurd (Heap.lt_size e') (Nat.lt_irrefl _)
   ·exact hb I2.free
  have hfs:b∉frs X.stack:=fun z=>by
   rcases List.mem_cons.mp (I.stkSub b z) with q | q
   ·exact nl q
   ·exact hf q
  have there:∃o',h'.get? b=some o':=by
   rcases hb with ⟨u',e'⟩ | hb
   ·obtain⟨o1,e1⟩:=nb b u' e'
    exact⟨o1,hx.keeps b o1 e1⟩
   ·cases q':H b with
    | none=>exact absurd q' hb
    | some ho=>exact(hok' b ho q').there
  obtain⟨o',e'⟩:=there
  have:=cov b o' e' hfs (by
   rcases hb with ⟨u',q'⟩ | hb
   ·exact .inl (nb b u' q')
   ·exact .inr hb)
  have e2:=fl2.1 b o' this;rw[z]at e2;cases e2;exact this
 ·obtain⟨o',e'⟩:=nb b o z
  rw[y,hx.new]at e';cases e'
end
theorem A2s {h h':Heap}{e C:Addr}{args:List Value}(x:Heap.MadeExcOf h h' e (.ref C) args):MadeX h h' e C none:=let ⟨_,q,_⟩:=x.there; ⟨x.keeps,x.new,_,_,q,rfl,rfl,rfl,rfl⟩
theorem A7b {K:PySem.W.Frag}{h:Heap}{C:Addr}{bmB:List Value}{newId:String}(X:K.In h)(q:excIn K C bmB newId=true):∃bm N nm qn bs hdct sn sub ab col dd k0 k1 k2 k3 k5 mN,h.get? C=some (excClassObj nm qn C N bs bm hdct sn sub ab col dd k0 k1 k2 k3 k5 newId)/\h.Ns N mN/\mN "__init__" = none/\OwnTail h bmB bm:=by
 cases hl:K.lookup C with
 | none=>unfold excIn at q;rw[hl]at q;cases q
 | some ob =>
  have hX:=X _ _ hl;unfold excIn at q;rw[hl]at q;obtain⟨oc,od,da,sl⟩:=ob
  split at q
  ·rename_i d1 c1 s1 z
   cases z
   split at q
   ·rename_i C' tl x0 x1 x2 x3 n x5 y1 y2
    simp only[Bool.and_eq_true,beq_iff_eq,Bool.not_eq_true']at q;obtain⟨⟨⟨⟨⟨e1,e2⟩,e3⟩,e4⟩,e5⟩,e6⟩:=q;obtain⟨nm,bs,mro,nsp,qn,hd,sn,sub,ab,col,del⟩:=c1
    dsimp only at y1 e3 e5 e6
    subst e1 e2 y1 e3
    have e7:sl=#[x0,x1,x2,x3,some (.builtin n),x5]:=by
     obtain⟨l⟩:=sl
     dsimp only at y2
     rw[y2]
    subst e7
    refine⟨tl,nsp,nm,qn,bs,hd,sn,sub,ab,col,_,x0,x1,x2,x3,x5,h.nsMap nsp,hX,.of_isNs (isNs_of_in X e5),nsMap_none_of_in X e5 e6,tail_of_in X e4⟩
   ·cases q
  ·cases q
theorem G9 {K:PySem.W.Frag}{h:Heap}{C:Addr}(X:K.In h)(q:Y4 K C=true):∃bm N nm qn bs sn sub ab col dd k0 k1 k2 k3 k5,h.get? C=some (excClassObj nm qn C N bs bm true sn sub ab col dd k0 k1 k2 k3 k5 "ValueError.__new__")/\OwnTail h bmV bm:=by
 unfold Y4 at q
 split at q
 ·rename_i d1 c1 s1 hl
  have hX:=X _ _ hl;simp only[Bool.and_eq_true,Bool.not_eq_true']at q;obtain⟨⟨⟨q1,q2⟩,q3⟩,q4⟩:=q
  split at q3
  ·rename_i A bm hm
   split at q4
   ·rename_i x0 x1 x2 x3 n x5 hs
    simp only[Bool.and_eq_true,beq_iff_eq]at q3 q4;obtain⟨e1,e2⟩:=q3;obtain⟨nm,bs,mro,nsp,qn,hd,sn,sub,ab,col,del⟩:=c1
    dsimp only at hm q1 q2
    subst e1 hm q1 q2 q4
    obtain rfl:s1=#[x0,x1,x2,x3,some (.builtin "ValueError.__new__"),x5]:=by
     obtain⟨l⟩:=s1
     dsimp only at hs
     rw[hs]
    exact⟨bm,nsp,nm,qn,bs,sn,sub,ab,col,_,x0,x1,x2,x3,x5,hX,tail_of_in X e2⟩
   ·cases q4
  ·cases q3
 ·cases q
section
variable {X:Cx}{x:Str}{C:Addr}{np cpos pos:Pos}{e:Expr}{es:List Expr}{t:TA}{E:XK}
def Aj1 (C:Addr)(E:XK)(t:TA):TS:=fun _ σ H=>t σ H fun vs H1=>vs.length<=sizeLine/\E (.ref C) none H1
theorem Az8 (hR:Raises X E)(hc:X.calm=true)(hg:Gl X x)(hm:X.mg x=some (.ref C))(hq:excIn X.K C bmV "ValueError.__new__" = true) (ha:PA X (e::es) t) (hdb:(x==("__debug__" : Str))=false:=by decide)
 (he:starEach (e::es) X.env=(false,eval e X.env)::starEach es X.env:=by rfl) (hpl:(backTo cpos (starEach es X.env)).any (·.1)=false:=by rfl) :
 PS X (.Raise (some (.Call (.Name x np) (e::es) [] cpos)) none pos) (Aj1 C E t):=by
 intro pins s σ H D I h;obtain⟨bm,Nn,nm,qn,bs,hdct,sn,sub,ab,col,dd,k0,k1,k2,k3,k5,mN,hC,hN,hni,T⟩:=A7b I.mod.kin hq
 have hp2:(backTo cpos (starEach (e::es) X.env)).any (·.1)=false:=by
  rw[he]
  show (false||(backTo cpos (starEach es X.env)).any (·.1))=false
  rw[hpl];rfl
 refine wpAny_Raise_call_subT (C:=C) (nm:=nm) (q:=qn) (N:=Nn) (bs:=bs) (bm:=bm) (hdct:=hdct) (sn:=sn) (sub:=sub) (ab:=ab) (col:=col) (dd:=dd) (k0:=k0) (k1:=k1) (k2:=k2) (k3:=k3) (k5:=k5) PySem.F.excBase_ValueError (mN:=mN) (T.hasType PySem.F.excBase_ValueError.hasBase) (I.ok.hd hc) hp2 hni (Ir I hg hm ⟨rfl,?_⟩ hdb)
 have hs:=ha cpos pins s σ H _ I h;rw[he]at hs ⊢
 refine Calls.evalArgs_plain (wpAny_mono hs (fun us s2 ⟨vs,H2,I2,r2,z,q2⟩=>?_) fun _ _ z=>z)
 have kp:∀b o,X.base.get? b=some o->s2.heap.get? b=some o:=I2.bk
 exact⟨rfl,by rw[<- r2.length];exact z,kp _ _ hC,hN.keeps kp,T.keeps kp,fun h' ea hM=>hR pins σ H2 s2 h' ea C none I2 (A2s hM) q2⟩
end
section
variable {X:Cx}{pins:List (Addr×Obj)}{σ:St}{H H':Hp}{s s':Shared}{CX:CXT}{k:Nat}{f:Addr}{fd:FuncData}{ps:List Str}{sp:Sp}{dvs:List V}{ds:List Value}{E:XK}{x:Str}{p pos:Pos}{e:Expr}{es:List Expr}{t:TA}{Q:VK}
def Lb (a C:Addr)(d:Option Addr):HO:=.ext fun h=>∃o,h.get? a=some o/\o.cls=.ref C/\o.dict=d/\∃vs,o.data=.fields vs
theorem A6b {P:Program}{w:World}{a C:Addr}{d:Option Addr}{h:Heap}{o:Obj}(e:h.get? a=some o)(c:o.cls=.ref C)(hd:o.dict=d/\∃vs,o.data=.fields vs):z8 P w H h a (Lb a C d) :=
 ⟨⟨o,e,c,hd⟩,⟨o,e⟩,fun h1 h2 ⟨o,e,c⟩ k=>⟨o,k o e,c⟩⟩
theorem Inv.track {a:Addr}{o:HO}(I:Inv X pins σ H s)(hn:H a=none)(h0:X.s₀.heap.get? a=none)(hL:a≠X.env.locals)(h2:∀x c,X.env.cells.lookup x=some c->c≠a)(h3:∀p∈X.pn++pins,p.1≠a)
 (new:z8 X.prog X.w (upd H a o) s.heap a o):Inv X pins σ (upd H a o) s:=by
 have ne:∀b u,H b=some u->b≠a:=fun b u e z=>by rw[z,hn]at e;cases e
 have b0:∀b u,X.s₀.heap.get? b=some u->b≠a:=fun b u e z=>by rw[z,h0]at e;cases e
 refine⟨I.ok,I.os,I.bare,⟨I.base.keep,I.base.slot,fun b u e n hx=>by rw[Ao (b0 b u e)];exact I.base.free b u e n hx,I.base.there,fun b xs e=>by
  have:=I.base.tups b xs e
  rw[Ao (ne _ _ this)];exact this,fun b u v e=>by
  have:=I.base.frzs b u v e
  rw[Ao (ne _ _ this)];exact this,fun b ps e=>by
  have:=I.base.tbls b ps e
  rw[Ao (ne _ _ this)];exact this⟩,I.loc,I.cell,by rw[Ao (Ne.symm hL)];exact I.free,fun y c e=>by rw[Ao (h2 y c e)];exact I.freeC y c e,fun p hp=>?_,fun b u e=>?_,I.len⟩
 ·obtain⟨q1,q2,q3⟩:=I.pin p hp
  exact⟨q1,by rw[Ao (h3 p hp)];exact q2,q3⟩
 ·by_cases hb:b=a
  ·subst hb
   rw[Be]at e;cases e;exact new
  ·rw[Ao hb]at e
   exact(I.hok b u e).stay (fun c v _ z=>z) (fun c z=>by rw[Ao (ne _ _ z)];exact z) (fun c xs z=>by rw[Ao (ne _ _ z)];exact z) (fun c ob xs z=>by rw[Ao (ne _ _ z)];exact z)
theorem Inv.unbound {j:Nat}{n:Str}{h':Heap}{m m':Str->Option Value}{tk:Nat}(I:Inv X pins σ H s)(hN:X.N.Nodup)(hj:X.N[j]?=some n)(hm:s.heap.Ns X.env.locals m)(hm':h'.Ns X.env.locals m')(hmm:∀y,y≠n->m' y=m y)(sb:Heap.SameBut X.env.locals s.heap h') :
 Inv X pins (σ.set j none) H { s with heap:=h',toks:=tk }:=by
 have kp:∀b u,b≠X.env.locals->s.heap.get? b=some u->h'.get? b=some u:=fun b u hb e=>sb.extBut b u hb e
 have nl:∀b u,X.s₀.heap.get? b=some u->b≠X.env.locals:=fun b u e z=>by
  have:=Heap.lt_size e;rw[z]at this;exact absurd (Nat.lt_of_lt_of_le this I.ok.above) (Nat.lt_irrefl _)
 have cc:∀{y:Str} {c:Addr} {v:Option Value},X.env.cells.lookup y=some c->s.heap.IsCell c v->h'.IsCell c v:=fun {y c v} e ⟨o,ho,hd⟩=>⟨o,kp c o (I.cne y c e) ho,hd⟩
 refine⟨I.ok,I.os,I.bare,⟨fun b u e n hf hx=>kp b u (nl b u e) (I.base.keep b u e n hf hx),fun b u e n hf hx=>?_,I.base.free,fun b u e hx=>?_,I.base.tups,I.base.frzs,I.base.tbls⟩,⟨m',hm',fun i y v e1 e2 e3=>?_⟩,fun y c e=>?_,I.free,I.freeC,fun q hq=>?_,fun b u e=>?_,by rw[List.length_set];exact I.len⟩
 ·obtain⟨sl,q⟩:=I.base.slot b u e n hf hx
  exact⟨sl,kp b _ (nl b u e) q⟩
 ·obtain⟨u',q⟩:=I.base.there b u e hx
  exact⟨u',kp b u' (nl b u e) q⟩
 ·have ij:i≠j:=fun z=>by
   subst z;rw[List.getElem?_set]at e2
   simp at e2
  rw[List.getElem?_set_ne (Ne.symm ij)]at e2;obtain⟨m0,hn0,hl⟩:=I.loc
  have em:m0=m:=by
   obtain⟨o1,es1,p1,g1,d1,_,f1⟩:=hn0;obtain⟨o2,es2,p2,g2,d2,_,f2⟩:=hm;rw[g1]at g2;cases g2;rw[d1]at d2;cases d2
   funext z
   rw[<- f1,<- f2]
  subst em;obtain⟨u,r,lk⟩:=hl i y v e1 e2 e3
  refine⟨u,r,?_⟩
  rcases lk with ⟨q1,q2⟩ | ⟨q1,c,q2,q3⟩
  ·have yn:y≠n:=fun z=>ij (by
    subst z
    exact(List.getElem?_inj (List.getElem?_eq_some_iff.mp e1).1 hN).mp (e1.trans hj.symm))
   exact .inl ⟨q1,by rw[hmm y yn];exact q2⟩
  ·exact .inr ⟨q1,c,q2,cc q2 q3⟩
 ·obtain⟨v,z⟩:=I.cell y c e
  exact⟨v,cc e z⟩
 ·obtain⟨q1,q2,q3,q4⟩:=I.pin q hq
  exact⟨kp _ _ q3 q1,q2,q3,q4⟩
 ·have key:∀b u v,H b=some u->s.heap.get? b=some v->h'.get? b=some v:=fun b u v z e=>kp b v (fun y=>by rw[y,I.free]at z;cases z) e
  refine (I.hok b u e).stay (fun c v hc z=>?_) (fun _ z=>z) (fun _ _ z=>z)
  rcases hc with rfl | hc
  ·exact key _ _ _ e z
  ·exact key _ _ _ hc z
def Qd (X:Cx)(a:Addr):Cx:={ X with A:=X.A.mark (some (.ref a)),calm:=false,xe:=fun _ _=>False }
theorem Inv.mark (I:Inv X pins σ H s)(a:Addr):Inv (Qd X a) pins σ H s :=
 ⟨⟨I.ok.mod,I.ok.kind,I.ok.glob,I.ok.blt,I.ok.above,I.ok.inj,I.ok.has,I.ok.cab,(fun z=>nomatch z),I.ok.frames,I.ok.stk,I.ok.exf,I.ok.bs,I.ok.bsz,I.ok.noex,I.ok.exfs,I.ok.funs,I.ok.frf,I.ok.tab⟩,I.os,I.bare,I.base,I.loc,I.cell,I.free,I.freeC,I.pin,I.hok,I.len⟩
theorem Inv.unmark {a:Addr}(ok:X.Ok)(I:Inv (Qd X a) pins σ H s):Inv X pins σ H s:=⟨ok,I.os,I.bare,I.base,I.loc,I.cell,I.free,I.freeC,I.pin,I.hok,I.len⟩
end
section
variable {X:Cx}{pins:List (Addr×Obj)}{σ:St}{H H1:Hp}{s s1 s':Shared}{E:XK}{D:Ends}{y n:Str}{Fc:Addr}{yp hpos:Pos}{b₀:Stmt}{suite:List Stmt}{th:TS}{j:Nat}{ev:Value}
theorem Ay5 (hx0:X.ex=[])(hs:X.stack=X.env::X.outer/\X.env.frame=some X.env.locals)(hN:X.N.Nodup)(hj:X.N[j]?=some n)(hlo:X.env.scope.names.lookup n=some .local)(hg:Gl X y)(hm:X.mg y=some (.ref Fc))(hsu:∀a,PSs (Qd X a) (b₀::suite) th)
 (I:Inv X pins σ H1 s1) (cx:CXe X.prog X.w X.stack H1 s1 E ev s') (hE:∀C d H2,E (.ref C) d H2->exmOne X.K (.ref C) (.ref Fc)=some true/\∀a,H2 a=none->th { nx:=fun σ2 H3=>D.nx (σ2.set j none) H3,rt:=D.rt } (σ.set j (some (.ref a))) (upd H2 a (Lb a C d)))
 (hdb:(y==("__debug__" : Str))=false:=by decide) :
 wpAny (model X.prog X.w) X.A (noteFrame ev X.env) (fun _ s₂=>wpAny (model X.prog X.w) X.A (setFlight ev none) (fun _ s₃=>wpAny (model X.prog X.w) X.A (handleBy ev X.env [.ExceptHandler (some (.Name y yp)) (some n) (b₀::suite) hpos]) (SP X pins D) X.xe s₃) X.xe s₂) X.xe s':=by
 obtain⟨a,C,d,H2,rfl,⟨⟨B,fl,cov⟩,new,fr⟩,os,bare,u,hok,q⟩:=cx;obtain⟨hex,hth⟩:=hE C d H2 q;have hth:=hth a fr;have fl':=fl;rw[hs.1]at fl'
 refine Yi (I.ok.frames.trans (congrArg some hs.1)) hs.2 fl' fun h4 held up4=>?_
 refine Pj (s:={ s' with heap:=h4 }) held fun h5 fl5 up5=>?_
 have I5:Inv X pins σ H2 { s' with heap:=h5 }:=I.flown (tk:=s'.toks) u hok os bare fl.ff cov fl5.1 (up4.trans up5)
 obtain⟨ob,hob,hoc,_⟩:=fl5.there;have LT:Looks (model X.prog X.w) h5 (typeOf (.ref a)) (.ref C):=hoc▸(Looks.ld hob).andThen .now;have LX:=exm_one (M:=model X.prog X.w) (h:=h5) I5.kIn LT hex
 refine wpAny_handleBy_cons (codeAny_handlers_test (Ir (X:=Qd X a) (I5.mark a) hg hm ?_ hdb)) (by intro z;cases z)
 refine LX.here ?_
 refine codeAny_handlers_suite_as ?_
 refine Pj (s:={ s' with heap:=h5 }) fl5 fun h6 fl6 up6=>?_
 have I6:Inv X pins σ H2 { s' with heap:=h6 }:=I.flown (tk:=s'.toks) u hok os bare fl.ff cov fl6.1 ((up4.trans up5).trans up6)
 obtain⟨o6,ho6,hc6,hd6⟩:=fl6.there
 have n0:X.s₀.heap.get? a=none:=by
  cases z:X.s₀.heap.get? a with
  | none=>rfl
  | some o0 =>
   obtain⟨o1,e1⟩:=I.base.there a o0 z (by rw[hx0];simp)
   exact absurd rfl (new a o1 e1)
 have I7:Inv X pins σ (upd H2 a (Lb a C d)) { s' with heap:=h6 }:=I6.track fr n0 (fun z=>by
  obtain⟨m,⟨o,es,ep,e,_⟩,_⟩:=I.loc
  exact new _ o e z.symm) (fun y c e z=>by
  obtain⟨v,o,e1,_⟩:=I.cell y c e
  exact new c o e1 z) (fun p hp z=>new p.1 p.2 (I.pin p hp).1 z) (A6b ho6 hc6 hd6)
 refine Gi (X:=X) (v:=.ref a) I7 hN hj (.inl hlo) rfl (fun s8 I8=>?_) (.inr hlo)
 refine wpAny_mono (hsu a pins s8 _ _ _ (I8.mark a) hth) (fun fw s9 h9=>?_) fun _ _ z=>z.elim
 have hcls:(X.env.scope.kind==.class||(X.env.scope.kind==.module&&X.env.locals != X.env.globals))=false:=by rw[I.ok.kind];rfl
 cases fw with
 | next =>
  obtain⟨σ9,H9,I9,q9⟩:=h9;have I9:=I9.unmark I.ok;obtain⟨m,hm9,_⟩:=id I9.loc
  exact wpAny_nameGoes_keeps hlo hm9 hcls fun h10 v hn10 sb=>⟨_,H9,I9.unbound hN hj hm9 hn10 (fun y hy=>if_neg hy) sb,q9⟩
 | ret w =>
  obtain⟨v,σ9,H9,I9,r9,q9⟩:=h9;have I9:=I9.unmark I.ok;obtain⟨m,hm9,_⟩:=id I9.loc
  exact wpAny_nameGoes_keeps hlo hm9 hcls fun h10 v' hn10 sb=>⟨v,_,H9,I9.unbound hN hj hm9 hn10 (fun y hy=>if_neg hy) sb,r9,q9⟩
 | brk=>obtain⟨_,_,_,q9⟩:=h9;exact q9.elim
 | cont=>obtain⟨_,_,_,q9⟩:=h9;exact q9.elim
end
section
variable {prog:Program}{w:World}{A:Around}{E:Value->Shared->Prop}{h:Heap}{g:Array GenState}{d:Drawn}{t:Nat}{os:OsState}{a C:Addr}{o:Obj}{K:PySem.W.Frag}
structure Jz (K:PySem.W.Frag) (C:Addr):Prop where
 exc:Y4 K C=true
 ga:findIn K (.ref C) "__getattribute__" = some (some (.builtin "BaseException.__getattribute__"))
 gat:findIn K (.ref C) "__getattr__" = some none
 cls:findIn K (.ref C) "__class__" = some (some (.builtin "object.__class__"))
theorem Bl5 {R:Result->Shared->Prop}(X:K.In h)(Z:Jz K C)(hx:h.get? a=some o)(hc:o.cls=.ref C)(hq:R (.ok (.ret (.ref C))) ⟨h,g,d,t,os⟩) :
 codeAny (model prog w) A (.call (.builtin "getset_descriptor.__get__") ⟨[.builtin "object.__class__",.ref a,.ref C],[]⟩) R ⟨h,g,d,t,os⟩:=by
 obtain⟨bm,Nn,nm,qn,bs,sn,sub,ab,col,dd,k0,k1,k2,k3,k5,hC,T⟩:=G9 X Z.exc;have hT5:(⟨h,g,d,t,os⟩:Shared).TypeIs (.builtin "object.__class__") "getset_descriptor" := PySem.F.typeOf_object_class
 have hO:(Value.ref C::bm).contains (.type (".".intercalate ("object.__class__".cutAt '.').dropLast))=true:=by
  rw[PySem.F.owner_object_class,List.contains_cons,T.hasType (X := "object") (b:=true) rfl];rfl
 refine codeAny_call_builtin PySem.F.slot_gs_get.plain PySem.F.entry_gs_get (PySem.F.slot_gs_get.check _ _ _ _ _ _ _ _ hT5 (PySem.F.args_gs_get _ _ _) ?_)
 repeat (any_goals (first | assumption | (with_reducible refine wpAny_loadPart_at hx ?_;rw[hc]) | (with_reducible refine wpAny_isSubtype_exc hC ?_;rw[hO]) | wp_step))
 refine⟨Code.quiet_builtin _ (by decide +kernel),codeAny_builtin PySem.F.entry_object_class ?_⟩
 repeat (any_goals (first | assumption | (with_reducible refine wpAny_loadPart_at hx ?_;rw[hc]) | wp_step))
theorem A4r {tk:Tok}{Q:Fin->Shared->Prop}(X:K.In h)(Z:Jz K C)(hx:h.get? a=some o)(hc:o.cls=.ref C)(hq:Q (.done (.ret (.ref C))) ⟨h,g,d,t,os⟩) :
 wpAny (model prog w) A (Builtin.«object.__getattribute__» ⟨[.ref a,.str "__class__" tk],[]⟩) Q E ⟨h,g,d,t,os⟩:=by
 have hT5:(⟨h,g,d,t,os⟩:Shared).TypeIs (.builtin "object.__class__") "getset_descriptor" := PySem.F.typeOf_object_class;have f5:=PySem.F.typeOf_object_class;have f6:=PySem.F.slot_gs_get.lookup;have f7:=PySem.F.slot_gs_set.lookup;have lc:=looks_findIn (M:=model prog w) X Z.cls
 repeat (any_goals (first | assumption | (with_reducible refine wpAny_loadPart_at hx ?_;rw[hc]) | with_reducible refine lc.here ?_ | wp_step))
 refine Bl5 X Z hx hc ?_
 repeat (any_goals (first | assumption | wp_step))
theorem Y7 {M:Model}{nameV:Value}{Q:Unit->Shared->Prop}(X:K.In h)(Z:Jz K C)(hx:h.get? a=some o)(hc:o.cls=.ref C)(hq:Q () ⟨h,g,d,t,os⟩):wpAny M A (checkBuiltinCall "BaseException.__getattribute__" ⟨[.ref a,nameV],[]⟩) Q E ⟨h,g,d,t,os⟩:=by
 obtain⟨bm,Nn,nm,qn,bs,sn,sub,ab,col,dd,k0,k1,k2,k3,k5,hC,T⟩:=G9 X Z.exc
 have hk:builtinKind "BaseException.__getattribute__" = some .slot:=by decide +kernel
 have hsp:splitId "BaseException.__getattribute__" = some ("BaseException", "__getattribute__"):=by decide +kernel
 have hB:(Value.ref C::bm).contains (.type "BaseException")=true:=by rw[List.contains_cons,T.hasType (X := "BaseException") (b:=true) rfl];rfl
 have ha:=PySem.F.args_bexc_ga (.ref a) nameV;simp only[checkBuiltinCall,hk,hsp]
 refine wpAny_bind ?_
 unfold isInstance
 repeat (first | (with_reducible refine wpAny_loadPart_at hx ?_;rw[hc]) | (with_reducible refine wpAny_isSubtype_exc hC ?_;rw[hB]) | wp_step)
 exact hq
theorem Br8 {tk:Tok}{Q:Value->Shared->Prop}(X:K.In h)(Z:Jz K C)(hx:h.get? a=some o)(hc:o.cls=.ref C)(hq:Q (.ref C) ⟨h,g,d,t,os⟩):wpAny (model prog w) A (getAttrBy (.ref a) (.str "__class__" tk) false) Q E ⟨h,g,d,t,os⟩:=by
 have f3:=PySem.F.excAttr_ValueError.ga.bind (.ref a)
 have x2:(Value.builtin "BaseException.__getattribute__" == Value.builtin "object.__getattribute__")=false:=by decide +kernel
 have x1:(onTheHeap (Value.ref C)&&Value.builtin "BaseException.__getattribute__" == Value.builtin "object.__getattribute__")=false:=by rw[x2];rfl
 have l1:=looks_findIn (M:=model prog w) X Z.ga;have l2:=looks_findIn (M:=model prog w) X Z.gat
 repeat (any_goals (first | assumption | (with_reducible refine wpAny_loadPart_at hx ?_;rw[hc]) | with_reducible refine l1.here ?_ | with_reducible refine l2.here ?_ | wp_step))
 refine codeAny_call_builtin PySem.F.excAttr_ValueError.ga.plain PySem.F.entry_bexc_ga (Y7 X Z hx hc (A4r X Z hx hc ?_))
 repeat (any_goals (first | assumption | wp_step))
theorem A6l {Q:Option Value->Shared->Prop}(X:K.In h)(Z:Jz K C)(hx:h.get? a=some o)(hc:o.cls=.ref C)(hq:Q (some (.ref C)) ⟨h,g,d,t+1,os⟩):wpAny (model prog w) A (getAttr? (.ref a) "__class__") Q E ⟨h,g,d,t,os⟩:=by
 unfold getAttr? getAttrBy?
 repeat (any_goals (first | assumption | with_reducible apply Br8 X Z hx hc | wp_step))
end
section
variable {K:PySem.W.Frag}{a C:Addr}
theorem Zn {x:Option Addr}(Z:Jz K C):KitX K (.ref a) (.ref C) (fun h=>∃o,h.get? a=some o/\o.cls=.ref C/\o.dict=x/\∃vs,o.data=.fields vs) where
 ty:=fun M h _ ⟨o,e,c,_⟩=>c▸(Looks.ld e).andThen .now
 it:=fun M h X _=>by
  obtain⟨bm,Nn,nm,qn,bs,sn,sub,ab,col,dd,k0,k1,k2,k3,k5,hC,_⟩:=G9 X Z.exc;intro A' Q' E' s' kp q;unfold isType loadHead;exact wpAny_bind (wpAny_loadPart (kp _ _ hC) (wpAny_pure q))
 ne:=fun h tp dd its n sl X htp=>by
  obtain⟨bm,Nn,nm,qn,bs,sn,sub,ab,col,d',k0,k1,k2,k3,k5,hC,_⟩:=G9 X Z.exc
  refine Bool.eq_false_iff.mpr fun q=>?_
  cases (Value.ref.inj (beq_iff_eq.mp q))
  rw[hC]at htp;have z:=congrArg Obj.data (Option.some.inj htp)
  cases z
 ca:=fun {_ _ _ _ _ s} X p q=>by
  obtain⟨hh,g,d,t,os⟩:=s;obtain⟨o,e,c,_⟩:=p;exact A6l X Z e c q
end
section
variable {X:Cx}
def Bn3:V->Option Value
 | .ref D=>some (.ref D)
 | .ty T=>some (.type T)
 | _=>none
theorem A5h {c:V}{u z:Value}(e:Bn3 c=some z)(r:RelV c u):u=z:=by
 cases c with
 | ref D=>cases e;exact r
 | ty T=>cases e;exact r
 | _=>cases e
def Af8 (K:PySem.W.Frag):List V->Hp->VK->Prop:=fun xs H Q=>∃a C d c z b,xs=[.ref a,c]/\H a=some (Lb a C d)/\Jz K C/\Bn3 c=some z/\kitOne K (.ref C) z=some b/\Q (.bl b) H
theorem At6:CallR X (.builtin "isinstance") (Af8 X.K):=by
 intro pins s σ H xs us Q I r h;obtain⟨a,C,d,c,z,b,rfl,ha,Z,ec,ek,q⟩:=h;obtain⟨u1,u2,rfl,r1,r2⟩:=vals2 r
 cases (show u1=Value.ref a from r1)
 cases A5h ec r2
 have ho:z8 X.prog X.w H s.heap a (Lb a C d):=I.hok a _ ha
 exact kia_one (Zn Z) I.kIn ho.1 ek (fun z=>nomatch z) fun tk=>⟨.bl b,H,I.tok _,rfl,q⟩
def Bx2 (D:Addr):TE:=fun _ H Q=>Q (.ref D) H
theorem Bb8 {y:Str}{D:Addr}{p:Pos}(hg:Gl X y)(hm:X.mg y=some (.ref D))(hdb:(y==("__debug__" : Str))=false:=by decide):PE X (.Name y p) (Bx2 D):=fun pins s σ H Q I h=>Ir I hg hm ⟨.ref D,H,I,rfl,h⟩ hdb
def Ae4 (n:Nat):PyData->Bool
 | .none=>true
 | .bool _=>true
 | .int i=>decide (i.natAbs.log2<1920)
 | .str x=>decide ((reprText x).length+n<=16000000)
 | d=>d.showable&&!d.hasDict&&decide (d.depth<=40)&&decide (d.shown.length+n<=16000000)
theorem A0n {x:Str}{tk:Tok}{pins:List (Addr×Obj)}{σ:St}{H:Hp}{s:Shared}{n:Nat}{Q:Value->Shared->Prop}{E:Value->Shared->Prop}(I:Inv X pins σ H s)(h:(reprText x).length+n<=16000000)(q:∀z t s2,z.length+n<=16000000->Inv X pins σ H s2->Q (.str z t) s2):wpAny (model X.prog X.w) X.A (pyReprObj (.str x tk)) Q E s :=
 wpAny_pyReprObj_str (q _ _ _ h (I.tok _)) (Nat.le_trans (Nat.le_add_right _ _) (Nat.le_trans h (by decide)))
theorem A7a {d:PyData}{v:V}{u:Value}{pins:List (Addr×Obj)}{σ:St}{H:Hp}{s:Shared}{n:Nat}{Q:Value->Shared->Prop}{E:Value->Shared->Prop}(hu:X.A.units+64<cLine)(hg:X.A.guards=some [])(I:Inv X pins σ H s)(td:Tr H d v)(r:RelV v u)(hn:n<=1000)(h:Ae4 n d=true)
 (q:∀z t s2,z.length+n<=16000000->Inv X pins σ H s2->Q (.str z t) s2):wpAny (model X.prog X.w) X.A (pyReprObj u) Q E s:=by
 have seq:∀(a:Addr) (d:PyData),Tr H d (.ref a)->(d.showable&&!d.hasDict&&decide (d.depth<=40)&&decide (d.shown.length+n<=16000000))=true->wpAny (model X.prog X.w) X.A (pyReprObj (.ref a)) Q E s:=fun a d td h=>by
  simp only[Bool.and_eq_true,Bool.not_eq_true',decide_eq_true_eq]at h;obtain⟨⟨⟨h1,h2⟩,h3⟩,h4⟩:=h
  obtain⟨as,rd⟩:=td.reads I (show RelV (.ref a) (.ref a) from rfl)
  exact pyReprObj_of_reads rd h1 (fun z=>by rw[h2]at z;cases z) hg (by omega) (fun _ _ e=>e) (fun h' t tk hk=>q _ _ _ h4 (I.kept (t':=tk) hk)) (Nat.le_trans (Nat.le_trans (Nat.le_add_right _ _) h4) (by decide))
 cases d with
 | none=>cases (show v=.non from td);cases (show u=Value.none from r);exact pyReprObj_none (q _ _ _ (by show 4+n<=_;omega) (I.tok _))
 | bool b=>cases (show v=.bl b from td);cases (show u=Value.bool b from r);exact pyReprObj_bool (q _ _ _ (by cases b <;> (first | (show 4+n<=_;omega) | (show 5+n<=_;omega))) (I.tok _))
 | int i =>
  cases (show v=.int i from td)
  obtain⟨t,e⟩:=(show ∃t,u=Value.int i t from r);cases e
  have hi:i.natAbs.log2<1920:=of_decide_eq_true h
  exact pyReprObj_int hi (q _ _ _ (by have:=int_text_len_1921 hi;omega) (I.tok _))
 | str x =>
  cases (show v=.str x from td)
  obtain⟨t,e⟩:=(show ∃t,u=Value.str x t from r);cases e
  exact A0n I (of_decide_eq_true h) q
 | list ds=>obtain⟨a,vs,e,_⟩:=id td;cases e;cases (show u=Value.ref a from r);exact seq a _ td h
 | tuple ds=>obtain⟨a,vs,e,_⟩:=id td;cases e;cases (show u=Value.ref a from r);exact seq a _ td h
 | dict kv=>exact(show False from td).elim
def tFs (n:Nat)(te:TE):TE:=fun σ H Q=>te σ H fun v H1=>∃d,Tr H1 d v/\Ae4 n d=true/\∀z,Q (.str z) H1
end
end L2
namespace L2
open PySem PySem.Spec PyProof.Rows
def TabAt (K:PySem.W.Frag)(h:Heap):Prop:=(∀p∈Dy K,h.get? p.1=some { cls:=.none,data:=.fields #[] }/\isCodeTable h p.1/\K.lookup p.1=none)/\∀p∈Dy K,(Dy K).lookup p.1=some p.2
theorem Iv {l:List (Addr×Str)}   (h:l.lookup b=some q):(b,q)∈l:=by
 induction l with
 | nil=>grind
 | cons p r a =>
  grind
theorem Ar2   {K:PySem.W.Frag}          
 (KX:K.In c.heap) (hns:c.heap.Ns mainGlobals mg) (hb:c.heap.Ns builtinsNs U) (X:∀x:Str,x ≠ "__name__" -> U x=bootBuiltins x) (L:c.heap.NoLimit) (hg:c.gens=#[])
 (T:∃j o,mg "__builtins__" = some (.ref j)/\j≠builtinsNs/\c.heap.get? j=some o/\o.cls=.type "module" /\ o.dict=some builtinsNs/\o.data=.plain) (D:TabAt K c.heap)
 (ha:c.heap.get? a=some { cls:=.type "list",data:=.seq vs.toArray }) (hi:IntsAre vs ns) (hl:ns.length<=sizeLine) (hr:Room k callerA)
 (F:∀base:Heap,K.In base->base.Ns mainGlobals mg->FnOk P w K mg base CX k fa fd [x] sp) (C:∀(s:Shared) (u:Value),BindsTo s fd ⟨[u],[]⟩ [(x,u)])
 (hsp:∀H:Hp,SqL K H a (ns.map V.int)->sp [.ref a] H (fun v _=>v=.bl true) fun _ _ _=>False)
 (W:∀H e s',CX [] H c (fun _ _ _=>False) e s'->False) :
 codeAny (model P w) callerA (.call (.ref fa) ⟨[.ref a],[]⟩) (fun r s'=>r=.ok (.ret (.bool true))/\OldK c.heap s'.heap/\s'.os=c.os/\AllBare s'.gens) c:=by
 have rv:=Vu hi;have E:=hi.length
 have Y:∀p∈Dy K,p.1≠a:=fun p B z=>by
  have e:=(D.1 p B).1;rw[z,ha]at e;cases e
 have t:∀H:Hp,SqL K H a (ns.map V.int)->HOk P w H c.heap->(∀b u,H b=some u->(b=a/\K.lookup a=none/\∃o xs,u=.frz o (.lst xs))\/∃q,(b,q)∈Dy K/\u=.tbl q)->(∀p∈Dy K,H p.1=some (.tbl p.2)) ->
  codeAny (model P w) callerA (.call (.ref fa) ⟨[.ref a],[]⟩) (fun r s'=>r=.ok (.ret (.bool true))/\OldK c.heap s'.heap/\s'.os=c.os/\AllBare s'.gens) c:=by
  intro H hS G hA hH
  have f:∀{b:Addr} {o:Obj},c.heap.get? b=some o->H b=none->(Ve c.heap H).get? b=some o:=fun e n=>A5u e n
  have N:∀{b:Addr} {o:Obj},c.heap.get? b=some o->(∀x n,o.data≠.seq x n)->(∀x,o.data≠.fields x)->H b=none:=fun {b o} e d1 d2=>by
   cases q:H b with
   | none=>rfl
   | some u =>
    rcases hA b u q with ⟨z,_⟩ | ⟨y,O,_⟩
    ·rw[z,ha]at e;cases e;exact absurd rfl (d1 _ _)
    ·have g:=(D.1 _ O).1
     rw[e]at g;cases g;exact absurd rfl (d2 _)
  have l:∀{b:Addr} {m:Str->Option Value},c.heap.Ns b m->(Ve c.heap H).Ns b m:=fun {b m} ⟨o,es,ep,e,d,r⟩=>⟨o,es,ep,f e (N e (fun x n z=>by rw[d]at z;cases z) fun x z=>by rw[d]at z;cases z),d,r⟩
  have I:K.In (Ve c.heap H):=fun b o e=>f (KX b o e) (by
   cases q:H b with
   | none=>rfl
   | some u =>
    rcases hA b u q with ⟨z,z2,_⟩ | ⟨y,O,_⟩
    ·rw[z,z2]at e;cases e
    ·rw[(D.1 _ O).2.2]at e;cases e)
  have Z:∃j o,mg "__builtins__" = some (.ref j)/\j≠builtinsNs/\j≠mainGlobals/\(Ve c.heap H).get? j=some o/\o.cls=.type "module" /\ o.dict=some builtinsNs/\o.data=.plain:=by
   obtain⟨j,o,b1,b2,Q,b4,b5,M⟩:=T
   refine⟨j,o,b1,b2,fun z=>?_,f Q (N Q (fun x n z=>by rw[M]at z;cases z) fun x z=>by rw[M]at z;cases z),b4,b5,M⟩
   obtain⟨og,es,ep,e,d,_⟩:=hns;rw[z,e]at Q;cases Q;rw[d]at M;cases M
  have hM:Mod K mg (Ve c.heap H):=⟨I,l hns,⟨U,l hb,X⟩,(let ⟨mc,h1,h2⟩:=L; ⟨mc,l h1,h2⟩),Z⟩
  have e0:Env0 P w K mg (Ve c.heap H) callerA [] c H:=⟨rfl,hM,fun b o e=>A6d e,Nat.le_of_eq (At7 _ _),trivial,fun b hb=>absurd (show b∈([]:List Addr) from hb) (by simp),hH,G,.of_eq hg⟩
  refine codeAny_mono ((F _ I (l hns)).run callerA [] c H ⟨[.ref a],[]⟩ [.ref a] [.ref a] _ _ hr e0 (C c (.ref a)) (.cons rfl .nil) (hsp H hS)) fun r s' h=>?_
  cases r with
  | error e=>exact(W H e s' h).elim
  | ok fl =>
   cases fl with
   | next=>exact False.elim h
   | brk=>exact False.elim h
   | cont=>exact False.elim h
   | ret u =>
    obtain⟨v,H',os,J,R,A,r',q⟩:=h;have q':v=.bl true:=q;subst q';obtain rfl:u=Value.bool true:=r'
    refine⟨rfl,⟨fun b o e=>?_,fun b o e=>R.there b o e (by simp)⟩,os,J⟩
    cases q:H b with
    | none=>exact .inl (R.keep b o e q (by intro z;exact absurd (show b∈([]:List Addr) from z) (by simp)) (by simp))
    | some u =>
     rcases hA b u q with ⟨_,_,ob,xs,rfl⟩ | ⟨y,O,rfl⟩
     ·obtain⟨g,_⟩:=G b _ q
      obtain⟨e2,_⟩:=A b _ (R.frzs b ob _ q);rw[e]at g;cases g;exact .inl e2
     ·obtain⟨ps,e2,_⟩:=A b _ (R.tbls b y q)
      obtain⟨t1,t2,_⟩:=D.1 _ O;rw[e]at t1;cases t1
      exact .inr (.inl ⟨t2,rfl,#[],ps,rfl,by rw[e2];simp⟩)
 have i:∀(H:Hp) (p:Addr×Str),p∈Dy K->z8 P w H _ _ (.tbl p.2):=fun H p B=>⟨#[],(D.1 p B).1,trivial,fun pos cv z=>by cases z⟩
 cases hk:K.lookup a with
 | some o =>
  have e:=KX a o hk;rw[ha]at e
  cases e
  refine t (fun b=>((Dy K).lookup b).map .tbl) (.inr ⟨_,vs.toArray,_,hk,rfl,rfl,rfl,by rw[List.size_toArray,E];exact hl,by simpa using rv⟩) (fun b u z=>?_) (fun b u z=>?_) fun p B=>?_
  ·obtain⟨q,g,rfl⟩:=Option.map_eq_some_iff.mp z
   exact i _ _ (Iv g)
  ·obtain⟨q,g,rfl⟩:=Option.map_eq_some_iff.mp z
   exact .inr ⟨q,Iv g,rfl⟩
  ·rw[D.2 p B];rfl
 | none =>
  refine t (fun b=>if b=a then some (.frz { cls:=.type "list",data:=.seq vs.toArray } _) else ((Dy K).lookup b).map .tbl) (.inl (.inr ⟨{ cls:=.type _,data:=.seq _ },if_pos rfl⟩)) (fun b u z=>?_) (fun b u z=>?_) fun p B=>?_
  ·by_cases hb:b=a
   ·have S:=(if_pos hb).symm.trans z
    cases S
    subst hb
    exact⟨ha,by rw[List.length_map];exact hl,vs,_,rv,ha⟩
   ·obtain⟨q,g,rfl⟩:=Option.map_eq_some_iff.mp ((if_neg hb).symm.trans z)
    exact i _ _ (Iv g)
  ·by_cases hb:b=a
   ·have S:=(if_pos hb).symm.trans z
    cases S
    exact .inl ⟨hb,hk,_,_,rfl⟩
   ·obtain⟨q,g,rfl⟩:=Option.map_eq_some_iff.mp ((if_neg hb).symm.trans z)
    exact .inr ⟨q,Iv g,rfl⟩
  ·rw[if_neg (Y p B),D.2 p B];rfl
end L2
namespace L2
open PySem PySem.Spec PyProof.Rows PySem.W
theorem Xy {f:Pos}{c:Value}:∀(l:List Value),TriplesOk l->TriplesOk (l++[rawInt f.line,rawInt f.col,c]):=fun l h=>by
 fun_induction TriplesOk l with
 | case1=>trivial
 | case2 a b c d e g i=>exact i h
 | case3=>trivial
theorem Ai8 {g f:Pos}{c cv:Value}:∀(l:List Value),TriplesOk l->codeAmong f (l++[rawInt g.line,rawInt g.col,c])=some cv->codeAmong f l=some cv\/cv=c:=fun l h e=>by
 fun_induction TriplesOk l with
 | case1 =>
  simp only[List.nil_append,rawInt,codeAmong]at e
  grind
 | case2 a b c d k i j =>
  simp only[List.cons_append,codeAmong]at e ⊢
  grind
 | case3=>trivial
def HLam (H H':Hp):Prop:=H'=H\/∃c o,H c=none/\H'=upd H c (.frz o (.own 0))
abbrev Ad9 (qual:Str)(params:Arguments)(body:Expr)(scope:Scope)(cl:List (Str×Addr))(pm cv ctv:Value):Obj:={ cls:=.type "function",data:=.func (kla_fn "<lambda>" qual params body scope cl pm cv ctv) }
def LamCd (qual:Str)(cv:Value)(H:Hp):Prop:=∃c o vs t,cv=.ref c/\H c=some (.frz o (.own 0))/\o.data=.fields vs/\vs[1]?=some (.str qual t)
theorem LamCd.rec {P:Program}{w:World}{qual:Str}{cv:Value}{H:Hp}{h:Heap}(x:LamCd qual cv H)(b:HOk P w H h):h.CodeRec cv qual:=by
 obtain⟨c,o,i,t,e,a,d,f⟩:=x;obtain⟨g,_⟩:=b c _ a;exact⟨c,o,i,t,e,g,d,f⟩
section
variable {X:Cx}{pins:List (Addr×Obj)}{σ:St}{H:Hp}{s:Shared}
theorem Inv.grown {T c:Addr}{q:Str}{f:Obj}{h':Heap}{t':Nat}(I:Inv X pins σ H s)(w:H T=some (.tbl q))(k:∀b o,b≠T->s.heap.get? b=some o->h'.get? b=some o)(hc:s.heap.objs.size<=c)(ho:h'.get? c=some f)
 (j:z8 X.prog X.w (upd H c (.frz f (.own 0))) h' T (.tbl q)):Inv X pins σ (upd H c (.frz f (.own 0))) { s with heap:=h',toks:=t' }:=by
 have p:H c=none:=I.hok.fresh hc
 have a:∀b u,H b=some u->b≠c:=fun b u e=>Ba e p
 have i:∀b u,s.heap.get? b=some u->b≠c:=fun b u e z=>absurd (Heap.lt_size e) (by simp_all)
 have h:∀b,H b=none->b≠T:=fun b e z=>by rw[z,w]at e;cases e
 refine I.step (g':=s.gens) (d':=s.drawn) (ch:=[]) (fun _ z=>nomatch z) (fun b o _ _ _ e n=>k b o (h b n) e) (fun b o _ _ _ e n=>⟨o.slots,k b o (h b n) e⟩) (fun b o _ e n=>by rw[Ao (i b o e)];exact n) (fun b o _ e=>?_)
  (fun b l e=>by rw[Ao (a b _ e)];exact e) (fun b o u e=>by rw[Ao (a b _ e)];exact e) (fun b q e=>by rw[Ao (a b _ e)];exact e) (fun m x=>?_) (fun b u e=>?_) I.bare
 ·by_cases hb:b=T
  ·obtain⟨B,g,_⟩:=j
   simp_all
  ·exact⟨o,k b o hb e⟩
 ·obtain⟨o,t,y,e,r⟩:=x
  exact⟨o,t,y,k _ o (h _ I.free) e,r⟩
 ·by_cases hb:b=c
  ·rw[hb]at e ⊢
   rw[Be]at e;cases e;exact⟨ho,f,ho⟩
  ·rw[Ao hb]at e
   by_cases hbT:b=T
   ·simp_all
   ·refine (I.hok b u e).stay (fun d v C z=>k d v ?_ z) (fun d z=>by rw[Ao (a d _ z)];exact z) (fun d l z=>by rw[Ao (a d _ z)];exact z) fun d A l z=>by rw[Ao (a d _ z)];exact z
    grind
theorem A5o {a:Arguments}{body:Expr}{scope:Scope}{N:Pos}{cl:List (Str×Addr)}{c T:Addr}{l:Str}{Q:Value->Shared->Prop}{A:Around}{E:Value->Shared->Prop}(I:Inv X pins σ H s)(hT:(T,l)∈Dy X.K)(hC:codeHdIn X.K c T=true)(g:X.env.code=.ref c)
 (hq:X.env.qual ++ "<lambda>" = l) (w:defaultsOf a X.env=([],[])) (x:closureFor scope X.env=pure cl)
 (h:∀(f:Addr) (s':Shared) (H':Hp) (pm cv j:Value),Inv X (pins++[(f,Ad9 l a body scope cl pm cv j)]) σ H' s'->HLam H H'->LamCd l cv H'->Q (.ref f) s') :
 wpAny (model X.prog X.w) A (eval (.Lambda a body scope N) X.env) Q E s:=by
 have D:H T=some (.tbl l):=I.base.tbls T l (I.ok.tab (T,l) hT);obtain⟨ps,F,K,i⟩:=I.hok T _ D;have C:=codeHd_of_K I.kIn hC;have m:s.heap.Ns mainGlobals X.mg:=I.ok.mod.glob.keeps I.bk;obtain⟨Z,ob,b1,b2,b3,b4,b5,b6,b7⟩:=I.ok.mod.bmod;have k:=I.bk _ _ b4
 have M:mainGlobals≠T:=fun z=>by
  obtain⟨o,es,ep,e,d,_⟩:=m;rw[z,F]at e;cases e;cases d
 have O:Z≠T:=fun z=>by rw[z,F]at k;cases k;cases b5
 have Y:s.heap.BuiltinsAt X.mg T:=⟨Z,ob,b1,b2,b3,O,k,b5,b6,b7⟩
 have q:∀{n:Heap} {H':Hp} {y:Nat} {o:Obj},Inv X _ σ H' { s with heap:=n,toks:=y }->o.isFreed=false->(∀v,o.data≠.cell v)->Inv X (pins++[(n.objs.size,o)]) _ _ _:=fun {n H' y o} J R G=>by
  have f:=J.fpOk  (Nat.le_refl _) (J.hok.fresh (Nat.le_refl _))
  have J2:Inv X _ _ _ { s with heap:=n.push o,toks:=y }:=J.kept  fun b u e=>Heap.get?_push_of_some _ e
  refine J2.pins_of fun p hp=>?_
  rcases List.mem_append.mp hp with z | z
  ·exact J2.pin p (List.mem_append_right _ z)
  ·rw[List.mem_singleton.mp z]
   exact⟨Heap.get?_push_size _ R,f.1,f.2.1,f.2.2.1,G⟩
 refine kla_eval w ?_
 rw[hq]
 cases hf:codeAmong _ _ with
 | none =>
  refine kla_makeFunction  x I.ok.glob m g C F K hf M Y fun S j n y hx r hlt B U=>?_
  obtain⟨c2,P,vs,t,L,V,G,hv⟩:=B
  cases L
  have hn  := I.hok.fresh r
  refine h _ _ _ _ _ _ (q (I.grown  D (fun b o hb e=>hx b o hb e) r V ?_) rfl fun v z=>by cases z) (.inr ⟨S,P,hn,rfl⟩) ⟨S,P,vs,t,rfl,Be,G,hv⟩
  refine⟨_,U,by rw[Array.toList_append];exact Xy _ K,fun pos' cv z=>?_⟩
  rw[Array.toList_append]at z
  rcases Ai8 _ K z with z | rfl
  ·obtain⟨d,o,W,t',e1,L,e3⟩:=i _ _ z
   exact⟨d,o,W,t',e1,by rw[Ao (Ba L hn)];exact L,e3⟩
  ·exact⟨S,P,vs,t,rfl,Be,G,hv⟩
 | some cv =>
  refine kla_makeFunctionHit  x I.ok.glob m g C F K hf Y fun j n y hk hsz=>?_
  exact h _ _ H _ _ _ (q (I.kept  hk) rfl fun v z=>by cases z) (.inl rfl) (i _ _ hf)
end
theorem Fun.okL {P:Program}{w:World}{K:PySem.W.Frag}{mg:Str->Option Value}{base:Heap}{x qual:Str}{st:Stmt}{f:Addr}{i:FuncData}{N ps:List Str}{k:Nat}{sp:Sp}(F:Fun K x qual st f i)(S:Bh N ps (Am st))(e:∀vs H Q E,sp vs H Q E->vs.length=ps.length)
 (c:∀(b:Value) (A:Around) (a:List Env) (s:Shared) (H:Hp) (vs:List V) (Q:VK) (E:XK),i.code=b->Room k (A.deeper (envOfC qual (Am st) s.heap.objs.size f b))->sp vs H Q E ->
  ∃t,PSs (Hd CX0 P w K mg base N qual (Am st) f b A a s H E).nox (Dr st) t/\t { nx:=fun _ H'=>Q .non H',rt:=Q } (start N vs) H):FnOk P w K mg base CX0 (k+1) f i ps sp:=by
 obtain⟨oc,od,kV,j,pm,an,b,ct,l,rfl,m,g⟩:=F.ex
 refine Al9 m g S e fun A a s H vs Q E n d=>?_
 obtain⟨t,h,q⟩:=c b A _ s H _ Q E rfl n d;exact⟨t,h.nox,q⟩
def Ep (o:Obj):Bool:=match o.data with
 | .cell _=>false
 | _=>true
def sel (h:Heap)(tabs:List (Addr×Addr×Str))(a:Addr):Option Obj:=(h.get? a).bind fun o=>if (Ep o&&!(tabs.any fun t=>t.2.1==a))=true then some o else none
def N7 (h:Heap)(tabs:List (Addr×Addr×Str)):Frag:=((List.range h.objs.size).filterMap fun a=>(sel h tabs a).map fun o=>(a,o))++tabs.map fun t=>(t.1,Ap2 t.2.1 t.2.2)
theorem Kg {f:Nat->Option Obj}{b:Nat}:∀{l:List Nat},(l.filterMap fun a=>(f a).map fun o=>(a,o)).lookup b=if b∈l then f b else none
 | []=>by simp
 | a::l=>by
  rw[List.filterMap_cons]
  by_cases e:b=a
  ·subst e
   rw[if_pos List.mem_cons_self]
   cases q:f b with
   | none =>
    simp only[Option.map_none];rw[Kg]
    split
    ·exact q
    ·rfl
   | some o=>simp
  ·have h1:(b∈a::l)=(b∈l):=by simp[e]
   simp only[h1]
   cases q:f a with
   | none=>simp only[Option.map_none];exact Kg
   | some o =>
    simp only[Option.map_some];rw[List.lookup_cons]
    have:(b==a)=false:=by simp[e]
    rw[this];exact Kg
section
variable {h:Heap}{tabs:List (Addr×Addr×Str)}
theorem Ou   (e:sel h tabs a=some o):h.get? a=some o/\Ep o=true/\∀t∈tabs,t.2.1≠a:=by
 obtain⟨c,d,b⟩:=Option.bind_eq_some_iff.mp e
 grind
theorem Bo7   (e:h.get? a=some o) (hp:Ep o=true) (hn:∀t∈tabs,t.2.1≠a):sel h tabs a=some o:=by
 unfold sel
 grind
theorem Nb   (e:sel h tabs a=some o):(N7 h tabs).lookup a=some o:=by
 unfold N7;rw[List.lookup_append,Kg,if_pos (List.mem_range.mpr (Heap.lt_size (Ou e).1)),e];rfl
theorem Tj {a:Addr}{o:Obj}:∀{tabs:List (Addr×Addr×Str)},(tabs.map fun t=>(t.1,Ap2 t.2.1 t.2.2)).lookup a=some o->∃t∈tabs,t.1=a
 | [],e=>by cases e
 | t::r,e=>by
  rw[List.map_cons,List.lookup_cons]at e
  split at e
  ·rename_i z
   exact⟨t,List.mem_cons_self,by simpa using (eq_comm.mp (by simpa using z))⟩
  ·obtain⟨t',h1,h2⟩:=Tj e
   exact⟨t',List.mem_cons_of_mem _ h1,h2⟩
theorem Bu0 (ht:∀t∈tabs,CodeHd h t.1 t.2.1/\h.get? t.2.1=some { cls:=.none,data:=.fields #[] })(D:∀t∈tabs,(tabs.map fun t=>(t.2.1,t.2.2)).lookup t.2.1=some t.2.2) :
 (N7 h tabs).In h/\TabAt (N7 h tabs) h/\(∀t∈tabs,codeHdIn (N7 h tabs) t.1 t.2.1=true/\(t.2.1,t.2.2)∈Dy (N7 h tabs))/\∀a o,h.get? a=some o->Ep o=true->o.data≠.fields #[]->(N7 h tabs).lookup a=some o:=by
 have g:∀a o,h.get? a=some o->Ep o=true->o.data≠.fields #[]->sel h tabs a=some o:=fun a o e d j=>Bo7 e d fun t m z=>by
  have:=(ht t m).2;rw[z,e]at this;cases this;exact j rfl
 have code:∀t∈tabs,∃o i,h.get? t.1=some o/\o.cls=.type "code" /\ o.data=.fields i/\i[11]?=some (.ref t.2.1)/\sel h tabs t.1=some o:=fun t m=>by
  obtain⟨o,i,_,_,_,_,_,_,_,w,v,l,u,_⟩:=(ht t m).1
  refine⟨o,i,w,v,l,u,g t.1 o w (by unfold Ep;rw[l]) fun z=>?_⟩
  rw[l]at z
  injection z with z
  rw[z]at u;simp at u
 have c:∀{a:Addr} {o:Obj},(N7 h tabs).lookup a=some o->sel h tabs a=some o:=fun {a o} e=>by
  cases q:sel h tabs a with
  | some y=>rw[Nb q]at e;exact e
  | none =>
   unfold N7 at e;rw[List.lookup_append,Kg]at e
   have F:(if a∈List.range h.objs.size then sel h tabs a else none)=none:=by
    split
    ·exact q
    ·rfl
   rw[F]at e
   obtain⟨t,m,z⟩:=Tj (show (tabs.map fun t=>(t.1,Ap2 t.2.1 t.2.2)).lookup a=some o from e)
   obtain⟨_,_,_,_,_,_,s⟩:=code t m;rw[z,q]at s;cases s
 have k:Dy (N7 h tabs)=tabs.map fun t=>(t.2.1,t.2.2):=by
  unfold Dy N7;rw[List.filterMap_append]
  have x:((List.range h.objs.size).filterMap fun a=>(sel h tabs a).map fun o=>(a,o)).filterMap (fun p=>T9 p.2)=[]:=by
   rw[List.filterMap_eq_nil_iff];intro p d;obtain⟨a,_,e⟩:=List.mem_filterMap.mp d;obtain⟨o,x,rfl⟩:=Option.map_eq_some_iff.mp e;have j:=(Ou x).2.1
   show T9 o=none
   unfold T9;unfold Ep at j
   split
   ·rename_i z;rw[z]at j;cases j
   ·rfl
  have Q:(tabs.map fun t=>(t.1,Ap2 t.2.1 t.2.2)).filterMap (fun p=>T9 p.2)=tabs.map fun t=>(t.2.1,t.2.2):=by
   clear g c code D ht x
   induction tabs with
   | nil=>rfl
   | cons t r S =>
    rw[List.map_cons,List.filterMap_cons]
    show (t.2.1,t.2.2)::_=_
    rw[S];rfl
  rw[x,Q,List.nil_append]
 have B:(N7 h tabs).In h:=fun a o e=>(Ou (c e)).1
 refine⟨B,⟨fun p d=>?_,fun p d=>?_⟩,fun t m=>⟨?_,?_⟩,fun a o e d j=>Nb (g a o e d j)⟩
 ·rw[k]at d
  obtain⟨t,m,rfl⟩:=List.mem_map.mp d;obtain⟨o,i,w,v,l,u,_⟩:=code t m
  refine⟨(ht t m).2,⟨t.1,o,i,w,v,l,u⟩,?_⟩
  cases q:(N7 h _).lookup _ with
  | none=>rfl
  | some y=>exact absurd rfl ((Ou (c q)).2.2 t m)
 ·rw[k]at d ⊢
  obtain⟨t,m,rfl⟩:=List.mem_map.mp d;exact D t m
 ·obtain⟨o,i,_,v,l,_,s⟩:=code t m
  obtain⟨y,G,f,tf,fl,tg,b,n,tt,J,K,L,M,g5,I,N,H,P,A⟩:=(ht t m).1;have O  := Option.some.inj (J.symm.trans (Ou s).1);subst O;obtain⟨R,od,C,E⟩:=y
  cases (show R=Value.type _ from K)
  cases (show C=Data.fields _ from L)
  unfold codeHdIn;rw[(Nb s)];simp only[M,I,N,H,P]
  simp[A]
 ·rw[k];exact List.mem_map.mpr ⟨t,m,rfl⟩
end
section
variable {q:Program}{loose:List Str}{mean:ExcName->Option Value}{mg mb:Str->Option Value}{h:Heap}{K:Frag}
theorem Au5   (j:∀a o,h.get? a=some o->Ep o=true->o.data≠.fields #[]->K.lookup a=some o) (c:h.CodeRec f x):codeIn K f x=true:=by
 obtain⟨a,o,b,t,rfl,g,d,e⟩:=c
 have k:=j a o g (by unfold Ep;rw[d]) fun z=>by grind
 obtain⟨oc,od,m,i⟩:=o
 show (match K.lookup a with
  | some ⟨_,_,.fields b,_⟩=>match b.toList with | _::.str n _::_=>n==x | _=>false
  | _=>false)=true
 obtain⟨l⟩:=b
 match l,e with
 | _::.str n u::_,e =>
  simp_all
theorem A9o (T:Top q loose mean mg mb h)(i:∀a o,h.get? a=some o->Ep o=true->o.data≠.fields #[]->K.lookup a=some o)  {st:Stmt}(hd:d∈recsOf q) (w:d.params=Kd st) (l:d.body=Dr st) (m:d.scope=Am st) :
 ∃f fd,Fun K d.name d.name st f fd/\mg d.name=some (.ref f):=by
 obtain⟨a,o,e,b,c,n,p,r,s⟩:=T.fn d hd
 have k:=i a o p (by unfold Ep;grind) fun z=>by simp_all
 obtain⟨t,u,v,g⟩:=o
 cases (r)
 have j:PySem.Calls.docDef d.name d.params d.body d.scope e b c=fnOf d.name d.name (Kd st) (Dr st) (Am st) .none .none c e none b .none:=by rw[w,l,m];rfl
 refine⟨a,_,⟨⟨t,u,.none,c,e,none,b,.none,g,j,k,Au5 i s⟩,?_⟩,n⟩
 unfold keepIn
 grind
theorem A7m (T:Top q loose mean mg mb h){d:DefRec}(hd:d∈recsOf q):∃c P:Addr,CodeHd h c P/\h.get? P=some { cls:=.none,data:=.fields #[] }/\∀f o b,mg d.name=some (.ref f)->h.get? f=some o->o.data=.func b->b.code=.ref c:=by
 obtain⟨a,o,b,c,P,m,j,p,k,g,e⟩:=T.tab d hd
 refine⟨c,P,CodeHd.of g e,e.2,fun f n i r s l=>?_⟩
 simp_all
def A5b (q:Program)(loose:List Str)(RN:List Str)(x:Str):Bool:=!startupNames.contains x&&!loose.contains x&&!RN.contains x&&!((litsOf q).map (·.1)).contains x&&!((clssOf q loose).map (·.name)).contains x
theorem Dp (T:Top q loose mean mg mb h){a bs:List Str}(f:(recsOf q).map (·.name)=a)(hb:bs.all (A5b q loose a)=true)  (hx:x∈bs):mg x=none:=by
 have:=List.all_eq_true.mp hb x hx;unfold A5b at this;simp only[Bool.and_eq_true,Bool.not_eq_true',List.contains_eq_mem,decide_eq_false_iff_not]at this;obtain⟨⟨⟨⟨d,c⟩,g⟩,e⟩,b⟩:=this
 exact T.free x d c (by grind) e b
end
theorem Aa9   (a:(recsOf q).map (fun d=>(d.name,d.params,d.body,d.scope))=L) {i:Nat}  (e:L[i]?=some x) :
 ∃d,d∈recsOf q/\d.name=x.1/\d.params=x.2.1/\d.body=x.2.2.1/\d.scope=x.2.2.2:=by
 grind
theorem De   (a:(recsOf q).map (fun d=>(d.name,d.params,d.body,d.scope))=L):(recsOf q).map (·.name)=L.map (·.1):=by
 rw[<- a,List.map_map];rfl
theorem A5a {K:Frag}{h:Heap}{x qual:Str}{st:Stmt}{f:Addr}{a:FuncData}{v:Value}{mg:Str->Option Value}(F:Fun K x qual st f a)(b:K.In h)(hc:∀f o a,mg x=some (.ref f)->h.get? f=some o->o.data=.func a->a.code=v)(hm:mg x=some (.ref f)):a.code=v:=by
 obtain⟨j,p,m,g,k,l,d,n,i,e,c,_⟩:=F.ex;exact hc f _ _ hm (b _ _ c) rfl
theorem A5e {K:Frag}  {st:Stmt}   (F:Fun K x qual st f c) (h:∀(d a e:Value) (i:Option Addr) (b g:Value) (s:Shared) (u:Value),BindsTo s (fnOf x qual (Kd st) (Dr st) (Am st) .none d a e i b g) ⟨[u],[]⟩ [(y,u)]):∀(s:Shared) (u:Value),BindsTo s c ⟨[u],[]⟩ [(y,u)]:=by
 obtain⟨m,n,d,a,e,i,b,g,j,k,l,_⟩:=F.ex
 simp_all
end L2
namespace L2
open PySem PySem.Spec PyProof.Rows
end L2
namespace L2
open PySem PySem.Spec PyProof.Rows PySem.W
def Aw8 (tc:List (Str×List Str))(mg:Str->Option Value)(h:Heap):Prop:=∀q∈tc,∃a o its n,mg q.1=some (.ref a)/\h.get? a=some o/\o.cls=.type "tuple" /\ o.data=.seq its n/\its.size<=sizeLine/\Vals (q.2.map V.str) its.toList
theorem O9:∀{ss:List Str}{us:List Value},Rv ss us=true->Vals (ss.map V.str) us
 | [],[],_=>.nil
 | s::ss,.str z t::us,e=>by
  obtain⟨e1,e2⟩:=Bool.and_eq_true_iff.mp (show (s==z&&Rv ss us)=true from e)
  cases eq_of_beq e1
  exact .cons ⟨t,rfl⟩ (O9 e2)
theorem Br7  {s:Shared}(e:d.all (A0u s.heap)=true):Aw8 d (s.heap.nsMap mainGlobals) s.heap:=fun q m=>by
 have e:=List.all_eq_true.mp e q m;unfold A0u at e
 split at e
 ·rename_i a h
  split at e
  ·rename_i o g
   split at e
   ·rename_i c b n i j
    obtain⟨e,k⟩:=Bool.and_eq_true_iff.mp e;obtain⟨l,f⟩:=Bool.and_eq_true_iff.mp e
    exact⟨a,o,b,n,h,g,by rw[i,eq_of_beq l],j,of_decide_eq_true f,O9 k⟩
   ·cases e
  ·cases e
 ·cases e
theorem A3p  (mg:Str->Option Value) (h h':Heap) (x:Aw8 c mg h) (hk:∀b o,h.get? b=some o->h'.get? b=some o):Aw8 c mg h':=fun q m=>by
 obtain⟨a,o,d,n,f,e,r⟩:=x q m
 grind
theorem A7v    {K:PySem.W.Frag}(x:Aw8 c mg h) (f:∀a o,h.get? a=some o->Ep o=true->o.data≠.fields #[]->K.lookup a=some o) {i:Nat}   (e:c[i]?=some (y,ss)):∃p,mg y=some (.ref p)/\∀H,SqT K H p (ss.map V.str):=by
 obtain⟨a,o,b,n,g,j,k,l,m,d⟩:=x _ (List.mem_of_getElem? e)
 exact⟨a,g,fun H=>.inr ⟨o,b,n,f a o j (by unfold Ep;grind) (by grind),k,l,m,d⟩⟩
theorem walk_ofX {l:OpenLaw}       {sp:Frag->Sp} 
 (hn:l.most=some n) (r:n<=sizeLine) (t:d.params.defaults=[]) (hr:Room k callerA)
 (F:∀(w:World) (g:ExcName->Option Value) (mg C:Str->Option Value) (fa:Addr) (h:Heap),Top q (looseW q loose) g mg C h->XP mg h->mg d.name=some (.ref fa) ->
  ∃(K:Frag) (p:FuncData),K.In h/\TabAt K h/\(∀(s:Shared) (u:Value),BindsTo s p ⟨[u],[]⟩ [(x,u)])/\∀base:Heap,K.In base->base.Ns mainGlobals mg->FnOk l.prog w K mg base CX0 k fa p [x] (sp K))
 (m:∀(K:Frag) (H:Hp) (a:Addr) (ns:List Int),ns.length<=n->SqL K H a (ns.map V.int)->sp K [.ref a] H (fun v _=>v=.bl true) fun _ _ _=>False) :
 WalkO q loose XP YP l.row.toRowW d [] (fun f vs=>PySem.call f vs):=by
 refine Att.Zc hn t fun w D B mg C fa o P O J a vs ns G Y Q R E j i c b L=>?_
 obtain⟨K,p,y,A,I,M⟩:=F w _ _ _ _ _ G.T G.X j
 exact Ar2 y G.T.g G.T.b G.T.builtins G.T.nolimit L G.T.bmain A i c (Nat.le_trans b r) hr M I (fun H N=>m K H a _ b N) fun H e S z=>z
end L2
namespace L2
open PySem PySem.Spec PyProof.Rows
end L2
namespace STb
open PySem PySem.SetTable
abbrev En:=Nat×Int×Value
variable {t:SetTable}{E:List En}
end STb
namespace L2
open PySem PySem.Spec PyProof.Rows STb
end L2
namespace U
open PySem L2
structure Xn where
 n:Str
 p:Option (Str×PyData)
inductive Th where
 | nm (T:String)
 | dc (ks:List Str) (ds:List PyData)
 | dt (ks ds:List PyData)
 | ds (ks ds:List PyData)
 | td (xs ks ds:List PyData)
 | xc (nm:Xn)
 | tc (ss:List Str)
inductive O where
 | im (d:PyData)
 | ls (b:Bool) (ds:List PyData)
 | sc (ns:List Int)
 | ty (T:Th)
abbrev Ev:=List (Option O)
inductive PV where
 | o (o:O)
 | sl (i:Nat)
inductive R (α:Type) where
 | ok (a:α) (c:Ev)
 | bad
def R.bind {α β:Type}(r:R α)(k:α->Ev->R β):R β:=match r with
 | .ok a c=>k a c
 | .bad=>.bad
def R.sat {α:Type}(r:R α)(φ:α->Ev->Prop):Prop:=match r with
 | .ok a c=>φ a c
 | .bad=>False
theorem R.sat_bind  {r:R d}{k:d->Ev->R e}{b:e->Ev->Prop}:(r.bind k).sat b↔r.sat fun a c=>(k a c).sat b:=by cases r <;> exact Iff.rfl
theorem R.sat.mono  {r:R d}{e b:d->Ev->Prop}(h:r.sat e) (f:∀a c,e a c->b a c):r.sat b:=by
 cases r with
 | ok a c=>exact f a c h
 | bad=>exact h
theorem R.sat.bnd  {r:R d}{k:d->Ev->R e}{b:e->Ev->Prop}(h:(r.bind k).sat b):r.sat fun a c=>(k a c).sat b:=R.sat_bind.mp h
def O.bor:O->Bool
 | .ls b _=>b
 | _=>false
def O.own:O->Bool
 | .ls _ _=>true
 | _=>false
def O.dat:O->Option PyData
 | .im d=>some d
 | .ls _ ds=>some (.list ds)
 | _=>none
def O.flag (b:Bool):O->O
 | .ls _ ds=>.ls b ds
 | o=>o
def nrm:PV->PV
 | .o (.ls _ ds)=>.o (.im (.list ds))
 | p=>p
def rdP (c:Ev):PV->Option O
 | .o o=>some o
 | .sl i=>(c[i]?).join
def Ff (c:Ev)(p:PV):Option PyData:=(rdP c p).bind O.dat
structure Wo where
 Hf:Hp
 H:Hp
 fps:Nat->List Addr
def Wo.S (W:Wo):Addr->Prop:=fun a=>∃i,a∈W.fps i
def Bs9 (Hf:Hp):Option (Str×PyData)->Option Addr->Prop
 | none,d=>d=none
 | some q,d=>∃a v,d=some a/\Hf a=some (.xd [(q.1,v)])/\Tr Hf q.2 v
structure XAt (K:PySem.W.Frag) (Hf:Hp) (nm:Xn) (C:Addr) (d:Option Addr):Prop where
 ns:PySem.W.nsIn K mainGlobals nm.n=some (some (.ref C))
 pay:Bs9 Hf nm.p d
theorem XAt.same {K:PySem.W.Frag}{Hf Hf':Hp}{nm:Xn}{C:Addr}{d:Option Addr}(S:Same Hf Hf')(x:XAt K Hf nm C d):XAt K Hf' nm C d:=by
 refine⟨x.ns,?_⟩
 have q:=x.pay
 cases e:nm.p with
 | none=>rw[e]at q;exact q
 | some y=>rw[e]at q;obtain⟨a,v,h1,h2,h3⟩:=q;exact⟨a,v,h1,S _ _ h2,Tr.same S h3⟩
def RepT (K:PySem.W.Frag)(Hf:Hp):Th->V->Prop
 | .nm T,v=>v=.ty T
 | .dc ks ds,v=>∃a xs,v=.ref a/\Hf a=some (.dK (Bw4 ks xs))/\TrL Hf ds xs
 | .dt ks ds,v=>∃a xs,v=.ref a/\Rd Hf a (.dT (ks.zip xs))/\TrL Hf ds xs/\ks.length=xs.length
 | .ds ks ds,v=>∃a o xs,v=.ref a/\Hf a=some (.frz o (.dT (ks.zip xs)))/\TrL Hf ds xs/\ks.length=xs.length
 | .td es ks ds,v=>∃a us b o xs,v=.ref a/\Hf a=some (.tup (us++[.ref b]))/\TrL Hf es us/\Hf b=some (.frz o (.dT (ks.zip xs)))/\TrL Hf ds xs/\ks.length=xs.length
 | .xc nm,v=>∃a C d,v=.ref a/\XAt K Hf nm C d/\Hf a=some (Lb a C d)
 | .tc ss,v=>∃p,v=.ref p/\∀H,SqT K H p (ss.map V.str)
theorem A9e  (S:Same Hf b)   (h:Rd Hf a u):Rd b a u:=h.imp (fun h=>S _ _ h) fun⟨o,h⟩=>⟨o,S _ _ h⟩
theorem RepT.same {K:PySem.W.Frag}{Hf Hf':Hp}(S:Same Hf Hf'):∀{t:Th}{v:V},RepT K Hf t v->RepT K Hf' t v
 | .nm T,_,h=>h
 | .dc ks ds,_,⟨a,xs,e,h,t⟩=>⟨a,xs,e,S _ _ h,TrL.same S t⟩
 | .dt ks ds,_,⟨a,xs,e,h,t,l⟩=>⟨a,xs,e,A9e S h,TrL.same S t,l⟩
 | .ds ks ds,_,⟨a,o,xs,e,h,t,l⟩=>⟨a,o,xs,e,S _ _ h,TrL.same S t,l⟩
 | .td es ks ds,_,⟨a,us,b,o,xs,e,h,t,h2,t2,l⟩=>⟨a,us,b,o,xs,e,S _ _ h,TrL.same S t,S _ _ h2,TrL.same S t2,l⟩
 | .xc nm,_,⟨a,C,d,e,n,h⟩=>⟨a,C,d,e,n.same S,S _ _ h⟩
 | .tc ss,_,h=>h
def RepN (K:PySem.W.Frag)(Hf:Hp):O->V->Prop
 | .im d,v=>Tr Hf d v
 | .sc ns,v=>∃a,v=.ref a/\SqL K Hf a (ns.map V.int)
 | .ty T,v=>RepT K Hf T v
 | .ls _ _,_=>False
def RepO (K:PySem.W.Frag)(Hf H:Hp)(o:O)(v:V)(fp:List Addr):Prop:=match o with
 | .ls _ ds=>∃a vs,v=.ref a/\fp=[a]/\Hf a=none/\H a=some (.lst vs)/\TrL Hf ds vs
 | o=>fp=[]/\RepN K Hf o v
structure Stp (S:Addr->Prop) (Hf H:Hp) (S':Addr->Prop) (Hf' H':Hp):Prop where
 fz:Same Hf Hf'
 kp:∀a o,H a=some o->¬ S a->H' a=some o
 nf:∀a o,H a=some o->Mut (some o)->¬ S a->Hf a=none->Hf' a=none
 fr:∀a,S' a->S a\/H a=none
structure Rep (K:PySem.W.Frag) (β:Nat->V) (W:Wo) (c:Ev) (σ:St):Prop where
 sub:Same W.Hf W.H
 len:c.length=σ.length
 get:∀i o,c[i]?=some (some o)->∃v,σ[i]?=some (some v)/\RepO K W.Hf W.H o v (W.fps i)/\(o.bor=true->v=β i)
 dis:∀i j a,a∈W.fps i->a∈W.fps j->i=j
 own:∀i a,a∈W.fps i->W.Hf a=none/\∃o,W.H a=some o/\Mut (some o)
def Ed (K:PySem.W.Frag)(W:Wo)(σ:St):PV->V->List Addr->Prop
 | .o o,v,fp=>RepO K W.Hf W.H o v fp/\∀a∈fp,¬ W.S a
 | .sl i,v,fp=>fp=[]/\σ[i]?=some (some v)
def RepA (K:PySem.W.Frag)(Hf:Hp)(σ:St):PV->V->Prop
 | .o o,v=>RepN K Hf o v
 | .sl i,v=>σ[i]?=some (some v)
def zH (K:PySem.W.Frag)(Hf:Hp)(σ:St):List PV->List V->Prop
 | [],vs=>vs=[]
 | p::ps,vs=>∃v r,vs=v::r/\RepA K Hf σ p v/\zH K Hf σ ps r
abbrev orS (S:Addr->Prop)(fp:List Addr):Addr->Prop:=fun a=>S a\/a∈fp
section
variable {K:PySem.W.Frag}{β:Nat->V}{W W':Wo}{c c':Ev}{σ:St}{Hf Hf' Hf2 H H' H2:Hp}{o:O}{v:V}{fp:List Addr}{S S' S2:Addr->Prop}{p:PV}{a:Addr}
theorem Stp.refl:Stp S Hf H S Hf H:=⟨fun _ _ h=>h,fun _ _ h _=>h,fun _ _ _ _ _ h=>h,fun _ h=>.inl h⟩
theorem Stp.trans (x:Stp S Hf H S' Hf' H')(y:Stp S' Hf' H' S2 Hf2 H2):Stp S Hf H S2 Hf2 H2:=by
 have b:∀a o,H a=some o->¬ S a->¬ S' a:=fun a o h n z=>by
  rcases x.fr a z with q | q
  ·trivial
  simp_all
 refine⟨x.fz.trans y.fz,fun a o h n=>y.kp a o (x.kp a o h n) (b a o h n),fun a o h c n q=>y.nf a o (x.kp a o h n) c (b a o h n) (x.nf a o h c n q),fun a h=>?_⟩
 rcases y.fr a h with q | q
 ·exact x.fr a q
 ·cases e:H a with
  | none=>simp_all
  | some o =>
   by_cases n:S a
   ·grind
   ·rw[x.kp a o e n]at q;grind
theorem Stp.less (x:Stp S Hf H S' Hf' H')(h:∀a,S2 a->S' a):Stp S Hf H S2 Hf' H':=⟨x.fz,x.kp,x.nf,fun a q=>x.fr a (h a q)⟩
theorem Stp.more {F:Addr->Prop}(x:Stp S Hf H S' Hf' H'):Stp (fun a=>S a\/F a) Hf H (fun a=>S' a\/F a) Hf' H' :=
 ⟨x.fz,fun a o h n=>x.kp a o h fun z=>n (.inl z),fun a o h b n q=>x.nf a o h b (fun z=>n (.inl z)) q,fun a q=>by
  rcases q with q | q
  ·rcases x.fr a q with z | z
   ·simp_all
   grind
  simp_all⟩
theorem Stp.up (x:Stp S Hf H S' Hf' H')(h:∀a,S a->S2 a):Stp S2 Hf H S' Hf' H' :=
 ⟨x.fz,fun a o e n=>x.kp a o e fun z=>n (h a z),fun a o e b n q=>x.nf a o e b (fun z=>n (h a z)) q,fun a q=>(x.fr a q).imp (h a) id⟩
theorem RepN.same (S:Same Hf Hf'):∀{o:O}{v:V},RepN K Hf o v->RepN K Hf' o v
 | .im d,_,h=>Tr.same S h
 | .sc ns,_,⟨a,e,h⟩=>⟨a,e,Same.seq S h⟩
 | .ty T,_,h=>RepT.same S h
 | .ls _ _,_,h=>h
theorem RepA.same (S:Same Hf Hf'):∀{p:PV}{v:V},RepA K Hf σ p v->RepA K Hf' σ p v
 | .o _,_,h=>RepN.same S h
 | .sl _,_,h=>h
theorem zH.same (S:Same Hf Hf'):∀{ps:List PV}{vs:List V},zH K Hf σ ps vs->zH K Hf' σ ps vs
 | [],_,h=>h
 | p::ps,_,⟨v,r,e,h,t⟩=>⟨v,r,e,RepA.same S h,zH.same S t⟩
theorem RepO.mono (h:RepO K Hf H o v fp)(S:Same Hf Hf')(h1:∀a∈fp,Hf' a=none/\H' a=H a):RepO K Hf' H' o v fp:=by
 cases o with
 | ls b ds =>
  obtain⟨a,f,rfl,rfl,q,e,t⟩:=h;obtain⟨c,g⟩:=h1 a (.head _);exact⟨a,f,rfl,rfl,c,g.trans e,TrL.same S t⟩
 | im d=>exact⟨h.1,RepN.same S h.2⟩
 | sc ns=>exact⟨h.1,RepN.same S h.2⟩
 | ty T=>exact⟨h.1,RepN.same S h.2⟩
theorem Rep.frame (R:Rep K β W c σ)(S:Same W.Hf Hf')(sub:Same Hf' H')(h:∀a,W.S a->Hf' a=none/\H' a=W.H a):Rep K β ⟨Hf',H',W.fps⟩ c σ :=
 ⟨sub,R.len,fun i o e=>by
  obtain⟨v,f,r,b⟩:=R.get i o e
  exact⟨v,f,r.mono S fun a d=>h a ⟨i,d⟩,b⟩,R.dis,fun i a d=>by
  obtain⟨_,o,q,j⟩:=R.own i a d;obtain⟨k,g⟩:=h a ⟨i,d⟩
  grind⟩
theorem Rep.notS (R:Rep K β W c σ)(h:W.H a=none):¬ W.S a:=fun⟨i,q⟩=>by
 obtain⟨_,o,e,_⟩:=R.own i a q
 grind
theorem Stp.rep (R:Rep K β W c σ)(x:Stp (fun _=>False) W.Hf W.H S' Hf' H')(sub:Same Hf' H'):Rep K β ⟨Hf',H',W.fps⟩ c σ :=
 R.frame x.fz sub fun a d=>by
  obtain⟨i,f⟩:=d;obtain⟨z,o,e,b⟩:=R.own i a f
  exact⟨x.nf a o e b (fun z=>z) z,(x.kp a o e fun z=>z).trans e.symm⟩
theorem Cu  {p:Addr}{o:HO}(h:H p=none):Same H (upd H p o):=fun b u e=>by
 rw[Ao];exact e
 grind
theorem N8 {o:HO}(s:Same Hf H):Same (upd Hf a o) (upd H a o):=fun b u e=>by
 unfold upd at e ⊢
 split
 ·grind
 ·rename_i z;rw[if_neg z]at e;exact s b u e
theorem Stp.newF {o:HO}(s:Same Hf H)(h:H a=none):Stp (fun _=>False) Hf H (fun _=>False) (upd Hf a o) (upd H a o) :=
 ⟨Cu (Same.free s h),fun b u e _=>Cu h b u e,fun b u e _ _ q=>by rw[Ao (Ba e h)];grind,fun _ z=>z.elim⟩
theorem Stp.newL {o:HO}(s:Same Hf H)(h:H a=none):Stp (fun _=>False) Hf H (fun b=>b∈[a]) Hf (upd H a o) :=
 ⟨Same.refl _,fun b u e _=>Cu h b u e,fun b u e _ _ q=>q,fun b z=>by
  grind⟩
theorem Xb {o:HO}(s:Same Hf H)(h:H a=none):Same Hf (upd H a o):=s.trans (Cu h)
def ME (K:PySem.W.Frag)(T:TE)(f:Ev->R PV):Prop:=∀(β:Nat->V) (W:Wo) (c:Ev) (σ:St) (Q:VK),Rep K β W c σ ->
 (f c).sat (fun p c'=>∀v W' fp,Stp W.S W.Hf W.H (orS W'.S fp) W'.Hf W'.H->Rep K β W' c' σ->Ed K W' σ p v fp->Q v W'.H)->T σ W.H Q
def MV (K:PySem.W.Frag)(T:TE)(f:Ev->R PV):Prop:=∀(β:Nat->V) (W:Wo) (c:Ev) (σ:St) (Q:VK),Rep K β W c σ ->
 (f c).sat (fun p c'=>∀v W',Stp W.S W.Hf W.H W'.S W'.Hf W'.H->Rep K β W' c' σ->RepA K W'.Hf σ (nrm p) v->Q v W'.H)->T σ W.H Q
def MA (K:PySem.W.Frag)(T:TA)(f:Ev->R (List PV)):Prop:=∀(β:Nat->V) (W:Wo) (c:Ev) (σ:St) (Q:List V->Hp->Prop),Rep K β W c σ ->
 (f c).sat (fun ps c'=>∀vs W',Stp W.S W.Hf W.H W'.S W'.Hf W'.H->Rep K β W' c' σ->zH K W'.Hf σ ps vs->Q vs W'.H)->T σ W.H Q
def MT (K:PySem.W.Frag)(T:TT)(f:Ev->R Bool):Prop:=∀(β:Nat->V) (W:Wo) (c:Ev) (σ:St) (Q:Bool->Hp->Prop),Rep K β W c σ ->
 (f c).sat (fun b c'=>∀W',Stp W.S W.Hf W.H W'.S W'.Hf W'.H->Rep K β W' c' σ->Q b W'.H)->T σ W.H Q
theorem Yn  (R:Rep K β W c σ) (hf:W.Hf a=none) (h:W.H a=some (.lst vs)) (hn:¬ W.S a):Rep K β ⟨upd W.Hf a (.lst vs),W.H,W.fps⟩ c σ :=
 R.frame (Cu hf) (fun b u e=>by
  unfold upd at e
  split at e
  ·grind
  ·exact R.sub b u e) fun b f=>by
   obtain⟨i,g⟩:=f
   have d:b≠a:=fun z=>hn ⟨i,by simp_all⟩
   exact⟨by rw[Ao d];exact(R.own i b g).1,rfl⟩
theorem Bu3  {Q:VK}  (k:∀v c,Stp W.S W.Hf W.H c.S c.Hf c.H->Rep K β c c' σ->RepA K c.Hf σ (nrm p) v->Q v c.H) (v:V) (c:Wo) (fp:List Addr) (st:Stp W.S W.Hf W.H (orS c.S fp) c.Hf c.H) (g:Rep K β c c' σ) (f:Ed K c σ p v fp):Q v c.H:=by
 cases p with
 | sl i =>
  obtain⟨rfl,e⟩:=f
  exact k v _ (st.less fun a z=>.inl z) g e
 | o o =>
  cases o with
  | im d =>
   obtain⟨⟨rfl,e⟩,_⟩:=f
   exact k v _ (st.less fun a z=>.inl z) g e
  | sc d =>
   obtain⟨⟨rfl,e⟩,_⟩:=f
   exact k v _ (st.less fun a z=>.inl z) g e
  | ty d =>
   obtain⟨⟨rfl,e⟩,_⟩:=f
   exact k v _ (st.less fun a z=>.inl z) g e
  | ls b ds =>
   obtain⟨⟨a,l,rfl,rfl,h,r,t⟩,m⟩:=f
   refine k _ ⟨upd _ a _,c.H,c.fps⟩ ⟨st.fz.trans (Cu h),st.kp,fun b o e s n q=>?_,fun b z=>st.fr b (.inl z)⟩ (Yn g h r (m a (.head _))) ?_
   ·have j:b≠a:=fun z=>by
     rcases st.fr a (.inr (.head _)) with y | y
     ·grind
     simp_all
    show upd _ a _ b=none
    rw[Ao j];exact st.nf b o e s n q
   ·exact⟨a,l,rfl,Be,TrL.same (Cu h) t⟩
theorem ME.toV   (h:ME K T f):MV K T f:=fun e W c j Q R s=>h _ W c _ Q R (s.mono fun p l k v g i a d b=>Bu3 k v _ _ a d b)
end
def RdV (Hf H:Hp):PyData->V->Prop
 | .list ds,v=>∃a vs,v=.ref a/\H a=some (.lst vs)/\TrL Hf ds vs
 | d,v=>Tr Hf d v
section
variable {K:PySem.W.Frag}{β:Nat->V}{W W':Wo}{c c':Ev}{σ:St}{Hf Hf' Hf2 H H' H2:Hp}{o:O}{v:V}{fp:List Addr}{S S' S2:Addr->Prop}{p:PV}{a:Addr}{d:PyData}
theorem RdV.of (s:Same Hf H)(h:Tr Hf d v):RdV Hf H d v:=by
 cases d with
 | list f=>obtain⟨a,c,e,q,t⟩:=h;exact⟨a,c,e,s _ _ q,t⟩
 | none=>exact h
 | bool b=>exact h
 | int i=>exact h
 | str x=>exact h
 | tuple f=>exact h
 | dict k=>exact h
theorem RdV.tr (s:Same Hf H)(h:RdV Hf H d v):Tr H d v:=by
 cases d with
 | list f=>obtain⟨a,c,e,q,t⟩:=h;exact⟨a,c,e,q,TrL.same s t⟩
 | none=>exact h
 | bool b=>exact h
 | int i=>exact h
 | str x=>exact h
 | tuple f=>exact Tr.same s h
 | dict k=>trivial
theorem Ia (R:Rep K β W c σ)(h:RepA K W.Hf σ p v)(e:Ff c p=some d):RdV W.Hf W.H d v:=by
 cases p with
 | o o =>
  cases o with
  | im m=>cases e;exact .of R.sub h
  | ls b n=>trivial
  | sc k=>trivial
  | ty T=>trivial
 | sl i =>
  have l:c[i]?.join.bind _=some d:=e;obtain⟨o,g,f⟩:=Option.bind_eq_some_iff.mp l
  have g:c[i]?=some (some o):=by
   grind
  obtain⟨u,s,r,_⟩:=R.get i o g
  cases s.symm.trans h
  cases o with
  | im m=>cases f;exact .of R.sub r.2
  | ls b n =>
   cases f
   obtain⟨a,j,e,_,_,q,t⟩:=r;exact⟨a,j,e,q,t⟩
  | sc k=>trivial
  | ty T=>trivial
def Be2 (Hf H:Hp):List PyData->List V->Prop
 | [],vs=>vs=[]
 | d::ds,vs=>∃v r,vs=v::r/\RdV Hf H d v/\Be2 Hf H ds r
def Ak4 (c:Ev):List PV->Option (List PyData)
 | []=>some []
 | p::ps=>(Ff c p).bind fun d=>(Ak4 c ps).map (d::·)
abbrev New (K:PySem.W.Frag)(Hf H:Hp)(o:O)(Q:VK):Prop:=∀v Hf' H' fp,Stp (fun _=>False) Hf H (fun a=>a∈fp) Hf' H'->Same Hf' H'->RepO K Hf' H' o v fp->Q v H'
def OpS (K:PySem.W.Frag)(r:R2)(op:PyData->PyData->Option O):Prop:=∀(Hf H:Hp) (x y:V) (dx dy:PyData) (o:O) (Q:VK),Same Hf H->RdV Hf H dx x->RdV Hf H dy y->op dx dy=some o->New K Hf H o Q->r x y H Q
def Bt7 (K:PySem.W.Frag)(r:List V->Hp->VK->Prop)(op:List PyData->Option O):Prop:=∀(Hf H:Hp) (xs:List V) (ds:List PyData) (o:O) (Q:VK),Same Hf H->Be2 Hf H ds xs->op ds=some o->New K Hf H o Q->r xs H Q
theorem New.same  (h:New K Hf H (.im d) Q) (s:Same Hf H)  (t:Tr Hf d v):Q v H:=h v _ H [] (Stp.refl.less fun a z=>nomatch z) s ⟨rfl,t⟩
theorem New.tup    (h:New K Hf H (.im (.tuple ds)) Q) (s:Same Hf H) (t:TrL Hf ds vs) {p:Addr}(hp:H p=none):Q (.ref p) (upd H p (.tup vs)) :=
 h _ _ _ [] ((Stp.newF s hp).less fun a z=>nomatch z) (N8 s) ⟨rfl,p,vs,rfl,Be,TrL.same (Cu (Same.free s hp)) t⟩
theorem New.lst    (h:New K Hf H (.ls false ds) Q) (s:Same Hf H) (t:TrL Hf ds vs) {p:Addr}(hp:H p=none):Q (.ref p) (upd H p (.lst vs)) :=
 h _ _ _ _ (Stp.newL s hp) (Xb s hp) ⟨p,vs,rfl,rfl,Same.free s hp,Be,t⟩
theorem New.of  (R:Rep K β W c σ) (k:∀v W' d,Stp W.S W.Hf W.H (orS W'.S d) W'.Hf W'.H->Rep K β W' c σ->Ed K W' σ (.o o) v d->Q v W'.H):New K W.Hf W.H o Q:=by
 intro v h j d b f r
 refine k v _ _ ⟨b.fz,fun a o e _=>b.kp a o e fun z=>z,fun a o e i _ q=>b.nf a o e i (fun z=>z) q,fun a z=>?_⟩ (b.rep R f) ⟨r,fun a g z=>?_⟩
 ·rcases z with z | z
  ·exact .inl z
  ·rcases b.fr a z with y | y
   ·trivial
   grind
 ·rcases b.fr a g with y | y
  ·omega
  ·exact R.notS y z
def cOp (op:PyData->PyData->Option O)(fa fb:Ev->R PV):Ev->R PV:=fun c=>(fa c).bind fun p c=>(fb c).bind fun q c =>
 match Ff c (nrm p),Ff c (nrm q) with
 | some x,some y=>match op x y with
  | some o=>.ok (.o o) c
  | none=>.bad
 | _,_=>.bad
theorem Al     (ha:ME K g fa) (hb:ME K f fb) (hr:OpS K r op):ME K (tOp r g f) (cOp op fa fb):=by
 intro β W c σ Q R s
 refine ha.toV _ W c _ _ R (s.bnd.mono fun p c1 l v1 W1 d i j=>?_)
 refine hb.toV _ _ _ _ _ i (l.bnd.mono fun q e a v2 W2 b R2 k=>?_)
 cases ex:Ff e (nrm p) with
 | none=>simp only[ex]at a;trivial
 | some x =>
  cases ey:Ff e (nrm q) with
  | none=>simp only[ex,ey]at a;trivial
  | some y =>
   simp only[ex,ey]at a
   cases eo:op x y with
   | none=>simp only[eo]at a;trivial
   | some o =>
    simp only[eo]at a
    exact hr _ _ _ _ x y o Q R2.sub (Ia R2 (RepA.same b.fz j) ex) (Ia R2 k ey) eo (New.of R2 fun v W' fp m n h=>a v _ _ (d.trans (b.trans m)) n h)
def Aq:Ev->R (List PV):=fun c=>.ok [] c
def Ac (f:Ev->R PV)(fr:Ev->R (List PV)):Ev->R (List PV):=fun c=>(f c).bind fun p c=>(fr c).bind fun ps c=>.ok (nrm p::ps) c
def cK (ds:List PyData):Ev->R (List PV):=fun c=>.ok (ds.map fun d=>.o (.im d)) c
theorem Aj:MA K Gx Aq:=fun b W c a Q R s=>s _ W Stp.refl R rfl
theorem Ab {d:TE}    (ha:ME K d fa) (hr:MA K e f):MA K (Cy d e) (Ac fa f):=by
 intro t W c v Q R s
 refine ha.toV _ W c _ _ R (s.bnd.mono fun p o i j r b h g=>?_)
 refine hr _ _ _ _ _ h (i.bnd.mono fun w q m l u a n k=>?_)
 exact m _ _ (b.trans a) n ⟨j,l,rfl,RepA.same a.fz g,k⟩
def Ad (i:Nat):Ev->R PV:=fun c=>match c[i]? with
 | some (some (.ls _ _))=>.ok (.sl i) c
 | some (some o)=>.ok (.o o) c
 | _=>.bad
theorem Rep.here (R:Rep K β W c σ)  (h:RepN K W.Hf o v) (n:o.own=false) {Q:VK}(s:∀v W' fp,Stp W.S W.Hf W.H (orS W'.S fp) W'.Hf W'.H->Rep K β W' c σ->Ed K W' σ (.o o) v fp->Q v W'.H):Q v W.H :=
 s
  v W [] (Stp.refl.less fun a z=>by
  grind) R ⟨by
   cases o with
   | ls b e=>trivial
   | im d=>trivial
   | sc d=>trivial
   | ty d=>trivial,fun a z=>nomatch z⟩
theorem Aa  : ME K (Oz i) (Ad i):=by
 intro j W c h Q R s;unfold Ad at s
 cases e:c[i]? with
 | none=>simp only[e]at s;trivial
 | some x =>
  cases x with
  | none=>simp only[e]at s;trivial
  | some o =>
   obtain⟨v,f,r,_⟩:=R.get i o e
   refine⟨v,f,?_⟩
   simp only[e]at s
   cases o with
   | ls b g=>
    exact s v W _ (Stp.refl.less fun a z=>by
     rcases z with z | z
     ·omega
     simp_all) R ⟨rfl,f⟩
   | im d=>exact R.here r.2 rfl s
   | sc d=>exact R.here r.2 rfl s
   | ty d=>exact R.here r.2 rfl s
def cC (d:PyData):Ev->R PV:=fun c=>.ok (.o (.im d)) c
def vD:V->Option PyData
 | .non=>some .none
 | .bl b=>some (.bool b)
 | .int i=>some (.int i)
 | .str x=>some (.str x)
 | _=>none
theorem A9x:∀{v:V}{d:PyData},vD v=some d->Tr H d v
 | .non,_,e=>by cases e;rfl
 | .bl b,_,e=>by cases e;rfl
 | .int i,_,e=>by cases e;rfl
 | .str x,_,e=>by cases e;rfl
 | .byt _,_,e=>nomatch e
 | .flt _,_,e=>nomatch e
 | .ref _,_,e=>nomatch e
 | .ty _,_,e=>nomatch e
theorem Ar   (h:vD v=some d):ME K (tC v) (cC d):=fun b W c a Q R s=>R.here (o:=.im d) (A9x h) rfl s
def frz (p:PV)(c:Ev):R PyData:=match p with
 | .o (.im d)=>.ok d c
 | .o _=>.bad
 | .sl i=>match c[i]? with
  | some (some (.im d))=>.ok d c
  | some (some (.ls false ds))=>.ok (.list ds) (c.set i (some (.im (.list ds))))
  | _=>.bad
def clr (fps:Nat->List Addr)(i:Nat):Nat->List Addr:=fun j=>if j=i then [] else fps j
theorem Gz   (h:a∈clr b i j):a∈b j/\j≠i:=by
 unfold clr at h
 grind
theorem Rep.setN (R:Rep K β W c σ)   (h:RepN K W.Hf o v) (n:o.own=false):Rep K β ⟨W.Hf,W.H,clr W.fps i⟩ (c.set i (some o)) (σ.set i (some v)):=by
 refine⟨R.sub,by rw[List.length_set,List.length_set];exact R.len,fun j s e=>?_,fun j k a m g=>R.dis j k a (Gz m).1 (Gz g).1,fun j a h=>R.own j a (Gz h).1⟩
 by_cases z:j=i
 ·subst z
  by_cases l:j<c.length
  ·rw[List.getElem?_set_self l]at e
   cases e
   refine⟨v,by rw[List.getElem?_set_self (by rw[<- R.len];exact l)],?_,fun b=>?_⟩
   ·show RepO K W.Hf W.H o v (clr _ j j)
    unfold clr;rw[if_pos rfl]
    cases o with
    | ls b f=>exact nomatch n
    | im d=>exact⟨rfl,h⟩
    | sc d=>trivial
    | ty d=>exact⟨rfl,h⟩
   ·cases o with
    | ls b f=>exact nomatch n
    | im d=>exact nomatch b
    | sc d=>exact nomatch b
    | ty d=>exact nomatch b
  grind
 ·rw[List.getElem?_set_ne fun y=>z y.symm]at e
  obtain⟨p,q,r,b⟩:=R.get j _ e
  refine⟨p,by grind,?_,b⟩
  unfold clr
  simp_all
theorem Rep.setO (R:Rep K β W c σ)   (h:RepO K W.Hf W.H o v fp) (hn:∀a∈fp,¬ W.S a) (hb:o.bor=false):Rep K β ⟨W.Hf,W.H,fun j=>if j=i then fp else W.fps j⟩ (c.set i (some o)) (σ.set i (some v)):=by
 refine⟨R.sub,by rw[List.length_set,List.length_set];exact R.len,fun j o' e=>?_,fun j k a f g=>?_,fun j a f=>?_⟩
 ·by_cases z:j=i
  ·subst z
   by_cases l:j<c.length
   ·rw[List.getElem?_set_self l]at e
    cases e
    refine⟨v,by rw[List.getElem?_set_self (by rw[<- R.len];exact l)],?_,fun b=>by rw[hb]at b;cases b⟩
    simp_all
   simp_all
  ·rw[List.getElem?_set_ne fun y=>z y.symm]at e
   obtain⟨v',e1,r,b⟩:=R.get j _ e
   grind
 ·have f:a∈if j=i then fp else W.fps j:=f
  have g:a∈if k=i then fp else W.fps k:=g
  split at f
  ·split at g
   ·omega
   ·exact absurd ⟨k,g⟩ (hn a f)
  ·split at g
   ·exact absurd ⟨j,f⟩ (hn a g)
   ·exact R.dis j k a f g
 ·have f:a∈if j=i then fp else W.fps j:=f
  split at f
  ·cases o with
   | ls b ds =>
    obtain⟨a',vs,_,rfl,n,m,_⟩:=h
    cases List.mem_singleton.mp f
    exact⟨n,_,m,trivial⟩
   | im d=>rw[h.1]at f;cases f
   | sc d=>rw[h.1]at f;cases f
   | ty d=>rw[h.1]at f;cases f
  ·exact R.own j a f
theorem set_same {a:Type}{l:List a}  {x:a}(h:l[i]?=some x):l.set i x=l:=by
 apply List.ext_getElem?
 grind
theorem Rep.drop (R:Rep K β W c σ)(i:Nat):Rep K β ⟨W.Hf,W.H,clr W.fps i⟩ (c.set i none) σ:=by
 refine⟨R.sub,by rw[List.length_set];exact R.len,fun j m e=>?_,fun j k a g f=>R.dis j k a (Gz g).1 (Gz f).1,fun j a h=>R.own j a (Gz h).1⟩
 by_cases z:j=i
 ·grind
 ·rw[List.getElem?_set_ne fun y=>z y.symm]at e
  obtain⟨l,d,r,b⟩:=R.get j _ e
  refine⟨l,d,?_,b⟩
  unfold clr
  simp_all
theorem Ig (R:Rep K β W c σ)(h:RepA K W.Hf σ p v)  (s:(frz p c).sat k) :
 ∃d c' W',frz p c=.ok d c'/\k d c'/\W'.H=W.H/\Stp W.S W.Hf W.H W'.S W'.Hf W'.H/\Rep K β W' c' σ/\Tr W'.Hf d v:=by
 cases p with
 | o o =>
  cases o with
  | im d=>exact⟨d,c,W,rfl,s,rfl,Stp.refl,R,h⟩
  | ls b w=>exact s.elim
  | sc d=>exact s.elim
  | ty d=>exact s.elim
 | sl i =>
  unfold frz at s ⊢
  cases e:c[i]? with
  | none=>simp only[e]at s;exact s.elim
  | some x =>
   cases x with
   | none=>simp only[e]at s;exact s.elim
   | some o =>
    obtain⟨v',u,r,_⟩:=R.get i o e
    cases (show some _=some _ from u.symm.trans h)
    cases o with
    | im d=>simp only[e]at s;exact⟨d,c,W,by simp only[e],s,rfl,Stp.refl,R,r.2⟩
    | sc d=>simp only[e]at s;exact s.elim
    | ty d=>simp only[e]at s;exact s.elim
    | ls b w =>
     cases b with
     | true=>simp only[e]at s;exact s.elim
     | false =>
      simp only[e]at s;obtain⟨a,m,rfl,l,f,A,t⟩:=r
      refine⟨.list _,c.set i _,⟨upd _ a _,W.H,clr W.fps i⟩,by simp only[e],s,rfl,⟨Cu f,fun b o e _=>e,fun b o e mu n q=>?_,fun b z=>?_⟩,?_,⟨a,m,rfl,Be,TrL.same (Cu f) t⟩⟩
      ·have C:b≠a:=fun z=>n ⟨i,by rw[z,l];exact .head _⟩
       show upd _ a _ b=none
       rw[Ao C];exact q
      ·obtain⟨j,g⟩:=z
       exact .inl ⟨j,(Gz g).1⟩
      ·have B:¬ Wo.S ⟨W.Hf,W.H,clr W.fps i⟩ a:=fun⟨j,g⟩=>by
        obtain⟨E,D⟩:=Gz g
        exact D (R.dis j i a E (by rw[l];exact .head _))
       have y:=(Yn (R.drop i) f A B).setN (i:=i) (o:=.im (.list _))  ⟨a,m,rfl,Be,TrL.same (Cu f) t⟩ rfl;rw[set_same h]at y
       have z:clr (clr W.fps i) i=clr W.fps i:=by funext j;unfold clr;split <;> rfl
       simp_all
def vDs:List V->Option (List PyData)
 | []=>some []
 | v::vs=>(vD v).bind fun d=>(vDs vs).map (d::·)
theorem Ap6:∀{vs:List V}{ds:List PyData},vDs vs=some ds->zH K Hf σ (ds.map fun d=>.o (.im d)) vs
 | [],_,e=>by cases (show some []=some _ from e);exact rfl
 | v::vs,ds,e=>by
  obtain⟨d,e1,e2⟩:=Option.bind_eq_some_iff.mp (show ((vD v).bind fun d=>(vDs vs).map (d::·))=some ds from e)
  obtain⟨ds',e3,rfl⟩:=Option.map_eq_some_iff.mp e2;exact⟨v,vs,rfl,A9x e1,Ap6 e3⟩
theorem A1t   (h:vDs vs=some ds):MA K (tK vs) (cK ds):=fun b W c a Q R s=>s _ W Stp.refl R (Ap6 h)
def frzs:List PV->Ev->R (List PyData)
 | [],c=>.ok [] c
 | p::ps,c=>(frz p c).bind fun d c=>(frzs ps c).bind fun ds c=>.ok (d::ds) c
theorem Od:∀{ps:List PV}{vs:List V}{W:Wo}{c:Ev}{φ:List PyData->Ev->Prop},Rep K β W c σ->zH K W.Hf σ ps vs->(frzs ps c).sat φ ->
 ∃ds c' W',φ ds c'/\W'.H=W.H/\Stp W.S W.Hf W.H W'.S W'.Hf W'.H/\Rep K β W' c' σ/\TrL W'.Hf ds vs
 | [],vs,W,c,φ,R,h,s=>⟨[],c,W,s,rfl,Stp.refl,R,h⟩
 | p::ps,_,W,c,φ,R,⟨v,r,rfl,h,t⟩,s=>by
  obtain⟨d,c1,W1,_,s1,e1,st1,R1,t1⟩:=Ig R h s.bnd;obtain⟨ds,c2,W2,s2,e2,st2,R2,t2⟩:=Od R1 (zH.same st1.fz t) s1.bnd;exact⟨d::ds,c2,W2,s2,e2.trans e1,st1.trans st2,R2,v,r,rfl,Tr.same st2.fz t1,t2⟩
def G8 (f:Ev->R (List PV)):Ev->R PV:=fun c=>(f c).bind fun ps c=>(frzs ps c).bind fun ds c=>if ds.length<=1000 then .ok (.o (.im (.tuple ds))) c else .bad
def Hg (f:Ev->R (List PV)):Ev->R PV:=fun c=>(f c).bind fun ps c=>(frzs ps c).bind fun ds c=>if ds.length<=1000 then .ok (.o (.ls false ds)) c else .bad
theorem Al4  (h:n<=1000):n<=sizeLine:=Nat.le_trans h (by decide)
theorem Fl   (h:MA K t f):ME K (Av2 t) (G8 f):=by
 intro w W c z Q R s
 refine h _ W c _ _ R (s.bnd.mono fun x y k A F b o m=>?_)
 obtain⟨r,B,E,a,j,d,e,i⟩:=Od o m k.bnd
 by_cases l:r.length<=1000
 ·rw[if_pos l]at a
  refine⟨by rw[<- i.length];exact Al4 l,fun p g=>?_⟩
  rw[<- j]at g ⊢
  exact New.tup (New.of e fun v C D q u n=>a v _ _ (b.trans (d.trans q)) u n) e.sub i g
 ·rw[if_neg l]at a;trivial
theorem Ef   (h:MA K t f):ME K (Bc1 t) (Hg f):=by
 intro w W c z Q R s
 refine h _ W c _ _ R (s.bnd.mono fun x y k A F b o m=>?_)
 obtain⟨r,B,E,a,j,d,e,i⟩:=Od o m k.bnd
 by_cases l:r.length<=1000
 ·rw[if_pos l]at a
  refine⟨by rw[<- i.length];exact Al4 l,fun p g=>?_⟩
  rw[<- j]at g ⊢
  exact New.lst (New.of e fun v C D q u n=>a v _ _ (b.trans (d.trans q)) u n) e.sub i g
 ·rw[if_neg l]at a;trivial
end
def Ga (cI:Ev):List (Nat×Nat)->Ev->Option Ev
 | [],c=>some c
 | (k,i)::m,c=>match c[i]? with
  | some (some (.ls b _))=>match cI[k]? with
   | some (some (.ls true ds))=>Ga cI m (c.set i (some (.ls b ds)))
   | _=>none
  | _=>Ga cI m c
def inn (m:List (Nat×Nat))(i:Nat):Option Nat:=(m.find? fun p=>p.2==i).map (·.1)
def Aj8 (m:List (Nat×Nat))(k:Nat):Option Nat:=(m.find? fun p=>p.1==k).map (·.2)
theorem Ib   : inn ((k,j)::m) i=if j=i then some k else inn m i:=by
 unfold inn
 grind
theorem Rw   (h:inn m i=some k):(k,i)∈m:=by
 induction m with
 | nil=>cases h
 | cons p m a =>
  rw[Ib]at h
  grind
theorem Sd   (b:(m.map (·.2)).Nodup) (h:(k,i)∈m):inn m i=some k:=by
 induction m with
 | nil=>grind
 | cons p m a =>
  rw[Ib]
  grind
theorem An3 {m:List (Nat×Nat)}  (b:(m.map (·.1)).Nodup) (h:(k,i)∈m) (h':(k,j)∈m):i=j:=by
 induction m with
 | nil=>grind
 | cons p m a =>
  grind
theorem Qg {cI:Ev}:∀{m:List (Nat×Nat)}{c cO:Ev},(m.map (·.2)).Nodup->Ga cI m c=some cO->cO.length=c.length/\∀i,
 (∃b ds0 k ds,c[i]?=some (some (.ls b ds0))/\inn m i=some k/\cI[k]?=some (some (.ls true ds))/\cO[i]?=some (some (.ls b ds))) \/
 (cO[i]?=c[i]?/\∀b ds,c[i]?=some (some (.ls b ds))->inn m i=none)
 | [],c,cO,nd,e=>by cases (show some c=some cO from e);exact⟨rfl,fun i=>.inr ⟨rfl,fun _ _ _=>rfl⟩⟩
 | (k,j)::m,c,cO,nd,e=>by
  rw[List.map_cons,List.nodup_cons]at nd
  have nj:inn m j=none:=by
   cases q:inn m j with
   | none=>rfl
   | some k'=>exact absurd (List.mem_map.mpr ⟨(k',j),Rw q,rfl⟩) nd.1
  unfold Ga at e
  have other:Ga cI m c=some cO->(∀b ds,c[j]?≠some (some (.ls b ds)))->cO.length=c.length/\∀i,
   (∃b ds0 k' ds,c[i]?=some (some (.ls b ds0))/\inn ((k,j)::m) i=some k'/\cI[k']?=some (some (.ls true ds))/\cO[i]?=some (some (.ls b ds))) \/
   (cO[i]?=c[i]?/\∀b ds,c[i]?=some (some (.ls b ds))->inn ((k,j)::m) i=none):=fun e hn=>by
   obtain⟨hl,hg⟩:=Qg nd.2 e
   refine⟨hl,fun i=>?_⟩
   rcases hg i with ⟨b,ds0,k',ds,q1,q2,q3,q4⟩ | ⟨q1,q2⟩
   ·refine .inl ⟨b,ds0,k',ds,q1,?_,q3,q4⟩
    rw[Ib,if_neg (fun z=>hn b ds0 (by rw[z];exact q1))];exact q2
   ·refine .inr ⟨q1,fun b ds q=>?_⟩
    rw[Ib,if_neg (fun z=>hn b ds (by rw[z];exact q))];exact q2 b ds q
  cases ec:c[j]? with
  | none=>simp only[ec]at e;exact other e fun b ds z=>by rw[ec]at z;cases z
  | some x =>
   cases x with
   | none=>simp only[ec]at e;exact other e fun b ds z=>by rw[ec]at z;cases z
   | some o =>
    cases o with
    | im d=>simp only[ec]at e;exact other e fun b ds z=>by rw[ec]at z;cases z
    | sc d=>simp only[ec]at e;exact other e fun b ds z=>by rw[ec]at z;cases z
    | ty d=>simp only[ec]at e;exact other e fun b ds z=>by rw[ec]at z;cases z
    | ls b0 ds0 =>
     simp only[ec]at e
     cases ei:cI[k]? with
     | none=>simp only[ei]at e;cases e
     | some x =>
      cases x with
      | none=>simp only[ei]at e;cases e
      | some o =>
       cases o with
       | im d=>simp only[ei]at e;cases e
       | sc d=>simp only[ei]at e;cases e
       | ty d=>simp only[ei]at e;cases e
       | ls b1 ds1 =>
        cases b1 with
        | false=>simp only[ei]at e;cases e
        | true =>
         simp only[ei]at e
         have lj:j<c.length:=by
          rcases Nat.lt_or_ge j c.length with q | q
          ·exact q
          ·rw[List.getElem?_eq_none q]at ec;cases ec
         obtain⟨hl,hg⟩:=Qg nd.2 e;rw[List.length_set]at hl
         refine⟨hl,fun i=>?_⟩
         by_cases z:j=i
         ·subst z
          rcases hg j with ⟨b,ds0',k',ds,q1,q2,q3,q4⟩ | ⟨q1,q2⟩
          ·rw[nj]at q2;cases q2
          ·rw[List.getElem?_set_self lj]at q1
           exact .inl ⟨b0,ds0,k,ds1,ec,by rw[Ib,if_pos rfl],ei,q1⟩
         ·have gs:(c.set j (some (.ls b0 ds1)))[i]?=c[i]?:=List.getElem?_set_ne z
          rcases hg i with ⟨b,ds0',k',ds,q1,q2,q3,q4⟩ | ⟨q1,q2⟩
          ·rw[gs]at q1
           exact .inl ⟨b,ds0',k',ds,q1,by rw[Ib,if_neg z];exact q2,q3,q4⟩
          ·rw[gs]at q1 q2
           exact .inr ⟨q1,fun b ds q=>by rw[Ib,if_neg z];exact q2 b ds q⟩
def Hc:Option (Option O)->Bool
 | some (some (.ls _ _))=>true
 | _=>false
def Qn (m:List (Nat×Nat))(c:Ev)(fps:Nat->List Addr):Nat->List Addr:=fun k=>match Aj8 m k with
 | some i=>if Hc c[i]? then fps i else []
 | none=>[]
theorem Tv   (h:Aj8 m k=some i):(k,i)∈m:=by
 obtain⟨p,b,a⟩:=Option.map_eq_some_iff.mp h
 grind
theorem Gj      (h:a∈Qn m c b k):∃i,(k,i)∈m/\Hc c[i]?=true/\a∈b i:=by
 unfold Qn at h
 cases e:Aj8 m k with
 | none=>grind
 | some i =>
  rw[e]at h
  have h:a∈if Hc _ then b i else []:=h
  by_cases q:Hc c[i]?=true
  ·rw[if_pos q]at h;exact⟨i,Tv e,q,h⟩
  grind
theorem A6n   (a:(m.map (·.1)).Nodup) (h:(k,i)∈m):Aj8 m k=some i:=by
 cases e:Aj8 m k with
 | none =>
  unfold Aj8 at e;rw[Option.map_eq_none_iff]at e
  grind
 | some j=>rw[An3 a h (Tv e)]
def Ah0 (m:List (Nat×Nat))(c:Ev)(fps fpsJ:Nat->List Addr):Nat->List Addr:=fun i=>if Hc c[i]? then (match inn m i with
 | some k=>fpsJ k
 | none=>fps i) else fps i
section
variable {K:PySem.W.Frag}{β β':Nat->V}{W W':Wo}{c cI cI' cO:Ev}{σ σI σI':St}{m:List (Nat×Nat)}{fp:List Addr}
structure Lent (K:PySem.W.Frag) (Hf:Hp) (m:List (Nat×Nat)) (c:Ev) (σ:St) (β':Nat->V) (cI:Ev) (σI:St):Prop where
 n1:(m.map (·.1)).Nodup
 n2:(m.map (·.2)).Nodup
 len:cI.length=σI.length
 at_:∀k o,cI[k]?=some (some o)->(o.own=false/\(∀i,(k,i)∈m->Hc c[i]?=false)/\(∃v,σI[k]?=some (some v)/\RepN K Hf o v))\/∃i b ds v,(k,i)∈m/\c[i]?=some (some (.ls b ds))/\o=.ls true ds/\σ[i]?=some (some v)/\σI[k]?=some (some v)/\β' k=v
theorem Lent.rep (L:Lent K W.Hf m c σ β' cI σI)(R:Rep K β W c σ):Rep K β' ⟨W.Hf,W.H,Qn m c W.fps⟩ cI σI:=by
 refine⟨R.sub,L.len,fun k o e=>?_,fun k l a B C=>?_,fun k a h=>?_⟩
 ·rcases L.at_ k o e with ⟨n,s,v,p,r⟩ | ⟨i,b,x,v,E,w,rfl,J,p,A⟩
  ·refine⟨v,p,?_,fun q=>?_⟩
   ·have g:∀t ,t=[]->RepO K _ W.H o v t:=fun t z=>by
     cases o with
     | ls b x=>exact nomatch n
     | im d=>exact⟨z,r⟩
     | sc d=>exact⟨z,r⟩
     | ty d=>exact⟨z,r⟩
    refine g _ ?_
    show Qn m c _ k=[]
    unfold Qn
    cases q:Aj8 m k with
    | none=>rfl
    | some i =>
     show (if Hc _ then W.fps i else [])=[]
     rw[s i (Tv q)]
     rfl
   ·cases o with
    | ls b x=>exact nomatch n
    | im d=>exact nomatch q
    | sc d=>exact nomatch q
    | ty d=>exact nomatch q
  ·obtain⟨v',f,r,_⟩:=R.get i _ w
   cases (show some _=some _ from f.symm.trans J)
   refine⟨v,p,?_,fun _=>A.symm⟩
   obtain⟨a,F,G,D,I⟩:=r
   refine⟨a,F,G,?_,I⟩
   show Qn m c _ k=[a]
   unfold Qn;rw[A6n L.n1 E]
   show (if Hc _ then W.fps i else [])=[a]
   rw[w];exact D
 ·obtain⟨i,H,_,u⟩:=Gj B
  obtain⟨j,M,_,y⟩:=Gj C
  cases R.dis i j a u y
  have f:=Sd L.n2 M;rw[(Sd L.n2 H)]at f;exact Option.some.inj f
 ·obtain⟨i,_,_,u⟩:=Gj h
  exact R.own i a u
theorem A8b  (h:Hc x=true):∃b ds,x=some (some (.ls b ds)):=by
 match x,h with
 | some (some (.ls b _)),_=>grind
theorem Lent.back (L:Lent K W.Hf m c σ β' cI σI)(R:Rep K β W c σ)(I:Rep K β' W' cI' σI')(st:Stp (Wo.S ⟨W.Hf,W.H,Qn m c W.fps⟩) W.Hf W.H (orS W'.S fp) W'.Hf W'.H)(hb:Ga cI' m c=some cO)
 (H:∀k i b J v,(k,i)∈m->c[i]?=some (some (.ls b J))->σ[i]?=some (some v)->β' k=v) (Q:∀a∈fp,¬ W'.S a) :
 ∃W2:Wo,W2.Hf=W'.Hf/\W2.H=W'.H/\Rep K β W2 cO σ/\Stp W.S W.Hf W.H (orS W2.S fp) W'.Hf W'.H/\∀a∈fp,¬ W2.S a:=by
 obtain⟨hl,hg⟩:=Qg L.n2 hb
 have t:∀k a,a∈W'.fps k->(∃i,(∃l,(l,i)∈m)/\Hc c[i]?=true/\a∈W.fps i)\/W.H a=none:=fun k a h=>by
  rcases st.fr a (.inl ⟨k,h⟩) with ⟨l,q⟩ | q
  ·obtain⟨i,s,x,g⟩:=Gj q
   exact .inl ⟨i,⟨l,s⟩,x,g⟩
  ·exact .inr q
 have d:∀i a,a∈W.fps i->(Hc c[i]?=true->inn m i=none)->¬ Wo.S ⟨W.Hf,W.H,Qn m c W.fps⟩ a:=fun i a h n ⟨k,q⟩=>by
  obtain⟨j,s,x,g⟩:=Gj q
  cases (R.dis i j a h g)
  have:=n x;rw[Sd L.n2 s]at this;cases this
 have D:∀i a,a∈Ah0 m c W.fps W'.fps i->(∃k,inn m i=some k/\Hc c[i]?=true/\a∈W'.fps k)\/(a∈W.fps i/\(Hc c[i]?=true->inn m i=none)):=fun i a h=>by
  have h:a∈if Hc c[i]? then (match inn m i with | some k=>W'.fps k | none=>W.fps i) else W.fps i:=h
  by_cases q:Hc c[i]?=true
  ·rw[if_pos q]at h
   cases e:inn m i with
   | none=>rw[e]at h;exact .inr ⟨h,fun _=>rfl⟩
   | some k=>rw[e]at h;exact .inl ⟨k,rfl,q,h⟩
  ·rw[if_neg q]at h;exact .inr ⟨h,fun z=>absurd z q⟩
 have p:∀i k a,a∈W.fps i->(Hc c[i]?=true->inn m i=none)->a∈W'.fps k->False:=fun i k a h n V=>by
  rcases t k a V with ⟨j,⟨l,s⟩,x,g⟩ | q
  ·cases (R.dis i j a h g)
   have:=n x;rw[Sd L.n2 s]at this;cases this
  ·obtain⟨_,o,e,_⟩:=R.own i a h
   rw[q]at e;cases e
 refine⟨⟨W'.Hf,W'.H,Ah0 m c W.fps W'.fps⟩,rfl,rfl,⟨I.sub,hl.trans R.len,fun i o e=>?_,fun i j a Z T=>?_,fun i a h=>?_⟩,⟨st.fz,fun a o e n=>st.kp a o e fun⟨k,q⟩=>?_,fun a o e F n q=>st.nf a o e F (fun zz=>?_) q,fun a h=>?_⟩,fun a C ⟨i,h⟩=>?_⟩
 ·rcases hg i with ⟨b,N,k,J,s,x,g,U⟩ | ⟨s,x⟩
  ·rw[U]at e;cases e
   obtain⟨v,M,r,P⟩:=R.get i _ s;obtain⟨X,e1',r',O⟩:=I.get k _ g;have S:=O rfl;rw[H k i b N v (Rw x) s M]at S;subst S
   refine⟨X,M,?_,P⟩
   obtain⟨a,Y,A,E,G⟩:=r'
   refine⟨a,Y,A,?_,G⟩
   show Ah0 m c W.fps W'.fps i=[a]
   unfold Ah0;rw[s,x];exact E
  ·rw[s]at e
   obtain⟨v,M,r,P⟩:=R.get i _ e
   refine⟨v,M,?_,P⟩
   have n:Hc c[i]?=true->inn m i=none:=fun z=>by
    obtain⟨b,J,z⟩:=A8b z;exact x b J z
   have ef:Ah0 m c W.fps W'.fps i=W.fps i:=by
    unfold Ah0
    by_cases q:Hc c[i]?=true
    ·rw[if_pos q,n q]
    ·rw[if_neg q]
   show RepO K W'.Hf W'.H o v (Ah0 m c W.fps W'.fps i)
   rw[ef]
   refine r.mono st.fz fun a C=>?_
   obtain⟨z,u,y,F⟩:=R.own i a C;exact⟨st.nf a u y F (d i a C n) z,(st.kp a u y (d i a C n)).trans y.symm⟩
 ·rcases D i a Z with ⟨k,f,w,B⟩ | ⟨f,w⟩
  ·rcases D j a T with ⟨l,A,E,G⟩ | ⟨A,E⟩
   ·cases I.dis k l a B G
    exact An3 L.n1 (Rw f) (Rw A)
   ·exact(p j k a A E B).elim
  ·rcases D j a T with ⟨l,A,E,G⟩ | ⟨A,E⟩
   ·exact(p i l a f w G).elim
   ·exact R.dis i j a f A
 ·rcases D i a h with ⟨k,f,w,B⟩ | ⟨f,w⟩
  ·exact I.own k a B
  ·obtain⟨z,u,y,F⟩:=R.own i a f
   exact⟨st.nf a u y F (d i a f w) z,u,st.kp a u y (d i a f w),F⟩
 ·obtain⟨i,_,_,g⟩:=Gj q
  exact n ⟨i,g⟩
 ·obtain⟨k,q'⟩:=zz
  obtain⟨i,_,_,g⟩:=Gj q';exact n ⟨i,g⟩
 ·rcases h with ⟨i,h⟩ | h
  ·rcases D i a h with ⟨k,f,w,B⟩ | ⟨f,w⟩
   ·rcases t k a B with ⟨j,_,_,q⟩ | q
    ·exact .inl ⟨j,q⟩
    ·exact .inr q
   ·exact .inl ⟨i,f⟩
  ·rcases st.fr a (.inr h) with ⟨k,q⟩ | q
   ·obtain⟨i,_,_,g⟩:=Gj q
    exact .inl ⟨i,g⟩
   ·exact .inr q
 ·rcases D i a h with ⟨k,f,w,B⟩ | ⟨f,w⟩
  ·exact Q a C ⟨k,B⟩
  ·rcases st.fr a (.inr C) with q | q
   ·exact d i a f w q
   ·obtain⟨_,u,y,_⟩:=R.own i a f
    rw[q]at y;cases y
end
inductive SR where
 | nx (c:Ev)
 | rt (p:PV) (c:Ev)
 | bk (c:Ev)
 | ct (c:Ev)
 | bad
def zE (K:PySem.W.Frag)(β:Nat->V)(W:Wo)(D:Ends):SR->Prop
 | .nx c'=>∀σ' W',Stp W.S W.Hf W.H W'.S W'.Hf W'.H->Rep K β W' c' σ'->D.nx σ' W'.H
 | .bk c'=>∀σ' W',Stp W.S W.Hf W.H W'.S W'.Hf W'.H->Rep K β W' c' σ'->D.bk σ' W'.H
 | .ct c'=>∀σ' W',Stp W.S W.Hf W.H W'.S W'.Hf W'.H->Rep K β W' c' σ'->D.ct σ' W'.H
 | .rt p c'=>∀σ' v W' fp,Stp W.S W.Hf W.H (orS W'.S fp) W'.Hf W'.H->Rep K β W' c' σ'->Ed K W' σ' p v fp->D.rt v W'.H
 | .bad=>False
def MS (K:PySem.W.Frag)(T:TS)(f:Ev->SR):Prop:=∀(β:Nat->V) (W:Wo) (c:Ev) (σ:St) (D:Ends),Rep K β W c σ->zE K β W D (f c)->T D σ W.H
def MG (K:PySem.W.Frag)(g:TG)(cg:PV->Ev->R Unit):Prop:=∀(β:Nat->V) (W:Wo) (c:Ev) (σ:St) (p:PV) (v:V) (fp:List Addr) (k:St->Hp->Prop),Rep K β W c σ->Ed K W σ p v fp ->
 (cg p c).sat (fun _ c'=>∀σ' W',Stp (orS W.S fp) W.Hf W.H W'.S W'.Hf W'.H->Rep K β W' c' σ'->k σ' W'.H)->g v σ W.H k
def MGs (K:PySem.W.Frag)(g:TGs)(cg:List PyData->Ev->R Unit):Prop:=∀(β:Nat->V) (W:Wo) (c:Ev) (σ:St) (ds:List PyData) (vs:List V) (k:St->Hp->Prop),Rep K β W c σ->TrL W.Hf ds vs ->
 (cg ds c).sat (fun _ c'=>∀σ' W',Stp W.S W.Hf W.H W'.S W'.Hf W'.H->Rep K β W' c' σ'->k σ' W'.H)->g vs σ W.H k
def R.toS {α:Type}(r:R α)(k:α->Ev->SR):SR:=match r with
 | .ok a c=>k a c
 | .bad=>.bad
section
variable {K:PySem.W.Frag}{β β':Nat->V}{W W':Wo}{c c' cI cI' cO:Ev}{σ σ' σI σI':St}{D:Ends}{Hf H:Hp}{o:O}{v:V}{fp:List Addr}
theorem Er  {r:R b}{k:b->Ev->SR}(h:zE K β W D (r.toS k)):r.sat fun a c=>zE K β W D (k a c):=by
 cases r with
 | ok a c=>exact h
 | bad=>exact h
theorem zE.step  (h:zE K β W D r) (st:Stp W.S W.Hf W.H W'.S W'.Hf W'.H):zE K β W' D r:=by
 cases r with
 | nx c=>exact fun b d a R=>h _ _ (st.trans a) R
 | bk c=>exact fun b d a R=>h _ _ (st.trans a) R
 | ct c=>exact fun b d a R=>h _ _ (st.trans a) R
 | rt p c=>exact fun b v d e a R r=>h _ v _ _ (st.trans a) R r
 | bad=>exact h
def Bl (f g:Ev->SR):Ev->SR:=fun c=>match f c with
 | .nx c=>g c
 | r=>r
theorem Ax   (h1:MS K t f) (h2:MS K u g):MS K (Az9 t u) (Bl f g):=by
 intro k W c i D R l
 refine h1 _ W c _ _ R ?_
 unfold Bl at l
 cases e:f c with
 | nx a=>rw[e]at l;exact fun h j d b=>h2 _ _ _ _ D b (zE.step l d)
 | rt p a=>rw[e]at l;exact l
 | bk a=>rw[e]at l;exact l
 | ct a=>rw[e]at l;exact l
 | bad=>rw[e]at l;exact l
def Cv:Ev->SR:=fun c=>.nx c
theorem Bq:MS K A1w Cv:=fun b W c a D R l=>l _ W Stp.refl R
def Ii (f:Ev->R PV):Ev->SR:=fun c=>(f c).toS fun _ c=>.nx c
theorem Ml   (h:ME K a f):MS K (Ao8 a) (Ii f):=fun g W c i D R l =>
 h.toV _ W c _ _ R ((Er l).mono fun p k e v j d b _=>e _ _ d b)
def Df (f:Ev->R PV):Ev->SR:=fun c=>(f c).toS fun p c=>.rt p c
theorem Bc   (h:ME K a f):MS K (Bo3 a) (Df f):=fun i W c n D R l =>
 h _ W c _ _ R ((Er l).mono fun p m e v j k d g b=>e _ v _ _ d g b)
def cIf (t:Ev->R Bool)(f g:Ev->SR):Ev->SR:=fun c=>(t c).toS fun b c=>if b=true then f c else g c
theorem Dv     (h:MT K d ft) (h1:MS K t f) (h2:MS K u g):MS K (A7j d t u) (cIf ft f g):=fun k W c j D R l =>
 h
  _ W c _ _ R ((Er l).mono fun b n i m e a=>by
  cases b with
  | true=>exact h1 _ _ _ _ D a (zE.step i e)
  | false=>exact h2 _ _ _ _ D a (zE.step i e))
def cgN (i:Nat):PV->Ev->R Unit:=fun p c=>match p with
 | .o (.ls _ ds)=>.ok () (c.set i (some (.ls false ds)))
 | .o o=>.ok () (c.set i (some o))
 | .sl j=>(frz (.sl j) c).bind fun d c=>.ok () (c.set i (some (.im d)))
theorem Bl6   (h:Wo.S ⟨Hf,H,clr W.fps i⟩ a):W.S a:=by
 obtain⟨j,h⟩:=h;exact⟨j,(Gz h).1⟩
theorem Ai  : MG K (Ju i) (cgN i):=by
 intro w W c x p v u k R r s
 have f:∀{o:O} {g:Wo} {m:Ev},Rep K w g m x->o.own=false->RepN K g.Hf o v->Stp (orS W.S u) W.Hf W.H g.S _ g.H->g.H=W.H->(∀σ' W',Stp _ _ _ W'.S W'.Hf W'.H->Rep K _ W' _ σ'->k σ' W'.H)->k _ W.H:=fun {o g m} h n r l e s=>by
  rw[<- e]
  exact s _ ⟨g.Hf,g.H,clr _ i⟩ (l.less fun a z=>Bl6 z) (h.setN r n)
 cases p with
 | sl j =>
  obtain⟨rfl,e⟩:=r
  obtain⟨d,m,g,e1,A,y,l,h,t⟩:=Ig R (show RepA K _ _ (.sl j) v from e) s.bnd
  exact f h (o:=.im d) rfl t (l.up fun a z=>.inl z) y A
 | o o =>
  cases o with
  | im d=>exact f R rfl r.1.2 (Stp.refl.up fun a z=>.inl z) rfl s
  | sc d=>exact f R rfl r.1.2 (Stp.refl.up fun a z=>.inl z) rfl s
  | ty d=>exact f R rfl r.1.2 (Stp.refl.up fun a z=>.inl z) rfl s
  | ls b ds =>
   refine s _ ⟨W.Hf,W.H,fun j=>if j=i then u else W.fps j⟩ ⟨Same.refl _,fun a o e _=>e,fun a o e _ _ q=>q,fun a z=>?_⟩ (R.setO  r.1 r.2 rfl)
   obtain⟨j,z⟩:=z
   have z:a∈if j=i then u else W.fps j:=z
   split at z
   ·grind
   ·exact .inl (.inl ⟨j,z⟩)
def Do:List PyData->Ev->R Unit:=fun ds c=>match ds with
 | []=>.ok () c
 | _=>.bad
def Av (g:PV->Ev->R Unit)(gs:List PyData->Ev->R Unit):List PyData->Ev->R Unit:=fun ds c=>match ds with
 | d::ds=>(g (.o (.im d)) c).bind fun _ c=>gs ds c
 | []=>.bad
theorem Hi:MGs K Az2 Do:=fun f W c e a b k R t s=>by
 cases a with
 | nil=>cases (t);exact⟨rfl,s _ W Stp.refl R⟩
 | cons d r=>trivial
theorem Ce     (h1:MG K t g) (h2:MGs K u f):MGs K (Us t u) (Av g f):=fun β W c σ x vs k R j s=>by
 cases x with
 | nil=>trivial
 | cons d r =>
  obtain⟨v,l,rfl,m,n⟩:=j
  refine⟨v,l,rfl,h1 _ W c _ (.o (.im d)) v _ _ R ⟨⟨rfl,m⟩,fun a z=>nomatch z⟩ (s.bnd.mono fun _ c1 o i W1 b q=>?_)⟩
  have b:=b.up (S2:=W.S) fun a z=>by
   grind
  exact h2 _ _ _ _ r _ k q (TrL.same b.fz n) (o.mono fun _ c2 p w W2 e h=>p _ _ (b.trans e) h)
def cgT (n:Nat)(gs:List PyData->Ev->R Unit):PV->Ev->R Unit:=fun p c=>match p with
 | .o (.im (.tuple ds))=>if ds.length=n then gs ds c else .bad
 | _=>.bad
theorem Kr    (h:MGs K t d):MG K (A1d K n t) (cgT n d):=by
 intro u W c w p v q k R r s
 match p,r,s with
 | .o (.im (.tuple ds)),r,s =>
  obtain⟨⟨b,a,j,b,l,f⟩,_⟩:=r
  have s:(if ds.length=n then d _ c else .bad:U.R _).sat _:=s
  by_cases e:ds.length=n
  ·rw[if_pos e]at s
   refine⟨a,j,b,SqT.of (R.sub _ _ l),by rw[<- f.length];exact e,h _ W c _ _ _ k R f (s.mono fun _ y i m x o g=>i _ _ (o.up fun a z=>.inl z) g)⟩
  ·rw[if_neg e]at s;trivial
 | .o (.im .none),r,s=>trivial
 | .o (.im (.bool _)),r,s=>trivial
 | .o (.im (.int _)),r,s=>trivial
 | .o (.im (.str _)),r,s=>trivial
 | .o (.im (.list _)),r,s=>trivial
 | .o (.im (.dict _)),r,s=>trivial
 | .o (.ls _ _),r,s=>exact s.elim
 | .o (.sc _),r,s=>exact s.elim
 | .o (.ty _),r,s=>exact s.elim
 | .sl _,r,s=>trivial
def Di (f:Ev->R PV)(g:PV->Ev->R Unit):Ev->SR:=fun c=>(f c).toS fun p c=>(g p c).toS fun _ c=>.nx c
theorem Bo     (h:ME K b f) (hg:MG K t g):MS K (Vi b t) (Di f g):=fun x W c o D R l =>
 h _ W c _ _ R ((Er l).mono fun p q j v s u k e i=>hg _ _ _ _ p v _ _ e i ((Er j).mono fun _ r m n w a d=>m _ _ (k.trans a) d))
def Az1 (J:It)(Hf:Hp)(ds:List PyData):Prop:=∀(i:Nat) (Hf' H:Hp),Same Hf Hf'->Same Hf' H->(i=ds.length->J.stop i H) /\
 ∀d,ds[i]?=some d->J.go i H/\∀x H',J.yld i H x H'->∃Hf2,Stp (fun _=>False) Hf' H (fun _=>False) Hf2 H'/\Same Hf2 H'/\Tr Hf2 d x
def MI (K:PySem.W.Frag)(wi:TI)(fi:Ev->R (List PyData)):Prop:=∀(β:Nat->V) (W:Wo) (c:Ev) (σ:St) (k:It->Hp->Prop),Rep K β W c σ ->
 (fi c).sat (fun ds c'=>∀J W',Stp W.S W.Hf W.H W'.S W'.Hf W'.H->Rep K β W' c' σ->Az1 J W'.Hf ds->k J W'.H)->wi σ W.H k
def forL (g:PV->Ev->R Unit)(body:Ev->SR):List PyData->Ev->SR
 | [],c=>.nx c
 | d::ds,c=>match g (.o (.im d)) c with
  | .bad=>.bad
  | .ok _ c=>match body c with
   | .nx c=>forL g body ds c
   | .ct c=>forL g body ds c
   | .bk c=>.nx c
   | .rt p c=>.rt p c
   | .bad=>.bad
def Oe (fi:Ev->R (List PyData))(g:PV->Ev->R Unit)(body:Ev->SR):Ev->SR:=fun c=>(fi c).toS fun ds c=>forL g body ds c
theorem Mt {a:Type}{l:List a}  (h:i<l.length):l.drop i=l[i]::l.drop (i+1):=List.drop_eq_getElem_cons h
theorem M8   {V:TS}    (hi:MI K X fi) (hg:MG K t g) (hb:MS K V body):MS K (A9u X t V) (Oe fi g body):=by
 intro C W c I D R l
 refine hi C W c I _ R ((Er l).mono fun k c1 l1 J T N R1 it=>?_)
 refine⟨fun i m I H=>∃d y,d.H=H/\Rep K C d y I/\m=k.length-i/\i<=k.length/\Same T.Hf d.Hf/\zE K C d D (forL g body (k.drop i) y),⟨_,T,c1,rfl,R1,rfl,Nat.zero_le _,Same.refl _,zE.step l1 N⟩,?_⟩
 rintro i m I H ⟨d,y,rfl,O,rfl,hle,Y,h⟩
 obtain⟨A,Q⟩:=it i d.Hf d.H Y O.sub
 by_cases lt:i<k.length
 ·obtain⟨q1,q2⟩:=Q k[i] (List.getElem?_eq_getElem lt)
  refine .inr ⟨q1,fun M s=>∃d y,d.H=s/\Rep K C d y M/\Same T.Hf d.Hf/\zE K C d D (forL g body (k.drop (i+1)) y),fun M s ⟨U,Z,e3,R3,s3,l3⟩=>⟨k.length-(i+1),by omega,U,Z,e3,R3,rfl,by omega,s3,l3⟩,fun x s hy=>?_⟩
  obtain⟨n,j,G,tx⟩:=q2 x s hy
  have P:Stp d.S d.Hf d.H (Wo.S ⟨n,s,d.fps⟩) n s:=⟨j.fz,fun a o e _=>j.kp a o e fun z=>z,fun a o e mu _ q=>j.nf a o e mu (fun z=>z) q,fun a z=>.inl z⟩
  rw[Mt lt]at h;unfold forL at h
  refine hg C ⟨n,s,d.fps⟩ y I (.o (.im _)) x _ _ (j.rep O G) ⟨⟨rfl,tx⟩,fun a z=>nomatch z⟩ ?_
  cases eg:g _ _ with
  | bad=>rw[eg]at h;exact h.elim
  | ok u Z =>
   rw[eg]at h;intro σ3 U w S
   have w:=w.up  fun a z=>by
    rcases z with z | z
    ·exact z
    ·cases z
   have f:=P.trans w;have F  := Y.trans f.fz
   refine hb _ _ _ _ _ S ?_
   cases ebd:body _ with
   | nx E=>simp only[ebd]at h;exact fun r L b B=>⟨L,E,rfl,B,F.trans b.fz,zE.step h (f.trans b)⟩
   | ct E=>simp only[ebd]at h;exact fun r L b B=>⟨L,E,rfl,B,F.trans b.fz,zE.step h (f.trans b)⟩
   | bk E=>simp only[ebd]at h;exact fun r L b B=>h _ _ (f.trans b) B
   | rt p E=>simp only[ebd]at h;exact fun r v L fp b B r4=>h _ v _ _ (f.trans b) B r4
   | bad=>simp only[ebd]at h;exact h.elim
 ·have e:i=k.length:=by omega
  subst e;rw[List.drop_length]at h;exact .inl ⟨A rfl,h _ _ Stp.refl O⟩
def Ea (g:PV->Ev->R Unit)(ft:Ev->R Bool)(fe:Ev->R PV):List PyData->List PyData->Ev->R (List PyData)
 | [],acc,c=>.ok acc c
 | d::ds,acc,c=>(g (.o (.im d)) c).bind fun _ c=>(ft c).bind fun b c=>if b=true then (fe c).bind fun p c=>(frz (nrm p) c).bind fun y c=>Ea g ft fe ds (acc++[y]) c else Ea g ft fe ds acc c
def cIn (idx:List (Option Nat))(c:Ev):Ev:=idx.map fun o=>o.bind fun i=>((c[i]?).join).map (O.flag true)
def pairsOf:Nat->List (Option Nat)->List (Nat×Nat)
 | _,[]=>[]
 | k,none::r=>pairsOf (k+1) r
 | k,some i::r=>(k,i)::pairsOf (k+1) r
def cLC (idx:List (Option Nat))(fi:Ev->R (List PyData))(g:PV->Ev->R Unit)(ft:Ev->R Bool)(fe:Ev->R PV):Ev->R PV:=fun c=>(fi c).bind fun ds c =>
 if ds.length<=16000000 then match Ea g ft fe ds [] (cIn idx c) with
 | .bad=>.bad
 | .ok acc cI=>match Ga cI (pairsOf 0 idx) c with
  | none=>.bad
  | some c=>.ok (.o (.ls false acc)) c
 else .bad
theorem A1o  (h:l+1<=k):k-(l+1)+1=k-l:=by omega
theorem El {k i:Nat}:∀{l:Nat}{idx:List (Option Nat)},(k,i)∈pairsOf l idx->l<=k/\idx[k-l]?=some (some i)
 | l,[],h=>by cases h
 | l,none::r,h=>by
  obtain⟨q1,q2⟩:=El (l:=l+1) (idx:=r) h
  refine⟨Nat.le_of_succ_le q1,?_⟩
  rw[show k-l=(k-(l+1))+1 from (A1o q1).symm,List.getElem?_cons_succ];exact q2
 | l,some j::r,h=>by
  rcases List.mem_cons.mp (show (k,i)∈(l,j)::pairsOf (l+1) r from h) with e | e
  ·cases e;exact⟨Nat.le_refl _,by rw[Nat.sub_self];rfl⟩
  ·obtain⟨q1,q2⟩:=El (l:=l+1) (idx:=r) e
   refine⟨Nat.le_of_succ_le q1,?_⟩
   rw[show k-l=(k-(l+1))+1 from (A1o q1).symm,List.getElem?_cons_succ];exact q2
theorem Mr {k i:Nat}:∀{l:Nat}{idx:List (Option Nat)},idx[k]?=some (some i)->(k+l,i)∈pairsOf l idx
 | l,[],h=>by simp at h
 | l,none::r,h=>by
  cases k with
  | zero=>simp at h
  | succ k =>
   rw[List.getElem?_cons_succ]at h;have:=Mr (l:=l+1) (idx:=r) h
   rw[show k+1+l=k+(l+1) by omega];exact this
 | l,some j::r,h=>by
  cases k with
  | zero=>simp at h;subst h;rw[Nat.zero_add];exact .head _
  | succ k =>
   rw[List.getElem?_cons_succ]at h;have:=Mr (l:=l+1) (idx:=r) h
   rw[show k+1+l=k+(l+1) by omega];exact .tail _ this
theorem O1:∀{l:Nat}{idx:List (Option Nat)},((pairsOf l idx).map (·.1)).Nodup
 | l,[]=>List.nodup_nil
 | l,none::r=>O1 (l:=l+1) (idx:=r)
 | l,some j::r=>by
  show (l::(pairsOf (l+1) r).map (·.1)).Nodup
  rw[List.nodup_cons]
  refine⟨fun h=>?_,O1⟩
  obtain⟨⟨k,i⟩,h1,h2⟩:=List.mem_map.mp h;have:=(El h1).1;have h2:k=l:=h2;omega
theorem Bu8   (h:x.join=some o):x=some (some o):=by
 cases x with
 | none=>grind
 | some y=>simp_all
theorem A7l   {k:Nat}  (h:(cIn idx c)[k]?=some (some o)):∃i a,idx[k]?=some (some i)/\c[i]?=some (some a)/\o=a.flag true:=by
 unfold cIn at h;rw[List.getElem?_map]at h;obtain⟨x,e,b⟩:=Option.map_eq_some_iff.mp h
 cases x with
 | none=>grind
 | some i =>
  obtain⟨a,f,d⟩:=Option.map_eq_some_iff.mp b
  grind
theorem X4   {k i:Nat}  (h1:idx[k]?=some (some i)) (h2:a[i]?=some (some v)):(cst idx a)[k]?=some (some v):=by
 unfold cst
 grind
theorem Ao9 {idx:List (Option Nat)}(R:Rep K β W c σ)(hnd:((pairsOf 0 idx).map (·.2)).Nodup):Lent K W.Hf (pairsOf 0 idx) c σ (fun k=>(((cst idx σ)[k]?).join).getD .non) (cIn idx c) (cst idx σ) where
 n1:=O1
 n2:=hnd
 len:=by unfold cIn cst;rw[List.length_map,List.length_map]
 at_:=fun k o h=>by
  obtain⟨i,o',h1,h2,rfl⟩:=A7l h;obtain⟨v,e,r,_⟩:=R.get i o' h2;have hs:=X4 h1 e
  have one:∀j,(k,j)∈pairsOf 0 idx->j=i:=fun j hj=>by
   have:=(El hj).2;rw[Nat.sub_zero,h1]at this;cases this;rfl
  have nol:Hc c[i]?=false->∀j,(k,j)∈pairsOf 0 idx->Hc c[j]?=false:=fun q j hj=>by rw[one j hj];exact q
  cases o' with
  | im d=>exact .inl ⟨rfl,nol (by rw[h2];rfl),v,hs,r.2⟩
  | sc d=>exact .inl ⟨rfl,nol (by rw[h2];rfl),v,hs,r.2⟩
  | ty d=>exact .inl ⟨rfl,nol (by rw[h2];rfl),v,hs,r.2⟩
  | ls b ds=>exact .inr ⟨i,b,ds,v,Mr (l:=0) h1,h2,rfl,e,hs,by rw[hs];rfl⟩
theorem A6x             (hnd:((pairsOf 0 idx).map (·.2)).Nodup) (hg:MG K t g) (ht:MT K tc ft) (he:ME K te fe)
 (st1:Stp W.S W.Hf W.H W1.S W1.Hf W1.H) (R1:Rep K β W1 c1 σ)
 (it:∀(i:Nat) (h:Wo),Stp (Wo.S ⟨W1.Hf,W1.H,Qn (pairsOf 0 idx) c1 W1.fps⟩) W1.Hf W1.H h.S h.Hf h.H->Same h.Hf h.H->(i=ds.length->J.stop i h.H) /\
  ∀d,ds[i]?=some d->J.go i h.H/\∀x E,J.yld i h.H x E->∃s,Stp (fun _=>False) h.Hf h.H (fun _=>False) s E/\Same s E/\Tr s d x)
 (s1:(if ds.length<=16000000 then match Ea g ft fe ds [] (cIn idx c1) with
  | .bad=>.bad
  | .ok f I=>match Ga I (pairsOf 0 idx) c1 with
   | none=>.bad
   | some c=>.ok (.o (.ls false f)) c
  else .bad:R PV).sat fun p c'=>∀v j w,Stp W.S W.Hf W.H (orS j.S w) j.Hf j.H->Rep K β j c' σ->Ed K j σ p v w->Q v j.H):tLC idx (fun _ H k=>k J H) t tc te σ W1.H Q:=by
 unfold tLC
 dsimp only
 by_cases hl:ds.length<=16000000
 ·rw[if_pos hl]at s1
  have L:=Ao9 (idx:=idx) R1 hnd
  let C:Nat->V:=fun k=>(((cst idx σ)[k]?).join).getD .non
  let F:Wo:=⟨W1.Hf,W1.H,Qn (pairsOf 0 idx) c1 W1.fps⟩
  let B:U.R (List PyData)->Prop:=fun r=>match r with
   | .bad=>False
   | .ok f I=>match Ga I (pairsOf 0 idx) c1 with
    | none=>False
    | some c=>∀v j w,Stp W.S W.Hf W.H (orS j.S w) j.Hf j.H->Rep K β j c σ->Ed K j σ (.o (.ls false f)) v w->Q v j.H
  have s2:B (Ea g ft fe ds [] (cIn idx c1)):=by
   show match Ea g ft fe ds [] (cIn idx c1) with
    | .bad=>False
    | .ok f I=>match Ga I (pairsOf 0 idx) c1 with
     | none=>False
     | some c=>∀v j w,Stp W.S W.Hf W.H (orS j.S w) j.Hf j.H->Rep K β j c σ->Ed K j σ (.o (.ls false f)) v w->Q v j.H
   cases e1:Ea g ft fe ds [] (cIn idx c1) with
   | bad=>rw[e1]at s1;exact s1.elim
   | ok f I =>
    simp only[e1]at s1
    show match Ga I (pairsOf 0 idx) c1 with
     | none=>False
     | some c=>∀v j w,Stp W.S W.Hf W.H (orS j.S w) j.Hf j.H->Rep K β j c σ->Ed K j σ (.o (.ls false f)) v w->Q v j.H
    cases e2:Ga I (pairsOf 0 idx) c1 with
    | none=>simp only[e2]at s1;exact s1.elim
    | some D=>simp only[e2]at s1;exact s1
  refine⟨fun i m A S H=>∃h D f,h.H=H/\Rep K C h D A/\m=ds.length-i/\i<=ds.length/\S.length<=i/\Stp F.S F.Hf F.H h.S h.Hf h.H/\TrL h.Hf f S/\B (Ea g ft fe (ds.drop i) f D),
   ⟨_,F,cIn idx c1,[],rfl,(L.rep R1),rfl,Nat.zero_le _,Nat.le_refl _,Stp.refl,rfl,s2⟩,?_⟩
  rintro i m A S H ⟨h,D,f,rfl,R2,rfl,hle,hvs,N,ta,l⟩
  obtain⟨P,hgo⟩:=it i h N R2.sub
  by_cases lt:i<ds.length
  ·obtain⟨q1,q2⟩:=hgo ds[i] (List.getElem?_eq_getElem lt)
   refine .inr ⟨q1,Nat.lt_of_lt_of_le (Nat.lt_of_le_of_lt hvs (Nat.lt_of_lt_of_le lt hl)) (by decide),fun A S E=>∃h D f,h.H=E/\Rep K C h D A/\S.length<=i+1/\Stp F.S F.Hf F.H h.S h.Hf h.H/\TrL h.Hf f S/\B (Ea g ft fe (ds.drop (i+1)) f D),
    fun A acc' E ⟨O,X,Y,e3,R3,h3,n,t3,f3⟩=>⟨ds.length-(i+1),by omega,O,X,Y,e3,R3,rfl,by omega,h3,n,t3,f3⟩,fun x E hy=>?_⟩
   obtain⟨s,n,sub3,tx⟩:=q2 x E hy
   have stx:Stp h.S h.Hf h.H (Wo.S ⟨s,E,h.fps⟩) s E:=⟨n.fz,fun a o e _=>n.kp a o e fun z=>z,fun a o e mu _ q=>n.nf a o e mu (fun z=>z) q,fun a z=>.inl z⟩
   rw[Mt lt]at l;unfold Ea at l
   refine hg C ⟨s,E,h.fps⟩ D A (.o (.im ds[i])) x [] _ (n.rep R2 sub3) ⟨⟨rfl,tx⟩,fun a z=>nomatch z⟩ ?_
   cases eg:g (.o (.im ds[i])) D with
   | bad=>rw[eg]at l;exact l.elim
   | ok u X =>
    rw[eg]at l
    have l:B ((ft X).bind fun b c=>if b=true then (fe c).bind fun p c=>(frz (nrm p) c).bind fun y c=>Ea g ft fe (ds.drop (i+1)) (f++[y]) c else Ea g ft fe (ds.drop (i+1)) f c):=l
    intro σ3 O G R4
    have G:=G.up (S2:=h.S) fun a z=>by
     rcases z with z | z
     ·exact z
     ·cases z
    refine ht C O X σ3 _ R4 ?_
    cases et:ft X with
    | bad=>rw[et]at l;exact l.elim
    | ok b c4 =>
     rw[et]at l;intro T st5 R5;have M:Stp F.S F.Hf F.H T.S T.Hf T.H:=N.trans (stx.trans (G.trans st5));have Z:TrL T.Hf f S:=TrL.same (stx.trans (G.trans st5)).fz ta
     cases b with
     | false=>rw[if_neg (by decide)];exact⟨T,c4,f,rfl,R5,by omega,M,Z,l⟩
     | true =>
      rw[if_pos rfl]
      have l:B ((fe c4).bind fun p c=>(frz (nrm p) c).bind fun y c=>Ea g ft fe (ds.drop (i+1)) (f++[y]) c):=l
      refine he.toV C T c4 σ3 _ R5 ?_
      cases ee:fe c4 with
      | bad=>rw[ee]at l;exact l.elim
      | ok p c5 =>
       rw[ee]at l
       have l:B ((frz (nrm p) c5).bind fun y c=>Ea g ft fe (ds.drop (i+1)) (f++[y]) c):=l
       intro y W5 st6 R6 r6
       have fz:(frz (nrm p) c5).sat fun _ _=>True:=by
        cases ef:frz (nrm p) c5 with
        | bad=>rw[ef]at l;exact l.elim
        | ok d c=>trivial
       obtain⟨d,c6,W6,e6,_,eH,st7,R7,t7⟩:=Ig R6 r6 fz;rw[e6]at l
       refine⟨W6,c6,f++[d],eH,R7,by rw[List.length_append,List.length_singleton];omega,M.trans (st6.trans st7),(TrL.same (st6.trans st7).fz Z).app (TrL.one t7),l⟩
  ·have e:i=ds.length:=by omega
   subst e;rw[List.drop_length]at l
   refine .inl ⟨P rfl,fun p hp=>?_⟩
   have l:match Ga D (pairsOf 0 idx) c1 with
    | none=>False
    | some c=>∀v j w,Stp W.S W.Hf W.H (orS _ _) _ _->Rep K _ j c _->Ed K _ _ _ v _->Q v _:=l
   cases eb:Ga D (pairsOf 0 idx) c1 with
   | none=>simp only[eb]at l
   | some cO =>
    simp only[eb]at l
    obtain⟨O,e1,e2,R3,n,_⟩:=L.back (fp:=[]) R1 R2 (N.less fun a z=>by
     rcases z with z | z
     ·exact z
     ·cases z) eb (fun k i b ds v hm _ hv=>by
      have:=(El hm).2;rw[Nat.sub_zero]at this
      rw[X4 this hv];rfl) fun a z=>nomatch z
    have n:Stp W1.S W1.Hf W1.H O.S O.Hf O.H:=by
     rw[e1,e2];exact n.less fun a z=>.inl z
    rw[<- e2]at hp ⊢
    exact New.lst (New.of R3 fun v j w st R' rp=>l v _ _ (st1.trans (n.trans st)) R' rp) R3.sub (by rw[e1];exact ta) hp
 ·rw[if_neg hl]at s1;exact s1.elim
theorem G6          (d:((pairsOf 0 idx).map (·.2)).Nodup) (hi:MI K f fi) (hg:MG K t g) (ht:MT K h ft) (he:ME K j fe) :
 ME K (tLC idx f t h j) (cLC idx fi g ft fe):=by
 intro n W c o Q R s
 refine hi _ W c _ _ R (s.bnd.mono fun q p l J u a k m=>?_)
 exact A6x d hg ht he a k (fun i r e b=>m i _ _ e.fz b) l
end
inductive FR where
 | ret (o:O) (as:List O)
 | bad
def resolve (p:PV)(c:Ev):Option (O×Ev):=match p with
 | .o (.ls _ ds)=>some (.ls false ds,c)
 | .o o=>some (o,c)
 | .sl i=>match c[i]? with
  | some (some (.ls false ds))=>some (.ls false ds,c.set i none)
  | some (some (.im d))=>some (.im d,c)
  | _=>none
def G7:List O->Ev->Option (List O)
 | [],_=>some []
 | .ls true _::r,some (.ls true ds)::c=>(G7 r c).map (.ls true ds::·)
 | .ls _ _::_,_=>none
 | o::r,_::c=>(G7 r c).map (o::·)
 | _::_,[]=>none
def At9 (as:List O)(p:PV)(c:Ev):FR:=match resolve p c with
 | none=>.bad
 | some (o,c)=>match G7 as c with
  | none=>.bad
  | some as'=>.ret o as'
def Gb (n N:Nat)(body:Ev->SR):List O->FR:=fun as=>if as.length=n then match body (as.map some++List.replicate (N-n) none) with
 | .nx c=>At9 as (.o (.im .none)) c
 | .rt p c=>At9 as p c
 | _=>.bad
 else .bad
def spP (K:PySem.W.Frag)(F:List O->FR):Sp:=fun vs H Q _=>∃(β:Nat->V) (W:Wo) (as:List O),W.H=H/\as.length=vs.length/\Rep K β W (as.map some) (vs.map some)/\match F as with
 | .bad=>False
 | .ret o as'=>∀v W' fp,Stp W.S W.Hf W.H (orS W'.S fp) W'.Hf W'.H->Rep K β W' (as'.map some) (vs.map some)->RepO K W'.Hf W'.H o v fp->(∀a∈fp,¬ W'.S a)->Q v W'.H
section
variable {K:PySem.W.Frag}{β β':Nat->V}{W W':Wo}{c c' cI cI' cO:Ev}{σ σ' σI σI':St}{D:Ends}{Hf H:Hp}{o:O}{v:V}{fp:List Addr}
theorem Pb:∀{as:List O}{c:Ev}{as':List O},G7 as c=some as'->as'.length=as.length/\∀(i:Nat) (o':O),as'[i]?=some o'->(o'.own=false/\as[i]?=some o')\/(∃ds ds',o'=.ls true ds'/\as[i]?=some (.ls true ds)/\c[i]?=some (some (.ls true ds')))
 | [],c,as',e=>by cases (show some []=some as' from e);exact⟨rfl,fun i o' h=>by simp at h⟩
 | o::r,[],as',e=>by
  cases o with
  | ls b ds=>cases b <;> cases e
  | im d=>cases e
  | sc d=>cases e
  | ty d=>cases e
 | o::r,x::c,as',e=>by
  have go:∀o1:O,(G7 r c).map (o1::·)=some as'->((o1.own=false/\o1=o)\/(∃ds ds',o1=.ls true ds'/\o=.ls true ds/\x=some (.ls true ds'))) ->
   as'.length=(o::r).length/\∀(i:Nat) (o':O),as'[i]?=some o'->(o'.own=false/\(o::r)[i]?=some o')\/(∃ds ds',o'=.ls true ds'/\(o::r)[i]?=some (.ls true ds)/\(x::c)[i]?=some (some (.ls true ds'))):=fun o1 e1 h1=>by
   obtain⟨t,e2,rfl⟩:=Option.map_eq_some_iff.mp e1;obtain⟨l,g⟩:=Pb e2
   refine⟨by rw[List.length_cons,List.length_cons,l],fun i o' h=>?_⟩
   cases i with
   | zero =>
    cases (show some o1=some o' from h)
    rcases h1 with ⟨z1,z2⟩ | ⟨ds,ds',z1,z2,z3⟩
    ·exact .inl ⟨z1,by rw[z2];rfl⟩
    ·exact .inr ⟨ds,ds',z1,by rw[z2];rfl,by rw[z3];rfl⟩
   | succ i=>exact g i o' (by simpa using h)
  cases o with
  | ls b ds =>
   cases b with
   | false=>cases e
   | true =>
    match x,e with
    | some (.ls true ds'),e=>exact go (.ls true ds') e (.inr ⟨ds,ds',rfl,rfl,rfl⟩)
    | some (.ls false ds'),e=>cases e
    | some (.im _),e=>cases e
    | some (.sc _),e=>cases e
    | some (.ty _),e=>cases e
    | none,e=>cases e
  | im d=>exact go (.im d) e (.inl ⟨rfl,rfl⟩)
  | sc d=>exact go (.sc d) e (.inl ⟨rfl,rfl⟩)
  | ty d=>exact go (.ty d) e (.inl ⟨rfl,rfl⟩)
theorem Ut   (R:Rep K β W c σ) (r:Ed K W σ p v fp) (e:resolve p c=some (o,c')) :
 ∃W2 fp2,W2.Hf=W.Hf/\W2.H=W.H/\Rep K β W2 c' σ/\RepO K W2.Hf W2.H o v fp2/\(∀a∈fp2,¬ W2.S a)/\∀a,orS W2.S fp2 a->orS W.S fp a:=by
 cases p with
 | o f =>
  have g:o=f.flag false/\c'=c:=by
   cases f with
   | ls b h=>cases e;exact⟨rfl,rfl⟩
   | im d=>cases e;exact⟨rfl,rfl⟩
   | sc d=>cases e;exact⟨rfl,rfl⟩
   | ty d=>cases e;exact⟨rfl,rfl⟩
  obtain⟨rfl,rfl⟩:=g
  refine⟨W,fp,rfl,rfl,R,?_,r.2,fun a z=>z⟩
  cases f with
  | ls b h=>exact r.1
  | im d=>exact r.1
  | sc d=>exact r.1
  | ty d=>exact r.1
 | sl i =>
  obtain⟨rfl,n⟩:=r;unfold resolve at e
  cases ec:c[i]? with
  | none=>simp_all
  | some x =>
   cases x with
   | none=>grind
   | some f =>
    obtain⟨v',g,k,_⟩:=R.get i _ ec
    cases (show some _=some _ from g.symm.trans n)
    cases f with
    | sc d=>simp_all
    | ty d=>simp_all
    | im d =>
     simp only[ec]at e
     cases e
     exact⟨W,[],rfl,rfl,R,⟨rfl,k.2⟩,(fun a z=>by cases z),fun a z=>z⟩
    | ls b h =>
     cases b with
     | true=>simp_all
     | false =>
      simp only[ec]at e
      cases e
      refine⟨⟨W.Hf,W.H,clr _ i⟩,W.fps i,rfl,rfl,R.drop i,k,fun a q ⟨j,m⟩=>?_,fun a z=>?_⟩
      ·obtain⟨s,l⟩:=Gz m
       exact l (R.dis j i a s q)
      ·rcases z with z | z
       ·exact .inl (Bl6 z)
       ·exact .inl ⟨i,z⟩
theorem Mf {b a:Type}{l:List b}{f:b->a}{i:Nat}{y:a}(h:(l.map f)[i]?=some y):∃x,l[i]?=some x/\f x=y:=by
 grind
theorem A5m  {vs:List V}  (t:Rep K β z (p.map some) (vs.map some)) (R:Rep K β W c σ) (S:Same z.Hf W.Hf) (e:G7 p c=some k) :
 ∃W2:Wo,W2.Hf=W.Hf/\W2.H=W.H/\Rep K β W2 (k.map some) (vs.map some)/\∀a,W2.S a->W.S a:=by
 obtain⟨E,G⟩:=Pb e
 let f:Nat->List Addr:=fun i=>if Hc ((k.map some)[i]?) then W.fps i else []
 have g:∀i a,a∈f i->a∈W.fps i:=fun i a h=>by
  grind
 have m:p.length=vs.length:=by have:=t.len;rwa [List.length_map,List.length_map]at this
 refine⟨⟨W.Hf,W.H,f⟩,rfl,rfl,⟨R.sub,by rw[List.length_map,List.length_map,E,m],fun i o h=>?_,fun i j a u w=>R.dis i j a (g i a u) (g j a w),fun i a h=>R.own i a (g i a h)⟩,fun a ⟨i,h⟩=>⟨i,g i a h⟩⟩
 obtain⟨o',u,w⟩:=Mf h
 cases w
 rcases G i o u with ⟨n,q⟩ | ⟨A,C,rfl,J,D⟩
 ·obtain⟨v,s,r,_⟩:=t.get i o (by rw[List.getElem?_map,q];rfl)
  have x:f i=[]:=by
   show (if Hc _ then W.fps i else [])=[]
   rw[h]
   cases o with
   | ls b A=>exact nomatch n
   | im d=>rfl
   | sc d=>rfl
   | ty d=>rfl
  refine⟨v,s,?_,?_⟩
  ·show RepO K W.Hf W.H o v (f i)
   rw[x]
   cases o with
   | ls b A=>exact nomatch n
   | im d=>exact⟨rfl,RepN.same S r.2⟩
   | sc d=>exact⟨rfl,RepN.same S r.2⟩
   | ty d=>exact⟨rfl,RepN.same S r.2⟩
  grind
 ·obtain⟨v,s,r,B⟩:=t.get i _ (by rw[List.getElem?_map,J];rfl)
  obtain⟨H,F,I,y⟩:=R.get i _ D;have l:=y rfl;rw[<- (B rfl)]at l;subst l
  refine⟨H,s,?_,B⟩
  have x:f i=W.fps i:=by
   show (if Hc _ then W.fps i else [])=_
   rw[h];rfl
  show RepO K _ _ _ _ (f i)
  rw[x];exact I
theorem Ds        (h:MS K T body) (hs:spP K (Gb n N.length body) vs H Q E):T { nx:=fun _ H'=>Q .non H',rt:=Q } (start N vs) H:=by
 obtain⟨u,W,j,rfl,B,m,b⟩:=hs;unfold Gb at b
 by_cases hn:j.length=n
 ·rw[if_pos hn]at b
  let D:Ev:=j.map some++List.replicate (N.length-n) none
  have R:Rep K u W D (start N vs):=by
   refine⟨m.sub,?_,fun i o e=>?_,m.dis,m.own⟩
   ·show (j.map some++List.replicate (N.length-n) none).length=(vs.map some++List.replicate (N.length-vs.length) none).length
    rw[List.length_append,List.length_append,List.length_map,List.length_map,List.length_replicate,List.length_replicate,<- B,hn]
   ·have e:(j.map some++List.replicate (N.length-n) none)[i]?=some (some o):=e
    by_cases li:i<j.length
    ·rw[List.getElem?_append_left (by rw[List.length_map];exact li)]at e
     obtain⟨v,w,r⟩:=m.get i o e
     refine⟨v,?_,r⟩
     show (vs.map some++List.replicate (N.length-vs.length) none)[i]?=_
     rw[List.getElem?_append_left (by rw[List.length_map,<- B];exact li)];exact w
    ·rw[List.getElem?_append_right (by rw[List.length_map];exact Nat.le_of_not_lt li),List.getElem?_replicate]at e
     split at e <;> cases e
  refine h u W D (start N vs) _ R ?_
  have l:∀p f c v d g,(match At9 j p f with
   | .bad=>False
   | .ret o t=>∀v W' g,Stp W.S W.Hf W.H (orS W'.S g) W'.Hf W'.H->Rep K u W' (t.map some) (vs.map some)->RepO K W'.Hf W'.H o v g->(∀a∈g,¬ W'.S a)->Q v W'.H) ->
   Stp W.S W.Hf W.H (orS d.S g) d.Hf d.H->Rep K u d f c->Ed K d c p v g->Q v d.H:=fun p f c v d g b k s x=>by
   unfold At9 at b
   cases er:resolve p f with
   | none=>simp only[er]at b
   | some q =>
    obtain⟨o,U⟩:=q;simp only[er]at b
    cases ea:G7 j U with
    | none=>simp only[ea]at b
    | some t =>
     simp only[ea]at b;obtain⟨W2,S,w,C,I,J,L,M⟩:=Ut s x er
     obtain⟨O,A,y,P,F⟩:=A5m m I (by rw[w];exact k.fz) ea
     rw[show d.H=O.H by rw[y,C]]
     refine b v _ _ ?_ P (by rw[A,y];exact J) fun a G z=>L a G (F a z)
     rw[A,y,w,C]
     exact k.less fun a z=>M a (by
      rcases z with z | z
      ·exact .inl (F a z)
      ·exact .inr z)
  cases eb:body _ with
  | nx f =>
   rw[show body _=.nx _ from eb]at b
   exact fun c d k s=>l _ _ _ _ _ _ b (k.less fun a z=>by
    rcases z with z | z
    ·exact z
    ·cases z) s ⟨⟨rfl,rfl⟩,fun a z=>nomatch z⟩
  | rt p f =>
   rw[show body _=.rt p _ from eb]at b
   exact fun c v d g k s x=>l p _ _ v _ _ b k s x
  | bk f=>rw[show body _=.bk _ from eb]at b;exact b.elim
  | ct f=>rw[show body _=.ct _ from eb]at b;exact b.elim
  | bad=>rw[show body _=.bad from eb]at b;exact b.elim
 ·rw[if_neg hn]at b;exact b.elim
theorem Dz       (hs:spP K (Gb n N body) vs H Q E):vs.length=n:=by
 obtain⟨d,W,c,b,e,f,a⟩:=hs;unfold Gb at a
 grind
def Aa5 (c:Ev):List PV->Option (List O)
 | []=>some []
 | .o o::r=>(Aa5 c r).map (o::·)
 | .sl i::r=>match c[i]? with
  | some (some o)=>(Aa5 c r).map (o.flag true::·)
  | _=>none
def slots:List PV->List (Option Nat)
 | []=>[]
 | .o _::r=>none::slots r
 | .sl i::r=>some i::slots r
def ndB:List Nat->Bool
 | []=>true
 | x::r=>!r.contains x&&ndB r
theorem A2y:∀{l:List Nat},ndB l=true->l.Nodup
 | [],_=>List.nodup_nil
 | x::r,h=>by
  obtain⟨h1,h2⟩:=Bool.and_eq_true_iff.mp (show (!r.contains x&&ndB r)=true from h)
  rw[List.nodup_cons]
  exact⟨fun z=>by simp[z]at h1,A2y h2⟩
def T4 (F:List O->FR)(ps:List PV)(c:Ev):R PV:=match Aa5 c ps with
 | none=>.bad
 | some as=>if ndB ((pairsOf 0 (slots ps)).map (·.2))=true then match F as with
  | .bad=>.bad
  | .ret o as'=>match Ga (as'.map some) (pairsOf 0 (slots ps)) c with
   | none=>.bad
   | some c=>.ok (.o o) c
  else .bad
def cF (F:List O->FR)(fa:Ev->R (List PV)):Ev->R PV:=fun c=>(fa c).bind fun ps c=>T4 F ps c
theorem Uq {Hf:Hp}:∀{ps:List PV}{vs:List V}{as:List O},Aa5 c ps=some as->zH K Hf σ ps vs->as.length=vs.length/\∀(k:Nat) (o:O),as[k]?=some o->∃v,vs[k]?=some v /\
 ((RepN K Hf o v/\(slots ps)[k]?=some none)\/∃i o',(slots ps)[k]?=some (some i)/\c[i]?=some (some o')/\o=o'.flag true/\σ[i]?=some (some v))
 | [],vs,as,e,h=>by cases (show some []=some as from e);cases (show vs=[] from h);exact⟨rfl,fun k o h=>by simp at h⟩
 | .o o1::r,_,as,e,⟨v,vr,rfl,h,t⟩=>by
  obtain⟨l,e2,rfl⟩:=Option.map_eq_some_iff.mp (show (Aa5 c r).map (o1::·)=some as from e)
  obtain⟨hl,hg⟩:=Uq e2 t
  refine⟨by rw[List.length_cons,List.length_cons,hl],fun k o hk=>?_⟩
  cases k with
  | zero=>cases (show some o1=some o from hk);exact⟨v,rfl,.inl ⟨h,rfl⟩⟩
  | succ k=>exact hg k o (by simpa using hk)
 | .sl i::r,_,as,e,⟨v,vr,rfl,h,t⟩=>by
  unfold Aa5 at e
  cases ec:c[i]? with
  | none=>simp only[ec]at e;cases e
  | some x =>
   cases x with
   | none=>simp only[ec]at e;cases e
   | some o1 =>
    simp only[ec]at e;obtain⟨l,e2,rfl⟩:=Option.map_eq_some_iff.mp e;obtain⟨hl,hg⟩:=Uq e2 t
    refine⟨by rw[List.length_cons,List.length_cons,hl],fun k o hk=>?_⟩
    cases k with
    | zero=>cases (show some (o1.flag true)=some o from hk);exact⟨v,rfl,.inr ⟨i,o1,rfl,ec,rfl,h⟩⟩
    | succ k=>exact hg k o (by simpa using hk)
theorem Qw {Hf:Hp}:∀{ps:List PV}{vs:List V}{k i:Nat}{v:V},zH K Hf σ ps vs->(slots ps)[k]?=some (some i)->σ[i]?=some (some v)->vs[k]?=some v
 | [],vs,k,i,v,h,e,q=>by simp[slots]at e
 | .o _::r,_,k,i,v,⟨v1,vr,rfl,h,t⟩,e,q=>by
  cases k with
  | zero=>simp[slots]at e
  | succ k=>have:=Qw (k:=k) t (by simpa[slots] using e) q;simpa using this
 | .sl j::r,_,k,i,v,⟨v1,vr,rfl,h,t⟩,e,q=>by
  cases k with
  | zero =>
   have:j=i:=by simpa[slots] using e
   subst this
   cases (show some (some v1)=some (some v) from (show σ[j]?=some (some v1) from h).symm.trans q)
   rfl
  | succ k=>have:=Qw (k:=k) t (by simpa[slots] using e) q;simpa using this
theorem Ai3        (g:Rep K β W1 c1 σ) (R:zH K W1.Hf σ ps vs)
 (s1:(T4 F ps c1).sat fun p c'=>∀v e y,Stp W1.S W1.Hf W1.H (orS e.S y) e.Hf e.H->Rep K β e c' σ->Ed K e σ p v y->(∀j a,a∈W1.fps j->some j∉slots ps->e.H a=W1.H a)->Q v e.H):spP K F (vs++[]) W1.H Q E:=by
 unfold T4 at s1
 cases ea:Aa5 c1 ps with
 | none=>simp only[ea]at s1;exact s1.elim
 | some M =>
  simp only[ea]at s1
  by_cases nd:ndB ((pairsOf 0 (slots ps)).map (·.2))=true
  ·rw[if_pos nd]at s1
   obtain⟨P,hg⟩:=Uq ea R
   let m:=pairsOf 0 (slots ps)
   let l:Nat->V:=fun k=>(vs[k]?).getD .non
   have L:Lent K W1.Hf m c1 σ l (M.map some) (vs.map some):=by
    refine⟨O1,A2y nd,by rw[List.length_map,List.length_map];exact P,fun k o B=>?_⟩
    obtain⟨o1,T,h2⟩:=Mf B
    cases h2
    obtain⟨v,u,q⟩:=hg k o T
    have c:(vs.map some)[k]?=some (some v):=by rw[List.getElem?_map,u];rfl
    rcases q with ⟨I,t⟩ | ⟨i,H,t,n,rfl,G⟩
    ·refine .inl ⟨?_,fun i Z=>?_,v,c,I⟩
     ·cases o with
      | ls b D=>exact I.elim
      | im d=>rfl
      | sc d=>rfl
      | ty d=>rfl
     ·have:=(El Z).2
      rw[Nat.sub_zero,t]at this;cases this
    ·have f:Hc c1[i]?=false->∀j,(k,j)∈m->Hc c1[j]?=false:=fun q j z=>by
      have:=(El z).2;rw[Nat.sub_zero,t]at this;cases this;exact q
     obtain⟨v',w,r,_⟩:=g.get i H n
     cases (show some _=some _ from w.symm.trans G)
     cases H with
     | im d=>exact .inl ⟨rfl,f (by rw[n];rfl),v,c,r.2⟩
     | sc d=>exact .inl ⟨rfl,f (by rw[n];rfl),v,c,r.2⟩
     | ty d=>exact .inl ⟨rfl,f (by rw[n];rfl),v,c,r.2⟩
     | ls b D=>exact .inr ⟨i,b,D,v,Mr  t,n,rfl,G,c,by show vs[k]?.getD _=v;rw[u];rfl⟩
   refine⟨l,⟨W1.Hf,W1.H,Qn m _ _⟩,M,rfl,by rw[List.append_nil];exact P,by rw[List.append_nil];exact(L.rep g),?_⟩
   cases ef:F _ with
   | bad=>simp only[ef]at s1;exact s1.elim
   | ret o A =>
    simp only[ef]at s1;intro v e y J U W X
    cases eb:Ga (A.map some) m c1 with
    | none=>simp only[m]at eb;simp only[eb]at s1;exact s1.elim
    | some cO =>
     have h:=eb;simp only[m]at h;simp only[h]at s1
     obtain⟨W2,w,x,R2,C,Y⟩:=L.back g U J eb (fun k i b D v hm hc u=>by
      have:=(El hm).2;rw[Nat.sub_zero]at this
      show vs[k]?.getD _=v
      rw[Qw R this u];rfl) X
     rw[<- x]
     refine s1 v _ _ (by rw[w,x];exact C) R2 ⟨by rw[w,x];exact W,Y⟩ fun j a N z=>?_
     obtain⟨_,ob,s,_⟩:=g.own j a N;rw[x,s]
     refine J.kp a _ s fun⟨k,B⟩=>z ?_
     obtain⟨i,q1,_,S⟩:=Gj B
     cases g.dis i j a S N
     have:=(El q1).2;exact List.mem_of_getElem? this
  ·rw[if_neg nd]at s1;exact s1.elim
theorem P0        (d:Rep K β W1 c1 σ) (e:zH K W1.Hf σ ps vs)
 (s1:(T4 F ps c1).sat fun p c'=>∀v a b,Stp W1.S W1.Hf W1.H (orS a.S b) a.Hf a.H->Rep K β a c' σ->Ed K a σ p v b->Q v a.H):spP K F (vs++[]) W1.H Q E :=
 Ai3 d e (s1.mono fun p c' k v a b c R r _=>k v _ _ c R r)
theorem Aw     (ha:MA K t fa):ME K (Kv (spP K F) [] E t) (cF F fa):=by
 intro j W c h Q R s
 refine ha _ W c _ _ R (s.bnd.mono fun l m f u i a e d=>?_)
 exact P0 e d (f.mono fun p n k v o q g b r=>k v _ _ (a.trans g) b r)
end
def Bb2 (c:Ev)(i:Nat):Option (List PyData):=match c[i]? with
 | some (some (.ls _ ds))=>some ds
 | _=>none
def A1q (c:Ev):List Bool->List PV->List PV
 | false::ks,.sl i::ps=>(match Bb2 c i with
  | some ds=>.o (.im (.list ds))
  | none=>.sl i)::A1q c ks ps
 | _::ks,p::ps=>p::A1q c ks ps
 | [],ps=>ps
 | _,[]=>[]
def shown:Ev->List Bool->List PV->List Nat
 | c,false::ks,.sl i::ps=>(match Bb2 c i with
  | some _=>i::shown c ks ps
  | none=>shown c ks ps)
 | c,_::ks,_::ps=>shown c ks ps
 | _,_,_=>[]
def Bw3 (is:List Nat)(c:Ev):Ev:=is.foldl (fun c i=>c.set i none) c
section
variable {K:PySem.W.Frag}{X:Cx}{Hf H:Hp}{Q:VK}
theorem OpR.or    (h:OpR X f r) (h':OpR X f b):OpR X f (fun x y H Q=>r x y H Q\/b x y H Q):=by
 intro c s e H x y v u Q I d a q
 rcases q with q | q
 ·exact h _ s _ H x y v u Q I d a q
 ·exact h' _ s _ H x y v u Q I d a q
theorem CallR.or    (h:CallR X f r) (h':CallR X f b):CallR X f (fun xs H Q=>r xs H Q\/b xs H Q):=by
 intro c s d H xs e Q I a q
 rcases q with q | q
 ·exact h _ s _ H _ _ Q I a q
 ·exact h' _ s _ H _ _ Q I a q
theorem Dt   (h:RdV Hf H (.int i) v):v=.int i:=h
theorem Gp   (h:RdV Hf H (.str x) v):v=.str x:=h
theorem Pk   (h:RdV Hf H (.bool b) v):v=.bl b:=h
theorem Ol  (h:RdV Hf H .none v):v=.non:=h
theorem Jf   (s:Same Hf H) (h:RdV Hf H (.tuple ds) v):∃a b,v=.ref a/\H a=some (.tup b)/\TrL Hf ds b:=by
 obtain⟨a,b,e,q,t⟩:=(show Tr _ _ v from h)
 exact⟨a,b,e,s _ _ q,t⟩
theorem Gy   (h:RdV Hf H (.list ds) v):∃a vs,v=.ref a/\H a=some (.lst vs)/\TrL Hf ds vs:=h
theorem New.int  (h:New K Hf H (.im (.int i)) Q) (s:Same Hf H):Q (.int i) H:=h.same s rfl
theorem New.bl  (h:New K Hf H (.im (.bool b)) Q) (s:Same Hf H):Q (.bl b) H:=h.same s rfl
theorem New.str  (h:New K Hf H (.im (.str x)) Q) (s:Same Hf H):Q (.str x) H:=h.same s rfl
theorem New.tupS   (h:New K Hf H (.im (.tuple ds)) Q) (s:Same Hf H) (t:TrL Hf ds vs)   (S:Same H H') (hp:H' p=some (.tup vs)):Q (.ref p) H':=by
 have c:Same _ (upd Hf p (.tup vs)):=fun b u e=>by
  unfold upd
  split
  ·have:=S b u (s b u e)
   simp_all
  grind
 refine h _ _ _ [] ⟨c,fun a o e _=>S a o e,fun a o e d _ q=>?_,fun a z=>nomatch z⟩ (fun b u e=>?_) ⟨rfl,p,vs,rfl,Be,TrL.same c t⟩
 ·unfold upd
  split
  ·rename_i z
   have:=S a o e;rw[z,hp]at this
   cases this
   trivial
  omega
 ·unfold upd at e
  split at e
  ·simp_all
  ·exact S b u (s b u e)
def Bg5:R2:=fun x y H Q=>(rI0 (fun i j=>.int (i+j)) x y H Q\/(∃i j,x=.str i/\y=.str j/\i.length+j.length<=sizeLine/\Q (.str (i++j)) H))\/(Bs7 x y H Q\/Ba2 x y H Q)
theorem Bi5:OpR X (binaryOp .Add) Bg5:=OpR.or (OpR.or Bl1 Ai0) (OpR.or Bc6 A6c)
def Bw:PyData->PyData->Option O
 | .int i,.int j=>some (.im (.int (i+j)))
 | .str a,.str b=>if a.length+b.length<=16000000 then some (.im (.str (a++b))) else none
 | .list a,.list b=>if a.length+b.length<=16000000 then some (.ls false (a++b)) else none
 | .tuple a,.tuple b=>if a.length+b.length<=16000000 then some (.im (.tuple (a++b))) else none
 | _,_=>none
theorem lim  (h:n<=16000000):n<=sizeLine:=Nat.le_trans h (by decide)
theorem Cp:OpS K Bg5 Bw:=by
 intro C H x y A B o Q s g f e n;unfold Bw at e
 split at e
 ·rename_i i j
  cases e
  exact .inl (.inl ⟨i,j,Dt g,Dt f,n.int s⟩)
 ·rename_i a b
  split at e
  ·rename_i l
   cases e
   exact .inl (.inr ⟨a,b,Gp g,Gp f,lim l,n.str s⟩)
  ·cases e
 ·have e  := e
  split at e
  ·rename_i l
   cases e
   obtain⟨p,v,k,h,d⟩:=Gy g;obtain⟨q,t,u,m,c⟩:=Gy f
   exact .inr (.inl ⟨p,q,v,t,k,u,h,m,by rw[<- d.length,<- c.length];exact lim l,fun r w=>n.lst s (d.app c) w⟩)
  ·cases e
 ·have e  := e
  split at e
  ·rename_i l
   cases e
   obtain⟨p,v,k,h,d⟩:=Jf s g;obtain⟨q,t,u,m,c⟩:=Jf s f
   exact .inr (.inr ⟨p,q,v,t,k,u,h,m,by rw[<- d.length,<- c.length];exact lim l,fun r z S w=>n.tupS s (d.app c) S w⟩)
  ·cases e
 ·cases e
def opI (C:Int->Int->Bool)(g:Int->Int->Int):PyData->PyData->Option O
 | .int i,.int j=>if C i j then some (.im (.int (g i j))) else none
 | _,_=>none
theorem Am6    (hc:∀i j,C i j=true->a i j):OpS K (rI a fun i j=>.int (g i j)) (opI C g):=by
 intro d H x y h f o Q s c b e n;unfold opI at e
 split at e
 ·rename_i i j
  split at e
  ·rename_i l
   cases e
   exact⟨i,j,Dt c,Dt b,hc i j l,n.int s⟩
  trivial
 grind
def Vf (g:Int->Int->PyData):PyData->PyData->Option O
 | .int i,.int j=>some (.im (g i j))
 | _,_=>none
theorem Wu   (hg:∀i j H,Tr H (g i j) (g' i j)):OpS K (rI0 g') (Vf g):=by
 intro c H x y f d o Q s a b e n;unfold Vf at e
 split at e
 ·rename_i i j
  cases e
  exact⟨i,j,Dt a,Dt b,n.same s (hg i j _)⟩
 trivial
def Sw (i j:Int):Bool:=(decide (-(2 ^ 64)<i)&&decide (i<2 ^ 64))||(decide (-(2 ^ 64)<j)&&decide (j<2 ^ 64))
def Cq (d:PyData):Bool:=d.canLay0&&decide (d.depth<=40)
theorem Jb  (h:Cq d=true):Flat d:=by
 obtain⟨b,a⟩:=Bool.and_eq_true_iff.mp h;exact⟨b,of_decide_eq_true a⟩
def Rz:PyData->PyData->Bool
 | .str _,.str _=>true
 | _,_=>false
def Dc (neg:Bool)(a b:PyData):Option O:=if (Cq a&&Cq b)||Rz a b then some (.im (.bool (if neg then !PyData.eqv a b else PyData.eqv a b))) else none
def rEQ:R2:=fun x y H Q=>Bw9 x y H Q\/rEq x y H Q
def rNE:R2:=fun x y H Q=>Bw7 x y H Q\/rNe x y H Q
theorem Ba1 (hu:X.A.units+64<cLine):OpR X (compareOp .Eq) rEQ:=OpR.or (Bh8 hu) Bu9
theorem Ba3 (hu:X.A.units+64<cLine):OpR X (compareOp .NotEq) rNE:=OpR.or (Bc8 hu) Bv4
theorem Uu (x y:Str):PyData.eqv (.str x) (.str y)=decide (V.str x=V.str y):=by
 show (x==y)=_
 grind
theorem Es:OpS K rEQ (Dc false):=by
 intro h H x y f d o Q s b a e n;unfold Dc at e
 split at e
 ·rename_i l
  cases e
  rcases Bool.or_eq_true_iff.mp l with l | l
  ·obtain⟨g,c⟩:=Bool.and_eq_true_iff.mp l
   exact .inl ⟨f,d,b.tr s,a.tr s,Jb g,Jb c,n.bl s⟩
  ·unfold Rz at l
   split at l
   ·cases Gp b
    cases Gp a
    refine .inr ⟨rfl,?_⟩
    rw[<- Uu];exact n.bl s
   grind
 grind
theorem Qp:OpS K rNE (Dc true):=by
 intro h H x y f d o Q s b a e n;unfold Dc at e
 split at e
 ·rename_i l
  cases e
  rcases Bool.or_eq_true_iff.mp l with l | l
  ·obtain⟨g,c⟩:=Bool.and_eq_true_iff.mp l
   exact .inl ⟨f,d,b.tr s,a.tr s,Jb g,Jb c,n.bl s⟩
  ·unfold Rz at l
   split at l
   ·cases Gp b
    cases Gp a
    refine .inr ⟨rfl,?_⟩
    rw[<- Uu];exact n.bl s
   grind
 grind
def A5f (a b:PyData):Option O:=if Cq a&&Cq b then (Rk false a b).map fun r=>.im (.bool r) else none
theorem Bf9:OpS K Bi4 A5f:=by
 intro Hf H x y b c o Q s d a e n;unfold A5f at e
 split at e
 ·rename_i l
  obtain⟨g,f⟩:=Bool.and_eq_true_iff.mp l;obtain⟨r,h,rfl⟩:=Option.map_eq_some_iff.mp e;exact⟨b,c,r,d.tr s,a.tr s,Jb g,Jb f,h,n.bl s⟩
 grind
def Fv (neg:Bool)(a b:PyData):Option O:=match b with
 | .none=>some (.im (.bool (match a with
  | .none=>!neg
  | _=>neg)))
 | _=>none
theorem Al2   (h:RdV Hf H d v):decide (v=.non)=(match d with | .none=>true | _=>false):=by
 cases d with
 | none=>cases Ol h;rfl
 | bool b=>cases Pk h;rfl
 | int i=>cases Dt h;rfl
 | str x=>cases Gp h;rfl
 | list c=>obtain⟨a,e,rfl,_⟩:=Gy h;rfl
 | tuple c=>obtain⟨a,e,rfl,_⟩:=(show Tr _ _ v from h);rfl
 | dict k=>trivial
theorem Xu:OpS K (fun x y H Q=>y=.non/\Q (.bl (decide (x=.non))) H) (Fv false):=by
 intro f H x y c b o Q s d a e n
 match b,a,e with
 | .none,a,e =>
  refine⟨Ol a,?_⟩
  rw[Al2 d]
  cases e
  cases c <;> exact n.bl s
theorem Ug:OpS K (fun x y H Q=>y=.non/\Q (.bl (!decide (x=.non))) H) (Fv true):=by
 intro f H x y c b o Q s d a e n
 match b,a,e with
 | .none,a,e =>
  refine⟨Ol a,?_⟩
  rw[Al2 d]
  cases e
  cases c <;> exact n.bl s
def K1 (neg:Bool):PyData->PyData->Option O
 | d,.list ds=>if Cq d&&PyData.canLayAll0 ds then some (.im (.bool (if neg then !(ds.any fun e=>PyData.eqv e d) else ds.any fun e=>PyData.eqv e d))) else none
 | d,.tuple ds=>if Cq d&&PyData.canLayAll0 ds then some (.im (.bool (if neg then !(ds.any fun e=>PyData.eqv e d) else ds.any fun e=>PyData.eqv e d))) else none
 | .str i,.str j=>if neg then none else some (.im (.bool (!(Builtin.Str.occurrences j i 0 j.length 1).isEmpty)))
 | _,_=>none
theorem Jo:OpS K (A2g true) (K1 true):=by
 intro h H x y f i o Q s d g e n;unfold K1 at e
 split at e
 ·rename_i a
  have e  := e
  split at e
  ·rename_i l
   obtain⟨c,b⟩:=Bool.and_eq_true_iff.mp l
   cases e
   exact⟨f,a,d.tr s,.inl (g.tr s),Jb c,b,n.bl s⟩
  simp_all
 ·rename_i a
  have e  := e
  split at e
  ·rename_i l
   obtain⟨c,b⟩:=Bool.and_eq_true_iff.mp l
   cases e
   exact⟨f,a,d.tr s,.inr (g.tr s),Jb c,b,n.bl s⟩
  grind
 ·simp_all
 grind
theorem A2a     (t:TrL Hf ds vs) (h:atI ds i=some d):∃v,atI vs i=some v/\Tr Hf d v:=by
 unfold atI at h ⊢;rw[<- t.length];obtain⟨j,c,a⟩:=Option.bind_eq_some_iff.mp h;obtain⟨v,e,b⟩:=t.got a
 grind
def cutD (ds:List PyData)(lo hi:Option Int):List PyData:=(ds.drop (HT.sIx ds.length 0 lo)).take (HT.sIx ds.length ds.length hi-HT.sIx ds.length 0 lo)
theorem TrL.drop':∀{ds:List PyData}{vs:List V}(n:Nat),TrL Hf ds vs->TrL Hf (ds.drop n) (vs.drop n)
 | ds,vs,0,h=>h
 | [],_,n+1,h=>by cases (show _=[] from h);exact rfl
 | d::ds,_,n+1,⟨v,r,rfl,_,t⟩=>TrL.drop' n t
theorem TrL.take':∀{ds:List PyData}{vs:List V}(n:Nat),TrL Hf ds vs->TrL Hf (ds.take n) (vs.take n)
 | ds,vs,0,h=>by rw[List.take_zero,List.take_zero];exact rfl
 | [],_,n+1,h=>by cases (show _=[] from h);exact rfl
 | d::ds,_,n+1,⟨v,r,rfl,q,t⟩=>⟨v,r.take n,rfl,q,TrL.take' n t⟩
theorem TrL.cut    (t:TrL Hf ds vs):TrL Hf (cutD ds lo hi) (Av5 vs lo hi):=by
 unfold cutD Av5;rw[<- t.length];exact TrL.take' _ (TrL.drop' _ t)
end
section
variable {K:PySem.W.Frag}{X:Cx}{Hf H:Hp}{Q:VK}{β:Nat->V}{W W':Wo}{c c':Ev}{σ:St}{v:V}
theorem Bn1   (h:Be2 Hf H [d] xs):∃x,xs=[x]/\RdV Hf H d x:=by
 obtain⟨v,r,b,c,a⟩:=h
 cases (a)
 grind
def M3:List PyData->Option O
 | [.list ds]=>some (.im (.int ds.length))
 | [.tuple ds]=>some (.im (.int ds.length))
 | [.str z]=>if z.length<=16000000 then some (.im (.int z.length)) else none
 | _=>none
theorem As2:Bt7 K (Qz K) M3:=by
 intro Hf H xs ds o Q s d e n;unfold M3 at e
 split at e
 ·obtain⟨x,rfl,r⟩:=Bn1 d
  obtain⟨a,c,rfl,b,t⟩:=Gy r
  cases e
  refine⟨.ref a,c.length,rfl,A6s b,?_⟩
  rw[<- t.length];exact n.int s
 ·obtain⟨x,rfl,r⟩:=Bn1 d
  obtain⟨a,c,rfl,b,t⟩:=Jf s r
  cases e
  refine⟨.ref a,c.length,rfl,A6w b,?_⟩
  rw[<- t.length];exact n.int s
 ·rename_i z
  obtain⟨x,rfl,r⟩:=Bn1 d
  cases Gp r
  split at e
  ·rename_i l
   cases e
   refine⟨.str z,z.length,rfl,?_,n.int s⟩
   show (if z.length<=sizeLine then some _ else none)=_
   rw[if_pos (lim l)]
  trivial
 simp_all
def A9r (K:PySem.W.Frag):List V->Hp->VK->Prop:=fun xs H Q=>Qz K xs H Q\/Ad0 K xs H Q
theorem A5t:CallR X (.builtin "len") (A9r X.K):=CallR.or Aq4 Zz
def Mx (f:Ev->R PV):Ev->R PV:=fun c=>(f c).bind fun p c=>match nrm p with
 | .o (.sc ns)=>.ok (.o (.im (.int ns.length))) c
 | p=>match Ff c p with
  | some d=>match M3 [d] with
   | some o=>.ok (.o o) c
   | none=>.bad
  | none=>.bad
theorem La   (h:ME K t f):ME K (tCB (A9r K) (Cy t Gx)) (Mx f):=by
 intro A W c u Q R s
 refine h.toV A W c u _ R (s.bnd.mono fun p w e v r n k g=>?_)
 have m:∀q:PV,RepA K r.Hf u q v->((match Ff w q with
  | some d=>(match M3 [d] with
   | some o=>.ok (.o o) w
   | none=>.bad)
  | none=>.bad:U.R PV)).sat (fun p C=>∀v j l,Stp W.S W.Hf W.H (orS j.S l) j.Hf j.H->Rep K A j C u->Ed K j u p v l->Q v j.H)->A9r K [v] r.H Q:=fun q g e=>by
  cases ex:Ff w q with
  | none=>simp only[ex]at e;exact e.elim
  | some d =>
   simp only[ex]at e
   cases eo:M3 [d] with
   | none=>simp only[eo]at e;exact e.elim
   | some o =>
    simp only[eo]at e
    exact .inl (As2 r.Hf r.H [v] [d] o Q k.sub ⟨v,[],rfl,Ia k g ex,rfl⟩ eo (New.of k fun v j l z y x=>e v j l (n.trans z) y x))
 generalize nrm p=q at e g
 match q,g,e with
 | .o (.sc ns),g,e =>
  obtain⟨a,rfl,B⟩:=g;have e:∀v j l,Stp _ _ _ _ _ _->Rep K _ j _ _->Ed K _ _ _ v _->Q v _:=e
  refine .inr ⟨.ref a,ns.length,rfl,?_,(New.of k fun v j l z y x=>e v _ _ (n.trans z) y x).int k.sub⟩
  exact .inl ⟨ns.map _,Same.seq k.sub B,by simp_all⟩
 | .o (.im d),g,e=>exact m _ g e
 | .o (.ls b d),g,e=>trivial
 | .o (.ty T),g,e=>trivial
 | .sl i,g,e=>exact m _ g e
inductive Ty5 where
 | int | str | bool | list | tuple
def Ty5.nm:Ty5->String
 | .int => "int"
 | .str => "str"
 | .bool => "bool"
 | .list => "list"
 | .tuple => "tuple"
def Pr:Ty5->PyData->Bool
 | .int,.int _=>true
 | .int,.bool _=>true
 | .str,.str _=>true
 | .bool,.bool _=>true
 | .list,.list _=>true
 | .tuple,.tuple _=>true
 | _,_=>false
def Ap8:PyData->String
 | .none => "NoneType"
 | .bool _ => "bool"
 | .int _ => "int"
 | .str _ => "str"
 | .list _ => "list"
 | .tuple _ => "tuple"
 | .dict _ => "dict"
theorem Al7   (s:Same Hf H) (h:RdV Hf H d v):Mz H v=some (Ap8 d):=by
 cases d with
 | none=>cases Ol h;rfl
 | bool b=>cases Pk h;rfl
 | int i=>cases Dt h;rfl
 | str x=>cases Gp h;rfl
 | list c=>obtain⟨a,f,rfl,e,_⟩:=Gy h;exact Bc7 e
 | tuple c=>obtain⟨a,f,rfl,e,_⟩:=Jf s h;exact Bh1 e
 | dict k=>trivial
theorem Af9   (h:RdV Hf H d v) (T:Ty5):Eh (Ap8 d) T.nm=some (Pr T d):=by
 cases d with
 | none=>cases T <;> first | exact Rn | exact Rj | exact Qh | exact Qc | exact O3
 | bool b=>cases T <;> first | exact Ab7 | exact Zf | exact Ye | exact Y0 | exact Vd
 | int i=>cases T <;> first | exact Ag5 | exact Af0 | exact Zk | exact Ab6 | exact Yh
 | str x=>cases T <;> first | exact Ad2 | exact Ad8 | exact Ac1 | exact Y8 | exact Ws
 | list a=>cases T <;> first | exact Ac0 | exact Z2 | exact X3 | exact Xq | exact Vn
 | tuple a=>cases T <;> first | exact Wx | exact Xw | exact Vh | exact Vg | exact Uc
 | dict k=>exact(h).elim
def cUn (op:PyData->Option O)(f:Ev->R PV):Ev->R PV:=fun c=>(f c).bind fun p c=>match Ff c (nrm p) with
 | some d=>match op d with
  | some o=>.ok (.o o) c
  | none=>.bad
 | none=>.bad
def UnS (K:PySem.W.Frag)(r:V->Hp->VK->Prop)(op:PyData->Option O):Prop:=∀(Hf H:Hp) (x:V) (d:PyData) (o:O) (Q:VK),Same Hf H->RdV Hf H d x->op d=some o->New K Hf H o Q->r x H Q
theorem Vs     (h:ME K t f) (hr:UnS K r op):ME K (tUn r t) (cUn op f):=by
 intro u W c m Q R s
 refine h.toV _ W c _ _ R (s.bnd.mono fun p j a v w e b k=>?_)
 cases ex:Ff j (nrm p) with
 | none=>simp only[ex]at a;trivial
 | some d =>
  simp only[ex]at a
  cases eo:op d with
  | none=>simp only[eo]at a;trivial
  | some o =>
   simp only[eo]at a
   exact hr _ _ v d o Q b.sub (Ia b k ex) eo (New.of b fun v n q i l g=>a v _ _ (e.trans i) l g)
theorem Cz     (h:ME K t f) (hr:UnS K (fun x H Q=>r [x] H Q) op):ME K (tCB r (Cy t Gx)) (cUn op f):=Vs h hr
def Eu (T:Ty5)(d:PyData):Option O:=some (.im (.bool (Pr T d)))
def Ls (T1 T2:Ty5)(d:PyData):Option O:=some (.im (.bool (Pr T1 d||Pr T2 d)))
theorem Ft   (T:Ty5) (h:ME K t f):ME K (tCB (Nf K) (Cy t (Cy (tC (.ty T.nm)) Gx))) (cUn (Eu T) f) :=
 Vs  h fun a H x d o Q s r e n=>by
  cases e
  exact⟨x,T.nm,Ap8 d,Pr T d,rfl,Al7 s r,Af9 r T,n.bl s⟩
theorem A7k    (h1:Eh t A=some a) (h2:Eh t B=some b):Ko t [A,B]=some (a||b):=by
 unfold Ko;unfold Ko;unfold Ko
 grind
theorem A5w   (g j:Ty5) (h:ME K t f):ME K (tCB (Iw K) (Cy t (Cy (Av2 (Cy (tC (.ty g.nm)) (Cy (tC (.ty j.nm)) Gx))) Gx))) (cUn (Ls g j) f) :=
 Vs (r:=fun x H Q=>2<=sizeLine/\∀p,H p=none->Iw K _ _ Q) h fun v H x d o Q s r e n=>by
  cases e
  refine⟨by decide,fun p c=>⟨x,p,[g.nm,j.nm],Ap8 d,Pr _ d||Pr _ d,rfl,Be,?_,A7k (Af9 r _) (Af9 r _),?_⟩⟩
  ·have l:Same _ (upd H p (.tup [.ty g.nm,.ty j.nm])):=Xb s c
   refine Al7  l ?_
   cases d with
   | list u=>obtain⟨a,m,e,q,t⟩:=r;exact⟨a,m,e,Cu c _ _ q,t⟩
   | none=>exact r
   | bool b=>exact r
   | int i=>exact r
   | str z=>exact r
   | tuple u=>exact r
   | dict k=>exact r
  ·exact n _ _ _ [] ((Stp.newL s c).less fun a z=>nomatch z) (Xb s c) ⟨rfl,rfl⟩
def boolsOf:List PyData->Option (List Bool)
 | []=>some []
 | .bool b::r=>(boolsOf r).map (b::·)
 | _=>none
theorem Sg:∀{ds:List PyData}{bs:List Bool}{vs:List V},boolsOf ds=some bs->TrL Hf ds vs->vs=bs.map V.bl
 | [],bs,vs,e,t=>by cases (show some []=some bs from e);exact t
 | .bool b::r,bs,_,e,⟨v,vr,rfl,h,t⟩=>by
  obtain⟨l,e1,rfl⟩:=Option.map_eq_some_iff.mp (show (boolsOf r).map (b::·)=some bs from e)
  cases (show v=.bl b from h)
  rw[Sg e1 t];rfl
 | .none::r,bs,_,e,_=>nomatch e
 | .int _::r,bs,_,e,_=>nomatch e
 | .str _::r,bs,_,e,_=>nomatch e
 | .list _::r,bs,_,e,_=>nomatch e
 | .tuple _::r,bs,_,e,_=>nomatch e
 | .dict _::r,bs,_,e,_=>nomatch e
def A3g:PyData->Option O
 | .list ds=>(boolsOf ds).map fun bs=>.im (.bool (bs.any id))
 | _=>none
def Wf:PyData->Option O
 | .list ds=>(boolsOf ds).map fun bs=>.im (.bool (bs.all id))
 | _=>none
theorem A9p:UnS K (fun x H Q=>Li K [x] H Q) A3g:=by
 intro Hf H x d o Q s r e n
 match d,r,e with
 | .list _,r,e =>
  obtain⟨c,f,rfl⟩:=Option.map_eq_some_iff.mp (e);obtain⟨a,vs,rfl,b,t⟩:=Gy r
  exact⟨a,c,rfl,by rw[<- Sg f t];exact SqL.of b,n.bl s⟩
theorem Am2:UnS K (fun x H Q=>Lf K [x] H Q) Wf:=by
 intro Hf H x d o Q s r e n
 match d,r,e with
 | .list _,r,e =>
  obtain⟨c,f,rfl⟩:=Option.map_eq_some_iff.mp (show (boolsOf _).map _=some o from e)
  obtain⟨a,vs,rfl,b,t⟩:=Gy r
  exact⟨a,c,rfl,by rw[<- Sg f t];exact SqL.of b,n.bl s⟩
def A5r:PyData->Option O
 | .int i=>some (.im (.int i))
 | .bool b=>some (.im (.int (if b then 1 else 0)))
 | _=>none
theorem A9j:UnS K (fun x H Q=>Lq K [x] H Q) A5r:=by
 intro a H x d o Q s r e n
 match d,r,e with
 | .int i,r,e=>cases e;cases Dt r;exact .inl ⟨i,rfl,n.int s⟩
 | .bool b,r,e=>cases e;cases Pk r;exact .inr ⟨b,rfl,n.int s⟩
def Ap3:PyData->Option O
 | .int i=>some (.im (.int (if i<0 then -i else i)))
 | _=>none
theorem An5:UnS K (fun x H Q=>Nj K [x] H Q) Ap3:=by
 intro a H x d o Q s r e n
 match d,r,e with
 | .int i,r,e=>cases e;cases Dt r;exact⟨i,rfl,n.int s⟩
def Bb5:PyData->Option O
 | .int i=>some (.im (.int (-i)))
 | _=>none
theorem A7n:UnS K (rU fun i=>.int (-i)) Bb5:=by
 intro a H x d o Q s r e n
 match d,r,e with
 | .int i,r,e=>cases e;cases Dt r;exact⟨i,rfl,n.int s⟩
def Bq1 (K:PySem.W.Frag):List V->Hp->VK->Prop:=fun xs H Q=>(Te K xs H Q\/Za K xs H Q)\/Rf K xs H Q
def isSeq:PyData->Bool
 | .list _=>true
 | .tuple _=>true
 | _=>false
def Ap7:PyData->Option O
 | .int i=>if i.natAbs.log2<1920 then some (.im (.str (toString i))) else none
 | .none=>some (.im (.str "None"))
 | .bool b=>some (.im (.str (if b then Str.ofString "True" else Str.ofString "False")))
 | .str x=>some (.im (.str x))
 | d=>if isSeq d&&(d.showable&&(!d.hasDict&&(decide (d.depth<=40)&&decide (d.shown.length<=sizeLine)))) then some (.im (.str d.shown)) else none
theorem An7:UnS K (fun x H Q=>Bq1 K [x] H Q) Ap7:=by
 intro h H x d o Q s r e n
 have c:∀d,RdV h H d x->(isSeq d=true->∃a,x=.ref a)->(if isSeq d&&(d.showable&&(!d.hasDict&&(decide (d.depth<=40)&&decide (d.shown.length<=sizeLine)))) then some (O.im (.str d.shown)) else none)=some o->Bq1 K [x] H Q:=fun d r g e=>by
  split at e
  ·rename_i l
   simp  at l
   cases e
   obtain⟨a,rfl⟩:=g l.1;exact .inl (.inr ⟨a,d,rfl,r.tr s,l.2.1,l.2.2.1,l.2.2.2.1,l.2.2.2.2,n.str s⟩)
  ·cases e
 match d,r,e with
 | .int i,r,e =>
  have e:(if i.natAbs.log2<1920 then some _ else none)=some o:=e
  split at e
  ·rename_i l
   cases e;cases Dt r;exact .inl (.inl ⟨i,rfl,l,n.str s⟩)
  ·cases e
 | .list _,r,e=>exact c _ r (fun _=>by obtain⟨b,f,e,_⟩:=Gy r;exact⟨b,e⟩) e
 | .tuple _,r,e=>exact c _ r (fun _=>by obtain⟨b,f,e,_⟩:=Jf s r;exact⟨b,e⟩) e
 | .none,r,e=>cases e;cases Ol r;exact .inr ⟨_,_,rfl,rfl,n.str s⟩
 | .bool b,r,e=>cases e;cases Pk r;exact .inr ⟨_,_,rfl,rfl,n.str s⟩
 | .str z,r,e=>cases e;cases Gp r;exact .inr ⟨_,_,rfl,rfl,n.str s⟩
 | .dict _,r,e=>exact c _ r (fun z=>nomatch z) e
def Af5:PyData->PyData->Option O
 | .int i,.int j=>some (.im (.int (if j<i then j else i)))
 | _,_=>none
theorem A8q {c d:TE}  (ha:ME K c fa) (hb:ME K d fb):ME K (tCB (Lx K) (Cy c (Cy d Gx))) (cOp Af5 fa fb) :=
 Al  ha hb fun h H x y g f o Q s a b e n=>by
  match g,f,a,b,e with
  | .int i,.int j,a,b,e=>cases e;cases Dt a;cases Dt b;exact⟨i,j,rfl,n.int s⟩
def MO (K:PySem.W.Frag)(T:TO)(f:Ev->R (Option Int)):Prop:=∀(β:Nat->V) (W:Wo) (c:Ev) (σ:St) (Q:Option Int->Hp->Prop),Rep K β W c σ ->
 (f c).sat (fun b c'=>∀W',Stp W.S W.Hf W.H W'.S W'.Hf W'.H->Rep K β W' c' σ->Q b W'.H)->T σ W.H Q
def cON:Ev->R (Option Int):=fun c=>.ok none c
theorem A8k:MO K Yq cON:=fun b W c a Q R s=>s W Stp.refl R
def cOS (f:Ev->R PV):Ev->R (Option Int):=fun c=>(f c).bind fun p c=>match Ff c (nrm p) with
 | some (.int i)=>.ok (some i) c
 | _=>.bad
theorem Pu   (h:ME K t f):MO K (A2u t) (cOS f):=by
 intro g W c k Q R s
 refine h.toV _ W c _ _ R (s.bnd.mono fun p l a v j b d e=>?_)
 match ex:Ff _ _,a with
 | some (.int i),a=>exact⟨i,Dt (Ia d e ex),a _ b d⟩
 | some .none,a=>exact a.elim
 | some (.bool _),a=>exact a.elim
 | some (.str _),a=>exact a.elim
 | some (.list _),a=>exact a.elim
 | some (.tuple _),a=>exact a.elim
 | some (.dict _),a=>exact a.elim
 | none,a=>exact a.elim
def SlS (K:PySem.W.Frag)(r:V->Option Int->Option Int->Hp->VK->Prop)(op:PyData->Option Int->Option Int->Option O):Prop:=∀(Hf H:Hp) (x:V) (lo hi:Option Int) (d:PyData) (o:O) (Q:VK),Same Hf H->RdV Hf H d x->op d lo hi=some o->New K Hf H o Q->r x lo hi H Q
def cSl (op:PyData->Option Int->Option Int->Option O)(f:Ev->R PV)(fl fh:Ev->R (Option Int)):Ev->R PV:=fun c=>(f c).bind fun p c=>(fl c).bind fun lo c=>(fh c).bind fun hi c=>match Ff c (nrm p) with
 | some d=>match op d lo hi with
  | some o=>.ok (.o o) c
  | none=>.bad
 | none=>.bad
theorem A0h       (h:ME K j f) (hl:MO K l k) (u:MO K m n) (hr:SlS K r op):ME K (tSl r j l m) (cSl op f k n):=by
 intro P W c G Q R s
 refine h.toV _ W c _ _ R (s.bnd.mono fun p I D v N g w x=>?_)
 refine hl _ _ _ _ _ w (D.bnd.mono fun z F A J a B=>?_)
 refine u _ _ _ _ _ B (A.bnd.mono fun t y b H e i=>?_)
 cases ex:Ff y (nrm p) with
 | none=>simp only[ex]at b;trivial
 | some d =>
  simp only[ex]at b
  cases eo:op d z t with
  | none=>simp only[eo]at b;trivial
  | some o =>
   simp only[eo]at b
   exact hr _ _ v _ _ d o Q i.sub (Ia i (RepA.same (a.trans e).fz x) ex) eo (New.of i fun v L M C E q=>b v _ _ (g.trans (a.trans (e.trans C))) E q)
end
section
variable {K:PySem.W.Frag}{X:Cx}{Hf H:Hp}{Q:VK}{β:Nat->V}{W W':Wo}{c c':Ev}{σ:St}{v:V}
def rSL (K:PySem.W.Frag):V->Option Int->Option Int->Hp->VK->Prop:=fun x lo hi H Q=>(Bs3 K x lo hi H Q\/(Bv9 K x lo hi H Q\/Ba9 K x lo hi H Q))\/Bq8 x lo hi H Q
theorem Bf8:SlR X (rSL X.K):=SlR.or (SlR.or A9s (SlR.or Bn8 A6m)) Bf7
def Vj:PyData->Option Int->Option Int->Option O
 | .list ds,lo,hi=>some (.ls false (cutD ds lo hi))
 | .tuple ds,lo,hi=>some (.im (.tuple (cutD ds lo hi)))
 | .str z,lo,hi=>if z.length<=16000000 then some (.im (.str (Txt.slice z lo hi))) else none
 | _,_,_=>none
theorem Yw:SlS K (rSL K) Vj:=by
 intro Hf H x f c d o Q s r e n
 match d,r,e with
 | .list ds,r,e =>
  cases e
  obtain⟨a,b,rfl,g,t⟩:=Gy r
  exact .inl (.inl ⟨a,b,rfl,SqL.of g,fun p h=>n.lst s (TrL.cut t) h⟩)
 | .str z,r,e =>
  by_cases hz:z.length<=16000000
  ·rw[show Vj (.str z) f c=some (.im (.str (Txt.slice z f c))) by simp only[Vj];rw[if_pos hz]]at e
   cases e
   exact .inr ⟨z,r,Nat.le_trans hz (by decide),n.same s rfl⟩
  ·rw[show Vj (.str z) f c=none by simp only[Vj];rw[if_neg hz]]at e;cases e
 | .tuple ds,r,e =>
  cases e
  obtain⟨a,b,rfl,g,t⟩:=Jf s r
  by_cases w:HT.sIx b.length 0 f=0/\HT.sIx b.length b.length c=b.length
  ·refine .inl (.inr (.inr ⟨a,b,rfl,SqT.of g,w,?_⟩))
   have e:cutD ds f c=ds:=by
    unfold cutD;rw[t.length,w.1,w.2,List.drop_zero,Nat.sub_zero,<- t.length,List.take_length]
   rw[e]at n;exact n.same s r
  ·exact .inl (.inr (.inl ⟨a,b,rfl,SqT.of g,w,fun p h=>n.tup s (TrL.cut t) h⟩))
def Az (f:Ev->R PV):Ev->R Bool:=fun c=>(f c).bind fun p c=>match Ff c (nrm p) with
 | some (.bool b)=>.ok b c
 | _=>.bad
theorem Bg   (h:ME K t f):MT K (Ij t) (Az f):=by
 intro g W c k Q R s
 refine h.toV _ W c _ _ R (s.bnd.mono fun p l a v j b d e=>?_)
 match ex:Ff _ _,a with
 | some (.bool i),a=>exact⟨i,Pk (Ia d e ex),a _ b d⟩
 | some .none,a=>exact a.elim
 | some (.int _),a=>exact a.elim
 | some (.str _),a=>exact a.elim
 | some (.list _),a=>exact a.elim
 | some (.tuple _),a=>exact a.elim
 | some (.dict _),a=>exact a.elim
 | none,a=>exact a.elim
theorem M9   (h:ME K t f):MT K (tB t) (Az f):=Bg h
def Bv:Ev->R Bool:=fun c=>.ok true c
theorem Gv:MT K Be5 Bv:=fun b W c a Q R s=>s W Stp.refl R
def A8f (f g:Ev->R Bool):Ev->R Bool:=fun c=>(f c).bind fun b c=>if b=true then g c else .ok false c
def cOr (f g:Ev->R Bool):Ev->R Bool:=fun c=>(f c).bind fun b c=>if b=true then .ok true c else g c
def Ar8 (f:Ev->R Bool):Ev->R Bool:=fun c=>(f c).bind fun b c=>.ok (!b) c
theorem A0x   (h1:MT K t f) (h2:MT K u g):MT K (Bn9 t u) (A8f f g):=fun n W c p Q R s =>
 h1 _ W c _ _ R (s.bnd.mono fun b l h k a e=>by
  cases b with
  | true=>exact h2 _ _ _ _ _ e (h.mono fun b m j o d i=>j _ (a.trans d) i)
  | false=>exact h _ a e)
theorem Zr   (h1:MT K t f) (h2:MT K u g):MT K (tOr t u) (cOr f g):=fun n W c p Q R s =>
 h1 _ W c _ _ R (s.bnd.mono fun b l h k a e=>by
  cases b with
  | false=>exact h2 _ _ _ _ _ e (h.mono fun b m j o d i=>j _ (a.trans d) i)
  | true=>exact h _ a e)
theorem Yu   (h1:MT K t f):MT K (Be9 t) (Ar8 f):=fun h W c g Q R s =>
 h1 _ W c _ _ R (s.bnd.mono fun b j e i a d=>e _ a d)
theorem An0  {d:Wo}(R:Rep K β W c σ) (st:Stp d.S d.Hf d.H W.S W.Hf W.H) (s:∀v a e,Stp d.S d.Hf d.H (orS a.S e) a.Hf a.H->Rep K β a c σ->Ed K a σ (.o (.im (.bool b))) v e->Q v a.H):Q (.bl b) W.H :=
 R.here (o:=.im (.bool b))  rfl rfl fun v a e f g r=>s v _ _ (st.trans f) g r
def Su (f g:Ev->R PV):Ev->R PV:=fun c=>(Az f c).bind fun b c=>if b=true then g c else .ok (.o (.im (.bool false))) c
def A1u (f:Ev->R PV):Ev->R PV:=fun c=>(Az f c).bind fun b c=>.ok (.o (.im (.bool (!b)))) c
def Pq (ft:Ev->R Bool)(f g:Ev->R PV):Ev->R PV:=fun c=>(ft c).bind fun b c=>if b=true then f c else g c
theorem Tt {r:U.R PV}{b:Wo}(s:r.sat fun p c'=>∀v a d,Stp b.S b.Hf b.H (orS a.S d) a.Hf a.H->Rep K β a c' σ->Ed K a σ p v d->Q v a.H)(st:Stp b.S b.Hf b.H W.S W.Hf W.H) :
 r.sat fun p c'=>∀v a d,Stp W.S W.Hf W.H (orS a.S d) a.Hf a.H->Rep K β a c' σ->Ed K a σ p v d->Q v a.H:=s.mono fun p c k v a d e R r=>k v _ _ (st.trans e) R r
theorem O5   (h1:ME K h f) (h2:ME K e g):ME K (A4k h e) (Su f g):=by
 intro k W c j Q R s
 refine Bg h1 _ W c _ _ R (s.bnd.mono fun b m i l a d=>?_)
 cases b with
 | true=>exact h2 _ _ _ _ _ d (Tt i a)
 | false=>exact An0 d a i
theorem A7f   (h1:ME K d f):ME K (A1s d) (A1u f):=by
 intro k W c h Q R s
 exact Bg h1 _ W c _ _ R (s.bnd.mono fun b i g j a e=>An0 e a g)
theorem Af1     (ht:MT K i ft) (h1:ME K e f) (h2:ME K h g):ME K (tIf i e h) (Pq ft f g):=by
 intro l W c k Q R s
 refine ht _ W c _ _ R (s.bnd.mono fun b n j m a d=>?_)
 cases b with
 | true=>exact h1 _ _ _ _ _ d (Tt j a)
 | false=>exact h2 _ _ _ _ _ d (Tt j a)
def Cj (f:Ev->R PV):Ev->R (List PyData):=fun c=>(f c).bind fun p c=>(frz (nrm p) c).bind fun d c=>match d with
 | .list ds=>.ok ds c
 | .tuple ds=>.ok ds c
 | _=>.bad
theorem A8z    (ha:Hf a=some (.lst vs)) (t:TrL Hf ds vs):Az1 (Itl K a) Hf ds:=by
 intro i c H f g;have b:=g _ _ (f _ _ ha)
 refine⟨fun e=>⟨vs,SqL.of b,by rw[<- t.length];omega⟩,fun d j=>?_⟩
 obtain⟨v,h,k⟩:=t.got j
 refine⟨⟨vs,v,SqL.of b,h⟩,fun x l ⟨e,q⟩=>?_⟩
 subst e;have:=q _ (SqL.of b);rw[h]at this
 cases this
 exact⟨c,Stp.refl,g,Tr.same f k⟩
theorem Bn5    (ha:Hf a=some (.tup vs)) (t:TrL Hf ds vs):Az1 (Itt K a) Hf ds:=by
 intro i c H f g;have b:=g _ _ (f _ _ ha)
 refine⟨fun e=>⟨vs,SqT.of b,by rw[<- t.length];omega⟩,fun d j=>?_⟩
 obtain⟨v,h,k⟩:=t.got j
 refine⟨⟨vs,v,SqT.of b,h⟩,fun x l ⟨e,q⟩=>?_⟩
 subst e;have:=q _ (SqT.of b);rw[h]at this
 cases this
 exact⟨c,Stp.refl,g,Tr.same f k⟩
theorem Fo   (h:ME K t f):MI K (Bi0 K t) (Cj f):=by
 intro w W c B k R s
 refine h.toV _ W c _ _ R (s.bnd.mono fun p A r v x l u q=>?_)
 obtain⟨d,y,z,_,b,o,i,m,e⟩:=Ig u q r.bnd;rw[<- o]
 match d,e,b with
 | .list _,e,b =>
  obtain⟨a,n,g,j,t⟩:=e;exact⟨a,g,.inl ⟨n,m.sub _ _ j,b _ _ (l.trans i) m (A8z j t)⟩⟩
 | .tuple _,e,b =>
  obtain⟨a,n,g,j,t⟩:=e;exact⟨a,g,.inr ⟨n,m.sub _ _ j,b _ _ (l.trans i) m (Bn5 j t)⟩⟩
 | .none,e,b=>exact b.elim
 | .bool _,e,b=>exact b.elim
 | .int _,e,b=>exact b.elim
 | .str _,e,b=>exact b.elim
 | .dict _,e,b=>trivial
def Il (lo:Int)(n:Nat):List PyData:=(List.range n).map fun k=>.int (lo+(k:Nat))
theorem Bn7   : Az1 (Itr lo n) Hf (Il lo n):=by
 intro i b H g f
 have l:(Il lo n).length=n:=by unfold Il;simp_all
 refine⟨fun e=>by show n<=i;omega,fun d a=>?_⟩
 have c:i<n:=by
  grind
 refine⟨c,fun x h ⟨e,q⟩=>?_⟩
 subst e;unfold Il at a;rw[List.getElem?_map,List.getElem?_range c]at a
 cases a
 exact⟨b,Stp.refl,f,q⟩
def Jv (f:Ev->R PV):Ev->R (List PyData):=fun c=>(f c).bind fun p c=>match Ff c (nrm p) with
 | some (.int j)=>if j<=16000000/\-16000000<=j then .ok (Il 0 j.toNat) c else .bad
 | _=>.bad
theorem J5   (h:ME K t f):MI K (A4f (Cy t Gx)) (Jv f):=by
 intro g W c m k R s
 refine h.toV _ W c _ _ R (s.bnd.mono fun p n a v i b d e=>?_)
 match ex:Ff _ _,a with
 | some (.int j),a =>
  cases Dt (Ia d e ex)
  by_cases l:j<=16000000/\-16000000<=j
  ·have a:(if j<=16000000/\-16000000<=j then U.R.ok _ _ else .bad).sat _:=a
   rw[if_pos l]at a
   exact⟨j,rfl,by omega,by omega,a _ _ b d Bn7⟩
  ·have a:(if j<=16000000/\-16000000<=j then U.R.ok _ _ else .bad).sat _:=a
   rw[if_neg l]at a;trivial
 | some .none,a=>exact a.elim
 | some (.bool _),a=>exact a.elim
 | some (.str _),a=>exact a.elim
 | some (.list _),a=>exact a.elim
 | some (.tuple _),a=>exact a.elim
 | some (.dict _),a=>exact a.elim
 | none,a=>exact a.elim
def W9 (d:Option PyData):Option Int:=match d with
 | some (.int i)=>some i
 | _=>none
theorem Yt   (h:W9 d=some i):d=some (.int i):=by
 unfold W9 at h
 grind
def Rp:PyData->Option (List PyData)
 | .list ds=>some ds
 | .tuple ds=>some ds
 | _=>none
theorem Ac9    (h:Rp d=some ds) (t:Tr Hf d v):∃b a c,v=.ref a/\SqK b Hf a c/\TrL Hf ds c:=by
 cases d with
 | list l=>cases h;obtain⟨a,c,e,f,t⟩:=t;exact⟨false,a,c,e,f,t⟩
 | tuple l=>cases h;obtain⟨a,c,e,f,t⟩:=t;exact⟨true,a,c,e,f,t⟩
 | none=>cases h
 | bool _=>cases h
 | int _=>cases h
 | str _=>cases h
 | dict _=>cases h
theorem Hz    {c:Hp}(S:Same Hf c) (h:SqK b Hf a vs):SqK b c a vs:=by
 cases b
 ·exact S _ _ h
 ·exact S _ _ h
def Ho (xs ys:List PyData):List PyData:=(xs.zip ys).map fun p=>.tuple [p.1,p.2]
theorem Bf4     (ha:SqK t1 Hf a vs) (hb:SqK t2 Hf b us) (t:TrL Hf xs vs) (u:TrL Hf ys us):Az1 (Itz t1 t2 a b) Hf (Ho xs ys):=by
 intro i B H j f;have m:=Hz (j.trans f) ha;have k:=Hz (j.trans f) hb
 have l:(Ho xs ys).length=min xs.length ys.length:=by unfold Ho;simp_all
 refine⟨fun e=>⟨vs,us,m,k,by rw[<- t.length,<- u.length,e];omega⟩,fun d x=>?_⟩
 obtain⟨p,n,e⟩:=Mf x;rw[List.getElem?_zip_eq_some]at n;obtain⟨h,r,v⟩:=t.got n.1;obtain⟨c,s,w⟩:=u.got n.2
 refine⟨⟨vs,us,h,c,m,k,r,s⟩,fun z H' y=>?_⟩
 obtain⟨p,x',y',rfl,g,rfl,A,C⟩:=y;have:=A _ m;rw[r]at this;cases this;have:=C _ k;rw[s]at this;cases this;subst e;have q:=Cu (o:=.tup [h,c]) (Same.free f g);exact⟨upd _ p _,Stp.newF f g,N8 f,p,[h,c],rfl,Be,h,[c],rfl,Tr.same q (Tr.same j v),c,[],rfl,Tr.same q (Tr.same j w),rfl⟩
def Qu (f g:Ev->R PV):Ev->R (List PyData):=fun c=>(f c).bind fun p c=>(g c).bind fun q c=>(frz (nrm p) c).bind fun x c=>(frz (nrm q) c).bind fun y c=>match Rp x,Rp y with
 | some xs,some ys=>.ok (Ho xs ys) c
 | _,_=>.bad
theorem Ah2   (h:ME K t f) (h':ME K u g):MI K (Be6 (Cy t (Cy u Gx))) (Qu f g):=by
 intro β W c σ k R s
 refine h.toV _ W c _ _ R (s.bnd.mono fun p c1 G v1 W1 l P v=>?_)
 refine h'.toV _ _ _ _ _ P (G.bnd.mono fun q c2 w v2 W2 i A B=>?_)
 obtain⟨x,c3,W3,_,C,D,e,E,F⟩:=Ig A (RepA.same i.fz v) w.bnd;obtain⟨y,c4,W4,_,j,r,d,m,I⟩:=Ig E (RepA.same e.fz B) C.bnd
 cases ex:Rp x with
 | none=>simp only[ex]at j;trivial
 | some xs =>
  cases ey:Rp y with
  | none=>simp only[ex,ey]at j;trivial
  | some ys =>
   simp only[ex,ey]at j;obtain⟨J,a,L,rfl,H,N⟩:=Ac9 ex F;obtain⟨M,b,O,rfl,n,o⟩:=Ac9 ey I;rw[<- D,<- r];have z:=Hz d.fz H;exact⟨a,b,rfl,J,M,L,O,Hz m.sub z,Hz m.sub n,j _ _ (l.trans (i.trans (e.trans d))) m (Bf4 z n (TrL.same d.fz N) o)⟩
def Ui (xs:List PyData):List PyData:=(List.range xs.length).map fun k=>.tuple [.int (k:Nat),xs.getD k .none]
theorem A8j     (ha:SqK t Hf a vs) (u:TrL Hf xs vs):Az1 (Ite t a) Hf (Ui xs):=by
 intro i v H j f;have h:=Hz (j.trans f) ha
 have l:(Ui xs).length=xs.length:=by unfold Ui;simp_all
 refine⟨fun e=>⟨vs,h,by rw[<- u.length];omega⟩,fun d g=>?_⟩
 have n:i<xs.length:=by
  grind
 unfold Ui at g;rw[List.getElem?_map,List.getElem?_range n]at g
 cases g
 have q:xs[i]?=some (xs.getD i .none):=by grind
 obtain⟨b,k,r⟩:=u.got q
 refine⟨⟨vs,b,h,k⟩,fun z H' s=>?_⟩
 obtain⟨p,x',rfl,c,rfl,m⟩:=s;have:=m _ h;rw[k]at this;cases this;exact⟨upd _ p _,Stp.newF f c,N8 f,p,[.int i,b],rfl,Be,.int i,[b],rfl,rfl,b,[],rfl,Tr.same (Cu (o:=.tup [.int i,b]) (Same.free f c)) (Tr.same j r),rfl⟩
def Am5 (f:Ev->R PV):Ev->R (List PyData):=fun c=>(f c).bind fun p c=>(frz (nrm p) c).bind fun x c=>match Rp x with
 | some xs=>.ok (Ui xs) c
 | _=>.bad
theorem A9i   (h:ME K t f):MI K (A0v (Cy t Gx)) (Am5 f):=by
 intro β W c σ k R s
 refine h.toV _ W c _ _ R (s.bnd.mono fun p c1 u v1 W1 e n q=>?_)
 obtain⟨x,c3,W3,_,b,l,d,g,o⟩:=Ig n q u.bnd
 cases ex:Rp x with
 | none=>simp only[ex]at b;trivial
 | some xs =>
  simp only[ex]at b;obtain⟨m,a,r,rfl,i,j⟩:=Ac9 ex o;rw[<- l];exact⟨a,rfl,m,r,Hz g.sub i,b _ _ (e.trans d) g (A8j i j)⟩
end
section
variable {K:PySem.W.Frag}{X:Cx}{Hf H:Hp}{Q:VK}{β:Nat->V}{W W':Wo}{c c':Ev}{σ:St}{v:V}{p:PV}{fp:List Addr}{i:Nat}{b:Bool}{ds ds':List PyData}
theorem Bk5 (R:Rep K β W c σ)(r:Ed K W σ p v fp):∃W',W'.H=W.H/\Stp (orS W.S fp) W.Hf W.H W'.S W'.Hf W'.H/\Rep K β W' c σ/\RepA K W'.Hf σ (nrm p) v:=by
 have f:Stp (orS W.S fp) W.Hf W.H _ _ _:=Stp.refl.up fun a z=>.inl z
 cases p with
 | sl i=>exact⟨W,rfl,f,R,r.2⟩
 | o o =>
  cases o with
  | im d=>exact⟨W,rfl,f,R,r.1.2⟩
  | sc d=>exact⟨W,rfl,f,R,r.1.2⟩
  | ty d=>exact⟨W,rfl,f,R,r.1.2⟩
  | ls b ds =>
   obtain⟨⟨a,h,rfl,rfl,g,j,t⟩,l⟩:=r
   refine⟨⟨upd _ a _,W.H,W.fps⟩,rfl,⟨Cu g,fun b o e _=>e,fun b o e mu n q=>?_,fun b z=>.inl (.inl z)⟩,Yn R g j (l a (.head _)),a,h,rfl,Be,TrL.same (Cu g) t⟩
   have k:b≠a:=fun z=>n (.inr (by grind))
   show upd _ a _ b=none
   rw[Ao k];grind
theorem Rep.mut (R:Rep K β W c σ)(hc:c[i]?=some (some (.ls b ds)))(hv:σ[i]?=some (some v)):∃a h,v=.ref a/\W.H a=some (.lst h)/\TrL W.Hf ds h /\
 ∀f d,TrL W.Hf f d->Rep K β ⟨W.Hf,upd W.H a (.lst d),W.fps⟩ (c.set i (some (.ls b f))) σ/\Stp W.S W.Hf W.H W.S W.Hf (upd W.H a (.lst d)):=by
 obtain⟨m,p,⟨a,h,rfl,w,A,H,t⟩,B⟩:=R.get i _ hc
 cases (show some _=some _ from p.symm.trans hv)
 have D:i<c.length:=by
  grind
 have s:a∈W.fps i:=by rw[w];exact .head _
 refine⟨a,h,rfl,H,t,fun f d F=>⟨⟨fun b u e=>?_,by rw[List.length_set];exact R.len,fun j o e=>?_,R.dis,fun j x g=>?_⟩,⟨Same.refl _,fun x o e n=>?_,fun x o e r n q=>q,fun x z=>.inl z⟩⟩⟩
 ·have E:b≠a:=fun z=>by rw[z,A]at e;cases e
  show upd _ a _ b=_
  rw[Ao E];exact R.sub b u e
 ·by_cases z:j=i
  ·subst z
   rw[List.getElem?_set_self D]at e
   cases e
   exact⟨.ref a,p,⟨a,d,rfl,w,A,Be,F⟩,B⟩
  ·rw[List.getElem?_set_ne fun y=>z y.symm]at e
   obtain⟨m,k,G,l⟩:=R.get j o e
   refine⟨m,k,G.mono (Same.refl _) fun x g=>⟨(R.own j x g).1,?_⟩,l⟩
   show upd _ a _ x=_
   rw[Ao];intro q;rw[q]at g;exact z (R.dis j i a g s)
 ·obtain⟨I,o,C,r⟩:=R.own j x g
  refine⟨I,?_⟩
  by_cases z:x=a
  ·exact⟨.lst _,by rw[z];exact Be,trivial⟩
  ·exact⟨o,by show upd _ a _ x=_;rw[Ao z];exact C,r⟩
 ·rw[Ao]
  ·exact e
  ·intro z;exact n ⟨i,by rw[z];exact s⟩
def slL (c:Ev)(p:PV):Option (Nat×Bool×List PyData):=match p with
 | .sl i=>match c[i]? with
  | some (some (.ls b ds))=>some (i,b,ds)
  | _=>none
 | _=>none
theorem T3  (h:slL c p=some x):p=.sl x.1/\c[x.1]?=some (some (.ls x.2.1 x.2.2)):=by
 unfold slL at h
 grind
def Qv (fo fe:Ev->R PV):Ev->R PV:=fun c=>(fo c).bind fun p c=>if (slL c (nrm p)).isSome=true then (fe c).bind fun q c=>(frz (nrm q) c).bind fun d c=>match slL c (nrm p) with
 | some (i,b,ds)=>if ds.length<16000000 then .ok (.o (.im .none)) (c.set i (some (.ls b (ds++[d])))) else .bad
 | none=>.bad
 else .bad
theorem Zb {b:Wo}(R:Rep K β W c σ)(st:Stp b.S b.Hf b.H W.S W.Hf W.H)(s:∀v a d,Stp b.S b.Hf b.H (orS a.S d) a.Hf a.H->Rep K β a c σ->Ed K a σ (.o (.im .none)) v d->Q v a.H):Q .non W.H :=
 R.here (o:=.im .none)  rfl rfl fun v a d e f r=>s v _ _ (st.trans e) f r
theorem ty_list (R:Rep K β W c σ)(h:(slL c p).isSome=true)(r:RepA K W.Hf σ p v):tyV K "list" v W.H:=by
 obtain⟨x,d⟩:=Option.isSome_iff_exists.mp h;obtain⟨rfl,e⟩:=T3 d;obtain⟨a,f,rfl,b,_⟩:=R.mut e r;exact .inl ⟨rfl,f,SqL.of b⟩
theorem Ud  {v fe:Ev->R PV}(ho:ME K u v) (he:ME K o fe):ME K (tBM K "list" rAppF u (Cy o Gx)) (Qv v fe):=by
 intro β W c σ Q R s
 refine ho.toV _ W c _ _ R (s.bnd.mono fun p y f v1 W1 h r j=>?_)
 by_cases hs:(slL y (nrm p)).isSome=true
 ·rw[if_pos hs]at f
  refine⟨ty_list r hs j,he.toV _ _ _ _ _ r (f.bnd.mono fun q c2 D H W2 m z w=>?_)⟩
  obtain⟨d,A,W3,_,e,C,n,E,F⟩:=Ig z w D.bnd
  cases ex:slL A (nrm p) with
  | none=>simp only[ex]at e;exact e.elim
  | some x =>
   simp only[ex]at e;obtain⟨i,b,G⟩:=x;obtain⟨B,I⟩:=T3 ex;rw[B]at j;obtain⟨a,J,rfl,L,t,k⟩:=E.mut I j
   by_cases l:G.length<16000000
   ·rw[if_pos l]at e
    obtain⟨M,g⟩:=k _ _ (t.app (TrL.one F));rw[<- C]
    refine⟨a,H,J,rfl,rfl,L,by rw[<- t.length];exact Nat.lt_trans l (by decide),?_⟩
    exact Zb M (h.trans (m.trans (n.trans g))) e
   ·rw[if_neg l]at e;exact e.elim
 ·rw[if_neg hs]at f;exact f.elim
def S8 (fo fe:Ev->R PV):Ev->R PV:=fun c=>(fo c).bind fun p c=>if (slL c (nrm p)).isSome=true then (fe c).bind fun q c=>match slL c (nrm p),W9 (Ff c (nrm q)) with
 | some (i,b,ds),some k=>if ds.length<=16000000 then match ixN ds.length k with
  | some j=>match ds[j]? with
   | some d=>.ok (.o (.im d)) (c.set i (some (.ls b (ds.eraseIdx j))))
   | none=>.bad
  | none=>.bad
  else .bad
 | _,_=>.bad
 else .bad
theorem TrL.erase:∀{ds:List PyData}{vs:List V}(n:Nat),TrL Hf ds vs->TrL Hf (ds.eraseIdx n) (vs.eraseIdx n)
 | [],_,n,h=>by cases (show _=[] from h);exact rfl
 | d::ds,_,0,⟨v,r,rfl,_,t⟩=>t
 | d::ds,_,n+1,⟨v,r,rfl,q,t⟩=>⟨v,r.eraseIdx n,rfl,q,TrL.erase n t⟩
theorem TrL.setAt:∀{ds:List PyData}{vs:List V}(n:Nat) {d:PyData}{v:V},TrL Hf ds vs->Tr Hf d v->TrL Hf (ds.set n d) (vs.set n v)
 | [],_,n,d,v,h,_=>by cases (show _=[] from h);exact rfl
 | e::ds,_,0,d,v,⟨u,r,rfl,_,t⟩,q=>⟨v,r,rfl,q,t⟩
 | e::ds,_,n+1,d,v,⟨u,r,rfl,h,t⟩,q=>⟨u,r.set n v,rfl,h,TrL.setAt n t q⟩
theorem A2m   (ho:ME K z G) (he:ME K F fe):ME K (tBM K "list" rPopAt z (Cy F Gx)) (S8 G fe):=by
 intro B W c H Q R s
 refine ho.toV B W c H _ R (s.bnd.mono fun p O g v1 W1 n A w=>?_)
 by_cases hs:(slL O (nrm p)).isSome=true
 ·rw[if_pos hs]at g
  refine⟨ty_list A hs w,he.toV B _ _ _ _ A (g.bnd.mono fun q D e v2 W2 h E I=>?_)⟩
  cases ex:slL D (nrm p) with
  | none=>simp only[ex]at e;exact e.elim
  | some x =>
   obtain⟨i,b,l⟩:=x
   cases ey:W9 (Ff D (nrm q)) with
   | none=>simp only[ex,ey]at e;exact e.elim
   | some k =>
    simp only[ex,ey]at e
    by_cases hl:l.length<=16000000
    case neg=>rw[if_neg hl]at e;exact e.elim
    rw[if_pos hl]at e
    cases ej:ixN l.length k with
    | none=>simp only[ej]at e;exact e.elim
    | some j =>
     simp only[ej]at e
     cases ed:l[j]? with
     | none=>simp only[ed]at e;exact e.elim
     | some d =>
      simp only[ed]at e;obtain⟨L,N⟩:=T3 ex;rw[L]at w
      cases Dt (Ia E I (Yt ey))
      obtain⟨a,C,rfl,P,t,S⟩:=E.mut N w;obtain⟨y,M,U⟩:=t.got ed;obtain⟨T,q2,q3,q4⟩:=Wn ej;obtain⟨V,m⟩:=S _ _ (TrL.erase j t)
      have u:seqIndex? k C.length=some j:=by rw[<- t.length];exact T
      have f:-2 ^ 63<=k/\k<2 ^ 63:=by omega
      refine⟨a,C,k,j,y,rfl,rfl,P,f.1,f.2,u,M,?_⟩
      exact V.here (o:=.im d)  U rfl fun v W' fp X J r=>e v _ _ (n.trans (h.trans (m.trans X))) J r
 ·rw[if_neg hs]at g;exact g.elim
def A6o (fo fe:Ev->R PV):Ev->R PV:=fun c=>(fo c).bind fun p c=>if (slL c (nrm p)).isSome=true then (fe c).bind fun q c=>(frz (nrm q) c).bind fun d c=>match slL c (nrm p),d with
 | some (i,b,ds),.list es=>if ds.length+es.length<=16000000 then .ok (.o (.im .none)) (c.set i (some (.ls b (ds++es)))) else .bad
 | _,_=>.bad
 else .bad
theorem Bk1 {to te:TE}{fo fe:Ev->R PV}(ho:ME K to fo)(he:ME K te fe):ME K (tBM K "list" rExtend to (Cy te Gx)) (A6o fo fe):=by
 intro β W c σ Q R s
 refine ho.toV β W c σ _ R (s.bnd.mono fun p c1 s1 v1 W1 st1 R1 r1=>?_)
 by_cases hs:(slL c1 (nrm p)).isSome=true
 ·rw[if_pos hs]at s1
  refine⟨ty_list R1 hs r1,he.toV β W1 c1 σ _ R1 (s1.bnd.mono fun q c2 s2 v2 W2 st2 R2 r2=>?_)⟩
  obtain⟨d,c3,W3,_,s3,e3,st3,R3,t3⟩:=Ig R2 r2 s2.bnd
  cases ex:slL c3 (nrm p) with
  | none=>simp only[ex]at s3;exact s3.elim
  | some x =>
   obtain⟨i,b,ds⟩:=x;simp only[ex]at s3
   match d,t3,s3 with
   | .list es,t3,s3 =>
    obtain⟨ep,hc⟩:=T3 ex;rw[ep]at r1;obtain⟨a,vs,rfl,hH,t,k⟩:=R3.mut hc r1
    have s3:(if ds.length+es.length<=16000000 then U.R.ok (PV.o (.im .none)) (c3.set i (some (.ls b (ds++es)))) else .bad).sat _:=s3
    by_cases l:ds.length+es.length<=16000000
    ·rw[if_pos l]at s3
     obtain⟨b2,us,rfl,h2,t2⟩:=t3;obtain⟨R4,st4⟩:=k (ds++es) (vs++us) (t.app t2);rw[<- e3]
     refine⟨a,b2,vs,us,rfl,rfl,hH,R3.sub _ _ h2,by rw[<- t.length,<- t2.length];exact lim l,?_⟩
     exact Zb R4 (st1.trans (st2.trans (st3.trans st4))) s3
    ·rw[if_neg l]at s3;exact s3.elim
   | .none,t3,s3=>exact s3.elim
   | .bool _,t3,s3=>exact s3.elim
   | .int _,t3,s3=>exact s3.elim
   | .str _,t3,s3=>exact s3.elim
   | .tuple _,t3,s3=>exact s3.elim
   | .dict _,t3,s3=>exact s3.elim
 ·rw[if_neg hs]at s1;exact s1.elim
def Ak5 (fo fi:Ev->R PV):PV->Ev->R Unit:=fun p c=>(frz (nrm p) c).bind fun d c=>(fo c).bind fun o c=>(fi c).bind fun q c=>match slL c (nrm o),W9 (Ff c (nrm q)) with
 | some (i,b,ds),some k=>match ixN ds.length k with
  | some j=>.ok () (c.set i (some (.ls b (ds.set j d))))
  | none=>.bad
 | _,_=>.bad
theorem A1r   (ho:ME K u A) (hi:ME K z fi):MG K (Bc2 u z Ba0) (Ak5 A fi):=by
 intro β W c σ p v fp k R r s;obtain⟨W0,M,l,C,F⟩:=Bk5 R r;obtain⟨d,c1,W1,_,D,E,n,G,I⟩:=Ig C F s.bnd;rw[<- M,<- E]
 refine ho.toV _ _ _ _ _ G (D.bnd.mono fun o c2 J v2 W2 g L w=>?_)
 refine hi.toV _ _ _ _ _ L (J.bnd.mono fun q y e v3 W3 f B N=>?_)
 cases ex:slL y (nrm o) with
 | none=>simp only[ex]at e;exact e.elim
 | some x =>
  obtain⟨i,b,O⟩:=x
  cases ey:W9 (Ff y (nrm q)) with
  | none=>simp only[ex,ey]at e;exact e.elim
  | some m =>
   simp only[ex,ey]at e
   cases ej:ixN O.length m with
   | none=>simp only[ej]at e;exact e.elim
   | some j =>
    simp only[ej]at e;obtain⟨H,Q⟩:=T3 ex;rw[H]at w
    cases Dt (Ia B N (Yt ey))
    obtain⟨a,S,rfl,P,t,T⟩:=B.mut Q w;obtain⟨U,h⟩:=T _ _ (TrL.setAt j t (Tr.same (g.trans f).fz I))
    refine⟨a,S,m,j,rfl,rfl,P,by rw[<- t.length];exact ej,?_⟩
    exact e _ _ (l.trans (n.trans (g.trans (f.trans h)))) U
def Bm5 (i j:Nat)(f:Ev->R (List PV)):Ev->SR:=fun c=>(f c).toS fun ps c=>(frzs ps c).toS fun ds c=>match ds with
 | [x,y]=>.nx ((c.set i (some (.im x))).set j (some (.im y)))
 | _=>.bad
theorem A4x    (h:Wo.S ⟨W.Hf,W.H,clr W.fps i⟩ a):W.S a:=Bl6 h
theorem Bm6    (h:MA K m f):MS K (Bi9 i j m) (Bm5 i j f):=by
 intro β W c σ D R l
 refine h _ W c _ _ R ((Er l).mono fun ps c1 C vs W1 k t w=>?_)
 obtain⟨A,c2,n,b,s,g,q,d⟩:=Od t w (Er C)
 match A,d,b with
 | [x,y],d,b =>
  obtain⟨v,r,rfl,B,u,r',rfl,E,e⟩:=d
  cases (e)
  refine⟨v,u,rfl,?_⟩
  have p:=q.setN (i:=i) (o:=.im x) B rfl;rw[<- s]
  exact b _ ⟨n.Hf,n.H,clr _ j⟩ ((k.trans g).less fun a z=>A4x (A4x  z)) (p.setN (i:=j) (o:=.im y)  E rfl)
 | [],d,b=>trivial
 | [_],d,b=>trivial
 | _::_::_::_,d,b=>exact b.elim
def A0l (i j m:Nat)(f:Ev->R (List PV)):Ev->SR:=fun c=>(f c).toS fun ps c=>(frzs ps c).toS fun ds c=>match ds with
 | [x,y,z]=>.nx (((c.set i (some (.im x))).set j (some (.im y))).set m (some (.im z)))
 | _=>.bad
theorem A6u {i j m:Nat}{n:TA}{f:Ev->R (List PV)}(h:MA K n f):MS K (A1f i j m n) (A0l i j m f):=by
 intro β W c σ D R l
 refine h _ W c _ _ R ((Er l).mono fun ps c1 s vs W1 k t A=>?_)
 obtain⟨B,c2,p,b,C,g,E,d⟩:=Od t A (Er s)
 match B,d,b with
 | [x,y,z],d,b =>
  obtain⟨v,r,rfl,G,u,r',rfl,F,w,H,rfl,I,e⟩:=d
  cases (e)
  refine⟨v,u,w,rfl,?_⟩
  have q:=(E.setN (i:=i) (o:=.im x) G rfl).setN (i:=j) (o:=.im y)  F rfl;rw[<- C]
  exact b _ ⟨p.Hf,p.H,clr _ m⟩ ((k.trans g).less fun a z=>A4x (A4x  (A4x  z))) (q.setN (i:=m) (o:=.im z)  I rfl)
 | [],d,b=>trivial
 | [_],d,b=>trivial
 | [_,_],d,b=>trivial
 | _::_::_::_::_,d,b=>exact b.elim
end
end U
set_option autoImplicit true
namespace L2
open PySem U
theorem Dk (ha:QE X a ta)(hb:QE X b tb):QE X (.BinOp a .Add b pos) (tOp Bg5 ta tb):=⟨V9 Bi5 ha.get hb.get⟩
theorem Wk (hu:X.A.units+64<cLine)(ha:QE X a ta)(hb:QE X b tb):QE X (.Compare a [.Eq] [b] pos) (tOp rEQ ta tb):=⟨Ov (Ba1 hu) ha.get hb.get (Jm _)⟩
theorem Lr (hu:X.A.units+64<cLine)(ha:QE X a ta)(hb:QE X b tb):QT X (.Compare a [.Eq] [b] pos) (Ij (tOp rEQ ta tb)):=⟨Iu (Ba1 hu) ha.get hb.get (Jm _)⟩
theorem Br1 (hu:X.A.units+64<cLine)(ha:QE X a ta)(hb:QE X b tb):QE X (.Compare a [.NotEq] [b] pos) (tOp rNE ta tb):=⟨Ov (Ba3 hu) ha.get hb.get (Jm _)⟩
theorem Z6 (hu:X.A.units+64<cLine)(ha:QE X a ta)(hb:QE X b tb):QT X (.Compare a [.NotEq] [b] pos) (Ij (tOp rNE ta tb)):=⟨Iu (Ba3 hu) ha.get hb.get (Jm _)⟩
theorem K6  (a:X.K=Kq) (hgl:Gl X "len") (hm:X.mg "len" = none) (ha:QA X (e::es) t) (hns:noStar (e::es)=true:=by rfl):QE X (.Call (.Name "len" p) (e::es) [] pos) (tCB (A9r Kq) t):=by
 subst a
 exact⟨Ex A5t hgl hm Be4 ha.get (by decide) (by rfl) hns⟩
theorem A2q  (a:X.K=Kq) (hu:X.A.units+64<cLine) (hg:X.A.guards=some []) (hgl:Gl X "str") (hm:X.mg "str" = none) (ha:QA X (e::es) t) (hns:noStar (e::es)=true:=by rfl):QE X (.Call (.Name "str" p) (e::es) [] pos) (tCB (Bq1 Kq) t):=by
 exact⟨Ni (U.CallR.or (U.CallR.or Xa (Aq5 hu hg)) Au3) hgl hm S9 ha.get (by decide) (by rfl) hns⟩
theorem Az3  (a:X.K=Kq) (he:QE X e te) (hl:QO X low tl) (hu:QO X hi th):QE X (.Subscript e (.Slice low hi none p2) pos) (tSl (rSL Kq) te tl th):=by
 subst a;exact A3l Bf8 he hl hu
end L2
namespace U
open PySem L2
def Def (P:Program)(w:World)(K:PySem.W.Frag)(mg:Str->Option Value)(base:Heap)(x:Str)(k:Nat)(ps:List Str)(sp:Sp):Prop :=
 ∃(f:Addr) (fd:FuncData),FnOk P w K mg base CX0 k f fd ps sp/\Binds K fd ps []/\PySem.W.keepIn K (.ref f)=true/\mg x=some (.ref f)
def Ap1 (K:PySem.W.Frag):Sp:=fun vs H Q _=>∃(a:Addr) (ns:List Int),vs=[.ref a]/\SqL K H a (ns.map V.int)/\ns.length<=63/\∀H',Q (.bl true) H'
theorem Bd9   (f:∀b:List Int,b.length<=63->F [.sc b]=.ret (.im (.bool true)) [.sc b])     (h:Ap1 K vs H Q E):spP K F vs H Q E:=by
 obtain⟨a,b,rfl,c,d,q⟩:=h
 refine⟨fun _=>.non,⟨H,H,fun _=>[]⟩,[.sc b],rfl,rfl,⟨Same.refl _,rfl,fun i o e=>?_,fun i j a h=>by grind,fun i a h=>by grind⟩,?_⟩
 ·cases i with
  | zero =>
   cases (show some _=some _ from e)
   exact⟨.ref a,rfl,⟨rfl,a,rfl,c⟩,fun z=>nomatch z⟩
  | succ i=>grind
 ·rw[f _ d]
  intro v W' fp st R r n
  cases (show v=.bl _ from r.2)
  grind
theorem A4o          : FnOk P w K mg base CX0 n f c ps (spP K fun _=>.bad) :=
 ⟨fun d H Q E h=>by obtain⟨_,_,_,_,_,_,h⟩:=h;simp_all,fun A a s H b e d Q E _ _ _ _ h=>by obtain⟨_,_,_,_,_,_,h⟩:=h;simp_all⟩
def Al8 (i j:Int):Bool:=decide (0<j)&&decide (j<1073741824)
theorem A4g (i j:Int)(h:Al8 i j=true):A2t i j:=by
 obtain⟨b,a⟩:=Bool.and_eq_true_iff.mp h;exact⟨of_decide_eq_true b,of_decide_eq_true a⟩
def A3b (i j:Int):Bool:=decide (0<j)
theorem A1j (i j:Int)(h:A3b i j=true):0<j:=of_decide_eq_true h
def Zw (i j:Int):Bool:=decide (0<=j)&&(decide (j<=1000000)&&decide (i.natAbs<2 ^ 64))
theorem A5p (i j:Int)(h:Zw i j=true):A0r i j:=by
 obtain⟨c,a⟩:=Bool.and_eq_true_iff.mp h;obtain⟨a,b⟩:=Bool.and_eq_true_iff.mp a;exact⟨of_decide_eq_true c,of_decide_eq_true a,of_decide_eq_true b⟩
section
variable {K:PySem.W.Frag}
abbrev M4:PyData->PyData->Option O:=Vf fun i j=>.int (i-j)
abbrev Bi6:PyData->PyData->Option O:=Vf fun i j=>.bool (decide (j<i))
abbrev Bn0:PyData->PyData->Option O:=Vf fun i j=>.bool (decide (j<=i))
theorem Ja:OpS K (rI0 fun i j=>.int (i-j)) M4:=Wu fun _ _ _=>rfl
theorem Bd5:OpS K (rI0 fun i j=>.bl (decide (j<i))) Bi6:=Wu fun _ _ _=>rfl
theorem Bo8:OpS K (rI0 fun i j=>.bl (decide (j<=i))) Bn0:=Wu fun _ _ _=>rfl
abbrev Xi:PyData->PyData->Option O:=opI Al8 fun i j=>i / j
abbrev Nz:PyData->PyData->Option O:=opI A3b fun i j=>i % j
abbrev Q0:PyData->PyData->Option O:=opI Zw fun i j=>i ^ j.toNat
theorem Ab1:OpS K (rI A2t fun i j=>.int (i / j)) Xi:=Am6 A4g
theorem Kh:OpS K (rI (fun _ j=>0<j) fun i j=>.int (i % j)) Nz:=Am6 A1j
theorem Mp:OpS K (rI A0r fun i j=>.int (i ^ j.toNat)) Q0:=Am6 A5p
def Bj0 (fa fb:Ev->R PV):Ev->R PV:=fun c=>(fa c).bind fun p c=>(fb c).bind fun q c=>match nrm p,W9 (Ff c (nrm q)) with
 | .o (.sc ns),some k=>match atI ns k with
  | some i=>.ok (.o (.im (.int i))) c
  | none=>.bad
 | _,_=>.bad
theorem A8r   (h:atI ns k=some i):atI (ns.map V.int) k=some (V.int i):=by
 unfold atI at h ⊢;obtain⟨j,b,a⟩:=Option.bind_eq_some_iff.mp h
 simp_all
theorem Bo0   (ha:ME K h fa) (hb:ME K j fb):ME K (tOp (rIx K) h j) (Bj0 fa fb):=by
 intro β W c σ Q R s
 refine ha.toV _ W c _ _ R (s.bnd.mono fun p c1 u v1 W1 f n d=>?_)
 refine hb.toV _ _ _ _ _ n (u.bnd.mono fun q t b v2 W2 e g m=>?_)
 have d:=RepA.same e.fz d
 cases ey:W9 (Ff t (nrm q)) with
 | none =>
  simp only[ey]at b;generalize nrm p=np at b
  cases np with
  | sl i=>trivial
  | o o=>cases o <;> exact b.elim
 | some k =>
  simp only[ey]at b;generalize nrm p=np at b d
  match np,d,b with
  | .o (.sc ns),d,b =>
   have b:(match atI ns k with
    | some i=>U.R.ok _ _
    | none=>.bad).sat _:=b
   cases ei:atI _ k with
   | none=>rw[ei]at b;trivial
   | some i =>
    rw[ei]at b;obtain⟨a,rfl,w⟩:=d
    cases Dt (Ia g m (Yt ey))
    exact .inl ⟨a,_,k,.int i,rfl,rfl,Same.seq g.sub w,A8r ei,g.here (o:=.im (.int i))  rfl rfl fun v W' fp x l r=>b v _ _ (f.trans (e.trans x)) l r⟩
  | .o (.im _),d,b=>exact b.elim
  | .o (.ls _ _),d,b=>exact b.elim
  | .o (.ty _),d,b=>exact b.elim
  | .sl _,d,b=>trivial
end
section
variable {P:Program}{w:World}{K:PySem.W.Frag}{X:Cx}{Hf H:Hp}{Q:VK}{β:Nat->V}{W W':Wo}{c c':Ev}{σ:St}{v:V}
def cMt (isT:PyData->Bool)(op:PyData->PyData->Option O)(fa fb:Ev->R PV):Ev->R PV:=fun c=>(fa c).bind fun p c=>match Ff c (nrm p) with
 | some d=>if isT d=true then (fb c).bind fun q c=>match Ff c (nrm p),Ff c (nrm q) with
  | some x,some y=>match op x y with
   | some o=>.ok (.o o) c
   | none=>.bad
  | _,_=>.bad
  else .bad
 | none=>.bad
theorem A9w       (ha:ME K l fa) (hb:ME K m fb)
 (n:∀(Hf H:Hp) (d:PyData) (v:V),a d=true->Same Hf H->RdV Hf H d v->tyV K T v H) (hr:OpS K (fun x y H Q=>r x [y] H Q) op):ME K (tBM K T r l (Cy m Gx)) (cMt a op fa fb):=by
 intro E W c C Q R s
 refine ha.toV _ W c _ _ R (s.bnd.mono fun p w e B D i h j=>?_)
 cases ed:Ff w (nrm p) with
 | none=>simp only[ed]at e;trivial
 | some d =>
  simp only[ed]at e
  by_cases it:a d=true
  case neg=>rw[if_neg it]at e;trivial
  rw[if_pos it]at e
  refine⟨n _ _ d _ it h.sub (Ia h j ed),?_⟩
  refine hb.toV _ _ _ _ _ h (e.bnd.mono fun q k b I J f g u=>?_)
  cases ex:Ff k (nrm p) with
  | none=>simp only[ex]at b;trivial
  | some x =>
   cases ey:Ff k (nrm q) with
   | none=>simp only[ex,ey]at b;trivial
   | some y =>
    simp only[ex,ey]at b
    cases eo:op x y with
    | none=>simp only[eo]at b;trivial
    | some o =>
     simp only[eo]at b
     exact hr _ _ _ _ x y o Q g.sub (Ia g (RepA.same f.fz j) ex) (Ia g u ey) eo (New.of g fun v F G z A t=>b v _ _ (i.trans (f.trans z)) A t)
def Ah4:PyData->Bool
 | .tuple _=>true
 | _=>false
theorem Bj8 (Hf H:Hp)(d:PyData)(v:V)(h:Ah4 d=true)(s:Same Hf H)(r:RdV Hf H d v):tyV K "tuple" v H:=by
 cases d with
 | tuple ds =>
  obtain⟨a,c,rfl,b,t⟩:=Jf s r;exact .inr (.inr (.inr (.inr ⟨rfl,c,b⟩)))
 | _=>cases h
def strsOf:List PyData->Option (List Str)
 | []=>some []
 | .str z::ds=>(strsOf ds).map (z::·)
 | _=>none
theorem A0d:∀{ds:List PyData}{ss:List Str}{vs:List V},strsOf ds=some ss->TrL Hf ds vs->vs=ss.map V.str
 | [],ss,vs,h,t=>by cases h;exact t
 | d::ds,ss,_,h,⟨v,r,rfl,h1,h2⟩=>by
  cases d with
  | str z =>
   have h:(strsOf ds).map (z::·)=some ss:=h
   cases e:strsOf ds with
   | none=>rw[e]at h;cases h
   | some ts =>
    rw[e]at h;cases h
    rw[A0d e h2,show v=V.str z from h1];rfl
  | _=>cases h
def Kz (y:Str):List Str->Option Nat
 | []=>none
 | x::xs=>if x==y then some 0 else (Kz y xs).map (·+1)
theorem Ap4 {y:Str}:∀{xs:List Str}{j:Nat},Kz y xs=some j->xs[j]?=some y/\∀m<j,xs[m]?≠some y
 | [],j,h=>by cases h
 | x::xs,j,h=>by
  unfold Kz at h
  by_cases q:(x==y)=true
  ·rw[if_pos q]at h;cases h
   exact⟨by simpa using q,fun m hm=>absurd hm (Nat.not_lt_zero _)⟩
  ·rw[if_neg q]at h
   cases e:Kz y xs with
   | none=>rw[e]at h;cases h
   | some k =>
    rw[e]at h;cases h;obtain⟨h1,h2⟩:=Ap4 e
    refine⟨by simpa using h1,fun m hm=>?_⟩
    cases m with
    | zero=>simpa using q
    | succ m=>simpa using h2 m (Nat.lt_of_succ_lt_succ hm)
def R9:PyData->PyData->Option O
 | .tuple ds,.str y=>(strsOf ds).bind fun ss=>(Kz y ss).map fun j=>.im (.int (j:Nat))
 | _,_=>none
theorem As1:OpS K (fun x y H Q=>Xc K x [y] H Q) R9:=by
 intro Hf H x y dx dy o Q s f g e n;unfold R9 at e
 split at e
 ·rename_i d z
  obtain⟨a,vs,rfl,i,t⟩:=Jf s f
  cases es:strsOf d with
  | none=>grind
  | some b =>
   rw[es]at e;have e:(Kz z _).map _=some o:=e
   cases ei:Kz z b with
   | none=>grind
   | some j =>
    rw[ei]at e;cases e
    cases Gp g
    cases A0d es t
    obtain⟨h,c⟩:=Ap4 ei;exact⟨a,b,z,j,rfl,rfl,SqT.of i,h,c,n.int s⟩
 grind
end
section
variable {P:Program}{w:World}{K:PySem.W.Frag}{X:Cx}{Hf H:Hp}{Q:VK}{β:Nat->V}{W W':Wo}{c c':Ev}{σ:St}{v:V}
theorem Qx (ss:List Str):(ss.map V.str).all Ow=true:=by
 induction ss with
 | nil=>rfl
 | cons a r b=>rw[List.map_cons,List.all_cons,b];rfl
end
end U
namespace L2
open PySem U
theorem At5   (d:X.K=Kq)    (ha:QE X a e) (hb:QE X b f) (hm:behindInMarks .NotIn b=false):QT X (.Compare a [.NotIn] [b] c) (Ij (tOp (rIn Kq true) e f)):=by
 subst d;exact⟨Iu Xp ha.get hb.get hm⟩
end L2
namespace U
open PySem L2 PySem.W
end U
namespace U
open PySem L2
section
variable {K:PySem.W.Frag}{Hf H:Hp}
def Aj0:PyData->Bool
 | .list _=>true
 | _=>false
theorem Bp9 (Hf H:Hp)(d:PyData)(v:V)(h:Aj0 d=true)(s:Same Hf H)(r:RdV Hf H d v):tyV K "list" v H:=by
 cases d with
 | list ds =>
  obtain⟨a,c,rfl,b,t⟩:=Gy r;exact .inl ⟨rfl,c,SqL.of b⟩
 | _=>cases h
def A5c:List Bool->Option Nat
 | []=>none
 | true::_=>some 0
 | false::r=>(A5c r).map (·+1)
theorem Ak7:∀{bs:List Bool}{j:Nat},A5c bs=some j->bs[j]?=some true/\∀m<j,bs[m]?≠some true
 | true::r,j,h=>by cases h;exact⟨rfl,fun m hm=>by omega⟩
 | false::r,j,h=>by
  obtain⟨k,h1,rfl⟩:=Option.map_eq_some_iff.mp (show (A5c r).map (·+1)=some j from h)
  obtain⟨q1,q2⟩:=Ak7 h1
  refine⟨by rw[List.getElem?_cons_succ];exact q1,fun m hm=>?_⟩
  cases m with
  | zero=>simp
  | succ m=>rw[List.getElem?_cons_succ];exact q2 m (by omega)
def Sq:PyData->PyData->Option O
 | .list ds,.bool true=>(boolsOf ds).bind fun bs=>(A5c bs).bind fun j=>if j<1000000 then some (.im (.int (j:Nat))) else none
 | _,_=>none
theorem Ae7:OpS K (fun x y H Q=>Ak9 K x [y] H Q) Sq:=by
 intro Hf H x y dx dy o Q s rx ry e n;unfold Sq at e
 split at e
 ·rename_i ds
  obtain⟨bs,e1,e2⟩:=Option.bind_eq_some_iff.mp (show ((boolsOf ds).bind fun bs=>(A5c bs).bind fun j=>if j<1000000 then some (O.im (.int (j:Nat))) else none)=some o from e)
  obtain⟨j,e3,e4⟩:=Option.bind_eq_some_iff.mp e2
  by_cases hb:j<1000000
  ·rw[if_pos hb]at e4
   cases e4
   obtain⟨a,vs,rfl,h1,t⟩:=Gy rx
   cases Sg e1 t
   cases (show y=.bl true from ry)
   obtain⟨q1,q2⟩:=Ak7 e3;exact⟨a,bs,j,rfl,rfl,SqL.of h1,q1,q2,hb,n.int s⟩
  ·rw[if_neg hb]at e4;cases e4
 ·cases e
end
inductive XF where
 | ret (o:O)
 | ex (nm:Xn)
 | bad
inductive XS where
 | s (r:SR)
 | ex (nm:Xn) (c:Ev)
def spX (K:PySem.W.Frag)(F:List PyData->XF):Sp:=fun vs H Q E=>∃(Hf:Hp) (ds:List PyData),Same Hf H/\TrL Hf ds vs/\match F ds with
 | .bad=>False
 | .ret o=>∀v Hf' H' fp,Stp (fun _=>False) Hf H (fun a=>a∈fp) Hf' H'->Same Hf' H'->RepO K Hf' H' o v fp->Q v H'
 | .ex nm=>∀C d Hf' H',XAt K Hf' nm C d->Stp (fun _=>False) Hf H (fun _=>False) Hf' H'->Same Hf' H'->E (.ref C) d H'
def LeadX (K:PySem.W.Frag)(β:Nat->V)(W:Wo)(D:Ends)(E:XK):XS->Prop
 | .s r=>zE K β W D r
 | .ex nm c'=>∀C d σ' W',XAt K W'.Hf nm C d->Stp W.S W.Hf W.H W'.S W'.Hf W'.H->Rep K β W' c' σ'->E (.ref C) d W'.H
def MX (K:PySem.W.Frag)(E:XK)(T:TS)(f:Ev->XS):Prop:=∀(β:Nat->V) (W:Wo) (c:Ev) (σ:St) (D:Ends),Rep K β W c σ->LeadX K β W D E (f c)->T D σ W.H
def Rc (f:Ev->SR):Ev->XS:=fun c=>.s (f c)
def Aa8 (f g:Ev->XS):Ev->XS:=fun c=>match f c with
 | .s (.nx c)=>g c
 | r=>r
def xIf (t:Ev->R Bool)(f g:Ev->XS):Ev->XS:=fun c=>match t c with
 | .ok b c=>if b=true then f c else g c
 | .bad=>.s .bad
def Xo (nm:Str)(fa:Ev->R (List PV)):Ev->XS:=fun c=>match fa c with
 | .ok _ c=>.ex ⟨nm,none⟩ c
 | .bad=>.s .bad
def scO:O->Bool
 | .im .none=>true
 | .im (.bool _)=>true
 | .im (.int _)=>true
 | .im (.str _)=>true
 | _=>false
def Bt3 (F:List PyData->XF)(fa:Ev->R (List PV))(k:O->Ev->XS)(h:Xn->Ev->XS):Ev->XS:=fun c=>match fa c with
 | .bad=>.s .bad
 | .ok ps c=>match Ak4 c ps with
  | none=>.s .bad
  | some ds=>match F ds with
   | .bad=>.s .bad
   | .ret o=>if scO o=true then k o c else .s .bad
   | .ex nm=>if nm.p.isNone=true then h nm c else .s .bad
def Mw (n N:Nat)(body:Ev->XS):List PyData->XF:=fun ds=>if ds.length=n then match body (ds.map (fun d=>some (.im d))++List.replicate (N-n) none) with
 | .s (.nx _)=>.ret (.im .none)
 | .s (.rt p c)=>match resolve p c with
  | some (o,_)=>.ret o
  | none=>.bad
 | .ex nm _=>.ex nm
 | _=>.bad
 else .bad
section
variable {K:PySem.W.Frag}{β:Nat->V}{W W':Wo}{c c':Ev}{σ σ':St}{D:Ends}{E:XK}{Hf H:Hp}{o:O}{v:V}{fp:List Addr}
theorem LeadX.step {r:XS}(h:LeadX K β W D E r)(st:Stp W.S W.Hf W.H W'.S W'.Hf W'.H):LeadX K β W' D E r:=by
 cases r with
 | s r=>exact zE.step h st
 | ex nm c=>exact fun C d σ2 W2 hn st2 R2=>h C d σ2 W2 hn (st.trans st2) R2
theorem Ms {T:TS}{f:Ev->SR}(h:MS K T f):MX K E T (Rc f):=fun β W c σ D R l=>h β W c σ D R l
theorem Um {T U:TS}{f g:Ev->XS}(h1:MX K E T f)(h2:MX K E U g):MX K E (Az9 T U) (Aa8 f g):=by
 intro β W c σ D R l
 refine h1 β W c σ _ R ?_
 unfold Aa8 at l
 cases e:f c with
 | ex nm c1=>rw[e]at l;exact l
 | s r =>
  rw[e]at l
  cases r with
  | nx c1=>exact fun σ' W1 st R1=>h2 β W1 c1 σ' D R1 (LeadX.step l st)
  | rt p c1=>exact l
  | bk c1=>exact l
  | ct c1=>exact l
  | bad=>exact l
theorem Ba6 {tc:TT}{T U:TS}{ft:Ev->R Bool}{f g:Ev->XS}(h:MT K tc ft)(h1:MX K E T f)(h2:MX K E U g):MX K E (A7j tc T U) (xIf ft f g):=by
 intro β W c σ D R l;unfold xIf at l
 refine h β W c σ _ R ?_
 cases e:ft c with
 | bad=>rw[e]at l;exact l
 | ok b c1 =>
  rw[e]at l;intro W1 st R1
  cases b with
  | true=>exact h1 β W1 c1 σ D R1 (LeadX.step l st)
  | false=>exact h2 β W1 c1 σ D R1 (LeadX.step l st)
theorem A5g {nm:Str}{C:Addr}{t:TA}{fa:Ev->R (List PV)}(hn:PySem.W.nsIn K mainGlobals nm=some (some (.ref C)))(ha:MA K t fa)(hl:∀c ps c',fa c=.ok ps c'->ps.length<=1000):MX K E (Aj1 C E t) (Xo nm fa):=by
 intro β W c σ D R l;unfold Xo at l
 refine ha β W c σ _ R ?_
 cases e:fa c with
 | bad=>rw[e]at l;exact l
 | ok ps c1 =>
  rw[e]at l;intro vs W1 st R1 r1
  have:∀{ps:List PV} {vs:List V},zH K W1.Hf σ ps vs->vs.length=ps.length:=fun {ps}=>by
   induction ps with
   | nil=>intro vs h;cases (show vs=[] from h);rfl
   | cons p r ih=>intro vs h;obtain⟨v,vr,rfl,_,t⟩:=h;rw[List.length_cons,List.length_cons,ih t]
  exact⟨by rw[this r1];exact Nat.le_trans (hl c ps c1 e) (by decide),l C none σ W1 ⟨hn,rfl⟩ st R1⟩
theorem Mu {S:Addr->Prop}{H':Hp}(s:Same H H'):Stp S Hf H S Hf H':=⟨Same.refl _,fun a o e _=>s a o e,fun a o e mu n q=>q,fun a z=>.inl z⟩
theorem Yj   (h:orS S [] a):S a:=by
 grind
theorem Ob {n N:Nat}{body:Ev->XS}{vs:List V}{Q:VK}(hs:spX K (Mw n N body) vs H Q E):vs.length=n:=by
 obtain⟨Hf,ds,sub,t,hf⟩:=hs;unfold Mw at hf
 by_cases hn:ds.length=n
 ·rw[<- t.length];exact hn
 ·rw[if_neg hn]at hf;exact hf.elim
theorem O4 {n:Nat}{N:List Str}{body:Ev->XS}{T:TS}{vs:List V}{Q:VK}(h:MX K E T body)(hs:spX K (Mw n N.length body) vs H Q E):T { nx:=fun _ H'=>Q .non H',rt:=Q } (start N vs) H:=by
 obtain⟨Hf,ds,sub,t,hf⟩:=hs;unfold Mw at hf
 by_cases hn:ds.length=n
 ·rw[if_pos hn]at hf
  have hl:=t.length
  let W:Wo:=⟨Hf,H,fun _=>[]⟩
  have R:Rep K (fun _=>.non) W (ds.map (fun d=>some (.im d))++List.replicate (N.length-n) none) (start N vs):=by
   refine⟨sub,?_,fun i o e=>?_,(fun i j a z=>nomatch z),fun i a z=>nomatch z⟩
   ·show _=(vs.map some++List.replicate (N.length-vs.length) none).length
    rw[List.length_append,List.length_append,List.length_map,List.length_map,List.length_replicate,List.length_replicate,<- hl,hn]
   ·by_cases li:i<ds.length
    ·rw[List.getElem?_append_left (by rw[List.length_map];exact li),List.getElem?_map]at e
     cases ed:ds[i]? with
     | none=>rw[ed]at e;cases e
     | some d =>
      rw[ed]at e;cases e;obtain⟨v,ev,tv⟩:=t.got ed
      refine⟨v,?_,⟨rfl,tv⟩,fun z=>nomatch z⟩
      show (vs.map some++List.replicate (N.length-vs.length) none)[i]?=_
      rw[List.getElem?_append_left (by rw[List.length_map,<- hl];exact li),List.getElem?_map,ev];rfl
    ·rw[List.getElem?_append_right (by rw[List.length_map];exact Nat.le_of_not_lt li),List.getElem?_replicate]at e
     split at e <;> cases e
  have noS:∀a,W.S a->False:=fun a ⟨i,z⟩=>nomatch z
  refine h _ W _ (start N vs) _ R ?_
  cases eb:body (ds.map (fun d=>some (.im d))++List.replicate (N.length-n) none) with
  | ex nm c1 =>
   rw[eb]at hf
   exact fun C d σ1 W1 hn st R1=>hf C d W1.Hf W1.H hn ⟨st.fz,fun a o e _=>st.kp a o e (noS a),fun a o e mu _ q=>st.nf a o e mu (noS a) q,fun a z=>z.elim⟩ R1.sub
  | s r =>
   rw[eb]at hf
   cases r with
   | nx c1=>exact fun σ1 W1 st R1=>hf .non W1.Hf W1.H [] ⟨st.fz,fun a o e _=>st.kp a o e (noS a),fun a o e mu _ q=>st.nf a o e mu (noS a) q,fun a z=>nomatch z⟩ R1.sub ⟨rfl,rfl⟩
   | rt p c1 =>
    intro σ1 v W1 fp st R1 r1
    cases er:resolve p c1 with
    | none=>simp only[er]at hf
    | some q =>
     obtain⟨o,c2⟩:=q;simp only[er]at hf;obtain⟨W2,fp2,e1,e2,R2,r2,n2,s2⟩:=Ut R1 r1 er;rw[<- e2]
     refine hf v W2.Hf W2.H fp2 ?_ R2.sub r2
     rw[e1,e2]
     refine⟨st.fz,fun a o e _=>st.kp a o e (noS a),fun a o e mu _ q=>st.nf a o e mu (noS a) q,fun a z=>?_⟩
     rcases st.fr a (s2 a (.inr z)) with y | y
     ·exact(noS a y).elim
     ·exact .inr y
   | bk c1=>exact hf.elim
   | ct c1=>exact hf.elim
   | bad=>exact hf.elim
 ·rw[if_neg hn]at hf;exact hf.elim
end
end U
set_option autoImplicit true
namespace U
open PySem L2
def unX:XS->SR
 | .s r=>r
 | .ex _ _=>.bad
def Om (tbl:List (Str×Bool))(f:Ev->R PV):Ev->R PV:=fun c=>(f c).bind fun p c=>match rdP c p with
 | some (.ty (.xc nm))=>match tbl.lookup nm.n with
  | some b=>.ok (.o (.im (.bool b))) c
  | none=>.bad
 | _=>.bad
def A4y (f:Ev->R PV):Ev->R PV:=fun c=>(f c).bind fun p c=>match rdP c p with
 | some (.ty (.xc _))=>.ok (.o (.im (.bool false))) c
 | some (.im .none)=>.ok (.o (.im (.bool true))) c
 | _=>.bad
section
variable {K:PySem.W.Frag}{β:Nat->V}{W W':Wo}{c c':Ev}{σ σ':St}{D:Ends}{E:XK}{Hf H:Hp}{o:O}{v:V}{fp:List Addr}
theorem Aj9 {p:PV}{nm:Xn}(R:Rep K β W c σ)(r:Ed K W σ p v fp)(e:rdP c p=some (.ty (.xc nm))):RepN K W.Hf (.ty (.xc nm)) v:=by
 cases p with
 | o o1=>cases e;exact r.1.2
 | sl i =>
  have e:(c[i]?).join=some (.ty (.xc nm)):=e
  have e2:c[i]?=some (some (.ty (.xc nm))):=by
   cases q:c[i]? with
   | none=>rw[q]at e;cases e
   | some x=>
    rw[q]at e;cases x with
     | none=>cases e
     | some y=>cases e;rfl
  obtain⟨v',e3,r3,_⟩:=R.get i _ e2;have h:σ[i]?=some (some v):=r.2;rw[h]at e3;cases e3;exact r3.2
theorem O6 {te:TE}{f:Ev->R PV}{cv:V}{z:Value}{tbl:List (Str×Bool)}(hz:Bn3 cv=some z)(ht:∀nm b,tbl.lookup nm=some b->∀C,PySem.W.nsIn K mainGlobals nm=some (some (.ref C))->Jz K C/\PySem.W.kitOne K (.ref C) z=some b)(h:ME K te f) :
 ME K (tCB (Af8 K) (Cy te (Cy (tC cv) Gx))) (Om tbl f):=by
 intro β W c σ Q R s
 refine h β W c σ _ R ((s.bnd).mono fun p c1 s1 v1 W1 fp1 st1 R1 r1=>?_)
 cases ed:rdP c1 p with
 | none=>simp only[ed]at s1;exact s1.elim
 | some o =>
  simp only[ed]at s1
  match o,ed,s1 with
  | .ty (.xc nm),ed,s1 =>
   cases el:tbl.lookup nm.n with
   | none=>simp only[el]at s1;exact s1.elim
   | some b =>
    simp only[el]at s1;obtain⟨a,C,d,e,hn,hf⟩:=Aj9 R1 r1 ed;subst e;obtain⟨x1,x2⟩:=ht nm.n b el C hn.ns
    refine⟨a,C,d,cv,z,b,rfl,R1.sub _ _ hf,x1,hz,x2,?_⟩
    exact s1 (.bl b) W1 [] (st1.less fun a z=>by
     rcases z with z | z
     ·exact .inl z
     ·cases z) R1 ⟨⟨rfl,rfl⟩,fun a z=>nomatch z⟩
  | .ty (.nm _),ed,s1=>exact s1.elim
  | .ty (.tc _),ed,s1=>exact s1.elim
  | .ty (.dc _ _),ed,s1=>exact s1.elim
  | .ty (.dt _ _),ed,s1=>exact s1.elim
  | .ty (.ds _ _),ed,s1=>exact s1.elim
  | .ty (.td _ _ _),ed,s1=>exact s1.elim
  | .im _,ed,s1=>exact s1.elim
  | .ls _ _,ed,s1=>exact s1.elim
  | .sc _,ed,s1=>exact s1.elim
theorem Bm1 {p:PV}(R:Rep K β W c σ)(r:Ed K W σ p v fp)(e:rdP c p=some (.im .none)):v=.non:=by
 cases p with
 | o o1=>cases e;exact r.1.2
 | sl i =>
  have e:(c[i]?).join=some (.im .none):=e
  have e2:c[i]?=some (some (.im .none)):=by
   cases q:c[i]? with
   | none=>rw[q]at e;cases e
   | some x=>
    rw[q]at e;cases x with
     | none=>cases e
     | some y=>cases e;rfl
  obtain⟨v',e3,r3,_⟩:=R.get i _ e2;have h:σ[i]?=some (some v):=r.2;rw[h]at e3;cases e3;exact r3.2
theorem A5x {te:TE}{f:Ev->R PV}(h:ME K te f):ME K (tOp (fun x y H Q=>y=.non/\Q (.bl (decide (x=.non))) H) te (tC .non)) (A4y f):=by
 intro β W c σ Q R s
 refine h β W c σ _ R ((s.bnd).mono fun p c1 s1 v1 W1 fp1 st1 R1 r1=>?_)
 refine⟨rfl,?_⟩
 have fin:∀b:Bool,(∀v W' fp,Stp W.S W.Hf W.H (orS W'.S fp) W'.Hf W'.H->Rep K β W' c1 σ->Ed K W' σ (.o (.im (.bool b))) v fp->Q v W'.H)->Q (.bl b) W1.H:=fun b k=>k (.bl b) W1 [] (st1.less fun a z=>by
  rcases z with z | z
  ·exact .inl z
  ·cases z) R1 ⟨⟨rfl,rfl⟩,fun a z=>nomatch z⟩
 cases ed:rdP c1 p with
 | none=>simp only[ed]at s1;exact s1.elim
 | some o =>
  simp only[ed]at s1
  match o,ed,s1 with
  | .ty (.xc nm),ed,s1 =>
   obtain⟨a,C,d,e,_⟩:=Aj9 R1 r1 ed;subst e;exact fin false s1
  | .im .none,ed,s1=>cases Bm1 R1 r1 ed;exact fin true s1
  | .im (.bool _),ed,s1=>exact s1.elim
  | .im (.int _),ed,s1=>exact s1.elim
  | .im (.str _),ed,s1=>exact s1.elim
  | .im (.list _),ed,s1=>exact s1.elim
  | .im (.tuple _),ed,s1=>exact s1.elim
  | .im (.dict _),ed,s1=>exact s1.elim
  | .ty (.nm _),ed,s1=>exact s1.elim
  | .ty (.tc _),ed,s1=>exact s1.elim
  | .ty (.dc _ _),ed,s1=>exact s1.elim
  | .ty (.dt _ _),ed,s1=>exact s1.elim
  | .ty (.ds _ _),ed,s1=>exact s1.elim
  | .ty (.td _ _ _),ed,s1=>exact s1.elim
  | .ls _ _,ed,s1=>exact s1.elim
  | .sc _,ed,s1=>exact s1.elim
end
end U
set_option autoImplicit true
namespace L2
open PySem PySem.Spec PyProof.Rows PySem.W
section
variable {P:Program}{w:World}{K:PySem.W.Frag}{mg:Str->Option Value}{base:Heap}
theorem Fun.okX {x qual:Str}{st:Stmt}{f:Addr}{fd:FuncData}{N ps:List Str}{k:Nat}{sp:Sp}(F:Fun K x qual st f fd)(S:Bh N ps (Am st))(len:∀vs H Q E,sp vs H Q E->vs.length=ps.length)
 (hbody:∀(cdv:Value) (A:Around) (outer:List Env) (s:Shared) (H:Hp) (vs:List V) (Q:VK) (E:XK),Room k (A.deeper (envOfC qual (Am st) s.heap.objs.size f cdv))->sp vs H Q E ->
  ∃t,PSs (Hd (CXe P w) P w K mg base N qual (Am st) f cdv A outer s H E) (Dr st) t/\t { nx:=fun _ H'=>Q .non H',rt:=Q } (start N vs) H):FnOk P w K mg base (CXe P w) (k+1) f fd ps sp:=by
 obtain⟨oc,od,kV,doc,pm,an,cdv,ct,osl,rfl,lk,hcd⟩:=F.ex
 exact Al9 lk hcd S len fun A outer s H vs Q E hr hsp=>hbody cdv A outer s H vs Q E hr hsp
end
section
variable {X:Cx}{x y n v:Str}{C Fc f:Addr}{np cpos pos p epos yp hpos vp:Pos}{e:Expr}{es:List Expr}{t:TA}{E:XK}{k j i:Nat}{fd:FuncData}{ps:List Str}{sp:Sp}{b₀:Stmt}{suite:List Stmt}{th:TS}
theorem A0i (hR:Raises X E)(hc:X.calm=true)(hg:Gl X x)(hm:X.mg x=some (.ref C))(hq:excIn X.K C bmV "ValueError.__new__" = true) (ha:QA X (e::es) t) (hdb:(x==("__debug__" : Str))=false:=by decide)
 (he:starEach (e::es) X.env=(false,eval e X.env)::starEach es X.env:=by rfl) (hpl:(backTo cpos (starEach es X.env)).any (·.1)=false:=by rfl) :
 QS X (.Raise (some (.Call (.Name x np) (e::es) [] cpos)) none pos) (Aj1 C E t):=⟨Az8 hR hc hg hm hq ha.get hdb he hpl⟩
theorem Ji {D:Addr}(hg:Gl X y)(hm:X.mg y=some (.ref D))(hdb:(y==("__debug__" : Str))=false:=by decide):QE X (.Name y p) (tC (.ref D)):=⟨Bb8 hg hm hdb⟩
theorem Oh {Kq:PySem.W.Frag}(hKq:X.K=Kq)(hgl:Gl X "isinstance") (hm:X.mg "isinstance" = none) (ha:QA X (e::es) t) (hn:noStar (e::es)=true:=by rfl):QE X (.Call (.Name "isinstance" p) (e::es) [] pos) (tCB (Af8 Kq) t):=by
 subst hKq
 exact⟨Ex At6 hgl hm G5 ha.get (by decide) (by decide) hn⟩
theorem Vc:bootBuiltins "ValueError" = some (.type "ValueError"):=by decide +kernel
end
def TbOk (K:PySem.W.Frag)(z:Value)(tbl:List (Str×Bool)):Prop:=∀nm b,tbl.lookup nm=some b->∀C,PySem.W.nsIn K mainGlobals nm=some (some (.ref C))->Jz K C/\PySem.W.kitOne K (.ref C) z=some b
def ExOk (K:PySem.W.Frag)(Fc:Addr)(NS:List Str):Prop:=∀nm∈NS,∀C,PySem.W.nsIn K mainGlobals nm=some (some (.ref C))->PySem.W.exmOne K (.ref C) (.ref Fc)=some true
def ClT (K:PySem.W.Frag)(mg:Str->Option Value)(tbl:List (Str×Bool))(T:Str):Prop:=∃g,mg T=some (.ref g)/\TbOk K (.ref g) tbl
def ClF (K:PySem.W.Frag)(mg:Str->Option Value)(NS:List Str)(T:Str):Prop:=∃g,mg T=some (.ref g)/\ExOk K g NS
def ClR (K:PySem.W.Frag)(mg:Str->Option Value)(T:Str):Prop:=∃g,mg T=some (.ref g)/\PySem.W.nsIn K mainGlobals T=some (some (.ref g))/\excIn K g bmV "ValueError.__new__" = true
section
variable {K:PySem.W.Frag}{z:Value}{tbl:List (Str×Bool)}{x:Str}{g Fc:Addr}{b:Bool}{NS:List Str}
theorem TbOk.nil:TbOk K z []:=fun _ _ e=>nomatch e
theorem TbOk.cons (n:PySem.W.nsIn K mainGlobals x=some (some (.ref g)))(X:Jz K g)(k:PySem.W.kitOne K (.ref g) z=some b)(t:TbOk K z tbl):TbOk K z ((x,b)::tbl):=fun nm b' e C hn=>by
 rw[List.lookup_cons]at e
 cases q:nm==x with
 | true =>
  rw[q]at e
  cases e
  cases (beq_iff_eq.mp q)
  rw[n]at hn
  cases hn
  exact⟨X,k⟩
 | false=>rw[q]at e;exact t nm b' e C hn
theorem ExOk.nil:ExOk K Fc []:=fun _ z=>nomatch z
theorem ExOk.cons (n:PySem.W.nsIn K mainGlobals x=some (some (.ref g)))(k:PySem.W.exmOne K (.ref g) (.ref Fc)=some true)(t:ExOk K Fc NS):ExOk K Fc (x::NS):=fun nm h C hn=>by
 rcases List.mem_cons.mp h with rfl | h
 ·rw[n]at hn
  cases hn
  exact k
 ·exact t nm h C hn
end
end L2
namespace U
open PySem L2
def DefX (P:Program)(w:World)(K:PySem.W.Frag)(mg:Str->Option Value)(base:Heap)(x:Str)(k:Nat)(ps:List Str)(sp:Sp):Prop :=
 ∃(f:Addr) (fd:FuncData),FnOk P w K mg base (CXe P w) k f fd ps sp/\Binds K fd ps []/\PySem.W.keepIn K (.ref f)=true/\mg x=some (.ref f)
end U
set_option autoImplicit true
namespace U
open PySem L2
def Mv (c:Ev):List PV->Option (List PyData)
 | []=>some []
 | .o (.im d)::r=>(Mv c r).map (d::·)
 | .sl i::r=>match c[i]? with
  | some (some (.im d))=>(Mv c r).map (d::·)
  | _=>none
 | _=>none
def Uz (F:List PyData->XF)(fa:Ev->R (List PV))(k:O->Ev->XS)(h:Xn->Ev->XS):Ev->XS:=fun c=>match fa c with
 | .bad=>.s .bad
 | .ok ps c=>match Mv c ps with
  | none=>.s .bad
  | some ds=>match F ds with
   | .ret (.im d)=>k (.im d) c
   | .ex nm=>h nm c
   | _=>.s .bad
section
variable {K:PySem.W.Frag}{β:Nat->V}{W W':Wo}{c c':Ev}{σ σ':St}{D:Ends}{E:XK}{Hf H:Hp}{o:O}{v:V}{fp:List Addr}
theorem Mq (R:Rep K β W c σ):∀{ps:List PV}{vs:List V}{ds:List PyData},zH K W.Hf σ ps vs->Mv c ps=some ds->TrL W.Hf ds vs
 | [],vs,ds,h,e=>by cases (show vs=[] from h);cases e;exact rfl
 | .o (.im d)::r,_,ds,⟨v,vr,rfl,h,t⟩,e=>by
  obtain⟨l,e2,rfl⟩:=Option.map_eq_some_iff.mp (show (Mv c r).map (d::·)=some ds from e)
  exact⟨v,vr,rfl,h,Mq R t e2⟩
 | .sl i::r,_,ds,⟨v,vr,rfl,h,t⟩,e=>by
  unfold Mv at e
  split at e
  ·rename_i d ec
   obtain⟨l,e2,rfl⟩:=Option.map_eq_some_iff.mp e;obtain⟨v',e1,r1,_⟩:=R.get i _ ec
   cases (show some (some v')=some (some v) from e1.symm.trans h)
   exact⟨v,vr,rfl,r1.2,Mq R t e2⟩
  ·cases e
 | .o (.sc _)::r,_,ds,_,e=>by cases e
 | .o (.ls _ _)::r,_,ds,_,e=>by cases e
 | .o (.ty _)::r,_,ds,_,e=>by cases e
theorem Tw {F:List PyData->XF}{fa:Ev->R (List PV)}{t:TA}{k:O->Ev->XS}{h:Xn->Ev->XS}{Q:VK}{E':XK}(ha:MA K t fa)(R:Rep K β W c σ)(l:LeadX K β W D E (Uz F fa k h c))
 (hk:∀o c1 W2 v,Stp W.S W.Hf W.H W2.S W2.Hf W2.H->Rep K β W2 c1 σ->LeadX K β W D E (k o c1)->Ed K W2 σ (.o o) v []->Q v W2.H)
 (hh:∀nm c1 W2 C d,Stp W.S W.Hf W.H W2.S W2.Hf W2.H->Rep K β W2 c1 σ->LeadX K β W D E (h nm c1)->XAt K W2.Hf nm C d->E' (.ref C) d W2.H) :
 t σ W.H fun vs H1=>spX K F vs H1 Q E':=by
 unfold Uz at l
 refine ha β W c σ _ R ?_
 cases e:fa c with
 | bad=>rw[e]at l;exact l
 | ok ps c1 =>
  rw[e]at l;intro vs W1 st R1 r1
  cases ea:Mv c1 ps with
  | none=>simp only[ea]at l;exact l.elim
  | some ds =>
   simp only[ea]at l
   refine⟨W1.Hf,ds,R1.sub,Mq R1 r1 ea,?_⟩
   have go:∀{Hf' H':Hp},Stp (fun _=>False) W1.Hf W1.H (fun _=>False) Hf' H'->Same Hf' H'->Stp W.S W.Hf W.H (Wo.S ⟨Hf',H',W1.fps⟩) Hf' H'/\Rep K β ⟨Hf',H',W1.fps⟩ c1 σ:=fun {Hf' H'} s2 sub =>
    ⟨st.trans ⟨s2.fz,fun a o e _=>s2.kp a o e fun z=>z,fun a o e mu _ q=>s2.nf a o e mu (fun z=>z) q,fun a z=>.inl z⟩,Stp.rep R1 s2 sub⟩
   cases ef:F ds with
   | bad=>simp only[ef]at l;exact l.elim
   | ret o =>
    match o,ef with
    | .im d,ef =>
     simp only[ef]at l;intro v Hf' H' fp s2 sub r;obtain⟨rfl,tv⟩:=r
     obtain⟨s3,R3⟩:=go (s2.less fun a z=>nomatch z) sub
     exact hk (.im d) c1 ⟨Hf',H',W1.fps⟩ v s3 R3 l ⟨⟨rfl,tv⟩,fun a z=>nomatch z⟩
    | .sc _,ef=>simp only[ef]at l;exact l.elim
    | .ls _ _,ef=>simp only[ef]at l;exact l.elim
    | .ty _,ef=>simp only[ef]at l;exact l.elim
   | ex nm =>
    simp only[ef]at l;intro C d Hf' H' hn s2 sub;obtain⟨s3,R3⟩:=go s2 sub;exact hh nm c1 ⟨Hf',H',W1.fps⟩ C d s3 R3 l hn
end
def O8:PyData->PyData->Option O:=Vf fun i j=>.bool (decide (i<j))
theorem Al5  : OpS K (rI0 fun i j=>.bl (decide (i<j))) O8:=Wu fun _ _ _=>rfl
theorem Bu7  (l:Sw i j=true):CMul i j:=by
 unfold Sw at l;rw[Bool.or_eq_true_iff,Bool.and_eq_true_iff,Bool.and_eq_true_iff]at l
 rcases l with ⟨b,a⟩ | ⟨b,a⟩
 ·exact .inl ⟨of_decide_eq_true b,of_decide_eq_true a⟩
 ·exact .inr ⟨of_decide_eq_true b,of_decide_eq_true a⟩
def Kl:PyData->PyData->Option O:=opI Sw fun i j=>i*j
theorem Jw  : OpS K (rI CMul fun i j=>.int (i*j)) Kl:=Am6 fun _ _=>Bu7
def Dj:PyData->Option O
 | .list ds=>some (.im (.tuple ds))
 | .tuple ds=>some (.im (.tuple ds))
 | _=>none
theorem Fe  : UnS K (fun x H Q=>Hb K [x] H Q) Dj:=by
 intro Hf H x d o Q s r e n;unfold Dj at e
 split at e
 ·cases e
  obtain⟨a,b,rfl,c,t⟩:=Gy r
  exact⟨a,b,rfl,.inl ⟨SqL.of c,fun l f=>n.tup s t f⟩⟩
 ·cases e
  obtain⟨a,b,rfl,c,t⟩:=Jf s r;exact⟨a,b,rfl,.inr ⟨SqT.of c,n.same s r⟩⟩
 trivial
def Bv6 (K:PySem.W.Frag):R2:=fun x y H Q=>Bh9 K x y H Q\/Bc9 K x y H Q
def Ay:PyData->PyData->Option O
 | .list ds,.int i=>(atI ds i).map O.im
 | .tuple ds,.int i=>(atI ds i).map O.im
 | _,_=>none
theorem Bf  : OpS K (Bv6 K) Ay:=by
 intro Hf H x y dx dy o Q s i j e n;unfold Ay at e
 split at e
 ·obtain⟨d,g,rfl⟩:=Option.map_eq_some_iff.mp e
  obtain⟨a,c,rfl,f,t⟩:=Gy i;obtain⟨v,h,b⟩:=A2a t g;exact .inl ⟨a,c,_,v,rfl,Dt j,SqL.of f,h,n.same s b⟩
 ·obtain⟨d,g,rfl⟩:=Option.map_eq_some_iff.mp e
  obtain⟨a,c,rfl,f,t⟩:=Jf s i;obtain⟨v,h,b⟩:=A2a t g;exact .inr ⟨a,c,_,v,rfl,Dt j,SqT.of f,h,n.same s b⟩
 grind
end U
namespace L2
open PySem
section
variable {X:Cx}{a b:Expr}{ta tb:TE}{pos:Pos}
theorem Cd  (c:X.K=Kq) (ha:QE X a ta) (hb:QE X b tb) (hs:Mm b):QE X (.Subscript a b pos) (tOp (U.Bv6 Kq) ta tb):=by
 subst c;exact Ba5 (IxR.or ix_list ix_tup) ha hb hs
end
end L2
namespace U
open PySem L2 PySem.W
section
variable {K:PySem.W.Frag}{β:Nat->V}{W W':Wo}{c c':Ev}{σ:St}{Hf H:Hp}
def cFz (f:Ev->R PV):Ev->R PV:=fun c=>(f c).bind fun p c=>(frz (nrm p) c).bind fun d c=>.ok (.o (.im d)) c
theorem Oi   (h:ME K t f):ME K t (cFz f):=by
 intro y W c x Q R s
 refine h.toV _ W c _ Q R (s.bnd.mono fun p n j v u e i k=>?_)
 obtain⟨d,o,r,_,l,w,b,m,g⟩:=Ig i k j.bnd
 have q:=l v _ [] ((e.trans b).less fun a z=>z.elim id fun z=>nomatch z) m ⟨⟨rfl,g⟩,fun a z=>nomatch z⟩
 grind
end
inductive DE where
 | d (x:PyData)
 | l (xs:List PyData)
inductive BR where
 | nx (c:Ev) (ks:List PyData) (es:List DE)
 | bad
def DX (a:Addr)(X:Nat->List Addr)(b:Addr):Prop:=b=a\/∃j,b∈X j
abbrev orX (S:Addr->Prop)(a:Addr)(X:Nat->List Addr):Addr->Prop:=fun b=>S b\/DX a X b
variable {K:PySem.W.Frag}
theorem Bk         {p a:Pos}(D:Def X.prog X.w X.K X.mg X.base x k ps sp) (hr:Room c X.A) (ha:QA X (e::es) t) (h:k<=c:=by omega) (hg:Gl X x:=by rfl)
 (hdb:(x==("__debug__" : Str))=false:=by decide) (hn:noStar (e::es)=true:=by rfl):QE X (.Call (.Name x p) (e::es) [] a) (Kv sp [] E0 t):=by
 obtain⟨f,g,G,b,d,m⟩:=D;exact Ot G (hr.mono h) hg m d b .nil Bw0 ha hdb hn
end U
namespace L2
open PySem PySem.Spec PyProof.Rows
end L2
namespace L2
open PySem PySem.Spec PyProof.Rows PySem.W
section
variable {X:Cx}
def JT (X:Cx)(vs:List Expr)(m:Nat):Prop:=∀(pins:List (Addr×Obj)) (σ:St) (H:Hp) (s:Shared) (acc:Str) (Q:Str->Shared->Prop),Inv X pins σ H s->acc.length+m<=16001000->(∀out s',out.length<=sizeLine->Inv X pins σ H s'->Q out s')->Joins (model X.prog X.w) X.A X.xe (evalEach vs X.env) acc Q s
theorem Bj3:JT X [] 0:=fun pins σ H s acc Q I h q=>q acc s (Nat.le_trans h (by decide)) I
theorem Bg6 {v:Expr}{y:Str}(h:QE X v (tC (.str y))):JT X [v] y.length:=by
 intro pins σ H s acc Q I hl q
 refine wpAny_mono (h.get pins s σ H (fun v H1=>v=.str y/\H1=H) I ⟨rfl,rfl⟩) (fun u s2 ⟨v,H2,I2,r,e1,e2⟩=>?_) fun _ _ z=>z
 subst e1 e2
 obtain⟨t,e⟩:=(show ∃t,u=Value.str y t from r)
 have:(acc++y).length<=sizeLine:=by rw[strLen_append];exact Nat.le_trans hl (by decide)
 exact⟨y,t,e,this,q _ _ this I2⟩
theorem A3x {v1 val:Expr}{vs:List Expr}{s1:Str}{m:Nat}{te:TE}{fpos jpos:Pos}(hu:X.A.units+64<cLine)(hg:X.A.guards=some [])(h1:QE X v1 (tC (.str s1)))(hn:s1.length<=1000)(h2:QE X val te)(h3:JT X vs m)(hm:m<=1000):QE X (.JoinedStr (v1::.FormattedValue val 114 none fpos::vs) jpos) (tFs s1.length te):=by
 refine⟨fun pins s σ H Q I h=>?_⟩
 refine wpAny_JoinedStr ?_
 refine wpAny_mono (h1.get pins s σ H (fun v H1=>v=.str s1/\H1=H) I ⟨rfl,rfl⟩) (fun u s2 ⟨v,H2,I2,r,e1,e2⟩=>?_) fun _ _ z=>z
 subst e1 e2
 obtain⟨t,e⟩:=(show ∃t,u=Value.str s1 t from r)
 refine⟨s1,t,e,?_,?_⟩
 ·rw[strLen_append]
  exact Nat.le_trans (by show 0+s1.length<=1000;omega) (by decide)
 ·refine wpAny_FormattedValue_repr (thn (h2.get pins s2 σ H2 _ I2 h) fun u2 s3 ⟨v,H3,I3,r3,d,td,hd,q⟩=>?_)
  refine A7a hu hg I3 td r3 hn hd fun z t2 s4 hz I4=>?_
  have hz':z.length<=sizeLine:=Nat.le_trans (Nat.le_trans (Nat.le_add_right _ _) hz) (by decide)
  have hl:(Str.empty++s1++z).length+m<=16001000:=by
   rw[strLen_append,strLen_append]
   show 0+s1.length+z.length+m<=_;omega
  have fin:∀(t3:Tok) (s5:Shared),Inv X pins σ H3 s5->∃y t,Value.str z t3=.str y t/\(Str.empty++s1++y).length<=sizeLine/\Joins (model X.prog X.w) X.A X.xe (evalEach vs X.env) (Str.empty++s1++y) (fun out s₁=>out.length<=sizeLine/\EP X pins σ Q (.str out s₁.toks) { s₁ with toks:=s₁.toks+1 }) s5:=fun t3 s5 I5 =>
   ⟨z,t3,rfl,Nat.le_trans (Nat.le_add_right _ _) (Nat.le_trans hl (by decide)),h3 pins σ H3 s5 _ _ I5 hl fun out s6 ho I6=>⟨ho,.str _,H3,I6.tok _,⟨_,rfl⟩,q _⟩⟩
  exact wpAny_formatField_str (fin _ _ I4) (fin _ _ (I4.tok _)) hz'
end
end L2
namespace U
open PySem L2 PySem.W
section
variable {K:PySem.W.Frag}{β:Nat->V}{W W':Wo}{c c':Ev}{σ σ':St}{D:Ends}{E:XK}{Hf H:Hp}
def Ys (g:PV->Ev->R Unit)(body:Ev->XS):List PyData->Ev->XS
 | [],c=>.s (.nx c)
 | d::ds,c=>match g (.o (.im d)) c with
  | .bad=>.s .bad
  | .ok _ c=>match body c with
   | .s (.nx c)=>Ys g body ds c
   | .s (.ct c)=>Ys g body ds c
   | .s (.bk c)=>.s (.nx c)
   | r=>r
def A8m (fi:Ev->R (List PyData))(g:PV->Ev->R Unit)(body:Ev->XS):Ev->XS:=fun c=>match fi c with
 | .ok ds c=>Ys g body ds c
 | .bad=>.s .bad
theorem Bl0 {wi:TI}{t:TG}{tb:TS}{fi:Ev->R (List PyData)}{g:PV->Ev->R Unit}{body:Ev->XS}(hi:MI K wi fi)(hg:MG K t g)(hb:MX K E tb body):MX K E (A9u wi t tb) (A8m fi g body):=by
 intro β W c σ D R l
 refine hi β W c σ _ R ?_
 unfold A8m at l
 cases e:fi c with
 | bad=>rw[e]at l;exact l.elim
 | ok ds c1 =>
 rw[e]at l;intro J W1 st1 R1 it
 refine⟨fun i m σ H=>∃W2 c2,W2.H=H/\Rep K β W2 c2 σ/\m=ds.length-i/\i<=ds.length/\Same W1.Hf W2.Hf/\LeadX K β W2 D E (Ys g body (ds.drop i) c2),⟨_,W1,c1,rfl,R1,rfl,Nat.zero_le _,Same.refl _,LeadX.step l st1⟩,?_⟩
 rintro i m σ H ⟨W2,c2,rfl,R2,rfl,hle,sm,l2⟩
 obtain⟨hstop,hgo⟩:=it i W2.Hf W2.H sm R2.sub
 by_cases lt:i<ds.length
 ·obtain⟨q1,q2⟩:=hgo ds[i] (List.getElem?_eq_getElem lt)
  refine .inr ⟨q1,fun σ' H'=>∃W2 c2,W2.H=H'/\Rep K β W2 c2 σ'/\Same W1.Hf W2.Hf/\LeadX K β W2 D E (Ys g body (ds.drop (i+1)) c2),fun σ' H' ⟨W3,c3,e3,R3,s3,l3⟩=>⟨ds.length-(i+1),by omega,W3,c3,e3,R3,rfl,by omega,s3,l3⟩,fun x H' hy=>?_⟩
  obtain⟨Hf2,st2,sub2,tx⟩:=q2 x H' hy;have R3:=st2.rep R2 sub2
  have stx:Stp W2.S W2.Hf W2.H (Wo.S ⟨Hf2,H',W2.fps⟩) Hf2 H':=⟨st2.fz,fun a o e _=>st2.kp a o e fun z=>z,fun a o e mu _ q=>st2.nf a o e mu (fun z=>z) q,fun a z=>.inl z⟩
  rw[Mt lt]at l2;unfold Ys at l2
  refine hg β ⟨Hf2,H',W2.fps⟩ c2 σ (.o (.im ds[i])) x [] _ R3 ⟨⟨rfl,tx⟩,fun a z=>nomatch z⟩ ?_
  cases eg:g (.o (.im ds[i])) c2 with
  | bad=>rw[eg]at l2;exact l2.elim
  | ok u c3 =>
   rw[eg]at l2;intro σ3 W3 st3 R3'
   have st23:=stx.trans (st3.up (S2:=W2.S) fun a z=>Yj z)
   have sm3:Same W1.Hf W3.Hf:=sm.trans st23.fz
   refine hb β W3 c3 σ3 _ R3' ?_
   cases ebd:body c3 with
   | ex nm c4=>simp only[ebd]at l2;exact fun C d σ4 W4 hn st4 R4=>l2 C d σ4 W4 hn (st23.trans st4) R4
   | s r =>
   cases r with
   | nx c4=>simp only[ebd]at l2;exact fun σ4 W4 st4 R4=>⟨W4,c4,rfl,R4,sm3.trans st4.fz,LeadX.step l2 (st23.trans st4)⟩
   | ct c4=>simp only[ebd]at l2;exact fun σ4 W4 st4 R4=>⟨W4,c4,rfl,R4,sm3.trans st4.fz,LeadX.step l2 (st23.trans st4)⟩
   | bk c4=>simp only[ebd]at l2;exact fun σ4 W4 st4 R4=>l2 σ4 W4 (st23.trans st4) R4
   | rt p c4=>simp only[ebd]at l2;exact fun σ4 v W4 fp st4 R4 r4=>l2 σ4 v W4 fp (st23.trans st4) R4 r4
   | bad=>simp only[ebd]at l2;exact l2.elim
 ·have e:i=ds.length:=by omega
  subst e;rw[List.drop_length]at l2;exact .inl ⟨hstop rfl,l2 σ W2 Stp.refl R2⟩
def cFY (F:List PyData->XF)(fa:Ev->R (List PV)):Ev->R PV:=fun c=>(fa c).bind fun ps c=>match Mv c ps with
 | none=>.bad
 | some ds=>match F ds with
  | .ret (.im d)=>.ok (.o (.im d)) c
  | _=>.bad
end
def An6 (neg:Bool)(ss:List Str):PyData->Option O
 | .str y=>some (.im (.bool (if neg then !inV (.str y) (ss.map V.str) else inV (.str y) (ss.map V.str))))
 | .int y=>some (.im (.bool (if neg then !inV (.int y) (ss.map V.str) else inV (.int y) (ss.map V.str))))
 | .none=>some (.im (.bool (if neg then !inV .non (ss.map V.str) else inV .non (ss.map V.str))))
 | _=>none
theorem Bk2 {K:PySem.W.Frag}{neg:Bool}{te:TE}{fe:Ev->R PV}{p:Addr}{ss:List Str}(he:ME K te fe)(hp:∀H,SqT K H p (ss.map V.str)):ME K (tOp (rIn K neg) te (tC (.ref p))) (cUn (An6 neg ss) fe) :=
 Vs (r:=fun x H Q=>rIn K neg x (.ref p) H Q) he fun Hf H x d o Q s r e n=>by
  unfold An6 at e
  split at e
  ·cases e;cases Gp r;exact⟨p,_,rfl,.inr (hp H),rfl,Qx ss,n.bl s⟩
  ·cases e;cases Dt r;exact⟨p,_,rfl,.inr (hp H),rfl,Qx ss,n.bl s⟩
  ·cases e;cases (show x=V.non from r);exact⟨p,_,rfl,.inr (hp H),rfl,Qx ss,n.bl s⟩
  ·cases e
end U
namespace L2
open PySem PySem.Spec PyProof.Rows PySem.W
section
variable {K K':Frag}
def Hu (K K':Frag):Prop:=∀a o,K.lookup a=some o->K'.lookup a=some o
theorem Ox (s:Hu K K'){ns:Addr}{x:Str}{r:Option Value}(e:nsIn K ns x=some r):nsIn K' ns x=some r:=by
 unfold nsIn at e ⊢
 split at e
 ·rename_i ho;rw[s _ _ ho];exact e
 ·cases e
theorem Ac6 (s:Hu K K'){x:Str}{v:Value}{r:Option Value}(e:ownIn K x v=some r):ownIn K' x v=some r:=by
 cases v with
 | ref a =>
  unfold ownIn at e ⊢
  dsimp only at e ⊢
  split at e
  ·rename_i ho;rw[s _ _ ho];exact Ox s e
  ·cases e
 | _=>exact e
theorem U7 (s:Hu K K'){x:Str}:∀{l:List Value}{r:Option Value},alongIn K x l=some r->alongIn K' x l=some r
 | [],r,e=>e
 | v::l,r,e=>by
  unfold alongIn at e ⊢
  split at e
  ·rename_i h;rw[Ac6 s h];exact e
  ·rename_i h;rw[Ac6 s h];exact U7 s e
  ·cases e
theorem Gs (s:Hu K K'){x:Str}{C:Addr}{r:Option Value}(e:findIn K (.ref C) x=some r):findIn K' (.ref C) x=some r:=by
 unfold findIn at e ⊢
 dsimp only at e ⊢
 split at e
 ·rename_i ho;rw[s _ _ ho];exact U7 s e
 ·cases e
theorem A2e (s:Hu K K'){C:Addr}{cd:ClassData}(e:clsIn K C=some cd):clsIn K' C=some cd:=by
 unfold clsIn at e ⊢
 split at e
 ·rename_i ho;rw[s _ _ ho];exact e
 ·cases e
theorem Tz (s:Hu K K'){t b:Value}{r:Bool}(e:subIn K t b=some r):subIn K' t b=some r:=by
 cases t with
 | ref C =>
  obtain⟨cd,h1,h2⟩:=Option.bind_eq_some_iff.mp (show (clsIn K C).bind _=_ from e)
  exact Option.bind_eq_some_iff.mpr ⟨cd,A2e s h1,h2⟩
 | _=>exact e
theorem V0 (s:Hu K K'){t c:Value}{r:Bool}(e:kitCls K t c=some r):kitCls K' t c=some r:=by
 unfold kitCls at e ⊢
 split at e
 ·rename_i C
  split at e
  ·rename_i z
   rw[if_pos,Tz s e]
   dsimp only[clsIn,typeIn]at z ⊢
   cases ho:K.lookup C with
   | none=>rw[ho]at z;cases z
   | some o=>rw[s _ _ ho];rw[ho]at z;exact z
  ·cases e
 ·split at e
  ·rename_i z;rw[if_pos z,Tz s e]
  ·cases e
 ·cases e
theorem Au9 (s:Hu K K'){t c:Value}{r:Bool}(e:kitOne K t c=some r):kitOne K' t c=some r:=by
 unfold kitOne at e ⊢
 split at e
 ·rename_i z;rw[if_pos z];exact e
 ·rename_i z;rw[if_neg z];exact V0 s e
theorem Vq (s:Hu K K'){t c:Value}{r:Bool}(e:exmOne K t c=some r):exmOne K' t c=some r:=by
 unfold exmOne at e ⊢
 split at e
 ·rename_i z
  rw[if_pos (by rw[Tz s (beq_iff_eq.mp z)];rfl)];exact V0 s e
 ·cases e
theorem Ao7 (s:Hu K K'){n:Addr}(e:nsOkIn K n=true):nsOkIn K' n=true:=by
 unfold nsOkIn at e ⊢
 split at e
 ·rename_i ho;rw[s _ _ ho];exact e
 ·cases e
theorem Qs (s:Hu K K'){b:List Value}:∀{l:List Value},tailIn K b l=true->tailIn K' b l=true
 | [],e=>e
 | v::l,e=>by
  unfold tailIn at e ⊢
  rcases Bool.or_eq_true_iff.mp e with q | q
  ·rw[q];rfl
  ·refine Bool.or_eq_true_iff.mpr (.inr ?_)
   split at q
   ·split at q
    ·rename_i ho
     rw[s _ _ ho];simp only[Bool.and_eq_true,beq_iff_eq]at q ⊢;exact⟨⟨Ao7 s q.1.1,Ox s q.1.2⟩,Qs s q.2⟩
    ·cases q
   ·cases q
theorem A0c (s:Hu K K'){C:Addr}{b:List Value}{i:String}(e:excIn K C b i=true):excIn K' C b i=true:=by
 unfold excIn at e ⊢
 split at e
 ·rename_i ho
  rw[s _ _ ho]
  split at e
  ·rename_i h1 h2
   simp only[h1,h2,Bool.and_eq_true,beq_iff_eq]at e ⊢;obtain⟨⟨⟨e1,e2⟩,e3⟩,e4⟩:=e;exact⟨⟨⟨e1,Qs s e2⟩,Ao7 s e3⟩,Ox s e4⟩
  ·cases e
 ·cases e
theorem Ap9 (s:Hu K K'){C:Addr}(e:Y4 K C=true):Y4 K' C=true:=by
 unfold Y4 at e ⊢
 split at e
 ·rename_i ho
  rw[s _ _ ho];simp only[Bool.and_eq_true]at e ⊢
  refine⟨⟨e.1.1,?_⟩,e.2⟩
  have q:=e.1.2
  split at q
  ·rename_i hm
   simp only[Bool.and_eq_true]at q ⊢;exact⟨q.1,Qs s q.2⟩
  ·cases q
 ·cases e
theorem A3a (s:Hu K K'){C:Addr}(e:xcB K C=true):Jz K' C:=by
 unfold xcB at e;simp only[Bool.and_eq_true,beq_iff_eq]at e;exact⟨Ap9 s e.1,Gs s e.2.1,Gs s e.2.2.1,Gs s e.2.2.2⟩
theorem J7 (s:Hu K K'){x:Str}{p:Addr->Bool}(e:clB K x p=true):∃C,nsIn K' mainGlobals x=some (some (.ref C))/\p C=true:=by
 unfold clB at e
 split at e
 ·rename_i C h;exact⟨C,Ox s h,e⟩
 ·cases e
theorem Ad1 (s:Hu K K'){z:Value}:∀{tbl:List (Str×Bool)},tbB K z tbl=true->TbOk K' z tbl
 | [],_=>.nil
 | (x,b)::tbl,e=>by
  obtain⟨e1,e2⟩:=Bool.and_eq_true_iff.mp e;obtain⟨C,n,q⟩:=J7 s e1;obtain⟨q1,q2⟩:=Bool.and_eq_true_iff.mp q;exact .cons n (A3a s q1) (Au9 s (beq_iff_eq.mp q2)) (Ad1 s e2)
theorem Ah8 (s:Hu K K'){F:Addr}:∀{NS:List Str},exB K F NS=true->ExOk K' F NS
 | [],_=>.nil
 | x::NS,e=>by
  obtain⟨e1,e2⟩:=Bool.and_eq_true_iff.mp e;obtain⟨C,n,q⟩:=J7 s e1;exact .cons n (Vq s (beq_iff_eq.mp q)) (Ah8 s e2)
def As7 (R:List Str)(T:List (Str×List (Str×Bool)))(V:List (Str×Bool))(F:List Str)(h:Heap):Prop:=∃K:Frag,cfB R T V F K=true/\∀a o,K.lookup a=some o->h.get? a=some o/\Bc3 o=true
variable {R:List Str}{T:List (Str×List (Str×Bool))}{V:List (Str×Bool)}{F:List Str}{h h':Heap}{mg:Str->Option Value}
theorem Bq9 {l:List Nat}(e:cfB R T V F (A6h l h)=true):As7 R T V F h:=⟨A6h l h,e,fun a o q=>by
 unfold A6h at q;rw[Kg]at q
 split at q
 ·obtain⟨o',h1,h2⟩:=Option.bind_eq_some_iff.mp q
  split at h2
  ·cases h2;exact⟨h1,by assumption⟩
  ·cases h2
 ·cases q⟩
theorem Az7 (x:As7 R T V F h)(hk:∀b o,h.get? b=some o->h'.get? b=some o):As7 R T V F h' :=
 let ⟨K,e,q⟩:=x; ⟨K,e,fun a o z=>⟨hk _ _ (q a o z).1,(q a o z).2⟩⟩
theorem A6p (x:As7 R T V F h)(kin:K.In h)(G:h.Ns mainGlobals mg)(hK:∀a o,h.get? a=some o->Ep o=true->o.data≠.fields #[]->K.lookup a=some o) :
 (∀(i:Nat) (x:Str),R[i]?=some x->ClR K mg x)/\(∀(i:Nat) (q:Str×List (Str×Bool)),T[i]?=some q->ClT K mg q.2 q.1)/\TbOk K (.type "ValueError") V/\∀(i:Nat) (x:Str),F[i]?=some x->ClF K mg R x:=by
 obtain⟨K0,e,q⟩:=x
 have s:Hu K0 K:=fun a o z=>by
  obtain⟨q1,q2⟩:=q a o z;unfold Bc3 at q2
  refine hK a o q1 ?_ ?_
  ·unfold Ep;split at q2 <;> simp_all
  ·intro y;rw[y]at q2;cases q2
 obtain⟨e1,e2⟩:=Bool.and_eq_true_iff.mp e;obtain⟨e2,e3⟩:=Bool.and_eq_true_iff.mp e2;obtain⟨e3,e4⟩:=Bool.and_eq_true_iff.mp e3
 refine⟨fun i x m=>?_,fun i p m=>?_,Ad1 s e3,fun i x m=>?_⟩
 ·obtain⟨C,n,z⟩:=J7 s (List.all_eq_true.mp e1 x (List.mem_of_getElem? m))
  exact⟨C,mg_of kin G n,n,A0c s z⟩
 ·obtain⟨C,n,z⟩:=J7 s (List.all_eq_true.mp e2 p (List.mem_of_getElem? m))
  exact⟨C,mg_of kin G n,Ad1 s z⟩
 ·obtain⟨C,n,z⟩:=J7 s (List.all_eq_true.mp e4 x (List.mem_of_getElem? m))
  exact⟨C,mg_of kin G n,Ah8 s z⟩
end
section
variable {X:Cx}{k k1 k2 k':Nat}{ps ps1 ps2:List Str}{sp sp1 sp2:Sp}{x x1 x2 y n v:Str}{p p1 p2 pos epos cpos cpos1 cpos2 ipos yp hpos vp:Pos}{e e1 e2 ec:Expr}{es es1 es2:List Expr}{t t1 t2:TA}{tc:TT}{Fc:Addr}{b₀:Stmt}{suite:List Stmt}{th:TS}{j i:Nat}
def PX (X:Cx)(e:Expr)(t:St->Hp->VK->XK->Prop):Prop :=
 ∀(pins:List (Addr×Obj)) (s:Shared) (σ:St) (H:Hp) (Q:VK) (E:XK),Inv X pins σ H s->t σ H Q E->wpAny (model X.prog X.w) X.A (eval e X.env) (EP X pins σ Q) (fun ev s'=>∃H1 s1,Inv X pins σ H1 s1/\CXe X.prog X.w X.stack H1 s1 E ev s') s
theorem A6j {te:St->Hp->VK->XK->Prop}(hp:PX X e te)
 (hx0:X.ex=[]) (hs:X.stack=X.env::X.outer/\X.env.frame=some X.env.locals) (hN:X.N.Nodup) (hi:X.N[i]?=some v) (hv:Loc X.env.scope v) (hj:X.N[j]?=some n) (hlo:X.env.scope.names.lookup n=some .local) (hg:Gl X y) (hm:X.mg y=some (.ref Fc)) (hsu:∀a,PSs (Qd X a) (b₀::suite) th)
 (hsw:swapsWith e (some (.Name v vp)) epos.line X.env=pure false) (hd2:(y==("__debug__" : Str))=false) (hf:X.fn v=true\/X.env.scope.names.lookup v=some .local) :
 PS X (.Try [.Assign [.Name v vp] e epos] [.ExceptHandler (some (.Name y yp)) (some n) (b₀::suite) hpos] [] [] pos) (fun D σ H=>te σ H (fun u H2=>D.nx (σ.set i (some u)) H2)
  (fun c d H2=>∃C,c=.ref C/\exmOne X.K c (.ref Fc)=some true/\∀a,H2 a=none->th { nx:=fun σ2 H3=>D.nx (σ2.set j none) H3,rt:=D.rt } (σ.set j (some (.ref a))) (upd H2 a (Lb a C d)))):=by
 intro pins s σ H D I h
 refine wpAny_Try_except (wpAny_execs_cons (wpAny_Assign_Name ?_ hsw))
 refine wpAny_mono (hp pins s σ H _ _ I h) (fun u s1 ⟨v1,H1,I1,r1,q1⟩=>?_) (fun ev s' ⟨H1,s1,I1,cx⟩=>?_)
 ·exact Gi I1 hN hi hv r1 (fun s2 I2=>wpAny_execs_nil (wpAny_execs_nil ⟨_,H1,I2,q1⟩)) hf
 ·exact Ay5 hx0 hs hN hj hlo hg hm hsu I1 cx (fun C d H2 ⟨C',e1,e2,e3⟩=>by cases e1;exact⟨e2,e3⟩) hd2
end
def Bx5 (A:Around):Around:={ A with handled:=none }
end L2
namespace U
open PySem L2
end U
namespace L2
open PySem PySem.Spec PyProof.Rows PySem.W
def X8 (K:PySem.W.Frag):List V->Hp->VK->Prop:=fun xs H Q=>∃(a C p:Addr) (d:Option Addr) (cs:List Addr) (b:Bool),xs=[.ref a,.ref p]/\H a=some (Lb a C d)/\Jz K C/\H p=some (.tup (cs.map V.ref))/\kitAny K (.ref C) (cs.map Value.ref)=some b/\Q (.bl b) H
theorem Wg:∀{cs:List Addr}{us:List Value},Vals (cs.map V.ref) us->us=cs.map Value.ref
 | [],us,h=>by cases h;rfl
 | c::cs,us,h=>by
  cases h with
  | cons r t=>rw[Wg t,show _=Value.ref c from r];rfl
section
variable {X:Cx}
theorem Aj3:CallR X (.builtin "isinstance") (X8 X.K):=by
 intro pins s σ H xs us Q I r h;obtain⟨a,C,p,d,cs,b,rfl,ha,Z,hp,ek,q⟩:=h;obtain⟨u1,u2,rfl,r1,r2⟩:=vals2 r
 cases (show u1=Value.ref a from r1)
 cases (show u2=Value.ref p from r2)
 have ho:z8 X.prog X.w H s.heap a (Lb a C d):=I.hok a _ ha;obtain⟨_,its,rt,o,hq,hc,⟨n,hd⟩,_⟩:=I.hok p _ hp
 cases Wg rt
 obtain⟨cls,dd,data,sl⟩:=o;simp only at hc hd;subst hc hd
 exact kia_tup (Zn Z) I.kIn ho.1 hq ek (fun z=>nomatch z) fun tk=>⟨.bl b,H,I.tok _,rfl,q⟩
theorem A5s {e:Expr}{es:List Expr}{t:TA}{p pos:Pos}{Kq:PySem.W.Frag}(hKq:X.K=Kq)(hgl:Gl X "isinstance") (hm:X.mg "isinstance" = none) (ha:QA X (e::es) t) (hn:noStar (e::es)=true:=by rfl):QE X (.Call (.Name "isinstance" p) (e::es) [] pos) (tCB (X8 Kq) t):=by
 subst hKq
 exact⟨Ex Aj3 hgl hm G5 ha.get (by decide) (by decide) hn⟩
end
def Zm (K:PySem.W.Frag)(gs:List Addr)(tbl:List (Str×Bool)):Prop:=∀nm b,tbl.lookup nm=some b->∀C,PySem.W.nsIn K mainGlobals nm=some (some (.ref C))->Jz K C/\kitAny K (.ref C) (gs.map Value.ref)=some b
theorem A8u {K:PySem.W.Frag}{g:Addr}{tbl:List (Str×Bool)}(h:TbOk K (.ref g) tbl):Zm K [g] tbl:=fun nm b e C hn=>by
 obtain⟨x,k⟩:=h nm b e C hn
 refine⟨x,?_⟩
 show (match kitOne K (.ref C) (.ref g) with
  | some true=>some true
  | some false=>some false
  | none=>none)=some b
 rw[k];cases b <;> rfl
def orT:List (Str×Bool)->List (Str×Bool)->List (Str×Bool)
 | (n,b)::r,(_,c)::s=>(n,b||c)::orT r s
 | _,_=>[]
theorem Zi:∀{t u:List (Str×Bool)}{nm:Str}{b:Bool},t.map (·.1)=u.map (·.1)->(orT t u).lookup nm=some b->∃x y,t.lookup nm=some x/\u.lookup nm=some y/\b=(x||y)
 | [],_,nm,b,_,e=>by cases e
 | _::_,[],nm,b,_,e=>by cases e
 | (n,x)::t,(m,y)::u,nm,b,h,e=>by
  rw[List.map_cons,List.map_cons]at h;obtain⟨h1,h2⟩:=List.cons.inj h
  cases (show n=m from h1)
  rw[List.lookup_cons,List.lookup_cons]
  rw[show orT ((n,x)::t) ((n,y)::u)=(n,x||y)::orT t u from rfl,List.lookup_cons]at e
  cases q:nm==n with
  | true=>rw[q]at e;cases e;exact⟨x,y,rfl,rfl,rfl⟩
  | false=>rw[q]at e;exact Zi h2 e
theorem Lk {K:PySem.W.Frag}{g:Addr}{gs:List Addr}{t u:List (Str×Bool)}(h:TbOk K (.ref g) t)(hs:Zm K gs u)(e:t.map (·.1)=u.map (·.1)):Zm K (g::gs) (orT t u):=fun nm b el C hn=>by
 obtain⟨x,y,e1,e2,rfl⟩:=Zi e el;obtain⟨x1,k⟩:=h nm x e1 C hn;obtain⟨_,k2⟩:=hs nm y e2 C hn
 refine⟨x1,?_⟩
 show (match kitOne K (.ref C) (.ref g) with
  | some true=>some true
  | some false=>kitAny K (.ref C) (gs.map Value.ref)
  | none=>none)=_
 rw[k]
 cases x
 ·exact k2
 ·rfl
end L2
namespace U
open PySem L2 PySem.W
variable {K:PySem.W.Frag}
def tCs:List Addr->TA
 | []=>Gx
 | g::gs=>Cy (tC (.ref g)) (tCs gs)
theorem A3v {σ:St}:∀{gs:List Addr}{H:Hp}{k:List V->Hp->Prop},k (gs.map V.ref) H->tCs gs σ H k
 | [],_,_,h=>h
 | g::gs,H,k,h=>A3v (gs:=gs) (k:=fun vs H1=>k (V.ref g::vs) H1) h
theorem A2w {te:TE}{f:Ev->R PV}{gs:List Addr}{tbl:List (Str×Bool)}(ht:Zm K gs tbl)(h:ME K te f)(hl:gs.length<=1000:=by simp) :
 ME K (tCB (X8 K) (Cy te (Cy (Av2 (tCs gs)) Gx))) (Om tbl f):=by
 intro β W c σ Q R s
 refine h β W c σ _ R ((s.bnd).mono fun p c1 s1 v1 W1 fp1 st1 R1 r1=>?_)
 cases ed:rdP c1 p with
 | none=>simp only[ed]at s1;exact s1.elim
 | some o =>
  simp only[ed]at s1
  match o,ed,s1 with
  | .ty (.xc nm),ed,s1 =>
   cases el:tbl.lookup nm.n with
   | none=>simp only[el]at s1;exact s1.elim
   | some b =>
    simp only[el]at s1;obtain⟨a,C,d,e,hn,hf⟩:=Aj9 R1 r1 ed;subst e;obtain⟨x1,x2⟩:=ht nm.n b el C hn.ns
    refine A3v ⟨by rw[List.length_map];exact Nat.le_trans hl (by decide),fun q hq=>?_⟩
    have sn:Same W1.H (upd W1.H q (.tup (gs.map V.ref))):=fun b u e=>Cu hq b u e
    refine⟨a,C,q,d,gs,b,rfl,sn _ _ (R1.sub _ _ hf),x1,Be,x2,?_⟩
    have R2:Rep K β ⟨W1.Hf,upd W1.H q (.tup (gs.map V.ref)),W1.fps⟩ c1 σ:=Stp.rep (S':=fun _=>False) R1 (Mu sn) fun a o e=>sn a o (R1.sub a o e)
    exact s1 (.bl b) ⟨W1.Hf,upd W1.H q (.tup (gs.map V.ref)),W1.fps⟩ [] ((st1.trans (Mu sn)).less fun a z=>by
     rcases z with z | z
     ·exact .inl z
     ·cases z) R2 ⟨⟨rfl,rfl⟩,fun a z=>nomatch z⟩
  | .ty (.nm _),ed,s1=>exact s1.elim
  | .ty (.tc _),ed,s1=>exact s1.elim
  | .ty (.dc _ _),ed,s1=>exact s1.elim
  | .ty (.dt _ _),ed,s1=>exact s1.elim
  | .ty (.ds _ _),ed,s1=>exact s1.elim
  | .ty (.td _ _ _),ed,s1=>exact s1.elim
  | .im _,ed,s1=>exact s1.elim
  | .ls _ _,ed,s1=>exact s1.elim
  | .sc _,ed,s1=>exact s1.elim
end U
namespace L2
open PySem
end L2
namespace U
open PySem L2 PySem.W
section
variable {K:PySem.W.Frag}{E:XK}
theorem Vt {F:List PyData->XF}{t:TA}{fa:Ev->R (List PV)}(ha:MA K t fa):ME K (Kv (spX K F) [] E t) (cFY F fa):=by
 intro β W c σ Q R s
 show t σ W.H fun vs H1=>spX K F (vs++[]) H1 Q E
 simp only[List.append_nil]
 refine ha β W c σ _ R (s.bnd.mono fun ps c1 s1 vs W1 st R1 r1=>?_)
 cases ea:Mv c1 ps with
 | none=>simp only[ea]at s1;exact s1.elim
 | some ds =>
  simp only[ea]at s1
  refine⟨W1.Hf,ds,R1.sub,Mq R1 r1 ea,?_⟩
  split at s1
  ·rename_i d ef
   rw[ef];intro v Hf' H' fp s2 sub r;obtain⟨rfl,tv⟩:=r
   have s2:Stp (fun _=>False) W1.Hf W1.H (fun _=>False) Hf' H':=s2.less fun a z=>nomatch z
   exact s1 v ⟨Hf',H',W1.fps⟩ [] ((st.trans ⟨s2.fz,fun a o e _=>s2.kp a o e fun z=>z,fun a o e mu _ q=>s2.nf a o e mu (fun z=>z) q,fun a z=>.inl z⟩).less fun a z=>Yj z) (Stp.rep R1 s2 sub) ⟨⟨rfl,tv⟩,fun a z=>nomatch z⟩
  ·exact s1.elim
def Ql (F:List PyData->XF)(fa:Ev->R (List PV))(vs:List Nat)(f:Ev->SR):Ev->XS:=fun c=>match fa c with
 | .bad=>.s .bad
 | .ok ps c1=>match Mv c1 ps with
  | none=>.s .bad
  | some ds=>match F ds with
   | .ex nm=>if vs.all (fun i=>match c[i]? with | some (some _)=>true | _=>false) then .ex nm c1 else .s .bad
   | _=>.s (f c)
theorem A1e {F:List PyData->XF}{t:TA}{fa:Ev->R (List PV)}{vs:List Nat}{T:TS}{f:Ev->SR}(ha:MA K t fa)(hm:MS K T f)
 (hx:∀(σ:St) (H:Hp) (D:Ends),(∀i∈vs,∃v,σ[i]?=some (some v))->(∀Q,Kv (spX K F) [] E t σ H Q)->T D σ H):MX K E T (Ql F fa vs f):=by
 intro β W c σ D R l;unfold Ql at l
 cases e:fa c with
 | bad=>rw[e]at l;exact l.elim
 | ok ps c1 =>
 rw[e]at l
 cases ea:Mv c1 ps with
 | none=>simp only[ea]at l;exact l.elim
 | some ds =>
 simp only[ea]at l
 cases ef:F ds with
 | bad=>simp only[ef]at l;exact hm β W c σ D R l
 | ret o=>simp only[ef]at l;exact hm β W c σ D R l
 | ex nm =>
  simp only[ef]at l
  split at l
  ·rename_i hv
   refine hx σ W.H D (fun i hi=>?_) fun Q=>?_
   ·have:=List.all_eq_true.mp hv i hi
    split at this
    ·rename_i o ho
     obtain⟨v,h1,_⟩:=R.get i o ho;exact⟨v,h1⟩
    ·cases this
   ·have l':LeadX K β W D E (Uz F fa (fun _ _=>.s .bad) (fun n c=>.ex n c) c):=by
     unfold Uz;rw[e];simp only[ea,ef];exact l
    have:=Tw (Q:=Q) (E':=E) ha R l' (fun _ _ _ _ _ _ z _=>z.elim) (fun n c1 W2 C d st R2 lk hn=>lk C d σ W2 hn st R2)
    show t σ W.H fun vs H1=>spX K F (vs++[]) H1 Q E
    simp only[List.append_nil];exact this
  ·exact l.elim
end
theorem Ak2 {X:Cx}{x:Str}{k k':Nat}{ps:List Str}{sp:Sp}{E:XK}{e:Expr}{es:List Expr}{t:TA}{p pos:Pos}(hx:Gm (CXe X.prog X.w) X E)(D:DefX X.prog X.w X.K X.mg X.base x k ps sp)(hr:Room k' X.A)(ha:QA X (e::es) t)(h:k<=k':=by omega)(hg:Gl X x:=by rfl)
 (hdb:(x==("__debug__" : Str))=false:=by decide) (hn:noStar (e::es)=true:=by rfl):QE X (.Call (.Name x p) (e::es) [] pos) (Kv sp [] E t):=by
 obtain⟨f,fd,G,b,kp,m⟩:=D;exact Ot G (hr.mono h) hg m kp b .nil hx ha hdb hn
end U
namespace L2
open PySem PySem.Spec PyProof.Rows PySem.W
section
variable {P:Program}{w:World}{K:PySem.W.Frag}{mg:Str->Option Value}{base:Heap}{N':List Str}{scope:Scope}{cl:List (Str×Addr)}{qual:Str}{f:Addr}{cv:Value}{A1:Around}{stk:List Env}{s:Shared}{H:Hp}{E:XK}
def Vr (P:Program)(w:World)(K:PySem.W.Frag)(mg:Str->Option Value)(base:Heap)(N':List Str)(scope:Scope)(cl:List (Str×Addr))(qual:Str)(f:Addr)(cv:Value)(A1:Around)(stk:List Env)(s:Shared)(H:Hp)(E:XK):Cx :=
 {
  prog:=P,w:=w,K:=K,mg:=mg,base:=base,A:=A1.deeper (envX qual scope s.heap.objs.size f cv cl),N:=N',s₀:=s,H₀:=H,env:=envX qual scope s.heap.objs.size f cv cl,outer:=stk,stack:=envX qual scope s.heap.objs.size f cv cl::stk,
  ex:=[],fn:=fun _=>false,calm:=true,pn:=[],xe:=fun e s'=>wpAny (model P w) (A1.deeper (envX qual scope s.heap.objs.size f cv cl)) (leaving (envX qual scope s.heap.objs.size f cv cl) e) (fun _ s''=>CXe P w stk H s E e s'') (fun e' s''=>CXe P w stk H s E e' s'') s' }
theorem Tn:Gm (CXe P w) (Vr P w K mg base N' scope cl qual f cv A1 stk s H E) E:=by
 intro pins σ H1 s1 e s' I h;obtain⟨a,C,d,H',rfl,⟨⟨B,fl,cov⟩,new,fr⟩,os,bare,u,hok,q⟩:=h
 refine Zd I.ok.frames rfl fl fun h2 fl2 up=>?_
 have I2:Inv (Vr P w K mg base N' scope cl qual f cv A1 stk s H E) pins σ H' { s' with heap:=h2 }:=I.flown (tk:=s'.toks) u hok os bare fl.ff cov fl2.1 up
 have nb:∀b o,s.heap.get? b=some o->∃o',s1.heap.get? b=some o':=fun b o e=>I.base.there b o e (fun z=>nomatch z)
 refine⟨a,C,d,H',rfl,⟨⟨B,fl2,fun b o e hf hb=>?_⟩,fun b o e=>?_,fr⟩,os.trans I.os,bare,I2.base,I2.hok,q⟩
 ·have nl:b≠s.heap.objs.size:=by
   rintro rfl
   rcases hb with ⟨u',e'⟩ | hb
   ·exact absurd (Heap.lt_size e') (Nat.lt_irrefl _)
   ·exact hb I2.free
  have hfs:b∉frs (Vr P w K mg base N' scope cl qual f cv A1 stk s H E).stack:=fun z=>by
   rcases List.mem_cons.mp (I.stkSub b z) with q | q
   ·exact nl q
   ·exact hf q
  have there:∃o',s'.heap.get? b=some o':=by
   rcases hb with ⟨u',e'⟩ | hb
   ·obtain⟨o1,e1⟩:=nb b u' e'
    exact u.there b o1 e1 (fun z=>nomatch z)
   ·cases q':H' b with
    | none=>exact absurd q' hb
    | some ho=>exact(hok b ho q').there
  obtain⟨o',e'⟩:=there
  have:=cov b o' e' hfs (by
   rcases hb with ⟨u',q'⟩ | hb
   ·exact .inl (nb b u' q')
   ·exact .inr hb)
  have e2:=fl2.1 b o' this;rw[e]at e2;cases e2;exact this
 ·obtain⟨o',e'⟩:=nb b o e
  exact new b o' e'
variable {X:Cx}{pins:List (Addr×Obj)}{σ:St}
theorem A8e {idx:List (Option Nat)}{h₁:Heap}{t':Nat}(L:Tf X N' idx scope)(hd:A1.handled=none)(I:Env0 P w K mg base A1 stk s H)(J:Inv X pins σ H s)
 (c1:∀x c,cl.lookup x=some c->X.env.cells.lookup x=some c/\(x,NameKind.free)∈scope.names) (c2:∀x,(x,NameKind.free)∈scope.names->∃c,cl.lookup x=some c)
 (k:∀b o,s.heap.get? b=some o->h₁.get? b=some o) (hn:h₁.Ns s.heap.objs.size (fun y=>([]:List (Str×Value)).reverse.lookup y)) :
 Inv (Vr P w K mg base N' scope cl qual f cv A1 stk s H E) [] (cst idx σ) H { s with heap:=h₁,toks:=t' } where
 ok:={
  mod:=I.mod,kind:=L.kind,glob:=rfl,blt:=rfl,above:=Nat.le_refl _,inj:=fun y z c e1 e2=>J.ok.inj y z c (c1 y c e1).1 (c1 z c e2).1
  has:=fun y h=>by
   have h':scope.names.lookup y=some .cell\/scope.names.lookup y=some .free:=h
   rcases h' with h | h
   ·exact absurd rfl (L.cell _ (lookup_mem h))
   ·exact c2 y (lookup_mem h)
  cab:=(fun y c z=>nomatch z),hd:=fun _=>hd,frames:=Around.frames_deeper I.frames,stk:=.inr ⟨rfl,rfl⟩,exf:=(fun b z=>nomatch z),bs:=I.bs,bsz:=I.bsz,noex:=(fun _ _ _ z=>nomatch z),exfs:=(fun _ z=>nomatch z)
  funs:=I.funs,frf:=I.frf,tab:=I.tab }
 os:=rfl
 bare:=I.bare
 base:=Un.kept k
 loc:=by
  refine⟨_,hn,fun j y w e1 e2 e3=>?_⟩
  obtain⟨m0,hn0,hl⟩:=J.loc
  have e2':(idx.map fun o=>o.bind fun i=>(σ[i]?).join)[j]?=some (some w):=e2
  rw[List.getElem?_map]at e2'
  cases ei:idx[j]? with
  | none=>rw[ei]at e2';cases e2'
  | some o =>
   rw[ei]at e2';simp only[Option.map_some,Option.some.injEq]at e2'
   cases o with
   | none=>cases e2'
   | some i =>
    have e2'':(σ[i]?).join=some w:=e2';obtain⟨hNi,hfr⟩:=L.at' j i y e1 ei
    have hσ:σ[i]?=some (some w):=by
     cases q:σ[i]? with
     | none=>rw[q]at e2'';cases e2''
     | some z=>rw[q]at e2'';rw[show z=some w from e2'']
    have hk:=L.free _ (lookup_mem hfr) rfl
    have hvis:Vis X.env.scope y:=by
     rcases hk with z | z
     ·exact .inr (.inl z)
     ·exact .inr (.inr z)
    obtain⟨u',r',lk⟩:=hl i y w hNi hσ hvis
    refine⟨u',r',.inr ⟨.inr hfr,?_⟩⟩
    rcases lk with ⟨z,_⟩ | ⟨_,c,hc,hcl⟩
    ·exfalso
     have z':X.env.kindOf y=some .local:=z
     rcases hk with q | q
     ·rw[show X.env.kindOf y=_ from q]at z';cases z'
     ·rw[show X.env.kindOf y=_ from q]at z';cases z'
    ·obtain⟨c',hc'⟩:=c2 y (lookup_mem hfr)
     have ec:c'=c:=Option.some.inj ((c1 y c' hc').1.symm.trans hc);obtain⟨oc,g1,g2⟩:=hcl
     exact⟨c',hc',oc,by rw[ec];exact k _ _ g1,g2⟩
 cell:=fun y c e=>by
  obtain⟨w,oc,g1,g2⟩:=J.cell y c (c1 y c e).1;exact⟨w,oc,k _ _ g1,g2⟩
 free:=I.hok.fresh (Nat.le_refl _)
 freeC:=fun y c e=>J.freeC y c (c1 y c e).1
 pin:=fun p hp=>nomatch hp
 hok:=I.hok.kept k
 len:=by
  show (idx.map _).length=N'.length
  rw[List.length_map];exact L.len
theorem A7p {k:Nat}{idx:List (Option Nat)}{params:Arguments}{body:Expr}{pm ctv:Value}{te:TE}{Q:VK}(L:Tf X N' idx scope)(hco:scope.isCoroutine=false)(hgen:scope.isGenerator=false)
 (hbind:bindArgs (kla_fn "<lambda>" qual params body scope cl pm cv ctv) ⟨[],[]⟩=pure []) (hr:Room (k+1) A1)
 (hb:QE (Vr P w K mg base N' scope cl qual f cv A1 stk s H E) body te) (I:Env0 P w K mg base A1 stk s H) (J:Inv X pins σ H s) (ho:s.heap.get? f=some (Ad9 qual params body scope cl pm cv ctv)) (hcd:s.heap.CodeRec cv qual)
 (c1:∀x c,cl.lookup x=some c->X.env.cells.lookup x=some c/\(x,NameKind.free)∈scope.names) (c2:∀x,(x,NameKind.free)∈scope.names->∃c,cl.lookup x=some c) (h:te (cst idx σ) H Q) :
 codeAny (model P w) A1 (.call (.ref f) ⟨[],[]⟩) (CR (CXe P w) stk P w H s Q E) s:=by
 refine kla_callFunE hr.depth ho rfl hco hgen rfl hcd ?_
 rw[hbind]
 refine wpAny_pure (wpAny_newFunctionEnv L.cell (fun y hy=>nomatch hy) (fun h₁ hns hsb=>?_) L.kind)
 have hk₁:∀b o,s.heap.get? b=some o->h₁.get? b=some o:=fun b o e=>hsb.extBut b o (Nat.ne_of_lt (Heap.lt_size e)) (Heap.get?_push_of_some _ e)
 have lim:s.heap.NoLimit:=I.mod.nolimit.keeps fun b o e=>(I.bs b o e).1
 refine⟨lim.keeps hk₁,?_⟩
 show codeAny _ _ (.expr body (envX qual scope s.heap.objs.size f cv cl)) _ _
 have J1:=A8e (qual:=qual) (f:=f) (cv:=cv) (E:=E) (t':=s.toks+([]:List (Str×Value)).length) L hr.hd I J c1 c2 hk₁ hns
 refine kla_codeExpr (wpAny_mono (hb.get [] _ _ H Q J1 h) (fun u' s' hq=>?_) fun _ _ z=>z)
 obtain⟨v',H',J',r',q⟩:=hq;exact⟨v',H',J'.os,J'.bare,J'.base,J'.hok,r',q⟩
end
def Bm3 (P:Program)(w:World)(K:PySem.W.Frag)(mg:Str->Option Value)(base:Heap)(A:Around)(outer:List Env)(s:Shared)(H:Hp)(fl:Addr)(te:Hp->VK->XK->Prop):Prop :=
 ∀
  (env:Env) (s':Shared) (H':Hp) (Q':VK) (E':XK),Env0 P w K mg base (A.deeper env) (env::outer) s' H'->Un (frs outer) [] H H' s.heap s'.heap->s'.os=s.os->te H' Q' E' ->
  FnAt fl s'.heap/\codeAny (model P w) (A.deeper env) (.call (.ref fl) ⟨[],[]⟩) (CR (CXe P w) (env::outer) P w H' s' Q' E') s'
def Bv8 (K:PySem.W.Frag)(Fc:Addr)(spr:Sp)(Q:VK):XK:=fun c d H3=>∃C,c=.ref C/\exmOne K c (.ref Fc)=some true/\∀a,H3 a=none->spr [.non,.ref a] (upd H3 a (Lb a C d)) Q E0
def Ae1 (te:Hp->VK->XK->Prop):Prop:=∀(H:Hp) (Q Q':VK) (E E':XK),(∀v H,Q v H->Q' v H)->(∀c m H,E c m H->E' c m H)->te H Q E->te H Q' E'
def Told (P:Program)(w:World)(K:PySem.W.Frag)(mg:Str->Option Value)(base:Heap)(x:Str)(k:Nat)(Fc:Addr)(spr:Sp):Prop :=
 ∃
  f:Addr,PySem.W.keepIn K (.ref f)=true/\mg x=some (.ref f)/\∀(A:Around) (outer:List Env) (s:Shared) (H:Hp) (fl:Addr) (te:Hp->VK->XK->Prop) (Q:VK),Room k A->Env0 P w K mg base A outer s H->Ae1 te->Bm3 P w K mg base A outer s H fl te ->
  (∀H1,Same H H1->te H1 (fun u H3=>spr [u,.non] H3 Q E0) (Bv8 K Fc spr Q))->codeAny (model P w) A (.call (.ref f) ⟨[.ref fl],[]⟩) (CR CX0 outer P w H s Q E0) s
section
variable {P:Program}{w:World}{K:PySem.W.Frag}{mg:Str->Option Value}{base:Heap}
theorem Inv.tail {X:Cx}{pins:List (Addr×Obj)}{o:Option V}{σ:St}{H:Hp}{s:Shared}{n:Str}{N:List Str}(hN:X.N=n::N)(I:Inv X pins (o::σ) H s):Inv { X with N:=N } pins σ H s:=by
 obtain⟨m,hm,hl⟩:=I.loc
 refine⟨⟨I.ok.mod,I.ok.kind,I.ok.glob,I.ok.blt,I.ok.above,I.ok.inj,I.ok.has,I.ok.cab,I.ok.hd,I.ok.frames,I.ok.stk,I.ok.exf,I.ok.bs,I.ok.bsz,I.ok.noex,I.ok.exfs,I.ok.funs,I.ok.frf,I.ok.tab⟩,I.os,I.bare,I.base,⟨m,hm,fun i x v e1 e2 e3=>hl (i+1) x v (by rw[hN];exact e1) e2 e3⟩,I.cell,I.free,I.freeC,I.pin,I.hok,?_⟩
 have:=I.len;rw[hN]at this;exact Nat.succ.inj this
theorem A7c {k:Nat}{x cn v c2 n y:Str}{M:List Str}{st:Stmt}{f Fc:Addr}{fd:FuncData}{spr:Sp}{vp cp cpos epos yp hpos tpos ap bp spos:Pos}
 (F:Fun K x x st f fd) (S:Bh (cn::v::c2::n::M) [cn] (Am st)) (hb:Binds K fd [cn] []) (hm:mg x=some (.ref f)) (hy:mg y=some (.ref Fc))
 (h1:∀(cdv:Value) (A:Around) (outer:List Env) (s:Shared) (H:Hp),QS (Hd CX0 P w K mg base (cn::v::c2::n::M) x (Am st) f cdv A outer s H E0).nox ((Dr st).headD (.Pass ⟨0,0,0,0⟩)) (Vi (Av2 (Cy (tC .non) (Cy (tC .non) Gx))) (A1d K 2 (Us (Ju 1) (Us (Ju 2) Az2)))))
 (hrest:∀(cdv:Value) (A:Around) (outer:List Env) (s:Shared) (H₀ H:Hp) (vs:List V) (Q:VK) (E:XK),Room k (A.deeper (envOfC x (Am st) s.heap.objs.size f cdv))->spr vs H Q E ->
  ∃t,PSs (Hd CX0 P w K mg base (v::c2::n::M) x (Am st) f cdv A outer s H₀ E).nox ((Dr st).drop 2) t/\t { nx:=fun _ H'=>Q .non H',rt:=Q } (start (v::c2::n::M) vs) H)
 (hst:Dr st=(Dr st).headD (.Pass ⟨0,0,0,0⟩)::.Try [.Assign [.Name v vp] (.Call (.Name cn cp) [] [] cpos) epos] [.ExceptHandler (some (.Name y yp)) (some n) [.Assign [.Name c2 ap] (.Name n bp) spos] hpos] [] [] tpos::(Dr st).drop 2:=by rfl)
 (hg:(Am st).names.lookup y=some .globalImplicit:=by rfl) (lv:(Am st).names.lookup v=some .local:=by rfl) (l2:(Am st).names.lookup c2=some .local:=by rfl) (ln:(Am st).names.lookup n=some .local:=by rfl) (lc:(Am st).names.lookup cn=some .local:=by rfl)
 (hsw:∀env,swapsWith (.Call (.Name cn cp) [] [] cpos) (some (.Name v vp)) epos.line env=pure false:=by exact fun _=>rfl) (hsw2:∀env,swapsWith (.Name n bp) (some (.Name c2 ap)) spos.line env=pure false:=by exact fun _=>rfl)
 (d1:(cn==("__debug__" : Str))=false:=by decide) (d2:(n==("__debug__" : Str))=false:=by decide) (d3:(y==("__debug__" : Str))=false:=by decide) (d4:(cn==("__classdict__" : Str))=false:=by decide) (d5:(n==("__classdict__" : Str))=false:=by decide):Told P w K mg base x (k+1) Fc spr:=by
 obtain⟨oc,od,kV,doc,pm,an,cdv,ct,osl,rfl,lk,hcd⟩:=F.ex
 refine⟨f,F.kp,hm,fun A outer s H fl te Q hr e0 hmo ht q=>?_⟩
 have KX:K.In s.heap:=e0.mod.kin.keeps fun b o e=>(e0.bs b o e).1
 have lim:s.heap.NoLimit:=e0.mod.nolimit.keeps fun b o e=>(e0.bs b o e).1
 have hkind:∀y∈[cn].zip [Value.ref fl],(Am st).names.lookup y.1=some .local\/((Am st).names.lookup y.1=some .cell/\((cellsFrom (s.heap.objs.size+1) (Am st).names []).lookup y.1).isSome=true):=fun⟨n,v⟩ hy=>by
  cases List.mem_singleton.mp hy
  exact .inl lc
 refine codeAny_call_function hr.depth (KX _ _ lk) rfl S.co S.gen rfl (PySem.W.codeRec_of KX hcd) (hb s [.ref fl] KX rfl _ _ _ _ ?_)
 refine wpAny_newFunctionEnv_cells S.kind hkind fun env he s1' xx=>?_
 subst he
 refine⟨lim.keeps xx.toInCall.keep,codeAny_func ?_⟩
 have I0:Inv (Hd CX0 P w K mg base (cn::v::c2::n::M) x (Am st) f cdv A outer s H E0) [] (start (cn::v::c2::n::M) [.ref fl]) H s1':=V1 S hr.hd e0 rfl (.cons rfl .nil) xx;have I:Inv (Hd CX0 P w K mg base (cn::v::c2::n::M) x (Am st) f cdv A outer s H E0).nox [] (some (.ref fl)::none::none::none::List.replicate M.length none) H s1':=I0.wish _;have hr2:=hr.deeper (envOfC x (Am st) s.heap.objs.size f cdv)
 refine wpAny_mono (Q:=SP (Hd CX0 P w K mg base (v::c2::n::M) x (Am st) f cdv A outer s H E0).nox [] { nx:=fun _ H'=>Q .non H',rt:=Q }) (E:=fun _ _=>False) ?_ (fun fw s' hs=>?_) fun _ _ z=>z.elim
 ·generalize hB:(Dr st).headD (.Pass ⟨0,0,0,0⟩)=s1 at hst h1
  generalize hC:(Dr st).drop 2=rest at hst hrest
  show wpAny _ _ (execs (Dr st) _) _ _ _
  rw[hst]
  refine wpAny_execs_cons (thn ((h1 cdv A outer s H).get [] s1' _ H { nx:=fun σ' H'=>σ'=some (.ref fl)::some .non::some .non::none::List.replicate M.length none/\Same H H',rt:=fun _ _=>False } I ⟨by show 2<=sizeLine;decide,fun p hp=>⟨p,_,rfl,SqT.of Be,rfl,.non,_,rfl,.non,_,rfl,rfl,rfl,fun b u e=>by rw[Ao (Ba e hp)];exact e⟩⟩) fun fw s2 q2=>?_)
  cases fw with
  | ret _=>obtain⟨_,_,_,_,_,z⟩:=q2;exact z.elim
  | brk=>obtain⟨_,_,_,z⟩:=q2;exact z.elim
  | cont=>obtain⟨_,_,_,z⟩:=q2;exact z.elim
  | next =>
  obtain⟨σ2,H2,I2,rfl,sm⟩:=q2
  have hpx:PX (Hd CX0 P w K mg base (cn::v::c2::n::M) x (Am st) f cdv A outer s H E0).nox (.Call (.Name cn cp) [] [] cpos) (fun σ H' Q' E'=>σ[0]?=some (some (.ref fl))/\te H' Q' E'):=by
   intro pins s' σ' H' Q' E' I' ⟨e1,q1⟩
   refine wpAny_Call_Name_kw ?_
   refine wpAny_mono (Xj (i:=0) rfl (Or.inl lc) d1 d4 pins s' σ' H' (fun v H2=>v=.ref fl/\H2=H') I' ⟨_,e1,rfl,rfl⟩) (fun u s2 ⟨v,H2,I2,r,hv,hH⟩=>?_) (fun _ _ z=>z.elim)
   subst hv hH
   cases (show u=Value.ref fl from r)
   obtain⟨fa,run⟩:=ht _ s2 H2 Q' E' I2.env0 I2.base I2.os q1
   refine callWith_F0 fa (wpAny_call (codeAny_mono run fun r s3 hq=>?_))
   cases r with
   | error ev=>exact⟨H2,s2,I2,hq⟩
   | ok fl =>
    cases fl with
    | ret u=>exact I2.after hq
    | next=>exact False.elim hq
    | brk=>exact False.elim hq
    | cont=>exact False.elim hq
  have su:∀a,PSs (Qd (Hd CX0 P w K mg base (cn::v::c2::n::M) x (Am st) f cdv A outer s H E0).nox a) [.Assign [.Name c2 ap] (.Name n bp) spos] (Vi (Oz 3) (Ju 2)):=fun a=>An1 (A0f S.nd rfl (Or.inl l2) (Xj rfl (Or.inl ln) d2 d5) (hsw2 _) (.inl rfl))
  have tr:PS (Hd CX0 P w K mg base (cn::v::c2::n::M) x (Am st) f cdv A outer s H E0).nox (.Try [.Assign [.Name v vp] (.Call (.Name cn cp) [] [] cpos) epos] [.ExceptHandler (some (.Name y yp)) (some n) [.Assign [.Name c2 ap] (.Name n bp) spos] hpos] [] [] tpos) _:=A6j (i:=1) (j:=3) hpx rfl ⟨rfl,rfl⟩ S.nd rfl (Or.inl lv) rfl ln hg hy su (hsw _) d3 (.inl rfl)
  refine wpAny_execs_cons (thn (tr [] s2 _ H2 { nx:=fun σ' H'=>∃u1 u2,σ'=some (.ref fl)::some u1::some u2::none::List.replicate M.length none/\spr [u1,u2] H' Q E0,rt:=fun _ _=>False } I2
   ⟨rfl,hmo _ _ _ _ _ (fun u H3 z=>⟨u,.non,rfl,z⟩) (fun c m H3 ⟨C,e1,e2,e3⟩=>⟨C,e1,e2,fun a ha=>⟨.ref a,rfl,.non,.ref a,rfl,e3 a ha⟩⟩) (q H2 sm)⟩) fun fw s3 q3=>?_)
  cases fw with
  | ret _=>obtain⟨_,_,_,_,_,z⟩:=q3;exact z.elim
  | brk=>obtain⟨_,_,_,z⟩:=q3;exact z.elim
  | cont=>obtain⟨_,_,_,z⟩:=q3;exact z.elim
  | next =>
  obtain⟨σ3,H3,I3,u1,u2,rfl,qs⟩:=q3;obtain⟨t,h2,q2⟩:=hrest cdv A outer s H H3 [u1,u2] Q E0 hr2 qs;exact h2 [] s3 _ H3 _ (I3.tail rfl) q2
 ·have fin:∀{σ':St} {H':Hp} {v':V} {u:Value},Inv (Hd CX0 P w K mg base (v::c2::n::M) x (Am st) f cdv A outer s H E0).nox [] σ' H' s'->RelV v' u->Q v' H'->CE outer P w H s Q u s' :=
   fun {σ' H' v' u} J rv q=>⟨v',H',J.os,J.bare,J.base,J.hok,rv,q⟩
  cases fw with
  | ret u =>
   obtain⟨v',σ',H',J,rv,q⟩:=hs;exact fin J rv q
  | next =>
   obtain⟨σ',H',J,q⟩:=hs;exact fin (v':=V.non) (u:=Value.none) J rfl q
  | brk=>obtain⟨_,_,_,q⟩:=hs;exact q.elim
  | cont=>obtain⟨_,_,_,q⟩:=hs;exact q.elim
end
def tNs:List Nat->TA
 | []=>Gx
 | j::r=>Cy (Oz j) (tNs r)
def Bq6 (K:PySem.W.Frag)(Fc:Addr)(spg spr:Sp)(js:List Nat):TE:=fun σ H Q=>∀H1,Same H H1->tNs js σ H1 fun vs H2=>spg vs H2 (fun u H3=>spr [u,.non] H3 Q E0) (Bv8 K Fc spr Q)
theorem Ai4 {σ:St}:∀{js:List Nat}{H:Hp}{k:List V->Hp->Prop},tNs js σ H k->∃vs:List V,js.map (fun j=>σ[j]?)=vs.map (fun v=>some (some v))/\k vs H
 | [],_,_,h=>⟨[],rfl,h⟩
 | j::r,H,k,⟨v,e,h⟩=>by
  obtain⟨vs,e2,h2⟩:=Ai4 (js:=r) (k:=fun vs H=>k (v::vs) H) h
  exact⟨v::vs,by rw[List.map_cons,List.map_cons,e,e2],h2⟩
theorem A2d {σ:St}:∀{js:List Nat}{vs:List V}{H:Hp}{k:List V->Hp->Prop},js.map (fun j=>σ[j]?)=vs.map (fun v=>some (some v))->k vs H->tNs js σ H k
 | [],[],_,_,_,h=>h
 | j::r,v::vs,H,k,e,h=>by
  obtain⟨e1,e2⟩:=List.cons.inj e
  exact⟨v,e1,A2d (js:=r) (k:=fun vs H=>k (v::vs) H) e2 h⟩
 | [],_::_,_,_,e,_=>by cases e
 | _::_,[],_,_,e,_=>by cases e
theorem Aq6 {σ:St}{js:List Nat}{vs:List V}(e:js.map (fun j=>σ[j]?)=vs.map (fun v=>some (some v))):(List.range js.length).map (fun j=>(cst (js.map some) σ)[j]?)=vs.map (fun v=>some (some v)):=by
 refine List.ext_getElem? fun i=>?_
 have:=congrArg (fun l=>l[i]?) e
 simp only[List.getElem?_map]at this ⊢
 by_cases h:i<js.length
 ·rw[List.getElem?_range h]
  rw[List.getElem?_eq_getElem h]at this
  cases ev:vs[i]? with
  | none=>rw[ev]at this;cases this
  | some v =>
   rw[ev]at this;simp only[Option.map_some,Option.some.injEq]at this ⊢
   simp[cst,List.getElem?_eq_getElem h,this]
 ·rw[List.getElem?_eq_none (by rw[List.length_range];omega)]
  rw[List.getElem?_eq_none (by omega)]at this
  exact this
theorem HLam.same {H H':Hp}(h:HLam H H'):Same H H':=by
 rcases h with rfl | ⟨c,o,hn,rfl⟩
 ·exact Same.refl _
 ·exact fun b u e=>by rw[Ao (Ba e hn)];exact e
section
variable {X:Cx}{p pos lpos:Pos}
theorem Az5 {Kq:PySem.W.Frag}(hKq:X.K=Kq){x qn:Str}{k kg k':Nat}{Fc c T:Addr}{spg spr:Sp}{params:Arguments}{body:Expr}{scope:Scope}{G:List Str}{js:List Nat}(D:Told X.prog X.w X.K X.mg X.base x k Fc spr)(hT:(T,qn)∈Dy X.K)(hC:codeHdIn X.K c T=true)(hcode:X.env.code=.ref c)(hr:Room k' X.A)
 (hmo:∀vs,Ae1 (spg vs)) (L:Tf X G (js.map some) scope)
 (hb:∀f cv cl A stk s H E,Room kg (A.deeper (envX qn scope s.heap.objs.size f cv cl))->QE (Vr X.prog X.w X.K X.mg X.base G scope cl qn f cv A stk s H E) body (Kv spg [] E (tNs (List.range js.length)))) (h:k<=k':=by omega) (h2:kg+2<=k':=by omega) (hg:Gl X x:=by rfl)
 (hco:scope.isCoroutine=false:=by rfl) (hgen:scope.isGenerator=false:=by rfl) (hq:X.env.qual ++ "<lambda>" = qn:=by rfl) (hdef:defaultsOf params X.env=([],[]):=by rfl)
 (hbind:∀cl pm cv ctv,bindArgs (kla_fn "<lambda>" qn params body scope cl pm cv ctv) ⟨[],[]⟩=pure []:=by exact fun _ _ _ _=>rfl)
 (hdb:(x==("__debug__" : Str))=false:=by decide) (he:starEach [.Lambda params body scope lpos] X.env=(false,eval (.Lambda params body scope lpos) X.env)::starEach [] X.env:=by rfl) :
 QE X (.Call (.Name x p) [.Lambda params body scope lpos] [] pos) (Bq6 Kq Fc spg spr js):=by
 subst hKq
 refine⟨fun pins s σ H Q I q=>?_⟩
 obtain⟨f,kp,m,run⟩:=D
 refine wpAny_Call_Name_kw (Ir I hg m ?_ hdb)
 refine PySem.W.callWith_K (h₀:=X.base) I.ok.mod.kin kp ?_ he rfl
 rw[he]
 obtain⟨cl,hclos,c1,c2⟩:=J8 (env:=X.env) (scope:=scope) fun y hy hf=>I.ok.has y.1 (L.free y hy hf)
 refine Calls.spliced_cons (A5o I hT hC hcode hq hdef hclos fun fl s1 H1 pm cv ctv I1 hl hcd=>?_)
 refine Calls.spliced_nil ⟨I1.kIn,?_⟩
 obtain⟨vs,ev,_⟩:=Ai4 (q H1 hl.same)
 refine wpAny_call (codeAny_mono (run X.A X.stack s1 H1 fl (spg vs) Q (hr.mono h) I1.env0 (hmo vs) ?_ fun H2 sm=>by
  obtain⟨vs2,ev2,q2⟩:=Ai4 (q H2 (hl.same.trans sm))
  cases (List.map_inj_right fun a b z=>by cases z;rfl).mp (ev.symm.trans ev2)
  exact q2) fun r s' hq=>?_)
 ·intro env s' H' Q' E' e0 un os qe
  obtain⟨_,_,J,_,rfl⟩:=I1.after (s':=s') (Q:=fun _ H2=>H2=H') (u:=.none) ⟨.non,H',os,e0.bare,un,e0.hok,rfl,rfl⟩
  have pin:=(J.pin (fl,Ad9 qn params body scope cl pm cv ctv) (List.mem_append_right _ (List.mem_append_right _ List.mem_cons_self))).1
  refine⟨⟨_,_,_,_,pin⟩,?_⟩
  obtain⟨c0,o,us,t0,rfl,hc,d⟩:=hcd;have hcd2:LamCd qn (.ref c0) _:=⟨c0,o,us,t0,rfl,un.frzs _ _ _ hc,d⟩;have rm:Room (kg+1) (X.A.deeper env):=(hr.mono h2).deeper env
  refine A7p L hco hgen (hbind cl pm _ ctv) rm (hb fl _ cl _ _ s' _ E' (rm.deeper _)) e0 J pin (hcd2.rec J.hok) c1 c2 ?_
  refine A2d (Aq6 ev) ?_
  show spg (vs++[]) _ _ _
  rw[List.append_nil];exact qe
 ·cases r with
  | error ev=>exact(show False from hq).elim
  | ok fw =>
   cases fw with
   | ret u =>
    obtain⟨v',H',J',r',q⟩:=I1.after hq
    exact⟨v',H',J'.pins_of fun p hp=>J'.pin p (List.mem_append_right _ (List.mem_append_left _ hp)),r',q⟩
   | next=>exact False.elim hq
   | brk=>exact False.elim hq
   | cont=>exact False.elim hq
end
end L2
namespace U
open PySem L2 PySem.W
section
variable {K:PySem.W.Frag}
def Ss (F:List PyData->XF)(G:List O->FR)(NS:List Str)(fa:Ev->R (List PV)):Ev->R PV:=fun c=>(fa c).bind fun ps c=>match Mv c ps with
 | none=>.bad
 | some ds=>match F ds with
  | .ret (.im d)=>T4 G [.o (.im d),.o (.im .none)] c
  | .ex nm=>if NS.contains nm.n=true then T4 G [.o (.im .none),.o (.ty (.xc nm))] c else .bad
  | _=>.bad
theorem Z1 {F:List PyData->XF}(vs:List V):Ae1 (spX K F vs):=by
 intro H Q Q' E E' hQ hE h;obtain⟨Hf,ds,s,t,m⟩:=h
 refine⟨Hf,ds,s,t,?_⟩
 cases e:F ds with
 | bad=>rw[e]at m;exact m
 | ret o=>rw[e]at m;exact fun v Hf' H' fp a b c=>hQ _ _ (m v Hf' H' fp a b c)
 | ex nm=>rw[e]at m;exact fun C d Hf' H' a b c=>hE _ _ _ (m C d Hf' H' a b c)
theorem A2c {F:List PyData->XF}{G:List O->FR}{Fc:Addr}{NS:List Str}{js:List Nat}{fa:Ev->R (List PV)}(hx:∀nm∈NS,∀C,PySem.W.nsIn K mainGlobals nm=some (some (.ref C))->PySem.W.exmOne K (.ref C) (.ref Fc)=some true)(ha:MA K (tNs js) fa) :
 ME K (Bq6 K Fc (spX K F) (spP K G) js) (Ss F G NS fa):=by
 intro β W c σ Q R s H1 sm
 have R0:Rep K β ⟨W.Hf,H1,W.fps⟩ c σ:=Stp.rep (S':=fun _=>False) R (Mu sm) fun a o e=>sm a o (R.sub a o e)
 refine ha β ⟨W.Hf,H1,W.fps⟩ c σ _ R0 (s.bnd.mono fun ps c1 s1 vs W1 st R1 r1=>?_)
 have st:Stp W.S W.Hf W.H W1.S W1.Hf W1.H:=(Mu (Hf:=W.Hf) sm).trans st
 cases ea:Mv c1 ps with
 | none=>simp only[ea]at s1;exact s1.elim
 | some ds =>
  simp only[ea]at s1
  refine⟨W1.Hf,ds,R1.sub,Mq R1 r1 ea,?_⟩
  have go:∀{Hf' H':Hp},Stp (fun _=>False) W1.Hf W1.H (fun _=>False) Hf' H'->Stp W.S W.Hf W.H (Wo.S ⟨Hf',H',W1.fps⟩) Hf' H':=fun {Hf' H'} s2=>st.trans ⟨s2.fz,fun a o e _=>s2.kp a o e fun z=>z,fun a o e mu _ q=>s2.nf a o e mu (fun z=>z) q,fun a z=>.inl z⟩
  split at s1
  ·rename_i d ef
   rw[ef];intro v Hf' H' fp s2 sub r;obtain⟨rfl,tv⟩:=r
   have s2:Stp (fun _=>False) W1.Hf W1.H (fun _=>False) Hf' H':=s2.less fun a z=>nomatch z
   have R2:Rep K β ⟨Hf',H',W1.fps⟩ c1 σ:=Stp.rep R1 s2 sub
   exact P0 (W1:=⟨Hf',H',W1.fps⟩) (ps:=[.o (.im d),.o (.im .none)]) (vs:=[v,.non]) R2 ⟨v,_,rfl,tv,.non,_,rfl,rfl,rfl⟩ (s1.mono fun p c' s3 v' W' fp st' R' r'=>s3 v' W' fp ((go s2).trans st') R' r')
  ·rename_i nm ef
   split at s1
   ·rename_i hc
    rw[ef];intro C d Hf' H' hn s2 sub
    refine⟨C,rfl,hx nm.n (by simpa using hc) C hn.ns,fun a fa0=>?_⟩
    have s4:Stp (fun _=>False) Hf' H' (fun _=>False) (upd Hf' a (Lb a C d)) (upd H' a (Lb a C d)):=Stp.newF sub fa0
    have R2:Rep K β ⟨Hf',H',W1.fps⟩ c1 σ:=Stp.rep R1 s2 sub;have R3:Rep K β ⟨upd Hf' a (Lb a C d),upd H' a (Lb a C d),W1.fps⟩ c1 σ:=Stp.rep (W:=⟨Hf',H',W1.fps⟩) R2 s4 (N8 sub)
    exact P0 (W1:=⟨upd Hf' a (Lb a C d),upd H' a (Lb a C d),W1.fps⟩) (ps:=[.o (.im .none),.o (.ty (.xc nm))]) (vs:=[.non,.ref a]) R3 ⟨.non,_,rfl,rfl,.ref a,_,rfl,⟨a,C,d,rfl,hn.same s4.fz,Be⟩,rfl⟩
     (s1.mono fun p c' s3 v' W' fp st' R' r'=>s3 v' W' fp ((go (s2.trans s4)).trans st') R' r')
   ·exact s1.elim
  ·exact s1.elim
def Bb0 (P:Program)(w:World)(K:PySem.W.Frag)(mg:Str->Option Value)(base:Heap)(x:Str)(k:Nat)(NS:List Str)(spr:Sp):Prop:=∃Fc,Told P w K mg base x k Fc spr/\ExOk K Fc NS
end
end U
namespace L2
open PySem PySem.Spec PyProof.Rows PySem.W
section
variable {prog:Program}{w:World}{A:Around}{E:Value->Shared->Prop}{h:Heap}{g:Array GenState}{d:Drawn}{t:Nat}{os:OsState}{K:Frag}
variable {nm q:Str}{C N:Addr}{bs bm:List Value}{hdct:Bool}{sn:List Str}{sub:List Value}{ab:Bool}{col:Option Bool}{dd:Option Addr}{k0 k1 k2 k3 k5:Option Value}
theorem A8y {rest:List Value}{fI:Addr}{oI:Obj}{Q:Fin->Shared->Prop}(X:K.In h)(T:OwnTail h bmV bm)(hC:h.get? C=some (excClassObj nm q C N bs bm hdct sn sub ab col dd k0 k1 k2 k3 k5 "ValueError.__new__")) (hi:findIn K (.ref C) "__init__" = some (some (.ref fI)))
 (hf:h.get? fI=some oI) (hc:oI.cls=.type "function") (hr:rest.length<=sizeLine)
 (hq:∀h' e,Heap.MadeExcOf h h' e (.ref C) rest->h.objs.size<=e->wpAny (model prog w) A (call (.ref fI) (.ref e::rest)) (fun r s'=>r=.none/\Q (.done (.ret (.ref e))) s') E ⟨h',g,d,t,os⟩) :
 wpAny (model prog w) A (Builtin.«type.__call__» ⟨.ref C::rest,[]⟩) Q E ⟨h,g,d,t,os⟩:=by
 have F:=PySem.F.excBase_ValueError
 repeat (first | with_reducible refine wpAny_loadPart_at hC ?_ | with_reducible refine wpAny_madeBy_exc hC ?_ | wp_step)
 refine codeAny_call_builtin_code (Code.quiet_builtin _ F.quiet) (wpAny_check_new_subT F T hC ?_)
 refine codeAny_exc_new_subT F T hC ?_ hr
 show wpAny _ _ _ _ _ _
 have M:Heap.MadeExcOf h ((h.push { cls:=.type "tuple",data:=.seq rest.toArray }).push { cls:=.ref C,data:=.fields #[.ref h.objs.size,.none,.none,.none,.bool false,.none] }) (h.objs.size+1) (.ref C) rest :=
  ⟨fun b o z=>Heap.get?_push_of_some _ (Heap.get?_push_of_some _ z),Heap.get?_none_of_le (Nat.le_succ _),h.objs.size,by heap_get,Heap.get?_none_of_le (Nat.le_refl _),Heap.get?_push_of_some _ (Heap.get?_push_at rfl rfl)⟩
 generalize (h.push { cls:=.type "tuple",data:=.seq rest.toArray }).push { cls:=.ref C,data:=.fields #[.ref h.objs.size,.none,.none,.none,.bool false,.none] }=h1 at M ⊢;have le:h.objs.size<=h.objs.size+1:=Nat.le_succ _;generalize h.objs.size+1=e at M le ⊢;obtain⟨t0,hget,_⟩:=M.there
 have hcC:(Value.ref C::bm).contains (.ref C)=true:=by simp
 unfold isInstance
 repeat (first | with_reducible refine wpAny_loadPart_at hget ?_ | (with_reducible refine wpAny_isSubtype_exc (M.keeps _ _ hC) ?_;rw[hcC]) | wp_step)
 show wpAny _ _ (typeLookup (.ref C) _) _ _ _
 refine (looks_findIn (X.keeps M.keeps) hi).here ?_
 refine wpAny_holding (wpAny_bind ?_)
 unfold bindSpecial
 refine wpAny_bind (wpAny_typeOf (T := "function") ⟨_,M.keeps _ _ hf,hc⟩ ?_)
 rw[if_pos (by decide)]
 refine wpAny_pure (wpAny_bind (wpAny_mono (hq _ _ M le) (fun r s' z=>?_) fun _ _ x=>x))
 obtain⟨rfl,hQ⟩:=z
 wp_walk
 exact hQ
theorem Ar3 {rest:List Value}{fI:Addr}{oI:Obj}{Q:Value->Shared->Prop}(X:K.In h)(T:OwnTail h bmV bm)(hC:h.get? C=some (excClassObj nm q C N bs bm hdct sn sub ab col dd k0 k1 k2 k3 k5 "ValueError.__new__")) (hi:findIn K (.ref C) "__init__" = some (some (.ref fI)))
 (hf:h.get? fI=some oI) (hc:oI.cls=.type "function") (hr:rest.length<=sizeLine)
 (hq:∀h' e,Heap.MadeExcOf h h' e (.ref C) rest->h.objs.size<=e->wpAny (model prog w) (A.under (.builtin "type.__call__" ⟨.ref C::rest,[]⟩)) (call (.ref fI) (.ref e::rest)) (fun r s'=>r=.none/\Q (.ref e) s') E ⟨h',g,d,t,os⟩) :
 wpAny (model prog w) A (call (.ref C) rest) Q E ⟨h,g,d,t,os⟩:=by
 have f1:=tc_lookup;have f2:=tc_bind (.ref C);have hT:(⟨h,g,d,t,os⟩:Shared).TypeIs (.ref C) "type" := ⟨_,hC,rfl⟩
 refine wpAny_call (codeAny_of_tree ?_)
 show wpAny _ _ (callAny (.ref C) _) _ _ _
 repeat (any_goals (first | assumption | with_reducible refine wpAny_loadPart_at hC ?_ | wp_step))
 refine⟨rfl,codeAny_call_builtin_at (Code.quiet_builtin _ (by decide +kernel)) entry_typeCall (wpAny_check_type_call_sub hC (A8y X T hC hi hf hc hr fun h' e m l=>?_))⟩
 exact hq h' e m l
end
section
variable {prog:Program}{w:World}{M:Model}{A:Around}{E:Value->Shared->Prop}{s:Shared}{env:Env}
variable {nm q:Str}{C N:Addr}{bs bm:List Value}{hdct:Bool}{sn:List Str}{sub:List Value}{ab:Bool}{col:Option Bool}{dd:Option Addr}{k0 k1 k2 k3 k5:Option Value}{newId:String}
abbrev Kw (C:Addr)(d:Option Addr)(t:Addr):Obj:={ cls:=.ref C,dict:=d,data:=.fields #[.ref t,.none,.none,.none,.bool false,.none] }
theorem A1k {x:Sem Value}{Q:Flow->Shared->Prop}(hb:bm.contains (.type "BaseException")=true) (hh:A.handled=none)
 (h:wpAny M A x (fun v s1=>∃e d t,v=.ref e/\s1.heap.get? C=some (excClassObj nm q C N bs bm hdct sn sub ab col dd k0 k1 k2 k3 k5 newId)/\s1.heap.get? e=some (Kw C d t)/\E (.ref e) s1) E s) :
 wpAny M A (raiseStmt env (some x) none) Q E s:=by
 have hB:(Value.ref C::bm).contains (.type "BaseException")=true:=by rw[List.contains_cons,hb,Bool.or_true]
 unfold raiseStmt
 refine wpAny_bind (wpAny_mono h (fun v s1 z=>?_) fun _ _ x=>x)
 obtain⟨e,d0,t0,rfl,hC,he,hE⟩:=z;obtain⟨hp,g,d,tk,os⟩:=s1
 repeat (first | with_reducible refine wpAny_loadPart_at he ?_ | with_reducible refine wpAny_loadPart_at hC ?_ | (with_reducible refine wpAny_isSubtype_exc hC ?_;rw[hB]) | wp_step)
 exact wpAny_raiseNew_none hh hE
theorem Ad5 {x:Str}{np cpos pos:Pos}{args:List Expr}{Q:Flow->Shared->Prop}(hb:bm.contains (.type "BaseException")=true) (hh:A.handled=none) (hpl:(backTo cpos (starEach args env)).any (·.1)=false)
 (h:wpAny (model prog w) A (eval (.Name x np) env) (fun f s1=>f=.ref C/\wpAny (model prog w) A (evalArgs (.ref C) true (backTo cpos (starEach args env)) [])
  (fun a s2=>a.kw=[]/\s2.heap.get? C=some (excClassObj nm q C N bs bm hdct sn sub ab col dd k0 k1 k2 k3 k5 newId)/\wpAny (model prog w) A (call (.ref C) a.pos) (fun v s3=>∃e d t,v=.ref e/\s3.heap.get? C=some (excClassObj nm q C N bs bm hdct sn sub ab col dd k0 k1 k2 k3 k5 newId)/\s3.heap.get? e=some (Kw C d t)/\E (.ref e) s3) E s2) E s1) E s) :
 wpAny (model prog w) A (exec (.Raise (some (.Call (.Name x np) args [] cpos)) none pos) env) Q E s:=by
 rw[arm_exec_Raise]
 refine wpAny_bind (wpAny_standAt (A1k (C:=C) (nm:=nm) (q:=q) (N:=N) (bs:=bs) (bm:=bm) (hdct:=hdct) (sn:=sn) (sub:=sub) (ab:=ab) (col:=col) (dd:=dd) (k0:=k0) (k1:=k1) (k2:=k2) (k3:=k3) (k5:=k5) (newId:=newId) hb hh ?_))
 refine wpAny_bind (wpAny_mono (wpAny_Call_ofName (wpAny_mono h (fun f s1 z=>?_) fun _ _ x=>x)) (fun v s3 z=>wpAny_bind (wpAny_standAt (wpAny_pure z))) fun _ _ x=>x)
 obtain⟨rfl,z⟩:=z;unfold callWith
 refine wpAny_bind (wpAny_holding (wpAny_mono z (fun a s2 y=>wpAny_bind (wpAny_standAt ?_)) fun _ _ x=>x))
 obtain⟨apos,akw⟩:=a;obtain⟨hkw,hC,y⟩:=y;obtain rfl:akw=[]:=hkw;obtain⟨hp,g,d,tk,os⟩:=s2;simp only[hpl]
 refine wpAny_bind (wpAny_keeperOf_exc hC ?_)
 exact wpAny_bind (wpAny_mono y (fun v s3 z=>wpAny_bind (wpAny_holding (wpAny_point (wpAny_pure z)))) fun _ _ x=>x)
end
end L2
namespace L2
open PySem PySem.Spec PyProof.Rows PySem.W Builtin Builtin.ObjectAttr
section
variable {prog:Program}{w:World}{A:Around}{E:Value->Shared->Prop}{h:Heap}{g:Array GenState}{d:Drawn}{t:Nat}{os:OsState}{K:Frag}{s:Shared}
variable {nm q f:Str}{C N F e t0:Addr}{bs bm:List Value}{sn:List Str}{sub:List Value}{ab:Bool}{col:Option Bool}{dd:Option Addr}{k0 k1 k2 k3 k5:Option Value}{v:Value}
theorem A4b {pl:Sem Bool}{Q:Value×List Value->Shared->Prop}(X:K.In s.heap)(hm:typeIn K (.ref F)=some (.type "type")) (hs:nsIn K cStatics "thirdparty.any" = some none) (hf:findIn K (.ref F) "__init__" = some (some (.builtin "ValueError.__init__")))
 (hq:Q (.builtin "ValueError.__init__",[]) { s with toks:=s.toks+1 }):wpAny (model prog w) A (getMethod (.ref F) "__init__" pl) Q E s:=by
 have ga:findIn K (.type "type") "__getattribute__" = some (some (.builtin "type.__getattribute__")):=type_tga
 refine method_cls X (by unfold specialIn;rw[hm];exact ga) (cls_value (mc:=.type "type") (v:=.builtin "ValueError.__init__") X ?_ ?_ (by decide +kernel) hq)
 ·unfold readsIn
  rw[hs,hm,ga]
  rfl
 ·unfold findCls
  rw[hf]
  rfl
theorem A9a {u:Value}{Q:Value->Shared->Prop}(T:OwnTail h bmV bm)(hC:h.get? C=some (excClassObj nm q C N bs bm true sn sub ab col dd k0 k1 k2 k3 k5 "ValueError.__new__")) (he:h.get? e=some (Kw C none t0))
 (hq:∀h' t1,(∀b o,b≠e->h.get? b=some o->h'.get? b=some o)->h'.get? e=some (Kw C none t1)->Q .none ⟨h',g,d,t,os⟩):wpAny (model prog w) A (call (.builtin "ValueError.__init__") [.ref e,u]) Q E ⟨h,g,d,t,os⟩:=by
 have F:=PySem.F.excBase_ValueError
 refine wpAny_call (codeAny_call_builtin F.init.plain F.initEntry (wpAny_check_init_subT F T hC he rfl ?_))
 wp_walk
 refine hq _ h.objs.size (fun b o n z=>?_) ?_
 ·rw[Heap.get?_update_other _ _ (Ne.symm n)]
  exact Heap.get?_push_of_some _ z
 ·rw[Heap.get?_update_self _ (Heap.get?_push_of_some _ he) rfl]
  rfl
theorem Ab2 (T:OwnTail h bmV bm)(self:Value):refuseLoop self "__setattr__" bm=pure ():=by
 induction T with
 | base=>exact PySem.F.store_ValueError.passes self
 | own _ _ _ _ ih=>rw[refuseLoop_ref];exact ih
theorem Ay6 {M:Model}{nv:Value}{Q:Unit->Shared->Prop}(T:OwnTail h bmV bm)(hC:h.get? C=some (excClassObj nm q C N bs bm true sn sub ab col dd k0 k1 k2 k3 k5 "ValueError.__new__")) (he:h.get? e=some (Kw C none t0)) (hq:Q () ⟨h,g,d,t,os⟩) :
 wpAny M A (checkBuiltinCall "object.__setattr__" ⟨[.ref e,nv,v],[]⟩) Q E ⟨h,g,d,t,os⟩:=by
 have SF:=PySem.F.store_ValueError
 have hO:(Value.ref C::bm).contains (.type "object")=true:=by rw[List.contains_cons,T.hasType (X := "object") (b:=true) rfl];rfl
 have ha:=SF.args (.ref e) nv v;simp only[checkBuiltinCall,SF.kind,SF.split]
 refine wpAny_bind ?_
 unfold isInstance
 repeat (first | with_reducible refine wpAny_loadPart_at he ?_ | (with_reducible refine wpAny_isSubtype_exc hC ?_;rw[hO]) | wp_step)
 exact hq
theorem Aq0 {tk:Tok}{Q:Fin->Shared->Prop}(X:K.In h)(T:OwnTail h bmV bm)(hC:h.get? C=some (excClassObj nm q C N bs bm true sn sub ab col dd k0 k1 k2 k3 k5 "ValueError.__new__")) (hf:findIn K (.ref C) f=some none) (he:h.get? e=some (Kw C none t0))
 (hq:∀h' tk,(∀b o,b≠e->h.get? b=some o->h'.get? b=some o)->h'.get? e=some (Kw C (some h.objs.size) t0)->h'.Ns1 h.objs.size (fun y=>if y=f then some v else none)->Q (.done (.ret .none)) ⟨h',g,d,tk,os⟩) :
 wpAny (model prog w) A (Builtin.«object.__setattr__» ⟨[.ref e,.str f tk,v],[]⟩) Q E ⟨h,g,d,t,os⟩:=by
 have l2:=looks_findIn (M:=model prog w) X hf;have pass:=Ab2 T (.ref e);have ne:e≠h.objs.size:=Nat.ne_of_lt (Heap.lt_size he)
 generalize h1d:((h.push { cls:=.type "dict",data:=.dict #[] }).update e fun o=>{ cls:=o.cls,dict:=some h.objs.size,data:=o.data,slots:=o.slots })=h1
 have x1:h1.get? e=some (Kw C (some h.objs.size) t0):=by rw[<- h1d];exact Heap.get?_update_self _ (Heap.get?_push_of_some _ he) rfl
 have k1:∀b o,b≠e->h.get? b=some o->h1.get? b=some o:=fun b o n z=>by rw[<- h1d];exact(Heap.get?_update_ne _ _ _ _ n).trans (Heap.get?_push_of_some _ z)
 have n1:h1.Ns1 h.objs.size (fun _=>none):=Heap.Ns1.of_empty ⟨_,#[],_,by rw[<- h1d];exact(Heap.get?_update_ne _ _ _ _ ne.symm).trans (Heap.get?_push_at rfl rfl),rfl,fun e he=>absurd he (by simp),fun _=>rfl⟩
 unfold Builtin.«object.__setattr__»
 repeat (first | rw[h1d] | rw[refuse_eq] | rw[refuseLoop_ref,pass] | with_reducible refine wpAny_loadPart_at he ?_ | with_reducible refine wpAny_mroOf_exc hC ?_ | with_reducible refine l2.here ?_ | with_reducible refine wpAny_nsSet1 n1 fun h' hn hs=>?_ | wp_step)
 obtain⟨oD,eD,pD,hoD,hdD,hcD⟩:=hn.count (Within.cons f v Within.nil)
 refine wpAny_loadPart hoD ?_
 rw[hdD,pastItsLine_dict (Nat.le_trans hcD (by rw[List.length_cons,List.length_nil,sizeLine_eq];omega))]
 refine wpAny_pure (wpAny_pure (hq h' _ (fun b o n z=>?_) ((hs.2 e ne).trans x1) hn))
 exact(hs.2 b (Nat.ne_of_lt (Heap.lt_size z))).trans (k1 b o n z)
theorem Aw5 {Q:Unit->Shared->Prop}(X:K.In h)(T:OwnTail h bmV bm)(hC:h.get? C=some (excClassObj nm q C N bs bm true sn sub ab col dd k0 k1 k2 k3 k5 "ValueError.__new__")) (hs:findIn K (.ref C) "__setattr__" = some (some (.builtin "object.__setattr__"))) (hf:findIn K (.ref C) f=some none)
 (he:h.get? e=some (Kw C none t0))
 (hq:∀h' tk,(∀b o,b≠e->h.get? b=some o->h'.get? b=some o)->h'.get? e=some (Kw C (some h.objs.size) t0)->h'.Ns1 h.objs.size (fun y=>if y=f then some v else none)->Q () ⟨h',g,d,tk,os⟩) :
 wpAny (model prog w) A (setAttr (.ref e) f v) Q E ⟨h,g,d,t,os⟩:=by
 have SF:=PySem.F.store_ValueError;have f3:=SF.slot.bind (.ref e);have l1:=looks_findIn (M:=model prog w) X hs;unfold setAttr callSpecial? specialOf
 repeat (any_goals (first | assumption | with_reducible refine wpAny_loadPart_at he ?_ | with_reducible refine l1.here ?_ | wp_step))
 refine codeAny_call_builtin SF.slot.plain SF.entry (Ay6 T hC he (Aq0 X T hC hf he fun h' tk k1 k2 k3=>?_))
 repeat (any_goals (first | assumption | wp_step))
 exact hq h' tk k1 k2 k3
end
section
variable {prog:Program}{w:World}{A:Around}{E:Value->Shared->Prop}{h:Heap}{g:Array GenState}{d:Drawn}{t:Nat}{os:OsState}{a C dx:Addr}{o:Obj}{K:PySem.W.Frag}{f:Str}{v:Value}{m:Str->Option Value}
theorem A3k {tk:Tok}{vs:Array Value}{Q:Fin->Shared->Prop}(X:K.In h)(Z:Jz K C)(hf:findIn K (.ref C) f=some none)(hx:h.get? a=some o)(hc:o.cls=.ref C)(hd:o.dict=some dx)(ho:o.data=.fields vs)(hn:h.Ns1 dx m)(hm:m f=some v)(hq:Q (.done (.ret v)) ⟨h,g,d,t,os⟩) :
 wpAny (model prog w) A (Builtin.«object.__getattribute__» ⟨[.ref a,.str f tk],[]⟩) Q E ⟨h,g,d,t,os⟩:=by
 obtain⟨bm,Nn,nm,qn,bs,sn,sub,ab,col,dd,k0,k1,k2,k3,k5,hC,T⟩:=G9 X Z.exc;have lc:=looks_findIn (M:=model prog w) X hf;have ns:=hn.ns;obtain⟨oc,od,oa,ol⟩:=o
 cases hc;cases hd;cases ho
 unfold Builtin.«object.__getattribute__»
 repeat (any_goals (first | assumption | with_reducible refine wpAny_loadPart_at hx ?_ | with_reducible refine wpAny_loadPart_at hC ?_ | with_reducible refine lc.here ?_ | (with_reducible refine wpAny_nsGet ns ?_;rw[hm]) | wp_step))
theorem Bw1 {tk:Tok}{fill expr:Bool}{vs:Array Value}{Q:Value->Shared->Prop}(X:K.In h)(Z:Jz K C)(hf:findIn K (.ref C) f=some none)(hx:h.get? a=some o)(hc:o.cls=.ref C)(hd:o.dict=some dx)(ho:o.data=.fields vs)(hn:h.Ns1 dx m)(hm:m f=some v)(hh:handedOut v=pure v)(hq:Q v ⟨h,g,d,t,os⟩) :
 wpAny (model prog w) A (getAttrBy (.ref a) (.str f tk) fill expr) Q E ⟨h,g,d,t,os⟩:=by
 have f3:=PySem.F.excAttr_ValueError.ga.bind (.ref a)
 have x0:(expr&&onTheHeap (Value.builtin "BaseException.__getattribute__"))=false:=by cases expr <;> rfl
 have x2:(Value.builtin "BaseException.__getattribute__" == Value.builtin "object.__getattribute__")=false:=by decide +kernel
 have x1:(onTheHeap (Value.ref C)&&Value.builtin "BaseException.__getattribute__" == Value.builtin "object.__getattribute__")=false:=by rw[x2];rfl
 have l1:=looks_findIn (M:=model prog w) X Z.ga;have l2:=looks_findIn (M:=model prog w) X Z.gat
 repeat (any_goals (first | assumption | (with_reducible refine wpAny_loadPart_at hx ?_;rw[hc]) | with_reducible refine l1.here ?_ | with_reducible refine l2.here ?_ | wp_step))
 refine codeAny_call_builtin PySem.F.excAttr_ValueError.ga.plain PySem.F.entry_bexc_ga (Y7 X Z hx hc (A3k X Z hf hx hc hd ho hn hm ?_))
 repeat (any_goals (first | assumption | rw[hh] | wp_step))
theorem A8w {expr:Bool}{vs:Array Value}{Q:Value->Shared->Prop}(X:K.In h)(Z:Jz K C)(hf:findIn K (.ref C) f=some none)(hx:h.get? a=some o)(hc:o.cls=.ref C)(hd:o.dict=some dx)(ho:o.data=.fields vs)(hn:h.Ns1 dx m)(hm:m f=some v)(hh:handedOut v=pure v)(hq:Q v ⟨h,g,d,t+1,os⟩) :
 wpAny (model prog w) A (getAttr (.ref a) f expr) Q E ⟨h,g,d,t,os⟩:=by
 unfold getAttr
 repeat (any_goals (first | assumption | with_reducible apply Bw1 X Z hf hx hc hd ho hn hm hh | wp_step))
end
theorem Ae5 {x:V}{u:Value}(r:RelV x u):handedOut u=pure u:=by
 cases u with
 | builtin i=>cases x <;> first | (obtain⟨_,e⟩:=r;cases e) | cases r
 | _=>rfl
section
variable {X:Cx}{e:Expr}{f:Str}{pos:Pos}{ta:TE}
def tXF (K:PySem.W.Frag)(ta:TE)(f:Str):TE:=fun σ H Q=>ta σ H fun x H1=>∃a C dx v,x=.ref a/\H1 a=some (Lb a C (some dx))/\H1 dx=some (.xd [(f,v)])/\Jz K C/\findIn K (.ref C) f=some none/\Q v H1
theorem Bs0 (he:PE X e ta)(hb:attributeBase e f X.env (eval e X.env)=eval e X.env):PE X (.Attribute e f pos) (tXF X.K ta f):=by
 intro pins s σ H Q I h
 refine A8o hb (thn (he pins s σ H _ I h) fun u s1 ⟨x,H1,I1,rx,a,C,dx,v,ex,ea,ed,Z,n,q⟩=>?_)
 subst ex;obtain rfl:u=Value.ref a:=rx;obtain⟨⟨o,h1,h2,h3,vs,h4⟩,_⟩:=I1.hok a _ ea;obtain⟨mA,hn,hr⟩:=I1.hok dx _ ed;have hv:=hr f;rw[List.lookup_cons_self]at hv
 cases em:mA f with
 | none=>rw[em]at hv;exact hv.elim
 | some z =>
  rw[em]at hv;obtain⟨hp,g,d,t,os⟩:=s1;exact A8w I1.kIn Z n h1 h2 h3 h4 hn em (Ae5 hv) ⟨v,H1,I1.tok _,hv,q⟩
theorem Bq7 {Kq:PySem.W.Frag}(hK:X.K=Kq)(he:QE X e ta)(hb:attributeBase e f X.env (eval e X.env)=eval e X.env:=by rfl):QE X (.Attribute e f pos) (tXF Kq ta f):=by
 subst hK;exact⟨Bs0 he.get hb⟩
end
end L2
namespace L2
open PySem PySem.Spec PyProof.Rows PySem.W
def exI (e C:Addr)(d:Option Addr):HO:=.ext fun h=>∃t,h.get? e=some (Kw C d t)
theorem Ae0 {P:Program}{w:World}{H:Hp}{h:Heap}{e C t:Addr}{d:Option Addr}(z:h.get? e=some (Kw C d t)):z8 P w H h e (exI e C d):=⟨⟨t,z⟩,⟨_,z⟩,fun h1 h2 ⟨t,z⟩ k=>⟨t,k _ z⟩⟩
structure M7 (K:Frag) (C F:Addr) (f:Str):Prop where
 exc:Y4 K C=true
 sa:findIn K (.ref C) "__setattr__" = some (some (.builtin "object.__setattr__"))
 fld:findIn K (.ref C) f=some none
 ty:typeIn K (.ref F)=some (.type "type")
 third:nsIn K cStatics "thirdparty.any" = some none
 base:findIn K (.ref F) "__init__" = some (some (.builtin "ValueError.__init__"))
theorem A5n {H:Hp}{a:Addr}{o:HO}(h:H a=some o):upd H a o=H:=by
 funext b
 by_cases e:b=a
 ·subst e;rw[Be,h]
 ·rw[Ao e]
section
variable {X:Cx}{C F:Addr}{f x:Str}{p ap cp ep tp pos:Pos}{e o value:Expr}{es:List Expr}{t:TA}{ta tv:TE}
def Bd1 (C:Addr)(t:TA):TS:=fun D σ H=>t σ H fun vs H1=>∃e u,vs=[.ref e,u]/\H1 e=some (exI e C none)/\D.nx σ H1
theorem Bp0 (Z:M7 X.K C F f)(hg:Gl X x)(hm:X.mg x=some (.ref F))(ha:PA X (e::es) t)(hdb:(x==("__debug__" : Str))=false) (he:starEach (e::es) X.env=(false,eval e X.env)::starEach es X.env) (hpl:(backTo cp (starEach es X.env)).any (·.1)=false)
 (hsw:swapsWith (.Call (.Attribute (.Name x p) "__init__" ap) (e::es) [] cp) none ep.line X.env=pure false) (hl:(ap.endLine==cp.line)=true) (hfew:methodCallForm ((e::es).length+([]:List Keyword).length) (backTo cp (starEach (e::es) X.env)) (backToKw cp (keywordEach [] X.env))=true) :
 PS X (.Expr (.Call (.Attribute (.Name x p) "__init__" ap) (e::es) [] cp) ep) (Bd1 C t):=by
 intro pins s σ H D I h
 refine wpAny_Expr_any ?_ I.quiet hsw
 have hpos:methodCallPos true (.Name x p) X.env ap cp=pure cp:=by unfold methodCallPos;simp[hl]
 rw[arm_eval_Call,show attributeBase (.Name x p) "__init__" X.env (eval (.Name x p) X.env)=eval (.Name x p) X.env from rfl]
 refine wpAny_bind (Ir I hg hm ?_ hdb)
 refine wpAny_bind (wpAny_standAt ?_)
 unfold methodCall;rw[hfew]
 refine wpAny_bind (wpAny_holding (A4b I.kIn Z.ty Z.third Z.base ?_))
 refine wpAny_bind (wpAny_of_eq hpos ?_)
 refine PyProof.Rows.callWith_builtin1 (thn (ha cp pins _ σ H _ (I.tok _) h) fun us s1 ⟨vs,H1,I1,r1,a,u,ev,hE,q⟩=>?_) he hpl
 subst ev;obtain⟨u1,u2,rfl,r2,r3⟩:=vals2 r1
 cases (show u1=Value.ref a from r2)
 obtain⟨⟨t0,ha⟩,_⟩:=I1.hok a _ hE;obtain⟨bm,Nn,nm,qn,bs,sn,sub,ab,col,dd,k0,k1,k2,k3,k5,hC,T⟩:=G9 I1.kIn Z.exc;obtain⟨hp,g,d,tk,os⟩:=s1
 refine A9a T hC ha fun h' t1 k e1=>?_
 have I2:=I1.write (x:=a) (e:=a) (o:=exI a C none) (t':=tk) (by rw[hE];exact True.intro) (.inl rfl) k ⟨_,e1⟩ (Ae0 e1)
 rw[A5n hE]at I2;exact⟨σ,H1,I2,q⟩
def Bp3 (C:Addr)(f:Str)(ta tv:TE):TS:=fun D σ H=>tv σ H fun y H1=>ta σ H1 fun x H2=>∃e,x=.ref e/\H2 e=some (exI e C none)/\∀dx,H2 dx=none->D.nx σ (upd (upd H2 e (exI e C (some dx))) dx (.xd [(f,y)]))
theorem Bg3 (Z:M7 X.K C F f)(ha:PE X o ta)(hv:PE X value tv)(hs:swapsWith value (some (.Attribute o f tp)) pos.line X.env=pure false):PS X (.Assign [.Attribute o f tp] value pos) (Bp3 C f ta tv):=by
 intro pins s σ H D I h
 refine plainObj_wpAny_Assign_Attribute (thn (hv pins s σ H _ I h) fun u s1 ⟨y,H1,I1,ry,q⟩=>thn (ha pins s1 σ H1 _ I1 q) fun ov s2 ⟨x,H2,I2,rx,a,ex,hE,q2⟩=>?_) hs
 subst ex;obtain rfl:ov=Value.ref a:=rx;obtain⟨⟨t0,ha⟩,_⟩:=I2.hok a _ hE;obtain⟨bm,Nn,nm,qn,bs,sn,sub,ab,col,dd,k0,k1,k2,k3,k5,hC,T⟩:=G9 I2.kIn Z.exc;have fr:H2 s2.heap.objs.size=none:=I2.hok.fresh (Nat.le_refl _);have fp:K3 X pins H2 s2.heap.objs.size:=I2.fpOk (Nat.le_refl _) fr
 have nd:s2.heap.objs.size≠a:=fun z=>by rw[z,hE]at fr;cases fr
 have h0:X.s₀.heap.get? s2.heap.objs.size=none:=Heap.get?_none_of_le I2.sz;obtain⟨hp,g,d,tk,os⟩:=s2
 refine Aw5 I2.kIn T hC Z.sa Z.fld ha fun h' tk' k e1 n1=>?_
 have I3:=I2.write (x:=a) (e:=a) (o:=exI a C (some hp.objs.size)) (t':=tk') (by rw[hE];exact True.intro) (.inl rfl) k ⟨_,e1⟩ (Ae0 e1)
 refine⟨σ,_,I3.track (a:=hp.objs.size) (o:=.xd [(f,y)]) (by rw[Ao nd];exact fr) h0 fp.2.1 (fun x c e=>fp.2.2.2.2.1 x c e) (fun p hp=>fp.2.2.2.2.2 p hp) ⟨_,n1,fun z=>?_⟩,q2 _ fr⟩
 by_cases hz:z=f
 ·subst hz;rw[List.lookup_cons_self,if_pos rfl];exact ry
 ·rw[if_neg hz,List.lookup_cons,beq_false_of_ne hz];exact True.intro
end
theorem N6 {x:Str}{e:Expr}(h:isNm x e=true):∃p,e=.Name x p:=by
 unfold isNm at h
 split at h
 ·exact⟨_,by rw[beq_iff_eq.mp h]⟩
 ·cases h
theorem A8n {x f:Str}{e:Expr}(h:isAt x f e=true):∃p q,e=.Attribute (.Name x p) f q:=by
 unfold isAt at h
 split at h
 ·obtain⟨h1,h2⟩:=Bool.and_eq_true_iff.mp h
  obtain⟨p,rfl⟩:=N6 h1
  exact⟨p,_,by rw[beq_iff_eq.mp h2]⟩
 ·cases h
theorem Yx {x:Str}{e:Expr}(h:A4j x e=true):∃k p,e=.Constant (.str x) k p:=by
 unfold A4j at h
 split at h
 ·exact⟨_,_,by rw[beq_iff_eq.mp h]⟩
 ·cases h
theorem Ao2 {x:Str}{e:Expr}(h:A7w x e=true):∃p q,e=.FormattedValue (.Name x p) 114 none q:=by
 unfold A7w at h
 split at h
 ·obtain⟨h1,h2⟩:=Bool.and_eq_true_iff.mp h
  obtain⟨p,rfl⟩:=N6 h1
  exact⟨p,_,by rw[beq_iff_eq.mp h2]⟩
 ·cases h
theorem Bm2 {s:Stmt}{g:Expr}{as:List Expr}(h:stE s=some (g,as)):∃q p r,s=.Expr (.Call (.Attribute g "__init__" q) as [] p) r/\(q.endLine==p.line)=true:=by
 unfold stE at h
 split at h
 ·split at h
  ·rename_i c
   cases h
   obtain⟨c1,c2⟩:=Bool.and_eq_true_iff.mp c
   exact⟨_,_,_,by rw[beq_iff_eq.mp c1],c2⟩
  ·cases h
 ·cases h
theorem Bl8 {s:Stmt}{g v:Expr}(h:stA s=some (g,v)):∃p,s=.Assign [g] v p:=by
 unfold stA at h
 split at h
 ·cases h;exact⟨_,rfl⟩
 ·cases h
theorem A9k {F p f y z:Str}{b:List Stmt}(h:Bl3 F p f y z b=true):∃s u p1 p2 p3 p4 p5 j p6 p7 p8 p9,b=[s,u]/\s=.Expr (.Call (.Attribute (.Name F p1) "__init__" p2) [.Name "self" p3,j] [] p4) p5/\A1p p y z j=true/\(p2.endLine==p4.line)=true/\u=.Assign [.Attribute (.Name "self" p6) f p7] (.Name p p8) p9:=by
 unfold Bl3 at h
 split at h
 ·rename_i s u
  obtain⟨h1,h2⟩:=Bool.and_eq_true_iff.mp h
  split at h1
  ·rename_i g a j hs
   split at h2
   ·rename_i g2 v hu
    simp only[Bool.and_eq_true]at h1 h2;obtain⟨p2,p4,p5,rfl,hl⟩:=Bm2 hs;obtain⟨p9,rfl⟩:=Bl8 hu;obtain⟨p1,rfl⟩:=N6 h1.1;obtain⟨p3,rfl⟩:=N6 h1.2.1;obtain⟨p6,p7,rfl⟩:=A8n h2.1;obtain⟨p8,rfl⟩:=N6 h2.2;exact⟨_,_,p1,p2,p3,p4,p5,j,p6,p7,p8,p9,rfl,rfl,h1.2.2,hl,rfl⟩
   ·cases h2
  ·cases h1
 ·cases h
theorem A6y {p:Str}{a:Arguments}(h:Bk3 p a=true):∃x y a1 a2,a=⟨[],[⟨"self",x,a1⟩,⟨p,y,a2⟩],none,[],[],none,[]⟩:=by
 unfold Bk3 at h
 split at h
 ·rename_i a b
  obtain⟨n1,x,a1⟩:=a;obtain⟨n2,y,a2⟩:=b;simp only[Bool.and_eq_true,beq_iff_eq]at h;obtain⟨rfl,rfl⟩:=h;exact⟨x,y,a1,a2,rfl⟩
 ·cases h
def spI (C:Addr)(n:Nat)(f:Str):Sp:=fun vs H Q _=>∃e v d,vs=[.ref e,v]/\H e=some (exI e C none)/\Tr H d v/\Ae4 n d=true/\∀dx,H dx=none->Q .non (upd (upd H e (exI e C (some dx))) dx (.xd [(f,v)]))
section
variable {X:Cx}{C F:Addr}{f x:Str}{p ap cp ep tp pos:Pos}{e o value:Expr}{es:List Expr}{t:TA}{ta tv:TE}
theorem Bc4 (Z:M7 X.K C F f)(hg:Gl X x)(hm:X.mg x=some (.ref F))(ha:QA X (e::es) t)(hdb:(x==("__debug__" : Str))=false) (he:starEach (e::es) X.env=(false,eval e X.env)::starEach es X.env) (hpl:(backTo cp (starEach es X.env)).any (·.1)=false)
 (hsw:swapsWith (.Call (.Attribute (.Name x p) "__init__" ap) (e::es) [] cp) none ep.line X.env=pure false) (hl:(ap.endLine==cp.line)=true) (hfew:methodCallForm ((e::es).length+([]:List Keyword).length) (backTo cp (starEach (e::es) X.env)) (backToKw cp (keywordEach [] X.env))=true) :
 QS X (.Expr (.Call (.Attribute (.Name x p) "__init__" ap) (e::es) [] cp) ep) (Bd1 C t):=⟨Bp0 Z hg hm ha.get hdb he hpl hsw hl hfew⟩
theorem Bh2 (Z:M7 X.K C F f)(ha:QE X o ta)(hv:QE X value tv)(hs:swapsWith value (some (.Attribute o f tp)) pos.line X.env=pure false):QS X (.Assign [.Attribute o f tp] value pos) (Bp3 C f ta tv):=⟨Bg3 Z ha.get hv.get hs⟩
end
theorem Bv2 {X:Cx}{p y z:Str}{j:Expr}(hu:X.A.units+64<cLine)(gd:X.A.guards=some [])(ly:y.length<=1000)(lz:z.length<=1000)(v1:∀ps,QE X (.Name p ps) (Oz 1))(hj:A1p p y z j=true):QE X j (tFs y.length (Oz 1))/\∃l ps,j=.JoinedStr l ps:=by
 unfold A1p at hj
 split at hj
 ·simp only[Bool.and_eq_true]at hj
  obtain⟨_,_,rfl⟩:=Yx hj.1;obtain⟨_,_,rfl⟩:=Ao2 hj.2;exact⟨A3x hu gd Ez ly (v1 _) Bj3 (Nat.zero_le _),_,_,rfl⟩
 ·simp only[Bool.and_eq_true]at hj
  obtain⟨_,_,rfl⟩:=Yx hj.1.1;obtain⟨_,_,rfl⟩:=Ao2 hj.1.2;obtain⟨_,_,rfl⟩:=Yx hj.2;exact⟨A3x hu gd Ez ly (v1 _) (Bg6 Ez) lz,_,_,rfl⟩
 ·cases hj
theorem A5y {X:Cx}{C Fa:Addr}{F p f y z:Str}{j:Expr}{p1 p2 p3 p4 p5 p6 p7 p8 p9:Pos}(Z:M7 X.K C Fa f)(h0:X.N[0]?=some ("self" : Str)) (h1:X.N[1]?=some p) (s0:Vis X.env.scope "self") (s1:Vis X.env.scope p) (hg:Gl X F) (hm:X.mg F=some (.ref Fa)) (hu:X.A.units+64<cLine) (gd:X.A.guards=some [])
 (ly:y.length<=1000) (lz:z.length<=1000) (n1:(p==("__debug__" : Str))=false) (n2:(p==("__classdict__" : Str))=false) (nd:(F==("__debug__" : Str))=false) (hj:A1p p y z j=true) (hl:(p2.endLine==p4.line)=true) :
 QSs X [.Expr (.Call (.Attribute (.Name F p1) "__init__" p2) [.Name "self" p3,j] [] p4) p5,.Assign [.Attribute (.Name "self" p6) f p7] (.Name p p8) p9] (Az9 (Bd1 C (Cy (Oz 0) (Cy (tFs y.length (Oz 1)) Gx))) (Bp3 C f (Oz 0) (Oz 1))):=by
 have v0:∀ps,QE X (.Name "self" ps) (Oz 0):=fun ps=>qv 0 h0 s0
 have v1:∀ps,QE X (.Name p ps) (Oz 1):=fun ps=>qv 1 h1 s1 n1 n2
 obtain⟨js,l,ps,rfl⟩:=Bv2 hu gd ly lz v1 hj;exact Ah (Bc4 Z hg hm (Af (v0 _) (Af js Ae)) nd rfl rfl rfl hl rfl) (An (Bh2 Z (v0 _) (v1 _) rfl))
def Ak8 (p:Str):Prop:=∀(fd:FuncData) (x y:Option Expr) (a1 a2:Pos) (u1 u2:Value),fd.params=⟨[],[⟨"self",x,a1⟩,⟨p,y,a2⟩],none,[],[],none,[]⟩->fd.defaults=.none->bindArgs fd ⟨[u1,u2],[]⟩=pure [(("self" : Str),u1),(p,u2)]
theorem A7q {K:Frag}{D:Iz}{a:Addr}(hB:Ak8 D.p)(h:V8 K D a=true)(hD:Ah6 D=true):∃fd od osl,K.lookup a=some ⟨.type "function",od,.func fd,osl⟩/\Binds K fd ["self",D.p] [] /\
 ∀{P:Program} {w:World} {mg:Str->Option Value} {base:Heap} {C Fa:Addr},M7 K C Fa D.f->mg D.F=some (.ref Fa)->FnOk P w K mg base CX0 1 a fd ["self",D.p] (spI C D.y.length D.f):=by
 obtain⟨q,F,p,f,y,z⟩:=D;simp only[Ah6,Bool.and_eq_true,decide_eq_true_eq,bne_iff_ne,beq_iff_eq]at hD;obtain⟨ly,lz,np,n1,n2,nd⟩:=hD;unfold V8 at h
 split at h
 ·rename_i od fd osl lk
  unfold fnB at h;simp only[Bool.and_eq_true,beq_iff_eq,List.isEmpty_iff,decide_eq_true_eq]at h;obtain⟨e1,e2,e3,e4,e5,e6,e7,e8,e9⟩:=h
  split at e9
  ·rename_i b hb
   obtain⟨nm,qn,par,bd,sc,gl,cl,df,kd,dc,pm,an,co,ct,bu⟩:=fd
   dsimp only at e1 e2 e3 e4 e5 e6 e7 e8 hb
   subst e1 e2 e3 e4 e5 hb;obtain⟨x1,x2,a1,a2,rfl⟩:=A6y e7;obtain⟨s,u,p1,p2,p3,p4,p5,j,p6,p7,p8,p9,rfl,rfl,hj,hl,rfl⟩:=A9k e9;simp only[Bt6,Bool.and_eq_true,decide_eq_true_eq,Bool.not_eq_true',beq_iff_eq,List.all_eq_true,bne_iff_ne]at e8;obtain⟨s1,s2,s3,s4,s5,s6,s7⟩:=e8
   refine⟨_,od,osl,lk,.all fun us hl=>?_,fun {P w mg base C Fa} Z hm=>?_⟩
   ·match us,hl with
    | [_,_],_=>exact hB _ _ _ _ _ _ _ rfl rfl
   ·have S:Bh ["self",p] ["self",p] sc:=⟨s1,s2,s3,by simp[Ne.symm np],rfl,fun x m=>.inl (by
     rcases List.mem_cons.mp m with rfl | m
     ·exact s4
     ·cases List.mem_singleton.mp m;exact s5),s7⟩
    refine Al9 (k:=0) lk e6 S (fun vs H Q E ⟨_,_,_,e,_⟩=>by rw[e];rfl) fun A outer s H vs Q E hr hsp=>?_
    obtain⟨e,v,d,rfl,hE,td,hs,hQ⟩:=hsp
    refine Gk (A5y Z rfl rfl (.inl s4) (.inl s5) s6 hm hr.units hr.gd ly lz n1 n2 nd hj hl) ?_
    exact⟨.ref e,rfl,v,rfl,d,td,hs,fun z=>⟨e,.str z,rfl,hE,v,rfl,.ref e,rfl,e,rfl,hE,hQ⟩⟩
  ·cases e9
 ·cases h
theorem Ao5 {p:Str}(h:∀(nm qn:Str) (bd:FuncBody) (sc:Scope) (gl:Addr) (cl:List (Str×Addr)) (kd dc pm:Value) (an:Option Addr) (co ct:Value) (bu:Addr) (x y:Option Expr) (a1 a2:Pos) (u1 u2:Value),bindArgs ⟨nm,qn,⟨[],[⟨"self",x,a1⟩,⟨p,y,a2⟩],none,[],[],none,[]⟩,bd,sc,gl,cl,.none,kd,dc,pm,an,co,ct,bu⟩ ⟨[u1,u2],[]⟩=pure [(("self" : Str),u1),(p,u2)]):Ak8 p:=by
 intro fd x y a1 a2 u1 u2 e1 e2;obtain⟨nm,qn,par,bd,sc,gl,cl,df,kd,dc,pm,an,co,ct,bu⟩:=fd
 dsimp only at e1 e2
 subst e1 e2;exact h ..
example:Ak8 "name" := Ao5 fun _ _ _ _ _ _ _ _ _ _ _ _ _ _ _ _ _ _ _=>rfl
section
variable {X:Cx}{pins:List (Addr×Obj)}{σ:St}{H:Hp}{s:Shared}
theorem Inv.drop {e:Addr}{φ:Heap->Prop}(I:Inv X pins σ H s)(hH:H e=some (.ext φ))(f:K3 X pins (fun b=>if b=e then none else H b) e):Inv X pins σ (fun b=>if b=e then none else H b) { s with heap:=s.heap.hide e }:=by
 have kp:∀b,b≠e->(s.heap.hide e).get? b=s.heap.get? b:=fun b n=>Heap.hide_ne s.heap n
 have ne:∀b u,H b=some u->(∀φ,u≠.ext φ)->b≠e:=fun b u q n z=>by rw[z,hH]at q;exact n φ (Option.some.inj q).symm
 have nl:∀b,H b=none->b≠e:=fun b q z=>by rw[z,hH]at q;cases q
 obtain⟨_,f1,f2,f3,f4,f5⟩:=f
 refine I.step (g':=s.gens) (d':=s.drawn) (t':=s.toks) (ch:=[e]) (fun b hb=>?_) (fun b o _ _ hc q _=>(kp b fun z=>hc (by simp[z])).trans q) (fun b o _ _ hc q _=>⟨o.slots,(kp b fun z=>hc (by simp[z])).trans q⟩) (fun b o hc q n=>by show (if b=e then none else H b)=none;rw[if_neg (fun z=>hc (by simp[z]))];exact n)
  (fun b o hc q=>⟨o,(kp b fun z=>hc (by simp[z])).trans q⟩) (fun b xs q=>?_) (fun b o u q=>?_) (fun b q z=>?_) (fun m hm=>?_) (fun b u q=>?_) I.bare
 ·cases List.mem_singleton.mp hb
  exact⟨f3,f1,f4,f5⟩
 ·show (if b=e then none else H b)=_;rw[if_neg (ne b _ q fun _ z=>nomatch z)];exact q
 ·show (if b=e then none else H b)=_;rw[if_neg (ne b _ q fun _ z=>nomatch z)];exact q
 ·show (if b=e then none else H b)=_;rw[if_neg (ne b _ z fun _ z=>nomatch z)];exact z
 ·obtain⟨o,es,ep,ho,r⟩:=hm
  exact⟨o,es,ep,(kp _ (Ne.symm f1)).trans ho,r⟩
 ·by_cases hb:b=e
  ·rw[if_pos hb]at q;cases q
  ·rw[if_neg hb]at q
   refine (I.hok b u q).stay (fun c v hc z=>(kp c ?_).trans z) (fun c z=>?_) (fun c xs z=>?_) fun c ob xs z=>?_
   ·rcases hc with rfl | hc
    ·exact hb
    ·exact ne c _ hc fun _ z=>nomatch z
   ·show (if c=e then none else H c)=_;rw[if_neg (ne c _ z fun _ z=>nomatch z)];exact z
   ·show (if c=e then none else H c)=_;rw[if_neg (ne c _ z fun _ z=>nomatch z)];exact z
   ·show (if c=e then none else H c)=_;rw[if_neg (ne c _ z fun _ z=>nomatch z)];exact z
end
section
variable {X:Cx}{x f p:Str}{C Fa fI:Addr}{n:Nat}{np cpos pos:Pos}{e:Expr}{te:TE}{E:XK}{od:Option Addr}{osl:Array (Option Value)}{fd:FuncData}
def Yd (C:Addr)(n:Nat)(f:Str)(E:XK)(t:TA):TS:=fun _ σ H=>t σ H fun vs H1=>∃v d,vs=[v]/\Tr H1 d v/\Ae4 n d=true/\∀dx,H1 dx=none->E (.ref C) (some dx) (upd H1 dx (.xd [(f,v)]))
theorem At4 (hR:Raises X E)(hc:X.calm=true)(hg:Gl X x)(hm:X.mg x=some (.ref C))(Z:M7 X.K C Fa f)(hi:findIn X.K (.ref C) "__init__" = some (some (.ref fI))) (lk:X.K.lookup fI=some ⟨.type "function",od,.func fd,osl⟩) (hb:Binds X.K fd ["self",p] [])
 (F:FnOk X.prog X.w X.K X.mg X.base CX0 1 fI fd ["self",p] (spI C n f)) (hr:Room 2 X.A) (ha:PE X e te) (hst:isStar e=false) (hdb:(x==("__debug__" : Str))=false:=by decide) (he:starEach [e] X.env=(false,eval e X.env)::starEach [] X.env:=by rfl) :
 PS X (.Raise (some (.Call (.Name x np) [e] [] cpos)) none pos) (Yd C n f E (Cy te Gx)):=by
 intro pins s σ H D I h;obtain⟨bm,Nn,nm,qn,bs,sn,sub,ab,col,dd,k0,k1,k2,k3,k5,hC,T⟩:=G9 I.mod.kin Z.exc
 refine Ad5 (C:=C) (nm:=nm) (q:=qn) (N:=Nn) (bs:=bs) (bm:=bm) (hdct:=true) (sn:=sn) (sub:=sub) (ab:=ab) (col:=col) (dd:=dd) (k0:=k0) (k1:=k1) (k2:=k2) (k3:=k3) (k5:=k5) (newId := "ValueError.__new__") (T.hasType (X := "BaseException") (b:=true) rfl) (I.ok.hd hc) (by rw[he];rfl) (Ir I hg hm ⟨rfl,?_⟩ hdb)
 have hs:=Bm9 ha (Wt (X:=X)) hst cpos pins s σ H _ I h;rw[he]at hs ⊢
 refine Calls.evalArgs_plain (wpAny_mono hs (fun us s2 ⟨vs,H2,I2,r2,v,d,ev,td,sh,q⟩=>?_) fun _ _ z=>z)
 subst ev;have kp:∀b o,X.base.get? b=some o->s2.heap.get? b=some o:=I2.bk;obtain⟨u,rfl,ru⟩:=vals1 r2
 refine⟨rfl,kp _ _ hC,?_⟩
 obtain⟨hp,g,d0,tk,os⟩:=s2
 refine Ar3 I2.kIn (T.keeps kp) (kp _ _ hC) hi (I2.kIn _ _ lk) rfl (by show 1<=sizeLine;decide) fun h' ea hM le=>?_
 obtain⟨t0,hea,_⟩:=hM.there;have fr:H2 ea=none:=I2.hok.fresh le;have fp:K3 X pins H2 ea:=I2.fpOk le fr;have h0:X.s₀.heap.get? ea=none:=Heap.get?_none_of_le (Nat.le_trans I2.sz le);have I3:Inv X pins σ H2 ⟨h',g,d0,tk,os⟩:=I2.kept (t':=tk) hM.keeps
 have I4:=I3.track (a:=ea) (o:=exI ea C none) fr h0 fp.2.1 (fun x c e=>fp.2.2.2.2.1 x c e) (fun p hp=>fp.2.2.2.2.2 p hp) (Ae0 hea)
 have r4:Vals [.ref ea,v] [.ref ea,u]:=.cons rfl r2
 have sp:spI C n f [.ref ea,v] (upd H2 ea (exI ea C none)) (fun r H3=>∃dx,H2 dx=none/\dx≠ea/\r=.non/\H3=upd (upd H2 ea (exI ea C (some dx))) dx (.xd [(f,v)])) E0 :=
  ⟨ea,v,d,rfl,Be,Tr.same (fun b o z=>by rw[Ao (Ba z fr)];exact z) td,sh,fun dx hd=>by
   have nd:dx≠ea:=fun z=>by rw[z,Be]at hd;cases hd
   rw[Ao nd]at hd
   exact⟨dx,hd,nd,rfl,by rw[A9g]⟩⟩
 refine wpAny_call (codeAny_mono (F.run _ X.stack _ _ ⟨[.ref ea,u],[]⟩ [.ref ea,u] [.ref ea,v] _ E0 (hr.make C [u] []) (I4.env0.make C [u] []) (hb _ [.ref ea,u] I4.kIn rfl) r4 sp) fun r s' hq=>?_)
 cases r with
 | error ev=>exact False.elim hq
 | ok fl =>
  cases fl with
  | next=>exact False.elim hq
  | brk=>exact False.elim hq
  | cont=>exact False.elim hq
  | ret z =>
   obtain⟨v5,H5,I5,r5,dx,hd,nd,rfl,rfl⟩:=I4.after hq;obtain rfl:z=Value.none:=r5
   have e5:upd (upd H2 ea (exI ea C (some dx))) dx (.xd [(f,v)]) ea=some (exI ea C (some dx)):=by rw[Ao (Ne.symm nd),Be]
   obtain⟨⟨t1,x1⟩,_⟩:=I5.hok ea _ e5
   have eH:(fun b=>if b=ea then none else upd (upd H2 ea (exI ea C (some dx))) dx (.xd [(f,v)]) b)=upd H2 dx (.xd [(f,v)]):=by
    funext b
    by_cases hb:b=ea
    ·subst hb;rw[if_pos rfl,Ao (Ne.symm nd)];exact fr.symm
    ·rw[if_neg hb];unfold upd;split
     ·rfl
     ·first | rfl | rw[if_neg hb]
   have I6:=I5.drop e5 ⟨by simp,fp.2⟩
   rw[eH]at I6
   refine⟨rfl,ea,some dx,t1,rfl,I5.bk _ _ hC,x1,?_⟩
   exact hR pins σ _ { s' with heap:=s'.heap.hide ea } s'.heap ea C (some dx) I6 ⟨fun b o z=>Heap.of_hide z,Heap.hide_self ..,_,_,x1,rfl,rfl,rfl,rfl⟩ (q dx hd)
theorem Ar5 (hR:Raises X E)(hc:X.calm=true)(hg:Gl X x)(hm:X.mg x=some (.ref C))(Z:M7 X.K C Fa f)(hi:findIn X.K (.ref C) "__init__" = some (some (.ref fI))) (lk:X.K.lookup fI=some ⟨.type "function",od,.func fd,osl⟩) (hb:Binds X.K fd ["self",p] [])
 (F:FnOk X.prog X.w X.K X.mg X.base CX0 1 fI fd ["self",p] (spI C n f)) (hr:Room 2 X.A) (ha:QE X e te) (hst:isStar e=false:=by rfl) (hdb:(x==("__debug__" : Str))=false:=by decide) (he:starEach [e] X.env=(false,eval e X.env)::starEach [] X.env:=by rfl) :
 QS X (.Raise (some (.Call (.Name x np) [e] [] cpos)) none pos) (Yd C n f E (Cy te Gx)):=⟨At4 hR hc hg hm Z hi lk hb F hr ha.get hst hdb he⟩
end
section
variable {K K':Frag}
theorem Aq2 (s:Hu K K'){c:Value}{q:Str}(e:codeIn K c q=true):codeIn K' c q=true:=by
 unfold codeIn at e ⊢
 split at e
 ·split at e
  ·rename_i ho;rw[s _ _ ho];exact e
  ·cases e
 ·cases e
theorem A5d (s:Hu K K'){D:Iz}{a:Addr}(e:V8 K D a=true):V8 K' D a=true:=by
 unfold V8 at e ⊢
 split at e
 ·rename_i ho
  rw[s _ _ ho];unfold fnB at e ⊢;simp only[Bool.and_eq_true]at e ⊢;obtain⟨e1,e2,e3,e4,e5,e6,e7⟩:=e;exact⟨e1,e2,e3,e4,e5,Aq2 s e6,e7⟩
 ·cases e
theorem Bd8 (s:Hu K K'){C F:Addr}{f:Str}(e:ikB K C F f=true):M7 K' C F f:=by
 unfold ikB at e;simp only[Bool.and_eq_true,beq_iff_eq]at e;obtain⟨e1,e2,e3,e4,e5,e6⟩:=e
 refine⟨Ap9 s e1,Gs s e2,Gs s e3,?_,Ox s e5,Gs s e6⟩
 obtain⟨o,h1,h2⟩:=Option.map_eq_some_iff.mp (show (K.lookup F).map (·.cls)=_ from e4)
 show (K'.lookup F).map (·.cls)=_
 rw[s _ _ h1];exact congrArg some h2
def ClI (K:Frag)(mg:Str->Option Value)(D:Iz)(x:Str):Prop:=∃C F a fd od osl,mg x=some (.ref C)/\nsIn K mainGlobals x=some (some (.ref C))/\(Jz K C/\M7 K C F D.f)/\findIn K (.ref C) "__init__" = some (some (.ref a))/\K.lookup a=some ⟨.type "function",od,.func fd,osl⟩/\Binds K fd ["self",D.p] [] /\
 ∀(P:Program) (w:World) (base:Heap),FnOk P w K mg base CX0 1 a fd ["self",D.p] (spI C D.y.length D.f)
def Bt5 (K:Frag)(F:Addr)(NS:List Str):Prop:=∀nm∈NS,∀C,nsIn K mainGlobals nm=some (some (.ref C))->exmOne K (.ref C) (.ref F)=some false
theorem Bi3 (s:Hu K K'){F:Addr}{NS:List Str}(e:exN K F NS=true):Bt5 K' F NS:=fun nm m C hn=>by
 obtain⟨C',n,q⟩:=J7 s (List.all_eq_true.mp e nm m);rw[n]at hn;cases hn;exact Vq s (beq_iff_eq.mp q)
def ClH (K:Frag)(mg:Str->Option Value)(yes no:List Str)(T:Str):Prop:=∃g,mg T=some (.ref g)/\ExOk K g yes/\Bt5 K g no
def Au8 (J:List (Str×Iz))(Y:List (Str×List Str×List Str))(h:Heap):Prop:=∃K:Frag,ciA J Y K=true/\∀a o,K.lookup a=some o->h.get? a=some o/\Bl2 o=true
variable {J:List (Str×Iz)}{Y:List (Str×List Str×List Str)}{h h':Heap}{mg:Str->Option Value}
theorem Bt1 {l:List Nat}(e:ciA J Y (A8g l h)=true):Au8 J Y h:=⟨A8g l h,e,fun a o q=>by
 unfold A8g at q;rw[Kg]at q
 split at q
 ·obtain⟨o',h1,h2⟩:=Option.bind_eq_some_iff.mp q
  split at h2
  ·cases h2;exact⟨h1,by assumption⟩
  ·cases h2
 ·cases q⟩
theorem A2r (x:Au8 J Y h)(hk:∀b o,h.get? b=some o->h'.get? b=some o):Au8 J Y h' :=
 let ⟨K,e,q⟩:=x; ⟨K,e,fun a o z=>⟨hk _ _ (q a o z).1,(q a o z).2⟩⟩
theorem A9b (x:Au8 J Y h)(kin:K.In h)(G:h.Ns mainGlobals mg)(hK:∀a o,h.get? a=some o->Ep o=true->o.data≠.fields #[]->K.lookup a=some o) :
 (∀(i:Nat) (q:Str×Iz),J[i]?=some q->Ak8 q.2.p->ClI K mg q.2 q.1)/\∀(i:Nat) (q:Str×List Str×List Str),Y[i]?=some q->ClH K mg q.2.1 q.2.2 q.1:=by
 obtain⟨K0,e,q⟩:=x
 have s:Hu K0 K:=fun a o z=>by
  obtain⟨q1,q2⟩:=q a o z;unfold Bl2 at q2
  refine hK a o q1 ?_ ?_
  ·unfold Ep;split at q2 <;> simp_all
  ·intro y;rw[y]at q2;simp at q2
 obtain⟨e1,e2⟩:=Bool.and_eq_true_iff.mp e
 refine⟨fun i p m hB=>?_,fun i p m=>?_⟩
 ·obtain⟨ok,z⟩:=Bool.and_eq_true_iff.mp (List.all_eq_true.mp e1 p (List.mem_of_getElem? m))
  obtain⟨C,n,z⟩:=J7 s z;obtain⟨F,nF,z⟩:=J7 s z;obtain⟨z1,z2⟩:=Bool.and_eq_true_iff.mp z
  split at z2
  ·rename_i a ha
   obtain⟨z0,z1⟩:=Bool.and_eq_true_iff.mp z1;have Z:=Bd8 s z1;obtain⟨fd,od,osl,lk,hb,f⟩:=A7q hB (A5d s z2) ok
   exact⟨C,F,a,fd,od,osl,mg_of kin G n,n,⟨A3a s z0,Z⟩,Gs s ha,lk,hb,fun P w base=>f Z (mg_of kin G nF)⟩
  ·cases z2
 ·obtain⟨F,n,z⟩:=J7 s (List.all_eq_true.mp e2 p (List.mem_of_getElem? m))
  obtain⟨z1,z2⟩:=Bool.and_eq_true_iff.mp z;exact⟨F,mg_of kin G n,Ah8 s z1,Bi3 s z2⟩
end
end L2
set_option autoImplicit true
namespace U
open PySem L2
def Ry (nm:Str)(n:Nat)(f:Str)(fe:Ev->R PV):Ev->XS:=fun c=>match fe c with
 | .bad=>.s .bad
 | .ok p c=>match rdP c p with
  | some (.im d)=>if Ae4 n d=true then .ex ⟨nm,some (f,d)⟩ c else .s .bad
  | _=>.s .bad
def cXF (NS:List Str)(f:Str)(fe:Ev->R PV):Ev->R PV:=fun c=>(fe c).bind fun p c=>match rdP c p with
 | some (.ty (.xc nm))=>if NS.contains nm.n=true then match nm.p with
  | some q=>if q.1=f then .ok (.o (.im q.2)) c else .bad
  | none=>.bad
  else .bad
 | _=>.bad
section
variable {K:PySem.W.Frag}{β:Nat->V}{W W':Wo}{c c':Ev}{σ σ':St}{D:Ends}{E:XK}{Hf H:Hp}{o:O}{v:V}{fp:List Addr}
theorem Bv5 {p:PV}{d:PyData}(R:Rep K β W c σ)(r:Ed K W σ p v fp)(e:rdP c p=some (.im d)):Tr W.Hf d v:=by
 cases p with
 | o o1=>cases e;exact r.1.2
 | sl i =>
  have e:(c[i]?).join=some (.im d):=e
  have e2:c[i]?=some (some (.im d)):=by
   cases q:c[i]? with
   | none=>rw[q]at e;cases e
   | some x=>
    rw[q]at e;cases x with
     | none=>cases e
     | some y=>cases e;rfl
  obtain⟨v',e3,r3,_⟩:=R.get i _ e2;have h:σ[i]?=some (some v):=r.2;rw[h]at e3;cases e3;exact r3.2
theorem Ay2 {nm f:Str}{n:Nat}{C:Addr}{te:TE}{fe:Ev->R PV}(hn:PySem.W.nsIn K mainGlobals nm=some (some (.ref C)))(h:ME K te fe):MX K E (Yd C n f E (Cy te Gx)) (Ry nm n f fe):=by
 intro β W c σ D R l;unfold Ry at l
 refine h β W c σ _ R ?_
 cases e:fe c with
 | bad=>rw[e]at l;exact l
 | ok p c1 =>
  rw[e]at l;intro v W1 fp st R1 r1
  cases ed:rdP c1 p with
  | none=>simp only[ed]at l;exact l.elim
  | some o =>
   simp only[ed]at l
   split at l
   ·rename_i d eo
    cases eo
    split at l
    ·rename_i hs
     have tv:=Bv5 R1 r1 ed
     refine⟨v,d,rfl,Tr.same R1.sub tv,hs,fun dx hd=>?_⟩
     have s4:Stp (fun _=>False) W1.Hf W1.H (fun _=>False) (upd W1.Hf dx (.xd [(f,v)])) (upd W1.H dx (.xd [(f,v)])):=Stp.newF R1.sub hd
     have s5:Stp W1.S W1.Hf W1.H (Wo.S ⟨upd W1.Hf dx (.xd [(f,v)]),upd W1.H dx (.xd [(f,v)]),W1.fps⟩) (upd W1.Hf dx (.xd [(f,v)])) (upd W1.H dx (.xd [(f,v)])):=⟨s4.fz,fun a o e n=>s4.kp a o e (fun z=>z),fun a o e mu n q=>s4.nf a o e mu (fun z=>z) q,fun a z=>.inl z⟩
     have R5:Rep K β ⟨upd W1.Hf dx (.xd [(f,v)]),upd W1.H dx (.xd [(f,v)]),W1.fps⟩ c1 σ:=Stp.rep R1 s4 (N8 R1.sub)
     exact l C (some dx) σ ⟨upd W1.Hf dx (.xd [(f,v)]),upd W1.H dx (.xd [(f,v)]),W1.fps⟩ ⟨hn,dx,v,rfl,Be,Tr.same s4.fz tv⟩ ((st.less fun a z=>.inl z).trans s5) R5
    ·exact l.elim
   ·exact l.elim
theorem Bs2 {te:TE}{fe:Ev->R PV}{f:Str}{NS:List Str}(hz:∀nm∈NS,∀C,PySem.W.nsIn K mainGlobals nm=some (some (.ref C))->Jz K C/\PySem.W.findIn K (.ref C) f=some none)(h:ME K te fe):ME K (tXF K te f) (cXF NS f fe):=by
 intro β W c σ Q R s
 refine h β W c σ _ R ((s.bnd).mono fun p c1 s1 v1 W1 fp1 st1 R1 r1=>?_)
 cases ed:rdP c1 p with
 | none=>simp only[ed]at s1;exact s1.elim
 | some o =>
  simp only[ed]at s1
  split at s1
  ·rename_i nm eo
   cases eo
   split at s1
   ·rename_i hc
    obtain⟨a,C,d,e,hn,hf⟩:=Aj9 R1 r1 ed;subst e;have pay:=hn.pay
    cases ep:nm.p with
    | none=>rw[ep]at s1;exact s1.elim
    | some q =>
     rw[ep]at s1 pay
     dsimp only at s1
     split at s1
     ·rename_i hq
      obtain⟨dx,v,rfl,hx,tv⟩:=pay
      obtain⟨z1,z2⟩:=hz nm.n (by simpa using hc) C hn.ns
      rw[hq]at hx
      refine⟨a,C,dx,v,rfl,R1.sub _ _ hf,R1.sub _ _ hx,z1,z2,?_⟩
      exact s1 v W1 [] (st1.less fun a z=>by
       rcases z with z | z
       ·exact .inl z
       ·cases z) R1 ⟨⟨rfl,tv⟩,fun a z=>nomatch z⟩
     ·exact s1.elim
   ·exact s1.elim
  ·exact s1.elim
theorem A4e {mg:Str->Option Value}{D:Iz}{x:Str}(h:ClI K mg D x):∀nm∈[x],∀C,PySem.W.nsIn K mainGlobals nm=some (some (.ref C))->Jz K C/\PySem.W.findIn K (.ref C) D.f=some none:=fun nm hm C hn=>by
 obtain⟨C',F,a,fd,od,osl,m,n,Z,_⟩:=h
 cases List.mem_singleton.mp hm
 rw[n]at hn
 cases hn
 exact⟨Z.1,Z.2.fld⟩
end
end U
namespace L2
open PySem PySem.Spec PyProof.Rows PySem.W
section
variable {M:Model}{A:Around}{E:Value->Shared->Prop}{s:Shared}{B:Heap}{env:Env}{l outer:List Env}{L e:Addr}{c fl:Value}{d:Option Addr}{Q:Unit->Shared->Prop}
theorem A0j (hfr:A.frames=some (env::outer))(hf:env.frame=some L)(x:FlyD B (env::outer) e c d fl s.heap)
 (hQ:∀h',FlyD B (env::outer) e c d (rawInt L) h'->s.heap.UpToSlots h'->Q () { s with heap:=h' }):wpAny M A (noteFrame (.ref e) env) Q E s:=by
 obtain⟨st,no,ff,oe,vs,T,oT,ts,he,⟨rfl,rfl⟩,hd,h1,⟨hB,nT⟩,hT,dT,h3⟩:=x
 obtain⟨oth,nr⟩:=K7 (f:=Obj.mapFields (·.setIfInBounds 3 .none)) hT dT
 unfold noteFrame;simp only[hf]
 refine wpAny_bind (wpAny_field he hd h1 ?_)
 rw[if_pos (by simp)]
 refine wpAny_bind (wpAny_field hT dT h3 ?_)
 by_cases q:(fl==rawInt L)=true
 ·rw[if_pos q]
  have ef:=eq_of_beq q;subst ef;exact wpAny_pure (hQ s.heap ⟨st,no,ff,oe,vs,T,oT,ts,he,⟨rfl,rfl⟩,hd,h1,⟨hB,nT⟩,hT,dT,h3⟩ (Heap.UpToSlots.refl _))
 ·rw[if_neg q]
  refine wpAny_bind (wpAny_setField hT dT (Array.getElem?_eq_some_iff.mp h3).1 ?_)
  exact Tq hfr (fun b o q=>(oth b fun z=>by rw[z,hB]at q;cases q).trans (st b o q)) no (ff.of_keeps fun b o q n=>⟨o,(oth b (nr b o q n)).trans q,rfl⟩) hf ((oth e (Ne.symm nT)).trans he) hd (Array.getElem?_eq_some_iff.mp h1).1
   fun h' f u=>hQ h' f fun b o q n=>u b o ((oth b (nr b o q n)).trans q) n
theorem As5 (hfr:A.frames=some (env::outer))(hf:env.frame=some L)(x:FlyD B (env::outer) e c d fl s.heap)(hQ:∀h',FlyD B outer e c d .none h'->s.heap.UpToSlots h'->Q () { s with heap:=h' }):wpAny M A (leaving env (.ref e)) Q E s :=
 wpAny_bind (A0j hfr hf x fun h1 f1 u1=>Pj (s:={ s with heap:=h1 }) f1 fun h2 f2 u2=>hQ h2 f2.out (u1.trans u2))
theorem Bq0 {α:Type}{what:String}{Q:α->Shared->Prop}(x:FlyD B l e c d fl s.heap)(hE:∀h' fl',FlyD B l e c d fl' h'->s.heap.UpToSlots h'->E (.ref e) { s with heap:=h' }):wpAny M A (PySem.passOn what (.ref e) env:Sem α) Q E s:=by
 obtain⟨st,no,ff,oe,vs,T,oT,ts,he,hc,hd,h1,⟨hB,nT⟩,hT,dT,h3⟩:=x;have z3:=(Array.getElem?_eq_some_iff.mp h3).1;unfold PySem.passOn
 refine wpAny_bind (wpAny_field he hd h1 ?_)
 rw[if_neg (by simp)]
 refine wpAny_bind ?_
 unfold setFlight
 refine wpAny_bind (wpAny_field he hd h1 ?_)
 rw[if_pos (by simp)]
 generalize (env.frame.elim Value.none fun f=>rawInt f)=fv
 obtain⟨oth,nr⟩:=K7 (f:=Obj.mapFields (·.setIfInBounds 3 fv)) hT dT
 have d3:=Obj.data_mapFields dT (·.setIfInBounds 3 fv)
 refine wpAny_setField hT dT z3 (wpAny_throw (hE _ fv ⟨fun b o q=>(oth b fun z=>by rw[z,hB]at q;cases q).trans (st b o q),no,ff.of_keeps fun b o q n=>⟨o,(oth b (nr b o q n)).trans q,rfl⟩,?_⟩ fun b o q n=>⟨o.slots,(oth b (nr b o q n)).trans q⟩))
 exact⟨oe,vs,T,_,_,(oth e (Ne.symm nT)).trans he,hc,hd,h1,⟨hB,nT⟩,Heap.get?_update_self _ hT (Obj.isFreed_of_fields d3),d3,by simp[z3]⟩
end
def CXg (P:Program)(w:World)(fl:Value):CXT:=fun outer H s E e s'=>∃a C d H' B,e=.ref a/\FlyD B outer a (.ref C) d fl s'.heap/\Cov (frs outer) H' s.heap s'.heap B/\(∀b o,s.heap.get? b=some o->b≠a)/\H' a=none/\s'.os=s.os/\AllBare s'.gens/\Un (frs outer) [] H H' s.heap s'.heap/\HOk P w H' s'.heap/\E (.ref C) d H'
section
variable {P:Program}{w:World}{K:PySem.W.Frag}{mg:Str->Option Value}{base:Heap}{N:List Str}{qual:Str}{scope:Scope}{f:Addr}{cd:Value}{A:Around}{outer:List Env}{s₀:Shared}{H₀:Hp}{E:XK}
theorem A1y {fl:Value}:Gm (CXg P w fl) (Hd (CXe P w) P w K mg base N qual scope f cd A outer s₀ H₀ E) E:=by
 intro pins σ H s e s' I h;obtain⟨a,C,d,H',B,rfl,fl,cov,new,fr,os,bare,u,hok,q⟩:=h
 refine As5 I.ok.frames rfl fl fun h2 fl2 up=>?_
 have I2:Inv (Hd (CXe P w) P w K mg base N qual scope f cd A outer s₀ H₀ E) pins σ H' { s' with heap:=h2 }:=I.flown (tk:=s'.toks) u hok os bare fl.ff cov fl2.1 up
 have nb:∀b o,s₀.heap.get? b=some o->∃o',s.heap.get? b=some o':=fun b o e=>I.base.there b o e (fun z=>nomatch z)
 refine⟨a,C,d,H',rfl,⟨⟨B,fl2,fun b o e hf hb=>?_⟩,fun b o e=>?_,fr⟩,os.trans I.os,bare,I2.base,I2.hok,q⟩
 ·have nl:b≠(envOfC qual scope s₀.heap.objs.size f cd).locals:=by
   rintro rfl
   rcases hb with ⟨u',e'⟩ | hb
   ·exact absurd (Heap.lt_size e') (Nat.lt_irrefl _)
   ·exact hb I2.free
  have hfs:b∉frs (Hd (CXe P w) P w K mg base N qual scope f cd A outer s₀ H₀ E).stack:=fun z=>by
   rcases List.mem_cons.mp (I.stkSub b z) with q | q
   ·exact nl q
   ·exact hf q
  have there:∃o',s'.heap.get? b=some o':=by
   rcases hb with ⟨u',e'⟩ | hb
   ·obtain⟨o1,e1⟩:=nb b u' e'
    exact u.there b o1 e1 (fun z=>nomatch z)
   ·cases q':H' b with
    | none=>exact absurd q' hb
    | some ho=>exact(hok b ho q').there
  obtain⟨o',e'⟩:=there
  have:=cov b o' e' hfs (by
   rcases hb with ⟨u',q'⟩ | hb
   ·exact .inl (nb b u' q')
   ·exact .inr hb)
  have e2:=fl2.1 b o' this;rw[e]at e2;cases e2;exact this
 ·obtain⟨o',e'⟩:=nb b o e
  exact new b o' e'
end
end L2
namespace L2
open PySem PySem.Spec PyProof.Rows
section
variable {X:Cx}{N':List Str}{idx:List (Option Nat)}{scope:Scope}{elt tg iter:Expr}{ifs:List Expr}{pos:Pos}{wi:TI}{g:TG}{tc:TT}{te:TE}
theorem Ay0 {pins:List (Addr×Obj)}{σ:St}{H2:Hp}{s2:Shared}{it:Addr}{fp:List Addr}{tn:Nat->Heap->Prop}{J:It}{cl:List (Str×Addr)}{E:Value->Shared->Prop}{RR:Value->Addr->Result->Shared->Prop}{F:List V->Hp->Prop}{xc:Cx->Value->Shared->Prop}
 (L:Fj X N' idx scope) (hc:X.calm=true)
 (hg:∀cl C s₀ H₀ ex,PG (Ca X N' scope cl C s₀ H₀ ex) tg g) (ht:∀cl C s₀ H₀ ex,PTs (Ca X N' scope cl C s₀ H₀ ex) ifs tc) (he:∀cl C s₀ H₀ ex,PE ((Ca X N' scope cl C s₀ H₀ ex).wish (xc (Ca X N' scope cl C s₀ H₀ ex))) elt te)
 (c1:∀x c,cl.lookup x=some c->X.env.cells.lookup x=some c/\(x,NameKind.free)∈scope.names) (c2:∀x,(x,NameKind.free)∈scope.names->∃c,cl.lookup x=some c)
 (I2:Inv X pins σ H2 s2) (T:Turn X.prog X.w X.K tg J fp it tn) (st2:tn 0 s2.heap) (f2:∀b∈fp,K3 X pins H2 b) (W:Nat->Nat->St->List V->Hp->Prop) (w0:∃m,W 0 m (cst idx σ) [] H2)
 (turn:∀i m σ' acc H,W i m σ' acc H->(J.stop i H/\F acc H) \/
  (J.go i H/\acc.length<sizeLine/\∃N:St->List V->Hp->Prop,(∀σ' acc' H',N σ' acc' H'->∃m',m'<m/\W (i+1) m' σ' acc' H')/\∀x H',J.yld i H x H'->g x σ' H' fun σ2 H2=>tc σ2 H2 fun b H3 =>
   if b=true then te σ2 H3 fun y H4=>N σ2 (acc++[y]) H4 else N σ2 acc H3))
 (hR:∀(D C:Addr) (s':Shared) (acc:List V) (its:List Value) (n:Nat) (H':Hp) (m:Str->Option Value),s2.heap.objs.size<=D->s2.heap.objs.size<=C->D≠C->s'.heap.Ns C m->s'.heap.get? D=some { cls:=.type "list",data:=.seq its.toArray n }->Vals acc its->acc.length<=sizeLine ->
  H' D=none->H' C=none->s'.os=s2.os->AllBare s'.gens->Un (frs X.stack) fp H2 H' s2.heap s'.heap->HOk X.prog X.w H' s'.heap->F acc H'->RR (.ref D) C (.ok .next) s')
 (hE:∀(D C:Addr) (cl:List (Str×Addr)) (ev:Value) (s':Shared),s2.heap.objs.size<=C->xc (Ca X N' scope cl C s2 H2 fp) ev s'->wpAny (model X.prog X.w) X.A (noteFrame ev X.env) (fun _ z=>RR (.ref D) C (.error ev) z) (fun x z=>RR (.ref D) C (.error x) z) s') :
 wpAny (model X.prog X.w) X.A (newList []) (fun acc s₃=>wpAny (model X.prog X.w) X.A (newFunctionEnv scope X.env.globals cl [] X.env.qual none .none (some X.env)) (fun cenv s₄ =>
  codeAny (model X.prog X.w) X.A (.compStart (.ListComp elt [⟨tg,iter,ifs,0⟩] scope pos) 0 (.ref it) acc { cenv with scope:=relabel scope X.env }) (RR acc cenv.locals) s₄) E s₃) E s2:=by
 have hfs:∀b∈fp,b<s2.heap.objs.size:=fun b hb=>let ⟨o,e,_⟩:=T.obj _ _ st2 b hb; Heap.lt_size e
 refine wpAny_newObj_type (Ak1 ?_)
 dsimp only
 generalize hH2:s2.heap.push { cls:=.type "list",dict:=none,data:=.seq ([]:List Value).toArray }=G
 have hC:G.objs.size=s2.heap.objs.size+1:=by rw[<- hH2,Heap.size_push]
 have hDC:s2.heap.objs.size≠G.objs.size:=by rw[hC];exact Nat.ne_of_lt (Nat.lt_succ_self _)
 have hCle:s2.heap.objs.size<=G.objs.size:=by rw[hC];exact Nat.le_succ _
 obtain⟨h₁,hh₁⟩:∃h₁,h₁=pushCells (G.push { cls:=.type "dict",data:=.dict #[] }) scope.names:=⟨_,rfl⟩;rw[<- hh₁]
 have hns₁:h₁.Ns G.objs.size (fun _=>none):=by rw[hh₁];exact(Heap.Ns.new G (.type "dict")).keeps (pushCells_keeps _ _)
 have old:∀b o,s2.heap.get? b=some o->h₁.get? b=some o:=fun b o e=>by rw[hh₁];exact pushCells_keeps _ _ b o (Heap.get?_push_of_some _ (hH2▸Heap.get?_push_of_some _ e))
 have hacc:h₁.get? s2.heap.objs.size=some { cls:=.type "list",dict:=none,data:=.seq ([]:List Value).toArray }:=by rw[hh₁];exact pushCells_keeps _ _ _ _ (Heap.get?_push_of_some _ (hH2▸Heap.get?_push_size _ rfl))
 have szD:(G.push { cls:=.type "dict",data:=.dict #[] }).objs.size=G.objs.size+1:=Heap.size_push ..
 obtain⟨k1,k2,k3⟩:=Kc scope.names (G.push { cls:=.type "dict",data:=.dict #[] }) cl (fun x y c e1 e2=>I2.ok.inj x y c (c1 x c e1).1 (c1 y c e2).1) (fun x c e=>by
  obtain⟨v,o,ho,_⟩:=I2.cell x c (c1 x c e).1
  rw[szD];exact Nat.lt_succ_of_lt (Nat.lt_of_lt_of_le (Heap.lt_size ho) hCle))
 rw[szD,<- hh₁]at k1;rw[szD]at k2 k3;obtain⟨cl0,hcl0⟩:∃cl0,cl0=cl:=⟨_,rfl⟩;have c1o:=c1;have c2o:=c2;rw[<- hcl0]at k1 k2 k3 c1o c2o;rw[<- hcl0]
 clear c1 c2
 generalize cellsFrom (G.objs.size+1) scope.names cl0=cl at k1 k2 k3 ⊢
 have c1:∀x c,cl.lookup x=some c->(X.env.cells.lookup x=some c/\(x,NameKind.free)∈scope.names)\/(s2.heap.objs.size<=c/\(x,NameKind.cell)∈scope.names):=fun x c e=>by
  rcases k1 x c e with q | ⟨q1,q2,_⟩
  ·exact .inl (c1o x c q)
  ·exact .inr ⟨Nat.le_trans hCle (Nat.le_of_succ_le q1),q2⟩
 have c2:∀x,((x,NameKind.free)∈scope.names\/(x,NameKind.cell)∈scope.names)->∃c,cl.lookup x=some c:=fun x z=>k2 x (z.imp (fun z=>c2o x z) id)
 have c4:∀x c,cl.lookup x=some c->(x,NameKind.cell)∈scope.names->h₁.IsCell c none:=fun x c e z=>by
  rcases k1 x c e with q | ⟨_,_,q⟩
  ·have:=mem_lookup L.nod (c1o x c q).2
   rw[mem_lookup L.nod z]at this;cases this
  ·exact q
 let X':Cx:=Ca X N' scope cl G.objs.size s2 H2 fp
 have I1:Inv X' [] (cst idx σ) H2 { s2 with heap:=h₁ }:=Z4 L I2 f2 hfs hCle c1 c2 k3 c4 rfl rfl old hns₁
 have hD2:H2 s2.heap.objs.size=none:=I2.hok.fresh (Nat.le_refl _)
 have hDfs:s2.heap.objs.size∉X'.fs:=fun z=>by
  obtain⟨_,o,ho,_⟩:=I2.stack.mem z;exact absurd (Heap.lt_size ho) (Nat.lt_irrefl _)
 have hDfp:s2.heap.objs.size∉fp:=fun z=>absurd (hfs _ z) (Nat.lt_irrefl _)
 have stat:∀{H':Hp} {pl:List (Addr×Obj)},(∀b∈fp,H' b=none)->(∀p∈pl,p.1∉fp)->∀b∈fp,K3 X' pl H' b:=fun {H' pl} hn hpl b hb =>
  ⟨hn b hb,Nat.ne_of_lt (Nat.lt_of_lt_of_le (hfs b hb) hCle),fun z=>by
   rcases List.mem_cons.mp (I2.stkSub b z) with q | q
   ·exact(f2 b hb).2.1 q
   ·exact(f2 b hb).2.2.1 q,.inl hb,fun x c e=>by
    rcases c1 x c e with ⟨z,_⟩ | ⟨z,_⟩
    ·exact(f2 b hb).2.2.2.2.1 x c z
    ·exact Nat.ne_of_gt (Nat.lt_of_lt_of_le (hfs b hb) z),fun p hp z=>hpl p (by have hp':p∈[]++pl:=hp;simpa using hp') (z▸hb)⟩
 have loop:∀s₃:Shared,s₃={ s2 with heap:=h₁ } ->
  codeAny (model X.prog X.w) X.A (.compLoop (.ListComp elt [⟨tg,iter,ifs,0⟩] scope pos) 0 (.ref it) (.ref s2.heap.objs.size) (compEnvC scope cl G.objs.size X.env)) (RR (.ref s2.heap.objs.size) G.objs.size) s₃:=by
  rintro s₃ rfl
  obtain⟨m0,w0⟩:=w0
  refine An9 rfl (Wd:=fun n s'=>∃i σ' acc its k H',Inv X' [(s2.heap.objs.size,{ cls:=.type "list",data:=.seq its.toArray k })] σ' H' s'/\Vals acc its/\acc.length<=sizeLine/\tn i s'.heap/\(∀b∈fp,H' b=none)/\W i n σ' acc H') (step:=?_) m0
   ⟨0,cst idx σ,[],[],0,H2,I1.pins_of (fun p hp=>?_),.nil,Nat.zero_le _,T.keep _ _ _ st2 fun b _ o e=>old b o e,fun b hb=>(f2 b hb).1,w0⟩
  ·rintro n s3 ⟨i,σ3,acc,its,k,H3,I3,rv,hz,st3,fr3,w3⟩
   have hpl:∀p∈[((s2.heap.objs.size,{ cls:=.type "list",data:=.seq its.toArray k }):Addr×Obj)],p.1∉fp:=fun p hp=>by
    rcases List.mem_singleton.mp hp with rfl;exact hDfp
   rcases turn i n σ3 acc H3 w3 with ⟨stop,q⟩ | ⟨go,hlt,N,hN,step⟩
   ·refine wpAny_mono (T.done X' rfl rfl rfl hc i _ s3 σ3 H3 (fun _ _=>False) I3 (stat fr3 hpl) st3 stop) (fun r s4 ⟨hr,I4⟩=>?_) fun _ _ f=>f.elim
    subst hr;obtain⟨p1,p2,p3,p4,p5⟩:=I4.pin (s2.heap.objs.size,{ cls:=.type "list",data:=.seq its.toArray k }) (List.mem_append_right _ List.mem_cons_self);obtain⟨m4,hn4,_⟩:=I4.loc;exact hR _ _ s4 acc its k H3 m4 (Nat.le_refl _) hCle hDC hn4 p1 rv hz p2 I4.free I4.os I4.bare I4.base I4.hok q
   ·refine wpAny_mono (T.item X' rfl rfl rfl hc i _ s3 σ3 H3 (fun _ _=>False) I3 (stat fr3 hpl) st3 go) (fun r s4 ⟨u,hr,h4⟩=>?_) fun _ _ f=>f.elim
    subst hr
    refine wpAny_mono h4 (fun _ s5 ⟨x,H5,I5,r5,y5,st5,fr5⟩=>?_) fun _ _ f=>f.elim
    have I5':=I5.pinned (stat fr5 hpl) (T.obj _ _ st5)
    refine wpAny_mono (hg _ _ _ _ _ _ s5 σ3 H5 x u _ I5' r5 (step x H5 y5)) (fun _ s6 ⟨σ6,H6,I6,q6⟩=>?_) fun _ _ f=>f.elim
    refine wpAny_mono (ht _ _ _ _ _ _ s6 σ6 H6 _ I6 q6) (fun ok s7 ⟨H7,I7,q7⟩=>?_) fun _ _ f=>f.elim
    have tnk:∀{σ':St} {H':Hp} {s':Shared},Inv X' ([(s2.heap.objs.size,{ cls:=.type "list",data:=.seq its.toArray k })]++Py fp s5.heap) σ' H' s'->tn (i+1) s'.heap/\∀b∈fp,H' b=none:=fun {σ' H' s'} I=>by
     refine⟨T.keep _ _ _ st5 fun b hb o e=>(I.pin (b,o) (List.mem_append_right _ (List.mem_append_right _ (Gn hb e)))).1,fun b hb=>?_⟩
     obtain⟨o,e,d⟩:=T.obj _ _ st5 b hb;exact(I.pin (b,o) (List.mem_append_right _ (List.mem_append_right _ (Gn hb e)))).2.1
    cases ok with
    | false =>
     rw[if_neg (by decide)]at q7
     obtain⟨m',hm,w7⟩:=hN _ _ _ q7;exact⟨m',hm,i+1,σ6,acc,its,k,H7,I7.unpinned,rv,hz,(tnk I7).1,(tnk I7).2,w7⟩
    | true =>
     rw[if_pos rfl]at q7
     refine wpAny_mono (he _ _ _ _ _ _ s7 σ6 H7 _ (I7.wish _) q7) (fun y s8 ⟨yv,H8,I8,r8,q8⟩=>?_) fun ev s8 f=>hE _ _ _ ev s8 hCle f
     have I8:=I8.unwish;obtain⟨m',hm,w8⟩:=hN _ _ _ q8;obtain⟨p1,p2,p3,p4,p5⟩:=I8.pin (s2.heap.objs.size,{ cls:=.type "list",data:=.seq its.toArray k }) (List.mem_append_right _ List.mem_cons_self)
     refine call_meets PySem.F.slot_list_append ⟨_,p1,rfl⟩ PySem.F.entry_list_append (PySem.F.args_list_append_2 _ _) (PySem.list_append s2.heap.objs.size its.toArray k y (by have:=rv.length;rw[List.size_toArray];omega)) ⟨p1,?_⟩
     have hz':=rv.length;obtain⟨t8,f8⟩:=tnk I8
     have I8':Inv X' [] σ6 H8 s8:=I8.pins_of fun p hp=>nomatch hp
     have q:=PySem.IsL.update p1 (·.push y)
     have e':(its.toArray.push y)=(its++[y]).toArray:=by simp
     rw[e']at q
     obtain⟨k9,q⟩:∃k9,(s8.heap.update s2.heap.objs.size (Obj.mapSeq (·.push y))).get? s2.heap.objs.size=some { cls:=.type "list",data:=.seq (its++[y]).toArray k9 }:=⟨_,q⟩
     have I9:Inv X' [] σ6 H8 { s8 with heap:=s8.heap.update s2.heap.objs.size (Obj.mapSeq (·.push y)) } :=
      I8'.turned (t':=s8.toks) (fun b o hb e=>(Heap.get?_update_other s8.heap _ (Ne.symm hb)).trans e) p2 p3 (.inr (Nat.le_refl _)) (fun x c e z=>by
       obtain⟨v,o,ho,hd⟩:=I8'.cell x c e
       rw[z,p1]at ho;cases ho;cases hd) (fun p hp=>by have hp':p∈([]:List (Addr×Obj))++[]:=hp;simp at hp')
     refine⟨m',hm,i+1,σ6,acc++[yv],its++[y],k9,H8,I9.pins_of (fun p hp=>?_),rv.append (.cons r8 .nil),by rw[List.length_append,List.length_singleton];omega,T.keep _ _ _ t8 fun b hb o e=>(Heap.get?_update_other s8.heap (Obj.mapSeq (·.push y)) (show s2.heap.objs.size≠b from fun z=>hDfp (by rw[z];exact hb))).trans e,f8,w8⟩
     rcases List.mem_singleton.mp hp with rfl
     exact⟨q,p2,p3,p4,fun v z=>by cases z⟩
  ·rcases List.mem_singleton.mp hp with rfl
   exact⟨hacc,hD2,hDC,hDfs,fun v z=>by cases z⟩
 exact codeAny_compStart_list (loop _ rfl) (T.self _ 0 _ _ _ (T.keep _ _ _ st2 fun b _ o e=>old b o e) (loop _ rfl))
def xcK (X:Cx)(E:XK)(Y:Cx):Value->Shared->Prop:=fun e s'=>∃pins σ H1 s1,Inv Y pins σ H1 s1/\CXe X.prog X.w X.stack H1 s1 E e s'
theorem Aw0 {E:XK}{cl:List (Str×Addr)}{C:Addr}{s₀:Shared}{H₀:Hp}{ex:List Addr}:Gm (CXe X.prog X.w) ((Ca X N' scope cl C s₀ H₀ ex).wish (xcK X E (Ca X N' scope cl C s₀ H₀ ex))) E :=
 fun pins σ H s e s' I h=>⟨pins,σ,H,s,I.unwish,h⟩
theorem Am4 {h B:Heap}{C:Addr}:∀{l:List Env},h.FunFrames B l->h.FunFrames (B.hide C) l
 | [],_=>trivial
 | env::_,⟨hk,⟨L,o,hf,hn,ho,hd⟩,hr⟩=>by
  refine⟨hk,⟨L,o,hf,?_,ho,hd⟩,Am4 hr⟩
  cases z:(B.hide C).get? L with
  | none=>rfl
  | some u=>rw[Heap.of_hide z]at hn;cases hn
theorem Ao4 {h h' B:Heap}:∀{l:List Env},h.FunFrames B l->(∀b∈frs l,∀o,h.get? b=some o->h'.get? b=some o)->h'.FunFrames B l
 | [],_,_=>trivial
 | env::r,⟨hk,⟨L,o,hf,hn,ho,hd⟩,hr⟩,k=>by
  have sub:∀b,b∈frs r->b∈frs (env::r):=fun b hb=>by
   obtain⟨e,he,z⟩:=List.mem_filterMap.mp hb;exact List.mem_filterMap.mpr ⟨e,.tail _ he,z⟩
  exact⟨hk,⟨L,o,hf,hn,k L (List.mem_filterMap.mpr ⟨env,.head _,hf⟩) o ho,hd⟩,Ao4 hr fun b hb=>k b (sub b hb)⟩
theorem Bj7 {E:XK}{Q:VK}{pins:List (Addr×Obj)}{σ:St}{H2:Hp}{s2:Shared}{fp:List Addr}{C:Addr}{cl:List (Str×Addr)}{ev D:Value}{s':Shared}(hx:∀fl,Gm (CXg X.prog X.w fl) X E)(hs:X.stack=X.env::X.outer/\X.env.frame=some X.env.locals)
 (I2:Inv X pins σ H2 s2) (f2:∀b∈fp,K3 X pins H2 b) (hC:s2.heap.objs.size<=C) (h:xcK X E (Ca X N' scope cl C s2 H2 fp) ev s') :
 wpAny (model X.prog X.w) X.A (noteFrame ev X.env) (fun _ z=>compPost (model X.prog X.w) X.A X.xe none (EP X pins σ Q) D C (.error ev) z) (fun x z=>compPost (model X.prog X.w) X.A X.xe none (EP X pins σ Q) D C (.error x) z) s':=by
 obtain⟨pins',σ',H1,s1,I1,a,C0,d,H',rfl,⟨⟨B,fl,cov⟩,new,fr⟩,os,bare,u1,hok',q⟩:=h;obtain⟨m,nsC,_⟩:=I1.loc;have nsC:s1.heap.Ns C m:=nsC;obtain⟨oC,es,ep,gC,dC,rC⟩:=nsC;have fC:H1 C=none:=I1.free;have nCa:C≠a:=new C oC gC
 have lt2:∀b o,s2.heap.get? b=some o->b≠C:=fun b o e=>Nat.ne_of_lt (Nat.lt_of_lt_of_le (Heap.lt_size e) hC)
 have fsC:C∉frs X.stack:=fun z=>by
  obtain⟨_,o,ho,_⟩:=I2.stack.mem z;exact lt2 C o ho rfl
 have gC':s'.heap.get? C=some oC:=u1.keep C oC gC fC fsC (fun z=>nomatch z)
 have fC':H' C=none:=u1.free C oC gC fC (fun z=>nomatch z)
 have hid:∀b,b≠C->(s1.heap.hide C).get? b=s1.heap.get? b:=fun b n=>Heap.hide_ne _ n
 have ofh:∀{h:Heap} {b:Addr} {o:Obj},(h.hide C).get? b=some o->h.get? b=some o/\b≠C:=fun {h b o} e=>⟨Heap.of_hide e,fun z=>by rw[z,Heap.hide_self]at e;cases e⟩
 have ub:=I1.base
 have u2:Un (frs X.stack) fp H2 H1 s2.heap (s1.heap.hide C) :=
  ⟨fun b o e n1 n2 n3=>(hid b (lt2 b o e)).trans (ub.keep b o e n1 n2 n3),fun b o e n1 n2 n3=>let ⟨sl,z⟩:=ub.slot b o e n1 n2 n3; ⟨sl,(hid b (lt2 b o e)).trans z⟩,ub.free,fun b o e n1=>let ⟨o',z⟩:=ub.there b o e n1; ⟨o',(hid b (lt2 b o e)).trans z⟩,ub.tups,ub.frzs,ub.tbls⟩
 have ok1:HOk X.prog X.w H1 (s1.heap.hide C):=fun b u e=>by
  refine (I1.hok b u e).stay (fun c v hc z=>(hid c ?_).trans z) (fun _ z=>z) fun _ _ z=>z
  rintro rfl
  rcases hc with rfl | hc
  ·rw[fC]at e;cases e
  ·rw[fC]at hc;cases hc
 have Io:Inv X pins σ H1 { s1 with heap:=s1.heap.hide C }:=I2.call' (s':={ s1 with heap:=s1.heap.hide C }) I1.os u2 ok1 I1.bare (fun b hb=>⟨(f2 b hb).2.2.2.1,(f2 b hb).2.1,(f2 b hb).2.2.2.2.1,(f2 b hb).2.2.2.2.2⟩)
 have hN:∀b,B.get? b=none->(B.hide C).get? b=none:=fun b n=>by
  cases z:(B.hide C).get? b with
  | none=>rfl
  | some o=>rw[(ofh z).1]at n;cases n
 have fl0:FlyD (B.hide C) X.stack a (.ref C0) d .none s'.heap:=by
  refine⟨fun b o e=>fl.st b o (ofh e).1,hN a fl.no,Am4 fl.ff,?_⟩
  obtain⟨oe,vs,T,oT,ts,t1,t2,t3,t4,⟨t5,t6⟩,t7⟩:=fl.tr;exact⟨oe,vs,T,oT,ts,t1,t2,t3,t4,⟨hN T t5,t6⟩,t7⟩
 have cov0:Cov (frs X.stack) H' (s1.heap.hide C) s'.heap (B.hide C):=fun b o e hf hb=>by
  have nb:b≠C:=by
   rintro rfl
   rcases hb with ⟨u,z⟩ | z
   ·exact(ofh z).2 rfl
   ·exact z fC'
  rw[Heap.hide_ne _ nb]
  exact cov b o e hf (hb.imp (fun⟨u,z⟩=>⟨u,(ofh z).1⟩) id)
 have u10:Un (frs X.stack) [] H1 H' (s1.heap.hide C) s'.heap :=
  ⟨fun b o e=>u1.keep b o (ofh e).1,fun b o e=>u1.slot b o (ofh e).1,fun b o e=>u1.free b o (ofh e).1,fun b o e=>u1.there b o (ofh e).1,u1.tups,u1.frzs,u1.tbls⟩
 have fl1:=fl0;rw[hs.1]at fl1
 refine Yi (Io.ok.frames.trans (congrArg some hs.1)) hs.2 fl1 fun h4 f4 up4=>?_
 rw[<- hs.1]at f4
 obtain⟨sl4,g4⟩:=up4 C oC gC' (fun vs z=>by rw[dC]at z;cases z)
 refine⟨m,⟨_,es,ep,g4,dC,rC⟩,fun h5 sb cenv _=>?_⟩
 have k5:∀b o,b≠C->h4.get? b=some o->h5.get? b=some o:=fun b o n z=>sb.extBut b o n z
 have f5:FlyD (B.hide C) X.stack a (.ref C0) d (rawInt X.env.locals) h5:=⟨fun b o e=>k5 b o (ofh e).2 (f4.st b o e),f4.no,Ao4 f4.ff fun b hb o z=>k5 b o (fun y=>fsC (y▸hb)) z,by
  obtain⟨oe,vs,T,oT,ts,t1,t2,t3,t4,t5,t6,t7⟩:=f4.tr
  refine⟨oe,vs,T,oT,ts,k5 _ _ (Ne.symm nCa) t1,t2,t3,t4,t5,k5 T oT (fun z=>?_) t6,t7⟩
  rw[z,g4]at t6;cases t6
  rw[show ({ oC with slots:=sl4 }:Obj).data=oC.data from rfl,dC]at t7
  cases t7.1⟩
 refine Bq0 f5 fun h6 fl' f6 up6=>?_
 have frf:∀b∈frs X.stack,H' b=none:=fun b hb=>by
  obtain⟨_,o,ho,_⟩:=Io.stack.mem hb
  exact u10.free b o ho (Io.stkFree b hb) (fun z=>nomatch z)
 have upF:∀b∈frs X.stack,∀o,s'.heap.get? b=some o->(∀vs,o.data≠.fields vs)->∃sl,h6.get? b=some { o with slots:=sl }:=fun b hb o z nf=>by
  obtain⟨s4,z4⟩:=up4 b o z nf
  exact up6 b { o with slots:=s4 } (k5 b _ (fun y=>fsC (y▸hb)) z4) nf
 refine hx fl' pins σ H1 { s1 with heap:=s1.heap.hide C } (.ref a) _ Io ⟨a,C0,d,H',B.hide C,rfl,f6,fun b o e hf hb=>?_,fun b o e=>new b o (ofh e).1,fr,os,bare,⟨fun b o e n hf _=>f6.st b o (cov0 b o (u10.keep b o e n hf (fun z=>nomatch z)) hf (.inl ⟨o,e⟩)),fun b o e n hf _=>?_,fun b o e n _=>u10.free b o e n (fun z=>nomatch z),fun b o e _=>?_,u10.tups,u10.frzs,u10.tbls⟩,fun b o e=>?_,q⟩
 ·have there:∃o',s'.heap.get? b=some o':=by
   rcases hb with ⟨u',e'⟩ | hb
   ·exact u10.there b u' e' (fun z=>nomatch z)
   ·cases q':H' b with
    | none=>exact absurd q' hb
    | some ho=>exact(hok' b ho q').there
  obtain⟨o',e'⟩:=there;have:=cov0 b o' e' hf hb;have e2:=f6.st b o' this
  rw[show h6.get? b=some o from e]at e2;cases e2
  exact this
 ·obtain⟨sl,e1⟩:=u10.slot b o e n hf (fun z=>nomatch z)
  obtain⟨_,o',e2,nf⟩:=fl0.ff.mem hf;rw[e1]at e2;cases e2;obtain⟨sl',e3⟩:=upF b hf _ e1 nf;exact⟨sl',e3⟩
 ·obtain⟨o',e1⟩:=u10.there b o e (fun z=>nomatch z)
  by_cases hf:b∈frs X.stack
  ·obtain⟨_,o2,e2,nf⟩:=fl0.ff.mem hf
   obtain⟨sl',e3⟩:=upF b hf _ e2 nf;exact⟨_,e3⟩
  ·exact⟨o',f6.st b o' (cov0 b o' e1 hf (.inl ⟨o,e⟩))⟩
 ·have key:∀c v,H' c≠none->s'.heap.get? c=some v->h6.get? c=some v:=fun c v hn z=>f6.st c v (cov0 c v z (fun y=>hn (frf c y)) (.inr hn))
  refine (hok' b o e).stay (fun c v hc z=>key c v ?_ z) (fun _ z=>z) (fun _ _ z=>z)
  rcases hc with rfl | hc
  ·rw[e];simp
  ·rw[hc];simp
theorem Bd3 {E:XK}(L:Fj X N' idx scope)(hc:X.calm=true)(hi:PI X tg iter wi)(hx:∀fl,Gm (CXg X.prog X.w fl) X E)(hst:X.stack=X.env::X.outer/\X.env.frame=some X.env.locals)
 (hg:∀cl C s₀ H₀ ex,PG (Ca X N' scope cl C s₀ H₀ ex) tg g) (ht:∀cl C s₀ H₀ ex,PTs (Ca X N' scope cl C s₀ H₀ ex) ifs tc) (he:∀cl C s₀ H₀ ex,PE ((Ca X N' scope cl C s₀ H₀ ex).wish (xcK X E (Ca X N' scope cl C s₀ H₀ ex))) elt te)
 (hs:∀x,foldedSetIterable iter X.env x=pure x:=by intro _;rfl) :
 PE X (.ListComp elt [⟨tg,iter,ifs,0⟩] scope pos) (tLC idx wi g tc te):=by
 intro pins s σ H Q I h
 obtain⟨cl,hclos,c1,c2⟩:=J8 (env:=X.env) (scope:=scope) fun y hy hf=>I.ok.has y.1 (L.free y hy hf)
 rw[eval_ListComp]
 refine wpAny_comprehension_free (use:=none) rfl hs hclos L.kind (fun y hy hl=>mem_lookup L.nod (by rw[<- hl];exact hy)) (wpAny_mono (hi pins s σ H _ I h) (fun v s1 h1=>wpAny_mono h1 (fun itv s2 h2=>?_) fun _ _ e=>e) fun _ _ e=>e)
 obtain⟨it,fp,tn,J,H2,rfl,I2,T,st2,f2,W,w0,turn⟩:=h2
 refine Ay0 (F:=fun acc H=>∀p,H p=none->Q (.ref p) (upd H p (.lst acc))) (RR:=fun acc C=>compPost (model X.prog X.w) X.A X.xe none (EP X pins σ Q) acc C) (xc:=xcK X E) L hc hg ht he c1 c2 I2 T st2 f2 W w0 turn ?_ (fun D C cl ev s' hC h=>Bj7 hx hst I2 f2 hC h)
 intro D C s' acc its n H' m hD hC hDC hn hDo rv hz hD' hC' ho hg' hu hk q
 refine⟨m,hn,fun h' hsb=>?_⟩
 have eD:h'.get? D=some { cls:=.type "list",data:=.seq its.toArray n }:=hsb.extBut _ _ hDC hDo
 have ok1:HOk X.prog X.w H' h':=fun b u e=>by
  refine (hk b u e).stay (fun c v hc q=>hsb.extBut c v ?_ q) (fun _ q=>q) fun _ _ q=>q
  rintro rfl
  rcases hc with rfl | hc
  ·rw[hC']at e;cases e
  ·rw[hC']at hc;cases hc
 have ok2:HOk X.prog X.w (upd H' D (.lst acc)) h':=ok1.track hD' ⟨hz,its,n,rv,eD⟩
 have neC:∀b o,s2.heap.get? b=some o->b≠C:=fun b o e=>Nat.ne_of_lt (Nat.lt_of_lt_of_le (Heap.lt_size e) hC)
 have neD:∀b o,s2.heap.get? b=some o->b≠D:=fun b o e=>Nat.ne_of_lt (Nat.lt_of_lt_of_le (Heap.lt_size e) hD)
 have u2:Un (frs X.stack) fp H2 (upd H' D (.lst acc)) s2.heap h' :=
  ⟨
   fun b o e n1 n2 n3=>hsb.extBut b o (neC b o e) (hu.keep b o e n1 n2 n3),fun b o e n1 n2 n3=>let ⟨sl,q⟩:=hu.slot b o e n1 n2 n3; ⟨sl,hsb.extBut b _ (neC b o e) q⟩,
   fun b o e n1 n2=>by rw[Ao (neD b o e)];exact hu.free b o e n1 n2,fun b o e n1=>let ⟨o',q⟩:=hu.there b o e n1; ⟨o',hsb.extBut b _ (neC b o e) q⟩,
   fun b xs e=>by rw[Ao (Ba (hu.tups b xs e) hD')];exact hu.tups b xs e,fun b o u e=>by rw[Ao (Ba (hu.frzs b o u e) hD')];exact hu.frzs b o u e,
   fun b ps e=>by rw[Ao (Ba (hu.tbls b ps e) hD')];exact hu.tbls b ps e⟩
 refine⟨.ref D,upd H' D (.lst acc),I2.call' (s':={ s' with heap:=h' }) ho u2 ok2 hg' (fun b hb=>⟨(f2 b hb).2.2.2.1,(f2 b hb).2.1,(f2 b hb).2.2.2.2.1,(f2 b hb).2.2.2.2.2⟩),rfl,q D hD'⟩
end
section
variable {X:Cx}{N':List Str}{idx:List (Option Nat)}{scope:Scope}{elt tg iter:Expr}{ifs:List Expr}{pos:Pos}{wi:TI}{g:TG}{tc:TT}{te:TE}{E:XK}
theorem Bd4 (L:Fj X N' idx scope)(hc:X.calm=true)(hi:QI X tg iter wi)(hg:∀cl C s₀ H₀ ex,QG (Ca X N' scope cl C s₀ H₀ ex) tg g)(ht:∀cl C s₀ H₀ ex,QTs (Ca X N' scope cl C s₀ H₀ ex) ifs tc)(hx:∀fl,Gm (CXg X.prog X.w fl) X E)(he:∀cl C s₀ H₀ ex,QE ((Ca X N' scope cl C s₀ H₀ ex).wish (xcK X E (Ca X N' scope cl C s₀ H₀ ex))) elt te)(hst:X.stack=X.env::X.outer/\X.env.frame=some X.env.locals:=by exact⟨rfl,rfl⟩)(hs:∀x,foldedSetIterable iter X.env x=pure x:=by intro _;rfl):QE X (.ListComp elt [⟨tg,iter,ifs,0⟩] scope pos) (tLC idx wi g tc te) :=
 ⟨Bd3 (L:=L) (hc:=hc) (hi:=hi.get) (hg:=fun cl C s₀ H₀ ex=>(hg cl C s₀ H₀ ex).get) (ht:=fun cl C s₀ H₀ ex=>(ht cl C s₀ H₀ ex).get) (hx:=hx) (hst:=hst) (he:=fun cl C s₀ H₀ ex=>(he cl C s₀ H₀ ex).get) (hs:=hs)⟩
end
end L2
namespace U
open PySem L2 PySem.W
section
variable {K:PySem.W.Frag}{E:XK}
def Oc (g:PV->Ev->R Unit)(ft:Ev->R Bool)(F:List PyData->XF)(fa:Ev->R (List PV)):List PyData->Ev->Option (Xn×Ev)
 | [],_=>none
 | d::ds,c=>match g (.o (.im d)) c with
  | .bad=>none
  | .ok _ c=>match ft c with
   | .bad=>none
   | .ok false c=>Oc g ft F fa ds c
   | .ok true c=>match fa c with
    | .bad=>none
    | .ok ps c=>match Mv c ps with
     | none=>none
     | some es=>match F es with
      | .ex nm=>some (nm,c)
      | .ret (.im _)=>Oc g ft F fa ds c
      | _=>none
def Oq (idx:List (Option Nat))(fi:Ev->R (List PyData))(g:PV->Ev->R Unit)(ft:Ev->R Bool)(F:List PyData->XF)(fa:Ev->R (List PV))(vs:List Nat)(f:Ev->SR):Ev->XS:=fun c=>match fi c with
 | .bad=>.s .bad
 | .ok ds c1=>if ds.length<=16000000 then match Oc g ft F fa ds (cIn idx c1) with
  | none=>.s (f c)
  | some (nm,cI)=>if vs.all (fun i=>match c[i]? with | some (some _)=>true | _=>false) then match Ga cI (pairsOf 0 idx) c1 with
   | none=>.s .bad
   | some c2=>.ex nm c2
   else .s .bad
  else .s .bad
theorem Aq3 {idx:List (Option Nat)}{wi:TI}{t:TG}{tc:TT}{ta:TA}{fi:Ev->R (List PyData)}{g:PV->Ev->R Unit}{ft:Ev->R Bool}{F:List PyData->XF}{fa:Ev->R (List PV)}{vs:List Nat}{T:TS}{f:Ev->SR}(hnd:((pairsOf 0 idx).map (·.2)).Nodup)(hi:MI K wi fi)(hg:MG K t g)(ht:MT K tc ft)(ha:MA K ta fa)(hm:MS K T f)
 (hx:∀(σ:St) (H:Hp) (D:Ends),(∀i∈vs,∃v,σ[i]?=some (some v))->(∀Q,tLC idx wi t tc (Kv (spX K F) [] E ta) σ H Q)->T D σ H):MX K E T (Oq idx fi g ft F fa vs f):=by
 intro β W c σ D R l;unfold Oq at l
 cases e:fi c with
 | bad=>rw[e]at l;exact l.elim
 | ok ds c1 =>
 rw[e]at l
 dsimp only at l
 split at l
 ·rename_i hl
  cases ex:Oc g ft F fa ds (cIn idx c1) with
  | none=>simp only[ex]at l;exact hm β W c σ D R l
  | some r =>
  obtain⟨nm,cI⟩:=r;simp only[ex]at l
  split at l
  ·rename_i hv
   cases eb:Ga cI (pairsOf 0 idx) c1 with
   | none=>simp only[eb]at l;exact l.elim
   | some cO =>
   simp only[eb]at l
   refine hx σ W.H D (fun i hi=>?_) fun Q=>?_
   ·have:=List.all_eq_true.mp hv i hi
    split at this
    ·rename_i o ho
     obtain⟨v,h1,_⟩:=R.get i o ho;exact⟨v,h1⟩
    ·cases this
   ·refine hi β W c σ _ R ?_
    rw[e];intro J W1 st1 R1 it;have L:=Ao9 (idx:=idx) R1 hnd
    let βI:Nat->V:=fun k=>(((cst idx σ)[k]?).join).getD .non
    have RI:=L.rep R1
    let WI:Wo:=⟨W1.Hf,W1.H,Qn (pairsOf 0 idx) c1 W1.fps⟩
    refine⟨fun i m σ' vs H=>∃W2 c2,W2.H=H/\Rep K βI W2 c2 σ'/\m=ds.length-i/\i<=ds.length/\vs.length<=i/\Stp WI.S WI.Hf WI.H W2.S W2.Hf W2.H/\Oc g ft F fa (ds.drop i) c2=some (nm,cI),
     ⟨_,WI,cIn idx c1,rfl,RI,rfl,Nat.zero_le _,Nat.le_refl _,Stp.refl,ex⟩,?_⟩
    rintro i m σ' vs H ⟨W2,c2,rfl,R2,rfl,hle,hvs,st2,f2⟩
    obtain⟨hstop,hgo⟩:=it i W2.Hf W2.H st2.fz R2.sub
    by_cases lt:i<ds.length
    ·obtain⟨q1,q2⟩:=hgo ds[i] (List.getElem?_eq_getElem lt)
     refine .inr ⟨q1,Nat.lt_of_lt_of_le (Nat.lt_of_le_of_lt hvs (Nat.lt_of_lt_of_le lt hl)) (by decide),fun σ' vs H'=>∃W2 c2,W2.H=H'/\Rep K βI W2 c2 σ'/\vs.length<=i+1/\Stp WI.S WI.Hf WI.H W2.S W2.Hf W2.H/\Oc g ft F fa (ds.drop (i+1)) c2=some (nm,cI),
      fun σ' acc' H' ⟨W3,c3,e3,R3,h3,st3,f3⟩=>⟨ds.length-(i+1),by omega,W3,c3,e3,R3,rfl,by omega,h3,st3,f3⟩,fun x H' hy=>?_⟩
     obtain⟨Hf2,st3,sub3,tx⟩:=q2 x H' hy;have R3:=st3.rep R2 sub3
     have stx:Stp W2.S W2.Hf W2.H (Wo.S ⟨Hf2,H',W2.fps⟩) Hf2 H':=⟨st3.fz,fun a o e _=>st3.kp a o e fun z=>z,fun a o e mu _ q=>st3.nf a o e mu (fun z=>z) q,fun a z=>.inl z⟩
     rw[Mt lt]at f2;unfold Oc at f2
     refine hg βI ⟨Hf2,H',W2.fps⟩ c2 σ' (.o (.im ds[i])) x [] _ R3 ⟨⟨rfl,tx⟩,fun a z=>nomatch z⟩ ?_
     cases eg:g (.o (.im ds[i])) c2 with
     | bad=>rw[eg]at f2;cases f2
     | ok u c3 =>
      rw[eg]at f2
      dsimp only at f2
      intro σ3 W3 st4 R4
      have st4:=st4.up (S2:=W2.S) fun a z=>by
       rcases z with z | z
       ·exact z
       ·cases z
      refine ht βI W3 c3 σ3 _ R4 ?_
      cases et:ft c3 with
      | bad=>rw[et]at f2;cases f2
      | ok b c4 =>
       rw[et]at f2;intro W4 st5 R5;have st15:Stp WI.S WI.Hf WI.H W4.S W4.Hf W4.H:=st2.trans (stx.trans (st4.trans st5))
       cases b with
       | false=>rw[if_neg (by decide)];exact⟨W4,c4,rfl,R5,by omega,st15,f2⟩
       | true =>
        rw[if_pos rfl]
        dsimp only at f2
        show ta σ3 W4.H fun vs H1=>spX K F (vs++[]) H1 _ E
        simp only[List.append_nil]
        refine ha βI W4 c4 σ3 _ R5 ?_
        cases ef:fa c4 with
        | bad=>rw[ef]at f2;cases f2
        | ok ps c5 =>
         rw[ef]at f2
         dsimp only at f2
         intro ys W5 st6 R6 r6
         cases ea:Mv c5 ps with
         | none=>simp only[ea]at f2;cases f2
         | some es =>
          simp only[ea]at f2
          refine⟨W5.Hf,es,R6.sub,Mq R6 r6 ea,?_⟩
          have go:∀{Hf' H':Hp},Stp (fun _=>False) W5.Hf W5.H (fun _=>False) Hf' H'->Same Hf' H'->Stp WI.S WI.Hf WI.H (Wo.S ⟨Hf',H',W5.fps⟩) Hf' H'/\Rep K βI ⟨Hf',H',W5.fps⟩ c5 σ3:=fun {Hf' H'} s2 sub =>
           ⟨st15.trans (st6.trans ⟨s2.fz,fun a o e _=>s2.kp a o e fun z=>z,fun a o e mu _ q=>s2.nf a o e mu (fun z=>z) q,fun a z=>.inl z⟩),Stp.rep R6 s2 sub⟩
          split at f2
          ·rename_i nm' eF
           rw[eF]
           cases f2
           intro C d Hf' H' hn s2 sub;obtain⟨s3,R7⟩:=go s2 sub
           obtain⟨W3,e1,e2,R8,st8,_⟩:=L.back (W':=⟨Hf',H',W5.fps⟩) (fp:=[]) R1 R7 (s3.less fun a z=>by
            rcases z with z | z
            ·exact z
            ·cases z) eb (fun k i b ds v hm _ hv=>by
             have:=(El hm).2;rw[Nat.sub_zero]at this
             show (((cst idx σ)[k]?).join).getD .non=v
             rw[X4 this hv];rfl) (fun a z=>nomatch z)
           have st8:Stp W1.S W1.Hf W1.H W3.S W3.Hf W3.H:=by
            rw[e1,e2];exact st8.less fun a z=>.inl z
           have:=l C d σ W3 (by rw[e1];exact hn) (st1.trans st8) R8
           rw[e2]at this;exact this
          ·rename_i d eF
           rw[eF];intro v Hf' H' fp s2 sub r;obtain⟨rfl,tv⟩:=r
           obtain⟨s3,R7⟩:=go (s2.less fun a z=>nomatch z) sub
           exact⟨⟨Hf',H',W5.fps⟩,c5,rfl,R7,by rw[List.length_append,List.length_singleton];omega,s3,f2⟩
          ·cases f2
    ·have e:i=ds.length:=by omega
     subst e;rw[List.drop_length]at f2
     cases f2
  ·exact l.elim
 ·exact l.elim
def A0w (F:List PyData->XF)(fa:Ev->R (List PV))(i:Nat):Ev->XS:=Uz F fa (fun o c=>.s ((cgN i (.o o) c).toS fun _ c=>.nx c)) .ex
def Ah9 (F:List PyData->XF)(fa:Ev->R (List PV)):Ev->XS:=Uz F fa (fun _ c=>.s (.nx c)) .ex
theorem A9q {F:List PyData->XF}{t:TA}{fa:Ev->R (List PV)}{i:Nat}(ha:MA K t fa):MX K E (Vi (Kv (spX K F) [] E t) (Ju i)) (A0w F fa i):=by
 intro β W c σ D R l
 have:=Tw (Q:=fun v H'=>D.nx (σ.set i (some v)) H') (E':=E) ha R l (fun o c1 W2 v st R2 lk r=>by
  refine Ai β W2 c1 σ (.o o) v [] D.nx R2 r ((Er (show zE K β W D _ from lk)).mono fun _ c2 l2 σ2 W3 st2 R3=>?_)
  exact l2 σ2 W3 (st.trans (st2.up fun a z=>Yj z)) R3)
  (fun nm c1 W2 C d st R2 lk hn=>lk C d σ W2 hn st R2)
 show t σ W.H fun vs H1=>spX K F (vs++[]) H1 (fun v H'=>D.nx (σ.set i (some v)) H') E
 simp only[List.append_nil];exact this
theorem A2p {F:List PyData->XF}{t:TA}{fa:Ev->R (List PV)}(ha:MA K t fa):MX K E (Ao8 (Kv (spX K F) [] E t)) (Ah9 F fa):=by
 intro β W c σ D R l
 have:=Tw (Q:=fun _ H'=>D.nx σ H') (E':=E) ha R l (fun o c1 W2 v st R2 lk r=>lk σ W2 st R2)
  (fun nm c1 W2 C d st R2 lk hn=>lk C d σ W2 hn st R2)
 show t σ W.H fun vs H1=>spX K F (vs++[]) H1 (fun _ H'=>D.nx σ H') E
 simp only[List.append_nil];exact this
end
end U
namespace L2
open PySem PySem.Spec PyProof.Rows
section
variable {X:Cx}
def rUpper:V->List V->Hp->VK->Prop:=fun x vs H Q=>∃s:Str,x=.str s/\vs=[]/\(Txt.upper s).length<=16000000/\Q (.str (Txt.upper s)) H
theorem A4t:MtM X "str.upper" rUpper:=by
 intro pins s σ H x vs v us Q I rx rv h;obtain⟨y,rfl,rfl,hz,q⟩:=h;obtain⟨t,rfl⟩:=rx
 cases rv
 exact SC.upper (decide_eq_false (Nat.not_lt.mpr (Nat.le_trans hz (by decide)))) ⟨.str _,H,I.tok _,⟨_,rfl⟩,q⟩
end
end L2
namespace U
open PySem L2 PySem.W
variable {K:PySem.W.Frag}
def A3c:PyData->Option O
 | .str s=>if (Txt.upper s).length<=16000000 then some (.im (.str (Txt.upper s))) else none
 | _=>none
theorem A3q {t:TE}{f:Ev->R PV}(h:ME K t f):ME K (Bo6 K "str" rUpper t) (cUn A3c f) :=
 Vs (r:=fun x H Q=>tyV K "str" x H/\rUpper x [] H Q) h fun Hf H x d o Q s r e n=>by
  unfold A3c at e
  split at e
  ·split at e
   ·rename_i hz
    cases e;cases Gp r;exact⟨rfl,_,rfl,rfl,hz,n.str s⟩
   ·cases e
  ·cases e
variable {K:PySem.W.Frag}{β:Nat->V}{W W':Wo}{c c':Ev}{σ:St}{Hf H:Hp}
variable {K:PySem.W.Frag}{β:Nat->V}{W W':Wo}{c c':Ev}{σ:St}{Hf H:Hp}
end U
namespace PS
open PySem PySem.W PyProof.Rows L2
end PS
namespace U
open PySem L2
theorem R.bind_ok  {a:b}  {k:b->Ev->R d}:(R.ok a c).bind k=k a c:=rfl
theorem R.toS_ok  {a:b}  {k:b->Ev->SR}:(R.ok a c).toS k=k a c:=rfl
theorem Ar6 {a:Type}{x:Option a}:(some x).join=x:=rfl
theorem Bs6  (x:a) (r:List a):atI (x::r) 0=some x:=Gf  rfl
theorem Br0  (x y:a) (r:List a):atI (x::y::r) 1=some y:=Gf  rfl
theorem Bt8  (x y z:a) (r:List a):atI (x::y::z::r) 2=some z:=Gf  rfl
theorem Bs1  (x y z u:a) (r:List a):atI (x::y::z::u::r) 3=some u:=Gf  rfl
theorem Bq3  (x y z u w:a) (r:List a):atI (x::y::z::u::w::r) 4=some w:=Gf  rfl
theorem Bk0:ixN 3 0=some 0:=rfl
theorem Bc0:ixN 3 1=some 1:=rfl
theorem Bd7:ixN 3 2=some 2:=rfl
def Ux (g:PV->Ev->R Unit)(body:Ev->SR)(d:PyData)(c:Ev):SR:=(g (.o (.im d)) c).toS fun _ c=>body c
theorem Aw9      (h:Ux g body d c=.nx c'\/Ux g body d c=.ct c'):forL g body (d::ds) c=forL g body ds c':=by
 unfold Ux at h;rw[forL]
 cases e:g _ c with
 | bad=>rw[e]at h;rcases h with h | h <;> cases h
 | ok u a =>
  rw[e]at h;have h:body _=.nx _\/body _=.ct _:=h
  grind
theorem Ha {g:PV->Ev->R Unit}{body:Ev->SR}{P:Nat->Ev->Prop}:∀{items:List PyData}{n:Nat}{c:Ev},P n c ->
 (∀k d c,items[k]?=some d->P (n+k) c->∃c',(Ux g body d c=.nx c'\/Ux g body d c=.ct c')/\P (n+k+1) c')->∃c',forL g body items c=.nx c'/\P (n+items.length) c'
 | [],n,c,h0,_=>⟨c,rfl,h0⟩
 | d::ds,n,c,h0,hs=>by
  obtain⟨c1,e,h1⟩:=hs 0 d c rfl h0;rw[Aw9 e]
  obtain⟨c2,e2,h2⟩:=Ha (P:=P) (items:=ds) (n:=n+1) (c:=c1) h1 (fun k d c hk hp=>by
   have:=hs (k+1) d c (by simpa using hk) (by rw[show n+(k+1)=n+1+k by omega];exact hp)
   rw[show n+(k+1)+1=n+1+k+1 by omega]at this
   exact this)
  exact⟨c2,e2,by rw[List.length_cons,show n+(ds.length+1)=n+1+ds.length by omega];exact h2⟩
def Qy (g:PV->Ev->R Unit)(ft:Ev->R Bool)(fe:Ev->R PV)(d:PyData)(c:Ev):R (Option PyData) :=
 (g (.o (.im d)) c).bind fun _ c=>(ft c).bind fun b c=>if b=true then (fe c).bind fun p c=>(frz (nrm p) c).bind fun y c=>.ok (some y) c else .ok none c
theorem Nt       : Ea g ft fe (d::ds) acc c=(Qy g ft fe d c).bind fun o c=>Ea g ft fe ds (acc++o.toList) c:=by
 unfold Qy;rw[Ea]
 cases e:g _ c with
 | bad=>rfl
 | ok u f =>
  simp only[R.bind_ok]
  cases e2:ft _ with
  | bad=>rfl
  | ok b h =>
   simp only[R.bind_ok]
   cases b with
   | false=>simp[R.bind_ok]
   | true =>
    cases e3:fe _ with
    | bad=>rfl
    | ok p i =>
     simp only[R.bind_ok]
     cases e4:frz _ _ with
     | bad=>rfl
     | ok y a=>rfl
theorem Jx {g:PV->Ev->R Unit}{ft:Ev->R Bool}{fe:Ev->R PV}{P:Nat->List PyData->Ev->Prop}:∀{items acc:List PyData}{n:Nat}{c:Ev},P n acc c ->
 (∀k d acc c,items[k]?=some d->P (n+k) acc c->∃o c',Qy g ft fe d c=.ok o c'/\P (n+k+1) (acc++o.toList) c')->∃acc' c',Ea g ft fe items acc c=.ok acc' c'/\P (n+items.length) acc' c'
 | [],acc,n,c,h0,_=>⟨acc,c,rfl,h0⟩
 | d::ds,acc,n,c,h0,hs=>by
  obtain⟨o,c1,e,h1⟩:=hs 0 d acc c rfl h0;rw[Nt,e,R.bind_ok]
  obtain⟨acc2,c2,e2,h2⟩:=Jx (P:=P) (items:=ds) (n:=n+1) (c:=c1) h1 (fun k d acc c hk hp=>by
   have:=hs (k+1) d acc c (by simpa using hk) (by rw[show n+(k+1)=n+1+k by omega];exact hp)
   rw[show n+(k+1)+1=n+1+k+1 by omega]at this
   exact this)
  exact⟨acc2,c2,e2,by rw[List.length_cons,show n+(ds.length+1)=n+1+ds.length by omega];exact h2⟩
theorem U6 {g:PV->Ev->R Unit}{ft:Ev->R Bool}{fe:Ev->R PV}{I:Ev->Prop}{F:PyData->Option PyData}:∀{items acc:List PyData}{c:Ev},I c ->
 (∀d c,d∈items->I c->∃c',Qy g ft fe d c=.ok (F d) c'/\I c')->∃c',Ea g ft fe items acc c=.ok (acc++items.filterMap F) c'/\I c'
 | [],acc,c,h0,_=>⟨c,by simp[Ea],h0⟩
 | d::ds,acc,c,h0,hs=>by
  obtain⟨c1,e,h1⟩:=hs d c (.head _) h0;rw[Nt,e,R.bind_ok]
  obtain⟨c2,e2,h2⟩:=U6 (I:=I) (F:=F) (items:=ds) (acc:=acc++(F d).toList) h1 (fun d c hd hi=>hs d c (.tail _ hd) hi)
  refine⟨c2,?_,h2⟩
  rw[e2,List.append_assoc];rw[List.filterMap_cons]
  cases F d <;> rfl
theorem Wi    {I:Ev->Prop}    (b:I c)
 (hs:∀d c,d∈items->I c->∃a,Qy g ft fe d c=.ok (some (F d)) a/\I a):∃a,Ea g ft fe items acc c=.ok (acc++items.map F) a/\I a:=by
 obtain⟨a,e,h⟩:=U6  (acc:=acc) b hs
 refine⟨a,?_,h⟩
 simp_all
theorem Jy {α:Type}{g:PV->Ev->R Unit}{ft:Ev->R Bool}{fe:Ev->R PV}{I:Ev->Prop}{f:α->PyData}{G:α->Option PyData}:∀{xs:List α}{acc:List PyData}{c:Ev},I c ->
 (∀x c,x∈xs->I c->∃c',Qy g ft fe (f x) c=.ok (G x) c'/\I c')->∃c',Ea g ft fe (xs.map f) acc c=.ok (acc++xs.filterMap G) c'/\I c'
 | [],acc,c,h0,_=>⟨c,by simp[Ea],h0⟩
 | x::xs,acc,c,h0,hs=>by
  obtain⟨c1,e,h1⟩:=hs x c (.head _) h0;rw[List.map_cons,Nt,e,R.bind_ok]
  obtain⟨c2,e2,h2⟩:=Jy (I:=I) (f:=f) (G:=G) (xs:=xs) (acc:=acc++(G x).toList) h1 (fun d c hd hi=>hs d c (.tail _ hd) hi)
  refine⟨c2,?_,h2⟩
  rw[e2,List.append_assoc];rw[List.filterMap_cons]
  cases G x <;> rfl
theorem Hy {b:Type}    {I:Ev->Prop}{f:b->PyData}{G:b->PyData}{xs:List b}   (d:I c)
 (hs:∀x c,x∈xs->I c->∃a,Qy g ft fe (f x) c=.ok (some (G x)) a/\I a):∃a,Ea g ft fe (xs.map f) acc c=.ok (acc++xs.map G) a/\I a:=by
 obtain⟨a,e,h⟩:=Jy  (acc:=acc) d hs
 refine⟨a,?_,h⟩
 simp_all
theorem Ey        (h1:fi c=.ok ds c1) (hl:ds.length<=16000000) (h2:Ea g ft fe ds [] (cIn idx c1)=.ok acc cI) (a:Ga cI (pairsOf 0 idx) c1=some c2) :
 cLC idx fi g ft fe c=.ok (.o (.ls false acc)) c2:=by
 unfold cLC;rw[h1,R.bind_ok]
 simp_all
theorem Rx      (h1:fi c=.ok ds c1):Oe fi g body c=forL g body ds c1:=by
 unfold Oe;rw[h1];rfl
theorem Dh   (h:f c=.nx c'):Bl f g c=g c':=by unfold Bl;rw[h]
theorem Ny       (h:body (a.map some++List.replicate (N-n) none)=.rt p c) (hl:a.length=n) (hf:At9 a p c=r):Gb n N body a=r:=by
 unfold Gb;grind
end U
namespace K
open PySem L2 U
structure Good (d:PyData) (n w:Nat):Prop where
 lay:d.canLay0=true
 shw:d.showable=true
 dct:d.hasDict=false
 dep:d.depth<=n
 wgt:wt d<=w
structure Goods (ds:List PyData) (n w:Nat):Prop where
 lay:PyData.canLayAll0 ds=true
 shw:PyData.showableAll ds=true
 dct:PyData.hasDictAll ds=false
 dep:PyData.depthAll ds<=n
 wgt:Ie ds<=w*ds.length
theorem Goods.of {n w:Nat}:∀{ds:List PyData},(∀d∈ds,Good d n w)->Goods ds n (w+2)
 | [],_=>⟨rfl,rfl,rfl,Nat.zero_le _,Nat.zero_le _⟩
 | d::r,h=>by
  have a:=h d (.head _)
  have b:=Goods.of fun e he=>h e (.tail _ he)
  refine⟨?_,?_,?_,?_,?_⟩
  ·show (d.canLay0&&PyData.canLayAll0 r)=true;rw[a.lay,b.lay];rfl
  ·show (d.showable&&PyData.showableAll r)=true;rw[a.shw,b.shw];rfl
  ·show (d.hasDict||PyData.hasDictAll r)=false;rw[a.dct,b.dct];rfl
  ·show max d.depth (PyData.depthAll r)<=n;have:=a.dep;have:=b.dep;omega
  ·show wt d+2+Ie r<=(w+2)*(r.length+1)
   have:=a.wgt;have:=b.wgt;rw[Nat.mul_succ];omega
theorem Good.tup   (h:∀d∈ds,Good d n w) (hk:ds.length<=k):Good (.tuple ds) (n+1) ((w+2)*k+4):=by
 have g:=Goods.of h;have m:(w+2)*ds.length<=(w+2)*k:=Nat.mul_le_mul_left _ hk
 refine⟨g.lay,g.shw,g.dct,?_,?_⟩
 ·show PyData.depthAll _+1<=n+1;have:=g.dep;omega
 ·show Ie _+4<=(w+2)*k+4;have:=g.wgt;omega
theorem Good.lst   (h:∀d∈ds,Good d n w) (hk:ds.length<=k):Good (.list ds) (n+1) ((w+2)*k+4):=by
 have g:=Goods.of h;have m:(w+2)*ds.length<=(w+2)*k:=Nat.mul_le_mul_left _ hk
 refine⟨g.lay,g.shw,g.dct,?_,?_⟩
 ·show PyData.depthAll _+1<=n+1;have:=g.dep;omega
 ·show Ie _+4<=(w+2)*k+4;have:=g.wgt;omega
theorem Good.mono   (h:Good d n w) (a:n<=n') (b:w<=w'):Good d n' w':=⟨h.lay,h.shw,h.dct,Nat.le_trans h.dep a,Nat.le_trans h.wgt b⟩
theorem Good.flatB   (h:Good d n w) (hn:n<=40):Cq d=true:=by
 unfold U.Cq;rw[h.lay,decide_eq_true (Nat.le_trans h.dep hn)];rfl
theorem V5    (ha:Good a n w) (hb:Good b n' w') (hn:n<=40) (c:n'<=40):Dc neg a b=some (.im (.bool (if neg then !PyData.eqv a b else PyData.eqv a b))):=by
 unfold Dc;rw[ha.flatB hn,hb.flatB c];rfl
theorem Ah7   (h:Good d n w) (hn:n<=40) (hw:w<=16000000) (hs:isSeq d=true):Ap7 d=some (.im (.str d.shown)):=by
 have l:d.shown.length<=sizeLine:=Nat.le_trans (Ab0 d h.lay h.shw) (Nat.le_trans h.wgt (Nat.le_trans hw (by decide)))
 cases d with
 | int i=>cases hs
 | none=>rfl
 | bool b=>rfl
 | str x=>cases hs
 | dict k=>cases hs
 | list a =>
  show (if isSeq _&&_ then _ else _)=_
  rw[h.shw,h.dct,decide_eq_true (Nat.le_trans h.dep hn),decide_eq_true l];rfl
 | tuple a =>
  show (if isSeq _&&_ then _ else _)=_
  rw[h.shw,h.dct,decide_eq_true (Nat.le_trans h.dep hn),decide_eq_true l];rfl
theorem Wy  (h:∀d∈ds,d.canLay0=true):PyData.canLayAll0 ds=true:=by
 induction ds with
 | nil=>rfl
 | cons d r a=>show (d.canLay0&&PyData.canLayAll0 r)=true;grind
theorem Jt   : Dc neg (.str a) (.str b)=some (.im (.bool (if neg then !decide (a=b) else decide (a=b)))):=by
 unfold Dc
 rw[show Rz _ _=true from rfl]
 rw[Uu]
 simp
inductive Vl where
 | non
 | int (i:Int)
 | str (x:Str)
 deriving DecidableEq
@[simp] theorem Vl.int.injEq (a b:Int):(Vl.int a=Vl.int b)=(a=b):=propext ⟨fun h=>by cases h;rfl,fun h=>by rw[h]⟩
@[simp] theorem Vl.str.injEq (a b:Str):(Vl.str a=Vl.str b)=(a=b):=propext ⟨fun h=>by cases h;rfl,fun h=>by rw[h]⟩
def Vl.d:Vl->PyData
 | .non=>.none
 | .int i=>.int i
 | .str x=>.str x
def vb:Vl->Bool
 | .non=>true
 | .int i=>decide (-1000000000000<=i)&&decide (i<=1000000000000)
 | .str x=>decide (x.length<=40)&&x.cps.toList.all fun c=>decide (32<=c)&&decide (c<=126)
abbrev VB (v:Vl):Prop:=vb v=true
abbrev VBs (vs:List Vl):Prop:=∀v∈vs,VB v
def tD (vs:List Vl):PyData:=.tuple (vs.map Vl.d)
theorem Ao3 (x y:Str):PyData.eqv (.str x) (.str y)=decide (x=y):=by
 show (x==y)=_
 grind
theorem A3o (a b:Vl):PyData.eqv a.d b.d=decide (a=b):=by
 cases a with
 | non=>cases b <;> simp[Vl.d,PyData.eqv]
 | int i=>
  cases b with
   | int j =>
    show (i==j)=_
    grind
   | non=>rfl
   | str y=>trivial
 | str x=>
  cases b with
   | str y=>rw[show PyData.eqv (Vl.d (.str x)) (Vl.d (.str y))=_ from Ao3 x y];simp_all
   | non=>trivial
   | int y=>trivial
theorem Ac4:∀as bs:List Vl,PyData.eqvAll (as.map Vl.d) (bs.map Vl.d)=decide (as=bs)
 | [],[]=>by simp[PyData.eqvAll]
 | [],b::bs=>by simp[PyData.eqvAll]
 | a::as,[]=>by simp[PyData.eqvAll]
 | a::as,b::bs=>by
  show (PyData.eqv a.d b.d&&PyData.eqvAll (as.map Vl.d) (bs.map Vl.d))=_
  rw[A3o,Ac4 as bs]
  simp
theorem Bq4 (a bs:List Vl):PyData.eqv (tD a) (tD bs)=decide (a=bs):=by
 exact Ac4 _ _
theorem Hm  (h:VB v):Good v.d 0 1921:=by
 cases v with
 | non=>exact⟨rfl,rfl,rfl,Nat.le_refl _,by decide⟩
 | int i =>
  obtain⟨a,b⟩:=Bool.and_eq_true_iff.mp (show (decide _&&decide _)=true from h)
  have a:=of_decide_eq_true a;have b:=of_decide_eq_true b
  refine⟨rfl,?_,rfl,Nat.le_refl _,Nat.le_refl _⟩
  have c:i.natAbs<2 ^ 41:=by omega
  have:i.natAbs.log2<1920:=by
   by_cases hz:i.natAbs=0
   ·rw[hz];decide
   ·exact Nat.lt_of_lt_of_le ((Nat.log2_lt hz).mpr c) (by decide)
  simpa[Vl.d,PyData.showable] using this
 | str x =>
  obtain⟨a,b⟩:=Bool.and_eq_true_iff.mp (show (decide _&&x.cps.toList.all _)=true from h)
  have a:=of_decide_eq_true a
  refine⟨?_,rfl,rfl,Nat.le_refl _,?_⟩
  ·show x.cps.all _=true
   grind
  ·show 10*x.length+2<=1921
   omega
theorem Km   (h:VBs vs) (hk:vs.length<=k):Good (tD vs) 1 (1923*k+4) :=
 Good.tup (fun d a=>by obtain⟨v,b,rfl⟩:=List.mem_map.mp a;exact Hm (h v b)) (by simp_all)
theorem VBs.app  (h:VBs a) (k:VBs b):VBs (a++b):=fun v c=>by
 grind
theorem Bs4 (v:Vl)(vs:List Vl):((vs.map Vl.d).any fun e=>PyData.eqv e v.d)=decide (v∈vs):=by
 induction vs with
 | nil=>simp
 | cons a r b =>
  rw[List.map_cons,List.any_cons,A3o]
  grind
theorem Br3 (v:List Vl)(vs:List (List Vl)):((vs.map tD).any fun e=>PyData.eqv e (tD v))=decide (v∈vs):=by
 induction vs with
 | nil=>simp
 | cons a r b =>
  rw[List.map_cons,List.any_cons,Bq4]
  grind
theorem A4l    (h:VB v) (hs:VBs vs):K1 neg v.d (.list (vs.map Vl.d))=some (.im (.bool (if neg then !decide (v∈vs) else decide (v∈vs)))):=by
 have e:K1 neg v.d (.list (vs.map Vl.d))=if Cq v.d&&PyData.canLayAll0 (vs.map Vl.d) then some (.im (.bool (if neg then !(vs.map Vl.d).any fun e=>PyData.eqv e v.d else (vs.map Vl.d).any fun e=>PyData.eqv e v.d))) else none:=by rfl
 rw[e,(Hm h).flatB (by decide),Wy fun d a=>by obtain⟨u,b,rfl⟩:=List.mem_map.mp a;exact(Hm (hs u b)).lay,Bs4];rfl
theorem A2i   {vs:List (List Vl)}(h:VBs v) (hs:∀u∈vs,VBs u):K1 neg (tD v) (.list (vs.map tD))=some (.im (.bool (if neg then !decide (v∈vs) else decide (v∈vs)))):=by
 show (if Cq _&&PyData.canLayAll0 _ then some _ else none)=_
 rw[(Km h (Nat.le_refl _)).flatB (by decide),Wy fun d a=>by obtain⟨u,b,rfl⟩:=List.mem_map.mp a;exact(Km (hs u b) (Nat.le_refl _)).lay,Br3];rfl
theorem Lg  {l:List a}{r:Int}(b:0<=r) (h1:r<l.length):∃d,atI l r=some d/\d∈l/\l[r.toNat]?=some d:=by
 obtain⟨k,rfl⟩:=Int.eq_ofNat_of_zero_le b
 exact⟨l[k],Gf (List.getElem?_eq_getElem _),List.getElem_mem _,by grind⟩
def A9m (pr:List O->FR):Ev->SR :=
 (Bl
  (cIf (Az (cOp (Fv false) (Ad 0) (cC (.none)))) (Df (G8 (Ac (cC (.int 0)) (Ac (cC (.int 0)) Aq)))) Cv)
  (Bl (cIf (Az (cUn (Eu .int) (Ad 0))) (Df (G8 (Ac (cC (.int 1)) (Ac (Ad 0) Aq)))) Cv)
  (Bl (cIf (Az (cUn (Eu .str) (Ad 0))) (Df (G8 (Ac (cC (.int 2)) (Ac (Ad 0) Aq)))) Cv)
  (Df (G8 (Ac (cC (.int 3)) (Ac (cUn Dj (cLC [none] (Cj (Ad 0)) (cgN 0) Bv (cF pr (Ac (Ad 0) Aq)))) Aq)))))))
def Hn:Nat->List O->FR
 | 0=>fun _=>.bad
 | k+1=>Gb 1 1 (A9m (Hn k))
def Ky:Ev->SR :=
 (Df (cOp A5f (cF (Hn 2) (Ac (Ad 0) Aq)) (cF (Hn 2) (Ac (Ad 1) Aq))))
def Du:List O->FR:=Gb 2 2 Ky
def Lz:Ev->XS :=
 (Aa8 (Rc (Di (cOp Ay (Ad 0) (cC (.int 0))) (cgN 2)))
  (Aa8 (xIf (Az (cOp (K1 true) (Ad 1) (Ad 2))) (Ry "NoColumn" (Str.ofString "no column ").length "name" (Ad 1)) (Rc Cv))
  (Rc (Df (cMt Ah4 R9 (Ad 2) (Ad 1))))))
def Cm:List PyData->XF:=Mw 2 3 Lz
def J0:Ev->XS :=
 (Oq [none,some 0] (Cj (Ad 1)) (cgN 0) Bv Cm (Ac (Ad 1) (Ac (Ad 0) Aq)) [] (Df (cFz (cLC [none,some 0] (Cj (Ad 1)) (cgN 0) Bv (cFY Cm (Ac (Ad 1) (Ac (Ad 0) Aq)))))))
def Hl:List PyData->XF:=Mw 2 2 J0
def Ih:Ev->SR :=
 (Bl
  (Di (Hg Aq) (cgN 1))
  (Bl (Oe (Cj (cOp Ay (Ad 0) (cC (.int 4)))) (cgT 2 (Av (cgN 2) (Av (cgN 3) Do))) (Ii (A6o (Ad 1) (cLC [none,none,some 2] (Qu (cOp Ay (Ad 0) (cC (.int 3))) (Ad 3)) (cgT 2 (Av (cgN 0) (Av (cgN 1) Do))) Bv (G8 (Ac (Ad 2) (Ac (Ad 0) (Ac (Ad 1) Aq))))))))
  (Df (Ad 1))))
def Dg:List O->FR:=Gb 1 4 Ih
def Ld:Ev->SR :=
 (Bl
  (Di (cLC [none,none,none] (Cj (cF Dg (Ac (Ad 0) Aq))) (cgT 3 (Av (cgN 0) (Av (cgN 1) (Av (cgN 2) Do)))) (Az (cOp (Fv true) (Ad 2) (cC (.none)))) (cOp Bw (cOp Bw (Ad 0) (Ad 1)) (Ad 2))) (cgN 1))
  (Df (G8 (Ac (cOp Bw (cOp Bw (cOp Ay (Ad 0) (cC (.int 0))) (cOp Ay (Ad 0) (cC (.int 1)))) (cOp Ay (Ad 0) (cC (.int 2)))) (Ac (cUn Dj (Ad 1)) Aq)))))
def Ei:List O->FR:=Gb 1 2 Ld
def M5:Ev->SR :=
 (Df (cLC [none] (Cj (Ad 0)) (cgN 0) Bv (cOp Ay (Ad 0) (cC (.int 0)))))
def Fb:List O->FR:=Gb 1 1 M5
def Dl:Ev->XS :=
 (xIf (Az (cUn (An6 true [Str.ofString "is",Str.ofString "not",Str.ofString "below",Str.ofString "above"]) (cOp Ay (Ad 1) (cC (.int 1))))) (Xo "BadWay" (Ac (cC (.str "a condition's word is is, not, below or above")) Aq)) (Rc Cv))
def Ik:Ev->XS :=
 (A8m (Cj (Ad 0)) (cgN 1) Dl)
def Gh:List PyData->XF:=Mw 1 2 Ik
def Ln:Ev->SR :=
 (Bl
  (cIf (Az (cOp (Dc false) (Ad 1) (cC (.str "is")))) (Df (cOp (Dc false) (Ad 0) (Ad 2))) Cv)
  (Bl (cIf (Az (cOp (Dc false) (Ad 1) (cC (.str "not")))) (Df (cOp (Dc true) (Ad 0) (Ad 2))) Cv)
  (Bl (cIf (Az (cOp (Dc false) (Ad 1) (cC (.str "below")))) (Df (cF Du (Ac (Ad 0) (Ac (Ad 2) Aq)))) Cv)
  (Df (cF Du (Ac (Ad 2) (Ac (Ad 0) Aq)))))))
def Fd:List O->FR:=Gb 3 3 Ln
def Rh:Ev->SR :=
 (Df (cUn Wf (cLC [none,none,some 0] (Qu (Ad 1) (Ad 2)) (cgT 2 (Av (cgN 0) (Av (cgN 1) Do))) Bv (cF Fd (Ac (cOp Ay (Ad 2) (Ad 0)) (Ac (cOp Ay (Ad 1) (cC (.int 1))) (Ac (cOp Ay (Ad 1) (cC (.int 2))) Aq)))))))
def Et:List O->FR:=Gb 3 3 Rh
def G3:Ev->XS :=
 (Aa8 (A0w Hl (Ac (Ad 0) (Ac (cFz (cF Fb (Ac (Ad 1) Aq))) Aq)) 2)
  (Aa8 (Ah9 Gh (Ac (Ad 1) Aq))
  (Rc (Df (cFz (cLC [none,none,some 2,some 1] (Am5 (cOp Ay (Ad 0) (cC (.int 1)))) (cgT 2 (Av (cgN 0) (Av (cgN 1) Do))) (Az (cF Et (Ac (Ad 1) (Ac (Ad 2) (Ac (Ad 3) Aq))))) (Ad 0)))))))
def Bm:List PyData->XF:=Mw 2 3 G3
def Gg:Ev->XS :=
 (Aa8 (Rc (Di (cLC [none,none,none] (Cj (cF Dg (Ac (Ad 0) Aq))) (cgT 3 (Av (cgN 0) (Av (cgN 1) (Av (cgN 2) Do)))) (Az (cOp (Fv true) (Ad 2) (cC (.none)))) (G8 (Ac (Ad 0) (Ac (Ad 1) Aq)))) (cgN 2)))
  (Ql Bm (Ac (cF Ei (Ac (Ad 0) Aq)) (Ac (Ad 1) Aq)) [] (Df (cFz (cLC [none,some 2] (Cj (cFY Bm (Ac (cF Ei (Ac (Ad 0) Aq)) (Ac (Ad 1) Aq)))) (cgN 0) Bv (cOp Ay (Ad 1) (Ad 0)))))))
def Cr:List PyData->XF:=Mw 2 3 Gg
def Kp:Ev->SR :=
 (Bl
  (cIf (Az (cOp O8 (Ad 1) (Mx (Ad 0)))) (Df (Bj0 (Ad 0) (Ad 1))) Cv)
  (Df (cC (.int 0))))
def Ew:List O->FR:=Gb 2 2 Kp
def Z8:Ev->SR :=
 (Bl
  (Di (cF Ew (Ac (Ad 0) (Ac (Ad 1) Aq))) (cgN 2))
  (Df (Hg (Ac (cOp Kl (cUn Ap3 (Ad 2)) (cUn A5r (cOp Bn0 (cUn Ap3 (Ad 2)) (cOp Q0 (cC (.int 10)) (cC (.int 18)))))) (Ac (cOp Bw (cOp Bw (cOp Nz (Ad 2) (cC (.int 2305843009213693951))) (cOp Kl (cC (.int 39373)) (Ad 1))) (cC (.int 17))) (Ac (cC (.int 0)) Aq))))))
def Lp:List O->FR:=Gb 2 3 Z8
def Qk:Ev->SR :=
 (Bl
  (cIf (Az (cOp Bi6 (cOp Ay (Ad 0) (cC (.int 0))) (cC (.int 0)))) (Bl (Di (cOp Nz (cOp Ay (Ad 0) (cC (.int 0))) (Ad 1)) (cgN 2))
  (Bl (Di (cOp Xi (cOp Ay (Ad 0) (cC (.int 0))) (Ad 1)) (Ak5 (Ad 0) (cC (.int 0))))
  (Df (Ad 2)))) Cv)
  (Bl (Di (cOp Bw (cOp Ay (Ad 0) (cC (.int 2))) (cC (.int 1))) (Ak5 (Ad 0) (cC (.int 2))))
  (Bl (Di (cOp Nz (cOp Kl (cOp Bw (cOp Ay (Ad 0) (cC (.int 1))) (cOp Kl (cC (.int 48271)) (cOp Ay (Ad 0) (cC (.int 2))))) (cOp Bw (cC (.int 39373)) (cOp Ay (Ad 0) (cC (.int 2))))) (cC (.int 2147483647))) (cgN 3))
  (Bl (Di (cOp Nz (cOp Kl (cOp Bw (Ad 3) (cOp Ay (Ad 0) (cC (.int 2)))) (cOp Bw (cOp Nz (Ad 3) (cC (.int 40009))) (cC (.int 7)))) (cC (.int 2147483629))) (cgN 4))
  (Df (cOp Nz (cOp Xi (cOp Nz (cOp Bw (cOp Kl (Ad 4) (cC (.int 48271))) (Ad 3)) (cC (.int 2147483587))) (cC (.int 64))) (Ad 1)))))))
def Ak:List O->FR:=Gb 2 5 Qk
def Qm:Ev->SR :=
 (Bl
  (cIf (Az (cOp (Dc false) (cF Ak (Ac (Ad 0) (Ac (cC (.int 8)) Aq))) (cC (.int 0)))) (Df (cOp Bw (cC (.int 7)) (cF Ak (Ac (Ad 0) (Ac (cOp M4 (Ad 3) (cC (.int 6))) Aq))))) Cv)
  (Df (cOp Bw (Ad 1) (cF Ak (Ac (Ad 0) (Ac (cOp Bw (cOp M4 (Ad 2) (Ad 1)) (cC (.int 1))) Aq))))))
def Gw:List O->FR:=Gb 4 4 Qm
def Td:Ev->SR :=
 (Bl
  (Di (Hg (cK [.str "b",.str "a",.str "year",.str "z",.str "ab",.str "month",.str "aa",.str "quantity",.str "c",.str "town",.str "zz",.str "ba"])) (cgN 2))
  (Df (cLC [none,some 2,some 0] (Jv (Ad 1)) (cgN 0) Bv (S8 (Ad 1) (cF Ak (Ac (Ad 2) (Ac (Mx (Ad 1)) Aq)))))))
def Gq:List O->FR:=Gb 2 3 Td
def Ht:Ev->SR :=
 (Bl
  (Di (cF Ak (Ac (Ad 0) (Ac (cC (.int 9)) Aq))) (cgN 1))
  (Bl (cIf (Az (cOp O8 (Ad 1) (cC (.int 4)))) (Df (cOp M4 (cF Ak (Ac (Ad 0) (Ac (cC (.int 13)) Aq))) (cC (.int 3)))) Cv)
  (Bl (cIf (Az (cOp (Dc false) (Ad 1) (cC (.int 4)))) (Df (cOp Ay (Hg (Ac (cOp M4 (cOp Q0 (cC (.int 10)) (cC (.int 12))) (cC (.int 1))) (Ac (cOp M4 (cC (.int 0)) (cOp Q0 (cC (.int 10)) (cC (.int 11)))) (Ac (cC (.int 100)) (Ac (cC (.int 10)) Aq))))) (cF Ak (Ac (Ad 0) (Ac (cC (.int 4)) Aq))))) Cv)
  (Bl (cIf (Az (cOp (Dc false) (Ad 1) (cC (.int 5)))) (Df (cC (.none))) Cv)
  (Df (cOp Ay (Hg (cK [.str "",.str "a",.str "b",.str "B",.str "10",.str "9",.str "-",.str "a b",.str "it's",.str "\\",.str "/",.str "_",.str ":",.str "None",.str "ab"])) (cF Ak (Ac (Ad 0) (Ac (cC (.int 15)) Aq)))))))))
def Bp:List O->FR:=Gb 1 2 Ht
def Ly:Ev->SR :=
 (Bl
  (cIf (Az (cOp (Dc false) (cF Ak (Ac (Ad 0) (Ac (cC (.int 9)) Aq))) (cC (.int 0)))) (Df (cOp Ay (Hg (Ac (cOp M4 (cOp Q0 (cC (.int 10)) (cC (.int 12))) (cC (.int 1))) (Ac (cOp M4 (cC (.int 1)) (cOp Q0 (cC (.int 10)) (cC (.int 12)))) (Ac (cOp Q0 (cC (.int 10)) (cC (.int 11))) (Ac (cC (.int 0)) Aq))))) (cF Ak (Ac (Ad 0) (Ac (cC (.int 4)) Aq))))) Cv)
  (Df (cOp M4 (cF Ak (Ac (Ad 0) (Ac (cC (.int 25)) Aq))) (cC (.int 7)))))
def Cw:List O->FR:=Gb 1 1 Ly
def Vy:Ev->SR :=
 (Bl
  (Di (Hg Aq) (cgN 2))
  (Bl (Oe (Jv (Ad 1)) (cgN 3) (Bl (Di (cF Bp (Ac (Ad 0) Aq)) (cgN 4))
  (cIf (Az (cOp (K1 true) (Ad 4) (Ad 2))) (Ii (Qv (Ad 2) (Ad 4))) Cv)))
  (Df (Ad 2))))
def Hq:List O->FR:=Gb 2 5 Vy
def Q8:Ev->SR :=
 (Bl
  (Di (cF Hq (Ac (Ad 0) (Ac (cC (.int 6)) Aq))) (cgN 3))
  (Bl (Di (Hg Aq) (cgN 4))
  (Bl (Oe (Jv (Ad 2)) (cgN 5) (Bl (Di (cUn Dj (cLC [none,some 3,some 0] (Jv (Ad 1)) (cgN 0) Bv (cOp Ay (Ad 1) (cF Ak (Ac (Ad 2) (Ac (Mx (Ad 1)) Aq)))))) (cgN 6))
  (cIf (Az (cOp (K1 true) (Ad 6) (Ad 4))) (Ii (Qv (Ad 4) (Ad 6))) Cv)))
  (Df (Ad 4)))))
def Fx:List O->FR:=Gb 3 7 Q8
def Qj:Ev->SR :=
 (Bl
  (Di (cF Gq (Ac (Ad 0) (Ac (cC (.int 9)) Aq))) (cgN 2))
  (Bl (A0l 3 4 5 (Ac (cF Ak (Ac (Ad 0) (Ac (cC (.int 3)) Aq))) (Ac (cF Ak (Ac (Ad 0) (Ac (cC (.int 3)) Aq))) (Ac (cOp Bw (cC (.int 1)) (cF Ak (Ac (Ad 0) (Ac (cC (.int 2)) Aq)))) Aq))))
  (Bl (cIf (Az (cOp (Dc false) (cF Ak (Ac (Ad 0) (Ac (cC (.int 8)) Aq))) (cC (.int 0)))) (Di (cOp Bw (cC (.int 3)) (cF Ak (Ac (Ad 0) (Ac (cC (.int 3)) Aq)))) (cgN 5)) Cv)
  (Bl (Bm5 6 7 (Ac (cSl Vj (Ad 2) cON (cOS (Ad 3))) (Ac (cSl Vj (Ad 2) (cOS (Ad 3)) (cOS (cOp Bw (Ad 3) (Ad 4)))) Aq)))
  (Bl (Di (cSl Vj (Ad 2) (cOS (cOp Bw (Ad 3) (Ad 4))) (cOS (cOp Bw (cOp Bw (Ad 3) (Ad 4)) (Ad 5)))) (cgN 8))
  (Bl (Di (cF Fx (Ac (Ad 0) (Ac (Ad 4) (Ac (cF Gw (Ac (Ad 0) (Ac (cC (.int 0)) (Ac (cC (.int 5)) (Ac (cC (.int 12)) Aq))))) Aq)))) (cgN 9))
  (Bl (Di (cOp Ay (Hg (Ac (cC (.int 9)) (Ac (cC (.int 2)) (Ac (cC (.int 3)) Aq)))) (cF Ak (Ac (Ad 0) (Ac (cC (.int 3)) Aq)))) (cgN 10))
  (Bl (Di (Hg Aq) (cgN 11))
  (Bl (Oe (Cj (cF Fx (Ac (Ad 0) (Ac (Ad 3) (Ac (cF Gw (Ac (Ad 0) (Ac (cC (.int 0)) (Ac (cC (.int 5)) (Ac (cC (.int 12)) Aq))))) Aq))))) (cgN 12) (Bl (Di (Hg Aq) (cgN 13))
  (Bl (Oe (Cj (Ad 9)) (cgN 14) (Bl (Di (cUn Dj (cLC [none,some 1,some 0] (Cj (Ad 8)) (cgN 0) Bv (Pq (Az (Ad 1)) (cF Cw (Ac (Ad 2) Aq)) (cF Bp (Ac (Ad 2) Aq))))) (cgN 15))
  (Ii (Qv (Ad 13) (Pq (Az (cOp (Dc false) (cF Ak (Ac (Ad 0) (Ac (Ad 10) Aq))) (cC (.int 0)))) (cC (.none)) (Ad 15))))))
  (Ii (Qv (Ad 11) (G8 (Ac (Ad 12) (Ac (cUn Dj (Ad 13)) Aq))))))))
  (Df (G8 (Ac (cUn Dj (Ad 6)) (Ac (cUn Dj (Ad 7)) (Ac (cUn Dj (Ad 8)) (Ac (cUn Dj (Ad 9)) (Ac (cUn Dj (Ad 11)) Aq))))))))))))))))
def Mj:List O->FR:=Gb 2 16 Qj
def Fy (pr:List O->FR):Ev->SR :=
 (Bl
  (cIf (Az (cUn (Ls .list .tuple) (Ad 1))) (Bl (cIf (cOr (Az (cOp (Dc true) (cUn (Eu .list) (Ad 0)) (cUn (Eu .list) (Ad 1)))) (Az (cOp (Dc true) (cUn (Eu .tuple) (Ad 0)) (cUn (Eu .tuple) (Ad 1))))) (Df (cC (.bool false))) Cv)
  (Df (Su (cOp (Dc false) (Mx (Ad 0)) (Mx (Ad 1))) (cUn Wf (cLC [none,none] (Qu (Ad 0) (Ad 1)) (cgT 2 (Av (cgN 0) (Av (cgN 1) Do))) Bv (cF pr (Ac (Ad 0) (Ac (Ad 1) Aq)))))))) Cv)
  (Bl (cIf (cOr (Az (cOp (Fv false) (Ad 1) (cC (.none)))) (Az (cUn (Eu .str) (Ad 1)))) (Df (Su (cOp (Dc false) (Ad 0) (Ad 1)) (cOp (Dc false) (cUn (Eu .str) (Ad 0)) (cUn (Eu .str) (Ad 1))))) Cv)
  (Bl (cIf (Az (cUn (Eu .bool) (Ad 1))) (Df (Su (cUn (Eu .bool) (Ad 0)) (cOp (Dc false) (Ad 0) (Ad 1)))) Cv)
  (Df (Su (cUn (Eu .int) (Ad 0)) (Su (A1u (cUn (Eu .bool) (Ad 0))) (cOp (Dc false) (Ad 0) (Ad 1))))))))
def Ck:Nat->List O->FR
 | 0=>fun _=>.bad
 | k+1=>Gb 2 2 (Fy (Ck k))
def V7:Ev->SR :=
 (Bl
  (cIf (Az (A4y (Ad 1))) (Df (Ad 0)) Cv)
  (Bl (Di (Hg (Ac (Om [("NoColumn",false),("BadWay",false)] (Ad 1)) (Ac (Om [("NoColumn",true),("BadWay",false)] (Ad 1)) (Ac (Om [("NoColumn",false),("BadWay",true)] (Ad 1)) Aq)))) (cgN 3))
  (Bl (Ii (Qv (Ad 3) (Om [("NoColumn",false),("BadWay",false)] (Ad 1))))
  (Bl (Di (Om [("NoColumn",false),("BadWay",false)] (Ad 1)) (cgN 4))
  (Bl (cIf (cOr (Az (Ad 4)) (cOr (Ar8 (Az (Om [("NoColumn",true),("BadWay",true)] (Ad 1)))) (Az (cOp (Dc true) (Mx (cLC [none] (Cj (Ad 3)) (cgN 0) (Az (Ad 0)) (Ad 0))) (cC (.int 1)))))) (Df (G8 (Ac (cC (.str "refused")) (Ac (cUn Bb5 (cC (.int 1))) (Ac (cC (.none)) Aq))))) Cv)
  (Df (G8 (Ac (cC (.str "refused")) (Ac (cMt Aj0 Sq (Ad 3) (cC (.bool true))) (Ac (Pq (Az (cOp Ay (Ad 3) (cC (.int 1)))) (cXF ["NoColumn"] "name" (Ad 1)) (cC (.none))) Aq))))))))))
def Dm:List O->FR:=Gb 2 5 V7
def Hv:Ev->SR :=
 (Bl
  (Di (cOp Ay (Ad 1) (cF Ak (Ac (Ad 0) (Ac (Mx (Ad 1)) Aq)))) (cgN 2))
  (Bl (Di (cOp Ay (Hg (cK [.str "is",.str "not",.str "below",.str "above"])) (cF Ak (Ac (Ad 0) (Ac (cC (.int 4)) Aq)))) (cgN 3))
  (Bl (cIf (Az (cOp (Dc false) (cF Ak (Ac (Ad 0) (Ac (cC (.int 5)) Aq))) (cC (.int 0)))) (Di (cOp Ay (Hg (Ac (cC (.str "no")) (Ac (cC (.str "")) (Ac (cC (.str "rows")) (Ac (cC (.str "A")) (Ac (cOp Bw (Ad 2) (cC (.str "x"))) (Ac (cUn A3c (Ad 2)) Aq))))))) (cF Ak (Ac (Ad 0) (Ac (cC (.int 6)) Aq)))) (cgN 2)) Cv)
  (Bl (cIf (Az (cOp (Dc false) (cF Ak (Ac (Ad 0) (Ac (cC (.int 5)) Aq))) (cC (.int 0)))) (Di (cOp Ay (Hg (cK [.str "like",.str "",.str "Is",.str "is ",.str "=",.str "least",.str "all",.str "belo",.str "below is"])) (cF Ak (Ac (Ad 0) (Ac (cC (.int 9)) Aq)))) (cgN 3)) Cv)
  (Df (G8 (Ac (Ad 2) (Ac (Ad 3) (Ac (cF Bp (Ac (Ad 0) Aq)) Aq)))))))))
def Ec:List O->FR:=Gb 2 4 Hv
def Oa:Ev->SR :=
 (Bl
  (Di (cLC [none,none,none,some 0] (Cj (Ad 1)) (cgT 3 (Av (cgN 0) (Av (cgN 1) (Av (cgN 2) Do)))) (Az (cOp (K1 true) (Ad 0) (Ad 3))) (Ad 0)) (cgN 2))
  (Bl (cIf (Az (cOp (Dc true) (cFz (Ad 2)) (Hg Aq))) (Df (G8 (Ac (cC (.str "refused")) (Ac (cC (.int 1)) (Ac (cOp Ay (cFz (Ad 2)) (cC (.int 0))) Aq))))) Cv)
  (Bl (cIf (Az (cUn A3g (cLC [none,none,none] (Cj (Ad 1)) (cgT 3 (Av (cgN 0) (Av (cgN 1) (Av (cgN 2) Do)))) Bv (cOp (K1 true) (Ad 1) (G8 (cK [.str "is",.str "not",.str "below",.str "above"])))))) (Df (G8 (Ac (cC (.str "refused")) (Ac (cC (.int 2)) (Ac (cC (.none)) Aq))))) Cv)
  (Df (cC (.none))))))
def Hx:List O->FR:=Gb 2 3 Oa
def K8:Ev->SR :=
 (Bl
  (Di (cLC [none,some 2,some 4] (Jv (cOp Bw (cC (.int 1)) (cF Ak (Ac (Ad 2) (Ac (cC (.int 4)) Aq))))) (cgN 0) Bv (cF Ec (Ac (Ad 1) (Ac (cOp Ay (Ad 2) (cC (.int 0))) Aq)))) (cgN 6))
  (Bl (Di (cF Hx (Ac (cOp Ay (Ad 4) (cC (.int 0))) (Ac (cFz (Ad 6)) Aq))) (cgN 7))
  (Bl (Di (cUn Ap7 (Hg (Ac (Ad 3) (Ac (cFz (Ad 6)) Aq)))) (cgN 8))
  (Bl (Di (Ss Bm Dm ["NoColumn", "BadWay"] (Ac (Ad 4) (Ac (Ad 6) Aq))) (cgN 9))
  (Bl (Di (Ss Cr Dm ["NoColumn", "BadWay"] (Ac (Ad 3) (Ac (Ad 6) Aq))) (cgN 10))
  (Bl (cIf (A8f (Az (cOp (Fv false) (Ad 7) (cC (.none)))) (cOr (Ar8 (Az (cUn (Eu .list) (Ad 9)))) (Ar8 (Az (cUn (Eu .list) (Ad 10)))))) (Df (cC (.bool false))) Cv)
  (Bl (cIf (A8f (Az (cOp (Fv true) (Ad 7) (cC (.none)))) (Ar8 (Az (cF (Ck 8) (Ac (Hg (Ac (Ad 9) (Ac (Ad 10) Aq))) (Ac (Hg (Ac (Ad 7) (Ac (Ad 7) Aq))) Aq)))))) (Df (cC (.bool false))) Cv)
  (cIf (Az (cOp (Dc true) (cUn Ap7 (Hg (Ac (Ad 3) (Ac (cFz (Ad 6)) Aq)))) (Ad 8))) (Df (cC (.bool false))) Cv))))))))
def Pa:Ev->SR :=
 (Bl
  (Di (cF Lp (Ac (Ad 0) (Ac (Ad 1) Aq))) (cgN 2))
  (Bl (Di (cF Mj (Ac (Ad 2) (Ac (cC (.bool false)) Aq))) (cgN 3))
  (Bl (Di (cF Ei (Ac (Ad 3) Aq)) (cgN 4))
  (Oe (Jv (cC (.int 8))) (cgN 5) K8))))
def Ad6:Ev->SR :=
 (Bl
  (Oe (Jv (cOp Bw (cC (.int 1)) (cOp Af5 (cC (.int 3)) (Mx (Ad 0))))) (cgN 1) Pa)
  (Df (cC (.bool true))))
def Af2:List O->FR:=Gb 1 11 Ad6
local macro_rules | `(tactic| wp_walk using $ts,*)=>`(tactic| simp only [Bl,Di,cgN,cgT,Av,Do,Ad,cC,cOp,cUn,Mx,cF,cFz,List.all_cons,List.all_nil,List.contains_cons,T4,Aa5,slots,pairsOf,ndB,Ga,Aq,Ac,cK,nrm,Ff,Ak4,rdP,O.dat,O.flag,O.bor,frz,frzs,G8,Hg,cIf,Az,Bv,A8f,cOr,Ar8,Su,A1u,Pq,Df,Ii,Cv,Qv,slL,S8,A6o,Ak5,Bm5,A0l,cSl,cON,cOS,Jv,cIn,R.bind_ok,R.toS_ok,Gb,At9,resolve,G7,W9,U.opI,U.Vf,Bi6,Bn0,M4,Xi,Nz,Q0,Ux,Qy,Bj0,List.getElem?_cons_zero,List.getElem?_cons_succ,List.set_cons_zero,List.set_cons_succ,List.map_cons,List.map_nil,List.length_cons,List.length_nil,List.replicate,List.cons_append,List.nil_append,List.append_nil,List.contains_nil,Option.map_some,Option.map_none,Option.bind_some,Option.join_some,Option.isSome_some,if_true,if_false,Bool.not_true,Bool.not_false,Bool.and_true,Bool.true_and,Bool.and_false,Bool.false_and,Bool.or_true,Bool.or_false,Bool.true_or,Bool.false_or,Nat.sub_self,List.dropLast,List.any_nil,List.flatMap_nil,ite_true,ite_false,decide_true,decide_false,reduceCtorEq,Bs6,Br0,Bt8,Bs1,Bq3,Bk0,Bc0,Bd7,U.Ar6,Nat.zero_add,Nat.reduceAdd,Nat.reduceSub,Nat.reduceLeDiff,Nat.reduceLT,Nat.reduceEqDiff,Int.reduceAdd,Int.reduceSub,Int.reduceNeg,Int.reduceLT,Int.reduceLE,Int.reducePow,Int.reduceToNat,Int.reduceMul,and_self,and_true,true_and,Bool.false_eq_true,Option.some.injEq,Rc,Aa8,xIf,Xo,Ry,Bt3,Uz,Mv,Ak4,scO,A0w,Ah9,Mw,Om,A4y,Ss,cMt,Aj0,unX,cXF,$[$ts:term],*])
def Bx (n:Nat)(ds:List PyData):Prop:=∃x y z:Int,ds=[.int x,.int y,.int z]/\0<=x/\0<=y/\y<2 ^ 62/\0<=z/\z<=n
theorem Bx.mono   (h:Bx n ds) (l:n<=m):Bx m ds:=by
 obtain⟨x,y,z,e,b,c,a,d,f⟩:=h
 exact⟨x,y,z,e,b,c,a,d,by omega⟩
theorem mod_lt {x m:Int}(h:0<m):0<=x % m/\x % m<m:=⟨Int.emod_nonneg _ (by omega),Int.emod_lt_of_pos _ h⟩
theorem A4i  (h:-(2 ^ 64)<i/\i<2 ^ 64):Sw i j=true:=by
 unfold Sw;grind
theorem Yo  (h:-(2 ^ 64)<j/\j<2 ^ 64):Sw i j=true:=by
 unfold Sw;grind
theorem Ai5  (h:0<j):A3b i j=true:=decide_eq_true h
theorem Bv7  (h:0<j/\j<1073741824):Al8 i j=true:=by
 unfold Al8;grind
theorem Br9:Zw 10 18=true:=by rfl
theorem Ba4:Zw 10 12=true:=by rfl
theorem A9y:Zw 10 11=true:=by rfl
theorem Cg    (hb:Bx n ds) (hn:n<2 ^ 40) (a:0<m) (h1:m<16000000) :
 ∃r ds',Bx (n+1) ds'/\0<=r/\r<m/\Ak [.ls true ds,.im (.int m)]=.ret (.im (.int r)) [.ls true ds',.im (.int m)]:=by
 obtain⟨x,y,z,rfl,d,e,b,g,z1⟩:=hb
 by_cases c:0<x
 ·refine⟨x % m,[.int (x / m),.int y,.int z],⟨_,_,_,rfl,Int.ediv_nonneg d (by omega),e,b,g,by omega⟩,(mod_lt a).1,(mod_lt a).2,?_⟩
  wp_walk using Ak,Qk,Ay,decide_eq_true c,Ai5 a,Bv7 ⟨a,(by omega:m<1073741824)⟩
 ·have h:=mod_lt (x:=(y+48271*(z+1))*(39373+(z+1))) (m:=2147483647) (by decide)
  generalize e1:(y+48271*(z+1))*(39373+(z+1)) % 2147483647=once at h
  have g2:=mod_lt (x:=once) (m:=40009) (by decide)
  have f:=mod_lt (x:=(once+(z+1))*(once % 40009+7)) (m:=2147483629) (by decide)
  generalize e2:(once+(z+1))*(once % 40009+7) % 2147483629=twice at f
  refine⟨(twice*48271+once) % 2147483587 / 64 % m,[.int x,.int y,.int (z+1)],⟨_,_,_,rfl,d,e,b,by omega,by omega⟩,(mod_lt a).1,(mod_lt a).2,?_⟩
  wp_walk using Ak,Qk,Ay,Kl,Bw,decide_eq_false c,Ai5 a,Bv7 (i:=(twice*48271+once) % 2147483587) (j:=64) ⟨by decide,by decide⟩,A4i (i:=48271) (j:=z+1) ⟨by decide,by decide⟩,Yo (i:=y+48271*(z+1)) (j:=39373+(z+1)) ⟨by omega,by omega⟩,Ai5 (i:=(y+48271*(z+1))*(39373+(z+1))) (j:=2147483647) (by decide),e1,Ai5 (i:=once) (j:=40009) (by decide),Yo (i:=once+(z+1)) (j:=once % 40009+7) ⟨by omega,by omega⟩,Ai5 (i:=(once+(z+1))*(once % 40009+7)) (j:=2147483629) (by decide),e2,Yo (i:=twice)  _,Ai5  (j:=2147483587) (by decide)
theorem Ai7  {k:Nat}:∃i:Int,Ew [.sc ns,.im (.int k)]=.ret (.im (.int i)) [.sc ns,.im (.int k)]:=by
 by_cases c:k<ns.length
 ·refine⟨ns[k],?_⟩
  have e:atI ns (k:Int)=some ns[k]:=Gf (List.getElem?_eq_getElem c)
  wp_walk using Ew,Kp,O8,Cq,PyData.canLay0,PyData.depth,Rk,decide_eq_true (show (k:Int)<ns.length by omega),e,Nat.zero_le
 ·refine⟨0,?_⟩
  wp_walk using Ew,Kp,O8,Cq,PyData.canLay0,PyData.depth,Rk,decide_eq_false (show ¬ (k:Int)<ns.length by omega),Nat.zero_le
theorem Bk7  {k:Nat}(hk:k<=63):∃ds,Bx 0 ds/\Lp [.sc ns,.im (.int k)]=.ret (.ls false ds) [.sc ns,.im (.int k)]:=by
 obtain⟨i,e⟩:=Ai7 (ns:=ns) (k:=k)
 have a:(0:Int)<=(if i<0 then -i else i):=by grind
 have c:=mod_lt (x:=i) (m:=2305843009213693951) (by decide)
 generalize ea:(if i<0 then -i else i)=ab at a
 have b:(0:Int)<=(if decide ((1000000000000000000:Int)<=ab)=true then 1 else 0)/\(if decide ((1000000000000000000:Int)<=ab)=true then (1:Int) else 0)<=1:=by omega
 generalize eo:(if decide ((1000000000000000000:Int)<=ab)=true then (1:Int) else 0)=on at b
 refine⟨[.int (ab*on),.int (i % 2305843009213693951+39373*(k:Int)+17),.int 0],⟨_,_,_,rfl,Int.mul_nonneg a b.1,by omega,by omega,by omega,by omega⟩,?_⟩
 wp_walk using Lp,Z8,e,Ap3,ea,A5r,Kl,Bw,eo,Br9,Ai5 (i:=i) (j:=2305843009213693951) (by decide),Yo  (j:=on) ⟨by omega,by omega⟩,A4i   _
theorem Ak0    (hb:Bx n ds) (hn:n<2 ^ 39) (j:0<=l) (h1:l<=7) (h2:l<=f) (t:f<=m) (o:7<=m) (p:m<1000) :
 ∃r ds',Bx (n+2) ds'/\l<=r/\r<=m/\Gw [.ls true ds,.im (.int l),.im (.int f),.im (.int m)]=.ret (.im (.int r)) [.ls true ds',.im (.int l),.im (.int f),.im (.int m)]:=by
 obtain⟨r,s,g,u,k,e⟩:=Cg (m:=8) hb (by omega) (by decide) (by decide)
 by_cases c:r=0
 ·subst c
  obtain⟨q,a,d,h,i,b⟩:=Cg (m:=m-6) g (by omega) (by omega) (by omega)
  refine⟨7+q,a,d,by omega,by omega,?_⟩
  wp_walk using Gw,Qm,e,b,Dc,Cq,PyData.canLay0,PyData.depth,PyData.eqv,Bw,Nat.zero_le,beq_self_eq_true
 ·obtain⟨q,a,d,h,i,b⟩:=Cg (m:=f-l+1) g (by omega) (by omega) (by omega)
  refine⟨l+q,a,d,by omega,by omega,?_⟩
  wp_walk using Gw,Qm,e,b,Dc,Cq,PyData.canLay0,PyData.depth,PyData.eqv,Bw,Nat.zero_le,beq_eq_false_iff_ne.mpr c
theorem Av1   (hb:Bx n ds) (hn:n<2 ^ 39):∃(i:Int) (ds':List PyData),Bx (n+2) ds'/\VB (.int i)/\Cw [.ls true ds]=.ret (.im (.int i)) [.ls true ds']:=by
 obtain⟨r,d1,k,r0,r1,j⟩:=Cg (m:=9) hb (by omega) (by decide) (by decide)
 by_cases c:r=0
 ·subst c
  obtain⟨q,b,e,f,h,a⟩:=Cg (m:=4) k (by omega) (by decide) (by decide)
  obtain⟨d,s,g,_⟩:=Lg (l:=[PyData.int 999999999999,.int (-999999999999),.int 100000000000,.int 0]) (r:=q) f h
  have p:∃i:Int,d=.int i/\VB (.int i):=by
   simp only[List.mem_cons,List.not_mem_nil,or_false]at g
   rcases g with rfl | rfl | rfl | rfl <;> exact⟨_,rfl,by decide⟩
  obtain⟨i,rfl,o⟩:=p
  refine⟨i,b,e,o,?_⟩
  wp_walk using Cw,Ly,j,a,Dc,Cq,PyData.canLay0,PyData.depth,PyData.eqv,Bw,Nat.zero_le,beq_self_eq_true,Ba4,A9y,Ay,s
 ·obtain⟨q,b,e,f,h,a⟩:=Cg (m:=25) k (by omega) (by decide) (by decide)
  refine⟨q-7,b,e,?_,?_⟩
  ·show (decide (-1000000000000<=q-7)&&decide _)=true
   rw[decide_eq_true (by omega),decide_eq_true (by omega)];rfl
  wp_walk using Cw,Ly,j,a,Dc,Cq,PyData.canLay0,PyData.depth,PyData.eqv,Bw,Nat.zero_le,beq_eq_false_iff_ne.mpr c
theorem S5   (hb:Bx n ds) (hn:n<2 ^ 39):∃(v:Vl) (ds':List PyData),Bx (n+2) ds'/\VB v/\Bp [.ls true ds]=.ret (.im v.d) [.ls true ds']:=by
 obtain⟨r,t,k,r0,r1,j⟩:=Cg (m:=9) hb (by omega) (by decide) (by decide)
 by_cases c4:r<4
 ·obtain⟨q,e,g,h,i,c⟩:=Cg (m:=13) k (by omega) (by decide) (by decide)
  refine⟨.int (q-3),e,g,?_,?_⟩
  ·show (decide (-1000000000000<=q-3)&&decide (q-3<=1000000000000))=true
   rw[decide_eq_true (by omega),decide_eq_true (by omega)];rfl
  wp_walk using Bp,Ht,j,c,O8,Rk,Cq,PyData.canLay0,PyData.depth,Nat.zero_le,decide_eq_true c4,Vl.d
 by_cases c5:r=4
 ·subst c5
  obtain⟨q,e,g,h,i,c⟩:=Cg (m:=4) k (by omega) (by decide) (by decide)
  obtain⟨d,s,f,_⟩:=Lg (l:=[PyData.int 999999999999,.int (-100000000000),.int 100,.int 10]) (r:=q) h i
  have p:∃v:Vl,d=v.d/\VB v:=by
   simp only[List.mem_cons,List.not_mem_nil,or_false]at f
   rcases f with rfl | rfl | rfl | rfl <;> exact⟨.int _,rfl,by decide⟩
  obtain⟨v,rfl,o⟩:=p
  refine⟨v,e,g,o,?_⟩
  wp_walk using Bp,Ht,j,c,O8,Rk,Dc,Cq,PyData.canLay0,PyData.depth,PyData.eqv,Nat.zero_le,decide_eq_false c4,beq_self_eq_true,Ba4,A9y,Ay,s
 by_cases c6:r=5
 ·subst c6
  refine⟨.non,t,k.mono (by omega),rfl,?_⟩
  wp_walk using Bp,Ht,j,O8,Rk,Dc,Cq,PyData.canLay0,PyData.depth,PyData.eqv,Nat.zero_le,decide_eq_false c4,beq_self_eq_true,beq_eq_false_iff_ne.mpr c5,Vl.d
 ·obtain⟨q,e,g,h,i,c⟩:=Cg (m:=15) k (by omega) (by decide) (by decide)
  obtain⟨d,s,f,_⟩:=Lg (l:=[PyData.str "",.str "a",.str "b",.str "B",.str "10",.str "9",.str "-",.str "a b",.str "it's",.str "\\",.str "/",.str "_",.str ":",.str "None",.str "ab"]) (r:=q) h i
  have p:∃v:Vl,d=v.d/\VB v:=by
   simp only[List.mem_cons,List.not_mem_nil,or_false]at f
   rcases f with rfl | rfl | rfl | rfl | rfl | rfl | rfl | rfl | rfl | rfl | rfl | rfl | rfl | rfl | rfl <;> exact⟨.str _,rfl,by decide⟩
  obtain⟨v,rfl,o⟩:=p
  refine⟨v,e,g,o,?_⟩
  wp_walk using Bp,Ht,j,c,O8,Rk,Dc,Cq,PyData.canLay0,PyData.depth,PyData.eqv,Nat.zero_le,decide_eq_false c4,beq_eq_false_iff_ne.mpr c5,beq_eq_false_iff_ne.mpr c6,Ay,s
def names12:List Str:=[Str.ofString "b",Str.ofString "a",Str.ofString "year",Str.ofString "z",Str.ofString "ab",Str.ofString "month",Str.ofString "aa",Str.ofString "quantity",Str.ofString "c",Str.ofString "town",Str.ofString "zz",Str.ofString "ba"]
theorem A8t {m:Nat}(h:m<=1000):(m:Int)<=16000000/\-16000000<=(m:Int):=by omega
theorem upN {n k a b c:Nat}(hn:n<a)(hk:k<=b)(h:a+b<=c):n+k<c:=Nat.lt_of_lt_of_le (Nat.add_lt_add_of_lt_of_le hn hk) h
theorem A7e {n:Nat}{r:Int}(a:0<=r)(h1:r<n):ixN n r=some r.toNat:=by
 unfold ixN;simp_all
theorem Ip   : (Il lo n).length=n:=by unfold Il;simp_all
theorem J4    (h:(Il lo n)[k]?=some d):d=.int (lo+k)/\k<n:=by
 unfold Il at h
 grind
theorem V6 {α β:Type}(f:α->β):∀(l:List α) (j:Nat),(l.map f).eraseIdx j=(l.eraseIdx j).map f
 | [],j=>rfl
 | a::l,0=>rfl
 | a::l,j+1=>by rw[List.map_cons,List.eraseIdx_cons_succ,List.eraseIdx_cons_succ,List.map_cons,V6 f l j]
theorem S7 {α:Type}:∀(l:List α) {j:Nat}(h:j<l.length),(l[j]::l.eraseIdx j).Perm l
 | a::l,0,h=>List.Perm.refl _
 | a::l,j+1,h=>by
  rw[List.eraseIdx_cons_succ,List.getElem_cons_succ]
  exact(List.Perm.swap a _ _).trans (List.Perm.cons a (S7 l (by simpa using h)))
structure Names (ns:List Str):Prop where
 nd:ns.Nodup
 sub:∀x∈ns,x∈names12
theorem A1v    (hb:Bx n ds) (hn:n<2 ^ 38) (hm:m<=12) :
 ∃b ds',b.length=m/\Names b/\Bx (n+m) ds'/\Gq [.ls true ds,.im (.int m)]=.ret (.ls false (b.map PyData.str)) [.ls true ds',.im (.int m)]:=by
 have i:=Jx (g:=cgN 0) (ft:=Bv) (fe:=S8 (Ad 1) (cF Ak (Ac (Ad 2) (Ac (Mx (Ad 1)) Aq)))) (items:=Il 0 m) (acc:=[]) (n:=0) (c:=[none,some (.ls true (names12.map PyData.str)),some (.ls true ds)])
  (P:=fun k f c=>∃a h t b,c=[t,some (.ls true (a.map PyData.str)),some (.ls true h)]/\Bx (n+k) h/\f=b.map PyData.str/\(b++a).Perm names12/\b.length=k)
  ⟨names12,ds,none,[],rfl,hb,rfl,List.Perm.refl _,rfl⟩ (fun k d f c C w=>by
   rw[Nat.zero_add]at w ⊢;obtain⟨a,h,t,b,rfl,o,rfl,j,l⟩:=w;obtain⟨rfl,hk⟩:=J4 C
   have ll:a.length+k=12:=by have:=j.length_eq;rw[List.length_append,l]at this;have e:names12.length=12:=rfl;omega
   obtain⟨r,v,A,z,y,B⟩:=Cg (m:=(a.length:Int)) o (by omega) (by omega) (by omega)
   have u:r.toNat<a.length:=by omega
   have q:(a.map PyData.str)[r.toNat]?=some (.str a[r.toNat]):=by simp[u]
   have p:ixN a.length r=some r.toNat:=A7e z y
   refine⟨some (.str a[r.toNat]),[some (.im (.int (0+(k:Int)))),some (.ls true ((a.eraseIdx r.toNat).map PyData.str)),some (.ls true v)],?_,a.eraseIdx r.toNat,v,_,b++[a[r.toNat]],rfl,A.mono (by omega),by simp,?_,by simp[l]⟩
   ·wp_walk using M3,List.length_map,B,p,q,V6,show a.length<=16000000 by omega
   ·rw[List.append_assoc]
    exact(List.Perm.append_left b (S7 a u)).trans j)
 obtain⟨f,cI,e,a,h,t,b,rfl,o,rfl,j,l⟩:=i;rw[Nat.zero_add,Ip]at o l
 have D:(b++a).Nodup:=j.nodup_iff.mpr (by decide)
 refine⟨b,h,l,⟨(List.nodup_append.mp D).1,fun x q=>j.mem_iff.mp (List.mem_append_left _ q)⟩,o,?_⟩
 have s:cLC [none,some 2,some 0] (Jv (Ad 1)) (cgN 0) Bv (S8 (Ad 1) (cF Ak (Ac (Ad 2) (Ac (Mx (Ad 1)) Aq)))) [some (.ls true ds),some (.im (.int m)),some (.ls false (names12.map PyData.str))]=.ok (.o (.ls false (b.map PyData.str))) [some (.ls true h),some (.im (.int m)),some (.ls false (a.map PyData.str))] :=
  Ey (ds:=Il 0 m) (c1:=[some (.ls true ds),some (.im (.int m)),some (.ls false (names12.map PyData.str))]) (by wp_walk using A8t  (Nat.le_trans hm (by decide)),Int.toNat_natCast) (by rw[Ip];exact Nat.le_trans hm (by decide)) e (by wp_walk using true_and)
 unfold Gq Td;simp only[names12,List.map_cons,List.map_nil]at s
 wp_walk using s
theorem Au6 {k:Nat}{vs:List Vl}  (h:v∉vs) (a:vs.Nodup):(vs++[v]).Nodup:=by
 grind
theorem A9n    (hb:Bx n ds) (hn:n<2 ^ 38) (hm:m<=1000) :
 ∃a ds',VBs a/\a.Nodup/\a.length<=m/\(0<m->a≠[])/\Bx (n+2*m) ds'/\Hq [.ls true ds,.im (.int m)]=.ret (.ls false (a.map Vl.d)) [.ls true ds',.im (.int m)]:=by
 have i:=Ha (g:=cgN 3) (body:=Bl (Di (cF Bp (Ac (Ad 0) Aq)) (cgN 4)) (cIf (Az (cOp (K1 true) (Ad 4) (Ad 2))) (Ii (Qv (Ad 2) (Ad 4))) Cv)) (items:=Il 0 m) (n:=0) (c:=[some (.ls true ds),some (.im (.int m)),some (.ls false []),none,none])
  (P:=fun k c=>∃j a x y,c=[some (.ls true j),some (.im (.int m)),some (.ls false (a.map Vl.d)),x,y]/\Bx (n+2*k) j/\VBs a/\a.Nodup/\a.length<=k/\(0<k->a≠[]))
  ⟨ds,[],none,none,rfl,hb,(fun v b=>by cases b),List.nodup_nil,Nat.le_refl _,fun h=>absurd h (by decide)⟩ (fun k d c B s=>by
   rw[Nat.zero_add]at s ⊢;obtain⟨j,a,x,y,rfl,p,b,o,l,f⟩:=s;obtain⟨rfl,w⟩:=J4 B
   obtain⟨v,q,t,r,A⟩:=S5 p (upN hn (Nat.mul_le_mul_left 2 (Nat.le_trans (Nat.le_of_lt w) hm)) (by decide))
   by_cases c:v∈a
   ·refine⟨[some (.ls true q),some (.im (.int m)),some (.ls false (a.map Vl.d)),some (.im (.int (0+(k:Int)))),some (.im v.d)],.inl ?_,q,a,_,_,rfl,t,b,o,Nat.le_succ_of_le l,fun _ z=>by rw[z]at c;cases c⟩
    wp_walk using A,A4l r b,decide_eq_true c
   ·refine⟨[some (.ls true q),some (.im (.int m)),some (.ls false ((a++[v]).map Vl.d)),some (.im (.int (0+(k:Int)))),some (.im v.d)],.inl ?_,q,a++[v],_,_,rfl,t,VBs.app b (fun u C=>by rw[List.mem_singleton.mp C];exact r),Au6 (k:=k) c o,by rw[List.length_append,List.length_singleton];omega,fun _=>by simp⟩
    wp_walk using A,A4l r b,decide_eq_false c,List.length_map,show a.length<16000000 from Nat.lt_of_le_of_lt l (Nat.lt_of_lt_of_le w (Nat.le_trans hm (by decide))),List.map_append)
 obtain⟨c',e,j,a,x,y,rfl,p,b,o,l,f⟩:=i;rw[Nat.zero_add,Ip]at p l f
 refine⟨a,j,b,o,l,f,p,?_⟩
 unfold Hq Vy
 wp_walk using Oe,A8t hm,Int.toNat_natCast,e
theorem A1h {n:Nat}{ds:List PyData}{vs:List Vl}{w:Nat}(hb:Bx n ds)(hn:n<2 ^ 38)(hw:w<=1000)(hv:VBs vs)(j:vs≠[])(hl:vs.length<=1000) :
 ∃
  a f t,a.length=w/\VBs a/\(∀u∈a,u∈vs)/\Bx (n+w) f /\
  Ea (cgN 0) Bv (cOp Ay (Ad 1) (cF Ak (Ac (Ad 2) (Ac (Mx (Ad 1)) Aq)))) (Il 0 w) [] [none,some (.ls true (vs.map Vl.d)),some (.ls true ds)]=.ok (a.map Vl.d) [t,some (.ls true (vs.map Vl.d)),some (.ls true f)]:=by
 have i:=Jx (g:=cgN 0) (ft:=Bv) (fe:=cOp Ay (Ad 1) (cF Ak (Ac (Ad 2) (Ac (Mx (Ad 1)) Aq)))) (items:=Il 0 w) (acc:=[]) (n:=0) (c:=[none,some (.ls true (vs.map Vl.d)),some (.ls true ds)])
  (P:=fun k b c=>∃f t a,c=[t,some (.ls true (vs.map Vl.d)),some (.ls true f)]/\Bx (n+k) f/\b=a.map Vl.d/\a.length=k/\VBs a/\∀u∈a,u∈vs)
  ⟨ds,none,[],rfl,hb,rfl,rfl,(fun v hv=>by cases hv),fun v hv=>by cases hv⟩ (fun k d b c B s=>by
   rw[Nat.zero_add]at s ⊢;obtain⟨f,t,a,rfl,p,rfl,q,y,z⟩:=s;obtain⟨rfl,o⟩:=J4 B;have C:0<vs.length:=List.length_pos_iff.mpr j
   obtain⟨r,D,E,A,r1,G⟩:=Cg (m:=(vs.length:Int)) p (upN hn (Nat.le_trans (Nat.le_of_lt o) hw) (by decide)) (Int.natCast_pos.mpr C) (Int.ofNat_lt.mpr (Nat.lt_of_le_of_lt hl (by decide)))
   obtain⟨x,F,H,_⟩:=Lg (l:=vs.map Vl.d) (r:=r) A (by simp_all)
   obtain⟨v,I,rfl⟩:=List.mem_map.mp H
   refine⟨some v.d,[some (.im (.int (0+k))),some _,some _],?_,D,_,a++[v],rfl,E,by simp,by grind,VBs.app y fun u h=>by grind,fun u h=>by
    grind⟩
   wp_walk using M3,List.length_map,G,Ay,F)
 obtain⟨b,cI,e,f,t,a,rfl,p,rfl,q,y,z⟩:=i;rw[Ip]at p q
 grind
theorem Vp {n:Nat}{ds:List PyData}{w m:Nat}(hb:Bx n ds)(hn:n<2 ^ 37)(hw:w<=100)(hm:m<=1000) :
 ∃(f:List (List Vl)) (ds':List PyData),f.Nodup/\(∀t∈f,t.length=w/\VBs t)/\f.length<=m/\Bx (n+12+w*m) ds'/\Fx [.ls true ds,.im (.int w),.im (.int m)]=.ret (.ls false (f.map tD)) [.ls true ds',.im (.int w),.im (.int m)]:=by
 obtain⟨i,E,F,s,H,C,Q,D⟩:=A9n (m:=6) hb (Nat.lt_trans hn (by decide)) (by decide)
 have D:Hq [.ls true ds,.im (.int 6)]=.ret (.ls false (i.map Vl.d)) [.ls true E,.im (.int 6)]:=D
 have z:=Ha (g:=cgN 5) (body:=Bl (Di (cUn Dj (cLC [none,some 3,some 0] (Jv (Ad 1)) (cgN 0) Bv (cOp Ay (Ad 1) (cF Ak (Ac (Ad 2) (Ac (Mx (Ad 1)) Aq)))))) (cgN 6)) (cIf (Az (cOp (K1 true) (Ad 6) (Ad 4))) (Ii (Qv (Ad 4) (Ad 6))) Cv)) (items:=Il 0 m) (n:=0)
  (c:=[some (.ls true E),some (.im (.int w)),some (.im (.int m)),some (.ls false (i.map Vl.d)),some (.ls false []),none,none])
  (P:=fun k c=>∃l f x y,c=[some (.ls true l),some (.im (.int w)),some (.im (.int m)),some (.ls false (i.map Vl.d)),some (.ls false (f.map tD)),x,y]/\Bx (n+12+w*k) l/\f.Nodup/\(∀t∈f,t.length=w/\VBs t)/\f.length<=k)
  ⟨E,[],none,none,rfl,Q,List.nodup_nil,(fun v F=>by cases F),Nat.le_refl _⟩ (fun k d c N J=>by
   rw[Nat.zero_add]at J ⊢;obtain⟨l,f,x,y,rfl,B,s,o,q⟩:=J;obtain⟨rfl,L⟩:=J4 N;have r:w*k<=100*1000:=Nat.mul_le_mul hw (Nat.le_of_lt (Nat.lt_of_lt_of_le L hm))
   obtain⟨j,p,t,R,G,_,S,O⟩:=A1h (w:=w) (vs:=i) B (upN (upN hn (Nat.le_refl 12) (show 2 ^ 37+12<=2 ^ 37+100 by decide)) r (by decide)) (Nat.le_trans hw (by decide)) F (C (by decide)) (Nat.le_trans H (by decide))
   have K:cLC [none,some 3,some 0] (Jv (Ad 1)) (cgN 0) Bv (cOp Ay (Ad 1) (cF Ak (Ac (Ad 2) (Ac (Mx (Ad 1)) Aq)))) [some (.ls true l),some (.im (.int w)),some (.im (.int m)),some (.ls false (i.map Vl.d)),some (.ls false (f.map tD)),some (.im (.int (0+(k:Int)))),y]=.ok (.o (.ls false (j.map Vl.d))) [some (.ls true p),some (.im (.int w)),some (.im (.int m)),some (.ls false (i.map Vl.d)),some (.ls false (f.map tD)),some (.im (.int (0+(k:Int)))),y] :=
    Ey (ds:=Il 0 w) (c1:=[some (.ls true l),some (.im (.int w)),some (.im (.int m)),some (.ls false (i.map Vl.d)),some (.ls false (f.map tD)),some (.im (.int (0+(k:Int)))),y]) (by wp_walk using A8t (m:=w) (Nat.le_trans hw (by decide)),Int.toNat_natCast) (by rw[Ip];omega) O (by wp_walk using true_and)
   have A:Bx (n+12+w*(k+1)) p:=S.mono (Nat.le_of_eq (Nat.add_assoc _ _ _));have M:PyData.tuple (j.map Vl.d)=tD j:=rfl
   by_cases c:j∈f
   ·refine⟨[some (.ls true p),some (.im (.int w)),some (.im (.int m)),some (.ls false (i.map Vl.d)),some (.ls false (f.map tD)),some (.im (.int (0+(k:Int)))),some (.im (tD j))],.inl ?_,p,f,_,_,rfl,A,s,o,Nat.le_succ_of_le q⟩
    wp_walk using K,Dj,M,A2i G (fun u I=>(o u I).2),decide_eq_true c
   ·refine⟨[some (.ls true p),some (.im (.int w)),some (.im (.int m)),some (.ls false (i.map Vl.d)),some (.ls false ((f++[j]).map tD)),some (.im (.int (0+(k:Int)))),some (.im (tD j))],.inl ?_,p,f++[j],_,_,rfl,A,?_,fun t h=>?_,by rw[List.length_append,List.length_singleton];exact Nat.succ_le_succ q⟩
    ·wp_walk using K,Dj,M,A2i G (fun u I=>(o u I).2),decide_eq_false c,List.length_map,show f.length<16000000 from Nat.lt_of_le_of_lt q (Nat.lt_of_lt_of_le L (Nat.le_trans hm (by decide))),List.map_append
    ·rw[List.nodup_append]
     exact⟨s,by simp,fun a T b hb e=>by rw[List.mem_singleton.mp hb]at e;exact c (e▸T)⟩
    ·rcases List.mem_append.mp h with h | h
     ·exact o t h
     ·rw[List.mem_singleton.mp h];exact⟨R,G⟩)
 obtain⟨c',e,l,f,x,y,rfl,B,s,o,q⟩:=z;rw[Nat.zero_add,Ip]at B q
 refine⟨f,l,s,o,q,B,?_⟩
 unfold Fx Q8
 wp_walk using D,Oe,A8t hm,Int.toNat_natCast,e
structure Wd where
 key:List Str
 names:List Str
 vals:List Str
 heads:List (List Vl)
 rows:List (List Vl×List (Option (List Vl)))
def nD (ns:List Str):PyData:=.tuple (ns.map PyData.str)
def Eb:Option (List Vl)->PyData
 | none=>.none
 | some c=>tD c
def Rq (r:List Vl×List (Option (List Vl))):PyData:=.tuple [tD r.1,.tuple (r.2.map Eb)]
def Wd.ps (w:Wd):List PyData:=[nD w.key,nD w.names,nD w.vals,.tuple (w.heads.map tD),.tuple (w.rows.map Rq)]
def Wd.d (w:Wd):PyData:=.tuple w.ps
def T5 (n:Nat)(c:Option (List Vl)):Prop:=∀vs,c=some vs->vs.length=n/\VBs vs
structure Z3 (k h v:Nat) (r:List Vl×List (Option (List Vl))):Prop where
 plen:r.1.length=k
 part:VBs r.1
 clen:r.2.length=h
 cells:∀c∈r.2,T5 v c
structure Wd.Ok (w:Wd):Prop where
 nms:Names (w.key++w.names++w.vals)
 klen:w.key.length<=2
 nlen:w.names.length<=2
 vlen:w.vals.length<=5
 vpos:1<=w.vals.length
 heads:∀h∈w.heads,h.length=w.names.length/\VBs h
 hnd:w.heads.Nodup
 hlen:w.heads.length<=12
 rows:∀r∈w.rows,Z3 w.key.length w.heads.length w.vals.length r
 rnd:(w.rows.map (·.1)).Nodup
 rlen:w.rows.length<=12
def Wd.Num (w:Wd):Prop:=∀r∈w.rows,∀c∈r.2,∀vs,c=some vs->∀v∈vs,∃i,v=Vl.int i
theorem Bo9  {b:Nat}:cutD ds none (some (b:Int))=ds.take b:=by
 unfold cutD;rw[HT.A1g,HT.Xx,List.drop_zero]
 simp_all
theorem A0o {ds:List PyData}{a b:Nat}(h:a<=b)(hb:b<=ds.length):cutD ds (some (a:Int)) (some (b:Int))=(ds.drop a).take (b-a):=by
 unfold cutD;rw[HT.Xx,HT.Xx,Nat.min_eq_left hb,Nat.min_eq_left (Nat.le_trans h hb)]
theorem A7o {n:Nat}{ds:List PyData}{items:List PyData}{num:Bool}(hb:Bx n ds)(hn:n<2 ^ 38)(hl:items.length<=1000) :
 ∃
  a f t,a.length=items.length/\VBs a/\(num=true->∀u∈a,∃i,u=Vl.int i)/\Bx (n+2*items.length) f /\
  Ea (cgN 0) Bv (Pq (Az (Ad 1)) (cF Cw (Ac (Ad 2) Aq)) (cF Bp (Ac (Ad 2) Aq))) items [] [none,some (.im (.bool num)),some (.ls true ds)]=.ok (a.map Vl.d) [t,some (.im (.bool num)),some (.ls true f)]:=by
 have p:=Jx (g:=cgN 0) (ft:=Bv) (fe:=Pq (Az (Ad 1)) (cF Cw (Ac (Ad 2) Aq)) (cF Bp (Ac (Ad 2) Aq))) (items:=items) (acc:=[]) (n:=0) (c:=[none,some (.im (.bool num)),some (.ls true ds)])
  (P:=fun k e c=>∃f t a,c=[t,some (.im (.bool num)),some (.ls true f)]/\k<=items.length/\Bx (n+2*k) f/\e=a.map Vl.d/\a.length=k/\VBs a/\(num=true->∀u∈a,∃i,u=Vl.int i))
  ⟨ds,none,[],rfl,Nat.zero_le _,hb,rfl,rfl,(fun v o=>by cases o),fun _ v o=>by cases o⟩ (fun k d e c hd s=>by
   rw[Nat.zero_add]at s ⊢;obtain⟨f,t,a,rfl,x,q,rfl,r,w,hs⟩:=s
   have b:k<items.length:=by
    grind
   cases num with
   | true =>
    obtain⟨i,j,m,y,l⟩:=Av1 q (upN hn (Nat.mul_le_mul_left 2 (Nat.le_trans (Nat.le_of_lt b) hl)) (by decide))
    refine⟨some (.int i),[some (.im d),some (.im (.bool true)),some (.ls true j)],?_,j,_,a++[.int i],rfl,b,m,by simp[Vl.d],by simp[r],VBs.app w fun u h=>by grind,fun _ u h=>by
     grind⟩
    wp_walk using l
   | false =>
    obtain⟨v,j,m,y,l⟩:=S5 q (upN hn (Nat.mul_le_mul_left 2 (Nat.le_trans (Nat.le_of_lt b) hl)) (by decide))
    refine⟨some v.d,[some (.im d),some _,some _],?_,j,_,a++[v],rfl,b,m,by simp,by simp[r],VBs.app w fun u h=>by grind,fun z=>nomatch z⟩
    wp_walk using l)
 grind
def isL (o:O)(ds:List PyData):Prop:=o=.ls false ds\/o=.im (.list ds)
theorem A9h {n:Nat}{ds:List PyData}{num:Bool}{s2 s3 s4 s5 s6 s7 o8 o9 s11 s12:Option O}{often:Int}{vals:List PyData}{heads:List (List Vl)}(hb:Bx n ds)(hn:n<2 ^ 37)(L:0<often)(h1:often<1000)(hv:vals.length<=5)(E:heads.length<=12){x14 x15:Option O}
 (Q:∃o,o8=some o/\isL o vals) :
 ∃
  (a:List (Option (List Vl))) (l:List PyData) (o8' j b:Option O),a.length=heads.length/\(∀c∈a,T5 vals.length c)/\(num=true->∀c∈a,∀p,c=some p->∀v∈p,∃i,v=Vl.int i)/\Bx (n+11*heads.length) l/\(∃o,o8'=some o/\isL o vals) /\
  forL (cgN 14) (Bl (Di (cUn Dj (cLC [none,some 1,some 0] (Cj (Ad 8)) (cgN 0) Bv (Pq (Az (Ad 1)) (cF Cw (Ac (Ad 2) Aq)) (cF Bp (Ac (Ad 2) Aq))))) (cgN 15))
   (Ii (Qv (Ad 13) (Pq (Az (cOp (Dc false) (cF Ak (Ac (Ad 0) (Ac (Ad 10) Aq))) (cC (.int 0)))) (cC (.none)) (Ad 15))))) (heads.map tD)
   [some (.ls true ds),some (.im (.bool num)),s2,s3,s4,s5,s6,s7,o8,o9,some (.im (.int often)),s11,s12,some (.ls false []),x14,x15] =
  .nx [some (.ls true l),some (.im (.bool num)),s2,s3,s4,s5,s6,s7,o8',o9,some (.im (.int often)),s11,s12,some (.ls false (a.map Eb)),j,b]:=by
 have y:=Ha (g:=cgN 14) (body:=Bl (Di (cUn Dj (cLC [none,some 1,some 0] (Cj (Ad 8)) (cgN 0) Bv (Pq (Az (Ad 1)) (cF Cw (Ac (Ad 2) Aq)) (cF Bp (Ac (Ad 2) Aq))))) (cgN 15))
  (Ii (Qv (Ad 13) (Pq (Az (cOp (Dc false) (cF Ak (Ac (Ad 0) (Ac (Ad 10) Aq))) (cC (.int 0)))) (cC (.none)) (Ad 15))))) (items:=heads.map tD) (n:=0)
  (c:=[some (.ls true ds),some (.im (.bool num)),s2,s3,s4,s5,s6,s7,o8,o9,some (.im (.int often)),s11,s12,some (.ls false []),x14,x15])
  (P:=fun k c=>∃l C j b a,c=[some (.ls true l),some (.im (.bool num)),s2,s3,s4,s5,s6,s7,C,o9,some (.im (.int often)),s11,s12,some (.ls false (a.map Eb)),j,b]/\k<=heads.length/\Bx (n+11*k) l/\(∃o,C=some o/\isL o vals) /\
   a.length=k/\(∀c∈a,T5 vals.length c)/\(num=true->∀c∈a,∀p,c=some p->∀v∈p,∃i,v=Vl.int i))
  ⟨ds,o8,_,_,[],rfl,Nat.zero_le _,hb,Q,rfl,(fun c s=>by cases s),fun _ c s=>by cases s⟩ (fun k d c K J=>by
   rw[Nat.zero_add]at J ⊢;obtain⟨l,C,j,b,a,rfl,S,D,⟨o,rfl,F⟩,u,s,f⟩:=J
   have x:k<heads.length:=by
    rcases Nat.lt_or_ge k heads.length with q | q
    ·exact q
    ·rw[List.getElem?_eq_none (by rw[List.length_map];exact q)]at K;cases K
   obtain⟨w,V,t,U,W,M,N,R⟩:=A7o (items:=vals) (num:=num) D (upN hn (Nat.mul_le_mul_left 11 (Nat.le_trans (Nat.le_of_lt x) E)) (by decide)) (Nat.le_trans hv (by decide))
   have G:cLC [none,some 1,some 0] (Cj (Ad 8)) (cgN 0) Bv (Pq (Az (Ad 1)) (cF Cw (Ac (Ad 2) Aq)) (cF Bp (Ac (Ad 2) Aq)))
    [some (.ls true l),some (.im (.bool num)),s2,s3,s4,s5,s6,s7,some o,o9,some (.im (.int often)),s11,s12,some (.ls false (a.map Eb)),some (.im d),b] =
    .ok (.o (.ls false (w.map Vl.d))) [some (.ls true V),some (.im (.bool num)),s2,s3,s4,s5,s6,s7,some (.im (.list vals)),o9,some (.im (.int often)),s11,s12,some (.ls false (a.map Eb)),some (.im d),b]:=by
    refine Ey (ds:=vals) (c1:=[some (.ls true l),some (.im (.bool num)),s2,s3,s4,s5,s6,s7,some (.im (.list vals)),o9,some (.im (.int often)),s11,s12,some (.ls false (a.map Eb)),some (.im d),b]) ?_ (Nat.le_trans hv (by decide)) R (by wp_walk using true_and)
    rcases F with rfl | rfl <;> wp_walk using Cj
   obtain⟨r,A,T,r0,r1,I⟩:=Cg (m:=often) N (upN (upN hn (Nat.mul_le_mul_left 11 (Nat.le_trans (Nat.le_of_lt x) E)) (show 2 ^ 37+11*12<=2 ^ 38 by decide)) (Nat.mul_le_mul_left 2 hv) (by decide)) L (Int.lt_trans h1 (by decide))
   have H:PyData.tuple (w.map Vl.d)=tD w:=rfl;have B:Bx (n+11*(k+1)) A:=T.mono (Nat.add_le_add_left (Nat.succ_le_succ (Nat.mul_le_mul_left 2 hv)) (n+11*k))
   by_cases c:r=0
   ·subst c
    refine⟨[some (.ls true A),some (.im (.bool num)),s2,s3,s4,s5,s6,s7,some (.im (.list vals)),o9,some (.im (.int often)),s11,s12,some (.ls false ((a++[none]).map Eb)),some (.im d),some (.im (tD w))],.inl ?_,A,_,_,_,a++[none],rfl,x,B,⟨_,rfl,.inr rfl⟩,by simp[u],fun c h=>?_,fun z c h p e=>?_⟩
    ·wp_walk using G,Dj,H,I,Dc,Cq,PyData.canLay0,PyData.depth,PyData.eqv,Nat.zero_le,beq_self_eq_true,List.length_map,show a.length<16000000 from u▸Nat.lt_of_lt_of_le x (Nat.le_trans E (by decide)),List.map_append,Eb
    ·rcases List.mem_append.mp h with h | h
     ·exact s c h
     ·rw[List.mem_singleton.mp h];exact fun p e=>nomatch e
    ·rcases List.mem_append.mp h with h | h
     ·exact f z c h p e
     ·rw[List.mem_singleton.mp h]at e;cases e
   ·refine⟨[some (.ls true A),some (.im (.bool num)),s2,s3,s4,s5,s6,s7,some (.im (.list vals)),o9,some (.im (.int often)),s11,s12,some (.ls false ((a++[some w]).map Eb)),some (.im d),some (.im (tD w))],.inl ?_,A,_,_,_,a++[some _],rfl,x,B,⟨_,rfl,.inr rfl⟩,by simp[u],fun c h=>?_,fun z c h p e=>?_⟩
    ·wp_walk using G,Dj,H,I,Dc,Cq,PyData.canLay0,PyData.depth,PyData.eqv,Nat.zero_le,beq_eq_false_iff_ne.mpr c,List.length_map,show a.length<16000000 from u▸Nat.lt_of_lt_of_le x (Nat.le_trans E (by decide)),List.map_append,Eb
    ·rcases List.mem_append.mp h with h | h
     ·exact s c h
     ·rw[List.mem_singleton.mp h];exact fun p e=>by cases e;exact⟨U,W⟩
    ·rcases List.mem_append.mp h with h | h
     ·exact f z c h _ e
     ·rw[List.mem_singleton.mp h]at e;cases e;exact M z)
 obtain⟨c',e,l,C,j,b,a,rfl,_,D,F,u,s,f⟩:=y;rw[Nat.zero_add,List.length_map]at D u;exact⟨a,l,C,j,b,u,s,f,D,F,e⟩
abbrev A4w:Ev->SR:=Bl (Di (cUn Dj (cLC [none,some 1,some 0] (Cj (Ad 8)) (cgN 0) Bv (Pq (Az (Ad 1)) (cF Cw (Ac (Ad 2) Aq)) (cF Bp (Ac (Ad 2) Aq))))) (cgN 15))
 (Ii (Qv (Ad 13) (Pq (Az (cOp (Dc false) (cF Ak (Ac (Ad 0) (Ac (Ad 10) Aq))) (cC (.int 0)))) (cC (.none)) (Ad 15))))
abbrev Tu:Ev->SR:=Bl (Di (Hg Aq) (cgN 13)) (Bl (Oe (Cj (Ad 9)) (cgN 14) A4w) (Ii (Qv (Ad 11) (G8 (Ac (Ad 12) (Ac (cUn Dj (Ad 13)) Aq))))))
theorem A3w {n:Nat}{ds:List PyData}{num:Bool}{s2 s3 s4 s5 s6 s7 o8 o9:Option O}{often:Int}{vals:List PyData}{heads parts:List (List Vl)}(hb:Bx n ds)(hn:n<2 ^ 36)(h0:0<often)(h1:often<1000)(hv:vals.length<=5)(hh:heads.length<=12)(hp:parts.length<=12)
 (h8:∃o,o8=some o/\isL o vals) (h9:∃o,o9=some o/\isL o (heads.map tD)) {x12 x13 x14 x15:Option O} {kl:Nat} (hpk:∀t∈parts,t.length=kl/\VBs t) :
 ∃
  (rows:List (List Vl×List (Option (List Vl)))) (d1:List PyData) (p8 p9 y12 y13 y14 y15:Option O),rows.map (·.1)=parts/\(∀r∈rows,Z3 kl heads.length vals.length r)/\(num=true->∀r∈rows,∀c∈r.2,∀vs,c=some vs->∀v∈vs,∃i,v=Vl.int i)/\Bx (n+132*parts.length) d1/\(∃o,p8=some o/\isL o vals)/\(∃o,p9=some o/\isL o (heads.map tD)) /\
  forL (cgN 12) Tu (parts.map tD) [some (.ls true ds),some (.im (.bool num)),s2,s3,s4,s5,s6,s7,o8,o9,some (.im (.int often)),some (.ls false []),x12,x13,x14,x15] =
  .nx [some (.ls true d1),some (.im (.bool num)),s2,s3,s4,s5,s6,s7,p8,p9,some (.im (.int often)),some (.ls false (rows.map Rq)),y12,y13,y14,y15]:=by
 have loop:=Ha (g:=cgN 12) (body:=Tu) (items:=parts.map tD) (n:=0) (c:=[some (.ls true ds),some (.im (.bool num)),s2,s3,s4,s5,s6,s7,o8,o9,some (.im (.int often)),some (.ls false []),x12,x13,x14,x15])
  (P:=fun k c=>∃d1 p8 p9 y12 y13 y14 y15 rows,c=[some (.ls true d1),some (.im (.bool num)),s2,s3,s4,s5,s6,s7,p8,p9,some (.im (.int often)),some (.ls false (rows.map Rq)),y12,y13,y14,y15]/\k<=parts.length/\Bx (n+132*k) d1/\(∃o,p8=some o/\isL o vals)/\(∃o,p9=some o/\isL o (heads.map tD)) /\
   rows.map (·.1)=parts.take k/\(∀r∈rows,Z3 kl heads.length vals.length r)/\(num=true->∀r∈rows,∀c∈r.2,∀vs,c=some vs->∀v∈vs,∃i,v=Vl.int i))
  ⟨ds,o8,o9,_,_,_,_,[],rfl,Nat.zero_le _,hb,h8,h9,rfl,(fun r hr=>by cases hr),fun _ r hr=>by cases hr⟩ (fun k d c hd hP=>by
   rw[Nat.zero_add]at hP ⊢;obtain⟨d1,p8,p9,y12,y13,y14,y15,rows,rfl,hk0,b1,h8,⟨o,rfl,ho⟩,hr,hro,hnum⟩:=hP;obtain⟨t,ht,e⟩:=Mf hd;subst e;have hk:k<parts.length:=(List.getElem?_eq_some_iff.mp ht).1
   obtain⟨cells,d2,q8,z14,z15,cl,cc,cn,b2,g8,e2⟩:=A9h (num:=num) (s2:=s2) (s3:=s3) (s4:=s4) (s5:=s5) (s6:=s6) (s7:=s7) (o8:=p8) (o9:=some (.im (.list (heads.map tD)))) (s11:=some (.ls false (rows.map Rq))) (s12:=some (.im (tD t))) (x14:=y14) (x15:=y15) (heads:=heads) b1 (by omega) h0 h1 hv hh h8
   have rl:rows.length=k:=by have:=congrArg List.length hr;rw[List.length_map,List.length_take]at this;exact this.trans (Nat.min_eq_left hk0)
   refine⟨[some (.ls true d2),some (.im (.bool num)),s2,s3,s4,s5,s6,s7,q8,some (.im (.list (heads.map tD))),some (.im (.int often)),some (.ls false ((rows++[(t,cells)]).map Rq)),some (.im (tD t)),some (.ls false (cells.map Eb)),z14,z15],.inl ?_,d2,q8,_,_,_,_,_,rows++[(t,cells)],rfl,hk,b2.mono (by omega),g8,⟨_,rfl,.inr rfl⟩,?_,fun r h=>?_,fun z r h=>?_⟩
   ·have en:(rows.map Rq).length<16000000:=by rw[List.length_map,rl];exact Nat.lt_of_lt_of_le hk (Nat.le_trans hp (by decide))
    rcases ho with rfl | rfl <;> wp_walk using Tu,Oe,Cj,e2,Dj,en,List.map_append,Rq
   ·rw[List.map_append,hr,List.map_cons,List.map_nil,List.take_succ,ht];rfl
   ·rcases List.mem_append.mp h with h | h
    ·exact hro r h
    ·rw[List.mem_singleton.mp h]
     have:=hpk t (List.mem_of_getElem? ht);exact⟨this.1,this.2,cl,cc⟩
   ·rcases List.mem_append.mp h with h | h
    ·exact hnum z r h
    ·rw[List.mem_singleton.mp h];exact cn z)
 obtain⟨c',e,d1,p8,p9,y12,y13,y14,y15,rows,rfl,_,b1,h8,h9,hr,hro,hnum⟩:=loop;rw[Nat.zero_add,List.length_map]at b1 hr;rw[List.take_length]at hr;exact⟨rows,d1,p8,p9,y12,y13,y14,y15,hr,hro,hnum,b1,h8,h9,e⟩
theorem Ka {ns:List Str}{a:Nat}:(ns.map PyData.str).take a=(ns.take a).map PyData.str:=List.map_take.symm
theorem O2 {ns:List Str}{a:Nat}:(ns.map PyData.str).drop a=(ns.drop a).map PyData.str:=List.map_drop.symm
theorem Names.sublist {a b:List Str}(h:Names b)(s:a.Sublist b):Names a:=⟨h.nd.sublist s,fun x c=>h.sub x (s.subset c)⟩
theorem A0t {o:O}{ds:List PyData}{i:Nat}{c:Ev}(h:isL o ds)(hc:c[i]?=some (some o)):cUn Dj (Ad i) c=.ok (.o (.im (.tuple ds))) c:=by
 rcases h with rfl | rfl <;> wp_walk using hc,Dj
theorem Bw8 {b d e f g:Ev->R PV}{c:Ev}{h a j k i:PyData}(h1:b c=.ok (.o (.im h)) c)(h2:d c=.ok (.o (.im a)) c)(m:e c=.ok (.o (.im j)) c)(n:f c=.ok (.o (.im k)) c)(l:g c=.ok (.o (.im i)) c) :
 Df (G8 (Ac b (Ac d (Ac e (Ac f (Ac g Aq)))))) c=.rt (.o (.im (.tuple [h,a,j,k,i]))) c:=by
 wp_walk using h1,h2,m,n,l
theorem A8l {n:Nat}{ds:List PyData}{num:Bool}(hb:Bx n ds)(hn:n<2 ^ 35) :
 ∃(W:Wd) (ds':List PyData),W.Ok/\(num=true->W.Num)/\Bx (n+3000) ds'/\Mj [.ls true ds,.im (.bool num)]=.ret (.im W.d) [.ls true ds',.im (.bool num)]:=by
 have u:∀k,k<=5000->n+k<2 ^ 40:=fun k F=>Nat.lt_of_lt_of_le (Nat.add_lt_add_of_lt_of_le hn F) (by decide)
 have K:∀k,k<=5000->n+k<2 ^ 39:=fun k F=>Nat.lt_of_lt_of_le (Nat.add_lt_add_of_lt_of_le hn F) (by decide)
 have J:∀k,k<=5000->n+k<2 ^ 37:=fun k F=>Nat.lt_of_lt_of_le (Nat.add_lt_add_of_lt_of_le hn F) (by decide)
 have V:∀k,k<=5000->n+k<2 ^ 36:=fun k F=>Nat.lt_of_lt_of_le (Nat.add_lt_add_of_lt_of_le hn F) (by decide)
 obtain⟨o,d1,L,nms,b1,X⟩:=A1v (m:=9) hb (Nat.lt_trans hn (by decide)) (by decide)
 have X:Gq [.ls true ds,.im (.int 9)]=.ret (.ls false (o.map PyData.str)) [.ls true d1,.im (.int 9)]:=X
 obtain⟨a,d2,b2,a0,a1,e2⟩:=Cg (m:=3) b1 (u 9 (by decide)) (by decide) (by decide)
 obtain⟨b,d3,b3,bb0,T,e3⟩:=Cg (m:=3) b2 (u 10 (by decide)) (by decide) (by decide)
 obtain⟨c,d4,b4,c0,c1,e4⟩:=Cg (m:=2) b3 (u 11 (by decide)) (by decide) (by decide)
 obtain⟨q,d5,b5,q0,q1,e5⟩:=Cg (m:=8) b4 (u 12 (by decide)) (by decide) (by decide)
 obtain⟨a,rfl⟩:=Int.eq_ofNat_of_zero_le a0;obtain⟨b,rfl⟩:=Int.eq_ofNat_of_zero_le bb0;have G:a<=2:=Int.ofNat_le.mp (Int.le_of_lt_add_one a1);have y:b<=2:=Int.ofNat_le.mp (Int.le_of_lt_add_one T)
 have hc:∃(v:Nat) (E:List PyData),1<=v/\v<=5/\Bx (n+14) E /\
  cIf (Az (cOp (Dc false) (cF Ak (Ac (Ad 0) (Ac (cC (.int 8)) Aq))) (cC (.int 0)))) (Di (cOp Bw (cC (.int 3)) (cF Ak (Ac (Ad 0) (Ac (cC (.int 3)) Aq)))) (cgN 5)) Cv
   [some (.ls true d4),some (.im (.bool num)),some (.ls false (o.map PyData.str)),some (.im (.int a)),some (.im (.int b)),some (.im (.int (1+c))),none,none,none,none,none,none,none,none,none,none] =
  .nx [some (.ls true E),some (.im (.bool num)),some (.ls false (o.map PyData.str)),some (.im (.int a)),some (.im (.int b)),some (.im (.int (v:Int))),none,none,none,none,none,none,none,none,none,none]:=by
  by_cases z:q=0
  ·subst z
   obtain⟨k,E,Z,k0,k1,e6⟩:=Cg (m:=3) b5 (u 13 (by decide)) (by decide) (by decide)
   refine⟨(3+k).toNat,E,by omega,by omega,Z.mono (Nat.le_refl _),?_⟩
   wp_walk using e5,e6,Dc,Cq,PyData.canLay0,PyData.depth,PyData.eqv,Nat.zero_le,beq_self_eq_true,Bw,Int.toNat_of_nonneg (show 0<=3+k by omega)
  ·refine⟨(1+c).toNat,d5,by omega,by omega,b5.mono (Nat.le_succ _),?_⟩
   wp_walk using e5,Dc,Cq,PyData.canLay0,PyData.depth,PyData.eqv,Nat.zero_le,beq_eq_false_iff_ne.mpr z,Int.toNat_of_nonneg (show 0<=1+c by omega)
 obtain⟨v,E,v1,v5,Z,e6⟩:=hc
 obtain⟨S,d7,b7,m10,m11,e7⟩:=Ak0 (l:=0) (f:=5) (m:=12) Z (K 14 (by decide)) (by decide) (by decide) (by decide) (by decide) (by decide) (by decide)
 obtain⟨S,rfl⟩:=Int.eq_ofNat_of_zero_le m10;have D:S<=12:=Int.ofNat_le.mp m11
 obtain⟨d,d8,hnd,hh,hl,b8,e8⟩:=Vp (w:=b) (m:=S) b7 (J 16 (by decide)) (Nat.le_trans y (by decide)) (Nat.le_trans D (by decide))
 obtain⟨f,d9,b9,f0,f1,e9⟩:=Cg (m:=3) (b8.mono (m:=n+52) (Nat.add_le_add_left (show b*S<=24 from Nat.mul_le_mul y D) (n+28))) (u 52 (by decide)) (by decide) (by decide)
 obtain⟨fo,hfo,M,_⟩:=Lg (l:=[PyData.int 9,.int 2,.int 3]) (r:=f) f0 f1
 have hof:∃i:Int,fo=.int i/\0<i/\i<1000:=by
  simp only[List.mem_cons,List.not_mem_nil,or_false]at M
  rcases M with rfl | rfl | rfl <;> exact⟨_,rfl,by decide,by decide⟩
 obtain⟨i,rfl,U,of1⟩:=hof
 obtain⟨R,d10,b10,m20,m21,Y⟩:=Ak0 (l:=0) (f:=5) (m:=12) b9 (K 53 (by decide)) (by decide) (by decide) (by decide) (by decide) (by decide) (by decide)
 obtain⟨R,rfl⟩:=Int.eq_ofNat_of_zero_le m20;have B:R<=12:=Int.ofNat_le.mp m21
 obtain⟨s,d11,pnd,hp,pl,b11,e11⟩:=Vp (w:=a) (m:=R) b10 (J 55 (by decide)) (Nat.le_trans G (by decide)) (Nat.le_trans B (by decide))
 have x:s.length<=12:=Nat.le_trans pl B;have A:d.length<=12:=Nat.le_trans hl D;have I:a+b<=4:=Nat.add_le_add G y;have O:a+b+v<=9:=Nat.add_le_add I v5
 let j:=o.take a
 let g:=(o.drop a).take b
 let e:=(o.drop (a+b)).take v
 have kl:j.length=a:=by show (o.take a).length=a;rw[List.length_take,L];exact Nat.min_eq_left (Nat.le_trans G (by decide))
 have ol:g.length=b:=by show ((o.drop a).take b).length=b;rw[List.length_take,List.length_drop,L];exact Nat.min_eq_left (Nat.le_sub_of_add_le (Nat.le_trans (Nat.add_le_add y G) (by decide)))
 have vl:e.length=v:=by show ((o.drop (a+b)).take v).length=v;rw[List.length_take,List.length_drop,L];exact Nat.min_eq_left (Nat.le_sub_of_add_le (Nat.add_comm v (a+b)▸O))
 have C:j++g++e=o.take (a+b+v):=by
  show o.take a++(o.drop a).take b++(o.drop (a+b)).take v=_
  rw[<- List.take_add,<- List.take_add]
 have c1:cutD (o.map PyData.str) none (some (a:Int))=j.map PyData.str:=by rw[Bo9,Ka]
 have c2:cutD (o.map PyData.str) (some (a:Int)) (some ((a:Int)+(b:Int)))=g.map PyData.str:=by
  rw[<- Int.natCast_add,A0o (Nat.le_add_right _ _) (by rw[List.length_map,L];exact Nat.le_trans I (by decide)),O2,Ka,Nat.add_sub_cancel_left]
 have c3:cutD (o.map PyData.str) (some ((a:Int)+(b:Int))) (some ((a:Int)+(b:Int)+(v:Int)))=e.map PyData.str:=by
  rw[<- Int.natCast_add,<- Int.natCast_add,A0o (Nat.le_add_right _ _) (by rw[List.length_map,L];exact O),O2,Ka,Nat.add_sub_cancel_left]
 obtain⟨t,N,p8,p9,y12,y13,y14,y15,hr,hro,P,b12,⟨o8,rfl,g8⟩,⟨o9,rfl,g9⟩,e12⟩:=A3w (num:=num) (s2:=some (.ls false (o.map PyData.str))) (s3:=some (.im (.int a))) (s4:=some (.im (.int b))) (s5:=some (.im (.int v))) (s6:=some (.im (.list (j.map PyData.str)))) (s7:=some (.im (.list (g.map PyData.str)))) (o8:=some (.ls false (e.map PyData.str))) (o9:=some (.ls false (d.map tD))) (often:=i) (vals:=e.map PyData.str) (heads:=d) (parts:=s) (b11.mono (m:=n+91) (Nat.add_le_add_left (show a*R<=24 from Nat.mul_le_mul G B) (n+67))) (V 91 (by decide)) U of1 (by rw[List.length_map,vl];exact v5) A x ⟨_,rfl,.inl rfl⟩ ⟨_,rfl,.inl rfl⟩ (x12:=none) (x13:=none) (x14:=none) (x15:=none) (kl:=a) hp
 have Q:Names (j++g++e):=by rw[C];exact nms.sublist (List.take_sublist _ _)
 refine⟨⟨j,g,e,d,t⟩,N,⟨Q,by rw[kl];exact G,by rw[ol];exact y,by rw[vl];exact v5,by rw[vl];exact v1,fun h H=>⟨by rw[ol];exact(hh h H).1,(hh h H).2⟩,hnd,A,fun r h=>?_,by show (t.map (·.1)).Nodup;rw[hr];exact pnd,?_⟩,P,b12.mono (Nat.le_trans (Nat.add_le_add_left (Nat.mul_le_mul_left 132 x) (n+91)) (Nat.add_le_add_left (show 91+132*12<=3000 by decide) n)),?_⟩
 ·have:=hro r h
  rw[List.length_map]at this
  show Z3 j.length d.length e.length r
  rw[kl];exact this
 ·show t.length<=12
  have:=congrArg List.length hr;rw[List.length_map]at this;exact Nat.le_trans (Nat.le_of_eq this) x
 refine Ny (p:=.o (.im (Wd.d ⟨j,g,e,d,t⟩))) (c:=[some (.ls true N),some (.im (.bool num)),some (.ls false (o.map PyData.str)),some (.im (.int a)),some (.im (.int b)),some (.im (.int v)),some (.im (.list (j.map PyData.str))),some (.im (.list (g.map PyData.str))),some o8,some o9,some (.im (.int i)),some (.ls false (t.map Rq)),y12,y13,y14,y15]) ?_ rfl (by wp_walk using true_and)
 show Qj [some (.ls true ds),some (.im (.bool num)),none,none,none,none,none,none,none,none,none,none,none,none,none,none]=_
 unfold Qj
 refine (Dh (c':=[some (.ls true d1),some (.im (.bool num)),some (.ls false (o.map PyData.str)),none,none,none,none,none,none,none,none,none,none,none,none,none]) (by wp_walk using X)).trans ?_
 refine (Dh (c':=[some (.ls true d4),some (.im (.bool num)),some (.ls false (o.map PyData.str)),some (.im (.int a)),some (.im (.int b)),some (.im (.int (1+c))),none,none,none,none,none,none,none,none,none,none]) (by wp_walk using e2,e3,e4,Bw)).trans ?_
 refine (Dh e6).trans ?_
 refine (Dh (c':=[some (.ls true E),some (.im (.bool num)),some (.ls false (o.map PyData.str)),some (.im (.int a)),some (.im (.int b)),some (.im (.int v)),some (.im (.list (j.map PyData.str))),some (.im (.list (g.map PyData.str))),none,none,none,none,none,none,none,none]) (by wp_walk using Vj,Bw,c1,c2)).trans ?_
 refine (Dh (c':=[some (.ls true E),some (.im (.bool num)),some (.ls false (o.map PyData.str)),some (.im (.int a)),some (.im (.int b)),some (.im (.int v)),some (.im (.list (j.map PyData.str))),some (.im (.list (g.map PyData.str))),some (.ls false (e.map PyData.str)),none,none,none,none,none,none,none]) (by wp_walk using Vj,Bw,c3)).trans ?_
 refine (Dh (c':=[some (.ls true d8),some (.im (.bool num)),some (.ls false (o.map PyData.str)),some (.im (.int a)),some (.im (.int b)),some (.im (.int v)),some (.im (.list (j.map PyData.str))),some (.im (.list (g.map PyData.str))),some (.ls false (e.map PyData.str)),some (.ls false (d.map tD)),none,none,none,none,none,none]) (by wp_walk using e7,e8)).trans ?_
 refine (Dh (c':=[some (.ls true d9),some (.im (.bool num)),some (.ls false (o.map PyData.str)),some (.im (.int a)),some (.im (.int b)),some (.im (.int v)),some (.im (.list (j.map PyData.str))),some (.im (.list (g.map PyData.str))),some (.ls false (e.map PyData.str)),some (.ls false (d.map tD)),some (.im (.int i)),none,none,none,none,none]) (by wp_walk using e9,Ay,hfo)).trans ?_
 refine (Dh (c':=[some (.ls true d9),some (.im (.bool num)),some (.ls false (o.map PyData.str)),some (.im (.int a)),some (.im (.int b)),some (.im (.int v)),some (.im (.list (j.map PyData.str))),some (.im (.list (g.map PyData.str))),some (.ls false (e.map PyData.str)),some (.ls false (d.map tD)),some (.im (.int i)),some (.ls false []),none,none,none,none]) (by wp_walk using true_and)).trans ?_
 refine (Dh ((Rx (ds:=s.map tD) (c1:=[some (.ls true d11),some (.im (.bool num)),some (.ls false (o.map PyData.str)),some (.im (.int a)),some (.im (.int b)),some (.im (.int v)),some (.im (.list (j.map PyData.str))),some (.im (.list (g.map PyData.str))),some (.ls false (e.map PyData.str)),some (.ls false (d.map tD)),some (.im (.int i)),some (.ls false []),none,none,none,none]) (by wp_walk using Cj,Y,e11)).trans e12)).trans ?_
 exact Bw8 (A0t (.inr rfl) rfl) (A0t (.inr rfl) rfl) (A0t g8 rfl) (A0t g9 rfl) (A0t (.inl rfl) rfl)
theorem Ac2  : (List.replicate n true).all id=true:=by simp
theorem Le:∀n:Nat,boolsOf (List.replicate n (PyData.bool true))=some (List.replicate n true)
 | 0=>rfl
 | n+1=>by rw[List.replicate_succ,List.replicate_succ];show (boolsOf (List.replicate n (PyData.bool true))).map (true::·)=_;rw[Le n];rfl
theorem Ku   (ha:Cq a=true) (hb:Cq b=true):Dc neg a b=some (.im (.bool (if neg then !PyData.eqv a b else PyData.eqv a b))):=by unfold Dc;grind
theorem A9l   (h:x∈Ho ds ds):∃d∈ds,x=.tuple [d,d]:=by
 obtain⟨⟨a,b⟩,f,c⟩:=List.mem_map.mp h;obtain⟨i,g,e⟩:=List.getElem_of_mem f
 grind
theorem Yk {d:PyData}:∀{ds:List PyData},d∈ds->d.depth<=PyData.depthAll ds
 | a::r,h=>by
  show d.depth<=max a.depth (PyData.depthAll r)
  rcases List.mem_cons.mp h with rfl | h
  ·exact Nat.le_max_left _ _
  ·exact Nat.le_trans (Yk h) (Nat.le_max_right _ _)
theorem Xm {d:PyData}:∀{ds:List PyData},d∈ds->PyData.canLayAll0 ds=true->d.canLay0=true
 | a::r,h,l=>by
  obtain⟨l1,l2⟩:=Bool.and_eq_true_iff.mp (show (a.canLay0&&PyData.canLayAll0 r)=true from l)
  rcases List.mem_cons.mp h with rfl | h
  ·exact l1
  ·exact Xm h l2
def Short:Nat->PyData->Prop
 | 0,_=>True
 | n+1,.list ds=>ds.length<=16000000/\∀d∈ds,Short n d
 | n+1,.tuple ds=>ds.length<=16000000/\∀d∈ds,Short n d
 | _+1,_=>True
theorem Af6:∀ds:List PyData,2*ds.length<=Ie ds
 | []=>Nat.le_refl _
 | d::r=>by have:=Af6 r;show 2*(r.length+1)<=wt d+2+Ie r;omega
theorem Ah5 {d:PyData}:∀{ds:List PyData},d∈ds->wt d<=Ie ds
 | a::r,h=>by
  show wt d<=wt a+2+Ie r
  rcases List.mem_cons.mp h with rfl | h
  ·exact Nat.le_trans (Nat.le_add_right _ 2) (Nat.le_add_right _ _)
  ·exact Nat.le_trans (Ah5 h) (Nat.le_add_left _ _)
theorem Ua:∀(n:Nat) (d:PyData),wt d<=16000000->Short n d
 | 0,d,h=>trivial
 | n+1,.list ds,h=>by
  have h:Ie ds<=16000000:=Nat.le_trans (Nat.le_add_right _ 4) h
  exact⟨Nat.le_trans (Nat.le_trans (Nat.le_mul_of_pos_left _ (by decide)) (Af6 ds)) h,fun d hd=>Ua n d (Nat.le_trans (Ah5 hd) h)⟩
 | n+1,.tuple ds,h=>by
  have h:Ie ds<=16000000:=Nat.le_trans (Nat.le_add_right _ 4) h
  exact⟨Nat.le_trans (Nat.le_trans (Nat.le_mul_of_pos_left _ (by decide)) (Af6 ds)) h,fun d hd=>Ua n d (Nat.le_trans (Ah5 hd) h)⟩
 | n+1,.none,h=>trivial
 | n+1,.bool _,h=>trivial
 | n+1,.int _,h=>trivial
 | n+1,.str _,h=>trivial
 | n+1,.dict _,h=>trivial
theorem Yv:∀(n:Nat) (d:PyData),d.depth<n->n<=40->d.canLay0=true->Short n d->Ck n [.im d,.im d]=.ret (.im (.bool true)) [.im d,.im d]
 | 0,d,h,_,_,_=>absurd h (Nat.not_lt_zero _)
 | n+1,d,h,hn,hl,hs=>by
  have fb:∀b:Bool,Cq (.bool b)=true:=fun b=>rfl
  have fl:Cq d=true:=by unfold Cq;rw[hl,decide_eq_true (show d.depth<=40 from Nat.le_trans (Nat.le_of_lt_succ h) (Nat.le_of_succ_le hn))];rfl
  have fi:∀k:Nat,Cq (.int (k:Int))=true:=fun k=>rfl
  have loop:∀ds:List PyData,(∀e∈ds,Ck n [.im e,.im e]=.ret (.im (.bool true)) [.im e,.im e])->∃c',Ea (cgT 2 (Av (cgN 0) (Av (cgN 1) Do))) Bv (cF (Ck n) (Ac (Ad 0) (Ac (Ad 1) Aq))) (Ho ds ds) [] [none,none]=.ok ((Ho ds ds).map fun _=>.bool true) c'/\∃a b,c'=[a,b]:=fun ds hds=>by
   have:=Wi (g:=cgT 2 (Av (cgN 0) (Av (cgN 1) Do))) (ft:=Bv) (fe:=cF (Ck n) (Ac (Ad 0) (Ac (Ad 1) Aq))) (I:=fun c=>∃a b,c=[a,b]) (F:=fun _=>.bool true) (items:=Ho ds ds) (acc:=[]) (c:=[none,none]) ⟨none,none,rfl⟩ (fun x c hx ⟨a,b,hc⟩=>by
    subst hc;obtain⟨e,he,rfl⟩:=A9l hx
    refine⟨[some (.im e),some (.im e)],?_,_,_,rfl⟩
    wp_walk using hds e he)
   simpa using this
  have fin:∀ds:List PyData,(Ho ds ds).map (fun _=>PyData.bool true)=List.replicate ds.length (.bool true):=fun ds=>by
   rw[List.map_const'];unfold Ho;rw[List.length_map,List.length_zip,Nat.min_self]
  show Gb 2 2 (Fy (Ck n)) _=_
  cases d with
  | none=>wp_walk using Fy,Ls,Eu,Pr,Fv,Ku fl fl,Ku (fb _) (fb _),PyData.eqv,beq_self_eq_true
  | bool b=>wp_walk using Fy,Ls,Eu,Pr,Fv,Ku fl fl,Ku (fb _) (fb _),PyData.eqv,beq_self_eq_true
  | int i=>wp_walk using Fy,Ls,Eu,Pr,Fv,Ku fl fl,Ku (fb _) (fb _),PyData.eqv,beq_self_eq_true
  | str x=>wp_walk using Fy,Ls,Eu,Pr,Fv,Ku fl fl,Ku (fb _) (fb _),PyData.eqv,beq_self_eq_true
  | dict k=>cases hl
  | list ds =>
   have hd:∀e∈ds,Ck n [.im e,.im e]=.ret (.im (.bool true)) [.im e,.im e]:=fun e he=>Yv n e (Nat.lt_of_le_of_lt (Yk he) (Nat.lt_of_succ_lt_succ h)) (Nat.le_of_succ_le hn) (Xm he hl) (hs.2 e he)
   obtain⟨c',e1,a,b,rfl⟩:=loop ds hd;rw[fin]at e1
   have e2:cLC [none,none] (Qu (Ad 0) (Ad 1)) (cgT 2 (Av (cgN 0) (Av (cgN 1) Do))) Bv (cF (Ck n) (Ac (Ad 0) (Ac (Ad 1) Aq))) [some (.im (.list ds)),some (.im (.list ds))]=.ok (.o (.ls false (List.replicate ds.length (.bool true)))) [some (.im (.list ds)),some (.im (.list ds))] :=
    Ey (ds:=Ho ds ds) (c1:=[some (.im (.list ds)),some (.im (.list ds))]) (by wp_walk using Qu,Rp) (by unfold Ho;rw[List.length_map,List.length_zip,Nat.min_self];exact hs.1) e1 rfl
   wp_walk using Fy,Ls,Eu,Pr,Ku (fb _) (fb _),M3,Ku (fi _) (fi _),PyData.eqv,beq_self_eq_true,e2,Wf,Le,Ac2
  | tuple ds =>
   have hd:∀e∈ds,Ck n [.im e,.im e]=.ret (.im (.bool true)) [.im e,.im e]:=fun e he=>Yv n e (Nat.lt_of_le_of_lt (Yk he) (Nat.lt_of_succ_lt_succ h)) (Nat.le_of_succ_le hn) (Xm he hl) (hs.2 e he)
   obtain⟨c',e1,a,b,rfl⟩:=loop ds hd;rw[fin]at e1
   have e2:cLC [none,none] (Qu (Ad 0) (Ad 1)) (cgT 2 (Av (cgN 0) (Av (cgN 1) Do))) Bv (cF (Ck n) (Ac (Ad 0) (Ac (Ad 1) Aq))) [some (.im (.tuple ds)),some (.im (.tuple ds))]=.ok (.o (.ls false (List.replicate ds.length (.bool true)))) [some (.im (.tuple ds)),some (.im (.tuple ds))] :=
    Ey (ds:=Ho ds ds) (c1:=[some (.im (.tuple ds)),some (.im (.tuple ds))]) (by wp_walk using Qu,Rp) (by unfold Ho;rw[List.length_map,List.length_zip,Nat.min_self];exact hs.1) e1 rfl
   wp_walk using Fy,Ls,Eu,Pr,Ku (fb _) (fb _),M3,Ku (fi _) (fi _),PyData.eqv,beq_self_eq_true,e2,Wf,Le,Ac2
theorem Au0 {n:Nat}{d:PyData}{k w:Nat}(h:Good d k w)(hk:k<n)(hn:n<=40)(hw:w<=16000000):Ck n [.im d,.im d]=.ret (.im (.bool true)) [.im d,.im d] :=
 Yv n d (Nat.lt_of_le_of_lt h.dep hk) hn h.lay (Ua n d (Nat.le_trans h.wgt hw))
theorem Au2 {x:Str}(h:x∈names12):Good (.str x) 0 1921:=by
 have:VB (.str x):=by
  simp only[names12,List.mem_cons,List.not_mem_nil,or_false]at h
  rcases h with rfl | rfl | rfl | rfl | rfl | rfl | rfl | rfl | rfl | rfl | rfl | rfl <;> decide
 exact Hm this
theorem Wr {ns:List Str}{k:Nat}(h:∀x∈ns,x∈names12)(hk:ns.length<=k):Good (nD ns) 1 (1923*k+4) :=
 Good.tup (fun d a=>by obtain⟨v,b,rfl⟩:=List.mem_map.mp a;exact Au2 (h v b)) (by simp_all)
theorem Ai6 {c:Option (List Vl)}{v:Nat}(h:T5 v c)(hv:v<=5):Good (Eb c) 1 9619:=by
 cases c with
 | none=>exact⟨rfl,rfl,rfl,Nat.zero_le _,by decide⟩
 | some a=>exact(Km (h _ rfl).2 (show a.length<=5 by rw[(h _ rfl).1];grind)).mono (Nat.le_refl _) (by decide)
theorem Aw7 {k n v:Nat}{r:List Vl×List (Option (List Vl))}(h:Z3 k n v r)(hk:k<=2)(hn:n<=12)(hv:v<=5):Good (Rq r) 3 250000:=by
 have a:Good _ 2 115460:=(Km h.part (by rw[h.plen];omega)).mono (by decide) (by decide)
 have b:Good _ 2 115460:=(Good.tup    (fun d e=>by obtain⟨c,f,rfl⟩:=List.mem_map.mp e;exact Ai6 (h.cells c f) hv) (by rw[List.length_map,h.clen];omega)).mono (by decide) (by decide)
 have t:=Good.tup (ds:=[tD r.1,.tuple (r.2.map Eb)]) (n:=2) (w:=115460) (k:=2) fun d e=>by
  grind (Nat.le_refl _)
 exact t.mono (by decide) (by decide)
theorem Wd.good5 {w:Wd}(h:w.Ok):Good w.d 5 15500014:=by
 have f  := fun x a=>h.nms.sub x (List.mem_append_left _ (List.mem_append_left _ a))
 have g  := fun x a=>h.nms.sub x (List.mem_append_left _ (List.mem_append_right _ a))
 have a1:=(Wr f h.klen).mono (show 1<=4 by decide) (show 1923*2+4<=3100000 by decide)
 have a2:=(Wr g h.nlen).mono (show 1<=4 by decide) (show 1923*2+4<=3100000 by decide)
 have a3:=(Wr (fun x a=>h.nms.sub x (List.mem_append_right _ a)) h.vlen).mono (show 1<=4 by decide) (show 1923*5+4<=3100000 by decide)
 have a4:Good _ 4 3100000:=(Good.tup    (fun d b=>by obtain⟨c,e,rfl⟩:=List.mem_map.mp b;exact Km (h.heads c e).2 (by rw[(h.heads c e).1];exact h.nlen)) (by simpa using h.hlen)).mono (by decide) (by decide)
 have a5:Good _ 4 3100000:=(Good.tup    (fun d b=>by obtain⟨c,e,rfl⟩:=List.mem_map.mp b;exact Aw7 (h.rows c e) h.klen h.hlen h.vlen) (by simpa using h.rlen)).mono (by decide) (by decide)
 have t:=Good.tup (ds:=w.ps) (n:=4) (w:=3100000)  (fun d b=>by
  simp only[Wd.ps,List.not_mem_nil]at b
  grind) (Nat.le_refl _)
 assumption
def Em (heads:List (List Vl))(r:List Vl×List (Option (List Vl))):List (List Vl×List Vl×Option (List Vl)):=(heads.zip r.2).map fun q=>(r.1,q.1,q.2)
def Wd.along (w:Wd):List (List Vl×List Vl×Option (List Vl)):=w.rows.flatMap (Em w.heads)
def Jg (t:List Vl×List Vl×Option (List Vl)):PyData:=.tuple [tD t.1,tD t.2.1,Eb t.2.2]
theorem Uj {α β:Type}(f:α->PyData)(g:β->PyData):∀(as:List α) (bs:List β),Ho (as.map f) (bs.map g)=(as.zip bs).map fun q=>.tuple [f q.1,g q.2]
 | [],bs=>by simp[Ho]
 | a::as,[]=>by simp[Ho]
 | a::as,b::bs=>by
  have:=Uj f g as bs;unfold Ho at this ⊢;rw[List.map_cons,List.map_cons,List.zip_cons_cons,List.map_cons,this,List.zip_cons_cons,List.map_cons]
theorem Tc (heads:List (List Vl))(r:List Vl×List (Option (List Vl))):(Em heads r).length<=heads.length:=by
 unfold Em;rw[List.length_map,List.length_zip];omega
theorem Qq (heads:List (List Vl)):∀rows:List (List Vl×List (Option (List Vl))),(rows.flatMap (Em heads)).length<=heads.length*rows.length
 | []=>by simp
 | r::rs=>by
  have:=Qq heads rs;have:=Tc heads r;rw[List.flatMap_cons,List.length_append,List.length_cons,Nat.mul_succ];omega
theorem Lj {w:Wd}(h1:w.heads.length<=1000)(h2:w.rows.length<=1000):Dg [.im w.d]=.ret (.ls false (w.along.map Jg)) [.im w.d]:=by
 have loop:=Ha (g:=cgT 2 (Av (cgN 2) (Av (cgN 3) Do))) (body:=Ii (A6o (Ad 1) (cLC [none,none,some 2] (Qu (cOp Ay (Ad 0) (cC (.int 3))) (Ad 3)) (cgT 2 (Av (cgN 0) (Av (cgN 1) Do))) Bv (G8 (Ac (Ad 2) (Ac (Ad 0) (Ac (Ad 1) Aq))))))) (items:=w.rows.map Rq) (n:=0)
  (c:=[some (.im w.d),some (.ls false []),none,none])
  (P:=fun k c=>∃x y,c=[some (.im w.d),some (.ls false (((w.rows.take k).flatMap (Em w.heads)).map Jg)),x,y])
  ⟨none,none,rfl⟩ (fun k d c hd hP=>by
   rw[Nat.zero_add]at hP ⊢;obtain⟨x,y,rfl⟩:=hP;obtain⟨r,hr,rfl⟩:=Mf hd;have hk:k<w.rows.length:=(List.getElem?_eq_some_iff.mp hr).1
   obtain⟨c',e1,a,b,rfl⟩:=Wi (g:=cgT 2 (Av (cgN 0) (Av (cgN 1) Do))) (ft:=Bv) (fe:=G8 (Ac (Ad 2) (Ac (Ad 0) (Ac (Ad 1) Aq)))) (I:=fun c=>∃a b,c=[a,b,some (.im (tD r.1))]) (F:=fun d=>match d with
    | .tuple [x,y]=>.tuple [tD r.1,x,y]
    | d=>d) (items:=Ho (w.heads.map tD) (r.2.map Eb)) (acc:=[]) (c:=[none,none,some (.im (tD r.1))]) ⟨none,none,rfl⟩ (fun x c hx ⟨a,b,hc⟩=>by
    subst hc;rw[Uj]at hx;obtain⟨q,hq,rfl⟩:=List.mem_map.mp hx
    refine⟨[some (.im (tD q.1)),some (.im (Eb q.2)),some (.im (tD r.1))],?_,_,_,rfl⟩
    wp_walk using true_and)
   have ez:(Ho (w.heads.map tD) (r.2.map Eb)).map (fun d=>match d with
    | .tuple [x,y]=>.tuple [tD r.1,x,y]
    | d=>d)=(Em w.heads r).map Jg:=by
    rw[Uj,List.map_map];unfold Em;rw[List.map_map]
    rfl
   rw[List.nil_append,ez]at e1
   have e2:cLC [none,none,some 2] (Qu (cOp Ay (Ad 0) (cC (.int 3))) (Ad 3)) (cgT 2 (Av (cgN 0) (Av (cgN 1) Do))) Bv (G8 (Ac (Ad 2) (Ac (Ad 0) (Ac (Ad 1) Aq)))) [some (.im w.d),some (.ls false (((w.rows.take k).flatMap (Em w.heads)).map Jg)),some (.im (tD r.1)),some (.im (.tuple (r.2.map Eb)))] =
    .ok (.o (.ls false ((Em w.heads r).map Jg))) [some (.im w.d),some (.ls false (((w.rows.take k).flatMap (Em w.heads)).map Jg)),some (.im (tD r.1)),some (.im (.tuple (r.2.map Eb)))] :=
    Ey (ds:=Ho (w.heads.map tD) (r.2.map Eb)) (c1:=[some (.im w.d),some (.ls false (((w.rows.take k).flatMap (Em w.heads)).map Jg)),some (.im (tD r.1)),some (.im (.tuple (r.2.map Eb)))]) (by wp_walk using Qu,Ay,Wd.d,Wd.ps,Rp) (by unfold Ho;rw[List.length_map,List.length_zip,List.length_map];omega) e1 (by wp_walk using true_and)
   refine⟨[some (.im w.d),some (.ls false (((w.rows.take (k+1)).flatMap (Em w.heads)).map Jg)),some (.im (tD r.1)),some (.im (.tuple (r.2.map Eb)))],.inl ?_,_,_,rfl⟩
   have et:(w.rows.take (k+1)).flatMap (Em w.heads)=(w.rows.take k).flatMap (Em w.heads)++Em w.heads r:=by
    rw[List.take_succ,hr];simp
   have len:(((w.rows.take k).flatMap (Em w.heads)).map Jg).length+((Em w.heads r).map Jg).length<=16000000:=by
    rw[List.length_map,List.length_map];have a:=Qq w.heads (w.rows.take k);have b:=Tc w.heads r
    have:w.heads.length*(w.rows.take k).length<=1000*1000:=Nat.mul_le_mul h1 (by rw[List.length_take];omega)
    omega
   wp_walk using Rq,e2,len,et,List.map_append)
 obtain⟨c',e,x,y,rfl⟩:=loop;rw[Nat.zero_add,List.length_map,List.take_length]at e
 refine Ny (p:=.sl 1) (c:=[some (.im w.d),some (.ls false (w.along.map Jg)),x,y]) ?_ rfl (by wp_walk using true_and)
 show Ih [some (.im w.d),none,none,none]=_
 unfold Ih
 refine (Dh (c':=[some (.im w.d),some (.ls false []),none,none]) (by wp_walk using true_and)).trans ?_
 refine (Dh ((Rx (ds:=w.rows.map Rq) (c1:=[some (.im w.d),some (.ls false []),none,none]) (by wp_walk using Cj,Ay,Wd.d,Wd.ps)).trans e)).trans ?_
 wp_walk using Wd.along
theorem Al3 {neg:Bool}:Fv neg .none .none=some (.im (.bool (!neg))):=rfl
theorem Bb1 {neg:Bool}{vs:List Vl}:Fv neg (tD vs) .none=some (.im (.bool neg)):=rfl
def Ac7 (t:List Vl×List Vl×Option (List Vl)):Option (List Vl):=t.2.2.map fun c=>t.1++t.2.1++c
def Wd.out (w:Wd):List (List Vl):=w.along.filterMap Ac7
def Wd.outD (w:Wd):PyData:=.tuple [nD (w.key++w.names++w.vals),.tuple (w.out.map tD)]
theorem Ar7 {w:Wd}{t:List Vl×List Vl×Option (List Vl)}(h:t∈w.along):∃r∈w.rows,t.1=r.1/\t.2.1∈w.heads/\t.2.2∈r.2:=by
 obtain⟨r,hr,ht⟩:=List.mem_flatMap.mp h;obtain⟨q,hq,rfl⟩:=List.mem_map.mp ht;have:=List.of_mem_zip hq;exact⟨r,hr,rfl,this.1,this.2⟩
theorem Am7 {w:Wd}(h:w.Ok){t:List Vl×List Vl×Option (List Vl)}(ht:t∈w.along):VBs t.1/\t.1.length=w.key.length/\VBs t.2.1/\t.2.1.length=w.names.length/\T5 w.vals.length t.2.2:=by
 obtain⟨r,hr,e,hh,hc⟩:=Ar7 ht;have ok:=h.rows r hr;rw[e];exact⟨ok.part,ok.plen,(h.heads _ hh).2,(h.heads _ hh).1,ok.cells _ hc⟩
theorem Bf1 {w:Wd}(h:w.Ok):∀o∈w.out,VBs o/\o.length=w.key.length+w.names.length+w.vals.length:=by
 intro o ho;obtain⟨t,ht,e⟩:=List.mem_filterMap.mp ho;obtain⟨a1,a2,a3,a4,a5⟩:=Am7 h ht;unfold Ac7 at e;obtain⟨c,hc,rfl⟩:=Option.map_eq_some_iff.mp e;obtain⟨l,v⟩:=a5 c hc
 exact⟨VBs.app (VBs.app a1 a3) v,by rw[List.length_append,List.length_append,a2,a4,l]⟩
theorem Mg {w:Wd}(h:w.Ok):w.along.length<=144:=by
 have:=Qq w.heads w.rows;have:w.heads.length*w.rows.length<=12*12:=Nat.mul_le_mul h.hlen h.rlen
 show (w.rows.flatMap (Em w.heads)).length<=144
 omega
theorem Am8 {w:Wd}(h:w.Ok):w.out.length<=144:=Nat.le_trans (List.length_filterMap_le _ _) (Mg h)
theorem Bb6 {a b:List Vl}(h:a.length+b.length<=16000000):Bw (tD a) (tD b)=some (.im (tD (a++b))):=by
 unfold tD
 show (if (a.map Vl.d).length+(b.map Vl.d).length<=16000000 then some (O.im (.tuple (a.map Vl.d++b.map Vl.d))) else none)=_
 rw[List.length_map,List.length_map,if_pos h,List.map_append]
theorem add_n {a b:List Str}(h:a.length+b.length<=16000000):Bw (nD a) (nD b)=some (.im (nD (a++b))):=by
 unfold nD
 show (if (a.map PyData.str).length+(b.map PyData.str).length<=16000000 then some (O.im (.tuple (a.map PyData.str++b.map PyData.str))) else none)=_
 rw[List.length_map,List.length_map,if_pos h,List.map_append]
theorem Q9 {w:Wd}(h:w.Ok):Ei [.im w.d]=.ret (.im w.outD) [.im w.d]:=by
 have l1:=h.klen;have l2:=h.nlen;have l3:=h.vlen
 have e0:=Lj (w:=w) (by have:=h.hlen;omega) (by have:=h.rlen;omega)
 obtain⟨c',e1,a,b,x,rfl⟩:=U6 (g:=cgT 3 (Av (cgN 0) (Av (cgN 1) (Av (cgN 2) Do)))) (ft:=Az (cOp (Fv true) (Ad 2) (cC (.none)))) (fe:=cOp Bw (cOp Bw (Ad 0) (Ad 1)) (Ad 2)) (I:=fun c=>∃a b x,c=[a,b,x]) (F:=fun d=>match d with
  | .tuple [.tuple p,.tuple q,.tuple r]=>some (.tuple (p++q++r))
  | _=>none) (items:=w.along.map Jg) (acc:=[]) (c:=[none,none,none]) ⟨none,none,none,rfl⟩ (fun x c hx ⟨a,b,z,hc⟩=>by
  subst hc;obtain⟨t,ht,rfl⟩:=List.mem_map.mp hx;obtain⟨a1,a2,a3,a4,a5⟩:=Am7 h ht;obtain⟨p,q,r⟩:=t;have a2:p.length=w.key.length:=a2;have a4:q.length=w.names.length:=a4
  cases r with
  | none =>
   refine⟨[some (.im (tD p)),some (.im (tD q)),some (.im .none)],?_,_,_,_,rfl⟩
   wp_walk using Jg,Eb,Al3
   rfl
  | some r =>
   have lr:=(a5 r rfl).1
   have e1:=Bb6 (a:=p) (b:=q) (by omega)
   have e2:=Bb6 (a:=p++q) (b:=r) (by rw[List.length_append];omega)
   refine⟨[some (.im (tD p)),some (.im (tD q)),some (.im (tD r))],?_,_,_,_,rfl⟩
   wp_walk using Jg,Eb,Bb1,e1,e2
   unfold tD
   rw[List.map_append,List.map_append])
 have ez:(w.along.map Jg).filterMap (fun d=>match d with
  | .tuple [.tuple p,.tuple q,.tuple r]=>some (.tuple (p++q++r))
  | _=>none)=w.out.map tD:=by
  unfold Wd.out;rw[List.filterMap_map,List.map_filterMap]
  congr 1
  funext t
  obtain⟨p,q,r⟩:=t
  cases r with
  | none=>rfl
  | some r=>simp[Jg,Eb,tD,Ac7]
 rw[List.nil_append,ez]at e1
 have e2:cLC [none,none,none] (Cj (cF Dg (Ac (Ad 0) Aq))) (cgT 3 (Av (cgN 0) (Av (cgN 1) (Av (cgN 2) Do)))) (Az (cOp (Fv true) (Ad 2) (cC (.none)))) (cOp Bw (cOp Bw (Ad 0) (Ad 1)) (Ad 2)) [some (.im w.d),none]=.ok (.o (.ls false (w.out.map tD))) [some (.im w.d),none] :=
  Ey (ds:=w.along.map Jg) (c1:=[some (.im w.d),none]) (by wp_walk using Cj,e0) (by rw[List.length_map];have:=Mg h;omega) e1 rfl
 have e3:=add_n (a:=w.key) (b:=w.names) (by omega)
 have e4:=add_n (a:=w.key++w.names) (b:=w.vals) (by rw[List.length_append];omega)
 refine Ny (p:=.o (.im w.outD)) (c:=[some (.im w.d),some (.ls false (w.out.map tD))]) ?_ rfl (by wp_walk using true_and)
 show Ld [some (.im w.d),none]=_
 unfold Ld
 refine (Dh (c':=[some (.im w.d),some (.ls false (w.out.map tD))]) (by wp_walk using e2)).trans ?_
 wp_walk using Ay,Wd.d,Wd.ps,e3,e4,Dj,Wd.outD
structure Tb where
 cols:List Str
 rows:List (List Vl)
def Tb.d (t:Tb):PyData:=.tuple [.tuple (t.cols.map PyData.str),.tuple (t.rows.map tD)]
structure Tb.Ok (t:Tb):Prop where
 nms:Names t.cols
 cpos:1<=t.cols.length
 clen:t.cols.length<=12
 rows:∀r∈t.rows,r.length=t.cols.length/\VBs r
 rlen:t.rows.length<=144
def Wd.tb (w:Wd):Tb:=⟨w.key++w.names++w.vals,w.out⟩
theorem Wd.tb_d (w:Wd):w.outD=w.tb.d:=rfl
theorem Wd.tb_ok {w:Wd}(h:w.Ok):w.tb.Ok:=by
 have h1:=h.klen;have h2:=h.nlen;have h3:=h.vlen;have h4:=h.vpos
 have e:w.tb.cols.length=w.key.length+w.names.length+w.vals.length:=by show (w.key++w.names++w.vals).length=_;rw[List.length_append,List.length_append]
 refine⟨h.nms,by omega,by omega,fun r hr=>?_,Am8 h⟩
 have:=Bf1 h r hr
 exact⟨by rw[e];exact this.2,this.1⟩
def vlt:Vl->Vl->Bool
 | .non,.non=>false
 | .non,_=>true
 | .int i,.int j=>decide (i<j)
 | .int _,.str _=>true
 | .str x,.str y=>decide (x.cps.toList<y.cps.toList)
 | _,_=>false
def Wc:Vl->PyData
 | .non=>.tuple [.int 0,.int 0]
 | .int i=>.tuple [.int 1,.int i]
 | .str x=>.tuple [.int 2,.str x]
theorem Am0   : Hn (k+1) [.im v.d]=.ret (.im (Wc v)) [.im v.d]:=by
 cases v with
 | non=>rfl
 | int i=>rfl
 | str x=>trivial
theorem Vx  (h:VB v):Cq (Wc v)=true:=by
 have g:=(Hm h).lay
 cases v with
 | non=>rfl
 | int i=>rfl
 | str x =>
  show ((PyData.int 2).canLay0&&(PyData.str x).canLay0&&true&&decide _)=true
  rw[show (PyData.str x).canLay0=true from g];rfl
theorem Bx1 (l:List Nat):¬ l<l:=List.lt_irrefl l
theorem A3r (a b:Vl):Rk false (Wc a) (Wc b)=some (vlt a b):=by
 cases a with
 | non=>cases b <;> rfl
 | int i=>
  cases b with
   | non=>rfl
   | int j =>
    show (if (i==j)=true then some _ else some _)=some (decide _)
    simp_all
   | str y=>rfl
 | str x=>
  cases b with
   | non=>rfl
   | int j=>rfl
   | str y =>
    show (if (x==y)=true then some _ else some _)=some (decide _)
    simp_all
theorem A7g {a b:Vl}(ha:VB a)(hb:VB b):A5f (Wc a) (Wc b)=some (.im (.bool (vlt a b))):=by
 unfold A5f;rw[Vx ha,Vx hb,A3r];rfl
theorem Bb3 {neg:Bool}{a b:Vl}(ha:VB a)(hb:VB b):Dc neg a.d b.d=some (.im (.bool (if neg then !decide (a=b) else decide (a=b)))):=by
 rw[V5 (Hm ha) (Hm hb) (by decide) (by decide),A3o]
structure Cn where
 at_:Nat
 name:Str
 word:Str
 val:Vl
def Cn.d (c:Cn):PyData:=.tuple [.str c.name,.str c.word,c.val.d]
def words4:List Str:=[Str.ofString "is",Str.ofString "not",Str.ofString "below",Str.ofString "above"]
structure Cn.Ok (cols:List Str) (c:Cn):Prop where
 nm:cols[c.at_]?=some c.name
 wd:c.word∈words4
 vb:VB c.val
def Nx (w:Str)(a b:Vl):Bool:=if w=Str.ofString "is" then decide (a=b) else if w=Str.ofString "not" then !decide (a=b) else if w=Str.ofString "below" then vlt a b else vlt b a
theorem ne1:decide (Str.ofString "not" = Str.ofString "is")=false:=by decide +kernel
theorem ne2:decide (Str.ofString "below" = Str.ofString "is")=false:=by decide +kernel
theorem ne3:decide (Str.ofString "below" = Str.ofString "not")=false:=by decide +kernel
theorem ne4:decide (Str.ofString "above" = Str.ofString "is")=false:=by decide +kernel
theorem ne5:decide (Str.ofString "above" = Str.ofString "not")=false:=by decide +kernel
theorem ne6:decide (Str.ofString "above" = Str.ofString "below")=false:=by decide +kernel
theorem A9f (a b:Vl):Nx (Str.ofString "is") a b=decide (a=b)/\Nx (Str.ofString "not") a b=(!decide (a=b))/\Nx (Str.ofString "below") a b=vlt a b/\Nx (Str.ofString "above") a b=vlt b a:=by
 have n1:=of_decide_eq_false ne1;have n2:=of_decide_eq_false ne2;have n3:=of_decide_eq_false ne3;have n4:=of_decide_eq_false ne4;have n5:=of_decide_eq_false ne5;have n6:=of_decide_eq_false ne6;unfold Nx
 exact⟨by rw[if_pos rfl],by rw[if_neg n1,if_pos rfl],by rw[if_neg n2,if_neg n3,if_pos rfl],by rw[if_neg n4,if_neg n5,if_neg n6]⟩
theorem Ac3 {a b:Vl}(ha:VB a)(hb:VB b):Du [.im a.d,.im b.d]=.ret (.im (.bool (vlt a b))) [.im a.d,.im b.d]:=by
 wp_walk using Du,Ky,Am0 (v:=a) (k:=1),Am0 (v:=b) (k:=1),A7g ha hb
theorem A4a {a b:Vl}{w:Str}(ha:VB a)(hb:VB b)(hw:w∈words4):Fd [.im a.d,.im (.str w),.im b.d]=.ret (.im (.bool (Nx w a b))) [.im a.d,.im (.str w),.im b.d]:=by
 obtain⟨h1,h2,h3,h4⟩:=A9f a b;simp only[words4,List.mem_cons,List.not_mem_nil,or_false]at hw
 rcases hw with rfl | rfl | rfl | rfl
 ·wp_walk using Fd,Ln,Jt,Bb3 ha hb,h1
 ·wp_walk using Fd,Ln,Jt,ne1,Bb3 ha hb,h2
 ·wp_walk using Fd,Ln,Jt,ne2,ne3,Ac3 ha hb,h3
 ·wp_walk using Fd,Ln,Jt,ne4,ne5,ne6,Ac3 hb ha,h4
theorem Am3:∀{cols:List Str}{i:Nat}{x:Str},cols.Nodup->cols[i]?=some x->Kz x cols=some i
 | [],i,x,_,h=>by simp at h
 | y::r,0,x,_,h=>by
  have e:y=x:=by simpa using h
  unfold Kz;rw[if_pos (by simpa using e)]
 | y::r,i+1,x,nd,h=>by
  have h':r[i]?=some x:=by simpa using h
  obtain⟨n1,n2⟩:=List.nodup_cons.mp nd
  have ne:¬ y=x:=fun e=>n1 (by rw[e];exact List.mem_of_getElem? h')
  unfold Kz;rw[if_neg (by simpa using ne),Am3 n2 h'];rfl
theorem Rb:∀ss:List Str,strsOf (ss.map PyData.str)=some ss
 | []=>rfl
 | x::ss=>by show (strsOf (ss.map PyData.str)).map (x::·)=_;rw[Rb ss];rfl
theorem Ag1  {cols:List Str}{i:Nat}(a:cols.Nodup) (h:cols[i]?=some x):R9 (.tuple (cols.map PyData.str)) (.str x)=some (.im (.int i)):=by
 show (strsOf _).bind _=_
 rw[Rb,Option.bind_some,Am3 a h];rfl
theorem Ul (x:Str):∀cols:List Str,((cols.map PyData.str).any fun e=>PyData.eqv e (.str x))=decide (x∈cols)
 | []=>rfl
 | y::r=>by
  rw[List.map_cons,List.any_cons,Ul x r,Ao3]
  by_cases e:y=x
  ·subst e;simp
  ·simp[e,Ne.symm e]
def allNm:List Str:=names12++([Str.ofString "no",Str.ofString "",Str.ofString "rows",Str.ofString "A"]++(names12.map (·++Str.ofString "x")++names12.map Txt.upper))
def allWd:List Str:=words4++[Str.ofString "like",Str.ofString "",Str.ofString "Is",Str.ofString "is ",Str.ofString "=",Str.ofString "least",Str.ofString "all",Str.ofString "belo",Str.ofString "below is"]
theorem nmA:(allNm.all fun x=>Cq (.str x)&&(Ae4 (Str.ofString "no column ").length (.str x)&&vb (.str x)))=true:=by decide +kernel
theorem Px {x:Str}(h:x∈allNm):Cq (.str x)=true/\Ae4 (Str.ofString "no column ").length (.str x)=true/\VB (.str x):=by
 have:=List.all_eq_true.mp nmA x h;simp only[Bool.and_eq_true]at this;exact⟨this.1,this.2.1,this.2.2⟩
theorem Bf5:∀x∈allWd,VB (.str x):=fun x hx=>List.all_eq_true.mp (show allWd.all (fun x=>vb (.str x))=true by decide +kernel) x hx
theorem Bd6 {x:Str}(h:x∈names12):(PyData.str x).canLay0=true:=(Hm (Px (x:=x) (List.mem_append_left _ h)).2.2).lay
theorem Ym {x:Str}{cols:List Str}(hx:x∈allNm)(hs:∀y∈cols,y∈names12):K1 true (.str x) (.tuple (cols.map PyData.str))=some (.im (.bool (!decide (x∈cols)))):=by
 show (if Cq (.str x)&&PyData.canLayAll0 (cols.map PyData.str) then some (O.im (.bool (!((cols.map PyData.str).any fun e=>PyData.eqv e (.str x))))) else none)=_
 rw[(Px hx).1,Wy (fun d hd=>by obtain⟨u,hu,rfl⟩:=List.mem_map.mp hd;exact Bd6 (hs u hu)),Ul]
 rfl
theorem Ak3 {n N:Nat}{body:Ev->XS}{ds:List PyData}{nm:Xn}{c0 c:Ev}(hl:ds.length=n)(h0:ds.map (fun d=>some (.im d))++List.replicate (N-n) none=c0)(h:body c0=.ex nm c):Mw n N body ds=.ex nm:=by
 unfold Mw;rw[if_pos hl,h0,h]
theorem A8d {n N:Nat}{body:Ev->XS}{ds:List PyData}{c0 c:Ev}(hl:ds.length=n)(h0:ds.map (fun d=>some (.im d))++List.replicate (N-n) none=c0)(h:body c0=.s (.nx c)):Mw n N body ds=.ret (.im .none):=by
 unfold Mw;rw[if_pos hl,h0,h]
theorem A8x {n N:Nat}{body:Ev->XS}{ds:List PyData}{p:PV}{o:O}{c0 c c':Ev}(hl:ds.length=n)(h0:ds.map (fun d=>some (.im d))++List.replicate (N-n) none=c0)(h:body c0=.s (.rt p c))(hr:resolve p c=some (o,c')):Mw n N body ds=.ret o:=by
 unfold Mw;rw[if_pos hl,h0,h];simp only[hr]
structure Cn.Gd (cols:List Str) (c:Cn):Prop where
 nm:c.name∈allNm
 wd:c.word∈allWd
 vb:VB c.val
 at_:c.name∈cols->cols[c.at_]?=some c.name
theorem Cn.Gd.ok {cols:List Str}{c:Cn}(h:Cn.Gd cols c)(h1:c.name∈cols)(h2:c.word∈words4):Cn.Ok cols c:=⟨h.at_ h1,h2,h.vb⟩
abbrev nC (x:Str):Xn:=⟨Str.ofString "NoColumn",some (Str.ofString "name",.str x)⟩
abbrev nW:Xn:=⟨Str.ofString "BadWay",none⟩
theorem Z5 {t:Tb}{c:Cn}(ht:Tb.Ok t)(hc:Cn.Gd t.cols c)(h:c.name∈t.cols):Cm [t.d,.str c.name]=.ret (.im (.int c.at_)):=by
 have h1:=Ym hc.nm ht.nms.sub;rw[decide_eq_true h]at h1;have h2:=Ag1 ht.nms.nd (hc.at_ h)
 wp_walk using Cm,Lz,Tb.d,Ay,h1,cMt,Ah4,h2
theorem A5l {t:Tb}{c:Cn}(ht:Tb.Ok t)(hc:Cn.Gd t.cols c)(h:c.name∉t.cols):Cm [t.d,.str c.name]=.ex (nC c.name):=by
 have h1:=Ym hc.nm ht.nms.sub;rw[decide_eq_false h]at h1;have h2:=(Px hc.nm).2.1
 wp_walk using Cm,Lz,Tb.d,Ay,h1,h2
def Jj (cols:List Str)(cs:List Cn):Option Cn:=cs.find? fun c=>!decide (c.name∈cols)
theorem Q3 {t:Tb}(ht:Tb.Ok t):∀(cs:List Cn) (u:Option O),(∀c∈cs,Cn.Gd t.cols c) ->
 Oc (cgN 0) Bv Cm (Ac (Ad 1) (Ac (Ad 0) Aq)) (cs.map fun c=>PyData.str c.name) [u,some (.im t.d)]=(Jj t.cols cs).map fun c=>(nC c.name,[some (.im (.str c.name)),some (.im t.d)])
 | [],_,_=>rfl
 | c::cs,u,h=>by
  rw[List.map_cons];unfold Oc Jj;rw[List.find?_cons]
  by_cases z:c.name∈t.cols
  ·have e:=Z5 ht (h c (.head _)) z
   have ih:=Q3 ht cs (some (.im (.str c.name))) fun x hx=>h x (.tail _ hx)
   rw[decide_eq_true z];unfold Jj at ih
   wp_walk using e,ih,Bool.not_true
  ·have e:=A5l ht (h c (.head _)) z
   rw[decide_eq_false z]
   wp_walk using e,Bool.not_false,Option.map_some
theorem Aw4 {t:Tb}{cs:List Cn}(ht:Tb.Ok t)(hc:∀c∈cs,Cn.Gd t.cols c)(hl:cs.length<=100) :
 Hl [t.d,.list (cs.map fun c=>PyData.str c.name)]=match Jj t.cols cs with
  | some c=>.ex (nC c.name)
  | none=>.ret (.im (.list (cs.map fun c=>PyData.int c.at_))):=by
 have lp:=Q3 ht cs none hc
 have ei:∀s,Cj (Ad 1) [some (.im t.d),some (.im (.list s))]=.ok s [some (.im t.d),some (.im (.list s))]:=fun s=>by wp_walk using Cj
 have hb:(cs.map fun c=>PyData.str c.name).length<=16000000:=by rw[List.length_map];omega
 have eh:∀(vs:List Nat) (f:Ev->SR),Oq [none,some 0] (Cj (Ad 1)) (cgN 0) Bv Cm (Ac (Ad 1) (Ac (Ad 0) Aq)) [] f [some (.im t.d),some (.im (.list (cs.map fun c=>PyData.str c.name)))]=match Jj t.cols cs with
  | some c=>.ex (nC c.name) [some (.im t.d),some (.im (.list (cs.map fun c=>PyData.str c.name)))]
  | none=>.s (f [some (.im t.d),some (.im (.list (cs.map fun c=>PyData.str c.name)))]):=fun vs f=>by
  unfold Oq;rw[ei]
  dsimp only
  rw[if_pos hb,show cIn [none,some 0] [some (.im t.d),some (.im (.list (cs.map fun c=>PyData.str c.name)))]=[none,some (.im t.d)] from rfl,lp]
  cases Jj t.cols cs with
  | some c=>rfl
  | none=>rfl
 cases hbad:Jj t.cols cs with
 | some c =>
  refine Ak3 (c0:=[some (.im t.d),some (.im (.list (cs.map fun c=>PyData.str c.name)))]) (c:=[some (.im t.d),some (.im (.list (cs.map fun c=>PyData.str c.name)))]) rfl rfl ?_
  unfold J0;rw[eh [],hbad]
 | none =>
  have all:∀c∈cs,c.name∈t.cols:=fun c h=>by
   have:=List.find?_eq_none.mp hbad c h
   simpa using this
  obtain⟨cI,e,u,rfl⟩:=Hy (g:=cgN 0) (ft:=Bv) (fe:=cFY Cm (Ac (Ad 1) (Ac (Ad 0) Aq))) (I:=fun c=>∃u,c=[u,some (.im t.d)]) (f:=fun c:Cn=>PyData.str c.name) (G:=fun c=>PyData.int c.at_) (xs:=cs) (acc:=[]) (c:=[none,some (.im t.d)]) ⟨none,rfl⟩
   (fun x c hx hI=>by
    obtain⟨u,rfl⟩:=hI
    refine⟨[some (.im (.str x.name)),some (.im t.d)],?_,_,rfl⟩
    wp_walk using cFY,Z5 ht (hc x hx) (all x hx))
  have e2:cLC [none,some 0] (Cj (Ad 1)) (cgN 0) Bv (cFY Cm (Ac (Ad 1) (Ac (Ad 0) Aq))) [some (.im t.d),some (.im (.list (cs.map fun c=>PyData.str c.name)))]=.ok (.o (.ls false (cs.map fun c=>PyData.int c.at_))) [some (.im t.d),some (.im (.list (cs.map fun c=>PyData.str c.name)))] :=
   Ey (ds:=cs.map fun c=>PyData.str c.name) (c1:=[some (.im t.d),some (.im (.list (cs.map fun c=>PyData.str c.name)))]) (ei _) hb (by simpa[cIn,O.flag] using e) rfl
  refine A8x (c0:=[some (.im t.d),some (.im (.list (cs.map fun c=>PyData.str c.name)))]) (c:=[some (.im t.d),some (.im (.list (cs.map fun c=>PyData.str c.name)))]) (c':=[some (.im t.d),some (.im (.list (cs.map fun c=>PyData.str c.name)))]) (p:=.o (.im (.list (cs.map fun c=>PyData.int c.at_)))) rfl rfl ?_ rfl
  unfold J0;rw[eh [],hbad]
  wp_walk using e2
theorem Aj7 {cs:List Cn}(hl:cs.length<=100):Fb [.im (.list (cs.map Cn.d))]=.ret (.ls false (cs.map fun c=>PyData.str c.name)) [.im (.list (cs.map Cn.d))]:=by
 obtain⟨cI,e,t,rfl⟩:=Hy (g:=cgN 0) (ft:=Bv) (fe:=cOp Ay (Ad 0) (cC (.int 0))) (I:=fun c=>∃t,c=[t]) (f:=Cn.d) (G:=fun c=>PyData.str c.name) (xs:=cs) (acc:=[]) (c:=[none]) ⟨none,rfl⟩
  (fun x c hx hc=>by
   obtain⟨t,rfl⟩:=hc
   refine⟨[some (.im x.d)],?_,_,rfl⟩
   wp_walk using Cn.d,Ay)
 have e2:cLC [none] (Cj (Ad 0)) (cgN 0) Bv (cOp Ay (Ad 0) (cC (.int 0))) [some (.im (.list (cs.map Cn.d)))]=.ok (.o (.ls false (cs.map fun c=>PyData.str c.name))) [some (.im (.list (cs.map Cn.d)))] :=
  Ey (ds:=cs.map Cn.d) (c1:=[some (.im (.list (cs.map Cn.d)))]) (by wp_walk using Cj) (by rw[List.length_map];omega) (by simpa[cIn] using e) rfl
 wp_walk using Fb,M5,e2
theorem Al6 (w:Str):∀ss:List Str,inV (.str w) (ss.map V.str)=decide (w∈ss)
 | []=>rfl
 | s::ss=>by
  show (eqV (.str s) (.str w)||inV (.str w) (ss.map V.str))=_
  rw[Al6 w ss]
  have:eqV (.str s) (.str w)=decide (s=w):=by show (s==w)=_;exact Bool.eq_iff_iff.mpr (by simp)
  rw[this]
  by_cases z:s=w
  ·rw[decide_eq_true z,decide_eq_true (show w∈s::ss by rw[z];exact .head _)];rfl
  ·rw[decide_eq_false z,Bool.false_or]
   refine decide_eq_decide.mpr ⟨fun h=>.tail _ h,fun h=>?_⟩
   rcases List.mem_cons.mp h with h | h
   ·exact absurd h.symm z
   ·exact h
abbrev wds:List Str:=[Str.ofString "is",Str.ofString "not",Str.ofString "below",Str.ofString "above"]
theorem A3u {w:Str}:An6 true wds (.str w)=some (.im (.bool (!decide (w∈words4)))):=by
 show some (O.im (.bool (!inV (.str w) (wds.map V.str))))=_
 have:inV (.str w) (wds.map V.str)=decide (w∈words4):=Al6 w wds;rw[this]
theorem Ti {L:PyData}:∀(cs:List Cn) (u:Option O),∃v:Option O,
 Ys (cgN 1) Dl (cs.map Cn.d) [some (.im L),u]=if (∀c∈cs,c.word∈words4) then .s (.nx [some (.im L),v]) else .ex nW [some (.im L),v]
 | [],u=>⟨u,by rw[if_pos fun c h=>nomatch h];rfl⟩
 | c::cs,u=>by
  have e:=A3u (w:=c.word)
  by_cases z:c.word∈words4
  ·obtain⟨v,ih⟩:=Ti (L:=L) cs (some (.im c.d))
   refine⟨v,?_⟩
   rw[decide_eq_true z]at e
   have eb:Dl [some (.im L),some (.im c.d)]=.s (.nx [some (.im L),some (.im c.d)]):=by
    wp_walk using Dl,Cn.d,Ay,e
   rw[List.map_cons];unfold Ys;have eg:cgN 1 (.o (.im c.d)) [some (.im L),u]=.ok () [some (.im L),some (.im c.d)]:=rfl;simp only[eg,eb,ih]
   by_cases y:∀x∈cs,x.word∈words4
   ·rw[if_pos y,if_pos (fun x hx=>by rcases List.mem_cons.mp hx with rfl | hx;exact z;exact y x hx)]
   ·rw[if_neg y,if_neg (fun q=>y fun x hx=>q x (.tail _ hx))]
  ·refine⟨some (.im c.d),?_⟩
   rw[decide_eq_false z]at e
   have eb:Dl [some (.im L),some (.im c.d)]=.ex nW [some (.im L),some (.im c.d)]:=by
    wp_walk using Dl,Cn.d,Ay,e
   rw[List.map_cons];unfold Ys;have eg:cgN 1 (.o (.im c.d)) [some (.im L),u]=.ok () [some (.im L),some (.im c.d)]:=rfl;simp only[eg,eb]
   rw[if_neg fun q=>z (q c (.head _))]
theorem A5i {cs:List Cn}:Gh [.list (cs.map Cn.d)]=if (∀c∈cs,c.word∈words4) then .ret (.im .none) else .ex nW:=by
 obtain⟨v,e⟩:=Ti (L:=.list (cs.map Cn.d)) cs none
 have ei:Cj (Ad 0) [some (.im (.list (cs.map Cn.d))),none]=.ok (cs.map Cn.d) [some (.im (.list (cs.map Cn.d))),none]:=by wp_walk using Cj
 have e2:Ik [some (.im (.list (cs.map Cn.d))),none]=if (∀c∈cs,c.word∈words4) then .s (.nx [some (.im (.list (cs.map Cn.d))),v]) else .ex nW [some (.im (.list (cs.map Cn.d))),v]:=by
  unfold Ik A8m;rw[ei];exact e
 by_cases y:∀x∈cs,x.word∈words4
 ·rw[if_pos y]at e2 ⊢
  exact A8d rfl rfl e2
 ·rw[if_neg y]at e2 ⊢
  exact Ak3 rfl rfl e2
def Aj5 (r:List Vl)(c:Cn):Vl:=(r[c.at_]?).getD .non
def Ay9 (r:List Vl)(cs:List Cn):Bool:=cs.all fun c=>Nx c.word (Aj5 r c) c.val
theorem A6t {cols:List Str}{r:List Vl}{c:Cn}(hc:Cn.Ok cols c)(hr:r.length=cols.length)(hv:VBs r):atI (r.map Vl.d) (c.at_:Int)=some (Aj5 r c).d/\VB (Aj5 r c):=by
 have hl:c.at_<r.length:=by rw[hr];exact(List.getElem?_eq_some_iff.mp hc.nm).1
 have e:Aj5 r c=r[c.at_]:=by unfold Aj5;rw[List.getElem?_eq_getElem hl];rfl
 rw[e]
 exact⟨Gf (by rw[List.getElem?_map,List.getElem?_eq_getElem hl];rfl),hv _ (List.getElem_mem hl)⟩
theorem Ao1 {α:Type}(f g:α->PyData):∀l:List α,Ho (l.map f) (l.map g)=l.map fun x=>.tuple [f x,g x]
 | []=>rfl
 | x::l=>by
  have:=Ao1 f g l;unfold Ho at this ⊢;rw[List.map_cons,List.map_cons,List.zip_cons_cons,List.map_cons,this];rfl
theorem Nr {α:Type}(F:α->Bool):∀xs:List α,boolsOf (xs.map fun x=>PyData.bool (F x))=some (xs.map F)
 | []=>rfl
 | x::xs=>by show (boolsOf (xs.map fun x=>PyData.bool (F x))).map (F x::·)=_;rw[Nr F xs];rfl
theorem Ag4 {α:Type}(F:α->Bool)(xs:List α):Wf (.list (xs.map fun x=>PyData.bool (F x)))=some (.im (.bool (xs.all F))):=by
 show (boolsOf (xs.map fun x=>PyData.bool (F x))).map _=_
 rw[Nr F,Option.map_some,List.all_map];rfl
theorem Ab3 {cols:List Str}{r:List Vl}{cs:List Cn}(hc:∀c∈cs,Cn.Ok cols c)(hr:r.length=cols.length)(hv:VBs r)(hl:cs.length<=100) :
 Et [.im (tD r),.im (.list (cs.map fun c=>PyData.int c.at_)),.im (.list (cs.map Cn.d))]=.ret (.im (.bool (Ay9 r cs))) [.im (tD r),.im (.list (cs.map fun c=>PyData.int c.at_)),.im (.list (cs.map Cn.d))]:=by
 obtain⟨cI,e,u,v,rfl⟩:=Hy (g:=cgT 2 (Av (cgN 0) (Av (cgN 1) Do))) (ft:=Bv) (fe:=cF Fd (Ac (cOp Ay (Ad 2) (Ad 0)) (Ac (cOp Ay (Ad 1) (cC (.int 1))) (Ac (cOp Ay (Ad 1) (cC (.int 2))) Aq)))) (I:=fun c=>∃u v,c=[u,v,some (.im (tD r))]) (f:=fun c:Cn=>PyData.tuple [.int c.at_,c.d]) (G:=fun c=>PyData.bool (Nx c.word (Aj5 r c) c.val)) (xs:=cs) (acc:=[]) (c:=[none,none,some (.im (tD r))]) ⟨none,none,rfl⟩
  (fun x c hx hI=>by
   obtain⟨u,v,rfl⟩:=hI;obtain⟨e1,vb⟩:=A6t (hc x hx) hr hv;have e2:=A4a vb (hc x hx).vb (hc x hx).wd
   refine⟨[some (.im (.int x.at_)),some (.im x.d),some (.im (tD r))],?_,_,_,rfl⟩
   wp_walk using Cn.d,tD,Ay,e1,e2)
 have e2:cLC [none,none,some 0] (Qu (Ad 1) (Ad 2)) (cgT 2 (Av (cgN 0) (Av (cgN 1) Do))) Bv (cF Fd (Ac (cOp Ay (Ad 2) (Ad 0)) (Ac (cOp Ay (Ad 1) (cC (.int 1))) (Ac (cOp Ay (Ad 1) (cC (.int 2))) Aq)))) [some (.im (tD r)),some (.im (.list (cs.map fun c=>PyData.int c.at_))),some (.im (.list (cs.map Cn.d)))]=.ok (.o (.ls false (cs.map fun c=>PyData.bool (Nx c.word (Aj5 r c) c.val)))) [some (.im (tD r)),some (.im (.list (cs.map fun c=>PyData.int c.at_))),some (.im (.list (cs.map Cn.d)))] :=
  Ey (ds:=cs.map fun c:Cn=>PyData.tuple [.int c.at_,c.d]) (c1:=[some (.im (tD r)),some (.im (.list (cs.map fun c=>PyData.int c.at_))),some (.im (.list (cs.map Cn.d)))]) (by wp_walk using Qu,Rp,Ao1) (by rw[List.length_map];omega) (by simpa[cIn,O.flag] using e) rfl
 wp_walk using Et,Rh,e2,Ag4,Ay9
def Ma (rows:List (List Vl))(cs:List Cn):List PyData:=(List.range rows.length).filterMap fun k=>if Ay9 (rows.getD k []) cs then some (PyData.int k) else none
theorem A4d (rows:List (List Vl)):Ui (rows.map tD)=(List.range rows.length).map fun k:Nat=>PyData.tuple [.int k,tD (rows.getD k [])]:=by
 unfold Ui;rw[List.length_map]
 refine List.map_congr_left fun k hk=>?_
 have hk:=List.mem_range.mp hk;rw[List.getD_eq_getElem?_getD,List.getD_eq_getElem?_getD,List.getElem?_map,List.getElem?_eq_getElem hk];rfl
def Av4 (cols:List Str)(cs:List Cn)(L:List PyData):XF:=match Jj cols cs with
 | some c=>.ex (nC c.name)
 | none=>if (∀c∈cs,c.word∈words4) then .ret (.im (.list L)) else .ex nW
theorem Ag0 {cols:List Str}{cs:List Cn}(h:Jj cols cs=none):∀c∈cs,c.name∈cols:=fun c hc=>by
 have:=List.find?_eq_none.mp h c hc
 simpa using this
theorem M6 {t:Tb}{cs:List Cn}(ht:Tb.Ok t)(hc:∀c∈cs,Cn.Gd t.cols c)(hl:cs.length<=100) :
 Bm [t.d,.list (cs.map Cn.d)]=Av4 t.cols cs (Ma t.rows cs):=by
 have h24:=ht.rlen;have e1:=Aj7 (cs:=cs) hl;have e2:=Aw4 ht hc hl;have e3:=A5i (cs:=cs);unfold Av4
 cases hb:Jj t.cols cs with
 | some c =>
  rw[hb]at e2
  wp_walk using Bm,G3,e1,e2
 | none =>
 rw[hb]at e2
 dsimp only at e2 ⊢
 by_cases y:∀c∈cs,c.word∈words4
 ·rw[if_pos y]at e3 ⊢
  have hk:∀c∈cs,Cn.Ok t.cols c:=fun c h=>(hc c h).ok (Ag0 hb c h) (y c h)
  obtain⟨cI,e,u,v,rfl⟩:=Jy (g:=cgT 2 (Av (cgN 0) (Av (cgN 1) Do))) (ft:=Az (cF Et (Ac (Ad 1) (Ac (Ad 2) (Ac (Ad 3) Aq))))) (fe:=Ad 0) (I:=fun c=>∃u v,c=[u,v,some (.im (.list (cs.map fun c=>PyData.int c.at_))),some (.im (.list (cs.map Cn.d)))]) (f:=fun k:Nat=>PyData.tuple [.int k,tD (t.rows.getD k [])]) (G:=fun k=>if Ay9 (t.rows.getD k []) cs then some (PyData.int k) else none) (xs:=List.range t.rows.length) (acc:=[]) (c:=[none,none,some (.im (.list (cs.map fun c=>PyData.int c.at_))),some (.im (.list (cs.map Cn.d)))]) ⟨none,none,rfl⟩
   (fun k c hk' hI=>by
    obtain⟨u,v,rfl⟩:=hI;have hk':=List.mem_range.mp hk'
    have er:t.rows.getD k []=t.rows[k]:=by rw[List.getD_eq_getElem?_getD,List.getElem?_eq_getElem hk'];rfl
    have h:=ht.rows _ (List.getElem_mem hk');rw[er];have e1:=Ab3 hk h.1 h.2 hl
    refine⟨[some (.im (.int k)),some (.im (tD t.rows[k])),some (.im (.list (cs.map fun c=>PyData.int c.at_))),some (.im (.list (cs.map Cn.d)))],?_,_,_,rfl⟩
    cases ha:Ay9 t.rows[k] cs with
    | true =>
     rw[ha]at e1
     wp_walk using e1
    | false =>
     rw[ha]at e1
     wp_walk using e1)
  have e4:cLC [none,none,some 2,some 1] (Am5 (cOp Ay (Ad 0) (cC (.int 1)))) (cgT 2 (Av (cgN 0) (Av (cgN 1) Do))) (Az (cF Et (Ac (Ad 1) (Ac (Ad 2) (Ac (Ad 3) Aq))))) (Ad 0) [some (.im t.d),some (.im (.list (cs.map Cn.d))),some (.im (.list (cs.map fun c=>PyData.int c.at_)))]=.ok (.o (.ls false (Ma t.rows cs))) [some (.im t.d),some (.im (.list (cs.map Cn.d))),some (.im (.list (cs.map fun c=>PyData.int c.at_)))] :=
   Ey (ds:=(List.range t.rows.length).map fun k:Nat=>PyData.tuple [.int k,tD (t.rows.getD k [])]) (c1:=[some (.im t.d),some (.im (.list (cs.map Cn.d))),some (.im (.list (cs.map fun c=>PyData.int c.at_)))]) (by wp_walk using Am5,Tb.d,Ay,Rp,A4d) (by rw[List.length_map,List.length_range];omega) (by simpa[cIn,O.flag,Ma] using e) rfl
  wp_walk using Bm,G3,e1,e2,e3,e4
 ·rw[if_neg y]at e3 ⊢
  wp_walk using Bm,G3,e1,e2,e3
abbrev Tri:=List Vl×List Vl×Option (List Vl)
def Wd.told (w:Wd):List Tri:=w.along.filter fun t=>t.2.2.isSome
def prD (t:Tri):PyData:=.tuple [tD t.1,tD t.2.1]
theorem A3m (l:List Tri):(l.filterMap fun t=>if t.2.2.isSome then some (prD t) else none)=(l.filter fun t=>t.2.2.isSome).map prD:=by
 induction l with
 | nil=>rfl
 | cons t r ih =>
  cases h:t.2.2.isSome with
  | true=>rw[List.filterMap_cons,List.filter_cons];simp only[h,if_true];rw[ih];rfl
  | false=>rw[List.filterMap_cons,List.filter_cons];simp only[h];rw[ih];rfl
theorem A3i (l:List Tri):(l.filter fun t=>t.2.2.isSome).length=(l.filterMap Ac7).length:=by
 induction l with
 | nil=>rfl
 | cons t r ih =>
  cases h:t.2.2 with
  | none =>
   have e1:Ac7 t=none:=by unfold Ac7;rw[h];rfl
   rw[List.filterMap_cons,e1,List.filter_cons,h];simpa using ih
  | some c =>
   have e1:Ac7 t=some (t.1++t.2.1++c):=by unfold Ac7;rw[h];rfl
   rw[List.filterMap_cons,e1,List.filter_cons,h];simp only[Option.isSome_some,if_true,List.length_cons];rw[ih]
def A4z (rows:List (List Vl))(cs:List Cn):List Nat:=(List.range rows.length).filter fun k=>Ay9 (rows.getD k []) cs
theorem Ay4 {α β:Type}(p:α->Bool)(f:α->β)(l:List α):(l.filterMap fun k=>if p k then some (f k) else none)=(l.filter p).map f:=by
 induction l with
 | nil=>rfl
 | cons a r ih =>
  cases h:p a with
  | true=>rw[List.filterMap_cons,List.filter_cons];simp only[h,if_true];rw[ih];rfl
  | false=>rw[List.filterMap_cons,List.filter_cons];simp only[h];rw[ih];rfl
theorem A1a (rows:List (List Vl))(cs:List Cn):Ma rows cs=(A4z rows cs).map fun k:Nat=>PyData.int k:=Ay4 _ _ _
def dfl:Tri:=([],[],none)
def Qt (w:Wd)(cs:List Cn):List PyData:=(A4z w.out cs).map fun k=>prD (w.told.getD k dfl)
theorem A2b {w:Wd}(h:w.Ok){s1 s2:Option O}:cLC [none,none,none] (Cj (cF Dg (Ac (Ad 0) Aq))) (cgT 3 (Av (cgN 0) (Av (cgN 1) (Av (cgN 2) Do)))) (Az (cOp (Fv true) (Ad 2) (cC (.none)))) (G8 (Ac (Ad 0) (Ac (Ad 1) Aq))) [some (.im w.d),s1,s2]=.ok (.o (.ls false (w.told.map prD))) [some (.im w.d),s1,s2]:=by
 have l1:=h.hlen;have l2:=h.rlen;have l3:=Mg h
 obtain⟨cI,e,a,b,c,rfl⟩:=Jy (g:=cgT 3 (Av (cgN 0) (Av (cgN 1) (Av (cgN 2) Do)))) (ft:=Az (cOp (Fv true) (Ad 2) (cC (.none)))) (fe:=G8 (Ac (Ad 0) (Ac (Ad 1) Aq))) (I:=fun c=>∃x y z,c=[x,y,z]) (f:=Jg) (G:=fun t=>if t.2.2.isSome then some (prD t) else none) (xs:=w.along) (acc:=[]) (c:=[none,none,none]) ⟨none,none,none,rfl⟩
  (fun t c ht hI=>by
   obtain⟨x,y,z,rfl⟩:=hI;obtain⟨p,hd,o⟩:=t
   refine⟨[some (.im (tD p)),some (.im (tD hd)),some (.im (Eb o))],?_,_,_,_,rfl⟩
   cases o with
   | none=>wp_walk using Jg,Eb,Al3,Option.isSome_none
   | some v=>wp_walk using Jg,Eb,Bb1,prD)
 rw[List.nil_append,A3m]at e
 exact Ey (ds:=w.along.map Jg) (c1:=[some (.im w.d),s1,s2]) (by wp_walk using Cj,Lj (w:=w) (by omega) (by omega)) (by rw[List.length_map];omega) e rfl
theorem Uv {w:Wd}{cs:List Cn}(h:w.Ok)(hc:∀c∈cs,Cn.Gd w.tb.cols c)(hl:cs.length<=100) :
 Cr [w.d,.list (cs.map Cn.d)]=Av4 w.tb.cols cs (Qt w cs):=by
 have e1:=A2b h (s1:=some (.im (.list (cs.map Cn.d)))) (s2:=none);have er:=M6 (Wd.tb_ok h) hc hl
 rw[show Ma w.tb.rows cs=(A4z w.out cs).map fun k:Nat=>PyData.int k from A1a _ _]at er
 have eu:=Q9 h;rw[Wd.tb_d]at eu;have lo:=Am8 h;have lt:w.told.length=w.out.length:=A3i w.along;unfold Av4 at er ⊢
 cases hb:Jj w.tb.cols cs with
 | some c =>
  rw[hb]at er
  wp_walk using Cr,Gg,Ql,e1,eu,er,List.all_nil
 | none =>
 rw[hb]at er
 dsimp only at er ⊢
 by_cases y:∀c∈cs,c.word∈words4
 ·rw[if_pos y]at er ⊢
  obtain⟨cI,e,a,rfl⟩:=Hy (g:=cgN 0) (ft:=Bv) (fe:=cOp Ay (Ad 1) (Ad 0)) (I:=fun c=>∃u,c=[u,some (.ls true (w.told.map prD))]) (f:=fun k:Nat=>PyData.int k) (G:=fun k=>prD (w.told.getD k dfl)) (xs:=A4z w.out cs) (acc:=[]) (c:=[none,some (.ls true (w.told.map prD))]) ⟨none,rfl⟩
   (fun k c hk hI=>by
    obtain⟨u,rfl⟩:=hI
    have hk:k<w.told.length:=by rw[lt];exact List.mem_range.mp (List.mem_filter.mp hk).1
    have ea:atI (w.told.map prD) (k:Int)=some (prD (w.told.getD k dfl)):=Gf (by rw[List.getElem?_map,List.getElem?_eq_getElem hk,List.getD_eq_getElem?_getD,List.getElem?_eq_getElem hk];rfl)
    refine⟨[some (.im (.int k)),some (.ls true (w.told.map prD))],?_,_,rfl⟩
    wp_walk using Ay,ea)
  have e2:cLC [none,some 2] (Cj (cFY Bm (Ac (cF Ei (Ac (Ad 0) Aq)) (Ac (Ad 1) Aq)))) (cgN 0) Bv (cOp Ay (Ad 1) (Ad 0)) [some (.im w.d),some (.im (.list (cs.map Cn.d))),some (.ls false (w.told.map prD))]=.ok (.o (.ls false (Qt w cs))) [some (.im w.d),some (.im (.list (cs.map Cn.d))),some (.ls false (w.told.map prD))] :=
   Ey (ds:=(A4z w.out cs).map fun k:Nat=>PyData.int k) (c1:=[some (.im w.d),some (.im (.list (cs.map Cn.d))),some (.ls false (w.told.map prD))]) (by wp_walk using Cj,cFY,eu,er) (by rw[List.length_map];exact Nat.le_trans (List.length_filter_le _ _) (by rw[List.length_range];omega)) (by simpa[cIn,O.flag,Qt] using e) (by wp_walk using true_and)
  wp_walk using Cr,Gg,Ql,e1,eu,er,e2
 ·rw[if_neg y]at er ⊢
  wp_walk using Cr,Gg,Ql,e1,eu,er,List.all_nil
theorem Pg   : Dc neg (.int a) (.int b)=some (.im (.bool (if neg then !decide (a=b) else decide (a=b)))):=by
 have e:PyData.eqv (.int a) (.int b)=decide (a=b):=by
  show (a==b)=_
  grind
 unfold Dc
 rw[show Cq _=true from rfl,show Cq _=true from rfl,e]
 simp
theorem Good.two {a b:PyData}{n w1 w2:Nat}(ha:Good a n w1)(hb:Good b n w2):Good (.list [a,b]) (n+1) (w1+w2+8):=by
 refine⟨?_,?_,?_,?_,?_⟩
 ·show (a.canLay0&&(b.canLay0&&true))=true;rw[ha.lay,hb.lay];rfl
 ·show (a.showable&&(b.showable&&true))=true;rw[ha.shw,hb.shw];rfl
 ·show (a.hasDict||(b.hasDict||false))=false;rw[ha.dct,hb.dct];rfl
 ·show max a.depth (max b.depth 0)+1<=n+1;have:=ha.dep;have:=hb.dep;omega
 ·show wt a+2+(wt b+2+0)+4<=w1+w2+8;have:=ha.wgt;have:=hb.wgt;omega
theorem Ax9 {α:Type}(F:α->Bool)(xs:List α):A3g (.list (xs.map fun x=>PyData.bool (F x)))=some (.im (.bool (xs.any F))):=by
 show (boolsOf (xs.map fun x=>PyData.bool (F x))).map _=_
 rw[Nr F,Option.map_some,List.any_map];rfl
theorem A4c {x:Str}(h:x∈names12):x∈allNm:=List.mem_append_left _ h
theorem A4s:(names12.all fun x=>decide (x.length<=100)&&decide ((Txt.upper x).length<=100))=true:=by decide +kernel
theorem Bl9 {x:Str}(h:x∈names12):Bw (.str x) (.str "x")=some (.im (.str (x++Str.ofString "x")))/\A3c (.str x)=some (.im (.str (Txt.upper x))):=by
 have:=List.all_eq_true.mp A4s x h;simp only[Bool.and_eq_true,decide_eq_true_eq]at this
 constructor
 ·show (if x.length+(Str.ofString "x").length<=16000000 then some (O.im (.str (x++Str.ofString "x"))) else none)=_
  rw[if_pos (by
   have:(Str.ofString "x").length=1:=by decide +kernel
   omega)]
 ·show (if (Txt.upper x).length<=16000000 then some (O.im (.str (Txt.upper x))) else none)=_
  rw[if_pos (by omega)]
def six (x:Str):List Str:=[Str.ofString "no",Str.ofString "",Str.ofString "rows",Str.ofString "A",x++Str.ofString "x",Txt.upper x]
theorem A8v {x y:Str}(h:x∈names12)(hy:y∈six x):y∈allNm:=by
 unfold six at hy;unfold allNm;simp only[List.mem_cons,List.not_mem_nil,or_false]at hy
 refine List.mem_append_right _ ?_
 rcases hy with rfl | rfl | rfl | rfl | rfl | rfl
 ·exact List.mem_append_left _ (.head _)
 ·exact List.mem_append_left _ (.tail _ (.head _))
 ·exact List.mem_append_left _ (.tail _ (.tail _ (.head _)))
 ·exact List.mem_append_left _ (.tail _ (.tail _ (.tail _ (.head _))))
 ·exact List.mem_append_right _ (List.mem_append_left _ (List.mem_map.mpr ⟨x,h,rfl⟩))
 ·exact List.mem_append_right _ (List.mem_append_right _ (List.mem_map.mpr ⟨x,h,rfl⟩))
def nine:List Str:=[Str.ofString "like",Str.ofString "",Str.ofString "Is",Str.ofString "is ",Str.ofString "=",Str.ofString "least",Str.ofString "all",Str.ofString "belo",Str.ofString "below is"]
abbrev Ae8:Ev->SR:=cIf (Az (cOp (Dc false) (cF Ak (Ac (Ad 0) (Ac (cC (.int 5)) Aq))) (cC (.int 0)))) (Di (cOp Ay (Hg (Ac (cC (.str "no")) (Ac (cC (.str "")) (Ac (cC (.str "rows")) (Ac (cC (.str "A")) (Ac (cOp Bw (Ad 2) (cC (.str "x"))) (Ac (cUn A3c (Ad 2)) Aq))))))) (cF Ak (Ac (Ad 0) (Ac (cC (.int 6)) Aq)))) (cgN 2)) Cv
abbrev Ag6:Ev->SR:=cIf (Az (cOp (Dc false) (cF Ak (Ac (Ad 0) (Ac (cC (.int 5)) Aq))) (cC (.int 0)))) (Di (cOp Ay (Hg (cK [.str "like",.str "",.str "Is",.str "is ",.str "=",.str "least",.str "all",.str "belo",.str "below is"])) (cF Ak (Ac (Ad 0) (Ac (cC (.int 9)) Aq)))) (cgN 3)) Cv
theorem Ax7 {n:Nat}{ds:List PyData}{o1 s3:Option O}{x:Str}(hb:Bx n ds)(hn:n<2 ^ 38)(hx:x∈names12):∃(y:Str) (d1:List PyData),Bx (n+2) d1/\y∈allNm/\Ae8 [some (.ls true ds),o1,some (.im (.str x)),s3]=.nx [some (.ls true d1),o1,some (.im (.str y)),s3]:=by
 obtain⟨a,d1,b1,a0,a1,e1⟩:=Cg (m:=5) hb (by omega) (by decide) (by decide)
 by_cases z:a=0
 ·subst z
  obtain⟨r,d2,b2,r0,r1,e2⟩:=Cg (m:=6) b1 (by omega) (by decide) (by decide)
  obtain⟨y,hy,hm,_⟩:=Lg (l:=(six x).map PyData.str) (r:=r) r0 r1;obtain⟨y,hy',rfl⟩:=List.mem_map.mp hm;obtain⟨h1,h2⟩:=Bl9 hx
  refine⟨y,d2,b2,A8v hx hy',?_⟩
  simp only[six,List.map_cons,List.map_nil]at hy
  wp_walk using Ae8,e1,Pg,h1,h2,e2,Ay,hy,decide_true
 ·refine⟨x,d1,b1.mono (by omega),A4c hx,?_⟩
  wp_walk using Ae8,e1,Pg,decide_eq_false z
theorem Aw6 {n:Nat}{ds:List PyData}{o1 s2:Option O}{x:Str}(hb:Bx n ds)(hn:n<2 ^ 38)(hx:x∈words4):∃(y:Str) (d1:List PyData),Bx (n+2) d1/\y∈allWd/\Ag6 [some (.ls true ds),o1,s2,some (.im (.str x))]=.nx [some (.ls true d1),o1,s2,some (.im (.str y))]:=by
 obtain⟨a,d1,b1,a0,a1,e1⟩:=Cg (m:=5) hb (by omega) (by decide) (by decide)
 by_cases z:a=0
 ·subst z
  obtain⟨r,d2,b2,r0,r1,e2⟩:=Cg (m:=9) b1 (by omega) (by decide) (by decide)
  obtain⟨y,hy,hm,_⟩:=Lg (l:=nine.map PyData.str) (r:=r) r0 r1;obtain⟨y,hy',rfl⟩:=List.mem_map.mp hm
  refine⟨y,d2,b2,List.mem_append_right _ hy',?_⟩
  simp only[nine,List.map_cons,List.map_nil]at hy
  wp_walk using Ag6,e1,Pg,e2,Ay,hy,decide_true
 ·refine⟨x,d1,b1.mono (by omega),List.mem_append_left _ hx,?_⟩
  wp_walk using Ag6,e1,Pg,decide_eq_false z
theorem A3s {x:Str}:∀{cols:List Str},x∈cols->cols[(Kz x cols).getD 0]?=some x
 | [],h=>by cases h
 | y::r,h=>by
  unfold Kz
  by_cases e:y=x
  ·rw[if_pos (by simpa using e)];simp[e]
  ·rw[if_neg (by simpa using e)]
   have hr:x∈r:=by
    rcases List.mem_cons.mp h with h | h
    ·exact absurd h.symm e
    ·exact h
   have:=A3s hr
   cases q:Kz x r with
   | none=>
    rw
     [q]at this;exact absurd q (by
     intro q
     have:∀{l:List Str},x∈l->Kz x l≠none:=fun {l}=>by
      induction l with
      | nil=>intro h;cases h
      | cons a l ih =>
       intro h;unfold Kz
       by_cases e:a=x
       ·rw[if_pos (by simpa using e)];simp
       ·rw[if_neg (by simpa using e)]
        rcases List.mem_cons.mp h with h | h
        ·exact absurd h.symm e
        ·intro y
         cases w:Kz x l with
         | none=>exact ih h w
         | some j=>rw[w]at y;cases y
     exact this hr q)
   | some j=>rw[q]at this;simpa using this
theorem Yz {n:Nat}{ds:List PyData}{t:Tb}(ht:Tb.Ok t)(hb:Bx n ds)(hn:n<2 ^ 37) :
 ∃(c:Cn) (d1:List PyData),Cn.Gd t.cols c/\Bx (n+10) d1/\Ec [.ls true ds,.im (.tuple (t.cols.map PyData.str))]=.ret (.im c.d) [.ls true d1,.im (.tuple (t.cols.map PyData.str))]:=by
 have h2:=ht.cpos;have h12:=ht.clen
 obtain⟨a,d1,b1,a0,a1,e1⟩:=Cg (m:=(t.cols.length:Int)) hb (by omega) (by omega) (by omega)
 obtain⟨k,rfl⟩:=Int.eq_ofNat_of_zero_le a0
 have hk:k<t.cols.length:=by omega
 obtain⟨w,d2,b2,w0,w1,e2⟩:=Cg (m:=4) b1 (by omega) (by decide) (by decide)
 obtain⟨wd,hw,hwm,_⟩:=Lg (l:=words4.map PyData.str) (r:=w) w0 w1;obtain⟨wd,hwd,rfl⟩:=List.mem_map.mp hwm;have hx:t.cols[k]∈names12:=ht.nms.sub _ (List.getElem_mem hk)
 obtain⟨y,d3,b3,hy,e3⟩:=Ax7 (o1:=some (.im (.tuple (t.cols.map PyData.str)))) (s3:=some (.im (.str wd))) b2 (by omega) hx
 obtain⟨z,d4,b4,hz,e4⟩:=Aw6 (o1:=some (.im (.tuple (t.cols.map PyData.str)))) (s2:=some (.im (.str y))) b3 (by omega) hwd
 obtain⟨v,d5,b5,vv,e5⟩:=S5 b4 (by omega)
 refine⟨⟨(Kz y t.cols).getD 0,y,z,v⟩,d5,⟨hy,hz,vv,fun h=>A3s h⟩,b5.mono (by omega),?_⟩
 have eN:atI (t.cols.map PyData.str) (k:Int)=some (.str t.cols[k]):=Gf (by rw[List.getElem?_map,List.getElem?_eq_getElem hk];rfl)
 have eLc:M3 [.tuple (t.cols.map PyData.str)]=some (.im (.int t.cols.length)):=by show some (O.im (.int ((t.cols.map PyData.str).length:Nat)))=_;rw[List.length_map]
 simp only[words4,List.map_cons,List.map_nil]at hw
 refine Ny (p:=.o (.im (Cn.d ⟨(Kz y t.cols).getD 0,y,z,v⟩))) (c:=[some (.ls true d5),some (.im (.tuple (t.cols.map PyData.str))),some (.im (.str y)),some (.im (.str z))]) ?_ rfl (by wp_walk using true_and)
 show Hv [some (.ls true ds),some (.im (.tuple (t.cols.map PyData.str))),none,none]=_
 unfold Hv
 refine (Dh (c':=[some (.ls true d1),some (.im (.tuple (t.cols.map PyData.str))),some (.im (.str t.cols[k])),none]) (by wp_walk using eLc,e1,Ay,eN)).trans ?_
 refine (Dh (c':=[some (.ls true d2),some (.im (.tuple (t.cols.map PyData.str))),some (.im (.str t.cols[k])),some (.im (.str wd))]) (by wp_walk using e2,Ay,hw)).trans ?_
 refine (Dh e3).trans ?_
 refine (Dh e4).trans ?_
 wp_walk using e5,Cn.d
def Lw (cols:List Str)(cs:List Cn):PyData:=match Jj cols cs with
 | some c=>.tuple [.str "refused",.int 1,.str c.name]
 | none=>if (∀c∈cs,c.word∈words4) then .none else .tuple [.str "refused",.int 2,.none]
def Sy (cols:List Str)(cs:List Cn):List PyData:=cs.filterMap fun c=>if decide (c.name∈cols)=true then none else some (PyData.str c.name)
theorem Ao0 {cols:List Str}:∀{cs:List Cn},Jj cols cs=none->Sy cols cs=[]
 | [],_=>rfl
 | c::cs,h=>by
  have a:=Ag0 h c (.head _)
  have ih:=Ao0 (cols:=cols) (cs:=cs) (List.find?_eq_none.mpr fun x hx=>by simpa using Ag0 h x (.tail _ hx))
  unfold Sy at ih ⊢;rw[List.filterMap_cons,if_pos (decide_eq_true a)];exact ih
theorem Zt {cols:List Str}{c:Cn}:∀{cs:List Cn},Jj cols cs=some c->∃r,Sy cols cs=.str c.name::r
 | [],h=>by cases h
 | x::cs,h=>by
  unfold Jj at h;rw[List.find?_cons]at h;unfold Sy;rw[List.filterMap_cons]
  by_cases z:x.name∈cols
  ·rw[decide_eq_true z]at h ⊢
   obtain⟨r,e⟩:=Zt (cols:=cols) (c:=c) (cs:=cs) h;exact⟨r,e⟩
  ·rw[decide_eq_false z]at h ⊢
   cases h
   exact⟨_,rfl⟩
theorem Bi2 {x:Str}(h:VB (.str x)):Good (.str x) 0 1921:=Hm h
theorem At0 {cols:List Str}{cs:List Cn}(hc:∀c∈cs,Cn.Gd cols c)(hl:cs.length<=4):Good (.list (Sy cols cs)) 1 10000:=by
 refine (Good.lst (n:=0) (w:=1921) (k:=4) (fun d hd=>?_) (Nat.le_trans (List.length_filterMap_le _ _) hl)).mono (by decide) (by decide)
 obtain⟨c,h1,h2⟩:=List.mem_filterMap.mp hd
 split at h2
 ·cases h2
 ·cases h2;exact Bi2 (Px (hc c h1).nm).2.2
theorem Bg0 {w:Str}(h:w∈allWd):K1 true (.str w) (.tuple [.str "is",.str "not",.str "below",.str "above"])=some (.im (.bool (!decide (w∈words4)))):=by
 show (if Cq (.str w)&&PyData.canLayAll0 (words4.map PyData.str) then some (O.im (.bool (!((words4.map PyData.str).any fun e=>PyData.eqv e (.str w))))) else none)=_
 rw[show Cq (.str w)=true from List.all_eq_true.mp (show allWd.all (fun x=>Cq (.str x))=true by decide +kernel) w h,show PyData.canLayAll0 (words4.map PyData.str)=true by decide +kernel,Ul]
 rfl
theorem Bh4 {t:Tb}{cs:List Cn}(ht:Tb.Ok t)(hc:∀c∈cs,Cn.Gd t.cols c)(hl:cs.length<=4) :
 Hx [.im (.tuple (t.cols.map PyData.str)),.im (.list (cs.map Cn.d))]=.ret (.im (Lw t.cols cs)) [.im (.tuple (t.cols.map PyData.str)),.im (.list (cs.map Cn.d))]:=by
 obtain⟨cI,e,u,v,x,rfl⟩:=Jy (g:=cgT 3 (Av (cgN 0) (Av (cgN 1) (Av (cgN 2) Do)))) (ft:=Az (cOp (K1 true) (Ad 0) (Ad 3))) (fe:=Ad 0) (I:=fun c=>∃u v x,c=[u,v,x,some (.im (.tuple (t.cols.map PyData.str)))]) (f:=Cn.d) (G:=fun c=>if decide (c.name∈t.cols)=true then none else some (PyData.str c.name)) (xs:=cs) (acc:=[]) (c:=[none,none,none,some (.im (.tuple (t.cols.map PyData.str)))]) ⟨none,none,none,rfl⟩
  (fun c ev hx hI=>by
   obtain⟨u,v,x,rfl⟩:=hI;have h1:=Ym (hc c hx).nm ht.nms.sub
   refine⟨[some (.im (.str c.name)),some (.im (.str c.word)),some (.im c.val.d),some (.im (.tuple (t.cols.map PyData.str)))],?_,_,_,_,rfl⟩
   cases q:decide (c.name∈t.cols) with
   | true =>
    rw[q]at h1
    wp_walk using Cn.d,h1
   | false =>
    rw[q]at h1
    wp_walk using Cn.d,h1)
 have ei:∀s:Option O,Cj (Ad 1) [some (.im (.tuple (t.cols.map PyData.str))),some (.im (.list (cs.map Cn.d))),s]=.ok (cs.map Cn.d) [some (.im (.tuple (t.cols.map PyData.str))),some (.im (.list (cs.map Cn.d))),s]:=fun s=>by wp_walk using Cj
 have hb:(cs.map Cn.d).length<=16000000:=by rw[List.length_map];omega
 have e2:cLC [none,none,none,some 0] (Cj (Ad 1)) (cgT 3 (Av (cgN 0) (Av (cgN 1) (Av (cgN 2) Do)))) (Az (cOp (K1 true) (Ad 0) (Ad 3))) (Ad 0) [some (.im (.tuple (t.cols.map PyData.str))),some (.im (.list (cs.map Cn.d))),none]=.ok (.o (.ls false (Sy t.cols cs))) [some (.im (.tuple (t.cols.map PyData.str))),some (.im (.list (cs.map Cn.d))),none] :=
  Ey (ds:=cs.map Cn.d) (c1:=[some (.im (.tuple (t.cols.map PyData.str))),some (.im (.list (cs.map Cn.d))),none]) (ei none) hb (by simpa[cIn,O.flag,Sy] using e) rfl
 have g:=At0 hc hl
 have gn:Good (.list []) 1 10000:=(Good.lst (ds:=[]) (n:=0) (w:=0) (k:=0) (fun d (hd:d∈[])=>nomatch hd) (Nat.le_refl _)).mono (by decide) (by decide)
 have e3:=V5 (neg:=true) g gn (by decide) (by decide)
 unfold Lw
 cases hbad:Jj t.cols cs with
 | some c =>
  obtain⟨r,er⟩:=Zt hbad;rw[er]at e2 e3;have e3:Dc true (.list (.str c.name::r)) (.list [])=some (.im (.bool true)):=e3
  have e4:Ay (.list (.str c.name::r)) (.int 0)=some (.im (.str c.name)):=by
   show (atI (PyData.str c.name::r) 0).map O.im=_
   have:atI (PyData.str c.name::r) ((0:Nat):Int)=some (.str c.name):=Gf rfl
   rw[show (0:Int)=((0:Nat):Int) from rfl,this];rfl
  wp_walk using Hx,Oa,e2,e3,e4
 | none =>
  rw[Ao0 hbad]at e2 e3;have e3:Dc true (.list []) (.list [])=some (.im (.bool false)):=e3
  obtain⟨cI,e5,u,v,x,rfl⟩:=Hy (g:=cgT 3 (Av (cgN 0) (Av (cgN 1) (Av (cgN 2) Do)))) (ft:=Bv) (fe:=cOp (K1 true) (Ad 1) (G8 (cK [.str "is",.str "not",.str "below",.str "above"]))) (I:=fun c=>∃u v x,c=[u,v,x]) (f:=Cn.d) (G:=fun c=>PyData.bool (!decide (c.word∈words4))) (xs:=cs) (acc:=[]) (c:=[none,none,none]) ⟨none,none,none,rfl⟩
   (fun c ev hx hI=>by
    obtain⟨u,v,x,rfl⟩:=hI;have h1:=Bg0 (hc c hx).wd
    refine⟨[some (.im (.str c.name)),some (.im (.str c.word)),some (.im c.val.d)],?_,_,_,_,rfl⟩
    wp_walk using Cn.d,h1)
  have e6:cLC [none,none,none] (Cj (Ad 1)) (cgT 3 (Av (cgN 0) (Av (cgN 1) (Av (cgN 2) Do)))) Bv (cOp (K1 true) (Ad 1) (G8 (cK [.str "is",.str "not",.str "below",.str "above"]))) [some (.im (.tuple (t.cols.map PyData.str))),some (.im (.list (cs.map Cn.d))),some (.im (.list []))]=.ok (.o (.ls false (cs.map fun c=>PyData.bool (!decide (c.word∈words4))))) [some (.im (.tuple (t.cols.map PyData.str))),some (.im (.list (cs.map Cn.d))),some (.im (.list []))] :=
   Ey (ds:=cs.map Cn.d) (c1:=[some (.im (.tuple (t.cols.map PyData.str))),some (.im (.list (cs.map Cn.d))),some (.im (.list []))]) (ei _) hb (by simpa[cIn,O.flag] using e5) rfl
  have e7:=Ax9 (fun c:Cn=>!decide (c.word∈words4)) cs
  by_cases y:∀c∈cs,c.word∈words4
  ·have:(cs.any fun c=>!decide (c.word∈words4))=false:=List.any_eq_false.mpr fun c h=>by rw[decide_eq_true (y c h)];decide
   rw[this]at e7;rw[if_pos y]
   wp_walk using Hx,Oa,e2,e3,e6,e7
  ·have:(cs.any fun c=>!decide (c.word∈words4))=true:=by
    refine Classical.byContradiction fun q=>y fun c h=>?_
    have:=List.any_eq_false.mp (Bool.not_eq_true _▸q) c h
    simpa using this
   rw[this]at e7;rw[if_neg y]
   wp_walk using Hx,Oa,e2,e3,e6,e7
theorem Bk9 {d:PyData}:Dm [.im d,.im .none]=.ret (.im d) [.im d,.im .none]:=by
 wp_walk using Dm,V7
theorem Bg4 {x:Str}:∃o,Dm [.im .none,.ty (.xc (nC x))]=.ret (.im (.tuple [.str "refused",.int 1,.str x])) o:=⟨_,rfl⟩
theorem Bj4:∃o,Dm [.im .none,.ty (.xc nW)]=.ret (.im (.tuple [.str "refused",.int 2,.none])) o:=⟨_,rfl⟩
def Qi (cols:List Str)(cs:List Cn)(L:List PyData):PyData:=if Jj cols cs=none/\∀c∈cs,c.word∈words4 then .list L else Lw cols cs
theorem A2k {F:List PyData->XF}{cols:List Str}{cs:List Cn}{L:List PyData}{a b:PyData}{i j:Nat}{c:Ev}(h:F [a,b]=Av4 cols cs L)(hi:c[i]?=some (some (.im a)))(hj:c[j]?=some (some (.im b))) :
 Ss F Dm ["NoColumn", "BadWay"] (Ac (Ad i) (Ac (Ad j) Aq)) c=.ok (.o (.im (Qi cols cs L))) c:=by
 unfold Av4 at h;unfold Qi Lw
 cases hbad:Jj cols cs with
 | some x =>
  rw[hbad]at h
  rw[if_neg fun q=>nomatch q.1]
  obtain⟨o,e2⟩:=Bg4 (x:=x.name)
  have z:(Str.ofString "NoColumn" == Str.ofString "NoColumn" || Str.ofString "NoColumn" == Str.ofString "BadWay")=true:=by decide +kernel
  unfold Ss
  wp_walk using hi,hj,h,z,e2
 | none =>
  rw[hbad]at h
  dsimp only at h ⊢
  by_cases y:∀c∈cs,c.word∈words4
  ·rw[if_pos y]at h
   rw[if_pos ⟨rfl,y⟩]
   wp_walk using hi,hj,h,Bk9
  ·rw[if_neg y]at h
   rw[if_neg fun q=>y q.2,if_neg y]
   obtain⟨o,e2⟩:=Bj4
   have z:(Str.ofString "BadWay" == Str.ofString "NoColumn" || Str.ofString "BadWay" == Str.ofString "BadWay")=true:=by decide +kernel
   unfold Ss
   wp_walk using hi,hj,h,z,e2
theorem A6g {cols:List Str}{c:Cn}(hc:Cn.Gd cols c):Good c.d 1 6000:=by
 have h:Good (tD [.str c.name,.str c.word,c.val]) 1 (1923*3+4):=Km (fun v hv=>by
  simp only[List.mem_cons,List.not_mem_nil,or_false]at hv
  rcases hv with rfl | rfl | rfl
  ·exact(Px hc.nm).2.2
  ·exact Bf5 _ hc.wd
  ·exact hc.vb) (by simp)
 exact h.mono (by decide) (by decide)
theorem A7u {cols:List Str}{cs:List Cn}(hc:∀c∈cs,Cn.Gd cols c)(hl:cs.length<=4):Good (.list (cs.map Cn.d)) 5 30000 :=
 (Good.lst (n:=1) (w:=6000) (k:=4) (fun d hd=>by obtain⟨c,h,rfl⟩:=List.mem_map.mp hd;exact A6g (hc c h)) (by rw[List.length_map];exact hl)).mono (by decide) (by decide)
theorem Sx {a b c:Vl}(ha:VB a)(hb:VB b)(hc:VB c):Good (tD [a,b,c]) 1 (1923*3+4):=Km (fun v hv=>by
 simp only[List.mem_cons,List.not_mem_nil,or_false]at hv
 rcases hv with rfl | rfl | rfl
 ·exact ha
 ·exact hb
 ·exact hc) (by simp)
theorem Az4 {cols:List Str}{cs:List Cn}(hc:∀c∈cs,Cn.Gd cols c)(h:Lw cols cs≠.none):Good (Lw cols cs) 1 6000:=by
 unfold Lw at h ⊢
 have r:VB (.str "refused"):=by decide +kernel
 cases hbad:Jj cols cs with
 | some x=>exact(Sx (a:=.str "refused") (b:=.int 1) (c:=.str x.name) r (by decide) (Px (hc x (List.mem_of_find?_eq_some hbad)).nm).2.2).mono (by decide) (by decide)
 | none =>
  rw[hbad]at h
  dsimp only at h ⊢
  by_cases y:∀c∈cs,c.word∈words4
  ·rw[if_pos y]at h;exact absurd rfl h
  ·rw[if_neg y];exact(Sx (a:=.str "refused") (b:=.int 2) (c:=.non) r (by decide) rfl).mono (by decide) (by decide)
theorem As4 {cols:List Str}{cs:List Cn}(hc:∀c∈cs,Cn.Gd cols c):(Lw cols cs=.none/\∀L,Qi cols cs L=.list L)\/∃l,Lw cols cs=.tuple l/\Good (.tuple l) 1 6000/\∀L,Qi cols cs L=.tuple l:=by
 by_cases z:Jj cols cs=none/\∀c∈cs,c.word∈words4
 ·refine .inl ⟨?_,fun L=>by unfold Qi;rw[if_pos z]⟩
  unfold Lw;rw[z.1];exact if_pos z.2
 ·have r:∀L,Qi cols cs L=Lw cols cs:=fun L=>by unfold Qi;rw[if_neg z]
  have:∃l,Lw cols cs=.tuple l:=by
   unfold Lw
   cases hbad:Jj cols cs with
   | some x=>exact⟨_,rfl⟩
   | none=>exact⟨_,if_neg fun y=>z ⟨hbad,y⟩⟩
  obtain⟨l,e⟩:=this
  have g:=Az4 hc (by rw[e];exact fun q=>nomatch q)
  rw[e]at g r;exact .inr ⟨l,e,g,r⟩
theorem A4u {n:Nat}{ds:List PyData}{t:Tb}(ht:Tb.Ok t)(hb:Bx n ds)(hn:n<2 ^ 36){s0 s1 s3 s5 s6 s7 s8 s9 s10:Option O} :
 ∃
  (cs:List Cn) (d1:List PyData),(∀c∈cs,Cn.Gd t.cols c)/\cs.length<=4/\Bx (n+50) d1 /\
  cLC [none,some 2,some 4] (Jv (cOp Bw (cC (.int 1)) (cF Ak (Ac (Ad 2) (Ac (cC (.int 4)) Aq))))) (cgN 0) Bv (cF Ec (Ac (Ad 1) (Ac (cOp Ay (Ad 2) (cC (.int 0))) Aq))) [s0,s1,some (.ls false ds),s3,some (.im t.d),s5,s6,s7,s8,s9,s10]=.ok (.o (.ls false (cs.map Cn.d))) [s0,s1,some (.ls false d1),s3,some (.im t.d),s5,s6,s7,s8,s9,s10]:=by
 obtain⟨r,d1,b1,r0,r1,e1⟩:=Cg (m:=4) hb (by omega) (by decide) (by decide)
 obtain⟨m,hm,em⟩:∃m:Nat,m<=4/\(1:Int)+r=(m:Int):=⟨(1+r).toNat,by omega,by omega⟩
 have et:Ay t.d (.int 0)=some (.im (.tuple (t.cols.map PyData.str))):=rfl
 have loop:=Jx (g:=cgN 0) (ft:=Bv) (fe:=cF Ec (Ac (Ad 1) (Ac (cOp Ay (Ad 2) (cC (.int 0))) Aq))) (items:=Il 0 m) (acc:=[]) (n:=0) (c:=[none,some (.ls true d1),some (.im t.d)])
  (P:=fun k acc c=>∃d2 u cs,c=[u,some (.ls true d2),some (.im t.d)]/\k<=m/\Bx (n+1+10*k) d2/\acc=cs.map Cn.d/\(∀c∈cs,Cn.Gd t.cols c)/\cs.length=k)
  ⟨d1,none,[],rfl,Nat.zero_le _,b1,rfl,(fun c hc=>nomatch hc),rfl⟩ (fun k d acc c hd hP=>by
   rw[Nat.zero_add]at hP ⊢;obtain⟨d2,u,cs,rfl,hk0,b2,rfl,hc,hl⟩:=hP;obtain⟨rfl,hk⟩:=J4 hd
   obtain⟨c,d3,co,b3,e3⟩:=Yz ht b2 (by omega)
   refine⟨some c.d,[some (.im (.int (0+(k:Int)))),some (.ls true d3),some (.im t.d)],?_,d3,_,cs++[c],rfl,hk,b3.mono (by omega),by simp,fun x h=>by
    rcases List.mem_append.mp h with h | h
    ·exact hc x h
    ·rw[List.mem_singleton.mp h];exact co,by simp[hl]⟩
   wp_walk using et,e3)
 obtain⟨acc,cI,e,d2,u,cs,rfl,_,b2,rfl,hc,hl⟩:=loop;rw[Nat.zero_add,Ip]at b2 hl
 refine⟨cs,d2,hc,by omega,b2.mono (by omega),?_⟩
 exact Ey (ds:=Il 0 m) (c1:=[s0,s1,some (.ls false d1),s3,some (.im t.d),s5,s6,s7,s8,s9,s10]) (by wp_walk using e1,Bw,em,show (m:Int)<=16000000/\-16000000<=(m:Int) by omega,Int.toNat_natCast) (by rw[Ip];omega) e (by wp_walk using true_and)
theorem A9v {n:Nat}{ds:List PyData}{w:Wd}{s0 s1 s5 s6 s7 s8 s9 s10:Option O}{i:PyData}(h:w.Ok)(hb:Bx n ds)(hn:n<2 ^ 34) :
 ∃d1 t6 t7 t8 t9 t10,Bx (n+50) d1/\Ux (cgN 5) K8 i [s0,s1,some (.ls false ds),some (.im w.d),some (.im w.tb.d),s5,s6,s7,s8,s9,s10]=.nx [s0,s1,some (.ls false d1),some (.im w.d),some (.im w.tb.d),some (.im i),t6,t7,t8,t9,t10]:=by
 have ht:=Wd.tb_ok h
 obtain⟨cs,d1,hc,hl,b1,e1⟩:=A4u ht hb (by omega) (s0:=s0) (s1:=s1) (s3:=some (.im w.d)) (s5:=some (.im i)) (s6:=s6) (s7:=s7) (s8:=s8) (s9:=s9) (s10:=s10)
 have e2:=Bh4 ht hc hl
 have es:=Ah7 (Good.two (Wd.good5 h) (A7u hc hl)) (by decide) (by decide) rfl
 have er:=M6 ht hc (by omega)
 have ec:=Uv h hc (by omega)
 have et:Ay w.tb.d (.int 0)=some (.im (.tuple (w.tb.cols.map PyData.str))):=rfl
 have k1:∀t9 t10:Option O,Ss Bm Dm ["NoColumn", "BadWay"] (Ac (Ad 4) (Ac (Ad 6) Aq)) [s0,s1,some (.ls false d1),some (.im w.d),some (.im w.tb.d),some (.im i),some (.im (.list (cs.map Cn.d))),some (.im (Lw w.tb.cols cs)),some (.im (.str (PyData.list [w.d,.list (cs.map Cn.d)]).shown)),t9,t10]=.ok (.o (.im (Qi w.tb.cols cs (Ma w.tb.rows cs)))) _:=fun t9 t10=>A2k er rfl rfl
 have k2:∀t9 t10:Option O,Ss Cr Dm ["NoColumn", "BadWay"] (Ac (Ad 3) (Ac (Ad 6) Aq)) [s0,s1,some (.ls false d1),some (.im w.d),some (.im w.tb.d),some (.im i),some (.im (.list (cs.map Cn.d))),some (.im (Lw w.tb.cols cs)),some (.im (.str (PyData.list [w.d,.list (cs.map Cn.d)]).shown)),t9,t10]=.ok (.o (.im (Qi w.tb.cols cs (Qt w cs)))) _:=fun t9 t10=>A2k ec rfl rfl
 have rc:=As4 hc
 refine⟨d1,some (.im (.list (cs.map Cn.d))),some (.im (Lw w.tb.cols cs)),some (.im (.str (PyData.list [w.d,.list (cs.map Cn.d)]).shown)),some (.im (Qi w.tb.cols cs (Ma w.tb.rows cs))),some (.im (Qi w.tb.cols cs (Qt w cs))),b1,?_⟩
 show K8 [s0,s1,some (.ls false ds),some (.im w.d),some (.im w.tb.d),some (.im i),s6,s7,s8,s9,s10]=_
 generalize hT1:Ss Bm Dm ["NoColumn", "BadWay"] (Ac (Ad 4) (Ac (Ad 6) Aq))=T1 at *
 generalize hT2:Ss Cr Dm ["NoColumn", "BadWay"] (Ac (Ad 3) (Ac (Ad 6) Aq))=T2 at *
 unfold K8;rw[hT1,hT2]
 generalize Lw w.tb.cols cs=D at *
 generalize hR1:Qi w.tb.cols cs (Ma w.tb.rows cs)=R1 at *
 generalize hR2:Qi w.tb.cols cs (Qt w cs)=R2 at *
 generalize cs.map Cn.d=CS at *
 generalize (PyData.list [w.d,.list CS]).shown=SH at *
 generalize w.tb.cols.map PyData.str=CL at *
 generalize w.tb.d=TD at *
 generalize w.d=WD at *
 rcases rc with ⟨rfl,rl⟩ | ⟨l,rfl,g,rl⟩
 ·rw[rl]at hR1 hR2
  subst hR1 hR2
  wp_walk using e1,et,e2,es,k1,k2,Fv,Eu,Pr,Jt
 ·rw[rl]at hR1 hR2
  subst hR1 hR2
  have ew:=Au0 (n:=8) (Good.two g g) (by decide) (by decide) (by decide)
  wp_walk using e1,et,e2,es,k1,k2,Fv,ew,Jt
theorem A1m (ns:List Int)(_:ns.length<=63):Af2 [.sc ns]=.ret (.im (.bool true)) [.sc ns]:=by
 obtain⟨m,hm,em⟩:∃m:Nat,m<=13/\(1:Int)+(if (ns.length:Int)<3 then (ns.length:Int) else 3)=(m:Int):=by
  split
  ·exact⟨1+ns.length,by omega,by omega⟩
  ·exact⟨4,by omega,by omega⟩
 have loop:=Ha (g:=cgN 1) (body:=Pa) (items:=Il 0 m) (n:=0) (c:=[some (.sc ns),none,none,none,none,none,none,none,none,none,none])
  (P:=fun _ c=>∃a1 a2 a3 a4 a5 a6 a7 a8 a9 a10,c=[some (.sc ns),a1,a2,a3,a4,a5,a6,a7,a8,a9,a10]) ⟨_,_,_,_,_,_,_,_,_,_,rfl⟩ (fun k d c hd hP=>by
   obtain⟨a1,a2,a3,a4,a5,a6,a7,a8,a9,a10,rfl⟩:=hP;obtain⟨rfl,hk⟩:=J4 hd
   obtain⟨db,bb,e1⟩:=Bk7 (ns:=ns) (k:=k) (by omega)
   obtain⟨w,d2,ok,_,b2,e2⟩:=A8l (num:=false) bb (by decide)
   have eu:=Q9 ok;rw[Wd.tb_d]at eu
   have inner:=Ha (g:=cgN 5) (body:=K8) (items:=Il 0 8) (n:=0) (c:=[some (.sc ns),some (.im (.int (0+(k:Int)))),some (.ls false d2),some (.im w.d),some (.im w.tb.d),a5,a6,a7,a8,a9,a10])
    (P:=fun j c=>∃d3 b5 b6 b7 b8 b9 b10,c=[some (.sc ns),some (.im (.int (0+(k:Int)))),some (.ls false d3),some (.im w.d),some (.im w.tb.d),b5,b6,b7,b8,b9,b10]/\j<=8/\Bx (100000+50*j) d3) ⟨d2,_,_,_,_,_,_,rfl,Nat.zero_le _,b2.mono (by omega)⟩ (fun j d c hd hP=>by
     rw[Nat.zero_add]at hP ⊢;obtain⟨d3,b5,b6,b7,b8,b9,b10,rfl,hj,b3⟩:=hP;have hj':j<8:=(J4 hd).2
     obtain⟨d4,t6,t7,t8,t9,t10,b4,e4⟩:=A9v (s0:=some (.sc ns)) (s1:=some (.im (.int (0+(k:Int))))) (s5:=b5) (s6:=b6) (s7:=b7) (s8:=b8) (s9:=b9) (s10:=b10) (i:=d) ok b3 (by omega)
     exact⟨_,.inl e4,d4,_,_,_,_,_,_,rfl,by omega,b4.mono (by omega)⟩)
   obtain⟨c',e5,d3,b5,b6,b7,b8,b9,b10,rfl,_,_⟩:=inner
   refine⟨[some (.sc ns),some (.im (.int (0+(k:Int)))),some (.ls false d3),some (.im w.d),some (.im w.tb.d),b5,b6,b7,b8,b9,b10],.inl ?_,_,_,_,_,_,_,_,_,_,_,rfl⟩
   show Pa [some (.sc ns),some (.im (.int (0+(k:Int)))),a2,a3,a4,a5,a6,a7,a8,a9,a10]=_
   unfold Pa
   refine (Dh (c':=[some (.sc ns),some (.im (.int (0+(k:Int)))),some (.ls false db),a3,a4,a5,a6,a7,a8,a9,a10]) (by wp_walk using show (0:Int)+(k:Int)=(k:Int) by omega,e1)).trans ?_
   refine (Dh (c':=[some (.sc ns),some (.im (.int (0+(k:Int)))),some (.ls false d2),some (.im w.d),a4,a5,a6,a7,a8,a9,a10]) (by wp_walk using e2)).trans ?_
   refine (Dh (c':=[some (.sc ns),some (.im (.int (0+(k:Int)))),some (.ls false d2),some (.im w.d),some (.im w.tb.d),a5,a6,a7,a8,a9,a10]) (by wp_walk using eu)).trans ?_
   exact(Rx (ds:=Il 0 8) (c1:=[some (.sc ns),some (.im (.int (0+(k:Int)))),some (.ls false d2),some (.im w.d),some (.im w.tb.d),a5,a6,a7,a8,a9,a10]) (by wp_walk using true_and)).trans e5)
 obtain⟨c',e,a1,a2,a3,a4,a5,a6,a7,a8,a9,a10,rfl⟩:=loop
 refine Ny (p:=.o (.im (.bool true))) (c:=[some (.sc ns),a1,a2,a3,a4,a5,a6,a7,a8,a9,a10]) ?_ rfl (by wp_walk using true_and)
 show Ad6 [some (.sc ns),none,none,none,none,none,none,none,none,none,none]=_
 unfold Ad6
 refine (Dh ((Rx (ds:=Il 0 m) (c1:=[some (.sc ns),none,none,none,none,none,none,none,none,none,none]) ?_).trans e)).trans ?_
 ·wp_walk using Af5,Bw,em,show (m:Int)<=16000000/\-16000000<=(m:Int) by omega,Int.toNat_natCast
 ·wp_walk using true_and
def top (i:Nat):Stmt:=PySem.Challenge.pw_pivotfold_k44_conditions_refused.main.body.getD i (.Pass ⟨0,0,0,0⟩)
abbrev Yp:Stmt:=top 13
theorem A7x:Bh ["value"] ["value"] (Am Yp):=⟨rfl,rfl,rfl,by grind,rfl,by decide +kernel,by decide +kernel⟩
abbrev Hw:Stmt:=top 14
theorem Rr:Bh ["one", "other"] ["one", "other"] (Am Hw):=⟨rfl,rfl,rfl,by decide +kernel,rfl,by decide +kernel,by decide +kernel⟩
abbrev Ng:Stmt:=top 16
theorem yF:Bh ["table", "name", "columns"] ["table", "name"] (Am Ng):=⟨rfl,rfl,rfl,by trivial,rfl,by decide +kernel,by decide +kernel⟩
abbrev K5:Stmt:=top 17
theorem X6:Bh ["table", "names"] ["table", "names"] (Am K5):=⟨rfl,rfl,rfl,by trivial,rfl,by decide +kernel,by decide +kernel⟩
abbrev Jd:Stmt:=top 19
theorem zK:Bh ["wide", "told", "part", "cells"] ["wide"] (Am Jd):=⟨rfl,rfl,rfl,by decide +kernel,rfl,by decide +kernel,by decide +kernel⟩
abbrev Nu:Stmt:=top 20
theorem yG:Bh ["wide", "rows"] ["wide"] (Am Nu):=⟨rfl,rfl,rfl,by decide +kernel,rfl,by decide +kernel,by decide +kernel⟩
abbrev J9:Stmt:=top 23
theorem Vo:Bh ["conditions"] ["conditions"] (Am J9):=⟨rfl,rfl,rfl,by decide +kernel,rfl,by decide +kernel,by decide +kernel⟩
abbrev Jl:Stmt:=top 24
theorem zZ:Bh ["conditions", "condition"] ["conditions"] (Am Jl):=⟨rfl,rfl,rfl,by decide +kernel,rfl,by decide +kernel,by decide +kernel⟩
abbrev Ww:Stmt:=top 25
theorem A0a:Bh ["value", "word", "told"] ["value", "word", "told"] (Am Ww):=⟨rfl,rfl,rfl,by decide +kernel,rfl,by decide +kernel,by decide +kernel⟩
abbrev Np:Stmt:=top 26
theorem Aa0:Bh ["row", "places", "conditions"] ["row", "places", "conditions"] (Am Np):=⟨rfl,rfl,rfl,by decide +kernel,rfl,by decide +kernel,by decide +kernel⟩
abbrev J6:Stmt:=top 27
theorem yE:Bh ["table", "conditions", "places"] ["table", "conditions"] (Am J6):=⟨rfl,rfl,rfl,by decide +kernel,rfl,by decide +kernel,by decide +kernel⟩
abbrev Jk:Stmt:=top 28
theorem yC:Bh ["wide", "conditions", "pairs"] ["wide", "conditions"] (Am Jk):=⟨rfl,rfl,rfl,by decide +kernel,rfl,by decide +kernel,by decide +kernel⟩
abbrev K9:Stmt:=top 30
theorem Xf:Bh ["_law_script", "_law_k"] ["_law_script", "_law_k"] (Am K9):=⟨rfl,rfl,rfl,by trivial,rfl,by decide +kernel,by decide +kernel⟩
abbrev Xe:Stmt:=top 31
theorem yK:Bh ["_law_script", "_law_k", "_law_number_here"] ["_law_script", "_law_k"] (Am Xe):=⟨rfl,rfl,rfl,by trivial,rfl,by decide +kernel,by decide +kernel⟩
abbrev Ue:Stmt:=top 32
theorem zW:Bh ["_law_box_here", "_law_many_here", "_law_found", "_law_once", "_law_twice"] ["_law_box_here", "_law_many_here"] (Am Ue):=⟨rfl,rfl,rfl,by trivial,rfl,by decide +kernel,by decide +kernel⟩
abbrev S6:Stmt:=top 33
theorem Ar1:Bh ["_law_box_here", "_law_least", "_law_few", "_law_most"] ["_law_box_here", "_law_least", "_law_few", "_law_most"] (Am S6):=⟨rfl,rfl,rfl,by trivial,rfl,by decide +kernel,by decide +kernel⟩
abbrev Qe:Stmt:=top 34
theorem yH:Bh ["_law_box_here", "_law_many_here", "_law_some"] ["_law_box_here", "_law_many_here"] (Am Qe):=⟨rfl,rfl,rfl,by trivial,rfl,by decide +kernel,by decide +kernel⟩
abbrev Qo:Stmt:=top 35
theorem yI:Bh ["_law_box_here", "_law_way"] ["_law_box_here"] (Am Qo):=⟨rfl,rfl,rfl,by trivial,rfl,by decide +kernel,by decide +kernel⟩
abbrev Nm:Stmt:=top 36
theorem Ab9:Bh ["_law_box_here"] ["_law_box_here"] (Am Nm):=⟨rfl,rfl,rfl,by grind,rfl,by decide +kernel,by decide +kernel⟩
abbrev T8:Stmt:=top 37
theorem zX:Bh ["_law_box_here", "_law_many_here", "_law_found", "_law_turn", "_law_value_here"] ["_law_box_here", "_law_many_here"] (Am T8):=⟨rfl,rfl,rfl,by trivial,rfl,by decide +kernel,by decide +kernel⟩
abbrev Nh:Stmt:=top 38
theorem zM:Bh ["_law_box_here", "_law_wide_here", "_law_many_here", "_law_pool_here", "_law_found", "_law_turn", "_law_one"] ["_law_box_here", "_law_wide_here", "_law_many_here"] (Am Nh):=⟨rfl,rfl,rfl,by trivial,rfl,by decide +kernel,by decide +kernel⟩
abbrev Tp:Stmt:=top 39
theorem zA:Bh ["_law_box_here", "_law_numbers", "_law_names_here", "_law_a", "_law_b", "_law_c", "_law_stem", "_law_over", "_law_values", "_law_heads", "_law_often", "_law_rows", "_law_part", "_law_cells", "_law_head", "_law_one"] ["_law_box_here", "_law_numbers"] (Am Tp):=⟨rfl,rfl,rfl,by trivial,rfl,by decide +kernel,by decide +kernel⟩
abbrev Nv:Stmt:=top 40
theorem Ax0:Bh ["_law_found", "_law_due_here"] ["_law_found", "_law_due_here"] (Am Nv):=⟨rfl,rfl,rfl,by trivial,rfl,by decide +kernel,by decide +kernel⟩
abbrev Uy:Stmt:=top 41
theorem zR:Bh ["_law_call", "_law_found", "_law_caught", "error", "_law_marks", "_law_others"] ["_law_call"] (Am Uy):=⟨rfl,rfl,rfl,by decide +kernel,rfl,by decide +kernel,by decide +kernel⟩
abbrev Jc:Stmt:=top 42
theorem zG:Bh ["_law_box_here", "_law_columns", "_law_name", "_law_word"] ["_law_box_here", "_law_columns"] (Am Jc):=⟨rfl,rfl,rfl,by decide +kernel,rfl,by decide +kernel,by decide +kernel⟩
abbrev Yl:Stmt:=top 43
theorem yL:Bh ["_law_columns", "_law_conditions", "_law_none"] ["_law_columns", "_law_conditions"] (Am Yl):=⟨rfl,rfl,rfl,by decide +kernel,rfl,by decide +kernel,by decide +kernel⟩
abbrev A0p:Stmt:=top 44
theorem zJ:Bh ["_law_script", "_law_k", "_law_box_here", "_law_wide_here", "_law_table", "_law_turn", "_law_conditions", "_law_due_here", "_law_before", "_law_found", "_law_more"] ["_law_script"] (Am A0p):=⟨rfl,rfl,rfl,by decide +kernel,rfl,by decide +kernel,by decide +kernel⟩
section
variable {P:Program}{w:World}{K:PySem.W.Frag}{mg:Str->Option Value}{base:Heap}
theorem A5z {n:Nat}{f:Addr}{k:FuncData}(F:Fun K "rank" "rank" Yp f k) (c:Def P w K mg base "rank" (n) ["value"] (spP K (Hn n))) (d:mg "int" = none) (a:mg "isinstance" = none) (e:mg "str" = none) (b:mg "tuple" = none):FnOk P w K mg base CX0 (n+1) f k ["value"] (spP K (Hn (n+1))):=by
 refine F.ok A7x (fun o H Q E h=>Dz h) (fun l A g s H o Q E j h=>?_)
 have p:=j.units;have m:=j.gd
 refine Gk (Ah (Dn (Mi (qv 0) Fq) (An (Bd (Eo (Af Ag (Af Ag Ae))))) Br)
  (Ah (Dn (Fp (By (Kq:=K) rfl rfl a (Af (qv 0) (Af (Dq (v:=.ty "int") rfl d Ag7 rfl) Ae)))) (An (Bd (Eo (Af Ag (Af (qv 0) Ae))))) Br)
  (Ah (Dn (Fp (By (Kq:=K) rfl rfl a (Af (qv 0) (Af (Dq (v:=.ty "str") rfl e S9 rfl) Ae)))) (An (Bd (Eo (Af Ag (Af (qv 0) Ae))))) Br)
  (An (Bd (Eo (Af Ag (Af (Bs (Kq:=K) rfl rfl b (Af (by exact(Im (N':=["each"]) (idx:=[none]) (Ej rfl rfl (by trivial) rfl rfl rfl) rfl (Ge (Kq:=K) rfl (qv 0)) (fun _ _ _ _ _=>by exact(Bb (i:=0) (by grind) rfl (Or.inl rfl))) (fun _ _ _ _ _=>by exact Fg) (fun _ _ _ _ _=>by exact(Bk c j (Af (qv 0) Ae))))) Ae)) Ae)))))))) ?_
 exact Ds (Ax (Dv (Bg (Al Aa (Ar rfl) Xu)) (Bc (Fl (Ab (Ar rfl) (Ab (Ar rfl) Aj)))) Bq)
  (Ax (Dv (M9 (Ft .int Aa)) (Bc (Fl (Ab (Ar rfl) (Ab Aa Aj)))) Bq)
  (Ax (Dv (M9 (Ft .str Aa)) (Bc (Fl (Ab (Ar rfl) (Ab Aa Aj)))) Bq)
  (Bc (Fl (Ab (Ar rfl) (Ab (Cz (G6 (by decide) (Fo Aa) Ai Gv (Aw (Ab Aa Aj))) Fe) Aj))))))) h
theorem Zh {f:Addr}{fd:FuncData}(F:Fun K "rank" "rank" Yp f fd) (bF:Binds K fd ["value"] []) (mF:mg "rank" = some (.ref f)) (zU:mg "int" = none) (z7:mg "isinstance" = none) (zO:mg "str" = none) (zB:mg "tuple" = none):∀n:Nat,FnOk P w K mg base CX0 (n) f fd ["value"] (spP K (Hn n))
 | 0=>A4o
 | n+1=>A5z F ⟨f,fd,Zh F bF mF zU z7 zO zB n,bF,F.kp,mF⟩ zU z7 zO zB
theorem Ru {f:Addr}{fd:FuncData}(F:Fun K "stands_ahead" "stands_ahead" Hw f fd) (D_rank:Def P w K mg base "rank" 2 ["value"] (spP K (Hn 2))):FnOk P w K mg base CX0 3 f fd ["one", "other"] (spP K Du):=by
 refine F.ok Rr (fun vs H Q E h=>Dz h) (fun cdv A outer s H vs Q E hr h=>?_)
 have hu:=hr.units;have hgd:=hr.gd
 refine Gk (An (Bd (Ax6 hu (Bk D_rank hr (Af (qv 0) Ae)) (Bk D_rank hr (Af (qv 1) Ae))))) ?_
 exact Ds (Bc (Al (Aw (Ab Aa Aj)) (Aw (Ab Aa Aj)) Bf9)) h
theorem Aa2 {f:Addr}{fd:FuncData}(F:Fun K "place_of" "place_of" Ng f fd) (r_NoColumn:ClI K mg ⟨"NoColumn.__init__", "FoldError", "name", "name", "no column ", ""⟩ "NoColumn"):FnOk P w K mg base (CXe P w) 3 f fd ["table", "name"] (spX K Cm):=by
 have xz_NoColumn:=A4e r_NoColumn;obtain⟨gi_NoColumn,gF_NoColumn,fa_NoColumn,fd_NoColumn,od_NoColumn,os_NoColumn,mi_NoColumn,ni_NoColumn,Zi_NoColumn,hi_NoColumn,lk_NoColumn,bi_NoColumn,fi_NoColumn⟩:=r_NoColumn
 refine F.okX yF (fun vs H Q E h=>Ob h) (fun cdv A outer s H vs Q E hr h=>?_)
 have hu:=hr.units;have hgd:=hr.gd
 refine Gk (Ah (Bt (i:=2) yF.nd rfl (Or.inl rfl) (Cd (Kq:=K) rfl (qv 0) Ag Bj))
  (Ah (Dn (Hj hu (qv 1) (qv 2) (by with_unfolding_all rfl)) (An (Ar5 V3 rfl rfl mi_NoColumn Zi_NoColumn.2 hi_NoColumn lk_NoColumn bi_NoColumn (fi_NoColumn _ _ _) (hr.mono (by omega)) (qv 1))) Br)
  (An (Bd (An8 (Kq:=K) rfl PySem.F.plainAttrs_tuple PySem.F.slot_tuple_index PySem.F.type_tuple_index (Ag3 rfl) (qv 2) (Af (qv 1) Ae)))))) ?_
 exact O4 (Um (Ms (Bo (Al Aa (Ar rfl) Bf) Ai))
  (Um (Ba6 (Bg (Al Aa Aa Jo)) (Ay2 ni_NoColumn Aa) (Ms Bq))
  (Ms (Bc (A9w Aa Aa Bj8 As1))))) h
theorem Wq {f:Addr}{fd:FuncData}(F:Fun K "places_of" "places_of" K5 f fd) (D_place_of:DefX P w K mg base "place_of" 3 ["table", "name"] (spX K Cm)):FnOk P w K mg base (CXe P w) 4 f fd ["table", "names"] (spX K Hl):=by
 refine F.okX X6 (fun vs H Q E h=>Ob h) (fun cdv A outer s H vs Q E hr h=>?_)
 have hu:=hr.units;have hgd:=hr.gd
 refine Gk (An (Bd (by exact(Bd4 (N':=["name", "table"]) (idx:=[none,some 0]) (Ej rfl rfl (by decide +kernel) rfl rfl rfl) rfl (Ge (Kq:=K) rfl (qv 1)) (fun _ _ _ _ _=>by exact(Bb (i:=0) (by show (["name", "table"]:List Str).Nodup;decide +kernel) rfl (Or.inl rfl))) (fun _ _ _ _ _=>by exact Fg) (fun _=>A1y) (fun _ _ _ _ _=>by exact(Ak2 Aw0 D_place_of hr (Af (qv 1) (Af (qv 0) Ae)))))))) ?_
 exact O4 (Aq3 (F:=Cm) (vs:=[]) (by decide) (Fo Aa) Ai Gv (Ab Aa (Ab Aa Aj)) (Bc (Oi (G6 (by decide) (Fo Aa) Ai Gv (Vt (Ab Aa (Ab Aa Aj)))))) (fun σ H D hb hq=>by exact hq _)) h
theorem U5 {f:Addr}{fd:FuncData}(F:Fun K "cells_along" "cells_along" Jd f fd) (zQ:mg "zip" = none):FnOk P w K mg base CX0 1 f fd ["wide"] (spP K Dg):=by
 refine F.ok zK (fun vs H Q E h=>Dz h) (fun cdv A outer s H vs Q E hr h=>?_)
 have hu:=hr.units;have hgd:=hr.gd
 refine Gk (Ah (Bt (i:=1) zK.nd rfl (Or.inl rfl) (Eg Ae))
  (Ah (Mh PassesOwn.never rfl (Ge (Kq:=K) rfl (Cd (Kq:=K) rfl (qv 0) Ag Bj)) (Je (Kq:=K) rfl (n:=2) rfl (Bu (Bb (i:=2) zK.nd rfl (Or.inr rfl)) (Bu (Bb (i:=3) zK.nd rfl (Or.inl rfl)) G4))) (An (J3 (An8 (Kq:=K) rfl PySem.F.plainAttrs_list PySem.F.slot_list_extend PySem.F.type_list_extend At3 (qv 1) (Af (by exact(Im (N':=["head", "each", "part"]) (idx:=[none,none,some 2]) (Ej rfl rfl (by decide +kernel) rfl rfl rfl) rfl (Ag2 rfl zQ (Af (Cd (Kq:=K) rfl (qv 0) Ag Bj) (Af (qv 3) Ae))) (fun _ _ _ _ _=>by exact(Je (Kq:=K) rfl (n:=2) rfl (Bu (Bb (i:=0) (by show (["head", "each", "part"]:List Str).Nodup;decide +kernel) rfl (Or.inl rfl)) (Bu (Bb (i:=1) (by show (["head", "each", "part"]:List Str).Nodup;decide +kernel) rfl (Or.inl rfl)) G4)))) (fun _ _ _ _ _=>by exact Fg) (fun _ _ _ _ _=>by exact(Eo (Af (qv 2) (Af (qv 0) (Af (qv 1) Ae))))))) Ae)))))
  (An (Bd (qv 1))))) ?_
 exact Ds (Ax (Bo (Ef Aj) Ai)
  (Ax (M8 (Fo (Al Aa (Ar rfl) Bf)) (Kr (Ce Ai (Ce Ai Hi))) (Ml (Bk1 Aa (G6 (by decide) (Ah2 (Al Aa (Ar rfl) Bf) Aa) (Kr (Ce Ai (Ce Ai Hi))) Gv (Fl (Ab Aa (Ab Aa (Ab Aa Aj))))))))
  (Bc Aa))) h
theorem Ab8 {f:Addr}{fd:FuncData}(F:Fun K "unfolded" "unfolded" Nu f fd) (D_cells_along:Def P w K mg base "cells_along" 1 ["wide"] (spP K Dg)) (zB:mg "tuple" = none):FnOk P w K mg base CX0 2 f fd ["wide"] (spP K Ei):=by
 refine F.ok yG (fun vs H Q E h=>Dz h) (fun cdv A outer s H vs Q E hr h=>?_)
 have hu:=hr.units;have hgd:=hr.gd
 refine Gk (Ah (by exact(Z0 (i:=1) yG.nd rfl (Or.inl rfl) (N':=["part", "head", "each"]) (idx:=[none,none,none]) (Ej rfl rfl (by decide +kernel) rfl rfl rfl) rfl (Ge (Kq:=K) rfl (Bk D_cells_along hr (Af (qv 0) Ae))) (fun _ _ _ _ _=>by exact(Je (Kq:=K) rfl (n:=3) rfl (Bu (Bb (i:=0) (by show (["part", "head", "each"]:List Str).Nodup;decide +kernel) rfl (Or.inl rfl)) (Bu (Bb (i:=1) (by show (["part", "head", "each"]:List Str).Nodup;decide +kernel) rfl (Or.inl rfl)) (Bu (Bb (i:=2) (by show (["part", "head", "each"]:List Str).Nodup;decide +kernel) rfl (Or.inl rfl)) G4))))) (fun _ _ _ _ _=>by exact(Oj (Nk (qv 2) Fq))) (fun _ _ _ _ _=>by exact(Dk (Dk (qv 0) (qv 1)) (qv 2)))))
  (An (Bd (Eo (Af (Dk (Dk (Cd (Kq:=K) rfl (qv 0) Ag Bj) (Cd (Kq:=K) rfl (qv 0) Ag Bj)) (Cd (Kq:=K) rfl (qv 0) Ag Bj)) (Af (Bs (Kq:=K) rfl rfl zB (Af (qv 1) Ae)) Ae)))))) ?_
 exact Ds (Ax (Bo (G6 (by decide) (Fo (Aw (Ab Aa Aj))) (Kr (Ce Ai (Ce Ai (Ce Ai Hi)))) (Bg (Al Aa (Ar rfl) Ug)) (Al (Al Aa Aa Cp) Aa Cp)) Ai)
  (Bc (Fl (Ab (Al (Al (Al Aa (Ar rfl) Bf) (Al Aa (Ar rfl) Bf) Cp) (Al Aa (Ar rfl) Bf) Cp) (Ab (Cz Aa Fe) Aj))))) h
theorem Vk {f:Addr}{fd:FuncData}(F:Fun K "columns_of" "columns_of" J9 f fd):FnOk P w K mg base CX0 1 f fd ["conditions"] (spP K Fb):=by
 refine F.ok Vo (fun vs H Q E h=>Dz h) (fun cdv A outer s H vs Q E hr h=>?_)
 have hu:=hr.units;have hgd:=hr.gd
 refine Gk (An (Bd (by exact(Im (N':=["condition"]) (idx:=[none]) (Ej rfl rfl (by decide +kernel) rfl rfl rfl) rfl (Ge (Kq:=K) rfl (qv 0)) (fun _ _ _ _ _=>by exact(Bb (i:=0) (by show (["condition"]:List Str).Nodup;decide +kernel) rfl (Or.inl rfl))) (fun _ _ _ _ _=>by exact Fg) (fun _ _ _ _ _=>by exact(Cd (Kq:=K) rfl (qv 0) Ag Bj)))))) ?_
 exact Ds (Bc (G6 (by decide) (Fo Aa) Ai Gv (Al Aa (Ar rfl) Bf))) h
theorem Uw {f:Addr}{fd:FuncData}(F:Fun K "check_words" "check_words" Jl f fd) (zL:∃p,mg "CONDITION_WORDS" = some (.ref p)/\∀H,SqT K H p ([Str.ofString "is",Str.ofString "not",Str.ofString "below",Str.ofString "above"].map V.str)) (r_BadWay:ClR K mg "BadWay"):FnOk P w K mg base (CXe P w) 1 f fd ["conditions"] (spX K Gh):=by
 obtain⟨gr_BadWay,mr_BadWay,n_BadWay,q_BadWay⟩:=r_BadWay;obtain⟨p_CONDITION_WORDS,m_CONDITION_WORDS,sq_CONDITION_WORDS⟩:=zL
 refine F.okX zZ (fun vs H Q E h=>Ob h) (fun cdv A outer s H vs Q E hr h=>?_)
 have hu:=hr.units;have hgd:=hr.gd
 refine Gk (An (Mh PassesOwn.leaving rfl (Ge (Kq:=K) rfl (qv 0)) (Bb (i:=1) zZ.nd rfl (Or.inl rfl)) (An (Dn (At5 (Kq:=K) rfl (Cd (Kq:=K) rfl (qv 1) Ag Bj) (A8p (v:=.ref p_CONDITION_WORDS) rfl m_CONDITION_WORDS rfl) (by with_unfolding_all rfl)) (An (A0i V3 rfl rfl mr_BadWay q_BadWay (Af Ez Ae))) Br)))) ?_
 exact O4 (Bl0 (Fo Aa) Ai (Ba6 (Bg (Bk2 (Al Aa (Ar rfl) Bf) sq_CONDITION_WORDS)) (A5g n_BadWay (Ab (Ar rfl) Aj) (fun _ _ _ e=>by cases e;decide)) (Ms Bq))) h
theorem A5q {f:Addr}{fd:FuncData}(F:Fun K "holds" "holds" Ww f fd) (D_stands_ahead:Def P w K mg base "stands_ahead" 3 ["one", "other"] (spP K Du)):FnOk P w K mg base CX0 4 f fd ["value", "word", "told"] (spP K Fd):=by
 refine F.ok A0a (fun vs H Q E h=>Dz h) (fun cdv A outer s H vs Q E hr h=>?_)
 have hu:=hr.units;have hgd:=hr.gd
 refine Gk (Ah (Dn (Lr hu (qv 1) Ez) (An (Bd (Wk hu (qv 0) (qv 2)))) Br)
  (Ah (Dn (Lr hu (qv 1) Ez) (An (Bd (Br1 hu (qv 0) (qv 2)))) Br)
  (Ah (Dn (Lr hu (qv 1) Ez) (An (Bd (Bk D_stands_ahead hr (Af (qv 0) (Af (qv 2) Ae))))) Br)
  (An (Bd (Bk D_stands_ahead hr (Af (qv 2) (Af (qv 0) Ae)))))))) ?_
 exact Ds (Ax (Dv (Bg (Al Aa (Ar rfl) Es)) (Bc (Al Aa Aa Es)) Bq)
  (Ax (Dv (Bg (Al Aa (Ar rfl) Es)) (Bc (Al Aa Aa Qp)) Bq)
  (Ax (Dv (Bg (Al Aa (Ar rfl) Es)) (Bc (Aw (Ab Aa (Ab Aa Aj)))) Bq)
  (Bc (Aw (Ab Aa (Ab Aa Aj))))))) h
theorem Zj {f:Addr}{fd:FuncData}(F:Fun K "all_hold" "all_hold" Np f fd) (D_holds:Def P w K mg base "holds" 4 ["value", "word", "told"] (spP K Fd)) (yD:mg "all" = none) (zQ:mg "zip" = none):FnOk P w K mg base CX0 5 f fd ["row", "places", "conditions"] (spP K Et):=by
 refine F.ok Aa0 (fun vs H Q E h=>Dz h) (fun cdv A outer s H vs Q E hr h=>?_)
 have hu:=hr.units;have hgd:=hr.gd
 refine Gk (An (Bd (Ph (Kq:=K) rfl rfl rfl yD (Af (by exact(Im (N':=["place", "each", "row"]) (idx:=[none,none,some 0]) (Ej rfl rfl (by decide +kernel) rfl rfl rfl) rfl (Ag2 rfl zQ (Af (qv 1) (Af (qv 2) Ae))) (fun _ _ _ _ _=>by exact(Je (Kq:=K) rfl (n:=2) rfl (Bu (Bb (i:=0) (by show (["place", "each", "row"]:List Str).Nodup;decide +kernel) rfl (Or.inl rfl)) (Bu (Bb (i:=1) (by show (["place", "each", "row"]:List Str).Nodup;decide +kernel) rfl (Or.inl rfl)) G4)))) (fun _ _ _ _ _=>by exact Fg) (fun _ _ _ _ _=>by exact(Bk D_holds hr (Af (Cd (Kq:=K) rfl (qv 2) (qv 0) Nq) (Af (Cd (Kq:=K) rfl (qv 1) Ag Bj) (Af (Cd (Kq:=K) rfl (qv 1) Ag Bj) Ae))))))) Ae)))) ?_
 exact Ds (Bc (Cz (G6 (by decide) (Ah2 Aa Aa) (Kr (Ce Ai (Ce Ai Hi))) Gv (Aw (Ab (Al Aa Aa Bf) (Ab (Al Aa (Ar rfl) Bf) (Ab (Al Aa (Ar rfl) Bf) Aj))))) Am2)) h
theorem Vb {f:Addr}{fd:FuncData}(F:Fun K "rows_where" "rows_where" J6 f fd) (D_places_of:DefX P w K mg base "places_of" 4 ["table", "names"] (spX K Hl)) (D_columns_of:Def P w K mg base "columns_of" 1 ["conditions"] (spP K Fb)) (D_check_words:DefX P w K mg base "check_words" 1 ["conditions"] (spX K Gh)) (D_all_hold:Def P w K mg base "all_hold" 5 ["row", "places", "conditions"] (spP K Et)) (zY:mg "enumerate" = none):FnOk P w K mg base (CXe P w) 6 f fd ["table", "conditions"] (spX K Bm):=by
 obtain⟨f_places_of,fd_places_of,G_places_of,b_places_of,kp_places_of,m_places_of⟩:=D_places_of;obtain⟨f_check_words,fd_check_words,G_check_words,b_check_words,kp_check_words,m_check_words⟩:=D_check_words
 refine F.okX yE (fun vs H Q E h=>Ob h) (fun cdv A outer s H vs Q E hr h=>?_)
 have hu:=hr.units;have hgd:=hr.gd
 refine Gk (Ah (Bt (i:=2) yE.nd rfl (Or.inr rfl) (Ot G_places_of (hr.mono (by omega)) rfl m_places_of kp_places_of b_places_of .nil Qf (Af (qv 0) (Af (Bk D_columns_of hr (Af (qv 1) Ae)) Ae))))
  (Ah (J3 (Ot G_check_words (hr.mono (by omega)) rfl m_check_words kp_check_words b_check_words .nil Qf (Af (qv 1) Ae)))
  (An (Bd (by exact(Im (N':=["number", "row", "places", "conditions"]) (idx:=[none,none,some 2,some 1]) (Ej rfl rfl (by decide +kernel) rfl rfl rfl) rfl (A5v rfl zY (Af (Cd (Kq:=K) rfl (qv 0) Ag Bj) Ae)) (fun _ _ _ _ _=>by exact(Je (Kq:=K) rfl (n:=2) rfl (Bu (Bb (i:=0) (by show (["number", "row", "places", "conditions"]:List Str).Nodup;decide +kernel) rfl (Or.inl rfl)) (Bu (Bb (i:=1) (by show (["number", "row", "places", "conditions"]:List Str).Nodup;decide +kernel) rfl (Or.inl rfl)) G4)))) (fun _ _ _ _ _=>by exact(Oj (Fp (Bk D_all_hold hr (Af (qv 1) (Af (qv 2) (Af (qv 3) Ae))))))) (fun _ _ _ _ _=>by exact(qv 0)))))))) ?_
 exact O4 (Um (A9q (Ab Aa (Ab (Oi (Aw (Ab Aa Aj))) Aj)))
  (Um (A2p (Ab Aa Aj))
  (Ms (Bc (Oi (G6 (by decide) (A9i (Al Aa (Ar rfl) Bf)) (Kr (Ce Ai (Ce Ai Hi))) (M9 (Aw (Ab Aa (Ab Aa (Ab Aa Aj))))) Aa)))))) h
theorem T7 {f:Addr}{fd:FuncData}(F:Fun K "cells_where" "cells_where" Jk f fd) (D_cells_along:Def P w K mg base "cells_along" 1 ["wide"] (spP K Dg)) (D_unfolded:Def P w K mg base "unfolded" 2 ["wide"] (spP K Ei)) (D_rows_where:DefX P w K mg base "rows_where" 6 ["table", "conditions"] (spX K Bm)):FnOk P w K mg base (CXe P w) 7 f fd ["wide", "conditions"] (spX K Cr):=by
 refine F.okX yC (fun vs H Q E h=>Ob h) (fun cdv A outer s H vs Q E hr h=>?_)
 have hu:=hr.units;have hgd:=hr.gd
 refine Gk (Ah (Bt (i:=2) yC.nd rfl (Or.inr rfl) (by exact(Im (N':=["part", "head", "each"]) (idx:=[none,none,none]) (Ej rfl rfl (by decide +kernel) rfl rfl rfl) rfl (Ge (Kq:=K) rfl (Bk D_cells_along hr (Af (qv 0) Ae))) (fun _ _ _ _ _=>by exact(Je (Kq:=K) rfl (n:=3) rfl (Bu (Bb (i:=0) (by show (["part", "head", "each"]:List Str).Nodup;decide +kernel) rfl (Or.inl rfl)) (Bu (Bb (i:=1) (by show (["part", "head", "each"]:List Str).Nodup;decide +kernel) rfl (Or.inl rfl)) (Bu (Bb (i:=2) (by show (["part", "head", "each"]:List Str).Nodup;decide +kernel) rfl (Or.inl rfl)) G4))))) (fun _ _ _ _ _=>by exact(Oj (Nk (qv 2) Fq))) (fun _ _ _ _ _=>by exact(Eo (Af (qv 0) (Af (qv 1) Ae)))))))
  (An (Bd (by exact(Im (N':=["number", "pairs"]) (idx:=[none,some 2]) (Ej rfl rfl (by decide +kernel) rfl rfl rfl) rfl (Ge (Kq:=K) rfl (Ak2 Qf D_rows_where hr (Af (Bk D_unfolded hr (Af (qv 0) Ae)) (Af (qv 1) Ae)))) (fun _ _ _ _ _=>by exact(Bb (i:=0) (by show (["number", "pairs"]:List Str).Nodup;decide +kernel) rfl (Or.inl rfl))) (fun _ _ _ _ _=>by exact Fg) (fun _ _ _ _ _=>by exact(Cd (Kq:=K) rfl (qv 1) (qv 0) Nq))))))) ?_
 exact O4 (Um (Ms (Bo (G6 (by decide) (Fo (Aw (Ab Aa Aj))) (Kr (Ce Ai (Ce Ai (Ce Ai Hi)))) (Bg (Al Aa (Ar rfl) Ug)) (Fl (Ab Aa (Ab Aa Aj)))) Ai))
  (A1e (F:=Bm) (vs:=[]) (Ab (Aw (Ab Aa Aj)) (Ab Aa Aj)) (Bc (Oi (G6 (by decide) (Fo (Vt (Ab (Aw (Ab Aa Aj)) (Ab Aa Aj)))) Ai Gv (Al Aa Aa Bf)))) (fun σ H D hb hq=>by exact hq _))) h
theorem Xv   (F:Fun K "_law_cell_at" "_law_cell_at" K9 f c) (a:mg "len" = none):FnOk P w K mg base CX0 1 f c ["_law_script", "_law_k"] (spP K Ew):=by
 refine F.ok Xf (fun g H Q E h=>Dz h) (fun i A b s H g Q E d h=>?_)
 have j:=d.units;have e:=d.gd
 refine Gk (Ah (Dn (Zg (qv 1) (K6  rfl rfl a (Af (qv 0) Ae))) (An (Bd (Ba5 (show IxR _ _ from Bf0) (qv 0) (qv 1) Nq))) Br)
  (An (Bd Ag))) ?_
 exact Ds (Ax (Dv (Bg (Al Aa (La Aa) Al5)) (Bc (Bo0 Aa Aa)) Bq)
  (Bc (Ar rfl))) h
theorem A4q {f:Addr}{g:FuncData}(F:Fun K "_law_box" "_law_box" Xe f g) (a:Def P w K mg base "_law_cell_at" 1 ["_law_script", "_law_k"] (spP K Ew)) (b:mg "abs" = none) (c:mg "int" = none):FnOk P w K mg base CX0 2 f g ["_law_script", "_law_k"] (spP K Lp):=by
 refine F.ok yK (fun k H Q E h=>Dz h) (fun l A e s H k Q E d h=>?_)
 have m:=d.units;have j:=d.gd
 refine Gk (Ah (Bt (i:=2) yK.nd rfl (Or.inl rfl) (Bk a d (Af (qv 0) (Af (qv 1) Ae))))
  (An (Bd (Eg (Af (Hr (Rg (Kq:=K) rfl rfl b (Af (qv 2) Ae)) (Yr (Kq:=K) rfl rfl c (Af (A0m (Rg (Kq:=K) rfl rfl b (Af (qv 2) Ae)) (Hs Ag Ag)) Ae))) (Af (Dk (Dk (Gu (qv 2) Ag) (Hr Ag (qv 1))) Ag) (Af Ag Ae))))))) ?_
 exact Ds (Ax (Bo (Aw (Ab Aa (Ab Aa Aj))) Ai)
  (Bc (Ef (Ab (Al (Cz Aa An5) (Cz (Al (Cz Aa An5) (Al (Ar rfl) (Ar rfl) Mp) Bo8) A9j) Jw) (Ab (Al (Al (Al Aa (Ar rfl) Kh) (Al (Ar rfl) Aa Jw) Cp) (Ar rfl) Cp) (Ab (Ar rfl) Aj)))))) h
theorem Ay1   (F:Fun K "_law_take" "_law_take" Ue f b):FnOk P w K mg base CX0 1 f b ["_law_box_here", "_law_many_here"] (spP K Ak):=by
 refine F.ok zW (fun d H Q E h=>Dz h) (fun g A a s H d Q E c h=>?_)
 have j:=c.units;have e:=c.gd
 refine Gk (Ah (Dn (A3f (Cd (Kq:=K) rfl (qv 0) Ag Bj) Ag) (Ah (Bt (i:=2) zW.nd rfl (Or.inl rfl) (Gu (Cd (Kq:=K) rfl (qv 0) Ag Bj) (qv 1)))
  (Ah (Af7 (Uk (Cd (Kq:=K) rfl (qv 0) Ag Bj) (qv 1)) (A0y (qv 0) Ag set_list))
  (An (Bd (qv 2))))) Br)
  (Ah (Af7 (Dk (Cd (Kq:=K) rfl (qv 0) Ag Bj) Ag) (A0y (qv 0) Ag set_list))
  (Ah (Bt (i:=3) zW.nd rfl (Or.inl rfl) (Gu (Hr (Dk (Cd (Kq:=K) rfl (qv 0) Ag Bj) (Hr Ag (Cd (Kq:=K) rfl (qv 0) Ag Bj))) (Dk Ag (Cd (Kq:=K) rfl (qv 0) Ag Bj))) Ag))
  (Ah (Bt (i:=4) zW.nd rfl (Or.inl rfl) (Gu (Hr (Dk (qv 3) (Cd (Kq:=K) rfl (qv 0) Ag Bj)) (Dk (Gu (qv 3) Ag) Ag)) Ag))
  (An (Bd (Gu (Uk (Gu (Dk (Hr (qv 4) Ag) (qv 3)) Ag) Ag) (qv 1)))))))) ?_
 exact Ds (Ax (Dv (Bg (Al (Al Aa (Ar rfl) Bf) (Ar rfl) Bd5)) (Ax (Bo (Al (Al Aa (Ar rfl) Bf) Aa Kh) Ai)
  (Ax (Bo (Al (Al Aa (Ar rfl) Bf) Aa Ab1) (A1r Aa (Ar rfl)))
  (Bc Aa))) Bq)
  (Ax (Bo (Al (Al Aa (Ar rfl) Bf) (Ar rfl) Cp) (A1r Aa (Ar rfl)))
  (Ax (Bo (Al (Al (Al (Al Aa (Ar rfl) Bf) (Al (Ar rfl) (Al Aa (Ar rfl) Bf) Jw) Cp) (Al (Ar rfl) (Al Aa (Ar rfl) Bf) Cp) Jw) (Ar rfl) Kh) Ai)
  (Ax (Bo (Al (Al (Al Aa (Al Aa (Ar rfl) Bf) Cp) (Al (Al Aa (Ar rfl) Kh) (Ar rfl) Cp) Jw) (Ar rfl) Kh) Ai)
  (Bc (Al (Al (Al (Al (Al Aa (Ar rfl) Jw) Aa Cp) (Ar rfl) Kh) (Ar rfl) Ab1) Aa Kh)))))) h
theorem Ax2 {f:Addr}{d:FuncData}(F:Fun K "_law_many" "_law_many" S6 f d) (a:Def P w K mg base "_law_take" 1 ["_law_box_here", "_law_many_here"] (spP K Ak)):FnOk P w K mg base CX0 2 f d ["_law_box_here", "_law_least", "_law_few", "_law_most"] (spP K Gw):=by
 refine F.ok Ar1 (fun g H Q E h=>Dz h) (fun i A c s H g Q E b h=>?_)
 have e:=b.gd
 refine Gk (Ah (Dn (Lr b.units (Bk a b (Af (qv 0) (Af Ag Ae))) Ag) (An (Bd (Dk Ag (Bk a b (Af (qv 0) (Af (Fz (qv 3) Ag) Ae)))))) Br)
  (An (Bd (Dk (qv 1) (Bk a b (Af (qv 0) (Af (Dk (Fz (qv 2) (qv 1)) Ag) Ae))))))) ?_
 exact Ds (Ax (Dv (Bg (Al (Aw (Ab Aa (Ab (Ar rfl) Aj))) (Ar rfl) Es)) (Bc (Al (Ar rfl) (Aw (Ab Aa (Ab (Al Aa (Ar rfl) Ja) Aj))) Cp)) Bq)
  (Bc (Al Aa (Aw (Ab Aa (Ab (Al (Al Aa Aa Ja) (Ar rfl) Cp) Aj))) Cp))) h
theorem Ai2 {f:Addr}{m:FuncData}(F:Fun K "_law_names" "_law_names" Qe f m) (d:Def P w K mg base "_law_take" 1 ["_law_box_here", "_law_many_here"] (spP K Ak)) (g:mg "len" = none) (e:mg "range" = none):FnOk P w K mg base CX0 2 f m ["_law_box_here", "_law_many_here"] (spP K Gq):=by
 refine F.ok yH (fun l H Q E h=>Dz h) (fun n A j s H l Q E k h=>?_)
 have p:=k.units;have o:=k.gd
 refine Gk (Ah (Bt (i:=2) yH.nd rfl (Or.inr rfl) (Eg (Jr (vs:=[.str "b",.str "a",.str "year",.str "z",.str "ab",.str "month",.str "aa",.str "quantity",.str "c",.str "town",.str "zz",.str "ba"]) rfl)))
  (An (Bd (by exact(Im (N':=["_law_turn", "_law_some", "_law_box_here"]) (idx:=[none,some 2,some 0]) (Ej rfl rfl (by decide +kernel) rfl rfl rfl) rfl (Gr rfl e (Af (qv 1) Ae)) (fun _ _ _ _ _=>by exact(Bb (i:=0) (by show (["_law_turn", "_law_some", "_law_box_here"]:List Str).Nodup;decide +kernel) rfl (Or.inl rfl))) (fun _ _ _ _ _=>by exact Fg) (fun _ _ _ _ _=>by exact(An8 (Kq:=K) rfl PySem.F.plainAttrs_list PySem.F.slot_list_pop PySem.F.type_list_pop A4v (qv 1) (Af (Bk d k (Af (qv 2) (Af (K6 (Kq:=K) rfl rfl g (Af (qv 1) Ae)) Ae))) Ae)))))))) ?_
 exact Ds (Ax (Bo (Ef (A1t rfl)) Ai)
  (Bc (G6 (by decide) (J5 Aa) Ai Gv (A2m Aa (Aw (Ab Aa (Ab (La Aa) Aj))))))) h
theorem Ae2   (F:Fun K "_law_value" "_law_value" Qo f g) (c:Def P w K mg base "_law_take" 1 ["_law_box_here", "_law_many_here"] (spP K Ak)):FnOk P w K mg base CX0 2 f g ["_law_box_here"] (spP K Bp):=by
 refine F.ok yI (fun k H Q E h=>Dz h) (fun m A e s H k Q E d h=>?_)
 have j:=d.units;have l:=d.gd
 refine Gk (Ah (Bt (i:=1) yI.nd rfl (Or.inl rfl) (Bk c d (Af (qv 0) (Af Ag Ae))))
  (Ah (Dn (Zg (qv 1) Ag) (An (Bd (Fz (Bk c d (Af (qv 0) (Af Ag Ae))) Ag))) Br)
  (Ah (Dn (Lr j (qv 1) Ag) (An (Bd (Cd (Kq:=K) rfl (Eg (Af (Fz (Hs Ag Ag) Ag) (Af (Fz Ag (Hs Ag Ag)) (Af Ag (Af Ag Ae))))) (Bk c d (Af (qv 0) (Af Ag Ae))) Ek))) Br)
  (Ah (Dn (Lr j (qv 1) Ag) (An (Bd Fq)) Br)
  (An (Bd (Cd (Kq:=K) rfl (Eg (Jr (vs:=[.str "",.str "a",.str "b",.str "B",.str "10",.str "9",.str "-",.str "a b",.str "it's",.str "\\",.str "/",.str "_",.str ":",.str "None",.str "ab"]) rfl)) (Bk c d (Af (qv 0) (Af Ag Ae))) Ek))))))) ?_
 exact Ds (Ax (Bo (Aw (Ab Aa (Ab (Ar rfl) Aj))) Ai)
  (Ax (Dv (Bg (Al Aa (Ar rfl) Al5)) (Bc (Al (Aw (Ab Aa (Ab (Ar rfl) Aj))) (Ar rfl) Ja)) Bq)
  (Ax (Dv (Bg (Al Aa (Ar rfl) Es)) (Bc (Al (Ef (Ab (Al (Al (Ar rfl) (Ar rfl) Mp) (Ar rfl) Ja) (Ab (Al (Ar rfl) (Al (Ar rfl) (Ar rfl) Mp) Ja) (Ab (Ar rfl) (Ab (Ar rfl) Aj))))) (Aw (Ab Aa (Ab (Ar rfl) Aj))) Bf)) Bq)
  (Ax (Dv (Bg (Al Aa (Ar rfl) Es)) (Bc (Ar rfl)) Bq)
  (Bc (Al (Ef (A1t rfl)) (Aw (Ab Aa (Ab (Ar rfl) Aj))) Bf)))))) h
theorem Ab5 {f:Addr}{d:FuncData}(F:Fun K "_law_number" "_law_number" Nm f d) (a:Def P w K mg base "_law_take" 1 ["_law_box_here", "_law_many_here"] (spP K Ak)):FnOk P w K mg base CX0 2 f d ["_law_box_here"] (spP K Cw):=by
 refine F.ok Ab9 (fun g H Q E h=>Dz h) (fun i A c s H g Q E b h=>?_)
 have e:=b.gd
 refine Gk (Ah (Dn (Lr b.units (Bk a b (Af (qv 0) (Af Ag Ae))) Ag) (An (Bd (Cd (Kq:=K) rfl (Eg (Af (Fz (Hs Ag Ag) Ag) (Af (Fz Ag (Hs Ag Ag)) (Af (Hs Ag Ag) (Af Ag Ae))))) (Bk a b (Af (qv 0) (Af Ag Ae))) Ek))) Br)
  (An (Bd (Fz (Bk a b (Af (qv 0) (Af Ag Ae))) Ag)))) ?_
 exact Ds (Ax (Dv (Bg (Al (Aw (Ab Aa (Ab (Ar rfl) Aj))) (Ar rfl) Es)) (Bc (Al (Ef (Ab (Al (Al (Ar rfl) (Ar rfl) Mp) (Ar rfl) Ja) (Ab (Al (Ar rfl) (Al (Ar rfl) (Ar rfl) Mp) Ja) (Ab (Al (Ar rfl) (Ar rfl) Mp) (Ab (Ar rfl) Aj))))) (Aw (Ab Aa (Ab (Ar rfl) Aj))) Bf)) Bq)
  (Bc (Al (Aw (Ab Aa (Ab (Ar rfl) Aj))) (Ar rfl) Ja))) h
theorem Ax1 {f:Addr}{e:FuncData}(F:Fun K "_law_pool" "_law_pool" T8 f e) (a:Def P w K mg base "_law_value" 2 ["_law_box_here"] (spP K Bp)) (b:mg "range" = none):FnOk P w K mg base CX0 3 f e ["_law_box_here", "_law_many_here"] (spP K Hq):=by
 refine F.ok zX (fun j H Q E h=>Dz h) (fun k A c s H j Q E d h=>?_)
 have g:=d.gd
 refine Gk (Ah (Bt (i:=2) zX.nd rfl (Or.inl rfl) (Eg Ae))
  (Ah (Mh PassesOwn.never rfl (Gr rfl b (Af (qv 1) Ae)) (Bb (i:=3) zX.nd rfl (Or.inl rfl)) (Ah (Bt (i:=4) zX.nd rfl (Or.inl rfl) (Bk a d (Af (qv 0) Ae)))
  (An (Dn (Hj d.units (qv 4) (qv 2) (by trivial)) (An (J3 (Js (Kq:=K) rfl (qv 2) (qv 4)))) Br))))
  (An (Bd (qv 2))))) ?_
 exact Ds (Ax (Bo (Ef Aj) Ai)
  (Ax (M8 (J5 Aa) Ai (Ax (Bo (Aw (Ab Aa Aj)) Ai)
  (Dv (Bg (Al Aa Aa Jo)) (Ml (Ud Aa Aa)) Bq)))
  (Bc Aa))) h
theorem Y9 {f:Addr}{k:FuncData}(F:Fun K "_law_tuples" "_law_tuples" Nh f k) (b:Def P w K mg base "_law_take" 1 ["_law_box_here", "_law_many_here"] (spP K Ak)) (c:Def P w K mg base "_law_pool" 3 ["_law_box_here", "_law_many_here"] (spP K Hq)) (e:mg "len" = none) (a:mg "range" = none) (d:mg "tuple" = none):FnOk P w K mg base CX0 4 f k ["_law_box_here", "_law_wide_here", "_law_many_here"] (spP K Fx):=by
 refine F.ok zM (fun n H Q E h=>Dz h) (fun l A j s H n Q E g h=>?_)
 have m:=g.gd
 refine Gk (Ah (Bt (i:=3) zM.nd rfl (Or.inr rfl) (Bk c g (Af (qv 0) (Af Ag Ae))))
  (Ah (Bt (i:=4) zM.nd rfl (Or.inl rfl) (Eg Ae))
  (Ah (Mh PassesOwn.never rfl (Gr rfl a (Af (qv 2) Ae)) (Bb (i:=5) zM.nd rfl (Or.inl rfl)) (Ah (Bt (i:=6) zM.nd rfl (Or.inl rfl) (Bs (Kq:=K) rfl rfl d (Af (by exact(Im (N':=["_law_k", "_law_pool_here", "_law_box_here"]) (idx:=[none,some 3,some 0]) (Ej rfl rfl (by decide +kernel) rfl rfl rfl) rfl (Gr rfl a (Af (qv 1) Ae)) (fun _ _ _ _ _=>by exact(Bb (i:=0) (by show (["_law_k", "_law_pool_here", "_law_box_here"]:List Str).Nodup;decide +kernel) rfl (Or.inl rfl))) (fun _ _ _ _ _=>by exact Fg) (fun _ _ _ _ _=>by exact(Cd (Kq:=K) rfl (qv 1) (Bk b g (Af (qv 2) (Af (K6 (Kq:=K) rfl rfl e (Af (qv 1) Ae)) Ae))) Ek)))) Ae)))
  (An (Dn (Hj g.units (qv 6) (qv 4) (by with_unfolding_all rfl)) (An (J3 (Js (Kq:=K) rfl (qv 4) (qv 6)))) Br))))
  (An (Bd (qv 4)))))) ?_
 exact Ds (Ax (Bo (Aw (Ab Aa (Ab (Ar rfl) Aj))) Ai)
  (Ax (Bo (Ef Aj) Ai)
  (Ax (M8 (J5 Aa) Ai (Ax (Bo (Cz (G6 (by decide) (J5 Aa) Ai Gv (Al Aa (Aw (Ab Aa (Ab (La Aa) Aj))) Bf)) Fe) Ai)
  (Dv (Bg (Al Aa Aa Jo)) (Ml (Ud Aa Aa)) Bq)))
  (Bc Aa)))) h
theorem Ax8 {f:Addr}{o:FuncData}(F:Fun K "_law_wide" "_law_wide" Tp f o) (a:Def P w K mg base "_law_take" 1 ["_law_box_here", "_law_many_here"] (spP K Ak)) (d:Def P w K mg base "_law_many" 2 ["_law_box_here", "_law_least", "_law_few", "_law_most"] (spP K Gw)) (m:Def P w K mg base "_law_names" 2 ["_law_box_here", "_law_many_here"] (spP K Gq)) (l:Def P w K mg base "_law_value" 2 ["_law_box_here"] (spP K Bp)) (e:Def P w K mg base "_law_number" 2 ["_law_box_here"] (spP K Cw)) (c:Def P w K mg base "_law_tuples" 4 ["_law_box_here", "_law_wide_here", "_law_many_here"] (spP K Fx)) (b:mg "tuple" = none):FnOk P w K mg base CX0 5 f o ["_law_box_here", "_law_numbers"] (spP K Mj):=by
 refine F.ok zA (fun r H Q E h=>Dz h) (fun q A n s H r Q E g h=>?_)
 have p:=g.units;have t:=g.gd
 refine Gk (Ah (Bt (i:=2) zA.nd rfl (Or.inl rfl) (Bk m g (Af (qv 0) (Af Ag Ae))))
  (Ah (A6r (i:=3) (j:=4) (k:=5) rfl zA.nd rfl rfl rfl (by decide) (by decide) (by decide) rfl rfl rfl (Af (Bk a g (Af (qv 0) (Af Ag Ae))) (Af (Bk a g (Af (qv 0) (Af Ag Ae))) (Af (Dk Ag (Bk a g (Af (qv 0) (Af Ag Ae)))) Ae))) rfl)
  (Ah (Dn (Lr p (Bk a g (Af (qv 0) (Af Ag Ae))) Ag) (An (Bt (i:=5) zA.nd rfl (Or.inl rfl) (Dk Ag (Bk a g (Af (qv 0) (Af Ag Ae)))))) Br)
  (Ah (Bk6 (i:=6) (j:=7) rfl zA.nd rfl rfl (by decide) rfl rfl (Af (Az3 (Kq:=K) rfl (qv 2) A6v (Og (qv 3))) (Af (Az3 (Kq:=K) rfl (qv 2) (Og (qv 3)) (Og (Dk (qv 3) (qv 4)))) Ae)) rfl)
  (Ah (Bt (i:=8) zA.nd rfl (Or.inl rfl) (Az3 (Kq:=K) rfl (qv 2) (Og (Dk (qv 3) (qv 4))) (Og (Dk (Dk (qv 3) (qv 4)) (qv 5)))))
  (Ah (Bt (i:=9) zA.nd rfl (Or.inl rfl) (Bk c g (Af (qv 0) (Af (qv 4) (Af (Bk d g (Af (qv 0) (Af Ag (Af Ag (Af Ag Ae))))) Ae)))))
  (Ah (Bt (i:=10) zA.nd rfl (Or.inl rfl) (Cd (Kq:=K) rfl (Eg (Af Ag (Af Ag (Af Ag Ae)))) (Bk a g (Af (qv 0) (Af Ag Ae))) Ek))
  (Ah (Bt (i:=11) zA.nd rfl (Or.inl rfl) (Eg Ae))
  (Ah (Mh PassesOwn.never rfl (Ge (Kq:=K) rfl (Bk c g (Af (qv 0) (Af (qv 3) (Af (Bk d g (Af (qv 0) (Af Ag (Af Ag (Af Ag Ae))))) Ae))))) (Bb (i:=12) zA.nd rfl (Or.inl rfl)) (Ah (Bt (i:=13) zA.nd rfl (Or.inl rfl) (Eg Ae))
  (Ah (Mh PassesOwn.never rfl (Ge (Kq:=K) rfl (qv 9)) (Bb (i:=14) zA.nd rfl (Or.inl rfl)) (Ah (Bt (i:=15) zA.nd rfl (Or.inl rfl) (Bs (Kq:=K) rfl rfl b (Af (by exact(Im (N':=["_law_name", "_law_numbers", "_law_box_here"]) (idx:=[none,some 1,some 0]) (Ej rfl rfl (by decide +kernel) rfl rfl rfl) rfl (Ge (Kq:=K) rfl (qv 8)) (fun _ _ _ _ _=>by exact(Bb (i:=0) (by show (["_law_name", "_law_numbers", "_law_box_here"]:List Str).Nodup;decide +kernel) rfl (Or.inl rfl))) (fun _ _ _ _ _=>by exact Fg) (fun _ _ _ _ _=>by exact(U0 (Fp (qv 1)) (Bk e g (Af (qv 2) Ae)) (Bk l g (Af (qv 2) Ae)))))) Ae)))
  (An (J3 (Js (Kq:=K) rfl (qv 13) (U0 (Lr p (Bk a g (Af (qv 0) (Af (qv 10) Ae))) Ag) Fq (qv 15)))))))
  (An (J3 (Js (Kq:=K) rfl (qv 11) (Eo (Af (qv 12) (Af (Bs (Kq:=K) rfl rfl b (Af (qv 13) Ae)) Ae)))))))))
  (An (Bd (Eo (Af (Bs (Kq:=K) rfl rfl b (Af (qv 6) Ae)) (Af (Bs (Kq:=K) rfl rfl b (Af (qv 7) Ae)) (Af (Bs (Kq:=K) rfl rfl b (Af (qv 8) Ae)) (Af (Bs (Kq:=K) rfl rfl b (Af (qv 9) Ae)) (Af (Bs (Kq:=K) rfl rfl b (Af (qv 11) Ae)) Ae))))))))))))))))) ?_
 exact Ds (Ax (Bo (Aw (Ab Aa (Ab (Ar rfl) Aj))) Ai)
  (Ax (A6u (Ab (Aw (Ab Aa (Ab (Ar rfl) Aj))) (Ab (Aw (Ab Aa (Ab (Ar rfl) Aj))) (Ab (Al (Ar rfl) (Aw (Ab Aa (Ab (Ar rfl) Aj))) Cp) Aj))))
  (Ax (Dv (Bg (Al (Aw (Ab Aa (Ab (Ar rfl) Aj))) (Ar rfl) Es)) (Bo (Al (Ar rfl) (Aw (Ab Aa (Ab (Ar rfl) Aj))) Cp) Ai) Bq)
  (Ax (Bm6 (Ab (A0h Aa A8k (Pu Aa) Yw) (Ab (A0h Aa (Pu Aa) (Pu (Al Aa Aa Cp)) Yw) Aj)))
  (Ax (Bo (A0h Aa (Pu (Al Aa Aa Cp)) (Pu (Al (Al Aa Aa Cp) Aa Cp)) Yw) Ai)
  (Ax (Bo (Aw (Ab Aa (Ab Aa (Ab (Aw (Ab Aa (Ab (Ar rfl) (Ab (Ar rfl) (Ab (Ar rfl) Aj))))) Aj)))) Ai)
  (Ax (Bo (Al (Ef (Ab (Ar rfl) (Ab (Ar rfl) (Ab (Ar rfl) Aj)))) (Aw (Ab Aa (Ab (Ar rfl) Aj))) Bf) Ai)
  (Ax (Bo (Ef Aj) Ai)
  (Ax (M8 (Fo (Aw (Ab Aa (Ab Aa (Ab (Aw (Ab Aa (Ab (Ar rfl) (Ab (Ar rfl) (Ab (Ar rfl) Aj))))) Aj))))) Ai (Ax (Bo (Ef Aj) Ai)
  (Ax (M8 (Fo Aa) Ai (Ax (Bo (Cz (G6 (by decide) (Fo Aa) Ai Gv (Af1 (M9 Aa) (Aw (Ab Aa Aj)) (Aw (Ab Aa Aj)))) Fe) Ai)
  (Ml (Ud Aa (Af1 (Bg (Al (Aw (Ab Aa (Ab Aa Aj))) (Ar rfl) Es)) (Ar rfl) Aa)))))
  (Ml (Ud Aa (Fl (Ab Aa (Ab (Cz Aa Fe) Aj))))))))
  (Bc (Fl (Ab (Cz Aa Fe) (Ab (Cz Aa Fe) (Ab (Cz Aa Fe) (Ab (Cz Aa Fe) (Ab (Cz Aa Fe) Aj)))))))))))))))) h
theorem Av6 {n:Nat}{f:Addr}{r:FuncData}(F:Fun K "_law_same" "_law_same" Nv f r) (g:Def P w K mg base "_law_same" (n) ["_law_found", "_law_due_here"] (spP K (Ck n))) (m:mg "all" = none) (d:mg "bool" = none) (l:mg "int" = none) (a:mg "isinstance" = none) (j:mg "len" = none) (c:mg "list" = none) (e:mg "str" = none) (b:mg "tuple" = none) (k:mg "zip" = none):FnOk P w K mg base CX0 (n+1) f r ["_law_found", "_law_due_here"] (spP K (Ck (n+1))):=by
 refine F.ok Ax0 (fun u H Q E h=>Dz h) (fun x A p s H u Q E q h=>?_)
 have o:=q.units;have t:=q.gd
 refine Gk (Ah (Dn (Fp (Wv (Kq:=K) rfl rfl a (Af (qv 1) (Af (Eo (Af (Dq (v:=.ty "list") rfl c Oo rfl) (Af (Dq (v:=.ty "tuple") rfl b N5 rfl) Ae))) Ae)))) (Ah (Dn (QW.qt (Zv (Z6 o (By (Kq:=K) rfl rfl a (Af (qv 0) (Af (Dq (v:=.ty "list") rfl c Oo rfl) Ae))) (By (Kq:=K) rfl rfl a (Af (qv 1) (Af (Dq (v:=.ty "list") rfl c Oo rfl) Ae)))) (Yy (Z6 o (By (Kq:=K) rfl rfl a (Af (qv 0) (Af (Dq (v:=.ty "tuple") rfl b N5 rfl) Ae))) (By (Kq:=K) rfl rfl a (Af (qv 1) (Af (Dq (v:=.ty "tuple") rfl b N5 rfl) Ae))))))) (An (Bd Tg)) Br)
  (An (Bd (U8 (Wk o (K6 (Kq:=K) rfl rfl j (Af (qv 0) Ae)) (K6 (Kq:=K) rfl rfl j (Af (qv 1) Ae))) (Xr (Ph (Kq:=K) rfl rfl rfl m (Af (by exact(Im (N':=["_law_one", "_law_other"]) (idx:=[none,none]) (Ej rfl rfl (by decide +kernel) rfl rfl rfl) rfl (Ag2 rfl k (Af (qv 0) (Af (qv 1) Ae))) (fun _ _ _ _ _=>by exact(Je (Kq:=K) rfl (n:=2) rfl (Bu (Bb (i:=0) (by show (["_law_one", "_law_other"]:List Str).Nodup;decide +kernel) rfl (Or.inl rfl)) (Bu (Bb (i:=1) (by show (["_law_one", "_law_other"]:List Str).Nodup;decide +kernel) rfl (Or.inl rfl)) G4)))) (fun _ _ _ _ _=>by exact Fg) (fun _ _ _ _ _=>by exact(Bk g q (Af (qv 0) (Af (qv 1) Ae)))))) Ae))))))) Br)
  (Ah (Dn (QW.qt (Zv (Mi (qv 1) Fq) (Yy (Fp (By (Kq:=K) rfl rfl a (Af (qv 1) (Af (Dq (v:=.ty "str") rfl e S9 rfl) Ae))))))) (An (Bd (U8 (Wk o (qv 0) (qv 1)) (Xr (Wk o (By (Kq:=K) rfl rfl a (Af (qv 0) (Af (Dq (v:=.ty "str") rfl e S9 rfl) Ae))) (By (Kq:=K) rfl rfl a (Af (qv 1) (Af (Dq (v:=.ty "str") rfl e S9 rfl) Ae)))))))) Br)
  (Ah (Dn (Fp (By (Kq:=K) rfl rfl a (Af (qv 1) (Af (Dq (v:=.ty "bool") rfl d Xg rfl) Ae)))) (An (Bd (U8 (By (Kq:=K) rfl rfl a (Af (qv 0) (Af (Dq (v:=.ty "bool") rfl d Xg rfl) Ae))) (Xr (Wk o (qv 0) (qv 1)))))) Br)
  (An (Bd (U8 (By (Kq:=K) rfl rfl a (Af (qv 0) (Af (Dq (v:=.ty "int") rfl l Ag7 rfl) Ae))) (U8 (Bl7 (By (Kq:=K) rfl rfl a (Af (qv 0) (Af (Dq (v:=.ty "bool") rfl d Xg rfl) Ae)))) (Xr (Wk o (qv 0) (qv 1)))))))))) ?_
 exact Ds (Ax (Dv (M9 (A5w .list .tuple Aa)) (Ax (Dv (Zr (Bg (Al (Ft .list Aa) (Ft .list Aa) Qp)) (Bg (Al (Ft .tuple Aa) (Ft .tuple Aa) Qp))) (Bc (Ar rfl)) Bq)
  (Bc (O5 (Al (La Aa) (La Aa) Es) (Cz (G6 (by decide) (Ah2 Aa Aa) (Kr (Ce Ai (Ce Ai Hi))) Gv (Aw (Ab Aa (Ab Aa Aj)))) Am2)))) Bq)
  (Ax (Dv (Zr (Bg (Al Aa (Ar rfl) Xu)) (M9 (Ft .str Aa))) (Bc (O5 (Al Aa Aa Es) (Al (Ft .str Aa) (Ft .str Aa) Es))) Bq)
  (Ax (Dv (M9 (Ft .bool Aa)) (Bc (O5 (Ft .bool Aa) (Al Aa Aa Es))) Bq)
  (Bc (O5 (Ft _ Aa) (O5 (A7f (Ft _ Aa)) (Al Aa Aa Es))))))) h
theorem Sv {f:Addr}{fd:FuncData}(F:Fun K "_law_same" "_law_same" Nv f fd) (bF:Binds K fd ["_law_found", "_law_due_here"] []) (mF:mg "_law_same" = some (.ref f)) (yD:mg "all" = none) (yJ:mg "bool" = none) (zU:mg "int" = none) (z7:mg "isinstance" = none) (zF:mg "len" = none) (zT:mg "list" = none) (zO:mg "str" = none) (zB:mg "tuple" = none) (zQ:mg "zip" = none):∀n:Nat,FnOk P w K mg base CX0 (n) f fd ["_law_found", "_law_due_here"] (spP K (Ck n))
 | 0=>A4o
 | n+1=>Av6 F ⟨f,fd,Sv F bF mF yD yJ zU z7 zF zT zO zB zQ n,bF,F.kp,mF⟩ yD yJ zU z7 zF zT zO zB zQ
theorem Ar9 {f:Addr}{fd:FuncData}(F:Fun K "_law_told" "_law_told" Uy f fd) (hb:Binds K fd ["_law_call"] []) (gm:mg "_law_told" = some (.ref f)) (zV:mg "ValueError" = none) (z7:mg "isinstance" = none) (zF:mg "len" = none) (k_BadColumns:ClT K mg [("NoColumn",false),("BadWay",false)] "BadColumns") (k_BadOrder:ClT K mg [("NoColumn",false),("BadWay",false)] "BadOrder") (k_BadRow:ClT K mg [("NoColumn",false),("BadWay",false)] "BadRow") (k_BadWay:ClT K mg [("NoColumn",false),("BadWay",true)] "BadWay") (k_Double:ClT K mg [("NoColumn",false),("BadWay",false)] "Double") (k_NoColumn:ClT K mg [("NoColumn",true),("BadWay",false)] "NoColumn") (k_NoHead:ClT K mg [("NoColumn",false),("BadWay",false)] "NoHead") (k_NoNumber:ClT K mg [("NoColumn",false),("BadWay",false)] "NoNumber") (k_NoPart:ClT K mg [("NoColumn",false),("BadWay",false)] "NoPart") (k_NoRow:ClT K mg [("NoColumn",false),("BadWay",false)] "NoRow") (k_ValueError:TbOk K (.type "ValueError") [("NoColumn",true),("BadWay",true)]) (r_NoColumn:ClI K mg ⟨"NoColumn.__init__", "FoldError", "name", "name", "no column ", ""⟩ "NoColumn") (h_FoldError:ClF K mg ["NoColumn", "BadWay"] "FoldError"):Bb0 P w K mg base "_law_told" 1 ["NoColumn", "BadWay"] (spP K Dm):=by
 obtain⟨gt_BadColumns,mt_BadColumns,tb_BadColumns⟩:=k_BadColumns;obtain⟨gt_BadOrder,mt_BadOrder,tb_BadOrder⟩:=k_BadOrder;obtain⟨gt_BadRow,mt_BadRow,tb_BadRow⟩:=k_BadRow;obtain⟨gt_BadWay,mt_BadWay,tb_BadWay⟩:=k_BadWay;obtain⟨gt_Double,mt_Double,tb_Double⟩:=k_Double;obtain⟨gt_NoColumn,mt_NoColumn,tb_NoColumn⟩:=k_NoColumn;obtain⟨gt_NoHead,mt_NoHead,tb_NoHead⟩:=k_NoHead;obtain⟨gt_NoNumber,mt_NoNumber,tb_NoNumber⟩:=k_NoNumber;obtain⟨gt_NoPart,mt_NoPart,tb_NoPart⟩:=k_NoPart;obtain⟨gt_NoRow,mt_NoRow,tb_NoRow⟩:=k_NoRow;have tb_ValueError:=k_ValueError;have xz_NoColumn:=A4e r_NoColumn;obtain⟨gi_NoColumn,gF_NoColumn,fa_NoColumn,fd_NoColumn,od_NoColumn,os_NoColumn,mi_NoColumn,ni_NoColumn,Zi_NoColumn,hi_NoColumn,lk_NoColumn,bi_NoColumn,fi_NoColumn⟩:=r_NoColumn;obtain⟨gf_FoldError,mf_FoldError,xf_FoldError⟩:=h_FoldError
 refine⟨gf_FoldError,A7c F zR hb gm mf_FoldError (fun cdv A outer s H=>by exact(Af7 (Eo (Af Fq (Af Fq Ae))) (Je (Kq:=K) rfl (n:=2) rfl (Bu (Bb (i:=1) zR.nd rfl (Or.inl rfl)) (Bu (Bb (i:=2) zR.nd rfl (Or.inl rfl)) G4))))) (fun cdv A outer s H0 H vs Q E hr h=>?_),xf_FoldError⟩
 have hu:=hr.units;have hgd:=hr.gd
 refine Gk (Ah (Dn (Mi (qv 1) Fq) (An (Bd (qv 0))) Br)
  (Ah (Bt (i:=3) (List.nodup_cons.mp zR.nd).2 rfl (Or.inl rfl) (Eg (Af (Oh (Kq:=K) rfl rfl z7 (Af (qv 1) (Af (Ji rfl mt_BadColumns) Ae))) (Af (Oh (Kq:=K) rfl rfl z7 (Af (qv 1) (Af (Ji rfl mt_NoColumn) Ae))) (Af (Oh (Kq:=K) rfl rfl z7 (Af (qv 1) (Af (Ji rfl mt_BadWay) Ae))) Ae)))))
  (Ah (J3 (Js (Kq:=K) rfl (qv 3) (Oh (Kq:=K) rfl rfl z7 (Af (qv 1) (Af (Ji rfl mt_NoNumber) Ae)))))
  (Ah (Bt (i:=4) (List.nodup_cons.mp zR.nd).2 rfl (Or.inl rfl) (A5s (Kq:=K) rfl rfl z7 (Af (qv 1) (Af (Eo (Af (Ji rfl mt_BadOrder) (Af (Ji rfl mt_BadRow) (Af (Ji rfl mt_Double) (Af (Ji rfl mt_NoHead) (Af (Ji rfl mt_NoPart) (Af (Ji rfl mt_NoRow) Ae))))))) Ae))))
  (Ah (Dn (QW.qt (Zv (Fp (qv 4)) (Zv (Y5 (Fp (Oh (Kq:=K) rfl rfl z7 (Af (qv 1) (Af (Dq (v:=.ty "ValueError") rfl zV Vc rfl) Ae))))) (Yy (Z6 hu (K6 (Kq:=K) rfl rfl zF (Af (by exact(Im (N':=["_law_mark"]) (idx:=[none]) (Ej rfl rfl (by decide +kernel) rfl rfl rfl) rfl (Ge (Kq:=K) rfl (qv 3)) (fun _ _ _ _ _=>by exact(Bb (i:=0) (by show (["_law_mark"]:List Str).Nodup;decide +kernel) rfl (Or.inl rfl))) (fun _ _ _ _ _=>by exact(Oj (Fp (qv 0)))) (fun _ _ _ _ _=>by exact(qv 0)))) Ae)) Ag))))) (An (Bd (Eo (Af Ez (Af (Be0 Ag) (Af Fq Ae)))))) Br)
  (An (Bd (Eo (Af Ez (Af (An8 (Kq:=K) rfl PySem.F.plainAttrs_list PySem.F.slot_list_index PySem.F.type_list_index (As3 rfl hu) (qv 3) (Af Tg Ae)) (Af (U0 (Fp (Cd (Kq:=K) rfl (qv 3) Ag Bj)) (Bq7 (Kq:=K) rfl (qv 1)) Fq) Ae))))))))))) ?_
 exact Ds (Ax (Dv (Bg (A5x Aa)) (Bc Aa) Bq)
  (Ax (Bo (Ef (Ab (O6 rfl tb_BadColumns Aa) (Ab (O6 rfl tb_NoColumn Aa) (Ab (O6 rfl tb_BadWay Aa) Aj)))) Ai)
  (Ax (Ml (Ud Aa (O6 rfl tb_NoNumber Aa)))
  (Ax (Bo (A2w (show Zm K _ [("NoColumn",false),("BadWay",false)] from (Lk tb_BadOrder (Lk tb_BadRow (Lk tb_Double (Lk tb_NoHead (Lk tb_NoPart (A8u tb_NoRow) rfl) rfl) rfl) rfl) rfl)) Aa) Ai)
  (Ax (Dv (Zr (M9 Aa) (Zr (Yu (M9 (O6 rfl tb_ValueError Aa))) (Bg (Al (La (G6 (by decide) (Fo Aa) Ai (M9 Aa) Aa)) (Ar rfl) Qp)))) (Bc (Fl (Ab (Ar rfl) (Ab (Vs (Ar rfl) A7n) (Ab (Ar rfl) Aj))))) Bq)
  (Bc (Fl (Ab (Ar rfl) (Ab (A9w Aa (Ar rfl) Bp9 Ae7) (Ab (Af1 (M9 (Al Aa (Ar rfl) Bf)) (Bs2 xz_NoColumn Aa) (Ar rfl)) Aj)))))))))) h
theorem U3 {f:Addr}{fd:FuncData}(F:Fun K "_law_condition" "_law_condition" Jc f fd) (D_l_take:Def P w K mg base "_law_take" 1 ["_law_box_here", "_law_many_here"] (spP K Ak)) (D_l_value:Def P w K mg base "_law_value" 2 ["_law_box_here"] (spP K Bp)) (zF:mg "len" = none):FnOk P w K mg base CX0 3 f fd ["_law_box_here", "_law_columns"] (spP K Ec):=by
 refine F.ok zG (fun vs H Q E h=>Dz h) (fun cdv A outer s H vs Q E hr h=>?_)
 have hu:=hr.units;have hgd:=hr.gd
 refine Gk (Ah (Bt (i:=2) zG.nd rfl (Or.inl rfl) (Cd (Kq:=K) rfl (qv 1) (Bk D_l_take hr (Af (qv 0) (Af (K6 (Kq:=K) rfl rfl zF (Af (qv 1) Ae)) Ae))) Ek))
  (Ah (Bt (i:=3) zG.nd rfl (Or.inl rfl) (Cd (Kq:=K) rfl (Eg (Jr (vs:=[.str "is",.str "not",.str "below",.str "above"]) rfl)) (Bk D_l_take hr (Af (qv 0) (Af Ag Ae))) Ek))
  (Ah (Dn (Lr hu (Bk D_l_take hr (Af (qv 0) (Af Ag Ae))) Ag) (An (Bt (i:=2) zG.nd rfl (Or.inl rfl) (Cd (Kq:=K) rfl (Eg (Af Ez (Af Ez (Af Ez (Af Ez (Af (Dk (qv 2) Ez) (Af (Bo2 (Kq:=K) rfl PySem.F.plainAttrs_str PySem.F.slot_str_upper PySem.F.type_str_upper A4t (qv 2)) Ae))))))) (Bk D_l_take hr (Af (qv 0) (Af Ag Ae))) Ek))) Br)
  (Ah (Dn (Lr hu (Bk D_l_take hr (Af (qv 0) (Af Ag Ae))) Ag) (An (Bt (i:=3) zG.nd rfl (Or.inl rfl) (Cd (Kq:=K) rfl (Eg (Jr (vs:=[.str "like",.str "",.str "Is",.str "is ",.str "=",.str "least",.str "all",.str "belo",.str "below is"]) rfl)) (Bk D_l_take hr (Af (qv 0) (Af Ag Ae))) Ek))) Br)
  (An (Bd (Eo (Af (qv 2) (Af (qv 3) (Af (Bk D_l_value hr (Af (qv 0) Ae)) Ae)))))))))) ?_
 exact Ds (Ax (Bo (Al Aa (Aw (Ab Aa (Ab (La Aa) Aj))) Bf) Ai)
  (Ax (Bo (Al (Ef (A1t rfl)) (Aw (Ab Aa (Ab (Ar rfl) Aj))) Bf) Ai)
  (Ax (Dv (Bg (Al (Aw (Ab Aa (Ab (Ar rfl) Aj))) (Ar rfl) Es)) (Bo (Al (Ef (Ab (Ar rfl) (Ab (Ar rfl) (Ab (Ar rfl) (Ab (Ar rfl) (Ab (Al Aa (Ar rfl) Cp) (Ab (A3q Aa) Aj))))))) (Aw (Ab Aa (Ab (Ar rfl) Aj))) Bf) Ai) Bq)
  (Ax (Dv (Bg (Al (Aw (Ab Aa (Ab (Ar rfl) Aj))) (Ar rfl) Es)) (Bo (Al (Ef (A1t rfl)) (Aw (Ab Aa (Ab (Ar rfl) Aj))) Bf) Ai) Bq)
  (Bc (Fl (Ab Aa (Ab Aa (Ab (Aw (Ab Aa Aj)) Aj))))))))) h
theorem A1i {f:Addr}{fd:FuncData}(F:Fun K "_law_due" "_law_due" Yl f fd) (yM:mg "any" = none):FnOk P w K mg base CX0 1 f fd ["_law_columns", "_law_conditions"] (spP K Hx):=by
 refine F.ok yL (fun vs H Q E h=>Dz h) (fun cdv A outer s H vs Q E hr h=>?_)
 have hu:=hr.units;have hgd:=hr.gd
 refine Gk (Ah (by exact(Z0 (i:=2) yL.nd rfl (Or.inl rfl) (N':=["_law_name", "_law_word", "_law_value_here", "_law_columns"]) (idx:=[none,none,none,some 0]) (Ej rfl rfl (by decide +kernel) rfl rfl rfl) rfl (Ge (Kq:=K) rfl (qv 1)) (fun _ _ _ _ _=>by exact(Je (Kq:=K) rfl (n:=3) rfl (Bu (Bb (i:=0) (by show (["_law_name", "_law_word", "_law_value_here", "_law_columns"]:List Str).Nodup;decide +kernel) rfl (Or.inl rfl)) (Bu (Bb (i:=1) (by show (["_law_name", "_law_word", "_law_value_here", "_law_columns"]:List Str).Nodup;decide +kernel) rfl (Or.inl rfl)) (Bu (Bb (i:=2) (by show (["_law_name", "_law_word", "_law_value_here", "_law_columns"]:List Str).Nodup;decide +kernel) rfl (Or.inl rfl)) G4))))) (fun _ _ _ _ _=>by exact(Oj (Hj hu (qv 0) (qv 3) (by with_unfolding_all rfl)))) (fun _ _ _ _ _=>by exact(qv 0))))
  (Ah (Dn (Z6 hu (qv 2) (Eg Ae)) (An (Bd (Eo (Af Ez (Af Ag (Af (Cd (Kq:=K) rfl (qv 2) Ag Bj) Ae)))))) Br)
  (Ah (Dn (Fp (W8 (Kq:=K) rfl rfl rfl yM (Af (by exact(Im (N':=["_law_name", "_law_word", "_law_value_here"]) (idx:=[none,none,none]) (Ej rfl rfl (by decide +kernel) rfl rfl rfl) rfl (Ge (Kq:=K) rfl (qv 1)) (fun _ _ _ _ _=>by exact(Je (Kq:=K) rfl (n:=3) rfl (Bu (Bb (i:=0) (by show (["_law_name", "_law_word", "_law_value_here"]:List Str).Nodup;decide +kernel) rfl (Or.inl rfl)) (Bu (Bb (i:=1) (by show (["_law_name", "_law_word", "_law_value_here"]:List Str).Nodup;decide +kernel) rfl (Or.inl rfl)) (Bu (Bb (i:=2) (by show (["_law_name", "_law_word", "_law_value_here"]:List Str).Nodup;decide +kernel) rfl (Or.inl rfl)) G4))))) (fun _ _ _ _ _=>by exact Fg) (fun _ _ _ _ _=>by exact(Xl hu (qv 1) (Eo (Jr (vs:=[.str "is",.str "not",.str "below",.str "above"]) rfl)) (by with_unfolding_all rfl))))) Ae))) (An (Bd (Eo (Af Ez (Af Ag (Af Fq Ae)))))) Br)
  (An (Bd Fq))))) ?_
 exact Ds (Ax (Bo (G6 (by decide) (Fo Aa) (Kr (Ce Ai (Ce Ai (Ce Ai Hi)))) (Bg (Al Aa Aa Jo)) Aa) Ai)
  (Ax (Dv (Bg (Al (Oi Aa) (Ef Aj) Qp)) (Bc (Fl (Ab (Ar rfl) (Ab (Ar rfl) (Ab (Al (Oi Aa) (Ar rfl) Bf) Aj))))) Bq)
  (Ax (Dv (M9 (Cz (G6 (by decide) (Fo Aa) (Kr (Ce Ai (Ce Ai (Ce Ai Hi)))) Gv (Al Aa (Fl (A1t rfl)) Jo)) A9p)) (Bc (Fl (Ab (Ar rfl) (Ab (Ar rfl) (Ab (Ar rfl) Aj))))) Bq)
  (Bc (Ar rfl))))) h
theorem Bg8 {f:Addr}{fd:FuncData}(F:Fun K "law" "law" A0p f fd) {c_ T_:Addr} (hT_:(T_,("law" : Str) ++ ".<locals>." ++ "<lambda>")∈Dy K) (hC_:PySem.W.codeHdIn K c_ T_=true) (hD_:fd.code=.ref c_) (D_unfolded:Def P w K mg base "unfolded" 2 ["wide"] (spP K Ei)) (D_rows_where:DefX P w K mg base "rows_where" 6 ["table", "conditions"] (spX K Bm)) (D_cells_where:DefX P w K mg base "cells_where" 7 ["wide", "conditions"] (spX K Cr)) (D_l_box:Def P w K mg base "_law_box" 2 ["_law_script", "_law_k"] (spP K Lp)) (D_l_take:Def P w K mg base "_law_take" 1 ["_law_box_here", "_law_many_here"] (spP K Ak)) (D_l_wide:Def P w K mg base "_law_wide" 5 ["_law_box_here", "_law_numbers"] (spP K Mj)) (D_l_same:Def P w K mg base "_law_same" 8 ["_law_found", "_law_due_here"] (spP K (Ck 8))) (D_l_told:Bb0 P w K mg base "_law_told" 1 ["NoColumn", "BadWay"] (spP K Dm)) (D_l_condition:Def P w K mg base "_law_condition" 3 ["_law_box_here", "_law_columns"] (spP K Ec)) (D_l_due:Def P w K mg base "_law_due" 1 ["_law_columns", "_law_conditions"] (spP K Hx)) (z7:mg "isinstance" = none) (zF:mg "len" = none) (zT:mg "list" = none) (yN:mg "min" = none) (zP:mg "range" = none) (zO:mg "str" = none):FnOk P w K mg base CX0 11 f fd ["_law_script"] (spP K Af2):=by
 obtain⟨fc__law_told,T__law_told,xt__law_told⟩:=D_l_told
 refine F.okL zJ (fun vs H Q E h=>Dz h) (fun cdv A outer s H vs Q E hcd_ hr h=>?_)
 have hu:=hr.units;have hgd:=hr.gd
 refine Gk (Ah (Mh PassesOwn.never rfl (Gr rfl zP (Af (Dk Ag (Xk (Kq:=K) rfl rfl rfl yN (Af Ag (Af (K6 (Kq:=K) rfl rfl zF (Af (qv 0) Ae)) Ae)))) Ae)) (Bb (i:=1) zJ.nd rfl (Or.inl rfl)) (Ah (Bt (i:=2) zJ.nd rfl (Or.inr rfl) (Bk D_l_box hr (Af (qv 0) (Af (qv 1) Ae))))
  (Ah (Bt (i:=3) zJ.nd rfl (Or.inr rfl) (Bk D_l_wide hr (Af (qv 2) (Af Tg Ae))))
  (Ah (Bt (i:=4) zJ.nd rfl (Or.inr rfl) (Bk D_unfolded hr (Af (qv 3) Ae)))
  (An (Mh PassesOwn.never rfl (Gr rfl zP (Af Ag Ae)) (Bb (i:=5) zJ.nd rfl (Or.inl rfl)) (Ah (Bt (i:=6) zJ.nd rfl (Or.inr rfl) (by exact(Im (N':=["_law_one", "_law_box_here", "_law_table"]) (idx:=[none,some 2,some 4]) (Ej rfl rfl (by decide +kernel) rfl rfl rfl) rfl (Gr rfl zP (Af (Dk Ag (Bk D_l_take hr (Af (qv 2) (Af Ag Ae)))) Ae)) (fun _ _ _ _ _=>by exact(Bb (i:=0) (by show (["_law_one", "_law_box_here", "_law_table"]:List Str).Nodup;decide +kernel) rfl (Or.inl rfl))) (fun _ _ _ _ _=>by exact Fg) (fun _ _ _ _ _=>by exact(Bk D_l_condition hr (Af (qv 1) (Af (Cd (Kq:=K) rfl (qv 2) Ag Bj) Ae)))))))
  (Ah (Bt (i:=7) zJ.nd rfl (Or.inl rfl) (Bk D_l_due hr (Af (Cd (Kq:=K) rfl (qv 4) Ag Bj) (Af (qv 6) Ae))))
  (Ah (Bt (i:=8) zJ.nd rfl (Or.inl rfl) (A2q (Kq:=K) rfl hu hgd rfl zO (Af (Eg (Af (qv 3) (Af (qv 6) Ae))) Ae)))
  (Ah (Bt (i:=9) zJ.nd rfl (Or.inl rfl) (Az5 (Kq:=K) rfl (kg:=6) (G:=["_law_table", "_law_conditions"]) (js:=[4,6]) T__law_told hT_ hC_ (hcd_.symm.trans hD_) hr (fun _=>Z1 _) ⟨Ej rfl rfl (by decide +kernel) rfl rfl rfl,by decide +kernel⟩ (fun _ _ _ _ _ _ _ _ hr=>by exact(Ak2 Tn D_rows_where hr (Af (qv 0) (Af (qv 1) Ae))))))
  (Ah (Bt (i:=10) zJ.nd rfl (Or.inl rfl) (Az5 (Kq:=K) rfl (kg:=7) (G:=["_law_wide_here", "_law_conditions"]) (js:=[3,6]) T__law_told hT_ hC_ (hcd_.symm.trans hD_) hr (fun _=>Z1 _) ⟨Ej rfl rfl (by decide +kernel) rfl rfl rfl,by decide +kernel⟩ (fun _ _ _ _ _ _ _ _ hr=>by exact(Ak2 Tn D_cells_where hr (Af (qv 0) (Af (qv 1) Ae))))))
  (Ah (Dn (QW.qt (A1b (Mi (qv 7) Fq) (Al1 (QW.qt (Zv (Y5 (Fp (By (Kq:=K) rfl rfl z7 (Af (qv 9) (Af (Dq (v:=.ty "list") rfl zT Oo rfl) Ae))))) (Yy (Y5 (Fp (By (Kq:=K) rfl rfl z7 (Af (qv 10) (Af (Dq (v:=.ty "list") rfl zT Oo rfl) Ae))))))))))) (An (Bd Tg)) Br)
  (Ah (Dn (QW.qt (A1b (Nk (qv 7) Fq) (Al1 (Y5 (Fp (Bk D_l_same hr (Af (Eg (Af (qv 9) (Af (qv 10) Ae))) (Af (Eg (Af (qv 7) (Af (qv 7) Ae))) Ae)))))))) (An (Bd Tg)) Br)
  (An (Dn (Z6 hu (A2q (Kq:=K) rfl hu hgd rfl zO (Af (Eg (Af (qv 3) (Af (qv 6) Ae))) Ae)) (qv 8)) (An (Bd Tg)) Br)))))))))))))))
  (An (Bd Tg))) ?_
 exact Ds (Ax (M8 (J5 (Al (Ar rfl) (A8q (Ar rfl) (La Aa)) Cp)) Ai (Ax (Bo (Aw (Ab Aa (Ab Aa Aj))) Ai)
  (Ax (Bo (Aw (Ab Aa (Ab (Ar rfl) Aj))) Ai)
  (Ax (Bo (Aw (Ab Aa Aj)) Ai)
  (M8 (J5 (Ar rfl)) Ai (Ax (Bo (G6 (by decide) (J5 (Al (Ar rfl) (Aw (Ab Aa (Ab (Ar rfl) Aj))) Cp)) Ai Gv (Aw (Ab Aa (Ab (Al Aa (Ar rfl) Bf) Aj)))) Ai)
  (Ax (Bo (Aw (Ab (Al Aa (Ar rfl) Bf) (Ab (Oi Aa) Aj))) Ai)
  (Ax (Bo (Cz (Ef (Ab Aa (Ab (Oi Aa) Aj))) An7) Ai)
  (Ax (Bo (A2c xt__law_told (show MA K (tNs [4,6]) _ from (Ab Aa (Ab Aa Aj)))) Ai)
  (Ax (Bo (A2c xt__law_told (show MA K (tNs [3,6]) _ from (Ab Aa (Ab Aa Aj)))) Ai)
  (Ax (Dv (A0x (Bg (Al Aa (Ar rfl) Xu)) (Zr (Yu (M9 (Ft .list Aa))) (Yu (M9 (Ft .list Aa))))) (Bc (Ar rfl)) Bq)
  (Ax (Dv (A0x (Bg (Al Aa (Ar rfl) Ug)) (Yu (M9 (Aw (Ab (Ef (Ab Aa (Ab Aa Aj))) (Ab (Ef (Ab Aa (Ab Aa Aj))) Aj)))))) (Bc (Ar rfl)) Bq)
  (Dv (Bg (Al (Cz (Ef (Ab Aa (Ab (Oi Aa) Aj))) An7) Aa Qp)) (Bc (Ar rfl)) Bq)))))))))))))
  (Bc (Ar rfl))) h
end
theorem lnS  {us:List Value}(h:us.length=n+1):∃x r,us=x::r/\r.length=n:=by
 cases us with
 | nil=>grind
 | cons x r=>grind
theorem ln1 {us:List Value}(h:us.length=1):∃x0,us=[x0]:=by
 obtain⟨x,r,a,b⟩:=lnS h
 simp_all
theorem ln2 {us:List Value}(h:us.length=2):∃c b,us=[c,b]:=by
 obtain⟨c,r,a,d⟩:=lnS h;obtain⟨b,a⟩:=ln1 d
 grind
theorem ln3 {us:List Value}(h:us.length=3):∃c d b,us=[c,d,b]:=by
 obtain⟨c,r,a,e⟩:=lnS h;obtain⟨d,b,a⟩:=ln2 e
 grind
theorem ln4 {us:List Value}(h:us.length=4):∃c d e b,us=[c,d,e,b]:=by
 obtain⟨c,r,a,f⟩:=lnS h;obtain⟨d,e,b,a⟩:=ln3 f
 grind
theorem mkD            (a:FnOk P w K mg base CX0 k f d ps sp) (b:Binds K d ps []) (c:PySem.W.keepIn K (.ref f)=true) (g:mg x=some (.ref f)):Def P w K mg base x k ps sp:=⟨f,d,a,b,c,g⟩
theorem mkX {P:Program}{w:World}{K:PySem.W.Frag}{mg:Str->Option Value}{base:Heap}{k:Nat}{f:Addr}{fd:FuncData}{x:Str}{ps:List Str}{sp:Sp}(a:FnOk P w K mg base (CXe P w) k f fd ps sp)(b:Binds K fd ps [])(c:PySem.W.keepIn K (.ref f)=true)(g:mg x=some (.ref f)):DefX P w K mg base x k ps sp:=⟨f,fd,a,b,c,g⟩
theorem Dd       (T:PyProof.Rows.Top q loose g mg j h) (k:∀a o,h.get? a=some o->Ep o=true->o.data≠.fields #[]->K.lookup a=some o)  (l:(PyProof.Rows.recsOf q).map (fun d=>(d.name,d.params,d.body,d.scope))=L) {i:Nat}   (e:L[i]?=some (x,Kd st,Dr st,Am st)):∃f fd,Fun K x x st f fd/\mg x=some (.ref f):=by
 obtain⟨d,m,rfl,a,b,c⟩:=Aa9 l e;exact A9o T k m a b c
abbrev rr (x:Str)(i:Nat):Str×Arguments×List Stmt×Scope:=(x,Kd (top i),Dr (top i),Am (top i))
theorem Bb7 {l:PySem.W.OpenLaw}{w:World}{q:Program}{loose:List Str}{mean:ExcName->Option Value}{mg mb:Str->Option Value}{h:Heap}{fa:Addr}(T:PyProof.Rows.Top q loose mean mg mb h)(hfa:mg "law" = some (.ref fa))
 (hlaw:∀ns:List Int,ns.length<=63->Af2 [.sc ns]=.ret (.im (.bool true)) [.sc ns])
 (hR:(PyProof.Rows.recsOf q).map (fun d=>(d.name,d.params,d.body,d.scope))=[rr "rank" 13,rr "stands_ahead" 14,rr "place_of" 16,rr "places_of" 17,rr "cells_along" 19,rr "unfolded" 20,rr "columns_of" 23,rr "check_words" 24,rr "holds" 25,rr "all_hold" 26,rr "rows_where" 27,rr "cells_where" 28,rr "_law_cell_at" 30,rr "_law_box" 31,rr "_law_take" 32,rr "_law_many" 33,rr "_law_names" 34,rr "_law_value" 35,rr "_law_number" 36,rr "_law_pool" 37,rr "_law_tuples" 38,rr "_law_wide" 39,rr "_law_same" 40,rr "_law_told" 41,rr "_law_condition" 42,rr "_law_due" 43,rr "law" 44])
 (hB:(["ValueError", "abs", "all", "any", "bool", "enumerate", "int", "isinstance", "len", "list", "min", "range", "str", "tuple", "zip"]:List Str).all (A5b q loose ["rank", "stands_ahead", "place_of", "places_of", "cells_along", "unfolded", "columns_of", "check_words", "holds", "all_hold", "rows_where", "cells_where", "_law_cell_at", "_law_box", "_law_take", "_law_many", "_law_names", "_law_value", "_law_number", "_law_pool", "_law_tuples", "_law_wide", "_law_same", "_law_told", "_law_condition", "_law_due", "law"])=true)
 (hX:Aw8 tcT mg h)
 (hF:As7 xcR xcT xcV xcF h)
 (hI:Au8 xcJ xcY h) :
 ∃(K:PySem.W.Frag) (fd:FuncData),K.In h/\TabAt K h/\(∀(s:Shared) (v:Value),BindsTo s fd ⟨[v],[]⟩ [("_law_script",v)])/\∀base:Heap,K.In base->base.Ns mainGlobals mg->FnOk l.prog w K mg base CX0 11 fa fd ["_law_script"] (Ap1 K):=by
 obtain⟨d27,m27,n27,p27⟩:=Aa9 hR (i:=26) rfl;obtain⟨yO,T_law,hd_law,ht_law,hc_law⟩:=A7m T m27
 obtain⟨kin,tab,hcd,hK⟩:=Bu0 (h:=h) (tabs:=[(yO,T_law,(("law" : Str) ++ ".<locals>." ++ "<lambda>"))]) (fun t m=>by cases List.mem_singleton.mp m;exact⟨hd_law,ht_law⟩) (fun t m=>by cases List.mem_singleton.mp m;simp)
 obtain⟨lc_law,lt_law⟩:=hcd _ (List.mem_singleton.mpr rfl)
 generalize N7 h [(yO,T_law,(("law" : Str) ++ ".<locals>." ++ "<lambda>"))]=K at *
 obtain⟨f1,fd1,F1,g1⟩:=Dd T hK hR (st:=Yp) (i:=0) rfl
 have b1:=F1.binds (ps:=["value"]) fun _ _ _ _ _ _ us hl=>by obtain⟨_,rfl⟩:=ln1 hl;rfl
 obtain⟨f2,fd2,F2,g2⟩:=Dd T hK hR (st:=Hw) (i:=1) rfl
 have b2:=F2.binds (ps:=["one", "other"]) fun _ _ _ _ _ _ us hl=>by obtain⟨_,_,rfl⟩:=ln2 hl;rfl
 obtain⟨f3,fd3,F3,g3⟩:=Dd T hK hR (st:=Ng) (i:=2) rfl
 have b3:=F3.binds (ps:=["table", "name"]) fun _ _ _ _ _ _ us hl=>by obtain⟨_,_,rfl⟩:=ln2 hl;rfl
 obtain⟨f4,fd4,F4,g4⟩:=Dd T hK hR (st:=K5) (i:=3) rfl
 have b4:=F4.binds (ps:=["table", "names"]) fun _ _ _ _ _ _ us hl=>by obtain⟨_,_,rfl⟩:=ln2 hl;rfl
 obtain⟨f5,fd5,F5,g5⟩:=Dd T hK hR (st:=Jd) (i:=4) rfl
 have b5:=F5.binds (ps:=["wide"]) fun _ _ _ _ _ _ us hl=>by obtain⟨_,rfl⟩:=ln1 hl;rfl
 obtain⟨f6,fd6,F6,g6⟩:=Dd T hK hR (st:=Nu) (i:=5) rfl
 have b6:=F6.binds (ps:=["wide"]) fun _ _ _ _ _ _ us hl=>by obtain⟨_,rfl⟩:=ln1 hl;rfl
 obtain⟨f7,fd7,F7,g7⟩:=Dd T hK hR (st:=J9) (i:=6) rfl
 have b7:=F7.binds (ps:=["conditions"]) fun _ _ _ _ _ _ us hl=>by obtain⟨_,rfl⟩:=ln1 hl;rfl
 obtain⟨f8,fd8,F8,g8⟩:=Dd T hK hR (st:=Jl) (i:=7) rfl
 have b8:=F8.binds (ps:=["conditions"]) fun _ _ _ _ _ _ us hl=>by obtain⟨_,rfl⟩:=ln1 hl;rfl
 obtain⟨f9,fd9,F9,g9⟩:=Dd T hK hR (st:=Ww) (i:=8) rfl
 have b9:=F9.binds (ps:=["value", "word", "told"]) fun _ _ _ _ _ _ us hl=>by obtain⟨_,_,_,rfl⟩:=ln3 hl;rfl
 obtain⟨f10,fd10,F10,g10⟩:=Dd T hK hR (st:=Np) (i:=9) rfl
 have b10:=F10.binds (ps:=["row", "places", "conditions"]) fun _ _ _ _ _ _ us hl=>by obtain⟨_,_,_,rfl⟩:=ln3 hl;rfl
 obtain⟨f11,fd11,F11,g11⟩:=Dd T hK hR (st:=J6) (i:=10) rfl
 have b11:=F11.binds (ps:=["table", "conditions"]) fun _ _ _ _ _ _ us hl=>by obtain⟨_,_,rfl⟩:=ln2 hl;rfl
 obtain⟨f12,fd12,F12,g12⟩:=Dd T hK hR (st:=Jk) (i:=11) rfl
 have b12:=F12.binds (ps:=["wide", "conditions"]) fun _ _ _ _ _ _ us hl=>by obtain⟨_,_,rfl⟩:=ln2 hl;rfl
 obtain⟨f13,fd13,F13,g13⟩:=Dd T hK hR (st:=K9) (i:=12) rfl
 have b13:=F13.binds (ps:=["_law_script", "_law_k"]) fun _ _ _ _ _ _ us hl=>by obtain⟨_,_,rfl⟩:=ln2 hl;rfl
 obtain⟨f14,fd14,F14,g14⟩:=Dd T hK hR (st:=Xe) (i:=13) rfl
 have b14:=F14.binds (ps:=["_law_script", "_law_k"]) fun _ _ _ _ _ _ us hl=>by obtain⟨_,_,rfl⟩:=ln2 hl;rfl
 obtain⟨f15,fd15,F15,g15⟩:=Dd T hK hR (st:=Ue) (i:=14) rfl
 have b15:=F15.binds (ps:=["_law_box_here", "_law_many_here"]) fun _ _ _ _ _ _ us hl=>by obtain⟨_,_,rfl⟩:=ln2 hl;rfl
 obtain⟨f16,fd16,F16,g16⟩:=Dd T hK hR (st:=S6) (i:=15) rfl
 have b16:=F16.binds (ps:=["_law_box_here", "_law_least", "_law_few", "_law_most"]) fun _ _ _ _ _ _ us hl=>by obtain⟨_,_,_,_,rfl⟩:=ln4 hl;rfl
 obtain⟨f17,fd17,F17,g17⟩:=Dd T hK hR (st:=Qe) (i:=16) rfl
 have b17:=F17.binds (ps:=["_law_box_here", "_law_many_here"]) fun _ _ _ _ _ _ us hl=>by obtain⟨_,_,rfl⟩:=ln2 hl;rfl
 obtain⟨f18,fd18,F18,g18⟩:=Dd T hK hR (st:=Qo) (i:=17) rfl
 have b18:=F18.binds (ps:=["_law_box_here"]) fun _ _ _ _ _ _ us hl=>by obtain⟨_,rfl⟩:=ln1 hl;rfl
 obtain⟨f19,fd19,F19,g19⟩:=Dd T hK hR (st:=Nm) (i:=18) rfl
 have b19:=F19.binds (ps:=["_law_box_here"]) fun _ _ _ _ _ _ us hl=>by obtain⟨_,rfl⟩:=ln1 hl;rfl
 obtain⟨f20,fd20,F20,g20⟩:=Dd T hK hR (st:=T8) (i:=19) rfl
 have b20:=F20.binds (ps:=["_law_box_here", "_law_many_here"]) fun _ _ _ _ _ _ us hl=>by obtain⟨_,_,rfl⟩:=ln2 hl;rfl
 obtain⟨f21,fd21,F21,g21⟩:=Dd T hK hR (st:=Nh) (i:=20) rfl
 have b21:=F21.binds (ps:=["_law_box_here", "_law_wide_here", "_law_many_here"]) fun _ _ _ _ _ _ us hl=>by obtain⟨_,_,_,rfl⟩:=ln3 hl;rfl
 obtain⟨f22,fd22,F22,g22⟩:=Dd T hK hR (st:=Tp) (i:=21) rfl
 have b22:=F22.binds (ps:=["_law_box_here", "_law_numbers"]) fun _ _ _ _ _ _ us hl=>by obtain⟨_,_,rfl⟩:=ln2 hl;rfl
 obtain⟨f23,fd23,F23,g23⟩:=Dd T hK hR (st:=Nv) (i:=22) rfl
 have b23:=F23.binds (ps:=["_law_found", "_law_due_here"]) fun _ _ _ _ _ _ us hl=>by obtain⟨_,_,rfl⟩:=ln2 hl;rfl
 obtain⟨f24,fd24,F24,g24⟩:=Dd T hK hR (st:=Uy) (i:=23) rfl
 have b24:=F24.binds (ps:=["_law_call"]) fun _ _ _ _ _ _ us hl=>by obtain⟨_,rfl⟩:=ln1 hl;rfl
 obtain⟨f25,fd25,F25,g25⟩:=Dd T hK hR (st:=Jc) (i:=24) rfl
 have b25:=F25.binds (ps:=["_law_box_here", "_law_columns"]) fun _ _ _ _ _ _ us hl=>by obtain⟨_,_,rfl⟩:=ln2 hl;rfl
 obtain⟨f26,fd26,F26,g26⟩:=Dd T hK hR (st:=Yl) (i:=25) rfl
 have b26:=F26.binds (ps:=["_law_columns", "_law_conditions"]) fun _ _ _ _ _ _ us hl=>by obtain⟨_,_,rfl⟩:=ln2 hl;rfl
 obtain⟨f27,fd27,F27,g27⟩:=Dd T hK hR (st:=A0p) (i:=26) rfl
 have b27:=F27.binds (ps:=["_law_script"]) fun _ _ _ _ _ _ us hl=>by obtain⟨_,rfl⟩:=ln1 hl;rfl
 have ld_law:fd27.code=.ref yO:=A5a F27 kin (by have z:d27.name = "law" := n27;rw[<- z];exact hc_law) g27
 have zV:=Dp (x := "ValueError") T (De hR) hB (by simp)
 have yP:=Dp (x := "abs") T (De hR) hB (by simp)
 have yD:=Dp (x := "all") T (De hR) hB (by simp)
 have yM:=Dp (x := "any") T (De hR) hB (by simp)
 have yJ:=Dp (x := "bool") T (De hR) hB (by simp)
 have zY:=Dp (x := "enumerate") T (De hR) hB (by simp)
 have zU:=Dp (x := "int") T (De hR) hB (by simp)
 have z7:=Dp (x := "isinstance") T (De hR) hB (by simp)
 have zF:=Dp (x := "len") T (De hR) hB (by simp)
 have zT:=Dp (x := "list") T (De hR) hB (by simp)
 have yN:=Dp (x := "min") T (De hR) hB (by simp)
 have zP:=Dp (x := "range") T (De hR) hB (by simp)
 have zO:=Dp (x := "str") T (De hR) hB (by simp)
 have zB:=Dp (x := "tuple") T (De hR) hB (by simp)
 have zQ:=Dp (x := "zip") T (De hR) hB (by simp)
 have zL:=A7v hX hK (i:=0) (y := "CONDITION_WORDS") (ss:=[Str.ofString "is",Str.ofString "not",Str.ofString "below",Str.ofString "above"]) rfl;obtain⟨qR,qT,k_ValueError,qF⟩:=A6p hF kin T.g hK;have r_BadWay:ClR K mg "BadWay" := qR 0 _ rfl;have k_BadColumns:ClT K mg [("NoColumn",false),("BadWay",false)] "BadColumns" := qT 0 _ rfl;have k_BadOrder:ClT K mg [("NoColumn",false),("BadWay",false)] "BadOrder" := qT 1 _ rfl;have k_BadRow:ClT K mg [("NoColumn",false),("BadWay",false)] "BadRow" := qT 2 _ rfl;have k_BadWay:ClT K mg [("NoColumn",false),("BadWay",true)] "BadWay" := qT 3 _ rfl;have k_Double:ClT K mg [("NoColumn",false),("BadWay",false)] "Double" := qT 4 _ rfl;have k_NoColumn:ClT K mg [("NoColumn",true),("BadWay",false)] "NoColumn" := qT 5 _ rfl;have k_NoHead:ClT K mg [("NoColumn",false),("BadWay",false)] "NoHead" := qT 6 _ rfl;have k_NoNumber:ClT K mg [("NoColumn",false),("BadWay",false)] "NoNumber" := qT 7 _ rfl;have k_NoPart:ClT K mg [("NoColumn",false),("BadWay",false)] "NoPart" := qT 8 _ rfl;have k_NoRow:ClT K mg [("NoColumn",false),("BadWay",false)] "NoRow" := qT 9 _ rfl;obtain⟨qJ,qY⟩:=A9b hI kin T.g hK
 have i_NoColumn:ClI K mg ⟨"NoColumn.__init__", "FoldError", "name", "name", "no column ", ""⟩ "NoColumn" := qJ 0 _ rfl (Ao5 fun _ _ _ _ _ _ _ _ _ _ _ _ _ _ _ _ _ _ _=>rfl)
 have h_FoldError:ClF K mg ["NoColumn", "BadWay"] "FoldError" := let ⟨g,a,b,_⟩:=qY 0 _ rfl; ⟨g,a,b⟩
 have e:=hfa.symm.trans g27
 cases e
 refine⟨K,fd27,kin,tab,A5e F27 (fun kV dc pm an cd ct s v=>.of_eq rfl),fun base _ _=>?_⟩
 have D_rank:Def l.prog w K mg base "rank" 2 ["value"] (spP K (Hn 2)):=mkD (Zh F1 b1 g1 zU z7 zO zB 2) b1 F1.kp g1;have D_stands_ahead:=mkD (Ru (P:=l.prog) (w:=w) (mg:=mg) (base:=base) F2 D_rank) b2 F2.kp g2;have D_place_of:=mkX (Aa2 (P:=l.prog) (w:=w) (mg:=mg) (base:=base) F3 i_NoColumn) b3 F3.kp g3;have D_places_of:=mkX (Wq (P:=l.prog) (w:=w) (mg:=mg) (base:=base) F4 D_place_of) b4 F4.kp g4;have D_cells_along:=mkD (U5 (P:=l.prog) (w:=w) (mg:=mg) (base:=base) F5 zQ) b5 F5.kp g5;have D_unfolded:=mkD (Ab8 (P:=l.prog) (w:=w) (mg:=mg) (base:=base) F6 D_cells_along zB) b6 F6.kp g6;have D_columns_of:=mkD (Vk (P:=l.prog) (w:=w) (mg:=mg) (base:=base) F7 ) b7 F7.kp g7;have D_check_words:=mkX (Uw (P:=l.prog) (w:=w) (mg:=mg) (base:=base) F8 zL r_BadWay) b8 F8.kp g8;have D_holds:=mkD (A5q (P:=l.prog) (w:=w) (mg:=mg) (base:=base) F9 D_stands_ahead) b9 F9.kp g9;have D_all_hold:=mkD (Zj (P:=l.prog) (w:=w) (mg:=mg) (base:=base) F10 D_holds yD zQ) b10 F10.kp g10;have D_rows_where:=mkX (Vb (P:=l.prog) (w:=w) (mg:=mg) (base:=base) F11 D_places_of D_columns_of D_check_words D_all_hold zY) b11 F11.kp g11;have D_cells_where:=mkX (T7 (P:=l.prog) (w:=w) (mg:=mg) (base:=base) F12 D_cells_along D_unfolded D_rows_where) b12 F12.kp g12;have D_l_cell_at:=mkD (Xv (P:=l.prog) (w:=w) (mg:=mg) (base:=base) F13 zF) b13 F13.kp g13;have D_l_box:=mkD (A4q (P:=l.prog) (w:=w) (mg:=mg) (base:=base) F14 D_l_cell_at yP zU) b14 F14.kp g14;have D_l_take:=mkD (Ay1 (P:=l.prog) (w:=w) (mg:=mg) (base:=base) F15 ) b15 F15.kp g15;have D_l_many:=mkD (Ax2 (P:=l.prog) (w:=w) (mg:=mg) (base:=base) F16 D_l_take) b16 F16.kp g16;have D_l_names:=mkD (Ai2 (P:=l.prog) (w:=w) (mg:=mg) (base:=base) F17 D_l_take zF zP) b17 F17.kp g17;have D_l_value:=mkD (Ae2 (P:=l.prog) (w:=w) (mg:=mg) (base:=base) F18 D_l_take) b18 F18.kp g18;have D_l_number:=mkD (Ab5 (P:=l.prog) (w:=w) (mg:=mg) (base:=base) F19 D_l_take) b19 F19.kp g19;have D_l_pool:=mkD (Ax1 (P:=l.prog) (w:=w) (mg:=mg) (base:=base) F20 D_l_value zP) b20 F20.kp g20;have D_l_tuples:=mkD (Y9 (P:=l.prog) (w:=w) (mg:=mg) (base:=base) F21 D_l_take D_l_pool zF zP zB) b21 F21.kp g21;have D_l_wide:=mkD (Ax8 (P:=l.prog) (w:=w) (mg:=mg) (base:=base) F22 D_l_take D_l_many D_l_names D_l_value D_l_number D_l_tuples zB) b22 F22.kp g22;have D_l_same:Def l.prog w K mg base "_law_same" 8 ["_law_found", "_law_due_here"] (spP K (Ck 8)):=mkD (Sv F23 b23 g23 yD yJ zU z7 zF zT zO zB zQ 8) b23 F23.kp g23;have D_l_told:=Ar9 (P:=l.prog) (w:=w) (mg:=mg) (base:=base) F24 b24 g24 zV z7 zF k_BadColumns k_BadOrder k_BadRow k_BadWay k_Double k_NoColumn k_NoHead k_NoNumber k_NoPart k_NoRow k_ValueError i_NoColumn h_FoldError;have D_l_condition:=mkD (U3 (P:=l.prog) (w:=w) (mg:=mg) (base:=base) F25 D_l_take D_l_value zF) b25 F25.kp g25;have D_l_due:=mkD (A1i (P:=l.prog) (w:=w) (mg:=mg) (base:=base) F26 yM) b26 F26.kp g26
 exact(Bg8 F27 lt_law lc_law ld_law D_unfolded D_rows_where D_cells_where D_l_box D_l_take D_l_wide D_l_same D_l_told D_l_condition D_l_due z7 zF zT yN zP zO).imp fun vs H Q E h=>Bd9 hlaw h
theorem walk {l:PySem.W.OpenLaw}{q:Program}{loose:List Str}{XP:(Str->Option Value)->Heap->Prop}{YP:World->Heap->Prop}{d:DefRec}(hn:l.most=some 63)(hdf:d.params.defaults=[])
 (F:∀(w:World) (mean:ExcName->Option Value) (mg mb:Str->Option Value) (fa:Addr) (h:Heap),PyProof.Rows.Top q (PySem.W.looseW q loose) mean mg mb h->XP mg h->mg d.name=some (.ref fa) ->
  ∃(K:PySem.W.Frag) (fd:FuncData),K.In h/\TabAt K h/\(∀(s:Shared) (u:Value),BindsTo s fd ⟨[u],[]⟩ [("_law_script",u)])/\∀base:Heap,K.In base->base.Ns mainGlobals mg->FnOk l.prog w K mg base CX0 11 fa fd ["_law_script"] (Ap1 K)) :
 PySem.W.WalkO q loose XP YP l.row.toRowW d [] (fun f vs=>PySem.call f vs) :=
 L2.walk_ofX (n:=63) (k:=11) (x := "_law_script") (sp:=Ap1) hn (by decide) hdf ⟨rfl,by decide,by decide,rfl⟩ F fun _ _ a ns hl hS=>⟨a,ns,rfl,hS,hl,fun _=>rfl⟩
end K
open PySem PySem.W PyProof.Rows
set_option maxHeartbeats 0
namespace K
def dOf:Stmt->DefRec
 | .FunctionDef _ a b _ _ _ s _ _ p=>⟨"law",a,b,s,p⟩
 | _=>⟨"law",⟨[],[],none,[],[],none,[]⟩,[],default,default⟩
def dL:DefRec:=⟨"law",(dOf (top 44)).params,(dOf (top 44)).body,(dOf (top 44)).scope,(dOf (top 44)).pos⟩
theorem Br6:rwT.wellSaid=true:=by kernel_rfl
theorem Bx0:defOf qT rwT.row.name=some (dL,[]):=by kernel_rfl
theorem Bw6:rwT.row.prog.theDef rwT.row.name=some (dL.params,dL.body,dL.scope):=by trivial
theorem kwT:kwWritten? dL.params.kwonlyargs dL.params.kw_defaults=some []:=by trivial
theorem okT:(chainsOk qT&&opensWell rwT.row.prog&&(frees rwT.row.toRowW&&rwT.row.within.isEmpty))=true:=by trivial
theorem dfT:dL.params.defaults=[]:=by rfl
theorem Bu2:rwT.row.prog.bare:=⟨rfl,rfl,rfl,rfl,rfl,by decide +kernel⟩
theorem Bt2:rwT.row.toRowW.promised:=by w_witness2
end K
theorem PySem.Challenge.cw_pivotfold_k44_conditions_refused_holds : PySem.Challenge.rw_pivotfold_k44_conditions_refused.Holds := by
 refine holds_law K.Br6 fun said=>?_
 refine holds_open (q:=K.qT) (loose:=["CONDITION_WORDS"]) (Xt:=K.xtT) (XP:=(fun mg h=>L2.Aw8 K.tcT mg h/\L2.As7 K.xcR K.xcT K.xcV K.xcF h/\L2.Au8 K.xcJ K.xcY h)) (Yf:=Hook.none.obs) (Ya:=Hook.none.val) (YP:=Hook.none.says) (N:=20000) K.Bs5 Hook.none.of Hook.none.keeps (fun s e=>⟨L2.Br7 (Bool.and_eq_true_iff.mp (Bool.and_eq_true_iff.mp (Bool.and_eq_true_iff.mp e).1).1).2,L2.Bq9 (Bool.and_eq_true_iff.mp (Bool.and_eq_true_iff.mp e).1).2,L2.Bt1 (Bool.and_eq_true_iff.mp e).2⟩) (fun mg h h' x hk=>⟨L2.A3p mg h h' x.1 hk,L2.Az7 x.2.1 hk,L2.A2r x.2.2 hk⟩) K.Bx0 K.Bw6 K.kwT (fun s e=>recFacts_of (Bool.and_eq_true_iff.mp (Bool.and_eq_true_iff.mp (Bool.and_eq_true_iff.mp (Bool.and_eq_true_iff.mp e).1).1).1).2) rfl said K.okT K.Bu2 K.Bt2 ?_
 refine K.walk (l:=PySem.Challenge.rw_pivotfold_k44_conditions_refused) rfl K.dfT ?F
 case F =>
  intro w mean mg mb fa h T X hmg
  refine K.Bb7 T hmg K.A1m ?R ?B X.1 X.2.1 X.2.2
  (case R=>kernel_rfl); (case B=>kernel_rfl)
end
